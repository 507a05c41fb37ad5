import PyProof.Rows.All
import Wide.All
import OpenK.AllK
import Wide.FinOn
import Lean
import PyProof.EqAt
import PyProof.EqKinds
import PyProof.TupleCall
import KE.KDictLaws
import PyProof.IsiH_list
import PyProof.IsiH_tuple
import PyProof.CodeObj
import PyProof.DictItems
import PyProof.WalksMore
import KE.KDictOf
import PyProof.ZipIter
import PySem.Str
import PyProof.ListMulRoad
import PyProof.EnumMake
import PyProof.SetScanFacts
import PyProof.SetKind
import PyProof.DictFindH
import PyProof.IsRules
import PyProof.Rows.SetFrom
import PyProof.SetRoads
import PyProof.CollectWalk
import PyProof.FactsAll.tuple_iterator
import PyProof.Rows.SortShell
import KE.KSortAsk
import KE.KSortTup
import PyProof.Rows.StrSplitMax
import PyProof.Rows.SortStr
import KE.KItemsList
import PyProof.DictWalks
import PyProof.FString5
import KE.KDictSum
import PyProof.DictRoadsH
import PyProof.Rows.TupTab
import KE.KDictList
import PyProof.StationsW
import PyProof.ExcClass3
import PyProof.NsDelKeeps
import KE.KIsAll
import PyProof.ExcArgsOwn
import PyProof.ExcAttrAll.ValueError
import OpenK.KOwn
import PyProof.CallStr
import PyProof.DictTruth
import PyProof.FactsAll.zip_1
import KE.KMinBuiltin
import KE.KRevIter
import PySem.Challenge.RW_rulehall_k24_covering_rules
abbrev Kf:=PySem.Value->PySem.Shared->Prop
abbrev Ke:=List (PySem.Addr×PySem.Obj)
abbrev Q0:=@PySem.wpAny_bind
abbrev Q1:=@PySem.Heap.get?_push_of_some
abbrev Q2:=@List.length_map
abbrev Q3:=@PySem.wpAny_pure
abbrev Q4:=@List.getElem?_eq_some_iff
abbrev Q5:=@Nat.le_refl
abbrev Q6:=@List.mem_map
abbrev Q7:=@List.mem_cons_of_mem
abbrev Q8:=@List.mem_cons_self
abbrev Q9:=@List.mem_of_getElem?
abbrev Qa:=@List.getD_eq_getElem?_getD
abbrev Qb:=@List.mem_cons
abbrev Qc:=@List.getElem?_eq_getElem
abbrev Qd:=@PySem.Heap.get?_push_size
abbrev Qe:=@List.getElem?_map
abbrev Qg:=@if_neg
abbrev Qh:=@List.getElem?_set_ne
abbrev Qi:=@PySem.Heap.lt_size
abbrev Qj:=@if_pos
abbrev Qk:=@List.map_cons
abbrev Ql:=@List.size_toArray
abbrev Qm:=@List.getElem?_set_self
abbrev Qn:=@Bool.false_ne_true
abbrev Qp:=@Nat.ne_of_lt
abbrev Qq:=@List.length_cons
abbrev Qr:=@Nat.lt_of_lt_of_le
abbrev Qs:=@List.length_append
abbrev Qu:=@Nat.le_trans
abbrev Qv:=@Bool.and_eq_true
abbrev Qw:=@Array.getElem?_toList
abbrev Qx:=@List.map_map
abbrev Qy:=@List.mem_append
abbrev Qz:=@Nat.zero_le
abbrev QA:=@List.length_take
abbrev QB:=@decide_eq_true_eq
abbrev QC:=@List.mem_append_right
abbrev QD:=@Or.inr
abbrev QE:=@True.intro
abbrev QF:=@List.map_append
abbrev QG:=@Bool.false_eq_true
abbrev QI:=@PySem.PassesOwn.never
abbrev QJ:=@Or.inl
abbrev QK:=@List.take_length
abbrev QM:=@decide_eq_false
abbrev QN:=@PySem.Heap.SameBut.update
abbrev QP:=@List.idxOf_lt_length_of_mem
abbrev QQ:=@List.mem_singleton
abbrev QS:=@Ne.symm
abbrev QT:=@List.not_mem_nil
abbrev QU:=@List.getElem?_append_left
abbrev QV:=@List.map_congr_left
abbrev QW:=@PySem.Heap.get?_update_self
abbrev QX:=@List.take_add_one
abbrev QY:=@List.foldl_cons
abbrev QZ:=@Function.comp_def
abbrev J0:=@PySem.wpAny_call_entry
abbrev J1:=@List.mem_iff_getElem?
abbrev J3:=@PySem.wpAny_callSpecial?_slot
abbrev J4:=@Option.some.inj
abbrev J5:=@List.nodup_cons
abbrev Ja:=@PySem.wpAny_newObj_type
abbrev Jb:=@PySem.sizeLine_eq
abbrev Jd:=@Bool.eq_iff_iff
abbrev Je:=@List.mem_range
abbrev Jg:=@PySem.wpAny_seqItems
abbrev Jh:=@PySem.wpAny_mono
abbrev Ji:=@List.mem_append_left
abbrev Jj:=@PySem.wpAny_field
abbrev Jl:=@PySem.wpAny_setField_rec
abbrev Jm:=@beq_eq_false_iff_ne
abbrev Jn:=@List.getElem?_eq_none
abbrev Jo:=@PyProof.Rows.callWith_type1
abbrev Jq:=@List.getElem?_append_right
abbrev Jt:=@List.getElem?_zip_eq_some
abbrev Ju:=@PySem.Heap.size_push
abbrev Jx:=@List.nodup_append
abbrev Jy:=@Int.toNat_natCast
abbrev Jz:=@decide_eq_true
abbrev JA:=@List.nodup_nil
abbrev JG:=@List.zip_cons_cons
abbrev JH:=@PySem.wpAny_holding
abbrev JI:=@if_false
abbrev JJ:=@Nat.lt_succ_self
abbrev JK:=@Nat.lt_irrefl
abbrev JN:=@PySem.F.plain_min_loop
abbrev JO:=@List.ext_getElem?
abbrev JP:=@PySem.Around.under_plainId
abbrev JQ:=@List.filterMap_cons
abbrev JS:=@List.append_nil
abbrev JV:=@PySem.wpAny_setState_of
abbrev JW:=@or_false
abbrev JX:=@List.length_drop
abbrev W0:=@Option.isSome_iff_exists
abbrev W1:=@Nat.ne_of_gt
abbrev W2:=@List.mem_of_mem_take
abbrev W6:=@PySem.F.slot_dict_valueiterator_next
abbrev Wa:=@List.length_range
abbrev Wb:=@PySem.F.slot_dict_setdefault
abbrev Wc:=@List.mem_filter
abbrev Wf:=@PySem.mem_of_lookup
abbrev Wm:=@Bool.and_self
abbrev Wn:=@PySem.codeAny_builtin
abbrev Wo:=@List.all_eq_true
abbrev Wp:=@List.pairwise_cons
abbrev Wq:=@List.getElem_idxOf
abbrev Wt:=@if_true
abbrev Wu:=@List.length_singleton
abbrev Wv:=@List.length_filter_le
abbrev Ww:=@PySem.Heap.get?_update_other
abbrev Wy:=@PySem.plainId_quiet
abbrev WA:=@List.length_zip
abbrev WC:=@PySem.wpAny_Call_Name_kw
abbrev WD:=@of_decide_eq_true
abbrev WE:=@congrArg
abbrev WF:=@List.foldl_append
abbrev WL:=@PySem.wpAny_updateSeq
abbrev WO:=@PySem.wpAny_truthy_bool
abbrev WP:=@PySem.lookup_relabel_local
abbrev WQ:=@Nat.le_add_right
abbrev WR:=@List.getElem_mem
abbrev WS:=@List.filter_cons
abbrev WV:=@Nat.le_succ
abbrev WZ:=@beq_iff_eq
abbrev Z0:=@List.mem_filterMap
abbrev Z1:=@List.map_nil
abbrev Z3:=@PySem.wpAny_isInstance
abbrev Z4:=@List.of_mem_zip
abbrev Z5:=@PySem.F.slot_dict_get
abbrev Ze:=@PySem.wpAny_typeNameOfWhole_valiter
abbrev Zf:=@PySem.Obj.data_mapFields
abbrev Zg:=@PySem.Calls.callWith_builtin
abbrev Zi:=@PySem.wpAny_specialOf
abbrev Zj:=@Nat.pow_le_pow_right
abbrev Zk:=@List.getElem?_modify
abbrev Zu:=@PySem.wpAny_attempt
abbrev Zw:=@List.mem_flatMap
abbrev Zx:=@List.any_eq_true
abbrev ZB:=@Array.getElem?_eq_getElem
abbrev ZC:=@PyProof.Rows.F.plain_set_update_loop
abbrev ZD:=@List.length_pos_iff
abbrev ZS:=@PySem.wpAny_rule
abbrev ZT:=@PySem.wpAny_letGo
abbrev ZU:=@List.filterMap_cons_some
abbrev ZV:=@List.any_cons
abbrev ZW:=@PySem.F.slot_tuple_iterator_next
abbrev ZZ:=@List.forIn_cons
abbrev Y0:=@List.find?_cons
abbrev Y2:=@of_decide_eq_false
abbrev Y3:=@Nat.lt_of_le_of_lt
abbrev Y4:=@PySem.F.called_set
abbrev Ye:=@PySem.F.plainAttrs_list
abbrev Yf:=@PySem.F.plainAttrs_dict
abbrev Yg:=@List.getElem?_replicate
abbrev Yp:=@PySem.wpAny_typeNameOf_valiter
abbrev Yq:=@PySem.wpAny_comprehension_free
abbrev Yr:=@Option.map_eq_some_iff
abbrev Ys:=@List.take_of_length_le
abbrev Yt:=@List.lt_irrefl
abbrev Yw:=@PySem.wpAny_pyIter_tuple
abbrev YM:=@Nat.le_of_not_lt
abbrev YN:=@List.lookup_cons
abbrev Ub:=@PySem.wpAny_tryCatch
abbrev Uc:=@List.mem_of_mem_drop
abbrev Ud:=@List.mem_iff_getElem
abbrev Uf:=@PySem.F.type_dict_setdefault
abbrev UH:=@PySem.builtinLookup_eq_fast
abbrev UI:=@Ordering.then_eq_eq
abbrev UJ:=@PySem.F.slot_enumerate_next
abbrev UK:=@Array.length_toList
abbrev Gc:=@List.forIn_nil
abbrev Gd:=@PySem.Heap.get?_none_of_le
abbrev Ge:=@Array.perm_iff_toList_perm
abbrev Gu:=@PySem.wpAny_passesOwn
abbrev Gw:=@List.pairwise_iff_getElem
abbrev Gx:=@List.getElem?_eq_none_iff
abbrev Gy:=@Classical.byContradiction
abbrev Bj:=@List.reverse_cons
abbrev Bk:=@List.idxOf_append
abbrev Bl:=@List.flatMap_cons
abbrev Bm:=@List.append_assoc
abbrev Bn:=@PySem.codeAny_mono
abbrev Bo:=@PySem.call_meetsIn
abbrev Bp:=@PySem.W.KasT.kasWp_bind
abbrev Bq:=@Bool.true_and
abbrev O6:=@PySem.wpAny_setField
abbrev O7:=@PySem.isSubtype_type
abbrev O8:=@PySem.F.args_dict_get_3
abbrev O9:=@List.mem_nil_iff
abbrev Oa:=@PySem.Calls.spliced_cons
abbrev OH:=@PySem.F.entry_min_loop
abbrev OI:=@PySem.F.entry_dict_get
abbrev OJ:=@Array.toList_filterMap
abbrev Qb7:=@PySem.wpAny_pyIter_list
abbrev Qb8:=@PySem.wpAny_pyIter_enum
abbrev Qb9:=@PySem.wpAny_dictEntries
abbrev Qba:=@PySem.wpAny_assign_Name
abbrev Qbb:=@Nat.not_lt_zero
abbrev Qbc:=@List.zip_append
abbrev Qbd:=@List.length_nil
abbrev Qbe:=@PySem.F.slot_tuple_hash
abbrev Qbf:=@PySem.filterMap_getElem?_range
abbrev Qbg:=@List.take_append_drop
abbrev Qd6:=@PySem.wpAny_askSetting
abbrev Qd7:=@List.map_eq_cons_iff
abbrev Qew:=@PyProof.Rows.F.entry_set_update_loop
abbrev Qh6:=@PySem.typeLookup_type
abbrev Qh7:=@PySem.SeqAt.EqAt.same
abbrev Qh8:=@List.lt_trans
abbrev Qh9:=@PySem.F.slot_zip_next
abbrev Qha:=@Bool.not_true
abbrev Qhb:=@Bool.false_or
abbrev Qhc:=@PySem.wpAny_isOneOf_valiter
abbrev Qhd:=@Option.toList_none
abbrev Qhe:=@PySem.Obj.isFreed_of_fields
abbrev Qhf:=@Nat.mod_lt
abbrev Qhg:=@Nat.lt_or_eq_of_le
abbrev Qhh:=@List.filter_append
abbrev Qhi:=@Int.emod_lt_of_pos
abbrev Qle:=@PySem.wpAny_updateSeq_pair
abbrev Qlf:=@PySem.wpAny_of_eq
abbrev Qlg:=@PySem.wpAny_newTuple
abbrev Qlh:=@PySem.isSubtype_stop
abbrev Qli:=@Nat.lt_trichotomy
abbrev Qlj:=@Nat.le_succ_of_le
abbrev Qlk:=@Nat.le_of_lt
abbrev Qll:=@List.pairwise_map
abbrev Qlm:=@List.Pairwise.nil
abbrev Qln:=@PySem.Calls.evalArgs_plain
abbrev Qlo:=@Array.toList_push
abbrev Qnn:=@PySem.F.args_dict_setdefault_3
abbrev Qno:=@List.nodup_range
abbrev Qnp:=@List.mem_reverse
abbrev Qnq:=@List.getElem_inj
abbrev Qsm:=@PySem.wpAny_onRaise
abbrev Qsn:=@PySem.F.entry_dict_setdefault
abbrev Qso:=@PySem.Paired.length
abbrev Qsp:=@List.map_id
abbrev Qsq:=@PySem.tupleKind_room_in1
abbrev Qsr:=@PySem.strKind_is
abbrev Qss:=@PyProof.Rows.get?_update_seq
abbrev Qst:=@PySem.SeqAt.EqAt.str_int
abbrev Qsu:=@PySem.SeqAt.EqAt.of_refs
abbrev Qsv:=@PySem.SeqAt.EqAt.int_str
abbrev Qsw:=@List.cons.injEq
abbrev Qsx:=@Int.emod_nonneg
abbrev Qvk:=@Array.getD_eq_getD_getElem?
abbrev Qwc:=@PySem.wpAny_pyIter_slot
abbrev Qwd:=@PySem.Obj.cls_mapFields
abbrev Qwe:=@Nat.mul_le_mul
abbrev Qwf:=@List.length_eraseIdx_of_lt
abbrev Qwg:=@List.Perm.swap
abbrev Qwh:=@PySem.Heap.get?_push_ne
abbrev Qwi:=@PySem.Heap.SameBut.refl
abbrev Qwj:=@PySem.F.args_dict_valueiterator_next_1
abbrev Qwk:=@PySem.Calls.spliced_nil
abbrev Qwl:=@Bool.false_and
abbrev Qwm:=@Array.getElem?_eq_some_iff
set_option Elab.async false
set_option linter.all false
set_option maxRecDepth 100000
namespace L2
open PySem PySem.Spec PyProof.Rows
abbrev Key:=Sum Int Str
def Qcg:Key->Value->Bool
 | .inl k,v=>Value.isInt k v
 | .inr x,v=>Value.isStrOf x v
def Qye (w:World):Key->Int
 | .inl k=>hashInt k
 | .inr x=>hashStr w x
theorem W9: ∀ {k:Key} {v:Value},Qcg k v=true->(∃ i t,k=Sum.inl i/\v=Value.int i t) \/ (∃ x t,k=Sum.inr x/\v=Value.str x t)
 | .inl i,v,h=>by
  obtain ⟨t,e⟩:=Value.isInt_shape (k:=i) (v:=v) h;exact .inl ⟨i,t,rfl,e⟩
 | .inr x,v,h=>by
  obtain ⟨t,e⟩:=Value.isStrOf_shape (x:=x) (v:=v) h;exact .inr ⟨x,t,rfl,e⟩
theorem Qmt (i:Int) (t:Tok):Qcg (.inl i) (.int i t)=true:=by simp [Qcg,Value.isInt]
theorem Qms (x:Str) (t:Tok):Qcg (.inr x) (.str x t)=true:=by simp [Qcg,Value.isStrOf]
theorem Qyd (a b:Int):decide ((Sum.inl a:Key)=Sum.inl b)=(a == b):=by
 by_cases e:a=b
 ·subst e;simp
 ·have h: ¬ (Sum.inl a:Key)=Sum.inl b:=λq=>e (Sum.inl.inj q)
  rw [QM h];exact (Jm.mpr e).symm
theorem Qya (a b:Str):decide ((Sum.inr a:Key)=Sum.inr b)=decide (a=b):=by
 by_cases e:a=b
 ·subst e;simp
 ·have h: ¬ (Sum.inr a:Key)=Sum.inr b:=λq=>e (Sum.inr.inj q)
  rw [QM h,QM e]
theorem Qyc (a:Int) (b:Str):decide ((Sum.inl a:Key)=Sum.inr b)=false:=QM (λq=>nomatch q)
theorem Qyb (a:Str) (b:Int):decide ((Sum.inr a:Key)=Sum.inl b)=false:=QM (λq=>nomatch q)
def JF (prog:Program) (w:World):PySem.KeyKind prog w Key where
 is:=Qcg
 hash:=Qye w
 inj:=λv a b ha hb=>by
  rcases W9 ha with ⟨i,t,rfl,rfl⟩ | ⟨x,t,rfl,rfl⟩
  ·rcases W9 hb with ⟨j,u,rfl,e⟩ | ⟨y,u,rfl,e⟩
   ·injection e with e1 _;rw [e1]
   ·exact nomatch e
  ·rcases W9 hb with ⟨j,u,rfl,e⟩ | ⟨y,u,rfl,e⟩
   ·exact nomatch e
   ·injection e with e1 _;rw [e1]
 byValue:=λk v h=>by
  rcases W9 h with ⟨i,t,rfl,rfl⟩ | ⟨x,t,rfl,rfl⟩<;>rfl
 pyHash:=λhv h=>by
  rcases W9 hv with ⟨i,t,rfl,rfl⟩ | ⟨x,t,rfl,rfl⟩
  ·exact wpAny_pyHash_int h
  ·exact wpAny_pyHash_str h
 eqBool:=λhu hv h=>by
  rcases W9 hu with ⟨i,t,rfl,rfl⟩ | ⟨x,t,rfl,rfl⟩
  ·rcases W9 hv with ⟨j,u,rfl,rfl⟩ | ⟨y,u,rfl,rfl⟩
   ·rw [Qyd] at h;exact wpAny_eqBool_int h
   ·rw [Qyc] at h;exact Qsv i t y u _ _ _ _ h
  ·rcases W9 hv with ⟨j,u,rfl,rfl⟩ | ⟨y,u,rfl,rfl⟩
   ·rw [Qyb] at h;exact Qst x t j u _ _ _ _ h
   ·rw [Qya] at h;exact wpAny_eqBool_str h
 «strs» :=λk x t v h=>by
  rcases W9 h with ⟨i,u,rfl,e⟩ | ⟨y,u,rfl,e⟩
  ·exact nomatch e
  ·injection e with e1 _
   subst e1;cases v<;>rfl
theorem BX (prog:Program) (w:World) (i:Int) (t:Tok):(JF prog w).is (.inl i) (.int i t)=true:=Qmt i t
theorem Uu (prog:Program) (w:World) (x:Str) (t:Tok):(JF prog w).is (.inr x) (.str x t)=true:=Qms x t
inductive V where
 | non | bl (b:Bool) | int (i:Int) | str (x:Str) | byt (b:Array UInt8) | flt (b:UInt64) | ref (a:Addr) | ty (n:String)
 deriving DecidableEq
def RelV:V->Value->Prop
 | .non,u=>u=Value.none
 | .bl b,u=>u=Value.bool b
 | .int i,u=> ∃ t,u=Value.int i t
 | .str x,u=> ∃ t,u=Value.str x t
 | .byt b,u=> ∃ t,u=Value.bytes b t
 | .flt b,u=> ∃ t,u=Value.float b t
 | .ref a,u=>u=Value.ref a
 | .ty n,u=>u=Value.type n
abbrev Vals:List V->List Value->Prop:=Paired RelV
theorem Vals.length {xs:List V} {us:List Value} (r:Vals xs us):xs.length=us.length:=Qso r
theorem Vals.get: ∀ {xs:List V} {us:List Value} {i:Nat} {x:V},Vals xs us->xs[i]? =some x-> ∃ u,us[i]? =some u/\RelV x u
 | _,_,_,_,.nil,e=>by simp at e
 | _,_,0,_,.cons r _,e=>by simp at e;subst e;exact ⟨_,rfl,r⟩
 | _,_,i+1,x,.cons _ t,e=>by
  obtain ⟨u,h1,h2⟩:=Vals.get (i:=i) (x:=x) t (by simpa using e);exact ⟨u,by simpa using h1,h2⟩
theorem Vals.set {x:V} {u:Value} (r:RelV x u): ∀ {xs:List V} {us:List Value} (i:Nat),Vals xs us->Vals (xs.set i x) (us.set i u)
 | _,_,_,.nil=> .nil
 | _,_,0,.cons _ t=> .cons r t
 | _,_,i+1,.cons q t=> .cons q (Vals.set r i t)
theorem Vals.append: ∀ {xs ys:List V} {us ws:List Value},Vals xs us->Vals ys ws->Vals (xs++ys) (us++ws)
 | _,_,_,_,.nil,s=>s
 | _,_,_,_,.cons r t,s=> .cons r (Vals.append t s)
theorem Vals.take: ∀ {xs:List V} {us:List Value} (n:Nat),Vals xs us->Vals (xs.take n) (us.take n)
 | _,_,0,_=> .nil
 | _,_,_+1,.nil=> .nil
 | _,_,n+1,.cons r t=> .cons r (Vals.take n t)
theorem Vals.drop: ∀ {xs:List V} {us:List Value} (n:Nat),Vals xs us->Vals (xs.drop n) (us.drop n)
 | _,_,0,r=>r
 | _,_,_+1,.nil=> .nil
 | _,_,n+1,.cons _ t=>Vals.drop n t
def RelO:Option V->Option Value->Prop
 | some v,some u=>RelV v u
 | none,none=>True
 | _,_=>False
def KV {κ:Type}:List (κ×V)->List (κ×Value)->Prop:=Paired λ(p:κ×V) (q:κ×Value)=>p.1=q.1/\RelV p.2 q.2
def kV:Key->V
 | .inl i=> .int i
 | .inr x=> .str x
inductive HO where
 | lst (xs:List V)
 | tup (xs:List V)
 | dK (Ku:List (Key×V)) | dT (Ku:List (List Key×V))
 | set (S:Int->Bool) (n:Nat)
 | ins (C dx:Addr) (fs:List (Str×V))
 | own (x:Addr)
 | xd (fs:List (Str×V))
 | met (f x:Addr)
 | rng (lo hi:Int)
 | frz (o:Obj) (u:HO)
 | tbl (ps:Array Value)
 | ext (φ:Heap->Prop)
abbrev Hp:=Addr->Option HO
def upd (H:Hp) (a:Addr) (o:HO):Hp:=λb=>if b=a then some o else H b
theorem Vu {H:Hp} {a:Addr} {o:HO}:upd H a o a=some o:=by unfold upd;rw [Qj rfl]
theorem Qo {H:Hp} {a b:Addr} {o:HO} (h:b≠a):upd H a o b=H b:=by unfold upd;rw [Qg h]
theorem Qt2 {H:Hp} {a:Addr} {o u:HO}:upd (upd H a o) a u=upd H a u:=by
 funext b;unfold upd;split<;>rfl
theorem Yl {H:Hp} {a b:Addr} {o u:HO} (h:H a=some o) (h':H b=some u) (d:o≠u):a≠b:=by
 intro e;subst e;rw [h] at h';exact d (J4 h')
theorem QH {H:Hp} {a b:Addr} {o:HO} (h:H a=some o) (h':H b=none):a≠b:=by
 intro e;subst e;rw [h] at h';cases h'
section
variable (P:Program) (w:World)
def ObjOk (H:Hp) (h:Heap) (a:Addr):HO->Prop
 | .lst xs=>xs.length<=sizeLine/\ ∃ (Kv:List Value) (n:Nat),Vals xs Kv/\h.get? a=some { cls:= .type "list",data:= .seq Kv.toArray n }
 | .tup xs=>xs.length<=sizeLine/\ ∃ Kv:List Value,Vals xs Kv/\IsTup h a Kv.toArray
 | .dK Ku=>Ku.length<=sizeLine/\(a == sysModules)=false/\ ∃ vs,KV Ku vs/\h.DictOf (JF P w) a vs
 | .dT Ku=>Ku.length<=sizeLine/\(a == sysModules)=false/\ ∃ xs:List (List Key×Addr×Value),
   Paired (λ(p:List Key×V) (q:List Key×Addr×Value)=>p.1=q.1/\H q.2.1=some (.tup (p.1.map kV))/\RelV p.2 q.2.2) Ku xs /\
   ∃ o es ep,h.get? a=some o/\o.ExactDict/\o.data= .dict es ep/\es.toList=xs.map (entryOfKey (tupleKind (JF P w)))/\(xs.map (·.1)).Nodup
 | .set S n=>h.SetOf (intKind P w) a S n
 | .ins C dx fs=>H dx=some (.own a)/\fs.length<=1000/\dx≠a/\h.get? a=some (W.instObj C dx) /\
   ∃ mA,h.Ns1 dx mA/\(∀ f,RelO (fs.lookup f) (mA f))/\PySem.Within mA (fs.map (·.1))
 | .own _=> ∃ o,h.get? a=some o
 | .xd fs=> ∃ mA,h.Ns1 a mA/\ ∀ f,RelO (fs.lookup f) (mA f)
 | .rng lo hi=> ∃ t u v,h.get? a=some { cls:= .type "range",data:= .fields #[.int lo t,.int hi u,.int 1 v] }
 | .frz o u=>h.get? a=some o/\ObjOk H h a u
 | .tbl ps=>h.get? a=some { cls:= .none,data:= .fields ps }
 | .met f x=>h.get? a=some (W.methodObj (.ref f) (.ref x))
 | .ext φ=>φ h/\(∃ o,h.get? a=some o)/\ ∀ h1 h2:Heap,φ h1->(∀ o,h1.get? a=some o->h2.get? a=some o)->φ h2
def HOk (H:Hp) (h:Heap):Prop:= ∀ a o,H a=some o->ObjOk P w H h a o
end
section
variable {P:Program} {w:World} {H H':Hp} {h h':Heap} {a:Addr} {o:HO}
theorem ObjOk.lt (x:ObjOk P w H h a o):a < h.objs.size:=by
 cases o with
 | lst xs=>obtain ⟨_,_,_,_,e⟩:=x;exact Qi e
 | tup xs=>obtain ⟨_,_,_,p⟩:=x;exact p.lt
 | dK Ku=>obtain ⟨_,_,_,_,o,_,_,e,_⟩:=x;exact Qi e
 | dT Ku=>obtain ⟨_,_,_,_,o,_,_,e,_⟩:=x;exact Qi e
 | set S n=>obtain ⟨o,_,_,_,e,_⟩:=x;exact Qi e
 | ins C dx fs=>obtain ⟨_,_,_,e,_⟩:=x;exact Qi e
 | own y=>obtain ⟨_,e⟩:=x;exact Qi e
 | xd fs=>obtain ⟨_,⟨_,_,_,e,_⟩,_⟩:=x;exact Qi e
 | rng lo hi=>obtain ⟨_,_,_,e⟩:=x;exact Qi e
 | frz ob u=>obtain ⟨e,_⟩:=x;exact Qi e
 | tbl ps=>exact Qi (show h.get? a=some _ from x)
 | met f y=>exact Qi (show h.get? a=some _ from x)
 | ext φ=>obtain ⟨_,⟨_,e⟩,_⟩:=x;exact Qi e
theorem Paired.mapP {α β:Type} {F G:α->β->Prop}: ∀ {l₁:List α} {l₂:List β},Paired F l₁ l₂->(∀ a b,F a b->G a b)->Paired G l₁ l₂
 | _,_,.nil,_=> .nil
 | _,_,.cons r t,f=> .cons (f _ _ r) (Paired.mapP t f)
theorem ObjOk.stay (x:ObjOk P w H h a o) (k: ∀ b u,(b=a \/ H b=some (.own a))->h.get? b=some u->h'.get? b=some u)
  (ho: ∀ b,H b=some (.own a)->H' b=some (.own a)) (ht: ∀ b xs,H b=some (.tup xs)->H' b=some (.tup xs)):ObjOk P w H' h' a o:=by
 induction o with
 | lst xs=>obtain ⟨z,Kv,n,r,e⟩:=x;exact ⟨z,Kv,n,r,k _ _ (.inl rfl) e⟩
 | tup xs=>obtain ⟨z,Kv,r,ob,e,c⟩:=x;exact ⟨z,Kv,r,ob,k _ _ (.inl rfl) e,c⟩
 | dK Ku=>obtain ⟨z,y,vs,r,ob,es,ep,e,c⟩:=x;exact ⟨z,y,vs,r,ob,es,ep,k _ _ (.inl rfl) e,c⟩
 | dT Ku =>
  obtain ⟨z,y,xs,r,ob,es,ep,e,c⟩:=x;exact ⟨z,y,xs,Paired.mapP r λp q z=>⟨z.1,ht _ _ z.2.1,z.2.2⟩,ob,es,ep,k _ _ (.inl rfl) e,c⟩
 | set S n=>obtain ⟨ob,es,ep,t,e,c⟩:=x;exact ⟨ob,es,ep,t,k _ _ (.inl rfl) e,c⟩
 | ins C dx fs =>
  obtain ⟨d,z,ne,e,mA,⟨od,es,ep,e2,c⟩,r⟩:=x;exact ⟨ho _ d,z,ne,k _ _ (.inl rfl) e,mA,⟨od,es,ep,k _ _ (.inr d) e2,c⟩,r⟩
 | own y=>obtain ⟨ob,e⟩:=x;exact ⟨ob,k _ _ (.inl rfl) e⟩
 | xd fs=>obtain ⟨mA,⟨od,es,ep,e,c⟩,r⟩:=x;exact ⟨mA,⟨od,es,ep,k _ _ (.inl rfl) e,c⟩,r⟩
 | rng lo hi=>obtain ⟨t,u,v,e⟩:=x;exact ⟨t,u,v,k _ _ (.inl rfl) e⟩
 | frz ob u ih=>obtain ⟨e,q⟩:=x;exact ⟨k _ _ (.inl rfl) e,ih q⟩
 | tbl ps =>
  have e:h.get? a=some { cls:= .none,data:= .fields ps }:=x;show h'.get? a=some { cls:= .none,data:= .fields ps };exact k a _ (.inl rfl) e
 | met f y =>
  have e:h.get? a=some (W.methodObj (.ref f) (.ref y)):=x;show h'.get? a=some (W.methodObj (.ref f) (.ref y));exact k a _ (.inl rfl) e
 | ext φ=>obtain ⟨p,⟨o,e⟩,st⟩:=x;exact ⟨st _ _ p λo q=>k _ _ (.inl rfl) q,⟨o,k _ _ (.inl rfl) e⟩,st⟩
theorem HOk.lt (x:HOk P w H h) (e:H a=some o):a < h.objs.size:=(x a o e).lt
theorem HOk.fresh (x:HOk P w H h) (e:h.objs.size<=a):H a=none:=by
 cases q:H a with
 | none=>rfl
 | some u=>exact absurd (Qr (x.lt q) e) (JK _)
theorem HOk.kept (x:HOk P w H h) (k: ∀ b u,h.get? b=some u->h'.get? b=some u):HOk P w H h':=λa o e =>
 (x a o e).stay (λb u _ q=>k b u q) (λ_ q=>q) λ_ _ q=>q
theorem HOk.laid (x:HOk P w H h) (k: ∀ b u,h.get? b=some u->h'.get? b=some u) (hp:h.objs.size<=a) (new:ObjOk P w (upd H a o) h' a o):HOk P w (upd H a o) h':=λb u e=>by
 have hn:=x.fresh hp
 by_cases hb:b=a
 ·subst hb;rw [Vu] at e;cases e;exact new
 ·rw [Qo hb] at e;exact (x b u e).stay (λc v _ q=>k c v q) (λc q=>by rw [Qo (QH q hn)];exact q) λc xs q=>by rw [Qo (QH q hn)];exact q
end
def Rd (H:Hp) (a:Addr) (u:HO):Prop:=H a=some u \/ ∃ o,H a=some (.frz o u)
theorem Rd.ok {P:Program} {w:World} {H:Hp} {h:Heap} {a:Addr} {u:HO} (r:Rd H a u) (x:HOk P w H h):ObjOk P w H h a u:=by
 rcases r with r | ⟨o,r⟩
 ·exact x a u r
 ·obtain ⟨_,q⟩:=x a _ r;exact q
def Mut:Option HO->Prop
 | some (.lst _)=>True
 | some (.dK _)=>True
 | some (.dT _)=>True
 | some (.set _ _)=>True
 | some (.ins _ _ _)=>True
 | some (.ext _)=>True
 | _=>False
section
variable {P:Program} {w:World} {H:Hp} {h h':Heap} {x e:Addr} {o':HO}
theorem HOk.write (ok:HOk P w H h) (mu:Mut (H x)) (he:e=x \/ H e=some (.own x)) (k: ∀ b u,b≠e->h.get? b=some u->h'.get? b=some u) (heo: ∃ u,h'.get? e=some u)
  (new:ObjOk P w (upd H x o') h' x o'):HOk P w (upd H x o') h':=λb u q=>by
 have nown: ∀ c y,H c=some (.own y)->c≠x:=λc y r z=>by subst z;rw [r] at mu;exact mu
 have ntup: ∀ c xs,H c=some (.tup xs)->c≠x:=λc xs r z=>by subst z;rw [r] at mu;exact mu
 by_cases hb:b=x
 ·subst hb;rw [Vu] at q;cases q;exact new
 ·rw [Qo hb] at q
  by_cases hbe:b=e
  ·have q':H b=some (.own x):=by
    rcases he with z | z
    ·exact absurd (hbe.trans z) hb
    ·rw [hbe];exact z
   rw [q] at q';cases q';obtain ⟨v,hv⟩:=heo;exact ⟨v,by rw [hbe];exact hv⟩
  ·refine (ok b u q).stay (λc v hc r=>k c v ?_ r) (λc r=>by rw [Qo (nown c b r)];exact r) λc xs r=>by rw [Qo (ntup c xs r)];exact r
   rcases hc with rfl | hc
   ·exact hbe
   ·rintro rfl;rcases he with z | z
    ·exact nown c b hc z
    ·rw [hc] at z;cases z;exact hb rfl
end
structure Un (fs ex:List Addr) (H H':Hp) (h h':Heap):Prop where
 keep: ∀ b o,h.get? b=some o->H b=none->b ∉ fs->b ∉ ex->h'.get? b=some o
 slot: ∀ b o,h.get? b=some o->H b=none->b∈fs->b ∉ ex-> ∃ sl,h'.get? b=some { o with slots:=sl }
 free: ∀ b o,h.get? b=some o->H b=none->b ∉ ex->H' b=none
 there: ∀ b o,h.get? b=some o->b ∉ ex-> ∃ o',h'.get? b=some o'
 tups: ∀ b xs,H b=some (.tup xs)->H' b=some (.tup xs)
 frzs: ∀ b o u,H b=some (.frz o u)->H' b=some (.frz o u)
 tbls: ∀ b ps,H b=some (.tbl ps)-> ∃ more,H' b=some (.tbl (ps++more))
section
variable {fs fs' ex ex':List Addr} {H H1 H2:Hp} {h h1 h2 h':Heap} {a x e:Addr} {o:HO}
theorem Un.any (u:Un fs ex H H1 h h1) {b:Addr} {ob:Obj} (q:h.get? b=some ob) (n:H b=none) (hx:b ∉ ex): ∃ sl,h1.get? b=some { ob with slots:=sl }:=by
 by_cases hb:b∈fs
 ·exact u.slot b ob q n hb hx
 ·exact ⟨ob.slots,u.keep b ob q n hb hx⟩
theorem Un.kept (k: ∀ b u,h.get? b=some u->h'.get? b=some u):Un fs ex H H h h' :=
 ⟨λb ob q _ _ _=>k b ob q,λb ob q _ _ _=>⟨ob.slots,k b ob q⟩,λ_ _ _ n _=>n,λb ob q _=>⟨ob,k b ob q⟩,λ_ _ q=>q,λ_ _ _ q=>q,λ_ ps q=>⟨#[],by rw [q];simp⟩⟩
theorem Un.refl:Un fs ex H H h h:=Un.kept λ_ _ q=>q
theorem Un.laid (k: ∀ b u,h.get? b=some u->h'.get? b=some u) (hp:h.objs.size<=a) (hn:H a=none):Un fs ex H (upd H a o) h h' where
 keep:=λb u q _ _ _=>k b u q
 slot:=λb u q _ _ _=>⟨u.slots,k b u q⟩
 free:=λb u q n _=>by rw [Qo (Qp (Qr (Qi q) hp))];exact n
 there:=λb u q _=>⟨u,k b u q⟩
 tups:=λb xs q=>by rw [Qo (QH q hn)];exact q
 frzs:=λb u xs q=>by rw [Qo (QH q hn)];exact q
 tbls:=λb ps q=>⟨#[],by rw [Qo (QH q hn),q];simp⟩
theorem Un.write (mu:Mut (H x)) (he:e=x \/ H e=some (.own x)) (k: ∀ b u,b≠e->h.get? b=some u->h'.get? b=some u) (heo: ∃ u,h'.get? e=some u):Un fs ex H (upd H x o) h h':=by
 have hx: ∀ b,H b=none->b≠x:=λb n z=>by subst z;rw [n] at mu;exact mu
 have hb: ∀ b,H b=none->b≠e:=λb n z=>by
  subst z;rcases he with r | r
  ·exact hx b n r
  ·rw [n] at r;cases r
 have hm: ∀ b u,H b=some u-> ¬ Mut (some u)->b≠x:=λb u q nm z=>by subst z;rw [q] at mu;exact nm mu
 refine ⟨λb u q n _ _=>k b u (hb b n) q,λb u q n _ _=>⟨u.slots,k b u (hb b n) q⟩,λb u q n _=>by rw [Qo (hx b n)];exact n,λb u q _=> ?_,
  λb xs q=>by rw [Qo (hm b _ q λz=>z)];exact q,λb u xs q=>by rw [Qo (hm b _ q λz=>z)];exact q,λb ps q=>⟨#[],by rw [Qo (hm b _ q λz=>z),q];simp⟩⟩
 by_cases hbe:b=e
 ·subst hbe;exact heo
 ·exact ⟨u,k b u hbe q⟩
end
def trk (h:Heap) (H:Hp):List Addr:=(List.range h.objs.size).filter λa=>(H a).isSome
def Qeg (h:Heap) (H:Hp):Heap:=W.hideAll h (trk h H)
theorem Qn2 (h:Heap) (H:Hp):(Qeg h H).objs.size=h.objs.size:=W.hideAll_size _ _
theorem Qr6 {h:Heap} {H:Hp} {b:Addr} {o:Obj} (e:h.get? b=some o) (n:H b=none):(Qeg h H).get? b=some o :=
 W.hideAll_get _ e λhm=>by
  have q:(H b).isSome=true:=(Wc.mp hm).2;rw [n] at q;simp at q
theorem Quh {h:Heap} {H:Hp} {b:Addr} {o:Obj} (e:(Qeg h H).get? b=some o):h.get? b=some o/\H b=none:=by
 have e':h.get? b=some o:=W.of_hideAll (trk h H) e;refine ⟨e',?_⟩;cases q:H b with
 | none=>rfl
 | some x =>
  have hm:b∈trk h H:=Wc.mpr ⟨Je.mpr (Qi e'),by simp [q]⟩;have z:(Qeg h H).get? b=none:=W.hideAll_none (trk h H) hm;rw [z] at e;cases e
structure Mod (K:W.Frag) (mg:Str->Option Value) (base:Heap):Prop where
 kin:K.In base
 glob:base.Ns mainGlobals mg
 blt: ∃ mb,base.Ns builtinsNs mb/\ ∀ x:Str,x≠ "__name__" ->mb x=bootBuiltins x
 nolimit:base.NoLimit
structure Cx where
 prog:Program
 w:World
 K:W.Frag
 mg:Str->Option Value
 base:Heap
 A:Around
 N:List Str
 s₀:Shared
 H₀:Hp
 env:Env
 outer:List Env
 stack:List Env
 ex:List Addr
 fn:Str->Bool
 calm:Bool
 pn:Ke
 xe:Kf
def frs (l:List Env):List Addr:=l.filterMap (·.frame)
abbrev Cx.fs (X:Cx):List Addr:=frs X.outer
def Vis (sc:Scope) (x:Str):Prop:=sc.names.lookup x=some .local \/ sc.names.lookup x=some .cell \/ sc.names.lookup x=some .free
def Loc (sc:Scope) (x:Str):Prop:=sc.names.lookup x=some .local \/ sc.names.lookup x=some .cell
def Look (env:Env) (h:Heap) (m:Str->Option Value) (x:Str) (u:Value):Prop :=
 (env.kindOf x=some .local/\m x=some u) \/ ((env.kindOf x=some .cell \/ env.kindOf x=some .free)/\ ∃ c,env.cells.lookup x=some c/\h.IsCell c (some u))
structure Cx.Ok (X:Cx):Prop where
 mod:Mod X.K X.mg X.base
 kind:X.env.scope.kind= .function
 glob:X.env.globals=mainGlobals
 blt:X.env.builtins=builtinsNs
 above:X.s₀.heap.objs.size<=X.env.locals
 inj: ∀ x y c,X.env.cells.lookup x=some c->X.env.cells.lookup y=some c->x=y
 has: ∀ x,(X.env.kindOf x=some .cell \/ X.env.kindOf x=some .free)-> ∃ c,X.env.cells.lookup x=some c
 cab: ∀ x c,X.fn x=true->X.env.cells.lookup x=some c->X.s₀.heap.objs.size<=c
 hd:X.calm=true->X.A.handled=none
 frames:X.A.frames=some X.stack
 stk:X.stack=X.outer \/ (X.stack=X.env::X.outer/\X.env.frame=some X.env.locals)
 exf: ∀ b∈X.ex,b≠X.env.locals/\ ∀ x c,X.env.cells.lookup x=some c->c≠b
 bs: ∀ b o,X.base.get? b=some o->X.s₀.heap.get? b=some o/\X.H₀ b=none
 bsz:X.base.objs.size<=X.s₀.heap.objs.size
 noex: ∀ b o,X.base.get? b=some o->b ∉ X.ex
 exfs: ∀ b∈X.ex,b ∉ X.fs
 funs:X.s₀.heap.FunFrames X.base X.outer
 frf: ∀ b∈X.fs,X.H₀ b=none
structure Inv (X:Cx) (Kz:Ke) (σ:List (Option V)) (H:Hp) (s:Shared):Prop where
 ok:X.Ok
 os:s.os=X.s₀.os
 bare:AllBare s.gens
 base:Un X.fs X.ex X.H₀ H X.s₀.heap s.heap
 loc: ∃ m,s.heap.Ns X.env.locals m/\ ∀ (i:Nat) (x:Str) (v:V),X.N[i]? =some x->σ[i]? =some (some v)->Vis X.env.scope x-> ∃ u,RelV v u/\Look X.env s.heap m x u
 cell: ∀ x c,X.env.cells.lookup x=some c-> ∃ v,s.heap.IsCell c v
 free:H X.env.locals=none
 freeC: ∀ x c,X.env.cells.lookup x=some c->H c=none
 pin: ∀ p∈X.pn++Kz,s.heap.get? p.1=some p.2/\H p.1=none/\p.1≠X.env.locals/\p.1 ∉ X.fs/\ ∀ v,p.2.data≠ .cell v
 hok:HOk X.prog X.w H s.heap
 len:σ.length=X.N.length
section
variable {X:Cx} {Kz:Ke} {σ:List (Option V)} {H H':Hp} {s:Shared} {h':Heap}
theorem Cx.Ok.nofr (ok:X.Ok) {b:Addr} {o:Obj} (e:X.base.get? b=some o):b ∉ X.fs:=λhb=>by
 have:=(ok.funs.mem hb).1;rw [e] at this;cases this
theorem Inv.bs (I:Inv X Kz σ H s): ∀ b o,X.base.get? b=some o->s.heap.get? b=some o/\H b=none:=λb o e =>
 ⟨I.base.keep b o (I.ok.bs b o e).1 (I.ok.bs b o e).2 (I.ok.nofr e) (I.ok.noex b o e),I.base.free b o (I.ok.bs b o e).1 (I.ok.bs b o e).2 (I.ok.noex b o e)⟩
theorem Inv.bk (I:Inv X Kz σ H s): ∀ b o,X.base.get? b=some o->s.heap.get? b=some o:=λb o e=>(I.bs b o e).1
theorem Inv.mod (I:Inv X Kz σ H s):Mod X.K X.mg X.base:=I.ok.mod
theorem Inv.kIn (I:Inv X Kz σ H s):X.K.In s.heap:=I.ok.mod.kin.keeps I.bk
theorem Inv.fr (I:Inv X Kz σ H s): ∃ m,Fr X.base X.env.locals s.heap m :=
 let ⟨m,hn,_⟩:=I.loc
 ⟨m,hn,I.bk,Qu I.ok.bsz I.ok.above⟩
theorem Inv.lt (I:Inv X Kz σ H s):X.env.locals < s.heap.objs.size:=let ⟨_,hn,_⟩:=I.loc;hn.lt
theorem Inv.sz (I:Inv X Kz σ H s):X.s₀.heap.objs.size<=s.heap.objs.size:=Qu I.ok.above (Qlk I.lt)
theorem Inv.nofs (I:Inv X Kz σ H s) {a:Addr} (h:s.heap.objs.size<=a):a ∉ X.fs:=λhb=>by
 obtain ⟨_,o,ho,_⟩:=I.ok.funs.mem hb;exact absurd (Qr (Qi ho) (Qu I.sz h)) (JK _)
theorem Inv.cne (I:Inv X Kz σ H s): ∀ x c,X.env.cells.lookup x=some c->c≠X.env.locals:=λx c e z=>by
 obtain ⟨v,o,ho,hd⟩:=I.cell x c e;obtain ⟨m,⟨o',es,ep,ho',hd',_⟩,_⟩:=I.loc;rw [z,ho'] at ho;cases ho;rw [hd'] at hd;cases hd
theorem Inv.funs (I:Inv X Kz σ H s):s.heap.FunFrames X.base X.outer:=by
 have all: ∀ (l:List Env),(∀ b∈frs l,b∈X.fs)->X.s₀.heap.FunFrames X.base l->s.heap.FunFrames X.base l:=by
  intro l
  induction l with
  | nil=>intro _ _;trivial
  | cons env r ih =>
   intro hs hl;obtain ⟨hk,⟨L,o,hf,hn,ho,hd⟩,hr⟩:=hl;have hL:L∈X.fs:=hs L (by unfold frs;rw [JQ,hf];exact Q8);obtain ⟨sl,e⟩:=I.base.slot L o ho (I.ok.frf L hL) hL λz=>I.ok.exfs L z hL
   exact ⟨hk,⟨L,_,hf,hn,e,hd⟩,ih (λb hb=>hs b (by unfold frs;rw [JQ,hf];exact Q7 _ hb)) hr⟩
 exact all X.outer (λ_ hb=>hb) I.ok.funs
theorem Inv.stack (I:Inv X Kz σ H s):s.heap.FunFrames X.base X.stack:=by
 rcases I.ok.stk with e | ⟨e,hf⟩
 ·rw [e];exact I.funs
 ·rw [e];obtain ⟨m,hn,_⟩:=I.loc;refine .cons (by rw [I.ok.kind];decide) hf hn ?_ I.funs;exact Gd (Qu I.ok.bsz I.ok.above)
theorem Inv.stkSub (I:Inv X Kz σ H s): ∀ b∈frs X.stack,b∈X.env.locals::X.fs:=λb hb=>by
 rcases I.ok.stk with e | ⟨e,hf⟩
 ·rw [e] at hb;exact Q7 _ hb
 ·rw [e] at hb;unfold frs at hb;rw [JQ,hf] at hb;exact hb
theorem Inv.stkFree (I:Inv X Kz σ H s): ∀ b∈frs X.stack,H b=none:=λb hb=>by
 rcases Qb.mp (I.stkSub b hb) with e | hb
 ·rw [e];exact I.free
 ·obtain ⟨_,o,ho,_⟩:=I.ok.funs.mem hb;exact I.base.free b o ho (I.ok.frf b hb) λz=>I.ok.exfs b z hb
theorem Inv.step {g':Array GenState} {t':Nat} {d':Drawn} {ch:List Addr} (I:Inv X Kz σ H s)
  (hch: ∀ b∈ch,(b∈X.ex \/ X.s₀.heap.objs.size<=b)/\b≠X.env.locals/\(∀ x c,X.env.cells.lookup x=some c->c≠b)/\ ∀ p∈X.pn++Kz,p.1≠b)
  (keep: ∀ b o,b≠X.env.locals->b ∉ X.fs->b ∉ ch->s.heap.get? b=some o->H b=none->h'.get? b=some o)
  (slot: ∀ b o,b≠X.env.locals->b∈X.fs->b ∉ ch->s.heap.get? b=some o->H b=none-> ∃ sl,h'.get? b=some { o with slots:=sl }) (free: ∀ b o,b ∉ ch->s.heap.get? b=some o->H b=none->H' b=none)
  (there: ∀ b o,b ∉ ch->s.heap.get? b=some o-> ∃ o',h'.get? b=some o')
  (tups: ∀ b xs,H b=some (.tup xs)->H' b=some (.tup xs)) (frzs: ∀ b o u,H b=some (.frz o u)->H' b=some (.frz o u)) (tbls: ∀ b ps,H b=some (.tbl ps)-> ∃ more,H' b=some (.tbl (ps++more)))
  (ns: ∀ m,s.heap.Ns X.env.locals m->h'.Ns X.env.locals m) (hok:HOk X.prog X.w H' h') (hg:AllBare g') :
  Inv X Kz σ H' { s with heap:=h',gens:=g',drawn:=d',toks:=t' }:=by
 have neL: ∀ b o,X.s₀.heap.get? b=some o->b≠X.env.locals:=λb o e=>Qp (Qr (Qi e) I.ok.above)
 have neC: ∀ b o,X.s₀.heap.get? b=some o->b ∉ X.ex->b ∉ ch:=λb o e hx hb=>by
  rcases (hch b hb).1 with z | z
  ·exact hx z
  ·exact absurd (Qr (Qi e) z) (JK _)
 have cellK: ∀ x c,X.env.cells.lookup x=some c-> ∀ v,s.heap.IsCell c v->h'.IsCell c v:=λx c e v ⟨o,ho,hd⟩=>by
  have nch:c ∉ ch:=λz=>(hch c z).2.2.1 x c e rfl
  by_cases hc:c∈X.fs
  ·obtain ⟨sl,q⟩:=slot c o (I.cne x c e) hc nch ho (I.freeC x c e);exact ⟨_,q,hd⟩
  ·exact ⟨o,keep c o (I.cne x c e) hc nch ho (I.freeC x c e),hd⟩
 refine ⟨I.ok,I.os,hg,⟨λb o e n hb hx=> ?_,λb o e n hb hx=> ?_,λb o e n hx=> ?_,λb o e hx=> ?_,λb xs e=>tups b xs (I.base.tups b xs e),λb o xs e=>frzs b o xs (I.base.frzs b o xs e),λb ps e=> ?_⟩,?_,λx c e=> ?_,?_,λx c e=> ?_,λp hp=> ?_,hok,I.len⟩
 ·exact keep b o (neL b o e) hb (neC b o e hx) (I.base.keep b o e n hb hx) (I.base.free b o e n hx)
 ·obtain ⟨sl,e1⟩:=I.base.slot b o e n hb hx;obtain ⟨sl',e2⟩:=slot b _ (neL b o e) hb (neC b o e hx) e1 (I.base.free b o e n hx);exact ⟨sl',e2⟩
 ·obtain ⟨o',e1⟩:=I.base.there b o e hx;exact free b o' (neC b o e hx) e1 (I.base.free b o e n hx)
 ·obtain ⟨o',e1⟩:=I.base.there b o e hx;exact there b o' (neC b o e hx) e1
 ·obtain ⟨m1,e1⟩:=I.base.tbls b ps e;obtain ⟨m2,e2⟩:=tbls b _ e1;exact ⟨m1++m2,by rw [e2,Array.append_assoc]⟩
 ·obtain ⟨m,hn,hl⟩:=I.loc;refine ⟨m,ns m hn,λi x v e1 e2 e3=> ?_⟩;obtain ⟨u,r,l⟩:=hl i x v e1 e2 e3;refine ⟨u,r,?_⟩;rcases l with l | ⟨k,c,e,z⟩
  ·exact .inl l
  ·exact .inr ⟨k,c,e,cellK x c e _ z⟩
 ·obtain ⟨v,z⟩:=I.cell x c e;exact ⟨v,cellK x c e v z⟩
 ·obtain ⟨m,⟨o,_,_,ho,_⟩,_⟩:=I.loc;exact free _ o (λz=>(hch _ z).2.1 rfl) ho I.free
 ·obtain ⟨v,o,ho,hd⟩:=I.cell x c e;exact free c o (λz=>(hch c z).2.2.1 x c e rfl) ho (I.freeC x c e)
 ·obtain ⟨e,n,ne,nf,d⟩:=I.pin p hp;have nch:p.1 ∉ ch:=λz=>(hch p.1 z).2.2.2 p hp rfl
  exact ⟨keep p.1 p.2 ne nf nch e n,free p.1 p.2 nch e n,ne,nf,d⟩
theorem Inv.un {t':Nat} (I:Inv X Kz σ H s) (u:Un X.fs [] H H' s.heap h') (hok:HOk X.prog X.w H' h'):Inv X Kz σ H' { s with heap:=h',toks:=t' }:=by
 obtain ⟨m,⟨o,es,ep,ho,r⟩,_⟩:=id I.loc;obtain ⟨sl,hL⟩:=u.any ho I.free (by simp);exact I.step (g':=s.gens) (d':=s.drawn) (ch:=[]) (λ_ z=>nomatch z) (λb o _ hb _ e n=>u.keep b o e n hb (by simp)) (λb o _ hb _ e n=>u.slot b o e n hb (by simp)) (λb o _ e n=>u.free b o e n (by simp)) (λb o _ e=>u.there b o e (by simp)) u.tups u.frzs u.tbls (λm' hm=>by
  obtain ⟨o',es',ep',ho',r'⟩:=hm;rw [ho] at ho';cases ho';exact ⟨_,es',ep',hL,r'⟩) hok I.bare
theorem Inv.call {g':Array GenState} {t':Nat} {d':Drawn} {ch:List Addr} (I:Inv X Kz σ H s) (u:Un (frs X.stack) ch H H' s.heap h') (hok:HOk X.prog X.w H' h') (hg:AllBare g')
  (hch: ∀ b∈ch,(b∈X.ex \/ X.s₀.heap.objs.size<=b)/\b≠X.env.locals/\(∀ x c,X.env.cells.lookup x=some c->c≠b)/\ ∀ p∈X.pn++Kz,p.1≠b) :
  Inv X Kz σ H' { s with heap:=h',gens:=g',drawn:=d',toks:=t' }:=by
 obtain ⟨m,⟨o,es,ep,ho,r⟩,_⟩:=id I.loc;obtain ⟨sl,hL⟩:=u.any ho I.free λz=>(hch _ z).2.1 rfl
 exact I.step (ch:=ch) hch (λb o hL hb hc e n=>u.keep b o e n (λz=>(Qb.mp (I.stkSub b z)).elim hL hb) hc) (λb o _ _ hc e n=>u.any e n hc) (λb o hc e n=>u.free b o e n hc) (λb o hc e=>u.there b o e hc) u.tups u.frzs u.tbls (λm' hm=>by
  obtain ⟨o',es',ep',ho',r'⟩:=hm;rw [ho] at ho';cases ho';exact ⟨_,es',ep',hL,r'⟩) hok hg
theorem Inv.turned {t':Nat} {it:Addr} (I:Inv X Kz σ H s) (k: ∀ b o,b≠it->s.heap.get? b=some o->h'.get? b=some o) (hn:H it=none) (hL:it≠X.env.locals)
  (h1:it∈X.ex \/ X.s₀.heap.objs.size<=it) (h2: ∀ x c,X.env.cells.lookup x=some c->c≠it) (h3: ∀ p∈X.pn++Kz,p.1≠it):Inv X Kz σ H { s with heap:=h',toks:=t' }:=by
 have nit: ∀ b u,H b=some u->b≠it:=λb u e z=>by rw [z,hn] at e;cases e
 refine I.step (g':=s.gens) (d':=s.drawn) (ch:=[it]) (λb hb=> ?_) (λb o _ _ hc e _=>k b o (λz=>hc (by simp [z])) e) (λb o _ _ hc e _=>⟨o.slots,k b o (λz=>hc (by simp [z])) e⟩) (λ_ _ _ _ n=>n)
  (λb o hc e=>⟨o,k b o (λz=>hc (by simp [z])) e⟩) (λ_ _ e=>e) (λ_ _ _ e=>e) (λb ps e=>⟨#[],by rw [e];simp⟩) (λm hm=> ?_) (λb u e=> ?_) I.bare
 ·have e:b=it:=by simpa using hb
  subst e;exact ⟨h1,hL,h2,h3⟩
 ·obtain ⟨o,es,ep,ho,r⟩:=hm;exact ⟨o,es,ep,k _ o (QS hL) ho,r⟩
 ·refine (I.hok b u e).stay (λc v hc q=>k c v ?_ q) (λ_ q=>q) λ_ _ q=>q
  rcases hc with z | z
  ·rw [z];exact nit b u e
  ·exact nit c _ z
theorem Inv.tok (I:Inv X Kz σ H s) (t:Nat):Inv X Kz σ H { s with toks:=t }:=I.un (h':=s.heap) (t':=t) Un.refl I.hok
theorem Inv.kept {t':Nat} (I:Inv X Kz σ H s) (k: ∀ b u,s.heap.get? b=some u->h'.get? b=some u):Inv X Kz σ H { s with heap:=h',toks:=t' }:=I.un (Un.kept k) (I.hok.kept k)
theorem Inv.laid {a:Addr} {o:HO} {t':Nat} (I:Inv X Kz σ H s) (k: ∀ b u,s.heap.get? b=some u->h'.get? b=some u) (hp:s.heap.objs.size<=a) (new:ObjOk X.prog X.w (upd H a o) h' a o) :
  Inv X Kz σ (upd H a o) { s with heap:=h',toks:=t' }:=I.un (Un.laid k hp (I.hok.fresh hp)) (I.hok.laid k hp new)
theorem Inv.write {x e:Addr} {o:HO} {t':Nat} (I:Inv X Kz σ H s) (mu:Mut (H x)) (he:e=x \/ H e=some (.own x)) (k: ∀ b u,b≠e->s.heap.get? b=some u->h'.get? b=some u) (heo: ∃ u,h'.get? e=some u)
  (new:ObjOk X.prog X.w (upd H x o) h' x o):Inv X Kz σ (upd H x o) { s with heap:=h',toks:=t' }:=I.un (Un.write mu he k heo) (I.hok.write mu he k heo new)
theorem Inv.weak {Kt:List (Option V)} (I:Inv X Kz σ H s) (hl:Kt.length=σ.length) (w: ∀ (i:Nat) v,Kt[i]? =some (some v)->σ[i]? =some (some v)):Inv X Kz Kt H s :=
 ⟨I.ok,I.os,I.bare,I.base,let ⟨m,hn,hl'⟩:=I.loc;⟨m,hn,λi x v e1 e2 e3=>hl' i x v e1 (w i v e2) e3⟩,I.cell,I.free,I.freeC,I.pin,I.hok,hl.trans I.len⟩
theorem Inv.pins_of {pins':Ke} (I:Inv X Kz σ H s) (h: ∀ p∈pins',s.heap.get? p.1=some p.2/\H p.1=none/\p.1≠X.env.locals/\p.1 ∉ X.fs/\ ∀ v,p.2.data≠ .cell v):Inv X pins' σ H s :=
 ⟨I.ok,I.os,I.bare,I.base,I.loc,I.cell,I.free,I.freeC,λp hp=>(Qy.mp hp).elim (λz=>I.pin p (Ji _ z)) (h p),I.hok,I.len⟩
theorem Qft {N:List Str} (hN:N.Nodup) {i j:Nat} {x:Str} (a:N[i]? =some x) (b:N[j]? =some x):i=j:=by
 obtain ⟨h1,e1⟩:=Q4.mp a;obtain ⟨h2,e2⟩:=Q4.mp b;exact (Qnq hN).mp (e1.trans e2.symm)
theorem Bu {M:Model} {A:Around} {E:Kf} {i:Nat} {x:Str} {v:V} {u:Value} {Q:Unit->Shared->Prop} (I:Inv X Kz σ H s) (hN:X.N.Nodup) (hi:X.N[i]? =some x) (hx:Loc X.env.scope x) (r:RelV v u)
  (h: ∀ s',Inv X Kz (σ.set i (some v)) H s'->(∃ a,Heap.SameBut a s.heap s'.heap/\(a=X.env.locals \/ X.env.cells.lookup x=some a))->Q () s') (hf:X.fn x=true \/ X.env.scope.names.lookup x=some .local:=by first | exact .inl rfl | exact .inr rfl | assumption):wpAny M A (storeName X.env x u) Q E s:=by
 obtain ⟨m,hn,hl⟩:=id I.loc;have hcls:(X.env.scope.kind == .class || (X.env.scope.kind == .module && X.env.locals != X.env.globals))=false:=by rw [I.ok.kind];rfl
 have hiσ:i < σ.length:=by rw [I.len];exact (Q4.mp hi).1
 have cne:=I.cne;have tracked: ∀ {a:Addr} {h':Heap},(∃ o,s.heap.get? a=some o/\H a=none)->Heap.SameBut a s.heap h'->HOk X.prog X.w H h':=λ{a h'} ha hs b ob e=>by
  obtain ⟨_,_,hfree⟩:=ha;refine (I.hok b ob e).stay (λc w' hc q=>(hs.2 c ?_).trans q) (λ_ q=>q) λ_ _ q=>q
  rintro rfl;rcases hc with rfl | hc
  ·rw [hfree] at e;cases e
  ·rw [hfree] at hc;cases hc
 rcases hx with hk | hk
 ·refine wpAny_storeName_local hk hn (λh' hn' hs=> ?_) hcls;obtain ⟨oL,_,_,hoL,_⟩:=id hn;refine h _ ⟨I.ok,I.os,I.bare,⟨λb o e n hb hx=> ?_,λb o e n hb hx=> ?_,I.base.free,λb o e hx=> ?_,I.base.tups,I.base.frzs,I.base.tbls⟩,⟨_,hn',λj y v' e1 e2 e3=> ?_⟩,λy c e=> ?_,I.free,I.freeC,λp hp=> ?_,tracked ⟨oL,hoL,I.free⟩ hs,by simpa using I.len⟩ ⟨_,hs,.inl rfl⟩
  ·exact (hs.2 b (Qp (Qr (Qi e) I.ok.above))).trans (I.base.keep b o e n hb hx)
  ·obtain ⟨sl,e1⟩:=I.base.slot b o e n hb hx;exact ⟨sl,(hs.2 b (Qp (Qr (Qi e) I.ok.above))).trans e1⟩
  ·obtain ⟨o',e1⟩:=I.base.there b o e hx;exact ⟨o',(hs.2 b (Qp (Qr (Qi e) I.ok.above))).trans e1⟩
  ·by_cases hj:j=i
   ·subst hj;rw [hi] at e1;cases e1;rw [Qm hiσ] at e2;cases e2;exact ⟨u,r,.inl ⟨hk,by simp⟩⟩
   ·rw [Qh (QS hj)] at e2;obtain ⟨u',r',q⟩:=hl j y v' e1 e2 e3;refine ⟨u',r',?_⟩;rcases q with ⟨k,e⟩ | ⟨k,c,e,z⟩
    ·refine .inl ⟨k,?_⟩;have:y≠x:=λe=>hj (Qft hN e1 (e ▸ hi))
     simp [this,e]
    ·exact .inr ⟨k,c,e,z.sameBut hs (cne y c e)⟩
  ·obtain ⟨w',z⟩:=I.cell y c e;exact ⟨w',z.sameBut hs (cne y c e)⟩
  ·obtain ⟨e,n,ne,nf,d⟩:=I.pin p hp;exact ⟨(hs.2 p.1 ne).trans e,n,ne,nf,d⟩
 ·have hfn:X.fn x=true:=by
   rcases hf with z | z
   ·exact z
   ·rw [z] at hk;cases hk
  obtain ⟨c,hc⟩:=I.ok.has x (.inl hk);obtain ⟨w',z⟩:=I.cell x c hc;refine wpAny_storeName_cell I.ok.kind hk hc z (λh' Kk hs=> ?_);obtain ⟨oc,hoc,hocd⟩:=id z;refine h { s with heap:=h' } ⟨I.ok,I.os,I.bare,⟨λb o e n hb hx=> ?_,λb o e n hb hx=> ?_,I.base.free,λb o e hx=> ?_,I.base.tups,I.base.frzs,I.base.tbls⟩,⟨m,hn.sameBut hs (QS (cne x c hc)),λj y v' e1 e2 e3=> ?_⟩,λy c' e=> ?_,I.free,I.freeC,λp hp=> ?_,tracked ⟨oc,hoc,I.freeC x c hc⟩ hs,by simpa using I.len⟩ ⟨c,hs,.inr hc⟩
  ·exact (hs.2 b (Qp (Qr (Qi e) (I.ok.cab x c hfn hc)))).trans (I.base.keep b o e n hb hx)
  ·obtain ⟨sl,e1⟩:=I.base.slot b o e n hb hx;exact ⟨sl,(hs.2 b (Qp (Qr (Qi e) (I.ok.cab x c hfn hc)))).trans e1⟩
  ·obtain ⟨o',e1⟩:=I.base.there b o e hx;exact ⟨o',(hs.2 b (Qp (Qr (Qi e) (I.ok.cab x c hfn hc)))).trans e1⟩
  ·by_cases hj:j=i
   ·subst hj;rw [hi] at e1;cases e1;rw [Qm hiσ] at e2;cases e2;exact ⟨u,r,.inr ⟨.inl hk,c,hc,Kk⟩⟩
   ·rw [Qh (QS hj)] at e2;obtain ⟨u',r',q⟩:=hl j y v' e1 e2 e3;refine ⟨u',r',?_⟩;rcases q with q | ⟨k,c',e,z'⟩
    ·exact .inl q
    ·refine .inr ⟨k,c',e,z'.sameBut hs ?_⟩;rintro rfl;exact hj (Qft hN e1 (I.ok.inj _ _ _ e hc ▸ hi))
  ·by_cases hcc:c'=c
   ·subst hcc;exact ⟨_,Kk⟩
   ·obtain ⟨w2,z2⟩:=I.cell y c' e;exact ⟨w2,z2.sameBut hs hcc⟩
  ·obtain ⟨e,n,ne,nf,d⟩:=I.pin p hp;refine ⟨(hs.2 p.1 ?_).trans e,n,ne,nf,d⟩;intro q;rw [q,hoc] at e;have q':oc=p.2:=J4 e;exact d w' (by rw [<- q'];exact hocd)
theorem OR {M:Model} {A:Around} {E:Kf} {i:Nat} {x:Str} {v:V} {u:Value} {Q:Unit->Shared->Prop} (I:Inv X Kz σ H s) (hN:X.N.Nodup) (hi:X.N[i]? =some x) (hx:Loc X.env.scope x) (r:RelV v u)
  (h: ∀ s',Inv X Kz (σ.set i (some v)) H s'->Q () s') (hf:X.fn x=true \/ X.env.scope.names.lookup x=some .local:=by first | exact .inl rfl | exact .inr rfl | assumption):wpAny M A (storeName X.env x u) Q E s :=
 Bu I hN hi hx r (λs' I' _=>h s' I') hf
theorem Inv.call' {s':Shared} {ch:List Addr} (I:Inv X Kz σ H s) (ho:s'.os=s.os) (u:Un (frs X.stack) ch H H' s.heap s'.heap) (hok:HOk X.prog X.w H' s'.heap) (hg:AllBare s'.gens)
  (hch: ∀ b∈ch,(b∈X.ex \/ X.s₀.heap.objs.size<=b)/\b≠X.env.locals/\(∀ x c,X.env.cells.lookup x=some c->c≠b)/\ ∀ p∈X.pn++Kz,p.1≠b):Inv X Kz σ H' s':=by
 obtain ⟨h',g',d',t',o'⟩:=s';have e:o'=s.os:=ho;subst e;exact I.call (g':=g') (t':=t') (d':=d') u hok hg hch
end
abbrev XK:=Value->Option Addr->Hp->Prop
abbrev St:=List (Option V)
abbrev VK:=V->Hp->Prop
abbrev TE:=St->Hp->VK->Prop
abbrev TT:=St->Hp->(Bool->Hp->Prop)->Prop
abbrev TA:=St->Hp->(List V->Hp->Prop)->Prop
structure Ends where
 nx:St->Hp->Prop
 rt:VK
 bk:St->Hp->Prop:=λ_ _=>False
 ct:St->Hp->Prop:=λ_ _=>False
abbrev TS:=Ends->St->Hp->Prop
def EP (X:Cx) (Kz:Ke) (σ:St) (Q:VK) (u:Value) (s':Shared):Prop:= ∃ v H',Inv X Kz σ H' s'/\RelV v u/\Q v H'
def TP (X:Cx) (Kz:Ke) (σ:St) (Q:Bool->Hp->Prop) (b:Bool) (s':Shared):Prop:= ∃ H',Inv X Kz σ H' s'/\Q b H'
def AP (X:Cx) (Kz:Ke) (σ:St) (Q:List V->Hp->Prop) (us:List Value) (s':Shared):Prop:= ∃ vs H',Inv X Kz σ H' s'/\Vals vs us/\Q vs H'
def SP (X:Cx) (Kz:Ke) (D:Ends) (f:Flow) (s':Shared):Prop :=
 match f with
 | .next=> ∃ Kt H',Inv X Kz Kt H' s'/\D.nx Kt H'
 | .brk=> ∃ Kt H',Inv X Kz Kt H' s'/\D.bk Kt H'
 | .cont=> ∃ Kt H',Inv X Kz Kt H' s'/\D.ct Kt H'
 | .ret u=> ∃ v Kt H',Inv X Kz Kt H' s'/\RelV v u/\D.rt v H'
def PE (X:Cx) (e:Expr) (t:TE):Prop :=
 ∀ (Kz:Ke) (s:Shared) (σ:St) (H:Hp) (Q:VK),Inv X Kz σ H s->t σ H Q->wpAny (model X.prog X.w) X.A (eval e X.env) (EP X Kz σ Q) X.xe s
def PT (X:Cx) (e:Expr) (t:TT):Prop :=
 ∀ (Kz:Ke) (s:Shared) (σ:St) (H:Hp) (Q:Bool->Hp->Prop),Inv X Kz σ H s->t σ H Q->wpAny (model X.prog X.w) X.A (isTrue e X.env (eval e X.env)) (TP X Kz σ Q) X.xe s
def PW (X:Cx) (e:Expr) (t:TT):Prop :=
 ∀ (whole:Sem Value) (Kz:Ke) (s:Shared) (σ:St) (H:Hp) (Q:Bool->Hp->Prop),Inv X Kz σ H s->t σ H Q->wpAny (model X.prog X.w) X.A (isTrue e X.env whole) (TP X Kz σ Q) X.xe s
theorem PW.pt {X:Cx} {e:Expr} {t:TT} (h:PW X e t):PT X e t:=h _
def PA (X:Cx) (es:List Expr) (t:TA):Prop :=
 ∀ (pos:Pos) (Kz:Ke) (s:Shared) (σ:St) (H:Hp) (Q:List V->Hp->Prop),Inv X Kz σ H s->t σ H Q->wpAny (model X.prog X.w) X.A (spliced (backTo pos (starEach es X.env))) (AP X Kz σ Q) X.xe s
def PS (X:Cx) (st:Stmt) (t:TS):Prop :=
 ∀ (Kz:Ke) (s:Shared) (σ:St) (H:Hp) (D:Ends),Inv X Kz σ H s->t D σ H->wpAny (model X.prog X.w) X.A (exec st X.env) (SP X Kz D) X.xe s
def PSs (X:Cx) (st:List Stmt) (t:TS):Prop :=
 ∀ (Kz:Ke) (s:Shared) (σ:St) (H:Hp) (D:Ends),Inv X Kz σ H s->t D σ H->wpAny (model X.prog X.w) X.A (execs st X.env) (SP X Kz D) X.xe s
theorem thn {α:Type} {t:Sem α} {Q Q':α->Shared->Prop} {M:Model} {A:Around} {E:Kf} {s:Shared} (h:wpAny M A t Q E s) (hQ: ∀ a s,Q a s->Q' a s):wpAny M A t Q' E s:=Jh h hQ λ_ _ x=>x
section
variable {X:Cx}
theorem bin {a b:Expr} {ta tb:TE} (ha:PE X a ta) (hb:PE X b tb) {Kz:Ke} {s:Shared} {σ:St} {H:Hp} {R:V->V->Hp->Prop} (I:Inv X Kz σ H s) (h:ta σ H λx H1=>tb σ H1 λy H2=>R x y H2)
  {α:Type} {Q:α->Shared->Prop} {f:Value->Value->Sem α}
  (hf: ∀ v u s2 x y H2,Inv X Kz σ H2 s2->RelV x v->RelV y u->R x y H2->wpAny (model X.prog X.w) X.A (f v u) Q X.xe s2) :
  wpAny (model X.prog X.w) X.A (eval a X.env) (λv Kl=>wpAny (model X.prog X.w) X.A (eval b X.env) (λu s₂=>wpAny (model X.prog X.w) X.A (f v u) Q X.xe s₂) X.xe Kl) X.xe s:=by
 refine thn (ha Kz s σ H _ I h) λv s1 ⟨x,H1,I1,r1,q1⟩=> ?_
 refine thn (hb Kz s1 σ H1 _ I1 q1) λu s2 ⟨y,H2,I2,r2,q2⟩=> ?_
 exact hf v u s2 x y H2 I2 r1 r2 q2
def OQ (i:Nat):TE:=λσ H Q=> ∃ v,σ[i]? =some (some v)/\Q v H
def tC (v:V):TE:=λ_ H Q=>Q v H
theorem Wr {i:Nat} {x:Str} {pos:Pos} (hN:X.N[i]? =some x) (hv:Vis X.env.scope x) (hd:(x == ("__debug__" :Str))=false:=by decide) (hcd:(x == ("__classdict__" :Str))=false:=by decide):PE X (.Name x pos) (OQ i):=by
 intro Kz s σ H Q I h;obtain ⟨v,e,h⟩:=h;obtain ⟨m,hn,hl⟩:=I.loc;obtain ⟨u,r,l⟩:=hl i x v hN e hv;have Kj:EP X Kz σ Q u s:=⟨v,H,I,r,h⟩;rcases l with ⟨hk,hm⟩ | ⟨hk,c,hc,hcell⟩
 ·exact wpAny_Name (wpAny_loadName_local I.ok.kind hk hn hm Kj) hd
 ·rcases hk with hk | hk
  ·exact wpAny_Name (wpAny_loadName_cell I.ok.kind hk hc hcell Kj) hd
  ·exact wpAny_Name (wpAny_loadName_free I.ok.kind hk hc hcell Kj hcd) hd
theorem Qxn {i j pos}:PE X (.Constant (.int i) j pos) (tC (.int i)):=λ_ _ _ H _ I h=>wpAny_Constant_int ⟨.int i,H,I.tok _,⟨_,rfl⟩,h⟩
theorem Qvw {b j pos}:PE X (.Constant (.bool b) j pos) (tC (.bl b)):=λ_ _ _ H _ I h=>Constant_bool ⟨.bl b,H,I,rfl,h⟩
theorem Qxm {j pos}:PE X (.Constant .none j pos) (tC .non):=λ_ _ _ H _ I h=>Constant_none ⟨.non,H,I,rfl,h⟩
theorem Qxk {x j pos}:PE X (.Constant (.str x) j pos) (tC (.str x)):=λ_ _ _ H _ I h=>Calls.Constant_str ⟨.str x,H,I.tok _,⟨_,rfl⟩,h⟩
def Gl (X:Cx) (x:Str):Prop:=X.env.kindOf x=some .globalImplicit
theorem Qkq {E:Kf} {Kz:Ke} {s:Shared} {σ:St} {H:Hp} {x:Str} {u:Value} {pos:Pos} {Q:Kf} (I:Inv X Kz σ H s) (hg:Gl X x) (hm:X.mg x=some u) (h:Q u s)
  (hd:(x == ("__debug__" :Str))=false:=by decide):wpAny (model X.prog X.w) X.A (eval (.Name x pos) X.env) Q E s :=
 Calls.Name_function_global I.ok.kind hg (Calls.loadGlobal_global (by rw [I.ok.glob];exact I.mod.glob.keeps I.bk) hm h) hd
theorem Y8 {E:Kf} {Kz:Ke} {s:Shared} {σ:St} {H:Hp} {x:Str} {u:Value} {pos:Pos} {Q:Kf} (I:Inv X Kz σ H s) (hg:Gl X x) (hm:X.mg x=none) (hv:bootBuiltins x=some u) (h:Q u s)
  (hn:x≠ "__name__" :=by decide) (hd:(x == ("__debug__" :Str))=false:=by decide):wpAny (model X.prog X.w) X.A (eval (.Name x pos) X.env) Q E s:=by
 obtain ⟨mb,h1,h2⟩:=I.mod.blt;exact Calls.Name_function_global I.ok.kind hg (Calls.loadGlobal_builtin (by rw [I.ok.glob];exact I.mod.glob.keeps I.bk) hm (by rw [I.ok.blt];exact h1.keeps I.bk) ((h2 x hn).trans hv) h) hd
theorem Qty {x:Str} {v:V} {u:Value} {pos:Pos} (hg:Gl X x) (hm:X.mg x=none) (hv:bootBuiltins x=some u) (r:RelV v u) (hn:x≠ "__name__" :=by decide) (hd:(x == ("__debug__" :Str))=false:=by decide):PE X (.Name x pos) (tC v) :=
 λ_ _ _ H _ I h=>Y8 I hg hm hv ⟨v,H,I,r,h⟩ hn hd
variable {a b:Expr} {ta tb:TE} {pos:Pos}
def PC (X:Cx) (op:CmpOp) (a b:Expr) (t:TE):Prop :=
 ∀ (Kz:Ke) (s:Shared) (σ:St) (H:Hp) (Q:VK),Inv X Kz σ H s->t σ H Q ->
  wpAny (model X.prog X.w) X.A (eval a X.env) (λv Kl=>wpAny (model X.prog X.w) X.A (eval b X.env) (λu s₂=>wpAny (model X.prog X.w) X.A (compareOp op v u) (EP X Kz σ Q) X.xe s₂) X.xe Kl) X.xe s
def tB (t:TE):TT:=λσ H Q=>t σ H λx H1=> ∃ c,x= .bl c/\Q c H1
theorem Jb9 {op:CmpOp} {t:TE} (h:PC X op a b t) (h1:behindInMarks op b=false:=by first | exact nobehind _ (by decide) (by decide) | rfl):PT X (.Compare a [op] [b] pos) (tB t):=by
 intro Kz s σ H Q I hw;refine wpAny_isTrue_Compare1 (thn (h Kz s σ H _ I hw) λv s1 h1=>thn h1 λu s2 h2=>thn h2 λc s3 ⟨x,H1,I1,r1,q1⟩=> ?_) h1;obtain ⟨d,rfl,q⟩:=q1;cases r1;exact WO ⟨H1,I1,q⟩
theorem Qxd {e:Expr} {t:TE} (h:PE X e t) (he: ∀ whole,isTrue e X.env whole=(do let v<-whole;standAt e.pos;holding [v] (truthy v)):=by intro _;rfl):PT X e (tB t):=by
 intro Kz s σ H Q I hw;refine isTrue_plain (thn (h Kz s σ H _ I hw) λv s1 ⟨x,H1,I1,r1,q1⟩=> ?_) (he _);obtain ⟨d,rfl,q⟩:=q1;cases r1;exact WO ⟨H1,I1,q⟩
variable {tA tB':TT} {rest:List Expr}
def Jb7 (t u:TT):TT:=λσ H Q=>t σ H λc H1=>if c=true then u σ H1 Q else Q false H1
def tOr (t u:TT):TT:=λσ H Q=>t σ H λc H1=>if c=true then Q true H1 else u σ H1 Q
def Jb1 (t:TT):TT:=λσ H Q=>t σ H λc H1=>Q (!c) H1
theorem Qth (ha:PT X a tA):PW X (.BoolOp .And [a] pos) tA:=by
 intro wh Kz s σ H Q I h;refine isTrue_and (thn (ha Kz s σ H Q I h) λc s1 e=> ?_);cases c with
 | true=>exact isTrue_and_nil e
 | false=>exact e
theorem Qxc (ha:PT X a tA):PW X (.BoolOp .Or [a] pos) tA:=by
 intro wh Kz s σ H Q I h;refine isTrue_or (thn (ha Kz s σ H Q I h) λc s1 e=> ?_);cases c with
 | false=>exact isTrue_or_nil e
 | true=>exact e
theorem Qov (ha:PT X a tA) (hb:PW X (.BoolOp .And (b::rest) pos) tB'):PW X (.BoolOp .And (a::b::rest) pos) (Jb7 tA tB'):=by
 intro wh Kz s σ H Q I h;refine isTrue_and (thn (ha Kz s σ H _ I h) λc s1 ⟨H1,I1,q1⟩=> ?_);cases c with
 | true=>exact hb wh Kz s1 σ H1 Q I1 q1
 | false=>exact ⟨H1,I1,q1⟩
theorem Qvt (ha:PT X a tA) (hb:PW X (.BoolOp .Or (b::rest) pos) tB'):PW X (.BoolOp .Or (a::b::rest) pos) (tOr tA tB'):=by
 intro wh Kz s σ H Q I h;refine isTrue_or (thn (ha Kz s σ H _ I h) λc s1 ⟨H1,I1,q1⟩=> ?_);cases c with
 | true=>exact ⟨H1,I1,q1⟩
 | false=>exact hb wh Kz s1 σ H1 Q I1 q1
theorem Qxe (ha:PT X a tA):PT X (.UnaryOp .Not a pos) (Jb1 tA):=by
 intro Kz s σ H Q I h;exact isTrue_not (ha Kz s σ H (λc H1=>Q (!c) H1) I h)
def Qzi (ta tb:TE):TE:=λσ H Q=>ta σ H λx H1=> ∃ c,x= .bl c/\if c=true then tb σ H1 Q else Q (.bl false) H1
theorem Qxl {op} {t:TE} (h:PE X a t):PE X (.BoolOp op [a] pos) t:=λKz s σ H Q I hw=>BoolOp_one (h Kz s σ H Q I hw)
theorem Qpd (ha:PE X a ta) (hb:PE X (.BoolOp .And (b::rest) pos) tb):PE X (.BoolOp .And (a::b::rest) pos) (Qzi ta tb):=by
 intro Kz s σ H Q I h;refine BoolOp_and (thn (ha Kz s σ H _ I h) λv s1 ⟨x,H1,I1,r1,q1⟩=> ?_);obtain ⟨c,rfl,q1⟩:=q1;cases r1;refine WO ?_;cases c with
 | true=>exact hb Kz s1 σ H1 Q I1 q1
 | false=>exact ⟨.bl false,H1,I1,rfl,q1⟩
def tIf (t:TT) (ta tb:TE):TE:=λσ H Q=>t σ H λc H1=>if c=true then ta σ H1 Q else tb σ H1 Q
theorem Qp9 {c:Expr} (hc:PT X c tA) (ha:PE X a ta) (hb:PE X b tb):PE X (.IfExp c a b pos) (tIf tA ta tb):=by
 intro Kz s σ H Q I h;refine wpAny_IfExp (thn (hc Kz s σ H _ I h) λd s1 ⟨H1,I1,q1⟩=> ?_);cases d with
 | true=>exact ha Kz s1 σ H1 Q I1 q1
 | false=>exact hb Kz s1 σ H1 Q I1 q1
end
def SqL (K:W.Frag) (H:Hp) (a:Addr) (xs:List V):Prop :=
 Rd H a (.lst xs) \/
  ∃ (o:Obj) (Kv:Array Value) (n:Nat),K.lookup a=some o/\o.cls= .type "list" /\o.dict=none/\o.data= .seq Kv n/\Kv.size<=sizeLine/\Vals xs Kv.toList
def SqT (K:W.Frag) (H:Hp) (a:Addr) (xs:List V):Prop :=
 Rd H a (.tup xs) \/
  ∃ (o:Obj) (Kv:Array Value) (n:Nat),K.lookup a=some o/\o.cls= .type "tuple" /\o.data= .seq Kv n/\Kv.size<=sizeLine/\Vals xs Kv.toList
def Jbg:Value->Option V
 | .none=>some .non
 | .bool b=>some (.bl b)
 | .int i _=>some (.int i)
 | .str x _=>some (.str x)
 | .bytes b _=>some (.byt b)
 | .float b _=>some (.flt b)
 | .ref a=>some (.ref a)
 | .type n=>some (.ty n)
 | _=>none
theorem RelV.abs {x:V} {u:Value} (r:RelV x u):Jbg u=some x:=by
 cases x with
 | non=>cases r;rfl
 | bl _=>cases r;rfl
 | int _=>obtain ⟨t,rfl⟩:=r;rfl
 | str _=>obtain ⟨t,rfl⟩:=r;rfl
 | byt _=>obtain ⟨t,rfl⟩:=r;rfl
 | flt _=>obtain ⟨t,rfl⟩:=r;rfl
 | ref _=>cases r;rfl
 | ty _=>cases r;rfl
theorem RelV.inj {x y:V} {u:Value} (r:RelV x u) (q:RelV y u):x=y:=J4 (r.abs.symm.trans q.abs)
theorem Vals.inj: ∀ {xs ys:List V} {us:List Value},Vals xs us->Vals ys us->xs=ys
 | _,_,_,.nil,.nil=>rfl
 | _,_,_,.cons r t,.cons r' t'=>by rw [r.inj r',Vals.inj t t']
section
variable {X:Cx} {Kz:Ke} {σ:St} {H:Hp} {s:Shared} {a:Addr} {xs ys:List V}
theorem SqL.of {K:W.Frag} (h:H a=some (.lst xs)):SqL K H a xs:= .inl (.inl h)
theorem SqT.of {K:W.Frag} (h:H a=some (.tup xs)):SqT K H a xs:= .inl (.inl h)
theorem Inv.list (I:Inv X Kz σ H s) (h:SqL X.K H a xs): ∃ Kv:List Value,Vals xs Kv/\PlainL s.heap a Kv.toArray/\xs.length<=sizeLine:=by
 rcases h with h | ⟨o,Kv,n,hk,hc,hd,hs,hz,r⟩
 ·obtain ⟨z,Kv,n,r,e⟩:=h.ok I.hok;exact ⟨Kv,r,⟨_,n,e,rfl,rfl,rfl⟩,z⟩
 ·refine ⟨Kv.toList,r,⟨o,n,I.kIn a o hk,hc,hd,by simpa using hs⟩,?_⟩;have e:=r.length;simp only [UK] at e;omega
theorem Inv.tuple (I:Inv X Kz σ H s) (h:SqT X.K H a xs): ∃ Kv:List Value,Vals xs Kv/\IsTup s.heap a Kv.toArray/\xs.length<=sizeLine:=by
 rcases h with h | ⟨o,Kv,n,hk,hc,hs,hz,r⟩
 ·obtain ⟨z,Kv,r,p⟩:=h.ok I.hok;exact ⟨Kv,r,p,z⟩
 ·refine ⟨Kv.toList,r,⟨o,I.kIn a o hk,hc,n,by simpa using hs⟩,?_⟩;have e:=r.length;simp only [UK] at e;omega
theorem Inv.list_inj (I:Inv X Kz σ H s) (h:SqL X.K H a xs) (h':SqL X.K H a ys):xs=ys:=by
 obtain ⟨Kv,r,⟨o,n,e,_,_,d⟩,_⟩:=I.list h;obtain ⟨its',r',⟨o',n',e',_,_,d'⟩,_⟩:=I.list h';rw [e] at e';cases e';rw [d] at d';injection d' with d1 _
 have:Kv=its':=by simpa using WE Array.toList d1
 subst this;exact r.inj r'
theorem Inv.tuple_inj (I:Inv X Kz σ H s) (h:SqT X.K H a xs) (h':SqT X.K H a ys):xs=ys:=by
 obtain ⟨Kv,r,⟨o,e,_,n,d⟩,_⟩:=I.tuple h;obtain ⟨its',r',⟨o',e',_,n',d'⟩,_⟩:=I.tuple h';rw [e] at e';cases e';rw [d] at d';injection d' with d1 _
 have:Kv=its':=by simpa using WE Array.toList d1
 subst this;exact r.inj r'
end
abbrev Cx.wish (X:Cx) (E:Kf):Cx:={ X with xe:=E }
abbrev Cx.nox (X:Cx):Cx:=X.wish λ_ _=>False
theorem Cx.Ok.wish {X:Cx} (ok:X.Ok) (E:Kf):(X.wish E).Ok :=
 ⟨ok.mod,ok.kind,ok.glob,ok.blt,ok.above,ok.inj,ok.has,ok.cab,ok.hd,ok.frames,ok.stk,ok.exf,ok.bs,ok.bsz,ok.noex,ok.exfs,ok.funs,ok.frf⟩
theorem Cx.Ok.unwish {X:Cx} {E:Kf} (ok:(X.wish E).Ok):X.Ok :=
 ⟨ok.mod,ok.kind,ok.glob,ok.blt,ok.above,ok.inj,ok.has,ok.cab,ok.hd,ok.frames,ok.stk,ok.exf,ok.bs,ok.bsz,ok.noex,ok.exfs,ok.funs,ok.frf⟩
section
variable {X:Cx} {Kz:Ke} {σ:St} {H:Hp} {s:Shared} {E:Kf}
theorem Inv.wish (I:Inv X Kz σ H s) (E:Kf):Inv (X.wish E) Kz σ H s:=⟨I.ok.wish E,I.os,I.bare,I.base,I.loc,I.cell,I.free,I.freeC,I.pin,I.hok,I.len⟩
theorem Inv.unwish (I:Inv (X.wish E) Kz σ H s):Inv X Kz σ H s:=⟨I.ok.unwish,I.os,I.bare,I.base,I.loc,I.cell,I.free,I.freeC,I.pin,I.hok,I.len⟩
theorem SP.unwish {D:Ends} {f:Flow} {s':Shared} (h:SP (X.wish E) Kz D f s'):SP X Kz D f s':=by
 cases f with
 | next=>obtain ⟨Kt,H',I,q⟩:=h;exact ⟨Kt,H',I.unwish,q⟩
 | brk=>obtain ⟨Kt,H',I,q⟩:=h;exact ⟨Kt,H',I.unwish,q⟩
 | cont=>obtain ⟨Kt,H',I,q⟩:=h;exact ⟨Kt,H',I.unwish,q⟩
 | ret u=>obtain ⟨v,Kt,H',I,r,q⟩:=h;exact ⟨v,Kt,H',I.unwish,r,q⟩
theorem PSs.nox {st:List Stmt} {t:TS} (h:PSs X.nox st t):PSs X st t:=λKz s σ H D I hw =>
 Jh (h Kz s σ H D (I.wish _) hw) (λ_ _ q=>q.unwish) λ_ _ z=>False.elim z
end
section
variable {X:Cx} {st:Stmt} {rest:List Stmt} {t u:TS} {e:Expr} {te:TE} {pos:Pos}
def Qz9:TS:=λD σ H=>D.nx σ H
def Jaz (t u:TS):TS:=λD σ H=>t { D with nx:=u D } σ H
theorem Qtk:PSs X [] Qz9:=λ_ _ σ H _ I h=>wpAny_execs_nil ⟨σ,H,I,h⟩
theorem Zy (h1:PS X st t) (h2:PSs X rest u):PSs X (st::rest) (Jaz t u):=by
 intro Kz s σ H D I h;refine wpAny_execs_cons (thn (h1 Kz s σ H { D with nx:=u D } I h) λf s1 q=> ?_);cases f with
 | next =>
  obtain ⟨Kt,H',I',q⟩:=q;exact h2 Kz s1 Kt H' D I' q
 | ret v=>exact q
 | brk=>exact q
 | cont=>exact q
theorem YV (h1:PS X st t):PSs X [st] t:=by
 intro Kz s σ H D I h;refine wpAny_execs_cons (thn (h1 Kz s σ H D I h) λf s1 q=> ?_);cases f with
 | next=>exact wpAny_execs_nil q
 | ret v=>exact q
 | brk=>exact q
 | cont=>exact q
theorem Inv.quiet {Kz:Ke} {σ:St} {H:Hp} {s:Shared} (I:Inv X Kz σ H s):interactive X.env=false:=by simp [interactive,I.ok.kind]
def Qze (te:TE):TS:=λD σ H=>te σ H λ_ H1=>D.nx σ H1
theorem YW (he:PE X e te) (hs:swapsWith e none pos.line X.env=pure false:=by rfl):PS X (.Expr e pos) (Qze te):=by
 intro Kz s σ H D I h;exact wpAny_Expr_any (thn (he Kz s σ H _ I h) λv s1 ⟨x,H1,I1,r1,q1⟩=>⟨σ,H1,I1,q1⟩) I.quiet hs
def Jb0 (te:TE):TS:=λD σ H=>te σ H D.rt
theorem Qdy (he:PE X e te):PS X (.Return (some e) pos) (Jb0 te):=by
 intro Kz s σ H D I h;exact wpAny_Return_some (thn (he Kz s σ H _ I h) λv s1 ⟨x,H1,I1,r1,q1⟩=>⟨x,σ,H1,I1,r1,q1⟩)
def Jb3 (c:TT) (t u:TS):TS:=λD σ H=>c σ H λb H1=>if b=true then t D σ H1 else u D σ H1
theorem Qvu {c:Expr} {a b:List Stmt} {tc:TT} (hc:PT X c tc) (ha:PSs X a t) (hb:PSs X b u):PS X (.If c a b pos) (Jb3 tc t u):=by
 intro Kz s σ H D I h;refine wpAny_If (thn (hc Kz s σ H _ I h) λd s1 ⟨H1,I1,q1⟩=> ?_);cases d with
 | true=>exact ha Kz s1 σ H1 D I1 q1
 | false=>exact hb Kz s1 σ H1 D I1 q1
def Qo6:TS:=λ_ _ _=>False
theorem Bx {sts:List Stmt}:PSs X sts Qo6:=λ_ _ _ _ _ _ h=>h.elim
end
abbrev TG:=V->St->Hp->(St->Hp->Prop)->Prop
abbrev TGs:=List V->St->Hp->(St->Hp->Prop)->Prop
def PG (X:Cx) (target:Expr) (t:TG):Prop :=
 ∀ (Kz:Ke) (s:Shared) (σ:St) (H:Hp) (v:V) (u:Value) (Q:St->Hp->Prop),Inv X Kz σ H s->RelV v u->t v σ H Q ->
  wpAny (model X.prog X.w) X.A (assign target X.env u) (λ_ s'=> ∃ Kt H',Inv X Kz Kt H' s'/\Q Kt H') X.xe s
def PGs (X:Cx) (ts:List Expr) (t:TGs):Prop :=
 ∀ (Kz:Ke) (s:Shared) (σ:St) (H:Hp) (vs:List V) (us:List Value) (Q:St->Hp->Prop),Inv X Kz σ H s->Vals vs us->t vs σ H Q ->
  wpAny (model X.prog X.w) X.A (assignInOrder ((assignEach ts X.env).map (·.2)) us) (λ_ s'=> ∃ Kt H',Inv X Kz Kt H' s'/\Q Kt H') X.xe s
section
variable {X:Cx} {pos:Pos}
def Ba (i:Nat):TG:=λv σ H Q=>Q (σ.set i (some v)) H
theorem Jr {i:Nat} {x:Str} (hN:X.N.Nodup) (hi:X.N[i]? =some x) (hx:Loc X.env.scope x) (hf:X.fn x=true \/ X.env.scope.names.lookup x=some .local:=by first | exact .inl rfl | exact .inr rfl | assumption):PG X (.Name x pos) (Ba i):=by
 intro Kz s σ H v u Q I r h;exact Qba (OR I hN hi hx r (λs' I'=>⟨_,H,I',h⟩) hf)
def Jag:TGs:=λvs σ H Q=>vs=[]/\Q σ H
def Qrc (t:TG) (u:TGs):TGs:=λvs σ H Q=> ∃ v r,vs=v::r/\t v σ H λKt H'=>u r Kt H' Q
theorem YY:PGs X [] Jag:=by
 intro Kz s σ H vs us Q I r h;obtain ⟨e,h⟩:=h;subst e;cases r;exact assignInOrder_nil ⟨σ,H,I,h⟩
theorem Vh {e:Expr} {es:List Expr} {t:TG} {u:TGs} (h1:PG X e t) (h2:PGs X es u)
  (hs:(assignEach (e::es) X.env).map (·.2)=assign e X.env::(assignEach es X.env).map (·.2):=by rfl):PGs X (e::es) (Qrc t u):=by
 intro Kz s σ H vs us Q I r h;obtain ⟨v,vr,e1,h⟩:=h;subst e1;cases r with
 | cons r rr =>
  rw [hs];refine assignInOrder_cons (thn (h1 Kz s σ H _ _ _ I r h) λ_ s1 ⟨σ1,H1,I1,q1⟩=> ?_);exact h2 Kz s1 σ1 H1 _ _ Q I1 rr q1
def Jaf (K:W.Frag) (n:Nat) (t:TGs):TG:=λv σ H Q=> ∃ a xs,v= .ref a/\SqT K H a xs/\xs.length=n/\t xs σ H Q
theorem Gk {es:List Expr} {k:Nat} {t:TGs} {n:Nat} (hc:X.calm=true) (h:PGs X es t)
  (hn:(assignEach es X.env).length=n:=by rfl) (hst:(assignEach es X.env).findIdx? (·.1)=none:=by rfl):PG X (.Tuple es k pos) (Jaf X.K n t):=by
 intro Kz s σ H v u Q I r hw;obtain ⟨a,xs,e1,hq,hl,hw⟩:=hw;subst e1;cases r;obtain ⟨Kv,rv,ht,hz⟩:=I.tuple hq;refine assign_Tuple_tuple (I.ok.hd hc) ht (by simp [hn,<- hl,rv.length]) hst λh' hx=> ?_
 have I1:Inv X Kz σ H { s with heap:=h' }:=I.kept (t':=s.toks) λb o e=>hx b o (Qp (Qi e)) e
 exact h Kz _ σ H xs _ Q I1 (by simpa using rv) hw
def Qww (te:TE) (g:TG):TS:=λD σ H=>te σ H λx H1=>g x σ H1 D.nx
theorem Gj {i:Nat} {x:Str} {e:Expr} {te:TE} {pos':Pos} (hN:X.N.Nodup) (hi:X.N[i]? =some x) (hx:Loc X.env.scope x) (he:PE X e te) (hs:swapsWith e (some (.Name x pos')) pos.line X.env=pure false:=by rfl) (hf:X.fn x=true \/ X.env.scope.names.lookup x=some .local:=by first | exact .inl rfl | exact .inr rfl | assumption) :
  PS X (.Assign [.Name x pos'] e pos) (Qww te (Ba i)):=by
 intro Kz s σ H D I h;refine wpAny_Assign_Name (thn (he Kz s σ H _ I h) λv s1 ⟨y,H1,I1,r1,q1⟩=> ?_) hs;exact OR I1 hN hi hx r1 (λs2 I2=>⟨_,H1,I2,q1⟩) hf
end
structure It where
 go:Nat->Hp->Prop
 yld:Nat->Hp->V->Hp->Prop
 stop:Nat->Hp->Prop
def FpOk (X:Cx) (Kz:Ke) (H:Hp) (b:Addr):Prop :=
 H b=none/\b≠X.env.locals/\b ∉ X.fs/\(b∈X.ex \/ X.s₀.heap.objs.size<=b)/\(∀ x c,X.env.cells.lookup x=some c->c≠b)/\ ∀ p∈X.pn++Kz,p.1≠b
theorem Inv.fpOk {X:Cx} {Kz:Ke} {σ:St} {H H':Hp} {s:Shared} {b:Addr} (I:Inv X Kz σ H s) (hb:s.heap.objs.size<=b) (hn:H' b=none):FpOk X Kz H' b:=by
 refine ⟨hn,W1 (Qr I.lt hb),I.nofs hb,.inr (Qu I.sz hb),λx c e z=> ?_,λp hp z=> ?_⟩
 ·obtain ⟨v,q⟩:=I.cell x c e;exact absurd (Qr q.lt (by rw [z];exact hb)) (JK _)
 ·exact absurd (Qr (Qi (I.pin p hp).1) (by rw [z];exact hb)) (JK _)
structure Turn (P:Program) (w:World) (K:W.Frag) (tg:Expr) (J:It) (fp:List Addr) (it:Addr) (tn:Nat->Heap->Prop):Prop where
 mem:it∈fp
 obj: ∀ i h,tn i h-> ∀ b∈fp,∃ o,h.get? b=some o/\ ∀ v,o.data≠ .cell v
 keep: ∀ i h h',tn i h->(∀ b∈fp,∀ o,h.get? b=some o->h'.get? b=some o)->tn i h'
 item: ∀ (X:Cx),X.prog=P->X.w=w->X.K=K->X.calm=true-> ∀ (i:Nat) (Kz:Ke) (s:Shared) (σ:St) (H:Hp) (E:Kf),Inv X Kz σ H s->(∀ b∈fp,FpOk X Kz H b)->tn i s.heap->J.go i H ->
  wpAny (model P w) X.A (pyNext (.ref it)) (λr s1=> ∃ u,r=some u /\
   wpAny (model P w) X.A (letOwnedTupleGo tg (.ref it) u) (λ_ s2=> ∃ x H',Inv X Kz σ H' s2/\RelV x u/\J.yld i H x H'/\tn (i+1) s2.heap/\ ∀ b∈fp,H' b=none) E s1) E s
 done: ∀ (X:Cx),X.prog=P->X.w=w->X.K=K->X.calm=true-> ∀ (i:Nat) (Kz:Ke) (s:Shared) (σ:St) (H:Hp) (E:Kf),Inv X Kz σ H s->(∀ b∈fp,FpOk X Kz H b)->tn i s.heap->J.stop i H ->
  wpAny (model P w) X.A (pyNext (.ref it)) (λr s1=>r=none/\Inv X Kz σ H s1) E s
 self: ∀ (A:Around) (i:Nat) (s:Shared) (Q:Kf) (E:Kf),tn i s.heap->Q (.ref it) s->wpAny (model P w) A (pyIter (.ref it)) Q E s
abbrev TI:=St->Hp->(It->Hp->Prop)->Prop
def PIE (X:Cx) (Kz:Ke) (σ:St) (tg:Expr) (R:It->Hp->Prop) (itv:Value) (s2:Shared):Prop :=
 ∃ (it:Addr) (fp:List Addr) (tn:Nat->Heap->Prop) (J:It) (H':Hp),itv= .ref it/\Inv X Kz σ H' s2/\Turn X.prog X.w X.K tg J fp it tn/\tn 0 s2.heap/\(∀ b∈fp,FpOk X Kz H' b)/\R J H'
def PI (X:Cx) (tg iter:Expr) (wi:TI):Prop :=
 ∀ (Kz:Ke) (s:Shared) (σ:St) (H:Hp) (R:It->Hp->Prop),Inv X Kz σ H s->wi σ H R ->
  wpAny (model X.prog X.w) X.A (eval iter X.env) (λv s1=>wpAny (model X.prog X.w) X.A (pyIter v) (PIE X Kz σ tg R) X.xe s1) X.xe s
theorem Qr8 {M:Model} {A:Around} {E:Kf} {s:Shared} {tg:Expr} {it:Addr} {u:Value} {o:Obj} {n:String} {vs:Array Value} {Q:Unit->Shared->Prop} (ho:s.heap.get? it=some o) (hc:o.cls= .type n) (hd:o.data= .fields vs)
  (hn:["enumerate", "zip", "dict_itemiterator", "dict_reverseitemiterator", "odict_iterator", "itertools.zip_longest", "itertools.pairwise"].contains n=false) (hQ:Q () s):wpAny M A (letOwnedTupleGo tg (.ref it) u) Q E s:=by
 unfold letOwnedTupleGo;cases tg<;>first
  | exact Q3 hQ
  | (cases u<;>first
    | exact Q3 hQ
    | (refine Q0 (wpAny_load ho ?_)
       rw [hc,hd];show wpAny M A (if (["enumerate", "zip", "dict_itemiterator", "dict_reverseitemiterator", "odict_iterator", "itertools.zip_longest", "itertools.pairwise"].contains n && vs[0]? == some (rawInt _))=true then _ else _) Q E s;rw [Qg (by intro h;rw [hn,Qwl] at h;cases h)];exact Q3 hQ))
def Itl (K:W.Frag) (a:Addr):It :=
 ⟨λi H=> ∃ xs x,SqL K H a xs/\xs[i]? =some x,λi H x H'=>H'=H/\ ∀ xs,SqL K H a xs->xs[i]? =some x,λi H=> ∃ xs,SqL K H a xs/\xs.length<=i⟩
def Itt (K:W.Frag) (a:Addr):It :=
 ⟨λi H=> ∃ xs x,SqT K H a xs/\xs[i]? =some x,λi H x H'=>H'=H/\ ∀ xs,SqT K H a xs->xs[i]? =some x,λi H=> ∃ xs,SqT K H a xs/\xs.length<=i⟩
def Itr (lo:Int) (n:Nat):It:=⟨λi _=>i < n,λi H x H'=>H'=H/\x= .int (lo+i),λi _=>n<=i⟩
theorem Qls {P:Program} {w:World} {K:W.Frag} {tg:Expr} (a it:Addr):Turn P w K tg (Itl K a) [it] it (λi h=>h.IsListIter it a i) where
 mem:=by simp
 obj:=λi h st b hb=>by
  have e:b=it:=by simpa using hb
  subst e;obtain ⟨o,e,c,d⟩:=st;exact ⟨o,e,λv z=>by rw [d] at z;cases z⟩
 keep:=λi h h' st k=>st.at λo e=>k it (by simp) o e
 item:=by
  intro X hP hw hK hc i Kz s σ H E I hf st hg;subst hP hw hK;obtain ⟨xs,x,hq,hx⟩:=hg;obtain ⟨Kv,rv,p,hz⟩:=I.list hq;obtain ⟨u,hu,ru⟩:=rv.get hx;obtain ⟨f0,f1,f2,f3,f4,f5⟩:=hf it (by simp);refine wpAny_pyNext_list_item st p.isList (x:=u) (by simpa using hu) λh' st' sb=> ?_
  have I1:Inv X Kz σ H { s with heap:=h' }:=I.turned (t':=s.toks) (λb o hb e=>(sb.2 b hb).trans e) f0 f1 f3 f4 f5;obtain ⟨o,e,c,d⟩:=id st';exact ⟨u,rfl,Qr8 (s:={ s with heap:=h' }) e c d (by decide) ⟨x,H,I1,ru,⟨rfl,λys hy=>by rw [I.list_inj hy hq];exact hx⟩,st',λb hb=>(hf b hb).1⟩⟩
 done:=by
  intro X hP hw hK hc i Kz s σ H E I hf st hg;subst hP hw hK;obtain ⟨xs,hq,hx⟩:=hg;obtain ⟨Kv,rv,p,hz⟩:=I.list hq;obtain ⟨f0,f1,f2,f3,f4,f5⟩:=hf it (by simp);have hl:=rv.length;exact wpAny_pyNext_list_end (I.ok.hd hc) st p.isList (by simp;omega) λh' eb=>⟨rfl,I.turned (t':=s.toks) (λb o hb e=>eb b o hb e) f0 f1 f3 f4 f5⟩
 self:=λ_ _ _ _ _ st h=>wpAny_pyIter_listiter st h
theorem Qhn {P:Program} {w:World} {K:W.Frag} {tg:Expr} (a it:Addr):Turn P w K tg (Itt K a) [it] it (λi h=>h.IsTupleIter it a i) where
 mem:=by simp
 obj:=λi h st b hb=>by
  have e:b=it:=by simpa using hb
  subst e;obtain ⟨o,e,c,d⟩:=st;exact ⟨o,e,λv z=>by rw [d] at z;cases z⟩
 keep:=λi h h' st k=>st.at λo e=>k it (by simp) o e
 item:=by
  intro X hP hw hK hc i Kz s σ H E I hf st hg;subst hP hw hK;obtain ⟨xs,x,hq,hx⟩:=hg;obtain ⟨Kv,rv,p,hz⟩:=I.tuple hq;obtain ⟨u,hu,ru⟩:=rv.get hx;obtain ⟨f0,f1,f2,f3,f4,f5⟩:=hf it (by simp);refine wpAny_pyNext_tuple_item st (show s.heap.IsTuple a Kv.toArray from p) (x:=u) (by simpa using hu) λh' st' sb=> ?_
  have I1:Inv X Kz σ H { s with heap:=h' }:=I.turned (t':=s.toks) (λb o hb e=>(sb.2 b hb).trans e) f0 f1 f3 f4 f5;obtain ⟨o,e,c,d⟩:=id st';exact ⟨u,rfl,Qr8 (s:={ s with heap:=h' }) e c d (by decide) ⟨x,H,I1,ru,⟨rfl,λys hy=>by rw [I.tuple_inj hy hq];exact hx⟩,st',λb hb=>(hf b hb).1⟩⟩
 done:=by
  intro X hP hw hK hc i Kz s σ H E I hf st hg;subst hP hw hK;obtain ⟨xs,hq,hx⟩:=hg;obtain ⟨Kv,rv,p,hz⟩:=I.tuple hq;obtain ⟨f0,f1,f2,f3,f4,f5⟩:=hf it (by simp);have hl:=rv.length;exact wpAny_pyNext_tuple_end (I.ok.hd hc) st (show s.heap.IsTuple a Kv.toArray from p) (by simp;omega) λh' eb=>⟨rfl,I.turned (t':=s.toks) (λb o hb e=>eb b o hb e) f0 f1 f3 f4 f5⟩
 self:=λ_ _ _ _ _ st h=>wpAny_pyIter_tupleiter st h
theorem Qho {P:Program} {w:World} {K:W.Frag} {tg:Expr} (it:Addr) (lo:Int) (n:Nat):Turn P w K tg (Itr lo n) [it] it (λi h=>IsRangeIter h it (lo+(i:Nat) * 1) ((n:Int) - (i:Nat)) 1) where
 mem:=by simp
 obj:=λi h st b hb=>by
  have e:b=it:=by simpa using hb
  subst e;exact ⟨_,st,λv z=>by
   have z':Data.fields _=Data.cell v:=z;cases z'⟩
 keep:=λi h h' st k=>k it (by simp) _ st
 item:=by
  intro X hP hw hK hc i Kz s σ H E I hf st hg;subst hP hw hK;obtain ⟨f0,f1,f2,f3,f4,f5⟩:=hf it (by simp);have W:=Walks.range (prog:=X.prog) (w:=X.w) (I.ok.hd hc) it lo 1 n;refine W.item i s _ _ hg st λv h' tk hv st' kk=> ?_
  obtain ⟨t,rfl⟩:=hv;have I1:Inv X Kz σ H { s with heap:=h',toks:=tk }:=I.turned (λb o hb e=>kk b o (by simpa using hb) e) f0 f1 f3 f4 f5;refine ⟨_,rfl,Qr8 (s:={ s with heap:=h',toks:=tk }) (n:= "range_iterator") st' rfl rfl (by decide) ⟨.int (lo+i),H,I1,⟨t,?_⟩,⟨rfl,rfl⟩,st',λb hb=>(hf b hb).1⟩⟩;rw [Int.mul_one]
 done:=by
  intro X hP hw hK hc i Kz s σ H E I hf st hg;subst hP hw hK;obtain ⟨f0,f1,f2,f3,f4,f5⟩:=hf it (by simp);exact wpAny_pyNext_range_end (I.ok.hd hc) st (by have:n<=i:=hg;omega) λh' eb=>⟨rfl,I.turned (t':=s.toks) (λb o hb e=>eb b o hb e) f0 f1 f3 f4 f5⟩
 self:=λ_ _ _ _ _ st h=>wpAny_pyIter_rangeiter st h
section
variable {X:Cx} {tg:Expr}
def Qg4 (K:W.Frag) (tl:TE):TI:=λσ H R=>tl σ H λx H1=> ∃ a,x= .ref a/\(∃ xs,SqL K H1 a xs)/\R (Itl K a) H1
def Jac (K:W.Frag) (tl:TE):TI:=λσ H R=>tl σ H λx H1=> ∃ a,x= .ref a/\(∃ xs,SqT K H1 a xs)/\R (Itt K a) H1
theorem ZY {l:Expr} {tl:TE} (hl:PE X l tl):PI X tg l (Qg4 X.K tl):=by
 intro Kz s σ H R I h;refine thn (hl Kz s σ H _ I h) λv s1 ⟨x,H1,I1,r1,q1⟩=> ?_
 obtain ⟨a,e,⟨xs,hq⟩,q⟩:=q1;subst e;cases r1;obtain ⟨Kv,rv,p,hz⟩:=I1.list hq;refine Qb7 p.isList ?_;refine ⟨s1.heap.objs.size,[s1.heap.objs.size],_,_,H1,rfl,I1.kept (t':=s1.toks) λb o e=>Q1 _ e,Qls a _,⟨_,Qd _ rfl,rfl,rfl⟩,λb hb=> ?_,q⟩;have e:b=s1.heap.objs.size:=by simpa using hb
 subst e;exact I1.fpOk (Q5 _) (I1.hok.fresh (Q5 _))
theorem Qa2 {l:Expr} {tl:TE} (hl:PE X l tl):PI X tg l (Jac X.K tl):=by
 intro Kz s σ H R I h;refine thn (hl Kz s σ H _ I h) λv s1 ⟨x,H1,I1,r1,q1⟩=> ?_
 obtain ⟨a,e,⟨xs,hq⟩,q⟩:=q1;subst e;cases r1;obtain ⟨Kv,rv,p,hz⟩:=I1.tuple hq;refine Yw (show s1.heap.IsTuple a Kv.toArray from p) ?_;refine ⟨s1.heap.objs.size,[s1.heap.objs.size],_,_,H1,rfl,I1.kept (t':=s1.toks) λb o e=>Q1 _ e,Qhn a _,⟨_,Qd _ rfl,rfl,rfl⟩,λb hb=> ?_,q⟩;have e:b=s1.heap.objs.size:=by simpa using hb
 subst e;exact I1.fpOk (Q5 _) (I1.hok.fresh (Q5 _))
theorem Qou {Kz:Ke} {σ:St} {H:Hp} {s:Shared} {R:It->Hp->Prop} {E:Kf} {lo hi:Int} {t u v:Tok} {tk:Nat} (I:Inv X Kz σ H s) (h1: -(2 ^ 62)<=lo) (h2:lo < 2 ^ 62) (h3: -(2 ^ 62)<=hi) (h4:hi < 2 ^ 62)
  (q:R (Itr lo (hi - lo).toNat) H):wpAny (model X.prog X.w) X.A (pyIter (.ref s.heap.objs.size)) (PIE X Kz σ tg R) E { s with heap:=s.heap.push { cls:= .type "range",data:= .fields #[.int lo t,.int hi u,.int 1 v] },toks:=tk }:=by
 refine wpAny_pyIter_range (IsRange.new ..) (small_one h1 h2 h3 h4) ?_;have I1:Inv X Kz σ H { s with heap:=s.heap.push { cls:= .type "range",data:= .fields #[.int lo t,.int hi u,.int 1 v] },toks:=tk }:=I.kept λb o e=>Q1 _ e
 refine ⟨(s.heap.push { cls:= .type "range",data:= .fields #[.int lo t,.int hi u,.int 1 v] }).objs.size,[(s.heap.push { cls:= .type "range",data:= .fields #[.int lo t,.int hi u,.int 1 v] }).objs.size],_,_,H,rfl,
  I1.kept (t':=tk) λb o e=>Q1 _ e,Qho _ lo (hi - lo).toNat,?_,λb hb=> ?_,q⟩
 ·have e1:lo+((0:Nat):Int) * 1=lo:=by simp
  have e2:(((hi - lo).toNat:Nat):Int) - ((0:Nat):Int)=Builtin.Range.rangeSize lo hi 1:=by rw [rangeSize_one];split<;>omega
  show IsRangeIter _ _ (lo+((0:Nat):Int) * 1) ((((hi - lo).toNat:Nat):Int) - ((0:Nat):Int)) 1;rw [e1,e2];exact Qd _ rfl
 ·have e:b=(s.heap.push { cls:= .type "range",data:= .fields #[.int lo t,.int hi u,.int 1 v] }).objs.size:=by simpa using hb
  subst e;exact I1.fpOk (Q5 _) (I1.hok.fresh (Q5 _))
def Jad (ta:TA):TI:=λσ H R=>ta σ H λvs H1=> ∃ j:Int,vs=[.int j]/\ -(2 ^ 62)<=j/\j < 2 ^ 62/\R (Itr 0 j.toNat) H1
theorem Qc2 {a:Expr} {ta:TA} {p pos:Pos} (hg:Gl X "range") (hm:X.mg "range" =none) (ha:PA X [a] ta) (hs:starEach [a] X.env=[(false,eval a X.env)]:=by rfl):PI X tg (.Call (.Name "range" p) [a] [] pos) (Jad ta):=by
 intro Kz s σ H R I h;refine Call_ (Y8 I hg hm boot_range (Jo (thn (ha pos Kz s σ H _ I h) λus s1 ⟨vs,H1,I1,r1,q1⟩=> ?_) hs rfl));obtain ⟨j,e,q1,q2,q⟩:=q1;subst e;cases r1 with
 | cons r rr =>
  cases rr;obtain ⟨t,rfl⟩:=r;exact call_range_1 (Qou I1 (by omega) (by omega) q1 q2 (by simpa using q))
def Jb4 (wi:TI) (g:TG) (tb:TS):TS:=λD σ H=>wi σ H λJ H1=> ∃ W:Nat->Nat->St->Hp->Prop,(∃ m,W 0 m σ H1)/\ ∀ i m σ H,W i m σ H ->
 (J.stop i H/\D.nx σ H) \/ (J.go i H/\ ∃ N:St->Hp->Prop,(∀ Kt H',N Kt H'-> ∃ m',m' < m/\W (i+1) m' Kt H')/\ ∀ x H',J.yld i H x H'->g x σ H' λσ2 H2=>tb { D with nx:=N,ct:=N,bk:=D.nx } σ2 H2)
def YX (fp:List Addr) (h:Heap):Ke:=fp.filterMap λb=>(h.get? b).map λo=>(b,o)
theorem Zo {fp:List Addr} {h:Heap} {b:Addr} {o:Obj} (hb:b∈fp) (e:h.get? b=some o):(b,o)∈YX fp h:=Z0.mpr ⟨b,hb,by rw [e];rfl⟩
theorem Qme {fp:List Addr} {h:Heap} {p:Addr×Obj} (hp:p∈YX fp h):p.1∈fp/\h.get? p.1=some p.2:=by
 obtain ⟨b,hb,e⟩:=Z0.mp hp;cases q:h.get? b with
 | none=>rw [q] at e;cases e
 | some o =>
  rw [q] at e;have e':(b,o)=p:=J4 e;subst e';exact ⟨hb,q⟩
theorem Inv.pinned {Kz:Ke} {σ:St} {H:Hp} {s:Shared} {fp:List Addr} (I:Inv X Kz σ H s) (hf: ∀ b∈fp,FpOk X Kz H b) (ho: ∀ b∈fp,∃ o,s.heap.get? b=some o/\ ∀ v,o.data≠ .cell v):Inv X (Kz++YX fp s.heap) σ H s :=
 I.pins_of λp hp=>(Qy.mp hp).elim (λz=>I.pin p (QC _ z)) λz=>by
  obtain ⟨hb,e⟩:=Qme z;obtain ⟨f0,f1,f2,_⟩:=hf p.1 hb;obtain ⟨o,e',d⟩:=ho p.1 hb;rw [e] at e';cases e';exact ⟨e,f0,f1,f2,d⟩
theorem Inv.unpinned {Kz pl:Ke} {σ:St} {H:Hp} {s:Shared} (I:Inv X (Kz++pl) σ H s):Inv X Kz σ H s:=I.pins_of λp hp=>I.pin p (QC _ (Ji _ hp))
theorem Yv {iter:Expr} {body:List Stmt} {wi:TI} {g:TG} {tb:TS} {pos:Pos} (hp:PassesOwn (model X.prog X.w) X.A X.env X.xe) (hc:X.calm=true) (hi:PI X tg iter wi) (hg:PG X tg g) (hb:PSs X body tb)
  (hs: ∀ x,foldedSetIterable iter X.env x=pure x:=by intro _;rfl):PS X (.For tg iter body [] pos) (Jb4 wi g tb):=by
 intro Kz s σ H D I h;refine wpAny_For (thn (hi Kz s σ H _ I h) λv s1 h1=>thn h1 λitv s2 h2=> ?_) hs;obtain ⟨it,fp,tn,J,H2,e,I2,T,st2,f2,W,⟨m0,w0⟩,turn⟩:=h2;subst e;have stat: ∀ {H':Hp},(∀ b∈fp,H' b=none)-> ∀ b∈fp,FpOk X Kz H' b:=λhn b hb=>⟨hn b hb,(f2 b hb).2⟩
 refine codeAny_forLoop_any (λn s'=> ∃ i Kt H',Inv X Kz Kt H' s'/\tn i s'.heap/\(∀ b∈fp,H' b=none)/\W i n Kt H') ?_ m0 ⟨0,σ,H2,I2,st2,λb hb=>(f2 b hb).1,w0⟩;rintro n s3 ⟨i,σ3,H3,I3,st3,fr3,w3⟩;rcases turn i n σ3 H3 w3 with ⟨stop,qn⟩ | ⟨go,N,hN,step⟩
 ·refine Gu hp (thn (T.done X rfl rfl rfl hc i Kz s3 σ3 H3 X.xe I3 (stat fr3) st3 stop) λr s4 ⟨hr,I4⟩=> ?_);subst hr;exact wpAny_execs_nil ⟨σ3,H3,I4,qn⟩
 ·refine Gu hp (thn (T.item X rfl rfl rfl hc i Kz s3 σ3 H3 X.xe I3 (stat fr3) st3 go) λr s4 ⟨u,hr,h4⟩=> ?_);subst hr;refine Gu hp (thn h4 λ_ s5 ⟨x,H5,I5,r5,y5,st5,fr5⟩=> ?_);have I5':=I5.pinned (stat fr5) (T.obj _ _ st5);refine Gu hp (thn (hg _ s5 σ3 H5 x u _ I5' r5 (step x H5 y5)) λ_ s6 ⟨σ6,H6,I6,q6⟩=> ?_);refine Gu hp (thn (hb _ s6 σ6 H6 _ I6 q6) λf s7 q7=> ?_);have again: ∀ {σ7:St} {H7:Hp},Inv X (Kz++YX fp s5.heap) σ7 H7 s7->N σ7 H7-> ∃ m,m < n/\ ∃ i Kt H',Inv X Kz Kt H' s7/\tn i s7.heap/\(∀ b∈fp,H' b=none)/\W i m Kt H':=λ{σ7 H7} I7 n7=>by
   obtain ⟨m',hm,w7⟩:=hN σ7 H7 n7;refine ⟨m',hm,i+1,σ7,H7,I7.unpinned,T.keep _ _ _ st5 λb hb o e=>(I7.pin (b,o) (QC _ (QC _ (Zo hb e)))).1,λb hb=> ?_,w7⟩;obtain ⟨o,e,d⟩:=T.obj _ _ st5 b hb;exact (I7.pin (b,o) (QC _ (QC _ (Zo hb e)))).2.1
  cases f with
  | next=>obtain ⟨σ7,H7,I7,n7⟩:=q7;exact again I7 n7
  | cont=>obtain ⟨σ7,H7,I7,n7⟩:=q7;exact again I7 n7
  | brk=>obtain ⟨σ7,H7,I7,q7⟩:=q7;exact ⟨σ7,H7,I7.unpinned,q7⟩
  | ret v=>obtain ⟨x7,σ7,H7,I7,r7,q7⟩:=q7;exact ⟨x7,σ7,H7,I7.unpinned,r7,q7⟩
end
theorem Qrd {K:W.Frag} {a:Addr} {xs:List V} {g:TG} {tb:TS} {D:Ends} {σ:St} {H:Hp} (Pv:Nat->St->Hp->Prop) (h0:Pv 0 σ H) (hl: ∀ i σ H,i<=xs.length->Pv i σ H->SqL K H a xs)
  (hs: ∀ i x σ H,xs[i]? =some x->Pv i σ H->g x σ H λσ2 H2=>tb { D with nx:=Pv (i+1),ct:=Pv (i+1),bk:=D.nx } σ2 H2) (hd: ∀ σ H,Pv xs.length σ H->D.nx σ H) :
  ∃ W:Nat->Nat->St->Hp->Prop,(∃ m,W 0 m σ H)/\ ∀ i m σ H,W i m σ H ->
   ((Itl K a).stop i H/\D.nx σ H) \/ ((Itl K a).go i H/\ ∃ N:St->Hp->Prop,(∀ Kt H',N Kt H'-> ∃ m',m' < m/\W (i+1) m' Kt H')/\ ∀ x H',(Itl K a).yld i H x H'->g x σ H' λσ2 H2=>tb { D with nx:=N,ct:=N,bk:=D.nx } σ2 H2):=by
 refine ⟨λi m σ H=>m=xs.length - i/\i<=xs.length/\Pv i σ H,⟨xs.length,by simp,Qz _,h0⟩,?_⟩;rintro i m σ H ⟨rfl,hi,p⟩;have q:=hl i σ H hi p
 by_cases Ks:i < xs.length
 ·refine .inr ⟨⟨xs,xs[i],q,by simp [Ks]⟩,Pv (i+1),λKt H' p'=>⟨xs.length - (i+1),by omega,rfl,Ks,p'⟩,λx H' y=> ?_⟩;obtain ⟨e,y⟩:=y;subst e;exact hs i x σ _ (y xs q) p
 ·have e:i=xs.length:=by omega
  subst e;exact .inl ⟨⟨xs,q,Q5 _⟩,hd σ H p⟩
theorem Qv7 {K:W.Frag} {a:Addr} {xs:List V} {g:TG} {tb:TS} {D:Ends} {σ:St} {H:Hp} (Pv:Nat->St->Hp->Prop) (h0:Pv 0 σ H) (hl: ∀ i σ H,i<=xs.length->Pv i σ H->SqT K H a xs)
  (hs: ∀ i x σ H,xs[i]? =some x->Pv i σ H->g x σ H λσ2 H2=>tb { D with nx:=Pv (i+1),ct:=Pv (i+1),bk:=D.nx } σ2 H2) (hd: ∀ σ H,Pv xs.length σ H->D.nx σ H) :
  ∃ W:Nat->Nat->St->Hp->Prop,(∃ m,W 0 m σ H)/\ ∀ i m σ H,W i m σ H ->
   ((Itt K a).stop i H/\D.nx σ H) \/ ((Itt K a).go i H/\ ∃ N:St->Hp->Prop,(∀ Kt H',N Kt H'-> ∃ m',m' < m/\W (i+1) m' Kt H')/\ ∀ x H',(Itt K a).yld i H x H'->g x σ H' λσ2 H2=>tb { D with nx:=N,ct:=N,bk:=D.nx } σ2 H2):=by
 refine ⟨λi m σ H=>m=xs.length - i/\i<=xs.length/\Pv i σ H,⟨xs.length,by simp,Qz _,h0⟩,?_⟩;rintro i m σ H ⟨rfl,hi,p⟩;have q:=hl i σ H hi p
 by_cases Ks:i < xs.length
 ·refine .inr ⟨⟨xs,xs[i],q,by simp [Ks]⟩,Pv (i+1),λKt H' p'=>⟨xs.length - (i+1),by omega,rfl,Ks,p'⟩,λx H' y=> ?_⟩;obtain ⟨e,y⟩:=y;subst e;exact hs i x σ _ (y xs q) p
 ·have e:i=xs.length:=by omega
  subst e;exact .inl ⟨⟨xs,q,Q5 _⟩,hd σ H p⟩
abbrev R2:=V->V->Hp->VK->Prop
def OpR (X:Cx) (f:Value->Value->Sem Value) (r:R2):Prop :=
 ∀ (Kz:Ke) (s:Shared) (σ:St) (H:Hp) (x y:V) (v u:Value) (Q:VK),Inv X Kz σ H s->RelV x v->RelV y u->r x y H Q ->
  wpAny (model X.prog X.w) X.A (f v u) (EP X Kz σ Q) X.xe s
def UnR (X:Cx) (f:Value->Sem Value) (r:V->Hp->VK->Prop):Prop :=
 ∀ (Kz:Ke) (s:Shared) (σ:St) (H:Hp) (x:V) (v:Value) (Q:VK),Inv X Kz σ H s->RelV x v->r x H Q ->
  wpAny (model X.prog X.w) X.A (f v) (EP X Kz σ Q) X.xe s
def CallR (X:Cx) (f:Value) (r:List V->Hp->VK->Prop):Prop :=
 ∀ (Kz:Ke) (s:Shared) (σ:St) (H:Hp) (xs:List V) (us:List Value) (Q:VK),Inv X Kz σ H s->Vals xs us->r xs H Q ->
  wpAny (model X.prog X.w) X.A (call f us) (EP X Kz σ Q) X.xe s
def TruR (X:Cx) (r:V->Hp->(Bool->Hp->Prop)->Prop):Prop :=
 ∀ (Kz:Ke) (s:Shared) (σ:St) (H:Hp) (x:V) (v:Value) (Q:Bool->Hp->Prop),Inv X Kz σ H s->RelV x v->r x H Q ->
  wpAny (model X.prog X.w) X.A (truthy v) (TP X Kz σ Q) X.xe s
def tOp (r:R2) (ta tb:TE):TE:=λσ H Q=>ta σ H λx H1=>tb σ H1 λy H2=>r x y H2 Q
def tUn (r:V->Hp->VK->Prop) (ta:TE):TE:=λσ H Q=>ta σ H λx H1=>r x H1 Q
def rI (C:Int->Int->Prop) (g:Int->Int->V):R2:=λx y H Q=> ∃ i j,x= .int i/\y= .int j/\C i j/\Q (g i j) H
def rI0 (g:Int->Int->V):R2:=λx y H Q=> ∃ i j,x= .int i/\y= .int j/\Q (g i j) H
def rU (g:Int->V):V->Hp->VK->Prop:=λx H Q=> ∃ i,x= .int i/\Q (g i) H
section
variable {X:Cx} {a b c:Expr} {ta tb tc:TE} {pos:Pos}
theorem Qz3 (ha:PE X a ta) (hb:PE X b tb) {Kz:Ke} {s:Shared} {σ:St} {H:Hp} {R:V->V->Hp->Prop} (I:Inv X Kz σ H s)
  (h:ta σ H λx H1=>tb σ H1 λy H2=>R x y H2) {Q:Kf} {f:Value->Value->Sem Value}
  (hf: ∀ v u s2 x y H2,Inv X Kz σ H2 s2->RelV x v->RelV y u->R x y H2->wpAny (model X.prog X.w) X.A (f v u) Q X.xe s2) :
  wpAny (model X.prog X.w) X.A (eval a X.env) (λv Kl=>wpAny (model X.prog X.w) X.A (eval b X.env) (λu s₂=>wpAny (model X.prog X.w) X.A (f v u) Q X.xe s₂) X.xe Kl) X.xe s:=by
 refine thn (ha Kz s σ H _ I h) λv s1 ⟨x,H1,I1,r1,q1⟩=> ?_
 refine thn (hb Kz s1 σ H1 _ I1 q1) λu s2 ⟨y,H2,I2,r2,q2⟩=> ?_
 exact hf v u s2 x y H2 I2 r1 r2 q2
theorem Qvv {op:Operator} {r:R2} (ho:OpR X (binaryOp op) r) (ha:PE X a ta) (hb:PE X b tb):PE X (.BinOp a op b pos) (tOp r ta tb):=by
 intro Kz s σ H Q I h;exact wpAny_BinOp (Qz3 ha hb I h λv u s2 x y H2 I2 rx ry q=>ho Kz s2 σ H2 x y v u Q I2 rx ry q)
theorem Qzw {op:UnaryOp} {r:V->Hp->VK->Prop} (ho:UnR X (unaryOp op) r) (ha:PE X a ta):PE X (.UnaryOp op a pos) (tUn r ta):=by
 intro Kz s σ H Q I h;exact UnaryOp_ (thn (ha Kz s σ H _ I h) λv s1 ⟨x,H1,I1,r1,q1⟩=>ho Kz s1 σ H1 x v Q I1 r1 q1)
theorem opI {f:Value->Value->Sem Value} {C:Int->Int->Prop} {g:Int->Int->Int}
  (rule: ∀ (i j:Int) (t u:Tok) (s:Shared) (Q:Kf) (E:Kf),C i j->Q (.int (g i j) s.toks) { s with toks:=s.toks+1 }->wpAny (model X.prog X.w) X.A (f (.int i t) (.int j u)) Q E s) :
  OpR X f (rI C λi j=> .int (g i j)):=by
 intro Kz s σ H x y v u Q I rx ry h;obtain ⟨i,j,rfl,rfl,hc,q⟩:=h;obtain ⟨t,rfl⟩:=rx;obtain ⟨t',rfl⟩:=ry;exact rule i j t t' s _ _ hc ⟨.int (g i j),H,I.tok _,⟨_,rfl⟩,q⟩
theorem Jba {f:Value->Value->Sem Value} {g:Int->Int->Int}
  (rule: ∀ (i j:Int) (t u:Tok) (s:Shared) (Q:Kf) (E:Kf),Q (.int (g i j) s.toks) { s with toks:=s.toks+1 }->wpAny (model X.prog X.w) X.A (f (.int i t) (.int j u)) Q E s) :
  OpR X f (rI0 λi j=> .int (g i j)):=by
 intro Kz s σ H x y v u Q I rx ry h;obtain ⟨i,j,rfl,rfl,q⟩:=h;obtain ⟨t,rfl⟩:=rx;obtain ⟨t',rfl⟩:=ry;exact rule i j t t' s _ _ ⟨.int (g i j),H,I.tok _,⟨_,rfl⟩,q⟩
theorem Qzz {f:Value->Value->Sem Value} {g:Int->Int->Bool}
  (rule: ∀ (i j:Int) (t u:Tok) (s:Shared) (Q:Kf) (E:Kf),Q (.bool (g i j)) s->wpAny (model X.prog X.w) X.A (f (.int i t) (.int j u)) Q E s) :
  OpR X f (rI0 λi j=> .bl (g i j)):=by
 intro Kz s σ H x y v u Q I rx ry h;obtain ⟨i,j,rfl,rfl,q⟩:=h;obtain ⟨t,rfl⟩:=rx;obtain ⟨t',rfl⟩:=ry;exact rule i j t t' s _ _ ⟨.bl (g i j),H,I,rfl,q⟩
def CMul (i j:Int):Prop:=(-(2 ^ 64) < i/\i < 2 ^ 64) \/ (-(2 ^ 64) < j/\j < 2 ^ 64)
theorem CMul.ok {i j:Int} (h:CMul i j):IntMulOk i j:=by
 rcases h with ⟨h1,h2⟩ | ⟨h1,h2⟩
 ·exact .of_left (intBits_le_64 h1 h2)
 ·exact .of_right (intBits_le_64 h1 h2)
theorem Qxu:OpR X (binaryOp .Add) (rI0 λi j=> .int (i+j)):=Jba λ_ _ _ _ _ _ _ q=>add_int q
theorem Qxq:OpR X (binaryOp .Mult) (rI CMul λi j=> .int (i * j)):=opI λ_ _ _ _ _ _ _ hc q=>mul_int q hc.ok
theorem Qxr:OpR X (binaryOp .Mod) (rI (λ_ j=>0 < j) λi j=> .int (i % j)):=opI λi j _ _ _ _ _ hc q=>by
 have h1:(0:Int) < j:=hc;exact mod_int' (by omega) (by rw [Int.fmod_eq_emod_of_nonneg i (by omega)];exact q)
theorem unI {f:Value->Sem Value} {g:Int->Int}
  (rule: ∀ (i:Int) (t:Tok) (s:Shared) (Q:Kf) (E:Kf),Q (.int (g i) s.toks) { s with toks:=s.toks+1 }->wpAny (model X.prog X.w) X.A (f (.int i t)) Q E s) :
  UnR X f (rU λi=> .int (g i)):=by
 intro Kz s σ H x v Q I rx h;obtain ⟨i,rfl,q⟩:=h;obtain ⟨t,rfl⟩:=rx;exact rule i t s _ _ ⟨.int (g i),H,I.tok _,⟨_,rfl⟩,q⟩
theorem Qwo:UnR X (unaryOp .USub) (rU λi=> .int (-i)):=unI λ_ _ _ _ _ q=>neg_int q
end
def scal:V->V->Bool
 | .non,.non=>true | .non,.int _=>true | .int _,.non=>true | .non,.bl _=>true | .bl _,.non=>true | .non,.str _=>true | .str _,.non=>true
 | .int _,.int _=>true | .bl _,.bl _=>true | .str _,.str _=>true | .byt _,.byt _=>true
 | .int _,.str _=>true | .str _,.int _=>true | .bl _,.str _=>true | .str _,.bl _=>true
 | _,_=>false
def rEq:R2:=λx y H Q=>scal x y=true/\Q (.bl (decide (x=y))) H
def rNe:R2:=λx y H Q=>scal x y=true/\Q (.bl (!decide (x=y))) H
theorem Ql3 {i j:Int}:decide (V.int i=V.int j)=(i == j):=by
 rw [Jd]
 simp
theorem Qrl {i j:Bool}:decide (V.bl i=V.bl j)=(i == j):=by
 rw [Jd]
 simp
theorem Ql2 {i j:Str}:decide (V.str i=V.str j)=(i == j):=by
 rw [Jd]
 simp
theorem Ql4 {i j:Array UInt8}:decide (V.byt i=V.byt j)=(i.toList == j.toList):=by
 rw [Jd];cases i;cases j
 simp
section
variable {X:Cx} {a b c:Expr} {ta tb tc:TE} {pos:Pos}
theorem Jp {Kz:Ke} {σ:St} {H:Hp} {s:Shared} {Q:VK} {k k':Bool} (I:Inv X Kz σ H s) (q:Q (.bl k) H) (e:k=k'):EP X Kz σ Q (.bool k') s:=by
 subst e;exact ⟨.bl k,H,I,rfl,q⟩
theorem Qph:OpR X (compareOp .Eq) rEq:=by
 intro Kz s σ H x y v u Q I rx ry h;obtain ⟨hs,q⟩:=h;cases x with
 | non =>
  cases rx;cases y with
  | non=>cases ry;exact PySem.EqNone.eq_none_none (Jp I q (by simp))
  | bl j=>cases ry;exact PySem.EqNone.eq_none_bool (Jp I q (by simp))
  | int j=>obtain ⟨t',rfl⟩:=ry;exact PySem.EqNone.eq_none_int (Jp I q (by simp))
  | str j=>obtain ⟨t',rfl⟩:=ry;exact PySem.EqNone.eq_none_str (Jp I q (by simp))
  | _=>exact absurd (show false=true from hs) Qn
 | bl i =>
  cases rx;cases y with
  | non=>cases ry;exact PySem.EqNone.eq_bool_none (Jp I q (by simp))
  | bl j=>cases ry;exact eq_bool (Jp I q Qrl)
  | str j=>obtain ⟨t',rfl⟩:=ry;exact PySem.EqMixed.eq_bool_str (Jp I q (by simp))
  | _=>exact absurd (show false=true from hs) Qn
 | int i =>
  obtain ⟨t,rfl⟩:=rx;cases y with
  | non=>cases ry;exact PySem.EqNone.eq_int_none (Jp I q (by simp))
  | int j=>obtain ⟨t',rfl⟩:=ry;exact eq_int (Jp I q Ql3)
  | str j=>obtain ⟨t',rfl⟩:=ry;exact PySem.EqMixed.eq_int_str (Jp I q (by simp))
  | _=>exact absurd (show false=true from hs) Qn
 | str i =>
  obtain ⟨t,rfl⟩:=rx;cases y with
  | non=>cases ry;exact PySem.EqNone.eq_str_none (Jp I q (by simp))
  | bl j=>cases ry;exact PySem.EqMixed.eq_str_bool (Jp I q (by simp))
  | int j=>obtain ⟨t',rfl⟩:=ry;exact PySem.EqMixed.eq_str_int (Jp I q (by simp))
  | str j=>obtain ⟨t',rfl⟩:=ry;exact eq_str (Jp I q Ql2)
  | _=>exact absurd (show false=true from hs) Qn
 | byt i =>
  obtain ⟨t,rfl⟩:=rx;cases y with
  | byt j=>obtain ⟨t',rfl⟩:=ry;exact W.eq_bytes (Jp I q Ql4)
  | _=>exact absurd (show false=true from hs) Qn
 | _=>cases y<;>exact absurd (show false=true from hs) Qn
theorem Qpg:OpR X (compareOp .NotEq) rNe:=by
 intro Kz s σ H x y v u Q I rx ry h;obtain ⟨hs,q⟩:=h;cases x with
 | non =>
  cases rx;cases y with
  | non=>cases ry;exact PySem.EqNone.ne_none_none (Jp I q (by simp))
  | bl j=>cases ry;exact PySem.EqNone.ne_none_bool (Jp I q (by simp))
  | int j=>obtain ⟨t',rfl⟩:=ry;exact PySem.EqNone.ne_none_int (Jp I q (by simp))
  | str j=>obtain ⟨t',rfl⟩:=ry;exact PySem.EqNone.ne_none_str (Jp I q (by simp))
  | _=>exact absurd (show false=true from hs) Qn
 | bl i =>
  cases rx;cases y with
  | non=>cases ry;exact PySem.EqNone.ne_bool_none (Jp I q (by simp))
  | bl j=>cases ry;exact ne_bool (Jp I q (WE not Qrl))
  | str j=>obtain ⟨t',rfl⟩:=ry;exact PySem.EqMixed.ne_bool_str (Jp I q (by simp))
  | _=>exact absurd (show false=true from hs) Qn
 | int i =>
  obtain ⟨t,rfl⟩:=rx;cases y with
  | non=>cases ry;exact PySem.EqNone.ne_int_none (Jp I q (by simp))
  | int j=>obtain ⟨t',rfl⟩:=ry;exact ne_int (Jp I q (WE not Ql3))
  | str j=>obtain ⟨t',rfl⟩:=ry;exact PySem.EqMixed.ne_int_str (Jp I q (by simp))
  | _=>exact absurd (show false=true from hs) Qn
 | str i =>
  obtain ⟨t,rfl⟩:=rx;cases y with
  | non=>cases ry;exact PySem.EqNone.ne_str_none (Jp I q (by simp))
  | bl j=>cases ry;exact PySem.EqMixed.ne_str_bool (Jp I q (by simp))
  | int j=>obtain ⟨t',rfl⟩:=ry;exact PySem.EqMixed.ne_str_int (Jp I q (by simp))
  | str j=>obtain ⟨t',rfl⟩:=ry;exact ne_str (Jp I q (WE not Ql2))
  | _=>exact absurd (show false=true from hs) Qn
 | byt i =>
  obtain ⟨t,rfl⟩:=rx;cases y with
  | byt j=>obtain ⟨t',rfl⟩:=ry;exact W.ne_bytes (Jp I q (WE not Ql4))
  | _=>exact absurd (show false=true from hs) Qn
 | _=>cases y<;>exact absurd (show false=true from hs) Qn
theorem Qzy:OpR X (compareOp .Lt) (rI0 λi j=> .bl (decide (i < j))):=Qzz λ_ _ _ _ _ _ _ q=>lt_int q
theorem Qvx:OpR X (compareOp .Gt) (rI0 λi j=> .bl (decide (j < i))):=Qzz λ_ _ _ _ _ _ _ q=>gt_int q
theorem Qma:OpR X (compareOp .In) (λx y H Q=> ∃ i j,x= .str i/\y= .str j/\Q (.bl (!(Builtin.Str.occurrences j i 0 j.length 1).isEmpty)) H):=by
 intro Kz s σ H x y v u Q I rx ry h;obtain ⟨i,j,rfl,rfl,q⟩:=h;obtain ⟨t,rfl⟩:=rx;obtain ⟨t',rfl⟩:=ry;exact in_str (Jp I q rfl)
theorem Qu2:OpR X (compareOp .IsNot) (λx y H Q=>y= .non/\Q (.bl (!decide (x= .non))) H):=by
 intro Kz s σ H x y v u Q I rx ry h;obtain ⟨rfl,q⟩:=h;cases ry;refine isnot_none_gen (Jp I q ?_);cases x<;>first
  | (cases rx;rfl)
  | (obtain ⟨t,rfl⟩:=rx;rfl)
theorem nomark (b:Expr) {op:CmpOp} (h:op≠ .In:=by decide) (h2:op≠ .NotIn:=by decide):behindInMarks op b=false:=by
 have e1:(op == CmpOp.In)=false:=by cases op<;>first | rfl | exact absurd rfl h
 have e2:(op == CmpOp.NotIn)=false:=by cases op<;>first | rfl | exact absurd rfl h2
 cases b<;>simp [behindInMarks,e1,e2]
theorem Qtx {op:CmpOp} {r:R2} (ho:OpR X (compareOp op) r) (ha:PE X a ta) (hb:PE X b tb) (hm:behindInMarks op b=false):PE X (.Compare a [op] [b] pos) (tOp r ta tb):=by
 intro Kz s σ H Q I h;exact wpAny_Compare1 (Qz3 ha hb I h λv u s2 x y H2 I2 rx ry q=>ho Kz s2 σ H2 x y v u Q I2 rx ry q) hm
def Qz7 (t:TE):TT:=λσ H Q=>t σ H λx H'=> ∃ k,x= .bl k/\Q k H'
theorem Qtj {op:CmpOp} {r:R2} (ho:OpR X (compareOp op) r) (ha:PE X a ta) (hb:PE X b tb) (hm:behindInMarks op b=false):PT X (.Compare a [op] [b] pos) (Qz7 (tOp r ta tb)):=by
 intro Kz s σ H Q I h;refine wpAny_isTrue_Compare1 (thn (ha Kz s σ H _ I h) λv s1 ⟨x,H1,I1,r1,q1⟩=>thn (hb Kz s1 σ H1 _ I1 q1) λu s2 ⟨y,H2,I2,r2,q2⟩ =>
  thn (ho Kz s2 σ H2 x y v u _ I2 r1 r2 q2) λc s3 ⟨z,H3,I3,r3,k,e,q3⟩=> ?_) hm
 subst e;cases r3;exact WO ⟨H3,I3,q3⟩
def TruV (K:W.Frag) (x:V) (H:Hp) (k:Bool):Prop :=
 match x with
 | .non=>k=false
 | .bl b=>k=b
 | .int i=>k=(i != 0)
 | .str y=>y.length<=sizeLine/\k=((y.length:Int) != 0)
 | .byt y=>y.size<=sizeLine/\k=((y.size:Int) != 0)
 | .ref p=>(∃ xs,SqL K H p xs/\k= !xs.isEmpty) \/ (∃ xs,SqT K H p xs/\k= !xs.isEmpty) \/ ∃ Ku,H p=some (.dK Ku)/\k= !Ku.isEmpty
 | _=>False
theorem Qiq {κ:Type} {Ku:List (κ×V)} {vs:List (κ×Value)} (r:KV Ku vs):(!vs.isEmpty)= !Ku.isEmpty:=by
 cases r<;>rfl
theorem Qae {xs:List V} {Kv:List Value} (r:Vals xs Kv):(!Kv.toArray.isEmpty)= !xs.isEmpty:=by
 cases r<;>simp
theorem line63:(sizeLine:Nat) < 2 ^ 63:=by rw [Jb];decide
theorem Qwq:TruR X (λx H Q=> ∃ k,TruV X.K x H k/\Q k H):=by
 intro Kz s σ H x v Q I rx h;obtain ⟨k,e,q⟩:=h;have hl:=line63;have hs:sizeLine=16777216:=Jb;cases x with
 | non =>
  cases rx;have e':k=false:=e;subst e';exact truthy_none ⟨H,I,q⟩
 | bl b =>
  cases rx;have e':k=b:=e;subst e';exact WO ⟨H,I,q⟩
 | int i =>
  obtain ⟨t,rfl⟩:=rx;have e':k=(i != 0):=e;subst e';exact PySem.P.truthy_int ⟨H,I,q⟩
 | str y =>
  obtain ⟨t,rfl⟩:=rx;obtain ⟨hy,e'⟩:y.length<=sizeLine/\k=((y.length:Int) != 0):=e;subst e';exact PySem.P.truthy_str (by omega) ⟨H,I.tok _,q⟩
 | byt y =>
  obtain ⟨t,rfl⟩:=rx;obtain ⟨hy,e'⟩:y.size<=sizeLine/\k=((y.size:Int) != 0):=e;subst e';exact W.truthy_bytes (by omega) ⟨H,I.tok _,q⟩
 | ref p =>
  cases rx;have e':(∃ xs,SqL X.K H p xs/\k= !xs.isEmpty) \/ (∃ xs,SqT X.K H p xs/\k= !xs.isEmpty) \/ ∃ Ku,H p=some (.dK Ku)/\k= !Ku.isEmpty:=e;rcases e' with ⟨xs,hx,e'⟩ | ⟨xs,hx,e'⟩ | ⟨Ku,hx,e'⟩
  ·subst e';obtain ⟨Kv,r,pl,hz⟩:=I.list hx;have Kr:=r.length;exact wpAny_truthy_list pl.isList (by simp only [Ql];omega) ⟨H,I.tok _,by rw [Qae r];exact q⟩
  ·subst e';obtain ⟨Kv,r,pl,hz⟩:=I.tuple hx;have Kr:=r.length;exact truthy_tuple pl (by simp only [Ql];omega) ⟨H,I.tok _,by rw [Qae r];exact q⟩
  ·subst e';obtain ⟨hz,hS,vs,r,m⟩:Ku.length<=sizeLine/\(p == sysModules)=false/\ ∃ vs,KV Ku vs/\s.heap.DictOf (JF X.prog X.w) p vs:=I.hok p _ hx;have Kr:Ku.length=vs.length:=Qso r;exact wpAny_truthy_dict hS m (by omega) ⟨H,I.tok _,by rw [Qiq r];exact q⟩
 | _=>exact (show False from e).elim
theorem Qoz (ha:PE X a ta) (he: ∀ whole,isTrue a X.env whole=(do let v<-whole;standAt a.pos;holding [v] (truthy v))) :
  PT X a (λσ H Q=>ta σ H λx H'=> ∃ k,TruV X.K x H' k/\Q k H'):=by
 intro Kz s σ H Q I h;exact isTrue_plain (thn (ha Kz s σ H _ I h) λv s1 ⟨x,H1,I1,r1,q1⟩=>Qwq Kz s1 σ H1 x v Q I1 r1 q1) (he _)
theorem Qib:OpR X (binaryOp .Add) (λx y H Q=> ∃ i j,x= .str i/\y= .str j/\i.length+j.length<=sizeLine/\Q (.str (i++j)) H):=by
 intro Kz s σ H x y v u Q I rx ry h;obtain ⟨i,j,rfl,rfl,hz,q⟩:=h;obtain ⟨t,rfl⟩:=rx;obtain ⟨t',rfl⟩:=ry;exact add_str (λt' tk=>⟨.str (i++j),H,I.tok _,⟨_,rfl⟩,q⟩) hz
theorem vals1 {x:V} {us:List Value} (r:Vals [x] us): ∃ u,us=[u]/\RelV x u:=by
 cases r with
 | cons r1 r2=>cases r2;exact ⟨_,rfl,r1⟩
theorem Qnc:CallR X (.type "int") (λxs H Q=>(∃ i,xs=[.int i]/\Q (.int i) H) \/ ∃ k,xs=[.bl k]/\Q (.int (if k then 1 else 0)) H):=by
 intro Kz s σ H xs us Q I r h;rcases h with ⟨i,rfl,q⟩ | ⟨k,rfl,q⟩
 ·obtain ⟨u,rfl,t,rfl⟩:=vals1 r;exact call_int_int ⟨.int i,H,I,⟨_,rfl⟩,q⟩
 ·obtain ⟨u,rfl,r1⟩:=vals1 r;cases r1;exact call_int_bool ⟨.int (if k then 1 else 0),H,I.tok _,⟨_,rfl⟩,q⟩
def LenV (K:W.Frag) (x:V) (H:Hp) (n:Nat):Prop :=
 match x with
 | .str y=>y.length<=sizeLine/\n=y.length
 | .byt y=>y.size<=sizeLine/\n=y.size
 | .ref p=>(∃ xs,SqL K H p xs/\n=xs.length) \/ ∃ xs,SqT K H p xs/\n=xs.length
 | _=>False
theorem Qs2:CallR X (.builtin "len") (λxs H Q=> ∃ x n,xs=[x]/\LenV X.K x H n/\Q (.int n) H):=by
 intro Kz s σ H xs us Q I r h;obtain ⟨x,n,rfl,e,q⟩:=h;obtain ⟨u,rfl,rx⟩:=vals1 r;have hl:=line63;have hs:sizeLine=16777216:=Jb;cases x with
 | str y =>
  obtain ⟨t,rfl⟩:=rx;obtain ⟨hy,e'⟩:y.length<=sizeLine/\n=y.length:=e;subst e';exact len_str (by omega) ⟨.int _,H,I.tok _,⟨_,rfl⟩,q⟩
 | byt y =>
  obtain ⟨t,rfl⟩:=rx;obtain ⟨hy,e'⟩:y.size<=sizeLine/\n=y.size:=e;subst e';exact W.len_bytes (by omega) ⟨.int _,H,I.tok _,⟨_,rfl⟩,q⟩
 | ref p =>
  cases rx;have e':(∃ xs,SqL X.K H p xs/\n=xs.length) \/ ∃ xs,SqT X.K H p xs/\n=xs.length:=e;rcases e' with ⟨xs,hx,e'⟩ | ⟨xs,hx,e'⟩
  ·subst e';obtain ⟨Kv,r',pl,hz⟩:=I.list hx;have Kr:=r'.length;exact Calls.call_len_list pl.isList (by simp only [Ql];omega) ⟨.int xs.length,H,I.tok _,⟨_,by simp only [Ql];rw [Kr]⟩,q⟩
  ·subst e';obtain ⟨Kv,r',pl,hz⟩:=I.tuple hx;have Kr:=r'.length;exact len_tuple pl (by simp only [Ql];omega) ⟨.int xs.length,H,I.tok _,⟨_,by simp only [Ql];rw [Kr]⟩,q⟩
 | _=>exact (show False from e).elim
end
structure ObjM (h:Heap) (x dx C:Addr) (mA:Str->Option Value):Prop where
 obj:h.get? x=some (W.instObj C dx)
 ns:h.Ns1 dx mA
 ne:dx≠x
theorem Qmp {h:Heap} {dx:Addr} {mA:Str->Option Value} (n:h.Ns1 dx mA): ∃ od,h.get? dx=some od/\ ∀ name,W.lookIn name od=some (mA name):=by
 obtain ⟨o,es,ep,ho,hd,hk,_,hm⟩:=n;refine ⟨o,ho,λname=> ?_⟩;have e:=hm name;unfold nsFind findBy at e;rw [<- Array.find?_toList] at e;unfold W.lookIn;rw [hd];dsimp only;split
 ·rename_i y q;rw [q] at e;exact WE some e
 ·rename_i q;rw [q] at e;have a:es.toList.any (·.refKey)=false:=by
   rw [List.any_eq_false];intro y hy;obtain ⟨z,t,hkey⟩:=hk y (Array.mem_toList_iff.mp hy);simp [DictEntry.refKey,hkey]
  have a': ¬ es.toList.any (·.refKey)=true:=by rw [a];exact Qn
  rw [Qg a'];exact WE some e
theorem ObjM.look {h:Heap} {x dx C:Addr} {mA:Str->Option Value} (I:ObjM h x dx C mA): ∃ od,W.InstAt h x (W.instObj C dx) C (some od)/\ ∀ name,W.lookIn name od=some (mA name) :=
 let ⟨od,ho,hl⟩:=Qmp I.ns
 ⟨od,⟨I.obj,rfl,rfl,ho⟩,hl⟩
section
variable {prog:Program} {w:World} {A:Around} {E:Kf} {s:Shared} {K:W.Frag} {x dx C f:Addr} {mA:Str->Option Value} {name:Str} {v:Value}
theorem Qkw {expr:Bool} {Q:Kf} (X:K.In s.heap) (I:ObjM s.heap x dx C mA) (hg:W.plainGet K C name=true) (hh:W.hasDictIn K C=true)
  (ha:W.findIn K (.ref C) name=some none) (hv:mA name=some v) (hv':W.handedIn v=true) (h:Q v { s with toks:=s.toks+1 }) :
  wpAny (model prog w) A (getAttr (.ref x) name expr) Q E s:=by
 obtain ⟨od,J,hl⟩:=I.look;exact W.get_value X J (W.plainGet_of hg).1 (W.findObj_own hh ha rfl (by rw [hl,hv])) hv' h
theorem Qg5 {pl:Sem Bool} {Q:Value×List Value->Shared->Prop} (X:K.In s.heap) (I:ObjM s.heap x dx C mA) (hg:W.plainGet K C name=true)
  (hf:W.findIn K (.ref C) name=some (some (.ref f))) (ht:W.isFn K (.ref f)=true) (hv:mA name=none) (h:Q (.ref f,[.ref x]) s) :
  wpAny (model prog w) A (getMethod (.ref x) name pl) Q E s:=by
 obtain ⟨od,J,hl⟩:=I.look;exact W.method_fn X J (W.plainGet_of hg).1 (W.plainGet_of hg).2 hf (WZ.mp ht) (by show (W.lookIn name od).map (·.isSome)=some false;rw [hl,hv];rfl) h
theorem Qtc {ns:List Str} {Q:Unit->Shared->Prop} (X:K.In s.heap) (I:ObjM s.heap x dx C mA)
  (hs:W.findIn K (.ref C) "__setattr__" =some (some (.builtin "object.__setattr__"))) (hp:W.plainOver K C=true) (ht:W.takerIn K C name=some none) (hh:W.hasDictIn K C=true)
  (hw:PySem.Within mA ns) (hsz:ns.length<=sizeLine)
  (h: ∀ h',ObjM h' x dx C (λy=>if y=name then some v else mA y)->Heap.SameBut dx s.heap h'->Q () { s with heap:=h',toks:=s.toks+2 }) :
  wpAny (model prog w) A (setAttr (.ref x) name v) Q E s:=by
 obtain ⟨od,J,hl⟩:=I.look;refine W.set_plain X J hs (W.osa_open (s:={ s with toks:=s.toks+1 }) (r:=none) X J hp ht λb=> ?_);obtain ⟨cd,hc,hd'⟩:=W.any_some hh;have hx:s.heap.get? x=some ⟨.ref C,some dx,.plain,#[]⟩:=I.obj;refine Q0 (Q3 (Q0 (Q0 (wpAny_loadPart hx (Q0 (W.Looks.here (s:={ s with toks:=s.toks+1 }) (W.looks_clsIn X hc) ?_))))));rw [hd'];refine Q3 (a:=some dx) (Q0 (Q3 (Q0 ?_)));refine wpAny_nsSet1 (s:={ s with toks:=s.toks+1 }) I.ns λh' hn2 hs2=> ?_
 obtain ⟨oD,esD,epD,hoD,hdD,hcD⟩:=hn2.count (PySem.Within.cons name v hw);refine Q0 (wpAny_lookBehind hoD (by rw [hdD];exact pastItsLine_dict (Qu hcD (by rw [Qq];omega))) ?_);exact Q3 (h _ ⟨(hs2.2 _ (QS I.ne)).trans I.obj,hn2,I.ne⟩ hs2)
theorem Qqk {R:Result->Shared->Prop} {vs:List Value} {kw:List (Str×Value)} (X:K.In s.heap) (hm:W.makesIn K C=true)
  (hi:W.findIn K (.ref C) "__init__" =some (some (.ref f))) (hf:W.typeIn K (.ref f)=some (.type "function"))
  (h:codeAny (model prog w) (A.under (.builtin "type.__call__" ⟨.ref C::vs,kw⟩)) (.call (.ref f) ⟨.ref (s.heap.objs.size+1)::vs,kw⟩) (W.InitBack (s.heap.objs.size+1) R)
   { s with heap:=(s.heap.push W.emptyDict).push (W.instObj C s.heap.objs.size) }) :
  codeAny (model prog w) A (.call (.ref C) ⟨vs,kw⟩) R s:=by
 obtain ⟨hh,g,d,t,os⟩:=s;exact W.make_core (W.makes_of X hm) (W.looks_findIn X hi) (λself=>W.bind_fn X self hf) (.inl rfl) h
end
def YD (f:Str) (v:V):List (Str×V)->List (Str×V)
 | []=>[(f,v)]
 | (g,x)::r=>if g=f then (g,v)::r else (g,x)::YD f v r
theorem BZ (f g:Str) (v:V): ∀ fs:List (Str×V),(YD f v fs).lookup g=if g=f then some v else fs.lookup g
 | []=>by
  show List.lookup g [(f,v)]=_
  by_cases h:g=f
  ·have hb:(g == f)=true:=WZ.mpr h;simp only [List.lookup,hb,Qj h]
  ·have hb:(g == f)=false:=Jm.mpr h;simp only [List.lookup,hb,Qg h]
 | (k,x)::r=>by
  have ih:=BZ f g v r;rw [show YD f v ((k,x)::r)=(if k=f then (k,v)::r else (k,x)::YD f v r) from rfl]
  by_cases hk:k=f
  ·rw [Qj hk]
   by_cases h:g=k
   ·have hb:(g == k)=true:=WZ.mpr h;simp only [List.lookup,hb,Qj (h.trans hk)]
   ·have hb:(g == k)=false:=Jm.mpr h;simp only [List.lookup,hb,Qg (λe:g=f=>h (e.trans hk.symm))]
  ·rw [Qg hk]
   by_cases h:g=k
   ·have hb:(g == k)=true:=WZ.mpr h;simp only [List.lookup,hb,Qg (λe:g=f=>hk (h.symm.trans e))]
   ·have hb:(g == k)=false:=Jm.mpr h;simp only [List.lookup,hb];exact ih
theorem BF (f:Str) (v:V): ∀ fs:List (Str×V),f∈(YD f v fs).map (·.1)/\ ∀ g,g∈fs.map (·.1)->g∈(YD f v fs).map (·.1)
 | []=>⟨by simp [YD],λg h=>by simp at h⟩
 | (k,x)::r=>by
  obtain ⟨i1,i2⟩:=BF f v r;rw [show YD f v ((k,x)::r)=(if k=f then (k,v)::r else (k,x)::YD f v r) from rfl]
  by_cases hk:k=f
  ·rw [Qj hk];subst hk;exact ⟨by simp,λg h=>by simpa using h⟩
  ·rw [Qg hk];refine ⟨?_,λg h=> ?_⟩
   ·rw [Qk];exact Q7 _ i1
   ·rw [Qk] at h ⊢;rcases Qb.mp h with e | e
    ·exact Qb.mpr (.inl e)
    ·exact Q7 _ (i2 g e)
theorem O0 (f:Str) (v:V): ∀ fs:List (Str×V),(YD f v fs).length<=fs.length+1
 | []=>by simp [YD]
 | (k,x)::r=>by
  have ih:=O0 f v r;rw [show YD f v ((k,x)::r)=(if k=f then (k,v)::r else (k,x)::YD f v r) from rfl]
  by_cases hk:k=f
  ·rw [Qj hk,Qq,Qq];omega
  ·rw [Qg hk,Qq,Qq];omega
theorem RelO.some_of {v:V} {o:Option Value} (r:RelO (some v) o): ∃ u,o=some u/\RelV v u:=by
 cases o with
 | none=>exact (show False from r).elim
 | some u=>exact ⟨u,rfl,r⟩
theorem RelO.none_of {o:Option Value} (r:RelO none o):o=none:=by
 cases o with
 | none=>rfl
 | some u=>exact (show False from r).elim
theorem Qcm {v:V} {u:Value} (r:RelV v u):W.handedIn u=true:=by
 cases v with
 | non=>cases (show u=Value.none from r);rfl
 | bl b=>cases (show u=Value.bool b from r);rfl
 | int i=>obtain ⟨t,e⟩:=(show ∃ t,u=Value.int i t from r);cases e;rfl
 | str x=>obtain ⟨t,e⟩:=(show ∃ t,u=Value.str x t from r);cases e;rfl
 | byt b=>obtain ⟨t,e⟩:=(show ∃ t,u=Value.bytes b t from r);cases e;rfl
 | flt b=>obtain ⟨t,e⟩:=(show ∃ t,u=Value.float b t from r);cases e;rfl
 | ref a=>cases (show u=Value.ref a from r);rfl
 | ty n=>cases (show u=Value.type n from r);rfl
section
variable {P:Program} {w:World} {H H':Hp} {h h':Heap} {a C dx:Addr} {fs fs':List (Str×V)}
theorem Qef (hok:HOk P w H h) (e:H a=some (.ins C dx fs)): ∃ mA,ObjM h a dx C mA/\(∀ f,RelO (fs.lookup f) (mA f))/\PySem.Within mA (fs.map (·.1))/\fs.length<=1000/\H dx=some (.own a):=by
 obtain ⟨d,z,ne,ob,mA,n,r,q⟩:=(show ObjOk P w H h a (.ins C dx fs) from hok a _ e);exact ⟨mA,⟨ob,n,ne⟩,r,q,z,d⟩
end
structure Cls (K:W.Frag) (C:Addr):Prop where
 pg:W.plainGet K C Str.empty=true
 hd:W.hasDictIn K C=true
 po:W.plainOver K C=true
 sa:W.findIn K (.ref C) "__setattr__" =some (some (.builtin "object.__setattr__"))
theorem Cls.get {K:W.Frag} {C:Addr} (c:Cls K C) (f:Str):W.plainGet K C f=true:=c.pg
def NoAttr (K:W.Frag) (C:Addr) (f:Str):Prop:=W.findIn K (.ref C) f=some none
theorem NoAttr.taker {K:W.Frag} {C:Addr} {f:Str} (n:NoAttr K C f):W.takerIn K C f=some none:=by
 unfold W.takerIn;rw [show W.findIn K (.ref C) f=some none from n];rfl
structure Meth (K:W.Frag) (C:Addr) (m:Str) (f:Addr):Prop where
 at_:W.findIn K (.ref C) m=some (some (.ref f))
 fn:W.isFn K (.ref f)=true
 kp:W.keepIn K (.ref f)=true
section
variable {X:Cx} {Kz:Ke} {σ:St} {H:Hp} {s:Shared} {a C dx:Addr} {fs:List (Str×V)} {f:Str} {v:V} {A:Around} {E:Kf}
theorem Qix {b:Bool} {Q:Kf} (I:Inv X Kz σ H s) (e:H a=some (.ins C dx fs)) (c:Cls X.K C) (n:NoAttr X.K C f) (l:fs.lookup f=some v)
  (h: ∀ u s',Inv X Kz σ H s'->RelV v u->Q u s'):wpAny (model X.prog X.w) A (getAttr (.ref a) f b) Q E s:=by
 obtain ⟨mA,O,r,_,_,_⟩:=Qef I.hok e;obtain ⟨u,hu,ru⟩:=RelO.some_of (v:=v) (o:=mA f) (by rw [<- l];exact r f);exact Qkw I.kIn O (c.get f) c.hd n hu (Qcm ru) (h u _ (I.tok _) ru)
theorem Qag {m:Str} {g:Addr} {pl:Sem Bool} {Q:Value×List Value->Shared->Prop} (I:Inv X Kz σ H s) (e:H a=some (.ins C dx fs)) (c:Cls X.K C) (k:Meth X.K C m g) (l:fs.lookup m=none)
  (h:Q (.ref g,[.ref a]) s):wpAny (model X.prog X.w) A (getMethod (.ref a) m pl) Q E s:=by
 obtain ⟨mA,O,r,_,_,_⟩:=Qef I.hok e;have hn:mA m=none:=RelO.none_of (by rw [<- l];exact r m);exact Qg5 I.kIn O (c.get m) k.at_ k.fn hn h
theorem Qhz {y:V} {u:Value} {Q:Unit->Shared->Prop} (I:Inv X Kz σ H s) (e:H a=some (.ins C dx fs)) (c:Cls X.K C) (n:NoAttr X.K C f) (hl:fs.length < 1000) (ry:RelV y u)
  (h: ∀ s',Inv X Kz σ (upd H a (.ins C dx (YD f y fs))) s'->Q () s'):wpAny (model X.prog X.w) A (setAttr (.ref a) f u) Q E s:=by
 obtain ⟨mA,O,r,wi,_,ho⟩:=Qef I.hok e;have hz:(fs.map (·.1)).length<=sizeLine:=by rw [Q2,Jb];omega
 refine Qtc I.kIn O c.sa c.po n.taker c.hd wi hz λh' O' sb=>h _ ?_
 have hd: ∃ o,h'.get? dx=some o:=let ⟨o,_,_,e',_⟩:=O'.ns;⟨o,e'⟩;refine I.write (x:=a) (e:=dx) (by rw [e];exact QE) (.inr ho) (λb q hb z=>(sb.2 b hb).trans z) hd ?_;refine ⟨by rw [Qo O.ne];exact ho,?_,O.ne,O'.obj,_,O'.ns,λg=> ?_,λg hg=> ?_⟩
 ·have:=O0 f y fs;omega
 ·show RelO ((YD f y fs).lookup g) (if g=f then some u else mA g);rw [BZ]
  by_cases q:g=f
  ·rw [Qj q,Qj q];exact ry
  ·rw [Qg q,Qg q];exact r g
 ·by_cases q:g=f
  ·rw [q];exact (BF f y fs).1
  ·refine (BF f y fs).2 g (wi g λz=>hg ?_);show (if g=f then some u else mA g)=none;rw [Qg q];exact z
theorem Inv.made (I:Inv X Kz σ H s):Inv X Kz σ (upd (upd H s.heap.objs.size (.own (s.heap.objs.size+1))) (s.heap.objs.size+1) (.ins C s.heap.objs.size []))
  { s with heap:=(s.heap.push W.emptyDict).push (W.instObj C s.heap.objs.size) }:=by
 have e1:(s.heap.push W.emptyDict).get? s.heap.objs.size=some W.emptyDict:=Qd s.heap rfl;have e2:((s.heap.push W.emptyDict).push (W.instObj C s.heap.objs.size)).get? (s.heap.objs.size+1)=some (W.instObj C s.heap.objs.size):=by
  have:=Qd (s.heap.push W.emptyDict) (o:=W.instObj C s.heap.objs.size) rfl;rwa [Ju] at this
 have e3:(s.heap.push W.emptyDict).Ns s.heap.objs.size (λ_=>none):=⟨W.emptyDict,#[],_,e1,rfl,(λe he=>absurd he (by simp)),λ_=>rfl⟩;have I1:=I.laid (a:=s.heap.objs.size) (o:= .own (s.heap.objs.size+1)) (h':=s.heap.push W.emptyDict) (t':=s.toks) (λb u q=>Q1 _ q) (Q5 _) ⟨_,e1⟩;refine I1.laid (a:=s.heap.objs.size+1) (o:= .ins C s.heap.objs.size []) (t':=s.toks) (λb u q=>Q1 _ q) (Nat.le_of_eq (Ju _ _)) ?_;have ne:s.heap.objs.size≠s.heap.objs.size+1:=Qp (JJ _);refine ⟨by rw [Qo ne,Vu],Qz _,ne,e2,λ_=>none,(Heap.Ns1.of_empty e3).at λo q=>Q1 _ q,λ_=>QE,λy hy=>absurd rfl hy⟩
theorem Qla {prog:Program} {w:World} {env:Env} {e:Expr} {f:Str} {pos:Pos} {s:Shared} {Q:Kf} (hb:attributeBase e f env (eval e env)=eval e env)
  (h:wpAny (model prog w) A (eval e env) (λo Kl=>wpAny (model prog w) A (getAttr o f true) Q E Kl) E s):wpAny (model prog w) A (eval (.Attribute e f pos) env) Q E s :=
 Attribute_any_ h (by rw [arm_eval_Attribute,hb])
end
def Jb5 (K:W.Frag) (ta:TE) (f:Str):TE:=λσ H Q=>ta σ H λx H1=> ∃ a C dx fs v,x= .ref a/\H1 a=some (.ins C dx fs)/\Cls K C/\NoAttr K C f/\fs.lookup f=some v/\Q v H1
def Qx8 (K:W.Frag) (ta tv:TE) (f:Str):TS:=λD σ H=>tv σ H λy H1=>ta σ H1 λx H2=> ∃ a C dx fs,x= .ref a/\H2 a=some (.ins C dx fs)/\Cls K C/\NoAttr K C f/\fs.length < 1000 /\
 D.nx σ (upd H2 a (.ins C dx (YD f y fs)))
section
variable {X:Cx} {o e value:Expr} {f:Str} {pos pos' tpos:Pos} {ta tv:TE}
theorem Qpa (he:PE X e ta) (hb:attributeBase e f X.env (eval e X.env)=eval e X.env):PE X (.Attribute e f pos) (Jb5 X.K ta f):=by
 intro Kz s σ H Q I h;refine Qla hb (thn (he Kz s σ H _ I h) λu s1 ⟨x,H1,I1,rx,a,C,dx,fs,v,ex,ea,c,n,l,q⟩=> ?_);subst ex;obtain rfl:u=Value.ref a:=rx;exact Qix I1 ea c n l λu' s2 I2 ru=>⟨v,H1,I2,ru,q⟩
theorem Qdz (ha:PE X o ta) (hv:PE X value tv) (hs:swapsWith value (some (.Attribute o f pos')) pos.line X.env=pure false):PS X (.Assign [.Attribute o f pos'] value pos) (Qx8 X.K ta tv f):=by
 intro Kz s σ H D I h;refine plainObj_wpAny_Assign_Attribute (thn (hv Kz s σ H _ I h) λu s1 ⟨y,H1,I1,ry,q⟩=>thn (ha Kz s1 σ H1 _ I1 q) λov s2 ⟨x,H2,I2,rx,a,C,dx,fs,ex,ea,c,n,l,q2⟩=> ?_) hs;subst ex;obtain rfl:ov=Value.ref a:=rx;exact Qhz I2 ea c n l ry λs3 I3=>⟨σ,_,I3,q2⟩
theorem Qw5 {pl:Sem Bool} {m:Str} {apos:Pos} {args:List Expr} {Kz:Ke} {s:Shared} {σ:St} {H:Hp} {Q:Kf} {te:TE} (he:PE X e te) (I:Inv X Kz σ H s)
  (h:te σ H λx H1=> ∃ a C dx fs g,x= .ref a/\H1 a=some (.ins C dx fs)/\Cls X.K C/\Meth X.K C m g/\fs.lookup m=none /\
   ∀ s1,Inv X Kz σ H1 s1->wpAny (model X.prog X.w) X.A (callWith pos (.ref g) [.ref a] (backTo pos (starEach args X.env)) (backToKw pos (keywordEach [] X.env))) Q X.xe s1)
  (ht:eval (.Call (.Attribute e m apos) args [] pos) X.env=(do
   let ov<-eval e X.env
   standAt apos.atName
   let (f,first)<-holding [ov] (getMethod ov m pl)
   callWith pos f first (backTo pos (starEach args X.env)) (backToKw pos (keywordEach [] X.env)))) :
  wpAny (model X.prog X.w) X.A (eval (.Call (.Attribute e m apos) args [] pos) X.env) Q X.xe s:=by
 refine W.methodCall_KW (pl:=pl) (thn (he Kz s σ H _ I h) λu s1 ⟨x,H1,I1,rx,a,C,dx,fs,g,ex,ea,c,k,l,q⟩=> ?_) ht;subst ex;obtain rfl:u=Value.ref a:=rx;exact Qag I1 ea c k l (q s1 I1)
end
structure Room (k:Nat) (A:Around):Prop where
 hd:A.handled=none
 dp:A.depth+3 * k+5 < recursionLimit
 un:A.units+16 * k+200 < cLine
theorem Room.mono {j k:Nat} {A:Around} (r:Room k A) (h:j<=k):Room j A:=⟨r.hd,by have:=r.dp;omega,by have:=r.un;omega⟩
theorem Room.deeper {k:Nat} {A:Around} (r:Room (k+1) A) (env:Env):Room k (A.deeper env) :=
 ⟨r.hd,by have:=r.dp;show A.depth+1+3 * k+5 < _;omega,by have:=r.un;show A.units+3+16 * k+200 < _;omega⟩
theorem Qil {A:Around} {C:Addr} {us:List Value} {kw:List (Str×Value)}:(A.under (.builtin "type.__call__" ⟨.ref C::us,kw⟩)).depth=A.depth+1:=by
 first | rfl | simp [Around.under,Code.weight,Code.isCreation,Code.isGuard,Code.isCaller,Code.frames,Code.isFrame,guardIds]
theorem Qik {A:Around} {C:Addr} {us:List Value} {kw:List (Str×Value)}:(A.under (.builtin "type.__call__" ⟨.ref C::us,kw⟩)).units=A.units+1:=by
 first | rfl | simp [Around.under,Code.cUnits,Code.frames,Code.isFrame]
theorem Room.make {k:Nat} {A:Around} (r:Room (k+1) A) (C:Addr) (us:List Value) (kw:List (Str×Value)):Room k (A.under (.builtin "type.__call__" ⟨.ref C::us,kw⟩)) :=
 ⟨r.hd,by have:=r.dp;rw [Qil];omega,by have:=r.un;rw [Qik];omega⟩
theorem Room.depth {k:Nat} {A:Around} (r:Room k A):A.depth < recursionLimit:=by have:=r.dp;omega
theorem Room.units {k:Nat} {A:Around} (r:Room k A):A.units+64 < cLine:=by have:=r.un;omega
def Qt4:TA:=λ_ H Q=>Q [] H
def Qjl (ta:TE) (tr:TA):TA:=λσ H Q=>ta σ H λx H1=>tr σ H1 λxs H2=>Q (x::xs) H2
section
variable {X:Cx} {e:Expr} {es:List Expr} {te:TE} {t:TA} {pos:Pos}
theorem Z8:PA X [] Qt4:=λ_ _ _ _ H Q I h=>Qwk ⟨[],H,I,.nil,h⟩
theorem Ws (ha:PE X e te) (hr:PA X es t) (hs:starEach (e::es) X.env=(false,eval e X.env)::starEach es X.env:=by rfl):PA X (e::es) (Qjl te t):=by
 intro pos Kz s σ H Q I h;rw [hs];show wpAny _ _ (spliced ((false,eval e X.env)::backTo pos (starEach es X.env))) _ _ s;refine Oa (thn (ha Kz s σ H _ I h) λu s1 ⟨x,H1,I1,r1,q1⟩=> ?_);exact thn (hr pos Kz s1 σ H1 _ I1 q1) λus s2 ⟨xs,H2,I2,r2,q2⟩=>⟨x::xs,H2,I2,.cons r1 r2,q2⟩
def Jay (t:TA):TE:=λσ H Q=>t σ H λxs H1=>xs.length<=sizeLine/\ ∀ p,H1 p=none->Q (.ref p) (upd H1 p (.tup xs))
def Jb2 (t:TA):TE:=λσ H Q=>t σ H λxs H1=>xs.length<=sizeLine/\ ∀ p,H1 p=none->Q (.ref p) (upd H1 p (.lst xs))
theorem Qxj {x1} (h:PA X es t):PE X (.Tuple es x1 pos) (Jay t):=by
 intro Kz s σ H Q I hq;refine wpAny_Tuple_spliced (thn (h pos Kz s σ H _ I hq) λus s1 ⟨xs,H1,I1,r,z,q⟩=>⟨by rw [<- r.length];exact z,?_⟩);have hf:H1 s1.heap.objs.size=none:=I1.hok.fresh (Q5 _);refine ⟨.ref s1.heap.objs.size,upd H1 s1.heap.objs.size (.tup xs),I1.laid (t':=s1.toks) (λb u e=>Q1 _ e) (Q5 _) ?_,rfl,q _ hf⟩;exact ⟨z,us,r,⟨_,Qd _ rfl,rfl,_,rfl⟩⟩
theorem Qp8 (h:PA X es t):PE X (.List es pos) (Jb2 t):=by
 intro Kz s σ H Q I hq;refine wpAny_List_spliced (thn (h pos Kz s σ H _ I hq) λus s1 ⟨xs,H1,I1,r,z,q⟩=>⟨by rw [<- r.length];exact z,?_⟩);have hf:H1 s1.heap.objs.size=none:=I1.hok.fresh (Q5 _);refine ⟨.ref s1.heap.objs.size,upd H1 s1.heap.objs.size (.lst xs),I1.laid (t':=s1.toks) (λb u e=>Q1 _ e) (Q5 _) ?_,rfl,q _ hf⟩;exact ⟨z,us,0,r,Qd _ rfl⟩
end
abbrev Sp:=List V->Hp->VK->XK->Prop
abbrev CXT:=List Env->Hp->Shared->XK->Kf
structure Env0 (P:Program) (w:World) (K:W.Frag) (mg:Str->Option Value) (base:Heap) (A:Around) (outer:List Env) (s:Shared) (H:Hp):Prop where
 frames:A.frames=some outer
 mod:Mod K mg base
 bs: ∀ b o,base.get? b=some o->s.heap.get? b=some o/\H b=none
 bsz:base.objs.size<=s.heap.objs.size
 funs:s.heap.FunFrames base outer
 frf: ∀ b∈frs outer,H b=none
 hok:HOk P w H s.heap
 bare:AllBare s.gens
def CE (outer:List Env) (P:Program) (w:World) (H:Hp) (s:Shared) (Q:VK) (u:Value) (s':Shared):Prop :=
 ∃ v H',s'.os=s.os/\AllBare s'.gens/\Un (frs outer) [] H H' s.heap s'.heap/\HOk P w H' s'.heap/\RelV v u/\Q v H'
def CR (CX:CXT) (outer:List Env) (P:Program) (w:World) (H:Hp) (s:Shared) (Q:VK) (E:XK) (r:Result) (s':Shared):Prop :=
 match r with
 | .ok (.ret u)=>CE outer P w H s Q u s'
 | .ok _=>False
 | .error e=>CX outer H s E e s'
structure FnOk (P:Program) (w:World) (K:W.Frag) (mg:Str->Option Value) (base:Heap) (CX:CXT) (k:Nat) (f:Addr) (fd:FuncData) (ps:List Str) (sp:Sp):Prop where
 len: ∀ vs H Q E,sp vs H Q E->vs.length=ps.length
 run: ∀ (A:Around) (outer:List Env) (s:Shared) (H:Hp) (args:Args) (us:List Value) (vs:List V) (Q:VK) (E:XK),Room k A->Env0 P w K mg base A outer s H->BindsTo s fd args (ps.zip us)->Vals vs us->sp vs H Q E ->
  codeAny (model P w) A (.call (.ref f) args) (CR CX outer P w H s Q E) s
theorem Env0.make {P:Program} {w:World} {K:W.Frag} {mg:Str->Option Value} {base:Heap} {A:Around} {outer:List Env} {s:Shared} {H:Hp} (e:Env0 P w K mg base A outer s H) (C:Addr) (us:List Value) (kw:List (Str×Value)) :
  Env0 P w K mg base (A.under (.builtin "type.__call__" ⟨.ref C::us,kw⟩)) outer s H:=⟨by first | exact e.frames | (simpa [Around.under,Code.envs,Code.isFrame,pushEnvs] using e.frames),e.mod,e.bs,e.bsz,e.funs,e.frf,e.hok,e.bare⟩
section
variable {X:Cx} {Kz:Ke} {σ:St} {H:Hp} {s s':Shared}
theorem Inv.env0 (I:Inv X Kz σ H s):Env0 X.prog X.w X.K X.mg X.base X.A X.stack s H :=
 ⟨I.ok.frames,I.ok.mod,I.bs,Qu I.ok.bsz I.sz,I.stack,I.stkFree,I.hok,I.bare⟩
theorem Inv.after {Q:VK} {u:Value} (I:Inv X Kz σ H s) (h:CE X.stack X.prog X.w H s Q u s'):EP X Kz σ Q u s':=by
 obtain ⟨v,H',os,bare,un,hok,r,q⟩:=h;obtain ⟨hh,g,d,t,os'⟩:=s';obtain rfl:os'=s.os:=os;exact ⟨v,H',I.call (h':=hh) (g':=g) (d':=d) (t':=t) (ch:=[]) un hok bare (λb z=>absurd z (by simp)),r,q⟩
end
def Qzh (sp:Sp) (dvs:List V) (E:XK) (t:TA):TE:=λσ H Q=>t σ H λvs H1=>sp (vs++dvs) H1 Q E
def Qvn (C:Addr) (m:Str) (sp:Sp) (dvs:List V) (E:XK) (ta:TE) (t:TA):TE:=λσ H Q=>ta σ H λx H1=> ∃ a dx fs,x= .ref a/\H1 a=some (.ins C dx fs)/\fs.lookup m=none /\
 t σ H1 λvs H2=>sp (x::(vs++dvs)) H2 Q E
def Qzc (C:Addr) (sp:Sp) (dvs:List V) (E:XK) (t:TA):TE:=λσ H Q=>t σ H λvs H1=> ∀ x dx,H1 x=none->H1 dx=none->dx≠x ->
 sp (.ref x::(vs++dvs)) (upd (upd H1 dx (.own x)) x (.ins C dx [])) (λv H2=>v= .non/\Q (.ref x) H2) E
def Binds (K:W.Frag) (fd:FuncData) (ps:List Str) (ds:List Value):Prop :=
 ∀ (s:Shared) (us:List Value),K.In s.heap->(us++ds).length=ps.length->BindsTo s fd ⟨us,[]⟩ (ps.zip (us++ds))
theorem Binds.all {K:W.Frag} {fd:FuncData} {ps:List Str} (h: ∀ us:List Value,us.length=ps.length->bindArgs fd ⟨us,[]⟩=pure (ps.zip us)):Binds K fd ps []:=λs us _ hl=>by
 rw [JS] at hl ⊢;exact .of_eq (h us hl)
def Passes (CX:CXT) (X:Cx) (E:XK):Prop:= ∀ (Kz:Ke) (σ:St) (H:Hp) (s:Shared) (e:Value) (s':Shared),Inv X Kz σ H s->CX X.stack H s E e s'->X.xe e s'
section
variable {X:Cx} {CX:CXT} {k:Nat} {f C:Addr} {fd:FuncData} {ps:List Str} {sp:Sp} {dvs:List V} {ds:List Value} {E:XK} {x m:Str} {p pos apos:Pos} {e o:Expr} {es:List Expr} {ta:TE} {t:TA}
theorem Qi5 {Kz:Ke} {σ:St} {H:Hp} {s:Shared} {Q:VK} {us:List Value} {vs:List V} (F:FnOk X.prog X.w X.K X.mg X.base CX k f fd ps sp) (hr:Room k X.A) (hb:Binds X.K fd ps ds) (hd:Vals dvs ds) (hx:Passes CX X E)
  (I:Inv X Kz σ H s) (r:Vals vs us) (h:sp (vs++dvs) H Q E):wpAny (model X.prog X.w) X.A (call (.ref f) us) (EP X Kz σ Q) X.xe s:=by
 have r2:Vals (vs++dvs) (us++ds):=r.append hd;have hl:(us++ds).length=ps.length:=by rw [<- r2.length];exact F.len _ _ _ _ h
 refine wpAny_call (Bn (F.run X.A X.stack s H ⟨us,[]⟩ (us++ds) (vs++dvs) Q E hr I.env0 (hb s us I.kIn hl) r2 h) λr s' hq=> ?_);cases r with
 | error e=>exact hx Kz σ H s e s' I hq
 | ok fl =>
  cases fl with
  | ret u=>exact I.after hq
  | next=>exact False.elim hq
  | brk=>exact False.elim hq
  | cont=>exact False.elim hq
theorem Qkf (F:FnOk X.prog X.w X.K X.mg X.base CX k f fd ps sp) (hr:Room k X.A) (hg:Gl X x) (hm:X.mg x=some (.ref f)) (hk:W.keepIn X.K (.ref f)=true) (hb:Binds X.K fd ps ds) (hd:Vals dvs ds) (hx:Passes CX X E)
  (ha:PA X (e::es) t) (hdb:(x == ("__debug__" :Str))=false:=by decide) (he:starEach (e::es) X.env=(false,eval e X.env)::starEach es X.env:=by rfl) (hpl:(backTo pos (starEach es X.env)).any (·.1)=false:=by rfl) :
  PE X (.Call (.Name x p) (e::es) [] pos) (Qzh sp dvs E t):=by
 intro Kz s σ H Q I h;refine WC (Qkq I hg hm ?_ hdb);refine W.callWith_K (h₀:=X.base) I.ok.mod.kin hk (thn (ha pos Kz s σ H _ I h) λus s1 ⟨vs,H1,I1,r,q⟩=>⟨I1.kIn,?_⟩) he hpl;exact Qi5 F hr hb hd hx I1 r q
theorem Qkd {pl:Sem Bool} (he:PE X o ta) (c:Cls X.K C) (hm:Meth X.K C m f) (F:FnOk X.prog X.w X.K X.mg X.base CX k f fd ps sp) (hr:Room k X.A) (hb:Binds X.K fd ps ds) (hd:Vals dvs ds) (hx:Passes CX X E) (ha:PA X (e::es) t)
  (hst:starEach (e::es) X.env=(false,eval e X.env)::starEach es X.env:=by rfl) (hpl:(backTo pos (starEach es X.env)).any (·.1)=false:=by rfl)
  (ht:eval (.Call (.Attribute o m apos) (e::es) [] pos) X.env=(do
   let ov<-eval o X.env
   standAt apos.atName
   let (f,first)<-holding [ov] (getMethod ov m pl)
   callWith pos f first (backTo pos (starEach (e::es) X.env)) (backToKw pos (keywordEach [] X.env))):=by rfl) :
  PE X (.Call (.Attribute o m apos) (e::es) [] pos) (Qvn C m sp dvs E ta t):=by
 intro Kz s σ H Q I h;refine W.methodCall_KW (pl:=pl) (thn (he Kz s σ H _ I h) λu s1 ⟨x,H1,I1,rx,a,dx,fs,ex,ea,l,q⟩=> ?_) ht;subst ex;obtain rfl:u=Value.ref a:=rx;refine Qag I1 ea c hm l ?_;refine W.callWith_K (first:=[.ref a]) (h₀:=X.base) I.ok.mod.kin hm.kp (thn (ha pos Kz s1 σ H1 _ I1 q) λus s2 ⟨vs,H2,I2,r,q2⟩=>⟨I2.kIn,?_⟩) hst hpl;exact Qi5 (us:= .ref a::us) (vs:= .ref a::vs) F hr hb hd hx I2 (.cons rfl r) q2
structure Mk (K:W.Frag) (C f:Addr):Prop where
 makes:W.makesIn K C=true
 init:W.findIn K (.ref C) "__init__" =some (some (.ref f))
 fn:W.isFn K (.ref f)=true
 kp:W.keepIn K (.ref C)=true
theorem Qop {Kz:Ke} {σ:St} {H:Hp} {s:Shared} {Q:VK} {us:List Value} {vs:List V} (M:Mk X.K C f) (F:FnOk X.prog X.w X.K X.mg X.base CX k f fd ps sp) (hr:Room (k+1) X.A) (hb:Binds X.K fd ps ds) (hd:Vals dvs ds)
  (hx:Passes CX X E) (I:Inv X Kz σ H s) (r:Vals vs us)
  (h: ∀ x dx,H x=none->H dx=none->dx≠x->sp (.ref x::(vs++dvs)) (upd (upd H dx (.own x)) x (.ins C dx [])) (λv H2=>v= .non/\Q (.ref x) H2) E) :
  wpAny (model X.prog X.w) X.A (call (.ref C) us) (EP X Kz σ Q) X.xe s:=by
 have hq:=h (s.heap.objs.size+1) s.heap.objs.size (I.hok.fresh (WV _)) (I.hok.fresh (Q5 _)) (Qp (JJ _));have I2:=Inv.made (C:=C) I;have r2:Vals (V.ref (s.heap.objs.size+1)::(vs++dvs)) (Value.ref (s.heap.objs.size+1)::(us++ds)):= .cons rfl (r.append hd);have hl:(Value.ref (s.heap.objs.size+1)::us++ds).length=ps.length:=by
  have e:=r2.length;rw [F.len _ _ _ _ hq] at e;exact e.symm
 refine wpAny_call (Qqk (f:=f) I.kIn M.makes M.init (WZ.mp M.fn) (Bn (F.run _ X.stack _ _ ⟨Value.ref (s.heap.objs.size+1)::us,[]⟩ (Value.ref (s.heap.objs.size+1)::(us++ds)) _ _ E (hr.make C us [])
  (I2.env0.make C us []) (hb _ (Value.ref (s.heap.objs.size+1)::us) I2.kIn hl) r2 hq) λr s' hq'=> ?_))
 cases r with
 | error e=>exact hx Kz σ _ _ e s' I2 hq'
 | ok fl =>
  cases fl with
  | ret u =>
   obtain ⟨v,H',I3,rv,ev,q3⟩:=I2.after hq';subst ev;exact ⟨rv,⟨V.ref (s.heap.objs.size+1),H',I3,rfl,q3⟩⟩
  | next=>exact False.elim hq'
  | brk=>exact False.elim hq'
  | cont=>exact False.elim hq'
theorem Qtt (M:Mk X.K C f) (F:FnOk X.prog X.w X.K X.mg X.base CX k f fd ps sp) (hr:Room (k+1) X.A) (hg:Gl X x) (hm:X.mg x=some (.ref C)) (hb:Binds X.K fd ps ds) (hd:Vals dvs ds) (hx:Passes CX X E)
  (ha:PA X (e::es) t) (hdb:(x == ("__debug__" :Str))=false:=by decide) (he:starEach (e::es) X.env=(false,eval e X.env)::starEach es X.env:=by rfl) (hpl:(backTo pos (starEach es X.env)).any (·.1)=false:=by rfl) :
  PE X (.Call (.Name x p) (e::es) [] pos) (Qzc C sp dvs E t):=by
 intro Kz s σ H Q I h;refine WC (Qkq I hg hm ?_ hdb);refine W.callWith_K (h₀:=X.base) I.ok.mod.kin M.kp (thn (ha pos Kz s σ H _ I h) λus s1 ⟨vs,H1,I1,r,q⟩=>⟨I1.kIn,?_⟩) he hpl;exact Qop M F hr hb hd hx I1 r q
end
structure Vf (N P:List Str) (sc:Scope):Prop where
 kind:sc.kind= .function
 co:sc.isCoroutine=false
 gen:sc.isGenerator=false
 nd:N.Nodup
 pre:N.take P.length=P
 par: ∀ x∈P,sc.names.lookup x=some .local \/ sc.names.lookup x=some .cell
 nofree: ∀ y∈sc.names,y.2≠ .free
theorem Qcz {kindOf:Str->Option NameKind} {x:Str}: ∀ {binds:List (Str×Value)} {m:Str->Option Value},(∀ v,(x,v) ∉ binds)->bindL kindOf binds m x=m x
 | [],_,_=>rfl
 | (n,v)::r,m,h=>by
  unfold bindL;rw [Qcz λw hw=>h w (Q7 _ hw)];split
  ·have:x≠n:=by rintro rfl;exact h v Q8
   simp [this]
  ·rfl
theorem Qd1 {kindOf:Str->Option NameKind} {x:Str}: ∀ {binds:List (Str×Value)} {m:Str->Option Value},(∀ v,(x,v) ∉ binds)->bindC kindOf binds m x=m x
 | [],_,_=>rfl
 | (n,v)::r,m,h=>by
  unfold bindC;rw [Qd1 λw hw=>h w (Q7 _ hw)];split
  ·rfl
  ·have:x≠n:=by rintro rfl;exact h v Q8
   simp [this]
theorem Qd0 {kindOf:Str->Option NameKind} {x:Str} {v:Value}: ∀ {P:List Str} {vs:List Value} {i:Nat} {m:Str->Option Value},P.Nodup->P[i]? =some x->vs[i]? =some v->kindOf x=some .local ->
  bindL kindOf (P.zip vs) m x=some v
 | [],_,_,_,_,h,_,_=>by simp at h
 | _::_,[],_,_,_,_,h,_=>by simp at h
 | p::P,w::vs,0,m,nd,h1,h2,hk=>by
  simp at h1 h2;subst h1;subst h2;show bindL kindOf ((p,w)::P.zip vs) m p=_;unfold bindL;rw [Qcz λv hv=>(J5.mp nd).1 (Z4 hv).1,Qj hk]
  simp
 | p::P,w::vs,i+1,m,nd,h1,h2,hk=>by
  show bindL kindOf ((p,w)::P.zip vs) m x=_;unfold bindL;exact Qd0 (i:=i) (J5.mp nd).2 (by simpa using h1) (by simpa using h2) hk
theorem Qd2 {kindOf:Str->Option NameKind} {x:Str} {v:Value}: ∀ {P:List Str} {vs:List Value} {i:Nat} {m:Str->Option Value},P.Nodup->P[i]? =some x->vs[i]? =some v->kindOf x≠some .local ->
  bindC kindOf (P.zip vs) m x=some v
 | [],_,_,_,_,h,_,_=>by simp at h
 | _::_,[],_,_,_,_,h,_=>by simp at h
 | p::P,w::vs,0,m,nd,h1,h2,hk=>by
  simp at h1 h2;subst h1;subst h2;show bindC kindOf ((p,w)::P.zip vs) m p=_;unfold bindC;rw [Qd1 λv hv=>(J5.mp nd).1 (Z4 hv).1,Qg hk]
  simp
 | p::P,w::vs,i+1,m,nd,h1,h2,hk=>by
  show bindC kindOf ((p,w)::P.zip vs) m x=_;unfold bindC;exact Qd2 (i:=i) (J5.mp nd).2 (by simpa using h1) (by simpa using h2) hk
def start (N:List Str) (vs:List V):St:=vs.map some++List.replicate (N.length - vs.length) none
def Ga (CX:CXT) (P:Program) (w:World) (K:W.Frag) (mg:Str->Option Value) (base:Heap) (N:List Str) (qual:Str) (scope:Scope) (f:Addr) (cd:Value) (A:Around) (outer:List Env) (s:Shared) (H:Hp) (E:XK):Cx where
 prog:=P
 w:=w
 K:=K
 mg:=mg
 base:=base
 A:=A.deeper (envOfC qual scope s.heap.objs.size f cd)
 N:=N
 s₀:=s
 H₀:=H
 env:=envOfC qual scope s.heap.objs.size f cd
 outer:=outer
 stack:=envOfC qual scope s.heap.objs.size f cd::outer
 ex:=[]
 calm:=true
 fn:=λ_=>true
 pn:=[]
 xe:=λe s'=>wpAny (model P w) (A.deeper (envOfC qual scope s.heap.objs.size f cd)) (leaving (envOfC qual scope s.heap.objs.size f cd) e) (λ_ s''=>CX outer H s E e s'') (λe' s''=>CX outer H s E e' s'') s'
theorem Qgr {sc:Scope} {n:Nat} {x:Str} (h:sc.names.lookup x=some .cell): ∃ c,(cellsFrom n sc.names []).lookup x=some c:=by
 have q:=W.cellsFrom_some sc.names n [] (.inl h);exact W0.mp q
theorem Qmz {CX:CXT} {P:Program} {w:World} {K:W.Frag} {mg:Str->Option Value} {base:Heap} {N ps:List Str} {qual:Str} {scope:Scope} {f:Addr} {cd:Value} {A:Around} {outer:List Env} {s s1:Shared} {H:Hp} {E:XK} {us:List Value} {vs:List V}
  (S:Vf N ps scope) (hd:A.handled=none) (e0:Env0 P w K mg base A outer s H) (hl:vs.length=ps.length) (r:Vals vs us)
  (x:InCallC s s.heap.objs.size (bindL (envOfC qual scope s.heap.objs.size f cd).kindOf (ps.zip us) λ_=>none) (cellsFrom (s.heap.objs.size+1) scope.names []) (bindC (envOfC qual scope s.heap.objs.size f cd).kindOf (ps.zip us) λ_=>none) s1) :
  Inv (Ga CX P w K mg base N qual scope f cd A outer s H E) [] (start N vs) H s1:=by
 have hpl:ps.length<=N.length:=by have:=WE List.length S.pre;rw [QA] at this;omega
 obtain ⟨h1,tk,rfl,hk⟩:=x.done;have noA: ∀ b:Addr,b ∉ (Ga CX P w K mg base N qual scope f cd A outer s H E).ex:=λb z=>absurd (show b∈([]:List Addr) from z) (by simp)
 refine ⟨⟨e0.mod,S.kind,rfl,rfl,Q5 _,λy z c h1 h2=> ?_,λy hy=> ?_,λy c _ h=> ?_,λ_=>hd,Around.frames_deeper e0.frames,.inr ⟨rfl,rfl⟩,λb z=>absurd z (noA b),e0.bs,e0.bsz,λb _ _=>noA b,λb z=>absurd z (noA b),e0.funs,e0.frf⟩,
  rfl,e0.bare,Un.kept hk,⟨_,x.toInCall.ns,λi y v h1 h2 h3=> ?_⟩,λy c h=>⟨_,x.cell y c h⟩,e0.hok.fresh (Q5 _),λy c h=> ?_,λp hp=>absurd (show p∈([]:Ke) from hp) (by simp),e0.hok.kept hk,?_⟩
 ·exact name_of_addr x.apart (Wf h1) (Wf h2)
 ·have hy:scope.names.lookup y=some .cell \/ scope.names.lookup y=some .free:=hy;rcases hy with hy | hy
  ·exact Qgr hy
  ·exact absurd rfl (S.nofree _ (Wf hy))
 ·exact Qlk (x.above y c (Wf h))
 ·have hi:i < vs.length:=by
   unfold start at h2
   by_cases hi:i < vs.length
   ·exact hi
   ·rw [Jq (by simpa using hi)] at h2;rw [Yg] at h2;split at h2<;>cases h2
  have ha:vs[i]? =some v:=by
   unfold start at h2;rw [QU (by simpa using hi),Qe] at h2;cases e:vs[i]? with
   | none=>rw [e] at h2;cases h2
   | some a=>rw [e] at h2;cases h2;rfl
  obtain ⟨u,hu,rv⟩:=r.get ha;have hp:ps[i]? =some y:=by
   rw [<- S.pre,List.getElem?_take_of_lt (by omega)];exact h1
  have ndP:ps.Nodup:=by rw [<- S.pre];exact S.nd.sublist (List.take_sublist _ _)
  refine ⟨u,rv,?_⟩;rcases S.par y (Q9 hp) with k | k
  ·exact .inl ⟨k,Qd0 ndP hp hu k⟩
  ·obtain ⟨c,e⟩:=Qgr (n:=s.heap.objs.size+1) k;refine .inr ⟨.inl k,c,e,?_⟩;have q:=x.cell y c e;rw [Qd2 ndP hp hu (by show scope.names.lookup y≠_;rw [k];decide)] at q;exact q
 ·exact e0.hok.fresh (Qlk (x.above y c (Wf h)))
 ·unfold start;show _=N.length;rw [Qs,Q2,List.length_replicate];omega
theorem Jah {CX:CXT} {P:Program} {w:World} {K:W.Frag} {mg:Str->Option Value} {base:Heap} {k:Nat} {f:Addr} {name qual:Str} {params:Arguments} {body:List Stmt} {scope:Scope} {dV kV doc pm Km ct oc:Value} {an od:Option Addr}
  {osl:Array (Option Value)} {N ps:List Str} {sp:Sp} (lk:K.lookup f=some ⟨oc,od,.func (W.fnOf name qual params body scope dV kV doc pm an Km ct),osl⟩) (hcd:W.codeIn K Km qual=true) (S:Vf N ps scope)
  (len: ∀ vs H Q E,sp vs H Q E->vs.length=ps.length)
  (hbody: ∀ (A:Around) (outer:List Env) (s:Shared) (H:Hp) (vs:List V) (Q:VK) (E:XK),Room k (A.deeper (envOfC qual scope s.heap.objs.size f Km))->sp vs H Q E ->
   ∃ t,PSs (Ga CX P w K mg base N qual scope f Km A outer s H E) body t/\t { nx:=λ_ H'=>Q .non H',rt:=Q } (start N vs) H) :
  FnOk P w K mg base CX (k+1) f (W.fnOf name qual params body scope dV kV doc pm an Km ct) ps sp:=by
 refine ⟨len,λA outer s H args us vs Q E hr e0 hb r hsp=> ?_⟩;have hl:=len _ _ _ _ hsp;have KX:K.In s.heap:=e0.mod.kin.keeps λb o e=>(e0.bs b o e).1
 have lim:s.heap.NoLimit:=e0.mod.nolimit.keeps λb o e=>(e0.bs b o e).1
 have hkind: ∀ y∈ps.zip us,scope.names.lookup y.1=some .local \/ (scope.names.lookup y.1=some .cell/\((cellsFrom (s.heap.objs.size+1) scope.names []).lookup y.1).isSome=true):=λ⟨n,v⟩ hy=>by
  rcases S.par n (Z4 hy).1 with q | q
  ·exact .inl q
  ·exact .inr ⟨q,W.cellsFrom_some _ _ _ (.inl q)⟩
 refine codeAny_call_function hr.depth (KX _ _ lk) rfl S.co S.gen rfl (W.codeRec_of KX hcd) (hb _ _ _ _ ?_);refine wpAny_newFunctionEnv_cells S.kind hkind λenv he s1 x=> ?_
 subst he;refine ⟨lim.keeps x.toInCall.keep,codeAny_func ?_⟩;obtain ⟨t,ht,hq⟩:=hbody A outer s H vs Q E (hr.deeper _) hsp;have I:Inv (Ga CX P w K mg base N qual scope f Km A outer s H E) [] (start N vs) H s1:=Qmz S hr.hd e0 hl r x;refine Jh (ht [] s1 (start N vs) H _ I hq) (λfl s' hs=> ?_) λe s' hs=>hs
 have Kj: ∀ {Kt:St} {H':Hp} {v:V} {u:Value},Inv (Ga CX P w K mg base N qual scope f Km A outer s H E) [] Kt H' s'->RelV v u->Q v H'->CE outer P w H s Q u s' :=
  λ{Kt H' v u} J rv q=>⟨v,H',J.os,J.bare,J.base,J.hok,rv,q⟩
 cases fl with
 | ret u =>
  obtain ⟨v,Kt,H',J,rv,q⟩:=hs;exact Kj J rv q
 | next =>
  obtain ⟨Kt,H',J,q⟩:=hs;exact Kj (v:=V.non) (u:=Value.none) J rfl q
 | brk =>
  obtain ⟨_,_,_,q⟩:=hs;exact False.elim q
 | cont =>
  obtain ⟨_,_,_,q⟩:=hs;exact False.elim q
section
variable {X:Cx} {x:Str} {p pos:Pos} {e:Expr} {es:List Expr} {t:TA} {id T:String} {r:List V->Hp->VK->Prop}
def tCB (r:List V->Hp->VK->Prop) (t:TA):TE:=λσ H Q=>t σ H λvs H1=>r vs H1 Q
theorem Qa4 (hc:CallR X (.builtin id) r) (hg:Gl X x) (hm:X.mg x=none) (hv:bootBuiltins x=some (.builtin id)) (ha:PA X (e::es) t) (hn:x≠ "__name__" :=by decide) (hdb:(x == ("__debug__" :Str))=false:=by decide)
  (he:starEach (e::es) X.env=(false,eval e X.env)::starEach es X.env:=by rfl) (hpl:(backTo pos (starEach es X.env)).any (·.1)=false:=by rfl):PE X (.Call (.Name x p) (e::es) [] pos) (tCB r t):=by
 intro Kz s σ H Q I h;refine WC (Y8 I hg hm hv ?_ hn hdb);exact PyProof.Rows.callWith_builtin1 (thn (ha pos Kz s σ H _ I h) λus s1 ⟨vs,H1,I1,r1,q1⟩=>hc Kz s1 σ H1 vs us Q I1 r1 q1) he hpl
theorem YE (hc:CallR X (.type T) r) (hg:Gl X x) (hm:X.mg x=none) (hv:bootBuiltins x=some (.type T)) (ha:PA X (e::es) t) (hn:x≠ "__name__" :=by decide) (hdb:(x == ("__debug__" :Str))=false:=by decide)
  (he:starEach (e::es) X.env=(false,eval e X.env)::starEach es X.env:=by rfl) (hpl:(backTo pos (starEach es X.env)).any (·.1)=false:=by rfl):PE X (.Call (.Name x p) (e::es) [] pos) (tCB r t):=by
 intro Kz s σ H Q I h;refine WC (Y8 I hg hm hv ?_ hn hdb);exact Jo (thn (ha pos Kz s σ H _ I h) λus s1 ⟨vs,H1,I1,r1,q1⟩=>hc Kz s1 σ H1 vs us Q I1 r1 q1) he hpl
end
end L2
namespace HT
open PySem PyProof.Rows
section
variable {prog:Program} {w:World} {A:Around} {E:Kf} {s:Shared}
def sIx (n d:Nat):Option Int->Nat
 | none=>d
 | some v=>if v < 0 then (v+(n:Int)).toNat else min v.toNat n
theorem Qoo (n d:Nat):sIx n d none=d:=rfl
theorem Qdp (n d k:Nat):sIx n d (some (k:Int))=min k n:=by
 show (if (k:Int) < 0 then ((k:Int)+(n:Int)).toNat else min (k:Int).toNat n)=min k n;rw [Qg (by omega),Jy]
end
end HT
namespace L2
open PySem PySem.Spec PyProof.Rows
abbrev TO:=St->Hp->(Option Int->Hp->Prop)->Prop
def PO (X:Cx) (e:Option Expr) (t:TO):Prop :=
 ∀ (Kz:Ke) (s:Shared) (σ:St) (H:Hp) (Q:Option Int->Hp->Prop),Inv X Kz σ H s->t σ H Q ->
  wpAny (model X.prog X.w) X.A (evalPart e X.env) (λu s'=> ∃ o H',Inv X Kz σ H' s'/\IsPart u o/\Q o H') X.xe s
def Qt3:TO:=λ_ H Q=>Q none H
def Qz8 (t:TE):TO:=λσ H Q=>t σ H λx H1=> ∃ i,x= .int i/\Q (some i) H1
section
variable {X:Cx} {e:Expr} {te:TE} {lo hi:Option Expr} {tl th:TO} {pos p2:Pos}
theorem Qtp:PO X none Qt3:=by
 intro Kz s σ H Q I h;rw [evalPart_none];exact Q3 ⟨none,H,I,.none,h⟩
theorem Qto (h:PE X e te):PO X (some e) (Qz8 te):=by
 intro Kz s σ H Q I hw;rw [evalPart_some];refine thn (h Kz s σ H _ I hw) λu s1 ⟨x,H1,I1,r1,q1⟩=> ?_
 obtain ⟨i,rfl,q⟩:=q1;obtain ⟨t,rfl⟩:=r1;exact ⟨some i,H1,I1,.int i t,q⟩
def SlR (X:Cx) (r:V->Option Int->Option Int->Hp->VK->Prop):Prop :=
 ∀ (Kz:Ke) (s:Shared) (σ:St) (H:Hp) (x:V) (v vl vu:Value) (lo hi:Option Int) (sl:Addr) (Q:VK),Inv X Kz σ H s->RelV x v->s.heap.IsSliceOf sl vl vu .none->IsPart vl lo->IsPart vu hi->r x lo hi H Q ->
  ∃ T id,typeLookup (.type T) "__getitem__" =pure (some (.builtin id))/\s.TypeIs v T/\wpAny (model X.prog X.w) X.A (getItem v (.ref sl)) (EP X Kz σ Q) X.xe s
def tSl (r:V->Option Int->Option Int->Hp->VK->Prop) (te:TE) (tl th:TO):TE:=λσ H Q=>te σ H λx H1=>tl σ H1 λl H2=>th σ H2 λu H3=>r x l u H3 Q
theorem Qfp {r:V->Option Int->Option Int->Hp->VK->Prop} (hr:SlR X r) (he:PE X e te) (hl:PO X lo tl) (hu:PO X hi th):PE X (.Subscript e (.Slice lo hi none p2) pos) (tSl r te tl th):=by
 intro Kz s σ H Q I h;refine Subscript_ (thn (he Kz s σ H _ I h) λv s1 ⟨x,H1,I1,r1,q1⟩=> ?_);refine wpAny_Slice (thn (hl Kz s1 σ H1 _ I1 q1) λvl s2 ⟨l,H2,I2,pl,q2⟩=>thn (hu Kz s2 σ H2 _ I2 q2) λvu s3 ⟨u,H3,I3,pu,q3⟩=> ?_);rw [evalPart_none];refine Q3 ?_;have I4:Inv X Kz σ H3 { s3 with heap:=s3.heap.push { cls:= .type "slice",data:= .fields #[vl,vu,.none] } }:=I3.kept (t':=s3.toks) λb ob q=>Q1 _ q
 obtain ⟨T,id,hT,ht,hg⟩:=hr Kz { s3 with heap:=s3.heap.push { cls:= .type "slice",data:= .fields #[vl,vu,.none] } } σ H3 x v vl vu l u s3.heap.objs.size Q I4 r1 (Heap.IsSliceOf.new ..) pl pu q3;show wpAny (model X.prog X.w) X.A (subscriptTail e (.Slice lo hi none p2) v (.ref s3.heap.objs.size)) (EP X Kz σ Q) X.xe { s3 with heap:=s3.heap.push { cls:= .type "slice",data:= .fields #[vl,vu,.none] } };exact tail_any (ops:=[.ref s3.heap.objs.size,v]) ht hT hg (by with_unfolding_all rfl)
def Qn9 (xs:List V) (lo hi:Option Int):List V:=(xs.drop (HT.sIx xs.length 0 lo)).take (HT.sIx xs.length xs.length hi - HT.sIx xs.length 0 lo)
theorem Qgj (xs:List V) (lo hi:Option Int):(Qn9 xs lo hi).length<=xs.length:=by
 unfold Qn9;rw [QA,JX];omega
end
def ixN (n:Nat) (i:Int):Option Nat:=if 0<=i then (if i < n then some i.toNat else none) else if -(n:Int)<=i then some (i+n).toNat else none
def atI {α:Type} (xs:List α) (i:Int):Option α:=(ixN xs.length i).bind λj=>xs[j]?
theorem Qv2 {n:Nat} {i:Int} {j:Nat} (h:ixN n i=some j):seqIndex? i n=some j/\j < n/\ -(n:Int)<=i/\i < n:=by
 unfold ixN at h
 by_cases h0:0<=i
 ·rw [Qj h0] at h
  by_cases h1:i < n
  ·rw [Qj h1] at h;have e:i.toNat=j:=J4 h;exact ⟨by rw [seqIndex_of h0 h1,e],by omega,by omega,h1⟩
  ·rw [Qg h1] at h;cases h
 ·rw [Qg h0] at h
  by_cases h1: -(n:Int)<=i
  ·rw [Qj h1] at h;have e:(i+n).toNat=j:=J4 h;exact ⟨by rw [seqIndex_neg (by omega) h1,e],by omega,h1,by omega⟩
  ·rw [Qg h1] at h;cases h
theorem Qeu {α:Type} {xs:List α} {i:Int} {v:α} (h:atI xs i=some v): ∃ j,seqIndex? i xs.length=some j/\xs[j]? =some v/\j < xs.length/\ -(xs.length:Int)<=i/\i < xs.length:=by
 unfold atI at h;cases e:ixN xs.length i with
 | none=>rw [e] at h;cases h
 | some j =>
  rw [e] at h;obtain ⟨h1,h2,h3,h4⟩:=Qv2 e;exact ⟨j,h1,h,h2,h3,h4⟩
theorem Zd {α:Type} {xs:List α} {j:Nat} {v:α} (h:xs[j]? =some v):atI xs (j:Int)=some v:=by
 have hj:j < xs.length:=(Q4.mp h).1;have e:ixN xs.length (j:Int)=some j:=by
  unfold ixN;rw [Qj (by omega),Qj (by omega)];simp
 unfold atI;rw [e];exact h
theorem Qsd {α:Type} (xs:List α) (v:α):atI (xs++[v]) (-1)=some v:=by
 have hl:(xs++[v]).length=xs.length+1:=by simp
 have e:ixN (xs++[v]).length (-1)=some xs.length:=by
  unfold ixN;rw [hl,Qg (by decide),Qj (by omega)];congr 1;omega
 unfold atI;rw [e];show (xs++[v])[xs.length]? =some v
 simp
def PlainIx (b:Expr):Prop:= ∀ o i,subscripted b false o i=operate [o,i] (getItem o i)
def IxR (X:Cx) (r:R2):Prop :=
 ∀ (value slice:Expr) (Kz:Ke) (s:Shared) (σ:St) (H:Hp) (x y:V) (v u:Value) (Q:VK),Inv X Kz σ H s->RelV x v->RelV y u->r x y H Q ->
  subscripted slice false v u=operate [v,u] (getItem v u)->wpAny (model X.prog X.w) X.A (subscriptTail value slice v u) (EP X Kz σ Q) X.xe s
def MtR (X:Cx) (id:String) (r:V->List V->Hp->VK->Prop):Prop :=
 ∀ (Kz:Ke) (s:Shared) (σ:St) (H:Hp) (x:V) (xs:List V) (v:Value) (us:List Value) (Q:VK),Inv X Kz σ H s->RelV x v->Vals xs us->r x xs H Q ->
  wpAny (model X.prog X.w) X.A (call (.builtin id) (v::us)) (EP X Kz σ Q) X.xe s
section
variable {X:Cx} {a b:Expr} {ta tb:TE} {pos:Pos}
theorem IxR.or {r r':R2} (h:IxR X r) (h':IxR X r'):IxR X (λx y H Q=>r x y H Q \/ r' x y H Q):=by
 intro value slice Kz s σ H x y v u Q I rx ry q hs;rcases q with q | q
 ·exact h value slice Kz s σ H x y v u Q I rx ry q hs
 ·exact h' value slice Kz s σ H x y v u Q I rx ry q hs
theorem Qzx {r:R2} (hr:IxR X r) (ha:PE X a ta) (hb:PE X b tb) (hs:PlainIx b):PE X (.Subscript a b pos) (tOp r ta tb):=by
 intro Kz s σ H Q I h;exact Subscript_ (Qz3 ha hb I h λv u s2 x y H2 I2 rx ry q=>hr a b Kz s2 σ H2 x y v u Q I2 rx ry q (hs _ _))
def Qzv (K:W.Frag):R2:=λx y H Q=> ∃ p xs i v,x= .ref p/\y= .int i/\SqL K H p xs/\atI xs i=some v/\Q v H
def Qzt (K:W.Frag):R2:=λx y H Q=> ∃ p xs i v,x= .ref p/\y= .int i/\SqT K H p xs/\atI xs i=some v/\Q v H
def Qzu:R2:=λx y H Q=> ∃ z i c,x= .str z/\y= .int i/\z.length<=sizeLine/\atI z.cps.toList i=some c/\Q (.str ⟨#[c]⟩) H
theorem Qv1:IxR X (Qzv X.K):=by
 intro value slice Kz s σ H x y v u Q I rx ry h hs;obtain ⟨p,xs,i,z,rfl,rfl,hq,he,q⟩:=h;cases rx;obtain ⟨t,rfl⟩:=ry;obtain ⟨Kv,r,pl,hz⟩:=I.list hq;obtain ⟨j,h1,h2,h3,h4,h5⟩:=Qeu he;obtain ⟨w,ew,rw'⟩:=r.get h2;have hl:=r.length;have hn:=line63;have Kj:EP X Kz σ Q w s:=⟨z,H,I,rw',q⟩
 by_cases h0:0<=i
 ·have hj:i.toNat=j:=by
   rw [seqIndex_of h0 h5] at h1;exact J4 h1
  exact item_listR pl.isList h0 (by omega) (by rw [hj];simpa using ew) Kj hs
 ·have hj:(i+(Kv.toArray.size:Int)).toNat=j:=by
   rw [seqIndex_neg (by omega) h4] at h1;rw [Ql,<- hl];exact J4 h1
  exact subscriptTail_builtinR (x:=w) pl.isList.typeIs slot_list_getitem.lookup
   (wpAny_getItem_list_neg (Q:=λr s'=>r=w/\EP X Kz σ Q r s') pl.isList (by omega) (by rw [Ql]<;>omega) (by omega) (by rw [hj];simpa using ew) ⟨rfl,Kj⟩) hs
theorem Qyf:IxR X (Qzt X.K):=by
 intro value slice Kz s σ H x y v u Q I rx ry h hs;obtain ⟨p,xs,i,z,rfl,rfl,hq,he,q⟩:=h;cases rx;obtain ⟨t,rfl⟩:=ry;obtain ⟨Kv,r,pl,hz⟩:=I.tuple hq;obtain ⟨j,h1,h2,h3,h4,h5⟩:=Qeu he;obtain ⟨w,ew,rw'⟩:=r.get h2;have hl:=r.length;have hn:=line63;have Kj:EP X Kz σ Q w s:=⟨z,H,I,rw',q⟩;exact subscriptTail_builtinR (x:=w) pl.typeIs slot_tuple_getitem.lookup
  (getItem_tuple (j:=j) (Q:=λr s'=>r=w/\EP X Kz σ Q r s') pl (by omega) (by omega) (by rw [Ql,<- hl];exact h1) (by simpa using ew) ⟨rfl,Kj⟩) hs
theorem Qyg:IxR X Qzu:=by
 intro value slice Kz s σ H x y v u Q I rx ry h hs;obtain ⟨z,i,c,rfl,rfl,hz,he,q⟩:=h;obtain ⟨t,rfl⟩:=rx;obtain ⟨t',rfl⟩:=ry;obtain ⟨j,h1,h2,h3,h4,h5⟩:=Qeu he;have hl:z.cps.toList.length=z.length:=by simp [Str.length]
 rw [hl] at h1 h4 h5;have hn:=line63;exact tail_any (typeIs_str s z t) slot_str_getitem.lookup (getItem_str (c:=c) (by
  have e1:decide (i < -(2 ^ 63:Int))=false:=QM (by omega);have e2:decide (i ≥ 2 ^ 63)=false:=QM (by omega);rw [e1,e2,Bool.or_false]) (by rw [h1];simpa using h2) ⟨.str ⟨#[c]⟩,H,I.tok _,⟨_,rfl⟩,q⟩) hs
def rIx (K:W.Frag):R2:=λx y H Q=>Qzv K x y H Q \/ Qzt K x y H Q \/ Qzu x y H Q
theorem Qyh:IxR X (rIx X.K):=Qv1.or (Qyf.or Qyg)
theorem Qdd (lo hi:Option Int) (n:Nat):(sliceBounds lo hi none n).1=((HT.sIx n 0 lo:Nat):Int)/\(sliceBounds lo hi none n).2.1=((HT.sIx n n hi:Nat):Int)/\(sliceBounds lo hi none n).2.2=1:=by
 refine ⟨?_,?_,rfl⟩
 ·cases lo with
  | none=>simp [sliceBounds,HT.sIx]
  | some i =>
   simp only [sliceBounds,HT.sIx,Option.getD_none,show (1:Int) > 0 by decide,Wt]
   by_cases h:i < 0
   ·simp only [h,Wt]<;>omega
   ·simp only [h,JI]<;>omega
 ·cases hi with
  | none=>simp [sliceBounds,HT.sIx]
  | some i =>
   simp only [sliceBounds,HT.sIx,Option.getD_none,show (1:Int) > 0 by decide,Wt]
   by_cases h:i < 0
   ·simp only [h,Wt]<;>omega
   ·simp only [h,JI]<;>omega
theorem Qbj (Kv:List Value) (lo hi:Option Int):slicePick Kv.toArray lo hi none=((Kv.drop (HT.sIx Kv.length 0 lo)).take (HT.sIx Kv.length Kv.length hi - HT.sIx Kv.length 0 lo)).toArray:=by
 obtain ⟨h1,h2,h3⟩:=Qdd lo hi Kv.toArray.size;unfold slicePick;rw [h1,h2,h3];simp only [sliceRange_one,pick_run,Ql]<;>rfl
def Jb8 (K:W.Frag):V->Option Int->Option Int->Hp->VK->Prop:=λx lo hi H Q=> ∃ a xs,x= .ref a/\SqL K H a xs/\ ∀ p,H p=none->Q (.ref p) (upd H p (.lst (Qn9 xs lo hi)))
theorem Qtb:SlR X (Jb8 X.K):=by
 intro Kz s σ H x v vl vu lo hi sl Q I rx hs pl pu h;obtain ⟨a,xs,rfl,hx,q⟩:=h;cases rx;obtain ⟨Kv,r,ht,hz⟩:=I.list hx;have Kr:=r.length;refine ⟨"list",_,slot_list_getitem.lookup,ht.isList.typeIs,?_⟩;refine wpAny_getItem_list_slice ht.isList hs pl pu .none (by simp) ?_ (by rw [Ql]<;>omega);rw [Qbj,<- Kr];refine ⟨.ref s.heap.objs.size,_,I.laid (t':=s.toks) (o:= .lst (Qn9 xs lo hi)) (λb ob q=>Q1 _ q) (Q5 _) ?_,rfl,q _ (I.hok.fresh (Q5 _))⟩;exact ⟨Qu (Qgj xs lo hi) hz,_,0,(r.drop (HT.sIx xs.length 0 lo)).take (HT.sIx xs.length xs.length hi - HT.sIx xs.length 0 lo),Qd _ rfl⟩
def Bb:V->Bool
 | .non=>true
 | .bl _=>true
 | .int _=>true
 | .str _=>true
 | _=>false
def eqV:V->V->Bool
 | .non,.non=>true
 | .bl a,.bl b=>a == b
 | .bl a,.int b=>(if a then 1 else 0) == b
 | .int a,.bl b=>a == (if b then 1 else 0)
 | .int a,.int b=>a == b
 | .str a,.str b=>a == b
 | _,_=>false
theorem Qyo {A:Around} {s:Shared} {y x:V} {u v:Value} (ry:RelV y u) (rx:RelV x v) (fy:Bb y=true) (fx:Bb x=true):SeqAt.EqAt A s u v (eqV y x):=by
 cases y with
 | non =>
  cases ry;cases x with
  | non=>cases rx;exact Qh7 _
  | bl b=>cases rx;exact SeqAt.EqAt.none_bool b
  | int b=>obtain ⟨t,rfl⟩:=rx;exact SeqAt.EqAt.none_int b t
  | str b=>obtain ⟨t,rfl⟩:=rx;exact SeqAt.EqAt.none_str b t
  | _=>exact absurd (show false=true from fx) Qn
 | bl a =>
  cases ry;cases x with
  | non=>cases rx;exact SeqAt.EqAt.bool_none a
  | bl b=>cases rx;exact SeqAt.EqAt.bool_bool a b
  | int b=>obtain ⟨t,rfl⟩:=rx;exact SeqAt.EqAt.bool_int a b t
  | str b=>obtain ⟨t,rfl⟩:=rx;exact SeqAt.EqAt.bool_str a b t
  | _=>exact absurd (show false=true from fx) Qn
 | int a =>
  obtain ⟨t',rfl⟩:=ry;cases x with
  | non=>cases rx;exact SeqAt.EqAt.int_none a t'
  | bl b=>cases rx;exact SeqAt.EqAt.int_bool a t' b
  | int b=>obtain ⟨t,rfl⟩:=rx;exact SeqAt.EqAt.int_int a t' b t
  | str b=>obtain ⟨t,rfl⟩:=rx;exact Qsv a t' b t
  | _=>exact absurd (show false=true from fx) Qn
 | str a =>
  obtain ⟨t',rfl⟩:=ry;cases x with
  | non=>cases rx;exact SeqAt.EqAt.str_none a t'
  | bl b=>cases rx;exact SeqAt.EqAt.str_bool a t' b
  | int b=>obtain ⟨t,rfl⟩:=rx;exact Qst a t' b t
  | str b=>obtain ⟨t,rfl⟩:=rx;exact SeqAt.EqAt.str_str a t' b t
  | _=>exact absurd (show false=true from fx) Qn
 | _=>exact absurd (show false=true from fy) Qn
def eqU (x:V) (u:Value):Bool:=match u with
 | .none=>eqV .non x
 | .bool b=>eqV (.bl b) x
 | .int i _=>eqV (.int i) x
 | .str z _=>eqV (.str z) x
 | _=>false
theorem Qre {x y:V} {u:Value} (r:RelV y u) (f:Bb y=true):eqU x u=eqV y x:=by
 cases y with
 | non=>cases r;rfl
 | bl b=>cases r;rfl
 | int i=>obtain ⟨t,rfl⟩:=r;rfl
 | str z=>obtain ⟨t,rfl⟩:=r;rfl
 | _=>exact absurd (show false=true from f) Qn
theorem Bi {x:V}: ∀ {xs:List V} {us:List Value},Vals xs us->xs.all Bb=true->us.any (eqU x)=xs.any λy=>eqV y x
 | _,_,.nil,_=>rfl
 | y::xs,u::us,.cons r t,f=>by
  rw [List.all_cons,Qv] at f;rw [ZV,ZV,Qre r f.1,Bi t f.2]
theorem Uw {A:Around} {s:Shared} {x:V} {v:Value} (rx:RelV x v) (fx:Bb x=true): ∀ {xs:List V} {us:List Value},Vals xs us->xs.all Bb=true-> ∀ u∈us,SeqAt.EqAt A s u v (eqU x u)
 | _,_,.nil,_=>λu hu=>by cases hu
 | y::xs,u::us,.cons r t,f=>λu' hu=>by
  rw [List.all_cons,Qv] at f;rcases Qb.mp hu with rfl | hu
  ·rw [Qre r f.1];exact Qyo r rx f.1 fx
  ·exact Uw rx fx t f.2 u' hu
def inV (x:V) (xs:List V):Bool:=xs.any λy=>eqV y x
def rIn (K:W.Frag) (neg:Bool):R2:=λx y H Q=> ∃ p xs,y= .ref p/\(SqL K H p xs \/ SqT K H p xs)/\Bb x=true/\xs.all Bb=true/\Q (.bl (if neg then !inV x xs else inV x xs)) H
theorem Qmb:OpR X (compareOp .In) (rIn X.K false):=by
 intro Kz s σ H x y v u Q I rx ry h;obtain ⟨p,xs,rfl,hq,fx,fs,q⟩:=h;cases ry;rcases hq with hq | hq
 ·obtain ⟨Kv,r,pl,hz⟩:=I.list hq;refine SeqAt.in_listAt (eqU x) pl.isList (λw hw=>Uw rx fx r fs w (by simpa using hw)) ⟨.bl _,H,I,rfl,?_⟩;rw [show Kv.toArray.any (eqU x)=Kv.any (eqU x) by simp,Bi r fs];exact q
 ·obtain ⟨Kv,r,pl,hz⟩:=I.tuple hq;refine SeqAt.in_tupleAt (eqU x) pl (λw hw=>Uw rx fx r fs w (by simpa using hw)) ⟨.bl _,H,I,rfl,?_⟩;rw [show Kv.toArray.any (eqU x)=Kv.any (eqU x) by simp,Bi r fs];exact q
theorem Qe1:OpR X (compareOp .NotIn) (rIn X.K true):=by
 intro Kz s σ H x y v u Q I rx ry h;obtain ⟨p,xs,rfl,hq,fx,fs,q⟩:=h;cases ry;rcases hq with hq | hq
 ·obtain ⟨Kv,r,pl,hz⟩:=I.list hq;refine SeqAt.notIn_listAt (eqU x) pl.isList (λw hw=>Uw rx fx r fs w (by simpa using hw)) ⟨.bl _,H,I,rfl,?_⟩;rw [show Kv.toArray.any (eqU x)=Kv.any (eqU x) by simp,Bi r fs];exact q
 ·obtain ⟨Kv,r,pl,hz⟩:=I.tuple hq;refine SeqAt.notIn_tupleAt (eqU x) pl (λw hw=>Uw rx fx r fs w (by simpa using hw)) ⟨.bl _,H,I,rfl,?_⟩;rw [show Kv.toArray.any (eqU x)=Kv.any (eqU x) by simp,Bi r fs];exact q
theorem Qen:CallR X (.type "list") (λxs H Q=> ∃ p ys,xs=[.ref p]/\(SqL X.K H p ys \/ SqT X.K H p ys)/\ ∀ l,H l=none->Q (.ref l) (upd H l (.lst ys))):=by
 intro Kz s σ H xs us Q I r h;obtain ⟨p,ys,rfl,hq,q⟩:=h;obtain ⟨u,rfl,rx⟩:=vals1 r;cases rx;have Kj: ∀ (Kv:List Value),Vals ys Kv->ys.length<=sizeLine-> ∀ (h':Heap) (c':Nat),(∀ b o',s.heap.get? b=some o'->h'.get? b=some o') ->
   h'.get? s.heap.objs.size=some { cls:= .type "list",dict:=none,data:= .seq Kv.toArray c',slots:= #[] }->EP X Kz σ Q (.ref s.heap.objs.size) { s with heap:=h' }:=λKv r' hz h' c' kp e =>
  ⟨.ref s.heap.objs.size,_,I.laid (t':=s.toks) kp (Q5 _) (show ObjOk X.prog X.w _ h' _ (.lst ys) from ⟨hz,Kv,c',r',e⟩),rfl,q _ (I.hok.fresh (Q5 _))⟩
 rcases hq with hq | hq
 ·obtain ⟨Kv,r',pl,hz⟩:=I.list hq;have Kr:=r'.length;obtain ⟨o,ho,hc,n,hd⟩:=pl.isList;exact call_list_seq p (.inl rfl) ho hc hd (λh' c' kp e=>Kj Kv r' hz h' c' kp e) (by simp only [Ql]<;>omega)
 ·obtain ⟨Kv,r',pl,hz⟩:=I.tuple hq;have Kr:=r'.length;obtain ⟨o,ho,hc,n,hd⟩:=pl;exact call_list_seq p (.inr rfl) ho hc hd (λh' c' kp e=>Kj Kv r' hz h' c' kp e) (by simp only [Ql]<;>omega)
theorem Qbr:CallR X (.type "tuple") (λxs H Q=> ∃ p ys,xs=[.ref p]/\((SqL X.K H p ys/\ ∀ l,H l=none->Q (.ref l) (upd H l (.tup ys))) \/ (SqT X.K H p ys/\Q (.ref p) H))):=by
 intro Kz s σ H xs us Q I r h;obtain ⟨p,ys,rfl,h⟩:=h;obtain ⟨u,rfl,rx⟩:=vals1 r;cases rx;rcases h with ⟨hq,q⟩ | ⟨hq,q⟩
 ·obtain ⟨Kv,r',pl,hz⟩:=I.list hq;have Kr:=r'.length;refine call_tuple_list pl.isList (λh' kp=> ?_) (by simp only [Ql]<;>omega);have I1:Inv X Kz σ H { s with heap:=h' }:=I.kept (t':=s.toks) kp;have I2:Inv X Kz σ (upd H h'.objs.size (.tup ys)) { s with heap:=h'.push { cls:= .type "tuple",data:= .seq Kv.toArray } } :=
   I1.laid (t':=s.toks) (λb o e=>Q1 _ e) (Q5 _) (show ObjOk X.prog X.w _ _ _ (.tup ys) from ⟨hz,Kv,r',IsTup.new _ _⟩)
  exact ⟨.ref h'.objs.size,_,I2,rfl,q _ (I1.hok.fresh (Q5 _))⟩
 ·obtain ⟨Kv,r',pl,hz⟩:=I.tuple hq;exact call_tuple_same pl ⟨.ref p,H,I,rfl,q⟩
def tyV (K:W.Frag) (T:String) (x:V) (H:Hp):Prop:=match x with
 | .str _=>T= "str"
 | .int _=>T= "int"
 | .ref p=>(T= "list" /\ ∃ xs,SqL K H p xs) \/ (T= "tuple" /\ ∃ o,K.lookup p=some o/\o.cls= .type "tuple" /\o.dict=none) \/
   (T= "dict" /\((∃ Ku,H p=some (.dK Ku)) \/ ∃ Ku,H p=some (.dT Ku))) \/ (T= "set" /\ ∃ S n,H p=some (.set S n))
 | _=>False
theorem Qo0 {Kz:Ke} {σ:St} {H:Hp} {s:Shared} {T:String} {x:V} {v:Value} (I:Inv X Kz σ H s) (r:RelV x v) (ty:tyV X.K T x H) :
  s.TypeIs v T/\ ∀ a,v= .ref a-> ∃ ob,s.heap.get? a=some ob/\ob.dict=none:=by
 cases x with
 | str z =>
  obtain ⟨t,rfl⟩:=r;cases (show T= "str" from ty);exact ⟨typeIs_str s z t,λ_ e=>nomatch e⟩
 | int i =>
  obtain ⟨t,rfl⟩:=r;cases (show T= "int" from ty);exact ⟨typeIs_int s i t,λ_ e=>nomatch e⟩
 | ref p =>
  cases r;rcases ty with ⟨rfl,xs,hq⟩ | ⟨rfl,o,hk,hc,hd⟩ | ⟨rfl,hk⟩ | ⟨rfl,S,n,hk⟩
  ·obtain ⟨Kv,_,pl,_⟩:=I.list hq;refine ⟨pl.isList.typeIs,λa e=> ?_⟩;cases e;obtain ⟨o,n,e,c,hd,_⟩:=pl;exact ⟨o,e,hd⟩
  ·refine ⟨⟨o,I.kIn p o hk,hc⟩,λa e=> ?_⟩;cases e;exact ⟨o,I.kIn _ o hk,hd⟩
  ·have z: ∃ o,s.heap.get? p=some o/\o.ExactDict:=by
    rcases hk with ⟨Ku,hk⟩ | ⟨Ku,hk⟩
    ·obtain ⟨_,_,_,_,o,_,_,e,ex,_⟩:=I.hok p _ hk;exact ⟨o,e,ex⟩
    ·obtain ⟨_,_,_,_,o,_,_,e,ex,_⟩:=I.hok p _ hk;exact ⟨o,e,ex⟩
   obtain ⟨o,e,ex⟩:=z;refine ⟨⟨o,e,ex.1⟩,λa e2=> ?_⟩;cases e2;exact ⟨o,e,ex.2.1⟩
  ·obtain ⟨o,_,_,_,e,ex,_⟩:=I.hok p _ hk;refine ⟨⟨o,e,ex.1⟩,λa e2=> ?_⟩;cases e2;exact ⟨o,e,ex.2.1⟩
 | _=>exact False.elim ty
def Jb6 (K:W.Frag) (T:String) (r:V->List V->Hp->VK->Prop) (to:TE):TE:=λσ H Q=>to σ H λx H1=>tyV K T x H1/\r x [] H1 Q
def tBM (K:W.Frag) (T:String) (r:V->List V->Hp->VK->Prop) (to:TE) (t:TA):TE:=λσ H Q=>to σ H λx H1=>tyV K T x H1/\t σ H1 λxs H2=>r x xs H2 Q
variable {o e:Expr} {es:List Expr} {to:TE} {t:TA} {name:Str} {apos cpos:Pos} {T id:String} {r:V->List V->Hp->VK->Prop}
theorem Qxo (pa:PlainAttrs T) (slot:Slot T name id) (hty:typeOf (.builtin id)=pure (.type "method_descriptor")) (hm:MtR X id r) (ho:PE X o to)
  (hbase:attributeBase o name X.env (eval o X.env)=eval o X.env:=by rfl) (Kh:(apos.endLine == cpos.line)=true:=by rfl):PE X (.Call (.Attribute o name apos) [] [] cpos) (Jb6 X.K T r to):=by
 intro Kz s σ H Q I h;refine wpAny_Call_method0_late hbase Kh (thn (ho Kz s σ H _ I h) λv s1 ⟨x,H1,I1,r1,ty,q1⟩=> ?_);obtain ⟨h1,h2⟩:=Qo0 I1 r1 ty;exact ⟨T,id,pa,slot,hty,h1,h2,Zg rfl (PySem.evalArgs_none (hm Kz s1 σ H1 x [] v [] Q I1 r1 .nil q1))⟩
theorem Qc3 (pa:PlainAttrs T) (slot:Slot T name id) (hty:typeOf (.builtin id)=pure (.type "method_descriptor")) (hm:MtR X id r) (ho:PE X o to) (ha:PA X (e::es) t)
  (hbase:attributeBase o name X.env (eval o X.env)=eval o X.env:=by rfl)
  (hfew:((backTo cpos (starEach (e::es) X.env)).all (λx=> !x.1) && (backToKw cpos (keywordEach [] X.env)).all (λx=>x.1.isSome)
   && decide ((e::es).length+([]:List Keyword).length+(if ([]:List Keyword).isEmpty then 0 else 1) < 30))=true:=by rfl)
  (Kh:(apos.endLine == cpos.line)=true:=by rfl) (hs:starEach (e::es) X.env=(false,eval e X.env)::starEach es X.env:=by rfl) (hplain:(backTo cpos (starEach es X.env)).any (·.1)=false:=by rfl) :
  PE X (.Call (.Attribute o name apos) (e::es) [] cpos) (tBM X.K T r to t):=by
 intro Kz s σ H Q I h;refine wpAny_Call_method_late hbase hfew Kh rfl (thn (ho Kz s σ H _ I h) λv s1 ⟨x,H1,I1,r1,ty,q1⟩=> ?_);obtain ⟨h1,h2⟩:=Qo0 I1 r1 ty;refine ⟨T,id,pa,slot,hty,h1,h2,?_⟩;have hA:=ha cpos Kz s1 σ H1 _ I1 q1;rw [hs] at hA ⊢;refine Zg (by show (false || (backTo cpos (starEach es X.env)).any (·.1))=false;rw [hplain]<;>rfl) (Qln ?_);exact thn hA λus s2 ⟨vs,H2,I2,r2,q2⟩=>hm Kz s2 σ H2 x vs v us Q I2 r1 r2 q2
/- xs.append(e),list.index on a module's tuple .. are MtR facts of 06m -/
end
def MtM (X:Cx) (id:String) (r:V->List V->Hp->VK->Prop):Prop :=
 ∀ (Kz:Ke) (s:Shared) (σ:St) (H:Hp) (x:V) (xs:List V) (v:Value) (us:List Value) (Q:VK),Inv X Kz σ H s->RelV x v->Vals xs us->r x xs H Q ->
  wpAny (model X.prog X.w) X.A (call (.builtin id) (v::us)) (EP X Kz σ Q) X.xe s
theorem Vals.one: ∀ {x:V} {us:List Value},Vals [x] us-> ∃ u,us=[u]/\RelV x u
 | _,_,.cons r .nil=>⟨_,rfl,r⟩
theorem Vals.two: ∀ {x y:V} {us:List Value},Vals [x,y] us-> ∃ u v,us=[u,v]/\RelV x u/\RelV y v
 | _,_,_,.cons r (.cons q .nil)=>⟨_,_,rfl,r,q⟩
section
variable {X:Cx} {Kz:Ke} {σ:St} {H:Hp} {s:Shared} {l b:Addr} {xs ys zs:List V}
theorem Inv.lset {Kv its':List Value} {n:Nat} {f:Array Value->Array Value} {t':Nat} (I:Inv X Kz σ H s) (hH:H l=some (.lst xs))
  (e:s.heap.get? l=some { cls:= .type "list",data:= .seq Kv.toArray n }) (hf:f Kv.toArray=its'.toArray) (hv:Vals ys its') (hz:ys.length<=sizeLine) :
  Inv X Kz σ (upd H l (.lst ys)) { s with heap:=s.heap.update l (Obj.mapSeq f),toks:=t' }:=by
 have q:=PySem.IsL.update e f;rw [hf] at q;refine I.write (x:=l) (e:=l) (by rw [hH];exact trivial) (.inl rfl) (λb' u hb hu=>(Ww s.heap (Obj.mapSeq f) (QS hb)).trans hu) ⟨_,q⟩ ?_;exact ⟨hz,its',_,hv,q⟩
theorem Inv.lnew {Kv:List Value} {t':Nat} (I:Inv X Kz σ H s) (hv:Vals ys Kv) (hz:ys.length<=sizeLine) :
  Inv X Kz σ (upd H s.heap.objs.size (.lst ys)) { s with heap:=s.heap.push { cls:= .type "list",data:= .seq Kv.toArray },toks:=t' } :=
 I.laid (λ_ _ q=>Q1 _ q) (Q5 _) ⟨hz,Kv,0,hv,Qd _ rfl⟩
theorem Inv.fresh (I:Inv X Kz σ H s):H s.heap.objs.size=none:=I.hok.fresh (Q5 _)
theorem Inv.lstM (I:Inv X Kz σ H s) (hH:H l=some (.lst xs)):xs.length<=sizeLine/\ ∃ (Kv:List Value) (n:Nat),Vals xs Kv/\xs.length=Kv.length/\s.heap.get? l=some { cls:= .type "list",data:= .seq Kv.toArray n }:=by
 obtain ⟨z,Kv,n,r,e⟩:=I.hok l _ hH;exact ⟨z,Kv,n,r,r.length,e⟩
theorem Qq1 {n:Nat} (h:n<=sizeLine):Builtin.List.listTooLong n=false:=by
 unfold Builtin.List.listTooLong;exact QM (by omega)
end
section
variable {X:Cx}
def Qk6:V->List V->Hp->VK->Prop:=λx vs H Q=> ∃ l xs y,x= .ref l/\vs=[y]/\H l=some (.lst xs)/\xs.length < sizeLine/\Q .non (upd H l (.lst (xs++[y])))
theorem Qcb:MtM X "list.append" Qk6:=by
 intro Kz s σ H x vs v us Q I rx rv h;obtain ⟨l,xs,y,rfl,rfl,hH,hz,q⟩:=h;cases rx;obtain ⟨u,rfl,ru⟩:=rv.one;obtain ⟨z,Kv,n,r,hl,e⟩:=I.lstM hH;refine call_meets F.slot_list_append ⟨_,e,rfl⟩ F.entry_list_append (F.args_list_append_2 _ _) (PySem.list_append l Kv.toArray n u (by rw [Ql];omega)) ⟨e,?_⟩;refine ⟨.non,_,I.lset (its':=Kv++[u]) hH e (by simp) (r.append (.cons ru .nil)) ?_,rfl,q⟩;rw [Qs,Wu];omega
def Qk5:V->List V->Hp->VK->Prop:=λx vs H Q=> ∃ l b xs zs,x= .ref l/\vs=[.ref b]/\H l=some (.lst xs)/\H b=some (.lst zs)/\xs.length+zs.length<=sizeLine/\Q .non (upd H l (.lst (xs++zs)))
theorem Qml:MtM X "list.extend" Qk5:=by
 intro Kz s σ H x vs v us Q I rx rv h;obtain ⟨l,b,xs,zs,rfl,rfl,hH,hB,hz,q⟩:=h;cases rx;obtain ⟨u,rfl,ru⟩:=rv.one;cases ru;obtain ⟨z,Kv,n,r,hl,e⟩:=I.lstM hH;obtain ⟨z2,its2,n2,r2,hl2,e2⟩:=I.lstM hB;have hsz:Kv.toArray.size+its2.toArray.size<=sizeLine:=by rw [Ql,Ql];omega
 have hlong: ¬ (!Kv.toArray.isEmpty && Builtin.List.listTooLong (Kv.toArray.size+its2.toArray.size))=true:=by
  rw [Qq1 hsz,Bool.and_false];exact Qn
 refine call_meets F.slot_list_extend ⟨_,e,rfl⟩ F.entry_list_extend (F.args_list_extend_2 _ _)
  (AutoSeq1.list_extend_list_list_0 l Kv.toArray n b its2.toArray n2 hlong (by rw [Ql];omega) (by omega)) ⟨e,e2,?_⟩
 refine ⟨.non,_,I.lset (its':=Kv++its2) hH e (by simp) (r.append r2) ?_,rfl,q⟩;rw [Qs];omega
end
end L2
namespace Att
open PySem PySem.W PySem.Calls PyProof.Rows
theorem Oe {P:Params} {h:Heap}: ∀ (ns:List Int) (vs:List Value),WellAll P h vs (ns.map WData.int)->IntsAre vs ns:=by
 intro ns
 induction ns with
 | nil =>
  intro vs w;rw [Z1] at w;cases w;exact .nil
 | cons n ns ih =>
  intro vs w;rw [Qk] at w;cases w with
  | cons a b =>
   cases a;exact .cons _ _ (ih _ b)
theorem Qm1 {l:OpenLaw} {n:Nat} (hn:l.most=some n) {P:Params} {h:Heap} {args:List WData} {vals:List Value}
  (hpre:l.row.toRowW.claim.pre args=true) (hwl:WellAll P h vals args) :
  ∃ a vs ns,vals=[Value.ref a]/\args=[WData.list (ns.map WData.int)]/\h.get? a=some { cls:= .type "list",data:= .seq vs.toArray }/\IntsAre vs ns/\ns.length<=n:=by
 have hsh:WShape.hasAll [] args [.list .int]=true:=(pre_splitW hpre).1;have hc:l.pre.holds [] { args:=args }=true:=(pre_splitW hpre).2;obtain ⟨d,r,rfl,h1,h2⟩:=hasAllW_cons hsh;obtain rfl:=hasAllW_nil h2;obtain ⟨xs,rfl,h3⟩:=hasW_list h1;obtain ⟨ns,rfl⟩:=items_int h3;have Kr:ns.length<=n:=by
  unfold OpenLaw.pre at hc;have h4:(WTm.not (.lt (.lit (.int (n:Int))) (.len (.arg 0)))).holds [] { args:=[.list (ns.map .int)] }=true:=by
   have h4:=(holds_andW hc).1;rw [hn] at h4;exact h4
  have h5:=condW_of h4 (w_not (w_lt w_lit (w_len_list (w_arg rfl))));rw [Q2] at h5;refine YM λq=> ?_
  have q':(n:Int) < ((ns.length:Nat):Int):=by omega
  first
   | (rw [Jz q'] at h5;exact absurd h5 (by decide))
   | (simp at h5;omega)
 cases hwl with
 | cons w1 w2 =>
  cases w2;cases w1 with
  | list ho hall=>exact ⟨_,_,ns,rfl,rfl,ho,Oe ns _ hall,Kr⟩
theorem Qm7 (l:OpenLaw) (args:List WData):l.row.toRowW.claim.post args (.bool true) args=true :=
 postW_of (r:=l.row.toRowW) (X:=(true == true))
  (show WShape.has [] (.bool true) .bool=true by first | rfl | decide | simp [WShape.has,WShape.arms,WShape.armsAll])
  (show (WTm.eq .res (.lit (.bool true))).value [] { args:=args,res:=some (.bool true),after:=args }=some (.bool (true == true)) from w_eq_bool (w_res rfl) w_lit) rfl
theorem attach_call {l:OpenLaw} {n:Nat} {q:Program} {loose:List Str} {XP:(Str->Option Value)->Heap->Prop} {YP:World->Heap->Prop} {d:DefRec}
  (hn:l.most=some n) (hdf:d.params.defaults=[])
  (call: ∀ (w:World) (s₀ Kl:Shared) (mg mb:Str->Option Value) (fa:Addr) (o:Obj) (pm cd doc:Value) (a:Addr) (vs:List Value) (ns:List Int),
   Ground q loose [] XP w s₀ mg mb Kl.heap->YP w Kl.heap ->
   Kl.heap.get? fa=some o->o.data= .func (docDef d.name d.params d.body d.scope pm cd doc)->Kl.heap.CodeRec cd d.name->mg d.name=some (.ref fa) ->
   Kl.heap.get? a=some { cls:= .type "list",data:= .seq vs.toArray }->IntsAre vs ns->ns.length<=n->Kl.gens= #[] ->
   codeAny (model l.prog w) callerA (.call (.ref fa) ⟨[.ref a],[]⟩) (λr s'=>r= .ok (.ret (.bool true))/\OldK Kl.heap s'.heap/\s'.os=Kl.os/\AllBare s'.gens) Kl) :
  WalkO q loose XP YP l.row.toRowW d [] (λf vs=>PySem.call f vs):=by
 intro w s₀ Kl mg mb G Y fa o pm cd doc dV kV ho hd hcd hD hmg hg args vals as hpre hlay hrd hwl hlo;obtain rfl:dV= .none:=Dflts.none hD hdf;obtain rfl:kV= .none:=Dflts.noKw hD;obtain ⟨a,vs,ns,rfl,rfl,hobj,hints,Kr⟩:=Qm1 hn hpre hwl;refine enter_call (Bn (call w s₀ Kl mg mb fa o pm cd doc a vs ns G Y ho (fd_plain hd) hcd hmg hobj hints Kr hg) λr s' hq=> ?_);obtain ⟨rfl,h2,h3,h4⟩:=hq;exact ⟨.inl ⟨.bool true,.bool true,[],rfl,λ_=>rfl,.bool true,Qm7 l _,λ_=>⟨Qlm,λ_ hm=>(nomatch hm)⟩⟩,h2,h3,h4⟩
end Att
namespace L2
open PySem PySem.Spec PyProof.Rows
theorem Qbv: ∀ {vs:List Value} {ns:List Int},IntsAre vs ns->Vals (ns.map V.int) vs
 | _,_,.nil=> .nil
 | _,_,.cons n t h=> .cons ⟨t,rfl⟩ (Qbv h)
def Only (H:Hp):Prop:= ∀ b,H b=none \/ ∃ o xs,H b=some (.frz o (.lst xs))
theorem Qqs {P:Program} {w:World} {K:W.Frag} {mg mb:Str->Option Value} {CX:CXT} {k:Nat} {fa a:Addr} {fd:FuncData} {x:Str} {sp:Sp} {Kl:Shared} {vs:List Value} {ns:List Int}
  (KX:K.In Kl.heap) (hns:Kl.heap.Ns mainGlobals mg) (hb:Kl.heap.Ns builtinsNs mb) (hbb: ∀ x:Str,x≠ "__name__" ->mb x=bootBuiltins x) (hlim:Kl.heap.NoLimit) (hg:Kl.gens= #[])
  (ha:Kl.heap.get? a=some { cls:= .type "list",data:= .seq vs.toArray }) (hi:IntsAre vs ns) (hl:ns.length<=sizeLine) (hr:Room k callerA)
  (F: ∀ base:Heap,K.In base->base.Ns mainGlobals mg->FnOk P w K mg base CX k fa fd [x] sp) (hbind: ∀ (s:Shared) (u:Value),BindsTo s fd ⟨[u],[]⟩ [(x,u)])
  (hsp: ∀ H:Hp,Only H->SqL K H a (ns.map V.int)->sp [.ref a] H (λv _=>v= .bl true) λ_ _ _=>False)
  (hCX: ∀ H e s',CX [] H Kl (λ_ _ _=>False) e s'->False) :
  codeAny (model P w) callerA (.call (.ref fa) ⟨[.ref a],[]⟩) (λr s'=>r= .ok (.ret (.bool true))/\OldK Kl.heap s'.heap/\s'.os=Kl.os/\AllBare s'.gens) Kl:=by
 have rv:=Qbv hi;have lenV:=hi.length;have core: ∀ H:Hp,Only H->SqL K H a (ns.map V.int)->HOk P w H Kl.heap->(∀ b,H b≠none->b=a)->(H a≠none->K.lookup a=none) ->
   codeAny (model P w) callerA (.call (.ref fa) ⟨[.ref a],[]⟩) (λr s'=>r= .ok (.ret (.bool true))/\OldK Kl.heap s'.heap/\s'.os=Kl.os/\AllBare s'.gens) Kl:=by
  intro H hO hS hok hA hK;have base_of: ∀ {b:Addr} {o:Obj},Kl.heap.get? b=some o->H b=none->(Qeg Kl.heap H).get? b=some o:=λe n=>Qr6 e n
  have noA: ∀ {b:Addr} {o:Obj} {es:Array DictEntry} {ep:Nat},Kl.heap.get? b=some o->o.data= .dict es ep->H b=none:=λ{b o es ep} e d=>by
   cases q:H b with
   | none=>rfl
   | some u =>
    have e':b=a:=hA b (by rw [q];simp);subst e';rw [ha] at e;cases e;have d':Data.seq vs.toArray _=Data.dict es ep:=d;cases d'
  have nsK: ∀ {b:Addr} {m:Str->Option Value},Kl.heap.Ns b m->(Qeg Kl.heap H).Ns b m:=λ{b m} ⟨o,es,ep,e,d,r⟩=>⟨o,es,ep,base_of e (noA e d),d,r⟩
  have hKb:K.In (Qeg Kl.heap H):=λb o e=>base_of (KX b o e) (by
   cases q:H b with
   | none=>rfl
   | some u =>
    have e':b=a:=hA b (by rw [q];simp);subst e';rw [hK (by rw [q];simp)] at e;cases e)
  have hM:Mod K mg (Qeg Kl.heap H):=⟨hKb,nsK hns,⟨mb,nsK hb,hbb⟩,let ⟨mc,h1,h2⟩:=hlim;⟨mc,nsK h1,h2⟩⟩;have e0:Env0 P w K mg (Qeg Kl.heap H) callerA [] Kl H:=⟨rfl,hM,λb o e=>Quh e,Nat.le_of_eq (Qn2 _ _),trivial,λb hb=>absurd (show b∈([]:List Addr) from hb) (by simp),hok,.of_eq hg⟩;refine Bn ((F _ hKb (nsK hns)).run callerA [] Kl H ⟨[.ref a],[]⟩ [.ref a] [.ref a] _ _ hr e0 (hbind Kl (.ref a)) (.cons rfl .nil) (hsp H hO hS)) λr s' h=> ?_
  cases r with
  | error e=>exact (hCX H e s' h).elim
  | ok fl =>
   cases fl with
   | next=>exact False.elim h
   | brk=>exact False.elim h
   | cont=>exact False.elim h
   | ret u =>
    obtain ⟨v,H',os,bare,un,hok',r',q⟩:=h;have q':v= .bl true:=q;subst q';obtain rfl:u=Value.bool true:=r';refine ⟨rfl,OldK.of_keep λb o e=> ?_,os,bare⟩;cases q:H b with
    | none=>exact un.keep b o e q (by intro z;exact absurd (show b∈([]:List Addr) from z) (by simp)) (by simp)
    | some u =>
     rcases hO b with z | ⟨ob,xs,z⟩
     ·rw [q] at z;cases z
     ·have z2:=un.frzs b ob _ z;obtain ⟨e1,_⟩:=hok b _ z;obtain ⟨e2,_⟩:=hok' b _ z2;rw [e] at e1;cases e1;exact e2
 cases hk:K.lookup a with
 | some o =>
  have e:=KX a o hk;rw [ha] at e;cases e;refine core (λ_=>none) (λ_=> .inl rfl) (.inr ⟨_,vs.toArray,_,hk,rfl,rfl,rfl,by rw [Ql,lenV];exact hl,by simpa using rv⟩) (λb u z=>by have z':(none:Option HO)=some u:=z;cases z') (λb z=>absurd rfl z) λz=>absurd rfl z
 | none =>
  refine core (λb=>if b=a then some (.frz { cls:= .type "list",data:= .seq vs.toArray } (.lst (ns.map V.int))) else none) (λb=> ?_) (.inl (.inr ⟨{ cls:= .type "list",data:= .seq vs.toArray },Qj rfl⟩)) (λb u z=> ?_) (λb z=> ?_) λ_=>hk
  ·by_cases hb:b=a
   ·exact .inr ⟨_,_,Qj hb⟩
   ·exact .inl (Qg hb)
  ·by_cases hb:b=a
   ·have z':=(Qj hb).symm.trans z;cases z';subst hb;exact ⟨ha,by rw [Q2];exact hl,vs,_,rv,ha⟩
   ·have z':=(Qg hb).symm.trans z;cases z'
  ·by_cases hb:b=a
   ·exact hb
   ·exact absurd (Qg hb) z
abbrev KOf {K:W.Frag} {h:Heap} (_:K.In h):W.Frag:=K
theorem Qt1 {l:W.OpenLaw} {n k:Nat} {q:Program} {loose:List Str} {XP:(Str->Option Value)->Heap->Prop} {YP:World->Heap->Prop} {d:DefRec} {K:Params->W.Frag} {CX:World->CXT} {sp:World->Sp} {x:Str}
  (hn:l.most=some n) (hn2:n<=sizeLine) (hdf:d.params.defaults=[]) (hr:Room k callerA)
  (hY: ∀ (w:World) (h:Heap),YP w h->(K w.params).In h)
  (F: ∀ (w:World) (mg:Str->Option Value) (fa:Addr) (h:Heap),(K w.params).In h->h.Ns mainGlobals mg->mg d.name=some (.ref fa) ->
   ∃ fd:FuncData,(∀ (s:Shared) (u:Value),BindsTo s fd ⟨[u],[]⟩ [(x,u)]) /\
    ∀ base:Heap,(K w.params).In base->base.Ns mainGlobals mg->FnOk l.prog w (K w.params) mg base (CX w) k fa fd [x] (sp w))
  (hsp: ∀ (w:World) (H:Hp) (a:Addr) (ns:List Int),ns.length<=n->Only H->SqL (K w.params) H a (ns.map V.int)->sp w [.ref a] H (λv _=>v= .bl true) λ_ _ _=>False)
  (hCX: ∀ (w:World) (H:Hp) (s:Shared) (e:Value) (s':Shared),CX w [] H s (λ_ _ _=>False) e s'->False) :
  W.WalkO q loose XP YP l.row.toRowW d [] (λf vs=>PySem.call f vs):=by
 refine Att.attach_call hn hdf λw s₀ Kl mg mb fa o pm cd doc a vs ns G Y ho hd hcd hmg hobj hints Kr hg=> ?_
 have KX:=hY w _ Y;obtain ⟨fd,hb,hF⟩:=F w mg fa _ KX G.T.g hmg;exact Qqs KX G.T.g G.T.b G.T.builtins G.T.nolimit hg hobj hints (Qu Kr hn2) hr hF hb (λH hO hS=>hsp w H a ns Kr hO hS) λH e s'=>hCX w H Kl e s'
theorem Qnx {l:W.OpenLaw} {n k:Nat} {q:Program} {loose:List Str} {XP:(Str->Option Value)->Heap->Prop} {YP:World->Heap->Prop} {d:DefRec} {K:Params->W.Frag} {CX:CXT} {sp:W.Frag->Sp} {x:Str}
  (hn:l.most=some n) (hn2:n<=sizeLine) (hdf:d.params.defaults=[]) (hr:Room k callerA)
  (hY: ∀ (w:World) (h:Heap),YP w h->(K w.params).In h)
  (F: ∀ (w:World) (mg:Str->Option Value) (fa:Addr) (h:Heap),(K w.params).In h->h.Ns mainGlobals mg->mg d.name=some (.ref fa) ->
   ∃ fd:FuncData,(∀ (s:Shared) (u:Value),BindsTo s fd ⟨[u],[]⟩ [(x,u)]) /\
    ∀ base:Heap,(K w.params).In base->base.Ns mainGlobals mg->FnOk l.prog w (K w.params) mg base CX k fa fd [x] (sp (K w.params)))
  (hsp: ∀ (K:W.Frag) (H:Hp) (a:Addr) (ns:List Int),ns.length<=n->Only H->SqL K H a (ns.map V.int)->sp K [.ref a] H (λv _=>v= .bl true) λ_ _ _=>False)
  (hCX: ∀ (H:Hp) (s:Shared) (e:Value) (s':Shared),CX [] H s (λ_ _ _=>False) e s'->False) :
  W.WalkO q loose XP YP l.row.toRowW d [] (λf vs=>PySem.call f vs) :=
 Qt1 (K:=K) (CX:=λ_=>CX) (sp:=λw=>sp (K w.params)) hn hn2 hdf hr hY F (λw H a ns h1 h2 h3=>hsp (K w.params) H a ns h1 h2 h3) λ_ H s e s'=>hCX H s e s'
def WX (s:Stmt):Arguments:=match s with
 | .FunctionDef _ a _ _ _ _ _ _ _ _=>a
 | _=>{ posonlyargs:=[],args:=[],vararg:=none,kwonlyargs:=[],kw_defaults:=[],kwarg:=none,defaults:=[] }
def JM (s:Stmt):List Stmt:=match s with
 | .FunctionDef _ _ b _ _ _ _ _ _ _=>b
 | _=>[]
def Vs (s:Stmt):Scope:=match s with
 | .FunctionDef _ _ _ _ _ _ sc _ _ _=>sc
 | _=>{ kind:= .function,names:=[],isGenerator:=false,isCoroutine:=false }
abbrev CX0:CXT:=λ_ _ _ _ _ _=>False
abbrev E0:XK:=λ_ _ _=>False
theorem pass0 {X:Cx}:Passes CX0 X E0:=λ_ _ _ _ _ _ _ h=>h.elim
structure Fun (K:W.Frag) (x qual:Str) (st:Stmt) (f:Addr) (fd:FuncData):Prop where
 ex: ∃ (oc:Value) (od:Option Addr) (kV doc pm:Value) (an:Option Addr) (Km ct:Value) (osl:Array (Option Value)),
  fd=W.fnOf x qual (WX st) (JM st) (Vs st) .none kV doc pm an Km ct/\K.lookup f=some ⟨oc,od,.func fd,osl⟩/\W.codeIn K Km qual=true
 kp:W.keepIn K (.ref f)=true
section
variable {P:Program} {w:World} {K:W.Frag} {mg:Str->Option Value} {base:Heap}
theorem Fun.ok {x qual:Str} {st:Stmt} {f:Addr} {fd:FuncData} {N ps:List Str} {k:Nat} {sp:Sp} (F:Fun K x qual st f fd) (S:Vf N ps (Vs st)) (len: ∀ vs H Q E,sp vs H Q E->vs.length=ps.length)
  (hbody: ∀ (Km:Value) (A:Around) (outer:List Env) (s:Shared) (H:Hp) (vs:List V) (Q:VK) (E:XK),Room k (A.deeper (envOfC qual (Vs st) s.heap.objs.size f Km))->sp vs H Q E ->
   ∃ t,PSs (Ga CX0 P w K mg base N qual (Vs st) f Km A outer s H E).nox (JM st) t/\t { nx:=λ_ H'=>Q .non H',rt:=Q } (start N vs) H):FnOk P w K mg base CX0 (k+1) f fd ps sp:=by
 obtain ⟨oc,od,kV,doc,pm,an,Km,ct,osl,rfl,lk,hcd⟩:=F.ex;refine Jah lk hcd S len λA outer s H vs Q E hr hsp=> ?_
 obtain ⟨t,h,q⟩:=hbody Km A outer s H vs Q E hr hsp;exact ⟨t,h.nox,q⟩
theorem Fun.binds {x qual:Str} {st:Stmt} {f:Addr} {fd:FuncData} {ps:List Str} (F:Fun K x qual st f fd)
  (h: ∀ (kV doc pm:Value) (an:Option Addr) (Km ct:Value) (us:List Value),us.length=ps.length->bindArgs (W.fnOf x qual (WX st) (JM st) (Vs st) .none kV doc pm an Km ct) ⟨us,[]⟩=pure (ps.zip us)):Binds K fd ps []:=by
 obtain ⟨oc,od,kV,doc,pm,an,Km,ct,osl,rfl,lk,hcd⟩:=F.ex;exact .all (h kV doc pm an Km ct)
theorem BL {x qual:Str} {st:Stmt} {f:Addr} {oc:Value} {od an:Option Addr} {osl:Array (Option Value)} {kV doc pm Km ct:Value} (l:K.lookup f=some ⟨oc,od,.func (W.fnOf x qual (WX st) (JM st) (Vs st) .none kV doc pm an Km ct),osl⟩)
  (c:W.codeIn K Km qual=true) (k:W.keepIn K (.ref f)=true):Fun K x qual st f (W.fnOf x qual (WX st) (JM st) (Vs st) .none kV doc pm an Km ct):=⟨⟨oc,od,kV,doc,pm,an,Km,ct,osl,rfl,l,c⟩,k⟩
end
theorem Qck {A:Around} {k:Nat} (hr:Room k A):A.units+1 < cLine:=Y3 (Nat.add_le_add_left (by decide:1<=64) _) hr.units
section
variable {X:Cx}
theorem pv (i:Nat) {x:Str} {pos:Pos} (hN:X.N[i]? =some x:=by rfl) (hv:Vis X.env.scope x:=by first | exact QJ rfl | exact QD (QJ rfl) | exact QD (QD rfl)) (hd:(x == ("__debug__" :Str))=false:=by decide)
  (hcd:(x == ("__classdict__" :Str))=false:=by decide):PE X (.Name x pos) (OQ i):=Wr hN hv hd hcd
end
theorem Qqy {A B:Prop} (h:B):if false=true then A else B:=by
 rw [Qg Qn];exact h
theorem Qmw {A B:Prop} (h:A):if true=true then A else B:=by
 rw [Qj rfl];exact h
def Same (H H':Hp):Prop:= ∀ b o,H b=some o->H' b=some o
theorem Same.refl (H:Hp):Same H H:=λ_ _ h=>h
theorem Same.trans {H H1 H2:Hp} (a:Same H H1) (b:Same H1 H2):Same H H2:=λc o h=>b c o (a c o h)
theorem Same.free {H H':Hp} (e:Same H H') {l:Addr} (h:H' l=Option.none):H l=Option.none:=by
 cases q:H l with
 | none=>rfl
 | some o =>
  rw [e l o q] at h;cases h
theorem Same.seq {K:W.Frag} {H H':Hp} {a:Addr} {xs:List V} (e:Same H H') (h:SqL K H a xs):SqL K H' a xs:=by
 rcases h with (h | ⟨o,h⟩) | h
 ·exact .inl (.inl (e _ _ h))
 ·exact .inl (.inr ⟨o,e _ _ h⟩)
 ·exact .inr h
section
variable {κ:Type} [DecidableEq κ]
def Uh (Ku:List (κ×V)) (k:κ):Option V:=(Ku.find? λkv=>decide (kv.1=k)).map (·.2)
def putK (Ku:List (κ×V)) (k:κ) (v:V):List (κ×V) :=
 if (Ku.any λkv=>decide (kv.1=k))=true then Ku.map (λkv=>if kv.1=k then (kv.1,v) else kv) else Ku++[(k,v)]
theorem GE {p:κ×V} {r:List (κ×V)} {k:κ} (e:p.1=k):Uh (p::r) k=some p.2:=by simp [Uh,Y0,e]
theorem Ug {p:κ×V} {r:List (κ×V)} {k:κ} (e: ¬ p.1=k):Uh (p::r) k=Uh r k:=by simp [Uh,Y0,e]
theorem Qf1 (k:κ): ∀ Ku:List (κ×V),(Ku.any λkv=>decide (kv.1=k))=(Uh Ku k).isSome
 | []=>rfl
 | p::r=>by
  rw [ZV]
  by_cases e:p.1=k
  ·simp only [GE e,Jz e,Bool.true_or,Option.isSome_some]
  ·rw [Ug e,QM e,Qhb];exact Qf1 k r
theorem Uz (Ku:List (κ×V)) (k:κ) (v:V):(putK Ku k v).length<=Ku.length+1:=by
 unfold putK;split
 ·rw [Q2];omega
 ·rw [Qs,Qq,Qbd];omega
theorem RelO.isSome_eq {o:Option V} {u:Option Value} (r:RelO o u):o.isSome=u.isSome:=by
 cases o with
 | none=>cases u with
  | none=>rfl
  | some _=>exact (show False from r).elim
 | some _=>cases u with
  | none=>exact (show False from r).elim
  | some _=>rfl
theorem RelO.getD {o:Option V} {u:Option Value} {d:V} {d':Value} (r:RelO o u) (rd:RelV d d'):RelV (o.getD d) (u.getD d'):=by
 cases o with
 | none=>cases u with
  | none=>exact rd
  | some _=>exact (show False from r).elim
 | some _=>cases u with
  | none=>exact (show False from r).elim
  | some _=>exact r
theorem KV.val {Ku:List (κ×V)} {vs:List (κ×Value)} (r:KV Ku vs) (k:κ):RelO (Uh Ku k) (valueAt vs k):=by
 unfold KV at r
 induction r with
 | nil=>exact QE
 | @cons p q ps qs h t ih =>
  obtain ⟨h1,h2⟩:=h
  by_cases e:p.1=k
  ·have e':q.1=k:=h1.symm.trans e;have b:valueAt (q::qs) k=some q.2:=by simp [valueAt,Y0,e']
   rw [GE e,b];exact h2
  ·have e': ¬ q.1=k:=λz=>e (h1.trans z)
   have b:valueAt (q::qs) k=valueAt qs k:=by simp [valueAt,Y0,e']
   rw [Ug e,b];exact ih
theorem KV.any {Ku:List (κ×V)} {vs:List (κ×Value)} (r:KV Ku vs) (k:κ):(Ku.any λkv=>decide (kv.1=k))=vs.any λkv=>decide (kv.1=k):=by
 unfold KV at r
 induction r with
 | nil=>rfl
 | cons h t ih=>rw [ZV,ZV,ih,h.1]
theorem KV.repl {Ku:List (κ×V)} {vs:List (κ×Value)} (r:KV Ku vs) (k:κ) {y:V} {u:Value} (ry:RelV y u) :
  KV (Ku.map λkv=>if kv.1=k then (kv.1,y) else kv) (vs.map λkv=>if kv.1=k then (kv.1,u) else kv):=by
 unfold KV at r ⊢
 induction r with
 | nil=>exact .nil
 | @cons p q ps qs h t ih =>
  rw [Qk,Qk];refine .cons ?_ ih;obtain ⟨h1,h2⟩:=h
  by_cases e:p.1=k
  ·rw [Qj e,Qj (h1.symm.trans e)];exact ⟨h1,ry⟩
  ·rw [Qg e,Qg (λz=>e (h1.trans z))];exact ⟨h1,h2⟩
theorem KV.put {Ku:List (κ×V)} {vs:List (κ×Value)} (r:KV Ku vs) (k:κ) {y:V} {u:Value} (ry:RelV y u):KV (putK Ku k y) (stored vs k u):=by
 unfold putK stored;rw [r.any k]
 by_cases e:(vs.any λkv=>decide (kv.1=k))=true
 ·rw [Qj e,Qj e];exact r.repl k ry
 ·rw [Qg e,Qg e];exact Paired.snoc r ⟨rfl,ry⟩
theorem KV.length {Ku:List (κ×V)} {vs:List (κ×Value)} (r:KV Ku vs):Ku.length=vs.length:=Qso r
end
theorem Qfz {P:Program} {w:World} {k:Key} {u:Value} (r:RelV (kV k) u):(JF P w).is k u=true:=by
 cases k with
 | inl i=>obtain ⟨t,e⟩:=(show ∃ t,u=Value.int i t from r);subst e;exact BX P w i t
 | inr x=>obtain ⟨t,e⟩:=(show ∃ t,u=Value.str x t from r);subst e;exact Uu P w x t
theorem Qch {P:Program} {w:World}: ∀ {ks:List Key} {us:List Value},Vals (ks.map kV) us->ItemsAre (JF P w) ks us
 | [],_,r=>by rw [Z1] at r;cases r;exact .nil
 | k::ks,_,r=>by
  rw [Qk] at r;cases r with
  | cons h t=>exact .cons (Qfz h) (Qch t)
abbrev KT (H:Hp):List (List Key×V)->List (List Key×Addr×Value)->Prop:=Paired λp q=>p.1=q.1/\H q.2.1=some (.tup (p.1.map kV))/\RelV p.2 q.2.2
theorem KT.val {H:Hp} {Ku:List (List Key×V)} {xs:List (List Key×Addr×Value)} (r:KT H Ku xs) (k:List Key):RelO (Uh Ku k) ((atKey xs k).map (·.2)):=by
 induction r with
 | nil=>exact QE
 | @cons p q ps qs h t ih =>
  obtain ⟨h1,_,h2⟩:=h
  by_cases e:p.1=k
  ·have e':q.1=k:=h1.symm.trans e;have b:atKey (q::qs) k=some q.2:=by simp [atKey,Y0,e']
   rw [GE e,b];exact h2
  ·have e': ¬ q.1=k:=λz=>e (h1.trans z)
   have b:atKey (q::qs) k=atKey qs k:=by simp [atKey,Y0,e']
   rw [Ug e,b];exact ih
theorem KT.repl {H:Hp} {Ku:List (List Key×V)} {xs:List (List Key×Addr×Value)} (r:KT H Ku xs) (k:List Key) {y:V} {u:Value} (ry:RelV y u) :
  KT H (Ku.map λkv=>if kv.1=k then (kv.1,y) else kv) (xs.map (putAt k u)):=by
 induction r with
 | nil=>exact .nil
 | @cons p q ps qs h t ih =>
  rw [Qk,Qk];refine .cons ?_ ih;obtain ⟨h1,h2,h3⟩:=h;unfold putAt
  by_cases e:p.1=k
  ·rw [Qj e,Qj (h1.symm.trans e)];exact ⟨h1,h2,ry⟩
  ·rw [Qg e,Qg (λz=>e (h1.trans z))];exact ⟨h1,h2,h3⟩
theorem KT.put {H:Hp} {Ku:List (List Key×V)} {xs:List (List Key×Addr×Value)} (r:KT H Ku xs) (k:List Key) {b:Addr} {y:V} {u:Value} (hb:H b=some (.tup (k.map kV))) (ry:RelV y u) :
  KT H (putK Ku k y) (storedH xs k b u):=by
 have e:(Ku.any λkv=>decide (kv.1=k))=(atKey xs k).isSome:=by
  rw [Qf1,(r.val k).isSome_eq,Option.isSome_map]
 unfold putK storedH;rw [e]
 by_cases q:(atKey xs k).isSome=true
 ·rw [Qj q,Qj q];exact r.repl k ry
 ·rw [Qg q,Qg q];exact Paired.snoc r ⟨rfl,hb,ry⟩
theorem KT.keeps {H H':Hp} {Ku:List (List Key×V)} {xs:List (List Key×Addr×Value)} (r:KT H Ku xs) (ht: ∀ b ys,H b=some (.tup ys)->H' b=some (.tup ys)):KT H' Ku xs :=
 Paired.mapP r λ_ _ z=>⟨z.1,ht _ _ z.2.1,z.2.2⟩
section
variable {P:Program} {w:World} {H:Hp} {h:Heap} {a:Addr}
theorem Qvr {u:HO} (ok:HOk P w H h) (e:Rd H a u):ObjOk P w H h a u:=e.ok ok
theorem Qcv {Ku:List (Key×V)} (ok:HOk P w H h) (e:Rd H a (.dK Ku)):Ku.length<=sizeLine/\(a == sysModules)=false/\ ∃ vs,KV Ku vs/\h.DictOf (JF P w) a vs :=
 show ObjOk P w H h a (.dK Ku) from Qvr ok e
theorem Ql1 {Ku:List (Key×V)} (ok:HOk P w H h) (e:H a=some (.dK Ku)):Ku.length<=sizeLine/\(a == sysModules)=false/\ ∃ vs,KV Ku vs/\h.DictOf (JF P w) a vs:=Qcv ok (.inl e)
theorem Qea {ks:List Key} (ok:HOk P w H h) (e:H a=some (.tup (ks.map kV))):(tupleKind (JF P w)).is h ks a:=by
 obtain ⟨_,Kv,r,o,h1,h2,n,h3⟩:=(show ObjOk P w H h a (.tup (ks.map kV)) from ok a _ e);exact ⟨o,Kv.toArray,n,h1,h2,h3,by simpa using Qch r⟩
theorem Qgd {Ku:List (List Key×V)} (ok:HOk P w H h) (e:Rd H a (.dT Ku)):Ku.length<=sizeLine/\(a == sysModules)=false /\
  ∃ xs,KT H Ku xs/\h.DictOfH (tupleKind (JF P w)) a xs:=by
 obtain ⟨z,y,xs,r,o,es,ep,h1,h2,h3,h4,h5⟩:=(show ObjOk P w H h a (.dT Ku) from Qvr ok e);refine ⟨z,y,xs,r,o,es,ep,h1,h2,h3,h4,λx hx=> ?_,h5⟩;have all: ∀ {l:List (List Key×V)} {m:List (List Key×Addr×Value)},KT H l m-> ∀ x∈m,(tupleKind (JF P w)).is h x.1 x.2.1:=by
  intro l m q
  induction q with
  | nil=>intro x hx;exact nomatch hx
  | @cons p q ps qs hq t ih =>
   intro x hx;rcases Qb.mp hx with e | hx
   ·subst e;exact Qea ok (by rw [<- hq.1];exact hq.2.1)
   ·exact ih x hx
 exact all r x hx
theorem Jak {Ku:List (List Key×V)} (ok:HOk P w H h) (e:H a=some (.dT Ku)):Ku.length<=sizeLine/\(a == sysModules)=false /\
  ∃ xs,KT H Ku xs/\h.DictOfH (tupleKind (JF P w)) a xs:=Qgd ok (.inl e)
end
def DGet (H:Hp) (a:Addr) (y:V) (r:Option V):Prop :=
 (∃ Ku k,Rd H a (.dK Ku)/\y=kV k/\r=Uh Ku k) \/ ∃ Ku k b,Rd H a (.dT Ku)/\y= .ref b/\H b=some (.tup (k.map kV))/\r=Uh Ku k
def DPut (H:Hp) (a:Addr) (y v:V) (H':Hp):Prop :=
 (∃ Ku k,H a=some (.dK Ku)/\y=kV k/\Ku.length < sizeLine/\H'=upd H a (.dK (putK Ku k v))) \/
 ∃ Ku k b,H a=some (.dT Ku)/\y= .ref b/\H b=some (.tup (k.map kV))/\Ku.length < sizeLine/\H'=upd H a (.dT (putK Ku k v))
section
variable {X:Cx} {Kz:Ke} {σ:St} {H:Hp} {s:Shared} {a:Addr} {y v:V} {u r:Value} {o:Option V} {A:Around} {E:Kf}
theorem Inv.big (I:Inv X Kz σ H s):sysModules < s.heap.objs.size:=by
 have h:mainGlobals < s.heap.objs.size:=(I.mod.glob.keeps I.bk).lt;exact Nat.lt_trans (by decide) h
theorem Qn8 {Q:Kf} (hu:A.units+1 < cLine) (I:Inv X Kz σ H s) (g:DGet H a y (some v)) (ry:RelV y u) (h: ∀ w' s',Inv X Kz σ H s'->RelV v w'->Q w' s') :
  wpAny (model X.prog X.w) A (getItem (.ref a) u) Q E s:=by
 rcases g with ⟨Ku,k,e,ey,l⟩ | ⟨Ku,k,b,e,ey,eb,l⟩
 ·subst ey;obtain ⟨z,hd,vs,rel,dd⟩:=Qcv I.hok e;obtain ⟨w',hw,rw'⟩:=RelO.some_of (v:=v) (o:=valueAt vs k) (by rw [l];exact rel.val k);exact wpAny_getItem_of (Qfz ry) dd.mapOf hw (h w' _ (I.tok _) rw')
 ·subst ey;cases (show u=Value.ref b from ry);obtain ⟨z,hd,xs,rel,dd⟩:=Qgd I.hok e;obtain ⟨w',hw,rw'⟩:=RelO.some_of (v:=v) (o:=(atKey xs k).map (·.2)) (by rw [l];exact rel.val k);obtain ⟨p,hp,hp2⟩:=Yr.mp hw;refine wpAny_getItem_heap (Qsq hu) (Qea I.hok eb) dd hp ?_;rw [hp2];exact h w' _ (I.tok _) rw'
theorem OC {h':Heap} {t':Nat} {ob:HO} (I:Inv X Kz σ H s) (mu:Mut (H a)) (hs:Heap.SameBut a s.heap h') (he: ∃ q,h'.get? a=some q) (new:ObjOk X.prog X.w (upd H a ob) h' a ob) :
  Inv X Kz σ (upd H a ob) { s with heap:=h',toks:=t' } :=
 I.write (x:=a) (e:=a) mu (.inl rfl) (λb q hb z=>(hs.2 b hb).trans z) he new
theorem Qj6 {P:Program} {w:World} {H':Hp} {h':Heap} {Ku:List (Key×V)} {vs:List (Key×Value)} (z:Ku.length<=sizeLine) (hd:(a == sysModules)=false) (rel:KV Ku vs) (dd:h'.DictOf (JF P w) a vs) :
  ObjOk P w H' h' a (.dK Ku):=⟨z,hd,vs,rel,dd⟩
theorem Qn7 {H':Hp} {Q:Unit->Shared->Prop} (hu:A.units+1 < cLine) (I:Inv X Kz σ H s) (g:DPut H a y v H') (ry:RelV y u) (rv:RelV v r) (h: ∀ s',Inv X Kz σ H' s'->Q () s') :
  wpAny (model X.prog X.w) A (setItem (.ref a) u r) Q E s:=by
 rcases g with ⟨Ku,k,e,ey,l,eH⟩ | ⟨Ku,k,b,e,ey,eb,l,eH⟩
 ·subst ey eH;obtain ⟨z,hd,vs,rel,dd⟩:=Ql1 I.hok e;have hz:vs.length<=sizeLine:=by rw [<- rel.length];exact z
  have hl:(putK Ku k v).length<=sizeLine:=by have:=Uz Ku k v;omega
  refine wpAny_setItem_pairs (hsz:=hz) (Qfz ry) dd λh' dd' hs=>h _ ?_
  have he: ∃ q,h'.get? a=some q:=let ⟨q,_,_,hq,_⟩:=dd';⟨q,hq⟩;exact OC I (by rw [e];exact QE) hs he (Qj6 hl hd (rel.put k rv) dd')
 ·subst ey eH;cases (show u=Value.ref b from ry);obtain ⟨z,hd,xs,rel,dd⟩:=Jak I.hok e;have hz:xs.length<=sizeLine:=by rw [<- Qso rel];exact z
  have hl:(putK Ku k v).length<=sizeLine:=by have:=Uz Ku k v;omega
  refine wpAny_setItem_heap (hsz:=hz) (Qsq hu) (Qea I.hok eb) dd λh' dd' hs=>h _ ?_
  obtain ⟨q,es,ep,hq,h2,h3,h4,_,h5⟩:=dd';refine OC I (by rw [e];exact QE) hs ⟨q,hq⟩ ⟨hl,hd,_,(rel.put k eb rv).keeps λc ys ec=> ?_,q,es,ep,hq,h2,h3,h4,h5⟩;rw [Qo (Yl ec e (λz=>nomatch z))];exact ec
end
def NoSl (i:Expr):Prop:= ∀ ov iv,subscripted i false ov iv=operate [ov,iv] (getItem ov iv)
theorem Qt5 {prog:Program} {w:World} {A:Around} {E:Kf} {s:Shared} {env:Env} {value slice:Expr} {pos:Pos} {T id:String} {Q:Kf}
  (hl:typeLookup (.type T) "__getitem__" =pure (some (.builtin id))) (hs:NoSl slice)
  (h:wpAny (model prog w) A (eval value env) (λo Kl=>wpAny (model prog w) A (eval slice env) (λi s₂=>s₂.TypeIs o T/\wpAny (model prog w) A (getItem o i) Q E s₂) E Kl) E s) :
  wpAny (model prog w) A (eval (.Subscript value slice pos) env) Q E s:=by
 refine Subscript_ (Jh h (λo Kl h₁=>Jh h₁ (λi s₂ h₂=> ?_) λ_ _ x=>x) λ_ _ x=>x);obtain ⟨hT,h₂⟩:=h₂;unfold subscriptTail;refine Q0 ?_;rw [getitemInPython_of_ne hT.not_modules];refine Q0 (Zi hT hl ?_);have Kj:wpAny (model prog w) A (subscripted slice false o i) (λr s₃=>wpAny (model prog w) A (letTemporaryGo value o r >>= λ_=>pure r) Q E s₃) E s₂:=by
  rw [hs o i];exact wpAny_operating (Jh h₂ (λr s₃ h₃=>Q0 (wpAny_letTemporaryGo (Q3 h₃))) λ_ _ x=>x)
 first
  | exact Q3 (Q0 Kj)
  | exact Q0 (Q3 (Q0 Kj))
  | exact Q0 Kj
theorem Qgg {X:Cx} {Kz:Ke} {σ:St} {H:Hp} {s:Shared} {a:Addr} {y:V} {o:Option V} (I:Inv X Kz σ H s) (g:DGet H a y o):s.TypeIs (.ref a) "dict" :=by
 rcases g with ⟨Ku,k,e,_,_⟩ | ⟨Ku,k,b,e,_,_,_⟩
 ·obtain ⟨_,_,vs,_,dd⟩:=Qcv I.hok e;exact dd.typeIs
 ·obtain ⟨_,_,xs,_,dd⟩:=Qgd I.hok e;exact dd.typeIs
def Qzg (td ty:TE):TE:=λσ H Q=>td σ H λx H1=>ty σ H1 λy H2=> ∃ a v,x= .ref a/\DGet H2 a y (some v)/\Q v H2
def Qzn (td ty tv:TE):TS:=λD σ H=>tv σ H λv H1=>td σ H1 λx H2=>ty σ H2 λy H3=> ∃ a H4,x= .ref a/\DPut H3 a y v H4/\D.nx σ H4
section
variable {X:Cx} {o i e value:Expr} {pos pos' tpos:Pos} {td ty tv:TE}
theorem Qtv (hu:X.A.units+1 < cLine) (ho:PE X o td) (hi:PE X i ty) (hs:NoSl i):PE X (.Subscript o i pos) (Qzg td ty):=by
 intro Kz s σ H Q I h;refine Qt5 PySem.F.slot_dict_getitem.lookup hs (thn (ho Kz s σ H _ I h) λu s1 ⟨x,H1,I1,rx,q1⟩=>thn (hi Kz s1 σ H1 _ I1 q1) λiv s2 ⟨y,H2,I2,ry,a,v,ex,g,q2⟩=> ?_);subst ex;obtain rfl:u=Value.ref a:=rx;exact ⟨Qgg I2 g,Qn8 hu I2 g ry λw' s3 I3 rw'=>⟨v,H2,I3,rw',q2⟩⟩
theorem Qtm (hu:X.A.units+1 < cLine) (ho:PE X o td) (hi:PE X i ty) (hv:PE X value tv) (hs:swapsWith value (some (.Subscript o i pos')) pos.line X.env=pure false) :
  PS X (.Assign [.Subscript o i pos'] value pos) (Qzn td ty tv):=by
 intro Kz s σ H D I h;refine wpAny_Assign_Subscript (thn (hv Kz s σ H _ I h) λr s1 ⟨v,H1,I1,rv,q1⟩=>thn (ho Kz s1 σ H1 _ I1 q1) λu s2 ⟨x,H2,I2,rx,q2⟩=>thn (hi Kz s2 σ H2 _ I2 q2) λiv s3 ⟨y,H3,I3,ry,a,H4,ex,g,q3⟩=> ?_) hs;subst ex;obtain rfl:u=Value.ref a:=rx;exact Qn7 hu I3 g ry rv λs4 I4=>⟨σ,H4,I4,q3⟩
end
theorem Qgf {P:Program} {w:World} {H:Hp} (h:Heap) (hb:sysModules < h.objs.size):ObjOk P w H (h.push { cls:= .type "dict",data:= .dict #[] }) h.objs.size (.dK []) :=
 ⟨Qz _,Jm.mpr (QS (Qp hb)),[],.nil,Heap.DictOf.new h⟩
def Qwu:TE:=λ_ H Q=> ∀ p,H p=none->Q (.ref p) (upd H p (.dK []))
section
variable {X:Cx} {pos:Pos}
theorem Qpb:PE X (.Dict [] [] pos) Qwu:=λKz s σ H Q I h =>
 wpAny_Dict_empty ⟨.ref s.heap.objs.size,_,I.laid (a:=s.heap.objs.size) (o:= .dK []) (t':=s.toks) (λ_ _ q=>Q1 _ q) (Q5 _) (Qgf s.heap I.big),rfl,h _ (I.hok.fresh (Q5 _))⟩
end
def Qhr:List (TE×TE)->St->Hp->(List (V×V)->Hp->Prop)->Prop
 | [],_,H,Q=>Q [] H
 | (tk,tv)::r,σ,H,Q=>tk σ H λx H1=>tv σ H1 λy H2=>Qhr r σ H2 λps H3=>Q ((x,y)::ps) H3
abbrev VV:List (V×V)->List (Value×Value)->Prop:=Paired λp q=>RelV p.1 q.1/\RelV p.2 q.2
def PPs (X:Cx) (pos:Pos) (keys:List (Option Expr)) (values:List Expr) (trs:List (TE×TE)):Prop :=
 ∀ (Kz:Ke) (s:Shared) (σ:St) (H:Hp) (Q:List (V×V)->Hp->Prop),Inv X Kz σ H s->Qhr trs σ H Q ->
  wpAny (model X.prog X.w) X.A (evalPairs (pairTrees keys values X.env pos)) (λvs s'=> ∃ ps H',Inv X Kz σ H' s'/\VV ps vs/\Q ps H') X.xe s
theorem Qk9 {X:Cx} {pos:Pos}:PPs X pos [] [] []:=λKz s σ H Q I h=>pairTrees_nil_walk ⟨[],H,I,.nil,h⟩
theorem OZ {X:Cx} {pos:Pos} {k v:Expr} {ks:List (Option Expr)} {vs:List Expr} {tk tv:TE} {trs:List (TE×TE)} (hk:PE X k tk) (hv:PE X v tv) (hr:PPs X pos ks vs trs) :
  PPs X pos (some k::ks) (v::vs) ((tk,tv)::trs):=λKz s σ H Q I h =>
 pairTrees_cons_walk (thn (hk Kz s σ H _ I h) λu s1 ⟨x,H1,I1,rx,q1⟩=>thn (hv Kz s1 σ H1 _ I1 q1) λw2 s2 ⟨y,H2,I2,ry,q2⟩ =>
  thn (hr Kz s2 σ H2 _ I2 q2) λws s3 ⟨ps,H3,I3,rel,q3⟩=>⟨(x,y)::ps,H3,I3,.cons ⟨rx,ry⟩ rel,q3⟩)
def Gn (Ku more:List (Key×V)):List (Key×V):=more.foldl (λacc kv=>putK acc kv.1 kv.2) Ku
theorem KV.merge: ∀ {more:List (Key×V)} {rs:List (Key×Value)} {Ku:List (Key×V)} {vs:List (Key×Value)},KV more rs->KV Ku vs->KV (Gn Ku more) (merged vs rs):=by
 intro more rs Ku vs r;unfold KV at r
 induction r generalizing Ku vs with
 | nil=>intro q;exact q
 | @cons p q ps qs h t ih =>
  intro r0;have e:KV (putK Ku p.1 p.2) (stored vs q.1 q.2):=by
   have:=r0.put p.1 h.2;rw [<- h.1];exact this
  exact ih e
theorem Gb: ∀ (more Ku:List (Key×V)),(Gn Ku more).length<=Ku.length+more.length
 | [],Ku=>by show Ku.length<=Ku.length+0;omega
 | p::r,Ku=>by
  have h1:=Gb r (putK Ku p.1 p.2);have h2:=Uz Ku p.1 p.2;show (Gn (putK Ku p.1 p.2) r).length<=_;rw [Qq];omega
theorem Qax {P:Program} {w:World}: ∀ {Ku:List (Key×V)} {ws:List (Value×Value)},VV (Ku.map λkv=>(kV kv.1,kv.2)) ws-> ∃ rs,Carries (JF P w) ws rs/\KV Ku rs
 | [],_,r=>by rw [Z1] at r;cases r;exact ⟨[],QE,.nil⟩
 | p::Ku,_,r=>by
  rw [Qk] at r;cases r with
  | @cons a b as bs h t =>
   obtain ⟨rs,c,q⟩:=Qax (P:=P) (w:=w) t;obtain ⟨b1,b2⟩:=b;exact ⟨(p.1,b2)::rs,⟨Qfz h.1,rfl,c⟩,.cons ⟨rfl,h.2⟩ q⟩
def Qzf (trs:List (TE×TE)):TE:=λσ H Q=> ∀ p,H p=none->Qhr trs σ (upd H p (.dK [])) λps H2=>H2 p=some (.dK [])/\ ∃ Ku:List (Key×V),ps=Ku.map (λkv=>(kV kv.1,kv.2))/\Ku.length<=15/\Q (.ref p) (upd H2 p (.dK (Gn [] Ku)))
theorem Qke {X:Cx} {pos:Pos} {keys:List (Option Expr)} {values:List Expr} {trs:List (TE×TE)} (h:PPs X pos keys values trs) (hall:keys.all (·.isSome)=true) (hl:keys.length=values.length) (h0:keys≠[])
  (h15:keys.length<=15):PE X (.Dict keys values pos) (Qzf trs):=by
 intro Kz s σ H Q I q;have hn:=I.hok.fresh (Q5 s.heap.objs.size);have I1:=I.laid (a:=s.heap.objs.size) (o:= .dK []) (h':=s.heap.push { cls:= .type "dict",data:= .dict #[] }) (t':=s.toks) (λ_ _ q=>Q1 _ q) (Q5 _) (Qgf s.heap I.big);refine wpAny_Dict_walk (knd:=JF X.prog X.w) hall hl h0 h15 (thn (h Kz _ σ _ _ I1 (q _ hn)) λws s2 ⟨ps,H2,I2,rel,e,Ku,ep,lk,q2⟩=> ?_);subst ep;obtain ⟨rs,c,rk⟩:=Qax (P:=X.prog) (w:=X.w) rel;obtain ⟨z,hd,vs0,r0,dd⟩:=Ql1 I2.hok e;cases r0;refine ⟨rs,c,dd,λh' dd' hs=>⟨.ref s.heap.objs.size,_,?_,rfl,q2⟩⟩;have hz:(Gn [] Ku).length<=sizeLine:=by
  have h1:=Gb Ku [];rw [Qbd] at h1;rw [Jb];omega
 have he: ∃ q,h'.get? s.heap.objs.size=some q:=let ⟨q,_,_,hq,_⟩:=dd';⟨q,hq⟩;exact OC I2 (by rw [e];exact QE) hs he (Qj6 hz hd (rk.merge .nil) dd')
structure M2 (X:Cx) (o:Expr) (m:Str) (apos:Pos) (e f:Expr) (cpos:Pos):Prop where
 base:attributeBase o m X.env (eval o X.env)=eval o X.env
 few:((backTo cpos (starEach [e,f] X.env)).all (λx=> !x.1) && (backToKw cpos (keywordEach [] X.env)).all (λx=>x.1.isSome)
  && decide (([e,f]:List Expr).length+([]:List Keyword).length+(if ([]:List Keyword).isEmpty then 0 else 1) < 30))=true
 line:(apos.endLine == cpos.line)=true
 trees:backTo cpos (starEach [e,f] X.env)=[(false,eval e X.env),(false,eval f X.env)]
def IsD (H:Hp) (a:Addr):Prop:=(∃ Ku,Rd H a (.dK Ku)) \/ ∃ Ku,Rd H a (.dT Ku)
theorem Qyk {X:Cx} {Kz:Ke} {σ:St} {H:Hp} {s:Shared} {a:Addr} (I:Inv X Kz σ H s) (d:IsD H a) :
  s.TypeIs (.ref a) "dict" /\(∀ b,Value.ref a= .ref b-> ∃ ob,s.heap.get? b=some ob/\ob.dict=none)/\(a == sysModules)=false:=by
 rcases d with ⟨Ku,e⟩ | ⟨Ku,e⟩
 ·obtain ⟨_,hd,vs,_,dd⟩:=Qcv I.hok e;refine ⟨dd.typeIs,λb q=> ?_,hd⟩;cases q;obtain ⟨ob,_,_,h1,h2,_⟩:=dd;exact ⟨ob,h1,h2.2.1⟩
 ·obtain ⟨_,hd,xs,_,dd⟩:=Qgd I.hok e;refine ⟨dd.typeIs,λb q=> ?_,hd⟩;cases q;obtain ⟨ob,_,_,h1,h2,_⟩:=dd;exact ⟨ob,h1,h2.2.1⟩
section
variable {X:Cx} {Kz:Ke} {σ:St} {H:Hp} {s:Shared} {a:Addr} {y d:V} {u r:Value} {o:Option V} {A:Around} {E:Kf}
theorem Qyx {Q:Kf} (hu:A.units+1 < cLine) (I:Inv X Kz σ H s) (g:DGet H a y o) (ry:RelV y u) (rd:RelV d r) (h: ∀ w' s',Inv X Kz σ H s'->RelV (o.getD d) w'->Q w' s') :
  wpAny (model X.prog X.w) A (call (.builtin "dict.get") [.ref a,u,r]) Q E s:=by
 rcases g with ⟨Ku,k,e,ey,l⟩ | ⟨Ku,k,b,e,ey,eb,l⟩
 ·subst ey;obtain ⟨z,hd,vs,rel,dd⟩:=Qcv I.hok e;refine Bo Z5 dd.typeIs OI (O8 _ _ _) (meets_dict_get_default (JF X.prog X.w) a (Qfz ry) hd r) ⟨_,dd.mapOf,h _ _ (I.tok _) ?_⟩;rw [l];exact (rel.val k).getD rd
 ·subst ey;cases (show u=Value.ref b from ry);obtain ⟨z,hd,xs,rel,dd⟩:=Qgd I.hok e;refine Bo Z5 dd.typeIs OI (O8 _ _ _) (meetsH_dict_get_default (tupleKind (JF X.prog X.w)) a b hd r) ⟨Qsq hu,k,xs,Qea I.hok eb,dd,h _ _ (I.tok _) ?_⟩;rw [l];exact (rel.val k).getD rd
end
def Qwv (td ty tx:TE):TE:=λσ H Q=>td σ H λx H1=> ∃ a,x= .ref a/\IsD H1 a/\ty σ H1 λy H2=>tx σ H2 λz H3=> ∃ o,DGet H3 a y o/\Q (o.getD z) H3
section
variable {X:Cx} {o e f:Expr} {apos cpos:Pos} {td ty tx:TE}
theorem Qfq (hu:X.A.units+1 < cLine) (ho:PE X o td) (he:PE X e ty) (hf:PE X f tx) (m:M2 X o "get" apos e f cpos):PE X (.Call (.Attribute o "get" apos) [e,f] [] cpos) (Qwv td ty tx):=by
 intro Kz s σ H Q I h;refine wpAny_Call_method m.base m.few m.line Yf Z5 PySem.F.type_dict_get (thn (ho Kz s σ H _ I h) λu s1 ⟨x,H1,I1,rx,a,ex,d,q1⟩=> ?_);subst ex;obtain rfl:u=Value.ref a:=rx;obtain ⟨t1,t2,_⟩:=Qyk I1 d;refine ⟨t1,t2,?_⟩;rw [m.trees];refine Zg rfl (Qln (Oa (thn (he Kz s1 σ H1 _ I1 q1) λiv s2 ⟨y,H2,I2,ry,q2⟩ =>
  Oa (thn (hf Kz s2 σ H2 _ I2 q2) λfv s3 ⟨z,H3,I3,rz,ov,g,q3⟩=>Qwk ?_))))
 exact Qyx hu I3 g ry rz λw' s4 I4 rw'=>⟨_,H3,I4,rw',q3⟩
end
section
variable {X:Cx} {Kz:Ke} {σ:St} {H:Hp} {s:Shared} {a:Addr} {Ku:List (Key×V)} {A:Around} {E:Kf}
theorem Qrq {Q:Kf} (I:Inv X Kz σ H s) (e:Rd H a (.dK Ku)) (h: ∀ p s',H p=none->Inv X Kz σ (upd H p (.dK Ku)) s'->Q (.ref p) s'):wpAny (model X.prog X.w) A (call (.type "dict") [.ref a]) Q E s:=by
 obtain ⟨z,hd,vs,rel,dd⟩:=Qcv I.hok e;refine kt_call_dict hd dd (by rw [<- rel.length];exact z) λh' dd' hs=> ?_
 refine h _ _ (I.hok.fresh (Q5 _)) (I.laid (a:=s.heap.objs.size) (o:= .dK Ku) (t':=s.toks) (λb q hq=> ?_) (Q5 _) (Qj6 z (Jm.mpr (QS (Qp I.big))) rel dd'));exact (hs.2 b (Qp (Qi hq))).trans (Q1 _ hq)
end
end L2
namespace ZP
open PySem
section
variable {prog:Program} {w:World} {A:Around} {E:Kf} {s:Shared}
open Builtin.SmallTypes in
theorem draw_some {j q:Addr} {n:Nat} {us:Array Value} {v:Value} {Q:Kf} (hj:s.heap.IsTupleIter j q n) (hq:s.heap.IsTuple q us) (hv:us[n]? =some v)
  (go: ∀ h',h'.IsTupleIter j q (n+1)->Heap.SameBut j s.heap h'->Q v { s with heap:=h' }):wpAny (model prog w) A (nextOf (.ref j)) Q E s:=by
 obtain ⟨oj,gj,cj,dj⟩:=id hj;obtain ⟨oq,gq,_,cap,dq⟩:=hq;unfold nextOf;refine Q0 (J3 (name:=Str.ofString "__next__") hj.typeIs ZW (J0 ZW hj.typeIs F.entry_tuple_iterator_next ?_ (F.args_tuple_iterator_next_1 _)));show wpAny (model prog w) _ (field (.ref j) 0 >>= _) _ _ s;refine Q0 (Jj gj dj (x:= .ref q) rfl ?_);show wpAny (model prog w) _ (if (Value.ref q == Value.none)=true then _ else _) _ _ s;rw [Qg (show ¬ ((Value.ref q == Value.none)=true) from λz=>nomatch z)];show wpAny (model prog w) _ (field (.ref j) 1 >>= _) _ _ s;refine Q0 (Jj gj dj (x:= .int n 0) rfl ?_);show wpAny (model prog w) _ (seqItems? (.ref q) >>= _) _ _ s;refine Q0 (Jg gq dq ?_);simp only [Jy,hv];refine Q0 (O6 gj dj (by simp) (Q3 ⟨v,rfl,Q3 (go _ ?_ (QN ..))⟩));refine ⟨_,QW _ gj (Qhe (Zf dj _)),(Qwd ..).trans cj,?_⟩;rw [Zf dj];simp [rawInt]
open Builtin.SmallTypes in
theorem draw_none {j q:Addr} {n:Nat} {us:Array Value} {Q:Kf} (hA:A.handled=none) (hj:s.heap.IsTupleIter j q n) (hq:s.heap.IsTuple q us) (hv:us[n]? =none)
  (out: ∀ h' e,Heap.ExtBut j s.heap h'->(∃ o,h'.get? e=some o/\o.cls= .type "StopIteration")->E (.ref e) { s with heap:=h' }):wpAny (model prog w) A (nextOf (.ref j)) Q E s:=by
 obtain ⟨oj,gj,cj,dj⟩:=id hj;obtain ⟨oq,gq,_,cap,dq⟩:=hq;unfold nextOf;refine Q0 (J3 (name:=Str.ofString "__next__") hj.typeIs ZW (J0 ZW hj.typeIs F.entry_tuple_iterator_next ?_ (F.args_tuple_iterator_next_1 _)));show wpAny (model prog w) _ (field (.ref j) 0 >>= _) _ _ s;refine Q0 (Jj gj dj (x:= .ref q) rfl ?_);show wpAny (model prog w) _ (if (Value.ref q == Value.none)=true then _ else _) _ _ s;rw [Qg (show ¬ ((Value.ref q == Value.none)=true) from λz=>nomatch z)];show wpAny (model prog w) _ (field (.ref j) 1 >>= _) _ _ s;refine Q0 (Jj gj dj (x:= .int n 0) rfl ?_);show wpAny (model prog w) _ (seqItems? (.ref q) >>= _) _ _ s;refine Q0 (Jg gq dq ?_);simp only [Jy,hv];refine Q0 (ZS (Q0 (O6 gj dj (by simp) ?_)));show wpAny (model prog w) _ (newExc (.type "StopIteration") [] >>= _) _ _ _;refine Q0 ?_;simp only [newExc,newTuple];refine Q0 (Ja ?_ (by size_fits));refine Q0 (m:=firstArgMember _ _) (Qlf (a:=Value.none) (by first | rfl | (simp only [firstArgMember];rfl)) ?_);refine Ja ?_ (by size_fits);simp only [raiseNew];refine Q0 (wpAny_handled ?_);rw [show A.in1.handled=none from hA];refine Q0 (Q3 (wpAny_throw ?_));exact out _ _ (((QN ..).extBut.push _).push _) ⟨_,Qd _ rfl,rfl⟩
structure At (h:Heap) (z ti to j1 j2 q1 q2:Addr) (n:Nat):Prop where
 z:IsZip h z ti to .none
 ti:IsPair h ti (.ref j1) (.ref j2)
 to: ∃ a b,IsPair h to a b
 j1:h.IsTupleIter j1 q1 n
 j2:h.IsTupleIter j2 q2 n
open Builtin.SmallTypes in
theorem Qnr {z ti to j1 j2 q1 q2:Addr} {n:Nat} {us vs:Array Value} {u v:Value} {Q:Kf} (D:ZipApart z ti to j1 j2 q1 q2) (st:At s.heap z ti to j1 j2 q1 q2 n) (h1:s.heap.IsTuple q1 us) (h2:s.heap.IsTuple q2 vs)
  (hu:us[n]? =some u) (hv:vs[n]? =some v)
  (go: ∀ h',IsZip h' z ti to (rawInt s.heap.objs.size)->IsPair h' to u v->h'.IsTupleIter j1 q1 (n+1)->h'.IsTupleIter j2 q2 (n+1)->IsPair h' s.heap.objs.size u v ->
   (∀ c o,c≠z->c≠to->c≠j1->c≠j2->s.heap.get? c=some o->h'.get? c=some o)->Q (.ref s.heap.objs.size) { s with heap:=h' }) :
  wpAny (model prog w) A (Builtin.«zip.__next__» ⟨[.ref z],[]⟩) (λKj s'=> ∃ v,Kj= .done (.ret v)/\Q v s') E s:=by
 obtain ⟨hz,hti,⟨a,b,hto⟩,hj1,hj2⟩:=st;show wpAny (model prog w) _ (field (.ref z) 2 >>= _) _ _ _;refine Q0 (Jj hz rfl (x:= .bool false) rfl ?_);show wpAny (model prog w) _ (field (.ref z) 3 >>= _) _ _ _;refine Q0 (Jj hz rfl (x:= .ref ti) rfl ?_);refine Q0 (Jg hti rfl ?_);show wpAny (model prog w) _ (ownedTupleIsFree (.ref z) >>= _) _ _ _;refine Q0 ?_;unfold ownedTupleIsFree;refine Q0 (Jj hz rfl (x:= .none) rfl (Q3 ?_));simp only [Wt];refine Q0 (ZS (Q0 (Jj hz rfl (x:= .ref to) rfl ?_)));refine Q0 (Jl hz (by simp) λk1 z1 e1=> ?_);have z1':IsZip k1 z ti to .ellipsis:=z1;refine Q0 ?_;simp only [List.zipIdx_cons,List.zipIdx_nil,ZZ,Gc];refine Q0 (Q0 (Qsm ?_));show wpAny (model prog w) _ (nextOf (.ref j1) >>= _) _ _ _;refine Q0 (draw_some (hj1.extBut e1.extBut D.i1z) (h1.extBut e1.extBut D.l1z) hu λk2 t2 e2=>Q3 ?_);have o2:IsPair k2 to a b:=e2.extBut _ _ D.TOi1 (e1.extBut _ _ D.TOz hto);refine Q0 (Jg o2 rfl (Q0 (Qle o2 λk3 o3 e3=> ?_)));have o3':IsPair k3 to u b:=o3;refine Q0 (ZT (Q3 (Q0 (Q0 (Qsm ?_)))));show wpAny (model prog w) _ (nextOf (.ref j2) >>= _) _ _ _;refine Q0 (draw_some (((hj2.extBut e1.extBut D.i2z).extBut e2.extBut D.i12.symm).extBut e3.extBut D.TOi2.symm) (((h2.extBut e1.extBut D.l2z).extBut e2.extBut D.l2i1).extBut e3.extBut D.l2TO) hv λk4 t4 e4=>Q3 ?_);have o4:IsPair k4 to u b:=e4.extBut _ _ D.TOi2 o3';refine Q0 (Jg o4 rfl (Q0 (Qle o4 λk5 o5 e5=> ?_)));have o5':IsPair k5 to u v:=o5;refine Q0 (ZT (Q3 (Q3 (Q0 (Jg o5' rfl (Q0 (Qlg ?_)))))));have size5:k5.objs.size=s.heap.objs.size:=by rw [e5.1,e4.1,e3.1,e2.1,e1.1]
 have z5:IsZip k5 z ti to .ellipsis:=e5.extBut _ _ D.TOz.symm (e4.extBut _ _ D.i2z.symm (e3.extBut _ _ D.TOz.symm (e2.extBut _ _ D.i1z.symm z1')));have keep5: ∀ c o,c≠z->c≠to->c≠j1->c≠j2->s.heap.get? c=some o->k5.get? c=some o:=λc o n1 n2 n3 n4 g=>e5.extBut _ _ n2 (e4.extBut _ _ n4 (e3.extBut _ _ n2 (e2.extBut _ _ n3 (e1.extBut _ _ n1 g))))
 have j15:k5.IsTupleIter j1 q1 (n+1):=((t2.extBut e3.extBut D.TOi1.symm).extBut e4.extBut D.i12).extBut e5.extBut D.TOi1.symm;have j25:k5.IsTupleIter j2 q2 (n+1):=t4.extBut e5.extBut D.TOi2.symm;have zlt:=Qi z5;show wpAny (model prog w) _ (ownedTupleHandOut (.ref z) (.ref k5.objs.size) >>= _) _ _ _;refine Q0 ?_;unfold ownedTupleHandOut;have z6:IsZip (k5.push { cls:= .type "tuple",data:= .seq #[u,v] }) z ti to .ellipsis:=Q1 _ z5;refine Q0 (Jl z6 (by simp) λk7 z7 e7=> ?_);have z7':IsZip k7 z ti to (rawInt k5.objs.size):=z7;refine Jl z7' (by simp) λk8 z8 e8=> ?_
 have z8':IsZip k8 z ti to (rawInt k5.objs.size):=z8;have up: ∀ c o,c≠z->k5.get? c=some o->k8.get? c=some o:=λc o n1 g=>e8.extBut _ _ n1 (e7.extBut _ _ n1 (Q1 _ g))
 have t8:IsPair k8 k5.objs.size u v:=e8.extBut _ _ (W1 zlt) (e7.extBut _ _ (W1 zlt) (Qd _ rfl));rw [size5] at z8' t8;refine Q3 ⟨_,rfl,?_⟩;show Q (.ref k5.objs.size) _;rw [size5];obtain ⟨x1,y1,r1⟩:=j15;obtain ⟨x2,y2,r2⟩:=j25;exact go k8 z8' (up _ _ D.TOz o5') ⟨x1,up _ _ D.i1z y1,r1⟩ ⟨x2,up _ _ D.i2z y2,r2⟩ t8 λc o n1 n2 n3 n4 g=>up c o n1 (keep5 c o n1 n2 n3 n4 g)
open Builtin.SmallTypes in
theorem Qns {z ti to j1 j2 q1 q2:Addr} {n:Nat} {us vs:Array Value} {Q:Fin->Shared->Prop} (hA:A.handled=none) (D:ZipApart z ti to j1 j2 q1 q2) (st:At s.heap z ti to j1 j2 q1 q2 n) (h1:s.heap.IsTuple q1 us) (h2:s.heap.IsTuple q2 vs)
  (Kj:us[n]? =none \/ vs[n]? =none)
  (out: ∀ h' e,(∀ c o,c≠z->c≠to->c≠j1->c≠j2->s.heap.get? c=some o->h'.get? c=some o)->(∃ o,h'.get? e=some o/\o.cls= .type "StopIteration")->E (.ref e) { s with heap:=h' }) :
  wpAny (model prog w) A (Builtin.«zip.__next__» ⟨[.ref z],[]⟩) Q E s:=by
 obtain ⟨hz,hti,⟨a,b,hto⟩,hj1,hj2⟩:=st;show wpAny (model prog w) _ (field (.ref z) 2 >>= _) _ _ _;refine Q0 (Jj hz rfl (x:= .bool false) rfl ?_);show wpAny (model prog w) _ (field (.ref z) 3 >>= _) _ _ _;refine Q0 (Jj hz rfl (x:= .ref ti) rfl ?_);refine Q0 (Jg hti rfl ?_);show wpAny (model prog w) _ (ownedTupleIsFree (.ref z) >>= _) _ _ _;refine Q0 ?_;unfold ownedTupleIsFree;refine Q0 (Jj hz rfl (x:= .none) rfl (Q3 ?_));simp only [Wt];refine Q0 (ZS (Q0 (Jj hz rfl (x:= .ref to) rfl ?_)));refine Q0 (Jl hz (by simp) λk1 z1 e1=> ?_);have z1':IsZip k1 z ti to .ellipsis:=z1;refine Q0 ?_;simp only [List.zipIdx_cons,List.zipIdx_nil,ZZ,Gc];refine Q0 (Q0 (Qsm ?_));show wpAny (model prog w) _ (nextOf (.ref j1) >>= _) _ _ _;cases hu:us[n]? with
 | none =>
  refine Q0 (draw_none hA (hj1.extBut e1.extBut D.i1z) (h1.extBut e1.extBut D.l1z) hu λk2 e e2 ⟨oe,ge,ce⟩=> ?_);have z2:IsZip k2 z ti to .ellipsis:=e2 _ _ D.i1z.symm z1';have ne:e≠z:=λy=>by subst y;rw [z2] at ge;cases ge;simp at ce
  exact Jl z2 (by simp) λk3 _ e3=>out k3 e (λc o n1 _ n3 _ g=>e3.extBut _ _ n1 (e2 _ _ n3 (e1.extBut _ _ n1 g))) ⟨oe,e3.extBut _ _ ne ge,ce⟩
 | some u =>
  have hv:vs[n]? =none:=by
   rcases Kj with f | f
   ·rw [hu] at f;cases f
   ·exact f
  refine Q0 (draw_some (hj1.extBut e1.extBut D.i1z) (h1.extBut e1.extBut D.l1z) hu λk2 t2 e2=>Q3 ?_);have o2:IsPair k2 to a b:=e2.extBut _ _ D.TOi1 (e1.extBut _ _ D.TOz hto);refine Q0 (Jg o2 rfl (Q0 (Qle o2 λk3 o3 e3=> ?_)));refine Q0 (ZT (Q3 (Q0 (Q0 (Qsm ?_)))));show wpAny (model prog w) _ (nextOf (.ref j2) >>= _) _ _ _;refine Q0 (draw_none hA (((hj2.extBut e1.extBut D.i2z).extBut e2.extBut D.i12.symm).extBut e3.extBut D.TOi2.symm) (((h2.extBut e1.extBut D.l2z).extBut e2.extBut D.l2i1).extBut e3.extBut D.l2TO) hv λk4 e e4 ⟨oe,ge,ce⟩=> ?_);have z4:IsZip k4 z ti to .ellipsis:=e4 _ _ D.i2z.symm (e3.extBut _ _ D.TOz.symm (e2.extBut _ _ D.i1z.symm z1'));have ne:e≠z:=λy=>by subst y;rw [z4] at ge;cases ge;simp at ce
  exact Jl z4 (by simp) λk5 _ e5=>out k5 e (λc o n1 n2 n3 n4 g=>e5.extBut _ _ n1 (e4 _ _ n4 (e3.extBut _ _ n2 (e2.extBut _ _ n3 (e1.extBut _ _ n1 g))))) ⟨oe,e5.extBut _ _ ne ge,ce⟩
theorem next_some {z ti to j1 j2 q1 q2:Addr} {n:Nat} {us vs:Array Value} {u v:Value} {Q:Option Value->Shared->Prop} (D:ZipApart z ti to j1 j2 q1 q2) (st:At s.heap z ti to j1 j2 q1 q2 n) (h1:s.heap.IsTuple q1 us) (h2:s.heap.IsTuple q2 vs)
  (hu:us[n]? =some u) (hv:vs[n]? =some v)
  (go: ∀ h',IsZip h' z ti to (rawInt s.heap.objs.size)->IsPair h' to u v->h'.IsTupleIter j1 q1 (n+1)->h'.IsTupleIter j2 q2 (n+1)->IsPair h' s.heap.objs.size u v ->
   (∀ c o,c≠z->c≠to->c≠j1->c≠j2->s.heap.get? c=some o->h'.get? c=some o)->Q (some (.ref s.heap.objs.size)) { s with heap:=h' }):wpAny (model prog w) A (pyNext (.ref z)) Q E s:=by
 have ty:s.TypeIs (.ref z) "zip" :=⟨_,st.z,rfl⟩;unfold pyNext;exact Q0 (Zu (J3 (name:=Str.ofString "__next__") ty Qh9 (J0 Qh9 ty F.entry_zip_next (Qnr D st h1 h2 hu hv λh' a1 a2 a3 a4 a5 a6=>Q3 (go h' a1 a2 a3 a4 a5 a6)) (F.args_zip_next_1 _))))
theorem next_none {z ti to j1 j2 q1 q2:Addr} {n:Nat} {us vs:Array Value} {Q:Option Value->Shared->Prop} (hA:A.handled=none) (D:ZipApart z ti to j1 j2 q1 q2) (st:At s.heap z ti to j1 j2 q1 q2 n) (h1:s.heap.IsTuple q1 us) (h2:s.heap.IsTuple q2 vs)
  (Kj:us[n]? =none \/ vs[n]? =none) (go: ∀ h',(∀ c o,c≠z->c≠to->c≠j1->c≠j2->s.heap.get? c=some o->h'.get? c=some o)->Q none { s with heap:=h' }):wpAny (model prog w) A (pyNext (.ref z)) Q E s:=by
 have ty:s.TypeIs (.ref z) "zip" :=⟨_,st.z,rfl⟩;unfold pyNext;refine Q0 (Zu (J3 (name:=Str.ofString "__next__") ty Qh9 (J0 Qh9 ty F.entry_zip_next (Qns hA D st h1 h2 Kj λh' e keep ⟨o,g,c⟩=> ?_) (F.args_zip_next_1 _))));exact Q0 (Z3 (T:= "StopIteration") (b:=true) ⟨o,g,c⟩ Qlh (Q3 (go _ keep)))
abbrev tit (q:Addr):Obj:={ cls:= .type "tuple_iterator",data:= .fields #[.ref q,.int 0 0] }
abbrev g1 (h:Heap) (q1:Addr):Heap:=h.push (tit q1)
abbrev g2 (h:Heap) (q1 q2:Addr):Heap:=(g1 h q1).push (tit q2)
abbrev g3 (h:Heap) (q1 q2:Addr):Heap:=(g2 h q1 q2).push { cls:= .type "tuple",data:= .seq #[.ref h.objs.size,.ref (g1 h q1).objs.size] }
abbrev g4 (h:Heap) (q1 q2:Addr):Heap:=(g3 h q1 q2).push { cls:= .type "tuple",data:= .seq #[.none,.none] }
abbrev g5 (h:Heap) (q1 q2:Addr):Heap:=(g4 h q1 q2).push { cls:= .type "zip",data:= .fields #[.none,.bool false,.bool false,.ref (g2 h q1 q2).objs.size,.ref (g3 h q1 q2).objs.size] }
theorem BD (q1 q2:Addr) (us vs:Array Value):Meets (Builtin.«zip.__new__» ⟨[.type "zip",.ref q1,.ref q2],[]⟩) (λ_ R s=>s.heap.IsTuple q1 us/\s.heap.IsTuple q2 vs/\R (.ok (.ret (.ref (g4 s.heap q1 q2).objs.size))) { s with heap:=g5 s.heap q1 q2 }) :=
 .of_wp λprog w A R s h=>by
  obtain ⟨hp,g,d,tk,os⟩:=s;obtain ⟨a1,a2,h⟩:=h;have sub:=sub_zip;have b1:Heap.IsTuple (Shared.heap ⟨hp,g,d,tk,os⟩) q1 us:=a1;have b2:Heap.IsTuple (Shared.heap ⟨hp.push { cls:= .type "tuple_iterator",data:= .fields #[.ref q1,.int 0 0] },g,d,tk,os⟩) q2 vs:=Heap.IsTuple.push a2 _
  wp_walk using Yw b1,Yw b2
  exact ⟨_,rfl,h⟩
theorem call_zip {q1 q2:Addr} {us vs:Array Value} {Q:Kf} (a1:s.heap.IsTuple q1 us) (a2:s.heap.IsTuple q2 vs)
  (go: ∀ h',At h' (s.heap.objs.size+4) (s.heap.objs.size+2) (s.heap.objs.size+3) s.heap.objs.size (s.heap.objs.size+1) q1 q2 0->(∀ c o,s.heap.get? c=some o->h'.get? c=some o)->Q (.ref (s.heap.objs.size+4)) { s with heap:=h' }) :
  wpAny (model prog w) A (call (.type "zip") [.ref q1,.ref q2]) Q E s:=by
 refine callType_new F.called_zip (by decide) (F.typeCall_zip_2 _ _) (F.newCall_zip_2 _ _) (λobj=>F.args_object_init_3 obj _ _) F.entry_zip_new (BD q1 q2 us vs) ⟨a1,a2,?_⟩;have n1:(g1 s.heap q1).objs.size=s.heap.objs.size+1:=Ju ..;have n2:(g2 s.heap q1 q2).objs.size=s.heap.objs.size+2:=by rw [Ju,n1]
 have n3:(g3 s.heap q1 q2).objs.size=s.heap.objs.size+3:=by rw [Ju,n2]
 have n4:(g4 s.heap q1 q2).objs.size=s.heap.objs.size+4:=by rw [Ju,n3]
 have e5:(g5 s.heap q1 q2).get? (g4 s.heap q1 q2).objs.size=some _:=Qd _ rfl;have e4:(g5 s.heap q1 q2).get? (g3 s.heap q1 q2).objs.size=some _:=Q1 _ (Qd _ rfl);have e3:(g5 s.heap q1 q2).get? (g2 s.heap q1 q2).objs.size=some _:=Q1 _ (Q1 _ (Qd _ rfl));have e2:(g5 s.heap q1 q2).get? (g1 s.heap q1).objs.size=some _:=Q1 _ (Q1 _ (Q1 _ (Qd _ rfl)));have e1:(g5 s.heap q1 q2).get? s.heap.objs.size=some _:=Q1 _ (Q1 _ (Q1 _ (Q1 _ (Qd _ rfl))));show _/\_;rw [n2,n3,n4] at e5;rw [n1,n2] at e3;rw [n3] at e4;rw [n1] at e2;rw [n4];exact ⟨⟨_,e5,rfl⟩,go _ ⟨e5,e3,⟨_,_,e4⟩,⟨_,e1,rfl,rfl⟩,⟨_,e2,rfl,rfl⟩⟩ λc o y=>Q1 _ (Q1 _ (Q1 _ (Q1 _ (Q1 _ y))))⟩
theorem apart {n q1 q2:Addr} (a1:q1 < n) (a2:q2 < n):ZipApart (n+4) (n+2) (n+3) n (n+1) q1 q2:=by
 constructor<;>(intro z;simp only [Addr] at *; omega)
end
end ZP
namespace L2
open PySem PySem.Spec PyProof.Rows
def ZL (scope:Scope) (env:Env):List (Str×Addr) :=
 (scope.names.filterMap λy=>if y.2 == .free then (env.cells.lookup y.1).map λa=>(y.1,a) else none).reverse
theorem Qqf {scope:Scope} {env:Env} {y:Str} {c:Addr} (h:(y,c)∈ZL scope env):env.cells.lookup y=some c:=by
 unfold ZL at h;rw [Qnp,Z0] at h;obtain ⟨⟨n,k⟩,_,e⟩:=h;split at e
 ·cases q:env.cells.lookup n with
  | none=>simp [q] at e
  | some a =>
   simp [q] at e;obtain ⟨rfl,rfl⟩:=e;exact q
 ·cases e
theorem JU {scope:Scope} {env:Env} {y:Str} {c:Addr} (h:(ZL scope env).lookup y=some c):env.cells.lookup y=some c :=
 Qqf (Wf h)
theorem Qgq {scope:Scope} {env:Env} {y:Str} {c:Addr} (hm:(y,NameKind.free)∈scope.names) (h:env.cells.lookup y=some c):(ZL scope env).lookup y=some c:=by
 have hmem:(y,c)∈ZL scope env:=by
  unfold ZL;rw [Qnp,Z0];exact ⟨(y,.free),hm,by simp [h]⟩
 cases q:(ZL scope env).lookup y with
 | none =>
  exfalso;have: ∀ (l:List (Str×Addr)),l.lookup y=none->(y,c) ∉ l:=by
   intro l
   induction l with
   | nil=>intro _ z;cases z
   | cons a r ih =>
    obtain ⟨n,d⟩:=a;intro e z;rw [YN] at e;cases hb:(y == n) with
    | true=>simp [hb] at e
    | false =>
     simp only [hb] at e;rcases Qb.mp z with z | z
     ·injection z with z1 _
      subst z1;simp at hb
     ·exact ih e z
  exact this _ q hmem
 | some d =>
  have:=JU q;rw [h] at this;cases this;rfl
def UE (env:Env) (x:Str×NameKind) (cs:List (Str×Addr)):Sem (ForInStep (List (Str×Addr))) :=
 match x with
 | (name,kind)=>if (kind == NameKind.free)=true then do
   let a<-cellOf env name
   pure (ForInStep.yield ((name,a)::cs))
  else pure (ForInStep.yield cs)
theorem Zv {scope:Scope} {env:Env} (h: ∀ y∈scope.names,y.2= .free->(env.cells.lookup y.1).isSome=true):closureFor scope env=pure (ZL scope env):=by
 have go: ∀ (l:List (Str×NameKind)) (acc:List (Str×Addr)),(∀ y∈l,y.2= .free->(env.cells.lookup y.1).isSome=true) ->
   forIn (m:=Sem) l acc (UE env)=pure ((l.filterMap λy=>if y.2 == .free then (env.cells.lookup y.1).map λa=>(y.1,a) else none).reverse++acc):=by
  intro l
  induction l with
  | nil=>intro acc _;rfl
  | cons y r ih =>
   obtain ⟨n,k⟩:=y;intro acc hy;have hr:=λy hm=>hy y (Q7 _ hm)
   rw [ZZ];cases hk:(k == NameKind.free) with
   | false =>
    have e:UE env (n,k) acc=pure (ForInStep.yield acc):=by simp [UE,hk]
    rw [e];show forIn (m:=Sem) r acc (UE env)=_;rw [ih acc hr];have hk2:k≠ .free:=by simpa using hk
    simp [JQ,hk2]
   | true =>
    have hk':k= .free:=by simpa using hk
    have hs:=hy (n,k) Q8 hk';cases q:env.cells.lookup n with
    | none=>rw [q] at hs;cases hs
    | some a =>
     have e:UE env (n,k) acc=pure (ForInStep.yield ((n,a)::acc)):=by
      simp only [UE,hk,Wt,cellOf,q];rfl
     rw [e];show forIn (m:=Sem) r ((n,a)::acc) (UE env)=_;rw [ih ((n,a)::acc) hr];simp [JQ,hk',q]
 have:=go scope.names [] h;rw [JS] at this;unfold closureFor;show (forIn (m:=Sem) scope.names [] (UE env) >>= λcs=>pure cs)=_;rw [this];rfl
def relab (env:Env) (y:Str×NameKind):Str×NameKind:=match y with
 | (n,k)=>if (k == NameKind.free && env.scope.kind == .function && env.kindOf n == some .cell)=true then (n,.cell) else (n,k)
theorem Uy {scope:Scope} {env:Env} (y:Str):(relabel scope env).names.lookup y =
  (scope.names.lookup y).map λk=>if (k == .free && env.scope.kind == .function && env.kindOf y == some .cell)=true then .cell else k:=by
 show List.lookup y (scope.names.map (relab env))=_
 induction scope.names with
 | nil=>rfl
 | cons a r ih =>
  obtain ⟨n,k⟩:=a;rw [Qk];have e1:(relab env (n,k))=(n,if (k == .free && env.scope.kind == .function && env.kindOf n == some .cell)=true then .cell else k):=by
   unfold relab;simp only;split<;>rfl
  rw [e1,YN,YN];cases hb:(y == n) with
  | true =>
   have e:y=n:=by simpa using hb
   subst e;rfl
  | false=>exact ih
structure CompOk (N:List Str) (osc:Scope) (x:Str) (scope:Scope):Prop where
 kind:scope.kind= .function
 nocell: ∀ y∈scope.names,y.2≠ .cell
 names: ∀ y∈scope.names,y.2= .local->scope.names.lookup y.1=some .local
 hx:scope.names.lookup x=some .local
 only: ∀ y∈N,scope.names.lookup y≠some .local
 free: ∀ y∈scope.names,y.2= .free->osc.names.lookup y.1=some .cell \/ osc.names.lookup y.1=some .free
 nd:(x::N).Nodup
def WI (N:List Str) (osc:Scope) (x:Str) (scope:Scope):Bool :=
 (scope.kind == .function) && scope.names.all (λy=> !(y.2 == .cell)) && scope.names.all (λy=> !(y.2 == .local) || scope.names.lookup y.1 == some .local) &&
 (scope.names.lookup x == some .local) && N.all (λy=> !(scope.names.lookup y == some .local)) &&
 scope.names.all (λy=> !(y.2 == .free) || (osc.names.lookup y.1 == some .cell || osc.names.lookup y.1 == some .free)) && decide ((x::N).Nodup)
theorem CompOk.of {N:List Str} {osc:Scope} {x:Str} {scope:Scope} (h:WI N osc x scope=true):CompOk N osc x scope:=by
 unfold WI at h;simp only [Qv,Wo,QB,WZ,Bool.or_eq_true,Bool.not_eq_true',Jm] at h;obtain ⟨⟨⟨⟨⟨⟨h1,h2⟩,h3⟩,h4⟩,h5⟩,h6⟩,h7⟩:=h;refine ⟨by simpa using h1,λy hy e=> ?_,λy hy e=> ?_,h4,λy hy e=> ?_,λy hy e=> ?_,h7⟩
 ·have:=h2 y hy;simp [e] at this
 ·have:=h3 y hy;simpa [e] using this
 ·have:=h5 y hy;simp [e] at this
 ·have:=h6 y hy;simpa [e] using this
def cxC (X:Cx) (x:Str) (scope:Scope) (cl:List (Str×Addr)) (C:Addr) (s:Shared) (H:Hp) (ex:List Addr):Cx where
 prog:=X.prog
 w:=X.w
 K:=X.K
 mg:=X.mg
 base:=X.base
 A:=X.A
 N:=x::X.N
 s₀:=s
 H₀:=H
 env:=compEnvC scope cl C X.env
 outer:=X.stack
 stack:=X.stack
 ex:=ex
 fn:=λ_=>false
 calm:=X.calm
 pn:=[]
 xe:=λ_ _=>False
section
variable {X:Cx} {Kz:Ke} {σ:St} {H:Hp} {s:Shared}
theorem CompOk.cells {x:Str} {scope:Scope} (ok:CompOk X.N X.env.scope x scope) (I:Inv X Kz σ H s) {y:Str} (hy:(y,NameKind.free)∈scope.names): ∃ c,X.env.cells.lookup y=some c :=
 I.ok.has y (ok.free (y,.free) hy rfl)
theorem Qcj {x:Str} {scope:Scope} {fp:List Addr} {h1:Heap} {C:Addr} {m0:Str->Option Value} {t:Nat} (ok:CompOk X.N X.env.scope x scope) (I:Inv X Kz σ H s)
  (hf: ∀ b∈fp,FpOk X Kz H b) (ho: ∀ b∈fp,∃ o,s.heap.get? b=some o) (hC:s.heap.objs.size<=C) (kp: ∀ b o,s.heap.get? b=some o->h1.get? b=some o) (ns:h1.Ns C m0) :
  Inv (cxC X x scope (ZL scope X.env) C s H fp) [] (none::σ) H { s with heap:=h1,toks:=t }:=by
 have inner: ∀ y,((relabel scope X.env).names.lookup y=some .cell \/ (relabel scope X.env).names.lookup y=some .free)->(y,NameKind.free)∈scope.names:=λy hy=>by
  rw [Uy] at hy;cases q:scope.names.lookup y with
  | none=>rw [q] at hy;simp at hy
  | some k =>
   have hm:=Wf q;cases k with
   | free=>exact hm
   | cell=>exact absurd rfl (ok.nocell _ hm)
   | _=>rw [q] at hy;simp at hy
 refine ⟨⟨I.ok.mod,ok.kind,I.ok.glob,I.ok.blt,hC,λy z c h1 h2=>I.ok.inj y z c (JU h1) (JU h2),λy hy=> ?_,λy c hy _=>absurd hy (by show ¬ (false=true);simp),I.ok.hd,I.ok.frames,.inl rfl,λb hb=>⟨?_,λy c e=>(hf b hb).2.2.2.2.1 y c (JU e)⟩,
   I.bs,Qu I.ok.bsz I.sz,λb o e hb=> ?_,λb hb z=> ?_,I.stack,I.stkFree⟩,rfl,I.bare,Un.kept kp,⟨m0,ns,λi y v e1 e2 e3=> ?_⟩,λy c e=> ?_,I.hok.fresh hC,λy c e=>I.freeC y c (JU e),λp hp=>absurd (show p∈([]:Ke) from hp) (by simp),I.hok.kept kp,?_⟩
 ·have hm:=inner y hy;obtain ⟨c,e⟩:=ok.cells I hm;exact ⟨c,Qgq hm e⟩
 ·obtain ⟨o,e⟩:=ho b hb;exact Qp (Qr (Qi e) hC)
 ·rcases (hf b hb).2.2.2.1 with z | z
  ·exact I.ok.noex b o e z
  ·exact absurd (Qr (Qi (I.ok.bs b o e).1) z) (JK _)
 ·rcases Qb.mp (I.stkSub b z) with z | z
  ·exact (hf b hb).2.1 z
  ·exact (hf b hb).2.2.1 z
 ·cases i with
  | zero =>
   have:(none:Option V)=some v:=by simpa using e2
   cases this
  | succ i =>
   have e1':X.N[i]? =some y:=by simpa [cxC] using e1
   have e2':σ[i]? =some (some v):=by simpa using e2
   have hy:y∈X.N:=Q9 e1';have e3':(relabel scope X.env).names.lookup y=some .cell \/ (relabel scope X.env).names.lookup y=some .free:=by
    rcases e3 with e3 | e3 | e3
    ·exfalso;have e3:(relabel scope X.env).names.lookup y=some .local:=e3;rw [Uy] at e3;cases q:scope.names.lookup y with
     | none=>rw [q] at e3;simp at e3
     | some k =>
      rw [q] at e3
      by_cases hk:k= .local
      ·exact ok.only y hy (by rw [q,hk])
      ·simp only [Option.map_some,Option.some.injEq] at e3;split at e3
       ·cases e3
       ·exact hk e3
    ·exact .inl e3
    ·exact .inr e3
   have hm:=inner y e3';have vis:Vis X.env.scope y:=by
    rcases ok.free _ hm rfl with z | z
    ·exact .inr (.inl z)
    ·exact .inr (.inr z)
   obtain ⟨m,_,hl⟩:=I.loc;obtain ⟨u,r,l⟩:=hl i y v e1' e2' vis;refine ⟨u,r,.inr ⟨e3',?_⟩⟩;rcases l with ⟨k,_⟩ | ⟨_,c,e,z⟩
   ·rcases ok.free _ hm rfl with z | z
    ·have k':X.env.scope.names.lookup y=some .local:=k;rw [z] at k';cases k'
    ·have k':X.env.scope.names.lookup y=some .local:=k;rw [z] at k';cases k'
   ·exact ⟨c,Qgq hm e,z.keeps kp⟩
 ·obtain ⟨v,z⟩:=I.cell y c (JU e);exact ⟨v,z.keeps kp⟩
 ·show (none::σ).length=(x::X.N).length;simp [I.len]
def PTs (X:Cx) (ifs:List Expr) (t:TT):Prop :=
 ∀ (Kz:Ke) (s:Shared) (σ:St) (H:Hp) (Q:Bool->Hp->Prop),Inv X Kz σ H s->t σ H Q ->
  wpAny (model X.prog X.w) X.A (forIn ifs true λc r=>if r=true then do let ok<-isTrue c X.env (eval c X.env);pure (ForInStep.yield ok) else pure (ForInStep.yield r)) (TP X Kz σ Q) X.xe s
def Qo4:TT:=λ_ H Q=>Q true H
theorem Qdx:PTs X [] Qo4:=λ_ _ _ H _ I h=>Q3 ⟨H,I,h⟩
theorem Qti {c:Expr} {t:TT} (h:PT X c t):PTs X [c] t:=by
 intro Kz s σ H Q I hw;simp only [ZZ,Gc,Wt];exact Q0 (Q0 (thn (h Kz s σ H Q I hw) λb s' hb=>Q3 (Q3 hb)))
def Qo7 (wi:TI) (tc:TT) (te:TE):TE:=λσ H Q=>wi σ H λJ H1=> ∃ W:Nat->Nat->List V->Hp->Prop,(∃ m,W 0 m [] H1)/\ ∀ i m ys H,W i m ys H ->
 (J.stop i H/\ ∀ p,H p=none->Q (.ref p) (upd H p (.lst ys))) \/
 (J.go i H/\ys.length < sizeLine/\ ∀ x H',J.yld i H x H'->tc (some x::σ) H' λb H''=>if b=true then te (some x::σ) H'' (λy H3=> ∃ m',m' < m/\W (i+1) m' (ys++[y]) H3) else ∃ m',m' < m/\W (i+1) m' ys H'')
def lobj (Kv:List Value) (k:Nat):Obj:={ cls:= .type "list",data:= .seq Kv.toArray k }
theorem Qat {elt iter:Expr} {x:Str} {px:Pos} {ifs:List Expr} {scope:Scope} {pos:Pos} {tc:TT} {te:TE} {J:It} {fp:List Addr} {it:Addr} {tn:Nat->Heap->Prop} {RR:Value->Addr->Result->Shared->Prop} {E:Kf}
  (ok:CompOk X.N X.env.scope x scope) (hc:X.calm=true) (hifs: ∀ cl C s H ex,PTs (cxC X x scope cl C s H ex) ifs tc) (helt: ∀ cl C s H ex,PE (cxC X x scope cl C s H ex) elt te)
  (I:Inv X Kz σ H s) (T:Turn X.prog X.w X.K (.Name x px) J fp it tn) (st:tn 0 s.heap) (hf: ∀ b∈fp,FpOk X Kz H b) {W:Nat->Nat->List V->Hp->Prop} (w0: ∃ m,W 0 m [] H) {Qf:List V->Hp->Prop}
  (turn: ∀ i m ys H,W i m ys H->(J.stop i H/\Qf ys H) \/
   (J.go i H/\ys.length < sizeLine/\ ∀ x H',J.yld i H x H'->tc (some x::σ) H' λb H''=>if b=true then te (some x::σ) H'' (λy H3=> ∃ m',m' < m/\W (i+1) m' (ys++[y]) H3) else ∃ m',m' < m/\W (i+1) m' ys H''))
  (Kj: ∀ D C s' H' ys Kv k,s.heap.objs.size<=D->s.heap.objs.size<=C->D≠C->Inv (cxC X x scope (ZL scope X.env) C s H fp) [(D,lobj Kv k)] (none::σ) H' s'->Vals ys Kv->ys.length<=sizeLine->Qf ys H'->RR (.ref D) C (.ok .next) s') :
  wpAny (model X.prog X.w) X.A (newList []) (λacc s₃=>wpAny (model X.prog X.w) X.A (newFunctionEnv scope X.env.globals (ZL scope X.env) [] X.env.qual none .none (some X.env)) (λcenv s₄ =>
   codeAny (model X.prog X.w) X.A (.compStart (.ListComp elt [⟨.Name x px,iter,ifs,0⟩] scope pos) 0 (.ref it) acc { cenv with scope:=relabel scope X.env }) (RR acc cenv.locals) s₄) E s₃) E s:=by
 refine Ja (wpAny_newFunctionEnv ok.nocell (by intro y hy;simp at hy) (λh₁ hns₁ hsb₁=> ?_) ok.kind);dsimp only at hns₁ hsb₁ ⊢;generalize hH2:s.heap.push { cls:= .type "list",dict:=none,data:= .seq ([]:List Value).toArray }=H2 at hns₁ hsb₁ ⊢;have hCs:H2.objs.size=s.heap.objs.size+1:=by rw [<- hH2,Ju]
 have hDC:s.heap.objs.size≠H2.objs.size:=by rw [hCs];exact Qp (JJ _)
 have hCle:s.heap.objs.size<=H2.objs.size:=by rw [hCs];exact WV _
 have old: ∀ b o,s.heap.get? b=some o->h₁.get? b=some o:=λb o e=>hsb₁.extBut b o (Qp (Qr (Qi e) hCle)) (Q1 _ (hH2 ▸ Q1 _ e))
 have hacc:h₁.get? s.heap.objs.size=some (lobj [] 0):=hsb₁.extBut _ _ hDC (Q1 _ (hH2 ▸ Qd _ rfl));have hobj: ∀ b∈fp,∃ o,s.heap.get? b=some o:=λb hb=>let ⟨o,e,_⟩:=T.obj 0 _ st b hb;⟨o,e⟩
 have fpD: ∀ b∈fp,b≠s.heap.objs.size:=λb hb=>let ⟨o,e⟩:=hobj b hb;Qp (Qi e)
 have fpC: ∀ b∈fp,b≠H2.objs.size:=λb hb=>let ⟨o,e⟩:=hobj b hb;Qp (Qr (Qi e) hCle)
 have st1:tn 0 h₁:=T.keep 0 _ _ st λb _ o e=>old b o e
 generalize hXc:cxC X x scope (ZL scope X.env) H2.objs.size s H fp=Xc;have eP:Xc.prog=X.prog:=by rw [<- hXc];rfl
 have eW:Xc.w=X.w:=by rw [<- hXc];rfl
 have eK:Xc.K=X.K:=by rw [<- hXc];rfl
 have eA:Xc.A=X.A:=by rw [<- hXc];rfl
 have eL:Xc.env.locals=H2.objs.size:=by rw [<- hXc];rfl
 have eE:Xc.env=compEnvC scope (ZL scope X.env) H2.objs.size X.env:=by rw [<- hXc];rfl
 have eX:Xc.ex=fp:=by rw [<- hXc];rfl
 have eS:Xc.s₀=s:=by rw [<- hXc];rfl
 have eN:Xc.N=x::X.N:=by rw [<- hXc];rfl
 have eQ:Xc.pn=[]:=by rw [<- hXc];rfl
 have eF:Xc.xe=λ_ _=>False:=by rw [<- hXc];rfl
 have eO:Xc.fs=frs X.stack:=by rw [<- hXc];rfl
 have eCm:Xc.calm=true:=by rw [<- hXc];exact hc
 have hifs':PTs Xc ifs tc:=hXc ▸ hifs _ _ _ _ _;have helt':PE Xc elt te:=hXc ▸ helt _ _ _ _ _;have nfsD:s.heap.objs.size ∉ Xc.fs:=λz=>by
  rw [eO] at z;rcases Qb.mp (I.stkSub _ z) with z | z
  ·exact absurd I.lt (by rw [<- z];exact JK _)
  ·exact I.nofs (Q5 _) z
 have cellD: ∀ y c,Xc.env.cells.lookup y=some c->c≠s.heap.objs.size:=λy c e=>by
  rw [eE] at e;obtain ⟨v,z⟩:=I.cell y c (JU e);exact Qp z.lt
 have cellF: ∀ b∈fp,∀ y c,Xc.env.cells.lookup y=some c->c≠b:=λb hb y c e=>by
  rw [eE] at e;exact (hf b hb).2.2.2.2.1 y c (JU e)
 have nfsF: ∀ b∈fp,b ∉ Xc.fs:=λb hb z=>by
  rw [eO] at z;rcases Qb.mp (I.stkSub _ z) with z | z
  ·exact (hf b hb).2.1 z
  ·exact (hf b hb).2.2.1 z
 have fpOkC: ∀ {H':Hp} {o:Obj},(∀ b∈fp,H' b=none)-> ∀ b∈fp,FpOk Xc [(s.heap.objs.size,o)] H' b:=λ{H' o} hn b hb =>
  ⟨hn b hb,by rw [eL];exact fpC b hb,nfsF b hb,.inl (by rw [eX];exact hb),cellF b hb,λp hp=>by
   rw [eQ] at hp;have e:p=(s.heap.objs.size,o):=by simpa using hp
   rw [e];exact QS (fpD b hb)⟩
 have pinD: ∀ {Kt:St} {H':Hp} {s':Shared} {Kv:List Value} {k:Nat},Inv Xc [] Kt H' s'->s'.heap.get? s.heap.objs.size=some (lobj Kv k)->H' s.heap.objs.size=none->Inv Xc [(s.heap.objs.size,lobj Kv k)] Kt H' s':=λ{Kt H' s' Kv k} I' e n =>
  I'.pins_of λp hp=>by
   have z:p=(s.heap.objs.size,lobj Kv k):=by simpa using hp
   subst z;exact ⟨e,n,by rw [eL];exact hDC,nfsD,λv z=>by cases z⟩
 have loop: ∀ s₃:Shared,s₃={ s with heap:=h₁,toks:=s.toks+([]:List (Str×Value)).length } ->
   codeAny (model X.prog X.w) X.A (.compLoop (.ListComp elt [⟨.Name x px,iter,ifs,0⟩] scope pos) 0 (.ref it) (.ref s.heap.objs.size) Xc.env) (RR (.ref s.heap.objs.size) H2.objs.size) s₃:=by
  rintro s₃ rfl;obtain ⟨m0,w0⟩:=w0;have I0:Inv Xc [] (none::σ) H { s with heap:=h₁,toks:=s.toks+([]:List (Str×Value)).length }:=hXc ▸ Qcj ok I hf hobj hCle old hns₁;refine codeAny_compLoop_tests (λn s'=> ∃ i ys Kv H' k,Inv Xc [(s.heap.objs.size,lobj Kv k)] (none::σ) H' s'/\tn i s'.heap/\(∀ b∈fp,H' b=none)/\Vals ys Kv/\ys.length<=sizeLine/\W i n ys H') ?_ m0
   ⟨0,[],[],H,0,pinD I0 hacc (I.hok.fresh (Q5 _)),st1,λb hb=>(hf b hb).1,.nil,Qz _,w0⟩
  rintro n s3 ⟨i,ys,Kv,H3,k,I3,st3,fr3,rv,hlen3,w3⟩;rcases turn i n ys H3 w3 with ⟨stop,q⟩ | ⟨go,Kr,step⟩
  ·have hd:=T.done Xc eP eW eK eCm i _ s3 (none::σ) H3 (notedBy (model X.prog X.w) X.A Xc.env λe s'=>RR (.ref s.heap.objs.size) H2.objs.size (.error e) s') I3 (fpOkC fr3) st3 stop;rw [eA] at hd;refine thn hd λr s4 ⟨hr,I4⟩=> ?_
   subst hr;exact Kj _ _ s4 H3 ys Kv k (Q5 _) hCle hDC (hXc ▸ I4) rv hlen3 q
  ·have hd:=T.item Xc eP eW eK eCm i _ s3 (none::σ) H3 (notedBy (model X.prog X.w) X.A Xc.env λe s'=>RR (.ref s.heap.objs.size) H2.objs.size (.error e) s') I3 (fpOkC fr3) st3 go;rw [eA] at hd;refine thn hd λr s4 ⟨u,hr,h4⟩=> ?_
   subst hr;show wpAny (model X.prog X.w) X.A (letOwnedTupleGo (.Name x px) (.ref it) u >>= λ_=>assign (.Name x px) Xc.env u) _ _ s4;refine Q0 (thn h4 λ_ s5 ⟨v,H5,I5,r5,y5,st5,fr5⟩=> ?_);have I5':=I5.pinned (fpOkC fr5) (T.obj _ _ st5);refine Qba (OR (i:=0) I5' (by rw [eN];exact ok.nd) (by rw [eN];rfl) (.inl (by rw [eE];exact WP ok.hx)) r5 (λs6 I6=> ?_) (.inr (by rw [eE];exact WP ok.hx)));have I6':Inv Xc ([(s.heap.objs.size,lobj Kv k)]++YX fp s5.heap) (some v::σ) H5 s6:=I6;have ht:=hifs' _ s6 (some v::σ) H5 _ I6' (step v H5 y5);rw [eP,eW,eA,eF] at ht;refine Jh ht (λb s7 ⟨H7,I7,q7⟩=> ?_) λ_ _ f=>f.elim
   have back: ∀ {H':Hp} {s':Shared},Inv Xc ([(s.heap.objs.size,lobj Kv k)]++YX fp s5.heap) (some v::σ) H' s' ->
     s'.heap.get? s.heap.objs.size=some (lobj Kv k)/\H' s.heap.objs.size=none/\tn (i+1) s'.heap/\(∀ b∈fp,H' b=none)/\Inv Xc [] (none::σ) H' s':=λ{H' s'} J'=>by
    have hp: ∀ p∈[(s.heap.objs.size,lobj Kv k)]++YX fp s5.heap,s'.heap.get? p.1=some p.2/\H' p.1=none:=λp hp=>⟨(J'.pin p (QC _ hp)).1,(J'.pin p (QC _ hp)).2.1⟩
    refine ⟨(hp (s.heap.objs.size,lobj Kv k) (by simp)).1,(hp (s.heap.objs.size,lobj Kv k) (by simp)).2,T.keep _ _ _ st5 λb hb o e=>(hp (b,o) (QC _ (Zo hb e))).1,λb hb=> ?_,?_⟩
    ·obtain ⟨o,e,_⟩:=T.obj _ _ st5 b hb;exact (hp (b,o) (QC _ (Zo hb e))).2
    ·refine (J'.pins_of (pins':=[]) λp hp=>by cases hp).weak (by simp) λj w e=> ?_
     cases j with
     | zero =>
      have:(none:Option V)=some w:=by simpa using e
      cases this
     | succ j=>simpa using e
   cases b with
   | false =>
    obtain ⟨m',hm,w7⟩:=(show (if false=true then _ else ∃ m',m' < n/\W (i+1) m' ys H7) from q7);obtain ⟨e,hn,st7,fr7,J7⟩:=back I7;exact ⟨m',hm,i+1,ys,Kv,H7,k,pinD J7 e hn,st7,fr7,rv,hlen3,w7⟩
   | true =>
    have q7':te (some v::σ) H7 (λy H3=> ∃ m',m' < n/\W (i+1) m' (ys++[y]) H3):=q7;have he:=helt' _ s7 (some v::σ) H7 _ I7 q7';rw [eP,eW,eA,eF] at he;refine Jh he (λy s8 ⟨yv,H8,I8,r8,m',hm,w8⟩=> ?_) λ_ _ f=>f.elim
    obtain ⟨e,hn,st8,fr8,J8⟩:=back I8;have hl:=rv.length;refine wpAny_list_append_plain (items:=Kv.toArray) ⟨k,e⟩ (λh' pl sb=> ?_) (by rw [Ql];omega);obtain ⟨k',e'⟩:=pl;have e'':h'.get? s.heap.objs.size=some (lobj (Kv++[y]) k'):=by
     rw [e'];simp [lobj]
    have J9:Inv Xc [] (none::σ) H8 { s8 with heap:=h' }:=J8.turned (t':=s8.toks) (it:=s.heap.objs.size) (λb o hb q=>(sb.2 b hb).trans q) hn (by rw [eL];exact hDC) (.inr (by rw [eS];exact Q5 _)) cellD (λp hp=>by
     rw [eQ] at hp;exact absurd hp (by simp))
    refine ⟨m',hm,i+1,ys++[yv],Kv++[y],H8,k',pinD J9 e'' hn,T.keep _ _ _ st8 λb hb o q=>(sb.2 b (fpD b hb)).trans q,fr8,rv.append (.cons r8 .nil),?_,w8⟩;rw [Qs];show ys.length+1<=_;omega
 have eE':({ (newEnv scope H2.objs.size X.env.globals (ZL scope X.env) X.env.qual none .none (some X.env) builtinsNs) with scope:=relabel scope X.env }:Env)=Xc.env:=by rw [eE];rfl
 rw [eE'];exact codeAny_compStart_list (loop _ rfl) (T.self X.A 0 _ _ _ st1 (loop _ rfl))
theorem U1 {x:Str} {scope:Scope} {fp:List Addr} {D C:Addr} {s':Shared} {H':Hp} {ys:List V} {Kv:List Value} {k:Nat} {h':Heap} (I:Inv X Kz σ H s) (hf: ∀ b∈fp,FpOk X Kz H b)
  (hD:s.heap.objs.size<=D) (hC:s.heap.objs.size<=C) (hDC:D≠C) (J:Inv (cxC X x scope (ZL scope X.env) C s H fp) [(D,lobj Kv k)] (none::σ) H' s') (rv:Vals ys Kv) (hl:ys.length<=sizeLine) (sb:Heap.SameBut C s'.heap h') :
  Inv X Kz σ (upd H' D (.lst ys)) { s' with heap:=h' }/\H' D=none:=by
 obtain ⟨eD,nD,_⟩:=J.pin (D,lobj Kv k) (by show _∈[]++[_];simp);have nC:H' C=none:=J.free;have u:Un (frs X.stack) fp H H' s.heap s'.heap:=J.base;have neC: ∀ b o,s.heap.get? b=some o->b≠C:=λb o e=>Qp (Qr (Qi e) hC)
 have neD: ∀ b o,s.heap.get? b=some o->b≠D:=λb o e=>Qp (Qr (Qi e) hD)
 refine ⟨I.call' (s':={ s' with heap:=h' }) (ch:=fp) J.os ⟨λb o e n hb hx=>(sb.2 b (neC b o e)).trans (u.keep b o e n hb hx),λb o e n hb hx=> ?_,λb o e n hx=> ?_,λb o e hx=> ?_,λb xs q=> ?_,λb o w q=> ?_,λb ps q=> ?_⟩ ?_ J.bare
  λb hb=>⟨(hf b hb).2.2.2.1,(hf b hb).2.1,(hf b hb).2.2.2.2.1,(hf b hb).2.2.2.2.2⟩,nD⟩
 ·obtain ⟨sl,z⟩:=u.slot b o e n hb hx;exact ⟨sl,(sb.2 b (neC b o e)).trans z⟩
 ·rw [Qo (neD b o e)];exact u.free b o e n hx
 ·obtain ⟨o',z⟩:=u.there b o e hx;exact ⟨o',(sb.2 b (neC b o e)).trans z⟩
 ·have z:=u.tups b xs q;rw [Qo (QH z nD)];exact z
 ·have z:=u.frzs b o w q;rw [Qo (QH z nD)];exact z
 ·obtain ⟨more,z⟩:=u.tbls b ps q;exact ⟨more,by rw [Qo (QH z nD)];exact z⟩
 ·intro b w e
  by_cases hb:b=D
  ·subst hb;rw [Vu] at e;cases e;exact ⟨hl,Kv,k,rv,(sb.2 b hDC).trans eD⟩
  ·rw [Qo hb] at e;refine (J.hok b w e).stay (λc z hc q=>(sb.2 c ?_).trans q) (λc q=>by rw [Qo (QH q nD)];exact q) λc xs q=>by rw [Qo (QH q nD)];exact q
   rcases hc with rfl | hc
   ·exact QH e nC
   ·exact QH hc nC
theorem Qtw {elt iter:Expr} {x:Str} {px:Pos} {ifs:List Expr} {scope:Scope} {pos:Pos} {wi:TI} {tc:TT} {te:TE} (hc:X.calm=true) (hi:PI X (.Name x px) iter wi)
  (hifs: ∀ cl C s H ex,PTs (cxC X x scope cl C s H ex) ifs tc) (helt: ∀ cl C s H ex,PE (cxC X x scope cl C s H ex) elt te)
  (hok:WI X.N X.env.scope x scope=true:=by rfl) (hs: ∀ x,foldedSetIterable iter X.env x=pure x:=by intro _;rfl) :
  PE X (.ListComp elt [⟨.Name x px,iter,ifs,0⟩] scope pos) (Qo7 wi tc te):=by
 intro Kz s σ H Q I h;have ok:=CompOk.of hok;rw [eval_ListComp];refine Yq (cl:=ZL scope X.env) (use:=none) rfl hs (Zv λy hy e=> ?_) ok.kind ok.names ?_
 ·obtain ⟨n,k⟩:=y;cases e;obtain ⟨c,z⟩:=ok.cells I hy;rw [z];rfl
 ·refine thn (hi Kz s σ H _ I h) λv s1 h1=>thn h1 λitv s2 h2=> ?_
  obtain ⟨it,fp,tn,J,H2,e,I2,T,st2,f2,W,w0,turn⟩:=h2;subst e;refine Qat (RR:=λacc C=>compPost (model X.prog X.w) X.A X.xe none (EP X Kz σ Q) acc C) ok hc hifs helt I2 T st2 f2 w0 (Qf:=λys H=> ∀ p,H p=none->Q (.ref p) (upd H p (.lst ys))) turn ?_;intro D C s' H' ys Kv k hD hC hDC J' rv hl q;obtain ⟨m,hn,_⟩:=id J'.loc;refine ⟨m,hn,λh' sb=> ?_⟩;obtain ⟨I',nD⟩:=U1 I2 f2 hD hC hDC J' rv hl sb;exact ⟨.ref D,_,I',rfl,q D nD⟩
theorem Qtn {elt iter:Expr} {x y:Str} {px py:Pos} {ifs:List Expr} {scope:Scope} {pos spos:Pos} {wi:TI} {tc:TT} {te:TE} {i:Nat} (hN:X.N.Nodup) (hyi:X.N[i]? =some y) (hyl:X.env.scope.names.lookup y=some .local) (hc:X.calm=true) (hi:PI X (.Name x px) iter wi)
  (hifs: ∀ cl C s H ex,PTs (cxC X x scope cl C s H ex) ifs tc) (helt: ∀ cl C s H ex,PE (cxC X x scope cl C s H ex) elt te)
  (hok:WI X.N X.env.scope x scope=true:=by rfl) (hs: ∀ x,foldedSetIterable iter X.env x=pure x:=by intro _;rfl)
  (hsw:swapsWith (.ListComp elt [⟨.Name x px,iter,ifs,0⟩] scope pos) (some (.Name y py)) spos.line X.env=pure true:=by rfl) :
  PS X (.Assign [.Name y py] (.ListComp elt [⟨.Name x px,iter,ifs,0⟩] scope pos) spos) (Qww (Qo7 wi tc te) (Ba i)):=by
 intro Kz s σ H Dd I h;have ok:=CompOk.of hok;rw [exec_Assign_Name_used _ _ _ _ hsw];refine Q0 (wpAny_standAt (Q0 ?_));show wpAny _ X.A (do let _<-comprehension (.ListComp elt [⟨.Name x px,iter,ifs,0⟩] scope pos) scope X.env _ (newList []) false (eval iter X.env) (some (assign (.Name y py) X.env))) _ _ s;refine Q0 (Jh (Yq (cl:=ZL scope X.env) (use:=some (assign (.Name y py) X.env)) (Q:=λ_ s'=>SP X Kz Dd .next s') rfl hs (Zv λy hy e=> ?_) ok.kind ok.names ?_) (λ_ s' hq=>Q3 (Q3 hq)) λ_ _ e=>e)
 ·obtain ⟨n,k⟩:=y;cases e;obtain ⟨c,z⟩:=ok.cells I hy;rw [z];rfl
 ·refine thn (hi Kz s σ H _ I h) λv s1 h1=>thn h1 λitv s2 h2=> ?_
  obtain ⟨it,fp,tn,J,H2,e,I2,T,st2,f2,W,w0,turn⟩:=h2;subst e;refine Qat (RR:=λacc C=>compPost (model X.prog X.w) X.A X.xe (some (assign (.Name y py) X.env)) (λ_ s'=>SP X Kz Dd .next s') acc C) ok hc hifs helt I2 T st2 f2 w0 (Qf:=λys H=> ∀ p,H p=none->Dd.nx (σ.set i (some (.ref p))) (upd H p (.lst ys))) turn ?_;intro D C s' H' ys Kv k hD hC hDC J' rv hl q;obtain ⟨m,hn,_⟩:=id J'.loc;obtain ⟨I',nD⟩:=U1 I2 f2 hD hC hDC J' rv hl (Qwi ..);have nC:upd H' D (.lst ys) C=none:=by rw [Qo (QS hDC)];exact J'.free
  have fC:=I2.fpOk (b:=C) hC nC;show wpAny _ X.A (assign (.Name y py) X.env (.ref D)) _ _ _;refine Qba (Bu (s:=s') I' hN hyi (.inl hyl) (v:= .ref D) rfl (λs'' I'' ⟨a,sa,ha⟩=> ?_) (.inr hyl));have hCa:C≠a:=by
   rcases ha with ha | ha
   ·rw [ha];exact fC.2.1
   ·exact QS (fC.2.2.2.2.1 _ _ ha)
  refine ⟨m,hn.sameBut sa hCa,λh' sb=> ?_⟩;exact ⟨_,_,I''.turned (t':=s''.toks) (λb o hb e=>(sb.2 b hb).trans e) nC fC.2.1 fC.2.2.2.1 fC.2.2.2.2.1 fC.2.2.2.2.2,q D nD⟩
end
end L2
namespace L2
open PySem
inductive Oth where
 | dcx (fz:Bool) (hs:List Int) | obj (C:Nat) | fls
def Qn4 (i:Int):Nat:=if 0<=i then 2 * i.toNat else 2 * (-i).toNat - 1
def Oth.enc:Oth->List Nat
 | .dcx fz hs=>0::fz.toNat::hs.map Qn4
 | .obj C=>[1,C]
 | .fls=>[2]
theorem Qrf {i j:Int} (h:Qn4 i=Qn4 j):i=j:=by
 unfold Qn4 at h;split at h<;>split at h<;>omega
theorem Qct: ∀ {a b:List Int},a.map Qn4=b.map Qn4->a=b
 | [],[],_=>rfl
 | [],_::_,h=>by simp at h
 | _::_,[],h=>by simp at h
 | x::a,y::b,h=>by
  simp only [Qk,Qsw] at h;rw [Qrf h.1,Qct h.2]
theorem Oth.enc_inj {t u:Oth} (h:t.enc=u.enc):t=u:=by
 cases t<;>cases u<;>simp [Oth.enc] at h ⊢
 ·obtain ⟨h1,h2⟩:=h;refine ⟨?_,Qct h2⟩;rename_i f _ g _;cases f<;>cases g<;>simp_all
 ·exact h
inductive D where
 | non | bl (b:Bool) | int (i:Int) | str (x:Str) | tup (ds:List D) | lst (ds:List D) | dct (fz:Bool) (ks ds:List D) | oth (t:Oth) (ks ds:List D)
end L2
namespace L2
open PySem PySem.Spec PyProof.Rows
def W3 (ks:List Str) (vs:List V):List (Key×V):=(ks.zip vs).map λq=>(Sum.inr q.1,q.2)
structure DkAt (fz:Bool) (H:Hp) (p:Addr) (ks:List Str) (vs:List V):Prop where
 len:ks.length=vs.length
 nd:ks.Nodup
 at_:if fz=true then ∃ o,H p=some (.frz o (.dK (W3 ks vs))) else H p=some (.dK (W3 ks vs))
theorem DkAt.rd {fz:Bool} {H:Hp} {a:Addr} {ks:List Str} {xs:List V} (h:DkAt fz H a ks xs):Rd H a (.dK (W3 ks xs)):=by
 have:=h.at_;cases fz
 ·exact .inl this
 ·exact .inr this
theorem Same.dk {fz:Bool} {H H':Hp} {a:Addr} {ks:List Str} {xs:List V} (e:Same H H') (h:DkAt fz H a ks xs):DkAt fz H' a ks xs:=by
 refine ⟨h.len,h.nd,?_⟩;have:=h.at_;cases fz
 ·exact e _ _ this
 ·exact let ⟨o,z⟩:=this;⟨o,e _ _ z⟩
def Jaj (p:Addr) (hs:List Int) (as:List Addr) (vs:List V) (h:Heap):Prop:=(p == sysModules)=false/\vs.length<=sizeLine/\hs.length=as.length/\as.length=vs.length /\
 ∃ o es ep us,h.get? p=some o/\o.ExactDict/\o.data= .dict es ep/\Vals vs us/\es.toList=List.zipWith (λ(q:Int×Addr) (u:Value)=>(⟨q.1,Value.ref q.2,u⟩:DictEntry)) (hs.zip as) us
def DxO (p:Addr) (hs:List Int) (as:List Addr) (vs:List V):HO:= .ext (Jaj p hs as vs)
def DxAt (fz:Bool) (H:Hp) (p:Addr) (hs:List Int) (as:List Addr) (vs:List V):Prop:=if fz=true then ∃ o,H p=some (.frz o (DxO p hs as vs)) else H p=some (DxO p hs as vs)
theorem DxAt.rd {fz:Bool} {H:Hp} {p:Addr} {hs:List Int} {as:List Addr} {vs:List V} (h:DxAt fz H p hs as vs):Rd H p (DxO p hs as vs):=by
 cases fz
 ·exact .inl h
 ·exact .inr h
theorem Same.dx {fz:Bool} {H H':Hp} {p:Addr} {hs:List Int} {as:List Addr} {vs:List V} (e:Same H H') (h:DxAt fz H p hs as vs):DxAt fz H' p hs as vs:=by
 cases fz
 ·exact e _ _ (show H p=_ from h)
 ·exact let ⟨o,z⟩:=(show ∃ o,H p=some (.frz o (DxO p hs as vs)) from h);⟨o,e _ _ z⟩
mutual
def Is (K:W.Frag) (H:Hp):D->V->Prop
 | .non,v=>v= .non
 | .bl b,v=>v= .bl b
 | .int i,v=>v= .int i
 | .str x,v=>v= .str x
 | .tup ds,v=> ∃ p vs,v= .ref p/\SqT K H p vs/\Va K H ds vs
 | .lst ds,v=> ∃ p vs,v= .ref p/\SqL K H p vs/\Va K H ds vs
 | .dct fz ks ds,v=> ∃ p ss vs,v= .ref p/\ks=List.map D.str ss/\DkAt fz H p ss vs/\Va K H ds vs
 | .oth (.dcx fz hs) ks ds,v=> ∃ p as vs,v= .ref p/\DxAt fz H p hs as vs/\ks.Nodup/\Va K H ks (List.map V.ref as)/\Va K H ds vs
 | .oth (.obj C) ks ds,v=> ∃ p dx ss vs o,v= .ref p/\ks=List.map D.str ss/\ss.length=vs.length/\H p=some (.frz o (.ins C dx (ss.zip vs)))/\Va K H ds vs
 | .oth .fls ks ds,v=> ∃ p vs o,v= .ref p/\ks=[]/\H p=some (.frz o (.lst vs))/\Va K H ds vs
def Va (K:W.Frag) (H:Hp):List D->List V->Prop
 | [],vs=>vs=[]
 | d::ds,vs=> ∃ v r,vs=v::r/\Is K H d v/\Va K H ds r
end
theorem Same.sqT {K:W.Frag} {H H':Hp} {a:Addr} {xs:List V} (e:Same H H') (h:SqT K H a xs):SqT K H' a xs:=by
 rcases h with (h | ⟨o,h⟩) | h
 ·exact .inl (.inl (e _ _ h))
 ·exact .inl (.inr ⟨o,e _ _ h⟩)
 ·exact .inr h
theorem Same.upd {H:Hp} {p:Addr} {o:HO} (h:H p=none):Same H (upd H p o):=λb u e=>by
 rw [Qo (QH e h)];exact e
mutual
theorem Is.same {K:W.Frag} {H H':Hp} (s:Same H H'): ∀ {d:D} {v:V},Is K H d v->Is K H' d v
 | .non,_,h=>by simpa [Is] using h
 | .bl _,_,h=>by simpa [Is] using h
 | .int _,_,h=>by simpa [Is] using h
 | .str _,_,h=>by simpa [Is] using h
 | .tup ds,v,h=>by
  rw [Is] at h ⊢;obtain ⟨p,vs,e,q,r⟩:=h;exact ⟨p,vs,e,s.sqT q,Va.same s r⟩
 | .lst ds,v,h=>by
  rw [Is] at h ⊢;obtain ⟨p,vs,e,q,r⟩:=h;exact ⟨p,vs,e,s.seq q,Va.same s r⟩
 | .dct fz ks ds,v,h=>by
  rw [Is] at h ⊢;obtain ⟨p,ss,vs,e,hk,q,r⟩:=h;exact ⟨p,ss,vs,e,hk,s.dk q,Va.same s r⟩
 | .oth (.dcx fz hs) ks ds,v,h=>by
  rw [Is] at h ⊢;obtain ⟨p,as,vs,e,hk,q,i,r⟩:=h;exact ⟨p,as,vs,e,s.dx hk,q,Va.same s i,Va.same s r⟩
 | .oth (.obj C) ks ds,v,h=>by
  rw [Is] at h ⊢;obtain ⟨p,dx,ss,vs,o,e,hk,q,i,r⟩:=h;exact ⟨p,dx,ss,vs,o,e,hk,q,s _ _ i,Va.same s r⟩
 | .oth .fls ks ds,v,h=>by
  rw [Is] at h ⊢;obtain ⟨p,vs,o,e,hk,i,r⟩:=h;exact ⟨p,vs,o,e,hk,s _ _ i,Va.same s r⟩
theorem Va.same {K:W.Frag} {H H':Hp} (s:Same H H'): ∀ {ds:List D} {vs:List V},Va K H ds vs->Va K H' ds vs
 | [],_,h=>by simpa [Va] using h
 | d::ds,vs,h=>by
  rw [Va] at h ⊢;obtain ⟨v,r,e,q,t⟩:=h;exact ⟨v,r,e,Is.same s q,Va.same s t⟩
end
section
variable {K:W.Frag} {H H':Hp}
theorem ZI {i:Int} {v:V} (h:Is K H (.int i) v):v= .int i:=by simpa [Is] using h
theorem B6 {i:Bool} {v:V} (h:Is K H (.bl i) v):v= .bl i:=by simpa [Is] using h
theorem JC {i:Str} {v:V} (h:Is K H (.str i) v):v= .str i:=by simpa [Is] using h
theorem Qip {v:V} (h:Is K H .non v):v= .non:=by simpa [Is] using h
theorem JB {ds:List D} {v:V} (h:Is K H (.tup ds) v): ∃ p vs,v= .ref p/\SqT K H p vs/\Va K H ds vs:=by simpa [Is] using h
theorem JY {ds:List D} {v:V} (h:Is K H (.lst ds) v): ∃ p vs,v= .ref p/\SqL K H p vs/\Va K H ds vs:=by simpa [Is] using h
theorem Uj {a b:List Str} (h:a.map D.str=b.map D.str):a=b:=by
 have:=WE (List.map λd=>match d with | D.str x=>x | _=>⟨#[]⟩) h;simpa [Qx,QZ] using this
theorem Qee {fz:Bool} {ss:List Str} {ds:List D} {v:V} (h:Is K H (.dct fz (ss.map .str) ds) v): ∃ p vs,v= .ref p/\DkAt fz H p ss vs/\Va K H ds vs:=by
 rw [Is] at h;obtain ⟨p,ss',vs,e,hk,q,r⟩:=h;rw [Uj hk];exact ⟨p,vs,e,q,r⟩
theorem Qkr {fz:Bool} {ks:List D} {ds:List D} {v:V} (h:Is K H (.dct fz ks ds) v): ∃ p Ku,v= .ref p/\Rd H p (.dK Ku):=by
 rw [Is] at h;obtain ⟨p,ss',vs,e,hk,q,r⟩:=h;exact ⟨p,_,e,q.rd⟩
theorem Qy8 {fz:Bool} {ks:List Str} {ds:List D} {p:Addr} {vs:List V} (h:DkAt fz H p ks vs) (a:Va K H ds vs):Is K H (.dct fz (ks.map .str) ds) (.ref p):=by rw [Is];exact ⟨p,ks,vs,rfl,rfl,h,a⟩
theorem Qed {fz:Bool} {hs:List Int} {ks ds:List D} {v:V} (h:Is K H (.oth (.dcx fz hs) ks ds) v): ∃ p as vs,v= .ref p/\DxAt fz H p hs as vs/\ks.Nodup/\Va K H ks (as.map .ref)/\Va K H ds vs:=by rw [Is] at h;exact h
theorem Qii {fz:Bool} {hs:List Int} {ks ds:List D} {p:Addr} {as:List Addr} {vs:List V} (h:DxAt fz H p hs as vs) (hn:ks.Nodup) (hk:Va K H ks (as.map .ref)) (a:Va K H ds vs):Is K H (.oth (.dcx fz hs) ks ds) (.ref p):=by rw [Is];exact ⟨p,as,vs,rfl,h,hn,hk,a⟩
theorem Qqz {C:Nat} {ss:List Str} {ds:List D} {v:V} (h:Is K H (.oth (.obj C) (ss.map .str) ds) v): ∃ p dx vs o,v= .ref p/\ss.length=vs.length/\H p=some (.frz o (.ins C dx (ss.zip vs)))/\Va K H ds vs:=by
 rw [Is] at h;obtain ⟨p,dx,ss',vs,o,e,hk,q⟩:=h;rw [Uj hk];exact ⟨p,dx,vs,o,e,q⟩
theorem Qy6 {C:Nat} {ss:List Str} {ds:List D} {p dx:Addr} {vs:List V} {o:Obj} (h:H p=some (.frz o (.ins C dx (ss.zip vs)))) (hl:ss.length=vs.length) (a:Va K H ds vs):Is K H (.oth (.obj C) (ss.map .str) ds) (.ref p):=by
 rw [Is];exact ⟨p,dx,ss,vs,o,rfl,rfl,hl,h,a⟩
theorem Qr0 {ds:List D} {v:V} (h:Is K H (.oth .fls [] ds) v): ∃ p vs o,v= .ref p/\H p=some (.frz o (.lst vs))/\Va K H ds vs:=by
 rw [Is] at h;obtain ⟨p,vs,o,e,_,q⟩:=h;exact ⟨p,vs,o,e,q⟩
theorem Qih {ds:List D} {p:Addr} {vs:List V} {o:Obj} (h:H p=some (.frz o (.lst vs))) (a:Va K H ds vs):Is K H (.oth .fls [] ds) (.ref p):=by
 rw [Is];exact ⟨p,vs,o,rfl,rfl,h,a⟩
theorem Qyi {t:Oth} {ks ds:List D} {v:V} (h:Is K H (.oth t ks ds) v): ∃ p u,v= .ref p/\H p=some u:=by
 cases t with
 | dcx fz hs =>
  obtain ⟨p,as,vs,rfl,q,_⟩:=Qed h;rcases q.rd with q | ⟨o,q⟩
  ·exact ⟨p,_,rfl,q⟩
  ·exact ⟨p,_,rfl,q⟩
 | obj C =>
  rw [Is] at h;obtain ⟨p,dx,ss,vs,o,rfl,_,_,q,_⟩:=h;exact ⟨p,_,rfl,q⟩
 | fls =>
  rw [Is] at h;obtain ⟨p,vs,o,rfl,_,q,_⟩:=h;exact ⟨p,_,rfl,q⟩
theorem ZH (i:Int):Is K H (.int i) (.int i):=by simp [Is]
theorem Zz (i:Bool):Is K H (.bl i) (.bl i):=by simp [Is]
theorem ZG (i:Str):Is K H (.str i) (.str i):=by simp [Is]
theorem Qy7:Is K H .non .non:=by simp [Is]
theorem Qe7 {ds:List D} {p:Addr} {vs:List V} (h:SqT K H p vs) (a:Va K H ds vs):Is K H (.tup ds) (.ref p):=by rw [Is];exact ⟨p,vs,rfl,h,a⟩
theorem Qab {ds:List D} {p:Addr} {vs:List V} (h:SqL K H p vs) (a:Va K H ds vs):Is K H (.lst ds) (.ref p):=by rw [Is];exact ⟨p,vs,rfl,h,a⟩
theorem QR:Va K H [] []:=by simp [Va]
theorem Vg {d:D} {ds:List D} {v:V} {vs:List V} (h:Is K H d v) (t:Va K H ds vs):Va K H (d::ds) (v::vs):=by rw [Va];exact ⟨v,vs,rfl,h,t⟩
theorem Va.length: ∀ {ds:List D} {vs:List V},Va K H ds vs->ds.length=vs.length
 | [],_,h=>by rw [Va] at h;subst h;rfl
 | d::ds,vs,h=>by
  rw [Va] at h;obtain ⟨v,r,e,_,t⟩:=h;subst e;simp [Va.length t]
theorem Va.get: ∀ {ds:List D} {vs:List V} {i:Nat} {d:D},Va K H ds vs->ds[i]? =some d-> ∃ v,vs[i]? =some v/\Is K H d v
 | [],_,_,_,_,e=>by simp at e
 | d::ds,vs,0,d',h,e=>by
  rw [Va] at h;obtain ⟨v,r,e',q,_⟩:=h;subst e';have:d=d':=by simpa using e
  subst this;exact ⟨v,by simp,q⟩
 | d::ds,vs,i+1,d',h,e=>by
  rw [Va] at h;obtain ⟨v,r,e',q,t⟩:=h;subst e';obtain ⟨u,e1,e2⟩:=Va.get (i:=i) t (by simpa using e);exact ⟨u,by simpa using e1,e2⟩
theorem Va.at {ds:List D} {vs:List V} {i:Nat} {v:V} (h:Va K H ds vs) (e:vs[i]? =some v): ∃ d,ds[i]? =some d/\Is K H d v:=by
 have hl:=h.length;have hi:i < ds.length:=by rw [hl];exact (Q4.mp e).1
 obtain ⟨u,e1,e2⟩:=h.get (i:=i) (d:=ds[i]) (by simp [hi]);rw [e] at e1;cases e1;exact ⟨_,by simp [hi],e2⟩
theorem Va.append: ∀ {ds es:List D} {vs us:List V},Va K H ds vs->Va K H es us->Va K H (ds++es) (vs++us)
 | [],_,_,_,h,t=>by rw [Va] at h;subst h;exact t
 | d::ds,_,vs,_,h,t=>by
  rw [Va] at h;obtain ⟨v,r,e,q,t'⟩:=h;subst e;exact Vg q (Va.append t' t)
theorem Va.drop: ∀ {ds:List D} {vs:List V} (n:Nat),Va K H ds vs->Va K H (ds.drop n) (vs.drop n)
 | _,_,0,h=>h
 | [],_,n+1,h=>by rw [Va] at h;subst h;simpa using QR
 | d::ds,vs,n+1,h=>by
  rw [Va] at h;obtain ⟨v,r,e,q,t⟩:=h;subst e;exact Va.drop n t
theorem Va.take: ∀ {ds:List D} {vs:List V} (n:Nat),Va K H ds vs->Va K H (ds.take n) (vs.take n)
 | _,_,0,_=>by simpa using QR
 | [],_,n+1,h=>by rw [Va] at h;subst h;simpa using QR
 | d::ds,vs,n+1,h=>by
  rw [Va] at h;obtain ⟨v,r,e,q,t⟩:=h;subst e;exact Vg q (Va.take n t)
theorem Va.one {d:D} {vs:List V} (h:Va K H [d] vs): ∃ v,vs=[v]/\Is K H d v:=by
 rw [Va] at h;obtain ⟨v,r,e,q,t⟩:=h;rw [Va] at t;subst t;exact ⟨v,e,q⟩
theorem Va.two {d d':D} {vs:List V} (h:Va K H [d,d'] vs): ∃ v v',vs=[v,v']/\Is K H d v/\Is K H d' v':=by
 rw [Va] at h;obtain ⟨v,r,e,q,t⟩:=h;obtain ⟨v',e',q'⟩:=t.one;subst e';exact ⟨v,v',e,q,q'⟩
def EnvIs (K:W.Frag) (H:Hp) (σ:St) (ρ:List (Option D)):Prop:=σ.length=ρ.length/\ ∀ (i:Nat) (d:D),ρ[i]? =some (some d)-> ∃ v,σ[i]? =some (some v)/\Is K H d v
theorem EnvIs.same {σ:St} {ρ:List (Option D)} (h:EnvIs K H σ ρ) (s:Same H H'):EnvIs K H' σ ρ:=⟨h.1,λi d e=>let ⟨v,e1,e2⟩:=h.2 i d e;⟨v,e1,e2.same s⟩⟩
theorem EnvIs.cons {σ:St} {ρ:List (Option D)} {v:V} {d:D} (h:EnvIs K H σ ρ) (q:Is K H d v):EnvIs K H (some v::σ) (some d::ρ) :=
 ⟨by simp [h.1],λi e z=>by
  cases i with
  | zero =>
   have:d=e:=by simpa using z
   subst this;exact ⟨v,by simp,q⟩
  | succ i =>
   obtain ⟨u,e1,e2⟩:=h.2 i e (by simpa using z);exact ⟨u,by simpa using e1,e2⟩⟩
theorem EnvIs.set {σ:St} {ρ:List (Option D)} {v:V} {d:D} (h:EnvIs K H σ ρ) (i:Nat) (q:Is K H d v):EnvIs K H (σ.set i (some v)) (ρ.set i (some d)) :=
 ⟨by simp [h.1],λj e z=>by
  by_cases hj:i=j
  ·subst hj
   by_cases hi:i < ρ.length
   ·rw [Qm hi] at z;have:d=e:=by simpa using z
    subst this;exact ⟨v,by rw [Qm (by rw [h.1];exact hi)],q⟩
   ·rw [Jn (by simpa using hi)] at z;cases z
  ·rw [Qh hj] at z ⊢;exact h.2 j e z⟩
end
def rdD (K:W.Frag) (ρ:List (Option D)) (d:D):TE:=λσ H Q=>EnvIs K H σ ρ/\ ∀ v H',Same H H'->Is K H' d v->Q v H'
structure PD (X:Cx) (ρ:List (Option D)) (e:Expr) (d:D):Prop where
 pe:PE X e (rdD X.K ρ d)
def Qzp (K:W.Frag) (ρ:List (Option D)) (ds:List D):TA:=λσ H Q=>EnvIs K H σ ρ/\ ∀ vs H',Same H H'->Va K H' ds vs->Q vs H'
structure PDs (X:Cx) (ρ:List (Option D)) (es:List Expr) (ds:List D):Prop where
 pe:PA X es (Qzp X.K ρ ds)
def rdB (K:W.Frag) (ρ:List (Option D)) (b:Bool):TT:=λσ H Q=>EnvIs K H σ ρ/\ ∀ H',Same H H'->Q b H'
structure PB (X:Cx) (ρ:List (Option D)) (e:Expr) (b:Bool):Prop where
 pe:PT X e (rdB X.K ρ b)
structure PWB (X:Cx) (ρ:List (Option D)) (e:Expr) (b:Bool):Prop where
 pe:PW X e (rdB X.K ρ b)
theorem PE.imp {X:Cx} {e:Expr} {t t':TE} (h:PE X e t) (w: ∀ σ H Q,t' σ H Q->t σ H Q):PE X e t':=λKz s σ H Q I q=>h Kz s σ H Q I (w σ H Q q)
theorem PT.imp {X:Cx} {e:Expr} {t t':TT} (h:PT X e t) (w: ∀ σ H Q,t' σ H Q->t σ H Q):PT X e t':=λKz s σ H Q I q=>h Kz s σ H Q I (w σ H Q q)
theorem PW.imp {X:Cx} {e:Expr} {t t':TT} (h:PW X e t) (w: ∀ σ H Q,t' σ H Q->t σ H Q):PW X e t':=λwh Kz s σ H Q I q=>h wh Kz s σ H Q I (w σ H Q q)
theorem PA.imp {X:Cx} {es:List Expr} {t t':TA} (h:PA X es t) (w: ∀ σ H Q,t' σ H Q->t σ H Q):PA X es t':=λpos Kz s σ H Q I q=>h pos Kz s σ H Q I (w σ H Q q)
theorem PSs.imp {X:Cx} {b:List Stmt} {t t':TS} (h:PSs X b t) (w: ∀ D σ H,t' D σ H->t D σ H):PSs X b t':=λKz s σ H D I q=>h Kz s σ H D I (w D σ H q)
theorem PS.imp {X:Cx} {b:Stmt} {t t':TS} (h:PS X b t) (w: ∀ D σ H,t' D σ H->t D σ H):PS X b t':=λKz s σ H D I q=>h Kz s σ H D I (w D σ H q)
section
variable {X:Cx} {ρ:List (Option D)} {a b c e:Expr} {es:List Expr} {d da db dc:D} {ds:List D} {pos:Pos}
theorem ZA {t:TE} (h:PE X e t) (w: ∀ σ H Q,EnvIs X.K H σ ρ->(∀ v H',Same H H'->Is X.K H' d v->Q v H')->t σ H Q):PD X ρ e d:=⟨h.imp λσ H Q q=>w σ H Q q.1 q.2⟩
theorem Vv (i:Nat) {x:Str} (hd:ρ[i]? =some (some d)) (hN:X.N[i]? =some x:=by rfl) (hv:Vis X.env.scope x:=by first | exact QJ rfl | exact QD (QJ rfl) | exact QD (QD rfl)) (hdb:(x == ("__debug__" :Str))=false:=by decide)
  (hcd:(x == ("__classdict__" :Str))=false:=by decide):PD X ρ (.Name x pos) d :=
 ZA (Wr hN hv hdb hcd) λσ H Q he q=>let ⟨v,e1,e2⟩:=he.2 i d hd;⟨v,e1,q v H (Same.refl H) e2⟩
theorem Vi {i j}:PD X ρ (.Constant (.int i) j pos) (.int i):=ZA Qxn λσ H Q he q=>q _ H (Same.refl H) (ZH i)
theorem Qz1 {i j}:PD X ρ (.Constant (.bool i) j pos) (.bl i):=ZA Qvw λσ H Q he q=>q _ H (Same.refl H) (Zz i)
theorem Vt {i j}:PD X ρ (.Constant (.str i) j pos) (.str i):=ZA Qxk λσ H Q he q=>q _ H (Same.refl H) (ZG i)
theorem Qrn {j}:PD X ρ (.Constant .none j pos) .non:=ZA Qxm λσ H Q he q=>q _ H (Same.refl H) Qy7
theorem Vn:PDs X ρ [] []:=⟨Z8.imp λσ H Q q=>q.2 [] H (Same.refl H) QR⟩
theorem Vc (h:PD X ρ e d) (t:PDs X ρ es ds) (hs:starEach (e::es) X.env=(false,eval e X.env)::starEach es X.env:=by rfl):PDs X ρ (e::es) (d::ds) :=
 ⟨(Ws h.pe t.pe hs).imp λσ H Q q=>⟨q.1,λv H1 s1 i1=>⟨q.1.same s1,λvs H2 s2 i2=>q.2 (v::vs) H2 (s1.trans s2) (Vg (i1.same s2) i2)⟩⟩⟩
theorem Vp {k} (h:PDs X ρ es ds) (hz:ds.length<=sizeLine):PD X ρ (.Tuple es k pos) (.tup ds) :=
 ZA (Qxj h.pe) λσ H Q he q=>⟨he,λvs H1 s1 i1=>⟨by rw [<- i1.length];exact hz,λp hp=>q _ _ (s1.trans (Same.upd hp)) (Qe7 (SqT.of Vu) (i1.same (Same.upd hp)))⟩⟩
def OpD (X:Cx) (r:R2) (da db d:D):Prop:= ∀ H x y Q,Is X.K H da x->Is X.K H db y->(∀ v H',Same H H'->Is X.K H' d v->Q v H')->r x y H Q
theorem Qvc {op:Operator} {r:R2} (ho:OpR X (binaryOp op) r) (ha:PD X ρ a da) (hb:PD X ρ b db) (w:OpD X r da db d):PD X ρ (.BinOp a op b pos) d :=
 ZA (Qvv ho ha.pe hb.pe) λσ H Q he q=>⟨he,λv H1 s1 i1=>⟨he.same s1,λu H2 s2 i2=>w H2 v u Q (i1.same s2) i2 λz H3 s3 i3=>q z H3 ((s1.trans s2).trans s3) i3⟩⟩
theorem Qrr {op:CmpOp} {r:R2} (ho:OpR X (compareOp op) r) (ha:PD X ρ a da) (hb:PD X ρ b db) (w:OpD X r da db d) (hm:behindInMarks op b=false:=by rfl):PD X ρ (.Compare a [op] [b] pos) d :=
 ZA (Qtx ho ha.pe hb.pe hm) λσ H Q he q=>⟨he,λv H1 s1 i1=>⟨he.same s1,λu H2 s2 i2=>w H2 v u Q (i1.same s2) i2 λz H3 s3 i3=>q z H3 ((s1.trans s2).trans s3) i3⟩⟩
theorem Ua {op:CmpOp} {r:R2} {k:Bool} (ho:OpR X (compareOp op) r) (ha:PD X ρ a da) (hb:PD X ρ b db) (w:OpD X r da db (.bl k)) (hm:behindInMarks op b=false:=by rfl):PB X ρ (.Compare a [op] [b] pos) k :=
 ⟨(Qtj ho ha.pe hb.pe hm).imp λσ H Q q=>⟨q.1,λv H1 s1 i1=>⟨q.1.same s1,λu H2 s2 i2=>w H2 v u _ (i1.same s2) i2 λz H3 s3 i3=>⟨k,B6 i3,q.2 H3 ((s1.trans s2).trans s3)⟩⟩⟩⟩
theorem Qki {g:Int->Int->V} {i j:Int} (h: ∀ H,Is X.K H d (g i j)):OpD X (rI0 g) (.int i) (.int j) d:=λH x y Q hx hy q=>⟨i,j,ZI hx,ZI hy,q _ H (Same.refl H) (h H)⟩
theorem Ja0 {C:Int->Int->Prop} {g:Int->Int->V} {i j:Int} (hc:C i j) (h: ∀ H,Is X.K H d (g i j)):OpD X (rI C g) (.int i) (.int j) d:=λH x y Q hx hy q=>⟨i,j,ZI hx,ZI hy,hc,q _ H (Same.refl H) (h H)⟩
theorem ZQ {i j:Int} (ha:PD X ρ a (.int i)) (hb:PD X ρ b (.int j)):PD X ρ (.BinOp a .Add b pos) (.int (i+j)):=Qvc Qxu ha hb (Qki λ_=>ZH _)
theorem O4 {i j:Int} (ha:PD X ρ a (.int i)) (hb:PD X ρ b (.int j)) (hc:CMul i j):PD X ρ (.BinOp a .Mult b pos) (.int (i * j)):=Qvc Qxq ha hb (Ja0 hc λ_=>ZH _)
theorem Ql5 {i j:Int} (ha:PD X ρ a (.int i)) (hb:PD X ρ b (.int j)) (hc:0 < j):PD X ρ (.BinOp a .Mod b pos) (.int (i % j)):=Qvc Qxr ha hb (Ja0 hc λ_=>ZH _)
theorem Jbe {i j:Int} (ha:PD X ρ a (.int i)) (hb:PD X ρ b (.int j)):PD X ρ (.Compare a [.Gt] [b] pos) (.bl (decide (j < i))):=Qrr Qvx ha hb (Qki λ_=>Zz _) (nomark _)
theorem Qsb {i j:Int} (ha:PD X ρ a (.int i)) (hb:PD X ρ b (.int j)):PB X ρ (.Compare a [.Lt] [b] pos) (decide (i < j)):=Ua Qzy ha hb (Qki λ_=>Zz _) (nomark _)
theorem Jat {i j:Int} (ha:PD X ρ a (.int i)) (hb:PD X ρ b (.int j)):PB X ρ (.Compare a [.Gt] [b] pos) (decide (j < i)):=Ua Qvx ha hb (Qki λ_=>Zz _) (nomark _)
def dV:D->Option V
 | .non=>some .non
 | .bl b=>some (.bl b)
 | .int i=>some (.int i)
 | .str x=>some (.str x)
 | _=>none
theorem Qks {K:W.Frag} {H:Hp} {d:D} {v x:V} (h:dV d=some v) (i:Is K H d x):x=v:=by
 cases d<;>simp [dV,Is] at h i<;>first | (subst h;exact i) | cases h
theorem Qpu {x y:V} (hx:dV da=some x) (hy:dV db=some y) (hs:scal x y=true):OpD X rEq da db (.bl (decide (x=y))):=λH x' y' Q ix iy q=>by
 cases Qks hx ix;cases Qks hy iy;exact ⟨hs,q _ H (Same.refl H) (Zz _)⟩
theorem Qpr {x y:V} (hx:dV da=some x) (hy:dV db=some y) (hs:scal x y=true):OpD X rNe da db (.bl (!decide (x=y))):=λH x' y' Q ix iy q=>by
 cases Qks hx ix;cases Qks hy iy;exact ⟨hs,q _ H (Same.refl H) (Zz _)⟩
theorem Qw7 {i j:Int} (ha:PD X ρ a (.int i)) (hb:PD X ρ b (.int j)):PD X ρ (.Compare a [.Eq] [b] pos) (.bl (decide (i=j))):=by
 have:=Qrr (pos:=pos) Qph ha hb (Qpu rfl rfl rfl) (nomark _);simpa using this
theorem Qd4 {i j:Int} (ha:PD X ρ a (.int i)) (hb:PD X ρ b (.int j)):PB X ρ (.Compare a [.Eq] [b] pos) (decide (i=j)):=by
 have:=Ua (pos:=pos) Qph ha hb (Qpu rfl rfl rfl) (nomark _);simpa using this
theorem Jav {i j:Str} (ha:PD X ρ a (.str i)) (hb:PD X ρ b (.str j)):PB X ρ (.Compare a [.Eq] [b] pos) (decide (i=j)):=by
 have:=Ua (pos:=pos) Qph ha hb (Qpu rfl rfl rfl) (nomark _);simpa using this
theorem Bh {k:Bool} (h:PD X ρ e (.bl k)) (he: ∀ whole,isTrue e X.env whole=(do let v<-whole;standAt e.pos;holding [v] (truthy v)):=by intro _;rfl):PB X ρ e k :=
 ⟨(Qxd h.pe he).imp λσ H Q q=>⟨q.1,λv H1 s1 i1=>⟨k,B6 i1,q.2 H1 s1⟩⟩⟩
theorem Qrt {k:Bool} {rest:List Expr} (ha:PD X ρ a (.bl k)) (hb:k=true->PD X ρ (.BoolOp .And (b::rest) pos) d) (hf:k=false->d= .bl false):PD X ρ (.BoolOp .And (a::b::rest) pos) d:=by
 cases k with
 | false =>
  have:=hf rfl;subst this;have hb':PE X (.BoolOp .And (b::rest) pos) (λ_ _ _=>False):=λ_ _ _ _ _ _ f=>f.elim
  exact ZA (Qpd ha.pe hb') λσ H Q he q=>⟨he,λv H1 s1 i1=>⟨false,B6 i1,Qqy (q _ H1 s1 (Zz _))⟩⟩
 | true =>
  exact ZA (Qpd ha.pe (hb rfl).pe) λσ H Q he q=>⟨he,λv H1 s1 i1=>⟨true,B6 i1,Qmw (⟨he.same s1,λu H2 s2 i2=>q u H2 (s1.trans s2) i2⟩)⟩⟩
theorem Jal {op} (h:PD X ρ a d):PD X ρ (.BoolOp op [a] pos) d:=⟨Qxl h.pe⟩
theorem Qes {k:Bool} (ha:PB X ρ a k):PWB X ρ (.BoolOp .And [a] pos) k:=⟨Qth ha.pe⟩
theorem Qwb {k k':Bool} {rest:List Expr} (ha:PB X ρ a k) (hb:k=true->PWB X ρ (.BoolOp .And (b::rest) pos) k') (hf:k=false->k'=false):PWB X ρ (.BoolOp .And (a::b::rest) pos) k':=by
 cases k with
 | false =>
  have:=hf rfl;subst this;have hb':PW X (.BoolOp .And (b::rest) pos) (λ_ _ _=>False):=λ_ _ _ _ _ _ _ f=>f.elim
  exact ⟨(Qov ha.pe hb').imp λσ H Q q=>⟨q.1,λH1 s1=>Qqy (q.2 H1 s1)⟩⟩
 | true =>
  exact ⟨(Qov ha.pe (hb rfl).pe).imp λσ H Q q=>⟨q.1,λH1 s1=>Qmw (⟨q.1.same s1,λH2 s2=>q.2 H2 (s1.trans s2)⟩)⟩⟩
theorem Qs9 {k:Bool} (ha:PB X ρ a k):PWB X ρ (.BoolOp .Or [a] pos) k:=⟨Qxc ha.pe⟩
theorem Qvg {k k':Bool} {rest:List Expr} (ha:PB X ρ a k) (hb:k=false->PWB X ρ (.BoolOp .Or (b::rest) pos) k') (hf:k=true->k'=true):PWB X ρ (.BoolOp .Or (a::b::rest) pos) k':=by
 cases k with
 | true =>
  have:=hf rfl;subst this;have hb':PW X (.BoolOp .Or (b::rest) pos) (λ_ _ _=>False):=λ_ _ _ _ _ _ _ f=>f.elim
  exact ⟨(Qvt ha.pe hb').imp λσ H Q q=>⟨q.1,λH1 s1=>Qmw (q.2 H1 s1)⟩⟩
 | false =>
  exact ⟨(Qvt ha.pe (hb rfl).pe).imp λσ H Q q=>⟨q.1,λH1 s1=>Qqy (⟨q.1.same s1,λH2 s2=>q.2 H2 (s1.trans s2)⟩)⟩⟩
theorem Qjd {k:Bool} (h:PWB X ρ e k):PB X ρ e k:=⟨h.pe.pt⟩
theorem Qd3 {k:Bool} (h:PB X ρ a k):PB X ρ (.UnaryOp .Not a pos) (!k):=⟨(Qxe h.pe).imp λσ H Q q=>⟨q.1,λH1 s1=>q.2 H1 s1⟩⟩
def spD (K:W.Frag) (n:Nat) (R:List D->D->Prop):Sp:=λvs H Q _=>vs.length=n/\ ∃ ds d,Va K H ds vs/\R ds d/\ ∀ v H',Same H H'->Is K H' d v->Q v H'
theorem Qz0 {k n:Nat} {f:Addr} {fd:FuncData} {ps:List Str} {R:List D->D->Prop} {x:Str} {p:Pos} (F:FnOk X.prog X.w X.K X.mg X.base CX0 k f fd ps (spD X.K n R)) (hr:Room k X.A) (hm:X.mg x=some (.ref f)) (hk:W.keepIn X.K (.ref f)=true)
  (hb:Binds X.K fd ps []) (ha:PDs X ρ (e::es) ds) (hn:ds.length=n) (hR:R ds d) (hg:Gl X x:=by rfl) (hdb:(x == ("__debug__" :Str))=false:=by decide)
  (he:starEach (e::es) X.env=(false,eval e X.env)::starEach es X.env:=by rfl) (hpl:(backTo pos (starEach es X.env)).any (·.1)=false:=by rfl):PD X ρ (.Call (.Name x p) (e::es) [] pos) d :=
 ZA (Qkf F hr hg hm hk hb .nil pass0 ha.pe hdb he hpl) λσ H Q he q=>⟨he,λvs H1 s1 i1=>by
  show spD X.K n R (vs++[]) H1 Q _;rw [JS];exact ⟨by rw [<- i1.length];exact hn,ds,d,i1,hR,λv H2 s2 i2=>q v H2 (s1.trans s2) i2⟩⟩
theorem Ql7 {x:Str} {id:String} {r:List V->Hp->VK->Prop} {p:Pos} (hc:CallR X (.builtin id) r) (hm:X.mg x=none) (hv:bootBuiltins x=some (.builtin id)) (ha:PDs X ρ (e::es) ds)
  (w: ∀ H vs Q,Va X.K H ds vs->(∀ v H',Same H H'->Is X.K H' d v->Q v H')->r vs H Q) (hg:Gl X x:=by rfl) (hn:x≠ "__name__" :=by decide) (hdb:(x == ("__debug__" :Str))=false:=by decide)
  (he:starEach (e::es) X.env=(false,eval e X.env)::starEach es X.env:=by rfl) (hpl:(backTo pos (starEach es X.env)).any (·.1)=false:=by rfl):PD X ρ (.Call (.Name x p) (e::es) [] pos) d :=
 ZA (Qa4 hc hg hm hv ha.pe hn hdb he hpl) λσ H Q he q=>⟨he,λvs H1 s1 i1=>w H1 vs Q i1 λv H2 s2 i2=>q v H2 (s1.trans s2) i2⟩
theorem Ql6 {x:Str} {T:String} {r:List V->Hp->VK->Prop} {p:Pos} (hc:CallR X (.type T) r) (hm:X.mg x=none) (hv:bootBuiltins x=some (.type T)) (ha:PDs X ρ (e::es) ds)
  (w: ∀ H vs Q,Va X.K H ds vs->(∀ v H',Same H H'->Is X.K H' d v->Q v H')->r vs H Q) (hg:Gl X x:=by rfl) (hn:x≠ "__name__" :=by decide) (hdb:(x == ("__debug__" :Str))=false:=by decide)
  (he:starEach (e::es) X.env=(false,eval e X.env)::starEach es X.env:=by rfl) (hpl:(backTo pos (starEach es X.env)).any (·.1)=false:=by rfl):PD X ρ (.Call (.Name x p) (e::es) [] pos) d :=
 ZA (YE hc hg hm hv ha.pe hn hdb he hpl) λσ H Q he q=>⟨he,λvs H1 s1 i1=>w H1 vs Q i1 λv H2 s2 i2=>q v H2 (s1.trans s2) i2⟩
def BP:D->Option Nat
 | .str x=>some x.length
 | .tup ds=>some ds.length
 | .lst ds=>some ds.length
 | _=>none
theorem YK {n:Nat} {p:Pos} (hm:X.mg "len" =none) (ha:PD X ρ e d) (hd:BP d=some n) (hz: ∀ x,d= .str x->x.length<=sizeLine) (hg:Gl X "len" :=by rfl) (hs:starEach [e] X.env=[(false,eval e X.env)]:=by rfl):PD X ρ (.Call (.Name "len" p) [e] [] pos) (.int n) :=
 Ql7 Qs2 hm PySem.boot_len (Vc ha Vn hs) (λH vs Q ia q=>by
  obtain ⟨v,rfl,i⟩:=ia.one;refine ⟨v,n,rfl,?_,q _ H (Same.refl H) (ZH _)⟩;cases d with
  | str x =>
   have:=JC i;subst this;have:x.length=n:=by simpa [BP] using hd
   exact ⟨hz x rfl,this.symm⟩
  | tup ds =>
   obtain ⟨p,ws,rfl,q',r⟩:=JB i;have:ds.length=n:=by simpa [BP] using hd
   exact .inr ⟨ws,q',by rw [<- this,r.length]⟩
  | lst ds =>
   obtain ⟨p,ws,rfl,q',r⟩:=JY i;have:ds.length=n:=by simpa [BP] using hd
   exact .inl ⟨ws,q',by rw [<- this,r.length]⟩
  | _=>simp [BP] at hd) hg (by decide) (by decide) hs rfl
def dAt:D->Int->Option D
 | .str x,i=>(atI x.cps.toList i).map λc=> .str ⟨#[c]⟩
 | .tup ds,i=>atI ds i
 | .lst ds,i=>atI ds i
 | _,_=>none
theorem Va.atI {K:W.Frag} {H:Hp} {ds:List D} {vs:List V} {i:Int} {d:D} (h:Va K H ds vs) (e:L2.atI ds i=some d): ∃ v,L2.atI vs i=some v/\Is K H d v:=by
 unfold L2.atI at e ⊢;rw [<- h.length];cases q:ixN ds.length i with
 | none=>rw [q] at e;cases e
 | some j =>
  rw [q] at e;exact h.get e
theorem Jf {i:Int} (ha:PD X ρ a da) (hb:PD X ρ b (.int i)) (hd:dAt da i=some d) (hz: ∀ x,da= .str x->x.length<=sizeLine:=by intro x e;cases e) (hs:PlainIx b:=by intro _ _;rfl):PD X ρ (.Subscript a b pos) d :=
 ZA (Qzx Qyh ha.pe hb.pe hs) λσ H Q he q=>⟨he,λv H1 s1 i1=>⟨he.same s1,λu H2 s2 i2=>by
  have ia:=i1.same s2;have e:=ZI i2;subst e;cases da with
  | str x =>
   have e:=JC ia;subst e;simp only [dAt] at hd;cases hc:L2.atI x.cps.toList i with
   | none=>rw [hc] at hd;cases hd
   | some c =>
    rw [hc] at hd;cases hd;exact .inr (.inr ⟨x,i,c,rfl,rfl,hz x rfl,hc,q _ H2 (s1.trans s2) (ZG _)⟩)
  | tup ds =>
   obtain ⟨p,vs,rfl,hq,r⟩:=JB ia;obtain ⟨z,e1,e2⟩:=r.atI hd;exact .inr (.inl ⟨p,vs,i,z,rfl,rfl,hq,e1,q z H2 (s1.trans s2) e2⟩)
  | lst ds =>
   obtain ⟨p,vs,rfl,hq,r⟩:=JY ia;obtain ⟨z,e1,e2⟩:=r.atI hd;exact .inl ⟨p,vs,i,z,rfl,rfl,hq,e1,q z H2 (s1.trans s2) e2⟩
  | _=>simp [dAt] at hd⟩⟩
def tyD:D->String
 | .non=> "NoneType"
 | .bl _=> "bool"
 | .int _=> "int"
 | .str _=> "str"
 | .tup _=> "tuple"
 | .lst _=> "list"
 | .dct _ _ _=> "dict"
 | .oth (.dcx _ _) _ _=> "dict"
 | .oth .fls _ _=> "list"
 | .oth (.obj _) _ _=> "list"
def Jaa:D->Bool
 | .oth (.obj _) _ _=>true
 | _=>false
theorem Qgs:CallR X (.builtin "isinstance") (λvs H Q=> ∃ d x c k,vs=[x,.ty c]/\Jaa d=false/\Is X.K H d x/\W.kitOne X.K (.type (tyD d)) (.type c)=some k/\Q (.bl k) H):=by
 intro Kz s σ H xs us Q I r h;obtain ⟨d,x,c,k,rfl,hob,i,e,q⟩:=h;obtain ⟨u,u',rfl,rx,rc⟩:=r.two;cases (show u'=Value.type c from rc);have Kj: ∀ tk,EP X Kz σ Q (.bool k) { s with toks:=tk }:=λtk=>⟨.bl k,H,I.tok _,rfl,q⟩
 cases d with
 | non=>cases Qip i;cases (show u=Value.none from rx);exact W.kia_one W.kitx_none I.kIn QE e (λz=>nomatch z) Kj
 | bl y=>cases B6 i;cases (show u=Value.bool y from rx);exact W.kia_one W.kitx_bool I.kIn QE e (λz=>nomatch z) Kj
 | int y=>cases ZI i;obtain ⟨t,z⟩:=(show ∃ t,u=Value.int y t from rx);cases z;exact W.kia_one W.kitx_int I.kIn QE e (λz=>nomatch z) Kj
 | str y=>cases JC i;obtain ⟨t,z⟩:=(show ∃ t,u=Value.str y t from rx);cases z;exact W.kia_one W.kitx_str I.kIn QE e (λz=>nomatch z) Kj
 | tup ds =>
  obtain ⟨p,vs,rfl,hq,_⟩:=JB i;cases (show u=Value.ref p from rx);obtain ⟨Kv,_,⟨o,h1,h2,_⟩,_⟩:=I.tuple hq;exact W.kia_one W.kitx_tuple I.kIn ⟨o,h1,h2⟩ e (λz=>nomatch z) Kj
 | lst ds =>
  obtain ⟨p,vs,rfl,hq,_⟩:=JY i;cases (show u=Value.ref p from rx);obtain ⟨Kv,_,pl,_⟩:=I.list hq;obtain ⟨o,h1,h2,_⟩:=pl.isList;exact W.kia_one W.kitx_list I.kIn ⟨o,h1,h2⟩ e (λz=>nomatch z) Kj
 | dct fz ks ds =>
  obtain ⟨p,Ku,rfl,hq⟩:=Qkr i;cases (show u=Value.ref p from rx);obtain ⟨_,_,ws,_,dd⟩:=(show ObjOk X.prog X.w H s.heap p (.dK Ku) from hq.ok I.hok);exact W.kia_one W.kitx_dict I.kIn dd.typeIs e (λz=>nomatch z) Kj
 | oth t ks ds =>
  cases t with
  | obj C=>cases hob
  | fls =>
   obtain ⟨p,vs,o,rfl,hk,hq,_⟩:=(show ∃ p vs o,x= .ref p/\ks=[]/\H p=some (.frz o (.lst vs))/\Va X.K H ds vs by rw [Is] at i;exact i);cases (show u=Value.ref p from rx);obtain ⟨_,_,Kv,n,_,h1⟩:=(show ObjOk X.prog X.w H s.heap p (.frz o (.lst vs)) from I.hok p _ hq);exact W.kia_one W.kitx_list I.kIn ⟨_,h1,rfl⟩ e (λz=>nomatch z) Kj
  | dcx fz hs =>
   obtain ⟨p,as,vs,rfl,hq,_⟩:=Qed i;cases (show u=Value.ref p from rx);obtain ⟨⟨_,_,_,_,o,es,ep,us,h1,hc,_⟩,_⟩:=(show ObjOk X.prog X.w H s.heap p (DxO p hs as vs) from hq.rd.ok I.hok);exact W.kia_one W.kitx_dict I.kIn ⟨o,h1,hc.1⟩ e (λz=>nomatch z) Kj
theorem Qro {T:Str} {c:String} {k:Bool} {p p':Pos} (hm:X.mg "isinstance" =none) (hT:X.mg T=none) (hv:bootBuiltins T=some (.type c)) (ha:PD X ρ e d) (hk:W.kitOne X.K (.type (tyD d)) (.type c)=some k) (hob:Jaa d=false:=by rfl)
  (hg:Gl X "isinstance" :=by rfl) (hg':Gl X T:=by rfl) (hn:T≠ "__name__" :=by decide) (hdb:(T == ("__debug__" :Str))=false:=by decide) (hs:starEach [e,.Name T p'] X.env=[(false,eval e X.env),(false,eval (.Name T p') X.env)]:=by rfl) (hs2:starEach [.Name T p'] X.env=[(false,eval (.Name T p') X.env)]:=by rfl) :
  PD X ρ (.Call (.Name "isinstance" p) [e,.Name T p'] [] pos) (.bl k) :=
 ZA (Qa4 Qgs hg hm (by decide +kernel) (Ws ha.pe (Ws (Qty hg' hT hv (v:= .ty c) rfl hn hdb) Z8 hs2) (by rw [hs,hs2])) (by decide) (by decide) (by rw [hs,hs2]) (by rw [hs2];rfl))
  λσ H Q he q=>⟨he,λv H1 s1 i1=>⟨d,v,c,k,rfl,hob,i1,hk,q _ H1 s1 (Zz _)⟩⟩
theorem Qs3 (hc:X.calm=true):CallR X (.builtin "all") (λvs H Q=> ∃ (p:Addr) (bs:List Bool),vs=[.ref p]/\SqL X.K H p (bs.map V.bl)/\Q (.bl (bs.all id)) H):=by
 intro Kz s σ H xs us Q I r h;obtain ⟨p,bs,rfl,hq,q⟩:=h;obtain ⟨u,rfl,rx⟩:=vals1 r;cases (show u=Value.ref p from rx);obtain ⟨Kv,rv,pl,hz⟩:=I.list hq;have Kr:=rv.length;rw [Q2] at Kr;have Ks:p < s.heap.objs.size:=by
  obtain ⟨o,h1,_⟩:=pl.isList;exact Qi h1
 refine call_all_walk (Qb7 pl.isList ?_);refine ⟨s.heap.objs.size,_,_,_,_,_,λi=>bs.getD i true,rfl,Walks.list (show X.A.in1.handled=none from I.ok.hd hc) _ p (Qp Ks) Kv.toArray,⟨⟨_,Qd _ rfl,rfl,rfl⟩,pl.isList.at λo e=>Q1 _ e⟩,?_,?_⟩
 ·intro i v s' Q' E' hv hQ';have hv':Kv[i]? =some v:=by simpa using hv
  have hi:i < bs.length:=by rw [Kr];exact (Q4.mp hv').1
  obtain ⟨w',e1,e2⟩:=rv.get (i:=i) (x:= .bl bs[i]) (by simp [hi]);rw [hv'] at e1;cases e1;cases (show v=Value.bool _ from e2);refine WO ?_;simpa [List.getD,hi] using hQ'
 ·intro h' tk kk;have e1:(List.range Kv.toArray.size).all (λi=>bs.getD i true)=bs.all id:=by
   rw [Ql,<- Kr,Jd];simp only [Wo,Je,id_eq];constructor
   ·intro h z hz;obtain ⟨i,hi,rfl⟩:=Ud.mp hz;simpa [List.getD,hi] using h i hi
   ·intro h i hi;simpa [List.getD,hi] using h _ (WR hi)
  rw [e1];refine ⟨.bl (bs.all id),H,?_,rfl,q⟩;exact I.kept λb o e=>kk b o (λz=>by
   have z':b=s.heap.objs.size:=by simpa using z
   exact absurd (Qi e) (by rw [z'];exact JK _)) (Q1 _ e)
theorem Qci {K:W.Frag} {H:Hp}: ∀ {bs:List Bool} {vs:List V},Va K H (bs.map D.bl) vs->vs=bs.map V.bl
 | [],_,h=>by simpa [Va] using h
 | b::bs,vs,h=>by
  rw [Qk,Va] at h;obtain ⟨v,r,e,q,t⟩:=h;rw [Qci t,B6 q] at e;simpa using e
theorem Jap {bs:List Bool} {p:Pos} (hc:X.calm=true) (hm:X.mg "all" =none) (ha:PD X ρ e (.lst (bs.map D.bl))) (hg:Gl X "all" :=by rfl) (hs:starEach [e] X.env=[(false,eval e X.env)]:=by rfl) :
  PD X ρ (.Call (.Name "all" p) [e] [] pos) (.bl (bs.all id)) :=
 Ql7 (Qs3 hc) hm PyProof.Rows.boot_all (Vc ha Vn hs) (λH vs Q ia q=>by
  obtain ⟨v,rfl,i⟩:=ia.one;obtain ⟨p,ws,rfl,hq,r⟩:=JY i;rw [Qci r] at hq;exact ⟨p,bs,rfl,hq,q _ H (Same.refl H) (Zz _)⟩) hg (by decide) (by decide) hs rfl
theorem Qps {x y:Str}:OpD X (λx y H Q=> ∃ i j,x= .str i/\y= .str j/\Q (.bl (!(Builtin.Str.occurrences j i 0 j.length 1).isEmpty)) H) (.str x) (.str y) (.bl (!(Builtin.Str.occurrences y x 0 y.length 1).isEmpty)):=λH _ _ Q hx hy q =>
 ⟨x,y,JC hx,JC hy,q _ H (Same.refl H) (Zz _)⟩
theorem Y9 {K:W.Frag} {H:Hp}: ∀ {bs:List Str} {vs:List V},Va K H (bs.map D.str) vs->vs=bs.map V.str
 | [],_,h=>by simpa [Va] using h
 | b::bs,vs,h=>by
  rw [Qk,Va] at h;obtain ⟨v,r,e,q,t⟩:=h;rw [Y9 t,JC q] at e;simpa using e
theorem Qcq (bs:List Str):(bs.map V.str).all Bb=true:=by
 rw [Wo];intro v hv;obtain ⟨s,_,rfl⟩:=Q6.mp hv;rfl
theorem Qg2 (x:Str) (bs:List Str):inV (.str x) (bs.map V.str)=decide (x∈bs):=by
 unfold inV;rw [Jd];simp [eqV]
theorem Qpt {x:Str} {ss:List Str} (hd:d= .tup (ss.map D.str) \/ d= .lst (ss.map D.str)) (neg:Bool):OpD X (rIn X.K neg) (.str x) d (.bl (if neg=true then !decide (x∈ss) else decide (x∈ss))):=λH v u Q hv hu q=>by
 have e:=JC hv;subst e;rcases hd with rfl | rfl
 ·obtain ⟨p,vs,rfl,hq,r⟩:=JB hu;rw [Y9 r] at hq;exact ⟨p,_,rfl,.inr hq,rfl,Qcq _,by rw [Qg2];exact q _ H (Same.refl H) (Zz _)⟩
 ·obtain ⟨p,vs,rfl,hq,r⟩:=JY hu;rw [Y9 r] at hq;exact ⟨p,_,rfl,.inl hq,rfl,Qcq _,by rw [Qg2];exact q _ H (Same.refl H) (Zz _)⟩
theorem Qwa {x:Str} {ss:List Str} (ha:PD X ρ a (.str x)) (hb:PD X ρ b db) (hd:db= .tup (ss.map D.str) \/ db= .lst (ss.map D.str)) (hm:behindInMarks .In b=false:=by rfl):PB X ρ (.Compare a [.In] [b] pos) (decide (x∈ss)) :=
 Ua Qmb ha hb (Qpt hd false) hm
theorem Qgw {x:Str} {ss:List Str} (ha:PD X ρ a (.str x)) (hb:PD X ρ b db) (hd:db= .tup (ss.map D.str) \/ db= .lst (ss.map D.str)) (hm:behindInMarks .NotIn b=false:=by rfl):PB X ρ (.Compare a [.NotIn] [b] pos) (!decide (x∈ss)) :=
 Ua Qe1 ha hb (Qpt hd true) hm
structure JIs (K:W.Frag) (J:It) (H:Hp) (ds:List D):Prop where
 go: ∀ i H',Same H H'->i < ds.length->J.go i H'
 yld: ∀ i H' x H2,Same H H'->i < ds.length->J.yld i H' x H2->H2=H'/\ ∃ d,ds[i]? =some d/\Is K H' d x
 stop: ∀ i H',Same H H'->ds.length<=i->J.stop i H'
def rdI (K:W.Frag) (ρ:List (Option D)) (ds:List D):TI:=λσ H R=>EnvIs K H σ ρ/\ ∀ J H',Same H H'->JIs K J H' ds->R J H'
structure PDI (X:Cx) (ρ:List (Option D)) (tg iter:Expr) (ds:List D):Prop where
 pe:PI X tg iter (rdI X.K ρ ds)
theorem PI.imp {tg iter:Expr} {t t':TI} (h:PI X tg iter t) (w: ∀ σ H R,t' σ H R->t σ H R):PI X tg iter t':=λKz s σ H R I q=>h Kz s σ H R I (w σ H R q)
theorem Zb {K:W.Frag} {H:Hp} {p:Addr} {vs:List V} {ds:List D} (hq:SqL K H p vs) (r:Va K H ds vs):JIs K (Itl K p) H ds:=by
 have hl:=r.length;refine ⟨λi H' s hi=>⟨vs,vs[i]'(by omega),s.seq hq,by simp⟩,λi H' x H2 s _ y=> ?_,λi H' s hi=>⟨vs,s.seq hq,by omega⟩⟩;obtain ⟨e,y⟩:=y;have e1:=y vs (s.seq hq);obtain ⟨d,e2,e3⟩:=r.at e1;exact ⟨e,d,e2,e3.same s⟩
theorem U0 {K:W.Frag} {H:Hp} {p:Addr} {vs:List V} {ds:List D} (hq:SqT K H p vs) (r:Va K H ds vs):JIs K (Itt K p) H ds:=by
 have hl:=r.length;refine ⟨λi H' s hi=>⟨vs,vs[i]'(by omega),s.sqT hq,by simp⟩,λi H' x H2 s _ y=> ?_,λi H' s hi=>⟨vs,s.sqT hq,by omega⟩⟩;obtain ⟨e,y⟩:=y;have e1:=y vs (s.sqT hq);obtain ⟨d,e2,e3⟩:=r.at e1;exact ⟨e,d,e2,e3.same s⟩
theorem UY {tg:Expr} (h:PD X ρ e (.lst ds)):PDI X ρ tg e ds :=
 ⟨(ZY h.pe).imp λσ H R q=>⟨q.1,λv H1 s1 i1=>by
  obtain ⟨p,vs,rfl,hq,r⟩:=JY i1;exact ⟨p,rfl,⟨vs,hq⟩,q.2 _ H1 s1 (Zb hq r)⟩⟩⟩
theorem U3 {tg:Expr} (h:PD X ρ e (.tup ds)):PDI X ρ tg e ds :=
 ⟨(Qa2 h.pe).imp λσ H R q=>⟨q.1,λv H1 s1 i1=>by
  obtain ⟨p,vs,rfl,hq,r⟩:=JB i1;exact ⟨p,rfl,⟨vs,hq⟩,q.2 _ H1 s1 (U0 hq r)⟩⟩⟩
def W4 (lo:Int) (n:Nat):List D:=(List.range n).map λ(i:Nat)=> .int (lo+i)
theorem UX {K:W.Frag} {H:Hp} (lo:Int) (n:Nat):JIs K (Itr lo n) H (W4 lo n):=by
 refine ⟨λi H' s hi=> ?_,λi H' y H2 s hi yl=> ?_,λi H' s hi=> ?_⟩
 ·show i < n;simpa [W4] using hi
 ·obtain ⟨e,rfl⟩:=yl;have hi':i < n:=by simpa [W4] using hi
  exact ⟨e,.int (lo+i),by simp [W4,hi'],ZH _⟩
 ·show n<=i;simpa [W4] using hi
theorem YJ {tg:Expr} {n:Int} {p:Pos} (hm:X.mg "range" =none) (ha:PD X ρ a (.int n)) (h1: -(2 ^ 62)<=n) (h2:n < 2 ^ 62) (hg:Gl X "range" :=by rfl) (hs:starEach [a] X.env=[(false,eval a X.env)]:=by rfl):PDI X ρ tg (.Call (.Name "range" p) [a] [] pos) (W4 0 n.toNat) :=
 ⟨(Qc2 hg hm (Vc ha Vn hs).pe hs).imp λσ H R q=>⟨q.1,λvs H1 s1 i1=>by
  obtain ⟨v,rfl,i⟩:=i1.one;have e:=ZI i;subst e;exact ⟨n,rfl,h1,h2,q.2 _ H1 s1 (UX 0 n.toNat)⟩⟩⟩
def rdL (K:W.Frag) (ρ:List (Option D)) (ds:List D):TE:=λσ H Q=>EnvIs K H σ ρ/\ ∀ p vs H',H p=none->Same H H'->H' p=some (.lst vs)->Va K H' ds vs->Q (.ref p) H'
structure PDL (X:Cx) (ρ:List (Option D)) (e:Expr) (ds:List D):Prop where
 pe:PE X e (rdL X.K ρ ds)
structure PTB (X:Cx) (ρ:List (Option D)) (ifs:List Expr) (k:Bool):Prop where
 pe:PTs X ifs (rdB X.K ρ k)
theorem PDL.pd {ρ:List (Option D)} (h:PDL X ρ e ds):PD X ρ e (.lst ds):=⟨h.pe.imp λσ H Q q=>⟨q.1,λp vs H' n s hp i=>q.2 _ H' s (Qab (SqL.of hp) i)⟩⟩
theorem W5 {xs:List Expr} (h:PDs X ρ xs ds) (hz:ds.length<=sizeLine):PDL X ρ (.List xs pos) ds :=
 ⟨(Qp8 h.pe).imp λσ H Q q=>⟨q.1,λvs H1 s1 i1=>⟨by rw [<- i1.length];exact hz,λp hp=>q.2 p vs _ (s1.free hp) (s1.trans (Same.upd hp)) Vu (i1.same (Same.upd hp))⟩⟩⟩
theorem Qcy {K:W.Frag} {p:D->Bool} {f:D->D} (hz:ds.length<=sizeLine) {σ:St} {H:Hp} {Q:VK} (h:rdL K ρ ((ds.filter p).map f) σ H Q) :
  Qo7 (rdI K ρ ds) (λσ H Q=> ∃ d,d∈ds/\rdB K (some d::ρ) (p d) σ H Q) (λσ H Q=> ∃ d,d∈ds/\p d=true/\rdD K (some d::ρ) (f d) σ H Q) σ H Q:=by
 obtain ⟨hE,q⟩:=h;refine ⟨hE,λJ H1 s1 ji=> ?_⟩;refine ⟨λi m ys H2=> ∃ d0:Unit,Same H1 H2/\i<=ds.length/\m=ds.length - i/\Va K H2 (((ds.take i).filter p).map f) ys,⟨ds.length,(),Same.refl _,Qz _,rfl,by simpa using QR⟩,?_⟩;rintro i m ys H2 ⟨_,s2,hi,rfl,r⟩
 by_cases Ks:i < ds.length
 ·refine .inr ⟨ji.go i H2 s2 Ks,?_,λv H3 y=> ?_⟩
  ·have h1:=r.length;have h2:(((ds.take i).filter p).map f).length<=i:=by
    rw [Q2];exact Qu (Wv _ _) (by rw [QA];omega)
   omega
  ·obtain ⟨e,d,hd,iv⟩:=ji.yld i H2 v H3 s2 Ks y;subst e;have hm:d∈ds:=Q9 hd;have ht4:ds.take (i+1)=ds.take i++[d]:=by rw [QX,hd];rfl
   refine ⟨d,hm,((hE.same s1).same s2).cons iv,λH4 s4=> ?_⟩
   by_cases hp:p d=true
   ·show if p d=true then _ else _;rw [Qj hp];refine ⟨d,hm,hp,(((hE.same s1).same s2).cons iv).same s4,λz H5 s5 iz=>⟨ds.length - (i+1),by omega,(),(s2.trans s4).trans s5,Ks,rfl,?_⟩⟩;rw [ht4,Qhh,QF];simp only [WS,List.filter_nil,hp,Wt,Qk,Z1];exact ((r.same s4).same s5).append (Vg iz QR)
   ·show if p d=true then _ else _;rw [Qg hp];refine ⟨ds.length - (i+1),by omega,(),s2.trans s4,Ks,rfl,?_⟩;rw [ht4,Qhh,QF];simp only [WS,List.filter_nil,hp,QG,JI,Z1,JS];exact r.same s4
 ·have e:i=ds.length:=by omega
  subst e;refine .inl ⟨ji.stop _ H2 s2 (Q5 _),λl hl=>q l ys _ ((s1.trans s2).free hl) ((s1.trans s2).trans (Same.upd hl)) Vu (Va.same (Same.upd hl) ?_)⟩;rw [QK] at r;exact r
theorem Qek {elt iter:Expr} {x:Str} {px:Pos} {ifs:List Expr} {scope:Scope} {p:D->Bool} {f:D->D} (hc:X.calm=true) (hi:PDI X ρ (.Name x px) iter ds) (hz:ds.length<=sizeLine)
  (ht: ∀ d∈ds,∀ cl C s H ex,PTB (cxC X x scope cl C s H ex) (some d::ρ) ifs (p d)) (he: ∀ d∈ds,p d=true-> ∀ cl C s H ex,PD (cxC X x scope cl C s H ex) (some d::ρ) elt (f d))
  (hok:WI X.N X.env.scope x scope=true:=by rfl) (hs: ∀ x,foldedSetIterable iter X.env x=pure x:=by intro _;rfl) :
  PDL X ρ (.ListComp elt [⟨.Name x px,iter,ifs,0⟩] scope pos) ((ds.filter p).map f) :=
 ⟨(Qtw hc hi.pe (λcl C s H ex Kz s' σ H' Q I ⟨d,hd,q⟩=>(ht d hd cl C s H ex).pe Kz s' σ H' Q I q) (λcl C s H ex Kz s' σ H' Q I ⟨d,hd,hp,q⟩=>(he d hd hp cl C s H ex).pe Kz s' σ H' Q I q) hok hs).imp λσ H Q q=>Qcy hz q⟩
theorem BO {α:Type} (l:List α):l.filter (λ_=>true)=l:=by simp
theorem Qoy {d:D} {x:Str} {scope:Scope} (cl:List (Str×Addr)) (C:Addr) (s:Shared) (H:Hp) (ex:List Addr):PTB (cxC X x scope cl C s H ex) (some d::ρ) [] true:=⟨λKz s' σ H' Q I q=>Qdx Kz s' σ H' Q I (q.2 H' (Same.refl H'))⟩
theorem Qvm {c:Expr} {k:Bool} (h:PB X ρ c k):PTB X ρ [c] k:=⟨Qti h.pe⟩
theorem ZK {elt iter:Expr} {x:Str} {px:Pos} {scope:Scope} {f:D->D} (hc:X.calm=true) (hi:PDI X ρ (.Name x px) iter ds) (hz:ds.length<=sizeLine)
  (he: ∀ d∈ds,∀ cl C s H ex,PD (cxC X x scope cl C s H ex) (some d::ρ) elt (f d))
  (hok:WI X.N X.env.scope x scope=true:=by rfl) (hs: ∀ x,foldedSetIterable iter X.env x=pure x:=by intro _;rfl) :
  PDL X ρ (.ListComp elt [⟨.Name x px,iter,[],0⟩] scope pos) (ds.map f):=by
 have:=Qek (pos:=pos) (elt:=elt) (scope:=scope) (ifs:=[]) (p:=λ_=>true) hc hi hz (λd hd=>Qoy) (λd hd _=>he d hd) hok hs;rwa [BO] at this
end
mutual
def LF:D->Bool
 | .tup ds=>LFs ds
 | .lst _=>false
 | .dct fz _ ds=>fz && LFs ds
 | .oth (.dcx fz _) ks ds=>fz && (LFs ks && LFs ds)
 | .oth (.obj _) _ ds=>LFs ds
 | .oth .fls _ ds=>LFs ds
 | _=>true
def LFs:List D->Bool
 | []=>true
 | d::ds=>LF d && LFs ds
end
theorem WK: ∀ {ds:List D},LFs ds=true ↔ ∀ d∈ds,LF d=true
 | []=>by simp [LFs]
 | d::ds=>by simp [LFs,WK]
theorem Qsl {ds:List D}:LF (.tup ds)=LFs ds:=by simp [LF]
theorem JE {x:Str}:LF (.str x)=true:=by simp [LF]
theorem Gs {x:Int}:LF (.int x)=true:=by simp [LF]
theorem Jw {α:Type} {f:α->D} (h: ∀ a,LF (f a)=true) (l:List α):LFs (l.map f)=true:=by
 rw [WK];intro d hd;obtain ⟨a,_,rfl⟩:=Q6.mp hd;exact h a
theorem WH {ds es:List D}:LFs (ds++es)=(LFs ds && LFs es):=by
 rw [Jd];simp only [Qv,WK,Qy];constructor
 ·exact λh=>⟨λd hd=>h d (.inl hd),λd hd=>h d (.inr hd)⟩
 ·rintro ⟨h1,h2⟩ d (hd | hd)
  ·exact h1 d hd
  ·exact h2 d hd
structure TSame (H H':Hp):Prop where
 tp: ∀ b xs,Rd H b (.tup xs)->Rd H' b (.tup xs)
 fz: ∀ b o u,H b=some (.frz o u)->H' b=some (.frz o u)
theorem TSame.refl (H:Hp):TSame H H:=⟨λ_ _ h=>h,λ_ _ _ h=>h⟩
theorem TSame.trans {H H1 H2:Hp} (a:TSame H H1) (b:TSame H1 H2):TSame H H2:=⟨λc xs h=>b.tp c xs (a.tp c xs h),λc o u h=>b.fz c o u (a.fz c o u h)⟩
theorem Same.t {H H':Hp} (s:Same H H'):TSame H H':=by
 refine ⟨λb xs h=> ?_,λb o u h=>s _ _ h⟩;rcases h with h | ⟨o,h⟩
 ·exact .inl (s _ _ h)
 ·exact .inr ⟨o,s _ _ h⟩
theorem TSame.updM {H:Hp} {p:Addr} {u u':HO} (h:H p=some u) (h1: ∀ xs,u≠ .tup xs) (h2: ∀ o v,u≠ .frz o v):TSame H (upd H p u'):=by
 have hb: ∀ b v,H b=some v->(∀ e:v=u,False)->b≠p:=λb v q ne z=>by
  rw [z,h] at q;cases q;exact ne rfl
 refine ⟨λb xs q=> ?_,λb o v q=>by rw [Qo (hb b _ q λe=>h2 o v e.symm)];exact q⟩;rcases q with q | ⟨o,q⟩
 ·exact .inl (by rw [Qo (hb b _ q λe=>h1 xs e.symm)];exact q)
 ·exact .inr ⟨o,by rw [Qo (hb b _ q λe=>h2 o _ e.symm)];exact q⟩
theorem TSame.lst {H:Hp} {p:Addr} {vs ws:List V} (h:H p=some (.lst vs)):TSame H (upd H p (.lst ws)):=TSame.updM h (λ_ e=>nomatch e) (λ_ _ e=>nomatch e)
mutual
theorem Is.tsame {K:W.Frag} {H H':Hp} (s:TSame H H'): ∀ {d:D} {v:V},LF d=true->Is K H d v->Is K H' d v
 | .non,_,_,h=>by simpa [Is] using h
 | .bl _,_,_,h=>by simpa [Is] using h
 | .int _,_,_,h=>by simpa [Is] using h
 | .str _,_,_,h=>by simpa [Is] using h
 | .tup ds,v,l,h=>by
  rw [Is] at h ⊢;rw [LF] at l;obtain ⟨p,vs,e,q,r⟩:=h;refine ⟨p,vs,e,?_,Va.tsame s l r⟩;rcases q with q | q
  ·exact .inl (s.tp _ _ q)
  ·exact .inr q
 | .lst ds,v,l,h=>by simp [LF] at l
 | .dct fz ks ds,v,l,h=>by
  rw [LF,Qv] at l;rw [Is] at h ⊢;obtain ⟨p,ss,vs,e,ek,dk,r⟩:=h;obtain ⟨l1,l2⟩:=l;subst l1;obtain ⟨o,ho⟩:=(show ∃ o,H p=some (.frz o (.dK (W3 ss vs))) from dk.at_);exact ⟨p,ss,vs,e,ek,⟨dk.len,dk.nd,⟨o,s.fz _ _ _ ho⟩⟩,Va.tsame s l2 r⟩
 | .oth (.dcx fz hs) ks ds,v,l,h=>by
  rw [LF,Qv,Qv] at l;rw [Is] at h ⊢;obtain ⟨p,as,vs,e,dk,hn,hk,r⟩:=h;obtain ⟨l1,l2,l3⟩:=l;subst l1;obtain ⟨o,ho⟩:=(show ∃ o,H p=some (.frz o (DxO p hs as vs)) from dk);exact ⟨p,as,vs,e,⟨o,s.fz _ _ _ ho⟩,hn,Va.tsame s l2 hk,Va.tsame s l3 r⟩
 | .oth (.obj C) ks ds,v,l,h=>by
  rw [LF] at l;rw [Is] at h ⊢;obtain ⟨p,dx,ss,vs,o,e,hk,q,i,r⟩:=h;exact ⟨p,dx,ss,vs,o,e,hk,q,s.fz _ _ _ i,Va.tsame s l r⟩
 | .oth .fls ks ds,v,l,h=>by
  rw [LF] at l;rw [Is] at h ⊢;obtain ⟨p,vs,o,e,hk,i,r⟩:=h;exact ⟨p,vs,o,e,hk,s.fz _ _ _ i,Va.tsame s l r⟩
theorem Va.tsame {K:W.Frag} {H H':Hp} (s:TSame H H'): ∀ {ds:List D} {vs:List V},LFs ds=true->Va K H ds vs->Va K H' ds vs
 | [],_,_,h=>by simpa [Va] using h
 | d::ds,vs,l,h=>by
  rw [Va] at h ⊢;rw [LFs,Qv] at l;obtain ⟨v,r,e,q,t⟩:=h;exact ⟨v,r,e,Is.tsame s l.1 q,Va.tsame s l.2 t⟩
end
inductive Sl where
 | no | arg (d:D) | own (ds:List D) | any (d:D) | odc (ks:List Str) (ds:List D) | ftp (ds:List D) | flt (ds:List D) | odx (hs:List Int) (ks ds:List D)
def Sl.d:Sl->Option D
 | .no=>none
 | .arg d=>some d
 | .own ds=>some (.lst ds)
 | .any d=>some d
 | .odc ks ds=>some (.dct false (ks.map .str) ds)
 | .ftp ds=>some (.tup ds)
 | .flt ds=>some (.lst ds)
 | .odx hs ks ds=>some (.oth (.dcx false hs) ks ds)
def SlIs (K:W.Frag) (H₀ H:Hp):Sl->Option V->Prop
 | .no,_=>True
 | .arg d,o=> ∃ v,o=some v/\Is K H₀ d v
 | .own ds,o=> ∃ p vs,o=some (.ref p)/\H₀ p=none/\H p=some (.lst vs)/\LFs ds=true/\Va K H ds vs
 | .any d,o=> ∃ v,o=some v/\Is K H d v
 | .odc ks ds,o=> ∃ p vs,o=some (.ref p)/\H₀ p=none/\DkAt false H p ks vs/\LFs ds=true/\Va K H ds vs
 | .ftp ds,o=> ∃ p vs,o=some (.ref p)/\(∃ ob,ob.dict=none/\H p=some (.frz ob (.tup vs)))/\LFs ds=true/\Va K H ds vs
 | .flt ds,o=> ∃ p vs,o=some (.ref p)/\(∃ ob,H p=some (.frz ob (.lst vs)))/\LFs ds=true/\Va K H ds vs
 | .odx hs ks ds,o=> ∃ p as vs,o=some (.ref p)/\H₀ p=none/\H p=some (DxO p hs as vs)/\ks.Nodup/\LFs ks=true/\LFs ds=true/\Va K H ks (as.map .ref)/\Va K H ds vs
structure EnvO (K:W.Frag) (H₀ H:Hp) (σ:St) (τ:List Sl):Prop where
 same:Same H₀ H
 len:σ.length=τ.length
 sl: ∀ (i:Nat) (s:Sl),τ[i]? =some s-> ∃ o,σ[i]? =some o/\SlIs K H₀ H s o
 apart: ∀ (i j:Nat) (ds es:List D) (p:Addr),i≠j->τ[i]? =some (.own ds)->τ[j]? =some (.own es)->σ[i]? =some (some (.ref p))->σ[j]? ≠some (some (.ref p))
 apD: ∀ (i j:Nat) (ks ks':List Str) (ds es:List D) (p:Addr),i≠j->τ[i]? =some (.odc ks ds)->τ[j]? =some (.odc ks' es)->σ[i]? =some (some (.ref p))->σ[j]? ≠some (some (.ref p))
def dat (τ:List Sl):List (Option D):=τ.map Sl.d
theorem EnvO.env {K:W.Frag} {H₀ H:Hp} {σ:St} {τ:List Sl} (h:EnvO K H₀ H σ τ):EnvIs K H σ (dat τ):=by
 refine ⟨by simp [dat,h.len],λi d e=> ?_⟩;unfold dat at e;rw [Qe] at e;cases q:τ[i]? with
 | none=>rw [q] at e;cases e
 | some s =>
  rw [q] at e;obtain ⟨o,e1,e2⟩:=h.sl i s q;have e':s.d=some d:=by simpa using e
  cases s with
  | no=>cases e'
  | arg x =>
   cases e';obtain ⟨v,rfl,z⟩:=e2;exact ⟨v,e1,z.same h.same⟩
  | any x =>
   cases e';obtain ⟨v,rfl,z⟩:=e2;exact ⟨v,e1,z⟩
  | own ds =>
   cases e';obtain ⟨p,vs,rfl,_,z,_,t⟩:=e2;exact ⟨.ref p,e1,Qab (SqL.of z) t⟩
  | odc ks ds =>
   cases e';obtain ⟨p,vs,rfl,_,z,_,t⟩:=e2;exact ⟨.ref p,e1,Qy8 z t⟩
  | ftp ds =>
   cases e';obtain ⟨p,vs,rfl,⟨ob,_,z⟩,_,t⟩:=e2;exact ⟨.ref p,e1,Qe7 (.inl (.inr ⟨ob,z⟩)) t⟩
  | flt ds =>
   cases e';obtain ⟨p,vs,rfl,⟨ob,z⟩,_,t⟩:=e2;exact ⟨.ref p,e1,Qab (.inl (.inr ⟨ob,z⟩)) t⟩
  | odx hs ks ds =>
   cases e';obtain ⟨p,as,vs,rfl,_,z,hn,_,_,i,t⟩:=e2;exact ⟨.ref p,e1,Qii (fz:=false) z hn i t⟩
theorem EnvO.step {K:W.Frag} {H₀ H H':Hp} {σ:St} {τ:List Sl} (h:EnvO K H₀ H σ τ) (s:Same H H'):EnvO K H₀ H' σ τ:=by
 refine ⟨h.same.trans s,h.len,λi sl e=> ?_,h.apart,h.apD⟩;obtain ⟨o,e1,e2⟩:=h.sl i sl e;refine ⟨o,e1,?_⟩;cases sl with
 | no=>trivial
 | arg d=>exact e2
 | any d =>
  obtain ⟨v,z,t⟩:=e2;exact ⟨v,z,t.same s⟩
 | own ds =>
  obtain ⟨p,vs,z,n,t,l,a⟩:=e2;exact ⟨p,vs,z,n,s _ _ t,l,a.same s⟩
 | odc ks ds =>
  obtain ⟨p,vs,z,n,t,l,a⟩:=e2;exact ⟨p,vs,z,n,s.dk t,l,a.same s⟩
 | ftp ds =>
  obtain ⟨p,vs,z,⟨ob,hn,t⟩,l,a⟩:=e2;exact ⟨p,vs,z,⟨ob,hn,s _ _ t⟩,l,a.same s⟩
 | flt ds =>
  obtain ⟨p,vs,z,⟨ob,t⟩,l,a⟩:=e2;exact ⟨p,vs,z,⟨ob,s _ _ t⟩,l,a.same s⟩
 | odx hs ks ds =>
  obtain ⟨p,as,vs,z,n,t,hn,l1,l2,i,a⟩:=e2;exact ⟨p,as,vs,z,n,s _ _ t,hn,l1,l2,i.same s,a.same s⟩
theorem EnvO.set {K:W.Frag} {H₀ H:Hp} {σ:St} {τ:List Sl} {v:V} {s:Sl} (h:EnvO K H₀ H σ τ) (i:Nat) (hs:SlIs K H₀ H s (some v)) (hn: ∀ ds,s= .own ds-> ∀ (j:Nat) (p:Addr) (es:List D),v= .ref p->τ[j]? =some (.own es)->j≠i->σ[j]? ≠some (some (.ref p)))
  (hd: ∀ ks ds,s= .odc ks ds-> ∀ (j:Nat) (p:Addr) (ks':List Str) (es:List D),v= .ref p->τ[j]? =some (.odc ks' es)->j≠i->σ[j]? ≠some (some (.ref p)):=by intro _ _ e;cases e):EnvO K H₀ H (σ.set i (some v)) (τ.set i s):=by
 refine ⟨h.same,by simp [h.len],λj u e=> ?_,λj k ds es p hjk e1 e2 e3 e4=> ?_,λj k ks ks' ds es p hjk e1 e2 e3 e4=> ?_⟩
 ·by_cases hj:i=j
  ·subst hj
   by_cases hi:i < τ.length
   ·rw [Qm hi] at e;have:s=u:=by simpa using e
    subst this;exact ⟨some v,by rw [Qm (by rw [h.len];exact hi)],hs⟩
   ·rw [Jn (by simpa using hi)] at e;cases e
  ·rw [Qh hj] at e ⊢;exact h.sl j u e
 ·have look: ∀ (m:Nat) (ds:List D),(τ.set i s)[m]? =some (.own ds)->(m=i/\s= .own ds/\i < τ.length) \/ (m≠i/\τ[m]? =some (.own ds)):=λm ds e=>by
   by_cases hm:i=m
   ·subst hm
    by_cases hi:i < τ.length
    ·rw [Qm hi] at e;exact .inl ⟨rfl,by simpa using e,hi⟩
    ·rw [Jn (by simpa using hi)] at e;cases e
   ·rw [Qh hm] at e;exact .inr ⟨QS hm,e⟩
  rcases look j ds e1 with ⟨rfl,s1,hi⟩ | ⟨nj,t1⟩
  ·rcases look k es e2 with ⟨rfl,_,_⟩ | ⟨nk,t2⟩
   ·exact hjk rfl
   ·rw [Qm (by rw [h.len];exact hi)] at e3;rw [Qh (QS nk)] at e4;exact hn ds s1 k p es (by simpa using e3) t2 nk e4
  ·rcases look k es e2 with ⟨rfl,s2,hi⟩ | ⟨nk,t2⟩
   ·rw [Qm (by rw [h.len];exact hi)] at e4;rw [Qh (QS nj)] at e3;exact hn es s2 j p ds (by simpa using e4) t1 nj e3
   ·rw [Qh (QS nj)] at e3;rw [Qh (QS nk)] at e4;exact h.apart j k ds es p hjk t1 t2 e3 e4
 ·have look: ∀ (m:Nat) (ks:List Str) (ds:List D),(τ.set i s)[m]? =some (.odc ks ds)->(m=i/\s= .odc ks ds/\i < τ.length) \/ (m≠i/\τ[m]? =some (.odc ks ds)):=λm ks ds e=>by
   by_cases hm:i=m
   ·subst hm
    by_cases hi:i < τ.length
    ·rw [Qm hi] at e;exact .inl ⟨rfl,by simpa using e,hi⟩
    ·rw [Jn (by simpa using hi)] at e;cases e
   ·rw [Qh hm] at e;exact .inr ⟨QS hm,e⟩
  rcases look j ks ds e1 with ⟨rfl,s1,hi⟩ | ⟨nj,t1⟩
  ·rcases look k ks' es e2 with ⟨rfl,_,_⟩ | ⟨nk,t2⟩
   ·exact hjk rfl
   ·rw [Qm (by rw [h.len];exact hi)] at e3;rw [Qh (QS nk)] at e4;exact hd ks ds s1 k p ks' es (by simpa using e3) t2 nk e4
  ·rcases look k ks' es e2 with ⟨rfl,s2,hi⟩ | ⟨nk,t2⟩
   ·rw [Qm (by rw [h.len];exact hi)] at e4;rw [Qh (QS nj)] at e3;exact hd ks' es s2 j p ks ds (by simpa using e4) t1 nj e3
   ·rw [Qh (QS nj)] at e3;rw [Qh (QS nk)] at e4;exact h.apD j k ks ks' ds es p hjk t1 t2 e3 e4
theorem EnvO.mut {K:W.Frag} {H₀ H:Hp} {σ:St} {τ:List Sl} {i:Nat} {p:Addr} {vs ws:List V} {ds es:List D} (h:EnvO K H₀ H σ τ) (hi:τ[i]? =some (.own ds)) (hσ:σ[i]? =some (some (.ref p))) (hn:H₀ p=none) (hp:H p=some (.lst vs))
  (hl: ∀ (j:Nat) (d:D),τ[j]? =some (.any d)->LF d=true) (le:LFs es=true) (ie:Va K H es ws):EnvO K H₀ (upd H p (.lst ws)) σ (τ.set i (.own es)):=by
 have ts:TSame H (upd H p (.lst ws)):=TSame.lst hp;have Ks:i < τ.length:=(Q4.mp hi).1;refine ⟨λb o e=>by rw [Qo (QH e hn)];exact h.same b o e,by simp [h.len],λj u e=> ?_,λj k Ko es' q hjk e1 e2 e3 e4=> ?_,λj k ks ks' Ko es' q hjk e1 e2=> ?_⟩
 ·by_cases hj:i=j
  ·subst hj;rw [Qm Ks] at e;have:Sl.own es=u:=by simpa using e
   subst this;exact ⟨_,hσ,p,ws,rfl,hn,Vu,le,ie.tsame ts le⟩
  ·rw [Qh hj] at e;obtain ⟨o,e1,e2⟩:=h.sl j u e;refine ⟨o,e1,?_⟩;cases u with
   | no=>trivial
   | arg d=>exact e2
   | any d =>
    obtain ⟨v,z,t⟩:=e2;exact ⟨v,z,t.tsame ts (hl j d e)⟩
   | own Ko =>
    obtain ⟨p',Ki,z,n',t,l,a⟩:=e2;subst z;have Kn:p'≠p:=by
     rintro rfl;exact h.apart i j ds Ko p' hj hi e hσ e1
    exact ⟨p',Ki,rfl,n',by rw [Qo Kn];exact t,l,a.tsame ts l⟩
   | odc ks' Ko =>
    obtain ⟨p',Ki,z,n',t,l,a⟩:=e2;subst z;have ta:H p'=some (.dK (W3 ks' Ki)):=t.at_;have Kn:p'≠p:=by
     rintro rfl;rw [hp] at ta;cases ta
    exact ⟨p',Ki,rfl,n',⟨t.len,t.nd,by show upd H p (.lst ws) p'=_;rw [Qo Kn];exact ta⟩,l,a.tsame ts l⟩
   | ftp Ko =>
    obtain ⟨p',Ki,z,⟨ob,hno,t⟩,l,a⟩:=e2;subst z;have Kn:p'≠p:=by
     rintro rfl;rw [hp] at t;cases t
    exact ⟨p',Ki,rfl,⟨ob,hno,by rw [Qo Kn];exact t⟩,l,a.tsame ts l⟩
   | flt Ko =>
    obtain ⟨p',Ki,z,⟨ob,t⟩,l,a⟩:=e2;exact ⟨p',Ki,z,⟨ob,ts.fz _ _ _ t⟩,l,a.tsame ts l⟩
   | odx hs ks Ko =>
    obtain ⟨p',as,Ki,z,n',t,hnd,l1,l2,ik,a⟩:=e2;have Kn:p'≠p:=by
     rintro rfl;rw [hp] at t;cases t
    exact ⟨p',as,Ki,z,n',by rw [Qo Kn];exact t,hnd,l1,l2,ik.tsame ts l1,a.tsame ts l2⟩
 ·have look: ∀ (m:Nat) (Ko:List D),(τ.set i (.own es))[m]? =some (.own Ko)-> ∃ ds'',τ[m]? =some (.own ds''):=λm Ko e=>by
   by_cases hm:i=m
   ·subst hm;exact ⟨ds,hi⟩
   ·rw [Qh hm] at e;exact ⟨_,e⟩
  obtain ⟨d1,t1⟩:=look j Ko e1;obtain ⟨d2,t2⟩:=look k es' e2;exact h.apart j k d1 d2 q hjk t1 t2 e3 e4
 ·have look: ∀ (m:Nat) (ks:List Str) (Ko:List D),(τ.set i (.own es))[m]? =some (.odc ks Ko)->τ[m]? =some (.odc ks Ko):=λm ks Ko e=>by
   by_cases hm:i=m
   ·subst hm;rw [Qm Ks] at e;cases e
   ·rw [Qh hm] at e;exact e
  exact h.apD j k ks ks' Ko es' q hjk (look j ks Ko e1) (look k ks' es' e2)
theorem TSame.dk {H:Hp} {p:Addr} {vs ws:List (Key×V)} (h:H p=some (.dK vs)):TSame H (upd H p (.dK ws)):=TSame.updM h (λ_ e=>nomatch e) (λ_ _ e=>nomatch e)
theorem EnvO.mutD {K:W.Frag} {H₀ H:Hp} {σ:St} {τ:List Sl} {i:Nat} {p:Addr} {vs ws:List V} {ks ks2:List Str} {ds es:List D} (h:EnvO K H₀ H σ τ) (hi:τ[i]? =some (.odc ks ds)) (hσ:σ[i]? =some (some (.ref p))) (hn:H₀ p=none) (hp:DkAt false H p ks vs)
  (hl: ∀ (j:Nat) (d:D),τ[j]? =some (.any d)->LF d=true) (le:LFs es=true) (Kr:ks2.length=ws.length) (hnd:ks2.Nodup) (ie:Va K H es ws):EnvO K H₀ (upd H p (.dK (W3 ks2 ws))) σ (τ.set i (.odc ks2 es)):=by
 have hp':H p=some (.dK (W3 ks vs)):=hp.at_;have ts:TSame H (upd H p (.dK (W3 ks2 ws))):=TSame.dk hp';have Ks:i < τ.length:=(Q4.mp hi).1;refine ⟨λb o e=>by rw [Qo (QH e hn)];exact h.same b o e,by simp [h.len],λj u e=> ?_,λj k Ko es' q hjk e1 e2=> ?_,λj k kk kk' Ko es' q hjk e1 e2 e3 e4=> ?_⟩
 ·by_cases hj:i=j
  ·subst hj;rw [Qm Ks] at e;have:Sl.odc ks2 es=u:=by simpa using e
   subst this;exact ⟨_,hσ,p,ws,rfl,hn,⟨Kr,hnd,Vu⟩,le,ie.tsame ts le⟩
  ·rw [Qh hj] at e;obtain ⟨o,e1,e2⟩:=h.sl j u e;refine ⟨o,e1,?_⟩;cases u with
   | no=>trivial
   | arg d=>exact e2
   | any d =>
    obtain ⟨v,z,t⟩:=e2;exact ⟨v,z,t.tsame ts (hl j d e)⟩
   | own Ko =>
    obtain ⟨p',Ki,z,n',t,l,a⟩:=e2;subst z;have Kn:p'≠p:=by
     rintro rfl;rw [hp'] at t;cases t
    exact ⟨p',Ki,rfl,n',by rw [Qo Kn];exact t,l,a.tsame ts l⟩
   | odc ks' Ko =>
    obtain ⟨p',Ki,z,n',t,l,a⟩:=e2;subst z;have ta:H p'=some (.dK (W3 ks' Ki)):=t.at_;have Kn:p'≠p:=by
     rintro rfl;exact h.apD i j ks ks' ds Ko p' hj hi e hσ e1
    exact ⟨p',Ki,rfl,n',⟨t.len,t.nd,by show upd H p (.dK (W3 ks2 ws)) p'=_;rw [Qo Kn];exact ta⟩,l,a.tsame ts l⟩
   | ftp Ko =>
    obtain ⟨p',Ki,z,⟨ob,hno,t⟩,l,a⟩:=e2;subst z;have Kn:p'≠p:=by
     rintro rfl;rw [hp'] at t;cases t
    exact ⟨p',Ki,rfl,⟨ob,hno,by rw [Qo Kn];exact t⟩,l,a.tsame ts l⟩
   | flt Ko =>
    obtain ⟨p',Ki,z,⟨ob,t⟩,l,a⟩:=e2;exact ⟨p',Ki,z,⟨ob,ts.fz _ _ _ t⟩,l,a.tsame ts l⟩
   | odx hs ks3 Ko =>
    obtain ⟨p',as,Ki,z,n',t,hnd,l1,l2,ik,a⟩:=e2;have Kn:p'≠p:=by
     rintro rfl;rw [hp'] at t;cases t
    exact ⟨p',as,Ki,z,n',by rw [Qo Kn];exact t,hnd,l1,l2,ik.tsame ts l1,a.tsame ts l2⟩
 ·have look: ∀ (m:Nat) (Ko:List D),(τ.set i (.odc ks2 es))[m]? =some (.own Ko)->τ[m]? =some (.own Ko):=λm Ko e=>by
   by_cases hm:i=m
   ·subst hm;rw [Qm Ks] at e;cases e
   ·rw [Qh hm] at e;exact e
  exact h.apart j k Ko es' q hjk (look j Ko e1) (look k es' e2)
 ·have look: ∀ (m:Nat) (kk:List Str) (Ko:List D),(τ.set i (.odc ks2 es))[m]? =some (.odc kk Ko)-> ∃ k2 d2,τ[m]? =some (.odc k2 d2):=λm kk Ko e=>by
   by_cases hm:i=m
   ·subst hm;exact ⟨ks,ds,hi⟩
   ·rw [Qh hm] at e;exact ⟨_,_,e⟩
  obtain ⟨k1,d1,t1⟩:=look j kk Ko e1;obtain ⟨k2,d2,t2⟩:=look k kk' es' e2;exact h.apD j k k1 k2 d1 d2 q hjk t1 t2 e3 e4
theorem EnvO.mutX {K:W.Frag} {H₀ H:Hp} {σ:St} {τ:List Sl} {i:Nat} {p:Addr} {hs hs2:List Int} {as as2:List Addr} {vs ws:List V} {ks ks2:List D} {ds es:List D} (h:EnvO K H₀ H σ τ) (hi:τ[i]? =some (.odx hs ks ds)) (hσ:σ[i]? =some (some (.ref p))) (hn:H₀ p=none) (hp:H p=some (DxO p hs as vs))
  (hl: ∀ (j:Nat) (d:D),τ[j]? =some (.any d)->LF d=true) (hx: ∀ (j:Nat) hs' ks' Ko,τ[j]? =some (.odx hs' ks' Ko)->j=i) (lk:LFs ks2=true) (le:LFs es=true) (hnd:ks2.Nodup) (ik:Va K H ks2 (as2.map .ref)) (ie:Va K H es ws):EnvO K H₀ (upd H p (DxO p hs2 as2 ws)) σ (τ.set i (.odx hs2 ks2 es)):=by
 have ts:TSame H (upd H p (DxO p hs2 as2 ws)):=TSame.updM hp (λ_ e=>nomatch e) (λ_ _ e=>nomatch e);have Ks:i < τ.length:=(Q4.mp hi).1;refine ⟨λb o e=>by rw [Qo (QH e hn)];exact h.same b o e,by simp [h.len],λj u e=> ?_,λj k Ko es' q hjk e1 e2=> ?_,λj k kk kk' Ko es' q hjk e1 e2=> ?_⟩
 ·by_cases hj:i=j
  ·subst hj;rw [Qm Ks] at e;have:Sl.odx hs2 ks2 es=u:=by simpa using e
   subst this;exact ⟨_,hσ,p,as2,ws,rfl,hn,Vu,hnd,lk,le,ik.tsame ts lk,ie.tsame ts le⟩
  ·rw [Qh hj] at e;obtain ⟨o,e1,e2⟩:=h.sl j u e;refine ⟨o,e1,?_⟩;cases u with
   | no=>trivial
   | arg d=>exact e2
   | any d =>
    obtain ⟨v,z,t⟩:=e2;exact ⟨v,z,t.tsame ts (hl j d e)⟩
   | own Ko =>
    obtain ⟨p',Ki,z,n',t,l,a⟩:=e2;subst z;have Kn:p'≠p:=by
     rintro rfl;rw [hp] at t;cases t
    exact ⟨p',Ki,rfl,n',by rw [Qo Kn];exact t,l,a.tsame ts l⟩
   | odc ks' Ko =>
    obtain ⟨p',Ki,z,n',t,l,a⟩:=e2;subst z;have ta:H p'=some (.dK (W3 ks' Ki)):=t.at_;have Kn:p'≠p:=by
     rintro rfl;rw [hp] at ta;cases ta
    exact ⟨p',Ki,rfl,n',⟨t.len,t.nd,by show upd H p (DxO p hs2 as2 ws) p'=_;rw [Qo Kn];exact ta⟩,l,a.tsame ts l⟩
   | ftp Ko =>
    obtain ⟨p',Ki,z,⟨ob,hno,t⟩,l,a⟩:=e2;subst z;have Kn:p'≠p:=by
     rintro rfl;rw [hp] at t;cases t
    exact ⟨p',Ki,rfl,⟨ob,hno,by rw [Qo Kn];exact t⟩,l,a.tsame ts l⟩
   | flt Ko =>
    obtain ⟨p',Ki,z,⟨ob,t⟩,l,a⟩:=e2;exact ⟨p',Ki,z,⟨ob,ts.fz _ _ _ t⟩,l,a.tsame ts l⟩
   | odx hs' ks' Ko=>exact absurd (hx j hs' ks' Ko e) (QS hj)
 ·have look: ∀ (m:Nat) (Ko:List D),(τ.set i (.odx hs2 ks2 es))[m]? =some (.own Ko)->τ[m]? =some (.own Ko):=λm Ko e=>by
   by_cases hm:i=m
   ·subst hm;rw [Qm Ks] at e;cases e
   ·rw [Qh hm] at e;exact e
  exact h.apart j k Ko es' q hjk (look j Ko e1) (look k es' e2)
 ·have look: ∀ (m:Nat) (kk:List Str) (Ko:List D),(τ.set i (.odx hs2 ks2 es))[m]? =some (.odc kk Ko)->τ[m]? =some (.odc kk Ko):=λm kk Ko e=>by
   by_cases hm:i=m
   ·subst hm;rw [Qm Ks] at e;cases e
   ·rw [Qh hm] at e;exact e
  exact h.apD j k kk kk' Ko es' q hjk (look j kk Ko e1) (look k kk' es' e2)
def Rl:Bool->Hp->Hp->Prop
 | true,H,H'=>Same H H'
 | false,H,H'=>TSame H H'
theorem Rl.of {m:Bool} {H H':Hp} (s:Same H H'):Rl m H H':=by
 cases m
 ·exact s.t
 ·exact s
theorem Rl.refl {m:Bool} (H:Hp):Rl m H H:= .of (Same.refl H)
theorem Rl.t {m:Bool} {H H':Hp} (s:Rl m H H'):TSame H H':=by
 cases m
 ·exact s
 ·exact Same.t s
theorem Rl.trans {m n:Bool} {H H1 H2:Hp} (a:Rl m H H1) (b:Rl n H1 H2):Rl (m && n) H H2:=by
 cases m
 ·exact TSame.trans a.t b.t
 ·cases n
  ·exact TSame.trans a.t b.t
  ·exact Same.trans a b
theorem Rl.weak {m n:Bool} {H H1:Hp} (a:Rl m H H1) (h:n=true->m=true):Rl n H H1:=by
 cases n
 ·exact a.t
 ·rw [h rfl] at a;exact a
inductive RO where
 | ret (d:D) | retL (ds:List D) | retT (ds:List D) | next (m:Bool) (τ:List Sl) | brk (m:Bool) (τ:List Sl) | cnt (m:Bool) (τ:List Sl)
def rdO (K:W.Frag) (H₀:Hp) (τ:List Sl) (r:RO):TS:=λDd σ H=>EnvO K H₀ H σ τ/\match r with
 | .ret d=> ∀ v H',Same H₀ H'->Is K H' d v->Dd.rt v H'
 | .retL ds=> ∀ p vs H',H₀ p=none->Same H₀ H'->H' p=some (.lst vs)->Va K H' ds vs->Dd.rt (.ref p) H'
 | .retT ds=> ∀ p vs ob H',ob.dict=none->Same H₀ H'->H' p=some (.frz ob (.tup vs))->Va K H' ds vs->Dd.rt (.ref p) H'
 | .next m τ'=> ∀ Kt H',Rl m H H'->EnvO K H₀ H' Kt τ'->Dd.nx Kt H'
 | .brk m τ'=> ∀ Kt H',Rl m H H'->EnvO K H₀ H' Kt τ'->Dd.bk Kt H'
 | .cnt m τ'=> ∀ Kt H',Rl m H H'->EnvO K H₀ H' Kt τ'->Dd.ct Kt H'
structure QO (X:Cx) (H₀:Hp) (τ:List Sl) (st:Stmt) (r:RO):Prop where
 pe:PS X st (rdO X.K H₀ τ r)
structure QOs (X:Cx) (H₀:Hp) (τ:List Sl) (sts:List Stmt) (r:RO):Prop where
 pe:PSs X sts (rdO X.K H₀ τ r)
section
variable {X:Cx} {H₀:Hp} {τ τ' τ1 τ2:List Sl} {st:Stmt} {sts rest:List Stmt} {r:RO} {e c:Expr} {d:D} {ds es:List D} {pos:Pos} {m n:Bool}
theorem Za:QOs X H₀ τ [] (.next true τ):=⟨Qtk.imp λD σ H q=>q.2 σ H (Rl.refl H) q.1⟩
def RO.after (m:Bool):RO->RO
 | .next n τ=> .next (m && n) τ
 | .brk n τ=> .brk (m && n) τ
 | .cnt n τ=> .cnt (m && n) τ
 | r=>r
theorem OY {Dd:Ends} {σ Kt:St} {H H':Hp} (q:rdO X.K H₀ τ (r.after m) Dd σ H) (t:Rl m H H') (h:EnvO X.K H₀ H' Kt τ1):rdO X.K H₀ τ1 r Dd Kt H':=by
 obtain ⟨_,q⟩:=q;refine ⟨h,?_⟩;cases r with
 | ret d=>exact q
 | retL ds=>exact q
 | retT ds=>exact q
 | next n τ2=>exact λσ2 H2 t2=>q σ2 H2 (t.trans t2)
 | brk n τ2=>exact λσ2 H2 t2=>q σ2 H2 (t.trans t2)
 | cnt n τ2=>exact λσ2 H2 t2=>q σ2 H2 (t.trans t2)
theorem Gr:r.after true=r:=by cases r<;>simp [RO.after]
theorem Qe4 (h1:QO X H₀ τ st (.next m τ1)) (h2:QOs X H₀ τ1 rest r):QOs X H₀ τ (st::rest) (r.after m) :=
 ⟨(Zy h1.pe h2.pe).imp λD σ H q=>⟨q.1,λKt H' t h=>OY q t h⟩⟩
theorem YF (h1:QO X H₀ τ st (.next true τ1)) (h2:QOs X H₀ τ1 rest r):QOs X H₀ τ (st::rest) r:=by
 have:=Qe4 h1 h2;rwa [Gr] at this
theorem Qa8 (h1:QO X H₀ τ st (.next false τ1)) (h2:QOs X H₀ τ1 rest (.next m τ2)):QOs X H₀ τ (st::rest) (.next false τ2):=Qe4 h1 h2
theorem Vq (h1:QO X H₀ τ st (.next m τ1)) (h2:QOs X H₀ τ1 rest (.ret d)):QOs X H₀ τ (st::rest) (.ret d):=Qe4 h1 h2
theorem WT (h1:QO X H₀ τ st (.next m τ1)) (h2:QOs X H₀ τ1 rest (.retL ds)):QOs X H₀ τ (st::rest) (.retL ds):=Qe4 h1 h2
theorem Vz (h1:QO X H₀ τ st r):QOs X H₀ τ [st] r:=⟨YV h1.pe⟩
def RO.leaves:RO->Bool
 | .next _ _=>false
 | _=>true
theorem Qa9 (h1:QO X H₀ τ st r) (hr:r.leaves=true:=by rfl):QOs X H₀ τ (st::rest) r:=by
 have h2:PSs X rest Qo6:=Bx;refine ⟨(Zy h1.pe h2).imp λD σ H q=> ?_⟩;cases r with
 | next m τ2=>cases hr
 | ret d=>exact q
 | retL ds=>exact q
 | retT ds=>exact q
 | brk m τ2=>exact q
 | cnt m τ2=>exact q
def Wk (τ τ':List Sl):Prop:=τ.length=τ'.length/\ ∀ (i:Nat) (s:Sl),τ'[i]? =some s->s= .no \/ τ[i]? =some s \/ ∃ d,s= .any d/\τ[i]? =some (.arg d)
theorem Wk.refl (τ:List Sl):Wk τ τ:=⟨rfl,λi s h=> .inr (.inl h)⟩
theorem EnvO.wk {K:W.Frag} {H:Hp} {σ:St} (h:EnvO K H₀ H σ τ) (w:Wk τ τ'):EnvO K H₀ H σ τ':=by
 have own: ∀ (i:Nat) (ds:List D),τ'[i]? =some (Sl.own ds)->τ[i]? =some (Sl.own ds):=λi ds e=>by
  rcases w.2 i _ e with z | z | ⟨d,z,_⟩
  ·cases z
  ·exact z
  ·cases z
 have odc: ∀ (i:Nat) (ks:List Str) (ds:List D),τ'[i]? =some (Sl.odc ks ds)->τ[i]? =some (Sl.odc ks ds):=λi ks ds e=>by
  rcases w.2 i _ e with z | z | ⟨d,z,_⟩
  ·cases z
  ·exact z
  ·cases z
 refine ⟨h.same,by rw [h.len,w.1],λi s e=> ?_,λi j ds es p hij e1 e2=>h.apart i j ds es p hij (own i ds e1) (own j es e2),λi j ks ks' ds es p hij e1 e2=>h.apD i j ks ks' ds es p hij (odc i ks ds e1) (odc j ks' es e2)⟩;rcases w.2 i s e with rfl | z | ⟨d,rfl,z⟩
 ·have hi:i < σ.length:=by rw [h.len,w.1];exact (Q4.mp e).1
  exact ⟨σ[i],by simp [hi],trivial⟩
 ·exact h.sl i s z
 ·obtain ⟨o,e1,v,rfl,e3⟩:=h.sl i _ z;exact ⟨_,e1,v,rfl,e3.same h.same⟩
theorem ZE (h:QOs X H₀ τ sts (.next m τ1)) (w:Wk τ1 τ2) (hn:n=true->m=true):QOs X H₀ τ sts (.next n τ2) :=
 ⟨PSs.imp h.pe λD σ H q=>⟨q.1,λKt H' t he=>q.2 Kt H' (t.weak hn) (he.wk w)⟩⟩
theorem WG (h:PD X (dat τ) e d):QO X H₀ τ (.Return (some e) pos) (.ret d) :=
 ⟨(Qdy h.pe).imp λD σ H q=>⟨q.1.env,λv H' s i=>q.2 v H' (q.1.same.trans s) i⟩⟩
theorem B4 (h:PDL X (dat τ) e ds):QO X H₀ τ (.Return (some e) pos) (.retL ds) :=
 ⟨(Qdy h.pe).imp λD σ H q=>⟨q.1.env,λp vs H' n s hp i=>q.2 p vs H' (q.1.same.free n) (q.1.same.trans s) hp i⟩⟩
theorem Ut {i:Nat} {x:Str} {p:Pos} (hi:τ[i]? =some (.own ds)) (hN:X.N[i]? =some x:=by rfl) (hv:Vis X.env.scope x:=by first | exact QJ rfl | exact QD (QJ rfl) | exact QD (QD rfl)) (hdb:(x == ("__debug__" :Str))=false:=by decide)
  (hcd:(x == ("__classdict__" :Str))=false:=by decide):QO X H₀ τ (.Return (some (.Name x p)) pos) (.retL ds) :=
 ⟨(Qdy (Wr hN hv hdb hcd)).imp λD σ H q=>by
  obtain ⟨o,e1,p,vs,rfl,n,hp,_,ia⟩:=q.1.sl i _ hi;exact ⟨_,e1,q.2 p vs H n q.1.same hp ia⟩⟩
theorem Z9 {i:Nat} {x:Str} {p:Pos} (h:PD X (dat τ) e d) (hN:X.N.Nodup) (hi:X.N[i]? =some x:=by rfl) (hx:Loc X.env.scope x:=by first | exact QJ rfl | exact QD rfl)
  (hs:swapsWith e (some (.Name x p)) pos.line X.env=pure false:=by rfl) (hf:X.fn x=true \/ X.env.scope.names.lookup x=some .local:=by first | exact .inl rfl | exact .inr rfl):QO X H₀ τ (.Assign [.Name x p] e pos) (.next true (τ.set i (.any d))) :=
 ⟨(Gj hN hi hx h.pe hs hf).imp λD σ H q=>⟨q.1.env,λv H' s iv=>q.2 _ H' s ((q.1.step s).set i ⟨v,rfl,iv⟩ λds e=>nomatch e)⟩⟩
theorem EnvO.setOwn {K:W.Frag} {H H':Hp} {σ:St} {p:Addr} {vs:List V} (h:EnvO K H₀ H σ τ) (i:Nat) (n:H p=none) (s:Same H H') (hp:H' p=some (.lst vs)) (hl:LFs ds=true) (iv:Va K H' ds vs):EnvO K H₀ H' (σ.set i (some (.ref p))) (τ.set i (.own ds)) :=
 (h.step s).set i ⟨p,vs,rfl,h.same.free n,hp,hl,iv⟩ λKo _ j p' es e t _ z=>by
  cases e;obtain ⟨o,e1,p2,vs2,e2,_,hp2,_⟩:=h.sl j _ t;rw [z] at e1;cases e1;cases e2;rw [n] at hp2;cases hp2
theorem JR {i:Nat} {x:Str} {p:Pos} (h:PDL X (dat τ) e ds) (hl:LFs ds=true) (hN:X.N.Nodup) (hi:X.N[i]? =some x:=by rfl) (hx:Loc X.env.scope x:=by first | exact QJ rfl | exact QD rfl)
  (hs:swapsWith e (some (.Name x p)) pos.line X.env=pure false:=by rfl) (hf:X.fn x=true \/ X.env.scope.names.lookup x=some .local:=by first | exact .inl rfl | exact .inr rfl):QO X H₀ τ (.Assign [.Name x p] e pos) (.next true (τ.set i (.own ds))) :=
 ⟨(Gj hN hi hx h.pe hs hf).imp λD σ H q=>⟨q.1.env,λp vs H' n s hp iv=>q.2 _ H' s (q.1.setOwn i n s hp hl iv)⟩⟩
theorem ZF {k:Bool} {A B:List Stmt} (hc:PB X (dat τ) c k) (ha:k=true->QOs X H₀ τ A r) (hb:k=false->QOs X H₀ τ B r):QO X H₀ τ (.If c A B pos) r:=by
 cases k with
 | true=>exact ⟨(Qvu hc.pe (ha rfl).pe (Bx (sts:=B))).imp λD σ H q=>⟨q.1.env,λH' s=>Qmw (OY (m:=true) (by rw [Gr];exact q) s (q.1.step s))⟩⟩
 | false=>exact ⟨(Qvu hc.pe (Bx (sts:=A)) (hb rfl).pe).imp λD σ H q=>⟨q.1.env,λH' s=>Qqy (OY (m:=true) (by rw [Gr];exact q) s (q.1.step s))⟩⟩
theorem Y7 {i:Nat} {x:Str} {p ap cp:Pos} (hi:τ[i]? =some (.own ds)) (h:PD X (dat τ) e d) (ld:LF d=true) (hl: ∀ (j:Nat) (d:D),τ[j]? =some (.any d)->LF d=true) (hz:ds.length < sizeLine)
  (hN:X.N[i]? =some x:=by rfl) (hv:Vis X.env.scope x:=by first | exact QJ rfl | exact QD (QJ rfl) | exact QD (QD rfl)) (hdb:(x == ("__debug__" :Str))=false:=by decide) (hcd:(x == ("__classdict__" :Str))=false:=by decide)
  (Kh:(ap.endLine == cp.line)=true:=by rfl) (hs:starEach [e] X.env=[(false,eval e X.env)]:=by rfl) :
  QO X H₀ τ (.Expr (.Call (.Attribute (.Name x p) "append" ap) [e] [] cp) pos) (.next false (τ.set i (.own (ds++[d])))):=by
 have pe:PE X (.Call (.Attribute (.Name x p) "append" ap) [e] [] cp) (tBM X.K "list" Qk6 (OQ i) (Qjl (rdD X.K (dat τ) d) Qt4)) :=
  Qc3 Ye PySem.F.slot_list_append PySem.F.type_list_append Qcb (Wr hN hv hdb hcd) (Ws h.pe Z8 hs) rfl (by rw [hs];rfl) Kh hs rfl
 refine ⟨(YW pe rfl).imp λD σ H q=> ?_⟩;obtain ⟨o,e1,p,vs,rfl,n,hp,lf,ia⟩:=q.1.sl i _ hi;refine ⟨_,e1,.inl ⟨rfl,vs,SqL.of hp⟩,q.1.env,λv H' s iv=>⟨p,vs,v,rfl,rfl,s _ _ hp,?_,?_⟩⟩
 ·rw [<- ia.length];exact hz
 ·refine q.2 σ _ (s.t.trans (TSame.lst (s _ _ hp))) ((q.1.step s).mut hi e1 n (s _ _ hp) hl ?_ ((ia.same s).append (Vg iv QR)));rw [WH,lf];simp [LFs,ld]
theorem Qq0 {i:Nat} {x:Str} {p ap cp:Pos} (hi:τ[i]? =some (.own ds)) (h:PDL X (dat τ) e es) (ld:LFs es=true) (hl: ∀ (j:Nat) (d:D),τ[j]? =some (.any d)->LF d=true) (hz:ds.length+es.length<=sizeLine)
  (hN:X.N[i]? =some x:=by rfl) (hv:Vis X.env.scope x:=by first | exact QJ rfl | exact QD (QJ rfl) | exact QD (QD rfl)) (hdb:(x == ("__debug__" :Str))=false:=by decide) (hcd:(x == ("__classdict__" :Str))=false:=by decide)
  (Kh:(ap.endLine == cp.line)=true:=by rfl) (hs:starEach [e] X.env=[(false,eval e X.env)]:=by rfl) :
  QO X H₀ τ (.Expr (.Call (.Attribute (.Name x p) "extend" ap) [e] [] cp) pos) (.next false (τ.set i (.own (ds++es)))):=by
 have pe:PE X (.Call (.Attribute (.Name x p) "extend" ap) [e] [] cp) (tBM X.K "list" Qk5 (OQ i) (Qjl (rdL X.K (dat τ) es) Qt4)) :=
  Qc3 Ye PySem.F.slot_list_extend PySem.F.type_list_extend Qml (Wr hN hv hdb hcd) (Ws h.pe Z8 hs) rfl (by rw [hs];rfl) Kh hs rfl
 refine ⟨(YW pe rfl).imp λD σ H q=> ?_⟩;obtain ⟨o,e1,p,vs,rfl,n,hp,lf,ia⟩:=q.1.sl i _ hi;refine ⟨_,e1,.inl ⟨rfl,vs,SqL.of hp⟩,q.1.env,λb ws H' nb s hb iv=>⟨p,b,vs,ws,rfl,rfl,s _ _ hp,hb,?_,?_⟩⟩
 ·rw [<- ia.length,<- iv.length];exact hz
 ·refine q.2 σ _ (s.t.trans (TSame.lst (s _ _ hp))) ((q.1.step s).mut hi e1 n (s _ _ hp) hl ?_ ((ia.same s).append iv));rw [WH,lf,ld];rfl
theorem Qmf {elt iter:Expr} {x y:Str} {px py cp:Pos} {ifs:List Expr} {scope:Scope} {p:D->Bool} {f:D->D} {i:Nat} (hl:LFs ((ds.filter p).map f)=true) (hN:X.N.Nodup) (hc:X.calm=true) (hi:PDI X (dat τ) (.Name x px) iter ds) (hz:ds.length<=sizeLine)
  (ht: ∀ d∈ds,∀ cl C s H ex,PTB (cxC X x scope cl C s H ex) (some d::dat τ) ifs (p d)) (he: ∀ d∈ds,p d=true-> ∀ cl C s H ex,PD (cxC X x scope cl C s H ex) (some d::dat τ) elt (f d))
  (hyi:X.N[i]? =some y:=by rfl) (hyl:X.env.scope.names.lookup y=some .local:=by rfl) (hok:WI X.N X.env.scope x scope=true:=by rfl) (hs: ∀ x,foldedSetIterable iter X.env x=pure x:=by intro _;rfl)
  (hsw:swapsWith (.ListComp elt [⟨.Name x px,iter,ifs,0⟩] scope cp) (some (.Name y py)) pos.line X.env=pure true:=by rfl) :
  QO X H₀ τ (.Assign [.Name y py] (.ListComp elt [⟨.Name x px,iter,ifs,0⟩] scope cp) pos) (.next true (τ.set i (.own ((ds.filter p).map f)))) :=
 ⟨(Qtn hN hyi hyl hc hi.pe (λcl C s H ex Kz s' σ H' Q I ⟨d,hd,q⟩=>(ht d hd cl C s H ex).pe Kz s' σ H' Q I q) (λcl C s H ex Kz s' σ H' Q I ⟨d,hd,hp,q⟩=>(he d hd hp cl C s H ex).pe Kz s' σ H' Q I q) hok hs hsw).imp λD σ H q =>
  Qcy hz ⟨q.1.env,λp vs H' n s hp iv=>q.2 _ H' s (q.1.setOwn i n s hp hl iv)⟩⟩
theorem B2 {elt iter:Expr} {x y:Str} {px py cp:Pos} {scope:Scope} {f:D->D} {i:Nat} (hl:LFs (ds.map f)=true) (hN:X.N.Nodup) (hc:X.calm=true) (hi:PDI X (dat τ) (.Name x px) iter ds) (hz:ds.length<=sizeLine)
  (he: ∀ d∈ds,∀ cl C s H ex,PD (cxC X x scope cl C s H ex) (some d::dat τ) elt (f d))
  (hyi:X.N[i]? =some y:=by rfl) (hyl:X.env.scope.names.lookup y=some .local:=by rfl) (hok:WI X.N X.env.scope x scope=true:=by rfl) (hs: ∀ x,foldedSetIterable iter X.env x=pure x:=by intro _;rfl)
  (hsw:swapsWith (.ListComp elt [⟨.Name x px,iter,[],0⟩] scope cp) (some (.Name y py)) pos.line X.env=pure true:=by rfl) :
  QO X H₀ τ (.Assign [.Name y py] (.ListComp elt [⟨.Name x px,iter,[],0⟩] scope cp) pos) (.next true (τ.set i (.own (ds.map f)))):=by
 have:=Qmf (H₀:=H₀) (pos:=pos) (py:=py) (cp:=cp) (elt:=elt) (scope:=scope) (ifs:=[]) (p:=λ_=>true) (by rwa [BO]) hN hc hi hz (λd hd=>Qoy) (λd hd _=>he d hd) hyi hyl hok hs hsw;rwa [BO] at this
structure JSt (K:W.Frag) (H₀:Hp) (J:It) (St:Hp->Prop) (ds:List D) (slot:D->Sl):Prop where
 go: ∀ i H',St H'->i < ds.length->J.go i H'
 yld: ∀ i H' x H2,St H'->i < ds.length->J.yld i H' x H2->H2=H'/\ ∃ d,ds[i]? =some d/\SlIs K H₀ H' (slot d) (some x)
 stop: ∀ i H',St H'->ds.length<=i->J.stop i H'
theorem Qe3 {iter:Expr} {x:Str} {px:Pos} {body:List Stmt} {j:Nat} {wi:TI} {slot:D->Sl} (Kq:Nat->List Sl) (hno: ∀ d ds,slot d≠ .own ds) (hnoD: ∀ d ks ds,slot d≠ .odc ks ds) (hp:PassesOwn (model X.prog X.w) X.A X.env X.xe) (hc:X.calm=true) (hi:PI X (.Name x px) iter wi)
  (hr: ∀ σ H R,EnvO X.K H₀ H σ τ->(∀ J H' (St:Hp->Prop),Same H H'->St H'->(∀ H1 H2,St H1->Rl m H1 H2->Same H₀ H2->St H2)->JSt X.K H₀ J St ds slot->R J H')->wi σ H R)
  (h0:Kq 0=τ) (hb: ∀ (i:Nat) (d:D),ds[i]? =some d-> ∃ n,QOs X H₀ ((Kq i).set j (slot d)) body (.next n (Kq (i+1)))/\(m=true->n=true))
  (hN:X.N.Nodup) (hj:X.N[j]? =some x:=by rfl) (hx:Loc X.env.scope x:=by first | exact QJ rfl | exact QD rfl) (hf:X.fn x=true \/ X.env.scope.names.lookup x=some .local:=by first | exact .inl rfl | exact .inr rfl)
  (hs: ∀ x,foldedSetIterable iter X.env x=pure x:=by intro _;rfl) :
  QO X H₀ τ (.For (.Name x px) iter body [] pos) (.next m (Kq ds.length)):=by
 have hb':PSs X body (λD σ H=> ∃ i d,ds[i]? =some d/\rdO X.K H₀ ((Kq i).set j (slot d)) (.next m (Kq (i+1))) D σ H):=λKz s σ H D I ⟨i,d,hd,q⟩=>by
  obtain ⟨n,hq,hn⟩:=hb i d hd;exact hq.pe Kz s σ H D I ⟨q.1,λKt H' t=>q.2 Kt H' (t.weak hn)⟩
 refine ⟨(Yv hp hc hi (Jr (i:=j) hN hj hx hf) hb' hs).imp λD σ H q=> ?_⟩;refine hr σ H _ q.1 λJ H1 St s1 st1 keep ji=> ?_
 refine ⟨λi k Kt H'=>i<=ds.length/\k=ds.length - i/\EnvO X.K H₀ H' Kt (Kq i)/\Rl m H H'/\St H',⟨ds.length,Qz _,rfl,by rw [h0];exact q.1.step s1,.of s1,st1⟩,?_⟩;rintro i k Kt H' ⟨hi',rfl,he,hm,st⟩
 by_cases Ks:i < ds.length
 ·refine .inr ⟨ji.go i H' st Ks,λσ2 H2=>EnvO X.K H₀ H2 σ2 (Kq (i+1))/\Rl m H' H2,λσ2 H2 ⟨he2,hm2⟩=>⟨ds.length - (i+1),by omega,Ks,rfl,he2,?_,keep H' H2 st hm2 he2.same⟩,λy H2 yl=> ?_⟩
  ·have:=hm.trans hm2;rwa [Wm] at this
  ·obtain ⟨e,d,hd,is⟩:=ji.yld i H' y H2 st Ks yl;subst e;exact ⟨i,d,hd,he.set j is (λKo e=>absurd e (hno d Ko)) (λks' Ko e=>absurd e (hnoD d ks' Ko)),λσ3 H3 t3 he3=>⟨he3,t3⟩⟩
 ·have e:i=ds.length:=by omega
  subst e;exact .inl ⟨ji.stop _ H' st (Q5 _),q.2 Kt H' hm he⟩
theorem Ja1 {iter:Expr} {x:Str} {px:Pos} {body:List Stmt} {j:Nat} (Kq:Nat->List Sl) (hp:PassesOwn (model X.prog X.w) X.A X.env X.xe) (hc:X.calm=true) (hi:PDI X (dat τ) (.Name x px) iter ds)
  (h0:Kq 0=τ) (hb: ∀ (i:Nat) (d:D),ds[i]? =some d->QOs X H₀ ((Kq i).set j (.any d)) body (.next true (Kq (i+1))))
  (hN:X.N.Nodup) (hj:X.N[j]? =some x:=by rfl) (hx:Loc X.env.scope x:=by first | exact QJ rfl | exact QD rfl) (hf:X.fn x=true \/ X.env.scope.names.lookup x=some .local:=by first | exact .inl rfl | exact .inr rfl)
  (hs: ∀ x,foldedSetIterable iter X.env x=pure x:=by intro _;rfl) :
  QO X H₀ τ (.For (.Name x px) iter body [] pos) (.next true (Kq ds.length)) :=
 Qe3 (slot:= .any) Kq (λ_ _ e=>nomatch e) (λ_ _ _ e=>nomatch e) hp hc hi.pe (λσ H R he h=>⟨he.env,λJ H' s ji=>h J H' (λH2=>Same H' H2) s (Same.refl H') (λH1 H2 a b _=>Same.trans a b)
  ⟨λi H2 st hi=>ji.go i H2 st hi,λi H2 v H3 st hi y=>let ⟨e,d,hd,is⟩:=ji.yld i H2 v H3 st hi y;⟨e,d,hd,v,rfl,is⟩,λi H2 st hi=>ji.stop i H2 st hi⟩⟩) h0 (λi d hd=>⟨true,hb i d hd,λ_=>rfl⟩) hN hj hx hf hs
theorem Qpz {a:Expr} {x:Str} {px cp rp:Pos} {body:List Stmt} {j:Nat} {k:Int} (Kq:Nat->List Sl) (hp:PassesOwn (model X.prog X.w) X.A X.env X.xe) (hc:X.calm=true) (hm:X.mg "range" =none) (ha:PD X (dat τ) a (.int k)) (h1: -(2 ^ 62)<=k) (h2:k < 2 ^ 62)
  (h0:Kq 0=τ) (hb: ∀ (i:Nat),i < k.toNat-> ∃ n,QOs X H₀ ((Kq i).set j (.any (.int i))) body (.next n (Kq (i+1)))/\(m=true->n=true))
  (hN:X.N.Nodup) (hj:X.N[j]? =some x:=by rfl) (hx:Loc X.env.scope x:=by first | exact QJ rfl | exact QD rfl) (hf:X.fn x=true \/ X.env.scope.names.lookup x=some .local:=by first | exact .inl rfl | exact .inr rfl)
  (hg:Gl X "range" :=by rfl) (hse:starEach [a] X.env=[(false,eval a X.env)]:=by rfl) (hs: ∀ x,foldedSetIterable (.Call (.Name "range" rp) [a] [] cp) X.env x=pure x:=by intro _;rfl) :
  QO X H₀ τ (.For (.Name x px) (.Call (.Name "range" rp) [a] [] cp) body [] pos) (.next m (Kq k.toNat)):=by
 have Kr:(W4 0 k.toNat).length=k.toNat:=by simp [W4]
 have:=Qe3 (H₀:=H₀) (pos:=pos) (m:=m) (ds:=W4 0 k.toNat) (slot:= .any) Kq (λ_ _ e=>nomatch e) (λ_ _ _ e=>nomatch e) hp hc (Qc2 (tg:= .Name x px) (pos:=cp) (p:=rp) hg hm (Vc ha Vn hse).pe hse) (λσ H R he h=>⟨he.env,λvs H' s ia=>by
   obtain ⟨v,rfl,i⟩:=ia.one;have e:=ZI i;subst e;refine ⟨k,rfl,h1,h2,h _ H' (λ_=>True) s trivial (λ_ _ _ _ _=>trivial) ⟨λi H2 _ hi=> ?_,λi H2 v H3 _ hi y=> ?_,λi H2 _ hi=> ?_⟩⟩
   ·exact (UX (K:=X.K) (H:=H2) 0 k.toNat).go i H2 (Same.refl _) hi
   ·obtain ⟨e,d,hd,is⟩:=(UX (K:=X.K) (H:=H2) 0 k.toNat).yld i H2 v H3 (Same.refl _) hi y;exact ⟨e,d,hd,v,rfl,is⟩
   ·exact (UX (K:=X.K) (H:=H2) 0 k.toNat).stop i H2 (Same.refl _) hi⟩) h0 (λi d hd=>by
   have hi:i < k.toNat:=by
    rw [<- Kr];exact (Q4.mp hd).1
   have e:d= .int i:=by
    simp [W4,hi] at hd;rw [<- hd]
   subst e;exact hb i hi) hN hj hx hf hs
 rwa [Kr] at this
theorem Qy4 {iter:Expr} {x:Str} {px:Pos} {body:List Stmt} {j:Nat} (Kq:Nat->List Sl) (hp:PassesOwn (model X.prog X.w) X.A X.env X.xe) (hc:X.calm=true) (hi:PD X (dat τ) iter (.tup ds)) (hl:LFs ds=true)
  (h0:Kq 0=τ) (hb: ∀ (i:Nat) (d:D),ds[i]? =some d-> ∃ n,QOs X H₀ ((Kq i).set j (.any d)) body (.next n (Kq (i+1)))/\(m=true->n=true))
  (hN:X.N.Nodup) (hj:X.N[j]? =some x:=by rfl) (hx:Loc X.env.scope x:=by first | exact QJ rfl | exact QD rfl) (hf:X.fn x=true \/ X.env.scope.names.lookup x=some .local:=by first | exact .inl rfl | exact .inr rfl)
  (hs: ∀ x,foldedSetIterable iter X.env x=pure x:=by intro _;rfl) :
  QO X H₀ τ (.For (.Name x px) iter body [] pos) (.next m (Kq ds.length)) :=
 Qe3 (slot:= .any) Kq (λ_ _ e=>nomatch e) (λ_ _ _ e=>nomatch e) hp hc (Qa2 (tg:= .Name x px) hi.pe) (λσ H R he h=>⟨he.env,λv H' s iv=>by
  obtain ⟨p,vs,rfl,hq,ia⟩:=JB iv;have tq: ∀ {H2:Hp},TSame H' H2->SqT X.K H2 p vs:=λt=>by
   rcases hq with hq | hq
   ·exact .inl (t.tp _ _ hq)
   ·exact .inr hq
  refine ⟨p,rfl,⟨vs,hq⟩,h _ H' (λH2=>TSame H' H2) s (TSame.refl H') (λH1 H2 a b _=>a.trans b.t) ⟨λi H2 t hi=> ?_,λi H2 v H3 t hi y=> ?_,λi H2 t hi=> ?_⟩⟩
  ·exact (U0 (tq t) (ia.tsame t hl)).go i H2 (Same.refl _) hi
  ·obtain ⟨e,d,hd,is⟩:=(U0 (tq t) (ia.tsame t hl)).yld i H2 v H3 (Same.refl _) hi y;exact ⟨e,d,hd,v,rfl,is⟩
  ·exact (U0 (tq t) (ia.tsame t hl)).stop i H2 (Same.refl _) hi⟩) h0 hb hN hj hx hf hs
theorem Qie {x y:Str} {px py:Pos} {body:List Stmt} {j k:Nat} (Kq:Nat->List Sl) (hp:PassesOwn (model X.prog X.w) X.A X.env X.xe) (hc:X.calm=true) (hk:τ[k]? =some (.arg (.lst ds)))
  (h0:Kq 0=τ) (hb: ∀ (i:Nat) (d:D),ds[i]? =some d-> ∃ n,QOs X H₀ ((Kq i).set j (.arg d)) body (.next n (Kq (i+1)))/\(m=true->n=true))
  (hN:X.N.Nodup) (hky:X.N[k]? =some y:=by rfl) (hv:Vis X.env.scope y:=by first | exact QJ rfl | exact QD (QJ rfl) | exact QD (QD rfl)) (hdb:(y == ("__debug__" :Str))=false:=by decide) (hcd:(y == ("__classdict__" :Str))=false:=by decide)
  (hj:X.N[j]? =some x:=by rfl) (hx:Loc X.env.scope x:=by first | exact QJ rfl | exact QD rfl) (hf:X.fn x=true \/ X.env.scope.names.lookup x=some .local:=by first | exact .inl rfl | exact .inr rfl)
  (hs: ∀ x,foldedSetIterable (.Name y py) X.env x=pure x:=by intro _;rfl) :
  QO X H₀ τ (.For (.Name x px) (.Name y py) body [] pos) (.next m (Kq ds.length)) :=
 Qe3 (slot:= .arg) Kq (λ_ _ e=>nomatch e) (λ_ _ _ e=>nomatch e) hp hc (ZY (tg:= .Name x px) (Wr hky hv hdb hcd)) (λσ H R he h=>by
  obtain ⟨o,e1,v,rfl,iv⟩:=he.sl k _ hk;obtain ⟨p,vs,rfl,hq,ia⟩:=JY iv;refine ⟨_,e1,p,rfl,⟨vs,he.same.seq hq⟩,h _ H (λH2=>Same H₀ H2) (Same.refl H) he.same (λH1 H2 a b c=>c) ⟨λi H2 t hi=> ?_,λi H2 v H3 t hi y=> ?_,λi H2 t hi=> ?_⟩⟩
  ·exact (Zb (t.seq hq) (ia.same t)).go i H2 (Same.refl _) hi
  ·obtain ⟨e,y⟩:=y;have z:=y vs (t.seq hq);obtain ⟨d,hd,is⟩:=ia.at z;exact ⟨e,d,hd,v,rfl,is⟩
  ·exact (Zb (t.seq hq) (ia.same t)).stop i H2 (Same.refl _) hi) h0 hb hN hj hx hf hs
def args (ds:List D) (n:Nat):List Sl:=ds.map .arg++List.replicate (n - ds.length) .no
theorem Qam {K:W.Frag} {H:Hp} {N:List Str} {vs:List V} (h:Va K H ds vs) (hl:ds.length<=N.length):EnvO K H H (start N vs) (args ds N.length):=by
 have e:=h.length;refine ⟨Same.refl H,?_,λi s hi=> ?_,λi j Ko es p _ e1=> ?_,λi j ks' _ Ko es p _ e1=> ?_⟩
 ·simp [start,args];omega
 ·by_cases Ks:i < ds.length
  ·rw [args,QU (by simpa using Ks),Qe] at hi;have hd:ds[i]? =some ds[i]:=by simp [Ks]
   rw [hd] at hi;have:s= .arg ds[i]:=by simpa using hi.symm
   subst this;obtain ⟨v,e1,e2⟩:=h.get hd;refine ⟨some v,?_,v,rfl,e2⟩;rw [start,QU (by simp;omega),Qe,e1];rfl
  ·have hno:s= .no:=by
    rw [args,Jq (by simpa using Ks),Yg] at hi;split at hi
    ·exact (J4 hi).symm
    ·cases hi
   subst hno;have hi2:i < N.length:=by
    have:=(Q4.mp hi).1;simp [args] at this;omega
   have:i < (start N vs).length:=by
    simp [start];omega
   exact ⟨(start N vs)[i],by simp [this],trivial⟩
 ·exfalso
  by_cases Ks:i < ds.length
  ·rw [args,QU (by simpa using Ks),Qe] at e1;cases q:ds[i]? with
   | none=>rw [q] at e1;cases e1
   | some d=>rw [q] at e1;cases e1
  ·rw [args,Jq (by simpa using Ks),Yg] at e1;split at e1<;>cases e1
 ·exfalso
  by_cases Ks:i < ds.length
  ·rw [args,QU (by simpa using Ks),Qe] at e1;cases q:ds[i]? with
   | none=>rw [q] at e1;cases e1
   | some d=>rw [q] at e1;cases e1
  ·rw [args,Jq (by simpa using Ks),Yg] at e1;split at e1<;>cases e1
end
section
variable {P:Program} {w:World} {K:W.Frag} {mg:Str->Option Value} {base:Heap}
theorem Qyn {x qual:Str} {st:Stmt} {f:Addr} {fd:FuncData} {N ps:List Str} {k:Nat} {R:List D->D->Prop} (F:Fun K x qual st f fd) (S:Vf N ps (Vs st)) (hl:ps.length<=N.length)
  (hb: ∀ (Km:Value) (A:Around) (outer:List Env) (s:Shared) (H:Hp) (E:XK) (ds:List D) (d:D),Room k (A.deeper (envOfC qual (Vs st) s.heap.objs.size f Km))->R ds d->ds.length=ps.length ->
   QOs (Ga CX0 P w K mg base N qual (Vs st) f Km A outer s H E).nox H (args ds N.length) (JM st) (.ret d)):FnOk P w K mg base CX0 (k+1) f fd ps (spD K ps.length R):=by
 refine F.ok S (λvs H Q E h=>h.1) (λKm A outer s H vs Q E hr h=> ?_);obtain ⟨hn,ds,d,ia,hR,q⟩:=h;have hd:ds.length=ps.length:=by rw [ia.length];exact hn
 exact ⟨_,(hb Km A outer s H E ds d hr hR hd).pe,Qam ia (by omega),λv H' s' i=>q v H' s' i⟩
def spL (K:W.Frag) (n:Nat) (R:List D->List D->Prop):Sp:=λvs H Q _=>vs.length=n/\ ∃ ds es,Va K H ds vs/\R ds es/\ ∀ p us H',H p=none->Same H H'->H' p=some (.lst us)->Va K H' es us->Q (.ref p) H'
theorem Jbd {x qual:Str} {st:Stmt} {f:Addr} {fd:FuncData} {N ps:List Str} {k:Nat} {R:List D->List D->Prop} (F:Fun K x qual st f fd) (S:Vf N ps (Vs st)) (hl:ps.length<=N.length)
  (hb: ∀ (Km:Value) (A:Around) (outer:List Env) (s:Shared) (H:Hp) (E:XK) (ds es:List D),Room k (A.deeper (envOfC qual (Vs st) s.heap.objs.size f Km))->R ds es->ds.length=ps.length ->
   QOs (Ga CX0 P w K mg base N qual (Vs st) f Km A outer s H E).nox H (args ds N.length) (JM st) (.retL es)):FnOk P w K mg base CX0 (k+1) f fd ps (spL K ps.length R):=by
 refine F.ok S (λvs H Q E h=>h.1) (λKm A outer s H vs Q E hr h=> ?_);obtain ⟨hn,ds,es,ia,hR,q⟩:=h;have hd:ds.length=ps.length:=by rw [ia.length];exact hn
 exact ⟨_,(hb Km A outer s H E ds es hr hR hd).pe,Qam ia (by omega),λp us H' n s' hp i=>q p us H' n s' hp i⟩
end
section
variable {X:Cx} {ρ:List (Option D)} {e:Expr} {es:List Expr} {ds rs:List D} {pos:Pos}
theorem Qv9 {k n:Nat} {f:Addr} {fd:FuncData} {ps:List Str} {R:List D->List D->Prop} {x:Str} {p:Pos} (F:FnOk X.prog X.w X.K X.mg X.base CX0 k f fd ps (spL X.K n R)) (hr:Room k X.A) (hm:X.mg x=some (.ref f)) (hk:W.keepIn X.K (.ref f)=true)
  (hb:Binds X.K fd ps []) (ha:PDs X ρ (e::es) ds) (hn:ds.length=n) (hR:R ds rs) (hg:Gl X x:=by rfl) (hdb:(x == ("__debug__" :Str))=false:=by decide)
  (he:starEach (e::es) X.env=(false,eval e X.env)::starEach es X.env:=by rfl) (hpl:(backTo pos (starEach es X.env)).any (·.1)=false:=by rfl):PDL X ρ (.Call (.Name x p) (e::es) [] pos) rs :=
 ⟨(Qkf F hr hg hm hk hb .nil pass0 ha.pe hdb he hpl).imp λσ H Q q=>⟨q.1,λvs H1 s1 i1=>by
  show spL X.K n R (vs++[]) H1 Q _;rw [JS];exact ⟨by rw [<- i1.length];exact hn,ds,rs,i1,hR,λp us H2 n2 s2 hp i2=>q.2 p us H2 (s1.free n2) (s1.trans s2) hp i2⟩⟩⟩
end
section
variable {X:Cx} {ρ:List (Option D)} {a b c e:Expr} {es:List Expr} {d da db dc:D} {ds xs ys:List D} {pos:Pos}
theorem Qwy:SlR X (λx lo hi H Q=> ∃ z,x= .str z/\z.length<=sizeLine/\Q (.str (Txt.slice z lo hi)) H):=by
 intro Kz s σ H x v vl vu lo hi sl Q I rx hs pl pu h;obtain ⟨z,rfl,hz,q⟩:=h;obtain ⟨t,rfl⟩:=rx;refine ⟨"str",_,F.slot_str_getitem.lookup,typeIs_str _ _ _,?_⟩;obtain ⟨o,h1,h2,h3⟩:=hs;have Kj: ∀ t' k,EP X Kz σ Q (.str (Txt.slice z lo hi) t') { s with toks:=k }:=λt' k=>⟨.str (Txt.slice z lo hi),H,I.tok _,⟨_,rfl⟩,q⟩
 have go: ∀ (l u:Option (Int×Tok)),vl=partValue l->vu=partValue u->l.map (·.1)=lo->u.map (·.1)=hi->wpAny (model X.prog X.w) X.A (getItem (.str z t) (.ref sl)) (EP X Kz σ Q) X.xe s:=by
  rintro l u rfl rfl rfl rfl;exact wpAny_getItem_str_slice (l:=l) (u:=u) (st:=none) ⟨o,h1,h2,h3⟩ rfl (post_val_or_str ⟨Qu (Txt.slice_le z _ _) hz,Kj⟩)
 cases pl with
 | none =>
  cases pu with
  | none=>exact go none none rfl rfl rfl rfl
  | int j tj=>exact go none (some (j,tj)) rfl rfl rfl rfl
 | int i ti =>
  cases pu with
  | none=>exact go (some (i,ti)) none rfl rfl rfl rfl
  | int j tj=>exact go (some (i,ti)) (some (j,tj)) rfl rfl rfl rfl
def Og {α:Type} (xs:List α) (lo hi:Option Int):List α:=(xs.drop (HT.sIx xs.length 0 lo)).take (HT.sIx xs.length xs.length hi - HT.sIx xs.length 0 lo)
theorem Qmy {K:W.Frag} {H:Hp} {vs:List V} (lo hi:Option Int) (h:Va K H ds vs):Va K H (Og ds lo hi) (Qn9 vs lo hi):=by
 unfold Og Qn9;rw [<- h.length];exact (h.drop _).take _
structure PDO (X:Cx) (ρ:List (Option D)) (e:Option Expr) (o:Option Int):Prop where
 pe:PO X e (λσ H Q=>EnvIs X.K H σ ρ/\ ∀ H',Same H H'->Q o H')
theorem PO.imp {e:Option Expr} {t t':TO} (h:PO X e t) (w: ∀ σ H Q,t' σ H Q->t σ H Q):PO X e t':=λKz s σ H Q I q=>h Kz s σ H Q I (w σ H Q q)
theorem Qkz:PDO X ρ none none:=⟨Qtp.imp λσ H Q q=>q.2 H (Same.refl H)⟩
theorem OA {i:Int} (h:PD X ρ e (.int i)):PDO X ρ (some e) (some i):=⟨(Qto h.pe).imp λσ H Q q=>⟨q.1,λv H1 s1 i1=>⟨i,ZI i1,q.2 H1 s1⟩⟩⟩
theorem Qge {lo hi:Option Expr} {ol oh:Option Int} {p2:Pos} (ha:PD X ρ a (.lst ds)) (hl:PDO X ρ lo ol) (hu:PDO X ρ hi oh):PDL X ρ (.Subscript a (.Slice lo hi none p2) pos) (Og ds ol oh) :=
 ⟨(Qfp Qtb ha.pe hl.pe hu.pe).imp λσ H Q q=>⟨q.1,λv H1 s1 i1=>⟨q.1.same s1,λH2 s2=>⟨(q.1.same s1).same s2,λH3 s3=>by
  obtain ⟨p,vs,rfl,hq,r⟩:=JY i1;have s:=(s1.trans s2).trans s3;exact ⟨p,vs,rfl,(s2.trans s3).seq hq,λl hl=>q.2 l _ _ (s.free hl) (s.trans (Same.upd hl)) Vu (Qmy _ _ ((r.same (s2.trans s3)).same (Same.upd hl)))⟩⟩⟩⟩⟩
theorem Qu3:OpR X (binaryOp .Add) (λx y H Q=> ∃ l b xs zs,x= .ref l/\y= .ref b/\SqL X.K H l xs/\SqL X.K H b zs/\xs.length+zs.length<=sizeLine/\ ∀ p,H p=none->Q (.ref p) (upd H p (.lst (xs++zs)))):=by
 intro Kz s σ H x y v u Q I rx ry h;obtain ⟨l,b,xs,zs,rfl,rfl,hl,hb,hz,q⟩:=h;cases rx;cases ry;obtain ⟨Kv,r1,p1,_⟩:=I.list hl;obtain ⟨its2,r2,p2,_⟩:=I.list hb;obtain ⟨⟨cls,dd,data,sl⟩,ho,hc,n,hd⟩:=id p1.isList;obtain ⟨⟨cls2,dd2,data2,sl2⟩,ho2,hc2,n2,hd2⟩:=id p2.isList;simp only at hc hd hc2 hd2;subst hc hd hc2 hd2;have Kr:=r1.length;have hlen2:=r2.length;refine concat_meets ⟨_,ho,rfl⟩ ⟨_,ho2,rfl⟩ noFill_list_add seq_list_add PySem.F.slot_list_add PySem.F.entry_list_add (PySem.F.args_list_add_2 _ _) (list_addW l b Kv.toArray its2.toArray n n2 dd dd2 sl sl2 (by rw [Ql,Ql];omega)) ⟨ho,ho2,?_⟩;have e:Kv.toArray++its2.toArray=(Kv++its2).toArray:=by simp
 rw [e];exact ⟨.ref _,_,I.lnew (t':=s.toks) (r1.append r2) (by rw [Qs];omega),rfl,q _ I.fresh⟩
theorem Qap (ha:PD X ρ a (.lst xs)) (hb:PD X ρ b (.lst ys)) (hz:xs.length+ys.length<=sizeLine):PDL X ρ (.BinOp a .Add b pos) (xs++ys) :=
 ⟨(Qvv Qu3 ha.pe hb.pe).imp λσ H Q q=>⟨q.1,λv H1 s1 i1=>⟨q.1.same s1,λu H2 s2 i2=>by
  obtain ⟨p,vs,rfl,hq,r⟩:=JY (i1.same s2);obtain ⟨p',Ki,rfl,hq',r'⟩:=JY i2;have s:=s1.trans s2;exact ⟨p,p',vs,Ki,rfl,rfl,hq,hq',by rw [<- r.length,<- r'.length];exact hz,λl hl=>q.2 l _ _ (s.free hl) (s.trans (Same.upd hl)) Vu ((r.append r').same (Same.upd hl))⟩⟩⟩⟩
theorem Qrs {x y:Str} (ha:PD X ρ a (.str x)) (hb:PD X ρ b (.str y)) (hz:x.length+y.length<=sizeLine):PD X ρ (.BinOp a .Add b pos) (.str (x++y)) :=
 Qvc Qib ha hb λH u v Q hx hy q=>⟨x,y,JC hx,JC hy,hz,q _ H (Same.refl H) (ZG _)⟩
theorem Qgu:bootBuiltins "tuple" =some (.type "tuple"):=by decide +kernel
theorem Gp:bootBuiltins "list" =some (.type "list"):=by decide +kernel
theorem Qnj:bootBuiltins "int" =some (.type "int"):=by decide +kernel
theorem Wj {p:Pos} (hm:X.mg "tuple" =none) (ha:PD X ρ e d) (hd:d= .lst ds \/ d= .tup ds) (hg:Gl X "tuple" :=by rfl) (hs:starEach [e] X.env=[(false,eval e X.env)]:=by rfl):PD X ρ (.Call (.Name "tuple" p) [e] [] pos) (.tup ds) :=
 Ql6 Qbr hm Qgu (Vc ha Vn hs) (λH vs Q ia q=>by
  obtain ⟨v,rfl,i⟩:=ia.one;rcases hd with rfl | rfl
  ·obtain ⟨p,ws,rfl,hq,r⟩:=JY i;exact ⟨p,ws,rfl,.inl ⟨hq,λl hl=>q _ _ (Same.upd hl) (Qe7 (SqT.of Vu) (r.same (Same.upd hl)))⟩⟩
  ·obtain ⟨p,ws,rfl,hq,r⟩:=JB i;exact ⟨p,ws,rfl,.inr ⟨hq,q _ H (Same.refl H) (Qe7 hq r)⟩⟩) hg (by decide) (by decide) hs rfl
theorem Qcu {p:Pos} (hm:X.mg "list" =none) (ha:PD X ρ e d) (hd:d= .lst ds \/ d= .tup ds) (hg:Gl X "list" :=by rfl) (hs:starEach [e] X.env=[(false,eval e X.env)]:=by rfl):PDL X ρ (.Call (.Name "list" p) [e] [] pos) ds :=
 ⟨(YE Qen hg hm Gp (Vc ha Vn hs).pe (by decide) (by decide) hs rfl).imp λσ H Q q=>⟨q.1,λvs H1 s1 ia=>by
  obtain ⟨v,rfl,i⟩:=ia.one;rcases hd with rfl | rfl
  ·obtain ⟨p,ws,rfl,hq,r⟩:=JY i;exact ⟨p,ws,rfl,.inl hq,λl hl=>q.2 l ws _ (s1.free hl) (s1.trans (Same.upd hl)) Vu (r.same (Same.upd hl))⟩
  ·obtain ⟨p,ws,rfl,hq,r⟩:=JB i;exact ⟨p,ws,rfl,.inr hq,λl hl=>q.2 l ws _ (s1.free hl) (s1.trans (Same.upd hl)) Vu (r.same (Same.upd hl))⟩⟩⟩
theorem Qyw {k:Bool} {p:Pos} (hm:X.mg "int" =none) (ha:PD X ρ e (.bl k)) (hg:Gl X "int" :=by rfl) (hs:starEach [e] X.env=[(false,eval e X.env)]:=by rfl):PD X ρ (.Call (.Name "int" p) [e] [] pos) (.int (if k then 1 else 0)) :=
 Ql6 Qnc hm Qnj (Vc ha Vn hs) (λH vs Q ia q=>by
  obtain ⟨v,rfl,i⟩:=ia.one;exact .inr ⟨k,by rw [B6 i],q _ H (Same.refl H) (ZH _)⟩) hg (by decide) (by decide) hs rfl
theorem Gg: ∀ {ss:List Str} {us:List Value},Vals (ss.map V.str) us->StrsAre us ss
 | [],us,r=>by rw [Z1] at r;cases r;exact .nil
 | s::ss,us,r=>by
  rw [Qk] at r;cases r with
  | cons r1 r2 =>
   obtain ⟨t,e⟩:=r1;subst e;exact .cons s t (Gg r2)
theorem Quq:MtR X "str.join" (λx xs H Q=> ∃ z p ss,x= .str z/\xs=[.ref p]/\(SqL X.K H p (ss.map V.str) \/ SqT X.K H p (ss.map V.str))/\(ss.map (·.length)).sum+ss.length * z.length<=16777216/\Q (.str (Txt.join z ss)) H):=by
 intro Kz s σ H x xs v us Q I rx rs h;obtain ⟨z,p,ss,rfl,rfl,hq,hz,q⟩:=h;obtain ⟨t,rfl⟩:=rx;obtain ⟨u,rfl,ru⟩:=vals1 rs;cases ru;rcases hq with hq | hq
 ·obtain ⟨Kv,r,pl,_⟩:=I.list hq;exact join_list pl.isList (by simpa using Gg r) hz λt' k=>⟨.str _,H,I.tok _,⟨_,rfl⟩,q⟩
 ·obtain ⟨Kv,r,pl,_⟩:=I.tuple hq;exact join_tuple pl (by simpa using Gg r) hz λt' k=>⟨.str _,H,I.tok _,⟨_,rfl⟩,q⟩
theorem Qyu {z:Str} {ss:List Str} {o:Expr} {ap cp:Pos} (ho:PD X ρ o (.str z)) (ha:PD X ρ e d) (hd:d= .lst (ss.map D.str) \/ d= .tup (ss.map D.str)) (hz:(ss.map (·.length)).sum+ss.length * z.length<=16777216)
  (hbase:attributeBase o "join" X.env (eval o X.env)=eval o X.env:=by rfl) (Kh:(ap.endLine == cp.line)=true:=by rfl) (hs:starEach [e] X.env=[(false,eval e X.env)]:=by rfl) :
  PD X ρ (.Call (.Attribute o "join" ap) [e] [] cp) (.str (Txt.join z ss)) :=
 ZA (Qc3 PySem.F.plainAttrs_str PySem.F.slot_str_join PySem.F.type_str_join Quq ho.pe (Vc ha Vn hs).pe hbase (by rw [hs];rfl) Kh hs rfl) λσ H Q he q=>⟨he,λv H1 s1 i1=>by
  have ev:=JC i1;subst ev;refine ⟨rfl,he.same s1,λvs H2 s2 ia=> ?_⟩;obtain ⟨u,rfl,i⟩:=ia.one;rcases hd with rfl | rfl
  ·obtain ⟨p,ws,rfl,hq,r⟩:=JY i;rw [Y9 r] at hq;exact ⟨z,p,ss,rfl,rfl,.inl hq,hz,q _ H2 (s1.trans s2) (ZG _)⟩
  ·obtain ⟨p,ws,rfl,hq,r⟩:=JB i;rw [Y9 r] at hq;exact ⟨z,p,ss,rfl,rfl,.inr hq,hz,q _ H2 (s1.trans s2) (ZG _)⟩⟩
end
def Qk4:V->List V->Hp->VK->Prop:=λx vs H Q=> ∃ l xs i y,x= .ref l/\vs=[.int i,y]/\H l=some (.lst xs)/\0<=i/\i<=xs.length/\xs.length < sizeLine/\Q .non (upd H l (.lst (xs.take i.toNat++y::xs.drop i.toNat)))
theorem Qn0 (Kv:List Value) (i:Int) (h0:0<=i) (h1:i<=Kv.length) (u:Value) :
  (λxs:Array Value=>have k:=if i < 0 then (i+((xs.size:Nat):Int)).toNat else min i.toNat xs.size;(xs.extract 0 k).push u++xs.extract k) Kv.toArray=(Kv.take i.toNat++u::Kv.drop i.toNat).toArray:=by
 have hk:(if i < 0 then (i+((Kv.toArray.size:Nat):Int)).toNat else min i.toNat Kv.toArray.size)=i.toNat:=by
  rw [Qg (by omega),Ql];omega
 show ((Kv.toArray.extract 0 (if i < 0 then (i+((Kv.toArray.size:Nat):Int)).toNat else min i.toNat Kv.toArray.size)).push u++Kv.toArray.extract (if i < 0 then (i+((Kv.toArray.size:Nat):Int)).toNat else min i.toNat Kv.toArray.size))=_;rw [hk];apply Array.ext';simp only [Array.toList_append,Qlo,Array.toList_extract,List.extract_eq_take_drop,List.drop_zero,Ql];have e:List.take (Kv.length - i.toNat) (List.drop i.toNat Kv)=List.drop i.toNat Kv:=Ys (by rw [JX];omega);simp [e]
theorem Vals.insert {xs:List V} {us:List Value} {y:V} {u:Value} (n:Nat) (r:Vals xs us) (q:RelV y u):Vals (xs.take n++y::xs.drop n) (us.take n++u::us.drop n):=(r.take n).append (.cons q (r.drop n))
section
variable {X:Cx}
theorem Qmk:MtM X "list.insert" Qk4:=by
 intro Kz s σ H x vs v us Q I rx rv h;obtain ⟨l,xs,i,y,rfl,rfl,hH,h0,h1,hz,q⟩:=h;cases rx;obtain ⟨u,u',rfl,ru,ru'⟩:=rv.two;obtain ⟨t,rfl⟩:=ru;obtain ⟨z,Kv,n,r,hl,e⟩:=I.lstM hH;have hs:sizeLine=16777216:=Jb;refine call_meets F.slot_list_insert ⟨_,e,rfl⟩ F.entry_list_insert (F.args_list_insert_3 _ _ _)
  (AutoListH.list_insert_list_int_val_1 l Kv.toArray n i t u' (by rw [fitsIndex_both (by omega) (by omega)];exact Qn) (by rw [Ql];omega)) ⟨e,?_⟩
 refine ⟨.non,_,I.lset (its':=Kv.take i.toNat++u'::Kv.drop i.toNat) (ys:=xs.take i.toNat++y::xs.drop i.toNat) hH e (Qn0 Kv i h0 (by omega) u') (r.insert _ ru') ?_,rfl,q⟩;rw [Qs,QA,Qq,JX];omega
variable {H₀:Hp} {τ:List Sl} {e e':Expr} {d:D} {ds:List D} {pos:Pos}
theorem Qpx {i:Nat} {x:Str} {p ap cp:Pos} {k:Int} (hi:τ[i]? =some (.own ds)) (hk:PD X (dat τ) e (.int k)) (h:PD X (dat τ) e' d) (ld:LF d=true) (hl: ∀ (j:Nat) (d:D),τ[j]? =some (.any d)->LF d=true) (k0:0<=k) (k1:k<=ds.length) (hz:ds.length < sizeLine)
  (hN:X.N[i]? =some x:=by rfl) (hv:Vis X.env.scope x:=by first | exact QJ rfl | exact QD (QJ rfl) | exact QD (QD rfl)) (hdb:(x == ("__debug__" :Str))=false:=by decide) (hcd:(x == ("__classdict__" :Str))=false:=by decide)
  (Kh:(ap.endLine == cp.line)=true:=by rfl) (hs:starEach [e,e'] X.env=[(false,eval e X.env),(false,eval e' X.env)]:=by rfl) (hs2:starEach [e'] X.env=[(false,eval e' X.env)]:=by rfl) :
  QO X H₀ τ (.Expr (.Call (.Attribute (.Name x p) "insert" ap) [e,e'] [] cp) pos) (.next false (τ.set i (.own (ds.take k.toNat++d::ds.drop k.toNat)))):=by
 have pe:PE X (.Call (.Attribute (.Name x p) "insert" ap) [e,e'] [] cp) (tBM X.K "list" Qk4 (OQ i) (Qzp X.K (dat τ) [.int k,d])) :=
  Qc3 Ye PySem.F.slot_list_insert PySem.F.type_list_insert Qmk (Wr hN hv hdb hcd) (Vc hk (Vc h Vn hs2) (by rw [hs,hs2])).pe rfl (by rw [hs];rfl) Kh (by rw [hs,hs2]) (by rw [hs2];rfl)
 refine ⟨(YW pe rfl).imp λD σ H q=> ?_⟩;obtain ⟨o,e1,p,vs,rfl,n,hp,lf,ia⟩:=q.1.sl i _ hi;have Kr:=ia.length;refine ⟨_,e1,.inl ⟨rfl,vs,SqL.of hp⟩,q.1.env,λws H' s iv=> ?_⟩;obtain ⟨v,v',rfl,i1,i2⟩:=iv.two;have ev:=ZI i1;subst ev;refine ⟨p,vs,k,v',rfl,rfl,s _ _ hp,k0,by omega,by omega,?_⟩;refine q.2 σ _ (s.t.trans (TSame.lst (s _ _ hp))) ((q.1.step s).mut hi e1 n (s _ _ hp) hl ?_ (((ia.same s).take _).append (Vg i2 ((ia.same s).drop _))));rw [WK] at lf ⊢;intro z hz;rcases Qy.mp hz with hz | hz
 ·exact lf z (W2 hz)
 ·rcases Qb.mp hz with rfl | hz
  ·exact ld
  ·exact lf z (Uc hz)
end
section
variable {X:Cx} {Kz:Ke} {σ:St} {H:Hp} {s:Shared}
theorem Inv.turnedL {h':Heap} {t':Nat} {fp:List Addr} (I:Inv X Kz σ H s) (k: ∀ b o,b ∉ fp->s.heap.get? b=some o->h'.get? b=some o) (hf: ∀ b∈fp,FpOk X Kz H b):Inv X Kz σ H { s with heap:=h',toks:=t' }:=by
 have nit: ∀ b u,H b=some u->b ∉ fp:=λb u e z=>by rw [(hf b z).1] at e;cases e
 refine I.step (g':=s.gens) (d':=s.drawn) (ch:=fp) (λb hb=>⟨(hf b hb).2.2.2.1,(hf b hb).2.1,(hf b hb).2.2.2.2.1,(hf b hb).2.2.2.2.2⟩) (λb o _ _ hc e _=>k b o hc e) (λb o _ _ hc e _=>⟨o.slots,k b o hc e⟩) (λ_ _ _ _ n=>n)
  (λb o hc e=>⟨o,k b o hc e⟩) (λ_ _ e=>e) (λ_ _ _ e=>e) (λb ps e=>⟨#[],by rw [e];simp⟩) (λm hm=> ?_) (λb u e=> ?_) I.bare
 ·obtain ⟨o,es,ep,ho,r⟩:=hm;exact ⟨o,es,ep,k _ o (λz=>(hf _ z).2.1 rfl) ho,r⟩
 ·refine (I.hok b u e).stay (λc v hc q=>k c v ?_ q) (λ_ q=>q) λ_ _ q=>q
  rcases hc with z | z
  ·rw [z];exact nit b u e
  ·exact nit c _ z
end
def Itz (K:W.Frag) (a b:Addr):It :=
 ⟨λi H=> ∃ xs ys x y,SqT K H a xs/\SqT K H b ys/\xs[i]? =some x/\ys[i]? =some y,
  λi H v H'=> ∃ p x y,v= .ref p/\H p=none/\H'=upd H p (.tup [x,y])/\(∀ xs,SqT K H a xs->xs[i]? =some x)/\ ∀ ys,SqT K H b ys->ys[i]? =some y,
  λi H=> ∃ xs ys,SqT K H a xs/\SqT K H b ys/\(xs.length<=i \/ ys.length<=i)⟩
theorem Qo1 {P:Program} {w:World} {K:W.Frag} {elts:List Expr} {k:Nat} {pos:Pos} {z ti to j1 j2 a b:Addr} (D:ZipApart z ti to j1 j2 a b) :
  Turn P w K (.Tuple elts k pos) (Itz K a b) [z,ti,to,j1,j2] z (λi h=>ZP.At h z ti to j1 j2 a b i) where
 mem:=by simp
 obj:=λi h st c hc=>by
  obtain ⟨hz,hti,⟨u,v,hto⟩,⟨o1,e1,_,d1⟩,⟨o2,e2,_,d2⟩⟩:=st;simp only [Qb,QT,JW] at hc;rcases hc with rfl | rfl | rfl | rfl | rfl
  ·exact ⟨_,hz,λv q=>by cases q⟩
  ·exact ⟨_,hti,λv q=>by cases q⟩
  ·exact ⟨_,hto,λv q=>by cases q⟩
  ·exact ⟨_,e1,λv q=>by rw [d1] at q;cases q⟩
  ·exact ⟨_,e2,λv q=>by rw [d2] at q;cases q⟩
 keep:=λi h h' st k=>by
  obtain ⟨hz,hti,⟨u,v,hto⟩,⟨o1,e1,r1⟩,⟨o2,e2,r2⟩⟩:=st;exact ⟨k _ (by simp) _ hz,k _ (by simp) _ hti,⟨u,v,k _ (by simp) _ hto⟩,⟨o1,k _ (by simp) _ e1,r1⟩,⟨o2,k _ (by simp) _ e2,r2⟩⟩
 item:=by
  intro X hP hw hK hc i Kz s σ H E I hf st hg;subst hP hw hK;obtain ⟨xs,ys,x,y,q1,q2,hx,hy⟩:=hg;obtain ⟨us,r1,p1,z1⟩:=I.tuple q1;obtain ⟨vs,r2,p2,z2⟩:=I.tuple q2;obtain ⟨u,hu,ru⟩:=r1.get hx;obtain ⟨v,hv,rv⟩:=r2.get hy;refine ZP.next_some D st (show s.heap.IsTuple a us.toArray from p1) (show s.heap.IsTuple b vs.toArray from p2) (u:=u) (v:=v) (by simpa using hu) (by simpa using hv) λh' nz nt n1 n2 np keep=> ?_
  refine ⟨_,rfl,wpAny_letOwnedTupleGo_zip nz λh2 mz sb=> ?_⟩;have fresh:H s.heap.objs.size=none:=I.hok.fresh (Q5 _);have lt: ∀ c∈[z,ti,to,j1,j2],c≠s.heap.objs.size:=λc Kk=>by
   have: ∃ o,s.heap.get? c=some o:=by
    obtain ⟨hz,hti,⟨u,v,hto⟩,⟨o1,e1,r1⟩,⟨o2,e2,r2⟩⟩:=st;simp only [Qb,QT,JW] at Kk;rcases Kk with rfl | rfl | rfl | rfl | rfl
    ·exact ⟨_,hz⟩
    ·exact ⟨_,hti⟩
    ·exact ⟨_,hto⟩
    ·exact ⟨_,e1⟩
    ·exact ⟨_,e2⟩
   obtain ⟨o,e⟩:=this;exact Qp (Qi e)
  have I0:Inv X Kz σ (upd H s.heap.objs.size (.tup [x,y])) { s with heap:=s.heap.push { cls:= .type "tuple",data:= .seq #[u,v] },toks:=s.toks } :=
   I.laid (λc o e=>Q1 _ e) (Q5 _) ⟨by show 2<=_;decide,[u,v],.cons ru (.cons rv .nil),⟨_,Qd _ rfl,rfl,_,rfl⟩⟩
  have fok: ∀ c∈[z,to,j1,j2],FpOk X Kz (upd H s.heap.objs.size (.tup [x,y])) c:=λc Kk=>by
   have hc2:c∈[z,ti,to,j1,j2]:=by
    simp only [Qb,QT,JW] at Kk ⊢;rcases Kk with rfl | rfl | rfl | rfl<;>simp
   obtain ⟨f0,f1,f2,f3,f4,f5⟩:=hf c hc2;exact ⟨by rw [Qo (lt c hc2)];exact f0,f1,f2,f3,f4,f5⟩
  refine ⟨.ref s.heap.objs.size,upd H s.heap.objs.size (.tup [x,y]),?_,rfl,⟨_,x,y,rfl,fresh,rfl,λzs hz'=>by rw [I.tuple_inj hz' q1];exact hx,λzs hz'=>by rw [I.tuple_inj hz' q2];exact hy⟩,?_,λc Kk=>by rw [Qo (lt c Kk)];exact (hf c Kk).1⟩
  ·have I1:Inv X Kz σ (upd H s.heap.objs.size (.tup [x,y])) { s with heap:=h2,toks:=s.toks }:=Inv.turnedL (s:={ s with heap:=s.heap.push { cls:= .type "tuple",data:= .seq #[u,v] },toks:=s.toks }) (fp:=[z,to,j1,j2]) I0 ?_ fok
   ·exact I1
   intro c o Kk e;replace e:(s.heap.push { cls:= .type "tuple",data:= .seq #[u,v] }).get? c=some o:=e;simp only [Qb,QT,JW,not_or] at Kk;obtain ⟨c1,c2,c3,c4⟩:=Kk
   by_cases hT:c=s.heap.objs.size
   ·subst hT;rw [Qd _ rfl] at e;rw [<- e];exact sb.extBut _ _ c1 np
   ·exact sb.extBut _ _ c1 (keep c o c1 c2 c3 c4 (by rwa [Qwh _ _ _ hT] at e))
  ·obtain ⟨o1,e1,s1⟩:=n1;obtain ⟨o2,e2,s2⟩:=n2;exact ⟨mz,sb.extBut _ _ D.TIz (keep _ _ D.TIz D.TITO D.TIi1 D.TIi2 st.ti),⟨u,v,sb.extBut _ _ D.TOz nt⟩,⟨o1,sb.extBut _ _ D.i1z e1,s1⟩,⟨o2,sb.extBut _ _ D.i2z e2,s2⟩⟩
 done:=by
  intro X hP hw hK hc i Kz s σ H E I hf st hg;subst hP hw hK;obtain ⟨xs,ys,q1,q2,hx⟩:=hg;obtain ⟨us,r1,p1,z1⟩:=I.tuple q1;obtain ⟨vs,r2,p2,z2⟩:=I.tuple q2;have l1:=r1.length;have l2:=r2.length;refine ZP.next_none (I.ok.hd hc) D st (show s.heap.IsTuple a us.toArray from p1) (show s.heap.IsTuple b vs.toArray from p2) (hx.imp (λq=>by simp;omega) λq=>by simp;omega) λh' keep=>⟨rfl,?_⟩
  refine I.turnedL (t':=s.toks) (fp:=[z,to,j1,j2]) (λc o Kk e=> ?_) λc Kk=>hf c ?_
  ·simp only [Qb,QT,JW,not_or] at Kk;exact keep c o Kk.1 Kk.2.1 Kk.2.2.1 Kk.2.2.2 e
  ·simp only [Qb,QT,JW] at Kk ⊢;rcases Kk with rfl | rfl | rfl | rfl<;>simp
 self:=λ_ _ _ _ _ st h=>wpAny_pyIter_zip st.z h
section
variable {X:Cx}
theorem Qne:bootBuiltins "zip" =some (.type "zip"):=by decide +kernel
def Jbc (K:W.Frag) (ta:TA):TI:=λσ H R=>ta σ H λvs H1=> ∃ a b,vs=[.ref a,.ref b]/\(∃ xs,SqT K H1 a xs)/\(∃ ys,SqT K H1 b ys)/\R (Itz K a b) H1
theorem Qp4 {e1 e2:Expr} {ta:TA} {p pos tp:Pos} {elts:List Expr} {k:Nat} (hg:Gl X "zip") (hm:X.mg "zip" =none) (ha:PA X [e1,e2] ta) (hs:starEach [e1,e2] X.env=[(false,eval e1 X.env),(false,eval e2 X.env)]:=by rfl) (hs2:starEach [e2] X.env=[(false,eval e2 X.env)]:=by rfl) :
  PI X (.Tuple elts k tp) (.Call (.Name "zip" p) [e1,e2] [] pos) (Jbc X.K ta):=by
 intro Kz s σ H R I h;refine Call_ (Y8 I hg hm Qne (Jo (thn (ha pos Kz s σ H _ I h) λus s1 ⟨vs,H1,I1,r1,q1⟩=> ?_) (by rw [hs,hs2]) (by rw [hs2];rfl)));obtain ⟨a,b,rfl,⟨xs,qa⟩,⟨ys,qb⟩,q⟩:=q1;obtain ⟨u,v,rfl,ru,rv⟩:=r1.two;cases ru;cases rv;obtain ⟨as,ra,pa,za⟩:=I1.tuple qa;obtain ⟨bs,rb,pb,zb⟩:=I1.tuple qb;have a1:s1.heap.IsTuple a as.toArray:=pa;have b1:s1.heap.IsTuple b bs.toArray:=pb;have la:a < s1.heap.objs.size:=by obtain ⟨_,e,_⟩:=a1;exact Qi e
 have lb:b < s1.heap.objs.size:=by obtain ⟨_,e,_⟩:=b1;exact Qi e
 refine ZP.call_zip a1 b1 λh' st keep=>wpAny_pyIter_zip st.z ?_
 refine ⟨_,[s1.heap.objs.size+4,s1.heap.objs.size+2,s1.heap.objs.size+3,s1.heap.objs.size,s1.heap.objs.size+1],_,_,H1,rfl,I1.kept (t':=s1.toks) keep,Qo1 (ZP.apart la lb),st,λc hc=> ?_,q⟩;have le:s1.heap.objs.size<=c:=by
  simp only [Qb,QT,JW] at hc;rcases hc with rfl | rfl | rfl | rfl | rfl
  ·exact WQ _ _
  ·exact WQ _ _
  ·exact WQ _ _
  ·exact Q5 _
  ·exact WQ _ _
 exact I1.fpOk le (I1.hok.fresh le)
end
end L2
namespace EN
open PySem
open AutoSeq1 (wpAny_loadPart')
section
variable {prog:Program} {w:World} {A:Around} {E:Kf} {s:Shared}
open Builtin.SmallTypes in
theorem Qn3 {e j q:Addr} {n:Nat} {us:Array Value} {u old:Value} {Q:Kf} (he:IsEnum s.heap e j n old) (hj:s.heap.IsTupleIter j q n) (hq:s.heap.IsTuple q us) (hu:us[n]? =some u) (ne:e≠j)
  (go: ∀ h',IsEnumOut h' e j ((n:Int)+1) u s.heap.objs.size->h'.IsTupleIter j q (n+1)->h'.get? s.heap.objs.size=some { cls:= .type "tuple",data:= .seq #[.int n s.toks,u] } ->
   (∀ c o,c≠e->c≠j->s.heap.get? c=some o->h'.get? c=some o)->Q (.ref s.heap.objs.size) { s with heap:=h',toks:=s.toks+1 }) :
  wpAny (model prog w) A (Builtin.«enumerate.__next__» ⟨[.ref e],[]⟩) (λKj s'=> ∃ v,Kj= .done (.ret v)/\Q v s') E s:=by
 obtain ⟨hp,g,d,tk,os⟩:=s;show wpAny (model prog w) _ (field (.ref e) 2 >>= _) _ _ _;refine Q0 (Jj he rfl (x:= .ref j) rfl ?_);refine Q0 (ZP.draw_some hj hq hu λk1 t1 b1=> ?_);have b1':Heap.SameBut j hp k1:=b1;have e1:IsEnum k1 e j n old:=(b1'.2 e ne).trans he;show wpAny (model prog w) _ (field (.ref e) 3 >>= _) _ _ ⟨k1,g,d,tk,os⟩;refine Q0 (Jj e1 rfl (x:=rawInt n) rfl ?_);show wpAny (model prog w) _ (field (.ref e) 4 >>= _) _ _ ⟨k1,g,d,tk,os⟩;refine Q0 (Jj e1 rfl (x:= .none) rfl ?_);show wpAny (model prog w) _ (mkInt n >>= _) _ _ ⟨k1,g,d,tk,os⟩;refine Q0 (wpAny_mkInt ?_);show wpAny (model prog w) _ (setField (.ref e) 3 (rawInt ((n:Int)+1)) >>= _) _ _ ⟨k1,g,d,tk+1,os⟩;refine Q0 (Jl e1 (by simp) λk2 e2 b2=> ?_);have b2':Heap.SameBut e k1 k2:=b2;have e2':IsEnum k2 e j ((n:Int)+1) old:=e2;show wpAny (model prog w) _ (setField (.ref e) 4 .none >>= _) _ _ ⟨k2,g,d,tk+1,os⟩;refine Q0 (Jl e2' (by simp) λk3 e3 b3=> ?_);have b3':Heap.SameBut e k2 k3:=b3;have e3':IsEnum k3 e j ((n:Int)+1) old:=e3;show wpAny (model prog w) _ (newTuple [.int n tk,u] >>= _) _ _ ⟨k3,g,d,tk+1,os⟩;refine Q0 (Qlg ?_);have e4:IsEnum (k3.push { cls:= .type "tuple",data:= .seq #[.int n tk,u] }) e j ((n:Int)+1) old:=Q1 _ e3';generalize h4:k3.push { cls:= .type "tuple",data:= .seq #[.int n tk,u] }=k4 at e4;have sz:k3.objs.size=hp.objs.size:=by rw [b3'.1,b2'.1,b1'.1]
 have lt:e < hp.objs.size:=Qi he;have t4:k4.get? hp.objs.size=some { cls:= .type "tuple",data:= .seq #[.int n tk,u] }:=by rw [<- h4,<- sz];exact Qd _ rfl
 have keep4: ∀ c o,c≠e->c≠j->hp.get? c=some o->k4.get? c=some o:=λc o n1 n2 g=>by
  rw [<- h4];exact Q1 _ (b3'.extBut c o n1 (b2'.extBut c o n1 (b1'.extBut c o n2 g)))
 have j4:k4.IsTupleIter j q (n+1):=by
  rw [<- h4];obtain ⟨o,ho,r⟩:=(t1.extBut b2'.extBut (QS ne)).extBut b3'.extBut (QS ne);exact ⟨o,Q1 _ ho,r⟩
 show wpAny (model prog w) _ (ownedTupleIsFree (.ref e) >>= _) _ _ ⟨k4,g,d,tk+1,os⟩;rw [sz];refine Q0 ?_;unfold ownedTupleIsFree;refine Q0 (Jj e4 rfl (x:= .none) rfl (Q3 ?_));simp only [Wt];refine Q0 (ZS (Q0 (Jj e4 rfl (x:=old) rfl ?_)));refine Q0 (Jl e4 (by simp) λk5 e5 b5=> ?_);have b5':Heap.SameBut e k4 k5:=b5;have e5':IsEnum k5 e j ((n:Int)+1) u:=e5;show wpAny (model prog w) _ (ownedTupleHandOut (.ref e) (.ref hp.objs.size) >>= _) _ _ ⟨k5,g,d,tk+1,os⟩;refine Q0 ?_;unfold ownedTupleHandOut;refine Q0 (Jl e5' (by simp) λk6 e6 b6=> ?_);have b6':Heap.SameBut e k5 k6:=b6;have e6':IsEnumOut k6 e j ((n:Int)+1) u hp.objs.size:=e6;refine Jl e6' (by simp) λk7 e7 b7=> ?_
 have b7':Heap.SameBut e k6 k7:=b7;have e7':IsEnumOut k7 e j ((n:Int)+1) u hp.objs.size:=e7;refine Q0 (ZT (Q3 ⟨_,rfl,go k7 e7' ?_ ?_ ?_⟩))
 ·exact ((j4.extBut b5'.extBut (QS ne)).extBut b6'.extBut (QS ne)).extBut b7'.extBut (QS ne)
 ·exact b7'.extBut _ _ (W1 lt) (b6'.extBut _ _ (W1 lt) (b5'.extBut _ _ (W1 lt) t4))
 ·exact λc o n1 n2 g=>b7'.extBut c o n1 (b6'.extBut c o n1 (b5'.extBut c o n1 (keep4 c o n1 n2 g)))
theorem next_some {e j q:Addr} {n:Nat} {us:Array Value} {u old:Value} {Q:Option Value->Shared->Prop} (he:IsEnum s.heap e j n old) (hj:s.heap.IsTupleIter j q n) (hq:s.heap.IsTuple q us) (hu:us[n]? =some u) (ne:e≠j)
  (go: ∀ h',IsEnumOut h' e j ((n:Int)+1) u s.heap.objs.size->h'.IsTupleIter j q (n+1)->h'.get? s.heap.objs.size=some { cls:= .type "tuple",data:= .seq #[.int n s.toks,u] } ->
   (∀ c o,c≠e->c≠j->s.heap.get? c=some o->h'.get? c=some o)->Q (some (.ref s.heap.objs.size)) { s with heap:=h',toks:=s.toks+1 }):wpAny (model prog w) A (pyNext (.ref e)) Q E s:=by
 have ty:s.TypeIs (.ref e) "enumerate" :=⟨_,he,rfl⟩;unfold pyNext;exact Q0 (Zu (J3 (name:=Str.ofString "__next__") ty UJ (J0 UJ ty F.entry_enumerate_next (Qn3 he hj hq hu ne λh' a b c d=>Q3 (go h' a b c d)) (F.args_enumerate_next_1 _))))
theorem next_none {e j q:Addr} {n:Nat} {us:Array Value} {old:Value} {Q:Option Value->Shared->Prop} (hA:A.handled=none) (he:IsEnum s.heap e j n old) (hj:s.heap.IsTupleIter j q n) (hq:s.heap.IsTuple q us) (hu:us[n]? =none)
  (go: ∀ h',Heap.ExtBut j s.heap h'->Q none { s with heap:=h' }):wpAny (model prog w) A (pyNext (.ref e)) Q E s:=by
 have ty:s.TypeIs (.ref e) "enumerate" :=⟨_,he,rfl⟩;unfold pyNext;refine Q0 (Zu (J3 (name:=Str.ofString "__next__") ty UJ (J0 UJ ty F.entry_enumerate_next ?_ (F.args_enumerate_next_1 _))));show wpAny (model prog w) _ (field (.ref e) 2 >>= _) _ _ _;refine Q0 (Jj he rfl (x:= .ref j) rfl (Q0 (ZP.draw_none hA hj hq hu λh' x k ⟨o,ho,hc⟩=> ?_)));exact Q0 (Z3 (T:= "StopIteration") (b:=true) ⟨o,ho,hc⟩ Qlh (Q3 (go _ k)))
theorem BD (q:Addr) (us:Array Value) (n:Nat) (dct:Option Addr) (sl:Array (Option Value)) :
  Meets (Builtin.«enumerate.__new__» ⟨[.type "enumerate",.ref q],[]⟩) (λ_ R s=>s.heap.get? q=some { cls:= .type "tuple",dict:=dct,data:= .seq us n,slots:=sl } /\
   R (.ok (.ret (.ref (s.heap.push (ZP.tit q)).objs.size))) { s with heap:=(s.heap.push (ZP.tit q)).push { cls:= .type "enumerate",data:= .fields #[.none,.bool false,.ref s.heap.objs.size,rawInt 0,.none,.none] } }) :=
 .of_wp λprog w A R s h=>by
  obtain ⟨hp,g,d,tk,os⟩:=s;obtain ⟨hl,h⟩:=h;have sub:=sub_enumerate;have hq:Heap.IsTuple (Shared.heap ⟨hp,g,d,tk,os⟩) q us:=⟨_,hl,rfl,n,rfl⟩
  wp_walk using wpAny_loadPart' hl
  refine wpAny_stack_any λst=>Q3 ?_
  split
  ·rename_i c _ _ _ _ _;cases (c == Value.type "enumerate")
   all_goals
    wp_walk using wpAny_loadPart' hl,Yw hq
    exact ⟨_,rfl,h⟩
  ·wp_walk using wpAny_loadPart' hl,Yw hq
   exact ⟨_,rfl,h⟩
theorem call_enum {q:Addr} {us:Array Value} {Q:Kf} (hq:s.heap.IsTuple q us)
  (go: ∀ h',IsEnum h' (s.heap.objs.size+1) s.heap.objs.size 0 .none->h'.IsTupleIter s.heap.objs.size q 0->(∀ c o,s.heap.get? c=some o->h'.get? c=some o)->Q (.ref (s.heap.objs.size+1)) { s with heap:=h' }) :
  wpAny (model prog w) A (call (.type "enumerate") [.ref q]) Q E s:=by
 obtain ⟨⟨c,dct,dt,sl⟩,hl,hc,n,hd⟩:=hq;cases (show c=Value.type "tuple" from hc);cases (show dt=Data.seq us n from hd);refine callType_new F.called_enumerate (by decide) (F.typeCall_enumerate_1 _) (F.newCall_enumerate_1 _) (λobj=>F.args_object_init_2 obj _) F.entry_enumerate_new (BD q us n dct sl) ⟨hl,?_⟩;have sz:(s.heap.push (ZP.tit q)).objs.size=s.heap.objs.size+1:=Ju ..;show _/\_;rw [sz];have he:IsEnum ((s.heap.push (ZP.tit q)).push { cls:= .type "enumerate",data:= .fields #[.none,.bool false,.ref s.heap.objs.size,rawInt 0,.none,.none] }) (s.heap.objs.size+1) s.heap.objs.size 0 .none:=by
  have:=Qd (s.heap.push (ZP.tit q)) (o:={ cls:= .type "enumerate",data:= .fields #[.none,.bool false,.ref s.heap.objs.size,rawInt 0,.none,.none] }) rfl;rw [sz] at this;exact this
 exact ⟨⟨_,he,rfl⟩,go _ he ⟨_,Q1 _ (Qd _ rfl),rfl,rfl⟩ λb o x=>Q1 _ (Q1 _ x)⟩
end
end EN
namespace L2
open PySem PySem.Spec PyProof.Rows
def Ite (K:W.Frag) (a:Addr):It :=
 ⟨λi H=> ∃ xs x,SqT K H a xs/\xs[i]? =some x,λi H v H'=> ∃ p x,v= .ref p/\H p=none/\H'=upd H p (.tup [.int i,x])/\ ∀ xs,SqT K H a xs->xs[i]? =some x,λi H=> ∃ xs,SqT K H a xs/\xs.length<=i⟩
theorem Qlt {P:Program} {w:World} {K:W.Frag} {elts:List Expr} {k:Nat} {pos:Pos} {e j a:Addr} (ne:e≠j) :
  Turn P w K (.Tuple elts k pos) (Ite K a) [e,j] e (λi h=>(∃ old,IsEnum h e j (i:Nat) old)/\h.IsTupleIter j a i) where
 mem:=by simp
 obj:=λi h st c hc=>by
  obtain ⟨⟨old,he⟩,o,ej,_,dj⟩:=st;simp only [Qb,QT,JW] at hc;rcases hc with rfl | rfl
  ·exact ⟨_,he,λv q=>by cases q⟩
  ·exact ⟨_,ej,λv q=>by rw [dj] at q;cases q⟩
 keep:=λi h h' st k=>by
  obtain ⟨⟨old,he⟩,o,ej,r⟩:=st;exact ⟨⟨old,k _ (by simp) _ he⟩,o,k _ (by simp) _ ej,r⟩
 item:=by
  intro X hP hw hK hc i Kz s σ H E I hf st hg;subst hP hw hK;obtain ⟨xs,x,q1,hx⟩:=hg;obtain ⟨⟨old,he⟩,hj⟩:=st;obtain ⟨us,r1,p1,z1⟩:=I.tuple q1;obtain ⟨u,hu,ru⟩:=r1.get hx;refine EN.next_some he hj (show s.heap.IsTuple a us.toArray from p1) (u:=u) (by simpa using hu) ne λh' no nj np keep=> ?_
  refine ⟨_,rfl,wpAny_letOwnedTupleGo_enum no λh2 mo sb=> ?_⟩;have fresh:H s.heap.objs.size=none:=I.hok.fresh (Q5 _);have lt: ∀ c∈[e,j],c≠s.heap.objs.size:=λc Kk=>by
   have: ∃ o,s.heap.get? c=some o:=by
    obtain ⟨o,ej,_⟩:=hj;simp only [Qb,QT,JW] at Kk;rcases Kk with rfl | rfl
    ·exact ⟨_,he⟩
    ·exact ⟨_,ej⟩
   obtain ⟨o,ee⟩:=this;exact Qp (Qi ee)
  have I0:Inv X Kz σ (upd H s.heap.objs.size (.tup [.int i,x])) { s with heap:=s.heap.push { cls:= .type "tuple",data:= .seq #[.int i s.toks,u] },toks:=s.toks+1 } :=
   I.laid (λc o e=>Q1 _ e) (Q5 _) ⟨by show 2<=_;decide,[.int i s.toks,u],.cons ⟨_,rfl⟩ (.cons ru .nil),⟨_,Qd _ rfl,rfl,_,rfl⟩⟩
  have fok: ∀ c∈[e,j],FpOk X Kz (upd H s.heap.objs.size (.tup [.int i,x])) c:=λc Kk=>by
   obtain ⟨f0,f1,f2,f3,f4,f5⟩:=hf c Kk;exact ⟨by rw [Qo (lt c Kk)];exact f0,f1,f2,f3,f4,f5⟩
  refine ⟨.ref s.heap.objs.size,upd H s.heap.objs.size (.tup [.int i,x]),?_,rfl,⟨_,x,rfl,fresh,rfl,λzs hz'=>by rw [I.tuple_inj hz' q1];exact hx⟩,?_,λc Kk=>by rw [Qo (lt c Kk)];exact (hf c Kk).1⟩
  ·have I1:Inv X Kz σ (upd H s.heap.objs.size (.tup [.int i,x])) { s with heap:=h2,toks:=s.toks+1 }:=Inv.turnedL (s:={ s with heap:=s.heap.push { cls:= .type "tuple",data:= .seq #[.int i s.toks,u] },toks:=s.toks+1 }) (fp:=[e,j]) I0 ?_ fok
   ·exact I1
   intro c o Kk ee;replace ee:(s.heap.push { cls:= .type "tuple",data:= .seq #[.int i s.toks,u] }).get? c=some o:=ee;simp only [Qb,QT,JW,not_or] at Kk
   by_cases hT:c=s.heap.objs.size
   ·subst hT;rw [Qd _ rfl] at ee;rw [<- ee];exact sb.extBut _ _ Kk.1 np
   ·exact sb.extBut _ _ Kk.1 (keep c o Kk.1 Kk.2 (by rwa [Qwh _ _ _ hT] at ee))
  ·obtain ⟨o1,e1,s1⟩:=nj;refine ⟨⟨u,?_⟩,o1,sb.extBut _ _ (QS ne) e1,s1⟩;have:((i:Int)+1)=((i+1:Nat):Int):=by omega
   rw [<- this];exact mo
 done:=by
  intro X hP hw hK hc i Kz s σ H E I hf st hg;subst hP hw hK;obtain ⟨xs,q1,hx⟩:=hg;obtain ⟨⟨old,he⟩,hj⟩:=st;obtain ⟨us,r1,p1,z1⟩:=I.tuple q1;have l1:=r1.length;refine EN.next_none (I.ok.hd hc) he hj (show s.heap.IsTuple a us.toArray from p1) (by simp;omega) λh' keep=>⟨rfl,?_⟩
  exact I.turnedL (t':=s.toks) (fp:=[j]) (λc o Kk ee=>keep c o (by simpa using Kk) ee) λc Kk=>hf c (by simp at Kk ⊢; exact .inr Kk)
 self:=λ_ _ _ _ _ st h=>by
  obtain ⟨⟨old,he⟩,_⟩:=st;exact Qb8 he h
section
variable {X:Cx}
theorem Qaz:bootBuiltins "enumerate" =some (.type "enumerate"):=by decide +kernel
def Jae (K:W.Frag) (ta:TA):TI:=λσ H R=>ta σ H λvs H1=> ∃ a,vs=[.ref a]/\(∃ xs,SqT K H1 a xs)/\R (Ite K a) H1
theorem Qkc {e1:Expr} {ta:TA} {p pos tp:Pos} {elts:List Expr} {k:Nat} (hg:Gl X "enumerate") (hm:X.mg "enumerate" =none) (ha:PA X [e1] ta) (hs:starEach [e1] X.env=[(false,eval e1 X.env)]:=by rfl) :
  PI X (.Tuple elts k tp) (.Call (.Name "enumerate" p) [e1] [] pos) (Jae X.K ta):=by
 intro Kz s σ H R I h;refine Call_ (Y8 I hg hm Qaz (Jo (thn (ha pos Kz s σ H _ I h) λus s1 ⟨vs,H1,I1,r1,q1⟩=> ?_) hs rfl));obtain ⟨a,rfl,⟨xs,qa⟩,q⟩:=q1;obtain ⟨u,rfl,ru⟩:=vals1 r1;cases ru;obtain ⟨as,ra,pa,za⟩:=I1.tuple qa;refine EN.call_enum (show s1.heap.IsTuple a as.toArray from pa) λh' st sj keep=>Qb8 st ?_
 refine ⟨_,[s1.heap.objs.size+1,s1.heap.objs.size],_,_,H1,rfl,I1.kept (t':=s1.toks) keep,Qlt (W1 (JJ _)),⟨⟨.none,st⟩,sj⟩,λc hc=> ?_,q⟩;have le:s1.heap.objs.size<=c:=by
  simp only [Qb,QT,JW] at hc;rcases hc with rfl | rfl
  ·exact WV _
  ·exact Q5 _
 exact I1.fpOk le (I1.hok.fresh le)
end
theorem Qqo {prog:Program} {w:World} {A:Around} {R:Result->Shared->Prop} {s:Shared} {elt tg iter:Expr} {ifs:List Expr} {scope:Scope} {pos:Pos} {it acc:Value} {env:Env} (W:Nat->Shared->Prop)
  (turn: ∀ n s,W n s->wpAny (model prog w) A (pyNext it) (λr s1=>match r with
   | none=>R (.ok .next) s1
   | some v=>wpAny (model prog w) A (letOwnedTupleGo tg it v) (λ_ s2=>wpAny (model prog w) A (assign tg env v) (λ_ s3 =>
     wpAny (model prog w) A (forIn ifs true λc r=>if r=true then do let ok<-isTrue c env (eval c env);pure (ForInStep.yield ok) else pure (ForInStep.yield r)) (λok s4 =>
      if ok=true then wpAny (model prog w) A (eval elt env) (λy s5 =>
       wpAny (model prog w) A (call (.builtin "list.append") [acc,y]) (λ_ s6=> ∃ m,m < n/\W m s6) (notedBy (model prog w) A env λe s'=>R (.error e) s') s5) (notedBy (model prog w) A env λe s'=>R (.error e) s') s4
      else ∃ m,m < n/\W m s4) (notedBy (model prog w) A env λe s'=>R (.error e) s') s3) (notedBy (model prog w) A env λe s'=>R (.error e) s') s2) (notedBy (model prog w) A env λe s'=>R (.error e) s') s1) (notedBy (model prog w) A env λe s'=>R (.error e) s') s)
  (n:Nat) (h:W n s):codeAny (model prog w) A (.compLoop (.ListComp elt [⟨tg,iter,ifs,0⟩] scope pos) 0 it acc env) R s:=by
 refine codeAny_loop rfl W (λn s hW=> ?_) n h;show wpAny (model prog w) A ((compTurn (.ListComp elt [⟨tg,iter,ifs,0⟩] scope pos) 0 it acc env).onRaise (λx=>do noteFrame x env;theTreesLotGoes x)) _ _ s;refine wpAny_noted ?_;rw [compTurn_list];refine Q0 (wpAny_standAt (Q0 (thn (turn n s hW) λr s1 h1=> ?_)));cases r with
 | none=>exact Q3 h1
 | some v =>
  refine Q0 (thn h1 λ_ s2 h2=>Q0 (thn h2 λ_ s3 h3=>Q0 (thn h3 λok s4 h4=> ?_)));cases ok with
  | false=>exact Q3 ⟨rfl,h4⟩
  | true=>exact Q0 (Q0 (thn h4 λy s5 h5=>Q0 (thn h5 λ_ s6 h6=>Q3 (Q3 ⟨rfl,h6⟩))))
structure PairOk (N:List Str) (x y:Str) (scope:Scope):Prop where
 hy:scope.names.lookup y=some .local
 nd:(x::y::N).Nodup
def cxP (X:Cx) (x y:Str) (scope:Scope) (cl:List (Str×Addr)) (C:Addr) (s:Shared) (H:Hp) (ex:List Addr):Cx :=
 { cxC X x scope cl C s H ex with N:=x::y::X.N }
section
variable {X:Cx} {Kz:Ke} {σ:St} {H:Hp} {s:Shared}
theorem Inv.named {N':List Str} {Kt:St} (I:Inv X Kz σ H s) (hl:Kt.length=N'.length) (h: ∀ (i:Nat) (x:Str) (v:V),N'[i]? =some x->Kt[i]? =some (some v)-> ∃ j:Nat,X.N[j]? =some x/\σ[j]? =some (some v)) :
  Inv { X with N:=N' } Kz Kt H s:=by
 obtain ⟨ok,o2,o3,o4,⟨m,hm,hl2⟩,o6,o7,o8,o9,o10,o11⟩:=I;obtain ⟨a1,a2,a3,a4,a5,a6,a7,a8,a9,a10,a11,a12,a13,a14,a15,a16,a17,a18⟩:=ok;refine ⟨⟨a1,a2,a3,a4,a5,a6,a7,a8,a9,a10,a11,a12,a13,a14,a15,a16,a17,a18⟩,o2,o3,o4,⟨m,hm,λi x v e1 e2 e3=> ?_⟩,o6,o7,o8,o9,o10,hl⟩;obtain ⟨j,f1,f2⟩:=h i x v e1 e2;exact hl2 j x v f1 f2 e3
theorem Qir {x y:Str} {scope:Scope} {fp:List Addr} {h1:Heap} {C:Addr} {m0:Str->Option Value} {t:Nat} (ok:CompOk X.N X.env.scope x scope) (I:Inv X Kz σ H s)
  (hf: ∀ b∈fp,FpOk X Kz H b) (ho: ∀ b∈fp,∃ o,s.heap.get? b=some o) (hC:s.heap.objs.size<=C) (kp: ∀ b o,s.heap.get? b=some o->h1.get? b=some o) (ns:h1.Ns C m0) :
  Inv (cxP X x y scope (ZL scope X.env) C s H fp) [] (none::none::σ) H { s with heap:=h1,toks:=t }:=by
 refine (Qcj ok I hf ho hC kp ns).named (N':=x::y::X.N) (by simp [I.len]) λi z v e1 e2=> ?_
 cases i with
 | zero=>cases (show some (none:Option V)=some (some v) from e2)
 | succ i =>
  cases i with
  | zero=>cases (show some (none:Option V)=some (some v) from e2)
  | succ i=>exact ⟨i+1,by simpa [cxC] using e1,by simpa using e2⟩
theorem Qaf {x y:Str} {scope:Scope} {fp:List Addr} {cl:List (Str×Addr)} {C:Addr} {s':Shared} {H':Hp} {ps:Ke} (J:Inv (cxP X x y scope cl C s H fp) ps (none::none::σ) H' s') (hl:σ.length=X.N.length):Inv (cxC X x scope cl C s H fp) ps (none::σ) H' s':=by
 refine J.named (N':=x::X.N) (by simp [hl]) λi z v e1 e2=> ?_
 cases i with
 | zero=>cases (show some (none:Option V)=some (some v) from e2)
 | succ i=>exact ⟨i+2,by simpa [cxP] using e1,by simpa using e2⟩
def Qhs (K:W.Frag) (wi:TI) (tc:TT) (te:TE):TE:=λσ H Q=>wi σ H λJ H1=> ∃ W:Nat->Nat->List V->Hp->Prop,(∃ m,W 0 m [] H1)/\ ∀ i m ys H,W i m ys H ->
 (J.stop i H/\ ∀ p,H p=none->Q (.ref p) (upd H p (.lst ys))) \/
 (J.go i H/\ys.length < sizeLine/\ ∀ v H',J.yld i H v H'-> ∃ p a c,v= .ref p/\SqT K H' p [a,c]/\tc (some a::some c::σ) H' λb H''=>if b=true then te (some a::some c::σ) H'' (λy H3=> ∃ m',m' < m/\W (i+1) m' (ys++[y]) H3) else ∃ m',m' < m/\W (i+1) m' ys H'')
theorem O5 {elt iter:Expr} {x y:Str} {px py tp:Pos} {tk:Nat} {ifs:List Expr} {scope:Scope} {pos:Pos} {tc:TT} {te:TE} {J:It} {fp:List Addr} {it:Addr} {tn:Nat->Heap->Prop} {RR:Value->Addr->Result->Shared->Prop} {E:Kf}
  (ok:CompOk X.N X.env.scope x scope) (ok2:PairOk X.N x y scope) (hc:X.calm=true) (hifs: ∀ cl C s H ex,PTs (cxP X x y scope cl C s H ex) ifs tc) (helt: ∀ cl C s H ex,PE (cxP X x y scope cl C s H ex) elt te)
  (I:Inv X Kz σ H s) (T:Turn X.prog X.w X.K (.Tuple [.Name x px,.Name y py] tk tp) J fp it tn) (st:tn 0 s.heap) (hf: ∀ b∈fp,FpOk X Kz H b) {W:Nat->Nat->List V->Hp->Prop} (w0: ∃ m,W 0 m [] H) {Qf:List V->Hp->Prop}
  (turn: ∀ i m ys H,W i m ys H->(J.stop i H/\Qf ys H) \/
   (J.go i H/\ys.length < sizeLine/\ ∀ v H',J.yld i H v H'-> ∃ p a c,v= .ref p/\SqT X.K H' p [a,c]/\tc (some a::some c::σ) H' λb H''=>if b=true then te (some a::some c::σ) H'' (λy H3=> ∃ m',m' < m/\W (i+1) m' (ys++[y]) H3) else ∃ m',m' < m/\W (i+1) m' ys H''))
  (Kj: ∀ D C s' H' ys Kv k,s.heap.objs.size<=D->s.heap.objs.size<=C->D≠C->Inv (cxP X x y scope (ZL scope X.env) C s H fp) [(D,lobj Kv k)] (none::none::σ) H' s'->Vals ys Kv->ys.length<=sizeLine->Qf ys H'->RR (.ref D) C (.ok .next) s') :
  wpAny (model X.prog X.w) X.A (newList []) (λacc s₃=>wpAny (model X.prog X.w) X.A (newFunctionEnv scope X.env.globals (ZL scope X.env) [] X.env.qual none .none (some X.env)) (λcenv s₄ =>
   codeAny (model X.prog X.w) X.A (.compStart (.ListComp elt [⟨.Tuple [.Name x px,.Name y py] tk tp,iter,ifs,0⟩] scope pos) 0 (.ref it) acc { cenv with scope:=relabel scope X.env }) (RR acc cenv.locals) s₄) E s₃) E s:=by
 refine Ja (wpAny_newFunctionEnv ok.nocell (by intro y hy;simp at hy) (λh₁ hns₁ hsb₁=> ?_) ok.kind);dsimp only at hns₁ hsb₁ ⊢;generalize hH2:s.heap.push { cls:= .type "list",dict:=none,data:= .seq ([]:List Value).toArray }=H2 at hns₁ hsb₁ ⊢;have hCs:H2.objs.size=s.heap.objs.size+1:=by rw [<- hH2,Ju]
 have hDC:s.heap.objs.size≠H2.objs.size:=by rw [hCs];exact Qp (JJ _)
 have hCle:s.heap.objs.size<=H2.objs.size:=by rw [hCs];exact WV _
 have old: ∀ b o,s.heap.get? b=some o->h₁.get? b=some o:=λb o e=>hsb₁.extBut b o (Qp (Qr (Qi e) hCle)) (Q1 _ (hH2 ▸ Q1 _ e))
 have hacc:h₁.get? s.heap.objs.size=some (lobj [] 0):=hsb₁.extBut _ _ hDC (Q1 _ (hH2 ▸ Qd _ rfl));have hobj: ∀ b∈fp,∃ o,s.heap.get? b=some o:=λb hb=>let ⟨o,e,_⟩:=T.obj 0 _ st b hb;⟨o,e⟩
 have fpD: ∀ b∈fp,b≠s.heap.objs.size:=λb hb=>let ⟨o,e⟩:=hobj b hb;Qp (Qi e)
 have fpC: ∀ b∈fp,b≠H2.objs.size:=λb hb=>let ⟨o,e⟩:=hobj b hb;Qp (Qr (Qi e) hCle)
 have st1:tn 0 h₁:=T.keep 0 _ _ st λb _ o e=>old b o e
 generalize hXc:cxP X x y scope (ZL scope X.env) H2.objs.size s H fp=Xc;have eP:Xc.prog=X.prog:=by rw [<- hXc];rfl
 have eW:Xc.w=X.w:=by rw [<- hXc];rfl
 have eK:Xc.K=X.K:=by rw [<- hXc];rfl
 have eA:Xc.A=X.A:=by rw [<- hXc];rfl
 have eL:Xc.env.locals=H2.objs.size:=by rw [<- hXc];rfl
 have eE:Xc.env=compEnvC scope (ZL scope X.env) H2.objs.size X.env:=by rw [<- hXc];rfl
 have eX:Xc.ex=fp:=by rw [<- hXc];rfl
 have eS:Xc.s₀=s:=by rw [<- hXc];rfl
 have eN:Xc.N=x::y::X.N:=by rw [<- hXc];rfl
 have eQ:Xc.pn=[]:=by rw [<- hXc];rfl
 have eF:Xc.xe=λ_ _=>False:=by rw [<- hXc];rfl
 have eO:Xc.fs=frs X.stack:=by rw [<- hXc];rfl
 have eCm:Xc.calm=true:=by rw [<- hXc];exact hc
 have hifs':PTs Xc ifs tc:=hXc ▸ hifs _ _ _ _ _;have helt':PE Xc elt te:=hXc ▸ helt _ _ _ _ _;have nfsD:s.heap.objs.size ∉ Xc.fs:=λz=>by
  rw [eO] at z;rcases Qb.mp (I.stkSub _ z) with z | z
  ·exact absurd I.lt (by rw [<- z];exact JK _)
  ·exact I.nofs (Q5 _) z
 have cellD: ∀ y c,Xc.env.cells.lookup y=some c->c≠s.heap.objs.size:=λy c e=>by
  rw [eE] at e;obtain ⟨v,z⟩:=I.cell y c (JU e);exact Qp z.lt
 have cellF: ∀ b∈fp,∀ y c,Xc.env.cells.lookup y=some c->c≠b:=λb hb y c e=>by
  rw [eE] at e;exact (hf b hb).2.2.2.2.1 y c (JU e)
 have nfsF: ∀ b∈fp,b ∉ Xc.fs:=λb hb z=>by
  rw [eO] at z;rcases Qb.mp (I.stkSub _ z) with z | z
  ·exact (hf b hb).2.1 z
  ·exact (hf b hb).2.2.1 z
 have fpOkC: ∀ {H':Hp} {o:Obj},(∀ b∈fp,H' b=none)-> ∀ b∈fp,FpOk Xc [(s.heap.objs.size,o)] H' b:=λ{H' o} hn b hb =>
  ⟨hn b hb,by rw [eL];exact fpC b hb,nfsF b hb,.inl (by rw [eX];exact hb),cellF b hb,λp hp=>by
   rw [eQ] at hp;have e:p=(s.heap.objs.size,o):=by simpa using hp
   rw [e];exact QS (fpD b hb)⟩
 have pinD: ∀ {Kt:St} {H':Hp} {s':Shared} {Kv:List Value} {k:Nat},Inv Xc [] Kt H' s'->s'.heap.get? s.heap.objs.size=some (lobj Kv k)->H' s.heap.objs.size=none->Inv Xc [(s.heap.objs.size,lobj Kv k)] Kt H' s':=λ{Kt H' s' Kv k} I' e n =>
  I'.pins_of λp hp=>by
   have z:p=(s.heap.objs.size,lobj Kv k):=by simpa using hp
   subst z;exact ⟨e,n,by rw [eL];exact hDC,nfsD,λv z=>by cases z⟩
 have loop: ∀ s₃:Shared,s₃={ s with heap:=h₁,toks:=s.toks+([]:List (Str×Value)).length } ->
   codeAny (model X.prog X.w) X.A (.compLoop (.ListComp elt [⟨.Tuple [.Name x px,.Name y py] tk tp,iter,ifs,0⟩] scope pos) 0 (.ref it) (.ref s.heap.objs.size) Xc.env) (RR (.ref s.heap.objs.size) H2.objs.size) s₃:=by
  rintro s₃ rfl;obtain ⟨m0,w0⟩:=w0;have I0:Inv Xc [] (none::none::σ) H { s with heap:=h₁,toks:=s.toks+([]:List (Str×Value)).length }:=hXc ▸ Qir ok I hf hobj hCle old hns₁;refine Qqo (λn s'=> ∃ i ys Kv H' k,Inv Xc [(s.heap.objs.size,lobj Kv k)] (none::none::σ) H' s'/\tn i s'.heap/\(∀ b∈fp,H' b=none)/\Vals ys Kv/\ys.length<=sizeLine/\W i n ys H') ?_ m0
   ⟨0,[],[],H,0,pinD I0 hacc (I.hok.fresh (Q5 _)),st1,λb hb=>(hf b hb).1,.nil,Qz _,w0⟩
  rintro n s3 ⟨i,ys,Kv,H3,k,I3,st3,fr3,rv,hlen3,w3⟩;rcases turn i n ys H3 w3 with ⟨stop,q⟩ | ⟨go,Kr,step⟩
  ·have hd:=T.done Xc eP eW eK eCm i _ s3 (none::none::σ) H3 (notedBy (model X.prog X.w) X.A Xc.env λe s'=>RR (.ref s.heap.objs.size) H2.objs.size (.error e) s') I3 (fpOkC fr3) st3 stop;rw [eA] at hd;refine thn hd λr s4 ⟨hr,I4⟩=> ?_
   subst hr;exact Kj _ _ s4 H3 ys Kv k (Q5 _) hCle hDC (hXc ▸ I4) rv hlen3 q
  ·have hd:=T.item Xc eP eW eK eCm i _ s3 (none::none::σ) H3 (notedBy (model X.prog X.w) X.A Xc.env λe s'=>RR (.ref s.heap.objs.size) H2.objs.size (.error e) s') I3 (fpOkC fr3) st3 go;rw [eA] at hd;refine thn hd λr s4 ⟨u,hr,h4⟩=> ?_
   subst hr;refine thn h4 λ_ s5 ⟨v,H5,I5,r5,y5,st5,fr5⟩=> ?_
   have I5':=I5.pinned (fpOkC fr5) (T.obj _ _ st5);obtain ⟨p,va,vc,ev,sq,ht0⟩:=step v H5 y5;have pgx:PG Xc (.Name x px) (Ba 0):=Jr (by rw [eN];exact ok2.nd) (by rw [eN];rfl) (.inl (by rw [eE];exact WP ok.hx)) (.inr (by rw [eE];exact WP ok.hx));have pgy:PG Xc (.Name y py) (Ba 1):=Jr (by rw [eN];exact ok2.nd) (by rw [eN];rfl) (.inl (by rw [eE];exact WP ok2.hy)) (.inr (by rw [eE];exact WP ok2.hy));have pgt:=Gk (k:=tk) (pos:=tp) (n:=2) eCm (Vh pgx (Vh pgy YY));have hg:=pgt _ s5 (none::none::σ) H5 v u (λKt H'=>Kt=some va::some vc::σ/\H'=H5) I5' r5 ⟨p,[va,vc],ev,by rw [eK];exact sq,rfl,va,[vc],rfl,vc,[],rfl,rfl,rfl,rfl⟩;rw [eP,eW,eA,eF] at hg;refine Jh hg (λ_ s6 ⟨σ6,H6,I6,e6,e7⟩=> ?_) λ_ _ f=>f.elim
   subst e6 e7;have ht:=hifs' _ s6 (some va::some vc::σ) H6 _ I6 ht0;rw [eP,eW,eA,eF] at ht;refine Jh ht (λb s7 ⟨H7,I7,q7⟩=> ?_) λ_ _ f=>f.elim
   have back: ∀ {H':Hp} {s':Shared},Inv Xc ([(s.heap.objs.size,lobj Kv k)]++YX fp s5.heap) (some va::some vc::σ) H' s' ->
     s'.heap.get? s.heap.objs.size=some (lobj Kv k)/\H' s.heap.objs.size=none/\tn (i+1) s'.heap/\(∀ b∈fp,H' b=none)/\Inv Xc [] (none::none::σ) H' s':=λ{H' s'} J'=>by
    have hp: ∀ p∈[(s.heap.objs.size,lobj Kv k)]++YX fp s5.heap,s'.heap.get? p.1=some p.2/\H' p.1=none:=λp hp=>⟨(J'.pin p (QC _ hp)).1,(J'.pin p (QC _ hp)).2.1⟩
    refine ⟨(hp (s.heap.objs.size,lobj Kv k) (by simp)).1,(hp (s.heap.objs.size,lobj Kv k) (by simp)).2,T.keep _ _ _ st5 λb hb o e=>(hp (b,o) (QC _ (Zo hb e))).1,λb hb=> ?_,?_⟩
    ·obtain ⟨o,e,_⟩:=T.obj _ _ st5 b hb;exact (hp (b,o) (QC _ (Zo hb e))).2
    ·refine (J'.pins_of (pins':=[]) λp hp=>by cases hp).weak (by simp) λj w e=> ?_
     cases j with
     | zero =>
      have:(none:Option V)=some w:=by simpa using e
      cases this
     | succ j =>
      cases j with
      | zero =>
       have:(none:Option V)=some w:=by simpa using e
       cases this
      | succ j=>simpa using e
   cases b with
   | false =>
    obtain ⟨m',hm,w7⟩:=(show (if false=true then _ else ∃ m',m' < n/\W (i+1) m' ys H7) from q7);obtain ⟨e,hn,st7,fr7,J7⟩:=back I7;exact ⟨m',hm,i+1,ys,Kv,H7,k,pinD J7 e hn,st7,fr7,rv,hlen3,w7⟩
   | true =>
    have q7':te (some va::some vc::σ) H7 (λy H3=> ∃ m',m' < n/\W (i+1) m' (ys++[y]) H3):=q7;have he:=helt' _ s7 (some va::some vc::σ) H7 _ I7 q7';rw [eP,eW,eA,eF] at he;refine Jh he (λy s8 ⟨yv,H8,I8,r8,m',hm,w8⟩=> ?_) λ_ _ f=>f.elim
    obtain ⟨e,hn,st8,fr8,J8⟩:=back I8;have hl:=rv.length;refine wpAny_list_append_plain (items:=Kv.toArray) ⟨k,e⟩ (λh' pl sb=> ?_) (by rw [Ql];omega);obtain ⟨k',e'⟩:=pl;have e'':h'.get? s.heap.objs.size=some (lobj (Kv++[y]) k'):=by
     rw [e'];simp [lobj]
    have J9:Inv Xc [] (none::none::σ) H8 { s8 with heap:=h' }:=J8.turned (t':=s8.toks) (it:=s.heap.objs.size) (λb o hb q=>(sb.2 b hb).trans q) hn (by rw [eL];exact hDC) (.inr (by rw [eS];exact Q5 _)) cellD (λp hp=>by
     rw [eQ] at hp;exact absurd hp (by simp))
    refine ⟨m',hm,i+1,ys++[yv],Kv++[y],H8,k',pinD J9 e'' hn,T.keep _ _ _ st8 λb hb o q=>(sb.2 b (fpD b hb)).trans q,fr8,rv.append (.cons r8 .nil),?_,w8⟩;rw [Qs];show ys.length+1<=_;omega
 have eE':({ (newEnv scope H2.objs.size X.env.globals (ZL scope X.env) X.env.qual none .none (some X.env) builtinsNs) with scope:=relabel scope X.env }:Env)=Xc.env:=by rw [eE];rfl
 rw [eE'];exact codeAny_compStart_list (loop _ rfl) (T.self X.A 0 _ _ _ st1 (loop _ rfl))
theorem Qpc {elt iter:Expr} {x y:Str} {px py tp:Pos} {tk:Nat} {ifs:List Expr} {scope:Scope} {pos:Pos} {wi:TI} {tc:TT} {te:TE} (hc:X.calm=true) (hi:PI X (.Tuple [.Name x px,.Name y py] tk tp) iter wi)
  (hifs: ∀ cl C s H ex,PTs (cxP X x y scope cl C s H ex) ifs tc) (helt: ∀ cl C s H ex,PE (cxP X x y scope cl C s H ex) elt te)
  (hok:WI X.N X.env.scope x scope=true:=by rfl) (hy:scope.names.lookup y=some .local:=by rfl) (hnd:(x::y::X.N).Nodup:=by decide) (hs: ∀ x,foldedSetIterable iter X.env x=pure x:=by intro _;rfl) :
  PE X (.ListComp elt [⟨.Tuple [.Name x px,.Name y py] tk tp,iter,ifs,0⟩] scope pos) (Qhs X.K wi tc te):=by
 intro Kz s σ H Q I h;have ok:=CompOk.of hok;rw [eval_ListComp];refine Yq (cl:=ZL scope X.env) (use:=none) rfl hs (Zv λy hy e=> ?_) ok.kind ok.names ?_
 ·obtain ⟨n,k⟩:=y;cases e;obtain ⟨c,z⟩:=ok.cells I hy;rw [z];rfl
 ·refine thn (hi Kz s σ H _ I h) λv s1 h1=>thn h1 λitv s2 h2=> ?_
  obtain ⟨it,fp,tn,J,H2,e,I2,T,st2,f2,W,w0,turn⟩:=h2;subst e;refine O5 (RR:=λacc C=>compPost (model X.prog X.w) X.A X.xe none (EP X Kz σ Q) acc C) ok ⟨hy,hnd⟩ hc hifs helt I2 T st2 f2 w0 (Qf:=λys H=> ∀ p,H p=none->Q (.ref p) (upd H p (.lst ys))) turn ?_;intro D C s' H' ys Kv k hD hC hDC J' rv hl q;obtain ⟨m,hn,_⟩:=id J'.loc;refine ⟨m,hn,λh' sb=> ?_⟩;obtain ⟨I',nD⟩:=U1 I2 f2 hD hC hDC (Qaf J' I2.len) rv hl sb;exact ⟨.ref D,_,I',rfl,q D nD⟩
end
mutual
def CIs (h:Heap):D->Value->Prop
 | .non,v=>v= .none
 | .bl b,v=>v= .bool b
 | .int i,v=> ∃ t,v= .int i t
 | .str x,v=> ∃ t,v= .str x t
 | .tup ds,v=> ∃ (a:Addr) (Kv:List Value),v= .ref a/\h.IsTuple a Kv.toArray/\CAll h ds Kv
 | .lst ds,v=> ∃ (a:Addr) (Kv:List Value),v= .ref a/\h.IsList a Kv.toArray/\CAll h ds Kv
 | .dct _ _ _,_=>False
 | .oth _ _ _,_=>False
def CAll (h:Heap):List D->List Value->Prop
 | [],vs=>vs=[]
 | d::ds,vs=> ∃ v r,vs=v::r/\CIs h d v/\CAll h ds r
end
mutual
def dep:D->Nat
 | .tup ds=>1+deps ds
 | .lst ds=>1+deps ds
 | _=>1
def deps:List D->Nat
 | []=>0
 | d::ds=>max (dep d) (deps ds)
end
mutual
def eqD:D->D->Bool
 | .non,.non=>true
 | .bl a,.bl b=>a == b
 | .bl a,.int b=>(if a then 1 else 0) == b
 | .int a,.bl b=>a == (if b then 1 else 0)
 | .int a,.int b=>a == b
 | .str a,.str b=>a == b
 | .tup a,.tup b=>ZJ a b
 | .lst a,.lst b=>ZJ a b
 | .dct f a b,.dct g c d=>f == g && (ZJ a c && ZJ b d)
 | .oth t a b,.oth u c d=>t.enc == u.enc && (ZJ a c && ZJ b d)
 | _,_=>false
def ZJ:List D->List D->Bool
 | [],[]=>true
 | a::as,b::bs=>eqD a b && ZJ as bs
 | _,_=>false
end
theorem Qva (d:D):1<=dep d:=by cases d<;>simp [dep]
theorem Qgh: ∀ {ds:List D} {d:D},d∈ds->dep d<=deps ds
 | a::r,d,h=>by
  rw [deps];rcases Qb.mp h with rfl | h
  ·omega
  ·have:=Qgh h;omega
section
variable {h h':Heap}
theorem CAll.len: ∀ {ds:List D} {vs:List Value},CAll h ds vs->ds.length=vs.length
 | [],_,x=>by rw [CAll] at x;subst x;rfl
 | d::ds,vs,x=>by
  rw [CAll] at x;obtain ⟨v,r,rfl,_,t⟩:=x;simp [CAll.len t]
theorem CAll.get: ∀ {ds:List D} {vs:List Value} {i:Nat} {d:D},CAll h ds vs->ds[i]? =some d-> ∃ v,vs[i]? =some v/\CIs h d v
 | [],_,_,_,_,e=>by simp at e
 | a::ds,vs,0,d,x,e=>by
  rw [CAll] at x;obtain ⟨v,r,rfl,q,_⟩:=x;have:a=d:=by simpa using e
  subst this;exact ⟨v,rfl,q⟩
 | a::ds,vs,i+1,d,x,e=>by
  rw [CAll] at x;obtain ⟨v,r,rfl,_,t⟩:=x;exact CAll.get (i:=i) t (by simpa using e)
theorem ctup {ds:List D} {v:Value}:CIs h (.tup ds) v ↔ ∃ (a:Addr) (Kv:List Value),v= .ref a/\h.IsTuple a Kv.toArray/\CAll h ds Kv:=by rw [CIs]
theorem clst {ds:List D} {v:Value}:CIs h (.lst ds) v ↔ ∃ (a:Addr) (Kv:List Value),v= .ref a/\h.IsList a Kv.toArray/\CAll h ds Kv:=by rw [CIs]
theorem tuple_inj {a:Addr} {x y:Array Value} (p:h.IsTuple a x) (q:h.IsTuple a y):x=y:=by
 obtain ⟨o,e,_,n,d⟩:=p;obtain ⟨o',e',_,n',d'⟩:=q;rw [e] at e';cases e';rw [d] at d';injection d'
theorem list_inj {a:Addr} {x y:Array Value} (p:h.IsList a x) (q:h.IsList a y):x=y:=by
 obtain ⟨o,e,_,n,d⟩:=p;obtain ⟨o',e',_,n',d'⟩:=q;rw [e] at e';cases e';rw [d] at d';injection d'
theorem Qfs {a:Addr} {x y:Array Value} (p:h.IsTuple a x) (q:h.IsList a y):False:=by
 obtain ⟨o,e,c,_⟩:=p;obtain ⟨o',e',c',_⟩:=q;rw [e] at e';cases e';rw [c] at c';exact absurd c' (by decide)
mutual
theorem CIs.inj: ∀ {d e:D} {v:Value},CIs h d v->CIs h e v->d=e
 | .non,e,v,x,y=>by
  simp only [CIs] at x;subst x;cases e<;>simp_all [CIs]
 | .bl b,e,v,x,y=>by
  simp only [CIs] at x;subst x;cases e<;>simp_all [CIs]
 | .int i,e,v,x,y=>by
  simp only [CIs] at x;obtain ⟨t,rfl⟩:=x;cases e<;>simp_all [CIs]
 | .str i,e,v,x,y=>by
  simp only [CIs] at x;obtain ⟨t,rfl⟩:=x;cases e<;>simp_all [CIs]
 | .tup ds,e,v,x,y=>by
  obtain ⟨a,Kv,rfl,p,c⟩:=ctup.mp x;cases e with
  | tup es =>
   obtain ⟨a',its',e1,p',c'⟩:=ctup.mp y;cases e1;have e2:Kv=its':=by simpa using tuple_inj p p'
   subst e2;rw [CAll.inj c c']
  | lst es =>
   obtain ⟨a',its',e1,p',c'⟩:=clst.mp y;cases e1;exact (Qfs p p').elim
  | _=>simp [CIs] at y
 | .lst ds,e,v,x,y=>by
  obtain ⟨a,Kv,rfl,p,c⟩:=clst.mp x;cases e with
  | lst es =>
   obtain ⟨a',its',e1,p',c'⟩:=clst.mp y;cases e1;have e2:Kv=its':=by simpa using list_inj p p'
   subst e2;rw [CAll.inj c c']
  | tup es =>
   obtain ⟨a',its',e1,p',c'⟩:=ctup.mp y;cases e1;exact (Qfs p' p).elim
  | _=>simp [CIs] at y
 | .dct f a b,e,v,x,y=>by simp only [CIs] at x
 | .oth f a b,e,v,x,y=>by simp only [CIs] at x
theorem CAll.inj: ∀ {ds es:List D} {vs:List Value},CAll h ds vs->CAll h es vs->ds=es
 | [],es,vs,x,y=>by
  simp only [CAll] at x;subst x;cases es with
  | nil=>rfl
  | cons e r=>simp [CAll] at y
 | d::ds,es,vs,x,y=>by
  rw [CAll] at x;obtain ⟨v,r,rfl,q,t⟩:=x;cases es with
  | nil=>simp [CAll] at y
  | cons e es =>
   rw [CAll] at y;obtain ⟨v',r',e1,q',t'⟩:=y;cases e1;rw [CIs.inj q q',CAll.inj t t']
end
mutual
theorem Qal: ∀ d:D,eqD d d=true
 | .non=>by simp [eqD]
 | .bl b=>by simp [eqD]
 | .int b=>by simp [eqD]
 | .str b=>by simp [eqD]
 | .tup ds=>by rw [eqD];exact Zs ds
 | .lst ds=>by rw [eqD];exact Zs ds
 | .dct f a b=>by rw [eqD,Zs a,Zs b];simp
 | .oth f a b=>by rw [eqD,Zs a,Zs b];simp
theorem Zs: ∀ ds:List D,ZJ ds ds=true
 | []=>by simp [ZJ]
 | d::ds=>by rw [ZJ,Qal d,Zs ds];rfl
end
theorem Qga: ∀ {ds es:List D},ZJ ds es=true->ds.length=es.length
 | [],[],_=>rfl
 | [],_::_,x=>by simp [ZJ] at x
 | _::_,[],x=>by simp [ZJ] at x
 | d::ds,e::es,x=>by
  rw [ZJ,Qv] at x;simp [Qga x.2]
theorem Ox: ∀ (ds es:List D),ZJ ds es=((List.range (min ds.length es.length)).all (λi=>eqD (ds.getD i .non) (es.getD i .non)) && ds.length == es.length)
 | [],[]=>by simp [ZJ]
 | [],e::es=>by simp [ZJ]
 | d::ds,[]=>by simp [ZJ]
 | d::ds,e::es=>by
  rw [ZJ,Ox ds es];have e1:min (d::ds).length (e::es).length=min ds.length es.length+1:=by simp only [Qq];omega
  rw [e1,List.range_succ_eq_map,List.all_cons,List.all_map];have e2:((d::ds).length == (e::es).length)=(ds.length == es.length):=by simp
  rw [e2,Bool.and_assoc];rfl
end
section
variable {A:Around} {s:Shared}
set_option maxHeartbeats 1000000 in
mutual
theorem Qj2: ∀ (d e:D) {v u:Value} {A:Around},CIs s.heap d v->CIs s.heap e u->A.units+dep d+dep e < cLine->SeqAt.EqAt A s v u (eqD d e)
 | .non,e,v,u,A,x,y,hu=>by
  simp only [CIs] at x;subst x;cases e with
  | dct f1 a1 b1=>simp only [CIs] at y
  | oth f1 a1 b1=>simp only [CIs] at y
  | non=>simp only [CIs] at y;subst y;exact Qh7 _
  | bl b=>simp only [CIs] at y;subst y;exact SeqAt.EqAt.none_bool b
  | int b=>simp only [CIs] at y;obtain ⟨t,rfl⟩:=y;exact SeqAt.EqAt.none_int b t
  | str b=>simp only [CIs] at y;obtain ⟨t,rfl⟩:=y;exact SeqAt.EqAt.none_str b t
  | tup es=>obtain ⟨a,Kv,rfl,p,_⟩:=ctup.mp y;exact SeqAt.EqAt.none_tuple p (by omega)
  | lst es=>obtain ⟨a,Kv,rfl,p,_⟩:=clst.mp y;exact SeqAt.EqAt.none_list p (by omega)
 | .bl b,e,v,u,A,x,y,hu=>by
  simp only [CIs] at x;subst x;cases e with
  | dct f1 a1 b1=>simp only [CIs] at y
  | oth f1 a1 b1=>simp only [CIs] at y
  | non=>simp only [CIs] at y;subst y;exact SeqAt.EqAt.bool_none b
  | bl c=>simp only [CIs] at y;subst y;exact SeqAt.EqAt.bool_bool b c
  | int c=>simp only [CIs] at y;obtain ⟨t,rfl⟩:=y;exact SeqAt.EqAt.bool_int b c t
  | str c=>simp only [CIs] at y;obtain ⟨t,rfl⟩:=y;exact SeqAt.EqAt.bool_str b c t
  | tup es=>obtain ⟨a,Kv,rfl,p,_⟩:=ctup.mp y;exact SeqAt.EqAt.bool_tuple b p (by omega)
  | lst es=>obtain ⟨a,Kv,rfl,p,_⟩:=clst.mp y;exact SeqAt.EqAt.bool_list b p (by omega)
 | .int b,e,v,u,A,x,y,hu=>by
  simp only [CIs] at x;obtain ⟨t,rfl⟩:=x;cases e with
  | dct f1 a1 b1=>simp only [CIs] at y
  | oth f1 a1 b1=>simp only [CIs] at y
  | non=>simp only [CIs] at y;subst y;exact SeqAt.EqAt.int_none b t
  | bl c=>simp only [CIs] at y;subst y;exact SeqAt.EqAt.int_bool b t c
  | int c=>simp only [CIs] at y;obtain ⟨t',rfl⟩:=y;exact SeqAt.EqAt.int_int b t c t'
  | str c=>simp only [CIs] at y;obtain ⟨t',rfl⟩:=y;exact Qsv b t c t'
  | tup es=>obtain ⟨a,Kv,rfl,p,_⟩:=ctup.mp y;exact SeqAt.EqAt.int_tuple b t p (by omega)
  | lst es=>obtain ⟨a,Kv,rfl,p,_⟩:=clst.mp y;exact SeqAt.EqAt.int_list b t p (by omega)
 | .str b,e,v,u,A,x,y,hu=>by
  simp only [CIs] at x;obtain ⟨t,rfl⟩:=x;cases e with
  | dct f1 a1 b1=>simp only [CIs] at y
  | oth f1 a1 b1=>simp only [CIs] at y
  | non=>simp only [CIs] at y;subst y;exact SeqAt.EqAt.str_none b t
  | bl c=>simp only [CIs] at y;subst y;exact SeqAt.EqAt.str_bool b t c
  | int c=>simp only [CIs] at y;obtain ⟨t',rfl⟩:=y;exact Qst b t c t'
  | str c=>simp only [CIs] at y;obtain ⟨t',rfl⟩:=y;exact SeqAt.EqAt.str_str b t c t'
  | tup es=>obtain ⟨a,Kv,rfl,p,_⟩:=ctup.mp y;exact SeqAt.EqAt.str_tuple b t p (by omega)
  | lst es=>obtain ⟨a,Kv,rfl,p,_⟩:=clst.mp y;exact SeqAt.EqAt.str_list b t p (by omega)
 | .tup ds,e,v,u,A,x,y,hu=>by
  obtain ⟨a,Kv,rfl,p,c⟩:=ctup.mp x;have hu1:A.units < cLine:=by omega
  cases e with
  | dct f1 a1 b1=>simp only [CIs] at y
  | oth f1 a1 b1=>simp only [CIs] at y
  | non=>simp only [CIs] at y;subst y;exact SeqAt.EqAt.tuple_none p hu1
  | bl b=>simp only [CIs] at y;subst y;exact SeqAt.EqAt.tuple_bool b p hu1
  | int b=>simp only [CIs] at y;obtain ⟨t,rfl⟩:=y;exact SeqAt.EqAt.tuple_int b t p hu1
  | str b=>simp only [CIs] at y;obtain ⟨t,rfl⟩:=y;exact SeqAt.EqAt.tuple_str b t p hu1
  | tup es =>
   obtain ⟨a',its',rfl,p',c'⟩:=ctup.mp y
   by_cases ha:a=a'
   ·subst ha;rw [CIs.inj x y,Qal];exact Qh7 _
   ·rw [eqD];have z:=SeqAt.RcAt.tuples p p' hu1 (Oz ds es c c' (by simp only [dep] at hu;show A.units+1+deps ds+deps es < cLine;omega));have l1:=c.len;have l2:=c'.len;rw [Ox,l1,l2];refine Qsu ha ?_;simpa using z
  | lst es=>obtain ⟨a',its',rfl,p',_⟩:=clst.mp y;exact SeqAt.EqAt.tuple_list p p' hu1
 | .lst ds,e,v,u,A,x,y,hu=>by
  obtain ⟨a,Kv,rfl,p,c⟩:=clst.mp x;have hu1:A.units < cLine:=by omega
  cases e with
  | dct f1 a1 b1=>simp only [CIs] at y
  | oth f1 a1 b1=>simp only [CIs] at y
  | non=>simp only [CIs] at y;subst y;exact SeqAt.EqAt.list_none p hu1
  | bl b=>simp only [CIs] at y;subst y;exact SeqAt.EqAt.list_bool b p hu1
  | int b=>simp only [CIs] at y;obtain ⟨t,rfl⟩:=y;exact SeqAt.EqAt.list_int b t p hu1
  | str b=>simp only [CIs] at y;obtain ⟨t,rfl⟩:=y;exact SeqAt.EqAt.list_str b t p hu1
  | tup es=>obtain ⟨a',its',rfl,p',_⟩:=ctup.mp y;exact SeqAt.EqAt.list_tuple p p' hu1
  | lst es =>
   obtain ⟨a',its',rfl,p',c'⟩:=clst.mp y
   by_cases ha:a=a'
   ·subst ha;rw [CIs.inj x y,Qal];exact Qh7 _
   ·rw [eqD];have l1:=c.len;have l2:=c'.len
    by_cases hl:Kv.length=its'.length
    ·have z:=SeqAt.RcAt.lists p p' (by simpa using hl) hu1 (Oz ds es c c' (by simp only [dep] at hu;show A.units+1+deps ds+deps es < cLine;omega));rw [Ox,l1,l2];refine Qsu ha ?_;simpa [hl] using z
    ·have e0:ZJ ds es=false:=by
      cases q:ZJ ds es with
      | false=>rfl
      | true=>exact absurd (Qga q) (by omega)
     rw [e0];exact Qsu ha (SeqAt.RcAt.lists_lengths p p' (by simpa using hl) hu1)
 | .dct f1 a1 b1,e,v,u,A,x,y,hu=>by simp only [CIs] at x
 | .oth f1 a1 b1,e,v,u,A,x,y,hu=>by simp only [CIs] at x
theorem Oz: ∀ (ds es:List D) {vs us:List Value} {A:Around},CAll s.heap ds vs->CAll s.heap es us->A.units+deps ds+deps es < cLine-> ∀ (j:Nat) (h1:j < vs.toArray.size) (h2:j < us.toArray.size),SeqAt.EqAt A s vs.toArray[j] us.toArray[j] (eqD (ds.getD j .non) (es.getD j .non))
 | [],es,vs,us,A,x,y,hu,j,h1,h2=>by
  simp only [CAll] at x;subst x;simp at h1
 | d::ds,[],vs,us,A,x,y,hu,j,h1,h2=>by
  simp only [CAll] at y;subst y;simp at h2
 | d::ds,e::es,vs,us,A,x,y,hu,0,h1,h2=>by
  rw [CAll] at x y;obtain ⟨v,r,rfl,q,_⟩:=x;obtain ⟨v',r',rfl,q',_⟩:=y;exact Qj2 d e q q' (by simp only [deps] at hu;omega)
 | d::ds,e::es,vs,us,A,x,y,hu,j+1,h1,h2=>by
  rw [CAll] at x y;obtain ⟨v,r,rfl,_,t⟩:=x;obtain ⟨v',r',rfl,_,t'⟩:=y;have:=Oz ds es t t' (A:=A) (by simp only [deps] at hu;omega) j (by simpa using h1) (by simpa using h2);simpa using this
end
end
end L2
namespace ST
open PySem PySem.SetTable
def adv (mask:Nat) (p:Probe):Probe :=
 if p.more > 0 then { p with j:=p.j+1,more:=p.more - 1 } else
 { p with j:=(leap mask p.i p.perturb).1,more:=runEnd mask (leap mask p.i p.perturb).1 - (leap mask p.i p.perturb).1,i:=(leap mask p.i p.perturb).1,perturb:=(leap mask p.i p.perturb).2 }
theorem Qb6 (t:SetTable) (p:Probe):t.advance p=adv t.mask p:=rfl
def at0 (mask i perturb:Nat):Probe:={ j:=i,more:=runEnd mask i - i,i:=i,perturb:=perturb,dummy:=none }
def seq (mask:Nat) (h:Int):Nat->Probe
 | 0=>at0 mask (bits h % (mask+1)) (bits h)
 | n+1=>adv mask (seq mask h n)
theorem Qbn (t:SetTable) (h:Int):t.probeStart h=seq t.mask h 0:=rfl
theorem Qbz {mask i:Nat} (h:i<=mask):runEnd mask i<=mask:=by
 unfold runEnd;split<;>omega
theorem UQ (mask i:Nat):i<=runEnd mask i/\runEnd mask i<=i+9:=by
 unfold runEnd;split<;>omega
theorem Qkp (mask i p:Nat):(leap mask i p).1<=mask:=by
 unfold leap;have:=Qhf (i * 5+1+p / 32) (show 0 < mask+1 by omega);show (i * 5+1+p / 32) % (mask+1)<=mask;omega
structure Pk (mask:Nat) (p:Probe):Prop where
 i:p.i<=mask
 j:p.i<=p.j
 m:p.j+p.more=runEnd mask p.i
 d:p.dummy=none
theorem Qxg {mask i perturb:Nat} (h:i<=mask):Pk mask (at0 mask i perturb):=⟨h,Q5 _,by have:=UQ mask i;show i+(runEnd mask i - i)=runEnd mask i;omega,rfl⟩
theorem Qxh {mask:Nat} {p:Probe} (h:Pk mask p):Pk mask (adv mask p):=by
 unfold adv;split
 ·rename_i hm;have h1:=h.m;have h2:=h.j;exact ⟨h.i,by show p.i<=p.j+1;omega,by show p.j+1+(p.more - 1)=runEnd mask p.i;omega,h.d⟩
 ·have:=Qkp mask p.i p.perturb;have h2:=UQ mask (leap mask p.i p.perturb).1;exact ⟨this,Q5 _,by show (leap mask p.i p.perturb).1+(runEnd mask (leap mask p.i p.perturb).1 - (leap mask p.i p.perturb).1)=runEnd mask (leap mask p.i p.perturb).1;omega,h.d⟩
theorem Qi8 (mask:Nat) (h:Int): ∀ n,Pk mask (seq mask h n)
 | 0=>Qxg (by have:=Qhf (bits h) (show 0 < mask+1 by omega);show bits h % (mask+1)<=mask;omega)
 | n+1=>Qxh (Qi8 mask h n)
theorem Qx0 (mask:Nat) (h:Int) (n:Nat):(seq mask h n).j<=mask:=by
 have k:=Qi8 mask h n;have:=Qbz k.i;have:=k.m;omega
def bs (mask:Nat) (h:Int):Nat->Nat×Nat
 | 0=>(bits h % (mask+1),bits h)
 | n+1=>leap mask (bs mask h n).1 (bs mask h n).2
theorem Qs5 (mask:Nat) (h:Int) (n:Nat):(bs mask h n).1<=mask:=by
 cases n with
 | zero=>have:=Qhf (bits h) (show 0 < mask+1 by omega);show bits h % (mask+1)<=mask;omega
 | succ n=>exact Qkp ..
theorem Qev {mask i perturb:Nat}: ∀ k,k<=runEnd mask i - i->Nat.rec (motive:=λ_=>Probe) (at0 mask i perturb) (λ_ p=>adv mask p) k={ j:=i+k,more:=runEnd mask i - i - k,i:=i,perturb:=perturb,dummy:=none }
 | 0,_=>rfl
 | k+1,h=>by
  show adv mask (Nat.rec (motive:=λ_=>Probe) (at0 mask i perturb) (λ_ p=>adv mask p) k)=_;rw [Qev k (by omega)];unfold adv;rw [Qj (by show runEnd mask i - i - k > 0;omega)];show ({ j:=i+k+1,more:=runEnd mask i - i - k - 1,i:=i,perturb:=perturb,dummy:=none }:Probe)=_;rw [Nat.add_assoc,Nat.sub_sub _ k 1]
theorem OT {mask:Nat} {h:Int} {n:Nat} {p:Probe} (e:seq mask h n=p): ∀ k,seq mask h (n+k)=Nat.rec (motive:=λ_=>Probe) p (λ_ p=>adv mask p) k
 | 0=>e
 | k+1=>by
  show adv mask (seq mask h (n+k))=adv mask _;rw [OT e k]
theorem Qse {mask i perturb:Nat}:adv mask { j:=i+(runEnd mask i - i),more:=0,i:=i,perturb:=perturb,dummy:=none }=at0 mask (leap mask i perturb).1 (leap mask i perturb).2:=by
 unfold adv;rw [Qg (by show ¬ (0:Nat) > 0;omega)];rfl
def nb (mask:Nat) (h:Int):Nat->Nat
 | 0=>0
 | b+1=>nb mask h b+(runEnd mask (bs mask h b).1 - (bs mask h b).1)+1
theorem Qi0 (mask:Nat) (h:Int): ∀ b,seq mask h (nb mask h b)=at0 mask (bs mask h b).1 (bs mask h b).2
 | 0=>rfl
 | b+1=>by
  have e:=OT (Qi0 mask h b) (runEnd mask (bs mask h b).1 - (bs mask h b).1);rw [Qev _ (Q5 _),Nat.sub_self] at e;show adv mask (seq mask h (nb mask h b+(runEnd mask (bs mask h b).1 - (bs mask h b).1)))=_;rw [e,Qse];rfl
theorem Qvy (mask:Nat) (h:Int): ∀ b,nb mask h b<=10 * b
 | 0=>Q5 _
 | b+1=>by
  have:=Qvy mask h b;have:=UQ mask (bs mask h b).1;show nb mask h b+(runEnd mask (bs mask h b).1 - (bs mask h b).1)+1<=_;omega
theorem Qdf (mask:Nat) (h:Int) (b k:Nat) (hk:k<=runEnd mask (bs mask h b).1 - (bs mask h b).1):(seq mask h (nb mask h b+k)).j=(bs mask h b).1+k:=by
 rw [OT (Qi0 mask h b) k,Qev k hk]
theorem Qvf (h:Int):bits h < 2 ^ 64:=by
 unfold bits;have h1:=Qhi h (show (0:Int) < 2 ^ 64 by decide);have h0:=Qsx h (show (2 ^ 64:Int)≠0 by decide);omega
theorem Qay (mask:Nat) (h:Int): ∀ b,(bs mask h b).2=bits h / 32 ^ b
 | 0=>by show bits h=_;simp
 | b+1=>by
  show (bs mask h b).2 / 32=_;rw [Qay mask h b,Nat.div_div_eq_div_mul,Nat.pow_succ]
theorem Qvd (mask:Nat) (h:Int) (b:Nat) (hb:13<=b):(bs mask h b).2=0:=by
 rw [Qay];refine Nat.div_eq_of_lt (Qr (Qvf h) ?_);have:(2:Nat) ^ 64<=32 ^ 13:=by decide
 exact Qu this (Zj (by decide) hb)
def fi (mask:Nat):Nat->Nat->Nat
 | 0,i=>i
 | m+1,i=>fi mask m ((i * 5+1) % (mask+1))
theorem Bc (mask:Nat): ∀ m i,fi mask (m+1) i=(fi mask m i * 5+1) % (mask+1)
 | 0,i=>rfl
 | m+1,i=>by
  show fi mask (m+1) ((i * 5+1) % (mask+1))=_;rw [Bc mask m];rfl
theorem Qej (mask:Nat): ∀ m n i,fi mask (m+n) i=fi mask m (fi mask n i)
 | 0,n,i=>by rw [Nat.zero_add];rfl
 | m+1,n,i=>by
  rw [Nat.succ_add_eq_add_succ];show fi mask (m+(n+1)) i=_;rw [Qej mask m (n+1) i,Bc,Bc];show fi mask m ((fi mask n i * 5+1) % (mask+1))=_;rw [<- Bc mask m];rfl
theorem Qs6 (mask:Nat) (h:Int): ∀ m,(bs mask h (13+m)).1=fi mask m (bs mask h 13).1
 | 0=>rfl
 | m+1=>by
  rw [Bc,<- Qs6 mask h m];show (leap mask (bs mask h (13+m)).1 (bs mask h (13+m)).2).1=_;rw [Qvd mask h (13+m) (by omega)];unfold leap
  simp
def Cyc (mask:Nat):Prop:=fi mask (mask+1) 0=0/\ ∀ v,v<=mask-> ∃ m,m<=mask/\fi mask m 0=v
def Jaq (mask:Nat):Bool:=(fi mask (mask+1) 0 == 0) && (List.range (mask+1)).all λv=>(List.range (mask+1)).any λm=>fi mask m 0 == v
theorem Qj8 {mask:Nat} (h:Jaq mask=true):Cyc mask:=by
 unfold Jaq at h;simp only [Qv,WZ,Wo,Zx,Je] at h;exact ⟨h.1,λv hv=>let ⟨m,hm,e⟩:=h.2 v (by omega);⟨m,by omega,e⟩⟩
theorem cyc7:Cyc 7:=Qj8 (by decide +kernel)
theorem cyc31:Cyc 31:=Qj8 (by decide +kernel)
theorem cyc127:Cyc 127:=Qj8 (by decide +kernel)
theorem Cyc.all {mask:Nat} (c:Cyc mask) {i v:Nat} (hi:i<=mask) (hv:v<=mask): ∃ m,m<=mask/\fi mask m i=v:=by
 obtain ⟨a,ha,rfl⟩:=c.2 i hi;obtain ⟨b,hb,rfl⟩:=c.2 v hv
 by_cases h:a<=b
 ·exact ⟨b - a,by omega,by rw [<- Qej];congr 1;omega⟩
 ·refine ⟨mask+1 - a+b,by omega,?_⟩;rw [<- Qej];have e:mask+1 - a+b+a=b+(mask+1):=by omega
  rw [e,Qej,c.1]
theorem Qtd {mask:Nat} (c:Cyc mask) (h:Int) {v:Nat} (hv:v<=mask): ∃ n,n<=10 * (13+mask)/\(seq mask h n).j=v:=by
 obtain ⟨m,hm,e⟩:=c.all (Qs5 mask h 13) hv;refine ⟨nb mask h (13+m),Qu (Qvy _ _ _) (by omega),?_⟩;rw [Qi0,<- e,<- Qs6];rfl
theorem Qz2 {mask:Nat} (c:Cyc mask) (h:Int) {v:Nat} (hv:v<=mask): ∃ b,b<=13+mask/\(bs mask h b).1=v:=by
 obtain ⟨m,hm,e⟩:=c.all (Qs5 mask h 13) hv;exact ⟨13+m,by omega,by rw [Qs6];exact e⟩
theorem Oi {xs:List Nat} (h:xs.Pairwise (· < ·)) {i j a b:Nat} (hi:xs[i]? =some a) (hj:xs[j]? =some b) (hij:i < j):a < b:=by
 rw [Gw] at h;obtain ⟨h1,e1⟩:=Q4.mp hi;obtain ⟨h2,e2⟩:=Q4.mp hj;rw [<- e1,<- e2];exact h i j h1 h2 hij
structure Bel (xs:Array Nat) (j r:Nat):Prop where
 le:r<=xs.size
 lo: ∀ i a,i < r->xs[i]? =some a->a < j
 hi: ∀ i a,r<=i->xs[i]? =some a->j<=a
theorem Qb3 {xs:Array Nat} {j:Nat} (h:xs.toList.Pairwise (· < ·)): ∀ (fuel lo hi:Nat),hi - lo<=fuel->lo<=hi->hi<=xs.size->(∀ i a,i < lo->xs[i]? =some a->a < j)->(∀ i a,hi<=i->xs[i]? =some a->j<=a)->Bel xs j (below.go xs j fuel lo hi)
 | 0,lo,hi,hf,hl,hs,h1,h2=>by
  have e:lo=hi:=by omega
  subst e;exact ⟨hs,h1,h2⟩
 | fuel+1,lo,hi,hf,hl,hs,h1,h2=>by
  unfold below.go;split
  ·rename_i Ks;have hm:(lo+hi) / 2 < xs.size:=by omega
   have hgd:xs.getD ((lo+hi) / 2) j=xs[(lo+hi) / 2]:=by simp [Array.getD,hm]
   have hsm:xs[(lo+hi) / 2]? =some xs[(lo+hi) / 2]:=by simp [hm]
   simp only;rw [hgd];split
   ·rename_i hc;refine Qb3 h fuel _ _ (by omega) (by omega) hs (λi a hi' e=> ?_) h2;rcases Qhg (Nat.lt_succ_iff.mp hi') with z | z
    ·have:=Oi h (by rw [Qw];exact e) (by rw [Qw];exact hsm) z;omega
    ·subst z;rw [hsm] at e;cases e;exact hc
   ·rename_i hc;refine Qb3 h fuel _ _ (by omega) (by omega) (by omega) h1 (λi a hi' e=> ?_);rcases Qhg hi' with z | z
    ·have:=Oi h (by rw [Qw];exact hsm) (by rw [Qw];exact e) z;omega
    ·subst z;rw [hsm] at e;cases e;omega
  ·have e:lo=hi:=by omega
   subst e;exact ⟨hs,h1,h2⟩
theorem BS {xs:Array Nat} (h:xs.toList.Pairwise (· < ·)) (j:Nat):Bel xs j (below xs j) :=
 Qb3 h _ _ _ (by omega) (Qz _) (Q5 _) (λi a hi=>absurd hi (Qbb _)) (λi a hi e=>by
  have:=(Qwm.mp e).1;omega)
theorem Qs8 {xs:Array Nat} (h:xs.toList.Pairwise (· < ·)) {i j:Nat} (e:xs[i]? =some j):below xs j=i:=by
 have b:=BS h j;rcases Qli (below xs j) i with z | z | z
 ·have hs:=(Qwm.mp e).1;have hb:below xs j < xs.size:=by omega
  have e2:xs[below xs j]? =some xs[below xs j]:=by simp [hb]
  have h1:=b.hi _ _ (Q5 _) e2;have h2:=Oi h (by rw [Qw];exact e2) (by rw [Qw];exact e) z;omega
 ·exact z
 ·exact absurd (b.lo i j z e) (JK _)
theorem Qkv (j:Nat):has #[] j=false:=by
 unfold has
 simp
theorem Qm0 {t:SetTable} (h:t.place.toList.Pairwise (· < ·)) {i j:Nat} (e:t.place[i]? =some j):t.slot j= .live i:=by
 unfold slot;simp only;rw [Qs8 h e,e]
 simp
theorem Qlz {t:SetTable} (hd:t.dummies= #[]) {j:Nat} (e:j ∉ t.place.toList):t.slot j= .empty:=by
 unfold slot;simp only;rw [Qg,Qg]
 ·rw [hd,Qkv];simp
 ·intro z;rw [WZ] at z;exact e (Q9 (by rw [Qw];exact z))
theorem Qmm {t:SetTable} {j:Nat} (h:j∈t.place.toList): ∃ i:Nat,t.place[i]? =some j:=by
 obtain ⟨i,hi,e⟩:=Ud.mp h;exact ⟨i,by rw [<- Qw,Qc hi,e]⟩
def Re (mask:Nat) (ps:List Nat) (h:Int) (j:Nat):Prop:= ∃ n,(seq mask h n).j=j/\ ∀ m,m < n->(seq mask h m).j∈ps
theorem Re.mono {mask:Nat} {ps qs:List Nat} {h:Int} {j:Nat} (r:Re mask ps h j) (s: ∀ x∈ps,x∈qs):Re mask qs h j :=
 let ⟨n,e,f⟩:=r;⟨n,e,λm hm=>s _ (f m hm)⟩
def MaskOk (m:Nat):Prop:=m=7 \/ m=31 \/ m=127
theorem MaskOk.cyc {m:Nat} (h:MaskOk m):Cyc m:=by
 rcases h with rfl | rfl | rfl
 ·exact cyc7
 ·exact cyc31
 ·exact cyc127
structure TabOk {α:Type} (t:SetTable) (es:Array (Int×α)):Prop where
 mask:MaskOk t.mask
 dum:t.dummies= #[]
 size:t.place.size=es.size
 full:t.place.size * 5 < t.mask * 3
 srt:t.place.toList.Pairwise (· < ·)
 bnd: ∀ j∈t.place.toList,j<=t.mask
 reach: ∀ q∈t.place.toList.zip es.toList,Re t.mask t.place.toList q.2.1 q.1
section
variable {α:Type} {t:SetTable} {es:Array (Int×α)}
theorem TabOk.fresh (f m:Nat) (led:Bool):TabOk (SetTable.fresh f m led) (#[]:Array (Int×α)):=⟨.inl rfl,rfl,rfl,(by show 0 * 5 < 7 * 3;decide),Qlm,(λj hj=>nomatch hj),(λq hq=>nomatch hq)⟩
theorem TabOk.fits (T:TabOk t es):t.fits es.size=true:=by
 unfold SetTable.fits SetTable.fill;have h1:=T.size;have h2:=T.full;rw [T.dum,T.size]
 simp
 omega
theorem pigeon: ∀ (n:Nat) (ps:List Nat),ps.Pairwise (· < ·)->ps.length < n-> ∃ v,v < n/\v ∉ ps
 | 0,ps,_,h=>by omega
 | n+1,ps,hs,h=>by
  by_cases hn:n∈ps
  ·obtain ⟨l1,l2,rfl⟩:=List.append_of_mem hn;have hs':(l1++l2).Pairwise (· < ·):=by
    rw [List.pairwise_append] at hs ⊢;exact ⟨hs.1,(Wp.mp hs.2.1).2,λa ha b hb=>hs.2.2 a ha b (Q7 _ hb)⟩
   obtain ⟨v,hv,hm⟩:=pigeon n (l1++l2) hs' (by simp at h ⊢; omega);refine ⟨v,by omega,λz=> ?_⟩;rcases Qy.mp z with z | z
   ·exact hm (Ji _ z)
   ·rcases Qb.mp z with z | z
    ·omega
    ·exact hm (QC _ z)
  ·exact ⟨n,by omega,hn⟩
theorem TabOk.empty (T:TabOk t es): ∃ v,v<=t.mask/\v ∉ t.place.toList:=by
 obtain ⟨v,hv,hm⟩:=pigeon (t.mask+1) t.place.toList T.srt (by have:=T.full;simp;omega);exact ⟨v,by omega,hm⟩
theorem least {p:Nat->Prop} [DecidablePred p]: ∀ (n:Nat),p n-> ∃ m,m<=n/\p m/\ ∀ k,k < m-> ¬ p k
 | 0,h=>⟨0,Q5 _,h,λk hk=>by omega⟩
 | n+1,h=>by
  by_cases q: ∃ k,k<=n/\p k
  ·obtain ⟨k,hk,pk⟩:=q;obtain ⟨m,hm,pm,f⟩:=least k pk;exact ⟨m,by omega,pm,f⟩
  ·exact ⟨n+1,Q5 _,h,λk hk pk=>q ⟨k,by omega,pk⟩⟩
theorem TabOk.first (T:TabOk t es) (h:Int): ∃ n,n<=10 * (13+t.mask)/\(seq t.mask h n).j ∉ t.place.toList/\ ∀ m,m < n->(seq t.mask h m).j∈t.place.toList:=by
 obtain ⟨v,hv,hm⟩:=T.empty;obtain ⟨n,hn,e⟩:=Qtd T.mask.cyc h hv;obtain ⟨m,hm',h1,h2⟩:=least (p:=λn=>(seq t.mask h n).j ∉ t.place.toList) n (by rw [e];exact hm);exact ⟨m,by omega,h1,λk hk=>Gy λz=>h2 k hk z⟩
inductive Met1 (t:SetTable) (hashAt:Nat->Int) (h:Int) (n e:Nat):Option Met->Prop where
 | cand (m i:Nat) (hm:n<=m) (he:m < e) (hi:t.place[i]? =some (seq t.mask h m).j) (hh:hashAt i=h) (no: ∀ k,n<=k->k < m-> ∃ i',t.place[i']? =some (seq t.mask h k).j/\hashAt i'≠h) :
   Met1 t hashAt h n e (some (.candidate (seq t.mask h m).j i (seq t.mask h (m+1))))
 | emp (no: ∀ k,n<=k->k < e-> ∃ i',t.place[i']? =some (seq t.mask h k).j/\hashAt i'≠h):Met1 t hashAt h n e (some (.empty (seq t.mask h e).j none))
theorem Qfn (T:TabOk t es) (hashAt:Nat->Int) (h:Int) {e:Nat} (he:(seq t.mask h e).j ∉ t.place.toList) (hl: ∀ m,m < e->(seq t.mask h m).j∈t.place.toList) :
  ∀ (fuel n:Nat),n<=e->e - n < fuel->Met1 t hashAt h n e (probe.go t hashAt h fuel (seq t.mask h n))
 | 0,n,_,hf=>by omega
 | fuel+1,n,hn,hf=>by
  unfold probe.go
  by_cases z:n=e
  ·subst z;rw [Qlz T.dum he];simp only;rw [(Qi8 t.mask h n).d];exact .emp λk h1 h2=>by omega
  ·have Ks:n < e:=by omega
   obtain ⟨i,hi⟩:=Qmm (hl n Ks);rw [Qm0 T.srt hi];simp only;split
   ·rename_i hc;rw [WZ] at hc;rw [Qb6];exact .cand n i (Q5 _) Ks hi hc λk h1 h2=>by omega
   ·rename_i hc;have Kk:hashAt i≠h:=λz=>hc (by rw [WZ];exact z)
    rw [Qb6];have ih:=Qfn T hashAt h he hl fuel (n+1) Ks (by omega);show Met1 t hashAt h n e (probe.go t hashAt h fuel (seq t.mask h (n+1)));have ext: ∀ k m,(∀ k,n+1<=k->k < m-> ∃ i',t.place[i']? =some (seq t.mask h k).j/\hashAt i'≠h)->n<=k->k < m-> ∃ i',t.place[i']? =some (seq t.mask h k).j/\hashAt i'≠h:=λk m f h1 h2=>by
     rcases Qhg h1 with z | z
     ·exact f k z h2
     ·subst z;exact ⟨i,hi,Kk⟩
    generalize probe.go t hashAt h fuel (seq t.mask h (n+1))=r at ih;cases ih with
    | cand m i' hm hme hi' hh no=>exact .cand m i' (by omega) hme hi' hh λk=>ext k m no
    | emp no=>exact .emp λk=>ext k e no
theorem Qm6 (T:TabOk t es) (hashAt:Nat->Int) (h:Int) {e n:Nat} (he:(seq t.mask h e).j ∉ t.place.toList) (hl: ∀ m,m < e->(seq t.mask h m).j∈t.place.toList) (hb:e<=10 * (13+t.mask)) (hn:n<=e):Met1 t hashAt h n e (t.probe hashAt h (seq t.mask h n)):=by
 unfold probe;exact Qfn T hashAt h he hl _ n hn (by unfold turns;omega)
theorem Qsy {β γ:Type} {xs:List β} {ys:List γ} (hl:xs.length=ys.length) (p:Nat) (x:β) (y:γ):(xs.take p++x::xs.drop p).zip (ys.take p++y::ys.drop p)=(xs.zip ys).take p++(x,y)::(xs.zip ys).drop p:=by
 rw [Qbc (by rw [QA,QA,hl]),JG];congr 1
 ·exact (List.take_zipWith).symm
 ·congr 1;exact (List.drop_zipWith).symm
theorem Qt8 {xs:List Nat} {p j:Nat} (h:xs.Pairwise (· < ·)) (h1: ∀ a∈xs.take p,a < j) (h2: ∀ a∈xs.drop p,j < a):(xs.take p++j::xs.drop p).Pairwise (· < ·):=by
 rw [List.pairwise_append];refine ⟨h.sublist (List.take_sublist _ _),Wp.mpr ⟨h2,h.sublist (List.drop_sublist _ _)⟩,λa ha b hb=> ?_⟩;rcases Qb.mp hb with rfl | hb
 ·exact h1 a ha
 ·have:=h1 a ha;have:=h2 b hb;omega
theorem TabOk.put (T:TabOk t es) {h:Int} {x:α} {e:Nat} (he:(seq t.mask h e).j ∉ t.place.toList) (hl: ∀ m,m < e->(seq t.mask h m).j∈t.place.toList) :
  let t':=(t.put (seq t.mask h e).j).1
  let es':=insertAt es (t.put (seq t.mask h e).j).2 (h,x)
  t'.mask=t.mask/\t'.dummies= #[]/\t'.place.size=t.place.size+1/\es'.size=es.size+1/\t'.place.toList.Pairwise (· < ·)/\(∀ j∈t'.place.toList,j<=t'.mask)/\(∀ q∈t'.place.toList.zip es'.toList,Re t'.mask t'.place.toList q.2.1 q.1)/\t'.led=t.led/\t'.plain=t.plain:=by
 intro t' es';generalize hj:(seq t.mask h e).j=j at he;have hjm:j<=t.mask:=by rw [<- hj];exact Qx0 ..
 have ep:t'.place=insertAt t.place (below t.place j) j:=by show (t.put (seq t.mask h e).j).1.place=_;rw [hj];rfl
 have ees:es'=insertAt es (below t.place j) (h,x):=by show insertAt es (t.put (seq t.mask h e).j).2 (h,x)=_;rw [hj];rfl
 have b:=BS T.srt j;have lp:t'.place.toList=t.place.toList.take (below t.place j)++j::t.place.toList.drop (below t.place j):=by rw [ep,toList_insertAt]
 have le:es'.toList=es.toList.take (below t.place j)++(h,x)::es.toList.drop (below t.place j):=by rw [ees,toList_insertAt]
 have hsub: ∀ a,a∈t.place.toList->a∈t'.place.toList:=λa ha=>by
  rw [lp];rw [<- Qbg (below t.place j) t.place.toList] at ha;rcases Qy.mp ha with z | z
  ·exact Ji _ z
  ·exact QC _ (Q7 _ z)
 have Kr:t.place.toList.length=es.toList.length:=by simpa using T.size
 have szp:t'.place.size=t.place.size+1:=by
  have:=WE List.length lp;have hb:=b.le;simp at this;omega
 have sze:es'.size=es.size+1:=by
  have:=WE List.length le;have hb:=b.le;have hs:=T.size;simp at this;omega
 refine ⟨rfl,?_,szp,sze,?_,?_,?_,rfl,rfl⟩
 ·show (if has t.dummies (seq t.mask h e).j then _ else t.dummies)= #[];rw [T.dum,Qkv];rfl
 ·rw [lp];refine Qt8 T.srt (λa ha=> ?_) λa ha=> ?_
  ·obtain ⟨i,hi,ei⟩:=Ud.mp ha;rw [List.getElem_take] at ei;have hi':i < below t.place j/\i < t.place.toList.length:=by simpa [Nat.lt_min] using hi
   exact b.lo i a hi'.1 (by rw [<- Qw,Qc hi'.2,ei])
  ·obtain ⟨i,hi,ei⟩:=Ud.mp ha;rw [List.getElem_drop] at ei;have hi':below t.place j+i < t.place.toList.length:=by
    rw [JX] at hi;omega
   have h1:=b.hi (below t.place j+i) a (WQ _ _) (by rw [<- Qw,Qc hi',ei]);have h2:a≠j:=λz=>he (by rw [<- z,<- ei];exact WR hi')
   omega
 ·intro a ha;rw [lp] at ha;show a<=t.mask;rcases Qy.mp ha with z | z
  ·exact T.bnd a (W2 z)
  ·rcases Qb.mp z with rfl | z
   ·exact hjm
   ·exact T.bnd a (Uc z)
 ·intro q hq;rw [lp,le,Qsy Kr] at hq;have old: ∀ q∈t.place.toList.zip es.toList,Re t'.mask t'.place.toList q.2.1 q.1:=λq hq=>(T.reach q hq).mono hsub
  rcases Qy.mp hq with z | z
  ·exact old q (W2 z)
  ·rcases Qb.mp z with rfl | z
   ·exact ⟨e,hj,λm hm=>hsub _ (hl m hm)⟩
   ·exact old q (Uc z)
end
def occ (mask:Nat) (owner:Array (Option Nat)):List Nat:=(List.range (mask+1)).filter λj=>(owner.getD j none).isSome
theorem Ym {mask:Nat} {owner:Array (Option Nat)} {j:Nat}:j∈occ mask owner ↔ j<=mask/\(owner.getD j none).isSome=true:=by
 unfold occ;rw [Wc,Je];constructor
 ·rintro ⟨a,b⟩;exact ⟨by omega,b⟩
 ·rintro ⟨a,b⟩;exact ⟨by omega,b⟩
theorem Qei {owner:Array (Option Nat)} {j:Nat} (h:j < owner.size) (a b:Option Nat):owner.getD j a=owner.getD j b:=by simp [Array.getD,h]
theorem Qkx {mask:Nat} {owner:Array (Option Nat)} {h:Int} (hsz:owner.size=mask+1): ∀ (fuel b:Nat),(∃ b',b<=b'/\b' - b < fuel/\(bs mask h b').1 ∉ occ mask owner)->(∀ m,m < nb mask h b->(seq mask h m).j∈occ mask owner) ->
  ∃ j,layClean.free mask owner fuel (bs mask h b).1 (bs mask h b).2=some j/\j<=mask/\j ∉ occ mask owner/\Re mask (occ mask owner) h j
 | 0,b,⟨b',h1,h2,_⟩,_=>by omega
 | fuel+1,b,⟨b',h1,h2,h3⟩,hocc=>by
  unfold layClean.free;have hr:=UQ mask (bs mask h b).1;have hrl:=Qbz (Qs5 mask h b);cases hf:(List.range (runEnd mask (bs mask h b).1+1 - (bs mask h b).1)).find? λk=>(owner.getD ((bs mask h b).1+k) (some 0)).isNone with
  | some k =>
   rw [List.find?_range_eq_some] at hf;obtain ⟨p1,p2,p3⟩:=hf;rw [Je] at p2;have hin:(bs mask h b).1+k < owner.size:=by omega
   refine ⟨_,rfl,by omega,λz=> ?_,nb mask h b+k,Qdf mask h b k (by omega),λm hm=> ?_⟩
   ·have:=(Ym.mp z).2;rw [Qei hin none (some 0)] at this;cases q:owner.getD ((bs mask h b).1+k) (some 0) with
    | none=>rw [q] at this;cases this
    | some v=>rw [q] at p1;cases p1
   ·by_cases hmb:m < nb mask h b
    ·exact hocc m hmb
    ·have e:m=nb mask h b+(m - nb mask h b):=by omega
     rw [e,Qdf mask h b _ (by omega),Ym];refine ⟨by omega,?_⟩;have:=p3 (m - nb mask h b) (by omega);rw [Qei (show (bs mask h b).1+(m - nb mask h b) < owner.size by omega) none (some 0)];cases q:owner.getD ((bs mask h b).1+(m - nb mask h b)) (some 0) with
     | none=>rw [q] at this;simp at this
     | some v=>rfl
  | none =>
   rw [List.find?_range_eq_none] at hf;have hrun: ∀ k,k<=runEnd mask (bs mask h b).1 - (bs mask h b).1->(bs mask h b).1+k∈occ mask owner:=λk hk=>by
    rw [Ym];refine ⟨by omega,?_⟩;have:=hf k (by omega);rw [Qei (show (bs mask h b).1+k < owner.size by omega) none (some 0)];cases q:owner.getD ((bs mask h b).1+k) (some 0) with
    | none=>rw [q] at this;simp at this
    | some v=>rfl
   have Kn:b≠b':=λz=>h3 (by rw [<- z];have:=hrun 0 (by omega);simpa using this)
   refine Qkx hsz fuel (b+1) ⟨b',by omega,by omega,h3⟩ λm hm=> ?_
   by_cases hmb:m < nb mask h b
   ·exact hocc m hmb
   ·have hm':m < nb mask h b+(runEnd mask (bs mask h b).1 - (bs mask h b).1)+1:=hm;have e:m=nb mask h b+(m - nb mask h b):=by omega
    rw [e,Qdf mask h b _ (by omega)];exact hrun _ (by omega)
structure Own (mask:Nat) (owner:Array (Option Nat)) (hs:List Int):Prop where
 size:owner.size=mask+1
 no: ∀ j i,owner.getD j none=some i->i < hs.length/\ ∀ h,hs[i]? =some h->Re mask (occ mask owner) h j
 all: ∀ i,i < hs.length-> ∃ j,j<=mask/\owner.getD j none=some i
 inj: ∀ j j' i,owner.getD j none=some i->owner.getD j' none=some i->j=j'
theorem UC {owner:Array (Option Nat)} {j k:Nat} {v:Option Nat} (hj:j < owner.size):(owner.setIfInBounds j v).getD k none=if k=j then v else owner.getD k none:=by
 by_cases h:k=j
 ·subst h;simp [Array.getD,hj]
 ·rw [Qg h]
  by_cases hk:k < owner.size
  ·have hk':k < (owner.setIfInBounds j v).size:=by simpa using hk
   simp only [Array.getD,hk',hk,dite_true];exact Array.getElem_setIfInBounds_ne hk (QS h)
  ·simp [Array.getD,hk]
theorem Qq4: ∀ (n:Nat) (l:List Nat),l.Nodup->(∀ x∈l,x < n)->l.length<=n
 | 0,l,_,h=>by
  cases l with
  | nil=>exact Q5 _
  | cons a r=>exact absurd (h a Q8) (Qbb _)
 | n+1,l,hn,h=>by
  have ih:=Qq4 n (l.erase n) (hn.erase n) λx hx=>by
   obtain ⟨h1,h2⟩:=(hn.mem_erase_iff).mp hx;have:=h x h2;omega
  by_cases hm:n∈l
  ·rw [List.length_erase_of_mem hm] at ih;omega
  ·rw [List.erase_of_not_mem hm] at ih;omega
theorem Qu0 {mask:Nat} {owner:Array (Option Nat)} {hs:List Int} (O:Own mask owner hs):(occ mask owner).length<=hs.length:=by
 have key: ∀ (l:List Nat),l.Nodup->(∀ j∈l,(owner.getD j none).isSome=true)->(l.map λj=>(owner.getD j none).getD 0).Nodup:=by
  intro l
  induction l with
  | nil=>intro _ _;exact JA
  | cons a r ih =>
   intro hn hs';rw [Qk,J5];obtain ⟨h1,h2⟩:=J5.mp hn;refine ⟨λz=> ?_,ih h2 λj hj=>hs' j (Q7 _ hj)⟩;obtain ⟨b,hb,e⟩:=Q6.mp z;obtain ⟨x,hx⟩:=W0.mp (hs' a Q8);obtain ⟨y,hy⟩:=W0.mp (hs' b (Q7 _ hb));rw [hx,hy] at e;have e':y=x:=e;subst e';exact h1 (by rw [O.inj a b _ hx hy];exact hb)
 have hnd:(occ mask owner).Nodup:=(Qno).filter _;have h1:=key _ hnd λj hj=>(Ym.mp hj).2
 have hsub: ∀ x∈(occ mask owner).map (λj=>(owner.getD j none).getD 0),x∈List.range hs.length:=λx hx=>by
  obtain ⟨j,hj,rfl⟩:=Q6.mp hx;obtain ⟨y,hy⟩:=W0.mp (Ym.mp hj).2;rw [hy];exact Je.mpr (O.no j y hy).1
 have:=Qq4 hs.length _ h1 λx hx=>Je.mp (hsub x hx)
 rwa [Q2] at this
theorem Qpe {mask:Nat} {owner:Array (Option Nat)} {hs:List Int} (c:Cyc mask) (O:Own mask owner hs) (hl:hs.length<=mask) (h:Int) :
  ∃ j,layClean.free mask owner (turns mask) (bits h % (mask+1)) (bits h)=some j/\Own mask (owner.setIfInBounds j (some hs.length)) (hs++[h]):=by
 have hol:=Qu0 O;have hsrt:(occ mask owner).Pairwise (· < ·):=List.pairwise_lt_range.sublist List.filter_sublist;obtain ⟨v,hv,hm⟩:=pigeon (mask+1) (occ mask owner) hsrt (by omega);obtain ⟨b,hb,e⟩:=Qz2 c h (show v<=mask by omega);obtain ⟨j,ej,hj,hjo,hre⟩:=Qkx (h:=h) O.size (turns mask) 0 ⟨b,Qz _,by unfold turns;omega,by rw [e];exact hm⟩ λm hm'=>by cases hm'
 refine ⟨j,ej,?_⟩;have hjs:j < owner.size:=by rw [O.size];omega
 have hjn:owner.getD j none=none:=by
  cases q:owner.getD j none with
  | none=>rfl
  | some x=>exact absurd (Ym.mpr ⟨hj,by rw [q];rfl⟩) hjo
 have hsub: ∀ x∈occ mask owner,x∈occ mask (owner.setIfInBounds j (some hs.length)):=λx hx=>by
  rw [Ym] at hx ⊢;refine ⟨hx.1,?_⟩;rw [UC hjs];split
  ·rfl
  ·exact hx.2
 refine ⟨by simpa using O.size,λk i hk=> ?_,λi hi=> ?_,λk k' i hk hk'=> ?_⟩
 ·rw [UC hjs] at hk;rw [Qs,Wu];split at hk
  ·rename_i ek;cases hk;refine ⟨by omega,λh' he=> ?_⟩;rw [Jq (Q5 _),Nat.sub_self] at he;have:h=h':=by simpa using he
   subst this;rw [ek];exact hre.mono hsub
  ·obtain ⟨h1,h2⟩:=O.no k i hk;refine ⟨by omega,λh' he=> ?_⟩;rw [QU h1] at he;exact (h2 h' he).mono hsub
 ·rw [Qs,Wu] at hi
  by_cases z:i=hs.length
  ·subst z;exact ⟨j,hj,by rw [UC hjs,Qj rfl]⟩
  ·obtain ⟨k,hk,ek⟩:=O.all i (by omega);refine ⟨k,hk,?_⟩;rw [UC hjs,Qg]
   ·exact ek
   ·rintro rfl;rw [hjn] at ek;cases ek
 ·rw [UC hjs] at hk hk';split at hk
  ·rename_i e1;split at hk'
   ·rename_i e2;rw [e1,e2]
   ·cases hk;have:=(O.no k' _ hk').1;omega
  ·split at hk'
   ·cases hk';have:=(O.no k _ hk).1;omega
   ·exact O.inj k k' i hk hk'
theorem Qfw {mask:Nat} (c:Cyc mask): ∀ (rest:List Int) (owner:Array (Option Nat)) (hs:List Int),Own mask owner hs->hs.length+rest.length<=mask+1 ->
  ∃ owner',rest.foldl (λ(acc:Option (Array (Option Nat)×Nat)) h=>do
   let (owner,k)<-acc
   let j<-layClean.free mask owner (turns mask) (bits h % (mask+1)) (bits h)
   pure (owner.setIfInBounds j (some k),k+1)) (some (owner,hs.length))=some (owner',hs.length+rest.length)/\Own mask owner' (hs++rest)
 | [],owner,hs,O,_=>⟨owner,rfl,by rw [JS];exact O⟩
 | h::rest,owner,hs,O,hl=>by
  rw [Qq] at hl;obtain ⟨j,ej,O'⟩:=Qpe c O (by omega) h;obtain ⟨o2,e2,O2⟩:=Qfw c rest _ _ O' (by rw [Qs,Wu];omega);refine ⟨o2,?_,by rw [Bm] at O2;exact O2⟩;rw [QY];have e:(do
   let (owner,k)<-(some (owner,hs.length):Option (Array (Option Nat)×Nat))
   let j<-layClean.free mask owner (turns mask) (bits h % (mask+1)) (bits h)
   pure (owner.setIfInBounds j (some k),k+1))=some (owner.setIfInBounds j (some hs.length),hs.length+1):=by
   show (do
    let j<-layClean.free mask owner (turns mask) (bits h % (mask+1)) (bits h)
    pure (owner.setIfInBounds j (some hs.length),hs.length+1))=_
   rw [ej];rfl
  rw [e];rw [Qs,Wu] at e2;rw [e2,Qq];congr 2;omega
theorem Qtz (mask:Nat):Own mask (Array.replicate (mask+1) none) []:=by
 have e: ∀ j,(Array.replicate (mask+1) (none:Option Nat)).getD j none=none:=λj=>by
  unfold Array.getD;split
  ·simp
  ·rfl
 refine ⟨by simp,λj i h=> ?_,λi hi=>absurd hi (Qbb _),λj j' i h=> ?_⟩
 ·rw [e] at h;cases h
 ·rw [e] at h;cases h
theorem Qfx {mask:Nat} (c:Cyc mask) (hs:Array Int) (hl:hs.size<=mask+1): ∃ owner,layClean mask hs=some owner/\Own mask owner hs.toList:=by
 obtain ⟨o,e,O⟩:=Qfw c hs.toList _ [] (Qtz mask) (by simpa using hl);refine ⟨o,?_,by simpa using O⟩;unfold layClean;rw [<- Array.foldl_toList];have e':=WE (λx=>x.map (·.1)) e;exact e'
def liv (mask:Nat) (owner:Array (Option Nat)):List (Nat×Nat):=(List.range (mask+1)).filterMap λj=>(owner.getD j none).map (j,·)
theorem Qkm (l:List Nat) (f:Nat->Option Nat):(l.filterMap λj=>(f j).map (j,·)).map (·.1)=l.filter λj=>(f j).isSome:=by
 induction l with
 | nil=>rfl
 | cons a r ih =>
  cases q:f a with
  | none=>rw [List.filterMap_cons_none (by rw [q];rfl),List.filter_cons_of_neg (by rw [q];simp)];exact ih
  | some x=>rw [ZU (by rw [q];rfl),List.filter_cons_of_pos (by rw [q];rfl),Qk,ih]
theorem UV {mask:Nat} {owner:Array (Option Nat)} {j i:Nat}:(j,i)∈liv mask owner ↔ j<=mask/\owner.getD j none=some i:=by
 unfold liv;rw [Z0];constructor
 ·rintro ⟨a,ha,e⟩;rw [Je] at ha;obtain ⟨x,hx,e2⟩:=Yr.mp e;cases e2;exact ⟨by omega,hx⟩
 ·rintro ⟨h1,h2⟩;exact ⟨j,Je.mpr (by omega),by rw [h2];rfl⟩
theorem Qbo {mask:Nat} {owner:Array (Option Nat)} {hs:List Int} (O:Own mask owner hs):((liv mask owner).map (·.2)).Nodup:=by
 have hp:(liv mask owner).Pairwise λa b=>a.2≠b.2:=by
  have h1:((liv mask owner).map (·.1)).Pairwise (· ≠ ·):=by
   have e:(liv mask owner).map (·.1)=occ mask owner:=Qkm _ _;rw [e];exact (Qno).filter _
  rw [Qll] at h1;refine h1.imp_of_mem ?_;rintro ⟨j,i⟩ ⟨j',i'⟩ h h' Kn z;have z':i=i':=z;subst z';exact Kn (O.inj j j' i (UV.mp h).2 (UV.mp h').2)
 exact Qll.mpr hp
theorem Qqp {mask:Nat} {owner:Array (Option Nat)} {hs:List Int} (O:Own mask owner hs):((liv mask owner).map (·.2)).Perm (List.range hs.length):=by
 refine (List.perm_ext_iff_of_nodup (Qbo O) Qno).mpr λi=> ?_
 rw [Q6,Je];constructor
 ·rintro ⟨⟨j,i'⟩,h,e⟩;have e':i'=i:=e;subst e';exact (O.no j i' (UV.mp h).2).1
 ·intro hi;obtain ⟨j,hj,e⟩:=O.all i hi;exact ⟨(j,i),UV.mpr ⟨hj,e⟩,rfl⟩
theorem Qjh {β:Type} {es:Array β}: ∀ (l:List (Nat×Nat)),(∀ p∈l,p.2 < es.size)->((l.map (·.2)).filterMap (es[·]?)).length=l.length/\ ∀ q∈(l.map (·.1)).zip ((l.map (·.2)).filterMap (es[·]?)),∃ i:Nat,(q.1,i)∈l/\es[i]? =some q.2
 | [],_=>⟨rfl,λq hq=>nomatch hq⟩
 | (j,i)::r,h=>by
  have hi:i < es.size:=h (j,i) Q8;obtain ⟨h1,h2⟩:=Qjh r λp hp=>h p (Q7 _ hp)
  have e:es[i]? =some es[i]:=by simp [hi]
  rw [Qk,Qk,ZU e];refine ⟨by rw [Qq,Qq,h1],λq hq=> ?_⟩;rw [JG] at hq;rcases Qb.mp hq with rfl | hq
  ·exact ⟨i,Q8,e⟩
  ·obtain ⟨i',h3,h4⟩:=h2 q hq;exact ⟨i',Q7 _ h3,h4⟩
theorem Qm3 {α:Type} {t:SetTable} {es:Array (Int×α)} {Kg:Nat} (hm:MaskOk (sizeAbove Kg - 1)) (hf:es.size * 5 < (sizeAbove Kg - 1) * 3) :
  ∃ t' order,t.relaid (es.map (·.1)) Kg=some (t',order)/\(order.filterMap (es[·]?)).size=es.size/\TabOk t' (order.filterMap (es[·]?))/\(order.filterMap (es[·]?)).toList.Perm es.toList/\t'.led=t.led/\t'.plain=t.plain/\order.toList.Perm (List.range es.size):=by
 obtain ⟨owner,e,O⟩:=Qfx hm.cyc (es.map (·.1)) (by rw [Array.size_map];omega);have Kr:(es.map (·.1)).toList.length=es.size:=by simp
 have hb: ∀ p∈liv (sizeAbove Kg - 1) owner,p.2 < es.size:=λp hp=>by
  have:=(O.no p.1 p.2 (UV.mp (show (p.1,p.2)∈_ from hp)).2).1;rwa [Kr] at this
 obtain ⟨z1,z2⟩:=Qjh (es:=es) (liv (sizeAbove Kg - 1) owner) hb;have hperm:=Qqp O;rw [Kr] at hperm;have hll:(liv (sizeAbove Kg - 1) owner).length=es.size:=by
  have:=hperm.length_eq;simpa using this
 have hsz:(((liv (sizeAbove Kg - 1) owner).map (·.2)).toArray.filterMap (es[·]?)).size=es.size:=by
  rw [<- UK,OJ];exact z1.trans hll
 have efst:(liv (sizeAbove Kg - 1) owner).map (·.1)=occ (sizeAbove Kg - 1) owner:=Qkm _ _;refine ⟨⟨(sizeAbove Kg - 1),((liv (sizeAbove Kg - 1) owner).map (·.1)).toArray,#[],t.finger,t.led,t.movedTo (sizeAbove Kg - 1),t.plain⟩,((liv (sizeAbove Kg - 1) owner).map (·.2)).toArray,?_,hsz,⟨hm,rfl,?_,?_,?_,?_,?_⟩,?_,rfl,rfl,by simpa using hperm⟩
 ·unfold relaid laid;rw [e];rfl
 ·rw [hsz];show ((liv (sizeAbove Kg - 1) owner).map (·.1)).toArray.size=_;simpa using hll
 ·show ((liv (sizeAbove Kg - 1) owner).map (·.1)).toArray.size * 5 < _;rw [Ql,Q2,hll];exact hf
 ·show ((liv (sizeAbove Kg - 1) owner).map (·.1)).Pairwise _;rw [efst];exact List.pairwise_lt_range.sublist List.filter_sublist
 ·intro j hj;have hj':j∈(liv (sizeAbove Kg - 1) owner).map (·.1):=hj;rw [efst] at hj';exact (Ym.mp hj').1
 ·intro q hq;have hq':q∈((liv (sizeAbove Kg - 1) owner).map (·.1)).zip (((liv (sizeAbove Kg - 1) owner).map (·.2)).filterMap (es[·]?)):=by
   rw [OJ] at hq;exact hq
  obtain ⟨i,h1,h2⟩:=z2 q hq';show Re (sizeAbove Kg - 1) ((liv (sizeAbove Kg - 1) owner).map (·.1)) q.2.1 q.1;rw [efst];refine (O.no q.1 i (UV.mp h1).2).2 q.2.1 ?_;rw [Qw,Array.getElem?_map,h2];rfl
 ·rw [OJ];exact (hperm.filterMap _).trans (by rw [Qbf])
section
variable {prog:Program} {w:World} {K:Type} [DecidableEq K] (knd:HeapKind prog w K)
variable {knd}
variable {A:Around} {E:Kf} {s:Shared}
theorem Qfb:sizeAbove 20=32:=by decide
theorem Qfa:sizeAbove 76=128:=by decide
theorem Qi6 {t:SetTable} {n:Nat} (hm:MaskOk t.mask) (h1:n * 5 < t.mask * 3) (h2:t.mask * 3<=(n+1) * 5) (hn:n < 64):MaskOk (sizeAbove (grown (n+1)) - 1)/\(n+1) * 5 < (sizeAbove (grown (n+1)) - 1) * 3:=by
 have e:grown (n+1)=(n+1) * 4:=by unfold grown;rw [Qg (by omega)]
 rw [e];rcases hm with hm | hm | hm
 ·have:n=4:=by omega
  subst this;rw [show (4+1) * 4=20 from rfl,Qfb];exact ⟨.inr (.inl rfl),by decide⟩
 ·have:n=18:=by omega
  subst this;rw [show (18+1) * 4=76 from rfl,Qfa];exact ⟨.inr (.inr rfl),by decide⟩
 ·omega
theorem GY {α β:Type} {f:α->β}: ∀ {l:List α} {m:List β},m.Perm (l.map f)-> ∃ l':List α,l'.Perm l/\m=l'.map f:=by
 intro l m h;generalize hl:l.map f=m' at h
 induction h generalizing l with
 | nil =>
  have:l=[]:=by simpa using hl
  subst this;exact ⟨[],.nil,rfl⟩
 | @cons x a b _ ih =>
  obtain ⟨y,l1,rfl,rfl,h2⟩:=Qd7.mp hl;obtain ⟨l',p,e⟩:=ih h2;exact ⟨y::l',p.cons y,by rw [e];rfl⟩
 | @swap x y a =>
  obtain ⟨z,l1,rfl,rfl,h2⟩:=Qd7.mp hl;obtain ⟨z2,l2,rfl,rfl,h3⟩:=Qd7.mp h2;exact ⟨z2::z::l2,Qwg z z2 l2,by rw [<- h3];rfl⟩
 | @trans a b c _ _ ih1 ih2 =>
  obtain ⟨l1,p1,e1⟩:=ih2 hl;obtain ⟨l2,p2,e2⟩:=ih1 e1.symm;exact ⟨l2,p2.trans p1,e2⟩
end
end ST
namespace ST
open PySem PySem.SetTable PySem.Spec
def YB {K:Type} [DecidableEq K] (acc:List K) (k:K):List K:=if k∈acc then acc else acc++[k]
def Ue {K:Type} [DecidableEq K] (ks:List K):List K:=ks.foldl YB []
theorem Qn5 {K:Type} [DecidableEq K] {ks:List K} {i:Nat} {k:K} (h:ks[i]? =some k):Ue (ks.take (i+1))=YB (Ue (ks.take i)) k:=by
 unfold Ue;rw [QX,h,WF];rfl
theorem Qaq {K:Type} [DecidableEq K] (ks:List K):(Ue ks).length<=ks.length:=by
 have go: ∀ (l acc:List K),(l.foldl YB acc).length<=acc.length+l.length:=by
  intro l
  induction l with
  | nil=>intro acc;simp
  | cons a r ih =>
   intro acc;rw [QY,Qq];have h1:=ih (YB acc a);have h2:(YB acc a).length<=acc.length+1:=by
    unfold YB;split
    ·omega
    ·simp
   omega
 have:=go ks [];simpa [Ue] using this
theorem Qn6 {K:Type} [DecidableEq K] (ks:List K):(Ue ks).Nodup/\ ∀ k,k∈Ue ks ↔ k∈ks:=by
 have go: ∀ (l acc:List K),acc.Nodup->(l.foldl YB acc).Nodup/\ ∀ k,k∈l.foldl YB acc ↔ k∈acc \/ k∈l:=by
  intro l
  induction l with
  | nil=>intro acc h;exact ⟨h,λk=>by simp⟩
  | cons a r ih =>
   intro acc h;rw [QY];have h2:(YB acc a).Nodup:=by
    unfold YB;split
    ·exact h
    ·rename_i hn;rw [Jx];refine ⟨h,by simp,λx hx y hy=> ?_⟩;have:y=a:=by simpa using hy
     subst this;rintro rfl;exact hn hx
   obtain ⟨n,m⟩:=ih _ h2;refine ⟨n,λk=> ?_⟩;rw [m k];have hm:k∈YB acc a ↔ k∈acc \/ k=a:=by
    unfold YB;split
    ·rename_i ha;constructor
     ·exact .inl
     ·rintro (z | rfl)
      ·exact z
      ·exact ha
    ·simp
   rw [hm,Qb,or_assoc]
 have:=go ks [] JA;exact ⟨this.1,λk=>by rw [show Ue ks=ks.foldl YB [] from rfl,this.2 k];simp⟩
abbrev Bw (led:Bool):Obj:={ cls:= .type "set",dict:=none,data:= .set #[] 0 (SetTable.fresh 0 0 led) }
section
variable {prog:Program} {w:World} {A:Around} {E:Kf} {s:Shared}
theorem Qun {v:Value} {Q:Kf} (q:Q (.ref s.heap.objs.size) { s with heap:=s.heap.push (Bw (!w.params.followText "set-order")) }) :
  codeAny (model prog w) A (.call (.builtin "set.__new__") ⟨[.type "set",v],[]⟩) (wants Q E) s:=by
 have ss:=sub_set_self;apply codeAny_of_tree;show wpAny _ A.in1 (do checkBuiltinCall "set.__new__" ⟨[.type "set",v],[]⟩;again (.builtin "set.__new__" ⟨[.type "set",v],[]⟩)) _ _ s;apply Q0;apply Qlf (PySem.F.newCall_set_1 v);refine Q3 ⟨Wy F.plain_set_new _,Wn F.entry_set_new ?_⟩;rw [JP F.plain_set_new _];unfold Builtin.«set.__new__» Builtin.Frozenset.newClass;cases s
 wp_walk
 apply Qd6;apply Q3;simp only [newObj];exact Q0 (wpAny_alloc (Q3 (Q3 q)))
set_option maxHeartbeats 3200000 in
theorem Qem {v:Value} {Q:Kf}
  (go: ∀ (led:Bool) (Z:PySem.Fin->Shared->Prop),led= !w.params.followText "set-order" ->(∀ s2,Q (.ref s.heap.objs.size) s2->Z (.done (.ret .none)) s2) ->
   wpAny (model prog w) A.in1.in1 (Builtin.«set.__init__» ⟨[.ref s.heap.objs.size,v],[]⟩) Z E { s with heap:=s.heap.push (Bw led) }) :
  wpAny (model prog w) A (call (.type "set") [v]) Q E s:=by
 have ⟨_,_,mro'⟩:=Y4.mro;have made':=Y4.made;have sub':=Y4.sub;have nt':=Y4.notType;have cc':=Y4.canCreate;have tc':=PySem.F.typeCall_set_1 v;have look':=Y4.init.lookup;apply wpAny_call;apply codeAny_of_tree;show wpAny _ _ (callAny (.type "set") _) _ _ _;apply Q3;refine ⟨Code.quiet_builtin _ (by decide +kernel),Wn F.entry_type_call ?_⟩;rw [Around.under_plain (weight_type_call_type "set" [v] []) rfl]
 repeat (any_goals (first | assumption | wp_step))
 refine Bn (Qun (v:=v) (E:=E) (Q:=λob z=> ∃ led,led=(!w.params.followText "set-order")/\ob= .ref s.heap.objs.size/\z={ s with heap:=s.heap.push (Bw led) }) ⟨_,rfl,rfl,rfl⟩) ?_;rintro (er | fl) z hz
 ·exact hz
 ·cases fl with
  | ret ob =>
   obtain ⟨led,hled,rfl,rfl⟩:=hz;have here:(s.heap.push (Bw led)).get? s.heap.objs.size=some (Bw led):=Qd _ rfl;have ty:Shared.TypeIs { s with heap:=s.heap.push (Bw led) } (.ref s.heap.objs.size) "set" :=⟨_,here,rfl⟩;have bind':=Y4.init.bind (.ref s.heap.objs.size)
   repeat (any_goals (first | assumption | wp_step))
   refine Bn (codeAny_call_builtin (R:=wants (λr z2=>r= .none/\Q (.ref s.heap.objs.size) z2) E) Y4.init.plain F.entry_set_init (PySem.check_set_init_1 ty ?_)) ?_
   ·exact go led _ hled λs2 q=>⟨rfl,q⟩
   ·rintro (er | fl2) z2 hz2
    ·exact hz2
    ·cases fl2 with
     | ret r =>
      obtain ⟨rfl,q⟩:=hz2
      repeat (any_goals (first | assumption | wp_step))
     | _=>exact hz2.elim
  | _=>exact hz.elim
end
theorem Qoi:Manifest.owners.lookup (String.ofList "rotareti_tes".toList.reverse)=some Manifest.sig_set_iterator:=by kernel_rfl
theorem YR:Slot "set_iterator" "__next__" "set_iterator.__next__" :=by
 refine Slot.of (owner:= "set_iterator") (n:= "__next__") ?_ ?_ ?_ ?_ ?_ ?_
 ·rw [Qh6,UH];kernel_rfl
 ·decide +kernel
 ·decide +kernel
 ·decide +kernel
 ·first
   | exact .inl (by decide +kernel)
   | exact .inr (by decide +kernel)
 ·rw [O7];kernel_rfl
theorem Qf9:entryFor table "set_iterator.__next__" =some Builtin.«set_iterator.__next__» :=entryFor_of_tree (by kernel_rfl)
theorem Qjp (a:Value):argsOk "set_iterator.__next__" ⟨[a],[]⟩:=by
 unfold argsOk;rw [signature?_of (id:= "set_iterator.__next__") (n:= "__txen__".toList) (o:= "rotareti_tes".toList) (by kernel_rfl) Qoi]
 kernel_rfl
theorem Qok:entryFor table "set.__iter__" =some Builtin.«frozenset.__iter__» :=entryFor_alias (id':= "frozenset.__iter__") (by kernel_rfl) rfl (by decide +kernel) (by kernel_rfl)
theorem Go {α:Type}: ∀ {l:List α} {i:Nat} (h:i < l.length),(l[i]::l.eraseIdx i).Perm l
 | a::r,0,h=>by simp
 | a::r,i+1,h=>by
  have hi:i < r.length:=by simpa using h
  have:=Go hi;simp only [List.getElem_cons_succ,List.eraseIdx_cons_succ];exact (Qwg _ _ _).trans (this.cons a)
theorem Qkb {α:Type} (nx:Nat->Nat): ∀ (fuel k:Nat) (left:List α) (out:Array α),left.length=fuel->(pickOrder.go nx fuel k left out).toList.Perm (out.toList++left)
 | 0,k,left,out,h=>by
  have:left=[]:=List.length_eq_zero_iff.mp h;subst this;unfold pickOrder.go
  simp
 | fuel+1,k,left,out,h=>by
  unfold pickOrder.go;have Ks:nx k % left.length < left.length:=Qhf _ (by omega);rw [Qc Ks];simp only;refine (Qkb nx fuel (k+1) _ _ (by rw [Qwf Ks];omega)).trans ?_;rw [Qlo,Bm];refine List.Perm.append_left _ ?_;exact (Go Ks)
theorem US {α:Type} (nx:Nat->Nat) (xs:Array α):(pickOrder nx xs).toList.Perm xs.toList:=by
 have:=Qkb nx xs.size 0 xs.toList #[] (by simp);simpa [pickOrder] using this
section
variable {prog:Program} {w:World} {A:Around} {E:Kf}
theorem Qhj {src:Source} {n:Nat} {s:Shared} {Q:Nat->Shared->Prop} (hn:0 < n) (h: ∀ i dr,i < n->Q i { s with drawn:=dr }):wpAny (model prog w) A (choose src n) Q E s:=by
 intro Γ p hΓ;unfold choose;rw [Sem.wp_choose];exact ⟨by omega,h _ _ (Qhf _ hn)⟩
theorem Qao {α:Type}: ∀ (n:Nat) (xs:List α) (s:Shared) (Q:List α->Shared->Prop),xs.length<=n->(∀ ys dr,ys.Perm xs->Q ys { s with drawn:=dr })->wpAny (model prog w) A (drawOrder n xs) Q E s
 | 0,xs,s,Q,hl,h=>by
  have:xs=[]:=List.length_eq_zero_iff.mp (by omega);subst this;unfold drawOrder;exact Q3 (h [] s.drawn .nil)
 | n+1,[],s,Q,hl,h=>by
  unfold drawOrder;exact Q3 (h [] s.drawn .nil)
 | n+1,x::xs,s,Q,hl,h=>by
  unfold drawOrder;refine Q0 (Qhj (by simp) λi dr hi=> ?_);rw [Qc hi];simp only;refine Q0 (Qao n _ _ _ (by rw [Qwf hi];simp at hl hi ⊢; omega) λys dr2 hp=>Q3 (h _ dr2 ?_));exact (hp.cons _).trans (Go hi)
end
inductive Md where
 | text | place | drawn (ps:List Nat) (T:Addr)
def slotAt (t:SetTable):Nat->Nat
 | 0=>0
 | i+1=>t.place.getD i 0+1
def Md.fst (t:SetTable):Md->Nat->Value
 | .text,_=> .int 0 0
 | .place,i=> .int (slotAt t i) 0
 | .drawn _ T,_=> .ref T
def Md.out (w:World) (S:Addr) (es:Array (Int×Value)) (ep:Nat):Md->List Value
 | .text=>(pickOrder (w.params.setOrder S ep) es).toList.map (·.2)
 | .place=>es.toList.map (·.2)
 | .drawn ps _=>ps.filterMap λp=>es[p]?.map (·.2)
def Md.ok (w:World) (es:Array (Int×Value)) (t:SetTable) (h:Heap):Md->Prop
 | .text=>w.params.followText "set-order" =true
 | .place=>w.params.followText "set-order" =false/\t.led=true/\(!t.plain && decide (es.size > 1))=false
 | .drawn ps T=>h.IsTuple T (ps.map λ(p:Nat)=>rawInt p).toArray/\ps.Perm (List.range es.size)
def Md.fp:Md->List Addr
 | .drawn _ T=>[T]
 | _=>[]
structure WSt (w:World) (I S:Addr) (es:Array (Int×Value)) (ep:Nat) (t:SetTable) (m:Md) (i:Nat) (s:Shared):Prop where
 it: ∃ o,s.heap.get? I=some o/\o.cls= .type "set_iterator" /\o.data= .fields #[m.fst t i,.int i 0,.ref S,.int es.size 0,.int ep 0]
 st: ∃ o,s.heap.get? S=some o/\o.ExactSet/\o.data= .set es ep t
 ok:m.ok w es t s.heap
theorem UD {α β:Type} {f:α->Option β}: ∀ {l:List α},(∀ a∈l,(f a).isSome=true)-> ∀ (i:Nat) (a:α),l[i]? =some a->(l.filterMap f)[i]? =f a
 | [],_,i,a,e=>by simp at e
 | b::r,h,0,a,e=>by
  have:b=a:=by simpa using e
  subst this;obtain ⟨c,hc⟩:=W0.mp (h b Q8);rw [ZU hc,hc];rfl
 | b::r,h,i+1,a,e=>by
  obtain ⟨c,hc⟩:=W0.mp (h b Q8);rw [ZU hc];show (r.filterMap f)[i]? =f a;exact UD (λx hx=>h x (Q7 _ hx)) i a (by simpa using e)
section
variable {prog:Program} {w:World} {A:Around} {E:Kf} {s:Shared} {I S:Addr} {es:Array (Int×Value)} {ep:Nat} {t:SetTable} {m:Md}
theorem Qb2 (T:TabOk t es) {i:Nat} (hi:i<=es.size):below t.place (slotAt t i)=i:=by
 have b:=BS T.srt (slotAt t i);have hs:=T.size;cases i with
 | zero =>
  rcases Nat.eq_zero_or_pos (below t.place (slotAt t 0)) with z | z
  ·exact z
  ·have h0:0 < t.place.size:=Qr z b.le;have:=b.lo 0 t.place[0] z (by simp [h0]);exact absurd this (Qbb _)
 | succ i =>
  have hi':i < t.place.size:=by omega
  have e:t.place[i]? =some t.place[i]:=by simp [hi']
  have es':slotAt t (i+1)=t.place[i]+1:=by
   show t.place.getD i 0+1=_;simp [Array.getD,hi']
  rw [es'] at b ⊢;rcases Qli (below t.place (t.place[i]+1)) (i+1) with z | z | z
  ·have:=b.hi i t.place[i] (by omega) e;omega
  ·exact z
  ·have hb:=b.le;have h1:i+1 < t.place.size:=by omega
   have e1:t.place[i+1]? =some t.place[i+1]:=by simp [h1]
   have h2:=b.lo (i+1) t.place[i+1] z e1;have h3:=Oi T.srt (by rw [Qw];exact e) (by rw [Qw];exact e1) (JJ i);omega
theorem Qu1 (h:m.ok w es t s.heap):(m.out w S es ep).length=es.size:=by
 cases m with
 | text =>
  show ((pickOrder (w.params.setOrder S ep) es).toList.map (·.2)).length=_;rw [Q2,(US _ _).length_eq]
  simp
 | place=>show (es.toList.map (·.2)).length=_;simp
 | drawn ps T =>
  have hp:=h.2;have:(ps.filterMap λp=>es[p]?.map (·.2)).Perm (es.toList.map (·.2)):=by
   refine (hp.filterMap _).trans ?_;have e:((List.range es.size).filterMap λp=>es[p]?.map (·.2))=((List.range es.size).filterMap λp=>es[p]?).map (·.2):=by
    rw [List.map_filterMap]
   rw [e,Qbf]
  have:=this.length_eq;show (ps.filterMap λp=>es[p]?.map (·.2)).length=es.size;simpa using this
theorem Qpf (h:m.ok w es t s.heap):(m.out w S es ep).Perm (es.toList.map (·.2)):=by
 cases m with
 | text=>exact (US _ _).map _
 | place=>exact .refl _
 | drawn ps T =>
  have hp:=h.2;refine (hp.filterMap _).trans ?_;have e:((List.range es.size).filterMap λp=>es[p]?.map (·.2))=((List.range es.size).filterMap λp=>es[p]?).map (·.2):=by
   rw [List.map_filterMap]
  rw [e,Qbf]
theorem U5 {Q:Bool->Shared->Prop} (h:Q (w.params.followText "set-order") s):wpAny (model prog w) A setsByText Q E s:=Q0 (Qd6 (Q3 h))
theorem Qca {i:Nat} {Z:PySem.Fin->Shared->Prop} (T:TabOk t es) (hw:WSt w I S es ep t m i s)
  (h:wpAny (model prog w) A (match m.fst t i with
   | .int slot _=>do
    match<-setNext S slot.toNat i ep with
    | some (x,next) =>
     setField (.ref I) 0 (rawInt next)
     setField (.ref I) 1 (rawInt (i+1))
     ret x
    | none=>setField (.ref I) 2 .none;raiseNew (<- newExc (.type "StopIteration") [])
   | first=>do
    let some places<-seqItems? first | unsupported "internal:set_iterator"
    match places[i]? with
    | some (.int place _) =>
     let x<-setNextDrawn S place.toNat ep
     setField (.ref I) 1 (rawInt (i+1))
     ret x
    | some _=>unsupported "internal:set_iterator"
    | none=>setField (.ref I) 0 (rawInt 0);setField (.ref I) 2 .none;raiseNew (<- newExc (.type "StopIteration") [])) Z E s) :
  wpAny (model prog w) A (Builtin.«set_iterator.__next__» ⟨[.ref I],[]⟩) Z E s:=by
 obtain ⟨⟨o,ho,hc,hd⟩,⟨oS,hoS,hex,hdS⟩,hok⟩:=hw;unfold Builtin.«set_iterator.__next__»;refine Q0 (m:=slotArgs _ _ _) (Q3 ?_);refine Q0 (wpAny_fieldsOf ho hd ?_);dsimp only;refine Q0 (wpAny_setEntries_of hoS hdS T.fits ?_);rw [Qg (by simp)];cases m with
 | text=>exact h
 | place=>exact h
 | drawn ps T=>exact h
theorem ZX {a:Addr} {o:Obj} {vs:Array Value} {k:Nat} {x:Value} {Q:Unit->Shared->Prop} (ho:s.heap.get? a=some o) (hd:o.data= .fields vs) (hk:k < vs.size)
  (h: ∀ h' o',h'.get? a=some o'->o'.cls=o.cls->o'.data= .fields (vs.setIfInBounds k x)->Heap.SameBut a s.heap h'->Q () { s with heap:=h' }):wpAny (model prog w) A (setField (.ref a) k x) Q E s :=
 O6 ho hd hk (h _ _ (QW _ ho (Qhe (Zf hd _))) (Qwd ..) (Zf hd _) (QN ..))
theorem Qub {h h':Heap} (hok:m.ok w es t h) (hD: ∀ b∈m.fp,b≠I) (hs:Heap.SameBut I h h'):m.ok w es t h':=by
 cases m with
 | text=>exact hok
 | place=>exact hok
 | drawn ps T =>
  obtain ⟨⟨o,ho,r⟩,hp⟩:=hok;exact ⟨⟨o,by rw [hs.2 T (hD T (by simp [Md.fp]))];exact ho,r⟩,hp⟩
theorem BC {i:Nat} {Q:Option Value->Shared->Prop} (T:TabOk t es) (hw:WSt w I S es ep t m i s) (hS:S≠I) (hD: ∀ b∈m.fp,b≠I) (hi:i < es.size)
  (h: ∀ v h',(m.out w S es ep)[i]? =some v->WSt w I S es ep t m (i+1) { s with heap:=h' }->Heap.SameBut I s.heap h'->Q (some v) { s with heap:=h' }) :
  wpAny (model prog w) A (pyNext (.ref I)) Q E s:=by
 obtain ⟨⟨o,ho,hc,hd⟩,⟨oS,hoS,hex,hdS⟩,hok⟩:=id hw;have ty:s.TypeIs (.ref I) "set_iterator" :=⟨o,ho,hc⟩;have esz:i < es.toList.length:=by simpa using hi
 have Kj: ∀ (v:Value) (h':Heap) (o':Obj),(m.out w S es ep)[i]? =some v->h'.get? I=some o'->o'.cls=o.cls->o'.data= .fields #[m.fst t (i+1),.int (i+1:Nat) 0,.ref S,.int es.size 0,.int ep 0]->Heap.SameBut I s.heap h'->Q (some v) { s with heap:=h' }:=λv h' o' hv g1 g2 g3 sb =>
  h v h' hv ⟨⟨o',g1,g2.trans hc,g3⟩,⟨oS,by show h'.get? S=_;rw [sb.2 S hS];exact hoS,hex,hdS⟩,Qub hok hD sb⟩ sb
 unfold pyNext;refine Q0 (Zu (J3 (name:=Str.ofString "__next__") ty YR (J0 YR ty Qf9 (Qca T hw ?_) (Qjp _))));cases m with
 | text =>
  have hb:w.params.followText "set-order" =true:=hok;show wpAny _ _ (setNext S (0:Int).toNat i ep >>= _) _ _ _;refine Q0 ?_;unfold setNext;refine Q0 (JV hoS hdS T.fits (Q0 (U5 ?_)));rw [hb];simp only [Wt];rw [Qg (by simp)];refine Q0 ?_;unfold setWalk;refine Q0 (JV hoS hdS T.fits (Q0 (U5 ?_)));rw [hb];simp only [Wt];refine Q0 (Qd6 (Q3 (Q3 ?_)));have hl:i < (pickOrder (w.params.setOrder S ep) es).size:=by
   have:=(US (w.params.setOrder S ep) es).length_eq;simp at this;omega
  show wpAny _ _ (match Option.map (λe=>(e.2,Int.toNat 0)) (pickOrder (w.params.setOrder S ep) es)[i]? with
   | some (x,next)=>_
   | none=>_) _ _ _
  rw [show (pickOrder (w.params.setOrder S ep) es)[i]? =some (pickOrder (w.params.setOrder S ep) es)[i] by simp [hl]];dsimp only [Option.map];refine Q0 (ZX ho hd (by simp) λh1 o1 g1 g2 g3 sb1=>Q0 (ZX g1 g3 (by simp) λh2 o2 g4 g5 g6 sb2=>Q3 ⟨_,rfl,Q3 ?_⟩));refine Kj _ h2 o2 ?_ g4 (g5.trans g2) ?_ (sb1.trans sb2)
  ·show ((pickOrder (w.params.setOrder S ep) es).toList.map (·.2))[i]? =_;rw [Qe,Qw];simp [hl]
  ·rw [g6];simp [rawInt,Md.fst]
 | place =>
  obtain ⟨hb,hled,hdr⟩:w.params.followText "set-order" =false/\t.led=true/\(!t.plain && decide (es.size > 1))=false:=hok;show wpAny _ _ (setNext S ((slotAt t i:Nat):Int).toNat i ep >>= _) _ _ _;refine Q0 ?_;unfold setNext;refine Q0 (JV hoS hdS T.fits (Q0 (U5 ?_)));rw [hb];simp only [QG,JI];show wpAny _ _ (if (!t.plain && decide (es.size > 1))=true then _ else _) _ _ _;rw [hdr];simp only [QG,JI];have hp:i < t.place.size:=by rw [T.size];exact hi
  have eb:below t.place (((slotAt t i:Nat):Int).toNat)=i:=by rw [Jy];exact Qb2 T (by omega)
  rw [eb,show es[i]? =some es[i] by simp [hi],show t.place[i]? =some t.place[i] by simp [hp]];have go: ∀ {Q':Unit->Shared->Prop} {E':Kf},Q' () s->wpAny (model prog w) A.in1 (if (!t.led && !es.isEmpty)=true then unsupported "set:maker-not-led" else pure ()) Q' E' s:=λq=>by
   rw [hled,Qg (by simp)];exact Q3 q
  refine Q0 (go (Q3 ?_));dsimp only;refine Q0 (ZX ho hd (by simp) λh1 o1 g1 g2 g3 sb1=>Q0 (ZX g1 g3 (by simp) λh2 o2 g4 g5 g6 sb2=>Q3 ⟨_,rfl,Q3 ?_⟩));refine Kj _ h2 o2 ?_ g4 (g5.trans g2) ?_ (sb1.trans sb2)
  ·show (es.toList.map (·.2))[i]? =_;rw [Qe,Qw];simp [hi]
  ·rw [g6];simp [rawInt,Md.fst,slotAt,Array.getD,hp]
 | drawn ps T' =>
  obtain ⟨⟨oT,hoT,hcT,nT,hdT⟩,hperm⟩:=id hok;have hpl:ps.length=es.size:=by
   have:=hperm.length_eq;simpa using this
  have hip:i < ps.length:=by omega
  have hpi:ps[i] < es.size:=by
   have:=hperm.mem_iff.mp (WR hip);simpa using this
  show wpAny _ _ (seqItems? (.ref T') >>= _) _ _ _;refine Q0 (Jg hoT hdT ?_);dsimp only;rw [show ((ps.map λ(p:Nat)=>rawInt p).toArray)[i]? =some (.int (ps[i]:Nat) 0) by simp [hip,rawInt]];dsimp only;refine Q0 ?_;unfold setNextDrawn;refine Q0 (JV hoS hdS T.fits ?_);dsimp only;rw [Qg (by simp),Jy,show es[ps[i]]? =some es[ps[i]] by simp [hpi]];dsimp only;refine Q3 (Q0 (ZX ho hd (by simp) λh1 o1 g1 g2 g3 sb1=>Q3 ⟨_,rfl,Q3 ?_⟩));refine Kj _ h1 o1 ?_ g1 g2 ?_ sb1
  ·show (ps.filterMap λp=>es[p]?.map (·.2))[i]? =_;rw [UD (λa ha=> ?_) i ps[i] (Qc hip)]
   ·simp [hpi]
   ·have:=hperm.mem_iff.mp ha;have ha':a < es.size:=by simpa using this
    simp [ha']
  ·rw [g3];simp [rawInt,Md.fst]
theorem Qmi {Q:Option Value->Shared->Prop} (hh:A.handled=none) (T:TabOk t es) (hw:WSt w I S es ep t m es.size s)
  (h: ∀ h',Heap.ExtBut I s.heap h'->Q none { s with heap:=h' }):wpAny (model prog w) A (pyNext (.ref I)) Q E s:=by
 obtain ⟨⟨o,ho,hc,hd⟩,⟨oS,hoS,hex,hdS⟩,hok⟩:=id hw;have ty:s.TypeIs (.ref I) "set_iterator" :=⟨o,ho,hc⟩;have stop: ∀ (s1:Shared),Heap.ExtBut I s.heap s1.heap->s1={ s with heap:=s1.heap }->wpAny (model prog w) A.in1 (newExc (.type "StopIteration") [] >>= raiseNew) (λ(fl:PySem.Fin) s'=> ∃ v,fl= .done (.ret v)/\wpAny (model prog w) A (pure (some v)) Q E s') (λe s'=>wpAny (model prog w) A (do
   if<-isInstance e (.type "StopIteration") then pure none else throw e) Q E s') s1:=by
  intro s1 ext es1;apply Q0;simp only [newExc,newTuple];apply Q0;refine Ja (hd:=by size_fits) ?_;apply Q0 (m:=firstArgMember _ _);apply Qlf (a:=Value.none)
  ·first
    | rfl
    | (simp only [firstArgMember];rfl)
  refine Ja (hd:=by size_fits) ?_;simp only [raiseNew];apply Q0;apply wpAny_handled;rw [show A.in1.handled=none from hh];dsimp only;apply wpAny_throw;apply Q0;refine Z3 (T:= "StopIteration") (b:=true) ⟨_,Qd _ rfl,rfl⟩ Qlh ?_;rw [es1];exact Q3 (h _ ((ext.push _).push _))
 unfold pyNext;refine Q0 (Zu (J3 (name:=Str.ofString "__next__") ty YR (J0 YR ty Qf9 (Qca T hw ?_) (Qjp _))));cases m with
 | text =>
  have hb:w.params.followText "set-order" =true:=hok;show wpAny _ _ (setNext S (0:Int).toNat es.size ep >>= _) _ _ _;refine Q0 ?_;unfold setNext;refine Q0 (JV hoS hdS T.fits (Q0 (U5 ?_)));rw [hb];simp only [Wt];rw [Qg (by simp)];refine Q0 ?_;unfold setWalk;refine Q0 (JV hoS hdS T.fits (Q0 (U5 ?_)));rw [hb];simp only [Wt];refine Q0 (Qd6 (Q3 (Q3 ?_)));have hl: ¬ es.size < (pickOrder (w.params.setOrder S ep) es).size:=by
   have:=(US (w.params.setOrder S ep) es).length_eq;simp at this;omega
  show wpAny _ _ (match Option.map (λe=>(e.2,Int.toNat 0)) (pickOrder (w.params.setOrder S ep) es)[es.size]? with
   | some (x,next)=>_
   | none=>_) _ _ _
  rw [show (pickOrder (w.params.setOrder S ep) es)[es.size]? =none by simp [YM hl]];dsimp only [Option.map];exact Q0 (ZX ho hd (by simp) λh1 o1 g1 g2 g3 sb1=>stop _ sb1.extBut rfl)
 | place =>
  obtain ⟨hb,hled,hdr⟩:w.params.followText "set-order" =false/\t.led=true/\(!t.plain && decide (es.size > 1))=false:=hok;show wpAny _ _ (setNext S ((slotAt t es.size:Nat):Int).toNat es.size ep >>= _) _ _ _;refine Q0 ?_;unfold setNext;refine Q0 (JV hoS hdS T.fits (Q0 (U5 ?_)));rw [hb];simp only [QG,JI];show wpAny _ _ (if (!t.plain && decide (es.size > 1))=true then _ else _) _ _ _;rw [hdr];simp only [QG,JI];have eb:below t.place (((slotAt t es.size:Nat):Int).toNat)=es.size:=by rw [Jy];exact Qb2 T (Q5 _)
  rw [eb,show es[es.size]? =none by simp];have go: ∀ {Q':Unit->Shared->Prop} {E':Kf},Q' () s->wpAny (model prog w) A.in1 (if (!t.led && !es.isEmpty)=true then unsupported "set:maker-not-led" else pure ()) Q' E' s:=λq=>by
   rw [hled,Qg (by simp)];exact Q3 q
  refine Q0 (go (Q3 ?_));dsimp only;exact Q0 (ZX ho hd (by simp) λh1 o1 g1 g2 g3 sb1=>stop _ sb1.extBut rfl)
 | drawn ps T' =>
  obtain ⟨⟨oT,hoT,hcT,nT,hdT⟩,hperm⟩:=id hok;have hpl:ps.length=es.size:=by
   have:=hperm.length_eq;simpa using this
  show wpAny _ _ (seqItems? (.ref T') >>= _) _ _ _;refine Q0 (Jg hoT hdT ?_);dsimp only;rw [show ((ps.map λ(p:Nat)=>rawInt p).toArray)[es.size]? =none by simp [hpl]];dsimp only;exact Q0 (ZX ho hd (by simp) λh1 o1 g1 g2 g3 sb1=>Q0 (ZX g1 g3 (by simp) λh2 o2 g4 g5 g6 sb2=>stop _ (sb1.trans sb2).extBut rfl))
end
section
variable {prog:Program} {w:World} {A:Around} {E:Kf} {s:Shared} {S:Addr} {es:Array (Int×Value)} {ep:Nat} {t:SetTable}
theorem Qjq:Slot "set_iterator" "__iter__" "set_iterator.__iter__" :=by
 refine Slot.of (owner:= "set_iterator") (n:= "__iter__") ?_ ?_ ?_ ?_ ?_ ?_
 ·rw [Qh6,UH];kernel_rfl
 ·decide +kernel
 ·decide +kernel
 ·decide +kernel
 ·first
   | exact .inl (by decide +kernel)
   | exact .inr (by decide +kernel)
 ·rw [O7];kernel_rfl
theorem Qoj:entryFor table "set_iterator.__iter__" =some Builtin.«dict_keyiterator.__iter__» :=entryFor_alias (id':= "dict_keyiterator.__iter__") (by kernel_rfl) rfl (by decide +kernel) (by kernel_rfl)
theorem Qta (a:Value):argsOk "set_iterator.__iter__" ⟨[a],[]⟩:=by
 unfold argsOk;rw [signature?_of (id:= "set_iterator.__iter__") (n:= "__reti__".toList) (o:= "rotareti_tes".toList) (by kernel_rfl) Qoi]
 kernel_rfl
theorem Qqx {o:Obj} {Q:Kf} (T:TabOk t es) (ho:s.heap.get? S=some o) (hex:o.ExactSet) (hd:o.data= .set es ep t) (hled:t.led= !w.params.followText "set-order") (hn:es.size<=sizeLine)
  (h: ∀ (m:Md) (I:Addr) (h':Heap) (dr:Drawn),WSt w I S es ep t m 0 { s with heap:=h',drawn:=dr }->s.heap.get? I=none->(∀ b∈m.fp,b≠I/\s.heap.get? b=none)->(∀ b o,s.heap.get? b=some o->h'.get? b=some o)->Q (.ref I) { s with heap:=h',drawn:=dr }) :
  wpAny (model prog w) A (pyIter (.ref S)) Q E s:=by
 have ty:s.TypeIs (.ref S) "set" :=⟨o,ho,hex.1⟩;have slt:S < s.heap.objs.size:=Qi ho;refine Qwc ty F.slot_set_iter (J0 F.slot_set_iter ty Qok ?_ (F.args_set_iter_1 _));unfold Builtin.«frozenset.__iter__» Builtin.Frozenset.slot0;refine Q0 (Q0 (m:=slotArgs _ _ _) (Q3 (Q3 ?_)));unfold Builtin.Frozenset.sizeOf;refine Q0 (Q0 (wpAny_setEntries_of ho hd T.fits (Q3 ?_)));refine Q0 ?_;unfold setDrawn;refine Q0 (JV ho hd T.fits (Q0 (U5 (Q3 ?_))));show wpAny _ _ (if (!w.params.followText "set-order" && (!t.plain && decide (es.size > 1)))=true then _ else _) _ _ _
 by_cases hdr:(!w.params.followText "set-order" && (!t.plain && decide (es.size > 1)))=true
 ·rw [Qj hdr];refine Q0 (Qao _ _ _ _ (by simp) λps dr hp=> ?_);refine Q0 (Qlg ?_ (by have:=hp.length_eq;simp at this ⊢; omega));have g1:(s.heap.push { cls:= .type "tuple",data:= .seq (ps.map λ(i:Nat)=>rawInt i).toArray }).get? S=some o:=Q1 _ ho;refine Q0 (wpAny_setEpoch_of (s:={ s with heap:=s.heap.push { cls:= .type "tuple",data:= .seq (ps.map λ(i:Nat)=>rawInt i).toArray },drawn:=dr }) g1 hd T.fits ?_);refine Q0 (Ja (Q3 ⟨_,rfl, "set_iterator",_,⟨_,Qd _ rfl,rfl⟩,YR.lookup,?_⟩));refine h (.drawn ps s.heap.objs.size) _ _ dr ⟨⟨_,Qd _ rfl,rfl,?_⟩,⟨o,Q1 _ g1,hex,hd⟩,?_⟩ ?_ ?_ ?_
  ·simp [Md.fst,rawInt]
  ·exact ⟨⟨_,Q1 _ (Qd _ rfl),rfl,_,rfl⟩,hp⟩
  ·exact Gd (by rw [Ju];exact WV _)
  ·intro b hb;have:b=s.heap.objs.size:=by simpa [Md.fp] using hb
   subst this;exact ⟨by rw [Ju];exact Qp (JJ _),Gd (Q5 _)⟩
  ·exact λb o e=>Q1 _ (Q1 _ e)
 ·rw [Qg hdr];refine Q0 (Q3 ?_);refine Q0 (wpAny_setEpoch_of ho hd T.fits ?_);refine Q0 (Ja (Q3 ⟨_,rfl, "set_iterator",_,⟨_,Qd _ rfl,rfl⟩,YR.lookup,?_⟩));have nI:s.heap.get? s.heap.objs.size=none:=Gd (Q5 _);cases hb:w.params.followText "set-order" with
  | true =>
   refine h .text _ _ s.drawn ⟨⟨_,Qd _ rfl,rfl,?_⟩,⟨o,Q1 _ ho,hex,hd⟩,hb⟩ nI (λb hb=>nomatch hb) (λb o e=>Q1 _ e);simp [Md.fst,rawInt]
  | false =>
   refine h .place _ _ s.drawn ⟨⟨_,Qd _ rfl,rfl,?_⟩,⟨o,Q1 _ ho,hex,hd⟩,hb,by rw [hled,hb];rfl,by rw [hb] at hdr;simpa using hdr⟩ nI (λb hb=>nomatch hb) (λb o e=>Q1 _ e);simp [Md.fst,rawInt,slotAt]
theorem Qnw {I:Addr} {m:Md} (hh:A.handled=none) (T:TabOk t es) (hS:S≠I) (hD: ∀ b∈m.fp,b≠I) (hok:True) :
  ∀ (s0:Shared),WSt w I S es ep t m 0 s0->WalksS prog w A I (I::S::m.fp) [I] (λa b=>b=a) es.size (λi v=>(m.out w S es ep)[i]? =some v) (λi s=>WSt w I S es ep t m i s):=by
 intro s0 w0;refine ⟨λb hb=>by rw [QQ.mp hb];exact Q8,λ_=>rfl,λ_ _ _ h1 h2=>h2.trans h1,?_,?_,?_,?_⟩
 ·rintro i s h' tk ⟨⟨o,g1,g2,g3⟩,⟨o2,g4,g5,g6⟩,ok⟩ _ hk;refine ⟨⟨o,hk I Q8 o g1,g2,g3⟩,⟨o2,hk S (Q7 _ Q8) o2 g4,g5,g6⟩,?_⟩;cases m with
  | text=>exact ok
  | place=>exact ok
  | drawn ps T' =>
   obtain ⟨⟨o3,g7,r⟩,hp⟩:=ok;exact ⟨⟨o3,hk T' (by simp [Md.fp]) o3 g7,r⟩,hp⟩
 ·intro i s Q E hi st hQ;exact BC T st hS hD hi λv h' hv st' sb=>hQ v _ hv st' ⟨λb o hb e=>sb.extBut b o (λz=>hb (by rw [z];exact QQ.mpr rfl)) e,rfl,rfl,rfl,Q5 _⟩
 ·intro s Q E st hQ;exact Qmi hh T st λh' ext=>hQ _ ⟨λb o hb e=>ext b o (λz=>hb (by rw [z];exact QQ.mpr rfl)) e,rfl,rfl,rfl,Q5 _⟩
 ·rintro i s Q E ⟨⟨o,g1,g2,_⟩,_⟩ hQ;have ty:s.TypeIs (.ref I) "set_iterator" :=⟨o,g1,g2⟩;refine Qwc ty Qjq (J0 Qjq ty Qoj ?_ (Qta _));exact Q3 ⟨.ref I,rfl, "set_iterator",_,ty,YR.lookup,hQ⟩
theorem Qr4 {o:Obj} {Q:Bool->Shared->Prop} (ho:s.heap.get? S=some o) (hex:o.ExactSet) (h:Q false s):wpAny (model prog w) A (Builtin.List.listLengthHint (.ref S)) Q E s:=by
 have ty:s.TypeIs (.ref S) "set" :=⟨o,ho,hex.1⟩;unfold Builtin.List.listLengthHint;refine Q0 (Zi ty F.slot_set_len.lookup ?_);dsimp only;rw [show splitId "set.__len__" =some ("set", "__len__") by kernel_rfl];dsimp only;refine Q0 (Z3 ty sub_set_self ?_);simp only [Qha,QG,JI];rw [Qj (by decide +kernel)];exact Q0 (wpAny_typeOf ty (Q3 h))
theorem Qfv {l:List Value} {acc:Array Value} (h:ItemsOf (λi v=>l[i]? =some v) acc l.length):acc.toList=l:=by
 refine JO λi=> ?_
 rw [Qw]
 by_cases hi:i < acc.size
 ·have e:acc[i]? =some acc[i]:=by simp [hi]
  rw [e];exact (h.2 i _ e).symm
 ·have h1:=h.1;rw [show acc[i]? =none by simp [YM hi],Jn (by omega)]
theorem Qgn {o:Obj} {Q:List Value->Shared->Prop} (hh:A.handled=none) (T:TabOk t es) (ho:s.heap.get? S=some o) (hex:o.ExactSet) (hd:o.data= .set es ep t) (hled:t.led= !w.params.followText "set-order") (hn:es.size<=sizeLine)
  (h: ∀ (out:List Value) (h':Heap) (dr:Drawn) (tk:Nat),out.Perm (es.toList.map (·.2))->(∀ b o,s.heap.get? b=some o->h'.get? b=some o)->s.heap.objs.size<=h'.objs.size->Q out { s with heap:=h',drawn:=dr,toks:=tk }) :
  wpAny (model prog w) A (collect (.ref S)) Q E s:=by
 have slt:S < s.heap.objs.size:=Qi ho;unfold collect;refine Q0 (wpAny_runValue (Wn F.entry_proto_collect ?_));rw [JP F.plain_proto_collect _];show wpAny _ A.in1 (do again (.builtin "list.__iadd__" ⟨[<- newList [],.ref S],[]⟩)) _ _ s;refine Q0 (Ja (hd:=by size_fits) (Q3 ⟨Wy F.plain_list_iadd _,Wn F.entry_list_iadd ?_⟩));rw [JP F.plain_list_iadd _];generalize hL:s.heap.objs.size=L;generalize hh1:s.heap.push { cls:= .type "list",data:= .seq ([]:List Value).toArray }=H1;have gL:H1.get? L=some { cls:= .type "list",data:= .seq ([]:List Value).toArray }:=by rw [<- hh1,<- hL];exact Qd _ rfl
 have up1: ∀ b o,s.heap.get? b=some o->H1.get? b=some o:=λb o e=>by rw [<- hh1];exact Q1 _ e
 have ne:S≠L:=by rw [<- hL];exact Qp slt
 have ty:Shared.TypeIs { s with heap:=H1 } (.ref S) "set" :=⟨o,up1 _ _ ho,hex.1⟩;show wpAny _ A.in1 (Builtin.List.listExtendWith (.ref L) (.ref S) (.ref L)) _ _ { s with heap:=H1 };unfold Builtin.List.listExtendWith;refine Q0 (wpAny_typeOf ty ?_);rw [Qg (by simp [Builtin.List.listSameRef,QS ne])];refine Q0 (Qqx (s:={ s with heap:=H1 }) T (up1 _ _ ho) hex hd hled hn λm I H2 dr st nI nF up2=> ?_);have hIS:S≠I:=by
  rintro rfl;rw [up1 _ _ ho] at nI;cases nI
 have hLI:L≠I:=by
  rintro rfl;rw [gL] at nI;cases nI
 refine Q0 (JH (Qr4 (s:={ s with heap:=H2,drawn:=dr }) (up2 _ _ (up1 _ _ ho)) hex ?_));rw [Qj (by decide +kernel)];refine Q0 (ZS ?_);refine Q0 ?_;have g2:H2.get? L=some { cls:= .type "list",data:= .seq ([]:List Value).toArray }:=up2 _ _ gL;show wpAny _ A.in1 (updateSeq L (·.push .none) >>= λ_=>updateSeq L (·.pop)) _ _ _;refine Q0 (WL g2 rfl (WL (QW (Obj.mapSeq (·.push Value.none)) g2 rfl) rfl ?_));generalize hH3:(H2.update L (Obj.mapSeq (·.push Value.none))).update L (Obj.mapSeq (·.pop))=H3;have g3: ∃ c,H3.get? L=some { cls:= .type "list",dict:=none,data:= .seq #[] c,slots:= #[] }:=by
  rw [<- hH3];exact ⟨_,QW (Obj.mapSeq (·.pop)) (QW (Obj.mapSeq (·.push Value.none)) g2 rfl) rfl⟩
 obtain ⟨c3,g3⟩:=g3;have up3: ∀ b o,b≠L->H2.get? b=some o->H3.get? b=some o:=λb o hb e=>by
  rw [<- hH3,Ww _ _ (QS hb),Ww _ _ (QS hb)];exact e
 have hfp: ∀ b∈I::S::m.fp,b≠L:=λb hb=>by
  rcases Qb.mp hb with rfl | hb
  ·exact QS hLI
  ·rcases Qb.mp hb with rfl | hb
   ·exact ne
   ·rintro rfl;have:=(nF b hb).2;rw [gL] at this;cases this
 have W:=Qnw (prog:=prog) (A:=A.in1) (by simp [hh]) T hIS (λb hb=>(nF b hb).1) trivial _ st;have st3:=W.frame 0 _ H3 s.toks st (Q5 _) λb hb o e=>up3 b o (hfp b hb) e
 have ol:(m.out w S es ep).length=es.size:=Qu1 st.ok;refine Q3 ⟨Wy F.plain_extend_loop _,codeAny_extend_loopS W hn L (λz=>hfp L z rfl) _ es.size 0 _ #[] c3 (Nat.sub_zero _) (Qz _) st3 g3 (ItemsOf.nil _) λs4 acc c4 mv g4 ia=> ?_⟩;show wpAny _ A (load L >>= _) _ _ s4;refine Q0 (wpAny_load g4 (Q3 ?_));have ea:acc.toList=m.out w S es ep:=Qfv (by rw [ol];exact ia);rw [ea];obtain ⟨H4,gs,dr4,tk4,os4⟩:=s4;cases (show gs=s.gens from mv.gens);cases (show os4=s.os from mv.os);refine h _ H4 dr4 tk4 (Qpf st.ok) (λb o' e=> ?_) ?_
 ·have bL:b≠L:=by
   rintro rfl;rw [<- hL] at e;exact absurd (Qi e) (JK _)
  have bI:b≠I:=by
   rintro rfl;rw [up1 _ _ e] at nI;cases nI
  refine mv.heap b o' (λz=> ?_) (up3 b o' bL (up2 _ _ (up1 _ _ e)));rcases Qb.mp z with z | z
  ·exact bL z
  ·exact bI (QQ.mp z)
 ·have:=Qi g4;rw [<- hL] at this;exact Qlk this
end
end ST
namespace L2
open PySem PySem.Spec PyProof.Rows
noncomputable instance:DecidableEq D:=λa b=>Classical.propDecidable (a=b)
mutual
def keyOk:D->Bool
 | .int _=>true
 | .str _=>true
 | .tup ds=>keyOks ds
 | _=>false
def keyOks:List D->Bool
 | []=>true
 | d::ds=>keyOk d && keyOks ds
end
mutual
def noD:D->Bool
 | .tup ds=>Qfu ds
 | .lst ds=>Qfu ds
 | .dct _ _ _=>false
 | .oth _ _ _=>false
 | _=>true
def Qfu:List D->Bool
 | []=>true
 | d::ds=>noD d && Qfu ds
end
mutual
theorem Qe5: ∀ {d:D},keyOk d=true->noD d=true
 | .int _,_=>by simp [noD]
 | .str _,_=>by simp [noD]
 | .tup ds,h=>by rw [noD];exact YG (by simpa [keyOk] using h)
 | .non,h=>by simp [keyOk] at h
 | .bl _,h=>by simp [keyOk] at h
 | .lst _,h=>by simp [keyOk] at h
 | .dct _ _ _,h=>by simp [keyOk] at h
 | .oth _ _ _,h=>by simp [keyOk] at h
theorem YG: ∀ {ds:List D},keyOks ds=true->Qfu ds=true
 | [],_=>by simp [Qfu]
 | d::ds,h=>by
  rw [keyOks,Qv] at h;rw [Qfu,Qe5 h.1,YG h.2];rfl
end
theorem Z2: ∀ {ds:List D},keyOks ds=true ↔ ∀ d∈ds,keyOk d=true
 | []=>by simp [keyOks]
 | d::ds=>by simp [keyOks,Z2]
mutual
theorem Oy: ∀ {d e:D},keyOk d=true->keyOk e=true->eqD d e=decide (d=e)
 | .int a,e,hd,he=>by cases e<;>simp_all [keyOk,eqD]<;>rfl
 | .str a,e,hd,he=>by cases e<;>simp_all [keyOk,eqD]<;>rfl
 | .tup a,e,hd,he=>by
  cases e with
  | tup b =>
   rw [eqD,Qgb (by simpa [keyOk] using hd) (by simpa [keyOk] using he)]
   simp
  | _=>simp_all [keyOk,eqD]
 | .non,e,hd,he=>by simp [keyOk] at hd
 | .bl _,e,hd,he=>by simp [keyOk] at hd
 | .lst _,e,hd,he=>by simp [keyOk] at hd
 | .dct _ _ _,e,hd,he=>by simp [keyOk] at hd
 | .oth _ _ _,e,hd,he=>by simp [keyOk] at hd
theorem Qgb: ∀ {ds es:List D},keyOks ds=true->keyOks es=true->ZJ ds es=decide (ds=es)
 | [],es,hd,he=>by cases es<;>simp [ZJ]
 | d::ds,[],hd,he=>by simp [ZJ]
 | d::ds,e::es,hd,he=>by
  simp only [keyOks,Qv] at hd he;rw [ZJ,Oy hd.1 he.1,Qgb hd.2 he.2]
  by_cases h1:d=e<;>by_cases h2:ds=es<;>simp [h1,h2]
end
section
variable (w:World)
mutual
def J6:D->Int
 | .int i=>Qye w (.inl i)
 | .str x=>Qye w (.inr x)
 | .tup ds=>reduceHash (Builtin.Tuple.tupleHashOf (Zq ds))
 | _=>0
def Zq:List D->List Int
 | []=>[]
 | d::ds=>J6 d::Zq ds
end
end
mutual
def drw:D->Nat
 | .tup ds=>drws ds+1
 | _=>1
def drws:List D->Nat
 | []=>0
 | d::ds=>drw d+drws ds
end
def TStay (h h':Heap):Prop:= ∀ b o,h.get? b=some o->o.cls= .type "tuple" ->h'.get? b=some o
theorem TStay.tuple {h h':Heap} (t:TStay h h') {a:Addr} {Kv:Array Value} (p:h.IsTuple a Kv):h'.IsTuple a Kv:=let ⟨o,e,c,r⟩:=p;⟨o,t a o e c,c,r⟩
mutual
theorem CIs.stay {h h':Heap} (t:TStay h h'): ∀ {d:D} {v:Value},keyOk d=true->CIs h d v->CIs h' d v
 | .int _,_,_,x=>by simpa [CIs] using x
 | .str _,_,_,x=>by simpa [CIs] using x
 | .tup ds,v,k,x=>by
  obtain ⟨a,Kv,rfl,p,c⟩:=ctup.mp x;exact ctup.mpr ⟨a,Kv,rfl,t.tuple p,CAll.stay t (by simpa [keyOk] using k) c⟩
 | .non,_,k,_=>by simp [keyOk] at k
 | .bl _,_,k,_=>by simp [keyOk] at k
 | .lst _,_,k,_=>by simp [keyOk] at k
 | .dct _ _ _,_,k,_=>by simp [keyOk] at k
 | .oth _ _ _,_,k,_=>by simp [keyOk] at k
theorem CAll.stay {h h':Heap} (t:TStay h h'): ∀ {ds:List D} {vs:List Value},keyOks ds=true->CAll h ds vs->CAll h' ds vs
 | [],_,_,x=>by simpa [CAll] using x
 | d::ds,vs,k,x=>by
  simp only [keyOks,Qv] at k;rw [CAll] at x ⊢;obtain ⟨v,r,e,q,y⟩:=x;exact ⟨v,r,e,CIs.stay t k.1 q,CAll.stay t k.2 y⟩
end
section
variable {prog:Program} {w:World} {E:Kf}
mutual
theorem Qr7: ∀ (d:D) {v:Value} {A:Around} {s:Shared} {E:Kf} {Q:Int->Shared->Prop},keyOk d=true->CIs s.heap d v->A.units+dep d < cLine->Q (J6 w d) { s with toks:=s.toks+drw d }->wpAny (model prog w) A (pyHash v) Q E s
 | .int i,v,A,s,E,Q,k,x,hu,q=>by
  simp only [CIs] at x;obtain ⟨t,rfl⟩:=x;exact (JF prog w).pyHash (k:= .inl i) (BX prog w i t) (by simp only [J6,drw] at q;exact q)
 | .str i,v,A,s,E,Q,k,x,hu,q=>by
  simp only [CIs] at x;obtain ⟨t,rfl⟩:=x;exact (JF prog w).pyHash (k:= .inr i) (Uu prog w i t) (by simp only [J6,drw] at q;exact q)
 | .tup ds,v,A,s,E,Q,k,x,hu,q=>by
  obtain ⟨a,Kv,rfl,p,c⟩:=ctup.mp x;have ty:s.TypeIs (.ref a) "tuple" :=p.typeIs;obtain ⟨o,ho,hc,n,hd⟩:=p;unfold pyHash
  (first | unfold pyHashByItsType | skip)
  (first | refine Q0 (wpAny_cRoomFor_or (.inr (by omega)) ?_) | skip)
  apply Q0;apply Zi ty Qbe.lookup;show wpAny _ _ (if (some (Value.builtin "tuple.__hash__") == some Value.none)=true then _ else _) Q E s;rw [Qg (by rw [beq_builtin_none];simp)];apply Q0;apply Zi ty Qbe.lookup;show wpAny _ _ (callSpecialIfBoundUnlessNone? (.ref a) "__hash__" _ >>= _) Q E s;apply Q0;apply wpAny_callSpecialIfBoundUnlessNone?_slot ty Qbe;refine J0 Qbe ty F.entry_tuple_hash ?_ (F.args_tuple_hash_1 _);show wpAny _ _ (Builtin.Tuple.tupleItemsOf (.ref a) >>= _) _ _ s;apply Q0;apply wpAny_tupleItemsOf ho hd;apply Q0;rw [<- Array.forIn_toList];refine Qku ds #[] (λv acc s1 Z hz=> ?_) (by simpa [keyOk] using k) (by simpa using c) (by simp only [dep] at hu;show A.units+1+deps ds < cLine;omega) ?_
  ·exact Q0 (Jh hz (λh s2 y=>by first | exact Q3 y | exact Q0 (Q3 (Q3 y))) λ_ _ y=>y)
  ·show wpAny _ _ (retInt (Builtin.Tuple.tupleHashOf ((#[]:Array Int)++(Zq w ds).toArray).toList)) _ _ _;rw [show ((#[]:Array Int)++(Zq w ds).toArray).toList=Zq w ds by simp];refine wpAny_ret_mkInt ?_;have q':Q (reduceHash (Builtin.Tuple.tupleHashOf (Zq w ds))) { s with toks:=s.toks+(drws ds+1) }:=by simpa [J6,drw] using q
   unfold reduceHash at q';show wpAny _ _ (if (decide (-(2:Int) ^ 63<=Builtin.Tuple.tupleHashOf (Zq w ds)) && decide (Builtin.Tuple.tupleHashOf (Zq w ds) < 2 ^ 63))=true then _ else _) Q E _;split at q'
   ·rename_i hb;rw [Qj hb];exact Q3 q'
   ·rename_i hb;rw [Qg hb];exact Q0 (ZS (Q3 q'))
 | .non,v,A,s,E,Q,k,x,hu,q=>by simp [keyOk] at k
 | .bl _,v,A,s,E,Q,k,x,hu,q=>by simp [keyOk] at k
 | .lst _,v,A,s,E,Q,k,x,hu,q=>by simp [keyOk] at k
 | .dct _ _ _,v,A,s,E,Q,k,x,hu,q=>by simp [keyOk] at k
 | .oth _ _ _,v,A,s,E,Q,k,x,hu,q=>by simp [keyOk] at k
theorem Qku: ∀ (ds:List D) {Kv:List Value} {A:Around} {s:Shared} {E:Kf} {f:Value->Array Int->Sem (ForInStep (Array Int))} {R:Array Int->Shared->Prop} (acc:Array Int),
  (∀ (v:Value) (acc:Array Int) (s1:Shared) (Z:ForInStep (Array Int)->Shared->Prop),wpAny (model prog w) A (pyHash v) (λh s2=>Z (.yield (acc.push h)) s2) E s1->wpAny (model prog w) A (f v acc) Z E s1) ->
  keyOks ds=true->CAll s.heap ds Kv->A.units+deps ds < cLine->R (acc++(Zq w ds).toArray) { s with toks:=s.toks+drws ds }->wpAny (model prog w) A (forIn Kv acc f) R E s
 | [],Kv,A,s,E,f,R,acc,hf,k,c,hu,q=>by
  simp only [CAll] at c;subst c;rw [Gc];exact Q3 (by simpa [Zq,drws] using q)
 | d::ds,Kv,A,s,E,f,R,acc,hf,k,c,hu,q=>by
  simp only [keyOks,Qv] at k;rw [CAll] at c;obtain ⟨v,r,rfl,x,c⟩:=c;rw [ZZ];refine Q0 (hf v acc s _ (Qr7 d k.1 x (by simp only [deps] at hu;omega) ?_));dsimp only;refine Qku ds (acc.push (J6 w d)) hf k.2 c (by simp only [deps] at hu;omega) ?_;have e1:acc.push (J6 w d)++(Zq w ds).toArray=acc++(Zq w (d::ds)).toArray:=by
   apply Array.toList_inj.mp;simp [Zq]
  rw [e1];have e2:s.toks+drw d+drws ds=s.toks+drws (d::ds):=by simp only [drws];omega
  rw [e2];exact q
end
end
section
variable {prog:Program} {w:World} {A:Around} {E:Kf} {s:Shared}
theorem Qkl {β:Type} {f:Value->β->Sem (ForInStep β)} {b:β} {R:β->Shared->Prop}: ∀ (ds:List D) {Kv:List Value},(∀ (d:D) (v:Value),d∈ds->CIs s.heap d v-> ∀ (Z:ForInStep β->Shared->Prop),Z (.yield b) s->wpAny (model prog w) A (f v b) Z E s) ->
  CAll s.heap ds Kv->R b s->wpAny (model prog w) A (forIn Kv b f) R E s
 | [],Kv,_,c,q=>by
  simp only [CAll] at c;subst c;rw [Gc];exact Q3 q
 | d::ds,Kv,hf,c,q=>by
  rw [CAll] at c;obtain ⟨v,r,rfl,x,c⟩:=c;rw [ZZ];exact Q0 (hf d v Q8 x _ (Qkl ds (λd' v' hd=>hf d' v' (Q7 _ hd)) c q))
theorem Qk7: ∀ (n:Nat) (d:D) {v:Value} {Q:Bool->Shared->Prop},dep d<=n->keyOk d=true->CIs s.heap d v->Q true s->wpAny (model prog w) A (eqIsQuiet n v) Q E s
 | 0,d,v,Q,hn,_,_,_=>by have:=Qva d;omega
 | n+1,.int i,v,Q,hn,k,x,q=>by
  simp only [CIs] at x;obtain ⟨t,rfl⟩:=x;unfold eqIsQuiet;exact Q3 q
 | n+1,.str i,v,Q,hn,k,x,q=>by
  simp only [CIs] at x;obtain ⟨t,rfl⟩:=x;unfold eqIsQuiet;exact Q3 q
 | n+1,.tup ds,v,Q,hn,k,x,q=>by
  obtain ⟨a,Kv,rfl,p,c⟩:=ctup.mp x;have ty:s.TypeIs (.ref a) "tuple" :=p.typeIs;obtain ⟨o,ho,hc,m,hd⟩:=p;unfold eqIsQuiet;apply Q0;apply Zi ty F.slot_tuple_eq.lookup;show wpAny _ _ (isInstance (.ref a) (.type "tuple") >>= _) _ _ s;apply Q0;apply Z3 ty isSubtype_tuple_tuple;simp only [Qha,QG,JI];apply Q0;apply Jg ho hd;apply Q0;show wpAny _ _ (forIn Kv.toArray _ _) _ _ s;rw [<- Array.forIn_toList];refine Qkl ds (λd v hd x Z z=> ?_) (by simpa using c) ?_
  ·have kd:keyOk d=true:=by
    have:keyOks ds=true:=by simpa [keyOk] using k
    exact Z2.mp this d hd
   have hdep:dep d<=n:=by
    have:=Qgh hd;simp only [dep] at hn;omega
   refine Q0 (Qk7 n d hdep kd x ?_);simp only [Qha,QG,JI];exact Q3 z
  ·exact Q3 q
 | n+1,.non,v,Q,hn,k,x,q=>by simp [keyOk] at k
 | n+1,.bl _,v,Q,hn,k,x,q=>by simp [keyOk] at k
 | n+1,.lst _,v,Q,hn,k,x,q=>by simp [keyOk] at k
end
def KIs (h:Heap) (d:D) (a:Addr):Prop:=keyOk d=true/\dep d<=6/\CIs h d (.ref a)
theorem Qbi {h:Heap} {a d:Addr} {o:Obj} {es ep} {Kv:Array Value} (p:h.IsTuple a Kv) (ho:h.get? d=some o) (hd:o.data= .dict es ep):a≠d:=by
 rintro rfl;obtain ⟨o',e,_,n,d'⟩:=p;rw [ho] at e;cases e;rw [hd] at d';cases d'
mutual
theorem CIs.butDict {h h':Heap} {d:Addr} {o:Obj} {es ep} (ho:h.get? d=some o) (hd:o.data= .dict es ep) (hs:Heap.SameBut d h h'): ∀ {x:D} {v:Value},keyOk x=true->CIs h x v->CIs h' x v
 | .int _,_,_,x=>by simpa [CIs] using x
 | .str _,_,_,x=>by simpa [CIs] using x
 | .tup ds,v,k,x=>by
  obtain ⟨a,Kv,rfl,p,c⟩:=ctup.mp x;have Kn:=Qbi p ho hd;obtain ⟨o',e,r⟩:=p;exact ctup.mpr ⟨a,Kv,rfl,⟨o',by rw [hs.2 a Kn];exact e,r⟩,CAll.butDict ho hd hs (by simpa [keyOk] using k) c⟩
 | .non,_,k,_=>by simp [keyOk] at k
 | .bl _,_,k,_=>by simp [keyOk] at k
 | .lst _,_,k,_=>by simp [keyOk] at k
 | .dct _ _ _,_,k,_=>by simp [keyOk] at k
 | .oth _ _ _,_,k,_=>by simp [keyOk] at k
theorem CAll.butDict {h h':Heap} {d:Addr} {o:Obj} {es ep} (ho:h.get? d=some o) (hd:o.data= .dict es ep) (hs:Heap.SameBut d h h'): ∀ {ds:List D} {vs:List Value},keyOks ds=true->CAll h ds vs->CAll h' ds vs
 | [],_,_,x=>by simpa [CAll] using x
 | y::ds,vs,k,x=>by
  simp only [keyOks,Qv] at k;rw [CAll] at x ⊢;obtain ⟨v,r,e,q,z⟩:=x;exact ⟨v,r,e,CIs.butDict ho hd hs k.1 q,CAll.butDict ho hd hs k.2 z⟩
end
noncomputable def Qcx (prog:Program) (w:World):HeapKind prog w D where
 is:=KIs
 hash:=J6 w
 draws:=drw
 room:=λA=>A.units+14 < cLine
 inj:=λx y=>CIs.inj x.2.2 y.2.2
 keeps:=λx ho hd hs=>⟨x.1,x.2.1,CIs.butDict ho hd hs x.1 x.2.2⟩
 pyHash:=λhu x q=>Qr7 _ x.1 x.2.2 (by have:=x.2.1;omega) q
 eqBool:=λ{A E s x y a b Q} hu hx hy q=>by
  have:=Qj2 (s:=s) x y hx.2.2 hy.2.2 (A:=A) (by have:=hx.2.1;have:=hy.2.1;omega);rw [Oy hx.1 hy.1] at this;exact this _ _ _ _ q
 quiet:=λx q=>Qk7 8 _ (by have:=x.2.1;omega) x.1 x.2.2 q
end L2
namespace SO
open PySem PySem.W PyProof.Rows
structure LO {α:Type} (lt:α->α->Bool):Prop where
 irr: ∀ a,lt a a=false
 tr: ∀ a b c,lt b a=false->lt c b=false->lt c a=false
 asy: ∀ a b,lt a b=true->lt b a=false
section
variable {α:Type} {lt:α->α->Bool} {r:Nat->α} {N:Nat} {s:Shared} {cmp:Nat->Nat->(Bool->Shared->Prop)->Shared->Prop}
def ky (r:Nat->α) (p:Array Nat) (i:Nat):α:=r (p.getD i 0)
def Srt (lt:α->α->Bool) (r:Nat->α) (p:Array Nat) (k:Nat):Prop:= ∀ i j,i<=j->j < k->lt (ky r p j) (ky r p i)=false
def Des (lt:α->α->Bool) (r:Nat->α) (p:Array Nat) (k:Nat):Prop:= ∀ i j,i<=j->j < k->lt (ky r p i) (ky r p j)=false
def Ask (lt:α->α->Bool) (r:Nat->α) (N:Nat) (s:Shared) (cmp:Nat->Nat->(Bool->Shared->Prop)->Shared->Prop):Prop:= ∀ i j (C:Bool->Shared->Prop),i < N->j < N->C (lt (r i) (r j)) s->cmp i j C s
def Ok (N:Nat) (p:Array Nat):Prop:=p.Perm (List.range N).toArray
theorem Ok.size {p:Array Nat} (h:Ok N p):p.size=N:=by
 have:=Array.Perm.size_eq h;simpa using this
theorem Ok.bd {p:Array Nat} (h:Ok N p) {i:Nat} (hi:i < N):p.getD i 0 < N:=by
 have hs:=h.size;have hi':i < p.size:=by omega
 have hm:p[i]∈p:=Array.getElem_mem hi';have:=h.mem_iff.mp hm;have e:p.getD i 0=p[i]:=by simp [Array.getD,hi']
 rw [e];simpa using this
theorem Srt.snoc (L:LO lt) {p:Array Nat} {k:Nat} (h:Srt lt r p k) (hk:1<=k) (e:lt (ky r p k) (ky r p (k - 1))=false):Srt lt r p (k+1):=λi j h1 h2=>by
 by_cases z:j=k
 ·subst z
  by_cases y:i=j
  ·subst y;exact L.irr _
  ·exact L.tr _ _ _ (h i (j - 1) (by omega) (by omega)) e
 ·exact h i j h1 (by omega)
theorem Des.snoc (L:LO lt) {p:Array Nat} {k:Nat} (h:Des lt r p k) (hk:1<=k) (e:lt (ky r p (k - 1)) (ky r p k)=false):Des lt r p (k+1):=λi j h1 h2=>by
 by_cases z:j=k
 ·subst z
  by_cases y:i=j
  ·subst y;exact L.irr _
  ·exact L.tr _ _ _ e (h i (j - 1) (by omega) (by omega))
 ·exact h i j h1 (by omega)
theorem Qje (L:LO lt) (hc:Ask lt r N s cmp) {p:Array Nat} (hp:Ok N p): ∀ (f n:Nat) {Q:Nat->Shared->Prop},1<=n->n+f<=N->Srt lt r p n ->
  (∀ m,n<=m->m<=n+f->Srt lt r p m->(m < n+f->lt (ky r p m) (ky r p (m - 1))=true)->Q m s)->(kas_asc p f n).kasWp cmp Q s
 | 0,n,Q,h1,h2,hs,q=>q n (Q5 _) (Q5 _) hs λz=>absurd z (by omega)
 | f+1,n,Q,h1,h2,hs,q=>by
  unfold kas_asc;refine hc _ _ _ (hp.bd (by omega)) (hp.bd (by omega)) ?_;show KasT.kasWp cmp (if lt (ky r p n) (ky r p (n - 1))=true then _ else _) Q s
  by_cases h:lt (ky r p n) (ky r p (n - 1))=true
  ·rw [Qj h];exact q n (Q5 _) (by omega) hs λ_=>h
  ·rw [Qg h];have h':lt (ky r p n) (ky r p (n - 1))=false:=by simpa using h
   exact Qje L hc hp f (n+1) (by omega) (by omega) (hs.snoc L h1 h') λm a b c d=>q m (by omega) (by omega) c λz=>d (by omega)
theorem Um {p:Array Nat} {i j:Nat} (hj:j<=p.size) (k:Nat):ky r (kas_rev p i j) k=if i<=k/\k < j then ky r p (i+j - 1 - k) else ky r p k:=by
 have e:=getElem?_mirror_all (xs:=p) (i:=i) hj k;unfold ky kas_rev;have g: ∀ (a:Array Nat) (n:Nat),a.getD n 0=(a[n]?).getD 0:=λa n=>by simp [Qvk]
 rw [g,e];split<;>rw [g]
theorem OX {p:Array Nat} {i j:Nat} (hp:Ok N p):Ok N (kas_rev p i j):=(mirror_perm ..).trans hp
def Eqs (lt:α->α->Bool) (r:Nat->α) (p:Array Nat) (i j:Nat):Prop:= ∀ a b,i<=a->a < j->i<=b->b < j->lt (ky r p a) (ky r p b)=false
theorem Des.rev (L:LO lt) {p:Array Nat} {i j k:Nat} (hj:j<=p.size) (hjk:j<=k) (h:Des lt r p k) (e:Eqs lt r p i j):Des lt r (kas_rev p i j) k:=by
 intro a b hab hb;rw [Um hj,Um hj]
 by_cases ha:i<=a/\a < j
 ·rw [Qj ha]
  by_cases hb':i<=b/\b < j
  ·rw [Qj hb'];exact e _ _ (by omega) (by omega) (by omega) (by omega)
  ·rw [Qg hb'];exact h _ _ (by omega) hb
 ·rw [Qg ha]
  by_cases hb':i<=b/\b < j
  ·rw [Qj hb'];exact h _ _ (by omega) (by omega)
  ·rw [Qg hb'];exact h a b hab hb
theorem Des.turn {p:Array Nat} {n:Nat} (hn:n<=p.size) (h:Des lt r p n):Srt lt r (kas_rev p 0 n) n:=by
 intro i j h1 h2;rw [Um hn,Um hn,Qj ⟨by omega,by omega⟩,Qj ⟨by omega,by omega⟩];exact h _ _ (by omega) (by omega)
theorem OB (L:LO lt) (hc:Ask lt r N s cmp): ∀ (f:Nat) (p:Array Nat) (n q:Nat) {Q:Array Nat×Nat×Nat->Shared->Prop},Ok N p->q+1<=n->n+f<=N->Des lt r p n->Eqs lt r p (n - (q+1)) n ->
  (∀ p' n' q',Ok N p'->n<=n'->n'<=n+f->q'+1<=n'->Des lt r p' n'->Eqs lt r p' (n' - (q'+1)) n'->Q (p',n',q') s)->(kas_desc f p n q).kasWp cmp Q s
 | 0,p,n,q,Q,hp,h1,h2,hd,he,k=>k p n q hp (Q5 _) (Q5 _) h1 hd he
 | f+1,p,n,q,Q,hp,h1,h2,hd,he,k=>by
  unfold kas_desc;refine hc _ _ _ (hp.bd (by omega)) (hp.bd (by omega)) ?_;show KasT.kasWp cmp (if lt (ky r p n) (ky r p (n - 1))=true then _ else _) Q s;have hsz:=hp.size;have one: ∀ (p':Array Nat) (m:Nat),Eqs lt r p' (m+1 - (0+1)) (m+1):=λp' m a b _ _ _ _=>by
   have e1:a=m:=by omega
   have e2:b=m:=by omega
   subst e1 e2;exact L.irr _
  by_cases h:lt (ky r p n) (ky r p (n - 1))=true
  ·rw [Qj h];have h':=L.asy _ _ h
   by_cases hq:q > 0
   ·rw [Qj hq];refine OB L hc f _ (n+1) 0 (OX hp) (by omega) (by omega) ?_ (one _ _) λp' n' q' a b c d e g=>k p' n' q' a (by omega) (by omega) d e g
    refine Des.snoc L (hd.rev L (by omega) (Q5 _) he) (by omega) ?_;rw [Um (by omega),Um (by omega),Qj ⟨by omega,by omega⟩,Qg (by omega)];exact L.tr _ _ _ h' (he _ _ (by omega) (by omega) (by omega) (by omega))
   ·rw [Qg hq];exact OB L hc f p (n+1) 0 hp (by omega) (by omega) (hd.snoc L (by omega) h') (one _ _) λp' n' q' a b c d e g=>k p' n' q' a (by omega) (by omega) d e g
  ·rw [Qg h];have h':lt (ky r p n) (ky r p (n - 1))=false:=by simpa using h
   refine hc _ _ _ (hp.bd (by omega)) (hp.bd (by omega)) ?_;show KasT.kasWp cmp (if lt (ky r p (n - 1)) (ky r p n)=true then _ else _) Q s
   by_cases g:lt (ky r p (n - 1)) (ky r p n)=true
   ·rw [Qj g];exact k p n q hp (Q5 _) (by omega) h1 hd he
   ·rw [Qg g];have g':lt (ky r p (n - 1)) (ky r p n)=false:=by simpa using g
    refine OB L hc f p (n+1) (q+1) hp (by omega) (by omega) (hd.snoc L (by omega) g') ?_ λp' n' q' a b c d e g=>k p' n' q' a (by omega) (by omega) d e g
    intro a b ha hb Kk hd';have up: ∀ a,n - (q+1)<=a->a < n->lt (ky r p a) (ky r p n)=false/\lt (ky r p n) (ky r p a)=false:=λa h3 h4 =>
     ⟨L.tr _ _ _ g' (he a (n - 1) (by omega) (by omega) (by omega) (by omega)),L.tr _ _ _ (he (n - 1) a (by omega) (by omega) (by omega) (by omega)) h'⟩
    by_cases z:a=n
    ·subst z
     by_cases y:b=a
     ·subst y;exact L.irr _
     ·exact (up b (by omega) (by omega)).2
    ·by_cases y:b=n
     ·subst y;exact (up a (by omega) (by omega)).1
     ·exact he a b (by omega) (by omega) (by omega) (by omega)
theorem Qf7 (L:LO lt) (hc:Ask lt r N s cmp) {p:Array Nat} {n:Nat} {Q:Nat×Array Nat->Shared->Prop} (hp:Ok N p) (h1:1<=n) (h2:n<=N) (hd:Des lt r p n)
  (k: ∀ m p',Ok N p'->n<=m->m<=N->Srt lt r p' m->Q (m,p') s):(kas_tail3 n N p).kasWp cmp Q s:=by
 unfold kas_tail3;rw [Bp];have hsz:=hp.size;exact Qje L hc (OX hp) (N - n) n h1 (by omega) (hd.turn (by omega)) λm a b c _=>k m _ (OX hp) a (by omega) c
theorem O3 (L:LO lt) (hc:Ask lt r N s cmp) {p:Array Nat} {n:Nat} {Q:Nat×Array Nat->Shared->Prop} (hp:Ok N p) (h1:1<=n) (h2:n+1<=N) (hd:Des lt r p (n+1))
  (k: ∀ m p',Ok N p'->1<=m->m<=N->Srt lt r p' m->Q (m,p') s):(kas_descPart n N p).kasWp cmp Q s:=by
 unfold kas_descPart;rw [Bp];refine OB L hc (N - (n+1)) p (n+1) 0 hp (by omega) (by omega) hd (λa b h3 h4 h5 h6=> ?_) λp' n' q' a b c d e g=> ?_
 ·have e1:a=n:=by omega
  have e2:b=n:=by omega
  subst e1 e2;exact L.irr _
 ·have hsz:=a.size;dsimp only
  by_cases hq:q' > 0
  ·rw [Qj hq];exact Qf7 L hc (OX a) (by omega) (by omega) (e.rev L (by omega) (Q5 _) g) λm p2 x y z w=>k m p2 x (by omega) z w
  ·rw [Qg hq];exact Qf7 L hc a (by omega) (by omega) e λm p2 x y z w=>k m p2 x (by omega) z w
theorem Qry (L:LO lt) (hc:Ask lt r N s cmp) {p:Array Nat} {Q:Nat×Array Nat->Shared->Prop} (hp:Ok N p) (h1:1<=N)
  (k: ∀ m p',Ok N p'->1<=m->m<=N->Srt lt r p' m->Q (m,p') s):(kas_count N p).kasWp cmp Q s:=by
 unfold kas_count;rw [Bp];have hsz:=hp.size;refine Qje L hc hp (N - 1) 1 (Q5 _) (by omega) (λi j a b=> ?_) λn a b c d=> ?_
 ·have e1:i=0:=by omega
  have e2:j=0:=by omega
  subst e1 e2;exact L.irr _
 ·by_cases z:n=N
  ·subst z;rw [Qj (by simp)];exact k n p hp (by omega) (Q5 _) c
  ·rw [Qg (by simpa using z)];have Ks:=d (by omega)
   by_cases y:n > 1
   ·rw [Qj y];refine hc _ _ _ (hp.bd (by omega)) (hp.bd (by omega)) ?_;show KasT.kasWp cmp (if lt (ky r p 0) (ky r p (n - 1))=true then _ else _) Q s
    by_cases x:lt (ky r p 0) (ky r p (n - 1))=true
    ·rw [Qj x];exact k n p hp (by omega) (by omega) c
    ·rw [Qg x];have x':lt (ky r p 0) (ky r p (n - 1))=false:=by simpa using x
     have eq:Eqs lt r p 0 n:=λa b _ h3 _ h4=>L.tr _ _ _ (c b (n - 1) (by omega) (by omega)) (L.tr _ _ _ x' (c 0 a (by omega) (by omega)))
     have dn:Des lt r p n:=λi j _ h3=>eq i j (by omega) (by omega) (by omega) h3
     refine O3 L hc (OX hp) (by omega) (by omega) ?_ k;refine Des.snoc L (dn.rev L (by omega) (Q5 _) eq) (by omega) ?_;rw [Um (by omega),Um (by omega),Qj ⟨by omega,by omega⟩,Qg (by omega)];exact L.tr _ _ _ (L.asy _ _ Ks) (eq _ _ (by omega) (by omega) (by omega) (by omega))
   ·rw [Qg y];have e1:n=1:=by omega
    subst e1;refine O3 L hc hp (Q5 _) (by omega) (λi j h3 h4=> ?_) k;have hl:=L.asy _ _ Ks;have:(i=0/\j=0) \/ (i=0/\j=1) \/ (i=1/\j=1):=by omega
    rcases this with ⟨rfl,rfl⟩ | ⟨rfl,rfl⟩ | ⟨rfl,rfl⟩
    ·exact L.irr _
    ·exact hl
    ·exact L.irr _
theorem Qa0 (L:LO lt) (hc:Ask lt r N s cmp) {p:Array Nat} {k:Nat} (hp:Ok N p) (hk:k < N) (hs:Srt lt r p k): ∀ (f l u:Nat) {Q:Nat->Shared->Prop},u - l<=f->l<=u->u<=k ->
  (∀ i,i < l->lt (ky r p k) (ky r p i)=false)->(∀ i,u<=i->i < k->lt (ky r p k) (ky r p i)=true) ->
  (∀ m,m<=k->(∀ i,i < m->lt (ky r p k) (ky r p i)=false)->(∀ i,m<=i->i < k->lt (ky r p k) (ky r p i)=true)->Q m s)->(kas_place p k f l u).kasWp cmp Q s
 | 0,l,u,Q,h1,h2,h3,hl,hu,q=>by
  have e:l=u:=by omega
  subst e;exact q l h3 hl hu
 | f+1,l,u,Q,h1,h2,h3,hl,hu,q=>by
  unfold kas_place
  by_cases z:l ≥ u
  ·rw [Qj z];have e:l=u:=by omega
   subst e;exact q l h3 hl hu
  ·rw [Qg z];refine hc _ _ _ (hp.bd (by omega)) (hp.bd (by omega)) ?_;show KasT.kasWp cmp (if lt (ky r p k) (ky r p ((l+u) / 2))=true then _ else _) Q s
   by_cases x:lt (ky r p k) (ky r p ((l+u) / 2))=true
   ·rw [Qj x];refine Qa0 L hc hp hk hs f l ((l+u) / 2) (by omega) (by omega) (by omega) hl (λi h4 h5=> ?_) q;cases y:lt (ky r p k) (ky r p i) with
    | true=>rfl
    | false =>
     have:=L.tr _ _ _ (hs ((l+u) / 2) i h4 h5) y;rw [x] at this;cases this
   ·rw [Qg x];have x':lt (ky r p k) (ky r p ((l+u) / 2))=false:=by simpa using x
    refine Qa0 L hc hp hk hs f ((l+u) / 2+1) u (by omega) (by omega) h3 (λi h4=> ?_) hu q;exact L.tr _ _ _ (hs i ((l+u) / 2) (by omega) (by omega)) x'
theorem Qs4 {p:Array Nat} {k d:Nat} (hk:k < p.size) (hd:d<=k) (i:Nat):ky r (bubble p k d) i=if i=k - d then ky r p k else if k - d < i/\i<=k then ky r p (i - 1) else ky r p i:=by
 have e:=getElem?_bubble hk d hd i;unfold ky;have g: ∀ (a:Array Nat) (n:Nat),a.getD n 0=(a[n]?).getD 0:=λa n=>by simp [Qvk]
 rw [g,e,g,g,g]
 by_cases h1:i=k - d
 ·rw [Qj h1,Qj h1]
 ·rw [Qg h1,Qg h1]
  by_cases h2:k - d < i/\i<=k
  ·rw [Qj h2,Qj h2]
  ·rw [Qg h2,Qg h2]
theorem Qs7 (L:LO lt) (hc:Ask lt r N s cmp): ∀ (f:Nat) (p:Array Nat) (k:Nat) {Q:Array Nat->Shared->Prop},Ok N p->1<=k->k+f=N->Srt lt r p k->(∀ p',Ok N p'->Srt lt r p' N->Q p' s)->(kas_bin f p k).kasWp cmp Q s
 | 0,p,k,Q,hp,h1,h2,hs,q=>by
  have e:k=N:=by omega
  subst e;exact q p hp hs
 | f+1,p,k,Q,hp,h1,h2,hs,q=>by
  unfold kas_bin;rw [Bp];have hsz:=hp.size;refine Qa0 L hc hp (by omega) hs k 0 k (by omega) (by omega) (Q5 _) (λi hi=>by omega) (λi h3 h4=>by omega) λm hm hlo hhi=> ?_
  refine Qs7 L hc f _ (k+1) ((bubble_perm ..).trans hp) (by omega) (by omega) (λi j hij hj=> ?_) q;rw [Qs4 (by omega) (by omega),Qs4 (by omega) (by omega)];have em:k - (k - m)=m:=by omega
  rw [em]
  by_cases hi:i=m
  ·rw [Qj hi]
   by_cases hj':j=m
   ·rw [Qj hj'];exact L.irr _
   ·rw [Qg hj',Qj ⟨by omega,by omega⟩];exact L.asy _ _ (hhi _ (by omega) (by omega))
  ·rw [Qg hi]
   by_cases hi2:m < i/\i<=k
   ·rw [Qj hi2,Qg (by omega),Qj ⟨by omega,by omega⟩];exact hs _ _ (by omega) (by omega)
   ·rw [Qg hi2]
    by_cases hj':j=m
    ·rw [Qj hj'];exact hlo i (by omega)
    ·rw [Qg hj']
     by_cases hj2:m < j/\j<=k
     ·rw [Qj hj2];exact hs _ _ (by omega) (by omega)
     ·rw [Qg hj2];exact hs _ _ hij (by omega)
theorem Qt9 (L:LO lt) (hc:Ask lt r N s cmp) {Q:Array Nat->Shared->Prop} (h1:1<=N) (q: ∀ p,Ok N p->Srt lt r p N->Q p s):(kas_sort N).kasWp cmp Q s:=by
 unfold kas_sort;rw [Bp];refine Qry L hc (Array.Perm.refl _) h1 λm p hp a b c=> ?_
 by_cases h:m < N
 ·show KasT.kasWp cmp (if m < N then _ else _) Q s;rw [Qj h];have e:max m 1=m:=by omega
  rw [e];exact Qs7 L hc (N - m) p m hp a (by omega) c q
 ·show KasT.kasWp cmp (if m < N then _ else _) Q s;rw [Qg h];have e:m=N:=by omega
  subst e;exact q p hp c
end
section
variable {prog:Program} {w:World} {A:Around} {E:Kf} {s:Shared} {α:Type} {lt:α->α->Bool} {r:Nat->α}
def UA (vs:List Value) (p:Array Nat):List Value:=p.toList.map λi=>vs.getD i Value.none
theorem Qg3 (vs:List Value):UA vs (List.range vs.length).toArray=vs:=by
 refine JO λi=> ?_
 unfold UA;rw [Qe]
 by_cases h:i < vs.length
 ·simp [h]
 ·simp [h]
theorem Qly {a:Addr} {vs:List Value} {n:Nat} {κ:SortKind} {P:PySem.Fin->Shared->Prop} (ho:s.heap.get? a=some (seqObj "list" vs.toArray n)) (h64:vs.length < 64) (L:LO lt)
  (kind:2<=vs.length-> ∀ h',(∀ b o,b≠a->s.heap.get? b=some o->h'.get? b=some o)-> ∀ (Z:SortKind->Shared->Prop),Z κ { s with heap:=h' }->wpAny (model prog w) A (keyKind' vs.toArray) Z E { s with heap:=h' })
  (ask: ∀ h',(∀ b o,b≠a->s.heap.get? b=some o->h'.get? b=some o)->Ask lt r vs.length { s with heap:=h' } (kas_ask prog w A κ vs))
  (q: ∀ (p:Array Nat) (h':Heap) (c:Nat),Ok vs.length p->Srt lt r p vs.length->(∀ b o,b≠a->s.heap.get? b=some o->h'.get? b=some o)->h'.get? a=some (seqObj "list" (UA vs p).toArray c)->P (.done (.ret .none)) { s with heap:=h' }) :
  wpAny (model prog w) A (Builtin.«list.sort» ⟨[.ref a],[]⟩) P E s:=by
 have line:vs.length<=sizeLine:=by rw [Jb];omega
 obtain ⟨c1,g1⟩: ∃ c1,(s.heap.update a (Obj.mapSeq λ_=>(#[]:Array Value))).get? a=some (seqObj "list" #[] c1):=⟨_,Qss ho λ_=> #[]⟩;generalize hH:((s.heap.update a (Obj.mapSeq λ_=>(#[]:Array Value))).push (seqObj "tuple" vs.toArray 0)).push (seqObj "list" #[] 0)=H;have ga:H.get? a=some (seqObj "list" #[] c1):=by rw [<- hH];exact Q1 _ (Q1 _ g1)
 have up: ∀ b o,b≠a->s.heap.get? b=some o->H.get? b=some o:=λb o hb e=>by
  rw [<- hH];refine Q1 _ (Q1 _ ?_);rw [(QN s.heap a _).2 b hb];exact e
 have Kj: ∀ (p:Array Nat) (st:SortSt),Ok vs.length p->Srt lt r p vs.length->failedOf st=none->(arrOf st).map (·.2)=(UA vs p).toArray ->
   wpAny (model prog w) A (do
    let touched:=(<- seqEpoch a) != c1
    Builtin.List.listUpdate (.ref a) λ_=>(arrOf st).map (·.2)
    if let some e:=failedOf st then rule "list.sort.comparison-raised"; throw e
    if touched then rule "list.sort.modified"; raiseError "ValueError" "list modified during sort"
    ret .none) P E { s with heap:=H }:=by
  intro p st hp hs hf ha;have il:(UA vs p).toArray.size=vs.length:=by
   have:=hp.size;simp [UA,this]
  refine Q0 (seqEpoch_at ga rfl ?_);rw [ha];refine Q0 (listUpdate_at ga rfl ?_ (Qz _) (by rw [il];omega));rw [hf];simp only [bne_self_eq_false,QG,JI];refine Q3 (q p _ _ hp hs (λb o hb e=> ?_) (Qss ga λ_=>(UA vs p).toArray));rw [(QN H a _).2 b hb];exact up b o hb e
 rw [list_sort_plain];refine Q0 (listItems_at ho rfl (Q0 (listUpdate_at ho rfl ?_ (by simpa using line) (Qz _))));refine Q0 (seqEpoch_at g1 rfl (Q0 (Qlg ?_ (by simpa using line))));refine Q0 (wpAny_newList (JH ?_) (Qz _));show wpAny (model prog w) A _ P E { s with heap:=((s.heap.update a (Obj.mapSeq λ_=>(#[]:Array Value))).push (seqObj "tuple" vs.toArray 0)).push (seqObj "list" #[] 0) };rw [hH]
 by_cases h2:2<=vs.length
 ·have nt: ¬ vs.toArray.size < 2:=by simpa using h2
  dsimp only;rw [Qg nt,Qg nt];refine Q0 (kind h2 H up _ ?_);have run:=kat_run (prog:=prog) (w:=w) (A:=A) (E:=E) (κ:=κ) (ks:=vs) (vs:=vs) (s:={ s with heap:=H }) (Q:=λst s'=> ∃ p:Array Nat,Ok vs.length p/\Srt lt r p vs.length/\failedOf st=none/\(arrOf st).map (·.2)=(UA vs p).toArray/\s'={ s with heap:=H })
   (G:=λp s'=>Ok vs.length p/\Srt lt r p vs.length/\s'={ s with heap:=H }) rfl h2 h64 (λp st s' _ har hf ⟨x,y,z⟩=>⟨p,x,y,hf,kat_snds rfl har,z⟩) (Qt9 L (ask H up) (by omega) λp x y=>⟨x,y,rfl⟩)
  refine Q0 (Jh run ?_ λ_ _ e=>e);rintro ⟨u,st⟩ s' ⟨p,x,y,hf,ha,rfl⟩;exact Kj p st x y hf ha
 ·have nt:vs.toArray.size < 2:=by
   rw [Ql];omega
  dsimp only;rw [Qj nt,Qj nt];refine Q0 (Q3 (Q0 (Q3 ?_)));have hsm: ∀ (i:Nat),i < vs.length->i=0:=λi hi=>by omega
  refine Kj (List.range vs.length).toArray _ (Array.Perm.refl _) (λi j h1 h3=> ?_) rfl ?_
  ·have e1:=hsm j h3;have e2:i=0:=by omega
   subst e1 e2;exact L.irr _
  ·show (vs.toArray.zip vs.toArray).map (·.2)=_;apply Array.toList_inj.mp;rw [Array.toList_map,Array.toList_zip,List.map_snd_zip (Q5 _)];show vs=UA vs (List.range vs.length).toArray;exact (Qg3 vs).symm
end
end SO
namespace L2
open PySem PySem.Spec PyProof.Rows
def rkD:D->Nat
 | .non=>0
 | .bl _=>1
 | .int _=>2
 | .str _=>3
 | .tup _=>4
 | .lst _=>5
 | .dct _ _ _=>6
 | .oth _ _ _=>7
def cmpN {α:Type} [DecidableEq α] [LT α] [DecidableLT α] (a b:α):Ordering:=if a < b then .lt else if a=b then .eq else .gt
mutual
def cmpD:D->D->Ordering
 | .bl a,.bl b=>cmpN a.toNat b.toNat
 | .int a,.int b=>cmpN a b
 | .str a,.str b=>cmpN a.cps.toList b.cps.toList
 | .tup a,.tup b=>cmpDs a b
 | .lst a,.lst b=>cmpDs a b
 | .dct f a b,.dct g c d=>(cmpN f.toNat g.toNat).then ((cmpDs a c).then (cmpDs b d))
 | .oth t a b,.oth u c d=>(cmpN t.enc u.enc).then ((cmpDs a c).then (cmpDs b d))
 | a,b=>cmpN (rkD a) (rkD b)
def cmpDs:List D->List D->Ordering
 | [],[]=> .eq
 | [],_::_=> .lt
 | _::_,[]=> .gt
 | a::as,b::bs=>(cmpD a b).then (cmpDs as bs)
end
theorem Qav {a b:Nat}:cmpN a b= .eq ↔ a=b:=by
 unfold cmpN;split
 ·simp;omega
 ·split<;>simp_all
theorem Qs1 {a b:Int}:cmpN a b= .eq ↔ a=b:=by
 unfold cmpN;split
 ·simp;omega
 ·split<;>simp_all
theorem Qaw {a b:List Nat}:cmpN a b= .eq ↔ a=b:=by
 unfold cmpN;split
 ·rename_i h;simp only [reduceCtorEq,false_iff];rintro rfl;exact Yt _ h
 ·split<;>simp_all
theorem Qt6 {a b:Str} (h:a.cps.toList=b.cps.toList):a=b:=by
 cases a;cases b;simp at h;simp [h]
mutual
theorem Yo: ∀ {a b:D},cmpD a b= .eq ↔ a=b
 | .non,b=>by cases b<;>simp [cmpD,cmpN,rkD]
 | .bl x,b=>by
  cases b with
  | bl y=>rw [cmpD,Qav];cases x<;>cases y<;>simp
  | _=>simp [cmpD,cmpN,rkD]
 | .int x,b=>by
  cases b with
  | int y=>rw [cmpD,Qs1];simp
  | _=>simp [cmpD,cmpN,rkD]
 | .str x,b=>by
  cases b with
  | str y =>
   rw [cmpD,Qaw];exact ⟨λh=>by rw [Qt6 h],λh=>by cases h;rfl⟩
  | _=>simp [cmpD,cmpN,rkD]
 | .tup x,b=>by
  cases b with
  | tup y=>rw [cmpD,JZ];simp
  | _=>simp [cmpD,cmpN,rkD]
 | .lst x,b=>by
  cases b with
  | lst y=>rw [cmpD,JZ];simp
  | _=>simp [cmpD,cmpN,rkD]
 | .dct f a b,e=>by
  cases e with
  | dct g c d =>
   rw [cmpD];have h1:cmpN f.toNat g.toNat= .eq ↔ f=g:=by rw [Qav];cases f<;>cases g<;>simp
   have h2:=JZ (a:=a) (b:=c);have h3:=JZ (a:=b) (b:=d);rw [UI,UI,h1,h2,h3]
   simp
  | _=>simp [cmpD,cmpN,rkD]
 | .oth f a b,e=>by
  cases e with
  | oth g c d =>
   rw [cmpD];have h1:cmpN f.enc g.enc= .eq ↔ f=g:=by rw [Qaw];exact ⟨Oth.enc_inj,λz=>by rw [z]⟩
   have h2:=JZ (a:=a) (b:=c);have h3:=JZ (a:=b) (b:=d);rw [UI,UI,h1,h2,h3]
   simp
  | _=>simp [cmpD,cmpN,rkD]
theorem JZ: ∀ {a b:List D},cmpDs a b= .eq ↔ a=b
 | [],[]=>by simp [cmpDs]
 | [],_::_=>by simp [cmpDs]
 | _::_,[]=>by simp [cmpDs]
 | a::as,b::bs=>by
  rw [cmpDs];cases h:cmpD a b with
  | eq =>
   have:=Yo.mp h;subst this;simp [Ordering.then,JZ]
  | lt =>
   have:a≠b:=λz=>by rw [Yo.mpr z] at h;cases h
   simp [Ordering.then,this]
  | gt =>
   have:a≠b:=λz=>by rw [Yo.mpr z] at h;cases h
   simp [Ordering.then,this]
end
theorem Qgo (a b:Nat):cmpN b a=(cmpN a b).swap:=by
 unfold cmpN
 by_cases h1:a < b
 ·rw [Qg (by omega),Qg (by omega),Qj h1];rfl
 ·by_cases h2:b < a
  ·rw [Qj h2,Qg h1,Qg (by omega)];rfl
  ·have:a=b:=by omega
   subst this
   simp
theorem Qrz (a b:Int):cmpN b a=(cmpN a b).swap:=by
 unfold cmpN
 by_cases h1:a < b
 ·rw [Qg (by omega),Qg (by omega),Qj h1];rfl
 ·by_cases h2:b < a
  ·rw [Qj h2,Qg h1,Qg (by omega)];rfl
  ·have:a=b:=by omega
   subst this
   simp
theorem Qmq (a b:List Nat):a < b \/ a=b \/ b < a:=by
 by_cases h1:a < b
 ·exact .inl h1
 ·by_cases h2:b < a
  ·exact .inr (.inr h2)
  ·exact .inr (.inl (List.le_antisymm (List.not_lt.mp h2) (List.not_lt.mp h1)))
theorem Qgp (a b:List Nat):cmpN b a=(cmpN a b).swap:=by
 unfold cmpN;rcases Qmq a b with h | rfl | h
 ·have h2: ¬ b < a:=λz=>Yt _ (Qh8 h z)
  have h3: ¬ b=a:=by rintro rfl;exact Yt _ h
  rw [Qg h2,Qg h3,Qj h];rfl
 ·rw [Qg (Yt a),Qj rfl];rfl
 ·have h2: ¬ a < b:=λz=>Yt _ (Qh8 h z)
  have h3: ¬ a=b:=by rintro rfl;exact Yt _ h
  rw [Qj h,Qg h2,Qg h3];rfl
mutual
theorem OD: ∀ (a b:D),cmpD b a=(cmpD a b).swap
 | .non,b=>by cases b<;>simp [cmpD,cmpN,rkD]
 | .bl x,b=>by
  cases b with
  | bl y=>rw [cmpD,cmpD];exact Qgo _ _
  | _=>simp [cmpD,cmpN,rkD]
 | .int x,b=>by
  cases b with
  | int y=>rw [cmpD,cmpD];exact Qrz _ _
  | _=>simp [cmpD,cmpN,rkD]
 | .str x,b=>by
  cases b with
  | str y=>rw [cmpD,cmpD];exact Qgp _ _
  | _=>simp [cmpD,cmpN,rkD]
 | .tup x,b=>by
  cases b with
  | tup y=>rw [cmpD,cmpD];exact Yc x y
  | _=>simp [cmpD,cmpN,rkD]
 | .lst x,b=>by
  cases b with
  | lst y=>rw [cmpD,cmpD];exact Yc x y
  | _=>simp [cmpD,cmpN,rkD]
 | .dct f a b,e=>by
  cases e with
  | dct g c d =>
   rw [cmpD,cmpD,Qgo,Yc a c,Yc b d];cases cmpN f.toNat g.toNat<;>cases cmpDs a c<;>rfl
  | _=>simp [cmpD,cmpN,rkD]
 | .oth f a b,e=>by
  cases e with
  | oth g c d =>
   rw [cmpD,cmpD,Qgp,Yc a c,Yc b d];cases cmpN f.enc g.enc<;>cases cmpDs a c<;>rfl
  | _=>simp [cmpD,cmpN,rkD]
theorem Yc: ∀ (a b:List D),cmpDs b a=(cmpDs a b).swap
 | [],[]=>by simp [cmpDs]
 | [],_::_=>by simp [cmpDs]
 | _::_,[]=>by simp [cmpDs]
 | a::as,b::bs=>by
  rw [cmpDs,cmpDs,OD a b,Yc as bs];cases cmpD a b<;>rfl
end
theorem Wl {a b:Nat}:cmpN a b= .lt ↔ a < b:=by
 unfold cmpN;split
 ·simp_all
 ·split<;>simp_all
theorem Qs0 {a b:Int}:cmpN a b= .lt ↔ a < b:=by
 unfold cmpN;split
 ·simp_all
 ·split<;>simp_all
theorem Qau {a b:List Nat}:cmpN a b= .lt ↔ a < b:=by
 unfold cmpN;split
 ·simp_all
 ·split<;>simp_all
theorem Qdc {o p:Ordering}:o.then p= .lt ↔ o= .lt \/ (o= .eq/\p= .lt):=by cases o<;>simp [Ordering.then]
set_option maxHeartbeats 2000000 in
mutual
theorem Ql9: ∀ {a b c:D},cmpD a b= .lt->cmpD b c= .lt->cmpD a c= .lt
 | .non,b,c,h,g=>by cases b<;>cases c<;>simp_all [cmpD,Wl,rkD]
 | .bl x,b,c,h,g=>by
  cases b<;>cases c<;>simp_all [cmpD,Wl,rkD]<;>omega
 | .int x,b,c,h,g=>by
  cases b<;>cases c<;>simp_all [cmpD,Wl,Qs0,rkD]<;>omega
 | .str x,b,c,h,g=>by
  cases b<;>cases c<;>simp_all [cmpD,Wl,Qau,rkD];exact Qh8 h g
 | .tup x,b,c,h,g=>by
  cases b with
  | tup y =>
   cases c with
   | tup z=>rw [cmpD] at h g ⊢; exact Yb h g
   | _=>simp_all [cmpD,Wl,rkD]
  | _=>cases c<;>simp_all [cmpD,Wl,rkD]
 | .lst x,b,c,h,g=>by
  cases b with
  | lst y =>
   cases c with
   | lst z=>rw [cmpD] at h g ⊢; exact Yb h g
   | _=>simp_all [cmpD,Wl,rkD]
  | _=>cases c<;>simp_all [cmpD,Wl,rkD]
 | .dct f1 x1 x2,b,c,h,g=>by
  cases b with
  | dct f2 y1 y2 =>
   cases c with
   | dct f3 z1 z2 =>
    rw [cmpD] at h g ⊢;have eqN: ∀ {a b:Nat},cmpN a b= .eq ↔ a=b:=Qav;simp only [Qdc,Wl,eqN] at h g ⊢;rcases h with h | ⟨h,h' | ⟨h',h''⟩⟩<;>rcases g with g | ⟨g,g' | ⟨g',g''⟩⟩
    ·exact .inl (by omega)
    ·exact .inl (by omega)
    ·exact .inl (by omega)
    ·exact .inl (by omega)
    ·exact .inr ⟨by omega,.inl (Yb h' g')⟩
    ·rw [JZ] at g';subst g';exact .inr ⟨by omega,.inl h'⟩
    ·exact .inl (by omega)
    ·rw [JZ] at h';subst h';exact .inr ⟨by omega,.inl g'⟩
    ·rw [JZ] at h' g';subst h';subst g';exact .inr ⟨by omega,.inr ⟨JZ.mpr rfl,Yb h'' g''⟩⟩
   | _=>simp_all [cmpD,Wl,rkD]
  | _=>cases c<;>simp_all [cmpD,Wl,rkD]
 | .oth f1 x1 x2,b,c,h,g=>by
  cases b with
  | oth f2 y1 y2 =>
   cases c with
   | oth f3 z1 z2 =>
    rw [cmpD] at h g ⊢;have eqN: ∀ {a b:List Nat},cmpN a b= .eq ↔ a=b:=Qaw;simp only [Qdc,Qau,eqN] at h g ⊢;rcases h with h | ⟨h,h' | ⟨h',h''⟩⟩<;>rcases g with g | ⟨g,g' | ⟨g',g''⟩⟩
    ·exact .inl (Qh8 h g)
    ·exact .inl (g ▸ h)
    ·exact .inl (g ▸ h)
    ·exact .inl (h ▸ g)
    ·exact .inr ⟨h.trans g,.inl (Yb h' g')⟩
    ·rw [JZ] at g';subst g';exact .inr ⟨h.trans g,.inl h'⟩
    ·exact .inl (h ▸ g)
    ·rw [JZ] at h';subst h';exact .inr ⟨h.trans g,.inl g'⟩
    ·rw [JZ] at h' g';subst h';subst g';exact .inr ⟨h.trans g,.inr ⟨JZ.mpr rfl,Yb h'' g''⟩⟩
   | _=>simp_all [cmpD,Wl,rkD]
  | _=>cases c<;>simp_all [cmpD,Wl,rkD]
theorem Yb: ∀ {a b c:List D},cmpDs a b= .lt->cmpDs b c= .lt->cmpDs a c= .lt
 | [],b,c,h,g=>by
  cases b with
  | nil=>simp [cmpDs] at h
  | cons y ys =>
   cases c with
   | nil=>simp [cmpDs] at g
   | cons z zs=>simp [cmpDs]
 | x::xs,b,c,h,g=>by
  cases b with
  | nil=>simp [cmpDs] at h
  | cons y ys =>
   cases c with
   | nil=>simp [cmpDs] at g
   | cons z zs =>
    rw [cmpDs,Qdc] at h g ⊢;rcases h with h | ⟨h1,h2⟩
    ·rcases g with g | ⟨g1,_⟩
     ·exact .inl (Ql9 h g)
     ·rw [<- Yo.mp g1];exact .inl h
    ·have e:=Yo.mp h1;subst e;rcases g with g | ⟨g1,g2⟩
     ·exact .inl g
     ·exact .inr ⟨g1,Yb h2 g2⟩
end
def ltD (a b:D):Bool:=cmpD a b == .lt
theorem YZ {a b:D}:ltD a b=true ↔ cmpD a b= .lt:=by simp [ltD]
theorem Qim:SO.LO ltD where
 irr:=λa=>by
  have:cmpD a a= .eq:=Yo.mpr rfl;simp [ltD,this]
 tr:=λa b c h g=>by
  cases z:ltD c a with
  | false=>rfl
  | true =>
   exfalso;have z:=YZ.mp z;have h':cmpD b a≠ .lt:=λy=>by rw [YZ.mpr y] at h;cases h
   have g':cmpD c b≠ .lt:=λy=>by rw [YZ.mpr y] at g;cases g
   cases q:cmpD c b with
   | lt=>exact g' q
   | eq=>rw [Yo.mp q] at z;exact h' z
   | gt =>
    have q':cmpD b c= .lt:=by rw [OD c b,q];rfl
    exact h' (Ql9 q' z)
 asy:=λa b h=>by
  have h:=YZ.mp h;have:cmpD b a= .gt:=by rw [OD a b,h];rfl
  simp [ltD,this]
theorem Quv {a b:D} (h:ltD a b=false) (g:ltD b a=false):a=b:=by
 have h':cmpD a b≠ .lt:=λy=>by rw [YZ.mpr y] at h;cases h
 have g':cmpD b a≠ .lt:=λy=>by rw [YZ.mpr y] at g;cases g
 cases q:cmpD a b with
 | lt=>exact (h' q).elim
 | eq=>exact Yo.mp q
 | gt =>
  exfalso;apply g';rw [OD a b,q];rfl
section
variable {s:Shared}
theorem Quw (a b:Str):ltD (.str a) (.str b)=decide (a.cps.toList < b.cps.toList):=by
 rw [Jd,YZ,QB,cmpD,Qau]
end
section
variable {X:Cx} {Kz:Ke} {σ:St} {H:Hp} {s:Shared}
theorem Inv.dr (I:Inv X Kz σ H s) (dr:Drawn):Inv X Kz σ H { s with drawn:=dr }:=⟨I.ok,I.os,I.bare,I.base,I.loc,I.cell,I.free,I.freeC,I.pin,I.hok,I.len⟩
mutual
theorem Is.conc (I:Inv X Kz σ H s): ∀ {d:D} {v:V} {u:Value},noD d=true->Is X.K H d v->RelV v u->CIs s.heap d u
 | .non,v,u,_,x,r=>by simp only [Is] at x;subst x;simp only [CIs];exact r
 | .dct _ _ _,v,u,n,x,r=>by simp [noD] at n
 | .oth _ _ _,v,u,n,x,r=>by simp [noD] at n
 | .bl b,v,u,_,x,r=>by simp only [Is] at x;subst x;simp only [CIs];exact r
 | .int b,v,u,_,x,r=>by simp only [Is] at x;subst x;simp only [CIs];exact r
 | .str b,v,u,_,x,r=>by simp only [Is] at x;subst x;simp only [CIs];exact r
 | .tup ds,v,u,n,x,r=>by
  obtain ⟨p,vs,rfl,q,a⟩:=JB x;obtain ⟨Kv,rv,t,_⟩:=I.tuple q;exact ctup.mpr ⟨p,Kv,r,t,Va.conc I (by simpa [noD] using n) a rv⟩
 | .lst ds,v,u,n,x,r=>by
  obtain ⟨p,vs,rfl,q,a⟩:=JY x;obtain ⟨Kv,rv,t,_⟩:=I.list q;exact clst.mpr ⟨p,Kv,r,t.isList,Va.conc I (by simpa [noD] using n) a rv⟩
theorem Va.conc (I:Inv X Kz σ H s): ∀ {ds:List D} {vs:List V} {us:List Value},Qfu ds=true->Va X.K H ds vs->Vals vs us->CAll s.heap ds us
 | [],vs,us,_,x,r=>by
  rw [Va] at x;subst x;cases r;simp [CAll]
 | d::ds,vs,us,n,x,r=>by
  rw [Qfu,Qv] at n;rw [Va] at x;obtain ⟨v,Ki,rfl,q,t⟩:=x;cases r with
  | cons r1 r2 =>
   rw [CAll];exact ⟨_,_,rfl,Is.conc I n.1 q r1,Va.conc I n.2 t r2⟩
end
end
def SetO (a:Addr) (o:Obj):HO:= .ext λh=>h.get? a=some o
def Qn1 (d:D):List D->List D
 | []=>[d]
 | e::r=>if ltD e d then e::Qn1 d r else d::e::r
def U6 (ds:List D):List D:=ds.foldr Qn1 []
theorem BI (d:D): ∀ l:List D,(Qn1 d l).Perm (d::l)
 | []=> .refl _
 | e::r=>by
  unfold Qn1;split
  ·exact ((BI d r).cons e).trans (.swap d e r)
  ·exact .refl _
theorem Zl: ∀ ds:List D,(U6 ds).Perm ds
 | []=> .refl _
 | d::ds=>(BI d _).trans ((Zl ds).cons d)
def SrtL (l:List D):Prop:=l.Pairwise λa b=>ltD b a=false
theorem Qg1 (d:D): ∀ {l:List D},SrtL l->SrtL (Qn1 d l)
 | [],_=>List.pairwise_singleton _ _
 | e::r,h=>by
  obtain ⟨h1,h2⟩:=Wp.mp h;unfold Qn1;split
  ·rename_i Ks;refine Wp.mpr ⟨λx hx=> ?_,Qg1 d h2⟩;rcases Qb.mp ((BI d r).mem_iff.mp hx) with rfl | hx
   ·exact Qim.asy _ _ Ks
   ·exact h1 x hx
  ·rename_i Ks;have hlt':ltD e d=false:=by simpa using Ks
   refine Wp.mpr ⟨λx hx=> ?_,h⟩;rcases Qb.mp hx with rfl | hx
   ·exact hlt'
   ·exact Qim.tr _ _ _ hlt' (h1 x hx)
theorem UO: ∀ ds:List D,SrtL (U6 ds)
 | []=>Qlm
 | d::ds=>Qg1 d (UO ds)
theorem Gh: ∀ {l m:List D},l.Perm m->SrtL l->SrtL m->l=m
 | [],m,p,_,_=>(List.nil_perm.mp p).symm
 | a::l,m,p,hl,hm=>by
  cases m with
  | nil=>exact absurd p.length_eq (by simp)
  | cons b m =>
   obtain ⟨h1,h2⟩:=Wp.mp hl;obtain ⟨g1,g2⟩:=Wp.mp hm;have e:a=b:=by
    by_cases hab:a=b
    ·exact hab
    ·have ha:a∈m:=by
      rcases Qb.mp (p.mem_iff.mp Q8) with z | z
      ·exact absurd z hab
      ·exact z
     have hb:b∈l:=by
      rcases Qb.mp (p.mem_iff.mpr Q8) with z | z
      ·exact absurd z.symm hab
      ·exact z
     exact Quv (g1 a ha) (h1 b hb)
   subst e;rw [Gh (List.Perm.cons_inv p) h2 g2]
theorem Qoh {l ds:List D} (p:l.Perm ds) (h:SrtL l):l=U6 ds:=Gh (p.trans (Zl ds).symm) h (UO ds)
end L2
namespace L2
open PySem PySem.Spec PyProof.Rows PySem.W
theorem Qa3 {α:Type} (ds:List D) {p:Array Nat} (h:SO.Ok ds.length p):(p.toList.map λi=>ds.getD i .non).Perm ds:=by
 have hp:p.toList.Perm (List.range ds.length):=by simpa using Ge.mp h
 refine (hp.map _).trans ?_;have:(List.range ds.length).map (λi=>ds.getD i .non)=ds:=by
  refine JO λi=> ?_
  rw [Qe]
  by_cases hi:i < ds.length
  ·simp [hi]
  ·simp [hi]
 rw [this]
theorem Qoc {ds:List D} {p:Array Nat} (h:SO.Ok ds.length p) (hs:SO.Srt ltD (λi=>ds.getD i .non) p ds.length):(p.toList.map λi=>ds.getD i .non)=U6 ds:=by
 refine Qoh (Qa3 (α:=Unit) ds h) ?_;unfold SrtL;rw [Qll,Gw];intro i j hi hj hij;have hsz:=h.size;have hj':j < ds.length:=by simpa [hsz] using hj
 have:=hs i j (by omega) hj';unfold SO.ky at this;have ei:p.getD i 0=p[i]'(by omega):=by simp [Array.getD,show i < p.size by omega]
 have ej:p.getD j 0=p[j]'(by omega):=by simp [Array.getD,show j < p.size by omega]
 rw [ei,ej] at this;simpa using this
section
variable {prog:Program} {w:World} {A:Around} {E:Kf} {s:Shared}
theorem CAll.getD {h:Heap} {ds:List D} {vs:List Value} (c:CAll h ds vs) {i:Nat} (hi:i < ds.length):CIs h (ds.getD i .non) (vs.getD i Value.none):=by
 obtain ⟨v,e,x⟩:=c.get (i:=i) (d:=ds[i]) (by simp [hi]);have e1:ds.getD i .non=ds[i]:=by simp [hi]
 have e2:vs.getD i Value.none=v:=by rw [Qa,e];rfl
 rw [e1,e2];exact x
theorem Qhv {x:Value} {Q:Kf} (h:wpAny (model prog w) A.in1 (collect x) (λout s1=>out.length<=sizeLine/\wpAny (model prog w) A.in1.in1 (Builtin.«list.sort» ⟨[.ref s1.heap.objs.size],[]⟩) (λfl s2=>fl= .done (.ret .none)/\Q (.ref s1.heap.objs.size) s2) E { s1 with heap:=s1.heap.push (seqObj "list" out.toArray 0) }) E s) :
  wpAny (model prog w) A (call (.builtin "sorted") [x]) Q E s:=by
 refine Calls.call_function_entry kind_sorted plain_sorted entry_sorted (args_sorted1 _) ?_;unfold Builtin.«sorted»;apply Q0 (m:=checkCount "sorted" 1 1 _);apply Q3;refine Q0 (Jh h (λout s1 ⟨hz,g⟩=> ?_) λ_ _ e=>e);refine Q0 (wpAny_newList ?_ hz);have here:(s1.heap.push (seqObj "list" out.toArray 0)).get? s1.heap.objs.size=some (seqObj "list" out.toArray 0):=Qd _ rfl;refine Q0 (JH (J0 slot_list_sort ⟨_,here,rfl⟩ entry_list_sort ?_ (args_list_sort _)));exact Jh g (λfl s2 ⟨e,z⟩=>⟨.none,e,Q3 ⟨_,rfl,z⟩⟩) λ_ _ e=>e
end
section
variable {X:Cx}
theorem Qmx {K:W.Frag} {H:Hp} {ds:List D} {ws:List V} {p:Array Nat} (ia:Va K H ds ws) (hp:SO.Ok ds.length p):Va K H (p.toList.map λi=>ds.getD i .non) (p.toList.map λi=>ws.getD i .non):=by
 have go: ∀ l:List Nat,(∀ i∈l,i < ds.length)->Va K H (l.map λi=>ds.getD i .non) (l.map λi=>ws.getD i .non):=by
  intro l
  induction l with
  | nil=>intro _;exact QR
  | cons i r ih =>
   intro h;have hi:=h i Q8;obtain ⟨v,e,x⟩:=ia.get (i:=i) (d:=ds[i]) (by simp [hi]);have e1:ds.getD i .non=ds[i]:=by simp [hi]
   have e2:ws.getD i .non=v:=by rw [Qa,e];rfl
   rw [Qk,Qk,e1,e2];exact Vg x (ih λj hj=>h j (Q7 _ hj))
 refine go p.toList λi hi=> ?_
 have hm:p.toList.Perm (List.range ds.length):=by simpa using Ge.mp hp
 exact Je.mp (hm.mem_iff.mp hi)
theorem Qny {ws:List V} {us:List Value} {p:Array Nat} (r:Vals ws us) (hp:SO.Ok ws.length p):Vals (p.toList.map λi=>ws.getD i .non) (SO.UA us p):=by
 have go: ∀ l:List Nat,(∀ i∈l,i < ws.length)->Vals (l.map λi=>ws.getD i .non) (l.map λi=>us.getD i Value.none):=by
  intro l
  induction l with
  | nil=>intro _;exact .nil
  | cons i rr ih =>
   intro h;have hi:=h i Q8;obtain ⟨u,e,x⟩:=r.get (i:=i) (x:=ws[i]) (by simp [hi]);have e1:ws.getD i .non=ws[i]:=by simp [hi]
   have e2:us.getD i Value.none=u:=by rw [Qa,e];rfl
   rw [Qk,Qk,e1,e2];exact .cons x (ih λj hj=>h j (Q7 _ hj))
 refine go p.toList λi hi=> ?_
 have hm:p.toList.Perm (List.range ws.length):=by simpa using Ge.mp hp
 exact Je.mp (hm.mem_iff.mp hi)
theorem Vals.perm' {ws:List V} {us us':List Value} (r:Vals ws us) (p:us'.Perm us) {ds:List D} {K:W.Frag} {H:Hp} (ia:Va K H ds ws): ∃ Ko ws',Ko.Perm ds/\Va K H Ko ws'/\Vals ws' us':=by
 induction p generalizing ws ds with
 | nil=>cases r;exact ⟨ds,[],.refl _,ia,.nil⟩
 | @cons x a b _ ih =>
  cases r with
  | @cons v _ vs _ r1 r2 =>
   cases ds with
   | nil=>rw [Va] at ia;cases ia
   | cons d ds =>
    rw [Va] at ia;obtain ⟨v',r',e,i1,i2⟩:=ia;cases e;obtain ⟨Ko,ws',p',ia',rv'⟩:=ih r2 i2;exact ⟨d::Ko,v::ws',p'.cons d,Vg i1 ia',.cons r1 rv'⟩
 | @swap x y a =>
  cases r with
  | @cons v _ vs _ r1 r2 =>
   cases r2 with
   | @cons v2 _ vs2 _ r3 r4 =>
    cases ds with
    | nil=>rw [Va] at ia;cases ia
    | cons d ds =>
     rw [Va] at ia;obtain ⟨v',r',e,i1,i2⟩:=ia;cases e;cases ds with
     | nil=>rw [Va] at i2;cases i2
     | cons d2 ds =>
      rw [Va] at i2;obtain ⟨v3,r5,e,i3,i4⟩:=i2;cases e;exact ⟨d2::d::ds,v2::v::vs2,Qwg d d2 ds,Vg i3 (Vg i1 i4),.cons r3 (.cons r1 r4)⟩
 | @trans a b c _ _ ih1 ih2 =>
  obtain ⟨d1,w1,p1,i1,r1⟩:=ih2 r ia;obtain ⟨d2,w2,p2,i2,r2⟩:=ih1 r1 i1;exact ⟨d2,w2,p2.trans p1,i2,r2⟩
end
end L2
namespace L2
open PySem PySem.Spec PyProof.Rows
section
variable {X:Cx} {ρ:List (Option D)} {e:Expr} {d:D} {ds:List D} {pos:Pos}
theorem Qeq:bootBuiltins "sorted" =some (.builtin "sorted"):=by decide +kernel
theorem Qnf:bootBuiltins "set" =some (.type "set"):=by decide +kernel
end
end L2
namespace RH
open PySem L2
abbrev signs (x:Str):List Nat:=x.cps.toList
abbrev SMALL:Str:= "abcdefghijklmnopqrstuvwxyz"
abbrev CAPS:Str:= "ABCDEFGHIJKLMNOPQRSTUVWXYZ"
abbrev KEPT:List Str:=["rule", "fact", "if", "and", "not"]
def WW (x:Str):Bool:=(decide (1<=(x.length:Int)) && decide ((x.length:Int)<=8)) && ((signs x).all (λc=>decide (c∈signs SMALL)) && !decide (x∈KEPT))
def cell (ns:List Int) (k:Nat):Int:=ns.getD k 0
def mix (c p m:Int):Int:=c * 48271 % p % m
theorem Wd (c p:Int) {m:Int} (h:0 < m):0<=mix c p m:=Qsx _ (by omega)
theorem Zn (c p:Int) {m:Int} (h:0 < m):mix c p m < m:=Qhi _ h
def sg (x:Str) (i:Nat):Str:=⟨#[(signs x).getD i 97]⟩
def U9 (l:List Str):Str:=⟨(l.flatMap signs).toArray⟩
def word (c:Int) (k:Nat) (firsts:Str):Str :=
 let tail:=U9 ((List.range (mix (c+k) 9929 8).toNat).map λ(j:Nat)=>sg SMALL (mix (c+7 * j * j+k) 9931 26).toNat)
 let Kx:=sg firsts k++tail
 if Kx∈(["and", "fact", "if", "rule", "not"]:List Str) then sg firsts k++ "zz" else Kx
def kinds (ns:List Int):List Str:=(List.range 6).map λk=>word (cell ns 0) k "pqrstu"
def Ux (ns:List Int):Nat:=if mix (cell ns 3) 9479 7=3 then 4 else 3
def words (ns:List Int):List Str:=(List.range (Ux ns)).map λk=>word (cell ns 1) k "abcdef"
def size (ns:List Int) (k:Nat):Nat:=[2,1,2,1,0,2].getD k 0+(if mix (cell ns 1+k) 9923 7=0 then 1 else 0)
def pick (c:Int) (l:List Str):Str:=l.getD (mix c 9907 l.length).toNat ""
structure At where
 k:Str
 ts:List Str
structure Li where
 y:Bool
 a:At
structure Ru where
 h:At
 b:List Li
def At.d (a:At):D:= .tup [.str a.k,.tup (a.ts.map .str)]
def Li.d (l:Li):D:= .tup [.str (if l.y then "yes" else "no"),l.a.d]
def Ru.d (r:Ru):D:= .tup [r.h.d,.tup (r.b.map Li.d)]
def kd (ns:List Int) (k:Nat):Str:=(kinds ns).getD k ""
def WU (c:Int) (head:Nat) (free:Bool) (k:Nat):Nat :=
 let a:=if free then (mix (c+31 * k) 9887 6).toNat else (mix (c+31 * k) 9887 (head+1)).toNat
 if k=0/\a=head/\mix c 9883 2=0 then 0 else a
def Zt (ns:List Int) (c:Int) (head:Nat) (free:Bool) (k:Nat):At :=
 let q:=WU c head free k
 ⟨kd ns q,(List.range (size ns q)).map λ(j:Nat)=>pick (c+13 * k+5 * j) ["X", "Y", "Z", "X", "Y",(words ns).getD 0 "",(words ns).getD 1 ""]⟩
def body (ns:List Int) (c:Int) (head:Nat) (free:Bool):List At:=(List.range (mix c 9901 4).toNat).map λk=>Zt ns c head free k
def Yh (acc:List Str) (t:Str):List Str:=if t∈(["X", "Y", "Z"]:List Str)/\t ∉ acc then acc++[t] else acc
def bound (as:List At):List Str:=as.foldl (λacc a=>a.ts.foldl Yh acc) []
def QL (c:Int):Nat:=(mix c 9871 6).toNat
def Jc (ns:List Int) (c:Int) (free:Bool):List Str:=bound (body ns c (QL c) free)++[(words ns).getD 0 "",(words ns).getLastD ""]
def B8 (ns:List Int) (c:Int) (free:Bool):Bool:= !free && decide (0 < QL c) && decide ((body ns c (QL c) free).length < 4) && decide (mix c 9859 3=0)
def Zm (c:Int):Nat:=(mix c 9857 (QL c)).toNat
def Od (ns:List Int) (c:Int) (free:Bool):At:=⟨kd ns (Zm c),(List.range (size ns (Zm c))).map λ(j:Nat)=>pick (c+3+j) (Jc ns c free)⟩
def Wg (ns:List Int) (c:Int) (free:Bool):List Li :=
 let b:=(body ns c (QL c) free).map λa=>Li.mk true a
 if B8 ns c free then b.insertIdx (mix c 9851 (b.length+1)).toNat ⟨false,Od ns c free⟩ else b
def rule (ns:List Int) (c:Int) (free:Bool):Ru:=⟨⟨kd ns (QL c),(List.range (size ns (QL c))).map λ(j:Nat)=>pick (c+17 * j) (Jc ns c free)⟩,Wg ns c free⟩
theorem Z7 (x y:Str):signs (x++y)=signs x++signs y:=by
 show (Str.append x y).cps.toList=_;simp [Str.append,signs]
theorem UW (x:Str):x.length=(signs x).length:=by
 simp [Str.length,signs]
theorem Uk (x:Str) (i:Nat):signs (sg x i)=[(signs x).getD i 97]:=rfl
theorem Ul (l:List Str):signs (U9 l)=l.flatMap signs:=by simp [signs,U9]
theorem Qfc:signs "zz" =[122,122]:=by decide +kernel
theorem Qrb {l:List Nat} {i:Nat} {a:Nat}:l.getD i a∈l \/ l.getD i a=a:=by
 by_cases h:i < l.length
 ·left
  rw [Qa];simp [h]
 ·right
  rw [Qa];simp [YM h]
theorem Qvj:(97:Nat)∈signs SMALL:=by decide +kernel
theorem OS {x:Str} (h: ∀ c∈signs x,c∈signs SMALL) (i:Nat): ∀ c∈signs (sg x i),c∈signs SMALL:=by
 intro c hc;rw [Uk] at hc;have e:c=(signs x).getD i 97:=by simpa using hc
 subst e;rcases Qrb (l:=signs x) (i:=i) (a:=97) with h1 | h1
 ·exact h _ h1
 ·rw [h1];exact Qvj
theorem firsts2: ∀ c∈signs "abcdef",c∈signs SMALL:=by decide +kernel
theorem Qin: ∀ x∈KEPT,∀ f:Nat,signs x≠[f,122,122]:=by
 intro x hx f h;simp only [KEPT,Qb,O9,JW] at hx;have l3:(signs x).length=3:=by rw [h];rfl
 have g1:(signs x).getD 1 0=122:=by rw [h];rfl
 clear h;rcases hx with rfl | rfl | rfl | rfl | rfl
 ·exact absurd l3 (by decide +kernel)
 ·exact absurd l3 (by decide +kernel)
 ·exact absurd l3 (by decide +kernel)
 ·exact absurd g1 (by decide +kernel)
 ·exact absurd g1 (by decide +kernel)
theorem Qad {x:Str} (h1:1<=(signs x).length) (h2:(signs x).length<=8) (h3: ∀ c∈signs x,c∈signs SMALL) (h4:x ∉ KEPT):WW x=true:=by
 unfold WW;rw [UW];simp only [Qv,QB,Wo,Bool.not_eq_true',decide_eq_false_iff_not];exact ⟨⟨by omega,by omega⟩,h3,h4⟩
theorem Qt0 (c:Int) (k:Nat) {firsts:Str} (hf: ∀ c∈signs firsts,c∈signs SMALL):WW (word c k firsts)=true:=by
 unfold word;simp only;split
 ·have e:signs (sg firsts k++("zz" :Str))=[(signs firsts).getD k 97,122,122]:=by rw [Z7,Uk,Qfc];rfl
  refine Qad (by rw [e];simp) (by rw [e];simp) ?_ (λh=>Qin _ h _ e);intro z hz;rw [Z7,Qy] at hz;rcases hz with hz | hz
  ·exact OS hf k z hz
  ·rw [Qfc] at hz
   revert z;decide +kernel
 ·rename_i hn;have Kr:(signs (U9 ((List.range (mix (c+k) 9929 8).toNat).map λ(j:Nat)=>sg SMALL (mix (c+7 * j * j+k) 9931 26).toNat))).length<=7:=by
   rw [Ul,List.flatMap_map];have: ∀ l:List Nat,(l.flatMap λ(j:Nat)=>signs (sg SMALL (mix (c+7 * j * j+k) 9931 26).toNat)).length=l.length:=by
    intro l
    induction l with
    | nil=>rfl
    | cons a r ih=>rw [Bl,Qs,ih,Uk];simp;omega
   rw [this,Wa];have h1:=Zn (c+k) 9929 (m:=8) (by omega);omega
  refine Qad (by rw [Z7,Qs,Uk];simp) (by rw [Z7,Qs,Uk];simp only [Wu];omega) ?_ (λh=>hn ?_)
  ·intro z hz;rw [Z7,Qy] at hz;rcases hz with hz | hz
   ·exact OS hf k z hz
   ·rw [Ul,Zw] at hz;obtain ⟨y,hy,hz⟩:=hz;obtain ⟨j,_,rfl⟩:=Q6.mp hy;exact OS (λ_ h=>h) _ z hz
  ·simp only [KEPT,Qb,O9,JW] at h ⊢;rcases h with h | h | h | h | h<;>simp [h]
theorem Qmr (ns:List Int):(kinds ns).length=6:=by simp [kinds]
theorem Gz (ns:List Int): ∀ x∈words ns,WW x=true:=by
 intro x hx;obtain ⟨k,_,rfl⟩:=Q6.mp hx;exact Qt0 _ _ firsts2
theorem Y1 (ns:List Int):(words ns).length=3 \/ (words ns).length=4:=by
 simp only [words,Q2,Wa,Ux];split
 ·exact .inr rfl
 ·exact .inl rfl
theorem BK {l:List Str} {i:Nat} {a:Str} (h:i < l.length):l.getD i a∈l:=by
 rw [Qa];simp [h]
theorem UP (ns:List Int) (k:Nat):size ns k<=3:=by
 unfold size;have:[2,1,2,1,0,2].getD k 0<=2:=by
  match k with
  | 0 | 1 | 2 | 3 | 4 | 5=>decide
  | k+6=>simp
 split<;>omega
theorem Qa1 (c:Int) {l:List Str} (h:l≠[]):pick c l∈l:=by
 unfold pick;have hl:0 < l.length:=ZD.mpr h;have h1:=Zn c 9907 (m:=l.length) (by omega);have h2:=Wd c 9907 (m:=l.length) (by omega);exact BK (by omega)
theorem Qcl (c:Int):QL c < 6:=by
 unfold QL;have:=Zn c 9871 (m:=6) (by omega);omega
theorem Qgv (c:Int) {head:Nat} (h:head < 6) (free:Bool) (k:Nat):WU c head free k < 6:=by
 unfold WU;have h1:=Zn (c+31 * k) 9887 (m:=6) (by omega);have h2:=Zn (c+31 * k) 9887 (m:=(head+1:Nat)) (by omega);have e:((head+1:Nat):Int)=(head:Int)+1:=by omega
 rw [e] at h2;cases free
 ·simp only [QG,JI];split<;>omega
 ·simp only [Wt];split<;>omega
abbrev XYZ:List Str:=["X", "Y", "Z"]
def tm (x:Str):Prop:=x∈XYZ \/ WW x=true
theorem Qvl (ns:List Int):WW ((words ns).getD 0 "")=true:=Gz ns _ (BK (by rcases Y1 ns with h | h<;>omega))
theorem Qz6 (ns:List Int):WW ((words ns).getD 1 "")=true:=Gz ns _ (BK (by rcases Y1 ns with h | h<;>omega))
theorem Qz5 (ns:List Int):WW ((words ns).getLastD "")=true:=by
 refine Gz ns _ ?_;have Kn:words ns≠[]:=λh=>by rcases Y1 ns with z | z<;>simp [h] at z
 rw [List.getLastD_eq_getLast?,List.getLast?_eq_some_getLast Kn];exact List.getLast_mem Kn
theorem Qnk (ns:List Int) (c:Int) (head:Nat) (free:Bool) (k:Nat): ∀ t∈(Zt ns c head free k).ts,tm t:=by
 intro t ht;obtain ⟨j,_,rfl⟩:=Q6.mp ht;have:=Qa1 (c+13 * k+5 * j) (l:=["X", "Y", "Z", "X", "Y",(words ns).getD 0 "",(words ns).getD 1 ""]) (by simp);simp only [Qb,O9,JW] at this;rcases this with h | h | h | h | h | h | h
 ·exact .inl (by rw [h];decide +kernel)
 ·exact .inl (by rw [h];decide +kernel)
 ·exact .inl (by rw [h];decide +kernel)
 ·exact .inl (by rw [h];decide +kernel)
 ·exact .inl (by rw [h];decide +kernel)
 ·exact .inr (by rw [h];exact Qvl ns)
 ·exact .inr (by rw [h];exact Qz6 ns)
theorem Qb1 (ns:List Int) (c:Int) (head:Nat) (free:Bool) (k:Nat):(Zt ns c head free k).ts.length<=3:=by
 simp only [Zt,Q2,Wa];exact UP _ _
theorem Qb0 (ns:List Int) (c:Int) (head:Nat) (free:Bool):(body ns c head free).length<=3:=by
 simp only [body,Q2,Wa];have:=Zn c 9901 (m:=4) (by omega);omega
theorem Qsh {acc:List Str} {t x:Str}:x∈Yh acc t ↔ x∈acc \/ (x=t/\t∈XYZ):=by
 unfold Yh;split
 ·rename_i h;simp only [Qy,QQ];constructor
  ·rintro (h1 | h1)
   ·exact .inl h1
   ·exact .inr ⟨h1,h.1⟩
  ·rintro (h1 | h1)
   ·exact .inl h1
   ·exact .inr h1.1
 ·rename_i h;constructor
  ·exact .inl
  ·rintro (h1 | ⟨rfl,h2⟩)
   ·exact h1
   ·exact Gy λz=>h ⟨h2,z⟩
theorem Qcp {x:Str}: ∀ {ts:List Str} {acc:List Str},x∈ts.foldl Yh acc ↔ x∈acc \/ (x∈ts/\x∈XYZ)
 | [],acc=>by simp
 | t::ts,acc=>by
  rw [QY,Qcp,Qsh];simp only [Qb];constructor
  ·rintro ((h | ⟨rfl,h⟩) | ⟨h1,h2⟩)
   ·exact .inl h
   ·exact .inr ⟨.inl rfl,h⟩
   ·exact .inr ⟨.inr h1,h2⟩
  ·rintro (h | ⟨rfl | h1,h2⟩)
   ·exact .inl (.inl h)
   ·exact .inl (.inr ⟨rfl,h2⟩)
   ·exact .inr ⟨h1,h2⟩
theorem Qgt {x:Str}: ∀ {as:List At} {acc:List Str},x∈as.foldl (λacc a=>a.ts.foldl Yh acc) acc ↔ x∈acc \/ (x∈XYZ/\ ∃ a∈as,x∈a.ts)
 | [],acc=>by simp
 | a::as,acc=>by
  rw [QY,Qgt,Qcp];simp only [Qb,exists_eq_or_imp];constructor
  ·rintro ((h | ⟨h1,h2⟩) | ⟨h1,h2⟩)
   ·exact .inl h
   ·exact .inr ⟨h2,.inl h1⟩
   ·exact .inr ⟨h1,.inr h2⟩
  ·rintro (h | ⟨h1,h2 | h2⟩)
   ·exact .inl (.inl h)
   ·exact .inl (.inr ⟨h2,h1⟩)
   ·exact .inr ⟨h1,h2⟩
theorem Qnd {x:Str} {as:List At}:x∈bound as ↔ x∈XYZ/\ ∃ a∈as,x∈a.ts:=by
 unfold bound;rw [Qgt]
 simp
theorem Qbl {ns:List Int} {c:Int} {free:Bool} {t:Str} (h:t∈Jc ns c free):WW t=true \/ (t∈XYZ/\ ∃ a∈body ns c (QL c) free,t∈a.ts):=by
 unfold Jc at h;rw [Qy] at h;rcases h with h | h
 ·exact .inr (Qnd.mp h)
 ·simp only [Qb,O9,JW] at h;rcases h with h | h
  ·exact .inl (by rw [h];exact Qvl ns)
  ·exact .inl (by rw [h];exact Qz5 ns)
theorem YU (ns:List Int) (c:Int) (free:Bool):Jc ns c free≠[]:=by
 unfold Jc
 simp
theorem BV {ns:List Int} {c:Int} {free:Bool} {t:Str} (h:t∈Jc ns c free):tm t:=by
 rcases Qbl h with h | h
 ·exact .inr h
 ·exact .inl h.1
theorem Qmh (c:Int) (h:0 < QL c):Zm c < 6:=by
 unfold Zm;have h1:=Zn c 9857 (m:=QL c) (by omega);have h2:=Qcl c;omega
theorem Qdv {ns:List Int} {c:Int} {free:Bool} {l:Li} (h:l∈Wg ns c free) :
  (∃ a∈body ns c (QL c) free,l=⟨true,a⟩) \/ (B8 ns c free=true/\l=⟨false,Od ns c free⟩):=by
 unfold Wg at h;simp only at h;split at h
 ·rename_i hn;have hm:l=⟨false,Od ns c free⟩ \/ l∈(body ns c (QL c) free).map λa=>Li.mk true a:=by
   generalize ((body ns c (QL c) free).map λa=>Li.mk true a)=b at h ⊢
   by_cases hi:(mix c 9851 (b.length+1)).toNat<=b.length
   ·exact (List.mem_insertIdx hi).mp h
   ·rw [List.insertIdx_of_length_lt (by omega)] at h;exact .inr h
  rcases hm with hm | hm
  ·exact .inr ⟨hn,hm⟩
  ·obtain ⟨a,ha,rfl⟩:=Q6.mp hm;exact .inl ⟨a,ha,rfl⟩
 ·obtain ⟨a,ha,rfl⟩:=Q6.mp h;exact .inl ⟨a,ha,rfl⟩
theorem GU (ns:List Int) (c:Int) (free:Bool):(Wg ns c free).length<=4:=by
 have h:=Qb0 ns c (QL c) free;unfold Wg;simp only;split
 ·have: ∀ (l:List Li) (i:Nat) (x:Li),(l.insertIdx i x).length<=l.length+1:=by
   intro l i x;rw [List.length_insertIdx];split<;>omega
  refine Qu (this _ _ _) ?_;rw [Q2];omega
 ·rw [Q2];omega
theorem Qis {ns:List Int} {c:Int} {free:Bool} (h:B8 ns c free=true):0 < QL c:=by
 unfold B8 at h;simp only [Qv,QB] at h;exact h.1.1.2
end RH
namespace L2
open PySem PySem.Spec PyProof.Rows
def Fd (K:W.Frag) (mg:Str->Option Value) (x:Str) (st:Stmt) (ps:List Str):Prop :=
 ∃ f fd,mg x=some (.ref f)/\Fun K x x st f fd/\Binds K fd ps []
def Pr (P:Program) (w:World) (K:W.Frag) (mg:Str->Option Value) (base:Heap) (x:Str) (k:Nat) (ps:List Str) (sp:Sp):Prop :=
 ∃ f fd,mg x=some (.ref f)/\W.keepIn K (.ref f)=true/\Binds K fd ps []/\FnOk P w K mg base CX0 k f fd ps sp
section
variable {P:Program} {w:World} {K:W.Frag} {mg:Str->Option Value} {base:Heap}
theorem G0 {x:Str} {st:Stmt} {N ps:List Str} {k:Nat} {R:List D->D->Prop} (F:Fd K mg x st ps) (S:Vf N ps (Vs st)) (hl:ps.length<=N.length)
  (hb: ∀ (f:Addr) (Km:Value) (A:Around) (outer:List Env) (s:Shared) (H:Hp) (E:XK) (ds:List D) (d:D),Room k (A.deeper (envOfC x (Vs st) s.heap.objs.size f Km))->R ds d->ds.length=ps.length ->
   QOs (Ga CX0 P w K mg base N x (Vs st) f Km A outer s H E).nox H (args ds N.length) (JM st) (.ret d)):Pr P w K mg base x (k+1) ps (spD K ps.length R):=by
 obtain ⟨f,fd,hm,hf,hbi⟩:=F;exact ⟨f,fd,hm,hf.kp,hbi,Qyn hf S hl (hb f)⟩
theorem Qe0 {x:Str} {st:Stmt} {N ps:List Str} {k:Nat} {R:List D->List D->Prop} (F:Fd K mg x st ps) (S:Vf N ps (Vs st)) (hl:ps.length<=N.length)
  (hb: ∀ (f:Addr) (Km:Value) (A:Around) (outer:List Env) (s:Shared) (H:Hp) (E:XK) (ds es:List D),Room k (A.deeper (envOfC x (Vs st) s.heap.objs.size f Km))->R ds es->ds.length=ps.length ->
   QOs (Ga CX0 P w K mg base N x (Vs st) f Km A outer s H E).nox H (args ds N.length) (JM st) (.retL es)):Pr P w K mg base x (k+1) ps (spL K ps.length R):=by
 obtain ⟨f,fd,hm,hf,hbi⟩:=F;exact ⟨f,fd,hm,hf.kp,hbi,Jbd hf S hl (hb f)⟩
end
section
variable {X:Cx} {ρ:List (Option D)} {e:Expr} {es:List Expr} {d:D} {ds rs:List D} {pos:Pos}
theorem Zc {k n:Nat} {ps:List Str} {R:List D->D->Prop} {x:Str} {p:Pos} (F:Pr X.prog X.w X.K X.mg X.base x k ps (spD X.K n R)) (hr:Room k X.A) (ha:PDs X ρ (e::es) ds) (hR:R ds d) (hn:ds.length=n:=by rfl) (hg:Gl X x:=by rfl) (hdb:(x == ("__debug__" :Str))=false:=by decide)
  (he:starEach (e::es) X.env=(false,eval e X.env)::starEach es X.env:=by rfl) (hpl:(backTo pos (starEach es X.env)).any (·.1)=false:=by rfl):PD X ρ (.Call (.Name x p) (e::es) [] pos) d:=by
 obtain ⟨f,fd,hm,hk,hb,F⟩:=F;exact Qz0 F hr hm hk hb ha hn hR hg hdb he hpl
theorem Ya {k n:Nat} {ps:List Str} {R:List D->List D->Prop} {x:Str} {p:Pos} (F:Pr X.prog X.w X.K X.mg X.base x k ps (spL X.K n R)) (hr:Room k X.A) (ha:PDs X ρ (e::es) ds) (hR:R ds rs) (hn:ds.length=n:=by rfl) (hg:Gl X x:=by rfl) (hdb:(x == ("__debug__" :Str))=false:=by decide)
  (he:starEach (e::es) X.env=(false,eval e X.env)::starEach es X.env:=by rfl) (hpl:(backTo pos (starEach es X.env)).any (·.1)=false:=by rfl):PDL X ρ (.Call (.Name x p) (e::es) [] pos) rs:=by
 obtain ⟨f,fd,hm,hk,hb,F⟩:=F;exact Qv9 F hr hm hk hb ha hn hR hg hdb he hpl
end
def Qfy (a c:String):Option Bool:=if (Value.type a == Value.type c)=true then some true else if W.kitMeta c=true then (fastBuiltinMro a).map (·.contains (Value.type c)) else none
theorem Qv0 (K:W.Frag) (a c:String):W.kitOne K (.type a) (.type c)=Qfy a c:=rfl
def Jab:D->Bool | .bl _=>true | _=>false
theorem Qqt (K:W.Frag) (d:D):W.kitOne K (.type (tyD d)) (.type "bool")=some (Jab d):=by
 rw [Qv0];have hNoneType:Qfy "NoneType" "bool" =some false:=by decide +kernel
 have hbool:Qfy "bool" "bool" =some true:=by decide +kernel
 have hint:Qfy "int" "bool" =some false:=by decide +kernel
 have hstr:Qfy "str" "bool" =some false:=by decide +kernel
 have htuple:Qfy "tuple" "bool" =some false:=by decide +kernel
 have hlist:Qfy "list" "bool" =some false:=by decide +kernel
 have hdict:Qfy "dict" "bool" =some false:=by decide +kernel
 cases d
 ·exact hNoneType
 ·exact hbool
 ·exact hint
 ·exact hstr
 ·exact htuple
 ·exact hlist
 ·exact hdict
 ·rename_i t _ _;cases t
  ·exact hdict
  ·exact hlist
  ·exact hlist
theorem Qjc:bootBuiltins "bool" =some (.type "bool"):=by decide +kernel
section
variable {X:Cx} {ρ:List (Option D)} {ds:List D} {pos:Pos}
theorem Jbf {a b:Expr} {rest:List Expr} {k k2:Bool} (ha:PD X ρ a (.bl k)) (hb:k=true->PD X ρ (.BoolOp .And (b::rest) pos) (.bl k2)):PD X ρ (.BoolOp .And (a::b::rest) pos) (.bl (k && k2)):=by
 cases k with
 | true=>rw [Bq];exact Qrt ha hb (λh=>nomatch h)
 | false=>rw [Qwl];exact Qrt ha (λh=>nomatch h) (λ_=>rfl)
theorem Gq {a b:Expr} {rest:List Expr} {k k2:Bool} (ha:PB X ρ a k) (hb:k=true->PWB X ρ (.BoolOp .And (b::rest) pos) k2):PWB X ρ (.BoolOp .And (a::b::rest) pos) (k && k2):=by
 cases k with
 | true=>rw [Bq];exact Qwb ha hb (λh=>nomatch h)
 | false=>rw [Qwl];exact Qwb ha (λh=>nomatch h) (λ_=>rfl)
theorem Jas {a b:Expr} {rest:List Expr} {k k2:Bool} (ha:PB X ρ a k) (hb:k=false->PWB X ρ (.BoolOp .Or (b::rest) pos) k2):PWB X ρ (.BoolOp .Or (a::b::rest) pos) (k || k2):=by
 cases k with
 | false=>rw [Qhb];exact Qvg ha hb (λh=>nomatch h)
 | true=>rw [Bool.true_or];exact Qvg ha (λh=>nomatch h) (λ_=>rfl)
theorem Qru {elt iter:Expr} {x:Str} {px cp p:Pos} {scope:Scope} {q:D->Bool} (hc:X.calm=true) (hm:X.mg "all" =none) (hi:PDI X ρ (.Name x px) iter ds) (hz:ds.length<=sizeLine)
  (he: ∀ d∈ds,∀ cl C s H ex,PD (cxC X x scope cl C s H ex) (some d::ρ) elt (.bl (q d)))
  (hok:WI X.N X.env.scope x scope=true:=by rfl) (hs: ∀ x,foldedSetIterable iter X.env x=pure x:=by intro _;rfl) (hg:Gl X "all" :=by rfl) :
  PD X ρ (.Call (.Name "all" p) [.ListComp elt [⟨.Name x px,iter,[],0⟩] scope cp] [] pos) (.bl (ds.all q)):=by
 have h:=(ZK (pos:=cp) hc hi hz he hok hs).pd;have e:ds.map (λd=>D.bl (q d))=(ds.map q).map D.bl:=by rw [Qx];rfl
 rw [e] at h;have h2:=Jap (p:=p) (pos:=pos) hc hm h hg rfl;have e2:(ds.map q).all id=ds.all q:=by rw [List.all_map];rfl
 rw [e2] at h2;exact h2
end
def AL:List Sl->Prop
 | []=>True
 | .any d::r=>LF d=true/\AL r
 | _::r=>AL r
theorem AL.h: ∀ {τ:List Sl},AL τ-> ∀ (j:Nat) (d:D),τ[j]? =some (.any d)->LF d=true
 | .any d::r,h,0,e,hj=>by
  have:d=e:=by simpa using hj
  subst this;exact h.1
 | .no::r,h,0,e,hj=>by simp at hj
 | .arg d::r,h,0,e,hj=>by simp at hj
 | .own d::r,h,0,e,hj=>by simp at hj
 | .odc k d::r,h,0,e,hj=>by simp at hj
 | .ftp d::r,h,0,e,hj=>by simp at hj
 | .flt d::r,h,0,e,hj=>by simp at hj
 | .odx a b d::r,h,0,e,hj=>by simp at hj
 | .any d::r,h,j+1,e,hj=>AL.h (τ:=r) h.2 j e (by simpa using hj)
 | .no::r,h,j+1,e,hj=>AL.h (τ:=r) h j e (by simpa using hj)
 | .arg d::r,h,j+1,e,hj=>AL.h (τ:=r) h j e (by simpa using hj)
 | .own d::r,h,j+1,e,hj=>AL.h (τ:=r) h j e (by simpa using hj)
 | .odc k d::r,h,j+1,e,hj=>AL.h (τ:=r) h j e (by simpa using hj)
 | .ftp d::r,h,j+1,e,hj=>AL.h (τ:=r) h j e (by simpa using hj)
 | .flt d::r,h,j+1,e,hj=>AL.h (τ:=r) h j e (by simpa using hj)
 | .odx a b d::r,h,j+1,e,hj=>AL.h (τ:=r) h j e (by simpa using hj)
inductive WkI:List Sl->List Sl->Prop where
 | nil:WkI [] []
 | keep {s:Sl} {τ τ':List Sl}:WkI τ τ'->WkI (s::τ) (s::τ')
 | no {s:Sl} {τ τ':List Sl}:WkI τ τ'->WkI (s::τ) (.no::τ')
 | any {d:D} {τ τ':List Sl}:WkI τ τ'->WkI (.arg d::τ) (.any d::τ')
theorem WkI.wk {τ τ':List Sl} (h:WkI τ τ'):Wk τ τ':=by
 induction h with
 | nil=>exact .refl _
 | keep _ ih =>
  refine ⟨by simp [ih.1],λi s e=> ?_⟩;cases i with
  | zero=>exact .inr (.inl e)
  | succ i=>exact ih.2 i s (by simpa using e)
 | no _ ih =>
  refine ⟨by simp [ih.1],λi s e=> ?_⟩;cases i with
  | zero=>exact .inl (by simpa using e.symm)
  | succ i=>exact ih.2 i s (by simpa using e)
 | @any d _ _ _ ih =>
  refine ⟨by simp [ih.1],λi s e=> ?_⟩;cases i with
  | zero =>
   have:s= .any d:=by simpa using e.symm
   exact .inr (.inr ⟨d,this,rfl⟩)
  | succ i=>exact ih.2 i s (by simpa using e)
theorem YL {α:Type} {l:List α} {i:Int} (d:α) (h0:0<=i) (h1:i < l.length):atI l i=some (l.getD i.toNat d):=by
 have hj:i.toNat < l.length:=by omega
 have e:l[i.toNat]? =some (l.getD i.toNat d):=by
  rw [Qa];simp [hj]
 have:=Zd e;rwa [Int.toNat_of_nonneg h0] at this
theorem Qio (ss:List Str):Txt.join "" ss=RH.U9 ss:=by
 have go: ∀ (l:List Str) (acc:Array Nat),(l.foldl (λacc p=>acc++(Str.ofString "").cps++p.cps) acc)=acc++(l.flatMap λp=>p.cps.toList).toArray:=by
  intro l
  induction l with
  | nil=>intro acc;simp
  | cons p r ih =>
   intro acc;have e:(Str.ofString "").cps= #[]:=by decide +kernel
   rw [QY,ih,e];apply Array.ext'
   simp
 show (⟨((ss.drop 1).foldl (λacc p=>acc++(Str.ofString "").cps++p.cps) (ss.headD Str.empty).cps)⟩:Str)=⟨(ss.flatMap RH.signs).toArray⟩;rw [go];cases ss with
 | nil=>rfl
 | cons s r=>simp [RH.signs]
theorem Y6 (lo:Int) (n:Nat):(W4 lo n).length=n:=by simp [W4]
theorem Bf {ds:List D}:BP (.lst ds)=some ds.length:=rfl
section
variable {X:Cx} {ρ:List (Option D)} {a b e:Expr} {d:D} {ds as bs:List D} {pos:Pos}
theorem Qw8 (ha:PD X ρ a (.tup ds)) (he: ∀ whole,isTrue a X.env whole=(do let v<-whole;standAt a.pos;holding [v] (truthy v)):=by intro _;rfl):PB X ρ a (!ds.isEmpty) :=
 ⟨(Qoz ha.pe he).imp λσ H Q q=>⟨q.1,λv H1 s1 i1=>by
  obtain ⟨p,vs,rfl,hq,r⟩:=JB i1;have hl:=r.length;refine ⟨!ds.isEmpty,.inr (.inl ⟨vs,hq,?_⟩),q.2 H1 s1⟩;cases ds<;>cases vs<;>simp at hl ⊢⟩⟩
end
end L2
namespace L2
open PySem PySem.Spec PyProof.Rows
section
variable {X:Cx} {ρ:List (Option D)} {a b e:Expr} {d:D} {ds as bs:List D} {pos:Pos}
theorem Quz: ∀ {Ku:List (Key×V)} {vs:List (Key×Value)},KV Ku vs-> ∀ {k:Key} {v:V} {u:Value},RelV v u->KV (Ku++[(k,v)]) (vs++[(k,u)]):=λ{Ku vs} r {k v u} h=>Paired.snoc r ⟨rfl,h⟩
def Qza:TE:=λ_ H Q=> ∀ p,H p=none->Q (.ref p) (upd H p (.dK []))
theorem Qtr:PE X (.Dict [] [] pos) Qza:=λKz s σ H Q I h=>by
 have big:sysModules < s.heap.objs.size:=Nat.lt_trans (by decide) (I.mod.glob.keeps I.bk).lt;exact wpAny_Dict_empty ⟨.ref s.heap.objs.size,_,I.laid (a:=s.heap.objs.size) (o:= .dK []) (t':=s.toks) (λ_ _ q=>Q1 _ q) (Q5 _) ⟨Qz _,Jm.mpr (QS (Qp big)),[],.nil,Heap.DictOf.new _⟩,rfl,h _ (I.hok.fresh (Q5 _))⟩
end
end L2
namespace L2
open PySem PySem.Spec PyProof.Rows PySem.Builtin PySem.Builtin.Str
section
variable {X:Cx} {ρ:List (Option D)} {a b e o:Expr} {d:D} {ds:List D} {pos:Pos}
theorem Qrm {x:Str} {lo hi:Option Expr} {ol oh:Option Int} {p2:Pos} (ha:PD X ρ a (.str x)) (hz:x.length<=sizeLine) (hl:PDO X ρ lo ol) (hu:PDO X ρ hi oh):PD X ρ (.Subscript a (.Slice lo hi none p2) pos) (.str (Txt.slice x ol oh)) :=
 ⟨(Qfp Qwy ha.pe hl.pe hu.pe).imp λσ H Q q=>⟨q.1,λv H1 s1 i1=>⟨q.1.same s1,λH2 s2=>⟨(q.1.same s1).same s2,λH3 s3=>by
  cases JC i1;exact ⟨x,rfl,hz,q.2 _ H3 ((s1.trans s2).trans s3) (ZG _)⟩⟩⟩⟩⟩
theorem Qgx {i j:Str} (ha:PD X ρ a (.str i)) (hb:PD X ρ b (.str j)):PB X ρ (.Compare a [.NotEq] [b] pos) (!decide (i=j)):=by
 have h:=Ua (pos:=pos) Qpg ha hb (Qpr (x:= .str i) (y:= .str j) rfl rfl rfl) (nomark _);have e:decide (V.str i=V.str j)=decide (i=j):=by
  rw [Jd,QB,QB];exact ⟨λh=>by injection h,λh=>by rw [h]⟩
 rwa [e] at h
end
end L2
namespace L2
open PySem PySem.Spec PyProof.Rows
section
variable {X:Cx} {H₀:Hp} {τ:List Sl} {ds:List D} {pos:Pos}
theorem Qxt {us vs:List D} (hk:keyOks us=true) (hk2:keyOks vs=true) (hu:X.A.units+dep (.tup us)+dep (.tup vs) < cLine):OpR X (compareOp .Eq) (λx y H Q=>Is X.K H (.tup us) x/\Is X.K H (.tup vs) y/\Q (.bl (decide (us=vs))) H):=by
 intro Kz s σ H x y vx vy Q I rx ry h;obtain ⟨i1,i2,q⟩:=h;obtain ⟨p,xs,rfl,q1,r1⟩:=JB i1;obtain ⟨p',ys,rfl,q2,r2⟩:=JB i2;cases (show vx=Value.ref p from rx);cases (show vy=Value.ref p' from ry);obtain ⟨Kv,v1,t1,_⟩:=I.tuple q1;obtain ⟨its2,v2,t2,_⟩:=I.tuple q2;have c1:=Va.conc I (YG hk) r1 v1;have c2:=Va.conc I (YG hk2) r2 v2;have l1:=c1.len;have l2:=c2.len;have z:=SeqAt.RcAt.tuples (A:=X.A) (show s.heap.IsTuple p Kv.toArray from t1) (show s.heap.IsTuple p' its2.toArray from t2) (by omega) (Oz us vs c1 c2 (by simp only [dep] at hu;show X.A.units+1+deps us+deps vs < cLine;omega));have e:((List.range (min Kv.toArray.size its2.toArray.size)).all (λj=>eqD (us.getD j .non) (vs.getD j .non)) && Kv.toArray.size == its2.toArray.size)=decide (us=vs):=by
  have h1:eqD (.tup us) (.tup vs)=decide (D.tup us=D.tup vs):=Oy (by simpa [keyOk] using hk) (by simpa [keyOk] using hk2);rw [eqD,Ox,l1,l2] at h1;have h2:decide (D.tup us=D.tup vs)=decide (us=vs):=by
   rw [Jd,QB,QB];exact ⟨λh=>by injection h,λh=>by rw [h]⟩
  rw [h2] at h1;rw [<- h1]
  simp
 refine z X.prog X.w _ _ ⟨.bl (decide (us=vs)),H,I,?_,q⟩;show Value.bool _=Value.bool _;rw [e]
end
theorem Br: ∀ {ks:List Str} {vs:List V} {k:Str},k ∉ ks->Uh (W3 ks vs) (.inr k)=none
 | [],_,_,_=>rfl
 | _::_,[],_,_=>rfl
 | a::ks,v::vs,k,h=>by
  have e:W3 (a::ks) (v::vs)=(.inr a,v)::W3 ks vs:=rfl;rw [e,Ug (λz=>h (by injection z with z;rw [z];exact Q8))];exact Br λz=>h (Q7 _ z)
theorem UL: ∀ {ks:List Str} {vs:List V} {k:Str} {v:V} {i:Nat},ks.Nodup->ks[i]? =some k->vs[i]? =some v->Uh (W3 ks vs) (.inr k)=some v
 | [],_,_,_,_,_,h,_=>by simp at h
 | _::_,[],_,_,_,_,_,h=>by simp at h
 | a::ks,u::vs,k,v,0,_,h1,h2=>by
  have e1:a=k:=by simpa using h1
  have e2:u=v:=by simpa using h2
  subst e1;subst e2;exact GE rfl
 | a::ks,u::vs,k,v,i+1,nd,h1,h2=>by
  have hm:k∈ks:=Q9 (i:=i) (by simpa using h1);have e:W3 (a::ks) (u::vs)=(.inr a,u)::W3 ks vs:=rfl;have nd':=J5.mp nd;rw [e,Ug (λz=>nd'.1 (by injection z with z;rw [z];exact hm))];exact UL nd'.2 (by simpa using h1) (by simpa using h2)
def WB (ks:List Str) (k:Str):List Str:=if k∈ks then ks else ks++[k]
def putVs {α:Type}:List Str->List α->Str->α->List α
 | a::ks,v::vs,k,x=>if a=k then x::vs else v::putVs ks vs k x
 | _,_,_,x=>[x]
theorem Gi {a k:Str} {ks:List Str} (h:a≠k):WB (a::ks) k=a::WB ks k:=by
 unfold WB
 by_cases hm:k∈ks
 ·rw [Qj hm,Qj (Q7 _ hm)]
 ·rw [Qg hm,Qg (λz=>(Qb.mp z).elim (λe=>h e.symm) hm)];rfl
theorem Qfl {ks:List Str} {k:Str} (h:ks.Nodup):(WB ks k).Nodup:=by
 unfold WB;split
 ·exact h
 ·rename_i hn;exact nd_snoc' h hn
where
 nd_snoc': ∀ {l:List Str} {k:Str},l.Nodup->k ∉ l->(l++[k]).Nodup:=λh hk=>by
  rw [Jx];exact ⟨h,by simp,λx hx y hy=>by rintro rfl;exact hk (by simpa using (QQ.mp hy) ▸ hx)⟩
theorem YA {α:Type}: ∀ {ks:List Str} {vs:List α} {k:Str} {x:α},ks.length=vs.length->(WB ks k).length=(putVs ks vs k x).length
 | [],[],k,x,_=>by simp [WB,putVs]
 | a::ks,v::vs,k,x,h=>by
  rw [putVs]
  by_cases e:a=k
  ·rw [Qj e,e];have:WB (k::ks) k=k::ks:=Qj Q8;rw [this];simpa using h
  ·rw [Qg e,Gi e,Qq,Qq,YA (by simpa using h)]
 | [],_::_,_,_,h=>by simp at h
 | _::_,[],_,_,h=>by simp at h
theorem Qm5 {Ku:List (Key×V)} {p:Key×V} {k:Key} {x:V} (h:p.1≠k):putK (p::Ku) k x=p::putK Ku k x:=by
 unfold putK;rw [ZV,QM h,Qhb];split
 ·rw [Qk,Qg h]
 ·rfl
theorem Qqh {Ku:List (Key×V)} {k:Key} {x:V} (h: ∀ p∈Ku,p.1≠k):Ku.map (λkv=>if kv.1=k then (kv.1,x) else kv)=Ku:=by
 have:Ku.map (λkv=>if kv.1=k then (kv.1,x) else kv)=Ku.map id:=QV λp hp=>Qg (h p hp)
 rw [this,Qsp]
theorem Qex: ∀ {ks:List Str} {vs:List V} {k:Str} {x:V},ks.length=vs.length->ks.Nodup->W3 (WB ks k) (putVs ks vs k x)=putK (W3 ks vs) (.inr k) x
 | [],[],k,x,_,_=>rfl
 | a::ks,v::vs,k,x,h,nd=>by
  have e:W3 (a::ks) (v::vs)=(.inr a,v)::W3 ks vs:=rfl;have nd':=J5.mp nd;rw [putVs,e]
  by_cases hk:a=k
  ·subst hk;have e2:WB (a::ks) a=a::ks:=Qj Q8;have e3:putK ((.inr a,v)::W3 ks vs) (.inr a) x=(.inr a,x)::W3 ks vs:=by
    unfold putK;rw [ZV,Jz (rfl),Bool.true_or,Qj rfl,Qk,Qj rfl,Qqh];intro p hp z;obtain ⟨q,hq,rfl⟩:=Q6.mp hp;have hz:q.1=a:=by injection z
    exact nd'.1 (by rw [<- hz];exact (Z4 hq).1)
   rw [Qj rfl,e2,e3];rfl
  ·rw [Qg hk,Gi hk,Qm5 (p:=(Sum.inr a,v)) (λz=>hk (by injection z)),<- Qex (by simpa using h) nd'.2];rfl
 | [],_::_,_,_,h,_=>by simp at h
 | _::_,[],_,_,h,_=>by simp at h
theorem Va.put {K:W.Frag} {H:Hp}: ∀ {ks:List Str} {ds:List D} {vs:List V} {k:Str} {d:D} {v:V},Va K H ds vs->Is K H d v->Va K H (putVs ks ds k d) (putVs ks vs k v)
 | [],_,_,_,_,_,_,i=>by simp only [putVs];exact Vg i QR
 | a::ks,[],vs,k,d,v,h,i=>by
  rw [Va] at h;subst h;simp only [putVs];exact Vg i QR
 | a::ks,d'::ds,vs,k,d,v,h,i=>by
  rw [Va] at h;obtain ⟨v',r,rfl,q,t⟩:=h;simp only [putVs];split
  ·exact Vg i t
  ·exact Vg q (Va.put t i)
theorem Qlc: ∀ {ks:List Str} {ds:List D} {k:Str} {d:D},LFs ds=true->LF d=true->LFs (putVs ks ds k d)=true
 | [],_,_,_,_,i=>by simp [putVs,LFs,i]
 | a::ks,[],k,d,h,i=>by simp [putVs,LFs,i]
 | a::ks,d'::ds,k,d,h,i=>by
  rw [LFs,Qv] at h;simp only [putVs];split
  ·rw [LFs,i,h.2];rfl
  ·rw [LFs,h.1,Qlc h.2 i];rfl
theorem OK (ks:List Str) (vs:List V) (h:ks.length=vs.length):(W3 ks vs).length=ks.length:=by
 unfold W3;rw [Q2,WA];omega
section
variable {X:Cx} {ρ:List (Option D)} {a b e:Expr} {d:D} {ds:List D} {ks:List Str} {k:Str} {fz:Bool} {pos:Pos}
theorem Qrp {i:Nat} (hu:X.A.units+1 < cLine) (ha:PD X ρ a (.dct fz (ks.map .str) ds)) (hb:PD X ρ b (.str k)) (hk:ks[i]? =some k) (hd:ds[i]? =some d) (hs:NoSl b:=by intro _ _;rfl):PD X ρ (.Subscript a b pos) d :=
 ZA (Qtv hu ha.pe hb.pe hs) λσ H Q he q=>⟨he,λv H1 s1 i1=>⟨he.same s1,λu H2 s2 i2=>by
  cases JC i2;obtain ⟨p,vs,rfl,dk,ia⟩:=Qee (i1.same s2);obtain ⟨w,e1,e2⟩:=ia.get hd;exact ⟨p,w,rfl,.inl ⟨_,.inr k,dk.rd,rfl,(UL dk.nd hk e1).symm⟩,q w H2 (s1.trans s2) e2⟩⟩⟩
theorem Qgi {f:Expr} {ap cp:Pos} (hu:X.A.units+1 < cLine) (ha:PD X ρ a (.dct fz (ks.map .str) ds)) (hb:PD X ρ b (.str k)) (hf:PD X ρ f d) (hk:k ∉ ks) (m:M2 X a "get" ap b f cp:=by exact ⟨rfl,rfl,rfl,rfl⟩):PD X ρ (.Call (.Attribute a "get" ap) [b,f] [] cp) d :=
 ZA (Qfq hu ha.pe hb.pe hf.pe m) λσ H Q he q=>⟨he,λv H1 s1 i1=>by
  obtain ⟨p,vs,rfl,dk,ia⟩:=Qee i1;refine ⟨p,rfl,.inl ⟨_,dk.rd⟩,he.same s1,λu H2 s2 i2=>⟨(he.same s1).same s2,λz H3 s3 i3=> ?_⟩⟩;cases JC i2;exact ⟨none,.inl ⟨_,.inr k,(s3.dk (s2.dk dk)).rd,rfl,(Br hk).symm⟩,q z H3 ((s1.trans s2).trans s3) i3⟩⟩
theorem Qcw {f:Expr} {ap cp:Pos} {i:Nat} {dx:D} (hu:X.A.units+1 < cLine) (ha:PD X ρ a (.dct fz (ks.map .str) ds)) (hb:PD X ρ b (.str k)) (hf:PD X ρ f dx) (hk:ks[i]? =some k) (hd:ds[i]? =some d) (m:M2 X a "get" ap b f cp:=by exact ⟨rfl,rfl,rfl,rfl⟩):PD X ρ (.Call (.Attribute a "get" ap) [b,f] [] cp) d :=
 ZA (Qfq hu ha.pe hb.pe hf.pe m) λσ H Q he q=>⟨he,λv H1 s1 i1=>by
  obtain ⟨p,vs,rfl,dk,ia⟩:=Qee i1;refine ⟨p,rfl,.inl ⟨_,dk.rd⟩,he.same s1,λu H2 s2 i2=>⟨(he.same s1).same s2,λz H3 s3 i3=> ?_⟩⟩;cases JC i2;obtain ⟨w,e1,e2⟩:=ia.get hd;exact ⟨some w,.inl ⟨_,.inr k,(s3.dk (s2.dk dk)).rd,rfl,(UL dk.nd hk e1).symm⟩,q w H3 ((s1.trans s2).trans s3) ((e2.same s2).same s3)⟩⟩
def rdM (K:W.Frag) (ρ:List (Option D)) (ks:List Str) (ds:List D):TE:=λσ H Q=>EnvIs K H σ ρ/\ ∀ p vs H',H p=none->Same H H'->DkAt false H' p ks vs->Va K H' ds vs->Q (.ref p) H'
structure PDM (X:Cx) (ρ:List (Option D)) (e:Expr) (ks:List Str) (ds:List D):Prop where
 pe:PE X e (rdM X.K ρ ks ds)
theorem Qrj:PDM X ρ (.Dict [] [] pos) [] []:=⟨Qtr.imp λσ H Q q p hp=>q.2 p [] _ hp (Same.upd hp) ⟨rfl,JA,Vu⟩ QR⟩
theorem Qyr (ha:PD X ρ a (.str k)) (hb:PD X ρ b d) (hl:LF d=true):PDM X ρ (.Dict [some a] [b] pos) [k] [d] :=
 ⟨(Qke (OZ ha.pe hb.pe Qk9) rfl rfl (by simp) (by simp)).imp λσ H Q q p hp=>by
  refine ⟨q.1.same (Same.upd hp),λv H1 s1 i1=>⟨(q.1.same (Same.upd hp)).same s1,λu H2 s2 i2=> ?_⟩⟩;cases JC i1;have e2:H2 p=some (.dK []):=s2 _ _ (s1 _ _ Vu);refine ⟨e2,[(.inr k,u)],rfl,by simp,?_⟩;have ts:TSame H2 (upd H2 p (.dK [(Sum.inr k,u)])):=TSame.dk e2;refine q.2 p [u] _ hp (λc o z=> ?_) ⟨rfl,by simp,Vu⟩ (Vg (i2.tsame ts hl) QR);have hc:c≠p:=QH z hp;show upd H2 p _ c=_;rw [Qo hc];exact s2 _ _ (s1 _ _ (Same.upd hp _ _ z))⟩
end
section
variable {X:Cx} {H₀:Hp} {τ:List Sl} {e b:Expr} {d:D} {ds:List D} {ks:List Str} {k:Str} {pos:Pos}
theorem EnvO.setDct {K:W.Frag} {H H':Hp} {σ:St} {p:Addr} {vs:List V} (h:EnvO K H₀ H σ τ) (i:Nat) (n:H p=none) (s:Same H H') (hp:DkAt false H' p ks vs) (hl:LFs ds=true) (iv:Va K H' ds vs):EnvO K H₀ H' (σ.set i (some (.ref p))) (τ.set i (.odc ks ds)) :=
 (h.step s).set i ⟨p,vs,rfl,h.same.free n,hp,hl,iv⟩ (λKo e=>nomatch e) λks1 ds1 _ j p' ks' es e t _ z=>by
  cases e;obtain ⟨o,e1,p2,vs2,e2,_,hp2,_⟩:=h.sl j _ t;rw [z] at e1;cases e1;cases e2;have:=hp2.at_;rw [Qg Qn,n] at this;cases this
theorem B3 {i:Nat} {x:Str} {p:Pos} (h:PDM X (dat τ) e ks ds) (hl:LFs ds=true) (hN:X.N.Nodup) (hi:X.N[i]? =some x:=by rfl) (hx:Loc X.env.scope x:=by first | exact QJ rfl | exact QD rfl)
  (hs:swapsWith e (some (.Name x p)) pos.line X.env=pure false:=by rfl) (hf:X.fn x=true \/ X.env.scope.names.lookup x=some .local:=by first | exact .inl rfl | exact .inr rfl):QO X H₀ τ (.Assign [.Name x p] e pos) (.next true (τ.set i (.odc ks ds))) :=
 ⟨(Gj hN hi hx h.pe hs hf).imp λD σ H q=>⟨q.1.env,λp vs H' n s hp iv=>q.2 _ H' s (q.1.setDct i n s hp hl iv)⟩⟩
theorem Qy5 {i:Nat} {x:Str} {p p':Pos} (hu:X.A.units+1 < cLine) (hi:τ[i]? =some (.odc ks ds)) (hb:PD X (dat τ) b (.str k)) (h:PD X (dat τ) e d) (ld:LF d=true) (hl: ∀ (j:Nat) (d:D),τ[j]? =some (.any d)->LF d=true) (hz:ks.length < sizeLine)
  (hN:X.N[i]? =some x:=by rfl) (hv:Vis X.env.scope x:=by first | exact QJ rfl | exact QD (QJ rfl) | exact QD (QD rfl)) (hdb:(x == ("__debug__" :Str))=false:=by decide) (hcd:(x == ("__classdict__" :Str))=false:=by decide)
  (hs:swapsWith e (some (.Subscript (.Name x p) b p')) pos.line X.env=pure false:=by rfl) :
  QO X H₀ τ (.Assign [.Subscript (.Name x p) b p'] e pos) (.next false (τ.set i (.odc (WB ks k) (putVs ks ds k d)))):=by
 refine ⟨(Qtm hu (Wr hN hv hdb hcd) hb.pe h.pe hs).imp λD σ H q=>⟨q.1.env,λv H1 s1 i1=> ?_⟩⟩;obtain ⟨o,e1,p,vs,rfl,n,hp,lf,ia⟩:=(q.1.step s1).sl i _ hi;refine ⟨_,e1,q.1.env.same s1,λu H2 s2 i2=> ?_⟩;cases JC i2;have hp2:=s2.dk hp;have hp':H2 p=some (.dK (W3 ks vs)):=hp2.at_;refine ⟨p,_,rfl,.inl ⟨W3 ks vs,.inr k,hp',rfl,by rw [OK ks vs hp.len];exact hz,rfl⟩,?_⟩;rw [<- Qex hp.len hp.nd];exact q.2 σ _ ((s1.trans s2).t.trans (TSame.dk hp')) (((q.1.step s1).step s2).mutD hi e1 n hp2 hl (Qlc lf ld) (YA hp.len) (Qfl hp.nd) ((ia.same s2).put (i1.same s2)))
end
end L2
namespace ST
open PySem PySem.SetTable PySem.Spec
section
variable {prog:Program} {w:World} {A:Around} {E:Kf} {s:Shared}
def Qan (w:World) (x:Str×Tok):Int×Value:=(hashStr w x.1,.str x.1 x.2)
def SetS (w:World) (led:Bool) (h:Heap) (a:Addr) (ks:List Str):Prop :=
 ∃ (o:Obj) (es:Array (Int×Value)) (ep:Nat) (t:SetTable) (xs:List (Str×Tok)),h.get? a=some o/\o.ExactSet/\o.data= .set es ep t/\TabOk t es/\es.toList=xs.map (Qan w)/\(xs.map (·.1)).Nodup/\(xs.map (·.1)).Perm ks/\t.led=led
theorem Qg8 {t:SetTable} {es:Array (Int×Value)} (T:TabOk t es) {h:Int} {e:Nat} (hem:(seq t.mask h e).j ∉ t.place.toList) (hl: ∀ m,m < e->(seq t.mask h m).j∈t.place.toList) (hb:e<=10 * (13+t.mask)) :
  t.freeSlot h=some ((seq t.mask h e).j,false):=by
 unfold SetTable.freeSlot;rw [Qbn];have:=Qm6 T (λ_=>h+1) h hem hl hb (Qz e);generalize t.probe (λ_=>h+1) h (seq t.mask h 0)=P at this;cases this with
 | cand m i hm he hi hh no=>omega
 | emp no=>rfl
theorem Qyp {xs:List (Str×Tok)}:ElemsOf (strKind prog w) (xs.map (Qan w)):=λe he=>by
 obtain ⟨x,_,rfl⟩:=Q6.mp he;exact ⟨⟨x.1,Qsr _ _ _ _,rfl⟩,rfl⟩
theorem Qh3 {led:Bool} {a:Addr} {ks:List Str} {k:Str} {tk:Tok} {Q:Bool->Shared->Prop} (hS:SetS w led s.heap a ks) (hn:ks.length < 64)
  (h: ∀ h',Heap.SameBut a s.heap h'->SetS w led h' a (if k∈ks then ks else ks++[k])->Q (decide (k ∉ ks)) { s with heap:=h' }) :
  wpAny (model prog w) A (setAddHashed a (.str k tk) (hashStr w k)) Q E s:=by
 obtain ⟨o,es,ep,t,xs,ho,hex,hd,T,he,hnd,hp,hld⟩:=id hS;have hmem:k∈xs.map (·.1) ↔ k∈ks:=hp.mem_iff;have hxl:es.size=xs.length:=by
  have:=WE List.length he;simpa using this
 have hkl:xs.length=ks.length:=by
  have:=hp.length_eq;simpa using this
 have hel:ElemsOf (strKind prog w) es.toList:=by rw [he];exact Qyp
 obtain ⟨e,hb,hem,hl⟩:=T.first (hashStr w k);unfold setAddHashed setAddHashedIn;refine JH (Q0 (JV ho hd T.fits ?_));dsimp only;have hsc:byScan (.str k tk) es=true:=by
  unfold byScan;rw [hel.all_scannable];have:es.size < scanBound:=by unfold scanBound;omega
  simp [this,Value.scannable]
 rw [hsc];simp only [Wt];refine Q0 ?_;unfold setAddByScan;refine Q0 (ZS ?_);refine Q0 (wpAny_setScan_of (knd:=strKind prog w) (k:=k) (Qsr _ _ _ _) ho hd T.fits hel ?_);cases hf:es.toList.findIdx? (λe=>(strKind prog w).is k e.2) with
 | some j =>
  have hin:k∈ks:=by
   obtain ⟨hj,hpj,_⟩:=List.findIdx?_eq_some_iff_getElem.mp hf;rw [<- hmem];have hm:es.toList[j]∈xs.map (Qan w):=by rw [<- he];exact WR hj
   obtain ⟨x,hx,ex⟩:=Q6.mp hm;rw [<- ex] at hpj;have:=KeyKind.is_eq_decide (knd:=strKind prog w) (Qsr prog w x.1 x.2) k;have h2:(strKind prog w).is k (Qan w x).2=true:=hpj;rw [show (Qan w x).2=Value.str x.1 x.2 from rfl,this] at h2;rw [WD h2];exact Q6.mpr ⟨x,hx,rfl⟩
  dsimp only;refine Q3 (Q3 ?_);have:=h s.heap (Qwi a s.heap) (by rw [Qj hin];exact hS);rw [QM (λz=>z hin)] at this;exact this
 | none =>
  have hno':k ∉ ks:=λz=>by
   rw [<- hmem] at z;obtain ⟨x,hx,ex⟩:=Q6.mp z;have:=List.findIdx?_eq_none_iff.mp hf (Qan w x) (by rw [he];exact Q6.mpr ⟨x,hx,rfl⟩);have h2:=KeyKind.is_eq_decide (knd:=strKind prog w) (Qsr prog w x.1 x.2) k;rw [show (Qan w x).2=Value.str x.1 x.2 from rfl,h2] at this;exact Y2 this ex.symm
  have hno:k ∉ xs.map (·.1):=λz=>hno' (hmem.mp z)
  dsimp only;obtain ⟨p1,p2,p3,p4,p5,p6,p7,p8,p9⟩:=T.put (x:=Value.str k tk) hem hl;have hlay:layNew t es (hashStr w k) (.str k tk)=(insertAt es (t.put (seq t.mask (hashStr w k) e).j).2 (hashStr w k,.str k tk),(t.put (seq t.mask (hashStr w k) e).j).1,false,false):=by
   have hfit:(t.put (seq t.mask (hashStr w k) e).j).1.fits (insertAt es (t.put (seq t.mask (hashStr w k) e).j).2 (hashStr w k,Value.str k tk)).size=true:=by
    have h2:=T.full;rw [p4];unfold SetTable.fits SetTable.fill;rw [p1,p2,p3,T.size]
    simp
    have:=T.mask;rw [T.size] at h2;rcases this with z | z | z<;>(rw [z] at h2 ⊢; omega)
   unfold layNew;rw [Qg8 T hem hl hb];dsimp only;rw [show (t.put (seq t.mask (hashStr w k) e).j)=((t.put (seq t.mask (hashStr w k) e).j).1,(t.put (seq t.mask (hashStr w k) e).j).2) from rfl];dsimp only;unfold SetTable.orStandIn;rw [Qj hfit,hfit];rfl
  rw [hlay];dsimp only;generalize hput:t.put (seq t.mask (hashStr w k) e).j=R at p1 p2 p3 p4 p5 p6 p7 p8 p9;obtain ⟨t1,p⟩:=R;dsimp only at p1 p2 p3 p4 p5 p6 p7 p8 p9 ⊢;refine Q0 (Q3 ?_);have go: ∀ (G:Bool->Sem Unit),G false=pure ()-> ∀ pl:Bool,wpAny (model prog w) A (do
    storeSet a (insertAt es p (hashStr w k,Value.str k tk)) { t1 with plain:=pl }
    if (!false && ({ t1 with plain:=pl }:SetTable).tooFull)=true then do
      G (relayAll { t1 with plain:=pl } (insertAt es p (hashStr w k,Value.str k tk)) (grown (insertAt es p (hashStr w k,Value.str k tk)).size)).2.snd
      storeSet a (relayAll { t1 with plain:=pl } (insertAt es p (hashStr w k,Value.str k tk)) (grown (insertAt es p (hashStr w k,Value.str k tk)).size)).fst (relayAll { t1 with plain:=pl } (insertAt es p (hashStr w k,Value.str k tk)) (grown (insertAt es p (hashStr w k,Value.str k tk)).size)).2.fst
      pure (some true)
     else pure (some true)) (λr s'=>wpAny (model prog w) A (match r with | some added=>pure added | none=>setAddHashedIn a (.str k tk) (hashStr w k) 99999) Q E s') E s:=by
   intro G hG pl;have hz:(insertAt es p (hashStr w k,Value.str k tk)).size<=sizeLine:=by
    rw [p4,Jb];omega
   refine Q0 (wpAny_storeSet_of ho hd ?_ hz);have hg:(s.heap.update a (Obj.putSet (insertAt es p (hashStr w k,Value.str k tk)) { t1 with plain:=pl })).get? a=some { o with data:= .set (insertAt es p (hashStr w k,Value.str k tk)) (ep+1) { t1 with plain:=pl } }:=by
    have:=QW (Obj.putSet (insertAt es p (hashStr w k,Value.str k tk)) { t1 with plain:=pl }) ho (by rw [putSet_of _ _ hd];rfl);rw [putSet_of _ _ hd] at this;exact this
   have hsb:=QN s.heap a (Obj.putSet (insertAt es p (hashStr w k,Value.str k tk)) { t1 with plain:=pl });have hperm:(insertAt es p (hashStr w k,Value.str k tk)).toList.Perm ((xs++[(k,tk)]).map (Qan w)):=by
    refine (SetTable.insertAt_perm _ _ _).trans ?_;rw [Qlo,he,QF];exact .refl _
   have hnd1:((xs++[(k,tk)]).map (·.1)).Nodup:=by
    rw [QF,Jx];refine ⟨hnd,by simp,λx hx y hy=> ?_⟩;have:y=k:=by simpa using hy
    subst this;rintro rfl;exact hno hx
   have hperm1:((xs++[(k,tk)]).map (·.1)).Perm (ks++[k]):=by
    rw [QF];exact hp.append (.refl _)
   have Kj: ∀ (h':Heap) (o':Obj) (es':Array (Int×Value)) (ep':Nat) (t':SetTable),Heap.SameBut a s.heap h'->h'.get? a=some o'->o'.ExactSet->o'.data= .set es' ep' t'->TabOk t' es'->t'.led=led->es'.toList.Perm ((xs++[(k,tk)]).map (Qan w))->Q true { s with heap:=h' }:=by
    intro h' o' es' ep' t' hs hg' hex' hd' T' hl' hp';obtain ⟨ys,py,ey⟩:=GY hp';have:=h h' hs;rw [Qg hno',Jz hno'] at this;exact this ⟨o',es',ep',t',ys,hg',hex',hd',T',ey,(py.map (·.1)).nodup_iff.mpr hnd1,(py.map (·.1)).trans hperm1,hl'⟩
   have hfull:t1.fill=es.size+1:=by
    unfold SetTable.fill;rw [p2,p3,T.size];rfl
   by_cases hf:(!false && ({ t1 with plain:=pl }:SetTable).tooFull)=true
   ·rw [Qj hf];have hf':t.mask * 3<=(es.size+1) * 5:=by
     have:decide (t1.fill * 5 ≥ t1.mask * 3)=true:=by simpa [SetTable.tooFull,SetTable.fill] using hf
     rw [QB,hfull,p1] at this;exact this
    obtain ⟨rm,rf⟩:=Qi6 T.mask (by rw [<- T.size];exact T.full) hf' (by omega);obtain ⟨t2,order,e2,sz2,T2,pp2,l2,_,oo⟩:=Qm3 (t:={ t1 with plain:=pl }) (es:=insertAt es p (hashStr w k,Value.str k tk)) rm (by rw [p4];exact rf);have hcov:coversAll order (insertAt es p (hashStr w k,Value.str k tk)).size=true:=by
     unfold coversAll;exact List.isPerm_iff.mpr oo
    have hrel:relayAll { t1 with plain:=pl } (insertAt es p (hashStr w k,Value.str k tk)) (grown (insertAt es p (hashStr w k,Value.str k tk)).size)=(order.filterMap ((insertAt es p (hashStr w k,Value.str k tk))[·]?),t2,false):=by
     unfold relayAll;rw [p4,e2];dsimp only;rw [<- p4,hcov,T2.fits];rfl
    rw [hrel];dsimp only;rw [hG];refine Q0 (Q3 ?_);have hz2:(order.filterMap ((insertAt es p (hashStr w k,Value.str k tk))[·]?)).size<=sizeLine:=by
     rw [sz2];exact hz
    refine Q0 (wpAny_storeSet_of hg rfl (Q3 ?_) hz2);have hg2:((s.heap.update a (Obj.putSet (insertAt es p (hashStr w k,Value.str k tk)) { t1 with plain:=pl })).update a (Obj.putSet (order.filterMap ((insertAt es p (hashStr w k,Value.str k tk))[·]?)) t2)).get? a=some { o with data:= .set (order.filterMap ((insertAt es p (hashStr w k,Value.str k tk))[·]?)) (ep+1+1) t2 }:=by
     have:=QW (Obj.putSet (order.filterMap ((insertAt es p (hashStr w k,Value.str k tk))[·]?)) t2) hg (by rw [putSet_of _ _ rfl];rfl);rw [putSet_of _ _ rfl] at this;exact this
    exact Q3 (Kj _ _ _ _ _ (hsb.trans (QN _ a _)) hg2 hex rfl T2 (by rw [l2];show t1.led=led;rw [p8,hld]) (pp2.trans hperm))
   ·rw [Qg hf];have hT:TabOk { t1 with plain:=pl } (insertAt es p (hashStr w k,Value.str k tk)):=by
     have hnf: ¬ (t1.fill * 5 ≥ t1.mask * 3):=λz=>hf (by simpa [SetTable.tooFull,SetTable.fill] using z)
     rw [hfull] at hnf;exact ⟨by show MaskOk t1.mask;rw [p1];exact T.mask,p2,by show t1.place.size=_;rw [p3,p4,T.size],by show t1.place.size * 5 < t1.mask * 3;rw [p3,T.size];omega,p5,p6,p7⟩
    exact Q3 (Q3 (Kj _ _ _ _ _ hsb hg hex rfl hT (by show t1.led=led;rw [p8,hld]) hperm))
  by_cases hpl:t1.plain=true
  ·rw [Qj hpl];refine Q0 (m:=hashByValue 8 (.str k tk)) (Q3 (a:=false) ?_);simp only [QG,JI];exact go _ rfl false
  ·rw [Qg hpl];refine Q0 (Q3 ?_);simp only [Wt];exact go _ rfl t1.plain
end
section
variable {prog:Program} {w:World}
variable {A:Around} {R:Result->Shared->Prop} {I:Addr} {fp wr:List Addr} {G:Array GenState->Array GenState->Prop} {n:Nat} {P:Nat->Value->Prop} {St:Nat->Shared->Prop}
theorem SetS.at {led:Bool} {h h':Heap} {S:Addr} {ks:List Str} (hS:SetS w led h S ks) (hs: ∀ o,h.get? S=some o->h'.get? S=some o):SetS w led h' S ks:=by
 obtain ⟨o,es,ep,t,xs,ho,r⟩:=hS;exact ⟨o,es,ep,t,xs,hs o ho,r⟩
theorem Qdb {led:Bool} (W:WalksS prog w A.in1 I fp wr G n P St) (S:Addr) (hSf:S ∉ fp) (ks:List Str) (hl:ks.length=n) (hb:n < 64)
  (hval: ∀ i v k,P i v->ks[i]? =some k-> ∃ t,v= .str k t) :
  ∀ (j i:Nat) (s:Shared),n - i=j->i<=n->St i s->SetS w led s.heap S (Ue (ks.take i)) ->
   (∀ s',Moved (S::wr) G s s'->SetS w led s'.heap S (Ue ks)->R (.ok (.ret .none)) s') ->
   codeAny (model prog w) A (.builtin "set.update.loop" ⟨[.ref S,.ref I],[]⟩) R s:=by
 have hSw:S ∉ wr:=λh=>hSf (W.sub _ h)
 have hsub: ∀ b∈wr,b∈S::wr:=λb hb=>Q7 _ hb
 intro j
 induction j with
 | zero =>
  intro i s hj hi hst hS hR;have hin:i=n:=by omega
  subst hin;refine Wn Qew ?_;rw [JP ZC _];show wpAny _ A.in1 (pyNext (.ref I) >>= _) _ _ s;refine Q0 (W.done s _ _ hst λs' hm=> ?_);show wpAny _ A.in1 (ret Value.none) _ _ s';have hS':SetS w led s'.heap S (Ue ks):=by
   rw [Ys (by omega)] at hS;exact SetS.at hS (λo e=>hm.heap S o hSw e)
  exact Q3 (hR s' (hm.mono hsub) hS')
 | succ j ih =>
  intro i s hj hi hst hS hR;have Ks:i < n:=by omega
  refine Wn Qew ?_;rw [JP ZC _];show wpAny _ A.in1 (pyNext (.ref I) >>= _) _ _ s;refine Q0 (W.item i s _ _ Ks hst λv s' hP hst' hm=> ?_);have hki:ks[i]? =some (ks[i]'(by omega)):=Qc _;generalize ks[i]'(by omega)=k at hki;obtain ⟨t,rfl⟩:=hval i v k hP hki;have hS':SetS w led s'.heap S (Ue (ks.take i)):=SetS.at hS (λo e=>hm.heap S o hSw e);show wpAny _ A.in1 (holding [Value.str k t] (setAdd S (.str k t)) >>= _) _ _ s';refine Q0 (JH ?_);unfold setAdd;refine JH ?_;refine Q0 ((strKind prog w).pyHash (k:=k) (Qsr _ _ _ _) ?_);have hroom:(Ue (ks.take i)).length < 64:=by
   have h1:=Qaq (ks.take i);have h2:(ks.take i).length<=i:=by rw [QA];omega
   omega
  refine Qh3 (s:={ s' with toks:=s'.toks+1 }) hS' hroom λh' hsb hS2=> ?_
  have hSi:SetS w led h' S (Ue (ks.take (i+1))):=by rw [Qn5 hki];exact hS2
  refine Q3 ⟨Wy ZC _,ih (i+1) _ (by omega) Ks (W.frame _ s' _ _ hst' (WQ _ _) λb hb o e=> ?_) hSi λs'' hm'' hS''=> ?_⟩
  ·rw [hsb.2 b (λh:b=S=>hSf (by rw [<- h];exact hb))];exact e
  ·refine hR s'' (Moved.trans W.gtrans ((hm.mono hsub).then_heap (WQ _ _) λb o hb e=> ?_) hm'') hS'';rw [hsb.2 b (λh:b=S=>hb (by rw [h];exact Q8))];exact e
end
section
variable {prog:Program} {w:World} {A:Around} {E:Kf} {s:Shared}
set_option maxHeartbeats 3200000 in
theorem Qde {l:Addr} {items:Array Value} {ks:List Str} {Q:Kf} (hh:A.handled=none) (hl:s.heap.IsList l items) (Kr:ks.length=items.size)
  (hi: ∀ (i:Nat) (v:Value) (k:Str),items[i]? =some v->ks[i]? =some k-> ∃ t,v= .str k t) (hb:items.size < 64)
  (h: ∀ (h':Heap) (tk:Nat),SetS w (!w.params.followText "set-order") h' s.heap.objs.size (Ue ks)->(∀ b o,s.heap.get? b=some o->h'.get? b=some o)->Q (.ref s.heap.objs.size) { s with heap:=h',toks:=tk }) :
  wpAny (model prog w) A (call (.type "set") [.ref l]) Q E s:=by
 refine Qem λled Z hled hZ=> ?_
 have ⟨⟨cl,dc,da,sl⟩,at0,c0,ep0,d0⟩:=hl;simp only at c0 d0;subst c0 d0;have llt:l < s.heap.objs.size:=Qi at0;have at1:(s.heap.push (Bw led)).get? l=some ⟨.type "list",dc,.seq items ep0,sl⟩:=Q1 _ at0;have isl:(s.heap.push (Bw led)).IsList l items:=⟨_,at1,rfl,ep0,rfl⟩;have so:(s.heap.push (Bw led)).get? s.heap.objs.size=some (Bw led):=Qd _ rfl;have f1:isSubtype (.type "list") (.type "set")=pure false:=by rw [O7];kernel_rfl
 have f2:isSubtype (.type "list") (.type "frozenset")=pure false:=by rw [O7];kernel_rfl
 have f3:(Value.type "list" == Value.type "dict")=false:=by decide
 have sz:(s.heap.push (Bw led)).objs.size=s.heap.objs.size+1:=Ju ..;unfold Builtin.«set.__init__» noKeywords Builtin.Frozenset.updateFrom;generalize gP:pyIter=it
 wp_walk
 subst gP;refine Qb7 isl (Q0 (wpAny_runValue ?_));have nI:l≠(s.heap.push (Bw led)).objs.size:=by rw [sz];exact Qp (Nat.lt_succ_of_lt llt)
 have nS:s.heap.objs.size ∉ [(s.heap.push (Bw led)).objs.size,l]:=λz=>by
  rcases Qb.mp z with z | z
  ·rw [sz] at z;exact Qp (JJ _) z
  ·exact W1 llt (QQ.mp z)
 rw [<- hled] at h;refine Qdb (led:=led) (Walks.list (by simp [hh]) _ l nI items).toS s.heap.objs.size nS ks Kr hb (λi v k=>hi i v k) items.size 0 _ (Nat.sub_zero _) (Qz _) ⟨⟨_,Qd _ rfl,rfl,rfl⟩,isl.push _⟩ ?se ?re
 case se=>exact ⟨_,#[],0,_,[],Q1 _ so,⟨rfl,rfl,rfl⟩,rfl,TabOk.fresh 0 0 led,rfl,JA,.nil,rfl⟩
 case re =>
  rintro ⟨hp,gs,dr,tk,os⟩ mv Kj;cases (show gs=s.gens from mv.gens);cases (show dr=s.drawn from mv.drawn);cases (show os=s.os from mv.os);refine Q3 (Q3 (hZ _ (h hp tk Kj λb o e=> ?_)));have blt:=Qi e;exact mv.heap b o (λz=>by
   rcases Qb.mp z with z | z
   ·exact Qp blt z
   ·have z':=QQ.mp z;rw [sz] at z';exact Qp (Nat.lt_succ_of_lt blt) z') (Q1 _ (Q1 _ e))
end
end ST
namespace L2
open PySem PySem.Spec PyProof.Rows PySem.W
section
variable {prog:Program} {w:World} {A:Around} {E:Kf} {s:Shared}
theorem Qbw: ∀ {ss:List Str} {h:Heap} {vs:List Value},CAll h (ss.map .str) vs->StrsAre vs ss
 | [],_,_,c=>by
  simp only [Z1,CAll] at c;subst c;exact .nil
 | x::ss,h,vs,c=>by
  rw [Qk,CAll] at c;obtain ⟨v,r,rfl,i,c⟩:=c;simp only [CIs] at i;obtain ⟨t,rfl⟩:=i;exact .cons x t (Qbw c)
theorem Qwx {a:Addr} {out:List Value} {ss:List Str} {n:Nat} {P:PySem.Fin->Shared->Prop} (ho:s.heap.get? a=some (seqObj "list" out.toArray n)) (c:CAll s.heap (ss.map .str) out) (h64:ss.length < 64)
  (q: ∀ (p:Array Nat) (h':Heap) (c':Nat),SO.Ok (ss.map D.str).length p->(p.toList.map λi=>(ss.map D.str).getD i .non)=U6 (ss.map .str)->(∀ b o,b≠a->s.heap.get? b=some o->h'.get? b=some o)->h'.get? a=some (seqObj "list" (SO.UA out p).toArray c')->P (.done (.ret .none)) { s with heap:=h' }) :
  wpAny (model prog w) A (Builtin.«list.sort» ⟨[.ref a],[]⟩) P E s:=by
 have hl:=c.len;have hsa:=Qbw c;refine SO.Qly (κ:=oneType') (r:=λi=>(ss.map D.str).getD i .non) ho (by rw [<- hl];simpa using h64) Qim (λh2 h' k Z z=> ?_) (λh' k i j C hi hj z=> ?_) (λp h' c' hp hsr k g=> ?_)
 ·match out,h2,hsa with
  | v₁::v₂::vs,_,hsa =>
   rw [keyKind_strs hsa];exact Q3 z
 ·rw [<- hl] at hi hj;have x1:=c.getD hi;have x2:=c.getD hj;rw [Q2] at hi hj;have e1:(ss.map D.str).getD i .non= .str ss[i]:=by simp [hi]
  have e2:(ss.map D.str).getD j .non= .str ss[j]:=by simp [hj]
  have z':C (ltD ((ss.map D.str).getD i .non) ((ss.map D.str).getD j .non)) { s with heap:=h' }:=z;rw [e1] at x1;rw [e2] at x2;rw [e1,e2,Quw] at z';simp only [CIs] at x1 x2;obtain ⟨t1,x1⟩:=x1;obtain ⟨t2,x2⟩:=x2;show wpAny (model prog w) A (keyLt' oneType' (out.getD i Value.none) (out.getD j Value.none)) C _ _;rw [x1,x2];exact oneLt_str z'
 ·rw [<- hl] at hp hsr;exact q p h' c' hp (Qoc hp hsr) k g
end
section
variable {X:Cx}
structure SetT (w:World) (o:Obj) (ks:List Str):Prop where
 ex:o.ExactSet
 it: ∃ (es:Array (Int×Value)) (ep:Nat) (t:SetTable) (xs:List (Str×Tok)),o.data= .set es ep t/\ST.TabOk t es/\t.led=(!w.params.followText "set-order")/\es.toList=xs.map (ST.Qan w)/\(xs.map (·.1)).Perm ks
theorem Bt {K:W.Frag} {H:Hp} {w:World}: ∀ (xs:List (Str×Tok)),Va K H ((xs.map (·.1)).map .str) (xs.map λx=>V.str x.1)/\Vals (xs.map λx=>V.str x.1) (xs.map λx=>(ST.Qan w x).2)
 | []=>⟨QR,.nil⟩
 | x::xs=>⟨Vg (ZG _) (Bt (w:=w) xs).1,.cons ⟨_,rfl⟩ (Bt (K:=K) (H:=H) xs).2⟩
theorem Qlx {Kz:Ke} {s:Shared} {σ:St} {H:Hp} {x:Value} {ss:List Str} {Q:VK} (hl:ss.length < 64)
  (col: ∀ (Z:List Value->Shared->Prop),(∀ (out:List Value) (s1:Shared) (H1:Hp) (ds:List D) (ws:List V),Inv X Kz σ H1 s1->Same H H1->ds.Perm (ss.map .str)->Va X.K H1 ds ws->Vals ws out->Z out s1)->wpAny (model X.prog X.w) X.A.in1 (collect x) Z X.xe s)
  (q: ∀ H1 l ws,Same H H1->H1 l=none->Va X.K (upd H1 l (.lst ws)) (U6 (ss.map .str)) ws->Q (.ref l) (upd H1 l (.lst ws))):wpAny (model X.prog X.w) X.A (call (.builtin "sorted") [x]) (EP X Kz σ Q) X.xe s:=by
 refine Qhv (col _ λout s1 H1 ds ws I1 s01 hp ia rv=> ?_);obtain ⟨ts,_,rfl⟩:=ST.GY hp;have hdl:=hp.length_eq;have hk:keyOks (ts.map .str)=true:=by
  rw [Z2];intro d hd;obtain ⟨x,_,rfl⟩:=Q6.mp hd;simp [keyOk]
 rw [Q2,Q2] at hdl;have hwl:=ia.length;have hol:=rv.length;have hml:(ts.map D.str).length=ts.length:=Q2 ..;refine ⟨by rw [Jb];omega,?_⟩;have here:(s1.heap.push (seqObj "list" out.toArray 0)).get? s1.heap.objs.size=some (seqObj "list" out.toArray 0):=Qd _ rfl;have c1:CAll s1.heap (ts.map .str) out:=Va.conc I1 (YG hk) ia rv;have c2:CAll (s1.heap.push (seqObj "list" out.toArray 0)) (ts.map .str) out:=CAll.stay (λb o e _=>Q1 _ e) hk c1;have nl:H1 s1.heap.objs.size=none:=I1.fresh;refine Qwx (s:={ s1 with heap:=s1.heap.push (seqObj "list" out.toArray 0) }) here c2 (by omega) λp h' c' ok es k g=>⟨rfl,?_⟩
 have eso:U6 (ts.map .str)=U6 (ss.map .str):=Gh ((Zl _).trans (hp.trans (Zl _).symm)) (UO _) (UO _);have rv2:=Qny rv (p:=p) (by rw [<- hwl];exact ok);have ia2:=Qmx ia ok;rw [es,eso] at ia2;have I2:Inv X Kz σ (upd H1 s1.heap.objs.size (.lst (p.toList.map λi=>ws.getD i .non))) { s1 with heap:=h',toks:=s1.toks }:=by
  refine I1.laid (λb o e=>k b o (Qp (Qi e)) (Q1 _ e)) (Q5 _) ⟨by rw [Q2,UK,ok.size,Jb];omega,_,c',rv2,g⟩
 exact ⟨.ref s1.heap.objs.size,_,I2,rfl,q H1 _ _ s01 nl (ia2.same (Same.upd nl))⟩
theorem Qnb (hc:X.calm=true):CallR X (.type "set") (λvs H Q=> ∃ p ss,vs=[.ref p]/\Is X.K H (.lst (ss.map .str)) (.ref p)/\ss.length < 64 /\
  ∀ a o,H a=none->SetT X.w o (ST.Ue ss)->Q (.ref a) (upd H a (SetO a o))):=by
 intro Kz s σ H xs us Q I r h;obtain ⟨p,ss,rfl,il,hl,q⟩:=h;obtain ⟨u,rfl,ru⟩:=vals1 r;cases (show u=Value.ref p from ru);have hfresh:=I.fresh;obtain ⟨p',vs,e,hq,ia⟩:=JY il;cases e;obtain ⟨Kv,rv,pl,hz⟩:=I.list hq;have Kr:ss.length=Kv.toArray.size:=by have h1:=ia.length;have h2:=rv.length;simp at h1;simp;omega
 exact ST.Qde (I.ok.hd hc) pl.isList Kr (λi v k hv hk=>by
  obtain ⟨v',e1,e2⟩:=ia.get (i:=i) (d:= .str k) (by simp [hk]);obtain ⟨u',e3,e4⟩:=rv.get e1;have e5:=(List.getElem?_toArray ..).symm.trans hv;rw [e5] at e3;cases e3;cases JC e2;exact e4) (by omega) λh' tk hS up=>by
  obtain ⟨o,es,ep,t,zs,ho,hex,hd,T,he,hnd,hp,hled⟩:=hS;have I':Inv X Kz σ (upd H s.heap.objs.size (SetO s.heap.objs.size o)) { s with heap:=h',toks:=tk }:=I.laid up (Q5 _) ⟨ho,⟨o,ho⟩,λh1 h2 e k=>k o e⟩;exact ⟨.ref s.heap.objs.size,_,I',rfl,q _ o hfresh ⟨hex,es,ep,t,zs,hd,T,hled,he,hp⟩⟩
theorem Oh (hc:X.calm=true):CallR X (.builtin "sorted") (λvs H Q=> ∃ a o ss,vs=[.ref a]/\H a=some (SetO a o)/\SetT X.w o ss/\ss.length < 64 /\
  ∀ H1 l ws,Same H H1->H1 l=none->Va X.K (upd H1 l (.lst ws)) (U6 (ss.map .str)) ws->Q (.ref l) (upd H1 l (.lst ws))):=by
 intro Kz s σ H xs us Q I r h;obtain ⟨a,o,ss,rfl,ha,⟨hex,es,ep,t,zs,hd,T,hled,he,hp⟩,hl,q⟩:=h;obtain ⟨u,rfl,ru⟩:=vals1 r;cases (show u=Value.ref a from ru);have ho:s.heap.get? a=some o:=(I.hok a _ ha).1;have hn:es.size<=sizeLine:=by
  have h1:=WE List.length he;have h2:=hp.length_eq;simp at h1 h2;rw [Jb];omega
 refine Qlx hl (λZ z=> ?_) q;refine ST.Qgn (A:=X.A.in1) (by show X.A.handled=none;exact I.ok.hd hc) T ho hex hd hled hn λout h' dr tk po up sz=> ?_
 rw [he,Qx] at po;obtain ⟨ia0,rv0⟩:=Bt (K:=X.K) (H:=H) (w:=X.w) zs;obtain ⟨ds,ws,p1,ia,rv⟩:=rv0.perm' po ia0;exact z out _ H ds ws ((I.kept (t':=tk) up).dr dr) (Same.refl H) (p1.trans (hp.map _)) ia rv
end
section
variable {X:Cx} {ρ:List (Option D)} {e:Expr} {ss:List Str} {pos:Pos}
theorem Qbp {p p2 pos2:Pos} (hc:X.calm=true) (hm:X.mg "sorted" =none) (hm2:X.mg "set" =none) (ha:PD X ρ e (.lst (ss.map .str))) (hl:ss.length < 64)
  (hg:Gl X "sorted" :=by rfl) (hg2:Gl X "set" :=by rfl) (h1:starEach [e] X.env=[(false,eval e X.env)]:=by rfl) (h2:starEach [.Call (.Name "set" p2) [e] [] pos2] X.env=[(false,eval (.Call (.Name "set" p2) [e] [] pos2) X.env)]:=by rfl) :
  PDL X ρ (.Call (.Name "sorted" p) [.Call (.Name "set" p2) [e] [] pos2] [] pos) (U6 ((ST.Ue ss).map .str)) :=
 ⟨(Qa4 (Oh hc) hg hm Qeq (Ws (YE (Qnb hc) hg2 hm2 Qnf (Vc ha Vn h1).pe (by decide) (by decide) h1 rfl) Z8 h2) (by decide) (by decide) h2 rfl).imp λσ H Q q=>⟨q.1,λvs H1 s1 ia=>by
  obtain ⟨v,rfl,i⟩:=ia.one;obtain ⟨b,_,rfl,_⟩:=JY i;refine ⟨b,ss,rfl,i,hl,λa o na si=> ?_⟩;have s2:=s1.trans (Same.upd (o:=SetO a o) na);exact ⟨a,o,_,rfl,Vu,si,Y3 (ST.Qaq ss) hl,λH2 l ws s3 nl il=>q.2 l ws _ ((s2.trans s3).free nl) ((s2.trans s3).trans (Same.upd nl)) Vu il⟩⟩⟩
end
end L2
namespace L2
open PySem
theorem Wx {K:W.Frag} {h:Heap} {mg:Str->Option Value} {x:Str} {st:Stmt} {ps:List Str} {f:Addr} {oc:Value} {od an:Option Addr} {osl:Array (Option Value)} {kV doc pm Km ct:Value} (X:K.In h) (G:h.Ns mainGlobals mg)
  (a:W.nsIn K mainGlobals x=some (some (.ref f))) (l:K.lookup f=some ⟨oc,od,.func (W.fnOf x x (WX st) (JM st) (Vs st) .none kV doc pm an Km ct),osl⟩) (c:W.codeIn K Km x=true) (k:W.keepIn K (.ref f)=true)
  (hb: ∀ (kV doc pm:Value) (an:Option Addr) (Km ct:Value) (us:List Value),us.length=ps.length->bindArgs (W.fnOf x x (WX st) (JM st) (Vs st) .none kV doc pm an Km ct) ⟨us,[]⟩=pure (ps.zip us)):Fd K mg x st ps :=
 ⟨f,_,W.mg_of X G a,BL l c k,(BL l c k).binds hb⟩
theorem Qh2 {K:W.Frag} {H:Hp}: ∀ ss:List Int,Va K H (ss.map D.int) (ss.map V.int)
 | []=>QR
 | s::ss=>Vg (ZH s) (Qh2 ss)
def RLaw0:List D->D->Prop:=λds d=> ∃ (ns:List Int),ds=[.lst (ns.map .int)]/\ns.length<=63/\d= .bl true
theorem Ja8 {K:W.Frag} (H:Hp) (a:Addr) (ns:List Int) (hl:ns.length<=63) (hS:SqL K H a (ns.map V.int)):spD K 1 RLaw0 [.ref a] H (λv _=>v= .bl true) λ_ _ _=>False :=
 ⟨rfl,[.lst (ns.map .int)],.bl true,Vg (Qab hS (Qh2 ns)) QR,⟨ns,rfl,hl,rfl⟩,λv H' _ i=>B6 i⟩
theorem Ja9 {K:W.Frag} {h:Heap} {mg:Str->Option Value} {P:Program} {w:World} {fa:Addr} {k:Nat} {y:Str} {st:Stmt} {f:Addr} {oc:Value} {od an:Option Addr} {osl:Array (Option Value)} {kV doc pm Km ct:Value} (X:K.In h) (G:h.Ns mainGlobals mg) (hfa:mg "law" =some (.ref fa))
  (a:W.nsIn K mainGlobals "law" =some (some (.ref f))) (l:K.lookup f=some ⟨oc,od,.func (W.fnOf "law" "law" (WX st) (JM st) (Vs st) .none kV doc pm an Km ct),osl⟩)
  (hb: ∀ (s:Shared) (u:Value),BindsTo s (W.fnOf "law" "law" (WX st) (JM st) (Vs st) .none kV doc pm an Km ct) ⟨[u],[]⟩ [(y,u)])
  (hF: ∀ base:Heap,FnOk P w K mg base CX0 k f (W.fnOf "law" "law" (WX st) (JM st) (Vs st) .none kV doc pm an Km ct) [y] (spD K 1 RLaw0)) :
  ∃ fd:FuncData,(∀ (s:Shared) (u:Value),BindsTo s fd ⟨[u],[]⟩ [(y,u)])/\ ∀ base:Heap,K.In base->base.Ns mainGlobals mg->FnOk P w K mg base CX0 k fa fd [y] (spD K 1 RLaw0):=by
 have e:=hfa.symm.trans (W.mg_of X G a);cases e;exact ⟨_,hb,λbase _ _=>hF base⟩
end L2
namespace K24
open PySem L2 RH
def top (i:Nat):Stmt:=PySem.Challenge.pw_rulehall_k24_covering_rules.main.body.getD i (.Pass ⟨0,0,0,0⟩)
abbrev Op:Stmt:=top 22
abbrev Qjy:Stmt:=top 12
abbrev Qtg:Stmt:=top 13
abbrev Qdm:Stmt:=top 14
abbrev Qdo:Stmt:=top 15
abbrev Qdl:Stmt:=top 16
abbrev Qjv:Stmt:=top 17
abbrev Qju:Stmt:=top 18
abbrev Qjz:Stmt:=top 19
abbrev Qdr:Stmt:=top 20
abbrev Qdn:Stmt:=top 21
abbrev Qm2:Stmt:=top 36
abbrev Qjw:Stmt:=top 2
abbrev Oo:Stmt:=top 3
abbrev Os:Stmt:=top 4
abbrev GS:Stmt:=top 5
abbrev Oq:Stmt:=top 6
abbrev Qff:Stmt:=top 7
abbrev Qds:Stmt:=top 8
abbrev Ot:Stmt:=top 10
abbrev Qx7:Stmt:=top 1
def meth (i:Nat):Stmt:=match Qx7 with | .ClassDef _ _ _ b .. =>b.getD i (.Pass ⟨0,0,0,0⟩) | _=> .Pass ⟨0,0,0,0⟩
abbrev OW:Stmt:=meth 0
abbrev Qfh:Stmt:=meth 1
abbrev BU:Stmt:=meth 2
structure Txt (K:W.Frag) (mg:Str->Option Value):Prop where
 bIsi:mg "isinstance" =none
 bStr:mg "str" =none
 bTup:mg "tuple" =none
 bLen:mg "len" =none
 bInt:mg "int" =none
 bRng:mg "range" =none
 bBool:mg "bool" =none
 bSet:mg "set" =none
 bSrt:mg "sorted" =none
 bDct:mg "dict" =none
 bEnu:mg "enumerate" =none
 bLst:mg "list" =none
 bZip:mg "zip" =none
 bAny:mg "any" =none
 bAll:mg "all" =none
 bMin:mg "min" =none
 bRev:mg "reversed" =none
theorem Vl {n:Nat} (h:n<=1000000):n<=sizeLine:=Qu h (by rw [Jb];decide)
abbrev PrD (P:Program) (w:World) (K:W.Frag) (mg:Str->Option Value) (base:Heap) (x:Str) (k:Nat) (ps:List Str) (R:List D->D->Prop):Prop:=Pr P w K mg base x k ps (spD K ps.length R)
abbrev PrL (P:Program) (w:World) (K:W.Frag) (mg:Str->Option Value) (base:Heap) (x:Str) (k:Nat) (ps:List Str) (R:List D->List D->Prop):Prop:=Pr P w K mg base x k ps (spL K ps.length R)
theorem at0 {α:Type} {a:α} {l:List α}:atI (a::l) 0=some a:=by
 have:=Zd (xs:=a::l) (j:=0) (v:=a) rfl;simpa using this
theorem at1 {α:Type} {a b:α} {l:List α}:atI (a::b::l) 1=some b:=by
 have:=Zd (xs:=a::b::l) (j:=1) (v:=b) rfl;simpa using this
abbrev scr (ns:List Int):D:= .lst (ns.map .int)
section
variable {P:Program} {w:World} {K:W.Frag} {mg:Str->Option Value} {base:Heap}
def RCell:List D->D->Prop:=λds d=> ∃ (ns:List Int) (k:Nat),ds=[scr ns,.int k]/\d= .int (cell ns k)
theorem Qx6:Vf ["_law_script", "_law_k"] ["_law_script", "_law_k"] (Vs Qjy):=⟨rfl,rfl,rfl,by decide +kernel,rfl,by decide +kernel,by decide +kernel⟩
theorem Quf (T:Txt K mg) (F:Fd K mg "_law_cell" Qjy ["_law_script", "_law_k"]):PrD P w K mg base "_law_cell" 1 ["_law_script", "_law_k"] RCell:=by
 refine G0 (N:=["_law_script", "_law_k"]) F Qx6 (Q5 _) λf Km A outer s H E ds d hr hR _=> ?_
 obtain ⟨ns,k,rfl,rfl⟩:=hR;have hc:=λ{X:Cx} (h:X.mg "len" =none) (a b c d e)=> @Qsb X (dat (args [scr ns,.int k] 2)) a b c d e
 by_cases h:(k:Int) < ((ns.map D.int).length:Nat)
 ·have hk:k < ns.length:=by rw [Q2] at h;omega
  refine Qa9 (ZF (k:=true) ?_ (λ_=>Vz (WG (Jf (Vv 0 rfl) (Vv 1 rfl) ?_))) (λh=>nomatch h))
  ·have e:decide ((k:Int) < ((ns.map D.int).length:Nat))=true:=Jz h;rw [<- e];exact Qsb (Vv 1 rfl) (YK T.bLen (Vv 0 rfl) rfl (λy e=>nomatch e))
  ·show atI (ns.map D.int) k=_;refine Zd ?_;rw [Qe,cell,Qa];simp [hk]
 ·have hk: ¬ k < ns.length:=by rw [Q2] at h;omega
  refine YF (ZF (k:=false) ?_ (λh=>nomatch h) (λ_=>Za)) (Vz (WG ?_))
  ·have e:decide ((k:Int) < ((ns.map D.int).length:Nat))=false:=QM h;rw [<- e];exact Qsb (Vv 1 rfl) (YK T.bLen (Vv 0 rfl) rfl (λy e=>nomatch e))
  ·have e:cell ns k=0:=by
    rw [cell,Qa];simp [YM hk]
   rw [e];exact Vi
def RMix:List D->D->Prop:=λds d=> ∃ c p m:Int,ds=[.int c,.int p,.int m]/\0 < p/\0 < m/\d= .int (mix c p m)
theorem Qzl:Vf ["_law_cell_here", "_law_prime", "_law_many"] ["_law_cell_here", "_law_prime", "_law_many"] (Vs Qtg):=⟨rfl,rfl,rfl,by decide +kernel,rfl,by decide +kernel,by decide +kernel⟩
theorem Qxw (F:Fd K mg "_law_mix" Qtg ["_law_cell_here", "_law_prime", "_law_many"]):PrD P w K mg base "_law_mix" 1 ["_law_cell_here", "_law_prime", "_law_many"] RMix:=by
 refine G0 (N:=["_law_cell_here", "_law_prime", "_law_many"]) F Qzl (Q5 _) λf Km A outer s H E ds d hr hR _=> ?_
 obtain ⟨c,p,m,rfl,hp,hm,rfl⟩:=hR;exact Vz (WG (Ql5 (Ql5 (O4 (Vv 0 rfl) Vi (.inr ⟨by decide,by decide⟩)) (Vv 1 rfl) hp) (Vv 2 rfl) hm))
theorem ZR {X:Cx} {ρ:List (Option D)} {a b c:Expr} {p pos:Pos} {i q m:Int} (G:PrD X.prog X.w X.K X.mg X.base "_law_mix" 1 ["_law_cell_here", "_law_prime", "_law_many"] RMix) (hr:Room 1 X.A) (ha:PD X ρ a (.int i)) (hb:PD X ρ b (.int q)) (hc:PD X ρ c (.int m)) (hq:0 < q) (hm:0 < m)
  (hg:Gl X "_law_mix" :=by rfl) (h1:starEach [a,b,c] X.env=[(false,eval a X.env),(false,eval b X.env),(false,eval c X.env)]:=by rfl) (h2:starEach [b,c] X.env=[(false,eval b X.env),(false,eval c X.env)]:=by rfl) (h3:starEach [c] X.env=[(false,eval c X.env)]:=by rfl) :
  PD X ρ (.Call (.Name "_law_mix" p) [a,b,c] [] pos) (.int (mix i q m)) :=
 Zc G hr (Vc ha (Vc hb (Vc hc Vn h3) (by rw [h2,h3])) (by rw [h1,h2])) ⟨i,q,m,rfl,hq,hm,rfl⟩ rfl hg (by decide) (by rw [h1,h2]) (by rw [h2];rfl)
def RLWord:List D->D->Prop:=λds d=> ∃ (c:Int) (k:Nat) (fs:Str),ds=[.int c,.int k,.str fs]/\k < fs.length/\fs.length<=10/\d= .str (word c k fs)
abbrev Qq7:List Str:=["_law_cell_here", "_law_k", "_law_firsts", "_law_letters", "_law_tail", "_law_found"]
theorem Ol:Vf Qq7 ["_law_cell_here", "_law_k", "_law_firsts"] (Vs Qdm):=⟨rfl,rfl,rfl,by decide +kernel,rfl,by decide +kernel,by decide +kernel⟩
def tailS (c:Int) (k:Nat):List Str:=(List.range (mix (c+k) 9929 8).toNat).map λ(j:Nat)=>sg SMALL (mix (c+7 * j * j+k) 9931 26).toNat
theorem Qf6 (c:Int) (k:Nat):(tailS c k).length<=7:=by
 have:=Zn (c+k) 9929 (m:=8) (by omega);simp [tailS];omega
theorem Qf5 (c:Int) (k:Nat):((tailS c k).map (·.length)).sum=(tailS c k).length:=by
 unfold tailS;rw [Qx];have: ∀ l:List Nat,(l.map ((·.length) ∘ λ(j:Nat)=>sg SMALL (mix (c+7 * j * j+k) 9931 26).toNat)).sum=l.length:=by
  intro l
  induction l with
  | nil=>rfl
  | cons a r ih =>
   rw [Qk,List.sum_cons,ih];show 1+r.length=r.length+1;omega
 rw [this]
 simp
theorem Qmv (c:Int) (k:Nat):(U9 (tailS c k)).length<=7:=by
 rw [UW,Ul,List.length_flatMap];have e:(tailS c k).map (λs=>(signs s).length)=(tailS c k).map (·.length):=QV λs _=>(UW s).symm
 rw [show (List.map (λa=>(signs a).length) (tailS c k))=_ from e,Qf5];exact Qf6 c k
theorem Qec {x:Str} {i:Int} (h0:0<=i) (h1:i < x.length):dAt (.str x) i=some (.str (sg x i.toNat)):=by
 show (atI x.cps.toList i).map _=_;rw [YL 97 h0 (by rw [show x.cps.toList.length=x.length from (UW x).symm];exact h1)];rfl
theorem Qby:SMALL.length=26:=by decide +kernel
theorem Qpl (T:Txt K mg) (F:Fd K mg "_law_word" Qdm ["_law_cell_here", "_law_k", "_law_firsts"]) (G:PrD P w K mg base "_law_mix" 1 ["_law_cell_here", "_law_prime", "_law_many"] RMix):PrD P w K mg base "_law_word" 2 ["_law_cell_here", "_law_k", "_law_firsts"] RLWord:=by
 refine G0 (N:=Qq7) F Ol (by decide) λf Km A outer s H E ds d hr hR _=> ?_
 obtain ⟨c,k,fs,rfl,hk,hfs,rfl⟩:=hR;have hz: ∀ y,D.str fs= .str y->y.length<=sizeLine:=λy e=>by cases e;exact Vl (by omega)
 have hzS: ∀ y,D.str SMALL= .str y->y.length<=sizeLine:=λy e=>by cases e;exact Vl (by rw [Qby];decide)
 have m1:=Zn (c+k) 9929 (m:=8) (by omega);have m0:=Wd (c+k) 9929 (m:=8) (by omega);refine Vq (Z9 (i:=3) (d:= .str SMALL) Vt Ol.nd) ?_;refine Vq (Z9 (i:=4) (d:= .str (Txt.join "" (tailS c k))) (Qyu Vt (PDL.pd (ZK (ds:=W4 0 (mix (c+k) 9929 8).toNat) (f:=λd=>match d with | .int j=> .str (sg SMALL (mix (c+7 * j * j+k) 9931 26).toNat) | d=>d) rfl
  (YJ T.bRng (ZR G hr (ZQ (Vv 0 rfl) (Vv 1 rfl)) Vi Vi (by decide) (by decide)) (by omega) (by omega)) (by rw [Y6];exact Vl (by omega)) (λd hd cl C s H ex=> ?_))) (.inl ?_) ?_) Ol.nd) ?_
 ·obtain ⟨j,hj,rfl⟩:=Q6.mp hd;have hj':=Je.mp hj;have b1:=Zn (c+7 * (0+(j:Int)) * (0+j)+k) 9931 (m:=26) (by omega);have b0:=Wd (c+7 * (0+(j:Int)) * (0+j)+k) 9931 (m:=26) (by omega);exact Jf (Vv 4 rfl) (ZR G hr (ZQ (ZQ (Vv 1 rfl) (O4 (O4 Vi (Vv 0 rfl) (.inl ⟨by decide,by decide⟩)) (Vv 0 rfl) (.inl ⟨by omega,by omega⟩))) (Vv 2 rfl)) Vi Vi (by decide) (by decide)) (Qec b0 (by rw [Qby];omega)) hzS
 ·simp [W4,tailS,Qx,QZ]
 ·rw [Qf5];have:=Qf6 c k;have e:(Str.ofString "").length=0:=by decide +kernel
  rw [e];omega
 rw [Qio];have hsg:(sg fs k).length=1:=rfl;have hj:=Qmv c k;refine Vq (Z9 (i:=5) (d:= .str (sg fs k++U9 (tailS c k))) (Qrs (Jf (Vv 2 rfl) (Vv 1 rfl) (Qec (by omega) (by omega)) hz) (Vv 4 rfl) (Vl (by rw [hsg];omega))) Ol.nd) ?_;have ht:=λ{X:Cx} {ρ} {a b} {pos} (ha:PD X ρ a (.str (sg fs k++U9 (tailS c k)))) (hb:PD X ρ b (.lst ((["and", "fact", "if", "rule", "not"]:List Str).map D.str))) (hm:behindInMarks .In b=false)=>Qwa (pos:=pos) ha hb (.inr rfl) hm
 by_cases hin:(sg fs k++U9 (tailS c k))∈(["and", "fact", "if", "rule", "not"]:List Str)
 ·have ew:word c k fs=sg fs k++ "zz" :=by
   unfold word;exact Qj hin
  rw [ew];refine Qa9 (ZF (k:=true) ?_ (λ_=>Vz (WG (Qrs (Jf (Vv 2 rfl) (Vv 1 rfl) (Qec (by omega) (by omega)) hz) Vt (Vl (by rw [hsg];decide +kernel))))) (λh=>nomatch h));have e:decide ((sg fs k++U9 (tailS c k))∈(["and", "fact", "if", "rule", "not"]:List Str))=true:=Jz hin;rw [<- e];exact ht (Vv 5 rfl) (PDL.pd (W5 (Vc Vt (Vc Vt (Vc Vt (Vc Vt (Vc Vt Vn))))) (Vl (by decide)))) rfl
 ·have ew:word c k fs=sg fs k++U9 (tailS c k):=by
   unfold word;exact Qg hin
  rw [ew];refine YF (ZF (k:=false) ?_ (λh=>nomatch h) (λ_=>Za)) (Vz (WG (Vv 5 rfl)));have e:decide ((sg fs k++U9 (tailS c k))∈(["and", "fact", "if", "rule", "not"]:List Str))=false:=QM hin;rw [<- e];exact ht (Vv 5 rfl) (PDL.pd (W5 (Vc Vt (Vc Vt (Vc Vt (Vc Vt (Vc Vt Vn))))) (Vl (by decide)))) rfl
abbrev Qa5:List Str:=["_law_cell_here", "_law_prime", "_law_many"]
abbrev ZO:List Str:=["_law_script", "_law_k"]
abbrev Qkg:List Str:=["_law_cell_here", "_law_k", "_law_firsts"]
theorem U4 {X:Cx} {ρ:List (Option D)} {a b:Expr} {p pos:Pos} {ns:List Int} {k:Nat} (G:PrD X.prog X.w X.K X.mg X.base "_law_cell" 1 ZO RCell) (hr:Room 1 X.A) (ha:PD X ρ a (scr ns)) (hb:PD X ρ b (.int k))
  (hg:Gl X "_law_cell" :=by rfl) (h1:starEach [a,b] X.env=[(false,eval a X.env),(false,eval b X.env)]:=by rfl) (h2:starEach [b] X.env=[(false,eval b X.env)]:=by rfl) :
  PD X ρ (.Call (.Name "_law_cell" p) [a,b] [] pos) (.int (cell ns k)) :=
 Zc G hr (Vc ha (Vc hb Vn h2) (by rw [h1,h2])) ⟨ns,k,rfl,rfl⟩ rfl hg (by decide) (by rw [h1,h2]) (by rw [h2];rfl)
def RNs (g:List Int->List Str):List D->List D->Prop:=λds es=> ∃ ns:List Int,ds=[scr ns]/\ns.length<=63/\es=(g ns).map .str
theorem Qp2:(Str.ofString "pqrstu").length=6:=by decide +kernel
theorem Qsj:(Str.ofString "abcdef").length=6:=by decide +kernel
theorem Qte:Vf ["_law_script"] ["_law_script"] (Vs Qdo):=⟨rfl,rfl,rfl,by decide +kernel,rfl,by decide +kernel,by decide +kernel⟩
theorem Qpn (T:Txt K mg) (F:Fd K mg "_law_kinds" Qdo ["_law_script"]) (G1:PrD P w K mg base "_law_cell" 1 ZO RCell) (G2:PrD P w K mg base "_law_word" 2 Qkg RLWord):PrL P w K mg base "_law_kinds" 3 ["_law_script"] (RNs kinds):=by
 refine Qe0 (N:=["_law_script"]) F Qte (Q5 _) λf Km A outer s H E ds es hr hR _=> ?_
 obtain ⟨ns,rfl,_,rfl⟩:=hR;have e:(kinds ns).map D.str=(W4 0 6).map (λd=>match d with | .int j=> .str (word (cell ns 0) j.toNat "pqrstu") | d=>d):=by
  simp [W4,kinds,Qx,QZ]
 rw [e];refine Vz (B4 (ZK rfl (YJ (n:=6) T.bRng Vi (by decide) (by decide)) (by rw [Y6];exact Vl (by decide)) λd hd cl C s H ex=> ?_));obtain ⟨j,hj,rfl⟩:=Q6.mp hd;have hj':j < 6:=Je.mp hj;refine Zc G2 hr (Vc (U4 (k:=0) G1 (hr.mono (by decide)) (Vv 1 rfl) Vi) (Vc (Vv 0 rfl) (Vc Vt Vn))) ⟨cell ns 0,j, "pqrstu",by simp,by rw [Qp2];exact hj',by rw [Qp2];decide,by simp⟩
theorem Qdg:Vf ["_law_script", "_law_many"] ["_law_script"] (Vs Qdl):=⟨rfl,rfl,rfl,by decide +kernel,rfl,by decide +kernel,by decide +kernel⟩
theorem Qo3 {X:Cx} {ρ:List (Option D)} {x:Str} {p0 p1 p2 p3 p4 p5 p6 p7 p8 p9 pa pb pc pd pe pz:Pos} {j0 j1 j2 j3 j4} {ns:List Int} (hns:ns.length<=63) (hl:X.mg "len" =none) (G1:PrD X.prog X.w X.K X.mg X.base "_law_cell" 1 ZO RCell) (G2:PrD X.prog X.w X.K X.mg X.base "_law_mix" 1 Qa5 RMix) (hr:Room 1 X.A)
  (hs: ∀ p,PD X ρ (.Name x p) (scr ns)) (g1:Gl X "len" :=by rfl) (g2:Gl X "_law_mix" :=by rfl) (g3:Gl X "_law_cell" :=by rfl) :
  PB X ρ (.BoolOp .Or [.Compare (.Call (.Name "len" p0) [.Name x p1] [] p2) [.Gt] [.Constant (.int 63) j0 p3] p4,
   .Compare (.Call (.Name "_law_mix" p5) [.Call (.Name "_law_cell" p6) [.Name x p7,.Constant (.int 3) j1 p8] [] p9,.Constant (.int 9479) j2 pa,.Constant (.int 7) j3 pb] [] pc) [.Eq] [.Constant (.int 3) j4 pd] pe] pz)
   (decide (mix (cell ns 3) 9479 7=3)):=by
 have e:decide ((63:Int) < ((ns.map D.int).length:Nat))=false:=QM (by rw [Q2];omega);have h1:=Jat (pos:=p4) (YK (p:=p0) (pos:=p2) hl (hs p1) Bf (λy e=>nomatch e) g1) (Vi (X:=X) (ρ:=ρ) (pos:=p3) (i:=63) (j:=j0));rw [e] at h1;have h2:=Jas (pos:=pz) h1 (λ_=>Qs9 (pos:=pz) (Qd4 (pos:=pe) (ZR (p:=p5) (pos:=pc) G2 hr (U4 (k:=3) (p:=p6) (pos:=p9) G1 hr (hs p7) (Vi (j:=j1) (pos:=p8)) g3) (Vi (i:=9479) (j:=j2) (pos:=pa)) (Vi (i:=7) (j:=j3) (pos:=pb)) (by decide) (by decide) g2) (Vi (i:=3) (j:=j4) (pos:=pd))));rw [Qhb] at h2;exact Qjd h2
theorem Qpi (T:Txt K mg) (F:Fd K mg "_law_words" Qdl ["_law_script"]) (G1:PrD P w K mg base "_law_cell" 1 ZO RCell) (G2:PrD P w K mg base "_law_word" 2 Qkg RLWord) (G3:PrD P w K mg base "_law_mix" 1 Qa5 RMix):PrL P w K mg base "_law_words" 3 ["_law_script"] (RNs words):=by
 refine Qe0 (N:=["_law_script", "_law_many"]) F Qdg (by decide) λf Km A outer s H E ds es hr hR _=> ?_
 obtain ⟨ns,rfl,hns,rfl⟩:=hR;have hr1:=hr.mono (show 1<=2 by decide);have hw:Ux ns<=4:=by unfold Ux;split<;>omega
 refine WT (Z9 (i:=1) (d:= .int 3) Vi Qdg.nd) ?_;refine WT (m:=true) (τ1:=[.arg (scr ns),.any (.int (Ux ns))]) ?_ ?_
 ·refine ZF (Qo3 hns T.bLen G1 G3 hr1 (λp=>Vv 0 rfl)) (λh=> ?_) (λh=> ?_)
  ·have e:Ux ns=4:=Qj (WD h);rw [e];exact Vz (Z9 (i:=1) (d:= .int 4) Vi Qdg.nd)
  ·have e:Ux ns=3:=Qg (Y2 h);rw [e];exact Za
 ·have e:(words ns).map D.str=(W4 0 (Ux ns)).map (λd=>match d with | .int j=> .str (word (cell ns 1) j.toNat "abcdef") | d=>d):=by
   simp [W4,words,Qx,QZ]
  rw [e];have hi:=λ{X:Cx} {tg a p pos} (h1:X.mg "range" =none) (h2:PD X (dat [.arg (scr ns),.any (.int (Ux ns))]) a (.int (Ux ns))) (h3:Gl X "range") (h4)=>YJ (X:=X) (tg:=tg) (p:=p) (pos:=pos) h1 h2 (by omega) (by omega) h3 h4
  refine Vz (B4 (ZK rfl (hi T.bRng (Vv 1 rfl) rfl rfl) (by rw [Y6];exact Vl (by omega)) λd hd cl C s H ex=> ?_));obtain ⟨j,hj,rfl⟩:=Q6.mp hd;have hj':j < Ux ns:=Je.mp hj;refine Zc G2 hr (Vc (U4 (k:=1) G1 hr1 (Vv 1 rfl) Vi) (Vc (Vv 0 rfl) (Vc Vt Vn))) ⟨cell ns 1,j, "abcdef",by simp,by rw [Qsj];omega,by rw [Qsj];decide,by simp⟩
def RSize:List D->D->Prop:=λds d=> ∃ (ns:List Int) (k:Nat),ds=[scr ns,.int k]/\k < 6/\d= .int (size ns k:Nat)
theorem Qx2:Vf ["_law_script", "_law_k"] ["_law_script", "_law_k"] (Vs Qjv):=⟨rfl,rfl,rfl,by decide +kernel,rfl,by decide +kernel,by decide +kernel⟩
theorem Qu6 (T:Txt K mg) (F:Fd K mg "_law_size" Qjv ZO) (G1:PrD P w K mg base "_law_cell" 1 ZO RCell) (G3:PrD P w K mg base "_law_mix" 1 Qa5 RMix):PrD P w K mg base "_law_size" 2 ZO RSize:=by
 refine G0 (N:=["_law_script", "_law_k"]) F Qx2 (Q5 _) λf Km A outer s H E ds d hr hR _=> ?_
 obtain ⟨ns,k,rfl,hk,hd⟩:=hR;have e:((size ns k:Nat):Int)=(([2,1,2,1,0,2]:List Int).getD k 0)+(if decide (mix (cell ns 1+k) 9923 7=0)=true then 1 else 0):=by
  unfold size;have e1:((([2,1,2,1,0,2]:List Nat).getD k 0:Nat):Int)=([2,1,2,1,0,2]:List Int).getD k 0:=by
   clear hd hr
   match k,hk with
   | 0,_=>rfl
   | 1,_=>rfl
   | 2,_=>rfl
   | 3,_=>rfl
   | 4,_=>rfl
   | 5,_=>rfl
  rw [Int.natCast_add,e1]
  by_cases h:mix (cell ns 1+k) 9923 7=0<;>simp [h]
 rw [e] at hd;subst hd;have hix:dAt (.lst [.int 2,.int 1,.int 2,.int 1,.int 0,.int 2]) k=some (.int (([2,1,2,1,0,2]:List Int).getD k 0)):=by
  show atI ([.int 2,.int 1,.int 2,.int 1,.int 0,.int 2]:List D) k=_
  match k,hk with
  | 0,_=>exact Zd rfl
  | 1,_=>exact Zd rfl
  | 2,_=>exact Zd rfl
  | 3,_=>exact Zd rfl
  | 4,_=>exact Zd rfl
  | 5,_=>exact Zd rfl
 refine Vz (WG (ZQ (Jf (da:= .lst [.int 2,.int 1,.int 2,.int 1,.int 0,.int 2]) (PDL.pd (W5 (Vc Vi (Vc Vi (Vc Vi (Vc Vi (Vc Vi (Vc Vi Vn)))))) (Vl (by decide)))) (Vv 1 rfl) hix (λx e=>nomatch e)) (Qyw T.bInt (Qw7 (ZR G3 hr (ZQ (U4 (k:=1) G1 hr (Vv 0 rfl) Vi) (Vv 1 rfl)) Vi Vi (by decide) (by decide)) Vi))))
def RSome:List D->D->Prop:=λds d=> ∃ (c:Int) (ss:List Str),ds=[.int c,.lst (ss.map .str)]/\ss≠[]/\d= .str (pick c ss)
abbrev B0:List Str:=["_law_cell_here", "_law_things"]
theorem Qx1:Vf B0 B0 (Vs Qju):=⟨rfl,rfl,rfl,by decide +kernel,rfl,by decide +kernel,by decide +kernel⟩
theorem B9 {α β:Type} (f:α->β) (l:List α) (i:Nat) (d:α):(l.map f).getD i (f d)=f (l.getD i d):=by
 rw [Qa,Qa,Qe];cases l[i]? <;>rfl
theorem Qu5 (T:Txt K mg) (F:Fd K mg "_law_some" Qju B0) (G3:PrD P w K mg base "_law_mix" 1 Qa5 RMix):PrD P w K mg base "_law_some" 2 B0 RSome:=by
 refine G0 (N:=B0) F Qx1 (Q5 _) λf Km A outer s H E ds d hr hR _=> ?_
 obtain ⟨c,ss,rfl,Kn,rfl⟩:=hR;have hl:0 < ss.length:=ZD.mpr Kn;have hl':(0:Int) < ((ss.map D.str).length:Nat):=by rw [Q2];omega
 have h1:=Zn c 9907 hl';have h0:=Wd c 9907 hl';refine Vz (WG (Jf (Vv 1 rfl) (ZR G3 hr (Vv 0 rfl) Vi (YK T.bLen (Vv 1 rfl) Bf (λy e=>nomatch e)) (by decide) hl') ?_));show atI (ss.map D.str) _=_;rw [YL (D.str "") h0 h1,B9,Q2];rfl
abbrev Qc8:List Str:=["_law_script", "_law_cell_here", "_law_head", "_law_free"]
abbrev Qw4:List Str:=["_law_script", "_law_cell_here", "_law_head", "_law_free", "_law_words_here", "_law_kinds_here", "_law_found", "_law_k", "_law_kind", "_law_terms", "_law_j"]
theorem Yu:Vf Qw4 Qc8 (Vs Qjz):=⟨rfl,rfl,rfl,by decide +kernel,rfl,by decide +kernel,by decide +kernel⟩
def JT (a:At):D:=(Li.mk true a).d
theorem Qnt (a:At):JT a= .tup [.str "yes",.tup [.str a.k,.tup (a.ts.map .str)]]:=rfl
theorem Qnu (a:At):LF (JT a)=true:=by
 rw [Qnt];simp only [Qsl,LFs,JE,Bq,Bool.and_true];exact Jw (λ_=>JE) _
def RBody:List D->List D->Prop:=λds es=> ∃ (ns:List Int) (c:Int) (head:Nat) (free:Bool),ds=[scr ns,.int c,.int head,.bl free]/\ns.length<=63/\head < 6/\es=(body ns c head free).map JT
abbrev from7 (ns:List Int):List Str:=["X", "Y", "Z", "X", "Y",(words ns).getD 0 "",(words ns).getD 1 ""]
theorem YQ (l:List Str):LFs (l.map D.str)=true:=Jw (λ_=>JE) _
theorem Uo {α:Type} (f:Nat->α) (n:Nat):(List.range (n+1)).map f=(List.range n).map f++[f n]:=by
 rw [List.range_succ,QF];rfl
theorem wix (ns:List Int) {k:Nat} (h:k < 3):dAt (.lst ((words ns).map D.str)) k=some (.str ((words ns).getD k "")):=by
 have hl:k < (words ns).length:=by rcases Y1 ns with z | z<;>omega
 show atI ((words ns).map D.str) k=_;rw [YL (D.str "") (by omega) (by rw [Q2];omega),B9]
 simp
theorem kix (ns:List Int) {k:Nat} (h:k < 6):dAt (.lst ((kinds ns).map D.str)) k=some (.str (kd ns k)):=by
 show atI ((kinds ns).map D.str) k=_;rw [YL (D.str "") (by omega) (by rw [Q2,Qmr];omega),B9];simp [kd]
set_option maxHeartbeats 1000000 in
theorem Qug (T:Txt K mg) (F:Fd K mg "_law_body" Qjz Qc8) (G3:PrD P w K mg base "_law_mix" 1 Qa5 RMix) (G4:PrL P w K mg base "_law_words" 3 ["_law_script"] (RNs words)) (G5:PrL P w K mg base "_law_kinds" 3 ["_law_script"] (RNs kinds))
  (G6:PrD P w K mg base "_law_size" 2 ZO RSize) (G7:PrD P w K mg base "_law_some" 2 B0 RSome):PrL P w K mg base "_law_body" 4 Qc8 RBody:=by
 refine Qe0 (N:=Qw4) F Yu (by decide) λf Km A outer s H E ds es hr hR _=> ?_
 obtain ⟨ns,c,head,free,rfl,hns,hh,rfl⟩:=hR;have hr1:=hr.mono (show 1<=3 by decide);have hr2:=hr.mono (show 2<=3 by decide);have hm1:=Zn c 9901 (m:=4) (by omega);have hm0:=Wd c 9901 (m:=4) (by omega);refine WT (JR (i:=4) (Ya G4 hr (Vc (Vv 0 rfl) Vn) ⟨ns,rfl,hns,rfl⟩) (YQ _) Yu.nd) ?_;refine WT (JR (i:=5) (Ya G5 hr (Vc (Vv 0 rfl) Vn) ⟨ns,rfl,hns,rfl⟩) (YQ _) Yu.nd) ?_;refine WT (JR (i:=6) (W5 Vn (Vl (by decide))) rfl Yu.nd) ?_;refine WT (m:=false) (Qpz (j:=7) (k:=mix c 9901 4) (m:=false) (λi=>[.arg (scr ns),.arg (.int c),.arg (.int head),.arg (.bl free),.own ((words ns).map .str),.own ((kinds ns).map .str),.own ((List.range i).map λk=>JT (Zt ns c head free k)),.no,.no,.no,.no])
  QI rfl T.bRng (ZR G3 hr1 (Vv 1 rfl) Vi Vi (by decide) (by decide)) (by omega) (by omega) rfl (λi hi=>⟨false,?_,λh=>nomatch h⟩) Yu.nd) ?_
 ·-- a turn
  have hi4:i < 4:=by omega
  generalize hfd:((List.range i).map λk=>JT (Zt ns c head free k))=Kx;have hfl:Kx.length<=4:=by rw [<- hfd,Q2,Wa];omega
  generalize hak:(if free=true then mix (c+31 * (i:Int)) 9887 6 else mix (c+31 * (i:Int)) 9887 ((head:Int)+1))=aK;have hk0:0<=aK:=by
   rw [<- hak];split
   ·exact Wd _ _ (by omega)
   ·exact Wd _ _ (by omega)
  have hbk:=Qgv c hh free i;refine ZE (m:=false) (τ1:=[.arg (scr ns),.arg (.int c),.arg (.int head),.arg (.bl free),.own ((words ns).map .str),.own ((kinds ns).map .str),.own (Kx++[JT (Zt ns c head free i)]),.any (.int i),.any (.int (WU c head free i:Nat)),.own ((Zt ns c head free i).ts.map .str),.no]) ?_ ?_ (λh=>nomatch h)
  ·refine YF (Z9 (i:=8) (d:= .int (mix (c+31 * (i:Int)) 9887 ((head:Int)+1))) (ZR G3 hr1 (ZQ (Vv 1 rfl) (O4 Vi (Vv 7 rfl) (.inl ⟨by decide,by decide⟩))) Vi (ZQ (Vv 2 rfl) Vi) (by decide) (by omega)) Yu.nd) ?_;refine YF (τ1:=[.arg (scr ns),.arg (.int c),.arg (.int head),.arg (.bl free),.own ((words ns).map .str),.own ((kinds ns).map .str),.own Kx,.any (.int i),.any (.int aK),.no,.no]) (ZF (k:=free) (Bh (Vv 3 rfl)) (λh=> ?_) (λh=> ?_)) ?_
   ·subst h;have e:aK=mix (c+31 * (i:Int)) 9887 6:=by rw [<- hak];rfl
    rw [e];exact Vz (Z9 (i:=8) (ZR G3 hr1 (ZQ (Vv 1 rfl) (O4 Vi (Vv 7 rfl) (.inl ⟨by decide,by decide⟩))) Vi Vi (by decide) (by decide)) Yu.nd)
   ·subst h;have e:aK=mix (c+31 * (i:Int)) 9887 ((head:Int)+1):=by rw [<- hak];rfl
    rw [e];exact Za
   ·refine YF (τ1:=[.arg (scr ns),.arg (.int c),.arg (.int head),.arg (.bl free),.own ((words ns).map .str),.own ((kinds ns).map .str),.own Kx,.any (.int i),.any (.int (WU c head free i:Nat)),.no,.no])
     (ZF (Qjd (Gq (Qd4 (Vv 7 rfl) Vi) (λ_=>Gq (Qd4 (Vv 8 rfl) (Vv 2 rfl)) (λ_=>Qes (Qd4 (ZR G3 hr1 (Vv 1 rfl) Vi Vi (by decide) (by decide)) Vi))))) (λh=> ?_) (λh=> ?_)) ?_
    ·have e:WU c head free i=0:=by
      simp only [Qv,QB] at h;obtain ⟨h1,h2,h3⟩:=h;unfold WU;simp only;rw [Qj];refine ⟨by omega,?_,h3⟩;have e2:(if free=true then (mix (c+31 * (i:Int)) 9887 6).toNat else (mix (c+31 * (i:Int)) 9887 ((head:Int)+1)).toNat)=aK.toNat:=by rw [<- hak];split<;>rfl
      rw [e2,h2];omega
     rw [e];exact Vz (Z9 (i:=8) (d:= .int 0) Vi Yu.nd)
    ·have e:((WU c head free i:Nat):Int)=aK:=by
      simp only [Bool.and_eq_false_iff,decide_eq_false_iff_not] at h;unfold WU;simp only;have e2:(if free=true then (mix (c+31 * (i:Int)) 9887 6).toNat else (mix (c+31 * (i:Int)) 9887 ((head:Int)+1)).toNat)=aK.toNat:=by rw [<- hak];split<;>rfl
      rw [e2,Qg]
      ·omega
      ·rintro ⟨h1,h2,h3⟩;rcases h with h | h | h
       ·exact h (by omega)
       ·exact h (by omega)
       ·exact h h3
     rw [e];exact Za
    ·generalize hq:WU c head free i=q at hbk;have ets:(Zt ns c head free i).ts=(List.range (size ns q)).map λ(j:Nat)=>pick (c+13 * i+5 * j) (from7 ns):=by rw [<- hq];rfl
     have ek:(Zt ns c head free i).k=kd ns q:=by rw [<- hq];rfl
     have hsz:=UP ns q;refine YF (JR (i:=9) (ds:=[]) (W5 Vn (Vl (by decide))) rfl Yu.nd) ?_;refine Qa8 (m:=false) (Qpz (j:=10) (k:=(size ns q:Nat)) (m:=false) (λjj=>[.arg (scr ns),.arg (.int c),.arg (.int head),.arg (.bl free),.own ((words ns).map .str),.own ((kinds ns).map .str),.own Kx,.any (.int i),.any (.int (q:Nat)),.own ((List.range jj).map λ(j:Nat)=> .str (pick (c+13 * i+5 * j) (from7 ns))),.no])
      QI rfl T.bRng (Zc G6 hr2 (Vc (Vv 0 rfl) (Vc (Vv 8 rfl) Vn)) ⟨ns,q,rfl,hbk,rfl⟩) (by omega) (by omega) rfl (λjj hjj=>⟨false,?_,λh=>nomatch h⟩) Yu.nd) ?_
     ·rw [Jy] at hjj;refine ZE (m:=false) (Vz (Y7 (i:=9) (d:= .str (pick (c+13 * i+5 * jj) (from7 ns))) rfl (Zc G7 hr2 (Vc (ZQ (ZQ (Vv 1 rfl) (O4 Vi (Vv 7 rfl) (.inl ⟨by decide,by decide⟩))) (O4 Vi (Vv 10 rfl) (.inl ⟨by decide,by decide⟩)))
       (Vc (PDL.pd (W5 (Vc Vt (Vc Vt (Vc Vt (Vc Vt (Vc Vt (Vc (Jf (Vv 4 rfl) Vi (wix ns (k:=0) (by decide))) (Vc (Jf (Vv 4 rfl) Vi (wix ns (k:=1) (by decide))) Vn))))))) (Vl (by simp)))) Vn)) ⟨_,from7 ns,rfl,by simp,rfl⟩) JE (AL.h ⟨Gs,Gs,Gs,trivial⟩) ?_)) ?_ (λh=>nomatch h)
      ·rw [Q2,Wa];exact Qr (Qr hjj hsz) (Vl (by decide))
      ·rw [Uo];exact WkI.wk (.keep (.keep (.keep (.keep (.keep (.keep (.keep (.keep (.keep (.keep (.no .nil)))))))))))
     ·rw [Jy];have e1:((List.range (size ns q)).map λ(j:Nat)=>D.str (pick (c+13 * i+5 * j) (from7 ns)))=(Zt ns c head free i).ts.map D.str:=by rw [ets,Qx];rfl
      rw [e1];refine Vz (Y7 (i:=6) (d:=JT (Zt ns c head free i)) rfl ?_ (Qnu _) (AL.h ⟨Gs,Gs,trivial⟩) (Y3 hfl (by rw [Jb];decide)));rw [Qnt,ek];exact Vp (Vc Vt (Vc (Vp (Vc (Jf (Vv 5 rfl) (Vv 8 rfl) (kix ns hbk)) (Vc (Wj T.bTup (Vv 9 rfl) (.inl rfl)) Vn)) (Vl (by simp))) Vn)) (Vl (by simp))
  ·rw [Uo,hfd];exact WkI.wk (.keep (.keep (.keep (.keep (.keep (.keep (.keep (.no (.no (.no (.no .nil)))))))))))
 ·have e:(body ns c head free).map JT=(List.range (mix c 9901 4).toNat).map λk=>JT (Zt ns c head free k):=by
   rw [body,Qx];rfl
  rw [e];exact Vz (Ut (i:=6) rfl)
abbrev Qqb:List Str:=["_law_body_here", "_law_found", "_law_literal", "_law_term"]
theorem Om:Vf Qqb ["_law_body_here"] (Vs Qdr):=⟨rfl,rfl,rfl,by decide +kernel,rfl,by decide +kernel,by decide +kernel⟩
def RBound:List D->List D->Prop:=λds es=> ∃ as:List At,ds=[.lst (as.map JT)]/\as.length<=4/\(∀ a∈as,a.ts.length<=3)/\es=(bound as).map .str
theorem Qsi (acc:List Str) (t:Str):(Yh acc t).length<=acc.length+1:=by
 unfold Yh;split
 ·simp
 ·omega
theorem BN: ∀ (ts acc:List Str),(ts.foldl Yh acc).length<=acc.length+ts.length
 | [],acc=>by simp
 | t::ts,acc=>by
  rw [QY,Qq];have h1:=BN ts (Yh acc t);have h2:=Qsi acc t;omega
theorem Bg: ∀ (as:List At) (acc:List Str),(∀ a∈as,a.ts.length<=3)->(as.foldl (λacc a=>a.ts.foldl Yh acc) acc).length<=acc.length+3 * as.length
 | [],acc,_=>by simp
 | a::as,acc,h=>by
  rw [QY,Qq];have h1:=Bg as (a.ts.foldl Yh acc) λb hb=>h b (Q7 _ hb)
  have h2:=BN a.ts acc;have h3:=h a Q8;omega
theorem BR {as:List At} (h: ∀ a∈as,a.ts.length<=3):(bound as).length<=3 * as.length:=by
 have:=Bg as [] h;simpa [RH.bound] using this
theorem Qja {as:List At} {i:Nat} {a:At} (h:as[i]? =some a):bound (as.take (i+1))=a.ts.foldl Yh (bound (as.take i)):=by
 rw [QX,h,RH.bound,RH.bound,WF];rfl
theorem Qiz {ts:List Str} {i:Nat} {t:Str} (acc:List Str) (h:ts[i]? =some t):(ts.take (i+1)).foldl Yh acc=Yh ((ts.take i).foldl Yh acc) t:=by
 rw [QX,h,WF];rfl
theorem Qpp (F:Fd K mg "_law_bound" Qdr ["_law_body_here"]):PrL P w K mg base "_law_bound" 1 ["_law_body_here"] RBound:=by
 refine Qe0 (N:=Qqb) F Om (by decide) λf Km A outer s H E ds es hr hR _=> ?_
 obtain ⟨as,rfl,hal,hts,rfl⟩:=hR;refine WT (JR (i:=1) (W5 Vn (Vl (by decide))) rfl Om.nd) ?_;refine WT (m:=false) (Qie (j:=2) (k:=0) (ds:=as.map JT) (m:=false) (λi=>[.arg (.lst (as.map JT)),.own ((bound (as.take i)).map .str),.no,.no]) QI rfl rfl rfl (λi d hi=>⟨false,?_,λh=>nomatch h⟩) Om.nd) ?_
 ·obtain ⟨a,ha,rfl⟩: ∃ a,as[i]? =some a/\JT a=d:=by
   rw [Qe] at hi;exact Yr.mp hi
  have hmem:=Q9 ha;have h3:=hts a hmem;have hbl:(bound (as.take i)).length<=12:=by
   have h1:=BR (as:=as.take i) λb hb=>hts b (W2 hb)
   have h2:(as.take i).length<=4:=Qu (by rw [QA];omega) hal;omega
  generalize hacc:bound (as.take i)=acc at hbl;refine ZE (m:=false) (Vz (Qy4 (j:=3) (ds:=a.ts.map .str) (m:=false) (λjj=>[.arg (.lst (as.map JT)),.own (((a.ts.take jj).foldl Yh acc).map .str),.arg (JT a),.no]) QI rfl
   (Jf (da:= .tup [.str a.k,.tup (a.ts.map .str)]) (Jf (Vv 2 rfl) Vi at1) Vi at1) (YQ _) rfl (λjj d hj=>⟨false,?_,λh=>nomatch h⟩) Om.nd)) ?_ (λh=>nomatch h)
  ·obtain ⟨t,ht,rfl⟩: ∃ t,a.ts[jj]? =some t/\D.str t=d:=by
    rw [Qe] at hj;exact Yr.mp hj
   have hfl:((a.ts.take jj).foldl Yh acc).length<=15:=by
    have h1:=BN (a.ts.take jj) acc;have h2:(a.ts.take jj).length<=3:=Qu (by rw [QA];omega) h3;omega
   rw [Qiz acc ht];generalize hac:(a.ts.take jj).foldl Yh acc=ac at hfl;refine Vz (ZF (Qjd (Gq (Qwa (ss:=XYZ) (Vv 3 rfl) (PDL.pd (W5 (Vc Vt (Vc Vt (Vc Vt Vn))) (Vl (by decide)))) (.inr rfl)) (λ_=>Qes (Qgw (ss:=ac) (Vv 3 rfl) (Vv 1 rfl) (.inr rfl))))) (λh=> ?_) (λh=> ?_))
   ·have e:Yh ac t=ac++[t]:=by
     unfold Yh;rw [Qj];simpa using h
    rw [e,QF];refine ZE (m:=false) (Vz (Y7 (i:=1) (d:= .str t) rfl (Vv 3 rfl) JE (AL.h ⟨JE,trivial⟩) (by rw [Q2];exact Y3 hfl (by rw [Jb];decide)))) ?_ (λh=>nomatch h);exact WkI.wk (.keep (.keep (.keep (.no .nil))))
   ·have e:Yh ac t=ac:=by
     unfold Yh;rw [Qg];intro hc;rw [Jz hc.1,QM hc.2] at h;cases h
    rw [e];exact ZE Za (WkI.wk (.keep (.keep (.keep (.no .nil))))) (λh=>nomatch h)
  ·rw [Q2,QK,Qja ha,hacc];exact WkI.wk (.keep (.keep (.no (.no .nil))))
 ·rw [Q2,QK];exact Vz (Ut (i:=1) rfl)
theorem Jam {X:Cx} {ρ:List (Option D)} {a:Expr} {i:Int} {pos:Pos} (h:PD X ρ a (.int i)):PD X ρ (.UnaryOp .USub a pos) (.int (-i)) :=
 ZA (Qzw Qwo h.pe) λσ H Q he q=>⟨he,λv H1 s1 i1=>⟨i,ZI i1,q _ H1 s1 (ZH _)⟩⟩
theorem O1 {α:Type}: ∀ (l:List α) (k:Nat) (x:α),k<=l.length->l.insertIdx k x=l.take k++x::l.drop k
 | l,0,x,_=>by simp
 | [],k+1,x,h=>by simp at h
 | a::l,k+1,x,h=>by
  rw [List.insertIdx_succ_cons,O1 l k x (by simpa using h)];rfl
theorem lastix {l:List Str} (h:l≠[]):dAt (.lst (l.map D.str)) (-1)=some (.str (l.getLastD "")):=by
 show atI (l.map D.str) (-1)=_;obtain ⟨r,x,rfl⟩: ∃ r x,l=r++[x]:=⟨l.dropLast,l.getLast h,(List.dropLast_concat_getLast h).symm⟩;rw [QF];have:=Qsd (r.map D.str) (D.str x);simpa using this
abbrev By:List Str:=["_law_script", "_law_cell_here", "_law_free"]
abbrev Qq8:List Str:=["_law_script", "_law_cell_here", "_law_free", "_law_head", "_law_body_here", "_law_terms", "_law_kind", "_law_some_here"]
theorem YS:Vf Qq8 By (Vs Qdn):=⟨rfl,rfl,rfl,by decide +kernel,rfl,by decide +kernel,by decide +kernel⟩
def RLRule:List D->D->Prop:=λds d=> ∃ (ns:List Int) (c:Int) (free:Bool),ds=[scr ns,.int c,.bl free]/\ns.length<=63/\d=(rule ns c free).d
theorem Qer {ns:List Int} {c:Int} {head:Nat} {free:Bool}: ∀ a∈body ns c head free,a.ts.length<=3:=by
 intro a ha;obtain ⟨k,_,rfl⟩:=Q6.mp ha;exact Qb1 ..
theorem Qbm (ns:List Int) (c:Int) (free:Bool):(Jc ns c free).length<=11:=by
 unfold Jc;rw [Qs];have h1:=BR (as:=body ns c (QL c) free) Qer;have h2:=Qb0 ns c (QL c) free
 simp
 omega
theorem Ja7 (l:Li):LF l.d=true:=by
 show LF (.tup [.str _,.tup [.str _,.tup (l.a.ts.map .str)]])=true;simp only [Qsl,LFs,JE,Bq,Bool.and_true];exact YQ _
theorem Qjj (as:List At):as.map JT=(as.map λa=>Li.mk true a).map Li.d:=by
 rw [Qx];rfl
theorem Qfo (f:Nat->Int) (n:Nat) (l:List Str):((List.range n).map λ(j:Nat)=>pick (f j) l).map D.str=(W4 0 n).map (λd=>match d with | .int j=> .str (pick (f j.toNat) l) | d=>d):=by
 simp [W4,Qx,QZ]
set_option maxHeartbeats 1000000 in
theorem Qpm (T:Txt K mg) (F:Fd K mg "_law_rule" Qdn By) (G3:PrD P w K mg base "_law_mix" 1 Qa5 RMix) (G4:PrL P w K mg base "_law_words" 3 ["_law_script"] (RNs words)) (G5:PrL P w K mg base "_law_kinds" 3 ["_law_script"] (RNs kinds))
  (G6:PrD P w K mg base "_law_size" 2 ZO RSize) (G7:PrD P w K mg base "_law_some" 2 B0 RSome) (G8:PrL P w K mg base "_law_body" 4 Qc8 RBody) (G9:PrL P w K mg base "_law_bound" 1 ["_law_body_here"] RBound):PrD P w K mg base "_law_rule" 5 By RLRule:=by
 refine G0 (N:=Qq8) F YS (by decide) λf Km A outer s H E ds d hr hR _=> ?_
 obtain ⟨ns,c,free,rfl,hns,rfl⟩:=hR;have hr1:=hr.mono (show 1<=4 by decide);have hr2:=hr.mono (show 2<=4 by decide);have hr3:=hr.mono (show 3<=4 by decide);have hh:=Qcl c;have hm0:=Wd c 9871 (m:=6) (by omega);have ehd:mix c 9871 6=(QL c:Nat):=by unfold QL;omega
 have Kn:words ns≠[]:=λh=>by rcases Y1 ns with z | z<;>simp [h] at z
 have hbl:=Qb0 ns c (QL c) free;have htl:=Qbm ns c free;have htn:=YU ns c free;refine Vq (τ1:=[.arg (scr ns),.arg (.int c),.arg (.bl free),.any (.int (QL c:Nat)),.no,.no,.no,.no]) (m:=true) ?_ ?_
 ·rw [<- ehd];exact Z9 (i:=3) (ZR G3 hr1 (Vv 1 rfl) Vi Vi (by decide) (by decide)) YS.nd
 refine Vq (JR (i:=4) (Ya G8 hr (Vc (Vv 0 rfl) (Vc (Vv 1 rfl) (Vc (Vv 3 rfl) (Vc (Vv 2 rfl) Vn)))) ⟨ns,c,QL c,free,rfl,hns,hh,rfl⟩) (Jw Qnu _) YS.nd) ?_;refine Vq (m:=true) (τ1:=[.arg (scr ns),.arg (.int c),.arg (.bl free),.any (.int (QL c:Nat)),.own ((body ns c (QL c) free).map JT),.own ((Jc ns c free).map .str),.no,.no]) ?_ ?_
 ·have e:(Jc ns c free).map D.str=(RH.bound (body ns c (QL c) free)).map D.str++[.str ((words ns).getD 0 ""),.str ((words ns).getLastD "")]:=by
   unfold Jc;rw [QF];rfl
  rw [e];have hbo:=BR (as:=body ns c (QL c) free) Qer;refine JR (i:=5) (Qap (PDL.pd (Ya G9 hr1 (Vc (Vv 4 rfl) Vn) ⟨_,rfl,by omega,Qer,rfl⟩)) (PDL.pd (W5 (Vc (Jf (PDL.pd (Ya G4 hr3 (Vc (Vv 0 rfl) Vn) ⟨ns,rfl,hns,rfl⟩)) Vi (wix ns (k:=0) (by decide))) (Vc (Jf (PDL.pd (Ya G4 hr3 (Vc (Vv 0 rfl) Vn) ⟨ns,rfl,hns,rfl⟩)) (Jam Vi) (lastix Kn)) Vn)) (Vl (by simp)))) ?_) ?_ YS.nd
  ·rw [Q2];exact Vl (by simp;omega)
  ·rw [WH,YQ];simp [LFs,JE]
 refine Vq (m:=false) (τ1:=[.arg (scr ns),.arg (.int c),.arg (.bl free),.any (.int (QL c:Nat)),.own ((Wg ns c free).map Li.d),.own ((Jc ns c free).map .str),.no,.no])
  (ZF (Qjd (Gq (Qd3 (Bh (Vv 2 rfl))) (λ_=>Gq (Jat (Vv 3 rfl) Vi) (λ_=>Gq (Qsb (YK T.bLen (Vv 4 rfl) Bf (λy e=>nomatch e)) Vi) (λ_=>Qes (Qd4 (ZR G3 hr1 (Vv 1 rfl) Vi Vi (by decide) (by decide)) Vi)))))) (λh=> ?_) (λh=> ?_)) ?_
 ·have hn:B8 ns c free=true:=by
   simp only [Qv,QB,Q2] at h;unfold B8;simp only [Qv,QB];exact ⟨⟨⟨h.1,by omega⟩,by omega⟩,h.2.2.2⟩
  have h0:=Qis hn;have hk0:=Wd c 9857 (m:=QL c) (by omega);have ekd:mix c 9857 (QL c:Nat)=(Zm c:Nat):=by unfold Zm;omega
  have hkl:=Qmh c h0;have hsz:=UP ns (Zm c);have hi0:=Wd c 9851 (m:=((body ns c (QL c) free).map JT).length+1) (by omega);have hi1:=Zn c 9851 (m:=((body ns c (QL c) free).map JT).length+1) (by omega);have erb:(Wg ns c free).map Li.d=((body ns c (QL c) free).map JT).take (mix c 9851 (((body ns c (QL c) free).map JT).length+1)).toNat++(⟨false,Od ns c free⟩:Li).d::((body ns c (QL c) free).map JT).drop (mix c 9851 (((body ns c (QL c) free).map JT).length+1)).toNat:=by
   unfold Wg;simp only;rw [Qj hn,Q2,O1 _ _ _ (by rw [Q2] at hi1 ⊢; omega),Qjj,QF,Qk,List.map_take,List.map_drop,Q2,Q2]
  rw [erb];refine ZE (m:=false) (τ1:=[.arg (scr ns),.arg (.int c),.arg (.bl free),.any (.int (QL c:Nat)),.own (((body ns c (QL c) free).map JT).take (mix c 9851 (((body ns c (QL c) free).map JT).length+1)).toNat++(⟨false,Od ns c free⟩:Li).d::((body ns c (QL c) free).map JT).drop (mix c 9851 (((body ns c (QL c) free).map JT).length+1)).toNat),.own ((Jc ns c free).map .str),.any (.int (Zm c:Nat)),.own ((Od ns c free).ts.map .str)]) ?_ (WkI.wk (.keep (.keep (.keep (.keep (.keep (.keep (.no (.no .nil))))))))) (λh=>nomatch h);refine YF (τ1:=[.arg (scr ns),.arg (.int c),.arg (.bl free),.any (.int (QL c:Nat)),.own ((body ns c (QL c) free).map JT),.own ((Jc ns c free).map .str),.any (.int (Zm c:Nat)),.no]) ?_ ?_
  ·rw [<- ekd];exact Z9 (i:=6) (ZR G3 hr1 (Vv 1 rfl) Vi (Vv 3 rfl) (by decide) (by omega)) YS.nd
  refine YF (τ1:=[.arg (scr ns),.arg (.int c),.arg (.bl free),.any (.int (QL c:Nat)),.own ((body ns c (QL c) free).map JT),.own ((Jc ns c free).map .str),.any (.int (Zm c:Nat)),.own ((Od ns c free).ts.map .str)]) ?_ ?_
  ·have e:(Od ns c free).ts.map D.str=(W4 0 (size ns (Zm c))).map (λd=>match d with | .int j=> .str (pick (c+3+j.toNat) (Jc ns c free)) | d=>d):=Qfo (λj=>c+3+j) _ _;rw [e];refine B2 (i:=7) (by rw [<- e];exact YQ _) YS.nd rfl (YJ (n:=(size ns (Zm c):Nat)) T.bRng (Zc G6 hr2 (Vc (Vv 0 rfl) (Vc (Vv 6 rfl) Vn)) ⟨ns,_,rfl,hkl,rfl⟩) (by omega) (by omega)) (by rw [Y6];exact Vl (by omega)) λd hd cl C s H ex=> ?_
   obtain ⟨j,hj,rfl⟩:=Q6.mp hd;exact Zc G7 hr2 (Vc (ZQ (ZQ (Vv 2 rfl) Vi) (Vv 0 rfl)) (Vc (Vv 6 rfl) Vn)) ⟨c+3+j,Jc ns c free,by simp,htn,by simp⟩
  ·refine Vz (Qpx (i:=4) (k:=mix c 9851 (((body ns c (QL c) free).map JT).length+1)) (d:=(⟨false,Od ns c free⟩:Li).d) rfl (ZR G3 hr1 (Vv 1 rfl) Vi (ZQ (YK T.bLen (Vv 4 rfl) Bf (λy e=>nomatch e)) Vi) (by decide) (by omega)) ?_ (Ja7 _) (AL.h ⟨Gs,Gs,trivial⟩) hi0 (by omega) (by rw [Q2];exact Y3 hbl (by rw [Jb];decide)));show PD _ _ _ (.tup [.str "no",.tup [.str (kd ns (Zm c)),.tup ((Od ns c free).ts.map .str)]]);exact Vp (Vc Vt (Vc (Vp (Vc (Jf (PDL.pd (Ya G5 hr3 (Vc (Vv 0 rfl) Vn) ⟨ns,rfl,hns,rfl⟩)) (Vv 6 rfl) (kix ns hkl)) (Vc (Wj T.bTup (Vv 7 rfl) (.inl rfl)) Vn)) (Vl (by simp))) Vn)) (Vl (by simp))
 ·have hn:B8 ns c free=false:=by
   cases hx:B8 ns c free with
   | false=>rfl
   | true =>
    exfalso;unfold B8 at hx;simp only [Qv,QB] at hx;obtain ⟨⟨⟨h1,h2⟩,h3⟩,h4⟩:=hx;rw [h1,Jz (show (0:Int) < (QL c:Nat) by omega),Jz (show (((List.map JT (body ns c (QL c) free)).length:Nat):Int) < 4 by rw [Q2];omega),Jz h4] at h;cases h
  have erb:(Wg ns c free).map Li.d=(body ns c (QL c) free).map JT:=by
   unfold Wg;simp only;rw [hn,Qjj];rfl
  rw [erb];exact ZE Za (Wk.refl _) (λh=>nomatch h)
 ·have hsz:=UP ns (QL c);have hrl:=GU ns c free;refine Vq (m:=true) (τ1:=[.arg (scr ns),.arg (.int c),.arg (.bl free),.any (.int (QL c:Nat)),.own ((Wg ns c free).map Li.d),.own ((Jc ns c free).map .str),.no,.own ((rule ns c free).h.ts.map .str)]) ?_ ?_
  ·have e:(rule ns c free).h.ts.map D.str=(W4 0 (size ns (QL c))).map (λd=>match d with | .int j=> .str (pick (c+17 * (j.toNat:Nat)) (Jc ns c free)) | d=>d):=Qfo (λj=>c+17 * j) _ _;rw [e];refine B2 (i:=7) (by rw [<- e];exact YQ _) YS.nd rfl (YJ (n:=(size ns (QL c):Nat)) T.bRng (Zc G6 hr2 (Vc (Vv 0 rfl) (Vc (Vv 3 rfl) Vn)) ⟨ns,_,rfl,hh,rfl⟩) (by omega) (by omega)) (by rw [Y6];exact Vl (by omega)) λd hd cl C s H ex=> ?_
   obtain ⟨j,hj,rfl⟩:=Q6.mp hd;exact Zc G7 hr2 (Vc (ZQ (Vv 2 rfl) (O4 Vi (Vv 0 rfl) (.inl ⟨by decide,by decide⟩))) (Vc (Vv 6 rfl) Vn)) ⟨c+17 * j,Jc ns c free,by simp,htn,by simp⟩
  ·refine Vz (WG ?_);show PD _ _ _ (.tup [.tup [.str (kd ns (QL c)),.tup ((rule ns c free).h.ts.map .str)],.tup ((Wg ns c free).map Li.d)]);exact Vp (Vc (Vp (Vc (Jf (PDL.pd (Ya G5 hr3 (Vc (Vv 0 rfl) Vn) ⟨ns,rfl,hns,rfl⟩)) (Vv 3 rfl) (kix ns hh)) (Vc (Wj T.bTup (Vv 7 rfl) (.inl rfl)) Vn)) (Vl (by simp))) (Vc (Wj T.bTup (Vv 4 rfl) (.inl rfl)) Vn)) (Vl (by simp))
end
def BY (ns:List Int):Nat:=if mix (cell ns 3) 9479 7=3 then 9 else 5
def Qaj (ns:List Int):Bool:=decide (cell ns 2 % 3=0)
def cutR (ns:List Int):List Int:=Og ns (some 4) (some (4+(BY ns:Int)))
def rulesR (ns:List Int):List Ru:=(cutR ns).map λc=>rule ns c (Qaj ns)
def Qdu (ns:List Int):List D:=(rulesR ns).map Ru.d
theorem Qar {α β:Type} (f:α->β) (l:List α) (lo hi:Option Int):Og (l.map f) lo hi=(Og l lo hi).map f:=by
 unfold Og;rw [Q2,List.map_take,List.map_drop]
theorem Qrv {α:Type} (l:List α) (a k:Nat):(Og l (some (a:Int)) (some ((a:Int)+(k:Int)))).length<=k:=by
 have e:((a:Int)+(k:Int))=((a+k:Nat):Int):=by omega
 unfold Og;rw [e,HT.Qdp,HT.Qdp,QA,JX];omega
theorem Qqj (ns:List Int):BY ns<=9:=by unfold BY;split<;>omega
theorem Qgk (ns:List Int):(cutR ns).length<=9:=Qu (Qrv ns 4 (BY ns)) (Qqj ns)
section
variable {P:Program} {w:World} {K:W.Frag} {mg:Str->Option Value} {base:Heap}
def RNsT (g:List Int->List D):List D->D->Prop:=λds d=> ∃ ns:List Int,ds=[scr ns]/\ns.length<=63/\d= .tup (g ns)
abbrev Qq6:List Str:=["_law_script", "_law_most", "_law_free"]
theorem Oj:Vf Qq6 ["_law_script"] (Vs Op):=⟨rfl,rfl,rfl,by decide +kernel,rfl,by decide +kernel,by decide +kernel⟩
set_option maxHeartbeats 1000000 in
theorem Qpj (T:Txt K mg) (F:Fd K mg "_law_rules" Op ["_law_script"]) (G1:PrD P w K mg base "_law_cell" 1 ZO RCell) (G3:PrD P w K mg base "_law_mix" 1 Qa5 RMix) (GL:PrD P w K mg base "_law_rule" 5 By RLRule):PrD P w K mg base "_law_rules" 6 ["_law_script"] (RNsT Qdu):=by
 refine G0 (N:=Qq6) F Oj (by decide) λf Km A outer s H E ds d hr hR _=> ?_
 obtain ⟨ns,rfl,hns,rfl⟩:=hR;have hr1:=hr.mono (show 1<=5 by decide);refine Vq (Z9 (i:=1) (d:= .int 5) Vi Oj.nd) ?_;refine Vq (m:=true) (τ1:=[.arg (scr ns),.any (.int (BY ns:Nat)),.no]) ?_ ?_
 ·refine ZF (Qo3 hns T.bLen G1 G3 hr1 (λp=>Vv 0 rfl)) (λh=> ?_) (λh=> ?_)
  ·have e:BY ns=9:=Qj (WD h);rw [e];exact Vz (Z9 (i:=1) (d:= .int 9) Vi Oj.nd)
  ·have e:BY ns=5:=Qg (Y2 h);rw [e];exact Za
 refine Vq (Z9 (i:=2) (d:= .bl (Qaj ns)) (Qw7 (Ql5 (U4 (k:=2) G1 hr1 (Vv 0 rfl) Vi) Vi (by decide)) Vi) Oj.nd) ?_;have e:Qdu ns=(Og (ns.map D.int) (some 4) (some (4+(BY ns:Int)))).map (λd=>match d with | .int c=>(rule ns c (Qaj ns)).d | d=>d):=by
  rw [Qar];simp [Qdu,rulesR,cutR,Qx,QZ]
 rw [e];have hl:=Qgk ns;refine Vz (WG (Wj T.bTup (PDL.pd (ZK rfl (UY (PDL.pd (Qge (Vv 0 rfl) (OA Vi) (OA (ZQ Vi (Vv 1 rfl)))))) ?_ λd hd cl C s H ex=> ?_)) (.inl rfl)))
 ·rw [Qar,Q2];exact Vl (Qu hl (by decide))
 ·rw [Qar] at hd;obtain ⟨c,_,rfl⟩:=Q6.mp hd;exact Zc GL hr (Vc (Vv 1 rfl) (Vc (Vv 0 rfl) (Vc (Vv 3 rfl) Vn))) ⟨ns,c,Qaj ns,rfl,hns,rfl⟩
end
end K24
namespace L2
open PySem PySem.Spec PyProof.Rows PySem.W
section
variable {X:Cx}
variable {ρ:List (Option D)} {a e:Expr} {d:D} {ds:List D} {ks:List Str} {pos:Pos}
theorem Qjb:bootBuiltins "dict" =some (.type "dict"):=by decide +kernel
theorem Qc0 {α:Type}: ∀ {a:List Str} {b:List α} {k:Str} {x:α},a.length=b.length->k ∉ a->putVs a b k x=b++[x]
 | [],[],_,_,_,_=>rfl
 | c::a,d::b,k,x,h,n=>by
  rw [putVs,Qg (λz=>n (by rw [z];exact Q8)),Qc0 (by simpa using h) (λz=>n (Q7 _ z))];rfl
 | [],_::_,_,_,h,_=>by simp at h
 | _::_,[],_,_,h,_=>by simp at h
end
section
variable {X:Cx} {ρ:List (Option D)} {a b e:Expr} {d:D} {ds:List D} {pos:Pos}
def Qzo (K:W.Frag) (ρ:List (Option D)) (ds:List D):TE:=λσ H Q=>EnvIs K H σ ρ/\ ∀ p vs ob H',H p=none->Same H H'->H' p=some (.frz ob (.lst vs))->Va K H' ds vs->Q (.ref p) H'
theorem Inv.freeze {Kz:Ke} {σ:St} {H:Hp} {s:Shared} {p:Addr} {vs:List V} (I:Inv X Kz σ H s) (hp:H p=some (.lst vs)): ∃ ob,Inv X Kz σ (upd H p (.frz ob (.lst vs))) s:=by
 obtain ⟨z,Kv,n,r,e⟩:=(show ObjOk X.prog X.w H s.heap p (.lst vs) from I.hok p _ hp);exact ⟨_,I.write (x:=p) (e:=p) (h':=s.heap) (t':=s.toks) (by rw [hp];exact QE) (.inl rfl) (λb u _ q=>q) ⟨_,e⟩ ⟨e,z,Kv,n,r,e⟩⟩
theorem UT (h:PDL X ρ e ds) (hl:LFs ds=true):PE X e (Qzo X.K ρ ds):=λKz s σ H Q I q=>by
 refine Jh (h.pe Kz s σ H (λv H1=> ∃ p vs,v= .ref p/\H p=none/\Same H H1/\H1 p=some (.lst vs)/\Va X.K H1 ds vs) I ⟨q.1,λp vs H' n s hp i=>⟨p,vs,rfl,n,s,hp,i⟩⟩) (λu s1 ⟨x,H1,I1,r,p,vs,ex,n,s01,hp,i⟩=> ?_) λ_ _ z=>z
 subst ex;obtain ⟨ob,I2⟩:=I1.freeze hp;refine ⟨.ref p,_,I2,r,q.2 p vs ob _ n (λc o z=> ?_) Vu (i.tsame (TSame.updM hp (λ_ e=>nomatch e) (λ_ _ e=>nomatch e)) hl)⟩;rw [Qo (QH z n)];exact s01 _ _ z
theorem Qrk {elt iter:Expr} {x y:Str} {px py tp:Pos} {tk:Nat} {scope:Scope} {us:List (D×D)} {f:D->D->D} (hc:X.calm=true) (ha:PD X ρ iter (.tup (us.map λu=> .tup [u.1,u.2]))) (hz:us.length<=sizeLine)
  (he: ∀ u v,(u,v)∈us-> ∀ cl C s H ex,PD (cxP X x y scope cl C s H ex) (some u::some v::ρ) elt (f u v))
  (hok:WI X.N X.env.scope x scope=true:=by rfl) (hy:scope.names.lookup y=some .local:=by rfl) (hnd:(x::y::X.N).Nodup:=by decide) (hf: ∀ v,foldedSetIterable iter X.env v=pure v:=by intro _;rfl) :
  PDL X ρ (.ListComp elt [⟨.Tuple [.Name x px,.Name y py] tk tp,iter,[],0⟩] scope pos) (us.map λp=>f p.1 p.2):=by
 refine ⟨(Qpc (tc:=Qo4) (te:=λσ H Q=> ∃ u v,(u,v)∈us/\rdD X.K (some u::some v::ρ) (f u v) σ H Q) hc (Qa2 ha.pe) (λ_ _ _ _ _=>Qdx)
  (λcl C s H ex Kz s' σ H' Q I ⟨u,v,hm,q⟩=>(he u v hm cl C s H ex).pe Kz s' σ H' Q I q) hok hy hnd hf).imp λσ H Q q=> ?_⟩
 obtain ⟨hE,q⟩:=q;refine ⟨hE,λv H1 s1 i1=> ?_⟩;obtain ⟨p1,xs,rfl,q1,r1⟩:=JB i1;have l1:=r1.length;rw [Q2] at l1;refine ⟨p1,rfl,⟨xs,q1⟩,λi m ws H2=>Same H1 H2/\i<=us.length/\m=us.length - i/\Va X.K H2 ((us.take i).map λp=>f p.1 p.2) ws,⟨_,Same.refl _,Qz _,rfl,by simpa using QR⟩,?_⟩;rintro i m ws H2 ⟨s2,hi,rfl,r⟩
 by_cases Ks:i < us.length
 ·refine .inr ⟨⟨xs,xs[i]'(by omega),s2.sqT q1,by simp⟩,?_,λv H3 yl=> ?_⟩
  ·have:=r.length;rw [Q2,QA] at this;omega
  ·obtain ⟨rfl,hx⟩:=yl;obtain ⟨d,ed,id⟩:=r1.at (hx xs (s2.sqT q1));have hu:us[i]? =some us[i]:=Qc Ks;rw [Qe,hu] at ed;cases ed;obtain ⟨p,vs,rfl,hq,ia⟩:=JB (id.same s2);obtain ⟨vx,vy,rfl,iu,iw⟩:=ia.two;refine ⟨p,vx,vy,rfl,hq,?_⟩;unfold Qo4;simp only [Wt];refine ⟨_,_,Q9 hu,((hE.same (s1.trans s2)).cons iw).cons iu,λz H5 s5 iz=>⟨us.length - (i+1),by omega,s2.trans s5,Ks,rfl,?_⟩⟩;have ht4:us.take (i+1)=us.take i++[us[i]]:=by rw [QX,hu];rfl
   rw [ht4,QF];exact (r.same s5).append (Vg iz QR)
 ·have e:i=us.length:=by omega
  refine .inl ⟨⟨xs,s2.sqT q1,by omega⟩,λl hl=>q l ws _ ((s1.trans s2).free hl) ((s1.trans s2).trans (Same.upd hl)) Vu (Va.same (Same.upd hl) ?_)⟩;rw [e,QK] at r;exact r
end
section
variable {X:Cx} {H₀:Hp} {τ:List Sl} {e c:Expr} {d:D} {ds:List D} {pos:Pos} {m:Bool}
theorem Qpv {i:Nat} {x:Str} {p:Pos} (h:PDL X (dat τ) e ds) (hl:LFs ds=true) (hN:X.N.Nodup) (hi:X.N[i]? =some x:=by rfl) (hx:Loc X.env.scope x:=by first | exact QJ rfl | exact QD rfl)
  (hs:swapsWith e (some (.Name x p)) pos.line X.env=pure false:=by rfl) (hf:X.fn x=true \/ X.env.scope.names.lookup x=some .local:=by first | exact .inl rfl | exact .inr rfl):QO X H₀ τ (.Assign [.Name x p] e pos) (.next true (τ.set i (.flt ds))) :=
 ⟨(Gj hN hi hx (UT h hl) hs hf).imp λD σ H q=>⟨q.1.env,λp vs ob H' n s hp iv=>q.2 _ H' s ((q.1.step s).set i ⟨p,vs,rfl,⟨ob,hp⟩,hl,iv⟩ λds e=>nomatch e)⟩⟩
theorem Gm {tg iter:Expr} {body:List Stmt} {wi:TI} {g:TG} {put:List Sl->D->List Sl} (Kq:Nat->List Sl) (hp:PassesOwn (model X.prog X.w) X.A X.env X.xe) (hc:X.calm=true) (hi:PI X tg iter wi) (hg:PG X tg g)
  (hput: ∀ d∈ds,∀ (τ':List Sl) (σ:St) (H:Hp) (v:V) (Q:St->Hp->Prop),EnvO X.K H₀ H σ τ'->Is X.K H d v->(∀ Kt,EnvO X.K H₀ H Kt (put τ' d)->Q Kt H)->g v σ H Q)
  (hr: ∀ σ H R,EnvO X.K H₀ H σ τ->(∀ J H' (St:Hp->Prop),Same H H'->St H'->(∀ H1 H2,St H1->Rl m H1 H2->Same H₀ H2->St H2)->JSt X.K H₀ J St ds .any->R J H')->wi σ H R)
  (h0:Kq 0=τ) (hb: ∀ (i:Nat) (d:D),ds[i]? =some d-> ∃ n,QOs X H₀ (put (Kq i) d) body (.next n (Kq (i+1)))/\(m=true->n=true))
  (hs: ∀ x,foldedSetIterable iter X.env x=pure x:=by intro _;rfl) :
  QO X H₀ τ (.For tg iter body [] pos) (.next m (Kq ds.length)):=by
 have hb':PSs X body (λD σ H=> ∃ i d,ds[i]? =some d/\rdO X.K H₀ (put (Kq i) d) (.next m (Kq (i+1))) D σ H):=λKz s σ H D I ⟨i,d,hd,q⟩=>by
  obtain ⟨n,hq,hn⟩:=hb i d hd;exact hq.pe Kz s σ H D I ⟨q.1,λKt H' t=>q.2 Kt H' (t.weak hn)⟩
 refine ⟨(Yv hp hc hi hg hb' hs).imp λD σ H q=> ?_⟩;refine hr σ H _ q.1 λJ H1 St s1 st1 keep ji=> ?_
 refine ⟨λi k Kt H'=>i<=ds.length/\k=ds.length - i/\EnvO X.K H₀ H' Kt (Kq i)/\Rl m H H'/\St H',⟨ds.length,Qz _,rfl,by rw [h0];exact q.1.step s1,.of s1,st1⟩,?_⟩;rintro i k Kt H' ⟨hi',rfl,he,hm,st⟩
 by_cases Ks:i < ds.length
 ·refine .inr ⟨ji.go i H' st Ks,λσ2 H2=>EnvO X.K H₀ H2 σ2 (Kq (i+1))/\Rl m H' H2,λσ2 H2 ⟨he2,hm2⟩=>⟨ds.length - (i+1),by omega,Ks,rfl,he2,?_,keep H' H2 st hm2 he2.same⟩,λy H2 yl=> ?_⟩
  ·have:=hm.trans hm2;rwa [Wm] at this
  ·obtain ⟨e,d,hd,v,ev,is⟩:=ji.yld i H' y H2 st Ks yl;subst e;cases ev;exact hput d (Q9 hd) _ Kt H2 y _ he is λσ'' he'=>⟨i,d,hd,he',λσ3 H3 t3 he3=>⟨he3,t3⟩⟩
 ·have e:i=ds.length:=by omega
  subst e;exact .inl ⟨ji.stop _ H' st (Q5 _),q.2 Kt H' hm he⟩
theorem Qxa (hl:LFs ds=true): ∀ σ H R,EnvO X.K H₀ H σ τ->(∀ J H' (St:Hp->Prop),Same H H'->St H'->(∀ H1 H2,St H1->Rl m H1 H2->Same H₀ H2->St H2)->JSt X.K H₀ J St ds .any->R J H')->Jac X.K (rdD X.K (dat τ) (.tup ds)) σ H R :=
 λσ H R he h=>⟨he.env,λv H' s iv=>by
  obtain ⟨p,vs,rfl,hq,ia⟩:=JB iv;have tq: ∀ {H2:Hp},TSame H' H2->SqT X.K H2 p vs:=λt=>by
   rcases hq with hq | hq
   ·exact .inl (t.tp _ _ hq)
   ·exact .inr hq
  refine ⟨p,rfl,⟨vs,hq⟩,h _ H' (λH2=>TSame H' H2) s (TSame.refl H') (λH1 H2 a b _=>a.trans b.t) ⟨λi H2 t hi=> ?_,λi H2 v H3 t hi y=> ?_,λi H2 t hi=> ?_⟩⟩
  ·exact (U0 (tq t) (ia.tsame t hl)).go i H2 (Same.refl _) hi
  ·obtain ⟨e,d,hd,is⟩:=(U0 (tq t) (ia.tsame t hl)).yld i H2 v H3 (Same.refl _) hi y;exact ⟨e,d,hd,v,rfl,is⟩
  ·exact (U0 (tq t) (ia.tsame t hl)).stop i H2 (Same.refl _) hi⟩
theorem Qot {σ:St} {H:Hp} {R:It->Hp->Prop} {p:Addr} {vs:List V} {ob:Obj} {H':Hp} (s:Same H H') (hp:H' p=some (.frz ob (.lst vs))) (hl:LFs ds=true) (ia:Va X.K H' ds vs) (h: ∀ J H' (St:Hp->Prop),Same H H'->St H'->(∀ H1 H2,St H1->Rl m H1 H2->Same H₀ H2->St H2)->JSt X.K H₀ J St ds .any->R J H'):R (Itl X.K p) H':=by
 have tq: ∀ {H2:Hp},TSame H' H2->SqL X.K H2 p vs:=λt=> .inl (.inr ⟨ob,t.fz _ _ _ hp⟩)
 refine h _ H' (λH2=>TSame H' H2) s (TSame.refl H') (λH1 H2 a b _=>a.trans b.t) ⟨λi H2 t hi=> ?_,λi H2 v H3 t hi y=> ?_,λi H2 t hi=> ?_⟩
 ·exact (Zb (tq t) (ia.tsame t hl)).go i H2 (Same.refl _) hi
 ·obtain ⟨e,d,hd,is⟩:=(Zb (tq t) (ia.tsame t hl)).yld i H2 v H3 (Same.refl _) hi y;exact ⟨e,d,hd,v,rfl,is⟩
 ·exact (Zb (tq t) (ia.tsame t hl)).stop i H2 (Same.refl _) hi
theorem Qxb {k:Nat} (hk:τ[k]? =some (.flt ds)): ∀ σ H R,EnvO X.K H₀ H σ τ->(∀ J H' (St:Hp->Prop),Same H H'->St H'->(∀ H1 H2,St H1->Rl m H1 H2->Same H₀ H2->St H2)->JSt X.K H₀ J St ds .any->R J H')->Qg4 X.K (OQ k) σ H R :=
 λσ H R he h=>by
  obtain ⟨o,e1,p,vs,rfl,⟨ob,hp⟩,hl,ia⟩:=he.sl k _ hk;exact ⟨_,e1,p,rfl,⟨vs,.inl (.inr ⟨ob,hp⟩)⟩,Qot (σ:=σ) (Same.refl H) hp hl ia h⟩
theorem Qk1 {k:Nat} (hk:τ[k]? =some (.arg (.lst ds))): ∀ σ H R,EnvO X.K H₀ H σ τ->(∀ J H' (St:Hp->Prop),Same H H'->St H'->(∀ H1 H2,St H1->Rl m H1 H2->Same H₀ H2->St H2)->JSt X.K H₀ J St ds .any->R J H')->Qg4 X.K (OQ k) σ H R :=
 λσ H R he h=>by
  obtain ⟨o,e1,v,rfl,iv⟩:=he.sl k _ hk;obtain ⟨p,vs,rfl,hq,ia⟩:=JY iv;refine ⟨_,e1,p,rfl,⟨vs,he.same.seq hq⟩,h _ H (λH2=>Same H₀ H2) (Same.refl H) he.same (λH1 H2 a b c=>c) ⟨λi H2 t hi=> ?_,λi H2 v H3 t hi y=> ?_,λi H2 t hi=> ?_⟩⟩
  ·exact (Zb (t.seq hq) (ia.same t)).go i H2 (Same.refl _) hi
  ·obtain ⟨e,d,hd,is⟩:=(Zb (t.seq hq) (ia.same t)).yld i H2 v H3 (Same.refl _) hi y;exact ⟨e,d,hd,v,rfl,is⟩
  ·exact (Zb (t.seq hq) (ia.same t)).stop i H2 (Same.refl _) hi
theorem Qos (hl:LFs ds=true): ∀ σ H R,EnvO X.K H₀ H σ τ->(∀ J H' (St:Hp->Prop),Same H H'->St H'->(∀ H1 H2,St H1->Rl m H1 H2->Same H₀ H2->St H2)->JSt X.K H₀ J St ds .any->R J H')->Qg4 X.K (Qzo X.K (dat τ) ds) σ H R :=
 λσ H R he h=>⟨he.env,λp vs ob H' n s hp ia=>⟨p,rfl,⟨vs,.inl (.inr ⟨ob,hp⟩)⟩,Qot (σ:=σ) s hp hl ia h⟩⟩
def nth (d:D) (i:Nat):D:=match d with | .tup ds=>ds.getD i .non | _=> .non
theorem put1 {i:Nat}: ∀ d∈ds,∀ (τ':List Sl) (σ:St) (H:Hp) (v:V) (Q:St->Hp->Prop),EnvO X.K H₀ H σ τ'->Is X.K H d v->(∀ Kt,EnvO X.K H₀ H Kt (τ'.set i (.any d))->Q Kt H)->Ba i v σ H Q :=
 λd _ τ' σ H v Q he iv q=>q _ (he.set i ⟨v,rfl,iv⟩ λds e=>nomatch e)
theorem put2 {i j:Nat} (h: ∀ d∈ds,∃ a b,d= .tup [a,b]): ∀ d∈ds,∀ (τ':List Sl) (σ:St) (H:Hp) (v:V) (Q:St->Hp->Prop),EnvO X.K H₀ H σ τ'->Is X.K H d v->(∀ Kt,EnvO X.K H₀ H Kt ((τ'.set i (.any (nth d 0))).set j (.any (nth d 1)))->Q Kt H)->Jaf X.K 2 (Qrc (Ba i) (Qrc (Ba j) Jag)) v σ H Q :=
 λd hd τ' σ H v Q he iv q=>by
  obtain ⟨a,b,rfl⟩:=h d hd;obtain ⟨p,vs,rfl,hq,ia⟩:=JB iv;obtain ⟨v1,v2,rfl,i1,i2⟩:=ia.two;refine ⟨p,_,rfl,hq,rfl,v1,[v2],rfl,v2,[],rfl,rfl,?_⟩;exact q _ ((he.set (s:= .any a) i ⟨v1,rfl,i1⟩ λds e=>nomatch e).set (s:= .any b) j ⟨v2,rfl,i2⟩ λds e=>nomatch e)
end
section
variable {X:Cx} {H₀:Hp} {τ:List Sl} {c:Expr} {d:D} {ds:List D} {pos:Pos} {m:Bool}
theorem Quj {tg iter:Expr} {body:List Stmt} {wi:TI} {g:TG} {put:List Sl->D->List Sl} (Kq:Nat->List Sl) (i0:Nat) (d0:D) (hd0:ds[i0]? =some d0) (hp:PassesOwn (model X.prog X.w) X.A X.env X.xe) (hc:X.calm=true) (hi:PI X tg iter wi) (hg:PG X tg g)
  (hput: ∀ d∈ds,∀ (τ':List Sl) (σ:St) (H:Hp) (v:V) (Q:St->Hp->Prop),EnvO X.K H₀ H σ τ'->Is X.K H d v->(∀ Kt,EnvO X.K H₀ H Kt (put τ' d)->Q Kt H)->g v σ H Q)
  (hr: ∀ σ H R,EnvO X.K H₀ H σ τ->(∀ J H' (St:Hp->Prop),Same H H'->St H'->(∀ H1 H2,St H1->Rl m H1 H2->Same H₀ H2->St H2)->JSt X.K H₀ J St ds .any->R J H')->wi σ H R)
  (h0:Kq 0=τ) (hb: ∀ (i:Nat) (d:D),i < i0->ds[i]? =some d-> ∃ n,QOs X H₀ (put (Kq i) d) body (.next n (Kq (i+1)))/\(m=true->n=true)) (hret:QOs X H₀ (put (Kq i0) d0) body (.ret d))
  (hs: ∀ x,foldedSetIterable iter X.env x=pure x:=by intro _;rfl) :
  QO X H₀ τ (.For tg iter body [] pos) (.ret d):=by
 have hb':PSs X body (λD σ H=>(∃ i e,i < i0/\ds[i]? =some e/\rdO X.K H₀ (put (Kq i) e) (.next m (Kq (i+1))) D σ H) \/ rdO X.K H₀ (put (Kq i0) d0) (.ret d) D σ H):=λKz s σ H D I q=>by
  rcases q with ⟨i,e,Ks,he,q⟩ | q
  ·obtain ⟨n,hq,hn⟩:=hb i e Ks he;exact hq.pe Kz s σ H D I ⟨q.1,λKt H' t=>q.2 Kt H' (t.weak hn)⟩
  ·exact hret.pe Kz s σ H D I q
 have hl0:i0 < ds.length:=(Q4.mp hd0).1;refine ⟨(Yv hp hc hi hg hb' hs).imp λD σ H q=> ?_⟩;refine hr σ H _ q.1 λJ H1 St s1 st1 keep ji=> ?_
 refine ⟨λi k Kt H'=>i<=i0/\k=i0 - i/\EnvO X.K H₀ H' Kt (Kq i)/\St H',⟨i0,Qz _,rfl,by rw [h0];exact q.1.step s1,st1⟩,?_⟩;rintro i k Kt H' ⟨hi',rfl,he,st⟩;have hil:i < ds.length:=by omega
 by_cases Ks:i < i0
 ·refine .inr ⟨ji.go i H' st hil,λσ2 H2=>EnvO X.K H₀ H2 σ2 (Kq (i+1))/\Rl m H' H2,λσ2 H2 ⟨he2,hm2⟩=>⟨i0 - (i+1),by omega,Ks,rfl,he2,keep H' H2 st hm2 he2.same⟩,λy H2 yl=> ?_⟩;obtain ⟨e,d',hd,v,ev,is⟩:=ji.yld i H' y H2 st hil yl;subst e;cases ev;exact hput d' (Q9 hd) _ Kt H2 y _ he is λσ'' he'=> .inl ⟨i,d',Ks,hd,he',λσ3 H3 t3 he3=>⟨he3,t3⟩⟩
 ·have e0:i=i0:=by omega
  subst e0;refine .inr ⟨ji.go i H' st hil,λ_ _=>False,λ_ _ z=>z.elim,λy H2 yl=> ?_⟩;obtain ⟨e,d',hd,v,ev,is⟩:=ji.yld i H' y H2 st hil yl;subst e;cases ev;rw [hd0] at hd;cases hd;exact hput _ (Q9 hd0) _ Kt H2 y _ he is λσ'' he'=> .inr ⟨he',q.2⟩
end
section
variable {X:Cx} {Kz:Ke} {σ:St} {H H₀:Hp} {s:Shared} {p:Addr}
theorem Inv.freezeD {Ku:List (Key×V)} (I:Inv X Kz σ H s) (hp:H p=some (.dK Ku)): ∃ ob,Inv X Kz σ (upd H p (.frz ob (.dK Ku))) s:=by
 have ok:ObjOk X.prog X.w H s.heap p (.dK Ku):=I.hok p _ hp;obtain ⟨z,hm,vs,rel,o,rest⟩:=(show Ku.length<=sizeLine/\(p == sysModules)=false/\ ∃ vs,KV Ku vs/\s.heap.DictOf (JF X.prog X.w) p vs from ok);obtain ⟨es,ep,ho,rest⟩:=rest;exact ⟨o,I.write (x:=p) (e:=p) (h':=s.heap) (t':=s.toks) (by rw [hp];exact QE) (.inl rfl) (λb u _ q=>q) ⟨_,ho⟩ ⟨ho,z,hm,vs,rel,o,es,ep,ho,rest⟩⟩
end
section
variable {K:W.Frag} {H H₀:Hp} {σ:St} {τ:List Sl} {j:Nat} {p:Addr}
theorem OG {u:Sl} {τ:List Sl} {j m:Nat} (hu: ∀ d,u≠ .any d) (Ks:j < τ.length) {d:D} (e:(τ.set j (.any d))[m]? =some u):τ[m]? =some u:=by
 by_cases hm:j=m
 ·subst hm;rw [Qm Ks] at e;exact absurd (J4 e).symm (hu d)
 ·rwa [Qh hm] at e
theorem EnvO.frzD {vs:List V} {ks:List Str} {ds:List D} {ob:Obj} (h:EnvO K H₀ H σ τ) (hi:τ[j]? =some (.odc ks ds)) (hσ:σ[j]? =some (some (.ref p))) (hn:H₀ p=none) (hp:DkAt false H p ks vs) (lf:LFs ds=true) (ia:Va K H ds vs)
  (hl: ∀ (j:Nat) (d:D),τ[j]? =some (.any d)->LF d=true):EnvO K H₀ (upd H p (.frz ob (.dK (W3 ks vs)))) σ (τ.set j (.any (.dct true (ks.map .str) ds))):=by
 have hp':H p=some (.dK (W3 ks vs)):=hp.at_;have ts:TSame H (upd H p (.frz ob (.dK (W3 ks vs)))):=TSame.updM hp' (λ_ e=>nomatch e) (λ_ _ e=>nomatch e);have Ks:j < τ.length:=(Q4.mp hi).1;refine ⟨λb o e=>by rw [Qo (QH e hn)];exact h.same b o e,by simp [h.len],λi u e=> ?_,λi k Ko es' q hik e1 e2=>h.apart i k Ko es' q hik (OG (λd z=>nomatch z) Ks e1) (OG (λd z=>nomatch z) Ks e2),
  λi k kk kk' Ko es' q hik e1 e2=>h.apD i k kk kk' Ko es' q hik (OG (λd z=>nomatch z) Ks e1) (OG (λd z=>nomatch z) Ks e2)⟩
 by_cases hj:j=i
 ·subst hj;rw [Qm Ks] at e;cases e;refine ⟨_,hσ,.ref p,rfl,?_⟩;rw [Is];exact ⟨p,ks,vs,rfl,rfl,⟨hp.len,hp.nd,⟨ob,Vu⟩⟩,ia.tsame ts lf⟩
 ·rw [Qh hj] at e;obtain ⟨o,e1,e2⟩:=h.sl i u e;refine ⟨o,e1,?_⟩;cases u with
  | no=>trivial
  | arg d=>exact e2
  | any d =>
   obtain ⟨v,z,t⟩:=e2;exact ⟨v,z,t.tsame ts (hl i d e)⟩
  | own Ko =>
   obtain ⟨p',Ki,z,n',t,l,a⟩:=e2;have Kn:p'≠p:=by
    rintro rfl;rw [hp'] at t;cases t
   exact ⟨p',Ki,z,n',by rw [Qo Kn];exact t,l,a.tsame ts l⟩
  | odc ks' Ko =>
   obtain ⟨p',Ki,z,n',t,l,a⟩:=e2;subst z;have ta:H p'=some (.dK (W3 ks' Ki)):=t.at_;have Kn:p'≠p:=by
    rintro rfl;exact h.apD j i ks ks' ds Ko p' hj hi e hσ e1
   refine ⟨p',Ki,rfl,n',⟨t.len,t.nd,?_⟩,l,a.tsame ts l⟩;show upd H p (.frz ob (.dK (W3 ks vs))) p'=_;rw [Qo Kn];exact ta
  | ftp Ko =>
   obtain ⟨p',Ki,z,⟨ob',hno,t⟩,l,a⟩:=e2;exact ⟨p',Ki,z,⟨ob',hno,ts.fz _ _ _ t⟩,l,a.tsame ts l⟩
  | flt Ko =>
   obtain ⟨p',Ki,z,⟨ob',t⟩,l,a⟩:=e2;exact ⟨p',Ki,z,⟨ob',ts.fz _ _ _ t⟩,l,a.tsame ts l⟩
  | odx hs' ks3 Ko =>
   obtain ⟨p',as,Ki,z,n',t,hnd,l1,l2,ik,a⟩:=e2;have Kn:p'≠p:=by
    rintro rfl;rw [hp'] at t;cases t
   exact ⟨p',as,Ki,z,n',by rw [Qo Kn];exact t,hnd,l1,l2,ik.tsame ts l1,a.tsame ts l2⟩
theorem Ow {u:Sl} {τ:List Sl} {j m:Nat} {ds:List D} (hu: ∀ d,u≠ .flt d) (Ks:j < τ.length) (e:(τ.set j (.flt ds))[m]? =some u):τ[m]? =some u:=by
 by_cases hm:j=m
 ·subst hm;rw [Qm Ks] at e;exact absurd (J4 e).symm (hu ds)
 ·rwa [Qh hm] at e
theorem EnvO.frzL {vs:List V} {ds:List D} {ob:Obj} (h:EnvO K H₀ H σ τ) (hi:τ[j]? =some (.own ds)) (hσ:σ[j]? =some (some (.ref p))) (hn:H₀ p=none) (hp:H p=some (.lst vs)) (lf:LFs ds=true) (ia:Va K H ds vs)
  (hl: ∀ (j:Nat) (d:D),τ[j]? =some (.any d)->LF d=true):EnvO K H₀ (upd H p (.frz ob (.lst vs))) σ (τ.set j (.flt ds)):=by
 have ts:TSame H (upd H p (.frz ob (.lst vs))):=TSame.updM hp (λ_ e=>nomatch e) (λ_ _ e=>nomatch e);have Ks:j < τ.length:=(Q4.mp hi).1;refine ⟨λb o e=>by rw [Qo (QH e hn)];exact h.same b o e,by simp [h.len],λi u e=> ?_,λi k Ko es' q hik e1 e2=>h.apart i k Ko es' q hik (Ow (λd z=>nomatch z) Ks e1) (Ow (λd z=>nomatch z) Ks e2),
  λi k kk kk' Ko es' q hik e1 e2=>h.apD i k kk kk' Ko es' q hik (Ow (λd z=>nomatch z) Ks e1) (Ow (λd z=>nomatch z) Ks e2)⟩
 by_cases hj:j=i
 ·subst hj;rw [Qm Ks] at e;cases e;exact ⟨_,hσ,p,vs,rfl,⟨ob,Vu⟩,lf,ia.tsame ts lf⟩
 ·rw [Qh hj] at e;obtain ⟨o,e1,e2⟩:=h.sl i u e;refine ⟨o,e1,?_⟩;cases u with
  | no=>trivial
  | arg d=>exact e2
  | any d =>
   obtain ⟨v,z,t⟩:=e2;exact ⟨v,z,t.tsame ts (hl i d e)⟩
  | own Ko =>
   obtain ⟨p',Ki,z,n',t,l,a⟩:=e2;subst z;have Kn:p'≠p:=by
    rintro rfl;exact h.apart j i ds Ko p' hj hi e hσ e1
   exact ⟨p',Ki,rfl,n',by rw [Qo Kn];exact t,l,a.tsame ts l⟩
  | odc ks' Ko =>
   obtain ⟨p',Ki,z,n',t,l,a⟩:=e2;have ta:H p'=some (.dK (W3 ks' Ki)):=t.at_;have Kn:p'≠p:=by
    rintro rfl;rw [hp] at ta;cases ta
   refine ⟨p',Ki,z,n',⟨t.len,t.nd,?_⟩,l,a.tsame ts l⟩;show upd H p (.frz ob (.lst vs)) p'=_;rw [Qo Kn];exact ta
  | ftp Ko =>
   obtain ⟨p',Ki,z,⟨ob',hno,t⟩,l,a⟩:=e2;exact ⟨p',Ki,z,⟨ob',hno,ts.fz _ _ _ t⟩,l,a.tsame ts l⟩
  | flt Ko =>
   obtain ⟨p',Ki,z,⟨ob',t⟩,l,a⟩:=e2;exact ⟨p',Ki,z,⟨ob',ts.fz _ _ _ t⟩,l,a.tsame ts l⟩
  | odx hs' ks3 Ko =>
   obtain ⟨p',as,Ki,z,n',t,hnd,l1,l2,ik,a⟩:=e2;have Kn:p'≠p:=by
    rintro rfl;rw [hp] at t;cases t
   exact ⟨p',as,Ki,z,n',by rw [Qo Kn];exact t,hnd,l1,l2,ik.tsame ts l1,a.tsame ts l2⟩
end
section
variable {X:Cx} {H₀:Hp} {τ τ2:List Sl} {sts:List Stmt} {j:Nat} {ks:List Str} {ds:List D} {m:Bool}
theorem Qy3 (hi:τ[j]? =some (.odc ks ds)) (hl: ∀ (j:Nat) (d:D),τ[j]? =some (.any d)->LF d=true) (h:QOs X H₀ (τ.set j (.any (.dct true (ks.map .str) ds))) sts (.next m τ2)):QOs X H₀ τ sts (.next false τ2) :=
 ⟨λKz s σ H D I q=>by
  obtain ⟨o,e1,p,vs,rfl,n,dk,lf,ia⟩:=q.1.sl j _ hi;have hp':H p=some (.dK (W3 ks vs)):=dk.at_;obtain ⟨ob,I2⟩:=I.freezeD hp';have ts:TSame H (upd H p (.frz ob (.dK (W3 ks vs)))):=TSame.updM hp' (λ_ e=>nomatch e) (λ_ _ e=>nomatch e);refine h.pe Kz s σ _ D I2 ⟨q.1.frzD hi e1 n dk lf ia hl,λKt H' t he=>q.2 Kt H' (ts.trans ?_) he⟩;cases m
  ·exact t
  ·exact Same.t t⟩
theorem Qy2 (hi:τ[j]? =some (.own ds)) (hl: ∀ (j:Nat) (d:D),τ[j]? =some (.any d)->LF d=true) (h:QOs X H₀ (τ.set j (.flt ds)) sts (.next m τ2)):QOs X H₀ τ sts (.next false τ2) :=
 ⟨λKz s σ H D I q=>by
  obtain ⟨o,e1,p,vs,rfl,n,hp,lf,ia⟩:=q.1.sl j _ hi;obtain ⟨ob,I2⟩:=I.freeze hp;have ts:TSame H (upd H p (.frz ob (.lst vs))):=TSame.updM hp (λ_ e=>nomatch e) (λ_ _ e=>nomatch e);refine h.pe Kz s σ _ D I2 ⟨q.1.frzL hi e1 n hp lf ia hl,λKt H' t he=>q.2 Kt H' (ts.trans ?_) he⟩;cases m
  ·exact t
  ·exact Same.t t⟩
theorem Qmg {i:Nat} {x y:Str} {p py pos:Pos} (hj:τ[j]? =some (.flt ds)) (hN:X.N.Nodup) (hNj:X.N[j]? =some y:=by rfl) (hi:X.N[i]? =some x:=by rfl) (hx:Loc X.env.scope x:=by first | exact QJ rfl | exact QD rfl)
  (hv:Vis X.env.scope y:=by first | exact QJ rfl | exact QD (QJ rfl) | exact QD (QD rfl)) (hdb:(y == ("__debug__" :Str))=false:=by decide) (hcd:(y == ("__classdict__" :Str))=false:=by decide)
  (hf:X.fn x=true \/ X.env.scope.names.lookup x=some .local:=by first | exact .inl rfl | exact .inr rfl):QO X H₀ τ (.Assign [.Name x p] (.Name y py) pos) (.next true (τ.set i (.flt ds))) :=
 ⟨(Gj hN hi hx (Wr hNj hv hdb hcd) rfl hf).imp λD σ H q=>by
  obtain ⟨o,e1,p,vs,rfl,⟨ob,t⟩,l,a⟩:=q.1.sl j _ hj;exact ⟨_,e1,q.2 _ H (Same.refl H) (q.1.set i ⟨p,vs,rfl,⟨ob,t⟩,l,a⟩ λds e=>nomatch e)⟩⟩
end
section
variable {X:Cx} {ρ:List (Option D)} {a e:Expr} {ks:List Str} {ds:List D} {pos:Pos}
theorem Qj9:CallR X (.type "dict") (λvs H Q=> ∃ a Ku,vs=[.ref a]/\Rd H a (.dK Ku)/\ ∀ p,H p=none->Q (.ref p) (upd H p (.dK Ku))):=by
 intro Kz s σ H xs us Q I r h;obtain ⟨p,Ku,rfl,hr,q⟩:=h;obtain ⟨u,rfl,ru⟩:=vals1 r;cases (show u=Value.ref p from ru);exact Qrq I hr λb s' n I'=>⟨.ref b,_,I',rfl,q b n⟩
theorem Ql0 {p:Pos} {fz:Bool} (hm:X.mg "dict" =none) (ha:PD X ρ a (.dct fz (ks.map .str) ds)) (hg:Gl X "dict" :=by rfl) (h1:starEach [a] X.env=[(false,eval a X.env)]:=by rfl):PDM X ρ (.Call (.Name "dict" p) [a] [] pos) ks ds :=
 ⟨(YE Qj9 hg hm Qjb (Vc ha Vn h1).pe (by decide) (by decide) h1 rfl).imp λσ H Q q=>⟨q.1,λvs H1 s1 ia=>by
  obtain ⟨v,rfl,i⟩:=ia.one;obtain ⟨b,us,rfl,dk,ia2⟩:=Qee i;refine ⟨b,_,rfl,dk.rd,λc nc=>q.2 c us _ (s1.free nc) (s1.trans (Same.upd nc)) ⟨dk.len,dk.nd,Vu⟩ (ia2.same (Same.upd nc))⟩⟩⟩
theorem Qw6 (h:PDM X ρ e ks ds) (lf:LFs ds=true):PD X ρ e (.dct true (ks.map .str) ds):=⟨λKz s σ H Q I q=>by
 refine Jh (h.pe Kz s σ H (λv H1=> ∃ p vs,v= .ref p/\H p=none/\Same H H1/\DkAt false H1 p ks vs/\Va X.K H1 ds vs) I ⟨q.1,λp vs H' n s hp i=>⟨p,vs,rfl,n,s,hp,i⟩⟩) (λu s1 ⟨x,H1,I1,r,p,vs,ex,n,s01,hp,i⟩=> ?_) λ_ _ z=>z
 subst ex;have hp':H1 p=some (.dK (W3 ks vs)):=hp.at_;obtain ⟨ob,I2⟩:=I1.freezeD hp';have ts:TSame H1 (upd H1 p (.frz ob (.dK (W3 ks vs)))):=TSame.updM hp' (λ_ e=>nomatch e) (λ_ _ e=>nomatch e);refine ⟨.ref p,_,I2,r,q.2 _ _ (λc o z=> ?_) ?_⟩
 ·rw [Qo (QH z n)];exact s01 _ _ z
 ·rw [Is];exact ⟨p,ks,vs,rfl,rfl,⟨hp.len,hp.nd,⟨ob,Vu⟩⟩,i.tsame ts lf⟩⟩
end
end L2
namespace K24
open PySem L2 RH
abbrev YT:Stmt:=top 25
abbrev Qtf:Stmt:=top 26
abbrev Qdq:Stmt:=top 27
abbrev Qjx:Stmt:=top 33
abbrev Qbk:Stmt:=top 34
abbrev Qfg:Stmt:=top 35
def Qah (ks vs:List Str) (t:Str):Str:=vs.getD (ks.idxOf t) t
theorem Qeh {ks vs:List Str} {t:Str} (hl:ks.length=vs.length) (h:t ∉ ks):Qah ks vs t=t:=by
 unfold Qah;rw [Qa,List.idxOf_eq_length h,hl,Jn (Q5 _)];rfl
theorem Qg7 {ks vs:List Str} {t:Str} (hl:ks.length=vs.length) (h:t∈ks): ∃ i:Nat,ks[i]? =some t/\vs[i]? =some (Qah ks vs t):=by
 have h1:ks.idxOf t < ks.length:=QP h;refine ⟨ks.idxOf t,?_,?_⟩
 ·rw [Qc h1,Wq]
 ·unfold Qah;rw [Qa,Qc (by omega)];rfl
abbrev Gv:=List Str×List Str
def gD (g:Gv):D:= .dct true (g.1.map .str) (g.2.map .str)
def YC (g:Gv) (k w:Str):Gv:=(WB g.1 k,putVs g.1 g.2 k w)
def putA (a:RH.At) (g:Gv):RH.At:=⟨a.k,a.ts.map (Qah g.1 g.2)⟩
theorem Qc1 {α β:Type} (f:α->β): ∀ (ks:List Str) (vs:List α) (k:Str) (x:α),(putVs ks vs k x).map f=putVs ks (vs.map f) k (f x)
 | [],vs,k,x=>by cases vs<;>rfl
 | a::ks,[],k,x=>rfl
 | a::ks,v::vs,k,x=>by
  rw [Qk,putVs,putVs];split
  ·rfl
  ·rw [Qk,Qc1 f ks vs k x]
def Z6 (words:List Str) (gs:List Gv) (one:Str):List Gv:=gs.flatMap λg=>words.map λw=>YC g one w
def givens (vars words:List Str):List Gv:=vars.foldl (Z6 words) [([],[])]
theorem Qcn (g:Gv):LF (gD g)=true:=by
 have:LFs (g.2.map D.str)=true:=Jw (λ_=>JE) _;simp [gD,LF,this]
section
variable {P:Program} {w:World} {K:W.Frag} {mg:Str->Option Value} {base:Heap}
def RPut:List D->D->Prop:=λds d=> ∃ (a:RH.At) (g:Gv) (fz:Bool),ds=[a.d,.dct fz (g.1.map .str) (g.2.map .str)]/\g.1.length=g.2.length/\a.ts.length<=3/\d=(putA a g).d
abbrev Qfr:List Str:=["_law_atom", "_law_given_here"]
theorem Qzk:Vf Qfr Qfr (Vs Qtf):=⟨rfl,rfl,rfl,by decide +kernel,rfl,by decide +kernel,by decide +kernel⟩
theorem Qxv (T:Txt K mg) (F:Fd K mg "_law_put" Qtf Qfr):PrD P w K mg base "_law_put" 1 Qfr RPut:=by
 refine G0 (N:=Qfr) F Qzk (by decide) λf Km A outer s H E ds d hr hR _=> ?_
 obtain ⟨a,g,fz,rfl,hl,ha,rfl⟩:=hR;have hu:=Qck hr;have e:(putA a g).d= .tup [.str a.k,.tup ((a.ts.map D.str).map λd=>match d with | .str t=> .str (Qah g.1 g.2 t) | d=>d)]:=by
  simp [putA,At.d,Qx,QZ]
 rw [e];refine Vz (WG (Vp (Vc (Jf (da:= .tup [.str a.k,.tup (a.ts.map .str)]) (Vv 0 rfl) Vi at0) (Vc (Wj T.bTup (PDL.pd (ZK rfl (U3 (Jf (da:= .tup [.str a.k,.tup (a.ts.map .str)]) (Vv 0 rfl) Vi at1)) (Vl (by simp;omega)) λd hd cl C s H ex=> ?_)) (.inl rfl)) Vn)) (Vl (by simp))));obtain ⟨t,_,rfl⟩:=Q6.mp hd
 by_cases ht:t∈g.1
 ·obtain ⟨i,h1,h2⟩:=Qg7 hl ht;exact Qcw hu (Vv 2 rfl) (Vv 0 rfl) (Vv 0 rfl) h1 (by rw [Qe,h2];rfl)
 ·show PD _ _ _ (.str (Qah g.1 g.2 t));rw [Qeh hl ht];exact Qgi hu (Vv 2 rfl) (Vv 0 rfl) (Vv 0 rfl) ht
end
end K24
namespace RH
open PySem L2
theorem Qc9 {α:Type} [DecidableEq α]: ∀ {l m:List α},l.Nodup->(∀ x∈l,x∈m)->l.length<=m.length
 | [],_,_,_=>Qz _
 | x::l,m,h,hs=>by
  have hn:=J5.mp h;have h1: ∀ y∈l,y∈m.erase x:=λy hy=>by
   have Kn:y≠x:=λz=>hn.1 (z ▸ hy)
   exact (List.mem_erase_of_ne Kn).mpr (hs y (Q7 _ hy))
  have:=Qc9 hn.2 h1;have hx:=hs x Q8;rw [List.length_erase_of_mem hx] at this;have hp:0 < m.length:=List.length_pos_of_mem hx;rw [Qq];omega
theorem Qm4 {ks:List Str} {k x:Str}:x∈WB ks k ↔ x∈ks \/ x=k:=by
 unfold WB;split
 ·rename_i h;exact ⟨.inl,λz=>z.elim id λe=>e ▸ h⟩
 ·simp
theorem Qow {ks:List Str} {k:Str} (h:ks.Nodup):(WB ks k).Nodup:=by
 unfold WB;split
 ·exact h
 ·rename_i hk;refine Jx.mpr ⟨h,by simp,λa ha b hb e=>hk ?_⟩;rw [<- QQ.mp hb,<- e];exact ha
def Qwp:D->Str
 | .str x=>x
 | _=> ""
def Qof (l:List Str):List Str:=(U6 (l.map .str)).map Qwp
theorem Qoe (l:List Str):(Qof l).map .str=U6 (l.map .str):=by
 unfold Qof;rw [Qx];refine (QV λd hd=> ?_).trans (List.map_id' _);obtain ⟨k,_,rfl⟩:=Q6.mp ((Zl _).mem_iff.mp hd);rfl
theorem Qbx (l:List Str):(Qof l).Perm l:=by
 have h:=(Zl (l.map .str)).map Qwp;have e:(l.map D.str).map Qwp=l:=by
  rw [Qx];exact (QV λd hd=>rfl).trans (List.map_id' _)
 rw [e] at h;exact h
theorem Qod {l:List Str} {x:Str}:x∈Qof l ↔ x∈l:=(Qbx l).mem_iff
theorem Zr {α β:Type} {f:β->α->β} {a:β} {l:List α} {i:Nat} {x:α} (h:l[i]? =some x):(l.take (i+1)).foldl f a=f ((l.take i).foldl f a) x:=by
 rw [QX,h];simp [WF]
end RH
namespace K24
open PySem L2 RH
theorem Qak {α β:Type} {f:α->List β} {l:List α} {i:Nat} {a:α} (h:l[i]? =some a):(l.take (i+1)).flatMap f=(l.take i).flatMap f++f a:=by
 rw [QX,h]
 simp
theorem Qmo {α β:Type} {f:α->β} {l:List α} {i:Nat} {a:α} (h:l[i]? =some a):(l.take (i+1)).map f=(l.take i).map f++[f a]:=by
 rw [QX,h]
 simp
theorem Yn {α:Type} {f:α->D} {l:List α} {i:Nat} {d:D} (h:(l.map f)[i]? =some d): ∃ a,l[i]? =some a/\d=f a:=by
 rw [Qe] at h;cases e:l[i]? with
 | none=>rw [e] at h;cases h
 | some a=>rw [e] at h;cases h;exact ⟨a,rfl,rfl⟩
theorem Qlw (words:List Str) (gs:List Gv) (one:Str):(Z6 words gs one).length=gs.length * words.length:=by
 unfold Z6
 induction gs with
 | nil=>simp
 | cons g gs ih=>rw [Bl,Qs,ih,Q2,Qq,Nat.succ_mul];omega
def Gok (n:Nat) (g:Gv):Prop:=g.1.length=g.2.length/\g.1.Nodup/\g.1.length<=n
theorem YA {α:Type}: ∀ {ks:List Str} {vs:List α} {k:Str} {x:α},ks.length=vs.length->(putVs ks vs k x).length=(WB ks k).length
 | [],[],k,x,_=>by simp [putVs,WB]
 | a::ks,v::vs,k,x,h=>by
  rw [putVs]
  by_cases e:a=k
  ·subst e;rw [Qj rfl,show WB (a::ks) a=a::ks from Qj Q8];simpa using h.symm
  ·rw [Qg e,Gi e,Qq,Qq,YA (by simpa using h)]
theorem Gok.put {n:Nat} {g:Gv} (h:Gok n g) (k w:Str):Gok (n+1) (YC g k w):=by
 refine ⟨(YA h.1).symm,Qow h.2.1,?_⟩;have:=h.2.2;show (WB g.1 k).length<=n+1;unfold WB;split
 ·omega
 ·rw [Qs];simp;omega
theorem Gok.step {n:Nat} {words:List Str} {gs:List Gv} (h: ∀ g∈gs,Gok n g) (one:Str): ∀ g∈Z6 words gs one,Gok (n+1) g:=λg hg=>by
 obtain ⟨g0,h0,h1⟩:=Zw.mp hg;obtain ⟨w,_,rfl⟩:=Q6.mp h1;exact (h g0 h0).put one w
section
variable {P:Program} {w:World} {K:W.Frag} {mg:Str->Option Value} {base:Heap}
def RGiven:List D->D->Prop:=λds d=> ∃ vars words:List Str,ds=[.lst (vars.map .str),.lst (words.map .str)]/\vars.length<=3/\words.length<=40/\d= .lst ((givens vars words).map gD)
abbrev Bz:List Str:=["_law_variables_here", "_law_words_here"]
abbrev Qq9:List Str:=["_law_variables_here", "_law_words_here", "_law_found", "_law_one", "_law_more", "_law_given_here", "_law_word_here", "_law_longer"]
theorem Yj:Vf Qq9 Bz (Vs Qdq):=⟨rfl,rfl,rfl,by decide +kernel,rfl,by decide +kernel,by decide +kernel⟩
def slG (vars words:List Str) (x2 x3 x4 x5 x6 x7:Sl):List Sl:=[.arg (.lst (vars.map .str)),.arg (.lst (words.map .str)),x2,x3,x4,x5,x6,x7]
theorem pow3 {n k:Nat} (hk:k<=3): ∀ i ≤ k,∀ {m:Nat},m<=40 ^ i->m<=64000:=λi hi m h=>Qu h (Qu (Zj (by decide) (Qu hi hk)) (by decide))
theorem Ur {vars words:List Str} (hw:words.length<=40): ∀ i,((vars.take i).foldl (Z6 words) [([],[])]).length<=40 ^ i
 | 0=>by simp
 | i+1=>by
  cases e:vars[i]? with
  | none =>
   rw [QX,e];simp only [Qhd,JS];exact Qu (Ur hw i) (Zj (by decide) (by omega))
  | some one =>
   rw [Zr e,Qlw,Nat.pow_succ];exact Qwe (Ur hw i) hw
theorem Ov {vars words:List Str}: ∀ i,∀ g∈(vars.take i).foldl (Z6 words) [([],[])],Gok i g
 | 0=>λg hg=>by
  have:g=([],[]):=by simpa using hg
  subst this;exact ⟨rfl,JA,Q5 _⟩
 | i+1=>by
  cases e:vars[i]? with
  | none =>
   rw [QX,e];simp only [Qhd,JS];exact λg hg=>let h:=Ov i g hg;⟨h.1,h.2.1,Qlj h.2.2⟩
  | some one =>
   rw [Zr e];exact Gok.step (Ov i) one
theorem Gv.lf (g:Gv):LFs (g.2.map D.str)=true:=Jw (λ_=>JE) _
set_option maxHeartbeats 4000000 in
theorem Qpo (T:Txt K mg) (F:Fd K mg "_law_given" Qdq Bz):PrD P w K mg base "_law_given" 1 Bz RGiven:=by
 refine G0 (N:=Qq9) F Yj (by decide) λf Km A outer s H E ds d hr hR _=> ?_
 obtain ⟨vars,words,rfl,hv,hw,rfl⟩:=hR;have hu:=Qck hr;refine Vq (m:=true) (Qpv (i:=2) (ds:=[gD ([],[])]) (W5 (Vc (Qw6 Qrj rfl) Vn) (Vl (by simp))) (by simp [LFs,Qcn]) Yj.nd) ?_;show QOs _ _ (slG vars words (.flt (([([],[])]:List Gv).map gD)) .no .no .no .no .no) _ _;refine Vq (m:=false) (τ1:=slG vars words (.flt ((givens vars words).map gD)) .no .no .no .no .no) ?loop (Vz (WG (Vv 2 rfl)));have el:givens vars words=(vars.take (vars.map D.str).length).foldl (Z6 words) [([],[])]:=by rw [Q2,QK];rfl
 rw [el];refine Gm (ds:=vars.map .str) (m:=false) (put:=λτ d=>τ.set 3 (.any d)) (λi=>slG vars words (.flt (((vars.take i).foldl (Z6 words) [([],[])]).map gD)) .no .no .no .no .no) QI rfl (ZY (Wr (i:=0) rfl (QJ rfl))) (Jr (i:=3) Yj.nd rfl (QJ rfl)) put1 (Qk1 (k:=0) rfl) rfl (λi d hi=>⟨false,?_,λz=>nomatch z⟩);obtain ⟨one,hone,rfl⟩:=Yn hi;have hil:i < vars.length:=(Q4.mp hone).1;rw [Zr hone];have hgl:((vars.take i).foldl (Z6 words) [([],[])]).length<=40 ^ i:=Ur hw i;have hsl:(Z6 words ((vars.take i).foldl (Z6 words) [([],[])]) one).length<=64000:=by
  have:=Ur (vars:=vars) hw (i+1);rw [Zr hone] at this;exact pow3 (n:=0) hv (i+1) hil this
 have hgk:=Ov (vars:=vars) (words:=words) i;generalize (vars.take i).foldl (Z6 words) [([],[])]=gs at hgl hsl hgk;show QOs _ _ (slG vars words (.flt (gs.map gD)) (.any (.str one)) .no .no .no .no) _ _;refine ZE (m:=false) (τ1:=slG vars words (.flt ((Z6 words gs one).map gD)) (.any (.str one)) (.flt ((Z6 words gs one).map gD)) .no .no .no) ?_ (WkI.wk (.keep (.keep (.keep (.no (.no (.keep (.keep (.keep .nil))))))))) (λz=>nomatch z);refine YF (JR (i:=4) (ds:=[]) (W5 Vn (Vl (by simp))) rfl Yj.nd) ?_;show QOs _ _ (slG vars words (.flt (gs.map gD)) (.any (.str one)) (.own []) .no .no .no) _ _;refine Qa8 (m:=false) (τ1:=slG vars words (.flt (gs.map gD)) (.any (.str one)) (.own ((Z6 words gs one).map gD)) .no .no .no) ?rows ?_
 case rows =>
  have el2:Z6 words gs one=(gs.take (gs.map gD).length).flatMap λg=>words.map λw=>YC g one w:=by rw [Q2,QK];rfl
  have hbig: ∀ i:Nat,((gs.take i).flatMap λg=>words.map λw=>YC g one w).length<=64000:=λi=>by
   have h1:Z6 words gs one=((gs.take i).flatMap λg=>words.map λw=>YC g one w)++((gs.drop i).flatMap λg=>words.map λw=>YC g one w):=by
    rw [<- List.flatMap_append,Qbg];rfl
   rw [h1,Qs] at hsl;omega
  rw [el2];refine Gm (ds:=gs.map gD) (m:=false) (put:=λτ d=>τ.set 5 (.any d)) (λi=>slG vars words (.flt (gs.map gD)) (.any (.str one)) (.own (((gs.take i).flatMap λg=>words.map λw=>YC g one w).map gD)) .no .no .no) QI rfl (ZY (Wr (i:=2) rfl (QJ rfl))) (Jr (i:=5) Yj.nd rfl (QJ rfl)) put1 (Qxb (k:=2) rfl) rfl (λi d hi=>⟨false,?_,λz=>nomatch z⟩);obtain ⟨g,hgi,rfl⟩:=Yn hi;have hb:=hbig i;have hg0:=hgk g (Q9 hgi);rw [Qak hgi];generalize (gs.take i).flatMap (λg=>words.map λw=>YC g one w)=acc at hb;show QOs _ _ (slG vars words (.flt (gs.map gD)) (.any (.str one)) (.own (acc.map gD)) (.any (gD g)) .no .no) _ _;refine ZE (m:=false) (τ1:=slG vars words (.flt (gs.map gD)) (.any (.str one)) (.own ((acc++words.map λw=>YC g one w).map gD)) (.any (gD g)) .no .no) ?_ (WkI.wk (.keep (.keep (.keep (.keep (.keep (.no (.keep (.keep .nil))))))))) (λz=>nomatch z);have el3:(words.map λw=>YC g one w)=(words.take (words.map D.str).length).map λw=>YC g one w:=by rw [Q2,QK]
  rw [el3];refine Vz (Gm (ds:=words.map .str) (m:=false) (put:=λτ d=>τ.set 6 (.any d)) (λj=>slG vars words (.flt (gs.map gD)) (.any (.str one)) (.own ((acc++(words.take j).map λw=>YC g one w).map gD)) (.any (gD g)) .no .no) QI rfl (ZY (Wr (i:=1) rfl (QJ rfl))) (Jr (i:=6) Yj.nd rfl (QJ rfl)) put1 (Qk1 (k:=1) rfl) (by simp) (λj d hj=>⟨false,?_,λz=>nomatch z⟩));obtain ⟨wd,hwj,rfl⟩:=Yn hj;have hjl:j < words.length:=(Q4.mp hwj).1;rw [Qmo hwj,<- Bm];have hb2:(acc++(words.take j).map λw=>YC g one w).length<=65000:=by rw [Qs,Q2,QA];omega
  generalize acc++(words.take j).map (λw=>YC g one w)=ac2 at hb2;show QOs _ _ (slG vars words (.flt (gs.map gD)) (.any (.str one)) (.own (ac2.map gD)) (.any (gD g)) (.any (.str wd)) .no) _ _;refine ZE (m:=false) (τ1:=slG vars words (.flt (gs.map gD)) (.any (.str one)) (.own ((ac2++[YC g one wd]).map gD)) (.any (gD g)) (.any (.str wd)) (.any (gD (YC g one wd)))) ?_ (WkI.wk (.keep (.keep (.keep (.keep (.keep (.keep (.no (.no .nil))))))))) (λz=>nomatch z);refine YF (B3 (i:=7) (ks:=g.1) (ds:=g.2.map .str) (Ql0 (fz:=true) T.bDct (Vv 5 rfl)) (Gv.lf g) Yj.nd) ?_;refine Qa8 (m:=false) (Qy5 (i:=7) hu rfl (Vv 3 rfl) (Vv 6 rfl) JE (AL.h ⟨JE,Qcn g,JE,trivial⟩) (by have:=hg0.2.2;rw [Jb];omega)) ?_;have e7:putVs g.1 (g.2.map D.str) one (.str wd)=(YC g one wd).2.map .str:=(Qc1 D.str g.1 g.2 one wd).symm;rw [e7];refine Qy3 (m:=false) (j:=7) (ks:=(YC g one wd).1) (ds:=(YC g one wd).2.map .str) rfl (AL.h ⟨JE,Qcn g,JE,trivial⟩) ?_;rw [QF];exact Vz (Y7 (i:=4) (d:=gD (YC g one wd)) rfl (Vv 7 rfl) (Qcn _) (AL.h ⟨JE,Qcn g,JE,Qcn _,trivial⟩) (by rw [Q2,Jb];omega))
 refine Qy2 (m:=true) (j:=4) rfl (AL.h ⟨JE,trivial⟩) ?_;exact Vz (Qmg (i:=2) (j:=4) rfl Yj.nd)
end
def UF (t:Str):Bool:=match signs t with
 | c::_=>decide (c∈signs CAPS)
 | []=>false
def WJ (acc:List Str) (t:Str):List Str:=if UF t=true/\t ∉ acc then acc++[t] else acc
def Y5 (acc:List Str) (a:RH.At):List Str:=a.ts.foldl WJ acc
def JD (r:Ru):List RH.At:=r.h::r.b.map (·.a)
def WM (r:Ru):List Str:=(JD r).foldl Y5 []
theorem Qsg (acc:List Str) (t:Str):(WJ acc t).length<=acc.length+1:=by
 unfold WJ;split<;>simp
theorem BM: ∀ (ts:List Str) (acc:List Str),(ts.foldl WJ acc).length<=acc.length+ts.length
 | [],acc=>Q5 _
 | t::ts,acc=>by
  have h1:=BM ts (WJ acc t);have h2:=Qsg acc t;rw [QY,Qq];omega
theorem Qbu: ∀ (as:List RH.At) (acc:List Str),(∀ a∈as,a.ts.length<=3)->(as.foldl Y5 acc).length<=acc.length+3 * as.length
 | [],acc,_=>Q5 _
 | a::as,acc,h=>by
  have h1:=Qbu as (Y5 acc a) λb hb=>h b (Q7 _ hb)
  have h2:=BM a.ts acc;have h3:=h a Q8;rw [QY,Qq];show (as.foldl Y5 (Y5 acc a)).length<=_;unfold Y5 at h1 ⊢;omega
theorem Qsc {X:Cx} {ρ:List (Option D)} {a b:Expr} {pos:Pos} {n:Nat} {y:Str} (ha:PD X ρ a (.str ⟨#[n]⟩)) (hb:PD X ρ b (.str y)) (hm:behindInMarks .In b=false:=by rfl):PB X ρ (.Compare a [.In] [b] pos) (decide (n∈y.cps.toList)):=by
 have:=Ua (pos:=pos) Qma ha hb Qps hm;rwa [PySem.StrLaws.found_one] at this
structure RuT (r:Ru):Prop where
 bl:r.b.length<=4
 ts: ∀ a∈JD r,a.ts.length<=3/\ ∀ t∈a.ts,t.length<=8/\signs t≠[]
theorem At.lf (a:RH.At):LF a.d=true:=by
 have:LFs (a.ts.map D.str)=true:=Jw (λ_=>JE) _;simp [At.d,LF,LFs,this]
section
variable {P:Program} {w:World} {K:W.Frag} {mg:Str->Option Value} {base:Heap}
def RVars:List D->List D->Prop:=λds es=> ∃ r:Ru,ds=[r.d]/\RuT r/\es=(WM r).map .str
abbrev Qvz:List Str:=["_law_rule_here", "_law_found", "_law_atom", "_law_term"]
theorem Qdh:Vf Qvz ["_law_rule_here"] (Vs YT):=⟨rfl,rfl,rfl,by decide +kernel,rfl,by decide +kernel,by decide +kernel⟩
def sndL:D->D | .tup [_,b]=>b | d=>d
set_option maxHeartbeats 2000000 in
theorem Qe2 (F:Fd K mg "_law_variables" YT ["_law_rule_here"]):PrL P w K mg base "_law_variables" 1 ["_law_rule_here"] RVars:=by
 refine Qe0 (N:=Qvz) F Qdh (by decide) λf Km A outer s H E ds es hr hR _=> ?_
 obtain ⟨r,rfl,R,rfl⟩:=hR;have hbl:=R.bl;have hal:(JD r).length<=5:=by simp [JD];omega
 refine WT (JR (i:=1) (ds:=[]) (W5 Vn (Vl (by decide))) rfl Qdh.nd) ?_;refine WT (m:=false) (τ1:=[.arg r.d,.own ((WM r).map .str),.no,.no]) ?loop (Vz (Ut (i:=1) rfl));have el:WM r=((JD r).take ((JD r).map At.d).length).foldl Y5 []:=by rw [Q2,QK];rfl
 rw [el];refine Gm (ds:=(JD r).map At.d) (m:=false) (put:=λτ d=>τ.set 2 (.any d)) (λi=>[.arg r.d,.own ((((JD r).take i).foldl Y5 []).map .str),.no,.no]) QI rfl
  (ZY (UT (ds:=(JD r).map At.d) ?list (Jw At.lf _))) (Jr (i:=2) Qdh.nd rfl (QJ rfl)) put1 (Qos (Jw At.lf _)) rfl (λi d hi=>⟨false,?_,λz=>nomatch z⟩)
 case list =>
  have e:(JD r).map At.d=[r.h.d]++(r.b.map Li.d).map sndL:=by
   rw [Qx];simp [JD,sndL,Li.d,QZ]
  rw [e];refine Qap (xs:=[r.h.d]) (PDL.pd (W5 (Vc (Jf (da:= .tup [r.h.d,.tup (r.b.map Li.d)]) (Vv 0 rfl) Vi at0) Vn) (Vl (by simp)))) (PDL.pd (ZK (f:=sndL) rfl (U3 (Jf (da:= .tup [r.h.d,.tup (r.b.map Li.d)]) (d:= .tup (r.b.map Li.d)) (Vv 0 rfl) Vi at1)) (Vl (by rw [Q2];omega)) λd hd cl C s H ex=> ?_)) (Vl (by simp;omega));obtain ⟨l,_,rfl⟩:=Q6.mp hd;exact Jf (da:= .tup [.str (if l.y then "yes" else "no"),l.a.d]) (d:=l.a.d) (Vv 0 rfl) Vi at1
 obtain ⟨a,hai,rfl⟩:=Yn hi;have ham:=Q9 hai;obtain ⟨h3,hts⟩:=R.ts a ham;have hb:(((JD r).take i).foldl Y5 []).length<=15:=by
  have h1:=Qbu ((JD r).take i) [] λb hb=>(R.ts b (W2 hb)).1
  have h2:((JD r).take i).length<=5:=Qu (by rw [QA];omega) hal;simp at h1 h2;omega
 rw [Zr hai];generalize ((JD r).take i).foldl Y5 []=acc at hb;show QOs _ _ [.arg r.d,.own (acc.map .str),.any a.d,.no] _ _;refine ZE (m:=false) (τ1:=[.arg r.d,.own ((Y5 acc a).map .str),.any a.d,.no]) ?_ (WkI.wk (.keep (.keep (.no (.keep .nil))))) (λz=>nomatch z);have el2:Y5 acc a=(a.ts.take (a.ts.map D.str).length).foldl WJ acc:=by rw [Q2,QK];rfl
 rw [el2];refine Vz (Gm (ds:=a.ts.map .str) (m:=false) (put:=λτ d=>τ.set 3 (.any d)) (λi=>[.arg r.d,.own (((a.ts.take i).foldl WJ acc).map .str),.any a.d,.no]) QI rfl
  (Qa2 (Jf (da:= .tup [.str a.k,.tup (a.ts.map .str)]) (Vv 2 rfl) Vi at1).pe) (Jr (i:=3) Qdh.nd rfl (QJ rfl)) put1 (Qxa (Jw (λ_=>JE) _)) rfl (λi d hi=>⟨false,?_,λz=>nomatch z⟩))
 obtain ⟨t,hti,rfl⟩:=Yn hi;obtain ⟨h8,Kn⟩:=hts t (Q9 hti);have hb2:((a.ts.take i).foldl WJ acc).length<=18:=by
  have h1:=BM (a.ts.take i) acc;have h2:(a.ts.take i).length<=3:=Qu (by rw [QA];omega) h3;omega
 rw [Zr hti];generalize (a.ts.take i).foldl WJ acc=ac at hb2;show QOs _ _ [.arg r.d,.own (ac.map .str),.any a.d,.any (.str t)] _ _;refine ZE (m:=false) (τ1:=[.arg r.d,.own ((WJ ac t).map .str),.any a.d,.any (.str t)]) ?_ (WkI.wk (.keep (.keep (.keep (.no .nil))))) (λz=>nomatch z);cases hs:signs t with
 | nil=>exact absurd hs Kn
 | cons c q =>
  have hcap:UF t=decide (c∈signs CAPS):=by unfold UF;rw [hs]
  have hz: ∀ y,D.str t= .str y->y.length<=sizeLine:=λy e=>by cases e;exact Vl (by omega)
  refine Vz (ZF (Qjd (Gq (k:=decide (c∈signs CAPS)) (Qsc (n:=c) (y:=CAPS) (Jf (da:= .str t) (i:=0) (Vv 3 rfl) Vi ?_ hz) Vt) (λ_=>Qes (Qgw (ss:=ac) (Vv 3 rfl) (Vv 1 rfl) (.inr rfl))))) (λh=> ?_) (λh=> ?_))
  ·show (atI t.cps.toList 0).map _=_;rw [show t.cps.toList=c::q from hs];have e:atI (c::q) ((0:Nat):Int)=some c:=Zd rfl;rw [show (0:Int)=((0:Nat):Int) from rfl,e];rfl
  ·have e:WJ ac t=ac++[t]:=by
    unfold WJ;rw [Qj];rw [hcap];simpa using h
   rw [e,QF];exact Vz (Y7 (i:=1) (d:= .str t) rfl (Vv 3 rfl) JE (AL.h ⟨At.lf a,JE,trivial⟩) (by rw [Q2,Jb];omega))
  ·have e:WJ ac t=ac:=by
    unfold WJ;rw [Qg];intro hc;rw [hcap] at hc;rw [hc.1,QM hc.2] at h;cases h
   rw [e];exact ZE (m:=true) Za (WkI.wk (.keep (.keep (.keep (.keep .nil))))) (λz=>nomatch z)
end
def Wz (r:Ru) (i:Nat):List Str:=r.h.ts++(r.b.take i).flatMap λl=>l.a.ts
theorem Qf4 {r:Ru} {i:Nat} {l:Li} (h:r.b[i]? =some l):Wz r (i+1)=Wz r i++l.a.ts:=by
 unfold Wz;rw [Qak h,Bm]
theorem Qcr {α β:Type} {f:α->List β} {n:Nat}: ∀ {l:List α},(∀ a∈l,(f a).length<=n)->(l.flatMap f).length<=n * l.length
 | [],_=>by simp
 | a::l,h=>by
  have h1:=h a Q8;have h2:=Qcr (f:=f) (n:=n) (l:=l) λb hb=>h b (Q7 _ hb)
  rw [Bl,Qs,Qq,Nat.mul_succ];omega
theorem RuT.head {r:Ru} (R:RuT r):r.h.ts.length<=3:=(R.ts r.h Q8).1
theorem RuT.lit {r:Ru} (R:RuT r) {l:Li} (h:l∈r.b):l.a.ts.length<=3:=(R.ts l.a (Q7 _ (Q6.mpr ⟨l,h,rfl⟩))).1
theorem Gf {r:Ru} (R:RuT r) (i:Nat):(Wz r i).length<=15:=by
 have h1:=Qcr (f:=λl:Li=>l.a.ts) (n:=3) (l:=r.b.take i) λl hl=>R.lit (W2 hl)
 have h2:(r.b.take i).length<=4:=Qu (by rw [QA];omega) R.bl;have h3:=R.head;unfold Wz;rw [Qs];omega
def YO (r:Ru):List Str:=Qof (ST.Ue (Wz r r.b.length))
def B7 (one Kw:Ru):List Gv:=givens (WM one) (YO Kw)
theorem OL {r:Ru} (R:RuT r):(YO r).length<=15:=by
 unfold YO;rw [(Qbx _).length_eq];exact Qu (ST.Qaq _) (Gf R _)
theorem U2 {X:Cx} {ρ:List (Option D)} {e:Expr} {ds es:List D} (h:PDL X ρ e ds) (q:ds=es):PDL X ρ e es:=q ▸ h
theorem hu22 {A:Around} {k:Nat} (hr:Room k A):A.units+22 < cLine:=by have:=hr.un;omega
section
variable {P:Program} {w:World} {K:W.Frag} {mg:Str->Option Value} {base:Heap}
def RInst:List D->D->Prop:=λds d=> ∃ one Kw:Ru,ds=[one.d,Kw.d]/\RuT one/\RuT Kw/\(WM one).length<=3/\d= .lst ((B7 one Kw).map gD)
abbrev U7:List Str:=["_law_one", "_law_other"]
abbrev Qw3:List Str:=["_law_one", "_law_other", "_law_terms", "_law_literal"]
theorem Qdk:Vf Qw3 U7 (Vs Qjx):=⟨rfl,rfl,rfl,by decide +kernel,rfl,by decide +kernel,by decide +kernel⟩
set_option maxHeartbeats 2000000 in
theorem Qud (T:Txt K mg) (F:Fd K mg "_law_instances" Qjx U7) (GG:PrD P w K mg base "_law_given" 1 Bz RGiven) (GV:PrL P w K mg base "_law_variables" 1 ["_law_rule_here"] RVars):PrD P w K mg base "_law_instances" 2 U7 RInst:=by
 refine G0 (N:=Qw3) F Qdk (by decide) λf Km A outer s H E ds d hr hR _=> ?_
 obtain ⟨one,Kw,rfl,R1,R2,hv,rfl⟩:=hR;have hbl:=R2.bl;have hst: ∀ l:List Str,LFs (l.map D.str)=true:=λl=>Jw (λ_=>JE) _
 refine Vq (m:=true) (τ1:=[.arg one.d,.arg Kw.d,.own ((Wz Kw 0).map .str),.no]) ?t0 ?_
 case t0 =>
  have e:Wz Kw 0=Kw.h.ts:=by simp [Wz]
  rw [e];exact JR (i:=2) (Qcu T.bLst (Jf (da:= .tup [.str Kw.h.k,.tup (Kw.h.ts.map .str)]) (Jf (da:= .tup [Kw.h.d,.tup (Kw.b.map Li.d)]) (Vv 1 rfl) Vi at0) Vi at1) (.inr rfl)) (hst _) Qdk.nd
 refine Vq (m:=true) (τ1:=[.arg one.d,.arg Kw.d,.own ((Wz Kw Kw.b.length).map .str),.no]) ?loop ?_
 case loop =>
  have el:Wz Kw Kw.b.length=Wz Kw (Kw.b.map Li.d).length:=by rw [Q2]
  rw [el];refine Ja1 (j:=3) (λi=>[.arg one.d,.arg Kw.d,.own ((Wz Kw i).map .str),.no]) QI rfl (U3 (Jf (da:= .tup [Kw.h.d,.tup (Kw.b.map Li.d)]) (Vv 1 rfl) Vi at1)) rfl (λi d hi=> ?_) Qdk.nd;obtain ⟨l,hli,rfl⟩:=Yn hi;have h3:=R2.lit (Q9 hli);have h15:=Gf R2 i;show QOs _ _ [.arg one.d,.arg Kw.d,.own ((Wz Kw i).map .str),.any l.d] _ _;refine ZE (m:=true) (τ1:=[.arg one.d,.arg Kw.d,.own ((Wz Kw (i+1)).map .str),.any l.d]) ?_ (WkI.wk (.keep (.keep (.keep (.no .nil))))) (λh=>h);rw [Qf4 hli,QF];exact Vz (JR (i:=2) (Qap (Vv 2 rfl) (PDL.pd (Qcu T.bLst (Jf (da:= .tup [.str l.a.k,.tup (l.a.ts.map .str)]) (Jf (da:= .tup [.str (if l.y then "yes" else "no"),l.a.d]) (Vv 3 rfl) Vi at1) Vi at1) (.inr rfl))) (Vl (by simp;omega))) (by rw [WH,hst,hst];rfl) Qdk.nd)
 have h15:=Gf R2 Kw.b.length;refine Vz (WG (Zc GG hr (Vc (PDL.pd (Ya GV hr (Vc (Vv 0 rfl) Vn) ⟨one,rfl,R1,rfl⟩)) (Vc (PDL.pd (U2 (Qbp (ss:=Wz Kw Kw.b.length) rfl T.bSrt T.bSet (Vv 2 rfl) (by omega)) (Qoe _).symm)) Vn)) ⟨WM one,YO Kw,rfl,hv,Qu (OL R2) (by decide),rfl⟩))
end
end K24
namespace L2
open PySem PySem.Spec PyProof.Rows PySem.W
theorem CAll.of_mem {h:Heap}: ∀ {ds:List D} {us:List Value},CAll h ds us-> ∀ u∈us,∃ d∈ds,CIs h d u
 | [],us,c,u,hu=>by
  rw [CAll] at c;subst c;cases hu
 | d::ds,us,c,u,hu=>by
  rw [CAll] at c;obtain ⟨v,r,rfl,c1,c2⟩:=c;rcases Qb.mp hu with rfl | hu
  ·exact ⟨d,Q8,c1⟩
  ·obtain ⟨e,he,ce⟩:=c2.of_mem u hu;exact ⟨e,Q7 _ he,ce⟩
theorem CAll.has {h:Heap}: ∀ {ds:List D} {us:List Value},CAll h ds us-> ∀ d∈ds,∃ u∈us,CIs h d u
 | d::ds,us,c,e,he=>by
  rw [CAll] at c;obtain ⟨v,r,rfl,c1,c2⟩:=c;rcases Qb.mp he with rfl | he
  ·exact ⟨v,Q8,c1⟩
  ·obtain ⟨u,hu,cu⟩:=c2.has e he;exact ⟨u,Q7 _ hu,cu⟩
section
variable {X:Cx}
theorem Qxs {ds:List D} {e:D} (hk:keyOks ds=true) (he:keyOk e=true) (hu: ∀ d∈ds,X.A.units+1+dep d+dep e < cLine):OpR X (compareOp .In) (λx y H Q=>Is X.K H e x/\Is X.K H (.tup ds) y/\Q (.bl (decide (e∈ds))) H):=by
 intro Kz s σ H x y vx vy Q I rx ry h;obtain ⟨i1,i2,q⟩:=h;obtain ⟨p,ys,rfl,q2,r2⟩:=JB i2;cases (show vy=Value.ref p from ry);obtain ⟨Kv,v2,t2,_⟩:=I.tuple q2;have c1:=Is.conc I (Qe5 he) i1 rx;have c2:=Va.conc I (YG hk) r2 v2
 classical
 refine SeqAt.in_tupleAt (λw=>decide (CIs s.heap e w)) (show s.heap.IsTuple p Kv.toArray from t2) (λw hw=> ?_) ⟨.bl (decide (e∈ds)),H,I,?_,q⟩
 ·obtain ⟨d,hd,cd⟩:=c2.of_mem w (by simpa using hw);have h1:=Qj2 (s:=s) d e (A:=X.A.in1) cd c1 (by show X.A.units+1+dep d+dep e < cLine;exact hu d hd);have h2:eqD d e=decide (CIs s.heap e w):=by
   rw [Oy (Z2.mp hk d hd) he,Jd,QB,QB];exact ⟨λz=>z ▸ cd,λz=>cd.inj z⟩
  rw [h2] at h1;exact h1
 ·show Value.bool _=Value.bool _;congr 1;rw [Jd,QB];simp only [List.any_toArray,Zx,QB];constructor
  ·rintro ⟨u,hu',cu⟩;obtain ⟨d,hd,cd⟩:=c2.of_mem u hu';rw [cd.inj cu] at hd;exact hd
  ·intro z;obtain ⟨u,hu',cu⟩:=c2.has e z;exact ⟨u,hu',cu⟩
variable {ρ:List (Option D)} {a b:Expr} {pos:Pos}
theorem Jan {ds:List D} {e:D} (ha:PD X ρ a e) (hb:PD X ρ b (.tup ds)) (hk:keyOks ds=true) (he:keyOk e=true) (hu: ∀ d∈ds,X.A.units+1+dep d+dep e < cLine) (hm:behindInMarks .In b=false:=by rfl):PD X ρ (.Compare a [.In] [b] pos) (.bl (decide (e∈ds))) :=
 Qrr (Qxs hk he hu) ha hb (λH x y Q hx hy q=>⟨hx,hy,q _ H (Same.refl H) (Zz _)⟩) hm
theorem Jau {us vs:List D} (ha:PD X ρ a (.tup us)) (hb:PD X ρ b (.tup vs)) (hk:keyOks us=true) (hk2:keyOks vs=true) (hu:X.A.units+dep (.tup us)+dep (.tup vs) < cLine):PB X ρ (.Compare a [.Eq] [b] pos) (decide (us=vs)) :=
 Ua (Qxt hk hk2 hu) ha hb (λH x y Q hx hy q=>⟨hx,hy,q _ H (Same.refl H) (Zz _)⟩) (nomark _)
end
end L2
namespace K24
open PySem L2 RH
def atL (a:RH.At):List D:=[.str a.k,.tup (a.ts.map .str)]
def putT (g:Gv):D->D
 | .str t=> .str (Qah g.1 g.2 t)
 | d=>d
def putAD (g:Gv):D->D
 | .tup [k,.tup ts]=> .tup [k,.tup (ts.map (putT g))]
 | d=>d
def Qfk (g:Gv):D->D
 | .tup [m,a]=> .tup [m,putAD g a]
 | d=>d
theorem Qdw (g:Gv) (l:Li):Qfk g l.d=(Li.mk l.y (putA l.a g)).d:=by
 simp [Qfk,Li.d,putAD,At.d,putA,putT,Qx,QZ]
noncomputable def BQ (one Kw:Ru) (g:Gv):Bool:=decide (atL (putA one.h g)=atL Kw.h) && (one.b.map Li.d).all (λd=>decide (Qfk g d∈Kw.b.map Li.d))
noncomputable def Qgl (one Kw:Ru):Bool:=(B7 one Kw).any (BQ one Kw)
theorem Qo8 (l:List Str):keyOks (l.map D.str)=true:=Z2.mpr λd hd=>by obtain ⟨x,_,rfl⟩:=Q6.mp hd;rfl
theorem Qlb (a:RH.At):keyOks (atL a)=true:=by simp [atL,keyOk,keyOks,Qo8]
theorem Qqq (l:Li):keyOk l.d=true:=by simp [Li.d,At.d,keyOk,keyOks,Qo8]
theorem Quy (l:List Li):keyOks (l.map Li.d)=true:=Z2.mpr λd hd=>by obtain ⟨x,_,rfl⟩:=Q6.mp hd;exact Qqq x
theorem Qf8: ∀ l:List Str,deps (l.map D.str)<=1
 | []=>by simp [deps]
 | x::l=>by
  have:=Qf8 l;simp [deps,dep];omega
theorem Qb5 (a:RH.At):dep (.tup (atL a))<=3:=by
 have:=Qf8 a.ts;simp [atL,dep,deps];omega
theorem Qqr (l:Li):dep l.d<=4:=by
 have h:dep l.a.d<=3:=Qb5 l.a;simp [Li.d,dep,deps];omega
theorem Qkt {one Kw:Ru}: ∀ g∈B7 one Kw,Gok (WM one).length g:=λg hg=>by
 have h:=Ov (vars:=WM one) (words:=YO Kw) (WM one).length;rw [QK] at h;exact h g hg
section
variable {P:Program} {w:World} {K:W.Frag} {mg:Str->Option Value} {base:Heap}
theorem Qvs {X:Cx} {H₀:Hp} {τ:List Sl} {ds:List D}: ∀ σ H R,EnvO X.K H₀ H σ τ->(∀ J H' (St:Hp->Prop),Same H H'->St H'->(∀ H1 H2,St H1->Rl true H1 H2->Same H₀ H2->St H2)->JSt X.K H₀ J St ds .any->R J H')->rdI X.K (dat τ) ds σ H R :=
 λσ H R he h=>⟨he.env,λJ H' s ji=>h J H' (λH2=>Same H' H2) s (Same.refl H') (λH1 H2 a b _=>Same.trans a b)
  ⟨λi H2 st hi=>ji.go i H2 st hi,λi H2 v H3 st hi y=>let ⟨e,d,hd,is⟩:=ji.yld i H2 v H3 st hi y;⟨e,d,hd,v,rfl,is⟩,λi H2 st hi=>ji.stop i H2 st hi⟩⟩
def RCov:List D->D->Prop:=λds d=> ∃ one Kw:Ru,ds=[one.d,Kw.d]/\RuT one/\RuT Kw/\(WM one).length<=3/\d= .bl (Qgl one Kw)
abbrev Qqa:List Str:=["_law_one", "_law_other", "_law_given_here"]
theorem Qon:Vf Qqa U7 (Vs Qbk):=⟨rfl,rfl,rfl,by decide +kernel,rfl,by decide +kernel,by decide +kernel⟩
def Qvo:List Stmt:=match (JM Qbk).getD 0 (.Pass ⟨0,0,0,0⟩) with | .For _ _ b _ _=>b | _=>[]
set_option maxHeartbeats 4000000 in
theorem Qxy (T:Txt K mg) (F:Fd K mg "_law_covers" Qbk U7) (GI:PrD P w K mg base "_law_instances" 2 U7 RInst) (GP:PrD P w K mg base "_law_put" 1 Qfr RPut):PrD P w K mg base "_law_covers" 3 U7 RCov:=by
 refine G0 (N:=Qqa) F Qon (by decide) λf Km A outer s H E ds d hr hR _=> ?_
 obtain ⟨one,Kw,rfl,R1,R2,hv,rfl⟩:=hR;have hu:=hu22 hr;have hb4:=R1.bl;have turn: ∀ (g:Gv),g∈B7 one Kw-> ∀ (r:RO),(BQ one Kw g=true->r= .ret (.bl true))->(BQ one Kw g=false->r= .next true [.arg one.d,.arg Kw.d,.any (gD g)]) ->
   QOs (Ga CX0 P w K mg base Qqa "_law_covers" (Vs Qbk) f Km A outer s H E).nox H [.arg one.d,.arg Kw.d,.any (gD g)] Qvo r:=λg hg r hy hn=>by
  have gk:=Qkt g hg;have tA:PB (Ga CX0 P w K mg base Qqa "_law_covers" (Vs Qbk) f Km A outer s H E).nox (dat [.arg one.d,.arg Kw.d,.any (gD g)]) (match Qvo with | [.If c _ _ _]=>c | _=> .Constant .none 0 ⟨0,0,0,0⟩) (decide (atL (putA one.h g)=atL Kw.h)) :=
   Jau (us:=atL (putA one.h g)) (vs:=atL Kw.h) (Zc GP (hr.mono (by decide)) (Vc (Jf (da:= .tup [one.h.d,.tup (one.b.map Li.d)]) (Vv 0 rfl) Vi at0) (Vc (Vv 2 rfl) Vn)) ⟨one.h,g,true,rfl,gk.1,R1.head,rfl⟩) (Jf (da:= .tup [Kw.h.d,.tup (Kw.b.map Li.d)]) (Vv 1 rfl) Vi at0) (Qlb _) (Qlb _)
    ((show ∀ u a b:Nat,u+22 < cLine->a<=3->b<=3->u+a+b < cLine from λu a b h1 h2 h3=>by omega) _ _ _ hu (Qb5 _) (Qb5 _))
  refine Vz (ZF (k:=decide (atL (putA one.h g)=atL Kw.h)) tA (λh1=> ?_) (λh1=> ?_))
  ·refine Vz (ZF (k:=(one.b.map Li.d).all (λd=>decide (Qfk g d∈Kw.b.map Li.d))) (Bh (Qru (q:=λd=>decide (Qfk g d∈Kw.b.map Li.d)) rfl T.bAll (U3 (Jf (da:= .tup [one.h.d,.tup (one.b.map Li.d)]) (Vv 0 rfl) Vi at1)) (Vl (by rw [Q2];omega)) λd hd cl C s H ex=> ?_)) (λh2=> ?_) (λh2=> ?_))
   ·obtain ⟨l,hl,rfl⟩:=Q6.mp hd;rw [Qdw];exact Jan (e:=(Li.mk l.y (putA l.a g)).d) (Vp (Vc (Jf (da:= .tup [.str (if l.y then "yes" else "no"),l.a.d]) (Vv 0 rfl) Vi at0) (Vc (Zc GP (hr.mono (by decide)) (Vc (Jf (da:= .tup [.str (if l.y then "yes" else "no"),l.a.d]) (Vv 0 rfl) Vi at1) (Vc (Vv 3 rfl) Vn)) ⟨l.a,g,true,rfl,gk.1,R1.lit hl,rfl⟩) Vn)) (Vl (by simp))) (Jf (da:= .tup [Kw.h.d,.tup (Kw.b.map Li.d)]) (Vv 2 rfl) Vi at1) (Quy _) (Qqq _)
     (λd hd=>by
      obtain ⟨l2,_,rfl⟩:=Q6.mp hd;exact (show ∀ u a b:Nat,u+22 < cLine->a<=4->b<=4->u+1+a+b < cLine from λu a b h1 h2 h3=>by omega) _ _ _ hu (Qqr l2) (Qqr _))
   ·rw [hy (by unfold BQ;rw [h1,h2];rfl)];exact Vz (WG Qz1)
   ·rw [hn (by unfold BQ;rw [h1,h2];rfl)];exact Za
  ·rw [hn (by unfold BQ;rw [h1];rfl)];exact Za
 have hil:(B7 one Kw).length<=64000:=by
  have h:=Ur (vars:=WM one) (words:=YO Kw) (Qu (OL R2) (by decide)) (WM one).length;rw [QK] at h;exact pow3 (n:=0) hv _ (Q5 _) h
 have call:PDI (Ga CX0 P w K mg base Qqa "_law_covers" (Vs Qbk) f Km A outer s H E).nox (dat [.arg one.d,.arg Kw.d,.no]) (match (JM Qbk).getD 0 (.Pass ⟨0,0,0,0⟩) with | .For t _ _ _ _=>t | _=> .Constant .none 0 ⟨0,0,0,0⟩) (match (JM Qbk).getD 0 (.Pass ⟨0,0,0,0⟩) with | .For _ i _ _ _=>i | _=> .Constant .none 0 ⟨0,0,0,0⟩) ((B7 one Kw).map gD) :=
  UY (Zc GI hr (Vc (Vv 0 rfl) (Vc (Vv 1 rfl) Vn)) ⟨one,Kw,rfl,R1,R2,hv,rfl⟩)
 cases hc:Qgl one Kw with
 | true =>
  obtain ⟨g0,hg0,h0⟩:=Zx.mp hc;obtain ⟨i0,hi0⟩:=J1.mp hg0;obtain ⟨m,_,⟨b,hb,pb⟩,hm⟩:=ST.least (p:=λi=> ∃ b,(B7 one Kw)[i]? =some b/\BQ one Kw b=true) i0 ⟨g0,hi0,h0⟩;refine Qa9 (Quj (ds:=(B7 one Kw).map gD) (m:=true) (put:=λτ d=>τ.set 2 (.any d)) (λ_=>[.arg one.d,.arg Kw.d,.no]) m (gD b) (by rw [Qe,hb];rfl) QI rfl call.pe (Jr (i:=2) Qon.nd rfl (QD rfl)) put1 Qvs rfl (λi d Ks hi=>⟨true,?_,λh=>h⟩) ?_)
  ·obtain ⟨g,hgi,rfl⟩:=Yn hi;have hno:BQ one Kw g=false:=by
    cases e:BQ one Kw g with
    | false=>rfl
    | true=>exact absurd ⟨g,hgi,e⟩ (hm i Ks)
   refine ZE (m:=true) (τ1:=[.arg one.d,.arg Kw.d,.any (gD g)]) ?_ (WkI.wk (.keep (.keep (.no .nil)))) (λh=>h);exact turn g (Q9 hgi) _ (λz=>by rw [hno] at z;cases z) (λ_=>rfl)
  ·exact turn b (Q9 hb) _ (λ_=>rfl) (λz=>by rw [pb] at z;cases z)
 | false =>
  refine Vq (m:=true) (Gm (ds:=(B7 one Kw).map gD) (m:=true) (put:=λτ d=>τ.set 2 (.any d)) (λ_=>[.arg one.d,.arg Kw.d,.no]) QI rfl call.pe (Jr (i:=2) Qon.nd rfl (QD rfl)) put1 Qvs rfl (λi d hi=>⟨true,?_,λh=>h⟩)) (Vz (WG Qz1));obtain ⟨g,hgi,rfl⟩:=Yn hi;have hgm:=Q9 hgi;have hno:BQ one Kw g=false:=by
   cases e:BQ one Kw g with
   | false=>rfl
   | true =>
    have:=Zx.mpr ⟨g,hgm,e⟩;unfold Qgl at hc;rw [this] at hc;cases hc
  refine ZE (m:=true) (τ1:=[.arg one.d,.arg Kw.d,.any (gD g)]) ?_ (WkI.wk (.keep (.keep (.no .nil)))) (λh=>h);exact turn g hgm _ (λz=>by rw [hno] at z;cases z) (λ_=>rfl)
end
theorem UB {vars words:List Str} {f:Str->Str} (hnd:vars.Nodup) (hf: ∀ v∈vars,f v∈words): ∀ i:Nat,(vars.take i,(vars.take i).map f)∈(vars.take i).foldl (Z6 words) [([],[])]
 | 0=>by simp
 | i+1=>by
  cases e:vars[i]? with
  | none =>
   rw [QX,e];simp only [Qhd,JS];exact UB hnd hf i
  | some v =>
   have ih:=UB hnd hf i;rw [Zr e];have hv:v ∉ vars.take i:=λz=>by
    obtain ⟨j,hj⟩:=J1.mp z;obtain ⟨hi,ei⟩:=Q4.mp e;rw [List.getElem?_take] at hj;split at hj
    ·rename_i Ks;obtain ⟨hj',ej⟩:=Q4.mp hj;have:=(Qnq hnd).mp (ej.trans ei.symm);omega
    ·cases hj
   have et:vars.take (i+1)=vars.take i++[v]:=by rw [QX,e];rfl
   refine Zw.mpr ⟨_,ih,Q6.mpr ⟨f v,hf v (Q9 e),?_⟩⟩;show (WB (vars.take i) v,putVs (vars.take i) ((vars.take i).map f) v (f v))=_;rw [Qc0 (by simp) hv,et,QF];unfold WB;rw [Qg hv];rfl
theorem Qiu {vars words:List Str} {f:Str->Str} (hnd:vars.Nodup) (hf: ∀ v∈vars,f v∈words):(vars,vars.map f)∈givens vars words:=by
 have h:=UB hnd hf vars.length;rw [QK] at h;exact h
theorem Qvi {acc:List Str} (h:acc.Nodup) (t:Str):(WJ acc t).Nodup:=by
 unfold WJ;split
 ·rename_i hc;exact Jx.mpr ⟨h,by simp,λa ha b hb e=>hc.2 (by rw [<- QQ.mp hb,<- e];exact ha)⟩
 ·exact h
theorem Qg9: ∀ (ts acc:List Str),acc.Nodup->(ts.foldl WJ acc).Nodup
 | [],_,h=>h
 | t::ts,acc,h=>Qg9 ts _ (Qvi h t)
theorem Qf0: ∀ (as:List RH.At) (acc:List Str),acc.Nodup->(as.foldl Y5 acc).Nodup
 | [],_,h=>h
 | a::as,acc,h=>Qf0 as _ (Qg9 a.ts acc h)
theorem Qez (r:Ru):(WM r).Nodup:=Qf0 _ _ JA
theorem Qsf {acc:List Str} {t x:Str}:x∈WJ acc t ↔ x∈acc \/ (x=t/\UF t=true):=by
 unfold WJ;split
 ·rename_i hc;simp [hc.1]
 ·rename_i hc;constructor
  ·exact .inl
  ·rintro (z | ⟨rfl,hcap⟩)
   ·exact z
   ·exact Gy λhx=>hc ⟨hcap,hx⟩
theorem Qco {x:Str}: ∀ {ts acc:List Str},x∈ts.foldl WJ acc ↔ x∈acc \/ (x∈ts/\UF x=true)
 | [],acc=>by simp
 | t::ts,acc=>by
  rw [QY,Qco,Qsf,Qb];constructor
  ·rintro ((z | ⟨rfl,hc⟩) | ⟨z,hc⟩)
   ·exact .inl z
   ·exact .inr ⟨.inl rfl,hc⟩
   ·exact .inr ⟨.inr z,hc⟩
  ·rintro (z | ⟨rfl | z,hc⟩)
   ·exact .inl (.inl z)
   ·exact .inl (.inr ⟨rfl,hc⟩)
   ·exact .inr ⟨z,hc⟩
theorem Qbt {x:Str}: ∀ {as:List RH.At} {acc:List Str},x∈as.foldl Y5 acc ↔ x∈acc \/ ((∃ a∈as,x∈a.ts)/\UF x=true)
 | [],acc=>by simp
 | a::as,acc=>by
  rw [QY,Qbt];unfold Y5;rw [Qco];constructor
  ·rintro ((z | ⟨z,hc⟩) | ⟨⟨b,hb,z⟩,hc⟩)
   ·exact .inl z
   ·exact .inr ⟨⟨a,Q8,z⟩,hc⟩
   ·exact .inr ⟨⟨b,Q7 _ hb,z⟩,hc⟩
  ·rintro (z | ⟨⟨b,hb,z⟩,hc⟩)
   ·exact .inl (.inl z)
   ·rcases Qb.mp hb with rfl | hb
    ·exact .inl (.inr ⟨z,hc⟩)
    ·exact .inr ⟨⟨b,hb,z⟩,hc⟩
theorem UM {r:Ru} {x:Str}:x∈WM r ↔ (∃ a∈JD r,x∈a.ts)/\UF x=true:=by
 unfold WM;rw [Qbt]
 simp
theorem Qhq {r:Ru} {x:Str}:x∈Wz r r.b.length ↔ ∃ a∈JD r,x∈a.ts:=by
 unfold Wz JD;rw [QK,Qy,Zw];constructor
 ·rintro (z | ⟨l,hl,z⟩)
  ·exact ⟨r.h,Q8,z⟩
  ·exact ⟨l.a,Q7 _ (Q6.mpr ⟨l,hl,rfl⟩),z⟩
 ·rintro ⟨a,ha,z⟩;rcases Qb.mp ha with rfl | ha
  ·exact .inl z
  ·obtain ⟨l,hl,rfl⟩:=Q6.mp ha;exact .inr ⟨l,hl,z⟩
theorem Qhk {r:Ru} {x:Str}:x∈YO r ↔ ∃ a∈JD r,x∈a.ts:=by
 unfold YO;rw [Qod,(ST.Qn6 _).2,Qhq]
theorem Qra {vars:List Str} {f:Str->Str} {t:Str}:Qah vars (vars.map f) t=if t∈vars then f t else t:=by
 split
 ·rename_i h;obtain ⟨i,h1,h2⟩:=Qg7 (ks:=vars) (vs:=vars.map f) (by simp) h;rw [Qe,h1] at h2;exact (J4 h2).symm
 ·rename_i h;exact Qeh (by simp) h
def UZ (f:Str->Str) (a:RH.At):RH.At:=⟨a.k,a.ts.map f⟩
theorem Qfm {r:Ru} {f:Str->Str} (hf: ∀ t,UF t=false->f t=t) {a:RH.At} (ha:a∈JD r):putA a (WM r,(WM r).map f)=UZ f a:=by
 unfold putA UZ;congr 1;refine QV λt ht=> ?_
 rw [Qra];split
 ·rfl
 ·rename_i hn;refine (hf t ?_).symm;cases e:UF t with
  | false=>rfl
  | true=>exact absurd (UM.mpr ⟨⟨a,ha,ht⟩,e⟩) hn
theorem Qrx {one Kw:Ru} {f:Str->Str} (hf: ∀ t,UF t=false->f t=t) (hh:UZ f one.h=Kw.h) (hb: ∀ l∈one.b,(Li.mk l.y (UZ f l.a))∈Kw.b):Qgl one Kw=true:=by
 refine Zx.mpr ⟨(WM one,(WM one).map f),Qiu (Qez one) (λv hv=> ?_),?_⟩
 ·obtain ⟨⟨a,ha,hva⟩,_⟩:=UM.mp hv;rw [Qhk];rcases Qb.mp ha with rfl | ha
  ·refine ⟨Kw.h,Q8,?_⟩;rw [<- hh];exact Q6.mpr ⟨v,hva,rfl⟩
  ·obtain ⟨l,hl,rfl⟩:=Q6.mp ha;refine ⟨UZ f l.a,Q7 _ (Q6.mpr ⟨_,hb l hl,rfl⟩),Q6.mpr ⟨v,hva,rfl⟩⟩
 ·unfold BQ;rw [Qv];constructor
  ·rw [Qfm hf Q8,hh]
   simp
  ·rw [Wo];intro d hd;obtain ⟨l,hl,rfl⟩:=Q6.mp hd;rw [Qdw,Qfm hf (Q7 _ (Q6.mpr ⟨l,hl,rfl⟩))];exact Jz (Q6.mpr ⟨_,hb l hl,rfl⟩)
theorem Qrw (r:Ru):Qgl r r=true:=Qrx (f:=λt=>t) (λ_ _=>rfl) (by simp [UZ]) (λl hl=>by
 have:Li.mk l.y (UZ (λt=>t) l.a)=l:=by simp [UZ]
 rw [this];exact hl)
theorem Uj: ∀ {a b:List Str},a.map D.str=b.map D.str->a=b
 | [],[],_=>rfl
 | [],_::_,h=>by simp at h
 | _::_,[],h=>by simp at h
 | x::a,y::b,h=>by
  rw [Qk,Qk] at h;injection h with h1 h2
  injection h1 with h1
  rw [h1,Uj h2]
theorem Qet {a b:RH.At} (h:atL a=atL b):a=b:=by
 unfold atL at h;injection h with h1 h2
 injection h1 with h1
 injection h2 with h2 _
 injection h2 with h2
 have:=Uj h2;cases a;cases b
 simp_all
theorem Qy9 {a b:Li} (h:a.d=b.d):a=b:=by
 have h':[D.str (if a.y then ("yes" :Str) else "no"),D.tup (atL a.a)]=[D.str (if b.y then ("yes" :Str) else "no"),D.tup (atL b.a)]:=by
  have:D.tup [D.str (if a.y then ("yes" :Str) else "no"),D.tup (atL a.a)]=D.tup [D.str (if b.y then ("yes" :Str) else "no"),D.tup (atL b.a)]:=h;injection this
 injection h' with h1 h2
 injection h1 with h1
 injection h2 with h2 _
 injection h2 with h2
 have e1:=Qet h2;have ny: ¬ (("yes" :Str)= "no"):=by decide
 cases a with
 | mk ay aa =>
  cases b with
  | mk by' ba =>
   simp only at e1 h1;subst e1;cases ay<;>cases by'<;>simp_all
theorem Qcf {words:List Str} {V:List Str}: ∀ {vars:List Str} {gs:List Gv},(∀ v∈vars,v∈V)->(∀ g∈gs,∀ x∈g.1,x∈V)-> ∀ g∈vars.foldl (Z6 words) gs,∀ x∈g.1,x∈V
 | [],gs,_,h=>h
 | v::vars,gs,hv,h=>Qcf (vars:=vars) (λx hx=>hv x (Q7 _ hx)) λg hg x hx=>by
  obtain ⟨g0,h0,h1⟩:=Zw.mp hg;obtain ⟨w,_,rfl⟩:=Q6.mp h1;rcases Qm4.mp (show x∈WB g0.1 v from hx) with z | rfl
  ·exact h g0 h0 x z
  ·exact hv _ Q8
def Covers (one Kw:Ru):Prop:= ∃ f:Str->Str,(∀ t,UF t=false->f t=t)/\UZ f one.h=Kw.h/\ ∀ l∈one.b,Li.mk l.y (UZ f l.a)∈Kw.b
theorem Ql8 {one Kw:Ru}:Qgl one Kw=true ↔ Covers one Kw:=by
 constructor
 ·intro h;obtain ⟨g,hg,hc⟩:=Zx.mp h;have gk:=Qkt g hg;unfold BQ at hc;rw [Qv,Wo] at hc;refine ⟨Qah g.1 g.2,λt ht=>Qeh gk.1 λz=> ?_,Qet (WD hc.1),λl hl=> ?_⟩
  ·have:=Qcf (vars:=WM one) (words:=YO Kw) (V:=WM one) (gs:=[([],[])]) (λv hv=>hv) (λg hg x hx=>by
    rw [QQ.mp hg] at hx;cases hx) g hg t z
   rw [(UM.mp this).2] at ht;cases ht
  ·have h2:=WD (hc.2 l.d (Q6.mpr ⟨l,hl,rfl⟩));rw [Qdw] at h2;obtain ⟨l2,hl2,e⟩:=Q6.mp h2;have:=Qy9 e;rw [<- show l2=Li.mk l.y (UZ (Qah g.1 g.2) l.a) from this];exact hl2
 ·rintro ⟨f,h1,h2,h3⟩;exact Qrx h1 h2 h3
end K24
namespace DH
open PySem
section
variable {prog:Program} {w:World} {K:Type} [DecidableEq K] {knd:HeapKind prog w K} {A:Around} {E:Kf} {s:Shared}
theorem Ob {d a:Addr} {xs:List (K×Addr×Value)} {k:K} {v:Value} {Q:Kf} (hu:knd.room A) (hkey:knd.is s.heap k a) (hm:s.heap.DictOfH knd d xs) (hsz:xs.length<=sizeLine)
  (h1: ∀ p,atKey xs k=some p->Q p.2 { s with toks:=s.toks+knd.draws k })
  (h2:atKey xs k=none-> ∀ h',h'.DictOfH knd d (xs++[(k,a,v)])->Heap.SameBut d s.heap h'->Q v { s with heap:=h',toks:=s.toks+knd.draws k }) :
  wpAny (model prog w) A (dictSetDefault d (.ref a) v) Q E s:=by
 obtain ⟨o,es,ep,ho,hc,hd,he,his,hn⟩:=hm;unfold dictSetDefault;refine JH ?_;refine Q0 (knd.pyHash hu hkey (Q0 (wpAny_dictFind_heap (s:={ s with toks:=s.toks+knd.draws k }) hu hkey ho hd he his hn ?_ ?_)))
 ·intro hno;have hnot:k ∉ xs.map (·.1):=not_mem_keys_of_get hno;refine Q0 (ZS (Q0 (wpAny_updateDictKeys (hz:=by have e:=size_of_entries he;omega) (s:={ s with toks:=s.toks+knd.draws k }) ho hd (Q3 (h2 (atKey_none_of_get hno) _ ⟨_,_,ep+1,QW _ ho (Obj.isFreed_of_dict (Obj.data_mapDictKeys hd _)),
   hc.mapDictKeys _,Obj.data_mapDictKeys hd _,?_,?_,?_⟩ (QN ..))))))
  ·simp [he,entryOfKey]
  ·intro x hx;rcases Qy.mp hx with hx | hx
   ·exact knd.keeps (his x hx) ho hd (QN ..)
   ·simp only [QQ] at hx;subst hx;exact knd.keeps hkey ho hd (QN ..)
  ·rw [QF,Jx];refine ⟨hn,by simp,?_⟩;intro x hx y hy;simp only [Qk,Z1,QQ] at hy;subst hy;exact λe=>hnot (e ▸ hx)
 ·intro j p hj;refine Q0 (Qb9 (s:={ s with toks:=s.toks+knd.draws k }) ho hd ?_);rw [entry_at he j,hj];exact Q0 (ZS (Q3 (h1 p (atKey_of_get hn hj))))
theorem BE {d a:Addr} (hd:(d == sysModules)=false) (dflt:Value) :
  MeetsIn prog w (Builtin.«dict.setdefault» ⟨[.ref d,.ref a,dflt],[]⟩) (λA R s=> ∃ xs k,knd.room A.in1/\knd.is s.heap k a/\s.heap.DictOfH knd d xs/\xs.length<=sizeLine /\
   (∀ p,atKey xs k=some p->R (.ok (.ret p.2)) { s with toks:=s.toks+knd.draws k }) /\
   (atKey xs k=none-> ∀ h',h'.DictOfH knd d (xs++[(k,a,dflt)])->Heap.SameBut d s.heap h'->R (.ok (.ret dflt)) { s with heap:=h',toks:=s.toks+knd.draws k })) :=
 .of_wp λA R s ⟨xs,k,hu,hkey,hm,hz,h1,h2⟩=>by
  unfold Builtin.«dict.setdefault»;refine Q0 ?_;unfold Builtin.Dict.keyAndDefault;refine Q0 (wpAny_notOrdered_dict hm.typeIs ?_);show wpAny _ _ (pure (d,Value.ref a,some dflt)) _ _ s;refine Q3 ?_;show wpAny _ _ (if (d == sysModules)=true then _ else (dictSetDefault d (.ref a) dflt >>= _)) _ _ s;rw [Qg (by rw [hd];exact Qn)];exact Q0 (Ob hu hkey hm hz (λp hp=>Q3 ⟨p.2,rfl,h1 p hp⟩) λhn h' hm' hs'=>Q3 ⟨dflt,rfl,h2 hn h' hm' hs'⟩)
end
end DH
namespace L2
open PySem PySem.Spec PyProof.Rows
def XKey (k:D):Prop:=keyOk k=true/\dep k<=6/\ ∃ es,k= .tup es
abbrev KOk (ks:List D):Prop:= ∀ k∈ks,XKey k
structure DxI (w:World) (K:W.Frag) (H:Hp) (p:Addr) (ks:List D) (as:List Addr) (vs:List V):Prop where
 rd:Rd H p (DxO p (ks.map (J6 w)) as vs)
 nd:ks.Nodup
 ok:KOk ks
 is:Va K H ks (as.map .ref)
theorem Qj3 {prog:Program} {w:World}: ∀ (ks:List D) (as:List Addr) (us:List Value),
  List.zipWith (λ(q:Int×Addr) (u:Value)=>(⟨q.1,Value.ref q.2,u⟩:DictEntry)) ((ks.map (J6 w)).zip as) us=(ks.zip (as.zip us)).map (entryOfKey (Qcx prog w))
 | [],_,_=>rfl
 | _::_,[],_=>rfl
 | _::_,_::_,[]=>rfl
 | k::ks,a::as,u::us=>by
  simp only [Qk,JG,List.zipWith_cons_cons];rw [Qj3 (prog:=prog) ks as us];rfl
theorem Is.key_ref {K:W.Frag} {H:Hp} {k:D} {v:V} (x:XKey k) (h:Is K H k v): ∃ a,v= .ref a:=by
 obtain ⟨_,_,es,rfl⟩:=x;obtain ⟨p,_,e,_⟩:=JB h;exact ⟨p,e⟩
section
variable {X:Cx} {Kz:Ke} {σ:St} {H:Hp} {s:Shared} {p a:Addr} {ks:List D} {as:List Addr} {vs:List V} {k:D} {A:Around} {E:Kf}
theorem Qe9 (I:Inv X Kz σ H s) (x:XKey k) (h:Is X.K H k (.ref a)):KIs s.heap k a:=⟨x.1,x.2.1,Is.conc I (Qe5 x.1) h rfl⟩
theorem Qrh (I:Inv X Kz σ H s) (d:DxI X.w X.K H p ks as vs):(p == sysModules)=false/\vs.length<=sizeLine/\ks.length=as.length/\as.length=vs.length /\
  ∃ us,Vals vs us/\s.heap.DictOfH (Qcx X.prog X.w) p (ks.zip (as.zip us)):=by
 obtain ⟨⟨h1,h2,h3,h4,o,es,ep,us,ho,hex,hd,rv,he⟩,_⟩:=(show ObjOk X.prog X.w H s.heap p (DxO p (ks.map (J6 X.w)) as vs) from d.rd.ok I.hok);rw [Q2] at h3;have hu:=rv.length;refine ⟨h1,h2,h3,h4,us,rv,o,es,ep,ho,hex,hd,by rw [he,Qj3 (prog:=X.prog)],λx hx=> ?_,?_⟩
 ·obtain ⟨i,hi⟩:=J1.mp hx;obtain ⟨e1,e2⟩:=Jt.mp hi;obtain ⟨e3,e4⟩:=Jt.mp e2;obtain ⟨v,f1,f2⟩:=d.is.get e1;rw [Qe,e3] at f1;cases f1;exact Qe9 I (d.ok _ (Q9 e1)) f2
 ·rw [List.map_fst_zip (by rw [WA];omega)];exact d.nd
theorem Jai {P:Program} {w:World} {H':Hp} {h':Heap} {us:List Value} (hm:(p == sysModules)=false) (hz:vs.length<=sizeLine) (h1:ks.length=as.length) (h2:as.length=vs.length) (rv:Vals vs us) (dd:h'.DictOfH (Qcx P w) p (ks.zip (as.zip us))) :
  ObjOk P w H' h' p (DxO p (ks.map (J6 w)) as vs):=by
 obtain ⟨o,es,ep,ho,hex,hd,he,_,_⟩:=dd;refine ⟨⟨hm,hz,by rw [Q2];exact h1,h2,o,es,ep,us,ho,hex,hd,rv,by rw [he,Qj3 (prog:=P)]⟩,⟨o,ho⟩,?_⟩;rintro ha hb ⟨g1,g2,g3,g4,o,es,ep,us,ho,r⟩ st;exact ⟨g1,g2,g3,g4,o,es,ep,us,st _ ho,r⟩
theorem OE {us:List Value} {i:Nat} {u:Value} (hl:ks.length=as.length) (hn:ks.Nodup) (h2:as.length=us.length) (hk:ks[i]? =some k) (hu:us[i]? =some u): ∃ b,atKey (ks.zip (as.zip us)) k=some (b,u):=by
 have Ks:=(Q4.mp hk).1;have ha:as[i]? =some as[i]:=Qc (by omega);refine ⟨as[i],atKey_of_get (by rw [List.map_fst_zip (by rw [WA];omega)];exact hn) (i:=i) ?_⟩;rw [Jt];exact ⟨hk,by rw [Jt];exact ⟨ha,hu⟩⟩
theorem OF {us:List Value} (hk:k ∉ ks):atKey (ks.zip (as.zip us)) k=none:=atKey_none_of_get λj q e=>hk (Q9 (Jt.mp e).1)
theorem Jaw {us:List Value} (hl:ks.length=as.length) (hn:ks.Nodup) (h2:as.length=us.length):(atKey (ks.zip (as.zip us)) k).isSome=decide (k∈ks):=by
 by_cases hk:k∈ks
 ·obtain ⟨i,hi⟩:=J1.mp hk;have Ks:=(Q4.mp hi).1;obtain ⟨b,e⟩:=OE hl hn h2 hi (Qc (show i < us.length by omega));rw [e];simp [hk]
 ·rw [OF hk];simp [hk]
noncomputable def Qr9 (ks:List D) (vs:List V) (k:D) (z:V):V:=if k∈ks then vs.getD (ks.idxOf k) z else z
theorem Qwn {z:V} {r:Value} {Q:Kf} (hu:A.units+15 < cLine) (I:Inv X Kz σ H s) (d:DxI X.w X.K H p ks as vs) (x:XKey k) (ik:Is X.K H k (.ref a)) (rz:RelV z r) (h: ∀ w' s',Inv X Kz σ H s'->RelV (Qr9 ks vs k z) w'->Q w' s') :
  wpAny (model X.prog X.w) A (call (.builtin "dict.get") [.ref p,.ref a,r]) Q E s:=by
 obtain ⟨h1,h2,h3,h4,us,rv,dd⟩:=Qrh I d;refine Bo Z5 dd.typeIs OI (O8 _ _ _) (meetsH_dict_get_default (Qcx X.prog X.w) p a h1 r) ⟨show A.units+1+14 < cLine by omega,k,_,Qe9 I x ik,dd,h _ _ (I.tok _) ?_⟩;unfold Qr9
 by_cases hk:k∈ks
 ·have hi:ks[ks.idxOf k]? =some k:=by
   rw [Qc (QP hk),Wq]
  have Ks:=QP hk;have hul:ks.idxOf k < us.length:=by rw [<- rv.length];omega
  obtain ⟨b,e⟩:=OE h3 d.nd (by rw [h4,rv.length]) hi (Qc hul);have hvl:ks.idxOf k < vs.length:=by omega
  rw [e,Qj hk,Qa,Qc hvl];obtain ⟨u,e1,e2⟩:=rv.get (Qc hvl);rw [Qc hul] at e1;cases e1;exact e2
 ·rw [OF hk,Qg hk];exact rz
end
theorem Qbs {ks:List D} {as:List Addr} {us:List Value} {k:D} {a:Addr} {u:Value} (h1:ks.length=as.length) (h2:as.length=us.length):(ks++[k]).zip ((as++[a]).zip (us++[u]))=ks.zip (as.zip us)++[(k,a,u)]:=by
 rw [Qbc h2,Qbc (by rw [WA];omega)];rfl
theorem Qey: ∀ {ks:List D} {as:List Addr} {us:List Value} {i:Nat} {k:D} {u:Value},ks.length=as.length->as.length=us.length->ks.Nodup->ks[i]? =some k->(ks.zip (as.zip us)).map (putAt k u)=ks.zip (as.zip (us.set i u))
 | [],_,_,i,k,u,_,_,_,hk=>by simp at hk
 | x::ks,[],_,_,_,_,h,_,_,_=>by simp at h
 | x::ks,a::as,[],_,_,_,_,h,_,_=>by simp at h
 | x::ks,a::as,v::us,0,k,u,h1,h2,nd,hk=>by
  have:x=k:=by simpa using hk
  subst this;have nd':=J5.mp nd;simp only [List.set_cons_zero,JG,Qk];rw [map_putAt_of_not_mem _ _ _ (λhm=> ?_)]
  ·simp [putAt]
  ·obtain ⟨q,hq,rfl⟩:=Q6.mp hm;exact nd'.1 (Z4 hq).1
 | x::ks,a::as,v::us,i+1,k,u,h1,h2,nd,hk=>by
  have nd':=J5.mp nd;have hk':ks[i]? =some k:=by simpa using hk
  have Kn:x≠k:=by
   rintro rfl;exact nd'.1 (Q9 hk')
  simp only [List.set_cons_succ,JG,Qk];rw [Qey (by simpa using h1) (by simpa using h2) nd'.2 hk'];simp [putAt,Kn]
theorem Vals.setAt {x:V} {u:Value} (r:RelV x u) {xs:List V} {us:List Value} (i:Nat) (h:Vals xs us):Vals (xs.set i x) (us.set i u):=Vals.set r i h
section
variable {X:Cx} {Kz:Ke} {σ:St} {H:Hp} {s:Shared} {p a:Addr} {ks:List D} {as:List Addr} {vs:List V} {k:D} {A:Around} {E:Kf}
def XPut (w:World) (H:Hp) (p a:Addr) (ks:List D) (as:List Addr) (vs:List V) (k:D) (v:V) (H':Hp):Prop :=
 (∃ i,ks[i]? =some k/\H'=upd H p (DxO p (ks.map (J6 w)) as (vs.set i v))) \/ (k ∉ ks/\H'=upd H p (DxO p ((ks++[k]).map (J6 w)) (as++[a]) (vs++[v])))
theorem Qd8 {h':Heap} {t':Nat} {ks2:List D} {as2:List Addr} {vs2:List V} {us2:List Value} (I:Inv X Kz σ H s) (hp:H p=some (DxO p (ks.map (J6 X.w)) as vs)) (hs:Heap.SameBut p s.heap h') (hm:(p == sysModules)=false) (hz:vs2.length<=sizeLine) (h1:ks2.length=as2.length) (h2:as2.length=vs2.length) (rv:Vals vs2 us2)
  (dd:h'.DictOfH (Qcx X.prog X.w) p (ks2.zip (as2.zip us2))):Inv X Kz σ (upd H p (DxO p (ks2.map (J6 X.w)) as2 vs2)) { s with heap:=h',toks:=t' } :=
 OC I (by rw [hp];exact QE) hs (let ⟨q,_,_,hq,_⟩:=dd;⟨q,hq⟩) (Jai hm hz h1 h2 rv dd)
theorem Qlr {v:V} {r:Value} {Q:Unit->Shared->Prop} (hu:A.units+15 < cLine) (I:Inv X Kz σ H s) (hp:H p=some (DxO p (ks.map (J6 X.w)) as vs)) (nd:ks.Nodup) (ok:KOk ks) (is:Va X.K H ks (as.map .ref)) (x:XKey k) (ik:Is X.K H k (.ref a)) (hz:ks.length < sizeLine) (rv:RelV v r)
  (h: ∀ s' H',XPut X.w H p a ks as vs k v H'->Inv X Kz σ H' s'->Q () s'):wpAny (model X.prog X.w) A (setItem (.ref p) (.ref a) r) Q E s:=by
 have d:DxI X.w X.K H p ks as vs:=⟨.inl hp,nd,ok,is⟩;obtain ⟨h1,h2,h3,h4,us,rvs,dd⟩:=Qrh I d;have hl:(ks.zip (as.zip us)).length<=sizeLine:=by rw [WA];omega
 refine wpAny_setItem_heap (hsz:=hl) (show A.units+1+14 < cLine by omega) (Qe9 I x ik) dd λh' dd' hs=> ?_
 have hul:as.length=us.length:=by rw [h4,rvs.length]
 by_cases hk:k∈ks
 ·obtain ⟨i,hi⟩:=J1.mp hk;have Ks:=(Q4.mp hi).1;obtain ⟨b,e⟩:=OE h3 d.nd hul hi (Qc (show i < us.length by omega));rw [storedH_old e,Qey h3 hul nd hi] at dd';refine h _ _ (.inl ⟨i,hi,rfl⟩) (Qd8 I hp hs h1 (by rw [List.length_set];exact h2) h3 (by rw [List.length_set];exact h4) (Vals.setAt rv i rvs) dd')
 ·rw [storedH_new (OF hk),<- Qbs h3 hul] at dd';refine h _ _ (.inr ⟨hk,rfl⟩) (Qd8 I hp hs h1 (by simp;omega) (by simp;omega) (by simp;omega) (rvs.append (.cons rv .nil)) dd')
theorem Qnv {v:V} {r:Value} {Q:Kf} (hu:A.units+15 < cLine) (I:Inv X Kz σ H s) (hp:H p=some (DxO p (ks.map (J6 X.w)) as vs)) (nd:ks.Nodup) (ok:KOk ks) (is:Va X.K H ks (as.map .ref)) (x:XKey k) (ik:Is X.K H k (.ref a)) (hz:ks.length < sizeLine) (rv:RelV v r)
  (h1: ∀ (i:Nat) y w' s',ks[i]? =some k->vs[i]? =some y->RelV y w'->Inv X Kz σ H s'->Q w' s')
  (h2:k ∉ ks-> ∀ s',Inv X Kz σ (upd H p (DxO p ((ks++[k]).map (J6 X.w)) (as++[a]) (vs++[v]))) s'->Q r s'):wpAny (model X.prog X.w) A (call (.builtin "dict.setdefault") [.ref p,.ref a,r]) Q E s:=by
 have d:DxI X.w X.K H p ks as vs:=⟨.inl hp,nd,ok,is⟩;obtain ⟨g1,g2,g3,g4,us,rvs,dd⟩:=Qrh I d;have hl:(ks.zip (as.zip us)).length<=sizeLine:=by rw [WA];omega
 have hul:as.length=us.length:=by rw [g4,rvs.length]
 refine Bo Wb dd.typeIs Qsn (Qnn _ _ _) (DH.BE (knd:=Qcx X.prog X.w) g1 r) ⟨_,k,show A.units+1+14 < cLine by omega,Qe9 I x ik,dd,hl,λq hq=> ?_,λhn h' dd' hs=> ?_⟩
 ·by_cases hk:k∈ks
  ·obtain ⟨i,hi⟩:=J1.mp hk;have Ks:=(Q4.mp hi).1;have hvl:i < vs.length:=by omega
   obtain ⟨u,e1,e2⟩:=rvs.get (Qc hvl);obtain ⟨b,e⟩:=OE g3 d.nd hul hi e1;rw [e] at hq;cases hq;exact h1 i _ _ _ hi (Qc hvl) e2 (I.tok _)
  ·rw [OF hk] at hq;cases hq
 ·have hk:k ∉ ks:=λhk=>by
   have:=Jaw (us:=us) (k:=k) g3 nd hul;rw [hn] at this;simp [hk] at this
  rw [<- Qbs g3 hul] at dd';exact h2 hk _ (Qd8 I hp hs g1 (by simp;omega) (by simp;omega) (by simp;omega) (rvs.append (.cons rv .nil)) dd')
theorem Inv.reDx (I:Inv X Kz σ H s) (hp:H p=some (.dK [])):Inv X Kz σ (upd H p (DxO p [] [] [])) s:=by
 obtain ⟨_,hm,vs,rel,o,es,ep,ho,hex,hd,_,hpr,_⟩:=Ql1 I.hok hp;have hv:vs=[]:=by cases rel;rfl
 subst hv;refine I.write (x:=p) (e:=p) (h':=s.heap) (t':=s.toks) (by rw [hp];exact QE) (.inl rfl) (λb u _ z=>z) ⟨o,ho⟩ ⟨⟨hm,Qz _,rfl,rfl,o,es,ep,[],ho,hex,hd,.nil,?_⟩,⟨o,ho⟩,?_⟩
 ·generalize es.toList=l at hpr;cases hpr;rfl
 ·rintro ha hb ⟨g1,g2,g3,g4,o,es,ep,us,ho,r⟩ st;exact ⟨g1,g2,g3,g4,o,es,ep,us,st _ ho,r⟩
end
section
variable {X:Cx} {o i e f value:Expr} {es:List Expr} {pos pos' apos cpos:Pos} {td ty tv to:TE} {t:TA}
structure DxW (w:World) (K:W.Frag) (H:Hp) (p:Addr) (ks:List D) (as:List Addr) (vs:List V):Prop where
 at_:H p=some (DxO p (ks.map (J6 w)) as vs)
 nd:ks.Nodup
 ok:KOk ks
 is:Va K H ks (as.map .ref)
 few:ks.length < sizeLine
def Qzm (X:Cx) (td ty tv:TE):TS:=λD σ H=>tv σ H λv H1=>td σ H1 λx H2=>ty σ H2 λy H3=> ∃ p a ks as vs k,x= .ref p/\y= .ref a/\DxW X.w X.K H3 p ks as vs/\XKey k/\Is X.K H3 k (.ref a) /\
 ∀ H4,XPut X.w H3 p a ks as vs k v H4->D.nx σ H4
theorem Qk8 (hu:X.A.units+15 < cLine) (ho:PE X o td) (hi:PE X i ty) (hv:PE X value tv) (hs:swapsWith value (some (.Subscript o i pos')) pos.line X.env=pure false) :
  PS X (.Assign [.Subscript o i pos'] value pos) (Qzm X td ty tv):=by
 intro Kz s σ H D I h;refine wpAny_Assign_Subscript (thn (hv Kz s σ H _ I h) λr s1 ⟨v,H1,I1,rv,q1⟩=>thn (ho Kz s1 σ H1 _ I1 q1) λu s2 ⟨x,H2,I2,rx,q2⟩=>thn (hi Kz s2 σ H2 _ I2 q2) λiv s3 ⟨y,H3,I3,ry,p,a,ks,as,vs,k,ex,ey,d,xk,ik,q3⟩=> ?_) hs;subst ex ey;obtain rfl:u=Value.ref p:=rx;obtain rfl:iv=Value.ref a:=ry;exact Qlr hu I3 d.at_ d.nd d.ok d.is xk ik d.few rv λs4 H4 g I4=>⟨σ,H4,I4,q3 H4 g⟩
def Qo5:TE:=λ_ H Q=> ∀ p,H p=none->Q (.ref p) (upd H p (DxO p [] [] []))
theorem GZ:PE X (.Dict [] [] pos) Qo5:=λKz s σ H Q I h =>
 thn (Qpb Kz s σ H (λv H1=> ∃ p,v= .ref p/\H p=none/\H1=upd H p (.dK [])) I λp hp=>⟨p,rfl,hp,rfl⟩) λu s1 ⟨v,H1,I1,r,p,ev,hp,eH⟩=>by
  subst ev eH;have I2:=I1.reDx (p:=p) Vu;rw [Qt2] at I2;exact ⟨.ref p,_,I2,r,h p hp⟩
def tXM (r:V->List V->Hp->VK->Prop) (to:TE) (t:TA):TE:=λσ H Q=>to σ H λx H1=>(∃ p hs as vs,x= .ref p/\Rd H1 p (DxO p hs as vs))/\t σ H1 λxs H2=>r x xs H2 Q
def Jax (r:V->List V->Hp->VK->Prop) (to:TE):TE:=λσ H Q=>to σ H λx H1=>(∃ p hs as vs,x= .ref p/\Rd H1 p (DxO p hs as vs))/\r x [] H1 Q
theorem xty {Kz:Ke} {σ:St} {H:Hp} {s:Shared} {x:V} {v:Value} (I:Inv X Kz σ H s) (r:RelV x v) (ty: ∃ p hs as vs,x= .ref p/\Rd H p (DxO p hs as vs)):s.TypeIs v "dict" /\ ∀ a,v= .ref a-> ∃ ob,s.heap.get? a=some ob/\ob.dict=none:=by
 obtain ⟨p,hs,as,vs,rfl,rd⟩:=ty;obtain rfl:v=Value.ref p:=r;obtain ⟨⟨_,_,_,_,ob,_,_,_,ho,hex,_⟩,_⟩:=(show ObjOk X.prog X.w H s.heap p (DxO p hs as vs) from rd.ok I.hok);refine ⟨⟨ob,ho,hex.1⟩,λa e=> ?_⟩;cases e;exact ⟨ob,ho,hex.2.1⟩
variable {name:Str} {id:String} {r:V->List V->Hp->VK->Prop}
theorem Qxi (slot:Slot "dict" name id) (hty:typeOf (.builtin id)=pure (.type "method_descriptor")) (hm:MtR X id r) (ho:PE X o to)
  (hbase:attributeBase o name X.env (eval o X.env)=eval o X.env:=by rfl) (Kh:(apos.endLine == cpos.line)=true:=by rfl):PE X (.Call (.Attribute o name apos) [] [] cpos) (Jax r to):=by
 intro Kz s σ H Q I h;refine wpAny_Call_method0_late hbase Kh (thn (ho Kz s σ H _ I h) λv s1 ⟨x,H1,I1,r1,ty,q1⟩=> ?_);obtain ⟨h1,h2⟩:=xty I1 r1 ty;exact ⟨"dict",id,Yf,slot,hty,h1,h2,Zg rfl (PySem.evalArgs_none (hm Kz s1 σ H1 x [] v [] Q I1 r1 .nil q1))⟩
theorem Qp6 (slot:Slot "dict" name id) (hty:typeOf (.builtin id)=pure (.type "method_descriptor")) (hm:MtR X id r) (ho:PE X o to) (ha:PA X (e::es) t)
  (hbase:attributeBase o name X.env (eval o X.env)=eval o X.env:=by rfl)
  (hfew:((backTo cpos (starEach (e::es) X.env)).all (λx=> !x.1) && (backToKw cpos (keywordEach [] X.env)).all (λx=>x.1.isSome)
   && decide ((e::es).length+([]:List Keyword).length+(if ([]:List Keyword).isEmpty then 0 else 1) < 30))=true:=by rfl)
  (Kh:(apos.endLine == cpos.line)=true:=by rfl) (hs:starEach (e::es) X.env=(false,eval e X.env)::starEach es X.env:=by rfl) (hplain:(backTo cpos (starEach es X.env)).any (·.1)=false:=by rfl) :
  PE X (.Call (.Attribute o name apos) (e::es) [] cpos) (tXM r to t):=by
 intro Kz s σ H Q I h;refine wpAny_Call_method_late hbase hfew Kh rfl (thn (ho Kz s σ H _ I h) λv s1 ⟨x,H1,I1,r1,ty,q1⟩=> ?_);obtain ⟨h1,h2⟩:=xty I1 r1 ty;refine ⟨"dict",id,Yf,slot,hty,h1,h2,?_⟩;have hA:=ha cpos Kz s1 σ H1 _ I1 q1;rw [hs] at hA ⊢;refine Zg (by show (false || (backTo cpos (starEach es X.env)).any (·.1))=false;rw [hplain]<;>rfl) (Qln ?_);exact thn hA λus s2 ⟨vs,H2,I2,r2,q2⟩=>hm Kz s2 σ H2 x vs v us Q I2 r1 r2 q2
def Qzq (X:Cx):V->List V->Hp->VK->Prop:=λx xs H Q=> ∃ p a ks as vs k z,x= .ref p/\xs=[.ref a,z]/\DxI X.w X.K H p ks as vs/\XKey k/\Is X.K H k (.ref a)/\Q (Qr9 ks vs k z) H
theorem Quo (hu:X.A.units+15 < cLine):MtR X "dict.get" (Qzq X):=by
 intro Kz s σ H x xs v us Q I rx rs h;obtain ⟨p,a,ks,as,vs,k,z,rfl,rfl,d,xk,ik,q⟩:=h;obtain rfl:v=Value.ref p:=rx;obtain ⟨u,u',rfl,ru,ru'⟩:=rs.two;obtain rfl:u=Value.ref a:=ru;exact Qwn hu I d xk ik ru' λw' s' I' r'=>⟨_,H,I',r',q⟩
def Qzr (X:Cx):V->List V->Hp->VK->Prop:=λx xs H Q=> ∃ p a ks as vs k y,x= .ref p/\xs=[.ref a,y]/\DxW X.w X.K H p ks as vs/\XKey k/\Is X.K H k (.ref a) /\
 (∀ (n:Nat) z,ks[n]? =some k->vs[n]? =some z->Q z H)/\(k ∉ ks->Q y (upd H p (DxO p ((ks++[k]).map (J6 X.w)) (as++[a]) (vs++[y]))))
theorem Qkj (hu:X.A.units+15 < cLine):MtR X "dict.setdefault" (Qzr X):=by
 intro Kz s σ H x xs v us Q I rx rs h;obtain ⟨p,a,ks,as,vs,k,y,rfl,rfl,d,xk,ik,q1,q2⟩:=h;obtain rfl:v=Value.ref p:=rx;obtain ⟨u,u',rfl,ru,ru'⟩:=rs.two;obtain rfl:u=Value.ref a:=ru;exact Qnv hu I d.at_ d.nd d.ok d.is xk ik d.few ru' (λn z w' s' hk hv rz I'=>⟨z,H,I',rz,q1 n z hk hv⟩) λhk s' I'=>⟨y,_,I',ru',q2 hk⟩
end
def NoX:List Sl->Prop
 | []=>True
 | .odx _ _ _::_=>False
 | _::r=>NoX r
theorem NoX.h: ∀ {τ:List Sl},NoX τ-> ∀ (j:Nat) hs ks ds,τ[j]? ≠some (.odx hs ks ds)
 | [],_,j,hs,ks,ds,e=>by simp at e
 | s::r,h,0,hs,ks,ds,e=>by
  have:s= .odx hs ks ds:=by simpa using e
  subst this;exact h
 | s::r,h,j+1,hs,ks,ds,e=>by
  have h':NoX r:=by
   cases s<;>first | exact h | exact h.elim
  exact NoX.h h' j hs ks ds (by simpa using e)
def OneX:Nat->List Sl->Prop
 | _,[]=>True
 | 0,_::r=>NoX r
 | i+1,.odx _ _ _::_=>False
 | i+1,_::r=>OneX i r
theorem OneX.h: ∀ {i:Nat} {τ:List Sl},OneX i τ-> ∀ (j:Nat) hs ks ds,τ[j]? =some (.odx hs ks ds)->j=i
 | _,[],_,j,hs,ks,ds,e=>by simp at e
 | 0,s::r,h,0,hs,ks,ds,e=>rfl
 | 0,s::r,h,j+1,hs,ks,ds,e=>absurd (by simpa using e) (NoX.h (τ:=r) h j hs ks ds)
 | i+1,s::r,h,0,hs,ks,ds,e=>by
  have:s= .odx hs ks ds:=by simpa using e
  subst this;exact h.elim
 | i+1,s::r,h,j+1,hs,ks,ds,e=>by
  have h':OneX i r:=by
   cases s<;>first | exact h | exact h.elim
  rw [OneX.h h' j hs ks ds (by simpa using e)]
abbrev dcx (w:World) (fz:Bool) (ks ds:List D):D:= .oth (.dcx fz (ks.map (J6 w))) ks ds
theorem Qv5 {w:World} {K:W.Frag} {H:Hp} {fz:Bool} {ks ds:List D} {v:V} (ok:KOk ks) (h:Is K H (dcx w fz ks ds) v): ∃ p as vs,v= .ref p/\DxI w K H p ks as vs/\Va K H ds vs:=by
 obtain ⟨p,as,vs,e,dx,nd,ik,ia⟩:=Qed h;exact ⟨p,as,vs,e,⟨dx.rd,nd,ok,ik⟩,ia⟩
theorem DxI.same {w:World} {K:W.Frag} {H H':Hp} {p:Addr} {ks:List D} {as:List Addr} {vs:List V} (d:DxI w K H p ks as vs) (s:Same H H'):DxI w K H' p ks as vs:=by
 refine ⟨?_,d.nd,d.ok,d.is.same s⟩;rcases d.rd with h | ⟨o,h⟩
 ·exact .inl (s _ _ h)
 ·exact .inr ⟨o,s _ _ h⟩
noncomputable def Qg6 (ks ds:List D) (k z:D):D:=if k∈ks then ds.getD (ks.idxOf k) z else z
theorem Qv3 {K:W.Frag} {H:Hp} {ks ds:List D} {vs:List V} {k z:D} {v:V} (ia:Va K H ds vs) (iz:Is K H z v):Is K H (Qg6 ks ds k z) (Qr9 ks vs k v):=by
 unfold Qg6 Qr9;split
 ·rw [Qa,Qa];cases h:ds[ks.idxOf k]? with
  | some d =>
   obtain ⟨w,e1,e2⟩:=ia.get h;rw [e1];exact e2
  | none =>
   have:vs[ks.idxOf k]? =none:=by
    rw [Gx] at h ⊢;rw [<- ia.length];exact h
   rw [this];exact iz
 ·exact iz
section
variable {X:Cx} {ρ:List (Option D)} {a b e f:Expr} {d k z:D} {ds ks:List D} {fz:Bool} {pos ap cp:Pos}
theorem Qvb (hu:X.A.units+15 < cLine) (ha:PD X ρ a (dcx X.w fz ks ds)) (hb:PD X ρ b k) (hf:PD X ρ f z) (ok:KOk ks) (xk:XKey k)
  (hbase:attributeBase a "get" X.env (eval a X.env)=eval a X.env:=by rfl)
  (hfew:((backTo cp (starEach [b,f] X.env)).all (λx=> !x.1) && (backToKw cp (keywordEach [] X.env)).all (λx=>x.1.isSome) && decide ([b,f].length+([]:List Keyword).length+(if ([]:List Keyword).isEmpty then 0 else 1) < 30))=true:=by rfl)
  (Kh:(ap.endLine == cp.line)=true:=by rfl) (hs:starEach [b,f] X.env=[(false,eval b X.env),(false,eval f X.env)]:=by rfl) (hs2:starEach [f] X.env=[(false,eval f X.env)]:=by rfl) (hplain:(backTo cp (starEach [f] X.env)).any (·.1)=false:=by rfl) :
  PD X ρ (.Call (.Attribute a "get" ap) [b,f] [] cp) (Qg6 ks ds k z) :=
 ZA (Qp6 Z5 PySem.F.type_dict_get (Quo hu) ha.pe (Vc hb (Vc hf Vn hs2) (by rw [hs,hs2])).pe hbase hfew Kh (by rw [hs,hs2]) hplain) λσ H Q he q=>⟨he,λv H1 s1 i1=>by
  obtain ⟨p,as,vs,rfl,dx,ia⟩:=Qv5 ok i1;refine ⟨⟨p,_,as,vs,rfl,dx.rd⟩,he.same s1,λws H2 s2 iw=> ?_⟩;obtain ⟨w1,w2,rfl,j1,j2⟩:=iw.two;obtain ⟨y,rfl⟩:=Is.key_ref xk j1;exact ⟨p,y,ks,as,vs,k,w2,rfl,rfl,dx.same s2,xk,j1,q _ H2 (s1.trans s2) (Qv3 (ia.same s2) j2)⟩⟩
end
section
variable {X:Cx} {H₀:Hp} {τ:List Sl} {e b:Expr} {d k:D} {ds ks:List D} {pos p p' ap cp:Pos} {x:Str} {i:Nat}
theorem Qy0 (hN:X.N.Nodup) (hi:X.N[i]? =some x:=by rfl) (hx:Loc X.env.scope x:=by first | exact QJ rfl | exact QD rfl)
  (hf:X.fn x=true \/ X.env.scope.names.lookup x=some .local:=by first | exact .inl rfl | exact .inr rfl) {dp:Pos} (hs:swapsWith (.Dict [] [] dp) (some (.Name x p)) pos.line X.env=pure false:=by rfl) :
  QO X H₀ τ (.Assign [.Name x p] (.Dict [] [] dp) pos) (.next true (τ.set i (.odx [] [] []))) :=
 ⟨(Gj hN hi hx GZ hs hf).imp λD σ H q p hp=>q.2 _ _ (Same.upd hp) (((q.1.step (Same.upd hp)).set i ⟨p,[],[],rfl,q.1.same.free hp,Vu,JA,rfl,rfl,QR,QR⟩ (λds e=>nomatch e)))⟩
noncomputable def Wh (ks:List D) (k:D):List D:=if k∈ks then ks else ks++[k]
noncomputable def putXv (ks ds:List D) (k d:D):List D:=if k∈ks then ds.set (ks.idxOf k) d else ds++[d]
theorem GX (h:ks.Nodup):(Wh ks k).Nodup:=by
 unfold Wh;split
 ·exact h
 ·rename_i hk;rw [Jx];exact ⟨h,by simp,λx hx y hy=>by simp at hy;subst hy;exact λe=>hk (e ▸ hx)⟩
theorem Uq (h:KOk ks) (xk:XKey k):KOk (Wh ks k):=by
 unfold Wh;split
 ·exact h
 ·intro y hy;rcases Qy.mp hy with hy | hy
  ·exact h y hy
  ·simp at hy;subst hy;exact xk
mutual
theorem Qjf: ∀ {d:D},keyOk d=true->LF d=true
 | .int _,_=>by simp [LF]
 | .str _,_=>by simp [LF]
 | .tup ds,h=>by rw [LF];exact Qld (by simpa [keyOk] using h)
 | .non,h=>by simp [keyOk] at h
 | .bl _,h=>by simp [keyOk] at h
 | .lst _,h=>by simp [keyOk] at h
 | .dct _ _ _,h=>by simp [keyOk] at h
 | .oth _ _ _,h=>by simp [keyOk] at h
theorem Qld: ∀ {ds:List D},keyOks ds=true->LFs ds=true
 | [],_=>by simp [LFs]
 | d::ds,h=>by
  rw [keyOks,Qv] at h;rw [LFs,Qjf h.1,Qld h.2];rfl
end
theorem KOk.lf (h:KOk ks):LFs ks=true:=WK.mpr λd hd=>Qjf (h d hd).1
theorem Qsk {j:Nat} (h:LFs ds=true) (ld:LF d=true):LFs (ds.set j d)=true:=by
 rw [WK] at h ⊢;intro y hy;rcases List.mem_or_eq_of_mem_set hy with hy | rfl
 ·exact h y hy
 ·exact ld
theorem Va.setX {K:W.Frag} {H:Hp} {d:D} {v:V} (i:Is K H d v): ∀ {ds:List D} {vs:List V} (j:Nat),Va K H ds vs->Va K H (ds.set j d) (vs.set j v)
 | [],vs,j,h=>by
  rw [Va] at h;subst h;exact QR
 | a::ds,vs,j,h=>by
  rw [Va] at h;obtain ⟨u,r,rfl,q,t⟩:=h;cases j with
  | zero=>exact Vg i t
  | succ j=>exact Vg q (Va.setX i j t)
theorem Qr3 {j:Nat} (nd:ks.Nodup) (h:ks[j]? =some k):ks.idxOf k=j:=by
 obtain ⟨h1,h2⟩:=Q4.mp h;have hm:k∈ks:=Q9 h;have h3:=QP hm;exact (Qnq nd).mp ((Wq h3).trans h2.symm)
theorem UR (as:List Addr) (a:Addr):(as++[a]).map V.ref=as.map V.ref++[.ref a]:=by simp
theorem Jbb (hu:X.A.units+15 < cLine) (hi:τ[i]? =some (.odx (ks.map (J6 X.w)) ks ds)) (ok:KOk ks) (xk:XKey k) (hb:PD X (dat τ) b k) (h:PD X (dat τ) e d) (ld:LF d=true) (hl: ∀ (j:Nat) (d:D),τ[j]? =some (.any d)->LF d=true)
  (hx: ∀ (j:Nat) hs' ks' Ko,τ[j]? =some (.odx hs' ks' Ko)->j=i) (hz:ks.length < sizeLine)
  (hN:X.N[i]? =some x:=by rfl) (hv:Vis X.env.scope x:=by first | exact QJ rfl | exact QD (QJ rfl) | exact QD (QD rfl)) (hdb:(x == ("__debug__" :Str))=false:=by decide) (hcd:(x == ("__classdict__" :Str))=false:=by decide)
  (hs:swapsWith e (some (.Subscript (.Name x p) b p')) pos.line X.env=pure false:=by rfl) :
  QO X H₀ τ (.Assign [.Subscript (.Name x p) b p'] e pos) (.next false (τ.set i (.odx ((Wh ks k).map (J6 X.w)) (Wh ks k) (putXv ks ds k d)))):=by
 refine ⟨(Qk8 hu (Wr hN hv hdb hcd) hb.pe h.pe hs).imp λD σ H q=>⟨q.1.env,λv H1 s1 i1=> ?_⟩⟩;obtain ⟨o,e1,q1,as,vs,rfl,n,hp,nd,lk0,lf,ik,ia⟩:=(q.1.step s1).sl i _ hi;refine ⟨_,e1,q.1.env.same s1,λu H2 s2 i2=> ?_⟩;obtain ⟨y,rfl⟩:=Is.key_ref xk i2;have hp2:=s2 _ _ hp;have E2:=(q.1.step s1).step s2;refine ⟨q1,y,ks,as,vs,k,rfl,rfl,⟨hp2,nd,ok,ik.same s2,hz⟩,xk,i2,λH4 g=> ?_⟩;rcases g with ⟨j,hj,rfl⟩ | ⟨hk,rfl⟩
 ·have hmem:=Q9 hj;rw [Wh,putXv,Qj hmem,Qj hmem,Qr3 nd hj] at q;exact q.2 σ _ ((s1.trans s2).t.trans (TSame.updM hp2 (λ_ e=>nomatch e) (λ_ _ e=>nomatch e))) (E2.mutX hi e1 n hp2 hl hx lk0 (Qsk lf ld) nd (ik.same s2) ((ia.same s2).setX (i1.same s2) j))
 ·have nd2:=GX (k:=k) nd;have ok2:=(Uq (k:=k) ok xk).lf;rw [Wh,Qg hk] at nd2 ok2;rw [Wh,putXv,Qg hk,Qg hk] at q;exact q.2 σ _ ((s1.trans s2).t.trans (TSame.updM hp2 (λ_ e=>nomatch e) (λ_ _ e=>nomatch e))) (E2.mutX hi e1 n hp2 hl hx ok2 (by rw [WH,lf];simp [LFs,ld]) nd2 (by rw [UR];exact (ik.same s2).append (Vg i2 QR)) ((ia.same s2).append (Vg (i1.same s2) QR)))
noncomputable def defXv (ks ds:List D) (k d:D):List D:=if k∈ks then ds else ds++[d]
theorem Qy1 (hu:X.A.units+15 < cLine) (hi:τ[i]? =some (.odx (ks.map (J6 X.w)) ks ds)) (ok:KOk ks) (xk:XKey k) (hb:PD X (dat τ) b k) (h:PD X (dat τ) e d) (ld:LF d=true) (hl: ∀ (j:Nat) (d:D),τ[j]? =some (.any d)->LF d=true)
  (hx: ∀ (j:Nat) hs' ks' Ko,τ[j]? =some (.odx hs' ks' Ko)->j=i) (hz:ks.length < sizeLine)
  (hN:X.N[i]? =some x:=by rfl) (hv:Vis X.env.scope x:=by first | exact QJ rfl | exact QD (QJ rfl) | exact QD (QD rfl)) (hdb:(x == ("__debug__" :Str))=false:=by decide) (hcd:(x == ("__classdict__" :Str))=false:=by decide)
  (hs:starEach [b,e] X.env=[(false,eval b X.env),(false,eval e X.env)]:=by rfl) (hs2:starEach [e] X.env=[(false,eval e X.env)]:=by rfl)
  (hbase:attributeBase (.Name x p) "setdefault" X.env (eval (.Name x p) X.env)=eval (.Name x p) X.env:=by rfl)
  (hfew:((backTo cp (starEach [b,e] X.env)).all (λx=> !x.1) && (backToKw cp (keywordEach [] X.env)).all (λx=>x.1.isSome) && decide ([b,e].length+([]:List Keyword).length+(if ([]:List Keyword).isEmpty then 0 else 1) < 30))=true:=by rfl)
  (Kh:(ap.endLine == cp.line)=true:=by rfl) (hplain:(backTo cp (starEach [e] X.env)).any (·.1)=false:=by rfl)
  (hsw:swapsWith (.Call (.Attribute (.Name x p) "setdefault" ap) [b,e] [] cp) none pos.line X.env=pure false:=by rfl) :
  QO X H₀ τ (.Expr (.Call (.Attribute (.Name x p) "setdefault" ap) [b,e] [] cp) pos) (.next false (τ.set i (.odx ((Wh ks k).map (J6 X.w)) (Wh ks k) (defXv ks ds k d)))):=by
 refine ⟨(YW (Qp6 Wb Uf (Qkj hu) (Wr hN hv hdb hcd) (Vc hb (Vc h Vn hs2) (by rw [hs,hs2])).pe hbase hfew Kh (by rw [hs,hs2]) hplain) hsw).imp λD σ H q=> ?_⟩;obtain ⟨o,e1,q1,as,vs,rfl,n,hp,nd,lk0,lf,ik,ia⟩:=q.1.sl i _ hi;refine ⟨_,e1,⟨q1,_,as,vs,rfl,.inl hp⟩,q.1.env,λws H2 s2 iw=> ?_⟩;obtain ⟨w1,w2,rfl,i2,i1⟩:=iw.two;obtain ⟨y,rfl⟩:=Is.key_ref xk i2;have hp2:=s2 _ _ hp;have E2:=q.1.step s2;refine ⟨q1,y,ks,as,vs,k,w2,rfl,rfl,⟨hp2,nd,ok,ik.same s2,hz⟩,xk,i2,λj z hj hz'=> ?_,λhk=> ?_⟩
 ·have hmem:=Q9 hj;rw [Wh,defXv,Qj hmem,Qj hmem] at q;rw [show τ.set i (.odx (ks.map (J6 X.w)) ks ds)=τ from ?_] at q
  ·exact q.2 σ _ s2.t E2
  ·apply JO;intro m
   by_cases hm:i=m
   ·subst hm;rw [Qm (Q4.mp hi).1,hi]
   ·rw [Qh hm]
 ·have nd2:=GX (k:=k) nd;have ok2:=(Uq (k:=k) ok xk).lf;rw [Wh,Qg hk] at nd2 ok2;rw [Wh,defXv,Qg hk,Qg hk] at q;exact q.2 σ _ (s2.t.trans (TSame.updM hp2 (λ_ e=>nomatch e) (λ_ _ e=>nomatch e))) (E2.mutX hi e1 n hp2 hl hx ok2 (by rw [WH,lf];simp [LFs,ld]) nd2 (by rw [UR];exact (ik.same s2).append (Vg i2 QR)) ((ia.same s2).append (Vg i1 QR)))
end
end L2
namespace XV
open PySem PySem.W
def Raw (h:Heap) (d:Addr) (us:List Value) (ep:Nat):Prop:= ∃ o es,h.get? d=some o/\o.ExactDict/\o.data= .dict es ep/\es.toList.map (·.val)=us
theorem Raw.at' {h h':Heap} {d:Addr} {us:List Value} {ep:Nat} (x:Raw h d us ep) (k: ∀ o,h.get? d=some o->h'.get? d=some o):Raw h' d us ep:=let ⟨o,es,ho,r⟩:=x;⟨o,es,k o ho,r⟩
theorem Raw.lt {h:Heap} {d:Addr} {us:List Value} {ep:Nat} (x:Raw h d us ep):d < h.objs.size:=let ⟨_,_,ho,_⟩:=x;Qi ho
section
variable {prog:Program} {w:World} {A:Around} {E:Kf} {s:Shared}
theorem Qe8 (d:Addr) (hd:(d == sysModules)=false) :
  MeetsIn prog w (Builtin.«dict.values» ⟨[.ref d],[]⟩) (λ_ R s=>s.TypeIs (.ref d) "dict" /\
   R (.ok (.ret (.ref s.heap.objs.size))) { s with heap:=s.heap.push { cls:= .type "dict_values",data:= .fields #[.ref d] } }) :=
 .of_wp λA R s ⟨hm,h⟩=>by
  refine Q0 ?_;unfold Builtin.Dict.noArgs;refine Q0 (wpAny_notOrdered_dict hm ?_);show wpAny _ _ (pure d) _ _ s;refine Q3 ?_;show wpAny _ _ (Builtin.Dict.showsAll d >>= _) _ _ s;unfold Builtin.Dict.showsAll;rw [Qg (by rw [hd];exact Qn)];refine Q0 (Q3 ?_);exact Q0 (Ja (Q3 ⟨_,rfl,h⟩))
theorem Qg0 {v d:Addr} {us:List Value} {ep:Nat} {Q:Kf} (hv:s.heap.IsValuesView v d) (hm:Raw s.heap d us ep)
  (hQ:Q (.ref s.heap.objs.size) { s with heap:=s.heap.push { cls:= .type "dict_valueiterator",data:= .fields #[.ref d,.int 0 0,.int us.length 0,.int ep 0] } }) :
  wpAny (model prog w) A (pyIter (.ref v)) Q E s:=by
 obtain ⟨ov,hov,hcv,hdv⟩:=id hv;obtain ⟨o,es,ho,hc,hdat,hp⟩:=id hm;refine Qwc hv.typeIs F.slot_dict_values_iter (J0 F.slot_dict_values_iter hv.typeIs F.entry_dict_values_iter ?_ (F.args_dict_values_iter_1 _));unfold Builtin.«dict_values.__iter__»;refine Q0 (Q3 ?_);refine Q0 ?_;unfold Builtin.Dict_items.dictOf;refine Q0 (Jj hov hdv (x:= .ref d) rfl (Q3 ?_));refine Q0 ?_;unfold Builtin.Dict_items.newIterator;refine Q0 (Qb9 ho hdat ?_);refine Q0 (wpAny_dictEpoch ho hdat ?_);have hsz:es.size=us.length:=by rw [<- hp];simp
 have hown:Builtin.Dict_items.ownsTuple "dict_valueiterator" =false:=by decide
 simp only [hown,QG,JI];refine Ja (Q3 ⟨_,rfl, "dict_valueiterator",_,⟨_,Qd _ rfl,rfl⟩,W6.lookup,?_⟩);simpa [rawInt,hsz] using hQ
theorem BC {it d:Addr} {i ep:Nat} {us:List Value} {v:Value} {Q:Option Value->Shared->Prop} (hit:s.heap.IsValIter it d i us.length ep)
  (hm:Raw s.heap d us ep) (hx:us[i]? =some v)
  (hQ: ∀ h',h'.IsValIter it d (i+1) us.length ep->Heap.SameBut it s.heap h'->Q (some v) { s with heap:=h' }) :
  wpAny (model prog w) A (pyNext (.ref it)) Q E s:=by
 obtain ⟨o,ho,hc,hd⟩:=id hit;obtain ⟨od,es,hod,hcd,hdd,hp⟩:=id hm;unfold pyNext;refine Q0 (Zu (J3 (name:=Str.ofString "__next__") hit.typeIs W6
  (J0 W6 hit.typeIs F.entry_dict_valueiterator_next ?_ (Qwj _))))
 refine Q0 (Q3 ?_);refine Q0 ?_;refine Q0 ?_
 first | refine Q0 (Ze hit.typeIs (Q3 ?_)) | refine Q0 (Yp hit.typeIs (Q3 ?_))
 refine Q0 (wpAny_fieldsOf ho hd ?_);have hown:Builtin.Dict_items.ownsTuple "dict_valueiterator" =false:=by decide
 simp only [hown,QG,JI];show wpAny _ _ (if (Value.ref d == Value.none)=true then _ else _) _ _ s;rw [Qg (show ¬ ((Value.ref d == Value.none)=true) from Qn)];refine Q0 (Q3 ?_);refine Q0 (Qb9 hod hdd ?_);have hsz:es.size=us.length:=by rw [<- hp];simp
 rw [Qg (by rw [hsz];simp)];refine Q0 (Q3 ?_);refine Q0 (wpAny_dictEpoch hod hdd ?_);rw [Qg (by simp)];refine Q3 ?_;have Ks:i < us.length:=(Q4.mp hx).1;have hlt':i < es.size:=by rw [hsz];exact Ks
 have hval:es[i].val=v:=by
  rw [<- hp,Qe,Qw,ZB hlt'] at hx;exact J4 hx
 simp only [show ¬ ((i:Int) < 0) from by omega,JI,Jy,ZB hlt'];refine Q0 ?_
 first | refine Q0 (Ze hit.typeIs (Q3 ?_)) | refine Q0 (Yp hit.typeIs (Q3 ?_))
 refine Q0 (Qhc hit.typeIs ?_);show wpAny _ _ (setField (.ref it) 1 (rawInt ((i:Int)+1)) >>= _) _ _ s;refine Q0 (O6 ho hd (by simp) ?_);have hit':(s.heap.update it (Obj.mapFields (·.setIfInBounds 1 (rawInt ((i:Int)+1))))).IsValIter it d (i+1) us.length ep :=
  ⟨_,QW _ ho (Qhe (Zf hd _)),(Qwd ..).trans hc,by rw [Zf hd];simp [rawInt]⟩
 refine Q0 (JH ?_);refine Q0 (Qhc (s:={ s with heap:=s.heap.update it (Obj.mapFields (·.setIfInBounds 1 (rawInt ((i:Int)+1)))) }) hit'.typeIs ?_);refine Q0 (Qhc (s:={ s with heap:=s.heap.update it (Obj.mapFields (·.setIfInBounds 1 (rawInt ((i:Int)+1)))) }) hit'.typeIs ?_);show wpAny _ _ (pure es[i].val) _ _ _;exact Q3 (Q3 ⟨_,rfl,Q3 (hval ▸ hQ _ hit' (QN ..))⟩)
theorem Qq2 {it d:Addr} {i ep:Nat} {us:List Value} {Q:Option Value->Shared->Prop} (hh:A.handled=none) (hit:s.heap.IsValIter it d i us.length ep)
  (hm:Raw s.heap d us ep) (hx:us[i]? =none)
  (hQ: ∀ h',Heap.ExtBut it s.heap h'->Q none { s with heap:=h' }):wpAny (model prog w) A (pyNext (.ref it)) Q E s:=by
 obtain ⟨o,ho,hc,hd⟩:=id hit;obtain ⟨od,es,hod,hcd,hdd,hp⟩:=id hm;unfold pyNext;refine Q0 (Zu (J3 (name:=Str.ofString "__next__") hit.typeIs W6
  (J0 W6 hit.typeIs F.entry_dict_valueiterator_next ?_ (Qwj _))))
 refine Q0 (Q3 ?_);refine Q0 ?_;refine Q0 ?_
 first | refine Q0 (Ze hit.typeIs (Q3 ?_)) | refine Q0 (Yp hit.typeIs (Q3 ?_))
 refine Q0 (wpAny_fieldsOf ho hd ?_);have hown:Builtin.Dict_items.ownsTuple "dict_valueiterator" =false:=by decide
 simp only [hown,QG,JI];show wpAny _ _ (if (Value.ref d == Value.none)=true then _ else _) _ _ s;rw [Qg (show ¬ ((Value.ref d == Value.none)=true) from Qn)];refine Q0 (Q3 ?_);refine Q0 (Qb9 hod hdd ?_);have hsz:es.size=us.length:=by rw [<- hp];simp
 rw [Qg (by rw [hsz];simp)];refine Q0 (Q3 ?_);refine Q0 (wpAny_dictEpoch hod hdd ?_);rw [Qg (by simp)];refine Q3 ?_;have hge:es.size<=i:=by rw [hsz];simpa using hx
 simp only [show ¬ ((i:Int) < 0) from by omega,JI,Jy,Array.getElem?_eq_none hge];refine Q0 ?_
 first | refine Q0 (Ze hit.typeIs (Q3 ?_)) | refine Q0 (Yp hit.typeIs (Q3 ?_))
 show wpAny _ _ (setField (.ref it) 0 .none >>= _) _ _ s;refine Q0 (O6 ho hd (by simp) ?_);show wpAny _ _ (newExc (.type "StopIteration") [] >>= _) _ _ _;refine Q0 ?_;simp only [newExc,newTuple];refine Q0 (Ja ?_ (by size_fits));refine Q0 (m:=firstArgMember _ _) (Qlf (a:=Value.none) (by first | rfl | (simp only [firstArgMember];rfl)) ?_);refine Ja ?_ (by size_fits);simp only [raiseNew];refine Q0 (wpAny_handled ?_);rw [show A.in1.handled=none from hh];refine Q0 (Q3 (wpAny_throw ?_));refine Q0 (Z3 (T:= "StopIteration") (b:=true) ⟨_,Qd _ rfl,rfl⟩ Qlh ?_);exact Q3 (hQ _ (((QN ..).extBut.push _).push _))
theorem Qd9 (hh:A.handled=none) (I d:Addr) (Kn:d≠I) (us:List Value) (ep:Nat) :
  Walks prog w A I [I,d] [I] us.length (λi v=>us[i]? =some v) (λi h=>h.IsValIter I d i us.length ep/\Raw h d us ep) where
 sub:=λb hb=>by simp at hb;simp [hb]
 frame:=λ_ _ _ st hk=>⟨st.1.at λo e=>hk I (by simp) o e,st.2.at' λo e=>hk d (by simp) o e⟩
 item:=λi s Q E hi st hQ=>by
  have hx:us[i]? =some us[i]:=by simp [hi]
  refine BC st.1 st.2 hx λh' hit' hs'=> ?_
  exact hQ us[i] h' s.toks hx ⟨hit',st.2.at' λo e=>hs'.extBut d o Kn e⟩ λb o hb e=>hs'.extBut b o (λh=>hb (by simp [h])) e
 done:=λs Q E st hQ=>Qq2 hh st.1 st.2 (by simp) λh' he'=>hQ h' s.toks λb o hb e=>he' b o (λh=>hb (by simp [h])) e
 self:=λ_ _ _ _ st hQ=>wpAny_pyIter_valiter st.1 hQ
theorem Qht {r d:Addr} {us:List Value} {ep:Nat}:KdlSrc prog w "dict_values" r d us.length (λi v=>us[i]? =some v) (λh=>h.IsValuesView r d/\Raw h d us ep) where
 type:=λ_ hm=>hm.1.typeIs
 there:=λ_ hm=>⟨let ⟨_,ho,_⟩:=hm.1;Qi ho,hm.2.lt⟩
 keep:=λ_ _ hm hk=>⟨let ⟨o,ho,x⟩:=hm.1;⟨o,hk r (.inl rfl) o ho,x⟩,hm.2.at' λo e=>hk d (.inr rfl) o e⟩
 notList:=by decide
 notTuple:=by decide
 hint:=λ_ _ _ _ hm hq=>kdl_hint_values hm.1.typeIs hq
 iter:=λ_ _ hh hm=>⟨_,_,(λ_ _ hq=>Qg0 hm.1 hm.2 hq),Qd9 hh _ d (Qp hm.2.lt) us ep,⟨⟨_,Qd _ rfl,rfl,rfl⟩,hm.2.at' λo e=>Q1 _ e⟩⟩
end
end XV
namespace L2
open PySem PySem.Spec PyProof.Rows PySem.W
theorem Qgc: ∀ {hs:List Int} {as:List Addr} {us:List Value},hs.length=as.length->as.length=us.length ->
  (List.zipWith (λ(q:Int×Addr) (u:Value)=>(⟨q.1,Value.ref q.2,u⟩:DictEntry)) (hs.zip as) us).map (·.val)=us
 | [],[],[],_,_=>rfl
 | h::hs,a::as,u::us,h1,h2=>by
  simp only [JG,List.zipWith_cons_cons,Qk];rw [Qgc (by simpa using h1) (by simpa using h2)]
 | [],_::_,_,h,_=>by simp at h
 | _::_,[],_,h,_=>by simp at h
 | [],[],_::_,_,h=>by simp at h
 | _::_,_::_,[],_,h=>by simp at h
section
variable {X:Cx} {Kz:Ke} {σ:St} {H:Hp} {s:Shared} {p:Addr} {hs:List Int} {as:List Addr} {vs:List V}
theorem Qrg (I:Inv X Kz σ H s) (rd:Rd H p (DxO p hs as vs)):(p == sysModules)=false/\vs.length<=sizeLine/\s.TypeIs (.ref p) "dict" /\ ∃ us ep,Vals vs us/\XV.Raw s.heap p us ep:=by
 obtain ⟨⟨h1,h2,h3,h4,o,es,ep,us,ho,hex,hd,rv,he⟩,_⟩:=(show ObjOk X.prog X.w H s.heap p (DxO p hs as vs) from rd.ok I.hok);exact ⟨h1,h2,⟨o,ho,hex.1⟩,us,ep,rv,o,es,ho,hex,hd,by rw [he];exact Qgc h3 (by rw [h4,rv.length])⟩
end
section
variable {X:Cx} {ρ:List (Option D)} {a b e o:Expr} {d:D} {ds ks:List D} {pos ap cp p:Pos}
def ValO (p d:Addr):HO:= .ext λh=>h.get? p=some { cls:= .type "dict_values",data:= .fields #[.ref d] }
theorem Qmj:MtR X "dict.values" (λx xs H Q=> ∃ a hs as vs,x= .ref a/\xs=[]/\Rd H a (DxO a hs as vs)/\ ∀ p,H p=none->Q (.ref p) (upd H p (ValO p a))):=by
 intro Kz s σ H x xs v us Q I rx rs h;obtain ⟨a,hs,as,vs,rfl,rfl,hd,q⟩:=h;cases (show v=Value.ref a from rx);cases rs;obtain ⟨hm,hz,ht,_⟩:=Qrg I hd;have here:(s.heap.push { cls:= .type "dict_values",data:= .fields #[.ref a] }).get? s.heap.objs.size=some { cls:= .type "dict_values",data:= .fields #[.ref a] }:=Qd _ rfl;refine Bo PySem.F.slot_dict_values ht PySem.F.entry_dict_values (PySem.F.args_dict_values_1 _) (XV.Qe8 a hm) ⟨ht,?_⟩;exact ⟨.ref s.heap.objs.size,_,I.laid (t':=s.toks) (o:=ValO s.heap.objs.size a) (λb o e=>Q1 _ e) (Q5 _) ⟨here,⟨_,here⟩,λh1 h2 e k=>k _ e⟩,rfl,q _ I.fresh⟩
theorem Qbh: ∀ {vs:List V} {us:List Value} {acc:List Value},Vals vs us->acc.length=us.length->(∀ (i:Nat) v,acc[i]? =some v->us[i]? =some v)->Vals vs acc:=λ{vs us acc} r hl h=>by
 have:acc=us:=by
  apply JO;intro i;cases e:acc[i]? with
  | some v=>exact (h i v e).symm
  | none =>
   rw [Gx] at e;exact (Gx.mpr (by omega)).symm
 rw [this];exact r
theorem Qeo (hc:X.calm=true):CallR X (.type "list") (λvs H Q=> ∃ p a hs as ws,vs=[.ref p]/\H p=some (ValO p a)/\Rd H a (DxO a hs as ws)/\ ∀ l,H l=none->Q (.ref l) (upd H l (.lst ws))):=by
 intro Kz s σ H xs us Q I r h;obtain ⟨p,a,hs,as,ws,rfl,hp,hd,q⟩:=h;obtain ⟨u,rfl,ru⟩:=vals1 r;cases (show u=Value.ref p from ru);have ho:s.heap.get? p=some { cls:= .type "dict_values",data:= .fields #[.ref a] }:=(I.hok p _ hp).1;obtain ⟨hm,hz,ht,us',ep,rv,raw⟩:=Qrg I hd;refine kdl_call (XV.Qht (r:=p) (d:=a) (us:=us') (ep:=ep)) (I.ok.hd hc) ⟨⟨_,ho,rfl,rfl⟩,raw⟩ (by rw [<- rv.length];exact hz) λh' tk acc c' kp hS it=> ?_
 obtain ⟨asz,ait⟩:=it;have rv0:Vals ws acc.toList:=Qbh rv (by simpa using asz) λi v e=>ait i v (by simpa using e)
 exact ⟨.ref s.heap.objs.size,_,I.laid (t':=tk) kp (Q5 _) (show ObjOk X.prog X.w _ h' _ (.lst ws) from ⟨hz,acc.toList,c',rv0,by simpa using hS⟩),rfl,q _ (I.hok.fresh (Q5 _))⟩
theorem Qj4 {fz:Bool} {hs:List Int} (hc:X.calm=true) (hm:X.mg "list" =none) (ha:PD X ρ a (.oth (.dcx fz hs) ks ds)) (hbase:attributeBase a "values" X.env (eval a X.env)=eval a X.env:=by rfl) (Kh:(ap.endLine == cp.line)=true:=by rfl)
  (hg:Gl X "list" :=by rfl) (h2:starEach [.Call (.Attribute a "values" ap) [] [] cp] X.env=[(false,eval (.Call (.Attribute a "values" ap) [] [] cp) X.env)]:=by rfl) :
  PDL X ρ (.Call (.Name "list" p) [.Call (.Attribute a "values" ap) [] [] cp] [] pos) ds :=
 ⟨(YE (Qeo hc) hg hm Gp (Ws (Qxi PySem.F.slot_dict_values PySem.F.type_dict_values Qmj ha.pe hbase Kh) Z8 h2) (by decide) (by decide) h2 rfl).imp λσ H Q q=>⟨q.1,λv H1 s1 i1=>by
  obtain ⟨p,as,vs,rfl,dx,_,_,ia⟩:=Qed i1;refine ⟨⟨p,_,as,vs,rfl,dx.rd⟩,p,_,as,vs,rfl,rfl,dx.rd,λb hb=>⟨b,p,hs,as,vs,rfl,Vu,?_,λl hl=> ?_⟩⟩
  ·rcases dx.rd with h | ⟨o,h⟩
   ·exact .inl (Same.upd hb _ _ h)
   ·exact .inr ⟨o,Same.upd hb _ _ h⟩
  ·have s2:=s1.trans ((Same.upd (o:=ValO b p) hb).trans (Same.upd (o:= .lst vs) hl));exact q.2 l vs _ ((s1.trans (Same.upd hb)).free hl) s2 Vu (ia.same ((Same.upd hb).trans (Same.upd hl)))⟩⟩
end
end L2
namespace L2
open PySem PySem.Spec PyProof.Rows
theorem ObjOk.there {P:Program} {w:World} {H:Hp} {h:Heap} {a:Addr} {u:HO} (x:ObjOk P w H h a u) (mu:Mut (some u)): ∃ o,h.get? a=some o:=by
 cases u with
 | lst xs=>obtain ⟨_,_,_,_,e⟩:=x;exact ⟨_,e⟩
 | dK Ku=>obtain ⟨_,_,_,_,o,_,_,e,_⟩:=x;exact ⟨_,e⟩
 | dT Ku=>obtain ⟨_,_,_,_,o,_,_,e,_⟩:=x;exact ⟨_,e⟩
 | set S n=>obtain ⟨o,_,_,_,e,_⟩:=x;exact ⟨_,e⟩
 | ins C dx fs=>obtain ⟨_,_,_,e,_⟩:=x;exact ⟨_,e⟩
 | ext φ=>obtain ⟨_,⟨_,e⟩,_⟩:=x;exact ⟨_,e⟩
 | _=>exact mu.elim
section
variable {X:Cx} {Kz:Ke} {σ:St} {H:Hp} {s:Shared} {p:Addr}
theorem Inv.freezeM {u:HO} (I:Inv X Kz σ H s) (hp:H p=some u) (mu:Mut (some u)): ∃ ob,Inv X Kz σ (upd H p (.frz ob u)) s:=by
 have ok:=I.hok p u hp;obtain ⟨ob,ho⟩:=ok.there mu;refine ⟨ob,I.write (x:=p) (e:=p) (h':=s.heap) (t':=s.toks) (by rw [hp];exact mu) (.inl rfl) (λb v _ q=>q) ⟨_,ho⟩ ⟨ho,ok.stay (λb v _ q=>q) (λb q=> ?_) (λb xs q=> ?_)⟩⟩
 ·rw [Qo]
  ·exact q
  ·rintro rfl;rw [hp] at q;cases q;exact mu
 ·rw [Qo]
  ·exact q
  ·rintro rfl;rw [hp] at q;cases q;exact mu
theorem TSame.frz {H:Hp} {p:Addr} {u v:HO} (hp:H p=some u) (mu:Mut (some u)):TSame H (upd H p v):=TSame.updM hp (λxs e=>by subst e;exact mu) (λo v e=>by subst e;exact mu)
theorem Qr1 {P:Program} {w:World} {h:Heap} {a C dx:Addr} {fs:List (Str×V)} (hok:HOk P w H h) (e:Rd H a (.ins C dx fs)): ∃ mA,ObjM h a dx C mA/\(∀ f,RelO (fs.lookup f) (mA f)):=by
 obtain ⟨d,z,ne,ob,mA,n,r,q⟩:=(show ObjOk P w H h a (.ins C dx fs) from e.ok hok);exact ⟨mA,⟨ob,n,ne⟩,r⟩
variable {a C dx:Addr} {fs:List (Str×V)} {f:Str} {v:V} {A:Around} {E:Kf}
theorem Qiw {b:Bool} {Q:Kf} (I:Inv X Kz σ H s) (e:Rd H a (.ins C dx fs)) (c:Cls X.K C) (n:NoAttr X.K C f) (l:fs.lookup f=some v)
  (h: ∀ u s',Inv X Kz σ H s'->RelV v u->Q u s'):wpAny (model X.prog X.w) A (getAttr (.ref a) f b) Q E s:=by
 obtain ⟨mA,O,r⟩:=Qr1 I.hok e;obtain ⟨u,hu,ru⟩:=RelO.some_of (v:=v) (o:=mA f) (by rw [<- l];exact r f);exact Qkw I.kIn O (c.get f) c.hd n hu (Qcm ru) (h u _ (I.tok _) ru)
theorem Qiv {m:Str} {g:Addr} {pl:Sem Bool} {Q:Value×List Value->Shared->Prop} (I:Inv X Kz σ H s) (e:Rd H a (.ins C dx fs)) (c:Cls X.K C) (k:Meth X.K C m g) (l:fs.lookup m=none)
  (h:Q (.ref g,[.ref a]) s):wpAny (model X.prog X.w) A (getMethod (.ref a) m pl) Q E s:=by
 obtain ⟨mA,O,r⟩:=Qr1 I.hok e;have hn:mA m=none:=RelO.none_of (by rw [<- l];exact r m);exact Qg5 I.kIn O (c.get m) k.at_ k.fn hn h
end
def Qzd (K:W.Frag) (ta:TE) (f:Str):TE:=λσ H Q=>ta σ H λx H1=> ∃ a C dx fs v,x= .ref a/\Rd H1 a (.ins C dx fs)/\Cls K C/\NoAttr K C f/\fs.lookup f=some v/\Q v H1
def Qwt (C:Addr) (m:Str) (sp:Sp) (dvs:List V) (E:XK) (ta:TE) (t:TA):TE:=λσ H Q=>ta σ H λx H1=> ∃ a dx fs,x= .ref a/\Rd H1 a (.ins C dx fs)/\fs.lookup m=none /\
 t σ H1 λvs H2=>sp (x::(vs++dvs)) H2 Q E
section
variable {X:Cx} {o e:Expr} {es:List Expr} {f m:Str} {pos apos:Pos} {ta:TE} {t:TA} {CX:CXT} {k:Nat} {g C:Addr} {fd:FuncData} {ps:List Str} {sp:Sp} {dvs:List V} {ds:List Value} {E:XK}
theorem Qtu (he:PE X e ta) (hb:attributeBase e f X.env (eval e X.env)=eval e X.env):PE X (.Attribute e f pos) (Qzd X.K ta f):=by
 intro Kz s σ H Q I h;refine Qla hb (thn (he Kz s σ H _ I h) λu s1 ⟨x,H1,I1,rx,a,C,dx,fs,v,ex,ea,c,n,l,q⟩=> ?_);subst ex;obtain rfl:u=Value.ref a:=rx;exact Qiw I1 ea c n l λu' s2 I2 ru=>⟨v,H1,I2,ru,q⟩
theorem Qp7 {pl:Sem Bool} (he:PE X o ta) (c:Cls X.K C) (hm:Meth X.K C m g) (F:FnOk X.prog X.w X.K X.mg X.base CX k g fd ps sp) (hr:Room k X.A) (hb:Binds X.K fd ps ds) (hd:Vals dvs ds) (hx:Passes CX X E) (ha:PA X (e::es) t)
  (hst:starEach (e::es) X.env=(false,eval e X.env)::starEach es X.env:=by rfl) (hpl:(backTo pos (starEach es X.env)).any (·.1)=false:=by rfl)
  (ht:eval (.Call (.Attribute o m apos) (e::es) [] pos) X.env=(do
   let ov<-eval o X.env
   standAt apos.atName
   let (f,first)<-holding [ov] (getMethod ov m pl)
   callWith pos f first (backTo pos (starEach (e::es) X.env)) (backToKw pos (keywordEach [] X.env))):=by rfl) :
  PE X (.Call (.Attribute o m apos) (e::es) [] pos) (Qwt C m sp dvs E ta t):=by
 intro Kz s σ H Q I h;refine W.methodCall_KW (pl:=pl) (thn (he Kz s σ H _ I h) λu s1 ⟨x,H1,I1,rx,a,dx,fs,ex,ea,l,q⟩=> ?_) ht;subst ex;obtain rfl:u=Value.ref a:=rx;refine Qiv I1 ea c hm l ?_;refine W.callWith_K (first:=[.ref a]) (h₀:=X.base) I.ok.mod.kin hm.kp (thn (ha pos Kz s1 σ H1 _ I1 q) λus s2 ⟨vs,H2,I2,r,q2⟩=>⟨I2.kIn,?_⟩) hst hpl;exact Qi5 (us:= .ref a::us) (vs:= .ref a::vs) F hr hb hd hx I2 (.cons rfl r) q2
end
theorem Qac: ∀ {ss:List Str} {vs:List V} {i:Nat} {f:Str} {v:V},ss.Nodup->ss[i]? =some f->vs[i]? =some v->(ss.zip vs).lookup f=some v
 | [],_,i,f,v,_,h,_=>by simp at h
 | _::_,[],i,f,v,_,_,h=>by simp at h
 | s::ss,u::vs,0,f,v,nd,h1,h2=>by
  have e1:s=f:=by simpa using h1
  have e2:u=v:=by simpa using h2
  subst e1 e2;simp [List.lookup]
 | s::ss,u::vs,i+1,f,v,nd,h1,h2=>by
  have nd':=J5.mp nd;have h1':ss[i]? =some f:=by simpa using h1
  have Kn:f≠s:=λz=>nd'.1 (z ▸ Q9 h1')
  rw [JG,YN,Jm.mpr Kn];exact Qac nd'.2 h1' (by simpa using h2)
theorem U8: ∀ {ss:List Str} {vs:List V} {f:Str},f ∉ ss->(ss.zip vs).lookup f=none
 | [],_,f,_=>rfl
 | _::_,[],f,_=>rfl
 | s::ss,u::vs,f,h=>by
  have Kn:f≠s:=λz=>h (z ▸ Q8)
  rw [JG,YN,Jm.mpr Kn];exact U8 λz=>h (Q7 _ z)
section
variable {X:Cx} {ρ:List (Option D)} {e o:Expr} {es:List Expr} {d:D} {ds rs:List D} {ss:List Str} {f m:Str} {C:Addr} {pos ap cp:Pos}
theorem Jao {i:Nat} (ha:PD X ρ e (.oth (.obj C) (ss.map .str) ds)) (c:Cls X.K C) (n:NoAttr X.K C f) (nd:ss.Nodup) (hi:ss[i]? =some f) (hd:ds[i]? =some d) (hb:attributeBase e f X.env (eval e X.env)=eval e X.env:=by rfl) :
  PD X ρ (.Attribute e f pos) d :=
 ZA (Qtu ha.pe hb) λσ H Q he q=>⟨he,λv H1 s1 i1=>by
  obtain ⟨p,dx,vs,ob,rfl,hl,hp,ia⟩:=Qqz i1;obtain ⟨w,e1,e2⟩:=ia.get hd;exact ⟨p,C,dx,_,w,rfl,.inr ⟨ob,hp⟩,c,n,Qac nd hi e1,q w H1 s1 e2⟩⟩
def Mt (P:Program) (w:World) (K:W.Frag) (mg:Str->Option Value) (base:Heap) (C:Addr) (m:Str) (k:Nat) (ps:List Str) (sp:Sp):Prop :=
 ∃ f fd,Meth K C m f/\Binds K fd ps []/\FnOk P w K mg base CX0 k f fd ps sp
theorem Qyt {k n:Nat} {ps:List Str} {R:List D->D->Prop} {pl:Sem Bool} {ds0:List D} (ho:PD X ρ o (.oth (.obj C) (ss.map .str) ds0)) (c:Cls X.K C) (F:Mt X.prog X.w X.K X.mg X.base C m k ps (spD X.K n R)) (hr:Room k X.A) (ha:PDs X ρ (e::es) ds) (hR:R (.oth (.obj C) (ss.map .str) ds0::ds) d) (hn:ds.length+1=n) (hm:m ∉ ss)
  (hst:starEach (e::es) X.env=(false,eval e X.env)::starEach es X.env:=by rfl) (hpl:(backTo cp (starEach es X.env)).any (·.1)=false:=by rfl)
  (ht:eval (.Call (.Attribute o m ap) (e::es) [] cp) X.env=(do
   let ov<-eval o X.env
   standAt ap.atName
   let (f,first)<-holding [ov] (getMethod ov m pl)
   callWith cp f first (backTo cp (starEach (e::es) X.env)) (backToKw cp (keywordEach [] X.env))):=by rfl) :
  PD X ρ (.Call (.Attribute o m ap) (e::es) [] cp) d:=by
 obtain ⟨f,fd,hmf,hb,F⟩:=F;exact ZA (Qp7 ho.pe c hmf F hr hb .nil pass0 ha.pe hst hpl ht) λσ H Q he q=>⟨he,λv H1 s1 i1=>by
  obtain ⟨p,dx,vs,ob,rfl,hl,hp,ia⟩:=Qqz i1;refine ⟨p,dx,_,rfl,.inr ⟨ob,hp⟩,U8 hm,he.same s1,λus H2 s2 iu=> ?_⟩;show spD X.K n R (.ref p::(us++[])) H2 Q _;rw [JS];exact ⟨by rw [Qq,<- iu.length];exact hn,_,d,Vg (i1.same s2) iu,hR,λu H3 s3 i3=>q u H3 ((s1.trans s2).trans s3) i3⟩⟩
theorem Qv4 {K:W.Frag} {H:Hp} {ds:List D} {v:V} (h:Is K H (.oth .fls [] ds) v):Is K H (.lst ds) v:=by
 obtain ⟨p,vs,ob,rfl,hp,ia⟩:=Qr0 h;exact Qab (.inl (.inr ⟨ob,hp⟩)) ia
theorem Qyz (h:PD X ρ e (.oth .fls [] ds)):PD X ρ e (.lst ds):=ZA h.pe λσ H Q he q=>⟨he,λv H1 s1 i1=>q v H1 s1 (Qv4 i1)⟩
theorem Qyy (h:PDL X ρ e ds) (hl:LFs ds=true):PD X ρ e (.oth .fls [] ds):=⟨(UT h hl).imp λσ H Q q=>⟨q.1,λp vs ob H' n s hp i=>q.2 _ H' s (Qih hp i)⟩⟩
end
structure Sh (w:World) (K:W.Frag) (C:Addr) (H:Hp) (p t r:Addr) (th:List D) (as:List Addr) (ks:List D) (bs ls:List Addr) (rs:List (List D)):Prop where
 ins: ∃ dx,H p=some (.ins C dx [("there",.ref t),("rows",.ref r)])
 thA:H t=some (DxO t (th.map (J6 w)) as (as.map λ_=> .bl true))
 thN:th.Nodup
 thO:KOk th
 thI:Va K H th (as.map .ref)
 ro:H r=some (DxO r (ks.map (J6 w)) bs (ls.map .ref))
 roN:ks.Nodup
 roO:KOk ks
 roI:Va K H ks (bs.map .ref)
 tr:t≠r
 nd:ls.Nodup
 len:ls.length=rs.length
 rows: ∀ (i:Nat) l ds,ls[i]? =some l->rs[i]? =some ds-> ∃ us,H l=some (.lst us)/\LFs ds=true/\Va K H ds us
abbrev Qhx:List Str:=["there", "rows"]
def shelfD (w:World) (C:Addr) (th ks:List D) (rs:List (List D)):D :=
 .oth (.obj C) (Qhx.map .str) [dcx w true th (th.map λ_=> .bl true),dcx w true ks (rs.map λr=> .oth .fls [] r)]
section
variable {w:World} {K:W.Frag} {C:Addr} {H H':Hp} {p t r:Addr} {th:List D} {as:List Addr} {ks:List D} {bs ls:List Addr} {rs:List (List D)}
theorem Sh.row (S:Sh w K C H p t r th as ks bs ls rs) {l:Addr} (h:l∈ls): ∃ us,H l=some (.lst us):=by
 obtain ⟨i,hi⟩:=J1.mp h;have Ks:=(Q4.mp hi).1;obtain ⟨us,e,_⟩:=S.rows i l _ hi (Qc (by rw [<- S.len];exact Ks));exact ⟨us,e⟩
theorem Sh.pt (S:Sh w K C H p t r th as ks bs ls rs):p≠t:=let ⟨_,e⟩:=S.ins;Yl e S.thA (λz=>nomatch z)
theorem Sh.pr (S:Sh w K C H p t r th as ks bs ls rs):p≠r:=let ⟨_,e⟩:=S.ins;Yl e S.ro (λz=>nomatch z)
theorem Sh.pl (S:Sh w K C H p t r th as ks bs ls rs):p ∉ ls:=λh=>let ⟨_,e⟩:=S.ins;let ⟨_,f⟩:=S.row h;Yl e f (λz=>nomatch z) rfl
theorem Sh.tl (S:Sh w K C H p t r th as ks bs ls rs):t ∉ ls:=λh=>let ⟨_,f⟩:=S.row h;Yl S.thA f (λz=>nomatch z) rfl
theorem Sh.rl (S:Sh w K C H p t r th as ks bs ls rs):r ∉ ls:=λh=>let ⟨_,f⟩:=S.row h;Yl S.ro f (λz=>nomatch z) rfl
theorem Sh.same (S:Sh w K C H p t r th as ks bs ls rs) (s:Same H H'):Sh w K C H' p t r th as ks bs ls rs:=by
 obtain ⟨dx,e⟩:=S.ins;exact ⟨⟨dx,s _ _ e⟩,s _ _ S.thA,S.thN,S.thO,S.thI.same s,s _ _ S.ro,S.roN,S.roO,S.roI.same s,S.tr,S.nd,S.len,λi l ds h1 h2=>let ⟨us,f,g,k⟩:=S.rows i l ds h1 h2;⟨us,s _ _ f,g,k.same s⟩⟩
end
section
variable {X:Cx} {Kz:Ke} {σ:St} {s:Shared} {C:Addr} {p t r:Addr} {th:List D} {as:List Addr} {ks:List D} {bs:List Addr}
theorem Qai: ∀ {H:Hp} {ls:List Addr} {rs:List (List D)},Inv X Kz σ H s->ls.Nodup->ls.length=rs.length->(∀ (i:Nat) l ds,ls[i]? =some l->rs[i]? =some ds-> ∃ us,H l=some (.lst us)/\LFs ds=true/\Va X.K H ds us) ->
  ∃ H',Inv X Kz σ H' s/\TSame H H'/\(∀ b,b ∉ ls->H' b=H b)/\Va X.K H' (rs.map λr=> .oth .fls [] r) (ls.map .ref)
 | H,[],[],I,_,_,_=>⟨H,I,TSame.refl H,λ_ _=>rfl,QR⟩
 | H,[],_::_,_,_,h,_=>by simp at h
 | H,_::_,[],_,_,h,_=>by simp at h
 | H,l::ls,d::rs,I,nd,hl,hr=>by
  have nd':=J5.mp nd;obtain ⟨us,e,lf,ia⟩:=hr 0 l d rfl rfl;obtain ⟨ob,I1⟩:=I.freezeM e QE;have t1:TSame H (upd H l (.frz ob (.lst us))):=TSame.frz e QE;obtain ⟨H2,I2,t2,off,all⟩:=Qai (ls:=ls) (rs:=rs) I1 nd'.2 (by simpa using hl) λi l' ds h1 h2=>by
   obtain ⟨us',e',lf',ia'⟩:=hr (i+1) l' ds (by simpa using h1) (by simpa using h2);have Kn:l'≠l:=by
    rintro rfl;exact nd'.1 (Q9 h1)
   exact ⟨us',by rw [Qo Kn];exact e',lf',ia'.tsame t1 lf'⟩
  refine ⟨H2,I2,t1.trans t2,λb hb=> ?_,Vg (Qih (t2.fz _ _ _ Vu) ((ia.tsame t1 lf).tsame t2 lf)) all⟩;have hbl:b≠l:=by
   rintro rfl;exact hb Q8
  rw [off b λz=>hb (Q7 _ z),Qo hbl]
theorem trues {K:W.Frag} {H:Hp}: ∀ {th:List D} {as:List Addr},th.length=as.length->Va K H (th.map λ_=> .bl true) (as.map λ_=>V.bl true)
 | [],[],_=>QR
 | _::_,_::_,h=>Vg (Zz _) (trues (by simpa using h))
 | [],_::_,h=>by simp at h
 | _::_,[],h=>by simp at h
theorem Sh.freeze {H:Hp} {ls:List Addr} {rs:List (List D)} (I:Inv X Kz σ H s) (S:Sh X.w X.K C H p t r th as ks bs ls rs) :
  ∃ H',Inv X Kz σ H' s/\TSame H H'/\(∀ b,b≠p->b≠t->b≠r->b ∉ ls->H' b=H b)/\Is X.K H' (shelfD X.w C th ks rs) (.ref p):=by
 obtain ⟨dx,ei⟩:=S.ins;obtain ⟨H1,I1,t1,off,all⟩:=Qai I S.nd S.len S.rows;have e1:H1 r=some (DxO r (ks.map (J6 X.w)) bs (ls.map .ref)):=by rw [off r S.rl];exact S.ro
 obtain ⟨o1,I2⟩:=I1.freezeM e1 QE;have t2:=TSame.frz (v:= .frz o1 (DxO r (ks.map (J6 X.w)) bs (ls.map .ref))) e1 QE;generalize hH2:upd H1 r (.frz o1 (DxO r (ks.map (J6 X.w)) bs (ls.map .ref)))=H2 at I2 t2;have r2:H2 r=some (.frz o1 (DxO r (ks.map (J6 X.w)) bs (ls.map .ref))):=by rw [<- hH2];exact Vu
 have off2: ∀ b,b≠r->H2 b=H1 b:=λb hb=>by rw [<- hH2,Qo hb]
 clear hH2;have e2:H2 t=some (DxO t (th.map (J6 X.w)) as (as.map λ_=> .bl true)):=by rw [off2 t S.tr,off t S.tl];exact S.thA
 obtain ⟨o2,I3⟩:=I2.freezeM e2 QE;have t3:=TSame.frz (v:= .frz o2 (DxO t (th.map (J6 X.w)) as (as.map λ_=> .bl true))) e2 QE;generalize hH3:upd H2 t (.frz o2 (DxO t (th.map (J6 X.w)) as (as.map λ_=> .bl true)))=H3 at I3 t3;have r3:H3 t=some (.frz o2 (DxO t (th.map (J6 X.w)) as (as.map λ_=> .bl true))):=by rw [<- hH3];exact Vu
 have off3: ∀ b,b≠t->H3 b=H2 b:=λb hb=>by rw [<- hH3,Qo hb]
 clear hH3;have e3:H3 p=some (.ins C dx [("there",.ref t),("rows",.ref r)]):=by rw [off3 p S.pt,off2 p S.pr,off p S.pl];exact ei
 obtain ⟨o3,I4⟩:=I3.freezeM e3 QE;have t4:=TSame.frz (v:= .frz o3 (.ins C dx [("there",.ref t),("rows",.ref r)])) e3 QE;have lfr:LFs (rs.map λr=>D.oth .fls [] r)=true:=WK.mpr λd hd=>by
  obtain ⟨ds,hds,rfl⟩:=Q6.mp hd;obtain ⟨i,hi⟩:=J1.mp hds;have Ks:=(Q4.mp hi).1;obtain ⟨_,_,lf,_⟩:=S.rows i _ ds (Qc (by rw [S.len];exact Ks)) hi;rw [LF];exact lf
 have lft:LFs (th.map λ_=>D.bl true)=true:=WK.mpr λd hd=>by
  obtain ⟨_,_,rfl⟩:=Q6.mp hd;rfl
 refine ⟨_,I4,((t1.trans t2).trans t3).trans t4,λb h1 h2 h3 h4=>by rw [Qo h1,off3 b h2,off2 b h3,off b h4],?_⟩;refine Qy6 (o:=o3) (dx:=dx) (vs:=[.ref t,.ref r]) (ss:=Qhx) Vu rfl (Vg ?_ (Vg ?_ QR))
 ·exact Qii (fz:=true) ⟨o2,t4.fz _ _ _ r3⟩ S.thN ((((S.thI.tsame t1 S.thO.lf).tsame t2 S.thO.lf).tsame t3 S.thO.lf).tsame t4 S.thO.lf) (trues (by have:=S.thI.length;simpa using this))
 ·exact Qii (fz:=true) ⟨o1,t4.fz _ _ _ (t3.fz _ _ _ r2)⟩ S.roN ((((S.roI.tsame t1 S.roO.lf).tsame t2 S.roO.lf).tsame t3 S.roO.lf).tsame t4 S.roO.lf) (((all.tsame t2 lfr).tsame t3 lfr).tsame t4 lfr)
end
noncomputable def JL (f:D) (q:List D×List (List D)) (key:D):List D×List (List D):=if key∈q.1 then (q.1,q.2.modify (q.1.idxOf key) (· ++[f])) else (q.1++[key],q.2++[[f]])
structure ShK (H H':Hp) (t r:Addr) (ls ls':List Addr):Prop where
 keep: ∀ b o,H b=some o->b≠t->b≠r->b ∉ ls->H' b=some o
 news: ∀ l∈ls',l∈ls \/ H l=none
 ts:TSame H H'
 tt: ∃ u,H' t=some u
 rr: ∃ u,H' r=some u
theorem ShK.refl {w:World} {K:W.Frag} {C:Addr} {H:Hp} {p t r:Addr} {th:List D} {as:List Addr} {ks:List D} {bs ls:List Addr} {rs:List (List D)} (S:Sh w K C H p t r th as ks bs ls rs):ShK H H t r ls ls:=⟨λb o e _ _ _=>e,λl h=> .inl h,TSame.refl H,⟨_,S.thA⟩,⟨_,S.ro⟩⟩
theorem ShK.trans {H H1 H2:Hp} {t r:Addr} {l0 l1 l2:List Addr} (a:ShK H H1 t r l0 l1) (b:ShK H1 H2 t r l1 l2):ShK H H2 t r l0 l2 where
 keep:=λc o e h1 h2 h3=>b.keep c o (a.keep c o e h1 h2 h3) h1 h2 λz=>by
  rcases a.news c z with z | z
  ·exact h3 z
  ·rw [e] at z;cases z
 news:=λl h=>by
  rcases b.news l h with z | z
  ·exact a.news l z
  ·by_cases h1:l∈l0
   ·exact .inl h1
   ·cases q:H l with
    | none=>exact .inr rfl
    | some o =>
     exfalso
     by_cases h2:l=t
     ·obtain ⟨u,e⟩:=a.tt;rw [h2,e] at z;cases z
     ·by_cases h3:l=r
      ·obtain ⟨u,e⟩:=a.rr;rw [h3,e] at z;cases z
      ·rw [a.keep l o q h2 h3 h1] at z;cases z
 ts:=a.ts.trans b.ts
 tt:=b.tt
 rr:=b.rr
theorem ShK.pre {H H1 H2:Hp} {t r:Addr} {l0 l2:List Addr} (s:Same H H1) (b:ShK H1 H2 t r l0 l2):ShK H H2 t r l0 l2 where
 keep:=λc o e h1 h2 h3=>b.keep c o (s _ _ e) h1 h2 h3
 news:=λl h=>by
  rcases b.news l h with z | z
  ·exact .inl z
  ·exact .inr (s.free z)
 ts:=s.t.trans b.ts
 tt:=b.tt
 rr:=b.rr
section
variable {w:World} {K:W.Frag} {C:Addr} {H:Hp} {p t r:Addr} {th:List D} {as:List Addr} {ks:List D} {bs ls:List Addr} {rs:List (List D)} {fd key:D} {f:V}
theorem Sh.old {n:Nat} {l:Addr} {us:List V} (S:Sh w K C H p t r th as ks bs ls rs) (hk:ks[n]? =some key) (hl:ls[n]? =some l) (hu:H l=some (.lst us)) (i:Is K H fd f) (lf:LF fd=true) :
  Sh w K C (upd H l (.lst (us++[f]))) p t r th as (JL fd (ks,rs) key).1 bs ls (JL fd (ks,rs) key).2/\ShK H (upd H l (.lst (us++[f]))) t r ls ls:=by
 have ts:TSame H (upd H l (.lst (us++[f]))):=TSame.lst hu;have hm:=Q9 hl;have hs:JL fd (ks,rs) key=(ks,rs.modify n (· ++[fd])):=by
  unfold JL;rw [Qj (Q9 hk),Qr3 S.roN hk]
 rw [hs];have np:p≠l:=λz=>S.pl (z ▸ hm)
 have nt:t≠l:=λz=>S.tl (z ▸ hm)
 have nr:r≠l:=λz=>S.rl (z ▸ hm)
 obtain ⟨dx,ei⟩:=S.ins;refine ⟨⟨⟨dx,by rw [Qo np];exact ei⟩,by rw [Qo nt];exact S.thA,S.thN,S.thO,S.thI.tsame ts S.thO.lf,by rw [Qo nr];exact S.ro,S.roN,S.roO,S.roI.tsame ts S.roO.lf,S.tr,S.nd,by rw [List.length_modify];exact S.len,λi' l' ds h1 h2=> ?_⟩,
  ⟨λb o e h1 h2 h3=>by
   have hbl:b≠l:=by
    rintro rfl;exact h3 hm
   rw [Qo hbl];exact e,λl h=> .inl h,ts,⟨_,by rw [Qo nt];exact S.thA⟩,⟨_,by rw [Qo nr];exact S.ro⟩⟩⟩
 rw [Zk] at h2
 by_cases hn:n=i'
 ·subst hn;rw [hl] at h1;cases h1;cases q:rs[n]? with
  | none=>rw [q] at h2;simp at h2
  | some d0 =>
   rw [q] at h2;simp at h2;subst h2;obtain ⟨us',e1,e2,e3⟩:=S.rows n l d0 hl q;rw [hu] at e1;cases e1;exact ⟨us++[f],Vu,by rw [WH,e2];simp [LFs,lf],(e3.tsame ts e2).append (Vg (i.tsame ts lf) QR)⟩
 ·simp [hn] at h2;obtain ⟨us',e1,e2,e3⟩:=S.rows i' l' ds h1 h2;have Kn:l'≠l:=λz=>hn ((List.getElem?_inj (Q4.mp hl).1 S.nd).mp (by rw [hl,h1,z]))
  exact ⟨us',by rw [Qo Kn];exact e1,e2,e3.tsame ts e2⟩
theorem Sh.new {a l:Addr} (S:Sh w K C H p t r th as ks bs ls rs) (hk:key ∉ ks) (xk:XKey key) (ik:Is K H key (.ref a)) (hl:H l=some (.lst [])) (hn:l ∉ ls) (i:Is K H fd f) (lf:LF fd=true) :
  Sh w K C (upd (upd H r (DxO r ((ks++[key]).map (J6 w)) (bs++[a]) (ls.map .ref++[.ref l]))) l (.lst [f])) p t r th as (JL fd (ks,rs) key).1 (bs++[a]) (ls++[l]) (JL fd (ks,rs) key).2:=by
 have hs:JL fd (ks,rs) key=(ks++[key],rs++[[fd]]):=by
  unfold JL;rw [Qg hk]
 rw [hs];obtain ⟨dx,ei⟩:=S.ins;have nrl:r≠l:=Yl S.ro hl (λz=>nomatch z);have ntl:t≠l:=Yl S.thA hl (λz=>nomatch z);have npl:p≠l:=Yl ei hl (λz=>nomatch z);have t1:TSame H (upd H r (DxO r ((ks++[key]).map (J6 w)) (bs++[a]) (ls.map .ref++[.ref l]))):=TSame.frz S.ro QE;have hl1:upd H r (DxO r ((ks++[key]).map (J6 w)) (bs++[a]) (ls.map .ref++[.ref l])) l=some (.lst []):=by rw [Qo nrl.symm];exact hl
 have t2:=t1.trans (TSame.lst (ws:=[f]) hl1);have nd2:=GX (k:=key) S.roN;have ok2:=Uq (k:=key) S.roO xk;rw [Wh,Qg hk] at nd2 ok2;refine ⟨⟨dx,by rw [Qo npl,Qo S.pr];exact ei⟩,by rw [Qo ntl,Qo S.tr];exact S.thA,S.thN,S.thO,S.thI.tsame t2 S.thO.lf,?_,nd2,ok2,?_,S.tr,?_,by simp [S.len],λi' l' ds h1 h2=> ?_⟩
 ·rw [Qo nrl,Vu]
  simp
 ·rw [UR];exact (S.roI.tsame t2 S.roO.lf).append (Vg (ik.tsame t2 (Qjf xk.1)) QR)
 ·rw [Jx];exact ⟨S.nd,by simp,λx hx y hy=>by simp at hy;subst hy;exact λe=>hn (e ▸ hx)⟩
 ·by_cases Ks:i' < ls.length
  ·rw [QU Ks] at h1;rw [QU (by rw [<- S.len];exact Ks)] at h2;obtain ⟨us',e1,e2,e3⟩:=S.rows i' l' ds h1 h2;have Kn:l'≠l:=λz=>hn (z ▸ Q9 h1)
   have hnr:l'≠r:=λz=>S.rl (z ▸ Q9 h1)
   exact ⟨us',by rw [Qo Kn,Qo hnr];exact e1,e2,e3.tsame t2 e2⟩
  ·have e0:i'=ls.length:=by
    have:=(Q4.mp h1).1;simp at this;omega
   subst e0;rw [Jq (Q5 _)] at h1;rw [Jq (by rw [S.len];exact Q5 _)] at h2;simp at h1;rw [S.len] at h2;simp at h2;subst h1 h2;exact ⟨[f],Vu,by simp [LFs,lf],Vg (i.tsame t2 lf) QR⟩
theorem Sh.newK {a l:Addr} {H0:Hp} (S:Sh w K C H p t r th as ks bs ls rs) (s:Same H0 H) (hl:H l=some (.lst [])) (h0:H0 l=none) :
  ShK H0 (upd (upd H r (DxO r ((ks++[key]).map (J6 w)) (bs++[a]) (ls.map .ref++[.ref l]))) l (.lst [f])) t r ls (ls++[l]):=by
 have nrl:r≠l:=Yl S.ro hl (λz=>nomatch z);have ntl:t≠l:=Yl S.thA hl (λz=>nomatch z);have t1:TSame H (upd H r (DxO r ((ks++[key]).map (J6 w)) (bs++[a]) (ls.map .ref++[.ref l]))):=TSame.frz S.ro QE;have hl1:upd H r (DxO r ((ks++[key]).map (J6 w)) (bs++[a]) (ls.map .ref++[.ref l])) l=some (.lst []):=by rw [Qo nrl.symm];exact hl
 refine ⟨λb o e h1 h2 h3=> ?_,λx hx=> ?_,s.t.trans (t1.trans (TSame.lst (ws:=[f]) hl1)),⟨_,by rw [Qo ntl,Qo S.tr];exact S.thA⟩,⟨_,by rw [Qo nrl,Vu]⟩⟩
 ·rw [Qo (QH e h0),Qo h2];exact s _ _ e
 ·rcases Qy.mp hx with hx | hx
  ·exact .inl hx
  ·simp at hx;subst hx;exact .inr h0
theorem Sh.put {a:Addr} {H':Hp} (S:Sh w K C H p t r th as ks bs ls rs) (xk:XKey fd) (ik:Is K H fd (.ref a)) (g:XPut w H t a th as (as.map λ_=> .bl true) fd (.bl true) H'): ∃ as',Sh w K C H' p t r (Wh th fd) as' ks bs ls rs/\ShK H H' t r ls ls:=by
 have key: ∀ (th':List D) (as':List Addr) (H':Hp),H'=upd H t (DxO t (th'.map (J6 w)) as' (as'.map λ_=> .bl true))->th'.Nodup->KOk th'->Va K H th' (as'.map .ref)->Sh w K C H' p t r th' as' ks bs ls rs/\ShK H H' t r ls ls:=by
  rintro th' as' _ rfl nd ok is;obtain ⟨dx,ei⟩:=S.ins;have ts:TSame H (upd H t (DxO t (th'.map (J6 w)) as' (as'.map λ_=> .bl true))):=TSame.frz S.thA QE;refine ⟨⟨⟨dx,by rw [Qo S.pt];exact ei⟩,Vu,nd,ok,is.tsame ts ok.lf,by rw [Qo S.tr.symm];exact S.ro,S.roN,S.roO,S.roI.tsame ts S.roO.lf,S.tr,S.nd,S.len,λi l ds h1 h2=> ?_⟩,
   ⟨λb o e h1 h2 h3=>by rw [Qo h1];exact e,λl h=> .inl h,ts,⟨_,Vu⟩,⟨_,by rw [Qo S.tr.symm];exact S.ro⟩⟩⟩
  obtain ⟨us,e1,e2,e3⟩:=S.rows i l ds h1 h2;exact ⟨us,by
   have Ks:l≠t:=by
    rintro rfl;exact S.tl (Q9 h1)
   rw [Qo Ks];exact e1,e2,e3.tsame ts e2⟩
 rcases g with ⟨i,hi,e⟩ | ⟨hk,e⟩
 ·refine ⟨as,?_⟩;rw [Wh,Qj (Q9 hi)];refine key th as H' ?_ S.thN S.thO S.thI;rw [e];congr 2;apply JO;intro m;rw [List.getElem?_set];split
  ·rename_i h;subst h;rw [Qe];split
   ·rename_i h;rw [Q2] at h;rw [Qc h];rfl
   ·rename_i h;rw [Q2] at h;rw [Jn (by omega)];rfl
  ·rfl
 ·refine ⟨as++[a],?_⟩;have nd2:=GX (k:=fd) S.thN;have ok2:=Uq (k:=fd) S.thO xk;rw [Wh,Qg hk] at nd2 ok2;rw [Wh,Qg hk];refine key (th++[fd]) (as++[a]) H' ?_ nd2 ok2 ?_
  ·rw [e]
   simp
  ·rw [UR];exact S.thI.append (Vg ik QR)
end
end L2
namespace L2
open PySem PySem.Spec PyProof.Rows
section
variable {X:Cx} {ρ:List (Option D)} {a b c e:Expr} {pos:Pos} {d:D}
def BB:D->Bool | .non=>false | _=>true
theorem Qsa {j:Nat} {p:Pos} (ha:PD X ρ a d):PB X ρ (.Compare a [.IsNot] [.Constant .none j p] pos) (BB d) :=
 Ua Qu2 ha Qrn (λH x y Q hx hy q=>⟨Qip hy,by
  have e:(!decide (x=V.non))=(BB d):=by
   cases d with
   | non=>cases Qip hx;rfl
   | bl k=>cases B6 hx;rfl
   | int k=>cases ZI hx;rfl
   | str k=>cases JC hx;rfl
   | tup k=>obtain ⟨p,_,rfl,_⟩:=JB hx;rfl
   | lst k=>obtain ⟨p,_,rfl,_⟩:=JY hx;rfl
   | dct _ _ _=>obtain ⟨p,_,rfl,_⟩:=Qkr hx;rfl
   | oth _ _ _=>obtain ⟨p,_,rfl,_⟩:=Qyi hx;rfl
  rw [e];exact q _ H (Same.refl H) (Zz _)⟩) (nomark _)
end
end L2
namespace L2
open PySem PySem.Spec PyProof.Rows PySem.W
section
variable {X:Cx} {ρ:List (Option D)} {a b e o:Expr} {d:D} {ds:List D} {ks:List Str} {pos:Pos}
theorem Qur:MtR X "str.isupper" (λx xs H Q=> ∃ y,x= .str y/\xs=[]/\Q (.bl (Txt.isupper y)) H):=by
 intro Kz s σ H x xs v us Q I rx rs h;obtain ⟨y,rfl,rfl,q⟩:=h;obtain ⟨t,e⟩:=(show ∃ t,v=Value.str y t from rx);subst e;cases rs;exact SC.isupper ⟨.bl _,H,I,rfl,q⟩
theorem Qyv {y:Str} {ap cp:Pos} (ho:PD X ρ o (.str y)) (hbase:attributeBase o "isupper" X.env (eval o X.env)=eval o X.env:=by rfl) (Kh:(ap.endLine == cp.line)=true:=by rfl) :
  PD X ρ (.Call (.Attribute o "isupper" ap) [] [] cp) (.bl (Txt.isupper y)) :=
 ZA (Qxo PySem.F.plainAttrs_str PySem.F.slot_str_isupper PySem.F.type_str_isupper Qur ho.pe hbase Kh) λσ H Q he q=>⟨he,λv H1 s1 i1=>by
  cases JC i1;exact ⟨rfl,y,rfl,rfl,q _ H1 s1 (Zz _)⟩⟩
end
end L2
namespace L2
open PySem PySem.Spec PyProof.Rows PySem.W
section
variable {X:Cx} {ρ:List (Option D)} {a b e:Expr} {d:D} {ds:List D} {ks:List Str} {pos:Pos}
variable {a2 b2:Expr} {d2:D} {k1 k2:Str}
theorem Qyq (ha:PD X ρ a (.str k1)) (hb:PD X ρ b d) (ha2:PD X ρ a2 (.str k2)) (hb2:PD X ρ b2 d2) (hl:LF d=true) (hl2:LF d2=true) (Kn:k1≠k2):PDM X ρ (.Dict [some a,some a2] [b,b2] pos) [k1,k2] [d,d2] :=
 ⟨(Qke (OZ ha.pe hb.pe (OZ ha2.pe hb2.pe Qk9)) rfl rfl (by simp) (by simp)).imp λσ H Q q p hp=>by
  have he:=q.1.same (Same.upd (o:= .dK []) hp);refine ⟨he,λv H1 s1 i1=>⟨he.same s1,λu H2 s2 i2=>⟨(he.same s1).same s2,λv' H3 s3 i3=>⟨((he.same s1).same s2).same s3,λu' H4 s4 i4=> ?_⟩⟩⟩⟩;cases JC i1;cases JC i3;have e4:H4 p=some (.dK []):=s4 _ _ (s3 _ _ (s2 _ _ (s1 _ _ Vu)));refine ⟨e4,[(.inr k1,u),(.inr k2,u')],rfl,by simp,?_⟩;have em:Gn [] [((Sum.inr k1:Key),u),(Sum.inr k2,u')]=[(Sum.inr k1,u),(Sum.inr k2,u')]:=by
   have: ¬ ((Sum.inr k1:Key)=Sum.inr k2):=λz=>Kn (by injection z)
   simp [Gn,putK,this]
  rw [em];have ts:TSame H4 (upd H4 p (.dK [(Sum.inr k1,u),(Sum.inr k2,u')])):=TSame.dk e4;refine q.2 p [u,u'] _ hp (λc o z=> ?_) ⟨rfl,by simp [Kn],Vu⟩ (Vg ((i2.same (s3.trans s4)).tsame ts hl) (Vg (i4.tsame ts hl2) QR));have hc:c≠p:=QH z hp;show upd H4 p _ c=_;rw [Qo hc];exact s4 _ _ (s3 _ _ (s2 _ _ (s1 _ _ (Same.upd hp _ _ z))))⟩
end
end L2
namespace L2
open PySem PySem.Spec PyProof.Rows
def IteL (K:W.Frag) (a:Addr):It :=
 ⟨λi H=> ∃ xs x,SqL K H a xs/\xs[i]? =some x,λi H v H'=> ∃ p x,v= .ref p/\H p=none/\H'=upd H p (.tup [.int i,x])/\ ∀ xs,SqL K H a xs->xs[i]? =some x,λi H=> ∃ xs,SqL K H a xs/\xs.length<=i⟩
theorem Qhp {P:Program} {w:World} {K:W.Frag} {elts:List Expr} {k:Nat} {pos:Pos} {e j a:Addr} (ne:e≠j) :
  Turn P w K (.Tuple elts k pos) (IteL K a) [e,j] e (λi h=>(∃ old,IsEnum h e j (i:Nat) old)/\h.IsListIter j a i) where
 mem:=by simp
 obj:=λi h st c hc=>by
  obtain ⟨⟨old,he⟩,o,ej,_,dj⟩:=st;simp only [Qb,QT,JW] at hc;rcases hc with rfl | rfl
  ·exact ⟨_,he,λv q=>by cases q⟩
  ·exact ⟨_,ej,λv q=>by rw [dj] at q;cases q⟩
 keep:=λi h h' st k=>by
  obtain ⟨⟨old,he⟩,o,ej,r⟩:=st;exact ⟨⟨old,k _ (by simp) _ he⟩,o,k _ (by simp) _ ej,r⟩
 item:=by
  intro X hP hw hK hc i Kz s σ H E I hf st hg;subst hP hw hK;obtain ⟨xs,x,q1,hx⟩:=hg;obtain ⟨⟨old,he⟩,hj⟩:=st;obtain ⟨us,r1,p1,z1⟩:=I.list q1;obtain ⟨u,hu,ru⟩:=r1.get hx;refine wpAny_pyNext_enum_item he hj p1.isList (x:=u) (by simpa using hu) ne λh' no nj np _ keep=> ?_
  refine ⟨_,rfl,wpAny_letOwnedTupleGo_enum no λh2 mo sb=> ?_⟩;have fresh:H s.heap.objs.size=none:=I.hok.fresh (Q5 _);have lt: ∀ c∈[e,j],c≠s.heap.objs.size:=λc Kk=>by
   have: ∃ o,s.heap.get? c=some o:=by
    obtain ⟨o,ej,_⟩:=hj;simp only [Qb,QT,JW] at Kk;rcases Kk with rfl | rfl
    ·exact ⟨_,he⟩
    ·exact ⟨_,ej⟩
   obtain ⟨o,ee⟩:=this;exact Qp (Qi ee)
  have I0:Inv X Kz σ (upd H s.heap.objs.size (.tup [.int i,x])) { s with heap:=s.heap.push { cls:= .type "tuple",data:= .seq #[.int i s.toks,u] },toks:=s.toks+1 } :=
   I.laid (λc o e=>Q1 _ e) (Q5 _) ⟨by show 2<=_;decide,[.int i s.toks,u],.cons ⟨_,rfl⟩ (.cons ru .nil),⟨_,Qd _ rfl,rfl,_,rfl⟩⟩
  have fok: ∀ c∈[e,j],FpOk X Kz (upd H s.heap.objs.size (.tup [.int i,x])) c:=λc Kk=>by
   obtain ⟨f0,f1,f2,f3,f4,f5⟩:=hf c Kk;exact ⟨by rw [Qo (lt c Kk)];exact f0,f1,f2,f3,f4,f5⟩
  refine ⟨.ref s.heap.objs.size,upd H s.heap.objs.size (.tup [.int i,x]),?_,rfl,⟨_,x,rfl,fresh,rfl,λzs hz'=>by rw [I.list_inj hz' q1];exact hx⟩,?_,λc Kk=>by rw [Qo (lt c Kk)];exact (hf c Kk).1⟩
  ·have I1:Inv X Kz σ (upd H s.heap.objs.size (.tup [.int i,x])) { s with heap:=h2,toks:=s.toks+1 }:=Inv.turnedL (s:={ s with heap:=s.heap.push { cls:= .type "tuple",data:= .seq #[.int i s.toks,u] },toks:=s.toks+1 }) (fp:=[e,j]) I0 ?_ fok
   ·exact I1
   intro c o Kk ee;replace ee:(s.heap.push { cls:= .type "tuple",data:= .seq #[.int i s.toks,u] }).get? c=some o:=ee;simp only [Qb,QT,JW,not_or] at Kk
   by_cases hT:c=s.heap.objs.size
   ·subst hT;rw [Qd _ rfl] at ee;rw [<- ee];exact sb.extBut _ _ Kk.1 np
   ·exact sb.extBut _ _ Kk.1 (keep c o Kk.1 Kk.2 (by rwa [Qwh _ _ _ hT] at ee))
  ·obtain ⟨o1,e1,s1⟩:=nj;refine ⟨⟨u,?_⟩,o1,sb.extBut _ _ (QS ne) e1,s1⟩;have:((i:Int)+1)=((i+1:Nat):Int):=by omega
   rw [<- this];exact mo
 done:=by
  intro X hP hw hK hc i Kz s σ H E I hf st hg;subst hP hw hK;obtain ⟨xs,q1,hx⟩:=hg;obtain ⟨⟨old,he⟩,hj⟩:=st;obtain ⟨us,r1,p1,z1⟩:=I.list q1;have l1:=r1.length;refine wpAny_pyNext_enum_end (I.ok.hd hc) he hj p1.isList (by simp;omega) λh' keep=>⟨rfl,?_⟩
  exact I.turnedL (t':=s.toks) (fp:=[j]) (λc o Kk ee=>keep c o (by simpa using Kk) ee) λc Kk=>hf c (by simp at Kk ⊢; exact .inr Kk)
 self:=λ_ _ _ _ _ st h=>by
  obtain ⟨⟨old,he⟩,_⟩:=st;exact Qb8 he h
section
variable {X:Cx}
def Qyl (K:W.Frag) (ta:TA):TI:=λσ H R=>ta σ H λvs H1=> ∃ a,vs=[.ref a]/\(∃ xs,SqL K H1 a xs)/\R (IteL K a) H1
theorem Qp5 {e1:Expr} {ta:TA} {p pos tp:Pos} {elts:List Expr} {k:Nat} (hg:Gl X "enumerate") (hm:X.mg "enumerate" =none) (ha:PA X [e1] ta) (hs:starEach [e1] X.env=[(false,eval e1 X.env)]:=by rfl) :
  PI X (.Tuple elts k tp) (.Call (.Name "enumerate" p) [e1] [] pos) (Qyl X.K ta):=by
 intro Kz s σ H R I h;refine Call_ (Y8 I hg hm Qaz (Jo (thn (ha pos Kz s σ H _ I h) λus s1 ⟨vs,H1,I1,r1,q1⟩=> ?_) hs rfl));obtain ⟨a,rfl,⟨xs,qa⟩,q⟩:=q1;obtain ⟨u,rfl,ru⟩:=vals1 r1;cases ru;obtain ⟨as,ra,pa,za⟩:=I1.list qa;refine call_enumerate_list pa.isList λh' st sj _ keep=>Qb8 st ?_
 refine ⟨_,[s1.heap.objs.size+1,s1.heap.objs.size],_,_,H1,rfl,I1.kept (t':=s1.toks) keep,Qhp (W1 (JJ _)),⟨⟨.none,st⟩,sj⟩,λc hc=> ?_,q⟩;have le:s1.heap.objs.size<=c:=by
  simp only [Qb,QT,JW] at hc;rcases hc with rfl | rfl
  ·exact WV _
  ·exact Q5 _
 exact I1.fpOk le (I1.hok.fresh le)
end
end L2
namespace L2
open PySem PySem.Spec PyProof.Rows
section
variable {X:Cx}
theorem Qp1 {elt iter:Expr} {x y z:Str} {px py pz tp:Pos} {tk:Nat} {ifs:List Expr} {scope:Scope} {pos spos:Pos} {wi:TI} {tc:TT} {te:TE} {i:Nat} (hN:X.N.Nodup) (hzi:X.N[i]? =some z) (hzl:X.env.scope.names.lookup z=some .local) (hc:X.calm=true) (hi:PI X (.Tuple [.Name x px,.Name y py] tk tp) iter wi)
  (hifs: ∀ cl C s H ex,PTs (cxP X x y scope cl C s H ex) ifs tc) (helt: ∀ cl C s H ex,PE (cxP X x y scope cl C s H ex) elt te)
  (hok:WI X.N X.env.scope x scope=true) (hy:scope.names.lookup y=some .local) (hnd:(x::y::X.N).Nodup) (hs: ∀ x,foldedSetIterable iter X.env x=pure x)
  (hsw:swapsWith (.ListComp elt [⟨.Tuple [.Name x px,.Name y py] tk tp,iter,ifs,0⟩] scope pos) (some (.Name z pz)) spos.line X.env=pure true) :
  PS X (.Assign [.Name z pz] (.ListComp elt [⟨.Tuple [.Name x px,.Name y py] tk tp,iter,ifs,0⟩] scope pos) spos) (Qww (Qhs X.K wi tc te) (Ba i)):=by
 intro Kz s σ H Dd I h;have ok:=CompOk.of hok;rw [exec_Assign_Name_used _ _ _ _ hsw];refine Q0 (wpAny_standAt (Q0 ?_));show wpAny _ X.A (do let _<-comprehension (.ListComp elt [⟨.Tuple [.Name x px,.Name y py] tk tp,iter,ifs,0⟩] scope pos) scope X.env _ (newList []) false (eval iter X.env) (some (assign (.Name z pz) X.env))) _ _ s;refine Q0 (Jh (Yq (cl:=ZL scope X.env) (use:=some (assign (.Name z pz) X.env)) (Q:=λ_ s'=>SP X Kz Dd .next s') rfl hs (Zv λy hy e=> ?_) ok.kind ok.names ?_) (λ_ s' hq=>Q3 (Q3 hq)) λ_ _ e=>e)
 ·obtain ⟨n,k⟩:=y;cases e;obtain ⟨c,z⟩:=ok.cells I hy;rw [z];rfl
 ·refine thn (hi Kz s σ H _ I h) λv s1 h1=>thn h1 λitv s2 h2=> ?_
  obtain ⟨it,fp,tn,J,H2,e,I2,T,st2,f2,W,w0,turn⟩:=h2;subst e;refine O5 (RR:=λacc C=>compPost (model X.prog X.w) X.A X.xe (some (assign (.Name z pz) X.env)) (λ_ s'=>SP X Kz Dd .next s') acc C) ok ⟨hy,hnd⟩ hc hifs helt I2 T st2 f2 w0 (Qf:=λys H=> ∀ p,H p=none->Dd.nx (σ.set i (some (.ref p))) (upd H p (.lst ys))) turn ?_;intro D C s' H' ys Kv k hD hC hDC J' rv hl q;obtain ⟨m,hn,_⟩:=id J'.loc;have J2:=Qaf J' I2.len;obtain ⟨I',nD⟩:=U1 I2 f2 hD hC hDC J2 rv hl (Qwi ..);have nC:upd H' D (.lst ys) C=none:=by rw [Qo (QS hDC)];exact J2.free
  have fC:=I2.fpOk (b:=C) hC nC;show wpAny _ X.A (assign (.Name z pz) X.env (.ref D)) _ _ _;refine Qba (Bu (s:=s') I' hN hzi (.inl hzl) (v:= .ref D) rfl (λs'' I'' ⟨a,sa,ha⟩=> ?_) (.inr hzl));have hCa:C≠a:=by
   rcases ha with ha | ha
   ·rw [ha];exact fC.2.1
   ·exact QS (fC.2.2.2.2.1 _ _ ha)
  refine ⟨m,hn.sameBut sa hCa,λh' sb=> ?_⟩;exact ⟨_,_,I''.turned (t':=s''.toks) (λb o hb e=>(sb.2 b hb).trans e) nC fC.2.1 fC.2.2.2.1 fC.2.2.2.2.1 fC.2.2.2.2.2,q D nD⟩
variable {ρ:List (Option D)}
variable {H₀:Hp} {τ:List Sl} {pos:Pos}
end
theorem TSame.sqT {K:W.Frag} {H H':Hp} {a:Addr} {xs:List V} (t:TSame H H') (h:SqT K H a xs):SqT K H' a xs:=by
 rcases h with h | h
 ·exact .inl (t.tp _ _ h)
 ·exact .inr h
section
variable {X:Cx} {H₀:Hp} {τ:List Sl} {ds as bs:List D} {pos:Pos} {m:Bool}
theorem Quk {e:Expr} {x y:Str} {px py tp cp ep:Pos} {tk:Nat} {body:List Stmt} {jx jy:Nat} (Kq:Nat->List Sl) (hp:PassesOwn (model X.prog X.w) X.A X.env X.xe) (hc:X.calm=true) (hm:X.mg "enumerate" =none) (ha:PD X (dat τ) e (.tup ds)) (lf:LFs ds=true)
  (h0:Kq 0=τ) (hb: ∀ (i:Nat) (d:D),ds[i]? =some d-> ∃ n,QOs X H₀ (((Kq i).set jx (.any (.int i))).set jy (.any d)) body (.next n (Kq (i+1)))/\(m=true->n=true))
  (hN:X.N.Nodup) (hx:X.N[jx]? =some x:=by rfl) (hy:X.N[jy]? =some y:=by rfl) (lx:Loc X.env.scope x:=by first | exact QJ rfl | exact QD rfl) (ly:Loc X.env.scope y:=by first | exact QJ rfl | exact QD rfl)
  (fx:X.fn x=true \/ X.env.scope.names.lookup x=some .local:=by first | exact .inl rfl | exact .inr rfl) (fy:X.fn y=true \/ X.env.scope.names.lookup y=some .local:=by first | exact .inl rfl | exact .inr rfl)
  (hg:Gl X "enumerate" :=by rfl) (hse:starEach [e] X.env=[(false,eval e X.env)]:=by rfl) (hs: ∀ v,foldedSetIterable (.Call (.Name "enumerate" ep) [e] [] cp) X.env v=pure v:=by intro _;rfl) :
  QO X H₀ τ (.For (.Tuple [.Name x px,.Name y py] tk tp) (.Call (.Name "enumerate" ep) [e] [] cp) body [] pos) (.next m (Kq ds.length)):=by
 have hb':PSs X body (λD σ H=> ∃ i d,ds[i]? =some d/\rdO X.K H₀ (((Kq i).set jx (.any (.int i))).set jy (.any d)) (.next m (Kq (i+1))) D σ H):=λKz s σ H D I ⟨i,d,hd,q⟩=>by
  obtain ⟨n,hq,hn⟩:=hb i d hd;exact hq.pe Kz s σ H D I ⟨q.1,λKt H' t=>q.2 Kt H' (t.weak hn)⟩
 refine ⟨(Yv hp hc (Qkc hg hm (Vc ha Vn hse).pe hse) (Gk (n:=2) hc (Vh (Jr (i:=jx) hN hx lx fx) (Vh (Jr (i:=jy) hN hy ly fy) YY))) hb' hs).imp λD σ H q=> ?_⟩;refine ⟨q.1.env,λvs H1 s1 ia=> ?_⟩;obtain ⟨v,rfl,iv⟩:=ia.one;obtain ⟨a,xs,rfl,hq,r⟩:=JB iv;have Kr:=r.length;refine ⟨a,rfl,⟨xs,hq⟩,λi k Kt H'=>i<=ds.length/\k=ds.length - i/\EnvO X.K H₀ H' Kt (Kq i)/\Rl m H H'/\TSame H1 H',⟨ds.length,Qz _,rfl,by rw [h0];exact q.1.step s1,.of s1,TSame.refl _⟩,?_⟩;rintro i k Kt H' ⟨hi,rfl,he,hm',st⟩
 by_cases Ks:i < ds.length
 ·refine .inr ⟨⟨xs,xs[i]'(by omega),st.sqT hq,by simp⟩,λσ2 H2=>EnvO X.K H₀ H2 σ2 (Kq (i+1))/\Rl m H' H2,λσ2 H2 ⟨he2,hm2⟩=>⟨ds.length - (i+1),by omega,Ks,rfl,he2,?_,st.trans hm2.t⟩,λv H2 yl=> ?_⟩
  ·have:=hm'.trans hm2;rwa [Wm] at this
  obtain ⟨p,u,rfl,np,rfl,hu⟩:=yl;obtain ⟨d,hd,id⟩:=(r.tsame st lf).at (hu xs (st.sqT hq));have s3:Same H' (upd H' p (.tup [.int i,u])):=Same.upd np;refine ⟨p,[.int i,u],rfl,.inl (.inl Vu),rfl,.int i,[u],rfl,u,[],rfl,rfl,i,d,hd,?_,λσ3 H3 t3 he3=>⟨he3,?_⟩⟩
  ·exact ((he.step s3).set (s:= .any (.int i)) jx ⟨_,rfl,ZH _⟩ λKo e=>nomatch e).set (s:= .any d) jy ⟨u,rfl,id.same s3⟩ λKo e=>nomatch e
  ·have:=(Rl.of (m:=m) s3).trans t3;rwa [Wm] at this
 ·have e:i=ds.length:=by omega
  subst e;exact .inl ⟨⟨xs,st.sqT hq,by omega⟩,q.2 Kt H' hm' he⟩
end
section
variable {X:Cx} {ρ:List (Option D)} {a b:Expr} {pos:Pos}
theorem Qw9 {i j:Int} (ha:PD X ρ a (.int i)) (hb:PD X ρ b (.int j)):PB X ρ (.Compare a [.NotEq] [b] pos) (!decide (i=j)):=by
 have h:=Ua (pos:=pos) Qpg ha hb (Qpr (x:= .int i) (y:= .int j) rfl rfl rfl) (nomark _);have e:decide (V.int i=V.int j)=decide (i=j):=by
  rw [Jd,QB,QB];exact ⟨λh=>by injection h,λh=>by rw [h]⟩
 rw [e] at h;exact h
end
section
variable {X:Cx} {ρ:List (Option D)} {ds:List D} {pos:Pos}
theorem Qtl {e:Expr} {x y:Str} {px py tp cp ep:Pos} {tk:Nat} {body:List Stmt} {tb:TS} (jx jy:Nat) (hp:PassesOwn (model X.prog X.w) X.A X.env X.xe) (hc:X.calm=true) (hm:X.mg "enumerate" =none) (ha:PD X ρ e (.tup ds)) (lf:LFs ds=true) (hb:PSs X body tb)
  (hN:X.N.Nodup) (hx:X.N[jx]? =some x:=by rfl) (hy:X.N[jy]? =some y:=by rfl) (lx:Loc X.env.scope x:=by first | exact QJ rfl | exact QD rfl) (ly:Loc X.env.scope y:=by first | exact QJ rfl | exact QD rfl)
  (fx:X.fn x=true \/ X.env.scope.names.lookup x=some .local:=by first | exact .inl rfl | exact .inr rfl) (fy:X.fn y=true \/ X.env.scope.names.lookup y=some .local:=by first | exact .inl rfl | exact .inr rfl)
  (hg:Gl X "enumerate" :=by rfl) (hse:starEach [e] X.env=[(false,eval e X.env)]:=by rfl) (hs: ∀ v,foldedSetIterable (.Call (.Name "enumerate" ep) [e] [] cp) X.env v=pure v:=by intro _;rfl) :
  PS X (.For (.Tuple [.Name x px,.Name y py] tk tp) (.Call (.Name "enumerate" ep) [e] [] cp) body [] pos) (λD σ H=>EnvIs X.K H σ ρ/\ ∀ H1,Same H H1-> ∃ Pv:Nat->St->Hp->Prop,Pv 0 σ H1/\(∀ i Kt H',Pv i Kt H'->TSame H1 H') /\
   (∀ (i:Nat) d u Kt H' p,ds[i]? =some d->Pv i Kt H'->H' p=none->Is X.K H' d u->tb { D with nx:=Pv (i+1),ct:=Pv (i+1),bk:=D.nx } ((Kt.set jx (some (.int i))).set jy (some u)) (upd H' p (.tup [.int i,u])))/\(∀ Kt H',Pv ds.length Kt H'->D.nx Kt H')):=by
 refine (Yv hp hc (Qkc hg hm (Vc ha Vn hse).pe hse) (Gk (n:=2) hc (Vh (Jr (i:=jx) hN hx lx fx) (Vh (Jr (i:=jy) hN hy ly fy) YY))) hb hs).imp λD σ H q=> ?_
 refine ⟨q.1,λvs H1 s1 ia=> ?_⟩;obtain ⟨v,rfl,iv⟩:=ia.one;obtain ⟨a,xs,rfl,hq,r⟩:=JB iv;have Kr:=r.length;obtain ⟨Pv,p0,pts,pstep,pend⟩:=q.2 H1 s1;refine ⟨a,rfl,⟨xs,hq⟩,λi k Kt H'=>i<=ds.length/\k=ds.length - i/\Pv i Kt H',⟨ds.length,Qz _,rfl,p0⟩,?_⟩;rintro i k Kt H' ⟨hi,rfl,he⟩;have st:=pts i Kt H' he
 by_cases Ks:i < ds.length
 ·refine .inr ⟨⟨xs,xs[i]'(by omega),st.sqT hq,by simp⟩,Pv (i+1),λσ2 H2 he2=>⟨ds.length - (i+1),by omega,Ks,rfl,he2⟩,λv H2 yl=> ?_⟩;obtain ⟨p,u,rfl,np,rfl,hu⟩:=yl;obtain ⟨d,hd,id⟩:=(r.tsame st lf).at (hu xs (st.sqT hq));exact ⟨p,[.int i,u],rfl,.inl (.inl Vu),rfl,.int i,[u],rfl,u,[],rfl,rfl,pstep i d u Kt H' p hd he np id⟩
 ·have e:i=ds.length:=by omega
  subst e;exact .inl ⟨⟨xs,st.sqT hq,by omega⟩,pend Kt H' he⟩
theorem Qp0 {ek:Expr} {key:D} {p1 p2 p3 p4 p5 p6 p7 p8:Pos} (hu:X.A.units+15 < cLine) (hk:PD X ρ ek key) (h0:X.N[0]? =some ("self" :Str):=by rfl) (h1:X.N[1]? =some ("fact" :Str):=by rfl)
  (v0:Vis X.env.scope "self" :=by first | exact QJ rfl | exact QD (QJ rfl) | exact QD (QD rfl)) (v1:Vis X.env.scope "fact" :=by first | exact QJ rfl | exact QD (QJ rfl) | exact QD (QD rfl))
  (hb1:attributeBase (.Name "self" p1) "rows" X.env (eval (.Name "self" p1) X.env)=eval (.Name "self" p1) X.env:=by rfl)
  (hs1:starEach [ek,.List [] p4] X.env=[(false,eval ek X.env),(false,eval (.List [] p4) X.env)]:=by rfl) (hs2:starEach [.List [] p4] X.env=[(false,eval (.List [] p4) X.env)]:=by rfl)
  (hb2:attributeBase (.Attribute (.Name "self" p1) "rows" p2) "setdefault" X.env (eval (.Attribute (.Name "self" p1) "rows" p2) X.env)=eval (.Attribute (.Name "self" p1) "rows" p2) X.env:=by rfl)
  (hf2:((backTo p5 (starEach [ek,.List [] p4] X.env)).all (λx=> !x.1) && (backToKw p5 (keywordEach [] X.env)).all (λx=>x.1.isSome) && decide ([ek,Expr.List [] p4].length+([]:List Keyword).length+(if ([]:List Keyword).isEmpty then 0 else 1) < 30))=true:=by rfl)
  (hl2:(p3.endLine == p5.line)=true:=by rfl) (hp2:(backTo p5 (starEach [.List [] p4] X.env)).any (·.1)=false:=by rfl)
  (hb3:attributeBase (.Call (.Attribute (.Attribute (.Name "self" p1) "rows" p2) "setdefault" p3) [ek,.List [] p4] [] p5) "append" X.env (eval (.Call (.Attribute (.Attribute (.Name "self" p1) "rows" p2) "setdefault" p3) [ek,.List [] p4] [] p5) X.env)=eval (.Call (.Attribute (.Attribute (.Name "self" p1) "rows" p2) "setdefault" p3) [ek,.List [] p4] [] p5) X.env:=by rfl)
  (hf3:((backTo p8 (starEach [.Name "fact" p7] X.env)).all (λx=> !x.1) && (backToKw p8 (keywordEach [] X.env)).all (λx=>x.1.isSome) && decide ([Expr.Name "fact" p7].length+([]:List Keyword).length+(if ([]:List Keyword).isEmpty then 0 else 1) < 30))=true:=by rfl)
  (hl3:(p6.endLine == p8.line)=true:=by rfl) (hs3:starEach [.Name "fact" p7] X.env=[(false,eval (.Name "fact" p7) X.env)]:=by rfl)
  (hsw:swapsWith (.Call (.Attribute (.Call (.Attribute (.Attribute (.Name "self" p1) "rows" p2) "setdefault" p3) [ek,.List [] p4] [] p5) "append" p6) [.Name "fact" p7] [] p8) none pos.line X.env=pure false:=by rfl) :
  PS X (.Expr (.Call (.Attribute (.Call (.Attribute (.Attribute (.Name "self" p1) "rows" p2) "setdefault" p3) [ek,.List [] p4] [] p5) "append" p6) [.Name "fact" p7] [] p8) pos) (λDd σ H=>EnvIs X.K H σ ρ /\
   ∃ (C p t r:Addr) (th:List D) (as:List Addr) (ks:List D) (bs ls:List Addr) (rs:List (List D)) (f:V) (fd:D),σ[0]? =some (some (.ref p))/\σ[1]? =some (some f)/\Cls X.K C/\NoAttr X.K C "rows" /\Sh X.w X.K C H p t r th as ks bs ls rs/\Is X.K H fd f/\LF fd=true/\XKey key /\
    ks.length < 100000/\(∀ r∈rs,r.length < 100000)/\ ∀ H' bs' ls',Sh X.w X.K C H' p t r th as (JL fd (ks,rs) key).1 bs' ls' (JL fd (ks,rs) key).2->ShK H H' t r ls ls'->Dd.nx σ H'):=by
 refine (YW (Qc3 (T:= "list") Ye PySem.F.slot_list_append PySem.F.type_list_append Qcb (Qp6 Wb Uf (Qkj hu) (Qpa (Wr h0 v0) hb1) (Ws hk.pe (Ws (Qp8 Z8) Z8 hs2) (by rw [hs1,hs2])) hb2 hf2 hl2 (by rw [hs1,hs2]) hp2) (Ws (Wr h1 v1) Z8 hs3) hb3 hf3 hl3 hs3 rfl) hsw).imp λD σ H q=> ?_
 obtain ⟨he,C,p,t,r,th,as,ks,bs,ls,rs,f,fd,s0,s1,cl,na,S,ifd,lf,xk,n1,n2,go⟩:=q;obtain ⟨dx,ei⟩:=S.ins;have z1:(100000:Nat)<=sizeLine:=by rw [Jb];decide
 refine ⟨_,s0,p,C,dx,_,.ref r,rfl,ei,cl,na,rfl,⟨r,_,bs,_,rfl,.inl S.ro⟩,he,λkv H1 sm ik=>⟨by show 0<=sizeLine;exact Qz _,λl0 nl=> ?_⟩⟩;obtain ⟨a,rfl⟩:=Is.key_ref xk ik;have sm2:Same H (upd H1 l0 (.lst [])):=sm.trans (Same.upd nl);have S2:=S.same sm2;refine ⟨r,a,ks,bs,ls.map .ref,key,.ref l0,rfl,rfl,⟨S2.ro,S.roN,S.roO,S2.roI,by omega⟩,xk,ik.same (Same.upd nl),λn z hn hz=> ?_,λhk'=> ?_⟩
 ·rw [Qe] at hz;cases ql:ls[n]? with
  | none=>rw [ql] at hz;cases hz
  | some l =>
   rw [ql] at hz;cases hz;have Ks:=(Q4.mp ql).1;obtain ⟨us,e1,e2,e3⟩:=S2.rows n l _ ql (Qc (by rw [<- S.len];exact Ks));have Kr:=e3.length;have hsm:=n2 _ (WR (show n < rs.length by rw [<- S.len];exact Ks));refine ⟨.inl ⟨rfl,us,SqL.of e1⟩,f,s1,l,us,f,rfl,rfl,e1,by omega,?_⟩;obtain ⟨A1,A2⟩:=S2.old hn ql e1 (ifd.same sm2) lf;exact go _ _ _ A1 (A2.pre sm2)
 ·have hl0:upd H1 l0 (.lst []) l0=some (.lst []):=Vu;have nrl:r≠l0:=Yl S2.ro hl0 (λz=>nomatch z);have hl1:upd (upd H1 l0 (.lst [])) r (DxO r ((ks++[key]).map (J6 X.w)) (bs++[a]) (ls.map .ref++[.ref l0])) l0=some (.lst []):=by rw [Qo nrl.symm];exact hl0
  have h0l:H l0=none:=sm.free nl;refine ⟨.inl ⟨rfl,[],SqL.of hl1⟩,f,s1,l0,[],f,rfl,rfl,hl1,by show 0 < sizeLine;omega,?_⟩;have hnl:l0 ∉ ls:=λz=>by
   obtain ⟨us,e⟩:=S.row z;rw [h0l] at e;cases e
  exact go _ _ _ (S2.new hk' xk (ik.same (Same.upd nl)) hl0 hnl (ifd.same sm2) lf) (S2.newK sm2 hl0 h0l)
end
end L2
set_option maxHeartbeats 4000000
namespace MN
open PySem PyProof.Rows
def Kp (h h':Heap):Prop:= ∀ b o,h.get? b=some o->h'.get? b=some o
section
variable {prog:Program} {w:World} {A:Around} {E:Kf} {s:Shared} {l I S:Addr} {kid:String} {vs:List Value} {R:Result->Shared->Prop} {Q:Kf}
def Turn (prog:Program) (w:World) (A:Around) (s:Shared) (kid:String) (vs:List Value) (kf:Nat->Int):Prop:= ∀ (i:Nat) (v:Value),vs[i]? =some v-> ∀ (h:Heap) (tk:Nat) (Q:Kf),Kp s.heap h ->
 (∀ t tk',Q (.int (kf i) t) { s with heap:=h,toks:=tk' })->wpAny (model prog w) A (call (.builtin kid) [v]) Q (λ_ _=>False) { s with heap:=h,toks:=tk }
theorem Kp.iter {h h':Heap} (k:Kp s.heap h) (hI:s.heap.objs.size<=I) (hk: ∀ b o,b ∉ [I]->h.get? b=some o->h'.get? b=some o):Kp s.heap h':=λb o e=>hk b o (by
 rw [QQ];exact Qp (Qr (Qi e) hI)) (k b o e)
theorem Kp.at {h h':Heap} (k:Kp s.heap h) (hS:s.heap.objs.size<=S) (hs:Heap.SameBut S h h'):Kp s.heap h':=λb o e=>(hs.2 b (Qp (Qr (Qi e) hS))).trans (k b o e)
theorem Qqc (kf:Nat->Int) (hh:A.handled=none) (hl: ∀ h,Kp s.heap h->h.IsList l vs.toArray) (hlI:l≠I) (hSI:S≠I) (zI:s.heap.objs.size<=I) (zS:s.heap.objs.size<=S)
  (turn:Turn prog w A.in1 s kid vs kf)
  (hR: ∀ i v h' tk',vs[i]? =some v->(∀ j,j < vs.length->kf i<=kf j/\(j < i->kf i < kf j))->Kp s.heap h'->R (.ok (.ret v)) { s with heap:=h',toks:=tk' }) :
  ∀ (r j i:Nat) (h:Heap) (tk:Nat) (vb:Value) (tb:Tok) (c:Nat),vs.length - (j+1)=r->j+1<=vs.length->Kp s.heap h ->
   h.get? S=some (seqObj "list" #[vb,.int (kf i) tb] c)->h.IsListIter I l (j+1)->vs[i]? =some vb->i<=j->(∀ j',j'<=j->kf i<=kf j'/\(j' < i->kf i < kf j')) ->
   codeAny (model prog w) A (.builtin "min.loop" ⟨[.ref I,.builtin kid,.ref S],[]⟩) R { s with heap:=h,toks:=tk }:=by
 have hname:(toString "min" ++toString ".loop" :String)= "min.loop" :=by decide
 have W:=Walks.list (prog:=prog) (w:=w) (A:=A.in1) hh I l hlI vs.toArray;have hsz:vs.toArray.size=vs.length:=Ql ..;intro r
 induction r with
 | zero =>
  intro j i h tk vb tb c hr hj F nS hit hvb hij hbest;have hin:j+1=vs.length:=by omega
  refine Wn OH ?_;rw [JP JN _];show wpAny _ A.in1 (seqItems? (.ref S) >>= _) _ _ _;refine Q0 (Jg nS rfl ?_);show wpAny _ A.in1 (tryCatch (pyNext (.ref I)) _ >>= _) _ _ _;refine Q0 (Ub (W.done _ _ _ ⟨by rw [hsz,<- hin];exact hit,hl h F⟩ λh' tk' hk'=> ?_));have F1:=F.iter zI hk';have hS':=hk' S _ (by simpa using hSI) nS;have s1:=QN h' S (Obj.mapSeq λ_=>(#[]:Array Value));show wpAny _ A.in1 (updateSeq S (λ_=> #[]) >>= _) _ _ _;refine Q0 ?_;refine WL hS' rfl (Q0 (ZT (Q3 ?_)));exact hR i vb _ _ hvb (λj' hj'=>hbest j' (by omega)) (F1.at zS s1)
 | succ r ih =>
  intro j i h tk vb tb c hr hj F nS hit hvb hij hbest;have Ks:j+1 < vs.length:=by omega
  refine Wn OH ?_;rw [JP JN _];show wpAny _ A.in1 (seqItems? (.ref S) >>= _) _ _ _;refine Q0 (Jg nS rfl ?_);show wpAny _ A.in1 (tryCatch (pyNext (.ref I)) _ >>= _) _ _ _;refine Q0 (Ub (W.item (j+1) _ _ _ (by rw [hsz];exact Ks) ⟨hit,hl h F⟩ λv h' tk' hP hst' hk'=> ?_));have hv:vs[j+1]? =some v:=by simpa using hP
  have F1:=F.iter zI hk';have nS1:=hk' S _ (by simpa using hSI) nS;show wpAny _ A.in1 (tryCatch (holding [v] (call (.builtin kid) [v])) _ >>= _) _ _ _;refine Q0 (Ub (JH (Jh (turn (j+1) v hv h' tk' _ F1 λt2 tk2=> ?_) (λx s'' he=>he) λ_ _ hF=>hF.elim)));show wpAny _ A.in1 (tryCatch (holding [v,.int (kf (j+1)) t2] (richCompare .Lt (.int (kf (j+1)) t2) (.int (kf i) tb) >>= _)) _ >>= _) _ _ _;refine Q0 (Ub (JH (Q0 (CmpOf.ints_lt (prog:=prog) (w:=w) (A:=A.in1) (P:=λi v=> ∃ t,v= .int (kf i) t) kf (λi v h=>h) (j+1) i _ _ _ _ _ ⟨t2,rfl⟩ ⟨tb,rfl⟩ ?_))));refine Q0 (JH (WO ?_));refine Q0 (ZT (Q3 ?_))
  by_cases hb':kf (j+1) < kf i
  ·have s1:=QN h' S (Obj.mapSeq λ_=> #[v,.int (kf (j+1)) t2]);obtain ⟨c2,hc2⟩: ∃ c2,(h'.update S (Obj.mapSeq λ_=> #[v,.int (kf (j+1)) t2])).get? S=some (seqObj "list" #[v,.int (kf (j+1)) t2] c2):=⟨_,Qss nS1 λ_=> #[v,.int (kf (j+1)) t2]⟩;simp only [hb',decide_true,Wt];refine Q0 ?_;refine WL nS1 rfl (Q0 (ZT ?_));rw [hname];refine Q3 ⟨Wy JN _,ih (j+1) (j+1) _ _ v t2 c2 (by omega) Ks (F1.at zS s1) hc2 ?_ hv (Q5 _) λj' hj'=> ?_⟩
   ·obtain ⟨oI',hoI',hoc,hod⟩:=hst'.1;exact ⟨oI',(s1.2 I hSI.symm).trans hoI',hoc,hod⟩
   ·by_cases e:j'=j+1
    ·subst e;exact ⟨by omega,λ_=>by omega⟩
    ·have hb1:=hbest j' (by omega);have hb2:=hb1.1;exact ⟨by omega,λ_=>by omega⟩
  ·simp only [hb',decide_false,QG,JI];refine Q0 (ZT ?_);rw [hname];refine Q3 ⟨Wy JN _,ih (j+1) i _ _ vb tb c (by omega) Ks F1 nS1 hst'.1 hvb (by omega) λj' hj'=> ?_⟩
   by_cases e:j'=j+1
   ·subst e;exact ⟨by omega,λ_=>by omega⟩
   ·exact hbest j' (by omega)
theorem Qus (kf:Nat->Int) (hh:A.handled=none) (hl:s.heap.IsList l vs.toArray) (Kn:0 < vs.length) (turn:Turn prog w A.in1 s kid vs kf)
  (hQ: ∀ i v h' tk',vs[i]? =some v->(∀ j,j < vs.length->kf i<=kf j/\(j < i->kf i < kf j))->Kp s.heap h'->Q v { s with heap:=h',toks:=tk' }) :
  wpAny (model prog w) A (call (.builtin "min") [.ref l] [(Str.ofString "key",.builtin kid)]) Q E s:=by
 have hname:(toString "min" ++toString ".loop" :String)= "min.loop" :=by decide
 obtain ⟨ol,hol,hol2⟩:=id hl;have hll:l < s.heap.objs.size:=Qi hol;have hlK: ∀ h,Kp s.heap h->h.IsList l vs.toArray:=λh k=>⟨ol,k _ _ hol,hol2⟩
 refine kmb_tree PySem.F.kind_min PySem.F.plain_min PySem.F.entry_min (kmb_min_key _ _) ?_;show wpAny _ A.in1 (Builtin.Builtins.bindParams "min" ["key", "default"] 0 ⟨[],[(Str.ofString "key",.builtin kid)]⟩ >>= _) _ _ s;refine Q0 (Qlf (show Builtin.Builtins.bindParams "min" ["key", "default"] 0 ⟨[],[(Str.ofString "key",.builtin kid)]⟩=pure [some (.builtin kid),none] from rfl) ?_);refine Q0 (Q3 ?_);refine Q0 (Qb7 hl ?_);refine Q0 (wpAny_newList ?_ (Qz _));rw [hname];generalize hh1:s.heap.push { cls:= .type "list_iterator",data:= .fields #[.ref l,.int 0 0] }=h1;have hS:h1.objs.size=s.heap.objs.size+1:=by rw [<- hh1];exact size_push' ..
 have hlI:l≠s.heap.objs.size:=Qp hll;have hSI:h1.objs.size≠s.heap.objs.size:=by rw [hS];exact W1 (JJ _)
 have zS:s.heap.objs.size<=h1.objs.size:=by rw [hS];exact WV _
 have gI1:h1.get? s.heap.objs.size=some { cls:= .type "list_iterator",data:= .fields #[.ref l,.int 0 0] }:=by rw [<- hh1];exact Qd _ rfl
 have K1:Kp s.heap h1:=λb o e=>by rw [<- hh1];exact Q1 _ e
 clear hh1;refine Q3 ⟨Wy JN _,?_⟩;have FH:Kp s.heap (h1.push (seqObj "list" #[] 0)):=λb o e=>Q1 _ (K1 b o e)
 have gI:(h1.push (seqObj "list" #[] 0)).get? s.heap.objs.size=some { cls:= .type "list_iterator",data:= .fields #[.ref l,.int 0 0] }:=Q1 _ gI1;have gS:(h1.push (seqObj "list" #[] 0)).get? h1.objs.size=some (seqObj "list" #[] 0):=Qd _ rfl;have W:=Walks.list (prog:=prog) (w:=w) (A:=A.in1) hh s.heap.objs.size l hlI vs.toArray;have hsz:vs.toArray.size=vs.length:=Ql ..;refine Wn OH ?_;rw [JP JN _];show wpAny _ A.in1 (seqItems? (.ref _) >>= _) _ _ _;refine Q0 (Jg gS rfl ?_);show wpAny _ A.in1 (tryCatch (pyNext (.ref s.heap.objs.size)) _ >>= _) _ _ _;refine Q0 (Ub (W.item 0 _ _ _ (by rw [hsz];exact Kn) ⟨⟨_,gI,rfl,rfl⟩,hlK _ FH⟩ λv h' tk' hP hst' hk'=> ?_));have hv:vs[0]? =some v:=by simpa using hP
 have F1:Kp s.heap h':=FH.iter (Q5 _) hk';have nS1:=hk' h1.objs.size _ (by simpa using hSI) gS;show wpAny _ A.in1 (tryCatch (holding [v] (call (.builtin kid) [v])) _ >>= _) _ _ _;refine Q0 (Ub (JH (Jh (turn 0 v hv h' tk' _ F1 λt2 tk2=> ?_) (λx s'' he=>he) λ_ _ hF=>hF.elim)));have s1:=QN h' h1.objs.size (Obj.mapSeq λ_=> #[v,.int (kf 0) t2]);obtain ⟨c2,hc2⟩: ∃ c2,(h'.update h1.objs.size (Obj.mapSeq λ_=> #[v,.int (kf 0) t2])).get? h1.objs.size=some (seqObj "list" #[v,.int (kf 0) t2] c2):=⟨_,Qss nS1 λ_=> #[v,.int (kf 0) t2]⟩;show wpAny _ A.in1 (updateSeq h1.objs.size (λ_=> #[v,.int (kf 0) t2]) >>= _) _ _ _;refine Q0 ?_;refine WL nS1 rfl ?_;rw [hname];refine Q3 ⟨Wy JN _,Qqc kf hh hlK hlI hSI (Q5 _) zS turn hQ _ 0 0 _ _ v t2 c2 rfl Kn (F1.at zS s1) hc2 ?_ hv (Q5 _) λj' hj'=> ?_⟩
 ·obtain ⟨oI',hoI',hoc,hod⟩:=hst'.1;exact ⟨oI',(s1.2 _ hSI.symm).trans hoI',hoc,hod⟩
 ·have e:j'=0:=by omega
  subst e;exact ⟨by omega,λh=>absurd h (JK _)⟩
end
end MN
namespace WY
open PySem RH
abbrev Gv:=List Str×List Str
instance:DecidableEq At:=λa b=>if h:a.k=b.k/\a.ts=b.ts then isTrue (by cases a;cases b;simp_all) else isFalse (by rintro rfl;exact h ⟨rfl,rfl⟩)
def subst (ks vs:List Str) (t:Str):Str:=if t∈ks then vs.getD (ks.idxOf t) t else t
abbrev sub (g:Gv) (t:Str):Str:=subst g.1 g.2 t
def We (g:Gv) (a:At):At:=⟨a.k,a.ts.map (sub g)⟩
def mapA (σ:Str->Str) (a:At):At:=⟨a.k,a.ts.map σ⟩
section
variable (op:Str->Bool)
def Jk (g:Gv) (p:Str×Str):Option Gv :=
 if op p.1=true then (if p.1∈g.1 then (if sub g p.1=p.2 then some g else none) else some (g.1++[p.1],g.2++[p.2])) else (if p.1=p.2 then some g else none)
def Js (g:Gv):List (Str×Str)->Option Gv
 | []=>some g
 | p::l=>(Jk op g p).bind λg'=>Js g' l
def Jv (g:Gv) (a f:At):Option Gv:=if a.k=f.k/\a.ts.length=f.ts.length then Js op g (a.ts.zip f.ts) else none
def Wi (Kx:List Gv) (a:At) (fs:List At):List Gv:=Kx.flatMap λg=>fs.filterMap (Jv op g a)
def ZN (as:List At) (g:Gv):List At:=as.map (We g)
def W7 (as:List At) (acc:List Gv) (g:Gv):List Gv:=if ZN as g∈acc.map (ZN as) then acc else acc++[g]
def W8 (Kx:List Gv) (as:List At):List Gv:=Kx.foldl (W7 as) []
def ZM (Ky:List At):List Gv->List (At×List At)->List Gv
 | Kx,[]=>Kx
 | Kx,(a,fs)::rest=>ZM Ky (W8 (Wi op Kx a fs) (rest.map (·.1)++Ky)) rest
def WJ (V:List Str) (t:Str):List Str:=if op t=true/\t ∉ V then V++[t] else V
structure GOk (V:List Str) (g:Gv):Prop where
 keys:g.1=V
 len:g.1.length=g.2.length
 nd:V.Nodup
 opn: ∀ x∈V,op x=true
def Agr (σ:Str->Str) (g:Gv):Prop:= ∀ x∈g.1,σ x=sub g x
end
variable {op:Str->Bool} {V:List Str} {g g':Gv} {σ:Str->Str}
theorem Yi {t:Str} (h:t ∉ g.1):sub g t=t:=Qg h
theorem Qjm {t x v:Str} (hl:g.1.length=g.2.length) (h:t∈g.1):sub (g.1++[x],g.2++[v]) t=sub g t:=by
 unfold sub subst;have Ks:=QP h;rw [Qj h,Qj (show t∈g.1++[x] from Ji _ h)];show (g.2++[v]).getD ((g.1++[x]).idxOf t) t=_;rw [Bk,Qj h,Qa,Qa,QU (by omega)]
theorem Qjn {x v:Str} (hl:g.1.length=g.2.length) (h:x ∉ g.1):sub (g.1++[x],g.2++[v]) x=v:=by
 unfold sub subst;rw [Qj (show x∈g.1++[x] by simp)];show (g.2++[v]).getD ((g.1++[x]).idxOf x) x=_;rw [Bk,Qg h];simp [Qa,hl]
theorem Qjo {p:Str×Str} (h:GOk op V g) (e:Jk op g p=some g'):GOk op (WJ op V p.1) g'/\(∀ x∈V,sub g' x=sub g x)/\sub g' p.1=p.2:=by
 unfold Jk at e;obtain ⟨rfl,hl,nd,ho⟩:=h;split at e
 ·rename_i h1;split at e
  ·rename_i h2;split at e
   ·rename_i h3;cases e;rw [show WJ op g.1 p.1=g.1 from Qg λz=>z.2 h2];exact ⟨⟨rfl,hl,nd,ho⟩,λ_ _=>rfl,h3⟩
   ·cases e
  ·rename_i h2;cases e;rw [show WJ op g.1 p.1=g.1++[p.1] from Qj ⟨h1,h2⟩];refine ⟨⟨rfl,by simp [hl],?_,λx hx=> ?_⟩,λx hx=>Qjm hl hx,Qjn hl h2⟩
   ·rw [Jx];exact ⟨nd,by simp,λx hx y hy=>by simp at hy;subst hy;exact λe=>h2 (e ▸ hx)⟩
   ·rcases Qy.mp hx with hx | hx
    ·exact ho x hx
    ·simp at hx;rw [hx];exact h1
 ·rename_i h1;split at e
  ·rename_i h2;cases e;rw [show WJ op g.1 p.1=g.1 from Qg λz=>h1 z.1];exact ⟨⟨rfl,hl,nd,ho⟩,λ_ _=>rfl,by rw [Yi λz=>h1 (ho _ z)];exact h2⟩
  ·cases e
theorem Qh4 {x t:Str} (h:x∈V):x∈WJ op V t:=by
 unfold WJ;split
 ·exact Ji _ h
 ·exact h
theorem Qd5 {t:Str} (h:op t=true):t∈WJ op V t:=by
 unfold WJ
 by_cases hv:t∈V
 ·rw [Qg λz=>z.2 hv];exact hv
 ·rw [Qj ⟨h,hv⟩]
  simp
def Yx (op:Str->Bool) (V:List Str) (ts:List Str):List Str:=ts.foldl (WJ op) V
theorem Bs: ∀ (ts:List Str) {V:List Str} {x:Str},x∈V->x∈Yx op V ts
 | [],_,_,h=>h
 | t::ts,V,x,h=>Bs ts (Qh4 h)
theorem OM: ∀ (ts:List Str) {V:List Str} {x:Str},x∈ts->op x=true->x∈Yx op V ts
 | t::ts,V,x,h,ho=>by
  rcases Qb.mp h with rfl | h
  ·exact Bs ts (Qd5 ho)
  ·exact OM ts h ho
theorem Qi4: ∀ (l:List (Str×Str)) {V:List Str} {g g':Gv},GOk op V g->Js op g l=some g'->GOk op (Yx op V (l.map (·.1))) g'/\(∀ x∈V,sub g' x=sub g x)/\ ∀ p∈l,sub g' p.1=p.2
 | [],V,g,g',h,e=>by
  cases e;exact ⟨h,λ_ _=>rfl,λ_ z=>nomatch z⟩
 | p::l,V,g,g',h,e=>by
  unfold Js at e;cases q:Jk op g p with
  | none=>rw [q] at e;cases e
  | some g1 =>
   rw [q] at e;obtain ⟨h1,h2,h3⟩:=Qjo h q;obtain ⟨k1,k2,k3⟩:=Qi4 l h1 e;refine ⟨k1,λx hx=>(k2 x (Qh4 hx)).trans (h2 x hx),λr hr=> ?_⟩;rcases Qb.mp hr with rfl | hr
   ·by_cases ho:op r.1=true
    ·exact (k2 _ (Qd5 ho)).trans h3
    ·have n1:r.1 ∉ g'.1:=λz=>by rw [k1.keys] at z;exact ho (k1.opn _ z)
     have n2:r.1 ∉ g1.1:=λz=>by rw [h1.keys] at z;exact ho (h1.opn _ z)
     rw [Yi n1];rw [Yi n2] at h3;exact h3
   ·exact k3 r hr
theorem Qt7 {p:Str×Str} (h:GOk op V g) (fix: ∀ t,op t=false->σ t=t) (ag:Agr σ g) (e:σ p.1=p.2): ∃ g',Jk op g p=some g'/\Agr σ g':=by
 unfold Jk
 by_cases h1:op p.1=true
 ·rw [Qj h1]
  by_cases h2:p.1∈g.1
  ·rw [Qj h2,Qj (by rw [<- ag _ h2];exact e)];exact ⟨g,rfl,ag⟩
  ·rw [Qg h2];refine ⟨_,rfl,λx hx=> ?_⟩;rcases Qy.mp hx with hx | hx
   ·rw [Qjm h.len hx];exact ag x hx
   ·simp at hx;subst hx;rw [Qjn h.len h2];exact e
 ·rw [Qg h1,Qj (by rw [<- e,fix _ (by simpa using h1)])];exact ⟨g,rfl,ag⟩
theorem Qoq (fix: ∀ t,op t=false->σ t=t): ∀ (l:List (Str×Str)) {V:List Str} {g:Gv},GOk op V g->Agr σ g->(∀ p∈l,σ p.1=p.2)-> ∃ g',Js op g l=some g'/\Agr σ g'
 | [],V,g,h,ag,_=>⟨g,rfl,ag⟩
 | p::l,V,g,h,ag,hp=>by
  obtain ⟨g1,e1,a1⟩:=Qt7 h fix ag (hp p Q8);obtain ⟨g2,e2,a2⟩:=Qoq fix l (Qjo h e1).1 a1 λq hq=>hp q (Q7 _ hq)
  exact ⟨g2,by unfold Js;rw [e1];exact e2,a2⟩
theorem Qji {α β:Type}: ∀ {a:List α} {b:List β},a.length=b.length->(a.zip b).map (·.1)=a
 | [],[],_=>rfl
 | x::a,y::b,h=>by simp [Qji (a:=a) (b:=b) (by simpa using h)]
 | [],_::_,h=>by simp at h
 | _::_,[],h=>by simp at h
theorem Qkk {α β:Type} {f:α->β}: ∀ {a:List α} {b:List β},a.length=b.length->(∀ p∈a.zip b,f p.1=p.2)->a.map f=b
 | [],[],_,_=>rfl
 | x::a,y::b,h,hp=>by
  rw [Qk,hp (x,y) (by simp),Qkk (by simpa using h) λp q=>hp p (by simp [q])]
 | [],_::_,h,_=>by simp at h
 | _::_,[],h,_=>by simp at h
theorem Qjg {α β:Type} {f:α->β}: ∀ {a:List α},∀ p∈a.zip (a.map f),f p.1=p.2
 | x::a,p,h=>by
  rw [Qk,JG] at h;rcases Qb.mp h with rfl | h
  ·rfl
  ·exact Qjg p h
theorem YH {a f:At} (h:GOk op V g) (e:Jv op g a f=some g'):GOk op (Yx op V a.ts) g'/\(∀ x∈V,sub g' x=sub g x)/\We g' a=f:=by
 unfold Jv at e;split at e
 ·rename_i hk;obtain ⟨h1,h2,h3⟩:=Qi4 _ h e;rw [Qji hk.2] at h1;refine ⟨h1,h2,?_⟩;cases f;unfold We;rw [Qkk hk.2 h3,hk.1]
 ·cases e
theorem Qqg {a:At} (fix: ∀ t,op t=false->σ t=t) (h:GOk op V g) (ag:Agr σ g): ∃ g',Jv op g a (mapA σ a)=some g'/\Agr σ g':=by
 unfold Jv;rw [Qj ⟨rfl,by simp [mapA]⟩];exact Qoq fix _ h ag λp hp=>Qjg p hp
theorem GH {as:List At}: ∀ {l acc:List Gv} {g:Gv},g∈l.foldl (W7 as) acc->g∈acc \/ g∈l
 | [],acc,g,h=> .inl h
 | x::l,acc,g,h=>by
  rcases GH (l:=l) h with h | h
  ·unfold W7 at h;split at h
   ·exact .inl h
   ·rcases Qy.mp h with h | h
    ·exact .inl h
    ·simp at h;exact .inr (h ▸ Q8)
  ·exact .inr (Q7 _ h)
theorem OP {as:List At}: ∀ {l acc:List Gv} {g:Gv},g∈acc->g∈l.foldl (W7 as) acc
 | [],acc,g,h=>h
 | x::l,acc,g,h=>OP (l:=l) (by
  unfold W7;split
  ·exact h
  ·exact Ji _ h)
theorem Qf2 {as:List At}: ∀ {l acc:List Gv} {g:Gv},g∈l-> ∃ g'∈l.foldl (W7 as) acc,ZN as g'=ZN as g
 | x::l,acc,g,h=>by
  rcases Qb.mp h with rfl | h
  ·by_cases hk:ZN as g∈acc.map (ZN as)
   ·obtain ⟨g',h1,h2⟩:=Q6.mp hk;exact ⟨g',OP (l:=l) (by unfold W7;rw [Qj hk];exact h1),h2⟩
   ·exact ⟨g,OP (l:=l) (by unfold W7;rw [Qg hk];simp),rfl⟩
  ·exact Qf2 (l:=l) h
theorem Uv {Kx:List Gv} {a:At} {fs:List At}:g'∈Wi op Kx a fs ↔ ∃ g∈Kx,∃ f∈fs,Jv op g a f=some g':=by
 unfold Wi;simp [Zw,Z0]
theorem Qnl {V':List Str} {a:At} (h1:GOk op V g) (h2:GOk op V' g') (hx: ∀ x∈V,sub g' x=sub g x) (ha: ∀ t∈a.ts,op t=true->t∈V):We g' a=We g a:=by
 unfold We;congr 1;refine QV λt ht=> ?_
 by_cases ho:op t=true
 ·exact hx t (ha t ht ho)
 ·have n1:t ∉ g.1:=λz=>by rw [h1.keys] at z;exact ho (h1.opn _ z)
  have n2:t ∉ g'.1:=λz=>by rw [h2.keys] at z;exact ho (h2.opn _ z)
  rw [Yi n1,Yi n2]
theorem Qh0 {Ky:List At}: ∀ (order:List (At×List At)) {Kx:List Gv} {V:List Str} {done:List (At×List At)},(∀ g∈Kx,GOk op V g)->(∀ g∈Kx,∀ q∈done,We g q.1∈q.2)->(∀ q∈done,∀ t∈q.1.ts,op t=true->t∈V) ->
  ∀ g∈ZM op Ky Kx order,∃ V',GOk op V' g/\(∀ q∈done,We g q.1∈q.2)/\ ∀ q∈order,We g q.1∈q.2
 | [],Kx,V,done,hg,hp,_,g,h=>⟨V,hg g h,hp g h,λ_ z=>nomatch z⟩
 | (a,fs)::rest,Kx,V,done,hg,hp,hd,g,h=>by
  have part: ∀ g1∈W8 (Wi op Kx a fs) (rest.map (·.1)++Ky),GOk op (Yx op V a.ts) g1/\(∀ q∈done,We g1 q.1∈q.2)/\We g1 a∈fs:=λg1 h1=>by
   rcases GH h1 with z | z
   ·cases z
   ·obtain ⟨g0,k1,f,k2,k3⟩:=Uv.mp z;obtain ⟨m1,m2,m3⟩:=YH (hg g0 k1) k3;exact ⟨m1,λq hq=>by rw [Qnl (hg g0 k1) m1 m2 (hd q hq)];exact hp g0 k1 q hq,by rw [m3];exact k2⟩
  obtain ⟨V',h1,h2,h3⟩:=Qh0 (Ky:=Ky) rest (Kx:=W8 (Wi op Kx a fs) (rest.map (·.1)++Ky)) (V:=Yx op V a.ts) (done:=(a,fs)::done) (λg1 z=>(part g1 z).1)
   (λg1 z q hq=>by
    rcases Qb.mp hq with rfl | hq
    ·exact (part g1 z).2.2
    ·exact (part g1 z).2.1 q hq)
   (λq hq t ht ho=>by
    rcases Qb.mp hq with rfl | hq
    ·exact OM _ ht ho
    ·exact Bs _ (hd q hq t ht ho)) g h
  refine ⟨V',h1,λq hq=>h2 q (Q7 _ hq),λq hq=> ?_⟩;rcases Qb.mp hq with rfl | hq
  ·exact h2 _ Q8
  ·exact h3 q hq
theorem Qqi {f g:Str->Str}: ∀ {l:List Str},l.map f=l.map g-> ∀ t∈l,f t=g t
 | x::l,h,t,ht=>by
  simp only [Qk,Qsw] at h;rcases Qb.mp ht with rfl | ht
  ·exact h.1
  ·exact Qqi h.2 t ht
theorem Qh1 {Ky:List At}: ∀ (order:List (At×List At)) {Kx:List Gv} {V:List Str} {σ:Str->Str},(∀ g∈Kx,GOk op V g)->(∀ t,op t=false->σ t=t)->(∃ g∈Kx,Agr σ g)->(∀ q∈order,mapA σ q.1∈q.2) ->
  ZM op Ky Kx order≠[]
 | [],Kx,V,σ,hg,_,⟨g,h,_⟩,_,e=>by
  have:Kx=[]:=e;rw [this] at h;cases h
 | (a,fs)::rest,Kx,V,σ,hg,fix,⟨g,h,ag⟩,ho,e=>by
  obtain ⟨g1,e1,a1⟩:=Qqg (a:=a) fix (hg g h) ag;have hj:g1∈Wi op Kx a fs:=Uv.mpr ⟨g,h,_,ho (a,fs) Q8,e1⟩;have ok: ∀ g2∈W8 (Wi op Kx a fs) (rest.map (·.1)++Ky),GOk op (Yx op V a.ts) g2:=λg2 h2=>by
   rcases GH h2 with z | z
   ·cases z
   ·obtain ⟨g0,k1,f,k2,k3⟩:=Uv.mp z;exact (YH (hg g0 k1) k3).1
  have o1:=(YH (hg g h) e1).1;obtain ⟨g2,h2,k2⟩:=Qf2 (as:=rest.map (·.1)++Ky) (acc:=[]) hj;have o2:=ok g2 h2;refine Qh1 (Ky:=Ky) rest (V:=Yx op V a.ts) (σ:=λt=>if t∈g2.1 then sub g2 t else σ t) ok (λt ht=> ?_) ⟨g2,h2,λx hx=>Qj hx⟩ (λq hq=> ?_) e
  ·show (if t∈g2.1 then sub g2 t else σ t)=t;rw [Qg λz=>by rw [o2.keys] at z;rw [o2.opn _ z] at ht;cases ht];exact fix t ht
  ·have hk:We g2 q.1=We g1 q.1:=by
    have hm:q.1∈rest.map (·.1)++Ky:=Ji _ (Q6.mpr ⟨q,hq,rfl⟩);unfold ZN at k2;obtain ⟨i,hi⟩:=J1.mp hm;have:=WE (λz:List At=>z[i]?) k2;rw [Qe,Qe,hi] at this;exact J4 this
   have:mapA (λt=>if t∈g2.1 then sub g2 t else σ t) q.1=mapA σ q.1:=by
    unfold mapA;congr 1;refine QV λt ht=> ?_
    split
    ·rename_i z;have e3:=Qqi (At.mk.inj hk).2 t ht;rw [e3];refine (a1 t ?_).symm;rw [o1.keys,<- o2.keys];exact z
    ·rfl
   rw [this];exact ho q (Q7 _ hq)
theorem Qnm {Ky:List At} {order:List (At×List At)}:ZM op Ky [([],[])] order≠[] ↔ ∃ σ:Str->Str,(∀ t,op t=false->σ t=t)/\ ∀ q∈order,mapA σ q.1∈q.2:=by
 have g0: ∀ g∈[(([],[]):Gv)],GOk op [] g:=λg hg=>by
  simp at hg;subst hg;exact ⟨rfl,rfl,JA,λ_ z=>nomatch z⟩
 constructor
 ·intro h;obtain ⟨g,hg⟩:=List.exists_mem_of_ne_nil _ h;obtain ⟨V,h1,_,h2⟩:=Qh0 (Ky:=Ky) order (done:=[]) g0 (λ_ _ _ z=>nomatch z) (λ_ z=>nomatch z) g hg;refine ⟨sub g,λt ht=>Yi λz=> ?_,h2⟩;rw [h1.keys] at z;rw [h1.opn _ z] at ht;cases ht
 ·rintro ⟨σ,fix,h⟩;exact Qh1 order g0 fix ⟨_,Q8,λ_ z=>nomatch z⟩ h
theorem OO {as:List At}: ∀ (l acc:List Gv),(l.foldl (W7 as) acc).length<=acc.length+l.length
 | [],acc=>by simp
 | x::l,acc=>by
  have h:=OO (as:=as) l (W7 as acc x);have:(W7 as acc x).length<=acc.length+1:=by
   unfold W7;split<;>simp
  simp only [QY,Qq];omega
theorem B5 {a:At} {fs:List At}: ∀ (Kx:List Gv),(Wi op Kx a fs).length<=Kx.length * fs.length
 | []=>by simp [Wi]
 | g::Kx=>by
  have h:=B5 (a:=a) (fs:=fs) Kx;have h2:(fs.filterMap (Jv op g a)).length<=fs.length:=List.length_filterMap_le _ _;unfold Wi at h ⊢;rw [Bl,Qs,Qq,Nat.succ_mul];omega
end WY
namespace WY
open PySem RH L2
def WN (a:At):List D:= .tup [.str a.k]::(a.ts.zipIdx.map λp=> .tup [.str a.k,.int p.2,.str p.1])
noncomputable def Yz (fs:List At) (key:D):List At:=fs.filter λf=>decide (key∈WN f)
def places (op:Str->Bool) (a:At):List D:= .tup [.str a.k]::((a.ts.zipIdx.filter λp=> !op p.1).map λp=> .tup [.str a.k,.int p.2,.str p.1])
def Qqe:List (List At)->List At
 | []=>[]
 | r::rs=>rs.foldl (λb r=>if r.length < b.length then r else b) r
noncomputable def Yk (op:Str->Bool) (fs:List At) (a:At) (g:Gv):List At:=Qqe ((places op (We g a)).map (Yz fs))
theorem Qqd: ∀ {l:List (List At)},l≠[]->Qqe l∈l
 | [],h=>absurd rfl h
 | r::rs,_=>by
  have key: ∀ (rs:List (List At)) (b:List At) (l:List (List At)),b∈l->(∀ x∈rs,x∈l)->rs.foldl (λb r=>if r.length < b.length then r else b) b∈l:=by
   intro rs
   induction rs with
   | nil=>intro b l hb _;exact hb
   | cons x rs ih =>
    intro b l hb hx;refine ih _ l ?_ λy hy=>hx y (Q7 _ hy)
    show (if x.length < b.length then x else b)∈l;split
    ·exact hx x Q8
    ·exact hb
  exact key rs r (r::rs) Q8 λx hx=>Q7 _ hx
variable {op:Str->Bool} {V:List Str} {g g':Gv}
theorem Qmn {a f:At} (h:GOk op V g) (e:Jv op g a f=some g') {key:D} (hk:key∈places op (We g a)):key∈WN f:=by
 obtain ⟨h1,h2,h3⟩:=YH h e;subst h3;unfold places at hk;unfold WN;rcases Qb.mp hk with rfl | hk
 ·exact Q8
 ·obtain ⟨⟨t,i⟩,hp,rfl⟩:=Q6.mp hk;obtain ⟨hp1,hp2⟩:=Wc.mp hp;refine Q7 _ (Q6.mpr ⟨(t,i),?_,rfl⟩);rw [List.mem_zipIdx_iff_getElem?] at hp1 ⊢;have hp1':(a.ts.map (sub g))[i]? =some t:=hp1;show (a.ts.map (sub g'))[i]? =some t;rw [Qe] at hp1' ⊢;cases q:a.ts[i]? with
  | none=>rw [q] at hp1';cases hp1'
  | some x =>
   rw [q] at hp1';have et:sub g x=t:=J4 hp1';show some (sub g' x)=some t;congr 1
   by_cases hx:x∈V
   ·rw [h2 x hx];exact et
   ·have hx1:x ∉ g.1:=by rw [h.keys];exact hx
    rw [Yi hx1] at et;subst et;have ho:op x=false:=by simpa using hp2
    exact Yi λz=>by rw [h1.keys] at z;rw [h1.opn _ z] at ho;cases ho
theorem Qaa (fs:List At) (a:At) (g:Gv): ∃ key∈places op (We g a),Yk op fs a g=Yz fs key:=by
 have h:=Qqd (l:=(places op (We g a)).map (Yz fs)) (by simp [places]);obtain ⟨key,h1,h2⟩:=Q6.mp h;exact ⟨key,h1,h2.symm⟩
theorem Qif {a:At} (h:GOk op V g) (fs:List At):(Yk op fs a g).filterMap (Jv op g a)=fs.filterMap (Jv op g a):=by
 obtain ⟨key,h1,h2⟩:=Qaa (op:=op) fs a g;rw [h2];unfold Yz;rw [List.filterMap_filter];have key: ∀ l:List At,(l.filterMap λx=>if decide (key∈WN x)=true then Jv op g a x else none)=l.filterMap (Jv op g a):=λl=>by
  induction l with
  | nil=>rfl
  | cons x l ih =>
   rw [JQ,JQ,ih];have e:(if decide (key∈WN x)=true then Jv op g a x else none)=Jv op g a x:=by
    split
    ·rfl
    ·rename_i hn;cases q:Jv op g a x with
     | none=>rfl
     | some g'=>exact absurd (Qmn h q h1) (by simpa using hn)
   rw [e]
 exact key fs
theorem Qq3 {a:At} {fs:List At} {f:At} (h:f∈Yk op fs a g):f∈fs:=by
 obtain ⟨key,h1,h2⟩:=Qaa (op:=op) fs a g;rw [h2] at h;exact (Wc.mp h).1
end WY
namespace L2
open PySem PySem.Spec PyProof.Rows
section
variable {X:Cx} {H₀:Hp} {τ:List Sl} {ds as bs:List D} {pos:Pos} {m:Bool}
theorem Qui {e1 e2:Expr} {x y:Str} {px py tp cp ep:Pos} {tk:Nat} {body:List Stmt} {jx jy:Nat} (Kq:Nat->List Sl) (hp:PassesOwn (model X.prog X.w) X.A X.env X.xe) (hc:X.calm=true) (hm:X.mg "zip" =none) (h1:PD X (dat τ) e1 (.tup as)) (h2:PD X (dat τ) e2 (.tup bs))
  (l1:LFs as=true) (l2:LFs bs=true)
  (h0:Kq 0=τ) (hb: ∀ (i:Nat) (u v:D),as[i]? =some u->bs[i]? =some v-> ∃ n,QOs X H₀ (((Kq i).set jx (.any u)).set jy (.any v)) body (.next n (Kq (i+1)))/\(m=true->n=true))
  (hN:X.N.Nodup) (hx:X.N[jx]? =some x:=by rfl) (hy:X.N[jy]? =some y:=by rfl) (lx:Loc X.env.scope x:=by first | exact QJ rfl | exact QD rfl) (ly:Loc X.env.scope y:=by first | exact QJ rfl | exact QD rfl)
  (fx:X.fn x=true \/ X.env.scope.names.lookup x=some .local:=by first | exact .inl rfl | exact .inr rfl) (fy:X.fn y=true \/ X.env.scope.names.lookup y=some .local:=by first | exact .inl rfl | exact .inr rfl)
  (hg:Gl X "zip" :=by rfl) (hs:starEach [e1,e2] X.env=[(false,eval e1 X.env),(false,eval e2 X.env)]:=by rfl) (hs2:starEach [e2] X.env=[(false,eval e2 X.env)]:=by rfl)
  (hf: ∀ v,foldedSetIterable (.Call (.Name "zip" ep) [e1,e2] [] cp) X.env v=pure v:=by intro _;rfl) :
  QO X H₀ τ (.For (.Tuple [.Name x px,.Name y py] tk tp) (.Call (.Name "zip" ep) [e1,e2] [] cp) body [] pos) (.next m (Kq (min as.length bs.length))):=by
 have hb':PSs X body (λD σ H=> ∃ i u v,as[i]? =some u/\bs[i]? =some v/\rdO X.K H₀ (((Kq i).set jx (.any u)).set jy (.any v)) (.next m (Kq (i+1))) D σ H):=λKz s σ H D I ⟨i,u,v,hu,hv,q⟩=>by
  obtain ⟨n,hq,hn⟩:=hb i u v hu hv;exact hq.pe Kz s σ H D I ⟨q.1,λKt H' t=>q.2 Kt H' (t.weak hn)⟩
 refine ⟨(Yv hp hc (Qp4 hg hm (Vc h1 (Vc h2 Vn hs2) (by rw [hs,hs2])).pe hs hs2) (Gk (n:=2) hc (Vh (Jr (i:=jx) hN hx lx fx) (Vh (Jr (i:=jy) hN hy ly fy) YY))) hb' hf).imp λD σ H q=> ?_⟩;refine ⟨q.1.env,λvs H2 s2 ia=> ?_⟩;obtain ⟨v1,v2,rfl,iv1,iv2⟩:=ia.two;obtain ⟨p1,vs1,rfl,hq1,ia1⟩:=JB iv1;obtain ⟨p2,vs2,rfl,hq2,ia2⟩:=JB iv2;have e1:=ia1.length;have e2:=ia2.length;refine ⟨p1,p2,rfl,⟨vs1,hq1⟩,⟨vs2,hq2⟩,λi k Kt H'=>i<=min as.length bs.length/\k=min as.length bs.length - i/\EnvO X.K H₀ H' Kt (Kq i)/\Rl m H H'/\TSame H2 H',⟨min as.length bs.length,Qz _,rfl,by rw [h0];exact q.1.step s2,.of s2,TSame.refl _⟩,?_⟩;rintro i k Kt H' ⟨hi,rfl,he,hm',st⟩
 by_cases Ks:i < min as.length bs.length
 ·refine .inr ⟨⟨vs1,vs2,vs1[i]'(by omega),vs2[i]'(by omega),st.sqT hq1,st.sqT hq2,by simp,by simp⟩,λσ2 H3=>EnvO X.K H₀ H3 σ2 (Kq (i+1))/\Rl m H' H3,λσ2 H3 ⟨he2,hm2⟩=>⟨min as.length bs.length - (i+1),by omega,Ks,rfl,he2,?_,st.trans hm2.t⟩,λv H3 yl=> ?_⟩
  ·have:=hm'.trans hm2;rwa [Wm] at this
  obtain ⟨p,u,w,rfl,np,rfl,hu,hw⟩:=yl;obtain ⟨du,hdu,idu⟩:=(ia1.tsame st l1).at (hu vs1 (st.sqT hq1));obtain ⟨dw,hdw,idw⟩:=(ia2.tsame st l2).at (hw vs2 (st.sqT hq2));have s3:Same H' (upd H' p (.tup [u,w])):=Same.upd np;refine ⟨p,[u,w],rfl,.inl (.inl Vu),rfl,u,[w],rfl,w,[],rfl,rfl,i,du,dw,hdu,hdw,?_,λσ3 H4 t3 he3=>⟨he3,?_⟩⟩
  ·exact ((he.step s3).set (s:= .any du) jx ⟨u,rfl,idu.same s3⟩ λKo e=>nomatch e).set (s:= .any dw) jy ⟨w,rfl,idw.same s3⟩ λKo e=>nomatch e
  ·have:=(Rl.of (m:=m) s3).trans t3;rwa [Wm] at this
 ·have e:i=min as.length bs.length:=by omega
  subst e;exact .inl ⟨⟨vs1,vs2,st.sqT hq1,st.sqT hq2,by omega⟩,q.2 Kt H' hm' he⟩
theorem Qpy {e1 e2:Expr} {x y:Str} {px py tp cp ep:Pos} {tk:Nat} {body:List Stmt} {jx jy:Nat} (Kq:Nat->List Sl) (i0:Nat) {u0 v0:D} {d:D} (hu0:as[i0]? =some u0) (hv0:bs[i0]? =some v0) (hp:PassesOwn (model X.prog X.w) X.A X.env X.xe) (hc:X.calm=true) (hm:X.mg "zip" =none) (h1:PD X (dat τ) e1 (.tup as)) (h2:PD X (dat τ) e2 (.tup bs))
  (l1:LFs as=true) (l2:LFs bs=true)
  (h0:Kq 0=τ) (hb: ∀ (i:Nat) (u v:D),i < i0->as[i]? =some u->bs[i]? =some v-> ∃ n,QOs X H₀ (((Kq i).set jx (.any u)).set jy (.any v)) body (.next n (Kq (i+1)))/\(m=true->n=true)) (hret:QOs X H₀ (((Kq i0).set jx (.any u0)).set jy (.any v0)) body (.ret d))
  (hN:X.N.Nodup) (hx:X.N[jx]? =some x:=by rfl) (hy:X.N[jy]? =some y:=by rfl) (lx:Loc X.env.scope x:=by first | exact QJ rfl | exact QD rfl) (ly:Loc X.env.scope y:=by first | exact QJ rfl | exact QD rfl)
  (fx:X.fn x=true \/ X.env.scope.names.lookup x=some .local:=by first | exact .inl rfl | exact .inr rfl) (fy:X.fn y=true \/ X.env.scope.names.lookup y=some .local:=by first | exact .inl rfl | exact .inr rfl)
  (hg:Gl X "zip" :=by rfl) (hs:starEach [e1,e2] X.env=[(false,eval e1 X.env),(false,eval e2 X.env)]:=by rfl) (hs2:starEach [e2] X.env=[(false,eval e2 X.env)]:=by rfl)
  (hf: ∀ v,foldedSetIterable (.Call (.Name "zip" ep) [e1,e2] [] cp) X.env v=pure v:=by intro _;rfl) :
  QO X H₀ τ (.For (.Tuple [.Name x px,.Name y py] tk tp) (.Call (.Name "zip" ep) [e1,e2] [] cp) body [] pos) (.ret d):=by
 have hb':PSs X body (λD σ H=>(∃ i u v,i < i0/\as[i]? =some u/\bs[i]? =some v/\rdO X.K H₀ (((Kq i).set jx (.any u)).set jy (.any v)) (.next m (Kq (i+1))) D σ H) \/ rdO X.K H₀ (((Kq i0).set jx (.any u0)).set jy (.any v0)) (.ret d) D σ H):=λKz s σ H D I q=>by
  rcases q with ⟨i,u,v,Ks,hu,hv,q⟩ | q
  ·obtain ⟨n,hq,hn⟩:=hb i u v Ks hu hv;exact hq.pe Kz s σ H D I ⟨q.1,λKt H' t=>q.2 Kt H' (t.weak hn)⟩
  ·exact hret.pe Kz s σ H D I q
 have hl0:i0 < as.length:=(Q4.mp hu0).1;have hl1:i0 < bs.length:=(Q4.mp hv0).1;refine ⟨(Yv hp hc (Qp4 hg hm (Vc h1 (Vc h2 Vn hs2) (by rw [hs,hs2])).pe hs hs2) (Gk (n:=2) hc (Vh (Jr (i:=jx) hN hx lx fx) (Vh (Jr (i:=jy) hN hy ly fy) YY))) hb' hf).imp λD σ H q=> ?_⟩;refine ⟨q.1.env,λvs H2 s2 ia=> ?_⟩;obtain ⟨v1,v2,rfl,iv1,iv2⟩:=ia.two;obtain ⟨p1,vs1,rfl,hq1,ia1⟩:=JB iv1;obtain ⟨p2,vs2,rfl,hq2,ia2⟩:=JB iv2;have e1:=ia1.length;have e2:=ia2.length;refine ⟨p1,p2,rfl,⟨vs1,hq1⟩,⟨vs2,hq2⟩,λi k Kt H'=>i<=i0/\k=i0 - i/\EnvO X.K H₀ H' Kt (Kq i)/\Rl m H H'/\TSame H2 H',⟨i0,Qz _,rfl,by rw [h0];exact q.1.step s2,.of s2,TSame.refl _⟩,?_⟩;rintro i k Kt H' ⟨hi,rfl,he,hm',st⟩
 by_cases Ks:i < i0
 ·refine .inr ⟨⟨vs1,vs2,vs1[i]'(by omega),vs2[i]'(by omega),st.sqT hq1,st.sqT hq2,by simp,by simp⟩,λσ2 H3=>EnvO X.K H₀ H3 σ2 (Kq (i+1))/\Rl m H' H3,λσ2 H3 ⟨he2,hm2⟩=>⟨i0 - (i+1),by omega,Ks,rfl,he2,?_,st.trans hm2.t⟩,λv H3 yl=> ?_⟩
  ·have:=hm'.trans hm2;rwa [Wm] at this
  obtain ⟨p,u,w,rfl,np,rfl,hu,hw⟩:=yl;obtain ⟨du,hdu,idu⟩:=(ia1.tsame st l1).at (hu vs1 (st.sqT hq1));obtain ⟨dw,hdw,idw⟩:=(ia2.tsame st l2).at (hw vs2 (st.sqT hq2));have s3:Same H' (upd H' p (.tup [u,w])):=Same.upd np;refine ⟨p,[u,w],rfl,.inl (.inl Vu),rfl,u,[w],rfl,w,[],rfl,rfl,.inl ⟨i,du,dw,Ks,hdu,hdw,?_,λσ3 H4 t3 he3=>⟨he3,?_⟩⟩⟩
  ·exact ((he.step s3).set (s:= .any du) jx ⟨u,rfl,idu.same s3⟩ λKo e=>nomatch e).set (s:= .any dw) jy ⟨w,rfl,idw.same s3⟩ λKo e=>nomatch e
  ·have:=(Rl.of (m:=m) s3).trans t3;rwa [Wm] at this
 ·have e0:i=i0:=by omega
  subst e0;refine .inr ⟨⟨vs1,vs2,vs1[i]'(by omega),vs2[i]'(by omega),st.sqT hq1,st.sqT hq2,by simp,by simp⟩,λ_ _=>False,λ_ _ z=>z.elim,λv H3 yl=> ?_⟩;obtain ⟨p,u,w,rfl,np,rfl,hu,hw⟩:=yl;obtain ⟨du,hdu,idu⟩:=(ia1.tsame st l1).at (hu vs1 (st.sqT hq1));obtain ⟨dw,hdw,idw⟩:=(ia2.tsame st l2).at (hw vs2 (st.sqT hq2));rw [hu0] at hdu;cases hdu;rw [hv0] at hdw;cases hdw;have s3:Same H' (upd H' p (.tup [u,w])):=Same.upd np;refine ⟨p,[u,w],rfl,.inl (.inl Vu),rfl,u,[w],rfl,w,[],rfl,rfl,.inr ⟨?_,q.2⟩⟩;exact ((he.step s3).set (s:= .any u0) jx ⟨u,rfl,idu.same s3⟩ λKo e=>nomatch e).set (s:= .any v0) jy ⟨w,rfl,idw.same s3⟩ λKo e=>nomatch e
end
theorem Qda {vs:List (Key×Value)} {k:Key} (h:valueAt vs k=none):vs.any (λkv=>decide (kv.1=k))=false:=by
 unfold valueAt at h;rw [Option.map_eq_none_iff,List.find?_eq_none] at h;rw [List.any_eq_false];intro x hx;have:=h x hx;simpa using this
section
variable {X:Cx} {H₀:Hp} {τ:List Sl} {pos:Pos}
def Qzs:V->List V->Hp->VK->Prop:=λx xs H Q=> ∃ (a:Addr) (Ku:List (Key×V)) (k w:Str),x= .ref a/\xs=[.str k,.str w]/\H a=some (.dK Ku)/\Ku.length < sizeLine /\
 (∀ v,Uh Ku (.inr k)=some v->Q v H)/\(Uh Ku (.inr k)=none->Q (.str w) (upd H a (.dK (Ku++[(.inr k,.str w)]))))
theorem Qup:MtR X "dict.setdefault" Qzs:=by
 intro Kz s σ H x xs v us Q I rx rs h;obtain ⟨a,Ku,k,w,rfl,rfl,ha,hl,q1,q2⟩:=h;cases (show v=Value.ref a from rx);obtain ⟨u,u',rfl,ru,ru'⟩:=rs.two;obtain ⟨t,e⟩:=(show ∃ t,u=Value.str k t from ru);subst e;obtain ⟨t',e⟩:=(show ∃ t,u'=Value.str w t from ru');subst e;obtain ⟨z,hd,vs,rel,dd⟩:=Ql1 I.hok ha;have Kr:Ku.length=vs.length:=rel.length;have cv:=rel.val (.inr k);refine Bo Wb dd.typeIs Qsn (Qnn _ _ _) (kt_meets_setdefault (JF X.prog X.w) a (k:= .inr k) (Uu X.prog X.w k t) hd (.str w t')) ⟨vs,dd,by omega,λw' hw=> ?_,λhn h' dd' sb=> ?_⟩
 ·rw [hw] at cv;cases hm:Uh Ku (.inr k) with
  | none=>rw [hm] at cv;exact cv.elim
  | some c =>
   rw [hm] at cv;exact ⟨c,H,I.tok _,cv,q1 c hm⟩
 ·rw [hn] at cv;cases hm:Uh Ku (.inr k) with
  | some c=>rw [hm] at cv;exact cv.elim
  | none =>
   have es:stored vs (.inr k) (.str w t')=vs++[(.inr k,.str w t')]:=by
    unfold stored;rw [Qg];intro z;rw [Qda hn] at z;cases z
   rw [es] at dd';have hob: ∃ q,h'.get? a=some q:=let ⟨q,_,_,hq,_⟩:=dd';⟨q,hq⟩;refine ⟨.str w,_,I.write (x:=a) (e:=a) (o:= .dK (Ku++[(.inr k,.str w)])) (t':=s.toks+1) (by rw [ha];exact QE) (.inl rfl) (λb q hb z=>(sb.2 b hb).trans z) hob ⟨?_,hd,_,?_,dd'⟩,⟨_,rfl⟩,q2 hm⟩
   ·rw [Qs];show _+1<=_;omega
   ·exact Quz rel ⟨_,rfl⟩
variable {e1 ek ew ew':Expr} {x:Str} {p ap cp p3 p4:Pos} {A:List Stmt} {c1:Bool} {i:Nat} {ks vs:List Str} {k w:Str} {d:D}
theorem Qlp {ks:List Str} {us:List V} (h:ks.length=us.length) (k:Str) (v:V):W3 (ks++[k]) (us++[v])=W3 ks us++[(.inr k,v)]:=by
 unfold W3;rw [Qbc h,QF];rfl
theorem Qo9 {K:W.Frag} {H:Hp} {vs:List Str} {us:List V} (h:Va K H (vs.map .str) us):us=vs.map V.str:=by
 induction vs generalizing us with
 | nil=>rw [Z1,Va] at h;rw [h];rfl
 | cons v vs ih =>
  rw [Qk,Va] at h;obtain ⟨u,r,rfl,hu,hr⟩:=h;rw [JC hu,ih hr];rfl
end
end L2
namespace RV
open PySem PySem.Spec PyProof.Rows PySem.W PySem.Calls PyProof.V
theorem Qux:typeLookup (.type "list_reverseiterator") "__len__" =pure none:=by rw [Qh6,UH];kernel_rfl
theorem Qqn:typeLookup (.type "list_reverseiterator") "__length_hint__" =pure (some (.builtin "list_reverseiterator.__length_hint__")):=by rw [Qh6,UH];kernel_rfl
theorem Qqm:isSubtype (.type "list_reverseiterator") (.type "list_reverseiterator")=pure true:=by rw [O7];kernel_rfl
section
variable {prog:Program} {w:World} {A:Around} {E:Kf} {s:Shared} {I l:Addr}
theorem Qr5 {Q:Bool->Shared->Prop} (ty:s.TypeIs (.ref I) "list_reverseiterator") (h:Q false s):wpAny (model prog w) A (Builtin.List.listLengthHint (.ref I)) Q E s:=by
 unfold Builtin.List.listLengthHint;refine Q0 (Zi ty Qux ?_);dsimp only;rw [Qg (by decide +kernel)];simp only [Option.isSome_none,QG,JI];refine Q0 (Zi ty Qqn ?_);dsimp only;rw [show splitId "list_reverseiterator.__length_hint__" =some ("list_reverseiterator", "__length_hint__") by kernel_rfl];dsimp only;refine Q0 (Z3 ty Qqm ?_);simp only [Qha,QG,JI];rw [Qj (by decide +kernel),Qg (by decide +kernel)];exact Q3 h
abbrev Qx9 (xs:Array Value):Nat->Value->Prop:=λi v=>xs[xs.size - 1 - i]? =some v
theorem Qj1 {R:Result->Shared->Prop} {xs:Array Value} {T0:Addr} {c0:Nat} (hh:A.handled=none) (n1:T0≠I) (n2:T0≠l) (n3:l≠I) (rv:s.heap.IsRevIter I l ((xs.size:Int) - 1)) (ls:s.heap.IsList l xs)
  (h0:s.heap.get? T0=some { cls:= .type "list",data:= .seq #[] c0 }) (hz:xs.size<=sizeLine)
  (k: ∀ g t acc c,(∀ b o,b≠T0->b≠I->s.heap.get? b=some o->g.get? b=some o)->g.get? T0=some { cls:= .type "list",dict:=none,data:= .seq acc c,slots:= #[] }->ItemsOf (Qx9 xs) acc xs.size->R (.ok (.ret .none)) { s with heap:=g,toks:=t }) :
  wpAny (model prog w) A.in1 (Builtin.List.listExtendWith (.ref T0) (.ref I) .none) (λKj z=>match Kj with | .done f=>R (.ok f) z | .again c=>c.quiet=true/\codeAny (model prog w) A c R z) (λe z=>R (.error e) z) s:=by
 have hf:T0 ∉ [I,l]:=by simp [n1,n2]
 have W:=Walks.listRev (prog:=prog) (w:=w) (A:=A.in1) (by show A.handled=none;exact hh) I l n3 xs;have ty:s.TypeIs (.ref I) "list_reverseiterator" :=by
  obtain ⟨o,ho,hc,_⟩:=id rv;exact ⟨o,ho,hc⟩
 have st0:(0:Nat)<=xs.size/\s.heap.IsRevIter I l ((xs.size:Int) - 1 - ((0:Nat):Int))/\s.heap.IsList l xs:=⟨Qz _,by simpa using rv,ls⟩;have walk: ∀ (g:Heap) (c1 t:Nat),((0:Nat)<=xs.size/\g.IsRevIter I l ((xs.size:Int) - 1 - ((0:Nat):Int))/\g.IsList l xs)->(∀ b o,b≠T0->s.heap.get? b=some o->g.get? b=some o)->g.get? T0=some { cls:= .type "list",data:= .seq #[] c1 } ->
   codeAny (model prog w) A (.builtin "list.extend.loop" ⟨[.ref T0,.ref I,.none],[]⟩) R { s with heap:=g,toks:=t }:=λg c1 t sg kg eg=>by
  refine codeAny_extend_loopS W.toS hz T0 hf .none xs.size 0 _ #[] c1 rfl (Qz _) sg eg (ItemsOf.nil _) λz acc c mv ez ia=> ?_
  rw [Moved.eq_with mv];refine k z.heap z.toks acc c (λb o hb hI e=>mv.heap b o (λhm=> ?_) (kg b o hb e)) ez ia;rcases Qb.mp hm with y | y
  ·exact hb y
  ·exact hI (QQ.mp y)
 unfold Builtin.List.listExtendWith;refine Q0 (wpAny_typeOf ty ?_);have ns:Builtin.List.listSameRef (.ref T0) (.ref I)=false:=by simp [Builtin.List.listSameRef,n1]
 have e1:(Value.type "list_reverseiterator" == Value.type "list")=false:=by decide +kernel
 have e2:(Value.type "list_reverseiterator" == Value.type "tuple")=false:=by decide +kernel
 simp only [ns,e1,e2,Bool.or_false,QG,JI];refine Q0 (wpAny_pyIter_revIter rv ?_);refine Q0 (JH (Qr5 ty ?_));refine wpAny_ite_split (λ_=> ?_) (λ_=>Q3 ⟨Wy PySem.F.plain_extend_loop _,walk _ c0 _ st0 (λb o _ e=>e) h0⟩);refine Q0 (ZS (Q0 ?_));show wpAny _ _ (updateSeq T0 (·.push .none) >>= λ_=>updateSeq T0 (·.pop)) _ _ _;refine Q0 (WL h0 rfl ?_);have h1:=QW (Obj.mapSeq (·.push Value.none)) h0 rfl;refine WL (hz:=by seq_fits) h1 rfl ?_;have h2:=QW (Obj.mapSeq (·.pop)) h1 rfl;have far: ∀ b o,b≠T0->s.heap.get? b=some o->((s.heap.update T0 (Obj.mapSeq (·.push Value.none))).update T0 (Obj.mapSeq (·.pop))).get? b=some o:=λb o hb e =>
  (Ww _ _ (QS hb)).trans ((Ww _ _ (QS hb)).trans e)
 exact Q3 ⟨Wy PySem.F.plain_extend_loop _,walk _ _ _ (W.frame 0 _ _ st0 λb hb o e=>far b o (λy=>hf (y ▸ hb)) e) far h2⟩
theorem Qr2 {R:Result->Shared->Prop} {xs:Array Value} {T0:Addr} (hh:A.handled=none) (n1:T0≠I) (n2:T0≠l) (n3:l≠I) (rv:s.heap.IsRevIter I l ((xs.size:Int) - 1)) (ls:s.heap.IsList l xs)
  (h0:s.heap.get? T0=some { cls:= .type "list",data:= .seq #[] }) (hz:xs.size<=sizeLine)
  (k: ∀ g t acc c,(∀ b o,b≠T0->b≠I->s.heap.get? b=some o->g.get? b=some o)->g.get? T0=some { cls:= .type "list",dict:=none,data:= .seq acc c,slots:= #[] }->ItemsOf (Qx9 xs) acc xs.size->R (.ok (.ret .none)) { s with heap:=g,toks:=t }) :
  wpAny (model prog w) A.in1 (Builtin.«list.__init__» ⟨[.ref T0,.ref I],[]⟩) (λKj z=>match Kj with | .done f=>R (.ok f) z | .again c=>c.quiet=true/\codeAny (model prog w) A c R z) (λe z=>R (.error e) z) s:=by
 show wpAny _ _ (do
  let old<-Builtin.List.listItems (.ref T0)
  Builtin.List.listUpdate (.ref T0) (λ_=> #[])
  letGo old.toList.reverse
  Builtin.List.listExtendWith (.ref T0) (.ref I) .none) _ _ s
 refine Q0 ?_;unfold Builtin.List.listItems;refine Q0 (Jg h0 rfl (Q3 ?_));show wpAny _ _ (updateSeq T0 (λ_=> #[]) >>= λ_=>letGo (#[]:Array Value).toList.reverse >>= λ_=>Builtin.List.listExtendWith (.ref T0) (.ref I) .none) _ _ s;refine Q0 (WL h0 rfl ?_);have h1:=QW (Obj.mapSeq (λ_=>(#[]:Array Value))) h0 rfl;have far: ∀ b o,b≠T0->s.heap.get? b=some o->(s.heap.update T0 (Obj.mapSeq (λ_=>(#[]:Array Value)))).get? b=some o:=λb o hb e=>(Ww _ _ (QS hb)).trans e
 refine Q0 (ZT ?_);exact Qj1 hh n1 n2 n3 (rv.at λo e=>far I o (QS n1) e) (ls.at λo e=>far l o (QS n2) e) h1 hz λg t acc c kg eg ia=>k g t acc c (λb o hb hI e=>kg b o hb hI (far b o hb e)) eg ia
theorem Qep {Q:Kf} {xs:Array Value} (hh:A.handled=none) (n3:l≠I) (rv:s.heap.IsRevIter I l ((xs.size:Int) - 1)) (ls:s.heap.IsList l xs) (hz:xs.size<=sizeLine)
  (k: ∀ g t acc c,(∀ b o,b≠I->s.heap.get? b=some o->g.get? b=some o)->g.get? s.heap.objs.size=some { cls:= .type "list",dict:=none,data:= .seq acc c,slots:= #[] }->ItemsOf (Qx9 xs) acc xs.size->Q (.ref s.heap.objs.size) { s with heap:=g,toks:=t }) :
  wpAny (model prog w) A (call (.type "list") [.ref I]) Q E s:=by
 have lI:I < s.heap.objs.size:=let ⟨_,ho,_⟩:=rv;Qi ho;have ll:l < s.heap.objs.size:=let ⟨_,ho,_⟩:=ls;Qi ho;refine callType_codes (Q₁:=λobj z=>obj= .ref s.heap.objs.size/\z={ s with heap:=s.heap.push { cls:= .type "list",data:= .seq #[] } }) PySem.F.called_list (PySem.F.typeCall_list_1 _) PySem.F.entry_list_init (code_list_new _ ⟨rfl,rfl⟩) λobj z hz'=> ?_
 obtain ⟨rfl,rfl⟩:=hz';have here:(s.heap.push { cls:= .type "list",data:= .seq #[] }).get? s.heap.objs.size=some { cls:= .type "list",data:= .seq #[] }:=Qd _ rfl;refine ⟨⟨_,here,rfl⟩,PySem.F.args_list_init_2 _ _,Qr2 (A:=A.in1) hh (W1 lI) (W1 ll) n3 (rv.at λo e=>Q1 _ e) (ls.at λo e=>Q1 _ e) here hz λg t acc c kg eg ia=> ?_⟩;exact ⟨rfl,k g t acc c (λb o hI e=>kg b o (Qp (Qi e)) hI (Q1 _ e)) eg ia⟩
end
end RV
namespace K24
open PySem L2 RH
def Qt (x:Str):Bool:=Txt.isupper (Txt.slice x none (some 1))
theorem UG (a:RH.At):LF a.d=true:=by
 simp only [RH.At.d,LF,LFs,Bool.and_true,Bq];exact Jw (λ_=>JE) _
theorem Qb4 (a:RH.At):XKey a.d:=⟨by simp [RH.At.d,keyOk,keyOks,Qo8],Qu (Qb5 a) (by decide),_,rfl⟩
section
variable {P:Program} {w:World} {K:W.Frag} {mg:Str->Option Value} {base:Heap}
def ROpen:List D->D->Prop:=λds d=> ∃ x:Str,ds=[.str x]/\x.length<=1000/\d= .bl (Qt x)
theorem Qx3:Vf ["term"] ["term"] (Vs Qjw):=⟨rfl,rfl,rfl,by decide +kernel,rfl,by decide +kernel,by decide +kernel⟩
theorem Qu7 (F:Fd K mg "is_open" Qjw ["term"]):PrD P w K mg base "is_open" 1 ["term"] ROpen:=by
 refine G0 (N:=["term"]) F Qx3 (Q5 _) λf Km A outer s H E ds d hr hR _=> ?_
 obtain ⟨x,rfl,hx,rfl⟩:=hR;exact Vz (WG (Qyv (Qrm (Vv 0 rfl) (Vl (by omega)) Qkz (OA Vi))))
def gvD (g:WY.Gv) (fz:Bool):D:= .dct fz (g.1.map .str) (g.2.map .str)
def RFilled:List D->D->Prop:=λds d=> ∃ (a:RH.At) (g:WY.Gv) (fz:Bool),ds=[a.d,gvD g fz]/\g.1.length=g.2.length/\a.ts.length<=1000/\d=(WY.We g a).d
abbrev B1:List Str:=["atom", "words"]
theorem Qx5:Vf B1 B1 (Vs Os):=⟨rfl,rfl,rfl,by decide +kernel,rfl,by decide +kernel,by decide +kernel⟩
def Ui:D->Str | .str x=>x | _=> ""
theorem Qj7 {X:Cx} {ρ:List (Option D)} {a b f:Expr} {ap cp:Pos} {ks vs:List Str} {fz:Bool} {t:Str} (hu:X.A.units+1 < cLine) (hl:ks.length=vs.length) (ha:PD X ρ a (.dct fz (ks.map .str) (vs.map .str))) (hb:PD X ρ b (.str t)) (hf:PD X ρ f (.str t)) (m:M2 X a "get" ap b f cp:=by exact ⟨rfl,rfl,rfl,rfl⟩) :
  PD X ρ (.Call (.Attribute a "get" ap) [b,f] [] cp) (.str (WY.subst ks vs t)):=by
 by_cases h:t∈ks
 ·have hi:ks.idxOf t < ks.length:=List.idxOf_lt_length_iff.mpr h;have e:WY.subst ks vs t=vs[ks.idxOf t]'(by omega):=by
   unfold WY.subst;rw [Qj h,Qa,Qc (by omega)];rfl
  rw [e];exact Qcw (i:=ks.idxOf t) hu ha hb hf (by rw [Qc hi,Wq hi]) (by rw [Qe,Qc (by omega)];rfl) m
 ·have e:WY.subst ks vs t=t:=Qg h;rw [e];exact Qgi hu ha hb hf h m
theorem Qmc (T:Txt K mg) (F:Fd K mg "filled" Os B1):PrD P w K mg base "filled" 1 B1 RFilled:=by
 refine G0 (N:=B1) F Qx5 (Q5 _) λf Km A outer s H E ds d hr hR _=> ?_
 obtain ⟨a,g,fz,rfl,hl,ht,rfl⟩:=hR;have hu:=Qck hr;have e:(WY.We g a).d= .tup [.str a.k,.tup ((a.ts.map D.str).map λd=> .str (WY.subst g.1 g.2 (Ui d)))]:=by
  simp [RH.At.d,WY.We,Qx,QZ,Ui]
 rw [e];refine Vz (WG (Vp (Vc (Jf (da:= .tup [.str a.k,.tup (a.ts.map .str)]) (Vv 0 rfl) Vi at0) (Vc (Wj T.bTup (PDL.pd (ZK (f:=λd=> .str (WY.subst g.1 g.2 (Ui d))) rfl (U3 (Jf (da:= .tup [.str a.k,.tup (a.ts.map .str)]) (Vv 0 rfl) Vi at1)) (Vl (by rw [Q2];omega)) λd hd cl C s H ex=> ?_)) (.inl rfl)) Vn)) (Vl (by simp))));obtain ⟨t,_,rfl⟩:=Q6.mp hd;exact Qj7 hu hl (Vv 2 rfl) (Vv 0 rfl) (Vv 0 rfl)
def mkS (m:Bool):Str:=if m then "yes" else "no"
def Zh (r:Ru) (m:Bool):List RH.At:=(r.b.filter λl=>l.y == m).map (·.a)
def RMark:List D->List D->Prop:=λds es=> ∃ (r:Ru) (m:Bool),ds=[r.d,.str (mkS m)]/\r.b.length<=1000/\es=(Zh r m).map RH.At.d
abbrev BW:List Str:=["rule", "mark"]
theorem Qx4:Vf BW BW (Vs Oo):=⟨rfl,rfl,rfl,by decide +kernel,rfl,by decide +kernel,by decide +kernel⟩
def Qyj (m:Bool):D->Bool | .tup (.str x::_)=>decide (x=mkS m) | _=>false
def Qzj:D->D | .tup [_,b]=>b | d=>d
theorem Qu9 (F:Fd K mg "marked_atoms" Oo BW):PrL P w K mg base "marked_atoms" 1 BW RMark:=by
 refine Qe0 (N:=BW) F Qx4 (Q5 _) λf Km A outer s H E ds es hr hR _=> ?_
 obtain ⟨r,m,rfl,hb,rfl⟩:=hR;have e:(Zh r m).map RH.At.d=((r.b.map Li.d).filter (Qyj m)).map Qzj:=by
  unfold Zh
  induction r.b with
  | nil=>rfl
  | cons l b ih =>
   have e1:Qyj m l.d=(l.y == m):=by
    show decide ((if l.y then "yes" else "no" :Str)=mkS m)=_;rw [show (if l.y then "yes" else "no" :Str)=mkS l.y from rfl];cases l.y<;>cases m<;>decide
   rw [Qk,WS,WS,e1];split
   ·simp only [Qk,ih];rfl
   ·exact ih
 rw [e];refine Vz (B4 (Qek (p:=Qyj m) (f:=Qzj) rfl (U3 (Jf (da:= .tup [r.h.d,.tup (r.b.map Li.d)]) (Vv 0 rfl) Vi at1)) (Vl (by rw [Q2];omega)) (λd hd cl C s H ex=> ?_) (λd hd _ cl C s H ex=> ?_)))
 ·obtain ⟨l,_,rfl⟩:=Q6.mp hd;exact Qvm (Jav (Jf (da:= .tup [.str (mkS l.y),l.a.d]) (Vv 0 rfl) Vi at0) (Vv 2 rfl))
 ·obtain ⟨l,_,rfl⟩:=Q6.mp hd;exact Jf (da:= .tup [.str (mkS l.y),l.a.d]) (Vv 0 rfl) Vi at1
end
end K24
namespace K24
open PySem L2 RH WY
theorem lt15 {n:Nat} (h:n+22 < cLine):n+15 < cLine:=by omega
noncomputable def Qh5 (a:RH.At) (q:List D×List (List D)):List D×List (List D):=(WN a).foldl (L2.JL a.d) q
def Bd (n:Nat) (q:List D×List (List D)):Prop:=q.1.length<=n/\ ∀ r∈q.2,r.length<=n
theorem Bd.step {n:Nat} {q:List D×List (List D)} (h:Bd n q) (f k:D):Bd (n+1) (L2.JL f q k):=by
 unfold L2.JL;split
 ·refine ⟨Qlj h.1,λr hr=> ?_⟩;obtain ⟨i,hi⟩:=J1.mp hr;rw [Zk] at hi;cases e:q.2[i]? with
  | none=>rw [e] at hi;simp at hi
  | some r0 =>
   have:=h.2 r0 (Q9 e);rw [e] at hi;have hi':(if List.idxOf k q.1=i then r0++[f] else r0)=r:=by simpa using hi
   rw [<- hi'];split
   ·rw [Qs];show r0.length+1<=n+1;omega
   ·omega
 ·refine ⟨by have:=h.1;simp;omega,λr hr=> ?_⟩;rcases Qy.mp hr with hr | hr
  ·exact Qlj (h.2 r hr)
  ·simp at hr;subst hr
   simp
theorem Bd.run {f:D}: ∀ (l:List D) {n:Nat} {q:List D×List (List D)},Bd n q->Bd (n+l.length) (l.foldl (L2.JL f) q)
 | [],n,q,h=>h
 | k::l,n,q,h=>by
  have:=Bd.run (f:=f) l (h.step f k);rw [Qq,show n+(l.length+1)=n+1+l.length by omega];exact this
theorem Bd.mono {m n:Nat} {q:List D×List (List D)} (h:Bd m q) (e:m<=n):Bd n q:=⟨Qu h.1 e,λr hr=>Qu (h.2 r hr) e⟩
theorem BG (a:RH.At):(WN a).length=a.ts.length+1:=by simp [WN]
theorem BH (a:RH.At) {k:D} (h:k∈WN a):XKey k:=by
 unfold WN at h;rcases Qb.mp h with rfl | h
 ·exact ⟨by simp [keyOk,keyOks],by simp [dep,deps],_,rfl⟩
 ·obtain ⟨p,_,rfl⟩:=Q6.mp h;exact ⟨by simp [keyOk,keyOks],by simp [dep,deps],_,rfl⟩
section
variable {P:Program} {w:World} {K:W.Frag} {mg:Str->Option Value} {base:Heap} {C:Addr}
structure ShC (K:W.Frag) (mg:Str->Option Value) (C:Addr):Prop where
 mgC:mg "Shelf" =some (.ref C)
 cl:Cls K C
 nT:NoAttr K C "there"
 nR:NoAttr K C "rows"
def FdM (K:W.Frag) (C:Addr) (m qual:Str) (st:Stmt) (ps:List Str):Prop:= ∃ f fd,Meth K C m f/\Fun K m qual st f fd/\Binds K fd ps []
def Qog (w:World) (K:W.Frag) (C:Addr):Sp:=λvs H Q _=> ∃ (p t r:Addr) (th:List D) (as:List Addr) (ks:List D) (bs ls:List Addr) (rs:List (List D)) (a:RH.At) (f:V),vs=[.ref p,f]/\Sh w K C H p t r th as ks bs ls rs/\Is K H a.d f/\a.ts.length<=3/\th.length < 10000/\Bd 10000 (ks,rs) /\
 ∀ H' as' bs' ls',Sh w K C H' p t r (Wh th a.d) as' (Qh5 a (ks,rs)).1 bs' ls' (Qh5 a (ks,rs)).2->ShK H H' t r ls ls'->Q .non H'
abbrev Qm9:List Str:=["self", "fact"]
abbrev Ja5:List Str:=["self", "fact", "place", "word"]
theorem Qvp:Vf Ja5 Qm9 (Vs Qfh):=⟨rfl,rfl,rfl,by decide +kernel,rfl,by decide +kernel,by decide +kernel⟩
theorem env1 {H:Hp} {σ:St} {f:V} {d:D} (hl:σ.length=4) (h1:σ[1]? =some (some f)) (i:Is K H d f):EnvIs K H σ [none,some d,none,none]:=by
 refine ⟨hl,λj e he=> ?_⟩
 match j,he with
 | 0,he=>simp at he
 | 1,he =>
  simp at he;subst he;exact ⟨f,h1,i⟩
 | 2,he=>simp at he
 | 3,he=>simp at he
 | j+4,he=>simp at he
theorem env3 {H:Hp} {σ:St} {f:V} {d:D} {n:Int} {t:Str} (hl:σ.length=4) (h1:σ[1]? =some (some f)) (i:Is K H d f):EnvIs K H ((σ.set 2 (some (.int n))).set 3 (some (.str t))) [none,some d,some (.int n),some (.str t)]:=by
 have e:=((env1 hl h1 i).set 2 (ZH n)).set 3 (ZG t);exact e
theorem Yy {α:Type} {l:List α} {i:Nat} {x:α} (h:l[i]? =some x):l.take (i+1)=l.take i++[x]:=by
 rw [QX,h];rfl
theorem Qxz (T:Txt K mg) (Z:ShC K mg C) (F:FdM K C "add" "Shelf.add" Qfh Qm9):Mt P w K mg base C "add" 1 Qm9 (Qog w K C):=by
 obtain ⟨fa,fda,hm,hf,hbi⟩:=F;refine ⟨fa,fda,hm,hbi,hf.ok Qvp (λvs H Q E h=> ?_) λKm A outer s H vs Q E hr h=> ?_⟩
 ·obtain ⟨_,_,_,_,_,_,_,_,_,_,_,rfl,_⟩:=h;rfl
 obtain ⟨p,t,r,th,as,ks,bs,ls,rs,a,f,rfl,S,ia,ha,nt,bd,go⟩:=h;have hu:(Ga CX0 P w K mg base Ja5 "Shelf.add" (Vs Qfh) fa Km A outer s H E).nox.A.units+15 < cLine:=lt15 (hu22 hr);have hkey: ∀ (i:Nat) (x:Str),a.ts[i]? =some x->(WN a)[i+1]? =some (.tup [.str a.k,.int i,.str x]):=λi x hx=>by
  unfold WN;simp [Qe,hx]
 let qs:Nat->List D×List (List D):=λi=>((WN a).take (i+1)).foldl (L2.JL a.d) (ks,rs)
 have q0:qs 0=L2.JL a.d (ks,rs) (.tup [.str a.k]):=rfl;have qn: ∀ (i:Nat) (x:Str),a.ts[i]? =some x->qs (i+1)=L2.JL a.d (qs i) (.tup [.str a.k,.int i,.str x]):=λi x hx=>by
  show ((WN a).take (i+1+1)).foldl (L2.JL a.d) (ks,rs)=_;rw [Yy (hkey i x hx),WF];rfl
 have qe:qs a.ts.length=Qh5 a (ks,rs):=by
  show ((WN a).take (a.ts.length+1)).foldl (L2.JL a.d) (ks,rs)=_;rw [<- BG,QK];rfl
 have qb: ∀ i,i<=a.ts.length->Bd 10004 (qs i):=λi hi=>(bd.run (f:=a.d) ((WN a).take (i+1))).mono (by rw [QA,BG];omega)
 have k0:XKey (.tup [.str a.k]):=BH a Q8;refine ⟨_,Zy (Qk8 hu (Qpa (pv 0) rfl) (pv 1) Qvw rfl) (Zy (Qp0 (ρ:=[none,some a.d,none,none]) (key:= .tup [.str a.k]) hu (Vp (Vc (Jf (da:= .tup [.str a.k,.tup (a.ts.map .str)]) (Vv 1 rfl) Vi at0) Vn) (Vl (by simp))))
  (YV (Qtl (ρ:=[none,some a.d,none,none]) (ds:=a.ts.map .str) (tb:=λD Kt H'=> ∃ (i:Nat) (x:Str),EnvIs K H' Kt [none,some a.d,some (.int i),some (.str x)] /\
   ∃ (C p t r:Addr) (th:List L2.D) (as:List Addr) (ks:List L2.D) (bs ls:List Addr) (rs:List (List L2.D)) (f:V) (fd:L2.D),Kt[0]? =some (some (.ref p))/\Kt[1]? =some (some f)/\Cls K C/\NoAttr K C "rows" /\Sh w K C H' p t r th as ks bs ls rs/\Is K H' fd f/\LF fd=true/\XKey (.tup [.str a.k,.int i,.str x]) /\
    ks.length < 100000/\(∀ r∈rs,r.length < 100000)/\ ∀ H'' bs' ls',Sh w K C H'' p t r th as (L2.JL fd (ks,rs) (.tup [.str a.k,.int i,.str x])).1 bs' ls' (L2.JL fd (ks,rs) (.tup [.str a.k,.int i,.str x])).2->ShK H' H'' t r ls ls'->D.nx Kt H'')
   2 3 QI rfl T.bEnu (Jf (da:= .tup [.str a.k,.tup (a.ts.map .str)]) (Vv 1 rfl) Vi at1) (Jw (λ_=>JE) _) ?_ Qvp.nd))),?_⟩
 ·exact λKz s' Kt H' D I ⟨i,x,q⟩=>YV (Qp0 (ρ:=[none,some a.d,some (.int i),some (.str x)]) (key:= .tup [.str a.k,.int i,.str x]) hu (Vp (Vc (Jf (da:= .tup [.str a.k,.tup (a.ts.map .str)]) (Vv 1 rfl) Vi at0) (Vc (Vv 2 rfl) (Vc (Vv 3 rfl) Vn))) (Vl (by simp)))) Kz s' Kt H' D I q
 obtain ⟨dx,ei⟩:=S.ins;obtain ⟨af,rfl⟩:=Is.key_ref (Qb4 a) ia;refine ⟨_,rfl,p,C,dx,_,.ref t,rfl,ei,Z.cl,Z.nT,rfl,_,rfl,t,af,th,as,_,a.d,rfl,rfl,⟨S.thA,S.thN,S.thO,S.thI,?_⟩,Qb4 a,ia,λH1 g=> ?_⟩
 ·have:(10000:Nat)<=sizeLine:=by rw [Jb];decide
  omega
 obtain ⟨as1,S1,K1⟩:=S.put (Qb4 a) ia g;have ia1:Is K H1 a.d (.ref af):=ia.tsame K1.ts (UG a);refine ⟨env1 rfl rfl ia1,C,p,t,r,_,as1,ks,bs,ls,rs,.ref af,a.d,rfl,rfl,Z.cl,Z.nR,S1,ia1,UG a,k0,?_,?_,λH2 bs2 ls2 S2 K2=> ?_⟩
 ·have:ks.length<=10000:=bd.1;omega
 ·exact λr hr=>by have:=bd.2 r hr;omega
 have ia2:Is K H2 a.d (.ref af):=ia1.tsame K2.ts (UG a);refine ⟨env1 rfl rfl ia2,λH3 s3=>⟨λi Kt H'=>i<=a.ts.length/\Kt.length=4/\Kt[0]? =some (some (.ref p))/\Kt[1]? =some (some (.ref af))/\TSame H3 H'/\ ∃ bs' ls',Sh w K C H' p t r (Wh th a.d) as1 (qs i).1 bs' ls' (qs i).2/\ShK H H' t r ls ls',?_,?_,?_,?_⟩⟩
 ·refine ⟨Qz _,rfl,rfl,rfl,TSame.refl _,bs2,ls2,S2.same s3,?_⟩;have KK:=K1.trans K2;exact ⟨λb o e h1 h2 h3=>s3 _ _ (KK.keep b o e h1 h2 h3),KK.news,KK.ts.trans s3.t,let ⟨u,e⟩:=KK.tt;⟨u,s3 _ _ e⟩,let ⟨u,e⟩:=KK.rr;⟨u,s3 _ _ e⟩⟩
 ·exact λi Kt H' h=>h.2.2.2.2.1
 ·rintro i d u Kt H' pp hd ⟨hi,hl,h0,h1,ht,bs',ls',S',K'⟩ np iu;rw [Qe] at hd;cases hx:a.ts[i]? with
  | none=>rw [hx] at hd;cases hd
  | some x =>
   rw [hx] at hd;cases hd;cases JC iu;have sp:Same H' (upd H' pp (.tup [.int i,.str x])):=Same.upd np;have ia3:Is K H' a.d (.ref af):=(ia2.same s3).tsame ht (UG a);have Ks:=(Q4.mp hx).1;refine ⟨i,x,env3 hl h1 (ia3.same sp),C,p,t,r,_,as1,(qs i).1,bs',ls',(qs i).2,.ref af,a.d,?_,?_,Z.cl,Z.nR,S'.same sp,ia3.same sp,UG a,BH a (Q9 (hkey i x hx)),?_,?_,λH'' bs'' ls'' S'' K''=> ?_⟩
   ·rw [Qh (by decide),Qh (by decide)];exact h0
   ·rw [Qh (by decide),Qh (by decide)];exact h1
   ·have:=(qb i hi).1;omega
   ·exact λr hr=>by have:=(qb i hi).2 r hr;omega
   refine ⟨Ks,by simp [hl],?_,?_,ht.trans (sp.t.trans K''.ts),bs'',ls'',?_,K'.trans (K''.pre sp)⟩
   ·rw [Qh (by decide),Qh (by decide)];exact h0
   ·rw [Qh (by decide),Qh (by decide)];exact h1
   ·rw [qn i x hx];exact S''
 ·rintro Kt H' ⟨_,_,_,_,_,bs',ls',S',K'⟩;rw [Q2,qe] at S';exact go H' as1 bs' ls' S' K'
end
noncomputable def shS (q:List D×List D×List (List D)) (a:RH.At):List D×List D×List (List D):=(Wh q.1 a.d,Qh5 a q.2)
noncomputable def shA (as:List RH.At):List D×List D×List (List D):=as.foldl shS ([],[],[])
theorem Qom {as:List RH.At} {i:Nat} {a:RH.At} (h:as[i]? =some a):shA (as.take (i+1))=shS (shA (as.take i)) a:=by
 unfold shA;rw [Yy h,WF];rfl
theorem Qjs: ∀ (as:List RH.At) {q:List D×List D×List (List D)} {n:Nat},(∀ a∈as,a.ts.length<=3)->q.1.length<=n->Bd (4 * n) q.2->(as.foldl shS q).1.length<=n+as.length/\Bd (4 * (n+as.length)) (as.foldl shS q).2
 | [],q,n,_,h1,h2=>⟨h1,h2⟩
 | a::as,q,n,ha,h1,h2=>by
  have e1:(shS q a).1.length<=n+1:=by
   show (Wh q.1 a.d).length<=n+1;unfold Wh;split
   ·omega
   ·simp;omega
  have e2:Bd (4 * (n+1)) (shS q a).2:=by
   have h3:=ha a Q8;exact (h2.run (f:=a.d) (WN a)).mono (by rw [BG];omega)
  have:=Qjs as (λb hb=>ha b (Q7 _ hb)) e1 e2;rw [Qq,show n+(as.length+1)=n+1+as.length by omega];exact this
theorem Qwz {as:List RH.At} (ha: ∀ a∈as,a.ts.length<=3) (i:Nat):(shA (as.take i)).1.length<=as.length/\Bd (4 * as.length) (shA (as.take i)).2:=by
 have h:=Qjs (as.take i) (q:=([],[],[])) (n:=0) (λa h=>ha a (W2 h)) (Q5 _) ⟨Q5 _,λr hr=>nomatch hr⟩;have hl:(as.take i).length<=as.length:=by rw [QA];omega
 exact ⟨Qu h.1 (by omega),h.2.mono (by omega)⟩
section
variable {P:Program} {w:World} {K:W.Frag} {mg:Str->Option Value} {base:Heap} {C:Addr}
def Seq (K:W.Frag) (H:Hp) (ds:List D) (v:V):Prop:=Is K H (.lst ds) v \/ Is K H (.tup ds) v
def Qhu (w:World) (K:W.Frag) (C:Addr):Sp:=λvs H Q _=> ∃ (p dx:Addr) (as:List RH.At) (f:V),vs=[.ref p,f]/\H p=some (.ins C dx [])/\Seq K H (as.map RH.At.d) f/\as.length<=1000/\(∀ a∈as,a.ts.length<=3) /\
 ∀ H' t r aa bs ls,Sh w K C H' p t r (shA as).1 aa (shA as).2.1 bs ls (shA as).2.2->(∀ b o,H b=some o->b≠p->H' b=some o)->H t=none->H r=none->(∀ l∈ls,H l=none)->Q .non H'
abbrev Qa6:List Str:=["self", "facts"]
abbrev Ja4:List Str:=["self", "facts", "fact"]
theorem Qi3:Vf Ja4 Qa6 (Vs OW):=⟨rfl,rfl,rfl,by decide +kernel,rfl,by decide +kernel,by decide +kernel⟩
def FdC (K:W.Frag) (C:Addr) (qual:Str) (st:Stmt) (ps:List Str):Prop:= ∃ f fd,Mk K C f/\Fun K "__init__" qual st f fd/\Binds K fd ps []
def MkC (P:Program) (w:World) (K:W.Frag) (mg:Str->Option Value) (base:Heap) (C:Addr) (k:Nat) (ps:List Str) (sp:Sp):Prop:= ∃ f fd,Mk K C f/\Binds K fd ps []/\FnOk P w K mg base CX0 k f fd ps sp
theorem Qox (t r:Addr):YD "rows" (.ref r) (YD "there" (.ref t) [])=[(("there" :Str),V.ref t),("rows",.ref r)]:=rfl
theorem Que (T:Txt K mg) (Z:ShC K mg C) (F:FdC K C "Shelf.__init__" OW Qa6) (GA:Mt P w K mg base C "add" 1 Qm9 (Qog w K C)):MkC P w K mg base C 2 Qa6 (Qhu w K C):=by
 obtain ⟨fi,fdi,hmk,hf,hbi⟩:=F;obtain ⟨fa,fda,hma,hba,FA⟩:=GA;refine ⟨fi,fdi,hmk,hbi,hf.ok Qi3 (λvs H Q E h=> ?_) λKm A outer s H vs Q E hr h=> ?_⟩
 ·obtain ⟨_,_,_,_,rfl,_⟩:=h;rfl
 obtain ⟨p,dx,as,f,rfl,hp,hq,hl,ha,go⟩:=h;have main: ∀ (H3:Hp) (t r:Addr) (xs:List V),Sh w K C H3 p t r [] [] [] [] [] []->(∀ b o,H b=some o->b≠p->H3 b=some o)->H t=none->H r=none->(∀ b,H3 b=none->H b=none)->Va K H3 (as.map RH.At.d) xs ->
   ∃ Pv:Nat->St->Hp->Prop,Pv 0 [some (.ref p),some f,none] H3/\(∀ i Kt H',Pv i Kt H'-> ∃ ls',ShK H3 H' t r [] ls') /\
    (∀ (i:Nat) (x:V) (Kt:St) (H':Hp) (N:St->Hp->Prop),xs[i]? =some x->Pv i Kt H'->(∀ H2,Pv (i+1) (Kt.set 2 (some x)) H2->N (Kt.set 2 (some x)) H2) ->
     Qvn C "add" (Qog w K C) [] E0 (OQ 0) (Qjl (OQ 2) Qt4) (Kt.set 2 (some x)) H' λ_ H2=>N (Kt.set 2 (some x)) H2)/\(∀ Kt H',Pv xs.length Kt H'->Q .non H'):=by
  intro H3 t r xs S0 keep nt nr fresh ix;have hxl:as.length=xs.length:=by have:=ix.length;simpa using this
  refine ⟨λi Kt H'=>Kt.length=3/\Kt[0]? =some (some (.ref p))/\ ∃ aa bs ls,Sh w K C H' p t r (shA (as.take i)).1 aa (shA (as.take i)).2.1 bs ls (shA (as.take i)).2.2/\ShK H3 H' t r [] ls,⟨rfl,rfl,[],[],[],S0,ShK.refl S0⟩,λi Kt H' h=> ?_,λi x Kt H' N hx h hn=> ?_,λKt H' h=> ?_⟩
  ·obtain ⟨_,_,_,_,ls,_,k⟩:=h;exact ⟨ls,k⟩
  ·obtain ⟨h1,h2,aa,bs,ls,S,k⟩:=h;have Ks:=(Q4.mp hx).1;obtain ⟨a,hai⟩: ∃ a,as[i]? =some a:=⟨_,Qc (by omega)⟩;have lfs:LFs (as.map RH.At.d)=true:=Jw UG _;obtain ⟨d,hd,id⟩:=(ix.tsame k.ts lfs).at hx;rw [Qe,hai] at hd;cases hd;obtain ⟨dx',ei⟩:=S.ins;obtain ⟨b1,b2⟩:=Qwz ha i;refine ⟨.ref p,?_,p,dx',_,rfl,ei,rfl,x,?_,p,t,r,_,aa,_,bs,ls,_,a,x,rfl,S,id,ha a (Q9 hai),by omega,b2.mono (by omega),λH2 aa2 bs2 ls2 S2 k2=>hn H2 ⟨by simp [h1],?_,aa2,bs2,ls2,?_,k.trans k2⟩⟩
   ·rw [Qh (by decide)];exact h2
   ·rw [Qm (by omega)]
   ·rw [Qh (by decide)];exact h2
   ·rw [Qom hai];exact S2
  ·obtain ⟨_,_,aa,bs,ls,S,k⟩:=h;rw [<- hxl,QK] at S;refine go H' t r aa bs ls S (λb o e hb=> ?_) nt nr λl hl=> ?_
   ·refine k.keep b o (keep b o e hb) ?_ ?_ (λz=>nomatch z)
    ·rintro rfl;rw [nt] at e;cases e
    ·rintro rfl;rw [nr] at e;cases e
   ·rcases k.news l hl with z | z
    ·cases z
    ·exact fresh l z
 have start: ∀ (D:Ends),(∀ H3 t r,Sh w K C H3 p t r [] [] [] [] [] []->(∀ b o,H b=some o->b≠p->H3 b=some o)->H t=none->H r=none->(∀ b,H3 b=none->H b=none)->D.nx [some (.ref p),some f,none] H3) ->
   Qx8 K (OQ 0) Qo5 "there" { D with nx:=Qx8 K (OQ 0) Qo5 "rows" D } [some (.ref p),some f,none] H:=by
  intro D hW t nt;have npt:p≠t:=QH hp nt;refine ⟨_,rfl,p,C,dx,[],rfl,by rw [Qo npt];exact hp,Z.cl,Z.nT,by decide,λr nr=> ?_⟩;have e1:upd (upd H t (DxO t [] [] [])) p (.ins C dx (YD "there" (.ref t) [])) p=some (.ins C dx (YD "there" (.ref t) [])):=Vu;have npr:p≠r:=QH e1 nr;have ntr:t≠r:=by
   rintro rfl;rw [Qo npt.symm,Vu] at nr;cases nr
  refine ⟨_,rfl,p,C,dx,_,rfl,by rw [Qo npr];exact e1,Z.cl,Z.nR,by show 1 < 1000;decide,?_⟩;rw [Qox];have hr0:H r=none:=by rwa [Qo npr.symm,Qo ntr.symm] at nr
  refine hW _ t r ⟨⟨dx,Vu⟩,?_,JA,(λ_ h=>nomatch h),QR,?_,JA,(λ_ h=>nomatch h),QR,ntr,JA,rfl,λi l ds h=>by simp at h⟩ (λb o e hb=> ?_) nt hr0 (λb hb=> ?_)
  ·rw [Qo npt.symm,Qo ntr,Qo npt.symm,Vu];rfl
  ·rw [Qo npr.symm,Vu];rfl
  ·rw [Qo hb,Qo (QH e hr0),Qo hb,Qo (QH e nt)];exact e
  ·by_cases h1:b=p
   ·subst h1;rw [Vu] at hb;cases hb
   ·rw [Qo h1] at hb
    by_cases h2:b=r
    ·subst h2;rw [Vu] at hb;cases hb
    ·rw [Qo h2,Qo h1] at hb
     by_cases h3:b=t
     ·subst h3;rw [Vu] at hb;cases hb
     ·rwa [Qo h3] at hb
 have lfs:LFs (as.map RH.At.d)=true:=Jw UG _;rcases hq with hq | hq
 ·obtain ⟨a,xs,rfl,hsq,ix⟩:=JY hq;refine ⟨_,Zy (Qdz (pv 0) GZ rfl) (Zy (Qdz (pv 0) GZ rfl) (YV (Yv QI rfl (ZY (pv 1)) (Jr (i:=2) Qi3.nd rfl (QJ rfl)) (YV (YW (Qkd (pv 0) Z.cl hma FA hr hba .nil pass0 (Ws (pv 2) Z8)) rfl))))),?_⟩;refine start _ λH3 t r S0 keep nt nr fresh=> ?_
  have k3: ∀ {b:Addr} {o:HO},H b=some o->(∀ C dx fs,o≠ .ins C dx fs)->H3 b=some o:=λ{b o} e Kn=>keep b o e λz=>by
   subst z;rw [hp] at e;cases e;exact Kn _ _ _ rfl
  have sq3:SqL K H3 a xs:=by
   rcases hsq with (h | ⟨o,h⟩) | h
   ·exact .inl (.inl (k3 h λ_ _ _ z=>nomatch z))
   ·exact .inl (.inr ⟨o,k3 h λ_ _ _ z=>nomatch z⟩)
   ·exact .inr h
  have ix3:Va K H3 (as.map RH.At.d) xs:=ix.tsame ⟨λb ys h=>by
   rcases h with h | ⟨o,h⟩
   ·exact .inl (k3 h λ_ _ _ z=>nomatch z)
   ·exact .inr ⟨o,k3 h λ_ _ _ z=>nomatch z⟩,λb o u h=>k3 h λ_ _ _ z=>nomatch z⟩ lfs
  obtain ⟨Pv,p0,pk,ps,pe⟩:=main H3 t r xs S0 keep nt nr fresh ix3;refine ⟨_,rfl,a,rfl,⟨xs,sq3⟩,Qrd (xs:=xs) Pv p0 (λi Kt H' _ h=> ?_) (λi x Kt H' hx h=>ps i x Kt H' _ hx h λH2 q=>q) λKt H' h=>pe Kt H' h⟩;obtain ⟨ls',k⟩:=pk i Kt H' h;rcases sq3 with (h | ⟨o,h⟩) | h
  ·exact .inl (.inl (k.keep _ _ h (Yl h S0.thA λz=>nomatch z) (Yl h S0.ro λz=>nomatch z) (λz=>nomatch z)))
  ·exact .inl (.inr ⟨o,k.ts.fz _ _ _ h⟩)
  ·exact .inr h
 ·obtain ⟨a,xs,rfl,hsq,ix⟩:=JB hq;refine ⟨_,Zy (Qdz (pv 0) GZ rfl) (Zy (Qdz (pv 0) GZ rfl) (YV (Yv QI rfl (Qa2 (pv 1)) (Jr (i:=2) Qi3.nd rfl (QJ rfl)) (YV (YW (Qkd (pv 0) Z.cl hma FA hr hba .nil pass0 (Ws (pv 2) Z8)) rfl))))),?_⟩;refine start _ λH3 t r S0 keep nt nr fresh=> ?_
  have k3: ∀ {b:Addr} {o:HO},H b=some o->(∀ C dx fs,o≠ .ins C dx fs)->H3 b=some o:=λ{b o} e Kn=>keep b o e λz=>by
   subst z;rw [hp] at e;cases e;exact Kn _ _ _ rfl
  have t3:TSame H H3:=⟨λb ys h=>by
   rcases h with h | ⟨o,h⟩
   ·exact .inl (k3 h λ_ _ _ z=>nomatch z)
   ·exact .inr ⟨o,k3 h λ_ _ _ z=>nomatch z⟩,λb o u h=>k3 h λ_ _ _ z=>nomatch z⟩
  obtain ⟨Pv,p0,pk,ps,pe⟩:=main H3 t r xs S0 keep nt nr fresh (ix.tsame t3 lfs);refine ⟨_,rfl,a,rfl,⟨xs,t3.sqT hsq⟩,Qv7 (xs:=xs) Pv p0 (λi Kt H' _ h=> ?_) (λi x Kt H' hx h=>ps i x Kt H' _ hx h λH2 q=>q) λKt H' h=>pe Kt H' h⟩;obtain ⟨ls',k⟩:=pk i Kt H' h;exact (t3.trans k.ts).sqT hsq
end
end K24
namespace L2
open PySem PySem.Spec PyProof.Rows
theorem Qnh:bootBuiltins "min" =some (.builtin "min"):=by decide +kernel
theorem Qni:bootBuiltins "len" =some (.builtin "len"):=by decide +kernel
section
variable {X:Cx} {ρ:List (Option D)} {e:Expr} {te:TE} {p q kp pos:Pos}
def Qk3 (X:Cx) (Q:VK) (x:V) (H1:Hp):Prop:= ∃ (l:Addr) (ps:List Addr) (n:Nat->Nat),x= .ref l/\SqL X.K H1 l (ps.map .ref)/\(∀ (i:Nat) a,ps[i]? =some a-> ∃ ys,SqL X.K H1 a ys/\ys.length=n i)/\ps≠[] /\
 ∀ (i:Nat) a,ps[i]? =some a->(∀ j,j < ps.length->n i<=n j/\(j < i->n i < n j))->Q (.ref a) H1
def Qzb (X:Cx) (te:TE):TE:=λσ H Q=>te σ H (Qk3 X Q)
theorem Qts (hc:X.calm=true) (hm1:X.mg "min" =none) (hm2:X.mg "len" =none) (ha:PE X e te) (hg1:Gl X "min" :=by rfl) (hg2:Gl X "len" :=by rfl) (hs:starEach [e] X.env=[(false,eval e X.env)]:=by rfl) :
  PE X (.Call (.Name "min" p) [e] [⟨some "key",.Name "len" q,kp⟩] pos) (Qzb X te):=by
 intro Kz s σ H Q I h;refine WC (Y8 I hg1 hm1 Qnh ?_);refine PyProof.Rows.callWith_kw (thn (Ws ha Z8 hs pos Kz s σ H (λvs H1=>match vs with | [x]=>Qk3 X Q x H1 | _=>False) I (show te σ H (Qk3 X Q) from h)) λus s1 ⟨vs,H1,I1,r1,q0⟩=> ?_) (by rw [hs];rfl) (by rw [hs];rfl);obtain ⟨x,ev⟩: ∃ x,vs=[x]:=by
  match vs,q0 with
  | [x],_=>exact ⟨x,rfl⟩
 subst ev;obtain ⟨l,ps,n,ex,sq,rows,Kn,q1⟩:=(show Qk3 X Q x H1 from q0);subst ex;obtain ⟨u,rfl,ru⟩:=vals1 r1;cases (show u=Value.ref l from ru);refine PyProof.Rows.kws_cons (Y8 I1 hg2 hm2 Qni (PyProof.Rows.kws_nil ?_));show wpAny (model X.prog X.w) X.A (call (.builtin "min") [.ref l] [(Str.ofString "key",.builtin "len")]) _ _ s1;obtain ⟨Kv,rv,pl,hz⟩:=I1.list sq;have hil:ps.length=Kv.length:=by have:=rv.length;simpa using this
 have at_: ∀ (i:Nat) v,Kv[i]? =some v-> ∃ a,ps[i]? =some a/\v= .ref a:=λi v hv=>by
  have Ks:=(Q4.mp hv).1;have ha:ps[i]? =some ps[i]:=Qc (by omega);obtain ⟨u,e1,e2⟩:=rv.get (i:=i) (x:= .ref ps[i]) (by rw [Qe,ha];rfl);rw [hv] at e1;cases e1;exact ⟨_,ha,e2⟩
 refine MN.Qus (vs:=Kv) (λi=>(n i:Int)) (I1.ok.hd hc) pl.isList (by rw [<- hil];exact ZD.mpr Kn) (λi v hv h tk Q' kp hq=> ?_) (λi v h' tk' hv hb kp=> ?_)
 ·obtain ⟨a,ha,rfl⟩:=at_ i v hv;obtain ⟨ys,sy,hy⟩:=rows i a ha;obtain ⟨its',rv',pl',hz'⟩:=I1.list sy;obtain ⟨o,ho,hr⟩:=pl'.isList;have Kr:=rv'.length;have hn:=line63;refine Calls.call_len_list (s:={ s1 with heap:=h,toks:=tk }) (show h.IsList a its'.toArray from ⟨o,kp _ _ ho,hr⟩) (by simp only [Ql]<;>omega) ?_;have e:(its'.toArray.size:Int)=(n i:Int):=by
   rw [Ql,<- Kr,hy]
  rw [e];exact hq _ _
 ·obtain ⟨a,ha,rfl⟩:=at_ i v hv;refine ⟨.ref a,H1,I1.kept (t':=tk') kp,rfl,q1 i a ha λj hj=> ?_⟩;have:=hb j (by omega);exact ⟨by have:=this.1;omega,λz=>by have:=this.2 z;omega⟩
def MinAt (rows:List (List D)) (i:Nat):Prop:= ∃ r,rows[i]? =some r/\ ∀ (j:Nat) r',rows[j]? =some r'->r.length<=r'.length/\(j < i->r.length < r'.length)
theorem Qys {rows:List (List D)} {i:Nat} {r:List D} (hc:X.calm=true) (hm1:X.mg "min" =none) (hm2:X.mg "len" =none) (ha:PD X ρ e (.lst (rows.map λr=> .oth .fls [] r))) (hi:MinAt rows i) (hr:rows[i]? =some r)
  (hg1:Gl X "min" :=by rfl) (hg2:Gl X "len" :=by rfl) (hs:starEach [e] X.env=[(false,eval e X.env)]:=by rfl) :
  PD X ρ (.Call (.Name "min" p) [e] [⟨some "key",.Name "len" q,kp⟩] pos) (.oth .fls [] r) :=
 ZA (Qts hc hm1 hm2 ha.pe hg1 hg2 hs) λσ H Q he qq=>⟨he,λv H1 s1 i1=>by
  obtain ⟨l,vs,rfl,sq,ia⟩:=JY i1;have hvl:rows.length=vs.length:=by have:=ia.length;simpa using this
  have each: ∀ (j:Nat) r',rows[j]? =some r'-> ∃ a us o,vs[j]? =some (.ref a)/\H1 a=some (.frz o (.lst us))/\Va X.K H1 r' us:=λj r' hj=>by
   obtain ⟨v,e1,e2⟩:=ia.get (i:=j) (d:= .oth .fls [] r') (by rw [Qe,hj];rfl);obtain ⟨a,us,o,rfl,e3,e4⟩:=Qr0 e2;exact ⟨a,us,o,e1,e3,e4⟩
  obtain ⟨ps,rfl⟩: ∃ ps:List Addr,vs=ps.map V.ref:=by
   refine ⟨vs.map λv=>match v with | .ref a=>a | _=>0,?_⟩;apply JO;intro j;rw [Qe,Qe];cases hj:vs[j]? with
   | none=>rfl
   | some v =>
    have Ks:=(Q4.mp hj).1;obtain ⟨a,us,o,e1,_⟩:=each j _ (Qc (show j < rows.length by omega));rw [hj] at e1;cases e1;rfl
  rw [Q2] at hvl;have psat: ∀ (j:Nat) a,ps[j]? =some a-> ∃ r' us o,rows[j]? =some r'/\H1 a=some (.frz o (.lst us))/\Va X.K H1 r' us:=λj a hj=>by
   have Ks:=(Q4.mp hj).1;have hrj:rows[j]? =some rows[j]:=Qc (by omega);obtain ⟨a',us,o,e1,e2,e3⟩:=each j _ hrj;rw [Qe,hj] at e1;cases e1;exact ⟨_,us,o,hrj,e2,e3⟩
  refine ⟨l,ps,λj=>(rows.getD j []).length,rfl,sq,λj a hj=> ?_,?_,λj a hj hb=> ?_⟩
  ·obtain ⟨r',us,o,e1,e2,e3⟩:=psat j a hj;refine ⟨us,.inl (.inr ⟨o,e2⟩),?_⟩;show us.length=(rows.getD j []).length;rw [Qa,e1,<- e3.length];rfl
  ·rintro rfl;have:=(Q4.mp hr).1;have h0:rows.length=0:=hvl;omega
  ·obtain ⟨r',us,o,e1,e2,e3⟩:=psat j a hj;obtain ⟨r0,f1,f2⟩:=hi;rw [hr] at f1;cases f1;have hil:=(Q4.mp hr).1;have hjl:=(Q4.mp e1).1;have gj:(rows.getD j []).length=r'.length:=by rw [Qa,e1];rfl
   have gi:(rows.getD i []).length=r.length:=by rw [Qa,hr];rfl
   have b1:(rows.getD j []).length<=(rows.getD i []).length/\(i < j->(rows.getD j []).length < (rows.getD i []).length):=hb i (by omega);have b2:=f2 j r' e1;rw [gj,gi] at b1;have:j=i:=by
    rcases Qli j i with z | z | z
    ·have:=b2.2 z;omega
    ·exact z
    ·have:=b1.2 z;omega
   subst this;rw [hr] at e1;cases e1;exact qq _ H1 s1 (Qih e2 e3)⟩
end
end L2
namespace K24
open PySem L2 RH WY
noncomputable def BJ (q:List D×List (List D)) (key:D):List D:=if key∈q.1 then q.2.getD (q.1.idxOf key) [] else []
theorem Qob {f key k:D} {q:List D×List (List D)} (hl:q.1.length=q.2.length):BJ (L2.JL f q key) k=if k=key then BJ q k++[f] else BJ q k:=by
 unfold L2.JL BJ
 by_cases hk:key∈q.1
 ·rw [Qj hk]
  by_cases he:k=key
  ·subst he;have Ks:=QP hk;rw [Qj rfl,Qj hk,Qj hk,Qa,Qa,Zk,Qc (show q.1.idxOf k < q.2.length by omega)]
   simp
  ·rw [Qg he]
   by_cases h2:k∈q.1
   ·rw [Qj h2,Qj h2,Qa,Qa,Zk];have Kn:q.1.idxOf key≠q.1.idxOf k:=λz=>he (by
     have h3:=Wq (QP hk);have h4:=Wq (QP h2);rw [<- h3,<- h4];simp [z])
    simp [Kn]
   ·rw [Qg h2,Qg h2]
 ·rw [Qg hk]
  by_cases he:k=key
  ·subst he;rw [Qj rfl,Qj (by simp:k∈q.1++[k]),Qg hk];show (q.2++[[f]]).getD ((q.1++[k]).idxOf k) []=_;rw [Bk,Qg hk];simp [Qa,hl]
  ·rw [Qg he]
   by_cases h2:k∈q.1
   ·have Ks:=QP h2;rw [Qj (show k∈q.1++[key] from Ji _ h2),Qj h2];show (q.2++[[f]]).getD ((q.1++[key]).idxOf k) []=_;rw [Bk,Qj h2,Qa,Qa,QU (by omega)]
   ·rw [Qg (show k ∉ q.1++[key] by simp [h2,he]),Qg h2]
theorem Qoa {f key:D} {q:List D×List (List D)} (hl:q.1.length=q.2.length):(L2.JL f q key).1.length=(L2.JL f q key).2.length:=by
 unfold L2.JL;split
 ·simpa using hl
 ·simp [hl]
theorem Qk0 {f k:D}: ∀ (l:List D) {q:List D×List (List D)},l.Nodup->q.1.length=q.2.length->(l.foldl (L2.JL f) q).1.length=(l.foldl (L2.JL f) q).2.length/\BJ (l.foldl (L2.JL f) q) k=if k∈l then BJ q k++[f] else BJ q k
 | [],q,_,hl=>⟨hl,by simp⟩
 | x::l,q,nd,hl=>by
  have nd':=J5.mp nd;obtain ⟨h1,h2⟩:=Qk0 (f:=f) (k:=k) l nd'.2 (Qoa (f:=f) (key:=x) hl);refine ⟨h1,?_⟩;rw [QY,h2,Qob hl]
  by_cases hx:k=x
  ·subst hx;rw [Qg nd'.1,Qj rfl,Qj Q8]
  ·rw [Qg hx]
   by_cases hm:k∈l
   ·rw [Qj hm,Qj (Q7 _ hm)]
   ·rw [Qg hm,Qg (by simp [hx,hm])]
theorem Qqu (a:RH.At):(WN a).Nodup:=by
 unfold WN;rw [J5];refine ⟨λh=> ?_,?_⟩
 ·obtain ⟨p,_,e⟩:=Q6.mp h;simp at e
 ·rw [List.Nodup,Gw];intro i j hi hj hij h;simp at h;omega
theorem Qjt {key:D}: ∀ (as:List RH.At) {q:List D×List D×List (List D)} {z:List RH.At},q.2.1.length=q.2.2.length->BJ q.2 key=z.map RH.At.d->(as.foldl shS q).2.1.length=(as.foldl shS q).2.2.length/\BJ (as.foldl shS q).2 key=(z++Yz as key).map RH.At.d
 | [],q,z,h1,h2=>⟨h1,by simpa [Yz] using h2⟩
 | a::as,q,z,h1,h2=>by
  obtain ⟨e1,e2⟩:=Qk0 (f:=a.d) (k:=key) (WN a) (Qqu a) h1;have e3:BJ (shS q a).2 key=(if key∈WN a then z++[a] else z).map RH.At.d:=by
   refine e2.trans ?_;split
   ·rw [h2];simp
   ·exact h2
  obtain ⟨f1,f2⟩:=Qjt (key:=key) as (q:=shS q a) e1 e3;refine ⟨f1,f2.trans ?_⟩;congr 1;unfold Yz;rw [WS]
  by_cases hk:key∈WN a
  ·simp [hk]
  ·simp [hk]
theorem Qor (as:List RH.At) (key:D):(shA as).2.1.length=(shA as).2.2.length/\BJ (shA as).2 key=(Yz as key).map RH.At.d:=by
 obtain ⟨h1,h2⟩:=Qjt (key:=key) as (q:=([],[],[])) (z:=[]) rfl (by simp [BJ]);exact ⟨h1,h2⟩
theorem Qiy (as:List RH.At) (key:D):Qg6 (shA as).2.1 ((shA as).2.2.map λr=> .oth .fls [] r) key (.oth .fls [] [])= .oth .fls [] ((Yz as key).map RH.At.d):=by
 obtain ⟨h1,h2⟩:=Qor as key;rw [<- h2];unfold Qg6 BJ;split
 ·rw [Qa,Qa,Qe];cases (shA as).2.2[List.idxOf key (shA as).2.1]? <;>rfl
 ·rfl
noncomputable def shD (w:World) (C:Addr) (as:List RH.At):D:=shelfD w C (shA as).1 (shA as).2.1 (shA as).2.2
theorem Qfe: ∀ (as:List RH.At) {q:List D×List D×List (List D)},KOk q.2.1->KOk (as.foldl shS q).2.1
 | [],_,h=>h
 | a::as,q,h=>Qfe as (q:=shS q a) (by
  show KOk (Qh5 a q.2).1;unfold Qh5;have key: ∀ (l:List D) (q:List D×List (List D)),(∀ k∈l,XKey k)->KOk q.1->KOk (l.foldl (L2.JL a.d) q).1:=λl=>by
   induction l with
   | nil=>exact λq _ h=>h
   | cons x l ih =>
    intro q hx h;refine ih _ (λk hk=>hx k (Q7 _ hk)) ?_;unfold L2.JL;split
    ·exact h
    ·intro y hy;rcases Qy.mp hy with hy | hy
     ·exact h y hy
     ·simp at hy;subst hy;exact hx _ Q8
  exact key _ _ (λk hk=>BH a hk) h)
theorem Qjr (as:List RH.At):KOk (shA as).2.1:=Qfe as λ_ h=>nomatch h
theorem Qij: ∀ (rs:List (List RH.At)) (b:List RH.At),∃ i,((b::rs)[i]? =some (rs.foldl (λb r=>if r.length < b.length then r else b) b))/\ ∀ (j:Nat) r',(b::rs)[j]? =some r'->(rs.foldl (λb r=>if r.length < b.length then r else b) b).length<=r'.length/\(j < i->(rs.foldl (λb r=>if r.length < b.length then r else b) b).length < r'.length)
 | [],b=>⟨0,rfl,λj r' h=>by
  match j,h with
  | 0,h =>
   have:b=r':=by simpa using h
   subst this;exact ⟨Q5 _,λz=>absurd z (by omega)⟩
  | j+1,h=>simp at h⟩
 | x::rs,b=>by
  by_cases hx:x.length < b.length
  ·obtain ⟨i,h1,h2⟩:=Qij rs x;have e:((x::rs).foldl (λb r=>if r.length < b.length then r else b) b)=rs.foldl (λb r=>if r.length < b.length then r else b) x:=by
    rw [QY,Qj hx]
   rw [e];refine ⟨i+1,by simpa using h1,λj r' h=> ?_⟩
   match j,h with
   | 0,h =>
    have:b=r':=by simpa using h
    subst this;have:=(h2 0 x rfl).1;exact ⟨by omega,λ_=>by omega⟩
   | j+1,h =>
    obtain ⟨k1,k2⟩:=h2 j r' (by simpa using h);exact ⟨k1,λz=>k2 (by omega)⟩
  ·obtain ⟨i,h1,h2⟩:=Qij rs b;have e:((x::rs).foldl (λb r=>if r.length < b.length then r else b) b)=rs.foldl (λb r=>if r.length < b.length then r else b) b:=by
    rw [QY,Qg hx]
   rw [e]
   match i,h1,h2 with
   | 0,h1,h2 =>
    refine ⟨0,by simpa using h1,λj r' h=> ?_⟩
    match j,h with
    | 0,h=>exact ⟨(h2 0 r' (by simpa using h)).1,λz=>absurd z (by omega)⟩
    | 1,h =>
     have:x=r':=by simpa using h
     subst this;have:=(h2 0 b rfl).1;exact ⟨by omega,λz=>absurd z (by omega)⟩
    | j+2,h=>exact ⟨(h2 (j+1) r' (by simpa using h)).1,λz=>absurd z (by omega)⟩
   | i+1,h1,h2 =>
    refine ⟨i+2,by simpa using h1,λj r' h=> ?_⟩
    match j,h with
    | 0,h =>
     obtain ⟨k1,k2⟩:=h2 0 r' (by simpa using h);exact ⟨k1,λ_=>k2 (by omega)⟩
    | 1,h =>
     have:x=r':=by simpa using h
     subst this;have:=(h2 0 b rfl).2 (by omega);exact ⟨by omega,λ_=>by omega⟩
    | j+2,h =>
     obtain ⟨k1,k2⟩:=h2 (j+1) r' (by simpa using h);exact ⟨k1,λz=>k2 (by omega)⟩
theorem Qut {l:List (List RH.At)} (h:l≠[]): ∃ i,(l[i]? =some (Qqe l))/\MinAt (l.map λr=>r.map RH.At.d) i:=by
 cases l with
 | nil=>exact absurd rfl h
 | cons b rs =>
  obtain ⟨i,h1,h2⟩:=Qij rs b;refine ⟨i,h1,(Qqe (b::rs)).map RH.At.d,by rw [Qe,h1];rfl,λj r' hj=> ?_⟩;rw [Qe] at hj;cases q:(b::rs)[j]? with
  | none=>rw [q] at hj;cases hj
  | some r0 =>
   rw [q] at hj;cases hj;rw [Q2,Q2];exact h2 j r0 q
section
variable {P:Program} {w:World} {K:W.Frag} {mg:Str->Option Value} {base:Heap} {C:Addr}
theorem Qel {X:Cx} {ρ:List (Option D)} {e:Expr} {d:D} {as:List RH.At} {p pos:Pos} (Z:ShC X.K X.mg C) (G:MkC X.prog X.w X.K X.mg X.base C 2 Qa6 (Qhu X.w X.K C)) (hr:Room 3 X.A) (ha:PD X ρ e d) (hd:d= .lst (as.map RH.At.d) \/ d= .tup (as.map RH.At.d)) (hl:as.length<=1000) (h3: ∀ a∈as,a.ts.length<=3)
  (hg:Gl X "Shelf" :=by rfl) (hs:starEach [e] X.env=[(false,eval e X.env)]:=by rfl):PD X ρ (.Call (.Name "Shelf" p) [e] [] pos) (shD X.w C as) :=
 ⟨λKz s σ H Q I q=>by
  obtain ⟨f,fd,M,hb,F⟩:=G;refine Jh (Qtt M F hr hg Z.mgC hb .nil pass0 (Vc ha Vn hs).pe (by decide) hs rfl Kz s σ H (λv H2=> ∃ p t r aa bs ls,v= .ref p/\Sh X.w X.K C H2 p t r (shA as).1 aa (shA as).2.1 bs ls (shA as).2.2/\ ∀ b o,H b=some o->H2 b=some o/\b≠p/\b≠t/\b≠r/\b ∉ ls) I ⟨q.1,λvs H1 s1 ia x dx nx ndx Kn=> ?_⟩) (λu s1 ⟨v,H2,I2,rv,p,t,r,aa,bs,ls,ev,S,kp⟩=> ?_) λ_ _ z=>z
  ·obtain ⟨v,rfl,iv⟩:=ia.one;have sm:Same H1 (upd (upd H1 dx (.own x)) x (.ins C dx [])):=(Same.upd ndx).trans (Same.upd (by rw [Qo Kn.symm];exact nx));have sq:Seq X.K (upd (upd H1 dx (.own x)) x (.ins C dx [])) (as.map RH.At.d) v:=by
    rcases hd with rfl | rfl
    ·exact .inl (iv.same sm)
    ·exact .inr (iv.same sm)
   refine ⟨x,dx,as,v,rfl,Vu,sq,hl,h3,λH' t r aa bs ls S keep nt nr nls=>⟨rfl,x,t,r,aa,bs,ls,rfl,S,λb o e=> ?_⟩⟩;have e1:=s1 _ _ e;have e2:=sm _ _ e1;have hbx:b≠x:=QH e1 nx;refine ⟨keep b o e2 hbx,hbx,QH e2 nt,QH e2 nr,λz=> ?_⟩;rw [nls b z] at e2;cases e2
  ·subst ev;obtain ⟨H',I',ts,off,is⟩:=S.freeze I2;refine ⟨.ref p,H',I',rv,q.2 _ H' (λb o e=> ?_) is⟩;obtain ⟨k1,k2,k3,k4,k5⟩:=kp b o e;rw [off b k2 k3 k4 k5];exact k1⟩
end
def plK (b:RH.At) (p:Str×Nat):D:= .tup [.str b.k,.int p.2,.str p.1]
def plP (b:RH.At) (i:Nat):List D:= .tup [.str b.k]::((b.ts.zipIdx.take i).filter λp=> !Qt p.1).map (plK b)
theorem Qtq (b:RH.At):plP b b.ts.length=places Qt b:=by
 unfold plP places;rw [Ys (by simp)];rfl
theorem Qp3 {b:RH.At} {i:Nat} {t:Str} (h:b.ts[i]? =some t):plP b (i+1)=if Qt t=true then plP b i else plP b i++[.tup [.str b.k,.int i,.str t]]:=by
 have hz:b.ts.zipIdx[i]? =some (t,i):=by simp [h]
 unfold plP;rw [Yy hz,Qhh];cases ho:Qt t<;>simp [plK,ho,WS]
theorem Qka (b:RH.At) (i:Nat):(plP b i).length<=b.ts.length+1:=by
 unfold plP;rw [Qq,Q2];have h1:=Wv (λp:Str×Nat=> !Qt p.1) (b.ts.zipIdx.take i);have h2:(b.ts.zipIdx.take i).length<=b.ts.length:=by rw [QA,List.length_zipIdx];omega
 omega
theorem Qi7 {b:RH.At} {k:D} (h:k∈places Qt b):XKey k:=by
 unfold places at h;rcases Qb.mp h with rfl | h
 ·exact ⟨by simp [keyOk,keyOks],by simp [dep,deps],_,rfl⟩
 ·obtain ⟨p,_,rfl⟩:=Q6.mp h;exact ⟨by simp [keyOk,keyOks],by simp [dep,deps],_,rfl⟩
theorem Qxf (b:RH.At) (i:Nat):LFs (plP b i)=true:=by
 unfold plP;rw [WK];intro d hd;rcases Qb.mp hd with rfl | hd
 ·simp [LF,LFs]
 ·obtain ⟨p,_,rfl⟩:=Q6.mp hd;simp [plK,LF,LFs]
section
variable {P:Program} {w:World} {K:W.Frag} {mg:Str->Option Value} {base:Heap} {C:Addr}
def RNear (w:World) (C:Addr):List D->D->Prop:=λds d=> ∃ (as:List RH.At) (a:RH.At) (g:WY.Gv) (fz:Bool),ds=[shD w C as,a.d,gvD g fz]/\g.1.length=g.2.length/\a.ts.length<=3/\(∀ t∈(We g a).ts,t.length<=1000)/\d= .oth .fls [] ((Yk Qt as a g).map RH.At.d)
abbrev Qc5:List Str:=["self", "atom", "words"]
abbrev Qw0:List Str:=["self", "atom", "words", "places", "place", "word"]
theorem Qi2:Vf Qw0 Qc5 (Vs BU):=⟨rfl,rfl,rfl,by decide +kernel,rfl,by decide +kernel,by decide +kernel⟩
theorem Qu8 (T:Txt K mg) (Z:ShC K mg C) (F:FdM K C "near" "Shelf.near" BU Qc5) (GF:PrD P w K mg base "filled" 1 B1 RFilled) (GO:PrD P w K mg base "is_open" 1 ["term"] ROpen):Mt P w K mg base C "near" 2 Qc5 (spD K 3 (RNear w C)):=by
 obtain ⟨fn,fdn,hm,hf,hbi⟩:=F;refine ⟨fn,fdn,hm,hbi,Qyn hf Qi2 (by decide) λKm A outer s H E ds d hr hR _=> ?_⟩;obtain ⟨as,a,g,fz,rfl,hl,h3,ht,rfl⟩:=hR;have hu:=Qck hr;have hu15:(Ga CX0 P w K mg base Qw0 "Shelf.near" (Vs BU) fn Km A outer s H E).nox.A.units+15 < cLine:=lt15 (hu22 hr);have hbt:(We g a).ts.length<=3:=by simpa [We] using h3
 have hbk:(We g a).k=a.k:=rfl;generalize hb:We g a=b at ht hbt hbk
 let Kq:Nat->List Sl:=λi=>[.arg (shD w C as),.arg a.d,.arg (gvD g fz),.own (plP b i),.no,.no]
 refine Vq (JR (i:=3) (ds:=plP b 0) (U2 (W5 (Vc (Vp (Vc (Jf (da:= .tup [.str a.k,.tup (a.ts.map .str)]) (Vv 1 rfl) Vi at0) Vn) (Vl (by simp))) Vn) (Vl (by simp))) (by simp [plP,hbk])) (Qxf b 0) Qi2.nd) ?_;refine Vq (Quk (m:=false) (jx:=4) (jy:=5) (ds:=b.ts.map .str) Kq QI rfl T.bEnu (Jf (da:= .tup [.str b.k,.tup (b.ts.map .str)]) (Zc GF (hr.mono (by decide)) (Vc (Vv 1 rfl) (Vc (Vv 2 rfl) Vn)) ⟨a,g,fz,rfl,hl,by omega,by rw [hb];rfl⟩) Vi at1) (Jw (λ_=>JE) _) rfl (λi d hd=> ?_) Qi2.nd) ?_
 ·rw [Qe] at hd;cases hx:b.ts[i]? with
  | none=>rw [hx] at hd;cases hd
  | some t =>
   rw [hx] at hd;cases hd;refine ⟨false,?_,λh=>nomatch h⟩;have htl:=ht t (Q9 hx);show QOs _ H [.arg (shD w C as),.arg a.d,.arg (gvD g fz),.own (plP b i),.any (.int i),.any (.str t)] _ (.next false [.arg (shD w C as),.arg a.d,.arg (gvD g fz),.own (plP b (i+1)),.no,.no]);rw [Qp3 hx];cases ho:Qt t with
   | true =>
    rw [Qj rfl];refine ZE (Vz (ZF (r:= .next true [.arg (shD w C as),.arg a.d,.arg (gvD g fz),.own (plP b i),.any (.int i),.any (.str t)]) (Qd3 (Bh (Zc GO (hr.mono (by decide)) (Vc (Vv 5 rfl) Vn) ⟨t,rfl,htl,rfl⟩))) (λz=> ?_) (λ_=>Za))) (WkI.wk (.keep (.keep (.keep (.keep (.no (.no .nil))))))) (λh=>nomatch h);rw [ho] at z;cases z
   | false =>
    rw [Qg Qn];refine ZE (Vz (ZF (r:= .next false [.arg (shD w C as),.arg a.d,.arg (gvD g fz),.own (plP b i++[.tup [.str b.k,.int i,.str t]]),.any (.int i),.any (.str t)]) (Qd3 (Bh (Zc GO (hr.mono (by decide)) (Vc (Vv 5 rfl) Vn) ⟨t,rfl,htl,rfl⟩))) (λ_=> ?_) (λz=> ?_))) (WkI.wk (.keep (.keep (.keep (.keep (.no (.no .nil))))))) (λh=>nomatch h)
    ·refine Vz (Y7 (i:=3) (d:= .tup [.str b.k,.int i,.str t]) rfl (Vp (Vc (by rw [hbk];exact Jf (da:= .tup [.str a.k,.tup (a.ts.map .str)]) (Vv 1 rfl) Vi at0) (Vc (Vv 4 rfl) (Vc (Vv 5 rfl) Vn))) (Vl (by simp))) (by simp [LF,LFs]) (AL.h (τ:=[.arg (shD w C as),.arg a.d,.arg (gvD g fz),.own (plP b i),.any (.int i),.any (.str t)]) ⟨rfl,rfl,QE⟩) ?_);have:=Qka b i;have h1:(1000000:Nat)<=sizeLine:=Vl (Q5 _);omega
    ·rw [ho] at z;cases z
 ·rw [Q2];have eP:plP b b.ts.length=places Qt b:=Qtq b;show QOs _ H [.arg (shD w C as),.arg a.d,.arg (gvD g fz),.own (plP b b.ts.length),.no,.no] _ _;rw [eP];obtain ⟨i,m1,m2⟩:=Qut (l:=(places Qt b).map (Yz as)) (by simp [places]);have e2:Yk Qt as a g=Qqe ((places Qt b).map (Yz as)):=by unfold Yk;rw [hb]
  rw [e2];refine Vz (WG (Qys (rows:=((places Qt b).map (Yz as)).map λr=>r.map RH.At.d) rfl T.bMin T.bLen (PDL.pd (U2 (ZK (f:=λkey=> .oth .fls [] ((Yz as key).map RH.At.d)) rfl (UY (Vv 3 rfl)) (Vl ?_) λkey hk cl Cc s' H' ex=> ?_) ?_)) m2 (by rw [Qe,m1];rfl)))
  ·rw [<- eP];have:=Qka b b.ts.length;omega
  ·rw [<- Qiy];exact Qvb (fz:=true) hu15 (Jao (i:=1) (ss:=Qhx) (Vv 1 rfl) Z.cl Z.nR (by decide +kernel) rfl rfl) (Vv 0 rfl) (Qyy (W5 Vn (Vl (by simp))) rfl) (Qjr as) (Qi7 hk)
  ·simp [Qx,QZ]
end
end K24
namespace L2
open PySem PySem.Spec PyProof.Rows
section
variable {X:Cx} {H₀:Hp} {τ:List Sl} {pos p ap cp ip py pr:Pos} {x y:Str} {i j:Nat} {ec ek ew e3:Expr} {ks vs ks' Ki:List Str} {k w u:Str} {c:Bool}
theorem Yd (vs:List Str):LFs (vs.map D.str)=true:=Jw (λ_=>JE) _
theorem Qic (hi:τ[i]? =some (.odc ks (vs.map .str))) (hc:PB X (dat τ) ec c) (hk:PD X (dat τ) ek (.str k)) (hw:PD X (dat τ) ew (.str w)) (he:PD X (dat τ) e3 (.str k)) (hz:ks.length < sizeLine) (hl: ∀ (j:Nat) (d:D),τ[j]? =some (.any d)->LF d=true) (hij:i≠j)
  (h:(c=false/\ks'=ks/\Ki=vs/\u=k) \/ (c=true/\k ∉ ks/\ks'=ks++[k]/\Ki=vs++[w]/\u=w) \/ (c=true/\(∃ n:Nat,ks[n]? =some k/\vs[n]? =some u)/\ks'=ks/\Ki=vs))
  (hN:X.N.Nodup) (hNi:X.N[i]? =some x:=by rfl) (hNj:X.N[j]? =some y:=by rfl) (hv:Vis X.env.scope x:=by first | exact QJ rfl | exact QD (QJ rfl) | exact QD (QD rfl)) (hdb:(x == ("__debug__" :Str))=false:=by decide) (hcd:(x == ("__classdict__" :Str))=false:=by decide)
  (hy:Loc X.env.scope y:=by first | exact QJ rfl | exact QD rfl) (hf:X.fn y=true \/ X.env.scope.names.lookup y=some .local:=by first | exact .inl rfl | exact .inr rfl)
  (hs:starEach [ek,ew] X.env=[(false,eval ek X.env),(false,eval ew X.env)]:=by rfl) (hs2:starEach [ew] X.env=[(false,eval ew X.env)]:=by rfl)
  (hbase:attributeBase (.Name x p) "setdefault" X.env (eval (.Name x p) X.env)=eval (.Name x p) X.env:=by rfl)
  (hfew:((backTo cp (starEach [ek,ew] X.env)).all (λx=> !x.1) && (backToKw cp (keywordEach [] X.env)).all (λx=>x.1.isSome) && decide ([ek,ew].length+([]:List Keyword).length+(if ([]:List Keyword).isEmpty then 0 else 1) < 30))=true:=by rfl)
  (Kh:(ap.endLine == cp.line)=true:=by rfl) (hplain:(backTo cp (starEach [ew] X.env)).any (·.1)=false:=by rfl)
  (hsw:swapsWith (.IfExp ec (.Call (.Attribute (.Name x p) "setdefault" ap) [ek,ew] [] cp) e3 ip) (some (.Name y py)) pos.line X.env=pure false:=by rfl) :
  QO X H₀ τ (.Assign [.Name y py] (.IfExp ec (.Call (.Attribute (.Name x p) "setdefault" ap) [ek,ew] [] cp) e3 ip) pos) (.next false ((τ.set i (.odc ks' (Ki.map .str))).set j (.any (.str u)))):=by
 refine ⟨(Gj hN hNj hy (Qp9 hc.pe (Qc3 (T:= "dict") Yf Wb Uf Qup (Wr hNi hv hdb hcd) (Vc hk (Vc hw Vn hs2) (by rw [hs,hs2])).pe hbase hfew Kh (by rw [hs,hs2]) hplain) he.pe) hsw hf).imp λD σ H q=> ?_⟩;have same_set: ∀ {τ:List Sl},τ[i]? =some (.odc ks (vs.map .str))->τ.set i (.odc ks (vs.map .str))=τ:=λ{τ} hi=>by
  apply JO;intro m
  by_cases hm:i=m
  ·subst hm;rw [Qm (Q4.mp hi).1,hi]
  ·rw [Qh hm]
 refine ⟨q.1.env,λH1 s1=> ?_⟩;have E1:=q.1.step s1;rcases h with ⟨rfl,rfl,rfl,rfl⟩ | ⟨rfl,hnk,rfl,rfl,rfl⟩ | ⟨rfl,⟨n,hn1,hn2⟩,rfl,rfl⟩
 ·rw [same_set hi] at q;refine Qqy ⟨E1.env,λv H2 s2 i2=> ?_⟩;cases JC i2;exact q.2 _ _ (s1.trans s2).t ((E1.step s2).set (s:= .any (.str u)) j ⟨_,rfl,ZG _⟩ λds e=>nomatch e)
 ·refine Qmw ?_;obtain ⟨o,e0,pd,us,rfl,np,dk,lf,ia⟩:=E1.sl i _ hi;have hus:us=vs.map V.str:=Qo9 ia;refine ⟨_,e0,.inr (.inr (.inl ⟨rfl,.inl ⟨_,dk.at_⟩⟩)),E1.env,λws H2 s2 iw=> ?_⟩;obtain ⟨w1,w2,rfl,i1,i2⟩:=iw.two;cases JC i1;cases JC i2;have dk2:=s2.dk dk;refine ⟨pd,W3 ks us,k,u,rfl,rfl,dk2.at_,by rw [OK ks us dk.len];exact hz,λv hv=> ?_,λhn=> ?_⟩
  ·rw [Br hnk] at hv;cases hv
  ·have E2:=E1.step s2;have ie:Va X.K H2 ((vs++[u]).map .str) (us++[.str u]):=by
    rw [QF];exact (ia.same s2).append (Vg (ZG u) QR)
   have nd:(ks++[k]).Nodup:=by
    rw [Jx];exact ⟨dk.nd,by simp,λa ha b hb=>by simp at hb;subst hb;exact λe=>hnk (e ▸ ha)⟩
   have E3:=E2.mutD (ks2:=ks++[k]) (ws:=us++[.str u]) (es:=(vs++[u]).map .str) hi e0 np dk2 hl (Yd _) (by simp [dk.len]) nd ie;rw [Qlp dk.len] at E3;exact q.2 _ _ ((s1.trans s2).t.trans (TSame.dk dk2.at_)) (E3.set (s:= .any (.str u)) j ⟨_,rfl,ZG _⟩ λds e=>nomatch e)
 ·rw [same_set hi] at q;refine Qmw ?_;obtain ⟨o,e0,pd,us,rfl,np,dk,lf,ia⟩:=E1.sl i _ hi;have hus:us=Ki.map V.str:=Qo9 ia;refine ⟨_,e0,.inr (.inr (.inl ⟨rfl,.inl ⟨_,dk.at_⟩⟩)),E1.env,λws H2 s2 iw=> ?_⟩;obtain ⟨w1,w2,rfl,i1,i2⟩:=iw.two;cases JC i1;cases JC i2;have dk2:=s2.dk dk;have hv2:Uh (W3 ks' us) (.inr k)=some (.str u):=UL dk.nd hn1 (by rw [hus,Qe,hn2];rfl);refine ⟨pd,W3 ks' us,k,w,rfl,rfl,dk2.at_,by rw [OK ks' us dk.len];exact hz,λv hv=> ?_,λhn=> ?_⟩
  ·rw [hv2] at hv;cases hv;exact q.2 _ _ (s1.trans s2).t ((E1.step s2).set (s:= .any (.str u)) j ⟨_,rfl,ZG _⟩ λds e=>nomatch e)
  ·rw [hv2] at hn;cases hn
theorem Qpw {ds:List D} (hi:τ[i]? =some (.odc ks ds)) (hNi:X.N[i]? =some x:=by rfl) (hv:Vis X.env.scope x:=by first | exact QJ rfl | exact QD (QJ rfl) | exact QD (QD rfl)) (hdb:(x == ("__debug__" :Str))=false:=by decide) (hcd:(x == ("__classdict__" :Str))=false:=by decide) :
  QO X H₀ τ (.Return (some (.Name x p)) pos) (.ret (.dct true (ks.map .str) ds)) :=
 ⟨λKz s σ H D I q=>by
  obtain ⟨o,e1,pd,us,rfl,n,dk,lf,ia⟩:=q.1.sl i _ hi;have hp':H pd=some (.dK (W3 ks us)):=dk.at_;obtain ⟨ob,I2⟩:=I.freezeD hp';have ts:TSame H (upd H pd (.frz ob (.dK (W3 ks us)))):=TSame.updM hp' (λ_ e=>nomatch e) (λ_ _ e=>nomatch e);refine Qdy (Wr hNi hv hdb hcd) Kz s σ _ D I2 ⟨.ref pd,e1,q.2 _ _ (λb o e=> ?_) ?_⟩
  ·rw [Qo (QH e n)];exact q.1.same b o e
  ·rw [Is];exact ⟨pd,ks,us,rfl,rfl,⟨dk.len,dk.nd,⟨ob,Vu⟩⟩,ia.tsame ts lf⟩⟩
end
end L2
namespace K24
open PySem L2 RH WY
theorem Qfi {op:Str->Bool}: ∀ (l:List (Str×Str)) {g:WY.Gv},Js op g l=none-> ∃ i g0 p,Js op g (l.take i)=some g0/\l[i]? =some p/\Jk op g0 p=none
 | [],g,h=>by cases h
 | p::l,g,h=>by
  cases q:Jk op g p with
  | none=>exact ⟨0,g,p,rfl,rfl,q⟩
  | some g1 =>
   unfold Js at h;rw [q] at h;obtain ⟨i,g0,p0,h1,h2,h3⟩:=Qfi l h;exact ⟨i+1,g0,p0,by rw [List.take_succ_cons];unfold Js;rw [q];exact h1,by simpa using h2,h3⟩
theorem Qdt {op:Str->Bool}: ∀ (l k:List (Str×Str)) {g:WY.Gv},Js op g (l++k)=(Js op g l).bind λg'=>Js op g' k
 | [],k,g=>rfl
 | p::l,k,g=>by
  show ((Jk op g p).bind λg'=>Js op g' (l++k))=((Jk op g p).bind λg'=>Js op g' l).bind λg'=>Js op g' k
  cases Jk op g p with
  | none=>rfl
  | some g1=>exact Qdt l k
theorem Qfj {op:Str->Bool} {l:List (Str×Str)} {g:WY.Gv} {i:Nat} {p:Str×Str} (h:l[i]? =some p):Js op g (l.take (i+1))=(Js op g (l.take i)).bind λg'=>Jk op g' p:=by
 rw [Yy h,Qdt];congr 1
 funext g'
 unfold Js;cases Jk op g' p<;>rfl
theorem Ou {op:Str->Bool} {l:List (Str×Str)} {g g':WY.Gv} {i j:Nat} (hij:i<=j) (h:Js op g (l.take j)=some g'): ∃ g0,Js op g (l.take i)=some g0:=by
 have e:l.take j=l.take i++(l.take j).drop i:=by
  have:=Qbg i (l.take j);rw [List.take_take,Nat.min_eq_left hij] at this;exact this.symm
 rw [e,Qdt] at h;cases q:Js op g (l.take i) with
 | none=>rw [q] at h;cases h
 | some g0=>exact ⟨g0,rfl⟩
def gAt (g:WY.Gv) (l:List (Str×Str)) (i:Nat):WY.Gv:=(Js Qt g (l.take i)).getD g
def GB (g:WY.Gv) (p:Str×Str):Str:=if Qt p.1=true then (if p.1∈g.1 then sub g p.1 else p.2) else p.1
def GD (g:WY.Gv) (p:Str×Str):WY.Gv:=if Qt p.1=true/\p.1 ∉ g.1 then (g.1++[p.1],g.2++[p.2]) else g
theorem Bv (g:WY.Gv) (p:Str×Str):Jk Qt g p=if GB g p=p.2 then some (GD g p) else none:=by
 unfold Jk GB GD
 by_cases h1:Qt p.1=true
 ·by_cases h2:p.1∈g.1
  ·simp [h1,h2]
  ·simp [h1,h2]
 ·simp [h1]
theorem Qhm {g:WY.Gv} {p:Str×Str} (hl:g.1.length=g.2.length):(Qt p.1=false/\(GD g p).1=g.1/\(GD g p).2=g.2/\GB g p=p.1) \/ (Qt p.1=true/\p.1 ∉ g.1/\(GD g p).1=g.1++[p.1]/\(GD g p).2=g.2++[p.2]/\GB g p=p.2) \/
  (Qt p.1=true/\(∃ n:Nat,g.1[n]? =some p.1/\g.2[n]? =some (GB g p))/\(GD g p).1=g.1/\(GD g p).2=g.2):=by
 unfold GB GD;cases h1:Qt p.1 with
 | false=>exact .inl ⟨rfl,by simp,by simp,by simp⟩
 | true =>
  by_cases h2:p.1∈g.1
  ·have Ks:=QP h2;refine .inr (.inr ⟨rfl,⟨g.1.idxOf p.1,?_,?_⟩,by simp [h2],by simp [h2]⟩)
   ·rw [Qc Ks,Wq]
   ·rw [Qj rfl,Qj h2];unfold sub subst;rw [Qj h2,Qa,Qc (by omega)];rfl
  ·exact .inr (.inl ⟨rfl,h2,by simp [h2],by simp [h2],by simp [h2]⟩)
def Qia:Option WY.Gv->D
 | none=> .non
 | some g=>gvD g true
theorem UN {op:Str->Bool}: ∀ (ts V:List Str),(Yx op V ts).length<=V.length+ts.length
 | [],V=>by simp [Yx]
 | t::ts,V=>by
  have h:=UN (op:=op) ts (WY.WJ op V t);have h2:(WY.WJ op V t).length<=V.length+1:=by
   unfold WY.WJ;split<;>simp
  show (Yx op (WY.WJ op V t) ts).length<=_;rw [Qq];omega
theorem ON {op:Str->Bool}: ∀ (l:List (Str×Str)) {g g':WY.Gv},Js op g l=some g'-> ∀ v∈g'.2,v∈g.2 \/ ∃ p∈l,p.2=v
 | [],g,g',h,v,hv=>by cases h;exact .inl hv
 | p::l,g,g',h,v,hv=>by
  unfold Js at h;cases q:Jk op g p with
  | none=>rw [q] at h;cases h
  | some g1 =>
   rw [q] at h;rcases ON l h v hv with z | ⟨p',h1,h2⟩
   ·have:g1=g \/ g1.2=g.2++[p.2]:=by
     unfold Jk at q;split at q
     ·split at q
      ·split at q
       ·cases q;exact .inl rfl
       ·cases q
      ·cases q;exact .inr rfl
     ·split at q
      ·cases q;exact .inl rfl
      ·cases q
    rcases this with rfl | e
    ·exact .inl z
    ·rw [e] at z;rcases Qy.mp z with z | z
     ·exact .inl z
     ·simp at z;exact .inr ⟨p,Q8,z.symm⟩
   ·exact .inr ⟨p',Q7 _ h1,h2⟩
section
variable {P:Program} {w:World} {K:W.Frag} {mg:Str->Option Value} {base:Heap} {C:Addr}
def RMatch:List D->D->Prop:=λds d=> ∃ (g:WY.Gv) (a f:RH.At) (V:List Str) (fz:Bool),ds=[gvD g fz,a.d,f.d]/\GOk Qt V g/\V.length<=100/\a.ts.length<=3/\f.ts.length<=1000/\(∀ t∈a.ts,t.length<=1000)/\d=Qia (Jv Qt g a f)
abbrev Qm8:List Str:=["words", "atom", "fact"]
abbrev Ja2:List Str:=["words", "atom", "fact", "longer", "term", "word", "wanted"]
theorem OU:Vf Ja2 Qm8 (Vs GS):=⟨rfl,rfl,rfl,by decide +kernel,rfl,by decide +kernel,by decide +kernel⟩
theorem Qpk (T:Txt K mg) (F:Fd K mg "matched" GS Qm8) (GO:PrD P w K mg base "is_open" 1 ["term"] ROpen):PrD P w K mg base "matched" 2 Qm8 RMatch:=by
 refine G0 (N:=Ja2) F OU (by decide) λf0 Km A outer s H E ds d hr hR _=> ?_
 obtain ⟨g,a,f,V,fz,rfl,gok,hV,h3,hf3,hts,rfl⟩:=hR;have z1:(1000000:Nat)<=sizeLine:=Vl (Q5 _);have test: ∀ (X:Cx) (ρ:List (Option D)) (c1 c2:Expr) (p:Pos),PB X ρ c1 (!decide (a.k=f.k))->PB X ρ c2 (!decide ((a.ts.length:Int)=(f.ts.length:Int)))->PB X ρ (.BoolOp .Or [c1,c2] p) (!decide (a.k=f.k/\a.ts.length=f.ts.length)):=λX ρ c1 c2 p h1 h2=>by
  have e:(!decide (a.k=f.k/\a.ts.length=f.ts.length))=(!decide (a.k=f.k) || !decide ((a.ts.length:Int)=(f.ts.length:Int))):=by
   by_cases h1:a.k=f.k<;>by_cases h2:a.ts.length=f.ts.length<;>simp [h1,h2]<;>omega
  rw [e];exact Qjd (Qvg h1 (λz=>by rw [z];exact Qs9 h2) (λz=>by rw [z];rfl))
 by_cases hk:a.k=f.k/\a.ts.length=f.ts.length
 ·refine Vq (ZF (r:= .next true _) (test _ _ _ _ _ (Qgx (Jf (da:= .tup [.str a.k,.tup (a.ts.map .str)]) (Vv 1 rfl) Vi at0) (Jf (da:= .tup [.str f.k,.tup (f.ts.map .str)]) (Vv 2 rfl) Vi at0))
   (Qw9 (YK (n:=a.ts.length) T.bLen (Jf (da:= .tup [.str a.k,.tup (a.ts.map .str)]) (Vv 1 rfl) Vi at1) (by simp [BP]) (λx e=>nomatch e)) (YK (n:=f.ts.length) T.bLen (Jf (da:= .tup [.str f.k,.tup (f.ts.map .str)]) (Vv 2 rfl) Vi at1) (by simp [BP]) (λx e=>nomatch e)))) (λz=> ?_) (λ_=>Za)) ?_
  ·rw [Jz hk] at z;cases z
  refine Vq (B3 (i:=3) (Ql0 T.bDct (Vv 0 rfl)) (Yd _) OU.nd) ?_;have em:Jv Qt g a f=Js Qt g (a.ts.zip f.ts):=Qj hk;rw [em];generalize hl:a.ts.zip f.ts=l;have lat: ∀ (i:Nat) (u v:D),(a.ts.map D.str)[i]? =some u->(f.ts.map D.str)[i]? =some v-> ∃ p,l[i]? =some p/\u= .str p.1/\v= .str p.2/\p.1.length<=1000:=λi u v hu hv=>by
   rw [Qe] at hu hv;cases q1:a.ts[i]? with
   | none=>rw [q1] at hu;cases hu
   | some t =>
    cases q2:f.ts[i]? with
    | none=>rw [q2] at hv;cases hv
    | some x =>
     rw [q1] at hu;rw [q2] at hv;cases hu;cases hv;exact ⟨(t,x),by rw [<- hl];exact Jt.mpr ⟨q1,q2⟩,rfl,rfl,hts t (Q9 q1)⟩
  let Kq:Nat->List Sl:=λi=>[.arg (gvD g fz),.arg a.d,.arg f.d,.odc (gAt g l i).1 ((gAt g l i).2.map .str),.no,.no,.no]
  have gat: ∀ i gi,Js Qt g (l.take i)=some gi->gAt g l i=gi:=λi gi h=>by unfold gAt;rw [h];rfl
  have bd: ∀ i gi,Js Qt g (l.take i)=some gi->gi.1.length=gi.2.length/\gi.1.length < sizeLine:=λi gi h=>by
   have r:=(Qi4 _ gok h).1;refine ⟨r.len,?_⟩;have h1:=UN (op:=Qt) ((l.take i).map (·.1)) V;rw [r.keys];have h2:((l.take i).map (·.1)).length<=3:=by
    rw [Q2,QA,<- hl,WA];omega
   omega
  cases q:Js Qt g l with
  | none =>
   obtain ⟨i0,g0,p0,e1,e2,e3⟩:=Qfi l q;obtain ⟨f1,f2⟩:=Jt.mp (show (a.ts.zip f.ts)[i0]? =some p0 by rw [hl];exact e2);refine Qa9 (Qpy (m:=false) (jx:=4) (jy:=5) (as:=a.ts.map .str) (bs:=f.ts.map .str) Kq i0 (u0:= .str p0.1) (v0:= .str p0.2) (by rw [Qe,f1];rfl) (by rw [Qe,f2];rfl) QI rfl T.bZip (Jf (da:= .tup [.str a.k,.tup (a.ts.map .str)]) (Vv 1 rfl) Vi at1) (Jf (da:= .tup [.str f.k,.tup (f.ts.map .str)]) (Vv 2 rfl) Vi at1) (Yd _) (Yd _) ?_ (λi u v hi hu hv=> ?_) ?_ OU.nd)
   ·show [Sl.arg (gvD g fz),.arg a.d,.arg f.d,.odc (gAt g l 0).1 ((gAt g l 0).2.map .str),.no,.no,.no]=_;rw [gat 0 g rfl];rfl
   ·obtain ⟨p,lp,rfl,rfl,hpl⟩:=lat i u v hu hv;obtain ⟨gi,hgi⟩:=Ou (show i<=i0 by omega) e1;obtain ⟨g1,hg1⟩:=Ou (show i+1<=i0 by omega) e1;refine ⟨false,?_,λh=>nomatch h⟩;show QOs _ H [.arg (gvD g fz),.arg a.d,.arg f.d,.odc (gAt g l i).1 ((gAt g l i).2.map .str),.any (.str p.1),.any (.str p.2),.no] _ (.next false [.arg (gvD g fz),.arg a.d,.arg f.d,.odc (gAt g l (i+1)).1 ((gAt g l (i+1)).2.map .str),.no,.no,.no]);rw [gat i gi hgi,gat (i+1) g1 hg1];have hst:=hg1;rw [Qfj lp,hgi] at hst;have hst2:Jk Qt gi p=some g1:=hst;rw [Bv] at hst2
    by_cases hwu:GB gi p=p.2
    ·rw [Qj hwu] at hst2;cases hst2;refine ZE (Qa8 (Qic (i:=3) (j:=6) rfl (Bh (Zc GO hr (Vc (Vv 4 rfl) Vn) ⟨_,rfl,hpl,rfl⟩)) (Vv 4 rfl) (Vv 5 rfl) (Vv 4 rfl) (bd i gi hgi).2 (AL.h (τ:=[.arg (gvD g fz),.arg a.d,.arg f.d,.odc gi.1 (gi.2.map .str),.any (.str p.1),.any (.str p.2),.no]) ⟨rfl,rfl,QE⟩) (by decide) (Qhm (bd i gi hgi).1) OU.nd) (Vz (ZF (r:= .next true _) (Qgx (Vv 6 rfl) (Vv 5 rfl)) (λz=> ?_) (λ_=>Za)))) (WkI.wk (.keep (.keep (.keep (.keep (.no (.no (.no .nil)))))))) (λh=>nomatch h);rw [hwu] at z;simp at z
    ·rw [Qg hwu] at hst2;cases hst2
   ·have i:=i0;have hpl:p0.1.length<=1000:=hts _ (Q9 f1);rw [Bv] at e3
    by_cases hwu:GB g0 p0=p0.2
    ·rw [Qj hwu] at e3;cases e3
    ·show QOs _ H [.arg (gvD g fz),.arg a.d,.arg f.d,.odc (gAt g l i0).1 ((gAt g l i0).2.map .str),.any (.str p0.1),.any (.str p0.2),.no] _ (.ret .non);rw [gat i0 g0 e1];refine Vq (Qic (i:=3) (j:=6) rfl (Bh (Zc GO hr (Vc (Vv 4 rfl) Vn) ⟨_,rfl,hpl,rfl⟩)) (Vv 4 rfl) (Vv 5 rfl) (Vv 4 rfl) (bd i0 g0 e1).2 (AL.h (τ:=[.arg (gvD g fz),.arg a.d,.arg f.d,.odc g0.1 (g0.2.map .str),.any (.str p0.1),.any (.str p0.2),.no]) ⟨rfl,rfl,QE⟩) (by decide) (Qhm (bd i0 g0 e1).1) OU.nd) (Qa9 (ZF (r:= .ret .non) (Qgx (Vv 6 rfl) (Vv 5 rfl)) (λ_=>Vz (WG Qrn)) (λz=> ?_)));rw [QM hwu] at z;cases z
  | some g' =>
   have hll:l.length=a.ts.length:=by rw [<- hl,WA];omega
   have full:Js Qt g (l.take l.length)=some g':=by rw [QK];exact q
   refine Vq (Qui (m:=false) (jx:=4) (jy:=5) (as:=a.ts.map .str) (bs:=f.ts.map .str) Kq QI rfl T.bZip (Jf (da:= .tup [.str a.k,.tup (a.ts.map .str)]) (Vv 1 rfl) Vi at1) (Jf (da:= .tup [.str f.k,.tup (f.ts.map .str)]) (Vv 2 rfl) Vi at1) (Yd _) (Yd _) ?_ (λi u v hu hv=> ?_) OU.nd) ?_
   ·show [Sl.arg (gvD g fz),.arg a.d,.arg f.d,.odc (gAt g l 0).1 ((gAt g l 0).2.map .str),.no,.no,.no]=_;rw [gat 0 g rfl];rfl
   ·obtain ⟨p,lp,rfl,rfl,hpl⟩:=lat i u v hu hv;have Ks:=(Q4.mp lp).1;obtain ⟨gi,hgi⟩:=Ou (show i<=l.length by omega) full;obtain ⟨g1,hg1⟩:=Ou (show i+1<=l.length by omega) full;refine ⟨false,?_,λh=>nomatch h⟩;show QOs _ H [.arg (gvD g fz),.arg a.d,.arg f.d,.odc (gAt g l i).1 ((gAt g l i).2.map .str),.any (.str p.1),.any (.str p.2),.no] _ (.next false [.arg (gvD g fz),.arg a.d,.arg f.d,.odc (gAt g l (i+1)).1 ((gAt g l (i+1)).2.map .str),.no,.no,.no]);rw [gat i gi hgi,gat (i+1) g1 hg1];have hst:=hg1;rw [Qfj lp,hgi] at hst;have hst2:Jk Qt gi p=some g1:=hst;rw [Bv] at hst2
    by_cases hwu:GB gi p=p.2
    ·rw [Qj hwu] at hst2;cases hst2;refine ZE (Qa8 (Qic (i:=3) (j:=6) rfl (Bh (Zc GO hr (Vc (Vv 4 rfl) Vn) ⟨_,rfl,hpl,rfl⟩)) (Vv 4 rfl) (Vv 5 rfl) (Vv 4 rfl) (bd i gi hgi).2 (AL.h (τ:=[.arg (gvD g fz),.arg a.d,.arg f.d,.odc gi.1 (gi.2.map .str),.any (.str p.1),.any (.str p.2),.no]) ⟨rfl,rfl,QE⟩) (by decide) (Qhm (bd i gi hgi).1) OU.nd) (Vz (ZF (r:= .next true _) (Qgx (Vv 6 rfl) (Vv 5 rfl)) (λz=> ?_) (λ_=>Za)))) (WkI.wk (.keep (.keep (.keep (.keep (.no (.no (.no .nil)))))))) (λh=>nomatch h);rw [hwu] at z;simp at z
    ·rw [Qg hwu] at hst2;cases hst2
   ·have e5:min (a.ts.map D.str).length (f.ts.map D.str).length=l.length:=by rw [Q2,Q2];omega
    rw [e5];show QOs _ H [.arg (gvD g fz),.arg a.d,.arg f.d,.odc (gAt g l l.length).1 ((gAt g l l.length).2.map .str),.no,.no,.no] _ _;rw [gat l.length g' full];exact Vz (Qpw (i:=3) rfl)
 ·rw [show Jv Qt g a f=none from Qg hk];show QOs _ H _ _ (.ret .non);refine Qa9 (ZF (r:= .ret .non) (test _ _ _ _ _ (Qgx (Jf (da:= .tup [.str a.k,.tup (a.ts.map .str)]) (Vv 1 rfl) Vi at0) (Jf (da:= .tup [.str f.k,.tup (f.ts.map .str)]) (Vv 2 rfl) Vi at0))
   (Qw9 (YK (n:=a.ts.length) T.bLen (Jf (da:= .tup [.str a.k,.tup (a.ts.map .str)]) (Vv 1 rfl) Vi at1) (by simp [BP]) (λx e=>nomatch e)) (YK (n:=f.ts.length) T.bLen (Jf (da:= .tup [.str f.k,.tup (f.ts.map .str)]) (Vv 2 rfl) Vi at1) (by simp [BP]) (λx e=>nomatch e)))) (λ_=>Vz (WG Qrn)) (λz=> ?_)) 
  rw [QM hk] at z;cases z
end
def unA:D->RH.At | .tup [.str k,.tup ts]=>⟨k,ts.map Ui⟩ | _=>⟨"",[]⟩
theorem Qjk (a:RH.At):unA a.d=a:=by
 cases a;simp [RH.At.d,unA,Qx,QZ,Ui]
theorem Qit (g:WY.Gv):LF (gvD g true)=true:=by
 simp [gvD,LF,Yd]
theorem Qkh (o:Option WY.Gv):LF (Qia o)=true:=by
 cases o with
 | none=>rfl
 | some g=>exact Qit g
theorem Qa7 {α:Type} (f:α->Option WY.Gv): ∀ l:List α,((l.map λx=>Qia (f x)).filter BB)=(l.filterMap f).map λg=>gvD g true
 | []=>rfl
 | x::l=>by
  rw [Qk,WS,JQ];cases f x with
  | none=>exact Qa7 f l
  | some g =>
   simp only [Qk];rw [<- Qa7 f l];rfl
structure GW (V:List Str) (g:WY.Gv):Prop where
 ok:GOk Qt V g
 few:V.length<=100
 val: ∀ v∈g.2,v.length<=1000
theorem GW.term {V:List Str} {g:WY.Gv} (h:GW V g) {a:RH.At} (ha: ∀ t∈a.ts,t.length<=1000): ∀ t∈(We g a).ts,t.length<=1000:=λt ht=>by
 obtain ⟨x,hx,rfl⟩:=Q6.mp ht;unfold sub subst;split
 ·rw [Qa];cases q:g.2[List.idxOf x g.1]? with
  | none=>exact ha x hx
  | some v=>exact h.val v (Q9 q)
 ·exact ha x hx
section
variable {P:Program} {w:World} {K:W.Frag} {mg:Str->Option Value} {base:Heap} {C:Addr}
def gvs (l:List WY.Gv):List D:=l.map λg=>gvD g true
theorem Qym (l:List WY.Gv):LFs (gvs l)=true:=Jw Qit l
structure AtOk (a:RH.At):Prop where
 n:a.ts.length<=3
 t: ∀ t∈a.ts,t.length<=1000
def RJoin (w:World) (C:Addr):List D->List D->Prop:=λds es=> ∃ (Kx:List WY.Gv) (a:RH.At) (as:List RH.At) (V:List Str),ds=[.lst (gvs Kx),a.d,shD w C as]/\(∀ g∈Kx,GW V g)/\AtOk a/\(∀ f∈as,AtOk f)/\as.length<=1000/\Kx.length * as.length<=1000000/\es=gvs (Wi Qt Kx a as)
abbrev Qc7:List Str:=["found", "atom", "shelf"]
abbrev Qw2:List Str:=["found", "atom", "shelf", "longer", "words", "tried"]
theorem Qdj:Vf Qw2 Qc7 (Vs Oq):=⟨rfl,rfl,rfl,by decide +kernel,rfl,by decide +kernel,by decide +kernel⟩
theorem Qmu {Kx:List WY.Gv} {a:RH.At} {as:List RH.At} {i:Nat} {g:WY.Gv} (h:Kx[i]? =some g):Wi Qt (Kx.take (i+1)) a as=Wi Qt (Kx.take i) a as++as.filterMap (Jv Qt g a):=by
 unfold Wi;rw [Yy h,List.flatMap_append]
 simp
theorem Quc (T:Txt K mg) (Z:ShC K mg C) (F:Fd K mg "joined" Oq Qc7) (GN:Mt P w K mg base C "near" 2 Qc5 (spD K 3 (RNear w C))) (GM:PrD P w K mg base "matched" 2 Qm8 RMatch):PrL P w K mg base "joined" 3 Qc7 (RJoin w C):=by
 refine Qe0 (N:=Qw2) F Qdj (by decide) λf0 Km A outer s H E ds es hr hR _=> ?_
 obtain ⟨Kx,a,as,V,rfl,hg,ha,has,hl1,hl2,rfl⟩:=hR;have z1:(1000000:Nat)<=sizeLine:=Vl (Q5 _);refine WT (JR (i:=3) (ds:=[]) (W5 Vn (Vl (by simp))) rfl Qdj.nd) ?_
 let Kq:Nat->List Sl:=λi=>[.arg (.lst (gvs Kx)),.arg a.d,.arg (shD w C as),.own (gvs (Wi Qt (Kx.take i) a as)),.no,.no]
 refine WT (Qie (m:=false) (j:=4) (k:=0) (ds:=gvs Kx) Kq QI rfl rfl rfl (λi d hd=> ?_) Qdj.nd) ?_
 ·unfold gvs at hd;rw [Qe] at hd;cases q:Kx[i]? with
  | none=>rw [q] at hd;cases hd
  | some g =>
   rw [q] at hd;cases hd;refine ⟨false,?_,λh=>nomatch h⟩;have gw:=hg g (Q9 q);have hj:(Wi Qt (Kx.take i) a as).length+as.length<=1000000:=by
    have h1:=B5 (op:=Qt) (a:=a) (fs:=as) (Kx.take i);have h2:(Kx.take i).length+1<=Kx.length:=by
     have:=(Q4.mp q).1;rw [QA];omega
    have h3:((Kx.take i).length+1) * as.length<=Kx.length * as.length:=Nat.mul_le_mul_right _ h2;rw [Nat.succ_mul] at h3;omega
   show QOs _ H [.arg (.lst (gvs Kx)),.arg a.d,.arg (shD w C as),.own (gvs (Wi Qt (Kx.take i) a as)),.arg (gvD g true),.no] _ (.next false [.arg (.lst (gvs Kx)),.arg a.d,.arg (shD w C as),.own (gvs (Wi Qt (Kx.take (i+1)) a as)),.no,.no]);rw [Qmu q,<- Qif gw.ok as];have hrow:(Yk Qt as a g).length<=as.length:=by
    obtain ⟨key,_,e⟩:=Qaa (op:=Qt) as a g;rw [e];exact Wv _ _
   refine ZE (YF (B2 (i:=5) (ds:=(Yk Qt as a g).map RH.At.d) (f:=λd=>Qia (Jv Qt g a (unA d))) (WK.mpr λd hd=> ?_) Qdj.nd rfl (UY (Qyz (Qyt (n:=3) (Vv 2 rfl) Z.cl GN hr (Vc (Vv 1 rfl) (Vc (Vv 4 rfl) Vn)) ⟨as,a,g,true,rfl,gw.ok.len,ha.n,gw.term ha.t,rfl⟩ rfl (by decide +kernel)))) (Vl (by rw [Q2];omega)) (λd hd cl Cc s' H' ex=> ?_)) (Vz (Qq0 (i:=3) rfl (Qek (p:=BB) (f:=id) rfl (UY (Vv 5 rfl)) (Vl (by rw [Q2,Q2];omega)) (λd hd cl Cc s' H' ex=>Qvm (Qsa (Vv 0 rfl))) (λd hd _ cl Cc s' H' ex=>Vv 0 rfl)) ?_ (AL.h (τ:=[.arg (.lst (gvs Kx)),.arg a.d,.arg (shD w C as),.own (gvs (Wi Qt (Kx.take i) a as)),.arg (gvD g true),.own _]) QE) ?_))) ?_ (λh=>nomatch h)
   ·obtain ⟨x,_,rfl⟩:=Q6.mp hd;exact Qkh _
   ·obtain ⟨x,hx,rfl⟩:=Q6.mp hd;rw [Qjk];have ax:=has x (Qq3 hx);have:=ax.n;exact Zc GM hr (Vc (Vv 5 rfl) (Vc (Vv 2 rfl) (Vc (Vv 0 rfl) Vn))) ⟨g,a,x,V,true,rfl,gw.ok,gw.few,ha.n,by omega,ha.t,rfl⟩
   ·rw [Qsp];refine WK.mpr λd hd=> ?_
    obtain ⟨h1,_⟩:=Wc.mp hd;obtain ⟨x,_,rfl⟩:=Q6.mp h1;exact Qkh _
   ·rw [Qsp];have h4:=Wv BB (((Yk Qt as a g).map RH.At.d).map λd=>Qia (Jv Qt g a (unA d)));rw [Q2,Q2] at h4;unfold gvs;rw [Q2];omega
   ·have e:((((Yk Qt as a g).map RH.At.d).map λd=>Qia (Jv Qt g a (unA d))).filter BB).map id=gvs ((Yk Qt as a g).filterMap (Jv Qt g a)):=by
     rw [Qsp,Qx];have:=Qa7 (λx=>Jv Qt g a x) (Yk Qt as a g);unfold gvs;rw [<- this];congr 1;refine QV λx _=> ?_
     show Qia (Jv Qt g a (unA x.d))=_;rw [Qjk]
    rw [e];have e2:gvs (Wi Qt (Kx.take i) a as++(Yk Qt as a g).filterMap (Jv Qt g a))=gvs (Wi Qt (Kx.take i) a as)++gvs ((Yk Qt as a g).filterMap (Jv Qt g a)):=by
     unfold gvs;rw [QF]
    rw [e2];exact WkI.wk (.keep (.keep (.keep (.keep (.no (.no .nil))))))
 ·have e:(gvs Kx).length=Kx.length:=by simp [gvs]
  rw [e];show QOs _ H [.arg (.lst (gvs Kx)),.arg a.d,.arg (shD w C as),.own (gvs (Wi Qt (Kx.take Kx.length) a as)),.no,.no] _ _;rw [QK];exact Vz (Ut (i:=3) rfl)
end
def kD (atoms:List RH.At) (g:WY.Gv):D:= .tup ((ZN atoms g).map RH.At.d)
theorem Qvh {a b:RH.At} (h:a.d=b.d):a=b:=Qet (by
 have:D.tup (atL a)=D.tup (atL b):=h;injection this)
theorem Qgy: ∀ {a b:List RH.At},a.map RH.At.d=b.map RH.At.d->a=b
 | [],[],_=>rfl
 | [],_::_,h=>by simp at h
 | _::_,[],h=>by simp at h
 | x::a,y::b,h=>by
  simp only [Qk,Qsw] at h;rw [Qvh h.1,Qgy h.2]
theorem Qqw {atoms:List RH.At} {g g':WY.Gv}:kD atoms g=kD atoms g' ↔ ZN atoms g=ZN atoms g':=by
 constructor
 ·intro h;unfold kD at h;injection h with h
  exact Qgy h
 ·intro h;unfold kD;rw [h]
theorem Qeb {atoms:List RH.At} {g:WY.Gv} {acc:List WY.Gv}:kD atoms g∈acc.map (kD atoms) ↔ ZN atoms g∈acc.map (ZN atoms):=by
 simp only [Q6];constructor
 ·rintro ⟨x,h1,h2⟩;exact ⟨x,h1,Qqw.mp h2⟩
 ·rintro ⟨x,h1,h2⟩;exact ⟨x,h1,Qqw.mpr h2⟩
theorem Qgz: ∀ l:List RH.At,deps (l.map RH.At.d)<=3
 | []=>by simp [deps]
 | a::l=>by
  have h1:dep a.d<=3:=Qb5 a;have h2:=Qgz l;simp only [Qk,deps];omega
theorem Qqv (atoms:List RH.At) (g:WY.Gv):XKey (kD atoms g):=by
 refine ⟨?_,?_,_,rfl⟩
 ·unfold kD;rw [keyOk];exact Z2.mpr λd hd=>by
   obtain ⟨a,_,rfl⟩:=Q6.mp hd;exact (Qb4 a).1
 ·unfold kD;rw [dep];have:=Qgz (ZN atoms g);omega
theorem Qlu {Kx:List WY.Gv} {atoms:List RH.At} {i:Nat} {g:WY.Gv} (h:Kx[i]? =some g):W8 (Kx.take (i+1)) atoms=W7 atoms (W8 (Kx.take i) atoms) g:=by
 unfold W8;rw [Yy h,WF];rfl
section
variable {P:Program} {w:World} {K:W.Frag} {mg:Str->Option Value} {base:Heap} {C:Addr}
def RThin:List D->List D->Prop:=λds es=> ∃ (Kx:List WY.Gv) (atoms:List RH.At) (V:List Str),ds=[.lst (gvs Kx),.lst (atoms.map RH.At.d)]/\(∀ g∈Kx,GW V g)/\(∀ a∈atoms,AtOk a)/\atoms.length<=1000/\Kx.length<=1000000/\es=gvs (W8 Kx atoms)
abbrev Qc4:List Str:=["found", "atoms"]
abbrev Qq5:List Str:=["found", "atoms", "firsts", "words"]
theorem Qi1:Vf Qq5 Qc4 (Vs Qff):=⟨rfl,rfl,rfl,by decide +kernel,rfl,by decide +kernel,by decide +kernel⟩
theorem Qu4 (T:Txt K mg) (F:Fd K mg "thinned" Qff Qc4) (GF:PrD P w K mg base "filled" 1 B1 RFilled):PrL P w K mg base "thinned" 2 Qc4 RThin:=by
 refine Qe0 (N:=Qq5) F Qi1 (by decide) λf0 Km A outer s H E ds es hr hR _=> ?_
 obtain ⟨Kx,atoms,V,rfl,hg,ha,hl1,hl2,rfl⟩:=hR;have z1:(1000000:Nat) < sizeLine:=by rw [Jb];decide
 have hu15:(Ga CX0 P w K mg base Qq5 "thinned" (Vs Qff) f0 Km A outer s H E).nox.A.units+15 < cLine:=lt15 (hu22 hr);refine WT (Qy0 (i:=2) Qi1.nd) ?_
 let kk:Nat->List D:=λi=>(W8 (Kx.take i) atoms).map (kD atoms)
 let Kq:Nat->List Sl:=λi=>[.arg (.lst (gvs Kx)),.arg (.lst (atoms.map RH.At.d)),.odx ((kk i).map (J6 w)) (kk i) (gvs (W8 (Kx.take i) atoms)),.no]
 refine WT (Qie (m:=false) (j:=3) (k:=0) (ds:=gvs Kx) Kq QI rfl rfl rfl (λi d hd=> ?_) Qi1.nd) ?_
 ·unfold gvs at hd;rw [Qe] at hd;cases q:Kx[i]? with
  | none=>rw [q] at hd;cases hd
  | some g =>
   rw [q] at hd;cases hd;refine ⟨false,?_,λh=>nomatch h⟩;have gw:=hg g (Q9 q);have Ks:=(Q4.mp q).1;show QOs _ H [.arg (.lst (gvs Kx)),.arg (.lst (atoms.map RH.At.d)),.odx ((kk i).map (J6 w)) (kk i) (gvs (W8 (Kx.take i) atoms)),.arg (gvD g true)] _ (.next false [.arg (.lst (gvs Kx)),.arg (.lst (atoms.map RH.At.d)),.odx ((kk (i+1)).map (J6 w)) (kk (i+1)) (gvs (W8 (Kx.take (i+1)) atoms)),.no]);have e1:kk (i+1)=Wh (kk i) (kD atoms g)/\gvs (W8 (Kx.take (i+1)) atoms)=defXv (kk i) (gvs (W8 (Kx.take i) atoms)) (kD atoms g) (gvD g true):=by
    show (W8 (Kx.take (i+1)) atoms).map (kD atoms)=Wh ((W8 (Kx.take i) atoms).map (kD atoms)) (kD atoms g)/\gvs (W8 (Kx.take (i+1)) atoms)=defXv ((W8 (Kx.take i) atoms).map (kD atoms)) (gvs (W8 (Kx.take i) atoms)) (kD atoms g) (gvD g true);rw [Qlu q];unfold W7 Wh defXv
    by_cases hm:ZN atoms g∈(W8 (Kx.take i) atoms).map (ZN atoms)
    ·rw [Qj hm,Qj (Qeb.mpr hm),Qj (Qeb.mpr hm)];exact ⟨rfl,rfl⟩
    ·rw [Qg hm,Qg (λz=>hm (Qeb.mp z)),Qg (λz=>hm (Qeb.mp z))];exact ⟨by simp,by simp [gvs]⟩
   rw [e1.1,e1.2];refine ZE (Vz (Qy1 (i:=2) (k:=kD atoms g) (d:=gvD g true) hu15 rfl (λk hk=> ?_) (Qqv atoms g) (Wj T.bTup (PDL.pd (U2 (ZK (f:=λd=>(We g (unA d)).d) rfl (UY (Vv 1 rfl)) (Vl (by rw [Q2];omega)) λd hd cl Cc s' H' ex=> ?_) ?_)) (.inl rfl)) (Vv 3 rfl) (Qit g) (AL.h (τ:=[.arg (.lst (gvs Kx)),.arg (.lst (atoms.map RH.At.d)),.odx ((kk i).map (J6 w)) (kk i) (gvs (W8 (Kx.take i) atoms)),.arg (gvD g true)]) QE) (OneX.h (i:=2) (τ:=[.arg (.lst (gvs Kx)),.arg (.lst (atoms.map RH.At.d)),.odx ((kk i).map (J6 w)) (kk i) (gvs (W8 (Kx.take i) atoms)),.arg (gvD g true)]) QE) ?_)) (WkI.wk (.keep (.keep (.keep (.no .nil))))) (λh=>nomatch h)
   ·obtain ⟨x,_,rfl⟩:=Q6.mp hk;exact Qqv atoms x
   ·obtain ⟨x,hx,rfl⟩:=Q6.mp hd;rw [Qjk];have:=(ha x hx).n;exact Zc GF hr (Vc (Vv 0 rfl) (Vc (Vv 4 rfl) Vn)) ⟨x,g,true,rfl,gw.ok.len,by omega,rfl⟩
   ·unfold ZN;rw [Qx,Qx];refine QV λx _=> ?_
    show (We g (unA x.d)).d=_;rw [Qjk];rfl
   ·show ((W8 (Kx.take i) atoms).map (kD atoms)).length < sizeLine;have h1:=OO (as:=atoms) (Kx.take i) [];have h2:(Kx.take i).length<=Kx.length:=by rw [QA];omega
    unfold W8;rw [Q2];simp only [Qbd] at h1;omega
 ·have e:(gvs Kx).length=Kx.length:=by simp [gvs]
  rw [e];show QOs _ H [.arg (.lst (gvs Kx)),.arg (.lst (atoms.map RH.At.d)),.odx ((kk Kx.length).map (J6 w)) (kk Kx.length) (gvs (W8 (Kx.take Kx.length) atoms)),.no] _ _;rw [QK];exact Vz (B4 (Qj4 rfl T.bLst (Vv 2 rfl)))
end
end K24
namespace L2
open PySem PySem.Spec PyProof.Rows
section
variable {X:Cx} {ρ:List (Option D)}
theorem Qgm {us:List (D×D)} {f:D->D->D} {σ:St} {H:Hp} {Q:VK} (hz:us.length<=sizeLine) (q:rdL X.K ρ (us.map λp=>f p.1 p.2) σ H Q) :
  Qhs X.K (Qg4 X.K (rdD X.K ρ (.lst (us.map λu=> .tup [u.1,u.2])))) Qo4 (λσ H Q=> ∃ u v,(u,v)∈us/\rdD X.K (some u::some v::ρ) (f u v) σ H Q) σ H Q:=by
 obtain ⟨hE,q⟩:=q;refine ⟨hE,λv H1 s1 i1=> ?_⟩;obtain ⟨p1,xs,rfl,q1,r1⟩:=JY i1;have l1:=r1.length;rw [Q2] at l1;refine ⟨p1,rfl,⟨xs,q1⟩,λi m ws H2=>Same H1 H2/\i<=us.length/\m=us.length - i/\Va X.K H2 ((us.take i).map λp=>f p.1 p.2) ws,⟨_,Same.refl _,Qz _,rfl,by simpa using QR⟩,?_⟩;rintro i m ws H2 ⟨s2,hi,rfl,r⟩
 by_cases Ks:i < us.length
 ·refine .inr ⟨⟨xs,xs[i]'(by omega),s2.seq q1,by simp⟩,?_,λv H3 yl=> ?_⟩
  ·have:=r.length;rw [Q2,QA] at this;omega
  ·obtain ⟨rfl,hx⟩:=yl;obtain ⟨d,ed,id⟩:=r1.at (hx xs (s2.seq q1));have hu:us[i]? =some us[i]:=Qc Ks;rw [Qe,hu] at ed;cases ed;obtain ⟨p,vs,rfl,hq,ia⟩:=JB (id.same s2);obtain ⟨vx,vy,rfl,iu,iw⟩:=ia.two;refine ⟨p,vx,vy,rfl,hq,?_⟩;unfold Qo4;simp only [Wt];refine ⟨_,_,Q9 hu,((hE.same (s1.trans s2)).cons iw).cons iu,λz H5 s5 iz=>⟨us.length - (i+1),by omega,s2.trans s5,Ks,rfl,?_⟩⟩;have ht4:us.take (i+1)=us.take i++[us[i]]:=by rw [QX,hu];rfl
   rw [ht4,QF];exact (r.same s5).append (Vg iz QR)
 ·have e:i=us.length:=by omega
  refine .inl ⟨⟨xs,s2.seq q1,by omega⟩,λl hl=>q l ws _ ((s1.trans s2).free hl) ((s1.trans s2).trans (Same.upd hl)) Vu (Va.same (Same.upd hl) ?_)⟩;rw [e,QK] at r;exact r
variable {H₀:Hp} {τ:List Sl} {pos:Pos}
theorem Qid {elt iter:Expr} {x y z:Str} {px py pz tp cp:Pos} {tk:Nat} {scope:Scope} {us:List (D×D)} {f:D->D->D} {i:Nat} (hl:LFs (us.map λp=>f p.1 p.2)=true) (hN:X.N.Nodup) (hc:X.calm=true) (ha:PD X (dat τ) iter (.lst (us.map λu=> .tup [u.1,u.2]))) (hz:us.length<=sizeLine)
  (he: ∀ u v,(u,v)∈us-> ∀ cl C s H ex,PD (cxP X x y scope cl C s H ex) (some u::some v::dat τ) elt (f u v))
  (hzi:X.N[i]? =some z:=by rfl) (hzl:X.env.scope.names.lookup z=some .local:=by rfl) (hok:WI X.N X.env.scope x scope=true:=by rfl) (hy:scope.names.lookup y=some .local:=by rfl) (hnd:(x::y::X.N).Nodup:=by decide) (hf: ∀ v,foldedSetIterable iter X.env v=pure v:=by intro _;rfl)
  (hsw:swapsWith (.ListComp elt [⟨.Tuple [.Name x px,.Name y py] tk tp,iter,[],0⟩] scope cp) (some (.Name z pz)) pos.line X.env=pure true:=by rfl) :
  QO X H₀ τ (.Assign [.Name z pz] (.ListComp elt [⟨.Tuple [.Name x px,.Name y py] tk tp,iter,[],0⟩] scope cp) pos) (.next true (τ.set i (.own (us.map λp=>f p.1 p.2)))) :=
 ⟨(Qp1 hN hzi hzl hc (ZY ha.pe) (λ_ _ _ _ _=>Qdx) (λcl C s H ex Kz s' σ H' Q I ⟨u,v,hm,q⟩=>(he u v hm cl C s H ex).pe Kz s' σ H' Q I q) hok hy hnd hf hsw).imp λD σ H q =>
  Qgm hz ⟨q.1.env,λp vs H' n s hp iv=>q.2 _ H' s (q.1.setOwn i n s hp hl iv)⟩⟩
theorem Qul {x y z:Str} {px py pz tp cp ep:Pos} {tk:Nat} {body:List Stmt} {jx jy k:Nat} {ds:List D} {m:Bool} (Kq:Nat->List Sl) (hp:PassesOwn (model X.prog X.w) X.A X.env X.xe) (hc:X.calm=true) (hm:X.mg "enumerate" =none) (hk:τ[k]? =some (.arg (.lst ds)))
  (h0:Kq 0=τ) (hb: ∀ (i:Nat) (d:D),ds[i]? =some d-> ∃ n,QOs X H₀ (((Kq i).set jx (.any (.int i))).set jy (.arg d)) body (.next n (Kq (i+1)))/\(m=true->n=true))
  (hN:X.N.Nodup) (hz:X.N[k]? =some z:=by rfl) (hv:Vis X.env.scope z:=by first | exact QJ rfl | exact QD (QJ rfl) | exact QD (QD rfl)) (hdb:(z == ("__debug__" :Str))=false:=by decide) (hcd:(z == ("__classdict__" :Str))=false:=by decide)
  (hx:X.N[jx]? =some x:=by rfl) (hy:X.N[jy]? =some y:=by rfl) (lx:Loc X.env.scope x:=by first | exact QJ rfl | exact QD rfl) (ly:Loc X.env.scope y:=by first | exact QJ rfl | exact QD rfl)
  (fx:X.fn x=true \/ X.env.scope.names.lookup x=some .local:=by first | exact .inl rfl | exact .inr rfl) (fy:X.fn y=true \/ X.env.scope.names.lookup y=some .local:=by first | exact .inl rfl | exact .inr rfl)
  (hg:Gl X "enumerate" :=by rfl) (hse:starEach [.Name z pz] X.env=[(false,eval (.Name z pz) X.env)]:=by rfl) (hs: ∀ v,foldedSetIterable (.Call (.Name "enumerate" ep) [.Name z pz] [] cp) X.env v=pure v:=by intro _;rfl) :
  QO X H₀ τ (.For (.Tuple [.Name x px,.Name y py] tk tp) (.Call (.Name "enumerate" ep) [.Name z pz] [] cp) body [] pos) (.next m (Kq ds.length)):=by
 have hb':PSs X body (λD σ H=> ∃ i d,ds[i]? =some d/\rdO X.K H₀ (((Kq i).set jx (.any (.int i))).set jy (.arg d)) (.next m (Kq (i+1))) D σ H):=λKz s σ H D I ⟨i,d,hd,q⟩=>by
  obtain ⟨n,hq,hn⟩:=hb i d hd;exact hq.pe Kz s σ H D I ⟨q.1,λKt H' t=>q.2 Kt H' (t.weak hn)⟩
 refine ⟨(Yv hp hc (Qp5 hg hm (Ws (Wr hz hv hdb hcd) Z8 hse) hse) (Gk (n:=2) hc (Vh (Jr (i:=jx) hN hx lx fx) (Vh (Jr (i:=jy) hN hy ly fy) YY))) hb' hs).imp λD σ H q=> ?_⟩;obtain ⟨o,e1,v,rfl,iv⟩:=q.1.sl k _ hk;obtain ⟨a,xs,rfl,hq,r⟩:=JY iv;have Kr:=r.length;refine ⟨_,e1,a,rfl,⟨xs,q.1.same.seq hq⟩,λi k Kt H'=>i<=ds.length/\k=ds.length - i/\EnvO X.K H₀ H' Kt (Kq i)/\Rl m H H',⟨ds.length,Qz _,rfl,by rw [h0];exact q.1,Rl.refl H⟩,?_⟩;rintro i k Kt H' ⟨hi,rfl,he,hm'⟩;have sq:=he.same.seq hq
 by_cases Ks:i < ds.length
 ·refine .inr ⟨⟨xs,xs[i]'(by omega),sq,by simp⟩,λσ2 H2=>EnvO X.K H₀ H2 σ2 (Kq (i+1))/\Rl m H' H2,λσ2 H2 ⟨he2,hm2⟩=>⟨ds.length - (i+1),by omega,Ks,rfl,he2,?_⟩,λv H2 yl=> ?_⟩
  ·have:=hm'.trans hm2;rwa [Wm] at this
  obtain ⟨p,u,rfl,np,rfl,hu⟩:=yl;obtain ⟨d,hd,id⟩:=r.at (hu xs sq);have s3:Same H' (upd H' p (.tup [.int i,u])):=Same.upd np;refine ⟨p,[.int i,u],rfl,.inl (.inl Vu),rfl,.int i,[u],rfl,u,[],rfl,rfl,i,d,hd,?_,λσ3 H3 t3 he3=>⟨he3,?_⟩⟩
  ·exact ((he.step s3).set (s:= .any (.int i)) jx ⟨_,rfl,ZH _⟩ λKo e=>nomatch e).set (s:= .arg d) jy ⟨u,rfl,id⟩ λKo e=>nomatch e
  ·have:=(Rl.of (m:=m) s3).trans t3;rwa [Wm] at this
 ·have e:i=ds.length:=by omega
  subst e;exact .inl ⟨⟨xs,sq,by omega⟩,q.2 Kt H' hm' he⟩
end
end L2
namespace K24
open PySem L2 RH WY
theorem Qna {α:Type} (l:List α) (n:Nat):Og l (some (n:Int)) none=l.drop n:=by
 unfold Og;rw [HT.Qdp,HT.Qoo]
 by_cases h:n<=l.length
 ·rw [Nat.min_eq_left h,Ys (by rw [JX];exact Q5 _)]
 ·rw [Nat.min_eq_right (by omega),List.drop_of_length_le (Q5 _),List.drop_of_length_le (by omega),List.take_nil]
def fAt (os:List (RH.At×List RH.At)) (Ky:List RH.At):Nat->List WY.Gv
 | 0=>[([],[])]
 | i+1=>match os[i]? with
  | some q=>W8 (Wi Qt (fAt os Ky i) q.1 q.2) ((os.drop (i+1)).map (·.1)++Ky)
  | none=>fAt os Ky i
theorem Be {os:List (RH.At×List RH.At)} {Ky:List RH.At} {i:Nat} {q:RH.At×List RH.At} (h:os[i]? =some q):fAt os Ky (i+1)=W8 (Wi Qt (fAt os Ky i) q.1 q.2) ((os.drop (i+1)).map (·.1)++Ky):=by
 show (match os[i]? with | some q=>_ | none=>_)=_;rw [h]
theorem Qcs (os:List (RH.At×List RH.At)) (Ky:List RH.At): ∀ i,i<=os.length->ZM Qt Ky (fAt os Ky i) (os.drop i)=ZM Qt Ky [([],[])] os
 | 0,_=>by rw [List.drop_zero];rfl
 | i+1,h=>by
  have hq:os[i]? =some os[i]:=Qc h;rw [<- Qcs os Ky i (by omega),Be hq,List.drop_eq_getElem_cons h];rfl
theorem Qv8 (os:List (RH.At×List RH.At)) (Ky:List RH.At):fAt os Ky os.length=ZM Qt Ky [([],[])] os:=by
 rw [<- Qcs os Ky os.length (Q5 _),List.drop_length];rfl
theorem Qj0 {os:List (RH.At×List RH.At)} {Ky:List RH.At} (ha: ∀ q∈os,AtOk q.1/\ ∀ f∈q.2,AtOk f): ∀ i,∃ V:List Str,V.length<=3 * i/\ ∀ g∈fAt os Ky i,GOk Qt V g/\ ∀ v∈g.2,v.length<=1000
 | 0=>⟨[],Q5 _,λg hg=>by
  have:g=([],[]):=by simpa [fAt] using hg
  subst this;exact ⟨⟨rfl,rfl,JA,λ_ z=>nomatch z⟩,λ_ z=>nomatch z⟩⟩
 | i+1=>by
  obtain ⟨V,h1,h2⟩:=Qj0 (Ky:=Ky) ha i;cases q:os[i]? with
  | none =>
   refine ⟨V,by omega,λg hg=>h2 g ?_⟩;have e:fAt os Ky (i+1)=fAt os Ky i:=by
    show (match os[i]? with | some q=>_ | none=>_)=_;rw [q]
   rwa [e] at hg
  | some p =>
   obtain ⟨a1,a2⟩:=ha p (Q9 q);refine ⟨Yx Qt V p.1.ts,?_,λg hg=> ?_⟩
   ·have:=UN (op:=Qt) p.1.ts V;have:=a1.n;omega
   ·rw [Be q] at hg;rcases GH hg with z | z
    ·cases z
    ·obtain ⟨g0,k1,f,k2,k3⟩:=Uv.mp z;obtain ⟨o1,o2⟩:=h2 g0 k1;refine ⟨(YH o1 k3).1,λv hv=> ?_⟩;unfold Jv at k3;split at k3
     ·rcases ON _ k3 v hv with y | ⟨pr,y1,rfl⟩
      ·exact o2 v y
      ·exact (a2 f k2).t _ (Z4 y1).2
     ·cases k3
section
variable {P:Program} {w:World} {K:W.Frag} {mg:Str->Option Value} {base:Heap} {C:Addr}
noncomputable def oD (w:World) (C:Addr) (q:RH.At×List RH.At):D:= .tup [q.1.d,shD w C q.2]
structure OrdOk (os:List (RH.At×List RH.At)) (Ky:List RH.At):Prop where
 at_: ∀ q∈os,AtOk q.1/\ ∀ f∈q.2,AtOk f
 few: ∀ q∈os,q.2.length<=1000
 len:os.length<=30
 last: ∀ a∈Ky,AtOk a
 lens:Ky.length<=900
 size: ∀ (i:Nat) q,os[i]? =some q->(fAt os Ky i).length * q.2.length<=1000000
def RAlong (w:World) (C:Addr):List D->List D->Prop:=λds es=> ∃ (os:List (RH.At×List RH.At)) (Ky:List RH.At),ds=[.lst (os.map (oD w C)),.lst (Ky.map RH.At.d)]/\OrdOk os Ky/\es=gvs (ZM Qt Ky [([],[])] os)
abbrev BA:List Str:=["order", "lasting"]
abbrev Qig:List Str:=["order", "lasting", "found", "place", "pair", "later"]
theorem GQ:Vf Qig BA (Vs Qds):=⟨rfl,rfl,rfl,by decide +kernel,rfl,by decide +kernel,by decide +kernel⟩
theorem Qpq (T:Txt K mg) (F:Fd K mg "ways_along" Qds BA) (GJ:PrL P w K mg base "joined" 3 Qc7 (RJoin w C)) (GT:PrL P w K mg base "thinned" 2 Qc4 RThin):PrL P w K mg base "ways_along" 4 BA (RAlong w C):=by
 refine Qe0 (N:=Qig) F GQ (by decide) λf0 Km A outer s H E ds es hr hR _=> ?_
 obtain ⟨os,Ky,rfl,ok,rfl⟩:=hR;have z1:(1000000:Nat)<=sizeLine:=Vl (Q5 _);have hl30:=ok.len;have hl9:=ok.lens;refine WT (JR (i:=2) (ds:=gvs [([],[])]) (W5 (Vc (Qw6 Qrj rfl) Vn) (Vl (by show 1<=1000000;decide))) rfl GQ.nd) ?_
 let Kq:Nat->List Sl:=λi=>[.arg (.lst (os.map (oD w C))),.arg (.lst (Ky.map RH.At.d)),.own (gvs (fAt os Ky i)),.no,.no,.no]
 refine WT (Qul (m:=true) (jx:=3) (jy:=4) (k:=0) (ds:=os.map (oD w C)) Kq QI rfl T.bEnu rfl rfl (λi d hd=> ?_) GQ.nd) ?_
 ·rw [Qe] at hd;cases q:os[i]? with
  | none=>rw [q] at hd;cases hd
  | some p =>
   rw [q] at hd;cases hd;refine ⟨true,?_,λ_=>rfl⟩;have Ks:=(Q4.mp q).1;obtain ⟨V,hV,hg⟩:=Qj0 (Ky:=Ky) ok.at_ i;have gw: ∀ g∈fAt os Ky i,GW V g:=λg h=>⟨(hg g h).1,by omega,(hg g h).2⟩
   obtain ⟨V2,hV2,hg2⟩:=Qj0 (Ky:=Ky) ok.at_ (i+1);obtain ⟨pa,pf⟩:=ok.at_ p (Q9 q);have hsz:=ok.size i p q;show QOs _ H [.arg (.lst (os.map (oD w C))),.arg (.lst (Ky.map RH.At.d)),.own (gvs (fAt os Ky i)),.any (.int i),.arg (.tup [p.1.d,shD w C p.2]),.no] _ (.next true [.arg (.lst (os.map (oD w C))),.arg (.lst (Ky.map RH.At.d)),.own (gvs (fAt os Ky (i+1))),.no,.no,.no]);rw [Be q];have hus:(os.map (oD w C)).drop (i+1)=((os.drop (i+1)).map λq=>(q.1.d,shD w C q.2)).map λu=> .tup [u.1,u.2]:=by
    rw [Qx,<- List.map_drop];rfl
   have eL:(((os.drop (i+1)).map λq=>(q.1.d,shD w C q.2)).map λp=>(λ(u _:D)=>u) p.1 p.2)=((os.drop (i+1)).map (·.1)).map RH.At.d:=by
    rw [Qx,Qx];rfl
   refine ZE (YF (Qid (i:=5) (us:=(os.drop (i+1)).map λq=>(q.1.d,shD w C q.2)) (f:=λu _=>u) (by rw [eL];exact Jw UG _) GQ.nd rfl (PDL.pd (U2 (Qge (ol:=some ((i:Int)+1)) (oh:=none) (Vv 0 rfl) (OA (ZQ (Vv 3 rfl) Vi)) Qkz) (by rw [show ((i:Int)+1)=((i+1:Nat):Int) by omega,Qna,hus]))) (Vl (by rw [Q2,JX];omega)) (λu v hm cl Cc s' H' ex=>Vv 0 rfl) (hnd:=(by decide +kernel:(("atom" :Str):: "shelf" ::Qig).Nodup)))
    (Vz (JR (i:=2) (ds:=gvs (W8 (Wi Qt (fAt os Ky i) p.1 p.2) ((os.drop (i+1)).map (·.1)++Ky))) (Ya GT (hr.mono (by decide)) (Vc (PDL.pd (Ya GJ hr (Vc (Vv 2 rfl) (Vc (Jf (da:= .tup [p.1.d,shD w C p.2]) (Vv 4 rfl) Vi at0) (Vc (Jf (da:= .tup [p.1.d,shD w C p.2]) (Vv 4 rfl) Vi at1) Vn))) ⟨fAt os Ky i,p.1,p.2,V,rfl,gw,pa,pf,ok.few p (Q9 q),hsz,rfl⟩))
     (Vc (PDL.pd (U2 (Qap (Vv 5 rfl) (Vv 1 rfl) (by rw [eL,Q2,Q2,Q2,JX];omega)) (by rw [eL,<- QF]))) Vn)) ⟨Wi Qt (fAt os Ky i) p.1 p.2,(os.drop (i+1)).map (·.1)++Ky,Yx Qt V p.1.ts,rfl,?_,?_,?_,?_,rfl⟩) (Qym _) GQ.nd))) (WkI.wk (.keep (.keep (.keep (.no (.no (.no .nil))))))) (λh=>h)
   ·intro g hgm;obtain ⟨g0,k1,f,k2,k3⟩:=Uv.mp hgm;obtain ⟨o1,o2⟩:=hg g0 k1;refine ⟨(YH o1 k3).1,?_,λv hv=> ?_⟩
    ·have:=UN (op:=Qt) p.1.ts V;have:=pa.n;omega
    ·unfold Jv at k3;split at k3
     ·rcases ON _ k3 v hv with y | ⟨pr,y1,rfl⟩
      ·exact o2 v y
      ·exact (pf f k2).t _ (Z4 y1).2
     ·cases k3
   ·intro a ham;rcases Qy.mp ham with ham | ham
    ·obtain ⟨q',hq',rfl⟩:=Q6.mp ham;exact (ok.at_ q' (Uc hq')).1
    ·exact ok.last a ham
   ·rw [Qs,Q2,JX];omega
   ·exact Qu (B5 _) hsz
 ·rw [Q2];show QOs _ H [.arg (.lst (os.map (oD w C))),.arg (.lst (Ky.map RH.At.d)),.own (gvs (fAt os Ky os.length)),.no,.no,.no] _ _;rw [Qv8];exact Vz (Ut (i:=2) rfl)
end
theorem Qol: ∀ (as:List RH.At) {q:List D×List D×List (List D)},KOk q.1->KOk (as.foldl shS q).1
 | [],_,h=>h
 | a::as,q,h=>Qol as (q:=shS q a) (Uq h (Qb4 a))
theorem Qlv {f k:D} {q:List D×List (List D)} (lf:LF f=true) (h: ∀ r∈q.2,LFs r=true): ∀ r∈(L2.JL f q k).2,LFs r=true:=by
 unfold L2.JL;split
 ·intro r hr;obtain ⟨i,hi⟩:=J1.mp hr;rw [Zk] at hi;cases e:q.2[i]? with
  | none=>rw [e] at hi;simp at hi
  | some r0 =>
   rw [e] at hi;have h0:=h r0 (Q9 e);have hi':(if List.idxOf k q.1=i then r0++[f] else r0)=r:=by simpa using hi
   rw [<- hi'];split
   ·rw [WH,h0];simp [LFs,lf]
   ·exact h0
 ·intro r hr;rcases Qy.mp hr with hr | hr
  ·exact h r hr
  ·simp at hr;subst hr;simp [LFs,lf]
theorem Qfd: ∀ (as:List RH.At) {q:List D×List D×List (List D)},(∀ r∈q.2.2,LFs r=true)-> ∀ r∈(as.foldl shS q).2.2,LFs r=true
 | [],_,h=>h
 | a::as,q,h=>Qfd as (q:=shS q a) (by
  show ∀ r∈(Qh5 a q.2).2,LFs r=true;unfold Qh5;have key: ∀ (l:List D) (q:List D×List (List D)),(∀ r∈q.2,LFs r=true)-> ∀ r∈(l.foldl (L2.JL a.d) q).2,LFs r=true:=λl=>by
   induction l with
   | nil=>exact λq h=>h
   | cons x l ih=>exact λq h=>ih _ (Qlv (UG a) h)
  exact key _ _ h)
theorem Qhy (w:World) (C:Addr) (as:List RH.At):LF (shD w C as)=true:=by
 have h1:LFs (shA as).1=true:=(Qol as (q:=([],[],[])) (λ_ h=>nomatch h)).lf;have h2:LFs (shA as).2.1=true:=(Qjr as).lf;have h3:LFs ((shA as).2.2.map λr=>D.oth .fls [] r)=true:=WK.mpr λd hd=>by
  obtain ⟨r,hr,rfl⟩:=Q6.mp hd;rw [LF];exact Qfd as (q:=([],[],[])) (λ_ h=>nomatch h) r hr
 have h4:LFs ((shA as).1.map λ_=>D.bl true)=true:=WK.mpr λd hd=>by
  obtain ⟨r,hr,rfl⟩:=Q6.mp hd;rfl
 simp [shD,shelfD,LF,LFs,h1,h2,h3,h4]
def Oc (one Kw:Ru):List (RH.At×List RH.At):=(one.h,[Kw.h])::one.b.map λl=>(l.a,Zh Kw l.y)
def usR (one:Ru):List (D×D):=one.b.map λl=>(.str (mkS l.y),l.a.d)
noncomputable def shP (w:World) (C:Addr) (Kw:Ru) (u v:D):D:= .tup [v,if u= .str "yes" then shD w C (Zh Kw true) else shD w C (Zh Kw false)]
def Qbq (one Kw:Ru):Bool:=decide (0 < (ZM Qt [] [([],[])] (Oc one Kw)).length)
theorem Qky {os:List (RH.At×List RH.At)} {Ky:List RH.At} {b:Nat} (h1:1<=b) (hb: ∀ q∈os,q.2.length<=b): ∀ i,(fAt os Ky i).length<=b ^ i
 | 0=>by simp [fAt]
 | i+1=>by
  have ih:=Qky (Ky:=Ky) h1 hb i;cases q:os[i]? with
  | none =>
   have e:fAt os Ky (i+1)=fAt os Ky i:=by
    show (match os[i]? with | some q=>_ | none=>_)=_;rw [q]
   rw [e];exact Qu ih (Zj h1 (WV i))
  | some p =>
   rw [Be q];have h2:=hb p (Q9 q);have h3:=OO (as:=(os.drop (i+1)).map (·.1)++Ky) (Wi Qt (fAt os Ky i) p.1 p.2) [];have h4:=B5 (op:=Qt) (a:=p.1) (fs:=p.2) (fAt os Ky i);have h5:(fAt os Ky i).length * p.2.length<=b ^ i * b:=Qwe ih h2;unfold W8;rw [Nat.pow_succ];simp only [Qbd,Nat.zero_add] at h3;omega
theorem Qxp {one Kw:Ru} (h1:RuT one) (h2:RuT Kw):OrdOk (Oc one Kw) []:=by
 have a1: ∀ {r:Ru} (h:RuT r) (a:RH.At),a∈JD r->AtOk a:=λ{r} h a ha=>⟨(h.ts a ha).1,λt ht=>by have:=((h.ts a ha).2 t ht).1;omega⟩
 have few: ∀ q∈Oc one Kw,q.2.length<=4:=λq hq=>by
  rcases Qb.mp hq with rfl | hq
  ·show 1<=4;decide
  ·obtain ⟨l,_,rfl⟩:=Q6.mp hq;show ((Kw.b.filter λl'=>l'.y == l.y).map (·.a)).length<=4;rw [Q2];exact Qu (Wv _ _) h2.bl
 have ol:(Oc one Kw).length<=5:=by
  have:=h1.bl;simp [Oc];omega
 refine ⟨λq hq=> ?_,λq hq=>Qu (few q hq) (by decide),by omega,(λ_ h=>nomatch h),Qz _,λi q hq=> ?_⟩
 ·rcases Qb.mp hq with rfl | hq
  ·refine ⟨a1 h1 _ Q8,λf hf=> ?_⟩;simp at hf;subst hf;exact a1 h2 _ Q8
  ·obtain ⟨l,hl,rfl⟩:=Q6.mp hq;refine ⟨a1 h1 _ (Q7 _ (Q6.mpr ⟨l,hl,rfl⟩)),λf hf=> ?_⟩;obtain ⟨l',hl',rfl⟩:=Q6.mp hf;exact a1 h2 _ (Q7 _ (Q6.mpr ⟨l',(Wc.mp hl').1,rfl⟩))
 ·have Ks:=(Q4.mp hq).1;have e1:=Qky (Ky:=[]) (b:=4) (by decide) few i;have e2:=few q (Q9 hq);have e3:4 ^ i<=4 ^ 5:=Zj (by decide) (by omega);have e4:=Qwe (Qu e1 e3) e2;exact Qu e4 (by decide)
section
variable {P:Program} {w:World} {K:W.Frag} {mg:Str->Option Value} {base:Heap} {C:Addr}
def RCovers:List D->D->Prop:=λds d=> ∃ one Kw:Ru,ds=[one.d,Kw.d]/\RuT one/\RuT Kw/\d= .bl (Qbq one Kw)
abbrev UU:List Str:=["one", "other"]
abbrev Qe6:List Str:=["one", "other", "shelves", "order"]
theorem OV:Vf Qe6 UU (Vs Ot):=⟨rfl,rfl,rfl,by decide +kernel,rfl,by decide +kernel,by decide +kernel⟩
theorem Qmd (T:Txt K mg) (Z:ShC K mg C) (F:Fd K mg "covers" Ot UU) (GI:MkC P w K mg base C 2 Qa6 (Qhu w K C)) (GK:PrL P w K mg base "marked_atoms" 1 BW RMark) (GA:PrL P w K mg base "ways_along" 4 BA (RAlong w C)):PrD P w K mg base "covers" 5 UU RCovers:=by
 refine G0 (N:=Qe6) F OV (by decide) λf0 Km A outer s H E ds d hr hR _=> ?_
 obtain ⟨one,Kw,rfl,h1,h2,rfl⟩:=hR;have hu:=Qck hr;have b1:=h1.bl;have b2:=h2.bl;have m3: ∀ m,∀ a∈Zh Kw m,a.ts.length<=3:=λm a ha=>by
  obtain ⟨l,hl,rfl⟩:=Q6.mp ha;exact h2.lit (Wc.mp hl).1
 have ml: ∀ m,(Zh Kw m).length<=1000:=λm=>by
  unfold Zh;rw [Q2];have:=Wv (λl:Li=>l.y == m) Kw.b;omega
 refine Vq (B3 (i:=2) (Qyq (k1:= "yes") (k2:= "no") Vt (Qel (as:=Zh Kw true) Z GI (hr.mono (by decide)) (PDL.pd (Ya GK (hr.mono (by decide)) (Vc (Vv 1 rfl) (Vc Vt Vn)) ⟨Kw,true,rfl,by omega,rfl⟩)) (.inl rfl) (ml true) (m3 true)) Vt (Qel (as:=Zh Kw false) Z GI (hr.mono (by decide)) (PDL.pd (Ya GK (hr.mono (by decide)) (Vc (Vv 1 rfl) (Vc Vt Vn)) ⟨Kw,false,rfl,by omega,rfl⟩)) (.inl rfl) (ml false) (m3 false)) (Qhy _ _ _) (Qhy _ _ _) (by decide +kernel)) (by simp [LFs,Qhy]) OV.nd) ?_;have eb:Ru.d one= .tup [one.h.d,.tup ((usR one).map λu=> .tup [u.1,u.2])]:=by
  unfold Ru.d usR;rw [Qx];rfl
 have eo:[D.tup [one.h.d,shD w C [Kw.h]]]++((usR one).map λp=>shP w C Kw p.1 p.2)=(Oc one Kw).map (oD w C):=by
  unfold Oc usR;rw [Qk,List.singleton_append,Qx,Qx];congr 1;refine QV λl _=> ?_
  show D.tup [l.a.d,if D.str (mkS l.y)= .str "yes" then shD w C (Zh Kw true) else shD w C (Zh Kw false)]=D.tup [l.a.d,shD w C (Zh Kw l.y)];cases l.y with
  | true=>rw [Qj (show D.str (mkS true)=D.str "yes" from rfl)]
  | false =>
   rw [Qg];intro z;injection z with z
   exact absurd z (by decide +kernel)
 refine Vq (Z9 (i:=3) (d:= .lst ((Oc one Kw).map (oD w C))) (PDL.pd (U2 (Qap (PDL.pd (W5 (Vc (Vp (Vc (Jf (da:= .tup [one.h.d,.tup (one.b.map Li.d)]) (Vv 0 rfl) Vi at0) (Vc (Qel (as:=[Kw.h]) Z GI (hr.mono (by decide)) (PDL.pd (W5 (Vc (Jf (da:= .tup [Kw.h.d,.tup (Kw.b.map Li.d)]) (Vv 1 rfl) Vi at0) Vn) (Vl (by simp)))) (.inl rfl) (by show 1<=1000;decide) (λa ha=>by simp at ha;subst ha;exact h2.head)) Vn)) (Vl (by simp))) Vn) (Vl (by simp))))
  (PDL.pd (Qrk (us:=usR one) (f:=shP w C Kw) rfl (Jf (da:= .tup [one.h.d,.tup ((usR one).map λ(u:D×D)=>D.tup [u.1,u.2])]) (by rw [<- eb];exact Vv 0 rfl) Vi at1) (Vl (by unfold usR;rw [Q2];omega)) (λu v hm cl Cc s' H' ex=> ?_) (hnd:=(by decide +kernel:(("mark" :Str):: "atom" ::Qe6).Nodup)))) (Vl (by simp [usR];omega))) eo)) OV.nd) ?_
 ·obtain ⟨l,_,e⟩:=Q6.mp hm;cases e;unfold shP;refine Vp (Vc (Vv 1 rfl) (Vc ?_ Vn)) (Vl (by simp));cases hy:l.y with
  | true =>
   rw [Qj (show D.str (mkS true)=D.str "yes" from rfl)];exact Qrp (i:=0) (k:= "yes") hu (Vv 4 rfl) (by rw [hy] at *; exact Vv 0 rfl) rfl rfl
  | false =>
   rw [Qg (by intro z;injection z with z;exact absurd z (by decide +kernel))];exact Qrp (i:=1) (k:= "no") hu (Vv 4 rfl) (by rw [hy] at *; exact Vv 0 rfl) rfl rfl
 ·refine Vz (WG ?_);have e0:D.bl (Qbq one Kw)= .bl (decide ((0:Int) < ((ZM Qt [] [([],[])] (Oc one Kw)).length:Nat))):=by
   unfold Qbq;congr 1;rw [decide_eq_decide];omega
  rw [e0];exact Jbe (YK (n:=(ZM Qt [] [([],[])] (Oc one Kw)).length) T.bLen (PDL.pd (Ya GA hr (Vc (Vv 3 rfl) (Vc (PDL.pd (W5 Vn (Vl (by simp)))) Vn)) ⟨Oc one Kw,[],rfl,Qxp h1 h2,rfl⟩)) (by simp [BP,gvs]) (λx e=>nomatch e)) Vi
end
end K24
namespace L2
open PySem PySem.Spec PyProof.Rows
theorem Vals.rev: ∀ {xs:List V} {us:List Value},Vals xs us->Vals xs.reverse us.reverse
 | _,_,.nil=> .nil
 | _,_,.cons r t=>by
  rw [Bj,Bj];exact (Vals.rev t).append (.cons r .nil)
theorem Va.rev {K:W.Frag} {H:Hp}: ∀ {ds:List D} {vs:List V},Va K H ds vs->Va K H ds.reverse vs.reverse
 | [],vs,h=>by
  rw [Va] at h;subst h;exact QR
 | d::ds,vs,h=>by
  rw [Va] at h;obtain ⟨v,r,rfl,q,t⟩:=h;rw [Bj,Bj];exact (Va.rev t).append (Vg q QR)
theorem Qng:bootBuiltins "reversed" =some (.type "reversed"):=by decide +kernel
section
variable {X:Cx} {ρ:List (Option D)} {e:Expr} {te:TE} {p q cp pos:Pos} {ds:List D}
def Qk2 (X:Cx) (Q:VK) (x:V) (H1:Hp):Prop:= ∃ (l:Addr) (xs:List V),x= .ref l/\SqL X.K H1 l xs/\ ∀ p,H1 p=none->Q (.ref p) (upd H1 p (.lst xs.reverse))
theorem Qi9 (hc:X.calm=true) (hm1:X.mg "list" =none) (hm2:X.mg "reversed" =none) (ha:PE X e te) (hg1:Gl X "list" :=by rfl) (hg2:Gl X "reversed" :=by rfl)
  (hs:starEach [e] X.env=[(false,eval e X.env)]:=by rfl) (hs1:starEach [.Call (.Name "reversed" q) [e] [] cp] X.env=[(false,eval (.Call (.Name "reversed" q) [e] [] cp) X.env)]:=by rfl) :
  PE X (.Call (.Name "list" p) [.Call (.Name "reversed" q) [e] [] cp] [] pos) (λσ H Q=>te σ H (Qk2 X Q)):=by
 intro Kz s σ H Q I h;refine WC (Y8 I hg1 hm1 Gp ?_);refine Jo ?_ hs1 rfl;rw [hs1];refine Oa ?_;refine WC (Y8 I hg2 hm2 Qng ?_);refine Jo (thn (Ws ha Z8 hs cp Kz s σ H (λvs H1=>match vs with | [x]=>Qk2 X Q x H1 | _=>False) I (show te σ H (Qk2 X Q) from h)) λus s1 ⟨vs,H1,I1,r1,q0⟩=> ?_) hs rfl;obtain ⟨x,ev⟩: ∃ x,vs=[x]:=by
  match vs,q0 with
  | [x],_=>exact ⟨x,rfl⟩
 subst ev;obtain ⟨l,xs,ex,sq,q1⟩:=(show Qk2 X Q x H1 from q0);subst ex;obtain ⟨u,rfl,ru⟩:=vals1 r1;cases (show u=Value.ref l from ru);obtain ⟨Kv,rv,pl,hz⟩:=I1.list sq;refine call_reversed_list pl.isList (Qwk ?_);have Kr:=rv.length;have ll:l < s1.heap.objs.size:=let ⟨_,ho,_⟩:=pl.isList;Qi ho;obtain ⟨ol,hol,hol2⟩:=pl.isList;refine RV.Qep (I:=s1.heap.objs.size) (l:=l) (xs:=Kv.toArray) (s:={ s1 with heap:=s1.heap.push (revObj l ((Kv.toArray.size:Int) - 1)) }) (I1.ok.hd hc) (Qp ll) ⟨_,Qd _ rfl,rfl,rfl⟩ ⟨ol,Q1 _ hol,hol2⟩ (by rw [Ql,<- Kr];exact hz) λg t acc c kp hS it=> ?_
 obtain ⟨asz,ait⟩:=it;have hn:H1 (s1.heap.objs.size+1)=none:=I1.hok.fresh (WV _);have es:(s1.heap.push (revObj l ((Kv.toArray.size:Int) - 1))).objs.size=s1.heap.objs.size+1:=Ju _ _;have rvr:Vals xs.reverse acc.toList:=by
  have:acc.toList=Kv.reverse:=by
   have hsz:acc.size=Kv.length:=asz.trans (Ql ..);apply JO;intro j
   by_cases hj:j < Kv.length
   ·have hja:j < acc.size:=by omega
    have h1:acc.toList[j]? =some acc[j]:=by
     rw [Qw];exact ZB (by omega)
    have h2:=ait j acc[j] (ZB (by omega));rw [h1,List.getElem?_reverse hj];simpa using h2.symm
   ·rw [Jn (by simp;omega),Jn (by simp;omega)]
  rw [this];exact rv.rev
 have kp1: ∀ b o,s1.heap.get? b=some o->g.get? b=some o:=λb o e=>kp b o (Qp (Qi e)) (Q1 _ e)
 rw [show ({ s1 with heap:=s1.heap.push (revObj l ((Kv.toArray.size:Int) - 1)) }:Shared).heap.objs.size=s1.heap.objs.size+1 from es] at hS ⊢;exact ⟨.ref (s1.heap.objs.size+1),_,I1.laid (t':=t) (a:=s1.heap.objs.size+1) (o:= .lst xs.reverse) kp1 (WV _) (show ObjOk X.prog X.w _ g _ (.lst xs.reverse) from ⟨by rw [List.length_reverse];exact hz,acc.toList,c,rvr,by simpa using hS⟩),rfl,q1 _ hn⟩
theorem Qj5 (hc:X.calm=true) (hm1:X.mg "list" =none) (hm2:X.mg "reversed" =none) (ha:PD X ρ e (.lst ds)) (hg1:Gl X "list" :=by rfl) (hg2:Gl X "reversed" :=by rfl)
  (hs:starEach [e] X.env=[(false,eval e X.env)]:=by rfl) (hs1:starEach [.Call (.Name "reversed" q) [e] [] cp] X.env=[(false,eval (.Call (.Name "reversed" q) [e] [] cp) X.env)]:=by rfl) :
  PDL X ρ (.Call (.Name "list" p) [.Call (.Name "reversed" q) [e] [] cp] [] pos) ds.reverse :=
 ⟨(Qi9 hc hm1 hm2 ha.pe hg1 hg2 hs hs1).imp λσ H Q q=>⟨q.1,λv H1 s1 i1=>by
  obtain ⟨l,xs,rfl,sq,ia⟩:=JY i1;exact ⟨l,xs,rfl,sq,λb hb=>q.2 b xs.reverse _ (s1.free hb) (s1.trans (Same.upd hb)) Vu (ia.rev.same (Same.upd hb))⟩⟩⟩
end
end L2
namespace K24
open PySem L2 RH WY
theorem slice1 {x:Str} {c:Nat} {l:List Nat} (h:signs x=c::l) (h8:x.length<=12):Txt.slice x none (some 1)=⟨#[c]⟩:=by
 obtain ⟨cps⟩:=x;obtain ⟨cs⟩:=cps;have hc:cs=c::l:=h;subst hc;have hn:(⟨⟨c::l⟩⟩:Str).length=l.length+1:=rfl;have hi: ∀ n,n < 13->1<=n->Builtin.Str.strSliceIndices none (some 1) 1 n=[0]:=by decide +kernel
 have e:=hi (l.length+1) (by rw [hn] at h8;omega) (by omega);unfold Txt.slice;rw [hn,e];cases l with
 | nil=>rfl
 | cons a l =>
  rw [Qg (by simp)];rfl
theorem Qnz: ∀ c∈signs SMALL,Txt.isupper ⟨#[c]⟩=false:=by decide +kernel
theorem Qhw: ∀ c∈signs SMALL,c ∉ signs CAPS:=by decide +kernel
theorem Qhl {x:Str} (h:WW x=true): ∃ c l,signs x=c::l/\c∈signs SMALL/\x.length<=8:=by
 unfold WW at h;simp only [Qv,QB,Wo] at h;obtain ⟨⟨h1,h2⟩,h3,_⟩:=h;cases e:signs x with
 | nil =>
  have:x.length=(signs x).length:=rfl;rw [e] at this;simp at this;omega
 | cons c l=>exact ⟨c,l,rfl,h3 c (by rw [e];exact Q8),by omega⟩
theorem Qlq: ∀ x∈XYZ,x.length<=8/\signs x≠[]/\Qt x=true/\UF x=true:=by decide +kernel
theorem Qsz:XYZ.length=3:=by decide
structure Tf (x:Str):Prop where
 l8:x.length<=8
 ne:signs x≠[]
 c:UF x=Qt x
 o:Qt x=true->x∈XYZ
theorem Qf3 {x:Str} (h:tm x):Tf x:=by
 rcases h with h | h
 ·have f:=Qlq x h;exact ⟨f.1,f.2.1,by rw [f.2.2.1,f.2.2.2],λ_=>h⟩
 ·obtain ⟨c,l,e,hc,h8⟩:=Qhl h;have ho:Qt x=false:=by
   unfold Qt;rw [slice1 e (by omega)];exact Qnz c hc
  refine ⟨h8,by rw [e];simp,?_,λz=>by rw [ho] at z;cases z⟩;rw [ho];unfold UF;rw [e];exact QM (Qhw c hc)
structure Dr (r:Ru):Prop where
 b:r.b.length<=4
 t: ∀ a∈JD r,a.ts.length<=3
 tf: ∀ a∈JD r,∀ t∈a.ts,tm t
def AtD (a:RH.At):Prop:=a.ts.length<=3/\ ∀ t∈a.ts,tm t
theorem Qv6 (ns:List Int) (c:Int) (free:Bool):AtD (rule ns c free).h:=by
 refine ⟨?_,?_⟩
 ·simp only [RH.rule,Q2,Wa];exact UP _ _
 ·intro t ht;obtain ⟨j,_,rfl⟩:=Q6.mp ht;exact BV (Qa1 _ (YU ns c free))
theorem Qum (ns:List Int) (c:Int) (free:Bool):AtD (Od ns c free):=by
 refine ⟨?_,?_⟩
 ·simp only [Od,Q2,Wa];exact UP _ _
 ·intro t ht;obtain ⟨j,_,rfl⟩:=Q6.mp ht;exact BV (Qa1 _ (YU ns c free))
theorem Qve {ns:List Int} {c:Int} {free:Bool} {l:Li} (h:l∈Wg ns c free):AtD l.a:=by
 rcases Qdv h with ⟨a,ha,rfl⟩ | ⟨hn,rfl⟩
 ·obtain ⟨k,_,rfl⟩:=Q6.mp ha;exact ⟨Qb1 ..,Qnk ns c (QL c) free k⟩
 ·exact Qum ns c free
theorem Qri (ns:List Int): ∀ r∈rulesR ns,Dr r:=λr hr=>by
 obtain ⟨c,_,rfl⟩:=Q6.mp hr;have hat: ∀ a∈JD (rule ns c (Qaj ns)),AtD a:=λa ha=>by
  rcases Qb.mp ha with rfl | ha
  ·exact Qv6 ns c _
  ·obtain ⟨l,hl,rfl⟩:=Q6.mp ha;exact Qve hl
 exact ⟨GU ns c _,λa ha=>(hat a ha).1,λa ha t ht=>(hat a ha).2 t ht⟩
theorem Dr.ruT {r:Ru} (h:Dr r):RuT r:=⟨h.b,λa ha=>⟨h.t a ha,λt ht=>⟨(Qf3 (h.tf a ha t ht)).l8,(Qf3 (h.tf a ha t ht)).ne⟩⟩⟩
theorem Dr.v {r:Ru} (h:Dr r):(WM r).length<=3:=by
 have:=Qc9 (Qez r) (m:=XYZ) λt ht=>by
  obtain ⟨⟨a,ha,hta⟩,o⟩:=UM.mp ht;have f:=Qf3 (h.tf a ha t hta);exact f.o (by rw [<- f.c];exact o)
 rw [Qsz] at this;exact this
theorem Qcc {r:Ru} {y:Bool} {a:RH.At}:a∈Zh r y ↔ Li.mk y a∈r.b:=by
 unfold Zh;simp only [Q6,Wc,WZ];constructor
 ·rintro ⟨l,⟨h1,h2⟩,h3⟩;cases l;simp at h2 h3;subst h2 h3;exact h1
 ·intro h;exact ⟨_,⟨h,rfl⟩,rfl⟩
theorem Qas {one Kw:Ru} (h:Dr one):Qbq one Kw=Qgl one Kw:=by
 rw [Jd,Ql8];have e:Qbq one Kw=true ↔ ZM Qt [] [([],[])] (Oc one Kw)≠[]:=by
  unfold Qbq;rw [decide_eq_true_iff];exact ZD
 rw [e,Qnm];constructor
 ·rintro ⟨σ,fix,hq⟩;have hm: ∀ a∈JD one,UZ (λt=>if UF t=true then σ t else t) a=mapA σ a:=λa ha=>by
   unfold UZ mapA;congr 1;refine QV λt ht=> ?_
   have f:=Qf3 (h.tf a ha t ht);cases hc:UF t with
   | true=>rw [Qj rfl]
   | false =>
    rw [Qg Qn];exact (fix t (by rw [<- f.c];exact hc)).symm
  refine ⟨λt=>if UF t=true then σ t else t,λt ht=>Qg (by rw [ht];exact Qn),?_,λl hl=> ?_⟩
  ·rw [hm _ Q8];have:=hq _ Q8;simpa using this
  ·rw [hm _ (Q7 _ (Q6.mpr ⟨l,hl,rfl⟩))];have:=hq (l.a,Zh Kw l.y) (Q7 _ (Q6.mpr ⟨l,hl,rfl⟩));exact Qcc.mp this
 ·rintro ⟨f,fix,hh,hb⟩;have hm: ∀ a∈JD one,mapA (λt=>if Qt t=true then f t else t) a=UZ f a:=λa ha=>by
   unfold UZ mapA;congr 1;refine QV λt ht=> ?_
   have ff:=Qf3 (h.tf a ha t ht);cases hc:Qt t with
   | true=>rw [Qj rfl]
   | false =>
    rw [Qg Qn];exact (fix t (by rw [ff.c];exact hc)).symm
  refine ⟨λt=>if Qt t=true then f t else t,λt ht=>Qg (by rw [ht];exact Qn),λq hq=> ?_⟩;rcases Qb.mp hq with rfl | hq
  ·rw [hm _ Q8,hh]
   simp
  ·obtain ⟨l,hl,rfl⟩:=Q6.mp hq;show mapA _ l.a∈Zh Kw l.y;rw [hm _ (Q7 _ (Q6.mpr ⟨l,hl,rfl⟩))];exact Qcc.mpr (hb l hl)
def tgt (ns:List Int):Str:=(["X", "Y", "Z",(words ns).getD 0 ""]:List Str).getD (mix (cell ns 3) 9679 4).toNat ""
def trn (ns:List Int) (t:Str):Str:=WY.subst ["X"] [tgt ns] t
def zzL:Li:=⟨true,⟨"zz",["X"]⟩⟩
def made1 (ns:List Int) (r:Ru):List Li:=r.b.map λl=>⟨l.y,mapA (trn ns) l.a⟩
def made2 (ns:List Int) (r:Ru):List Li:=if r.b.length < 4 then made1 ns r++[zzL] else made1 ns r
def made3 (ns:List Int) (r:Ru):List Li:=if cell ns 3 % 2=1 then (made2 ns r).reverse else made2 ns r
def YI (ns:List Int) (r:Ru):Ru:=⟨mapA (trn ns) r.h,made3 ns r⟩
theorem Qo2 (ns:List Int) (t:Str):trn ns t=if t= "X" then tgt ns else t:=by
 unfold trn WY.subst
 by_cases h:t= "X"
 ·subst h
  simp
 ·simp [h]
theorem Qws (ns:List Int):tm (tgt ns):=by
 have h0:0<=mix (cell ns 3) 9679 4/\mix (cell ns 3) 9679 4 < 4:=by
  unfold mix;omega
 have hw:WW ((words ns).getD 0 "")=true:=by
  have hl:0 < (words ns).length:=by rcases Y1 ns with e | e<;>omega
  rw [Qa,Qc hl];exact Gz ns _ (WR hl)
 unfold tgt;have hc:(mix (cell ns 3) 9679 4).toNat=0 \/ (mix (cell ns 3) 9679 4).toNat=1 \/ (mix (cell ns 3) 9679 4).toNat=2 \/ (mix (cell ns 3) 9679 4).toNat=3:=by omega
 rcases hc with e | e | e | e
 ·rw [e];exact .inl (show ("X" :Str)∈XYZ by decide +kernel)
 ·rw [e];exact .inl (show ("Y" :Str)∈XYZ by decide +kernel)
 ·rw [e];exact .inl (show ("Z" :Str)∈XYZ by decide +kernel)
 ·rw [e];exact .inr hw
theorem Qwr {ns:List Int} {t:Str} (h:tm t):tm (trn ns t):=by
 rw [Qo2];split
 ·exact Qws ns
 ·exact h
theorem Qcd {ns:List Int} {r:Ru} {l:Li}:l∈made3 ns r ↔ l∈made2 ns r:=by
 unfold made3;split
 ·exact Qnp
 ·exact Iff.rfl
theorem Qce (ns:List Int) {r:Ru} (h:r.b.length<=4):(made2 ns r).length<=4:=by
 unfold made2 made1;split
 ·simp;omega
 ·simpa using h
theorem Quu {ns:List Int} {r:Ru} (h:Dr r):Dr (YI ns r):=by
 have at1: ∀ a∈JD r,AtD (mapA (trn ns) a):=λa ha=>⟨by simpa [mapA] using h.t a ha,λt ht=>by
  obtain ⟨x,hx,rfl⟩:=Q6.mp ht;exact Qwr (h.tf a ha x hx)⟩
 have all: ∀ a∈JD (YI ns r),AtD a:=λa ha=>by
  rcases Qb.mp ha with rfl | ha
  ·exact at1 _ Q8
  ·obtain ⟨l,hl,rfl⟩:=Q6.mp ha;have hl2:=Qcd.mp hl;have h1: ∀ l∈made1 ns r,AtD l.a:=λl hl=>by
    obtain ⟨l0,h0,rfl⟩:=Q6.mp hl;exact at1 _ (Q7 _ (Q6.mpr ⟨l0,h0,rfl⟩))
   unfold made2 at hl2;split at hl2
   ·rcases Qy.mp hl2 with z | z
    ·exact h1 l z
    ·simp at z;subst z;exact ⟨by decide,λt ht=> .inl (by
      have:t= "X" :=by simpa [zzL] using ht
      subst this;decide +kernel)⟩
   ·exact h1 l hl2
 refine ⟨?_,λa ha=>(all a ha).1,λa ha=>(all a ha).2⟩;show (made3 ns r).length<=4;unfold made3;split
 ·rw [List.length_reverse];exact Qce ns h.b
 ·exact Qce ns h.b
theorem Qql (ns:List Int) (r:Ru):Qgl r (YI ns r)=true:=by
 refine Ql8.mpr ⟨trn ns,λt ht=> ?_,rfl,λl hl=> ?_⟩
 ·rw [Qo2,Qg];rintro rfl;exact absurd ht (by decide +kernel)
 ·refine Qcd.mpr ?_;have:Li.mk l.y (UZ (trn ns) l.a)∈made1 ns r:=Q6.mpr ⟨l,hl,rfl⟩;unfold made2;split
  ·exact Ji _ this
  ·exact this
def litM (ns:List Int):D->D:=λd=>match d with | .tup [m,.tup [k,.tup ts]]=> .tup [m,.tup [k,.tup (ts.map λd=> .str (WY.subst ["X"] [tgt ns] (Ui d)))]] | d=>d
theorem Qkn (ns:List Int) (r:Ru):(r.b.map Li.d).map (litM ns)=(made1 ns r).map Li.d:=by
 unfold made1;rw [Qx,Qx];refine QV λl _=> ?_
 simp only [QZ,litM,Li.d,RH.At.d,mapA,Qx,Ui];rfl
theorem mix4 (ns:List Int):0<=mix (cell ns 3) 9679 4/\mix (cell ns 3) 9679 4 < 4:=by
 unfold mix;omega
theorem tix (ns:List Int):dAt (.lst [.str "X",.str "Y",.str "Z",.str ((words ns).getD 0 "")]) (mix (cell ns 3) 9679 4)=some (.str (tgt ns)):=by
 have h:=mix4 ns;show atI ((["X", "Y", "Z",(words ns).getD 0 ""]:List Str).map D.str) (mix (cell ns 3) 9679 4)=_;rw [YL (D.str "") h.1 (by simpa using h.2),B9];rfl
theorem Qko (l:Li):LF l.d=true:=by
 have:=UG l.a;simp [Li.d,LF,LFs,this]
section
variable {P:Program} {w:World} {K:W.Frag} {mg:Str->Option Value} {base:Heap} {C:Addr}
def RMade:List D->D->Prop:=λds d=> ∃ (ns:List Int) (r:Ru),ds=[scr ns,r.d]/\ns.length<=63/\Dr r/\d=(YI ns r).d
abbrev Qc6:List Str:=["_law_script", "_law_rule_here"]
abbrev Qw1:List Str:=["_law_script", "_law_rule_here", "_law_turn", "_law_body_here"]
theorem Qdi:Vf Qw1 Qc6 (Vs Qfg):=⟨rfl,rfl,rfl,by decide +kernel,rfl,by decide +kernel,by decide +kernel⟩
theorem Qua (T:Txt K mg) (F:Fd K mg "_law_made" Qfg Qc6) (G1:PrD P w K mg base "_law_cell" 1 ZO RCell) (G2:PrD P w K mg base "_law_mix" 1 Qa5 RMix) (G3:PrL P w K mg base "_law_words" 3 ["_law_script"] (RNs words)):PrD P w K mg base "_law_made" 4 Qc6 RMade:=by
 refine G0 (N:=Qw1) F Qdi (by decide) λf Km A outer s H E ds d hr hR _=> ?_
 obtain ⟨ns,r,rfl,hns,dr,rfl⟩:=hR;have hu:=Qck hr;have hb:=dr.b;have hr1:Room 1 (A.deeper (PyProof.Rows.envOfC "_law_made" (Vs Qfg) s.heap.objs.size f Km)):=hr.mono (by decide);have z1:(1000000:Nat)<=sizeLine:=Vl (Q5 _);refine Vq (B3 (i:=2) (ks:=["X"]) (ds:=[.str (tgt ns)]) (Qyr (k:= "X") Vt (Jf (da:= .lst [.str "X",.str "Y",.str "Z",.str ((words ns).getD 0 "")]) (PDL.pd (W5 (Vc Vt (Vc Vt (Vc Vt (Vc (Jf (PDL.pd (Ya G3 hr (Vc (Vv 0 rfl) Vn) ⟨ns,rfl,hns,rfl⟩)) Vi (wix ns (k:=0) (by decide))) Vn)))) (Vl (by simp)))) (ZR G2 hr1 (U4 (k:=3) G1 hr1 (Vv 0 rfl) Vi) Vi Vi (by decide) (by decide)) (tix ns)) JE) (by simp [LFs,LF]) Qdi.nd) ?_;refine Vq (B2 (i:=3) (ds:=r.b.map Li.d) (f:=litM ns) (by rw [Qkn];exact Jw Qko _) Qdi.nd rfl (U3 (Jf (da:= .tup [r.h.d,.tup (r.b.map Li.d)]) (Vv 1 rfl) Vi at1)) (Vl (by rw [Q2];omega)) (λd hd cl Cc s' H' ex=> ?lit)) ?_
 case lit =>
  obtain ⟨l,hlm,rfl⟩:=Q6.mp hd;have Ks:=dr.t l.a (Q7 _ (Q6.mpr ⟨l,hlm,rfl⟩));refine Vp (Vc (Jf (da:= .tup [.str (if l.y then "yes" else "no"),l.a.d]) (Vv 0 rfl) Vi at0) (Vc (Vp (Vc (Jf (da:= .tup [.str l.a.k,.tup (l.a.ts.map .str)]) (Jf (da:= .tup [.str (if l.y then "yes" else "no"),l.a.d]) (Vv 0 rfl) Vi at1) Vi at0) (Vc (Wj T.bTup (PDL.pd (ZK (f:=λd=> .str (WY.subst ["X"] [tgt ns] (Ui d))) rfl (U3 (Jf (da:= .tup [.str l.a.k,.tup (l.a.ts.map .str)]) (Jf (da:= .tup [.str (if l.y then "yes" else "no"),l.a.d]) (Vv 0 rfl) Vi at1) Vi at1)) (Vl (by rw [Q2];omega)) λd hd cl C s H ex=> ?term)) (.inl rfl)) Vn)) (Vl (by simp))) Vn)) (Vl (by simp));obtain ⟨t,_,rfl⟩:=Q6.mp hd;exact Qj7 hu rfl (Vv 4 rfl) (Vv 0 rfl) (Vv 0 rfl)
 rw [Qkn];show QOs _ H [.arg (scr ns),.arg r.d,.odc ["X"] [.str (tgt ns)],.own ((made1 ns r).map Li.d)] _ _;have m1l:(made1 ns r).length=r.b.length:=by simp [made1]
 refine Vq (m:=false) (τ1:=[.arg (scr ns),.arg r.d,.odc ["X"] [.str (tgt ns)],.own ((made2 ns r).map Li.d)]) (ZF (k:=decide ((r.b.length:Int) < 4)) (by
   exact Qsb (YK (n:=r.b.length) T.bLen (Vv 3 rfl) (by simp [BP,m1l]) (λx e=>nomatch e)) Vi) (λh=> ?_) (λh=> ?_)) ?_
 ·have Ks:r.b.length < 4:=by have:=WD h;omega
  unfold made2;rw [Qj Ks,QF];refine Vz (Y7 (i:=3) (d:=zzL.d) rfl (Vp (Vc Vt (Vc (Vp (Vc Vt (Vc (Vp (Vc Vt Vn) (Vl (by show 1<=1000000;decide))) Vn)) (Vl (by show 2<=1000000;decide))) Vn)) (Vl (by show 2<=1000000;decide))) (Qko _) (AL.h (τ:=[.arg (scr ns),.arg r.d,.odc ["X"] [.str (tgt ns)],.own ((made1 ns r).map Li.d)]) QE) ?_);rw [Q2];omega
 ·have Ks: ¬ r.b.length < 4:=by have:=Y2 h;omega
  unfold made2;rw [Qg Ks];exact ZE Za (Wk.refl _) (λh=>nomatch h)
 refine Vq (m:=true) (τ1:=[.arg (scr ns),.arg r.d,.odc ["X"] [.str (tgt ns)],.own ((made3 ns r).map Li.d)]) (ZF (k:=decide (cell ns 3 % 2=1)) (Qd4 (Ql5 (U4 (k:=3) G1 hr1 (Vv 0 rfl) Vi) Vi (by decide)) Vi) (λh=> ?_) (λh=> ?_)) ?_
 ·have Ks:=WD h;unfold made3;rw [Qj Ks,List.map_reverse];exact Vz (JR (i:=3) (Qj5 rfl T.bLst T.bRev (Vv 3 rfl)) (by rw [<- List.map_reverse];exact Jw Qko _) Qdi.nd)
 ·have Ks:=Y2 h;unfold made3;rw [Qg Ks];exact Za
 have e:(YI ns r).d= .tup [.tup [.str r.h.k,.tup ((r.h.ts.map D.str).map λd=> .str (WY.subst ["X"] [tgt ns] (Ui d)))],.tup ((made3 ns r).map Li.d)]:=by
  simp only [YI,Ru.d,RH.At.d,mapA,Qx,QZ,Ui];rfl
 rw [e];have hht:=dr.t r.h Q8;refine Vz (WG (Vp (Vc (Vp (Vc (Jf (da:= .tup [.str r.h.k,.tup (r.h.ts.map .str)]) (Jf (da:= .tup [r.h.d,.tup (r.b.map Li.d)]) (Vv 1 rfl) Vi at0) Vi at0) (Vc (Wj T.bTup (PDL.pd (ZK (f:=λd=> .str (WY.subst ["X"] [tgt ns] (Ui d))) rfl (U3 (Jf (da:= .tup [.str r.h.k,.tup (r.h.ts.map .str)]) (Jf (da:= .tup [r.h.d,.tup (r.b.map Li.d)]) (Vv 1 rfl) Vi at0) Vi at1)) (Vl (by rw [Q2];omega)) λd hd cl C s H ex=> ?_)) (.inl rfl)) Vn)) (Vl (by simp))) (Vc (Wj T.bTup (Vv 3 rfl) (.inl rfl)) Vn)) (Vl (by simp))));obtain ⟨t,_,rfl⟩:=Q6.mp hd;exact Qj7 hu rfl (Vv 3 rfl) (Vv 0 rfl) (Vv 0 rfl)
end
theorem Qvq (r:Ru):LF r.d=true:=by
 have h1:=UG r.h;have h2:LFs (r.b.map Li.d)=true:=Jw Qko _;simp [Ru.d,LF,LFs,h1,h2]
theorem rix {rs:List Ru} {i:Int} (h0:0<=i) (h1:i < rs.length): ∃ r∈rs,dAt (.tup (rs.map Ru.d)) i=some r.d:=by
 have Ks:i.toNat < rs.length:=by omega
 refine ⟨rs[i.toNat],WR Ks,?_⟩;show atI (rs.map Ru.d) i=_;rw [YL D.non h0 (by rw [Q2];omega),Qa,Qe,Qc Ks];rfl
theorem Ja6 {c p:Int} {n:Nat} (hp:0 < p) (h:0 < n):0<=mix c p n/\mix c p n < n:=by
 unfold mix;constructor
 ·exact Qsx _ (by omega)
 ·exact Qhi _ (by omega)
section
variable {P:Program} {w:World} {K:W.Frag} {mg:Str->Option Value} {base:Heap} {C:Addr}
abbrev Ja3:List Str:=["_law_script", "_law_rules_here", "_law_one", "_law_other", "_law_made_here", "_law_mine", "_law_yours", "_law_found"]
theorem BT:Vf Ja3 ["_law_script"] (Vs Qm2):=⟨rfl,rfl,rfl,by decide +kernel,rfl,by decide +kernel,by decide +kernel⟩
theorem Qz4 {X:Cx} {ρ:List (Option D)} {a b:Expr} {pos:Pos} {i:Bool} (ha:PD X ρ a (.bl i)) (hb:PD X ρ b (.bl i)):PB X ρ (.Compare a [.NotEq] [b] pos) false:=by
 have h:=Ua (pos:=pos) Qpg ha hb (Qpr (x:= .bl i) (y:= .bl i) rfl rfl rfl) (nomark _);have e:(!decide (V.bl i=V.bl i))=false:=by simp
 rwa [e] at h
set_option maxHeartbeats 4000000 in
theorem Qxx {f:Addr} {fd:FuncData} (T:Txt K mg) (F:Fun K "law" "law" Qm2 f fd) (GR:PrD P w K mg base "_law_rules" 6 ["_law_script"] (RNsT Qdu)) (G1:PrD P w K mg base "_law_cell" 1 ZO RCell) (G2:PrD P w K mg base "_law_mix" 1 Qa5 RMix)
  (GM:PrD P w K mg base "_law_made" 4 Qc6 RMade) (GC:PrD P w K mg base "covers" 5 UU RCovers) (GL:PrD P w K mg base "_law_covers" 3 U7 RCov):FnOk P w K mg base CX0 7 f fd ["_law_script"] (spD K 1 RLaw0):=by
 refine Qyn (N:=Ja3) F BT (by decide) λKm A outer s H E ds d hr hR _=> ?_
 obtain ⟨ns,rfl,hns,rfl⟩:=hR;have drs:=Qri ns;have h9:(rulesR ns).length<=9:=by unfold rulesR;rw [Q2];exact Qgk ns
 have hr1:Room 1 (A.deeper (PyProof.Rows.envOfC "law" (Vs Qm2) s.heap.objs.size f Km)):=hr.mono (by decide);have hrl:LF (.tup ((rulesR ns).map Ru.d))=true:=by
  have:LFs ((rulesR ns).map Ru.d)=true:=Jw Qvq _;simp [LF,this]
 refine Vq (m:=true) (Z9 (i:=1) (d:= .tup ((rulesR ns).map Ru.d)) (Zc GR hr (Vc (Vv 0 rfl) Vn) ⟨ns,rfl,hns,rfl⟩) BT.nd) ?_
 by_cases he:(rulesR ns)=[]
 ·refine Qa9 (ZF (r:= .ret (.bl true)) (Qd3 (Qw8 (Vv 1 rfl))) (λ_=>Vz (WG Qz1)) (λz=> ?_));rw [he] at z;cases z
 refine Vq (m:=true) (ZF (r:= .next true _) (Qd3 (Qw8 (Vv 1 rfl))) (λz=> ?_) (λ_=>Za)) ?_
 ·cases hq:rulesR ns with
  | nil=>exact absurd hq he
  | cons a l=>rw [hq] at z;cases z
 have hpos:0 < (rulesR ns).length:=ZD.mpr he;obtain ⟨b1,b2⟩:=Ja6 (c:=cell ns 3) (p:=9677) (by decide) hpos;obtain ⟨b3,b4⟩:=Ja6 (c:=cell ns 3) (p:=9661) (by decide) hpos;obtain ⟨one,h1,e1⟩:=rix b1 b2;obtain ⟨Kw,h2,e2⟩:=rix b3 b4;have d1:=drs one h1;have d2:=drs Kw h2;have d3:=Quu (ns:=ns) d1;have Kr: ∀ (X:Cx) (ρ:List (Option D)) (e:Expr) (p pos:Pos),X.mg "len" =none->PD X ρ e (.tup ((rulesR ns).map Ru.d))->Gl X "len" ->starEach [e] X.env=[(false,eval e X.env)]->PD X ρ (.Call (.Name "len" p) [e] [] pos) (.int (rulesR ns).length):=λX ρ e p pos hm h hg hs=>YK (n:=(rulesR ns).length) hm h (by simp [BP]) (λx e=>nomatch e) hg hs
 refine Vq (m:=true) (Z9 (i:=2) (d:=one.d) (Jf (da:= .tup ((rulesR ns).map Ru.d)) (Vv 1 rfl) (ZR G2 hr1 (U4 (k:=3) G1 hr1 (Vv 0 rfl) Vi) Vi (Kr _ _ _ _ _ T.bLen (Vv 1 rfl) rfl rfl) (by decide) (by omega)) e1) BT.nd) ?_;refine Vq (m:=true) (Z9 (i:=3) (d:=Kw.d) (Jf (da:= .tup ((rulesR ns).map Ru.d)) (Vv 1 rfl) (ZR G2 hr1 (U4 (k:=3) G1 hr1 (Vv 0 rfl) Vi) Vi (Kr _ _ _ _ _ T.bLen (Vv 1 rfl) rfl rfl) (by decide) (by omega)) e2) BT.nd) ?_;refine Vq (m:=true) (Z9 (i:=4) (d:=(YI ns one).d) (Zc GM (hr.mono (by decide)) (Vc (Vv 0 rfl) (Vc (Vv 2 rfl) Vn)) ⟨ns,one,rfl,hns,d1,rfl⟩) BT.nd) ?_
 let ps:List (Ru×Ru):=[(one,Kw),(Kw,one),(one,YI ns one),(YI ns one,one),(one,one)]
 have pd: ∀ p∈ps,Dr p.1/\Dr p.2:=λp hp=>by
  simp only [ps,Qb,QT,JW] at hp;rcases hp with rfl | rfl | rfl | rfl | rfl
  ·exact ⟨d1,d2⟩
  ·exact ⟨d2,d1⟩
  ·exact ⟨d1,d3⟩
  ·exact ⟨d3,d1⟩
  ·exact ⟨d1,d1⟩
 have plf:LFs (ps.map λp=>D.tup [p.1.d,p.2.d])=true:=Jw (λp=>by simp [LF,LFs,Qvq]) _;have pt: ∀ d∈(ps.map λp=>D.tup [p.1.d,p.2.d]),∃ a b,d= .tup [a,b]:=λd hd=>by
  obtain ⟨p,_,rfl⟩:=Q6.mp hd;exact ⟨_,_,rfl⟩
 refine Vq (m:=true) (Gm (ds:=ps.map λp=>D.tup [p.1.d,p.2.d]) (m:=true) (put:=λτ d=>(τ.set 5 (.any (nth d 0))).set 6 (.any (nth d 1))) (λ_=>[.arg (scr ns),.any (.tup ((rulesR ns).map Ru.d)),.any one.d,.any Kw.d,.any (YI ns one).d,.no,.no,.no]) QI rfl
  (ZY (UT (W5 (Vc (Vp (Vc (Vv 2 rfl) (Vc (Vv 3 rfl) Vn)) (Vl (by simp))) (Vc (Vp (Vc (Vv 3 rfl) (Vc (Vv 2 rfl) Vn)) (Vl (by simp))) (Vc (Vp (Vc (Vv 2 rfl) (Vc (Vv 4 rfl) Vn)) (Vl (by simp))) (Vc (Vp (Vc (Vv 4 rfl) (Vc (Vv 2 rfl) Vn)) (Vl (by simp))) (Vc (Vp (Vc (Vv 2 rfl) (Vc (Vv 2 rfl) Vn)) (Vl (by simp))) Vn))))) (Vl (by show 5<=1000000;decide))) plf))
  (Gk rfl (Vh (Jr (i:=5) BT.nd rfl (QJ rfl)) (Vh (Jr (i:=6) BT.nd rfl (QJ rfl)) YY))) (put2 pt) (Qos plf) rfl (λi d hi=>⟨true,?_,λ_=>rfl⟩)) ?_
 ·rw [Qe] at hi;cases hq:ps[i]? with
  | none=>rw [hq] at hi;cases hi
  | some p =>
   rw [hq] at hi;cases hi;obtain ⟨p1,p2⟩:=pd p (Q9 hq);have cs:=Qas (Kw:=p.2) p1;show QOs _ H [.arg (scr ns),.any (.tup ((rulesR ns).map Ru.d)),.any one.d,.any Kw.d,.any (YI ns one).d,.any p.1.d,.any p.2.d,.no] _ _;refine ZE (YF (Z9 (i:=7) (d:= .bl (Qbq p.1 p.2)) (Zc GC (hr.mono (by decide)) (Vc (Vv 5 rfl) (Vc (Vv 6 rfl) Vn)) ⟨p.1,p.2,rfl,p1.ruT,p2.ruT,rfl⟩) BT.nd) (Vz (ZF (k:=false) (r:= .next true _) (Qjd (Qvg (k:=false) (Qd3 (k:=true) (Bh (Qro T.bIsi T.bBool Qjc (Vv 7 rfl) (Qqt _ _)))) (λ_=>Qs9 (Qz4 (i:=Qbq p.1 p.2) (Vv 7 rfl) (by rw [cs];exact Zc GL (hr.mono (by decide)) (Vc (Vv 5 rfl) (Vc (Vv 6 rfl) Vn)) ⟨p.1,p.2,rfl,p1.ruT,p2.ruT,p1.v,rfl⟩))) (λz=>nomatch z))) (λz=>nomatch z) (λ_=>Za)))) (WkI.wk (.keep (.keep (.keep (.keep (.keep (.no (.no (.no .nil))))))))) (λh=>h)
 ·have c1:Qbq one one=true:=by rw [Qas d1];exact Qrw one
  have c2:Qbq one (YI ns one)=true:=by rw [Qas d1];exact Qql ns one
  refine Vz (WG (Qrt (k:=true) ?_ (λ_=>Jal ?_) (λz=>nomatch z)))
  ·rw [<- c1];exact Zc GC (hr.mono (by decide)) (Vc (Vv 2 rfl) (Vc (Vv 2 rfl) Vn)) ⟨one,one,rfl,d1.ruT,d1.ruT,rfl⟩
  ·rw [<- c2];exact Zc GC (hr.mono (by decide)) (Vc (Vv 2 rfl) (Vc (Vv 4 rfl) Vn)) ⟨one,YI ns one,rfl,d1.ruT,d3.ruT,rfl⟩
end
end K24
namespace K24
open PySem L2 RH
structure Cl (K:W.Frag) (mg:Str->Option Value) where
 C:Addr
 z:ShC K mg C
 i:FdC K C "Shelf.__init__" OW Qa6
 a:FdM K C "add" "Shelf.add" Qfh Qm9
 n:FdM K C "near" "Shelf.near" BU Qc5
theorem Jar {K:W.Frag} {h:Heap} {mg:Str->Option Value} {C f1 f2 f3:Addr} {od1 an1 od2 an2 od3 an3:Option Addr} {sl1 sl2 sl3:Array (Option Value)} {oc1 kV1 dc1 pm1 cd1 ct1 oc2 kV2 dc2 pm2 cd2 ct2 oc3 kV3 dc3 pm3 cd3 ct3:Value} (X:K.In h) (G:h.Ns mainGlobals mg)
  (e0:W.nsIn K mainGlobals "Shelf" =some (some (.ref C)))
  (e1:W.findIn K (.ref C) "__init__" =some (some (.ref f1)))
  (e2:W.isFn K (.ref f1)=true)
  (e3:K.lookup f1=some ⟨oc1,od1,.func (W.fnOf "__init__" "Shelf.__init__" (WX OW) (JM OW) (Vs OW) .none kV1 dc1 pm1 an1 cd1 ct1),sl1⟩)
  (e4:W.codeIn K cd1 "Shelf.__init__" =true)
  (e5:W.keepIn K (.ref f1)=true)
  (e6:W.findIn K (.ref C) "add" =some (some (.ref f2)))
  (e7:W.isFn K (.ref f2)=true)
  (e8:K.lookup f2=some ⟨oc2,od2,.func (W.fnOf "add" "Shelf.add" (WX Qfh) (JM Qfh) (Vs Qfh) .none kV2 dc2 pm2 an2 cd2 ct2),sl2⟩)
  (e9:W.codeIn K cd2 "Shelf.add" =true)
  (e10:W.keepIn K (.ref f2)=true)
  (e11:W.findIn K (.ref C) "near" =some (some (.ref f3)))
  (e12:W.isFn K (.ref f3)=true)
  (e13:K.lookup f3=some ⟨oc3,od3,.func (W.fnOf "near" "Shelf.near" (WX BU) (JM BU) (Vs BU) .none kV3 dc3 pm3 an3 cd3 ct3),sl3⟩)
  (e14:W.codeIn K cd3 "Shelf.near" =true)
  (e15:W.keepIn K (.ref f3)=true)
  (e16:W.plainGet K C Str.empty=true)
  (e17:W.hasDictIn K C=true)
  (e18:W.plainOver K C=true)
  (e19:W.findIn K (.ref C) "__setattr__" =some (some (.builtin "object.__setattr__")))
  (e20:W.makesIn K C=true)
  (e21:W.keepIn K (.ref C)=true)
  (e22:W.findIn K (.ref C) "there" =some none)
  (e23:W.findIn K (.ref C) "rows" =some none)
  :Nonempty (Cl K mg):=by
 have F1:=BL (st:=OW) e3 e4 e5;have F2:=BL (st:=Qfh) e8 e9 e10;have F3:=BL (st:=BU) e13 e14 e15;exact ⟨⟨C,⟨W.mg_of X G e0,⟨e16,e17,e18,e19⟩,e22,e23⟩,⟨f1,_,⟨e20,e1,e2,e21⟩,F1,F1.binds (ps:=Qa6) λ_ _ _ _ _ _ us hl=>match us,hl with | [_,_],_=>rfl⟩,⟨f2,_,⟨e6,e7,e10⟩,F2,F2.binds (ps:=Qm9) λ_ _ _ _ _ _ us hl=>match us,hl with | [_,_],_=>rfl⟩,⟨f3,_,⟨e11,e12,e15⟩,F3,F3.binds (ps:=Qc5) λ_ _ _ _ _ _ us hl=>match us,hl with | [_,_,_],_=>rfl⟩⟩⟩
theorem all {P:Program} {w:World} {K:W.Frag} {mg:Str->Option Value} {base:Heap} {f:Addr} {fd:FuncData} (T:Txt K mg) (C:Cl K mg) (F:Fun K "law" "law" Qm2 f fd)
  (t1:Fd K mg "is_open" Qjw ["term"])
  (t2:Fd K mg "filled" Os B1)
  (t3:Fd K mg "marked_atoms" Oo BW)
  (t4:Fd K mg "matched" GS Qm8)
  (t5:Fd K mg "joined" Oq Qc7)
  (t6:Fd K mg "thinned" Qff Qc4)
  (t7:Fd K mg "ways_along" Qds BA)
  (t8:Fd K mg "covers" Ot UU)
  (l1:Fd K mg "_law_cell" Qjy ZO)
  (l2:Fd K mg "_law_mix" Qtg Qa5)
  (l3:Fd K mg "_law_word" Qdm Qkg)
  (l4:Fd K mg "_law_kinds" Qdo ["_law_script"])
  (l5:Fd K mg "_law_words" Qdl ["_law_script"])
  (l6:Fd K mg "_law_size" Qjv ZO)
  (l7:Fd K mg "_law_some" Qju B0)
  (l8:Fd K mg "_law_body" Qjz Qc8)
  (l9:Fd K mg "_law_bound" Qdr ["_law_body_here"])
  (l10:Fd K mg "_law_rule" Qdn By)
  (l12:Fd K mg "_law_rules" Op ["_law_script"])
  (l13:Fd K mg "_law_variables" YT ["_law_rule_here"])
  (l14:Fd K mg "_law_put" Qtf Qfr)
  (l15:Fd K mg "_law_given" Qdq Bz)
  (l16:Fd K mg "_law_instances" Qjx U7)
  (l17:Fd K mg "_law_covers" Qbk U7)
  (l18:Fd K mg "_law_made" Qfg Qc6)
  :FnOk P w K mg base CX0 7 f fd ["_law_script"] (spD K 1 RLaw0):=by
 have p1:=Qu7 (P:=P) (w:=w) (base:=base) t1;have p2:=Qmc (P:=P) (w:=w) (base:=base) T t2;have p3:=Qu9 (P:=P) (w:=w) (base:=base) t3;have p4:=Qpk T t4 p1;have s1:=Qxz (P:=P) (w:=w) (base:=base) T C.z C.a;have s2:=Que T C.z C.i s1;have s3:=Qu8 T C.z C.n p2 p1;have p5:=Quc T C.z t5 s3 p4;have p6:=Qu4 T t6 p2;have p7:=Qpq T t7 p5 p6;have p8:=Qmd T C.z t8 s2 p3 p7;have m1:=Quf (P:=P) (w:=w) (base:=base) T l1;have m2:=Qxw (P:=P) (w:=w) (base:=base) l2;have m3:=Qpl T l3 m2;have m4:=Qpn T l4 m1 m3;have m5:=Qpi T l5 m1 m3 m2;have m6:=Qu6 T l6 m1 m2;have m7:=Qu5 T l7 m2;have m8:=Qug T l8 m2 m5 m4 m6 m7;have m9:=Qpp (P:=P) (w:=w) (base:=base) l9;have m10:=Qpm T l10 m2 m5 m4 m6 m7 m8 m9;have m12:=Qpj T l12 m1 m2 m10;have m13:=Qe2 (P:=P) (w:=w) (base:=base) l13;have m14:=Qxv (P:=P) (w:=w) (base:=base) T l14;have m15:=Qpo (P:=P) (w:=w) (base:=base) T l15;have m16:=Qud T l16 m15 m13;have m17:=Qxy T l17 m16 m14;have m18:=Qua T l18 m1 m2 m5;exact Qxx T F m12 m1 m2 m18 p8 m17
end K24
open PySem PySem.W PyProof.Rows
theorem PySem.W.Fast.tw4063892013062637306 : True := trivial
theorem PySem.W.Fast.tw17417474778827231404 : True := trivial
theorem PySem.W.Fast.tw6519946270614579697 : True := trivial
theorem PySem.W.Fast.tw6413724444412804319 : True := trivial
theorem PySem.W.Fast.tw11019565391420030104 : True := trivial
theorem PySem.W.Fast.tw11958175862679681559 : True := trivial
theorem PySem.W.Fast.tw16763940903244171143 : True := trivial
theorem PySem.W.Fast.tw12746786989250837907 : True := trivial
theorem PySem.W.Fast.tw1141212343477585879 : True := trivial
theorem PySem.W.Fast.tw17569306470523784494 : True := trivial
theorem PySem.W.Fast.tw17346550182783756259 : True := trivial
theorem PySem.W.Fast.tw9205777935857665752 : True := trivial
theorem PySem.W.Fast.tw1287939048535315361 : True := trivial
theorem PySem.W.Fast.tw12091487303316507272 : True := trivial
theorem PySem.W.Fast.tw17912503319084703844 : True := trivial
theorem PySem.W.Fast.tw2850700259850689984 : True := trivial
theorem PySem.W.Fast.tw1182838480809470595 : True := trivial
theorem PySem.W.Fast.tw3718143729949239242 : True := trivial
theorem PySem.W.Fast.tw4051134916612803119 : True := trivial
theorem PySem.W.Fast.tw967991124081273622 : True := trivial
theorem PySem.W.Fast.tw13797285889800332812 : True := trivial
theorem PySem.W.Fast.tw5041128615438498366 : True := trivial
theorem PySem.W.Fast.tw1080797945112325283 : True := trivial
theorem PySem.W.Fast.tw13700246173244893862 : True := trivial
set_option maxRecDepth 100000 in
set_option maxHeartbeats 0 in
theorem PySem.Challenge.cw_rulehall_k24_covering_rules_holds : PySem.Challenge.rw_rulehall_k24_covering_rules.Holds := by
 w_on;o_law;k_head;(case hw=>w_witness2)
 k_fill
 refine L2.Qnx (l:=PySem.Challenge.rw_rulehall_k24_covering_rules) (n:=63) (k:=7) (x:= "_law_script") (CX:=L2.CX0) (sp:=λK=>L2.spD K 1 L2.RLaw0) rfl (by decide) rfl ⟨rfl,by decide,by decide⟩ (λw h Y=>W.kIn_of Y) ?F (λK H a ns hl _ hS=>L2.Ja8 H a ns hl hS) (λ_ _ _ _ z=>z)
 case F =>
  intro w mg fa h KX G hmg;have t1:L2.Fd (L2.KOf KX) mg "is_open" K24.Qjw ["term"]:=by
   dsimp only [L2.KOf]
   refine' L2.Wx KX G ?a ?l ?c ?k ?b
   (case a=>k_is);(case l=>k_is);(case c=>k_is);(case k=>k_is);(case b=>exact λ_ _ _ _ _ _ us hl=>match us,hl with | [_],_=>rfl)
  have t2:L2.Fd (L2.KOf KX) mg "filled" K24.Os K24.B1:=by
   dsimp only [L2.KOf]
   refine' L2.Wx KX G ?a ?l ?c ?k ?b
   (case a=>k_is);(case l=>k_is);(case c=>k_is);(case k=>k_is);(case b=>exact λ_ _ _ _ _ _ us hl=>match us,hl with | [_,_],_=>rfl)
  have t3:L2.Fd (L2.KOf KX) mg "marked_atoms" K24.Oo K24.BW:=by
   dsimp only [L2.KOf]
   refine' L2.Wx KX G ?a ?l ?c ?k ?b
   (case a=>k_is);(case l=>k_is);(case c=>k_is);(case k=>k_is);(case b=>exact λ_ _ _ _ _ _ us hl=>match us,hl with | [_,_],_=>rfl)
  have t4:L2.Fd (L2.KOf KX) mg "matched" K24.GS K24.Qm8:=by
   dsimp only [L2.KOf]
   refine' L2.Wx KX G ?a ?l ?c ?k ?b
   (case a=>k_is);(case l=>k_is);(case c=>k_is);(case k=>k_is);(case b=>exact λ_ _ _ _ _ _ us hl=>match us,hl with | [_,_,_],_=>rfl)
  have t5:L2.Fd (L2.KOf KX) mg "joined" K24.Oq K24.Qc7:=by
   dsimp only [L2.KOf]
   refine' L2.Wx KX G ?a ?l ?c ?k ?b
   (case a=>k_is);(case l=>k_is);(case c=>k_is);(case k=>k_is);(case b=>exact λ_ _ _ _ _ _ us hl=>match us,hl with | [_,_,_],_=>rfl)
  have t6:L2.Fd (L2.KOf KX) mg "thinned" K24.Qff K24.Qc4:=by
   dsimp only [L2.KOf]
   refine' L2.Wx KX G ?a ?l ?c ?k ?b
   (case a=>k_is);(case l=>k_is);(case c=>k_is);(case k=>k_is);(case b=>exact λ_ _ _ _ _ _ us hl=>match us,hl with | [_,_],_=>rfl)
  have t7:L2.Fd (L2.KOf KX) mg "ways_along" K24.Qds K24.BA:=by
   dsimp only [L2.KOf]
   refine' L2.Wx KX G ?a ?l ?c ?k ?b
   (case a=>k_is);(case l=>k_is);(case c=>k_is);(case k=>k_is);(case b=>exact λ_ _ _ _ _ _ us hl=>match us,hl with | [_,_],_=>rfl)
  have t8:L2.Fd (L2.KOf KX) mg "covers" K24.Ot K24.UU:=by
   dsimp only [L2.KOf]
   refine' L2.Wx KX G ?a ?l ?c ?k ?b
   (case a=>k_is);(case l=>k_is);(case c=>k_is);(case k=>k_is);(case b=>exact λ_ _ _ _ _ _ us hl=>match us,hl with | [_,_],_=>rfl)
  have l1:L2.Fd (L2.KOf KX) mg "_law_cell" K24.Qjy K24.ZO:=by
   dsimp only [L2.KOf]
   refine' L2.Wx KX G ?a ?l ?c ?k ?b
   (case a=>k_is);(case l=>k_is);(case c=>k_is);(case k=>k_is);(case b=>exact λ_ _ _ _ _ _ us hl=>match us,hl with | [_,_],_=>rfl)
  have l2:L2.Fd (L2.KOf KX) mg "_law_mix" K24.Qtg K24.Qa5:=by
   dsimp only [L2.KOf]
   refine' L2.Wx KX G ?a ?l ?c ?k ?b
   (case a=>k_is);(case l=>k_is);(case c=>k_is);(case k=>k_is);(case b=>exact λ_ _ _ _ _ _ us hl=>match us,hl with | [_,_,_],_=>rfl)
  have l3:L2.Fd (L2.KOf KX) mg "_law_word" K24.Qdm K24.Qkg:=by
   dsimp only [L2.KOf]
   refine' L2.Wx KX G ?a ?l ?c ?k ?b
   (case a=>k_is);(case l=>k_is);(case c=>k_is);(case k=>k_is);(case b=>exact λ_ _ _ _ _ _ us hl=>match us,hl with | [_,_,_],_=>rfl)
  have l4:L2.Fd (L2.KOf KX) mg "_law_kinds" K24.Qdo ["_law_script"]:=by
   dsimp only [L2.KOf]
   refine' L2.Wx KX G ?a ?l ?c ?k ?b
   (case a=>k_is);(case l=>k_is);(case c=>k_is);(case k=>k_is);(case b=>exact λ_ _ _ _ _ _ us hl=>match us,hl with | [_],_=>rfl)
  have l5:L2.Fd (L2.KOf KX) mg "_law_words" K24.Qdl ["_law_script"]:=by
   dsimp only [L2.KOf]
   refine' L2.Wx KX G ?a ?l ?c ?k ?b
   (case a=>k_is);(case l=>k_is);(case c=>k_is);(case k=>k_is);(case b=>exact λ_ _ _ _ _ _ us hl=>match us,hl with | [_],_=>rfl)
  have l6:L2.Fd (L2.KOf KX) mg "_law_size" K24.Qjv K24.ZO:=by
   dsimp only [L2.KOf]
   refine' L2.Wx KX G ?a ?l ?c ?k ?b
   (case a=>k_is);(case l=>k_is);(case c=>k_is);(case k=>k_is);(case b=>exact λ_ _ _ _ _ _ us hl=>match us,hl with | [_,_],_=>rfl)
  have l7:L2.Fd (L2.KOf KX) mg "_law_some" K24.Qju K24.B0:=by
   dsimp only [L2.KOf]
   refine' L2.Wx KX G ?a ?l ?c ?k ?b
   (case a=>k_is);(case l=>k_is);(case c=>k_is);(case k=>k_is);(case b=>exact λ_ _ _ _ _ _ us hl=>match us,hl with | [_,_],_=>rfl)
  have l8:L2.Fd (L2.KOf KX) mg "_law_body" K24.Qjz K24.Qc8:=by
   dsimp only [L2.KOf]
   refine' L2.Wx KX G ?a ?l ?c ?k ?b
   (case a=>k_is);(case l=>k_is);(case c=>k_is);(case k=>k_is);(case b=>exact λ_ _ _ _ _ _ us hl=>match us,hl with | [_,_,_,_],_=>rfl)
  have l9:L2.Fd (L2.KOf KX) mg "_law_bound" K24.Qdr ["_law_body_here"]:=by
   dsimp only [L2.KOf]
   refine' L2.Wx KX G ?a ?l ?c ?k ?b
   (case a=>k_is);(case l=>k_is);(case c=>k_is);(case k=>k_is);(case b=>exact λ_ _ _ _ _ _ us hl=>match us,hl with | [_],_=>rfl)
  have l10:L2.Fd (L2.KOf KX) mg "_law_rule" K24.Qdn K24.By:=by
   dsimp only [L2.KOf]
   refine' L2.Wx KX G ?a ?l ?c ?k ?b
   (case a=>k_is);(case l=>k_is);(case c=>k_is);(case k=>k_is);(case b=>exact λ_ _ _ _ _ _ us hl=>match us,hl with | [_,_,_],_=>rfl)
  have l12:L2.Fd (L2.KOf KX) mg "_law_rules" K24.Op ["_law_script"]:=by
   dsimp only [L2.KOf]
   refine' L2.Wx KX G ?a ?l ?c ?k ?b
   (case a=>k_is);(case l=>k_is);(case c=>k_is);(case k=>k_is);(case b=>exact λ_ _ _ _ _ _ us hl=>match us,hl with | [_],_=>rfl)
  have l13:L2.Fd (L2.KOf KX) mg "_law_variables" K24.YT ["_law_rule_here"]:=by
   dsimp only [L2.KOf]
   refine' L2.Wx KX G ?a ?l ?c ?k ?b
   (case a=>k_is);(case l=>k_is);(case c=>k_is);(case k=>k_is);(case b=>exact λ_ _ _ _ _ _ us hl=>match us,hl with | [_],_=>rfl)
  have l14:L2.Fd (L2.KOf KX) mg "_law_put" K24.Qtf K24.Qfr:=by
   dsimp only [L2.KOf]
   refine' L2.Wx KX G ?a ?l ?c ?k ?b
   (case a=>k_is);(case l=>k_is);(case c=>k_is);(case k=>k_is);(case b=>exact λ_ _ _ _ _ _ us hl=>match us,hl with | [_,_],_=>rfl)
  have l15:L2.Fd (L2.KOf KX) mg "_law_given" K24.Qdq K24.Bz:=by
   dsimp only [L2.KOf]
   refine' L2.Wx KX G ?a ?l ?c ?k ?b
   (case a=>k_is);(case l=>k_is);(case c=>k_is);(case k=>k_is);(case b=>exact λ_ _ _ _ _ _ us hl=>match us,hl with | [_,_],_=>rfl)
  have l16:L2.Fd (L2.KOf KX) mg "_law_instances" K24.Qjx K24.U7:=by
   dsimp only [L2.KOf]
   refine' L2.Wx KX G ?a ?l ?c ?k ?b
   (case a=>k_is);(case l=>k_is);(case c=>k_is);(case k=>k_is);(case b=>exact λ_ _ _ _ _ _ us hl=>match us,hl with | [_,_],_=>rfl)
  have l17:L2.Fd (L2.KOf KX) mg "_law_covers" K24.Qbk K24.U7:=by
   dsimp only [L2.KOf]
   refine' L2.Wx KX G ?a ?l ?c ?k ?b
   (case a=>k_is);(case l=>k_is);(case c=>k_is);(case k=>k_is);(case b=>exact λ_ _ _ _ _ _ us hl=>match us,hl with | [_,_],_=>rfl)
  have l18:L2.Fd (L2.KOf KX) mg "_law_made" K24.Qfg K24.Qc6:=by
   dsimp only [L2.KOf]
   refine' L2.Wx KX G ?a ?l ?c ?k ?b
   (case a=>k_is);(case l=>k_is);(case c=>k_is);(case k=>k_is);(case b=>exact λ_ _ _ _ _ _ us hl=>match us,hl with | [_,_],_=>rfl)
  have b1:mg "isinstance" =none:=by (refine' W.mg_none_of KX G ?a);(case a=>k_is)
  have b2:mg "str" =none:=by (refine' W.mg_none_of KX G ?a);(case a=>k_is)
  have b3:mg "tuple" =none:=by (refine' W.mg_none_of KX G ?a);(case a=>k_is)
  have b4:mg "len" =none:=by (refine' W.mg_none_of KX G ?a);(case a=>k_is)
  have b5:mg "int" =none:=by (refine' W.mg_none_of KX G ?a);(case a=>k_is)
  have b6:mg "range" =none:=by (refine' W.mg_none_of KX G ?a);(case a=>k_is)
  have b7:mg "bool" =none:=by (refine' W.mg_none_of KX G ?a);(case a=>k_is)
  have b8:mg "set" =none:=by (refine' W.mg_none_of KX G ?a);(case a=>k_is)
  have b9:mg "sorted" =none:=by (refine' W.mg_none_of KX G ?a);(case a=>k_is)
  have b10:mg "dict" =none:=by (refine' W.mg_none_of KX G ?a);(case a=>k_is)
  have b11:mg "enumerate" =none:=by (refine' W.mg_none_of KX G ?a);(case a=>k_is)
  have b12:mg "list" =none:=by (refine' W.mg_none_of KX G ?a);(case a=>k_is)
  have b13:mg "zip" =none:=by (refine' W.mg_none_of KX G ?a);(case a=>k_is)
  have b14:mg "any" =none:=by (refine' W.mg_none_of KX G ?a);(case a=>k_is)
  have b15:mg "all" =none:=by (refine' W.mg_none_of KX G ?a);(case a=>k_is)
  have b16:mg "min" =none:=by (refine' W.mg_none_of KX G ?a);(case a=>k_is)
  have b17:mg "reversed" =none:=by (refine' W.mg_none_of KX G ?a);(case a=>k_is)
  have T:K24.Txt (L2.KOf KX) mg:=⟨b1,b2,b3,b4,b5,b6,b7,b8,b9,b10,b11,b12,b13,b14,b15,b16,b17⟩;have CC:Nonempty (K24.Cl (L2.KOf KX) mg):=by
   dsimp only [L2.KOf]
   refine' K24.Jar KX G ?e0 ?e1 ?e2 ?e3 ?e4 ?e5 ?e6 ?e7 ?e8 ?e9 ?e10 ?e11 ?e12 ?e13 ?e14 ?e15 ?e16 ?e17 ?e18 ?e19 ?e20 ?e21 ?e22 ?e23
   (case e0=>first | k_is | kernel_rfl)
   (case e1=>first | k_is | kernel_rfl)
   (case e2=>first | k_is | kernel_rfl)
   (case e3=>first | k_is | kernel_rfl)
   (case e4=>first | k_is | kernel_rfl)
   (case e5=>first | k_is | kernel_rfl)
   (case e6=>first | k_is | kernel_rfl)
   (case e7=>first | k_is | kernel_rfl)
   (case e8=>first | k_is | kernel_rfl)
   (case e9=>first | k_is | kernel_rfl)
   (case e10=>first | k_is | kernel_rfl)
   (case e11=>first | k_is | kernel_rfl)
   (case e12=>first | k_is | kernel_rfl)
   (case e13=>first | k_is | kernel_rfl)
   (case e14=>first | k_is | kernel_rfl)
   (case e15=>first | k_is | kernel_rfl)
   (case e16=>first | k_is | kernel_rfl)
   (case e17=>first | k_is | kernel_rfl)
   (case e18=>first | k_is | kernel_rfl)
   (case e19=>first | k_is | kernel_rfl)
   (case e20=>first | k_is | kernel_rfl)
   (case e21=>first | k_is | kernel_rfl)
   (case e22=>first | k_is | kernel_rfl)
   (case e23=>first | k_is | kernel_rfl)
  obtain ⟨C⟩:=CC
  refine' L2.Ja9 (st:=K24.Qm2) KX G hmg ?a ?l ?b ?F
  (case a=>k_is);(case l=>k_is);(case b=>exact λs u=> .of_eq rfl)
  (case F =>
   intro base
   refine' K24.all T C (L2.BL (st:=K24.Qm2) ?l ?c ?k) t1 t2 t3 t4 t5 t6 t7 t8 l1 l2 l3 l4 l5 l6 l7 l8 l9 l10 l12 l13 l14 l15 l16 l17 l18
   (case l=>k_is);(case c=>k_is);(case k=>k_is))
