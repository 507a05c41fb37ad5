import PyProof.Rows.All
import Wide.All
import OpenK.AllK
import Wide.FinOn
import Lean
import PyProof.EqAt
import PyProof.EqKinds
import PyProof.TupleCall
import PySem.Str
import PyProof.ListMulRoad
import KE.KDictLaws
import PyProof.IsiH_list
import PyProof.IsiH_tuple
import PyProof.CodeObj
import PyProof.DictItems
import PyProof.WalksMore
import KE.KDictOf
import PyProof.ZipIter
import PyProof.EnumMake
import PyProof.SetScanFacts
import PyProof.SetKind
import PyProof.DictFindH
import PyProof.IsRules
import PyProof.Rows.SetFrom
import PyProof.SetRoads
import PyProof.CollectWalk
import PyProof.FactsAll.tuple_iterator
import PyProof.Rows.SortShell
import KE.KSortAsk
import KE.KSortTup
import PyProof.Rows.StrSplitMax
import PyProof.Rows.SortStr
import KE.KItemsList
import PyProof.DictWalks
import PyProof.FString5
import KE.KDictSum
import KE.KDictList
import PyProof.CallStr
import PyProof.DictTruth
import PyProof.FactsAll.zip_1
import PyProof.StationsW
import PyProof.ExcClass3
import PyProof.NsDelKeeps
import KE.KIsAll
import PyProof.ExcArgsOwn
import PyProof.ExcAttrAll.ValueError
import OpenK.KOwn
import PyProof.ExcBaseAll.ValueError
import PySem.Challenge.RW_rulehall_k27_what_unfolding_tells
abbrev Q0:=@List.length_map
abbrev Q1:=@PySem.wpAny_bind
abbrev Q2:=@PySem.Heap.get?_push_of_some
abbrev Q3:=@List.mem_map
abbrev Q4:=@List.mem_of_getElem?
abbrev Q5:=@List.getElem?_eq_some_iff
abbrev Q6:=@Nat.le_refl
abbrev Q7:=@List.mem_cons_self
abbrev Q8:=@List.getElem?_map
abbrev Q9:=@List.mem_cons_of_mem
abbrev Qa:=@PySem.Heap.lt_size
abbrev Qb:=@List.getElem?_eq_getElem
abbrev Qc:=@List.getElem?_set_ne
abbrev Qd:=@List.mem_cons
abbrev Qe:=@PySem.wpAny_pure
abbrev Qg:=@PySem.Heap.get?_push_size
abbrev Qh:=@List.size_toArray
abbrev Qj:=@List.length_take
abbrev Qk:=@if_pos
abbrev Ql:=@List.length_append
abbrev Qm:=@List.getD_eq_getElem?_getD
abbrev Qn:=@if_neg
abbrev Qo:=@List.map_map
abbrev Qp:=@List.map_cons
abbrev Qq:=@Nat.ne_of_lt
abbrev Qr:=@Nat.lt_of_lt_of_le
abbrev Qs:=@List.mem_singleton
abbrev Qt:=@Option.some.inj
abbrev Qu:=@List.getElem?_set_self
abbrev Qv:=@Bool.and_eq_true
abbrev Qw:=@PySem.PassesOwn.never
abbrev Qx:=@List.idxOf_lt_length_iff
abbrev Qy:=@Bool.false_ne_true
abbrev Qz:=@Nat.le_trans
abbrev QA:=@decide_eq_false
abbrev QC:=@List.length_cons
abbrev QD:=@decide_eq_true_eq
abbrev QE:=@List.map_append
abbrev QF:=@List.take_length
abbrev QG:=@List.mem_append_right
abbrev QH:=@List.mem_append
abbrev QI:=@Or.inl
abbrev QJ:=@List.take_add_one
abbrev QK:=@Function.comp_def
abbrev QM:=@decide_eq_true
abbrev QP:=@PySem.sizeLine_eq
abbrev QQ:=@List.map_congr_left
abbrev QV:=@List.not_mem_nil
abbrev QW:=@List.mem_of_mem_take
abbrev QY:=@Or.inr
abbrev QZ:=@Nat.lt_of_le_of_lt
abbrev J0:=@List.getElem_idxOf
abbrev J3:=@PySem.Heap.get?_update_other
abbrev J4:=@PySem.wpAny_field
abbrev J5:=@Ne.symm
abbrev Jb:=@List.of_mem_zip
abbrev Jc:=@Bool.eq_iff_iff
abbrev Jd:=@Nat.zero_le
abbrev Jl:=@List.foldl_cons
abbrev Jo:=@PySem.wpAny_mono
abbrev Jp:=@List.getElem?_append_left
abbrev Jq:=@PySem.wpAny_setField_rec
abbrev Jr:=@List.length_drop
abbrev Jx:=@of_decide_eq_true
abbrev JA:=@PyProof.Rows.slot_tuple_getitem
abbrev JB:=@List.getElem?_append_right
abbrev JC:=@PySem.wpAny_callSpecial?_slot
abbrev JD:=@Nat.ne_of_gt
abbrev JE:=@List.foldlM_cons
abbrev JJ:=@List.getElem?_eq_none
abbrev JL:=@List.map_take
abbrev JM:=@List.append_nil
abbrev JN:=@PySem.wpAny_newObj_type
abbrev JQ:=@congrArg
abbrev JR:=@List.mem_flatMap
abbrev JV:=@List.map_drop
abbrev JX:=@or_false
abbrev JY:=@Option.map_eq_some_iff
abbrev JZ:=@List.take_of_length_le
abbrev W1:=@List.getElem?_zip_eq_some
abbrev W8:=@Nat.lt_irrefl
abbrev W9:=@Bool.and_self
abbrev Wc:=@List.nodup_nil
abbrev Wd:=@List.mem_range
abbrev Wh:=@PySem.wpAny_call_entry
abbrev Wj:=@List.nodup_append
abbrev Wl:=@List.length_range
abbrev Wm:=@List.foldl_append
abbrev Wn:=@True.intro
abbrev Wo:=@Nat.min_eq_left
abbrev Wp:=@List.mem_filter
abbrev Wq:=@List.length_zip
abbrev Ws:=@beq_eq_false_iff_ne
abbrev Wt:=@PySem.mem_of_lookup
abbrev Wu:=@List.filterMap_cons
abbrev Ww:=@PyProof.Rows.callWith_type1
abbrev WF:=@PySem.wpAny_truthy_bool
abbrev WH:=@Array.getElem?_eq_some_iff
abbrev WO:=@PySem.wpAny_holding
abbrev WP:=@List.drop_eq_getElem_cons
abbrev WR:=@List.nodup_cons
abbrev WS:=@List.length_nil
abbrev WU:=@PySem.wpAny_seqItems
abbrev WV:=@PySem.Heap.size_push
abbrev WW:=@PySem.Heap.get?_update_self
abbrev Z2:=@PySem.lookup_relabel_local
abbrev Z3:=@PySem.F.plainAttrs_list
abbrev Za:=@List.zip_cons_cons
abbrev Zb:=@List.mem_filterMap
abbrev Zh:=@PySem.wpAny_isInstance
abbrev Zj:=@List.length_filter_le
abbrev Zx:=@if_true
abbrev Zy:=@List.ext_getElem?
abbrev Zz:=@Int.toNat_natCast
abbrev ZA:=@Bool.not_eq_true'
abbrev ZB:=@PySem.wpAny_pyIter_tuple
abbrev ZE:=@PySem.wpAny_passesOwn
abbrev ZF:=@List.mem_append_left
abbrev ZM:=@PySem.Obj.isFreed_of_fields
abbrev ZN:=@List.map_nil
abbrev ZO:=@List.getElem_mem
abbrev ZT:=@List.length_pos_iff
abbrev ZY:=@List.any_cons
abbrev ZZ:=@PySem.F.slot_tuple_iterator_next
abbrev Y0:=@Bool.true_and
abbrev Y4:=@List.find?_cons
abbrev Yb:=@List.pairwise_cons
abbrev Yc:=@List.length_zipIdx
abbrev Yd:=@Bool.false_eq_true
abbrev Yu:=@decide_eq_false_iff_not
abbrev Yv:=@PySem.F.plainAttrs_dict
abbrev Yw:=@Option.bind_eq_some_iff
abbrev Yx:=@Nat.le_succ
abbrev Yy:=@List.getElem?_replicate
abbrev Yz:=@PySem.F.slot_tuple_getattribute
abbrev YI:=@PySem.wpAny_comprehension_free
abbrev YJ:=@List.lt_irrefl
abbrev YK:=@List.flatMap_cons
abbrev YL:=@PySem.F.slot_list_getattribute
abbrev YV:=@PySem.tupleKind_room_in1
abbrev YW:=@PySem.Obj.data_mapFields
abbrev Uk:=@List.length_singleton
abbrev Ul:=@List.getElem?_zipWith
abbrev UL:=@PySem.wpAny_typeOf
abbrev UM:=@PySem.wpAny_loadPart_at
abbrev UN:=@PySem.F.slot_dict_setdefault
abbrev Gs:=@PySem.builtinLookup_eq_fast
abbrev Gu:=@PySem.F.slot_enumerate_next
abbrev Gw:=@Array.length_toList
abbrev GS:=@PySem.wpAny_rule
abbrev GX:=@PySem.wpAny_standAt
abbrev GY:=@PySem.wpAny_attempt
abbrev B1:=@of_decide_eq_false
abbrev B2:=@PySem.F.excBase_ValueError
abbrev B3:=@Bool.false_and
abbrev B4:=@Array.perm_iff_toList_perm
abbrev Bg:=@PySem.wpAny_execs_nil
abbrev Bh:=@Classical.byContradiction
abbrev BK:=@List.append_assoc
abbrev BL:=@PySem.Heap.SameBut.update
abbrev BM:=@PySem.F.args_tuple_add_2
abbrev BN:=@PySem.W.KasT.kasWp_bind
abbrev OG:=@PySem.wpAny_setField
abbrev OH:=@PySem.wpAny_Call_Name_kw
abbrev OI:=@if_false
abbrev OJ:=@PySem.F.entry_tuple_add
abbrev OK:=@Nat.lt_succ_self
abbrev OL:=@Nat.le_of_not_lt
abbrev OM:=@Nat.le_add_right
abbrev ON:=@List.mem_nil_iff
abbrev OO:=@List.length_eq_zero_iff
abbrev OP:=@List.all_eq_true
abbrev OQ:=@PySem.Calls.spliced_cons
abbrev Qak:=@PySem.F.slot_tuple_add
abbrev Qal:=@List.drop_eq_nil_of_le
abbrev Qci:=@PySem.wpAny_pyIter_enum
abbrev Qcj:=@PySem.wpAny_assign_Name
abbrev Qck:=@List.forIn_cons
abbrev Qcl:=@List.filter_map
abbrev Qcm:=@PySem.F.slot_dict_get
abbrev Qea:=@Nat.pow_le_pow_right
abbrev Qeb:=@List.mem_of_mem_tail
abbrev Qec:=@List.mem_of_mem_drop
abbrev Qed:=@List.map_eq_cons_iff
abbrev Qee:=@List.getElem?_zipIdx
abbrev Qfx:=@Int.toNat_of_nonneg
abbrev Qfy:=@PySem.Calls.callWith_builtin
abbrev Qhz:=@PySem.typeLookup_type
abbrev Qi0:=@PySem.SeqAt.EqAt.same
abbrev Qi1:=@List.all_cons
abbrev Qi2:=@PySem.Heap.DictOf.new
abbrev Qi3:=@PySem.F.slot_zip_next
abbrev Qi4:=@Bool.false_or
abbrev Qlf:=@PySem.wpAny_updateSeq_pair
abbrev Qlg:=@PySem.wpAny_newTuple
abbrev Qlh:=@PySem.codeAny_call_builtin
abbrev Qli:=@Option.isSome_map
abbrev Qlj:=@Nat.lt_or_ge
abbrev Qlk:=@Nat.le_of_lt
abbrev Qll:=@PySem.Calls.evalArgs_plain
abbrev Qnk:=@List.eraseIdxIfInBounds_toArray
abbrev Qnl:=@PySem.wpAny_isSubtype_exc
abbrev Qnm:=@List.lookup_cons
abbrev Qnn:=@List.filter_cons
abbrev Qno:=@List.any_eq_true
abbrev Qrt:=@PySem.wpAny_onRaise
abbrev Qru:=@PySem.Paired.length
abbrev Qrv:=@PySem.call_meets
abbrev Qrw:=@PySem.SeqAt.EqAt.str_str
abbrev Qrx:=@PySem.SeqAt.EqAt.str_int
abbrev Qry:=@PySem.SeqAt.EqAt.of_refs
abbrev Qrz:=@PySem.SeqAt.EqAt.int_str
abbrev Qs0:=@PySem.F.type_dict_setdefault
abbrev Quz:=@Array.getD_eq_getD_getElem?
abbrev Qvv:=@PySem.wpAny_pyIter_list
abbrev Qvw:=@PySem.concat_meets
abbrev Qvx:=@PySem.codeAny_mono
abbrev Qvy:=@PySem.call_meetsIn
abbrev Qvz:=@List.take_take
abbrev Qw0:=@List.forIn_nil
abbrev Qw1:=@PySem.Heap.get?_push_ne
abbrev Qw2:=@PySem.Calls.spliced_nil
set_option Elab.async false
set_option linter.all false
set_option maxRecDepth 100000
namespace L2
open PySem PySem.Spec PyProof.Rows
abbrev Key:=Sum Int Str
def Qdm:Key->Value->Bool
 | .inl k,v=>Value.isInt k v
 | .inr x,v=>Value.isStrOf x v
def Jas (w:World):Key->Int
 | .inl k=>hashInt k
 | .inr x=>hashStr w x
theorem JK: ∀ {k:Key} {v:Value},Qdm k v=true->(∃ i t,k=Sum.inl i/\v=Value.int i t) \/ (∃ x t,k=Sum.inr x/\v=Value.str x t)
 | .inl i,v,h=>by
  obtain ⟨t,e⟩:=Value.isInt_shape (k:=i) (v:=v) h;exact .inl ⟨i,t,rfl,e⟩
 | .inr x,v,h=>by
  obtain ⟨t,e⟩:=Value.isStrOf_shape (x:=x) (v:=v) h;exact .inr ⟨x,t,rfl,e⟩
theorem Qmw (i:Int) (t:Tok):Qdm (.inl i) (.int i t)=true:=by simp [Qdm,Value.isInt]
theorem Qmv (x:Str) (t:Tok):Qdm (.inr x) (.str x t)=true:=by simp [Qdm,Value.isStrOf]
theorem Qxt (a b:Int):decide ((Sum.inl a:Key)=Sum.inl b)=(a == b):=by
 by_cases e:a=b
 ·subst e;simp
 ·have h: ¬ (Sum.inl a:Key)=Sum.inl b:=fun q=>e (Sum.inl.inj q)
  rw [QA h];exact (Ws.mpr e).symm
theorem Qxq (a b:Str):decide ((Sum.inr a:Key)=Sum.inr b)=decide (a=b):=by
 by_cases e:a=b
 ·subst e;simp
 ·have h: ¬ (Sum.inr a:Key)=Sum.inr b:=fun q=>e (Sum.inr.inj q)
  rw [QA h,QA e]
theorem Qxs (a:Int) (b:Str):decide ((Sum.inl a:Key)=Sum.inr b)=false:=QA (fun q=>nomatch q)
theorem Qxr (a:Str) (b:Int):decide ((Sum.inr a:Key)=Sum.inl b)=false:=QA (fun q=>nomatch q)
def Jj (prog:Program) (w:World):PySem.KeyKind prog w Key where
 is:=Qdm
 hash:=Jas w
 inj:=fun v a b ha hb=>by
  rcases JK ha with ⟨i,t,rfl,rfl⟩ | ⟨x,t,rfl,rfl⟩
  ·rcases JK hb with ⟨j,u,rfl,e⟩ | ⟨y,u,rfl,e⟩
   ·injection e with e1 _;rw [e1]
   ·exact nomatch e
  ·rcases JK hb with ⟨j,u,rfl,e⟩ | ⟨y,u,rfl,e⟩
   ·exact nomatch e
   ·injection e with e1 _;rw [e1]
 byValue:=fun k v h=>by
  rcases JK h with ⟨i,t,rfl,rfl⟩ | ⟨x,t,rfl,rfl⟩<;>rfl
 pyHash:=fun hv h=>by
  rcases JK hv with ⟨i,t,rfl,rfl⟩ | ⟨x,t,rfl,rfl⟩
  ·exact wpAny_pyHash_int h
  ·exact wpAny_pyHash_str h
 eqBool:=fun hu hv h=>by
  rcases JK hu with ⟨i,t,rfl,rfl⟩ | ⟨x,t,rfl,rfl⟩
  ·rcases JK hv with ⟨j,u,rfl,rfl⟩ | ⟨y,u,rfl,rfl⟩
   ·rw [Qxt] at h;exact wpAny_eqBool_int h
   ·rw [Qxs] at h;exact Qrz i t y u _ _ _ _ h
  ·rcases JK hv with ⟨j,u,rfl,rfl⟩ | ⟨y,u,rfl,rfl⟩
   ·rw [Qxr] at h;exact Qrx x t j u _ _ _ _ h
   ·rw [Qxq] at h;exact wpAny_eqBool_str h
 «strs» :=fun k x t v h=>by
  rcases JK h with ⟨i,u,rfl,e⟩ | ⟨y,u,rfl,e⟩
  ·exact nomatch e
  ·injection e with e1 _
   subst e1;cases v<;>rfl
theorem Qgt (prog:Program) (w:World) (i:Int) (t:Tok):(Jj prog w).is (.inl i) (.int i t)=true:=Qmw i t
theorem Gc (prog:Program) (w:World) (x:Str) (t:Tok):(Jj prog w).is (.inr x) (.str x t)=true:=Qmv x t
inductive V where
 | non | bl (b:Bool) | int (i:Int) | str (x:Str) | byt (b:Array UInt8) | flt (b:UInt64) | ref (a:Addr) | ty (n:String)
 deriving DecidableEq
def RelV:V->Value->Prop
 | .non,u=>u=Value.none
 | .bl b,u=>u=Value.bool b
 | .int i,u=> ∃ t,u=Value.int i t
 | .str x,u=> ∃ t,u=Value.str x t
 | .byt b,u=> ∃ t,u=Value.bytes b t
 | .flt b,u=> ∃ t,u=Value.float b t
 | .ref a,u=>u=Value.ref a
 | .ty n,u=>u=Value.type n
abbrev Vals:List V->List Value->Prop:=Paired RelV
theorem Vals.length {xs:List V} {us:List Value} (r:Vals xs us):xs.length=us.length:=Qru r
theorem Vals.get: ∀ {xs:List V} {us:List Value} {i:Nat} {x:V},Vals xs us->xs[i]? =some x-> ∃ u,us[i]? =some u/\RelV x u
 | _,_,_,_,.nil,e=>by simp at e
 | _,_,0,_,.cons r _,e=>by simp at e;subst e;exact ⟨_,rfl,r⟩
 | _,_,i+1,x,.cons _ t,e=>by
  obtain ⟨u,h1,h2⟩:=Vals.get (i:=i) (x:=x) t (by simpa using e);exact ⟨u,by simpa using h1,h2⟩
theorem Vals.set {x:V} {u:Value} (r:RelV x u): ∀ {xs:List V} {us:List Value} (i:Nat),Vals xs us->Vals (xs.set i x) (us.set i u)
 | _,_,_,.nil=> .nil
 | _,_,0,.cons _ t=> .cons r t
 | _,_,i+1,.cons q t=> .cons q (Vals.set r i t)
theorem Vals.append: ∀ {xs ys:List V} {us ws:List Value},Vals xs us->Vals ys ws->Vals (xs++ys) (us++ws)
 | _,_,_,_,.nil,s=>s
 | _,_,_,_,.cons r t,s=> .cons r (Vals.append t s)
theorem Vals.take: ∀ {xs:List V} {us:List Value} (n:Nat),Vals xs us->Vals (xs.take n) (us.take n)
 | _,_,0,_=> .nil
 | _,_,_+1,.nil=> .nil
 | _,_,n+1,.cons r t=> .cons r (Vals.take n t)
theorem Vals.drop: ∀ {xs:List V} {us:List Value} (n:Nat),Vals xs us->Vals (xs.drop n) (us.drop n)
 | _,_,0,r=>r
 | _,_,_+1,.nil=> .nil
 | _,_,n+1,.cons _ t=>Vals.drop n t
def RelO:Option V->Option Value->Prop
 | some v,some u=>RelV v u
 | none,none=>True
 | _,_=>False
def KV {κ:Type}:List (κ×V)->List (κ×Value)->Prop:=Paired fun (p:κ×V) (q:κ×Value)=>p.1=q.1/\RelV p.2 q.2
def kV:Key->V
 | .inl i=> .int i
 | .inr x=> .str x
inductive HO where
 | lst (xs:List V)
 | tup (xs:List V)
 | dK (kvs:List (Key×V)) | dT (kvs:List (List Key×V))
 | set (S:Int->Bool) (n:Nat)
 | ins (C dx:Addr) (fs:List (Str×V))
 | own (x:Addr)
 | xd (fs:List (Str×V))
 | met (f x:Addr)
 | rng (lo hi:Int)
 | frz (o:Obj) (u:HO)
 | tbl (ps:Array Value)
 | ext (φ:Heap->Prop)
abbrev Hp:=Addr->Option HO
def upd (H:Hp) (a:Addr) (o:HO):Hp:=fun b=>if b=a then some o else H b
theorem Vu {H:Hp} {a:Addr} {o:HO}:upd H a o a=some o:=by unfold upd;rw [Qk rfl]
theorem J1 {H:Hp} {a b:Addr} {o:HO} (h:b≠a):upd H a o b=H b:=by unfold upd;rw [Qn h]
theorem Qzk {H:Hp} {a b:Addr} {o u:HO} (h:H a=some o) (h':H b=some u) (d:o≠u):a≠b:=by
 intro e;subst e;rw [h] at h';exact d (Qt h')
theorem Jg {H:Hp} {a b:Addr} {o:HO} (h:H a=some o) (h':H b=none):a≠b:=by
 intro e;subst e;rw [h] at h';cases h'
section
variable (P:Program) (w:World)
def ObjOk (H:Hp) (h:Heap) (a:Addr):HO->Prop
 | .lst xs=>xs.length<=sizeLine/\ ∃ (its:List Value) (n:Nat),Vals xs its/\h.get? a=some { cls:= .type "list",data:= .seq its.toArray n }
 | .tup xs=>xs.length<=sizeLine/\ ∃ its:List Value,Vals xs its/\IsTup h a its.toArray
 | .dK kvs=>kvs.length<=sizeLine/\(a == sysModules)=false/\ ∃ vs,KV kvs vs/\h.DictOf (Jj P w) a vs
 | .dT kvs=>kvs.length<=sizeLine/\(a == sysModules)=false/\ ∃ xs:List (List Key×Addr×Value),
   Paired (fun (p:List Key×V) (q:List Key×Addr×Value)=>p.1=q.1/\H q.2.1=some (.tup (p.1.map kV))/\RelV p.2 q.2.2) kvs xs /\
   ∃ o es ep,h.get? a=some o/\o.ExactDict/\o.data= .dict es ep/\es.toList=xs.map (entryOfKey (tupleKind (Jj P w)))/\(xs.map (·.1)).Nodup
 | .set S n=>h.SetOf (intKind P w) a S n
 | .ins C dx fs=>H dx=some (.own a)/\fs.length<=1000/\dx≠a/\h.get? a=some (W.instObj C dx) /\
   ∃ mA,h.Ns1 dx mA/\(∀ f,RelO (fs.lookup f) (mA f))/\PySem.Within mA (fs.map (·.1))
 | .own _=> ∃ o,h.get? a=some o
 | .xd fs=> ∃ mA,h.Ns1 a mA/\ ∀ f,RelO (fs.lookup f) (mA f)
 | .rng lo hi=> ∃ t u v,h.get? a=some { cls:= .type "range",data:= .fields #[.int lo t,.int hi u,.int 1 v] }
 | .frz o u=>h.get? a=some o/\ObjOk H h a u
 | .tbl ps=>h.get? a=some { cls:= .none,data:= .fields ps }
 | .met f x=>h.get? a=some (W.methodObj (.ref f) (.ref x))
 | .ext φ=>φ h/\(∃ o,h.get? a=some o)/\ ∀ h1 h2:Heap,φ h1->(∀ o,h1.get? a=some o->h2.get? a=some o)->φ h2
def HOk (H:Hp) (h:Heap):Prop:= ∀ a o,H a=some o->ObjOk P w H h a o
end
section
variable {P:Program} {w:World} {H H':Hp} {h h':Heap} {a:Addr} {o:HO}
theorem ObjOk.lt (x:ObjOk P w H h a o):a < h.objs.size:=by
 cases o with
 | lst xs=>obtain ⟨_,_,_,_,e⟩:=x;exact Qa e
 | tup xs=>obtain ⟨_,_,_,p⟩:=x;exact p.lt
 | dK kvs=>obtain ⟨_,_,_,_,o,_,_,e,_⟩:=x;exact Qa e
 | dT kvs=>obtain ⟨_,_,_,_,o,_,_,e,_⟩:=x;exact Qa e
 | set S n=>obtain ⟨o,_,_,_,e,_⟩:=x;exact Qa e
 | ins C dx fs=>obtain ⟨_,_,_,e,_⟩:=x;exact Qa e
 | own y=>obtain ⟨_,e⟩:=x;exact Qa e
 | xd fs=>obtain ⟨_,⟨_,_,_,e,_⟩,_⟩:=x;exact Qa e
 | rng lo hi=>obtain ⟨_,_,_,e⟩:=x;exact Qa e
 | frz ob u=>obtain ⟨e,_⟩:=x;exact Qa e
 | tbl ps=>exact Qa (show h.get? a=some _ from x)
 | met f y=>exact Qa (show h.get? a=some _ from x)
 | ext φ=>obtain ⟨_,⟨_,e⟩,_⟩:=x;exact Qa e
theorem Paired.mapP {α β:Type} {F G:α->β->Prop}: ∀ {l₁:List α} {l₂:List β},Paired F l₁ l₂->(∀ a b,F a b->G a b)->Paired G l₁ l₂
 | _,_,.nil,_=> .nil
 | _,_,.cons r t,f=> .cons (f _ _ r) (Paired.mapP t f)
theorem ObjOk.stay (x:ObjOk P w H h a o) (k: ∀ b u,(b=a \/ H b=some (.own a))->h.get? b=some u->h'.get? b=some u)
  (ho: ∀ b,H b=some (.own a)->H' b=some (.own a)) (ht: ∀ b xs,H b=some (.tup xs)->H' b=some (.tup xs)):ObjOk P w H' h' a o:=by
 induction o with
 | lst xs=>obtain ⟨z,its,n,r,e⟩:=x;exact ⟨z,its,n,r,k _ _ (.inl rfl) e⟩
 | tup xs=>obtain ⟨z,its,r,ob,e,c⟩:=x;exact ⟨z,its,r,ob,k _ _ (.inl rfl) e,c⟩
 | dK kvs=>obtain ⟨z,y,vs,r,ob,es,ep,e,c⟩:=x;exact ⟨z,y,vs,r,ob,es,ep,k _ _ (.inl rfl) e,c⟩
 | dT kvs =>
  obtain ⟨z,y,xs,r,ob,es,ep,e,c⟩:=x;exact ⟨z,y,xs,Paired.mapP r fun p q z=>⟨z.1,ht _ _ z.2.1,z.2.2⟩,ob,es,ep,k _ _ (.inl rfl) e,c⟩
 | set S n=>obtain ⟨ob,es,ep,t,e,c⟩:=x;exact ⟨ob,es,ep,t,k _ _ (.inl rfl) e,c⟩
 | ins C dx fs =>
  obtain ⟨d,z,ne,e,mA,⟨od,es,ep,e2,c⟩,r⟩:=x;exact ⟨ho _ d,z,ne,k _ _ (.inl rfl) e,mA,⟨od,es,ep,k _ _ (.inr d) e2,c⟩,r⟩
 | own y=>obtain ⟨ob,e⟩:=x;exact ⟨ob,k _ _ (.inl rfl) e⟩
 | xd fs=>obtain ⟨mA,⟨od,es,ep,e,c⟩,r⟩:=x;exact ⟨mA,⟨od,es,ep,k _ _ (.inl rfl) e,c⟩,r⟩
 | rng lo hi=>obtain ⟨t,u,v,e⟩:=x;exact ⟨t,u,v,k _ _ (.inl rfl) e⟩
 | frz ob u ih=>obtain ⟨e,q⟩:=x;exact ⟨k _ _ (.inl rfl) e,ih q⟩
 | tbl ps =>
  have e:h.get? a=some { cls:= .none,data:= .fields ps }:=x;show h'.get? a=some { cls:= .none,data:= .fields ps };exact k a _ (.inl rfl) e
 | met f y =>
  have e:h.get? a=some (W.methodObj (.ref f) (.ref y)):=x;show h'.get? a=some (W.methodObj (.ref f) (.ref y));exact k a _ (.inl rfl) e
 | ext φ=>obtain ⟨p,⟨o,e⟩,st⟩:=x;exact ⟨st _ _ p fun o q=>k _ _ (.inl rfl) q,⟨o,k _ _ (.inl rfl) e⟩,st⟩
theorem HOk.lt (x:HOk P w H h) (e:H a=some o):a < h.objs.size:=(x a o e).lt
theorem HOk.fresh (x:HOk P w H h) (e:h.objs.size<=a):H a=none:=by
 cases q:H a with
 | none=>rfl
 | some u=>exact absurd (Qr (x.lt q) e) (W8 _)
theorem HOk.kept (x:HOk P w H h) (k: ∀ b u,h.get? b=some u->h'.get? b=some u):HOk P w H h':=fun a o e =>
 (x a o e).stay (fun b u _ q=>k b u q) (fun _ q=>q) fun _ _ q=>q
theorem HOk.laid (x:HOk P w H h) (k: ∀ b u,h.get? b=some u->h'.get? b=some u) (hp:h.objs.size<=a) (new:ObjOk P w (upd H a o) h' a o):HOk P w (upd H a o) h':=fun b u e=>by
 have hn:=x.fresh hp
 by_cases hb:b=a
 ·subst hb;rw [Vu] at e;cases e;exact new
 ·rw [J1 hb] at e;exact (x b u e).stay (fun c v _ q=>k c v q) (fun c q=>by rw [J1 (Jg q hn)];exact q) fun c xs q=>by rw [J1 (Jg q hn)];exact q
end
def Rd (H:Hp) (a:Addr) (u:HO):Prop:=H a=some u \/ ∃ o,H a=some (.frz o u)
theorem Rd.ok {P:Program} {w:World} {H:Hp} {h:Heap} {a:Addr} {u:HO} (r:Rd H a u) (x:HOk P w H h):ObjOk P w H h a u:=by
 rcases r with r | ⟨o,r⟩
 ·exact x a u r
 ·obtain ⟨_,q⟩:=x a _ r;exact q
def Mut:Option HO->Prop
 | some (.lst _)=>True
 | some (.dK _)=>True
 | some (.dT _)=>True
 | some (.set _ _)=>True
 | some (.ins _ _ _)=>True
 | some (.ext _)=>True
 | _=>False
section
variable {P:Program} {w:World} {H:Hp} {h h':Heap} {x e:Addr} {o':HO}
theorem HOk.write (ok:HOk P w H h) (mu:Mut (H x)) (he:e=x \/ H e=some (.own x)) (k: ∀ b u,b≠e->h.get? b=some u->h'.get? b=some u) (heo: ∃ u,h'.get? e=some u)
  (new:ObjOk P w (upd H x o') h' x o'):HOk P w (upd H x o') h':=fun b u q=>by
 have nown: ∀ c y,H c=some (.own y)->c≠x:=fun c y r z=>by subst z;rw [r] at mu;exact mu
 have ntup: ∀ c xs,H c=some (.tup xs)->c≠x:=fun c xs r z=>by subst z;rw [r] at mu;exact mu
 by_cases hb:b=x
 ·subst hb;rw [Vu] at q;cases q;exact new
 ·rw [J1 hb] at q
  by_cases hbe:b=e
  ·have q':H b=some (.own x):=by
    rcases he with z | z
    ·exact absurd (hbe.trans z) hb
    ·rw [hbe];exact z
   rw [q] at q';cases q';obtain ⟨v,hv⟩:=heo;exact ⟨v,by rw [hbe];exact hv⟩
  ·refine (ok b u q).stay (fun c v hc r=>k c v ?_ r) (fun c r=>by rw [J1 (nown c b r)];exact r) fun c xs r=>by rw [J1 (ntup c xs r)];exact r
   rcases hc with rfl | hc
   ·exact hbe
   ·rintro rfl;rcases he with z | z
    ·exact nown c b hc z
    ·rw [hc] at z;cases z;exact hb rfl
end
structure Un (fs ex:List Addr) (H H':Hp) (h h':Heap):Prop where
 keep: ∀ b o,h.get? b=some o->H b=none->b ∉ fs->b ∉ ex->h'.get? b=some o
 slot: ∀ b o,h.get? b=some o->H b=none->b∈fs->b ∉ ex-> ∃ sl,h'.get? b=some { o with slots:=sl }
 free: ∀ b o,h.get? b=some o->H b=none->b ∉ ex->H' b=none
 there: ∀ b o,h.get? b=some o->b ∉ ex-> ∃ o',h'.get? b=some o'
 tups: ∀ b xs,H b=some (.tup xs)->H' b=some (.tup xs)
 frzs: ∀ b o u,H b=some (.frz o u)->H' b=some (.frz o u)
 tbls: ∀ b ps,H b=some (.tbl ps)-> ∃ more,H' b=some (.tbl (ps++more))
section
variable {fs fs' ex ex':List Addr} {H H1 H2:Hp} {h h1 h2 h':Heap} {a x e:Addr} {o:HO}
theorem Un.any (u:Un fs ex H H1 h h1) {b:Addr} {ob:Obj} (q:h.get? b=some ob) (n:H b=none) (hx:b ∉ ex): ∃ sl,h1.get? b=some { ob with slots:=sl }:=by
 by_cases hb:b∈fs
 ·exact u.slot b ob q n hb hx
 ·exact ⟨ob.slots,u.keep b ob q n hb hx⟩
theorem Un.kept (k: ∀ b u,h.get? b=some u->h'.get? b=some u):Un fs ex H H h h' :=
 ⟨fun b ob q _ _ _=>k b ob q,fun b ob q _ _ _=>⟨ob.slots,k b ob q⟩,fun _ _ _ n _=>n,fun b ob q _=>⟨ob,k b ob q⟩,fun _ _ q=>q,fun _ _ _ q=>q,fun _ ps q=>⟨#[],by rw [q];simp⟩⟩
theorem Un.refl:Un fs ex H H h h:=Un.kept fun _ _ q=>q
theorem Un.laid (k: ∀ b u,h.get? b=some u->h'.get? b=some u) (hp:h.objs.size<=a) (hn:H a=none):Un fs ex H (upd H a o) h h' where
 keep:=fun b u q _ _ _=>k b u q
 slot:=fun b u q _ _ _=>⟨u.slots,k b u q⟩
 free:=fun b u q n _=>by rw [J1 (Qq (Qr (Qa q) hp))];exact n
 there:=fun b u q _=>⟨u,k b u q⟩
 tups:=fun b xs q=>by rw [J1 (Jg q hn)];exact q
 frzs:=fun b u xs q=>by rw [J1 (Jg q hn)];exact q
 tbls:=fun b ps q=>⟨#[],by rw [J1 (Jg q hn),q];simp⟩
theorem Un.write (mu:Mut (H x)) (he:e=x \/ H e=some (.own x)) (k: ∀ b u,b≠e->h.get? b=some u->h'.get? b=some u) (heo: ∃ u,h'.get? e=some u):Un fs ex H (upd H x o) h h':=by
 have hx: ∀ b,H b=none->b≠x:=fun b n z=>by subst z;rw [n] at mu;exact mu
 have hb: ∀ b,H b=none->b≠e:=fun b n z=>by
  subst z;rcases he with r | r
  ·exact hx b n r
  ·rw [n] at r;cases r
 have hm: ∀ b u,H b=some u-> ¬ Mut (some u)->b≠x:=fun b u q nm z=>by subst z;rw [q] at mu;exact nm mu
 refine ⟨fun b u q n _ _=>k b u (hb b n) q,fun b u q n _ _=>⟨u.slots,k b u (hb b n) q⟩,fun b u q n _=>by rw [J1 (hx b n)];exact n,fun b u q _=> ?_,
  fun b xs q=>by rw [J1 (hm b _ q fun z=>z)];exact q,fun b u xs q=>by rw [J1 (hm b _ q fun z=>z)];exact q,fun b ps q=>⟨#[],by rw [J1 (hm b _ q fun z=>z),q];simp⟩⟩
 by_cases hbe:b=e
 ·subst hbe;exact heo
 ·exact ⟨u,k b u hbe q⟩
end
def trk (h:Heap) (H:Hp):List Addr:=(List.range h.objs.size).filter fun a=>(H a).isSome
def Qfh (h:Heap) (H:Hp):Heap:=W.hideAll h (trk h H)
theorem Qn2 (h:Heap) (H:Hp):(Qfh h H).objs.size=h.objs.size:=W.hideAll_size _ _
theorem Qqj {h:Heap} {H:Hp} {b:Addr} {o:Obj} (e:h.get? b=some o) (n:H b=none):(Qfh h H).get? b=some o :=
 W.hideAll_get _ e fun hm=>by
  have q:(H b).isSome=true:=(Wp.mp hm).2;rw [n] at q;simp at q
theorem Qtq {h:Heap} {H:Hp} {b:Addr} {o:Obj} (e:(Qfh h H).get? b=some o):h.get? b=some o/\H b=none:=by
 have e':h.get? b=some o:=W.of_hideAll (trk h H) e;refine ⟨e',?_⟩;cases q:H b with
 | none=>rfl
 | some x =>
  have hm:b∈trk h H:=Wp.mpr ⟨Wd.mpr (Qa e'),by simp [q]⟩;have z:(Qfh h H).get? b=none:=W.hideAll_none (trk h H) hm;rw [z] at e;cases e
structure Mod (K:W.Frag) (mg:Str->Option Value) (base:Heap):Prop where
 kin:K.In base
 glob:base.Ns mainGlobals mg
 blt: ∃ mb,base.Ns builtinsNs mb/\ ∀ x:Str,x≠ "__name__" ->mb x=bootBuiltins x
 nolimit:base.NoLimit
structure Cx where
 prog:Program
 w:World
 K:W.Frag
 mg:Str->Option Value
 base:Heap
 A:Around
 N:List Str
 s₀:Shared
 H₀:Hp
 env:Env
 outer:List Env
 stack:List Env
 ex:List Addr
 fn:Str->Bool
 calm:Bool
 pn:List (Addr×Obj)
 xe:Value->Shared->Prop
def frs (l:List Env):List Addr:=l.filterMap (·.frame)
abbrev Cx.fs (X:Cx):List Addr:=frs X.outer
def Vis (sc:Scope) (x:Str):Prop:=sc.names.lookup x=some .local \/ sc.names.lookup x=some .cell \/ sc.names.lookup x=some .free
def Loc (sc:Scope) (x:Str):Prop:=sc.names.lookup x=some .local \/ sc.names.lookup x=some .cell
def Look (env:Env) (h:Heap) (m:Str->Option Value) (x:Str) (u:Value):Prop :=
 (env.kindOf x=some .local/\m x=some u) \/ ((env.kindOf x=some .cell \/ env.kindOf x=some .free)/\ ∃ c,env.cells.lookup x=some c/\h.IsCell c (some u))
structure Cx.Ok (X:Cx):Prop where
 mod:Mod X.K X.mg X.base
 kind:X.env.scope.kind= .function
 glob:X.env.globals=mainGlobals
 blt:X.env.builtins=builtinsNs
 above:X.s₀.heap.objs.size<=X.env.locals
 inj: ∀ x y c,X.env.cells.lookup x=some c->X.env.cells.lookup y=some c->x=y
 has: ∀ x,(X.env.kindOf x=some .cell \/ X.env.kindOf x=some .free)-> ∃ c,X.env.cells.lookup x=some c
 cab: ∀ x c,X.fn x=true->X.env.cells.lookup x=some c->X.s₀.heap.objs.size<=c
 hd:X.calm=true->X.A.handled=none
 frames:X.A.frames=some X.stack
 stk:X.stack=X.outer \/ (X.stack=X.env::X.outer/\X.env.frame=some X.env.locals)
 exf: ∀ b∈X.ex,b≠X.env.locals/\ ∀ x c,X.env.cells.lookup x=some c->c≠b
 bs: ∀ b o,X.base.get? b=some o->X.s₀.heap.get? b=some o/\X.H₀ b=none
 bsz:X.base.objs.size<=X.s₀.heap.objs.size
 noex: ∀ b o,X.base.get? b=some o->b ∉ X.ex
 exfs: ∀ b∈X.ex,b ∉ X.fs
 funs:X.s₀.heap.FunFrames X.base X.outer
 frf: ∀ b∈X.fs,X.H₀ b=none
structure Inv (X:Cx) (pins:List (Addr×Obj)) (σ:List (Option V)) (H:Hp) (s:Shared):Prop where
 ok:X.Ok
 os:s.os=X.s₀.os
 bare:AllBare s.gens
 base:Un X.fs X.ex X.H₀ H X.s₀.heap s.heap
 loc: ∃ m,s.heap.Ns X.env.locals m/\ ∀ (i:Nat) (x:Str) (v:V),X.N[i]? =some x->σ[i]? =some (some v)->Vis X.env.scope x-> ∃ u,RelV v u/\Look X.env s.heap m x u
 cell: ∀ x c,X.env.cells.lookup x=some c-> ∃ v,s.heap.IsCell c v
 free:H X.env.locals=none
 freeC: ∀ x c,X.env.cells.lookup x=some c->H c=none
 pin: ∀ p∈X.pn++pins,s.heap.get? p.1=some p.2/\H p.1=none/\p.1≠X.env.locals/\p.1 ∉ X.fs/\ ∀ v,p.2.data≠ .cell v
 hok:HOk X.prog X.w H s.heap
 len:σ.length=X.N.length
section
variable {X:Cx} {pins:List (Addr×Obj)} {σ:List (Option V)} {H H':Hp} {s:Shared} {h':Heap}
theorem Cx.Ok.nofr (ok:X.Ok) {b:Addr} {o:Obj} (e:X.base.get? b=some o):b ∉ X.fs:=fun hb=>by
 have:=(ok.funs.mem hb).1;rw [e] at this;cases this
theorem Inv.bs (I:Inv X pins σ H s): ∀ b o,X.base.get? b=some o->s.heap.get? b=some o/\H b=none:=fun b o e =>
 ⟨I.base.keep b o (I.ok.bs b o e).1 (I.ok.bs b o e).2 (I.ok.nofr e) (I.ok.noex b o e),I.base.free b o (I.ok.bs b o e).1 (I.ok.bs b o e).2 (I.ok.noex b o e)⟩
theorem Inv.bk (I:Inv X pins σ H s): ∀ b o,X.base.get? b=some o->s.heap.get? b=some o:=fun b o e=>(I.bs b o e).1
theorem Inv.mod (I:Inv X pins σ H s):Mod X.K X.mg X.base:=I.ok.mod
theorem Inv.kIn (I:Inv X pins σ H s):X.K.In s.heap:=I.ok.mod.kin.keeps I.bk
theorem Inv.fr (I:Inv X pins σ H s): ∃ m,Fr X.base X.env.locals s.heap m :=
 let ⟨m,hn,_⟩:=I.loc
 ⟨m,hn,I.bk,Qz I.ok.bsz I.ok.above⟩
theorem Inv.lt (I:Inv X pins σ H s):X.env.locals < s.heap.objs.size:=let ⟨_,hn,_⟩:=I.loc;hn.lt
theorem Inv.sz (I:Inv X pins σ H s):X.s₀.heap.objs.size<=s.heap.objs.size:=Qz I.ok.above (Qlk I.lt)
theorem Inv.nofs (I:Inv X pins σ H s) {a:Addr} (h:s.heap.objs.size<=a):a ∉ X.fs:=fun hb=>by
 obtain ⟨_,o,ho,_⟩:=I.ok.funs.mem hb;exact absurd (Qr (Qa ho) (Qz I.sz h)) (W8 _)
theorem Inv.cne (I:Inv X pins σ H s): ∀ x c,X.env.cells.lookup x=some c->c≠X.env.locals:=fun x c e z=>by
 obtain ⟨v,o,ho,hd⟩:=I.cell x c e;obtain ⟨m,⟨o',es,ep,ho',hd',_⟩,_⟩:=I.loc;rw [z,ho'] at ho;cases ho;rw [hd'] at hd;cases hd
theorem Inv.funs (I:Inv X pins σ H s):s.heap.FunFrames X.base X.outer:=by
 have all: ∀ (l:List Env),(∀ b∈frs l,b∈X.fs)->X.s₀.heap.FunFrames X.base l->s.heap.FunFrames X.base l:=by
  intro l
  induction l with
  | nil=>intro _ _;trivial
  | cons env r ih =>
   intro hs hl;obtain ⟨hk,⟨L,o,hf,hn,ho,hd⟩,hr⟩:=hl;have hL:L∈X.fs:=hs L (by unfold frs;rw [Wu,hf];exact Q7);obtain ⟨sl,e⟩:=I.base.slot L o ho (I.ok.frf L hL) hL fun z=>I.ok.exfs L z hL
   exact ⟨hk,⟨L,_,hf,hn,e,hd⟩,ih (fun b hb=>hs b (by unfold frs;rw [Wu,hf];exact Q9 _ hb)) hr⟩
 exact all X.outer (fun _ hb=>hb) I.ok.funs
theorem Inv.stack (I:Inv X pins σ H s):s.heap.FunFrames X.base X.stack:=by
 rcases I.ok.stk with e | ⟨e,hf⟩
 ·rw [e];exact I.funs
 ·rw [e];obtain ⟨m,hn,_⟩:=I.loc;refine .cons (by rw [I.ok.kind];decide) hf hn ?_ I.funs;exact Heap.get?_none_of_le (Qz I.ok.bsz I.ok.above)
theorem Inv.stkSub (I:Inv X pins σ H s): ∀ b∈frs X.stack,b∈X.env.locals::X.fs:=fun b hb=>by
 rcases I.ok.stk with e | ⟨e,hf⟩
 ·rw [e] at hb;exact Q9 _ hb
 ·rw [e] at hb;unfold frs at hb;rw [Wu,hf] at hb;exact hb
theorem Inv.stkFree (I:Inv X pins σ H s): ∀ b∈frs X.stack,H b=none:=fun b hb=>by
 rcases Qd.mp (I.stkSub b hb) with e | hb
 ·rw [e];exact I.free
 ·obtain ⟨_,o,ho,_⟩:=I.ok.funs.mem hb;exact I.base.free b o ho (I.ok.frf b hb) fun z=>I.ok.exfs b z hb
theorem Inv.step {g':Array GenState} {t':Nat} {d':Drawn} {ch:List Addr} (I:Inv X pins σ H s)
  (hch: ∀ b∈ch,(b∈X.ex \/ X.s₀.heap.objs.size<=b)/\b≠X.env.locals/\(∀ x c,X.env.cells.lookup x=some c->c≠b)/\ ∀ p∈X.pn++pins,p.1≠b)
  (keep: ∀ b o,b≠X.env.locals->b ∉ X.fs->b ∉ ch->s.heap.get? b=some o->H b=none->h'.get? b=some o)
  (slot: ∀ b o,b≠X.env.locals->b∈X.fs->b ∉ ch->s.heap.get? b=some o->H b=none-> ∃ sl,h'.get? b=some { o with slots:=sl }) (free: ∀ b o,b ∉ ch->s.heap.get? b=some o->H b=none->H' b=none)
  (there: ∀ b o,b ∉ ch->s.heap.get? b=some o-> ∃ o',h'.get? b=some o')
  (tups: ∀ b xs,H b=some (.tup xs)->H' b=some (.tup xs)) (frzs: ∀ b o u,H b=some (.frz o u)->H' b=some (.frz o u)) (tbls: ∀ b ps,H b=some (.tbl ps)-> ∃ more,H' b=some (.tbl (ps++more)))
  (ns: ∀ m,s.heap.Ns X.env.locals m->h'.Ns X.env.locals m) (hok:HOk X.prog X.w H' h') (hg:AllBare g') :
  Inv X pins σ H' { s with heap:=h',gens:=g',drawn:=d',toks:=t' }:=by
 have neL: ∀ b o,X.s₀.heap.get? b=some o->b≠X.env.locals:=fun b o e=>Qq (Qr (Qa e) I.ok.above)
 have neC: ∀ b o,X.s₀.heap.get? b=some o->b ∉ X.ex->b ∉ ch:=fun b o e hx hb=>by
  rcases (hch b hb).1 with z | z
  ·exact hx z
  ·exact absurd (Qr (Qa e) z) (W8 _)
 have cellK: ∀ x c,X.env.cells.lookup x=some c-> ∀ v,s.heap.IsCell c v->h'.IsCell c v:=fun x c e v ⟨o,ho,hd⟩=>by
  have nch:c ∉ ch:=fun z=>(hch c z).2.2.1 x c e rfl
  by_cases hc:c∈X.fs
  ·obtain ⟨sl,q⟩:=slot c o (I.cne x c e) hc nch ho (I.freeC x c e);exact ⟨_,q,hd⟩
  ·exact ⟨o,keep c o (I.cne x c e) hc nch ho (I.freeC x c e),hd⟩
 refine ⟨I.ok,I.os,hg,⟨fun b o e n hb hx=> ?_,fun b o e n hb hx=> ?_,fun b o e n hx=> ?_,fun b o e hx=> ?_,fun b xs e=>tups b xs (I.base.tups b xs e),fun b o xs e=>frzs b o xs (I.base.frzs b o xs e),fun b ps e=> ?_⟩,?_,fun x c e=> ?_,?_,fun x c e=> ?_,fun p hp=> ?_,hok,I.len⟩
 ·exact keep b o (neL b o e) hb (neC b o e hx) (I.base.keep b o e n hb hx) (I.base.free b o e n hx)
 ·obtain ⟨sl,e1⟩:=I.base.slot b o e n hb hx;obtain ⟨sl',e2⟩:=slot b _ (neL b o e) hb (neC b o e hx) e1 (I.base.free b o e n hx);exact ⟨sl',e2⟩
 ·obtain ⟨o',e1⟩:=I.base.there b o e hx;exact free b o' (neC b o e hx) e1 (I.base.free b o e n hx)
 ·obtain ⟨o',e1⟩:=I.base.there b o e hx;exact there b o' (neC b o e hx) e1
 ·obtain ⟨m1,e1⟩:=I.base.tbls b ps e;obtain ⟨m2,e2⟩:=tbls b _ e1;exact ⟨m1++m2,by rw [e2,Array.append_assoc]⟩
 ·obtain ⟨m,hn,hl⟩:=I.loc;refine ⟨m,ns m hn,fun i x v e1 e2 e3=> ?_⟩;obtain ⟨u,r,l⟩:=hl i x v e1 e2 e3;refine ⟨u,r,?_⟩;rcases l with l | ⟨k,c,e,z⟩
  ·exact .inl l
  ·exact .inr ⟨k,c,e,cellK x c e _ z⟩
 ·obtain ⟨v,z⟩:=I.cell x c e;exact ⟨v,cellK x c e v z⟩
 ·obtain ⟨m,⟨o,_,_,ho,_⟩,_⟩:=I.loc;exact free _ o (fun z=>(hch _ z).2.1 rfl) ho I.free
 ·obtain ⟨v,o,ho,hd⟩:=I.cell x c e;exact free c o (fun z=>(hch c z).2.2.1 x c e rfl) ho (I.freeC x c e)
 ·obtain ⟨e,n,ne,nf,d⟩:=I.pin p hp;have nch:p.1 ∉ ch:=fun z=>(hch p.1 z).2.2.2 p hp rfl
  exact ⟨keep p.1 p.2 ne nf nch e n,free p.1 p.2 nch e n,ne,nf,d⟩
theorem Inv.un {t':Nat} (I:Inv X pins σ H s) (u:Un X.fs [] H H' s.heap h') (hok:HOk X.prog X.w H' h'):Inv X pins σ H' { s with heap:=h',toks:=t' }:=by
 obtain ⟨m,⟨o,es,ep,ho,r⟩,_⟩:=id I.loc;obtain ⟨sl,hL⟩:=u.any ho I.free (by simp);exact I.step (g':=s.gens) (d':=s.drawn) (ch:=[]) (fun _ z=>nomatch z) (fun b o _ hb _ e n=>u.keep b o e n hb (by simp)) (fun b o _ hb _ e n=>u.slot b o e n hb (by simp)) (fun b o _ e n=>u.free b o e n (by simp)) (fun b o _ e=>u.there b o e (by simp)) u.tups u.frzs u.tbls (fun m' hm=>by
  obtain ⟨o',es',ep',ho',r'⟩:=hm;rw [ho] at ho';cases ho';exact ⟨_,es',ep',hL,r'⟩) hok I.bare
theorem Inv.call {g':Array GenState} {t':Nat} {d':Drawn} {ch:List Addr} (I:Inv X pins σ H s) (u:Un (frs X.stack) ch H H' s.heap h') (hok:HOk X.prog X.w H' h') (hg:AllBare g')
  (hch: ∀ b∈ch,(b∈X.ex \/ X.s₀.heap.objs.size<=b)/\b≠X.env.locals/\(∀ x c,X.env.cells.lookup x=some c->c≠b)/\ ∀ p∈X.pn++pins,p.1≠b) :
  Inv X pins σ H' { s with heap:=h',gens:=g',drawn:=d',toks:=t' }:=by
 obtain ⟨m,⟨o,es,ep,ho,r⟩,_⟩:=id I.loc;obtain ⟨sl,hL⟩:=u.any ho I.free fun z=>(hch _ z).2.1 rfl
 exact I.step (ch:=ch) hch (fun b o hL hb hc e n=>u.keep b o e n (fun z=>(Qd.mp (I.stkSub b z)).elim hL hb) hc) (fun b o _ _ hc e n=>u.any e n hc) (fun b o hc e n=>u.free b o e n hc) (fun b o hc e=>u.there b o e hc) u.tups u.frzs u.tbls (fun m' hm=>by
  obtain ⟨o',es',ep',ho',r'⟩:=hm;rw [ho] at ho';cases ho';exact ⟨_,es',ep',hL,r'⟩) hok hg
theorem Inv.turned {t':Nat} {it:Addr} (I:Inv X pins σ H s) (k: ∀ b o,b≠it->s.heap.get? b=some o->h'.get? b=some o) (hn:H it=none) (hL:it≠X.env.locals)
  (h1:it∈X.ex \/ X.s₀.heap.objs.size<=it) (h2: ∀ x c,X.env.cells.lookup x=some c->c≠it) (h3: ∀ p∈X.pn++pins,p.1≠it):Inv X pins σ H { s with heap:=h',toks:=t' }:=by
 have nit: ∀ b u,H b=some u->b≠it:=fun b u e z=>by rw [z,hn] at e;cases e
 refine I.step (g':=s.gens) (d':=s.drawn) (ch:=[it]) (fun b hb=> ?_) (fun b o _ _ hc e _=>k b o (fun z=>hc (by simp [z])) e) (fun b o _ _ hc e _=>⟨o.slots,k b o (fun z=>hc (by simp [z])) e⟩) (fun _ _ _ _ n=>n)
  (fun b o hc e=>⟨o,k b o (fun z=>hc (by simp [z])) e⟩) (fun _ _ e=>e) (fun _ _ _ e=>e) (fun b ps e=>⟨#[],by rw [e];simp⟩) (fun m hm=> ?_) (fun b u e=> ?_) I.bare
 ·have e:b=it:=by simpa using hb
  subst e;exact ⟨h1,hL,h2,h3⟩
 ·obtain ⟨o,es,ep,ho,r⟩:=hm;exact ⟨o,es,ep,k _ o (J5 hL) ho,r⟩
 ·refine (I.hok b u e).stay (fun c v hc q=>k c v ?_ q) (fun _ q=>q) fun _ _ q=>q
  rcases hc with z | z
  ·rw [z];exact nit b u e
  ·exact nit c _ z
theorem Inv.tok (I:Inv X pins σ H s) (t:Nat):Inv X pins σ H { s with toks:=t }:=I.un (h':=s.heap) (t':=t) Un.refl I.hok
theorem Inv.kept {t':Nat} (I:Inv X pins σ H s) (k: ∀ b u,s.heap.get? b=some u->h'.get? b=some u):Inv X pins σ H { s with heap:=h',toks:=t' }:=I.un (Un.kept k) (I.hok.kept k)
theorem Inv.laid {a:Addr} {o:HO} {t':Nat} (I:Inv X pins σ H s) (k: ∀ b u,s.heap.get? b=some u->h'.get? b=some u) (hp:s.heap.objs.size<=a) (new:ObjOk X.prog X.w (upd H a o) h' a o) :
  Inv X pins σ (upd H a o) { s with heap:=h',toks:=t' }:=I.un (Un.laid k hp (I.hok.fresh hp)) (I.hok.laid k hp new)
theorem Inv.write {x e:Addr} {o:HO} {t':Nat} (I:Inv X pins σ H s) (mu:Mut (H x)) (he:e=x \/ H e=some (.own x)) (k: ∀ b u,b≠e->s.heap.get? b=some u->h'.get? b=some u) (heo: ∃ u,h'.get? e=some u)
  (new:ObjOk X.prog X.w (upd H x o) h' x o):Inv X pins σ (upd H x o) { s with heap:=h',toks:=t' }:=I.un (Un.write mu he k heo) (I.hok.write mu he k heo new)
theorem Inv.weak {σ':List (Option V)} (I:Inv X pins σ H s) (hl:σ'.length=σ.length) (w: ∀ (i:Nat) v,σ'[i]? =some (some v)->σ[i]? =some (some v)):Inv X pins σ' H s :=
 ⟨I.ok,I.os,I.bare,I.base,let ⟨m,hn,hl'⟩:=I.loc;⟨m,hn,fun i x v e1 e2 e3=>hl' i x v e1 (w i v e2) e3⟩,I.cell,I.free,I.freeC,I.pin,I.hok,hl.trans I.len⟩
theorem Inv.pins_of {pins':List (Addr×Obj)} (I:Inv X pins σ H s) (h: ∀ p∈pins',s.heap.get? p.1=some p.2/\H p.1=none/\p.1≠X.env.locals/\p.1 ∉ X.fs/\ ∀ v,p.2.data≠ .cell v):Inv X pins' σ H s :=
 ⟨I.ok,I.os,I.bare,I.base,I.loc,I.cell,I.free,I.freeC,fun p hp=>(QH.mp hp).elim (fun z=>I.pin p (ZF _ z)) (h p),I.hok,I.len⟩
theorem Qbe {N:List Str} (hN:N.Nodup) {i j:Nat} {x:Str} (a:N[i]? =some x) (b:N[j]? =some x):i=j:=by
 obtain ⟨h1,e1⟩:=Q5.mp a;obtain ⟨h2,e2⟩:=Q5.mp b;exact (List.getElem_inj hN).mp (e1.trans e2.symm)
theorem BP {M:Model} {A:Around} {E:Value->Shared->Prop} {i:Nat} {x:Str} {v:V} {u:Value} {Q:Unit->Shared->Prop} (I:Inv X pins σ H s) (hN:X.N.Nodup) (hi:X.N[i]? =some x) (hx:Loc X.env.scope x) (r:RelV v u)
  (h: ∀ s',Inv X pins (σ.set i (some v)) H s'->(∃ a,Heap.SameBut a s.heap s'.heap/\(a=X.env.locals \/ X.env.cells.lookup x=some a))->Q () s') (hf:X.fn x=true \/ X.env.scope.names.lookup x=some .local:=by first | exact .inl rfl | exact .inr rfl | assumption):wpAny M A (storeName X.env x u) Q E s:=by
 obtain ⟨m,hn,hl⟩:=id I.loc;have hcls:(X.env.scope.kind == .class || (X.env.scope.kind == .module && X.env.locals != X.env.globals))=false:=by rw [I.ok.kind];rfl
 have hiσ:i < σ.length:=by rw [I.len];exact (Q5.mp hi).1
 have cne:=I.cne;have tracked: ∀ {a:Addr} {h':Heap},(∃ o,s.heap.get? a=some o/\H a=none)->Heap.SameBut a s.heap h'->HOk X.prog X.w H h':=fun {a h'} ha hs b ob e=>by
  obtain ⟨_,_,hfree⟩:=ha;refine (I.hok b ob e).stay (fun c w' hc q=>(hs.2 c ?_).trans q) (fun _ q=>q) fun _ _ q=>q
  rintro rfl;rcases hc with rfl | hc
  ·rw [hfree] at e;cases e
  ·rw [hfree] at hc;cases hc
 rcases hx with hk | hk
 ·refine wpAny_storeName_local hk hn (fun h' hn' hs=> ?_) hcls;obtain ⟨oL,_,_,hoL,_⟩:=id hn;refine h _ ⟨I.ok,I.os,I.bare,⟨fun b o e n hb hx=> ?_,fun b o e n hb hx=> ?_,I.base.free,fun b o e hx=> ?_,I.base.tups,I.base.frzs,I.base.tbls⟩,⟨_,hn',fun j y v' e1 e2 e3=> ?_⟩,fun y c e=> ?_,I.free,I.freeC,fun p hp=> ?_,tracked ⟨oL,hoL,I.free⟩ hs,by simpa using I.len⟩ ⟨_,hs,.inl rfl⟩
  ·exact (hs.2 b (Qq (Qr (Qa e) I.ok.above))).trans (I.base.keep b o e n hb hx)
  ·obtain ⟨sl,e1⟩:=I.base.slot b o e n hb hx;exact ⟨sl,(hs.2 b (Qq (Qr (Qa e) I.ok.above))).trans e1⟩
  ·obtain ⟨o',e1⟩:=I.base.there b o e hx;exact ⟨o',(hs.2 b (Qq (Qr (Qa e) I.ok.above))).trans e1⟩
  ·by_cases hj:j=i
   ·subst hj;rw [hi] at e1;cases e1;rw [Qu hiσ] at e2;cases e2;exact ⟨u,r,.inl ⟨hk,by simp⟩⟩
   ·rw [Qc (J5 hj)] at e2;obtain ⟨u',r',q⟩:=hl j y v' e1 e2 e3;refine ⟨u',r',?_⟩;rcases q with ⟨k,e⟩ | ⟨k,c,e,z⟩
    ·refine .inl ⟨k,?_⟩;have:y≠x:=fun e=>hj (Qbe hN e1 (e ▸ hi))
     simp [this,e]
    ·exact .inr ⟨k,c,e,z.sameBut hs (cne y c e)⟩
  ·obtain ⟨w',z⟩:=I.cell y c e;exact ⟨w',z.sameBut hs (cne y c e)⟩
  ·obtain ⟨e,n,ne,nf,d⟩:=I.pin p hp;exact ⟨(hs.2 p.1 ne).trans e,n,ne,nf,d⟩
 ·have hfn:X.fn x=true:=by
   rcases hf with z | z
   ·exact z
   ·rw [z] at hk;cases hk
  obtain ⟨c,hc⟩:=I.ok.has x (.inl hk);obtain ⟨w',z⟩:=I.cell x c hc;refine wpAny_storeName_cell I.ok.kind hk hc z (fun h' hc' hs=> ?_);obtain ⟨oc,hoc,hocd⟩:=id z;refine h { s with heap:=h' } ⟨I.ok,I.os,I.bare,⟨fun b o e n hb hx=> ?_,fun b o e n hb hx=> ?_,I.base.free,fun b o e hx=> ?_,I.base.tups,I.base.frzs,I.base.tbls⟩,⟨m,hn.sameBut hs (J5 (cne x c hc)),fun j y v' e1 e2 e3=> ?_⟩,fun y c' e=> ?_,I.free,I.freeC,fun p hp=> ?_,tracked ⟨oc,hoc,I.freeC x c hc⟩ hs,by simpa using I.len⟩ ⟨c,hs,.inr hc⟩
  ·exact (hs.2 b (Qq (Qr (Qa e) (I.ok.cab x c hfn hc)))).trans (I.base.keep b o e n hb hx)
  ·obtain ⟨sl,e1⟩:=I.base.slot b o e n hb hx;exact ⟨sl,(hs.2 b (Qq (Qr (Qa e) (I.ok.cab x c hfn hc)))).trans e1⟩
  ·obtain ⟨o',e1⟩:=I.base.there b o e hx;exact ⟨o',(hs.2 b (Qq (Qr (Qa e) (I.ok.cab x c hfn hc)))).trans e1⟩
  ·by_cases hj:j=i
   ·subst hj;rw [hi] at e1;cases e1;rw [Qu hiσ] at e2;cases e2;exact ⟨u,r,.inr ⟨.inl hk,c,hc,hc'⟩⟩
   ·rw [Qc (J5 hj)] at e2;obtain ⟨u',r',q⟩:=hl j y v' e1 e2 e3;refine ⟨u',r',?_⟩;rcases q with q | ⟨k,c',e,z'⟩
    ·exact .inl q
    ·refine .inr ⟨k,c',e,z'.sameBut hs ?_⟩;rintro rfl;exact hj (Qbe hN e1 (I.ok.inj _ _ _ e hc ▸ hi))
  ·by_cases hcc:c'=c
   ·subst hcc;exact ⟨_,hc'⟩
   ·obtain ⟨w2,z2⟩:=I.cell y c' e;exact ⟨w2,z2.sameBut hs hcc⟩
  ·obtain ⟨e,n,ne,nf,d⟩:=I.pin p hp;refine ⟨(hs.2 p.1 ?_).trans e,n,ne,nf,d⟩;intro q;rw [q,hoc] at e;have q':oc=p.2:=Qt e;exact d w' (by rw [<- q'];exact hocd)
theorem Bl {M:Model} {A:Around} {E:Value->Shared->Prop} {i:Nat} {x:Str} {v:V} {u:Value} {Q:Unit->Shared->Prop} (I:Inv X pins σ H s) (hN:X.N.Nodup) (hi:X.N[i]? =some x) (hx:Loc X.env.scope x) (r:RelV v u)
  (h: ∀ s',Inv X pins (σ.set i (some v)) H s'->Q () s') (hf:X.fn x=true \/ X.env.scope.names.lookup x=some .local:=by first | exact .inl rfl | exact .inr rfl | assumption):wpAny M A (storeName X.env x u) Q E s :=
 BP I hN hi hx r (fun s' I' _=>h s' I') hf
theorem Inv.call' {s':Shared} {ch:List Addr} (I:Inv X pins σ H s) (ho:s'.os=s.os) (u:Un (frs X.stack) ch H H' s.heap s'.heap) (hok:HOk X.prog X.w H' s'.heap) (hg:AllBare s'.gens)
  (hch: ∀ b∈ch,(b∈X.ex \/ X.s₀.heap.objs.size<=b)/\b≠X.env.locals/\(∀ x c,X.env.cells.lookup x=some c->c≠b)/\ ∀ p∈X.pn++pins,p.1≠b):Inv X pins σ H' s':=by
 obtain ⟨h',g',d',t',o'⟩:=s';have e:o'=s.os:=ho;subst e;exact I.call (g':=g') (t':=t') (d':=d') u hok hg hch
end
abbrev XK:=Value->Option Addr->Hp->Prop
abbrev St:=List (Option V)
abbrev VK:=V->Hp->Prop
abbrev TE:=St->Hp->VK->Prop
abbrev TT:=St->Hp->(Bool->Hp->Prop)->Prop
abbrev TA:=St->Hp->(List V->Hp->Prop)->Prop
structure Ends where
 nx:St->Hp->Prop
 rt:VK
 bk:St->Hp->Prop:=fun _ _=>False
 ct:St->Hp->Prop:=fun _ _=>False
abbrev TS:=Ends->St->Hp->Prop
def EP (X:Cx) (pins:List (Addr×Obj)) (σ:St) (Q:VK) (u:Value) (s':Shared):Prop:= ∃ v H',Inv X pins σ H' s'/\RelV v u/\Q v H'
def TP (X:Cx) (pins:List (Addr×Obj)) (σ:St) (Q:Bool->Hp->Prop) (b:Bool) (s':Shared):Prop:= ∃ H',Inv X pins σ H' s'/\Q b H'
def AP (X:Cx) (pins:List (Addr×Obj)) (σ:St) (Q:List V->Hp->Prop) (us:List Value) (s':Shared):Prop:= ∃ vs H',Inv X pins σ H' s'/\Vals vs us/\Q vs H'
def SP (X:Cx) (pins:List (Addr×Obj)) (D:Ends) (f:Flow) (s':Shared):Prop :=
 match f with
 | .next=> ∃ σ' H',Inv X pins σ' H' s'/\D.nx σ' H'
 | .brk=> ∃ σ' H',Inv X pins σ' H' s'/\D.bk σ' H'
 | .cont=> ∃ σ' H',Inv X pins σ' H' s'/\D.ct σ' H'
 | .ret u=> ∃ v σ' H',Inv X pins σ' H' s'/\RelV v u/\D.rt v H'
def PE (X:Cx) (e:Expr) (t:TE):Prop :=
 ∀ (pins:List (Addr×Obj)) (s:Shared) (σ:St) (H:Hp) (Q:VK),Inv X pins σ H s->t σ H Q->wpAny (model X.prog X.w) X.A (eval e X.env) (EP X pins σ Q) X.xe s
def PT (X:Cx) (e:Expr) (t:TT):Prop :=
 ∀ (pins:List (Addr×Obj)) (s:Shared) (σ:St) (H:Hp) (Q:Bool->Hp->Prop),Inv X pins σ H s->t σ H Q->wpAny (model X.prog X.w) X.A (isTrue e X.env (eval e X.env)) (TP X pins σ Q) X.xe s
def PW (X:Cx) (e:Expr) (t:TT):Prop :=
 ∀ (whole:Sem Value) (pins:List (Addr×Obj)) (s:Shared) (σ:St) (H:Hp) (Q:Bool->Hp->Prop),Inv X pins σ H s->t σ H Q->wpAny (model X.prog X.w) X.A (isTrue e X.env whole) (TP X pins σ Q) X.xe s
theorem PW.pt {X:Cx} {e:Expr} {t:TT} (h:PW X e t):PT X e t:=h _
def PA (X:Cx) (es:List Expr) (t:TA):Prop :=
 ∀ (pos:Pos) (pins:List (Addr×Obj)) (s:Shared) (σ:St) (H:Hp) (Q:List V->Hp->Prop),Inv X pins σ H s->t σ H Q->wpAny (model X.prog X.w) X.A (spliced (backTo pos (starEach es X.env))) (AP X pins σ Q) X.xe s
def PS (X:Cx) (st:Stmt) (t:TS):Prop :=
 ∀ (pins:List (Addr×Obj)) (s:Shared) (σ:St) (H:Hp) (D:Ends),Inv X pins σ H s->t D σ H->wpAny (model X.prog X.w) X.A (exec st X.env) (SP X pins D) X.xe s
def PSs (X:Cx) (st:List Stmt) (t:TS):Prop :=
 ∀ (pins:List (Addr×Obj)) (s:Shared) (σ:St) (H:Hp) (D:Ends),Inv X pins σ H s->t D σ H->wpAny (model X.prog X.w) X.A (execs st X.env) (SP X pins D) X.xe s
theorem thn {α:Type} {t:Sem α} {Q Q':α->Shared->Prop} {M:Model} {A:Around} {E:Value->Shared->Prop} {s:Shared} (h:wpAny M A t Q E s) (hQ: ∀ a s,Q a s->Q' a s):wpAny M A t Q' E s:=Jo h hQ fun _ _ x=>x
section
variable {X:Cx}
theorem bin {a b:Expr} {ta tb:TE} (ha:PE X a ta) (hb:PE X b tb) {pins:List (Addr×Obj)} {s:Shared} {σ:St} {H:Hp} {R:V->V->Hp->Prop} (I:Inv X pins σ H s) (h:ta σ H fun x H1=>tb σ H1 fun y H2=>R x y H2)
  {α:Type} {Q:α->Shared->Prop} {f:Value->Value->Sem α}
  (hf: ∀ v u s2 x y H2,Inv X pins σ H2 s2->RelV x v->RelV y u->R x y H2->wpAny (model X.prog X.w) X.A (f v u) Q X.xe s2) :
  wpAny (model X.prog X.w) X.A (eval a X.env) (fun v s₁=>wpAny (model X.prog X.w) X.A (eval b X.env) (fun u s₂=>wpAny (model X.prog X.w) X.A (f v u) Q X.xe s₂) X.xe s₁) X.xe s:=by
 refine thn (ha pins s σ H _ I h) fun v s1 ⟨x,H1,I1,r1,q1⟩=> ?_
 refine thn (hb pins s1 σ H1 _ I1 q1) fun u s2 ⟨y,H2,I2,r2,q2⟩=> ?_
 exact hf v u s2 x y H2 I2 r1 r2 q2
def Qlv (i:Nat):TE:=fun σ H Q=> ∃ v,σ[i]? =some (some v)/\Q v H
def tC (v:V):TE:=fun _ H Q=>Q v H
theorem WB {i:Nat} {x:Str} {pos:Pos} (hN:X.N[i]? =some x) (hv:Vis X.env.scope x) (hd:(x == ("__debug__" :Str))=false:=by decide) (hcd:(x == ("__classdict__" :Str))=false:=by decide):PE X (.Name x pos) (Qlv i):=by
 intro pins s σ H Q I h;obtain ⟨v,e,h⟩:=h;obtain ⟨m,hn,hl⟩:=I.loc;obtain ⟨u,r,l⟩:=hl i x v hN e hv;have fin:EP X pins σ Q u s:=⟨v,H,I,r,h⟩;rcases l with ⟨hk,hm⟩ | ⟨hk,c,hc,hcell⟩
 ·exact wpAny_Name (wpAny_loadName_local I.ok.kind hk hn hm fin) hd
 ·rcases hk with hk | hk
  ·exact wpAny_Name (wpAny_loadName_cell I.ok.kind hk hc hcell fin) hd
  ·exact wpAny_Name (wpAny_loadName_free I.ok.kind hk hc hcell fin hcd) hd
theorem Qp2 {i j pos}:PE X (.Constant (.int i) j pos) (tC (.int i)):=fun _ _ _ H _ I h=>wpAny_Constant_int ⟨.int i,H,I.tok _,⟨_,rfl⟩,h⟩
theorem Qzc {b j pos}:PE X (.Constant (.bool b) j pos) (tC (.bl b)):=fun _ _ _ H _ I h=>Constant_bool ⟨.bl b,H,I,rfl,h⟩
theorem Qwu {j pos}:PE X (.Constant .none j pos) (tC .non):=fun _ _ _ H _ I h=>Constant_none ⟨.non,H,I,rfl,h⟩
theorem Qp1 {x j pos}:PE X (.Constant (.str x) j pos) (tC (.str x)):=fun _ _ _ H _ I h=>Calls.Constant_str ⟨.str x,H,I.tok _,⟨_,rfl⟩,h⟩
def Gl (X:Cx) (x:Str):Prop:=X.env.kindOf x=some .globalImplicit
theorem GK {E:Value->Shared->Prop} {pins:List (Addr×Obj)} {s:Shared} {σ:St} {H:Hp} {x:Str} {u:Value} {pos:Pos} {Q:Value->Shared->Prop} (I:Inv X pins σ H s) (hg:Gl X x) (hm:X.mg x=some u) (h:Q u s)
  (hd:(x == ("__debug__" :Str))=false:=by decide):wpAny (model X.prog X.w) X.A (eval (.Name x pos) X.env) Q E s :=
 Calls.Name_function_global I.ok.kind hg (Calls.loadGlobal_global (by rw [I.ok.glob];exact I.mod.glob.keeps I.bk) hm h) hd
theorem Bd {E:Value->Shared->Prop} {pins:List (Addr×Obj)} {s:Shared} {σ:St} {H:Hp} {x:Str} {u:Value} {pos:Pos} {Q:Value->Shared->Prop} (I:Inv X pins σ H s) (hg:Gl X x) (hm:X.mg x=none) (hv:bootBuiltins x=some u) (h:Q u s)
  (hn:x≠ "__name__" :=by decide) (hd:(x == ("__debug__" :Str))=false:=by decide):wpAny (model X.prog X.w) X.A (eval (.Name x pos) X.env) Q E s:=by
 obtain ⟨mb,h1,h2⟩:=I.mod.blt;exact Calls.Name_function_global I.ok.kind hg (Calls.loadGlobal_builtin (by rw [I.ok.glob];exact I.mod.glob.keeps I.bk) hm (by rw [I.ok.blt];exact h1.keeps I.bk) ((h2 x hn).trans hv) h) hd
theorem Qsy {x:Str} {v:V} {u:Value} {pos:Pos} (hg:Gl X x) (hm:X.mg x=some u) (r:RelV v u) (hd:(x == ("__debug__" :Str))=false:=by decide):PE X (.Name x pos) (tC v) :=
 fun _ _ _ H _ I h=>GK I hg hm ⟨v,H,I,r,h⟩ hd
theorem Qt3 {x:Str} {v:V} {u:Value} {pos:Pos} (hg:Gl X x) (hm:X.mg x=none) (hv:bootBuiltins x=some u) (r:RelV v u) (hn:x≠ "__name__" :=by decide) (hd:(x == ("__debug__" :Str))=false:=by decide):PE X (.Name x pos) (tC v) :=
 fun _ _ _ H _ I h=>Bd I hg hm hv ⟨v,H,I,r,h⟩ hn hd
variable {a b:Expr} {ta tb:TE} {pos:Pos}
def PC (X:Cx) (op:CmpOp) (a b:Expr) (t:TE):Prop :=
 ∀ (pins:List (Addr×Obj)) (s:Shared) (σ:St) (H:Hp) (Q:VK),Inv X pins σ H s->t σ H Q ->
  wpAny (model X.prog X.w) X.A (eval a X.env) (fun v s₁=>wpAny (model X.prog X.w) X.A (eval b X.env) (fun u s₂=>wpAny (model X.prog X.w) X.A (compareOp op v u) (EP X pins σ Q) X.xe s₂) X.xe s₁) X.xe s
def tB (t:TE):TT:=fun σ H Q=>t σ H fun x H1=> ∃ c,x= .bl c/\Q c H1
theorem Qor {op:CmpOp} {t:TE} (h:PC X op a b t) (h1:behindInMarks op b=false:=by first | exact nobehind _ (by decide) (by decide) | rfl):PT X (.Compare a [op] [b] pos) (tB t):=by
 intro pins s σ H Q I hw;refine wpAny_isTrue_Compare1 (thn (h pins s σ H _ I hw) fun v s1 h1=>thn h1 fun u s2 h2=>thn h2 fun c s3 ⟨x,H1,I1,r1,q1⟩=> ?_) h1;obtain ⟨d,rfl,q⟩:=q1;cases r1;exact WF ⟨H1,I1,q⟩
theorem Qwp {e:Expr} {t:TE} (h:PE X e t) (he: ∀ whole,isTrue e X.env whole=(do let v<-whole;standAt e.pos;holding [v] (truthy v)):=by intro _;rfl):PT X e (tB t):=by
 intro pins s σ H Q I hw;refine isTrue_plain (thn (h pins s σ H _ I hw) fun v s1 ⟨x,H1,I1,r1,q1⟩=> ?_) (he _);obtain ⟨d,rfl,q⟩:=q1;cases r1;exact WF ⟨H1,I1,q⟩
variable {tA tB':TT} {rest:List Expr}
def Jal (t u:TT):TT:=fun σ H Q=>t σ H fun c H1=>if c=true then u σ H1 Q else Q false H1
def tOr (t u:TT):TT:=fun σ H Q=>t σ H fun c H1=>if c=true then Q true H1 else u σ H1 Q
def Jaf (t:TT):TT:=fun σ H Q=>t σ H fun c H1=>Q (!c) H1
theorem Qsn (ha:PT X a tA):PW X (.BoolOp .And [a] pos) tA:=by
 intro wh pins s σ H Q I h;refine isTrue_and (thn (ha pins s σ H Q I h) fun c s1 e=> ?_);cases c with
 | true=>exact isTrue_and_nil e
 | false=>exact e
theorem Qij (ha:PT X a tA):PW X (.BoolOp .Or [a] pos) tA:=by
 intro wh pins s σ H Q I h;refine isTrue_or (thn (ha pins s σ H Q I h) fun c s1 e=> ?_);cases c with
 | false=>exact isTrue_or_nil e
 | true=>exact e
theorem Qop (ha:PT X a tA) (hb:PW X (.BoolOp .And (b::rest) pos) tB'):PW X (.BoolOp .And (a::b::rest) pos) (Jal tA tB'):=by
 intro wh pins s σ H Q I h;refine isTrue_and (thn (ha pins s σ H _ I h) fun c s1 ⟨H1,I1,q1⟩=> ?_);cases c with
 | true=>exact hb wh pins s1 σ H1 Q I1 q1
 | false=>exact ⟨H1,I1,q1⟩
theorem Qke (ha:PT X a tA) (hb:PW X (.BoolOp .Or (b::rest) pos) tB'):PW X (.BoolOp .Or (a::b::rest) pos) (tOr tA tB'):=by
 intro wh pins s σ H Q I h;refine isTrue_or (thn (ha pins s σ H _ I h) fun c s1 ⟨H1,I1,q1⟩=> ?_);cases c with
 | true=>exact ⟨H1,I1,q1⟩
 | false=>exact hb wh pins s1 σ H1 Q I1 q1
theorem Qwq (ha:PT X a tA):PT X (.UnaryOp .Not a pos) (Jaf tA):=by
 intro pins s σ H Q I h;exact isTrue_not (ha pins s σ H (fun c H1=>Q (!c) H1) I h)
def Qyw (ta tb:TE):TE:=fun σ H Q=>ta σ H fun x H1=> ∃ c,x= .bl c/\if c=true then tb σ H1 Q else Q (.bl false) H1
theorem Qp3 (ha:PE X a ta) (hb:PE X (.BoolOp .And (b::rest) pos) tb):PE X (.BoolOp .And (a::b::rest) pos) (Qyw ta tb):=by
 intro pins s σ H Q I h;refine BoolOp_and (thn (ha pins s σ H _ I h) fun v s1 ⟨x,H1,I1,r1,q1⟩=> ?_);obtain ⟨c,rfl,q1⟩:=q1;cases r1;refine WF ?_;cases c with
 | true=>exact hb pins s1 σ H1 Q I1 q1
 | false=>exact ⟨.bl false,H1,I1,rfl,q1⟩
def tIf (t:TT) (ta tb:TE):TE:=fun σ H Q=>t σ H fun c H1=>if c=true then ta σ H1 Q else tb σ H1 Q
theorem Qgi {c:Expr} (hc:PT X c tA) (ha:PE X a ta) (hb:PE X b tb):PE X (.IfExp c a b pos) (tIf tA ta tb):=by
 intro pins s σ H Q I h;refine wpAny_IfExp (thn (hc pins s σ H _ I h) fun d s1 ⟨H1,I1,q1⟩=> ?_);cases d with
 | true=>exact ha pins s1 σ H1 Q I1 q1
 | false=>exact hb pins s1 σ H1 Q I1 q1
end
def SqL (K:W.Frag) (H:Hp) (a:Addr) (xs:List V):Prop :=
 Rd H a (.lst xs) \/
  ∃ (o:Obj) (its:Array Value) (n:Nat),K.lookup a=some o/\o.cls= .type "list" /\o.dict=none/\o.data= .seq its n/\its.size<=sizeLine/\Vals xs its.toList
def SqT (K:W.Frag) (H:Hp) (a:Addr) (xs:List V):Prop :=
 Rd H a (.tup xs) \/
  ∃ (o:Obj) (its:Array Value) (n:Nat),K.lookup a=some o/\o.cls= .type "tuple" /\o.data= .seq its n/\its.size<=sizeLine/\Vals xs its.toList
def Jax:Value->Option V
 | .none=>some .non
 | .bool b=>some (.bl b)
 | .int i _=>some (.int i)
 | .str x _=>some (.str x)
 | .bytes b _=>some (.byt b)
 | .float b _=>some (.flt b)
 | .ref a=>some (.ref a)
 | .type n=>some (.ty n)
 | _=>none
theorem RelV.abs {x:V} {u:Value} (r:RelV x u):Jax u=some x:=by
 cases x with
 | non=>cases r;rfl
 | bl _=>cases r;rfl
 | int _=>obtain ⟨t,rfl⟩:=r;rfl
 | str _=>obtain ⟨t,rfl⟩:=r;rfl
 | byt _=>obtain ⟨t,rfl⟩:=r;rfl
 | flt _=>obtain ⟨t,rfl⟩:=r;rfl
 | ref _=>cases r;rfl
 | ty _=>cases r;rfl
theorem RelV.inj {x y:V} {u:Value} (r:RelV x u) (q:RelV y u):x=y:=Qt (r.abs.symm.trans q.abs)
theorem Vals.inj: ∀ {xs ys:List V} {us:List Value},Vals xs us->Vals ys us->xs=ys
 | _,_,_,.nil,.nil=>rfl
 | _,_,_,.cons r t,.cons r' t'=>by rw [r.inj r',Vals.inj t t']
section
variable {X:Cx} {pins:List (Addr×Obj)} {σ:St} {H:Hp} {s:Shared} {a:Addr} {xs ys:List V}
theorem SqL.of {K:W.Frag} (h:H a=some (.lst xs)):SqL K H a xs:= .inl (.inl h)
theorem SqT.of {K:W.Frag} (h:H a=some (.tup xs)):SqT K H a xs:= .inl (.inl h)
theorem Inv.list (I:Inv X pins σ H s) (h:SqL X.K H a xs): ∃ its:List Value,Vals xs its/\PlainL s.heap a its.toArray/\xs.length<=sizeLine:=by
 rcases h with h | ⟨o,its,n,hk,hc,hd,hs,hz,r⟩
 ·obtain ⟨z,its,n,r,e⟩:=h.ok I.hok;exact ⟨its,r,⟨_,n,e,rfl,rfl,rfl⟩,z⟩
 ·refine ⟨its.toList,r,⟨o,n,I.kIn a o hk,hc,hd,by simpa using hs⟩,?_⟩;have e:=r.length;simp only [Gw] at e;omega
theorem Inv.tuple (I:Inv X pins σ H s) (h:SqT X.K H a xs): ∃ its:List Value,Vals xs its/\IsTup s.heap a its.toArray/\xs.length<=sizeLine:=by
 rcases h with h | ⟨o,its,n,hk,hc,hs,hz,r⟩
 ·obtain ⟨z,its,r,p⟩:=h.ok I.hok;exact ⟨its,r,p,z⟩
 ·refine ⟨its.toList,r,⟨o,I.kIn a o hk,hc,n,by simpa using hs⟩,?_⟩;have e:=r.length;simp only [Gw] at e;omega
theorem Inv.list_inj (I:Inv X pins σ H s) (h:SqL X.K H a xs) (h':SqL X.K H a ys):xs=ys:=by
 obtain ⟨its,r,⟨o,n,e,_,_,d⟩,_⟩:=I.list h;obtain ⟨its',r',⟨o',n',e',_,_,d'⟩,_⟩:=I.list h';rw [e] at e';cases e';rw [d] at d';injection d' with d1 _
 have:its=its':=by simpa using JQ Array.toList d1
 subst this;exact r.inj r'
theorem Inv.tuple_inj (I:Inv X pins σ H s) (h:SqT X.K H a xs) (h':SqT X.K H a ys):xs=ys:=by
 obtain ⟨its,r,⟨o,e,_,n,d⟩,_⟩:=I.tuple h;obtain ⟨its',r',⟨o',e',_,n',d'⟩,_⟩:=I.tuple h';rw [e] at e';cases e';rw [d] at d';injection d' with d1 _
 have:its=its':=by simpa using JQ Array.toList d1
 subst this;exact r.inj r'
end
abbrev Cx.wish (X:Cx) (E:Value->Shared->Prop):Cx:={ X with xe:=E }
abbrev Cx.nox (X:Cx):Cx:=X.wish fun _ _=>False
theorem Cx.Ok.wish {X:Cx} (ok:X.Ok) (E:Value->Shared->Prop):(X.wish E).Ok :=
 ⟨ok.mod,ok.kind,ok.glob,ok.blt,ok.above,ok.inj,ok.has,ok.cab,ok.hd,ok.frames,ok.stk,ok.exf,ok.bs,ok.bsz,ok.noex,ok.exfs,ok.funs,ok.frf⟩
theorem Cx.Ok.unwish {X:Cx} {E:Value->Shared->Prop} (ok:(X.wish E).Ok):X.Ok :=
 ⟨ok.mod,ok.kind,ok.glob,ok.blt,ok.above,ok.inj,ok.has,ok.cab,ok.hd,ok.frames,ok.stk,ok.exf,ok.bs,ok.bsz,ok.noex,ok.exfs,ok.funs,ok.frf⟩
section
variable {X:Cx} {pins:List (Addr×Obj)} {σ:St} {H:Hp} {s:Shared} {E:Value->Shared->Prop}
theorem Inv.wish (I:Inv X pins σ H s) (E:Value->Shared->Prop):Inv (X.wish E) pins σ H s:=⟨I.ok.wish E,I.os,I.bare,I.base,I.loc,I.cell,I.free,I.freeC,I.pin,I.hok,I.len⟩
theorem Inv.unwish (I:Inv (X.wish E) pins σ H s):Inv X pins σ H s:=⟨I.ok.unwish,I.os,I.bare,I.base,I.loc,I.cell,I.free,I.freeC,I.pin,I.hok,I.len⟩
theorem SP.unwish {D:Ends} {f:Flow} {s':Shared} (h:SP (X.wish E) pins D f s'):SP X pins D f s':=by
 cases f with
 | next=>obtain ⟨σ',H',I,q⟩:=h;exact ⟨σ',H',I.unwish,q⟩
 | brk=>obtain ⟨σ',H',I,q⟩:=h;exact ⟨σ',H',I.unwish,q⟩
 | cont=>obtain ⟨σ',H',I,q⟩:=h;exact ⟨σ',H',I.unwish,q⟩
 | ret u=>obtain ⟨v,σ',H',I,r,q⟩:=h;exact ⟨v,σ',H',I.unwish,r,q⟩
theorem PSs.nox {st:List Stmt} {t:TS} (h:PSs X.nox st t):PSs X st t:=fun pins s σ H D I hw =>
 Jo (h pins s σ H D (I.wish _) hw) (fun _ _ q=>q.unwish) fun _ _ z=>False.elim z
end
section
variable {X:Cx} {st:Stmt} {rest:List Stmt} {t u:TS} {e:Expr} {te:TE} {pos:Pos}
def Qyq:TS:=fun D σ H=>D.nx σ H
def Jad (t u:TS):TS:=fun D σ H=>t { D with nx:=u D } σ H
theorem Qf4:PSs X [] Qyq:=fun _ _ σ H _ I h=>Bg ⟨σ,H,I,h⟩
theorem Bq (h1:PS X st t) (h2:PSs X rest u):PSs X (st::rest) (Jad t u):=by
 intro pins s σ H D I h;refine wpAny_execs_cons (thn (h1 pins s σ H { D with nx:=u D } I h) fun f s1 q=> ?_);cases f with
 | next =>
  obtain ⟨σ',H',I',q⟩:=q;exact h2 pins s1 σ' H' D I' q
 | ret v=>exact q
 | brk=>exact q
 | cont=>exact q
theorem Qsp (h1:PS X st t):PSs X [st] t:=by
 intro pins s σ H D I h;refine wpAny_execs_cons (thn (h1 pins s σ H D I h) fun f s1 q=> ?_);cases f with
 | next=>exact Bg q
 | ret v=>exact q
 | brk=>exact q
 | cont=>exact q
theorem Inv.quiet {pins:List (Addr×Obj)} {σ:St} {H:Hp} {s:Shared} (I:Inv X pins σ H s):interactive X.env=false:=by simp [interactive,I.ok.kind]
def Qys (te:TE):TS:=fun D σ H=>te σ H fun _ H1=>D.nx σ H1
theorem Qa9 (he:PE X e te) (hs:swapsWith e none pos.line X.env=pure false:=by rfl):PS X (.Expr e pos) (Qys te):=by
 intro pins s σ H D I h;exact wpAny_Expr_any (thn (he pins s σ H _ I h) fun v s1 ⟨x,H1,I1,r1,q1⟩=>⟨σ,H1,I1,q1⟩) I.quiet hs
def Jae (te:TE):TS:=fun D σ H=>te σ H D.rt
theorem Qil (he:PE X e te):PS X (.Return (some e) pos) (Jae te):=by
 intro pins s σ H D I h;exact wpAny_Return_some (thn (he pins s σ H _ I h) fun v s1 ⟨x,H1,I1,r1,q1⟩=>⟨x,σ,H1,I1,r1,q1⟩)
def Jah (c:TT) (t u:TS):TS:=fun D σ H=>c σ H fun b H1=>if b=true then t D σ H1 else u D σ H1
theorem Qd5 {c:Expr} {a b:List Stmt} {tc:TT} (hc:PT X c tc) (ha:PSs X a t) (hb:PSs X b u):PS X (.If c a b pos) (Jah tc t u):=by
 intro pins s σ H D I h;refine wpAny_If (thn (hc pins s σ H _ I h) fun d s1 ⟨H1,I1,q1⟩=> ?_);cases d with
 | true=>exact ha pins s1 σ H1 D I1 q1
 | false=>exact hb pins s1 σ H1 D I1 q1
def Qo0:TS:=fun _ _ _=>False
theorem ZH {sts:List Stmt}:PSs X sts Qo0:=fun _ _ _ _ _ _ h=>h.elim
end
abbrev TG:=V->St->Hp->(St->Hp->Prop)->Prop
abbrev TGs:=List V->St->Hp->(St->Hp->Prop)->Prop
def PG (X:Cx) (target:Expr) (t:TG):Prop :=
 ∀ (pins:List (Addr×Obj)) (s:Shared) (σ:St) (H:Hp) (v:V) (u:Value) (Q:St->Hp->Prop),Inv X pins σ H s->RelV v u->t v σ H Q ->
  wpAny (model X.prog X.w) X.A (assign target X.env u) (fun _ s'=> ∃ σ' H',Inv X pins σ' H' s'/\Q σ' H') X.xe s
def PGs (X:Cx) (ts:List Expr) (t:TGs):Prop :=
 ∀ (pins:List (Addr×Obj)) (s:Shared) (σ:St) (H:Hp) (vs:List V) (us:List Value) (Q:St->Hp->Prop),Inv X pins σ H s->Vals vs us->t vs σ H Q ->
  wpAny (model X.prog X.w) X.A (assignInOrder ((assignEach ts X.env).map (·.2)) us) (fun _ s'=> ∃ σ' H',Inv X pins σ' H' s'/\Q σ' H') X.xe s
section
variable {X:Cx} {pos:Pos}
def YG (i:Nat):TG:=fun v σ H Q=>Q (σ.set i (some v)) H
theorem Ja {i:Nat} {x:Str} (hN:X.N.Nodup) (hi:X.N[i]? =some x) (hx:Loc X.env.scope x) (hf:X.fn x=true \/ X.env.scope.names.lookup x=some .local:=by first | exact .inl rfl | exact .inr rfl | assumption):PG X (.Name x pos) (YG i):=by
 intro pins s σ H v u Q I r h;exact Qcj (Bl I hN hi hx r (fun s' I'=>⟨_,H,I',h⟩) hf)
def Quk:TGs:=fun vs σ H Q=>vs=[]/\Q σ H
def Oy (t:TG) (u:TGs):TGs:=fun vs σ H Q=> ∃ v r,vs=v::r/\t v σ H fun σ' H'=>u r σ' H' Q
theorem Zm:PGs X [] Quk:=by
 intro pins s σ H vs us Q I r h;obtain ⟨e,h⟩:=h;subst e;cases r;exact assignInOrder_nil ⟨σ,H,I,h⟩
theorem Vh {e:Expr} {es:List Expr} {t:TG} {u:TGs} (h1:PG X e t) (h2:PGs X es u)
  (hs:(assignEach (e::es) X.env).map (·.2)=assign e X.env::(assignEach es X.env).map (·.2):=by rfl):PGs X (e::es) (Oy t u):=by
 intro pins s σ H vs us Q I r h;obtain ⟨v,vr,e1,h⟩:=h;subst e1;cases r with
 | cons r rr =>
  rw [hs];refine assignInOrder_cons (thn (h1 pins s σ H _ _ _ I r h) fun _ s1 ⟨σ1,H1,I1,q1⟩=> ?_);exact h2 pins s1 σ1 H1 _ _ Q I1 rr q1
def Qui (K:W.Frag) (n:Nat) (t:TGs):TG:=fun v σ H Q=> ∃ a xs,v= .ref a/\SqT K H a xs/\xs.length=n/\t xs σ H Q
theorem Yi {es:List Expr} {k:Nat} {t:TGs} {n:Nat} (hc:X.calm=true) (h:PGs X es t)
  (hn:(assignEach es X.env).length=n:=by rfl) (hst:(assignEach es X.env).findIdx? (·.1)=none:=by rfl):PG X (.Tuple es k pos) (Qui X.K n t):=by
 intro pins s σ H v u Q I r hw;obtain ⟨a,xs,e1,hq,hl,hw⟩:=hw;subst e1;cases r;obtain ⟨its,rv,ht,hz⟩:=I.tuple hq;refine assign_Tuple_tuple (I.ok.hd hc) ht (by simp [hn,<- hl,rv.length]) hst fun h' hx=> ?_
 have I1:Inv X pins σ H { s with heap:=h' }:=I.kept (t':=s.toks) fun b o e=>hx b o (Qq (Qa e)) e
 exact h pins _ σ H xs _ Q I1 (by simpa using rv) hw
def Qs9 (te:TE) (g:TG):TS:=fun D σ H=>te σ H fun x H1=>g x σ H1 D.nx
theorem Qws {tg e:Expr} {te:TE} {g:TG} (he:PE X e te) (hg:PG X tg g) (hs:swapsWithSole [tg] e pos.line X.env=pure false:=by rfl) (hw:swappedStores [tg] e X.env=pure none:=by rfl)
  (h1:(assignEach [tg] X.env).map (·.2)=[assign tg X.env]:=by rfl):PS X (.Assign [tg] e pos) (Qs9 te g):=by
 intro pins s σ H D I h;refine wpAny_Assign_stores (thn (he pins s σ H _ I h) fun v s1 ⟨x,H1,I1,r1,q1⟩=> ?_) hs hw;rw [h1];exact thn (hg pins s1 σ H1 x v _ I1 r1 q1) fun _ s2 q=>q
theorem B8 {i:Nat} {x:Str} {e:Expr} {te:TE} {pos':Pos} (hN:X.N.Nodup) (hi:X.N[i]? =some x) (hx:Loc X.env.scope x) (he:PE X e te) (hs:swapsWith e (some (.Name x pos')) pos.line X.env=pure false:=by rfl) (hf:X.fn x=true \/ X.env.scope.names.lookup x=some .local:=by first | exact .inl rfl | exact .inr rfl | assumption) :
  PS X (.Assign [.Name x pos'] e pos) (Qs9 te (YG i)):=by
 intro pins s σ H D I h;refine wpAny_Assign_Name (thn (he pins s σ H _ I h) fun v s1 ⟨y,H1,I1,r1,q1⟩=> ?_) hs;exact Bl I1 hN hi hx r1 (fun s2 I2=>⟨_,H1,I2,q1⟩) hf
def Qw5 (c:TT) (tb:TS):TS:=fun D σ H=> ∃ W:Nat->St->Hp->Prop,(∃ m,W m σ H)/\ ∀ m σ H,W m σ H ->
 c σ H fun b H1=>if b=true then ∃ N:St->Hp->Prop,(∀ σ' H',N σ' H'-> ∃ m',m' < m/\W m' σ' H')/\tb { D with nx:=N,ct:=N,bk:=D.nx } σ H1 else D.nx σ H1
theorem Qot {c:Expr} {body:List Stmt} {tc:TT} {tb:TS} (hp:PassesOwn (model X.prog X.w) X.A X.env X.xe) (hc:PT X c tc) (hb:PSs X body tb):PS X (.While c body [] pos) (Qw5 tc tb):=by
 intro pins s σ H D I h;obtain ⟨W,⟨m0,w0⟩,turn⟩:=h;refine wpAny_While (codeAny_whileLoop (fun n s'=> ∃ σ' H',Inv X pins σ' H' s'/\W n σ' H') ?_ m0 ⟨σ,H,I,w0⟩);rintro n s1 ⟨σ1,H1,I1,w1⟩;refine ZE hp (thn (hc pins s1 σ1 H1 _ I1 (turn n σ1 H1 w1)) fun b s2 ⟨H2,I2,q2⟩=> ?_);cases b with
 | true =>
  obtain ⟨N,hN,q2⟩:=q2;rw [Qk rfl];refine ZE hp (thn (hb pins s2 σ1 H2 _ I2 q2) fun f s3 q3=> ?_);cases f with
  | next =>
   obtain ⟨σ3,H3,I3,n3⟩:=q3;obtain ⟨m',hm,w3⟩:=hN σ3 H3 n3;exact ⟨m',hm,σ3,H3,I3,w3⟩
  | cont =>
   obtain ⟨σ3,H3,I3,n3⟩:=q3;obtain ⟨m',hm,w3⟩:=hN σ3 H3 n3;exact ⟨m',hm,σ3,H3,I3,w3⟩
  | brk=>exact q3
  | ret v=>exact q3
 | false =>
  rw [Qn Qy];exact Bg ⟨σ1,H2,I2,q2⟩
end
structure It where
 go:Nat->Hp->Prop
 yld:Nat->Hp->V->Hp->Prop
 stop:Nat->Hp->Prop
def FpOk (X:Cx) (pins:List (Addr×Obj)) (H:Hp) (b:Addr):Prop :=
 H b=none/\b≠X.env.locals/\b ∉ X.fs/\(b∈X.ex \/ X.s₀.heap.objs.size<=b)/\(∀ x c,X.env.cells.lookup x=some c->c≠b)/\ ∀ p∈X.pn++pins,p.1≠b
theorem Inv.fpOk {X:Cx} {pins:List (Addr×Obj)} {σ:St} {H H':Hp} {s:Shared} {b:Addr} (I:Inv X pins σ H s) (hb:s.heap.objs.size<=b) (hn:H' b=none):FpOk X pins H' b:=by
 refine ⟨hn,JD (Qr I.lt hb),I.nofs hb,.inr (Qz I.sz hb),fun x c e z=> ?_,fun p hp z=> ?_⟩
 ·obtain ⟨v,q⟩:=I.cell x c e;exact absurd (Qr q.lt (by rw [z];exact hb)) (W8 _)
 ·exact absurd (Qr (Qa (I.pin p hp).1) (by rw [z];exact hb)) (W8 _)
structure Turn (P:Program) (w:World) (K:W.Frag) (tg:Expr) (J:It) (fp:List Addr) (it:Addr) (tn:Nat->Heap->Prop):Prop where
 mem:it∈fp
 obj: ∀ i h,tn i h-> ∀ b∈fp,∃ o,h.get? b=some o/\ ∀ v,o.data≠ .cell v
 keep: ∀ i h h',tn i h->(∀ b∈fp,∀ o,h.get? b=some o->h'.get? b=some o)->tn i h'
 item: ∀ (X:Cx),X.prog=P->X.w=w->X.K=K->X.calm=true-> ∀ (i:Nat) (pins:List (Addr×Obj)) (s:Shared) (σ:St) (H:Hp) (E:Value->Shared->Prop),Inv X pins σ H s->(∀ b∈fp,FpOk X pins H b)->tn i s.heap->J.go i H ->
  wpAny (model P w) X.A (pyNext (.ref it)) (fun r s1=> ∃ u,r=some u /\
   wpAny (model P w) X.A (letOwnedTupleGo tg (.ref it) u) (fun _ s2=> ∃ x H',Inv X pins σ H' s2/\RelV x u/\J.yld i H x H'/\tn (i+1) s2.heap/\ ∀ b∈fp,H' b=none) E s1) E s
 done: ∀ (X:Cx),X.prog=P->X.w=w->X.K=K->X.calm=true-> ∀ (i:Nat) (pins:List (Addr×Obj)) (s:Shared) (σ:St) (H:Hp) (E:Value->Shared->Prop),Inv X pins σ H s->(∀ b∈fp,FpOk X pins H b)->tn i s.heap->J.stop i H ->
  wpAny (model P w) X.A (pyNext (.ref it)) (fun r s1=>r=none/\Inv X pins σ H s1) E s
 self: ∀ (A:Around) (i:Nat) (s:Shared) (Q:Value->Shared->Prop) (E:Value->Shared->Prop),tn i s.heap->Q (.ref it) s->wpAny (model P w) A (pyIter (.ref it)) Q E s
abbrev TI:=St->Hp->(It->Hp->Prop)->Prop
def PIE (X:Cx) (pins:List (Addr×Obj)) (σ:St) (tg:Expr) (R:It->Hp->Prop) (itv:Value) (s2:Shared):Prop :=
 ∃ (it:Addr) (fp:List Addr) (tn:Nat->Heap->Prop) (J:It) (H':Hp),itv= .ref it/\Inv X pins σ H' s2/\Turn X.prog X.w X.K tg J fp it tn/\tn 0 s2.heap/\(∀ b∈fp,FpOk X pins H' b)/\R J H'
def PI (X:Cx) (tg iter:Expr) (wi:TI):Prop :=
 ∀ (pins:List (Addr×Obj)) (s:Shared) (σ:St) (H:Hp) (R:It->Hp->Prop),Inv X pins σ H s->wi σ H R ->
  wpAny (model X.prog X.w) X.A (eval iter X.env) (fun v s1=>wpAny (model X.prog X.w) X.A (pyIter v) (PIE X pins σ tg R) X.xe s1) X.xe s
theorem Qkw {M:Model} {A:Around} {E:Value->Shared->Prop} {s:Shared} {tg:Expr} {it:Addr} {u:Value} {o:Obj} {n:String} {vs:Array Value} {Q:Unit->Shared->Prop} (ho:s.heap.get? it=some o) (hc:o.cls= .type n) (hd:o.data= .fields vs)
  (hn:["enumerate", "zip", "dict_itemiterator", "dict_reverseitemiterator", "odict_iterator", "itertools.zip_longest", "itertools.pairwise"].contains n=false) (hQ:Q () s):wpAny M A (letOwnedTupleGo tg (.ref it) u) Q E s:=by
 unfold letOwnedTupleGo;cases tg<;>first
  | exact Qe hQ
  | (cases u<;>first
    | exact Qe hQ
    | (refine Q1 (wpAny_load ho ?_)
       rw [hc,hd];show wpAny M A (if (["enumerate", "zip", "dict_itemiterator", "dict_reverseitemiterator", "odict_iterator", "itertools.zip_longest", "itertools.pairwise"].contains n && vs[0]? == some (rawInt _))=true then _ else _) Q E s;rw [Qn (by intro h;rw [hn,B3] at h;cases h)];exact Qe hQ))
def Itl (K:W.Frag) (a:Addr):It :=
 ⟨fun i H=> ∃ xs x,SqL K H a xs/\xs[i]? =some x,fun i H x H'=>H'=H/\ ∀ xs,SqL K H a xs->xs[i]? =some x,fun i H=> ∃ xs,SqL K H a xs/\xs.length<=i⟩
def Itt (K:W.Frag) (a:Addr):It :=
 ⟨fun i H=> ∃ xs x,SqT K H a xs/\xs[i]? =some x,fun i H x H'=>H'=H/\ ∀ xs,SqT K H a xs->xs[i]? =some x,fun i H=> ∃ xs,SqT K H a xs/\xs.length<=i⟩
def Itr (lo:Int) (n:Nat):It:=⟨fun i _=>i < n,fun i H x H'=>H'=H/\x= .int (lo+i),fun i _=>n<=i⟩
theorem Qlp {P:Program} {w:World} {K:W.Frag} {tg:Expr} (a it:Addr):Turn P w K tg (Itl K a) [it] it (fun i h=>h.IsListIter it a i) where
 mem:=by simp
 obj:=fun i h st b hb=>by
  have e:b=it:=by simpa using hb
  subst e;obtain ⟨o,e,c,d⟩:=st;exact ⟨o,e,fun v z=>by rw [d] at z;cases z⟩
 keep:=fun i h h' st k=>st.at fun o e=>k it (by simp) o e
 item:=by
  intro X hP hw hK hc i pins s σ H E I hf st hg;subst hP hw hK;obtain ⟨xs,x,hq,hx⟩:=hg;obtain ⟨its,rv,p,hz⟩:=I.list hq;obtain ⟨u,hu,ru⟩:=rv.get hx;obtain ⟨f0,f1,f2,f3,f4,f5⟩:=hf it (by simp);refine wpAny_pyNext_list_item st p.isList (x:=u) (by simpa using hu) fun h' st' sb=> ?_
  have I1:Inv X pins σ H { s with heap:=h' }:=I.turned (t':=s.toks) (fun b o hb e=>(sb.2 b hb).trans e) f0 f1 f3 f4 f5;obtain ⟨o,e,c,d⟩:=id st';exact ⟨u,rfl,Qkw (s:={ s with heap:=h' }) e c d (by decide) ⟨x,H,I1,ru,⟨rfl,fun ys hy=>by rw [I.list_inj hy hq];exact hx⟩,st',fun b hb=>(hf b hb).1⟩⟩
 done:=by
  intro X hP hw hK hc i pins s σ H E I hf st hg;subst hP hw hK;obtain ⟨xs,hq,hx⟩:=hg;obtain ⟨its,rv,p,hz⟩:=I.list hq;obtain ⟨f0,f1,f2,f3,f4,f5⟩:=hf it (by simp);have hl:=rv.length;exact wpAny_pyNext_list_end (I.ok.hd hc) st p.isList (by simp;omega) fun h' eb=>⟨rfl,I.turned (t':=s.toks) (fun b o hb e=>eb b o hb e) f0 f1 f3 f4 f5⟩
 self:=fun _ _ _ _ _ st h=>wpAny_pyIter_listiter st h
theorem Qi7 {P:Program} {w:World} {K:W.Frag} {tg:Expr} (a it:Addr):Turn P w K tg (Itt K a) [it] it (fun i h=>h.IsTupleIter it a i) where
 mem:=by simp
 obj:=fun i h st b hb=>by
  have e:b=it:=by simpa using hb
  subst e;obtain ⟨o,e,c,d⟩:=st;exact ⟨o,e,fun v z=>by rw [d] at z;cases z⟩
 keep:=fun i h h' st k=>st.at fun o e=>k it (by simp) o e
 item:=by
  intro X hP hw hK hc i pins s σ H E I hf st hg;subst hP hw hK;obtain ⟨xs,x,hq,hx⟩:=hg;obtain ⟨its,rv,p,hz⟩:=I.tuple hq;obtain ⟨u,hu,ru⟩:=rv.get hx;obtain ⟨f0,f1,f2,f3,f4,f5⟩:=hf it (by simp);refine wpAny_pyNext_tuple_item st (show s.heap.IsTuple a its.toArray from p) (x:=u) (by simpa using hu) fun h' st' sb=> ?_
  have I1:Inv X pins σ H { s with heap:=h' }:=I.turned (t':=s.toks) (fun b o hb e=>(sb.2 b hb).trans e) f0 f1 f3 f4 f5;obtain ⟨o,e,c,d⟩:=id st';exact ⟨u,rfl,Qkw (s:={ s with heap:=h' }) e c d (by decide) ⟨x,H,I1,ru,⟨rfl,fun ys hy=>by rw [I.tuple_inj hy hq];exact hx⟩,st',fun b hb=>(hf b hb).1⟩⟩
 done:=by
  intro X hP hw hK hc i pins s σ H E I hf st hg;subst hP hw hK;obtain ⟨xs,hq,hx⟩:=hg;obtain ⟨its,rv,p,hz⟩:=I.tuple hq;obtain ⟨f0,f1,f2,f3,f4,f5⟩:=hf it (by simp);have hl:=rv.length;exact wpAny_pyNext_tuple_end (I.ok.hd hc) st (show s.heap.IsTuple a its.toArray from p) (by simp;omega) fun h' eb=>⟨rfl,I.turned (t':=s.toks) (fun b o hb e=>eb b o hb e) f0 f1 f3 f4 f5⟩
 self:=fun _ _ _ _ _ st h=>wpAny_pyIter_tupleiter st h
theorem Qi8 {P:Program} {w:World} {K:W.Frag} {tg:Expr} (it:Addr) (lo:Int) (n:Nat):Turn P w K tg (Itr lo n) [it] it (fun i h=>IsRangeIter h it (lo+(i:Nat) * 1) ((n:Int) - (i:Nat)) 1) where
 mem:=by simp
 obj:=fun i h st b hb=>by
  have e:b=it:=by simpa using hb
  subst e;exact ⟨_,st,fun v z=>by
   have z':Data.fields _=Data.cell v:=z;cases z'⟩
 keep:=fun i h h' st k=>k it (by simp) _ st
 item:=by
  intro X hP hw hK hc i pins s σ H E I hf st hg;subst hP hw hK;obtain ⟨f0,f1,f2,f3,f4,f5⟩:=hf it (by simp);have W:=Walks.range (prog:=X.prog) (w:=X.w) (I.ok.hd hc) it lo 1 n;refine W.item i s _ _ hg st fun v h' tk hv st' kk=> ?_
  obtain ⟨t,rfl⟩:=hv;have I1:Inv X pins σ H { s with heap:=h',toks:=tk }:=I.turned (fun b o hb e=>kk b o (by simpa using hb) e) f0 f1 f3 f4 f5;refine ⟨_,rfl,Qkw (s:={ s with heap:=h',toks:=tk }) (n:= "range_iterator") st' rfl rfl (by decide) ⟨.int (lo+i),H,I1,⟨t,?_⟩,⟨rfl,rfl⟩,st',fun b hb=>(hf b hb).1⟩⟩;rw [Int.mul_one]
 done:=by
  intro X hP hw hK hc i pins s σ H E I hf st hg;subst hP hw hK;obtain ⟨f0,f1,f2,f3,f4,f5⟩:=hf it (by simp);exact wpAny_pyNext_range_end (I.ok.hd hc) st (by have:n<=i:=hg;omega) fun h' eb=>⟨rfl,I.turned (t':=s.toks) (fun b o hb e=>eb b o hb e) f0 f1 f3 f4 f5⟩
 self:=fun _ _ _ _ _ st h=>wpAny_pyIter_rangeiter st h
section
variable {X:Cx} {tg:Expr}
def Qkv (K:W.Frag) (tl:TE):TI:=fun σ H R=>tl σ H fun x H1=> ∃ a,x= .ref a/\(∃ xs,SqL K H1 a xs)/\R (Itl K a) H1
def Qy2 (K:W.Frag) (tl:TE):TI:=fun σ H R=>tl σ H fun x H1=> ∃ a,x= .ref a/\(∃ xs,SqT K H1 a xs)/\R (Itt K a) H1
theorem WT {l:Expr} {tl:TE} (hl:PE X l tl):PI X tg l (Qkv X.K tl):=by
 intro pins s σ H R I h;refine thn (hl pins s σ H _ I h) fun v s1 ⟨x,H1,I1,r1,q1⟩=> ?_
 obtain ⟨a,e,⟨xs,hq⟩,q⟩:=q1;subst e;cases r1;obtain ⟨its,rv,p,hz⟩:=I1.list hq;refine Qvv p.isList ?_;refine ⟨s1.heap.objs.size,[s1.heap.objs.size],_,_,H1,rfl,I1.kept (t':=s1.toks) fun b o e=>Q2 _ e,Qlp a _,⟨_,Qg _ rfl,rfl,rfl⟩,fun b hb=> ?_,q⟩;have e:b=s1.heap.objs.size:=by simpa using hb
 subst e;exact I1.fpOk (Q6 _) (I1.hok.fresh (Q6 _))
theorem UX {l:Expr} {tl:TE} (hl:PE X l tl):PI X tg l (Qy2 X.K tl):=by
 intro pins s σ H R I h;refine thn (hl pins s σ H _ I h) fun v s1 ⟨x,H1,I1,r1,q1⟩=> ?_
 obtain ⟨a,e,⟨xs,hq⟩,q⟩:=q1;subst e;cases r1;obtain ⟨its,rv,p,hz⟩:=I1.tuple hq;refine ZB (show s1.heap.IsTuple a its.toArray from p) ?_;refine ⟨s1.heap.objs.size,[s1.heap.objs.size],_,_,H1,rfl,I1.kept (t':=s1.toks) fun b o e=>Q2 _ e,Qi7 a _,⟨_,Qg _ rfl,rfl,rfl⟩,fun b hb=> ?_,q⟩;have e:b=s1.heap.objs.size:=by simpa using hb
 subst e;exact I1.fpOk (Q6 _) (I1.hok.fresh (Q6 _))
theorem Qoo {pins:List (Addr×Obj)} {σ:St} {H:Hp} {s:Shared} {R:It->Hp->Prop} {E:Value->Shared->Prop} {lo hi:Int} {t u v:Tok} {tk:Nat} (I:Inv X pins σ H s) (h1: -(2 ^ 62)<=lo) (h2:lo < 2 ^ 62) (h3: -(2 ^ 62)<=hi) (h4:hi < 2 ^ 62)
  (q:R (Itr lo (hi - lo).toNat) H):wpAny (model X.prog X.w) X.A (pyIter (.ref s.heap.objs.size)) (PIE X pins σ tg R) E { s with heap:=s.heap.push { cls:= .type "range",data:= .fields #[.int lo t,.int hi u,.int 1 v] },toks:=tk }:=by
 refine wpAny_pyIter_range (IsRange.new ..) (small_one h1 h2 h3 h4) ?_;have I1:Inv X pins σ H { s with heap:=s.heap.push { cls:= .type "range",data:= .fields #[.int lo t,.int hi u,.int 1 v] },toks:=tk }:=I.kept fun b o e=>Q2 _ e
 refine ⟨(s.heap.push { cls:= .type "range",data:= .fields #[.int lo t,.int hi u,.int 1 v] }).objs.size,[(s.heap.push { cls:= .type "range",data:= .fields #[.int lo t,.int hi u,.int 1 v] }).objs.size],_,_,H,rfl,
  I1.kept (t':=tk) fun b o e=>Q2 _ e,Qi8 _ lo (hi - lo).toNat,?_,fun b hb=> ?_,q⟩
 ·have e1:lo+((0:Nat):Int) * 1=lo:=by simp
  have e2:(((hi - lo).toNat:Nat):Int) - ((0:Nat):Int)=Builtin.Range.rangeSize lo hi 1:=by rw [rangeSize_one];split<;>omega
  show IsRangeIter _ _ (lo+((0:Nat):Int) * 1) ((((hi - lo).toNat:Nat):Int) - ((0:Nat):Int)) 1;rw [e1,e2];exact Qg _ rfl
 ·have e:b=(s.heap.push { cls:= .type "range",data:= .fields #[.int lo t,.int hi u,.int 1 v] }).objs.size:=by simpa using hb
  subst e;exact I1.fpOk (Q6 _) (I1.hok.fresh (Q6 _))
def Qzw (ta:TA):TI:=fun σ H R=>ta σ H fun vs H1=> ∃ j:Int,vs=[.int j]/\ -(2 ^ 62)<=j/\j < 2 ^ 62/\R (Itr 0 j.toNat) H1
theorem Qd6 {a:Expr} {ta:TA} {p pos:Pos} (hg:Gl X "range") (hm:X.mg "range" =none) (ha:PA X [a] ta) (hs:starEach [a] X.env=[(false,eval a X.env)]:=by rfl):PI X tg (.Call (.Name "range" p) [a] [] pos) (Qzw ta):=by
 intro pins s σ H R I h;refine Call_ (Bd I hg hm boot_range (Ww (thn (ha pos pins s σ H _ I h) fun us s1 ⟨vs,H1,I1,r1,q1⟩=> ?_) hs rfl));obtain ⟨j,e,q1,q2,q⟩:=q1;subst e;cases r1 with
 | cons r rr =>
  cases rr;obtain ⟨t,rfl⟩:=r;exact call_range_1 (Qoo I1 (by omega) (by omega) q1 q2 (by simpa using q))
def Jai (wi:TI) (g:TG) (tb:TS):TS:=fun D σ H=>wi σ H fun J H1=> ∃ W:Nat->Nat->St->Hp->Prop,(∃ m,W 0 m σ H1)/\ ∀ i m σ H,W i m σ H ->
 (J.stop i H/\D.nx σ H) \/ (J.go i H/\ ∃ N:St->Hp->Prop,(∀ σ' H',N σ' H'-> ∃ m',m' < m/\W (i+1) m' σ' H')/\ ∀ x H',J.yld i H x H'->g x σ H' fun σ2 H2=>tb { D with nx:=N,ct:=N,bk:=D.nx } σ2 H2)
def UA (fp:List Addr) (h:Heap):List (Addr×Obj):=fp.filterMap fun b=>(h.get? b).map fun o=>(b,o)
theorem ZI {fp:List Addr} {h:Heap} {b:Addr} {o:Obj} (hb:b∈fp) (e:h.get? b=some o):(b,o)∈UA fp h:=Zb.mpr ⟨b,hb,by rw [e];rfl⟩
theorem Qmk {fp:List Addr} {h:Heap} {p:Addr×Obj} (hp:p∈UA fp h):p.1∈fp/\h.get? p.1=some p.2:=by
 obtain ⟨b,hb,e⟩:=Zb.mp hp;cases q:h.get? b with
 | none=>rw [q] at e;cases e
 | some o =>
  rw [q] at e;have e':(b,o)=p:=Qt e;subst e';exact ⟨hb,q⟩
theorem Inv.pinned {pins:List (Addr×Obj)} {σ:St} {H:Hp} {s:Shared} {fp:List Addr} (I:Inv X pins σ H s) (hf: ∀ b∈fp,FpOk X pins H b) (ho: ∀ b∈fp,∃ o,s.heap.get? b=some o/\ ∀ v,o.data≠ .cell v):Inv X (pins++UA fp s.heap) σ H s :=
 I.pins_of fun p hp=>(QH.mp hp).elim (fun z=>I.pin p (QG _ z)) fun z=>by
  obtain ⟨hb,e⟩:=Qmk z;obtain ⟨f0,f1,f2,_⟩:=hf p.1 hb;obtain ⟨o,e',d⟩:=ho p.1 hb;rw [e] at e';cases e';exact ⟨e,f0,f1,f2,d⟩
theorem Inv.unpinned {pins pl:List (Addr×Obj)} {σ:St} {H:Hp} {s:Shared} (I:Inv X (pins++pl) σ H s):Inv X pins σ H s:=I.pins_of fun p hp=>I.pin p (QG _ (ZF _ hp))
theorem BS {iter:Expr} {body:List Stmt} {wi:TI} {g:TG} {tb:TS} {pos:Pos} (hp:PassesOwn (model X.prog X.w) X.A X.env X.xe) (hc:X.calm=true) (hi:PI X tg iter wi) (hg:PG X tg g) (hb:PSs X body tb)
  (hs: ∀ x,foldedSetIterable iter X.env x=pure x:=by intro _;rfl):PS X (.For tg iter body [] pos) (Jai wi g tb):=by
 intro pins s σ H D I h;refine wpAny_For (thn (hi pins s σ H _ I h) fun v s1 h1=>thn h1 fun itv s2 h2=> ?_) hs;obtain ⟨it,fp,tn,J,H2,e,I2,T,st2,f2,W,⟨m0,w0⟩,turn⟩:=h2;subst e;have stat: ∀ {H':Hp},(∀ b∈fp,H' b=none)-> ∀ b∈fp,FpOk X pins H' b:=fun hn b hb=>⟨hn b hb,(f2 b hb).2⟩
 refine codeAny_forLoop_any (fun n s'=> ∃ i σ' H',Inv X pins σ' H' s'/\tn i s'.heap/\(∀ b∈fp,H' b=none)/\W i n σ' H') ?_ m0 ⟨0,σ,H2,I2,st2,fun b hb=>(f2 b hb).1,w0⟩;rintro n s3 ⟨i,σ3,H3,I3,st3,fr3,w3⟩;rcases turn i n σ3 H3 w3 with ⟨stop,qn⟩ | ⟨go,N,hN,step⟩
 ·refine ZE hp (thn (T.done X rfl rfl rfl hc i pins s3 σ3 H3 X.xe I3 (stat fr3) st3 stop) fun r s4 ⟨hr,I4⟩=> ?_);subst hr;exact Bg ⟨σ3,H3,I4,qn⟩
 ·refine ZE hp (thn (T.item X rfl rfl rfl hc i pins s3 σ3 H3 X.xe I3 (stat fr3) st3 go) fun r s4 ⟨u,hr,h4⟩=> ?_);subst hr;refine ZE hp (thn h4 fun _ s5 ⟨x,H5,I5,r5,y5,st5,fr5⟩=> ?_);have I5':=I5.pinned (stat fr5) (T.obj _ _ st5);refine ZE hp (thn (hg _ s5 σ3 H5 x u _ I5' r5 (step x H5 y5)) fun _ s6 ⟨σ6,H6,I6,q6⟩=> ?_);refine ZE hp (thn (hb _ s6 σ6 H6 _ I6 q6) fun f s7 q7=> ?_);have again: ∀ {σ7:St} {H7:Hp},Inv X (pins++UA fp s5.heap) σ7 H7 s7->N σ7 H7-> ∃ m,m < n/\ ∃ i σ' H',Inv X pins σ' H' s7/\tn i s7.heap/\(∀ b∈fp,H' b=none)/\W i m σ' H':=fun {σ7 H7} I7 n7=>by
   obtain ⟨m',hm,w7⟩:=hN σ7 H7 n7;refine ⟨m',hm,i+1,σ7,H7,I7.unpinned,T.keep _ _ _ st5 fun b hb o e=>(I7.pin (b,o) (QG _ (QG _ (ZI hb e)))).1,fun b hb=> ?_,w7⟩;obtain ⟨o,e,d⟩:=T.obj _ _ st5 b hb;exact (I7.pin (b,o) (QG _ (QG _ (ZI hb e)))).2.1
  cases f with
  | next=>obtain ⟨σ7,H7,I7,n7⟩:=q7;exact again I7 n7
  | cont=>obtain ⟨σ7,H7,I7,n7⟩:=q7;exact again I7 n7
  | brk=>obtain ⟨σ7,H7,I7,q7⟩:=q7;exact ⟨σ7,H7,I7.unpinned,q7⟩
  | ret v=>obtain ⟨x7,σ7,H7,I7,r7,q7⟩:=q7;exact ⟨x7,σ7,H7,I7.unpinned,r7,q7⟩
end
abbrev R2:=V->V->Hp->VK->Prop
def OpR (X:Cx) (f:Value->Value->Sem Value) (r:R2):Prop :=
 ∀ (pins:List (Addr×Obj)) (s:Shared) (σ:St) (H:Hp) (x y:V) (v u:Value) (Q:VK),Inv X pins σ H s->RelV x v->RelV y u->r x y H Q ->
  wpAny (model X.prog X.w) X.A (f v u) (EP X pins σ Q) X.xe s
def UnR (X:Cx) (f:Value->Sem Value) (r:V->Hp->VK->Prop):Prop :=
 ∀ (pins:List (Addr×Obj)) (s:Shared) (σ:St) (H:Hp) (x:V) (v:Value) (Q:VK),Inv X pins σ H s->RelV x v->r x H Q ->
  wpAny (model X.prog X.w) X.A (f v) (EP X pins σ Q) X.xe s
def CallR (X:Cx) (f:Value) (r:List V->Hp->VK->Prop):Prop :=
 ∀ (pins:List (Addr×Obj)) (s:Shared) (σ:St) (H:Hp) (xs:List V) (us:List Value) (Q:VK),Inv X pins σ H s->Vals xs us->r xs H Q ->
  wpAny (model X.prog X.w) X.A (call f us) (EP X pins σ Q) X.xe s
def TruR (X:Cx) (r:V->Hp->(Bool->Hp->Prop)->Prop):Prop :=
 ∀ (pins:List (Addr×Obj)) (s:Shared) (σ:St) (H:Hp) (x:V) (v:Value) (Q:Bool->Hp->Prop),Inv X pins σ H s->RelV x v->r x H Q ->
  wpAny (model X.prog X.w) X.A (truthy v) (TP X pins σ Q) X.xe s
def tOp (r:R2) (ta tb:TE):TE:=fun σ H Q=>ta σ H fun x H1=>tb σ H1 fun y H2=>r x y H2 Q
def tUn (r:V->Hp->VK->Prop) (ta:TE):TE:=fun σ H Q=>ta σ H fun x H1=>r x H1 Q
def rI (C:Int->Int->Prop) (g:Int->Int->V):R2:=fun x y H Q=> ∃ i j,x= .int i/\y= .int j/\C i j/\Q (g i j) H
def rI0 (g:Int->Int->V):R2:=fun x y H Q=> ∃ i j,x= .int i/\y= .int j/\Q (g i j) H
def rU (g:Int->V):V->Hp->VK->Prop:=fun x H Q=> ∃ i,x= .int i/\Q (g i) H
section
variable {X:Cx} {a b c:Expr} {ta tb tc:TE} {pos:Pos}
theorem Qyf (ha:PE X a ta) (hb:PE X b tb) {pins:List (Addr×Obj)} {s:Shared} {σ:St} {H:Hp} {R:V->V->Hp->Prop} (I:Inv X pins σ H s)
  (h:ta σ H fun x H1=>tb σ H1 fun y H2=>R x y H2) {Q:Value->Shared->Prop} {f:Value->Value->Sem Value}
  (hf: ∀ v u s2 x y H2,Inv X pins σ H2 s2->RelV x v->RelV y u->R x y H2->wpAny (model X.prog X.w) X.A (f v u) Q X.xe s2) :
  wpAny (model X.prog X.w) X.A (eval a X.env) (fun v s₁=>wpAny (model X.prog X.w) X.A (eval b X.env) (fun u s₂=>wpAny (model X.prog X.w) X.A (f v u) Q X.xe s₂) X.xe s₁) X.xe s:=by
 refine thn (ha pins s σ H _ I h) fun v s1 ⟨x,H1,I1,r1,q1⟩=> ?_
 refine thn (hb pins s1 σ H1 _ I1 q1) fun u s2 ⟨y,H2,I2,r2,q2⟩=> ?_
 exact hf v u s2 x y H2 I2 r1 r2 q2
theorem Qv5 {op:Operator} {r:R2} (ho:OpR X (binaryOp op) r) (ha:PE X a ta) (hb:PE X b tb):PE X (.BinOp a op b pos) (tOp r ta tb):=by
 intro pins s σ H Q I h;exact wpAny_BinOp (Qyf ha hb I h fun v u s2 x y H2 I2 rx ry q=>ho pins s2 σ H2 x y v u Q I2 rx ry q)
theorem Qza {op:UnaryOp} {r:V->Hp->VK->Prop} (ho:UnR X (unaryOp op) r) (ha:PE X a ta):PE X (.UnaryOp op a pos) (tUn r ta):=by
 intro pins s σ H Q I h;exact UnaryOp_ (thn (ha pins s σ H _ I h) fun v s1 ⟨x,H1,I1,r1,q1⟩=>ho pins s1 σ H1 x v Q I1 r1 q1)
theorem opI {f:Value->Value->Sem Value} {C:Int->Int->Prop} {g:Int->Int->Int}
  (rule: ∀ (i j:Int) (t u:Tok) (s:Shared) (Q:Value->Shared->Prop) (E:Value->Shared->Prop),C i j->Q (.int (g i j) s.toks) { s with toks:=s.toks+1 }->wpAny (model X.prog X.w) X.A (f (.int i t) (.int j u)) Q E s) :
  OpR X f (rI C fun i j=> .int (g i j)):=by
 intro pins s σ H x y v u Q I rx ry h;obtain ⟨i,j,rfl,rfl,hc,q⟩:=h;obtain ⟨t,rfl⟩:=rx;obtain ⟨t',rfl⟩:=ry;exact rule i j t t' s _ _ hc ⟨.int (g i j),H,I.tok _,⟨_,rfl⟩,q⟩
theorem Qze {f:Value->Value->Sem Value} {g:Int->Int->Int}
  (rule: ∀ (i j:Int) (t u:Tok) (s:Shared) (Q:Value->Shared->Prop) (E:Value->Shared->Prop),Q (.int (g i j) s.toks) { s with toks:=s.toks+1 }->wpAny (model X.prog X.w) X.A (f (.int i t) (.int j u)) Q E s) :
  OpR X f (rI0 fun i j=> .int (g i j)):=by
 intro pins s σ H x y v u Q I rx ry h;obtain ⟨i,j,rfl,rfl,q⟩:=h;obtain ⟨t,rfl⟩:=rx;obtain ⟨t',rfl⟩:=ry;exact rule i j t t' s _ _ ⟨.int (g i j),H,I.tok _,⟨_,rfl⟩,q⟩
theorem Qx4 {f:Value->Value->Sem Value} {g:Int->Int->Bool}
  (rule: ∀ (i j:Int) (t u:Tok) (s:Shared) (Q:Value->Shared->Prop) (E:Value->Shared->Prop),Q (.bool (g i j)) s->wpAny (model X.prog X.w) X.A (f (.int i t) (.int j u)) Q E s) :
  OpR X f (rI0 fun i j=> .bl (g i j)):=by
 intro pins s σ H x y v u Q I rx ry h;obtain ⟨i,j,rfl,rfl,q⟩:=h;obtain ⟨t,rfl⟩:=rx;obtain ⟨t',rfl⟩:=ry;exact rule i j t t' s _ _ ⟨.bl (g i j),H,I,rfl,q⟩
def CDiv (i j:Int):Prop:=0 < j/\j < 1073741824
def CMul (i j:Int):Prop:=(-(2 ^ 64) < i/\i < 2 ^ 64) \/ (-(2 ^ 64) < j/\j < 2 ^ 64)
theorem CMul.ok {i j:Int} (h:CMul i j):IntMulOk i j:=by
 rcases h with ⟨h1,h2⟩ | ⟨h1,h2⟩
 ·exact .of_left (intBits_le_64 h1 h2)
 ·exact .of_right (intBits_le_64 h1 h2)
theorem Qx3:OpR X (binaryOp .Add) (rI0 fun i j=> .int (i+j)):=Qze fun _ _ _ _ _ _ _ q=>add_int q
theorem Qwx:OpR X (binaryOp .Sub) (rI0 fun i j=> .int (i - j)):=Qze fun _ _ _ _ _ _ _ q=>sub_int q
theorem Qwz:OpR X (binaryOp .Mult) (rI CMul fun i j=> .int (i * j)):=opI fun _ _ _ _ _ _ _ hc q=>mul_int q hc.ok
theorem Qt7:OpR X (binaryOp .FloorDiv) (rI CDiv fun i j=> .int (i / j)):=opI fun i j _ _ _ _ _ hc q=>by
 have h1:(0:Int) < j:=hc.1;have h2:j < 1073741824:=hc.2;exact floordiv_int (by omega) (by rw [Int.fdiv_eq_ediv_of_nonneg i (by omega)];exact q) (.inl (PyProof.noPylong_small (by omega)))
theorem Qx0:OpR X (binaryOp .Mod) (rI (fun _ j=>0 < j) fun i j=> .int (i % j)):=opI fun i j _ _ _ _ _ hc q=>by
 have h1:(0:Int) < j:=hc;exact mod_int' (by omega) (by rw [Int.fmod_eq_emod_of_nonneg i (by omega)];exact q)
theorem unI {f:Value->Sem Value} {g:Int->Int}
  (rule: ∀ (i:Int) (t:Tok) (s:Shared) (Q:Value->Shared->Prop) (E:Value->Shared->Prop),Q (.int (g i) s.toks) { s with toks:=s.toks+1 }->wpAny (model X.prog X.w) X.A (f (.int i t)) Q E s) :
  UnR X f (rU fun i=> .int (g i)):=by
 intro pins s σ H x v Q I rx h;obtain ⟨i,rfl,q⟩:=h;obtain ⟨t,rfl⟩:=rx;exact rule i t s _ _ ⟨.int (g i),H,I.tok _,⟨_,rfl⟩,q⟩
theorem Qw3:UnR X (unaryOp .USub) (rU fun i=> .int (-i)):=unI fun _ _ _ _ _ q=>neg_int q
end
def scal:V->V->Bool
 | .non,.non=>true | .non,.int _=>true | .int _,.non=>true | .non,.bl _=>true | .bl _,.non=>true | .non,.str _=>true | .str _,.non=>true
 | .int _,.int _=>true | .bl _,.bl _=>true | .str _,.str _=>true | .byt _,.byt _=>true
 | .int _,.str _=>true | .str _,.int _=>true | .bl _,.str _=>true | .str _,.bl _=>true
 | _,_=>false
def rEq:R2:=fun x y H Q=>scal x y=true/\Q (.bl (decide (x=y))) H
def rNe:R2:=fun x y H Q=>scal x y=true/\Q (.bl (!decide (x=y))) H
theorem Ql3 {i j:Int}:decide (V.int i=V.int j)=(i == j):=by
 rw [Jc]
 simp
theorem Qqv {i j:Bool}:decide (V.bl i=V.bl j)=(i == j):=by
 rw [Jc]
 simp
theorem Ql2 {i j:Str}:decide (V.str i=V.str j)=(i == j):=by
 rw [Jc]
 simp
theorem Ql4 {i j:Array UInt8}:decide (V.byt i=V.byt j)=(i.toList == j.toList):=by
 rw [Jc];cases i;cases j
 simp
section
variable {X:Cx} {a b c:Expr} {ta tb tc:TE} {pos:Pos}
theorem Ju {pins:List (Addr×Obj)} {σ:St} {H:Hp} {s:Shared} {Q:VK} {k k':Bool} (I:Inv X pins σ H s) (q:Q (.bl k) H) (e:k=k'):EP X pins σ Q (.bool k') s:=by
 subst e;exact ⟨.bl k,H,I,rfl,q⟩
theorem Qp7:OpR X (compareOp .Eq) rEq:=by
 intro pins s σ H x y v u Q I rx ry h;obtain ⟨hs,q⟩:=h;cases x with
 | non =>
  cases rx;cases y with
  | non=>cases ry;exact PySem.EqNone.eq_none_none (Ju I q (by simp))
  | bl j=>cases ry;exact PySem.EqNone.eq_none_bool (Ju I q (by simp))
  | int j=>obtain ⟨t',rfl⟩:=ry;exact PySem.EqNone.eq_none_int (Ju I q (by simp))
  | str j=>obtain ⟨t',rfl⟩:=ry;exact PySem.EqNone.eq_none_str (Ju I q (by simp))
  | _=>exact absurd (show false=true from hs) Qy
 | bl i =>
  cases rx;cases y with
  | non=>cases ry;exact PySem.EqNone.eq_bool_none (Ju I q (by simp))
  | bl j=>cases ry;exact eq_bool (Ju I q Qqv)
  | str j=>obtain ⟨t',rfl⟩:=ry;exact PySem.EqMixed.eq_bool_str (Ju I q (by simp))
  | _=>exact absurd (show false=true from hs) Qy
 | int i =>
  obtain ⟨t,rfl⟩:=rx;cases y with
  | non=>cases ry;exact PySem.EqNone.eq_int_none (Ju I q (by simp))
  | int j=>obtain ⟨t',rfl⟩:=ry;exact eq_int (Ju I q Ql3)
  | str j=>obtain ⟨t',rfl⟩:=ry;exact PySem.EqMixed.eq_int_str (Ju I q (by simp))
  | _=>exact absurd (show false=true from hs) Qy
 | str i =>
  obtain ⟨t,rfl⟩:=rx;cases y with
  | non=>cases ry;exact PySem.EqNone.eq_str_none (Ju I q (by simp))
  | bl j=>cases ry;exact PySem.EqMixed.eq_str_bool (Ju I q (by simp))
  | int j=>obtain ⟨t',rfl⟩:=ry;exact PySem.EqMixed.eq_str_int (Ju I q (by simp))
  | str j=>obtain ⟨t',rfl⟩:=ry;exact eq_str (Ju I q Ql2)
  | _=>exact absurd (show false=true from hs) Qy
 | byt i =>
  obtain ⟨t,rfl⟩:=rx;cases y with
  | byt j=>obtain ⟨t',rfl⟩:=ry;exact W.eq_bytes (Ju I q Ql4)
  | _=>exact absurd (show false=true from hs) Qy
 | _=>cases y<;>exact absurd (show false=true from hs) Qy
theorem Qkk:OpR X (compareOp .NotEq) rNe:=by
 intro pins s σ H x y v u Q I rx ry h;obtain ⟨hs,q⟩:=h;cases x with
 | non =>
  cases rx;cases y with
  | non=>cases ry;exact PySem.EqNone.ne_none_none (Ju I q (by simp))
  | bl j=>cases ry;exact PySem.EqNone.ne_none_bool (Ju I q (by simp))
  | int j=>obtain ⟨t',rfl⟩:=ry;exact PySem.EqNone.ne_none_int (Ju I q (by simp))
  | str j=>obtain ⟨t',rfl⟩:=ry;exact PySem.EqNone.ne_none_str (Ju I q (by simp))
  | _=>exact absurd (show false=true from hs) Qy
 | bl i =>
  cases rx;cases y with
  | non=>cases ry;exact PySem.EqNone.ne_bool_none (Ju I q (by simp))
  | bl j=>cases ry;exact ne_bool (Ju I q (JQ not Qqv))
  | str j=>obtain ⟨t',rfl⟩:=ry;exact PySem.EqMixed.ne_bool_str (Ju I q (by simp))
  | _=>exact absurd (show false=true from hs) Qy
 | int i =>
  obtain ⟨t,rfl⟩:=rx;cases y with
  | non=>cases ry;exact PySem.EqNone.ne_int_none (Ju I q (by simp))
  | int j=>obtain ⟨t',rfl⟩:=ry;exact ne_int (Ju I q (JQ not Ql3))
  | str j=>obtain ⟨t',rfl⟩:=ry;exact PySem.EqMixed.ne_int_str (Ju I q (by simp))
  | _=>exact absurd (show false=true from hs) Qy
 | str i =>
  obtain ⟨t,rfl⟩:=rx;cases y with
  | non=>cases ry;exact PySem.EqNone.ne_str_none (Ju I q (by simp))
  | bl j=>cases ry;exact PySem.EqMixed.ne_str_bool (Ju I q (by simp))
  | int j=>obtain ⟨t',rfl⟩:=ry;exact PySem.EqMixed.ne_str_int (Ju I q (by simp))
  | str j=>obtain ⟨t',rfl⟩:=ry;exact ne_str (Ju I q (JQ not Ql2))
  | _=>exact absurd (show false=true from hs) Qy
 | byt i =>
  obtain ⟨t,rfl⟩:=rx;cases y with
  | byt j=>obtain ⟨t',rfl⟩:=ry;exact W.ne_bytes (Ju I q (JQ not Ql4))
  | _=>exact absurd (show false=true from hs) Qy
 | _=>cases y<;>exact absurd (show false=true from hs) Qy
theorem Qv7:OpR X (compareOp .Lt) (rI0 fun i j=> .bl (decide (i < j))):=Qx4 fun _ _ _ _ _ _ _ q=>lt_int q
theorem Qzd:OpR X (compareOp .LtE) (rI0 fun i j=> .bl (decide (i<=j))):=Qx4 fun _ _ _ _ _ _ _ q=>le_int q
theorem Qv8:OpR X (compareOp .Gt) (rI0 fun i j=> .bl (decide (j < i))):=Qx4 fun _ _ _ _ _ _ _ q=>gt_int q
theorem Qma:OpR X (compareOp .In) (fun x y H Q=> ∃ i j,x= .str i/\y= .str j/\Q (.bl (!(Builtin.Str.occurrences j i 0 j.length 1).isEmpty)) H):=by
 intro pins s σ H x y v u Q I rx ry h;obtain ⟨i,j,rfl,rfl,q⟩:=h;obtain ⟨t,rfl⟩:=rx;obtain ⟨t',rfl⟩:=ry;exact in_str (Ju I q rfl)
theorem Qx1:OpR X (compareOp .Is) (fun x y H Q=>y= .non/\Q (.bl (decide (x= .non))) H):=by
 intro pins s σ H x y v u Q I rx ry h;obtain ⟨rfl,q⟩:=h;cases ry;refine is_none_gen (Ju I q ?_);cases x<;>first
  | (cases rx;rfl)
  | (obtain ⟨t,rfl⟩:=rx;rfl)
theorem Qt6:OpR X (compareOp .IsNot) (fun x y H Q=>y= .non/\Q (.bl (!decide (x= .non))) H):=by
 intro pins s σ H x y v u Q I rx ry h;obtain ⟨rfl,q⟩:=h;cases ry;refine isnot_none_gen (Ju I q ?_);cases x<;>first
  | (cases rx;rfl)
  | (obtain ⟨t,rfl⟩:=rx;rfl)
theorem nomark (b:Expr) {op:CmpOp} (h:op≠ .In:=by decide) (h2:op≠ .NotIn:=by decide):behindInMarks op b=false:=by
 have e1:(op == CmpOp.In)=false:=by cases op<;>first | rfl | exact absurd rfl h
 have e2:(op == CmpOp.NotIn)=false:=by cases op<;>first | rfl | exact absurd rfl h2
 cases b<;>simp [behindInMarks,e1,e2]
theorem Qt2 {op:CmpOp} {r:R2} (ho:OpR X (compareOp op) r) (ha:PE X a ta) (hb:PE X b tb) (hm:behindInMarks op b=false):PE X (.Compare a [op] [b] pos) (tOp r ta tb):=by
 intro pins s σ H Q I h;exact wpAny_Compare1 (Qyf ha hb I h fun v u s2 x y H2 I2 rx ry q=>ho pins s2 σ H2 x y v u Q I2 rx ry q) hm
def Qv1 (t:TE):TT:=fun σ H Q=>t σ H fun x H'=> ∃ k,x= .bl k/\Q k H'
theorem Qf3 {op:CmpOp} {r:R2} (ho:OpR X (compareOp op) r) (ha:PE X a ta) (hb:PE X b tb) (hm:behindInMarks op b=false):PT X (.Compare a [op] [b] pos) (Qv1 (tOp r ta tb)):=by
 intro pins s σ H Q I h;refine wpAny_isTrue_Compare1 (thn (ha pins s σ H _ I h) fun v s1 ⟨x,H1,I1,r1,q1⟩=>thn (hb pins s1 σ H1 _ I1 q1) fun u s2 ⟨y,H2,I2,r2,q2⟩ =>
  thn (ho pins s2 σ H2 x y v u _ I2 r1 r2 q2) fun c s3 ⟨z,H3,I3,r3,k,e,q3⟩=> ?_) hm
 subst e;cases r3;exact WF ⟨H3,I3,q3⟩
def Qw8 (r r':R2) (ta tb tc:TE):TE:=fun σ H Q=>ta σ H fun x H1=>tb σ H1 fun y H2=>r x y H2 fun z H3=> ∃ k,z= .bl k /\
 (if k=true then tc σ H3 fun w' H4=>r' y w' H4 Q else Q (.bl false) H3)
theorem Qos {op op':CmpOp} {r r':R2} (ho:OpR X (compareOp op) r) (ho':OpR X (compareOp op') r') (ha:PE X a ta) (hb:PE X b tb) (hc:PE X c tc)
  (hm:lastMarks [op,op'] [b,c]=false:=by with_unfolding_all rfl):PT X (.Compare a [op,op'] [b,c] pos) (Qv1 (Qw8 r r' ta tb tc)):=by
 intro pins s σ H Q I h;refine isTrue_chain (thn (ha pins s σ H _ I h) fun v s1 ⟨x,H1,I1,r1,q1⟩=>test_link (thn (hb pins s1 σ H1 _ I1 q1) fun u s2 ⟨y,H2,I2,r2,q2⟩ =>
  thn (ho pins s2 σ H2 x y v u _ I2 r1 r2 q2) fun d s3 ⟨z,H3,I3,r3,k,e,q3⟩=> ?_)) hm
 subst e;cases r3;refine WF ?_;cases k with
 | false =>
  obtain ⟨k',e',q'⟩:=q3;cases e';exact ite_ff ⟨H3,I3,q'⟩
 | true =>
  refine ite_tt (test_last (thn (hc pins s3 σ H3 _ I3 q3) fun w' s4 ⟨z',H4,I4,r4,q4⟩=>thn (ho' pins s4 σ H4 y z' u w' _ I4 r2 r4 q4) fun d' s5 ⟨z2,H5,I5,r5,k2,e2,q5⟩=> ?_));subst e2;cases r5;exact WF ⟨H5,I5,q5⟩
def TruV (K:W.Frag) (x:V) (H:Hp) (k:Bool):Prop :=
 match x with
 | .non=>k=false
 | .bl b=>k=b
 | .int i=>k=(i != 0)
 | .str y=>y.length<=sizeLine/\k=((y.length:Int) != 0)
 | .byt y=>y.size<=sizeLine/\k=((y.size:Int) != 0)
 | .ref p=>(∃ xs,SqL K H p xs/\k= !xs.isEmpty) \/ (∃ xs,SqT K H p xs/\k= !xs.isEmpty) \/ ∃ kvs,H p=some (.dK kvs)/\k= !kvs.isEmpty
 | _=>False
theorem Qj1 {κ:Type} {kvs:List (κ×V)} {vs:List (κ×Value)} (r:KV kvs vs):(!vs.isEmpty)= !kvs.isEmpty:=by
 cases r<;>rfl
theorem Qbn {xs:List V} {its:List Value} (r:Vals xs its):(!its.toArray.isEmpty)= !xs.isEmpty:=by
 cases r<;>simp
theorem line63:(sizeLine:Nat) < 2 ^ 63:=by rw [QP];decide
theorem Qw4:TruR X (fun x H Q=> ∃ k,TruV X.K x H k/\Q k H):=by
 intro pins s σ H x v Q I rx h;obtain ⟨k,e,q⟩:=h;have hl:=line63;have hs:sizeLine=16777216:=QP;cases x with
 | non =>
  cases rx;have e':k=false:=e;subst e';exact truthy_none ⟨H,I,q⟩
 | bl b =>
  cases rx;have e':k=b:=e;subst e';exact WF ⟨H,I,q⟩
 | int i =>
  obtain ⟨t,rfl⟩:=rx;have e':k=(i != 0):=e;subst e';exact PySem.P.truthy_int ⟨H,I,q⟩
 | str y =>
  obtain ⟨t,rfl⟩:=rx;obtain ⟨hy,e'⟩:y.length<=sizeLine/\k=((y.length:Int) != 0):=e;subst e';exact PySem.P.truthy_str (by omega) ⟨H,I.tok _,q⟩
 | byt y =>
  obtain ⟨t,rfl⟩:=rx;obtain ⟨hy,e'⟩:y.size<=sizeLine/\k=((y.size:Int) != 0):=e;subst e';exact W.truthy_bytes (by omega) ⟨H,I.tok _,q⟩
 | ref p =>
  cases rx;have e':(∃ xs,SqL X.K H p xs/\k= !xs.isEmpty) \/ (∃ xs,SqT X.K H p xs/\k= !xs.isEmpty) \/ ∃ kvs,H p=some (.dK kvs)/\k= !kvs.isEmpty:=e;rcases e' with ⟨xs,hx,e'⟩ | ⟨xs,hx,e'⟩ | ⟨kvs,hx,e'⟩
  ·subst e';obtain ⟨its,r,pl,hz⟩:=I.list hx;have hlen:=r.length;exact wpAny_truthy_list pl.isList (by simp only [Qh];omega) ⟨H,I.tok _,by rw [Qbn r];exact q⟩
  ·subst e';obtain ⟨its,r,pl,hz⟩:=I.tuple hx;have hlen:=r.length;exact truthy_tuple pl (by simp only [Qh];omega) ⟨H,I.tok _,by rw [Qbn r];exact q⟩
  ·subst e';obtain ⟨hz,hS,vs,r,m⟩:kvs.length<=sizeLine/\(p == sysModules)=false/\ ∃ vs,KV kvs vs/\s.heap.DictOf (Jj X.prog X.w) p vs:=I.hok p _ hx;have hlen:kvs.length=vs.length:=Qru r;exact wpAny_truthy_dict hS m (by omega) ⟨H,I.tok _,by rw [Qj1 r];exact q⟩
 | _=>exact (show False from e).elim
theorem Qgf (ha:PE X a ta) (he: ∀ whole,isTrue a X.env whole=(do let v<-whole;standAt a.pos;holding [v] (truthy v))) :
  PT X a (fun σ H Q=>ta σ H fun x H'=> ∃ k,TruV X.K x H' k/\Q k H'):=by
 intro pins s σ H Q I h;exact isTrue_plain (thn (ha pins s σ H _ I h) fun v s1 ⟨x,H1,I1,r1,q1⟩=>Qw4 pins s1 σ H1 x v Q I1 r1 q1) (he _)
theorem Qiv:OpR X (binaryOp .Add) (fun x y H Q=> ∃ i j,x= .str i/\y= .str j/\i.length+j.length<=sizeLine/\Q (.str (i++j)) H):=by
 intro pins s σ H x y v u Q I rx ry h;obtain ⟨i,j,rfl,rfl,hz,q⟩:=h;obtain ⟨t,rfl⟩:=rx;obtain ⟨t',rfl⟩:=ry;exact add_str (fun t' tk=>⟨.str (i++j),H,I.tok _,⟨_,rfl⟩,q⟩) hz
theorem vals1 {x:V} {us:List Value} (r:Vals [x] us): ∃ u,us=[u]/\RelV x u:=by
 cases r with
 | cons r1 r2=>cases r2;exact ⟨_,rfl,r1⟩
theorem Qna:CallR X (.type "int") (fun xs H Q=>(∃ i,xs=[.int i]/\Q (.int i) H) \/ ∃ k,xs=[.bl k]/\Q (.int (if k then 1 else 0)) H):=by
 intro pins s σ H xs us Q I r h;rcases h with ⟨i,rfl,q⟩ | ⟨k,rfl,q⟩
 ·obtain ⟨u,rfl,t,rfl⟩:=vals1 r;exact call_int_int ⟨.int i,H,I,⟨_,rfl⟩,q⟩
 ·obtain ⟨u,rfl,r1⟩:=vals1 r;cases r1;exact call_int_bool ⟨.int (if k then 1 else 0),H,I.tok _,⟨_,rfl⟩,q⟩
def LenV (K:W.Frag) (x:V) (H:Hp) (n:Nat):Prop :=
 match x with
 | .str y=>y.length<=sizeLine/\n=y.length
 | .byt y=>y.size<=sizeLine/\n=y.size
 | .ref p=>(∃ xs,SqL K H p xs/\n=xs.length) \/ ∃ xs,SqT K H p xs/\n=xs.length
 | _=>False
theorem Qr9:CallR X (.builtin "len") (fun xs H Q=> ∃ x n,xs=[x]/\LenV X.K x H n/\Q (.int n) H):=by
 intro pins s σ H xs us Q I r h;obtain ⟨x,n,rfl,e,q⟩:=h;obtain ⟨u,rfl,rx⟩:=vals1 r;have hl:=line63;have hs:sizeLine=16777216:=QP;cases x with
 | str y =>
  obtain ⟨t,rfl⟩:=rx;obtain ⟨hy,e'⟩:y.length<=sizeLine/\n=y.length:=e;subst e';exact len_str (by omega) ⟨.int _,H,I.tok _,⟨_,rfl⟩,q⟩
 | byt y =>
  obtain ⟨t,rfl⟩:=rx;obtain ⟨hy,e'⟩:y.size<=sizeLine/\n=y.size:=e;subst e';exact W.len_bytes (by omega) ⟨.int _,H,I.tok _,⟨_,rfl⟩,q⟩
 | ref p =>
  cases rx;have e':(∃ xs,SqL X.K H p xs/\n=xs.length) \/ ∃ xs,SqT X.K H p xs/\n=xs.length:=e;rcases e' with ⟨xs,hx,e'⟩ | ⟨xs,hx,e'⟩
  ·subst e';obtain ⟨its,r',pl,hz⟩:=I.list hx;have hlen:=r'.length;exact Calls.call_len_list pl.isList (by simp only [Qh];omega) ⟨.int xs.length,H,I.tok _,⟨_,by simp only [Qh];rw [hlen]⟩,q⟩
  ·subst e';obtain ⟨its,r',pl,hz⟩:=I.tuple hx;have hlen:=r'.length;exact len_tuple pl (by simp only [Qh];omega) ⟨.int xs.length,H,I.tok _,⟨_,by simp only [Qh];rw [hlen]⟩,q⟩
 | _=>exact (show False from e).elim
end
theorem RelO.some_of {v:V} {o:Option Value} (r:RelO (some v) o): ∃ u,o=some u/\RelV v u:=by
 cases o with
 | none=>exact (show False from r).elim
 | some u=>exact ⟨u,rfl,r⟩
structure Room (k:Nat) (A:Around):Prop where
 hd:A.handled=none
 dp:A.depth+3 * k+5 < recursionLimit
 un:A.units+16 * k+200 < cLine
theorem Room.mono {j k:Nat} {A:Around} (r:Room k A) (h:j<=k):Room j A:=⟨r.hd,by have:=r.dp;omega,by have:=r.un;omega⟩
theorem Room.deeper {k:Nat} {A:Around} (r:Room (k+1) A) (env:Env):Room k (A.deeper env) :=
 ⟨r.hd,by have:=r.dp;show A.depth+1+3 * k+5 < _;omega,by have:=r.un;show A.units+3+16 * k+200 < _;omega⟩
theorem Room.depth {k:Nat} {A:Around} (r:Room k A):A.depth < recursionLimit:=by have:=r.dp;omega
theorem Room.units {k:Nat} {A:Around} (r:Room k A):A.units+64 < cLine:=by have:=r.un;omega
def Qw6:TA:=fun _ H Q=>Q [] H
def Qo1 (ta:TE) (tr:TA):TA:=fun σ H Q=>ta σ H fun x H1=>tr σ H1 fun xs H2=>Q (x::xs) H2
section
variable {X:Cx} {e:Expr} {es:List Expr} {te:TE} {t:TA} {pos:Pos}
theorem BT:PA X [] Qw6:=fun _ _ _ _ H Q I h=>Qw2 ⟨[],H,I,.nil,h⟩
theorem UC (ha:PE X e te) (hr:PA X es t) (hs:starEach (e::es) X.env=(false,eval e X.env)::starEach es X.env:=by rfl):PA X (e::es) (Qo1 te t):=by
 intro pos pins s σ H Q I h;rw [hs];show wpAny _ _ (spliced ((false,eval e X.env)::backTo pos (starEach es X.env))) _ _ s;refine OQ (thn (ha pins s σ H _ I h) fun u s1 ⟨x,H1,I1,r1,q1⟩=> ?_);exact thn (hr pos pins s1 σ H1 _ I1 q1) fun us s2 ⟨xs,H2,I2,r2,q2⟩=>⟨x::xs,H2,I2,.cons r1 r2,q2⟩
def Jac (t:TA):TE:=fun σ H Q=>t σ H fun xs H1=>xs.length<=sizeLine/\ ∀ p,H1 p=none->Q (.ref p) (upd H1 p (.tup xs))
def Jag (t:TA):TE:=fun σ H Q=>t σ H fun xs H1=>xs.length<=sizeLine/\ ∀ p,H1 p=none->Q (.ref p) (upd H1 p (.lst xs))
theorem Qwt {x1} (h:PA X es t):PE X (.Tuple es x1 pos) (Jac t):=by
 intro pins s σ H Q I hq;refine wpAny_Tuple_spliced (thn (h pos pins s σ H _ I hq) fun us s1 ⟨xs,H1,I1,r,z,q⟩=>⟨by rw [<- r.length];exact z,?_⟩);have hf:H1 s1.heap.objs.size=none:=I1.hok.fresh (Q6 _);refine ⟨.ref s1.heap.objs.size,upd H1 s1.heap.objs.size (.tup xs),I1.laid (t':=s1.toks) (fun b u e=>Q2 _ e) (Q6 _) ?_,rfl,q _ hf⟩;exact ⟨z,us,r,⟨_,Qg _ rfl,rfl,_,rfl⟩⟩
theorem Qwv (h:PA X es t):PE X (.List es pos) (Jag t):=by
 intro pins s σ H Q I hq;refine wpAny_List_spliced (thn (h pos pins s σ H _ I hq) fun us s1 ⟨xs,H1,I1,r,z,q⟩=>⟨by rw [<- r.length];exact z,?_⟩);have hf:H1 s1.heap.objs.size=none:=I1.hok.fresh (Q6 _);refine ⟨.ref s1.heap.objs.size,upd H1 s1.heap.objs.size (.lst xs),I1.laid (t':=s1.toks) (fun b u e=>Q2 _ e) (Q6 _) ?_,rfl,q _ hf⟩;exact ⟨z,us,0,r,Qg _ rfl⟩
end
abbrev Sp:=List V->Hp->VK->XK->Prop
abbrev CXT:=List Env->Hp->Shared->XK->Value->Shared->Prop
structure Env0 (P:Program) (w:World) (K:W.Frag) (mg:Str->Option Value) (base:Heap) (A:Around) (outer:List Env) (s:Shared) (H:Hp):Prop where
 frames:A.frames=some outer
 mod:Mod K mg base
 bs: ∀ b o,base.get? b=some o->s.heap.get? b=some o/\H b=none
 bsz:base.objs.size<=s.heap.objs.size
 funs:s.heap.FunFrames base outer
 frf: ∀ b∈frs outer,H b=none
 hok:HOk P w H s.heap
 bare:AllBare s.gens
def CE (outer:List Env) (P:Program) (w:World) (H:Hp) (s:Shared) (Q:VK) (u:Value) (s':Shared):Prop :=
 ∃ v H',s'.os=s.os/\AllBare s'.gens/\Un (frs outer) [] H H' s.heap s'.heap/\HOk P w H' s'.heap/\RelV v u/\Q v H'
def CR (CX:CXT) (outer:List Env) (P:Program) (w:World) (H:Hp) (s:Shared) (Q:VK) (E:XK) (r:Result) (s':Shared):Prop :=
 match r with
 | .ok (.ret u)=>CE outer P w H s Q u s'
 | .ok _=>False
 | .error e=>CX outer H s E e s'
structure FnOk (P:Program) (w:World) (K:W.Frag) (mg:Str->Option Value) (base:Heap) (CX:CXT) (k:Nat) (f:Addr) (fd:FuncData) (ps:List Str) (sp:Sp):Prop where
 len: ∀ vs H Q E,sp vs H Q E->vs.length=ps.length
 run: ∀ (A:Around) (outer:List Env) (s:Shared) (H:Hp) (args:Args) (us:List Value) (vs:List V) (Q:VK) (E:XK),Room k A->Env0 P w K mg base A outer s H->BindsTo s fd args (ps.zip us)->Vals vs us->sp vs H Q E ->
  codeAny (model P w) A (.call (.ref f) args) (CR CX outer P w H s Q E) s
section
variable {X:Cx} {pins:List (Addr×Obj)} {σ:St} {H:Hp} {s s':Shared}
theorem Inv.env0 (I:Inv X pins σ H s):Env0 X.prog X.w X.K X.mg X.base X.A X.stack s H :=
 ⟨I.ok.frames,I.ok.mod,I.bs,Qz I.ok.bsz I.sz,I.stack,I.stkFree,I.hok,I.bare⟩
theorem Inv.after {Q:VK} {u:Value} (I:Inv X pins σ H s) (h:CE X.stack X.prog X.w H s Q u s'):EP X pins σ Q u s':=by
 obtain ⟨v,H',os,bare,un,hok,r,q⟩:=h;obtain ⟨hh,g,d,t,os'⟩:=s';obtain rfl:os'=s.os:=os;exact ⟨v,H',I.call (h':=hh) (g':=g) (d':=d) (t':=t) (ch:=[]) un hok bare (fun b z=>absurd z (by simp)),r,q⟩
end
def Qyv (sp:Sp) (dvs:List V) (E:XK) (t:TA):TE:=fun σ H Q=>t σ H fun vs H1=>sp (vs++dvs) H1 Q E
def Binds (K:W.Frag) (fd:FuncData) (ps:List Str) (ds:List Value):Prop :=
 ∀ (s:Shared) (us:List Value),K.In s.heap->(us++ds).length=ps.length->BindsTo s fd ⟨us,[]⟩ (ps.zip (us++ds))
theorem Binds.all {K:W.Frag} {fd:FuncData} {ps:List Str} (h: ∀ us:List Value,us.length=ps.length->bindArgs fd ⟨us,[]⟩=pure (ps.zip us)):Binds K fd ps []:=fun s us _ hl=>by
 rw [JM] at hl ⊢;exact .of_eq (h us hl)
def Passes (CX:CXT) (X:Cx) (E:XK):Prop:= ∀ (pins:List (Addr×Obj)) (σ:St) (H:Hp) (s:Shared) (e:Value) (s':Shared),Inv X pins σ H s->CX X.stack H s E e s'->X.xe e s'
section
variable {X:Cx} {CX:CXT} {k:Nat} {f C:Addr} {fd:FuncData} {ps:List Str} {sp:Sp} {dvs:List V} {ds:List Value} {E:XK} {x m:Str} {p pos apos:Pos} {e o:Expr} {es:List Expr} {ta:TE} {t:TA}
theorem Qwm {pins:List (Addr×Obj)} {σ:St} {H:Hp} {s:Shared} {Q:VK} {us:List Value} {vs:List V} (F:FnOk X.prog X.w X.K X.mg X.base CX k f fd ps sp) (hr:Room k X.A) (hb:Binds X.K fd ps ds) (hd:Vals dvs ds) (hx:Passes CX X E)
  (I:Inv X pins σ H s) (r:Vals vs us) (h:sp (vs++dvs) H Q E):wpAny (model X.prog X.w) X.A (call (.ref f) us) (EP X pins σ Q) X.xe s:=by
 have r2:Vals (vs++dvs) (us++ds):=r.append hd;have hl:(us++ds).length=ps.length:=by rw [<- r2.length];exact F.len _ _ _ _ h
 refine wpAny_call (Qvx (F.run X.A X.stack s H ⟨us,[]⟩ (us++ds) (vs++dvs) Q E hr I.env0 (hb s us I.kIn hl) r2 h) fun r s' hq=> ?_);cases r with
 | error e=>exact hx pins σ H s e s' I hq
 | ok fl =>
  cases fl with
  | ret u=>exact I.after hq
  | next=>exact False.elim hq
  | brk=>exact False.elim hq
  | cont=>exact False.elim hq
theorem Qki (F:FnOk X.prog X.w X.K X.mg X.base CX k f fd ps sp) (hr:Room k X.A) (hg:Gl X x) (hm:X.mg x=some (.ref f)) (hk:W.keepIn X.K (.ref f)=true) (hb:Binds X.K fd ps ds) (hd:Vals dvs ds) (hx:Passes CX X E)
  (ha:PA X (e::es) t) (hdb:(x == ("__debug__" :Str))=false:=by decide) (he:starEach (e::es) X.env=(false,eval e X.env)::starEach es X.env:=by rfl) (hpl:(backTo pos (starEach es X.env)).any (·.1)=false:=by rfl) :
  PE X (.Call (.Name x p) (e::es) [] pos) (Qyv sp dvs E t):=by
 intro pins s σ H Q I h;refine OH (GK I hg hm ?_ hdb);refine W.callWith_K (h₀:=X.base) I.ok.mod.kin hk (thn (ha pos pins s σ H _ I h) fun us s1 ⟨vs,H1,I1,r,q⟩=>⟨I1.kIn,?_⟩) he hpl;exact Qwm F hr hb hd hx I1 r q
end
structure Vf (N P:List Str) (sc:Scope):Prop where
 kind:sc.kind= .function
 co:sc.isCoroutine=false
 gen:sc.isGenerator=false
 nd:N.Nodup
 pre:N.take P.length=P
 par: ∀ x∈P,sc.names.lookup x=some .local \/ sc.names.lookup x=some .cell
 nofree: ∀ y∈sc.names,y.2≠ .free
theorem Qe3 {kindOf:Str->Option NameKind} {x:Str}: ∀ {binds:List (Str×Value)} {m:Str->Option Value},(∀ v,(x,v) ∉ binds)->bindL kindOf binds m x=m x
 | [],_,_=>rfl
 | (n,v)::r,m,h=>by
  unfold bindL;rw [Qe3 fun w hw=>h w (Q9 _ hw)];split
  ·have:x≠n:=by rintro rfl;exact h v Q7
   simp [this]
  ·rfl
theorem Qe5 {kindOf:Str->Option NameKind} {x:Str}: ∀ {binds:List (Str×Value)} {m:Str->Option Value},(∀ v,(x,v) ∉ binds)->bindC kindOf binds m x=m x
 | [],_,_=>rfl
 | (n,v)::r,m,h=>by
  unfold bindC;rw [Qe5 fun w hw=>h w (Q9 _ hw)];split
  ·rfl
  ·have:x≠n:=by rintro rfl;exact h v Q7
   simp [this]
theorem Qe4 {kindOf:Str->Option NameKind} {x:Str} {v:Value}: ∀ {P:List Str} {vs:List Value} {i:Nat} {m:Str->Option Value},P.Nodup->P[i]? =some x->vs[i]? =some v->kindOf x=some .local ->
  bindL kindOf (P.zip vs) m x=some v
 | [],_,_,_,_,h,_,_=>by simp at h
 | _::_,[],_,_,_,_,h,_=>by simp at h
 | p::P,w::vs,0,m,nd,h1,h2,hk=>by
  simp at h1 h2;subst h1;subst h2;show bindL kindOf ((p,w)::P.zip vs) m p=_;unfold bindL;rw [Qe3 fun v hv=>(WR.mp nd).1 (Jb hv).1,Qk hk]
  simp
 | p::P,w::vs,i+1,m,nd,h1,h2,hk=>by
  show bindL kindOf ((p,w)::P.zip vs) m x=_;unfold bindL;exact Qe4 (i:=i) (WR.mp nd).2 (by simpa using h1) (by simpa using h2) hk
theorem Qe6 {kindOf:Str->Option NameKind} {x:Str} {v:Value}: ∀ {P:List Str} {vs:List Value} {i:Nat} {m:Str->Option Value},P.Nodup->P[i]? =some x->vs[i]? =some v->kindOf x≠some .local ->
  bindC kindOf (P.zip vs) m x=some v
 | [],_,_,_,_,h,_,_=>by simp at h
 | _::_,[],_,_,_,_,h,_=>by simp at h
 | p::P,w::vs,0,m,nd,h1,h2,hk=>by
  simp at h1 h2;subst h1;subst h2;show bindC kindOf ((p,w)::P.zip vs) m p=_;unfold bindC;rw [Qe5 fun v hv=>(WR.mp nd).1 (Jb hv).1,Qn hk]
  simp
 | p::P,w::vs,i+1,m,nd,h1,h2,hk=>by
  show bindC kindOf ((p,w)::P.zip vs) m x=_;unfold bindC;exact Qe6 (i:=i) (WR.mp nd).2 (by simpa using h1) (by simpa using h2) hk
def start (N:List Str) (vs:List V):St:=vs.map some++List.replicate (N.length - vs.length) none
def Ug (CX:CXT) (P:Program) (w:World) (K:W.Frag) (mg:Str->Option Value) (base:Heap) (N:List Str) (qual:Str) (scope:Scope) (f:Addr) (cd:Value) (A:Around) (outer:List Env) (s:Shared) (H:Hp) (E:XK):Cx where
 prog:=P
 w:=w
 K:=K
 mg:=mg
 base:=base
 A:=A.deeper (envOfC qual scope s.heap.objs.size f cd)
 N:=N
 s₀:=s
 H₀:=H
 env:=envOfC qual scope s.heap.objs.size f cd
 outer:=outer
 stack:=envOfC qual scope s.heap.objs.size f cd::outer
 ex:=[]
 calm:=true
 fn:=fun _=>true
 pn:=[]
 xe:=fun e s'=>wpAny (model P w) (A.deeper (envOfC qual scope s.heap.objs.size f cd)) (leaving (envOfC qual scope s.heap.objs.size f cd) e) (fun _ s''=>CX outer H s E e s'') (fun e' s''=>CX outer H s E e' s'') s'
theorem Qhl {sc:Scope} {n:Nat} {x:Str} (h:sc.names.lookup x=some .cell): ∃ c,(cellsFrom n sc.names []).lookup x=some c:=by
 have q:=W.cellsFrom_some sc.names n [] (.inl h);exact Option.isSome_iff_exists.mp q
theorem Qmz {CX:CXT} {P:Program} {w:World} {K:W.Frag} {mg:Str->Option Value} {base:Heap} {N ps:List Str} {qual:Str} {scope:Scope} {f:Addr} {cd:Value} {A:Around} {outer:List Env} {s s1:Shared} {H:Hp} {E:XK} {us:List Value} {vs:List V}
  (S:Vf N ps scope) (hd:A.handled=none) (e0:Env0 P w K mg base A outer s H) (hl:vs.length=ps.length) (r:Vals vs us)
  (x:InCallC s s.heap.objs.size (bindL (envOfC qual scope s.heap.objs.size f cd).kindOf (ps.zip us) fun _=>none) (cellsFrom (s.heap.objs.size+1) scope.names []) (bindC (envOfC qual scope s.heap.objs.size f cd).kindOf (ps.zip us) fun _=>none) s1) :
  Inv (Ug CX P w K mg base N qual scope f cd A outer s H E) [] (start N vs) H s1:=by
 have hpl:ps.length<=N.length:=by have:=JQ List.length S.pre;rw [Qj] at this;omega
 obtain ⟨h1,tk,rfl,hk⟩:=x.done;have noA: ∀ b:Addr,b ∉ (Ug CX P w K mg base N qual scope f cd A outer s H E).ex:=fun b z=>absurd (show b∈([]:List Addr) from z) (by simp)
 refine ⟨⟨e0.mod,S.kind,rfl,rfl,Q6 _,fun y z c h1 h2=> ?_,fun y hy=> ?_,fun y c _ h=> ?_,fun _=>hd,Around.frames_deeper e0.frames,.inr ⟨rfl,rfl⟩,fun b z=>absurd z (noA b),e0.bs,e0.bsz,fun b _ _=>noA b,fun b z=>absurd z (noA b),e0.funs,e0.frf⟩,
  rfl,e0.bare,Un.kept hk,⟨_,x.toInCall.ns,fun i y v h1 h2 h3=> ?_⟩,fun y c h=>⟨_,x.cell y c h⟩,e0.hok.fresh (Q6 _),fun y c h=> ?_,fun p hp=>absurd (show p∈([]:List (Addr×Obj)) from hp) (by simp),e0.hok.kept hk,?_⟩
 ·exact name_of_addr x.apart (Wt h1) (Wt h2)
 ·have hy:scope.names.lookup y=some .cell \/ scope.names.lookup y=some .free:=hy;rcases hy with hy | hy
  ·exact Qhl hy
  ·exact absurd rfl (S.nofree _ (Wt hy))
 ·exact Qlk (x.above y c (Wt h))
 ·have hi:i < vs.length:=by
   unfold start at h2
   by_cases hi:i < vs.length
   ·exact hi
   ·rw [JB (by simpa using hi)] at h2;rw [Yy] at h2;split at h2<;>cases h2
  have ha:vs[i]? =some v:=by
   unfold start at h2;rw [Jp (by simpa using hi),Q8] at h2;cases e:vs[i]? with
   | none=>rw [e] at h2;cases h2
   | some a=>rw [e] at h2;cases h2;rfl
  obtain ⟨u,hu,rv⟩:=r.get ha;have hp:ps[i]? =some y:=by
   rw [<- S.pre,List.getElem?_take_of_lt (by omega)];exact h1
  have ndP:ps.Nodup:=by rw [<- S.pre];exact S.nd.sublist (List.take_sublist _ _)
  refine ⟨u,rv,?_⟩;rcases S.par y (Q4 hp) with k | k
  ·exact .inl ⟨k,Qe4 ndP hp hu k⟩
  ·obtain ⟨c,e⟩:=Qhl (n:=s.heap.objs.size+1) k;refine .inr ⟨.inl k,c,e,?_⟩;have q:=x.cell y c e;rw [Qe6 ndP hp hu (by show scope.names.lookup y≠_;rw [k];decide)] at q;exact q
 ·exact e0.hok.fresh (Qlk (x.above y c (Wt h)))
 ·unfold start;show _=N.length;rw [Ql,Q0,List.length_replicate];omega
theorem Qvl {CX:CXT} {P:Program} {w:World} {K:W.Frag} {mg:Str->Option Value} {base:Heap} {k:Nat} {f:Addr} {name qual:Str} {params:Arguments} {body:List Stmt} {scope:Scope} {dV kV doc pm cdv ct oc:Value} {an od:Option Addr}
  {osl:Array (Option Value)} {N ps:List Str} {sp:Sp} (lk:K.lookup f=some ⟨oc,od,.func (W.fnOf name qual params body scope dV kV doc pm an cdv ct),osl⟩) (hcd:W.codeIn K cdv qual=true) (S:Vf N ps scope)
  (len: ∀ vs H Q E,sp vs H Q E->vs.length=ps.length)
  (hbody: ∀ (A:Around) (outer:List Env) (s:Shared) (H:Hp) (vs:List V) (Q:VK) (E:XK),Room k (A.deeper (envOfC qual scope s.heap.objs.size f cdv))->sp vs H Q E ->
   ∃ t,PSs (Ug CX P w K mg base N qual scope f cdv A outer s H E) body t/\t { nx:=fun _ H'=>Q .non H',rt:=Q } (start N vs) H) :
  FnOk P w K mg base CX (k+1) f (W.fnOf name qual params body scope dV kV doc pm an cdv ct) ps sp:=by
 refine ⟨len,fun A outer s H args us vs Q E hr e0 hb r hsp=> ?_⟩;have hl:=len _ _ _ _ hsp;have KX:K.In s.heap:=e0.mod.kin.keeps fun b o e=>(e0.bs b o e).1
 have lim:s.heap.NoLimit:=e0.mod.nolimit.keeps fun b o e=>(e0.bs b o e).1
 have hkind: ∀ y∈ps.zip us,scope.names.lookup y.1=some .local \/ (scope.names.lookup y.1=some .cell/\((cellsFrom (s.heap.objs.size+1) scope.names []).lookup y.1).isSome=true):=fun ⟨n,v⟩ hy=>by
  rcases S.par n (Jb hy).1 with q | q
  ·exact .inl q
  ·exact .inr ⟨q,W.cellsFrom_some _ _ _ (.inl q)⟩
 refine codeAny_call_function hr.depth (KX _ _ lk) rfl S.co S.gen rfl (W.codeRec_of KX hcd) (hb _ _ _ _ ?_);refine wpAny_newFunctionEnv_cells S.kind hkind fun env he s1 x=> ?_
 subst he;refine ⟨lim.keeps x.toInCall.keep,codeAny_func ?_⟩;obtain ⟨t,ht,hq⟩:=hbody A outer s H vs Q E (hr.deeper _) hsp;have I:Inv (Ug CX P w K mg base N qual scope f cdv A outer s H E) [] (start N vs) H s1:=Qmz S hr.hd e0 hl r x;refine Jo (ht [] s1 (start N vs) H _ I hq) (fun fl s' hs=> ?_) fun e s' hs=>hs
 have fin: ∀ {σ':St} {H':Hp} {v:V} {u:Value},Inv (Ug CX P w K mg base N qual scope f cdv A outer s H E) [] σ' H' s'->RelV v u->Q v H'->CE outer P w H s Q u s' :=
  fun {σ' H' v u} J rv q=>⟨v,H',J.os,J.bare,J.base,J.hok,rv,q⟩
 cases fl with
 | ret u =>
  obtain ⟨v,σ',H',J,rv,q⟩:=hs;exact fin J rv q
 | next =>
  obtain ⟨σ',H',J,q⟩:=hs;exact fin (v:=V.non) (u:=Value.none) J rfl q
 | brk =>
  obtain ⟨_,_,_,q⟩:=hs;exact False.elim q
 | cont =>
  obtain ⟨_,_,_,q⟩:=hs;exact False.elim q
section
variable {X:Cx} {x:Str} {p pos:Pos} {e:Expr} {es:List Expr} {t:TA} {id T:String} {r:List V->Hp->VK->Prop}
def tCB (r:List V->Hp->VK->Prop) (t:TA):TE:=fun σ H Q=>t σ H fun vs H1=>r vs H1 Q
theorem Qb8 (hc:CallR X (.builtin id) r) (hg:Gl X x) (hm:X.mg x=none) (hv:bootBuiltins x=some (.builtin id)) (ha:PA X (e::es) t) (hn:x≠ "__name__" :=by decide) (hdb:(x == ("__debug__" :Str))=false:=by decide)
  (he:starEach (e::es) X.env=(false,eval e X.env)::starEach es X.env:=by rfl) (hpl:(backTo pos (starEach es X.env)).any (·.1)=false:=by rfl):PE X (.Call (.Name x p) (e::es) [] pos) (tCB r t):=by
 intro pins s σ H Q I h;refine OH (Bd I hg hm hv ?_ hn hdb);exact PyProof.Rows.callWith_builtin1 (thn (ha pos pins s σ H _ I h) fun us s1 ⟨vs,H1,I1,r1,q1⟩=>hc pins s1 σ H1 vs us Q I1 r1 q1) he hpl
theorem U8 (hc:CallR X (.type T) r) (hg:Gl X x) (hm:X.mg x=none) (hv:bootBuiltins x=some (.type T)) (ha:PA X (e::es) t) (hn:x≠ "__name__" :=by decide) (hdb:(x == ("__debug__" :Str))=false:=by decide)
  (he:starEach (e::es) X.env=(false,eval e X.env)::starEach es X.env:=by rfl) (hpl:(backTo pos (starEach es X.env)).any (·.1)=false:=by rfl):PE X (.Call (.Name x p) (e::es) [] pos) (tCB r t):=by
 intro pins s σ H Q I h;refine OH (Bd I hg hm hv ?_ hn hdb);exact Ww (thn (ha pos pins s σ H _ I h) fun us s1 ⟨vs,H1,I1,r1,q1⟩=>hc pins s1 σ H1 vs us Q I1 r1 q1) he hpl
end
end L2
namespace HT
open PySem PyProof.Rows
section
variable {prog:Program} {w:World} {A:Around} {E:Value->Shared->Prop} {s:Shared}
theorem Qus {t b:Addr} {vs ws:List Value} {Q:Value->Shared->Prop} (ht:IsTup s.heap t vs.toArray) (hb:IsTup s.heap b ws.toArray) (hv:vs≠[])
  (h1:ws=[]->Q (.ref t) s) (h2:ws≠[]->Q (.ref s.heap.objs.size) { s with heap:=s.heap.push { cls:= .type "tuple",data:= .seq (vs++ws).toArray } })
  (hsz:vs.length+ws.length<=sizeLine):wpAny (model prog w) A (binaryOp .Add (.ref t) (.ref b)) Q E s:=by
 obtain ⟨⟨cls,dd,data,sl⟩,ho,hc,n,hd⟩:=id ht;obtain ⟨⟨cls2,dd2,data2,sl2⟩,ho2,hc2,n2,hd2⟩:=id hb;simp only at hc hd hc2 hd2;subst hc hd hc2 hd2;have e:vs.toArray++ws.toArray=(vs++ws).toArray:=by simp
 by_cases hw:ws=[]
 ·exact Qvw ⟨_,ho,rfl⟩ ⟨_,ho2,rfl⟩ noFill_tuple_add seq_tuple_add Qak OJ (BM _ _)
   (tuple_addW1 t b vs.toArray ws.toArray n n2 dd dd2 sl sl2 (by simpa using hv) (by simp [hw])) ⟨ho,ho2,h1 hw⟩
 ·refine Qvw ⟨_,ho,rfl⟩ ⟨_,ho2,rfl⟩ noFill_tuple_add seq_tuple_add Qak OJ (BM _ _)
   (tuple_addW2 t b vs.toArray ws.toArray n n2 dd dd2 sl sl2 (by simpa using hv) (by simpa using hw) (by rw [Qh,Qh];exact hsz)) ⟨ho,ho2,?_⟩
  rw [e];exact h2 hw
def sIx (n d:Nat):Option Int->Nat
 | none=>d
 | some v=>if v < 0 then (v+(n:Int)).toNat else min v.toNat n
theorem GC (n d k:Nat):sIx n d (some (k:Int))=min k n:=by
 show (if (k:Int) < 0 then ((k:Int)+(n:Int)).toNat else min (k:Int).toNat n)=min k n;rw [Qn (by omega),Zz]
theorem Qwl (n d:Nat) (hd:d<=n) (o:Option Int):sIx n d o<=n:=by
 cases o with
 | none=>exact hd
 | some v =>
  show (if v < 0 then (v+(n:Int)).toNat else min v.toNat n)<=n
  by_cases hv:v < 0
  ·rw [Qk hv];omega
  ·rw [Qn hv];exact Nat.min_le_right _ _
theorem Qlb (v:Int) (n d:Nat):(if v < 0 then max (v+(n:Int)) 0 else min v (n:Int))=((sIx n d (some v):Nat):Int):=by
 show (if v < 0 then max (v+(n:Int)) 0 else min v (n:Int))=(((if v < 0 then (v+(n:Int)).toNat else min v.toNat n):Nat):Int)
 by_cases hv:v < 0
 ·simp only [Qk hv];omega
 ·simp only [Qn hv];omega
theorem Qjm (lo hi:Option Int) (n:Nat):Builtin.Slice.sliceAdjust lo hi 1 (n:Int)=(((sIx n 0 lo:Nat):Int),((sIx n n hi:Nat):Int)):=by
 have h1: ¬ ((1:Int) < 0):=by omega
 unfold Builtin.Slice.sliceAdjust;simp only [h1,OI];refine Prod.ext ?_ ?_
 ·cases lo with
  | none=>rfl
  | some v=>exact Qlb v n 0
 ·cases hi with
  | none=>rfl
  | some v=>exact Qlb v n n
theorem Qip (i j:Nat):Builtin.Slice.slicePlaces (i:Int) (j:Int) 1=j - i:=by
 unfold Builtin.Slice.slicePlaces;have h1:(1:Int) > 0:=by omega
 simp only [h1,Zx,Int.ediv_one];split<;>omega
theorem Qar {v:Value} {o:Option Int} {Q:Option Int->Shared->Prop} (p:IsPart v o) (h:Q o s):wpAny (model prog w) A (Builtin.Slice.slicePartIndex v) Q E s:=by
 cases p with
 | none=>exact slicePart_none h
 | int i t=>exact slicePart_int h
theorem U1 {sl:Addr} {vl vu:Value} {lo hi:Option Int} {n:Nat} {Q:Int×Int×Nat->Shared->Prop} (hs:s.heap.IsSliceOf sl vl vu .none) (pl:IsPart vl lo) (pu:IsPart vu hi)
  (h:Q (((sIx n 0 lo:Nat):Int),1,sIx n n hi - sIx n 0 lo) s):wpAny (model prog w) A (Builtin.Slice.sliceApplied (.ref sl) (pure (n:Int))) Q E s:=by
 obtain ⟨os,hos,hcs,hds⟩:=id hs;unfold Builtin.Slice.sliceApplied Builtin.Slice.sliceFields;refine Q1 (Q1 (J4 hos hds (x:=vl) rfl (Q1 (J4 hos hds (x:=vu) rfl (Q1 (J4 hos hds (x:= .none) rfl (Qe ?_)))))));refine Q1 (slicePart_none ?_);show wpAny _ _ (if ((1:Int) == 0)=true then _ else _) _ _ s;rw [Qn (by decide)];refine Q1 (Qar pl (Q1 (Qar pu (Q1 (Qe ?_)))));show wpAny _ _ (match Builtin.Slice.sliceAdjust lo hi 1 (n:Int) with | (lo,hi)=>pure (lo,(1:Int),Builtin.Slice.slicePlaces lo hi 1)) _ _ s;rw [Qjm lo hi n];show wpAny _ _ (pure (((sIx n 0 lo:Nat):Int),(1:Int),Builtin.Slice.slicePlaces ((sIx n 0 lo:Nat):Int) ((sIx n n hi:Nat):Int) 1)) _ _ s;rw [Qip];exact Qe h
theorem Qoy (xs:Array Value) (i k:Nat):((List.range k).filterMap fun (m:Nat)=>xs[((i:Int)+(m:Int) * 1).toNat]?).toArray=((xs.toList.drop i).take k).toArray:=by
 have e:(fun (m:Nat)=>xs[((i:Int)+(m:Int) * 1).toNat]?)=fun m=>xs[i+m]? :=by
  funext m
  have:((i:Int)+(m:Int) * 1).toNat=i+m:=by omega
  rw [this]
 rw [e];have:=pick_run xs i k;rw [List.filterMap_map] at this;have e2:((fun x=>xs[x]?) ∘ fun x=>i+x)=fun m=>xs[i+m]? :=rfl
 rw [e2] at this;rw [this]
theorem Bx {t sl:Addr} {items:Array Value} {vl vu:Value} {lo hi:Option Int} {Q:Value->Shared->Prop} (ht:IsTup s.heap t items) (hs:s.heap.IsSliceOf sl vl vu .none) (pl:IsPart vl lo) (pu:IsPart vu hi)
  (hw: ¬ (sIx items.size 0 lo=0/\sIx items.size items.size hi=items.size))
  (h:Q (.ref s.heap.objs.size) { s with heap:=s.heap.push { cls:= .type "tuple",data:= .seq ((items.toList.drop (sIx items.size 0 lo)).take (sIx items.size items.size hi - sIx items.size 0 lo)).toArray } })
  (hsz:items.size<=sizeLine):wpAny (model prog w) A (getItem (.ref t) (.ref sl)) Q E s:=by
 have htake:sizeOk (.seq ((items.toList.drop (sIx items.size 0 lo)).take (sIx items.size items.size hi - sIx items.size 0 lo)).toArray):=by
  show ((items.toList.drop (sIx items.size 0 lo)).take (sIx items.size items.size hi - sIx items.size 0 lo)).toArray.size<=sizeLine;rw [Qh,Qj,Jr,Gw];omega
 have hj:sIx items.size items.size hi<=items.size:=Qwl _ _ (Q6 _) hi;obtain ⟨os,hos,hcs,hds⟩:=id hs;have hTs:s.TypeIs (.ref sl) "slice" :=⟨os,hos,hcs⟩;unfold getItem
 try with_reducible refine WO ?_
 first | refine Q1 (Qe ?_) | skip
 refine Q1 (wpAny_sequenceKey ht.typeIs (by decide) ?_);refine Q1 (JC (name:=Str.ofString "__getitem__") ht.typeIs JA
  (Wh JA ht.typeIs entry_tuple_getitem ?_ (args_tuple_getitem _ _)))
 show wpAny _ _ (Builtin.Tuple.tupleItemsOf (.ref t) >>= _) _ _ s;refine Q1 (tupleItemsOf_ ht ?_);refine Q1 (UL hTs ?_);rw [Qk (by decide)];refine Q1 (U1 hs pl pu ?_);have hno: ¬ ((((sIx items.size 0 lo:Nat):Int) == 0 && (1:Int) == 1 && (sIx items.size items.size hi - sIx items.size 0 lo) == items.size)=true):=by
  intro q;rw [Qv,Qv] at q;have q1:((sIx items.size 0 lo:Nat):Int)=0:=eq_of_beq q.1.1;have q2:sIx items.size items.size hi - sIx items.size 0 lo=items.size:=eq_of_beq q.2;exact hw ⟨by omega,by omega⟩
 show wpAny _ _ (if (((sIx items.size 0 lo:Nat):Int) == 0 && (1:Int) == 1 && (sIx items.size items.size hi - sIx items.size 0 lo) == items.size)=true then _ else _) _ _ s;rw [Qn hno,Qoy]
 first
  | exact Q1 (m:=Builtin.Tuple.tupleExact _) (JN (Qe ⟨_,rfl,Qe h⟩) htake)
  | exact Q1 (m:=Builtin.Tuple.tupleExact _) (JN (Q1 (Qe (Qe ⟨_,rfl,Qe h⟩))) htake)
  | exact Q1 (Q1 (m:=Builtin.Tuple.tupleExact _) (JN (Qe (Qe ⟨_,rfl,Qe h⟩)) htake))
  | exact Q1 (Q1 (m:=Builtin.Tuple.tupleExact _) (JN (Qe ⟨_,rfl,Qe h⟩) htake))
end
end HT
namespace L2
open PySem PySem.Spec PyProof.Rows
abbrev TO:=St->Hp->(Option Int->Hp->Prop)->Prop
def PO (X:Cx) (e:Option Expr) (t:TO):Prop :=
 ∀ (pins:List (Addr×Obj)) (s:Shared) (σ:St) (H:Hp) (Q:Option Int->Hp->Prop),Inv X pins σ H s->t σ H Q ->
  wpAny (model X.prog X.w) X.A (evalPart e X.env) (fun u s'=> ∃ o H',Inv X pins σ H' s'/\IsPart u o/\Q o H') X.xe s
def Qs7:TO:=fun _ H Q=>Q none H
def Qyp (t:TE):TO:=fun σ H Q=>t σ H fun x H1=> ∃ i,x= .int i/\Q (some i) H1
section
variable {X:Cx} {e:Expr} {te:TE} {lo hi:Option Expr} {tl th:TO} {pos p2:Pos}
theorem Qsu:PO X none Qs7:=by
 intro pins s σ H Q I h;rw [evalPart_none];exact Qe ⟨none,H,I,.none,h⟩
theorem Qst (h:PE X e te):PO X (some e) (Qyp te):=by
 intro pins s σ H Q I hw;rw [evalPart_some];refine thn (h pins s σ H _ I hw) fun u s1 ⟨x,H1,I1,r1,q1⟩=> ?_
 obtain ⟨i,rfl,q⟩:=q1;obtain ⟨t,rfl⟩:=r1;exact ⟨some i,H1,I1,.int i t,q⟩
def SlR (X:Cx) (r:V->Option Int->Option Int->Hp->VK->Prop):Prop :=
 ∀ (pins:List (Addr×Obj)) (s:Shared) (σ:St) (H:Hp) (x:V) (v vl vu:Value) (lo hi:Option Int) (sl:Addr) (Q:VK),Inv X pins σ H s->RelV x v->s.heap.IsSliceOf sl vl vu .none->IsPart vl lo->IsPart vu hi->r x lo hi H Q ->
  ∃ T id,typeLookup (.type T) "__getitem__" =pure (some (.builtin id))/\s.TypeIs v T/\wpAny (model X.prog X.w) X.A (getItem v (.ref sl)) (EP X pins σ Q) X.xe s
def tSl (r:V->Option Int->Option Int->Hp->VK->Prop) (te:TE) (tl th:TO):TE:=fun σ H Q=>te σ H fun x H1=>tl σ H1 fun l H2=>th σ H2 fun u H3=>r x l u H3 Q
theorem Qb6 {r:V->Option Int->Option Int->Hp->VK->Prop} (hr:SlR X r) (he:PE X e te) (hl:PO X lo tl) (hu:PO X hi th):PE X (.Subscript e (.Slice lo hi none p2) pos) (tSl r te tl th):=by
 intro pins s σ H Q I h;refine Subscript_ (thn (he pins s σ H _ I h) fun v s1 ⟨x,H1,I1,r1,q1⟩=> ?_);refine wpAny_Slice (thn (hl pins s1 σ H1 _ I1 q1) fun vl s2 ⟨l,H2,I2,pl,q2⟩=>thn (hu pins s2 σ H2 _ I2 q2) fun vu s3 ⟨u,H3,I3,pu,q3⟩=> ?_);rw [evalPart_none];refine Qe ?_;have I4:Inv X pins σ H3 { s3 with heap:=s3.heap.push { cls:= .type "slice",data:= .fields #[vl,vu,.none] } }:=I3.kept (t':=s3.toks) fun b ob q=>Q2 _ q
 obtain ⟨T,id,hT,ht,hg⟩:=hr pins { s3 with heap:=s3.heap.push { cls:= .type "slice",data:= .fields #[vl,vu,.none] } } σ H3 x v vl vu l u s3.heap.objs.size Q I4 r1 (Heap.IsSliceOf.new ..) pl pu q3;show wpAny (model X.prog X.w) X.A (subscriptTail e (.Slice lo hi none p2) v (.ref s3.heap.objs.size)) (EP X pins σ Q) X.xe { s3 with heap:=s3.heap.push { cls:= .type "slice",data:= .fields #[vl,vu,.none] } };exact tail_any (ops:=[.ref s3.heap.objs.size,v]) ht hT hg (by with_unfolding_all rfl)
def Qfq (xs:List V) (lo hi:Option Int):List V:=(xs.drop (HT.sIx xs.length 0 lo)).take (HT.sIx xs.length xs.length hi - HT.sIx xs.length 0 lo)
theorem OB (xs:List V) (lo hi:Option Int):(Qfq xs lo hi).length<=xs.length:=by
 unfold Qfq;rw [Qj,Jr];omega
def Jan (K:W.Frag):V->Option Int->Option Int->Hp->VK->Prop:=fun x lo hi H Q=> ∃ a xs,x= .ref a/\SqT K H a xs /\
 ¬ (HT.sIx xs.length 0 lo=0/\HT.sIx xs.length xs.length hi=xs.length)/\ ∀ p,H p=none->Q (.ref p) (upd H p (.tup (Qfq xs lo hi)))
theorem Qwc:SlR X (Jan X.K):=by
 intro pins s σ H x v vl vu lo hi sl Q I rx hs pl pu h;obtain ⟨a,xs,rfl,hx,hw,q⟩:=h;cases rx;obtain ⟨its,r,ht,hz⟩:=I.tuple hx;have hlen:its.toArray.size=xs.length:=by rw [Qh];exact r.length.symm
 refine ⟨"tuple",_,JA.lookup,ht.typeIs,?_⟩;refine HT.Bx ht hs pl pu (by rw [hlen];exact hw) ?_ (by rw [hlen];exact hz);rw [hlen];refine ⟨.ref s.heap.objs.size,_,I.laid (t':=s.toks) (o:= .tup (Qfq xs lo hi)) (fun b ob q=>Q2 _ q) (Q6 _) ?_,rfl,q _ (I.hok.fresh (Q6 _))⟩;exact ⟨Qz (OB xs lo hi) hz,_,(r.drop (HT.sIx xs.length 0 lo)).take (HT.sIx xs.length xs.length hi - HT.sIx xs.length 0 lo),IsTup.new _ _⟩
def Qz9 (K:W.Frag):R2:=fun x y H Q=> ∃ a b xs ys,x= .ref a/\y= .ref b/\SqT K H a xs/\SqT K H b ys/\xs≠[]/\xs.length+ys.length<=sizeLine /\
 (ys=[]->Q (.ref a) H)/\(ys≠[]-> ∀ p,H p=none->Q (.ref p) (upd H p (.tup (xs++ys))))
theorem Vals.nil_iff {xs:List V} {us:List Value} (r:Vals xs us):us=[] ↔ xs=[]:=by
 cases r with
 | nil=>simp
 | cons _ _=>simp
theorem Qt8:OpR X (binaryOp .Add) (Qz9 X.K):=by
 intro pins s σ H x y v u Q I rx ry h;obtain ⟨a,b,xs,ys,rfl,rfl,ha,hb,hx,hz,q1,q2⟩:=h;cases rx;cases ry;obtain ⟨its,r1,p1,_⟩:=I.tuple ha;obtain ⟨its2,r2,p2,_⟩:=I.tuple hb;refine HT.Qus p1 p2 (fun z=>hx (r1.nil_iff.mp z)) (fun z=>⟨.ref a,H,I,rfl,q1 (r2.nil_iff.mp z)⟩) (fun z=> ?_) (by rw [<- r1.length,<- r2.length];exact hz);refine ⟨.ref s.heap.objs.size,_,I.laid (t':=s.toks) (o:= .tup (xs++ys)) (fun b ob q=>Q2 _ q) (Q6 _) ?_,rfl,q2 (fun w=>z (r2.nil_iff.mpr w)) _ (I.hok.fresh (Q6 _))⟩;exact ⟨by rw [Ql];exact hz,_,r1.append r2,IsTup.new _ _⟩
end
def ixN (n:Nat) (i:Int):Option Nat:=if 0<=i then (if i < n then some i.toNat else none) else if -(n:Int)<=i then some (i+n).toNat else none
def atI {α:Type} (xs:List α) (i:Int):Option α:=(ixN xs.length i).bind fun j=>xs[j]?
theorem Que {n:Nat} {i:Int} {j:Nat} (h:ixN n i=some j):seqIndex? i n=some j/\j < n/\ -(n:Int)<=i/\i < n:=by
 unfold ixN at h
 by_cases h0:0<=i
 ·rw [Qk h0] at h
  by_cases h1:i < n
  ·rw [Qk h1] at h;have e:i.toNat=j:=Qt h;exact ⟨by rw [seqIndex_of h0 h1,e],by omega,by omega,h1⟩
  ·rw [Qn h1] at h;cases h
 ·rw [Qn h0] at h
  by_cases h1: -(n:Int)<=i
  ·rw [Qk h1] at h;have e:(i+n).toNat=j:=Qt h;exact ⟨by rw [seqIndex_neg (by omega) h1,e],by omega,h1,by omega⟩
  ·rw [Qn h1] at h;cases h
theorem Qfw {α:Type} {xs:List α} {i:Int} {v:α} (h:atI xs i=some v): ∃ j,seqIndex? i xs.length=some j/\xs[j]? =some v/\j < xs.length/\ -(xs.length:Int)<=i/\i < xs.length:=by
 unfold atI at h;cases e:ixN xs.length i with
 | none=>rw [e] at h;cases h
 | some j =>
  rw [e] at h;obtain ⟨h1,h2,h3,h4⟩:=Que e;exact ⟨j,h1,h,h2,h3,h4⟩
theorem WM {α:Type} {xs:List α} {j:Nat} {v:α} (h:xs[j]? =some v):atI xs (j:Int)=some v:=by
 have hj:j < xs.length:=(Q5.mp h).1;have e:ixN xs.length (j:Int)=some j:=by
  unfold ixN;rw [Qk (by omega),Qk (by omega)];simp
 unfold atI;rw [e];exact h
theorem Qrj {α:Type} (xs:List α) (v:α):atI (xs++[v]) (-1)=some v:=by
 have hl:(xs++[v]).length=xs.length+1:=by simp
 have e:ixN (xs++[v]).length (-1)=some xs.length:=by
  unfold ixN;rw [hl,Qn (by decide),Qk (by omega)];congr 1;omega
 unfold atI;rw [e];show (xs++[v])[xs.length]? =some v
 simp
def PlainIx (b:Expr):Prop:= ∀ o i,subscripted b false o i=operate [o,i] (getItem o i)
def IxR (X:Cx) (r:R2):Prop :=
 ∀ (value slice:Expr) (pins:List (Addr×Obj)) (s:Shared) (σ:St) (H:Hp) (x y:V) (v u:Value) (Q:VK),Inv X pins σ H s->RelV x v->RelV y u->r x y H Q ->
  subscripted slice false v u=operate [v,u] (getItem v u)->wpAny (model X.prog X.w) X.A (subscriptTail value slice v u) (EP X pins σ Q) X.xe s
def MtR (X:Cx) (id:String) (r:V->List V->Hp->VK->Prop):Prop :=
 ∀ (pins:List (Addr×Obj)) (s:Shared) (σ:St) (H:Hp) (x:V) (xs:List V) (v:Value) (us:List Value) (Q:VK),Inv X pins σ H s->RelV x v->Vals xs us->r x xs H Q ->
  wpAny (model X.prog X.w) X.A (call (.builtin id) (v::us)) (EP X pins σ Q) X.xe s
section
variable {X:Cx} {a b:Expr} {ta tb:TE} {pos:Pos}
theorem IxR.or {r r':R2} (h:IxR X r) (h':IxR X r'):IxR X (fun x y H Q=>r x y H Q \/ r' x y H Q):=by
 intro value slice pins s σ H x y v u Q I rx ry q hs;rcases q with q | q
 ·exact h value slice pins s σ H x y v u Q I rx ry q hs
 ·exact h' value slice pins s σ H x y v u Q I rx ry q hs
theorem Qzb {r:R2} (hr:IxR X r) (ha:PE X a ta) (hb:PE X b tb) (hs:PlainIx b):PE X (.Subscript a b pos) (tOp r ta tb):=by
 intro pins s σ H Q I h;exact Subscript_ (Qyf ha hb I h fun v u s2 x y H2 I2 rx ry q=>hr a b pins s2 σ H2 x y v u Q I2 rx ry q (hs _ _))
def Qz8 (K:W.Frag):R2:=fun x y H Q=> ∃ p xs i v,x= .ref p/\y= .int i/\SqL K H p xs/\atI xs i=some v/\Q v H
def Qz6 (K:W.Frag):R2:=fun x y H Q=> ∃ p xs i v,x= .ref p/\y= .int i/\SqT K H p xs/\atI xs i=some v/\Q v H
def Qz7:R2:=fun x y H Q=> ∃ z i c,x= .str z/\y= .int i/\z.length<=sizeLine/\atI z.cps.toList i=some c/\Q (.str ⟨#[c]⟩) H
theorem Qud:IxR X (Qz8 X.K):=by
 intro value slice pins s σ H x y v u Q I rx ry h hs;obtain ⟨p,xs,i,z,rfl,rfl,hq,he,q⟩:=h;cases rx;obtain ⟨t,rfl⟩:=ry;obtain ⟨its,r,pl,hz⟩:=I.list hq;obtain ⟨j,h1,h2,h3,h4,h5⟩:=Qfw he;obtain ⟨w,ew,rw'⟩:=r.get h2;have hl:=r.length;have hn:=line63;have fin:EP X pins σ Q w s:=⟨z,H,I,rw',q⟩
 by_cases h0:0<=i
 ·have hj:i.toNat=j:=by
   rw [seqIndex_of h0 h5] at h1;exact Qt h1
  exact item_listR pl.isList h0 (by omega) (by rw [hj];simpa using ew) fin hs
 ·have hj:(i+(its.toArray.size:Int)).toNat=j:=by
   rw [seqIndex_neg (by omega) h4] at h1;rw [Qh,<- hl];exact Qt h1
  exact subscriptTail_builtinR (x:=w) pl.isList.typeIs slot_list_getitem.lookup
   (wpAny_getItem_list_neg (Q:=fun r s'=>r=w/\EP X pins σ Q r s') pl.isList (by omega) (by rw [Qh]<;>omega) (by omega) (by rw [hj];simpa using ew) ⟨rfl,fin⟩) hs
theorem Qxx:IxR X (Qz6 X.K):=by
 intro value slice pins s σ H x y v u Q I rx ry h hs;obtain ⟨p,xs,i,z,rfl,rfl,hq,he,q⟩:=h;cases rx;obtain ⟨t,rfl⟩:=ry;obtain ⟨its,r,pl,hz⟩:=I.tuple hq;obtain ⟨j,h1,h2,h3,h4,h5⟩:=Qfw he;obtain ⟨w,ew,rw'⟩:=r.get h2;have hl:=r.length;have hn:=line63;have fin:EP X pins σ Q w s:=⟨z,H,I,rw',q⟩;exact subscriptTail_builtinR (x:=w) pl.typeIs slot_tuple_getitem.lookup
  (getItem_tuple (j:=j) (Q:=fun r s'=>r=w/\EP X pins σ Q r s') pl (by omega) (by omega) (by rw [Qh,<- hl];exact h1) (by simpa using ew) ⟨rfl,fin⟩) hs
theorem Qxy:IxR X Qz7:=by
 intro value slice pins s σ H x y v u Q I rx ry h hs;obtain ⟨z,i,c,rfl,rfl,hz,he,q⟩:=h;obtain ⟨t,rfl⟩:=rx;obtain ⟨t',rfl⟩:=ry;obtain ⟨j,h1,h2,h3,h4,h5⟩:=Qfw he;have hl:z.cps.toList.length=z.length:=by simp [Str.length]
 rw [hl] at h1 h4 h5;have hn:=line63;exact tail_any (typeIs_str s z t) slot_str_getitem.lookup (getItem_str (c:=c) (by
  have e1:decide (i < -(2 ^ 63:Int))=false:=QA (by omega);have e2:decide (i ≥ 2 ^ 63)=false:=QA (by omega);rw [e1,e2,Bool.or_false]) (by rw [h1];simpa using h2) ⟨.str ⟨#[c]⟩,H,I.tok _,⟨_,rfl⟩,q⟩) hs
def rIx (K:W.Frag):R2:=fun x y H Q=>Qz8 K x y H Q \/ Qz6 K x y H Q \/ Qz7 x y H Q
theorem Qxz:IxR X (rIx X.K):=Qud.or (Qxx.or Qxy)
theorem Qej (lo hi:Option Int) (n:Nat):(sliceBounds lo hi none n).1=((HT.sIx n 0 lo:Nat):Int)/\(sliceBounds lo hi none n).2.1=((HT.sIx n n hi:Nat):Int)/\(sliceBounds lo hi none n).2.2=1:=by
 refine ⟨?_,?_,rfl⟩
 ·cases lo with
  | none=>simp [sliceBounds,HT.sIx]
  | some i =>
   simp only [sliceBounds,HT.sIx,Option.getD_none,show (1:Int) > 0 by decide,Zx]
   by_cases h:i < 0
   ·simp only [h,Zx]<;>omega
   ·simp only [h,OI]<;>omega
 ·cases hi with
  | none=>simp [sliceBounds,HT.sIx]
  | some i =>
   simp only [sliceBounds,HT.sIx,Option.getD_none,show (1:Int) > 0 by decide,Zx]
   by_cases h:i < 0
   ·simp only [h,Zx]<;>omega
   ·simp only [h,OI]<;>omega
theorem Qcn (its:List Value) (lo hi:Option Int):slicePick its.toArray lo hi none=((its.drop (HT.sIx its.length 0 lo)).take (HT.sIx its.length its.length hi - HT.sIx its.length 0 lo)).toArray:=by
 obtain ⟨h1,h2,h3⟩:=Qej lo hi its.toArray.size;unfold slicePick;rw [h1,h2,h3];simp only [sliceRange_one,pick_run,Qh]<;>rfl
def Jao (K:W.Frag):V->Option Int->Option Int->Hp->VK->Prop:=fun x lo hi H Q=> ∃ a xs,x= .ref a/\SqL K H a xs/\ ∀ p,H p=none->Q (.ref p) (upd H p (.lst (Qfq xs lo hi)))
theorem Qsf:SlR X (Jao X.K):=by
 intro pins s σ H x v vl vu lo hi sl Q I rx hs pl pu h;obtain ⟨a,xs,rfl,hx,q⟩:=h;cases rx;obtain ⟨its,r,ht,hz⟩:=I.list hx;have hlen:=r.length;refine ⟨"list",_,slot_list_getitem.lookup,ht.isList.typeIs,?_⟩;refine wpAny_getItem_list_slice ht.isList hs pl pu .none (by simp) ?_ (by rw [Qh]<;>omega);rw [Qcn,<- hlen];refine ⟨.ref s.heap.objs.size,_,I.laid (t':=s.toks) (o:= .lst (Qfq xs lo hi)) (fun b ob q=>Q2 _ q) (Q6 _) ?_,rfl,q _ (I.hok.fresh (Q6 _))⟩;exact ⟨Qz (OB xs lo hi) hz,_,0,(r.drop (HT.sIx xs.length 0 lo)).take (HT.sIx xs.length xs.length hi - HT.sIx xs.length 0 lo),Qg _ rfl⟩
def BA:V->Bool
 | .non=>true
 | .bl _=>true
 | .int _=>true
 | .str _=>true
 | _=>false
def eqV:V->V->Bool
 | .non,.non=>true
 | .bl a,.bl b=>a == b
 | .bl a,.int b=>(if a then 1 else 0) == b
 | .int a,.bl b=>a == (if b then 1 else 0)
 | .int a,.int b=>a == b
 | .str a,.str b=>a == b
 | _,_=>false
theorem Qy4 {A:Around} {s:Shared} {y x:V} {u v:Value} (ry:RelV y u) (rx:RelV x v) (fy:BA y=true) (fx:BA x=true):SeqAt.EqAt A s u v (eqV y x):=by
 cases y with
 | non =>
  cases ry;cases x with
  | non=>cases rx;exact Qi0 _
  | bl b=>cases rx;exact SeqAt.EqAt.none_bool b
  | int b=>obtain ⟨t,rfl⟩:=rx;exact SeqAt.EqAt.none_int b t
  | str b=>obtain ⟨t,rfl⟩:=rx;exact SeqAt.EqAt.none_str b t
  | _=>exact absurd (show false=true from fx) Qy
 | bl a =>
  cases ry;cases x with
  | non=>cases rx;exact SeqAt.EqAt.bool_none a
  | bl b=>cases rx;exact SeqAt.EqAt.bool_bool a b
  | int b=>obtain ⟨t,rfl⟩:=rx;exact SeqAt.EqAt.bool_int a b t
  | str b=>obtain ⟨t,rfl⟩:=rx;exact SeqAt.EqAt.bool_str a b t
  | _=>exact absurd (show false=true from fx) Qy
 | int a =>
  obtain ⟨t',rfl⟩:=ry;cases x with
  | non=>cases rx;exact SeqAt.EqAt.int_none a t'
  | bl b=>cases rx;exact SeqAt.EqAt.int_bool a t' b
  | int b=>obtain ⟨t,rfl⟩:=rx;exact SeqAt.EqAt.int_int a t' b t
  | str b=>obtain ⟨t,rfl⟩:=rx;exact Qrz a t' b t
  | _=>exact absurd (show false=true from fx) Qy
 | str a =>
  obtain ⟨t',rfl⟩:=ry;cases x with
  | non=>cases rx;exact SeqAt.EqAt.str_none a t'
  | bl b=>cases rx;exact SeqAt.EqAt.str_bool a t' b
  | int b=>obtain ⟨t,rfl⟩:=rx;exact Qrx a t' b t
  | str b=>obtain ⟨t,rfl⟩:=rx;exact Qrw a t' b t
  | _=>exact absurd (show false=true from fx) Qy
 | _=>exact absurd (show false=true from fy) Qy
def eqU (x:V) (u:Value):Bool:=match u with
 | .none=>eqV .non x
 | .bool b=>eqV (.bl b) x
 | .int i _=>eqV (.int i) x
 | .str z _=>eqV (.str z) x
 | _=>false
theorem Qqq {x y:V} {u:Value} (r:RelV y u) (f:BA y=true):eqU x u=eqV y x:=by
 cases y with
 | non=>cases r;rfl
 | bl b=>cases r;rfl
 | int i=>obtain ⟨t,rfl⟩:=r;rfl
 | str z=>obtain ⟨t,rfl⟩:=r;rfl
 | _=>exact absurd (show false=true from f) Qy
theorem BJ {x:V}: ∀ {xs:List V} {us:List Value},Vals xs us->xs.all BA=true->us.any (eqU x)=xs.any fun y=>eqV y x
 | _,_,.nil,_=>rfl
 | y::xs,u::us,.cons r t,f=>by
  rw [Qi1,Qv] at f;rw [ZY,ZY,Qqq r f.1,BJ t f.2]
theorem Gd {A:Around} {s:Shared} {x:V} {v:Value} (rx:RelV x v) (fx:BA x=true): ∀ {xs:List V} {us:List Value},Vals xs us->xs.all BA=true-> ∀ u∈us,SeqAt.EqAt A s u v (eqU x u)
 | _,_,.nil,_=>fun u hu=>by cases hu
 | y::xs,u::us,.cons r t,f=>fun u' hu=>by
  rw [Qi1,Qv] at f;rcases Qd.mp hu with rfl | hu
  ·rw [Qqq r f.1];exact Qy4 r rx f.1 fx
  ·exact Gd rx fx t f.2 u' hu
def inV (x:V) (xs:List V):Bool:=xs.any fun y=>eqV y x
def rIn (K:W.Frag) (neg:Bool):R2:=fun x y H Q=> ∃ p xs,y= .ref p/\(SqL K H p xs \/ SqT K H p xs)/\BA x=true/\xs.all BA=true/\Q (.bl (if neg then !inV x xs else inV x xs)) H
theorem Qmb:OpR X (compareOp .In) (rIn X.K false):=by
 intro pins s σ H x y v u Q I rx ry h;obtain ⟨p,xs,rfl,hq,fx,fs,q⟩:=h;cases ry;rcases hq with hq | hq
 ·obtain ⟨its,r,pl,hz⟩:=I.list hq;refine SeqAt.in_listAt (eqU x) pl.isList (fun w hw=>Gd rx fx r fs w (by simpa using hw)) ⟨.bl _,H,I,rfl,?_⟩;rw [show its.toArray.any (eqU x)=its.any (eqU x) by simp,BJ r fs];exact q
 ·obtain ⟨its,r,pl,hz⟩:=I.tuple hq;refine SeqAt.in_tupleAt (eqU x) pl (fun w hw=>Gd rx fx r fs w (by simpa using hw)) ⟨.bl _,H,I,rfl,?_⟩;rw [show its.toArray.any (eqU x)=its.any (eqU x) by simp,BJ r fs];exact q
theorem Qf7:OpR X (compareOp .NotIn) (rIn X.K true):=by
 intro pins s σ H x y v u Q I rx ry h;obtain ⟨p,xs,rfl,hq,fx,fs,q⟩:=h;cases ry;rcases hq with hq | hq
 ·obtain ⟨its,r,pl,hz⟩:=I.list hq;refine SeqAt.notIn_listAt (eqU x) pl.isList (fun w hw=>Gd rx fx r fs w (by simpa using hw)) ⟨.bl _,H,I,rfl,?_⟩;rw [show its.toArray.any (eqU x)=its.any (eqU x) by simp,BJ r fs];exact q
 ·obtain ⟨its,r,pl,hz⟩:=I.tuple hq;refine SeqAt.notIn_tupleAt (eqU x) pl (fun w hw=>Gd rx fx r fs w (by simpa using hw)) ⟨.bl _,H,I,rfl,?_⟩;rw [show its.toArray.any (eqU x)=its.any (eqU x) by simp,BJ r fs];exact q
theorem Qfs:CallR X (.type "list") (fun xs H Q=> ∃ p ys,xs=[.ref p]/\(SqL X.K H p ys \/ SqT X.K H p ys)/\ ∀ l,H l=none->Q (.ref l) (upd H l (.lst ys))):=by
 intro pins s σ H xs us Q I r h;obtain ⟨p,ys,rfl,hq,q⟩:=h;obtain ⟨u,rfl,rx⟩:=vals1 r;cases rx;have fin: ∀ (its:List Value),Vals ys its->ys.length<=sizeLine-> ∀ (h':Heap) (c':Nat),(∀ b o',s.heap.get? b=some o'->h'.get? b=some o') ->
   h'.get? s.heap.objs.size=some { cls:= .type "list",dict:=none,data:= .seq its.toArray c',slots:= #[] }->EP X pins σ Q (.ref s.heap.objs.size) { s with heap:=h' }:=fun its r' hz h' c' kp e =>
  ⟨.ref s.heap.objs.size,_,I.laid (t':=s.toks) kp (Q6 _) (show ObjOk X.prog X.w _ h' _ (.lst ys) from ⟨hz,its,c',r',e⟩),rfl,q _ (I.hok.fresh (Q6 _))⟩
 rcases hq with hq | hq
 ·obtain ⟨its,r',pl,hz⟩:=I.list hq;have hlen:=r'.length;obtain ⟨o,ho,hc,n,hd⟩:=pl.isList;exact call_list_seq p (.inl rfl) ho hc hd (fun h' c' kp e=>fin its r' hz h' c' kp e) (by simp only [Qh]<;>omega)
 ·obtain ⟨its,r',pl,hz⟩:=I.tuple hq;have hlen:=r'.length;obtain ⟨o,ho,hc,n,hd⟩:=pl;exact call_list_seq p (.inr rfl) ho hc hd (fun h' c' kp e=>fin its r' hz h' c' kp e) (by simp only [Qh]<;>omega)
theorem Qcu:CallR X (.type "tuple") (fun xs H Q=> ∃ p ys,xs=[.ref p]/\((SqL X.K H p ys/\ ∀ l,H l=none->Q (.ref l) (upd H l (.tup ys))) \/ (SqT X.K H p ys/\Q (.ref p) H))):=by
 intro pins s σ H xs us Q I r h;obtain ⟨p,ys,rfl,h⟩:=h;obtain ⟨u,rfl,rx⟩:=vals1 r;cases rx;rcases h with ⟨hq,q⟩ | ⟨hq,q⟩
 ·obtain ⟨its,r',pl,hz⟩:=I.list hq;have hlen:=r'.length;refine call_tuple_list pl.isList (fun h' kp=> ?_) (by simp only [Qh]<;>omega);have I1:Inv X pins σ H { s with heap:=h' }:=I.kept (t':=s.toks) kp;have I2:Inv X pins σ (upd H h'.objs.size (.tup ys)) { s with heap:=h'.push { cls:= .type "tuple",data:= .seq its.toArray } } :=
   I1.laid (t':=s.toks) (fun b o e=>Q2 _ e) (Q6 _) (show ObjOk X.prog X.w _ _ _ (.tup ys) from ⟨hz,its,r',IsTup.new _ _⟩)
  exact ⟨.ref h'.objs.size,_,I2,rfl,q _ (I1.hok.fresh (Q6 _))⟩
 ·obtain ⟨its,r',pl,hz⟩:=I.tuple hq;exact call_tuple_same pl ⟨.ref p,H,I,rfl,q⟩
def tyV (K:W.Frag) (T:String) (x:V) (H:Hp):Prop:=match x with
 | .str _=>T= "str"
 | .int _=>T= "int"
 | .ref p=>(T= "list" /\ ∃ xs,SqL K H p xs) \/ (T= "tuple" /\ ∃ o,K.lookup p=some o/\o.cls= .type "tuple" /\o.dict=none) \/
   (T= "dict" /\((∃ kvs,H p=some (.dK kvs)) \/ ∃ kvs,H p=some (.dT kvs))) \/ (T= "set" /\ ∃ S n,H p=some (.set S n))
 | _=>False
theorem Qnw {pins:List (Addr×Obj)} {σ:St} {H:Hp} {s:Shared} {T:String} {x:V} {v:Value} (I:Inv X pins σ H s) (r:RelV x v) (ty:tyV X.K T x H) :
  s.TypeIs v T/\ ∀ a,v= .ref a-> ∃ ob,s.heap.get? a=some ob/\ob.dict=none:=by
 cases x with
 | str z =>
  obtain ⟨t,rfl⟩:=r;cases (show T= "str" from ty);exact ⟨typeIs_str s z t,fun _ e=>nomatch e⟩
 | int i =>
  obtain ⟨t,rfl⟩:=r;cases (show T= "int" from ty);exact ⟨typeIs_int s i t,fun _ e=>nomatch e⟩
 | ref p =>
  cases r;rcases ty with ⟨rfl,xs,hq⟩ | ⟨rfl,o,hk,hc,hd⟩ | ⟨rfl,hk⟩ | ⟨rfl,S,n,hk⟩
  ·obtain ⟨its,_,pl,_⟩:=I.list hq;refine ⟨pl.isList.typeIs,fun a e=> ?_⟩;cases e;obtain ⟨o,n,e,c,hd,_⟩:=pl;exact ⟨o,e,hd⟩
  ·refine ⟨⟨o,I.kIn p o hk,hc⟩,fun a e=> ?_⟩;cases e;exact ⟨o,I.kIn _ o hk,hd⟩
  ·have z: ∃ o,s.heap.get? p=some o/\o.ExactDict:=by
    rcases hk with ⟨kvs,hk⟩ | ⟨kvs,hk⟩
    ·obtain ⟨_,_,_,_,o,_,_,e,ex,_⟩:=I.hok p _ hk;exact ⟨o,e,ex⟩
    ·obtain ⟨_,_,_,_,o,_,_,e,ex,_⟩:=I.hok p _ hk;exact ⟨o,e,ex⟩
   obtain ⟨o,e,ex⟩:=z;refine ⟨⟨o,e,ex.1⟩,fun a e2=> ?_⟩;cases e2;exact ⟨o,e,ex.2.1⟩
  ·obtain ⟨o,_,_,_,e,ex,_⟩:=I.hok p _ hk;refine ⟨⟨o,e,ex.1⟩,fun a e2=> ?_⟩;cases e2;exact ⟨o,e,ex.2.1⟩
 | _=>exact False.elim ty
def Jak (K:W.Frag) (T:String) (r:V->List V->Hp->VK->Prop) (to:TE):TE:=fun σ H Q=>to σ H fun x H1=>tyV K T x H1/\r x [] H1 Q
def tBM (K:W.Frag) (T:String) (r:V->List V->Hp->VK->Prop) (to:TE) (t:TA):TE:=fun σ H Q=>to σ H fun x H1=>tyV K T x H1/\t σ H1 fun xs H2=>r x xs H2 Q
variable {o e:Expr} {es:List Expr} {to:TE} {t:TA} {name:Str} {apos cpos:Pos} {T id:String} {r:V->List V->Hp->VK->Prop}
theorem Qis (pa:PlainAttrs T) (slot:Slot T name id) (hty:typeOf (.builtin id)=pure (.type "method_descriptor")) (hm:MtR X id r) (ho:PE X o to)
  (hbase:attributeBase o name X.env (eval o X.env)=eval o X.env:=by rfl) (hline:(apos.endLine == cpos.line)=true:=by rfl):PE X (.Call (.Attribute o name apos) [] [] cpos) (Jak X.K T r to):=by
 intro pins s σ H Q I h;refine wpAny_Call_method0_late hbase hline (thn (ho pins s σ H _ I h) fun v s1 ⟨x,H1,I1,r1,ty,q1⟩=> ?_);obtain ⟨h1,h2⟩:=Qnw I1 r1 ty;exact ⟨T,id,pa,slot,hty,h1,h2,Qfy rfl (PySem.evalArgs_none (hm pins s1 σ H1 x [] v [] Q I1 r1 .nil q1))⟩
theorem Qb9 (pa:PlainAttrs T) (slot:Slot T name id) (hty:typeOf (.builtin id)=pure (.type "method_descriptor")) (hm:MtR X id r) (ho:PE X o to) (ha:PA X (e::es) t)
  (hbase:attributeBase o name X.env (eval o X.env)=eval o X.env:=by rfl)
  (hfew:((backTo cpos (starEach (e::es) X.env)).all (fun x=> !x.1) && (backToKw cpos (keywordEach [] X.env)).all (fun x=>x.1.isSome)
   && decide ((e::es).length+([]:List Keyword).length+(if ([]:List Keyword).isEmpty then 0 else 1) < 30))=true:=by rfl)
  (hline:(apos.endLine == cpos.line)=true:=by rfl) (hs:starEach (e::es) X.env=(false,eval e X.env)::starEach es X.env:=by rfl) (hplain:(backTo cpos (starEach es X.env)).any (·.1)=false:=by rfl) :
  PE X (.Call (.Attribute o name apos) (e::es) [] cpos) (tBM X.K T r to t):=by
 intro pins s σ H Q I h;refine wpAny_Call_method_late hbase hfew hline rfl (thn (ho pins s σ H _ I h) fun v s1 ⟨x,H1,I1,r1,ty,q1⟩=> ?_);obtain ⟨h1,h2⟩:=Qnw I1 r1 ty;refine ⟨T,id,pa,slot,hty,h1,h2,?_⟩;have hA:=ha cpos pins s1 σ H1 _ I1 q1;rw [hs] at hA ⊢;refine Qfy (by show (false || (backTo cpos (starEach es X.env)).any (·.1))=false;rw [hplain]<;>rfl) (Qll ?_);exact thn hA fun us s2 ⟨vs,H2,I2,r2,q2⟩=>hm pins s2 σ H2 x vs v us Q I2 r1 r2 q2
/- xs.append(e),list.index on a module's tuple .. are MtR facts of 06m -/
end
def MtM (X:Cx) (id:String) (r:V->List V->Hp->VK->Prop):Prop :=
 ∀ (pins:List (Addr×Obj)) (s:Shared) (σ:St) (H:Hp) (x:V) (xs:List V) (v:Value) (us:List Value) (Q:VK),Inv X pins σ H s->RelV x v->Vals xs us->r x xs H Q ->
  wpAny (model X.prog X.w) X.A (call (.builtin id) (v::us)) (EP X pins σ Q) X.xe s
theorem Vals.one: ∀ {x:V} {us:List Value},Vals [x] us-> ∃ u,us=[u]/\RelV x u
 | _,_,.cons r .nil=>⟨_,rfl,r⟩
theorem Vals.two: ∀ {x y:V} {us:List Value},Vals [x,y] us-> ∃ u v,us=[u,v]/\RelV x u/\RelV y v
 | _,_,_,.cons r (.cons q .nil)=>⟨_,_,rfl,r,q⟩
theorem Vals.zero: ∀ {us:List Value},Vals [] us->us=[]
 | _,.nil=>rfl
theorem Vals.dropLast {xs:List V} {us:List Value} (h:Vals xs us):Vals xs.dropLast us.dropLast:=by
 induction h with
 | nil=>exact .nil
 | cons r t ih =>
  cases t with
  | nil=>exact .nil
  | cons q t'=>exact .cons r ih
theorem Vals.eraseIdx: ∀ {xs:List V} {us:List Value} (i:Nat),Vals xs us->Vals (xs.eraseIdx i) (us.eraseIdx i)
 | _,_,_,.nil=> .nil
 | _,_,0,.cons _ t=>t
 | _,_,i+1,.cons r t=> .cons r (Vals.eraseIdx i t)
theorem Qj7 {α:Type} (l:List α):l.eraseIdx (l.length - 1)=l.dropLast:=by
 induction l with
 | nil=>rfl
 | cons a r ih =>
  cases r with
  | nil=>rfl
  | cons b r =>
   have e:(a::b::r).length - 1=((b::r).length - 1)+1:=by
    have h1:(a::b::r).length=r.length+2:=rfl;have h2:(b::r).length=r.length+1:=rfl;omega
   rw [e,List.eraseIdx_cons_succ,ih]
   all_goals rfl
theorem Qdi {α:Type}: ∀ (l:List α) (i:Nat),(l.eraseIdx i).length<=l.length
 | [],_=>Q6 _
 | _::_,0=>Yx _
 | _::r,i+1=>Nat.succ_le_succ (Qdi r i)
section
variable {X:Cx} {pins:List (Addr×Obj)} {σ:St} {H:Hp} {s:Shared} {l b:Addr} {xs ys zs:List V}
theorem Inv.lset {its its':List Value} {n:Nat} {f:Array Value->Array Value} {t':Nat} (I:Inv X pins σ H s) (hH:H l=some (.lst xs))
  (e:s.heap.get? l=some { cls:= .type "list",data:= .seq its.toArray n }) (hf:f its.toArray=its'.toArray) (hv:Vals ys its') (hz:ys.length<=sizeLine) :
  Inv X pins σ (upd H l (.lst ys)) { s with heap:=s.heap.update l (Obj.mapSeq f),toks:=t' }:=by
 have q:=PySem.IsL.update e f;rw [hf] at q;refine I.write (x:=l) (e:=l) (by rw [hH];exact trivial) (.inl rfl) (fun b' u hb hu=>(J3 s.heap (Obj.mapSeq f) (J5 hb)).trans hu) ⟨_,q⟩ ?_;exact ⟨hz,its',_,hv,q⟩
theorem Inv.lnew {its:List Value} {t':Nat} (I:Inv X pins σ H s) (hv:Vals ys its) (hz:ys.length<=sizeLine) :
  Inv X pins σ (upd H s.heap.objs.size (.lst ys)) { s with heap:=s.heap.push { cls:= .type "list",data:= .seq its.toArray },toks:=t' } :=
 I.laid (fun _ _ q=>Q2 _ q) (Q6 _) ⟨hz,its,0,hv,Qg _ rfl⟩
theorem Inv.fresh (I:Inv X pins σ H s):H s.heap.objs.size=none:=I.hok.fresh (Q6 _)
theorem Inv.lstM (I:Inv X pins σ H s) (hH:H l=some (.lst xs)):xs.length<=sizeLine/\ ∃ (its:List Value) (n:Nat),Vals xs its/\xs.length=its.length/\s.heap.get? l=some { cls:= .type "list",data:= .seq its.toArray n }:=by
 obtain ⟨z,its,n,r,e⟩:=I.hok l _ hH;exact ⟨z,its,n,r,r.length,e⟩
theorem Qpu {n:Nat} (h:n<=sizeLine):Builtin.List.listTooLong n=false:=by
 unfold Builtin.List.listTooLong;exact QA (by omega)
end
section
variable {X:Cx}
def Qkd:V->List V->Hp->VK->Prop:=fun x vs H Q=> ∃ l xs y,x= .ref l/\vs=[y]/\H l=some (.lst xs)/\xs.length < sizeLine/\Q .non (upd H l (.lst (xs++[y])))
theorem Qmq:MtM X "list.append" Qkd:=by
 intro pins s σ H x vs v us Q I rx rv h;obtain ⟨l,xs,y,rfl,rfl,hH,hz,q⟩:=h;cases rx;obtain ⟨u,rfl,ru⟩:=rv.one;obtain ⟨z,its,n,r,hl,e⟩:=I.lstM hH;refine Qrv F.slot_list_append ⟨_,e,rfl⟩ F.entry_list_append (F.args_list_append_2 _ _) (PySem.list_append l its.toArray n u (by rw [Qh];omega)) ⟨e,?_⟩;refine ⟨.non,_,I.lset (its':=its++[u]) hH e (by simp) (r.append (.cons ru .nil)) ?_,rfl,q⟩;rw [Ql,Uk];omega
def Qkc:V->List V->Hp->VK->Prop:=fun x vs H Q=> ∃ l b xs zs,x= .ref l/\vs=[.ref b]/\H l=some (.lst xs)/\H b=some (.lst zs)/\xs.length+zs.length<=sizeLine/\Q .non (upd H l (.lst (xs++zs)))
theorem Qmp:MtM X "list.extend" Qkc:=by
 intro pins s σ H x vs v us Q I rx rv h;obtain ⟨l,b,xs,zs,rfl,rfl,hH,hB,hz,q⟩:=h;cases rx;obtain ⟨u,rfl,ru⟩:=rv.one;cases ru;obtain ⟨z,its,n,r,hl,e⟩:=I.lstM hH;obtain ⟨z2,its2,n2,r2,hl2,e2⟩:=I.lstM hB;have hsz:its.toArray.size+its2.toArray.size<=sizeLine:=by rw [Qh,Qh];omega
 have hlong: ¬ (!its.toArray.isEmpty && Builtin.List.listTooLong (its.toArray.size+its2.toArray.size))=true:=by
  rw [Qpu hsz,Bool.and_false];exact Qy
 refine Qrv F.slot_list_extend ⟨_,e,rfl⟩ F.entry_list_extend (F.args_list_extend_2 _ _)
  (AutoSeq1.list_extend_list_list_0 l its.toArray n b its2.toArray n2 hlong (by rw [Qh];omega) (by omega)) ⟨e,e2,?_⟩
 refine ⟨.non,_,I.lset (its':=its++its2) hH e (by simp) (r.append r2) ?_,rfl,q⟩;rw [Ql];omega
def Jap:V->List V->Hp->VK->Prop:=fun x vs H Q=> ∃ l xs y,x= .ref l/\vs=[]/\H l=some (.lst xs)/\xs[xs.length - 1]? =some y/\Q y (upd H l (.lst xs.dropLast))
theorem Qxj:MtM X "list.pop" Jap:=by
 intro pins s σ H x vs v us Q I rx rv h;obtain ⟨l,xs,y,rfl,rfl,hH,hy,q⟩:=h;cases rx;have hus:=rv.zero;subst hus;obtain ⟨z,its,n,r,hl,e⟩:=I.lstM hH;obtain ⟨u,hu,ru⟩:=r.get hy;have hy':its.toArray[its.toArray.size - 1]? =some u:=by
  show its.toArray[its.length - 1]? =some u;rw [<- Array.getElem?_toList,<- hl];exact hu
 refine Qrv F.slot_list_pop ⟨_,e,rfl⟩ F.entry_list_pop (F.args_list_pop_1 _) (MeetsSeq.list_pop_last l its.toArray n u hy' (by rw [Qh];omega)) ⟨e,?_⟩;refine ⟨y,_,I.lset (its':=its.dropLast) hH e ?_ r.dropLast ?_,ru,q⟩
 ·show its.toArray.eraseIdxIfInBounds (its.toArray.size - 1)=its.dropLast.toArray;rw [Qh,Qnk,Qj7]
 ·rw [List.length_dropLast];omega
def Qwo:V->List V->Hp->VK->Prop:=fun x vs H Q=> ∃ l xs i k y,x= .ref l/\vs=[.int i]/\H l=some (.lst xs)/\ -(2 ^ 63)<=i/\i < 2 ^ 63/\seqIndex? i xs.length=some k/\xs[k]? =some y/\Q y (upd H l (.lst (xs.eraseIdx k)))
theorem Qq6:MtM X "list.pop" Qwo:=by
 intro pins s σ H x vs v us Q I rx rv h;obtain ⟨l,xs,i,k,y,rfl,rfl,hH,h1,h2,hk,hy,q⟩:=h;cases rx;obtain ⟨u,rfl,ru⟩:=rv.one;obtain ⟨t,rfl⟩:=ru;obtain ⟨z,its,n,r,hl,e⟩:=I.lstM hH;obtain ⟨w,hw,rw'⟩:=r.get hy;refine Qrv F.slot_list_pop ⟨_,e,rfl⟩ F.entry_list_pop (F.args_list_pop_2 _ _)
  (MeetsSeq.list_pop_at l its.toArray n i t k w (fitsIndex_both h1 h2) (by rw [Qh,<- hl];exact hk) (by rw [<- Array.getElem?_toList];exact hw) (by rw [Qh];omega)) ⟨e,?_⟩
 refine ⟨y,_,I.lset (its':=its.eraseIdx k) hH e ?_ (r.eraseIdx k) ?_,rw',q⟩
 ·show its.toArray.eraseIdxIfInBounds k=(its.eraseIdx k).toArray;rw [Qnk]
 ·have:=Qdi xs k;omega
end
end L2
namespace Att
open PySem PySem.W PySem.Calls PyProof.Rows
theorem OU {P:Params} {h:Heap}: ∀ (ns:List Int) (vs:List Value),WellAll P h vs (ns.map WData.int)->IntsAre vs ns:=by
 intro ns
 induction ns with
 | nil =>
  intro vs w;rw [ZN] at w;cases w;exact .nil
 | cons n ns ih =>
  intro vs w;rw [Qp] at w;cases w with
  | cons a b =>
   cases a;exact .cons _ _ (ih _ b)
theorem Qm1 {l:OpenLaw} {n:Nat} (hn:l.most=some n) {P:Params} {h:Heap} {args:List WData} {vals:List Value}
  (hpre:l.row.toRowW.claim.pre args=true) (hwl:WellAll P h vals args) :
  ∃ a vs ns,vals=[Value.ref a]/\args=[WData.list (ns.map WData.int)]/\h.get? a=some { cls:= .type "list",data:= .seq vs.toArray }/\IntsAre vs ns/\ns.length<=n:=by
 have hsh:WShape.hasAll [] args [.list .int]=true:=(pre_splitW hpre).1;have hc:l.pre.holds [] { args:=args }=true:=(pre_splitW hpre).2;obtain ⟨d,r,rfl,h1,h2⟩:=hasAllW_cons hsh;obtain rfl:=hasAllW_nil h2;obtain ⟨xs,rfl,h3⟩:=hasW_list h1;obtain ⟨ns,rfl⟩:=items_int h3;have hlen:ns.length<=n:=by
  unfold OpenLaw.pre at hc;have h4:(WTm.not (.lt (.lit (.int (n:Int))) (.len (.arg 0)))).holds [] { args:=[.list (ns.map .int)] }=true:=by
   have h4:=(holds_andW hc).1;rw [hn] at h4;exact h4
  have h5:=condW_of h4 (w_not (w_lt w_lit (w_len_list (w_arg rfl))));rw [Q0] at h5;refine OL fun q=> ?_
  have q':(n:Int) < ((ns.length:Nat):Int):=by omega
  first
   | (rw [QM q'] at h5;exact absurd h5 (by decide))
   | (simp at h5;omega)
 cases hwl with
 | cons w1 w2 =>
  cases w2;cases w1 with
  | list ho hall=>exact ⟨_,_,ns,rfl,rfl,ho,OU ns _ hall,hlen⟩
theorem Qm3 (l:OpenLaw) (args:List WData):l.row.toRowW.claim.post args (.bool true) args=true :=
 postW_of (r:=l.row.toRowW) (X:=(true == true))
  (show WShape.has [] (.bool true) .bool=true by first | rfl | decide | simp [WShape.has,WShape.arms,WShape.armsAll])
  (show (WTm.eq .res (.lit (.bool true))).value [] { args:=args,res:=some (.bool true),after:=args }=some (.bool (true == true)) from w_eq_bool (w_res rfl) w_lit) rfl
theorem attach_call {l:OpenLaw} {n:Nat} {q:Program} {loose:List Str} {XP:(Str->Option Value)->Heap->Prop} {YP:World->Heap->Prop} {d:DefRec}
  (hn:l.most=some n) (hdf:d.params.defaults=[])
  (call: ∀ (w:World) (s₀ s₁:Shared) (mg mb:Str->Option Value) (fa:Addr) (o:Obj) (pm cd doc:Value) (a:Addr) (vs:List Value) (ns:List Int),
   Ground q loose [] XP w s₀ mg mb s₁.heap->YP w s₁.heap ->
   s₁.heap.get? fa=some o->o.data= .func (docDef d.name d.params d.body d.scope pm cd doc)->s₁.heap.CodeRec cd d.name->mg d.name=some (.ref fa) ->
   s₁.heap.get? a=some { cls:= .type "list",data:= .seq vs.toArray }->IntsAre vs ns->ns.length<=n->s₁.gens= #[] ->
   codeAny (model l.prog w) callerA (.call (.ref fa) ⟨[.ref a],[]⟩) (fun r s'=>r= .ok (.ret (.bool true))/\OldK s₁.heap s'.heap/\s'.os=s₁.os/\AllBare s'.gens) s₁) :
  WalkO q loose XP YP l.row.toRowW d [] (fun f vs=>PySem.call f vs):=by
 intro w s₀ s₁ mg mb G Y fa o pm cd doc dV kV ho hd hcd hD hmg hg args vals as hpre hlay hrd hwl hlo;obtain rfl:dV= .none:=Dflts.none hD hdf;obtain rfl:kV= .none:=Dflts.noKw hD;obtain ⟨a,vs,ns,rfl,rfl,hobj,hints,hlen⟩:=Qm1 hn hpre hwl;refine enter_call (Qvx (call w s₀ s₁ mg mb fa o pm cd doc a vs ns G Y ho (fd_plain hd) hcd hmg hobj hints hlen hg) fun r s' hq=> ?_);obtain ⟨rfl,h2,h3,h4⟩:=hq;exact ⟨.inl ⟨.bool true,.bool true,[],rfl,fun _=>rfl,.bool true,Qm3 l _,fun _=>⟨List.Pairwise.nil,fun _ hm=>(nomatch hm)⟩⟩,h2,h3,h4⟩
end Att
namespace L2
open PySem PySem.Spec PyProof.Rows
theorem Qcz: ∀ {vs:List Value} {ns:List Int},IntsAre vs ns->Vals (ns.map V.int) vs
 | _,_,.nil=> .nil
 | _,_,.cons n t h=> .cons ⟨t,rfl⟩ (Qcz h)
def Only (H:Hp):Prop:= ∀ b,H b=none \/ ∃ o xs,H b=some (.frz o (.lst xs))
theorem Qqg {P:Program} {w:World} {K:W.Frag} {mg mb:Str->Option Value} {CX:CXT} {k:Nat} {fa a:Addr} {fd:FuncData} {x:Str} {sp:Sp} {s₁:Shared} {vs:List Value} {ns:List Int}
  (KX:K.In s₁.heap) (hns:s₁.heap.Ns mainGlobals mg) (hb:s₁.heap.Ns builtinsNs mb) (hbb: ∀ x:Str,x≠ "__name__" ->mb x=bootBuiltins x) (hlim:s₁.heap.NoLimit) (hg:s₁.gens= #[])
  (ha:s₁.heap.get? a=some { cls:= .type "list",data:= .seq vs.toArray }) (hi:IntsAre vs ns) (hl:ns.length<=sizeLine) (hr:Room k callerA)
  (F: ∀ base:Heap,K.In base->base.Ns mainGlobals mg->FnOk P w K mg base CX k fa fd [x] sp) (hbind: ∀ (s:Shared) (u:Value),BindsTo s fd ⟨[u],[]⟩ [(x,u)])
  (hsp: ∀ H:Hp,Only H->SqL K H a (ns.map V.int)->sp [.ref a] H (fun v _=>v= .bl true) fun _ _ _=>False)
  (hCX: ∀ H e s',CX [] H s₁ (fun _ _ _=>False) e s'->False) :
  codeAny (model P w) callerA (.call (.ref fa) ⟨[.ref a],[]⟩) (fun r s'=>r= .ok (.ret (.bool true))/\OldK s₁.heap s'.heap/\s'.os=s₁.os/\AllBare s'.gens) s₁:=by
 have rv:=Qcz hi;have lenV:=hi.length;have core: ∀ H:Hp,Only H->SqL K H a (ns.map V.int)->HOk P w H s₁.heap->(∀ b,H b≠none->b=a)->(H a≠none->K.lookup a=none) ->
   codeAny (model P w) callerA (.call (.ref fa) ⟨[.ref a],[]⟩) (fun r s'=>r= .ok (.ret (.bool true))/\OldK s₁.heap s'.heap/\s'.os=s₁.os/\AllBare s'.gens) s₁:=by
  intro H hO hS hok hA hK;have base_of: ∀ {b:Addr} {o:Obj},s₁.heap.get? b=some o->H b=none->(Qfh s₁.heap H).get? b=some o:=fun e n=>Qqj e n
  have noA: ∀ {b:Addr} {o:Obj} {es:Array DictEntry} {ep:Nat},s₁.heap.get? b=some o->o.data= .dict es ep->H b=none:=fun {b o es ep} e d=>by
   cases q:H b with
   | none=>rfl
   | some u =>
    have e':b=a:=hA b (by rw [q];simp);subst e';rw [ha] at e;cases e;have d':Data.seq vs.toArray _=Data.dict es ep:=d;cases d'
  have nsK: ∀ {b:Addr} {m:Str->Option Value},s₁.heap.Ns b m->(Qfh s₁.heap H).Ns b m:=fun {b m} ⟨o,es,ep,e,d,r⟩=>⟨o,es,ep,base_of e (noA e d),d,r⟩
  have hKb:K.In (Qfh s₁.heap H):=fun b o e=>base_of (KX b o e) (by
   cases q:H b with
   | none=>rfl
   | some u =>
    have e':b=a:=hA b (by rw [q];simp);subst e';rw [hK (by rw [q];simp)] at e;cases e)
  have hM:Mod K mg (Qfh s₁.heap H):=⟨hKb,nsK hns,⟨mb,nsK hb,hbb⟩,let ⟨mc,h1,h2⟩:=hlim;⟨mc,nsK h1,h2⟩⟩;have e0:Env0 P w K mg (Qfh s₁.heap H) callerA [] s₁ H:=⟨rfl,hM,fun b o e=>Qtq e,Nat.le_of_eq (Qn2 _ _),trivial,fun b hb=>absurd (show b∈([]:List Addr) from hb) (by simp),hok,.of_eq hg⟩;refine Qvx ((F _ hKb (nsK hns)).run callerA [] s₁ H ⟨[.ref a],[]⟩ [.ref a] [.ref a] _ _ hr e0 (hbind s₁ (.ref a)) (.cons rfl .nil) (hsp H hO hS)) fun r s' h=> ?_
  cases r with
  | error e=>exact (hCX H e s' h).elim
  | ok fl =>
   cases fl with
   | next=>exact False.elim h
   | brk=>exact False.elim h
   | cont=>exact False.elim h
   | ret u =>
    obtain ⟨v,H',os,bare,un,hok',r',q⟩:=h;have q':v= .bl true:=q;subst q';obtain rfl:u=Value.bool true:=r';refine ⟨rfl,OldK.of_keep fun b o e=> ?_,os,bare⟩;cases q:H b with
    | none=>exact un.keep b o e q (by intro z;exact absurd (show b∈([]:List Addr) from z) (by simp)) (by simp)
    | some u =>
     rcases hO b with z | ⟨ob,xs,z⟩
     ·rw [q] at z;cases z
     ·have z2:=un.frzs b ob _ z;obtain ⟨e1,_⟩:=hok b _ z;obtain ⟨e2,_⟩:=hok' b _ z2;rw [e] at e1;cases e1;exact e2
 cases hk:K.lookup a with
 | some o =>
  have e:=KX a o hk;rw [ha] at e;cases e;refine core (fun _=>none) (fun _=> .inl rfl) (.inr ⟨_,vs.toArray,_,hk,rfl,rfl,rfl,by rw [Qh,lenV];exact hl,by simpa using rv⟩) (fun b u z=>by have z':(none:Option HO)=some u:=z;cases z') (fun b z=>absurd rfl z) fun z=>absurd rfl z
 | none =>
  refine core (fun b=>if b=a then some (.frz { cls:= .type "list",data:= .seq vs.toArray } (.lst (ns.map V.int))) else none) (fun b=> ?_) (.inl (.inr ⟨{ cls:= .type "list",data:= .seq vs.toArray },Qk rfl⟩)) (fun b u z=> ?_) (fun b z=> ?_) fun _=>hk
  ·by_cases hb:b=a
   ·exact .inr ⟨_,_,Qk hb⟩
   ·exact .inl (Qn hb)
  ·by_cases hb:b=a
   ·have z':=(Qk hb).symm.trans z;cases z';subst hb;exact ⟨ha,by rw [Q0];exact hl,vs,_,rv,ha⟩
   ·have z':=(Qn hb).symm.trans z;cases z'
  ·by_cases hb:b=a
   ·exact hb
   ·exact absurd (Qn hb) z
abbrev KOf {K:W.Frag} {h:Heap} (_:K.In h):W.Frag:=K
theorem Qs3 {l:W.OpenLaw} {n k:Nat} {q:Program} {loose:List Str} {XP:(Str->Option Value)->Heap->Prop} {YP:World->Heap->Prop} {d:DefRec} {K:Params->W.Frag} {CX:World->CXT} {sp:World->Sp} {x:Str}
  (hn:l.most=some n) (hn2:n<=sizeLine) (hdf:d.params.defaults=[]) (hr:Room k callerA)
  (hY: ∀ (w:World) (h:Heap),YP w h->(K w.params).In h)
  (F: ∀ (w:World) (mg:Str->Option Value) (fa:Addr) (h:Heap),(K w.params).In h->h.Ns mainGlobals mg->mg d.name=some (.ref fa) ->
   ∃ fd:FuncData,(∀ (s:Shared) (u:Value),BindsTo s fd ⟨[u],[]⟩ [(x,u)]) /\
    ∀ base:Heap,(K w.params).In base->base.Ns mainGlobals mg->FnOk l.prog w (K w.params) mg base (CX w) k fa fd [x] (sp w))
  (hsp: ∀ (w:World) (H:Hp) (a:Addr) (ns:List Int),ns.length<=n->Only H->SqL (K w.params) H a (ns.map V.int)->sp w [.ref a] H (fun v _=>v= .bl true) fun _ _ _=>False)
  (hCX: ∀ (w:World) (H:Hp) (s:Shared) (e:Value) (s':Shared),CX w [] H s (fun _ _ _=>False) e s'->False) :
  W.WalkO q loose XP YP l.row.toRowW d [] (fun f vs=>PySem.call f vs):=by
 refine Att.attach_call hn hdf fun w s₀ s₁ mg mb fa o pm cd doc a vs ns G Y ho hd hcd hmg hobj hints hlen hg=> ?_
 have KX:=hY w _ Y;obtain ⟨fd,hb,hF⟩:=F w mg fa _ KX G.T.g hmg;exact Qqg KX G.T.g G.T.b G.T.builtins G.T.nolimit hg hobj hints (Qz hlen hn2) hr hF hb (fun H hO hS=>hsp w H a ns hlen hO hS) fun H e s'=>hCX w H s₁ e s'
theorem Qnu {l:W.OpenLaw} {n k:Nat} {q:Program} {loose:List Str} {XP:(Str->Option Value)->Heap->Prop} {YP:World->Heap->Prop} {d:DefRec} {K:Params->W.Frag} {CX:CXT} {sp:W.Frag->Sp} {x:Str}
  (hn:l.most=some n) (hn2:n<=sizeLine) (hdf:d.params.defaults=[]) (hr:Room k callerA)
  (hY: ∀ (w:World) (h:Heap),YP w h->(K w.params).In h)
  (F: ∀ (w:World) (mg:Str->Option Value) (fa:Addr) (h:Heap),(K w.params).In h->h.Ns mainGlobals mg->mg d.name=some (.ref fa) ->
   ∃ fd:FuncData,(∀ (s:Shared) (u:Value),BindsTo s fd ⟨[u],[]⟩ [(x,u)]) /\
    ∀ base:Heap,(K w.params).In base->base.Ns mainGlobals mg->FnOk l.prog w (K w.params) mg base CX k fa fd [x] (sp (K w.params)))
  (hsp: ∀ (K:W.Frag) (H:Hp) (a:Addr) (ns:List Int),ns.length<=n->Only H->SqL K H a (ns.map V.int)->sp K [.ref a] H (fun v _=>v= .bl true) fun _ _ _=>False)
  (hCX: ∀ (H:Hp) (s:Shared) (e:Value) (s':Shared),CX [] H s (fun _ _ _=>False) e s'->False) :
  W.WalkO q loose XP YP l.row.toRowW d [] (fun f vs=>PySem.call f vs) :=
 Qs3 (K:=K) (CX:=fun _=>CX) (sp:=fun w=>sp (K w.params)) hn hn2 hdf hr hY F (fun w H a ns h1 h2 h3=>hsp (K w.params) H a ns h1 h2 h3) fun _ H s e s'=>hCX H s e s'
def Y1 (s:Stmt):Arguments:=match s with
 | .FunctionDef _ a _ _ _ _ _ _ _ _=>a
 | _=>{ posonlyargs:=[],args:=[],vararg:=none,kwonlyargs:=[],kw_defaults:=[],kwarg:=none,defaults:=[] }
def W7 (s:Stmt):List Stmt:=match s with
 | .FunctionDef _ _ b _ _ _ _ _ _ _=>b
 | _=>[]
def Vs (s:Stmt):Scope:=match s with
 | .FunctionDef _ _ _ _ _ _ sc _ _ _=>sc
 | _=>{ kind:= .function,names:=[],isGenerator:=false,isCoroutine:=false }
abbrev CX0:CXT:=fun _ _ _ _ _ _=>False
abbrev E0:XK:=fun _ _ _=>False
theorem pass0 {X:Cx}:Passes CX0 X E0:=fun _ _ _ _ _ _ _ h=>h.elim
structure Fun (K:W.Frag) (x qual:Str) (st:Stmt) (f:Addr) (fd:FuncData):Prop where
 ex: ∃ (oc:Value) (od:Option Addr) (kV doc pm:Value) (an:Option Addr) (cdv ct:Value) (osl:Array (Option Value)),
  fd=W.fnOf x qual (Y1 st) (W7 st) (Vs st) .none kV doc pm an cdv ct/\K.lookup f=some ⟨oc,od,.func fd,osl⟩/\W.codeIn K cdv qual=true
 kp:W.keepIn K (.ref f)=true
section
variable {P:Program} {w:World} {K:W.Frag} {mg:Str->Option Value} {base:Heap}
theorem Fun.ok {x qual:Str} {st:Stmt} {f:Addr} {fd:FuncData} {N ps:List Str} {k:Nat} {sp:Sp} (F:Fun K x qual st f fd) (S:Vf N ps (Vs st)) (len: ∀ vs H Q E,sp vs H Q E->vs.length=ps.length)
  (hbody: ∀ (cdv:Value) (A:Around) (outer:List Env) (s:Shared) (H:Hp) (vs:List V) (Q:VK) (E:XK),Room k (A.deeper (envOfC qual (Vs st) s.heap.objs.size f cdv))->sp vs H Q E ->
   ∃ t,PSs (Ug CX0 P w K mg base N qual (Vs st) f cdv A outer s H E).nox (W7 st) t/\t { nx:=fun _ H'=>Q .non H',rt:=Q } (start N vs) H):FnOk P w K mg base CX0 (k+1) f fd ps sp:=by
 obtain ⟨oc,od,kV,doc,pm,an,cdv,ct,osl,rfl,lk,hcd⟩:=F.ex;refine Qvl lk hcd S len fun A outer s H vs Q E hr hsp=> ?_
 obtain ⟨t,h,q⟩:=hbody cdv A outer s H vs Q E hr hsp;exact ⟨t,h.nox,q⟩
theorem Fun.binds {x qual:Str} {st:Stmt} {f:Addr} {fd:FuncData} {ps:List Str} (F:Fun K x qual st f fd)
  (h: ∀ (kV doc pm:Value) (an:Option Addr) (cdv ct:Value) (us:List Value),us.length=ps.length->bindArgs (W.fnOf x qual (Y1 st) (W7 st) (Vs st) .none kV doc pm an cdv ct) ⟨us,[]⟩=pure (ps.zip us)):Binds K fd ps []:=by
 obtain ⟨oc,od,kV,doc,pm,an,cdv,ct,osl,rfl,lk,hcd⟩:=F.ex;exact .all (h kV doc pm an cdv ct)
theorem Qj4 {x qual:Str} {st:Stmt} {f:Addr} {oc:Value} {od an:Option Addr} {osl:Array (Option Value)} {kV doc pm cdv ct:Value} (l:K.lookup f=some ⟨oc,od,.func (W.fnOf x qual (Y1 st) (W7 st) (Vs st) .none kV doc pm an cdv ct),osl⟩)
  (c:W.codeIn K cdv qual=true) (k:W.keepIn K (.ref f)=true):Fun K x qual st f (W.fnOf x qual (Y1 st) (W7 st) (Vs st) .none kV doc pm an cdv ct):=⟨⟨oc,od,kV,doc,pm,an,cdv,ct,osl,rfl,l,c⟩,k⟩
end
theorem Bv {A:Around} {k:Nat} (hr:Room k A):A.units+1 < cLine:=QZ (Nat.add_le_add_left (by decide:1<=64) _) hr.units
theorem OT {A B:Prop} (h:B):if false=true then A else B:=by
 rw [Qn Qy];exact h
theorem Qbk {A B:Prop} (h:A):if true=true then A else B:=by
 rw [Qk rfl];exact h
def Same (H H':Hp):Prop:= ∀ b o,H b=some o->H' b=some o
theorem Same.refl (H:Hp):Same H H:=fun _ _ h=>h
theorem Same.trans {H H1 H2:Hp} (a:Same H H1) (b:Same H1 H2):Same H H2:=fun c o h=>b c o (a c o h)
theorem Same.free {H H':Hp} (e:Same H H') {l:Addr} (h:H' l=Option.none):H l=Option.none:=by
 cases q:H l with
 | none=>rfl
 | some o =>
  rw [e l o q] at h;cases h
theorem Same.seq {K:W.Frag} {H H':Hp} {a:Addr} {xs:List V} (e:Same H H') (h:SqL K H a xs):SqL K H' a xs:=by
 rcases h with (h | ⟨o,h⟩) | h
 ·exact .inl (.inl (e _ _ h))
 ·exact .inl (.inr ⟨o,e _ _ h⟩)
 ·exact .inr h
def ZW (scope:Scope) (env:Env):List (Str×Addr) :=
 (scope.names.filterMap fun y=>if y.2 == .free then (env.cells.lookup y.1).map fun a=>(y.1,a) else none).reverse
theorem Qqa {scope:Scope} {env:Env} {y:Str} {c:Addr} (h:(y,c)∈ZW scope env):env.cells.lookup y=some c:=by
 unfold ZW at h;rw [List.mem_reverse,Zb] at h;obtain ⟨⟨n,k⟩,_,e⟩:=h;split at e
 ·cases q:env.cells.lookup n with
  | none=>simp [q] at e
  | some a =>
   simp [q] at e;obtain ⟨rfl,rfl⟩:=e;exact q
 ·cases e
theorem W3 {scope:Scope} {env:Env} {y:Str} {c:Addr} (h:(ZW scope env).lookup y=some c):env.cells.lookup y=some c :=
 Qqa (Wt h)
theorem Qhk {scope:Scope} {env:Env} {y:Str} {c:Addr} (hm:(y,NameKind.free)∈scope.names) (h:env.cells.lookup y=some c):(ZW scope env).lookup y=some c:=by
 have hmem:(y,c)∈ZW scope env:=by
  unfold ZW;rw [List.mem_reverse,Zb];exact ⟨(y,.free),hm,by simp [h]⟩
 cases q:(ZW scope env).lookup y with
 | none =>
  exfalso;have: ∀ (l:List (Str×Addr)),l.lookup y=none->(y,c) ∉ l:=by
   intro l
   induction l with
   | nil=>intro _ z;cases z
   | cons a r ih =>
    obtain ⟨n,d⟩:=a;intro e z;rw [Qnm] at e;cases hb:(y == n) with
    | true=>simp [hb] at e
    | false =>
     simp only [hb] at e;rcases Qd.mp z with z | z
     ·injection z with z1 _
      subst z1;simp at hb
     ·exact ih e z
  exact this _ q hmem
 | some d =>
  have:=W3 q;rw [h] at this;cases this;rfl
def Gn (env:Env) (x:Str×NameKind) (cs:List (Str×Addr)):Sem (ForInStep (List (Str×Addr))) :=
 match x with
 | (name,kind)=>if (kind == NameKind.free)=true then do
   let a<-cellOf env name
   pure (ForInStep.yield ((name,a)::cs))
  else pure (ForInStep.yield cs)
theorem ZL {scope:Scope} {env:Env} (h: ∀ y∈scope.names,y.2= .free->(env.cells.lookup y.1).isSome=true):closureFor scope env=pure (ZW scope env):=by
 have go: ∀ (l:List (Str×NameKind)) (acc:List (Str×Addr)),(∀ y∈l,y.2= .free->(env.cells.lookup y.1).isSome=true) ->
   forIn (m:=Sem) l acc (Gn env)=pure ((l.filterMap fun y=>if y.2 == .free then (env.cells.lookup y.1).map fun a=>(y.1,a) else none).reverse++acc):=by
  intro l
  induction l with
  | nil=>intro acc _;rfl
  | cons y r ih =>
   obtain ⟨n,k⟩:=y;intro acc hy;have hr:=fun y hm=>hy y (Q9 _ hm)
   rw [Qck];cases hk:(k == NameKind.free) with
   | false =>
    have e:Gn env (n,k) acc=pure (ForInStep.yield acc):=by simp [Gn,hk]
    rw [e];show forIn (m:=Sem) r acc (Gn env)=_;rw [ih acc hr];have hk2:k≠ .free:=by simpa using hk
    simp [Wu,hk2]
   | true =>
    have hk':k= .free:=by simpa using hk
    have hs:=hy (n,k) Q7 hk';cases q:env.cells.lookup n with
    | none=>rw [q] at hs;cases hs
    | some a =>
     have e:Gn env (n,k) acc=pure (ForInStep.yield ((n,a)::acc)):=by
      simp only [Gn,hk,Zx,cellOf,q];rfl
     rw [e];show forIn (m:=Sem) r ((n,a)::acc) (Gn env)=_;rw [ih ((n,a)::acc) hr];simp [Wu,hk',q]
 have:=go scope.names [] h;rw [JM] at this;unfold closureFor;show (forIn (m:=Sem) scope.names [] (Gn env) >>= fun cs=>pure cs)=_;rw [this];rfl
def relab (env:Env) (y:Str×NameKind):Str×NameKind:=match y with
 | (n,k)=>if (k == NameKind.free && env.scope.kind == .function && env.kindOf n == some .cell)=true then (n,.cell) else (n,k)
theorem Gf {scope:Scope} {env:Env} (y:Str):(relabel scope env).names.lookup y =
  (scope.names.lookup y).map fun k=>if (k == .free && env.scope.kind == .function && env.kindOf y == some .cell)=true then .cell else k:=by
 show List.lookup y (scope.names.map (relab env))=_
 induction scope.names with
 | nil=>rfl
 | cons a r ih =>
  obtain ⟨n,k⟩:=a;rw [Qp];have e1:(relab env (n,k))=(n,if (k == .free && env.scope.kind == .function && env.kindOf n == some .cell)=true then .cell else k):=by
   unfold relab;simp only;split<;>rfl
  rw [e1,Qnm,Qnm];cases hb:(y == n) with
  | true =>
   have e:y=n:=by simpa using hb
   subst e;rfl
  | false=>exact ih
structure CompOk (N:List Str) (osc:Scope) (x:Str) (scope:Scope):Prop where
 kind:scope.kind= .function
 nocell: ∀ y∈scope.names,y.2≠ .cell
 names: ∀ y∈scope.names,y.2= .local->scope.names.lookup y.1=some .local
 hx:scope.names.lookup x=some .local
 only: ∀ y∈N,scope.names.lookup y≠some .local
 free: ∀ y∈scope.names,y.2= .free->osc.names.lookup y.1=some .cell \/ osc.names.lookup y.1=some .free
 nd:(x::N).Nodup
def WL (N:List Str) (osc:Scope) (x:Str) (scope:Scope):Bool :=
 (scope.kind == .function) && scope.names.all (fun y=> !(y.2 == .cell)) && scope.names.all (fun y=> !(y.2 == .local) || scope.names.lookup y.1 == some .local) &&
 (scope.names.lookup x == some .local) && N.all (fun y=> !(scope.names.lookup y == some .local)) &&
 scope.names.all (fun y=> !(y.2 == .free) || (osc.names.lookup y.1 == some .cell || osc.names.lookup y.1 == some .free)) && decide ((x::N).Nodup)
theorem CompOk.of {N:List Str} {osc:Scope} {x:Str} {scope:Scope} (h:WL N osc x scope=true):CompOk N osc x scope:=by
 unfold WL at h;simp only [Qv,OP,QD,beq_iff_eq,Bool.or_eq_true,ZA,Ws] at h;obtain ⟨⟨⟨⟨⟨⟨h1,h2⟩,h3⟩,h4⟩,h5⟩,h6⟩,h7⟩:=h;refine ⟨by simpa using h1,fun y hy e=> ?_,fun y hy e=> ?_,h4,fun y hy e=> ?_,fun y hy e=> ?_,h7⟩
 ·have:=h2 y hy;simp [e] at this
 ·have:=h3 y hy;simpa [e] using this
 ·have:=h5 y hy;simp [e] at this
 ·have:=h6 y hy;simpa [e] using this
def cxC (X:Cx) (x:Str) (scope:Scope) (cl:List (Str×Addr)) (C:Addr) (s:Shared) (H:Hp) (ex:List Addr):Cx where
 prog:=X.prog
 w:=X.w
 K:=X.K
 mg:=X.mg
 base:=X.base
 A:=X.A
 N:=x::X.N
 s₀:=s
 H₀:=H
 env:=compEnvC scope cl C X.env
 outer:=X.stack
 stack:=X.stack
 ex:=ex
 fn:=fun _=>false
 calm:=X.calm
 pn:=[]
 xe:=fun _ _=>False
section
variable {X:Cx} {pins:List (Addr×Obj)} {σ:St} {H:Hp} {s:Shared}
theorem CompOk.cells {x:Str} {scope:Scope} (ok:CompOk X.N X.env.scope x scope) (I:Inv X pins σ H s) {y:Str} (hy:(y,NameKind.free)∈scope.names): ∃ c,X.env.cells.lookup y=some c :=
 I.ok.has y (ok.free (y,.free) hy rfl)
theorem Qds {x:Str} {scope:Scope} {fp:List Addr} {h1:Heap} {C:Addr} {m0:Str->Option Value} {t:Nat} (ok:CompOk X.N X.env.scope x scope) (I:Inv X pins σ H s)
  (hf: ∀ b∈fp,FpOk X pins H b) (ho: ∀ b∈fp,∃ o,s.heap.get? b=some o) (hC:s.heap.objs.size<=C) (kp: ∀ b o,s.heap.get? b=some o->h1.get? b=some o) (ns:h1.Ns C m0) :
  Inv (cxC X x scope (ZW scope X.env) C s H fp) [] (none::σ) H { s with heap:=h1,toks:=t }:=by
 have inner: ∀ y,((relabel scope X.env).names.lookup y=some .cell \/ (relabel scope X.env).names.lookup y=some .free)->(y,NameKind.free)∈scope.names:=fun y hy=>by
  rw [Gf] at hy;cases q:scope.names.lookup y with
  | none=>rw [q] at hy;simp at hy
  | some k =>
   have hm:=Wt q;cases k with
   | free=>exact hm
   | cell=>exact absurd rfl (ok.nocell _ hm)
   | _=>rw [q] at hy;simp at hy
 refine ⟨⟨I.ok.mod,ok.kind,I.ok.glob,I.ok.blt,hC,fun y z c h1 h2=>I.ok.inj y z c (W3 h1) (W3 h2),fun y hy=> ?_,fun y c hy _=>absurd hy (by show ¬ (false=true);simp),I.ok.hd,I.ok.frames,.inl rfl,fun b hb=>⟨?_,fun y c e=>(hf b hb).2.2.2.2.1 y c (W3 e)⟩,
   I.bs,Qz I.ok.bsz I.sz,fun b o e hb=> ?_,fun b hb z=> ?_,I.stack,I.stkFree⟩,rfl,I.bare,Un.kept kp,⟨m0,ns,fun i y v e1 e2 e3=> ?_⟩,fun y c e=> ?_,I.hok.fresh hC,fun y c e=>I.freeC y c (W3 e),fun p hp=>absurd (show p∈([]:List (Addr×Obj)) from hp) (by simp),I.hok.kept kp,?_⟩
 ·have hm:=inner y hy;obtain ⟨c,e⟩:=ok.cells I hm;exact ⟨c,Qhk hm e⟩
 ·obtain ⟨o,e⟩:=ho b hb;exact Qq (Qr (Qa e) hC)
 ·rcases (hf b hb).2.2.2.1 with z | z
  ·exact I.ok.noex b o e z
  ·exact absurd (Qr (Qa (I.ok.bs b o e).1) z) (W8 _)
 ·rcases Qd.mp (I.stkSub b z) with z | z
  ·exact (hf b hb).2.1 z
  ·exact (hf b hb).2.2.1 z
 ·cases i with
  | zero =>
   have:(none:Option V)=some v:=by simpa using e2
   cases this
  | succ i =>
   have e1':X.N[i]? =some y:=by simpa [cxC] using e1
   have e2':σ[i]? =some (some v):=by simpa using e2
   have hy:y∈X.N:=Q4 e1';have e3':(relabel scope X.env).names.lookup y=some .cell \/ (relabel scope X.env).names.lookup y=some .free:=by
    rcases e3 with e3 | e3 | e3
    ·exfalso;have e3:(relabel scope X.env).names.lookup y=some .local:=e3;rw [Gf] at e3;cases q:scope.names.lookup y with
     | none=>rw [q] at e3;simp at e3
     | some k =>
      rw [q] at e3
      by_cases hk:k= .local
      ·exact ok.only y hy (by rw [q,hk])
      ·simp only [Option.map_some,Option.some.injEq] at e3;split at e3
       ·cases e3
       ·exact hk e3
    ·exact .inl e3
    ·exact .inr e3
   have hm:=inner y e3';have vis:Vis X.env.scope y:=by
    rcases ok.free _ hm rfl with z | z
    ·exact .inr (.inl z)
    ·exact .inr (.inr z)
   obtain ⟨m,_,hl⟩:=I.loc;obtain ⟨u,r,l⟩:=hl i y v e1' e2' vis;refine ⟨u,r,.inr ⟨e3',?_⟩⟩;rcases l with ⟨k,_⟩ | ⟨_,c,e,z⟩
   ·rcases ok.free _ hm rfl with z | z
    ·have k':X.env.scope.names.lookup y=some .local:=k;rw [z] at k';cases k'
    ·have k':X.env.scope.names.lookup y=some .local:=k;rw [z] at k';cases k'
   ·exact ⟨c,Qhk hm e,z.keeps kp⟩
 ·obtain ⟨v,z⟩:=I.cell y c (W3 e);exact ⟨v,z.keeps kp⟩
 ·show (none::σ).length=(x::X.N).length;simp [I.len]
def PTs (X:Cx) (ifs:List Expr) (t:TT):Prop :=
 ∀ (pins:List (Addr×Obj)) (s:Shared) (σ:St) (H:Hp) (Q:Bool->Hp->Prop),Inv X pins σ H s->t σ H Q ->
  wpAny (model X.prog X.w) X.A (forIn ifs true fun c r=>if r=true then do let ok<-isTrue c X.env (eval c X.env);pure (ForInStep.yield ok) else pure (ForInStep.yield r)) (TP X pins σ Q) X.xe s
def Qei:TT:=fun _ H Q=>Q true H
theorem Bp:PTs X [] Qei:=fun _ _ _ H _ I h=>Qe ⟨H,I,h⟩
theorem Qso {c:Expr} {t:TT} (h:PT X c t):PTs X [c] t:=by
 intro pins s σ H Q I hw;simp only [Qck,Qw0,Zx];exact Q1 (Q1 (thn (h pins s σ H Q I hw) fun b s' hb=>Qe (Qe hb)))
def Qo2 (wi:TI) (tc:TT) (te:TE):TE:=fun σ H Q=>wi σ H fun J H1=> ∃ W:Nat->Nat->List V->Hp->Prop,(∃ m,W 0 m [] H1)/\ ∀ i m ys H,W i m ys H ->
 (J.stop i H/\ ∀ p,H p=none->Q (.ref p) (upd H p (.lst ys))) \/
 (J.go i H/\ys.length < sizeLine/\ ∀ x H',J.yld i H x H'->tc (some x::σ) H' fun b H''=>if b=true then te (some x::σ) H'' (fun y H3=> ∃ m',m' < m/\W (i+1) m' (ys++[y]) H3) else ∃ m',m' < m/\W (i+1) m' ys H'')
def lobj (its:List Value) (k:Nat):Obj:={ cls:= .type "list",data:= .seq its.toArray k }
theorem Qc8 {elt iter:Expr} {x:Str} {px:Pos} {ifs:List Expr} {scope:Scope} {pos:Pos} {tc:TT} {te:TE} {J:It} {fp:List Addr} {it:Addr} {tn:Nat->Heap->Prop} {RR:Value->Addr->Result->Shared->Prop} {E:Value->Shared->Prop}
  (ok:CompOk X.N X.env.scope x scope) (hc:X.calm=true) (hifs: ∀ cl C s H ex,PTs (cxC X x scope cl C s H ex) ifs tc) (helt: ∀ cl C s H ex,PE (cxC X x scope cl C s H ex) elt te)
  (I:Inv X pins σ H s) (T:Turn X.prog X.w X.K (.Name x px) J fp it tn) (st:tn 0 s.heap) (hf: ∀ b∈fp,FpOk X pins H b) {W:Nat->Nat->List V->Hp->Prop} (w0: ∃ m,W 0 m [] H) {Qf:List V->Hp->Prop}
  (turn: ∀ i m ys H,W i m ys H->(J.stop i H/\Qf ys H) \/
   (J.go i H/\ys.length < sizeLine/\ ∀ x H',J.yld i H x H'->tc (some x::σ) H' fun b H''=>if b=true then te (some x::σ) H'' (fun y H3=> ∃ m',m' < m/\W (i+1) m' (ys++[y]) H3) else ∃ m',m' < m/\W (i+1) m' ys H''))
  (fin: ∀ D C s' H' ys its k,s.heap.objs.size<=D->s.heap.objs.size<=C->D≠C->Inv (cxC X x scope (ZW scope X.env) C s H fp) [(D,lobj its k)] (none::σ) H' s'->Vals ys its->ys.length<=sizeLine->Qf ys H'->RR (.ref D) C (.ok .next) s') :
  wpAny (model X.prog X.w) X.A (newList []) (fun acc s₃=>wpAny (model X.prog X.w) X.A (newFunctionEnv scope X.env.globals (ZW scope X.env) [] X.env.qual none .none (some X.env)) (fun cenv s₄ =>
   codeAny (model X.prog X.w) X.A (.compStart (.ListComp elt [⟨.Name x px,iter,ifs,0⟩] scope pos) 0 (.ref it) acc { cenv with scope:=relabel scope X.env }) (RR acc cenv.locals) s₄) E s₃) E s:=by
 refine JN (wpAny_newFunctionEnv ok.nocell (by intro y hy;simp at hy) (fun h₁ hns₁ hsb₁=> ?_) ok.kind);dsimp only at hns₁ hsb₁ ⊢;generalize hH2:s.heap.push { cls:= .type "list",dict:=none,data:= .seq ([]:List Value).toArray }=H2 at hns₁ hsb₁ ⊢;have hCs:H2.objs.size=s.heap.objs.size+1:=by rw [<- hH2,WV]
 have hDC:s.heap.objs.size≠H2.objs.size:=by rw [hCs];exact Qq (OK _)
 have hCle:s.heap.objs.size<=H2.objs.size:=by rw [hCs];exact Yx _
 have old: ∀ b o,s.heap.get? b=some o->h₁.get? b=some o:=fun b o e=>hsb₁.extBut b o (Qq (Qr (Qa e) hCle)) (Q2 _ (hH2 ▸ Q2 _ e))
 have hacc:h₁.get? s.heap.objs.size=some (lobj [] 0):=hsb₁.extBut _ _ hDC (Q2 _ (hH2 ▸ Qg _ rfl));have hobj: ∀ b∈fp,∃ o,s.heap.get? b=some o:=fun b hb=>let ⟨o,e,_⟩:=T.obj 0 _ st b hb;⟨o,e⟩
 have fpD: ∀ b∈fp,b≠s.heap.objs.size:=fun b hb=>let ⟨o,e⟩:=hobj b hb;Qq (Qa e)
 have fpC: ∀ b∈fp,b≠H2.objs.size:=fun b hb=>let ⟨o,e⟩:=hobj b hb;Qq (Qr (Qa e) hCle)
 have st1:tn 0 h₁:=T.keep 0 _ _ st fun b _ o e=>old b o e
 generalize hXc:cxC X x scope (ZW scope X.env) H2.objs.size s H fp=Xc;have eP:Xc.prog=X.prog:=by rw [<- hXc];rfl
 have eW:Xc.w=X.w:=by rw [<- hXc];rfl
 have eK:Xc.K=X.K:=by rw [<- hXc];rfl
 have eA:Xc.A=X.A:=by rw [<- hXc];rfl
 have eL:Xc.env.locals=H2.objs.size:=by rw [<- hXc];rfl
 have eE:Xc.env=compEnvC scope (ZW scope X.env) H2.objs.size X.env:=by rw [<- hXc];rfl
 have eX:Xc.ex=fp:=by rw [<- hXc];rfl
 have eS:Xc.s₀=s:=by rw [<- hXc];rfl
 have eN:Xc.N=x::X.N:=by rw [<- hXc];rfl
 have eQ:Xc.pn=[]:=by rw [<- hXc];rfl
 have eF:Xc.xe=fun _ _=>False:=by rw [<- hXc];rfl
 have eO:Xc.fs=frs X.stack:=by rw [<- hXc];rfl
 have eCm:Xc.calm=true:=by rw [<- hXc];exact hc
 have hifs':PTs Xc ifs tc:=hXc ▸ hifs _ _ _ _ _;have helt':PE Xc elt te:=hXc ▸ helt _ _ _ _ _;have nfsD:s.heap.objs.size ∉ Xc.fs:=fun z=>by
  rw [eO] at z;rcases Qd.mp (I.stkSub _ z) with z | z
  ·exact absurd I.lt (by rw [<- z];exact W8 _)
  ·exact I.nofs (Q6 _) z
 have cellD: ∀ y c,Xc.env.cells.lookup y=some c->c≠s.heap.objs.size:=fun y c e=>by
  rw [eE] at e;obtain ⟨v,z⟩:=I.cell y c (W3 e);exact Qq z.lt
 have cellF: ∀ b∈fp,∀ y c,Xc.env.cells.lookup y=some c->c≠b:=fun b hb y c e=>by
  rw [eE] at e;exact (hf b hb).2.2.2.2.1 y c (W3 e)
 have nfsF: ∀ b∈fp,b ∉ Xc.fs:=fun b hb z=>by
  rw [eO] at z;rcases Qd.mp (I.stkSub _ z) with z | z
  ·exact (hf b hb).2.1 z
  ·exact (hf b hb).2.2.1 z
 have fpOkC: ∀ {H':Hp} {o:Obj},(∀ b∈fp,H' b=none)-> ∀ b∈fp,FpOk Xc [(s.heap.objs.size,o)] H' b:=fun {H' o} hn b hb =>
  ⟨hn b hb,by rw [eL];exact fpC b hb,nfsF b hb,.inl (by rw [eX];exact hb),cellF b hb,fun p hp=>by
   rw [eQ] at hp;have e:p=(s.heap.objs.size,o):=by simpa using hp
   rw [e];exact J5 (fpD b hb)⟩
 have pinD: ∀ {σ':St} {H':Hp} {s':Shared} {its:List Value} {k:Nat},Inv Xc [] σ' H' s'->s'.heap.get? s.heap.objs.size=some (lobj its k)->H' s.heap.objs.size=none->Inv Xc [(s.heap.objs.size,lobj its k)] σ' H' s':=fun {σ' H' s' its k} I' e n =>
  I'.pins_of fun p hp=>by
   have z:p=(s.heap.objs.size,lobj its k):=by simpa using hp
   subst z;exact ⟨e,n,by rw [eL];exact hDC,nfsD,fun v z=>by cases z⟩
 have loop: ∀ s₃:Shared,s₃={ s with heap:=h₁,toks:=s.toks+([]:List (Str×Value)).length } ->
   codeAny (model X.prog X.w) X.A (.compLoop (.ListComp elt [⟨.Name x px,iter,ifs,0⟩] scope pos) 0 (.ref it) (.ref s.heap.objs.size) Xc.env) (RR (.ref s.heap.objs.size) H2.objs.size) s₃:=by
  rintro s₃ rfl;obtain ⟨m0,w0⟩:=w0;have I0:Inv Xc [] (none::σ) H { s with heap:=h₁,toks:=s.toks+([]:List (Str×Value)).length }:=hXc ▸ Qds ok I hf hobj hCle old hns₁;refine codeAny_compLoop_tests (fun n s'=> ∃ i ys its H' k,Inv Xc [(s.heap.objs.size,lobj its k)] (none::σ) H' s'/\tn i s'.heap/\(∀ b∈fp,H' b=none)/\Vals ys its/\ys.length<=sizeLine/\W i n ys H') ?_ m0
   ⟨0,[],[],H,0,pinD I0 hacc (I.hok.fresh (Q6 _)),st1,fun b hb=>(hf b hb).1,.nil,Jd _,w0⟩
  rintro n s3 ⟨i,ys,its,H3,k,I3,st3,fr3,rv,hlen3,w3⟩;rcases turn i n ys H3 w3 with ⟨stop,q⟩ | ⟨go,hlen,step⟩
  ·have hd:=T.done Xc eP eW eK eCm i _ s3 (none::σ) H3 (notedBy (model X.prog X.w) X.A Xc.env fun e s'=>RR (.ref s.heap.objs.size) H2.objs.size (.error e) s') I3 (fpOkC fr3) st3 stop;rw [eA] at hd;refine thn hd fun r s4 ⟨hr,I4⟩=> ?_
   subst hr;exact fin _ _ s4 H3 ys its k (Q6 _) hCle hDC (hXc ▸ I4) rv hlen3 q
  ·have hd:=T.item Xc eP eW eK eCm i _ s3 (none::σ) H3 (notedBy (model X.prog X.w) X.A Xc.env fun e s'=>RR (.ref s.heap.objs.size) H2.objs.size (.error e) s') I3 (fpOkC fr3) st3 go;rw [eA] at hd;refine thn hd fun r s4 ⟨u,hr,h4⟩=> ?_
   subst hr;show wpAny (model X.prog X.w) X.A (letOwnedTupleGo (.Name x px) (.ref it) u >>= fun _=>assign (.Name x px) Xc.env u) _ _ s4;refine Q1 (thn h4 fun _ s5 ⟨v,H5,I5,r5,y5,st5,fr5⟩=> ?_);have I5':=I5.pinned (fpOkC fr5) (T.obj _ _ st5);refine Qcj (Bl (i:=0) I5' (by rw [eN];exact ok.nd) (by rw [eN];rfl) (.inl (by rw [eE];exact Z2 ok.hx)) r5 (fun s6 I6=> ?_) (.inr (by rw [eE];exact Z2 ok.hx)));have I6':Inv Xc ([(s.heap.objs.size,lobj its k)]++UA fp s5.heap) (some v::σ) H5 s6:=I6;have ht:=hifs' _ s6 (some v::σ) H5 _ I6' (step v H5 y5);rw [eP,eW,eA,eF] at ht;refine Jo ht (fun b s7 ⟨H7,I7,q7⟩=> ?_) fun _ _ f=>f.elim
   have back: ∀ {H':Hp} {s':Shared},Inv Xc ([(s.heap.objs.size,lobj its k)]++UA fp s5.heap) (some v::σ) H' s' ->
     s'.heap.get? s.heap.objs.size=some (lobj its k)/\H' s.heap.objs.size=none/\tn (i+1) s'.heap/\(∀ b∈fp,H' b=none)/\Inv Xc [] (none::σ) H' s':=fun {H' s'} J'=>by
    have hp: ∀ p∈[(s.heap.objs.size,lobj its k)]++UA fp s5.heap,s'.heap.get? p.1=some p.2/\H' p.1=none:=fun p hp=>⟨(J'.pin p (QG _ hp)).1,(J'.pin p (QG _ hp)).2.1⟩
    refine ⟨(hp (s.heap.objs.size,lobj its k) (by simp)).1,(hp (s.heap.objs.size,lobj its k) (by simp)).2,T.keep _ _ _ st5 fun b hb o e=>(hp (b,o) (QG _ (ZI hb e))).1,fun b hb=> ?_,?_⟩
    ·obtain ⟨o,e,_⟩:=T.obj _ _ st5 b hb;exact (hp (b,o) (QG _ (ZI hb e))).2
    ·refine (J'.pins_of (pins':=[]) fun p hp=>by cases hp).weak (by simp) fun j w e=> ?_
     cases j with
     | zero =>
      have:(none:Option V)=some w:=by simpa using e
      cases this
     | succ j=>simpa using e
   cases b with
   | false =>
    obtain ⟨m',hm,w7⟩:=(show (if false=true then _ else ∃ m',m' < n/\W (i+1) m' ys H7) from q7);obtain ⟨e,hn,st7,fr7,J7⟩:=back I7;exact ⟨m',hm,i+1,ys,its,H7,k,pinD J7 e hn,st7,fr7,rv,hlen3,w7⟩
   | true =>
    have q7':te (some v::σ) H7 (fun y H3=> ∃ m',m' < n/\W (i+1) m' (ys++[y]) H3):=q7;have he:=helt' _ s7 (some v::σ) H7 _ I7 q7';rw [eP,eW,eA,eF] at he;refine Jo he (fun y s8 ⟨yv,H8,I8,r8,m',hm,w8⟩=> ?_) fun _ _ f=>f.elim
    obtain ⟨e,hn,st8,fr8,J8⟩:=back I8;have hl:=rv.length;refine wpAny_list_append_plain (items:=its.toArray) ⟨k,e⟩ (fun h' pl sb=> ?_) (by rw [Qh];omega);obtain ⟨k',e'⟩:=pl;have e'':h'.get? s.heap.objs.size=some (lobj (its++[y]) k'):=by
     rw [e'];simp [lobj]
    have J9:Inv Xc [] (none::σ) H8 { s8 with heap:=h' }:=J8.turned (t':=s8.toks) (it:=s.heap.objs.size) (fun b o hb q=>(sb.2 b hb).trans q) hn (by rw [eL];exact hDC) (.inr (by rw [eS];exact Q6 _)) cellD (fun p hp=>by
     rw [eQ] at hp;exact absurd hp (by simp))
    refine ⟨m',hm,i+1,ys++[yv],its++[y],H8,k',pinD J9 e'' hn,T.keep _ _ _ st8 fun b hb o q=>(sb.2 b (fpD b hb)).trans q,fr8,rv.append (.cons r8 .nil),?_,w8⟩;rw [Ql];show ys.length+1<=_;omega
 have eE':({ (newEnv scope H2.objs.size X.env.globals (ZW scope X.env) X.env.qual none .none (some X.env) builtinsNs) with scope:=relabel scope X.env }:Env)=Xc.env:=by rw [eE];rfl
 rw [eE'];exact codeAny_compStart_list (loop _ rfl) (T.self X.A 0 _ _ _ st1 (loop _ rfl))
theorem UF {x:Str} {scope:Scope} {fp:List Addr} {D C:Addr} {s':Shared} {H':Hp} {ys:List V} {its:List Value} {k:Nat} {h':Heap} (I:Inv X pins σ H s) (hf: ∀ b∈fp,FpOk X pins H b)
  (hD:s.heap.objs.size<=D) (hC:s.heap.objs.size<=C) (hDC:D≠C) (J:Inv (cxC X x scope (ZW scope X.env) C s H fp) [(D,lobj its k)] (none::σ) H' s') (rv:Vals ys its) (hl:ys.length<=sizeLine) (sb:Heap.SameBut C s'.heap h') :
  Inv X pins σ (upd H' D (.lst ys)) { s' with heap:=h' }/\H' D=none:=by
 obtain ⟨eD,nD,_⟩:=J.pin (D,lobj its k) (by show _∈[]++[_];simp);have nC:H' C=none:=J.free;have u:Un (frs X.stack) fp H H' s.heap s'.heap:=J.base;have neC: ∀ b o,s.heap.get? b=some o->b≠C:=fun b o e=>Qq (Qr (Qa e) hC)
 have neD: ∀ b o,s.heap.get? b=some o->b≠D:=fun b o e=>Qq (Qr (Qa e) hD)
 refine ⟨I.call' (s':={ s' with heap:=h' }) (ch:=fp) J.os ⟨fun b o e n hb hx=>(sb.2 b (neC b o e)).trans (u.keep b o e n hb hx),fun b o e n hb hx=> ?_,fun b o e n hx=> ?_,fun b o e hx=> ?_,fun b xs q=> ?_,fun b o w q=> ?_,fun b ps q=> ?_⟩ ?_ J.bare
  fun b hb=>⟨(hf b hb).2.2.2.1,(hf b hb).2.1,(hf b hb).2.2.2.2.1,(hf b hb).2.2.2.2.2⟩,nD⟩
 ·obtain ⟨sl,z⟩:=u.slot b o e n hb hx;exact ⟨sl,(sb.2 b (neC b o e)).trans z⟩
 ·rw [J1 (neD b o e)];exact u.free b o e n hx
 ·obtain ⟨o',z⟩:=u.there b o e hx;exact ⟨o',(sb.2 b (neC b o e)).trans z⟩
 ·have z:=u.tups b xs q;rw [J1 (Jg z nD)];exact z
 ·have z:=u.frzs b o w q;rw [J1 (Jg z nD)];exact z
 ·obtain ⟨more,z⟩:=u.tbls b ps q;exact ⟨more,by rw [J1 (Jg z nD)];exact z⟩
 ·intro b w e
  by_cases hb:b=D
  ·subst hb;rw [Vu] at e;cases e;exact ⟨hl,its,k,rv,(sb.2 b hDC).trans eD⟩
  ·rw [J1 hb] at e;refine (J.hok b w e).stay (fun c z hc q=>(sb.2 c ?_).trans q) (fun c q=>by rw [J1 (Jg q nD)];exact q) fun c xs q=>by rw [J1 (Jg q nD)];exact q
   rcases hc with rfl | hc
   ·exact Jg e nC
   ·exact Jg hc nC
theorem Qt1 {elt iter:Expr} {x:Str} {px:Pos} {ifs:List Expr} {scope:Scope} {pos:Pos} {wi:TI} {tc:TT} {te:TE} (hc:X.calm=true) (hi:PI X (.Name x px) iter wi)
  (hifs: ∀ cl C s H ex,PTs (cxC X x scope cl C s H ex) ifs tc) (helt: ∀ cl C s H ex,PE (cxC X x scope cl C s H ex) elt te)
  (hok:WL X.N X.env.scope x scope=true:=by rfl) (hs: ∀ x,foldedSetIterable iter X.env x=pure x:=by intro _;rfl) :
  PE X (.ListComp elt [⟨.Name x px,iter,ifs,0⟩] scope pos) (Qo2 wi tc te):=by
 intro pins s σ H Q I h;have ok:=CompOk.of hok;rw [eval_ListComp];refine YI (cl:=ZW scope X.env) (use:=none) rfl hs (ZL fun y hy e=> ?_) ok.kind ok.names ?_
 ·obtain ⟨n,k⟩:=y;cases e;obtain ⟨c,z⟩:=ok.cells I hy;rw [z];rfl
 ·refine thn (hi pins s σ H _ I h) fun v s1 h1=>thn h1 fun itv s2 h2=> ?_
  obtain ⟨it,fp,tn,J,H2,e,I2,T,st2,f2,W,w0,turn⟩:=h2;subst e;refine Qc8 (RR:=fun acc C=>compPost (model X.prog X.w) X.A X.xe none (EP X pins σ Q) acc C) ok hc hifs helt I2 T st2 f2 w0 (Qf:=fun ys H=> ∀ p,H p=none->Q (.ref p) (upd H p (.lst ys))) turn ?_;intro D C s' H' ys its k hD hC hDC J' rv hl q;obtain ⟨m,hn,_⟩:=id J'.loc;refine ⟨m,hn,fun h' sb=> ?_⟩;obtain ⟨I',nD⟩:=UF I2 f2 hD hC hDC J' rv hl sb;exact ⟨.ref D,_,I',rfl,q D nD⟩
theorem Qsr {elt iter:Expr} {x y:Str} {px py:Pos} {ifs:List Expr} {scope:Scope} {pos spos:Pos} {wi:TI} {tc:TT} {te:TE} {i:Nat} (hN:X.N.Nodup) (hyi:X.N[i]? =some y) (hyl:X.env.scope.names.lookup y=some .local) (hc:X.calm=true) (hi:PI X (.Name x px) iter wi)
  (hifs: ∀ cl C s H ex,PTs (cxC X x scope cl C s H ex) ifs tc) (helt: ∀ cl C s H ex,PE (cxC X x scope cl C s H ex) elt te)
  (hok:WL X.N X.env.scope x scope=true:=by rfl) (hs: ∀ x,foldedSetIterable iter X.env x=pure x:=by intro _;rfl)
  (hsw:swapsWith (.ListComp elt [⟨.Name x px,iter,ifs,0⟩] scope pos) (some (.Name y py)) spos.line X.env=pure true:=by rfl) :
  PS X (.Assign [.Name y py] (.ListComp elt [⟨.Name x px,iter,ifs,0⟩] scope pos) spos) (Qs9 (Qo2 wi tc te) (YG i)):=by
 intro pins s σ H Dd I h;have ok:=CompOk.of hok;rw [exec_Assign_Name_used _ _ _ _ hsw];refine Q1 (GX (Q1 ?_));show wpAny _ X.A (do let _<-comprehension (.ListComp elt [⟨.Name x px,iter,ifs,0⟩] scope pos) scope X.env _ (newList []) false (eval iter X.env) (some (assign (.Name y py) X.env))) _ _ s;refine Q1 (Jo (YI (cl:=ZW scope X.env) (use:=some (assign (.Name y py) X.env)) (Q:=fun _ s'=>SP X pins Dd .next s') rfl hs (ZL fun y hy e=> ?_) ok.kind ok.names ?_) (fun _ s' hq=>Qe (Qe hq)) fun _ _ e=>e)
 ·obtain ⟨n,k⟩:=y;cases e;obtain ⟨c,z⟩:=ok.cells I hy;rw [z];rfl
 ·refine thn (hi pins s σ H _ I h) fun v s1 h1=>thn h1 fun itv s2 h2=> ?_
  obtain ⟨it,fp,tn,J,H2,e,I2,T,st2,f2,W,w0,turn⟩:=h2;subst e;refine Qc8 (RR:=fun acc C=>compPost (model X.prog X.w) X.A X.xe (some (assign (.Name y py) X.env)) (fun _ s'=>SP X pins Dd .next s') acc C) ok hc hifs helt I2 T st2 f2 w0 (Qf:=fun ys H=> ∀ p,H p=none->Dd.nx (σ.set i (some (.ref p))) (upd H p (.lst ys))) turn ?_;intro D C s' H' ys its k hD hC hDC J' rv hl q;obtain ⟨m,hn,_⟩:=id J'.loc;obtain ⟨I',nD⟩:=UF I2 f2 hD hC hDC J' rv hl (Heap.SameBut.refl ..);have nC:upd H' D (.lst ys) C=none:=by rw [J1 (J5 hDC)];exact J'.free
  have fC:=I2.fpOk (b:=C) hC nC;show wpAny _ X.A (assign (.Name y py) X.env (.ref D)) _ _ _;refine Qcj (BP (s:=s') I' hN hyi (.inl hyl) (v:= .ref D) rfl (fun s'' I'' ⟨a,sa,ha⟩=> ?_) (.inr hyl));have hCa:C≠a:=by
   rcases ha with ha | ha
   ·rw [ha];exact fC.2.1
   ·exact J5 (fC.2.2.2.2.1 _ _ ha)
  refine ⟨m,hn.sameBut sa hCa,fun h' sb=> ?_⟩;exact ⟨_,_,I''.turned (t':=s''.toks) (fun b o hb e=>(sb.2 b hb).trans e) nC fC.2.1 fC.2.2.2.1 fC.2.2.2.2.1 fC.2.2.2.2.2,q D nD⟩
end
end L2
namespace L2
open PySem
inductive D where
 | non | bl (b:Bool) | int (i:Int) | str (x:Str) | tup (ds:List D) | lst (ds:List D) | dct (fz:Bool) (ks ds:List D)
end L2
namespace L2
open PySem PySem.Spec PyProof.Rows
def Js (ks:List Str) (vs:List V):List (Key×V):=(ks.zip vs).map fun q=>(Sum.inr q.1,q.2)
structure DkAt (fz:Bool) (H:Hp) (p:Addr) (ks:List Str) (vs:List V):Prop where
 len:ks.length=vs.length
 nd:ks.Nodup
 at_:if fz=true then ∃ o,H p=some (.frz o (.dK (Js ks vs))) else H p=some (.dK (Js ks vs))
theorem DkAt.rd {fz:Bool} {H:Hp} {a:Addr} {ks:List Str} {xs:List V} (h:DkAt fz H a ks xs):Rd H a (.dK (Js ks xs)):=by
 have:=h.at_;cases fz
 ·exact .inl this
 ·exact .inr this
theorem Same.dk {fz:Bool} {H H':Hp} {a:Addr} {ks:List Str} {xs:List V} (e:Same H H') (h:DkAt fz H a ks xs):DkAt fz H' a ks xs:=by
 refine ⟨h.len,h.nd,?_⟩;have:=h.at_;cases fz
 ·exact e _ _ this
 ·exact let ⟨o,z⟩:=this;⟨o,e _ _ z⟩
mutual
def Is (K:W.Frag) (H:Hp):D->V->Prop
 | .non,v=>v= .non
 | .bl b,v=>v= .bl b
 | .int i,v=>v= .int i
 | .str x,v=>v= .str x
 | .tup ds,v=> ∃ p vs,v= .ref p/\SqT K H p vs/\Va K H ds vs
 | .lst ds,v=> ∃ p vs,v= .ref p/\SqL K H p vs/\Va K H ds vs
 | .dct fz ks ds,v=> ∃ p ss vs,v= .ref p/\ks=List.map D.str ss/\DkAt fz H p ss vs/\Va K H ds vs
def Va (K:W.Frag) (H:Hp):List D->List V->Prop
 | [],vs=>vs=[]
 | d::ds,vs=> ∃ v r,vs=v::r/\Is K H d v/\Va K H ds r
end
theorem Same.sqT {K:W.Frag} {H H':Hp} {a:Addr} {xs:List V} (e:Same H H') (h:SqT K H a xs):SqT K H' a xs:=by
 rcases h with (h | ⟨o,h⟩) | h
 ·exact .inl (.inl (e _ _ h))
 ·exact .inl (.inr ⟨o,e _ _ h⟩)
 ·exact .inr h
theorem Same.upd {H:Hp} {p:Addr} {o:HO} (h:H p=none):Same H (upd H p o):=fun b u e=>by
 rw [J1 (Jg e h)];exact e
mutual
theorem Is.same {K:W.Frag} {H H':Hp} (s:Same H H'): ∀ {d:D} {v:V},Is K H d v->Is K H' d v
 | .non,_,h=>by simpa [Is] using h
 | .bl _,_,h=>by simpa [Is] using h
 | .int _,_,h=>by simpa [Is] using h
 | .str _,_,h=>by simpa [Is] using h
 | .tup ds,v,h=>by
  rw [Is] at h ⊢;obtain ⟨p,vs,e,q,r⟩:=h;exact ⟨p,vs,e,s.sqT q,Va.same s r⟩
 | .lst ds,v,h=>by
  rw [Is] at h ⊢;obtain ⟨p,vs,e,q,r⟩:=h;exact ⟨p,vs,e,s.seq q,Va.same s r⟩
 | .dct fz ks ds,v,h=>by
  rw [Is] at h ⊢;obtain ⟨p,ss,vs,e,hk,q,r⟩:=h;exact ⟨p,ss,vs,e,hk,s.dk q,Va.same s r⟩
theorem Va.same {K:W.Frag} {H H':Hp} (s:Same H H'): ∀ {ds:List D} {vs:List V},Va K H ds vs->Va K H' ds vs
 | [],_,h=>by simpa [Va] using h
 | d::ds,vs,h=>by
  rw [Va] at h ⊢;obtain ⟨v,r,e,q,t⟩:=h;exact ⟨v,r,e,Is.same s q,Va.same s t⟩
end
section
variable {K:W.Frag} {H H':Hp}
theorem WY {i:Int} {v:V} (h:Is K H (.int i) v):v= .int i:=by simpa [Is] using h
theorem GZ {i:Bool} {v:V} (h:Is K H (.bl i) v):v= .bl i:=by simpa [Is] using h
theorem JF {i:Str} {v:V} (h:Is K H (.str i) v):v= .str i:=by simpa [Is] using h
theorem Qbl {v:V} (h:Is K H .non v):v= .non:=by simpa [Is] using h
theorem Jn {ds:List D} {v:V} (h:Is K H (.tup ds) v): ∃ p vs,v= .ref p/\SqT K H p vs/\Va K H ds vs:=by simpa [Is] using h
theorem Wr {ds:List D} {v:V} (h:Is K H (.lst ds) v): ∃ p vs,v= .ref p/\SqL K H p vs/\Va K H ds vs:=by simpa [Is] using h
theorem Qo4 {a b:List Str} (h:a.map D.str=b.map D.str):a=b:=by
 have:=JQ (List.map fun d=>match d with | D.str x=>x | _=>⟨#[]⟩) h;simpa [Qo,QK] using this
theorem Yk {fz:Bool} {ss:List Str} {ds:List D} {v:V} (h:Is K H (.dct fz (ss.map .str) ds) v): ∃ p vs,v= .ref p/\DkAt fz H p ss vs/\Va K H ds vs:=by
 rw [Is] at h;obtain ⟨p,ss',vs,e,hk,q,r⟩:=h;rw [Qo4 hk];exact ⟨p,vs,e,q,r⟩
theorem Qfg {fz:Bool} {ks:List D} {ds:List D} {v:V} (h:Is K H (.dct fz ks ds) v): ∃ p kvs,v= .ref p/\Rd H p (.dK kvs):=by
 rw [Is] at h;obtain ⟨p,ss',vs,e,hk,q,r⟩:=h;exact ⟨p,_,e,q.rd⟩
theorem Qxk {fz:Bool} {ks:List Str} {ds:List D} {p:Addr} {vs:List V} (h:DkAt fz H p ks vs) (a:Va K H ds vs):Is K H (.dct fz (ks.map .str) ds) (.ref p):=by rw [Is];exact ⟨p,ks,vs,rfl,rfl,h,a⟩
theorem Zq (i:Int):Is K H (.int i) (.int i):=by simp [Is]
theorem ZQ (i:Bool):Is K H (.bl i) (.bl i):=by simp [Is]
theorem ZV (i:Str):Is K H (.str i) (.str i):=by simp [Is]
theorem Qq8:Is K H .non .non:=by simp [Is]
theorem YQ {ds:List D} {p:Addr} {vs:List V} (h:SqT K H p vs) (a:Va K H ds vs):Is K H (.tup ds) (.ref p):=by rw [Is];exact ⟨p,vs,rfl,h,a⟩
theorem Qfc {ds:List D} {p:Addr} {vs:List V} (h:SqL K H p vs) (a:Va K H ds vs):Is K H (.lst ds) (.ref p):=by rw [Is];exact ⟨p,vs,rfl,h,a⟩
theorem Jm:Va K H [] []:=by simp [Va]
theorem Vg {d:D} {ds:List D} {v:V} {vs:List V} (h:Is K H d v) (t:Va K H ds vs):Va K H (d::ds) (v::vs):=by rw [Va];exact ⟨v,vs,rfl,h,t⟩
theorem Va.length: ∀ {ds:List D} {vs:List V},Va K H ds vs->ds.length=vs.length
 | [],_,h=>by rw [Va] at h;subst h;rfl
 | d::ds,vs,h=>by
  rw [Va] at h;obtain ⟨v,r,e,_,t⟩:=h;subst e;simp [Va.length t]
theorem Va.get: ∀ {ds:List D} {vs:List V} {i:Nat} {d:D},Va K H ds vs->ds[i]? =some d-> ∃ v,vs[i]? =some v/\Is K H d v
 | [],_,_,_,_,e=>by simp at e
 | d::ds,vs,0,d',h,e=>by
  rw [Va] at h;obtain ⟨v,r,e',q,_⟩:=h;subst e';have:d=d':=by simpa using e
  subst this;exact ⟨v,by simp,q⟩
 | d::ds,vs,i+1,d',h,e=>by
  rw [Va] at h;obtain ⟨v,r,e',q,t⟩:=h;subst e';obtain ⟨u,e1,e2⟩:=Va.get (i:=i) t (by simpa using e);exact ⟨u,by simpa using e1,e2⟩
theorem Va.at {ds:List D} {vs:List V} {i:Nat} {v:V} (h:Va K H ds vs) (e:vs[i]? =some v): ∃ d,ds[i]? =some d/\Is K H d v:=by
 have hl:=h.length;have hi:i < ds.length:=by rw [hl];exact (Q5.mp e).1
 obtain ⟨u,e1,e2⟩:=h.get (i:=i) (d:=ds[i]) (by simp [hi]);rw [e] at e1;cases e1;exact ⟨_,by simp [hi],e2⟩
theorem Va.append: ∀ {ds es:List D} {vs us:List V},Va K H ds vs->Va K H es us->Va K H (ds++es) (vs++us)
 | [],_,_,_,h,t=>by rw [Va] at h;subst h;exact t
 | d::ds,_,vs,_,h,t=>by
  rw [Va] at h;obtain ⟨v,r,e,q,t'⟩:=h;subst e;exact Vg q (Va.append t' t)
theorem Va.drop: ∀ {ds:List D} {vs:List V} (n:Nat),Va K H ds vs->Va K H (ds.drop n) (vs.drop n)
 | _,_,0,h=>h
 | [],_,n+1,h=>by rw [Va] at h;subst h;simpa using Jm
 | d::ds,vs,n+1,h=>by
  rw [Va] at h;obtain ⟨v,r,e,q,t⟩:=h;subst e;exact Va.drop n t
theorem Va.take: ∀ {ds:List D} {vs:List V} (n:Nat),Va K H ds vs->Va K H (ds.take n) (vs.take n)
 | _,_,0,_=>by simpa using Jm
 | [],_,n+1,h=>by rw [Va] at h;subst h;simpa using Jm
 | d::ds,vs,n+1,h=>by
  rw [Va] at h;obtain ⟨v,r,e,q,t⟩:=h;subst e;exact Vg q (Va.take n t)
theorem Va.one {d:D} {vs:List V} (h:Va K H [d] vs): ∃ v,vs=[v]/\Is K H d v:=by
 rw [Va] at h;obtain ⟨v,r,e,q,t⟩:=h;rw [Va] at t;subst t;exact ⟨v,e,q⟩
theorem Va.two {d d':D} {vs:List V} (h:Va K H [d,d'] vs): ∃ v v',vs=[v,v']/\Is K H d v/\Is K H d' v':=by
 rw [Va] at h;obtain ⟨v,r,e,q,t⟩:=h;obtain ⟨v',e',q'⟩:=t.one;subst e';exact ⟨v,v',e,q,q'⟩
def EnvIs (K:W.Frag) (H:Hp) (σ:St) (ρ:List (Option D)):Prop:=σ.length=ρ.length/\ ∀ (i:Nat) (d:D),ρ[i]? =some (some d)-> ∃ v,σ[i]? =some (some v)/\Is K H d v
theorem EnvIs.same {σ:St} {ρ:List (Option D)} (h:EnvIs K H σ ρ) (s:Same H H'):EnvIs K H' σ ρ:=⟨h.1,fun i d e=>let ⟨v,e1,e2⟩:=h.2 i d e;⟨v,e1,e2.same s⟩⟩
theorem EnvIs.cons {σ:St} {ρ:List (Option D)} {v:V} {d:D} (h:EnvIs K H σ ρ) (q:Is K H d v):EnvIs K H (some v::σ) (some d::ρ) :=
 ⟨by simp [h.1],fun i e z=>by
  cases i with
  | zero =>
   have:d=e:=by simpa using z
   subst this;exact ⟨v,by simp,q⟩
  | succ i =>
   obtain ⟨u,e1,e2⟩:=h.2 i e (by simpa using z);exact ⟨u,by simpa using e1,e2⟩⟩
end
def rdD (K:W.Frag) (ρ:List (Option D)) (d:D):TE:=fun σ H Q=>EnvIs K H σ ρ/\ ∀ v H',Same H H'->Is K H' d v->Q v H'
structure PD (X:Cx) (ρ:List (Option D)) (e:Expr) (d:D):Prop where
 pe:PE X e (rdD X.K ρ d)
def Qz3 (K:W.Frag) (ρ:List (Option D)) (ds:List D):TA:=fun σ H Q=>EnvIs K H σ ρ/\ ∀ vs H',Same H H'->Va K H' ds vs->Q vs H'
structure PDs (X:Cx) (ρ:List (Option D)) (es:List Expr) (ds:List D):Prop where
 pe:PA X es (Qz3 X.K ρ ds)
def rdB (K:W.Frag) (ρ:List (Option D)) (b:Bool):TT:=fun σ H Q=>EnvIs K H σ ρ/\ ∀ H',Same H H'->Q b H'
structure PB (X:Cx) (ρ:List (Option D)) (e:Expr) (b:Bool):Prop where
 pe:PT X e (rdB X.K ρ b)
structure PWB (X:Cx) (ρ:List (Option D)) (e:Expr) (b:Bool):Prop where
 pe:PW X e (rdB X.K ρ b)
theorem PE.imp {X:Cx} {e:Expr} {t t':TE} (h:PE X e t) (w: ∀ σ H Q,t' σ H Q->t σ H Q):PE X e t':=fun pins s σ H Q I q=>h pins s σ H Q I (w σ H Q q)
theorem PT.imp {X:Cx} {e:Expr} {t t':TT} (h:PT X e t) (w: ∀ σ H Q,t' σ H Q->t σ H Q):PT X e t':=fun pins s σ H Q I q=>h pins s σ H Q I (w σ H Q q)
theorem PW.imp {X:Cx} {e:Expr} {t t':TT} (h:PW X e t) (w: ∀ σ H Q,t' σ H Q->t σ H Q):PW X e t':=fun wh pins s σ H Q I q=>h wh pins s σ H Q I (w σ H Q q)
theorem PA.imp {X:Cx} {es:List Expr} {t t':TA} (h:PA X es t) (w: ∀ σ H Q,t' σ H Q->t σ H Q):PA X es t':=fun pos pins s σ H Q I q=>h pos pins s σ H Q I (w σ H Q q)
theorem PSs.imp {X:Cx} {b:List Stmt} {t t':TS} (h:PSs X b t) (w: ∀ D σ H,t' D σ H->t D σ H):PSs X b t':=fun pins s σ H D I q=>h pins s σ H D I (w D σ H q)
theorem PS.imp {X:Cx} {b:Stmt} {t t':TS} (h:PS X b t) (w: ∀ D σ H,t' D σ H->t D σ H):PS X b t':=fun pins s σ H D I q=>h pins s σ H D I (w D σ H q)
section
variable {X:Cx} {ρ:List (Option D)} {a b c e:Expr} {es:List Expr} {d da db dc:D} {ds:List D} {pos:Pos}
theorem Y2 {t:TE} (h:PE X e t) (w: ∀ σ H Q,EnvIs X.K H σ ρ->(∀ v H',Same H H'->Is X.K H' d v->Q v H')->t σ H Q):PD X ρ e d:=⟨h.imp fun σ H Q q=>w σ H Q q.1 q.2⟩
theorem Vv (i:Nat) {x:Str} (hd:ρ[i]? =some (some d)) (hN:X.N[i]? =some x:=by rfl) (hv:Vis X.env.scope x:=by first | exact QI rfl | exact QY (QI rfl) | exact QY (QY rfl)) (hdb:(x == ("__debug__" :Str))=false:=by decide)
  (hcd:(x == ("__classdict__" :Str))=false:=by decide):PD X ρ (.Name x pos) d :=
 Y2 (WB hN hv hdb hcd) fun σ H Q he q=>let ⟨v,e1,e2⟩:=he.2 i d hd;⟨v,e1,q v H (Same.refl H) e2⟩
theorem Vi {i j}:PD X ρ (.Constant (.int i) j pos) (.int i):=Y2 Qp2 fun σ H Q he q=>q _ H (Same.refl H) (Zq i)
theorem OV {i j}:PD X ρ (.Constant (.bool i) j pos) (.bl i):=Y2 Qzc fun σ H Q he q=>q _ H (Same.refl H) (ZQ i)
theorem Vt {i j}:PD X ρ (.Constant (.str i) j pos) (.str i):=Y2 Qp1 fun σ H Q he q=>q _ H (Same.refl H) (ZV i)
theorem Qc4 {j}:PD X ρ (.Constant .none j pos) .non:=Y2 Qwu fun σ H Q he q=>q _ H (Same.refl H) Qq8
theorem Qqy {x:Str} {v:V} {u:Value} (hm:X.mg x=some u) (r:RelV v u) (hd: ∀ H,Is X.K H d v) (hg:Gl X x:=by rfl) (hdb:(x == ("__debug__" :Str))=false:=by decide):PD X ρ (.Name x pos) d :=
 Y2 (Qsy hg hm r hdb) fun σ H Q he q=>q _ H (Same.refl H) (hd H)
theorem Vn:PDs X ρ [] []:=⟨BT.imp fun σ H Q q=>q.2 [] H (Same.refl H) Jm⟩
theorem Vc (h:PD X ρ e d) (t:PDs X ρ es ds) (hs:starEach (e::es) X.env=(false,eval e X.env)::starEach es X.env:=by rfl):PDs X ρ (e::es) (d::ds) :=
 ⟨(UC h.pe t.pe hs).imp fun σ H Q q=>⟨q.1,fun v H1 s1 i1=>⟨q.1.same s1,fun vs H2 s2 i2=>q.2 (v::vs) H2 (s1.trans s2) (Vg (i1.same s2) i2)⟩⟩⟩
theorem Vp {k} (h:PDs X ρ es ds) (hz:ds.length<=sizeLine):PD X ρ (.Tuple es k pos) (.tup ds) :=
 Y2 (Qwt h.pe) fun σ H Q he q=>⟨he,fun vs H1 s1 i1=>⟨by rw [<- i1.length];exact hz,fun p hp=>q _ _ (s1.trans (Same.upd hp)) (YQ (SqT.of Vu) (i1.same (Same.upd hp)))⟩⟩
def OpD (X:Cx) (r:R2) (da db d:D):Prop:= ∀ H x y Q,Is X.K H da x->Is X.K H db y->(∀ v H',Same H H'->Is X.K H' d v->Q v H')->r x y H Q
theorem Qja {op:Operator} {r:R2} (ho:OpR X (binaryOp op) r) (ha:PD X ρ a da) (hb:PD X ρ b db) (w:OpD X r da db d):PD X ρ (.BinOp a op b pos) d :=
 Y2 (Qv5 ho ha.pe hb.pe) fun σ H Q he q=>⟨he,fun v H1 s1 i1=>⟨he.same s1,fun u H2 s2 i2=>w H2 v u Q (i1.same s2) i2 fun z H3 s3 i3=>q z H3 ((s1.trans s2).trans s3) i3⟩⟩
theorem Qvm {op:CmpOp} {r:R2} (ho:OpR X (compareOp op) r) (ha:PD X ρ a da) (hb:PD X ρ b db) (w:OpD X r da db d) (hm:behindInMarks op b=false:=by rfl):PD X ρ (.Compare a [op] [b] pos) d :=
 Y2 (Qt2 ho ha.pe hb.pe hm) fun σ H Q he q=>⟨he,fun v H1 s1 i1=>⟨he.same s1,fun u H2 s2 i2=>w H2 v u Q (i1.same s2) i2 fun z H3 s3 i3=>q z H3 ((s1.trans s2).trans s3) i3⟩⟩
theorem Ui {op:CmpOp} {r:R2} {k:Bool} (ho:OpR X (compareOp op) r) (ha:PD X ρ a da) (hb:PD X ρ b db) (w:OpD X r da db (.bl k)) (hm:behindInMarks op b=false:=by rfl):PB X ρ (.Compare a [op] [b] pos) k :=
 ⟨(Qf3 ho ha.pe hb.pe hm).imp fun σ H Q q=>⟨q.1,fun v H1 s1 i1=>⟨q.1.same s1,fun u H2 s2 i2=>w H2 v u _ (i1.same s2) i2 fun z H3 s3 i3=>⟨k,GZ i3,q.2 H3 ((s1.trans s2).trans s3)⟩⟩⟩⟩
theorem Qgm {g:Int->Int->V} {i j:Int} (h: ∀ H,Is X.K H d (g i j)):OpD X (rI0 g) (.int i) (.int j) d:=fun H x y Q hx hy q=>⟨i,j,WY hx,WY hy,q _ H (Same.refl H) (h H)⟩
theorem Qxb {C:Int->Int->Prop} {g:Int->Int->V} {i j:Int} (hc:C i j) (h: ∀ H,Is X.K H d (g i j)):OpD X (rI C g) (.int i) (.int j) d:=fun H x y Q hx hy q=>⟨i,j,WY hx,WY hy,hc,q _ H (Same.refl H) (h H)⟩
theorem Wi {i j:Int} (ha:PD X ρ a (.int i)) (hb:PD X ρ b (.int j)):PD X ρ (.BinOp a .Add b pos) (.int (i+j)):=Qja Qx3 ha hb (Qgm fun _=>Zq _)
theorem Qdy {i j:Int} (ha:PD X ρ a (.int i)) (hb:PD X ρ b (.int j)):PD X ρ (.BinOp a .Sub b pos) (.int (i - j)):=Qja Qwx ha hb (Qgm fun _=>Zq _)
theorem OA {i j:Int} (ha:PD X ρ a (.int i)) (hb:PD X ρ b (.int j)) (hc:CMul i j):PD X ρ (.BinOp a .Mult b pos) (.int (i * j)):=Qja Qwz ha hb (Qxb hc fun _=>Zq _)
theorem Ql5 {i j:Int} (ha:PD X ρ a (.int i)) (hb:PD X ρ b (.int j)) (hc:0 < j):PD X ρ (.BinOp a .Mod b pos) (.int (i % j)):=Qja Qx0 ha hb (Qxb hc fun _=>Zq _)
theorem Qyc {i j:Int} (ha:PD X ρ a (.int i)) (hb:PD X ρ b (.int j)) (hc:CDiv i j):PD X ρ (.BinOp a .FloorDiv b pos) (.int (i / j)):=Qja Qt7 ha hb (Qxb hc fun _=>Zq _)
theorem Qur {i j:Int} (ha:PD X ρ a (.int i)) (hb:PD X ρ b (.int j)):PD X ρ (.Compare a [.Gt] [b] pos) (.bl (decide (j < i))):=Qvm Qv8 ha hb (Qgm fun _=>ZQ _) (nomark _)
theorem Qnf {i j:Int} (ha:PD X ρ a (.int i)) (hb:PD X ρ b (.int j)):PB X ρ (.Compare a [.Lt] [b] pos) (decide (i < j)):=Ui Qv7 ha hb (Qgm fun _=>ZQ _) (nomark _)
theorem Qht {i j:Int} (ha:PD X ρ a (.int i)) (hb:PD X ρ b (.int j)):PB X ρ (.Compare a [.Gt] [b] pos) (decide (j < i)):=Ui Qv8 ha hb (Qgm fun _=>ZQ _) (nomark _)
def dV:D->Option V
 | .non=>some .non
 | .bl b=>some (.bl b)
 | .int i=>some (.int i)
 | .str x=>some (.str x)
 | _=>none
theorem Qku {K:W.Frag} {H:Hp} {d:D} {v x:V} (h:dV d=some v) (i:Is K H d x):x=v:=by
 cases d<;>simp [dV,Is] at h i<;>first | (subst h;exact i) | cases h
theorem Qpo {x y:V} (hx:dV da=some x) (hy:dV db=some y) (hs:scal x y=true):OpD X rEq da db (.bl (decide (x=y))):=fun H x' y' Q ix iy q=>by
 cases Qku hx ix;cases Qku hy iy;exact ⟨hs,q _ H (Same.refl H) (ZQ _)⟩
theorem Qv9 {x y:V} (hx:dV da=some x) (hy:dV db=some y) (hs:scal x y=true):OpD X rNe da db (.bl (!decide (x=y))):=fun H x' y' Q ix iy q=>by
 cases Qku hx ix;cases Qku hy iy;exact ⟨hs,q _ H (Same.refl H) (ZQ _)⟩
theorem Qqz {i j:Int} (ha:PD X ρ a (.int i)) (hb:PD X ρ b (.int j)):PD X ρ (.Compare a [.Eq] [b] pos) (.bl (decide (i=j))):=by
 have:=Qvm (pos:=pos) Qp7 ha hb (Qpo rfl rfl rfl) (nomark _);simpa using this
theorem Qhv {i j:Int} (ha:PD X ρ a (.int i)) (hb:PD X ρ b (.int j)):PB X ρ (.Compare a [.Eq] [b] pos) (decide (i=j)):=by
 have:=Ui (pos:=pos) Qp7 ha hb (Qpo rfl rfl rfl) (nomark _);simpa using this
theorem Qhu {i j:Str} (ha:PD X ρ a (.str i)) (hb:PD X ρ b (.str j)):PB X ρ (.Compare a [.Eq] [b] pos) (decide (i=j)):=by
 have:=Ui (pos:=pos) Qp7 ha hb (Qpo rfl rfl rfl) (nomark _);simpa using this
theorem Yr {k:Bool} (h:PD X ρ e (.bl k)) (he: ∀ whole,isTrue e X.env whole=(do let v<-whole;standAt e.pos;holding [v] (truthy v)):=by intro _;rfl):PB X ρ e k :=
 ⟨(Qwp h.pe he).imp fun σ H Q q=>⟨q.1,fun v H1 s1 i1=>⟨k,GZ i1,q.2 H1 s1⟩⟩⟩
theorem Qvn {k:Bool} {rest:List Expr} (ha:PD X ρ a (.bl k)) (hb:k=true->PD X ρ (.BoolOp .And (b::rest) pos) d) (hf:k=false->d= .bl false):PD X ρ (.BoolOp .And (a::b::rest) pos) d:=by
 cases k with
 | false =>
  have:=hf rfl;subst this;have hb':PE X (.BoolOp .And (b::rest) pos) (fun _ _ _=>False):=fun _ _ _ _ _ _ f=>f.elim
  exact Y2 (Qp3 ha.pe hb') fun σ H Q he q=>⟨he,fun v H1 s1 i1=>⟨false,GZ i1,OT (q _ H1 s1 (ZQ _))⟩⟩
 | true =>
  exact Y2 (Qp3 ha.pe (hb rfl).pe) fun σ H Q he q=>⟨he,fun v H1 s1 i1=>⟨true,GZ i1,Qbk (⟨he.same s1,fun u H2 s2 i2=>q u H2 (s1.trans s2) i2⟩)⟩⟩
theorem Ze {k:Bool} (ha:PB X ρ a k):PWB X ρ (.BoolOp .And [a] pos) k:=⟨Qsn ha.pe⟩
theorem Qri {k k':Bool} {rest:List Expr} (ha:PB X ρ a k) (hb:k=true->PWB X ρ (.BoolOp .And (b::rest) pos) k') (hf:k=false->k'=false):PWB X ρ (.BoolOp .And (a::b::rest) pos) k':=by
 cases k with
 | false =>
  have:=hf rfl;subst this;have hb':PW X (.BoolOp .And (b::rest) pos) (fun _ _ _=>False):=fun _ _ _ _ _ _ _ f=>f.elim
  exact ⟨(Qop ha.pe hb').imp fun σ H Q q=>⟨q.1,fun H1 s1=>OT (q.2 H1 s1)⟩⟩
 | true =>
  exact ⟨(Qop ha.pe (hb rfl).pe).imp fun σ H Q q=>⟨q.1,fun H1 s1=>Qbk (⟨q.1.same s1,fun H2 s2=>q.2 H2 (s1.trans s2)⟩)⟩⟩
theorem Qhp {k:Bool} (ha:PB X ρ a k):PWB X ρ (.BoolOp .Or [a] pos) k:=⟨Qij ha.pe⟩
theorem Qhq {k k':Bool} {rest:List Expr} (ha:PB X ρ a k) (hb:k=false->PWB X ρ (.BoolOp .Or (b::rest) pos) k') (hf:k=true->k'=true):PWB X ρ (.BoolOp .Or (a::b::rest) pos) k':=by
 cases k with
 | true =>
  have:=hf rfl;subst this;have hb':PW X (.BoolOp .Or (b::rest) pos) (fun _ _ _=>False):=fun _ _ _ _ _ _ _ f=>f.elim
  exact ⟨(Qke ha.pe hb').imp fun σ H Q q=>⟨q.1,fun H1 s1=>Qbk (q.2 H1 s1)⟩⟩
 | false =>
  exact ⟨(Qke ha.pe (hb rfl).pe).imp fun σ H Q q=>⟨q.1,fun H1 s1=>OT (⟨q.1.same s1,fun H2 s2=>q.2 H2 (s1.trans s2)⟩)⟩⟩
theorem Y3 {k:Bool} (h:PWB X ρ e k):PB X ρ e k:=⟨h.pe.pt⟩
theorem B0 {k:Bool} (h:PB X ρ a k):PB X ρ (.UnaryOp .Not a pos) (!k):=⟨(Qwq h.pe).imp fun σ H Q q=>⟨q.1,fun H1 s1=>q.2 H1 s1⟩⟩
theorem Qya {k:Bool} (hc:PB X ρ c k) (ha:k=true->PD X ρ a d) (hb:k=false->PD X ρ b d):PD X ρ (.IfExp c a b pos) d:=by
 have nv: ∀ e,PE X e (fun _ _ _=>False):=fun e _ _ _ _ _ _ f=>f.elim
 cases k with
 | true=>exact Y2 (Qgi hc.pe (ha rfl).pe (nv b)) fun σ H Q he q=>⟨he,fun H1 s1=>Qbk (⟨he.same s1,fun u H2 s2 i2=>q u H2 (s1.trans s2) i2⟩)⟩
 | false=>exact Y2 (Qgi hc.pe (nv a) (hb rfl).pe) fun σ H Q he q=>⟨he,fun H1 s1=>OT (⟨he.same s1,fun u H2 s2 i2=>q u H2 (s1.trans s2) i2⟩)⟩
def spD (K:W.Frag) (n:Nat) (R:List D->D->Prop):Sp:=fun vs H Q _=>vs.length=n/\ ∃ ds d,Va K H ds vs/\R ds d/\ ∀ v H',Same H H'->Is K H' d v->Q v H'
theorem Qyd {k n:Nat} {f:Addr} {fd:FuncData} {ps:List Str} {R:List D->D->Prop} {x:Str} {p:Pos} (F:FnOk X.prog X.w X.K X.mg X.base CX0 k f fd ps (spD X.K n R)) (hr:Room k X.A) (hm:X.mg x=some (.ref f)) (hk:W.keepIn X.K (.ref f)=true)
  (hb:Binds X.K fd ps []) (ha:PDs X ρ (e::es) ds) (hn:ds.length=n) (hR:R ds d) (hg:Gl X x:=by rfl) (hdb:(x == ("__debug__" :Str))=false:=by decide)
  (he:starEach (e::es) X.env=(false,eval e X.env)::starEach es X.env:=by rfl) (hpl:(backTo pos (starEach es X.env)).any (·.1)=false:=by rfl):PD X ρ (.Call (.Name x p) (e::es) [] pos) d :=
 Y2 (Qki F hr hg hm hk hb .nil pass0 ha.pe hdb he hpl) fun σ H Q he q=>⟨he,fun vs H1 s1 i1=>by
  show spD X.K n R (vs++[]) H1 Q _;rw [JM];exact ⟨by rw [<- i1.length];exact hn,ds,d,i1,hR,fun v H2 s2 i2=>q v H2 (s1.trans s2) i2⟩⟩
theorem Ql8 {x:Str} {id:String} {r:List V->Hp->VK->Prop} {p:Pos} (hc:CallR X (.builtin id) r) (hm:X.mg x=none) (hv:bootBuiltins x=some (.builtin id)) (ha:PDs X ρ (e::es) ds)
  (w: ∀ H vs Q,Va X.K H ds vs->(∀ v H',Same H H'->Is X.K H' d v->Q v H')->r vs H Q) (hg:Gl X x:=by rfl) (hn:x≠ "__name__" :=by decide) (hdb:(x == ("__debug__" :Str))=false:=by decide)
  (he:starEach (e::es) X.env=(false,eval e X.env)::starEach es X.env:=by rfl) (hpl:(backTo pos (starEach es X.env)).any (·.1)=false:=by rfl):PD X ρ (.Call (.Name x p) (e::es) [] pos) d :=
 Y2 (Qb8 hc hg hm hv ha.pe hn hdb he hpl) fun σ H Q he q=>⟨he,fun vs H1 s1 i1=>w H1 vs Q i1 fun v H2 s2 i2=>q v H2 (s1.trans s2) i2⟩
theorem Ql7 {x:Str} {T:String} {r:List V->Hp->VK->Prop} {p:Pos} (hc:CallR X (.type T) r) (hm:X.mg x=none) (hv:bootBuiltins x=some (.type T)) (ha:PDs X ρ (e::es) ds)
  (w: ∀ H vs Q,Va X.K H ds vs->(∀ v H',Same H H'->Is X.K H' d v->Q v H')->r vs H Q) (hg:Gl X x:=by rfl) (hn:x≠ "__name__" :=by decide) (hdb:(x == ("__debug__" :Str))=false:=by decide)
  (he:starEach (e::es) X.env=(false,eval e X.env)::starEach es X.env:=by rfl) (hpl:(backTo pos (starEach es X.env)).any (·.1)=false:=by rfl):PD X ρ (.Call (.Name x p) (e::es) [] pos) d :=
 Y2 (U8 hc hg hm hv ha.pe hn hdb he hpl) fun σ H Q he q=>⟨he,fun vs H1 s1 i1=>w H1 vs Q i1 fun v H2 s2 i2=>q v H2 (s1.trans s2) i2⟩
def Qn8:D->Option Nat
 | .str x=>some x.length
 | .tup ds=>some ds.length
 | .lst ds=>some ds.length
 | _=>none
theorem Wb {n:Nat} {p:Pos} (hm:X.mg "len" =none) (ha:PD X ρ e d) (hd:Qn8 d=some n) (hz: ∀ x,d= .str x->x.length<=sizeLine) (hg:Gl X "len" :=by rfl) (hs:starEach [e] X.env=[(false,eval e X.env)]:=by rfl):PD X ρ (.Call (.Name "len" p) [e] [] pos) (.int n) :=
 Ql8 Qr9 hm PySem.boot_len (Vc ha Vn hs) (fun H vs Q ia q=>by
  obtain ⟨v,rfl,i⟩:=ia.one;refine ⟨v,n,rfl,?_,q _ H (Same.refl H) (Zq _)⟩;cases d with
  | str x =>
   have:=JF i;subst this;have:x.length=n:=by simpa [Qn8] using hd
   exact ⟨hz x rfl,this.symm⟩
  | tup ds =>
   obtain ⟨p,ws,rfl,q',r⟩:=Jn i;have:ds.length=n:=by simpa [Qn8] using hd
   exact .inr ⟨ws,q',by rw [<- this,r.length]⟩
  | lst ds =>
   obtain ⟨p,ws,rfl,q',r⟩:=Wr i;have:ds.length=n:=by simpa [Qn8] using hd
   exact .inl ⟨ws,q',by rw [<- this,r.length]⟩
  | _=>simp [Qn8] at hd) hg (by decide) (by decide) hs rfl
def dAt:D->Int->Option D
 | .str x,i=>(atI x.cps.toList i).map fun c=> .str ⟨#[c]⟩
 | .tup ds,i=>atI ds i
 | .lst ds,i=>atI ds i
 | _,_=>none
theorem Va.atI {K:W.Frag} {H:Hp} {ds:List D} {vs:List V} {i:Int} {d:D} (h:Va K H ds vs) (e:L2.atI ds i=some d): ∃ v,L2.atI vs i=some v/\Is K H d v:=by
 unfold L2.atI at e ⊢;rw [<- h.length];cases q:ixN ds.length i with
 | none=>rw [q] at e;cases e
 | some j =>
  rw [q] at e;exact h.get e
theorem QR {i:Int} (ha:PD X ρ a da) (hb:PD X ρ b (.int i)) (hd:dAt da i=some d) (hz: ∀ x,da= .str x->x.length<=sizeLine:=by intro x e;cases e) (hs:PlainIx b:=by intro _ _;rfl):PD X ρ (.Subscript a b pos) d :=
 Y2 (Qzb Qxz ha.pe hb.pe hs) fun σ H Q he q=>⟨he,fun v H1 s1 i1=>⟨he.same s1,fun u H2 s2 i2=>by
  have ia:=i1.same s2;have e:=WY i2;subst e;cases da with
  | str x =>
   have e:=JF ia;subst e;simp only [dAt] at hd;cases hc:L2.atI x.cps.toList i with
   | none=>rw [hc] at hd;cases hd
   | some c =>
    rw [hc] at hd;cases hd;exact .inr (.inr ⟨x,i,c,rfl,rfl,hz x rfl,hc,q _ H2 (s1.trans s2) (ZV _)⟩)
  | tup ds =>
   obtain ⟨p,vs,rfl,hq,r⟩:=Jn ia;obtain ⟨z,e1,e2⟩:=r.atI hd;exact .inr (.inl ⟨p,vs,i,z,rfl,rfl,hq,e1,q z H2 (s1.trans s2) e2⟩)
  | lst ds =>
   obtain ⟨p,vs,rfl,hq,r⟩:=Wr ia;obtain ⟨z,e1,e2⟩:=r.atI hd;exact .inl ⟨p,vs,i,z,rfl,rfl,hq,e1,q z H2 (s1.trans s2) e2⟩
  | _=>simp [dAt] at hd⟩⟩
def tyD:D->String
 | .non=> "NoneType"
 | .bl _=> "bool"
 | .int _=> "int"
 | .str _=> "str"
 | .tup _=> "tuple"
 | .lst _=> "list"
 | .dct _ _ _=> "dict"
theorem Qhm:CallR X (.builtin "isinstance") (fun vs H Q=> ∃ d x c k,vs=[x,.ty c]/\Is X.K H d x/\W.kitOne X.K (.type (tyD d)) (.type c)=some k/\Q (.bl k) H):=by
 intro pins s σ H xs us Q I r h;obtain ⟨d,x,c,k,rfl,i,e,q⟩:=h;obtain ⟨u,u',rfl,rx,rc⟩:=r.two;cases (show u'=Value.type c from rc);have fin: ∀ tk,EP X pins σ Q (.bool k) { s with toks:=tk }:=fun tk=>⟨.bl k,H,I.tok _,rfl,q⟩
 cases d with
 | non=>cases Qbl i;cases (show u=Value.none from rx);exact W.kia_one W.kitx_none I.kIn Wn e (fun z=>nomatch z) fin
 | bl y=>cases GZ i;cases (show u=Value.bool y from rx);exact W.kia_one W.kitx_bool I.kIn Wn e (fun z=>nomatch z) fin
 | int y=>cases WY i;obtain ⟨t,z⟩:=(show ∃ t,u=Value.int y t from rx);cases z;exact W.kia_one W.kitx_int I.kIn Wn e (fun z=>nomatch z) fin
 | str y=>cases JF i;obtain ⟨t,z⟩:=(show ∃ t,u=Value.str y t from rx);cases z;exact W.kia_one W.kitx_str I.kIn Wn e (fun z=>nomatch z) fin
 | tup ds =>
  obtain ⟨p,vs,rfl,hq,_⟩:=Jn i;cases (show u=Value.ref p from rx);obtain ⟨its,_,⟨o,h1,h2,_⟩,_⟩:=I.tuple hq;exact W.kia_one W.kitx_tuple I.kIn ⟨o,h1,h2⟩ e (fun z=>nomatch z) fin
 | lst ds =>
  obtain ⟨p,vs,rfl,hq,_⟩:=Wr i;cases (show u=Value.ref p from rx);obtain ⟨its,_,pl,_⟩:=I.list hq;obtain ⟨o,h1,h2,_⟩:=pl.isList;exact W.kia_one W.kitx_list I.kIn ⟨o,h1,h2⟩ e (fun z=>nomatch z) fin
 | dct fz ks ds =>
  obtain ⟨p,kvs,rfl,hq⟩:=Qfg i;cases (show u=Value.ref p from rx);obtain ⟨_,_,ws,_,dd⟩:=(show ObjOk X.prog X.w H s.heap p (.dK kvs) from hq.ok I.hok);exact W.kia_one W.kitx_dict I.kIn dd.typeIs e (fun z=>nomatch z) fin
theorem Qqx {T:Str} {c:String} {k:Bool} {p p':Pos} (hm:X.mg "isinstance" =none) (hT:X.mg T=none) (hv:bootBuiltins T=some (.type c)) (ha:PD X ρ e d) (hk:W.kitOne X.K (.type (tyD d)) (.type c)=some k)
  (hg:Gl X "isinstance" :=by rfl) (hg':Gl X T:=by rfl) (hn:T≠ "__name__" :=by decide) (hdb:(T == ("__debug__" :Str))=false:=by decide) (hs:starEach [e,.Name T p'] X.env=[(false,eval e X.env),(false,eval (.Name T p') X.env)]:=by rfl) (hs2:starEach [.Name T p'] X.env=[(false,eval (.Name T p') X.env)]:=by rfl) :
  PD X ρ (.Call (.Name "isinstance" p) [e,.Name T p'] [] pos) (.bl k) :=
 Y2 (Qb8 Qhm hg hm (by decide +kernel) (UC ha.pe (UC (Qt3 hg' hT hv (v:= .ty c) rfl hn hdb) BT hs2) (by rw [hs,hs2])) (by decide) (by decide) (by rw [hs,hs2]) (by rw [hs2];rfl))
  fun σ H Q he q=>⟨he,fun v H1 s1 i1=>⟨d,v,c,k,rfl,i1,hk,q _ H1 s1 (ZQ _)⟩⟩
theorem Qdr {K:W.Frag} {H:Hp}: ∀ {bs:List Bool} {vs:List V},Va K H (bs.map D.bl) vs->vs=bs.map V.bl
 | [],_,h=>by simpa [Va] using h
 | b::bs,vs,h=>by
  rw [Qp,Va] at h;obtain ⟨v,r,e,q,t⟩:=h;rw [Qdr t,GZ q] at e;simpa using e
theorem Qpm {x y:Str}:OpD X (fun x y H Q=> ∃ i j,x= .str i/\y= .str j/\Q (.bl (!(Builtin.Str.occurrences j i 0 j.length 1).isEmpty)) H) (.str x) (.str y) (.bl (!(Builtin.Str.occurrences y x 0 y.length 1).isEmpty)):=fun H _ _ Q hx hy q =>
 ⟨x,y,JF hx,JF hy,q _ H (Same.refl H) (ZQ _)⟩
theorem Yl {K:W.Frag} {H:Hp}: ∀ {bs:List Str} {vs:List V},Va K H (bs.map D.str) vs->vs=bs.map V.str
 | [],_,h=>by simpa [Va] using h
 | b::bs,vs,h=>by
  rw [Qp,Va] at h;obtain ⟨v,r,e,q,t⟩:=h;rw [Yl t,JF q] at e;simpa using e
theorem Qdx (bs:List Str):(bs.map V.str).all BA=true:=by
 rw [OP];intro v hv;obtain ⟨s,_,rfl⟩:=Q3.mp hv;rfl
theorem Qh6 (x:Str) (bs:List Str):inV (.str x) (bs.map V.str)=decide (x∈bs):=by
 unfold inV;rw [Jc];simp [eqV]
theorem Qpn {x:Str} {ss:List Str} (hd:d= .tup (ss.map D.str) \/ d= .lst (ss.map D.str)) (neg:Bool):OpD X (rIn X.K neg) (.str x) d (.bl (if neg=true then !decide (x∈ss) else decide (x∈ss))):=fun H v u Q hv hu q=>by
 have e:=JF hv;subst e;rcases hd with rfl | rfl
 ·obtain ⟨p,vs,rfl,hq,r⟩:=Jn hu;rw [Yl r] at hq;exact ⟨p,_,rfl,.inr hq,rfl,Qdx _,by rw [Qh6];exact q _ H (Same.refl H) (ZQ _)⟩
 ·obtain ⟨p,vs,rfl,hq,r⟩:=Wr hu;rw [Yl r] at hq;exact ⟨p,_,rfl,.inl hq,rfl,Qdx _,by rw [Qh6];exact q _ H (Same.refl H) (ZQ _)⟩
theorem Qvr {x:Str} {ss:List Str} (ha:PD X ρ a (.str x)) (hb:PD X ρ b db) (hd:db= .tup (ss.map D.str) \/ db= .lst (ss.map D.str)) (hm:behindInMarks .In b=false:=by rfl):PB X ρ (.Compare a [.In] [b] pos) (decide (x∈ss)) :=
 Ui Qmb ha hb (Qpn hd false) hm
theorem Qhs {x:Str} {ss:List Str} (ha:PD X ρ a (.str x)) (hb:PD X ρ b db) (hd:db= .tup (ss.map D.str) \/ db= .lst (ss.map D.str)) (hm:behindInMarks .NotIn b=false:=by rfl):PB X ρ (.Compare a [.NotIn] [b] pos) (!decide (x∈ss)) :=
 Ui Qf7 ha hb (Qpn hd true) hm
structure JIs (K:W.Frag) (J:It) (H:Hp) (ds:List D):Prop where
 go: ∀ i H',Same H H'->i < ds.length->J.go i H'
 yld: ∀ i H' x H2,Same H H'->i < ds.length->J.yld i H' x H2->H2=H'/\ ∃ d,ds[i]? =some d/\Is K H' d x
 stop: ∀ i H',Same H H'->ds.length<=i->J.stop i H'
def rdI (K:W.Frag) (ρ:List (Option D)) (ds:List D):TI:=fun σ H R=>EnvIs K H σ ρ/\ ∀ J H',Same H H'->JIs K J H' ds->R J H'
structure PDI (X:Cx) (ρ:List (Option D)) (tg iter:Expr) (ds:List D):Prop where
 pe:PI X tg iter (rdI X.K ρ ds)
theorem PI.imp {tg iter:Expr} {t t':TI} (h:PI X tg iter t) (w: ∀ σ H R,t' σ H R->t σ H R):PI X tg iter t':=fun pins s σ H R I q=>h pins s σ H R I (w σ H R q)
theorem Zt {K:W.Frag} {H:Hp} {p:Addr} {vs:List V} {ds:List D} (hq:SqL K H p vs) (r:Va K H ds vs):JIs K (Itl K p) H ds:=by
 have hl:=r.length;refine ⟨fun i H' s hi=>⟨vs,vs[i]'(by omega),s.seq hq,by simp⟩,fun i H' x H2 s _ y=> ?_,fun i H' s hi=>⟨vs,s.seq hq,by omega⟩⟩;obtain ⟨e,y⟩:=y;have e1:=y vs (s.seq hq);obtain ⟨d,e2,e3⟩:=r.at e1;exact ⟨e,d,e2,e3.same s⟩
theorem UE {K:W.Frag} {H:Hp} {p:Addr} {vs:List V} {ds:List D} (hq:SqT K H p vs) (r:Va K H ds vs):JIs K (Itt K p) H ds:=by
 have hl:=r.length;refine ⟨fun i H' s hi=>⟨vs,vs[i]'(by omega),s.sqT hq,by simp⟩,fun i H' x H2 s _ y=> ?_,fun i H' s hi=>⟨vs,s.sqT hq,by omega⟩⟩;obtain ⟨e,y⟩:=y;have e1:=y vs (s.sqT hq);obtain ⟨d,e2,e3⟩:=r.at e1;exact ⟨e,d,e2,e3.same s⟩
theorem YH {tg:Expr} (h:PD X ρ e (.lst ds)):PDI X ρ tg e ds :=
 ⟨(WT h.pe).imp fun σ H R q=>⟨q.1,fun v H1 s1 i1=>by
  obtain ⟨p,vs,rfl,hq,r⟩:=Wr i1;exact ⟨p,rfl,⟨vs,hq⟩,q.2 _ H1 s1 (Zt hq r)⟩⟩⟩
theorem Yp {tg:Expr} (h:PD X ρ e (.tup ds)):PDI X ρ tg e ds :=
 ⟨(UX h.pe).imp fun σ H R q=>⟨q.1,fun v H1 s1 i1=>by
  obtain ⟨p,vs,rfl,hq,r⟩:=Jn i1;exact ⟨p,rfl,⟨vs,hq⟩,q.2 _ H1 s1 (UE hq r)⟩⟩⟩
def We (lo:Int) (n:Nat):List D:=(List.range n).map fun (i:Nat)=> .int (lo+i)
theorem GN {K:W.Frag} {H:Hp} (lo:Int) (n:Nat):JIs K (Itr lo n) H (We lo n):=by
 refine ⟨fun i H' s hi=> ?_,fun i H' y H2 s hi yl=> ?_,fun i H' s hi=> ?_⟩
 ·show i < n;simpa [We] using hi
 ·obtain ⟨e,rfl⟩:=yl;have hi':i < n:=by simpa [We] using hi
  exact ⟨e,.int (lo+i),by simp [We,hi'],Zq _⟩
 ·show n<=i;simpa [We] using hi
theorem Uf {tg:Expr} {n:Int} {p:Pos} (hm:X.mg "range" =none) (ha:PD X ρ a (.int n)) (h1: -(2 ^ 62)<=n) (h2:n < 2 ^ 62) (hg:Gl X "range" :=by rfl) (hs:starEach [a] X.env=[(false,eval a X.env)]:=by rfl):PDI X ρ tg (.Call (.Name "range" p) [a] [] pos) (We 0 n.toNat) :=
 ⟨(Qd6 hg hm (Vc ha Vn hs).pe hs).imp fun σ H R q=>⟨q.1,fun vs H1 s1 i1=>by
  obtain ⟨v,rfl,i⟩:=i1.one;have e:=WY i;subst e;exact ⟨n,rfl,h1,h2,q.2 _ H1 s1 (GN 0 n.toNat)⟩⟩⟩
def rdL (K:W.Frag) (ρ:List (Option D)) (ds:List D):TE:=fun σ H Q=>EnvIs K H σ ρ/\ ∀ p vs H',H p=none->Same H H'->H' p=some (.lst vs)->Va K H' ds vs->Q (.ref p) H'
structure PDL (X:Cx) (ρ:List (Option D)) (e:Expr) (ds:List D):Prop where
 pe:PE X e (rdL X.K ρ ds)
structure PTB (X:Cx) (ρ:List (Option D)) (ifs:List Expr) (k:Bool):Prop where
 pe:PTs X ifs (rdB X.K ρ k)
theorem PDL.pd {ρ:List (Option D)} (h:PDL X ρ e ds):PD X ρ e (.lst ds):=⟨h.pe.imp fun σ H Q q=>⟨q.1,fun p vs H' n s hp i=>q.2 _ H' s (Qfc (SqL.of hp) i)⟩⟩
theorem Wf {xs:List Expr} (h:PDs X ρ xs ds) (hz:ds.length<=sizeLine):PDL X ρ (.List xs pos) ds :=
 ⟨(Qwv h.pe).imp fun σ H Q q=>⟨q.1,fun vs H1 s1 i1=>⟨by rw [<- i1.length];exact hz,fun p hp=>q.2 p vs _ (s1.free hp) (s1.trans (Same.upd hp)) Vu (i1.same (Same.upd hp))⟩⟩⟩
theorem Qe0 {K:W.Frag} {p:D->Bool} {f:D->D} (hz:ds.length<=sizeLine) {σ:St} {H:Hp} {Q:VK} (h:rdL K ρ ((ds.filter p).map f) σ H Q) :
  Qo2 (rdI K ρ ds) (fun σ H Q=> ∃ d,d∈ds/\rdB K (some d::ρ) (p d) σ H Q) (fun σ H Q=> ∃ d,d∈ds/\p d=true/\rdD K (some d::ρ) (f d) σ H Q) σ H Q:=by
 obtain ⟨hE,q⟩:=h;refine ⟨hE,fun J H1 s1 ji=> ?_⟩;refine ⟨fun i m ys H2=> ∃ d0:Unit,Same H1 H2/\i<=ds.length/\m=ds.length - i/\Va K H2 (((ds.take i).filter p).map f) ys,⟨ds.length,(),Same.refl _,Jd _,rfl,by simpa using Jm⟩,?_⟩;rintro i m ys H2 ⟨_,s2,hi,rfl,r⟩
 by_cases hlt:i < ds.length
 ·refine .inr ⟨ji.go i H2 s2 hlt,?_,fun v H3 y=> ?_⟩
  ·have h1:=r.length;have h2:(((ds.take i).filter p).map f).length<=i:=by
    rw [Q0];exact Qz (Zj _ _) (by rw [Qj];omega)
   omega
  ·obtain ⟨e,d,hd,iv⟩:=ji.yld i H2 v H3 s2 hlt y;subst e;have hm:d∈ds:=Q4 hd;have ht4:ds.take (i+1)=ds.take i++[d]:=by rw [QJ,hd];rfl
   refine ⟨d,hm,((hE.same s1).same s2).cons iv,fun H4 s4=> ?_⟩
   by_cases hp:p d=true
   ·show if p d=true then _ else _;rw [Qk hp];refine ⟨d,hm,hp,(((hE.same s1).same s2).cons iv).same s4,fun z H5 s5 iz=>⟨ds.length - (i+1),by omega,(),(s2.trans s4).trans s5,hlt,rfl,?_⟩⟩;rw [ht4,List.filter_append,QE];simp only [Qnn,List.filter_nil,hp,Zx,Qp,ZN];exact ((r.same s4).same s5).append (Vg iz Jm)
   ·show if p d=true then _ else _;rw [Qn hp];refine ⟨ds.length - (i+1),by omega,(),s2.trans s4,hlt,rfl,?_⟩;rw [ht4,List.filter_append,QE];simp only [Qnn,List.filter_nil,hp,Yd,OI,ZN,JM];exact r.same s4
 ·have e:i=ds.length:=by omega
  subst e;refine .inl ⟨ji.stop _ H2 s2 (Q6 _),fun l hl=>q l ys _ ((s1.trans s2).free hl) ((s1.trans s2).trans (Same.upd hl)) Vu (Va.same (Same.upd hl) ?_)⟩;rw [QF] at r;exact r
theorem Qfn {elt iter:Expr} {x:Str} {px:Pos} {ifs:List Expr} {scope:Scope} {p:D->Bool} {f:D->D} (hc:X.calm=true) (hi:PDI X ρ (.Name x px) iter ds) (hz:ds.length<=sizeLine)
  (ht: ∀ d∈ds,∀ cl C s H ex,PTB (cxC X x scope cl C s H ex) (some d::ρ) ifs (p d)) (he: ∀ d∈ds,p d=true-> ∀ cl C s H ex,PD (cxC X x scope cl C s H ex) (some d::ρ) elt (f d))
  (hok:WL X.N X.env.scope x scope=true:=by rfl) (hs: ∀ x,foldedSetIterable iter X.env x=pure x:=by intro _;rfl) :
  PDL X ρ (.ListComp elt [⟨.Name x px,iter,ifs,0⟩] scope pos) ((ds.filter p).map f) :=
 ⟨(Qt1 hc hi.pe (fun cl C s H ex pins s' σ H' Q I ⟨d,hd,q⟩=>(ht d hd cl C s H ex).pe pins s' σ H' Q I q) (fun cl C s H ex pins s' σ H' Q I ⟨d,hd,hp,q⟩=>(he d hd hp cl C s H ex).pe pins s' σ H' Q I q) hok hs).imp fun σ H Q q=>Qe0 hz q⟩
theorem Oe {α:Type} (l:List α):l.filter (fun _=>true)=l:=by simp
theorem Qoq {d:D} {x:Str} {scope:Scope} (cl:List (Str×Addr)) (C:Addr) (s:Shared) (H:Hp) (ex:List Addr):PTB (cxC X x scope cl C s H ex) (some d::ρ) [] true:=⟨fun pins s' σ H' Q I q=>Bp pins s' σ H' Q I (q.2 H' (Same.refl H'))⟩
theorem Qjv {c:Expr} {k:Bool} (h:PB X ρ c k):PTB X ρ [c] k:=⟨Qso h.pe⟩
theorem Z6 {elt iter:Expr} {x:Str} {px:Pos} {scope:Scope} {f:D->D} (hc:X.calm=true) (hi:PDI X ρ (.Name x px) iter ds) (hz:ds.length<=sizeLine)
  (he: ∀ d∈ds,∀ cl C s H ex,PD (cxC X x scope cl C s H ex) (some d::ρ) elt (f d))
  (hok:WL X.N X.env.scope x scope=true:=by rfl) (hs: ∀ x,foldedSetIterable iter X.env x=pure x:=by intro _;rfl) :
  PDL X ρ (.ListComp elt [⟨.Name x px,iter,[],0⟩] scope pos) (ds.map f):=by
 have:=Qfn (pos:=pos) (elt:=elt) (scope:=scope) (ifs:=[]) (p:=fun _=>true) hc hi hz (fun d hd=>Qoq) (fun d hd _=>he d hd) hok hs;rwa [Oe] at this
end
mutual
def LF:D->Bool
 | .tup ds=>LFs ds
 | .lst _=>false
 | .dct fz _ ds=>fz && LFs ds
 | _=>true
def LFs:List D->Bool
 | []=>true
 | d::ds=>LF d && LFs ds
end
theorem Qaj: ∀ {ds:List D},LFs ds=true ↔ ∀ d∈ds,LF d=true
 | []=>by simp [LFs]
 | d::ds=>by simp [LFs,Qaj]
theorem Qjn {ds:List D}:LF (.tup ds)=LFs ds:=by simp [LF]
theorem QT {x:Str}:LF (.str x)=true:=by simp [LF]
theorem WN {x:Int}:LF (.int x)=true:=by simp [LF]
theorem Qvt {x:Bool}:LF (.bl x)=true:=by simp [LF]
theorem QU {α:Type} {f:α->D} (h: ∀ a,LF (f a)=true) (l:List α):LFs (l.map f)=true:=by
 rw [Qaj];intro d hd;obtain ⟨a,_,rfl⟩:=Q3.mp hd;exact h a
theorem Yt {ds es:List D}:LFs (ds++es)=(LFs ds && LFs es):=by
 rw [Jc];simp only [Qv,Qaj,QH];constructor
 ·exact fun h=>⟨fun d hd=>h d (.inl hd),fun d hd=>h d (.inr hd)⟩
 ·rintro ⟨h1,h2⟩ d (hd | hd)
  ·exact h1 d hd
  ·exact h2 d hd
structure TSame (H H':Hp):Prop where
 tp: ∀ b xs,Rd H b (.tup xs)->Rd H' b (.tup xs)
 fz: ∀ b o u,H b=some (.frz o u)->H' b=some (.frz o u)
theorem TSame.refl (H:Hp):TSame H H:=⟨fun _ _ h=>h,fun _ _ _ h=>h⟩
theorem TSame.trans {H H1 H2:Hp} (a:TSame H H1) (b:TSame H1 H2):TSame H H2:=⟨fun c xs h=>b.tp c xs (a.tp c xs h),fun c o u h=>b.fz c o u (a.fz c o u h)⟩
theorem Same.t {H H':Hp} (s:Same H H'):TSame H H':=by
 refine ⟨fun b xs h=> ?_,fun b o u h=>s _ _ h⟩;rcases h with h | ⟨o,h⟩
 ·exact .inl (s _ _ h)
 ·exact .inr ⟨o,s _ _ h⟩
theorem TSame.updM {H:Hp} {p:Addr} {u u':HO} (h:H p=some u) (h1: ∀ xs,u≠ .tup xs) (h2: ∀ o v,u≠ .frz o v):TSame H (upd H p u'):=by
 have hb: ∀ b v,H b=some v->(∀ e:v=u,False)->b≠p:=fun b v q ne z=>by
  rw [z,h] at q;cases q;exact ne rfl
 refine ⟨fun b xs q=> ?_,fun b o v q=>by rw [J1 (hb b _ q fun e=>h2 o v e.symm)];exact q⟩;rcases q with q | ⟨o,q⟩
 ·exact .inl (by rw [J1 (hb b _ q fun e=>h1 xs e.symm)];exact q)
 ·exact .inr ⟨o,by rw [J1 (hb b _ q fun e=>h2 o _ e.symm)];exact q⟩
theorem TSame.lst {H:Hp} {p:Addr} {vs ws:List V} (h:H p=some (.lst vs)):TSame H (upd H p (.lst ws)):=TSame.updM h (fun _ e=>nomatch e) (fun _ _ e=>nomatch e)
mutual
theorem Is.tsame {K:W.Frag} {H H':Hp} (s:TSame H H'): ∀ {d:D} {v:V},LF d=true->Is K H d v->Is K H' d v
 | .non,_,_,h=>by simpa [Is] using h
 | .bl _,_,_,h=>by simpa [Is] using h
 | .int _,_,_,h=>by simpa [Is] using h
 | .str _,_,_,h=>by simpa [Is] using h
 | .tup ds,v,l,h=>by
  rw [Is] at h ⊢;rw [LF] at l;obtain ⟨p,vs,e,q,r⟩:=h;refine ⟨p,vs,e,?_,Va.tsame s l r⟩;rcases q with q | q
  ·exact .inl (s.tp _ _ q)
  ·exact .inr q
 | .lst ds,v,l,h=>by simp [LF] at l
 | .dct fz ks ds,v,l,h=>by
  rw [LF,Qv] at l;rw [Is] at h ⊢;obtain ⟨p,ss,vs,e,ek,dk,r⟩:=h;obtain ⟨l1,l2⟩:=l;subst l1;obtain ⟨o,ho⟩:=(show ∃ o,H p=some (.frz o (.dK (Js ss vs))) from dk.at_);exact ⟨p,ss,vs,e,ek,⟨dk.len,dk.nd,⟨o,s.fz _ _ _ ho⟩⟩,Va.tsame s l2 r⟩
theorem Va.tsame {K:W.Frag} {H H':Hp} (s:TSame H H'): ∀ {ds:List D} {vs:List V},LFs ds=true->Va K H ds vs->Va K H' ds vs
 | [],_,_,h=>by simpa [Va] using h
 | d::ds,vs,l,h=>by
  rw [Va] at h ⊢;rw [LFs,Qv] at l;obtain ⟨v,r,e,q,t⟩:=h;exact ⟨v,r,e,Is.tsame s l.1 q,Va.tsame s l.2 t⟩
end
inductive Sl where
 | no | arg (d:D) | own (ds:List D) | any (d:D) | odc (ks:List Str) (ds:List D) | ftp (ds:List D) | flt (ds:List D)
def Sl.d:Sl->Option D
 | .no=>none
 | .arg d=>some d
 | .own ds=>some (.lst ds)
 | .any d=>some d
 | .odc ks ds=>some (.dct false (ks.map .str) ds)
 | .ftp ds=>some (.tup ds)
 | .flt ds=>some (.lst ds)
def SlIs (K:W.Frag) (H₀ H:Hp):Sl->Option V->Prop
 | .no,_=>True
 | .arg d,o=> ∃ v,o=some v/\Is K H₀ d v
 | .own ds,o=> ∃ p vs,o=some (.ref p)/\H₀ p=none/\H p=some (.lst vs)/\LFs ds=true/\Va K H ds vs
 | .any d,o=> ∃ v,o=some v/\Is K H d v
 | .odc ks ds,o=> ∃ p vs,o=some (.ref p)/\H₀ p=none/\DkAt false H p ks vs/\LFs ds=true/\Va K H ds vs
 | .ftp ds,o=> ∃ p vs,o=some (.ref p)/\(∃ ob,ob.dict=none/\H p=some (.frz ob (.tup vs)))/\LFs ds=true/\Va K H ds vs
 | .flt ds,o=> ∃ p vs,o=some (.ref p)/\(∃ ob,H p=some (.frz ob (.lst vs)))/\LFs ds=true/\Va K H ds vs
structure EnvO (K:W.Frag) (H₀ H:Hp) (σ:St) (τ:List Sl):Prop where
 same:Same H₀ H
 len:σ.length=τ.length
 sl: ∀ (i:Nat) (s:Sl),τ[i]? =some s-> ∃ o,σ[i]? =some o/\SlIs K H₀ H s o
 apart: ∀ (i j:Nat) (ds es:List D) (p:Addr),i≠j->τ[i]? =some (.own ds)->τ[j]? =some (.own es)->σ[i]? =some (some (.ref p))->σ[j]? ≠some (some (.ref p))
 apD: ∀ (i j:Nat) (ks ks':List Str) (ds es:List D) (p:Addr),i≠j->τ[i]? =some (.odc ks ds)->τ[j]? =some (.odc ks' es)->σ[i]? =some (some (.ref p))->σ[j]? ≠some (some (.ref p))
def dat (τ:List Sl):List (Option D):=τ.map Sl.d
theorem EnvO.env {K:W.Frag} {H₀ H:Hp} {σ:St} {τ:List Sl} (h:EnvO K H₀ H σ τ):EnvIs K H σ (dat τ):=by
 refine ⟨by simp [dat,h.len],fun i d e=> ?_⟩;unfold dat at e;rw [Q8] at e;cases q:τ[i]? with
 | none=>rw [q] at e;cases e
 | some s =>
  rw [q] at e;obtain ⟨o,e1,e2⟩:=h.sl i s q;have e':s.d=some d:=by simpa using e
  cases s with
  | no=>cases e'
  | arg x =>
   cases e';obtain ⟨v,rfl,z⟩:=e2;exact ⟨v,e1,z.same h.same⟩
  | any x =>
   cases e';obtain ⟨v,rfl,z⟩:=e2;exact ⟨v,e1,z⟩
  | own ds =>
   cases e';obtain ⟨p,vs,rfl,_,z,_,t⟩:=e2;exact ⟨.ref p,e1,Qfc (SqL.of z) t⟩
  | odc ks ds =>
   cases e';obtain ⟨p,vs,rfl,_,z,_,t⟩:=e2;exact ⟨.ref p,e1,Qxk z t⟩
  | ftp ds =>
   cases e';obtain ⟨p,vs,rfl,⟨ob,_,z⟩,_,t⟩:=e2;exact ⟨.ref p,e1,YQ (.inl (.inr ⟨ob,z⟩)) t⟩
  | flt ds =>
   cases e';obtain ⟨p,vs,rfl,⟨ob,z⟩,_,t⟩:=e2;exact ⟨.ref p,e1,Qfc (.inl (.inr ⟨ob,z⟩)) t⟩
theorem EnvO.step {K:W.Frag} {H₀ H H':Hp} {σ:St} {τ:List Sl} (h:EnvO K H₀ H σ τ) (s:Same H H'):EnvO K H₀ H' σ τ:=by
 refine ⟨h.same.trans s,h.len,fun i sl e=> ?_,h.apart,h.apD⟩;obtain ⟨o,e1,e2⟩:=h.sl i sl e;refine ⟨o,e1,?_⟩;cases sl with
 | no=>trivial
 | arg d=>exact e2
 | any d =>
  obtain ⟨v,z,t⟩:=e2;exact ⟨v,z,t.same s⟩
 | own ds =>
  obtain ⟨p,vs,z,n,t,l,a⟩:=e2;exact ⟨p,vs,z,n,s _ _ t,l,a.same s⟩
 | odc ks ds =>
  obtain ⟨p,vs,z,n,t,l,a⟩:=e2;exact ⟨p,vs,z,n,s.dk t,l,a.same s⟩
 | ftp ds =>
  obtain ⟨p,vs,z,⟨ob,hn,t⟩,l,a⟩:=e2;exact ⟨p,vs,z,⟨ob,hn,s _ _ t⟩,l,a.same s⟩
 | flt ds =>
  obtain ⟨p,vs,z,⟨ob,t⟩,l,a⟩:=e2;exact ⟨p,vs,z,⟨ob,s _ _ t⟩,l,a.same s⟩
theorem EnvO.set {K:W.Frag} {H₀ H:Hp} {σ:St} {τ:List Sl} {v:V} {s:Sl} (h:EnvO K H₀ H σ τ) (i:Nat) (hs:SlIs K H₀ H s (some v)) (hn: ∀ ds,s= .own ds-> ∀ (j:Nat) (p:Addr) (es:List D),v= .ref p->τ[j]? =some (.own es)->j≠i->σ[j]? ≠some (some (.ref p)))
  (hd: ∀ ks ds,s= .odc ks ds-> ∀ (j:Nat) (p:Addr) (ks':List Str) (es:List D),v= .ref p->τ[j]? =some (.odc ks' es)->j≠i->σ[j]? ≠some (some (.ref p)):=by intro _ _ e;cases e):EnvO K H₀ H (σ.set i (some v)) (τ.set i s):=by
 refine ⟨h.same,by simp [h.len],fun j u e=> ?_,fun j k ds es p hjk e1 e2 e3 e4=> ?_,fun j k ks ks' ds es p hjk e1 e2 e3 e4=> ?_⟩
 ·by_cases hj:i=j
  ·subst hj
   by_cases hi:i < τ.length
   ·rw [Qu hi] at e;have:s=u:=by simpa using e
    subst this;exact ⟨some v,by rw [Qu (by rw [h.len];exact hi)],hs⟩
   ·rw [JJ (by simpa using hi)] at e;cases e
  ·rw [Qc hj] at e ⊢;exact h.sl j u e
 ·have look: ∀ (m:Nat) (ds:List D),(τ.set i s)[m]? =some (.own ds)->(m=i/\s= .own ds/\i < τ.length) \/ (m≠i/\τ[m]? =some (.own ds)):=fun m ds e=>by
   by_cases hm:i=m
   ·subst hm
    by_cases hi:i < τ.length
    ·rw [Qu hi] at e;exact .inl ⟨rfl,by simpa using e,hi⟩
    ·rw [JJ (by simpa using hi)] at e;cases e
   ·rw [Qc hm] at e;exact .inr ⟨J5 hm,e⟩
  rcases look j ds e1 with ⟨rfl,s1,hi⟩ | ⟨nj,t1⟩
  ·rcases look k es e2 with ⟨rfl,_,_⟩ | ⟨nk,t2⟩
   ·exact hjk rfl
   ·rw [Qu (by rw [h.len];exact hi)] at e3;rw [Qc (J5 nk)] at e4;exact hn ds s1 k p es (by simpa using e3) t2 nk e4
  ·rcases look k es e2 with ⟨rfl,s2,hi⟩ | ⟨nk,t2⟩
   ·rw [Qu (by rw [h.len];exact hi)] at e4;rw [Qc (J5 nj)] at e3;exact hn es s2 j p ds (by simpa using e4) t1 nj e3
   ·rw [Qc (J5 nj)] at e3;rw [Qc (J5 nk)] at e4;exact h.apart j k ds es p hjk t1 t2 e3 e4
 ·have look: ∀ (m:Nat) (ks:List Str) (ds:List D),(τ.set i s)[m]? =some (.odc ks ds)->(m=i/\s= .odc ks ds/\i < τ.length) \/ (m≠i/\τ[m]? =some (.odc ks ds)):=fun m ks ds e=>by
   by_cases hm:i=m
   ·subst hm
    by_cases hi:i < τ.length
    ·rw [Qu hi] at e;exact .inl ⟨rfl,by simpa using e,hi⟩
    ·rw [JJ (by simpa using hi)] at e;cases e
   ·rw [Qc hm] at e;exact .inr ⟨J5 hm,e⟩
  rcases look j ks ds e1 with ⟨rfl,s1,hi⟩ | ⟨nj,t1⟩
  ·rcases look k ks' es e2 with ⟨rfl,_,_⟩ | ⟨nk,t2⟩
   ·exact hjk rfl
   ·rw [Qu (by rw [h.len];exact hi)] at e3;rw [Qc (J5 nk)] at e4;exact hd ks ds s1 k p ks' es (by simpa using e3) t2 nk e4
  ·rcases look k ks' es e2 with ⟨rfl,s2,hi⟩ | ⟨nk,t2⟩
   ·rw [Qu (by rw [h.len];exact hi)] at e4;rw [Qc (J5 nj)] at e3;exact hd ks' es s2 j p ks ds (by simpa using e4) t1 nj e3
   ·rw [Qc (J5 nj)] at e3;rw [Qc (J5 nk)] at e4;exact h.apD j k ks ks' ds es p hjk t1 t2 e3 e4
theorem EnvO.mut {K:W.Frag} {H₀ H:Hp} {σ:St} {τ:List Sl} {i:Nat} {p:Addr} {vs ws:List V} {ds es:List D} (h:EnvO K H₀ H σ τ) (hi:τ[i]? =some (.own ds)) (hσ:σ[i]? =some (some (.ref p))) (hn:H₀ p=none) (hp:H p=some (.lst vs))
  (hl: ∀ (j:Nat) (d:D),τ[j]? =some (.any d)->LF d=true) (le:LFs es=true) (ie:Va K H es ws):EnvO K H₀ (upd H p (.lst ws)) σ (τ.set i (.own es)):=by
 have ts:TSame H (upd H p (.lst ws)):=TSame.lst hp;have hlt:i < τ.length:=(Q5.mp hi).1;refine ⟨fun b o e=>by rw [J1 (Jg e hn)];exact h.same b o e,by simp [h.len],fun j u e=> ?_,fun j k ds' es' q hjk e1 e2 e3 e4=> ?_,fun j k ks ks' ds' es' q hjk e1 e2=> ?_⟩
 ·by_cases hj:i=j
  ·subst hj;rw [Qu hlt] at e;have:Sl.own es=u:=by simpa using e
   subst this;exact ⟨_,hσ,p,ws,rfl,hn,Vu,le,ie.tsame ts le⟩
  ·rw [Qc hj] at e;obtain ⟨o,e1,e2⟩:=h.sl j u e;refine ⟨o,e1,?_⟩;cases u with
   | no=>trivial
   | arg d=>exact e2
   | any d =>
    obtain ⟨v,z,t⟩:=e2;exact ⟨v,z,t.tsame ts (hl j d e)⟩
   | own ds' =>
    obtain ⟨p',vs',z,n',t,l,a⟩:=e2;subst z;have hne:p'≠p:=by
     rintro rfl;exact h.apart i j ds ds' p' hj hi e hσ e1
    exact ⟨p',vs',rfl,n',by rw [J1 hne];exact t,l,a.tsame ts l⟩
   | odc ks' ds' =>
    obtain ⟨p',vs',z,n',t,l,a⟩:=e2;subst z;have ta:H p'=some (.dK (Js ks' vs')):=t.at_;have hne:p'≠p:=by
     rintro rfl;rw [hp] at ta;cases ta
    exact ⟨p',vs',rfl,n',⟨t.len,t.nd,by show upd H p (.lst ws) p'=_;rw [J1 hne];exact ta⟩,l,a.tsame ts l⟩
   | ftp ds' =>
    obtain ⟨p',vs',z,⟨ob,hno,t⟩,l,a⟩:=e2;subst z;have hne:p'≠p:=by
     rintro rfl;rw [hp] at t;cases t
    exact ⟨p',vs',rfl,⟨ob,hno,by rw [J1 hne];exact t⟩,l,a.tsame ts l⟩
   | flt ds' =>
    obtain ⟨p',vs',z,⟨ob,t⟩,l,a⟩:=e2;exact ⟨p',vs',z,⟨ob,ts.fz _ _ _ t⟩,l,a.tsame ts l⟩
 ·have look: ∀ (m:Nat) (ds':List D),(τ.set i (.own es))[m]? =some (.own ds')-> ∃ ds'',τ[m]? =some (.own ds''):=fun m ds' e=>by
   by_cases hm:i=m
   ·subst hm;exact ⟨ds,hi⟩
   ·rw [Qc hm] at e;exact ⟨_,e⟩
  obtain ⟨d1,t1⟩:=look j ds' e1;obtain ⟨d2,t2⟩:=look k es' e2;exact h.apart j k d1 d2 q hjk t1 t2 e3 e4
 ·have look: ∀ (m:Nat) (ks:List Str) (ds':List D),(τ.set i (.own es))[m]? =some (.odc ks ds')->τ[m]? =some (.odc ks ds'):=fun m ks ds' e=>by
   by_cases hm:i=m
   ·subst hm;rw [Qu hlt] at e;cases e
   ·rw [Qc hm] at e;exact e
  exact h.apD j k ks ks' ds' es' q hjk (look j ks ds' e1) (look k ks' es' e2)
theorem TSame.dk {H:Hp} {p:Addr} {vs ws:List (Key×V)} (h:H p=some (.dK vs)):TSame H (upd H p (.dK ws)):=TSame.updM h (fun _ e=>nomatch e) (fun _ _ e=>nomatch e)
theorem EnvO.mutD {K:W.Frag} {H₀ H:Hp} {σ:St} {τ:List Sl} {i:Nat} {p:Addr} {vs ws:List V} {ks ks2:List Str} {ds es:List D} (h:EnvO K H₀ H σ τ) (hi:τ[i]? =some (.odc ks ds)) (hσ:σ[i]? =some (some (.ref p))) (hn:H₀ p=none) (hp:DkAt false H p ks vs)
  (hl: ∀ (j:Nat) (d:D),τ[j]? =some (.any d)->LF d=true) (le:LFs es=true) (hlen:ks2.length=ws.length) (hnd:ks2.Nodup) (ie:Va K H es ws):EnvO K H₀ (upd H p (.dK (Js ks2 ws))) σ (τ.set i (.odc ks2 es)):=by
 have hp':H p=some (.dK (Js ks vs)):=hp.at_;have ts:TSame H (upd H p (.dK (Js ks2 ws))):=TSame.dk hp';have hlt:i < τ.length:=(Q5.mp hi).1;refine ⟨fun b o e=>by rw [J1 (Jg e hn)];exact h.same b o e,by simp [h.len],fun j u e=> ?_,fun j k ds' es' q hjk e1 e2=> ?_,fun j k kk kk' ds' es' q hjk e1 e2 e3 e4=> ?_⟩
 ·by_cases hj:i=j
  ·subst hj;rw [Qu hlt] at e;have:Sl.odc ks2 es=u:=by simpa using e
   subst this;exact ⟨_,hσ,p,ws,rfl,hn,⟨hlen,hnd,Vu⟩,le,ie.tsame ts le⟩
  ·rw [Qc hj] at e;obtain ⟨o,e1,e2⟩:=h.sl j u e;refine ⟨o,e1,?_⟩;cases u with
   | no=>trivial
   | arg d=>exact e2
   | any d =>
    obtain ⟨v,z,t⟩:=e2;exact ⟨v,z,t.tsame ts (hl j d e)⟩
   | own ds' =>
    obtain ⟨p',vs',z,n',t,l,a⟩:=e2;subst z;have hne:p'≠p:=by
     rintro rfl;rw [hp'] at t;cases t
    exact ⟨p',vs',rfl,n',by rw [J1 hne];exact t,l,a.tsame ts l⟩
   | odc ks' ds' =>
    obtain ⟨p',vs',z,n',t,l,a⟩:=e2;subst z;have ta:H p'=some (.dK (Js ks' vs')):=t.at_;have hne:p'≠p:=by
     rintro rfl;exact h.apD i j ks ks' ds ds' p' hj hi e hσ e1
    exact ⟨p',vs',rfl,n',⟨t.len,t.nd,by show upd H p (.dK (Js ks2 ws)) p'=_;rw [J1 hne];exact ta⟩,l,a.tsame ts l⟩
   | ftp ds' =>
    obtain ⟨p',vs',z,⟨ob,hno,t⟩,l,a⟩:=e2;subst z;have hne:p'≠p:=by
     rintro rfl;rw [hp'] at t;cases t
    exact ⟨p',vs',rfl,⟨ob,hno,by rw [J1 hne];exact t⟩,l,a.tsame ts l⟩
   | flt ds' =>
    obtain ⟨p',vs',z,⟨ob,t⟩,l,a⟩:=e2;exact ⟨p',vs',z,⟨ob,ts.fz _ _ _ t⟩,l,a.tsame ts l⟩
 ·have look: ∀ (m:Nat) (ds':List D),(τ.set i (.odc ks2 es))[m]? =some (.own ds')->τ[m]? =some (.own ds'):=fun m ds' e=>by
   by_cases hm:i=m
   ·subst hm;rw [Qu hlt] at e;cases e
   ·rw [Qc hm] at e;exact e
  exact h.apart j k ds' es' q hjk (look j ds' e1) (look k es' e2)
 ·have look: ∀ (m:Nat) (kk:List Str) (ds':List D),(τ.set i (.odc ks2 es))[m]? =some (.odc kk ds')-> ∃ k2 d2,τ[m]? =some (.odc k2 d2):=fun m kk ds' e=>by
   by_cases hm:i=m
   ·subst hm;exact ⟨ks,ds,hi⟩
   ·rw [Qc hm] at e;exact ⟨_,_,e⟩
  obtain ⟨k1,d1,t1⟩:=look j kk ds' e1;obtain ⟨k2,d2,t2⟩:=look k kk' es' e2;exact h.apD j k k1 k2 d1 d2 q hjk t1 t2 e3 e4
def Rl:Bool->Hp->Hp->Prop
 | true,H,H'=>Same H H'
 | false,H,H'=>TSame H H'
theorem Rl.of {m:Bool} {H H':Hp} (s:Same H H'):Rl m H H':=by
 cases m
 ·exact s.t
 ·exact s
theorem Rl.refl {m:Bool} (H:Hp):Rl m H H:= .of (Same.refl H)
theorem Rl.t {m:Bool} {H H':Hp} (s:Rl m H H'):TSame H H':=by
 cases m
 ·exact s
 ·exact Same.t s
theorem Rl.trans {m n:Bool} {H H1 H2:Hp} (a:Rl m H H1) (b:Rl n H1 H2):Rl (m && n) H H2:=by
 cases m
 ·exact TSame.trans a.t b.t
 ·cases n
  ·exact TSame.trans a.t b.t
  ·exact Same.trans a b
theorem Rl.weak {m n:Bool} {H H1:Hp} (a:Rl m H H1) (h:n=true->m=true):Rl n H H1:=by
 cases n
 ·exact a.t
 ·rw [h rfl] at a;exact a
inductive RO where
 | ret (d:D) | retL (ds:List D) | retT (ds:List D) | next (m:Bool) (τ:List Sl) | brk (m:Bool) (τ:List Sl) | cnt (m:Bool) (τ:List Sl)
def rdO (K:W.Frag) (H₀:Hp) (τ:List Sl) (r:RO):TS:=fun Dd σ H=>EnvO K H₀ H σ τ/\match r with
 | .ret d=> ∀ v H',Same H₀ H'->Is K H' d v->Dd.rt v H'
 | .retL ds=> ∀ p vs H',H₀ p=none->Same H₀ H'->H' p=some (.lst vs)->Va K H' ds vs->Dd.rt (.ref p) H'
 | .retT ds=> ∀ p vs ob H',ob.dict=none->Same H₀ H'->H' p=some (.frz ob (.tup vs))->Va K H' ds vs->Dd.rt (.ref p) H'
 | .next m τ'=> ∀ σ' H',Rl m H H'->EnvO K H₀ H' σ' τ'->Dd.nx σ' H'
 | .brk m τ'=> ∀ σ' H',Rl m H H'->EnvO K H₀ H' σ' τ'->Dd.bk σ' H'
 | .cnt m τ'=> ∀ σ' H',Rl m H H'->EnvO K H₀ H' σ' τ'->Dd.ct σ' H'
structure QO (X:Cx) (H₀:Hp) (τ:List Sl) (st:Stmt) (r:RO):Prop where
 pe:PS X st (rdO X.K H₀ τ r)
structure QOs (X:Cx) (H₀:Hp) (τ:List Sl) (sts:List Stmt) (r:RO):Prop where
 pe:PSs X sts (rdO X.K H₀ τ r)
section
variable {X:Cx} {H₀:Hp} {τ τ' τ1 τ2:List Sl} {st:Stmt} {sts rest:List Stmt} {r:RO} {e c:Expr} {d:D} {ds es:List D} {pos:Pos} {m n:Bool}
theorem JS:QOs X H₀ τ [] (.next true τ):=⟨Qf4.imp fun D σ H q=>q.2 σ H (Rl.refl H) q.1⟩
def RO.after (m:Bool):RO->RO
 | .next n τ=> .next (m && n) τ
 | .brk n τ=> .brk (m && n) τ
 | .cnt n τ=> .cnt (m && n) τ
 | r=>r
theorem Qaz {Dd:Ends} {σ σ':St} {H H':Hp} (q:rdO X.K H₀ τ (r.after m) Dd σ H) (t:Rl m H H') (h:EnvO X.K H₀ H' σ' τ1):rdO X.K H₀ τ1 r Dd σ' H':=by
 obtain ⟨_,q⟩:=q;refine ⟨h,?_⟩;cases r with
 | ret d=>exact q
 | retL ds=>exact q
 | retT ds=>exact q
 | next n τ2=>exact fun σ2 H2 t2=>q σ2 H2 (t.trans t2)
 | brk n τ2=>exact fun σ2 H2 t2=>q σ2 H2 (t.trans t2)
 | cnt n τ2=>exact fun σ2 H2 t2=>q σ2 H2 (t.trans t2)
theorem Bf:r.after true=r:=by cases r<;>simp [RO.after]
theorem Qbd (h1:QO X H₀ τ st (.next m τ1)) (h2:QOs X H₀ τ1 rest r):QOs X H₀ τ (st::rest) (r.after m) :=
 ⟨(Bq h1.pe h2.pe).imp fun D σ H q=>⟨q.1,fun σ' H' t h=>Qaz q t h⟩⟩
theorem Wa (h1:QO X H₀ τ st (.next true τ1)) (h2:QOs X H₀ τ1 rest r):QOs X H₀ τ (st::rest) r:=by
 have:=Qbd h1 h2;rwa [Bf] at this
theorem BZ (h1:QO X H₀ τ st (.next false τ1)) (h2:QOs X H₀ τ1 rest (.next m τ2)):QOs X H₀ τ (st::rest) (.next false τ2):=Qbd h1 h2
theorem Vq (h1:QO X H₀ τ st (.next m τ1)) (h2:QOs X H₀ τ1 rest (.ret d)):QOs X H₀ τ (st::rest) (.ret d):=Qbd h1 h2
theorem Zn (h1:QO X H₀ τ st (.next m τ1)) (h2:QOs X H₀ τ1 rest (.retL ds)):QOs X H₀ τ (st::rest) (.retL ds):=Qbd h1 h2
theorem Vz (h1:QO X H₀ τ st r):QOs X H₀ τ [st] r:=⟨Qsp h1.pe⟩
def RO.leaves:RO->Bool
 | .next _ _=>false
 | _=>true
theorem Gb (h1:QO X H₀ τ st r) (hr:r.leaves=true:=by rfl):QOs X H₀ τ (st::rest) r:=by
 have h2:PSs X rest Qo0:=ZH;refine ⟨(Bq h1.pe h2).imp fun D σ H q=> ?_⟩;cases r with
 | next m τ2=>cases hr
 | ret d=>exact q
 | retL ds=>exact q
 | retT ds=>exact q
 | brk m τ2=>exact q
 | cnt m τ2=>exact q
def Wk (τ τ':List Sl):Prop:=τ.length=τ'.length/\ ∀ (i:Nat) (s:Sl),τ'[i]? =some s->s= .no \/ τ[i]? =some s \/ ∃ d,s= .any d/\τ[i]? =some (.arg d)
theorem Wk.refl (τ:List Sl):Wk τ τ:=⟨rfl,fun i s h=> .inr (.inl h)⟩
theorem EnvO.wk {K:W.Frag} {H:Hp} {σ:St} (h:EnvO K H₀ H σ τ) (w:Wk τ τ'):EnvO K H₀ H σ τ':=by
 have own: ∀ (i:Nat) (ds:List D),τ'[i]? =some (Sl.own ds)->τ[i]? =some (Sl.own ds):=fun i ds e=>by
  rcases w.2 i _ e with z | z | ⟨d,z,_⟩
  ·cases z
  ·exact z
  ·cases z
 have odc: ∀ (i:Nat) (ks:List Str) (ds:List D),τ'[i]? =some (Sl.odc ks ds)->τ[i]? =some (Sl.odc ks ds):=fun i ks ds e=>by
  rcases w.2 i _ e with z | z | ⟨d,z,_⟩
  ·cases z
  ·exact z
  ·cases z
 refine ⟨h.same,by rw [h.len,w.1],fun i s e=> ?_,fun i j ds es p hij e1 e2=>h.apart i j ds es p hij (own i ds e1) (own j es e2),fun i j ks ks' ds es p hij e1 e2=>h.apD i j ks ks' ds es p hij (odc i ks ds e1) (odc j ks' es e2)⟩;rcases w.2 i s e with rfl | z | ⟨d,rfl,z⟩
 ·have hi:i < σ.length:=by rw [h.len,w.1];exact (Q5.mp e).1
  exact ⟨σ[i],by simp [hi],trivial⟩
 ·exact h.sl i s z
 ·obtain ⟨o,e1,v,rfl,e3⟩:=h.sl i _ z;exact ⟨_,e1,v,rfl,e3.same h.same⟩
theorem WG (h:QOs X H₀ τ sts (.next m τ1)) (w:Wk τ1 τ2) (hn:n=true->m=true):QOs X H₀ τ sts (.next n τ2) :=
 ⟨PSs.imp h.pe fun D σ H q=>⟨q.1,fun σ' H' t he=>q.2 σ' H' (t.weak hn) (he.wk w)⟩⟩
theorem Qzh (h:QOs X H₀ τ1 sts r) (w:Wk τ τ1):QOs X H₀ τ sts r:=⟨PSs.imp h.pe fun D σ H q=>⟨q.1.wk w,q.2⟩⟩
theorem Jv (h:PD X (dat τ) e d):QO X H₀ τ (.Return (some e) pos) (.ret d) :=
 ⟨(Qil h.pe).imp fun D σ H q=>⟨q.1.env,fun v H' s i=>q.2 v H' (q.1.same.trans s) i⟩⟩
theorem Ga (h:PDL X (dat τ) e ds):QO X H₀ τ (.Return (some e) pos) (.retL ds) :=
 ⟨(Qil h.pe).imp fun D σ H q=>⟨q.1.env,fun p vs H' n s hp i=>q.2 p vs H' (q.1.same.free n) (q.1.same.trans s) hp i⟩⟩
theorem G0 {i:Nat} {x:Str} {p:Pos} (hi:τ[i]? =some (.own ds)) (hN:X.N[i]? =some x:=by rfl) (hv:Vis X.env.scope x:=by first | exact QI rfl | exact QY (QI rfl) | exact QY (QY rfl)) (hdb:(x == ("__debug__" :Str))=false:=by decide)
  (hcd:(x == ("__classdict__" :Str))=false:=by decide):QO X H₀ τ (.Return (some (.Name x p)) pos) (.retL ds) :=
 ⟨(Qil (WB hN hv hdb hcd)).imp fun D σ H q=>by
  obtain ⟨o,e1,p,vs,rfl,n,hp,_,ia⟩:=q.1.sl i _ hi;exact ⟨_,e1,q.2 p vs H n q.1.same hp ia⟩⟩
theorem Jf {i:Nat} {x:Str} {p:Pos} (h:PD X (dat τ) e d) (hN:X.N.Nodup) (hi:X.N[i]? =some x:=by rfl) (hx:Loc X.env.scope x:=by first | exact QI rfl | exact QY rfl)
  (hs:swapsWith e (some (.Name x p)) pos.line X.env=pure false:=by rfl) (hf:X.fn x=true \/ X.env.scope.names.lookup x=some .local:=by first | exact .inl rfl | exact .inr rfl):QO X H₀ τ (.Assign [.Name x p] e pos) (.next true (τ.set i (.any d))) :=
 ⟨(B8 hN hi hx h.pe hs hf).imp fun D σ H q=>⟨q.1.env,fun v H' s iv=>q.2 _ H' s ((q.1.step s).set i ⟨v,rfl,iv⟩ fun ds e=>nomatch e)⟩⟩
theorem EnvO.setOwn {K:W.Frag} {H H':Hp} {σ:St} {p:Addr} {vs:List V} (h:EnvO K H₀ H σ τ) (i:Nat) (n:H p=none) (s:Same H H') (hp:H' p=some (.lst vs)) (hl:LFs ds=true) (iv:Va K H' ds vs):EnvO K H₀ H' (σ.set i (some (.ref p))) (τ.set i (.own ds)) :=
 (h.step s).set i ⟨p,vs,rfl,h.same.free n,hp,hl,iv⟩ fun ds' _ j p' es e t _ z=>by
  cases e;obtain ⟨o,e1,p2,vs2,e2,_,hp2,_⟩:=h.sl j _ t;rw [z] at e1;cases e1;cases e2;rw [n] at hp2;cases hp2
theorem W5 {i:Nat} {x:Str} {p:Pos} (h:PDL X (dat τ) e ds) (hl:LFs ds=true) (hN:X.N.Nodup) (hi:X.N[i]? =some x:=by rfl) (hx:Loc X.env.scope x:=by first | exact QI rfl | exact QY rfl)
  (hs:swapsWith e (some (.Name x p)) pos.line X.env=pure false:=by rfl) (hf:X.fn x=true \/ X.env.scope.names.lookup x=some .local:=by first | exact .inl rfl | exact .inr rfl):QO X H₀ τ (.Assign [.Name x p] e pos) (.next true (τ.set i (.own ds))) :=
 ⟨(B8 hN hi hx h.pe hs hf).imp fun D σ H q=>⟨q.1.env,fun p vs H' n s hp iv=>q.2 _ H' s (q.1.setOwn i n s hp hl iv)⟩⟩
theorem JT {k:Bool} {A B:List Stmt} (hc:PB X (dat τ) c k) (ha:k=true->QOs X H₀ τ A r) (hb:k=false->QOs X H₀ τ B r):QO X H₀ τ (.If c A B pos) r:=by
 cases k with
 | true=>exact ⟨(Qd5 hc.pe (ha rfl).pe (ZH (sts:=B))).imp fun D σ H q=>⟨q.1.env,fun H' s=>Qbk (Qaz (m:=true) (by rw [Bf];exact q) s (q.1.step s))⟩⟩
 | false=>exact ⟨(Qd5 hc.pe (ZH (sts:=A)) (hb rfl).pe).imp fun D σ H q=>⟨q.1.env,fun H' s=>OT (Qaz (m:=true) (by rw [Bf];exact q) s (q.1.step s))⟩⟩
theorem Qfa (h:PD X (dat τ) e d) (hs:swapsWith e none pos.line X.env=pure false:=by rfl):QO X H₀ τ (.Expr e pos) (.next true τ) :=
 ⟨(Qa9 h.pe hs).imp fun D σ H q=>⟨q.1.env,fun v H' s i=>q.2 σ H' s (q.1.step s)⟩⟩
theorem Zo {i:Nat} {x:Str} {p ap cp:Pos} (hi:τ[i]? =some (.own ds)) (h:PD X (dat τ) e d) (ld:LF d=true) (hl: ∀ (j:Nat) (d:D),τ[j]? =some (.any d)->LF d=true) (hz:ds.length < sizeLine)
  (hN:X.N[i]? =some x:=by rfl) (hv:Vis X.env.scope x:=by first | exact QI rfl | exact QY (QI rfl) | exact QY (QY rfl)) (hdb:(x == ("__debug__" :Str))=false:=by decide) (hcd:(x == ("__classdict__" :Str))=false:=by decide)
  (hline:(ap.endLine == cp.line)=true:=by rfl) (hs:starEach [e] X.env=[(false,eval e X.env)]:=by rfl) :
  QO X H₀ τ (.Expr (.Call (.Attribute (.Name x p) "append" ap) [e] [] cp) pos) (.next false (τ.set i (.own (ds++[d])))):=by
 have pe:PE X (.Call (.Attribute (.Name x p) "append" ap) [e] [] cp) (tBM X.K "list" Qkd (Qlv i) (Qo1 (rdD X.K (dat τ) d) Qw6)) :=
  Qb9 Z3 PySem.F.slot_list_append PySem.F.type_list_append Qmq (WB hN hv hdb hcd) (UC h.pe BT hs) rfl (by rw [hs];rfl) hline hs rfl
 refine ⟨(Qa9 pe rfl).imp fun D σ H q=> ?_⟩;obtain ⟨o,e1,p,vs,rfl,n,hp,lf,ia⟩:=q.1.sl i _ hi;refine ⟨_,e1,.inl ⟨rfl,vs,SqL.of hp⟩,q.1.env,fun v H' s iv=>⟨p,vs,v,rfl,rfl,s _ _ hp,?_,?_⟩⟩
 ·rw [<- ia.length];exact hz
 ·refine q.2 σ _ (s.t.trans (TSame.lst (s _ _ hp))) ((q.1.step s).mut hi e1 n (s _ _ hp) hl ?_ ((ia.same s).append (Vg iv Jm)));rw [Yt,lf];simp [LFs,ld]
theorem Qgo {i:Nat} {x:Str} {p ap cp:Pos} (hi:τ[i]? =some (.own ds)) (h:PDL X (dat τ) e es) (ld:LFs es=true) (hl: ∀ (j:Nat) (d:D),τ[j]? =some (.any d)->LF d=true) (hz:ds.length+es.length<=sizeLine)
  (hN:X.N[i]? =some x:=by rfl) (hv:Vis X.env.scope x:=by first | exact QI rfl | exact QY (QI rfl) | exact QY (QY rfl)) (hdb:(x == ("__debug__" :Str))=false:=by decide) (hcd:(x == ("__classdict__" :Str))=false:=by decide)
  (hline:(ap.endLine == cp.line)=true:=by rfl) (hs:starEach [e] X.env=[(false,eval e X.env)]:=by rfl) :
  QO X H₀ τ (.Expr (.Call (.Attribute (.Name x p) "extend" ap) [e] [] cp) pos) (.next false (τ.set i (.own (ds++es)))):=by
 have pe:PE X (.Call (.Attribute (.Name x p) "extend" ap) [e] [] cp) (tBM X.K "list" Qkc (Qlv i) (Qo1 (rdL X.K (dat τ) es) Qw6)) :=
  Qb9 Z3 PySem.F.slot_list_extend PySem.F.type_list_extend Qmp (WB hN hv hdb hcd) (UC h.pe BT hs) rfl (by rw [hs];rfl) hline hs rfl
 refine ⟨(Qa9 pe rfl).imp fun D σ H q=> ?_⟩;obtain ⟨o,e1,p,vs,rfl,n,hp,lf,ia⟩:=q.1.sl i _ hi;refine ⟨_,e1,.inl ⟨rfl,vs,SqL.of hp⟩,q.1.env,fun b ws H' nb s hb iv=>⟨p,b,vs,ws,rfl,rfl,s _ _ hp,hb,?_,?_⟩⟩
 ·rw [<- ia.length,<- iv.length];exact hz
 ·refine q.2 σ _ (s.t.trans (TSame.lst (s _ _ hp))) ((q.1.step s).mut hi e1 n (s _ _ hp) hl ?_ ((ia.same s).append iv));rw [Yt,lf,ld];rfl
theorem BY {elt iter:Expr} {x y:Str} {px py cp:Pos} {ifs:List Expr} {scope:Scope} {p:D->Bool} {f:D->D} {i:Nat} (hl:LFs ((ds.filter p).map f)=true) (hN:X.N.Nodup) (hc:X.calm=true) (hi:PDI X (dat τ) (.Name x px) iter ds) (hz:ds.length<=sizeLine)
  (ht: ∀ d∈ds,∀ cl C s H ex,PTB (cxC X x scope cl C s H ex) (some d::dat τ) ifs (p d)) (he: ∀ d∈ds,p d=true-> ∀ cl C s H ex,PD (cxC X x scope cl C s H ex) (some d::dat τ) elt (f d))
  (hyi:X.N[i]? =some y:=by rfl) (hyl:X.env.scope.names.lookup y=some .local:=by rfl) (hok:WL X.N X.env.scope x scope=true:=by rfl) (hs: ∀ x,foldedSetIterable iter X.env x=pure x:=by intro _;rfl)
  (hsw:swapsWith (.ListComp elt [⟨.Name x px,iter,ifs,0⟩] scope cp) (some (.Name y py)) pos.line X.env=pure true:=by rfl) :
  QO X H₀ τ (.Assign [.Name y py] (.ListComp elt [⟨.Name x px,iter,ifs,0⟩] scope cp) pos) (.next true (τ.set i (.own ((ds.filter p).map f)))) :=
 ⟨(Qsr hN hyi hyl hc hi.pe (fun cl C s H ex pins s' σ H' Q I ⟨d,hd,q⟩=>(ht d hd cl C s H ex).pe pins s' σ H' Q I q) (fun cl C s H ex pins s' σ H' Q I ⟨d,hd,hp,q⟩=>(he d hd hp cl C s H ex).pe pins s' σ H' Q I q) hok hs hsw).imp fun D σ H q =>
  Qe0 hz ⟨q.1.env,fun p vs H' n s hp iv=>q.2 _ H' s (q.1.setOwn i n s hp hl iv)⟩⟩
theorem Qbc {elt iter:Expr} {x y:Str} {px py cp:Pos} {scope:Scope} {f:D->D} {i:Nat} (hl:LFs (ds.map f)=true) (hN:X.N.Nodup) (hc:X.calm=true) (hi:PDI X (dat τ) (.Name x px) iter ds) (hz:ds.length<=sizeLine)
  (he: ∀ d∈ds,∀ cl C s H ex,PD (cxC X x scope cl C s H ex) (some d::dat τ) elt (f d))
  (hyi:X.N[i]? =some y:=by rfl) (hyl:X.env.scope.names.lookup y=some .local:=by rfl) (hok:WL X.N X.env.scope x scope=true:=by rfl) (hs: ∀ x,foldedSetIterable iter X.env x=pure x:=by intro _;rfl)
  (hsw:swapsWith (.ListComp elt [⟨.Name x px,iter,[],0⟩] scope cp) (some (.Name y py)) pos.line X.env=pure true:=by rfl) :
  QO X H₀ τ (.Assign [.Name y py] (.ListComp elt [⟨.Name x px,iter,[],0⟩] scope cp) pos) (.next true (τ.set i (.own (ds.map f)))):=by
 have:=BY (H₀:=H₀) (pos:=pos) (py:=py) (cp:=cp) (elt:=elt) (scope:=scope) (ifs:=[]) (p:=fun _=>true) (by rwa [Oe]) hN hc hi hz (fun d hd=>Qoq) (fun d hd _=>he d hd) hyi hyl hok hs hsw;rwa [Oe] at this
structure JSt (K:W.Frag) (H₀:Hp) (J:It) (St:Hp->Prop) (ds:List D) (slot:D->Sl):Prop where
 go: ∀ i H',St H'->i < ds.length->J.go i H'
 yld: ∀ i H' x H2,St H'->i < ds.length->J.yld i H' x H2->H2=H'/\ ∃ d,ds[i]? =some d/\SlIs K H₀ H' (slot d) (some x)
 stop: ∀ i H',St H'->ds.length<=i->J.stop i H'
theorem Qf9 {iter:Expr} {x:Str} {px:Pos} {body:List Stmt} {j:Nat} {wi:TI} {slot:D->Sl} (τs:Nat->List Sl) (hno: ∀ d ds,slot d≠ .own ds) (hnoD: ∀ d ks ds,slot d≠ .odc ks ds) (hp:PassesOwn (model X.prog X.w) X.A X.env X.xe) (hc:X.calm=true) (hi:PI X (.Name x px) iter wi)
  (hr: ∀ σ H R,EnvO X.K H₀ H σ τ->(∀ J H' (St:Hp->Prop),Same H H'->St H'->(∀ H1 H2,St H1->Rl m H1 H2->Same H₀ H2->St H2)->JSt X.K H₀ J St ds slot->R J H')->wi σ H R)
  (h0:τs 0=τ) (hb: ∀ (i:Nat) (d:D),ds[i]? =some d-> ∃ n,QOs X H₀ ((τs i).set j (slot d)) body (.next n (τs (i+1)))/\(m=true->n=true))
  (hN:X.N.Nodup) (hj:X.N[j]? =some x:=by rfl) (hx:Loc X.env.scope x:=by first | exact QI rfl | exact QY rfl) (hf:X.fn x=true \/ X.env.scope.names.lookup x=some .local:=by first | exact .inl rfl | exact .inr rfl)
  (hs: ∀ x,foldedSetIterable iter X.env x=pure x:=by intro _;rfl) :
  QO X H₀ τ (.For (.Name x px) iter body [] pos) (.next m (τs ds.length)):=by
 have hb':PSs X body (fun D σ H=> ∃ i d,ds[i]? =some d/\rdO X.K H₀ ((τs i).set j (slot d)) (.next m (τs (i+1))) D σ H):=fun pins s σ H D I ⟨i,d,hd,q⟩=>by
  obtain ⟨n,hq,hn⟩:=hb i d hd;exact hq.pe pins s σ H D I ⟨q.1,fun σ' H' t=>q.2 σ' H' (t.weak hn)⟩
 refine ⟨(BS hp hc hi (Ja (i:=j) hN hj hx hf) hb' hs).imp fun D σ H q=> ?_⟩;refine hr σ H _ q.1 fun J H1 St s1 st1 keep ji=> ?_
 refine ⟨fun i k σ' H'=>i<=ds.length/\k=ds.length - i/\EnvO X.K H₀ H' σ' (τs i)/\Rl m H H'/\St H',⟨ds.length,Jd _,rfl,by rw [h0];exact q.1.step s1,.of s1,st1⟩,?_⟩;rintro i k σ' H' ⟨hi',rfl,he,hm,st⟩
 by_cases hlt:i < ds.length
 ·refine .inr ⟨ji.go i H' st hlt,fun σ2 H2=>EnvO X.K H₀ H2 σ2 (τs (i+1))/\Rl m H' H2,fun σ2 H2 ⟨he2,hm2⟩=>⟨ds.length - (i+1),by omega,hlt,rfl,he2,?_,keep H' H2 st hm2 he2.same⟩,fun y H2 yl=> ?_⟩
  ·have:=hm.trans hm2;rwa [W9] at this
  ·obtain ⟨e,d,hd,is⟩:=ji.yld i H' y H2 st hlt yl;subst e;exact ⟨i,d,hd,he.set j is (fun ds' e=>absurd e (hno d ds')) (fun ks' ds' e=>absurd e (hnoD d ks' ds')),fun σ3 H3 t3 he3=>⟨he3,t3⟩⟩
 ·have e:i=ds.length:=by omega
  subst e;exact .inl ⟨ji.stop _ H' st (Q6 _),q.2 σ' H' hm he⟩
theorem Qva {iter:Expr} {x:Str} {px:Pos} {body:List Stmt} {j:Nat} (τs:Nat->List Sl) (hp:PassesOwn (model X.prog X.w) X.A X.env X.xe) (hc:X.calm=true) (hi:PDI X (dat τ) (.Name x px) iter ds)
  (h0:τs 0=τ) (hb: ∀ (i:Nat) (d:D),ds[i]? =some d->QOs X H₀ ((τs i).set j (.any d)) body (.next true (τs (i+1))))
  (hN:X.N.Nodup) (hj:X.N[j]? =some x:=by rfl) (hx:Loc X.env.scope x:=by first | exact QI rfl | exact QY rfl) (hf:X.fn x=true \/ X.env.scope.names.lookup x=some .local:=by first | exact .inl rfl | exact .inr rfl)
  (hs: ∀ x,foldedSetIterable iter X.env x=pure x:=by intro _;rfl) :
  QO X H₀ τ (.For (.Name x px) iter body [] pos) (.next true (τs ds.length)) :=
 Qf9 (slot:= .any) τs (fun _ _ e=>nomatch e) (fun _ _ _ e=>nomatch e) hp hc hi.pe (fun σ H R he h=>⟨he.env,fun J H' s ji=>h J H' (fun H2=>Same H' H2) s (Same.refl H') (fun H1 H2 a b _=>Same.trans a b)
  ⟨fun i H2 st hi=>ji.go i H2 st hi,fun i H2 v H3 st hi y=>let ⟨e,d,hd,is⟩:=ji.yld i H2 v H3 st hi y;⟨e,d,hd,v,rfl,is⟩,fun i H2 st hi=>ji.stop i H2 st hi⟩⟩) h0 (fun i d hd=>⟨true,hb i d hd,fun _=>rfl⟩) hN hj hx hf hs
theorem Qpt {a:Expr} {x:Str} {px cp rp:Pos} {body:List Stmt} {j:Nat} {k:Int} (τs:Nat->List Sl) (hp:PassesOwn (model X.prog X.w) X.A X.env X.xe) (hc:X.calm=true) (hm:X.mg "range" =none) (ha:PD X (dat τ) a (.int k)) (h1: -(2 ^ 62)<=k) (h2:k < 2 ^ 62)
  (h0:τs 0=τ) (hb: ∀ (i:Nat),i < k.toNat-> ∃ n,QOs X H₀ ((τs i).set j (.any (.int i))) body (.next n (τs (i+1)))/\(m=true->n=true))
  (hN:X.N.Nodup) (hj:X.N[j]? =some x:=by rfl) (hx:Loc X.env.scope x:=by first | exact QI rfl | exact QY rfl) (hf:X.fn x=true \/ X.env.scope.names.lookup x=some .local:=by first | exact .inl rfl | exact .inr rfl)
  (hg:Gl X "range" :=by rfl) (hse:starEach [a] X.env=[(false,eval a X.env)]:=by rfl) (hs: ∀ x,foldedSetIterable (.Call (.Name "range" rp) [a] [] cp) X.env x=pure x:=by intro _;rfl) :
  QO X H₀ τ (.For (.Name x px) (.Call (.Name "range" rp) [a] [] cp) body [] pos) (.next m (τs k.toNat)):=by
 have hlen:(We 0 k.toNat).length=k.toNat:=by simp [We]
 have:=Qf9 (H₀:=H₀) (pos:=pos) (m:=m) (ds:=We 0 k.toNat) (slot:= .any) τs (fun _ _ e=>nomatch e) (fun _ _ _ e=>nomatch e) hp hc (Qd6 (tg:= .Name x px) (pos:=cp) (p:=rp) hg hm (Vc ha Vn hse).pe hse) (fun σ H R he h=>⟨he.env,fun vs H' s ia=>by
   obtain ⟨v,rfl,i⟩:=ia.one;have e:=WY i;subst e;refine ⟨k,rfl,h1,h2,h _ H' (fun _=>True) s trivial (fun _ _ _ _ _=>trivial) ⟨fun i H2 _ hi=> ?_,fun i H2 v H3 _ hi y=> ?_,fun i H2 _ hi=> ?_⟩⟩
   ·exact (GN (K:=X.K) (H:=H2) 0 k.toNat).go i H2 (Same.refl _) hi
   ·obtain ⟨e,d,hd,is⟩:=(GN (K:=X.K) (H:=H2) 0 k.toNat).yld i H2 v H3 (Same.refl _) hi y;exact ⟨e,d,hd,v,rfl,is⟩
   ·exact (GN (K:=X.K) (H:=H2) 0 k.toNat).stop i H2 (Same.refl _) hi⟩) h0 (fun i d hd=>by
   have hi:i < k.toNat:=by
    rw [<- hlen];exact (Q5.mp hd).1
   have e:d= .int i:=by
    simp [We,hi] at hd;rw [<- hd]
   subst e;exact hb i hi) hN hj hx hf hs
 rwa [hlen] at this
theorem Qps {iter:Expr} {x:Str} {px:Pos} {body:List Stmt} {j:Nat} (τs:Nat->List Sl) (hp:PassesOwn (model X.prog X.w) X.A X.env X.xe) (hc:X.calm=true) (hi:PD X (dat τ) iter (.tup ds)) (hl:LFs ds=true)
  (h0:τs 0=τ) (hb: ∀ (i:Nat) (d:D),ds[i]? =some d-> ∃ n,QOs X H₀ ((τs i).set j (.any d)) body (.next n (τs (i+1)))/\(m=true->n=true))
  (hN:X.N.Nodup) (hj:X.N[j]? =some x:=by rfl) (hx:Loc X.env.scope x:=by first | exact QI rfl | exact QY rfl) (hf:X.fn x=true \/ X.env.scope.names.lookup x=some .local:=by first | exact .inl rfl | exact .inr rfl)
  (hs: ∀ x,foldedSetIterable iter X.env x=pure x:=by intro _;rfl) :
  QO X H₀ τ (.For (.Name x px) iter body [] pos) (.next m (τs ds.length)) :=
 Qf9 (slot:= .any) τs (fun _ _ e=>nomatch e) (fun _ _ _ e=>nomatch e) hp hc (UX (tg:= .Name x px) hi.pe) (fun σ H R he h=>⟨he.env,fun v H' s iv=>by
  obtain ⟨p,vs,rfl,hq,ia⟩:=Jn iv;have tq: ∀ {H2:Hp},TSame H' H2->SqT X.K H2 p vs:=fun t=>by
   rcases hq with hq | hq
   ·exact .inl (t.tp _ _ hq)
   ·exact .inr hq
  refine ⟨p,rfl,⟨vs,hq⟩,h _ H' (fun H2=>TSame H' H2) s (TSame.refl H') (fun H1 H2 a b _=>a.trans b.t) ⟨fun i H2 t hi=> ?_,fun i H2 v H3 t hi y=> ?_,fun i H2 t hi=> ?_⟩⟩
  ·exact (UE (tq t) (ia.tsame t hl)).go i H2 (Same.refl _) hi
  ·obtain ⟨e,d,hd,is⟩:=(UE (tq t) (ia.tsame t hl)).yld i H2 v H3 (Same.refl _) hi y;exact ⟨e,d,hd,v,rfl,is⟩
  ·exact (UE (tq t) (ia.tsame t hl)).stop i H2 (Same.refl _) hi⟩) h0 hb hN hj hx hf hs
theorem Qxg {x y:Str} {px py:Pos} {body:List Stmt} {j k:Nat} (τs:Nat->List Sl) (hp:PassesOwn (model X.prog X.w) X.A X.env X.xe) (hc:X.calm=true) (hk:τ[k]? =some (.arg (.lst ds)))
  (h0:τs 0=τ) (hb: ∀ (i:Nat) (d:D),ds[i]? =some d-> ∃ n,QOs X H₀ ((τs i).set j (.arg d)) body (.next n (τs (i+1)))/\(m=true->n=true))
  (hN:X.N.Nodup) (hky:X.N[k]? =some y:=by rfl) (hv:Vis X.env.scope y:=by first | exact QI rfl | exact QY (QI rfl) | exact QY (QY rfl)) (hdb:(y == ("__debug__" :Str))=false:=by decide) (hcd:(y == ("__classdict__" :Str))=false:=by decide)
  (hj:X.N[j]? =some x:=by rfl) (hx:Loc X.env.scope x:=by first | exact QI rfl | exact QY rfl) (hf:X.fn x=true \/ X.env.scope.names.lookup x=some .local:=by first | exact .inl rfl | exact .inr rfl)
  (hs: ∀ x,foldedSetIterable (.Name y py) X.env x=pure x:=by intro _;rfl) :
  QO X H₀ τ (.For (.Name x px) (.Name y py) body [] pos) (.next m (τs ds.length)) :=
 Qf9 (slot:= .arg) τs (fun _ _ e=>nomatch e) (fun _ _ _ e=>nomatch e) hp hc (WT (tg:= .Name x px) (WB hky hv hdb hcd)) (fun σ H R he h=>by
  obtain ⟨o,e1,v,rfl,iv⟩:=he.sl k _ hk;obtain ⟨p,vs,rfl,hq,ia⟩:=Wr iv;refine ⟨_,e1,p,rfl,⟨vs,he.same.seq hq⟩,h _ H (fun H2=>Same H₀ H2) (Same.refl H) he.same (fun H1 H2 a b c=>c) ⟨fun i H2 t hi=> ?_,fun i H2 v H3 t hi y=> ?_,fun i H2 t hi=> ?_⟩⟩
  ·exact (Zt (t.seq hq) (ia.same t)).go i H2 (Same.refl _) hi
  ·obtain ⟨e,y⟩:=y;have z:=y vs (t.seq hq);obtain ⟨d,hd,is⟩:=ia.at z;exact ⟨e,d,hd,v,rfl,is⟩
  ·exact (Zt (t.seq hq) (ia.same t)).stop i H2 (Same.refl _) hi) h0 hb hN hj hx hf hs
def args (ds:List D) (n:Nat):List Sl:=ds.map .arg++List.replicate (n - ds.length) .no
theorem UG {K:W.Frag} {H:Hp} {N:List Str} {vs:List V} (h:Va K H ds vs) (hl:ds.length<=N.length):EnvO K H H (start N vs) (args ds N.length):=by
 have e:=h.length;refine ⟨Same.refl H,?_,fun i s hi=> ?_,fun i j ds' es p _ e1=> ?_,fun i j ks' _ ds' es p _ e1=> ?_⟩
 ·simp [start,args];omega
 ·by_cases hlt:i < ds.length
  ·rw [args,Jp (by simpa using hlt),Q8] at hi;have hd:ds[i]? =some ds[i]:=by simp [hlt]
   rw [hd] at hi;have:s= .arg ds[i]:=by simpa using hi.symm
   subst this;obtain ⟨v,e1,e2⟩:=h.get hd;refine ⟨some v,?_,v,rfl,e2⟩;rw [start,Jp (by simp;omega),Q8,e1];rfl
  ·have hno:s= .no:=by
    rw [args,JB (by simpa using hlt),Yy] at hi;split at hi
    ·exact (Qt hi).symm
    ·cases hi
   subst hno;have hi2:i < N.length:=by
    have:=(Q5.mp hi).1;simp [args] at this;omega
   have:i < (start N vs).length:=by
    simp [start];omega
   exact ⟨(start N vs)[i],by simp [this],trivial⟩
 ·exfalso
  by_cases hlt:i < ds.length
  ·rw [args,Jp (by simpa using hlt),Q8] at e1;cases q:ds[i]? with
   | none=>rw [q] at e1;cases e1
   | some d=>rw [q] at e1;cases e1
  ·rw [args,JB (by simpa using hlt),Yy] at e1;split at e1<;>cases e1
 ·exfalso
  by_cases hlt:i < ds.length
  ·rw [args,Jp (by simpa using hlt),Q8] at e1;cases q:ds[i]? with
   | none=>rw [q] at e1;cases e1
   | some d=>rw [q] at e1;cases e1
  ·rw [args,JB (by simpa using hlt),Yy] at e1;split at e1<;>cases e1
end
section
variable {P:Program} {w:World} {K:W.Frag} {mg:Str->Option Value} {base:Heap}
theorem Ja3 {x qual:Str} {st:Stmt} {f:Addr} {fd:FuncData} {N ps:List Str} {k:Nat} {R:List D->D->Prop} (F:Fun K x qual st f fd) (S:Vf N ps (Vs st)) (hl:ps.length<=N.length)
  (hb: ∀ (cdv:Value) (A:Around) (outer:List Env) (s:Shared) (H:Hp) (E:XK) (ds:List D) (d:D),Room k (A.deeper (envOfC qual (Vs st) s.heap.objs.size f cdv))->R ds d->ds.length=ps.length ->
   QOs (Ug CX0 P w K mg base N qual (Vs st) f cdv A outer s H E).nox H (args ds N.length) (W7 st) (.ret d)):FnOk P w K mg base CX0 (k+1) f fd ps (spD K ps.length R):=by
 refine F.ok S (fun vs H Q E h=>h.1) (fun cdv A outer s H vs Q E hr h=> ?_);obtain ⟨hn,ds,d,ia,hR,q⟩:=h;have hd:ds.length=ps.length:=by rw [ia.length];exact hn
 exact ⟨_,(hb cdv A outer s H E ds d hr hR hd).pe,UG ia (by omega),fun v H' s' i=>q v H' s' i⟩
def spL (K:W.Frag) (n:Nat) (R:List D->List D->Prop):Sp:=fun vs H Q _=>vs.length=n/\ ∃ ds es,Va K H ds vs/\R ds es/\ ∀ p us H',H p=none->Same H H'->H' p=some (.lst us)->Va K H' es us->Q (.ref p) H'
theorem Jau {x qual:Str} {st:Stmt} {f:Addr} {fd:FuncData} {N ps:List Str} {k:Nat} {R:List D->List D->Prop} (F:Fun K x qual st f fd) (S:Vf N ps (Vs st)) (hl:ps.length<=N.length)
  (hb: ∀ (cdv:Value) (A:Around) (outer:List Env) (s:Shared) (H:Hp) (E:XK) (ds es:List D),Room k (A.deeper (envOfC qual (Vs st) s.heap.objs.size f cdv))->R ds es->ds.length=ps.length ->
   QOs (Ug CX0 P w K mg base N qual (Vs st) f cdv A outer s H E).nox H (args ds N.length) (W7 st) (.retL es)):FnOk P w K mg base CX0 (k+1) f fd ps (spL K ps.length R):=by
 refine F.ok S (fun vs H Q E h=>h.1) (fun cdv A outer s H vs Q E hr h=> ?_);obtain ⟨hn,ds,es,ia,hR,q⟩:=h;have hd:ds.length=ps.length:=by rw [ia.length];exact hn
 exact ⟨_,(hb cdv A outer s H E ds es hr hR hd).pe,UG ia (by omega),fun p us H' n s' hp i=>q p us H' n s' hp i⟩
end
section
variable {X:Cx} {ρ:List (Option D)} {e:Expr} {es:List Expr} {ds rs:List D} {pos:Pos}
theorem Quo {k n:Nat} {f:Addr} {fd:FuncData} {ps:List Str} {R:List D->List D->Prop} {x:Str} {p:Pos} (F:FnOk X.prog X.w X.K X.mg X.base CX0 k f fd ps (spL X.K n R)) (hr:Room k X.A) (hm:X.mg x=some (.ref f)) (hk:W.keepIn X.K (.ref f)=true)
  (hb:Binds X.K fd ps []) (ha:PDs X ρ (e::es) ds) (hn:ds.length=n) (hR:R ds rs) (hg:Gl X x:=by rfl) (hdb:(x == ("__debug__" :Str))=false:=by decide)
  (he:starEach (e::es) X.env=(false,eval e X.env)::starEach es X.env:=by rfl) (hpl:(backTo pos (starEach es X.env)).any (·.1)=false:=by rfl):PDL X ρ (.Call (.Name x p) (e::es) [] pos) rs :=
 ⟨(Qki F hr hg hm hk hb .nil pass0 ha.pe hdb he hpl).imp fun σ H Q q=>⟨q.1,fun vs H1 s1 i1=>by
  show spL X.K n R (vs++[]) H1 Q _;rw [JM];exact ⟨by rw [<- i1.length];exact hn,ds,rs,i1,hR,fun p us H2 n2 s2 hp i2=>q.2 p us H2 (s1.free n2) (s1.trans s2) hp i2⟩⟩⟩
end
section
variable {X:Cx} {ρ:List (Option D)} {a b c e:Expr} {es:List Expr} {d da db dc:D} {ds xs ys:List D} {pos:Pos}
theorem Qwd:SlR X (fun x lo hi H Q=> ∃ z,x= .str z/\z.length<=sizeLine/\Q (.str (Txt.slice z lo hi)) H):=by
 intro pins s σ H x v vl vu lo hi sl Q I rx hs pl pu h;obtain ⟨z,rfl,hz,q⟩:=h;obtain ⟨t,rfl⟩:=rx;refine ⟨"str",_,F.slot_str_getitem.lookup,typeIs_str _ _ _,?_⟩;obtain ⟨o,h1,h2,h3⟩:=hs;have fin: ∀ t' k,EP X pins σ Q (.str (Txt.slice z lo hi) t') { s with toks:=k }:=fun t' k=>⟨.str (Txt.slice z lo hi),H,I.tok _,⟨_,rfl⟩,q⟩
 have go: ∀ (l u:Option (Int×Tok)),vl=partValue l->vu=partValue u->l.map (·.1)=lo->u.map (·.1)=hi->wpAny (model X.prog X.w) X.A (getItem (.str z t) (.ref sl)) (EP X pins σ Q) X.xe s:=by
  rintro l u rfl rfl rfl rfl;exact wpAny_getItem_str_slice (l:=l) (u:=u) (st:=none) ⟨o,h1,h2,h3⟩ rfl (post_val_or_str ⟨Qz (Txt.slice_le z _ _) hz,fin⟩)
 cases pl with
 | none =>
  cases pu with
  | none=>exact go none none rfl rfl rfl rfl
  | int j tj=>exact go none (some (j,tj)) rfl rfl rfl rfl
 | int i ti =>
  cases pu with
  | none=>exact go (some (i,ti)) none rfl rfl rfl rfl
  | int j tj=>exact go (some (i,ti)) (some (j,tj)) rfl rfl rfl rfl
def WZ {α:Type} (xs:List α) (lo hi:Option Int):List α:=(xs.drop (HT.sIx xs.length 0 lo)).take (HT.sIx xs.length xs.length hi - HT.sIx xs.length 0 lo)
theorem Qdq {K:W.Frag} {H:Hp} {vs:List V} (lo hi:Option Int) (h:Va K H ds vs):Va K H (WZ ds lo hi) (Qfq vs lo hi):=by
 unfold WZ Qfq;rw [<- h.length];exact (h.drop _).take _
structure PDO (X:Cx) (ρ:List (Option D)) (e:Option Expr) (o:Option Int):Prop where
 pe:PO X e (fun σ H Q=>EnvIs X.K H σ ρ/\ ∀ H',Same H H'->Q o H')
theorem PO.imp {e:Option Expr} {t t':TO} (h:PO X e t) (w: ∀ σ H Q,t' σ H Q->t σ H Q):PO X e t':=fun pins s σ H Q I q=>h pins s σ H Q I (w σ H Q q)
theorem Wv:PDO X ρ none none:=⟨Qsu.imp fun σ H Q q=>q.2 H (Same.refl H)⟩
theorem JW {i:Int} (h:PD X ρ e (.int i)):PDO X ρ (some e) (some i):=⟨(Qst h.pe).imp fun σ H Q q=>⟨q.1,fun v H1 s1 i1=>⟨i,WY i1,q.2 H1 s1⟩⟩⟩
theorem BF {lo hi:Option Expr} {ol oh:Option Int} {p2:Pos} (ha:PD X ρ a (.lst ds)) (hl:PDO X ρ lo ol) (hu:PDO X ρ hi oh):PDL X ρ (.Subscript a (.Slice lo hi none p2) pos) (WZ ds ol oh) :=
 ⟨(Qb6 Qsf ha.pe hl.pe hu.pe).imp fun σ H Q q=>⟨q.1,fun v H1 s1 i1=>⟨q.1.same s1,fun H2 s2=>⟨(q.1.same s1).same s2,fun H3 s3=>by
  obtain ⟨p,vs,rfl,hq,r⟩:=Wr i1;have s:=(s1.trans s2).trans s3;exact ⟨p,vs,rfl,(s2.trans s3).seq hq,fun l hl=>q.2 l _ _ (s.free hl) (s.trans (Same.upd hl)) Vu (Qdq _ _ ((r.same (s2.trans s3)).same (Same.upd hl)))⟩⟩⟩⟩⟩
theorem Qt9:OpR X (binaryOp .Add) (fun x y H Q=> ∃ l b xs zs,x= .ref l/\y= .ref b/\SqL X.K H l xs/\SqL X.K H b zs/\xs.length+zs.length<=sizeLine/\ ∀ p,H p=none->Q (.ref p) (upd H p (.lst (xs++zs)))):=by
 intro pins s σ H x y v u Q I rx ry h;obtain ⟨l,b,xs,zs,rfl,rfl,hl,hb,hz,q⟩:=h;cases rx;cases ry;obtain ⟨its,r1,p1,_⟩:=I.list hl;obtain ⟨its2,r2,p2,_⟩:=I.list hb;obtain ⟨⟨cls,dd,data,sl⟩,ho,hc,n,hd⟩:=id p1.isList;obtain ⟨⟨cls2,dd2,data2,sl2⟩,ho2,hc2,n2,hd2⟩:=id p2.isList;simp only at hc hd hc2 hd2;subst hc hd hc2 hd2;have hlen:=r1.length;have hlen2:=r2.length;refine Qvw ⟨_,ho,rfl⟩ ⟨_,ho2,rfl⟩ noFill_list_add seq_list_add PySem.F.slot_list_add PySem.F.entry_list_add (PySem.F.args_list_add_2 _ _) (list_addW l b its.toArray its2.toArray n n2 dd dd2 sl sl2 (by rw [Qh,Qh];omega)) ⟨ho,ho2,?_⟩;have e:its.toArray++its2.toArray=(its++its2).toArray:=by simp
 rw [e];exact ⟨.ref _,_,I.lnew (t':=s.toks) (r1.append r2) (by rw [Ql];omega),rfl,q _ I.fresh⟩
theorem Qc1 (ha:PD X ρ a (.lst xs)) (hb:PD X ρ b (.lst ys)) (hz:xs.length+ys.length<=sizeLine):PDL X ρ (.BinOp a .Add b pos) (xs++ys) :=
 ⟨(Qv5 Qt9 ha.pe hb.pe).imp fun σ H Q q=>⟨q.1,fun v H1 s1 i1=>⟨q.1.same s1,fun u H2 s2 i2=>by
  obtain ⟨p,vs,rfl,hq,r⟩:=Wr (i1.same s2);obtain ⟨p',vs',rfl,hq',r'⟩:=Wr i2;have s:=s1.trans s2;exact ⟨p,p',vs,vs',rfl,rfl,hq,hq',by rw [<- r.length,<- r'.length];exact hz,fun l hl=>q.2 l _ _ (s.free hl) (s.trans (Same.upd hl)) Vu ((r.append r').same (Same.upd hl))⟩⟩⟩⟩
theorem Qp8:OpR X (binaryOp .Add) (fun x y H Q=> ∃ l b xs zs,x= .ref l/\y= .ref b/\SqT X.K H l xs/\SqT X.K H b zs/\xs.length+zs.length<=sizeLine/\(xs=[]->Q (.ref b) H)/\(xs≠[]->zs=[]->Q (.ref l) H)/\ ∀ p,H p=none->Q (.ref p) (upd H p (.tup (xs++zs)))):=by
 intro pins s σ H x y v u Q I rx ry h;obtain ⟨l,b,xs,zs,rfl,rfl,hl,hb,hz,q0,q1,q2⟩:=h;cases rx;cases ry
 by_cases hx:xs=[]
 ·obtain ⟨its,r1,p1,_⟩:=I.tuple hl;obtain ⟨its2,r2,p2,_⟩:=I.tuple hb;obtain ⟨⟨cls,dd,data,sl⟩,ho,hc,n,hd⟩:=id p1;obtain ⟨⟨cls2,dd2,data2,sl2⟩,ho2,hc2,n2,hd2⟩:=id p2;simp only at hc hd hc2 hd2;subst hc hd hc2 hd2;have hn:its=[]:=r1.nil_iff.mpr hx;exact Qvw ⟨_,ho,rfl⟩ ⟨_,ho2,rfl⟩ noFill_tuple_add seq_tuple_add Qak OJ (BM _ _)
   (tuple_addW0 l b its.toArray its2.toArray n n2 dd dd2 sl sl2 (by simp [hn])) ⟨ho,ho2,⟨.ref b,H,I,rfl,q0 hx⟩⟩
 ·exact Qt8 pins s σ H (.ref l) (.ref b) (.ref l) (.ref b) Q I rfl rfl ⟨l,b,xs,zs,rfl,rfl,hl,hb,hx,hz,fun z=>q1 hx z,fun _=>q2⟩
theorem UH (ha:PD X ρ a (.tup xs)) (hb:PD X ρ b (.tup ys)) (hz:xs.length+ys.length<=sizeLine):PD X ρ (.BinOp a .Add b pos) (.tup (xs++ys)) :=
 Qja Qp8 ha hb fun H x y Q hx hy q=>by
  obtain ⟨p,vs,rfl,hq,r⟩:=Jn hx;obtain ⟨p',vs',rfl,hq',r'⟩:=Jn hy;refine ⟨p,p',vs,vs',rfl,rfl,hq,hq',by rw [<- r.length,<- r'.length];exact hz,fun z=> ?_,fun _ z=> ?_,fun l hl=> ?_⟩
  ·subst z;have e:xs=[]:=OO.mp r.length;subst e;exact q _ H (Same.refl H) (YQ hq' r')
  ·subst z;have e:ys=[]:=OO.mp r'.length;subst e;rw [JM] at q;exact q _ H (Same.refl H) (YQ hq r)
  ·exact q _ _ (Same.upd hl) (YQ (SqT.of Vu) ((r.append r').same (Same.upd hl)))
theorem Qjc {x y:Str} (ha:PD X ρ a (.str x)) (hb:PD X ρ b (.str y)) (hz:x.length+y.length<=sizeLine):PD X ρ (.BinOp a .Add b pos) (.str (x++y)) :=
 Qja Qiv ha hb fun H u v Q hx hy q=>⟨x,y,JF hx,JF hy,hz,q _ H (Same.refl H) (ZV _)⟩
theorem OE:bootBuiltins "tuple" =some (.type "tuple"):=by decide +kernel
theorem Qcc:bootBuiltins "list" =some (.type "list"):=by decide +kernel
theorem Qnd:bootBuiltins "int" =some (.type "int"):=by decide +kernel
theorem Wg {p:Pos} (hm:X.mg "tuple" =none) (ha:PD X ρ e d) (hd:d= .lst ds \/ d= .tup ds) (hg:Gl X "tuple" :=by rfl) (hs:starEach [e] X.env=[(false,eval e X.env)]:=by rfl):PD X ρ (.Call (.Name "tuple" p) [e] [] pos) (.tup ds) :=
 Ql7 Qcu hm OE (Vc ha Vn hs) (fun H vs Q ia q=>by
  obtain ⟨v,rfl,i⟩:=ia.one;rcases hd with rfl | rfl
  ·obtain ⟨p,ws,rfl,hq,r⟩:=Wr i;exact ⟨p,ws,rfl,.inl ⟨hq,fun l hl=>q _ _ (Same.upd hl) (YQ (SqT.of Vu) (r.same (Same.upd hl)))⟩⟩
  ·obtain ⟨p,ws,rfl,hq,r⟩:=Jn i;exact ⟨p,ws,rfl,.inr ⟨hq,q _ H (Same.refl H) (YQ hq r)⟩⟩) hg (by decide) (by decide) hs rfl
theorem Qn5 {p:Pos} (hm:X.mg "list" =none) (ha:PD X ρ e d) (hd:d= .lst ds \/ d= .tup ds) (hg:Gl X "list" :=by rfl) (hs:starEach [e] X.env=[(false,eval e X.env)]:=by rfl):PDL X ρ (.Call (.Name "list" p) [e] [] pos) ds :=
 ⟨(U8 Qfs hg hm Qcc (Vc ha Vn hs).pe (by decide) (by decide) hs rfl).imp fun σ H Q q=>⟨q.1,fun vs H1 s1 ia=>by
  obtain ⟨v,rfl,i⟩:=ia.one;rcases hd with rfl | rfl
  ·obtain ⟨p,ws,rfl,hq,r⟩:=Wr i;exact ⟨p,ws,rfl,.inl hq,fun l hl=>q.2 l ws _ (s1.free hl) (s1.trans (Same.upd hl)) Vu (r.same (Same.upd hl))⟩
  ·obtain ⟨p,ws,rfl,hq,r⟩:=Jn i;exact ⟨p,ws,rfl,.inr hq,fun l hl=>q.2 l ws _ (s1.free hl) (s1.trans (Same.upd hl)) Vu (r.same (Same.upd hl))⟩⟩⟩
theorem Qy9 {k:Bool} {p:Pos} (hm:X.mg "int" =none) (ha:PD X ρ e (.bl k)) (hg:Gl X "int" :=by rfl) (hs:starEach [e] X.env=[(false,eval e X.env)]:=by rfl):PD X ρ (.Call (.Name "int" p) [e] [] pos) (.int (if k then 1 else 0)) :=
 Ql7 Qna hm Qnd (Vc ha Vn hs) (fun H vs Q ia q=>by
  obtain ⟨v,rfl,i⟩:=ia.one;exact .inr ⟨k,by rw [GZ i],q _ H (Same.refl H) (Zq _)⟩) hg (by decide) (by decide) hs rfl
theorem B5: ∀ {ss:List Str} {us:List Value},Vals (ss.map V.str) us->StrsAre us ss
 | [],us,r=>by rw [ZN] at r;cases r;exact .nil
 | s::ss,us,r=>by
  rw [Qp] at r;cases r with
  | cons r1 r2 =>
   obtain ⟨t,e⟩:=r1;subst e;exact .cons s t (B5 r2)
theorem Qtx:MtR X "str.join" (fun x xs H Q=> ∃ z p ss,x= .str z/\xs=[.ref p]/\(SqL X.K H p (ss.map V.str) \/ SqT X.K H p (ss.map V.str))/\(ss.map (·.length)).sum+ss.length * z.length<=16777216/\Q (.str (Txt.join z ss)) H):=by
 intro pins s σ H x xs v us Q I rx rs h;obtain ⟨z,p,ss,rfl,rfl,hq,hz,q⟩:=h;obtain ⟨t,rfl⟩:=rx;obtain ⟨u,rfl,ru⟩:=vals1 rs;cases ru;rcases hq with hq | hq
 ·obtain ⟨its,r,pl,_⟩:=I.list hq;exact join_list pl.isList (by simpa using B5 r) hz fun t' k=>⟨.str _,H,I.tok _,⟨_,rfl⟩,q⟩
 ·obtain ⟨its,r,pl,_⟩:=I.tuple hq;exact join_tuple pl (by simpa using B5 r) hz fun t' k=>⟨.str _,H,I.tok _,⟨_,rfl⟩,q⟩
theorem Qy7 {z:Str} {ss:List Str} {o:Expr} {ap cp:Pos} (ho:PD X ρ o (.str z)) (ha:PD X ρ e d) (hd:d= .lst (ss.map D.str) \/ d= .tup (ss.map D.str)) (hz:(ss.map (·.length)).sum+ss.length * z.length<=16777216)
  (hbase:attributeBase o "join" X.env (eval o X.env)=eval o X.env:=by rfl) (hline:(ap.endLine == cp.line)=true:=by rfl) (hs:starEach [e] X.env=[(false,eval e X.env)]:=by rfl) :
  PD X ρ (.Call (.Attribute o "join" ap) [e] [] cp) (.str (Txt.join z ss)) :=
 Y2 (Qb9 PySem.F.plainAttrs_str PySem.F.slot_str_join PySem.F.type_str_join Qtx ho.pe (Vc ha Vn hs).pe hbase (by rw [hs];rfl) hline hs rfl) fun σ H Q he q=>⟨he,fun v H1 s1 i1=>by
  have ev:=JF i1;subst ev;refine ⟨rfl,he.same s1,fun vs H2 s2 ia=> ?_⟩;obtain ⟨u,rfl,i⟩:=ia.one;rcases hd with rfl | rfl
  ·obtain ⟨p,ws,rfl,hq,r⟩:=Wr i;rw [Yl r] at hq;exact ⟨z,p,ss,rfl,rfl,.inl hq,hz,q _ H2 (s1.trans s2) (ZV _)⟩
  ·obtain ⟨p,ws,rfl,hq,r⟩:=Jn i;rw [Yl r] at hq;exact ⟨z,p,ss,rfl,rfl,.inr hq,hz,q _ H2 (s1.trans s2) (ZV _)⟩⟩
end
def Qkb:V->List V->Hp->VK->Prop:=fun x vs H Q=> ∃ l xs i y,x= .ref l/\vs=[.int i,y]/\H l=some (.lst xs)/\0<=i/\i<=xs.length/\xs.length < sizeLine/\Q .non (upd H l (.lst (xs.take i.toNat++y::xs.drop i.toNat)))
theorem Qn0 (its:List Value) (i:Int) (h0:0<=i) (h1:i<=its.length) (u:Value) :
  (fun xs:Array Value=>have k:=if i < 0 then (i+((xs.size:Nat):Int)).toNat else min i.toNat xs.size;(xs.extract 0 k).push u++xs.extract k) its.toArray=(its.take i.toNat++u::its.drop i.toNat).toArray:=by
 have hk:(if i < 0 then (i+((its.toArray.size:Nat):Int)).toNat else min i.toNat its.toArray.size)=i.toNat:=by
  rw [Qn (by omega),Qh];omega
 show ((its.toArray.extract 0 (if i < 0 then (i+((its.toArray.size:Nat):Int)).toNat else min i.toNat its.toArray.size)).push u++its.toArray.extract (if i < 0 then (i+((its.toArray.size:Nat):Int)).toNat else min i.toNat its.toArray.size))=_;rw [hk];apply Array.ext';simp only [Array.toList_append,Array.toList_push,Array.toList_extract,List.extract_eq_take_drop,List.drop_zero,Qh];have e:List.take (its.length - i.toNat) (List.drop i.toNat its)=List.drop i.toNat its:=JZ (by rw [Jr];omega);simp [e]
theorem Vals.insert {xs:List V} {us:List Value} {y:V} {u:Value} (n:Nat) (r:Vals xs us) (q:RelV y u):Vals (xs.take n++y::xs.drop n) (us.take n++u::us.drop n):=(r.take n).append (.cons q (r.drop n))
section
variable {X:Cx}
theorem Qmo:MtM X "list.insert" Qkb:=by
 intro pins s σ H x vs v us Q I rx rv h;obtain ⟨l,xs,i,y,rfl,rfl,hH,h0,h1,hz,q⟩:=h;cases rx;obtain ⟨u,u',rfl,ru,ru'⟩:=rv.two;obtain ⟨t,rfl⟩:=ru;obtain ⟨z,its,n,r,hl,e⟩:=I.lstM hH;have hs:sizeLine=16777216:=QP;refine Qrv F.slot_list_insert ⟨_,e,rfl⟩ F.entry_list_insert (F.args_list_insert_3 _ _ _)
  (AutoListH.list_insert_list_int_val_1 l its.toArray n i t u' (by rw [fitsIndex_both (by omega) (by omega)];exact Qy) (by rw [Qh];omega)) ⟨e,?_⟩
 refine ⟨.non,_,I.lset (its':=its.take i.toNat++u'::its.drop i.toNat) (ys:=xs.take i.toNat++y::xs.drop i.toNat) hH e (Qn0 its i h0 (by omega) u') (r.insert _ ru') ?_,rfl,q⟩;rw [Ql,Qj,QC,Jr];omega
variable {H₀:Hp} {τ:List Sl} {e e':Expr} {d:D} {ds:List D} {pos:Pos}
theorem Qpr {i:Nat} {x:Str} {p ap cp:Pos} {k:Int} (hi:τ[i]? =some (.own ds)) (hk:PD X (dat τ) e (.int k)) (h:PD X (dat τ) e' d) (ld:LF d=true) (hl: ∀ (j:Nat) (d:D),τ[j]? =some (.any d)->LF d=true) (k0:0<=k) (k1:k<=ds.length) (hz:ds.length < sizeLine)
  (hN:X.N[i]? =some x:=by rfl) (hv:Vis X.env.scope x:=by first | exact QI rfl | exact QY (QI rfl) | exact QY (QY rfl)) (hdb:(x == ("__debug__" :Str))=false:=by decide) (hcd:(x == ("__classdict__" :Str))=false:=by decide)
  (hline:(ap.endLine == cp.line)=true:=by rfl) (hs:starEach [e,e'] X.env=[(false,eval e X.env),(false,eval e' X.env)]:=by rfl) (hs2:starEach [e'] X.env=[(false,eval e' X.env)]:=by rfl) :
  QO X H₀ τ (.Expr (.Call (.Attribute (.Name x p) "insert" ap) [e,e'] [] cp) pos) (.next false (τ.set i (.own (ds.take k.toNat++d::ds.drop k.toNat)))):=by
 have pe:PE X (.Call (.Attribute (.Name x p) "insert" ap) [e,e'] [] cp) (tBM X.K "list" Qkb (Qlv i) (Qz3 X.K (dat τ) [.int k,d])) :=
  Qb9 Z3 PySem.F.slot_list_insert PySem.F.type_list_insert Qmo (WB hN hv hdb hcd) (Vc hk (Vc h Vn hs2) (by rw [hs,hs2])).pe rfl (by rw [hs];rfl) hline (by rw [hs,hs2]) (by rw [hs2];rfl)
 refine ⟨(Qa9 pe rfl).imp fun D σ H q=> ?_⟩;obtain ⟨o,e1,p,vs,rfl,n,hp,lf,ia⟩:=q.1.sl i _ hi;have hlen:=ia.length;refine ⟨_,e1,.inl ⟨rfl,vs,SqL.of hp⟩,q.1.env,fun ws H' s iv=> ?_⟩;obtain ⟨v,v',rfl,i1,i2⟩:=iv.two;have ev:=WY i1;subst ev;refine ⟨p,vs,k,v',rfl,rfl,s _ _ hp,k0,by omega,by omega,?_⟩;refine q.2 σ _ (s.t.trans (TSame.lst (s _ _ hp))) ((q.1.step s).mut hi e1 n (s _ _ hp) hl ?_ (((ia.same s).take _).append (Vg i2 ((ia.same s).drop _))));rw [Qaj] at lf ⊢;intro z hz;rcases QH.mp hz with hz | hz
 ·exact lf z (QW hz)
 ·rcases Qd.mp hz with rfl | hz
  ·exact ld
  ·exact lf z (Qec hz)
theorem Qxd {i j:Nat} {x y:Str} {p p' tp:Pos} {tk:Nat} {d':D} (hc:X.calm=true) (h:PD X (dat τ) e (.tup [d,d'])) (hij:i≠j) (hN:X.N.Nodup) (hi:X.N[i]? =some x:=by rfl) (hj:X.N[j]? =some y:=by rfl) (hx:Loc X.env.scope x:=by first | exact QI rfl | exact QY rfl) (hy:Loc X.env.scope y:=by first | exact QI rfl | exact QY rfl)
  (hs:swapsWithSole [.Tuple [.Name x p,.Name y p'] tk tp] e pos.line X.env=pure false:=by rfl) (hw:swappedStores [.Tuple [.Name x p,.Name y p'] tk tp] e X.env=pure none:=by rfl)
  (hf:X.fn x=true \/ X.env.scope.names.lookup x=some .local:=by first | exact .inl rfl | exact .inr rfl) (hf':X.fn y=true \/ X.env.scope.names.lookup y=some .local:=by first | exact .inl rfl | exact .inr rfl) :
  QO X H₀ τ (.Assign [.Tuple [.Name x p,.Name y p'] tk tp] e pos) (.next true ((τ.set i (.any d)).set j (.any d'))):=by
 have g:PG X (.Tuple [.Name x p,.Name y p'] tk tp) (Qui X.K 2 (Oy (YG i) (Oy (YG j) Quk))):=Yi hc (Vh (Ja hN hi hx hf) (Vh (Ja hN hj hy hf') Zm));refine ⟨(Qws h.pe g hs hw).imp fun D σ H q=>⟨q.1.env,fun v H' s iv=> ?_⟩⟩;obtain ⟨a,vs,rfl,hq,ia⟩:=Jn iv;obtain ⟨v1,v2,rfl,i1,i2⟩:=ia.two;refine ⟨a,_,rfl,hq,rfl,v1,[v2],rfl,v2,[],rfl,rfl,?_⟩;exact q.2 _ H' s (((q.1.step s).set (s:= .any d) i ⟨v1,rfl,i1⟩ fun ds e=>nomatch e).set (s:= .any d') j ⟨v2,rfl,i2⟩ fun ds e=>nomatch e)
end
end L2
namespace RH
open PySem L2
abbrev signs (x:Str):List Nat:=x.cps.toList
abbrev SMALL:Str:= "abcdefghijklmnopqrstuvwxyz"
abbrev CAPS:Str:= "ABCDEFGHIJKLMNOPQRSTUVWXYZ"
abbrev KEPT:List Str:=["rule", "fact", "if", "and", "not"]
def Zu (x:Str):Bool:=(decide (1<=(x.length:Int)) && decide ((x.length:Int)<=8)) && ((signs x).all (fun c=>decide (c∈signs SMALL)) && !decide (x∈KEPT))
def cell (ns:List Int) (k:Nat):Int:=ns.getD k 0
def mix (c p m:Int):Int:=c * 48271 % p % m
theorem JP (c p:Int) {m:Int} (h:0 < m):0<=mix c p m:=Int.emod_nonneg _ (by omega)
theorem WQ (c p:Int) {m:Int} (h:0 < m):mix c p m < m:=Int.emod_lt_of_pos _ h
def sg (x:Str) (i:Nat):Str:=⟨#[(signs x).getD i 97]⟩
def UJ (l:List Str):Str:=⟨(l.flatMap signs).toArray⟩
def word (c:Int) (k:Nat) (firsts:Str):Str :=
 let tail:=UJ ((List.range (mix (c+k) 9929 8).toNat).map fun (j:Nat)=>sg SMALL (mix (c+7 * j * j+k) 9931 26).toNat)
 let found:=sg firsts k++tail
 if found∈(["and", "fact", "if", "rule", "not"]:List Str) then sg firsts k++ "zz" else found
def kinds (ns:List Int):List Str:=(List.range 6).map fun k=>word (cell ns 0) k "pqrstu"
def Ge (ns:List Int):Nat:=if mix (cell ns 3) 9479 7=3 then 4 else 3
def words (ns:List Int):List Str:=(List.range (Ge ns)).map fun k=>word (cell ns 1) k "abcdef"
def size (ns:List Int) (k:Nat):Nat:=[2,1,2,1,0,2].getD k 0+(if mix (cell ns 1+k) 9923 7=0 then 1 else 0)
def pick (c:Int) (l:List Str):Str:=l.getD (mix c 9907 l.length).toNat ""
structure At where
 k:Str
 ts:List Str
structure Li where
 y:Bool
 a:At
structure Ru where
 h:At
 b:List Li
def At.d (a:At):D:= .tup [.str a.k,.tup (a.ts.map .str)]
def Li.d (l:Li):D:= .tup [.str (if l.y then "yes" else "no"),l.a.d]
def Ru.d (r:Ru):D:= .tup [r.h.d,.tup (r.b.map Li.d)]
def kd (ns:List Int) (k:Nat):Str:=(kinds ns).getD k ""
def WD (c:Int) (head:Nat) (free:Bool) (k:Nat):Nat :=
 let a:=if free then (mix (c+31 * k) 9887 6).toNat else (mix (c+31 * k) 9887 (head+1)).toNat
 if k=0/\a=head/\mix c 9883 2=0 then 0 else a
def Zd (ns:List Int) (c:Int) (head:Nat) (free:Bool) (k:Nat):At :=
 let q:=WD c head free k
 ⟨kd ns q,(List.range (size ns q)).map fun (j:Nat)=>pick (c+13 * k+5 * j) ["X", "Y", "Z", "X", "Y",(words ns).getD 0 "",(words ns).getD 1 ""]⟩
def body (ns:List Int) (c:Int) (head:Nat) (free:Bool):List At:=(List.range (mix c 9901 4).toNat).map fun k=>Zd ns c head free k
def YA (acc:List Str) (t:Str):List Str:=if t∈(["X", "Y", "Z"]:List Str)/\t ∉ acc then acc++[t] else acc
def bound (as:List At):List Str:=as.foldl (fun acc a=>a.ts.foldl YA acc) []
def QN (c:Int):Nat:=(mix c 9871 6).toNat
def Jk (ns:List Int) (c:Int) (free:Bool):List Str:=bound (body ns c (QN c) free)++[(words ns).getD 0 "",(words ns).getLastD ""]
def Gh (ns:List Int) (c:Int) (free:Bool):Bool:= !free && decide (0 < QN c) && decide ((body ns c (QN c) free).length < 4) && decide (mix c 9859 3=0)
def Z5 (c:Int):Nat:=(mix c 9857 (QN c)).toNat
def Bt (ns:List Int) (c:Int) (free:Bool):At:=⟨kd ns (Z5 c),(List.range (size ns (Z5 c))).map fun (j:Nat)=>pick (c+3+j) (Jk ns c free)⟩
def WA (ns:List Int) (c:Int) (free:Bool):List Li :=
 let b:=(body ns c (QN c) free).map fun a=>Li.mk true a
 if Gh ns c free then b.insertIdx (mix c 9851 (b.length+1)).toNat ⟨false,Bt ns c free⟩ else b
def rule (ns:List Int) (c:Int) (free:Bool):Ru:=⟨⟨kd ns (QN c),(List.range (size ns (QN c))).map fun (j:Nat)=>pick (c+17 * j) (Jk ns c free)⟩,WA ns c free⟩
theorem Qsb {x y:Str} (h:signs x=signs y):x=y:=by
 cases x;cases y;simp [signs] at h;simp [h]
theorem WI (x y:Str):signs (x++y)=signs x++signs y:=by
 show (Str.append x y).cps.toList=_;simp [Str.append,signs]
theorem GJ (x:Str):x.length=(signs x).length:=by
 simp [Str.length,signs]
theorem U2 (x:Str) (i:Nat):signs (sg x i)=[(signs x).getD i 97]:=rfl
theorem UR (l:List Str):signs (UJ l)=l.flatMap signs:=by simp [signs,UJ]
theorem Qga:signs "zz" =[122,122]:=by decide +kernel
theorem Qql {l:List Nat} {i:Nat} {a:Nat}:l.getD i a∈l \/ l.getD i a=a:=by
 by_cases h:i < l.length
 ·left
  rw [Qm];simp [h]
 ·right
  rw [Qm];simp [OL h]
theorem Qux:(97:Nat)∈signs SMALL:=by decide +kernel
theorem Qas {x:Str} (h: ∀ c∈signs x,c∈signs SMALL) (i:Nat): ∀ c∈signs (sg x i),c∈signs SMALL:=by
 intro c hc;rw [U2] at hc;have e:c=(signs x).getD i 97:=by simpa using hc
 subst e;rcases Qql (l:=signs x) (i:=i) (a:=97) with h1 | h1
 ·exact h _ h1
 ·rw [h1];exact Qux
theorem firsts2: ∀ c∈signs "abcdef",c∈signs SMALL:=by decide +kernel
theorem Qiz: ∀ x∈KEPT,∀ f:Nat,signs x≠[f,122,122]:=by
 intro x hx f h;simp only [KEPT,Qd,ON,JX] at hx;have l3:(signs x).length=3:=by rw [h];rfl
 have g1:(signs x).getD 1 0=122:=by rw [h];rfl
 clear h;rcases hx with rfl | rfl | rfl | rfl | rfl
 ·exact absurd l3 (by decide +kernel)
 ·exact absurd l3 (by decide +kernel)
 ·exact absurd l3 (by decide +kernel)
 ·exact absurd g1 (by decide +kernel)
 ·exact absurd g1 (by decide +kernel)
theorem Qbm {x:Str} (h1:1<=(signs x).length) (h2:(signs x).length<=8) (h3: ∀ c∈signs x,c∈signs SMALL) (h4:x ∉ KEPT):Zu x=true:=by
 unfold Zu;rw [GJ];simp only [Qv,QD,OP,ZA,Yu];exact ⟨⟨by omega,by omega⟩,h3,h4⟩
theorem Qs1 (c:Int) (k:Nat) {firsts:Str} (hf: ∀ c∈signs firsts,c∈signs SMALL):Zu (word c k firsts)=true:=by
 unfold word;simp only;split
 ·have e:signs (sg firsts k++("zz" :Str))=[(signs firsts).getD k 97,122,122]:=by rw [WI,U2,Qga];rfl
  refine Qbm (by rw [e];simp) (by rw [e];simp) ?_ (fun h=>Qiz _ h _ e);intro z hz;rw [WI,QH] at hz;rcases hz with hz | hz
  ·exact Qas hf k z hz
  ·rw [Qga] at hz
   revert z;decide +kernel
 ·rename_i hn;have hlen:(signs (UJ ((List.range (mix (c+k) 9929 8).toNat).map fun (j:Nat)=>sg SMALL (mix (c+7 * j * j+k) 9931 26).toNat))).length<=7:=by
   rw [UR,List.flatMap_map];have: ∀ l:List Nat,(l.flatMap fun (j:Nat)=>signs (sg SMALL (mix (c+7 * j * j+k) 9931 26).toNat)).length=l.length:=by
    intro l
    induction l with
    | nil=>rfl
    | cons a r ih=>rw [YK,Ql,ih,U2];simp;omega
   rw [this,Wl];have h1:=WQ (c+k) 9929 (m:=8) (by omega);omega
  refine Qbm (by rw [WI,Ql,U2];simp) (by rw [WI,Ql,U2];simp only [Uk];omega) ?_ (fun h=>hn ?_)
  ·intro z hz;rw [WI,QH] at hz;rcases hz with hz | hz
   ·exact Qas hf k z hz
   ·rw [UR,JR] at hz;obtain ⟨y,hy,hz⟩:=hz;obtain ⟨j,_,rfl⟩:=Q3.mp hy;exact Qas (fun _ h=>h) _ z hz
  ·simp only [KEPT,Qd,ON,JX] at h ⊢;rcases h with h | h | h | h | h<;>simp [h]
theorem Qmu (ns:List Int):(kinds ns).length=6:=by simp [kinds]
theorem Qao (ns:List Int): ∀ x∈words ns,Zu x=true:=by
 intro x hx;obtain ⟨k,_,rfl⟩:=Q3.mp hx;exact Qs1 _ _ firsts2
theorem Y5 (ns:List Int):(words ns).length=3 \/ (words ns).length=4:=by
 simp only [words,Q0,Wl,Ge];split
 ·exact .inr rfl
 ·exact .inl rfl
theorem O9 {l:List Str} {i:Nat} {a:Str} (h:i < l.length):l.getD i a∈l:=by
 rw [Qm];simp [h]
theorem GB (ns:List Int) (k:Nat):size ns k<=3:=by
 unfold size;have:[2,1,2,1,0,2].getD k 0<=2:=by
  match k with
  | 0 | 1 | 2 | 3 | 4 | 5=>decide
  | k+6=>simp
 split<;>omega
theorem Qb4 (c:Int) {l:List Str} (h:l≠[]):pick c l∈l:=by
 unfold pick;have hl:0 < l.length:=ZT.mpr h;have h1:=WQ c 9907 (m:=l.length) (by omega);have h2:=JP c 9907 (m:=l.length) (by omega);exact O9 (by omega)
theorem Uc (c:Int):QN c < 6:=by
 unfold QN;have:=WQ c 9871 (m:=6) (by omega);omega
theorem OF (c:Int) {head:Nat} (h:head < 6) (free:Bool) (k:Nat):WD c head free k < 6:=by
 unfold WD;have h1:=WQ (c+31 * k) 9887 (m:=6) (by omega);have h2:=WQ (c+31 * k) 9887 (m:=(head+1:Nat)) (by omega);have e:((head+1:Nat):Int)=(head:Int)+1:=by omega
 rw [e] at h2;cases free
 ·simp only [Yd,OI];split<;>omega
 ·simp only [Zx];split<;>omega
abbrev XYZ:List Str:=["X", "Y", "Z"]
def tm (x:Str):Prop:=x∈XYZ \/ Zu x=true
theorem Qv0 (ns:List Int):Zu ((words ns).getD 0 "")=true:=Qao ns _ (O9 (by rcases Y5 ns with h | h<;>omega))
theorem Qyn (ns:List Int):Zu ((words ns).getD 1 "")=true:=Qao ns _ (O9 (by rcases Y5 ns with h | h<;>omega))
theorem Qym (ns:List Int):Zu ((words ns).getLastD "")=true:=by
 refine Qao ns _ ?_;have hne:words ns≠[]:=fun h=>by rcases Y5 ns with z | z<;>simp [h] at z
 rw [List.getLastD_eq_getLast?,List.getLast?_eq_some_getLast hne];exact List.getLast_mem hne
theorem Qne (ns:List Int) (c:Int) (head:Nat) (free:Bool) (k:Nat): ∀ t∈(Zd ns c head free k).ts,tm t:=by
 intro t ht;obtain ⟨j,_,rfl⟩:=Q3.mp ht;have:=Qb4 (c+13 * k+5 * j) (l:=["X", "Y", "Z", "X", "Y",(words ns).getD 0 "",(words ns).getD 1 ""]) (by simp);simp only [Qd,ON,JX] at this;rcases this with h | h | h | h | h | h | h
 ·exact .inl (by rw [h];decide +kernel)
 ·exact .inl (by rw [h];decide +kernel)
 ·exact .inl (by rw [h];decide +kernel)
 ·exact .inl (by rw [h];decide +kernel)
 ·exact .inl (by rw [h];decide +kernel)
 ·exact .inr (by rw [h];exact Qv0 ns)
 ·exact .inr (by rw [h];exact Qyn ns)
theorem Qcg (ns:List Int) (c:Int) (head:Nat) (free:Bool) (k:Nat):(Zd ns c head free k).ts.length<=3:=by
 simp only [Zd,Q0,Wl];exact GB _ _
theorem Qcf (ns:List Int) (c:Int) (head:Nat) (free:Bool):(body ns c head free).length<=3:=by
 simp only [body,Q0,Wl];have:=WQ c 9901 (m:=4) (by omega);omega
theorem Qro {acc:List Str} {t x:Str}:x∈YA acc t ↔ x∈acc \/ (x=t/\t∈XYZ):=by
 unfold YA;split
 ·rename_i h;simp only [QH,Qs];constructor
  ·rintro (h1 | h1)
   ·exact .inl h1
   ·exact .inr ⟨h1,h.1⟩
  ·rintro (h1 | h1)
   ·exact .inl h1
   ·exact .inr h1.1
 ·rename_i h;constructor
  ·exact .inl
  ·rintro (h1 | ⟨rfl,h2⟩)
   ·exact h1
   ·exact Bh fun z=>h ⟨h2,z⟩
theorem Qdw {x:Str}: ∀ {ts:List Str} {acc:List Str},x∈ts.foldl YA acc ↔ x∈acc \/ (x∈ts/\x∈XYZ)
 | [],acc=>by simp
 | t::ts,acc=>by
  rw [Jl,Qdw,Qro];simp only [Qd];constructor
  ·rintro ((h | ⟨rfl,h⟩) | ⟨h1,h2⟩)
   ·exact .inl h
   ·exact .inr ⟨.inl rfl,h⟩
   ·exact .inr ⟨.inr h1,h2⟩
  ·rintro (h | ⟨rfl | h1,h2⟩)
   ·exact .inl (.inl h)
   ·exact .inl (.inr ⟨rfl,h2⟩)
   ·exact .inr ⟨h1,h2⟩
theorem Qhn {x:Str}: ∀ {as:List At} {acc:List Str},x∈as.foldl (fun acc a=>a.ts.foldl YA acc) acc ↔ x∈acc \/ (x∈XYZ/\ ∃ a∈as,x∈a.ts)
 | [],acc=>by simp
 | a::as,acc=>by
  rw [Jl,Qhn,Qdw];simp only [Qd,exists_eq_or_imp];constructor
  ·rintro ((h | ⟨h1,h2⟩) | ⟨h1,h2⟩)
   ·exact .inl h
   ·exact .inr ⟨h2,.inl h1⟩
   ·exact .inr ⟨h1,.inr h2⟩
  ·rintro (h | ⟨h1,h2 | h2⟩)
   ·exact .inl (.inl h)
   ·exact .inl (.inr ⟨h2,h1⟩)
   ·exact .inr ⟨h1,h2⟩
theorem Qnb {x:Str} {as:List At}:x∈bound as ↔ x∈XYZ/\ ∃ a∈as,x∈a.ts:=by
 unfold bound;rw [Qhn]
 simp
theorem Qco {ns:List Int} {c:Int} {free:Bool} {t:Str} (h:t∈Jk ns c free):Zu t=true \/ (t∈XYZ/\ ∃ a∈body ns c (QN c) free,t∈a.ts):=by
 unfold Jk at h;rw [QH] at h;rcases h with h | h
 ·exact .inr (Qnb.mp h)
 ·simp only [Qd,ON,JX] at h;rcases h with h | h
  ·exact .inl (by rw [h];exact Qv0 ns)
  ·exact .inl (by rw [h];exact Qym ns)
theorem Uw (ns:List Int) (c:Int) (free:Bool):Jk ns c free≠[]:=by
 unfold Jk
 simp
theorem Ol {ns:List Int} {c:Int} {free:Bool} {t:Str} (h:t∈Jk ns c free):tm t:=by
 rcases Qco h with h | h
 ·exact .inr h
 ·exact .inl h.1
theorem Qdd (c:Int) (h:0 < QN c):Z5 c < 6:=by
 unfold Z5;have h1:=WQ c 9857 (m:=QN c) (by omega);have h2:=Uc c;omega
theorem Ux {ns:List Int} {c:Int} {free:Bool} {l:Li} (h:l∈WA ns c free) :
  (∃ a∈body ns c (QN c) free,l=⟨true,a⟩) \/ (Gh ns c free=true/\l=⟨false,Bt ns c free⟩):=by
 unfold WA at h;simp only at h;split at h
 ·rename_i hn;have hm:l=⟨false,Bt ns c free⟩ \/ l∈(body ns c (QN c) free).map fun a=>Li.mk true a:=by
   generalize ((body ns c (QN c) free).map fun a=>Li.mk true a)=b at h ⊢
   by_cases hi:(mix c 9851 (b.length+1)).toNat<=b.length
   ·exact (List.mem_insertIdx hi).mp h
   ·rw [List.insertIdx_of_length_lt (by omega)] at h;exact .inr h
  rcases hm with hm | hm
  ·exact .inr ⟨hn,hm⟩
  ·obtain ⟨a,ha,rfl⟩:=Q3.mp hm;exact .inl ⟨a,ha,rfl⟩
 ·obtain ⟨a,ha,rfl⟩:=Q3.mp h;exact .inl ⟨a,ha,rfl⟩
theorem Uy (ns:List Int) (c:Int) (free:Bool):(WA ns c free).length<=4:=by
 have h:=Qcf ns c (QN c) free;unfold WA;simp only;split
 ·have: ∀ (l:List Li) (i:Nat) (x:Li),(l.insertIdx i x).length<=l.length+1:=by
   intro l i x;rw [List.length_insertIdx];split<;>omega
  refine Qz (this _ _ _) ?_;rw [Q0];omega
 ·rw [Q0];omega
theorem Qbp {ns:List Int} {c:Int} {free:Bool} (h:Gh ns c free=true):0 < QN c:=by
 unfold Gh at h;simp only [Qv,QD] at h;exact h.1.1.2
end RH
namespace L2
open PySem PySem.Spec PyProof.Rows
def Fd (K:W.Frag) (mg:Str->Option Value) (x:Str) (st:Stmt) (ps:List Str):Prop :=
 ∃ f fd,mg x=some (.ref f)/\Fun K x x st f fd/\Binds K fd ps []
def Pr (P:Program) (w:World) (K:W.Frag) (mg:Str->Option Value) (base:Heap) (x:Str) (k:Nat) (ps:List Str) (sp:Sp):Prop :=
 ∃ f fd,mg x=some (.ref f)/\W.keepIn K (.ref f)=true/\Binds K fd ps []/\FnOk P w K mg base CX0 k f fd ps sp
section
variable {P:Program} {w:World} {K:W.Frag} {mg:Str->Option Value} {base:Heap}
theorem Zi {x:Str} {st:Stmt} {N ps:List Str} {k:Nat} {R:List D->D->Prop} (F:Fd K mg x st ps) (S:Vf N ps (Vs st)) (hl:ps.length<=N.length)
  (hb: ∀ (f:Addr) (cdv:Value) (A:Around) (outer:List Env) (s:Shared) (H:Hp) (E:XK) (ds:List D) (d:D),Room k (A.deeper (envOfC x (Vs st) s.heap.objs.size f cdv))->R ds d->ds.length=ps.length ->
   QOs (Ug CX0 P w K mg base N x (Vs st) f cdv A outer s H E).nox H (args ds N.length) (W7 st) (.ret d)):Pr P w K mg base x (k+1) ps (spD K ps.length R):=by
 obtain ⟨f,fd,hm,hf,hbi⟩:=F;exact ⟨f,fd,hm,hf.kp,hbi,Ja3 hf S hl (hb f)⟩
theorem Qcq {x:Str} {st:Stmt} {N ps:List Str} {k:Nat} {R:List D->List D->Prop} (F:Fd K mg x st ps) (S:Vf N ps (Vs st)) (hl:ps.length<=N.length)
  (hb: ∀ (f:Addr) (cdv:Value) (A:Around) (outer:List Env) (s:Shared) (H:Hp) (E:XK) (ds es:List D),Room k (A.deeper (envOfC x (Vs st) s.heap.objs.size f cdv))->R ds es->ds.length=ps.length ->
   QOs (Ug CX0 P w K mg base N x (Vs st) f cdv A outer s H E).nox H (args ds N.length) (W7 st) (.retL es)):Pr P w K mg base x (k+1) ps (spL K ps.length R):=by
 obtain ⟨f,fd,hm,hf,hbi⟩:=F;exact ⟨f,fd,hm,hf.kp,hbi,Jau hf S hl (hb f)⟩
end
section
variable {X:Cx} {ρ:List (Option D)} {e:Expr} {es:List Expr} {d:D} {ds rs:List D} {pos:Pos}
theorem Jy {k n:Nat} {ps:List Str} {R:List D->D->Prop} {x:Str} {p:Pos} (F:Pr X.prog X.w X.K X.mg X.base x k ps (spD X.K n R)) (hr:Room k X.A) (ha:PDs X ρ (e::es) ds) (hR:R ds d) (hn:ds.length=n:=by rfl) (hg:Gl X x:=by rfl) (hdb:(x == ("__debug__" :Str))=false:=by decide)
  (he:starEach (e::es) X.env=(false,eval e X.env)::starEach es X.env:=by rfl) (hpl:(backTo pos (starEach es X.env)).any (·.1)=false:=by rfl):PD X ρ (.Call (.Name x p) (e::es) [] pos) d:=by
 obtain ⟨f,fd,hm,hk,hb,F⟩:=F;exact Qyd F hr hm hk hb ha hn hR hg hdb he hpl
theorem ZS {k n:Nat} {ps:List Str} {R:List D->List D->Prop} {x:Str} {p:Pos} (F:Pr X.prog X.w X.K X.mg X.base x k ps (spL X.K n R)) (hr:Room k X.A) (ha:PDs X ρ (e::es) ds) (hR:R ds rs) (hn:ds.length=n:=by rfl) (hg:Gl X x:=by rfl) (hdb:(x == ("__debug__" :Str))=false:=by decide)
  (he:starEach (e::es) X.env=(false,eval e X.env)::starEach es X.env:=by rfl) (hpl:(backTo pos (starEach es X.env)).any (·.1)=false:=by rfl):PDL X ρ (.Call (.Name x p) (e::es) [] pos) rs:=by
 obtain ⟨f,fd,hm,hk,hb,F⟩:=F;exact Quo F hr hm hk hb ha hn hR hg hdb he hpl
end
def Qh0 (a c:String):Option Bool:=if (Value.type a == Value.type c)=true then some true else if W.kitMeta c=true then (fastBuiltinMro a).map (·.contains (Value.type c)) else none
theorem Qua (K:W.Frag) (a c:String):W.kitOne K (.type a) (.type c)=Qh0 a c:=rfl
def Qy0:D->Bool | .tup _=>true | _=>false
theorem Qu9 (K:W.Frag) (d:D):W.kitOne K (.type (tyD d)) (.type "tuple")=some (Qy0 d):=by
 rw [Qua];have hNoneType:Qh0 "NoneType" "tuple" =some false:=by decide +kernel
 have hbool:Qh0 "bool" "tuple" =some false:=by decide +kernel
 have hint:Qh0 "int" "tuple" =some false:=by decide +kernel
 have hstr:Qh0 "str" "tuple" =some false:=by decide +kernel
 have htuple:Qh0 "tuple" "tuple" =some true:=by decide +kernel
 have hlist:Qh0 "list" "tuple" =some false:=by decide +kernel
 have hdict:Qh0 "dict" "tuple" =some false:=by decide +kernel
 cases d
 ·exact hNoneType
 ·exact hbool
 ·exact hint
 ·exact hstr
 ·exact htuple
 ·exact hlist
 ·exact hdict
section
variable {X:Cx} {ρ:List (Option D)} {ds:List D} {pos:Pos}
theorem Jaw {a b:Expr} {rest:List Expr} {k k2:Bool} (ha:PD X ρ a (.bl k)) (hb:k=true->PD X ρ (.BoolOp .And (b::rest) pos) (.bl k2)):PD X ρ (.BoolOp .And (a::b::rest) pos) (.bl (k && k2)):=by
 cases k with
 | true=>rw [Y0];exact Qvn ha hb (fun h=>nomatch h)
 | false=>rw [B3];exact Qvn ha (fun h=>nomatch h) (fun _=>rfl)
theorem WE {a b:Expr} {rest:List Expr} {k k2:Bool} (ha:PB X ρ a k) (hb:k=true->PWB X ρ (.BoolOp .And (b::rest) pos) k2):PWB X ρ (.BoolOp .And (a::b::rest) pos) (k && k2):=by
 cases k with
 | true=>rw [Y0];exact Qri ha hb (fun h=>nomatch h)
 | false=>rw [B3];exact Qri ha (fun h=>nomatch h) (fun _=>rfl)
theorem Ja9 {a b:Expr} {rest:List Expr} {k k2:Bool} (ha:PB X ρ a k) (hb:k=false->PWB X ρ (.BoolOp .Or (b::rest) pos) k2):PWB X ρ (.BoolOp .Or (a::b::rest) pos) (k || k2):=by
 cases k with
 | false=>rw [Qi4];exact Qhq ha hb (fun h=>nomatch h)
 | true=>rw [Bool.true_or];exact Qhq ha (fun h=>nomatch h) (fun _=>rfl)
theorem Qc5 {x:Str} {i:Int} (h: ∃ t,X.mg x=some (.int i t)) (hg:Gl X x:=by rfl) (hdb:(x == ("__debug__" :Str))=false:=by decide):PD X ρ (.Name x pos) (.int i) :=
 let ⟨_,h⟩:=h;Qqy (v:= .int i) h ⟨_,rfl⟩ (fun _=>Zq _) hg hdb
theorem Qjb {x y:Str} (h: ∃ t,X.mg x=some (.str y t)) (hg:Gl X x:=by rfl) (hdb:(x == ("__debug__" :Str))=false:=by decide):PD X ρ (.Name x pos) (.str y) :=
 let ⟨_,h⟩:=h;Qqy (v:= .str y) h ⟨_,rfl⟩ (fun _=>ZV _) hg hdb
end
def AL:List Sl->Prop
 | []=>True
 | .any d::r=>LF d=true/\AL r
 | _::r=>AL r
theorem AL.h: ∀ {τ:List Sl},AL τ-> ∀ (j:Nat) (d:D),τ[j]? =some (.any d)->LF d=true
 | .any d::r,h,0,e,hj=>by
  have:d=e:=by simpa using hj
  subst this;exact h.1
 | .no::r,h,0,e,hj=>by simp at hj
 | .arg d::r,h,0,e,hj=>by simp at hj
 | .own d::r,h,0,e,hj=>by simp at hj
 | .odc k d::r,h,0,e,hj=>by simp at hj
 | .ftp d::r,h,0,e,hj=>by simp at hj
 | .flt d::r,h,0,e,hj=>by simp at hj
 | .any d::r,h,j+1,e,hj=>AL.h (τ:=r) h.2 j e (by simpa using hj)
 | .no::r,h,j+1,e,hj=>AL.h (τ:=r) h j e (by simpa using hj)
 | .arg d::r,h,j+1,e,hj=>AL.h (τ:=r) h j e (by simpa using hj)
 | .own d::r,h,j+1,e,hj=>AL.h (τ:=r) h j e (by simpa using hj)
 | .odc k d::r,h,j+1,e,hj=>AL.h (τ:=r) h j e (by simpa using hj)
 | .ftp d::r,h,j+1,e,hj=>AL.h (τ:=r) h j e (by simpa using hj)
 | .flt d::r,h,j+1,e,hj=>AL.h (τ:=r) h j e (by simpa using hj)
inductive WkI:List Sl->List Sl->Prop where
 | nil:WkI [] []
 | keep {s:Sl} {τ τ':List Sl}:WkI τ τ'->WkI (s::τ) (s::τ')
 | no {s:Sl} {τ τ':List Sl}:WkI τ τ'->WkI (s::τ) (.no::τ')
 | any {d:D} {τ τ':List Sl}:WkI τ τ'->WkI (.arg d::τ) (.any d::τ')
theorem WkI.wk {τ τ':List Sl} (h:WkI τ τ'):Wk τ τ':=by
 induction h with
 | nil=>exact .refl _
 | keep _ ih =>
  refine ⟨by simp [ih.1],fun i s e=> ?_⟩;cases i with
  | zero=>exact .inr (.inl e)
  | succ i=>exact ih.2 i s (by simpa using e)
 | no _ ih =>
  refine ⟨by simp [ih.1],fun i s e=> ?_⟩;cases i with
  | zero=>exact .inl (by simpa using e.symm)
  | succ i=>exact ih.2 i s (by simpa using e)
 | @any d _ _ _ ih =>
  refine ⟨by simp [ih.1],fun i s e=> ?_⟩;cases i with
  | zero =>
   have:s= .any d:=by simpa using e.symm
   exact .inr (.inr ⟨d,this,rfl⟩)
  | succ i=>exact ih.2 i s (by simpa using e)
theorem BH {α:Type} {l:List α} {i:Int} (d:α) (h0:0<=i) (h1:i < l.length):atI l i=some (l.getD i.toNat d):=by
 have hj:i.toNat < l.length:=by omega
 have e:l[i.toNat]? =some (l.getD i.toNat d):=by
  rw [Qm];simp [hj]
 have:=WM e;rwa [Qfx h0] at this
theorem Qj0 (ss:List Str):Txt.join "" ss=RH.UJ ss:=by
 have go: ∀ (l:List Str) (acc:Array Nat),(l.foldl (fun acc p=>acc++(Str.ofString "").cps++p.cps) acc)=acc++(l.flatMap fun p=>p.cps.toList).toArray:=by
  intro l
  induction l with
  | nil=>intro acc;simp
  | cons p r ih =>
   intro acc;have e:(Str.ofString "").cps= #[]:=by decide +kernel
   rw [Jl,ih,e];apply Array.ext'
   simp
 show (⟨((ss.drop 1).foldl (fun acc p=>acc++(Str.ofString "").cps++p.cps) (ss.headD Str.empty).cps)⟩:Str)=⟨(ss.flatMap RH.signs).toArray⟩;rw [go];cases ss with
 | nil=>rfl
 | cons s r=>simp [RH.signs]
theorem Yg (lo:Int) (n:Nat):(We lo n).length=n:=by simp [We]
theorem BE {ds:List D}:Qn8 (.lst ds)=some ds.length:=rfl
end L2
namespace L2
open PySem
theorem JG {K:W.Frag} {h:Heap} {mg:Str->Option Value} {x:Str} {st:Stmt} {ps:List Str} {f:Addr} {oc:Value} {od an:Option Addr} {osl:Array (Option Value)} {kV doc pm cdv ct:Value} (X:K.In h) (G:h.Ns mainGlobals mg)
  (a:W.nsIn K mainGlobals x=some (some (.ref f))) (l:K.lookup f=some ⟨oc,od,.func (W.fnOf x x (Y1 st) (W7 st) (Vs st) .none kV doc pm an cdv ct),osl⟩) (c:W.codeIn K cdv x=true) (k:W.keepIn K (.ref f)=true)
  (hb: ∀ (kV doc pm:Value) (an:Option Addr) (cdv ct:Value) (us:List Value),us.length=ps.length->bindArgs (W.fnOf x x (Y1 st) (W7 st) (Vs st) .none kV doc pm an cdv ct) ⟨us,[]⟩=pure (ps.zip us)):Fd K mg x st ps :=
 ⟨f,_,W.mg_of X G a,Qj4 l c k,(Qj4 l c k).binds hb⟩
theorem Qhx {K:W.Frag} {H:Hp}: ∀ ss:List Int,Va K H (ss.map D.int) (ss.map V.int)
 | []=>Jm
 | s::ss=>Vg (Zq s) (Qhx ss)
theorem Quj {K:W.Frag} {h:Heap} {mg:Str->Option Value} {x y:Str} {t:Tok} (X:K.In h) (G:h.Ns mainGlobals mg) (a:W.nsIn K mainGlobals x=some (some (.str y t))): ∃ t,mg x=some (.str y t):=⟨t,W.mg_of X G a⟩
theorem Qky {K:W.Frag} {h:Heap} {mg:Str->Option Value} {x:Str} {i:Int} {t:Tok} (X:K.In h) (G:h.Ns mainGlobals mg) (a:W.nsIn K mainGlobals x=some (some (.int i t))): ∃ t,mg x=some (.int i t):=⟨t,W.mg_of X G a⟩
def RLaw0:List D->D->Prop:=fun ds d=> ∃ (ns:List Int),ds=[.lst (ns.map .int)]/\ns.length<=63/\d= .bl true
theorem Qzt {K:W.Frag} (H:Hp) (a:Addr) (ns:List Int) (hl:ns.length<=63) (hS:SqL K H a (ns.map V.int)):spD K 1 RLaw0 [.ref a] H (fun v _=>v= .bl true) fun _ _ _=>False :=
 ⟨rfl,[.lst (ns.map .int)],.bl true,Vg (Qfc hS (Qhx ns)) Jm,⟨ns,rfl,hl,rfl⟩,fun v H' _ i=>GZ i⟩
theorem Qzu {K:W.Frag} {h:Heap} {mg:Str->Option Value} {P:Program} {w:World} {fa:Addr} {k:Nat} {y:Str} {st:Stmt} {f:Addr} {oc:Value} {od an:Option Addr} {osl:Array (Option Value)} {kV doc pm cdv ct:Value} (X:K.In h) (G:h.Ns mainGlobals mg) (hfa:mg "law" =some (.ref fa))
  (a:W.nsIn K mainGlobals "law" =some (some (.ref f))) (l:K.lookup f=some ⟨oc,od,.func (W.fnOf "law" "law" (Y1 st) (W7 st) (Vs st) .none kV doc pm an cdv ct),osl⟩)
  (hb: ∀ (s:Shared) (u:Value),BindsTo s (W.fnOf "law" "law" (Y1 st) (W7 st) (Vs st) .none kV doc pm an cdv ct) ⟨[u],[]⟩ [(y,u)])
  (hF: ∀ base:Heap,FnOk P w K mg base CX0 k f (W.fnOf "law" "law" (Y1 st) (W7 st) (Vs st) .none kV doc pm an cdv ct) [y] (spD K 1 RLaw0)) :
  ∃ fd:FuncData,(∀ (s:Shared) (u:Value),BindsTo s fd ⟨[u],[]⟩ [(y,u)])/\ ∀ base:Heap,K.In base->base.Ns mainGlobals mg->FnOk P w K mg base CX0 k fa fd [y] (spD K 1 RLaw0):=by
 have e:=hfa.symm.trans (W.mg_of X G a);cases e;exact ⟨_,hb,fun base _ _=>hF base⟩
end L2
namespace K27
open PySem L2 RH
def top (i:Nat):Stmt:=PySem.Challenge.pw_rulehall_k27_what_unfolding_tells.main.body.getD i (.Pass ⟨0,0,0,0⟩)
abbrev Qaw:Stmt:=top 9
abbrev GD:Stmt:=top 10
abbrev Qer:Stmt:=top 12
abbrev Qk4:Stmt:=top 13
abbrev Qk3:Stmt:=top 14
abbrev Qa3:Stmt:=top 15
abbrev Qa4:Stmt:=top 42
abbrev Qk8:Stmt:=top 32
abbrev Qsj:Stmt:=top 33
abbrev Qes:Stmt:=top 34
abbrev Qeu:Stmt:=top 35
abbrev Qeo:Stmt:=top 36
abbrev Qk2:Stmt:=top 37
abbrev Qk1:Stmt:=top 38
abbrev Qk9:Stmt:=top 39
abbrev Qew:Stmt:=top 40
abbrev Qet:Stmt:=top 41
abbrev Qk5:Stmt:=top 17
abbrev Qa6:Stmt:=top 18
abbrev Qjz:Stmt:=top 20
abbrev Qa7:Stmt:=top 21
abbrev Qa2:Stmt:=top 22
abbrev Qep:Stmt:=top 23
abbrev Qd3:Stmt:=top 26
abbrev Qex:Stmt:=top 27
abbrev Qa1:Stmt:=top 28
abbrev sBy:Stmt:=top 29
abbrev Qoj:Stmt:=top 30
abbrev Qih:Stmt:=top 61
structure Txt (K:W.Frag) (mg:Str->Option Value):Prop where
 bIsi:mg "isinstance" =none
 bStr:mg "str" =none
 bTup:mg "tuple" =none
 bLen:mg "len" =none
 bInt:mg "int" =none
 bRng:mg "range" =none
 bBool:mg "bool" =none
 bSet:mg "set" =none
 bSrt:mg "sorted" =none
 bDct:mg "dict" =none
 bEnu:mg "enumerate" =none
 bLst:mg "list" =none
 bZip:mg "zip" =none
 bAny:mg "any" =none
 caps: ∃ t,mg "CAPITAL_LETTERS" =some (.str CAPS t)
 mLit: ∃ t,mg "MOST_LITERALS" =some (.int 4 t)
 mRul: ∃ t,mg "MOST_RULES" =some (.int 16 t)
theorem Vl {n:Nat} (h:n<=1000000):n<=sizeLine:=Qz h (by rw [QP];decide)
abbrev PrD (P:Program) (w:World) (K:W.Frag) (mg:Str->Option Value) (base:Heap) (x:Str) (k:Nat) (ps:List Str) (R:List D->D->Prop):Prop:=Pr P w K mg base x k ps (spD K ps.length R)
abbrev PrL (P:Program) (w:World) (K:W.Frag) (mg:Str->Option Value) (base:Heap) (x:Str) (k:Nat) (ps:List Str) (R:List D->List D->Prop):Prop:=Pr P w K mg base x k ps (spL K ps.length R)
theorem at0 {α:Type} {a:α} {l:List α}:atI (a::l) 0=some a:=by
 have:=WM (xs:=a::l) (j:=0) (v:=a) rfl;simpa using this
theorem at1 {α:Type} {a b:α} {l:List α}:atI (a::b::l) 1=some b:=by
 have:=WM (xs:=a::b::l) (j:=1) (v:=b) rfl;simpa using this
abbrev scr (ns:List Int):D:= .lst (ns.map .int)
section
variable {P:Program} {w:World} {K:W.Frag} {mg:Str->Option Value} {base:Heap}
def RCell:List D->D->Prop:=fun ds d=> ∃ (ns:List Int) (k:Nat),ds=[scr ns,.int k]/\d= .int (cell ns k)
theorem Qwk:Vf ["_law_script", "_law_k"] ["_law_script", "_law_k"] (Vs Qk8):=⟨rfl,rfl,rfl,by decide +kernel,rfl,by decide +kernel,by decide +kernel⟩
theorem Qtn (T:Txt K mg) (F:Fd K mg "_law_cell" Qk8 ["_law_script", "_law_k"]):PrD P w K mg base "_law_cell" 1 ["_law_script", "_law_k"] RCell:=by
 refine Zi (N:=["_law_script", "_law_k"]) F Qwk (Q6 _) fun f cdv A outer s H E ds d hr hR _=> ?_
 obtain ⟨ns,k,rfl,rfl⟩:=hR;have hc:=fun {X:Cx} (h:X.mg "len" =none) (a b c d e)=> @Qnf X (dat (args [scr ns,.int k] 2)) a b c d e
 by_cases h:(k:Int) < ((ns.map D.int).length:Nat)
 ·have hk:k < ns.length:=by rw [Q0] at h;omega
  refine Gb (JT (k:=true) ?_ (fun _=>Vz (Jv (QR (Vv 0 rfl) (Vv 1 rfl) ?_))) (fun h=>nomatch h))
  ·have e:decide ((k:Int) < ((ns.map D.int).length:Nat))=true:=QM h;rw [<- e];exact Qnf (Vv 1 rfl) (Wb T.bLen (Vv 0 rfl) rfl (fun y e=>nomatch e))
  ·show atI (ns.map D.int) k=_;refine WM ?_;rw [Q8,cell,Qm];simp [hk]
 ·have hk: ¬ k < ns.length:=by rw [Q0] at h;omega
  refine Wa (JT (k:=false) ?_ (fun h=>nomatch h) (fun _=>JS)) (Vz (Jv ?_))
  ·have e:decide ((k:Int) < ((ns.map D.int).length:Nat))=false:=QA h;rw [<- e];exact Qnf (Vv 1 rfl) (Wb T.bLen (Vv 0 rfl) rfl (fun y e=>nomatch e))
  ·have e:cell ns k=0:=by
    rw [cell,Qm];simp [OL hk]
   rw [e];exact Vi
def RMix:List D->D->Prop:=fun ds d=> ∃ c p m:Int,ds=[.int c,.int p,.int m]/\0 < p/\0 < m/\d= .int (mix c p m)
theorem Qyy:Vf ["_law_cell_here", "_law_prime", "_law_many"] ["_law_cell_here", "_law_prime", "_law_many"] (Vs Qsj):=⟨rfl,rfl,rfl,by decide +kernel,rfl,by decide +kernel,by decide +kernel⟩
theorem Qx7 (F:Fd K mg "_law_mix" Qsj ["_law_cell_here", "_law_prime", "_law_many"]):PrD P w K mg base "_law_mix" 1 ["_law_cell_here", "_law_prime", "_law_many"] RMix:=by
 refine Zi (N:=["_law_cell_here", "_law_prime", "_law_many"]) F Qyy (Q6 _) fun f cdv A outer s H E ds d hr hR _=> ?_
 obtain ⟨c,p,m,rfl,hp,hm,rfl⟩:=hR;exact Vz (Jv (Ql5 (Ql5 (OA (Vv 0 rfl) Vi (.inr ⟨by decide,by decide⟩)) (Vv 1 rfl) hp) (Vv 2 rfl) hm))
theorem Yq {X:Cx} {ρ:List (Option D)} {a b c:Expr} {p pos:Pos} {i q m:Int} (G:PrD X.prog X.w X.K X.mg X.base "_law_mix" 1 ["_law_cell_here", "_law_prime", "_law_many"] RMix) (hr:Room 1 X.A) (ha:PD X ρ a (.int i)) (hb:PD X ρ b (.int q)) (hc:PD X ρ c (.int m)) (hq:0 < q) (hm:0 < m)
  (hg:Gl X "_law_mix" :=by rfl) (h1:starEach [a,b,c] X.env=[(false,eval a X.env),(false,eval b X.env),(false,eval c X.env)]:=by rfl) (h2:starEach [b,c] X.env=[(false,eval b X.env),(false,eval c X.env)]:=by rfl) (h3:starEach [c] X.env=[(false,eval c X.env)]:=by rfl) :
  PD X ρ (.Call (.Name "_law_mix" p) [a,b,c] [] pos) (.int (mix i q m)) :=
 Jy G hr (Vc ha (Vc hb (Vc hc Vn h3) (by rw [h2,h3])) (by rw [h1,h2])) ⟨i,q,m,rfl,hq,hm,rfl⟩ rfl hg (by decide) (by rw [h1,h2]) (by rw [h2];rfl)
def RLWord:List D->D->Prop:=fun ds d=> ∃ (c:Int) (k:Nat) (fs:Str),ds=[.int c,.int k,.str fs]/\k < fs.length/\fs.length<=10/\d= .str (word c k fs)
abbrev Qq1:List Str:=["_law_cell_here", "_law_k", "_law_firsts", "_law_letters", "_law_tail", "_law_found"]
theorem OZ:Vf Qq1 ["_law_cell_here", "_law_k", "_law_firsts"] (Vs Qes):=⟨rfl,rfl,rfl,by decide +kernel,rfl,by decide +kernel,by decide +kernel⟩
def tailS (c:Int) (k:Nat):List Str:=(List.range (mix (c+k) 9929 8).toNat).map fun (j:Nat)=>sg SMALL (mix (c+7 * j * j+k) 9931 26).toNat
theorem Qg4 (c:Int) (k:Nat):(tailS c k).length<=7:=by
 have:=WQ (c+k) 9929 (m:=8) (by omega);simp [tailS];omega
theorem Qg3 (c:Int) (k:Nat):((tailS c k).map (·.length)).sum=(tailS c k).length:=by
 unfold tailS;rw [Qo];have: ∀ l:List Nat,(l.map ((·.length) ∘ fun (j:Nat)=>sg SMALL (mix (c+7 * j * j+k) 9931 26).toNat)).sum=l.length:=by
  intro l
  induction l with
  | nil=>rfl
  | cons a r ih =>
   rw [Qp,List.sum_cons,ih];show 1+r.length=r.length+1;omega
 rw [this]
 simp
theorem Qmx (c:Int) (k:Nat):(UJ (tailS c k)).length<=7:=by
 rw [GJ,UR,List.length_flatMap];have e:(tailS c k).map (fun s=>(signs s).length)=(tailS c k).map (·.length):=QQ fun s _=>(GJ s).symm
 rw [show (List.map (fun a=>(signs a).length) (tailS c k))=_ from e,Qg3];exact Qg4 c k
theorem Qac {x:Str} {i:Int} (h0:0<=i) (h1:i < x.length):dAt (.str x) i=some (.str (sg x i.toNat)):=by
 show (atI x.cps.toList i).map _=_;rw [BH 97 h0 (by rw [show x.cps.toList.length=x.length from (GJ x).symm];exact h1)];rfl
theorem Qd2:SMALL.length=26:=by decide +kernel
theorem Qpe (T:Txt K mg) (F:Fd K mg "_law_word" Qes ["_law_cell_here", "_law_k", "_law_firsts"]) (G:PrD P w K mg base "_law_mix" 1 ["_law_cell_here", "_law_prime", "_law_many"] RMix):PrD P w K mg base "_law_word" 2 ["_law_cell_here", "_law_k", "_law_firsts"] RLWord:=by
 refine Zi (N:=Qq1) F OZ (by decide) fun f cdv A outer s H E ds d hr hR _=> ?_
 obtain ⟨c,k,fs,rfl,hk,hfs,rfl⟩:=hR;have hz: ∀ y,D.str fs= .str y->y.length<=sizeLine:=fun y e=>by cases e;exact Vl (by omega)
 have hzS: ∀ y,D.str SMALL= .str y->y.length<=sizeLine:=fun y e=>by cases e;exact Vl (by rw [Qd2];decide)
 have m1:=WQ (c+k) 9929 (m:=8) (by omega);have m0:=JP (c+k) 9929 (m:=8) (by omega);refine Vq (Jf (i:=3) (d:= .str SMALL) Vt OZ.nd) ?_;refine Vq (Jf (i:=4) (d:= .str (Txt.join "" (tailS c k))) (Qy7 Vt (PDL.pd (Z6 (ds:=We 0 (mix (c+k) 9929 8).toNat) (f:=fun d=>match d with | .int j=> .str (sg SMALL (mix (c+7 * j * j+k) 9931 26).toNat) | d=>d) rfl
  (Uf T.bRng (Yq G hr (Wi (Vv 0 rfl) (Vv 1 rfl)) Vi Vi (by decide) (by decide)) (by omega) (by omega)) (by rw [Yg];exact Vl (by omega)) (fun d hd cl C s H ex=> ?_))) (.inl ?_) ?_) OZ.nd) ?_
 ·obtain ⟨j,hj,rfl⟩:=Q3.mp hd;have hj':=Wd.mp hj;have b1:=WQ (c+7 * (0+(j:Int)) * (0+j)+k) 9931 (m:=26) (by omega);have b0:=JP (c+7 * (0+(j:Int)) * (0+j)+k) 9931 (m:=26) (by omega);exact QR (Vv 4 rfl) (Yq G hr (Wi (Wi (Vv 1 rfl) (OA (OA Vi (Vv 0 rfl) (.inl ⟨by decide,by decide⟩)) (Vv 0 rfl) (.inl ⟨by omega,by omega⟩))) (Vv 2 rfl)) Vi Vi (by decide) (by decide)) (Qac b0 (by rw [Qd2];omega)) hzS
 ·simp [We,tailS,Qo,QK]
 ·rw [Qg3];have:=Qg4 c k;have e:(Str.ofString "").length=0:=by decide +kernel
  rw [e];omega
 rw [Qj0];have hsg:(sg fs k).length=1:=rfl;have hj:=Qmx c k;refine Vq (Jf (i:=5) (d:= .str (sg fs k++UJ (tailS c k))) (Qjc (QR (Vv 2 rfl) (Vv 1 rfl) (Qac (by omega) (by omega)) hz) (Vv 4 rfl) (Vl (by rw [hsg];omega))) OZ.nd) ?_;have ht:=fun {X:Cx} {ρ} {a b} {pos} (ha:PD X ρ a (.str (sg fs k++UJ (tailS c k)))) (hb:PD X ρ b (.lst ((["and", "fact", "if", "rule", "not"]:List Str).map D.str))) (hm:behindInMarks .In b=false)=>Qvr (pos:=pos) ha hb (.inr rfl) hm
 by_cases hin:(sg fs k++UJ (tailS c k))∈(["and", "fact", "if", "rule", "not"]:List Str)
 ·have ew:word c k fs=sg fs k++ "zz" :=by
   unfold word;exact Qk hin
  rw [ew];refine Gb (JT (k:=true) ?_ (fun _=>Vz (Jv (Qjc (QR (Vv 2 rfl) (Vv 1 rfl) (Qac (by omega) (by omega)) hz) Vt (Vl (by rw [hsg];decide +kernel))))) (fun h=>nomatch h));have e:decide ((sg fs k++UJ (tailS c k))∈(["and", "fact", "if", "rule", "not"]:List Str))=true:=QM hin;rw [<- e];exact ht (Vv 5 rfl) (PDL.pd (Wf (Vc Vt (Vc Vt (Vc Vt (Vc Vt (Vc Vt Vn))))) (Vl (by decide)))) rfl
 ·have ew:word c k fs=sg fs k++UJ (tailS c k):=by
   unfold word;exact Qn hin
  rw [ew];refine Wa (JT (k:=false) ?_ (fun h=>nomatch h) (fun _=>JS)) (Vz (Jv (Vv 5 rfl)));have e:decide ((sg fs k++UJ (tailS c k))∈(["and", "fact", "if", "rule", "not"]:List Str))=false:=QA hin;rw [<- e];exact ht (Vv 5 rfl) (PDL.pd (Wf (Vc Vt (Vc Vt (Vc Vt (Vc Vt (Vc Vt Vn))))) (Vl (by decide)))) rfl
abbrev Qbb:List Str:=["_law_cell_here", "_law_prime", "_law_many"]
abbrev ZX:List Str:=["_law_script", "_law_k"]
abbrev Qkj:List Str:=["_law_cell_here", "_law_k", "_law_firsts"]
theorem Be {X:Cx} {ρ:List (Option D)} {a b:Expr} {p pos:Pos} {ns:List Int} {k:Nat} (G:PrD X.prog X.w X.K X.mg X.base "_law_cell" 1 ZX RCell) (hr:Room 1 X.A) (ha:PD X ρ a (scr ns)) (hb:PD X ρ b (.int k))
  (hg:Gl X "_law_cell" :=by rfl) (h1:starEach [a,b] X.env=[(false,eval a X.env),(false,eval b X.env)]:=by rfl) (h2:starEach [b] X.env=[(false,eval b X.env)]:=by rfl) :
  PD X ρ (.Call (.Name "_law_cell" p) [a,b] [] pos) (.int (cell ns k)) :=
 Jy G hr (Vc ha (Vc hb Vn h2) (by rw [h1,h2])) ⟨ns,k,rfl,rfl⟩ rfl hg (by decide) (by rw [h1,h2]) (by rw [h2];rfl)
def RNs (g:List Int->List Str):List D->List D->Prop:=fun ds es=> ∃ ns:List Int,ds=[scr ns]/\ns.length<=63/\es=(g ns).map .str
theorem Qow:(Str.ofString "pqrstu").length=6:=by decide +kernel
theorem Qrs:(Str.ofString "abcdef").length=6:=by decide +kernel
theorem Qsg:Vf ["_law_script"] ["_law_script"] (Vs Qeu):=⟨rfl,rfl,rfl,by decide +kernel,rfl,by decide +kernel,by decide +kernel⟩
theorem Qph (T:Txt K mg) (F:Fd K mg "_law_kinds" Qeu ["_law_script"]) (G1:PrD P w K mg base "_law_cell" 1 ZX RCell) (G2:PrD P w K mg base "_law_word" 2 Qkj RLWord):PrL P w K mg base "_law_kinds" 3 ["_law_script"] (RNs kinds):=by
 refine Qcq (N:=["_law_script"]) F Qsg (Q6 _) fun f cdv A outer s H E ds es hr hR _=> ?_
 obtain ⟨ns,rfl,_,rfl⟩:=hR;have e:(kinds ns).map D.str=(We 0 6).map (fun d=>match d with | .int j=> .str (word (cell ns 0) j.toNat "pqrstu") | d=>d):=by
  simp [We,kinds,Qo,QK]
 rw [e];refine Vz (Ga (Z6 rfl (Uf (n:=6) T.bRng Vi (by decide) (by decide)) (by rw [Yg];exact Vl (by decide)) fun d hd cl C s H ex=> ?_));obtain ⟨j,hj,rfl⟩:=Q3.mp hd;have hj':j < 6:=Wd.mp hj;refine Jy G2 hr (Vc (Be (k:=0) G1 (hr.mono (by decide)) (Vv 1 rfl) Vi) (Vc (Vv 0 rfl) (Vc Vt Vn))) ⟨cell ns 0,j, "pqrstu",by simp,by rw [Qow];exact hj',by rw [Qow];decide,by simp⟩
theorem Qel:Vf ["_law_script", "_law_many"] ["_law_script"] (Vs Qeo):=⟨rfl,rfl,rfl,by decide +kernel,rfl,by decide +kernel,by decide +kernel⟩
theorem Qny {X:Cx} {ρ:List (Option D)} {x:Str} {p0 p1 p2 p3 p4 p5 p6 p7 p8 p9 pa pb pc pd pe pz:Pos} {j0 j1 j2 j3 j4} {ns:List Int} (hns:ns.length<=63) (hl:X.mg "len" =none) (G1:PrD X.prog X.w X.K X.mg X.base "_law_cell" 1 ZX RCell) (G2:PrD X.prog X.w X.K X.mg X.base "_law_mix" 1 Qbb RMix) (hr:Room 1 X.A)
  (hs: ∀ p,PD X ρ (.Name x p) (scr ns)) (g1:Gl X "len" :=by rfl) (g2:Gl X "_law_mix" :=by rfl) (g3:Gl X "_law_cell" :=by rfl) :
  PB X ρ (.BoolOp .Or [.Compare (.Call (.Name "len" p0) [.Name x p1] [] p2) [.Gt] [.Constant (.int 63) j0 p3] p4,
   .Compare (.Call (.Name "_law_mix" p5) [.Call (.Name "_law_cell" p6) [.Name x p7,.Constant (.int 3) j1 p8] [] p9,.Constant (.int 9479) j2 pa,.Constant (.int 7) j3 pb] [] pc) [.Eq] [.Constant (.int 3) j4 pd] pe] pz)
   (decide (mix (cell ns 3) 9479 7=3)):=by
 have e:decide ((63:Int) < ((ns.map D.int).length:Nat))=false:=QA (by rw [Q0];omega);have h1:=Qht (pos:=p4) (Wb (p:=p0) (pos:=p2) hl (hs p1) BE (fun y e=>nomatch e) g1) (Vi (X:=X) (ρ:=ρ) (pos:=p3) (i:=63) (j:=j0));rw [e] at h1;have h2:=Ja9 (pos:=pz) h1 (fun _=>Qhp (pos:=pz) (Qhv (pos:=pe) (Yq (p:=p5) (pos:=pc) G2 hr (Be (k:=3) (p:=p6) (pos:=p9) G1 hr (hs p7) (Vi (j:=j1) (pos:=p8)) g3) (Vi (i:=9479) (j:=j2) (pos:=pa)) (Vi (i:=7) (j:=j3) (pos:=pb)) (by decide) (by decide) g2) (Vi (i:=3) (j:=j4) (pos:=pd))));rw [Qi4] at h2;exact Y3 h2
theorem Qp9 (T:Txt K mg) (F:Fd K mg "_law_words" Qeo ["_law_script"]) (G1:PrD P w K mg base "_law_cell" 1 ZX RCell) (G2:PrD P w K mg base "_law_word" 2 Qkj RLWord) (G3:PrD P w K mg base "_law_mix" 1 Qbb RMix):PrL P w K mg base "_law_words" 3 ["_law_script"] (RNs words):=by
 refine Qcq (N:=["_law_script", "_law_many"]) F Qel (by decide) fun f cdv A outer s H E ds es hr hR _=> ?_
 obtain ⟨ns,rfl,hns,rfl⟩:=hR;have hr1:=hr.mono (show 1<=2 by decide);have hw:Ge ns<=4:=by unfold Ge;split<;>omega
 refine Zn (Jf (i:=1) (d:= .int 3) Vi Qel.nd) ?_;refine Zn (m:=true) (τ1:=[.arg (scr ns),.any (.int (Ge ns))]) ?_ ?_
 ·refine JT (Qny hns T.bLen G1 G3 hr1 (fun p=>Vv 0 rfl)) (fun h=> ?_) (fun h=> ?_)
  ·have e:Ge ns=4:=Qk (Jx h);rw [e];exact Vz (Jf (i:=1) (d:= .int 4) Vi Qel.nd)
  ·have e:Ge ns=3:=Qn (B1 h);rw [e];exact JS
 ·have e:(words ns).map D.str=(We 0 (Ge ns)).map (fun d=>match d with | .int j=> .str (word (cell ns 1) j.toNat "abcdef") | d=>d):=by
   simp [We,words,Qo,QK]
  rw [e];have hi:=fun {X:Cx} {tg a p pos} (h1:X.mg "range" =none) (h2:PD X (dat [.arg (scr ns),.any (.int (Ge ns))]) a (.int (Ge ns))) (h3:Gl X "range") (h4)=>Uf (X:=X) (tg:=tg) (p:=p) (pos:=pos) h1 h2 (by omega) (by omega) h3 h4
  refine Vz (Ga (Z6 rfl (hi T.bRng (Vv 1 rfl) rfl rfl) (by rw [Yg];exact Vl (by omega)) fun d hd cl C s H ex=> ?_));obtain ⟨j,hj,rfl⟩:=Q3.mp hd;have hj':j < Ge ns:=Wd.mp hj;refine Jy G2 hr (Vc (Be (k:=1) G1 hr1 (Vv 1 rfl) Vi) (Vc (Vv 0 rfl) (Vc Vt Vn))) ⟨cell ns 1,j, "abcdef",by simp,by rw [Qrs];omega,by rw [Qrs];decide,by simp⟩
def RSize:List D->D->Prop:=fun ds d=> ∃ (ns:List Int) (k:Nat),ds=[scr ns,.int k]/\k < 6/\d= .int (size ns k:Nat)
theorem Qwg:Vf ["_law_script", "_law_k"] ["_law_script", "_law_k"] (Vs Qk2):=⟨rfl,rfl,rfl,by decide +kernel,rfl,by decide +kernel,by decide +kernel⟩
theorem Qtf (T:Txt K mg) (F:Fd K mg "_law_size" Qk2 ZX) (G1:PrD P w K mg base "_law_cell" 1 ZX RCell) (G3:PrD P w K mg base "_law_mix" 1 Qbb RMix):PrD P w K mg base "_law_size" 2 ZX RSize:=by
 refine Zi (N:=["_law_script", "_law_k"]) F Qwg (Q6 _) fun f cdv A outer s H E ds d hr hR _=> ?_
 obtain ⟨ns,k,rfl,hk,hd⟩:=hR;have e:((size ns k:Nat):Int)=(([2,1,2,1,0,2]:List Int).getD k 0)+(if decide (mix (cell ns 1+k) 9923 7=0)=true then 1 else 0):=by
  unfold size;have e1:((([2,1,2,1,0,2]:List Nat).getD k 0:Nat):Int)=([2,1,2,1,0,2]:List Int).getD k 0:=by
   clear hd hr
   match k,hk with
   | 0,_=>rfl
   | 1,_=>rfl
   | 2,_=>rfl
   | 3,_=>rfl
   | 4,_=>rfl
   | 5,_=>rfl
  rw [Int.natCast_add,e1]
  by_cases h:mix (cell ns 1+k) 9923 7=0<;>simp [h]
 rw [e] at hd;subst hd;have hix:dAt (.lst [.int 2,.int 1,.int 2,.int 1,.int 0,.int 2]) k=some (.int (([2,1,2,1,0,2]:List Int).getD k 0)):=by
  show atI ([.int 2,.int 1,.int 2,.int 1,.int 0,.int 2]:List D) k=_
  match k,hk with
  | 0,_=>exact WM rfl
  | 1,_=>exact WM rfl
  | 2,_=>exact WM rfl
  | 3,_=>exact WM rfl
  | 4,_=>exact WM rfl
  | 5,_=>exact WM rfl
 refine Vz (Jv (Wi (QR (da:= .lst [.int 2,.int 1,.int 2,.int 1,.int 0,.int 2]) (PDL.pd (Wf (Vc Vi (Vc Vi (Vc Vi (Vc Vi (Vc Vi (Vc Vi Vn)))))) (Vl (by decide)))) (Vv 1 rfl) hix (fun x e=>nomatch e)) (Qy9 T.bInt (Qqz (Yq G3 hr (Wi (Be (k:=1) G1 hr (Vv 0 rfl) Vi) (Vv 1 rfl)) Vi Vi (by decide) (by decide)) Vi))))
def RSome:List D->D->Prop:=fun ds d=> ∃ (c:Int) (ss:List Str),ds=[.int c,.lst (ss.map .str)]/\ss≠[]/\d= .str (pick c ss)
abbrev Br:List Str:=["_law_cell_here", "_law_things"]
theorem Qwf:Vf Br Br (Vs Qk1):=⟨rfl,rfl,rfl,by decide +kernel,rfl,by decide +kernel,by decide +kernel⟩
theorem Qbq {α β:Type} (f:α->β) (l:List α) (i:Nat) (d:α):(l.map f).getD i (f d)=f (l.getD i d):=by
 rw [Qm,Qm,Q8];cases l[i]? <;>rfl
theorem Qte (T:Txt K mg) (F:Fd K mg "_law_some" Qk1 Br) (G3:PrD P w K mg base "_law_mix" 1 Qbb RMix):PrD P w K mg base "_law_some" 2 Br RSome:=by
 refine Zi (N:=Br) F Qwf (Q6 _) fun f cdv A outer s H E ds d hr hR _=> ?_
 obtain ⟨c,ss,rfl,hne,rfl⟩:=hR;have hl:0 < ss.length:=ZT.mpr hne;have hl':(0:Int) < ((ss.map D.str).length:Nat):=by rw [Q0];omega
 have h1:=WQ c 9907 hl';have h0:=JP c 9907 hl';refine Vz (Jv (QR (Vv 1 rfl) (Yq G3 hr (Vv 0 rfl) Vi (Wb T.bLen (Vv 1 rfl) BE (fun y e=>nomatch e)) (by decide) hl') ?_));show atI (ss.map D.str) _=_;rw [BH (D.str "") h0 h1,Qbq,Q0];rfl
abbrev Qdb:List Str:=["_law_script", "_law_cell_here", "_law_head", "_law_free"]
abbrev Qvg:List Str:=["_law_script", "_law_cell_here", "_law_head", "_law_free", "_law_words_here", "_law_kinds_here", "_law_found", "_law_k", "_law_kind", "_law_terms", "_law_j"]
theorem YO:Vf Qvg Qdb (Vs Qk9):=⟨rfl,rfl,rfl,by decide +kernel,rfl,by decide +kernel,by decide +kernel⟩
def W2 (a:At):D:=(Li.mk true a).d
theorem Qns (a:At):W2 a= .tup [.str "yes",.tup [.str a.k,.tup (a.ts.map .str)]]:=rfl
theorem Qnt (a:At):LF (W2 a)=true:=by
 rw [Qns];simp only [Qjn,LFs,QT,Y0,Bool.and_true];exact QU (fun _=>QT) _
def RBody:List D->List D->Prop:=fun ds es=> ∃ (ns:List Int) (c:Int) (head:Nat) (free:Bool),ds=[scr ns,.int c,.int head,.bl free]/\ns.length<=63/\head < 6/\es=(body ns c head free).map W2
abbrev from7 (ns:List Int):List Str:=["X", "Y", "Z", "X", "Y",(words ns).getD 0 "",(words ns).getD 1 ""]
theorem Uq (l:List Str):LFs (l.map D.str)=true:=QU (fun _=>QT) _
theorem UU {α:Type} (f:Nat->α) (n:Nat):(List.range (n+1)).map f=(List.range n).map f++[f n]:=by
 rw [List.range_succ,QE];rfl
theorem wix (ns:List Int) {k:Nat} (h:k < 3):dAt (.lst ((words ns).map D.str)) k=some (.str ((words ns).getD k "")):=by
 have hl:k < (words ns).length:=by rcases Y5 ns with z | z<;>omega
 show atI ((words ns).map D.str) k=_;rw [BH (D.str "") (by omega) (by rw [Q0];omega),Qbq]
 simp
theorem kix (ns:List Int) {k:Nat} (h:k < 6):dAt (.lst ((kinds ns).map D.str)) k=some (.str (kd ns k)):=by
 show atI ((kinds ns).map D.str) k=_;rw [BH (D.str "") (by omega) (by rw [Q0,Qmu];omega),Qbq];simp [kd]
set_option maxHeartbeats 1000000 in
theorem Qto (T:Txt K mg) (F:Fd K mg "_law_body" Qk9 Qdb) (G3:PrD P w K mg base "_law_mix" 1 Qbb RMix) (G4:PrL P w K mg base "_law_words" 3 ["_law_script"] (RNs words)) (G5:PrL P w K mg base "_law_kinds" 3 ["_law_script"] (RNs kinds))
  (G6:PrD P w K mg base "_law_size" 2 ZX RSize) (G7:PrD P w K mg base "_law_some" 2 Br RSome):PrL P w K mg base "_law_body" 4 Qdb RBody:=by
 refine Qcq (N:=Qvg) F YO (by decide) fun f cdv A outer s H E ds es hr hR _=> ?_
 obtain ⟨ns,c,head,free,rfl,hns,hh,rfl⟩:=hR;have hr1:=hr.mono (show 1<=3 by decide);have hr2:=hr.mono (show 2<=3 by decide);have hm1:=WQ c 9901 (m:=4) (by omega);have hm0:=JP c 9901 (m:=4) (by omega);refine Zn (W5 (i:=4) (ZS G4 hr (Vc (Vv 0 rfl) Vn) ⟨ns,rfl,hns,rfl⟩) (Uq _) YO.nd) ?_;refine Zn (W5 (i:=5) (ZS G5 hr (Vc (Vv 0 rfl) Vn) ⟨ns,rfl,hns,rfl⟩) (Uq _) YO.nd) ?_;refine Zn (W5 (i:=6) (Wf Vn (Vl (by decide))) rfl YO.nd) ?_;refine Zn (m:=false) (Qpt (j:=7) (k:=mix c 9901 4) (m:=false) (fun i=>[.arg (scr ns),.arg (.int c),.arg (.int head),.arg (.bl free),.own ((words ns).map .str),.own ((kinds ns).map .str),.own ((List.range i).map fun k=>W2 (Zd ns c head free k)),.no,.no,.no,.no])
  Qw rfl T.bRng (Yq G3 hr1 (Vv 1 rfl) Vi Vi (by decide) (by decide)) (by omega) (by omega) rfl (fun i hi=>⟨false,?_,fun h=>nomatch h⟩) YO.nd) ?_
 ·-- a turn
  have hi4:i < 4:=by omega
  generalize hfd:((List.range i).map fun k=>W2 (Zd ns c head free k))=found;have hfl:found.length<=4:=by rw [<- hfd,Q0,Wl];omega
  generalize hak:(if free=true then mix (c+31 * (i:Int)) 9887 6 else mix (c+31 * (i:Int)) 9887 ((head:Int)+1))=aK;have hk0:0<=aK:=by
   rw [<- hak];split
   ·exact JP _ _ (by omega)
   ·exact JP _ _ (by omega)
  have hbk:=OF c hh free i;refine WG (m:=false) (τ1:=[.arg (scr ns),.arg (.int c),.arg (.int head),.arg (.bl free),.own ((words ns).map .str),.own ((kinds ns).map .str),.own (found++[W2 (Zd ns c head free i)]),.any (.int i),.any (.int (WD c head free i:Nat)),.own ((Zd ns c head free i).ts.map .str),.no]) ?_ ?_ (fun h=>nomatch h)
  ·refine Wa (Jf (i:=8) (d:= .int (mix (c+31 * (i:Int)) 9887 ((head:Int)+1))) (Yq G3 hr1 (Wi (Vv 1 rfl) (OA Vi (Vv 7 rfl) (.inl ⟨by decide,by decide⟩))) Vi (Wi (Vv 2 rfl) Vi) (by decide) (by omega)) YO.nd) ?_;refine Wa (τ1:=[.arg (scr ns),.arg (.int c),.arg (.int head),.arg (.bl free),.own ((words ns).map .str),.own ((kinds ns).map .str),.own found,.any (.int i),.any (.int aK),.no,.no]) (JT (k:=free) (Yr (Vv 3 rfl)) (fun h=> ?_) (fun h=> ?_)) ?_
   ·subst h;have e:aK=mix (c+31 * (i:Int)) 9887 6:=by rw [<- hak];rfl
    rw [e];exact Vz (Jf (i:=8) (Yq G3 hr1 (Wi (Vv 1 rfl) (OA Vi (Vv 7 rfl) (.inl ⟨by decide,by decide⟩))) Vi Vi (by decide) (by decide)) YO.nd)
   ·subst h;have e:aK=mix (c+31 * (i:Int)) 9887 ((head:Int)+1):=by rw [<- hak];rfl
    rw [e];exact JS
   ·refine Wa (τ1:=[.arg (scr ns),.arg (.int c),.arg (.int head),.arg (.bl free),.own ((words ns).map .str),.own ((kinds ns).map .str),.own found,.any (.int i),.any (.int (WD c head free i:Nat)),.no,.no])
     (JT (Y3 (WE (Qhv (Vv 7 rfl) Vi) (fun _=>WE (Qhv (Vv 8 rfl) (Vv 2 rfl)) (fun _=>Ze (Qhv (Yq G3 hr1 (Vv 1 rfl) Vi Vi (by decide) (by decide)) Vi))))) (fun h=> ?_) (fun h=> ?_)) ?_
    ·have e:WD c head free i=0:=by
      simp only [Qv,QD] at h;obtain ⟨h1,h2,h3⟩:=h;unfold WD;simp only;rw [Qk];refine ⟨by omega,?_,h3⟩;have e2:(if free=true then (mix (c+31 * (i:Int)) 9887 6).toNat else (mix (c+31 * (i:Int)) 9887 ((head:Int)+1)).toNat)=aK.toNat:=by rw [<- hak];split<;>rfl
      rw [e2,h2];omega
     rw [e];exact Vz (Jf (i:=8) (d:= .int 0) Vi YO.nd)
    ·have e:((WD c head free i:Nat):Int)=aK:=by
      simp only [Bool.and_eq_false_iff,Yu] at h;unfold WD;simp only;have e2:(if free=true then (mix (c+31 * (i:Int)) 9887 6).toNat else (mix (c+31 * (i:Int)) 9887 ((head:Int)+1)).toNat)=aK.toNat:=by rw [<- hak];split<;>rfl
      rw [e2,Qn]
      ·omega
      ·rintro ⟨h1,h2,h3⟩;rcases h with h | h | h
       ·exact h (by omega)
       ·exact h (by omega)
       ·exact h h3
     rw [e];exact JS
    ·generalize hq:WD c head free i=q at hbk;have ets:(Zd ns c head free i).ts=(List.range (size ns q)).map fun (j:Nat)=>pick (c+13 * i+5 * j) (from7 ns):=by rw [<- hq];rfl
     have ek:(Zd ns c head free i).k=kd ns q:=by rw [<- hq];rfl
     have hsz:=GB ns q;refine Wa (W5 (i:=9) (ds:=[]) (Wf Vn (Vl (by decide))) rfl YO.nd) ?_;refine BZ (m:=false) (Qpt (j:=10) (k:=(size ns q:Nat)) (m:=false) (fun jj=>[.arg (scr ns),.arg (.int c),.arg (.int head),.arg (.bl free),.own ((words ns).map .str),.own ((kinds ns).map .str),.own found,.any (.int i),.any (.int (q:Nat)),.own ((List.range jj).map fun (j:Nat)=> .str (pick (c+13 * i+5 * j) (from7 ns))),.no])
      Qw rfl T.bRng (Jy G6 hr2 (Vc (Vv 0 rfl) (Vc (Vv 8 rfl) Vn)) ⟨ns,q,rfl,hbk,rfl⟩) (by omega) (by omega) rfl (fun jj hjj=>⟨false,?_,fun h=>nomatch h⟩) YO.nd) ?_
     ·rw [Zz] at hjj;refine WG (m:=false) (Vz (Zo (i:=9) (d:= .str (pick (c+13 * i+5 * jj) (from7 ns))) rfl (Jy G7 hr2 (Vc (Wi (Wi (Vv 1 rfl) (OA Vi (Vv 7 rfl) (.inl ⟨by decide,by decide⟩))) (OA Vi (Vv 10 rfl) (.inl ⟨by decide,by decide⟩)))
       (Vc (PDL.pd (Wf (Vc Vt (Vc Vt (Vc Vt (Vc Vt (Vc Vt (Vc (QR (Vv 4 rfl) Vi (wix ns (k:=0) (by decide))) (Vc (QR (Vv 4 rfl) Vi (wix ns (k:=1) (by decide))) Vn))))))) (Vl (by simp)))) Vn)) ⟨_,from7 ns,rfl,by simp,rfl⟩) QT (AL.h ⟨WN,WN,WN,trivial⟩) ?_)) ?_ (fun h=>nomatch h)
      ·rw [Q0,Wl];exact Qr (Qr hjj hsz) (Vl (by decide))
      ·rw [UU];exact WkI.wk (.keep (.keep (.keep (.keep (.keep (.keep (.keep (.keep (.keep (.keep (.no .nil)))))))))))
     ·rw [Zz];have e1:((List.range (size ns q)).map fun (j:Nat)=>D.str (pick (c+13 * i+5 * j) (from7 ns)))=(Zd ns c head free i).ts.map D.str:=by rw [ets,Qo];rfl
      rw [e1];refine Vz (Zo (i:=6) (d:=W2 (Zd ns c head free i)) rfl ?_ (Qnt _) (AL.h ⟨WN,WN,trivial⟩) (QZ hfl (by rw [QP];decide)));rw [Qns,ek];exact Vp (Vc Vt (Vc (Vp (Vc (QR (Vv 5 rfl) (Vv 8 rfl) (kix ns hbk)) (Vc (Wg T.bTup (Vv 9 rfl) (.inl rfl)) Vn)) (Vl (by simp))) Vn)) (Vl (by simp))
  ·rw [UU,hfd];exact WkI.wk (.keep (.keep (.keep (.keep (.keep (.keep (.keep (.no (.no (.no (.no .nil)))))))))))
 ·have e:(body ns c head free).map W2=(List.range (mix c 9901 4).toNat).map fun k=>W2 (Zd ns c head free k):=by
   rw [body,Qo];rfl
  rw [e];exact Vz (G0 (i:=6) rfl)
abbrev Qq4:List Str:=["_law_body_here", "_law_found", "_law_literal", "_law_term"]
theorem Qa0:Vf Qq4 ["_law_body_here"] (Vs Qew):=⟨rfl,rfl,rfl,by decide +kernel,rfl,by decide +kernel,by decide +kernel⟩
def RBound:List D->List D->Prop:=fun ds es=> ∃ as:List At,ds=[.lst (as.map W2)]/\as.length<=4/\(∀ a∈as,a.ts.length<=3)/\es=(bound as).map .str
theorem Qrp (acc:List Str) (t:Str):(YA acc t).length<=acc.length+1:=by
 unfold YA;split
 ·simp
 ·omega
theorem Od: ∀ (ts acc:List Str),(ts.foldl YA acc).length<=acc.length+ts.length
 | [],acc=>by simp
 | t::ts,acc=>by
  rw [Jl,QC];have h1:=Od ts (YA acc t);have h2:=Qrp acc t;omega
theorem BG: ∀ (as:List At) (acc:List Str),(∀ a∈as,a.ts.length<=3)->(as.foldl (fun acc a=>a.ts.foldl YA acc) acc).length<=acc.length+3 * as.length
 | [],acc,_=>by simp
 | a::as,acc,h=>by
  rw [Jl,QC];have h1:=BG as (a.ts.foldl YA acc) fun b hb=>h b (Q9 _ hb)
  have h2:=Od a.ts acc;have h3:=h a Q7;omega
theorem Oh {as:List At} (h: ∀ a∈as,a.ts.length<=3):(bound as).length<=3 * as.length:=by
 have:=BG as [] h;simpa [RH.bound] using this
theorem Qji {as:List At} {i:Nat} {a:At} (h:as[i]? =some a):bound (as.take (i+1))=a.ts.foldl YA (bound (as.take i)):=by
 rw [QJ,h,RH.bound,RH.bound,Wm];rfl
theorem Qj5 {ts:List Str} {i:Nat} {t:Str} (acc:List Str) (h:ts[i]? =some t):(ts.take (i+1)).foldl YA acc=YA ((ts.take i).foldl YA acc) t:=by
 rw [QJ,h,Wm];rfl
theorem Qpj (F:Fd K mg "_law_bound" Qew ["_law_body_here"]):PrL P w K mg base "_law_bound" 1 ["_law_body_here"] RBound:=by
 refine Qcq (N:=Qq4) F Qa0 (by decide) fun f cdv A outer s H E ds es hr hR _=> ?_
 obtain ⟨as,rfl,hal,hts,rfl⟩:=hR;refine Zn (W5 (i:=1) (Wf Vn (Vl (by decide))) rfl Qa0.nd) ?_;refine Zn (m:=false) (Qxg (j:=2) (k:=0) (ds:=as.map W2) (m:=false) (fun i=>[.arg (.lst (as.map W2)),.own ((bound (as.take i)).map .str),.no,.no]) Qw rfl rfl rfl (fun i d hi=>⟨false,?_,fun h=>nomatch h⟩) Qa0.nd) ?_
 ·obtain ⟨a,ha,rfl⟩: ∃ a,as[i]? =some a/\W2 a=d:=by
   rw [Q8] at hi;exact JY.mp hi
  have hmem:=Q4 ha;have h3:=hts a hmem;have hbl:(bound (as.take i)).length<=12:=by
   have h1:=Oh (as:=as.take i) fun b hb=>hts b (QW hb)
   have h2:(as.take i).length<=4:=Qz (by rw [Qj];omega) hal;omega
  generalize hacc:bound (as.take i)=acc at hbl;refine WG (m:=false) (Vz (Qps (j:=3) (ds:=a.ts.map .str) (m:=false) (fun jj=>[.arg (.lst (as.map W2)),.own (((a.ts.take jj).foldl YA acc).map .str),.arg (W2 a),.no]) Qw rfl
   (QR (da:= .tup [.str a.k,.tup (a.ts.map .str)]) (QR (Vv 2 rfl) Vi at1) Vi at1) (Uq _) rfl (fun jj d hj=>⟨false,?_,fun h=>nomatch h⟩) Qa0.nd)) ?_ (fun h=>nomatch h)
  ·obtain ⟨t,ht,rfl⟩: ∃ t,a.ts[jj]? =some t/\D.str t=d:=by
    rw [Q8] at hj;exact JY.mp hj
   have hfl:((a.ts.take jj).foldl YA acc).length<=15:=by
    have h1:=Od (a.ts.take jj) acc;have h2:(a.ts.take jj).length<=3:=Qz (by rw [Qj];omega) h3;omega
   rw [Qj5 acc ht];generalize hac:(a.ts.take jj).foldl YA acc=ac at hfl;refine Vz (JT (Y3 (WE (Qvr (ss:=XYZ) (Vv 3 rfl) (PDL.pd (Wf (Vc Vt (Vc Vt (Vc Vt Vn))) (Vl (by decide)))) (.inr rfl)) (fun _=>Ze (Qhs (ss:=ac) (Vv 3 rfl) (Vv 1 rfl) (.inr rfl))))) (fun h=> ?_) (fun h=> ?_))
   ·have e:YA ac t=ac++[t]:=by
     unfold YA;rw [Qk];simpa using h
    rw [e,QE];refine WG (m:=false) (Vz (Zo (i:=1) (d:= .str t) rfl (Vv 3 rfl) QT (AL.h ⟨QT,trivial⟩) (by rw [Q0];exact QZ hfl (by rw [QP];decide)))) ?_ (fun h=>nomatch h);exact WkI.wk (.keep (.keep (.keep (.no .nil))))
   ·have e:YA ac t=ac:=by
     unfold YA;rw [Qn];intro hc;rw [QM hc.1,QA hc.2] at h;cases h
    rw [e];exact WG JS (WkI.wk (.keep (.keep (.keep (.no .nil))))) (fun h=>nomatch h)
  ·rw [Q0,QF,Qji ha,hacc];exact WkI.wk (.keep (.keep (.no (.no .nil))))
 ·rw [Q0,QF];exact Vz (G0 (i:=1) rfl)
theorem Ja5 {X:Cx} {ρ:List (Option D)} {a:Expr} {i:Int} {pos:Pos} (h:PD X ρ a (.int i)):PD X ρ (.UnaryOp .USub a pos) (.int (-i)) :=
 Y2 (Qza Qw3 h.pe) fun σ H Q he q=>⟨he,fun v H1 s1 i1=>⟨i,WY i1,q _ H1 s1 (Zq _)⟩⟩
theorem Ow {α:Type}: ∀ (l:List α) (k:Nat) (x:α),k<=l.length->l.insertIdx k x=l.take k++x::l.drop k
 | l,0,x,_=>by simp
 | [],k+1,x,h=>by simp at h
 | a::l,k+1,x,h=>by
  rw [List.insertIdx_succ_cons,Ow l k x (by simpa using h)];rfl
theorem lastix {l:List Str} (h:l≠[]):dAt (.lst (l.map D.str)) (-1)=some (.str (l.getLastD "")):=by
 show atI (l.map D.str) (-1)=_;obtain ⟨r,x,rfl⟩: ∃ r x,l=r++[x]:=⟨l.dropLast,l.getLast h,(List.dropLast_concat_getLast h).symm⟩;rw [QE];have:=Qrj (r.map D.str) (D.str x);simpa using this
abbrev BW:List Str:=["_law_script", "_law_cell_here", "_law_free"]
abbrev Qq2:List Str:=["_law_script", "_law_cell_here", "_law_free", "_law_head", "_law_body_here", "_law_terms", "_law_kind", "_law_some_here"]
theorem Ut:Vf Qq2 BW (Vs Qet):=⟨rfl,rfl,rfl,by decide +kernel,rfl,by decide +kernel,by decide +kernel⟩
def RLRule:List D->D->Prop:=fun ds d=> ∃ (ns:List Int) (c:Int) (free:Bool),ds=[scr ns,.int c,.bl free]/\ns.length<=63/\d=(rule ns c free).d
theorem Qfu {ns:List Int} {c:Int} {head:Nat} {free:Bool}: ∀ a∈body ns c head free,a.ts.length<=3:=by
 intro a ha;obtain ⟨k,_,rfl⟩:=Q3.mp ha;exact Qcg ..
theorem Qcp (ns:List Int) (c:Int) (free:Bool):(Jk ns c free).length<=11:=by
 unfold Jk;rw [Ql];have h1:=Oh (as:=body ns c (QN c) free) Qfu;have h2:=Qcf ns c (QN c) free
 simp
 omega
theorem Qzr (l:Li):LF l.d=true:=by
 show LF (.tup [.str _,.tup [.str _,.tup (l.a.ts.map .str)]])=true;simp only [Qjn,LFs,QT,Y0,Bool.and_true];exact Uq _
theorem Qjq (as:List At):as.map W2=(as.map fun a=>Li.mk true a).map Li.d:=by
 rw [Qo];rfl
theorem Qgh (f:Nat->Int) (n:Nat) (l:List Str):((List.range n).map fun (j:Nat)=>pick (f j) l).map D.str=(We 0 n).map (fun d=>match d with | .int j=> .str (pick (f j.toNat) l) | d=>d):=by
 simp [We,Qo,QK]
set_option maxHeartbeats 1000000 in
theorem Qpf (T:Txt K mg) (F:Fd K mg "_law_rule" Qet BW) (G3:PrD P w K mg base "_law_mix" 1 Qbb RMix) (G4:PrL P w K mg base "_law_words" 3 ["_law_script"] (RNs words)) (G5:PrL P w K mg base "_law_kinds" 3 ["_law_script"] (RNs kinds))
  (G6:PrD P w K mg base "_law_size" 2 ZX RSize) (G7:PrD P w K mg base "_law_some" 2 Br RSome) (G8:PrL P w K mg base "_law_body" 4 Qdb RBody) (G9:PrL P w K mg base "_law_bound" 1 ["_law_body_here"] RBound):PrD P w K mg base "_law_rule" 5 BW RLRule:=by
 refine Zi (N:=Qq2) F Ut (by decide) fun f cdv A outer s H E ds d hr hR _=> ?_
 obtain ⟨ns,c,free,rfl,hns,rfl⟩:=hR;have hr1:=hr.mono (show 1<=4 by decide);have hr2:=hr.mono (show 2<=4 by decide);have hr3:=hr.mono (show 3<=4 by decide);have hh:=Uc c;have hm0:=JP c 9871 (m:=6) (by omega);have ehd:mix c 9871 6=(QN c:Nat):=by unfold QN;omega
 have hne:words ns≠[]:=fun h=>by rcases Y5 ns with z | z<;>simp [h] at z
 have hbl:=Qcf ns c (QN c) free;have htl:=Qcp ns c free;have htn:=Uw ns c free;refine Vq (τ1:=[.arg (scr ns),.arg (.int c),.arg (.bl free),.any (.int (QN c:Nat)),.no,.no,.no,.no]) (m:=true) ?_ ?_
 ·rw [<- ehd];exact Jf (i:=3) (Yq G3 hr1 (Vv 1 rfl) Vi Vi (by decide) (by decide)) Ut.nd
 refine Vq (W5 (i:=4) (ZS G8 hr (Vc (Vv 0 rfl) (Vc (Vv 1 rfl) (Vc (Vv 3 rfl) (Vc (Vv 2 rfl) Vn)))) ⟨ns,c,QN c,free,rfl,hns,hh,rfl⟩) (QU Qnt _) Ut.nd) ?_;refine Vq (m:=true) (τ1:=[.arg (scr ns),.arg (.int c),.arg (.bl free),.any (.int (QN c:Nat)),.own ((body ns c (QN c) free).map W2),.own ((Jk ns c free).map .str),.no,.no]) ?_ ?_
 ·have e:(Jk ns c free).map D.str=(RH.bound (body ns c (QN c) free)).map D.str++[.str ((words ns).getD 0 ""),.str ((words ns).getLastD "")]:=by
   unfold Jk;rw [QE];rfl
  rw [e];have hbo:=Oh (as:=body ns c (QN c) free) Qfu;refine W5 (i:=5) (Qc1 (PDL.pd (ZS G9 hr1 (Vc (Vv 4 rfl) Vn) ⟨_,rfl,by omega,Qfu,rfl⟩)) (PDL.pd (Wf (Vc (QR (PDL.pd (ZS G4 hr3 (Vc (Vv 0 rfl) Vn) ⟨ns,rfl,hns,rfl⟩)) Vi (wix ns (k:=0) (by decide))) (Vc (QR (PDL.pd (ZS G4 hr3 (Vc (Vv 0 rfl) Vn) ⟨ns,rfl,hns,rfl⟩)) (Ja5 Vi) (lastix hne)) Vn)) (Vl (by simp)))) ?_) ?_ Ut.nd
  ·rw [Q0];exact Vl (by simp;omega)
  ·rw [Yt,Uq];simp [LFs,QT]
 refine Vq (m:=false) (τ1:=[.arg (scr ns),.arg (.int c),.arg (.bl free),.any (.int (QN c:Nat)),.own ((WA ns c free).map Li.d),.own ((Jk ns c free).map .str),.no,.no])
  (JT (Y3 (WE (B0 (Yr (Vv 2 rfl))) (fun _=>WE (Qht (Vv 3 rfl) Vi) (fun _=>WE (Qnf (Wb T.bLen (Vv 4 rfl) BE (fun y e=>nomatch e)) Vi) (fun _=>Ze (Qhv (Yq G3 hr1 (Vv 1 rfl) Vi Vi (by decide) (by decide)) Vi)))))) (fun h=> ?_) (fun h=> ?_)) ?_
 ·have hn:Gh ns c free=true:=by
   simp only [Qv,QD,Q0] at h;unfold Gh;simp only [Qv,QD];exact ⟨⟨⟨h.1,by omega⟩,by omega⟩,h.2.2.2⟩
  have h0:=Qbp hn;have hk0:=JP c 9857 (m:=QN c) (by omega);have ekd:mix c 9857 (QN c:Nat)=(Z5 c:Nat):=by unfold Z5;omega
  have hkl:=Qdd c h0;have hsz:=GB ns (Z5 c);have hi0:=JP c 9851 (m:=((body ns c (QN c) free).map W2).length+1) (by omega);have hi1:=WQ c 9851 (m:=((body ns c (QN c) free).map W2).length+1) (by omega);have erb:(WA ns c free).map Li.d=((body ns c (QN c) free).map W2).take (mix c 9851 (((body ns c (QN c) free).map W2).length+1)).toNat++(⟨false,Bt ns c free⟩:Li).d::((body ns c (QN c) free).map W2).drop (mix c 9851 (((body ns c (QN c) free).map W2).length+1)).toNat:=by
   unfold WA;simp only;rw [Qk hn,Q0,Ow _ _ _ (by rw [Q0] at hi1 ⊢; omega),Qjq,QE,Qp,JL,JV,Q0,Q0]
  rw [erb];refine WG (m:=false) (τ1:=[.arg (scr ns),.arg (.int c),.arg (.bl free),.any (.int (QN c:Nat)),.own (((body ns c (QN c) free).map W2).take (mix c 9851 (((body ns c (QN c) free).map W2).length+1)).toNat++(⟨false,Bt ns c free⟩:Li).d::((body ns c (QN c) free).map W2).drop (mix c 9851 (((body ns c (QN c) free).map W2).length+1)).toNat),.own ((Jk ns c free).map .str),.any (.int (Z5 c:Nat)),.own ((Bt ns c free).ts.map .str)]) ?_ (WkI.wk (.keep (.keep (.keep (.keep (.keep (.keep (.no (.no .nil))))))))) (fun h=>nomatch h);refine Wa (τ1:=[.arg (scr ns),.arg (.int c),.arg (.bl free),.any (.int (QN c:Nat)),.own ((body ns c (QN c) free).map W2),.own ((Jk ns c free).map .str),.any (.int (Z5 c:Nat)),.no]) ?_ ?_
  ·rw [<- ekd];exact Jf (i:=6) (Yq G3 hr1 (Vv 1 rfl) Vi (Vv 3 rfl) (by decide) (by omega)) Ut.nd
  refine Wa (τ1:=[.arg (scr ns),.arg (.int c),.arg (.bl free),.any (.int (QN c:Nat)),.own ((body ns c (QN c) free).map W2),.own ((Jk ns c free).map .str),.any (.int (Z5 c:Nat)),.own ((Bt ns c free).ts.map .str)]) ?_ ?_
  ·have e:(Bt ns c free).ts.map D.str=(We 0 (size ns (Z5 c))).map (fun d=>match d with | .int j=> .str (pick (c+3+j.toNat) (Jk ns c free)) | d=>d):=Qgh (fun j=>c+3+j) _ _;rw [e];refine Qbc (i:=7) (by rw [<- e];exact Uq _) Ut.nd rfl (Uf (n:=(size ns (Z5 c):Nat)) T.bRng (Jy G6 hr2 (Vc (Vv 0 rfl) (Vc (Vv 6 rfl) Vn)) ⟨ns,_,rfl,hkl,rfl⟩) (by omega) (by omega)) (by rw [Yg];exact Vl (by omega)) fun d hd cl C s H ex=> ?_
   obtain ⟨j,hj,rfl⟩:=Q3.mp hd;exact Jy G7 hr2 (Vc (Wi (Wi (Vv 2 rfl) Vi) (Vv 0 rfl)) (Vc (Vv 6 rfl) Vn)) ⟨c+3+j,Jk ns c free,by simp,htn,by simp⟩
  ·refine Vz (Qpr (i:=4) (k:=mix c 9851 (((body ns c (QN c) free).map W2).length+1)) (d:=(⟨false,Bt ns c free⟩:Li).d) rfl (Yq G3 hr1 (Vv 1 rfl) Vi (Wi (Wb T.bLen (Vv 4 rfl) BE (fun y e=>nomatch e)) Vi) (by decide) (by omega)) ?_ (Qzr _) (AL.h ⟨WN,WN,trivial⟩) hi0 (by omega) (by rw [Q0];exact QZ hbl (by rw [QP];decide)));show PD _ _ _ (.tup [.str "no",.tup [.str (kd ns (Z5 c)),.tup ((Bt ns c free).ts.map .str)]]);exact Vp (Vc Vt (Vc (Vp (Vc (QR (PDL.pd (ZS G5 hr3 (Vc (Vv 0 rfl) Vn) ⟨ns,rfl,hns,rfl⟩)) (Vv 6 rfl) (kix ns hkl)) (Vc (Wg T.bTup (Vv 7 rfl) (.inl rfl)) Vn)) (Vl (by simp))) Vn)) (Vl (by simp))
 ·have hn:Gh ns c free=false:=by
   cases hx:Gh ns c free with
   | false=>rfl
   | true =>
    exfalso;unfold Gh at hx;simp only [Qv,QD] at hx;obtain ⟨⟨⟨h1,h2⟩,h3⟩,h4⟩:=hx;rw [h1,QM (show (0:Int) < (QN c:Nat) by omega),QM (show (((List.map W2 (body ns c (QN c) free)).length:Nat):Int) < 4 by rw [Q0];omega),QM h4] at h;cases h
  have erb:(WA ns c free).map Li.d=(body ns c (QN c) free).map W2:=by
   unfold WA;simp only;rw [hn,Qjq];rfl
  rw [erb];exact WG JS (Wk.refl _) (fun h=>nomatch h)
 ·have hsz:=GB ns (QN c);have hrl:=Uy ns c free;refine Vq (m:=true) (τ1:=[.arg (scr ns),.arg (.int c),.arg (.bl free),.any (.int (QN c:Nat)),.own ((WA ns c free).map Li.d),.own ((Jk ns c free).map .str),.no,.own ((rule ns c free).h.ts.map .str)]) ?_ ?_
  ·have e:(rule ns c free).h.ts.map D.str=(We 0 (size ns (QN c))).map (fun d=>match d with | .int j=> .str (pick (c+17 * (j.toNat:Nat)) (Jk ns c free)) | d=>d):=Qgh (fun j=>c+17 * j) _ _;rw [e];refine Qbc (i:=7) (by rw [<- e];exact Uq _) Ut.nd rfl (Uf (n:=(size ns (QN c):Nat)) T.bRng (Jy G6 hr2 (Vc (Vv 0 rfl) (Vc (Vv 3 rfl) Vn)) ⟨ns,_,rfl,hh,rfl⟩) (by omega) (by omega)) (by rw [Yg];exact Vl (by omega)) fun d hd cl C s H ex=> ?_
   obtain ⟨j,hj,rfl⟩:=Q3.mp hd;exact Jy G7 hr2 (Vc (Wi (Vv 2 rfl) (OA Vi (Vv 0 rfl) (.inl ⟨by decide,by decide⟩))) (Vc (Vv 6 rfl) Vn)) ⟨c+17 * j,Jk ns c free,by simp,htn,by simp⟩
  ·refine Vz (Jv ?_);show PD _ _ _ (.tup [.tup [.str (kd ns (QN c)),.tup ((rule ns c free).h.ts.map .str)],.tup ((WA ns c free).map Li.d)]);exact Vp (Vc (Vp (Vc (QR (PDL.pd (ZS G5 hr3 (Vc (Vv 0 rfl) Vn) ⟨ns,rfl,hns,rfl⟩)) (Vv 3 rfl) (kix ns hh)) (Vc (Wg T.bTup (Vv 7 rfl) (.inl rfl)) Vn)) (Vl (by simp))) (Vc (Wg T.bTup (Vv 4 rfl) (.inl rfl)) Vn)) (Vl (by simp))
end
def Ov (ns:List Int):Nat:=if mix (cell ns 3) 9479 7=3 then 9 else 5
def Oa (ns:List Int):Bool:=decide (cell ns 2 % 3=0)
def cutR (ns:List Int):List Int:=WZ ns (some 4) (some (4+(Ov ns:Int)))
def rulesR (ns:List Int):List Ru:=(cutR ns).map fun c=>rule ns c (Oa ns)
def Qez (ns:List Int):List D:=(rulesR ns).map Ru.d
theorem Qc7 {α β:Type} (f:α->β) (l:List α) (lo hi:Option Int):WZ (l.map f) lo hi=(WZ l lo hi).map f:=by
 unfold WZ;rw [Q0,JL,JV]
theorem Qr3 {α:Type} (l:List α) (a k:Nat):(WZ l (some (a:Int)) (some ((a:Int)+(k:Int)))).length<=k:=by
 have e:((a:Int)+(k:Int))=((a+k:Nat):Int):=by omega
 unfold WZ;rw [e,HT.GC,HT.GC,Qj,Jr];omega
theorem Qqd (ns:List Int):Ov ns<=9:=by unfold Ov;split<;>omega
theorem Qhg (ns:List Int):(cutR ns).length<=9:=Qz (Qr3 ns 4 (Ov ns)) (Qqd ns)
section
variable {P:Program} {w:World} {K:W.Frag} {mg:Str->Option Value} {base:Heap}
def RNsT (g:List Int->List D):List D->D->Prop:=fun ds d=> ∃ ns:List Int,ds=[scr ns]/\ns.length<=63/\d= .tup (g ns)
abbrev Qpw:List Str:=["_law_script", "_law_most", "_law_free"]
theorem OW:Vf Qpw ["_law_script"] (Vs Qa4):=⟨rfl,rfl,rfl,by decide +kernel,rfl,by decide +kernel,by decide +kernel⟩
set_option maxHeartbeats 1000000 in
theorem Qpa (T:Txt K mg) (F:Fd K mg "_law_rules" Qa4 ["_law_script"]) (G1:PrD P w K mg base "_law_cell" 1 ZX RCell) (G3:PrD P w K mg base "_law_mix" 1 Qbb RMix) (GL:PrD P w K mg base "_law_rule" 5 BW RLRule):PrD P w K mg base "_law_rules" 6 ["_law_script"] (RNsT Qez):=by
 refine Zi (N:=Qpw) F OW (by decide) fun f cdv A outer s H E ds d hr hR _=> ?_
 obtain ⟨ns,rfl,hns,rfl⟩:=hR;have hr1:=hr.mono (show 1<=5 by decide);refine Vq (Jf (i:=1) (d:= .int 5) Vi OW.nd) ?_;refine Vq (m:=true) (τ1:=[.arg (scr ns),.any (.int (Ov ns:Nat)),.no]) ?_ ?_
 ·refine JT (Qny hns T.bLen G1 G3 hr1 (fun p=>Vv 0 rfl)) (fun h=> ?_) (fun h=> ?_)
  ·have e:Ov ns=9:=Qk (Jx h);rw [e];exact Vz (Jf (i:=1) (d:= .int 9) Vi OW.nd)
  ·have e:Ov ns=5:=Qn (B1 h);rw [e];exact JS
 refine Vq (Jf (i:=2) (d:= .bl (Oa ns)) (Qqz (Ql5 (Be (k:=2) G1 hr1 (Vv 0 rfl) Vi) Vi (by decide)) Vi) OW.nd) ?_;have e:Qez ns=(WZ (ns.map D.int) (some 4) (some (4+(Ov ns:Int)))).map (fun d=>match d with | .int c=>(rule ns c (Oa ns)).d | d=>d):=by
  rw [Qc7];simp [Qez,rulesR,cutR,Qo,QK]
 rw [e];have hl:=Qhg ns;refine Vz (Jv (Wg T.bTup (PDL.pd (Z6 rfl (YH (PDL.pd (BF (Vv 0 rfl) (JW Vi) (JW (Wi Vi (Vv 1 rfl)))))) ?_ fun d hd cl C s H ex=> ?_)) (.inl rfl)))
 ·rw [Qc7,Q0];exact Vl (Qz hl (by decide))
 ·rw [Qc7] at hd;obtain ⟨c,_,rfl⟩:=Q3.mp hd;exact Jy GL hr (Vc (Vv 1 rfl) (Vc (Vv 0 rfl) (Vc (Vv 3 rfl) Vn))) ⟨ns,c,Oa ns,rfl,hns,rfl⟩
end
end K27
namespace RH
open PySem L2
structure Lk where
 k:Str
 a:Str
 s:Nat
def Lk.d (l:Lk):D:= .tup [.str l.k,.str l.a,.int l.s]
def O4 (r:Ru):List Lk:=r.b.map fun l=>⟨l.a.k,r.h.k,if l.y then 0 else 1⟩
def Ji (rs:List Ru):List Lk:=rs.flatMap O4
def Rk (ls:List Lk) (g:Str->Nat):Prop:= ∀ l∈ls,g l.k+l.s<=g l.a
structure PS where
 ks:List Str
 vs:List (List Str)
 wl:List Str
def ZR (ks:List Str) (vs:List (List Str)) (k:Str):List Str:=vs.getD (ks.idxOf k) []
def Zl (kind:Str) (st:PS) (a:Str):PS:=if a∈st.ks then st else ⟨st.ks++[a],st.vs++[ZR st.ks st.vs kind++[a]],st.wl++[a]⟩
def aboves (ls:List Lk) (kind:Str):List Str:=(ls.filter fun l=>decide (l.k=kind)).map (·.a)
def YN (ls:List Lk) (st:PS):PS:=match st.wl with
 | []=>st
 | kind::r=>(aboves ls kind).foldl (Zl kind) ⟨st.ks,st.vs,r⟩
structure PIv (ls:List Lk) (g:Str->Nat) (start:Str) (st:PS):Prop where
 len:st.ks.length=st.vs.length
 nd:st.ks.Nodup
 wk: ∀ k∈st.wl,k∈st.ks
 ge: ∀ k∈st.ks,g start<=g k
 sub: ∀ k∈st.ks,k∈start::ls.map (·.a)
 pl: ∀ p∈st.vs,p.length<=st.ks.length
 wn:st.wl.length<=st.ks.length
theorem Y8 {α:Type} [DecidableEq α]: ∀ {l m:List α},l.Nodup->(∀ x∈l,x∈m)->l.length<=m.length
 | [],_,_,_=>Jd _
 | x::l,m,h,hs=>by
  have hn:=WR.mp h;have h1: ∀ y∈l,y∈m.erase x:=fun y hy=>by
   have hne:y≠x:=fun z=>hn.1 (z ▸ hy)
   exact (List.mem_erase_of_ne hne).mpr (hs y (Q9 _ hy))
  have:=Y8 hn.2 h1;have hx:=hs x Q7;rw [List.length_erase_of_mem hx] at this;have hp:0 < m.length:=List.length_pos_of_mem hx;rw [QC];omega
theorem PIv.le {ls:List Lk} {g:Str->Nat} {start:Str} {st:PS} (h:PIv ls g start st):st.ks.length<=ls.length+1:=by
 have:=Y8 h.nd h.sub;simpa using this
def muP (ls:List Lk) (st:PS):Nat:=2 * (ls.length+1 - st.ks.length)+st.wl.length
theorem Qo8 {ls:List Lk} {g:Str->Nat} {start kind a:Str} {st:PS} (h:PIv ls g start st) (hk:kind∈st.ks) (ha:a∈ls.map (·.a)) (hg:g kind<=g a):PIv ls g start (Zl kind st a)/\muP ls (Zl kind st a)<=muP ls st/\kind∈(Zl kind st a).ks:=by
 unfold Zl
 by_cases hm:a∈st.ks
 ·rw [Qk hm];exact ⟨h,Q6 _,hk⟩
 ·rw [Qn hm];have h1:PIv ls g start ⟨st.ks++[a],st.vs++[ZR st.ks st.vs kind++[a]],st.wl++[a]⟩:=by
   refine ⟨by simp [h.len],?_,?_,?_,?_,?_,by have:=h.wn;simp;omega⟩
   ·rw [Wj];exact ⟨h.nd,by simp,fun x hx y hy=>by rintro rfl;exact hm ((Qs.mp hy) ▸ hx)⟩
   ·intro k hk';rcases QH.mp hk' with z | z
    ·exact ZF _ (h.wk k z)
    ·exact QG _ z
   ·intro k hk';rcases QH.mp hk' with z | z
    ·exact h.ge k z
    ·rw [Qs.mp z];exact Qz (h.ge kind hk) hg
   ·intro k hk';rcases QH.mp hk' with z | z
    ·exact h.sub k z
    ·rw [Qs.mp z];exact Q9 _ ha
   ·intro p hp;rcases QH.mp hp with z | z
    ·have:=h.pl p z
     simp
     omega
    ·rw [Qs.mp z];have:(ZR st.ks st.vs kind).length<=st.ks.length:=by
      unfold ZR;rw [Qm];cases e:st.vs[st.ks.idxOf kind]? with
      | none=>simp
      | some q=>exact h.pl q (Q4 e)
     simp
     omega
  refine ⟨h1,?_,ZF _ hk⟩;have:=h1.le;unfold muP;simp at this ⊢;omega
theorem Qbt {ls:List Lk} {g:Str->Nat} {start kind:Str}: ∀ {as:List Str} {st:PS},PIv ls g start st->kind∈st.ks->(∀ a∈as,a∈ls.map (·.a)/\g kind<=g a)->PIv ls g start (as.foldl (Zl kind) st)/\muP ls (as.foldl (Zl kind) st)<=muP ls st/\kind∈(as.foldl (Zl kind) st).ks
 | [],st,h,hk,_=>⟨h,Q6 _,hk⟩
 | a::as,st,h,hk,ha=>by
  obtain ⟨h1,h2,h3⟩:=Qo8 h hk (ha a Q7).1 (ha a Q7).2;obtain ⟨h4,h5,h6⟩:=Qbt (as:=as) h1 h3 fun b hb=>ha b (Q9 _ hb)
  exact ⟨h4,Qz h5 h2,h6⟩
theorem Qe9 {ls:List Lk} {g:Str->Nat} (hg:Rk ls g) {kind:Str}: ∀ a∈aboves ls kind,a∈ls.map (·.a)/\g kind<=g a:=fun a ha=>by
 obtain ⟨l,hl,rfl⟩:=Q3.mp ha;obtain ⟨h1,h2⟩:=Wp.mp hl;have:=hg l h1;rw [<- Jx h2];exact ⟨Q3.mpr ⟨l,h1,rfl⟩,by omega⟩
theorem Qo7 {ls:List Lk} {g:Str->Nat} (hg:Rk ls g) {start:Str} {st:PS} (h:PIv ls g start st) (hw:st.wl≠[]):PIv ls g start (YN ls st)/\muP ls (YN ls st) < muP ls st:=by
 unfold YN;cases e:st.wl with
 | nil=>exact absurd e hw
 | cons kind r =>
  have hk:kind∈st.ks:=h.wk kind (by rw [e];exact Q7);have h0:PIv ls g start ⟨st.ks,st.vs,r⟩:=⟨h.len,h.nd,fun k hk'=>h.wk k (by rw [e];exact Q9 _ hk'),h.ge,h.sub,h.pl,by have:=h.wn;rw [e] at this;simp at this;show r.length<=st.ks.length;omega⟩;obtain ⟨h1,h2,_⟩:=Qbt h0 hk (Qe9 hg (kind:=kind));refine ⟨h1,QZ h2 ?_⟩;unfold muP;rw [e]
  simp
theorem Qg7 (ls:List Lk) (g:Str->Nat) (start:Str):PIv ls g start ⟨[start],[[start]],[start]⟩:=by
 refine ⟨rfl,by simp,fun k h=>h,fun k h=> ?_,fun k h=> ?_,fun p h=> ?_,by simp⟩
 ·rw [Qs.mp h];exact Q6 _
 ·rw [Qs.mp h];exact Q7
 ·rw [Qs.mp h]
  simp
def Yf (f:Str->Nat) (k:Str) (n:Nat):Str->Nat:=fun x=>if x=k then n else f x
def WX (st:(Str->Nat)×Bool) (l:Lk):(Str->Nat)×Bool:=if st.1 l.a < st.1 l.k+l.s then (Yf st.1 l.a (st.1 l.k+l.s),true) else st
def pass (ls:List Lk) (st:(Str->Nat)×Bool):(Str->Nat)×Bool:=ls.foldl WX (st.1,false)
def Least (ls:List Lk) (f:Str->Nat):Prop:= ∀ g,Rk ls g-> ∀ k,f k<=g k
theorem Om {ls:List Lk} {l:Lk} (hl:l∈ls) {st:(Str->Nat)×Bool} (h:Least ls st.1):Least ls (WX st l).1:=by
 unfold WX;split
 ·intro g hg k;show Yf st.1 l.a (st.1 l.k+l.s) k<=g k;unfold Yf;split
  ·rename_i e;rw [e];have:=hg l hl;have:=h g hg l.k;omega
  ·exact h g hg k
 ·exact h
theorem Qbs {ls:List Lk}: ∀ {ms:List Lk} {st:(Str->Nat)×Bool},(∀ l∈ms,l∈ls)->Least ls st.1->Least ls (ms.foldl WX st).1
 | [],_,_,h=>h
 | l::ms,st,hs,h=>Qbs (ms:=ms) (fun x hx=>hs x (Q9 _ hx)) (Om (hs l Q7) h)
def total (K0:List Str) (f g:Str->Nat):Nat:=(K0.map fun k=>g k - f k).sum
theorem Qlt {K0:List Str} {f g:Str->Nat} {k:Str} {n:Nat} (hk:k∈K0) (hn:f k < n) (hg:n<=g k):total K0 (Yf f k n) g < total K0 f g:=by
 unfold total;have le: ∀ L:List Str,(L.map fun x=>g x - Yf f k n x).sum<=(L.map fun x=>g x - f x).sum:=fun L=>by
  induction L with
  | nil=>exact Q6 _
  | cons x L ih =>
   simp only [Qp,List.sum_cons];have:g x - Yf f k n x<=g x - f x:=by
    unfold Yf;split
    ·rename_i e;subst e;omega
    ·exact Q6 _
   omega
 induction K0 with
 | nil=>cases hk
 | cons x L ih =>
  simp only [Qp,List.sum_cons];rcases Qd.mp hk with e | e
  ·subst e;have h1:=le L;have:g k - Yf f k n k < g k - f k:=by
    unfold Yf;rw [Qk rfl];omega
   omega
  ·have h1:=ih e;have:g x - Yf f k n x<=g x - f x:=by
    unfold Yf;split
    ·rename_i e;subst e;omega
    ·exact Q6 _
   omega
theorem Ob {ls:List Lk} {K0:List Str} {g:Str->Nat} (hg:Rk ls g) (hK: ∀ l∈ls,l.a∈K0): ∀ {ms:List Lk} {f:Str->Nat} {b:Bool},(∀ l∈ms,l∈ls)->Least ls f ->
  total K0 (ms.foldl WX (f,b)).1 g<=total K0 f g/\((ms.foldl WX (f,b)).2=true->b=true \/ total K0 (ms.foldl WX (f,b)).1 g < total K0 f g)/\((ms.foldl WX (f,b)).2=false->(ms.foldl WX (f,b)).1=f/\ ∀ l∈ms,f l.k+l.s<=f l.a)
 | [],f,b,_,_=>⟨Q6 _,fun h=> .inl h,fun _=>⟨rfl,fun l hl=>nomatch hl⟩⟩
 | l::ms,f,b,hs,h=>by
  have hl:=hs l Q7;have hs': ∀ x∈ms,x∈ls:=fun x hx=>hs x (Q9 _ hx)
  rw [Jl]
  by_cases hc:f l.a < f l.k+l.s
  ·have e:WX (f,b) l=(Yf f l.a (f l.k+l.s),true):=Qk hc;have h1:Least ls (Yf f l.a (f l.k+l.s)):=by
    have:=Om hl (st:=(f,b)) h;rw [e] at this;exact this
   have lt:total K0 (Yf f l.a (f l.k+l.s)) g < total K0 f g:=Qlt (hK l hl) hc (by have:=h1 g hg l.a;unfold Yf at this;rwa [Qk rfl] at this);rw [e];obtain ⟨i1,i2,i3⟩:=Ob hg hK (ms:=ms) (f:=Yf f l.a (f l.k+l.s)) (b:=true) hs' h1;refine ⟨by omega,fun _=> .inr (by omega),fun z=> ?_⟩;have stay: ∀ (ms:List Lk) (f:Str->Nat),(ms.foldl WX (f,true)).2=true:=fun ms=>by
    induction ms with
    | nil=>intro f;rfl
    | cons x ms ih =>
     intro f;rw [Jl];unfold WX;split
     ·exact ih _
     ·exact ih _
   rw [stay] at z;cases z
  ·have e:WX (f,b) l=(f,b):=Qn hc;rw [e];obtain ⟨i1,i2,i3⟩:=Ob hg hK (ms:=ms) (f:=f) (b:=b) hs' h;refine ⟨i1,i2,fun z=>⟨(i3 z).1,fun x hx=> ?_⟩⟩;rcases Qd.mp hx with rfl | hx
   ·omega
   ·exact (i3 z).2 x hx
structure LIv (ls:List Lk) (st:(Str->Nat)×Bool):Prop where
 least:Least ls st.1
 done:st.2=false->Rk ls st.1
def muL (K0:List Str) (g:Str->Nat) (st:(Str->Nat)×Bool):Nat:=2 * total K0 st.1 g+(if st.2 then 1 else 0)
theorem Qt4 {ls:List Lk} {K0:List Str} {g:Str->Nat} (hg:Rk ls g) (hK: ∀ l∈ls,l.a∈K0) {st:(Str->Nat)×Bool} (h:LIv ls st) (hc:st.2=true):LIv ls (pass ls st)/\muL K0 g (pass ls st) < muL K0 g st:=by
 obtain ⟨h1,h2,h3⟩:=Ob hg hK (ms:=ls) (f:=st.1) (b:=false) (fun _ h=>h) h.least;have hl:Least ls (pass ls st).1:=Qbs (ms:=ls) (fun _ h=>h) h.least;refine ⟨⟨hl,fun z=> ?_⟩,?_⟩
 ·obtain ⟨e,k⟩:=h3 z;show Rk ls (ls.foldl WX (st.1,false)).1;rw [e];exact k
 ·unfold muL;rw [hc];cases hp:(pass ls st).2 with
  | true =>
   rcases h2 hp with z | z
   ·cases z
   ·have z':total K0 (pass ls st).1 g < total K0 st.1 g:=z
    simp
    omega
  | false =>
   obtain ⟨e,_⟩:=h3 hp;have e':(pass ls st).1=st.1:=e;rw [e']
   simp
end RH
namespace K27
open PySem L2 RH
theorem Qln (c:Int) (k:Nat) (firsts:Str): ∃ t,signs (word c k firsts)=(signs firsts).getD k 97::t:=by
 unfold word;dsimp only;split<;>rw [WI,U2]<;>exact ⟨_,rfl⟩
theorem Qov:signs "pqrstu" =[112,113,114,115,116,117]:=by decide +kernel
theorem Quc (ns:List Int) {k:Nat} (h:k < 6):kd ns k=word (cell ns 0) k "pqrstu" :=by
 unfold kd kinds;simp [List.getD,h]
theorem Qks (ns:List Int) {k:Nat} (h:k < 6): ∃ t,signs (kd ns k)=(112+k)::t:=by
 rw [Quc ns h];obtain ⟨t,e⟩:=Qln (cell ns 0) k "pqrstu";refine ⟨t,?_⟩;rw [e,Qov];congr 1
 match k,h with
 | 0,_=>rfl
 | 1,_=>rfl
 | 2,_=>rfl
 | 3,_=>rfl
 | 4,_=>rfl
 | 5,_=>rfl
theorem Qxu (ns:List Int) {j k:Nat} (hj:j < 6) (hk:k < 6) (e:kd ns j=kd ns k):j=k:=by
 obtain ⟨t,e1⟩:=Qks ns hj;obtain ⟨u,e2⟩:=Qks ns hk;rw [e,e2] at e1;injection e1 with e1
 omega
noncomputable def B7 (ns:List Int) (k:Str):Nat:=by
 classical exact if h: ∃ j,j < 6/\kd ns j=k then h.choose else 0
theorem Qa8 (ns:List Int) {j:Nat} (hj:j < 6):B7 ns (kd ns j)=j:=by
 classical
 have h: ∃ i,i < 6/\kd ns i=kd ns j:=⟨j,hj,rfl⟩;unfold B7;rw [dif_pos h];exact Qxu ns h.choose_spec.1 hj h.choose_spec.2
theorem Qho (c:Int) (head k:Nat):WD c head false k<=head:=by
 unfold WD;have h2:=WQ (c+31 * k) 9887 (m:=(head+1:Nat)) (by omega);have e:((head+1:Nat):Int)=(head:Int)+1:=by omega
 rw [e] at h2;simp only [Yd,OI];split<;>omega
theorem Qgq (c:Int) (h:0 < QN c):Z5 c < QN c:=by
 unfold Z5;have h1:=WQ c 9857 (m:=QN c) (by omega);omega
theorem Qj3 {ns:List Int} {c:Int} {free:Bool} (h:Gh ns c free=true):free=false:=by
 unfold Gh at h;simp only [Qv,ZA] at h;exact h.1.1.1
theorem O3 {rs:List Ru} {l:Lk} (h:l∈Ji rs): ∃ r∈rs,∃ b∈r.b,l=⟨b.a.k,r.h.k,if b.y then 0 else 1⟩:=by
 obtain ⟨r,hr,hl⟩:=JR.mp h;obtain ⟨b,hb,rfl⟩:=Q3.mp hl;exact ⟨r,hr,b,hb,rfl⟩
theorem Qsm (ns:List Int): ∃ g,Rk (Ji (rulesR ns)) g:=by
 cases hf:Oa ns with
 | true =>
  refine ⟨fun _=>0,fun l hl=> ?_⟩;obtain ⟨r,hr,b,hb,rfl⟩:=O3 hl;obtain ⟨c,_,rfl⟩:=Q3.mp hr;rcases Ux hb with ⟨a,_,rfl⟩ | ⟨hn,rfl⟩
  ·exact Q6 _
  ·rw [hf] at hn;cases Qj3 hn
 | false =>
  refine ⟨B7 ns,fun l hl=> ?_⟩;obtain ⟨r,hr,b,hb,rfl⟩:=O3 hl;obtain ⟨c,_,rfl⟩:=Q3.mp hr;rw [hf] at hb ⊢;have eh:(rule ns c false).h.k=kd ns (QN c):=rfl;rcases Ux hb with ⟨a,ha,rfl⟩ | ⟨hn,rfl⟩
  ·obtain ⟨k,_,rfl⟩:=Q3.mp ha;have eb:(Zd ns c (QN c) false k).k=kd ns (WD c (QN c) false k):=rfl;show B7 ns (Zd ns c (QN c) false k).k+0<=B7 ns (rule ns c false).h.k;rw [eb,eh,Qa8 ns (OF c (Uc c) false k),Qa8 ns (Uc c)];exact Qho c (QN c) k
  ·have h0:=Qbp hn;have eb:(Bt ns c false).k=kd ns (Z5 c):=rfl;show B7 ns (Bt ns c false).k+1<=B7 ns (rule ns c false).h.k;rw [eb,eh,Qa8 ns (Qdd c h0),Qa8 ns (Uc c)];exact Qgq c h0
end K27
namespace L2
open PySem PySem.Spec PyProof.Rows
section
variable {κ:Type} [DecidableEq κ]
def YY (kvs:List (κ×V)) (k:κ):Option V:=(kvs.find? fun kv=>decide (kv.1=k)).map (·.2)
def U5 (kvs:List (κ×V)) (k:κ) (v:V):List (κ×V) :=
 if (kvs.any fun kv=>decide (kv.1=k))=true then kvs.map (fun kv=>if kv.1=k then (kv.1,v) else kv) else kvs++[(k,v)]
theorem Bi {p:κ×V} {r:List (κ×V)} {k:κ} (e:p.1=k):YY (p::r) k=some p.2:=by simp [YY,Y4,e]
theorem UP {p:κ×V} {r:List (κ×V)} {k:κ} (e: ¬ p.1=k):YY (p::r) k=YY r k:=by simp [YY,Y4,e]
theorem Qg1 (k:κ): ∀ kvs:List (κ×V),(kvs.any fun kv=>decide (kv.1=k))=(YY kvs k).isSome
 | []=>rfl
 | p::r=>by
  rw [ZY]
  by_cases e:p.1=k
  ·simp only [Bi e,QM e,Bool.true_or,Option.isSome_some]
  ·rw [UP e,QA e,Qi4];exact Qg1 k r
theorem Gg (kvs:List (κ×V)) (k:κ) (v:V):(U5 kvs k v).length<=kvs.length+1:=by
 unfold U5;split
 ·rw [Q0];omega
 ·rw [Ql,QC,WS];omega
theorem RelO.isSome_eq {o:Option V} {u:Option Value} (r:RelO o u):o.isSome=u.isSome:=by
 cases o with
 | none=>cases u with
  | none=>rfl
  | some _=>exact (show False from r).elim
 | some _=>cases u with
  | none=>exact (show False from r).elim
  | some _=>rfl
theorem RelO.getD {o:Option V} {u:Option Value} {d:V} {d':Value} (r:RelO o u) (rd:RelV d d'):RelV (o.getD d) (u.getD d'):=by
 cases o with
 | none=>cases u with
  | none=>exact rd
  | some _=>exact (show False from r).elim
 | some _=>cases u with
  | none=>exact (show False from r).elim
  | some _=>exact r
theorem KV.val {kvs:List (κ×V)} {vs:List (κ×Value)} (r:KV kvs vs) (k:κ):RelO (YY kvs k) (valueAt vs k):=by
 unfold KV at r
 induction r with
 | nil=>exact Wn
 | @cons p q ps qs h t ih =>
  obtain ⟨h1,h2⟩:=h
  by_cases e:p.1=k
  ·have e':q.1=k:=h1.symm.trans e;have b:valueAt (q::qs) k=some q.2:=by simp [valueAt,Y4,e']
   rw [Bi e,b];exact h2
  ·have e': ¬ q.1=k:=fun z=>e (h1.trans z)
   have b:valueAt (q::qs) k=valueAt qs k:=by simp [valueAt,Y4,e']
   rw [UP e,b];exact ih
theorem KV.any {kvs:List (κ×V)} {vs:List (κ×Value)} (r:KV kvs vs) (k:κ):(kvs.any fun kv=>decide (kv.1=k))=vs.any fun kv=>decide (kv.1=k):=by
 unfold KV at r
 induction r with
 | nil=>rfl
 | cons h t ih=>rw [ZY,ZY,ih,h.1]
theorem KV.repl {kvs:List (κ×V)} {vs:List (κ×Value)} (r:KV kvs vs) (k:κ) {y:V} {u:Value} (ry:RelV y u) :
  KV (kvs.map fun kv=>if kv.1=k then (kv.1,y) else kv) (vs.map fun kv=>if kv.1=k then (kv.1,u) else kv):=by
 unfold KV at r ⊢
 induction r with
 | nil=>exact .nil
 | @cons p q ps qs h t ih =>
  rw [Qp,Qp];refine .cons ?_ ih;obtain ⟨h1,h2⟩:=h
  by_cases e:p.1=k
  ·rw [Qk e,Qk (h1.symm.trans e)];exact ⟨h1,ry⟩
  ·rw [Qn e,Qn (fun z=>e (h1.trans z))];exact ⟨h1,h2⟩
theorem KV.put {kvs:List (κ×V)} {vs:List (κ×Value)} (r:KV kvs vs) (k:κ) {y:V} {u:Value} (ry:RelV y u):KV (U5 kvs k y) (stored vs k u):=by
 unfold U5 stored;rw [r.any k]
 by_cases e:(vs.any fun kv=>decide (kv.1=k))=true
 ·rw [Qk e,Qk e];exact r.repl k ry
 ·rw [Qn e,Qn e];exact Paired.snoc r ⟨rfl,ry⟩
theorem KV.keys {kvs:List (κ×V)} {vs:List (κ×Value)} (r:KV kvs vs):kvs.map (·.1)=vs.map (·.1):=by
 unfold KV at r
 induction r with
 | nil=>rfl
 | cons h t ih=>rw [Qp,Qp,ih,h.1]
theorem KV.length {kvs:List (κ×V)} {vs:List (κ×Value)} (r:KV kvs vs):kvs.length=vs.length:=Qru r
end
theorem Qbi {P:Program} {w:World} {k:Key} {u:Value} (r:RelV (kV k) u):(Jj P w).is k u=true:=by
 cases k with
 | inl i=>obtain ⟨t,e⟩:=(show ∃ t,u=Value.int i t from r);subst e;exact Qgt P w i t
 | inr x=>obtain ⟨t,e⟩:=(show ∃ t,u=Value.str x t from r);subst e;exact Gc P w x t
theorem Qdp {P:Program} {w:World}: ∀ {ks:List Key} {us:List Value},Vals (ks.map kV) us->ItemsAre (Jj P w) ks us
 | [],_,r=>by rw [ZN] at r;cases r;exact .nil
 | k::ks,_,r=>by
  rw [Qp] at r;cases r with
  | cons h t=>exact .cons (Qbi h) (Qdp t)
abbrev KT (H:Hp):List (List Key×V)->List (List Key×Addr×Value)->Prop:=Paired fun p q=>p.1=q.1/\H q.2.1=some (.tup (p.1.map kV))/\RelV p.2 q.2.2
theorem KT.val {H:Hp} {kvs:List (List Key×V)} {xs:List (List Key×Addr×Value)} (r:KT H kvs xs) (k:List Key):RelO (YY kvs k) ((atKey xs k).map (·.2)):=by
 induction r with
 | nil=>exact Wn
 | @cons p q ps qs h t ih =>
  obtain ⟨h1,_,h2⟩:=h
  by_cases e:p.1=k
  ·have e':q.1=k:=h1.symm.trans e;have b:atKey (q::qs) k=some q.2:=by simp [atKey,Y4,e']
   rw [Bi e,b];exact h2
  ·have e': ¬ q.1=k:=fun z=>e (h1.trans z)
   have b:atKey (q::qs) k=atKey qs k:=by simp [atKey,Y4,e']
   rw [UP e,b];exact ih
theorem KT.repl {H:Hp} {kvs:List (List Key×V)} {xs:List (List Key×Addr×Value)} (r:KT H kvs xs) (k:List Key) {y:V} {u:Value} (ry:RelV y u) :
  KT H (kvs.map fun kv=>if kv.1=k then (kv.1,y) else kv) (xs.map (putAt k u)):=by
 induction r with
 | nil=>exact .nil
 | @cons p q ps qs h t ih =>
  rw [Qp,Qp];refine .cons ?_ ih;obtain ⟨h1,h2,h3⟩:=h;unfold putAt
  by_cases e:p.1=k
  ·rw [Qk e,Qk (h1.symm.trans e)];exact ⟨h1,h2,ry⟩
  ·rw [Qn e,Qn (fun z=>e (h1.trans z))];exact ⟨h1,h2,h3⟩
theorem KT.put {H:Hp} {kvs:List (List Key×V)} {xs:List (List Key×Addr×Value)} (r:KT H kvs xs) (k:List Key) {b:Addr} {y:V} {u:Value} (hb:H b=some (.tup (k.map kV))) (ry:RelV y u) :
  KT H (U5 kvs k y) (storedH xs k b u):=by
 have e:(kvs.any fun kv=>decide (kv.1=k))=(atKey xs k).isSome:=by
  rw [Qg1,(r.val k).isSome_eq,Qli]
 unfold U5 storedH;rw [e]
 by_cases q:(atKey xs k).isSome=true
 ·rw [Qk q,Qk q];exact r.repl k ry
 ·rw [Qn q,Qn q];exact Paired.snoc r ⟨rfl,hb,ry⟩
theorem KT.keeps {H H':Hp} {kvs:List (List Key×V)} {xs:List (List Key×Addr×Value)} (r:KT H kvs xs) (ht: ∀ b ys,H b=some (.tup ys)->H' b=some (.tup ys)):KT H' kvs xs :=
 Paired.mapP r fun _ _ z=>⟨z.1,ht _ _ z.2.1,z.2.2⟩
section
variable {P:Program} {w:World} {H:Hp} {h:Heap} {a:Addr}
theorem Qv4 {u:HO} (ok:HOk P w H h) (e:Rd H a u):ObjOk P w H h a u:=e.ok ok
theorem Gj {kvs:List (Key×V)} (ok:HOk P w H h) (e:Rd H a (.dK kvs)):kvs.length<=sizeLine/\(a == sysModules)=false/\ ∃ vs,KV kvs vs/\h.DictOf (Jj P w) a vs :=
 show ObjOk P w H h a (.dK kvs) from Qv4 ok e
theorem Qqt {kvs:List (Key×V)} (ok:HOk P w H h) (e:H a=some (.dK kvs)):kvs.length<=sizeLine/\(a == sysModules)=false/\ ∃ vs,KV kvs vs/\h.DictOf (Jj P w) a vs:=Gj ok (.inl e)
theorem O7 {ks:List Key} (ok:HOk P w H h) (e:H a=some (.tup (ks.map kV))):(tupleKind (Jj P w)).is h ks a:=by
 obtain ⟨_,its,r,o,h1,h2,n,h3⟩:=(show ObjOk P w H h a (.tup (ks.map kV)) from ok a _ e);exact ⟨o,its.toArray,n,h1,h2,h3,by simpa using Qdp r⟩
theorem Qby {kvs:List (List Key×V)} (ok:HOk P w H h) (e:Rd H a (.dT kvs)):kvs.length<=sizeLine/\(a == sysModules)=false /\
  ∃ xs,KT H kvs xs/\h.DictOfH (tupleKind (Jj P w)) a xs:=by
 obtain ⟨z,y,xs,r,o,es,ep,h1,h2,h3,h4,h5⟩:=(show ObjOk P w H h a (.dT kvs) from Qv4 ok e);refine ⟨z,y,xs,r,o,es,ep,h1,h2,h3,h4,fun x hx=> ?_,h5⟩;have all: ∀ {l:List (List Key×V)} {m:List (List Key×Addr×Value)},KT H l m-> ∀ x∈m,(tupleKind (Jj P w)).is h x.1 x.2.1:=by
  intro l m q
  induction q with
  | nil=>intro x hx;exact nomatch hx
  | @cons p q ps qs hq t ih =>
   intro x hx;rcases Qd.mp hx with e | hx
   ·subst e;exact O7 ok (by rw [<- hq.1];exact hq.2.1)
   ·exact ih x hx
 exact all r x hx
theorem Ja4 {kvs:List (List Key×V)} (ok:HOk P w H h) (e:H a=some (.dT kvs)):kvs.length<=sizeLine/\(a == sysModules)=false /\
  ∃ xs,KT H kvs xs/\h.DictOfH (tupleKind (Jj P w)) a xs:=Qby ok (.inl e)
end
def DGet (H:Hp) (a:Addr) (y:V) (r:Option V):Prop :=
 (∃ kvs k,Rd H a (.dK kvs)/\y=kV k/\r=YY kvs k) \/ ∃ kvs k b,Rd H a (.dT kvs)/\y= .ref b/\H b=some (.tup (k.map kV))/\r=YY kvs k
def DPut (H:Hp) (a:Addr) (y v:V) (H':Hp):Prop :=
 (∃ kvs k,H a=some (.dK kvs)/\y=kV k/\kvs.length < sizeLine/\H'=upd H a (.dK (U5 kvs k v))) \/
 ∃ kvs k b,H a=some (.dT kvs)/\y= .ref b/\H b=some (.tup (k.map kV))/\kvs.length < sizeLine/\H'=upd H a (.dT (U5 kvs k v))
section
variable {X:Cx} {pins:List (Addr×Obj)} {σ:St} {H:Hp} {s:Shared} {a:Addr} {y v:V} {u r:Value} {o:Option V} {A:Around} {E:Value->Shared->Prop}
theorem Inv.big (I:Inv X pins σ H s):sysModules < s.heap.objs.size:=by
 have h:mainGlobals < s.heap.objs.size:=(I.mod.glob.keeps I.bk).lt;exact Nat.lt_trans (by decide) h
theorem Qn7 {Q:Value->Shared->Prop} (hu:A.units+1 < cLine) (I:Inv X pins σ H s) (g:DGet H a y (some v)) (ry:RelV y u) (h: ∀ w' s',Inv X pins σ H s'->RelV v w'->Q w' s') :
  wpAny (model X.prog X.w) A (getItem (.ref a) u) Q E s:=by
 rcases g with ⟨kvs,k,e,ey,l⟩ | ⟨kvs,k,b,e,ey,eb,l⟩
 ·subst ey;obtain ⟨z,hd,vs,rel,dd⟩:=Gj I.hok e;obtain ⟨w',hw,rw'⟩:=RelO.some_of (v:=v) (o:=valueAt vs k) (by rw [l];exact rel.val k);exact wpAny_getItem_of (Qbi ry) dd.mapOf hw (h w' _ (I.tok _) rw')
 ·subst ey;cases (show u=Value.ref b from ry);obtain ⟨z,hd,xs,rel,dd⟩:=Qby I.hok e;obtain ⟨w',hw,rw'⟩:=RelO.some_of (v:=v) (o:=(atKey xs k).map (·.2)) (by rw [l];exact rel.val k);obtain ⟨p,hp,hp2⟩:=JY.mp hw;refine wpAny_getItem_heap (YV hu) (O7 I.hok eb) dd hp ?_;rw [hp2];exact h w' _ (I.tok _) rw'
theorem Jav {Q:Value->Shared->Prop} (hu:A.units+1 < cLine) (I:Inv X pins σ H s) (g:DGet H a y o) (ry:RelV y u) (h: ∀ s',Inv X pins σ H s'->Q (.bool o.isSome) s') :
  wpAny (model X.prog X.w) A (compareOp .In u (.ref a)) Q E s:=by
 rcases g with ⟨kvs,k,e,ey,l⟩ | ⟨kvs,k,b,e,ey,eb,l⟩
 ·subst ey;obtain ⟨z,hd,vs,rel,dd⟩:=Gj I.hok e;refine wpAny_in_of (Qbi ry) hd dd.mapOf ?_;rw [<- (rel.val k).isSome_eq,<- l];exact h _ (I.tok _)
 ·subst ey;cases (show u=Value.ref b from ry);obtain ⟨z,hd,xs,rel,dd⟩:=Qby I.hok e;refine wpAny_in_heap (YV hu) (O7 I.hok eb) hd dd ?_;have q:=(rel.val k).isSome_eq;rw [Qli] at q;rw [<- q,<- l];exact h _ (I.tok _)
theorem Quq {Q:Value->Shared->Prop} (hu:A.units+1 < cLine) (I:Inv X pins σ H s) (g:DGet H a y o) (ry:RelV y u) (h: ∀ s',Inv X pins σ H s'->Q (.bool (!o.isSome)) s') :
  wpAny (model X.prog X.w) A (compareOp .NotIn u (.ref a)) Q E s:=by
 rcases g with ⟨kvs,k,e,ey,l⟩ | ⟨kvs,k,b,e,ey,eb,l⟩
 ·subst ey;obtain ⟨z,hd,vs,rel,dd⟩:=Gj I.hok e;refine wpAny_notIn_of (Qbi ry) hd dd.mapOf ?_;rw [<- (rel.val k).isSome_eq,<- l];exact h _ (I.tok _)
 ·subst ey;cases (show u=Value.ref b from ry);obtain ⟨z,hd,xs,rel,dd⟩:=Qby I.hok e;refine wpAny_notIn_heap (YV hu) (O7 I.hok eb) hd dd ?_;have q:=(rel.val k).isSome_eq;rw [Qli] at q;rw [<- q,<- l];exact h _ (I.tok _)
theorem Qfo {h':Heap} {t':Nat} {ob:HO} (I:Inv X pins σ H s) (mu:Mut (H a)) (hs:Heap.SameBut a s.heap h') (he: ∃ q,h'.get? a=some q) (new:ObjOk X.prog X.w (upd H a ob) h' a ob) :
  Inv X pins σ (upd H a ob) { s with heap:=h',toks:=t' } :=
 I.write (x:=a) (e:=a) mu (.inl rfl) (fun b q hb z=>(hs.2 b hb).trans z) he new
theorem Qj9 {P:Program} {w:World} {H':Hp} {h':Heap} {kvs:List (Key×V)} {vs:List (Key×Value)} (z:kvs.length<=sizeLine) (hd:(a == sysModules)=false) (rel:KV kvs vs) (dd:h'.DictOf (Jj P w) a vs) :
  ObjOk P w H' h' a (.dK kvs):=⟨z,hd,vs,rel,dd⟩
theorem Qn6 {H':Hp} {Q:Unit->Shared->Prop} (hu:A.units+1 < cLine) (I:Inv X pins σ H s) (g:DPut H a y v H') (ry:RelV y u) (rv:RelV v r) (h: ∀ s',Inv X pins σ H' s'->Q () s') :
  wpAny (model X.prog X.w) A (setItem (.ref a) u r) Q E s:=by
 rcases g with ⟨kvs,k,e,ey,l,eH⟩ | ⟨kvs,k,b,e,ey,eb,l,eH⟩
 ·subst ey eH;obtain ⟨z,hd,vs,rel,dd⟩:=Qqt I.hok e;have hz:vs.length<=sizeLine:=by rw [<- rel.length];exact z
  have hl:(U5 kvs k v).length<=sizeLine:=by have:=Gg kvs k v;omega
  refine wpAny_setItem_pairs (hsz:=hz) (Qbi ry) dd fun h' dd' hs=>h _ ?_
  have he: ∃ q,h'.get? a=some q:=let ⟨q,_,_,hq,_⟩:=dd';⟨q,hq⟩;exact Qfo I (by rw [e];exact Wn) hs he (Qj9 hl hd (rel.put k rv) dd')
 ·subst ey eH;cases (show u=Value.ref b from ry);obtain ⟨z,hd,xs,rel,dd⟩:=Ja4 I.hok e;have hz:xs.length<=sizeLine:=by rw [<- Qru rel];exact z
  have hl:(U5 kvs k v).length<=sizeLine:=by have:=Gg kvs k v;omega
  refine wpAny_setItem_heap (hsz:=hz) (YV hu) (O7 I.hok eb) dd fun h' dd' hs=>h _ ?_
  obtain ⟨q,es,ep,hq,h2,h3,h4,_,h5⟩:=dd';refine Qfo I (by rw [e];exact Wn) hs ⟨q,hq⟩ ⟨hl,hd,_,(rel.put k eb rv).keeps fun c ys ec=> ?_,q,es,ep,hq,h2,h3,h4,h5⟩;rw [J1 (Qzk ec e (fun z=>nomatch z))];exact ec
end
def NoSl (i:Expr):Prop:= ∀ ov iv,subscripted i false ov iv=operate [ov,iv] (getItem ov iv)
theorem Qsa {prog:Program} {w:World} {A:Around} {E:Value->Shared->Prop} {s:Shared} {env:Env} {value slice:Expr} {pos:Pos} {T id:String} {Q:Value->Shared->Prop}
  (hl:typeLookup (.type T) "__getitem__" =pure (some (.builtin id))) (hs:NoSl slice)
  (h:wpAny (model prog w) A (eval value env) (fun o s₁=>wpAny (model prog w) A (eval slice env) (fun i s₂=>s₂.TypeIs o T/\wpAny (model prog w) A (getItem o i) Q E s₂) E s₁) E s) :
  wpAny (model prog w) A (eval (.Subscript value slice pos) env) Q E s:=by
 refine Subscript_ (Jo h (fun o s₁ h₁=>Jo h₁ (fun i s₂ h₂=> ?_) fun _ _ x=>x) fun _ _ x=>x);obtain ⟨hT,h₂⟩:=h₂;unfold subscriptTail;refine Q1 ?_;rw [getitemInPython_of_ne hT.not_modules];refine Q1 (wpAny_specialOf hT hl ?_);have fin:wpAny (model prog w) A (subscripted slice false o i) (fun r s₃=>wpAny (model prog w) A (letTemporaryGo value o r >>= fun _=>pure r) Q E s₃) E s₂:=by
  rw [hs o i];exact wpAny_operating (Jo h₂ (fun r s₃ h₃=>Q1 (wpAny_letTemporaryGo (Qe h₃))) fun _ _ x=>x)
 first
  | exact Qe (Q1 fin)
  | exact Q1 (Qe (Q1 fin))
  | exact Q1 fin
theorem Qhf {X:Cx} {pins:List (Addr×Obj)} {σ:St} {H:Hp} {s:Shared} {a:Addr} {y:V} {o:Option V} (I:Inv X pins σ H s) (g:DGet H a y o):s.TypeIs (.ref a) "dict" :=by
 rcases g with ⟨kvs,k,e,_,_⟩ | ⟨kvs,k,b,e,_,_,_⟩
 ·obtain ⟨_,_,vs,_,dd⟩:=Gj I.hok e;exact dd.typeIs
 ·obtain ⟨_,_,xs,_,dd⟩:=Qby I.hok e;exact dd.typeIs
def Qyu (td ty:TE):TE:=fun σ H Q=>td σ H fun x H1=>ty σ H1 fun y H2=> ∃ a v,x= .ref a/\DGet H2 a y (some v)/\Q v H2
def Jaj (ty td:TE):TE:=fun σ H Q=>ty σ H fun y H1=>td σ H1 fun x H2=> ∃ a o,x= .ref a/\DGet H2 a y o/\Q (.bl o.isSome) H2
def Qs8 (ty td:TE):TE:=fun σ H Q=>ty σ H fun y H1=>td σ H1 fun x H2=> ∃ a o,x= .ref a/\DGet H2 a y o/\Q (.bl (!o.isSome)) H2
def Qyz (td ty tv:TE):TS:=fun D σ H=>tv σ H fun v H1=>td σ H1 fun x H2=>ty σ H2 fun y H3=> ∃ a H4,x= .ref a/\DPut H3 a y v H4/\D.nx σ H4
section
variable {X:Cx} {o i e value:Expr} {pos pos' tpos:Pos} {td ty tv:TE}
theorem Qt0 (hu:X.A.units+1 < cLine) (ho:PE X o td) (hi:PE X i ty) (hs:NoSl i):PE X (.Subscript o i pos) (Qyu td ty):=by
 intro pins s σ H Q I h;refine Qsa PySem.F.slot_dict_getitem.lookup hs (thn (ho pins s σ H _ I h) fun u s1 ⟨x,H1,I1,rx,q1⟩=>thn (hi pins s1 σ H1 _ I1 q1) fun iv s2 ⟨y,H2,I2,ry,a,v,ex,g,q2⟩=> ?_);subst ex;obtain rfl:u=Value.ref a:=rx;exact ⟨Qhf I2 g,Qn7 hu I2 g ry fun w' s3 I3 rw'=>⟨v,H2,I3,rw',q2⟩⟩
theorem Qww (hu:X.A.units+1 < cLine) (hi:PE X i ty) (ho:PE X o td):PC X .In i o (Jaj ty td):=by
 intro pins s σ H Q I h;refine thn (hi pins s σ H _ I h) fun iv s1 ⟨y,H1,I1,ry,q1⟩=>thn (ho pins s1 σ H1 _ I1 q1) fun u s2 ⟨x,H2,I2,rx,a,ov,ex,g,q2⟩=> ?_
 subst ex;obtain rfl:u=Value.ref a:=rx;exact Jav hu I2 g ry fun s3 I3=>⟨.bl ov.isSome,H2,I3,rfl,q2⟩
theorem Qm4 (hu:X.A.units+1 < cLine) (hi:PE X i ty) (ho:PE X o td):PC X .NotIn i o (Qs8 ty td):=by
 intro pins s σ H Q I h;refine thn (hi pins s σ H _ I h) fun iv s1 ⟨y,H1,I1,ry,q1⟩=>thn (ho pins s1 σ H1 _ I1 q1) fun u s2 ⟨x,H2,I2,rx,a,ov,ex,g,q2⟩=> ?_
 subst ex;obtain rfl:u=Value.ref a:=rx;exact Quq hu I2 g ry fun s3 I3=>⟨.bl (!ov.isSome),H2,I3,rfl,q2⟩
theorem Qsq (hu:X.A.units+1 < cLine) (ho:PE X o td) (hi:PE X i ty) (hv:PE X value tv) (hs:swapsWith value (some (.Subscript o i pos')) pos.line X.env=pure false) :
  PS X (.Assign [.Subscript o i pos'] value pos) (Qyz td ty tv):=by
 intro pins s σ H D I h;refine wpAny_Assign_Subscript (thn (hv pins s σ H _ I h) fun r s1 ⟨v,H1,I1,rv,q1⟩=>thn (ho pins s1 σ H1 _ I1 q1) fun u s2 ⟨x,H2,I2,rx,q2⟩=>thn (hi pins s2 σ H2 _ I2 q2) fun iv s3 ⟨y,H3,I3,ry,a,H4,ex,g,q3⟩=> ?_) hs;subst ex;obtain rfl:u=Value.ref a:=rx;exact Qn6 hu I3 g ry rv fun s4 I4=>⟨σ,H4,I4,q3⟩
end
theorem Qqu {P:Program} {w:World} {H:Hp} (h:Heap) (hb:sysModules < h.objs.size):ObjOk P w H (h.push { cls:= .type "dict",data:= .dict #[] }) h.objs.size (.dK []) :=
 ⟨Jd _,Ws.mpr (J5 (Qq hb)),[],.nil,Qi2 h⟩
def Qib:List (TE×TE)->St->Hp->(List (V×V)->Hp->Prop)->Prop
 | [],_,H,Q=>Q [] H
 | (tk,tv)::r,σ,H,Q=>tk σ H fun x H1=>tv σ H1 fun y H2=>Qib r σ H2 fun ps H3=>Q ((x,y)::ps) H3
abbrev VV:List (V×V)->List (Value×Value)->Prop:=Paired fun p q=>RelV p.1 q.1/\RelV p.2 q.2
def PPs (X:Cx) (pos:Pos) (keys:List (Option Expr)) (values:List Expr) (trs:List (TE×TE)):Prop :=
 ∀ (pins:List (Addr×Obj)) (s:Shared) (σ:St) (H:Hp) (Q:List (V×V)->Hp->Prop),Inv X pins σ H s->Qib trs σ H Q ->
  wpAny (model X.prog X.w) X.A (evalPairs (pairTrees keys values X.env pos)) (fun vs s'=> ∃ ps H',Inv X pins σ H' s'/\VV ps vs/\Q ps H') X.xe s
theorem Qss {X:Cx} {pos:Pos}:PPs X pos [] [] []:=fun pins s σ H Q I h=>pairTrees_nil_walk ⟨[],H,I,.nil,h⟩
theorem Qox {X:Cx} {pos:Pos} {k v:Expr} {ks:List (Option Expr)} {vs:List Expr} {tk tv:TE} {trs:List (TE×TE)} (hk:PE X k tk) (hv:PE X v tv) (hr:PPs X pos ks vs trs) :
  PPs X pos (some k::ks) (v::vs) ((tk,tv)::trs):=fun pins s σ H Q I h =>
 pairTrees_cons_walk (thn (hk pins s σ H _ I h) fun u s1 ⟨x,H1,I1,rx,q1⟩=>thn (hv pins s1 σ H1 _ I1 q1) fun w2 s2 ⟨y,H2,I2,ry,q2⟩ =>
  thn (hr pins s2 σ H2 _ I2 q2) fun ws s3 ⟨ps,H3,I3,rel,q3⟩=>⟨(x,y)::ps,H3,I3,.cons ⟨rx,ry⟩ rel,q3⟩)
def YR (kvs more:List (Key×V)):List (Key×V):=more.foldl (fun acc kv=>U5 acc kv.1 kv.2) kvs
theorem KV.merge: ∀ {more:List (Key×V)} {rs:List (Key×Value)} {kvs:List (Key×V)} {vs:List (Key×Value)},KV more rs->KV kvs vs->KV (YR kvs more) (merged vs rs):=by
 intro more rs kvs vs r;unfold KV at r
 induction r generalizing kvs vs with
 | nil=>intro q;exact q
 | @cons p q ps qs h t ih =>
  intro r0;have e:KV (U5 kvs p.1 p.2) (stored vs q.1 q.2):=by
   have:=r0.put p.1 h.2;rw [<- h.1];exact this
  exact ih e
theorem YS: ∀ (more kvs:List (Key×V)),(YR kvs more).length<=kvs.length+more.length
 | [],kvs=>by show kvs.length<=kvs.length+0;omega
 | p::r,kvs=>by
  have h1:=YS r (U5 kvs p.1 p.2);have h2:=Gg kvs p.1 p.2;show (YR (U5 kvs p.1 p.2) r).length<=_;rw [QC];omega
theorem Qca {P:Program} {w:World}: ∀ {kvs:List (Key×V)} {ws:List (Value×Value)},VV (kvs.map fun kv=>(kV kv.1,kv.2)) ws-> ∃ rs,Carries (Jj P w) ws rs/\KV kvs rs
 | [],_,r=>by rw [ZN] at r;cases r;exact ⟨[],Wn,.nil⟩
 | p::kvs,_,r=>by
  rw [Qp] at r;cases r with
  | @cons a b as bs h t =>
   obtain ⟨rs,c,q⟩:=Qca (P:=P) (w:=w) t;obtain ⟨b1,b2⟩:=b;exact ⟨(p.1,b2)::rs,⟨Qbi h.1,rfl,c⟩,.cons ⟨rfl,h.2⟩ q⟩
def Qyt (trs:List (TE×TE)):TE:=fun σ H Q=> ∀ p,H p=none->Qib trs σ (upd H p (.dK [])) fun ps H2=>H2 p=some (.dK [])/\ ∃ kvs:List (Key×V),ps=kvs.map (fun kv=>(kV kv.1,kv.2))/\kvs.length<=15/\Q (.ref p) (upd H2 p (.dK (YR [] kvs)))
theorem Qsz {X:Cx} {pos:Pos} {keys:List (Option Expr)} {values:List Expr} {trs:List (TE×TE)} (h:PPs X pos keys values trs) (hall:keys.all (·.isSome)=true) (hl:keys.length=values.length) (h0:keys≠[])
  (h15:keys.length<=15):PE X (.Dict keys values pos) (Qyt trs):=by
 intro pins s σ H Q I q;have hn:=I.hok.fresh (Q6 s.heap.objs.size);have I1:=I.laid (a:=s.heap.objs.size) (o:= .dK []) (h':=s.heap.push { cls:= .type "dict",data:= .dict #[] }) (t':=s.toks) (fun _ _ q=>Q2 _ q) (Q6 _) (Qqu s.heap I.big);refine wpAny_Dict_walk (knd:=Jj X.prog X.w) hall hl h0 h15 (thn (h pins _ σ _ _ I1 (q _ hn)) fun ws s2 ⟨ps,H2,I2,rel,e,kvs,ep,lk,q2⟩=> ?_);subst ep;obtain ⟨rs,c,rk⟩:=Qca (P:=X.prog) (w:=X.w) rel;obtain ⟨z,hd,vs0,r0,dd⟩:=Qqt I2.hok e;cases r0;refine ⟨rs,c,dd,fun h' dd' hs=>⟨.ref s.heap.objs.size,_,?_,rfl,q2⟩⟩;have hz:(YR [] kvs).length<=sizeLine:=by
  have h1:=YS kvs [];rw [WS] at h1;rw [QP];omega
 have he: ∃ q,h'.get? s.heap.objs.size=some q:=let ⟨q,_,_,hq,_⟩:=dd';⟨q,hq⟩;exact Qfo I2 (by rw [e];exact Wn) hs he (Qj9 hz hd (rk.merge .nil) dd')
structure M2 (X:Cx) (o:Expr) (m:Str) (apos:Pos) (e f:Expr) (cpos:Pos):Prop where
 base:attributeBase o m X.env (eval o X.env)=eval o X.env
 few:((backTo cpos (starEach [e,f] X.env)).all (fun x=> !x.1) && (backToKw cpos (keywordEach [] X.env)).all (fun x=>x.1.isSome)
  && decide (([e,f]:List Expr).length+([]:List Keyword).length+(if ([]:List Keyword).isEmpty then 0 else 1) < 30))=true
 line:(apos.endLine == cpos.line)=true
 trees:backTo cpos (starEach [e,f] X.env)=[(false,eval e X.env),(false,eval f X.env)]
def IsD (H:Hp) (a:Addr):Prop:=(∃ kvs,Rd H a (.dK kvs)) \/ ∃ kvs,Rd H a (.dT kvs)
theorem Qy1 {X:Cx} {pins:List (Addr×Obj)} {σ:St} {H:Hp} {s:Shared} {a:Addr} (I:Inv X pins σ H s) (d:IsD H a) :
  s.TypeIs (.ref a) "dict" /\(∀ b,Value.ref a= .ref b-> ∃ ob,s.heap.get? b=some ob/\ob.dict=none)/\(a == sysModules)=false:=by
 rcases d with ⟨kvs,e⟩ | ⟨kvs,e⟩
 ·obtain ⟨_,hd,vs,_,dd⟩:=Gj I.hok e;refine ⟨dd.typeIs,fun b q=> ?_,hd⟩;cases q;obtain ⟨ob,_,_,h1,h2,_⟩:=dd;exact ⟨ob,h1,h2.2.1⟩
 ·obtain ⟨_,hd,xs,_,dd⟩:=Qby I.hok e;refine ⟨dd.typeIs,fun b q=> ?_,hd⟩;cases q;obtain ⟨ob,_,_,h1,h2,_⟩:=dd;exact ⟨ob,h1,h2.2.1⟩
section
variable {X:Cx} {pins:List (Addr×Obj)} {σ:St} {H:Hp} {s:Shared} {a:Addr} {y d:V} {u r:Value} {o:Option V} {A:Around} {E:Value->Shared->Prop}
theorem Qyb {Q:Value->Shared->Prop} (hu:A.units+1 < cLine) (I:Inv X pins σ H s) (g:DGet H a y o) (ry:RelV y u) (rd:RelV d r) (h: ∀ w' s',Inv X pins σ H s'->RelV (o.getD d) w'->Q w' s') :
  wpAny (model X.prog X.w) A (call (.builtin "dict.get") [.ref a,u,r]) Q E s:=by
 rcases g with ⟨kvs,k,e,ey,l⟩ | ⟨kvs,k,b,e,ey,eb,l⟩
 ·subst ey;obtain ⟨z,hd,vs,rel,dd⟩:=Gj I.hok e;refine Qvy Qcm dd.typeIs PySem.F.entry_dict_get (PySem.F.args_dict_get_3 _ _ _) (meets_dict_get_default (Jj X.prog X.w) a (Qbi ry) hd r) ⟨_,dd.mapOf,h _ _ (I.tok _) ?_⟩;rw [l];exact (rel.val k).getD rd
 ·subst ey;cases (show u=Value.ref b from ry);obtain ⟨z,hd,xs,rel,dd⟩:=Qby I.hok e;refine Qvy Qcm dd.typeIs PySem.F.entry_dict_get (PySem.F.args_dict_get_3 _ _ _) (meetsH_dict_get_default (tupleKind (Jj X.prog X.w)) a b hd r) ⟨YV hu,k,xs,O7 I.hok eb,dd,h _ _ (I.tok _) ?_⟩;rw [l];exact (rel.val k).getD rd
end
def Qw7 (td ty tx:TE):TE:=fun σ H Q=>td σ H fun x H1=> ∃ a,x= .ref a/\IsD H1 a/\ty σ H1 fun y H2=>tx σ H2 fun z H3=> ∃ o,DGet H3 a y o/\Q (o.getD z) H3
section
variable {X:Cx} {o e f:Expr} {apos cpos:Pos} {td ty tx:TE}
theorem Qgj (hu:X.A.units+1 < cLine) (ho:PE X o td) (he:PE X e ty) (hf:PE X f tx) (m:M2 X o "get" apos e f cpos):PE X (.Call (.Attribute o "get" apos) [e,f] [] cpos) (Qw7 td ty tx):=by
 intro pins s σ H Q I h;refine wpAny_Call_method m.base m.few m.line Yv Qcm PySem.F.type_dict_get (thn (ho pins s σ H _ I h) fun u s1 ⟨x,H1,I1,rx,a,ex,d,q1⟩=> ?_);subst ex;obtain rfl:u=Value.ref a:=rx;obtain ⟨t1,t2,_⟩:=Qy1 I1 d;refine ⟨t1,t2,?_⟩;rw [m.trees];refine Qfy rfl (Qll (OQ (thn (he pins s1 σ H1 _ I1 q1) fun iv s2 ⟨y,H2,I2,ry,q2⟩ =>
  OQ (thn (hf pins s2 σ H2 _ I2 q2) fun fv s3 ⟨z,H3,I3,rz,ov,g,q3⟩=>Qw2 ?_))))
 exact Qyb hu I3 g ry rz fun w' s4 I4 rw'=>⟨_,H3,I4,rw',q3⟩
end
section
variable {X:Cx} {pins:List (Addr×Obj)} {σ:St} {H:Hp} {s:Shared} {a:Addr} {kvs:List (Key×V)} {A:Around} {E:Value->Shared->Prop}
theorem Qr0 {Q:Value->Shared->Prop} (I:Inv X pins σ H s) (e:Rd H a (.dK kvs)) (h: ∀ p s',H p=none->Inv X pins σ (upd H p (.dK kvs)) s'->Q (.ref p) s'):wpAny (model X.prog X.w) A (call (.type "dict") [.ref a]) Q E s:=by
 obtain ⟨z,hd,vs,rel,dd⟩:=Gj I.hok e;refine kt_call_dict hd dd (by rw [<- rel.length];exact z) fun h' dd' hs=> ?_
 refine h _ _ (I.hok.fresh (Q6 _)) (I.laid (a:=s.heap.objs.size) (o:= .dK kvs) (t':=s.toks) (fun b q hq=> ?_) (Q6 _) (Qj9 z (Ws.mpr (J5 (Qq I.big))) rel dd'));exact (hs.2 b (Qq (Qa hq))).trans (Q2 _ hq)
end
end L2
namespace PySem
open Sem (wp)
section
variable {prog:Program} {w:World} {A:Around} {E:Value->Shared->Prop} {h:Heap} {g:Array GenState} {d:Drawn} {t:Nat} {os:OsState} {a:Addr}
theorem Qjj (v:Value):firstArgMember (.type "AttributeError") [v]=pure Value.none:=by
 simp only [firstArgMember]
 kernel_rfl
theorem Gr:isSubtype (.type "AttributeError") (.type "AttributeError")=pure true:=by rw [isSubtype_type];kernel_rfl
set_option maxHeartbeats 1000000 in
theorem UV {α:Type} {name msg:Str} {Q:α->Shared->Prop} (hh:A.handled=none) (hm:msg.length<=sizeLine)
  (hE: ∀ h' e oe tk,(∀ b o,h.get? b=some o->h'.get? b=some o)->h'.get? e=some oe->oe.cls= .type "AttributeError" ->E (.ref e) ⟨h',g,d,tk,os⟩) :
  wpAny (model prog w) A (raiseAttrError (.ref a) name msg:Sem α) Q E ⟨h,g,d,t,os⟩:=by
 unfold raiseAttrError;refine Q1 (wpAny_mkStr ?_ hm);unfold newExc;refine Q1 (Q1 (Qlg ?_));rw [Qjj];refine Q1 (Qe ?_);refine JN ?_ (by size_fits);dsimp only;generalize hH1:h.push { cls:= .type "tuple",data:= .seq [Value.str msg t].toArray }=H1;have up1: ∀ b o,h.get? b=some o->H1.get? b=some o:=fun b o e=>by rw [<- hH1];exact Q2 _ e
 generalize hob:({ cls:=Value.type "AttributeError",data:=Data.fields (#[Value.ref h.objs.size,Value.none,Value.none,Value.none,Value.bool false,Value.none]++ownMembersOf (Value.type "AttributeError") [Value.str msg t]) }:Obj)=ob;have hH2:(H1.push ob).get? H1.objs.size=some ob:=by rw [<- hob];exact Qg _ rfl
 have hc:ob.cls= .type "AttributeError" :=by rw [<- hob]
 have hd:ob.data=Data.fields #[Value.ref h.objs.size,Value.none,Value.none,Value.none,Value.bool false,Value.none,unsetMember,unsetMember]:=by rw [<- hob];rfl
 have up2: ∀ b o,h.get? b=some o->(H1.push ob).get? b=some o:=fun b o e=>Q2 _ (up1 b o e)
 have lt: ∀ b o,h.get? b=some o->b≠H1.objs.size:=fun b o e=>Qq (Qa (up1 b o e))
 generalize hH:H1.push ob=H2 at hH2 up2;generalize H1.objs.size=e at hH2 lt;refine Q1 (wpAny_mkText ?_);refine Q1 ?_;unfold noteAttr;dsimp only;refine Q1 ?_;unfold lacksNameAndObj;refine Q1 (Zh (T:= "AttributeError") (b:=true) ⟨_,hH2,hc⟩ Gr ?_);simp only [Bool.not_true,Yd,OI];refine Q1 (wpAny_load hH2 ?_);rw [hd];refine Qe ?_;rw [Qk rfl];refine Q1 (GS ?_);refine Q1 (UL (T:= "AttributeError") ⟨_,hH2,hc⟩ ?_);dsimp only;refine wpAny_layMembers hH2 hd ?_;unfold raiseNew;refine Q1 (wpAny_handled_none hh ?_);dsimp only;refine Q1 (Qe (wpAny_throw ?_));refine hE _ e _ _ (fun b o z=> ?_) (WW (Obj.mapFields fun vs=>vs.extract 0 6++ #[Value.str name (t+1),Value.ref a]) hH2 ?_) ?_
 ·rw [J3 _ _ (J5 (lt b o z))];exact up2 b o z
 ·rw [<- hob];rfl
 ·rw [<- hob];rfl
namespace F
theorem lk_list_keys:typeLookup (.type "list") "keys" =pure none:=by rw [Qhz,Gs];kernel_rfl
end F
set_option maxHeartbeats 1000000 in
theorem OR {tk:Tok} {Q:Fin->Shared->Prop} {sl} {its:Array Value} {n:Nat} (hh:A.handled=none) (hx:h.get? a=some ⟨.type "list",none,.seq its n,sl⟩)
  (hE: ∀ h' e oe tk,(∀ b o,h.get? b=some o->h'.get? b=some o)->h'.get? e=some oe->oe.cls= .type "AttributeError" ->E (.ref e) ⟨h',g,d,tk,os⟩) :
  wpAny (model prog w) A (Builtin.«object.__getattribute__» ⟨[.ref a,.str "keys" tk],[]⟩) Q E ⟨h,g,d,t,os⟩:=by
 have hT:(⟨h,g,d,t,os⟩:Shared).TypeIs (.ref a) "list" :=⟨_,hx,rfl⟩;have f4:=F.lk_list_keys
 repeat (any_goals (first | assumption | wp_step))
 exact UV hh (by rw [QP];decide +kernel) hE
theorem Qff {tk:Tok} {Q:Value->Shared->Prop} {sl} {its:Array Value} {n:Nat} (hh:A.handled=none) (hx:h.get? a=some ⟨.type "list",none,.seq its n,sl⟩)
  (hE: ∀ h' e oe tk,(∀ b o,h.get? b=some o->h'.get? b=some o)->h'.get? e=some oe->oe.cls= .type "AttributeError" ->E (.ref e) ⟨h',g,d,tk,os⟩):wpAny (model prog w) A (getAttrBy (.ref a) (.str "keys" tk) false) Q E ⟨h,g,d,t,os⟩:=by
 have hT:(⟨h,g,d,t,os⟩:Shared).TypeIs (.ref a) "list" :=⟨_,hx,rfl⟩;have f2:=YL.lookup;have f3:=YL.bind (.ref a)
 repeat (any_goals (first | assumption | wp_step))
 refine Qlh YL.plain F.entry_list_ga (YL.check _ _ _ _ _ _ _ _ hT (F.args_list_getattribute_2 _ _) (OR (by exact hh) hx fun h' e oe tk' up he hc=> ?_));show wpAny _ _ (getattributeRaised (.ref a) (.str "keys" tk) (.type "list") (.ref e) none false false) _ _ _;unfold getattributeRaised;refine Q1 (Zh (T:= "AttributeError") (b:=true) ⟨_,he,hc⟩ Gr ?_);rw [Qk rfl];unfold hookBehind;have f5:typeLookup (.type "list") "__getattr__" =pure none:=by rw [Qhz,Gs];kernel_rfl
 repeat (any_goals (first | assumption | wp_step))
 exact hE h' e oe _ up he hc
theorem Qbh {Q:Option Value->Shared->Prop} {sl} {its:Array Value} {n:Nat} (hh:A.handled=none) (hx:h.get? a=some ⟨.type "list",none,.seq its n,sl⟩)
  (hq: ∀ h' tk,(∀ b o,h.get? b=some o->h'.get? b=some o)->Q none ⟨h',g,d,tk,os⟩):wpAny (model prog w) A (getAttr? (.ref a) "keys") Q E ⟨h,g,d,t,os⟩:=by
 unfold getAttr? getAttrBy?;refine Q1 (wpAny_mkText ?_);refine Q1 (GY (Qff hh hx fun h' e oe tk' up he hc=> ?_));refine Q1 (Zh (T:= "AttributeError") (b:=true) ⟨_,he,hc⟩ Gr ?_);rw [Qk rfl];exact Qe (hq h' _ up)
namespace F
theorem lk_tuple_keys:typeLookup (.type "tuple") "keys" =pure none:=by rw [Qhz,Gs];kernel_rfl
end F
set_option maxHeartbeats 1000000 in
theorem O6 {tk:Tok} {Q:Fin->Shared->Prop} {sl} {its:Array Value} {n:Nat} (hh:A.handled=none) (hx:h.get? a=some ⟨.type "tuple",none,.seq its n,sl⟩)
  (hE: ∀ h' e oe tk,(∀ b o,h.get? b=some o->h'.get? b=some o)->h'.get? e=some oe->oe.cls= .type "AttributeError" ->E (.ref e) ⟨h',g,d,tk,os⟩) :
  wpAny (model prog w) A (Builtin.«object.__getattribute__» ⟨[.ref a,.str "keys" tk],[]⟩) Q E ⟨h,g,d,t,os⟩:=by
 have hT:(⟨h,g,d,t,os⟩:Shared).TypeIs (.ref a) "tuple" :=⟨_,hx,rfl⟩;have f4:=F.lk_tuple_keys
 repeat (any_goals (first | assumption | wp_step))
 exact UV hh (by rw [QP];decide +kernel) hE
theorem Qcs {tk:Tok} {Q:Value->Shared->Prop} {sl} {its:Array Value} {n:Nat} (hh:A.handled=none) (hx:h.get? a=some ⟨.type "tuple",none,.seq its n,sl⟩)
  (hE: ∀ h' e oe tk,(∀ b o,h.get? b=some o->h'.get? b=some o)->h'.get? e=some oe->oe.cls= .type "AttributeError" ->E (.ref e) ⟨h',g,d,tk,os⟩):wpAny (model prog w) A (getAttrBy (.ref a) (.str "keys" tk) false) Q E ⟨h,g,d,t,os⟩:=by
 have hT:(⟨h,g,d,t,os⟩:Shared).TypeIs (.ref a) "tuple" :=⟨_,hx,rfl⟩;have f2:=Yz.lookup;have f3:=Yz.bind (.ref a)
 repeat (any_goals (first | assumption | wp_step))
 refine Qlh Yz.plain F.entry_tuple_ga (Yz.check _ _ _ _ _ _ _ _ hT (F.args_tuple_getattribute_2 _ _) (O6 (by exact hh) hx fun h' e oe tk' up he hc=> ?_));show wpAny _ _ (getattributeRaised (.ref a) (.str "keys" tk) (.type "tuple") (.ref e) none false false) _ _ _;unfold getattributeRaised;refine Q1 (Zh (T:= "AttributeError") (b:=true) ⟨_,he,hc⟩ Gr ?_);rw [Qk rfl];unfold hookBehind;have f5:typeLookup (.type "tuple") "__getattr__" =pure none:=by rw [Qhz,Gs];kernel_rfl
 repeat (any_goals (first | assumption | wp_step))
 exact hE h' e oe _ up he hc
theorem OS {Q:Option Value->Shared->Prop} {sl} {its:Array Value} {n:Nat} (hh:A.handled=none) (hx:h.get? a=some ⟨.type "tuple",none,.seq its n,sl⟩)
  (hq: ∀ h' tk,(∀ b o,h.get? b=some o->h'.get? b=some o)->Q none ⟨h',g,d,tk,os⟩):wpAny (model prog w) A (getAttr? (.ref a) "keys") Q E ⟨h,g,d,t,os⟩:=by
 unfold getAttr? getAttrBy?;refine Q1 (wpAny_mkText ?_);refine Q1 (GY (Qcs hh hx fun h' e oe tk' up he hc=> ?_));refine Q1 (Zh (T:= "AttributeError") (b:=true) ⟨_,he,hc⟩ Gr ?_);rw [Qk rfl];exact Qe (hq h' _ up)
end
namespace DPr
theorem Qbw:entryFor table "dict.update.loop" =some Builtin.«dict.update.loop» :=entryFor_of_tree (by kernel_rfl)
theorem Yh:plainId "dict.update.loop" =true:=by decide +kernel
section
variable {prog:Program} {w:World} {K:Type} [DecidableEq K] {knd:KeyKind prog w K} {A:Around} {E:Value->Shared->Prop} {R:Result->Shared->Prop} {I:Addr} {fp wr:List Addr} {n:Nat} {P:Nat->Value->Prop} {St:Nat->Heap->Prop}
def PairAt (knd:KeyKind prog w K) (h:Heap) (b:Addr) (k:K) (x:Value):Prop:= ∃ key o m,knd.is k key=true/\h.get? b=some o/\o.cls= .type "tuple" /\o.data= .seq #[key,x] m
theorem Qiy (kvs:List (K×Value)): ∀ more:List (K×Value),(merged kvs more).length<=kvs.length+more.length:=by
 intro more
 induction more generalizing kvs with
 | nil=>exact Q6 _
 | cons p r ih =>
  have h1:=ih (stored kvs p.1 p.2);have h2:(stored kvs p.1 p.2).length<=kvs.length+1:=by
   unfold stored;split
   ·rw [Q0];omega
   ·rw [Ql,Uk];omega
  show (merged (stored kvs p.1 p.2) r).length<=_;rw [QC];omega
set_option maxHeartbeats 1000000 in
theorem loop (W:Walks prog w A.in1 I fp wr n P St) (D:Addr) (hDf:D ∉ fp) (h0:Heap) (kvs:List (K×Value)) (hl:kvs.length=n) (hz:n<=sizeLine)
  (hval: ∀ (i:Nat) (v:Value) (k:K) (x:Value),P i v->kvs[i]? =some (k,x)-> ∃ b,v= .ref b/\b ∉ wr/\b≠D/\PairAt knd h0 b k x) (result:Value) :
  ∀ (j i:Nat) (s:Shared),n - i=j->i<=n->St i s.heap->(∀ b o,b ∉ wr->b≠D->h0.get? b=some o->s.heap.get? b=some o)->s.heap.DictOf knd D (merged [] (kvs.take i)) ->
   (∀ (h':Heap) (tk:Nat),(∀ b o,b ∉ wr->b≠D->s.heap.get? b=some o->h'.get? b=some o)->h'.DictOf knd D (merged [] kvs)->R (.ok (.ret result)) { s with heap:=h',toks:=tk }) ->
   codeAny (model prog w) A (.builtin "dict.update.loop" ⟨[.ref D,.ref I,rawInt i,result],[]⟩) R s:=by
 have hDw:D ∉ wr:=fun h=>hDf (W.sub _ h)
 have dat: ∀ {h h':Heap} {m:List (K×Value)},h.DictOf knd D m->(∀ o,h.get? D=some o->h'.get? D=some o)->h'.DictOf knd D m:=fun x e=>let ⟨o,es,ep,ho,r⟩:=x;⟨o,es,ep,e o ho,r⟩
 intro j
 induction j with
 | zero =>
  intro i s hj hi hst ht hS hR;have hin:i=n:=by omega
  subst hin;refine codeAny_builtin Qbw ?_;rw [Around.under_plainId Yh _];show wpAny _ A.in1 (pyNext (.ref I) >>= _) _ _ s;refine Q1 (W.done s _ _ hst fun h' tk hm=> ?_);rw [JZ (by omega)] at hS;exact Qe (hR h' tk (fun b o hb _ e=>hm b o hb e) (dat hS fun o e=>hm D o hDw e))
 | succ j ih =>
  intro i s hj hi hst ht hS hR;have hlt:i < n:=by omega
  refine codeAny_builtin Qbw ?_;rw [Around.under_plainId Yh _];show wpAny _ A.in1 (pyNext (.ref I) >>= _) _ _ s;refine Q1 (W.item i s _ _ hlt hst fun v h' tk hP hst' hm=> ?_);obtain ⟨⟨k,x⟩,hki⟩: ∃ p,kvs[i]? =some p:=⟨kvs[i]'(by omega),Qb _⟩;obtain ⟨b,rfl,hbw,hbD,key,o,m,hkey,hb,hc,hd⟩:=hval i v k x hP hki;have hb1:h'.get? b=some o:=hm b o hbw (ht b o hbw hbD hb);have hS1:h'.DictOf knd D (merged [] (kvs.take i)):=dat hS fun o e=>hm D o hDw e
  dsimp only;refine Q1 (WO (Q1 (wpAny_tryCatch ?_)));unfold Builtin.Dict.pairItems;refine Q1 (UL (T:= "tuple") ⟨o,hb1,hc⟩ ?_);rw [Qk (by decide)];refine Q1 (WU hb1 hd (Qe ?_));show wpAny _ _ (holding [key,x] (dictSet D key x)) _ _ _;refine WO ?_;unfold dictSet;refine WO (Q1 (knd.pyHash hkey ?_));refine wpAny_dictSetHashed_pairs hkey hS1 (fun h2 hS2 hsb=> ?_) (by
   have:=Qiy [] (kvs.take i);rw [Qj,WS] at this;omega)
  have e1:merged [] (kvs.take (i+1))=stored (merged [] (kvs.take i)) k x:=by
   unfold merged;rw [QJ,hki,Wm];rfl
  rw [<- e1] at hS2;refine Qe ⟨plainId_quiet Yh _,?_⟩;have:=ih (i+1) { s with heap:=h2,toks:=tk+1 } (by omega) hlt (W.frame _ h' _ hst' fun b hb o e=>by rw [hsb.2 b (fun z=>hDf (by rw [<- z];exact hb))];exact e) (fun b o hb hD e=>by rw [hsb.2 b hD];exact hm b o hb (ht b o hb hD e)) hS2
   (fun h3 tk3 keep fin=>hR h3 tk3 (fun b o hb hD e=>keep b o hb hD (by show h2.get? b=some o;rw [hsb.2 b hD];exact hm b o hb e)) fin)
  exact this
end
end DPr
end PySem
namespace ZP
open PySem
section
variable {prog:Program} {w:World} {A:Around} {E:Value->Shared->Prop} {s:Shared}
open Builtin.SmallTypes in
theorem draw_some {j q:Addr} {n:Nat} {us:Array Value} {v:Value} {Q:Value->Shared->Prop} (hj:s.heap.IsTupleIter j q n) (hq:s.heap.IsTuple q us) (hv:us[n]? =some v)
  (go: ∀ h',h'.IsTupleIter j q (n+1)->Heap.SameBut j s.heap h'->Q v { s with heap:=h' }):wpAny (model prog w) A (nextOf (.ref j)) Q E s:=by
 obtain ⟨oj,gj,cj,dj⟩:=id hj;obtain ⟨oq,gq,_,cap,dq⟩:=hq;unfold nextOf;refine Q1 (JC (name:=Str.ofString "__next__") hj.typeIs ZZ (Wh ZZ hj.typeIs F.entry_tuple_iterator_next ?_ (F.args_tuple_iterator_next_1 _)));show wpAny (model prog w) _ (field (.ref j) 0 >>= _) _ _ s;refine Q1 (J4 gj dj (x:= .ref q) rfl ?_);show wpAny (model prog w) _ (if (Value.ref q == Value.none)=true then _ else _) _ _ s;rw [Qn (show ¬ ((Value.ref q == Value.none)=true) from fun z=>nomatch z)];show wpAny (model prog w) _ (field (.ref j) 1 >>= _) _ _ s;refine Q1 (J4 gj dj (x:= .int n 0) rfl ?_);show wpAny (model prog w) _ (seqItems? (.ref q) >>= _) _ _ s;refine Q1 (WU gq dq ?_);simp only [Zz,hv];refine Q1 (OG gj dj (by simp) (Qe ⟨v,rfl,Qe (go _ ?_ (BL ..))⟩));refine ⟨_,WW _ gj (ZM (YW dj _)),(Obj.cls_mapFields ..).trans cj,?_⟩;rw [YW dj];simp [rawInt]
open Builtin.SmallTypes in
theorem draw_none {j q:Addr} {n:Nat} {us:Array Value} {Q:Value->Shared->Prop} (hA:A.handled=none) (hj:s.heap.IsTupleIter j q n) (hq:s.heap.IsTuple q us) (hv:us[n]? =none)
  (out: ∀ h' e,Heap.ExtBut j s.heap h'->(∃ o,h'.get? e=some o/\o.cls= .type "StopIteration")->E (.ref e) { s with heap:=h' }):wpAny (model prog w) A (nextOf (.ref j)) Q E s:=by
 obtain ⟨oj,gj,cj,dj⟩:=id hj;obtain ⟨oq,gq,_,cap,dq⟩:=hq;unfold nextOf;refine Q1 (JC (name:=Str.ofString "__next__") hj.typeIs ZZ (Wh ZZ hj.typeIs F.entry_tuple_iterator_next ?_ (F.args_tuple_iterator_next_1 _)));show wpAny (model prog w) _ (field (.ref j) 0 >>= _) _ _ s;refine Q1 (J4 gj dj (x:= .ref q) rfl ?_);show wpAny (model prog w) _ (if (Value.ref q == Value.none)=true then _ else _) _ _ s;rw [Qn (show ¬ ((Value.ref q == Value.none)=true) from fun z=>nomatch z)];show wpAny (model prog w) _ (field (.ref j) 1 >>= _) _ _ s;refine Q1 (J4 gj dj (x:= .int n 0) rfl ?_);show wpAny (model prog w) _ (seqItems? (.ref q) >>= _) _ _ s;refine Q1 (WU gq dq ?_);simp only [Zz,hv];refine Q1 (GS (Q1 (OG gj dj (by simp) ?_)));show wpAny (model prog w) _ (newExc (.type "StopIteration") [] >>= _) _ _ _;refine Q1 ?_;simp only [newExc,newTuple];refine Q1 (JN ?_ (by size_fits));refine Q1 (m:=firstArgMember _ _) (wpAny_of_eq (a:=Value.none) (by first | rfl | (simp only [firstArgMember];rfl)) ?_);refine JN ?_ (by size_fits);simp only [raiseNew];refine Q1 (wpAny_handled ?_);rw [show A.in1.handled=none from hA];refine Q1 (Qe (wpAny_throw ?_));exact out _ _ (((BL ..).extBut.push _).push _) ⟨_,Qg _ rfl,rfl⟩
structure At (h:Heap) (z ti to j1 j2 q1 q2:Addr) (n:Nat):Prop where
 z:IsZip h z ti to .none
 ti:IsPair h ti (.ref j1) (.ref j2)
 to: ∃ a b,IsPair h to a b
 j1:h.IsTupleIter j1 q1 n
 j2:h.IsTupleIter j2 q2 n
open Builtin.SmallTypes in
theorem Qnp {z ti to j1 j2 q1 q2:Addr} {n:Nat} {us vs:Array Value} {u v:Value} {Q:Value->Shared->Prop} (D:ZipApart z ti to j1 j2 q1 q2) (st:At s.heap z ti to j1 j2 q1 q2 n) (h1:s.heap.IsTuple q1 us) (h2:s.heap.IsTuple q2 vs)
  (hu:us[n]? =some u) (hv:vs[n]? =some v)
  (go: ∀ h',IsZip h' z ti to (rawInt s.heap.objs.size)->IsPair h' to u v->h'.IsTupleIter j1 q1 (n+1)->h'.IsTupleIter j2 q2 (n+1)->IsPair h' s.heap.objs.size u v ->
   (∀ c o,c≠z->c≠to->c≠j1->c≠j2->s.heap.get? c=some o->h'.get? c=some o)->Q (.ref s.heap.objs.size) { s with heap:=h' }) :
  wpAny (model prog w) A (Builtin.«zip.__next__» ⟨[.ref z],[]⟩) (fun fin s'=> ∃ v,fin= .done (.ret v)/\Q v s') E s:=by
 obtain ⟨hz,hti,⟨a,b,hto⟩,hj1,hj2⟩:=st;show wpAny (model prog w) _ (field (.ref z) 2 >>= _) _ _ _;refine Q1 (J4 hz rfl (x:= .bool false) rfl ?_);show wpAny (model prog w) _ (field (.ref z) 3 >>= _) _ _ _;refine Q1 (J4 hz rfl (x:= .ref ti) rfl ?_);refine Q1 (WU hti rfl ?_);show wpAny (model prog w) _ (ownedTupleIsFree (.ref z) >>= _) _ _ _;refine Q1 ?_;unfold ownedTupleIsFree;refine Q1 (J4 hz rfl (x:= .none) rfl (Qe ?_));simp only [Zx];refine Q1 (GS (Q1 (J4 hz rfl (x:= .ref to) rfl ?_)));refine Q1 (Jq hz (by simp) fun k1 z1 e1=> ?_);have z1':IsZip k1 z ti to .ellipsis:=z1;refine Q1 ?_;simp only [List.zipIdx_cons,List.zipIdx_nil,Qck,Qw0];refine Q1 (Q1 (Qrt ?_));show wpAny (model prog w) _ (nextOf (.ref j1) >>= _) _ _ _;refine Q1 (draw_some (hj1.extBut e1.extBut D.i1z) (h1.extBut e1.extBut D.l1z) hu fun k2 t2 e2=>Qe ?_);have o2:IsPair k2 to a b:=e2.extBut _ _ D.TOi1 (e1.extBut _ _ D.TOz hto);refine Q1 (WU o2 rfl (Q1 (Qlf o2 fun k3 o3 e3=> ?_)));have o3':IsPair k3 to u b:=o3;refine Q1 (wpAny_letGo (Qe (Q1 (Q1 (Qrt ?_)))));show wpAny (model prog w) _ (nextOf (.ref j2) >>= _) _ _ _;refine Q1 (draw_some (((hj2.extBut e1.extBut D.i2z).extBut e2.extBut D.i12.symm).extBut e3.extBut D.TOi2.symm) (((h2.extBut e1.extBut D.l2z).extBut e2.extBut D.l2i1).extBut e3.extBut D.l2TO) hv fun k4 t4 e4=>Qe ?_);have o4:IsPair k4 to u b:=e4.extBut _ _ D.TOi2 o3';refine Q1 (WU o4 rfl (Q1 (Qlf o4 fun k5 o5 e5=> ?_)));have o5':IsPair k5 to u v:=o5;refine Q1 (wpAny_letGo (Qe (Qe (Q1 (WU o5' rfl (Q1 (Qlg ?_)))))));have size5:k5.objs.size=s.heap.objs.size:=by rw [e5.1,e4.1,e3.1,e2.1,e1.1]
 have z5:IsZip k5 z ti to .ellipsis:=e5.extBut _ _ D.TOz.symm (e4.extBut _ _ D.i2z.symm (e3.extBut _ _ D.TOz.symm (e2.extBut _ _ D.i1z.symm z1')));have keep5: ∀ c o,c≠z->c≠to->c≠j1->c≠j2->s.heap.get? c=some o->k5.get? c=some o:=fun c o n1 n2 n3 n4 g=>e5.extBut _ _ n2 (e4.extBut _ _ n4 (e3.extBut _ _ n2 (e2.extBut _ _ n3 (e1.extBut _ _ n1 g))))
 have j15:k5.IsTupleIter j1 q1 (n+1):=((t2.extBut e3.extBut D.TOi1.symm).extBut e4.extBut D.i12).extBut e5.extBut D.TOi1.symm;have j25:k5.IsTupleIter j2 q2 (n+1):=t4.extBut e5.extBut D.TOi2.symm;have zlt:=Qa z5;show wpAny (model prog w) _ (ownedTupleHandOut (.ref z) (.ref k5.objs.size) >>= _) _ _ _;refine Q1 ?_;unfold ownedTupleHandOut;have z6:IsZip (k5.push { cls:= .type "tuple",data:= .seq #[u,v] }) z ti to .ellipsis:=Q2 _ z5;refine Q1 (Jq z6 (by simp) fun k7 z7 e7=> ?_);have z7':IsZip k7 z ti to (rawInt k5.objs.size):=z7;refine Jq z7' (by simp) fun k8 z8 e8=> ?_
 have z8':IsZip k8 z ti to (rawInt k5.objs.size):=z8;have up: ∀ c o,c≠z->k5.get? c=some o->k8.get? c=some o:=fun c o n1 g=>e8.extBut _ _ n1 (e7.extBut _ _ n1 (Q2 _ g))
 have t8:IsPair k8 k5.objs.size u v:=e8.extBut _ _ (JD zlt) (e7.extBut _ _ (JD zlt) (Qg _ rfl));rw [size5] at z8' t8;refine Qe ⟨_,rfl,?_⟩;show Q (.ref k5.objs.size) _;rw [size5];obtain ⟨x1,y1,r1⟩:=j15;obtain ⟨x2,y2,r2⟩:=j25;exact go k8 z8' (up _ _ D.TOz o5') ⟨x1,up _ _ D.i1z y1,r1⟩ ⟨x2,up _ _ D.i2z y2,r2⟩ t8 fun c o n1 n2 n3 n4 g=>up c o n1 (keep5 c o n1 n2 n3 n4 g)
open Builtin.SmallTypes in
theorem Qnq {z ti to j1 j2 q1 q2:Addr} {n:Nat} {us vs:Array Value} {Q:Fin->Shared->Prop} (hA:A.handled=none) (D:ZipApart z ti to j1 j2 q1 q2) (st:At s.heap z ti to j1 j2 q1 q2 n) (h1:s.heap.IsTuple q1 us) (h2:s.heap.IsTuple q2 vs)
  (fin:us[n]? =none \/ vs[n]? =none)
  (out: ∀ h' e,(∀ c o,c≠z->c≠to->c≠j1->c≠j2->s.heap.get? c=some o->h'.get? c=some o)->(∃ o,h'.get? e=some o/\o.cls= .type "StopIteration")->E (.ref e) { s with heap:=h' }) :
  wpAny (model prog w) A (Builtin.«zip.__next__» ⟨[.ref z],[]⟩) Q E s:=by
 obtain ⟨hz,hti,⟨a,b,hto⟩,hj1,hj2⟩:=st;show wpAny (model prog w) _ (field (.ref z) 2 >>= _) _ _ _;refine Q1 (J4 hz rfl (x:= .bool false) rfl ?_);show wpAny (model prog w) _ (field (.ref z) 3 >>= _) _ _ _;refine Q1 (J4 hz rfl (x:= .ref ti) rfl ?_);refine Q1 (WU hti rfl ?_);show wpAny (model prog w) _ (ownedTupleIsFree (.ref z) >>= _) _ _ _;refine Q1 ?_;unfold ownedTupleIsFree;refine Q1 (J4 hz rfl (x:= .none) rfl (Qe ?_));simp only [Zx];refine Q1 (GS (Q1 (J4 hz rfl (x:= .ref to) rfl ?_)));refine Q1 (Jq hz (by simp) fun k1 z1 e1=> ?_);have z1':IsZip k1 z ti to .ellipsis:=z1;refine Q1 ?_;simp only [List.zipIdx_cons,List.zipIdx_nil,Qck,Qw0];refine Q1 (Q1 (Qrt ?_));show wpAny (model prog w) _ (nextOf (.ref j1) >>= _) _ _ _;cases hu:us[n]? with
 | none =>
  refine Q1 (draw_none hA (hj1.extBut e1.extBut D.i1z) (h1.extBut e1.extBut D.l1z) hu fun k2 e e2 ⟨oe,ge,ce⟩=> ?_);have z2:IsZip k2 z ti to .ellipsis:=e2 _ _ D.i1z.symm z1';have ne:e≠z:=fun y=>by subst y;rw [z2] at ge;cases ge;simp at ce
  exact Jq z2 (by simp) fun k3 _ e3=>out k3 e (fun c o n1 _ n3 _ g=>e3.extBut _ _ n1 (e2 _ _ n3 (e1.extBut _ _ n1 g))) ⟨oe,e3.extBut _ _ ne ge,ce⟩
 | some u =>
  have hv:vs[n]? =none:=by
   rcases fin with f | f
   ·rw [hu] at f;cases f
   ·exact f
  refine Q1 (draw_some (hj1.extBut e1.extBut D.i1z) (h1.extBut e1.extBut D.l1z) hu fun k2 t2 e2=>Qe ?_);have o2:IsPair k2 to a b:=e2.extBut _ _ D.TOi1 (e1.extBut _ _ D.TOz hto);refine Q1 (WU o2 rfl (Q1 (Qlf o2 fun k3 o3 e3=> ?_)));refine Q1 (wpAny_letGo (Qe (Q1 (Q1 (Qrt ?_)))));show wpAny (model prog w) _ (nextOf (.ref j2) >>= _) _ _ _;refine Q1 (draw_none hA (((hj2.extBut e1.extBut D.i2z).extBut e2.extBut D.i12.symm).extBut e3.extBut D.TOi2.symm) (((h2.extBut e1.extBut D.l2z).extBut e2.extBut D.l2i1).extBut e3.extBut D.l2TO) hv fun k4 e e4 ⟨oe,ge,ce⟩=> ?_);have z4:IsZip k4 z ti to .ellipsis:=e4 _ _ D.i2z.symm (e3.extBut _ _ D.TOz.symm (e2.extBut _ _ D.i1z.symm z1'));have ne:e≠z:=fun y=>by subst y;rw [z4] at ge;cases ge;simp at ce
  exact Jq z4 (by simp) fun k5 _ e5=>out k5 e (fun c o n1 n2 n3 n4 g=>e5.extBut _ _ n1 (e4 _ _ n4 (e3.extBut _ _ n2 (e2.extBut _ _ n3 (e1.extBut _ _ n1 g))))) ⟨oe,e5.extBut _ _ ne ge,ce⟩
theorem next_some {z ti to j1 j2 q1 q2:Addr} {n:Nat} {us vs:Array Value} {u v:Value} {Q:Option Value->Shared->Prop} (D:ZipApart z ti to j1 j2 q1 q2) (st:At s.heap z ti to j1 j2 q1 q2 n) (h1:s.heap.IsTuple q1 us) (h2:s.heap.IsTuple q2 vs)
  (hu:us[n]? =some u) (hv:vs[n]? =some v)
  (go: ∀ h',IsZip h' z ti to (rawInt s.heap.objs.size)->IsPair h' to u v->h'.IsTupleIter j1 q1 (n+1)->h'.IsTupleIter j2 q2 (n+1)->IsPair h' s.heap.objs.size u v ->
   (∀ c o,c≠z->c≠to->c≠j1->c≠j2->s.heap.get? c=some o->h'.get? c=some o)->Q (some (.ref s.heap.objs.size)) { s with heap:=h' }):wpAny (model prog w) A (pyNext (.ref z)) Q E s:=by
 have ty:s.TypeIs (.ref z) "zip" :=⟨_,st.z,rfl⟩;unfold pyNext;exact Q1 (GY (JC (name:=Str.ofString "__next__") ty Qi3 (Wh Qi3 ty F.entry_zip_next (Qnp D st h1 h2 hu hv fun h' a1 a2 a3 a4 a5 a6=>Qe (go h' a1 a2 a3 a4 a5 a6)) (F.args_zip_next_1 _))))
theorem next_none {z ti to j1 j2 q1 q2:Addr} {n:Nat} {us vs:Array Value} {Q:Option Value->Shared->Prop} (hA:A.handled=none) (D:ZipApart z ti to j1 j2 q1 q2) (st:At s.heap z ti to j1 j2 q1 q2 n) (h1:s.heap.IsTuple q1 us) (h2:s.heap.IsTuple q2 vs)
  (fin:us[n]? =none \/ vs[n]? =none) (go: ∀ h',(∀ c o,c≠z->c≠to->c≠j1->c≠j2->s.heap.get? c=some o->h'.get? c=some o)->Q none { s with heap:=h' }):wpAny (model prog w) A (pyNext (.ref z)) Q E s:=by
 have ty:s.TypeIs (.ref z) "zip" :=⟨_,st.z,rfl⟩;unfold pyNext;refine Q1 (GY (JC (name:=Str.ofString "__next__") ty Qi3 (Wh Qi3 ty F.entry_zip_next (Qnq hA D st h1 h2 fin fun h' e keep ⟨o,g,c⟩=> ?_) (F.args_zip_next_1 _))));exact Q1 (Zh (T:= "StopIteration") (b:=true) ⟨o,g,c⟩ isSubtype_stop (Qe (go _ keep)))
abbrev tit (q:Addr):Obj:={ cls:= .type "tuple_iterator",data:= .fields #[.ref q,.int 0 0] }
abbrev g1 (h:Heap) (q1:Addr):Heap:=h.push (tit q1)
abbrev g2 (h:Heap) (q1 q2:Addr):Heap:=(g1 h q1).push (tit q2)
abbrev g3 (h:Heap) (q1 q2:Addr):Heap:=(g2 h q1 q2).push { cls:= .type "tuple",data:= .seq #[.ref h.objs.size,.ref (g1 h q1).objs.size] }
abbrev g4 (h:Heap) (q1 q2:Addr):Heap:=(g3 h q1 q2).push { cls:= .type "tuple",data:= .seq #[.none,.none] }
abbrev g5 (h:Heap) (q1 q2:Addr):Heap:=(g4 h q1 q2).push { cls:= .type "zip",data:= .fields #[.none,.bool false,.bool false,.ref (g2 h q1 q2).objs.size,.ref (g3 h q1 q2).objs.size] }
theorem O1 (q1 q2:Addr) (us vs:Array Value):Meets (Builtin.«zip.__new__» ⟨[.type "zip",.ref q1,.ref q2],[]⟩) (fun _ R s=>s.heap.IsTuple q1 us/\s.heap.IsTuple q2 vs/\R (.ok (.ret (.ref (g4 s.heap q1 q2).objs.size))) { s with heap:=g5 s.heap q1 q2 }) :=
 .of_wp fun prog w A R s h=>by
  obtain ⟨hp,g,d,tk,os⟩:=s;obtain ⟨a1,a2,h⟩:=h;have sub:=sub_zip;have b1:Heap.IsTuple (Shared.heap ⟨hp,g,d,tk,os⟩) q1 us:=a1;have b2:Heap.IsTuple (Shared.heap ⟨hp.push { cls:= .type "tuple_iterator",data:= .fields #[.ref q1,.int 0 0] },g,d,tk,os⟩) q2 vs:=Heap.IsTuple.push a2 _
  wp_walk using ZB b1,ZB b2
  exact ⟨_,rfl,h⟩
theorem call_zip {q1 q2:Addr} {us vs:Array Value} {Q:Value->Shared->Prop} (a1:s.heap.IsTuple q1 us) (a2:s.heap.IsTuple q2 vs)
  (go: ∀ h',At h' (s.heap.objs.size+4) (s.heap.objs.size+2) (s.heap.objs.size+3) s.heap.objs.size (s.heap.objs.size+1) q1 q2 0->(∀ c o,s.heap.get? c=some o->h'.get? c=some o)->Q (.ref (s.heap.objs.size+4)) { s with heap:=h' }) :
  wpAny (model prog w) A (call (.type "zip") [.ref q1,.ref q2]) Q E s:=by
 refine callType_new F.called_zip (by decide) (F.typeCall_zip_2 _ _) (F.newCall_zip_2 _ _) (fun obj=>F.args_object_init_3 obj _ _) F.entry_zip_new (O1 q1 q2 us vs) ⟨a1,a2,?_⟩;have n1:(g1 s.heap q1).objs.size=s.heap.objs.size+1:=WV ..;have n2:(g2 s.heap q1 q2).objs.size=s.heap.objs.size+2:=by rw [WV,n1]
 have n3:(g3 s.heap q1 q2).objs.size=s.heap.objs.size+3:=by rw [WV,n2]
 have n4:(g4 s.heap q1 q2).objs.size=s.heap.objs.size+4:=by rw [WV,n3]
 have e5:(g5 s.heap q1 q2).get? (g4 s.heap q1 q2).objs.size=some _:=Qg _ rfl;have e4:(g5 s.heap q1 q2).get? (g3 s.heap q1 q2).objs.size=some _:=Q2 _ (Qg _ rfl);have e3:(g5 s.heap q1 q2).get? (g2 s.heap q1 q2).objs.size=some _:=Q2 _ (Q2 _ (Qg _ rfl));have e2:(g5 s.heap q1 q2).get? (g1 s.heap q1).objs.size=some _:=Q2 _ (Q2 _ (Q2 _ (Qg _ rfl)));have e1:(g5 s.heap q1 q2).get? s.heap.objs.size=some _:=Q2 _ (Q2 _ (Q2 _ (Q2 _ (Qg _ rfl))));show _/\_;rw [n2,n3,n4] at e5;rw [n1,n2] at e3;rw [n3] at e4;rw [n1] at e2;rw [n4];exact ⟨⟨_,e5,rfl⟩,go _ ⟨e5,e3,⟨_,_,e4⟩,⟨_,e1,rfl,rfl⟩,⟨_,e2,rfl,rfl⟩⟩ fun c o y=>Q2 _ (Q2 _ (Q2 _ (Q2 _ (Q2 _ y))))⟩
theorem apart {n q1 q2:Addr} (a1:q1 < n) (a2:q2 < n):ZipApart (n+4) (n+2) (n+3) n (n+1) q1 q2:=by
 constructor<;>(intro z;simp only [Addr] at *; omega)
end
end ZP
namespace L2
open PySem PySem.Spec PyProof.Rows
section
variable {X:Cx} {pins:List (Addr×Obj)} {σ:St} {H:Hp} {s:Shared}
theorem Inv.turnedL {h':Heap} {t':Nat} {fp:List Addr} (I:Inv X pins σ H s) (k: ∀ b o,b ∉ fp->s.heap.get? b=some o->h'.get? b=some o) (hf: ∀ b∈fp,FpOk X pins H b):Inv X pins σ H { s with heap:=h',toks:=t' }:=by
 have nit: ∀ b u,H b=some u->b ∉ fp:=fun b u e z=>by rw [(hf b z).1] at e;cases e
 refine I.step (g':=s.gens) (d':=s.drawn) (ch:=fp) (fun b hb=>⟨(hf b hb).2.2.2.1,(hf b hb).2.1,(hf b hb).2.2.2.2.1,(hf b hb).2.2.2.2.2⟩) (fun b o _ _ hc e _=>k b o hc e) (fun b o _ _ hc e _=>⟨o.slots,k b o hc e⟩) (fun _ _ _ _ n=>n)
  (fun b o hc e=>⟨o,k b o hc e⟩) (fun _ _ e=>e) (fun _ _ _ e=>e) (fun b ps e=>⟨#[],by rw [e];simp⟩) (fun m hm=> ?_) (fun b u e=> ?_) I.bare
 ·obtain ⟨o,es,ep,ho,r⟩:=hm;exact ⟨o,es,ep,k _ o (fun z=>(hf _ z).2.1 rfl) ho,r⟩
 ·refine (I.hok b u e).stay (fun c v hc q=>k c v ?_ q) (fun _ q=>q) fun _ _ q=>q
  rcases hc with z | z
  ·rw [z];exact nit b u e
  ·exact nit c _ z
end
def Itz (K:W.Frag) (a b:Addr):It :=
 ⟨fun i H=> ∃ xs ys x y,SqT K H a xs/\SqT K H b ys/\xs[i]? =some x/\ys[i]? =some y,
  fun i H v H'=> ∃ p x y,v= .ref p/\H p=none/\H'=upd H p (.tup [x,y])/\(∀ xs,SqT K H a xs->xs[i]? =some x)/\ ∀ ys,SqT K H b ys->ys[i]? =some y,
  fun i H=> ∃ xs ys,SqT K H a xs/\SqT K H b ys/\(xs.length<=i \/ ys.length<=i)⟩
theorem Qnx {P:Program} {w:World} {K:W.Frag} {elts:List Expr} {k:Nat} {pos:Pos} {z ti to j1 j2 a b:Addr} (D:ZipApart z ti to j1 j2 a b) :
  Turn P w K (.Tuple elts k pos) (Itz K a b) [z,ti,to,j1,j2] z (fun i h=>ZP.At h z ti to j1 j2 a b i) where
 mem:=by simp
 obj:=fun i h st c hc=>by
  obtain ⟨hz,hti,⟨u,v,hto⟩,⟨o1,e1,_,d1⟩,⟨o2,e2,_,d2⟩⟩:=st;simp only [Qd,QV,JX] at hc;rcases hc with rfl | rfl | rfl | rfl | rfl
  ·exact ⟨_,hz,fun v q=>by cases q⟩
  ·exact ⟨_,hti,fun v q=>by cases q⟩
  ·exact ⟨_,hto,fun v q=>by cases q⟩
  ·exact ⟨_,e1,fun v q=>by rw [d1] at q;cases q⟩
  ·exact ⟨_,e2,fun v q=>by rw [d2] at q;cases q⟩
 keep:=fun i h h' st k=>by
  obtain ⟨hz,hti,⟨u,v,hto⟩,⟨o1,e1,r1⟩,⟨o2,e2,r2⟩⟩:=st;exact ⟨k _ (by simp) _ hz,k _ (by simp) _ hti,⟨u,v,k _ (by simp) _ hto⟩,⟨o1,k _ (by simp) _ e1,r1⟩,⟨o2,k _ (by simp) _ e2,r2⟩⟩
 item:=by
  intro X hP hw hK hc i pins s σ H E I hf st hg;subst hP hw hK;obtain ⟨xs,ys,x,y,q1,q2,hx,hy⟩:=hg;obtain ⟨us,r1,p1,z1⟩:=I.tuple q1;obtain ⟨vs,r2,p2,z2⟩:=I.tuple q2;obtain ⟨u,hu,ru⟩:=r1.get hx;obtain ⟨v,hv,rv⟩:=r2.get hy;refine ZP.next_some D st (show s.heap.IsTuple a us.toArray from p1) (show s.heap.IsTuple b vs.toArray from p2) (u:=u) (v:=v) (by simpa using hu) (by simpa using hv) fun h' nz nt n1 n2 np keep=> ?_
  refine ⟨_,rfl,wpAny_letOwnedTupleGo_zip nz fun h2 mz sb=> ?_⟩;have fresh:H s.heap.objs.size=none:=I.hok.fresh (Q6 _);have lt: ∀ c∈[z,ti,to,j1,j2],c≠s.heap.objs.size:=fun c hc'=>by
   have: ∃ o,s.heap.get? c=some o:=by
    obtain ⟨hz,hti,⟨u,v,hto⟩,⟨o1,e1,r1⟩,⟨o2,e2,r2⟩⟩:=st;simp only [Qd,QV,JX] at hc';rcases hc' with rfl | rfl | rfl | rfl | rfl
    ·exact ⟨_,hz⟩
    ·exact ⟨_,hti⟩
    ·exact ⟨_,hto⟩
    ·exact ⟨_,e1⟩
    ·exact ⟨_,e2⟩
   obtain ⟨o,e⟩:=this;exact Qq (Qa e)
  have I0:Inv X pins σ (upd H s.heap.objs.size (.tup [x,y])) { s with heap:=s.heap.push { cls:= .type "tuple",data:= .seq #[u,v] },toks:=s.toks } :=
   I.laid (fun c o e=>Q2 _ e) (Q6 _) ⟨by show 2<=_;decide,[u,v],.cons ru (.cons rv .nil),⟨_,Qg _ rfl,rfl,_,rfl⟩⟩
  have fok: ∀ c∈[z,to,j1,j2],FpOk X pins (upd H s.heap.objs.size (.tup [x,y])) c:=fun c hc'=>by
   have hc2:c∈[z,ti,to,j1,j2]:=by
    simp only [Qd,QV,JX] at hc' ⊢;rcases hc' with rfl | rfl | rfl | rfl<;>simp
   obtain ⟨f0,f1,f2,f3,f4,f5⟩:=hf c hc2;exact ⟨by rw [J1 (lt c hc2)];exact f0,f1,f2,f3,f4,f5⟩
  refine ⟨.ref s.heap.objs.size,upd H s.heap.objs.size (.tup [x,y]),?_,rfl,⟨_,x,y,rfl,fresh,rfl,fun zs hz'=>by rw [I.tuple_inj hz' q1];exact hx,fun zs hz'=>by rw [I.tuple_inj hz' q2];exact hy⟩,?_,fun c hc'=>by rw [J1 (lt c hc')];exact (hf c hc').1⟩
  ·have I1:Inv X pins σ (upd H s.heap.objs.size (.tup [x,y])) { s with heap:=h2,toks:=s.toks }:=Inv.turnedL (s:={ s with heap:=s.heap.push { cls:= .type "tuple",data:= .seq #[u,v] },toks:=s.toks }) (fp:=[z,to,j1,j2]) I0 ?_ fok
   ·exact I1
   intro c o hc' e;replace e:(s.heap.push { cls:= .type "tuple",data:= .seq #[u,v] }).get? c=some o:=e;simp only [Qd,QV,JX,not_or] at hc';obtain ⟨c1,c2,c3,c4⟩:=hc'
   by_cases hT:c=s.heap.objs.size
   ·subst hT;rw [Qg _ rfl] at e;rw [<- e];exact sb.extBut _ _ c1 np
   ·exact sb.extBut _ _ c1 (keep c o c1 c2 c3 c4 (by rwa [Qw1 _ _ _ hT] at e))
  ·obtain ⟨o1,e1,s1⟩:=n1;obtain ⟨o2,e2,s2⟩:=n2;exact ⟨mz,sb.extBut _ _ D.TIz (keep _ _ D.TIz D.TITO D.TIi1 D.TIi2 st.ti),⟨u,v,sb.extBut _ _ D.TOz nt⟩,⟨o1,sb.extBut _ _ D.i1z e1,s1⟩,⟨o2,sb.extBut _ _ D.i2z e2,s2⟩⟩
 done:=by
  intro X hP hw hK hc i pins s σ H E I hf st hg;subst hP hw hK;obtain ⟨xs,ys,q1,q2,hx⟩:=hg;obtain ⟨us,r1,p1,z1⟩:=I.tuple q1;obtain ⟨vs,r2,p2,z2⟩:=I.tuple q2;have l1:=r1.length;have l2:=r2.length;refine ZP.next_none (I.ok.hd hc) D st (show s.heap.IsTuple a us.toArray from p1) (show s.heap.IsTuple b vs.toArray from p2) (hx.imp (fun q=>by simp;omega) fun q=>by simp;omega) fun h' keep=>⟨rfl,?_⟩
  refine I.turnedL (t':=s.toks) (fp:=[z,to,j1,j2]) (fun c o hc' e=> ?_) fun c hc'=>hf c ?_
  ·simp only [Qd,QV,JX,not_or] at hc';exact keep c o hc'.1 hc'.2.1 hc'.2.2.1 hc'.2.2.2 e
  ·simp only [Qd,QV,JX] at hc' ⊢;rcases hc' with rfl | rfl | rfl | rfl<;>simp
 self:=fun _ _ _ _ _ st h=>wpAny_pyIter_zip st.z h
section
variable {X:Cx}
theorem Qnc:bootBuiltins "zip" =some (.type "zip"):=by decide +kernel
def Jat (K:W.Frag) (ta:TA):TI:=fun σ H R=>ta σ H fun vs H1=> ∃ a b,vs=[.ref a,.ref b]/\(∃ xs,SqT K H1 a xs)/\(∃ ys,SqT K H1 b ys)/\R (Itz K a b) H1
theorem Qir {e1 e2:Expr} {ta:TA} {p pos tp:Pos} {elts:List Expr} {k:Nat} (hg:Gl X "zip") (hm:X.mg "zip" =none) (ha:PA X [e1,e2] ta) (hs:starEach [e1,e2] X.env=[(false,eval e1 X.env),(false,eval e2 X.env)]:=by rfl) (hs2:starEach [e2] X.env=[(false,eval e2 X.env)]:=by rfl) :
  PI X (.Tuple elts k tp) (.Call (.Name "zip" p) [e1,e2] [] pos) (Jat X.K ta):=by
 intro pins s σ H R I h;refine Call_ (Bd I hg hm Qnc (Ww (thn (ha pos pins s σ H _ I h) fun us s1 ⟨vs,H1,I1,r1,q1⟩=> ?_) (by rw [hs,hs2]) (by rw [hs2];rfl)));obtain ⟨a,b,rfl,⟨xs,qa⟩,⟨ys,qb⟩,q⟩:=q1;obtain ⟨u,v,rfl,ru,rv⟩:=r1.two;cases ru;cases rv;obtain ⟨as,ra,pa,za⟩:=I1.tuple qa;obtain ⟨bs,rb,pb,zb⟩:=I1.tuple qb;have a1:s1.heap.IsTuple a as.toArray:=pa;have b1:s1.heap.IsTuple b bs.toArray:=pb;have la:a < s1.heap.objs.size:=by obtain ⟨_,e,_⟩:=a1;exact Qa e
 have lb:b < s1.heap.objs.size:=by obtain ⟨_,e,_⟩:=b1;exact Qa e
 refine ZP.call_zip a1 b1 fun h' st keep=>wpAny_pyIter_zip st.z ?_
 refine ⟨_,[s1.heap.objs.size+4,s1.heap.objs.size+2,s1.heap.objs.size+3,s1.heap.objs.size,s1.heap.objs.size+1],_,_,H1,rfl,I1.kept (t':=s1.toks) keep,Qnx (ZP.apart la lb),st,fun c hc=> ?_,q⟩;have le:s1.heap.objs.size<=c:=by
  simp only [Qd,QV,JX] at hc;rcases hc with rfl | rfl | rfl | rfl | rfl
  ·exact OM _ _
  ·exact OM _ _
  ·exact OM _ _
  ·exact Q6 _
  ·exact OM _ _
 exact I1.fpOk le (I1.hok.fresh le)
end
end L2
namespace EN
open PySem
open AutoSeq1 (wpAny_loadPart')
section
variable {prog:Program} {w:World} {A:Around} {E:Value->Shared->Prop} {s:Shared}
open Builtin.SmallTypes in
theorem Qn4 {e j q:Addr} {n:Nat} {us:Array Value} {u old:Value} {Q:Value->Shared->Prop} (he:IsEnum s.heap e j n old) (hj:s.heap.IsTupleIter j q n) (hq:s.heap.IsTuple q us) (hu:us[n]? =some u) (ne:e≠j)
  (go: ∀ h',IsEnumOut h' e j ((n:Int)+1) u s.heap.objs.size->h'.IsTupleIter j q (n+1)->h'.get? s.heap.objs.size=some { cls:= .type "tuple",data:= .seq #[.int n s.toks,u] } ->
   (∀ c o,c≠e->c≠j->s.heap.get? c=some o->h'.get? c=some o)->Q (.ref s.heap.objs.size) { s with heap:=h',toks:=s.toks+1 }) :
  wpAny (model prog w) A (Builtin.«enumerate.__next__» ⟨[.ref e],[]⟩) (fun fin s'=> ∃ v,fin= .done (.ret v)/\Q v s') E s:=by
 obtain ⟨hp,g,d,tk,os⟩:=s;show wpAny (model prog w) _ (field (.ref e) 2 >>= _) _ _ _;refine Q1 (J4 he rfl (x:= .ref j) rfl ?_);refine Q1 (ZP.draw_some hj hq hu fun k1 t1 b1=> ?_);have b1':Heap.SameBut j hp k1:=b1;have e1:IsEnum k1 e j n old:=(b1'.2 e ne).trans he;show wpAny (model prog w) _ (field (.ref e) 3 >>= _) _ _ ⟨k1,g,d,tk,os⟩;refine Q1 (J4 e1 rfl (x:=rawInt n) rfl ?_);show wpAny (model prog w) _ (field (.ref e) 4 >>= _) _ _ ⟨k1,g,d,tk,os⟩;refine Q1 (J4 e1 rfl (x:= .none) rfl ?_);show wpAny (model prog w) _ (mkInt n >>= _) _ _ ⟨k1,g,d,tk,os⟩;refine Q1 (wpAny_mkInt ?_);show wpAny (model prog w) _ (setField (.ref e) 3 (rawInt ((n:Int)+1)) >>= _) _ _ ⟨k1,g,d,tk+1,os⟩;refine Q1 (Jq e1 (by simp) fun k2 e2 b2=> ?_);have b2':Heap.SameBut e k1 k2:=b2;have e2':IsEnum k2 e j ((n:Int)+1) old:=e2;show wpAny (model prog w) _ (setField (.ref e) 4 .none >>= _) _ _ ⟨k2,g,d,tk+1,os⟩;refine Q1 (Jq e2' (by simp) fun k3 e3 b3=> ?_);have b3':Heap.SameBut e k2 k3:=b3;have e3':IsEnum k3 e j ((n:Int)+1) old:=e3;show wpAny (model prog w) _ (newTuple [.int n tk,u] >>= _) _ _ ⟨k3,g,d,tk+1,os⟩;refine Q1 (Qlg ?_);have e4:IsEnum (k3.push { cls:= .type "tuple",data:= .seq #[.int n tk,u] }) e j ((n:Int)+1) old:=Q2 _ e3';generalize h4:k3.push { cls:= .type "tuple",data:= .seq #[.int n tk,u] }=k4 at e4;have sz:k3.objs.size=hp.objs.size:=by rw [b3'.1,b2'.1,b1'.1]
 have lt:e < hp.objs.size:=Qa he;have t4:k4.get? hp.objs.size=some { cls:= .type "tuple",data:= .seq #[.int n tk,u] }:=by rw [<- h4,<- sz];exact Qg _ rfl
 have keep4: ∀ c o,c≠e->c≠j->hp.get? c=some o->k4.get? c=some o:=fun c o n1 n2 g=>by
  rw [<- h4];exact Q2 _ (b3'.extBut c o n1 (b2'.extBut c o n1 (b1'.extBut c o n2 g)))
 have j4:k4.IsTupleIter j q (n+1):=by
  rw [<- h4];obtain ⟨o,ho,r⟩:=(t1.extBut b2'.extBut (J5 ne)).extBut b3'.extBut (J5 ne);exact ⟨o,Q2 _ ho,r⟩
 show wpAny (model prog w) _ (ownedTupleIsFree (.ref e) >>= _) _ _ ⟨k4,g,d,tk+1,os⟩;rw [sz];refine Q1 ?_;unfold ownedTupleIsFree;refine Q1 (J4 e4 rfl (x:= .none) rfl (Qe ?_));simp only [Zx];refine Q1 (GS (Q1 (J4 e4 rfl (x:=old) rfl ?_)));refine Q1 (Jq e4 (by simp) fun k5 e5 b5=> ?_);have b5':Heap.SameBut e k4 k5:=b5;have e5':IsEnum k5 e j ((n:Int)+1) u:=e5;show wpAny (model prog w) _ (ownedTupleHandOut (.ref e) (.ref hp.objs.size) >>= _) _ _ ⟨k5,g,d,tk+1,os⟩;refine Q1 ?_;unfold ownedTupleHandOut;refine Q1 (Jq e5' (by simp) fun k6 e6 b6=> ?_);have b6':Heap.SameBut e k5 k6:=b6;have e6':IsEnumOut k6 e j ((n:Int)+1) u hp.objs.size:=e6;refine Jq e6' (by simp) fun k7 e7 b7=> ?_
 have b7':Heap.SameBut e k6 k7:=b7;have e7':IsEnumOut k7 e j ((n:Int)+1) u hp.objs.size:=e7;refine Q1 (wpAny_letGo (Qe ⟨_,rfl,go k7 e7' ?_ ?_ ?_⟩))
 ·exact ((j4.extBut b5'.extBut (J5 ne)).extBut b6'.extBut (J5 ne)).extBut b7'.extBut (J5 ne)
 ·exact b7'.extBut _ _ (JD lt) (b6'.extBut _ _ (JD lt) (b5'.extBut _ _ (JD lt) t4))
 ·exact fun c o n1 n2 g=>b7'.extBut c o n1 (b6'.extBut c o n1 (b5'.extBut c o n1 (keep4 c o n1 n2 g)))
theorem next_some {e j q:Addr} {n:Nat} {us:Array Value} {u old:Value} {Q:Option Value->Shared->Prop} (he:IsEnum s.heap e j n old) (hj:s.heap.IsTupleIter j q n) (hq:s.heap.IsTuple q us) (hu:us[n]? =some u) (ne:e≠j)
  (go: ∀ h',IsEnumOut h' e j ((n:Int)+1) u s.heap.objs.size->h'.IsTupleIter j q (n+1)->h'.get? s.heap.objs.size=some { cls:= .type "tuple",data:= .seq #[.int n s.toks,u] } ->
   (∀ c o,c≠e->c≠j->s.heap.get? c=some o->h'.get? c=some o)->Q (some (.ref s.heap.objs.size)) { s with heap:=h',toks:=s.toks+1 }):wpAny (model prog w) A (pyNext (.ref e)) Q E s:=by
 have ty:s.TypeIs (.ref e) "enumerate" :=⟨_,he,rfl⟩;unfold pyNext;exact Q1 (GY (JC (name:=Str.ofString "__next__") ty Gu (Wh Gu ty F.entry_enumerate_next (Qn4 he hj hq hu ne fun h' a b c d=>Qe (go h' a b c d)) (F.args_enumerate_next_1 _))))
theorem next_none {e j q:Addr} {n:Nat} {us:Array Value} {old:Value} {Q:Option Value->Shared->Prop} (hA:A.handled=none) (he:IsEnum s.heap e j n old) (hj:s.heap.IsTupleIter j q n) (hq:s.heap.IsTuple q us) (hu:us[n]? =none)
  (go: ∀ h',Heap.ExtBut j s.heap h'->Q none { s with heap:=h' }):wpAny (model prog w) A (pyNext (.ref e)) Q E s:=by
 have ty:s.TypeIs (.ref e) "enumerate" :=⟨_,he,rfl⟩;unfold pyNext;refine Q1 (GY (JC (name:=Str.ofString "__next__") ty Gu (Wh Gu ty F.entry_enumerate_next ?_ (F.args_enumerate_next_1 _))));show wpAny (model prog w) _ (field (.ref e) 2 >>= _) _ _ _;refine Q1 (J4 he rfl (x:= .ref j) rfl (Q1 (ZP.draw_none hA hj hq hu fun h' x k ⟨o,ho,hc⟩=> ?_)));exact Q1 (Zh (T:= "StopIteration") (b:=true) ⟨o,ho,hc⟩ isSubtype_stop (Qe (go _ k)))
theorem O1 (q:Addr) (us:Array Value) (n:Nat) (dct:Option Addr) (sl:Array (Option Value)) :
  Meets (Builtin.«enumerate.__new__» ⟨[.type "enumerate",.ref q],[]⟩) (fun _ R s=>s.heap.get? q=some { cls:= .type "tuple",dict:=dct,data:= .seq us n,slots:=sl } /\
   R (.ok (.ret (.ref (s.heap.push (ZP.tit q)).objs.size))) { s with heap:=(s.heap.push (ZP.tit q)).push { cls:= .type "enumerate",data:= .fields #[.none,.bool false,.ref s.heap.objs.size,rawInt 0,.none,.none] } }) :=
 .of_wp fun prog w A R s h=>by
  obtain ⟨hp,g,d,tk,os⟩:=s;obtain ⟨hl,h⟩:=h;have sub:=sub_enumerate;have hq:Heap.IsTuple (Shared.heap ⟨hp,g,d,tk,os⟩) q us:=⟨_,hl,rfl,n,rfl⟩
  wp_walk using wpAny_loadPart' hl
  refine wpAny_stack_any fun st=>Qe ?_
  split
  ·rename_i c _ _ _ _ _;cases (c == Value.type "enumerate")
   all_goals
    wp_walk using wpAny_loadPart' hl,ZB hq
    exact ⟨_,rfl,h⟩
  ·wp_walk using wpAny_loadPart' hl,ZB hq
   exact ⟨_,rfl,h⟩
theorem call_enum {q:Addr} {us:Array Value} {Q:Value->Shared->Prop} (hq:s.heap.IsTuple q us)
  (go: ∀ h',IsEnum h' (s.heap.objs.size+1) s.heap.objs.size 0 .none->h'.IsTupleIter s.heap.objs.size q 0->(∀ c o,s.heap.get? c=some o->h'.get? c=some o)->Q (.ref (s.heap.objs.size+1)) { s with heap:=h' }) :
  wpAny (model prog w) A (call (.type "enumerate") [.ref q]) Q E s:=by
 obtain ⟨⟨c,dct,dt,sl⟩,hl,hc,n,hd⟩:=hq;cases (show c=Value.type "tuple" from hc);cases (show dt=Data.seq us n from hd);refine callType_new F.called_enumerate (by decide) (F.typeCall_enumerate_1 _) (F.newCall_enumerate_1 _) (fun obj=>F.args_object_init_2 obj _) F.entry_enumerate_new (O1 q us n dct sl) ⟨hl,?_⟩;have sz:(s.heap.push (ZP.tit q)).objs.size=s.heap.objs.size+1:=WV ..;show _/\_;rw [sz];have he:IsEnum ((s.heap.push (ZP.tit q)).push { cls:= .type "enumerate",data:= .fields #[.none,.bool false,.ref s.heap.objs.size,rawInt 0,.none,.none] }) (s.heap.objs.size+1) s.heap.objs.size 0 .none:=by
  have:=Qg (s.heap.push (ZP.tit q)) (o:={ cls:= .type "enumerate",data:= .fields #[.none,.bool false,.ref s.heap.objs.size,rawInt 0,.none,.none] }) rfl;rw [sz] at this;exact this
 exact ⟨⟨_,he,rfl⟩,go _ he ⟨_,Q2 _ (Qg _ rfl),rfl,rfl⟩ fun b o x=>Q2 _ (Q2 _ x)⟩
end
end EN
namespace L2
open PySem PySem.Spec PyProof.Rows
def Ite (K:W.Frag) (a:Addr):It :=
 ⟨fun i H=> ∃ xs x,SqT K H a xs/\xs[i]? =some x,fun i H v H'=> ∃ p x,v= .ref p/\H p=none/\H'=upd H p (.tup [.int i,x])/\ ∀ xs,SqT K H a xs->xs[i]? =some x,fun i H=> ∃ xs,SqT K H a xs/\xs.length<=i⟩
theorem Qlq {P:Program} {w:World} {K:W.Frag} {elts:List Expr} {k:Nat} {pos:Pos} {e j a:Addr} (ne:e≠j) :
  Turn P w K (.Tuple elts k pos) (Ite K a) [e,j] e (fun i h=>(∃ old,IsEnum h e j (i:Nat) old)/\h.IsTupleIter j a i) where
 mem:=by simp
 obj:=fun i h st c hc=>by
  obtain ⟨⟨old,he⟩,o,ej,_,dj⟩:=st;simp only [Qd,QV,JX] at hc;rcases hc with rfl | rfl
  ·exact ⟨_,he,fun v q=>by cases q⟩
  ·exact ⟨_,ej,fun v q=>by rw [dj] at q;cases q⟩
 keep:=fun i h h' st k=>by
  obtain ⟨⟨old,he⟩,o,ej,r⟩:=st;exact ⟨⟨old,k _ (by simp) _ he⟩,o,k _ (by simp) _ ej,r⟩
 item:=by
  intro X hP hw hK hc i pins s σ H E I hf st hg;subst hP hw hK;obtain ⟨xs,x,q1,hx⟩:=hg;obtain ⟨⟨old,he⟩,hj⟩:=st;obtain ⟨us,r1,p1,z1⟩:=I.tuple q1;obtain ⟨u,hu,ru⟩:=r1.get hx;refine EN.next_some he hj (show s.heap.IsTuple a us.toArray from p1) (u:=u) (by simpa using hu) ne fun h' no nj np keep=> ?_
  refine ⟨_,rfl,wpAny_letOwnedTupleGo_enum no fun h2 mo sb=> ?_⟩;have fresh:H s.heap.objs.size=none:=I.hok.fresh (Q6 _);have lt: ∀ c∈[e,j],c≠s.heap.objs.size:=fun c hc'=>by
   have: ∃ o,s.heap.get? c=some o:=by
    obtain ⟨o,ej,_⟩:=hj;simp only [Qd,QV,JX] at hc';rcases hc' with rfl | rfl
    ·exact ⟨_,he⟩
    ·exact ⟨_,ej⟩
   obtain ⟨o,ee⟩:=this;exact Qq (Qa ee)
  have I0:Inv X pins σ (upd H s.heap.objs.size (.tup [.int i,x])) { s with heap:=s.heap.push { cls:= .type "tuple",data:= .seq #[.int i s.toks,u] },toks:=s.toks+1 } :=
   I.laid (fun c o e=>Q2 _ e) (Q6 _) ⟨by show 2<=_;decide,[.int i s.toks,u],.cons ⟨_,rfl⟩ (.cons ru .nil),⟨_,Qg _ rfl,rfl,_,rfl⟩⟩
  have fok: ∀ c∈[e,j],FpOk X pins (upd H s.heap.objs.size (.tup [.int i,x])) c:=fun c hc'=>by
   obtain ⟨f0,f1,f2,f3,f4,f5⟩:=hf c hc';exact ⟨by rw [J1 (lt c hc')];exact f0,f1,f2,f3,f4,f5⟩
  refine ⟨.ref s.heap.objs.size,upd H s.heap.objs.size (.tup [.int i,x]),?_,rfl,⟨_,x,rfl,fresh,rfl,fun zs hz'=>by rw [I.tuple_inj hz' q1];exact hx⟩,?_,fun c hc'=>by rw [J1 (lt c hc')];exact (hf c hc').1⟩
  ·have I1:Inv X pins σ (upd H s.heap.objs.size (.tup [.int i,x])) { s with heap:=h2,toks:=s.toks+1 }:=Inv.turnedL (s:={ s with heap:=s.heap.push { cls:= .type "tuple",data:= .seq #[.int i s.toks,u] },toks:=s.toks+1 }) (fp:=[e,j]) I0 ?_ fok
   ·exact I1
   intro c o hc' ee;replace ee:(s.heap.push { cls:= .type "tuple",data:= .seq #[.int i s.toks,u] }).get? c=some o:=ee;simp only [Qd,QV,JX,not_or] at hc'
   by_cases hT:c=s.heap.objs.size
   ·subst hT;rw [Qg _ rfl] at ee;rw [<- ee];exact sb.extBut _ _ hc'.1 np
   ·exact sb.extBut _ _ hc'.1 (keep c o hc'.1 hc'.2 (by rwa [Qw1 _ _ _ hT] at ee))
  ·obtain ⟨o1,e1,s1⟩:=nj;refine ⟨⟨u,?_⟩,o1,sb.extBut _ _ (J5 ne) e1,s1⟩;have:((i:Int)+1)=((i+1:Nat):Int):=by omega
   rw [<- this];exact mo
 done:=by
  intro X hP hw hK hc i pins s σ H E I hf st hg;subst hP hw hK;obtain ⟨xs,q1,hx⟩:=hg;obtain ⟨⟨old,he⟩,hj⟩:=st;obtain ⟨us,r1,p1,z1⟩:=I.tuple q1;have l1:=r1.length;refine EN.next_none (I.ok.hd hc) he hj (show s.heap.IsTuple a us.toArray from p1) (by simp;omega) fun h' keep=>⟨rfl,?_⟩
  exact I.turnedL (t':=s.toks) (fp:=[j]) (fun c o hc' ee=>keep c o (by simpa using hc') ee) fun c hc'=>hf c (by simp at hc' ⊢; exact .inr hc')
 self:=fun _ _ _ _ _ st h=>by
  obtain ⟨⟨old,he⟩,_⟩:=st;exact Qci he h
section
variable {X:Cx}
theorem Qcd:bootBuiltins "enumerate" =some (.type "enumerate"):=by decide +kernel
def Qzx (K:W.Frag) (ta:TA):TI:=fun σ H R=>ta σ H fun vs H1=> ∃ a,vs=[.ref a]/\(∃ xs,SqT K H1 a xs)/\R (Ite K a) H1
theorem Qsw {e1:Expr} {ta:TA} {p pos tp:Pos} {elts:List Expr} {k:Nat} (hg:Gl X "enumerate") (hm:X.mg "enumerate" =none) (ha:PA X [e1] ta) (hs:starEach [e1] X.env=[(false,eval e1 X.env)]:=by rfl) :
  PI X (.Tuple elts k tp) (.Call (.Name "enumerate" p) [e1] [] pos) (Qzx X.K ta):=by
 intro pins s σ H R I h;refine Call_ (Bd I hg hm Qcd (Ww (thn (ha pos pins s σ H _ I h) fun us s1 ⟨vs,H1,I1,r1,q1⟩=> ?_) hs rfl));obtain ⟨a,rfl,⟨xs,qa⟩,q⟩:=q1;obtain ⟨u,rfl,ru⟩:=vals1 r1;cases ru;obtain ⟨as,ra,pa,za⟩:=I1.tuple qa;refine EN.call_enum (show s1.heap.IsTuple a as.toArray from pa) fun h' st sj keep=>Qci st ?_
 refine ⟨_,[s1.heap.objs.size+1,s1.heap.objs.size],_,_,H1,rfl,I1.kept (t':=s1.toks) keep,Qlq (JD (OK _)),⟨⟨.none,st⟩,sj⟩,fun c hc=> ?_,q⟩;have le:s1.heap.objs.size<=c:=by
  simp only [Qd,QV,JX] at hc;rcases hc with rfl | rfl
  ·exact Yx _
  ·exact Q6 _
 exact I1.fpOk le (I1.hok.fresh le)
theorem Qwr {body:List Stmt} {h0:ExceptHandler} {hs:List ExceptHandler} {pos:Pos} {t:TS} (hx: ∀ e s,¬ X.xe e s) (hb:PSs X body t):PS X (.Try body (h0::hs) [] [] pos) t:=by
 intro pins s σ H D I q;refine wpAny_Try_except (Jo (hb pins s σ H D I q) (fun f s1 h1=> ?_) fun e s1 h=>(hx e s1 h).elim);cases f with
 | next=>exact Bg h1
 | _=>exact h1
theorem Qzi {H₀:Hp} {τ:List Sl} {r:RO} {body:List Stmt} {h0:ExceptHandler} {hs:List ExceptHandler} {pos:Pos} (hx: ∀ e s,¬ X.xe e s) (hb:QOs X H₀ τ body r):QO X H₀ τ (.Try body (h0::hs) [] [] pos) r:=⟨Qwr hx hb.pe⟩
end
theorem Qqe {prog:Program} {w:World} {A:Around} {R:Result->Shared->Prop} {s:Shared} {elt tg iter:Expr} {ifs:List Expr} {scope:Scope} {pos:Pos} {it acc:Value} {env:Env} (W:Nat->Shared->Prop)
  (turn: ∀ n s,W n s->wpAny (model prog w) A (pyNext it) (fun r s1=>match r with
   | none=>R (.ok .next) s1
   | some v=>wpAny (model prog w) A (letOwnedTupleGo tg it v) (fun _ s2=>wpAny (model prog w) A (assign tg env v) (fun _ s3 =>
     wpAny (model prog w) A (forIn ifs true fun c r=>if r=true then do let ok<-isTrue c env (eval c env);pure (ForInStep.yield ok) else pure (ForInStep.yield r)) (fun ok s4 =>
      if ok=true then wpAny (model prog w) A (eval elt env) (fun y s5 =>
       wpAny (model prog w) A (call (.builtin "list.append") [acc,y]) (fun _ s6=> ∃ m,m < n/\W m s6) (notedBy (model prog w) A env fun e s'=>R (.error e) s') s5) (notedBy (model prog w) A env fun e s'=>R (.error e) s') s4
      else ∃ m,m < n/\W m s4) (notedBy (model prog w) A env fun e s'=>R (.error e) s') s3) (notedBy (model prog w) A env fun e s'=>R (.error e) s') s2) (notedBy (model prog w) A env fun e s'=>R (.error e) s') s1) (notedBy (model prog w) A env fun e s'=>R (.error e) s') s)
  (n:Nat) (h:W n s):codeAny (model prog w) A (.compLoop (.ListComp elt [⟨tg,iter,ifs,0⟩] scope pos) 0 it acc env) R s:=by
 refine codeAny_loop rfl W (fun n s hW=> ?_) n h;show wpAny (model prog w) A ((compTurn (.ListComp elt [⟨tg,iter,ifs,0⟩] scope pos) 0 it acc env).onRaise (fun x=>do noteFrame x env;theTreesLotGoes x)) _ _ s;refine wpAny_noted ?_;rw [compTurn_list];refine Q1 (GX (Q1 (thn (turn n s hW) fun r s1 h1=> ?_)));cases r with
 | none=>exact Qe h1
 | some v =>
  refine Q1 (thn h1 fun _ s2 h2=>Q1 (thn h2 fun _ s3 h3=>Q1 (thn h3 fun ok s4 h4=> ?_)));cases ok with
  | false=>exact Qe ⟨rfl,h4⟩
  | true=>exact Q1 (Q1 (thn h4 fun y s5 h5=>Q1 (thn h5 fun _ s6 h6=>Qe (Qe ⟨rfl,h6⟩))))
structure PairOk (N:List Str) (x y:Str) (scope:Scope):Prop where
 hy:scope.names.lookup y=some .local
 nd:(x::y::N).Nodup
def cxP (X:Cx) (x y:Str) (scope:Scope) (cl:List (Str×Addr)) (C:Addr) (s:Shared) (H:Hp) (ex:List Addr):Cx :=
 { cxC X x scope cl C s H ex with N:=x::y::X.N }
section
variable {X:Cx} {pins:List (Addr×Obj)} {σ:St} {H:Hp} {s:Shared}
theorem Inv.named {N':List Str} {σ':St} (I:Inv X pins σ H s) (hl:σ'.length=N'.length) (h: ∀ (i:Nat) (x:Str) (v:V),N'[i]? =some x->σ'[i]? =some (some v)-> ∃ j:Nat,X.N[j]? =some x/\σ[j]? =some (some v)) :
  Inv { X with N:=N' } pins σ' H s:=by
 obtain ⟨ok,o2,o3,o4,⟨m,hm,hl2⟩,o6,o7,o8,o9,o10,o11⟩:=I;obtain ⟨a1,a2,a3,a4,a5,a6,a7,a8,a9,a10,a11,a12,a13,a14,a15,a16,a17,a18⟩:=ok;refine ⟨⟨a1,a2,a3,a4,a5,a6,a7,a8,a9,a10,a11,a12,a13,a14,a15,a16,a17,a18⟩,o2,o3,o4,⟨m,hm,fun i x v e1 e2 e3=> ?_⟩,o6,o7,o8,o9,o10,hl⟩;obtain ⟨j,f1,f2⟩:=h i x v e1 e2;exact hl2 j x v f1 f2 e3
theorem Qj2 {x y:Str} {scope:Scope} {fp:List Addr} {h1:Heap} {C:Addr} {m0:Str->Option Value} {t:Nat} (ok:CompOk X.N X.env.scope x scope) (I:Inv X pins σ H s)
  (hf: ∀ b∈fp,FpOk X pins H b) (ho: ∀ b∈fp,∃ o,s.heap.get? b=some o) (hC:s.heap.objs.size<=C) (kp: ∀ b o,s.heap.get? b=some o->h1.get? b=some o) (ns:h1.Ns C m0) :
  Inv (cxP X x y scope (ZW scope X.env) C s H fp) [] (none::none::σ) H { s with heap:=h1,toks:=t }:=by
 refine (Qds ok I hf ho hC kp ns).named (N':=x::y::X.N) (by simp [I.len]) fun i z v e1 e2=> ?_
 cases i with
 | zero=>cases (show some (none:Option V)=some (some v) from e2)
 | succ i =>
  cases i with
  | zero=>cases (show some (none:Option V)=some (some v) from e2)
  | succ i=>exact ⟨i+1,by simpa [cxC] using e1,by simpa using e2⟩
theorem Qbo {x y:Str} {scope:Scope} {fp:List Addr} {cl:List (Str×Addr)} {C:Addr} {s':Shared} {H':Hp} {ps:List (Addr×Obj)} (J:Inv (cxP X x y scope cl C s H fp) ps (none::none::σ) H' s') (hl:σ.length=X.N.length):Inv (cxC X x scope cl C s H fp) ps (none::σ) H' s':=by
 refine J.named (N':=x::X.N) (by simp [hl]) fun i z v e1 e2=> ?_
 cases i with
 | zero=>cases (show some (none:Option V)=some (some v) from e2)
 | succ i=>exact ⟨i+2,by simpa [cxP] using e1,by simpa using e2⟩
def Qic (K:W.Frag) (wi:TI) (tc:TT) (te:TE):TE:=fun σ H Q=>wi σ H fun J H1=> ∃ W:Nat->Nat->List V->Hp->Prop,(∃ m,W 0 m [] H1)/\ ∀ i m ys H,W i m ys H ->
 (J.stop i H/\ ∀ p,H p=none->Q (.ref p) (upd H p (.lst ys))) \/
 (J.go i H/\ys.length < sizeLine/\ ∀ v H',J.yld i H v H'-> ∃ p a c,v= .ref p/\SqT K H' p [a,c]/\tc (some a::some c::σ) H' fun b H''=>if b=true then te (some a::some c::σ) H'' (fun y H3=> ∃ m',m' < m/\W (i+1) m' (ys++[y]) H3) else ∃ m',m' < m/\W (i+1) m' ys H'')
theorem OD {elt iter:Expr} {x y:Str} {px py tp:Pos} {tk:Nat} {ifs:List Expr} {scope:Scope} {pos:Pos} {tc:TT} {te:TE} {J:It} {fp:List Addr} {it:Addr} {tn:Nat->Heap->Prop} {RR:Value->Addr->Result->Shared->Prop} {E:Value->Shared->Prop}
  (ok:CompOk X.N X.env.scope x scope) (ok2:PairOk X.N x y scope) (hc:X.calm=true) (hifs: ∀ cl C s H ex,PTs (cxP X x y scope cl C s H ex) ifs tc) (helt: ∀ cl C s H ex,PE (cxP X x y scope cl C s H ex) elt te)
  (I:Inv X pins σ H s) (T:Turn X.prog X.w X.K (.Tuple [.Name x px,.Name y py] tk tp) J fp it tn) (st:tn 0 s.heap) (hf: ∀ b∈fp,FpOk X pins H b) {W:Nat->Nat->List V->Hp->Prop} (w0: ∃ m,W 0 m [] H) {Qf:List V->Hp->Prop}
  (turn: ∀ i m ys H,W i m ys H->(J.stop i H/\Qf ys H) \/
   (J.go i H/\ys.length < sizeLine/\ ∀ v H',J.yld i H v H'-> ∃ p a c,v= .ref p/\SqT X.K H' p [a,c]/\tc (some a::some c::σ) H' fun b H''=>if b=true then te (some a::some c::σ) H'' (fun y H3=> ∃ m',m' < m/\W (i+1) m' (ys++[y]) H3) else ∃ m',m' < m/\W (i+1) m' ys H''))
  (fin: ∀ D C s' H' ys its k,s.heap.objs.size<=D->s.heap.objs.size<=C->D≠C->Inv (cxP X x y scope (ZW scope X.env) C s H fp) [(D,lobj its k)] (none::none::σ) H' s'->Vals ys its->ys.length<=sizeLine->Qf ys H'->RR (.ref D) C (.ok .next) s') :
  wpAny (model X.prog X.w) X.A (newList []) (fun acc s₃=>wpAny (model X.prog X.w) X.A (newFunctionEnv scope X.env.globals (ZW scope X.env) [] X.env.qual none .none (some X.env)) (fun cenv s₄ =>
   codeAny (model X.prog X.w) X.A (.compStart (.ListComp elt [⟨.Tuple [.Name x px,.Name y py] tk tp,iter,ifs,0⟩] scope pos) 0 (.ref it) acc { cenv with scope:=relabel scope X.env }) (RR acc cenv.locals) s₄) E s₃) E s:=by
 refine JN (wpAny_newFunctionEnv ok.nocell (by intro y hy;simp at hy) (fun h₁ hns₁ hsb₁=> ?_) ok.kind);dsimp only at hns₁ hsb₁ ⊢;generalize hH2:s.heap.push { cls:= .type "list",dict:=none,data:= .seq ([]:List Value).toArray }=H2 at hns₁ hsb₁ ⊢;have hCs:H2.objs.size=s.heap.objs.size+1:=by rw [<- hH2,WV]
 have hDC:s.heap.objs.size≠H2.objs.size:=by rw [hCs];exact Qq (OK _)
 have hCle:s.heap.objs.size<=H2.objs.size:=by rw [hCs];exact Yx _
 have old: ∀ b o,s.heap.get? b=some o->h₁.get? b=some o:=fun b o e=>hsb₁.extBut b o (Qq (Qr (Qa e) hCle)) (Q2 _ (hH2 ▸ Q2 _ e))
 have hacc:h₁.get? s.heap.objs.size=some (lobj [] 0):=hsb₁.extBut _ _ hDC (Q2 _ (hH2 ▸ Qg _ rfl));have hobj: ∀ b∈fp,∃ o,s.heap.get? b=some o:=fun b hb=>let ⟨o,e,_⟩:=T.obj 0 _ st b hb;⟨o,e⟩
 have fpD: ∀ b∈fp,b≠s.heap.objs.size:=fun b hb=>let ⟨o,e⟩:=hobj b hb;Qq (Qa e)
 have fpC: ∀ b∈fp,b≠H2.objs.size:=fun b hb=>let ⟨o,e⟩:=hobj b hb;Qq (Qr (Qa e) hCle)
 have st1:tn 0 h₁:=T.keep 0 _ _ st fun b _ o e=>old b o e
 generalize hXc:cxP X x y scope (ZW scope X.env) H2.objs.size s H fp=Xc;have eP:Xc.prog=X.prog:=by rw [<- hXc];rfl
 have eW:Xc.w=X.w:=by rw [<- hXc];rfl
 have eK:Xc.K=X.K:=by rw [<- hXc];rfl
 have eA:Xc.A=X.A:=by rw [<- hXc];rfl
 have eL:Xc.env.locals=H2.objs.size:=by rw [<- hXc];rfl
 have eE:Xc.env=compEnvC scope (ZW scope X.env) H2.objs.size X.env:=by rw [<- hXc];rfl
 have eX:Xc.ex=fp:=by rw [<- hXc];rfl
 have eS:Xc.s₀=s:=by rw [<- hXc];rfl
 have eN:Xc.N=x::y::X.N:=by rw [<- hXc];rfl
 have eQ:Xc.pn=[]:=by rw [<- hXc];rfl
 have eF:Xc.xe=fun _ _=>False:=by rw [<- hXc];rfl
 have eO:Xc.fs=frs X.stack:=by rw [<- hXc];rfl
 have eCm:Xc.calm=true:=by rw [<- hXc];exact hc
 have hifs':PTs Xc ifs tc:=hXc ▸ hifs _ _ _ _ _;have helt':PE Xc elt te:=hXc ▸ helt _ _ _ _ _;have nfsD:s.heap.objs.size ∉ Xc.fs:=fun z=>by
  rw [eO] at z;rcases Qd.mp (I.stkSub _ z) with z | z
  ·exact absurd I.lt (by rw [<- z];exact W8 _)
  ·exact I.nofs (Q6 _) z
 have cellD: ∀ y c,Xc.env.cells.lookup y=some c->c≠s.heap.objs.size:=fun y c e=>by
  rw [eE] at e;obtain ⟨v,z⟩:=I.cell y c (W3 e);exact Qq z.lt
 have cellF: ∀ b∈fp,∀ y c,Xc.env.cells.lookup y=some c->c≠b:=fun b hb y c e=>by
  rw [eE] at e;exact (hf b hb).2.2.2.2.1 y c (W3 e)
 have nfsF: ∀ b∈fp,b ∉ Xc.fs:=fun b hb z=>by
  rw [eO] at z;rcases Qd.mp (I.stkSub _ z) with z | z
  ·exact (hf b hb).2.1 z
  ·exact (hf b hb).2.2.1 z
 have fpOkC: ∀ {H':Hp} {o:Obj},(∀ b∈fp,H' b=none)-> ∀ b∈fp,FpOk Xc [(s.heap.objs.size,o)] H' b:=fun {H' o} hn b hb =>
  ⟨hn b hb,by rw [eL];exact fpC b hb,nfsF b hb,.inl (by rw [eX];exact hb),cellF b hb,fun p hp=>by
   rw [eQ] at hp;have e:p=(s.heap.objs.size,o):=by simpa using hp
   rw [e];exact J5 (fpD b hb)⟩
 have pinD: ∀ {σ':St} {H':Hp} {s':Shared} {its:List Value} {k:Nat},Inv Xc [] σ' H' s'->s'.heap.get? s.heap.objs.size=some (lobj its k)->H' s.heap.objs.size=none->Inv Xc [(s.heap.objs.size,lobj its k)] σ' H' s':=fun {σ' H' s' its k} I' e n =>
  I'.pins_of fun p hp=>by
   have z:p=(s.heap.objs.size,lobj its k):=by simpa using hp
   subst z;exact ⟨e,n,by rw [eL];exact hDC,nfsD,fun v z=>by cases z⟩
 have loop: ∀ s₃:Shared,s₃={ s with heap:=h₁,toks:=s.toks+([]:List (Str×Value)).length } ->
   codeAny (model X.prog X.w) X.A (.compLoop (.ListComp elt [⟨.Tuple [.Name x px,.Name y py] tk tp,iter,ifs,0⟩] scope pos) 0 (.ref it) (.ref s.heap.objs.size) Xc.env) (RR (.ref s.heap.objs.size) H2.objs.size) s₃:=by
  rintro s₃ rfl;obtain ⟨m0,w0⟩:=w0;have I0:Inv Xc [] (none::none::σ) H { s with heap:=h₁,toks:=s.toks+([]:List (Str×Value)).length }:=hXc ▸ Qj2 ok I hf hobj hCle old hns₁;refine Qqe (fun n s'=> ∃ i ys its H' k,Inv Xc [(s.heap.objs.size,lobj its k)] (none::none::σ) H' s'/\tn i s'.heap/\(∀ b∈fp,H' b=none)/\Vals ys its/\ys.length<=sizeLine/\W i n ys H') ?_ m0
   ⟨0,[],[],H,0,pinD I0 hacc (I.hok.fresh (Q6 _)),st1,fun b hb=>(hf b hb).1,.nil,Jd _,w0⟩
  rintro n s3 ⟨i,ys,its,H3,k,I3,st3,fr3,rv,hlen3,w3⟩;rcases turn i n ys H3 w3 with ⟨stop,q⟩ | ⟨go,hlen,step⟩
  ·have hd:=T.done Xc eP eW eK eCm i _ s3 (none::none::σ) H3 (notedBy (model X.prog X.w) X.A Xc.env fun e s'=>RR (.ref s.heap.objs.size) H2.objs.size (.error e) s') I3 (fpOkC fr3) st3 stop;rw [eA] at hd;refine thn hd fun r s4 ⟨hr,I4⟩=> ?_
   subst hr;exact fin _ _ s4 H3 ys its k (Q6 _) hCle hDC (hXc ▸ I4) rv hlen3 q
  ·have hd:=T.item Xc eP eW eK eCm i _ s3 (none::none::σ) H3 (notedBy (model X.prog X.w) X.A Xc.env fun e s'=>RR (.ref s.heap.objs.size) H2.objs.size (.error e) s') I3 (fpOkC fr3) st3 go;rw [eA] at hd;refine thn hd fun r s4 ⟨u,hr,h4⟩=> ?_
   subst hr;refine thn h4 fun _ s5 ⟨v,H5,I5,r5,y5,st5,fr5⟩=> ?_
   have I5':=I5.pinned (fpOkC fr5) (T.obj _ _ st5);obtain ⟨p,va,vc,ev,sq,ht0⟩:=step v H5 y5;have pgx:PG Xc (.Name x px) (YG 0):=Ja (by rw [eN];exact ok2.nd) (by rw [eN];rfl) (.inl (by rw [eE];exact Z2 ok.hx)) (.inr (by rw [eE];exact Z2 ok.hx));have pgy:PG Xc (.Name y py) (YG 1):=Ja (by rw [eN];exact ok2.nd) (by rw [eN];rfl) (.inl (by rw [eE];exact Z2 ok2.hy)) (.inr (by rw [eE];exact Z2 ok2.hy));have pgt:=Yi (k:=tk) (pos:=tp) (n:=2) eCm (Vh pgx (Vh pgy Zm));have hg:=pgt _ s5 (none::none::σ) H5 v u (fun σ' H'=>σ'=some va::some vc::σ/\H'=H5) I5' r5 ⟨p,[va,vc],ev,by rw [eK];exact sq,rfl,va,[vc],rfl,vc,[],rfl,rfl,rfl,rfl⟩;rw [eP,eW,eA,eF] at hg;refine Jo hg (fun _ s6 ⟨σ6,H6,I6,e6,e7⟩=> ?_) fun _ _ f=>f.elim
   subst e6 e7;have ht:=hifs' _ s6 (some va::some vc::σ) H6 _ I6 ht0;rw [eP,eW,eA,eF] at ht;refine Jo ht (fun b s7 ⟨H7,I7,q7⟩=> ?_) fun _ _ f=>f.elim
   have back: ∀ {H':Hp} {s':Shared},Inv Xc ([(s.heap.objs.size,lobj its k)]++UA fp s5.heap) (some va::some vc::σ) H' s' ->
     s'.heap.get? s.heap.objs.size=some (lobj its k)/\H' s.heap.objs.size=none/\tn (i+1) s'.heap/\(∀ b∈fp,H' b=none)/\Inv Xc [] (none::none::σ) H' s':=fun {H' s'} J'=>by
    have hp: ∀ p∈[(s.heap.objs.size,lobj its k)]++UA fp s5.heap,s'.heap.get? p.1=some p.2/\H' p.1=none:=fun p hp=>⟨(J'.pin p (QG _ hp)).1,(J'.pin p (QG _ hp)).2.1⟩
    refine ⟨(hp (s.heap.objs.size,lobj its k) (by simp)).1,(hp (s.heap.objs.size,lobj its k) (by simp)).2,T.keep _ _ _ st5 fun b hb o e=>(hp (b,o) (QG _ (ZI hb e))).1,fun b hb=> ?_,?_⟩
    ·obtain ⟨o,e,_⟩:=T.obj _ _ st5 b hb;exact (hp (b,o) (QG _ (ZI hb e))).2
    ·refine (J'.pins_of (pins':=[]) fun p hp=>by cases hp).weak (by simp) fun j w e=> ?_
     cases j with
     | zero =>
      have:(none:Option V)=some w:=by simpa using e
      cases this
     | succ j =>
      cases j with
      | zero =>
       have:(none:Option V)=some w:=by simpa using e
       cases this
      | succ j=>simpa using e
   cases b with
   | false =>
    obtain ⟨m',hm,w7⟩:=(show (if false=true then _ else ∃ m',m' < n/\W (i+1) m' ys H7) from q7);obtain ⟨e,hn,st7,fr7,J7⟩:=back I7;exact ⟨m',hm,i+1,ys,its,H7,k,pinD J7 e hn,st7,fr7,rv,hlen3,w7⟩
   | true =>
    have q7':te (some va::some vc::σ) H7 (fun y H3=> ∃ m',m' < n/\W (i+1) m' (ys++[y]) H3):=q7;have he:=helt' _ s7 (some va::some vc::σ) H7 _ I7 q7';rw [eP,eW,eA,eF] at he;refine Jo he (fun y s8 ⟨yv,H8,I8,r8,m',hm,w8⟩=> ?_) fun _ _ f=>f.elim
    obtain ⟨e,hn,st8,fr8,J8⟩:=back I8;have hl:=rv.length;refine wpAny_list_append_plain (items:=its.toArray) ⟨k,e⟩ (fun h' pl sb=> ?_) (by rw [Qh];omega);obtain ⟨k',e'⟩:=pl;have e'':h'.get? s.heap.objs.size=some (lobj (its++[y]) k'):=by
     rw [e'];simp [lobj]
    have J9:Inv Xc [] (none::none::σ) H8 { s8 with heap:=h' }:=J8.turned (t':=s8.toks) (it:=s.heap.objs.size) (fun b o hb q=>(sb.2 b hb).trans q) hn (by rw [eL];exact hDC) (.inr (by rw [eS];exact Q6 _)) cellD (fun p hp=>by
     rw [eQ] at hp;exact absurd hp (by simp))
    refine ⟨m',hm,i+1,ys++[yv],its++[y],H8,k',pinD J9 e'' hn,T.keep _ _ _ st8 fun b hb o q=>(sb.2 b (fpD b hb)).trans q,fr8,rv.append (.cons r8 .nil),?_,w8⟩;rw [Ql];show ys.length+1<=_;omega
 have eE':({ (newEnv scope H2.objs.size X.env.globals (ZW scope X.env) X.env.qual none .none (some X.env) builtinsNs) with scope:=relabel scope X.env }:Env)=Xc.env:=by rw [eE];rfl
 rw [eE'];exact codeAny_compStart_list (loop _ rfl) (T.self X.A 0 _ _ _ st1 (loop _ rfl))
theorem Qb7 {elt iter:Expr} {x y:Str} {px py tp:Pos} {tk:Nat} {ifs:List Expr} {scope:Scope} {pos:Pos} {wi:TI} {tc:TT} {te:TE} (hc:X.calm=true) (hi:PI X (.Tuple [.Name x px,.Name y py] tk tp) iter wi)
  (hifs: ∀ cl C s H ex,PTs (cxP X x y scope cl C s H ex) ifs tc) (helt: ∀ cl C s H ex,PE (cxP X x y scope cl C s H ex) elt te)
  (hok:WL X.N X.env.scope x scope=true:=by rfl) (hy:scope.names.lookup y=some .local:=by rfl) (hnd:(x::y::X.N).Nodup:=by decide) (hs: ∀ x,foldedSetIterable iter X.env x=pure x:=by intro _;rfl) :
  PE X (.ListComp elt [⟨.Tuple [.Name x px,.Name y py] tk tp,iter,ifs,0⟩] scope pos) (Qic X.K wi tc te):=by
 intro pins s σ H Q I h;have ok:=CompOk.of hok;rw [eval_ListComp];refine YI (cl:=ZW scope X.env) (use:=none) rfl hs (ZL fun y hy e=> ?_) ok.kind ok.names ?_
 ·obtain ⟨n,k⟩:=y;cases e;obtain ⟨c,z⟩:=ok.cells I hy;rw [z];rfl
 ·refine thn (hi pins s σ H _ I h) fun v s1 h1=>thn h1 fun itv s2 h2=> ?_
  obtain ⟨it,fp,tn,J,H2,e,I2,T,st2,f2,W,w0,turn⟩:=h2;subst e;refine OD (RR:=fun acc C=>compPost (model X.prog X.w) X.A X.xe none (EP X pins σ Q) acc C) ok ⟨hy,hnd⟩ hc hifs helt I2 T st2 f2 w0 (Qf:=fun ys H=> ∀ p,H p=none->Q (.ref p) (upd H p (.lst ys))) turn ?_;intro D C s' H' ys its k hD hC hDC J' rv hl q;obtain ⟨m,hn,_⟩:=id J'.loc;refine ⟨m,hn,fun h' sb=> ?_⟩;obtain ⟨I',nD⟩:=UF I2 f2 hD hC hDC (Qbo J' I2.len) rv hl sb;exact ⟨.ref D,_,I',rfl,q D nD⟩
end
mutual
def CIs (h:Heap):D->Value->Prop
 | .non,v=>v= .none
 | .bl b,v=>v= .bool b
 | .int i,v=> ∃ t,v= .int i t
 | .str x,v=> ∃ t,v= .str x t
 | .tup ds,v=> ∃ (a:Addr) (its:List Value),v= .ref a/\h.IsTuple a its.toArray/\CAll h ds its
 | .lst ds,v=> ∃ (a:Addr) (its:List Value),v= .ref a/\h.IsList a its.toArray/\CAll h ds its
 | .dct _ _ _,_=>False
def CAll (h:Heap):List D->List Value->Prop
 | [],vs=>vs=[]
 | d::ds,vs=> ∃ v r,vs=v::r/\CIs h d v/\CAll h ds r
end
mutual
def dep:D->Nat
 | .tup ds=>1+deps ds
 | .lst ds=>1+deps ds
 | _=>1
def deps:List D->Nat
 | []=>0
 | d::ds=>max (dep d) (deps ds)
end
mutual
def eqD:D->D->Bool
 | .non,.non=>true
 | .bl a,.bl b=>a == b
 | .bl a,.int b=>(if a then 1 else 0) == b
 | .int a,.bl b=>a == (if b then 1 else 0)
 | .int a,.int b=>a == b
 | .str a,.str b=>a == b
 | .tup a,.tup b=>Yo a b
 | .lst a,.lst b=>Yo a b
 | .dct f a b,.dct g c d=>f == g && (Yo a c && Yo b d)
 | _,_=>false
def Yo:List D->List D->Bool
 | [],[]=>true
 | a::as,b::bs=>eqD a b && Yo as bs
 | _,_=>false
end
theorem Qc3: ∀ {ds:List D} {d:D},d∈ds->dep d<=deps ds
 | a::r,d,h=>by
  rw [deps];rcases Qd.mp h with rfl | h
  ·omega
  ·have:=Qc3 h;omega
section
variable {h h':Heap}
theorem CAll.len: ∀ {ds:List D} {vs:List Value},CAll h ds vs->ds.length=vs.length
 | [],_,x=>by rw [CAll] at x;subst x;rfl
 | d::ds,vs,x=>by
  rw [CAll] at x;obtain ⟨v,r,rfl,_,t⟩:=x;simp [CAll.len t]
theorem CAll.get: ∀ {ds:List D} {vs:List Value} {i:Nat} {d:D},CAll h ds vs->ds[i]? =some d-> ∃ v,vs[i]? =some v/\CIs h d v
 | [],_,_,_,_,e=>by simp at e
 | a::ds,vs,0,d,x,e=>by
  rw [CAll] at x;obtain ⟨v,r,rfl,q,_⟩:=x;have:a=d:=by simpa using e
  subst this;exact ⟨v,rfl,q⟩
 | a::ds,vs,i+1,d,x,e=>by
  rw [CAll] at x;obtain ⟨v,r,rfl,_,t⟩:=x;exact CAll.get (i:=i) t (by simpa using e)
theorem ctup {ds:List D} {v:Value}:CIs h (.tup ds) v ↔ ∃ (a:Addr) (its:List Value),v= .ref a/\h.IsTuple a its.toArray/\CAll h ds its:=by rw [CIs]
theorem clst {ds:List D} {v:Value}:CIs h (.lst ds) v ↔ ∃ (a:Addr) (its:List Value),v= .ref a/\h.IsList a its.toArray/\CAll h ds its:=by rw [CIs]
theorem tuple_inj {a:Addr} {x y:Array Value} (p:h.IsTuple a x) (q:h.IsTuple a y):x=y:=by
 obtain ⟨o,e,_,n,d⟩:=p;obtain ⟨o',e',_,n',d'⟩:=q;rw [e] at e';cases e';rw [d] at d';injection d'
theorem list_inj {a:Addr} {x y:Array Value} (p:h.IsList a x) (q:h.IsList a y):x=y:=by
 obtain ⟨o,e,_,n,d⟩:=p;obtain ⟨o',e',_,n',d'⟩:=q;rw [e] at e';cases e';rw [d] at d';injection d'
theorem Qgp {a:Addr} {x y:Array Value} (p:h.IsTuple a x) (q:h.IsList a y):False:=by
 obtain ⟨o,e,c,_⟩:=p;obtain ⟨o',e',c',_⟩:=q;rw [e] at e';cases e';rw [c] at c';exact absurd c' (by decide)
mutual
theorem CIs.inj: ∀ {d e:D} {v:Value},CIs h d v->CIs h e v->d=e
 | .non,e,v,x,y=>by
  simp only [CIs] at x;subst x;cases e<;>simp_all [CIs]
 | .bl b,e,v,x,y=>by
  simp only [CIs] at x;subst x;cases e<;>simp_all [CIs]
 | .int i,e,v,x,y=>by
  simp only [CIs] at x;obtain ⟨t,rfl⟩:=x;cases e<;>simp_all [CIs]
 | .str i,e,v,x,y=>by
  simp only [CIs] at x;obtain ⟨t,rfl⟩:=x;cases e<;>simp_all [CIs]
 | .tup ds,e,v,x,y=>by
  obtain ⟨a,its,rfl,p,c⟩:=ctup.mp x;cases e with
  | tup es =>
   obtain ⟨a',its',e1,p',c'⟩:=ctup.mp y;cases e1;have e2:its=its':=by simpa using tuple_inj p p'
   subst e2;rw [CAll.inj c c']
  | lst es =>
   obtain ⟨a',its',e1,p',c'⟩:=clst.mp y;cases e1;exact (Qgp p p').elim
  | _=>simp [CIs] at y
 | .lst ds,e,v,x,y=>by
  obtain ⟨a,its,rfl,p,c⟩:=clst.mp x;cases e with
  | lst es =>
   obtain ⟨a',its',e1,p',c'⟩:=clst.mp y;cases e1;have e2:its=its':=by simpa using list_inj p p'
   subst e2;rw [CAll.inj c c']
  | tup es =>
   obtain ⟨a',its',e1,p',c'⟩:=ctup.mp y;cases e1;exact (Qgp p' p).elim
  | _=>simp [CIs] at y
 | .dct f a b,e,v,x,y=>by simp only [CIs] at x
theorem CAll.inj: ∀ {ds es:List D} {vs:List Value},CAll h ds vs->CAll h es vs->ds=es
 | [],es,vs,x,y=>by
  simp only [CAll] at x;subst x;cases es with
  | nil=>rfl
  | cons e r=>simp [CAll] at y
 | d::ds,es,vs,x,y=>by
  rw [CAll] at x;obtain ⟨v,r,rfl,q,t⟩:=x;cases es with
  | nil=>simp [CAll] at y
  | cons e es =>
   rw [CAll] at y;obtain ⟨v',r',e1,q',t'⟩:=y;cases e1;rw [CIs.inj q q',CAll.inj t t']
end
mutual
theorem Qbv: ∀ d:D,eqD d d=true
 | .non=>by simp [eqD]
 | .bl b=>by simp [eqD]
 | .int b=>by simp [eqD]
 | .str b=>by simp [eqD]
 | .tup ds=>by rw [eqD];exact Ue ds
 | .lst ds=>by rw [eqD];exact Ue ds
 | .dct f a b=>by rw [eqD,Ue a,Ue b];simp
theorem Ue: ∀ ds:List D,Yo ds ds=true
 | []=>by simp [Yo]
 | d::ds=>by rw [Yo,Qbv d,Ue ds];rfl
end
theorem Qhb: ∀ {ds es:List D},Yo ds es=true->ds.length=es.length
 | [],[],_=>rfl
 | [],_::_,x=>by simp [Yo] at x
 | _::_,[],x=>by simp [Yo] at x
 | d::ds,e::es,x=>by
  rw [Yo,Qv] at x;simp [Qhb x.2]
theorem BB: ∀ (ds es:List D),Yo ds es=((List.range (min ds.length es.length)).all (fun i=>eqD (ds.getD i .non) (es.getD i .non)) && ds.length == es.length)
 | [],[]=>by simp [Yo]
 | [],e::es=>by simp [Yo]
 | d::ds,[]=>by simp [Yo]
 | d::ds,e::es=>by
  rw [Yo,BB ds es];have e1:min (d::ds).length (e::es).length=min ds.length es.length+1:=by simp only [QC];omega
  rw [e1,List.range_succ_eq_map,Qi1,List.all_map];have e2:((d::ds).length == (e::es).length)=(ds.length == es.length):=by simp
  rw [e2,Bool.and_assoc];rfl
end
section
variable {A:Around} {s:Shared}
set_option maxHeartbeats 1000000 in
mutual
theorem Qj8: ∀ (d e:D) {v u:Value} {A:Around},CIs s.heap d v->CIs s.heap e u->A.units+dep d+dep e < cLine->SeqAt.EqAt A s v u (eqD d e)
 | .non,e,v,u,A,x,y,hu=>by
  simp only [CIs] at x;subst x;cases e with
  | dct f1 a1 b1=>simp only [CIs] at y
  | non=>simp only [CIs] at y;subst y;exact Qi0 _
  | bl b=>simp only [CIs] at y;subst y;exact SeqAt.EqAt.none_bool b
  | int b=>simp only [CIs] at y;obtain ⟨t,rfl⟩:=y;exact SeqAt.EqAt.none_int b t
  | str b=>simp only [CIs] at y;obtain ⟨t,rfl⟩:=y;exact SeqAt.EqAt.none_str b t
  | tup es=>obtain ⟨a,its,rfl,p,_⟩:=ctup.mp y;exact SeqAt.EqAt.none_tuple p (by omega)
  | lst es=>obtain ⟨a,its,rfl,p,_⟩:=clst.mp y;exact SeqAt.EqAt.none_list p (by omega)
 | .bl b,e,v,u,A,x,y,hu=>by
  simp only [CIs] at x;subst x;cases e with
  | dct f1 a1 b1=>simp only [CIs] at y
  | non=>simp only [CIs] at y;subst y;exact SeqAt.EqAt.bool_none b
  | bl c=>simp only [CIs] at y;subst y;exact SeqAt.EqAt.bool_bool b c
  | int c=>simp only [CIs] at y;obtain ⟨t,rfl⟩:=y;exact SeqAt.EqAt.bool_int b c t
  | str c=>simp only [CIs] at y;obtain ⟨t,rfl⟩:=y;exact SeqAt.EqAt.bool_str b c t
  | tup es=>obtain ⟨a,its,rfl,p,_⟩:=ctup.mp y;exact SeqAt.EqAt.bool_tuple b p (by omega)
  | lst es=>obtain ⟨a,its,rfl,p,_⟩:=clst.mp y;exact SeqAt.EqAt.bool_list b p (by omega)
 | .int b,e,v,u,A,x,y,hu=>by
  simp only [CIs] at x;obtain ⟨t,rfl⟩:=x;cases e with
  | dct f1 a1 b1=>simp only [CIs] at y
  | non=>simp only [CIs] at y;subst y;exact SeqAt.EqAt.int_none b t
  | bl c=>simp only [CIs] at y;subst y;exact SeqAt.EqAt.int_bool b t c
  | int c=>simp only [CIs] at y;obtain ⟨t',rfl⟩:=y;exact SeqAt.EqAt.int_int b t c t'
  | str c=>simp only [CIs] at y;obtain ⟨t',rfl⟩:=y;exact Qrz b t c t'
  | tup es=>obtain ⟨a,its,rfl,p,_⟩:=ctup.mp y;exact SeqAt.EqAt.int_tuple b t p (by omega)
  | lst es=>obtain ⟨a,its,rfl,p,_⟩:=clst.mp y;exact SeqAt.EqAt.int_list b t p (by omega)
 | .str b,e,v,u,A,x,y,hu=>by
  simp only [CIs] at x;obtain ⟨t,rfl⟩:=x;cases e with
  | dct f1 a1 b1=>simp only [CIs] at y
  | non=>simp only [CIs] at y;subst y;exact SeqAt.EqAt.str_none b t
  | bl c=>simp only [CIs] at y;subst y;exact SeqAt.EqAt.str_bool b t c
  | int c=>simp only [CIs] at y;obtain ⟨t',rfl⟩:=y;exact Qrx b t c t'
  | str c=>simp only [CIs] at y;obtain ⟨t',rfl⟩:=y;exact Qrw b t c t'
  | tup es=>obtain ⟨a,its,rfl,p,_⟩:=ctup.mp y;exact SeqAt.EqAt.str_tuple b t p (by omega)
  | lst es=>obtain ⟨a,its,rfl,p,_⟩:=clst.mp y;exact SeqAt.EqAt.str_list b t p (by omega)
 | .tup ds,e,v,u,A,x,y,hu=>by
  obtain ⟨a,its,rfl,p,c⟩:=ctup.mp x;have hu1:A.units < cLine:=by omega
  cases e with
  | dct f1 a1 b1=>simp only [CIs] at y
  | non=>simp only [CIs] at y;subst y;exact SeqAt.EqAt.tuple_none p hu1
  | bl b=>simp only [CIs] at y;subst y;exact SeqAt.EqAt.tuple_bool b p hu1
  | int b=>simp only [CIs] at y;obtain ⟨t,rfl⟩:=y;exact SeqAt.EqAt.tuple_int b t p hu1
  | str b=>simp only [CIs] at y;obtain ⟨t,rfl⟩:=y;exact SeqAt.EqAt.tuple_str b t p hu1
  | tup es =>
   obtain ⟨a',its',rfl,p',c'⟩:=ctup.mp y
   by_cases ha:a=a'
   ·subst ha;rw [CIs.inj x y,Qbv];exact Qi0 _
   ·rw [eqD];have z:=SeqAt.RcAt.tuples p p' hu1 (BD ds es c c' (by simp only [dep] at hu;show A.units+1+deps ds+deps es < cLine;omega));have l1:=c.len;have l2:=c'.len;rw [BB,l1,l2];refine Qry ha ?_;simpa using z
  | lst es=>obtain ⟨a',its',rfl,p',_⟩:=clst.mp y;exact SeqAt.EqAt.tuple_list p p' hu1
 | .lst ds,e,v,u,A,x,y,hu=>by
  obtain ⟨a,its,rfl,p,c⟩:=clst.mp x;have hu1:A.units < cLine:=by omega
  cases e with
  | dct f1 a1 b1=>simp only [CIs] at y
  | non=>simp only [CIs] at y;subst y;exact SeqAt.EqAt.list_none p hu1
  | bl b=>simp only [CIs] at y;subst y;exact SeqAt.EqAt.list_bool b p hu1
  | int b=>simp only [CIs] at y;obtain ⟨t,rfl⟩:=y;exact SeqAt.EqAt.list_int b t p hu1
  | str b=>simp only [CIs] at y;obtain ⟨t,rfl⟩:=y;exact SeqAt.EqAt.list_str b t p hu1
  | tup es=>obtain ⟨a',its',rfl,p',_⟩:=ctup.mp y;exact SeqAt.EqAt.list_tuple p p' hu1
  | lst es =>
   obtain ⟨a',its',rfl,p',c'⟩:=clst.mp y
   by_cases ha:a=a'
   ·subst ha;rw [CIs.inj x y,Qbv];exact Qi0 _
   ·rw [eqD];have l1:=c.len;have l2:=c'.len
    by_cases hl:its.length=its'.length
    ·have z:=SeqAt.RcAt.lists p p' (by simpa using hl) hu1 (BD ds es c c' (by simp only [dep] at hu;show A.units+1+deps ds+deps es < cLine;omega));rw [BB,l1,l2];refine Qry ha ?_;simpa [hl] using z
    ·have e0:Yo ds es=false:=by
      cases q:Yo ds es with
      | false=>rfl
      | true=>exact absurd (Qhb q) (by omega)
     rw [e0];exact Qry ha (SeqAt.RcAt.lists_lengths p p' (by simpa using hl) hu1)
 | .dct f1 a1 b1,e,v,u,A,x,y,hu=>by simp only [CIs] at x
theorem BD: ∀ (ds es:List D) {vs us:List Value} {A:Around},CAll s.heap ds vs->CAll s.heap es us->A.units+deps ds+deps es < cLine-> ∀ (j:Nat) (h1:j < vs.toArray.size) (h2:j < us.toArray.size),SeqAt.EqAt A s vs.toArray[j] us.toArray[j] (eqD (ds.getD j .non) (es.getD j .non))
 | [],es,vs,us,A,x,y,hu,j,h1,h2=>by
  simp only [CAll] at x;subst x;simp at h1
 | d::ds,[],vs,us,A,x,y,hu,j,h1,h2=>by
  simp only [CAll] at y;subst y;simp at h2
 | d::ds,e::es,vs,us,A,x,y,hu,0,h1,h2=>by
  rw [CAll] at x y;obtain ⟨v,r,rfl,q,_⟩:=x;obtain ⟨v',r',rfl,q',_⟩:=y;exact Qj8 d e q q' (by simp only [deps] at hu;omega)
 | d::ds,e::es,vs,us,A,x,y,hu,j+1,h1,h2=>by
  rw [CAll] at x y;obtain ⟨v,r,rfl,_,t⟩:=x;obtain ⟨v',r',rfl,_,t'⟩:=y;have:=BD ds es t t' (A:=A) (by simp only [deps] at hu;omega) j (by simpa using h1) (by simpa using h2);simpa using this
end
end
end L2
namespace ST
open PySem PySem.SetTable
section
variable {prog:Program} {w:World} {K:Type} [DecidableEq K] (knd:HeapKind prog w K)
variable {knd}
variable {A:Around} {E:Value->Shared->Prop} {s:Shared}
theorem Qf6 {α β:Type} {f:α->β}: ∀ {l:List α} {m:List β},m.Perm (l.map f)-> ∃ l':List α,l'.Perm l/\m=l'.map f:=by
 intro l m h;generalize hl:l.map f=m' at h
 induction h generalizing l with
 | nil =>
  have:l=[]:=by simpa using hl
  subst this;exact ⟨[],.nil,rfl⟩
 | @cons x a b _ ih =>
  obtain ⟨y,l1,rfl,rfl,h2⟩:=Qed.mp hl;obtain ⟨l',p,e⟩:=ih h2;exact ⟨y::l',p.cons y,by rw [e];rfl⟩
 | @swap x y a =>
  obtain ⟨z,l1,rfl,rfl,h2⟩:=Qed.mp hl;obtain ⟨z2,l2,rfl,rfl,h3⟩:=Qed.mp h2;exact ⟨z2::z::l2,List.Perm.swap z z2 l2,by rw [<- h3];rfl⟩
 | @trans a b c _ _ ih1 ih2 =>
  obtain ⟨l1,p1,e1⟩:=ih2 hl;obtain ⟨l2,p2,e2⟩:=ih1 e1.symm;exact ⟨l2,p2.trans p1,e2⟩
end
end ST
namespace L2
open PySem PySem.Spec PyProof.Rows
noncomputable instance:DecidableEq D:=fun a b=>Classical.propDecidable (a=b)
mutual
def keyOk:D->Bool
 | .int _=>true
 | .str _=>true
 | .tup ds=>keyOks ds
 | _=>false
def keyOks:List D->Bool
 | []=>true
 | d::ds=>keyOk d && keyOks ds
end
mutual
def noD:D->Bool
 | .tup ds=>Qgr ds
 | .lst ds=>Qgr ds
 | .dct _ _ _=>false
 | _=>true
def Qgr:List D->Bool
 | []=>true
 | d::ds=>noD d && Qgr ds
end
mutual
theorem Qtv: ∀ {d:D},keyOk d=true->noD d=true
 | .int _,_=>by simp [noD]
 | .str _,_=>by simp [noD]
 | .tup ds,h=>by rw [noD];exact Yj (by simpa [keyOk] using h)
 | .non,h=>by simp [keyOk] at h
 | .bl _,h=>by simp [keyOk] at h
 | .lst _,h=>by simp [keyOk] at h
 | .dct _ _ _,h=>by simp [keyOk] at h
theorem Yj: ∀ {ds:List D},keyOks ds=true->Qgr ds=true
 | [],_=>by simp [Qgr]
 | d::ds,h=>by
  rw [keyOks,Qv] at h;rw [Qgr,Qtv h.1,Yj h.2];rfl
end
theorem WJ: ∀ {ds:List D},keyOks ds=true ↔ ∀ d∈ds,keyOk d=true
 | []=>by simp [keyOks]
 | d::ds=>by simp [keyOks,WJ]
mutual
theorem BC: ∀ {d e:D},keyOk d=true->keyOk e=true->eqD d e=decide (d=e)
 | .int a,e,hd,he=>by cases e<;>simp_all [keyOk,eqD]<;>rfl
 | .str a,e,hd,he=>by cases e<;>simp_all [keyOk,eqD]<;>rfl
 | .tup a,e,hd,he=>by
  cases e with
  | tup b =>
   rw [eqD,Qhc (by simpa [keyOk] using hd) (by simpa [keyOk] using he)]
   simp
  | _=>simp_all [keyOk,eqD]
 | .non,e,hd,he=>by simp [keyOk] at hd
 | .bl _,e,hd,he=>by simp [keyOk] at hd
 | .lst _,e,hd,he=>by simp [keyOk] at hd
 | .dct _ _ _,e,hd,he=>by simp [keyOk] at hd
theorem Qhc: ∀ {ds es:List D},keyOks ds=true->keyOks es=true->Yo ds es=decide (ds=es)
 | [],es,hd,he=>by cases es<;>simp [Yo]
 | d::ds,[],hd,he=>by simp [Yo]
 | d::ds,e::es,hd,he=>by
  simp only [keyOks,Qv] at hd he;rw [Yo,BC hd.1 he.1,Qhc hd.2 he.2]
  by_cases h1:d=e<;>by_cases h2:ds=es<;>simp [h1,h2]
end
def TStay (h h':Heap):Prop:= ∀ b o,h.get? b=some o->o.cls= .type "tuple" ->h'.get? b=some o
theorem TStay.tuple {h h':Heap} (t:TStay h h') {a:Addr} {its:Array Value} (p:h.IsTuple a its):h'.IsTuple a its:=let ⟨o,e,c,r⟩:=p;⟨o,t a o e c,c,r⟩
mutual
theorem CIs.stay {h h':Heap} (t:TStay h h'): ∀ {d:D} {v:Value},keyOk d=true->CIs h d v->CIs h' d v
 | .int _,_,_,x=>by simpa [CIs] using x
 | .str _,_,_,x=>by simpa [CIs] using x
 | .tup ds,v,k,x=>by
  obtain ⟨a,its,rfl,p,c⟩:=ctup.mp x;exact ctup.mpr ⟨a,its,rfl,t.tuple p,CAll.stay t (by simpa [keyOk] using k) c⟩
 | .non,_,k,_=>by simp [keyOk] at k
 | .bl _,_,k,_=>by simp [keyOk] at k
 | .lst _,_,k,_=>by simp [keyOk] at k
 | .dct _ _ _,_,k,_=>by simp [keyOk] at k
theorem CAll.stay {h h':Heap} (t:TStay h h'): ∀ {ds:List D} {vs:List Value},keyOks ds=true->CAll h ds vs->CAll h' ds vs
 | [],_,_,x=>by simpa [CAll] using x
 | d::ds,vs,k,x=>by
  simp only [keyOks,Qv] at k;rw [CAll] at x ⊢;obtain ⟨v,r,e,q,y⟩:=x;exact ⟨v,r,e,CIs.stay t k.1 q,CAll.stay t k.2 y⟩
end
end L2
namespace SO
open PySem PySem.W PyProof.Rows
structure LO {α:Type} (lt:α->α->Bool):Prop where
 irr: ∀ a,lt a a=false
 tr: ∀ a b c,lt b a=false->lt c b=false->lt c a=false
 asy: ∀ a b,lt a b=true->lt b a=false
section
variable {α:Type} {lt:α->α->Bool} {r:Nat->α} {N:Nat} {s:Shared} {cmp:Nat->Nat->(Bool->Shared->Prop)->Shared->Prop}
def ky (r:Nat->α) (p:Array Nat) (i:Nat):α:=r (p.getD i 0)
def Srt (lt:α->α->Bool) (r:Nat->α) (p:Array Nat) (k:Nat):Prop:= ∀ i j,i<=j->j < k->lt (ky r p j) (ky r p i)=false
def Des (lt:α->α->Bool) (r:Nat->α) (p:Array Nat) (k:Nat):Prop:= ∀ i j,i<=j->j < k->lt (ky r p i) (ky r p j)=false
def Ask (lt:α->α->Bool) (r:Nat->α) (N:Nat) (s:Shared) (cmp:Nat->Nat->(Bool->Shared->Prop)->Shared->Prop):Prop:= ∀ i j (C:Bool->Shared->Prop),i < N->j < N->C (lt (r i) (r j)) s->cmp i j C s
def Ok (N:Nat) (p:Array Nat):Prop:=p.Perm (List.range N).toArray
theorem Ok.size {p:Array Nat} (h:Ok N p):p.size=N:=by
 have:=Array.Perm.size_eq h;simpa using this
theorem Ok.bd {p:Array Nat} (h:Ok N p) {i:Nat} (hi:i < N):p.getD i 0 < N:=by
 have hs:=h.size;have hi':i < p.size:=by omega
 have hm:p[i]∈p:=Array.getElem_mem hi';have:=h.mem_iff.mp hm;have e:p.getD i 0=p[i]:=by simp [Array.getD,hi']
 rw [e];simpa using this
theorem Srt.snoc (L:LO lt) {p:Array Nat} {k:Nat} (h:Srt lt r p k) (hk:1<=k) (e:lt (ky r p k) (ky r p (k - 1))=false):Srt lt r p (k+1):=fun i j h1 h2=>by
 by_cases z:j=k
 ·subst z
  by_cases y:i=j
  ·subst y;exact L.irr _
  ·exact L.tr _ _ _ (h i (j - 1) (by omega) (by omega)) e
 ·exact h i j h1 (by omega)
theorem Des.snoc (L:LO lt) {p:Array Nat} {k:Nat} (h:Des lt r p k) (hk:1<=k) (e:lt (ky r p (k - 1)) (ky r p k)=false):Des lt r p (k+1):=fun i j h1 h2=>by
 by_cases z:j=k
 ·subst z
  by_cases y:i=j
  ·subst y;exact L.irr _
  ·exact L.tr _ _ _ e (h i (j - 1) (by omega) (by omega))
 ·exact h i j h1 (by omega)
theorem Qjl (L:LO lt) (hc:Ask lt r N s cmp) {p:Array Nat} (hp:Ok N p): ∀ (f n:Nat) {Q:Nat->Shared->Prop},1<=n->n+f<=N->Srt lt r p n ->
  (∀ m,n<=m->m<=n+f->Srt lt r p m->(m < n+f->lt (ky r p m) (ky r p (m - 1))=true)->Q m s)->(kas_asc p f n).kasWp cmp Q s
 | 0,n,Q,h1,h2,hs,q=>q n (Q6 _) (Q6 _) hs fun z=>absurd z (by omega)
 | f+1,n,Q,h1,h2,hs,q=>by
  unfold kas_asc;refine hc _ _ _ (hp.bd (by omega)) (hp.bd (by omega)) ?_;show KasT.kasWp cmp (if lt (ky r p n) (ky r p (n - 1))=true then _ else _) Q s
  by_cases h:lt (ky r p n) (ky r p (n - 1))=true
  ·rw [Qk h];exact q n (Q6 _) (by omega) hs fun _=>h
  ·rw [Qn h];have h':lt (ky r p n) (ky r p (n - 1))=false:=by simpa using h
   exact Qjl L hc hp f (n+1) (by omega) (by omega) (hs.snoc L h1 h') fun m a b c d=>q m (by omega) (by omega) c fun z=>d (by omega)
theorem UT {p:Array Nat} {i j:Nat} (hj:j<=p.size) (k:Nat):ky r (kas_rev p i j) k=if i<=k/\k < j then ky r p (i+j - 1 - k) else ky r p k:=by
 have e:=getElem?_mirror_all (xs:=p) (i:=i) hj k;unfold ky kas_rev;have g: ∀ (a:Array Nat) (n:Nat),a.getD n 0=(a[n]?).getD 0:=fun a n=>by simp [Quz]
 rw [g,e];split<;>rw [g]
theorem Qay {p:Array Nat} {i j:Nat} (hp:Ok N p):Ok N (kas_rev p i j):=(mirror_perm ..).trans hp
def Eqs (lt:α->α->Bool) (r:Nat->α) (p:Array Nat) (i j:Nat):Prop:= ∀ a b,i<=a->a < j->i<=b->b < j->lt (ky r p a) (ky r p b)=false
theorem Des.rev (L:LO lt) {p:Array Nat} {i j k:Nat} (hj:j<=p.size) (hjk:j<=k) (h:Des lt r p k) (e:Eqs lt r p i j):Des lt r (kas_rev p i j) k:=by
 intro a b hab hb;rw [UT hj,UT hj]
 by_cases ha:i<=a/\a < j
 ·rw [Qk ha]
  by_cases hb':i<=b/\b < j
  ·rw [Qk hb'];exact e _ _ (by omega) (by omega) (by omega) (by omega)
  ·rw [Qn hb'];exact h _ _ (by omega) hb
 ·rw [Qn ha]
  by_cases hb':i<=b/\b < j
  ·rw [Qk hb'];exact h _ _ (by omega) (by omega)
  ·rw [Qn hb'];exact h a b hab hb
theorem Des.turn {p:Array Nat} {n:Nat} (hn:n<=p.size) (h:Des lt r p n):Srt lt r (kas_rev p 0 n) n:=by
 intro i j h1 h2;rw [UT hn,UT hn,Qk ⟨by omega,by omega⟩,Qk ⟨by omega,by omega⟩];exact h _ _ (by omega) (by omega)
theorem Qae (L:LO lt) (hc:Ask lt r N s cmp): ∀ (f:Nat) (p:Array Nat) (n q:Nat) {Q:Array Nat×Nat×Nat->Shared->Prop},Ok N p->q+1<=n->n+f<=N->Des lt r p n->Eqs lt r p (n - (q+1)) n ->
  (∀ p' n' q',Ok N p'->n<=n'->n'<=n+f->q'+1<=n'->Des lt r p' n'->Eqs lt r p' (n' - (q'+1)) n'->Q (p',n',q') s)->(kas_desc f p n q).kasWp cmp Q s
 | 0,p,n,q,Q,hp,h1,h2,hd,he,k=>k p n q hp (Q6 _) (Q6 _) h1 hd he
 | f+1,p,n,q,Q,hp,h1,h2,hd,he,k=>by
  unfold kas_desc;refine hc _ _ _ (hp.bd (by omega)) (hp.bd (by omega)) ?_;show KasT.kasWp cmp (if lt (ky r p n) (ky r p (n - 1))=true then _ else _) Q s;have hsz:=hp.size;have one: ∀ (p':Array Nat) (m:Nat),Eqs lt r p' (m+1 - (0+1)) (m+1):=fun p' m a b _ _ _ _=>by
   have e1:a=m:=by omega
   have e2:b=m:=by omega
   subst e1 e2;exact L.irr _
  by_cases h:lt (ky r p n) (ky r p (n - 1))=true
  ·rw [Qk h];have h':=L.asy _ _ h
   by_cases hq:q > 0
   ·rw [Qk hq];refine Qae L hc f _ (n+1) 0 (Qay hp) (by omega) (by omega) ?_ (one _ _) fun p' n' q' a b c d e g=>k p' n' q' a (by omega) (by omega) d e g
    refine Des.snoc L (hd.rev L (by omega) (Q6 _) he) (by omega) ?_;rw [UT (by omega),UT (by omega),Qk ⟨by omega,by omega⟩,Qn (by omega)];exact L.tr _ _ _ h' (he _ _ (by omega) (by omega) (by omega) (by omega))
   ·rw [Qn hq];exact Qae L hc f p (n+1) 0 hp (by omega) (by omega) (hd.snoc L (by omega) h') (one _ _) fun p' n' q' a b c d e g=>k p' n' q' a (by omega) (by omega) d e g
  ·rw [Qn h];have h':lt (ky r p n) (ky r p (n - 1))=false:=by simpa using h
   refine hc _ _ _ (hp.bd (by omega)) (hp.bd (by omega)) ?_;show KasT.kasWp cmp (if lt (ky r p (n - 1)) (ky r p n)=true then _ else _) Q s
   by_cases g:lt (ky r p (n - 1)) (ky r p n)=true
   ·rw [Qk g];exact k p n q hp (Q6 _) (by omega) h1 hd he
   ·rw [Qn g];have g':lt (ky r p (n - 1)) (ky r p n)=false:=by simpa using g
    refine Qae L hc f p (n+1) (q+1) hp (by omega) (by omega) (hd.snoc L (by omega) g') ?_ fun p' n' q' a b c d e g=>k p' n' q' a (by omega) (by omega) d e g
    intro a b ha hb hc' hd';have up: ∀ a,n - (q+1)<=a->a < n->lt (ky r p a) (ky r p n)=false/\lt (ky r p n) (ky r p a)=false:=fun a h3 h4 =>
     ⟨L.tr _ _ _ g' (he a (n - 1) (by omega) (by omega) (by omega) (by omega)),L.tr _ _ _ (he (n - 1) a (by omega) (by omega) (by omega) (by omega)) h'⟩
    by_cases z:a=n
    ·subst z
     by_cases y:b=a
     ·subst y;exact L.irr _
     ·exact (up b (by omega) (by omega)).2
    ·by_cases y:b=n
     ·subst y;exact (up a (by omega) (by omega)).1
     ·exact he a b (by omega) (by omega) (by omega) (by omega)
theorem Qg5 (L:LO lt) (hc:Ask lt r N s cmp) {p:Array Nat} {n:Nat} {Q:Nat×Array Nat->Shared->Prop} (hp:Ok N p) (h1:1<=n) (h2:n<=N) (hd:Des lt r p n)
  (k: ∀ m p',Ok N p'->n<=m->m<=N->Srt lt r p' m->Q (m,p') s):(kas_tail3 n N p).kasWp cmp Q s:=by
 unfold kas_tail3;rw [BN];have hsz:=hp.size;exact Qjl L hc (Qay hp) (N - n) n h1 (by omega) (hd.turn (by omega)) fun m a b c _=>k m _ (Qay hp) a (by omega) c
theorem Oz (L:LO lt) (hc:Ask lt r N s cmp) {p:Array Nat} {n:Nat} {Q:Nat×Array Nat->Shared->Prop} (hp:Ok N p) (h1:1<=n) (h2:n+1<=N) (hd:Des lt r p (n+1))
  (k: ∀ m p',Ok N p'->1<=m->m<=N->Srt lt r p' m->Q (m,p') s):(kas_descPart n N p).kasWp cmp Q s:=by
 unfold kas_descPart;rw [BN];refine Qae L hc (N - (n+1)) p (n+1) 0 hp (by omega) (by omega) hd (fun a b h3 h4 h5 h6=> ?_) fun p' n' q' a b c d e g=> ?_
 ·have e1:a=n:=by omega
  have e2:b=n:=by omega
  subst e1 e2;exact L.irr _
 ·have hsz:=a.size;dsimp only
  by_cases hq:q' > 0
  ·rw [Qk hq];exact Qg5 L hc (Qay a) (by omega) (by omega) (e.rev L (by omega) (Q6 _) g) fun m p2 x y z w=>k m p2 x (by omega) z w
  ·rw [Qn hq];exact Qg5 L hc a (by omega) (by omega) e fun m p2 x y z w=>k m p2 x (by omega) z w
theorem Qr4 (L:LO lt) (hc:Ask lt r N s cmp) {p:Array Nat} {Q:Nat×Array Nat->Shared->Prop} (hp:Ok N p) (h1:1<=N)
  (k: ∀ m p',Ok N p'->1<=m->m<=N->Srt lt r p' m->Q (m,p') s):(kas_count N p).kasWp cmp Q s:=by
 unfold kas_count;rw [BN];have hsz:=hp.size;refine Qjl L hc hp (N - 1) 1 (Q6 _) (by omega) (fun i j a b=> ?_) fun n a b c d=> ?_
 ·have e1:i=0:=by omega
  have e2:j=0:=by omega
  subst e1 e2;exact L.irr _
 ·by_cases z:n=N
  ·subst z;rw [Qk (by simp)];exact k n p hp (by omega) (Q6 _) c
  ·rw [Qn (by simpa using z)];have hlt:=d (by omega)
   by_cases y:n > 1
   ·rw [Qk y];refine hc _ _ _ (hp.bd (by omega)) (hp.bd (by omega)) ?_;show KasT.kasWp cmp (if lt (ky r p 0) (ky r p (n - 1))=true then _ else _) Q s
    by_cases x:lt (ky r p 0) (ky r p (n - 1))=true
    ·rw [Qk x];exact k n p hp (by omega) (by omega) c
    ·rw [Qn x];have x':lt (ky r p 0) (ky r p (n - 1))=false:=by simpa using x
     have eq:Eqs lt r p 0 n:=fun a b _ h3 _ h4=>L.tr _ _ _ (c b (n - 1) (by omega) (by omega)) (L.tr _ _ _ x' (c 0 a (by omega) (by omega)))
     have dn:Des lt r p n:=fun i j _ h3=>eq i j (by omega) (by omega) (by omega) h3
     refine Oz L hc (Qay hp) (by omega) (by omega) ?_ k;refine Des.snoc L (dn.rev L (by omega) (Q6 _) eq) (by omega) ?_;rw [UT (by omega),UT (by omega),Qk ⟨by omega,by omega⟩,Qn (by omega)];exact L.tr _ _ _ (L.asy _ _ hlt) (eq _ _ (by omega) (by omega) (by omega) (by omega))
   ·rw [Qn y];have e1:n=1:=by omega
    subst e1;refine Oz L hc hp (Q6 _) (by omega) (fun i j h3 h4=> ?_) k;have hl:=L.asy _ _ hlt;have:(i=0/\j=0) \/ (i=0/\j=1) \/ (i=1/\j=1):=by omega
    rcases this with ⟨rfl,rfl⟩ | ⟨rfl,rfl⟩ | ⟨rfl,rfl⟩
    ·exact L.irr _
    ·exact hl
    ·exact L.irr _
theorem Qb3 (L:LO lt) (hc:Ask lt r N s cmp) {p:Array Nat} {k:Nat} (hp:Ok N p) (hk:k < N) (hs:Srt lt r p k): ∀ (f l u:Nat) {Q:Nat->Shared->Prop},u - l<=f->l<=u->u<=k ->
  (∀ i,i < l->lt (ky r p k) (ky r p i)=false)->(∀ i,u<=i->i < k->lt (ky r p k) (ky r p i)=true) ->
  (∀ m,m<=k->(∀ i,i < m->lt (ky r p k) (ky r p i)=false)->(∀ i,m<=i->i < k->lt (ky r p k) (ky r p i)=true)->Q m s)->(kas_place p k f l u).kasWp cmp Q s
 | 0,l,u,Q,h1,h2,h3,hl,hu,q=>by
  have e:l=u:=by omega
  subst e;exact q l h3 hl hu
 | f+1,l,u,Q,h1,h2,h3,hl,hu,q=>by
  unfold kas_place
  by_cases z:l ≥ u
  ·rw [Qk z];have e:l=u:=by omega
   subst e;exact q l h3 hl hu
  ·rw [Qn z];refine hc _ _ _ (hp.bd (by omega)) (hp.bd (by omega)) ?_;show KasT.kasWp cmp (if lt (ky r p k) (ky r p ((l+u) / 2))=true then _ else _) Q s
   by_cases x:lt (ky r p k) (ky r p ((l+u) / 2))=true
   ·rw [Qk x];refine Qb3 L hc hp hk hs f l ((l+u) / 2) (by omega) (by omega) (by omega) hl (fun i h4 h5=> ?_) q;cases y:lt (ky r p k) (ky r p i) with
    | true=>rfl
    | false =>
     have:=L.tr _ _ _ (hs ((l+u) / 2) i h4 h5) y;rw [x] at this;cases this
   ·rw [Qn x];have x':lt (ky r p k) (ky r p ((l+u) / 2))=false:=by simpa using x
    refine Qb3 L hc hp hk hs f ((l+u) / 2+1) u (by omega) (by omega) h3 (fun i h4=> ?_) hu q;exact L.tr _ _ _ (hs i ((l+u) / 2) (by omega) (by omega)) x'
theorem Qrd {p:Array Nat} {k d:Nat} (hk:k < p.size) (hd:d<=k) (i:Nat):ky r (bubble p k d) i=if i=k - d then ky r p k else if k - d < i/\i<=k then ky r p (i - 1) else ky r p i:=by
 have e:=getElem?_bubble hk d hd i;unfold ky;have g: ∀ (a:Array Nat) (n:Nat),a.getD n 0=(a[n]?).getD 0:=fun a n=>by simp [Quz]
 rw [g,e,g,g,g]
 by_cases h1:i=k - d
 ·rw [Qk h1,Qk h1]
 ·rw [Qn h1,Qn h1]
  by_cases h2:k - d < i/\i<=k
  ·rw [Qk h2,Qk h2]
  ·rw [Qn h2,Qn h2]
theorem Qre (L:LO lt) (hc:Ask lt r N s cmp): ∀ (f:Nat) (p:Array Nat) (k:Nat) {Q:Array Nat->Shared->Prop},Ok N p->1<=k->k+f=N->Srt lt r p k->(∀ p',Ok N p'->Srt lt r p' N->Q p' s)->(kas_bin f p k).kasWp cmp Q s
 | 0,p,k,Q,hp,h1,h2,hs,q=>by
  have e:k=N:=by omega
  subst e;exact q p hp hs
 | f+1,p,k,Q,hp,h1,h2,hs,q=>by
  unfold kas_bin;rw [BN];have hsz:=hp.size;refine Qb3 L hc hp (by omega) hs k 0 k (by omega) (by omega) (Q6 _) (fun i hi=>by omega) (fun i h3 h4=>by omega) fun m hm hlo hhi=> ?_
  refine Qre L hc f _ (k+1) ((bubble_perm ..).trans hp) (by omega) (by omega) (fun i j hij hj=> ?_) q;rw [Qrd (by omega) (by omega),Qrd (by omega) (by omega)];have em:k - (k - m)=m:=by omega
  rw [em]
  by_cases hi:i=m
  ·rw [Qk hi]
   by_cases hj':j=m
   ·rw [Qk hj'];exact L.irr _
   ·rw [Qn hj',Qk ⟨by omega,by omega⟩];exact L.asy _ _ (hhi _ (by omega) (by omega))
  ·rw [Qn hi]
   by_cases hi2:m < i/\i<=k
   ·rw [Qk hi2,Qn (by omega),Qk ⟨by omega,by omega⟩];exact hs _ _ (by omega) (by omega)
   ·rw [Qn hi2]
    by_cases hj':j=m
    ·rw [Qk hj'];exact hlo i (by omega)
    ·rw [Qn hj']
     by_cases hj2:m < j/\j<=k
     ·rw [Qk hj2];exact hs _ _ (by omega) (by omega)
     ·rw [Qn hj2];exact hs _ _ hij (by omega)
theorem Qsd (L:LO lt) (hc:Ask lt r N s cmp) {Q:Array Nat->Shared->Prop} (h1:1<=N) (q: ∀ p,Ok N p->Srt lt r p N->Q p s):(kas_sort N).kasWp cmp Q s:=by
 unfold kas_sort;rw [BN];refine Qr4 L hc (Array.Perm.refl _) h1 fun m p hp a b c=> ?_
 by_cases h:m < N
 ·show KasT.kasWp cmp (if m < N then _ else _) Q s;rw [Qk h];have e:max m 1=m:=by omega
  rw [e];exact Qre L hc (N - m) p m hp a (by omega) c q
 ·show KasT.kasWp cmp (if m < N then _ else _) Q s;rw [Qn h];have e:m=N:=by omega
  subst e;exact q p hp c
end
section
variable {prog:Program} {w:World} {A:Around} {E:Value->Shared->Prop} {s:Shared} {α:Type} {lt:α->α->Bool} {r:Nat->α}
def Ub (vs:List Value) (p:Array Nat):List Value:=p.toList.map fun i=>vs.getD i Value.none
theorem Qh7 (vs:List Value):Ub vs (List.range vs.length).toArray=vs:=by
 refine Zy fun i=> ?_
 unfold Ub;rw [Q8]
 by_cases h:i < vs.length
 ·simp [h]
 ·simp [h]
theorem Qd1 {a:Addr} {vs:List Value} {n:Nat} {κ:SortKind} {P:PySem.Fin->Shared->Prop} (ho:s.heap.get? a=some (seqObj "list" vs.toArray n)) (h64:vs.length < 64) (L:LO lt)
  (kind:2<=vs.length-> ∀ h',(∀ b o,b≠a->s.heap.get? b=some o->h'.get? b=some o)-> ∀ (Z:SortKind->Shared->Prop),Z κ { s with heap:=h' }->wpAny (model prog w) A (keyKind' vs.toArray) Z E { s with heap:=h' })
  (ask: ∀ h',(∀ b o,b≠a->s.heap.get? b=some o->h'.get? b=some o)->Ask lt r vs.length { s with heap:=h' } (kas_ask prog w A κ vs))
  (q: ∀ (p:Array Nat) (h':Heap) (c:Nat),Ok vs.length p->Srt lt r p vs.length->(∀ b o,b≠a->s.heap.get? b=some o->h'.get? b=some o)->h'.get? a=some (seqObj "list" (Ub vs p).toArray c)->P (.done (.ret .none)) { s with heap:=h' }) :
  wpAny (model prog w) A (Builtin.«list.sort» ⟨[.ref a],[]⟩) P E s:=by
 have line:vs.length<=sizeLine:=by rw [QP];omega
 obtain ⟨c1,g1⟩: ∃ c1,(s.heap.update a (Obj.mapSeq fun _=>(#[]:Array Value))).get? a=some (seqObj "list" #[] c1):=⟨_,get?_update_seq ho fun _=> #[]⟩;generalize hH:((s.heap.update a (Obj.mapSeq fun _=>(#[]:Array Value))).push (seqObj "tuple" vs.toArray 0)).push (seqObj "list" #[] 0)=H;have ga:H.get? a=some (seqObj "list" #[] c1):=by rw [<- hH];exact Q2 _ (Q2 _ g1)
 have up: ∀ b o,b≠a->s.heap.get? b=some o->H.get? b=some o:=fun b o hb e=>by
  rw [<- hH];refine Q2 _ (Q2 _ ?_);rw [(BL s.heap a _).2 b hb];exact e
 have fin: ∀ (p:Array Nat) (st:SortSt),Ok vs.length p->Srt lt r p vs.length->failedOf st=none->(arrOf st).map (·.2)=(Ub vs p).toArray ->
   wpAny (model prog w) A (do
    let touched:=(<- seqEpoch a) != c1
    Builtin.List.listUpdate (.ref a) fun _=>(arrOf st).map (·.2)
    if let some e:=failedOf st then rule "list.sort.comparison-raised"; throw e
    if touched then rule "list.sort.modified"; raiseError "ValueError" "list modified during sort"
    ret .none) P E { s with heap:=H }:=by
  intro p st hp hs hf ha;have il:(Ub vs p).toArray.size=vs.length:=by
   have:=hp.size;simp [Ub,this]
  refine Q1 (seqEpoch_at ga rfl ?_);rw [ha];refine Q1 (listUpdate_at ga rfl ?_ (Jd _) (by rw [il];omega));rw [hf];simp only [bne_self_eq_false,Yd,OI];refine Qe (q p _ _ hp hs (fun b o hb e=> ?_) (get?_update_seq ga fun _=>(Ub vs p).toArray));rw [(BL H a _).2 b hb];exact up b o hb e
 rw [list_sort_plain];refine Q1 (listItems_at ho rfl (Q1 (listUpdate_at ho rfl ?_ (by simpa using line) (Jd _))));refine Q1 (seqEpoch_at g1 rfl (Q1 (Qlg ?_ (by simpa using line))));refine Q1 (wpAny_newList (WO ?_) (Jd _));show wpAny (model prog w) A _ P E { s with heap:=((s.heap.update a (Obj.mapSeq fun _=>(#[]:Array Value))).push (seqObj "tuple" vs.toArray 0)).push (seqObj "list" #[] 0) };rw [hH]
 by_cases h2:2<=vs.length
 ·have nt: ¬ vs.toArray.size < 2:=by simpa using h2
  dsimp only;rw [Qn nt,Qn nt];refine Q1 (kind h2 H up _ ?_);have run:=kat_run (prog:=prog) (w:=w) (A:=A) (E:=E) (κ:=κ) (ks:=vs) (vs:=vs) (s:={ s with heap:=H }) (Q:=fun st s'=> ∃ p:Array Nat,Ok vs.length p/\Srt lt r p vs.length/\failedOf st=none/\(arrOf st).map (·.2)=(Ub vs p).toArray/\s'={ s with heap:=H })
   (G:=fun p s'=>Ok vs.length p/\Srt lt r p vs.length/\s'={ s with heap:=H }) rfl h2 h64 (fun p st s' _ har hf ⟨x,y,z⟩=>⟨p,x,y,hf,kat_snds rfl har,z⟩) (Qsd L (ask H up) (by omega) fun p x y=>⟨x,y,rfl⟩)
  refine Q1 (Jo run ?_ fun _ _ e=>e);rintro ⟨u,st⟩ s' ⟨p,x,y,hf,ha,rfl⟩;exact fin p st x y hf ha
 ·have nt:vs.toArray.size < 2:=by
   rw [Qh];omega
  dsimp only;rw [Qk nt,Qk nt];refine Q1 (Qe (Q1 (Qe ?_)));have hsm: ∀ (i:Nat),i < vs.length->i=0:=fun i hi=>by omega
  refine fin (List.range vs.length).toArray _ (Array.Perm.refl _) (fun i j h1 h3=> ?_) rfl ?_
  ·have e1:=hsm j h3;have e2:i=0:=by omega
   subst e1 e2;exact L.irr _
  ·show (vs.toArray.zip vs.toArray).map (·.2)=_;apply Array.toList_inj.mp;rw [Array.toList_map,Array.toList_zip,List.map_snd_zip (Q6 _)];show vs=Ub vs (List.range vs.length).toArray;exact (Qh7 vs).symm
end
end SO
namespace L2
open PySem PySem.Spec PyProof.Rows
def rkD:D->Nat
 | .non=>0
 | .bl _=>1
 | .int _=>2
 | .str _=>3
 | .tup _=>4
 | .lst _=>5
 | .dct _ _ _=>6
def cmpN {α:Type} [DecidableEq α] [LT α] [DecidableLT α] (a b:α):Ordering:=if a < b then .lt else if a=b then .eq else .gt
mutual
def cmpD:D->D->Ordering
 | .bl a,.bl b=>cmpN a.toNat b.toNat
 | .int a,.int b=>cmpN a b
 | .str a,.str b=>cmpN a.cps.toList b.cps.toList
 | .tup a,.tup b=>cmpDs a b
 | .lst a,.lst b=>cmpDs a b
 | .dct f a b,.dct g c d=>(cmpN f.toNat g.toNat).then ((cmpDs a c).then (cmpDs b d))
 | a,b=>cmpN (rkD a) (rkD b)
def cmpDs:List D->List D->Ordering
 | [],[]=> .eq
 | [],_::_=> .lt
 | _::_,[]=> .gt
 | a::as,b::bs=>(cmpD a b).then (cmpDs as bs)
end
theorem Qc9 {a b:Nat}:cmpN a b= .eq ↔ a=b:=by
 unfold cmpN;split
 ·simp;omega
 ·split<;>simp_all
theorem Qr8 {a b:Int}:cmpN a b= .eq ↔ a=b:=by
 unfold cmpN;split
 ·simp;omega
 ·split<;>simp_all
theorem Qr7 {a b:List Nat}:cmpN a b= .eq ↔ a=b:=by
 unfold cmpN;split
 ·rename_i h;simp only [reduceCtorEq,false_iff];rintro rfl;exact YJ _ h
 ·split<;>simp_all
theorem Qsc {a b:Str} (h:a.cps.toList=b.cps.toList):a=b:=by
 cases a;cases b;simp at h;simp [h]
mutual
theorem ZK: ∀ {a b:D},cmpD a b= .eq ↔ a=b
 | .non,b=>by cases b<;>simp [cmpD,cmpN,rkD]
 | .bl x,b=>by
  cases b with
  | bl y=>rw [cmpD,Qc9];cases x<;>cases y<;>simp
  | _=>simp [cmpD,cmpN,rkD]
 | .int x,b=>by
  cases b with
  | int y=>rw [cmpD,Qr8];simp
  | _=>simp [cmpD,cmpN,rkD]
 | .str x,b=>by
  cases b with
  | str y =>
   rw [cmpD,Qr7];exact ⟨fun h=>by rw [Qsc h],fun h=>by cases h;rfl⟩
  | _=>simp [cmpD,cmpN,rkD]
 | .tup x,b=>by
  cases b with
  | tup y=>rw [cmpD,Zw];simp
  | _=>simp [cmpD,cmpN,rkD]
 | .lst x,b=>by
  cases b with
  | lst y=>rw [cmpD,Zw];simp
  | _=>simp [cmpD,cmpN,rkD]
 | .dct f a b,e=>by
  cases e with
  | dct g c d =>
   rw [cmpD];have h1:cmpN f.toNat g.toNat= .eq ↔ f=g:=by rw [Qc9];cases f<;>cases g<;>simp
   have h2:=Zw (a:=a) (b:=c);have h3:=Zw (a:=b) (b:=d);rw [Ordering.then_eq_eq,Ordering.then_eq_eq,h1,h2,h3]
   simp
  | _=>simp [cmpD,cmpN,rkD]
theorem Zw: ∀ {a b:List D},cmpDs a b= .eq ↔ a=b
 | [],[]=>by simp [cmpDs]
 | [],_::_=>by simp [cmpDs]
 | _::_,[]=>by simp [cmpDs]
 | a::as,b::bs=>by
  rw [cmpDs];cases h:cmpD a b with
  | eq =>
   have:=ZK.mp h;subst this;simp [Ordering.then,Zw]
  | lt =>
   have:a≠b:=fun z=>by rw [ZK.mpr z] at h;cases h
   simp [Ordering.then,this]
  | gt =>
   have:a≠b:=fun z=>by rw [ZK.mpr z] at h;cases h
   simp [Ordering.then,this]
end
theorem Qhh (a b:Nat):cmpN b a=(cmpN a b).swap:=by
 unfold cmpN
 by_cases h1:a < b
 ·rw [Qn (by omega),Qn (by omega),Qk h1];rfl
 ·by_cases h2:b < a
  ·rw [Qk h2,Qn h1,Qn (by omega)];rfl
  ·have:a=b:=by omega
   subst this
   simp
theorem Qr6 (a b:Int):cmpN b a=(cmpN a b).swap:=by
 unfold cmpN
 by_cases h1:a < b
 ·rw [Qn (by omega),Qn (by omega),Qk h1];rfl
 ·by_cases h2:b < a
  ·rw [Qk h2,Qn h1,Qn (by omega)];rfl
  ·have:a=b:=by omega
   subst this
   simp
theorem Qmt (a b:List Nat):a < b \/ a=b \/ b < a:=by
 by_cases h1:a < b
 ·exact .inl h1
 ·by_cases h2:b < a
  ·exact .inr (.inr h2)
  ·exact .inr (.inl (List.le_antisymm (List.not_lt.mp h2) (List.not_lt.mp h1)))
theorem Qr5 (a b:List Nat):cmpN b a=(cmpN a b).swap:=by
 unfold cmpN;rcases Qmt a b with h | rfl | h
 ·have h2: ¬ b < a:=fun z=>YJ _ (List.lt_trans h z)
  have h3: ¬ b=a:=by rintro rfl;exact YJ _ h
  rw [Qn h2,Qn h3,Qk h];rfl
 ·rw [Qn (YJ a),Qk rfl];rfl
 ·have h2: ¬ a < b:=fun z=>YJ _ (List.lt_trans h z)
  have h3: ¬ a=b:=by rintro rfl;exact YJ _ h
  rw [Qk h,Qn h2,Qn h3];rfl
mutual
theorem Qag: ∀ (a b:D),cmpD b a=(cmpD a b).swap
 | .non,b=>by cases b<;>simp [cmpD,cmpN,rkD]
 | .bl x,b=>by
  cases b with
  | bl y=>rw [cmpD,cmpD];exact Qhh _ _
  | _=>simp [cmpD,cmpN,rkD]
 | .int x,b=>by
  cases b with
  | int y=>rw [cmpD,cmpD];exact Qr6 _ _
  | _=>simp [cmpD,cmpN,rkD]
 | .str x,b=>by
  cases b with
  | str y=>rw [cmpD,cmpD];exact Qr5 _ _
  | _=>simp [cmpD,cmpN,rkD]
 | .tup x,b=>by
  cases b with
  | tup y=>rw [cmpD,cmpD];exact Gm x y
  | _=>simp [cmpD,cmpN,rkD]
 | .lst x,b=>by
  cases b with
  | lst y=>rw [cmpD,cmpD];exact Gm x y
  | _=>simp [cmpD,cmpN,rkD]
 | .dct f a b,e=>by
  cases e with
  | dct g c d =>
   rw [cmpD,cmpD,Qhh,Gm a c,Gm b d];cases cmpN f.toNat g.toNat<;>cases cmpDs a c<;>rfl
  | _=>simp [cmpD,cmpN,rkD]
theorem Gm: ∀ (a b:List D),cmpDs b a=(cmpDs a b).swap
 | [],[]=>by simp [cmpDs]
 | [],_::_=>by simp [cmpDs]
 | _::_,[]=>by simp [cmpDs]
 | a::as,b::bs=>by
  rw [cmpDs,cmpDs,Qag a b,Gm as bs];cases cmpD a b<;>rfl
end
theorem Z0 {a b:Nat}:cmpN a b= .lt ↔ a < b:=by
 unfold cmpN;split
 ·simp_all
 ·split<;>simp_all
theorem Qhj {a b:Int}:cmpN a b= .lt ↔ a < b:=by
 unfold cmpN;split
 ·simp_all
 ·split<;>simp_all
theorem Qhi {a b:List Nat}:cmpN a b= .lt ↔ a < b:=by
 unfold cmpN;split
 ·simp_all
 ·split<;>simp_all
theorem Qju {o p:Ordering}:o.then p= .lt ↔ o= .lt \/ (o= .eq/\p= .lt):=by cases o<;>simp [Ordering.then]
set_option maxHeartbeats 2000000 in
mutual
theorem Qla: ∀ {a b c:D},cmpD a b= .lt->cmpD b c= .lt->cmpD a c= .lt
 | .non,b,c,h,g=>by cases b<;>cases c<;>simp_all [cmpD,Z0,rkD]
 | .bl x,b,c,h,g=>by
  cases b<;>cases c<;>simp_all [cmpD,Z0,rkD]<;>omega
 | .int x,b,c,h,g=>by
  cases b<;>cases c<;>simp_all [cmpD,Z0,Qhj,rkD]<;>omega
 | .str x,b,c,h,g=>by
  cases b<;>cases c<;>simp_all [cmpD,Z0,Qhi,rkD];exact List.lt_trans h g
 | .tup x,b,c,h,g=>by
  cases b with
  | tup y =>
   cases c with
   | tup z=>rw [cmpD] at h g ⊢; exact Gk h g
   | _=>simp_all [cmpD,Z0,rkD]
  | _=>cases c<;>simp_all [cmpD,Z0,rkD]
 | .lst x,b,c,h,g=>by
  cases b with
  | lst y =>
   cases c with
   | lst z=>rw [cmpD] at h g ⊢; exact Gk h g
   | _=>simp_all [cmpD,Z0,rkD]
  | _=>cases c<;>simp_all [cmpD,Z0,rkD]
 | .dct f1 x1 x2,b,c,h,g=>by
  cases b with
  | dct f2 y1 y2 =>
   cases c with
   | dct f3 z1 z2 =>
    rw [cmpD] at h g ⊢;have eqN: ∀ {a b:Nat},cmpN a b= .eq ↔ a=b:=Qc9;simp only [Qju,Z0,eqN] at h g ⊢;rcases h with h | ⟨h,h' | ⟨h',h''⟩⟩<;>rcases g with g | ⟨g,g' | ⟨g',g''⟩⟩
    ·exact .inl (by omega)
    ·exact .inl (by omega)
    ·exact .inl (by omega)
    ·exact .inl (by omega)
    ·exact .inr ⟨by omega,.inl (Gk h' g')⟩
    ·rw [Zw] at g';subst g';exact .inr ⟨by omega,.inl h'⟩
    ·exact .inl (by omega)
    ·rw [Zw] at h';subst h';exact .inr ⟨by omega,.inl g'⟩
    ·rw [Zw] at h' g';subst h';subst g';exact .inr ⟨by omega,.inr ⟨Zw.mpr rfl,Gk h'' g''⟩⟩
   | _=>simp_all [cmpD,Z0,rkD]
  | _=>cases c<;>simp_all [cmpD,Z0,rkD]
theorem Gk: ∀ {a b c:List D},cmpDs a b= .lt->cmpDs b c= .lt->cmpDs a c= .lt
 | [],b,c,h,g=>by
  cases b with
  | nil=>simp [cmpDs] at h
  | cons y ys =>
   cases c with
   | nil=>simp [cmpDs] at g
   | cons z zs=>simp [cmpDs]
 | x::xs,b,c,h,g=>by
  cases b with
  | nil=>simp [cmpDs] at h
  | cons y ys =>
   cases c with
   | nil=>simp [cmpDs] at g
   | cons z zs =>
    rw [cmpDs,Qju] at h g ⊢;rcases h with h | ⟨h1,h2⟩
    ·rcases g with g | ⟨g1,_⟩
     ·exact .inl (Qla h g)
     ·rw [<- ZK.mp g1];exact .inl h
    ·have e:=ZK.mp h1;subst e;rcases g with g | ⟨g1,g2⟩
     ·exact .inl g
     ·exact .inr ⟨g1,Gk h2 g2⟩
end
def ltD (a b:D):Bool:=cmpD a b == .lt
theorem YE {a b:D}:ltD a b=true ↔ cmpD a b= .lt:=by simp [ltD]
theorem Qfe:SO.LO ltD where
 irr:=fun a=>by
  have:cmpD a a= .eq:=ZK.mpr rfl;simp [ltD,this]
 tr:=fun a b c h g=>by
  cases z:ltD c a with
  | false=>rfl
  | true =>
   exfalso;have z:=YE.mp z;have h':cmpD b a≠ .lt:=fun y=>by rw [YE.mpr y] at h;cases h
   have g':cmpD c b≠ .lt:=fun y=>by rw [YE.mpr y] at g;cases g
   cases q:cmpD c b with
   | lt=>exact g' q
   | eq=>rw [ZK.mp q] at z;exact h' z
   | gt =>
    have q':cmpD b c= .lt:=by rw [Qag c b,q];rfl
    exact h' (Qla q' z)
 asy:=fun a b h=>by
  have h:=YE.mp h;have:cmpD b a= .gt:=by rw [Qag a b,h];rfl
  simp [ltD,this]
theorem Qu1 {a b:D} (h:ltD a b=false) (g:ltD b a=false):a=b:=by
 have h':cmpD a b≠ .lt:=fun y=>by rw [YE.mpr y] at h;cases h
 have g':cmpD b a≠ .lt:=fun y=>by rw [YE.mpr y] at g;cases g
 cases q:cmpD a b with
 | lt=>exact (h' q).elim
 | eq=>exact ZK.mp q
 | gt =>
  exfalso;apply g';rw [Qag a b,q];rfl
mutual
def cmb:D->D->Bool
 | .int _,.int _=>true
 | .str _,.str _=>true
 | .tup a,.tup b=>cmbs a b
 | _,_=>false
def cmbs:List D->List D->Bool
 | [],_=>true
 | _,[]=>true
 | a::as,b::bs=>cmb a b && cmbs as bs
end
def LtAt (A:Around) (s:Shared) (y x:Value) (b:Bool):Prop:= ∀ (prog:Program) (w:World) (E:Value->Shared->Prop) (Q:Value->Shared->Prop),Q (.bool b) s->wpAny (model prog w) A (richCompare .Lt y x) Q E s
theorem O2 {a b:D} {as bs:List D}:(cmpDs (a::as) (b::bs) == .lt)=if a=b then (cmpDs as bs == .lt) else ltD a b:=by
 rw [cmpDs]
 by_cases h:a=b
 ·rw [Qk h,ZK.mpr h];rfl
 ·rw [Qn h];have:cmpD a b≠ .eq:=fun z=>h (ZK.mp z)
  unfold ltD;cases q:cmpD a b with
  | eq=>exact absurd q this
  | lt=>rfl
  | gt=>rfl
open PySem.SeqAt in
open PySem.AutoSeq1 (wpAny_loadPart') in
open PySem.MeetsSeq PySem.MeetsSeq2 PySem.MeetsSeq3 in
theorem Qls (l b:Addr) (items items2:List Value) (n n2:Nat) (dd dd2:Option Addr) (sl sl2:Array (Option Value)) (ds es:List D) (hk:keyOks ds=true) (hk2:keyOks es=true) :
  Meets (Builtin.«tuple.__lt__» ⟨[.ref l,.ref b],[]⟩)
   (fun A R s=>s.heap.get? l=some { cls:= .type "tuple",dict:=dd,data:= .seq items.toArray n,slots:=sl }/\s.heap.get? b=some { cls:= .type "tuple",dict:=dd2,data:= .seq items2.toArray n2,slots:=sl2 } /\
    CAll s.heap ds items/\CAll s.heap es items2/\A.units+1+deps ds+deps es < cLine/\(∀ (i:Nat) (d e:D) (v u:Value),ds[i]? =some d->es[i]? =some e->CIs s.heap d v->CIs s.heap e u->LtAt A.in1 s v u (ltD d e)) /\
    R (.ok (.ret (.bool (cmpDs ds es == .lt)))) s) :=
 .of_wp fun prog w A R s h=>by
  obtain ⟨hp,g,d,tk,os⟩:=s;obtain ⟨hl,hb,cd,ce,hu,hlt,h⟩:=h;have f2:=AutoSeq1.sub_tuple_tuple
  wp_walk using wpAny_loadPart' hl,wpAny_loadPart' hb,wpAny_forIn_list _ (fun rest r s'=>r.1=none/\s'=⟨hp,g,d,tk,os⟩/\ ∃ (i:Nat) (vs ws:List Value) (xs ys:List D),rest=vs.zip ws /\
   xs=ds.drop i/\ys=es.drop i/\CAll hp xs vs/\CAll hp ys ws/\vs.length+items2.length=ws.length+items.length/\R (.ok (.ret (.bool (cmpDs xs ys == .lt)))) ⟨hp,g,d,tk,os⟩) _
  case turn =>
   rintro ⟨y,x⟩ rest r s' ⟨hr,rfl,i,vs,ws,xs,ys,hz,ex,ey,cx,cy,hlen,hR⟩;cases xs with
   | nil =>
    simp only [CAll] at cx;subst cx;cases hz
   | cons a xs =>
    cases ys with
    | nil =>
     simp only [CAll] at cy;subst cy;rw [List.zip_nil_right] at hz;cases hz
    | cons c ys =>
     rw [CAll] at cx cy;obtain ⟨v,vs',rfl,ia,cx⟩:=cx;obtain ⟨u,ws',rfl,ic,cy⟩:=cy;rw [Za] at hz;injection hz with hyx hrest
     injection hyx with e1 e2
     subst e1 e2;have ma:ds[i]? =some a:=by
      have:=JQ (fun l=>l[0]?) ex;simpa using this.symm
     have mc:es[i]? =some c:=by
      have:=JQ (fun l=>l[0]?) ey;simpa using this.symm
     have ka:keyOk a=true:=WJ.mp hk a (Q4 ma);have kc:keyOk c=true:=WJ.mp hk2 c (Q4 mc);rw [O2] at hR;simp only [QC] at hlen;have he:=Qj8 (s:=⟨hp,g,d,tk,os⟩) a c ia ic (A:=A.in1) (by have:=Qc3 (Q4 ma);have:=Qc3 (Q4 mc);show A.units+1+dep a+dep c < cLine;omega);rw [BC ka kc] at he;refine Q1 (he prog w _ _ ?_)
     by_cases hac:a=c
     ·rw [QM hac];rw [Qk hac] at hR
      wp_walk
      refine ⟨rfl,rfl,i+1,_,_,xs,ys,hrest,?_,?_,cx,cy,by omega,hR⟩
      ·have:=JQ List.tail ex;simpa using this
      ·have:=JQ List.tail ey;simpa using this
     ·rw [QA hac];rw [Qn hac] at hR;have hri:=hlt i a c _ _ ma mc ia ic prog w
      wp_walk using hri
      exact ⟨_,rfl,by simpa using hR⟩
  case fin =>
   rintro ⟨b1,b2⟩ s' ⟨hr,rfl,i,vs,ws,xs,ys,hz,ex,ey,cx,cy,hlen,hR⟩;simp only at hr;subst hr;have hv:(cmpDs xs ys == .lt)=decide (items.toArray.size < items2.toArray.size):=by
    rw [Qh,Qh];have l1:=cx.len;have l2:=cy.len;cases xs with
    | nil =>
     cases ys with
     | nil =>
      simp only [WS] at l1 l2;rw [QA (by omega)];rfl
     | cons c ys =>
      simp only [WS,QC] at l1 l2;rw [QM (by omega)];rfl
    | cons a xs =>
     cases ys with
     | nil =>
      simp only [WS,QC] at l1 l2;rw [QA (by omega)];rfl
     | cons c ys =>
      rw [CAll] at cx cy;obtain ⟨v,vs',rfl,ia,cx⟩:=cx;obtain ⟨u,ws',rfl,ic,cy⟩:=cy;rw [Za] at hz;cases hz
   rw [hv] at hR
   wp_walk
   exact ⟨_,rfl,by simpa [Builtin.Tuple.tupleCompareSizes] using hR⟩
  case h =>
   exact ⟨rfl,rfl,0,items,items2,ds,es,rfl,rfl,rfl,cd,ce,by omega,h⟩
section
variable {s:Shared}
theorem Qu2 (a b:Int):ltD (.int a) (.int b)=decide (a < b):=by
 rw [Jc,YE,QD,cmpD,Qhj]
theorem Qfd (a b:Str):ltD (.str a) (.str b)=decide (a.cps.toList < b.cps.toList):=by
 rw [Jc,YE,QD,cmpD,Qhi]
theorem Qkq (a b:List D):ltD (.tup a) (.tup b)=(cmpDs a b == .lt):=by
 unfold ltD;rw [cmpD]
mutual
theorem Qzo: ∀ (d e:D) {v u:Value} {A:Around},keyOk d=true->keyOk e=true->cmb d e=true->CIs s.heap d v->CIs s.heap e u->A.units+dep d+dep e < cLine->LtAt A s v u (ltD d e)
 | .int a,e,v,u,A,k1,k2,c,x,y,hu=>by
  cases e with
  | int b =>
   simp only [CIs] at x y;obtain ⟨t,rfl⟩:=x;obtain ⟨t',rfl⟩:=y;rw [Qu2];exact fun prog w E Q q=>(PyProof.Rows.lt_int q:wpAny (model prog w) A (compareOp .Lt (.int a t) (.int b t')) Q E s)
  | _=>simp [cmb] at c
 | .str a,e,v,u,A,k1,k2,c,x,y,hu=>by
  cases e with
  | str b =>
   simp only [CIs] at x y;obtain ⟨t,rfl⟩:=x;obtain ⟨t',rfl⟩:=y;rw [Qfd];exact fun prog w E Q q=>(PyProof.Rows.lt_str q:wpAny (model prog w) A (compareOp .Lt (.str a t) (.str b t')) Q E s)
  | _=>simp [cmb] at c
 | .tup ds,e,v,u,A,k1,k2,c,x,y,hu=>by
  cases e with
  | tup es =>
   obtain ⟨a,its,rfl,p,ca⟩:=ctup.mp x;obtain ⟨b,its',rfl,p',cb⟩:=ctup.mp y;have k1':keyOks ds=true:=by simpa [keyOk] using k1
   have k2':keyOks es=true:=by simpa [keyOk] using k2
   have c':cmbs ds es=true:=by simpa [cmb] using c
   have hu':A.units+1+deps ds+deps es < cLine:=by simp only [dep] at hu;omega
   obtain ⟨⟨cls,dd,data,sl⟩,ho,hc,n,hd⟩:=id p;obtain ⟨⟨cls2,dd2,data2,sl2⟩,ho2,hc2,n2,hd2⟩:=id p';simp only at hc hd hc2 hd2;subst hc hd hc2 hd2;rw [Qkq];intro prog w E Q q;exact richCompare_meets_room (op:= .Lt) ⟨_,ho,rfl⟩ ⟨_,ho2,rfl⟩ PySem.F.slot_tuple_lt PySem.F.entry_tuple_lt (PySem.F.args_tuple_lt_2 _ _) (Qls a b its its' n n2 dd dd2 sl sl2 ds es k1' k2')
    ⟨ho,ho2,ca,cb,hu',Qvi ds es k1' k2' c' (show A.in1.units+deps ds+deps es < cLine from hu'),show Value.bool (cmpDs ds es == .lt)≠Value.notImplemented/\Q (.bool (cmpDs ds es == .lt)) s from ⟨(fun z=>nomatch z),q⟩⟩ (by omega)
  | _=>simp [cmb] at c
 | .non,e,v,u,A,k1,k2,c,x,y,hu=>by simp [keyOk] at k1
 | .bl _,e,v,u,A,k1,k2,c,x,y,hu=>by simp [keyOk] at k1
 | .lst _,e,v,u,A,k1,k2,c,x,y,hu=>by simp [keyOk] at k1
 | .dct _ _ _,e,v,u,A,k1,k2,c,x,y,hu=>by simp [keyOk] at k1
theorem Qvi: ∀ (ds es:List D) {A:Around},keyOks ds=true->keyOks es=true->cmbs ds es=true->A.units+deps ds+deps es < cLine-> ∀ (i:Nat) (d e:D) (v u:Value),ds[i]? =some d->es[i]? =some e->CIs s.heap d v->CIs s.heap e u->LtAt A s v u (ltD d e)
 | [],es,A,k1,k2,c,hu,i,d,e,v,u,h1,h2,x,y=>by simp at h1
 | a::ds,[],A,k1,k2,c,hu,i,d,e,v,u,h1,h2,x,y=>by simp at h2
 | a::ds,b::es,A,k1,k2,c,hu,0,d,e,v,u,h1,h2,x,y=>by
  have e1:a=d:=by simpa using h1
  have e2:b=e:=by simpa using h2
  subst e1 e2;simp only [keyOks,Qv] at k1 k2;simp only [cmbs,Qv] at c;exact Qzo a b k1.1 k2.1 c.1 x y (by simp only [deps] at hu;omega)
 | a::ds,b::es,A,k1,k2,c,hu,i+1,d,e,v,u,h1,h2,x,y=>by
  simp only [keyOks,Qv] at k1 k2;simp only [cmbs,Qv] at c;exact Qvi ds es k1.2 k2.2 c.2 (by simp only [deps] at hu;omega) i d e v u (by simpa using h1) (by simpa using h2) x y
end
end
section
variable {prog:Program} {w:World} {A:Around} {E:Value->Shared->Prop} {s:Shared}
theorem Qh1 {fin:Bool} {Q:Bool->Shared->Prop}: ∀ (ds es:List D) {vs us:List Value} (i:Nat),keyOks ds=true->keyOks es=true->cmbs ds es=true->CAll s.heap ds vs->CAll s.heap es us->A.units+deps ds+deps es < cLine->1<=i ->
  ((fin=decide (ds.length < es.length)) \/ True)->(ds.length < es.length ↔ fin=true)->Q (cmpDs ds es == .lt) s->W.KatLex prog w A true fin Q (vs.zip us) i s
 | [],es,vs,us,i,k1,k2,c,x,y,hu,hi,_,hf,q=>by
  simp only [CAll] at x;subst x;rw [List.zip_nil_left];refine W.kat_nil ?_;cases es with
  | nil =>
   have:fin=false:=by
    cases z:fin with
    | false=>rfl
    | true=>exact absurd (hf.mpr z) (by simp)
   rw [this];simpa [cmpDs] using q
  | cons e es =>
   rw [hf.mp (by simp)];simpa [cmpDs] using q
 | d::ds,[],vs,us,i,k1,k2,c,x,y,hu,hi,_,hf,q=>by
  simp only [CAll] at y;subst y;rw [List.zip_nil_right];refine W.kat_nil ?_;have:fin=false:=by
   cases z:fin with
   | false=>rfl
   | true=>exact absurd (hf.mpr z) (by simp)
  rw [this];simpa [cmpDs] using q
 | d::ds,e::es,vs,us,i,k1,k2,c,x,y,hu,hi,_,hf,q=>by
  rw [CAll] at x y;obtain ⟨v,vs',rfl,ia,cx⟩:=x;obtain ⟨u,us',rfl,ic,cy⟩:=y;simp only [keyOks,Qv] at k1 k2;simp only [cmbs,Qv] at c;simp only [deps] at hu;rw [Za];refine W.kat_cons ?_;have he:=Qj8 (s:=s) d e ia ic (A:=A) (by omega);rw [BC k1.1 k2.1] at he;refine he prog w _ _ ?_;rw [O2] at q
  by_cases h:d=e
  ·rw [QM h];rw [Qk h] at q;refine W.kat_yes (Qh1 ds es (i+1) k1.2 k2.2 c.2 cx cy (by omega) (by omega) (.inr trivial) ?_ q);rw [<- hf]
   simp
  ·rw [QA h];rw [Qn h] at q;refine W.kat_no ?_;have hb:(true && i == 0)=false:=by
    rw [Y0,Ws];omega
   rw [hb];exact W.kat_one _ _ (Qzo d e k1.1 k2.1 c.1 ia ic (by omega) prog w _ _ q)
theorem Qub {x y:Str} {ds es:List D} {v u:Value} {Q:Bool->Shared->Prop} (k1:keyOks ds=true) (k2:keyOks es=true) (c:cmbs ds es=true) (p:CIs s.heap (.tup (.str x::ds)) v) (p':CIs s.heap (.tup (.str y::es)) u) (hu:A.units+2+deps ds+deps es < cLine)
  (q:Q (ltD (.tup (.str x::ds)) (.tup (.str y::es))) s):wpAny (model prog w) A (keyLt' (tuples' true) v u) Q E s:=by
 obtain ⟨a,its,rfl,⟨o,ho,hc,n,hd⟩,ca⟩:=ctup.mp p;obtain ⟨b,its',rfl,⟨o',ho',hc',n',hd'⟩,cb⟩:=ctup.mp p';have l1:=ca.len;have l2:=cb.len;rw [CAll] at ca cb;obtain ⟨v1,vs,rfl,ia,ca⟩:=ca;obtain ⟨u1,us,rfl,ib,cb⟩:=cb;simp only [CIs] at ia ib;obtain ⟨t,rfl⟩:=ia;obtain ⟨t',rfl⟩:=ib;refine W.kat_lt ho hd ho' hd' ?_;rw [Qkq,O2] at q;show W.KatLex prog w A true _ Q (((Value.str x t)::vs).zip ((Value.str y t')::us)) 0 s;rw [Za];refine W.kat_cons (Qrw x t y t' prog w _ _ ?_)
 by_cases h:x=y
 ·subst h;rw [beq_self_eq_true];rw [Qk rfl] at q;refine W.kat_yes (Qh1 ds es 1 k1 k2 c ca cb (by omega) (Q6 _) (.inr trivial) ?_ q);simp only [QC] at l1 l2
  simp
  omega
 ·have hb:(x == y)=false:=by simpa using h
  rw [hb];rw [Qn (fun z=>h (by injection z)),Qfd] at q;refine W.kat_no ?_;exact oneLt_str q
theorem Qxp {ds:List D} {vs:List Value} {Q:SortKind->Shared->Prop} (hne:0 < ds.length) (c:CAll s.heap ds vs) (hf: ∀ d∈ds,∃ x r,d= .tup (.str x::r)) (q:Q (tuples' true) s):wpAny (model prog w) A (keyKind' vs.toArray) Q E s:=by
 have go: ∀ (ds:List D) (vs:List Value),CAll s.heap ds vs->(∀ d∈ds,∃ x r,d= .tup (.str x::r))-> ∃ fs,W.KatTups s.heap vs fs/\fs.length=ds.length/\ ∀ f∈fs,∃ x t,f=Value.str x t:=by
  intro ds
  induction ds with
  | nil =>
   intro vs c _;simp only [CAll] at c;subst c;exact ⟨[],W.KatTups.nil,rfl,fun f hf=>nomatch hf⟩
  | cons d ds ih =>
   intro vs c hf;rw [CAll] at c;obtain ⟨v,r,rfl,x,c⟩:=c;obtain ⟨fs,k,l,f⟩:=ih r c fun e he=>hf e (Q9 _ he)
   obtain ⟨z,rr,rfl⟩:=hf d Q7;obtain ⟨a,its,rfl,⟨o,ho,hc,n,hd⟩,ca⟩:=ctup.mp x;rw [CAll] at ca;obtain ⟨v1,vs1,rfl,iv,_⟩:=ca;simp only [CIs] at iv;obtain ⟨t,rfl⟩:=iv;refine ⟨.str z t::fs,W.KatTups.cons ho hc hd rfl k,by simp [l],fun g hg=> ?_⟩;rcases Qd.mp hg with rfl | hg
   ·exact ⟨z,t,rfl⟩
   ·exact f g hg
 obtain ⟨fs,k,l,f⟩:=go ds vs c hf;have e:(Value.type "str" != Value.type "tuple")=true:=by decide
 refine W.kat_kind (T:= .type "str") k (by omega) (fun v hv=> ?_) (by decide) (by rw [e];exact q);obtain ⟨x,t,rfl⟩:=f v hv;exact .now
end
section
variable {X:Cx} {pins:List (Addr×Obj)} {σ:St} {H:Hp} {s:Shared}
mutual
theorem Is.conc (I:Inv X pins σ H s): ∀ {d:D} {v:V} {u:Value},noD d=true->Is X.K H d v->RelV v u->CIs s.heap d u
 | .non,v,u,_,x,r=>by simp only [Is] at x;subst x;simp only [CIs];exact r
 | .dct _ _ _,v,u,n,x,r=>by simp [noD] at n
 | .bl b,v,u,_,x,r=>by simp only [Is] at x;subst x;simp only [CIs];exact r
 | .int b,v,u,_,x,r=>by simp only [Is] at x;subst x;simp only [CIs];exact r
 | .str b,v,u,_,x,r=>by simp only [Is] at x;subst x;simp only [CIs];exact r
 | .tup ds,v,u,n,x,r=>by
  obtain ⟨p,vs,rfl,q,a⟩:=Jn x;obtain ⟨its,rv,t,_⟩:=I.tuple q;exact ctup.mpr ⟨p,its,r,t,Va.conc I (by simpa [noD] using n) a rv⟩
 | .lst ds,v,u,n,x,r=>by
  obtain ⟨p,vs,rfl,q,a⟩:=Wr x;obtain ⟨its,rv,t,_⟩:=I.list q;exact clst.mpr ⟨p,its,r,t.isList,Va.conc I (by simpa [noD] using n) a rv⟩
theorem Va.conc (I:Inv X pins σ H s): ∀ {ds:List D} {vs:List V} {us:List Value},Qgr ds=true->Va X.K H ds vs->Vals vs us->CAll s.heap ds us
 | [],vs,us,_,x,r=>by
  rw [Va] at x;subst x;cases r;simp [CAll]
 | d::ds,vs,us,n,x,r=>by
  rw [Qgr,Qv] at n;rw [Va] at x;obtain ⟨v,vs',rfl,q,t⟩:=x;cases r with
  | cons r1 r2 =>
   rw [CAll];exact ⟨_,_,rfl,Is.conc I n.1 q r1,Va.conc I n.2 t r2⟩
end
end
def Qn1 (d:D):List D->List D
 | []=>[d]
 | e::r=>if ltD e d then e::Qn1 d r else d::e::r
def U0 (ds:List D):List D:=ds.foldr Qn1 []
theorem O8 (d:D): ∀ l:List D,(Qn1 d l).Perm (d::l)
 | []=> .refl _
 | e::r=>by
  unfold Qn1;split
  ·exact ((O8 d r).cons e).trans (.swap d e r)
  ·exact .refl _
theorem Ur: ∀ ds:List D,(U0 ds).Perm ds
 | []=> .refl _
 | d::ds=>(O8 d _).trans ((Ur ds).cons d)
def SrtL (l:List D):Prop:=l.Pairwise fun a b=>ltD b a=false
theorem Qh5 (d:D): ∀ {l:List D},SrtL l->SrtL (Qn1 d l)
 | [],_=>List.pairwise_singleton _ _
 | e::r,h=>by
  obtain ⟨h1,h2⟩:=Yb.mp h;unfold Qn1;split
  ·rename_i hlt;refine Yb.mpr ⟨fun x hx=> ?_,Qh5 d h2⟩;rcases Qd.mp ((O8 d r).mem_iff.mp hx) with rfl | hx
   ·exact Qfe.asy _ _ hlt
   ·exact h1 x hx
  ·rename_i hlt;have hlt':ltD e d=false:=by simpa using hlt
   refine Yb.mpr ⟨fun x hx=> ?_,h⟩;rcases Qd.mp hx with rfl | hx
   ·exact hlt'
   ·exact Qfe.tr _ _ _ hlt' (h1 x hx)
theorem Gz: ∀ ds:List D,SrtL (U0 ds)
 | []=>List.Pairwise.nil
 | d::ds=>Qh5 d (Gz ds)
theorem B6: ∀ {l m:List D},l.Perm m->SrtL l->SrtL m->l=m
 | [],m,p,_,_=>(List.nil_perm.mp p).symm
 | a::l,m,p,hl,hm=>by
  cases m with
  | nil=>exact absurd p.length_eq (by simp)
  | cons b m =>
   obtain ⟨h1,h2⟩:=Yb.mp hl;obtain ⟨g1,g2⟩:=Yb.mp hm;have e:a=b:=by
    by_cases hab:a=b
    ·exact hab
    ·have ha:a∈m:=by
      rcases Qd.mp (p.mem_iff.mp Q7) with z | z
      ·exact absurd z hab
      ·exact z
     have hb:b∈l:=by
      rcases Qd.mp (p.mem_iff.mpr Q7) with z | z
      ·exact absurd z.symm hab
      ·exact z
     exact Qu1 (g1 a ha) (h1 b hb)
   subst e;rw [B6 (List.Perm.cons_inv p) h2 g2]
theorem Qo9 {l ds:List D} (p:l.Perm ds) (h:SrtL l):l=U0 ds:=B6 (p.trans (Ur ds).symm) h (Gz ds)
end L2
namespace L2
open PySem PySem.Spec PyProof.Rows PySem.W
structure Srtb (ds:List D):Prop where
 fm: ∀ d∈ds,∃ x r,d= .tup (.str x::r)/\keyOks r=true/\deps r<=5
 cm: ∀ d∈ds,∀ e∈ds,cmb d e=true
theorem Srtb.key {ds:List D} (h:Srtb ds):keyOks ds=true:=WJ.mpr fun d hd=>by
 obtain ⟨x,r,rfl,k,_⟩:=h.fm d hd;simp [keyOk,keyOks,k]
theorem Srtb.perm {ds es:List D} (h:Srtb ds) (p:es.Perm ds):Srtb es:=⟨fun d hd=>h.fm d (p.mem_iff.mp hd),fun d hd e he=>h.cm d (p.mem_iff.mp hd) e (p.mem_iff.mp he)⟩
theorem Qb5 {α:Type} (ds:List D) {p:Array Nat} (h:SO.Ok ds.length p):(p.toList.map fun i=>ds.getD i .non).Perm ds:=by
 have hp:p.toList.Perm (List.range ds.length):=by simpa using B4.mp h
 refine (hp.map _).trans ?_;have:(List.range ds.length).map (fun i=>ds.getD i .non)=ds:=by
  refine Zy fun i=> ?_
  rw [Q8]
  by_cases hi:i < ds.length
  ·simp [hi]
  ·simp [hi]
 rw [this]
theorem Qg8 {ds:List D} {p:Array Nat} (h:SO.Ok ds.length p) (hs:SO.Srt ltD (fun i=>ds.getD i .non) p ds.length):(p.toList.map fun i=>ds.getD i .non)=U0 ds:=by
 refine Qo9 (Qb5 (α:=Unit) ds h) ?_;unfold SrtL;rw [List.pairwise_map,List.pairwise_iff_getElem];intro i j hi hj hij;have hsz:=h.size;have hj':j < ds.length:=by simpa [hsz] using hj
 have:=hs i j (by omega) hj';unfold SO.ky at this;have ei:p.getD i 0=p[i]'(by omega):=by simp [Array.getD,show i < p.size by omega]
 have ej:p.getD j 0=p[j]'(by omega):=by simp [Array.getD,show j < p.size by omega]
 rw [ei,ej] at this;simpa using this
section
variable {prog:Program} {w:World} {A:Around} {E:Value->Shared->Prop} {s:Shared}
theorem CAll.getD {h:Heap} {ds:List D} {vs:List Value} (c:CAll h ds vs) {i:Nat} (hi:i < ds.length):CIs h (ds.getD i .non) (vs.getD i Value.none):=by
 obtain ⟨v,e,x⟩:=c.get (i:=i) (d:=ds[i]) (by simp [hi]);have e1:ds.getD i .non=ds[i]:=by simp [hi]
 have e2:vs.getD i Value.none=v:=by rw [Qm,e];rfl
 rw [e1,e2];exact x
theorem Qwa {a:Addr} {out:List Value} {ds:List D} {n:Nat} {P:PySem.Fin->Shared->Prop} (ho:s.heap.get? a=some (seqObj "list" out.toArray n)) (c:CAll s.heap ds out) (h64:ds.length < 64) (hs:Srtb ds) (hu:A.units+20 < cLine)
  (q: ∀ (p:Array Nat) (h':Heap) (c':Nat),SO.Ok ds.length p->(p.toList.map fun i=>ds.getD i .non)=U0 ds->(∀ b o,b≠a->s.heap.get? b=some o->h'.get? b=some o)->h'.get? a=some (seqObj "list" (SO.Ub out p).toArray c')->P (.done (.ret .none)) { s with heap:=h' }) :
  wpAny (model prog w) A (Builtin.«list.sort» ⟨[.ref a],[]⟩) P E s:=by
 have hl:=c.len;have stay: ∀ h':Heap,(∀ b o,b≠a->s.heap.get? b=some o->h'.get? b=some o)->TStay s.heap h':=fun h' k b o e hc=>by
  refine k b o ?_ e;rintro rfl;rw [ho] at e;cases e;exact absurd (show Value.type "list" =Value.type "tuple" from hc) (by decide)
 refine SO.Qd1 (κ:=tuples' true) (r:=fun i=>ds.getD i .non) ho (by omega) Qfe (fun h2 h' k Z z=> ?_) (fun h' k i j C hi hj z=> ?_) (fun p h' c' hp hsr k g=> ?_)
 ·exact Qxp (s:={ s with heap:=h' }) (ds:=ds) (by omega) (CAll.stay (stay h' k) hs.key c) (fun d hd=>by obtain ⟨x,r,e,_⟩:=hs.fm d hd;exact ⟨x,r,e⟩) z
 ·rw [<- hl] at hi hj;have c2:CAll h' ds out:=CAll.stay (stay h' k) hs.key c;have x1:=c2.getD hi;have x2:=c2.getD hj;have m1:ds.getD i .non∈ds:=by
   have:ds.getD i .non=ds[i]:=by simp [hi]
   rw [this];exact ZO hi
  have m2:ds.getD j .non∈ds:=by
   have:ds.getD j .non=ds[j]:=by simp [hj]
   rw [this];exact ZO hj
  obtain ⟨x,r,e1,k1,d1⟩:=hs.fm _ m1;obtain ⟨y,r',e2,k2,d2⟩:=hs.fm _ m2;have cm:=hs.cm _ m1 _ m2;rw [e1,e2] at cm;have cm':cmbs r r'=true:=by simpa [cmb,cmbs] using cm
  have z':C (ltD (ds.getD i .non) (ds.getD j .non)) { s with heap:=h' }:=z;rw [e1] at x1;rw [e2] at x2;rw [e1,e2] at z';show wpAny (model prog w) A (keyLt' (tuples' true) (out.getD i Value.none) (out.getD j Value.none)) C _ _;exact Qub (s:={ s with heap:=h' }) k1 k2 cm' x1 x2 (by omega) z'
 ·rw [<- hl] at hp hsr;exact q p h' c' hp (Qg8 hp hsr) k g
theorem Qie {x:Value} {Q:Value->Shared->Prop} (h:wpAny (model prog w) A.in1 (collect x) (fun out s1=>out.length<=sizeLine/\wpAny (model prog w) A.in1.in1 (Builtin.«list.sort» ⟨[.ref s1.heap.objs.size],[]⟩) (fun fl s2=>fl= .done (.ret .none)/\Q (.ref s1.heap.objs.size) s2) E { s1 with heap:=s1.heap.push (seqObj "list" out.toArray 0) }) E s) :
  wpAny (model prog w) A (call (.builtin "sorted") [x]) Q E s:=by
 refine Calls.call_function_entry kind_sorted plain_sorted entry_sorted (args_sorted1 _) ?_;unfold Builtin.«sorted»;apply Q1 (m:=checkCount "sorted" 1 1 _);apply Qe;refine Q1 (Jo h (fun out s1 ⟨hz,g⟩=> ?_) fun _ _ e=>e);refine Q1 (wpAny_newList ?_ hz);have here:(s1.heap.push (seqObj "list" out.toArray 0)).get? s1.heap.objs.size=some (seqObj "list" out.toArray 0):=Qg _ rfl;refine Q1 (WO (Wh slot_list_sort ⟨_,here,rfl⟩ entry_list_sort ?_ (args_list_sort _)));exact Jo g (fun fl s2 ⟨e,z⟩=>⟨.none,e,Qe ⟨_,rfl,z⟩⟩) fun _ _ e=>e
end
section
variable {X:Cx}
theorem Qmy {K:W.Frag} {H:Hp} {ds:List D} {ws:List V} {p:Array Nat} (ia:Va K H ds ws) (hp:SO.Ok ds.length p):Va K H (p.toList.map fun i=>ds.getD i .non) (p.toList.map fun i=>ws.getD i .non):=by
 have go: ∀ l:List Nat,(∀ i∈l,i < ds.length)->Va K H (l.map fun i=>ds.getD i .non) (l.map fun i=>ws.getD i .non):=by
  intro l
  induction l with
  | nil=>intro _;exact Jm
  | cons i r ih =>
   intro h;have hi:=h i Q7;obtain ⟨v,e,x⟩:=ia.get (i:=i) (d:=ds[i]) (by simp [hi]);have e1:ds.getD i .non=ds[i]:=by simp [hi]
   have e2:ws.getD i .non=v:=by rw [Qm,e];rfl
   rw [Qp,Qp,e1,e2];exact Vg x (ih fun j hj=>h j (Q9 _ hj))
 refine go p.toList fun i hi=> ?_
 have hm:p.toList.Perm (List.range ds.length):=by simpa using B4.mp hp
 exact Wd.mp (hm.mem_iff.mp hi)
theorem Qnv {ws:List V} {us:List Value} {p:Array Nat} (r:Vals ws us) (hp:SO.Ok ws.length p):Vals (p.toList.map fun i=>ws.getD i .non) (SO.Ub us p):=by
 have go: ∀ l:List Nat,(∀ i∈l,i < ws.length)->Vals (l.map fun i=>ws.getD i .non) (l.map fun i=>us.getD i Value.none):=by
  intro l
  induction l with
  | nil=>intro _;exact .nil
  | cons i rr ih =>
   intro h;have hi:=h i Q7;obtain ⟨u,e,x⟩:=r.get (i:=i) (x:=ws[i]) (by simp [hi]);have e1:ws.getD i .non=ws[i]:=by simp [hi]
   have e2:us.getD i Value.none=u:=by rw [Qm,e];rfl
   rw [Qp,Qp,e1,e2];exact .cons x (ih fun j hj=>h j (Q9 _ hj))
 refine go p.toList fun i hi=> ?_
 have hm:p.toList.Perm (List.range ws.length):=by simpa using B4.mp hp
 exact Wd.mp (hm.mem_iff.mp hi)
end
end L2
namespace L2
open PySem PySem.Spec PyProof.Rows
section
variable {X:Cx} {ρ:List (Option D)} {e:Expr} {d:D} {ds:List D} {pos:Pos}
theorem Qft:bootBuiltins "sorted" =some (.builtin "sorted"):=by decide +kernel
end
section
variable {X:Cx} {ρ:List (Option D)} {a b e:Expr} {d:D} {ds as bs:List D} {pos:Pos}
theorem Qy6 {elt:Expr} {x y:Str} {px py tp zp cp:Pos} {tk:Nat} {scope:Scope} {f:D->D->D} (hc:X.calm=true) (hm:X.mg "zip" =none) (ha:PD X ρ a (.tup as)) (hb:PD X ρ b (.tup bs)) (hz:as.length<=sizeLine)
  (he: ∀ u v,(u,v)∈as.zip bs-> ∀ cl C s H ex,PD (cxP X x y scope cl C s H ex) (some u::some v::ρ) elt (f u v))
  (hok:WL X.N X.env.scope x scope=true:=by rfl) (hy:scope.names.lookup y=some .local:=by rfl) (hnd:(x::y::X.N).Nodup:=by decide) (hg:Gl X "zip" :=by rfl)
  (hs:starEach [a,b] X.env=[(false,eval a X.env),(false,eval b X.env)]:=by rfl) (hs2:starEach [b] X.env=[(false,eval b X.env)]:=by rfl) (hf: ∀ v,foldedSetIterable (.Call (.Name "zip" zp) [a,b] [] cp) X.env v=pure v:=by intro _;rfl) :
  PDL X ρ (.ListComp elt [⟨.Tuple [.Name x px,.Name y py] tk tp,.Call (.Name "zip" zp) [a,b] [] cp,[],0⟩] scope pos) ((as.zip bs).map fun p=>f p.1 p.2):=by
 refine ⟨(Qb7 (tc:=Qei) (te:=fun σ H Q=> ∃ u v,(u,v)∈as.zip bs/\rdD X.K (some u::some v::ρ) (f u v) σ H Q) hc (Qir hg hm (Vc ha (Vc hb Vn hs2) (by rw [hs,hs2])).pe hs hs2) (fun _ _ _ _ _=>Bp)
  (fun cl C s H ex pins s' σ H' Q I ⟨u,v,hm,q⟩=>(he u v hm cl C s H ex).pe pins s' σ H' Q I q) hok hy hnd hf).imp fun σ H Q q=> ?_⟩
 obtain ⟨hE,q⟩:=q;refine ⟨hE,fun vs H1 s1 ia=> ?_⟩;obtain ⟨v1,v2,rfl,i1,i2⟩:=ia.two;obtain ⟨p1,xs,rfl,q1,r1⟩:=Jn i1;obtain ⟨p2,ys,rfl,q2,r2⟩:=Jn i2;have l1:=r1.length;have l2:=r2.length;have ln:(as.zip bs).length=min as.length bs.length:=Wq;refine ⟨p1,p2,rfl,⟨xs,q1⟩,⟨ys,q2⟩,fun i m us H2=>Same H1 H2/\i<=(as.zip bs).length/\m=(as.zip bs).length - i/\Va X.K H2 (((as.zip bs).take i).map fun p=>f p.1 p.2) us,⟨_,Same.refl _,Jd _,rfl,by simpa using Jm⟩,?_⟩;rintro i m us H2 ⟨s2,hi,rfl,r⟩
 by_cases hlt:i < (as.zip bs).length
 ·have h1:i < xs.length:=by omega
  have h2:i < ys.length:=by omega
  refine .inr ⟨⟨xs,ys,xs[i],ys[i],s2.sqT q1,s2.sqT q2,by simp,by simp⟩,?_,fun v H3 yl=> ?_⟩
  ·have:=r.length;rw [Q0,Qj] at this;omega
  ·obtain ⟨p,vx,vy,rfl,np,rfl,hx,hy'⟩:=yl;have s3:Same H2 (upd H2 p (.tup [vx,vy])):=Same.upd np;obtain ⟨u,eu,iu⟩:=r1.at (hx xs (s2.sqT q1));obtain ⟨w,ew,iw⟩:=r2.at (hy' ys (s2.sqT q2));have hz':(as.zip bs)[i]? =some (u,w):=by rw [W1];exact ⟨eu,ew⟩
   have s123:=(s1.trans s2).trans s3;refine ⟨p,vx,vy,rfl,.inl (.inl Vu),?_⟩;unfold Qei;simp only [Zx];refine ⟨u,w,Q4 hz',((hE.same s123).cons (iw.same (s2.trans s3))).cons (iu.same (s2.trans s3)),fun z H5 s5 iz=>⟨(as.zip bs).length - (i+1),by omega,(s2.trans s3).trans s5,hlt,rfl,?_⟩⟩;have ht4:(as.zip bs).take (i+1)=(as.zip bs).take i++[(u,w)]:=by rw [QJ,hz'];rfl
   rw [ht4,QE];exact ((r.same s3).same s5).append (Vg iz Jm)
 ·have e:i=(as.zip bs).length:=by omega
  refine .inl ⟨⟨xs,ys,s2.sqT q1,s2.sqT q2,by omega⟩,fun l hl=>q l us _ ((s1.trans s2).free hl) ((s1.trans s2).trans (Same.upd hl)) Vu (Va.same (Same.upd hl) ?_)⟩;rw [e,QF] at r;exact r
theorem Qvo (ha:PD X ρ a (.tup ds)) (he: ∀ whole,isTrue a X.env whole=(do let v<-whole;standAt a.pos;holding [v] (truthy v)):=by intro _;rfl):PB X ρ a (!ds.isEmpty) :=
 ⟨(Qgf ha.pe he).imp fun σ H Q q=>⟨q.1,fun v H1 s1 i1=>by
  obtain ⟨p,vs,rfl,hq,r⟩:=Jn i1;have hl:=r.length;refine ⟨!ds.isEmpty,.inr (.inl ⟨vs,hq,?_⟩),q.2 H1 s1⟩;cases ds<;>cases vs<;>simp at hl ⊢⟩⟩
end
end L2
namespace HT
open PySem PyProof.Rows
section
variable {prog:Program} {w:World} {A:Around} {E:Value->Shared->Prop} {s:Shared}
theorem Qn9 {t sl:Addr} {items:Array Value} {vl vu:Value} {lo hi:Option Int} {Q:Value->Shared->Prop} (ht:IsTup s.heap t items) (hs:s.heap.IsSliceOf sl vl vu .none) (pl:IsPart vl lo) (pu:IsPart vu hi)
  (hw:sIx items.size 0 lo=0/\sIx items.size items.size hi=items.size) (h:Q (.ref t) s):wpAny (model prog w) A (getItem (.ref t) (.ref sl)) Q E s:=by
 obtain ⟨os,gs,cs,_⟩:=id hs;have ty:s.TypeIs (.ref sl) "slice" :=⟨os,gs,cs⟩;unfold getItem
 try with_reducible refine WO ?_
 first | refine Q1 (Qe ?_) | skip
 refine Q1 (wpAny_sequenceKey ht.typeIs (by decide) ?_);refine Q1 (JC (name:=Str.ofString "__getitem__") ht.typeIs JA
  (Wh JA ht.typeIs entry_tuple_getitem ?_ (args_tuple_getitem _ _)))
 show wpAny _ _ (Builtin.Tuple.tupleItemsOf (.ref t) >>= _) _ _ s;refine Q1 (tupleItemsOf_ ht ?_);refine Q1 (UL ty ?_);rw [Qk (by decide)];refine Q1 (U1 hs pl pu ?_);have yes:(((sIx items.size 0 lo:Nat):Int) == 0 && (1:Int) == 1 && (sIx items.size items.size hi - sIx items.size 0 lo) == items.size)=true:=by
  rw [hw.1,hw.2]
  simp
 show wpAny _ _ (if (((sIx items.size 0 lo:Nat):Int) == 0 && (1:Int) == 1 && (sIx items.size items.size hi - sIx items.size 0 lo) == items.size)=true then _ else _) _ _ s;rw [Qk yes];unfold Builtin.Tuple.tupleIsExact;refine Q1 (Q1 (UL ht.typeIs (Qe ?_)));rw [Qk (by decide)];exact Q1 (GS (Qe ⟨_,rfl,Qe h⟩))
end
end HT
namespace L2
open PySem PySem.Spec PyProof.Rows
section
variable {X:Cx} {ρ:List (Option D)} {a b e:Expr} {d:D} {ds as bs:List D} {pos:Pos}
def Qz4 (K:W.Frag):V->Option Int->Option Int->Hp->VK->Prop:=fun x lo hi H Q=> ∃ a xs,x= .ref a/\SqT K H a xs /\
 ((HT.sIx xs.length 0 lo=0/\HT.sIx xs.length xs.length hi=xs.length)->Q (.ref a) H)/\(¬ (HT.sIx xs.length 0 lo=0/\HT.sIx xs.length xs.length hi=xs.length)-> ∀ p,H p=none->Q (.ref p) (upd H p (.tup (Qfq xs lo hi))))
theorem Qse:SlR X (Qz4 X.K):=by
 intro pins s σ H x v vl vu lo hi sl Q I rx hs pl pu h;obtain ⟨a,xs,rfl,hx,q1,q2⟩:=h
 by_cases hw:HT.sIx xs.length 0 lo=0/\HT.sIx xs.length xs.length hi=xs.length
 ·cases (show v=Value.ref a from rx);obtain ⟨its,r,ht,hz⟩:=I.tuple hx;have hlen:its.toArray.size=xs.length:=by rw [Qh];exact r.length.symm
  exact ⟨"tuple",_,JA.lookup,ht.typeIs,HT.Qn9 ht hs pl pu (by rw [hlen];exact hw) ⟨.ref a,H,I,rfl,q1 hw⟩⟩
 ·exact Qwc pins s σ H (.ref a) v vl vu lo hi sl Q I rx hs pl pu ⟨a,xs,rfl,hx,hw,q2 hw⟩
theorem Qjd {α:Type} {l:List α} {lo hi:Option Int} (h:HT.sIx l.length 0 lo=0/\HT.sIx l.length l.length hi=l.length):WZ l lo hi=l:=by
 unfold WZ;rw [h.1,h.2]
 simp
theorem WC {lo hi:Option Expr} {ol oh:Option Int} {p2:Pos} (ha:PD X ρ a (.tup ds)) (hl:PDO X ρ lo ol) (hu:PDO X ρ hi oh):PD X ρ (.Subscript a (.Slice lo hi none p2) pos) (.tup (WZ ds ol oh)) :=
 ⟨(Qb6 Qse ha.pe hl.pe hu.pe).imp fun σ H Q q=>⟨q.1,fun v H1 s1 i1=>⟨q.1.same s1,fun H2 s2=>⟨(q.1.same s1).same s2,fun H3 s3=>by
  obtain ⟨p,vs,rfl,hq,r⟩:=Jn i1;have s:=(s1.trans s2).trans s3;have hq3:=(s2.trans s3).sqT hq;have r3:=r.same (s2.trans s3);have hlen:=r.length;refine ⟨p,vs,rfl,hq3,fun hw=>q.2 _ H3 s (YQ hq3 ?_),fun hw l hl=>q.2 _ _ (s.trans (Same.upd hl)) (YQ (.inl (.inl Vu)) (Qdq _ _ (r3.same (Same.upd hl))))⟩;rw [<- hlen] at hw;rw [Qjd hw];exact r3⟩⟩⟩⟩
theorem Qu8: ∀ {kvs:List (Key×V)} {vs:List (Key×Value)},KV kvs vs-> ∀ {k:Key} {v:V} {u:Value},RelV v u->KV (kvs++[(k,v)]) (vs++[(k,u)]):=fun {kvs vs} r {k v u} h=>Paired.snoc r ⟨rfl,h⟩
def Qyr:TE:=fun _ H Q=> ∀ p,H p=none->Q (.ref p) (upd H p (.dK []))
theorem Qsx:PE X (.Dict [] [] pos) Qyr:=fun pins s σ H Q I h=>by
 have big:sysModules < s.heap.objs.size:=Nat.lt_trans (by decide) (I.mod.glob.keeps I.bk).lt;exact wpAny_Dict_empty ⟨.ref s.heap.objs.size,_,I.laid (a:=s.heap.objs.size) (o:= .dK []) (t':=s.toks) (fun _ _ q=>Q2 _ q) (Q6 _) ⟨Jd _,Ws.mpr (J5 (Qq big)),[],.nil,Qi2 _⟩,rfl,h _ (I.hok.fresh (Q6 _))⟩
end
end L2
namespace L2
open PySem PySem.Spec PyProof.Rows PySem.Builtin PySem.Builtin.Str
section
variable {X:Cx} {ρ:List (Option D)} {a b e o:Expr} {d:D} {ds:List D} {pos:Pos}
theorem Qqw {x:Str} {lo hi:Option Expr} {ol oh:Option Int} {p2:Pos} (ha:PD X ρ a (.str x)) (hz:x.length<=sizeLine) (hl:PDO X ρ lo ol) (hu:PDO X ρ hi oh):PD X ρ (.Subscript a (.Slice lo hi none p2) pos) (.str (Txt.slice x ol oh)) :=
 ⟨(Qb6 Qwd ha.pe hl.pe hu.pe).imp fun σ H Q q=>⟨q.1,fun v H1 s1 i1=>⟨q.1.same s1,fun H2 s2=>⟨(q.1.same s1).same s2,fun H3 s3=>by
  cases JF i1;exact ⟨x,rfl,hz,q.2 _ H3 ((s1.trans s2).trans s3) (ZV _)⟩⟩⟩⟩⟩
theorem Ys {i j:Str} (ha:PD X ρ a (.str i)) (hb:PD X ρ b (.str j)):PB X ρ (.Compare a [.NotEq] [b] pos) (!decide (i=j)):=by
 have h:=Ui (pos:=pos) Qkk ha hb (Qv9 (x:= .str i) (y:= .str j) rfl rfl rfl) (nomark _);have e:decide (V.str i=V.str j)=decide (i=j):=by
  rw [Jc,QD,QD];exact ⟨fun h=>by injection h,fun h=>by rw [h]⟩
 rwa [e] at h
end
end L2
namespace L2
open PySem PySem.Spec PyProof.Rows
section
variable {X:Cx} {H₀:Hp} {τ:List Sl} {ds:List D} {pos:Pos}
theorem Qx2 {us vs:List D} (hk:keyOks us=true) (hk2:keyOks vs=true) (hu:X.A.units+dep (.tup us)+dep (.tup vs) < cLine):OpR X (compareOp .Eq) (fun x y H Q=>Is X.K H (.tup us) x/\Is X.K H (.tup vs) y/\Q (.bl (decide (us=vs))) H):=by
 intro pins s σ H x y vx vy Q I rx ry h;obtain ⟨i1,i2,q⟩:=h;obtain ⟨p,xs,rfl,q1,r1⟩:=Jn i1;obtain ⟨p',ys,rfl,q2,r2⟩:=Jn i2;cases (show vx=Value.ref p from rx);cases (show vy=Value.ref p' from ry);obtain ⟨its,v1,t1,_⟩:=I.tuple q1;obtain ⟨its2,v2,t2,_⟩:=I.tuple q2;have c1:=Va.conc I (Yj hk) r1 v1;have c2:=Va.conc I (Yj hk2) r2 v2;have l1:=c1.len;have l2:=c2.len;have z:=SeqAt.RcAt.tuples (A:=X.A) (show s.heap.IsTuple p its.toArray from t1) (show s.heap.IsTuple p' its2.toArray from t2) (by omega) (BD us vs c1 c2 (by simp only [dep] at hu;show X.A.units+1+deps us+deps vs < cLine;omega));have e:((List.range (min its.toArray.size its2.toArray.size)).all (fun j=>eqD (us.getD j .non) (vs.getD j .non)) && its.toArray.size == its2.toArray.size)=decide (us=vs):=by
  have h1:eqD (.tup us) (.tup vs)=decide (D.tup us=D.tup vs):=BC (by simpa [keyOk] using hk) (by simpa [keyOk] using hk2);rw [eqD,BB,l1,l2] at h1;have h2:decide (D.tup us=D.tup vs)=decide (us=vs):=by
   rw [Jc,QD,QD];exact ⟨fun h=>by injection h,fun h=>by rw [h]⟩
  rw [h2] at h1;rw [<- h1]
  simp
 refine z X.prog X.w _ _ ⟨.bl (decide (us=vs)),H,I,?_,q⟩;show Value.bool _=Value.bool _;rw [e]
end
theorem Gx: ∀ {ks:List Str} {vs:List V} {k:Str},k ∉ ks->YY (Js ks vs) (.inr k)=none
 | [],_,_,_=>rfl
 | _::_,[],_,_=>rfl
 | a::ks,v::vs,k,h=>by
  have e:Js (a::ks) (v::vs)=(.inr a,v)::Js ks vs:=rfl;rw [e,UP (fun z=>h (by injection z with z;rw [z];exact Q7))];exact Gx fun z=>h (Q9 _ z)
theorem Zf: ∀ {ks:List Str} {vs:List V} {k:Str} {v:V} {i:Nat},ks.Nodup->ks[i]? =some k->vs[i]? =some v->YY (Js ks vs) (.inr k)=some v
 | [],_,_,_,_,_,h,_=>by simp at h
 | _::_,[],_,_,_,_,_,h=>by simp at h
 | a::ks,u::vs,k,v,0,_,h1,h2=>by
  have e1:a=k:=by simpa using h1
  have e2:u=v:=by simpa using h2
  subst e1;subst e2;exact Bi rfl
 | a::ks,u::vs,k,v,i+1,nd,h1,h2=>by
  have hm:k∈ks:=Q4 (i:=i) (by simpa using h1);have e:Js (a::ks) (u::vs)=(.inr a,u)::Js ks vs:=rfl;have nd':=WR.mp nd;rw [e,UP (fun z=>nd'.1 (by injection z with z;rw [z];exact hm))];exact Zf nd'.2 (by simpa using h1) (by simpa using h2)
def J6 (ks:List Str) (k:Str):List Str:=if k∈ks then ks else ks++[k]
def putVs {α:Type}:List Str->List α->Str->α->List α
 | a::ks,v::vs,k,x=>if a=k then x::vs else v::putVs ks vs k x
 | _,_,_,x=>[x]
theorem Uz {a k:Str} {ks:List Str} (h:a≠k):J6 (a::ks) k=a::J6 ks k:=by
 unfold J6
 by_cases hm:k∈ks
 ·rw [Qk hm,Qk (Q9 _ hm)]
 ·rw [Qn hm,Qn (fun z=>(Qd.mp z).elim (fun e=>h e.symm) hm)];rfl
theorem UW {ks:List Str} {k:Str} (h:ks.Nodup):(J6 ks k).Nodup:=by
 unfold J6;split
 ·exact h
 ·rename_i hn;exact nd_snoc' h hn
where
 nd_snoc': ∀ {l:List Str} {k:Str},l.Nodup->k ∉ l->(l++[k]).Nodup:=fun h hk=>by
  rw [Wj];exact ⟨h,by simp,fun x hx y hy=>by rintro rfl;exact hk (by simpa using (Qs.mp hy) ▸ hx)⟩
theorem ZG {α:Type}: ∀ {ks:List Str} {vs:List α} {k:Str} {x:α},ks.length=vs.length->(J6 ks k).length=(putVs ks vs k x).length
 | [],[],k,x,_=>by simp [J6,putVs]
 | a::ks,v::vs,k,x,h=>by
  rw [putVs]
  by_cases e:a=k
  ·rw [Qk e,e];have:J6 (k::ks) k=k::ks:=Qk Q7;rw [this];simpa using h
  ·rw [Qn e,Uz e,QC,QC,ZG (by simpa using h)]
 | [],_::_,_,_,h=>by simp at h
 | _::_,[],_,_,h=>by simp at h
theorem Qm2 {kvs:List (Key×V)} {p:Key×V} {k:Key} {x:V} (h:p.1≠k):U5 (p::kvs) k x=p::U5 kvs k x:=by
 unfold U5;rw [ZY,QA h,Qi4];split
 ·rw [Qp,Qn h]
 ·rfl
theorem Qqc {kvs:List (Key×V)} {k:Key} {x:V} (h: ∀ p∈kvs,p.1≠k):kvs.map (fun kv=>if kv.1=k then (kv.1,x) else kv)=kvs:=by
 have:kvs.map (fun kv=>if kv.1=k then (kv.1,x) else kv)=kvs.map id:=QQ fun p hp=>Qn (h p hp)
 rw [this,List.map_id]
theorem Qam: ∀ {ks:List Str} {vs:List V} {k:Str} {x:V},ks.length=vs.length->ks.Nodup->Js (J6 ks k) (putVs ks vs k x)=U5 (Js ks vs) (.inr k) x
 | [],[],k,x,_,_=>rfl
 | a::ks,v::vs,k,x,h,nd=>by
  have e:Js (a::ks) (v::vs)=(.inr a,v)::Js ks vs:=rfl;have nd':=WR.mp nd;rw [putVs,e]
  by_cases hk:a=k
  ·subst hk;have e2:J6 (a::ks) a=a::ks:=Qk Q7;have e3:U5 ((.inr a,v)::Js ks vs) (.inr a) x=(.inr a,x)::Js ks vs:=by
    unfold U5;rw [ZY,QM (rfl),Bool.true_or,Qk rfl,Qp,Qk rfl,Qqc];intro p hp z;obtain ⟨q,hq,rfl⟩:=Q3.mp hp;have hz:q.1=a:=by injection z
    exact nd'.1 (by rw [<- hz];exact (Jb hq).1)
   rw [Qk rfl,e2,e3];rfl
  ·rw [Qn hk,Uz hk,Qm2 (p:=(Sum.inr a,v)) (fun z=>hk (by injection z)),<- Qam (by simpa using h) nd'.2];rfl
 | [],_::_,_,_,h,_=>by simp at h
 | _::_,[],_,_,h,_=>by simp at h
theorem Va.put {K:W.Frag} {H:Hp}: ∀ {ks:List Str} {ds:List D} {vs:List V} {k:Str} {d:D} {v:V},Va K H ds vs->Is K H d v->Va K H (putVs ks ds k d) (putVs ks vs k v)
 | [],_,_,_,_,_,_,i=>by simp only [putVs];exact Vg i Jm
 | a::ks,[],vs,k,d,v,h,i=>by
  rw [Va] at h;subst h;simp only [putVs];exact Vg i Jm
 | a::ks,d'::ds,vs,k,d,v,h,i=>by
  rw [Va] at h;obtain ⟨v',r,rfl,q,t⟩:=h;simp only [putVs];split
  ·exact Vg i t
  ·exact Vg q (Va.put t i)
theorem Qle: ∀ {ks:List Str} {ds:List D} {k:Str} {d:D},LFs ds=true->LF d=true->LFs (putVs ks ds k d)=true
 | [],_,_,_,_,i=>by simp [putVs,LFs,i]
 | a::ks,[],k,d,h,i=>by simp [putVs,LFs,i]
 | a::ks,d'::ds,k,d,h,i=>by
  rw [LFs,Qv] at h;simp only [putVs];split
  ·rw [LFs,i,h.2];rfl
  ·rw [LFs,h.1,Qle h.2 i];rfl
theorem YX (ks:List Str) (vs:List V) (h:ks.length=vs.length):(Js ks vs).length=ks.length:=by
 unfold Js;rw [Q0,Wq];omega
section
variable {X:Cx} {ρ:List (Option D)} {a b e:Expr} {d:D} {ds:List D} {ks:List Str} {k:Str} {fz:Bool} {pos:Pos}
theorem Qfp {i:Nat} (hu:X.A.units+1 < cLine) (ha:PD X ρ a (.dct fz (ks.map .str) ds)) (hb:PD X ρ b (.str k)) (hk:ks[i]? =some k) (hd:ds[i]? =some d) (hs:NoSl b:=by intro _ _;rfl):PD X ρ (.Subscript a b pos) d :=
 Y2 (Qt0 hu ha.pe hb.pe hs) fun σ H Q he q=>⟨he,fun v H1 s1 i1=>⟨he.same s1,fun u H2 s2 i2=>by
  cases JF i2;obtain ⟨p,vs,rfl,dk,ia⟩:=Yk (i1.same s2);obtain ⟨w,e1,e2⟩:=ia.get hd;exact ⟨p,w,rfl,.inl ⟨_,.inr k,dk.rd,rfl,(Zf dk.nd hk e1).symm⟩,q w H2 (s1.trans s2) e2⟩⟩⟩
theorem Ql1 {H:Hp} {p:Addr} {vs:List V} (dk:DkAt fz H p ks vs): ∃ o:Option V,DGet H p (.str k) o/\o.isSome=decide (k∈ks):=by
 by_cases hk:k∈ks
 ·obtain ⟨i,hi⟩:=List.mem_iff_getElem?.mp hk;have hl:i < vs.length:=by rw [<- dk.len];exact (Q5.mp hi).1
  exact ⟨some vs[i],.inl ⟨_,.inr k,dk.rd,rfl,(Zf dk.nd hi (Qb hl)).symm⟩,by simp [hk]⟩
 ·exact ⟨none,.inl ⟨_,.inr k,dk.rd,rfl,(Gx hk).symm⟩,by simp [hk]⟩
theorem Jab (hu:X.A.units+1 < cLine) (ha:PD X ρ a (.str k)) (hb:PD X ρ b (.dct fz (ks.map .str) ds)) (hm:behindInMarks .In b=false:=by rfl):PB X ρ (.Compare a [.In] [b] pos) (decide (k∈ks)) :=
 ⟨(Qor (Qww hu ha.pe hb.pe) hm).imp fun σ H Q q=>⟨q.1,fun v H1 s1 i1=>⟨q.1.same s1,fun u H2 s2 i2=>by
  cases JF i1;obtain ⟨p,vs,rfl,dk,ia⟩:=Yk i2;obtain ⟨o,g,e⟩:=Ql1 (k:=k) dk;exact ⟨p,o,rfl,g,_,rfl,by rw [e];exact q.2 H2 (s1.trans s2)⟩⟩⟩⟩
theorem Qhw (hu:X.A.units+1 < cLine) (ha:PD X ρ a (.str k)) (hb:PD X ρ b (.dct fz (ks.map .str) ds)) (hm:behindInMarks .NotIn b=false:=by rfl):PB X ρ (.Compare a [.NotIn] [b] pos) (!decide (k∈ks)) :=
 ⟨(Qor (Qm4 hu ha.pe hb.pe) hm).imp fun σ H Q q=>⟨q.1,fun v H1 s1 i1=>⟨q.1.same s1,fun u H2 s2 i2=>by
  cases JF i1;obtain ⟨p,vs,rfl,dk,ia⟩:=Yk i2;obtain ⟨o,g,e⟩:=Ql1 (k:=k) dk;exact ⟨p,o,rfl,g,_,rfl,by rw [e];exact q.2 H2 (s1.trans s2)⟩⟩⟩⟩
theorem Qc6 {f:Expr} {ap cp:Pos} (hu:X.A.units+1 < cLine) (ha:PD X ρ a (.dct fz (ks.map .str) ds)) (hb:PD X ρ b (.str k)) (hf:PD X ρ f d) (hk:k ∉ ks) (m:M2 X a "get" ap b f cp:=by exact ⟨rfl,rfl,rfl,rfl⟩):PD X ρ (.Call (.Attribute a "get" ap) [b,f] [] cp) d :=
 Y2 (Qgj hu ha.pe hb.pe hf.pe m) fun σ H Q he q=>⟨he,fun v H1 s1 i1=>by
  obtain ⟨p,vs,rfl,dk,ia⟩:=Yk i1;refine ⟨p,rfl,.inl ⟨_,dk.rd⟩,he.same s1,fun u H2 s2 i2=>⟨(he.same s1).same s2,fun z H3 s3 i3=> ?_⟩⟩;cases JF i2;exact ⟨none,.inl ⟨_,.inr k,(s3.dk (s2.dk dk)).rd,rfl,(Gx hk).symm⟩,q z H3 ((s1.trans s2).trans s3) i3⟩⟩
theorem Qdz {f:Expr} {ap cp:Pos} {i:Nat} {dx:D} (hu:X.A.units+1 < cLine) (ha:PD X ρ a (.dct fz (ks.map .str) ds)) (hb:PD X ρ b (.str k)) (hf:PD X ρ f dx) (hk:ks[i]? =some k) (hd:ds[i]? =some d) (m:M2 X a "get" ap b f cp:=by exact ⟨rfl,rfl,rfl,rfl⟩):PD X ρ (.Call (.Attribute a "get" ap) [b,f] [] cp) d :=
 Y2 (Qgj hu ha.pe hb.pe hf.pe m) fun σ H Q he q=>⟨he,fun v H1 s1 i1=>by
  obtain ⟨p,vs,rfl,dk,ia⟩:=Yk i1;refine ⟨p,rfl,.inl ⟨_,dk.rd⟩,he.same s1,fun u H2 s2 i2=>⟨(he.same s1).same s2,fun z H3 s3 i3=> ?_⟩⟩;cases JF i2;obtain ⟨w,e1,e2⟩:=ia.get hd;exact ⟨some w,.inl ⟨_,.inr k,(s3.dk (s2.dk dk)).rd,rfl,(Zf dk.nd hk e1).symm⟩,q w H3 ((s1.trans s2).trans s3) ((e2.same s2).same s3)⟩⟩
def rdM (K:W.Frag) (ρ:List (Option D)) (ks:List Str) (ds:List D):TE:=fun σ H Q=>EnvIs K H σ ρ/\ ∀ p vs H',H p=none->Same H H'->DkAt false H' p ks vs->Va K H' ds vs->Q (.ref p) H'
structure PDM (X:Cx) (ρ:List (Option D)) (e:Expr) (ks:List Str) (ds:List D):Prop where
 pe:PE X e (rdM X.K ρ ks ds)
theorem Qfm:PDM X ρ (.Dict [] [] pos) [] []:=⟨Qsx.imp fun σ H Q q p hp=>q.2 p [] _ hp (Same.upd hp) ⟨rfl,Wc,Vu⟩ Jm⟩
theorem Qy5 (ha:PD X ρ a (.str k)) (hb:PD X ρ b d) (hl:LF d=true):PDM X ρ (.Dict [some a] [b] pos) [k] [d] :=
 ⟨(Qsz (Qox ha.pe hb.pe Qss) rfl rfl (by simp) (by simp)).imp fun σ H Q q p hp=>by
  refine ⟨q.1.same (Same.upd hp),fun v H1 s1 i1=>⟨(q.1.same (Same.upd hp)).same s1,fun u H2 s2 i2=> ?_⟩⟩;cases JF i1;have e2:H2 p=some (.dK []):=s2 _ _ (s1 _ _ Vu);refine ⟨e2,[(.inr k,u)],rfl,by simp,?_⟩;have ts:TSame H2 (upd H2 p (.dK [(Sum.inr k,u)])):=TSame.dk e2;refine q.2 p [u] _ hp (fun c o z=> ?_) ⟨rfl,by simp,Vu⟩ (Vg (i2.tsame ts hl) Jm);have hc:c≠p:=Jg z hp;show upd H2 p _ c=_;rw [J1 hc];exact s2 _ _ (s1 _ _ (Same.upd hp _ _ z))⟩
end
section
variable {X:Cx} {H₀:Hp} {τ:List Sl} {e b:Expr} {d:D} {ds:List D} {ks:List Str} {k:Str} {pos:Pos}
theorem EnvO.setDct {K:W.Frag} {H H':Hp} {σ:St} {p:Addr} {vs:List V} (h:EnvO K H₀ H σ τ) (i:Nat) (n:H p=none) (s:Same H H') (hp:DkAt false H' p ks vs) (hl:LFs ds=true) (iv:Va K H' ds vs):EnvO K H₀ H' (σ.set i (some (.ref p))) (τ.set i (.odc ks ds)) :=
 (h.step s).set i ⟨p,vs,rfl,h.same.free n,hp,hl,iv⟩ (fun ds' e=>nomatch e) fun ks1 ds1 _ j p' ks' es e t _ z=>by
  cases e;obtain ⟨o,e1,p2,vs2,e2,_,hp2,_⟩:=h.sl j _ t;rw [z] at e1;cases e1;cases e2;have:=hp2.at_;rw [Qn Qy,n] at this;cases this
theorem Ua {i:Nat} {x:Str} {p:Pos} (h:PDM X (dat τ) e ks ds) (hl:LFs ds=true) (hN:X.N.Nodup) (hi:X.N[i]? =some x:=by rfl) (hx:Loc X.env.scope x:=by first | exact QI rfl | exact QY rfl)
  (hs:swapsWith e (some (.Name x p)) pos.line X.env=pure false:=by rfl) (hf:X.fn x=true \/ X.env.scope.names.lookup x=some .local:=by first | exact .inl rfl | exact .inr rfl):QO X H₀ τ (.Assign [.Name x p] e pos) (.next true (τ.set i (.odc ks ds))) :=
 ⟨(B8 hN hi hx h.pe hs hf).imp fun D σ H q=>⟨q.1.env,fun p vs H' n s hp iv=>q.2 _ H' s (q.1.setDct i n s hp hl iv)⟩⟩
theorem O0 {i:Nat} {x:Str} {p p':Pos} (hu:X.A.units+1 < cLine) (hi:τ[i]? =some (.odc ks ds)) (hb:PD X (dat τ) b (.str k)) (h:PD X (dat τ) e d) (ld:LF d=true) (hl: ∀ (j:Nat) (d:D),τ[j]? =some (.any d)->LF d=true) (hz:ks.length < sizeLine)
  (hN:X.N[i]? =some x:=by rfl) (hv:Vis X.env.scope x:=by first | exact QI rfl | exact QY (QI rfl) | exact QY (QY rfl)) (hdb:(x == ("__debug__" :Str))=false:=by decide) (hcd:(x == ("__classdict__" :Str))=false:=by decide)
  (hs:swapsWith e (some (.Subscript (.Name x p) b p')) pos.line X.env=pure false:=by rfl) :
  QO X H₀ τ (.Assign [.Subscript (.Name x p) b p'] e pos) (.next false (τ.set i (.odc (J6 ks k) (putVs ks ds k d)))):=by
 refine ⟨(Qsq hu (WB hN hv hdb hcd) hb.pe h.pe hs).imp fun D σ H q=>⟨q.1.env,fun v H1 s1 i1=> ?_⟩⟩;obtain ⟨o,e1,p,vs,rfl,n,hp,lf,ia⟩:=(q.1.step s1).sl i _ hi;refine ⟨_,e1,q.1.env.same s1,fun u H2 s2 i2=> ?_⟩;cases JF i2;have hp2:=s2.dk hp;have hp':H2 p=some (.dK (Js ks vs)):=hp2.at_;refine ⟨p,_,rfl,.inl ⟨Js ks vs,.inr k,hp',rfl,by rw [YX ks vs hp.len];exact hz,rfl⟩,?_⟩;rw [<- Qam hp.len hp.nd];exact q.2 σ _ ((s1.trans s2).t.trans (TSame.dk hp')) (((q.1.step s1).step s2).mutD hi e1 n hp2 hl (Qle lf ld) (ZG hp.len) (UW hp.nd) ((ia.same s2).put (i1.same s2)))
end
end L2
namespace L2
open PySem PySem.Spec PyProof.Rows PySem.W
section
variable {X:Cx} {pins:List (Addr×Obj)} {σ:St} {H H':Hp} {s:Shared} {h':Heap}
theorem Un.grow {fs ex:List Addr} {h:Heap} (k: ∀ b u,h.get? b=some u->h'.get? b=some u) (hs:Same H H') (hn: ∀ b u,h.get? b=some u->H b=none->H' b=none):Un fs ex H H' h h' where
 keep:=fun b u q _ _ _=>k b u q
 slot:=fun b u q _ _ _=>⟨u.slots,k b u q⟩
 free:=fun b u q n _=>hn b u q n
 there:=fun b u q _=>⟨u,k b u q⟩
 tups:=fun b xs q=>hs _ _ q
 frzs:=fun b u xs q=>hs _ _ q
 tbls:=fun b ps q=>⟨#[],by rw [hs _ _ q];simp⟩
theorem Inv.grow {t':Nat} (I:Inv X pins σ H s) (k: ∀ b u,s.heap.get? b=some u->h'.get? b=some u) (hs:Same H H') (hn: ∀ b,H b=none->H' b≠none->s.heap.objs.size<=b) (new: ∀ b o,H b=none->H' b=some o->ObjOk X.prog X.w H' h' b o) :
  Inv X pins σ H' { s with heap:=h',toks:=t' }:=by
 refine I.un (Un.grow k hs fun b u q n=> ?_) fun b u e=> ?_
 ·cases z:H' b with
  | none=>rfl
  | some o=>exact absurd (hn b n (by rw [z];simp)) (Nat.not_le.mpr (Qa q))
 ·cases z:H b with
  | none=>exact new b u z e
  | some o =>
   have e2:=hs _ _ z;rw [e] at e2;cases e2;exact (I.hok b u z).stay (fun c v _ q=>k c v q) (fun c q=>hs _ _ q) fun c xs q=>hs _ _ q
end
section
variable {prog:Program} {w:World} {A:Around} {E:Value->Shared->Prop} {s:Shared}
theorem Qd0: ∀ {ss:List Str} {h:Heap} {vs:List Value},CAll h (ss.map .str) vs->StrsAre vs ss
 | [],_,_,c=>by
  simp only [ZN,CAll] at c;subst c;exact .nil
 | x::ss,h,vs,c=>by
  rw [Qp,CAll] at c;obtain ⟨v,r,rfl,i,c⟩:=c;simp only [CIs] at i;obtain ⟨t,rfl⟩:=i;exact .cons x t (Qd0 c)
def Srt2 (ds:List D):Prop:=Srtb ds \/ ∃ ss:List Str,ds=ss.map .str
theorem Srt2.key {ds:List D} (h:Srt2 ds):keyOks ds=true:=by
 rcases h with h | ⟨ss,rfl⟩
 ·exact h.key
 ·rw [WJ];intro d hd;obtain ⟨x,_,rfl⟩:=Q3.mp hd;simp [keyOk]
theorem Srt2.perm {ds es:List D} (h:Srt2 ds) (p:es.Perm ds):Srt2 es:=by
 rcases h with h | ⟨ss,rfl⟩
 ·exact .inl (h.perm p)
 ·obtain ⟨ts,_,e⟩:=ST.Qf6 p;exact .inr ⟨ts,e⟩
theorem Qw9 {a:Addr} {out:List Value} {ss:List Str} {n:Nat} {P:PySem.Fin->Shared->Prop} (ho:s.heap.get? a=some (seqObj "list" out.toArray n)) (c:CAll s.heap (ss.map .str) out) (h64:ss.length < 64)
  (q: ∀ (p:Array Nat) (h':Heap) (c':Nat),SO.Ok (ss.map D.str).length p->(p.toList.map fun i=>(ss.map D.str).getD i .non)=U0 (ss.map .str)->(∀ b o,b≠a->s.heap.get? b=some o->h'.get? b=some o)->h'.get? a=some (seqObj "list" (SO.Ub out p).toArray c')->P (.done (.ret .none)) { s with heap:=h' }) :
  wpAny (model prog w) A (Builtin.«list.sort» ⟨[.ref a],[]⟩) P E s:=by
 have hl:=c.len;have hsa:=Qd0 c;refine SO.Qd1 (κ:=oneType') (r:=fun i=>(ss.map D.str).getD i .non) ho (by rw [<- hl];simpa using h64) Qfe (fun h2 h' k Z z=> ?_) (fun h' k i j C hi hj z=> ?_) (fun p h' c' hp hsr k g=> ?_)
 ·match out,h2,hsa with
  | v₁::v₂::vs,_,hsa =>
   rw [keyKind_strs hsa];exact Qe z
 ·rw [<- hl] at hi hj;have x1:=c.getD hi;have x2:=c.getD hj;rw [Q0] at hi hj;have e1:(ss.map D.str).getD i .non= .str ss[i]:=by simp [hi]
  have e2:(ss.map D.str).getD j .non= .str ss[j]:=by simp [hj]
  have z':C (ltD ((ss.map D.str).getD i .non) ((ss.map D.str).getD j .non)) { s with heap:=h' }:=z;rw [e1] at x1;rw [e2] at x2;rw [e1,e2,Qfd] at z';simp only [CIs] at x1 x2;obtain ⟨t1,x1⟩:=x1;obtain ⟨t2,x2⟩:=x2;show wpAny (model prog w) A (keyLt' oneType' (out.getD i Value.none) (out.getD j Value.none)) C _ _;rw [x1,x2];exact oneLt_str z'
 ·rw [<- hl] at hp hsr;exact q p h' c' hp (Qg8 hp hsr) k g
theorem Qwb {a:Addr} {out:List Value} {ds:List D} {n:Nat} {P:PySem.Fin->Shared->Prop} (ho:s.heap.get? a=some (seqObj "list" out.toArray n)) (c:CAll s.heap ds out) (h64:ds.length < 64) (hs:Srt2 ds) (hu:A.units+20 < cLine)
  (q: ∀ (p:Array Nat) (h':Heap) (c':Nat),SO.Ok ds.length p->(p.toList.map fun i=>ds.getD i .non)=U0 ds->(∀ b o,b≠a->s.heap.get? b=some o->h'.get? b=some o)->h'.get? a=some (seqObj "list" (SO.Ub out p).toArray c')->P (.done (.ret .none)) { s with heap:=h' }) :
  wpAny (model prog w) A (Builtin.«list.sort» ⟨[.ref a],[]⟩) P E s:=by
 rcases hs with hs | ⟨ss,rfl⟩
 ·exact Qwa ho c h64 hs hu q
 ·exact Qw9 ho c (by simpa using h64) q
end
section
variable {X:Cx}
theorem Qlz {pins:List (Addr×Obj)} {s:Shared} {σ:St} {H:Hp} {x:Value} {ks:List D} {Q:VK} (hu:X.A.units+22 < cLine) (hs:Srt2 ks) (hl:ks.length < 64)
  (col: ∀ (Z:List Value->Shared->Prop),(∀ (out:List Value) (s1:Shared) (H1:Hp) (ds:List D) (ws:List V),Inv X pins σ H1 s1->Same H H1->ds.Perm ks->Va X.K H1 ds ws->Vals ws out->Z out s1)->wpAny (model X.prog X.w) X.A.in1 (collect x) Z X.xe s)
  (q: ∀ H1 l ws,Same H H1->H1 l=none->Va X.K (upd H1 l (.lst ws)) (U0 ks) ws->Q (.ref l) (upd H1 l (.lst ws))):wpAny (model X.prog X.w) X.A (call (.builtin "sorted") [x]) (EP X pins σ Q) X.xe s:=by
 refine Qie (col _ fun out s1 H1 ds ws I1 s01 hp ia rv=> ?_);have hdl:ds.length=ks.length:=hp.length_eq;have hwl:=ia.length;have hol:=rv.length;refine ⟨by rw [QP];omega,?_⟩;have here:(s1.heap.push (seqObj "list" out.toArray 0)).get? s1.heap.objs.size=some (seqObj "list" out.toArray 0):=Qg _ rfl;have c1:CAll s1.heap ds out:=Va.conc I1 (Yj (hs.perm hp).key) ia rv;have c2:CAll (s1.heap.push (seqObj "list" out.toArray 0)) ds out:=CAll.stay (fun b o e _=>Q2 _ e) (hs.perm hp).key c1;have nl:H1 s1.heap.objs.size=none:=I1.fresh;refine Qwb (s:={ s1 with heap:=s1.heap.push (seqObj "list" out.toArray 0) }) here c2 (by omega) (hs.perm hp) (show X.A.units+1+1+20 < cLine by omega) fun p h' c' ok es k g=>⟨rfl,?_⟩
 have eso:U0 ds=U0 ks:=B6 ((Ur ds).trans (hp.trans (Ur ks).symm)) (Gz ds) (Gz ks);have rv2:=Qnv rv (p:=p) (by rw [<- hwl];exact ok);have ia2:=Qmy ia ok;rw [es,eso] at ia2;have I2:Inv X pins σ (upd H1 s1.heap.objs.size (.lst (p.toList.map fun i=>ws.getD i .non))) { s1 with heap:=h',toks:=s1.toks }:=by
  refine I1.laid (fun b o e=>k b o (Qq (Qa e)) (Q2 _ e)) (Q6 _) ⟨by rw [Q0,Gw,ok.size,QP];omega,_,c',rv2,g⟩
 exact ⟨.ref s1.heap.objs.size,_,I2,rfl,q H1 _ _ s01 nl (ia2.same (Same.upd nl))⟩
end
end L2
namespace PySem
namespace DPr
section
variable {prog:Program} {w:World} {K:Type} [DecidableEq K] {knd:KeyKind prog w K} {A:Around} {E:Value->Shared->Prop} {s:Shared}
set_option maxHeartbeats 1000000 in
theorem of_list {l:Addr} {items:Array Value} {kvs:List (K×Value)} {sl:Array (Option Value)} {n:Nat} {Q:Value->Shared->Prop} (hh:A.handled=none) (hl:s.heap.get? l=some ⟨.type "list",none,.seq items n,sl⟩) (hlen:kvs.length=items.size) (hz:kvs.length<=sizeLine)
  (hv: ∀ (i:Nat) (v:Value) (k:K) (x:Value),items[i]? =some v->kvs[i]? =some (k,x)-> ∃ b,v= .ref b/\PairAt knd s.heap b k x)
  (h: ∀ (h':Heap) (tk:Nat),(∀ b o,s.heap.get? b=some o->h'.get? b=some o)->h'.DictOf knd s.heap.objs.size (merged [] kvs)->Q (.ref s.heap.objs.size) { s with heap:=h',toks:=tk }) :
  wpAny (model prog w) A (call (.type "dict") [.ref l]) Q E s:=by
 refine callType_codes (Q₁:=fun obj s₁=>obj= .ref s.heap.objs.size/\s₁={ s with heap:=s.heap.push { cls:= .type "dict",data:= .dict #[] } }) F.kt_called_dict (F.kt_typeCall_dict_1 _) F.entry_dict_init (kt_code_dict_new _ ⟨rfl,rfl⟩) ?_;rintro obj s₁ ⟨rfl,rfl⟩;have hnew:(s.heap.push { cls:= .type "dict",data:= .dict #[] }).DictOf knd s.heap.objs.size []:=Qi2 s.heap;have hl1:(s.heap.push { cls:= .type "dict",data:= .dict #[] }).get? l=some ⟨.type "list",none,.seq items n,sl⟩:=Q2 _ hl;have up1: ∀ b o,s.heap.get? b=some o->(s.heap.push { cls:= .type "dict",data:= .dict #[] }).get? b=some o:=fun b o e=>Q2 _ e
 refine ⟨hnew.typeIs,F.args_dict_init_2 _ _,?_⟩;unfold Builtin.«dict.__init__»;refine Q1 ?_;unfold Builtin.Dict.selfAndRest;refine Q1 (wpAny_notOrdered_dict hnew.typeIs ?_);show wpAny _ _ (pure (s.heap.objs.size,[Value.ref l])) _ _ _;refine Qe ?_;show wpAny _ _ (Builtin.Dict.updateFrom "dict.__init__" s.heap.objs.size (.ref l) [] .none) _ _ _;unfold Builtin.Dict.updateFrom;refine Q1 (UL (T:= "list") ⟨_,hl1,rfl⟩ ?_);rw [Qk (by decide)];refine Q1 (Qbh (by exact hh) hl1 fun h2 tk2 up2=> ?_);rw [Qk (show (none:Option Value).isNone=true from rfl)];refine Q1 (GS ?_);have hl2:h2.get? l=some ⟨.type "list",none,.seq items n,sl⟩:=up2 _ _ hl1;have isl:h2.IsList l items:=⟨_,hl2,rfl,n,rfl⟩;refine Q1 (Qvv (s:={ s with heap:=h2,toks:=tk2 }) isl ?_);obtain ⟨od,es,ep,hod,rest⟩:=id hnew;have hd2:h2.DictOf knd s.heap.objs.size []:=⟨od,es,ep,up2 _ _ hod,rest⟩;have llt:l < h2.objs.size:=Qa hl2;have dlt:s.heap.objs.size < h2.objs.size:=Qa (up2 _ _ hod);have nS:s.heap.objs.size ∉ [h2.objs.size,l]:=fun z=>by
  rcases Qd.mp z with z | z
  ·exact absurd z (Qq dlt)
  ·exact absurd (Qs.mp z) (JD (Qa hl))
 have up3: ∀ {o':Obj} b o,h2.get? b=some o->(h2.push o').get? b=some o:=fun b o e=>Q2 _ e
 refine Qe ⟨plainId_quiet Yh _,?_⟩;have W:=Walks.list (prog:=prog) (w:=w) (A:=A.in1.in1) (show A.in1.in1.handled=none from hh) h2.objs.size l (Qq llt) items;refine loop (knd:=knd) W s.heap.objs.size nS h2 kvs hlen (by omega) (fun i v k x hP hk=> ?_) .none items.size 0 _ (Nat.sub_zero _) (Jd _) ⟨⟨_,Qg _ rfl,rfl,rfl⟩,isl.push _⟩ (fun b o _ _ e=>up3 b o e) ?_ fun h3 tk3 keep fin=> ?_
 ·obtain ⟨b,rfl,key,o,m,hk1,hb,hc,hd⟩:=hv i v k x hP hk;refine ⟨b,rfl,fun z=> ?_,Qq (Qa hb),key,o,m,hk1,up2 _ _ (up1 _ _ hb),hc,hd⟩;have e:=Qs.mp z;exact absurd e (Qq (Qa (up2 _ _ (up1 _ _ hb))))
 ·obtain ⟨od,es,ep,hod,rest⟩:=hd2;exact ⟨od,es,ep,up3 _ _ hod,rest⟩
 ·refine ⟨rfl,h h3 tk3 (fun b o e=> ?_) fin⟩;have e2:=up2 _ _ (up1 _ _ e);exact keep b o (fun z=>absurd (Qs.mp z) (Qq (Qa e2))) (Qq (Qa e)) (up3 _ _ e2)
set_option maxHeartbeats 1000000 in
theorem of_tuple {l:Addr} {items:Array Value} {kvs:List (K×Value)} {sl:Array (Option Value)} {n:Nat} {Q:Value->Shared->Prop} (hh:A.handled=none) (hl:s.heap.get? l=some ⟨.type "tuple",none,.seq items n,sl⟩) (hlen:kvs.length=items.size) (hz:kvs.length<=sizeLine)
  (hv: ∀ (i:Nat) (v:Value) (k:K) (x:Value),items[i]? =some v->kvs[i]? =some (k,x)-> ∃ b,v= .ref b/\PairAt knd s.heap b k x)
  (h: ∀ (h':Heap) (tk:Nat),(∀ b o,s.heap.get? b=some o->h'.get? b=some o)->h'.DictOf knd s.heap.objs.size (merged [] kvs)->Q (.ref s.heap.objs.size) { s with heap:=h',toks:=tk }) :
  wpAny (model prog w) A (call (.type "dict") [.ref l]) Q E s:=by
 refine callType_codes (Q₁:=fun obj s₁=>obj= .ref s.heap.objs.size/\s₁={ s with heap:=s.heap.push { cls:= .type "dict",data:= .dict #[] } }) F.kt_called_dict (F.kt_typeCall_dict_1 _) F.entry_dict_init (kt_code_dict_new _ ⟨rfl,rfl⟩) ?_;rintro obj s₁ ⟨rfl,rfl⟩;have hnew:(s.heap.push { cls:= .type "dict",data:= .dict #[] }).DictOf knd s.heap.objs.size []:=Qi2 s.heap;have hl1:(s.heap.push { cls:= .type "dict",data:= .dict #[] }).get? l=some ⟨.type "tuple",none,.seq items n,sl⟩:=Q2 _ hl;have up1: ∀ b o,s.heap.get? b=some o->(s.heap.push { cls:= .type "dict",data:= .dict #[] }).get? b=some o:=fun b o e=>Q2 _ e
 refine ⟨hnew.typeIs,F.args_dict_init_2 _ _,?_⟩;unfold Builtin.«dict.__init__»;refine Q1 ?_;unfold Builtin.Dict.selfAndRest;refine Q1 (wpAny_notOrdered_dict hnew.typeIs ?_);show wpAny _ _ (pure (s.heap.objs.size,[Value.ref l])) _ _ _;refine Qe ?_;show wpAny _ _ (Builtin.Dict.updateFrom "dict.__init__" s.heap.objs.size (.ref l) [] .none) _ _ _;unfold Builtin.Dict.updateFrom;refine Q1 (UL (T:= "tuple") ⟨_,hl1,rfl⟩ ?_);rw [Qk (by decide)];refine Q1 (OS (by exact hh) hl1 fun h2 tk2 up2=> ?_);rw [Qk (show (none:Option Value).isNone=true from rfl)];refine Q1 (GS ?_);have hl2:h2.get? l=some ⟨.type "tuple",none,.seq items n,sl⟩:=up2 _ _ hl1;have isl:h2.IsTuple l items:=⟨_,hl2,rfl,n,rfl⟩;refine Q1 (ZB (s:={ s with heap:=h2,toks:=tk2 }) isl ?_);obtain ⟨od,es,ep,hod,rest⟩:=id hnew;have hd2:h2.DictOf knd s.heap.objs.size []:=⟨od,es,ep,up2 _ _ hod,rest⟩;have llt:l < h2.objs.size:=Qa hl2;have dlt:s.heap.objs.size < h2.objs.size:=Qa (up2 _ _ hod);have nS:s.heap.objs.size ∉ [h2.objs.size,l]:=fun z=>by
  rcases Qd.mp z with z | z
  ·exact absurd z (Qq dlt)
  ·exact absurd (Qs.mp z) (JD (Qa hl))
 have up3: ∀ {o':Obj} b o,h2.get? b=some o->(h2.push o').get? b=some o:=fun b o e=>Q2 _ e
 refine Qe ⟨plainId_quiet Yh _,?_⟩;have W:=Walks.tuple (prog:=prog) (w:=w) (A:=A.in1.in1) (show A.in1.in1.handled=none from hh) h2.objs.size l (Qq llt) items;refine loop (knd:=knd) W s.heap.objs.size nS h2 kvs hlen (by omega) (fun i v k x hP hk=> ?_) .none items.size 0 _ (Nat.sub_zero _) (Jd _) ⟨⟨_,Qg _ rfl,rfl,rfl⟩,isl.push _⟩ (fun b o _ _ e=>up3 b o e) ?_ fun h3 tk3 keep fin=> ?_
 ·obtain ⟨b,rfl,key,o,m,hk1,hb,hc,hd⟩:=hv i v k x hP hk;refine ⟨b,rfl,fun z=> ?_,Qq (Qa hb),key,o,m,hk1,up2 _ _ (up1 _ _ hb),hc,hd⟩;have e:=Qs.mp z;exact absurd e (Qq (Qa (up2 _ _ (up1 _ _ hb))))
 ·obtain ⟨od,es,ep,hod,rest⟩:=hd2;exact ⟨od,es,ep,up3 _ _ hod,rest⟩
 ·refine ⟨rfl,h h3 tk3 (fun b o e=> ?_) fin⟩;have e2:=up2 _ _ (up1 _ _ e);exact keep b o (fun z=>absurd (Qs.mp z) (Qq (Qa e2))) (Qq (Qa e)) (up3 _ _ e2)
end
end DPr
end PySem
namespace L2
open PySem PySem.Spec PyProof.Rows PySem.W
theorem Qh4 {K:W.Frag} {H:Hp}: ∀ {ds:List D} {vs:List V},ds.length=vs.length->(∀ (i:Nat) d v,ds[i]? =some d->vs[i]? =some v->Is K H d v)->Va K H ds vs
 | [],[],_,_=>Jm
 | d::ds,v::vs,hl,h=>Vg (h 0 d v rfl rfl) (Qh4 (by simpa using hl) fun i d' v' e1 e2=>h (i+1) d' v' (by simpa using e1) (by simpa using e2))
 | [],_::_,hl,_=>by simp at hl
 | _::_,[],hl,_=>by simp at hl
def JH (ks:List Str) (ds:List D):List D:=List.zipWith (fun k d=> .tup [.str k,d]) ks ds
theorem Qm7 {ks:List Str} {ds:List D} {i:Nat} {e:D} (h:(JH ks ds)[i]? =some e): ∃ k d,ks[i]? =some k/\ds[i]? =some d/\e= .tup [.str k,d]:=by
 unfold JH at h;rw [Ul] at h;cases h1:ks[i]? with
 | none=>simp [h1] at h
 | some k =>
  cases h2:ds[i]? with
  | none=>simp [h1,h2] at h
  | some d =>
   simp only [h1,h2] at h;exact ⟨k,d,rfl,rfl,(Qt h).symm⟩
theorem UB {ks:List Str} {ds:List D} (h:ks.length=ds.length):(JH ks ds).length=ks.length:=by simp [JH,h]
theorem Qjp {ks:List Str} {vs:List V} {i:Nat} {q:Key×V} (h:(Js ks vs)[i]? =some q): ∃ k v,ks[i]? =some k/\vs[i]? =some v/\q=(.inr k,v):=by
 unfold Js at h;rw [Q8] at h;cases h1:(ks.zip vs)[i]? with
 | none=>rw [h1] at h;cases h
 | some p =>
  rw [h1] at h;obtain ⟨e1,e2⟩:=W1.mp h1;exact ⟨p.1,p.2,e1,e2,(Qt h).symm⟩
theorem KV.get {kvs:List (Key×V)} {vs:List (Key×Value)} (r:KV kvs vs) {i:Nat} {q:Key×Value} (h:vs[i]? =some q): ∃ p,kvs[i]? =some p/\p.1=q.1/\RelV p.2 q.2:=by
 unfold KV at r
 induction r generalizing i with
 | nil=>simp at h
 | @cons a b as bs h1 t ih =>
  cases i with
  | zero =>
   have:b=q:=by simpa using h
   subst this;exact ⟨a,rfl,h1⟩
  | succ i=>exact ih (by simpa using h)
theorem Qg0: ∀ as:List Addr,Vals (as.map V.ref) (as.map Value.ref)
 | []=> .nil
 | a::as=> .cons rfl (Qg0 as)
section
variable {X:Cx}
def ViewO (p d:Addr):HO:= .ext fun h=>h.get? p=some { cls:= .type "dict_items",data:= .fields #[.ref d] }
theorem Qq7:MtR X "dict.items" (fun x xs H Q=> ∃ a kvs,x= .ref a/\xs=[]/\Rd H a (.dK kvs)/\ ∀ p,H p=none->Q (.ref p) (upd H p (ViewO p a))):=by
 intro pins s σ H x xs v us Q I rx rs h;obtain ⟨a,kvs,rfl,rfl,hd,q⟩:=h;cases (show v=Value.ref a from rx);cases rs;obtain ⟨z,hm,vs,rel,dd⟩:=Gj I.hok hd;have here:(s.heap.push { cls:= .type "dict_items",data:= .fields #[.ref a] }).get? s.heap.objs.size=some { cls:= .type "dict_items",data:= .fields #[.ref a] }:=Qg _ rfl;refine Qvy PySem.F.slot_dict_items dd.typeIs PySem.F.entry_dict_items (PySem.F.args_dict_items_1 _) (meets_dict_items (Jj X.prog X.w) a hm) ⟨⟨vs,dd⟩,?_⟩;exact ⟨.ref s.heap.objs.size,_,I.laid (t':=s.toks) (o:=ViewO s.heap.objs.size a) (fun b o e=>Q2 _ e) (Q6 _) ⟨here,⟨_,here⟩,fun h1 h2 e k=>k _ e⟩,rfl,q _ I.fresh⟩
theorem Og (hu:X.A.units+22 < cLine) (hc:X.calm=true):CallR X (.builtin "sorted") (fun vs H Q=> ∃ p a fz ks ds,vs=[.ref p]/\H p=some (ViewO p a)/\Is X.K H (.dct fz (ks.map .str) ds) (.ref a)/\ks.length=ds.length/\Srt2 (JH ks ds)/\ks.length < 64 /\
  ∀ H1 l ws,Same H H1->H1 l=none->Va X.K (upd H1 l (.lst ws)) (U0 (JH ks ds)) ws->Q (.ref l) (upd H1 l (.lst ws))):=by
 intro pins s σ H xs us Q I r h;obtain ⟨p,a,fz,ks,ds,rfl,hp,hi,hkd,hs,hl,q⟩:=h;obtain ⟨u,rfl,ru⟩:=vals1 r;cases (show u=Value.ref p from ru);obtain ⟨a',wv,e,dk,ia⟩:=Yk hi;cases e;have ho:s.heap.get? p=some { cls:= .type "dict_items",data:= .fields #[.ref a] }:=(I.hok p _ hp).1;obtain ⟨z,hm,vs,rel,o,es,ep,hod,hex,hdd,hko,hpr,hnd⟩:=Gj I.hok dk.rd;have dlen:=dk.len;have hvl:vs.length=ks.length:=by rw [<- rel.length,YX ks wv dk.len]
 refine Qlz hu hs (by rw [UB hkd];exact hl) (fun Z zz=> ?_) q;refine kdx_collect (A:=X.A.in1) (knd:=Jj X.prog X.w) (kvs:=vs) (ep:=ep) (by show X.A.handled=none;exact I.ok.hd hc) ⟨_,ho,rfl,rfl⟩ ⟨o,es,hod,hex,hdd,hko,hpr,hnd⟩ (by rw [hvl,QP];omega) fun h' tk as up al G=> ?_
 have lo: ∀ b∈as,s.heap.objs.size<=b:=fun b hb=>Qlk (G.above b hb)
 have nda:as.Nodup:=G.rise.imp fun h=>Qq h
 classical
 let pv:Nat->List V:=fun j=>[.str (ks.getD j ⟨#[]⟩),wv.getD j .non]
 let H1:Hp:=fun b=>if h: ∃ j,as[j]? =some b then some (.tup (pv h.choose)) else H b
 have at1: ∀ (j:Nat) (b:Addr),as[j]? =some b->H1 b=some (.tup (pv j)):=fun j b hj=>by
  have hx: ∃ j,as[j]? =some b:=⟨j,hj⟩;have e:hx.choose=j:=by
   have h1:=hx.choose_spec;obtain ⟨l1,e1⟩:=Q5.mp h1;obtain ⟨l2,e2⟩:=Q5.mp hj;exact (List.getElem_inj nda).mp (e1.trans e2.symm)
  show (if h: ∃ j,as[j]? =some b then some (HO.tup (pv h.choose)) else H b)=_;rw [dif_pos hx,e]
 have off: ∀ b,(¬ ∃ j,as[j]? =some b)->H1 b=H b:=fun b hb=>dif_neg hb
 have s1:Same H H1:=fun b o e=>by
  rw [off b]
  ·exact e
  ·rintro ⟨j,hj⟩;have:=I.hok.fresh (lo b (Q4 hj));rw [this] at e;cases e
 have gt: ∀ (j:Nat) (b:Addr),as[j]? =some b-> ∃ k v,ks[j]? =some k/\wv[j]? =some v/\pv j=[.str k,v]/\ObjOk X.prog X.w H1 h' b (.tup (pv j)):=fun j b hj=>by
  obtain ⟨key,k,x,e1,e2,e3⟩:=G.pairs j b hj;obtain ⟨q,f1,f2,f3⟩:=rel.get e1;obtain ⟨k',v',g1,g2,rfl⟩:=Qjp f1;have ek:k= .inr k':=f2.symm;subst ek;have eq:pv j=[.str k',v']:=by
   show [V.str (ks.getD j ⟨#[]⟩),wv.getD j .non]=_;rw [Qm,Qm,g1,g2];rfl
  have ekey: ∃ t,key= .str k' t:=by
   rcases JK (k:=Sum.inr k') (v:=key) e2 with ⟨i,t,z,_⟩ | ⟨y,t,z,e⟩
   ·cases z
   ·cases z;exact ⟨t,e⟩
  obtain ⟨t,rfl⟩:=ekey;refine ⟨k',v',g1,g2,eq,?_⟩;rw [eq];exact ⟨by rw [QP];show 2<=_;decide,[.str k' t,x],.cons ⟨t,rfl⟩ (.cons f3 .nil),⟨_,e3,rfl,_,rfl⟩⟩
 have I1:Inv X pins σ H1 { s with heap:=h',toks:=tk }:=by
  refine I.grow up s1 (fun b n nn=> ?_) (fun b ob n e=> ?_)
  ·apply Bh;intro hlt;refine nn ?_;rw [off b (fun (⟨j,hj⟩: ∃ j:Nat,as[j]? =some b)=>hlt (lo b (Q4 hj)))];exact n
  ·by_cases hx: ∃ j:Nat,as[j]? =some b
   ·obtain ⟨j,hj⟩:=hx;rw [at1 j b hj] at e;cases e;obtain ⟨_,_,_,_,_,ok⟩:=gt j b hj;exact ok
   ·rw [off b hx,n] at e;cases e
 refine zz _ _ H1 (JH ks ds) (as.map V.ref) I1 s1 (.refl _) (Qh4 (by rw [UB hkd,Q0,al,hvl]) fun i d v hd hv=> ?_) ?_
 ·obtain ⟨k,d',e1,e2,rfl⟩:=Qm7 hd;rw [Q8] at hv;cases hj:as[i]? with
  | none=>rw [hj] at hv;cases hv
  | some b =>
   rw [hj] at hv;cases hv;obtain ⟨k',v',g1,g2,eq,_⟩:=gt i b hj;rw [e1] at g1;cases g1;obtain ⟨v2,f1,f2⟩:=ia.get e2;rw [g2] at f1;cases f1;exact YQ (SqT.of (by rw [at1 i b hj,eq])) (Vg (ZV _) (Vg (f2.same s1) Jm))
 ·exact Qg0 as
variable {ρ:List (Option D)} {a e:Expr} {d:D} {ds:List D} {ks:List Str} {pos:Pos}
theorem Qce:bootBuiltins "dict" =some (.type "dict"):=by decide +kernel
theorem Qc0 {p ap cp:Pos} (hu:X.A.units+22 < cLine) (hc:X.calm=true) (hm:X.mg "sorted" =none) (ha:PD X ρ a (.dct false (ks.map .str) ds)) (hkd:ks.length=ds.length) (hs:Srt2 (JH ks ds)) (hl:ks.length < 64)
  (hg:Gl X "sorted" :=by rfl) (hbase:attributeBase a "items" X.env (eval a X.env)=eval a X.env:=by rfl) (hline:(ap.endLine == cp.line)=true:=by rfl) (h2:starEach [.Call (.Attribute a "items" ap) [] [] cp] X.env=[(false,eval (.Call (.Attribute a "items" ap) [] [] cp) X.env)]:=by rfl) :
  PDL X ρ (.Call (.Name "sorted" p) [.Call (.Attribute a "items" ap) [] [] cp] [] pos) (U0 (JH ks ds)) :=
 ⟨(Qb8 (Og hu hc) hg hm Qft (UC (Qis Yv PySem.F.slot_dict_items PySem.F.type_dict_items Qq7 ha.pe hbase hline) BT h2) (by decide) (by decide) h2 rfl).imp fun σ H Q q=>⟨q.1,fun v H1 s1 i=>by
  obtain ⟨b,vs,rfl,dk,ia⟩:=Yk i;have hb:H1 b=some (.dK (Js ks vs)):=dk.at_;refine ⟨.inr (.inr (.inl ⟨rfl,.inl ⟨_,hb⟩⟩)),b,_,rfl,rfl,dk.rd,fun p np=> ?_⟩;have s2:Same H1 (upd H1 p (ViewO p b)):=Same.upd np;exact ⟨p,b,false,ks,ds,rfl,Vu,i.same s2,hkd,hs,hl,fun H3 l ws s3 nl il=>q.2 l ws _ (((s1.trans s2).trans s3).free nl) (((s1.trans s2).trans s3).trans (Same.upd nl)) Vu il⟩⟩⟩
def Je {α:Type}:List Str->List α->List Str->List α->List Str×List α
 | a,b,k::ks,d::ds=>Je (J6 a k) (putVs a b k d) ks ds
 | a,b,_,_=>(a,b)
theorem GH {α:Type}: ∀ {ks:List Str} {ds:List α} {a:List Str} {b:List α},a.length=b.length->a.Nodup->(Je a b ks ds).1.length=(Je a b ks ds).2.length/\(Je a b ks ds).1.Nodup
 | [],_,a,b,h,n=>⟨h,n⟩
 | _::_,[],a,b,h,n=>⟨h,n⟩
 | k::ks,d::ds,a,b,h,n=>by
  rw [Je];exact GH (ZG h) (UW n)
theorem Qgu: ∀ {ks:List Str} {vs:List V} {a:List Str} {b:List V},a.length=b.length->a.Nodup->YR (Js a b) (Js ks vs)=Js (Je a b ks vs).1 (Je a b ks vs).2
 | [],_,a,b,h,n=>rfl
 | _::_,[],a,b,h,n=>rfl
 | k::ks,v::vs,a,b,h,n=>by
  have e:Js (k::ks) (v::vs)=(.inr k,v)::Js ks vs:=rfl;rw [Je,<- Qgu (ZG h) (UW n),Qam h n,e];rfl
theorem Os {α β:Type}: ∀ {ks:List Str} {ds:List α} {es:List β} {a:List Str} {b:List α} {c:List β},ds.length=es.length->(Je a b ks ds).1=(Je a c ks es).1
 | [],_,_,a,b,c,_=>by simp [Je]
 | _::_,[],[],a,b,c,_=>by simp [Je]
 | k::ks,d::ds,e::es,a,b,c,h=>by
  rw [Je,Je];exact Os (by simpa using h)
 | _::_,[],_::_,a,b,c,h=>by simp at h
 | _::_,_::_,[],a,b,c,h=>by simp at h
theorem Va.merge {K:W.Frag} {H:Hp}: ∀ {ks:List Str} {ds:List D} {vs:List V} {a:List Str} {b:List D} {c:List V},Va K H b c->Va K H ds vs->Va K H (Je a b ks ds).2 (Je a c ks vs).2
 | [],_,_,a,b,c,h,_=>by simpa [Je] using h
 | k::ks,[],vs,a,b,c,h,i=>by
  rw [Va] at i;subst i;simpa [Je] using h
 | k::ks,d::ds,vs,a,b,c,h,i=>by
  rw [Va] at i;obtain ⟨v,r,rfl,q,t⟩:=i;rw [Je,Je];exact Va.merge (h.put q) t
theorem Qjf (fz:Bool) (hc:X.calm=true):CallR X (.type "dict") (fun vs H Q=> ∃ p ks ds,vs=[.ref p]/\(Is X.K H (.lst (JH ks ds)) (.ref p) \/ ∃ ws ob,ob.dict=none/\H p=some (.frz ob (.tup ws))/\Va X.K H (JH ks ds) ws)/\ks.length=ds.length/\ks.length<=1000 /\
  ∀ a vs o,H a=none->Va X.K H ds vs->Q (.ref a) (upd H a (if fz=true then .frz o (.dK (YR [] (Js ks vs))) else .dK (YR [] (Js ks vs))))):=by
 intro pins s σ H xs us Q I r h;obtain ⟨p,ks,ds,rfl,il,hkd,hl,q⟩:=h;obtain ⟨u,rfl,ru⟩:=vals1 r;cases (show u=Value.ref p from ru);have hfresh:=I.fresh;have big:sysModules < s.heap.objs.size:=I.big;have mem: ∀ {ws:List V} {its:List Value},Va X.K H (JH ks ds) ws->Vals ws its-> ∃ (vs:List V) (us:List (Key×Value)),Va X.K H ds vs/\KV (Js ks vs) us/\us.length=its.length/\ ∀ (i:Nat) (v:Value) (k:Key) (x:Value),its[i]? =some v->us[i]? =some (k,x)-> ∃ b,v= .ref b/\DPr.PairAt (Jj X.prog X.w) s.heap b k x:=by
  clear il q hl
  induction ks generalizing ds with
  | nil =>
   intro ws its ia rv;have e:ds=[]:=OO.mp hkd.symm;subst e;rw [show JH [] []=[] from rfl,Va] at ia;subst ia;cases rv;exact ⟨[],[],Jm,.nil,rfl,fun i v k x h1 _=>by simp at h1⟩
  | cons k ks ih =>
   intro ws its ia rv;cases ds with
   | nil=>simp at hkd
   | cons d ds =>
    rw [show JH (k::ks) (d::ds)= .tup [.str k,d]::JH ks ds from rfl,Va] at ia;obtain ⟨w,ws',rfl,iw,ia⟩:=ia;cases rv with
    | @cons _ u _ its' r1 r2 =>
     obtain ⟨vs,us,j1,j2,j3,j4⟩:=ih ds (by simpa using hkd) ia r2;obtain ⟨b,pv,rfl,hq,ip⟩:=Jn iw;cases (show u=Value.ref b from r1);obtain ⟨v1,v2,rfl,i1,i2⟩:=ip.two;cases JF i1;obtain ⟨tits,tr,⟨o,ho,hcl,m,hdt⟩,_⟩:=I.tuple hq;cases tr with
     | @cons _ y1 _ yr t1 t2 =>
      cases t2 with
      | @cons _ y2 _ yr2 t3 t4 =>
       cases t4;obtain ⟨tk,rfl⟩:=(show ∃ t,y1=Value.str k t from t1);refine ⟨v2::vs,(.inr k,y2)::us,Vg i2 j1,.cons ⟨rfl,t3⟩ j2,by simp [j3],fun i v kk x h1 h2=> ?_⟩;cases i with
       | zero =>
        have e1:Value.ref b=v:=by simpa using h1
        have e2:((Sum.inr k:Key),y2)=(kk,x):=by simpa using h2
        cases e2;exact ⟨b,e1.symm,.str k tk,o,m,Gc X.prog X.w k tk,ho,hcl,hdt⟩
       | succ i=>exact j4 i v kk x (by simpa using h1) (by simpa using h2)
 have fin: ∀ {vs:List V} {us:List (Key×Value)},Va X.K H ds vs->KV (Js ks vs) us-> ∀ (h':Heap) (tk:Nat),(∀ b o,s.heap.get? b=some o->h'.get? b=some o)->h'.DictOf (Jj X.prog X.w) s.heap.objs.size (merged [] us)->EP X pins σ Q (.ref s.heap.objs.size) { s with heap:=h',toks:=tk }:=fun {vs us} iv kv h' tk up dd=>by
  have hvl:ks.length=vs.length:=by rw [hkd];exact iv.length
  have hz:(YR [] (Js ks vs)).length<=sizeLine:=by
   have h1:=YS (Js ks vs) [];rw [YX ks vs hvl,WS] at h1;rw [QP];omega
  have ok: ∀ H',ObjOk X.prog X.w H' h' s.heap.objs.size (.dK (YR [] (Js ks vs))):=fun H'=>⟨hz,Ws.mpr (J5 (Qq big)),merged [] us,kv.merge .nil,dd⟩
  obtain ⟨o,es,ep,ho,_⟩:=id dd;refine ⟨.ref s.heap.objs.size,_,I.laid up (Q6 _) ?_,rfl,q _ vs o hfresh iv⟩;cases fz
  ·exact ok _
  ·exact ⟨ho,ok _⟩
 rcases il with il | ⟨ws,ob,hno,hp,ia⟩
 ·obtain ⟨p',ws,e,hq,ia⟩:=Wr il;cases e;obtain ⟨its,rv,pl,hz⟩:=I.list hq;obtain ⟨vs,us,j1,j2,j3,j4⟩:=mem ia rv;have hl1:=ia.length;have hl2:=rv.length;rw [UB hkd] at hl1;obtain ⟨⟨cl,dc,da,sl⟩,n,ho,hcl,hdn,hdt⟩:=pl;cases (show cl=Value.type "list" from hcl);cases (show da=Data.seq its.toArray n from hdt);cases (show dc=none from hdn);exact DPr.of_list (knd:=Jj X.prog X.w) (I.ok.hd hc) ho (by simp;omega) (by rw [QP];omega) (fun i v k x h1 h2=>j4 i v k x (by simpa using h1) h2) (fin j1 j2)
 ·obtain ⟨ho,hz,its,rv,o2,ho2,hcl,n,hdt⟩:=I.hok p _ hp;rw [ho] at ho2;cases ho2;obtain ⟨vs,us,j1,j2,j3,j4⟩:=mem ia rv;have hl1:=ia.length;have hl2:=rv.length;rw [UB hkd] at hl1;obtain ⟨cl,dc,da,sl⟩:=ob;cases (show cl=Value.type "tuple" from hcl);cases (show da=Data.seq its.toArray n from hdt);cases (show dc=none from hno);exact DPr.of_tuple (knd:=Jj X.prog X.w) (I.ok.hd hc) ho (by simp;omega) (by rw [QP];omega) (fun i v k x h1 h2=>j4 i v k x (by simpa using h1) h2) (fin j1 j2)
theorem Ql0 {p:Pos} (hc:X.calm=true) (hm:X.mg "dict" =none) (ha:PD X ρ e (.lst (JH ks ds))) (hkd:ks.length=ds.length) (hl:ks.length<=1000) (hlf:LFs ds=true) (hg:Gl X "dict" :=by rfl) (h1:starEach [e] X.env=[(false,eval e X.env)]:=by rfl) :
  PDM X ρ (.Call (.Name "dict" p) [e] [] pos) (Je [] [] ks ds).1 (Je [] [] ks ds).2 :=
 ⟨(U8 (Qjf false hc) hg hm Qce (Vc ha Vn h1).pe (by decide) (by decide) h1 rfl).imp fun σ H Q q=>⟨q.1,fun vs H1 s1 ia=>by
  obtain ⟨v,rfl,i⟩:=ia.one;obtain ⟨b,ws,rfl,_,_⟩:=Wr i;refine ⟨b,ks,ds,rfl,.inl i,hkd,hl,fun a us o na iu=> ?_⟩;have hul:ds.length=us.length:=iu.length;have ek:=Qgu (ks:=ks) (vs:=us) (a:=[]) (b:=[]) rfl Wc;have e0:Js [] []=([]:List (Key×V)):=rfl;rw [e0] at ek;rw [Qn Qy,ek];have ok:=GH (ks:=ks) (ds:=us) (a:=[]) (b:=[]) rfl Wc;have s2:Same H1 (upd H1 a (.dK (Js (Je [] [] ks us).1 (Je [] [] ks us).2))):=Same.upd na;have dk:DkAt false (upd H1 a (.dK (Js (Je [] [] ks us).1 (Je [] [] ks us).2))) a (Je [] [] ks ds).1 (Je [] [] ks us).2:=by
   rw [Os (b:=([]:List D)) (c:=([]:List V)) hul];exact ⟨ok.1,ok.2,Vu⟩
  exact q.2 a _ _ (s1.free na) (s1.trans s2) dk ((Va.merge Jm iu).same s2)⟩⟩
theorem U3 {α:Type}: ∀ {a:List Str} {b:List α} {k:Str} {x:α},a.length=b.length->k ∉ a->putVs a b k x=b++[x]
 | [],[],_,_,_,_=>rfl
 | c::a,d::b,k,x,h,n=>by
  rw [putVs,Qn (fun z=>n (by rw [z];exact Q7)),U3 (by simpa using h) (fun z=>n (Q9 _ z))];rfl
 | [],_::_,_,_,h,_=>by simp at h
 | _::_,[],_,_,h,_=>by simp at h
theorem Qbf {α:Type}: ∀ {ks:List Str} {ds:List α} {a:List Str} {b:List α},a.length=b.length->ks.length=ds.length->(a++ks).Nodup->Je a b ks ds=(a++ks,b++ds)
 | [],[],a,b,_,_,_=>by simp [Je]
 | k::ks,d::ds,a,b,h,h2,n=>by
  have hk:k ∉ a:=fun z=>by
   rw [Wj] at n;exact n.2.2 k z k Q7 rfl
  rw [Je,U3 h hk,show J6 a k=a++[k] from Qn hk,Qbf (by simp [h]) (by simpa using h2) (by simpa using n)]
  simp
 | [],_::_,_,_,_,h,_=>by simp at h
 | _::_,[],_,_,_,h,_=>by simp at h
end
def Itd (ks:List Str) (a:Addr) (o:Obj) (kvs:List (Key×V)):It:=⟨fun i H=>i < ks.length/\H a=some (.frz o (.dK kvs)),fun i H x H'=>H'=H/\ ∃ k,ks[i]? =some k/\x= .str k,fun i H=>ks.length<=i/\H a=some (.frz o (.dK kvs))⟩
theorem Qlr {P:Program} {w:World} {K:W.Frag} {tg:Expr} {ks:List Str} {kvs:List (Key×V)} (a it:Addr) (vs:List (Key×Value)) (ep:Nat) (o:Obj) (hne:a≠it) (hk:vs.map (·.1)=ks.map Sum.inr)
  (at_: ∀ h:Heap,h.get? a=some o->h.DictAt (Jj P w) a vs ep):Turn P w K tg (Itd ks a o kvs) [it] it (fun i h=>h.IsKeyIter it a i vs.length ep) where
 mem:=by simp
 obj:=fun i h st b hb=>by
  have e:b=it:=by simpa using hb
  subst e;obtain ⟨o,e,c,d⟩:=st;exact ⟨o,e,fun v z=>by rw [d] at z;cases z⟩
 keep:=fun i h h' st k=>st.at fun o e=>k it (by simp) o e
 item:=by
  intro X hP hw hK hc i pins s σ H E I hf st hg;subst hP hw hK;obtain ⟨f0,f1,f2,f3,f4,f5⟩:=hf it (by simp);have hlen:vs.length=ks.length:=by have:=JQ List.length hk;simpa using this
  have ho:s.heap.get? a=some o:=(I.hok a _ hg.2).1;have W:=Walks.dictKeys (prog:=X.prog) (w:=X.w) (knd:=Jj X.prog X.w) (I.ok.hd hc) it a hne vs ep;refine W.item i s _ _ (by rw [hlen];exact hg.1) ⟨st,at_ _ ho⟩ fun v h' tk hv st' kk=> ?_
  have I1:Inv X pins σ H { s with heap:=h',toks:=tk }:=I.turned (fun b o hb e=>kk b o (by simpa using hb) e) f0 f1 f3 f4 f5;obtain ⟨k,x,e1,e2⟩:=hv;have e3:(vs.map (·.1))[i]? =some k:=by rw [Q8,e1];rfl
  rw [hk,Q8] at e3;obtain ⟨o',e,c,d⟩:=id st'.1;cases h5:ks[i]? with
  | none=>rw [h5] at e3;cases e3
  | some k' =>
   rw [h5] at e3;cases e3;have ekey: ∃ t,v= .str k' t:=by
    rcases JK (k:=Sum.inr k') (v:=v) e2 with ⟨i,t,z,_⟩ | ⟨y,t,z,e⟩
    ·cases z
    ·cases z;exact ⟨t,e⟩
   exact ⟨v,rfl,Qkw (s:={ s with heap:=h',toks:=tk }) e c d (by decide) ⟨.str k',H,I1,ekey,⟨rfl,k',h5,rfl⟩,st'.1,fun b hb=>(hf b hb).1⟩⟩
 done:=by
  intro X hP hw hK hc i pins s σ H E I hf st hg;subst hP hw hK;obtain ⟨f0,f1,f2,f3,f4,f5⟩:=hf it (by simp);have hlen:vs.length=ks.length:=by have:=JQ List.length hk;simpa using this
  have ho:s.heap.get? a=some o:=(I.hok a _ hg.2).1;exact wpAny_pyNext_dict_end (I.ok.hd hc) st (at_ _ ho) (by have:=hg.1;simp;omega) fun h' eb=>⟨rfl,I.turned (t':=s.toks) (fun b o hb e=>eb b o hb e) f0 f1 f3 f4 f5⟩
 self:=fun _ _ _ _ _ st h=>wpAny_pyIter_keyiter st h
section
variable {X:Cx} {ρ:List (Option D)} {e tg:Expr} {ds:List D} {ks:List Str}
theorem Qp0 {te:TE} (he:PE X e te):PI X tg e (fun σ H R=>te σ H fun x H1=> ∃ a o ks vs,x= .ref a/\ks.length=vs.length/\H1 a=some (.frz o (.dK (Js ks vs)))/\R (Itd ks a o (Js ks vs)) H1):=by
 intro pins s σ H R I h;refine thn (he pins s σ H _ I h) fun v s1 ⟨x,H1,I1,r1,q1⟩=> ?_
 obtain ⟨a,o,ks,wv,rfl,hl,ha,q⟩:=q1;cases r1;obtain ⟨ho,hz,hm,vs,rel,o2,es,ep,ho2,hex,hdd,hko,hpr,hnd⟩:=I1.hok a _ ha;rw [ho] at ho2;cases ho2;have alt:a < s1.heap.objs.size:=Qa ho;have hk:vs.map (·.1)=ks.map Sum.inr:=by
  rw [<- rel.keys];unfold Js;rw [Qo,show (fun x=>x.1) ∘ (fun q:Str×V=>((Sum.inr q.1:Key),q.2))=Sum.inr ∘ (·.1) from rfl,<- Qo,List.map_fst_zip (by omega)]
 have at_: ∀ h:Heap,h.get? a=some o->h.DictAt (Jj X.prog X.w) a vs ep:=fun h e=>⟨o,es,e,hex,hdd,hko,hpr,hnd⟩
 refine wpAny_pyIter_dict hm (at_ _ ho) ?_;refine ⟨s1.heap.objs.size,[s1.heap.objs.size],_,_,H1,rfl,I1.kept (t':=s1.toks) fun b o e=>Q2 _ e,Qlr a _ vs ep o (Qq alt) hk at_,⟨_,Qg _ rfl,rfl,rfl⟩,fun b hb=> ?_,q⟩;have e:b=s1.heap.objs.size:=by simpa using hb
 subst e;exact I1.fpOk (Q6 _) (I1.hok.fresh (Q6 _))
theorem Qup (h:PD X ρ e (.dct true (ks.map .str) ds)):PDI X ρ tg e (ks.map .str) :=
 ⟨(Qp0 h.pe).imp fun σ H R q=>⟨q.1,fun v H1 s1 i1=>by
  obtain ⟨p,vs,rfl,dk,ia⟩:=Yk i1;obtain ⟨o,ho⟩:=(show ∃ o,H1 p=some (.frz o (.dK (Js ks vs))) from dk.at_);refine ⟨p,o,ks,vs,rfl,dk.len,ho,q.2 _ H1 s1 ⟨fun i H' s hi=>⟨by simpa using hi,s _ _ ho⟩,fun i H' x H2 s _ y=> ?_,fun i H' s hi=>⟨by simpa using hi,s _ _ ho⟩⟩⟩;obtain ⟨e,k,hk,rfl⟩:=y;exact ⟨e,.str k,by rw [Q8,hk];rfl,ZV _⟩⟩⟩
end
section
variable {X:Cx} {ρ:List (Option D)} {a b e:Expr} {d:D} {ds:List D} {pos:Pos}
def Qz2 (K:W.Frag) (ρ:List (Option D)) (ds:List D):TE:=fun σ H Q=>EnvIs K H σ ρ/\ ∀ p vs ob H',H p=none->Same H H'->H' p=some (.frz ob (.lst vs))->Va K H' ds vs->Q (.ref p) H'
theorem Inv.freeze {pins:List (Addr×Obj)} {σ:St} {H:Hp} {s:Shared} {p:Addr} {vs:List V} (I:Inv X pins σ H s) (hp:H p=some (.lst vs)): ∃ ob,Inv X pins σ (upd H p (.frz ob (.lst vs))) s:=by
 obtain ⟨z,its,n,r,e⟩:=(show ObjOk X.prog X.w H s.heap p (.lst vs) from I.hok p _ hp);exact ⟨_,I.write (x:=p) (e:=p) (h':=s.heap) (t':=s.toks) (by rw [hp];exact Wn) (.inl rfl) (fun b u _ q=>q) ⟨_,e⟩ ⟨e,z,its,n,r,e⟩⟩
theorem U7 (h:PDL X ρ e ds) (hl:LFs ds=true):PE X e (Qz2 X.K ρ ds):=fun pins s σ H Q I q=>by
 refine Jo (h.pe pins s σ H (fun v H1=> ∃ p vs,v= .ref p/\H p=none/\Same H H1/\H1 p=some (.lst vs)/\Va X.K H1 ds vs) I ⟨q.1,fun p vs H' n s hp i=>⟨p,vs,rfl,n,s,hp,i⟩⟩) (fun u s1 ⟨x,H1,I1,r,p,vs,ex,n,s01,hp,i⟩=> ?_) fun _ _ z=>z
 subst ex;obtain ⟨ob,I2⟩:=I1.freeze hp;refine ⟨.ref p,_,I2,r,q.2 p vs ob _ n (fun c o z=> ?_) Vu (i.tsame (TSame.updM hp (fun _ e=>nomatch e) (fun _ _ e=>nomatch e)) hl)⟩;rw [J1 (Jg z n)];exact s01 _ _ z
theorem Gp (ha:PD X ρ a (.lst ds)) (he: ∀ whole,isTrue a X.env whole=(do let v<-whole;standAt a.pos;holding [v] (truthy v)):=by intro _;rfl):PB X ρ a (!ds.isEmpty) :=
 ⟨(Qgf ha.pe he).imp fun σ H Q q=>⟨q.1,fun v H1 s1 i1=>by
  obtain ⟨p,vs,rfl,hq,r⟩:=Wr i1;have hl:=r.length;have e:(!ds.isEmpty)= !vs.isEmpty:=by cases ds<;>cases vs<;>simp_all
  exact ⟨_,.inl ⟨vs,hq,e⟩,q.2 H1 s1⟩⟩⟩
theorem Qhe {elt iter:Expr} {x y:Str} {px py tp:Pos} {tk:Nat} {scope:Scope} {us:List (D×D)} {f:D->D->D} (hc:X.calm=true) (ha:PD X ρ iter (.tup (us.map fun u=> .tup [u.1,u.2]))) (hz:us.length<=sizeLine)
  (he: ∀ u v,(u,v)∈us-> ∀ cl C s H ex,PD (cxP X x y scope cl C s H ex) (some u::some v::ρ) elt (f u v))
  (hok:WL X.N X.env.scope x scope=true:=by rfl) (hy:scope.names.lookup y=some .local:=by rfl) (hnd:(x::y::X.N).Nodup:=by decide) (hf: ∀ v,foldedSetIterable iter X.env v=pure v:=by intro _;rfl) :
  PDL X ρ (.ListComp elt [⟨.Tuple [.Name x px,.Name y py] tk tp,iter,[],0⟩] scope pos) (us.map fun p=>f p.1 p.2):=by
 refine ⟨(Qb7 (tc:=Qei) (te:=fun σ H Q=> ∃ u v,(u,v)∈us/\rdD X.K (some u::some v::ρ) (f u v) σ H Q) hc (UX ha.pe) (fun _ _ _ _ _=>Bp)
  (fun cl C s H ex pins s' σ H' Q I ⟨u,v,hm,q⟩=>(he u v hm cl C s H ex).pe pins s' σ H' Q I q) hok hy hnd hf).imp fun σ H Q q=> ?_⟩
 obtain ⟨hE,q⟩:=q;refine ⟨hE,fun v H1 s1 i1=> ?_⟩;obtain ⟨p1,xs,rfl,q1,r1⟩:=Jn i1;have l1:=r1.length;rw [Q0] at l1;refine ⟨p1,rfl,⟨xs,q1⟩,fun i m ws H2=>Same H1 H2/\i<=us.length/\m=us.length - i/\Va X.K H2 ((us.take i).map fun p=>f p.1 p.2) ws,⟨_,Same.refl _,Jd _,rfl,by simpa using Jm⟩,?_⟩;rintro i m ws H2 ⟨s2,hi,rfl,r⟩
 by_cases hlt:i < us.length
 ·refine .inr ⟨⟨xs,xs[i]'(by omega),s2.sqT q1,by simp⟩,?_,fun v H3 yl=> ?_⟩
  ·have:=r.length;rw [Q0,Qj] at this;omega
  ·obtain ⟨rfl,hx⟩:=yl;obtain ⟨d,ed,id⟩:=r1.at (hx xs (s2.sqT q1));have hu:us[i]? =some us[i]:=Qb hlt;rw [Q8,hu] at ed;cases ed;obtain ⟨p,vs,rfl,hq,ia⟩:=Jn (id.same s2);obtain ⟨vx,vy,rfl,iu,iw⟩:=ia.two;refine ⟨p,vx,vy,rfl,hq,?_⟩;unfold Qei;simp only [Zx];refine ⟨_,_,Q4 hu,((hE.same (s1.trans s2)).cons iw).cons iu,fun z H5 s5 iz=>⟨us.length - (i+1),by omega,s2.trans s5,hlt,rfl,?_⟩⟩;have ht4:us.take (i+1)=us.take i++[us[i]]:=by rw [QJ,hu];rfl
   rw [ht4,QE];exact (r.same s5).append (Vg iz Jm)
 ·have e:i=us.length:=by omega
  refine .inl ⟨⟨xs,s2.sqT q1,by omega⟩,fun l hl=>q l ws _ ((s1.trans s2).free hl) ((s1.trans s2).trans (Same.upd hl)) Vu (Va.same (Same.upd hl) ?_)⟩;rw [e,QF] at r;exact r
end
section
variable {X:Cx} {H₀:Hp} {τ:List Sl} {e c:Expr} {d:D} {ds:List D} {pos:Pos} {m:Bool}
theorem Bs {i:Nat} {x:Str} {p:Pos} (h:PDL X (dat τ) e ds) (hl:LFs ds=true) (hN:X.N.Nodup) (hi:X.N[i]? =some x:=by rfl) (hx:Loc X.env.scope x:=by first | exact QI rfl | exact QY rfl)
  (hs:swapsWith e (some (.Name x p)) pos.line X.env=pure false:=by rfl) (hf:X.fn x=true \/ X.env.scope.names.lookup x=some .local:=by first | exact .inl rfl | exact .inr rfl):QO X H₀ τ (.Assign [.Name x p] e pos) (.next true (τ.set i (.flt ds))) :=
 ⟨(B8 hN hi hx (U7 h hl) hs hf).imp fun D σ H q=>⟨q.1.env,fun p vs ob H' n s hp iv=>q.2 _ H' s ((q.1.step s).set i ⟨p,vs,rfl,⟨ob,hp⟩,hl,iv⟩ fun ds e=>nomatch e)⟩⟩
theorem Zc {tg iter:Expr} {body:List Stmt} {wi:TI} {g:TG} {put:List Sl->D->List Sl} (τs:Nat->List Sl) (hp:PassesOwn (model X.prog X.w) X.A X.env X.xe) (hc:X.calm=true) (hi:PI X tg iter wi) (hg:PG X tg g)
  (hput: ∀ d∈ds,∀ (τ':List Sl) (σ:St) (H:Hp) (v:V) (Q:St->Hp->Prop),EnvO X.K H₀ H σ τ'->Is X.K H d v->(∀ σ',EnvO X.K H₀ H σ' (put τ' d)->Q σ' H)->g v σ H Q)
  (hr: ∀ σ H R,EnvO X.K H₀ H σ τ->(∀ J H' (St:Hp->Prop),Same H H'->St H'->(∀ H1 H2,St H1->Rl m H1 H2->Same H₀ H2->St H2)->JSt X.K H₀ J St ds .any->R J H')->wi σ H R)
  (h0:τs 0=τ) (hb: ∀ (i:Nat) (d:D),ds[i]? =some d-> ∃ n,QOs X H₀ (put (τs i) d) body (.next n (τs (i+1)))/\(m=true->n=true))
  (hs: ∀ x,foldedSetIterable iter X.env x=pure x:=by intro _;rfl) :
  QO X H₀ τ (.For tg iter body [] pos) (.next m (τs ds.length)):=by
 have hb':PSs X body (fun D σ H=> ∃ i d,ds[i]? =some d/\rdO X.K H₀ (put (τs i) d) (.next m (τs (i+1))) D σ H):=fun pins s σ H D I ⟨i,d,hd,q⟩=>by
  obtain ⟨n,hq,hn⟩:=hb i d hd;exact hq.pe pins s σ H D I ⟨q.1,fun σ' H' t=>q.2 σ' H' (t.weak hn)⟩
 refine ⟨(BS hp hc hi hg hb' hs).imp fun D σ H q=> ?_⟩;refine hr σ H _ q.1 fun J H1 St s1 st1 keep ji=> ?_
 refine ⟨fun i k σ' H'=>i<=ds.length/\k=ds.length - i/\EnvO X.K H₀ H' σ' (τs i)/\Rl m H H'/\St H',⟨ds.length,Jd _,rfl,by rw [h0];exact q.1.step s1,.of s1,st1⟩,?_⟩;rintro i k σ' H' ⟨hi',rfl,he,hm,st⟩
 by_cases hlt:i < ds.length
 ·refine .inr ⟨ji.go i H' st hlt,fun σ2 H2=>EnvO X.K H₀ H2 σ2 (τs (i+1))/\Rl m H' H2,fun σ2 H2 ⟨he2,hm2⟩=>⟨ds.length - (i+1),by omega,hlt,rfl,he2,?_,keep H' H2 st hm2 he2.same⟩,fun y H2 yl=> ?_⟩
  ·have:=hm.trans hm2;rwa [W9] at this
  ·obtain ⟨e,d,hd,v,ev,is⟩:=ji.yld i H' y H2 st hlt yl;subst e;cases ev;exact hput d (Q4 hd) _ σ' H2 y _ he is fun σ'' he'=>⟨i,d,hd,he',fun σ3 H3 t3 he3=>⟨he3,t3⟩⟩
 ·have e:i=ds.length:=by omega
  subst e;exact .inl ⟨ji.stop _ H' st (Q6 _),q.2 σ' H' hm he⟩
theorem Qf0 (hl:LFs ds=true): ∀ σ H R,EnvO X.K H₀ H σ τ->(∀ J H' (St:Hp->Prop),Same H H'->St H'->(∀ H1 H2,St H1->Rl m H1 H2->Same H₀ H2->St H2)->JSt X.K H₀ J St ds .any->R J H')->Qy2 X.K (rdD X.K (dat τ) (.tup ds)) σ H R :=
 fun σ H R he h=>⟨he.env,fun v H' s iv=>by
  obtain ⟨p,vs,rfl,hq,ia⟩:=Jn iv;have tq: ∀ {H2:Hp},TSame H' H2->SqT X.K H2 p vs:=fun t=>by
   rcases hq with hq | hq
   ·exact .inl (t.tp _ _ hq)
   ·exact .inr hq
  refine ⟨p,rfl,⟨vs,hq⟩,h _ H' (fun H2=>TSame H' H2) s (TSame.refl H') (fun H1 H2 a b _=>a.trans b.t) ⟨fun i H2 t hi=> ?_,fun i H2 v H3 t hi y=> ?_,fun i H2 t hi=> ?_⟩⟩
  ·exact (UE (tq t) (ia.tsame t hl)).go i H2 (Same.refl _) hi
  ·obtain ⟨e,d,hd,is⟩:=(UE (tq t) (ia.tsame t hl)).yld i H2 v H3 (Same.refl _) hi y;exact ⟨e,d,hd,v,rfl,is⟩
  ·exact (UE (tq t) (ia.tsame t hl)).stop i H2 (Same.refl _) hi⟩
theorem Qon {σ:St} {H:Hp} {R:It->Hp->Prop} {p:Addr} {vs:List V} {ob:Obj} {H':Hp} (s:Same H H') (hp:H' p=some (.frz ob (.lst vs))) (hl:LFs ds=true) (ia:Va X.K H' ds vs) (h: ∀ J H' (St:Hp->Prop),Same H H'->St H'->(∀ H1 H2,St H1->Rl m H1 H2->Same H₀ H2->St H2)->JSt X.K H₀ J St ds .any->R J H'):R (Itl X.K p) H':=by
 have tq: ∀ {H2:Hp},TSame H' H2->SqL X.K H2 p vs:=fun t=> .inl (.inr ⟨ob,t.fz _ _ _ hp⟩)
 refine h _ H' (fun H2=>TSame H' H2) s (TSame.refl H') (fun H1 H2 a b _=>a.trans b.t) ⟨fun i H2 t hi=> ?_,fun i H2 v H3 t hi y=> ?_,fun i H2 t hi=> ?_⟩
 ·exact (Zt (tq t) (ia.tsame t hl)).go i H2 (Same.refl _) hi
 ·obtain ⟨e,d,hd,is⟩:=(Zt (tq t) (ia.tsame t hl)).yld i H2 v H3 (Same.refl _) hi y;exact ⟨e,d,hd,v,rfl,is⟩
 ·exact (Zt (tq t) (ia.tsame t hl)).stop i H2 (Same.refl _) hi
theorem Qb0 {k:Nat} (hk:τ[k]? =some (.flt ds)): ∀ σ H R,EnvO X.K H₀ H σ τ->(∀ J H' (St:Hp->Prop),Same H H'->St H'->(∀ H1 H2,St H1->Rl m H1 H2->Same H₀ H2->St H2)->JSt X.K H₀ J St ds .any->R J H')->Qkv X.K (Qlv k) σ H R :=
 fun σ H R he h=>by
  obtain ⟨o,e1,p,vs,rfl,⟨ob,hp⟩,hl,ia⟩:=he.sl k _ hk;exact ⟨_,e1,p,rfl,⟨vs,.inl (.inr ⟨ob,hp⟩)⟩,Qon (σ:=σ) (Same.refl H) hp hl ia h⟩
theorem Qf2 {k:Nat} (hk:τ[k]? =some (.arg (.lst ds))): ∀ σ H R,EnvO X.K H₀ H σ τ->(∀ J H' (St:Hp->Prop),Same H H'->St H'->(∀ H1 H2,St H1->Rl m H1 H2->Same H₀ H2->St H2)->JSt X.K H₀ J St ds .any->R J H')->Qkv X.K (Qlv k) σ H R :=
 fun σ H R he h=>by
  obtain ⟨o,e1,v,rfl,iv⟩:=he.sl k _ hk;obtain ⟨p,vs,rfl,hq,ia⟩:=Wr iv;refine ⟨_,e1,p,rfl,⟨vs,he.same.seq hq⟩,h _ H (fun H2=>Same H₀ H2) (Same.refl H) he.same (fun H1 H2 a b c=>c) ⟨fun i H2 t hi=> ?_,fun i H2 v H3 t hi y=> ?_,fun i H2 t hi=> ?_⟩⟩
  ·exact (Zt (t.seq hq) (ia.same t)).go i H2 (Same.refl _) hi
  ·obtain ⟨e,d,hd,is⟩:=(Zt (t.seq hq) (ia.same t)).yld i H2 v H3 (Same.refl _) hi y;exact ⟨e,d,hd,v,rfl,is⟩
  ·exact (Zt (t.seq hq) (ia.same t)).stop i H2 (Same.refl _) hi
theorem Qf1 (hl:LFs ds=true): ∀ σ H R,EnvO X.K H₀ H σ τ->(∀ J H' (St:Hp->Prop),Same H H'->St H'->(∀ H1 H2,St H1->Rl m H1 H2->Same H₀ H2->St H2)->JSt X.K H₀ J St ds .any->R J H')->Qkv X.K (Qz2 X.K (dat τ) ds) σ H R :=
 fun σ H R he h=>⟨he.env,fun p vs ob H' n s hp ia=>⟨p,rfl,⟨vs,.inl (.inr ⟨ob,hp⟩)⟩,Qon (σ:=σ) s hp hl ia h⟩⟩
def nth (d:D) (i:Nat):D:=match d with | .tup ds=>ds.getD i .non | _=> .non
theorem put1 {i:Nat}: ∀ d∈ds,∀ (τ':List Sl) (σ:St) (H:Hp) (v:V) (Q:St->Hp->Prop),EnvO X.K H₀ H σ τ'->Is X.K H d v->(∀ σ',EnvO X.K H₀ H σ' (τ'.set i (.any d))->Q σ' H)->YG i v σ H Q :=
 fun d _ τ' σ H v Q he iv q=>q _ (he.set i ⟨v,rfl,iv⟩ fun ds e=>nomatch e)
theorem put2 {i j:Nat} (h: ∀ d∈ds,∃ a b,d= .tup [a,b]): ∀ d∈ds,∀ (τ':List Sl) (σ:St) (H:Hp) (v:V) (Q:St->Hp->Prop),EnvO X.K H₀ H σ τ'->Is X.K H d v->(∀ σ',EnvO X.K H₀ H σ' ((τ'.set i (.any (nth d 0))).set j (.any (nth d 1)))->Q σ' H)->Qui X.K 2 (Oy (YG i) (Oy (YG j) Quk)) v σ H Q :=
 fun d hd τ' σ H v Q he iv q=>by
  obtain ⟨a,b,rfl⟩:=h d hd;obtain ⟨p,vs,rfl,hq,ia⟩:=Jn iv;obtain ⟨v1,v2,rfl,i1,i2⟩:=ia.two;refine ⟨p,_,rfl,hq,rfl,v1,[v2],rfl,v2,[],rfl,rfl,?_⟩;exact q _ ((he.set (s:= .any a) i ⟨v1,rfl,i1⟩ fun ds e=>nomatch e).set (s:= .any b) j ⟨v2,rfl,i2⟩ fun ds e=>nomatch e)
theorem put3 {i j k:Nat} (h: ∀ d∈ds,∃ a b c,d= .tup [a,b,c]): ∀ d∈ds,∀ (τ':List Sl) (σ:St) (H:Hp) (v:V) (Q:St->Hp->Prop),EnvO X.K H₀ H σ τ'->Is X.K H d v->(∀ σ',EnvO X.K H₀ H σ' (((τ'.set i (.any (nth d 0))).set j (.any (nth d 1))).set k (.any (nth d 2)))->Q σ' H)->Qui X.K 3 (Oy (YG i) (Oy (YG j) (Oy (YG k) Quk))) v σ H Q :=
 fun d hd τ' σ H v Q he iv q=>by
  obtain ⟨a,b,c,rfl⟩:=h d hd;obtain ⟨p,vs,rfl,hq,ia⟩:=Jn iv;rw [Va] at ia;obtain ⟨v1,r,rfl,i1,ia⟩:=ia;obtain ⟨v2,v3,rfl,i2,i3⟩:=ia.two;refine ⟨p,_,rfl,hq,rfl,v1,_,rfl,v2,[v3],rfl,v3,[],rfl,rfl,?_⟩;exact q _ (((he.set (s:= .any a) i ⟨v1,rfl,i1⟩ fun ds e=>nomatch e).set (s:= .any b) j ⟨v2,rfl,i2⟩ fun ds e=>nomatch e).set (s:= .any c) k ⟨v3,rfl,i3⟩ fun ds e=>nomatch e)
def iterW {α:Type} (cond:α->Bool) (stp:α->α):Nat->α->α
 | 0,a=>a
 | n+1,a=>if cond a=true then iterW cond stp n (stp a) else a
theorem Qbj {α:Type} {cond:α->Bool} {stp:α->α} {Iv:α->Prop} {μ:α->Nat} (hi: ∀ a,Iv a->cond a=true->Iv (stp a)/\μ (stp a) < μ a): ∀ (n:Nat) (a:α),Iv a->μ a<=n->iterW cond stp n a=iterW cond stp (μ a) a:=by
 intro n
 induction n using Nat.strongRecOn with
 | ind n ih =>
  intro a ia hn;cases n with
  | zero=>rw [Nat.le_zero.mp hn]
  | succ n =>
   by_cases hc:cond a=true
   ·obtain ⟨i2,lt⟩:=hi a ia hc;rw [iterW,Qk hc,ih n (by omega) _ i2 (by omega)];cases hm:μ a with
    | zero=>omega
    | succ k=>rw [iterW,Qk hc,ih k (by omega) _ i2 (by omega)]
   ·rw [iterW,Qn hc];cases hm:μ a with
    | zero=>rfl
    | succ k=>rw [iterW,Qn hc]
theorem Qab {α:Type} {body:List Stmt} (f:α->List Sl) (Iv:α->Prop) (μ:α->Nat) (cond:α->Bool) (stp:α->α) (hp:PassesOwn (model X.prog X.w) X.A X.env X.xe)
  (hc: ∀ a,Iv a->PB X (dat (f a)) c (cond a)) (hb: ∀ a,Iv a->cond a=true-> ∃ n,QOs X H₀ (f a) body (.next n (f (stp a)))/\(m=true->n=true)) (hi: ∀ a,Iv a->cond a=true->Iv (stp a)/\μ (stp a) < μ a) (a0:α) (h0:Iv a0) :
  QO X H₀ (f a0) (.While c body [] pos) (.next m (f (iterW cond stp (μ a0) a0))):=by
 have hc':PT X c (fun σ H Q=> ∃ a,Iv a/\rdB X.K (dat (f a)) (cond a) σ H Q):=fun pins s σ H Q I ⟨a,ia,q⟩=>(hc a ia).pe pins s σ H Q I q
 have hb':PSs X body (fun D σ H=> ∃ a,Iv a/\cond a=true/\rdO X.K H₀ (f a) (.next m (f (stp a))) D σ H):=fun pins s σ H D I ⟨a,ia,ca,q⟩=>by
  obtain ⟨n,hq,hn⟩:=hb a ia ca;exact hq.pe pins s σ H D I ⟨q.1,fun σ' H' t=>q.2 σ' H' (t.weak hn)⟩
 refine ⟨(Qot hp hc' hb').imp fun D σ H q=> ?_⟩;refine ⟨fun k σ' H'=> ∃ a,Iv a/\μ a=k/\EnvO X.K H₀ H' σ' (f a)/\Rl m H H'/\iterW cond stp (μ a) a=iterW cond stp (μ a0) a0,⟨μ a0,a0,h0,rfl,q.1,Rl.refl H,rfl⟩,?_⟩;rintro k σ' H' ⟨a,ia,rfl,he,hm,hf⟩;refine ⟨a,ia,he.env,fun H1 s1=> ?_⟩;cases ca:cond a with
 | true =>
  obtain ⟨i2,lt⟩:=hi a ia ca;refine Qbk ⟨fun σ2 H2=>EnvO X.K H₀ H2 σ2 (f (stp a))/\Rl m H1 H2,fun σ2 H2 ⟨he2,hm2⟩=>⟨μ (stp a),lt,stp a,i2,rfl,he2,?_,?_⟩,a,ia,ca,he.step s1,fun σ3 H3 t3 he3=>⟨he3,t3⟩⟩
  ·have:=(hm.trans (Rl.of (m:=m) s1)).trans hm2;rwa [W9,W9] at this
  ·rw [<- hf];have:=Qbj hi (μ a) a ia (Q6 _);cases hma:μ a with
   | zero=>omega
   | succ k =>
    rw [iterW,Qk ca];exact (Qbj hi k (stp a) i2 (by omega)).symm
 | false =>
  refine OT (q.2 σ' H1 ?_ ?_)
  ·have:=hm.trans (Rl.of (m:=m) s1);rwa [W9] at this
  ·have e:iterW cond stp (μ a) a=a:=by
    cases hma:μ a with
    | zero=>rfl
    | succ k=>rw [iterW,Qn (by rw [ca];exact Qy)]
   rw [<- hf,e];exact he.step s1
end
section
variable {X:Cx} {H₀:Hp} {τ:List Sl} {d:D} {ds:List D} {pos:Pos}
theorem Jay {i j:Nat} {x y:Str} {p py ap cp:Pos} (hi:τ[i]? =some (.own (ds++[d]))) (hl: ∀ (j:Nat) (d:D),τ[j]? =some (.any d)->LF d=true)
  (hN:X.N.Nodup) (hy:X.N[i]? =some y:=by rfl) (hv:Vis X.env.scope y:=by first | exact QI rfl | exact QY (QI rfl) | exact QY (QY rfl)) (hdb:(y == ("__debug__" :Str))=false:=by decide) (hcd:(y == ("__classdict__" :Str))=false:=by decide)
  (hj:X.N[j]? =some x:=by rfl) (hx:Loc X.env.scope x:=by first | exact QI rfl | exact QY rfl) (hline:(ap.endLine == cp.line)=true:=by rfl) (hbase:attributeBase (.Name y py) "pop" X.env (eval (.Name y py) X.env)=eval (.Name y py) X.env:=by rfl)
  (hs:swapsWith (.Call (.Attribute (.Name y py) "pop" ap) [] [] cp) (some (.Name x p)) pos.line X.env=pure false:=by rfl) (hf:X.fn x=true \/ X.env.scope.names.lookup x=some .local:=by first | exact .inl rfl | exact .inr rfl) :
  QO X H₀ τ (.Assign [.Name x p] (.Call (.Attribute (.Name y py) "pop" ap) [] [] cp) pos) (.next false ((τ.set i (.own ds)).set j (.any d))):=by
 refine ⟨(B8 hN hj hx (Qis Z3 PySem.F.slot_list_pop PySem.F.type_list_pop Qxj (WB hy hv hdb hcd) hbase hline) hs hf).imp fun D σ H q=> ?_⟩;obtain ⟨o,e1,p,vs,rfl,n,hp,lf,ia⟩:=q.1.sl i _ hi;have hlen:=ia.length;rw [Ql,Uk] at hlen;obtain ⟨v,hv1,iv⟩:=ia.get (i:=ds.length) (d:=d) (by simp);have hm:EnvO X.K H₀ (upd H p (.lst vs.dropLast)) σ (τ.set i (.own ds)):=by
  refine q.1.mut hi e1 n hp hl ?_ ?_
  ·rw [Yt,Qv] at lf;exact lf.1
  ·have:=ia.take ds.length;rw [List.take_left] at this;rw [List.dropLast_eq_take,<- hlen];simpa using this
 have ld:LF d=true:=by
  rw [Yt,Qv] at lf;simpa [LFs] using lf.2
 refine ⟨_,e1,.inl ⟨rfl,vs,SqL.of hp⟩,p,vs,v,rfl,rfl,hp,by rw [<- hlen];simpa using hv1,?_⟩;exact q.2 _ _ (TSame.lst hp) (hm.set j ⟨v,rfl,iv.tsame (TSame.lst hp) ld⟩ fun ds e=>nomatch e)
theorem Qxc {i j:Nat} {x y:Str} {p py ap cp zp:Pos} {jj:Nat} (hi:τ[i]? =some (.own (d::ds))) (hl: ∀ (j:Nat) (d:D),τ[j]? =some (.any d)->LF d=true)
  (hN:X.N.Nodup) (hy:X.N[i]? =some y:=by rfl) (hv:Vis X.env.scope y:=by first | exact QI rfl | exact QY (QI rfl) | exact QY (QY rfl)) (hdb:(y == ("__debug__" :Str))=false:=by decide) (hcd:(y == ("__classdict__" :Str))=false:=by decide)
  (hj:X.N[j]? =some x:=by rfl) (hx:Loc X.env.scope x:=by first | exact QI rfl | exact QY rfl) (hline:(ap.endLine == cp.line)=true:=by rfl) (hbase:attributeBase (.Name y py) "pop" X.env (eval (.Name y py) X.env)=eval (.Name y py) X.env:=by rfl)
  (hse:starEach [.Constant (.int 0) jj zp] X.env=[(false,eval (.Constant (.int 0) jj zp) X.env)]:=by rfl)
  (hs:swapsWith (.Call (.Attribute (.Name y py) "pop" ap) [.Constant (.int 0) jj zp] [] cp) (some (.Name x p)) pos.line X.env=pure false:=by rfl) (hf:X.fn x=true \/ X.env.scope.names.lookup x=some .local:=by first | exact .inl rfl | exact .inr rfl) :
  QO X H₀ τ (.Assign [.Name x p] (.Call (.Attribute (.Name y py) "pop" ap) [.Constant (.int 0) jj zp] [] cp) pos) (.next false ((τ.set i (.own ds)).set j (.any d))):=by
 refine ⟨(B8 hN hj hx (Qb9 Z3 PySem.F.slot_list_pop PySem.F.type_list_pop Qq6 (WB hy hv hdb hcd) (UC Qp2 BT hse) hbase (by rw [hse];rfl) hline hse rfl) hs hf).imp fun D σ H q=> ?_⟩;obtain ⟨o,e1,p,vs,rfl,n,hp,lf,ia⟩:=q.1.sl i _ hi;rw [Va] at ia;obtain ⟨v,us,rfl,iv,ia⟩:=ia;rw [LFs,Qv] at lf;have hm:EnvO X.K H₀ (upd H p (.lst us)) σ (τ.set i (.own ds)):=q.1.mut hi e1 n hp hl lf.2 ia;refine ⟨_,e1,.inl ⟨rfl,_,SqL.of hp⟩,p,v::us,0,0,v,rfl,rfl,hp,by decide,by decide,?_,rfl,?_⟩
 ·unfold seqIndex?
  simp
 ·exact q.2 _ _ (TSame.lst hp) (hm.set j ⟨v,rfl,iv.tsame (TSame.lst hp) lf.1⟩ fun ds e=>nomatch e)
end
end L2
namespace K27
open PySem L2 RH
theorem At.lf (a:At):LF a.d=true:=by
 have:LFs (a.ts.map D.str)=true:=QU (fun _=>QT) _;simp [At.d,LF,LFs,this]
theorem Li.lf (l:Li):LF l.d=true:=by simp [Li.d,LF,LFs,At.lf]
theorem Ru.lf (r:Ru):LF r.d=true:=by
 have:LFs (r.b.map Li.d)=true:=QU Li.lf _;simp [Ru.d,LF,LFs,At.lf,this]
theorem Lk.lf (l:Lk):LF l.d=true:=by simp [Lk.d,LF,LFs]
def RsOk (rs:List Ru):Prop:=rs.length<=16/\ ∀ r∈rs,r.b.length<=4
def QB (r:Ru):List At:=r.h::r.b.map (·.a)
def Oi (rs:List Ru):List At:=rs.flatMap QB
theorem Yn {α β:Type} {f:α->List β} {n:Nat}: ∀ {l:List α},(∀ a∈l,(f a).length<=n)->(l.flatMap f).length<=n * l.length
 | [],_=>by simp
 | a::l,h=>by
  have h1:=h a Q7;have h2:=Yn (f:=f) (n:=n) (l:=l) fun b hb=>h b (Q9 _ hb)
  rw [YK,Ql,QC,Nat.mul_succ];omega
theorem Ud {α β:Type} {f:α->List β} {l:List α} {i:Nat} {a:α} (h:l[i]? =some a):(l.take (i+1)).flatMap f=(l.take i).flatMap f++f a:=by
 rw [QJ,h]
 simp
theorem Qhy {rs:List Ru} (h:RsOk rs):(Oi rs).length<=80:=by
 have:=Yn (f:=QB) (n:=5) (l:=rs) fun r hr=>by have:=h.2 r hr;simp [QB];omega
 have:=h.1;unfold Oi;omega
theorem Qdh {rs:List Ru} (h:RsOk rs):(Ji rs).length<=64:=by
 have:=Yn (f:=O4) (n:=4) (l:=rs) fun r hr=>by have:=h.2 r hr;simp [O4];omega
 have:=h.1;unfold Ji;omega
section
variable {P:Program} {w:World} {K:W.Frag} {mg:Str->Option Value} {base:Heap}
def RAtoms:List D->List D->Prop:=fun ds es=> ∃ r:Ru,ds=[r.d]/\r.b.length<=4/\es=(QB r).map At.d
theorem Qjy:Vf ["rule"] ["rule"] (Vs Qaw):=⟨rfl,rfl,rfl,by decide +kernel,rfl,by decide +kernel,by decide +kernel⟩
def sndD':D->D | .tup [_,b]=>b | d=>d
theorem Qpk (F:Fd K mg "atoms_of" Qaw ["rule"]):PrL P w K mg base "atoms_of" 1 ["rule"] RAtoms:=by
 refine Qcq (N:=["rule"]) F Qjy (Q6 _) fun f cdv A outer s H E ds es hr hR _=> ?_
 obtain ⟨r,rfl,hl,rfl⟩:=hR;have e:(QB r).map At.d=[r.h.d]++(r.b.map Li.d).map sndD':=by
  rw [Qo];simp [QB,sndD',Li.d,QK]
 rw [e];refine Vz (Ga (Qc1 (xs:=[r.h.d]) (PDL.pd (Wf (Vc (QR (da:= .tup [r.h.d,.tup (r.b.map Li.d)]) (Vv 0 rfl) Vi at0) Vn) (Vl (by simp)))) (PDL.pd (Z6 (f:=sndD') rfl (Yp (QR (da:= .tup [r.h.d,.tup (r.b.map Li.d)]) (d:= .tup (r.b.map Li.d)) (Vv 0 rfl) Vi at1)) (Vl (by rw [Q0];omega)) fun d hd cl C s H ex=> ?_)) (Vl (by simp;omega))));obtain ⟨l,_,rfl⟩:=Q3.mp hd;exact QR (da:= .tup [.str (if l.y then "yes" else "no"),l.a.d]) (d:=l.a.d) (Vv 0 rfl) Vi at1
def RAll:List D->List D->Prop:=fun ds es=> ∃ rs:List Ru,ds=[.tup (rs.map Ru.d)]/\RsOk rs/\es=(Oi rs).map At.d
theorem Qoi:Vf ["rules", "found", "rule"] ["rules"] (Vs GD):=⟨rfl,rfl,rfl,by decide +kernel,rfl,by decide +kernel,by decide +kernel⟩
theorem RsOk.take {rs:List Ru} (h:RsOk rs) (i:Nat):RsOk (rs.take i):=⟨Qz (by rw [Qj];omega) h.1,fun r hr=>h.2 r (QW hr)⟩
theorem Zr {α:Type} {f:α->D} {l:List α} {i:Nat} {d:D} (h:(l.map f)[i]? =some d): ∃ a,l[i]? =some a/\d=f a:=by
 rw [Q8] at h;cases e:l[i]? with
 | none=>rw [e] at h;cases h
 | some a =>
  rw [e] at h;exact ⟨a,rfl,(Qt h).symm⟩
theorem Qxa (F:Fd K mg "all_atoms_of" GD ["rules"]) (G:PrL P w K mg base "atoms_of" 1 ["rule"] RAtoms):PrL P w K mg base "all_atoms_of" 2 ["rules"] RAll:=by
 refine Qcq (N:=["rules", "found", "rule"]) F Qoi (by decide) fun f cdv A outer s H E ds es hr hR _=> ?_
 obtain ⟨rs,rfl,ok,rfl⟩:=hR;have hlf:LFs (rs.map Ru.d)=true:=QU Ru.lf _;refine Wa (W5 (i:=1) (Wf Vn (Vl (by decide))) rfl Qoi.nd) ?_;have hlast:(Oi rs).map At.d=(Oi (rs.take (rs.map Ru.d).length)).map At.d:=by rw [Q0,QF]
 refine Zn (m:=false) (Qps (j:=2) (ds:=rs.map Ru.d) (m:=false) (fun i=>[.arg (.tup (rs.map Ru.d)),.own ((Oi (rs.take i)).map At.d),.no]) Qw rfl (Vv 0 rfl) hlf rfl (fun i d hi=>⟨false,?_,fun h=>nomatch h⟩) Qoi.nd) ?_
 ·obtain ⟨r,hri,rfl⟩:=Zr hi;have hrm:=ok.2 r (Q4 hri);have e:(Oi (rs.take (i+1))).map At.d=(Oi (rs.take i)).map At.d++(QB r).map At.d:=by
   unfold Oi;rw [Ud hri,QE]
  rw [e];have h1:=Qhy (ok.take i);refine WG (m:=false) (Vz (Qgo (i:=1) (es:=(QB r).map At.d) rfl (ZS G hr (Vc (Vv 2 rfl) Vn) ⟨r,rfl,hrm,rfl⟩) (QU At.lf _) (AL.h ⟨Ru.lf r,trivial⟩) (Vl (by simp [QB];omega)))) ?_ (fun h=>nomatch h);exact WkI.wk (.keep (.keep (.no .nil)))
 ·rw [hlast];exact Vz (G0 (i:=1) rfl)
def RLinks:List D->List D->Prop:=fun ds es=> ∃ rs:List Ru,ds=[.tup (rs.map Ru.d)]/\RsOk rs/\es=(Ji rs).map Lk.d
abbrev Qq0:List Str:=["rules", "links", "head", "body"]
theorem OY:Vf Qq0 ["rules"] (Vs Qer):=⟨rfl,rfl,rfl,by decide +kernel,rfl,by decide +kernel,by decide +kernel⟩
def Qgy (hk:Str):D->D->D:=fun u v=>match u,v with | .str m,.tup (.str k::_)=> .tup [.str k,.str hk,.int (if m= "yes" then 0 else 1)] | _,_=> .non
theorem Qgx (r:Ru):(r.b.map fun l=>((.str (if l.y then "yes" else "no"):D),l.a.d)).map (fun p=>Qgy r.h.k p.1 p.2)=(O4 r).map Lk.d:=by
 unfold O4;rw [Qo,Qo];refine QQ fun l _=> ?_
 show Qgy r.h.k (.str (if l.y then "yes" else "no")) l.a.d=Lk.d ⟨l.a.k,r.h.k,if l.y then 0 else 1⟩;have hne: ¬ (("no" :Str)= "yes"):=by decide
 cases h:l.y
 ·simp [Qgy,Lk.d,At.d,hne]
 ·simp [Qgy,Lk.d,At.d]
theorem Qpg (F:Fd K mg "links_of" Qer ["rules"]):PrL P w K mg base "links_of" 1 ["rules"] RLinks:=by
 refine Qcq (N:=Qq0) F OY (by decide) fun f cdv A outer s H E ds es hr hR _=> ?_
 obtain ⟨rs,rfl,ok,rfl⟩:=hR;have hlf:LFs (rs.map Ru.d)=true:=QU Ru.lf _;refine Wa (W5 (i:=1) (Wf Vn (Vl (by decide))) rfl OY.nd) ?_;have hlast:(Ji rs).map Lk.d=(Ji (rs.take (rs.map Ru.d).length)).map Lk.d:=by rw [Q0,QF]
 have hp: ∀ d∈rs.map Ru.d,∃ a b,d= .tup [a,b]:=fun d hd=>by
  obtain ⟨r,_,rfl⟩:=Q3.mp hd;exact ⟨_,_,rfl⟩
 refine Zn (m:=false) (Zc (ds:=rs.map Ru.d) (m:=false) (put:=fun τ d=>(τ.set 2 (.any (nth d 0))).set 3 (.any (nth d 1))) (fun i=>[.arg (.tup (rs.map Ru.d)),.own ((Ji (rs.take i)).map Lk.d),.no,.no]) Qw rfl (UX (Vv 0 rfl).pe)
  (Yi rfl (Vh (Ja (i:=2) OY.nd rfl (QY rfl)) (Vh (Ja (i:=3) OY.nd rfl (QI rfl)) Zm))) (put2 hp) (Qf0 hlf) rfl (fun i d hi=>⟨false,?_,fun h=>nomatch h⟩)) ?_
 ·obtain ⟨r,hri,rfl⟩:=Zr hi;have hrm:=ok.2 r (Q4 hri);have e:(Ji (rs.take (i+1))).map Lk.d=(Ji (rs.take i)).map Lk.d++(O4 r).map Lk.d:=by
   unfold Ji;rw [Ud hri,QE]
  rw [e];have h1:=Qdh (ok.take i);have hbl:r.b.map Li.d=(r.b.map fun l=>((.str (if l.y then "yes" else "no"):D),l.a.d)).map fun u=> .tup [u.1,u.2]:=by
   rw [Qo];rfl
  show QOs _ _ [.arg (.tup (rs.map Ru.d)),.own ((Ji (rs.take i)).map Lk.d),.any r.h.d,.any (.tup (r.b.map Li.d))] _ _;rw [hbl,<- Qgx];refine WG (m:=false) (Vz (Qgo (i:=1) rfl (Qhe (f:=Qgy r.h.k) (hnd:=by show (["mark", "atom", "rules", "links", "head", "body"]:List Str).Nodup;decide) rfl (Vv 3 rfl) (Vl (by simp;omega)) fun u v hm cl C s H ex=> ?_) (by rw [Qgx];exact QU Lk.lf _) (AL.h ⟨At.lf _,?_,trivial⟩) (Vl (by simp;omega)))) ?_ (fun h=>nomatch h)
  ·obtain ⟨l,_,e⟩:=Q3.mp hm;cases e;show PD _ _ _ (.tup [.str l.a.k,.str r.h.k,.int (if (if l.y then ("yes" :Str) else "no")= "yes" then 0 else 1)]);refine Vp (Vc (QR (da:= .tup [.str l.a.k,.tup (l.a.ts.map .str)]) (Vv 1 rfl) Vi at0) (Vc (QR (da:= .tup [.str r.h.k,.tup (r.h.ts.map .str)]) (Vv 4 rfl) Vi at0) (Vc (Qya (k:=decide ((if l.y then ("yes" :Str) else "no")= "yes")) (Qhu (Vv 0 rfl) Vt) (fun h=> ?_) (fun h=> ?_)) Vn))) (Vl (by simp))
   ·rw [Qk (Jx h)];exact Vi
   ·rw [Qn (B1 h)];exact Vi
  ·rw [<- hbl];have:LFs (r.b.map Li.d)=true:=QU Li.lf _;simp [LF,this]
  ·exact WkI.wk (.keep (.keep (.no (.no .nil))))
 ·rw [hlast];exact Vz (G0 (i:=1) rfl)
end
theorem Qh3 {α:Type} {cond:α->Bool} {stp:α->α} {Iv:α->Prop} (hi: ∀ a,Iv a->cond a=true->Iv (stp a)): ∀ (n:Nat) (a:α),Iv a->Iv (iterW cond stp n a)
 | 0,a,h=>h
 | n+1,a,h=>by
  rw [iterW];split
  ·rename_i hc;exact Qh3 hi n _ (hi a h hc)
  ·exact h
def Bj (p:List Str):D:= .tup (p.map .str)
theorem Qs5 (p:List Str):LF (Bj p)=true:=by
 have:LFs (p.map D.str)=true:=QU (fun _=>QT) _;simp [Bj,LF,this]
section
variable {P:Program} {w:World} {K:W.Frag} {mg:Str->Option Value} {base:Heap}
def RPath:List D->D->Prop:=fun ds d=> ∃ (ls:List Lk) (start goal:Str) (g:Str->Nat),ds=[.lst (ls.map Lk.d),.str start,.str goal]/\ls.length<=64/\Rk ls g/\g goal < g start/\d= .tup []
abbrev Qve:List Str:=["links", "start", "goal", "paths", "waiting", "kind", "above"]
theorem Qau:Vf Qve ["links", "start", "goal"] (Vs Qk4):=⟨rfl,rfl,rfl,by decide +kernel,rfl,by decide +kernel,by decide +kernel⟩
def slP (ls:List Lk) (start goal:Str) (x5 x6:Sl) (st:PS):List Sl:=[.arg (.lst (ls.map Lk.d)),.arg (.str start),.arg (.str goal),.odc st.ks (st.vs.map Bj),.own (st.wl.map .str),x5,x6]
def OC (goal:Str) (st:PS):Bool:= !(st.wl.map D.str).isEmpty && !decide (goal∈st.ks)
def Qqm (kind:Str):D->Bool | .tup (.str k::_)=>decide (k=kind) | _=>false
def Qrq:D->D | .tup [_,a,_]=>a | d=>d
theorem Qni (ls:List Lk) (kind:Str):((ls.map Lk.d).filter (Qqm kind)).map Qrq=(aboves ls kind).map .str:=by
 unfold aboves;rw [Qcl,Qo,Qo];have e:(Qqm kind ∘ Lk.d)=fun l=>decide (l.k=kind):=rfl
 rw [e];rfl
theorem Qqf {ls:List Lk} {g:Str->Nat} {start kind:Str} {st:PS} (h:PIv ls g start st) (hk:kind∈st.ks): ∃ i:Nat,st.ks[i]? =some kind/\(st.vs.map Bj)[i]? =some (Bj (ZR st.ks st.vs kind)):=by
 have hi:st.ks.idxOf kind < st.ks.length:=Qx.mpr hk;refine ⟨st.ks.idxOf kind,by rw [Qb hi,J0 hi],?_⟩;unfold ZR;have h2:st.ks.idxOf kind < st.vs.length:=by rw [<- h.len];exact hi
 rw [Q8,Qb h2,Qm,Qb h2];rfl
set_option maxHeartbeats 1000000 in
theorem Qth (F:Fd K mg "path_between" Qk4 ["links", "start", "goal"]):PrD P w K mg base "path_between" 1 ["links", "start", "goal"] RPath:=by
 refine Zi (N:=Qve) F Qau (by decide) fun f cdv A outer s H E ds d hr hR _=> ?_
 obtain ⟨ls,start,goal,g,rfl,hl,hg,hlt,rfl⟩:=hR;have hu:=Bv hr;refine Vq (m:=true) (Ua (i:=3) (Qy5 (Vv 1 rfl) (Vp (Vc (Vv 1 rfl) Vn) (Vl (by simp))) (by simp [LF,LFs])) (by simp [LFs,LF]) Qau.nd) ?_;refine Vq (m:=true) (W5 (i:=4) (Wf (Vc (Vv 1 rfl) Vn) (Vl (by simp))) (by simp [LFs,LF]) Qau.nd) ?_;show QOs _ _ (slP ls start goal .no .no ⟨[start],[[start]],[start]⟩) _ _;have step: ∀ st,PIv ls g start st->OC goal st=true->PIv ls g start (YN ls st)/\muP ls (YN ls st) < muP ls st:=fun st h hc=>by
  refine Qo7 hg h fun z=> ?_
  unfold OC at hc;rw [z] at hc;simp at hc
 refine Vq (m:=false) (Qab (m:=false) (slP ls start goal .no .no) (PIv ls g start) (muP ls) (OC goal) (YN ls) Qw (fun st h=> ?_) (fun st h hc=>⟨false,?_,fun z=>nomatch z⟩) step ⟨[start],[[start]],[start]⟩ (Qg7 ls g start)) ?_
 ·refine Y3 (Qri (Gp (Vv 4 rfl)) (fun h1=> ?_) (fun h1=> ?_))
  ·have e:OC goal st= !decide (goal∈st.ks):=by unfold OC;rw [h1,Y0]
   rw [e];exact Ze (Qhw hu (Vv 2 rfl) (Vv 3 rfl))
  ·unfold OC;rw [h1,B3]
 ·cases e:st.wl with
  | nil=>unfold OC at hc;rw [e] at hc;simp at hc
  | cons kind r =>
   have hk:kind∈st.ks:=h.wk kind (by rw [e];exact Q7);have h0:PIv ls g start ⟨st.ks,st.vs,r⟩:=⟨h.len,h.nd,fun k hk'=>h.wk k (by rw [e];exact Q9 _ hk'),h.ge,h.sub,h.pl,by have:=h.wn;rw [e] at this;simp at this;show r.length<=st.ks.length;omega⟩;have es:YN ls st=(aboves ls kind).foldl (Zl kind) ⟨st.ks,st.vs,r⟩:=by unfold YN;rw [e]
   have hwl:st.wl.map D.str= .str kind::r.map .str:=by rw [e];rfl
   refine WG (m:=false) (τ1:=slP ls start goal (.any (.str kind)) .no (YN ls st)) ?_ (WkI.wk (.keep (.keep (.keep (.keep (.keep (.no (.keep .nil)))))))) (fun z=>nomatch z);have hsl:slP ls start goal .no .no st=[.arg (.lst (ls.map Lk.d)),.arg (.str start),.arg (.str goal),.odc st.ks (st.vs.map Bj),.own (.str kind::r.map .str),.no,.no]:=by
    unfold slP;rw [hwl]
   rw [hsl];refine BZ (m:=false) (Qxc (i:=4) (j:=5) rfl (AL.h trivial) Qau.nd) ?_;show QOs _ _ (slP ls start goal (.any (.str kind)) .no ⟨st.ks,st.vs,r⟩) _ _;rw [es];have hlast:(aboves ls kind).foldl (Zl kind) ⟨st.ks,st.vs,r⟩=((aboves ls kind).take ((aboves ls kind).map D.str).length).foldl (Zl kind) ⟨st.ks,st.vs,r⟩:=by rw [Q0,QF]
   rw [hlast];refine Vz (Zc (ds:=(aboves ls kind).map .str) (m:=false) (put:=fun τ d=>τ.set 6 (.any d)) (fun i=>slP ls start goal (.any (.str kind)) .no (((aboves ls kind).take i).foldl (Zl kind) ⟨st.ks,st.vs,r⟩)) Qw rfl
    (WT (U7 (ds:=(aboves ls kind).map .str) ?comp (QU (fun _=>QT) _))) (Ja (i:=6) Qau.nd rfl (QI rfl)) put1 (Qf1 (QU (fun _=>QT) _)) rfl (fun i d hi=>⟨false,?body,fun z=>nomatch z⟩))
   case comp =>
    rw [<- Qni];refine Qfn (p:=Qqm kind) (f:=Qrq) rfl (YH (Vv 0 rfl)) (Vl (by rw [Q0];omega)) (fun d hd cl C s H ex=> ?_) (fun d hd hp cl C s H ex=> ?_)
    ·obtain ⟨l,_,rfl⟩:=Q3.mp hd;exact Qjv (Qhu (QR (da:= .tup [.str l.k,.str l.a,.int l.s]) (Vv 0 rfl) Vi at0) (Vv 6 rfl))
    ·obtain ⟨l,_,rfl⟩:=Q3.mp hd;exact QR (da:= .tup [.str l.k,.str l.a,.int l.s]) (Vv 0 rfl) Vi at1
   case body =>
    obtain ⟨a,hai,rfl⟩:=Zr hi;obtain ⟨hI,_,hkI⟩:=Qbt (as:=(aboves ls kind).take i) h0 hk fun b hb=>Qe9 hg b (QW hb)
    have e1:((aboves ls kind).take (i+1)).foldl (Zl kind) ⟨st.ks,st.vs,r⟩=Zl kind (((aboves ls kind).take i).foldl (Zl kind) ⟨st.ks,st.vs,r⟩) a:=by
     rw [QJ,hai,Wm];rfl
    rw [e1];generalize hst:((aboves ls kind).take i).foldl (Zl kind) ⟨st.ks,st.vs,r⟩=sti at hI hkI;refine WG (m:=false) (τ1:=slP ls start goal (.any (.str kind)) (.any (.str a)) (Zl kind sti a)) ?_ (WkI.wk (.keep (.keep (.keep (.keep (.keep (.keep (.no .nil)))))))) (fun z=>nomatch z);show QOs _ _ (slP ls start goal (.any (.str kind)) (.any (.str a)) sti) _ _;have hle:=hI.le;refine Vz (JT (Qhw hu (Vv 6 rfl) (Vv 3 rfl)) (fun h1=> ?_) (fun h1=> ?_))
    ·have hna:a ∉ sti.ks:=by simpa using h1
     have e2:Zl kind sti a=⟨sti.ks++[a],sti.vs++[ZR sti.ks sti.vs kind++[a]],sti.wl++[a]⟩:=Qn hna;obtain ⟨j,j1,j2⟩:=Qqf hI hkI;have hpl:(ZR sti.ks sti.vs kind).length<=65:=by
      rw [Q8] at j2;cases e3:sti.vs[j]? with
      | none=>rw [e3] at j2;cases j2
      | some q =>
       rw [e3] at j2;have e4:Bj q=Bj (ZR sti.ks sti.vs kind):=Qt j2;have e5:q.length=(ZR sti.ks sti.vs kind).length:=by
        have:=JQ (fun d=>match d with | D.tup ds=>ds.length | _=>0) e4;simpa [Bj] using this
       have:=hI.pl q (Q4 e3);omega
     have hK:J6 sti.ks a=sti.ks++[a]:=Qn hna;have hV:putVs sti.ks (sti.vs.map Bj) a (.tup ((ZR sti.ks sti.vs kind).map .str++[.str a]))=sti.vs.map Bj++[.tup ((ZR sti.ks sti.vs kind).map .str++[.str a])]:=U3 (by simp [hI.len]) hna;have hend:slP ls start goal (.any (.str kind)) (.any (.str a)) ⟨sti.ks++[a],sti.vs++[ZR sti.ks sti.vs kind++[a]],sti.wl++[a]⟩=[.arg (.lst (ls.map Lk.d)),.arg (.str start),.arg (.str goal),.odc (J6 sti.ks a) (putVs sti.ks (sti.vs.map Bj) a (.tup ((ZR sti.ks sti.vs kind).map .str++[.str a]))),.own (sti.wl.map .str++[.str a]),.any (.str kind),.any (.str a)]:=by
      rw [hK,hV];simp [slP,Bj]
     have hlf:LF (.tup ((ZR sti.ks sti.vs kind).map D.str++[D.str a]))=true:=by
      have:=Qs5 (ZR sti.ks sti.vs kind++[a]);simpa [Bj] using this
     have hwn:=hI.wn;rw [e2,hend];exact BZ (m:=false) (O0 (i:=3) hu rfl (Vv 6 rfl) (UH (Qfp (d:= .tup ((ZR sti.ks sti.vs kind).map .str)) hu (Vv 3 rfl) (Vv 5 rfl) j1 j2) (Vp (Vc (Vv 6 rfl) Vn) (Vl (by simp))) (Vl (by simp;omega))) hlf (AL.h ⟨QT,QT,trivial⟩) (QZ hle (QZ (by omega:ls.length+1<=65) (by rw [QP];decide))))
      (Vz (Zo (i:=4) rfl (Vv 6 rfl) QT (AL.h ⟨QT,QT,trivial⟩) (QZ (by rw [Q0];omega:(sti.wl.map D.str).length<=65) (by rw [QP];decide))))
    ·have hia:a∈sti.ks:=by simpa using h1
     have e2:Zl kind sti a=sti:=Qk hia;rw [e2];exact WG (m:=true) JS (Wk.refl _) (fun z=>rfl)
 ·generalize hfin:iterW (OC goal) (YN ls) (muP ls ⟨[start],[[start]],[start]⟩) ⟨[start],[[start]],[start]⟩=fin;have hI:PIv ls g start fin:=by
   rw [<- hfin];exact Qh3 (fun a ha hc=>(step a ha hc).1) _ _ (Qg7 ls g start)
  have hno:goal ∉ fin.ks:=fun z=>by
   have:=hI.ge goal z;omega
  exact Vz (Jv (Qc6 hu (Vv 3 rfl) (Vv 2 rfl) (Vp Vn (Vl (by simp))) hno))
def RRing:List D->D->Prop:=fun ds d=> ∃ (ls:List Lk) (g:Str->Nat),ds=[.lst (ls.map Lk.d)]/\ls.length<=64/\Rk ls g/\d= .tup []
abbrev Qvd:List Str:=["links", "kind", "above", "step", "path"]
theorem Qat:Vf Qvd ["links"] (Vs Qk3):=⟨rfl,rfl,rfl,by decide +kernel,rfl,by decide +kernel,by decide +kernel⟩
theorem trip (ls:List Lk): ∀ d∈ls.map Lk.d,∃ a b c,d= .tup [a,b,c]:=fun d hd=>by
 obtain ⟨l,_,rfl⟩:=Q3.mp hd;exact ⟨_,_,_,rfl⟩
theorem Qtg (F:Fd K mg "ring_of" Qk3 ["links"]) (G:PrD P w K mg base "path_between" 1 ["links", "start", "goal"] RPath):PrD P w K mg base "ring_of" 2 ["links"] RRing:=by
 refine Zi (N:=Qvd) F Qat (by decide) fun f cdv A outer s H E ds d hr hR _=> ?_
 obtain ⟨ls,g,rfl,hl,hg,rfl⟩:=hR;refine Vq (m:=true) (Zc (ds:=ls.map Lk.d) (m:=true) (put:=fun τ d=>((τ.set 1 (.any (nth d 0))).set 2 (.any (nth d 1))).set 3 (.any (nth d 2))) (fun i=>[.arg (.lst (ls.map Lk.d)),.no,.no,.no,.no]) Qw rfl (WT (WB (i:=0) rfl (QI rfl)))
  (Yi rfl (Vh (Ja (i:=1) Qat.nd rfl (QI rfl)) (Vh (Ja (i:=2) Qat.nd rfl (QI rfl)) (Vh (Ja (i:=3) Qat.nd rfl (QI rfl)) Zm)))) (put3 (trip ls)) (Qf2 (k:=0) rfl) rfl (fun i d hi=>⟨true,?_,fun h=>h⟩)) (Vz (Jv (Vp Vn (Vl (by simp)))))
 obtain ⟨l,hli,rfl⟩:=Zr hi;have hlm:=Q4 hli;show QOs _ _ [.arg (.lst (ls.map Lk.d)),.any (.str l.k),.any (.str l.a),.any (.int l.s),.no] _ _;refine WG (m:=true) (τ1:=[.arg (.lst (ls.map Lk.d)),.any (.str l.k),.any (.str l.a),.any (.int l.s),.any (.tup [])]) ?_ (WkI.wk (.keep (.no (.no (.no (.no .nil)))))) (fun h=>h);refine Wa (Jf (i:=4) (d:= .tup []) (Qya (Qht (Vv 3 rfl) Vi) (fun h=> ?_) (fun h=>Vp Vn (Vl (by simp)))) Qat.nd) ?_
 rotate_left
 ·exact Vz (JT (k:=false) (Qvo (ds:=[]) (Vv 4 rfl)) (fun h=>nomatch h) (fun _=>JS))
 have h1:=Jx h;refine Jy G hr (Vc (Vv 0 rfl) (Vc (Vv 2 rfl) (Vc (Vv 1 rfl) Vn))) ⟨ls,l.a,l.k,g,rfl,hl,hg,?_,rfl⟩;have:=hg l hlm;omega
end
def Zs (rs:List Ru):List Str:=(Oi rs).map (·.k)
def zeros (rs:List Ru):List D:=(Oi rs).map fun _=> .int 0
def K0 (rs:List Ru):List Str:=(Je [] [] (Zs rs) (zeros rs)).1
theorem Qde {α:Type}: ∀ {ks:List Str} {ds:List α} {a:List Str} {b:List α} {k:Str},ks.length=ds.length->(k∈(Je a b ks ds).1 ↔ k∈a \/ k∈ks)
 | [],ds,a,b,k,_=>by simp [Je]
 | x::ks,d::ds,a,b,k,h=>by
  rw [Je,Qde (by simpa using h)];have:k∈J6 a x ↔ k∈a \/ k=x:=by
   unfold J6;split
   ·rename_i hm;constructor
    ·exact .inl
    ·rintro (z | rfl)
     ·exact z
     ·exact hm
   ·simp
  rw [this,Qd,or_assoc]
 | _::_,[],_,_,_,h=>by simp at h
theorem Qd4 {α:Type} {p:α->Prop}: ∀ {a:List Str} {b:List α} {k:Str} {x:α},(∀ y∈b,p y)->p x-> ∀ y∈putVs a b k x,p y
 | [],b,k,x,_,hx,y,hy=>by
  simp only [putVs] at hy;rw [Qs.mp hy];exact hx
 | c::a,[],k,x,_,hx,y,hy=>by
  simp only [putVs] at hy;rw [Qs.mp hy];exact hx
 | c::a,d::b,k,x,hb,hx,y,hy=>by
  simp only [putVs] at hy;split at hy
  ·rcases Qd.mp hy with rfl | hy
   ·exact hx
   ·exact hb y (Q9 _ hy)
  ·rcases Qd.mp hy with rfl | hy
   ·exact hb _ Q7
   ·exact Qd4 (fun z hz=>hb z (Q9 _ hz)) hx y hy
theorem Qdf {α:Type} {p:α->Prop}: ∀ {ks:List Str} {ds:List α} {a:List Str} {b:List α},(∀ y∈b,p y)->(∀ y∈ds,p y)-> ∀ y∈(Je a b ks ds).2,p y
 | [],ds,a,b,hb,_=>by simpa [Je] using hb
 | _::_,[],a,b,hb,_=>by simpa [Je] using hb
 | x::ks,d::ds,a,b,hb,hd=>by
  rw [Je];exact Qdf (Qd4 hb (hd d Q7)) fun y hy=>hd y (Q9 _ hy)
theorem Qvu (rs:List Ru):(K0 rs).Nodup:=(GH (ks:=Zs rs) (ds:=zeros rs) (a:=[]) (b:=[]) rfl Wc).2
theorem Qjo {rs:List Ru} {k:Str}:k∈K0 rs ↔ k∈Zs rs:=by
 unfold K0;rw [Qde (by simp [Zs,zeros])]
 simp
theorem Quy (rs:List Ru):(Je [] [] (Zs rs) (zeros rs)).2=(K0 rs).map fun _=> .int 0:=by
 have h1: ∀ y∈(Je [] [] (Zs rs) (zeros rs)).2,y= .int 0:=Qdf (fun y h=>nomatch h) fun y hy=>by
  obtain ⟨_,_,rfl⟩:=Q3.mp hy;rfl
 have h2:=(GH (ks:=Zs rs) (ds:=zeros rs) (a:=[]) (b:=[]) rfl Wc).1;rw [List.eq_replicate_of_mem h1,<- h2];unfold K0;rw [List.map_const']
theorem U4 {f:Str->Nat} {k:Str} {n:Nat}: ∀ {ks:List Str},ks.Nodup->k∈ks->putVs ks (ks.map fun x=>(.int (f x):D)) k (.int n)=ks.map fun x=> .int (Yf f k n x)
 | [],_,h=>by cases h
 | a::ks,nd,h=>by
  have nd':=WR.mp nd;rw [Qp,putVs,Qp]
  by_cases e:a=k
  ·subst e;rw [Qk rfl];have:Yf f a n a=n:=Qk rfl;rw [this];congr 1;refine QQ fun x hx=> ?_
   have:Yf f a n x=f x:=Qn fun z:x=a=>nd'.1 (by rw [<- z];exact hx)
   rw [this]
  ·rw [Qn e,U4 nd'.2 ((Qd.mp h).resolve_left fun z=>e z.symm)];have:Yf f k n a=f a:=Qn e;rw [this]
theorem Qba {α:Type} (f:α->Str) (g:α->D) (l:List α):JH (l.map f) (l.map g)=l.map fun a=> .tup [.str (f a),g a]:=by
 unfold JH;rw [List.zipWith_map]
 induction l with
 | nil=>rfl
 | cons a l ih=>simp [ih]
theorem Qgw {rs:List Ru}: ∀ l∈Ji rs,l.k∈K0 rs/\l.a∈K0 rs/\(l.s=0 \/ l.s=1):=fun l hl=>by
 obtain ⟨r,hr,b,hb,rfl⟩:=O3 hl;rw [Qjo,Qjo];refine ⟨Q3.mpr ⟨b.a,JR.mpr ⟨r,hr,Q9 _ (Q3.mpr ⟨b,hb,rfl⟩)⟩,rfl⟩,Q3.mpr ⟨r.h,JR.mpr ⟨r,hr,Q7⟩,rfl⟩,?_⟩;show (if b.y then 0 else 1)=0 \/ (if b.y then 0 else 1)=1;cases b.y
 ·exact .inr rfl
 ·exact .inl rfl
noncomputable def Qum (rs:List Ru):(Str->Nat)×Bool:=by
 classical exact if h: ∃ g,Rk (Ji rs) g then iterW (·.2) (pass (Ji rs)) (muL (K0 rs) h.choose (fun _=>0,true)) (fun _=>0,true) else (fun _=>0,false)
noncomputable def lev (rs:List Ru):Str->Nat:=(Qum rs).1
theorem Qlx (ls:List Lk):LIv ls (fun _=>0,true):=⟨fun g _ k=>Jd _,fun h=>nomatch h⟩
theorem hu22 {A:Around} {k:Nat} (hr:Room k A):A.units+22 < cLine:=by have:=hr.un;omega
noncomputable def Qzs (rs:List Ru):List D:=(K0 rs).map fun k=> .int (lev rs k)
theorem Qly (ks:List Str) (f:Str->Nat):Srt2 (JH ks (ks.map fun k=> .int (f k))):=by
 have e:JH ks (ks.map fun k=>(.int (f k):D))=ks.map fun k=> .tup [.str k,.int (f k)]:=by
  have:=Qba (fun k:Str=>k) (fun k=>(.int (f k):D)) ks;simpa using this
 rw [e];refine .inl ⟨fun d hd=> ?_,fun d hd d' hd'=> ?_⟩
 ·obtain ⟨k,_,rfl⟩:=Q3.mp hd;exact ⟨k,[.int (f k)],rfl,by simp [keyOks,keyOk],by simp [deps,dep]⟩
 ·obtain ⟨k,_,rfl⟩:=Q3.mp hd;obtain ⟨k',_,rfl⟩:=Q3.mp hd';simp [cmb,cmbs]
section
variable {P:Program} {w:World} {K:W.Frag} {mg:Str->Option Value} {base:Heap}
def RLev:List D->D->Prop:=fun ds d=> ∃ rs:List Ru,ds=[.tup (rs.map Ru.d)]/\RsOk rs/\(∃ g,Rk (Ji rs) g)/\(K0 rs).length < 64/\d= .tup (U0 (JH (K0 rs) (Qzs rs)))
abbrev Qzn:List Str:=["rules", "links", "ring", "levels", "risen", "kind", "above", "step", "least"]
theorem US:Vf Qzn ["rules"] (Vs Qa3):=⟨rfl,rfl,rfl,by decide +kernel,rfl,by decide +kernel,by decide +kernel⟩
def slL (rs:List Ru) (x5 x6 x7 x8:Sl) (st:(Str->Nat)×Bool):List Sl:=[.arg (.tup (rs.map Ru.d)),.flt ((Ji rs).map Lk.d),.any (.tup []),.odc (K0 rs) ((K0 rs).map fun k=> .int (st.1 k)),.any (.bl st.2),x5,x6,x7,x8]
theorem Qvs {rs:List Ru} {k:Str} (f:Str->Nat) (h:k∈K0 rs): ∃ i:Nat,(K0 rs)[i]? =some k/\((K0 rs).map fun k=>(.int (f k):D))[i]? =some (.int (f k)):=by
 obtain ⟨i,hi⟩:=List.mem_iff_getElem?.mp h;exact ⟨i,hi,by rw [Q8,hi];rfl⟩
set_option maxHeartbeats 2000000 in
theorem Qmf (T:Txt K mg) (F:Fd K mg "levels_of" Qa3 ["rules"]) (G1:PrL P w K mg base "links_of" 1 ["rules"] RLinks) (G2:PrD P w K mg base "ring_of" 2 ["links"] RRing) (G3:PrL P w K mg base "all_atoms_of" 2 ["rules"] RAll):PrD P w K mg base "levels_of" 3 ["rules"] RLev:=by
 refine Zi (N:=Qzn) F US (by decide) fun f cdv A outer s H E ds d hr hR _=> ?_
 obtain ⟨rs,rfl,ok,hg,hK,rfl⟩:=hR;have hu:=Bv hr;have hll:=Qdh ok;have hal:=Qhy ok;refine Vq (m:=true) (Bs (i:=1) (ZS G1 (hr.mono (by decide)) (Vc (Vv 0 rfl) Vn) ⟨rs,rfl,ok,rfl⟩) (QU Lk.lf _) US.nd) ?_;refine Vq (m:=true) (Jf (i:=2) (d:= .tup []) (Jy G2 hr (Vc (Vv 1 rfl) Vn) ⟨Ji rs,hg.choose,rfl,hll,hg.choose_spec,rfl⟩) US.nd) ?_;refine Vq (m:=true) (JT (k:=false) (Qvo (ds:=[]) (Vv 2 rfl)) (fun h=>nomatch h) (fun _=>JS)) ?_;refine Vq (m:=true) (Ua (i:=3) (ks:=K0 rs) (ds:=(K0 rs).map fun _=> .int 0) ?dict (QU (fun _=>WN) _) US.nd) ?_
 case dict =>
  rw [<- Quy];refine Ql0 (ks:=Zs rs) (ds:=zeros rs) rfl T.bDct (PDL.pd ?_) (by simp [Zs,zeros]) (by simp [Zs];omega) (QU (fun _=>WN) _);have e:JH (Zs rs) (zeros rs)=((Oi rs).map At.d).map (fun d=> .tup [nth d 0,.int 0]):=by
   unfold Zs zeros;rw [Qba,Qo];rfl
  rw [e];refine Z6 rfl (YH (PDL.pd (ZS G3 hr (Vc (Vv 0 rfl) Vn) ⟨rs,rfl,ok,rfl⟩))) (Vl (by simp;omega)) fun d hd cl C s H ex=> ?_
  obtain ⟨a,_,rfl⟩:=Q3.mp hd;exact Vp (Vc (QR (da:= .tup [.str a.k,.tup (a.ts.map .str)]) (Vv 0 rfl) Vi at0) (Vc Vi Vn)) (Vl (by simp))
 refine Vq (m:=true) (Jf (i:=4) (d:= .bl true) OV US.nd) ?_;have hK2: ∀ l∈Ji rs,l.a∈K0 rs:=fun l hl=>(Qgw l hl).2.1
 have efin:Qum rs=iterW (·.2) (pass (Ji rs)) (muL (K0 rs) hg.choose (fun _=>0,true)) (fun _=>0,true):=by unfold Qum;rw [dif_pos hg]
 show QOs _ _ (slL rs .no .no .no .no (fun _=>0,true)) _ _;refine Vq (m:=false) (τ1:=slL rs .no .no .no .no (Qum rs)) ?loop ?_
 case loop =>
  rw [efin];refine Qab (m:=false) (slL rs .no .no .no .no) (LIv (Ji rs)) (muL (K0 rs) hg.choose) (·.2) (pass (Ji rs)) Qw (fun st h=>Yr (Vv 4 rfl)) (fun st h hc=>⟨false,?_,fun z=>nomatch z⟩) (fun st h hc=>Qt4 hg.choose_spec hK2 h hc) _ (Qlx _);refine Wa (Jf (i:=4) (d:= .bl false) OV US.nd) ?_;show QOs _ _ (slL rs .no .no .no .no (st.1,false)) _ _;have hlast:pass (Ji rs) st=((Ji rs).take ((Ji rs).map Lk.d).length).foldl WX (st.1,false):=by rw [Q0,QF];rfl
  rw [hlast];refine Vz (Zc (ds:=(Ji rs).map Lk.d) (m:=false) (put:=fun τ d=>((τ.set 5 (.any (nth d 0))).set 6 (.any (nth d 1))).set 7 (.any (nth d 2))) (fun i=>slL rs .no .no .no .no (((Ji rs).take i).foldl WX (st.1,false))) Qw rfl (WT (WB (i:=1) rfl (QI rfl)))
   (Yi rfl (Vh (Ja (i:=5) US.nd rfl (QI rfl)) (Vh (Ja (i:=6) US.nd rfl (QI rfl)) (Vh (Ja (i:=7) US.nd rfl (QI rfl)) Zm)))) (put3 (trip _)) (Qb0 (k:=1) rfl) rfl (fun i d hi=>⟨false,?_,fun z=>nomatch z⟩))
  obtain ⟨l,hli,rfl⟩:=Zr hi;have hlm:=Q4 hli;obtain ⟨k1,k2,k3⟩:=Qgw l hlm;have e1:((Ji rs).take (i+1)).foldl WX (st.1,false)=WX (((Ji rs).take i).foldl WX (st.1,false)) l:=by
   rw [QJ,hli,Wm];rfl
  rw [e1];generalize ((Ji rs).take i).foldl WX (st.1,false)=sti;show QOs _ _ (slL rs (.any (.str l.k)) (.any (.str l.a)) (.any (.int l.s)) .no sti) _ _;refine WG (m:=false) (τ1:=slL rs (.any (.str l.k)) (.any (.str l.a)) (.any (.int l.s)) (.any (.int (sti.1 l.k+l.s:Nat))) (WX sti l)) ?_ (WkI.wk (.keep (.keep (.keep (.keep (.keep (.no (.no (.no (.no .nil)))))))))) (fun z=>nomatch z);obtain ⟨i1,a1,a2⟩:=Qvs sti.1 k1;obtain ⟨i2,b1,b2⟩:=Qvs sti.1 k2;refine Wa (Jf (i:=8) (d:= .int ((sti.1 l.k:Int)+(l.s:Int))) (Wi (Qfp hu (Vv 3 rfl) (Vv 5 rfl) a1 a2) (Vv 7 rfl)) US.nd) ?_;show QOs _ _ (slL rs (.any (.str l.k)) (.any (.str l.a)) (.any (.int l.s)) (.any (.int (sti.1 l.k+l.s:Nat))) sti) _ _;refine Vz (JT (Qnf (Qfp hu (Vv 3 rfl) (Vv 6 rfl) b1 b2) (Vv 8 rfl)) (fun h1=> ?_) (fun h1=> ?_))
  ·have h2:sti.1 l.a < sti.1 l.k+l.s:=by have:=Jx h1;omega
   have e2:WX sti l=(Yf sti.1 l.a (sti.1 l.k+l.s),true):=Qk h2;have hput:=U4 (f:=sti.1) (k:=l.a) (n:=sti.1 l.k+l.s) (Qvu rs) k2;have hks:J6 (K0 rs) l.a=K0 rs:=Qk k2;rw [e2];refine BZ (m:=true) (τ1:=slL rs (.any (.str l.k)) (.any (.str l.a)) (.any (.int l.s)) (.any (.int (sti.1 l.k+l.s:Nat))) (Yf sti.1 l.a (sti.1 l.k+l.s),sti.2)) ?_ (Vz (Jf (i:=4) (d:= .bl true) OV US.nd));have eτ:slL rs (.any (.str l.k)) (.any (.str l.a)) (.any (.int l.s)) (.any (.int (sti.1 l.k+l.s:Nat))) (Yf sti.1 l.a (sti.1 l.k+l.s),sti.2)=(slL rs (.any (.str l.k)) (.any (.str l.a)) (.any (.int l.s)) (.any (.int (sti.1 l.k+l.s:Nat))) sti).set 3 (.odc (J6 (K0 rs) l.a) (putVs (K0 rs) ((K0 rs).map fun k=>(.int (sti.1 k):D)) l.a (.int (sti.1 l.k+l.s:Nat)))):=by
    rw [hks,hput];rfl
   rw [eτ];exact O0 (i:=3) hu rfl (Vv 6 rfl) (Vv 8 rfl) WN (AL.h ⟨by simp [LF,LFs],Qvt,QT,QT,WN,WN,trivial⟩) (Nat.lt_trans hK (by rw [QP];decide))
  ·have h2: ¬ sti.1 l.a < sti.1 l.k+l.s:=by have:=B1 h1;omega
   have e2:WX sti l=sti:=Qn h2;rw [e2];exact WG (m:=true) JS (Wk.refl _) (fun z=>rfl)
 ·refine Vz (Jv (Wg T.bTup (PDL.pd (Qc0 (hu22 hr) rfl T.bSrt (Vv 3 rfl) (by simp [Qzs,lev]) (Qly _ _) hK)) (.inl rfl)))
end
end K27
namespace L2
open PySem PySem.Spec PyProof.Rows PySem.W
section
variable {X:Cx} {H₀:Hp} {τ:List Sl} {c:Expr} {d:D} {ds:List D} {pos:Pos} {m:Bool}
theorem Qtt {tg iter:Expr} {body:List Stmt} {wi:TI} {g:TG} {put:List Sl->D->List Sl} (τs:Nat->List Sl) (i0:Nat) (d0:D) (hd0:ds[i0]? =some d0) (hp:PassesOwn (model X.prog X.w) X.A X.env X.xe) (hc:X.calm=true) (hi:PI X tg iter wi) (hg:PG X tg g)
  (hput: ∀ d∈ds,∀ (τ':List Sl) (σ:St) (H:Hp) (v:V) (Q:St->Hp->Prop),EnvO X.K H₀ H σ τ'->Is X.K H d v->(∀ σ',EnvO X.K H₀ H σ' (put τ' d)->Q σ' H)->g v σ H Q)
  (hr: ∀ σ H R,EnvO X.K H₀ H σ τ->(∀ J H' (St:Hp->Prop),Same H H'->St H'->(∀ H1 H2,St H1->Rl m H1 H2->Same H₀ H2->St H2)->JSt X.K H₀ J St ds .any->R J H')->wi σ H R)
  (h0:τs 0=τ) (hb: ∀ (i:Nat) (d:D),i < i0->ds[i]? =some d-> ∃ n,QOs X H₀ (put (τs i) d) body (.next n (τs (i+1)))/\(m=true->n=true)) (hret:QOs X H₀ (put (τs i0) d0) body (.ret d))
  (hs: ∀ x,foldedSetIterable iter X.env x=pure x:=by intro _;rfl) :
  QO X H₀ τ (.For tg iter body [] pos) (.ret d):=by
 have hb':PSs X body (fun D σ H=>(∃ i e,i < i0/\ds[i]? =some e/\rdO X.K H₀ (put (τs i) e) (.next m (τs (i+1))) D σ H) \/ rdO X.K H₀ (put (τs i0) d0) (.ret d) D σ H):=fun pins s σ H D I q=>by
  rcases q with ⟨i,e,hlt,he,q⟩ | q
  ·obtain ⟨n,hq,hn⟩:=hb i e hlt he;exact hq.pe pins s σ H D I ⟨q.1,fun σ' H' t=>q.2 σ' H' (t.weak hn)⟩
  ·exact hret.pe pins s σ H D I q
 have hl0:i0 < ds.length:=(Q5.mp hd0).1;refine ⟨(BS hp hc hi hg hb' hs).imp fun D σ H q=> ?_⟩;refine hr σ H _ q.1 fun J H1 St s1 st1 keep ji=> ?_
 refine ⟨fun i k σ' H'=>i<=i0/\k=i0 - i/\EnvO X.K H₀ H' σ' (τs i)/\St H',⟨i0,Jd _,rfl,by rw [h0];exact q.1.step s1,st1⟩,?_⟩;rintro i k σ' H' ⟨hi',rfl,he,st⟩;have hil:i < ds.length:=by omega
 by_cases hlt:i < i0
 ·refine .inr ⟨ji.go i H' st hil,fun σ2 H2=>EnvO X.K H₀ H2 σ2 (τs (i+1))/\Rl m H' H2,fun σ2 H2 ⟨he2,hm2⟩=>⟨i0 - (i+1),by omega,hlt,rfl,he2,keep H' H2 st hm2 he2.same⟩,fun y H2 yl=> ?_⟩;obtain ⟨e,d',hd,v,ev,is⟩:=ji.yld i H' y H2 st hil yl;subst e;cases ev;exact hput d' (Q4 hd) _ σ' H2 y _ he is fun σ'' he'=> .inl ⟨i,d',hlt,hd,he',fun σ3 H3 t3 he3=>⟨he3,t3⟩⟩
 ·have e0:i=i0:=by omega
  subst e0;refine .inr ⟨ji.go i H' st hil,fun _ _=>False,fun _ _ z=>z.elim,fun y H2 yl=> ?_⟩;obtain ⟨e,d',hd,v,ev,is⟩:=ji.yld i H' y H2 st hil yl;subst e;cases ev;rw [hd0] at hd;cases hd;exact hput _ (Q4 hd0) _ σ' H2 y _ he is fun σ'' he'=> .inr ⟨he',q.2⟩
end
section
variable {X:Cx}
theorem Qdl {K:W.Frag} {H:Hp}: ∀ {out:List Value} {ks:List Str},out.length=ks.length->(∀ (i:Nat) (v:Value) (k:Str),out[i]? =some v->ks[i]? =some k-> ∃ t,v= .str k t)->Va K H (ks.map .str) (ks.map V.str)/\Vals (ks.map V.str) out
 | [],[],_,_=>⟨Jm,.nil⟩
 | v::out,k::ks,hl,h=>by
  obtain ⟨i1,i2⟩:=Qdl (K:=K) (H:=H) (out:=out) (ks:=ks) (by simpa using hl) fun i u q e1 e2=>h (i+1) u q (by simpa using e1) (by simpa using e2)
  obtain ⟨t,rfl⟩:=h 0 v k rfl rfl;exact ⟨Vg (ZV _) i1,.cons ⟨t,rfl⟩ i2⟩
variable {ρ:List (Option D)} {a e:Expr} {d:D} {ds:List D} {ks:List Str} {pos:Pos}
end
section
variable {X:Cx} {pins:List (Addr×Obj)} {σ:St} {H H₀:Hp} {s:Shared} {p:Addr}
theorem Inv.freezeD {kvs:List (Key×V)} (I:Inv X pins σ H s) (hp:H p=some (.dK kvs)): ∃ ob,Inv X pins σ (upd H p (.frz ob (.dK kvs))) s:=by
 have ok:ObjOk X.prog X.w H s.heap p (.dK kvs):=I.hok p _ hp;obtain ⟨z,hm,vs,rel,o,rest⟩:=(show kvs.length<=sizeLine/\(p == sysModules)=false/\ ∃ vs,KV kvs vs/\s.heap.DictOf (Jj X.prog X.w) p vs from ok);obtain ⟨es,ep,ho,rest⟩:=rest;exact ⟨o,I.write (x:=p) (e:=p) (h':=s.heap) (t':=s.toks) (by rw [hp];exact Wn) (.inl rfl) (fun b u _ q=>q) ⟨_,ho⟩ ⟨ho,z,hm,vs,rel,o,es,ep,ho,rest⟩⟩
end
section
variable {K:W.Frag} {H H₀:Hp} {σ:St} {τ:List Sl} {j:Nat} {p:Addr}
theorem Qai {u:Sl} {τ:List Sl} {j m:Nat} (hu: ∀ d,u≠ .any d) (hlt:j < τ.length) {d:D} (e:(τ.set j (.any d))[m]? =some u):τ[m]? =some u:=by
 by_cases hm:j=m
 ·subst hm;rw [Qu hlt] at e;exact absurd (Qt e).symm (hu d)
 ·rwa [Qc hm] at e
theorem EnvO.frzD {vs:List V} {ks:List Str} {ds:List D} {ob:Obj} (h:EnvO K H₀ H σ τ) (hi:τ[j]? =some (.odc ks ds)) (hσ:σ[j]? =some (some (.ref p))) (hn:H₀ p=none) (hp:DkAt false H p ks vs) (lf:LFs ds=true) (ia:Va K H ds vs)
  (hl: ∀ (j:Nat) (d:D),τ[j]? =some (.any d)->LF d=true):EnvO K H₀ (upd H p (.frz ob (.dK (Js ks vs)))) σ (τ.set j (.any (.dct true (ks.map .str) ds))):=by
 have hp':H p=some (.dK (Js ks vs)):=hp.at_;have ts:TSame H (upd H p (.frz ob (.dK (Js ks vs)))):=TSame.updM hp' (fun _ e=>nomatch e) (fun _ _ e=>nomatch e);have hlt:j < τ.length:=(Q5.mp hi).1;refine ⟨fun b o e=>by rw [J1 (Jg e hn)];exact h.same b o e,by simp [h.len],fun i u e=> ?_,fun i k ds' es' q hik e1 e2=>h.apart i k ds' es' q hik (Qai (fun d z=>nomatch z) hlt e1) (Qai (fun d z=>nomatch z) hlt e2),
  fun i k kk kk' ds' es' q hik e1 e2=>h.apD i k kk kk' ds' es' q hik (Qai (fun d z=>nomatch z) hlt e1) (Qai (fun d z=>nomatch z) hlt e2)⟩
 by_cases hj:j=i
 ·subst hj;rw [Qu hlt] at e;cases e;refine ⟨_,hσ,.ref p,rfl,?_⟩;rw [Is];exact ⟨p,ks,vs,rfl,rfl,⟨hp.len,hp.nd,⟨ob,Vu⟩⟩,ia.tsame ts lf⟩
 ·rw [Qc hj] at e;obtain ⟨o,e1,e2⟩:=h.sl i u e;refine ⟨o,e1,?_⟩;cases u with
  | no=>trivial
  | arg d=>exact e2
  | any d =>
   obtain ⟨v,z,t⟩:=e2;exact ⟨v,z,t.tsame ts (hl i d e)⟩
  | own ds' =>
   obtain ⟨p',vs',z,n',t,l,a⟩:=e2;have hne:p'≠p:=by
    rintro rfl;rw [hp'] at t;cases t
   exact ⟨p',vs',z,n',by rw [J1 hne];exact t,l,a.tsame ts l⟩
  | odc ks' ds' =>
   obtain ⟨p',vs',z,n',t,l,a⟩:=e2;subst z;have ta:H p'=some (.dK (Js ks' vs')):=t.at_;have hne:p'≠p:=by
    rintro rfl;exact h.apD j i ks ks' ds ds' p' hj hi e hσ e1
   refine ⟨p',vs',rfl,n',⟨t.len,t.nd,?_⟩,l,a.tsame ts l⟩;show upd H p (.frz ob (.dK (Js ks vs))) p'=_;rw [J1 hne];exact ta
  | ftp ds' =>
   obtain ⟨p',vs',z,⟨ob',hno,t⟩,l,a⟩:=e2;exact ⟨p',vs',z,⟨ob',hno,ts.fz _ _ _ t⟩,l,a.tsame ts l⟩
  | flt ds' =>
   obtain ⟨p',vs',z,⟨ob',t⟩,l,a⟩:=e2;exact ⟨p',vs',z,⟨ob',ts.fz _ _ _ t⟩,l,a.tsame ts l⟩
theorem Qad {u:Sl} {τ:List Sl} {j m:Nat} {ds:List D} (hu: ∀ d,u≠ .flt d) (hlt:j < τ.length) (e:(τ.set j (.flt ds))[m]? =some u):τ[m]? =some u:=by
 by_cases hm:j=m
 ·subst hm;rw [Qu hlt] at e;exact absurd (Qt e).symm (hu ds)
 ·rwa [Qc hm] at e
theorem EnvO.frzL {vs:List V} {ds:List D} {ob:Obj} (h:EnvO K H₀ H σ τ) (hi:τ[j]? =some (.own ds)) (hσ:σ[j]? =some (some (.ref p))) (hn:H₀ p=none) (hp:H p=some (.lst vs)) (lf:LFs ds=true) (ia:Va K H ds vs)
  (hl: ∀ (j:Nat) (d:D),τ[j]? =some (.any d)->LF d=true):EnvO K H₀ (upd H p (.frz ob (.lst vs))) σ (τ.set j (.flt ds)):=by
 have ts:TSame H (upd H p (.frz ob (.lst vs))):=TSame.updM hp (fun _ e=>nomatch e) (fun _ _ e=>nomatch e);have hlt:j < τ.length:=(Q5.mp hi).1;refine ⟨fun b o e=>by rw [J1 (Jg e hn)];exact h.same b o e,by simp [h.len],fun i u e=> ?_,fun i k ds' es' q hik e1 e2=>h.apart i k ds' es' q hik (Qad (fun d z=>nomatch z) hlt e1) (Qad (fun d z=>nomatch z) hlt e2),
  fun i k kk kk' ds' es' q hik e1 e2=>h.apD i k kk kk' ds' es' q hik (Qad (fun d z=>nomatch z) hlt e1) (Qad (fun d z=>nomatch z) hlt e2)⟩
 by_cases hj:j=i
 ·subst hj;rw [Qu hlt] at e;cases e;exact ⟨_,hσ,p,vs,rfl,⟨ob,Vu⟩,lf,ia.tsame ts lf⟩
 ·rw [Qc hj] at e;obtain ⟨o,e1,e2⟩:=h.sl i u e;refine ⟨o,e1,?_⟩;cases u with
  | no=>trivial
  | arg d=>exact e2
  | any d =>
   obtain ⟨v,z,t⟩:=e2;exact ⟨v,z,t.tsame ts (hl i d e)⟩
  | own ds' =>
   obtain ⟨p',vs',z,n',t,l,a⟩:=e2;subst z;have hne:p'≠p:=by
    rintro rfl;exact h.apart j i ds ds' p' hj hi e hσ e1
   exact ⟨p',vs',rfl,n',by rw [J1 hne];exact t,l,a.tsame ts l⟩
  | odc ks' ds' =>
   obtain ⟨p',vs',z,n',t,l,a⟩:=e2;have ta:H p'=some (.dK (Js ks' vs')):=t.at_;have hne:p'≠p:=by
    rintro rfl;rw [hp] at ta;cases ta
   refine ⟨p',vs',z,n',⟨t.len,t.nd,?_⟩,l,a.tsame ts l⟩;show upd H p (.frz ob (.lst vs)) p'=_;rw [J1 hne];exact ta
  | ftp ds' =>
   obtain ⟨p',vs',z,⟨ob',hno,t⟩,l,a⟩:=e2;exact ⟨p',vs',z,⟨ob',hno,ts.fz _ _ _ t⟩,l,a.tsame ts l⟩
  | flt ds' =>
   obtain ⟨p',vs',z,⟨ob',t⟩,l,a⟩:=e2;exact ⟨p',vs',z,⟨ob',ts.fz _ _ _ t⟩,l,a.tsame ts l⟩
end
section
variable {X:Cx} {H₀:Hp} {τ τ2:List Sl} {sts:List Stmt} {j:Nat} {ks:List Str} {ds:List D} {m:Bool}
theorem Qxf (hi:τ[j]? =some (.odc ks ds)) (hl: ∀ (j:Nat) (d:D),τ[j]? =some (.any d)->LF d=true) (h:QOs X H₀ (τ.set j (.any (.dct true (ks.map .str) ds))) sts (.next m τ2)):QOs X H₀ τ sts (.next false τ2) :=
 ⟨fun pins s σ H D I q=>by
  obtain ⟨o,e1,p,vs,rfl,n,dk,lf,ia⟩:=q.1.sl j _ hi;have hp':H p=some (.dK (Js ks vs)):=dk.at_;obtain ⟨ob,I2⟩:=I.freezeD hp';have ts:TSame H (upd H p (.frz ob (.dK (Js ks vs)))):=TSame.updM hp' (fun _ e=>nomatch e) (fun _ _ e=>nomatch e);refine h.pe pins s σ _ D I2 ⟨q.1.frzD hi e1 n dk lf ia hl,fun σ' H' t he=>q.2 σ' H' (ts.trans ?_) he⟩;cases m
  ·exact t
  ·exact Same.t t⟩
theorem Qxe (hi:τ[j]? =some (.own ds)) (hl: ∀ (j:Nat) (d:D),τ[j]? =some (.any d)->LF d=true) (h:QOs X H₀ (τ.set j (.flt ds)) sts (.next m τ2)):QOs X H₀ τ sts (.next false τ2) :=
 ⟨fun pins s σ H D I q=>by
  obtain ⟨o,e1,p,vs,rfl,n,hp,lf,ia⟩:=q.1.sl j _ hi;obtain ⟨ob,I2⟩:=I.freeze hp;have ts:TSame H (upd H p (.frz ob (.lst vs))):=TSame.updM hp (fun _ e=>nomatch e) (fun _ _ e=>nomatch e);refine h.pe pins s σ _ D I2 ⟨q.1.frzL hi e1 n hp lf ia hl,fun σ' H' t he=>q.2 σ' H' (ts.trans ?_) he⟩;cases m
  ·exact t
  ·exact Same.t t⟩
theorem Qmm {i:Nat} {x y:Str} {p py pos:Pos} (hj:τ[j]? =some (.flt ds)) (hN:X.N.Nodup) (hNj:X.N[j]? =some y:=by rfl) (hi:X.N[i]? =some x:=by rfl) (hx:Loc X.env.scope x:=by first | exact QI rfl | exact QY rfl)
  (hv:Vis X.env.scope y:=by first | exact QI rfl | exact QY (QI rfl) | exact QY (QY rfl)) (hdb:(y == ("__debug__" :Str))=false:=by decide) (hcd:(y == ("__classdict__" :Str))=false:=by decide)
  (hf:X.fn x=true \/ X.env.scope.names.lookup x=some .local:=by first | exact .inl rfl | exact .inr rfl):QO X H₀ τ (.Assign [.Name x p] (.Name y py) pos) (.next true (τ.set i (.flt ds))) :=
 ⟨(B8 hN hi hx (WB hNj hv hdb hcd) rfl hf).imp fun D σ H q=>by
  obtain ⟨o,e1,p,vs,rfl,⟨ob,t⟩,l,a⟩:=q.1.sl j _ hj;exact ⟨_,e1,q.2 _ H (Same.refl H) (q.1.set i ⟨p,vs,rfl,⟨ob,t⟩,l,a⟩ fun ds e=>nomatch e)⟩⟩
end
section
variable {X:Cx} {ρ:List (Option D)} {a e:Expr} {ks:List Str} {ds:List D} {pos:Pos}
theorem Qjg:CallR X (.type "dict") (fun vs H Q=> ∃ a kvs,vs=[.ref a]/\Rd H a (.dK kvs)/\ ∀ p,H p=none->Q (.ref p) (upd H p (.dK kvs))):=by
 intro pins s σ H xs us Q I r h;obtain ⟨p,kvs,rfl,hr,q⟩:=h;obtain ⟨u,rfl,ru⟩:=vals1 r;cases (show u=Value.ref p from ru);exact Qr0 I hr fun b s' n I'=>⟨.ref b,_,I',rfl,q b n⟩
theorem Qun {p:Pos} {fz:Bool} (hm:X.mg "dict" =none) (ha:PD X ρ a (.dct fz (ks.map .str) ds)) (hg:Gl X "dict" :=by rfl) (h1:starEach [a] X.env=[(false,eval a X.env)]:=by rfl):PDM X ρ (.Call (.Name "dict" p) [a] [] pos) ks ds :=
 ⟨(U8 Qjg hg hm Qce (Vc ha Vn h1).pe (by decide) (by decide) h1 rfl).imp fun σ H Q q=>⟨q.1,fun vs H1 s1 ia=>by
  obtain ⟨v,rfl,i⟩:=ia.one;obtain ⟨b,us,rfl,dk,ia2⟩:=Yk i;refine ⟨b,_,rfl,dk.rd,fun c nc=>q.2 c us _ (s1.free nc) (s1.trans (Same.upd nc)) ⟨dk.len,dk.nd,Vu⟩ (ia2.same (Same.upd nc))⟩⟩⟩
theorem Ql6 (h:PDM X ρ e ks ds) (lf:LFs ds=true):PD X ρ e (.dct true (ks.map .str) ds):=⟨fun pins s σ H Q I q=>by
 refine Jo (h.pe pins s σ H (fun v H1=> ∃ p vs,v= .ref p/\H p=none/\Same H H1/\DkAt false H1 p ks vs/\Va X.K H1 ds vs) I ⟨q.1,fun p vs H' n s hp i=>⟨p,vs,rfl,n,s,hp,i⟩⟩) (fun u s1 ⟨x,H1,I1,r,p,vs,ex,n,s01,hp,i⟩=> ?_) fun _ _ z=>z
 subst ex;have hp':H1 p=some (.dK (Js ks vs)):=hp.at_;obtain ⟨ob,I2⟩:=I1.freezeD hp';have ts:TSame H1 (upd H1 p (.frz ob (.dK (Js ks vs)))):=TSame.updM hp' (fun _ e=>nomatch e) (fun _ _ e=>nomatch e);refine ⟨.ref p,_,I2,r,q.2 _ _ (fun c o z=> ?_) ?_⟩
 ·rw [J1 (Jg z n)];exact s01 _ _ z
 ·rw [Is];exact ⟨p,ks,vs,rfl,rfl,⟨hp.len,hp.nd,⟨ob,Vu⟩⟩,i.tsame ts lf⟩⟩
end
section
variable {X:Cx} {ρ:List (Option D)} {a b e o:Expr} {d:D} {ds:List D} {ks:List Str} {pos:Pos}
theorem Qg6 {K:W.Frag} {H:Hp}: ∀ ks:List Str,Va K H (ks.map .str) (ks.map V.str)
 | []=>Jm
 | k::ks=>Vg (ZV _) (Qg6 ks)
theorem Qty:MtR X "str.isupper" (fun x xs H Q=> ∃ y,x= .str y/\xs=[]/\Q (.bl (Txt.isupper y)) H):=by
 intro pins s σ H x xs v us Q I rx rs h;obtain ⟨y,rfl,rfl,q⟩:=h;obtain ⟨t,e⟩:=(show ∃ t,v=Value.str y t from rx);subst e;cases rs;exact SC.isupper ⟨.bl _,H,I,rfl,q⟩
theorem Qy8 {y:Str} {ap cp:Pos} (ho:PD X ρ o (.str y)) (hbase:attributeBase o "isupper" X.env (eval o X.env)=eval o X.env:=by rfl) (hline:(ap.endLine == cp.line)=true:=by rfl) :
  PD X ρ (.Call (.Attribute o "isupper" ap) [] [] cp) (.bl (Txt.isupper y)) :=
 Y2 (Qis PySem.F.plainAttrs_str PySem.F.slot_str_isupper PySem.F.type_str_isupper Qty ho.pe hbase hline) fun σ H Q he q=>⟨he,fun v H1 s1 i1=>by
  cases JF i1;exact ⟨rfl,y,rfl,rfl,q _ H1 s1 (ZQ _)⟩⟩
theorem Qcv (hc:X.calm=true):CallR X (.type "list") (fun vs H Q=> ∃ p fz,∃ ks:List Str,∃ ds,vs=[.ref p]/\Is X.K H (.dct fz (ks.map .str) ds) (.ref p)/\ks.length<=sizeLine /\
  ∀ l,H l=none->Q (.ref l) (upd H l (.lst (ks.map V.str)))):=by
 intro pins s σ H xs us Q I r h;obtain ⟨p,fz,ks,ds,rfl,hi,hl,q⟩:=h;obtain ⟨u,rfl,ru⟩:=vals1 r;cases (show u=Value.ref p from ru);obtain ⟨a',wv,e,dk,ia⟩:=Yk hi;cases e;obtain ⟨z,hm,vs,rel,o,es,ep,hod,hex,hdd,hko,hpr,hnd⟩:=Gj I.hok dk.rd;have hvl:vs.length=ks.length:=by rw [<- rel.length,YX ks wv dk.len]
 refine kdl_call (kdl_dict (knd:=Jj X.prog X.w) (kvs:=vs) (ep:=ep) hm) (I.ok.hd hc) ⟨o,es,hod,hex,hdd,hko,hpr,hnd⟩ (by rw [hvl];exact hl) fun h' tk acc c' kp hS it=> ?_
 obtain ⟨asz,ait⟩:=it;obtain ⟨ia0,rv0⟩:=Qdl (K:=X.K) (H:=H) (out:=acc.toList) (ks:=ks) (by simp [asz,hvl]) fun i v k e1 e2=>by
  obtain ⟨key,x,f1,f2⟩:=ait i v (by simpa using e1);obtain ⟨pr,g1,g2,g3⟩:=rel.get f1;obtain ⟨k',v',g4,g5,rfl⟩:=Qjp g1;rw [e2] at g4;cases g4;have ek:key= .inr k:=g2.symm;subst ek;rcases JK (k:=Sum.inr k) (v:=v) f2 with ⟨i,t,z,_⟩ | ⟨y,t,z,e⟩
  ·cases z
  ·cases z;exact ⟨t,e⟩
 exact ⟨.ref s.heap.objs.size,_,I.laid (t':=tk) kp (Q6 _) (show ObjOk X.prog X.w _ h' _ (.lst (ks.map V.str)) from ⟨by simpa using hl,acc.toList,c',rv0,by simpa using hS⟩),rfl,q _ (I.hok.fresh (Q6 _))⟩
theorem Qhd {p:Pos} {fz:Bool} (hc:X.calm=true) (hm:X.mg "list" =none) (ha:PD X ρ a (.dct fz (ks.map .str) ds)) (hl:ks.length<=sizeLine)
  (hg:Gl X "list" :=by rfl) (h2:starEach [a] X.env=[(false,eval a X.env)]:=by rfl) :
  PDL X ρ (.Call (.Name "list" p) [a] [] pos) (ks.map .str) :=
 ⟨(U8 (Qcv hc) hg hm Qcc (Vc ha Vn h2).pe (by decide) (by decide) h2 rfl).imp fun σ H Q q=>⟨q.1,fun vs H1 s1 ia=>by
  obtain ⟨v,rfl,i⟩:=ia.one;obtain ⟨b,us,rfl,dk,ia2⟩:=Yk i;refine ⟨b,fz,ks,ds,rfl,i,hl,fun l nl=>q.2 l (ks.map V.str) _ (s1.free nl) (s1.trans (Same.upd nl)) Vu ?_⟩;exact Qg6 ks⟩⟩
end
end L2
namespace L2
open PySem PySem.Spec PyProof.Rows PySem.W
section
variable {X:Cx}
variable {ρ:List (Option D)} {a b:Expr} {pos:Pos}
theorem Jaa {us vs:List D} (ha:PD X ρ a (.tup us)) (hb:PD X ρ b (.tup vs)) (hk:keyOks us=true) (hk2:keyOks vs=true) (hu:X.A.units+dep (.tup us)+dep (.tup vs) < cLine):PB X ρ (.Compare a [.Eq] [b] pos) (decide (us=vs)) :=
 Ui (Qx2 hk hk2 hu) ha hb (fun H x y Q hx hy q=>⟨hx,hy,q _ H (Same.refl H) (ZQ _)⟩) (nomark _)
end
end L2
namespace L2
open PySem PySem.Spec PyProof.Rows
def IteL (K:W.Frag) (a:Addr):It :=
 ⟨fun i H=> ∃ xs x,SqL K H a xs/\xs[i]? =some x,fun i H v H'=> ∃ p x,v= .ref p/\H p=none/\H'=upd H p (.tup [.int i,x])/\ ∀ xs,SqL K H a xs->xs[i]? =some x,fun i H=> ∃ xs,SqL K H a xs/\xs.length<=i⟩
theorem Qi9 {P:Program} {w:World} {K:W.Frag} {elts:List Expr} {k:Nat} {pos:Pos} {e j a:Addr} (ne:e≠j) :
  Turn P w K (.Tuple elts k pos) (IteL K a) [e,j] e (fun i h=>(∃ old,IsEnum h e j (i:Nat) old)/\h.IsListIter j a i) where
 mem:=by simp
 obj:=fun i h st c hc=>by
  obtain ⟨⟨old,he⟩,o,ej,_,dj⟩:=st;simp only [Qd,QV,JX] at hc;rcases hc with rfl | rfl
  ·exact ⟨_,he,fun v q=>by cases q⟩
  ·exact ⟨_,ej,fun v q=>by rw [dj] at q;cases q⟩
 keep:=fun i h h' st k=>by
  obtain ⟨⟨old,he⟩,o,ej,r⟩:=st;exact ⟨⟨old,k _ (by simp) _ he⟩,o,k _ (by simp) _ ej,r⟩
 item:=by
  intro X hP hw hK hc i pins s σ H E I hf st hg;subst hP hw hK;obtain ⟨xs,x,q1,hx⟩:=hg;obtain ⟨⟨old,he⟩,hj⟩:=st;obtain ⟨us,r1,p1,z1⟩:=I.list q1;obtain ⟨u,hu,ru⟩:=r1.get hx;refine wpAny_pyNext_enum_item he hj p1.isList (x:=u) (by simpa using hu) ne fun h' no nj np _ keep=> ?_
  refine ⟨_,rfl,wpAny_letOwnedTupleGo_enum no fun h2 mo sb=> ?_⟩;have fresh:H s.heap.objs.size=none:=I.hok.fresh (Q6 _);have lt: ∀ c∈[e,j],c≠s.heap.objs.size:=fun c hc'=>by
   have: ∃ o,s.heap.get? c=some o:=by
    obtain ⟨o,ej,_⟩:=hj;simp only [Qd,QV,JX] at hc';rcases hc' with rfl | rfl
    ·exact ⟨_,he⟩
    ·exact ⟨_,ej⟩
   obtain ⟨o,ee⟩:=this;exact Qq (Qa ee)
  have I0:Inv X pins σ (upd H s.heap.objs.size (.tup [.int i,x])) { s with heap:=s.heap.push { cls:= .type "tuple",data:= .seq #[.int i s.toks,u] },toks:=s.toks+1 } :=
   I.laid (fun c o e=>Q2 _ e) (Q6 _) ⟨by show 2<=_;decide,[.int i s.toks,u],.cons ⟨_,rfl⟩ (.cons ru .nil),⟨_,Qg _ rfl,rfl,_,rfl⟩⟩
  have fok: ∀ c∈[e,j],FpOk X pins (upd H s.heap.objs.size (.tup [.int i,x])) c:=fun c hc'=>by
   obtain ⟨f0,f1,f2,f3,f4,f5⟩:=hf c hc';exact ⟨by rw [J1 (lt c hc')];exact f0,f1,f2,f3,f4,f5⟩
  refine ⟨.ref s.heap.objs.size,upd H s.heap.objs.size (.tup [.int i,x]),?_,rfl,⟨_,x,rfl,fresh,rfl,fun zs hz'=>by rw [I.list_inj hz' q1];exact hx⟩,?_,fun c hc'=>by rw [J1 (lt c hc')];exact (hf c hc').1⟩
  ·have I1:Inv X pins σ (upd H s.heap.objs.size (.tup [.int i,x])) { s with heap:=h2,toks:=s.toks+1 }:=Inv.turnedL (s:={ s with heap:=s.heap.push { cls:= .type "tuple",data:= .seq #[.int i s.toks,u] },toks:=s.toks+1 }) (fp:=[e,j]) I0 ?_ fok
   ·exact I1
   intro c o hc' ee;replace ee:(s.heap.push { cls:= .type "tuple",data:= .seq #[.int i s.toks,u] }).get? c=some o:=ee;simp only [Qd,QV,JX,not_or] at hc'
   by_cases hT:c=s.heap.objs.size
   ·subst hT;rw [Qg _ rfl] at ee;rw [<- ee];exact sb.extBut _ _ hc'.1 np
   ·exact sb.extBut _ _ hc'.1 (keep c o hc'.1 hc'.2 (by rwa [Qw1 _ _ _ hT] at ee))
  ·obtain ⟨o1,e1,s1⟩:=nj;refine ⟨⟨u,?_⟩,o1,sb.extBut _ _ (J5 ne) e1,s1⟩;have:((i:Int)+1)=((i+1:Nat):Int):=by omega
   rw [<- this];exact mo
 done:=by
  intro X hP hw hK hc i pins s σ H E I hf st hg;subst hP hw hK;obtain ⟨xs,q1,hx⟩:=hg;obtain ⟨⟨old,he⟩,hj⟩:=st;obtain ⟨us,r1,p1,z1⟩:=I.list q1;have l1:=r1.length;refine wpAny_pyNext_enum_end (I.ok.hd hc) he hj p1.isList (by simp;omega) fun h' keep=>⟨rfl,?_⟩
  exact I.turnedL (t':=s.toks) (fp:=[j]) (fun c o hc' ee=>keep c o (by simpa using hc') ee) fun c hc'=>hf c (by simp at hc' ⊢; exact .inr hc')
 self:=fun _ _ _ _ _ st h=>by
  obtain ⟨⟨old,he⟩,_⟩:=st;exact Qci he h
section
variable {X:Cx}
def Qy3 (K:W.Frag) (ta:TA):TI:=fun σ H R=>ta σ H fun vs H1=> ∃ a,vs=[.ref a]/\(∃ xs,SqL K H1 a xs)/\R (IteL K a) H1
theorem Qoz {e1:Expr} {ta:TA} {p pos tp:Pos} {elts:List Expr} {k:Nat} (hg:Gl X "enumerate") (hm:X.mg "enumerate" =none) (ha:PA X [e1] ta) (hs:starEach [e1] X.env=[(false,eval e1 X.env)]:=by rfl) :
  PI X (.Tuple elts k tp) (.Call (.Name "enumerate" p) [e1] [] pos) (Qy3 X.K ta):=by
 intro pins s σ H R I h;refine Call_ (Bd I hg hm Qcd (Ww (thn (ha pos pins s σ H _ I h) fun us s1 ⟨vs,H1,I1,r1,q1⟩=> ?_) hs rfl));obtain ⟨a,rfl,⟨xs,qa⟩,q⟩:=q1;obtain ⟨u,rfl,ru⟩:=vals1 r1;cases ru;obtain ⟨as,ra,pa,za⟩:=I1.list qa;refine call_enumerate_list pa.isList fun h' st sj _ keep=>Qci st ?_
 refine ⟨_,[s1.heap.objs.size+1,s1.heap.objs.size],_,_,H1,rfl,I1.kept (t':=s1.toks) keep,Qi9 (JD (OK _)),⟨⟨.none,st⟩,sj⟩,fun c hc=> ?_,q⟩;have le:s1.heap.objs.size<=c:=by
  simp only [Qd,QV,JX] at hc;rcases hc with rfl | rfl
  ·exact Yx _
  ·exact Q6 _
 exact I1.fpOk le (I1.hok.fresh le)
end
section
variable {X:Cx} {ρ:List (Option D)} {a:Expr} {as:List D} {pos:Pos}
theorem Qqs {elt:Expr} {x y:Str} {px py tp zp cp:Pos} {tk:Nat} {scope:Scope} {f:Nat->D->D} (hc:X.calm=true) (hm:X.mg "enumerate" =none) (ha:PD X ρ a (.lst as)) (hz:as.length<=sizeLine)
  (he: ∀ (i:Nat) v,as[i]? =some v-> ∀ cl C s H ex,PD (cxP X x y scope cl C s H ex) (some (.int i)::some v::ρ) elt (f i v))
  (hok:WL X.N X.env.scope x scope=true:=by rfl) (hy:scope.names.lookup y=some .local:=by rfl) (hnd:(x::y::X.N).Nodup:=by decide) (hg:Gl X "enumerate" :=by rfl)
  (hs:starEach [a] X.env=[(false,eval a X.env)]:=by rfl) (hf: ∀ v,foldedSetIterable (.Call (.Name "enumerate" zp) [a] [] cp) X.env v=pure v:=by intro _;rfl) :
  PDL X ρ (.ListComp elt [⟨.Tuple [.Name x px,.Name y py] tk tp,.Call (.Name "enumerate" zp) [a] [] cp,[],0⟩] scope pos) (as.zipIdx.map fun p=>f p.2 p.1):=by
 refine ⟨(Qb7 (tc:=Qei) (te:=fun σ H Q=> ∃ (i:Nat) (v:D),as[i]? =some v/\rdD X.K (some (.int i)::some v::ρ) (f i v) σ H Q) hc (Qoz hg hm (Vc ha Vn hs).pe hs) (fun _ _ _ _ _=>Bp)
  (fun cl C s H ex pins s' σ H' Q I ⟨i,v,hm,q⟩=>(he i v hm cl C s H ex).pe pins s' σ H' Q I q) hok hy hnd hf).imp fun σ H Q q=> ?_⟩
 obtain ⟨hE,q⟩:=q;refine ⟨hE,fun vs H1 s1 ia=> ?_⟩;obtain ⟨v1,rfl,i1⟩:=ia.one;obtain ⟨p1,xs,rfl,q1,r1⟩:=Wr i1;have l1:=r1.length;have sq: ∀ {H2:Hp},Same H1 H2->SqL X.K H2 p1 xs:=fun s2=>s2.seq q1
 refine ⟨p1,rfl,⟨xs,q1⟩,fun i m us H2=>Same H1 H2/\i<=as.length/\m=as.length - i/\Va X.K H2 ((as.zipIdx.take i).map fun p=>f p.2 p.1) us,⟨_,Same.refl _,Jd _,rfl,by simpa using Jm⟩,?_⟩;rintro i m us H2 ⟨s2,hi,rfl,r⟩
 by_cases hlt:i < as.length
 ·refine .inr ⟨⟨xs,xs[i]'(by omega),sq s2,by simp⟩,?_,fun v H3 yl=> ?_⟩
  ·have:=r.length;rw [Q0,Qj,Yc] at this;omega
  ·obtain ⟨p,vx,rfl,np,rfl,hx⟩:=yl;have s3:Same H2 (upd H2 p (.tup [.int i,vx])):=Same.upd np;obtain ⟨u,eu,iu⟩:=r1.at (hx xs (sq s2));have s123:=(s1.trans s2).trans s3;refine ⟨p,.int i,vx,rfl,.inl (.inl Vu),?_⟩;unfold Qei;simp only [Zx];refine ⟨i,u,eu,((hE.same s123).cons (iu.same (s2.trans s3))).cons (Zq _),fun z H5 s5 iz=>⟨as.length - (i+1),by omega,(s2.trans s3).trans s5,hlt,rfl,?_⟩⟩;have ht4:as.zipIdx.take (i+1)=as.zipIdx.take i++[(u,i)]:=by rw [QJ,Qee,eu];simp
   rw [ht4,QE];exact ((r.same s3).same s5).append (Vg iz Jm)
 ·have e:i=as.length:=by omega
  refine .inl ⟨⟨xs,sq s2,by omega⟩,fun l hl=>q l us _ ((s1.trans s2).free hl) ((s1.trans s2).trans (Same.upd hl)) Vu (Va.same (Same.upd hl) ?_)⟩;rw [e,JZ (by simp)] at r;exact r
end
end L2
namespace L2
open PySem PySem.Spec PyProof.Rows
section
variable {X:Cx}
theorem Qou {elt iter:Expr} {x y z:Str} {px py pz tp:Pos} {tk:Nat} {ifs:List Expr} {scope:Scope} {pos spos:Pos} {wi:TI} {tc:TT} {te:TE} {i:Nat} (hN:X.N.Nodup) (hzi:X.N[i]? =some z) (hzl:X.env.scope.names.lookup z=some .local) (hc:X.calm=true) (hi:PI X (.Tuple [.Name x px,.Name y py] tk tp) iter wi)
  (hifs: ∀ cl C s H ex,PTs (cxP X x y scope cl C s H ex) ifs tc) (helt: ∀ cl C s H ex,PE (cxP X x y scope cl C s H ex) elt te)
  (hok:WL X.N X.env.scope x scope=true) (hy:scope.names.lookup y=some .local) (hnd:(x::y::X.N).Nodup) (hs: ∀ x,foldedSetIterable iter X.env x=pure x)
  (hsw:swapsWith (.ListComp elt [⟨.Tuple [.Name x px,.Name y py] tk tp,iter,ifs,0⟩] scope pos) (some (.Name z pz)) spos.line X.env=pure true) :
  PS X (.Assign [.Name z pz] (.ListComp elt [⟨.Tuple [.Name x px,.Name y py] tk tp,iter,ifs,0⟩] scope pos) spos) (Qs9 (Qic X.K wi tc te) (YG i)):=by
 intro pins s σ H Dd I h;have ok:=CompOk.of hok;rw [exec_Assign_Name_used _ _ _ _ hsw];refine Q1 (GX (Q1 ?_));show wpAny _ X.A (do let _<-comprehension (.ListComp elt [⟨.Tuple [.Name x px,.Name y py] tk tp,iter,ifs,0⟩] scope pos) scope X.env _ (newList []) false (eval iter X.env) (some (assign (.Name z pz) X.env))) _ _ s;refine Q1 (Jo (YI (cl:=ZW scope X.env) (use:=some (assign (.Name z pz) X.env)) (Q:=fun _ s'=>SP X pins Dd .next s') rfl hs (ZL fun y hy e=> ?_) ok.kind ok.names ?_) (fun _ s' hq=>Qe (Qe hq)) fun _ _ e=>e)
 ·obtain ⟨n,k⟩:=y;cases e;obtain ⟨c,z⟩:=ok.cells I hy;rw [z];rfl
 ·refine thn (hi pins s σ H _ I h) fun v s1 h1=>thn h1 fun itv s2 h2=> ?_
  obtain ⟨it,fp,tn,J,H2,e,I2,T,st2,f2,W,w0,turn⟩:=h2;subst e;refine OD (RR:=fun acc C=>compPost (model X.prog X.w) X.A X.xe (some (assign (.Name z pz) X.env)) (fun _ s'=>SP X pins Dd .next s') acc C) ok ⟨hy,hnd⟩ hc hifs helt I2 T st2 f2 w0 (Qf:=fun ys H=> ∀ p,H p=none->Dd.nx (σ.set i (some (.ref p))) (upd H p (.lst ys))) turn ?_;intro D C s' H' ys its k hD hC hDC J' rv hl q;obtain ⟨m,hn,_⟩:=id J'.loc;have J2:=Qbo J' I2.len;obtain ⟨I',nD⟩:=UF I2 f2 hD hC hDC J2 rv hl (Heap.SameBut.refl ..);have nC:upd H' D (.lst ys) C=none:=by rw [J1 (J5 hDC)];exact J2.free
  have fC:=I2.fpOk (b:=C) hC nC;show wpAny _ X.A (assign (.Name z pz) X.env (.ref D)) _ _ _;refine Qcj (BP (s:=s') I' hN hzi (.inl hzl) (v:= .ref D) rfl (fun s'' I'' ⟨a,sa,ha⟩=> ?_) (.inr hzl));have hCa:C≠a:=by
   rcases ha with ha | ha
   ·rw [ha];exact fC.2.1
   ·exact J5 (fC.2.2.2.2.1 _ _ ha)
  refine ⟨m,hn.sameBut sa hCa,fun h' sb=> ?_⟩;exact ⟨_,_,I''.turned (t':=s''.toks) (fun b o hb e=>(sb.2 b hb).trans e) nC fC.2.1 fC.2.2.2.1 fC.2.2.2.2.1 fC.2.2.2.2.2,q D nD⟩
variable {ρ:List (Option D)}
theorem Qje {us:List (D×D)} {f:D->D->D} {σ:St} {H:Hp} {Q:VK} (hz:us.length<=sizeLine) (q:rdL X.K ρ (us.map fun p=>f p.1 p.2) σ H Q) :
  Qic X.K (Qy2 X.K (rdD X.K ρ (.tup (us.map fun u=> .tup [u.1,u.2])))) Qei (fun σ H Q=> ∃ u v,(u,v)∈us/\rdD X.K (some u::some v::ρ) (f u v) σ H Q) σ H Q:=by
 obtain ⟨hE,q⟩:=q;refine ⟨hE,fun v H1 s1 i1=> ?_⟩;obtain ⟨p1,xs,rfl,q1,r1⟩:=Jn i1;have l1:=r1.length;rw [Q0] at l1;refine ⟨p1,rfl,⟨xs,q1⟩,fun i m ws H2=>Same H1 H2/\i<=us.length/\m=us.length - i/\Va X.K H2 ((us.take i).map fun p=>f p.1 p.2) ws,⟨_,Same.refl _,Jd _,rfl,by simpa using Jm⟩,?_⟩;rintro i m ws H2 ⟨s2,hi,rfl,r⟩
 by_cases hlt:i < us.length
 ·refine .inr ⟨⟨xs,xs[i]'(by omega),s2.sqT q1,by simp⟩,?_,fun v H3 yl=> ?_⟩
  ·have:=r.length;rw [Q0,Qj] at this;omega
  ·obtain ⟨rfl,hx⟩:=yl;obtain ⟨d,ed,id⟩:=r1.at (hx xs (s2.sqT q1));have hu:us[i]? =some us[i]:=Qb hlt;rw [Q8,hu] at ed;cases ed;obtain ⟨p,vs,rfl,hq,ia⟩:=Jn (id.same s2);obtain ⟨vx,vy,rfl,iu,iw⟩:=ia.two;refine ⟨p,vx,vy,rfl,hq,?_⟩;unfold Qei;simp only [Zx];refine ⟨_,_,Q4 hu,((hE.same (s1.trans s2)).cons iw).cons iu,fun z H5 s5 iz=>⟨us.length - (i+1),by omega,s2.trans s5,hlt,rfl,?_⟩⟩;have ht4:us.take (i+1)=us.take i++[us[i]]:=by rw [QJ,hu];rfl
   rw [ht4,QE];exact (r.same s5).append (Vg iz Jm)
 ·have e:i=us.length:=by omega
  refine .inl ⟨⟨xs,s2.sqT q1,by omega⟩,fun l hl=>q l ws _ ((s1.trans s2).free hl) ((s1.trans s2).trans (Same.upd hl)) Vu (Va.same (Same.upd hl) ?_)⟩;rw [e,QF] at r;exact r
variable {H₀:Hp} {τ:List Sl} {pos:Pos}
theorem Qml {elt iter:Expr} {x y z:Str} {px py pz tp cp:Pos} {tk:Nat} {scope:Scope} {us:List (D×D)} {f:D->D->D} {i:Nat} (hl:LFs (us.map fun p=>f p.1 p.2)=true) (hN:X.N.Nodup) (hc:X.calm=true) (ha:PD X (dat τ) iter (.tup (us.map fun u=> .tup [u.1,u.2]))) (hz:us.length<=sizeLine)
  (he: ∀ u v,(u,v)∈us-> ∀ cl C s H ex,PD (cxP X x y scope cl C s H ex) (some u::some v::dat τ) elt (f u v))
  (hzi:X.N[i]? =some z:=by rfl) (hzl:X.env.scope.names.lookup z=some .local:=by rfl) (hok:WL X.N X.env.scope x scope=true:=by rfl) (hy:scope.names.lookup y=some .local:=by rfl) (hnd:(x::y::X.N).Nodup:=by decide) (hf: ∀ v,foldedSetIterable iter X.env v=pure v:=by intro _;rfl)
  (hsw:swapsWith (.ListComp elt [⟨.Tuple [.Name x px,.Name y py] tk tp,iter,[],0⟩] scope cp) (some (.Name z pz)) pos.line X.env=pure true:=by rfl) :
  QO X H₀ τ (.Assign [.Name z pz] (.ListComp elt [⟨.Tuple [.Name x px,.Name y py] tk tp,iter,[],0⟩] scope cp) pos) (.next true (τ.set i (.own (us.map fun p=>f p.1 p.2)))) :=
 ⟨(Qou hN hzi hzl hc (UX ha.pe) (fun _ _ _ _ _=>Bp) (fun cl C s H ex pins s' σ H' Q I ⟨u,v,hm,q⟩=>(he u v hm cl C s H ex).pe pins s' σ H' Q I q) hok hy hnd hf hsw).imp fun D σ H q =>
  Qje hz ⟨q.1.env,fun p vs H' n s hp iv=>q.2 _ H' s (q.1.setOwn i n s hp hl iv)⟩⟩
end
end L2
namespace RH
open PySem L2
theorem Qge {ks:List Str} {k:Str} (h:ks.Nodup):(J6 ks k).Nodup:=by
 unfold J6;split
 ·exact h
 ·rename_i hk;refine Wj.mpr ⟨h,by simp,fun a ha b hb e=>hk ?_⟩;rw [<- Qs.mp hb,<- e];exact ha
end RH
namespace K27
open PySem L2 RH
def Jh (x:Str):Bool:=Txt.isupper (Txt.slice x none (some 1))
def subst (ks vs:List Str) (t:Str):Str:=if t∈ks then vs.getD (ks.idxOf t) t else t
def atomF (ks vs:List Str) (a:At):At:=⟨a.k,a.ts.map (subst ks vs)⟩
def litF (ks vs:List Str) (l:Li):Li:=⟨l.y,atomF ks vs l.a⟩
def Wz (ks vs:List Str) (r:Ru):Ru:=⟨atomF ks vs r.h,r.b.map (litF ks vs)⟩
def Z1 (a:At):List Str:=a.ts.filter Jh
def U9 (r:Ru):List Str:=(QB r).flatMap Z1
def Qi (r:Ru):List Str:=(U9 r).foldl J6 []
def W0 (n:Nat):List Str:=(List.range n).map (sg CAPS)
def Jt (r:Ru):Ru:=Wz (Qi r) (W0 (Qi r).length) r
structure RuK (r:Ru):Prop where
 b:r.b.length<=8
 v:(Qi r).length<=20
 t: ∀ a∈QB r,a.ts.length<=3
 s: ∀ a∈QB r,∀ t∈a.ts,t.length<=1000
section
variable {P:Program} {w:World} {K:W.Frag} {mg:Str->Option Value} {base:Heap}
def ROpen:List D->D->Prop:=fun ds d=> ∃ x:Str,ds=[.str x]/\x.length<=1000/\d= .bl (Jh x)
theorem Qwh:Vf ["term"] ["term"] (Vs Qk5):=⟨rfl,rfl,rfl,by decide +kernel,rfl,by decide +kernel,by decide +kernel⟩
theorem Qti (F:Fd K mg "is_open" Qk5 ["term"]):PrD P w K mg base "is_open" 1 ["term"] ROpen:=by
 refine Zi (N:=["term"]) F Qwh (Q6 _) fun f cdv A outer s H E ds d hr hR _=> ?_
 obtain ⟨x,rfl,hx,rfl⟩:=hR;exact Vz (Jv (Qy8 (Qqw (Vv 0 rfl) (Vl (by omega)) Wv (JW Vi))))
def RFilled:List D->D->Prop:=fun ds d=> ∃ (a:At) (ks vs:List Str) (fz:Bool),ds=[a.d,.dct fz (ks.map .str) (vs.map .str)]/\ks.length=vs.length/\a.ts.length<=1000/\d=(atomF ks vs a).d
abbrev Oq:List Str:=["atom", "words"]
theorem Qwj:Vf Oq Oq (Vs Qa6):=⟨rfl,rfl,rfl,by decide +kernel,rfl,by decide +kernel,by decide +kernel⟩
def YZ:D->Str | .str x=>x | _=> ""
theorem Ja6 {X:Cx} {ρ:List (Option D)} {a b f:Expr} {ap cp:Pos} {ks vs:List Str} {fz:Bool} {t:Str} (hu:X.A.units+1 < cLine) (hl:ks.length=vs.length) (ha:PD X ρ a (.dct fz (ks.map .str) (vs.map .str))) (hb:PD X ρ b (.str t)) (hf:PD X ρ f (.str t)) (m:M2 X a "get" ap b f cp:=by exact ⟨rfl,rfl,rfl,rfl⟩) :
  PD X ρ (.Call (.Attribute a "get" ap) [b,f] [] cp) (.str (subst ks vs t)):=by
 by_cases h:t∈ks
 ·have hi:ks.idxOf t < ks.length:=Qx.mpr h;have e:subst ks vs t=vs[ks.idxOf t]'(by omega):=by
   unfold subst;rw [Qk h,Qm,Qb (by omega)];rfl
  rw [e];exact Qdz (i:=ks.idxOf t) hu ha hb hf (by rw [Qb hi,J0 hi]) (by rw [Q8,Qb (by omega)];rfl) m
 ·have e:subst ks vs t=t:=Qn h;rw [e];exact Qc6 hu ha hb hf h m
theorem Qmh (T:Txt K mg) (F:Fd K mg "filled" Qa6 Oq):PrD P w K mg base "filled" 1 Oq RFilled:=by
 refine Zi (N:=Oq) F Qwj (Q6 _) fun f cdv A outer s H E ds d hr hR _=> ?_
 obtain ⟨a,ks,vs,fz,rfl,hl,ht,rfl⟩:=hR;have hu:=Bv hr;have e:(atomF ks vs a).d= .tup [.str a.k,.tup ((a.ts.map D.str).map fun d=> .str (subst ks vs (YZ d)))]:=by
  simp [At.d,atomF,Qo,QK,YZ]
 rw [e];refine Vz (Jv (Vp (Vc (QR (da:= .tup [.str a.k,.tup (a.ts.map .str)]) (Vv 0 rfl) Vi at0) (Vc (Wg T.bTup (PDL.pd (Z6 (f:=fun d=> .str (subst ks vs (YZ d))) rfl (Yp (QR (da:= .tup [.str a.k,.tup (a.ts.map .str)]) (Vv 0 rfl) Vi at1)) (Vl (by rw [Q0];omega)) fun d hd cl C s H ex=> ?_)) (.inl rfl)) Vn)) (Vl (by simp))));obtain ⟨t,_,rfl⟩:=Q3.mp hd;exact Ja6 hu hl (Vv 2 rfl) (Vv 0 rfl) (Vv 0 rfl)
def RWith:List D->D->Prop:=fun ds d=> ∃ (r:Ru) (ks vs:List Str) (fz:Bool),ds=[r.d,.dct fz (ks.map .str) (vs.map .str)]/\ks.length=vs.length/\RuK r/\d=(Wz ks vs r).d
abbrev Oo:List Str:=["rule", "terms"]
abbrev Qpv:List Str:=["rule", "terms", "body"]
theorem Qoe:Vf Qpv Oo (Vs Qjz):=⟨rfl,rfl,rfl,by decide +kernel,rfl,by decide +kernel,by decide +kernel⟩
theorem Quu (r:Ru):r.b.map Li.d=(r.b.map fun l=>((.str (if l.y then "yes" else "no"):D),l.a.d)).map fun u=> .tup [u.1,u.2]:=by
 rw [Qo];rfl
def litD (ks vs:List Str):D->D->D:=fun u v=>match v with | .tup [.str k,.tup ts]=> .tup [u,.tup [.str k,.tup (ts.map fun d=> .str (subst ks vs (YZ d)))]] | _=> .non
theorem Qkr (ks vs:List Str) (r:Ru):(r.b.map fun l=>((.str (if l.y then "yes" else "no"):D),l.a.d)).map (fun p=>litD ks vs p.1 p.2)=(r.b.map (litF ks vs)).map Li.d:=by
 rw [Qo,Qo];refine QQ fun l _=> ?_
 simp only [QK,litD,Li.d,At.d,litF,atomF,Qo,YZ];rfl
theorem Qtb (T:Txt K mg) (F:Fd K mg "with_terms" Qjz Oo) (G:PrD P w K mg base "filled" 1 Oq RFilled):PrD P w K mg base "with_terms" 2 Oo RWith:=by
 refine Zi (N:=Qpv) F Qoe (by decide) fun f cdv A outer s H E ds d hr hR _=> ?_
 obtain ⟨r,ks,vs,fz,rfl,hl,hk,rfl⟩:=hR;have lf:LFs ((r.b.map (litF ks vs)).map Li.d)=true:=QU Li.lf _;rw [<- Qkr] at lf;refine Vq (m:=true) (Qml (hnd:=(by decide +kernel:(("mark" :Str):: "atom" ::Qpv).Nodup)) (i:=2) (us:=r.b.map fun l=>((.str (if l.y then "yes" else "no"):D),l.a.d)) (f:=litD ks vs) lf Qoe.nd rfl (QR (da:= .tup [r.h.d,.tup (r.b.map Li.d)]) (Vv 0 rfl) Vi (by rw [Quu];exact at1)) (Vl (by have:=hk.b;simp;omega)) fun u v huv cl C s H ex=> ?comp) ?_
 case comp =>
  obtain ⟨l,hlm,e⟩:=Q3.mp huv;cases e;refine Vp (Vc (Vv 0 rfl) (Vc (Jy G hr (Vc (Vv 1 rfl) (Vc (Vv 3 rfl) Vn)) ⟨l.a,ks,vs,fz,rfl,hl,?_,?_⟩) Vn)) (Vl (by simp))
  ·have:=hk.t l.a (Q9 _ (Q3.mpr ⟨l,hlm,rfl⟩));omega
  ·simp [At.d,atomF,Qo,QK,YZ]
 show QOs _ _ [.arg r.d,.arg (.dct fz (ks.map .str) (vs.map .str)),.own ((r.b.map fun l=>((.str (if l.y then "yes" else "no"):D),l.a.d)).map fun p=>litD ks vs p.1 p.2)] _ _;rw [Qkr];refine Vz (Jv (Vp (Vc (Jy G hr (Vc (QR (da:= .tup [r.h.d,.tup (r.b.map Li.d)]) (Vv 0 rfl) Vi at0) (Vc (Vv 1 rfl) Vn)) ⟨r.h,ks,vs,fz,rfl,hl,?_,rfl⟩) (Vc (Wg T.bTup (Vv 2 rfl) (.inl rfl)) Vn)) (Vl (by simp))));have:=hk.t r.h Q7;omega
def RComing:List D->List D->Prop:=fun ds es=> ∃ r:Ru,ds=[r.d]/\RuK r/\es=(Qi r).map .str
def RAtomsR:List D->List D->Prop:=fun ds es=> ∃ r:Ru,ds=[r.d]/\RuK r/\es=(QB r).map At.d
def sndR:D->D | .tup [_,b]=>b | d=>d
theorem Qmj (F:Fd K mg "atoms_of" Qaw ["rule"]):PrL P w K mg base "atoms_of" 1 ["rule"] RAtomsR:=by
 refine Qcq (N:=["rule"]) F Qjy (Q6 _) fun f cdv A outer s H E ds es hr hR _=> ?_
 obtain ⟨r,rfl,hk,rfl⟩:=hR;have hl:=hk.b;have e:(QB r).map At.d=[r.h.d]++(r.b.map Li.d).map sndR:=by
  rw [Qo];simp [QB,sndR,Li.d,QK]
 rw [e];refine Vz (Ga (Qc1 (xs:=[r.h.d]) (PDL.pd (Wf (Vc (QR (da:= .tup [r.h.d,.tup (r.b.map Li.d)]) (Vv 0 rfl) Vi at0) Vn) (Vl (by simp)))) (PDL.pd (Z6 (f:=sndR) rfl (Yp (QR (da:= .tup [r.h.d,.tup (r.b.map Li.d)]) (d:= .tup (r.b.map Li.d)) (Vv 0 rfl) Vi at1)) (Vl (by rw [Q0];omega)) fun d hd cl C s H ex=> ?_)) (Vl (by simp;omega))));obtain ⟨l,_,rfl⟩:=Q3.mp hd;exact QR (da:= .tup [.str (if l.y then "yes" else "no"),l.a.d]) (d:=l.a.d) (Vv 0 rfl) Vi at1
theorem Qs6 {seen:List Str} {one:Str}:putVs seen (seen.map fun _=>(.bl true:D)) one (.bl true)=(J6 seen one).map fun _=> .bl true:=by
 induction seen with
 | nil=>rfl
 | cons a seen ih =>
  rw [Qp,putVs]
  by_cases e:a=one
  ·subst e;rw [Qk rfl,show J6 (a::seen) a=a::seen from Qk Q7];rfl
  ·rw [Qn e,ih,Uz e];rfl
theorem Qb1: ∀ (l ks:List Str),(l.foldl J6 ks).length<=ks.length+l.length
 | [],ks=>by simp
 | t::l,ks=>by
  have h1:=Qb1 l (J6 ks t);have h2:(J6 ks t).length<=ks.length+1:=by
   unfold J6;split<;>simp
  rw [Jl,QC];omega
theorem Qcx {r:Ru} (hk:RuK r):(Qi r).length<=20:=hk.v
abbrev Qko:List Str:=["rule", "found", "atom", "variable"]
theorem Bo:Vf Qko ["rule"] (Vs Qa7):=⟨rfl,rfl,rfl,by decide +kernel,rfl,by decide +kernel,by decide +kernel⟩
def odT (ks:List Str):Sl:= .odc ks (ks.map fun _=> .bl true)
def slC (r:Ru) (ks:List Str) (x2 x3:Sl):List Sl:=[.arg r.d,odT ks,x2,x3]
def Qv6:D->Bool | .str x=>Jh x | _=>false
set_option maxHeartbeats 1000000 in
theorem Qmi (T:Txt K mg) (F:Fd K mg "variables_by_coming" Qa7 ["rule"]) (G1:PrL P w K mg base "atoms_of" 1 ["rule"] RAtomsR) (G2:PrD P w K mg base "is_open" 1 ["term"] ROpen):PrL P w K mg base "variables_by_coming" 2 ["rule"] RComing:=by
 refine Qcq (N:=Qko) F Bo (by decide) fun f cdv A outer s H E ds es hr hR _=> ?_
 obtain ⟨r,rfl,hk,rfl⟩:=hR;have hu:=Bv hr;refine Zn (m:=true) (Ua (i:=1) Qfm rfl Bo.nd) ?_;show QOs _ _ (slC r [] .no .no) _ _;refine Zn (m:=false) (τ1:=slC r (Qi r) .no .no) ?atoms ?_
 case atoms =>
  have e:Qi r=(((QB r).take ((QB r).map At.d).length).flatMap Z1).foldl J6 []:=by rw [Q0,QF];rfl
  rw [e];refine Zc (ds:=(QB r).map At.d) (m:=false) (put:=fun τ d=>τ.set 2 (.any d)) (fun i=>slC r ((((QB r).take i).flatMap Z1).foldl J6 []) .no .no) Qw rfl
   (WT (U7 (ds:=(QB r).map At.d) (ZS G1 hr (Vc (Vv 0 rfl) Vn) ⟨r,rfl,hk,rfl⟩) (QU At.lf _))) (Ja (i:=2) Bo.nd rfl (QI rfl)) put1 (Qf1 (QU At.lf _)) rfl (fun i d hi=>⟨false,?body,fun z=>nomatch z⟩)
  obtain ⟨a,hai,rfl⟩:=Zr hi;have ham:=Q4 hai;rw [Ud hai,Wm];have hbound:((((QB r).take i).flatMap Z1).foldl J6 []).length<=27:=by
   have h1:=Qb1 (((QB r).take i).flatMap Z1) [];have h2:=Yn (f:=Z1) (n:=3) (l:=(QB r).take i) fun a ha=>Qz (Zj _ _) (hk.t a (QW ha))
   have h3:((QB r).take i).length<=9:=by have:=hk.b;rw [Qj];simp [QB];omega
   rw [WS,Nat.zero_add] at h1;omega
  generalize (((QB r).take i).flatMap Z1).foldl J6 []=k0 at hbound;show QOs _ _ (slC r k0 (.any a.d) .no) _ _;refine WG (m:=false) (τ1:=slC r ((Z1 a).foldl J6 k0) (.any a.d) .no) ?_ (WkI.wk (.keep (.keep (.no (.keep .nil))))) (fun z=>nomatch z);have e2:(Z1 a).foldl J6 k0=((Z1 a).take ((Z1 a).map D.str).length).foldl J6 k0:=by rw [Q0,QF]
  rw [e2];have hts:=hk.t a ham;refine Vz (Zc (ds:=(Z1 a).map .str) (m:=false) (put:=fun τ d=>τ.set 3 (.any d)) (fun i=>slC r (((Z1 a).take i).foldl J6 k0) (.any a.d) .no) Qw rfl
   (WT (U7 (ds:=(Z1 a).map .str) ?comp (QU (fun _=>QT) _))) (Ja (i:=3) Bo.nd rfl (QI rfl)) put1 (Qf1 (QU (fun _=>QT) _)) rfl (fun i d hi=>⟨false,?body2,fun z=>nomatch z⟩))
  case comp =>
   have e3:(Z1 a).map D.str=((a.ts.map D.str).filter Qv6).map id:=by
    rw [List.map_id,Qcl];rfl
   rw [e3];refine Qfn (p:=Qv6) (f:=id) rfl (Yp (QR (da:= .tup [.str a.k,.tup (a.ts.map .str)]) (Vv 2 rfl) Vi at1)) (Vl (by rw [Q0];omega)) (fun d hd cl C s H ex=> ?_) (fun d hd hp cl C s H ex=>Vv 0 rfl);obtain ⟨t,htm,rfl⟩:=Q3.mp hd;exact Qjv (Yr (Jy G2 hr (Vc (Vv 0 rfl) Vn) ⟨t,rfl,hk.s a ham t htm,rfl⟩))
  case body2 =>
   obtain ⟨t,hti,rfl⟩:=Zr hi;rw [QJ,hti];simp only [Option.toList_some,Wm,Jl,List.foldl_nil];have hk1:(((Z1 a).take i).foldl J6 k0).length<=30:=by
    have h1:=Qb1 ((Z1 a).take i) k0;have h2:((Z1 a).take i).length<=3:=by
     rw [Qj];have:(Z1 a).length<=a.ts.length:=Zj _ _;omega
    omega
   generalize ((Z1 a).take i).foldl J6 k0=k1 at hk1;show QOs _ _ (slC r k1 (.any a.d) (.any (.str t))) _ _;refine WG (m:=false) (τ1:=slC r (J6 k1 t) (.any a.d) (.any (.str t))) ?_ (WkI.wk (.keep (.keep (.keep (.no .nil))))) (fun z=>nomatch z);have e4:slC r (J6 k1 t) (.any a.d) (.any (.str t))=(slC r k1 (.any a.d) (.any (.str t))).set 1 (.odc (J6 k1 t) (putVs k1 (k1.map fun _=>(.bl true:D)) t (.bl true))):=by
    rw [Qs6];rfl
   rw [e4];exact Vz (O0 (i:=1) hu rfl (Vv 3 rfl) OV Qvt (AL.h ⟨At.lf a,QT,trivial⟩) (QZ hk1 (by rw [QP];decide)))
 refine Vz (Ga (Qhd rfl T.bLst (Vv 1 rfl) (Vl ?_)));have:=Qcx hk;omega
def RName:List D->D->Prop:=fun ds d=> ∃ n:Nat,ds=[.int n]/\n < 26/\d= .str (sg CAPS n)
abbrev Qvf:List Str:=["place", "letter", "figure"]
theorem Qig:Vf Qvf ["place"] (Vs Qa2):=⟨rfl,rfl,rfl,by decide +kernel,rfl,by decide +kernel,by decide +kernel⟩
theorem Uh:CAPS.length=26:=by decide +kernel
theorem Qme (T:Txt K mg) (F:Fd K mg "name_at" Qa2 ["place"]):PrD P w K mg base "name_at" 1 ["place"] RName:=by
 refine Zi (N:=Qvf) F Qig (by decide) fun f cdv A outer s H E ds d hr hR _=> ?_
 obtain ⟨n,rfl,hn,rfl⟩:=hR;have hc: ∀ y,D.str CAPS= .str y->y.length<=sizeLine:=fun y e=>by cases e;exact Vl (by rw [Uh];decide)
 have em:(n:Int) % (CAPS.length:Int)=n:=by rw [Uh];omega
 have ed:(n:Int) / (CAPS.length:Int)=0:=by rw [Uh];omega
 have hat:dAt (.str CAPS) ((n:Int) % (CAPS.length:Int))=some (.str (sg CAPS n)):=by
  have:=Qac (x:=CAPS) (i:=n) (by omega) (by rw [Uh];omega);rw [em];simpa using this
 refine Vq (m:=true) (Jf (i:=1) (d:= .str (sg CAPS n)) (QR (da:= .str CAPS) (i:=(n:Int) % (CAPS.length:Int)) (Qjb T.caps) (Ql5 (Vv 0 rfl) (Wb T.bLen (Qjb T.caps) rfl hc) (by rw [Uh];decide)) hat hc) Qig.nd) ?_;refine Vq (m:=true) (Jf (i:=2) (d:= .int ((n:Int) / (CAPS.length:Int))) (Qyc (Vv 0 rfl) (Wb T.bLen (Qjb T.caps) rfl hc) ?cd) Qig.nd) ?_
 case cd =>
  rw [Uh];exact ⟨by decide,by omega⟩
 have e0:decide ((0:Int) < (n:Int) / (CAPS.length:Int))=false:=by rw [ed];rfl
 refine Vz (Jv (Qya (Qht (Vv 2 rfl) Vi) (fun h=> ?_) (fun _=>Vv 1 rfl)));rw [e0] at h;cases h
end
theorem Qkg: ∀ (l ks:List Str),ks.Nodup->(l.foldl J6 ks).Nodup
 | [],ks,h=>h
 | t::l,ks,h=>Qkg l _ (Qge h)
theorem UO (r:Ru):(Qi r).Nodup:=Qkg _ _ Wc
theorem Zg (n:Nat):(W0 n).length=n:=by simp [W0]
section
variable {P:Program} {w:World} {K:W.Frag} {mg:Str->Option Value} {base:Heap}
theorem Qbz {X:Cx} {ρ:List (Option D)} {e:Expr} {ks:List Str} {ds:List D} {p pos:Pos} (hc:X.calm=true) (hm:X.mg "dict" =none) (ha:PD X ρ e (.lst (JH ks ds))) (hkd:ks.length=ds.length) (hl:ks.length<=1000) (hlf:LFs ds=true) (hnd:ks.Nodup) (hg:Gl X "dict" :=by rfl) (h1:starEach [e] X.env=[(false,eval e X.env)]:=by rfl) :
  PDM X ρ (.Call (.Name "dict" p) [e] [] pos) ks ds:=by
 have h:=Ql0 (p:=p) (pos:=pos) hc hm ha hkd hl hlf hg h1;have e:Je ([]:List Str) ([]:List D) ks ds=([]++ks,[]++ds):=Qbf rfl hkd (by simpa using hnd);rw [e] at h;exact h
def RPlain:List D->D->Prop:=fun ds d=> ∃ r:Ru,ds=[r.d]/\RuK r/\d=(Jt r).d
abbrev Qiw:List Str:=["rule", "variables"]
theorem Qjx:Vf Qiw ["rule"] (Vs Qep):=⟨rfl,rfl,rfl,by decide +kernel,rfl,by decide +kernel,by decide +kernel⟩
theorem Qm6 (ks:List Str):JH ks ((W0 ks.length).map .str)=(ks.map D.str).zipIdx.map fun p=> .tup [p.1,.str (sg CAPS p.2)]:=by
 refine Zy fun i=> ?_
 unfold JH;simp only [Ul,Q8,Qee]
 by_cases h:i < ks.length
 ·have h1:(W0 ks.length)[i]? =some (sg CAPS i):=by
   unfold W0;rw [Q8,List.getElem?_range h];rfl
  rw [Qb h,h1]
  simp
 ·rw [JJ (by omega)];rfl
theorem Qpb (T:Txt K mg) (F:Fd K mg "plain" Qep ["rule"]) (G1:PrL P w K mg base "variables_by_coming" 2 ["rule"] RComing) (G2:PrD P w K mg base "name_at" 1 ["place"] RName) (G3:PrD P w K mg base "with_terms" 2 Oo RWith):PrD P w K mg base "plain" 3 ["rule"] RPlain:=by
 refine Zi (N:=Qiw) F Qjx (by decide) fun f cdv A outer s H E ds d hr hR _=> ?_
 obtain ⟨r,rfl,hk,rfl⟩:=hR;have hl:=Qcx hk;have hnd:=UO r;refine Vq (m:=true) (Bs (i:=1) (ZS G1 hr (Vc (Vv 0 rfl) Vn) ⟨r,rfl,hk,rfl⟩) (QU (fun _=>QT) _) Qjx.nd) ?_;have lf:LFs ((W0 (Qi r).length).map D.str)=true:=QU (fun _=>QT) _;refine Vz (Jv (Jy G3 hr (Vc (Vv 0 rfl) (Vc (Ql6 (ks:=Qi r) (ds:=(W0 (Qi r).length).map .str) ?dict lf) Vn)) ⟨r,Qi r,W0 (Qi r).length,true,rfl,(Zg _).symm,hk,rfl⟩));refine Qbz rfl T.bDct (PDL.pd ?_) (by simp [Zg]) (by omega) lf hnd;rw [Qm6];refine Qqs (hnd:=(by decide +kernel:(("place" :Str):: "variable" ::Qiw).Nodup)) (f:=fun i v=> .tup [v,.str (sg CAPS i)]) rfl T.bEnu (Vv 1 rfl) (Vl (by simp;omega)) fun i v hv cl C s H ex=> ?_
 have hi:i < (Qi r).length:=by
  have:=(Q5.mp hv).1;simpa using this
 exact Vp (Vc (Vv 1 rfl) (Vc (Jy G2 (hr.mono (by decide)) (Vc (Vv 0 rfl) Vn) ⟨i,rfl,by omega,rfl⟩) Vn)) (Vl (by simp))
end
def muT (ks:List Str) (t:Str):Nat:=if t∈ks then ks.length - ks.idxOf t else 0
def inK (ks:List Str) (t:Str):Bool:=decide (t∈ks)
def W4 (ks vs:List Str) (t:Str):Str:=iterW (inK ks) (subst ks vs) (muT ks t) t
structure Tri (ks vs:List Str):Prop where
 len:ks.length=vs.length
 nd:ks.Nodup
 up: ∀ (i:Nat) (v:Str),vs[i]? =some v->v∈ks->i < ks.idxOf v
theorem Wy {ks vs:List Str} {t:Str} (hl:ks.length=vs.length) (h:t∈ks):vs[ks.idxOf t]? =some (subst ks vs t):=by
 have hi:ks.idxOf t < ks.length:=Qx.mpr h;unfold subst;rw [Qk h,Qm,Qb (by omega)];rfl
theorem Z7 {ks vs:List Str} {t:Str} (h:t ∉ ks):subst ks vs t=t:=Qn h
theorem Tri.mu {ks vs:List Str} (T:Tri ks vs) {t:Str} (h:t∈ks):muT ks (subst ks vs t) < muT ks t:=by
 have hi:ks.idxOf t < ks.length:=Qx.mpr h;have h1:=Wy T.len h;unfold muT;rw [Qk h];split
 ·rename_i h2;have:=T.up _ _ h1 h2;omega
 ·omega
theorem Qh2 {ks vs:List Str} (T:Tri ks vs): ∀ (n:Nat) (t:Str),muT ks t<=n->iterW (inK ks) (subst ks vs) n t ∉ ks
 | 0,t,h=>fun z=>by
  have z':t∈ks:=z;have hi:ks.idxOf t < ks.length:=Qx.mpr z';unfold muT at h;rw [Qk z'] at h;omega
 | n+1,t,h=>by
  unfold iterW
  by_cases ht:t∈ks
  ·rw [Qk (show inK ks t=true from QM ht)];have:=T.mu ht;exact Qh2 T n _ (by omega)
  ·rw [Qn (show ¬ inK ks t=true from by unfold inK;rw [QA ht];decide)];exact ht
theorem Bu {ks vs:List Str} (T:Tri ks vs) (t:Str):W4 ks vs t ∉ ks:=Qh2 T _ t (Q6 _)
theorem Qu7 {ks vs:List Str} {t:Str} (h:t ∉ ks):W4 ks vs t=t:=by
 unfold W4 muT;rw [Qn h];rfl
def Sol (σ:Str->Str) (ks vs:List Str):Prop:= ∀ (i:Nat) (k v:Str),ks[i]? =some k->vs[i]? =some v->σ k=σ v
theorem Qm0 {σ:Str->Str} {ks vs:List Str} (hl:ks.length=vs.length) (h:Sol σ ks vs) (t:Str):σ (subst ks vs t)=σ t:=by
 by_cases ht:t∈ks
 ·have hi:ks.idxOf t < ks.length:=Qx.mpr ht;exact (h (ks.idxOf t) t _ (by rw [Qb hi,J0 hi]) (Wy hl ht)).symm
 ·rw [Z7 ht]
theorem Qg9 {σ:Str->Str} {ks vs:List Str} (hl:ks.length=vs.length) (h:Sol σ ks vs): ∀ (n:Nat) (t:Str),σ (iterW (inK ks) (subst ks vs) n t)=σ t
 | 0,t=>rfl
 | n+1,t=>by
  unfold iterW;split
  ·rw [Qg9 hl h n,Qm0 hl h]
  ·rfl
theorem Qaq {σ:Str->Str} {ks vs:List Str} (hl:ks.length=vs.length) (h:Sol σ ks vs) (t:Str):σ (W4 ks vs t)=σ t:=Qg9 hl h _ t
theorem Qkt {ks vs:List Str} {P:Str->Prop} (hl:ks.length=vs.length) (hv: ∀ v∈vs,P v): ∀ (n:Nat) (t:Str),P t->P (iterW (inK ks) (subst ks vs) n t)
 | 0,t,h=>h
 | n+1,t,h=>by
  unfold iterW;split
  ·rename_i ht;have ht':t∈ks:=Jx ht;exact Qkt hl hv n _ (hv _ (Q4 (Wy hl ht')))
  ·exact h
theorem YF {ks vs:List Str} {P:Str->Prop} (hl:ks.length=vs.length) (hv: ∀ v∈vs,P v) {t:Str} (h:P t):P (W4 ks vs t):=Qkt hl hv _ t h
theorem Qug {ks:List Str} {t f:Str} (h:t∈ks):(ks++[f]).idxOf t=ks.idxOf t:=by
 rw [List.idxOf_append];exact Qk h
theorem Tri.add {ks vs:List Str} (T:Tri ks vs) {f s:Str} (hf:f ∉ ks) (hs:s ∉ ks) (hne:f≠s):Tri (ks++[f]) (vs++[s]) where
 len:=by
  have:=T.len
  simp
  omega
 nd:=by
  rw [Wj];refine ⟨T.nd,by simp,fun a ha b hb=> ?_⟩;rw [Qs.mp hb];exact fun e=>hf (e ▸ ha)
 up:=fun i v hv hk=>by
  have hl:=T.len;rcases Qlj i vs.length with h | h
  ·rw [Jp h] at hv;rcases QH.mp hk with z | z
   ·rw [Qug z];exact T.up i v hv z
   ·rw [Qs.mp z,List.idxOf_append,Qn hf]
    simp
    omega
  ·rw [JB h] at hv;have e:v=s:=by
    cases q:i - vs.length with
    | zero=>rw [q] at hv;exact (Qt hv).symm
    | succ n=>rw [q] at hv;simp at hv
   subst e;rcases QH.mp hk with z | z
   ·exact (hs z).elim
   ·exact (hne (Qs.mp z).symm).elim
theorem Tri.nil:Tri [] []:=⟨rfl,Wc,fun i v h=>by simp at h⟩
theorem Sol.add {σ:Str->Str} {ks vs:List Str} (hl:ks.length=vs.length) (h:Sol σ ks vs) {f s:Str} (e:σ f=σ s):Sol σ (ks++[f]) (vs++[s]):=fun i k v hk hv=>by
 rcases Qlj i ks.length with z | z
 ·rw [Jp z] at hk;rw [Jp (by omega)] at hv;exact h i k v hk hv
 ·rw [JB z] at hk;rw [JB (by omega)] at hv;cases q:i - ks.length with
  | zero =>
   rw [q] at hk;rw [<- hl,q] at hv;rw [<- Qt hk,<- Qt hv,e]
  | succ n=>rw [q] at hk;simp at hk
abbrev Gv:=List Str×List Str
def JI (m:Gv) (p:Str×Str):Option Gv :=
 if W4 m.1 m.2 p.1=W4 m.1 m.2 p.2 then some m
 else if Jh (W4 m.1 m.2 p.1)=true then some (m.1++[W4 m.1 m.2 p.1],m.2++[W4 m.1 m.2 p.2])
 else if Jh (W4 m.1 m.2 p.2)=true then some (m.1++[W4 m.1 m.2 p.2],m.2++[W4 m.1 m.2 p.1])
 else none
def Qqb (l:List (Str×Str)):Option Gv:=l.foldlM JI ([],[])
structure MOk (P:Str->Prop) (n:Nat) (m:Gv):Prop where
 tri:Tri m.1 m.2
 k: ∀ x∈m.1,P x
 v: ∀ x∈m.2,P x
 len:m.1.length<=n
theorem MOk.nil {P:Str->Prop}:MOk P 0 ([],[]):=⟨Tri.nil,(fun x h=>nomatch h),(fun x h=>nomatch h),Q6 _⟩
theorem MOk.step {P:Str->Prop} {n:Nat} {m m':Gv} {p:Str×Str} (h:MOk P n m) (h1:P p.1) (h2:P p.2) (e:JI m p=some m'):MOk P (n+1) m':=by
 have i1:=YF (P:=P) h.tri.len h.v h1;have i2:=YF (P:=P) h.tri.len h.v h2;have o1:=Bu h.tri p.1;have o2:=Bu h.tri p.2;have hl:=h.len;unfold JI at e;split at e
 ·cases e;exact ⟨h.tri,h.k,h.v,by omega⟩
 ·rename_i hne;split at e
  ·cases e;refine ⟨h.tri.add o1 o2 hne,fun x hx=> ?_,fun x hx=> ?_,by simp;omega⟩
   ·rcases QH.mp hx with z | z
    ·exact h.k x z
    ·rw [Qs.mp z];exact i1
   ·rcases QH.mp hx with z | z
    ·exact h.v x z
    ·rw [Qs.mp z];exact i2
  ·split at e
   ·cases e;refine ⟨h.tri.add o2 o1 (J5 hne),fun x hx=> ?_,fun x hx=> ?_,by simp;omega⟩
    ·rcases QH.mp hx with z | z
     ·exact h.k x z
     ·rw [Qs.mp z];exact i2
    ·rcases QH.mp hx with z | z
     ·exact h.v x z
     ·rw [Qs.mp z];exact i1
   ·cases e
theorem MOk.run {P:Str->Prop}: ∀ (l:List (Str×Str)) {n:Nat} {m m':Gv},MOk P n m->(∀ p∈l,P p.1/\P p.2)->l.foldlM JI m=some m'->MOk P (n+l.length) m'
 | [],n,m,m',h,_,e=>by cases e;exact h
 | p::l,n,m,m',h,hp,e=>by
  rw [JE] at e;obtain ⟨m1,e1,e2⟩:=Yw.mp e;have:=MOk.run l (h.step (hp p Q7).1 (hp p Q7).2 e1) (fun q hq=>hp q (Q9 _ hq)) e2;rw [QC];have e3:n+1+l.length=n+(l.length+1):=by omega
  rw [<- e3];exact this
theorem Qgv {σ:Str->Str} {P:Str->Prop} (fix: ∀ t,P t->Jh t=false->σ t=t): ∀ (l:List (Str×Str)) {n:Nat} {m:Gv},MOk P n m->Sol σ m.1 m.2->(∀ p∈l,P p.1/\P p.2)->(∀ p∈l,σ p.1=σ p.2)-> ∃ m',l.foldlM JI m=some m'/\Sol σ m'.1 m'.2
 | [],n,m,h,hs,_,_=>⟨m,rfl,hs⟩
 | p::l,n,m,h,hs,hp,he=>by
  have hp0:=hp p Q7;have i1:=YF (P:=P) h.tri.len h.v hp0.1;have i2:=YF (P:=P) h.tri.len h.v hp0.2;have e1:=Qaq h.tri.len hs p.1;have e2:=Qaq h.tri.len hs p.2;have e0:=he p Q7;have est: ∃ m1,JI m p=some m1/\Sol σ m1.1 m1.2:=by
   unfold JI;split
   ·exact ⟨m,rfl,hs⟩
   ·rename_i hne;split
    ·exact ⟨_,rfl,hs.add h.tri.len (by rw [e1,e2,e0])⟩
    ·rename_i o1;split
     ·exact ⟨_,rfl,hs.add h.tri.len (by rw [e1,e2,e0])⟩
     ·rename_i o2;refine (hne ?_).elim;have f1:=fix _ i1 (by simpa using o1);have f2:=fix _ i2 (by simpa using o2);rw [<- f1,<- f2,e1,e2,e0]
  obtain ⟨m1,es,hs1⟩:=est;obtain ⟨m',e',hs'⟩:=Qgv fix l (h.step hp0.1 hp0.2 es) hs1 (fun q hq=>hp q (Q9 _ hq)) (fun q hq=>he q (Q9 _ hq));refine ⟨m',?_,hs'⟩;rw [JE,es];exact e'
def theta (m:Gv):List Str:=m.1.map (W4 m.1 m.2)
theorem BO (m:Gv):m.1.length=(theta m).length:=by simp [theta]
theorem UQ (m:Gv) (t:Str):subst m.1 (theta m) t=W4 m.1 m.2 t:=by
 by_cases h:t∈m.1
 ·have hi:m.1.idxOf t < m.1.length:=Qx.mpr h;have:=Wy (BO m) h;unfold theta at this ⊢;rw [Q8,Qb hi,J0 hi] at this;exact (Qt this).symm
 ·rw [Z7 h,Qu7 h]
def mapA (σ:Str->Str) (a:At):At:=⟨a.k,a.ts.map σ⟩
def mapL (σ:Str->Str) (l:Li):Li:=⟨l.y,mapA σ l.a⟩
def mapR (σ:Str->Str) (r:Ru):Ru:=⟨mapA σ r.h,r.b.map (mapL σ)⟩
theorem Y6 (ks vs:List Str) (r:Ru):Wz ks vs r=mapR (subst ks vs) r:=rfl
theorem Qdg (σ τ:Str->Str) (r:Ru):mapR σ (mapR τ r)=mapR (fun t=>σ (τ t)) r:=by
 simp [mapR,mapL,mapA,Qo,QK]
theorem Ba {σ τ:Str->Str} {a:At} (h: ∀ t∈a.ts,σ t=τ t):mapA σ a=mapA τ a:=by
 unfold mapA;rw [QQ h]
theorem B9 {σ τ:Str->Str} {r:Ru} (h: ∀ a∈QB r,∀ t∈a.ts,σ t=τ t):mapR σ r=mapR τ r:=by
 unfold mapR;rw [Ba (h r.h Q7)];congr 1;refine QQ fun l hl=> ?_
 unfold mapL;rw [Ba (h l.a (Q9 _ (Q3.mpr ⟨l,hl,rfl⟩)))]
theorem Qu0 (r:Ru):mapR (fun t=>t) r=r:=by
 obtain ⟨⟨k,ts⟩,b⟩:=r;simp [mapR,mapA];have: ∀ l∈b,mapL (fun t=>t) l=l:=fun l _=>by
  obtain ⟨y,k,ts⟩:=l;simp [mapL,mapA]
 exact (QQ this).trans (List.map_id' _)
theorem Uj (σ:Str->Str) (r:Ru):QB (mapR σ r)=(QB r).map (mapA σ):=by
 simp [QB,mapR,mapL,Qo,QK]
theorem Qlu {σ:Str->Str} {m:Gv} (hl:m.1.length=m.2.length) (h:Sol σ m.1 m.2) (r:Ru):mapR σ (Wz m.1 (theta m) r)=mapR σ r:=by
 rw [Y6,Qdg];refine B9 fun a _ t _=> ?_
 rw [UQ,Qaq hl h]
theorem GE {l:List Str} {k x:Str}:x∈J6 l k ↔ x∈l \/ x=k:=by
 unfold J6;split
 ·rename_i h;exact ⟨.inl,fun z=>z.elim id fun e=>e ▸ h⟩
 ·rw [QH,Qs]
theorem Qdv: ∀ (l ks:List Str) (x:Str),x∈l.foldl J6 ks ↔ x∈ks \/ x∈l
 | [],ks,x=>by simp
 | a::l,ks,x=>by
  rw [Jl,Qdv l,GE,Qd];constructor
  ·rintro ((h | h) | h)
   ·exact .inl h
   ·exact .inr (.inl h)
   ·exact .inr (.inr h)
  ·rintro (h | h | h)
   ·exact .inl (.inl h)
   ·exact .inl (.inr h)
   ·exact .inr h
theorem Wx {r:Ru} {t:Str}:t∈Qi r ↔ Jh t=true/\ ∃ a∈QB r,t∈a.ts:=by
 unfold Qi;rw [Qdv];unfold U9 Z1;rw [JR];constructor
 ·rintro (h | ⟨a,ha,h⟩)
  ·cases h
  ·exact ⟨(Wp.mp h).2,a,ha,(Wp.mp h).1⟩
 ·rintro ⟨h,a,ha,ht⟩;exact .inr ⟨a,ha,Wp.mpr ⟨ht,h⟩⟩
theorem Qe1: ∀ i < 26,Jh (sg CAPS i)=true:=by decide +kernel
theorem Qcb: ∀ i < 26,∀ j < 26,sg CAPS i=sg CAPS j->i=j:=by decide +kernel
theorem Go {n i:Nat} (h:i < n):(W0 n)[i]? =some (sg CAPS i):=by
 unfold W0;rw [Q8,List.getElem?_range h];rfl
theorem Ja8 {n:Nat} (h:n<=26):(W0 n).Nodup:=by
 unfold W0;rw [List.Nodup,List.pairwise_map];refine List.Pairwise.imp_of_mem (fun {a b} ha hb hab e=> ?_) (List.nodup_range);exact hab (Qcb a (by have:=Wd.mp ha;omega) b (by have:=Wd.mp hb;omega) e)
theorem Qe2 {n:Nat} (h:n<=26) {x:Str} (hx:x∈W0 n):Jh x=true:=by
 obtain ⟨i,hi,rfl⟩:=Q3.mp hx;exact Qe1 i (by have:=Wd.mp hi;omega)
def Qe7 (vars:List Str) (σ:Str->Str) (t:Str):Str:=if t∈W0 vars.length then σ (vars.getD ((W0 vars.length).idxOf t) t) else σ t
theorem Qim {r:Ru} (hn:(Qi r).length<=26) (σ:Str->Str):mapR (Qe7 (Qi r) σ) (Jt r)=mapR σ r:=by
 unfold Jt;rw [Y6,Qdg];refine B9 fun a ha t ht=> ?_
 by_cases ho:t∈Qi r
 ·have hi:(Qi r).idxOf t < (Qi r).length:=Qx.mpr ho;have h1:=Wy (ks:=Qi r) (vs:=W0 (Qi r).length) (by rw [Zg]) ho;rw [Go hi] at h1;have h2:subst (Qi r) (W0 (Qi r).length) t=sg CAPS ((Qi r).idxOf t):=(Qt h1).symm;rw [h2];have hm:sg CAPS ((Qi r).idxOf t)∈W0 (Qi r).length:=Q4 (Go hi);unfold Qe7;rw [Qk hm];have hix:(W0 (Qi r).length).idxOf (sg CAPS ((Qi r).idxOf t))=(Qi r).idxOf t:=by
   have hj:(W0 (Qi r).length).idxOf (sg CAPS ((Qi r).idxOf t)) < (W0 (Qi r).length).length:=Qx.mpr hm;have hj':=hj;rw [Zg] at hj';have:=J0 hj;have h3:=Go hj';rw [Qb hj,this] at h3;exact (Qcb _ (by omega) _ (by omega) (Qt h3)).symm
  rw [hix,Qm,Qb hi,J0 hi];rfl
 ·rw [Z7 ho];unfold Qe7;rw [Qn];intro hc;exact ho (Wx.mpr ⟨Qe2 hn hc,a,ha,ht⟩)
theorem Qrf {vars:List Str} {σ:Str->Str} (hn:vars.length<=26) {t:Str} (h:Jh t=false) (e:σ t=t):Qe7 vars σ t=t:=by
 unfold Qe7;rw [Qn,e];intro hc;rw [Qe2 hn hc] at h;cases h
end K27
namespace XC
open PySem
section
variable {M:Model} {A:Around} {E:Value->Shared->Prop} {s:Shared}
abbrev fr (l:List Env):List Addr:=l.filterMap (·.frame)
def Tr0 (h:Heap) (a:Addr) (C:Value) (od:Option Addr):Prop:= ∃ oe vs,h.get? a=some oe/\oe.cls=C/\oe.dict=od/\oe.data= .fields vs/\vs[1]? =some .none
theorem Qc2 (o:Obj) (f):(o.mapFields f).dict=o.dict:=by
 obtain ⟨c,d,dt,sl⟩:=o;cases dt<;>rfl
def Tr1 (h:Heap) (a:Addr) (C:Value) (od:Option Addr) (T:Addr):Prop:= ∃ oe vs oT ts,h.get? a=some oe/\oe.cls=C/\oe.dict=od/\oe.data= .fields vs/\vs[1]? =some (.ref T)/\T≠a/\h.get? T=some oT/\oT.data= .fields ts/\ts[3]? =some .none
structure Lv (l:List Env) (ch:List Addr) (base h h':Heap):Prop where
 keep: ∀ b o,b ∉ fr l->b ∉ ch->h.get? b=some o->h'.get? b=some o
 slot: ∀ b o,b ∉ ch->h.get? b=some o-> ∃ sl,h'.get? b=some { o with slots:=sl }
 funs:h'.FunFrames base l
theorem Qbx {base:Heap} {env:Env} {outer:List Env} {L a:Addr} {oe:Obj} {vs:Array Value} {head:Value} {nx:Bool} {Q:Unit->Shared->Prop} (hfr:A.frames=some (env::outer)) (hl:s.heap.FunFrames base (env::outer)) (hf:env.frame=some L)
  (ha:s.heap.get? a=some oe) (hd:oe.data= .fields vs) (h1:1 < vs.size)
  (go: ∀ h' T,s.heap.objs.size<=T->Tr1 h' a oe.cls oe.dict T->Lv (env::outer) [a] base s.heap h'->Q () { s with heap:=h' }) :
  wpAny M A (do let f<-frameOf env;let pl<-entryPlaceOf L nx;let b<-EntryCells.newEntry head f .none (rawInt L) .none pl;setField (.ref a) 1 b) (fun _ s'=>wpAny M A (setFlight (.ref a) none) Q E s') E s:=by
 have han:a ∉ fr (env::outer):=fun hm=>by
  obtain ⟨_,o,ho,hnf⟩:=hl.mem hm;rw [ha] at ho;cases ho;exact hnf vs hd
 refine Q1 (wpAny_frameOf_fun hfr hl hf fun k1 so=> ?_);obtain ⟨sz1,so2,so3⟩:=so;refine Q1 (wpAny_entryPlaceOf fun pl hpl=> ?_);unfold EntryCells.newEntry newFields;refine Q1 (JN ?_ (hpl.sizeOk5 _ _ _ _ _));generalize hT:({ cls:= .type "traceback",dict:=none,data:= .fields ([head,.ref L,.none,rawInt L,.none]++(if pl.isEmpty then List.replicate 6 Value.none else pl)).toArray }:Obj)=oT;have hTd:oT.data= .fields ([head,.ref L,.none,rawInt L,.none]++(if pl.isEmpty then List.replicate 6 Value.none else pl)).toArray:=by rw [<- hT]
 have a1:k1.get? a=some oe:=(so2 a han).trans ha;have a2:(k1.push oT).get? a=some oe:=Q2 _ a1;have nT:k1.objs.size≠a:=JD (Qa a1);refine OG a2 hd h1 ?_;have T2:(k1.push oT).get? k1.objs.size=some oT:=Qg k1 (ZM hTd);have d3:=YW hd (·.setIfInBounds 1 (Value.ref k1.objs.size));have a3:((k1.push oT).update a (Obj.mapFields (·.setIfInBounds 1 (Value.ref k1.objs.size)))).get? a=some (Obj.mapFields (·.setIfInBounds 1 (Value.ref k1.objs.size)) oe):=WW _ a2 (ZM d3);have T3:((k1.push oT).update a (Obj.mapFields (·.setIfInBounds 1 (Value.ref k1.objs.size)))).get? k1.objs.size=some oT:=(J3 _ _ (J5 nT)).trans T2;have o3: ∀ b o,b≠a->k1.get? b=some o->((k1.push oT).update a (Obj.mapFields (·.setIfInBounds 1 (Value.ref k1.objs.size)))).get? b=some o:=fun b o hb e=>(J3 _ _ (J5 hb)).trans (Q2 _ e)
 generalize (k1.push oT).update a (Obj.mapFields (·.setIfInBounds 1 (Value.ref k1.objs.size)))=k3 at a3 T3 o3;unfold setFlight;refine Q1 (J4 a3 d3 (x:= .ref k1.objs.size) (by simp [h1]) ?_);rw [Qk (by simp:(Value.ref k1.objs.size != Value.none)=true)];have s3:3 < ([head,.ref L,.none,rawInt L,.none]++(if pl.isEmpty then List.replicate 6 Value.none else pl)).toArray.size:=by simp
 refine OG T3 hTd s3 (go _ k1.objs.size (by omega) ?_ ⟨fun b o nb nc e=> ?_,fun b o nc e=> ?_,?_⟩)
 ·have d4:=YW hTd (·.setIfInBounds 3 Value.none);refine ⟨_,_,_,_,(J3 _ _ nT).trans a3,Obj.cls_mapFields _ _,Qc2 _ _,d3,by simp [h1],nT,WW _ T3 (ZM d4),d4,?_⟩;rw [Array.getElem?_setIfInBounds_self]
  simp
 ·have hb:b≠a:=fun z=>nc (by simp [z])
  have e1:k1.get? b=some o:=(so2 b nb).trans e;exact (J3 _ _ (JD (Qa e1))).trans (o3 b o hb e1)
 ·have hb:b≠a:=fun z=>nc (by simp [z])
  obtain ⟨sl,e1⟩:=so3 b o e;exact ⟨sl,(J3 _ _ (JD (Qa e1))).trans (o3 b _ hb e1)⟩
 ·refine hl.of_keeps fun b o e hnf=> ?_
  obtain ⟨sl,e1⟩:=so3 b o e;have hb:b≠a:=fun z=>by
   rw [z,ha] at e;cases e;exact hnf vs hd
  exact ⟨_,(J3 _ _ (JD (Qa e1))).trans (o3 b _ hb e1),rfl⟩
theorem Qgz {base:Heap} {env:Env} {outer:List Env} {L a:Addr} {C:Value} {od:Option Addr} {Q:Unit->Shared->Prop} (hfr:A.frames=some (env::outer)) (hl:s.heap.FunFrames base (env::outer)) (hf:env.frame=some L) (tr:Tr0 s.heap a C od)
  (go: ∀ h' T,s.heap.objs.size<=T->Tr1 h' a C od T->Lv (env::outer) [a] base s.heap h'->Q () { s with heap:=h' }):wpAny M A (leaving env (.ref a)) Q E s:=by
 obtain ⟨oe,vs,ha,rfl,rfl,hd,h1⟩:=tr;unfold leaving noteFrame;simp only [hf];refine Q1 (Q1 (J4 ha hd h1 ?_));rw [Qn (by decide)];exact Qbx hfr hl hf ha hd (WH.mp h1).1 go
end
section
variable {prog:Program} {w:World} {A:Around} {E:Value->Shared->Prop} {h:Heap} {g:Array GenState} {d:Drawn} {t:Nat} {os:OsState}
variable {nm q:Str} {C N:Addr} {bs bm bmB:List Value} {hdct:Bool} {sn:List Str} {sub:List Value} {ab:Bool} {col:Option Bool} {dd:Option Addr} {k0 k1 k2 k3 k5:Option Value} {B Bn newId nid initId inN:String} {bmN:List Value}
abbrev Qrk (xs:List Value):Obj:={ cls:= .type "tuple",data:= .seq xs.toArray }
abbrev Qfk (C t:Addr):Obj:={ cls:= .ref C,data:= .fields #[.ref t,.none,.none,.none,.bool false,.none] }
theorem Qqo (Fn:ExcBaseFacts Bn newId inN bmN) (hBn:bmB.contains (.type Bn)=true) (F:ExcBaseFacts B nid initId bmB) (T:OwnTail h bmB bm) {mN:Str->Option Value} {xs:List Value} {Q:PySem.Fin->Shared->Prop}
  (hC:h.get? C=some (excClassObj nm q C N bs bm hdct sn sub ab col dd k0 k1 k2 k3 k5 newId)) (hn:h.Ns N mN) (hni:mN "__init__" =none) (hxs:xs.length<=sizeLine)
  (go: ∀ h' u,(∀ b o,h.get? b=some o->h'.get? b=some o)->h'.get? (h.objs.size+1)=some (Qfk C u)->Q (.done (.ret (.ref (h.objs.size+1)))) ⟨h',g,d,t,os⟩) :
  wpAny (model prog w) A (Builtin.«type.__call__» ⟨.ref C::xs,[]⟩) Q E ⟨h,g,d,t,os⟩:=by
 repeat (first | with_reducible refine UM hC ?_ | with_reducible refine wpAny_madeBy_exc hC ?_ | wp_step)
 refine codeAny_call_builtin_code (Code.quiet_builtin _ Fn.quiet) (wpAny_check_new_subU Fn hBn T hC (codeAny_exc_new_subU Fn hBn F T hC ?_ hxs));show wpAny (model prog w) _ _ _ _ _;have up: ∀ b o,h.get? b=some o->((h.push (Qrk xs)).push (Qfk C h.objs.size)).get? b=some o:=fun b o e=>Q2 _ (Q2 _ e)
 have hC1:=up _ _ hC;have hn1:((h.push (Qrk xs)).push (Qfk C h.objs.size)).Ns N mN:=let ⟨o,es,ep,e,r⟩:=hn;⟨o,es,ep,up _ _ e,r⟩;have hx:((h.push (Qrk xs)).push (Qfk C h.objs.size)).get? (h.objs.size+1)=some (Qfk C h.objs.size):=by
  have:=Qg (h.push (Qrk xs)) (o:=Qfk C h.objs.size) rfl;rwa [WV] at this
 have hcC:(Value.ref C::bm).contains (.ref C)=true:=by simp
 have T1:=T.keeps (h':=(h.push (Qrk xs)).push (Qfk C h.objs.size)) up;unfold isInstance
 repeat (first | with_reducible refine UM hx ?_ | (with_reducible refine Qnl hC1 ?_;rw [hcC]) | wp_step)
 show wpAny (model prog w) _ (typeLookup (.ref C) _) _ _ _;refine wpAny_typeLookup_tail hC1 hn1 T1 F.mroIs F.init.lookup ?_;rw [hni];refine WO (Q1 (wpAny_of_eq (F.init.bind _) ?_));refine Q1 (wpAny_call (Qlh F.init.plain F.initEntry (wpAny_check_init_subU F T1 hC1 hx rfl ?_)))
 wp_walk
 refine go _ (h.objs.size+2) (fun b o hb=> ?_) ?_
 ·rw [J3 _ _ (JD (Nat.lt_succ_of_lt (Qa hb)))];exact Q2 _ (up b o hb)
 ·rw [WW _ (Q2 _ hx) rfl];simp only [WV];rfl
theorem Qqp (Fn:ExcBaseFacts Bn newId inN bmN) (hBn:bmB.contains (.type Bn)=true) (F:ExcBaseFacts B nid initId bmB) (T:OwnTail h bmB bm) {mN:Str->Option Value} {xs:List Value} {Q:Value->Shared->Prop}
  (hC:h.get? C=some (excClassObj nm q C N bs bm hdct sn sub ab col dd k0 k1 k2 k3 k5 newId)) (hn:h.Ns N mN) (hni:mN "__init__" =none) (hxs:xs.length<=sizeLine)
  (go: ∀ h' u,(∀ b o,h.get? b=some o->h'.get? b=some o)->h'.get? (h.objs.size+1)=some (Qfk C u)->Q (.ref (h.objs.size+1)) ⟨h',g,d,t,os⟩) :
  wpAny (model prog w) A (call (.ref C) xs) Q E ⟨h,g,d,t,os⟩:=by
 have f1:=tc_lookup;have f2:=tc_bind (.ref C);have hT:(⟨h,g,d,t,os⟩:Shared).TypeIs (.ref C) "type" :=⟨_,hC,rfl⟩;refine wpAny_call (codeAny_of_tree ?_);show wpAny (model prog w) _ (callAny (.ref C) _) _ _ _
 repeat (any_goals (first | assumption | with_reducible refine UM hC ?_ | wp_step))
 refine ⟨rfl,codeAny_call_builtin_at (Code.quiet_builtin _ (by decide +kernel)) entry_typeCall (wpAny_check_type_call_sub hC (Qqo Fn hBn F T hC hn hni hxs fun h' u k e=> ?_))⟩;exact go h' u k e
end
end XC
namespace L2
open PySem PySem.Spec PyProof.Rows
def ExcAt (h:Heap) (C:Addr) (bm:List Value):Prop:= ∃ (nm q:Str) (N:Addr) (bs bmB:List Value) (hdct:Bool) (sn:List Str) (sub:List Value) (ab:Bool) (col:Option Bool) (dd:Option Addr) (k0 k1 k2 k3 k5:Option Value) (B Bn newId nid initId inN:String) (bmN:List Value) (mN:Str->Option Value),
 ExcBaseFacts Bn newId inN bmN/\bmB.contains (.type Bn)=true/\ExcBaseFacts B nid initId bmB/\OwnTail h bmB bm/\h.get? C=some (excClassObj nm q C N bs bm hdct sn sub ab col dd k0 k1 k2 k3 k5 newId)/\h.Ns N mN/\mN "__init__" =none/\bm.contains (.type "BaseException")=true
section
variable {X:Cx} {pins:List (Addr×Obj)} {σ:St} {H:Hp} {s:Shared}
theorem Qn3 {C:Addr} {bm:List Value} {x y:Str} {np cp ap pos:Pos} {k:Nat} {Q:Flow->Shared->Prop} {E:Value->Shared->Prop} (I:Inv X pins σ H s) (hg:Gl X x) (hm:X.mg x=some (.ref C)) (hc:X.calm=true) (ok: ∀ h,X.K.In h->ExcAt h C bm)
  (hs:starEach [.Constant (.str y) k ap] X.env=[(false,eval (.Constant (.str y) k ap) X.env)])
  (go: ∀ (s1:Shared) h' u,Inv X pins σ H s1->(∀ b o,s1.heap.get? b=some o->h'.get? b=some o)->h'.get? (s1.heap.objs.size+1)=some (XC.Qfk C u)->E (.ref (s1.heap.objs.size+1)) { s1 with heap:=h' })
  (hx:(x == ("__debug__" :Str))=false:=by decide):wpAny (model X.prog X.w) X.A (exec (.Raise (some (.Call (.Name x np) [.Constant (.str y) k ap] [] cp)) none pos) X.env) Q E s:=by
 obtain ⟨nm,q,N,bs,bmB,hdct,sn,sub,ab,col,dd,k0,k1,k2,k3,k5,B,Bn,newId,nid,initId,inN,bmN,mN,Fn,hBn,F,T,hC,hN,hni,hb⟩:=ok X.base I.mod.kin;rw [arm_exec_Raise];refine Q1 (GX (wpAny_raiseStmt_made_sub (C:=C) (nm:=nm) (q:=q) (N:=N) (bs:=bs) (bm:=bm) (hdct:=hdct) (sn:=sn) (sub:=sub) (ab:=ab) (col:=col) (dd:=dd) (k0:=k0) (k1:=k1) (k2:=k2) (k3:=k3) (k5:=k5) (newId:=newId) hb (I.ok.hd hc) ?_));refine Q1 (wpAny_Call_ofName (GK I hg hm ?_ hx));unfold callWith;rw [hs,show backTo cp [(false,eval (.Constant (.str y) k ap) X.env)]=[(false,eval (.Constant (.str y) k ap) X.env)] from rfl,show backToKw cp (keywordEach [] X.env)=[] from rfl];refine Q1 (WO (Qll (OQ (thn (Qp1 (j:=k) (pos:=ap) pins s σ H (fun v H1=>v= .str y/\H1=H) I ⟨rfl,rfl⟩) fun u s1 ⟨v,H1,I1,r,ev,eH⟩=>Qw2 ?_))));subst ev eH;refine Q1 (GX ?_);have up: ∀ b o,X.base.get? b=some o->s1.heap.get? b=some o:=I1.bk;have hC1:=up _ _ hC;have hN1:s1.heap.Ns N mN:=let ⟨o,es,ep,e,r⟩:=hN;⟨o,es,ep,up _ _ e,r⟩;have T1:=T.keeps (h':=s1.heap) up;obtain ⟨hp,gg,dr,tk,os⟩:=s1;refine Q1 (wpAny_keeperOf_exc hC1 ?_);refine Q1 (XC.Qqp Fn hBn F T1 hC1 hN1 hni (by show 1<=sizeLine;decide) fun h' z kp e=>Q1 (WO (wpAny_point (Qe ?_))));refine Q1 (GX (Qe ⟨_,z,rfl,kp _ _ hC1,e,go _ h' z I1 kp e⟩))
end
def CXe (P:Program) (w:World) (C:Addr):CXT:=fun outer H s E e s'=> ∃ a T H',e= .ref a/\s'.os=s.os/\AllBare s'.gens/\Un (frs outer) [] H H' s.heap s'.heap/\HOk P w H' s'.heap/\s.heap.objs.size<=a/\s.heap.objs.size<=T/\H' a=none/\H' T=none/\XC.Tr1 s'.heap a (.ref C) none T/\E (.ref C) none H'
theorem Qu6 {X:Cx} {pins:List (Addr×Obj)} {σ:St} {H:Hp} {s:Shared} {ch:List Addr} {base h' h'':Heap} (I:Inv X pins σ H s) (hst:X.stack=X.env::X.outer) (hfr:X.env.frame=some X.env.locals) (hex:X.ex=[])
  (kp: ∀ b o,b ∉ ch->s.heap.get? b=some o->h'.get? b=some o) (lv:XC.Lv X.stack ch base h' h'') (hch: ∀ b∈ch,X.s₀.heap.objs.size<=b/\H b=none) :
  Un (frs X.outer) [] X.H₀ H X.s₀.heap h''/\HOk X.prog X.w H h'':=by
 have nch: ∀ b o,X.s₀.heap.get? b=some o->b ∉ ch:=fun b o e z=>absurd (Qr (Qa e) (hch b z).1) (W8 _)
 have nfr: ∀ b o,X.s₀.heap.get? b=some o->b ∉ frs X.outer->b ∉ XC.fr X.stack:=fun b o e n z=>by
  have z':b∈(X.env::X.outer).filterMap (·.frame):=by rw [<- hst];exact z
  rw [Wu,hfr] at z';rcases Qd.mp z' with q | q
  ·exact absurd (Qr (Qa e) (by rw [q];exact I.ok.above)) (W8 _)
  ·exact n q
 have hx: ∀ b,b ∉ X.ex:=fun b=>by rw [hex];exact QV
 refine ⟨⟨fun b o e n hb _=> ?_,fun b o e n hb _=> ?_,fun b o e n _=>I.base.free b o e n (hx b),fun b o e _=> ?_,I.base.tups,I.base.frzs,I.base.tbls⟩,fun b u e=> ?_⟩
 ·exact lv.keep b o (nfr b o e hb) (nch b o e) (kp b o (nch b o e) (I.base.keep b o e n hb (hx b)))
 ·obtain ⟨sl,e1⟩:=I.base.slot b o e n hb (hx b);obtain ⟨sl',e2⟩:=lv.slot b _ (nch b o e) (kp b _ (nch b o e) e1);exact ⟨sl',e2⟩
 ·obtain ⟨o',e1⟩:=I.base.there b o e (hx b);obtain ⟨sl',e2⟩:=lv.slot b _ (nch b o e) (kp b _ (nch b o e) e1);exact ⟨_,e2⟩
 ·have tr: ∀ c,(c=b \/ H c=some (.own b))->H c≠none:=fun c hc z=>by
   rcases hc with q | q
   ·rw [q,e] at z;cases z
   ·rw [q] at z;cases z
  refine (I.hok b u e).stay (fun c v hc q=> ?_) (fun _ q=>q) fun _ _ q=>q
  have n1:c ∉ ch:=fun z=>tr c hc (hch c z).2
  have n2:c ∉ XC.fr X.stack:=fun z=>tr c hc (I.stkFree c z)
  exact lv.keep c v n2 n1 (kp c v n1 q)
structure QX (X:Cx) (H₀:Hp) (τ:List Sl) (st:Stmt):Prop where
 pe:PS X st (fun _ σ H=>EnvO X.K H₀ H σ τ)
structure QXs (X:Cx) (H₀:Hp) (τ:List Sl) (sts:List Stmt):Prop where
 pe:PSs X sts (fun _ σ H=>EnvO X.K H₀ H σ τ)
section
variable {X:Cx} {H₀:Hp} {τ τ1:List Sl} {st:Stmt} {rest:List Stmt} {m:Bool} {e c:Expr} {es:List Expr} {pos:Pos}
theorem Qef (h:QX X H₀ τ st):QXs X H₀ τ (st::rest):=⟨(Bq h.pe (ZH (sts:=rest))).imp fun D σ H q=>q⟩
theorem Qjs (h1:QO X H₀ τ st (.next m τ1)) (h2:QXs X H₀ τ1 rest):QXs X H₀ τ (st::rest):=⟨(Bq h1.pe h2.pe).imp fun D σ H q=>⟨q,fun σ' H' _ he=>he⟩⟩
theorem Qyl {k:Bool} {A B:List Stmt} (hc:PB X (dat τ) c k) (ha:k=true->QXs X H₀ τ A) (hb:k=false->QXs X H₀ τ B):QX X H₀ τ (.If c A B pos):=by
 cases k with
 | true=>exact ⟨(Qd5 hc.pe (ha rfl).pe (ZH (sts:=B))).imp fun D σ H q=>⟨q.env,fun H' s=>Qbk (q.step s)⟩⟩
 | false=>exact ⟨(Qd5 hc.pe (ZH (sts:=A)) (hb rfl).pe).imp fun D σ H q=>⟨q.env,fun H' s=>OT (q.step s)⟩⟩
end
def spX (K:W.Frag) (n:Nat) (C:Addr) (R:List D->Prop):Sp:=fun vs H _ E=>vs.length=n/\(∃ ds,Va K H ds vs/\R ds)/\ ∀ H',Same H H'->E (.ref C) none H'
def PrX (P:Program) (w:World) (K:W.Frag) (mg:Str->Option Value) (base:Heap) (x:Str) (k:Nat) (ps:List Str) (C:Addr) (R:List D->Prop):Prop :=
 ∃ f fd,mg x=some (.ref f)/\W.keepIn K (.ref f)=true/\Binds K fd ps []/\FnOk P w K mg base (CXe P w C) k f fd ps (spX K ps.length C R)
section
variable {P:Program} {w:World} {K:W.Frag} {mg:Str->Option Value} {base:Heap}
theorem Jaq {x:Str} {st:Stmt} {N ps:List Str} {k:Nat} {C:Addr} {R:List D->Prop} (F:Fd K mg x st ps) (S:Vf N ps (Vs st)) (hl:ps.length<=N.length)
  (hb: ∀ (f:Addr) (cdv:Value) (A:Around) (outer:List Env) (s:Shared) (H:Hp) (E:XK) (ds:List D),Room k (A.deeper (envOfC x (Vs st) s.heap.objs.size f cdv))->R ds->ds.length=ps.length->(∀ H',Same H H'->E (.ref C) none H') ->
   QXs (Ug (CXe P w C) P w K mg base N x (Vs st) f cdv A outer s H E) H (args ds N.length) (W7 st)):PrX P w K mg base x (k+1) ps C R:=by
 obtain ⟨f,fd,hm,hf,hbi⟩:=F;refine ⟨f,fd,hm,hf.kp,hbi,?_⟩;obtain ⟨oc,od,kV,doc,pm,an,cdv,ct,osl,rfl,lk,hcd⟩:=hf.ex;refine Qvl lk hcd S (fun vs H Q E h=>h.1) fun A outer s H vs Q E hr h=> ?_
 obtain ⟨hn,⟨ds,ia,hR⟩,hE⟩:=h;have hd:ds.length=ps.length:=by rw [ia.length];exact hn
 exact ⟨_,(hb f cdv A outer s H E ds hr hR hd hE).pe,UG ia (by omega)⟩
variable {C f:Addr} {cdv:Value} {A:Around} {outer:List Env} {s0:Shared} {H0:Hp} {E:XK} {N:List Str} {qual:Str} {scope:Scope} {τ:List Sl}
theorem Qjt {bm:List Value} {x y:Str} {np cp ap pos:Pos} {k:Nat} (hE: ∀ H',Same H0 H'->E (.ref C) none H') (hm:mg x=some (.ref C)) (ok: ∀ h,K.In h->ExcAt h C bm)
  (hg:Gl (Ug (CXe P w C) P w K mg base N qual scope f cdv A outer s0 H0 E) x:=by rfl)
  (hs:starEach [.Constant (.str y) k ap] (Ug (CXe P w C) P w K mg base N qual scope f cdv A outer s0 H0 E).env=[(false,eval (.Constant (.str y) k ap) (Ug (CXe P w C) P w K mg base N qual scope f cdv A outer s0 H0 E).env)]:=by rfl)
  (hx:(x == ("__debug__" :Str))=false:=by decide) :
  QX (Ug (CXe P w C) P w K mg base N qual scope f cdv A outer s0 H0 E) H0 τ (.Raise (some (.Call (.Name x np) [.Constant (.str y) k ap] [] cp)) none pos):=by
 refine ⟨fun pins s σ H D I q=>Qn3 I hg hm rfl ok hs (fun s1 h' u I1 kp e=> ?_) hx⟩;have I2:Inv (Ug (CXe P w C) P w K mg base N qual scope f cdv A outer s0 H0 E) pins σ H { s1 with heap:=h' }:=I1.kept (t':=s1.toks) kp;have al:s1.heap.objs.size+1 < h'.objs.size:=Qa e;have sz:s0.heap.objs.size<=s1.heap.objs.size:=I1.sz;have na:H (s1.heap.objs.size+1)=none:=I1.hok.fresh (Yx _);refine XC.Qgz (s:={ s1 with heap:=h' }) (base:=base) I1.ok.frames I2.stack rfl ⟨_,_,e,rfl,rfl,rfl,rfl⟩ fun h'' T hT tr lv=> ?_
 have hT':h'.objs.size<=T:=hT;have nT:H T=none:=I1.hok.fresh (by omega);obtain ⟨un,hok⟩:=Qu6 (ch:=[s1.heap.objs.size+1]) I1 rfl rfl rfl (fun b o _ z=>kp b o z) lv (fun b hb=>by
  have:b=s1.heap.objs.size+1:=by simpa using hb
  subst this;exact ⟨Qz sz (Yx _),na⟩)
 exact ⟨_,T,H,rfl,I1.os,I1.bare,un,hok,Qz sz (Yx _),by omega,na,nT,tr,hE _ q.same⟩
end
end L2
namespace XC
open PySem
section
variable {M:Model} {A:Around} {E:Value->Shared->Prop} {s:Shared}
theorem Qdk {base:Heap} {env:Env} {outer:List Env} {L a T:Addr} {C:Value} {od:Option Addr} {Q:Unit->Shared->Prop} (hfr:A.frames=some (env::outer)) (hl:s.heap.FunFrames base (env::outer)) (hf:env.frame=some L) (tr:Tr1 s.heap a C od T)
  (go: ∀ h' T',s.heap.objs.size<=T'->Tr1 h' a C od T'->Lv (env::outer) [a,T] base s.heap h'->Q () { s with heap:=h' }):wpAny M A (noteFrame (.ref a) env) (fun _ s'=>wpAny M A (setFlight (.ref a) none) Q E s') E s:=by
 obtain ⟨oe,vs,oT,ts,ha,rfl,rfl,hd,h1,nT,hT,hTd,h3⟩:=tr;unfold noteFrame;simp only [hf];refine Q1 (J4 ha hd h1 ?_);rw [Qk (by simp:(Value.ref T != Value.none)=true)];refine Q1 (J4 hT hTd h3 ?_);rw [Qn (by simp [rawInt]: ¬ ((Value.none == rawInt L)=true))];refine Q1 (OG hT hTd (WH.mp h3).1 ?_);have d1:=YW hTd (·.setIfInBounds 3 Value.none);have T1:(s.heap.update T (Obj.mapFields (·.setIfInBounds 3 Value.none))).get? T=some (Obj.mapFields (·.setIfInBounds 3 Value.none) oT):=WW _ hT (ZM d1);have oth: ∀ b,b≠T->(s.heap.update T (Obj.mapFields (·.setIfInBounds 3 Value.none))).get? b=s.heap.get? b:=fun b hb=>J3 _ _ (J5 hb)
 have hsz:(s.heap.update T (Obj.mapFields (·.setIfInBounds 3 Value.none))).objs.size=s.heap.objs.size:=Heap.size_update ..;have hl1:(s.heap.update T (Obj.mapFields (·.setIfInBounds 3 Value.none))).FunFrames base (env::outer):=hl.of_keeps fun b o e hnf=>by
  have hb:b≠T:=fun z=>by
   rw [z,hT] at e;cases e;exact hnf ts hTd
  exact ⟨o,(oth b hb).trans e,rfl⟩
 refine Qbx (s:={ s with heap:=s.heap.update T (Obj.mapFields (·.setIfInBounds 3 Value.none)) }) hfr hl1 hf ((oth a (J5 nT)).trans ha) hd (WH.mp h1).1 fun h' T' hT' tr' lv=>go h' T' (by rw [<- hsz];exact hT') tr' ⟨fun b o nb nc e=> ?_,fun b o nc e=> ?_,lv.funs⟩
 ·have n1:b≠T:=fun z=>nc (by simp [z])
  have n2:b ∉ [a]:=fun z=>nc (by simp at z;simp [z])
  exact lv.keep b o nb n2 ((oth b n1).trans e)
 ·have n1:b≠T:=fun z=>nc (by simp [z])
  have n2:b ∉ [a]:=fun z=>nc (by simp at z;simp [z])
  exact lv.slot b o n2 ((oth b n1).trans e)
end
section
variable {M:Model} {A:Around} {E:Value->Shared->Prop}
variable {nm q:Str} {C N:Addr} {bs bm:List Value} {hdct:Bool} {sn:List Str} {sub:List Value} {ab:Bool} {col:Option Bool} {dd:Option Addr} {k0 k1 k2 k3 k5:Option Value} {newId:String}
variable {nm' q':Str} {C' N':Addr} {bs' bm':List Value} {hdct':Bool} {sn':List Str} {sub':List Value} {ab':Bool} {col':Option Bool} {dd':Option Addr} {k0' k1' k2' k3' k5':Option Value} {newId':String}
theorem Ou {h:Heap} {g:Array GenState} {d:Drawn} {t:Nat} {os:OsState} {e:Addr} {oe:Obj} {b:Bool} {Q:Bool->Shared->Prop}
  (hC:h.get? C=some (excClassObj nm q C N bs bm hdct sn sub ab col dd k0 k1 k2 k3 k5 newId)) (hC':h.get? C'=some (excClassObj nm' q' C' N' bs' bm' hdct' sn' sub' ab' col' dd' k0' k1' k2' k3' k5' newId'))
  (he:h.get? e=some oe) (hcls:oe.cls= .ref C) (hbase:bm'.contains (.type "BaseException")=true) (hb:(Value.ref C::bm).contains (.ref C')=b)
  (hq:Q b ⟨h,g,d,t,os⟩):wpAny M A (excMatches (.ref e) (.ref C')) Q E ⟨h,g,d,t,os⟩:=by
 have hcB:(Value.ref C'::bm').contains (.type "BaseException")=true:=by rw [List.contains_cons,hbase,Bool.or_true]
 have f:=tc_notTuple;unfold excMatches
 repeat (first | (with_reducible refine UM he ?_;rw [hcls]) | with_reducible refine UM hC' ?_ | (with_reducible refine Qnl hC' ?_;rw [hcB]) | (with_reducible refine Qnl hC ?_;rw [hb]) | wp_step)
 cases b<;>(wp_walk;exact hq)
end
end XC
namespace L2
open PySem PySem.Spec PyProof.Rows
def Cx.caught (X:Cx) (a:Addr) (oe:Obj):Cx:={ X with A:=X.A.mark (some (.ref a)),calm:=false,pn:=(a,oe)::X.pn,xe:=fun _ _=>False }
section
variable {X:Cx} {pins:List (Addr×Obj)} {σ:St} {H H' H₀:Hp} {s:Shared} {a:Addr} {oe:Obj} {τ:List Sl}
theorem Inv.mark (I:Inv X pins σ H s) (h1:s.heap.get? a=some oe) (f:FpOk X pins H a) (hd: ∀ v,oe.data≠ .cell v):Inv (X.caught a oe) pins σ H s :=
 ⟨⟨I.ok.mod,I.ok.kind,I.ok.glob,I.ok.blt,I.ok.above,I.ok.inj,I.ok.has,I.ok.cab,(fun z=>Bool.noConfusion z),I.ok.frames,I.ok.stk,I.ok.exf,I.ok.bs,I.ok.bsz,I.ok.noex,I.ok.exfs,I.ok.funs,I.ok.frf⟩,I.os,I.bare,I.base,I.loc,I.cell,I.free,I.freeC,
  fun p hp=>by
   have hp':p=(a,oe) \/ p∈X.pn++pins:=by simpa [Cx.caught] using hp
   rcases hp' with rfl | hp'
   ·exact ⟨h1,f.1,f.2.1,f.2.2.1,hd⟩
   ·exact I.pin p hp',I.hok,I.len⟩
theorem Inv.unmark (ok:X.Ok) (I:Inv (X.caught a oe) pins σ H s):Inv X pins σ H s :=
 ⟨ok,I.os,I.bare,I.base,I.loc,I.cell,I.free,I.freeC,fun p hp=>I.pin p (by
   have:p∈(a,oe)::(X.pn++pins):=Q9 _ hp;simpa [Cx.caught] using this),I.hok,I.len⟩
theorem Inv.landed {ch:List Addr} {base h':Heap} {l:List Env} (I:Inv X pins σ H s) (hl:l=X.stack) (lv:XC.Lv l ch base s.heap h') (hch: ∀ b∈ch,FpOk X pins H b):Inv X pins σ H { s with heap:=h' }:=by
 subst hl;have trk: ∀ c,H c≠none->c ∉ ch/\c ∉ XC.fr X.stack:=fun c hc=>⟨fun z=>hc (hch c z).1,fun z=>hc (I.stkFree c z)⟩
 refine I.call' (ch:=ch) (s':={ s with heap:=h' }) rfl ⟨fun b o e n hb hx=>lv.keep b o hb hx e,fun b o e n hb hx=>lv.slot b o hx e,fun b o e n hx=>n,fun b o e hx=> ?_,fun _ _ e=>e,fun _ _ _ e=>e,fun b ps e=>⟨#[],by rw [e];simp⟩⟩ (fun b u e=> ?_) I.bare fun b hb=> ?_
 ·obtain ⟨sl,e1⟩:=lv.slot b o hx e;exact ⟨_,e1⟩
 ·refine (I.hok b u e).stay (fun c v hc q=> ?_) (fun _ q=>q) fun _ _ q=>q
  have hn:H c≠none:=fun z=>by
   rcases hc with q | q
   ·rw [q,e] at z;cases z
   ·rw [q] at z;cases z
  exact lv.keep c v (trk c hn).2 (trk c hn).1 q
 ·obtain ⟨f1,f2,f3,f4,f5,f6⟩:=hch b hb;exact ⟨f4,f2,f5,f6⟩
theorem Qlo {M:Model} {A:Around} {E:Value->Shared->Prop} {i:Nat} {x:Str} {pos:Pos} {Q:Unit->Shared->Prop} (I:Inv X pins σ H s) (hN:X.N.Nodup) (hi:X.N[i]? =some x) (hk:X.env.scope.names.lookup x=some .local)
  (h: ∀ s',Inv X pins (σ.set i none) H s'->Q () s'):wpAny M A (do bindName X.env x .none;unbindBehindTheSuite X.env x pos) Q E s:=by
 obtain ⟨m,hn,hl⟩:=id I.loc;have hcls:(X.env.scope.kind == .class || (X.env.scope.kind == .module && X.env.locals != X.env.globals))=false:=by rw [I.ok.kind];rfl
 have hiσ:i < σ.length:=by rw [I.len];exact (Q5.mp hi).1
 have cne:=I.cne;refine wpAny_nameGoes_keeps hk hn hcls fun h' v hn' hs=> ?_
 obtain ⟨oL,_,_,hoL,_⟩:=id hn;refine h _ ⟨I.ok,I.os,I.bare,⟨fun b o e n hb hx=> ?_,fun b o e n hb hx=> ?_,I.base.free,fun b o e hx=> ?_,I.base.tups,I.base.frzs,I.base.tbls⟩,⟨_,hn',fun j y v' e1 e2 e3=> ?_⟩,fun y c e=> ?_,I.free,I.freeC,fun p hp=> ?_,fun b ob e=> ?_,by simpa using I.len⟩
 ·exact (hs.2 b (Qq (Qr (Qa e) I.ok.above))).trans (I.base.keep b o e n hb hx)
 ·obtain ⟨sl,e1⟩:=I.base.slot b o e n hb hx;exact ⟨sl,(hs.2 b (Qq (Qr (Qa e) I.ok.above))).trans e1⟩
 ·obtain ⟨o',e1⟩:=I.base.there b o e hx;exact ⟨o',(hs.2 b (Qq (Qr (Qa e) I.ok.above))).trans e1⟩
 ·by_cases hj:j=i
  ·subst hj;rw [Qu hiσ] at e2;cases e2
  ·rw [Qc (J5 hj)] at e2;obtain ⟨u',r',q⟩:=hl j y v' e1 e2 e3;refine ⟨u',r',?_⟩;rcases q with ⟨k,e⟩ | ⟨k,c,e,z⟩
   ·refine .inl ⟨k,?_⟩;have:y≠x:=fun e=>hj (Qbe hN e1 (e ▸ hi))
    simp [this,e]
   ·exact .inr ⟨k,c,e,z.sameBut hs (cne y c e)⟩
 ·obtain ⟨w',z⟩:=I.cell y c e;exact ⟨w',z.sameBut hs (cne y c e)⟩
 ·obtain ⟨e,n,ne,nf,d⟩:=I.pin p hp;exact ⟨(hs.2 p.1 ne).trans e,n,ne,nf,d⟩
 ·refine (I.hok b ob e).stay (fun c w' hc q=>(hs.2 c ?_).trans q) (fun _ q=>q) fun _ _ q=>q
  rintro rfl;rcases hc with rfl | hc
  ·rw [I.free] at e;cases e
  ·rw [I.free] at hc;cases hc
theorem EnvO.forget {K:W.Frag} {o:Option V} {i:Nat} (h:EnvO K H₀ H σ τ) (hi:τ[i]? =some .no):EnvO K H₀ H (σ.set i o) τ:=by
 have hlt:i < σ.length:=by rw [h.len];exact (Q5.mp hi).1
 have ne: ∀ {j:Nat} {u:Sl},τ[j]? =some u->u≠ .no->i≠j:=fun e n z=>by
  rw [<- z,hi] at e;cases e;exact n rfl
 refine ⟨h.same,by simpa using h.len,fun j u e=> ?_,fun j k ds es p hjk e1 e2 e3=> ?_,fun j k ks ks' ds es p hjk e1 e2 e3=> ?_⟩
 ·by_cases hj:i=j
  ·subst hj;rw [hi] at e;cases e;exact ⟨o,Qu hlt,Wn⟩
  ·rw [Qc hj];exact h.sl j u e
 ·rw [Qc (ne e1 (fun z=>nomatch z))] at e3;rw [Qc (ne e2 (fun z=>nomatch z))];exact h.apart j k ds es p hjk e1 e2 e3
 ·rw [Qc (ne e1 (fun z=>nomatch z))] at e3;rw [Qc (ne e2 (fun z=>nomatch z))];exact h.apD j k ks ks' ds es p hjk e1 e2 e3
theorem Qye {ρ:List (Option D)} {k:Nat} {ps:List Str} {C:Addr} {R:List D->Prop} {x:Str} {p pos:Pos} {e:Expr} {es:List Expr} {ds:List D} {Q:Value->Shared->Prop} {E:Value->Shared->Prop} (I:Inv X pins σ H s) (nx: ∀ e s,¬ X.xe e s) (F:PrX X.prog X.w X.K X.mg X.base x k ps C R) (hr:Room k X.A)
  (ha:PDs X ρ (e::es) ds) (hR:R ds) (hn:ds.length=ps.length) (hg:Gl X x) (hdb:(x == ("__debug__" :Str))=false)
  (he:starEach (e::es) X.env=(false,eval e X.env)::starEach es X.env) (hpl:(backTo pos (starEach es X.env)).any (·.1)=false) (hE:EnvIs X.K H σ ρ)
  (go: ∀ s' a T H',Inv X pins σ H' s'->Same H H'->FpOk X pins H' a->FpOk X pins H' T->XC.Tr1 s'.heap a (.ref C) none T->E (.ref a) s'):wpAny (model X.prog X.w) X.A (eval (.Call (.Name x p) (e::es) [] pos) X.env) Q E s:=by
 obtain ⟨f,fd,hm,hk,hb,F⟩:=F;refine OH (GK I hg hm ?_ hdb);refine W.callWith_K (h₀:=X.base) I.ok.mod.kin hk (Jo (ha.pe pos pins s σ H (fun vs H1=>Same H H1/\Va X.K H1 ds vs) I ⟨hE,fun vs H1 s1 i1=>⟨s1,i1⟩⟩) (fun us s1 ⟨vs,H1,I1,r,s2,i2⟩=>⟨I1.kIn,?_⟩) fun e s z=>(nx e s z).elim) he hpl;have hl:us.length=ps.length:=by rw [<- r.length,<- i2.length];exact hn
 have hb':=hb s1 us I1.kIn (by rw [JM];exact hl);rw [JM] at hb';refine wpAny_call (Qvx (F.run X.A X.stack s1 H1 ⟨us,[]⟩ us vs (fun _ _=>False) (fun _ _ H'=>Same H1 H') hr I1.env0 hb' r ⟨by rw [<- i2.length];exact hn,⟨ds,i2,hR⟩,fun H' z=>z⟩) fun r s' hq=> ?_);cases r with
 | error e =>
  obtain ⟨a,T,H',rfl,os,bare,un,hok,ha,hT,na,nT,tr,hS⟩:=hq;have I':Inv X pins σ H' s':=I1.call' (ch:=[]) os un hok bare (fun b hb=>nomatch hb);exact go s' a T H' I' (s2.trans hS) (I1.fpOk ha na) (I1.fpOk hT nT) tr
 | ok fl =>
  cases fl with
  | ret u=>obtain ⟨_,_,_,_,_,_,_,z⟩:=hq;exact z.elim
  | next=>exact hq.elim
  | brk=>exact hq.elim
  | cont=>exact hq.elim
end
section
variable {X:Cx} {pins:List (Addr×Obj)} {H₀:Hp} {τ τ1:List Sl} {C Ch:Addr} {bm bmh:List Value}
def Rs (X:Cx) (H₀:Hp) (τ:List Sl) (C:Addr) (sts:List Stmt):Prop:= ∀ (pins:List (Addr×Obj)) (s:Shared) (σ:St) (H:Hp) (Q:Flow->Shared->Prop) (E:Value->Shared->Prop),Inv X pins σ H s->EnvO X.K H₀ H σ τ ->
 (∀ s' a T H',Inv X pins σ H' s'->Same H H'->FpOk X pins H' a->FpOk X pins H' T->XC.Tr1 s'.heap a (.ref C) none T->E (.ref a) s')->wpAny (model X.prog X.w) X.A (execs sts X.env) Q E s
theorem Qwn {k:Nat} {ps:List Str} {R:List D->Prop} {x y:Str} {p p' pos spos:Pos} {e:Expr} {es:List Expr} {ds:List D} {rest:List Stmt} (nx: ∀ e s,¬ X.xe e s) (F:PrX X.prog X.w X.K X.mg X.base x k ps C R) (hr:Room k X.A)
  (ha:PDs X (dat τ) (e::es) ds) (hR:R ds) (hn:ds.length=ps.length:=by rfl) (hg:Gl X x:=by rfl) (hdb:(x == ("__debug__" :Str))=false:=by decide)
  (he:starEach (e::es) X.env=(false,eval e X.env)::starEach es X.env:=by rfl) (hpl:(backTo pos (starEach es X.env)).any (·.1)=false:=by rfl)
  (hs:swapsWith (.Call (.Name x p) (e::es) [] pos) (some (.Name y p')) spos.line X.env=pure false:=by rfl) :
  Rs X H₀ τ C (.Assign [.Name y p'] (.Call (.Name x p) (e::es) [] pos) spos::rest):=fun pins s σ H Q E I q go =>
 wpAny_execs_cons (wpAny_Assign_Name (Qye I nx F hr ha hR hn hg hdb he hpl q.env go) hs)
theorem Qxh {body:List Stmt} {hx n:Str} {hp hpos pos:Pos} {b0:Stmt} {suite:List Stmt} {hs:List ExceptHandler} {i:Nat} {m:Bool} (hb:Rs X H₀ τ C body) (hst:X.stack=X.env::X.outer) (hfr:X.env.frame=some X.env.locals)
  (hm:X.mg hx=some (.ref Ch)) (okC: ∀ h,X.K.In h->ExcAt h C bm) (okH: ∀ h,X.K.In h->ExcAt h Ch bmh) (hin:(Value.ref C::bm).contains (.ref Ch)=true) (hi:τ[i]? =some .no) (hi1:τ1[i]? =some .no) (hN:X.N.Nodup)
  (su: ∀ a oe vs,oe.cls= .ref C->oe.dict=none->oe.data= .fields vs->PSs (X.caught a oe) (b0::suite) (fun Dd σ H=>EnvO X.K H₀ H σ τ/\σ[i]? =some (some (.ref a))/\ ∀ σ' H',Rl m H H'->EnvO X.K H₀ H' σ' τ1->Dd.nx σ' H'))
  (hNi:X.N[i]? =some n:=by rfl) (hk:X.env.scope.names.lookup n=some .local:=by rfl) (hg:Gl X hx:=by rfl) (hd:(hx == ("__debug__" :Str))=false:=by decide) :
  QO X H₀ τ (.Try body (.ExceptHandler (some (.Name hx hp)) (some n) (b0::suite) hpos::hs) [] [] pos) (.next m τ1):=by
 refine ⟨fun pins s σ H Dd I q=> ?_⟩;obtain ⟨q1,q2⟩:=q;refine wpAny_Try_except (hb pins s σ H _ _ I q1 fun s' a T H' I' sm fa fT tr=> ?_);refine XC.Qdk (base:=X.base) (outer:=X.outer) (by rw [<- hst];exact I'.ok.frames) (by rw [<- hst];exact I'.stack) hfr tr fun h' T' hT' tr' lv=> ?_
 have I2:Inv X pins σ H' { s' with heap:=h' }:=I'.landed hst.symm lv fun b hb=>by
  simp only [Qd,QV,JX] at hb;rcases hb with rfl | rfl
  ·exact fa
  ·exact fT
 have fT':FpOk X pins H' T':=I'.fpOk hT' (I'.hok.fresh hT');obtain ⟨oe,vs,oT,ts,hae,hcl,hdc,hdt,hv1,nTa,hTe,hTd,ht3⟩:=tr';have I3:Inv (X.caught a oe) pins σ H' { s' with heap:=h' }:=I2.mark hae fa (fun v z=>by rw [hdt] at z;cases z);have hnb:(Value.ref a)≠byPass:=fun z=>nomatch z
 refine wpAny_handleBy_cons (codeAny_handlers_test (GK (X:=X.caught a oe) I3 hg hm ?_ hd)) hnb;obtain ⟨nm,qn,N,bs,bmB,hdct,sn,sub,ab,col,dd,k0,k1,k2,k3,k5,B,Bn,newId,nid,initId,inN,bmN,mN,Fn,hBn,F,Tl,hC,hNs,hni,hbase⟩:=okC X.base I.mod.kin;obtain ⟨nm',qn',N',bs',bmB',hdct',sn',sub',ab',col',dd',k0',k1',k2',k3',k5',B',Bn',newId',nid',initId',inN',bmN',mN',Fn',hBn',F',Tl',hC',hNs',hni',hbase'⟩:=okH X.base I.mod.kin;have up: ∀ b o,X.base.get? b=some o->h'.get? b=some o:=I2.bk;refine XC.Ou (up _ _ hC) (up _ _ hC') hae hcl hbase' hin ?_;refine codeAny_handlers_suite_as (wpAny_setFlight_none hae hdt hv1 hTe hTd (WH.mp ht3).1 ?_);have pinT: ∀ p∈(X.caught a oe).pn++pins,p.1≠T':=fun p hp=>by
  have hp':p=(a,oe) \/ p∈X.pn++pins:=by simpa [Cx.caught] using hp
  rcases hp' with rfl | hp'
  ·exact J5 nTa
  ·exact fT'.2.2.2.2.2 p hp'
 have I4:Inv (X.caught a oe) pins σ H' { s' with heap:=h'.update T' (Obj.mapFields (·.setIfInBounds 3 Value.none)) } :=
  Inv.turned (s:={ s' with heap:=h' }) (t':=s'.toks) (it:=T') I3 (fun b o nb e=>(J3 _ _ (J5 nb)).trans e) fT'.1 fT'.2.1 fT'.2.2.2.1 fT'.2.2.2.2.1 pinT
 refine Bl (X:=X.caught a oe) (v:= .ref a) I4 hN hNi (.inl hk) rfl (fun s5 I5=> ?_) (.inr hk);have hiσ:i < σ.length:=by rw [q1.len];exact (Q5.mp hi).1
 refine Jo (su a oe vs hcl hdc hdt pins s5 _ H' { nx:=fun σ' H2=>Rl m H' H2/\EnvO X.K H₀ H2 σ' τ1,rt:=fun _ _=>False } I5 ⟨(q1.step sm).forget hi,Qu hiσ,fun σ' H2 r e=>⟨r,e⟩⟩) (fun f s6 hf=> ?_) fun _ _ z=>False.elim z
 cases f with
 | next =>
  obtain ⟨σ',H2,I6,r6,e6⟩:=hf;refine Qlo (Inv.unmark I.ok I6) hN hNi hk fun s7 I7=>⟨_,H2,I7,q2 _ H2 ?_ (e6.forget hi1)⟩
  exact ((Rl.of (m:=true) sm).trans r6).weak (by cases m<;>simp)
 | brk=>obtain ⟨_,_,_,z⟩:=hf;exact z.elim
 | cont=>obtain ⟨_,_,_,z⟩:=hf;exact z.elim
 | ret v=>obtain ⟨_,_,_,_,_,z⟩:=hf;exact z.elim
theorem Qtu {body:List Stmt} {hx:Str} {hp hpos pos:Pos} {b0:Stmt} {suite:List Stmt} {hs:List ExceptHandler} {m:Bool} (hb:Rs X H₀ τ C body) (hst:X.stack=X.env::X.outer) (hfr:X.env.frame=some X.env.locals)
  (hm:X.mg hx=some (.ref Ch)) (okC: ∀ h,X.K.In h->ExcAt h C bm) (okH: ∀ h,X.K.In h->ExcAt h Ch bmh) (hin:(Value.ref C::bm).contains (.ref Ch)=true)
  (su: ∀ a oe vs,oe.cls= .ref C->oe.dict=none->oe.data= .fields vs->QOs (X.caught a oe) H₀ τ (b0::suite) (.next m τ1))
  (hg:Gl X hx:=by rfl) (hd:(hx == ("__debug__" :Str))=false:=by decide) :
  QO X H₀ τ (.Try body (.ExceptHandler (some (.Name hx hp)) none (b0::suite) hpos::hs) [] [] pos) (.next m τ1):=by
 refine ⟨fun pins s σ H Dd I q=> ?_⟩;obtain ⟨q1,q2⟩:=q;refine wpAny_Try_except (hb pins s σ H _ _ I q1 fun s' a T H' I' sm fa fT tr=> ?_);refine XC.Qdk (base:=X.base) (outer:=X.outer) (by rw [<- hst];exact I'.ok.frames) (by rw [<- hst];exact I'.stack) hfr tr fun h' T' hT' tr' lv=> ?_
 have I2:Inv X pins σ H' { s' with heap:=h' }:=I'.landed hst.symm lv fun b hb=>by
  simp only [Qd,QV,JX] at hb;rcases hb with rfl | rfl
  ·exact fa
  ·exact fT
 have fT':FpOk X pins H' T':=I'.fpOk hT' (I'.hok.fresh hT');obtain ⟨oe,vs,oT,ts,hae,hcl,hdc,hdt,hv1,nTa,hTe,hTd,ht3⟩:=tr';have I3:Inv (X.caught a oe) pins σ H' { s' with heap:=h' }:=I2.mark hae fa (fun v z=>by rw [hdt] at z;cases z);have hnb:(Value.ref a)≠byPass:=fun z=>nomatch z
 refine wpAny_handleBy_cons (codeAny_handlers_test (GK (X:=X.caught a oe) I3 hg hm ?_ hd)) hnb;obtain ⟨nm,qn,N,bs,bmB,hdct,sn,sub,ab,col,dd,k0,k1,k2,k3,k5,B,Bn,newId,nid,initId,inN,bmN,mN,Fn,hBn,F,Tl,hC,hNs,hni,hbase⟩:=okC X.base I.mod.kin;obtain ⟨nm',qn',N',bs',bmB',hdct',sn',sub',ab',col',dd',k0',k1',k2',k3',k5',B',Bn',newId',nid',initId',inN',bmN',mN',Fn',hBn',F',Tl',hC',hNs',hni',hbase'⟩:=okH X.base I.mod.kin;have up: ∀ b o,X.base.get? b=some o->h'.get? b=some o:=I2.bk;refine XC.Ou (up _ _ hC) (up _ _ hC') hae hcl hbase' hin ?_;refine codeAny_handlers_suite (wpAny_setFlight_none hae hdt hv1 hTe hTd (WH.mp ht3).1 ?_);have pinT: ∀ p∈(X.caught a oe).pn++pins,p.1≠T':=fun p hp=>by
  have hp':p=(a,oe) \/ p∈X.pn++pins:=by simpa [Cx.caught] using hp
  rcases hp' with rfl | hp'
  ·exact J5 nTa
  ·exact fT'.2.2.2.2.2 p hp'
 have I4:Inv (X.caught a oe) pins σ H' { s' with heap:=h'.update T' (Obj.mapFields (·.setIfInBounds 3 Value.none)) } :=
  Inv.turned (s:={ s' with heap:=h' }) (t':=s'.toks) (it:=T') I3 (fun b o nb e=>(J3 _ _ (J5 nb)).trans e) fT'.1 fT'.2.1 fT'.2.2.2.1 fT'.2.2.2.2.1 pinT
 refine Jo ((su a oe vs hcl hdc hdt).pe pins _ _ H' { nx:=fun σ' H2=>Rl m H' H2/\EnvO X.K H₀ H2 σ' τ1,rt:=fun _ _=>False } I4 ⟨q1.step sm,fun σ' H2 r e=>⟨r,e⟩⟩) (fun f s6 hf=> ?_) fun _ _ z=>False.elim z
 cases f with
 | next =>
  obtain ⟨σ',H2,I6,r6,e6⟩:=hf;refine ⟨_,H2,Inv.unmark I.ok I6,q2 _ H2 ?_ e6⟩;exact ((Rl.of (m:=true) sm).trans r6).weak (by cases m<;>simp)
 | brk=>obtain ⟨_,_,_,z⟩:=hf;exact z.elim
 | cont=>obtain ⟨_,_,_,z⟩:=hf;exact z.elim
 | ret v=>obtain ⟨_,_,_,_,_,z⟩:=hf;exact z.elim
end
structure KExc (K:W.Frag) (C:Addr):Prop where
 g:W.findIn K (.ref C) "__getattribute__" =some (some (.builtin "BaseException.__getattribute__"))
 g2:W.findIn K (.ref C) "__getattr__" =some none
 mb:W.mroIn K C (.type "BaseException")=some true
 c:(W.clsIn K C).isSome=true
 a:W.findIn K (.ref C) "__class__" =some (some (.builtin "object.__class__"))
 n:W.specialIn K (.builtin "object.__class__") "__get__" =some (some (.builtin "getset_descriptor.__get__"))
 t:W.takesIn K (.builtin "object.__class__")=some true
 m:W.mroIn K C (.type "object")=some true
structure ExcK (K:W.Frag) (C:Addr) (bm:List Value):Prop where
 at_: ∀ h,K.In h->ExcAt h C bm
 mro: ∃ cd,W.clsIn K C=some cd/\cd.mro= .ref C::bm
theorem ExcK.sub {K:W.Frag} {C:Addr} {bm:List Value} {c:Value} {b:Bool} (x:ExcK K C bm) (h:W.mroIn K C c=some b):(Value.ref C::bm).contains c=b:=by
 obtain ⟨cd,h1,h2⟩:=x.mro;unfold W.mroIn at h;rw [h1,Option.bind_some,h2] at h;simpa using h
theorem Qfl {K:W.Frag} {C:Addr} {B newId initId:String} {bmB:List Value} (F:ExcBaseFacts B newId initId bmB) (hB:bmB.contains (.type B)=true) (q:W.excIn K C bmB newId=true): ∃ bm,ExcK K C bm:=by
 unfold W.excIn at q;split at q
 ·rename_i dd cd sl ho;split at q
  ·rename_i C' bm k0 k1 k2 k3 n k5 hm hs;simp only [Qv,beq_iff_eq,ZA] at q;obtain ⟨⟨⟨⟨⟨rfl,rfl⟩,hdel⟩,ht⟩,hok⟩,hni⟩:=q;obtain ⟨nm,bs,mro,ns,qn,hd,sn,sub,ab,col,del⟩:=cd;dsimp only at hm hdel hok hni;subst hm hdel;have hsl:sl= #[k0,k1,k2,k3,some (.builtin n),k5]:=by
    obtain ⟨l⟩:=sl;simp only at hs;rw [hs]
   subst hsl;refine ⟨bm,fun h X=> ?_,⟨_,by unfold W.clsIn;rw [ho],rfl⟩⟩;have T:=W.tail_of_in X ht;exact ⟨nm,qn,ns,bs,bmB,hd,sn,sub,ab,col,dd,k0,k1,k2,k3,k5,B,B,_,_,_,_,bmB,_,F,hB,F,T,X _ _ ho,.of_isNs (W.isNs_of_in X hok),W.nsMap_none_of_in X hok hni,T.hasType F.hasBase⟩
  ·cases q
 ·cases q
section
variable {P:Program} {w:World} {K:W.Frag} {mg:Str->Option Value} {base:Heap}
theorem Jar {x:Str} {st:Stmt} {N ps:List Str} {k:Nat} {R:List D->D->Prop} (F:Fd K mg x st ps) (S:Vf N ps (Vs st)) (hl:ps.length<=N.length)
  (hb: ∀ (f:Addr) (cdv:Value) (A:Around) (outer:List Env) (s:Shared) (H:Hp) (E:XK) (ds:List D) (d:D),Room k (A.deeper (envOfC x (Vs st) s.heap.objs.size f cdv))->R ds d->ds.length=ps.length ->
   d= .non/\ ∃ τ1,QOs (Ug CX0 P w K mg base N x (Vs st) f cdv A outer s H E).nox H (args ds N.length) (W7 st) (.next true τ1)):Pr P w K mg base x (k+1) ps (spD K ps.length R):=by
 obtain ⟨f,fd,hm,hf,hbi⟩:=F;refine ⟨f,fd,hm,hf.kp,hbi,hf.ok S (fun vs H Q E h=>h.1) (fun cdv A outer s H vs Q E hr h=> ?_)⟩;obtain ⟨hn,ds,d,ia,hR,q⟩:=h;have hd:ds.length=ps.length:=by rw [ia.length];exact hn
 obtain ⟨rfl,τ1,hb⟩:=hb f cdv A outer s H E ds d hr hR hd;exact ⟨_,hb.pe,UG ia (by omega),fun σ' H' r e=>q _ H' r Qq8⟩
end
section
variable {X:Cx} {ρ:List (Option D)} {a b c e:Expr} {pos:Pos} {d:D}
def Qfb:D->Bool | .non=>false | _=>true
theorem Qhr {j:Nat} {p:Pos} (ha:PD X ρ a d):PB X ρ (.Compare a [.IsNot] [.Constant .none j p] pos) (Qfb d) :=
 Ui Qt6 ha Qc4 (fun H x y Q hx hy q=>⟨Qbl hy,by
  have e:(!decide (x=V.non))=(Qfb d):=by
   cases d with
   | non=>cases Qbl hx;rfl
   | bl k=>cases GZ hx;rfl
   | int k=>cases WY hx;rfl
   | str k=>cases JF hx;rfl
   | tup k=>obtain ⟨p,_,rfl,_⟩:=Jn hx;rfl
   | lst k=>obtain ⟨p,_,rfl,_⟩:=Wr hx;rfl
   | dct _ _ _=>obtain ⟨p,_,rfl,_⟩:=Qfg hx;rfl
  rw [e];exact q _ H (Same.refl H) (ZQ _)⟩) (nomark _)
theorem Qra (hc:X.calm=true):CallR X (.builtin "any") (fun vs H Q=> ∃ (p:Addr) (bs:List Bool),vs=[.ref p]/\SqL X.K H p (bs.map V.bl)/\Q (.bl (bs.any id)) H):=by
 intro pins s σ H xs us Q I r h;obtain ⟨p,bs,rfl,hq,q⟩:=h;obtain ⟨u,rfl,rx⟩:=vals1 r;cases (show u=Value.ref p from rx);obtain ⟨its,rv,pl,hz⟩:=I.list hq;have hlen:=rv.length;rw [Q0] at hlen;have hlt:p < s.heap.objs.size:=by
  obtain ⟨o,h1,_⟩:=pl.isList;exact Qa h1
 refine call_any_walk (Qvv pl.isList ?_);refine ⟨s.heap.objs.size,_,_,_,_,_,fun i=>bs.getD i true,rfl,Walks.list (show X.A.in1.handled=none from I.ok.hd hc) _ p (Qq hlt) its.toArray,⟨⟨_,Qg _ rfl,rfl,rfl⟩,pl.isList.at fun o e=>Q2 _ e⟩,?_,?_⟩
 ·intro i v s' Q' E' hv hQ';have hv':its[i]? =some v:=by simpa using hv
  have hi:i < bs.length:=by rw [hlen];exact (Q5.mp hv').1
  obtain ⟨w',e1,e2⟩:=rv.get (i:=i) (x:= .bl bs[i]) (by simp [hi]);rw [hv'] at e1;cases e1;cases (show v=Value.bool _ from e2);refine WF ?_;simpa [List.getD,hi] using hQ'
 ·intro h' tk kk;have e1:(List.range its.toArray.size).any (fun i=>bs.getD i true)=bs.any id:=by
   rw [Qh,<- hlen,Jc];simp only [Qno,Wd,id_eq];constructor
   ·rintro ⟨i,hi,h⟩;refine ⟨_,ZO hi,?_⟩;simpa [List.getD,hi] using h
   ·rintro ⟨z,hz,h⟩;obtain ⟨i,hi,rfl⟩:=List.mem_iff_getElem.mp hz;exact ⟨i,hi,by simpa [List.getD,hi] using h⟩
  rw [e1];refine ⟨.bl (bs.any id),H,?_,rfl,q⟩;exact I.kept fun b o e=>kk b o (fun z=>by
   have z':b=s.heap.objs.size:=by simpa using z
   exact absurd (Qa e) (by rw [z'];exact W8 _)) (Q2 _ e)
theorem Qr1 {bs:List Bool} {p:Pos} (hc:X.calm=true) (hm:X.mg "any" =none) (ha:PD X ρ e (.lst (bs.map D.bl))) (hg:Gl X "any" :=by rfl) (hs:starEach [e] X.env=[(false,eval e X.env)]:=by rfl) :
  PD X ρ (.Call (.Name "any" p) [e] [] pos) (.bl (bs.any id)) :=
 Ql8 (Qra hc) hm PyProof.Rows.boot_any (Vc ha Vn hs) (fun H vs Q ia q=>by
  obtain ⟨v,rfl,i⟩:=ia.one;obtain ⟨p,ws,rfl,hq,r⟩:=Wr i;rw [Qdr r] at hq;exact ⟨p,bs,rfl,hq,q _ H (Same.refl H) (ZQ _)⟩) hg (by decide) (by decide) hs rfl
end
theorem TSame.sqT {K:W.Frag} {H H':Hp} {a:Addr} {xs:List V} (t:TSame H H') (h:SqT K H a xs):SqT K H' a xs:=by
 rcases h with h | h
 ·exact .inl (t.tp _ _ h)
 ·exact .inr h
section
variable {X:Cx} {H₀:Hp} {τ:List Sl} {ds as bs:List D} {pos:Pos} {m:Bool}
theorem Qkn {e:Expr} {x y:Str} {px py tp cp ep:Pos} {tk:Nat} {body:List Stmt} {jx jy:Nat} (τs:Nat->List Sl) (hp:PassesOwn (model X.prog X.w) X.A X.env X.xe) (hc:X.calm=true) (hm:X.mg "enumerate" =none) (ha:PD X (dat τ) e (.tup ds)) (lf:LFs ds=true)
  (h0:τs 0=τ) (hb: ∀ (i:Nat) (d:D),ds[i]? =some d-> ∃ n,QOs X H₀ (((τs i).set jx (.any (.int i))).set jy (.any d)) body (.next n (τs (i+1)))/\(m=true->n=true))
  (hN:X.N.Nodup) (hx:X.N[jx]? =some x:=by rfl) (hy:X.N[jy]? =some y:=by rfl) (lx:Loc X.env.scope x:=by first | exact QI rfl | exact QY rfl) (ly:Loc X.env.scope y:=by first | exact QI rfl | exact QY rfl)
  (fx:X.fn x=true \/ X.env.scope.names.lookup x=some .local:=by first | exact .inl rfl | exact .inr rfl) (fy:X.fn y=true \/ X.env.scope.names.lookup y=some .local:=by first | exact .inl rfl | exact .inr rfl)
  (hg:Gl X "enumerate" :=by rfl) (hse:starEach [e] X.env=[(false,eval e X.env)]:=by rfl) (hs: ∀ v,foldedSetIterable (.Call (.Name "enumerate" ep) [e] [] cp) X.env v=pure v:=by intro _;rfl) :
  QO X H₀ τ (.For (.Tuple [.Name x px,.Name y py] tk tp) (.Call (.Name "enumerate" ep) [e] [] cp) body [] pos) (.next m (τs ds.length)):=by
 have hb':PSs X body (fun D σ H=> ∃ i d,ds[i]? =some d/\rdO X.K H₀ (((τs i).set jx (.any (.int i))).set jy (.any d)) (.next m (τs (i+1))) D σ H):=fun pins s σ H D I ⟨i,d,hd,q⟩=>by
  obtain ⟨n,hq,hn⟩:=hb i d hd;exact hq.pe pins s σ H D I ⟨q.1,fun σ' H' t=>q.2 σ' H' (t.weak hn)⟩
 refine ⟨(BS hp hc (Qsw hg hm (Vc ha Vn hse).pe hse) (Yi (n:=2) hc (Vh (Ja (i:=jx) hN hx lx fx) (Vh (Ja (i:=jy) hN hy ly fy) Zm))) hb' hs).imp fun D σ H q=> ?_⟩;refine ⟨q.1.env,fun vs H1 s1 ia=> ?_⟩;obtain ⟨v,rfl,iv⟩:=ia.one;obtain ⟨a,xs,rfl,hq,r⟩:=Jn iv;have hlen:=r.length;refine ⟨a,rfl,⟨xs,hq⟩,fun i k σ' H'=>i<=ds.length/\k=ds.length - i/\EnvO X.K H₀ H' σ' (τs i)/\Rl m H H'/\TSame H1 H',⟨ds.length,Jd _,rfl,by rw [h0];exact q.1.step s1,.of s1,TSame.refl _⟩,?_⟩;rintro i k σ' H' ⟨hi,rfl,he,hm',st⟩
 by_cases hlt:i < ds.length
 ·refine .inr ⟨⟨xs,xs[i]'(by omega),st.sqT hq,by simp⟩,fun σ2 H2=>EnvO X.K H₀ H2 σ2 (τs (i+1))/\Rl m H' H2,fun σ2 H2 ⟨he2,hm2⟩=>⟨ds.length - (i+1),by omega,hlt,rfl,he2,?_,st.trans hm2.t⟩,fun v H2 yl=> ?_⟩
  ·have:=hm'.trans hm2;rwa [W9] at this
  obtain ⟨p,u,rfl,np,rfl,hu⟩:=yl;obtain ⟨d,hd,id⟩:=(r.tsame st lf).at (hu xs (st.sqT hq));have s3:Same H' (upd H' p (.tup [.int i,u])):=Same.upd np;refine ⟨p,[.int i,u],rfl,.inl (.inl Vu),rfl,.int i,[u],rfl,u,[],rfl,rfl,i,d,hd,?_,fun σ3 H3 t3 he3=>⟨he3,?_⟩⟩
  ·exact ((he.step s3).set (s:= .any (.int i)) jx ⟨_,rfl,Zq _⟩ fun ds' e=>nomatch e).set (s:= .any d) jy ⟨u,rfl,id.same s3⟩ fun ds' e=>nomatch e
  ·have:=(Rl.of (m:=m) s3).trans t3;rwa [W9] at this
 ·have e:i=ds.length:=by omega
  subst e;exact .inl ⟨⟨xs,st.sqT hq,by omega⟩,q.2 σ' H' hm' he⟩
end
section
variable {X:Cx} {ρ:List (Option D)} {a b:Expr} {pos:Pos}
theorem Qvq {i j:Int} (ha:PD X ρ a (.int i)) (hb:PD X ρ b (.int j)):PB X ρ (.Compare a [.NotEq] [b] pos) (!decide (i=j)):=by
 have h:=Ui (pos:=pos) Qkk ha hb (Qv9 (x:= .int i) (y:= .int j) rfl rfl rfl) (nomark _);have e:decide (V.int i=V.int j)=decide (i=j):=by
  rw [Jc,QD,QD];exact ⟨fun h=>by injection h,fun h=>by rw [h]⟩
 rw [e] at h;exact h
end
end L2
namespace K27
open PySem L2 RH
structure Cl (K:W.Frag) (mg:Str->Option Value) where
 cH:Addr
 cP:Addr
 cR:Addr
 bH:List Value
 bP:List Value
 bR:List Value
 gH:mg "HallError" =some (.ref cH)
 gP:mg "NoPlace" =some (.ref cP)
 gR:mg "NoRoom" =some (.ref cR)
 xH:ExcK K cH bH
 xP:ExcK K cP bP
 xR:ExcK K cR bR
 kP:KExc K cP
 kR:KExc K cR
 PH:W.mroIn K cP (.ref cH)=some true
 RH:W.mroIn K cR (.ref cH)=some true
 PV:W.kitOne K (.ref cP) (.type "ValueError")=some true
 RV:W.kitOne K (.ref cR) (.type "ValueError")=some true
 PP:W.kitOne K (.ref cP) (.ref cP)=some true
 PR:W.kitOne K (.ref cP) (.ref cR)=some false
 RP:W.kitOne K (.ref cR) (.ref cP)=some false
 RR:W.kitOne K (.ref cR) (.ref cR)=some true
 nV:mg "ValueError" =none
 RS:W.mroIn K cR (.ref cR)=some true
theorem Qts {X:Cx} {H₀:Hp} {τ:List Sl} {sts:List Stmt} {j:Nat} {ks:List Str} {ds:List D} {d:D} (hi:τ[j]? =some (.odc ks ds)) (hl: ∀ (j:Nat) (d:D),τ[j]? =some (.any d)->LF d=true) (h:QOs X H₀ (τ.set j (.any (.dct true (ks.map .str) ds))) sts (.ret d)):QOs X H₀ τ sts (.ret d) :=
 ⟨fun pins s σ H D I q=>by
  obtain ⟨o,e1,p,vs,rfl,n,dk,lf,ia⟩:=q.1.sl j _ hi;obtain ⟨ob,I2⟩:=I.freezeD dk.at_;exact h.pe pins s σ _ D I2 ⟨q.1.frzD hi e1 n dk lf ia hl,q.2⟩⟩
end K27
namespace NE
open PySem PySem.SeqAt
open AutoSeq1 (wpAny_loadPart')
open MeetsSeq MeetsSeq2 MeetsSeq3 SeqRoads2
theorem Qs4 (l b:Addr) (xs ys:Array Value) (n n2:Nat) (dd dd2:Option Addr) (sl sl2:Array (Option Value)) (e:Nat->Bool) :
  Meets (Builtin.«tuple.__ne__» ⟨[.ref l,.ref b],[]⟩)
   (fun A R s=>s.heap.get? l=some { cls:= .type "tuple",dict:=dd,data:= .seq xs n,slots:=sl }/\s.heap.get? b=some { cls:= .type "tuple",dict:=dd2,data:= .seq ys n2,slots:=sl2 } /\
    (∀ j (h1:j < xs.size) (h2:j < ys.size),EqAt A.in1 s xs[j] ys[j] (e j))/\R (.ok (.ret (.bool (!((List.range (min xs.size ys.size)).all e && xs.size == ys.size))))) s) :=
 .of_wp fun prog w A R s q=>by
  obtain ⟨hp,g,d,tk,os⟩:=s;obtain ⟨hl,hb,he,h⟩:=q;have f2:=AutoSeq1.sub_tuple_tuple;have hZ:(xs.toList.zip ys.toList).length=min xs.size ys.size:=by simp
  wp_walk using wpAny_loadPart' hl,wpAny_loadPart' hb,wpAny_forIn_list _ (fun rest r s'=>r.1=none/\s'=⟨hp,g,d,tk,os⟩/\ ∃ i,rest=(xs.toList.zip ys.toList).drop i /\
   R (.ok (.ret (.bool (!(((List.range (min xs.size ys.size)).drop i).all e && xs.size == ys.size))))) ⟨hp,g,d,tk,os⟩) _
  case turn =>
   rintro ⟨y,x⟩ rest r s' ⟨hr,rfl,i,hz,hR⟩;have hlt:i < (xs.toList.zip ys.toList).length:=by
    rcases Qlj i (xs.toList.zip ys.toList).length with h' | h'
    ·exact h'
    ·rw [List.drop_of_length_le h'] at hz;cases hz
   have hm:i < min xs.size ys.size:=hZ ▸ hlt;have h1:i < xs.size:=Qr hm (Nat.min_le_left _ _);have h2:i < ys.size:=Qr hm (Nat.min_le_right _ _);rw [WP hlt] at hz;injection hz with hyx hrest
   have hy:y=xs[i]:=by have:=JQ Prod.fst hyx;simpa using this
   have hx:x=ys[i]:=by have:=JQ Prod.snd hyx;simpa using this
   subst hy hx;have hd:(List.range (min xs.size ys.size)).drop i=i::(List.range (min xs.size ys.size)).drop (i+1):=by simp [WP,hm]
   rw [hd,Qi1] at hR;refine Q1 (he i h1 h2 prog w _ _ ?_);cases hy:e i with
   | true =>
    rw [hy] at hR
    wp_walk
    exact ⟨rfl,rfl,i+1,hrest,by simpa using hR⟩
   | false =>
    rw [hy] at hR
    wp_walk
    exact ⟨_,rfl,by simpa using hR⟩
  case fin =>
   rintro ⟨b1,b2⟩ s' ⟨hr,rfl,i,hz,hR⟩;simp only at hr;subst hr;have hge:min xs.size ys.size<=i:=by
    rcases Qlj i (xs.toList.zip ys.toList).length with h' | h'
    ·rw [WP h'] at hz;cases hz
    ·exact hZ ▸ h'
   rw [List.drop_of_length_le (by simpa using hge)] at hR
   wp_walk
   exact ⟨_,rfl,by simpa [Builtin.Tuple.tupleCompareSizes,bne] using hR⟩
  case h=>exact ⟨rfl,rfl,0,rfl,by simpa using h⟩
end NE
namespace L2
open PySem PySem.Spec PyProof.Rows PySem.W
section
variable {X:Cx} {ρ:List (Option D)} {a b:Expr} {pos:Pos}
theorem Qwy {us vs:List D} (hk:keyOks us=true) (hk2:keyOks vs=true) (hu:X.A.units+dep (.tup us)+dep (.tup vs) < cLine):OpR X (compareOp .NotEq) (fun x y H Q=>Is X.K H (.tup us) x/\Is X.K H (.tup vs) y/\Q (.bl (!decide (us=vs))) H):=by
 intro pins s σ H x y vx vy Q I rx ry h;obtain ⟨i1,i2,q⟩:=h;obtain ⟨p,xs,rfl,q1,r1⟩:=Jn i1;obtain ⟨p',ys,rfl,q2,r2⟩:=Jn i2;cases (show vx=Value.ref p from rx);cases (show vy=Value.ref p' from ry);obtain ⟨its,v1,t1,_⟩:=I.tuple q1;obtain ⟨its2,v2,t2,_⟩:=I.tuple q2;have c1:=Va.conc I (Yj hk) r1 v1;have c2:=Va.conc I (Yj hk2) r2 v2;have l1:=c1.len;have l2:=c2.len;obtain ⟨⟨cls,dd,data,sl⟩,ho,hc,n,hd⟩:=t1;obtain ⟨⟨cls2,dd2,data2,sl2⟩,ho2,hc2,n2,hd2⟩:=t2;simp only at hc hd hc2 hd2;subst hc hd hc2 hd2;have ea:=BD us vs c1 c2 (A:=X.A.in1) (by simp only [dep] at hu;show X.A.units+1+deps us+deps vs < cLine;omega);have e:((List.range (min its.toArray.size its2.toArray.size)).all (fun j=>eqD (us.getD j .non) (vs.getD j .non)) && its.toArray.size == its2.toArray.size)=decide (us=vs):=by
  have h1:eqD (.tup us) (.tup vs)=decide (D.tup us=D.tup vs):=BC (by simpa [keyOk] using hk) (by simpa [keyOk] using hk2);rw [eqD,BB,l1,l2] at h1;have h2:decide (D.tup us=D.tup vs)=decide (us=vs):=by
   rw [Jc,QD,QD];exact ⟨fun h=>by injection h,fun h=>by rw [h]⟩
  rw [h2] at h1;rw [<- h1]
  simp
 refine richCompare_meets_room (op:= .NotEq) ⟨_,ho,rfl⟩ ⟨_,ho2,rfl⟩ PySem.F.slot_tuple_ne PySem.F.entry_tuple_ne (PySem.F.args_tuple_ne_2 _ _) (NE.Qs4 p p' its.toArray its2.toArray n n2 dd dd2 sl sl2 _) ⟨ho,ho2,ea,?_⟩ (by omega);exact ⟨fun z=>(nomatch z),⟨.bl (!decide (us=vs)),H,I,by rw [e];rfl,q⟩⟩
theorem Qrg {us vs:List D} (ha:PD X ρ a (.tup us)) (hb:PD X ρ b (.tup vs)) (hk:keyOks us=true) (hk2:keyOks vs=true) (hu:X.A.units+dep (.tup us)+dep (.tup vs) < cLine):PB X ρ (.Compare a [.NotEq] [b] pos) (!decide (us=vs)) :=
 Ui (Qwy hk hk2 hu) ha hb (fun H x y Q hx hy q=>⟨hx,hy,q _ H (Same.refl H) (ZQ _)⟩) (nomark _)
theorem Qrh {us:List D} (ha:PD X ρ a (.tup us)) (hb:PD X ρ b (.tup us)) (hk:keyOks us=true) (hu:X.A.units+2+deps us+deps us < cLine):PB X ρ (.Compare a [.NotEq] [b] pos) false:=by
 have h:=Qrg (pos:=pos) ha hb hk hk (by simp only [dep];omega);rw [QM rfl] at h;exact h
end
end L2
namespace L2
open PySem PySem.Spec PyProof.Rows
section
variable {X:Cx} {H₀:Hp} {τ:List Sl} {ds as bs:List D} {pos:Pos} {m:Bool}
theorem Qkm {e1 e2:Expr} {x y:Str} {px py tp cp ep:Pos} {tk:Nat} {body:List Stmt} {jx jy:Nat} (τs:Nat->List Sl) (hp:PassesOwn (model X.prog X.w) X.A X.env X.xe) (hc:X.calm=true) (hm:X.mg "zip" =none) (h1:PD X (dat τ) e1 (.tup as)) (h2:PD X (dat τ) e2 (.tup bs))
  (l1:LFs as=true) (l2:LFs bs=true)
  (h0:τs 0=τ) (hb: ∀ (i:Nat) (u v:D),as[i]? =some u->bs[i]? =some v-> ∃ n,QOs X H₀ (((τs i).set jx (.any u)).set jy (.any v)) body (.next n (τs (i+1)))/\(m=true->n=true))
  (hN:X.N.Nodup) (hx:X.N[jx]? =some x:=by rfl) (hy:X.N[jy]? =some y:=by rfl) (lx:Loc X.env.scope x:=by first | exact QI rfl | exact QY rfl) (ly:Loc X.env.scope y:=by first | exact QI rfl | exact QY rfl)
  (fx:X.fn x=true \/ X.env.scope.names.lookup x=some .local:=by first | exact .inl rfl | exact .inr rfl) (fy:X.fn y=true \/ X.env.scope.names.lookup y=some .local:=by first | exact .inl rfl | exact .inr rfl)
  (hg:Gl X "zip" :=by rfl) (hs:starEach [e1,e2] X.env=[(false,eval e1 X.env),(false,eval e2 X.env)]:=by rfl) (hs2:starEach [e2] X.env=[(false,eval e2 X.env)]:=by rfl)
  (hf: ∀ v,foldedSetIterable (.Call (.Name "zip" ep) [e1,e2] [] cp) X.env v=pure v:=by intro _;rfl) :
  QO X H₀ τ (.For (.Tuple [.Name x px,.Name y py] tk tp) (.Call (.Name "zip" ep) [e1,e2] [] cp) body [] pos) (.next m (τs (min as.length bs.length))):=by
 have hb':PSs X body (fun D σ H=> ∃ i u v,as[i]? =some u/\bs[i]? =some v/\rdO X.K H₀ (((τs i).set jx (.any u)).set jy (.any v)) (.next m (τs (i+1))) D σ H):=fun pins s σ H D I ⟨i,u,v,hu,hv,q⟩=>by
  obtain ⟨n,hq,hn⟩:=hb i u v hu hv;exact hq.pe pins s σ H D I ⟨q.1,fun σ' H' t=>q.2 σ' H' (t.weak hn)⟩
 refine ⟨(BS hp hc (Qir hg hm (Vc h1 (Vc h2 Vn hs2) (by rw [hs,hs2])).pe hs hs2) (Yi (n:=2) hc (Vh (Ja (i:=jx) hN hx lx fx) (Vh (Ja (i:=jy) hN hy ly fy) Zm))) hb' hf).imp fun D σ H q=> ?_⟩;refine ⟨q.1.env,fun vs H2 s2 ia=> ?_⟩;obtain ⟨v1,v2,rfl,iv1,iv2⟩:=ia.two;obtain ⟨p1,vs1,rfl,hq1,ia1⟩:=Jn iv1;obtain ⟨p2,vs2,rfl,hq2,ia2⟩:=Jn iv2;have e1:=ia1.length;have e2:=ia2.length;refine ⟨p1,p2,rfl,⟨vs1,hq1⟩,⟨vs2,hq2⟩,fun i k σ' H'=>i<=min as.length bs.length/\k=min as.length bs.length - i/\EnvO X.K H₀ H' σ' (τs i)/\Rl m H H'/\TSame H2 H',⟨min as.length bs.length,Jd _,rfl,by rw [h0];exact q.1.step s2,.of s2,TSame.refl _⟩,?_⟩;rintro i k σ' H' ⟨hi,rfl,he,hm',st⟩
 by_cases hlt:i < min as.length bs.length
 ·refine .inr ⟨⟨vs1,vs2,vs1[i]'(by omega),vs2[i]'(by omega),st.sqT hq1,st.sqT hq2,by simp,by simp⟩,fun σ2 H3=>EnvO X.K H₀ H3 σ2 (τs (i+1))/\Rl m H' H3,fun σ2 H3 ⟨he2,hm2⟩=>⟨min as.length bs.length - (i+1),by omega,hlt,rfl,he2,?_,st.trans hm2.t⟩,fun v H3 yl=> ?_⟩
  ·have:=hm'.trans hm2;rwa [W9] at this
  obtain ⟨p,u,w,rfl,np,rfl,hu,hw⟩:=yl;obtain ⟨du,hdu,idu⟩:=(ia1.tsame st l1).at (hu vs1 (st.sqT hq1));obtain ⟨dw,hdw,idw⟩:=(ia2.tsame st l2).at (hw vs2 (st.sqT hq2));have s3:Same H' (upd H' p (.tup [u,w])):=Same.upd np;refine ⟨p,[u,w],rfl,.inl (.inl Vu),rfl,u,[w],rfl,w,[],rfl,rfl,i,du,dw,hdu,hdw,?_,fun σ3 H4 t3 he3=>⟨he3,?_⟩⟩
  ·exact ((he.step s3).set (s:= .any du) jx ⟨u,rfl,idu.same s3⟩ fun ds' e=>nomatch e).set (s:= .any dw) jy ⟨w,rfl,idw.same s3⟩ fun ds' e=>nomatch e
  ·have:=(Rl.of (m:=m) s3).trans t3;rwa [W9] at this
 ·have e:i=min as.length bs.length:=by omega
  subst e;exact .inl ⟨⟨vs1,vs2,st.sqT hq1,st.sqT hq2,by omega⟩,q.2 σ' H' hm' he⟩
theorem Qgn {e1 e2:Expr} {x y:Str} {px py tp cp ep:Pos} {tk:Nat} {body:List Stmt} {jx jy:Nat} (τs:Nat->List Sl) (i0:Nat) {u0 v0:D} {d:D} (hu0:as[i0]? =some u0) (hv0:bs[i0]? =some v0) (hp:PassesOwn (model X.prog X.w) X.A X.env X.xe) (hc:X.calm=true) (hm:X.mg "zip" =none) (h1:PD X (dat τ) e1 (.tup as)) (h2:PD X (dat τ) e2 (.tup bs))
  (l1:LFs as=true) (l2:LFs bs=true)
  (h0:τs 0=τ) (hb: ∀ (i:Nat) (u v:D),i < i0->as[i]? =some u->bs[i]? =some v-> ∃ n,QOs X H₀ (((τs i).set jx (.any u)).set jy (.any v)) body (.next n (τs (i+1)))/\(m=true->n=true)) (hret:QOs X H₀ (((τs i0).set jx (.any u0)).set jy (.any v0)) body (.ret d))
  (hN:X.N.Nodup) (hx:X.N[jx]? =some x:=by rfl) (hy:X.N[jy]? =some y:=by rfl) (lx:Loc X.env.scope x:=by first | exact QI rfl | exact QY rfl) (ly:Loc X.env.scope y:=by first | exact QI rfl | exact QY rfl)
  (fx:X.fn x=true \/ X.env.scope.names.lookup x=some .local:=by first | exact .inl rfl | exact .inr rfl) (fy:X.fn y=true \/ X.env.scope.names.lookup y=some .local:=by first | exact .inl rfl | exact .inr rfl)
  (hg:Gl X "zip" :=by rfl) (hs:starEach [e1,e2] X.env=[(false,eval e1 X.env),(false,eval e2 X.env)]:=by rfl) (hs2:starEach [e2] X.env=[(false,eval e2 X.env)]:=by rfl)
  (hf: ∀ v,foldedSetIterable (.Call (.Name "zip" ep) [e1,e2] [] cp) X.env v=pure v:=by intro _;rfl) :
  QO X H₀ τ (.For (.Tuple [.Name x px,.Name y py] tk tp) (.Call (.Name "zip" ep) [e1,e2] [] cp) body [] pos) (.ret d):=by
 have hb':PSs X body (fun D σ H=>(∃ i u v,i < i0/\as[i]? =some u/\bs[i]? =some v/\rdO X.K H₀ (((τs i).set jx (.any u)).set jy (.any v)) (.next m (τs (i+1))) D σ H) \/ rdO X.K H₀ (((τs i0).set jx (.any u0)).set jy (.any v0)) (.ret d) D σ H):=fun pins s σ H D I q=>by
  rcases q with ⟨i,u,v,hlt,hu,hv,q⟩ | q
  ·obtain ⟨n,hq,hn⟩:=hb i u v hlt hu hv;exact hq.pe pins s σ H D I ⟨q.1,fun σ' H' t=>q.2 σ' H' (t.weak hn)⟩
  ·exact hret.pe pins s σ H D I q
 have hl0:i0 < as.length:=(Q5.mp hu0).1;have hl1:i0 < bs.length:=(Q5.mp hv0).1;refine ⟨(BS hp hc (Qir hg hm (Vc h1 (Vc h2 Vn hs2) (by rw [hs,hs2])).pe hs hs2) (Yi (n:=2) hc (Vh (Ja (i:=jx) hN hx lx fx) (Vh (Ja (i:=jy) hN hy ly fy) Zm))) hb' hf).imp fun D σ H q=> ?_⟩;refine ⟨q.1.env,fun vs H2 s2 ia=> ?_⟩;obtain ⟨v1,v2,rfl,iv1,iv2⟩:=ia.two;obtain ⟨p1,vs1,rfl,hq1,ia1⟩:=Jn iv1;obtain ⟨p2,vs2,rfl,hq2,ia2⟩:=Jn iv2;have e1:=ia1.length;have e2:=ia2.length;refine ⟨p1,p2,rfl,⟨vs1,hq1⟩,⟨vs2,hq2⟩,fun i k σ' H'=>i<=i0/\k=i0 - i/\EnvO X.K H₀ H' σ' (τs i)/\Rl m H H'/\TSame H2 H',⟨i0,Jd _,rfl,by rw [h0];exact q.1.step s2,.of s2,TSame.refl _⟩,?_⟩;rintro i k σ' H' ⟨hi,rfl,he,hm',st⟩
 by_cases hlt:i < i0
 ·refine .inr ⟨⟨vs1,vs2,vs1[i]'(by omega),vs2[i]'(by omega),st.sqT hq1,st.sqT hq2,by simp,by simp⟩,fun σ2 H3=>EnvO X.K H₀ H3 σ2 (τs (i+1))/\Rl m H' H3,fun σ2 H3 ⟨he2,hm2⟩=>⟨i0 - (i+1),by omega,hlt,rfl,he2,?_,st.trans hm2.t⟩,fun v H3 yl=> ?_⟩
  ·have:=hm'.trans hm2;rwa [W9] at this
  obtain ⟨p,u,w,rfl,np,rfl,hu,hw⟩:=yl;obtain ⟨du,hdu,idu⟩:=(ia1.tsame st l1).at (hu vs1 (st.sqT hq1));obtain ⟨dw,hdw,idw⟩:=(ia2.tsame st l2).at (hw vs2 (st.sqT hq2));have s3:Same H' (upd H' p (.tup [u,w])):=Same.upd np;refine ⟨p,[u,w],rfl,.inl (.inl Vu),rfl,u,[w],rfl,w,[],rfl,rfl,.inl ⟨i,du,dw,hlt,hdu,hdw,?_,fun σ3 H4 t3 he3=>⟨he3,?_⟩⟩⟩
  ·exact ((he.step s3).set (s:= .any du) jx ⟨u,rfl,idu.same s3⟩ fun ds' e=>nomatch e).set (s:= .any dw) jy ⟨w,rfl,idw.same s3⟩ fun ds' e=>nomatch e
  ·have:=(Rl.of (m:=m) s3).trans t3;rwa [W9] at this
 ·have e0:i=i0:=by omega
  subst e0;refine .inr ⟨⟨vs1,vs2,vs1[i]'(by omega),vs2[i]'(by omega),st.sqT hq1,st.sqT hq2,by simp,by simp⟩,fun _ _=>False,fun _ _ z=>z.elim,fun v H3 yl=> ?_⟩;obtain ⟨p,u,w,rfl,np,rfl,hu,hw⟩:=yl;obtain ⟨du,hdu,idu⟩:=(ia1.tsame st l1).at (hu vs1 (st.sqT hq1));obtain ⟨dw,hdw,idw⟩:=(ia2.tsame st l2).at (hw vs2 (st.sqT hq2));rw [hu0] at hdu;cases hdu;rw [hv0] at hdw;cases hdw;have s3:Same H' (upd H' p (.tup [u,w])):=Same.upd np;refine ⟨p,[u,w],rfl,.inl (.inl Vu),rfl,u,[w],rfl,w,[],rfl,rfl,.inr ⟨?_,q.2⟩⟩;exact ((he.step s3).set (s:= .any u0) jx ⟨u,rfl,idu.same s3⟩ fun ds' e=>nomatch e).set (s:= .any v0) jy ⟨w,rfl,idw.same s3⟩ fun ds' e=>nomatch e
end
section
variable {X:Cx} {ρ:List (Option D)} {a:Expr} {d:D} {pos:Pos}
theorem Qah {j:Nat} {p:Pos} (ha:PD X ρ a d):PB X ρ (.Compare a [.Is] [.Constant .none j p] pos) (!Qfb d) :=
 Ui Qx1 ha Qc4 (fun H x y Q hx hy q=>⟨Qbl hy,by
  have e:(decide (x=V.non))=(!Qfb d):=by
   cases d with
   | non=>cases Qbl hx;rfl
   | bl k=>cases GZ hx;rfl
   | int k=>cases WY hx;rfl
   | str k=>cases JF hx;rfl
   | tup k=>obtain ⟨p,_,rfl,_⟩:=Jn hx;rfl
   | lst k=>obtain ⟨p,_,rfl,_⟩:=Wr hx;rfl
   | dct _ _ _=>obtain ⟨p,_,rfl,_⟩:=Qfg hx;rfl
  rw [e];exact q _ H (Same.refl H) (ZQ _)⟩) (nomark _)
end
end L2
namespace K27
open PySem L2 RH
abbrev Qk6:Stmt:=top 25
theorem Ya {α β:Type} {f:α->β->Option α} {l:List β} {a:α} {i:Nat} {b:β} (h:l[i]? =some b):(l.take (i+1)).foldlM f a=((l.take i).foldlM f a).bind fun m=>f m b:=by
 rw [QJ,h];simp only [Option.toList_some,List.foldlM_append,JE,List.foldlM_nil];cases (l.take i).foldlM f a with
 | none=>rfl
 | some m=>show ((f m b).bind fun x=>some x)=f m b;cases f m b<;>rfl
theorem Ym {α β:Type} {f:α->β->Option α}: ∀ {l:List β} {a m:α},l.foldlM f a=some m-> ∀ i,∃ mi,(l.take i).foldlM f a=some mi
 | l,a,m,h,0=>⟨a,rfl⟩
 | [],a,m,h,i+1=>⟨a,rfl⟩
 | b::l,a,m,h,i+1=>by
  rw [JE] at h;obtain ⟨a1,e1,e2⟩:=Yw.mp h;obtain ⟨mi,e⟩:=Ym e2 i;refine ⟨mi,?_⟩;rw [List.take_succ_cons,JE,e1];exact e
theorem GQ {α β:Type} {f:α->β->Option α}: ∀ {l:List β} {a:α},l.foldlM f a=none-> ∃ i b m,l[i]? =some b/\(l.take i).foldlM f a=some m/\f m b=none
 | [],a,h=>by cases h
 | b::l,a,h=>by
  rw [JE] at h;cases e:f a b with
  | none=>exact ⟨0,b,a,rfl,rfl,e⟩
  | some a1 =>
   rw [e] at h;obtain ⟨i,c,m,h1,h2,h3⟩:=GQ (l:=l) (a:=a1) h;refine ⟨i+1,c,m,h1,?_,h3⟩;rw [List.take_succ_cons,JE,e];exact h2
section
variable {P:Program} {w:World} {K:W.Frag} {mg:Str->Option Value} {base:Heap}
def RLast:List D->D->Prop:=fun ds d=> ∃ (ks vs:List Str) (t:Str) (fz:Bool),ds=[.dct fz (ks.map .str) (vs.map .str),.str t]/\Tri ks vs/\d= .str (W4 ks vs t)
abbrev Op:List Str:=["terms", "term"]
theorem Qog:Vf Op Op (Vs Qk6):=⟨rfl,rfl,rfl,by decide +kernel,rfl,by decide +kernel,by decide +kernel⟩
theorem Qs2 {d e:D}:Wk [.arg d,.arg e] [.arg d,.any e]:=⟨rfl,fun i s h=>by
 match i with
 | 0=>exact .inr (.inl h)
 | 1=>cases h;exact .inr (.inr ⟨e,rfl,rfl⟩)
 | i+2=>cases h⟩
theorem Qtk (F:Fd K mg "last_term" Qk6 Op):PrD P w K mg base "last_term" 1 Op RLast:=by
 refine Zi (N:=Op) F Qog (by decide) fun f cdv A outer s H E ds d hr hR _=> ?_
 obtain ⟨ks,vs,t,fz,rfl,T,rfl⟩:=hR;have hu:=Bv hr;show QOs _ _ [.arg (.dct fz (ks.map .str) (vs.map .str)),.arg (.str t)] _ _;refine Qzh ?_ Qs2;refine Vq (m:=true) (Qab (m:=true) (fun x:Str=>[.arg (.dct fz (ks.map .str) (vs.map .str)),.any (.str x)]) (fun _=>True) (muT ks) (inK ks) (subst ks vs) Qw (fun x _=>Jab hu (Vv 1 rfl) (Vv 0 rfl)) (fun x _ hc=>⟨true,?_,id⟩) (fun x _ hc=>⟨trivial,T.mu (Jx hc)⟩) t trivial) (Vz (Jv (Vv 1 rfl)));have hx:x∈ks:=Jx hc;have hi:ks.idxOf x < ks.length:=Qx.mpr hx;exact Vz (Jf (i:=1) (d:= .str (subst ks vs x)) (Qfp (i:=ks.idxOf x) hu (Vv 0 rfl) (Vv 1 rfl) (by rw [Qb hi,J0 hi]) (by rw [Q8,Wy T.len hx];rfl)) Qog.nd)
def Ot (a b:At):Option Gv:=if a.k=b.k/\a.ts.length=b.ts.length then Qqb (a.ts.zip b.ts) else none
def Qvh:Option Gv->D
 | none=> .non
 | some m=> .dct true (m.1.map .str) ((theta m).map .str)
def T8 (t:Str):Prop:=t.length<=1000
def RMeet:List D->D->Prop:=fun ds d=> ∃ a b:At,ds=[a.d,b.d]/\a.ts.length<=3/\(∀ t∈a.ts,T8 t)/\(∀ t∈b.ts,T8 t)/\d=Qvh (Ot a b)
abbrev Qd9:List Str:=["one", "other"]
abbrev Qpz:List Str:=["one", "other", "terms", "left", "right", "first", "second"]
theorem ZU:Vf Qpz Qd9 (Vs Qd3):=⟨rfl,rfl,rfl,by decide +kernel,rfl,by decide +kernel,by decide +kernel⟩
def slM (a b:At) (m:Gv) (x3 x4 x5 x6:Sl):List Sl:=[.arg a.d,.arg b.d,.odc m.1 (m.2.map .str),x3,x4,x5,x6]
def Qfi:Stmt->List Stmt
 | .For _ _ b _ _=>b
 | _=>[]
def Qzp:List Stmt:=Qfi ((W7 Qd3).getD 2 (.Pass ⟨0,0,0,0⟩))
def Jam (a b:At):Option Gv->RO
 | some m=> .next false (slM a b m .no .no .no .no)
 | none=> .ret .non
theorem Qit (m:Gv):JH m.1 ((theta m).map .str)=(m.1.map D.str).map fun d=> .tup [d,.str (W4 m.1 m.2 (YZ d))]:=by
 unfold JH theta;refine Zy fun i=> ?_
 simp only [Ul,Q8];cases m.1[i]? <;>rfl
set_option maxHeartbeats 1000000 in
theorem Qtj (T:Txt K mg) (F:Fd K mg "meeting_terms" Qd3 Qd9) (GL:PrD P w K mg base "last_term" 1 Op RLast) (GO:PrD P w K mg base "is_open" 1 ["term"] ROpen):PrD P w K mg base "meeting_terms" 2 Qd9 RMeet:=by
 refine Zi (N:=Qpz) F ZU (by decide) fun f cdv A outer s H E ds d hr hR _=> ?_
 obtain ⟨a,b,rfl,ha3,hat,hbt,rfl⟩:=hR;have hu:=Bv hr;have ek: ∀ {X:Cx} {τ:List Sl} {e1 e2:Expr} {p1 p2 p3:Pos} {j1 j2:Nat} {q1 q2:Pos},PD X (dat τ) e1 a.d->PD X (dat τ) e2 b.d->PB X (dat τ) (.Compare (.Subscript e1 (.Constant (.int 0) j1 q1) p1) [.NotEq] [.Subscript e2 (.Constant (.int 0) j2 q2) p2] p3) (!decide (a.k=b.k)):=fun h1 h2 =>
  Ys (QR (da:= .tup [.str a.k,.tup (a.ts.map .str)]) h1 Vi at0) (QR (da:= .tup [.str b.k,.tup (b.ts.map .str)]) h2 Vi at0)
 by_cases hk: ¬ (a.k=b.k/\a.ts.length=b.ts.length)
 ·have e:Ot a b=none:=Qn hk;rw [e];refine Gb (JT (k:=true) ?c (fun _=>Vz (Jv Qc4)) (fun h=>nomatch h))
  by_cases h1:a.k=b.k
  ·have h2: ¬ a.ts.length=b.ts.length:=fun z=>hk ⟨h1,z⟩
   have c1:(!decide (a.k=b.k))=false:=by simp [h1]
   refine Y3 (Qhq (k:=false) (by rw [<- c1];exact ek (Vv 0 rfl) (Vv 1 rfl)) (fun _=>Qhp ?_) (fun h=>nomatch h));have c2:(!decide ((((a.ts.map D.str).length:Nat):Int)=((b.ts.map D.str).length:Nat)))=true:=by
    rw [Q0,Q0,ZA,Yu];omega
   rw [<- c2];exact Qvq (Wb T.bLen (QR (da:= .tup [.str a.k,.tup (a.ts.map .str)]) (Vv 0 rfl) Vi at1) rfl (fun y e=>nomatch e)) (Wb T.bLen (QR (da:= .tup [.str b.k,.tup (b.ts.map .str)]) (Vv 1 rfl) Vi at1) rfl (fun y e=>nomatch e))
  ·have c1:(!decide (a.k=b.k))=true:=by simp [h1]
   exact Y3 (Qhq (k:=true) (by rw [<- c1];exact ek (Vv 0 rfl) (Vv 1 rfl)) (fun h=>nomatch h) (fun h=>rfl))
 replace hk:=Classical.not_not.mp hk;have hl:=hk.2;have em:Ot a b=Qqb (a.ts.zip b.ts):=Qk hk;rw [em];have c1:(!decide (a.k=b.k))=false:=by simp [hk.1]
 have c2:(!decide ((((a.ts.map D.str).length:Nat):Int)=((b.ts.map D.str).length:Nat)))=false:=by
  rw [Q0,Q0,hl]
  simp
 refine Vq (m:=true) (JT (k:=false) (Y3 (Qhq (k:=false) (by rw [<- c1];exact ek (Vv 0 rfl) (Vv 1 rfl)) (fun _=>Qhp (by rw [<- c2];exact Qvq (Wb T.bLen (QR (da:= .tup [.str a.k,.tup (a.ts.map .str)]) (Vv 0 rfl) Vi at1) rfl (fun y e=>nomatch e)) (Wb T.bLen (QR (da:= .tup [.str b.k,.tup (b.ts.map .str)]) (Vv 1 rfl) Vi at1) rfl (fun y e=>nomatch e)))) (fun h=>nomatch h))) (fun h=>nomatch h) (fun _=>JS)) ?_;refine Vq (m:=true) (Ua (i:=2) Qfm rfl ZU.nd) ?_;show QOs _ _ (slM a b ([],[]) .no .no .no .no) _ _;have hP: ∀ p∈a.ts.zip b.ts,T8 p.1/\T8 p.2:=fun p hp=>⟨hat _ (Jb hp).1,hbt _ (Jb hp).2⟩
 have hz: ∀ {i:Nat} {u v:D},(a.ts.map D.str)[i]? =some u->(b.ts.map D.str)[i]? =some v-> ∃ x y,(a.ts.zip b.ts)[i]? =some (x,y)/\u= .str x/\v= .str y:=fun {i u v} h1 h2=>by
  rw [Q8] at h1 h2;cases e1:a.ts[i]? with
  | none=>rw [e1] at h1;cases h1
  | some x =>
   cases e2:b.ts[i]? with
   | none=>rw [e2] at h2;cases h2
   | some y =>
    rw [e1] at h1;rw [e2] at h2;refine ⟨x,y,?_,(Qt h1).symm,(Qt h2).symm⟩;rw [W1];exact ⟨e1,e2⟩
 have hzl:(a.ts.zip b.ts).length<=3:=by rw [Wq];omega
 have turn: ∀ (m:Gv) (i:Nat) (x y:Str),MOk T8 i m->i<=3->T8 x->T8 y->QOs (Ug CX0 P w K mg base Qpz "meeting_terms" (Vs Qd3) f cdv A outer s H E).nox H (slM a b m (.any (.str x)) (.any (.str y)) .no .no) Qzp (Jam a b (JI m (x,y))):=fun m i x y mo hi hx hy=>by
  have i1:T8 (W4 m.1 m.2 x):=YF mo.tri.len mo.v hx;have i2:T8 (W4 m.1 m.2 y):=YF mo.tri.len mo.v hy;have o1:=Bu mo.tri x;have o2:=Bu mo.tri y;have ml:=mo.len;have em:JI m (x,y)=if W4 m.1 m.2 x=W4 m.1 m.2 y then some m else if Jh (W4 m.1 m.2 x)=true then some (m.1++[W4 m.1 m.2 x],m.2++[W4 m.1 m.2 y]) else if Jh (W4 m.1 m.2 y)=true then some (m.1++[W4 m.1 m.2 y],m.2++[W4 m.1 m.2 x]) else none:=rfl;have g1:RLast [.dct false (m.1.map .str) (m.2.map .str),.str x] (.str (W4 m.1 m.2 x)):=⟨m.1,m.2,x,false,rfl,mo.tri,rfl⟩;have g2:RLast [.dct false (m.1.map .str) (m.2.map .str),.str y] (.str (W4 m.1 m.2 y)):=⟨m.1,m.2,y,false,rfl,mo.tri,rfl⟩;rw [em];generalize W4 m.1 m.2 x=fs at i1 o1 g1;generalize W4 m.1 m.2 y=sc at i2 o2 g2
  by_cases h1:fs=sc
  ·rw [Qk h1];have c0:(!decide (fs=sc))=false:=by simp [h1]
   refine WG (m:=true) (τ1:=slM a b m (.any (.str x)) (.any (.str y)) (.any (.str fs)) (.any (.str sc))) ?_ (WkI.wk (.keep (.keep (.keep (.no (.no (.no (.no .nil)))))))) (fun z=>nomatch z);refine Wa (Jf (i:=5) (d:= .str fs) (Jy GL hr (Vc (Vv 2 rfl) (Vc (Vv 3 rfl) Vn)) g1) ZU.nd) ?_;refine Wa (Jf (i:=6) (d:= .str sc) (Jy GL hr (Vc (Vv 2 rfl) (Vc (Vv 4 rfl) Vn)) g2) ZU.nd) ?_;refine Vz (JT (k:=false) (Y3 (WE (k:=false) (k2:=false) (by rw [<- c0];exact Ys (Vv 5 rfl) (Vv 6 rfl)) (fun h=>nomatch h))) (fun h=>nomatch h) (fun _=>Vz (JT (k:=false) (Y3 (WE (k:=false) (k2:=false) (by rw [<- c0];exact Ys (Vv 5 rfl) (Vv 6 rfl)) (fun h=>nomatch h))) (fun h=>nomatch h) (fun _=>Vz (JT (k:=false) (by rw [<- c0];exact Ys (Vv 5 rfl) (Vv 6 rfl)) (fun h=>nomatch h) (fun _=>JS))))))
  ·rw [Qn h1];have c0:(!decide (fs=sc))=true:=by simp [h1]
   by_cases h2:Jh fs=true
   ·rw [Qk h2];refine WG (m:=false) (τ1:=slM a b (m.1++[fs],m.2++[sc]) (.any (.str x)) (.any (.str y)) (.any (.str fs)) (.any (.str sc))) ?_ (WkI.wk (.keep (.keep (.keep (.no (.no (.no (.no .nil)))))))) (fun z=>nomatch z);refine Wa (Jf (i:=5) (d:= .str fs) (Jy GL hr (Vc (Vv 2 rfl) (Vc (Vv 3 rfl) Vn)) g1) ZU.nd) ?_;refine Wa (Jf (i:=6) (d:= .str sc) (Jy GL hr (Vc (Vv 2 rfl) (Vc (Vv 4 rfl) Vn)) g2) ZU.nd) ?_;refine Vz (JT (k:=true) (Y3 (WE (k:=true) (k2:=true) (by rw [<- c0];exact Ys (Vv 5 rfl) (Vv 6 rfl)) (fun _=>Ze (by rw [<- h2];exact Yr (Jy GO hr (Vc (Vv 5 rfl) Vn) ⟨fs,rfl,i1,rfl⟩))))) (fun _=> ?_) (fun h=>nomatch h));have e2:slM a b (m.1++[fs],m.2++[sc]) (.any (.str x)) (.any (.str y)) (.any (.str fs)) (.any (.str sc))=(slM a b m (.any (.str x)) (.any (.str y)) (.any (.str fs)) (.any (.str sc))).set 2 (.odc (J6 m.1 fs) (putVs m.1 (m.2.map D.str) fs (.str sc))):=by
     rw [show J6 m.1 fs=m.1++[fs] from Qn o1,U3 (by rw [Q0];exact mo.tri.len) o1];simp [slM]
    rw [e2];exact Vz (O0 (i:=2) hu rfl (Vv 5 rfl) (Vv 6 rfl) QT (AL.h ⟨QT,QT,QT,QT,trivial⟩) (by rw [QP];omega))
   ·rw [Qn h2];have h2':Jh fs=false:=by simpa using h2
    by_cases h3:Jh sc=true
    ·rw [Qk h3];refine WG (m:=false) (τ1:=slM a b (m.1++[sc],m.2++[fs]) (.any (.str x)) (.any (.str y)) (.any (.str fs)) (.any (.str sc))) ?_ (WkI.wk (.keep (.keep (.keep (.no (.no (.no (.no .nil)))))))) (fun z=>nomatch z);refine Wa (Jf (i:=5) (d:= .str fs) (Jy GL hr (Vc (Vv 2 rfl) (Vc (Vv 3 rfl) Vn)) g1) ZU.nd) ?_;refine Wa (Jf (i:=6) (d:= .str sc) (Jy GL hr (Vc (Vv 2 rfl) (Vc (Vv 4 rfl) Vn)) g2) ZU.nd) ?_;refine Vz (JT (k:=false) (Y3 (WE (k:=true) (k2:=false) (by rw [<- c0];exact Ys (Vv 5 rfl) (Vv 6 rfl)) (fun _=>Ze (by rw [<- h2'];exact Yr (Jy GO hr (Vc (Vv 5 rfl) Vn) ⟨fs,rfl,i1,rfl⟩))))) (fun h=>nomatch h) (fun _=>Vz (JT (k:=true) (Y3 (WE (k:=true) (k2:=true) (by rw [<- c0];exact Ys (Vv 5 rfl) (Vv 6 rfl)) (fun _=>Ze (by rw [<- h3];exact Yr (Jy GO hr (Vc (Vv 6 rfl) Vn) ⟨sc,rfl,i2,rfl⟩))))) (fun _=> ?_) (fun h=>nomatch h))));have e2:slM a b (m.1++[sc],m.2++[fs]) (.any (.str x)) (.any (.str y)) (.any (.str fs)) (.any (.str sc))=(slM a b m (.any (.str x)) (.any (.str y)) (.any (.str fs)) (.any (.str sc))).set 2 (.odc (J6 m.1 sc) (putVs m.1 (m.2.map D.str) sc (.str fs))):=by
      rw [show J6 m.1 sc=m.1++[sc] from Qn o2,U3 (by rw [Q0];exact mo.tri.len) o2];simp [slM]
     rw [e2];exact Vz (O0 (i:=2) hu rfl (Vv 6 rfl) (Vv 5 rfl) QT (AL.h ⟨QT,QT,QT,QT,trivial⟩) (by rw [QP];omega))
    ·rw [Qn h3];have h3':Jh sc=false:=by simpa using h3
     show QOs _ _ _ _ (.ret .non);refine Vq (m:=true) (Jf (i:=5) (d:= .str fs) (Jy GL hr (Vc (Vv 2 rfl) (Vc (Vv 3 rfl) Vn)) g1) ZU.nd) ?_;refine Vq (m:=true) (Jf (i:=6) (d:= .str sc) (Jy GL hr (Vc (Vv 2 rfl) (Vc (Vv 4 rfl) Vn)) g2) ZU.nd) ?_;exact Vz (JT (k:=false) (Y3 (WE (k:=true) (k2:=false) (by rw [<- c0];exact Ys (Vv 5 rfl) (Vv 6 rfl)) (fun _=>Ze (by rw [<- h2'];exact Yr (Jy GO hr (Vc (Vv 5 rfl) Vn) ⟨fs,rfl,i1,rfl⟩))))) (fun h=>nomatch h) (fun _=>Vz (JT (k:=false) (Y3 (WE (k:=true) (k2:=false) (by rw [<- c0];exact Ys (Vv 5 rfl) (Vv 6 rfl)) (fun _=>Ze (by rw [<- h3'];exact Yr (Jy GO hr (Vc (Vv 6 rfl) Vn) ⟨sc,rfl,i2,rfl⟩))))) (fun h=>nomatch h) (fun _=>Vz (JT (k:=true) (by rw [<- c0];exact Ys (Vv 5 rfl) (Vv 6 rfl)) (fun _=>Vz (Jv Qc4)) (fun h=>nomatch h))))))
 have hlf: ∀ l:List Str,LFs (l.map D.str)=true:=fun l=>QU (fun _=>QT) _
 cases hm:Qqb (a.ts.zip b.ts) with
 | none =>
  obtain ⟨i0,⟨x0,y0⟩,m0,h0,hp0,hf0⟩:=GQ hm;have hi0:i0 < (a.ts.zip b.ts).length:=(Q5.mp h0).1;have hxy:=W1.mp h0;have pre: ∀ i,i<=i0-> ∃ mi,((a.ts.zip b.ts).take i).foldlM JI ([],[])=some mi/\MOk T8 i mi:=fun i hi=>by
   obtain ⟨mi,e⟩:=Ym hp0 i;rw [Qvz,Wo hi] at e;refine ⟨mi,e,?_⟩;have:=MOk.run ((a.ts.zip b.ts).take i) (n:=0) MOk.nil (fun p hp=>hP p (QW hp)) e;rw [Qj,Wo (by omega),Nat.zero_add] at this;exact this
  refine Gb (Qgn (m:=false) (as:=a.ts.map .str) (bs:=b.ts.map .str) (jx:=3) (jy:=4) (fun i=>slM a b ((((a.ts.zip b.ts).take i).foldlM JI ([],[])).getD ([],[])) .no .no .no .no) i0 (u0:= .str x0) (v0:= .str y0) (by rw [Q8,hxy.1];rfl) (by rw [Q8,hxy.2];rfl) Qw rfl T.bZip (QR (da:= .tup [.str a.k,.tup (a.ts.map .str)]) (Vv 0 rfl) Vi at1) (QR (da:= .tup [.str b.k,.tup (b.ts.map .str)]) (Vv 1 rfl) Vi at1) (hlf _) (hlf _) rfl (fun i u v hi h1 h2=>⟨false,?_,fun z=>nomatch z⟩) ?_ ZU.nd)
  ·obtain ⟨x,y,hxy',rfl,rfl⟩:=hz h1 h2;obtain ⟨mi,ei,mo⟩:=pre i (by omega);obtain ⟨mj,ej,_⟩:=pre (i+1) (by omega);have hn:=Ya (f:=JI) (a:=([],[])) hxy';rw [ei,ej] at hn;have:=turn mi i x y mo (by omega) (hP _ (Q4 hxy')).1 (hP _ (Q4 hxy')).2;rw [show JI mi (x,y)=some mj from hn.symm] at this;rw [ei,ej];exact this
  ·obtain ⟨mi,ei,mo⟩:=pre i0 (Q6 _);have e0:mi=m0:=Qt (ei.symm.trans hp0);subst e0;have:=turn mi i0 x0 y0 mo (by omega) (hP _ (Q4 h0)).1 (hP _ (Q4 h0)).2;rw [hf0] at this;rw [ei];exact this
 | some mf =>
  have pre: ∀ i,i<=(a.ts.zip b.ts).length-> ∃ mi,((a.ts.zip b.ts).take i).foldlM JI ([],[])=some mi/\MOk T8 i mi:=fun i hi=>by
   obtain ⟨mi,e⟩:=Ym hm i;refine ⟨mi,e,?_⟩;have:=MOk.run ((a.ts.zip b.ts).take i) (n:=0) MOk.nil (fun p hp=>hP p (QW hp)) e;rw [Qj,Wo hi,Nat.zero_add] at this;exact this
  have mok:=MOk.run (a.ts.zip b.ts) (n:=0) MOk.nil hP hm;have hml:=mok.len;refine Vq (m:=false) (τ1:=slM a b mf .no .no .no .no) ?loop ?fin
  case loop =>
   have ef:mf=(((a.ts.zip b.ts).take (min (a.ts.map D.str).length (b.ts.map D.str).length)).foldlM JI ([],[])).getD ([],[]):=by
    rw [Q0,Q0,JZ (by rw [Wq];exact Q6 _)];rw [show (a.ts.zip b.ts).foldlM JI ([],[])=some mf from hm];rfl
   rw [ef];refine Qkm (m:=false) (as:=a.ts.map .str) (bs:=b.ts.map .str) (jx:=3) (jy:=4) (fun i=>slM a b ((((a.ts.zip b.ts).take i).foldlM JI ([],[])).getD ([],[])) .no .no .no .no) Qw rfl T.bZip (QR (da:= .tup [.str a.k,.tup (a.ts.map .str)]) (Vv 0 rfl) Vi at1) (QR (da:= .tup [.str b.k,.tup (b.ts.map .str)]) (Vv 1 rfl) Vi at1) (hlf _) (hlf _) rfl (fun i u v h1 h2=>⟨false,?_,fun z=>nomatch z⟩) ZU.nd;obtain ⟨x,y,hxy',rfl,rfl⟩:=hz h1 h2;have hi:=(Q5.mp hxy').1;obtain ⟨mi,ei,mo⟩:=pre i (by omega);obtain ⟨mj,ej,_⟩:=pre (i+1) (by omega);have hn:=Ya (f:=JI) (a:=([],[])) hxy';rw [ei,ej] at hn;have:=turn mi i x y mo (by omega) (hP _ (Q4 hxy')).1 (hP _ (Q4 hxy')).2;rw [show JI mi (x,y)=some mj from hn.symm] at this;rw [ei,ej];exact this
  case fin =>
   refine Qts (j:=2) (ks:=mf.1) (ds:=mf.2.map .str) rfl (AL.h trivial) (Vz (Jv (Ql6 (ks:=mf.1) (ds:=(theta mf).map .str) ?dict (hlf _))));refine Qbz rfl T.bDct (PDL.pd ?_) (by rw [Q0];exact BO mf) (by omega) (hlf _) mok.tri.nd;rw [Qit];refine Z6 (f:=fun d=> .tup [d,.str (W4 mf.1 mf.2 (YZ d))]) rfl (Qup (ks:=mf.1) (ds:=mf.2.map .str) (Vv 2 rfl)) (Vl (by rw [Q0];omega)) fun d hd cl C s H ex=> ?_
   obtain ⟨t,ht,rfl⟩:=Q3.mp hd;exact Vp (Vc (Vv 0 rfl) (Vc (Jy GL hr (Vc (Vv 3 rfl) (Vc (Vv 0 rfl) Vn)) ⟨mf.1,mf.2,t,true,rfl,mok.tri,rfl⟩) Vn)) (Vl (by simp))
end
def Yes (rs:List Ru) (a b:Int):Prop:= ∃ (n p:Nat) (r:Ru) (l:Li),a=n/\b=p/\rs[n]? =some r/\r.b[p]? =some l/\l.y=true
theorem YT {α:Type} {f:α->D} {l:List α} {i:Nat} {a:α} (h:l[i]? =some a):dAt (.tup (l.map f)) (i:Int)=some (f a):=WM (by rw [Q8,h];rfl)
theorem Qtz {l:Li}:(!decide ((if l.y=true then ("yes" :Str) else "no")= "yes"))= !l.y:=by
 cases l.y
 ·decide +kernel
 ·simp
section
variable {P:Program} {w:World} {K:W.Frag} {mg:Str->Option Value} {base:Heap}
abbrev GT:List Str:=["rules", "number", "place"]
abbrev Qzl:List Str:=["rules", "number", "place", "body"]
theorem Qv3:Vf Qzl GT (Vs Qa1):=⟨rfl,rfl,rfl,by decide +kernel,rfl,by decide +kernel,by decide +kernel⟩
def RRef:List D->D->Prop:=fun ds d=> ∃ (rs:List Ru) (a b:Int),ds=[.tup (rs.map Ru.d),.int a,.int b]/\Yes rs a b/\d= .non
section
variable {X:Cx} {ρ:List (Option D)} {e1 e2:Expr}
theorem Qng {a b c:Expr} {i j k:Int} {pos:Pos} (ha:PD X ρ a (.int i)) (hb:PD X ρ b (.int j)) (hc:PD X ρ c (.int k)):PB X ρ (.Compare a [.LtE,.Lt] [b,c] pos) (decide (i<=j) && decide (j < k)) :=
 ⟨(Qos Qzd Qv7 ha.pe hb.pe hc.pe (by show behindInMarks .LtE c=false;exact nomark c)).imp fun σ H Q hq=>⟨hq.1,fun v H1 s1 i1=>⟨hq.1.same s1,fun u H2 s2 i2=>⟨i,j,WY (i1.same s2),WY i2,decide (i<=j),rfl,by
  obtain ⟨he,q⟩:=hq;have s:=s1.trans s2
  by_cases h:i<=j
  ·rw [QM h];refine Qbk ⟨he.same s,fun w' H3 s3 i3=>⟨j,k,WY i2,WY i3,_,rfl,?_⟩⟩;have:=q H3 (s.trans s3);rwa [QM h,Y0] at this
  ·rw [QA h];refine OT ⟨_,rfl,?_⟩;have:=q H2 s;rwa [QA h,B3] at this⟩⟩⟩⟩
theorem Qvp {α:Type} {f:α->D} {l:List α} {a:Int} {j:Nat} {p1 p2 p3 p4 p5:Pos} (hm:X.mg "len" =none) (h1:PD X ρ e1 (.int a)) (h2:PD X ρ e2 (.tup (l.map f))) (hg:Gl X "len" :=by rfl) (hs:starEach [e2] X.env=[(false,eval e2 X.env)]:=by rfl) :
  PB X ρ (.UnaryOp .Not (.Compare (.Constant (.int 0) j p1) [.LtE,.Lt] [e1,.Call (.Name "len" p2) [e2] [] p3] p4) p5) (!(decide (0<=a) && decide (a < (l.length:Nat)))):=by
 have:=B0 (pos:=p5) (Qng (pos:=p4) (Vi (i:=0) (j:=j) (pos:=p1)) h1 (Wb (pos:=p3) (p:=p2) hm h2 rfl (fun y e=>nomatch e) hg hs));rw [Q0] at this;exact this
end
theorem Qmd (T:Txt K mg) (F:Fd K mg "refuse_place" Qa1 GT):PrD P w K mg base "refuse_place" 1 GT RRef:=by
 refine Jar (N:=Qzl) F Qv3 (by decide) fun f cdv A outer s H E ds d hr hR _=> ?_
 obtain ⟨rs,_,_,rfl,⟨n,p,r,l,rfl,rfl,hn,hp,hy⟩,rfl⟩:=hR;have h1:n < rs.length:=(Q5.mp hn).1;have h2:p < r.b.length:=(Q5.mp hp).1;refine ⟨rfl,[.arg (.tup (rs.map Ru.d)),.arg (.int n),.arg (.int p),.any (.tup (r.b.map Li.d))],?_⟩;have c1:(!(decide (0<=(n:Int)) && decide ((n:Int) < (rs.length:Nat))))=false:=by simp [h1]
 have c2:(!(decide (0<=(p:Int)) && decide ((p:Int) < (r.b.length:Nat))))=false:=by simp [h2]
 refine Wa (JT (k:=false) (by rw [<- c1];exact Qvp T.bLen (Vv 1 rfl) (Vv 0 rfl)) (fun h=>nomatch h) (fun _=>JS)) ?_;refine Wa (Jf (i:=3) (d:= .tup (r.b.map Li.d)) (QR (da:= .tup [r.h.d,.tup (r.b.map Li.d)]) (QR (da:= .tup (rs.map Ru.d)) (Vv 0 rfl) (Vv 1 rfl) (YT hn)) Vi at1) Qv3.nd) ?_;refine Wa (JT (k:=false) (by rw [<- c2];exact Qvp T.bLen (Vv 2 rfl) (Vv 3 rfl)) (fun h=>nomatch h) (fun _=>JS)) ?_;refine Vz (JT (k:=false) ?_ (fun h=>nomatch h) (fun _=>JS));have c3:=Qtz (l:=l);rw [hy] at c3;rw [show false= !true from rfl,<- c3];exact Ys (QR (da:= .tup [.str (if l.y then "yes" else "no"),l.a.d]) (QR (da:= .tup (r.b.map Li.d)) (Vv 3 rfl) (Vv 2 rfl) (YT hp)) Vi (by rw [hy];exact at0)) Vt
end
structure RuC (r:Ru):Prop where
 b:r.b.length<=4
 v:(Qi r).length<=3
 t: ∀ a∈QB r,a.ts.length<=3
 s: ∀ a∈QB r,∀ t∈a.ts,t.length<=8
theorem RuC.k {r:Ru} (h:RuC r):RuK r:=⟨by have:=h.b;omega,by have:=h.v;omega,h.t,fun a ha t ht=>by have:=h.s a ha t ht;omega⟩
def ap (v:Str):Str:=v++ "'"
def QS (r:Ru):Ru:=Wz (Qi r) ((Qi r).map ap) r
def Jw (r:Ru) (p:Nat) (q:Ru):Ru:=⟨r.h,r.b.take p++q.b++r.b.drop (p+1)⟩
theorem WK {α:Type} (l:List α) (n:Nat) (h:n<=l.length):WZ l none (some (n:Int))=l.take n:=by
 unfold WZ;rw [HT.GC];simp [HT.sIx,Wo h]
theorem Z9 {α:Type} (l:List α) (n:Nat):WZ l (some (n:Int)) none=l.drop n:=by
 unfold WZ;rw [HT.GC];simp only [HT.sIx]
 by_cases h:n<=l.length
 ·rw [Wo h];rw [<- Jr,QF]
 ·rw [Nat.min_eq_right (by omega),Qal (Q6 _),Qal (by omega)]
  simp
theorem Qyh (v:Str):(ap v).length=v.length+1:=by
 unfold ap;rw [Str.length_append];have:(Str.ofString "'").length=1:=by decide +kernel
 omega
theorem JU {r:Ru} {l:Li} (h:l∈r.b):l.a∈QB r:=Q9 _ (Q3.mpr ⟨l,h,rfl⟩)
def Tm (r q:Ru) (t:Str):Prop:=t.length<=9/\(Jh t=true->t∈(Qi r).map ap++Qi q)
theorem Bk {r q:Ru} (h:RuC r) {a:At} (ha:a∈QB r): ∀ t∈(atomF (Qi r) ((Qi r).map ap) a).ts,Tm r q t:=fun t ht=>by
 obtain ⟨u,hu,rfl⟩:=Q3.mp ht
 by_cases hv:u∈Qi r
 ·have h1:=Wy (ks:=Qi r) (vs:=(Qi r).map ap) (by simp) hv;have h2:subst (Qi r) ((Qi r).map ap) u∈(Qi r).map ap:=Q4 h1;refine ⟨?_,fun _=>ZF _ h2⟩;obtain ⟨w,hw,e⟩:=Q3.mp h2;rw [<- e,Qyh];obtain ⟨_,b,hb,hwb⟩:=Wx.mp hw;have:=h.s b hb w hwb;omega
 ·rw [Z7 hv];refine ⟨by have:=h.s a ha u hu;omega,fun ho=>(hv (Wx.mpr ⟨ho,a,ha,hu⟩)).elim⟩
theorem Qap {r q:Ru} (h:RuC q) {a:At} (ha:a∈QB q): ∀ t∈a.ts,Tm r q t:=fun t ht =>
 ⟨by have:=h.s a ha t ht;omega,fun ho=>QG _ (Wx.mpr ⟨ho,a,ha,ht⟩)⟩
theorem Gy {r q:Ru} (hr:RuC r) (hq:RuC q) {p:Nat}: ∀ a∈QB (Jw (QS r) p q),a.ts.length<=3/\ ∀ t∈a.ts,Tm r q t:=fun a ha=>by
 have apart: ∀ b∈QB r,(atomF (Qi r) ((Qi r).map ap) b).ts.length<=3/\ ∀ t∈(atomF (Qi r) ((Qi r).map ap) b).ts,Tm r q t:=fun b hb=>⟨by simp only [atomF,Q0];exact hr.t b hb,Bk hr hb⟩
 have lits: ∀ l∈(QS r).b,l.a.ts.length<=3/\ ∀ t∈l.a.ts,Tm r q t:=fun l hl=>by
  obtain ⟨l0,hl0,rfl⟩:=Q3.mp hl;exact apart l0.a (JU hl0)
 rcases Qd.mp ha with rfl | ha
 ·exact apart r.h Q7
 ·obtain ⟨l,hl,rfl⟩:=Q3.mp ha;have hl':l∈(QS r).b.take p++q.b++(QS r).b.drop (p+1):=hl;rw [QH,QH] at hl';rcases hl' with (z | z) | z
  ·exact lits l (QW z)
  ·exact ⟨hq.t _ (JU z),Qap hq (JU z)⟩
  ·exact lits l (Qec z)
theorem Qeg {r q x:Ru} (hr:RuC r) (hq:RuC q) (h: ∀ a∈QB x,∀ t∈a.ts,Tm r q t):(Qi x).length<=6:=by
 have h1:=Y8 (UO x) (m:=(Qi r).map ap++Qi q) fun t ht=>by
  obtain ⟨ho,a,ha,hta⟩:=Wx.mp ht;exact (h a ha t hta).2 ho
 have h2:=hr.v;have h3:=hq.v;simp at h1;omega
theorem Qqh {r q:Ru} {p:Nat} (hr:RuC r) (hq:RuC q):(Jw (QS r) p q).b.length<=8:=by
 have h1:=hr.b;have h2:=hq.b;have h3:(QS r).b.length=r.b.length:=by simp [QS,Wz]
 show ((QS r).b.take p++q.b++(QS r).b.drop (p+1)).length<=8;rw [Ql,Ql,Qj,Jr];omega
theorem Qxv {r q:Ru} (hr:RuC r) (hq:RuC q) {p:Nat}:RuK (Jw (QS r) p q) :=
 ⟨Qqh hr hq,by have:=Qeg hr hq fun a ha=>(Gy hr hq (p:=p) a ha).2;omega,fun a ha=>(Gy hr hq a ha).1,fun a ha t ht=>by have:=((Gy hr hq a ha).2 t ht).1;omega⟩
def Qcr (r:Ru) (l:Li) (q:Ru):Option Gv:=Ot (atomF (Qi r) ((Qi r).map ap) l.a) q.h
theorem Qix {r q:Ru} {l:Li} {m:Gv} (hr:RuC r) (hq:RuC q) (hl:l∈r.b) (e:Qcr r l q=some m):MOk (Tm r q) 3 m:=by
 unfold Qcr Ot at e;split at e
 ·have h3:=hr.t _ (JU hl);have:=MOk.run _ (n:=0) (P:=Tm r q) MOk.nil (fun p hp=>⟨Bk hr (JU hl) _ (Jb hp).1,Qap hq Q7 _ (Jb hp).2⟩) e;refine ⟨this.tri,this.k,this.v,Qz this.len ?_⟩;rw [Wq];simp only [atomF,Q0];omega
 ·cases e
theorem Qia {r q:Ru} {m:Gv} (mo:MOk (Tm r q) 3 m) {x:Ru} (h: ∀ a∈QB x,a.ts.length<=3/\ ∀ t∈a.ts,Tm r q t): ∀ a∈QB (Wz m.1 (theta m) x),a.ts.length<=3/\ ∀ t∈a.ts,Tm r q t:=fun a ha=>by
 rw [Y6,Uj] at ha;obtain ⟨b,hb,rfl⟩:=Q3.mp ha;refine ⟨by simp only [mapA,Q0];exact (h b hb).1,fun t ht=> ?_⟩;obtain ⟨u,hu,rfl⟩:=Q3.mp ht;rw [UQ];exact YF mo.tri.len mo.v ((h b hb).2 u hu)
theorem Qq9 {r q:Ru} (hr:RuC r) (hq:RuC q) {l:Li} {m:Gv} (hl:l∈r.b) (e:Qcr r l q=some m) {p:Nat}:RuK (Wz m.1 (theta m) (Jw (QS r) p q)):=by
 have mo:=Qix hr hq hl e;have h:=Qia mo (Gy hr hq (p:=p));refine ⟨?_,by have:=Qeg hr hq fun a ha=>(h a ha).2;omega,fun a ha=>(h a ha).1,fun a ha t ht=>by have:=((h a ha).2 t ht).1;omega⟩;show ((Jw (QS r) p q).b.map _).length<=8;rw [Q0];exact Qqh hr hq
def ZD (r:Ru) (p:Nat) (l:Li) (q:Ru):Option Ru:=(Qcr r l q).map fun m=>Jt (Wz m.1 (theta m) (Jw (QS r) p q))
def byG (r:Ru) (p:Nat) (l:Li) (rs:List Ru):List Ru:=rs.filterMap (ZD r p l)
theorem Qut {r:Ru} {p:Nat} {l:Li} {rs:List Ru} {i:Nat} {q:Ru} (h:rs[i]? =some q):byG r p l (rs.take (i+1))=byG r p l (rs.take i)++(ZD r p l q).toList:=by
 unfold byG;rw [QJ,h,List.filterMap_append];congr 1
theorem Qrc {r:Ru} {p:Nat} {l:Li} {rs:List Ru}:(byG r p l rs).length<=rs.length:=List.length_filterMap_le _ _
theorem Ox (ks vs:List Str):LF (.dct true (ks.map .str) (vs.map .str))=true:=by
 have:LFs (vs.map D.str)=true:=QU (fun _=>QT) _;simp [LF,this]
section
variable {P:Program} {w:World} {K:W.Frag} {mg:Str->Option Value} {base:Heap}
def RApart:List D->D->Prop:=fun ds d=> ∃ r:Ru,ds=[r.d]/\RuC r/\d=(QS r).d
theorem Qsh:Vf ["rule"] ["rule"] (Vs Qex):=⟨rfl,rfl,rfl,by decide +kernel,rfl,by decide +kernel,by decide +kernel⟩
theorem Qp4 (ks:List Str):JH ks ((ks.map ap).map .str)=(ks.map D.str).map fun d=> .tup [d,.str (ap (YZ d))]:=by
 unfold JH;refine Zy fun i=> ?_
 simp only [Ul,Q8];cases ks[i]? <;>rfl
theorem Qpl (T:Txt K mg) (F:Fd K mg "set_apart" Qex ["rule"]) (G1:PrL P w K mg base "variables_by_coming" 2 ["rule"] RComing) (G3:PrD P w K mg base "with_terms" 2 Oo RWith):PrD P w K mg base "set_apart" 3 ["rule"] RApart:=by
 refine Zi (N:=["rule"]) F Qsh (by decide) fun f cdv A outer s H E ds d hr hR _=> ?_
 obtain ⟨r,rfl,hc,rfl⟩:=hR;have hv:=hc.v;have lf:LFs (((Qi r).map ap).map D.str)=true:=QU (fun _=>QT) _;refine Vz (Jv (Jy G3 hr (Vc (Vv 0 rfl) (Vc (Ql6 (ks:=Qi r) (ds:=((Qi r).map ap).map .str) ?dict lf) Vn)) ⟨r,Qi r,(Qi r).map ap,true,rfl,by simp,hc.k,rfl⟩));refine Qbz rfl T.bDct (PDL.pd ?_) (by simp) (by omega) lf (UO r);rw [Qp4];refine Z6 (f:=fun d=> .tup [d,.str (ap (YZ d))]) rfl (YH (PDL.pd (ZS G1 hr (Vc (Vv 0 rfl) Vn) ⟨r,rfl,hc.k,rfl⟩))) (Vl (by simp;omega)) fun d hd cl C s H ex=> ?_
 obtain ⟨t,ht,rfl⟩:=Q3.mp hd;obtain ⟨_,a,ha,hta⟩:=Wx.mp ht;have h8:=hc.s a ha t hta;have h1:(Str.ofString "'").length=1:=by decide +kernel
 exact Vp (Vc (Vv 0 rfl) (Vc (Qjc (x:=t) (Vv 0 rfl) Vt (Vl (by omega))) Vn)) (Vl (by simp))
def RBy:List D->D->Prop:=fun ds d=> ∃ (r:Ru) (p:Nat) (l:Li) (rs:List Ru),ds=[r.d,.int p,.tup (rs.map Ru.d)]/\RuC r/\(∀ q∈rs,RuC q)/\rs.length<=16/\r.b[p]? =some l/\d= .tup ((byG r p l rs).map Ru.d)
abbrev pBy:List Str:=["rule", "place", "others"]
abbrev nBy:List Str:=["rule", "place", "others", "apart", "found", "head", "body", "terms", "longer"]
theorem Qgb:Vf nBy pBy (Vs sBy):=⟨rfl,rfl,rfl,by decide +kernel,rfl,by decide +kernel,by decide +kernel⟩
def slB (r:Ru) (p:Nat) (rs acc:List Ru) (x5 x6 x7 x8:Sl):List Sl:=[.arg r.d,.arg (.int p),.arg (.tup (rs.map Ru.d)),.any (QS r).d,.own (acc.map Ru.d),x5,x6,x7,x8]
theorem Qsl (rs:List Ru): ∀ d∈rs.map Ru.d,∃ a b,d= .tup [a,b]:=fun d hd=>by
 obtain ⟨r,_,rfl⟩:=Q3.mp hd;exact ⟨_,_,rfl⟩
set_option maxHeartbeats 1000000 in
theorem Qzg (T:Txt K mg) (F:Fd K mg "rules_by" sBy pBy) (G1:PrD P w K mg base "set_apart" 3 ["rule"] RApart) (G2:PrD P w K mg base "meeting_terms" 2 Qd9 RMeet) (G3:PrD P w K mg base "with_terms" 2 Oo RWith) (G4:PrD P w K mg base "plain" 3 ["rule"] RPlain):PrD P w K mg base "rules_by" 4 pBy RBy:=by
 refine Zi (N:=nBy) F Qgb (by decide) fun f cdv A outer s H E ds d hr hR _=> ?_
 obtain ⟨r,p,l,rs,rfl,hb,hq,hrs,hl,rfl⟩:=hR;have hlm:=Q4 hl;have hrl:=hb.b;have hp:p < r.b.length:=(Q5.mp hl).1;have hpa:(QS r).b.length=r.b.length:=by simp [QS,Wz]
 have hla:(QS r).b[p]? =some (litF (Qi r) ((Qi r).map ap) l):=by
  show (r.b.map _)[p]? =_;rw [Q8,hl];rfl
 refine Vq (m:=true) (Jf (i:=3) (d:=(QS r).d) (Jy G1 hr (Vc (Vv 0 rfl) Vn) ⟨r,rfl,hb,rfl⟩) Qgb.nd) ?_;refine Vq (m:=true) (W5 (i:=4) (ds:=[]) (Wf Vn (Vl (by decide))) rfl Qgb.nd) ?_;show QOs _ _ (slB r p rs [] .no .no .no .no) _ _;refine Vq (m:=false) (τ1:=slB r p rs (byG r p l rs) .no .no .no .no) ?loop (Vz (Jv (Wg T.bTup (Vv 4 rfl) (.inl rfl))));have e:byG r p l rs=byG r p l (rs.take (rs.map Ru.d).length):=by rw [Q0,QF]
 rw [e];refine Zc (ds:=rs.map Ru.d) (m:=false) (put:=fun τ d=>(τ.set 5 (.any (nth d 0))).set 6 (.any (nth d 1))) (fun i=>slB r p rs (byG r p l (rs.take i)) .no .no .no .no) Qw rfl (UX (Vv 2 rfl).pe)
  (Yi rfl (Vh (Ja (i:=5) Qgb.nd rfl (QI rfl)) (Vh (Ja (i:=6) Qgb.nd rfl (QI rfl)) Zm))) (put2 (Qsl rs)) (Qf0 (QU Ru.lf _)) rfl (fun i d hi=>⟨false,?_,fun z=>nomatch z⟩)
 obtain ⟨q,hqi,rfl⟩:=Zr hi;have hqc:=hq q (Q4 hqi);have hql:=hqc.b;have hal:(byG r p l (rs.take i)).length<=16:=Qz Qrc (by rw [Qj];omega);rw [Qut hqi];generalize byG r p l (rs.take i)=acc at hal;show QOs _ _ (slB r p rs acc (.any q.h.d) (.any (.tup (q.b.map Li.d))) .no .no) _ _;have gm:RMeet [(litF (Qi r) ((Qi r).map ap) l).a.d,q.h.d] (Qvh (Qcr r l q)):=⟨_,_,rfl,by show (l.a.ts.map _).length<=3;rw [Q0];exact hb.t _ (JU hlm),fun t ht=>by have:=(Bk (q:=q) hb (JU hlm) t ht).1;show t.length<=1000;omega,fun t ht=>by have:=hqc.s _ Q7 t ht;show t.length<=1000;omega,rfl⟩;have arg1: ∀ {X:Cx} {ρ:List (Option D)} {e1 e2:Expr} {q1 q2 q3 q4 q5:Pos} {j1 j2:Nat},PD X ρ e1 (QS r).d->PD X ρ e2 (.int p)->PlainIx e2->PD X ρ (.Subscript (.Subscript (.Subscript e1 (.Constant (.int 1) j1 q1) q2) e2 q3) (.Constant (.int 1) j2 q4) q5) (litF (Qi r) ((Qi r).map ap) l).a.d:=fun h1 h2 h3 =>
  QR (da:= .tup [.str (if (litF (Qi r) ((Qi r).map ap) l).y then "yes" else "no"),(litF (Qi r) ((Qi r).map ap) l).a.d]) (QR (da:= .tup ((QS r).b.map Li.d)) (QR (da:= .tup [(QS r).h.d,.tup ((QS r).b.map Li.d)]) h1 Vi at1) h2 (YT hla) (hs:=h3)) Vi at1
 cases hm:Qcr r l q with
 | some m =>
  rw [hm] at gm;have eo:(ZD r p l q).toList=[Jt (Wz m.1 (theta m) (Jw (QS r) p q))]:=by
   unfold ZD;rw [hm];rfl
  rw [eo];have hjk:=Qxv hb hqc (p:=p);have hwk:=Qq9 hb hqc hlm hm (p:=p);have hjl:=hjk.b;generalize hJ:Jw (QS r) p q=J at hjk hwk hjl;refine WG (m:=false) (τ1:=slB r p rs (acc++[Jt (Wz m.1 (theta m) J)]) (.any q.h.d) (.any (.tup (q.b.map Li.d))) (.any (.dct true (m.1.map .str) ((theta m).map .str))) (.any J.d)) ?_ (WkI.wk (.keep (.keep (.keep (.keep (.keep (.no (.no (.no (.no .nil)))))))))) (fun z=>nomatch z);refine Wa (Jf (i:=7) (d:= .dct true (m.1.map .str) ((theta m).map .str)) (Jy G2 (hr.mono (by decide)) (Vc (arg1 (Vv 3 rfl) (Vv 1 rfl) (by intro _ _;rfl)) (Vc (Vv 5 rfl) Vn)) gm) Qgb.nd) ?_;refine Vz (JT (k:=true) (Qhr (d:= .dct true (m.1.map .str) ((theta m).map .str)) (Vv 7 rfl)) (fun _=> ?_) (fun h=>nomatch h));have ej:J.d= .tup [(QS r).h.d,.tup ((WZ ((QS r).b.map Li.d) none (some (p:Int))++q.b.map Li.d)++WZ ((QS r).b.map Li.d) (some ((p:Int)+1)) none)]:=by
   have e2:((p:Int)+1)=((p+1:Nat):Int):=by omega
   rw [e2,WK _ _ (by rw [Q0];omega),Z9,<- hJ];simp [Jw,Ru.d,JL,JV]
  refine Qbd (m:=true) (r:= .next false _) (Jf (i:=8) (d:=J.d) ?val Qgb.nd) ?_
  case val =>
   rw [ej];refine (Vp (Vc (QR (da:= .tup [(QS r).h.d,.tup ((QS r).b.map Li.d)]) (Vv 3 rfl) Vi at0) (Vc (UH (UH (WC (QR (da:= .tup [(QS r).h.d,.tup ((QS r).b.map Li.d)]) (Vv 3 rfl) Vi at1) Wv (JW (Vv 1 rfl))) (Vv 6 rfl) (Vl ?z1)) (WC (QR (da:= .tup [(QS r).h.d,.tup ((QS r).b.map Li.d)]) (Vv 3 rfl) Vi at1) (JW (Wi (Vv 1 rfl) Vi)) Wv) (Vl ?z2)) Vn)) (Vl (by simp)))
   case z1 =>
    rw [WK _ _ (by rw [Q0];omega)]
    simp
    omega
   case z2 =>
    have e2:((p:Int)+1)=((p+1:Nat):Int):=by omega
    rw [e2,WK _ _ (by rw [Q0];omega),Z9]
    simp
    omega
  ·show QOs _ _ (slB r p rs acc (.any q.h.d) (.any (.tup (q.b.map Li.d))) (.any (.dct true (m.1.map .str) ((theta m).map .str))) (.any J.d)) _ _;have ea:slB r p rs (acc++[Jt (Wz m.1 (theta m) J)]) (.any q.h.d) (.any (.tup (q.b.map Li.d))) (.any (.dct true (m.1.map .str) ((theta m).map .str))) (.any J.d)=(slB r p rs acc (.any q.h.d) (.any (.tup (q.b.map Li.d))) (.any (.dct true (m.1.map .str) ((theta m).map .str))) (.any J.d)).set 4 (.own (acc.map Ru.d++[(Jt (Wz m.1 (theta m) J)).d])):=by
    unfold slB;rw [QE];rfl
   rw [ea];refine Vz (Zo (i:=4) (d:=(Jt (Wz m.1 (theta m) J)).d) rfl (Jy G4 hr (Vc (Jy G3 (hr.mono (by decide)) (Vc (Vv 8 rfl) (Vc (Vv 7 rfl) Vn)) ⟨J,m.1,theta m,true,rfl,BO m,hjk,rfl⟩) Vn) ⟨_,rfl,hwk,rfl⟩) (Ru.lf _) (AL.h ⟨Ru.lf _,At.lf q.h,by rw [Qjn];exact QU Li.lf _,Ox _ _,Ru.lf _,trivial⟩) (by rw [Q0];exact QZ hal (by rw [QP];decide)))
 | none =>
  rw [hm] at gm;have eo:(ZD r p l q).toList=[]:=by
   unfold ZD;rw [hm];rfl
  rw [eo,JM];refine WG (m:=true) (τ1:=slB r p rs acc (.any q.h.d) (.any (.tup (q.b.map Li.d))) (.any .non) .no) ?_ (WkI.wk (.keep (.keep (.keep (.keep (.keep (.no (.no (.no (.keep .nil)))))))))) (fun z=>nomatch z);refine Wa (Jf (i:=7) (d:= .non) (Jy G2 (hr.mono (by decide)) (Vc (arg1 (Vv 3 rfl) (Vv 1 rfl) (by intro _ _;rfl)) (Vc (Vv 5 rfl) Vn)) gm) Qgb.nd) ?_;exact Vz (JT (k:=false) (Qhr (d:= .non) (Vv 7 rfl)) (fun h=>nomatch h) (fun _=>JS))
abbrev Qmn:List Str:=["rules", "number", "place", "coming"]
theorem Qjw:Vf Qmn GT (Vs Qoj):=⟨rfl,rfl,rfl,by decide +kernel,rfl,by decide +kernel,by decide +kernel⟩
structure Lvl (rs:List Ru):Prop where
 ok:RsOk rs
 rk: ∃ g,Rk (Ji rs) g
 k0:(K0 rs).length < 64
structure Fit (rs:List Ru) (n p:Nat) (r:Ru) (l:Li):Prop where
 lv:Lvl rs
 fb: ∀ q∈rs,RuC q
 fr:rs[n]? =some r
 fl:r.b[p]? =some l
 fy:l.y=true
def Z8 (cs:List Ru):Bool:=cs.any fun c=>decide (4 < c.b.length)
theorem Qxo (cs:List Ru):cs.map Ru.d=(cs.map fun c=>(c.h.d,D.tup (c.b.map Li.d))).map fun u=> .tup [u.1,u.2]:=by
 rw [Qo];rfl
def Qu5:D->D->D:=fun _ v=>match v with | .tup ds=> .bl (decide (4 < (ds.length:Int))) | _=> .non
theorem Qu4 (cs:List Ru):(cs.map fun c=>(c.h.d,D.tup (c.b.map Li.d))).map (fun u=>Qu5 u.1 u.2)=(cs.map fun c=>decide (4 < c.b.length)).map D.bl:=by
 rw [Qo,Qo];refine QQ fun c _=> ?_
 simp [Qu5,QK];omega
theorem Qyj (cs:List Ru):(cs.map fun c=>decide (4 < c.b.length)).any id=Z8 cs:=by
 unfold Z8;rw [List.any_map];rfl
section
variable {X:Cx} {ρ:List (Option D)}
theorem Qnz {cs:List Ru} {iter:Expr} {scope:Scope} {p1 p2 p3 p4 p5 p6 p7 p8 p9:Pos} {tk:Nat} (hc:X.calm=true) (T:Txt X.K X.mg) (hl:cs.length<=1000) (hi:PD X ρ iter (.tup (cs.map Ru.d)))
  (hok:WL X.N X.env.scope "head" scope=true:=by rfl) (hy:scope.names.lookup ("body" :Str)=some .local:=by rfl) (hnd:(("head" :Str):: "body" ::X.N).Nodup:=by decide +kernel) (hf: ∀ v,foldedSetIterable iter X.env v=pure v:=by intro _;rfl)
  (hg:Gl X "any" :=by rfl) (hs:starEach [.ListComp (.Compare (.Call (.Name "len" p1) [.Name "body" p2] [] p3) [.Gt] [.Name "MOST_LITERALS" p4] p5) [⟨.Tuple [.Name "head" p6,.Name "body" p7] tk p8,iter,[],0⟩] scope p9] X.env=[(false,eval (.ListComp (.Compare (.Call (.Name "len" p1) [.Name "body" p2] [] p3) [.Gt] [.Name "MOST_LITERALS" p4] p5) [⟨.Tuple [.Name "head" p6,.Name "body" p7] tk p8,iter,[],0⟩] scope p9) X.env)]:=by rfl)
  (he: ∀ u v,(u,v)∈(cs.map fun c=>(c.h.d,D.tup (c.b.map Li.d)))-> ∀ cl C s H ex,PD (cxP X "head" "body" scope cl C s H ex) (some u::some v::ρ) (.Compare (.Call (.Name "len" p1) [.Name "body" p2] [] p3) [.Gt] [.Name "MOST_LITERALS" p4] p5) (Qu5 u v)) {pa pb:Pos} :
  PD X ρ (.Call (.Name "any" pa) [.ListComp (.Compare (.Call (.Name "len" p1) [.Name "body" p2] [] p3) [.Gt] [.Name "MOST_LITERALS" p4] p5) [⟨.Tuple [.Name "head" p6,.Name "body" p7] tk p8,iter,[],0⟩] scope p9] [] pb) (.bl (Z8 cs)):=by
 rw [<- Qyj];refine Qr1 hc T.bAny (PDL.pd ?_) hg hs;rw [<- Qu4];exact Qhe (hnd:=hnd) (us:=cs.map fun c=>(c.h.d,D.tup (c.b.map Li.d))) (f:=Qu5) hc (by rw [<- Qxo];exact hi) (Vl (by simp;omega)) he hok hy (hf:=hf)
end
def RUnf:List D->D->Prop:=fun ds d=> ∃ (rs:List Ru) (n p:Nat) (r:Ru) (l:Li),ds=[.tup (rs.map Ru.d),.int n,.int p]/\Fit rs n p r l/\Z8 (byG r p l rs)=false/\rs.length - 1+(byG r p l rs).length<=16 /\
 d= .tup ((WZ (rs.map Ru.d) none (some (n:Int))++(byG r p l rs).map Ru.d)++WZ (rs.map Ru.d) (some ((n:Int)+1)) none)
def RUnfR:List D->Prop:=fun ds=> ∃ (rs:List Ru) (n p:Nat) (r:Ru) (l:Li),ds=[.tup (rs.map Ru.d),.int n,.int p]/\Fit rs n p r l/\(Z8 (byG r p l rs)=true \/ 16 < rs.length - 1+(byG r p l rs).length)
theorem Fit.by_ {rs:List Ru} {n p:Nat} {r:Ru} {l:Li} (h:Fit rs n p r l):RBy [r.d,.int p,.tup (rs.map Ru.d)] (.tup ((byG r p l rs).map Ru.d)) :=
 ⟨r,p,l,rs,rfl,h.fb r (Q4 h.fr),h.fb,h.lv.ok.1,h.fl,rfl⟩
theorem Fit.yes {rs:List Ru} {n p:Nat} {r:Ru} {l:Li} (h:Fit rs n p r l):Yes rs n p:=⟨n,p,r,l,rfl,rfl,h.fr,h.fl,h.fy⟩
set_option maxHeartbeats 1000000 in
theorem Qx5 (T:Txt K mg) (F:Fd K mg "unfolded" Qoj GT) (G1:PrD P w K mg base "levels_of" 3 ["rules"] RLev) (G2:PrD P w K mg base "refuse_place" 1 GT RRef) (G3:PrD P w K mg base "rules_by" 4 pBy RBy):PrD P w K mg base "unfolded" 6 GT RUnf:=by
 refine Zi (N:=Qmn) F Qjw (by decide) fun f cdv A outer s H E ds d hr hR _=> ?_
 obtain ⟨rs,n,p,r,l,rfl,fit,h1,h2,rfl⟩:=hR;have hl:=fit.lv;have hn:n < rs.length:=(Q5.mp fit.fr).1;have hbl:=Qrc (r:=r) (p:=p) (l:=l) (rs:=rs);have h16:=hl.ok.1;refine Vq (m:=true) (Qfa (Jy G1 (hr.mono (by decide)) (Vc (Vv 0 rfl) Vn) ⟨rs,rfl,hl.ok,hl.rk,hl.k0,rfl⟩)) ?_;refine Vq (m:=true) (Qfa (Jy G2 (hr.mono (by decide)) (Vc (Vv 0 rfl) (Vc (Vv 1 rfl) (Vc (Vv 2 rfl) Vn))) ⟨rs,n,p,rfl,fit.yes,rfl⟩)) ?_;refine Vq (m:=true) (Jf (i:=3) (d:= .tup ((byG r p l rs).map Ru.d)) (Jy G3 (hr.mono (by decide)) (Vc (QR (da:= .tup (rs.map Ru.d)) (Vv 0 rfl) (Vv 1 rfl) (YT fit.fr)) (Vc (Vv 2 rfl) (Vc (Vv 0 rfl) Vn))) fit.by_) Qjw.nd) ?_;refine Vq (m:=true) (JT (k:=false) (by rw [<- h1];exact Yr (Qnz (hnd:=(by decide +kernel:(("head" :Str):: "body" ::Qmn).Nodup)) rfl T (by omega) (Vv 3 rfl) (he:=fun u v huv cl C s H ex=>by
  obtain ⟨c,_,e⟩:=Q3.mp huv;cases e;exact Qur (Wb T.bLen (Vv 1 rfl) rfl (fun y e=>nomatch e)) (Qc5 T.mLit)))) (fun h=>nomatch h) (fun _=>JS)) ?_
 have c2:decide ((16:Int) < ((rs.map Ru.d).length:Nat) - 1+(((byG r p l rs).map Ru.d).length:Nat))=false:=by
  rw [Q0,Q0];exact QA (by omega)
 refine Vq (m:=true) (JT (k:=false) (by rw [<- c2];exact Qht (Wi (Qdy (Wb T.bLen (Vv 0 rfl) rfl (fun y e=>nomatch e)) Vi) (Wb T.bLen (Vv 3 rfl) rfl (fun y e=>nomatch e))) (Qc5 T.mRul)) (fun h=>nomatch h) (fun _=>JS)) ?_;refine Vz (Jv (UH (UH (WC (Vv 0 rfl) Wv (JW (Vv 1 rfl))) (Vv 3 rfl) (Vl ?z1)) (WC (Vv 0 rfl) (JW (Wi (Vv 1 rfl) Vi)) Wv) (Vl ?z2)))
 case z1 =>
  rw [WK _ _ (by rw [Q0];omega)]
  simp
  omega
 case z2 =>
  have e2:((n:Int)+1)=((n+1:Nat):Int):=by omega
  rw [e2,WK _ _ (by rw [Q0];omega),Z9]
  simp
  omega
set_option maxHeartbeats 1000000 in
theorem Qtd (T:Txt K mg) (C:Cl K mg) (F:Fd K mg "unfolded" Qoj GT) (G1:PrD P w K mg base "levels_of" 3 ["rules"] RLev) (G2:PrD P w K mg base "refuse_place" 1 GT RRef) (G3:PrD P w K mg base "rules_by" 4 pBy RBy):PrX P w K mg base "unfolded" 6 GT C.cR RUnfR:=by
 refine Jaq (N:=Qmn) F Qjw (by decide) fun f cdv A outer s H E ds hr hR _ hE=> ?_
 obtain ⟨rs,n,p,r,l,rfl,fit,h1⟩:=hR;have hl:=fit.lv;have hn:n < rs.length:=(Q5.mp fit.fr).1;have hbl:=Qrc (r:=r) (p:=p) (l:=l) (rs:=rs);have h16:=hl.ok.1;refine Qjs (Qfa (Jy G1 (hr.mono (by decide)) (Vc (Vv 0 rfl) Vn) ⟨rs,rfl,hl.ok,hl.rk,hl.k0,rfl⟩)) ?_;refine Qjs (Qfa (Jy G2 (hr.mono (by decide)) (Vc (Vv 0 rfl) (Vc (Vv 1 rfl) (Vc (Vv 2 rfl) Vn))) ⟨rs,n,p,rfl,fit.yes,rfl⟩)) ?_;refine Qjs (Jf (i:=3) (d:= .tup ((byG r p l rs).map Ru.d)) (Jy G3 (hr.mono (by decide)) (Vc (QR (da:= .tup (rs.map Ru.d)) (Vv 0 rfl) (Vv 1 rfl) (YT fit.fr)) (Vc (Vv 2 rfl) (Vc (Vv 0 rfl) Vn))) fit.by_) Qjw.nd) ?_;cases ht:Z8 (byG r p l rs) with
 | true =>
  exact Qef (Qyl (k:=true) (by rw [<- ht];exact Yr (Qnz (hnd:=(by decide +kernel:(("head" :Str):: "body" ::Qmn).Nodup)) rfl T (by omega) (Vv 3 rfl) (he:=fun u v huv cl C s H ex=>by
   obtain ⟨c,_,e⟩:=Q3.mp huv;cases e;exact Qur (Wb T.bLen (Vv 1 rfl) rfl (fun y e=>nomatch e)) (Qc5 T.mLit)))) (fun _=>Qef (Qjt hE C.gR C.xR.at_)) (fun h=>nomatch h))
 | false =>
  have h2:16 < rs.length - 1+(byG r p l rs).length:=by
   rcases h1 with h | h
   ·rw [ht] at h;cases h
   ·exact h
  refine Qjs (JT (k:=false) (r:= .next true _) (by rw [<- ht];exact Yr (Qnz (hnd:=(by decide +kernel:(("head" :Str):: "body" ::Qmn).Nodup)) rfl T (by omega) (Vv 3 rfl) (he:=fun u v huv cl C s H ex=>by
   obtain ⟨c,_,e⟩:=Q3.mp huv;cases e;exact Qur (Wb T.bLen (Vv 1 rfl) rfl (fun y e=>nomatch e)) (Qc5 T.mLit)))) (fun h=>nomatch h) (fun _=>JS)) ?_
  have c2:decide ((16:Int) < ((rs.map Ru.d).length:Nat) - 1+(((byG r p l rs).map Ru.d).length:Nat))=true:=by
   rw [Q0,Q0];exact QM (by omega)
  exact Qef (Qyl (k:=true) (by rw [<- c2];exact Qht (Wi (Qdy (Wb T.bLen (Vv 0 rfl) rfl (fun y e=>nomatch e)) Vi) (Wb T.bLen (Vv 3 rfl) rfl (fun y e=>nomatch e))) (Qc5 T.mRul)) (fun _=>Qef (Qjt hE C.gR C.xR.at_)) (fun h=>nomatch h))
end
end K27
namespace RH
open PySem L2
theorem Y9 {α β:Type} {f:β->α->β} {a:β} {l:List α} {i:Nat} {x:α} (h:l[i]? =some x):(l.take (i+1)).foldl f a=f ((l.take i).foldl f a) x:=by
 rw [QJ,h];simp [Wm]
end RH
namespace K27.V
open PySem L2 RH
abbrev Uv:Stmt:=top 45
abbrev Qsi:Stmt:=top 46
abbrev Qev:Stmt:=top 47
def Qct (ks vs:List Str) (t:Str):Str:=vs.getD (ks.idxOf t) t
theorem Qkx {ks vs:List Str} {t:Str} (hl:ks.length=vs.length) (h:t ∉ ks):Qct ks vs t=t:=by
 unfold Qct;rw [Qm,List.idxOf_eq_length h,hl,JJ (Q6 _)];rfl
theorem Qqk {ks vs:List Str} {t:Str} (hl:ks.length=vs.length) (h:t∈ks): ∃ i:Nat,ks[i]? =some t/\vs[i]? =some (Qct ks vs t):=by
 have h1:ks.idxOf t < ks.length:=List.idxOf_lt_length_of_mem h;refine ⟨ks.idxOf t,?_,?_⟩
 ·rw [Qb h1,J0]
 ·unfold Qct;rw [Qm,Qb (by omega)];rfl
abbrev Gv:=List Str×List Str
def gD (g:Gv):D:= .dct true (g.1.map .str) (g.2.map .str)
def U6 (g:Gv) (k w:Str):Gv:=(J6 g.1 k,putVs g.1 g.2 k w)
def Qik (a:RH.At) (g:Gv):RH.At:=⟨a.k,a.ts.map (Qct g.1 g.2)⟩
theorem U4 {α β:Type} (f:α->β): ∀ (ks:List Str) (vs:List α) (k:Str) (x:α),(putVs ks vs k x).map f=putVs ks (vs.map f) k (f x)
 | [],vs,k,x=>by cases vs<;>rfl
 | a::ks,[],k,x=>rfl
 | a::ks,v::vs,k,x=>by
  rw [Qp,putVs,putVs];split
  ·rfl
  ·rw [Qp,U4 f ks vs k x]
def Zk (words:List Str) (gs:List Gv) (one:Str):List Gv:=gs.flatMap fun g=>words.map fun w=>U6 g one w
def givens (vars words:List Str):List Gv:=vars.foldl (Zk words) [([],[])]
theorem Ox (g:Gv):LF (gD g)=true:=by
 have:LFs (g.2.map D.str)=true:=QU (fun _=>QT) _;simp [gD,LF,this]
section
variable {P:Program} {w:World} {K:W.Frag} {mg:Str->Option Value} {base:Heap}
def RPut:List D->D->Prop:=fun ds d=> ∃ (a:RH.At) (g:Gv) (fz:Bool),ds=[a.d,.dct fz (g.1.map .str) (g.2.map .str)]/\g.1.length=g.2.length/\a.ts.length<=3/\d=(Qik a g).d
abbrev Qgk:List Str:=["_law_atom", "_law_given_here"]
theorem Qyx:Vf Qgk Qgk (Vs Qsi):=⟨rfl,rfl,rfl,by decide +kernel,rfl,by decide +kernel,by decide +kernel⟩
theorem Qx6 (T:Txt K mg) (F:Fd K mg "_law_put" Qsi Qgk):PrD P w K mg base "_law_put" 1 Qgk RPut:=by
 refine Zi (N:=Qgk) F Qyx (by decide) fun f cdv A outer s H E ds d hr hR _=> ?_
 obtain ⟨a,g,fz,rfl,hl,ha,rfl⟩:=hR;have hu:=Bv hr;have e:(Qik a g).d= .tup [.str a.k,.tup ((a.ts.map D.str).map fun d=>match d with | .str t=> .str (Qct g.1 g.2 t) | d=>d)]:=by
  simp [Qik,At.d,Qo,QK]
 rw [e];refine Vz (Jv (Vp (Vc (QR (da:= .tup [.str a.k,.tup (a.ts.map .str)]) (Vv 0 rfl) Vi at0) (Vc (Wg T.bTup (PDL.pd (Z6 rfl (Yp (QR (da:= .tup [.str a.k,.tup (a.ts.map .str)]) (Vv 0 rfl) Vi at1)) (Vl (by simp;omega)) fun d hd cl C s H ex=> ?_)) (.inl rfl)) Vn)) (Vl (by simp))));obtain ⟨t,_,rfl⟩:=Q3.mp hd
 by_cases ht:t∈g.1
 ·obtain ⟨i,h1,h2⟩:=Qqk hl ht;exact Qdz hu (Vv 2 rfl) (Vv 0 rfl) (Vv 0 rfl) h1 (by rw [Q8,h2];rfl)
 ·show PD _ _ _ (.str (Qct g.1 g.2 t));rw [Qkx hl ht];exact Qc6 hu (Vv 2 rfl) (Vv 0 rfl) (Vv 0 rfl) ht
end
theorem Qj6 {α β:Type} {f:α->List β} {l:List α} {i:Nat} {a:α} (h:l[i]? =some a):(l.take (i+1)).flatMap f=(l.take i).flatMap f++f a:=by
 rw [QJ,h]
 simp
theorem Qmr {α β:Type} {f:α->β} {l:List α} {i:Nat} {a:α} (h:l[i]? =some a):(l.take (i+1)).map f=(l.take i).map f++[f a]:=by
 rw [QJ,h]
 simp
theorem UD {α:Type} {f:α->D} {l:List α} {i:Nat} {d:D} (h:(l.map f)[i]? =some d): ∃ a,l[i]? =some a/\d=f a:=by
 rw [Q8] at h;cases e:l[i]? with
 | none=>rw [e] at h;cases h
 | some a=>rw [e] at h;cases h;exact ⟨a,rfl,rfl⟩
theorem Qlw (words:List Str) (gs:List Gv) (one:Str):(Zk words gs one).length=gs.length * words.length:=by
 unfold Zk
 induction gs with
 | nil=>simp
 | cons g gs ih=>rw [YK,Ql,ih,Q0,QC,Nat.succ_mul];omega
def Gok (n:Nat) (g:Gv):Prop:=g.1.length=g.2.length/\g.1.Nodup/\g.1.length<=n
theorem ZG {α:Type}: ∀ {ks:List Str} {vs:List α} {k:Str} {x:α},ks.length=vs.length->(putVs ks vs k x).length=(J6 ks k).length
 | [],[],k,x,_=>by simp [putVs,J6]
 | a::ks,v::vs,k,x,h=>by
  rw [putVs]
  by_cases e:a=k
  ·subst e;rw [Qk rfl,show J6 (a::ks) a=a::ks from Qk Q7];simpa using h.symm
  ·rw [Qn e,Uz e,QC,QC,ZG (by simpa using h)]
theorem Gok.put {n:Nat} {g:Gv} (h:Gok n g) (k w:Str):Gok (n+1) (U6 g k w):=by
 refine ⟨(ZG h.1).symm,Qge h.2.1,?_⟩;have:=h.2.2;show (J6 g.1 k).length<=n+1;unfold J6;split
 ·omega
 ·rw [Ql];simp;omega
theorem Gok.step {n:Nat} {words:List Str} {gs:List Gv} (h: ∀ g∈gs,Gok n g) (one:Str): ∀ g∈Zk words gs one,Gok (n+1) g:=fun g hg=>by
 obtain ⟨g0,h0,h1⟩:=JR.mp hg;obtain ⟨w,_,rfl⟩:=Q3.mp h1;exact (h g0 h0).put one w
section
variable {P:Program} {w:World} {K:W.Frag} {mg:Str->Option Value} {base:Heap}
def RGiven:List D->D->Prop:=fun ds d=> ∃ vars words:List Str,ds=[.lst (vars.map .str),.lst (words.map .str)]/\vars.length<=3/\words.length<=40/\d= .lst ((givens vars words).map gD)
abbrev BX:List Str:=["_law_variables_here", "_law_words_here"]
abbrev Qq3:List Str:=["_law_variables_here", "_law_words_here", "_law_found", "_law_one", "_law_more", "_law_given_here", "_law_word_here", "_law_longer"]
theorem YB:Vf Qq3 BX (Vs Qev):=⟨rfl,rfl,rfl,by decide +kernel,rfl,by decide +kernel,by decide +kernel⟩
def slG (vars words:List Str) (x2 x3 x4 x5 x6 x7:Sl):List Sl:=[.arg (.lst (vars.map .str)),.arg (.lst (words.map .str)),x2,x3,x4,x5,x6,x7]
theorem pow3 {n k:Nat} (hk:k<=3): ∀ i ≤ k,∀ {m:Nat},m<=40 ^ i->m<=64000:=fun i hi m h=>Qz h (Qz (Qea (by decide) (Qz hi hk)) (by decide))
theorem UY {vars words:List Str} (hw:words.length<=40): ∀ i,((vars.take i).foldl (Zk words) [([],[])]).length<=40 ^ i
 | 0=>by simp
 | i+1=>by
  cases e:vars[i]? with
  | none =>
   rw [QJ,e];simp only [Option.toList_none,JM];exact Qz (UY hw i) (Qea (by decide) (by omega))
  | some one =>
   rw [Y9 e,Qlw,Nat.pow_succ];exact Nat.mul_le_mul (UY hw i) hw
theorem Qaa {vars words:List Str}: ∀ i,∀ g∈(vars.take i).foldl (Zk words) [([],[])],Gok i g
 | 0=>fun g hg=>by
  have:g=([],[]):=by simpa using hg
  subst this;exact ⟨rfl,Wc,Q6 _⟩
 | i+1=>by
  cases e:vars[i]? with
  | none =>
   rw [QJ,e];simp only [Option.toList_none,JM];exact fun g hg=>let h:=Qaa i g hg;⟨h.1,h.2.1,Nat.le_succ_of_le h.2.2⟩
  | some one =>
   rw [Y9 e];exact Gok.step (Qaa i) one
theorem Gv.lf (g:Gv):LFs (g.2.map D.str)=true:=QU (fun _=>QT) _
set_option maxHeartbeats 4000000 in
theorem Qpi (T:Txt K mg) (F:Fd K mg "_law_given" Qev BX):PrD P w K mg base "_law_given" 1 BX RGiven:=by
 refine Zi (N:=Qq3) F YB (by decide) fun f cdv A outer s H E ds d hr hR _=> ?_
 obtain ⟨vars,words,rfl,hv,hw,rfl⟩:=hR;have hu:=Bv hr;refine Vq (m:=true) (Bs (i:=2) (ds:=[gD ([],[])]) (Wf (Vc (Ql6 Qfm rfl) Vn) (Vl (by simp))) (by simp [LFs,Ox]) YB.nd) ?_;show QOs _ _ (slG vars words (.flt (([([],[])]:List Gv).map gD)) .no .no .no .no .no) _ _;refine Vq (m:=false) (τ1:=slG vars words (.flt ((givens vars words).map gD)) .no .no .no .no .no) ?loop (Vz (Jv (Vv 2 rfl)));have el:givens vars words=(vars.take (vars.map D.str).length).foldl (Zk words) [([],[])]:=by rw [Q0,QF];rfl
 rw [el];refine Zc (ds:=vars.map .str) (m:=false) (put:=fun τ d=>τ.set 3 (.any d)) (fun i=>slG vars words (.flt (((vars.take i).foldl (Zk words) [([],[])]).map gD)) .no .no .no .no .no) Qw rfl (WT (WB (i:=0) rfl (QI rfl))) (Ja (i:=3) YB.nd rfl (QI rfl)) put1 (Qf2 (k:=0) rfl) rfl (fun i d hi=>⟨false,?_,fun z=>nomatch z⟩);obtain ⟨one,hone,rfl⟩:=UD hi;have hil:i < vars.length:=(Q5.mp hone).1;rw [Y9 hone];have hgl:((vars.take i).foldl (Zk words) [([],[])]).length<=40 ^ i:=UY hw i;have hsl:(Zk words ((vars.take i).foldl (Zk words) [([],[])]) one).length<=64000:=by
  have:=UY (vars:=vars) hw (i+1);rw [Y9 hone] at this;exact pow3 (n:=0) hv (i+1) hil this
 have hgk:=Qaa (vars:=vars) (words:=words) i;generalize (vars.take i).foldl (Zk words) [([],[])]=gs at hgl hsl hgk;show QOs _ _ (slG vars words (.flt (gs.map gD)) (.any (.str one)) .no .no .no .no) _ _;refine WG (m:=false) (τ1:=slG vars words (.flt ((Zk words gs one).map gD)) (.any (.str one)) (.flt ((Zk words gs one).map gD)) .no .no .no) ?_ (WkI.wk (.keep (.keep (.keep (.no (.no (.keep (.keep (.keep .nil))))))))) (fun z=>nomatch z);refine Wa (W5 (i:=4) (ds:=[]) (Wf Vn (Vl (by simp))) rfl YB.nd) ?_;show QOs _ _ (slG vars words (.flt (gs.map gD)) (.any (.str one)) (.own []) .no .no .no) _ _;refine BZ (m:=false) (τ1:=slG vars words (.flt (gs.map gD)) (.any (.str one)) (.own ((Zk words gs one).map gD)) .no .no .no) ?rows ?_
 case rows =>
  have el2:Zk words gs one=(gs.take (gs.map gD).length).flatMap fun g=>words.map fun w=>U6 g one w:=by rw [Q0,QF];rfl
  have hbig: ∀ i:Nat,((gs.take i).flatMap fun g=>words.map fun w=>U6 g one w).length<=64000:=fun i=>by
   have h1:Zk words gs one=((gs.take i).flatMap fun g=>words.map fun w=>U6 g one w)++((gs.drop i).flatMap fun g=>words.map fun w=>U6 g one w):=by
    rw [<- List.flatMap_append,List.take_append_drop];rfl
   rw [h1,Ql] at hsl;omega
  rw [el2];refine Zc (ds:=gs.map gD) (m:=false) (put:=fun τ d=>τ.set 5 (.any d)) (fun i=>slG vars words (.flt (gs.map gD)) (.any (.str one)) (.own (((gs.take i).flatMap fun g=>words.map fun w=>U6 g one w).map gD)) .no .no .no) Qw rfl (WT (WB (i:=2) rfl (QI rfl))) (Ja (i:=5) YB.nd rfl (QI rfl)) put1 (Qb0 (k:=2) rfl) rfl (fun i d hi=>⟨false,?_,fun z=>nomatch z⟩);obtain ⟨g,hgi,rfl⟩:=UD hi;have hb:=hbig i;have hg0:=hgk g (Q4 hgi);rw [Qj6 hgi];generalize (gs.take i).flatMap (fun g=>words.map fun w=>U6 g one w)=acc at hb;show QOs _ _ (slG vars words (.flt (gs.map gD)) (.any (.str one)) (.own (acc.map gD)) (.any (gD g)) .no .no) _ _;refine WG (m:=false) (τ1:=slG vars words (.flt (gs.map gD)) (.any (.str one)) (.own ((acc++words.map fun w=>U6 g one w).map gD)) (.any (gD g)) .no .no) ?_ (WkI.wk (.keep (.keep (.keep (.keep (.keep (.no (.keep (.keep .nil))))))))) (fun z=>nomatch z);have el3:(words.map fun w=>U6 g one w)=(words.take (words.map D.str).length).map fun w=>U6 g one w:=by rw [Q0,QF]
  rw [el3];refine Vz (Zc (ds:=words.map .str) (m:=false) (put:=fun τ d=>τ.set 6 (.any d)) (fun j=>slG vars words (.flt (gs.map gD)) (.any (.str one)) (.own ((acc++(words.take j).map fun w=>U6 g one w).map gD)) (.any (gD g)) .no .no) Qw rfl (WT (WB (i:=1) rfl (QI rfl))) (Ja (i:=6) YB.nd rfl (QI rfl)) put1 (Qf2 (k:=1) rfl) (by simp) (fun j d hj=>⟨false,?_,fun z=>nomatch z⟩));obtain ⟨wd,hwj,rfl⟩:=UD hj;have hjl:j < words.length:=(Q5.mp hwj).1;rw [Qmr hwj,<- BK];have hb2:(acc++(words.take j).map fun w=>U6 g one w).length<=65000:=by rw [Ql,Q0,Qj];omega
  generalize acc++(words.take j).map (fun w=>U6 g one w)=ac2 at hb2;show QOs _ _ (slG vars words (.flt (gs.map gD)) (.any (.str one)) (.own (ac2.map gD)) (.any (gD g)) (.any (.str wd)) .no) _ _;refine WG (m:=false) (τ1:=slG vars words (.flt (gs.map gD)) (.any (.str one)) (.own ((ac2++[U6 g one wd]).map gD)) (.any (gD g)) (.any (.str wd)) (.any (gD (U6 g one wd)))) ?_ (WkI.wk (.keep (.keep (.keep (.keep (.keep (.keep (.no (.no .nil))))))))) (fun z=>nomatch z);refine Wa (Ua (i:=7) (ks:=g.1) (ds:=g.2.map .str) (Qun (fz:=true) T.bDct (Vv 5 rfl)) (Gv.lf g) YB.nd) ?_;refine BZ (m:=false) (O0 (i:=7) hu rfl (Vv 3 rfl) (Vv 6 rfl) QT (AL.h ⟨QT,Ox g,QT,trivial⟩) (by have:=hg0.2.2;rw [QP];omega)) ?_;have e7:putVs g.1 (g.2.map D.str) one (.str wd)=(U6 g one wd).2.map .str:=(U4 D.str g.1 g.2 one wd).symm;rw [e7];refine Qxf (m:=false) (j:=7) (ks:=(U6 g one wd).1) (ds:=(U6 g one wd).2.map .str) rfl (AL.h ⟨QT,Ox g,QT,trivial⟩) ?_;rw [QE];exact Vz (Zo (i:=4) (d:=gD (U6 g one wd)) rfl (Vv 7 rfl) (Ox _) (AL.h ⟨QT,Ox g,QT,Ox _,trivial⟩) (by rw [Q0,QP];omega))
 refine Qxe (m:=true) (j:=4) rfl (AL.h ⟨QT,trivial⟩) ?_;exact Vz (Qmm (i:=2) (j:=4) rfl YB.nd)
end
def Qfr (t:Str):Bool:=match signs t with
 | c::_=>decide (c∈signs CAPS)
 | []=>false
def YU (acc:List Str) (t:Str):List Str:=if Qfr t=true/\t ∉ acc then acc++[t] else acc
def Ye (acc:List Str) (a:RH.At):List Str:=a.ts.foldl YU acc
def Qi (r:Ru):List Str:=(QB r).foldl Ye []
theorem Qrn (acc:List Str) (t:Str):(YU acc t).length<=acc.length+1:=by
 unfold YU;split<;>simp
theorem Oc: ∀ (ts:List Str) (acc:List Str),(ts.foldl YU acc).length<=acc.length+ts.length
 | [],acc=>Q6 _
 | t::ts,acc=>by
  have h1:=Oc ts (YU acc t);have h2:=Qrn acc t;rw [Jl,QC];omega
theorem Qcy: ∀ (as:List RH.At) (acc:List Str),(∀ a∈as,a.ts.length<=3)->(as.foldl Ye acc).length<=acc.length+3 * as.length
 | [],acc,_=>Q6 _
 | a::as,acc,h=>by
  have h1:=Qcy as (Ye acc a) fun b hb=>h b (Q9 _ hb)
  have h2:=Oc a.ts acc;have h3:=h a Q7;rw [Jl,QC];show (as.foldl Ye (Ye acc a)).length<=_;unfold Ye at h1 ⊢;omega
theorem Gq {X:Cx} {ρ:List (Option D)} {a b:Expr} {pos:Pos} {n:Nat} {y:Str} (ha:PD X ρ a (.str ⟨#[n]⟩)) (hb:PD X ρ b (.str y)) (hm:behindInMarks .In b=false:=by rfl):PB X ρ (.Compare a [.In] [b] pos) (decide (n∈y.cps.toList)):=by
 have:=Ui (pos:=pos) Qma ha hb Qpm hm;rwa [PySem.StrLaws.found_one] at this
structure RuT (r:Ru):Prop where
 bl:r.b.length<=4
 ts: ∀ a∈QB r,a.ts.length<=3/\ ∀ t∈a.ts,t.length<=8/\signs t≠[]
theorem At.lf (a:RH.At):LF a.d=true:=by
 have:LFs (a.ts.map D.str)=true:=QU (fun _=>QT) _;simp [At.d,LF,LFs,this]
section
variable {P:Program} {w:World} {K:W.Frag} {mg:Str->Option Value} {base:Heap}
def RVars:List D->List D->Prop:=fun ds es=> ∃ r:Ru,ds=[r.d]/\RuT r/\es=(Qi r).map .str
abbrev Qvb:List Str:=["_law_rule_here", "_law_found", "_law_atom", "_law_term"]
theorem Qem:Vf Qvb ["_law_rule_here"] (Vs Uv):=⟨rfl,rfl,rfl,by decide +kernel,rfl,by decide +kernel,by decide +kernel⟩
def sndL:D->D | .tup [_,b]=>b | d=>d
set_option maxHeartbeats 2000000 in
theorem Qf8 (F:Fd K mg "_law_variables" Uv ["_law_rule_here"]):PrL P w K mg base "_law_variables" 1 ["_law_rule_here"] RVars:=by
 refine Qcq (N:=Qvb) F Qem (by decide) fun f cdv A outer s H E ds es hr hR _=> ?_
 obtain ⟨r,rfl,R,rfl⟩:=hR;have hbl:=R.bl;have hal:(QB r).length<=5:=by simp [QB];omega
 refine Zn (W5 (i:=1) (ds:=[]) (Wf Vn (Vl (by decide))) rfl Qem.nd) ?_;refine Zn (m:=false) (τ1:=[.arg r.d,.own ((Qi r).map .str),.no,.no]) ?loop (Vz (G0 (i:=1) rfl));have el:Qi r=((QB r).take ((QB r).map At.d).length).foldl Ye []:=by rw [Q0,QF];rfl
 rw [el];refine Zc (ds:=(QB r).map At.d) (m:=false) (put:=fun τ d=>τ.set 2 (.any d)) (fun i=>[.arg r.d,.own ((((QB r).take i).foldl Ye []).map .str),.no,.no]) Qw rfl
  (WT (U7 (ds:=(QB r).map At.d) ?list (QU At.lf _))) (Ja (i:=2) Qem.nd rfl (QI rfl)) put1 (Qf1 (QU At.lf _)) rfl (fun i d hi=>⟨false,?_,fun z=>nomatch z⟩)
 case list =>
  have e:(QB r).map At.d=[r.h.d]++(r.b.map Li.d).map sndL:=by
   rw [Qo];simp [QB,sndL,Li.d,QK]
  rw [e];refine Qc1 (xs:=[r.h.d]) (PDL.pd (Wf (Vc (QR (da:= .tup [r.h.d,.tup (r.b.map Li.d)]) (Vv 0 rfl) Vi at0) Vn) (Vl (by simp)))) (PDL.pd (Z6 (f:=sndL) rfl (Yp (QR (da:= .tup [r.h.d,.tup (r.b.map Li.d)]) (d:= .tup (r.b.map Li.d)) (Vv 0 rfl) Vi at1)) (Vl (by rw [Q0];omega)) fun d hd cl C s H ex=> ?_)) (Vl (by simp;omega));obtain ⟨l,_,rfl⟩:=Q3.mp hd;exact QR (da:= .tup [.str (if l.y then "yes" else "no"),l.a.d]) (d:=l.a.d) (Vv 0 rfl) Vi at1
 obtain ⟨a,hai,rfl⟩:=UD hi;have ham:=Q4 hai;obtain ⟨h3,hts⟩:=R.ts a ham;have hb:(((QB r).take i).foldl Ye []).length<=15:=by
  have h1:=Qcy ((QB r).take i) [] fun b hb=>(R.ts b (QW hb)).1
  have h2:((QB r).take i).length<=5:=Qz (by rw [Qj];omega) hal;simp at h1 h2;omega
 rw [Y9 hai];generalize ((QB r).take i).foldl Ye []=acc at hb;show QOs _ _ [.arg r.d,.own (acc.map .str),.any a.d,.no] _ _;refine WG (m:=false) (τ1:=[.arg r.d,.own ((Ye acc a).map .str),.any a.d,.no]) ?_ (WkI.wk (.keep (.keep (.no (.keep .nil))))) (fun z=>nomatch z);have el2:Ye acc a=(a.ts.take (a.ts.map D.str).length).foldl YU acc:=by rw [Q0,QF];rfl
 rw [el2];refine Vz (Zc (ds:=a.ts.map .str) (m:=false) (put:=fun τ d=>τ.set 3 (.any d)) (fun i=>[.arg r.d,.own (((a.ts.take i).foldl YU acc).map .str),.any a.d,.no]) Qw rfl
  (UX (QR (da:= .tup [.str a.k,.tup (a.ts.map .str)]) (Vv 2 rfl) Vi at1).pe) (Ja (i:=3) Qem.nd rfl (QI rfl)) put1 (Qf0 (QU (fun _=>QT) _)) rfl (fun i d hi=>⟨false,?_,fun z=>nomatch z⟩))
 obtain ⟨t,hti,rfl⟩:=UD hi;obtain ⟨h8,hne⟩:=hts t (Q4 hti);have hb2:((a.ts.take i).foldl YU acc).length<=18:=by
  have h1:=Oc (a.ts.take i) acc;have h2:(a.ts.take i).length<=3:=Qz (by rw [Qj];omega) h3;omega
 rw [Y9 hti];generalize (a.ts.take i).foldl YU acc=ac at hb2;show QOs _ _ [.arg r.d,.own (ac.map .str),.any a.d,.any (.str t)] _ _;refine WG (m:=false) (τ1:=[.arg r.d,.own ((YU ac t).map .str),.any a.d,.any (.str t)]) ?_ (WkI.wk (.keep (.keep (.keep (.no .nil))))) (fun z=>nomatch z);cases hs:signs t with
 | nil=>exact absurd hs hne
 | cons c q =>
  have hcap:Qfr t=decide (c∈signs CAPS):=by unfold Qfr;rw [hs]
  have hz: ∀ y,D.str t= .str y->y.length<=sizeLine:=fun y e=>by cases e;exact Vl (by omega)
  refine Vz (JT (Y3 (WE (k:=decide (c∈signs CAPS)) (Gq (n:=c) (y:=CAPS) (QR (da:= .str t) (i:=0) (Vv 3 rfl) Vi ?_ hz) Vt) (fun _=>Ze (Qhs (ss:=ac) (Vv 3 rfl) (Vv 1 rfl) (.inr rfl))))) (fun h=> ?_) (fun h=> ?_))
  ·show (atI t.cps.toList 0).map _=_;rw [show t.cps.toList=c::q from hs];have e:atI (c::q) ((0:Nat):Int)=some c:=WM rfl;rw [show (0:Int)=((0:Nat):Int) from rfl,e];rfl
  ·have e:YU ac t=ac++[t]:=by
    unfold YU;rw [Qk];rw [hcap];simpa using h
   rw [e,QE];exact Vz (Zo (i:=1) (d:= .str t) rfl (Vv 3 rfl) QT (AL.h ⟨At.lf a,QT,trivial⟩) (by rw [Q0,QP];omega))
  ·have e:YU ac t=ac:=by
    unfold YU;rw [Qn];intro hc;rw [hcap] at hc;rw [hc.1,QA hc.2] at h;cases h
   rw [e];exact WG (m:=true) JS (WkI.wk (.keep (.keep (.keep (.keep .nil))))) (fun z=>nomatch z)
end
end K27.V
namespace L2
open PySem PySem.Spec PyProof.Rows
theorem Qeh {vs:List (Key×Value)} {k:Key} (h:valueAt vs k=none):vs.any (fun kv=>decide (kv.1=k))=false:=by
 unfold valueAt at h;rw [Option.map_eq_none_iff,List.find?_eq_none] at h;rw [List.any_eq_false];intro x hx;have:=h x hx;simpa using this
section
variable {X:Cx} {H₀:Hp} {τ:List Sl} {pos:Pos}
def Qz5:V->List V->Hp->VK->Prop:=fun x xs H Q=> ∃ (a:Addr) (kvs:List (Key×V)) (k w:Str),x= .ref a/\xs=[.str k,.str w]/\H a=some (.dK kvs)/\kvs.length < sizeLine /\
 (∀ v,YY kvs (.inr k)=some v->Q v H)/\(YY kvs (.inr k)=none->Q (.str w) (upd H a (.dK (kvs++[(.inr k,.str w)]))))
theorem Qkp:MtR X "dict.setdefault" Qz5:=by
 intro pins s σ H x xs v us Q I rx rs h;obtain ⟨a,kvs,k,w,rfl,rfl,ha,hl,q1,q2⟩:=h;cases (show v=Value.ref a from rx);obtain ⟨u,u',rfl,ru,ru'⟩:=rs.two;obtain ⟨t,e⟩:=(show ∃ t,u=Value.str k t from ru);subst e;obtain ⟨t',e⟩:=(show ∃ t,u'=Value.str w t from ru');subst e;obtain ⟨z,hd,vs,rel,dd⟩:=Qqt I.hok ha;have hlen:kvs.length=vs.length:=rel.length;have cv:=rel.val (.inr k);refine Qvy UN dd.typeIs PySem.F.entry_dict_setdefault (PySem.F.args_dict_setdefault_3 _ _ _) (kt_meets_setdefault (Jj X.prog X.w) a (k:= .inr k) (Gc X.prog X.w k t) hd (.str w t')) ⟨vs,dd,by omega,fun w' hw=> ?_,fun hn h' dd' sb=> ?_⟩
 ·rw [hw] at cv;cases hm:YY kvs (.inr k) with
  | none=>rw [hm] at cv;exact cv.elim
  | some c =>
   rw [hm] at cv;exact ⟨c,H,I.tok _,cv,q1 c hm⟩
 ·rw [hn] at cv;cases hm:YY kvs (.inr k) with
  | some c=>rw [hm] at cv;exact cv.elim
  | none =>
   have es:stored vs (.inr k) (.str w t')=vs++[(.inr k,.str w t')]:=by
    unfold stored;rw [Qn];intro z;rw [Qeh hn] at z;cases z
   rw [es] at dd';have hob: ∃ q,h'.get? a=some q:=let ⟨q,_,_,hq,_⟩:=dd';⟨q,hq⟩;refine ⟨.str w,_,I.write (x:=a) (e:=a) (o:= .dK (kvs++[(.inr k,.str w)])) (t':=s.toks+1) (by rw [ha];exact Wn) (.inl rfl) (fun b q hb z=>(sb.2 b hb).trans z) hob ⟨?_,hd,_,?_,dd'⟩,⟨_,rfl⟩,q2 hm⟩
   ·rw [Ql];show _+1<=_;omega
   ·exact Qu8 rel ⟨_,rfl⟩
variable {e1 ek ew ew':Expr} {x:Str} {p ap cp p3 p4:Pos} {A:List Stmt} {c1:Bool} {i:Nat} {ks vs:List Str} {k w:Str} {d:D}
theorem EnvIs.lose {K:W.Frag} {H:Hp} {σ:St} {ρ:List (Option D)} (h:EnvIs K H σ ρ) (i:Nat):EnvIs K H σ (ρ.set i none):=by
 refine ⟨by rw [List.length_set];exact h.1,fun j d e=> ?_⟩
 by_cases hj:i=j
 ·subst hj;rw [List.getElem?_set] at e;simp at e
 ·rw [Qc hj] at e;exact h.2 j d e
theorem Qlm {ks:List Str} {us:List V} (h:ks.length=us.length) (k:Str) (v:V):Js (ks++[k]) (us++[v])=Js ks us++[(.inr k,v)]:=by
 unfold Js;rw [List.zip_append h,QE];rfl
theorem Qo6 {K:W.Frag} {H:Hp} {vs:List Str} {us:List V} (h:Va K H (vs.map .str) us):us=vs.map V.str:=by
 induction vs generalizing us with
 | nil=>rw [ZN,Va] at h;rw [h];rfl
 | cons v vs ih =>
  rw [Qp,Va] at h;obtain ⟨u,r,rfl,hu,hr⟩:=h;rw [JF hu,ih hr];rfl
theorem Qpp (h1:PB X (dat τ) e1 c1) (hk:PD X (dat τ) ek (.str k)) (hw:PD X (dat τ) ew (.str w)) (hw':PD X ((dat τ).set i none) ew' (.str w)) (hi:τ[i]? =some (.odc ks (vs.map .str))) (hz:ks.length < sizeLine)
  (ht:c1=true \/ ∃ (j:Nat) (u:Str),ks[j]? =some k/\vs[j]? =some u/\u≠w) (hA:QOs X H₀ τ A (.ret d))
  (hN:X.N[i]? =some x:=by rfl) (hv:Vis X.env.scope x:=by first | exact QI rfl | exact QY (QI rfl) | exact QY (QY rfl)) (hdb:(x == ("__debug__" :Str))=false:=by decide) (hcd:(x == ("__classdict__" :Str))=false:=by decide)
  (hs:starEach [ek,ew] X.env=[(false,eval ek X.env),(false,eval ew X.env)]:=by rfl) (hs2:starEach [ew] X.env=[(false,eval ew X.env)]:=by rfl)
  (hbase:attributeBase (.Name x p) "setdefault" X.env (eval (.Name x p) X.env)=eval (.Name x p) X.env:=by rfl)
  (hfew:((backTo cp (starEach [ek,ew] X.env)).all (fun x=> !x.1) && (backToKw cp (keywordEach [] X.env)).all (fun x=>x.1.isSome) && decide ([ek,ew].length+([]:List Keyword).length+(if ([]:List Keyword).isEmpty then 0 else 1) < 30))=true:=by rfl)
  (hline:(ap.endLine == cp.line)=true:=by rfl) (hplain:(backTo cp (starEach [ew] X.env)).any (·.1)=false:=by rfl) (hm:behindInMarks .NotEq ew'=false:=by rfl) :
  QO X H₀ τ (.If (.BoolOp .Or [e1,.Compare (.Call (.Attribute (.Name x p) "setdefault" ap) [ek,ew] [] cp) [.NotEq] [ew'] p3] p4) A [] pos) (.ret d):=by
 refine ⟨(Qd5 (PW.pt (Qke h1.pe (Qij (Qf3 Qkk (Qb9 (T:= "dict") Yv UN Qs0 Qkp (WB hN hv hdb hcd) (Vc hk (Vc hw Vn hs2) (by rw [hs,hs2])).pe hbase hfew hline (by rw [hs,hs2]) hplain) hw'.pe hm)))) hA.pe Qf4).imp fun D σ H q=> ?_⟩;refine ⟨q.1.env,fun H1 s1=> ?_⟩;cases c1 with
 | true=>exact Qbk (Qbk ⟨q.1.step s1,q.2⟩)
 | false =>
  rcases ht with ht | ⟨j,u,hj1,hj2,hne⟩
  ·cases ht
  refine OT ?_;obtain ⟨o,e0,pd,us,rfl,np,dk,lf,ia⟩:=(q.1.step s1).sl i _ hi;refine ⟨_,e0,.inr (.inr (.inl ⟨rfl,.inl ⟨_,dk.at_⟩⟩)),(q.1.step s1).env,fun ws H2 s2 iw=> ?_⟩;obtain ⟨w1,w2,rfl,i1,i2⟩:=iw.two;cases JF i1;cases JF i2;have dk2:=s2.dk dk;have hus:us=vs.map V.str:=Qo6 ia;refine ⟨pd,Js ks us,k,w,rfl,rfl,dk2.at_,by rw [YX ks us dk.len];exact hz,fun v hv=> ?_,fun hn=> ?_⟩
  ·have hv2:YY (Js ks us) (.inr k)=some (.str u):=Zf dk.nd hj1 (by rw [hus,Q8,hj2];rfl);rw [hv2] at hv;cases hv;refine ⟨((q.1.step s1).step s2).env.lose i,fun v3 H3 s3 i3=> ?_⟩;cases JF i3;refine ⟨rfl,_,rfl,?_⟩;have e:(!decide (V.str u=V.str w))=true:=by
    rw [ZA,Yu];exact fun z=>hne (by injection z)
   rw [e];exact Qbk ⟨((q.1.step s1).step s2).step s3,q.2⟩
  ·have hv2:YY (Js ks us) (.inr k)=some (.str u):=Zf dk.nd hj1 (by rw [hus,Q8,hj2];rfl);rw [hv2] at hn;cases hn
theorem Qpq (h1:PB X (dat τ) e1 false) (hk:PD X (dat τ) ek (.str k)) (hw:PD X (dat τ) ew (.str w)) (hw':PD X ((dat τ).set i none) ew' (.str w)) (hi:τ[i]? =some (.odc ks (vs.map .str))) (hz:ks.length < sizeLine) (hlf: ∀ (j:Nat) (d:D),τ[j]? =some (.any d)->LF d=true) {ks' vs':List Str}
  (ht:(∃ (j:Nat),ks[j]? =some k/\vs[j]? =some w/\ks'=ks/\vs'=vs) \/ (k ∉ ks/\ks'=ks++[k]/\vs'=vs++[w]))
  (hN:X.N[i]? =some x:=by rfl) (hv:Vis X.env.scope x:=by first | exact QI rfl | exact QY (QI rfl) | exact QY (QY rfl)) (hdb:(x == ("__debug__" :Str))=false:=by decide) (hcd:(x == ("__classdict__" :Str))=false:=by decide)
  (hs:starEach [ek,ew] X.env=[(false,eval ek X.env),(false,eval ew X.env)]:=by rfl) (hs2:starEach [ew] X.env=[(false,eval ew X.env)]:=by rfl)
  (hbase:attributeBase (.Name x p) "setdefault" X.env (eval (.Name x p) X.env)=eval (.Name x p) X.env:=by rfl)
  (hfew:((backTo cp (starEach [ek,ew] X.env)).all (fun x=> !x.1) && (backToKw cp (keywordEach [] X.env)).all (fun x=>x.1.isSome) && decide ([ek,ew].length+([]:List Keyword).length+(if ([]:List Keyword).isEmpty then 0 else 1) < 30))=true:=by rfl)
  (hline:(ap.endLine == cp.line)=true:=by rfl) (hplain:(backTo cp (starEach [ew] X.env)).any (·.1)=false:=by rfl) (hm:behindInMarks .NotEq ew'=false:=by rfl) :
  QO X H₀ τ (.If (.BoolOp .Or [e1,.Compare (.Call (.Attribute (.Name x p) "setdefault" ap) [ek,ew] [] cp) [.NotEq] [ew'] p3] p4) A [] pos) (.next false (τ.set i (.odc ks' (vs'.map .str)))):=by
 refine ⟨(Qd5 (PW.pt (Qke h1.pe (Qij (Qf3 Qkk (Qb9 (T:= "dict") Yv UN Qs0 Qkp (WB hN hv hdb hcd) (Vc hk (Vc hw Vn hs2) (by rw [hs,hs2])).pe hbase hfew hline (by rw [hs,hs2]) hplain) hw'.pe hm)))) (ZH (sts:=A)) Qf4).imp fun D σ H q=> ?_⟩;refine ⟨q.1.env,fun H1 s1=>OT ?_⟩;have en1:=q.1.step s1;obtain ⟨o,e0,pd,us,rfl,np,dk,lf,ia⟩:=en1.sl i _ hi;refine ⟨_,e0,.inr (.inr (.inl ⟨rfl,.inl ⟨_,dk.at_⟩⟩)),en1.env,fun ws H2 s2 iw=> ?_⟩;obtain ⟨w1,w2,rfl,i1,i2⟩:=iw.two;cases JF i1;cases JF i2;have dk2:=s2.dk dk;have hus:us=vs.map V.str:=Qo6 ia;have en2:=en1.step s2;refine ⟨pd,Js ks us,k,w,rfl,rfl,dk2.at_,by rw [YX ks us dk.len];exact hz,fun v hv=> ?_,fun hn=> ?_⟩
 ·rcases ht with ⟨j,hj1,hj2,rfl,rfl⟩ | ⟨hno,_,_⟩
  ·have hv2:YY (Js ks' us) (.inr k)=some (.str w):=Zf dk.nd hj1 (by rw [hus,Q8,hj2];rfl);rw [hv2] at hv;cases hv;refine ⟨en2.env.lose i,fun v3 H3 s3 i3=> ?_⟩;cases JF i3;refine ⟨rfl,_,rfl,?_⟩;have e:(!decide (V.str w=V.str w))=false:=by simp
   rw [e];have es:τ.set i (.odc ks' (vs'.map .str))=τ:=by
    obtain ⟨hlt,hg⟩:=Q5.mp hi;rw [<- hg];exact List.set_getElem_self hlt
   refine OT (q.2 σ H3 ((Rl.of (m:=false) ((s1.trans s2).trans s3))) ?_);rw [es];exact en2.step s3
  ·rw [Gx hno] at hv;cases hv
 ·rcases ht with ⟨j,hj1,hj2,rfl,rfl⟩ | ⟨hno,rfl,rfl⟩
  ·have hv2:YY (Js ks' us) (.inr k)=some (.str w):=Zf dk.nd hj1 (by rw [hus,Q8,hj2];rfl);rw [hv2] at hn;cases hn
  ·rw [<- Qlm dk.len k (.str w)];have hlen:(ks++[k]).length=(us++[V.str w]).length:=by have:=dk.len;simp;omega
   have hnd:(ks++[k]).Nodup:=by
    rw [Wj];exact ⟨dk.nd,by simp,fun a ha b hb=>by rw [Qs.mp hb];exact fun e=>hno (e ▸ ha)⟩
   have iall:Va X.K H2 ((vs++[w]).map .str) (us++[V.str w]):=by
    rw [hus];have: ∀ l:List Str,Va X.K H2 (l.map .str) (l.map V.str):=fun l=>by
     induction l with
     | nil=>exact Jm
     | cons a l ih=>exact Vg (ZV _) ih
    have:=this (vs++[w]);rwa [QE (f:=V.str)] at this
   have en3:=en2.mutD hi e0 np dk2 hlf (QU (fun _=>QT) (vs++[w])) hlen hnd iall;have el:(dat (τ.set i (.odc (ks++[k]) ((vs++[w]).map .str)))).set i none=(dat τ).set i none:=by
    unfold dat;rw [List.map_set,List.set_set]
   refine ⟨by rw [<- el];exact en3.env.lose i,fun v3 H3 s3 i3=> ?_⟩;cases JF i3;refine ⟨rfl,_,rfl,?_⟩;have e:(!decide (V.str w=V.str w))=false:=by simp
   rw [e];have t1:Rl false H (upd H2 pd (.dK (Js (ks++[k]) (us++[V.str w])))):=(s1.trans s2).t.trans (TSame.dk dk2.at_);exact OT (q.2 σ H3 (by have:=t1.trans (Rl.of (m:=false) s3);exact this) (en3.step s3))
end
end L2
namespace K27
open PySem L2 RH
abbrev Qeq:Stmt:=top 53
abbrev Qk0:Stmt:=top 54
abbrev Qsk:Stmt:=top 55
abbrev Qk7:Stmt:=top 56
abbrev Qa5:Stmt:=top 59
def pND (q:Nat×Nat):D:= .tup [.int q.1,.int q.2]
def Z4 (n:Nat) (b:List (Li×Nat)):List (Nat×Nat):=b.flatMap fun q=>if q.1.y then [(n,q.2)] else []
def ZJ (rs:List Ru) (i:Nat):List (Nat×Nat):=(rs.zipIdx.take i).flatMap fun q=>Z4 q.2 q.1.b.zipIdx
def places (rs:List Ru):List (Nat×Nat):=ZJ rs rs.length
def YC (ns:List Int) (rs:List Ru):Option (Nat×Nat):=if places rs=[] then none else some ((places rs).getD (mix (cell ns 3) 9631 ((places rs).length:Nat)).toNat (0,0))
def Qiq:Option (Nat×Nat)->D
 | none=> .non
 | some q=>pND q
theorem Qiu (q:Nat×Nat):LF (pND q)=true:=by simp [pND,LF,LFs]
theorem Qnr {α:Type} {l:List α} {i:Nat} {a:α} (h:l[i]? =some a):l.zipIdx[i]? =some (a,i):=by
 rw [Qee,h]
 simp
theorem Qi5 {α:Type} {l:List α} {q:α×Nat} (h:q∈l.zipIdx):l[q.2]? =some q.1:=by
 have:=List.mem_zipIdx' h;rw [Qb this.1];exact JQ some this.2.symm
theorem Qan (n:Nat) (b:List (Li×Nat)):(Z4 n b).length<=b.length:=by
 have:=Yn (f:=fun q:Li×Nat=>if q.1.y then [(n,q.2)] else []) (n:=1) (l:=b) fun q _=>by
  split<;>simp
 unfold Z4;omega
theorem Qio {rs:List Ru} {i:Nat} (h:RsOk rs):(ZJ rs i).length<=64:=by
 have h1:=Yn (f:=fun q:Ru×Nat=>Z4 q.2 q.1.b.zipIdx) (n:=4) (l:=rs.zipIdx.take i) fun q hq=>by
  have hm:q.1∈rs:=Q4 (Qi5 (QW hq));have h2:=h.2 q.1 hm;have h3:=Qan q.2 q.1.b.zipIdx;rw [Yc] at h3;omega
 have h2:(rs.zipIdx.take i).length<=16:=by
  rw [Qj,Yc];have:=h.1;omega
 unfold ZJ;omega
theorem Qin {rs:List Ru} {q:Nat×Nat} (h:q∈places rs): ∃ r l,rs[q.1]? =some r/\r.b[q.2]? =some l/\l.y=true:=by
 obtain ⟨⟨r,n⟩,hr,h⟩:=JR.mp h;obtain ⟨⟨l,p⟩,hl,h⟩:=JR.mp h;split at h
 ·rename_i hy;rw [Qs.mp h];exact ⟨r,l,Qi5 (QW hr),Qi5 hl,hy⟩
 ·cases h
theorem Qf5 {ns:List Int} {rs:List Ru} {q:Nat×Nat} (h:YC ns rs=some q):q∈places rs:=by
 unfold YC at h;split at h
 ·cases h
 ·rename_i hne;have hz:0 < (places rs).length:=ZT.mpr hne;have hm1:=WQ (cell ns 3) 9631 (m:=((places rs).length:Nat)) (by omega);have hm0:=JP (cell ns 3) 9631 (m:=((places rs).length:Nat)) (by omega);rw [<- Qt h,Qm,Qb (by omega)];exact ZO _
def ynD (l:Li):D:= .str (if l.y then "yes" else "no")
def formL (l:Li):D:= .tup [ynD l,.str l.a.k]
def QL (r:Ru):D:= .tup [.str r.h.k,.tup (r.b.map formL)]
def Jaz:D->D | .tup [a,.tup (b::_)]=> .tup [a,b] | d=>d
section
variable {P:Program} {w:World} {K:W.Frag} {mg:Str->Option Value} {base:Heap}
def RPlace:List D->D->Prop:=fun ds d=> ∃ (ns:List Int) (rs:List Ru),ds=[scr ns,.tup (rs.map Ru.d)]/\RsOk rs/\d=Qiq (YC ns rs)
abbrev BU:List Str:=["_law_script", "_law_rules_here"]
abbrev Qpx:List Str:=["_law_script", "_law_rules_here", "_law_found", "_law_number", "_law_rule_here", "_law_place_here", "_law_literal"]
theorem OX:Vf Qpx BU (Vs Qeq):=⟨rfl,rfl,rfl,by decide +kernel,rfl,by decide +kernel,by decide +kernel⟩
def BQ (ns:List Int) (rs:List Ru) (acc:List (Nat×Nat)) (x4 x5 x6 x7:Sl):List Sl:=[.arg (scr ns),.arg (.tup (rs.map Ru.d)),.own (acc.map pND),x4,x5,x6,x7]
set_option maxHeartbeats 1000000 in
theorem Qpc (T:Txt K mg) (F:Fd K mg "_law_place" Qeq BU) (G1:PrD P w K mg base "_law_cell" 1 ZX RCell) (G2:PrD P w K mg base "_law_mix" 1 Qbb RMix):PrD P w K mg base "_law_place" 2 BU RPlace:=by
 refine Zi (N:=Qpx) F OX (by decide) fun f cdv A outer s H E ds d hr hR _=> ?_
 obtain ⟨ns,rs,rfl,ok,rfl⟩:=hR;refine Vq (m:=true) (W5 (i:=2) (ds:=[]) (Wf Vn (Vl (by simp))) rfl OX.nd) ?_;show QOs _ _ (BQ ns rs (ZJ rs 0) .no .no .no .no) _ _;refine Vq (m:=false) (τ1:=BQ ns rs (places rs) .no .no .no .no) ?loop ?fin
 case fin =>
  by_cases hne:places rs=[]
  ·have e:YC ns rs=none:=Qk hne;rw [e];refine Gb (JT (k:=true) ?_ (fun _=>Vz (Jv Qc4)) (fun h=>nomatch h));have c:(!(!((places rs).map pND).isEmpty))=true:=by rw [hne];rfl
   rw [<- c];exact B0 (Gp (Vv 2 rfl))
  ·have c:(!(!((places rs).map pND).isEmpty))=false:=by cases h:places rs with | nil=>exact absurd h hne | cons a l=>rfl
   refine Vq (m:=true) (JT (k:=false) (by rw [<- c];exact B0 (Gp (Vv 2 rfl))) (fun h=>nomatch h) (fun _=>JS)) ?_;have hz:0 < (places rs).length:=ZT.mpr hne;have hm1:=WQ (cell ns 3) 9631 (m:=((places rs).length:Nat)) (by omega);have hm0:=JP (cell ns 3) 9631 (m:=((places rs).length:Nat)) (by omega);have e:Qiq (YC ns rs)=pND ((places rs).getD (mix (cell ns 3) 9631 ((places rs).length:Nat)).toNat (0,0)):=by
    unfold YC;rw [Qn hne];rfl
   rw [e];have hat:dAt (.lst ((places rs).map pND)) (mix (cell ns 3) 9631 (((places rs).map pND).length:Nat))=some (pND ((places rs).getD (mix (cell ns 3) 9631 ((places rs).length:Nat)).toNat (0,0))):=by
    rw [Q0];obtain ⟨k,ek⟩: ∃ k:Nat,mix (cell ns 3) 9631 ((places rs).length:Nat)=(k:Int):=⟨_,(Qfx hm0).symm⟩;rw [ek] at hm1 ⊢;rw [Zz];refine WM ?_;rw [Q8,Qm,Qb (by omega)];rfl
   refine Vz (Jv (QR (da:= .lst ((places rs).map pND)) (Vv 2 rfl) (Yq G2 hr (Be (k:=3) G1 hr (Vv 0 rfl) Vi) Vi (Wb T.bLen (Vv 2 rfl) rfl (fun y e=>nomatch e)) (by decide) ?_) hat));rw [Q0];omega
 have e:places rs=ZJ rs (rs.map Ru.d).length:=by rw [Q0];rfl
 rw [e];refine Qkn (m:=false) (ds:=rs.map Ru.d) (jx:=3) (jy:=4) (fun i=>BQ ns rs (ZJ rs i) .no .no .no .no) Qw rfl T.bEnu (Vv 1 rfl) (QU Ru.lf _) rfl (fun i d hi=>⟨false,?_,fun z=>nomatch z⟩) OX.nd;obtain ⟨r,hri,rfl⟩:=Zr hi;have hrb:=ok.2 r (Q4 hri);have hal:=Qio (i:=i) ok;have e1:ZJ rs (i+1)=ZJ rs i++Z4 i r.b.zipIdx:=by
  unfold ZJ;rw [Ud (Qnr hri)]
 rw [e1];generalize ZJ rs i=acc at hal;show QOs _ _ (BQ ns rs acc (.any (.int i)) (.any r.d) .no .no) _ _;refine WG (m:=false) (τ1:=BQ ns rs (acc++Z4 i r.b.zipIdx) (.any (.int i)) (.any r.d) .no .no) ?_ (WkI.wk (.keep (.keep (.keep (.no (.no (.keep (.keep .nil)))))))) (fun z=>nomatch z);have e2:Z4 i r.b.zipIdx=Z4 i (r.b.zipIdx.take (r.b.map Li.d).length):=by
  rw [Q0,JZ (Nat.le_of_eq Yc)]
 have e3:BQ ns rs acc (.any (.int i)) (.any r.d) .no .no=BQ ns rs (acc++Z4 i (r.b.zipIdx.take 0)) (.any (.int i)) (.any r.d) .no .no:=by
  simp [Z4]
 rw [e2];refine Vz (Qkn (m:=false) (ds:=r.b.map Li.d) (jx:=5) (jy:=6) (fun j=>BQ ns rs (acc++Z4 i (r.b.zipIdx.take j)) (.any (.int i)) (.any r.d) .no .no) Qw rfl T.bEnu (QR (da:= .tup [r.h.d,.tup (r.b.map Li.d)]) (Vv 4 rfl) Vi at1) (QU Li.lf _) e3.symm (fun j d hj=>⟨false,?_,fun z=>nomatch z⟩) OX.nd);obtain ⟨l,hlj,rfl⟩:=Zr hj;have e4:Z4 i (r.b.zipIdx.take (j+1))=Z4 i (r.b.zipIdx.take j)++(if l.y then [(i,j)] else []):=by
  unfold Z4;rw [Ud (Qnr hlj)]
 rw [e4,<- BK];have hal3:(acc++Z4 i (r.b.zipIdx.take j)).length<=100:=by
  have:=Qan i (r.b.zipIdx.take j);rw [Qj,Yc] at this;rw [Ql];omega
 generalize acc++Z4 i (r.b.zipIdx.take j)=acc3 at hal3;show QOs _ _ (BQ ns rs acc3 (.any (.int i)) (.any r.d) (.any (.int j)) (.any l.d)) _ _;refine WG (m:=false) (τ1:=BQ ns rs (acc3++(if l.y then [(i,j)] else [])) (.any (.int i)) (.any r.d) (.any (.int j)) (.any l.d)) ?_ (WkI.wk (.keep (.keep (.keep (.keep (.keep (.no (.no .nil)))))))) (fun z=>nomatch z);have c1:decide ((if l.y=true then ("yes" :Str) else "no")= "yes")=l.y:=by
  cases l.y
  ·decide +kernel
  ·simp
 refine Vz (JT (k:=l.y) (by rw [<- c1];exact Qhu (QR (da:= .tup [.str (if l.y then "yes" else "no"),l.a.d]) (Vv 6 rfl) Vi at0) Vt) (fun h=> ?_) (fun h=> ?_))
 ·rw [h];have ea:BQ ns rs (acc3++(if true=true then [(i,j)] else [])) (.any (.int i)) (.any r.d) (.any (.int j)) (.any l.d)=(BQ ns rs acc3 (.any (.int i)) (.any r.d) (.any (.int j)) (.any l.d)).set 2 (.own (acc3.map pND++[pND (i,j)])):=by
   unfold BQ;rw [QE];rfl
  rw [ea];exact Vz (Zo (i:=2) (d:=pND (i,j)) rfl (Vp (Vc (Vv 3 rfl) (Vc (Vv 5 rfl) Vn)) (Vl (by simp))) (Qiu _) (AL.h ⟨WN,Ru.lf r,WN,Li.lf l,trivial⟩) (by rw [Q0];exact QZ hal3 (by rw [QP];decide)))
 ·rw [h];have ea:acc3++(if false=true then [(i,j)] else [])=acc3:=by simp
  rw [ea];exact WG (m:=true) JS (Wk.refl _) (fun z=>nomatch z)
def RUnfo:List D->D->Prop:=fun ds d=>(RUnf ds d) \/ (RUnfR ds/\d= .non)
abbrev Qd8:List Str:=["_law_rules_here", "_law_number", "_law_place_here"]
abbrev Qvc:List Str:=["_law_rules_here", "_law_number", "_law_place_here", "_law_told"]
theorem Qen:Vf Qvc Qd8 (Vs Qk0):=⟨rfl,rfl,rfl,by decide +kernel,rfl,by decide +kernel,by decide +kernel⟩
theorem three {ds:List D} (h:ds.length=3): ∃ a b c,ds=[a,b,c]:=by
 match ds,h with
 | [a,b,c],_=>exact ⟨a,b,c,rfl⟩
theorem Qtc (C:Cl K mg) (F:Fd K mg "_law_unfolded" Qk0 Qd8) (G1:PrD P w K mg base "unfolded" 6 GT RUnf) (G3:PrX P w K mg base "unfolded" 6 GT C.cR RUnfR):PrD P w K mg base "_law_unfolded" 7 Qd8 RUnfo:=by
 refine Zi (N:=Qvc) F Qen (by decide) fun f cdv A outer s H E ds d hr hR hlen=> ?_
 obtain ⟨a,b,c,rfl⟩:=three hlen;refine Vq (m:=true) (Jf (i:=3) (d:= .non) Qc4 Qen.nd) ?_;show QOs _ _ [.arg a,.arg b,.arg c,.any .non] _ _;rcases hR with h | ⟨h,rfl⟩
 ·exact Vq (m:=true) (τ1:=[.arg a,.arg b,.arg c,.any d]) (Qzi (fun _ _ z=>z) (Vz (Jf (i:=3) (d:=d) (Jy G1 hr (Vc (Vv 0 rfl) (Vc (Vv 1 rfl) (Vc (Vv 2 rfl) Vn))) h) Qen.nd))) (Vz (Jv (Vv 3 rfl)))
 ·exact Vq (m:=true) (Qtu (C:=C.cR) (Ch:=C.cR) (τ1:=[.arg a,.arg b,.arg c,.any .non]) (Qwn (fun _ _ z=>z) G3 hr (Vc (Vv 0 rfl) (Vc (Vv 1 rfl) (Vc (Vv 2 rfl) Vn))) h) rfl rfl C.gR C.xR.at_ C.xR.at_ (C.xR.sub C.RS) fun x oe vs h1 h2 h3=>Vz (Jf (i:=3) (d:= .non) Qc4 Qen.nd)) (Vz (Jv (Vv 3 rfl)))
def RForm:List D->D->Prop:=fun ds d=> ∃ r:Ru,ds=[r.d]/\r.b.length<=100/\d=QL r
theorem Qwi:Vf ["_law_rule_here"] ["_law_rule_here"] (Vs Qk7):=⟨rfl,rfl,rfl,by decide +kernel,rfl,by decide +kernel,by decide +kernel⟩
def Qqn:D->D
 | .tup [m,.tup (k::_)]=> .tup [m,k]
 | d=>d
theorem Qtm (T:Txt K mg) (F:Fd K mg "_law_form" Qk7 ["_law_rule_here"]):PrD P w K mg base "_law_form" 1 ["_law_rule_here"] RForm:=by
 refine Zi (N:=["_law_rule_here"]) F Qwi (by decide) fun f cdv A outer s H E ds d hr hR _=> ?_
 obtain ⟨r,rfl,hb,rfl⟩:=hR;have e:r.b.map formL=(r.b.map Li.d).map Qqn:=by
  rw [Qo];rfl
 unfold QL;rw [e];refine Vz (Jv (Vp (Vc (QR (da:= .tup [.str r.h.k,.tup (r.h.ts.map .str)]) (QR (da:= .tup [r.h.d,.tup (r.b.map Li.d)]) (Vv 0 rfl) Vi at0) Vi at0) (Vc (Wg T.bTup (PDL.pd (Z6 (f:=Qqn) rfl (Yp (QR (da:= .tup [r.h.d,.tup (r.b.map Li.d)]) (Vv 0 rfl) Vi at1)) (Vl (by rw [Q0];omega)) fun d hd cl C s H ex=> ?_)) (.inl rfl)) Vn)) (Vl (by simp))));obtain ⟨l,_,rfl⟩:=Q3.mp hd;exact Vp (Vc (QR (da:= .tup [.str (if l.y then "yes" else "no"),l.a.d]) (Vv 0 rfl) Vi at0) (Vc (QR (da:= .tup [.str l.a.k,.tup (l.a.ts.map .str)]) (QR (da:= .tup [.str (if l.y then "yes" else "no"),l.a.d]) (Vv 0 rfl) Vi at1) Vi at0) Vn)) (Vl (by simp))
def gRu (g:Gv) (r:Ru):Ru:=mapR (V.Qct g.1 g.2) r
def RGround:List D->D->Prop:=fun ds d=> ∃ (r:Ru) (g:Gv),ds=[r.d,V.gD g]/\g.1.length=g.2.length/\r.b.length<=100/\(∀ a∈QB r,a.ts.length<=3)/\d=(gRu g r).d
abbrev YD:List Str:=["_law_rule_here", "_law_given_here"]
theorem Qoh:Vf YD YD (Vs Qa5):=⟨rfl,rfl,rfl,by decide +kernel,rfl,by decide +kernel,by decide +kernel⟩
def grOf (g:Gv):D->D
 | .tup [m,.tup [.str k,.tup ts]]=> .tup [m,.tup [.str k,.tup (ts.map fun d=> .str (V.Qct g.1 g.2 (YZ d)))]]
 | d=>d
theorem Qmg (T:Txt K mg) (F:Fd K mg "_law_ground" Qa5 YD) (G:PrD P w K mg base "_law_put" 1 V.Qgk V.RPut):PrD P w K mg base "_law_ground" 2 YD RGround:=by
 refine Zi (N:=YD) F Qoh (by decide) fun f cdv A outer s H E ds d hr hR _=> ?_
 obtain ⟨r,g,rfl,hg,hb,ht,rfl⟩:=hR;have e:(gRu g r).d= .tup [(V.Qik r.h g).d,.tup ((r.b.map Li.d).map (grOf g))]:=by
  rw [Qo];simp [gRu,mapR,mapA,mapL,Ru.d,Li.d,At.d,V.Qik,grOf,Qo,QK,YZ];exact fun _ _=>rfl
 rw [e];refine Vz (Jv (Vp (Vc (Jy G hr (Vc (QR (da:= .tup [r.h.d,.tup (r.b.map Li.d)]) (Vv 0 rfl) Vi at0) (Vc (Vv 1 rfl) Vn)) ⟨r.h,g,true,rfl,hg,ht _ Q7,rfl⟩) (Vc (Wg T.bTup (PDL.pd (Z6 (f:=grOf g) rfl (Yp (QR (da:= .tup [r.h.d,.tup (r.b.map Li.d)]) (Vv 0 rfl) Vi at1)) (Vl (by rw [Q0];omega)) fun d hd cl C s H ex=> ?_)) (.inl rfl)) Vn)) (Vl (by simp))));obtain ⟨l,hl,rfl⟩:=Q3.mp hd;have e2:grOf g l.d= .tup [.str (if l.y then "yes" else "no"),(V.Qik l.a g).d]:=by
  simp [grOf,Li.d,At.d,V.Qik,Qo,QK,YZ]
 rw [e2];exact Vp (Vc (QR (da:= .tup [.str (if l.y then "yes" else "no"),l.a.d]) (Vv 0 rfl) Vi at0) (Vc (Jy G hr (Vc (QR (da:= .tup [.str (if l.y then "yes" else "no"),l.a.d]) (Vv 0 rfl) Vi at1) (Vc (Vv 2 rfl) Vn)) ⟨l.a,g,true,rfl,hg,ht _ (JU hl),rfl⟩) Vn)) (Vl (by simp))
end
abbrev Oj:Stmt:=top 57
def ab (t:Str):Bool:=match signs t with
 | c::_=>decide (c∈signs "abcdef")
 | []=>false
def Jz (m:Gv) (p:Str×Str):Option Gv :=
 if ab p.1=true/\p.1≠p.2 then none
 else if p.1∈m.1 then (if subst m.1 m.2 p.1=p.2 then some m else none)
 else some (m.1++[p.1],m.2++[p.2])
def Zv (m:Gv) (q:At×At):Option Gv:=(q.1.ts.zip q.2.ts).foldlM Jz m
def JO (r g:Ru):List (At×At):=(r.h,g.h)::(r.b.zip g.b).map fun q=>(q.1.a,q.2.a)
noncomputable def UK (r g:Ru):Bool:=decide (QL r=QL g) && ((JO r g).foldlM Zv ([],[])).isSome
structure GOk (n:Nat) (m:Gv):Prop where
 len:m.1.length=m.2.length
 nd:m.1.Nodup
 le:m.1.length<=n
theorem GOk.nil:GOk 0 ([],[]):=⟨rfl,Wc,Q6 _⟩
theorem GOk.weak {n k:Nat} {m:Gv} (h:GOk n m) (hk:n<=k):GOk k m:=⟨h.len,h.nd,Qz h.le hk⟩
theorem GOk.step {n:Nat} {m m':Gv} {p:Str×Str} (h:GOk n m) (e:Jz m p=some m'):GOk (n+1) m':=by
 have hl:=h.len;have hle:=h.le;unfold Jz at e;split at e
 ·cases e
 ·split at e
  ·split at e
   ·cases e;exact h.weak (by omega)
   ·cases e
  ·rename_i hno;cases e;refine ⟨by simp;omega,?_,by simp;omega⟩;rw [Wj];exact ⟨h.nd,by simp,fun a ha b hb=>by rw [Qs.mp hb];exact fun e=>hno (e ▸ ha)⟩
theorem GOk.run: ∀ (l:List (Str×Str)) {n:Nat} {m m':Gv},GOk n m->l.foldlM Jz m=some m'->GOk (n+l.length) m'
 | [],n,m,m',h,e=>by cases e;exact h
 | p::l,n,m,m',h,e=>by
  rw [JE] at e;obtain ⟨m1,e1,e2⟩:=Yw.mp e;exact ((h.step e1).run l e2).weak (by rw [QC];omega)
theorem GOk.atom {n:Nat} {m m':Gv} {q:At×At} (h:GOk n m) (hq:q.1.ts.length<=3) (e:Zv m q=some m'):GOk (n+3) m' :=
 (GOk.run _ h e).weak (by rw [Wq];omega)
theorem GOk.atoms: ∀ (l:List (At×At)) {n:Nat} {m m':Gv},GOk n m->(∀ q∈l,q.1.ts.length<=3)->l.foldlM Zv m=some m'->GOk (n+3 * l.length) m'
 | [],n,m,m',h,_,e=>by cases e;exact h
 | p::l,n,m,m',h,hl,e=>by
  rw [JE] at e;obtain ⟨m1,e1,e2⟩:=Yw.mp e;exact (GOk.atoms l (h.atom (hl p Q7) e1) (fun q hq=>hl q (Q9 _ hq)) e2).weak (by rw [QC];omega)
theorem Qo3 (l:List Str):keyOks (l.map D.str)=true:=WJ.mpr fun d hd=>by obtain ⟨x,_,rfl⟩:=Q3.mp hd;rfl
theorem Qaf {ds:List D} {n:Nat} (h: ∀ d∈ds,dep d<=n):deps ds<=n:=by
 induction ds with
 | nil=>simp [deps]
 | cons d r ih =>
  have h1:=h d Q7;have h2:=ih fun e he=>h e (Q9 _ he)
  simp [deps];omega
theorem Qo5 (l:List Str):deps (l.map D.str)<=1:=Qaf fun d hd=>by obtain ⟨x,_,rfl⟩:=Q3.mp hd;simp [dep]
theorem Qjk (a:At):keyOk a.d=true:=by
 have:=Qo3 a.ts;simp [At.d,keyOk,keyOks,this]
theorem Qxl (l:Li):keyOk l.d=true:=by
 have:=Qjk l.a;simp [Li.d,keyOk,keyOks,this]
theorem Qok (r:Ru):keyOk r.d=true:=by
 have h1:=Qjk r.h;have:keyOks (r.b.map Li.d)=true:=WJ.mpr fun d hd=>by obtain ⟨x,_,rfl⟩:=Q3.mp hd;exact Qxl x
 simp [Ru.d,keyOk,keyOks,this,h1]
theorem Qfv (a:At):dep a.d<=3:=by
 have:=Qo5 a.ts;simp [At.d,dep,deps];omega
theorem Qxm (l:Li):dep l.d<=4:=by
 have:=Qfv l.a;simp [Li.d,dep,deps];omega
theorem Qol (r:Ru):dep r.d<=6:=by
 have h1:=Qfv r.h;have h2:deps (r.b.map Li.d)<=4:=Qaf fun d hd=>by obtain ⟨x,_,rfl⟩:=Q3.mp hd;exact Qxm x
 simp [Ru.d,dep,deps];omega
theorem By (r:Ru):keyOks [.str r.h.k,.tup (r.b.map formL)]=true:=by
 have:keyOks (r.b.map formL)=true:=WJ.mpr fun d hd=>by obtain ⟨x,_,rfl⟩:=Q3.mp hd;rfl
 simp [keyOk,keyOks,this]
theorem Bz (r:Ru):dep (QL r)<=4:=by
 have:deps (r.b.map formL)<=2:=Qaf fun d hd=>by obtain ⟨x,_,rfl⟩:=Q3.mp hd;simp [formL,ynD,dep,deps]
 simp [QL,dep,deps];omega
theorem Qul (r:Ru):LF (QL r)=true:=by
 have:LFs (r.b.map formL)=true:=QU (fun l=>by simp [formL,ynD,LF,LFs]) _;simp [QL,LF,LFs,this]
theorem Qkz {r g:Ru}:(QL r=QL g) ↔ [D.str r.h.k,.tup (r.b.map formL)]=[D.str g.h.k,.tup (g.b.map formL)]:=⟨fun h=>by unfold QL at h;injection h,fun h=>by unfold QL;rw [h]⟩
structure RuI (r:Ru):Prop where
 b:r.b.length<=100
 t: ∀ a∈QB r,a.ts.length<=3
 s: ∀ a∈QB r,∀ t∈a.ts,t.length<=1000/\signs t≠[]
def UZ (q:At×At):D:= .tup [q.1.d,q.2.d]
theorem Qp5 (q:At×At):LF (UZ q)=true:=by simp [UZ,LF,LFs,At.lf]
theorem Qd7 {r g:Ru} {q:At×At} (h:q∈JO r g):q.1∈QB r/\q.2∈QB g:=by
 rcases Qd.mp h with rfl | h
 ·exact ⟨Q7,Q7⟩
 ·obtain ⟨⟨l,k⟩,hl,rfl⟩:=Q3.mp h;exact ⟨JU (Jb hl).1,JU (Jb hl).2⟩
section
variable {P:Program} {w:World} {K:W.Frag} {mg:Str->Option Value} {base:Heap}
def RInst:List D->D->Prop:=fun ds d=> ∃ r g:Ru,ds=[r.d,g.d]/\RuI r/\g.b.length<=100/\d= .bl (UK r g)
abbrev Qda:List Str:=["_law_rule_here", "_law_ground_here"]
abbrev Qgs:List Str:=["_law_rule_here", "_law_ground_here", "_law_given_here", "_law_pairs", "_law_atom", "_law_other", "_law_term", "_law_word_here"]
theorem Uu:Vf Qgs Qda (Vs Oj):=⟨rfl,rfl,rfl,by decide +kernel,rfl,by decide +kernel,by decide +kernel⟩
def slI (r g:Ru) (m:Gv) (x4 x5 x6 x7:Sl):List Sl:=[.arg r.d,.arg g.d,.odc m.1 (m.2.map .str),.flt ((JO r g).map UZ),x4,x5,x6,x7]
def Qvj:List Stmt:=Qfi ((W7 Oj).getD 3 (.Pass ⟨0,0,0,0⟩))
def Qzq:List Stmt:=Qfi (Qvj.getD 0 (.Pass ⟨0,0,0,0⟩))
def Qz1 (r g:Ru) (x4 x5:Sl):Option Gv->RO
 | some m=> .next false (slI r g m x4 x5 .no .no)
 | none=> .ret (.bl false)
theorem Qt5 (r g:Ru):(JO r g).map UZ=[.tup [r.h.d,g.h.d]]++((r.b.map Li.d).zip (g.b.map Li.d)).map fun q=> .tup [sndR q.1,sndR q.2]:=by
 unfold JO;rw [Qp,Qo,List.zip_map,Qo];rfl
theorem Qkh (r g:Ru): ∀ d∈(JO r g).map UZ,∃ a b,d= .tup [a,b]:=fun d hd=>by
 obtain ⟨q,_,rfl⟩:=Q3.mp hd;exact ⟨_,_,rfl⟩
set_option maxHeartbeats 2000000 in
theorem Qtl (T:Txt K mg) (F:Fd K mg "_law_is_instance" Oj Qda) (G:PrD P w K mg base "_law_form" 1 ["_law_rule_here"] RForm):PrD P w K mg base "_law_is_instance" 2 Qda RInst:=by
 refine Zi (N:=Qgs) F Uu (by decide) fun f cdv A outer s H E ds d hr hR _=> ?_
 obtain ⟨r,g,rfl,Rr,Rg,rfl⟩:=hR;have hu:=Bv hr;have hrb:=Rr.b;have fd1:=Bz r;have fd2:=Bz g;have hun:=hr.units;have tst: ∀ {X:Cx} {τ:List Sl} {e1 e2:Expr} {pos:Pos},X.A.units+20 < cLine->PD X (dat τ) e1 (QL r)->PD X (dat τ) e2 (QL g)->PB X (dat τ) (.Compare e1 [.NotEq] [e2] pos) (!decide (QL r=QL g)):=fun {X τ e1 e2 pos} hx h1 h2=>by
  have:=Qrg (pos:=pos) (us:=[.str r.h.k,.tup (r.b.map formL)]) (vs:=[.str g.h.k,.tup (g.b.map formL)]) h1 h2 (By r) (By g) (by have h3:dep (.tup [.str r.h.k,.tup (r.b.map formL)])<=4:=fd1;have h4:dep (.tup [.str g.h.k,.tup (g.b.map formL)])<=4:=fd2;omega);have e:decide ([D.str r.h.k,.tup (r.b.map formL)]=[D.str g.h.k,.tup (g.b.map formL)])=decide (QL r=QL g):=by
   rw [Jc,QD,QD];exact Qkz.symm
  rw [e] at this;exact this
 have hu20:(A.deeper (PyProof.Rows.envOfC "_law_is_instance" (Vs Oj) s.heap.objs.size f cdv)).units+20 < cLine:=by omega
 by_cases hf: ¬ QL r=QL g
 ·have e:UK r g=false:=by unfold UK;rw [QA hf];rfl
  rw [e];refine Gb (JT (k:=true) ?_ (fun _=>Vz (Jv OV)) (fun h=>nomatch h));have c:(!decide (QL r=QL g))=true:=by rw [QA hf];rfl
  rw [<- c];exact tst hu20 (Jy G hr (Vc (Vv 0 rfl) Vn) ⟨r,rfl,Rr.b,rfl⟩) (Jy G hr (Vc (Vv 1 rfl) Vn) ⟨g,rfl,Rg,rfl⟩)
 replace hf:=Classical.not_not.mp hf;have ei:UK r g=((JO r g).foldlM Zv ([],[])).isSome:=by unfold UK;rw [QM hf];rfl
 rw [ei];have c:(!decide (QL r=QL g))=false:=by rw [QM hf];rfl
 refine Vq (m:=true) (JT (k:=false) (by rw [<- c];exact tst hu20 (Jy G hr (Vc (Vv 0 rfl) Vn) ⟨r,rfl,Rr.b,rfl⟩) (Jy G hr (Vc (Vv 1 rfl) Vn) ⟨g,rfl,Rg,rfl⟩)) (fun h=>nomatch h) (fun _=>JS)) ?_;refine Vq (m:=true) (Ua (i:=2) Qfm rfl Uu.nd) ?_;have hlf:LFs ((JO r g).map UZ)=true:=QU Qp5 _;have hpl:(JO r g).length<=101:=by
  unfold JO;rw [QC,Q0,Wq];omega
 refine Vq (m:=true) (Bs (i:=3) (ds:=(JO r g).map UZ) ?val hlf Uu.nd) ?_
 case val =>
  rw [Qt5];refine Qc1 (xs:=[.tup [r.h.d,g.h.d]]) (PDL.pd (Wf (Vc (Vp (Vc (QR (da:= .tup [r.h.d,.tup (r.b.map Li.d)]) (Vv 0 rfl) Vi at0) (Vc (QR (da:= .tup [g.h.d,.tup (g.b.map Li.d)]) (Vv 1 rfl) Vi at0) Vn)) (Vl (by simp))) Vn) (Vl (by simp)))) (PDL.pd (Qy6 (hnd:=(by decide +kernel:(("_law_one" :Str):: "_law_two" ::Qgs).Nodup)) (f:=fun u v=> .tup [sndR u,sndR v]) rfl T.bZip (QR (da:= .tup [r.h.d,.tup (r.b.map Li.d)]) (Vv 0 rfl) Vi at1) (QR (da:= .tup [g.h.d,.tup (g.b.map Li.d)]) (Vv 1 rfl) Vi at1) (Vl (by rw [Q0];omega)) fun u v huv cl C s H ex=> ?_)) (Vl (by simp;omega));obtain ⟨h1,h2⟩:=Jb huv;obtain ⟨l,_,rfl⟩:=Q3.mp h1;obtain ⟨k,_,rfl⟩:=Q3.mp h2;exact Vp (Vc (QR (da:= .tup [.str (if l.y then "yes" else "no"),l.a.d]) (d:=l.a.d) (Vv 0 rfl) Vi at1) (Vc (QR (da:= .tup [.str (if k.y then "yes" else "no"),k.a.d]) (d:=k.a.d) (Vv 1 rfl) Vi at1) Vn)) (Vl (by simp))
 show QOs _ _ (slI r g ([],[]) .no .no .no .no) _ _;have turn: ∀ (m:Gv) (n:Nat) (x y:Str) (x4 x5:D),GOk n m->n<=400->x.length<=1000->signs x≠[]->LF x4=true->LF x5=true->QOs (Ug CX0 P w K mg base Qgs "_law_is_instance" (Vs Oj) f cdv A outer s H E).nox H (slI r g m (.any x4) (.any x5) (.any (.str x)) (.any (.str y))) Qzq (Qz1 r g (.any x4) (.any x5) (Jz m (x,y))):=fun m n x y x4 x5 mo hn hx hne lf4 lf5=>by
  have hml:=mo.le;cases hs:signs x with
  | nil=>exact absurd hs hne
  | cons cc qq =>
   have hab:ab x=decide (cc∈signs "abcdef"):=by unfold ab;rw [hs]
   have hz: ∀ y,D.str x= .str y->y.length<=sizeLine:=fun y e=>by cases e;exact Vl (by omega)
   have hat:dAt (.str x) 0=some (.str ⟨#[cc]⟩):=by
    show (atI x.cps.toList 0).map _=_;rw [show x.cps.toList=cc::qq from hs];have e:atI (cc::qq) ((0:Nat):Int)=some cc:=WM rfl;rw [show (0:Int)=((0:Nat):Int) from rfl,e];rfl
   have em:Jz m (x,y)=if ab x=true/\x≠y then none else if x∈m.1 then (if subst m.1 m.2 x=y then some m else none) else some (m.1++[x],m.2++[y]):=rfl;have hsz:m.1.length < sizeLine:=by rw [QP];omega
   by_cases h1:ab x=true/\x≠y
   ·rw [em,Qk h1];have c1:(decide (cc∈signs "abcdef") && !decide (x=y))=true:=by rw [<- hab,h1.1,QA h1.2];rfl
    exact Vz (Qpp (i:=2) (c1:=true) (by rw [<- c1];exact Y3 (WE (V.Gq (n:=cc) (y:= "abcdef") (QR (da:= .str x) (i:=0) (Vv 6 rfl) Vi hat hz) Vt) (fun _=>Ze (Ys (Vv 6 rfl) (Vv 7 rfl))))) (Vv 6 rfl) (Vv 7 rfl) (Vv 7 rfl) (ks:=m.1) (vs:=m.2) rfl hsz (.inl rfl) (Vz (Jv OV)))
   ·have c1:(decide (cc∈signs "abcdef") && !decide (x=y))=false:=by
     rw [<- hab];cases h2:ab x with
     | false=>rfl
     | true =>
      have:x=y:=Bh fun z=>h1 ⟨h2,z⟩
      rw [QM this];rfl
    rw [em,Qn h1]
    by_cases h2:x∈m.1
    ·rw [Qk h2];have hi:m.1.idxOf x < m.1.length:=Qx.mpr h2;have hk1:m.1[m.1.idxOf x]? =some x:=by rw [Qb hi,J0 hi]
     have hv1:=Wy mo.len h2
     by_cases h3:subst m.1 m.2 x=y
     ·rw [Qk h3];refine WG (m:=false) (τ1:=slI r g m (.any x4) (.any x5) (.any (.str x)) (.any (.str y))) ?_ (WkI.wk (.keep (.keep (.keep (.keep (.keep (.keep (.no (.no .nil))))))))) (fun z=>nomatch z);show QOs _ _ _ _ (.next false ((slI r g m (.any x4) (.any x5) (.any (.str x)) (.any (.str y))).set 2 (.odc m.1 (m.2.map .str))));exact Vz (Qpq (i:=2) (by rw [<- c1];exact Y3 (WE (V.Gq (n:=cc) (y:= "abcdef") (QR (da:= .str x) (i:=0) (Vv 6 rfl) Vi hat hz) Vt) (fun _=>Ze (Ys (Vv 6 rfl) (Vv 7 rfl))))) (Vv 6 rfl) (Vv 7 rfl) (Vv 7 rfl) (ks:=m.1) (vs:=m.2) rfl hsz (AL.h (τ:=slI r g m (.any x4) (.any x5) (.any (.str x)) (.any (.str y))) ⟨lf4,lf5,QT,QT,trivial⟩) (ks':=m.1) (vs':=m.2) (.inl ⟨_,hk1,by rw [hv1,h3],rfl,rfl⟩))
     ·rw [Qn h3];exact Vz (Qpp (i:=2) (c1:=false) (by rw [<- c1];exact Y3 (WE (V.Gq (n:=cc) (y:= "abcdef") (QR (da:= .str x) (i:=0) (Vv 6 rfl) Vi hat hz) Vt) (fun _=>Ze (Ys (Vv 6 rfl) (Vv 7 rfl))))) (Vv 6 rfl) (Vv 7 rfl) (Vv 7 rfl) (ks:=m.1) (vs:=m.2) rfl hsz (.inr ⟨_,_,hk1,hv1,h3⟩) (Vz (Jv OV)))
    ·rw [Qn h2];refine WG (m:=false) (τ1:=slI r g (m.1++[x],m.2++[y]) (.any x4) (.any x5) (.any (.str x)) (.any (.str y))) ?_ (WkI.wk (.keep (.keep (.keep (.keep (.keep (.keep (.no (.no .nil))))))))) (fun z=>nomatch z);show QOs _ _ _ _ (.next false ((slI r g m (.any x4) (.any x5) (.any (.str x)) (.any (.str y))).set 2 (.odc (m.1++[x]) ((m.2++[y]).map .str))));exact Vz (Qpq (i:=2) (by rw [<- c1];exact Y3 (WE (V.Gq (n:=cc) (y:= "abcdef") (QR (da:= .str x) (i:=0) (Vv 6 rfl) Vi hat hz) Vt) (fun _=>Ze (Ys (Vv 6 rfl) (Vv 7 rfl))))) (Vv 6 rfl) (Vv 7 rfl) (Vv 7 rfl) (ks:=m.1) (vs:=m.2) rfl hsz (AL.h (τ:=slI r g m (.any x4) (.any x5) (.any (.str x)) (.any (.str y))) ⟨lf4,lf5,QT,QT,trivial⟩) (ks':=m.1++[x]) (vs':=m.2++[y]) (.inr ⟨h2,rfl,rfl⟩))
 have hstr: ∀ l:List Str,LFs (l.map D.str)=true:=fun l=>QU (fun _=>QT) _
 have hz: ∀ {as bs:List Str} {i:Nat} {u v:D},(as.map D.str)[i]? =some u->(bs.map D.str)[i]? =some v-> ∃ x y,(as.zip bs)[i]? =some (x,y)/\u= .str x/\v= .str y:=fun {as bs i u v} h1 h2=>by
  rw [Q8] at h1 h2;cases e1:as[i]? with
  | none=>rw [e1] at h1;cases h1
  | some x =>
   cases e2:bs[i]? with
   | none=>rw [e2] at h2;cases h2
   | some y =>
    rw [e1] at h1;rw [e2] at h2;refine ⟨x,y,?_,(Qt h1).symm,(Qt h2).symm⟩;rw [W1];exact ⟨e1,e2⟩
 have atomT: ∀ (m:Gv) (n:Nat) (q:At×At),q∈JO r g->GOk n m->n<=396->QOs (Ug CX0 P w K mg base Qgs "_law_is_instance" (Vs Oj) f cdv A outer s H E).nox H (slI r g m (.any q.1.d) (.any q.2.d) .no .no) Qvj (Qz1 r g (.any q.1.d) (.any q.2.d) (Zv m q)):=fun m n q hq mo hn=>by
  obtain ⟨a,b⟩:=q;have hqm:=Qd7 hq;have h3:=Rr.t _ hqm.1;have hts:=Rr.s _ hqm.1;have hzl:(a.ts.zip b.ts).length<=3:=by rw [Wq];have:a.ts.length<=3:=h3;omega
  have hP: ∀ p∈a.ts.zip b.ts,p.1.length<=1000/\signs p.1≠[]:=fun p hp=>hts _ (Jb hp).1
  cases hm:Zv m (a,b) with
  | none =>
   obtain ⟨i0,⟨x0,y0⟩,m0,h0,hp0,hf0⟩:=GQ (f:=Jz) (l:=a.ts.zip b.ts) hm;have hi0:i0 < (a.ts.zip b.ts).length:=(Q5.mp h0).1;have hxy:=W1.mp h0;have pre: ∀ i,i<=i0-> ∃ mi,((a.ts.zip b.ts).take i).foldlM Jz m=some mi/\GOk (n+3) mi:=fun i hi=>by
    obtain ⟨mi,e⟩:=Ym hp0 i;rw [Qvz,Wo hi] at e;refine ⟨mi,e,?_⟩;refine (GOk.run ((a.ts.zip b.ts).take i) mo e).weak ?_;rw [Qj];omega
   refine Vz (Qgn (m:=false) (as:=a.ts.map .str) (bs:=b.ts.map .str) (jx:=6) (jy:=7) (fun i=>slI r g ((((a.ts.zip b.ts).take i).foldlM Jz m).getD ([],[])) (.any a.d) (.any b.d) .no .no) i0 (u0:= .str x0) (v0:= .str y0) (by rw [Q8,hxy.1];rfl) (by rw [Q8,hxy.2];rfl) Qw rfl T.bZip (QR (da:= .tup [.str a.k,.tup (a.ts.map .str)]) (Vv 4 rfl) Vi at1) (QR (da:= .tup [.str b.k,.tup (b.ts.map .str)]) (Vv 5 rfl) Vi at1) (hstr _) (hstr _) rfl (fun i u v hi h1 h2=>⟨false,?_,fun z=>nomatch z⟩) ?_ Uu.nd)
   ·obtain ⟨x,y,hxy',rfl,rfl⟩:=hz h1 h2;obtain ⟨mi,ei,mo'⟩:=pre i (by omega);obtain ⟨mj,ej,_⟩:=pre (i+1) (by omega);have hnx:=Ya (f:=Jz) (a:=m) hxy';rw [ei,ej] at hnx;have:=turn mi (n+3) x y a.d b.d mo' (by omega) (hP _ (Q4 hxy')).1 (hP _ (Q4 hxy')).2 (At.lf a) (At.lf b);rw [show Jz mi (x,y)=some mj from hnx.symm] at this;rw [ei,ej];exact this
   ·obtain ⟨mi,ei,mo'⟩:=pre i0 (Q6 _);have e0:mi=m0:=Qt (ei.symm.trans hp0);subst e0;have:=turn mi (n+3) x0 y0 a.d b.d mo' (by omega) (hP _ (Q4 h0)).1 (hP _ (Q4 h0)).2 (At.lf a) (At.lf b);rw [hf0] at this;rw [ei];exact this
  | some mf =>
   have pre: ∀ i,∃ mi,((a.ts.zip b.ts).take i).foldlM Jz m=some mi/\GOk (n+3) mi:=fun i=>by
    obtain ⟨mi,e⟩:=Ym (f:=Jz) (l:=a.ts.zip b.ts) hm i;refine ⟨mi,e,?_⟩;refine (GOk.run ((a.ts.zip b.ts).take i) mo e).weak ?_;rw [Qj];omega
   have ef:mf=(((a.ts.zip b.ts).take (min (a.ts.map D.str).length (b.ts.map D.str).length)).foldlM Jz m).getD ([],[]):=by
    rw [Q0,Q0,JZ (by rw [Wq];exact Q6 _)];rw [show (a.ts.zip b.ts).foldlM Jz m=some mf from hm];rfl
   show QOs _ _ _ _ (.next false (slI r g mf (.any a.d) (.any b.d) .no .no));rw [ef];refine Vz (Qkm (m:=false) (as:=a.ts.map .str) (bs:=b.ts.map .str) (jx:=6) (jy:=7) (fun i=>slI r g ((((a.ts.zip b.ts).take i).foldlM Jz m).getD ([],[])) (.any a.d) (.any b.d) .no .no) Qw rfl T.bZip (QR (da:= .tup [.str a.k,.tup (a.ts.map .str)]) (Vv 4 rfl) Vi at1) (QR (da:= .tup [.str b.k,.tup (b.ts.map .str)]) (Vv 5 rfl) Vi at1) (hstr _) (hstr _) rfl (fun i u v h1 h2=>⟨false,?_,fun z=>nomatch z⟩) Uu.nd);obtain ⟨x,y,hxy',rfl,rfl⟩:=hz h1 h2;obtain ⟨mi,ei,mo'⟩:=pre i;obtain ⟨mj,ej,_⟩:=pre (i+1);have hnx:=Ya (f:=Jz) (a:=m) hxy';rw [ei,ej] at hnx;have:=turn mi (n+3) x y a.d b.d mo' (by omega) (hP _ (Q4 hxy')).1 (hP _ (Q4 hxy')).2 (At.lf a) (At.lf b);rw [show Jz mi (x,y)=some mj from hnx.symm] at this;rw [ei,ej];exact this
 have h3s: ∀ q∈JO r g,q.1.ts.length<=3:=fun q hq=>Rr.t _ (Qd7 hq).1
 cases hm:(JO r g).foldlM Zv ([],[]) with
 | none =>
  obtain ⟨i0,q0,m0,h0,hp0,hf0⟩:=GQ hm;have hi0:i0 < (JO r g).length:=(Q5.mp h0).1;have pre: ∀ i,i<=i0-> ∃ mi,((JO r g).take i).foldlM Zv ([],[])=some mi/\GOk 303 mi:=fun i hi=>by
   obtain ⟨mi,e⟩:=Ym hp0 i;rw [Qvz,Wo hi] at e;refine ⟨mi,e,?_⟩;refine (GOk.atoms ((JO r g).take i) (n:=0) GOk.nil (fun q hq=>h3s q (QW hq)) e).weak ?_;rw [Qj];omega
  refine Gb (Qtt (ds:=(JO r g).map UZ) (m:=false) (put:=fun τ d=>(τ.set 4 (.any (nth d 0))).set 5 (.any (nth d 1))) (fun i=>slI r g ((((JO r g).take i).foldlM Zv ([],[])).getD ([],[])) .no .no .no .no) i0 (UZ q0) (by rw [Q8,h0];rfl) Qw rfl (WT (WB (i:=3) rfl (QI rfl)))
   (Yi rfl (Vh (Ja (i:=4) Uu.nd rfl (QI rfl)) (Vh (Ja (i:=5) Uu.nd rfl (QI rfl)) Zm))) (put2 (Qkh r g)) (Qb0 (k:=3) rfl) rfl (fun i d hi hd=>⟨false,?_,fun z=>nomatch z⟩) ?_)
  ·obtain ⟨q,hqi,rfl⟩:=Zr hd;obtain ⟨mi,ei,mo⟩:=pre i (by omega);obtain ⟨mj,ej,_⟩:=pre (i+1) (by omega);have hnx:=Ya (f:=Zv) (a:=([],[])) hqi;rw [ei,ej] at hnx;have:=atomT mi 303 q (Q4 hqi) mo (by omega);rw [show Zv mi q=some mj from hnx.symm] at this;rw [ei,ej];refine WG (m:=false) this (WkI.wk (.keep (.keep (.keep (.keep (.no (.no (.keep (.keep .nil))))))))) (fun z=>nomatch z)
  ·obtain ⟨mi,ei,mo⟩:=pre i0 (Q6 _);have e0:mi=m0:=Qt (ei.symm.trans hp0);subst e0;have:=atomT mi 303 q0 (Q4 h0) mo (by omega);rw [hf0] at this;rw [ei];exact this
 | some mf =>
  have pre: ∀ i,∃ mi,((JO r g).take i).foldlM Zv ([],[])=some mi/\GOk 303 mi:=fun i=>by
   obtain ⟨mi,e⟩:=Ym hm i;refine ⟨mi,e,?_⟩;refine (GOk.atoms ((JO r g).take i) (n:=0) GOk.nil (fun q hq=>h3s q (QW hq)) e).weak ?_;rw [Qj];omega
  refine Vq (m:=false) (τ1:=slI r g mf .no .no .no .no) ?loop (Vz (Jv OV));have ef:mf=(((JO r g).take ((JO r g).map UZ).length).foldlM Zv ([],[])).getD ([],[]):=by
   rw [Q0,QF,hm];rfl
  rw [ef];refine Zc (ds:=(JO r g).map UZ) (m:=false) (put:=fun τ d=>(τ.set 4 (.any (nth d 0))).set 5 (.any (nth d 1))) (fun i=>slI r g ((((JO r g).take i).foldlM Zv ([],[])).getD ([],[])) .no .no .no .no) Qw rfl (WT (WB (i:=3) rfl (QI rfl)))
   (Yi rfl (Vh (Ja (i:=4) Uu.nd rfl (QI rfl)) (Vh (Ja (i:=5) Uu.nd rfl (QI rfl)) Zm))) (put2 (Qkh r g)) (Qb0 (k:=3) rfl) rfl (fun i d hd=>⟨false,?_,fun z=>nomatch z⟩)
  obtain ⟨q,hqi,rfl⟩:=Zr hd;obtain ⟨mi,ei,mo⟩:=pre i;obtain ⟨mj,ej,_⟩:=pre (i+1);have hnx:=Ya (f:=Zv) (a:=([],[])) hqi;rw [ei,ej] at hnx;have:=atomT mi 303 q (Q4 hqi) mo (by omega);rw [show Zv mi q=some mj from hnx.symm] at this;rw [ei,ej];refine WG (m:=false) this (WkI.wk (.keep (.keep (.keep (.keep (.no (.no (.keep (.keep .nil))))))))) (fun z=>nomatch z)
end
theorem Qm9 {r:Ru} {t:Str}:t∈U9 r ↔ ∃ a∈QB r,t∈a.ts/\Jh t=true:=by
 unfold U9 Z1;simp only [JR,Wp]
theorem Qkf {φ:Str->Str}: ∀ {l ks:List Str},(∀ t u,(t∈ks \/ t∈l)->(u∈ks \/ u∈l)->φ t=φ u->t=u)->(l.map φ).foldl J6 (ks.map φ)=(l.foldl J6 ks).map φ
 | [],ks,_=>rfl
 | t::l,ks,h=>by
  rw [Qp,Jl,Jl];have e:J6 (ks.map φ) (φ t)=(J6 ks t).map φ:=by
   unfold J6
   by_cases hm:t∈ks
   ·rw [Qk hm,Qk (Q3.mpr ⟨t,hm,rfl⟩)]
   ·rw [Qn hm,Qn (fun z=>by
     obtain ⟨u,hu,eu⟩:=Q3.mp z;exact hm ((h u t (.inl hu) (.inr Q7) eu) ▸ hu))]
    simp
  rw [e];refine Qkf fun a b ha hb=>h a b ?_ ?_
  ·rcases ha with ha | ha
   ·rcases GE.mp ha with z | z
    ·exact .inl z
    ·exact .inr (z ▸ Q7)
   ·exact .inr (Q9 _ ha)
  ·rcases hb with hb | hb
   ·rcases GE.mp hb with z | z
    ·exact .inl z
    ·exact .inr (z ▸ Q7)
   ·exact .inr (Q9 _ hb)
theorem Qbu {α β:Type} {f g:α->List β}: ∀ {l:List α},(∀ a∈l,f a=g a)->l.flatMap f=l.flatMap g
 | [],_=>rfl
 | a::l,h=>by rw [YK,YK,h a Q7,Qbu fun b hb=>h b (Q9 _ hb)]
theorem Y7 {r:Ru} (hn:(Qi r).length<=26) {t:Str} (h:t∈Qi r):subst (Qi r) (W0 (Qi r).length) t=sg CAPS ((Qi r).idxOf t):=by
 have hi:(Qi r).idxOf t < (Qi r).length:=Qx.mpr h;have h1:=Wy (ks:=Qi r) (vs:=W0 (Qi r).length) (by rw [Zg]) h;rw [Go hi] at h1;exact (Qt h1).symm
theorem Qp6 {φ:Str->Str} {r:Ru} (hop: ∀ a∈QB r,∀ t∈a.ts,Jh (φ t)=Jh t):U9 (mapR φ r)=(U9 r).map φ:=by
 unfold U9;rw [Uj,List.flatMap_map,List.map_flatMap];refine Qbu fun a ha=> ?_
 show (a.ts.map φ).filter Jh=(a.ts.filter Jh).map φ;rw [Qcl];congr 1;exact List.filter_congr fun t ht=>hop a ha t ht
theorem Qb2 {r:Ru} (hn:(Qi r).length<=26):Qi (Jt r)=W0 (Qi r).length:=by
 have hop: ∀ a∈QB r,∀ t∈a.ts,Jh (subst (Qi r) (W0 (Qi r).length) t)=Jh t:=fun a ha t ht=>by
  by_cases ho:t∈Qi r
  ·have hi:(Qi r).idxOf t < (Qi r).length:=Qx.mpr ho;rw [Y7 hn ho,(Wx.mp ho).1];exact Qe1 _ (by omega)
  ·rw [Z7 ho]
 have e:U9 (Jt r)=(U9 r).map (subst (Qi r) (W0 (Qi r).length)):=by
  unfold Jt;rw [Y6];exact Qp6 hop
 have e2:Qi (Jt r)=(Qi r).map (subst (Qi r) (W0 (Qi r).length)):=by
  have e3:Qi (Jt r)=(U9 (Jt r)).foldl J6 []:=rfl;have e4:Qi r=(U9 r).foldl J6 []:=rfl;rw [e3,e];have key:=Qkf (φ:=subst (Qi r) (W0 (Qi r).length)) (l:=U9 r) (ks:=[]) ?_
  ·rw [<- e4] at key;exact key
  intro t u ht hu heq;have mem: ∀ x,(x∈([]:List Str) \/ x∈U9 r)->x∈Qi r:=fun x hx=>by
   rcases hx with hx | hx
   ·cases hx
   ·obtain ⟨a,ha,hta,ot⟩:=Qm9.mp hx;exact Wx.mpr ⟨ot,a,ha,hta⟩
  have mt:=mem t ht;have mu:=mem u hu;have i1:(Qi r).idxOf t < (Qi r).length:=Qx.mpr mt;have i2:(Qi r).idxOf u < (Qi r).length:=Qx.mpr mu;rw [Y7 hn mt,Y7 hn mu] at heq;have hij:=Qcb _ (by omega) _ (by omega) heq;have h1:=J0 i1;have h2:=J0 i2;rw [<- h1,<- h2];congr 1
 rw [e2];refine Zy fun i=> ?_
 rw [Q8]
 by_cases hi:i < (Qi r).length
 ·rw [Go hi,Qb hi];have hm:(Qi r)[i]∈Qi r:=ZO hi;have hix:(Qi r).idxOf (Qi r)[i]=i:=(UO r).idxOf_getElem i hi;show some _=_;rw [Y7 hn hm,hix]
 ·rw [JJ (by omega),JJ (by rw [Zg];omega)];rfl
theorem Qid (ks:List Str) (t:Str):subst ks ks t=t:=by
 by_cases h:t∈ks
 ·have hi:ks.idxOf t < ks.length:=Qx.mpr h;have:=Wy (ks:=ks) (vs:=ks) rfl h;rw [Qb hi,J0 hi] at this;exact (Qt this).symm
 ·exact Z7 h
theorem Qgg {r:Ru} (hn:(Qi r).length<=26):Jt (Jt r)=Jt r:=by
 have e:Jt (Jt r)=Wz (Qi (Jt r)) (W0 (Qi (Jt r)).length) (Jt r):=rfl;rw [e,Qb2 hn,Zg,Y6];refine Eq.trans (B9 fun a _ t _=>Qid _ t) (Qu0 _)
theorem Qbr (σ:Str->Str) (r:Ru):QL (mapR σ r)=QL r:=by
 simp [QL,mapR,mapA,mapL,formL,ynD,Qo,QK];exact fun _ _=>rfl
theorem Um {α β:Type} (f:α->β): ∀ l:List α,l.zip (l.map f)=l.map fun t=>(t,f t)
 | []=>rfl
 | a::l=>by rw [Qp,Za,Um f l,Qp]
theorem Qm5 (σ:Str->Str) (c:Ru):JO c (mapR σ c)=(QB c).map fun a=>(a,mapA σ a):=by
 unfold JO QB mapR;rw [Um,Qo,Qp,Qo];rfl
def Agr (ρ:Str->Str) (m:Gv):Prop:=m.2=m.1.map ρ
theorem Agr.at {ρ:Str->Str} {m:Gv} (h:Agr ρ m) {x:Str} (hx:x∈m.1):subst m.1 m.2 x=ρ x:=by
 have hi:m.1.idxOf x < m.1.length:=Qx.mpr hx;have:=Wy (ks:=m.1) (vs:=m.2) (by rw [h];simp) hx;rw [h,Q8,Qb hi,J0 hi] at this;rw [h];exact (Qt this).symm
theorem Qrl {ρ:Str->Str} {m:Gv} (h:Agr ρ m) {x:Str} (hab:ab x=true->ρ x=x): ∃ m',Jz m (x,ρ x)=some m'/\Agr ρ m':=by
 unfold Jz;rw [Qn (fun z=>z.2 (hab z.1).symm)]
 by_cases hx:x∈m.1
 ·dsimp only;rw [Qk hx,Qk (h.at hx)];exact ⟨m,rfl,h⟩
 ·dsimp only;rw [Qn hx];refine ⟨_,rfl,?_⟩;show m.2++[ρ x]=(m.1++[x]).map ρ;rw [QE,h];rfl
theorem Qld {ρ:Str->Str}: ∀ (l:List Str) {m:Gv},Agr ρ m->(∀ x∈l,ab x=true->ρ x=x)-> ∃ m',(l.map fun t=>(t,ρ t)).foldlM Jz m=some m'/\Agr ρ m'
 | [],m,h,_=>⟨m,rfl,h⟩
 | x::l,m,h,hab=>by
  obtain ⟨m1,e1,h1⟩:=Qrl h (hab x Q7);obtain ⟨m2,e2,h2⟩:=Qld l h1 fun y hy=>hab y (Q9 _ hy)
  refine ⟨m2,?_,h2⟩;rw [Qp,JE,e1];exact e2
theorem Qe8 {ρ:Str->Str}: ∀ (l:List At) {m:Gv},Agr ρ m->(∀ a∈l,∀ x∈a.ts,ab x=true->ρ x=x)-> ∃ m',(l.map fun a=>(a,mapA ρ a)).foldlM Zv m=some m'/\Agr ρ m'
 | [],m,h,_=>⟨m,rfl,h⟩
 | a::l,m,h,hab=>by
  obtain ⟨m1,e1,h1⟩:=Qld a.ts h (hab a Q7);obtain ⟨m2,e2,h2⟩:=Qe8 l h1 fun y hy=>hab y (Q9 _ hy)
  refine ⟨m2,?_,h2⟩;rw [Qp,JE];have:Zv m (a,mapA ρ a)=some m1:=by
   unfold Zv mapA;dsimp only;rw [Um];exact e1
  rw [this];exact e2
theorem Qqi {c:Ru} {ρ:Str->Str} (hab: ∀ a∈QB c,∀ t∈a.ts,ab t=true->ρ t=t):UK c (mapR ρ c)=true:=by
 unfold UK;rw [Qbr,Qm5];obtain ⟨m,e,_⟩:=Qe8 (ρ:=ρ) (QB c) (m:=([],[])) rfl hab;rw [e]
 simp
theorem slice1 {x:Str} {c:Nat} {l:List Nat} (h:signs x=c::l) (h8:x.length<=12):Txt.slice x none (some 1)=⟨#[c]⟩:=by
 obtain ⟨cps⟩:=x;obtain ⟨cs⟩:=cps;have hc:cs=c::l:=h;subst hc;have hn:(⟨⟨c::l⟩⟩:Str).length=l.length+1:=rfl;have hi: ∀ n,n < 13->1<=n->Builtin.Str.strSliceIndices none (some 1) 1 n=[0]:=by decide +kernel
 have e:=hi (l.length+1) (by rw [hn] at h8;omega) (by omega);unfold Txt.slice;rw [hn,e];cases l with
 | nil=>rfl
 | cons a l =>
  rw [Qn (by simp)];rfl
theorem Qg2: ∀ c∈signs SMALL,Txt.isupper ⟨#[c]⟩=false:=by decide +kernel
theorem Qrr: ∀ c∈signs "abcdef",c∈signs SMALL:=by decide +kernel
theorem Qif: ∀ c∈signs SMALL,c ∉ signs CAPS:=by decide +kernel
theorem Qob:39 ∉ signs SMALL:=by decide +kernel
theorem Qi6 {x:Str} (h:Zu x=true): ∃ c l,signs x=c::l/\c∈signs SMALL/\x.length<=8/\39 ∉ signs x:=by
 unfold Zu at h;simp only [Qv,QD,OP] at h;obtain ⟨⟨h1,h2⟩,h3,_⟩:=h;cases e:signs x with
 | nil =>
  have:x.length=(signs x).length:=rfl;rw [e] at this;simp at this;omega
 | cons c l=>exact ⟨c,l,rfl,h3 c (by rw [e];exact Q7),by omega,fun z=>Qob (h3 39 (by rw [e];exact z))⟩
theorem Qnj {x:Str} (h8:x.length<=12) (h:ab x=true):Jh x=false:=by
 unfold ab at h;cases e:signs x with
 | nil=>rw [e] at h;cases h
 | cons c l =>
  rw [e] at h;have hc:c∈signs "abcdef" :=Jx h;unfold Jh;rw [slice1 e h8];exact Qg2 c (Qrr c hc)
theorem Qcw: ∀ x∈XYZ,x.length<=8/\signs x≠[]/\39 ∉ signs x/\Jh x=true/\V.Qfr x=true/\Jh (ap x)=true:=by decide +kernel
theorem Qjr:XYZ.length=3:=by decide
structure Tf (x:Str):Prop where
 l8:x.length<=8
 ne:signs x≠[]
 q:39 ∉ signs x
 c:V.Qfr x=Jh x
 o:Jh x=true->x∈XYZ
theorem Qyo {x:Str} (h:tm x):Tf x:=by
 rcases h with h | h
 ·have f:=Qcw x h;exact ⟨f.1,f.2.1,f.2.2.1,by rw [f.2.2.2.1,f.2.2.2.2.1],fun _=>h⟩
 ·obtain ⟨c,l,e,hc,h8,h39⟩:=Qi6 h;have ho:Jh x=false:=by
   unfold Jh;rw [slice1 e (by omega)];exact Qg2 c hc
  refine ⟨h8,by rw [e];simp,h39,?_,fun z=>by rw [ho] at z;cases z⟩;rw [ho];unfold V.Qfr;rw [e];exact QA (Qif c hc)
structure Dr (r:Ru):Prop where
 b:r.b.length<=4
 t: ∀ a∈QB r,a.ts.length<=3
 tf: ∀ a∈QB r,∀ t∈a.ts,Tf t
def AtOk (a:At):Prop:=a.ts.length<=3/\ ∀ t∈a.ts,tm t
theorem Quh (ns:List Int) (c:Int) (free:Bool):AtOk (rule ns c free).h:=by
 refine ⟨?_,?_⟩
 ·simp only [RH.rule,Q0,Wl];exact GB _ _
 ·intro t ht;obtain ⟨j,_,rfl⟩:=Q3.mp ht;exact Ol (Qb4 _ (Uw ns c free))
theorem Qtw (ns:List Int) (c:Int) (free:Bool):AtOk (Bt ns c free):=by
 refine ⟨?_,?_⟩
 ·simp only [Bt,Q0,Wl];exact GB _ _
 ·intro t ht;obtain ⟨j,_,rfl⟩:=Q3.mp ht;exact Ol (Qb4 _ (Uw ns c free))
theorem Quv {ns:List Int} {c:Int} {free:Bool} {l:Li} (h:l∈WA ns c free):AtOk l.a:=by
 rcases Ux h with ⟨a,ha,rfl⟩ | ⟨hn,rfl⟩
 ·obtain ⟨k,_,rfl⟩:=Q3.mp ha;exact ⟨Qcg ..,Qne ns c (QN c) free k⟩
 ·exact Qtw ns c free
theorem Qqr (ns:List Int): ∀ r∈rulesR ns,Dr r:=fun r hr=>by
 obtain ⟨c,_,rfl⟩:=Q3.mp hr;have hat: ∀ a∈QB (rule ns c (Oa ns)),AtOk a:=fun a ha=>by
  rcases Qd.mp ha with rfl | ha
  ·exact Quh ns c _
  ·obtain ⟨l,hl,rfl⟩:=Q3.mp ha;exact Quv hl
 exact ⟨Uy ns c _,fun a ha=>(hat a ha).1,fun a ha t ht=>Qyo ((hat a ha).2 t ht)⟩
theorem Dr.v {r:Ru} (h:Dr r):(Qi r).length<=3:=by
 have:=Y8 (UO r) (m:=XYZ) fun t ht=>by
  obtain ⟨o,a,ha,hta⟩:=Wx.mp ht;exact (h.tf a ha t hta).o o
 rw [Qjr] at this;exact this
theorem Dr.c {r:Ru} (h:Dr r):RuC r:=⟨h.b,h.v,h.t,fun a ha t ht=>(h.tf a ha t ht).l8⟩
abbrev gS (g:Gv):Str->Str:=V.Qct g.1 g.2
structure Gi (g:Gv):Prop where
 len:g.1.length=g.2.length
 o: ∀ k∈g.1,Jh k=true
theorem Gi.fix {g:Gv} (h:Gi g) {t:Str} (ht:Jh t=false):gS g t=t:=V.Qkx h.len fun z=>by
 rw [h.o t z] at ht;cases ht
theorem BI (v:Str):signs (ap v)=signs v++[39]:=by
 unfold ap;rw [WI];have:signs "'" =[39]:=by decide +kernel
 rw [this]
theorem Qyi {u v:Str} (h:ap u=ap v):u=v:=by
 have:=JQ signs h;rw [BI,BI] at this;exact Qsb (List.append_cancel_right this)
def sig (r:Ru) (g1 g2:Gv) (t:Str):Str:=if t∈(Qi r).map ap then gS g1 ((Qi r).getD (((Qi r).map ap).idxOf t) t) else gS g2 t
theorem Qwe {r:Ru} {g1 g2:Gv} {u:Str} (h:u∈Qi r):sig r g1 g2 (ap u)=gS g1 u:=by
 have hm:ap u∈(Qi r).map ap:=Q3.mpr ⟨u,h,rfl⟩;unfold sig;rw [Qk hm];have hj:((Qi r).map ap).idxOf (ap u) < ((Qi r).map ap).length:=Qx.mpr hm;have hj':((Qi r).map ap).idxOf (ap u) < (Qi r).length:=by simpa using hj
 have h1:=J0 hj;rw [List.getElem_map] at h1;rw [Qm,Qb hj',Option.getD_some,Qyi h1]
theorem Qek {r:Ru} {g1 g2:Gv} (hr:Dr r) (h2:Gi g2) {t:Str} (ht:Jh t=false):sig r g1 g2 t=t:=by
 unfold sig;rw [Qn,h2.fix ht];intro z;obtain ⟨v,hv,rfl⟩:=Q3.mp z;obtain ⟨o,a,ha,hta⟩:=Wx.mp hv;have:=(Qcw v ((hr.tf a ha v hta).o o)).2.2.2.2.2;rw [this] at ht;cases ht
theorem Qoc {r:Ru} {g1 g2:Gv} (hr:Dr r) (h1:Gi g1) (h2:Gi g2) {a:At} (ha:a∈QB r):mapA (sig r g1 g2) (atomF (Qi r) ((Qi r).map ap) a)=mapA (gS g1) a:=by
 unfold mapA atomF;dsimp only;rw [Qo];congr 1;refine QQ fun u hu=> ?_
 show sig r g1 g2 (subst (Qi r) ((Qi r).map ap) u)=gS g1 u
 by_cases hv:u∈Qi r
 ·have hi:(Qi r).idxOf u < (Qi r).length:=Qx.mpr hv;have h3:=Wy (ks:=Qi r) (vs:=(Qi r).map ap) (by simp) hv;rw [Q8,Qb hi,J0 hi] at h3;rw [<- Qt h3];exact Qwe hv
 ·rw [Z7 hv];have ho:Jh u=false:=by
   cases h:Jh u with
   | false=>rfl
   | true=>exact (hv (Wx.mpr ⟨h,a,ha,hu⟩)).elim
  rw [Qek hr h2 ho,h1.fix ho]
theorem Qv2 {r q:Ru} {g1 g2:Gv} (hq:Dr q) {a:At} (ha:a∈QB q):mapA (sig r g1 g2) a=mapA (gS g2) a:=Ba fun t ht=>by
 unfold sig;rw [Qn];intro z;obtain ⟨v,hv,rfl⟩:=Q3.mp z;refine (hq.tf a ha _ ht).q ?_;rw [BI];exact QG _ Q7
def grJ (r q:Ru) (p:Nat) (g1 g2:Gv):Ru:=⟨mapA (gS g1) r.h,((r.b.map (mapL (gS g1))).take p++q.b.map (mapL (gS g2)))++(r.b.map (mapL (gS g1))).drop (p+1)⟩
theorem Qod {r q:Ru} {p:Nat} {g1 g2:Gv} (hr:Dr r) (hq:Dr q) (h1:Gi g1) (h2:Gi g2):mapR (sig r g1 g2) (Jw (QS r) p q)=grJ r q p g1 g2:=by
 have eb:(QS r).b.map (mapL (sig r g1 g2))=r.b.map (mapL (gS g1)):=by
  show (r.b.map _).map _=_;rw [Qo];refine QQ fun l hl=> ?_
  show mapL (sig r g1 g2) (litF (Qi r) ((Qi r).map ap) l)=_;unfold mapL litF;dsimp only;rw [Qoc hr h1 h2 (JU hl)]
 have eq:q.b.map (mapL (sig r g1 g2))=q.b.map (mapL (gS g2)):=QQ fun l hl=>by
  unfold mapL;rw [Qv2 hq (JU hl)]
 have eh:mapA (sig r g1 g2) (QS r).h=mapA (gS g1) r.h:=Qoc hr h1 h2 Q7;unfold mapR Jw grJ;dsimp only;rw [eh,QE,QE,JL,JV,eb,eq]
theorem Qfz {σ:Str->Str}: ∀ {as bs:List Str},as.map σ=bs.map σ-> ∀ p∈as.zip bs,σ p.1=σ p.2
 | [],_,_,p,hp=>by cases hp
 | _::_,[],_,p,hp=>by cases hp
 | a::as,b::bs,h,p,hp=>by
  rw [Qp,Qp] at h;rw [Za] at hp;rcases Qd.mp hp with rfl | hp
  ·exact (List.cons.inj h).1
  ·exact Qfz (List.cons.inj h).2 p hp
theorem Quf {r q:Ru} {p:Nat} {l:Li} {g1 g2:Gv} (hr:Dr r) (hq:Dr q) (h1:Gi g1) (h2:Gi g2) (hl:l∈r.b) (he:mapA (gS g1) l.a=mapA (gS g2) q.h): ∃ c,ZD r p l q=some c/\UK c (grJ r q p g1 g2)=true:=by
 have e1:mapA (sig r g1 g2) (atomF (Qi r) ((Qi r).map ap) l.a)=mapA (sig r g1 g2) q.h:=by
  rw [Qoc hr h1 h2 (JU hl),he,Qv2 hq Q7]
 have ek:l.a.k=q.h.k:=by
  have z:=JQ RH.At.k he;exact z
 have et:(atomF (Qi r) ((Qi r).map ap) l.a).ts.map (sig r g1 g2)=q.h.ts.map (sig r g1 g2):=by
  have z:=JQ RH.At.ts e1;exact z
 have elen:(atomF (Qi r) ((Qi r).map ap) l.a).ts.length=q.h.ts.length:=by simpa using JQ List.length et
 obtain ⟨m,em,hs⟩:=Qgv (σ:=sig r g1 g2) (P:=Tm r q) (fun t _ ho=>Qek hr h2 ho) ((atomF (Qi r) ((Qi r).map ap) l.a).ts.zip q.h.ts) (n:=0) (m:=([],[])) MOk.nil (fun i k v hk=>by simp at hk) (fun p hp=>⟨Bk hr.c (JU hl) _ (Jb hp).1,Qap hq.c Q7 _ (Jb hp).2⟩) (Qfz et);have emet:Qcr r l q=some m:=by
  unfold Qcr Ot;rw [Qk ⟨ek,elen⟩];exact em
 have mo:=Qix hr.c hq.c hl emet;have hwv:(Qi (Wz m.1 (theta m) (Jw (QS r) p q))).length<=26:=by
  have:=Qeg hr.c hq.c fun a ha=>(Qia mo (Gy hr.c hq.c (p:=p)) a ha).2
  omega
 refine ⟨Jt (Wz m.1 (theta m) (Jw (QS r) p q)),by unfold ZD;rw [emet];rfl,?_⟩;have eg:mapR (Qe7 (Qi (Wz m.1 (theta m) (Jw (QS r) p q))) (sig r g1 g2)) (Jt (Wz m.1 (theta m) (Jw (QS r) p q)))=grJ r q p g1 g2:=by
  rw [Qim hwv,Qlu mo.tri.len hs,Qod hr hq h1 h2]
 rw [<- eg];refine Qqi fun a ha t ht hab=> ?_
 have hl12:t.length<=12:=by
  have ha':a∈(QB (Wz m.1 (theta m) (Jw (QS r) p q))).map (mapA (subst (Qi (Wz m.1 (theta m) (Jw (QS r) p q))) (W0 (Qi (Wz m.1 (theta m) (Jw (QS r) p q))).length))):=by
   rw [<- Uj];exact ha
  obtain ⟨b,hb,rfl⟩:=Q3.mp ha';obtain ⟨u,hu,rfl⟩:=Q3.mp ht
  by_cases hv:u∈Qi (Wz m.1 (theta m) (Jw (QS r) p q))
  ·rw [Y7 hwv hv];show 1<=12;decide
  ·rw [Z7 hv];have:=((Qia mo (Gy hr.c hq.c (p:=p)) b hb).2 u hu).1;omega
 have ho:=Qnj hl12 hab;exact Qrf hwv ho (Qek hr h2 ho)
theorem Qgl {r q c:Ru} {p:Nat} {l:Li} (h:ZD r p l q=some c):QL c=QL (Jw r p q)/\q.h.k=l.a.k:=by
 unfold ZD at h;obtain ⟨m,em,rfl⟩:=JY.mp h;refine ⟨?_,?_⟩
 ·have e1:QL (Jt (Wz m.1 (theta m) (Jw (QS r) p q)))=QL (Jw (QS r) p q):=(Qbr _ _).trans (Qbr _ _);have hL:(QS r).b.map formL=r.b.map formL:=by
   show (r.b.map _).map _=_;rw [Qo];rfl
  rw [e1];unfold QL Jw;dsimp only;rw [QE,QE,JL,JV,hL];rw [QE,QE,JL,JV];rfl
 ·unfold Qcr Ot at em;split at em
  ·rename_i hk;exact hk.1.symm
  ·cases em
theorem Qta {r q c:Ru} {p:Nat} {l:Li} (h:ZD r p l q=some c) (hp:p < r.b.length):c.b.length=r.b.length - 1+q.b.length:=by
 unfold ZD at h;obtain ⟨m,em,rfl⟩:=JY.mp h;have h3:(QS r).b.length=r.b.length:=by simp [QS,Wz]
 show (((Jw (QS r) p q).b.map _).map _).length=_;rw [Q0,Q0];show ((QS r).b.take p++q.b++(QS r).b.drop (p+1)).length=_;rw [Ql,Ql,Qj,Jr];omega
def ZC (rs:List Ru) (k:Str):List Ru:=rs.filter fun q=>decide (q.h.k=k)
theorem Qjh (r:Ru) (p:Nat) (l:Li): ∀ rs:List Ru,((byG r p l rs).map QL).Sublist ((ZC rs l.a.k).map fun q=>QL (Jw r p q))
 | []=>List.Sublist.refl _
 | q::rs=>by
  have ih:=Qjh r p l rs;unfold byG ZC at ih ⊢;rw [Wu,Qnn];cases e:ZD r p l q with
  | none =>
   dsimp only;split
   ·rw [Qp];exact ih.cons _
   ·exact ih
  | some c =>
   have h:=Qgl e;dsimp only;rw [Qk (QM h.2),Qp,Qp,h.1];exact ih.cons₂ _
theorem Qrb {r:Ru} {p:Nat} {l:Li} {rs:List Ru} {c:Ru} (h:c∈byG r p l rs): ∃ q∈rs,ZD r p l q=some c:=Zb.mp h
theorem Qmc {r q c:Ru} {p:Nat} {l:Li} (hr:RuC r) (hq:RuC q) (hl:l∈r.b) (h:ZD r p l q=some c):Jt c=c:=by
 unfold ZD at h;obtain ⟨m,em,rfl⟩:=JY.mp h;have:=(Qq9 hr hq hl em (p:=p)).v;exact Qgg (by omega)
theorem Qsv {x:Ru} (h:RuK x) (hs: ∀ a∈QB x,∀ t∈a.ts,signs t≠[]):RuK (Jt x)/\ ∀ a∈QB (Jt x),∀ t∈a.ts,signs t≠[]:=by
 have hv:=h.v;have mem: ∀ a∈QB (Jt x),∃ b∈QB x,a=mapA (subst (Qi x) (W0 (Qi x).length)) b:=fun a ha=>by
  have ha':a∈(QB x).map (mapA (subst (Qi x) (W0 (Qi x).length))):=by
   rw [<- Uj];exact ha
  obtain ⟨b,hb,e⟩:=Q3.mp ha';exact ⟨b,hb,e.symm⟩
 have trm: ∀ a∈QB (Jt x),∀ t∈a.ts,t.length<=1000/\signs t≠[]:=fun a ha t ht=>by
  obtain ⟨b,hb,rfl⟩:=mem a ha;obtain ⟨u,hu,rfl⟩:=Q3.mp ht
  by_cases hvu:u∈Qi x
  ·rw [Y7 (by omega) hvu];exact ⟨by show 1<=1000;decide,by show [_]≠[];simp⟩
  ·rw [Z7 hvu];exact ⟨h.s b hb u hu,hs b hb u hu⟩
 refine ⟨⟨?_,?_,fun a ha=> ?_,fun a ha t ht=>(trm a ha t ht).1⟩,fun a ha t ht=>(trm a ha t ht).2⟩
 ·show (x.b.map _).length<=8;rw [Q0];exact h.b
 ·rw [Qb2 (by omega),Zg];exact hv
 ·obtain ⟨b,hb,rfl⟩:=mem a ha;simp only [mapA,Q0];exact h.t b hb
theorem Qzf {r q c:Ru} {p:Nat} {l:Li} (hr:Dr r) (hq:Dr q) (hl:l∈r.b) (h:ZD r p l q=some c):RuK c/\RuI c:=by
 unfold ZD at h;obtain ⟨m,em,rfl⟩:=JY.mp h;have hk:=Qq9 hr.c hq.c hl em (p:=p);have hap: ∀ v,signs (ap v)≠[]:=fun v=>by rw [BI];simp
 have sub: ∀ a∈QB r,∀ u∈a.ts,signs (subst (Qi r) ((Qi r).map ap) u)≠[]:=fun a ha u hu=>by
  by_cases hv:u∈Qi r
  ·have h3:=Wy (ks:=Qi r) (vs:=(Qi r).map ap) (by simp) hv;obtain ⟨v,_,e⟩:=Q3.mp (Q4 h3);rw [<- e];exact hap v
  ·rw [Z7 hv];exact (hr.tf a ha u hu).ne
 have join: ∀ a∈QB (Jw (QS r) p q),∀ t∈a.ts,signs t≠[]:=fun a ha t ht=>by
  have lits: ∀ k∈(QS r).b,∀ t∈k.a.ts,signs t≠[]:=fun k hk t ht=>by
   obtain ⟨l0,hl0,rfl⟩:=Q3.mp hk;obtain ⟨u,hu,rfl⟩:=Q3.mp ht;exact sub _ (JU hl0) u hu
  rcases Qd.mp ha with rfl | ha
  ·obtain ⟨u,hu,rfl⟩:=Q3.mp ht;exact sub _ Q7 u hu
  ·obtain ⟨k,hk,rfl⟩:=Q3.mp ha;have hk':k∈(QS r).b.take p++q.b++(QS r).b.drop (p+1):=hk;rw [QH,QH] at hk';rcases hk' with (z | z) | z
   ·exact lits k (QW z) t ht
   ·exact (hq.tf _ (JU z) t ht).ne
   ·exact lits k (Qec z) t ht
 have mrun: ∀ v∈m.2,signs v≠[]:=by
  unfold Qcr Ot at em;split at em
  ·have:=MOk.run _ (n:=0) (P:=fun t=>signs t≠[]) MOk.nil (fun pp hp=>⟨by
    obtain ⟨u,hu,e⟩:=Q3.mp (Jb hp).1;rw [<- e];exact sub _ (JU hl) u hu,(hq.tf _ Q7 _ (Jb hp).2).ne⟩) em
   exact this.v
  ·cases em
 have mlen:m.1.length=m.2.length:=(Qix hr.c hq.c hl em).tri.len;have wne: ∀ a∈QB (Wz m.1 (theta m) (Jw (QS r) p q)),∀ t∈a.ts,signs t≠[]:=fun a ha t ht=>by
  rw [Y6,Uj] at ha;obtain ⟨b,hb,rfl⟩:=Q3.mp ha;obtain ⟨u,hu,rfl⟩:=Q3.mp ht;rw [UQ];exact YF (P:=fun t=>signs t≠[]) mlen mrun (join b hb u hu)
 have pk:=Qsv hk wne;exact ⟨pk.1,⟨by have:=pk.1.b;omega,pk.1.t,fun a ha t ht=>⟨pk.1.s a ha t ht,pk.2 a ha t ht⟩⟩⟩
noncomputable def Ql9 (c:Ru):List Ru->Bool
 | []=>false
 | q::_=> !decide (QL q=QL c)
abbrev Qav:Stmt:=top 58
noncomputable def Qdj (c:Ru) (L:List Ru):List Ru:=iterW (Ql9 c) List.tail L.length L
theorem O5 {c:Ru} {x:List D}: ∀ {L:List Ru},(QL c::x).Sublist (L.map QL)-> ∃ q t,Qdj c L=q::t/\QL q=QL c/\x.Sublist (t.map QL)
 | [],h=>by cases h
 | q::L,h=>by
  by_cases hq:QL q=QL c
  ·refine ⟨q,L,?_,hq,?_⟩
   ·unfold Qdj;rw [QC,iterW,Qn];show ¬ (!decide (QL q=QL c))=true;rw [QM hq];decide
   ·rw [Qp,hq] at h;exact List.Sublist.of_cons_cons h
  ·have h':(QL c::x).Sublist (L.map QL):=by
    rw [Qp] at h;rcases List.sublist_cons_iff.mp h with h | ⟨z,ez,_⟩
    ·exact h
    ·exact (hq (List.cons.inj ez).1.symm).elim
   obtain ⟨q2,t,e,h1,h2⟩:=O5 h';refine ⟨q2,t,?_,h1,h2⟩;unfold Qdj at e ⊢;rw [QC,iterW,Qk,List.tail_cons]
   ·exact e
   ·show (!decide (QL q=QL c))=true;rw [QA hq];rfl
noncomputable def W6 (cs Q:List Ru):Nat->List Ru
 | 0=>Q
 | i+1=>match cs[i]? with
  | some c=>(Qdj c (W6 cs Q i)).tail
  | none=>W6 cs Q i
theorem Qbg {cs Q:List Ru} (h:(cs.map QL).Sublist (Q.map QL)): ∀ i,((cs.drop i).map QL).Sublist ((W6 cs Q i).map QL)
 | 0=>h
 | i+1=>by
  have ih:=Qbg h i;cases e:cs[i]? with
  | none =>
   have:W6 cs Q (i+1)=W6 cs Q i:=by rw [W6,e]
   rw [this];have h1:cs.length<=i:=List.getElem?_eq_none_iff.mp e;rw [Qal (by omega)];exact List.nil_sublist _
  | some c =>
   have:W6 cs Q (i+1)=(Qdj c (W6 cs Q i)).tail:=by rw [W6,e]
   rw [this];have hi:i < cs.length:=(Q5.mp e).1;have hd:cs.drop i=c::cs.drop (i+1):=by
    rw [WP hi];congr 1;rw [Qb hi] at e;exact Qt e
   rw [hd,Qp] at ih;obtain ⟨q,t,e2,_,h2⟩:=O5 ih;rw [e2];exact h2
theorem Qdn {c:Ru}: ∀ (n:Nat) (L:List Ru) (x:Ru),x∈iterW (Ql9 c) List.tail n L->x∈L
 | 0,L,x,h=>h
 | n+1,L,x,h=>by
  rw [iterW] at h;split at h
  ·exact Qeb (Qdn n _ x h)
  ·exact h
theorem Bb {cs Q:List Ru}: ∀ i x,x∈W6 cs Q i->x∈Q
 | 0,x,h=>h
 | i+1,x,h=>by
  rw [W6] at h;split at h
  ·exact Bb i x (Qdn _ _ x (Qeb h))
  ·exact Bb i x h
theorem Qdo {c:Ru}: ∀ (n:Nat) (L:List Ru),(iterW (Ql9 c) List.tail n L).length<=L.length
 | 0,L=>Q6 _
 | n+1,L=>by
  rw [iterW];split
  ·refine Qz (Qdo n _) ?_;rw [List.length_tail];omega
  ·exact Q6 _
theorem Bc {cs Q:List Ru}: ∀ i,(W6 cs Q i).length<=Q.length
 | 0=>Q6 _
 | i+1=>by
  rw [W6];split
  ·refine Qz ?_ (Bc (cs:=cs) i);rw [List.length_tail];rename_i c _;have:=Qdo (c:=c) (W6 cs Q i).length (W6 cs Q i);unfold Qdj;omega
  ·exact Bc (cs:=cs) i
section
variable {P:Program} {w:World} {K:W.Frag} {mg:Str->Option Value} {base:Heap}
def RMay:List D->D->Prop:=fun ds d=> ∃ (rs:List Ru) (n p:Nat) (r:Ru) (l:Li),ds=[.tup (rs.map Ru.d),.int n,.int p]/\Fit rs n p r l/\(Z8 (byG r p l rs)=true \/ 16 < rs.length - 1+(byG r p l rs).length)/\d= .bl true
abbrev Qm8:List Str:=["_law_rules_here", "_law_number", "_law_place_here"]
abbrev Qzm:List Str:=["_law_rules_here", "_law_number", "_law_place_here", "_law_kind", "_law_some_here"]
theorem Qof:Vf Qzm Qm8 (Vs Qsk):=⟨rfl,rfl,rfl,by decide +kernel,rfl,by decide +kernel,by decide +kernel⟩
noncomputable def Qzv (k:Str):D->Bool
 | .tup (.tup (.str x::_)::_)=>decide (x=k)
 | _=>false
theorem Qoa (rs:List Ru) (k:Str):(ZC rs k).map Ru.d=((rs.map Ru.d).filter (Qzv k)).map id:=by
 rw [List.map_id,Qcl];rfl
theorem Qlc (r:Ru) (p:Nat) (l:Li) (rs:List Ru):(byG r p l rs).length<=(ZC rs l.a.k).length:=by
 have:=(Qjh r p l rs).length_le;simpa using this
def fullB (n:Nat):D->D
 | .tup [_,.tup b]=> .bl (decide (4 < ((b.length:Nat):Int)+(n:Int) - 1))
 | _=> .non
set_option maxHeartbeats 1000000 in
theorem Qx8 (T:Txt K mg) (F:Fd K mg "_law_may_be_full" Qsk Qm8):PrD P w K mg base "_law_may_be_full" 1 Qm8 RMay:=by
 refine Zi (N:=Qzm) F Qof (by decide) fun f cdv A outer s H E ds d hr hR _=> ?_
 obtain ⟨rs,n,p,r,l,rfl,fit,hfull,rfl⟩:=hR;have h16:=fit.lv.ok.1;have hp:p < r.b.length:=(Q5.mp fit.fl).1;have hbody: ∀ {X:Cx} {ρ:List (Option D)} {e1 e2:Expr} {q1 q2 q3:Pos} {j:Nat},PD X ρ e1 (.tup (rs.map Ru.d))->PD X ρ e2 (.int n)->PlainIx e2->PD X ρ (.Subscript (.Subscript e1 e2 q1) (.Constant (.int 1) j q2) q3) (.tup (r.b.map Li.d)):=fun h1 h2 h3 =>
  QR (da:= .tup [r.h.d,.tup (r.b.map Li.d)]) (QR (da:= .tup (rs.map Ru.d)) h1 h2 (YT fit.fr) (hs:=h3)) Vi at1
 refine Vq (m:=true) (Jf (i:=3) (d:= .str l.a.k) (QR (da:= .tup [.str l.a.k,.tup (l.a.ts.map .str)]) (QR (da:= .tup [.str (if l.y then "yes" else "no"),l.a.d]) (QR (da:= .tup (r.b.map Li.d)) (hbody (Vv 0 rfl) (Vv 1 rfl) (by intro _ _;rfl)) (Vv 2 rfl) (YT fit.fl)) Vi at1) Vi at0) Qof.nd) ?_;have hsl:(ZC rs l.a.k).length<=rs.length:=Zj _ _;have lf:LFs ((ZC rs l.a.k).map Ru.d)=true:=QU Ru.lf _;refine Vq (m:=true) (τ1:=[.arg (.tup (rs.map Ru.d)),.arg (.int n),.arg (.int p),.any (.str l.a.k),.own ((ZC rs l.a.k).map Ru.d)]) ?comp ?_
 case comp =>
  rw [Qoa] at lf ⊢;refine BY (i:=4) lf Qof.nd rfl (Yp (Vv 0 rfl)) (Vl (by rw [Q0];omega)) (fun d hd cl C s H ex=> ?_) (fun d hd hp cl C s H ex=>Vv 0 rfl);obtain ⟨q,hq,rfl⟩:=Q3.mp hd;exact Qjv (Qhu (QR (da:= .tup [.str q.h.k,.tup (q.h.ts.map .str)]) (QR (da:= .tup [q.h.d,.tup (q.b.map Li.d)]) (Vv 0 rfl) Vi at0) Vi at0) (Vv 4 rfl))
 have e16:decide ((16:Int) < (((rs.map Ru.d).length:Nat):Int) - 1+(((ZC rs l.a.k).map Ru.d).length:Nat))=decide (16 < rs.length - 1+(ZC rs l.a.k).length):=by
  rw [Q0,Q0,Jc,QD,QD];have:0 < rs.length:=by have:=(Q5.mp fit.fr).1;omega
  omega
 by_cases hg:16 < rs.length - 1+(ZC rs l.a.k).length
 ·refine Gb (JT (k:=true) ?_ (fun _=>Vz (Jv OV)) (fun h=>nomatch h));rw [<- QM hg,<- e16];exact Qht (Wi (Qdy (Wb T.bLen (Vv 0 rfl) rfl (fun y e=>nomatch e)) Vi) (Wb T.bLen (Vv 4 rfl) rfl (fun y e=>nomatch e))) Vi
 ·refine Vq (m:=true) (JT (k:=false) (by rw [<- QA hg,<- e16];exact Qht (Wi (Qdy (Wb T.bLen (Vv 0 rfl) rfl (fun y e=>nomatch e)) Vi) (Wb T.bLen (Vv 4 rfl) rfl (fun y e=>nomatch e))) Vi) (fun h=>nomatch h) (fun _=>JS)) ?_;have hmany:Z8 (byG r p l rs)=true:=by
   rcases hfull with h | h
   ·exact h
   ·have:=Qlc r p l rs;omega
  have eany:((ZC rs l.a.k).map fun q=>decide (4 < ((q.b.length:Nat):Int)+((r.b.length:Nat):Int) - 1)).any id=true:=by
   unfold Z8 at hmany;rw [Qno] at hmany ⊢;obtain ⟨c,hc,h4⟩:=hmany;obtain ⟨q,hq,e⟩:=Qrb hc;have hl:=Qta e hp;refine ⟨true,Q3.mpr ⟨q,Wp.mpr ⟨hq,QM (Qgl e).2⟩,?_⟩,rfl⟩;rw [QD] at h4 ⊢;omega
  refine Vz (Jv ?_);rw [<- eany];refine Qr1 rfl T.bAny (PDL.pd ?_);have ed:((ZC rs l.a.k).map fun q=>decide (4 < ((q.b.length:Nat):Int)+((r.b.length:Nat):Int) - 1)).map D.bl=((ZC rs l.a.k).map Ru.d).map (fullB r.b.length):=by
   rw [Qo,Qo];refine QQ fun q _=> ?_
   simp [QK,fullB,Ru.d]
  rw [ed];refine Z6 (f:=fullB r.b.length) rfl (YH (Vv 4 rfl)) (Vl (by rw [Q0];omega)) fun d hd cl C s H ex=> ?_
  obtain ⟨q,hq,rfl⟩:=Q3.mp hd;have e3:fullB r.b.length q.d= .bl (decide (4 < (((q.b.map Li.d).length:Nat):Int)+(((r.b.map Li.d).length:Nat):Int) - 1)):=by
   simp [fullB,Ru.d]
  rw [e3];exact Qur (Qdy (Wi (Wb T.bLen (QR (da:= .tup [q.h.d,.tup (q.b.map Li.d)]) (Vv 0 rfl) Vi at1) rfl (fun y e=>nomatch e)) (Wb T.bLen (hbody (Vv 1 rfl) (Vv 2 rfl) (by intro _ _;rfl)) rfl (fun y e=>nomatch e))) Vi) Vi
def ROrder:List D->D->Prop:=fun ds d=> ∃ (cs Q:List Ru),ds=[.tup (cs.map Ru.d),.lst (Q.map QL)]/\(cs.map QL).Sublist (Q.map QL)/\(∀ c∈cs,Jt c=c/\RuK c)/\(∀ q∈Q,q.b.length<=100)/\Q.length<=100/\d= .bl true
abbrev BV:List Str:=["_law_between", "_law_forms"]
abbrev Qpy:List Str:=["_law_between", "_law_forms", "_law_left", "_law_rule_here"]
theorem Bm:Vf Qpy BV (Vs Qav):=⟨rfl,rfl,rfl,by decide +kernel,rfl,by decide +kernel,by decide +kernel⟩
def slO (cs Q L:List Ru) (x:Sl):List Sl:=[.arg (.tup (cs.map Ru.d)),.arg (.lst (Q.map QL)),.any (.lst (L.map QL)),x]
set_option maxHeartbeats 1000000 in
theorem Qpd (T:Txt K mg) (F:Fd K mg "_law_in_order" Qav BV) (G1:PrD P w K mg base "_law_form" 1 ["_law_rule_here"] RForm) (G2:PrD P w K mg base "plain" 3 ["rule"] RPlain):PrD P w K mg base "_law_in_order" 4 BV ROrder:=by
 refine Zi (N:=Qpy) F Bm (by decide) fun f cdv A outer s H E ds d hr hR _=> ?_
 obtain ⟨cs,Q,rfl,hsub,hpl,hQb,hQl,rfl⟩:=hR;have hun:=hr.units;have hu20:(A.deeper (PyProof.Rows.envOfC "_law_in_order" (Vs Qav) s.heap.objs.size f cdv)).units+20 < cLine:=by omega
 refine Vq (m:=true) (Jf (i:=2) (d:= .lst (Q.map QL)) (PDL.pd (Qn5 T.bLst (Vv 1 rfl) (.inl rfl))) Bm.nd) ?_;show QOs _ _ (slO cs Q (W6 cs Q 0) .no) _ _;refine Vq (m:=true) (τ1:=slO cs Q (W6 cs Q (cs.map Ru.d).length) .no) ?loop (Vz (Jv OV));refine Zc (ds:=cs.map Ru.d) (m:=true) (put:=fun τ d=>τ.set 3 (.any d)) (fun i=>slO cs Q (W6 cs Q i) .no) Qw rfl (UX (Vv 0 rfl).pe) (Ja (i:=3) Bm.nd rfl (QI rfl)) put1 (Qf0 (QU Ru.lf _)) rfl (fun i d hi=>⟨true,?_,id⟩);obtain ⟨c,hci,rfl⟩:=Zr hi;obtain ⟨hcp,hck⟩:=hpl c (Q4 hci);have hcb:=hck.b;have hil:i < cs.length:=(Q5.mp hci).1;have hs:=Qbg hsub i;have hd:cs.drop i=c::cs.drop (i+1):=by
  rw [WP hil];congr 1;rw [Qb hil] at hci;exact Qt hci
 rw [hd,Qp] at hs;obtain ⟨q,t,ew,hqf,_⟩:=O5 hs;have en:W6 cs Q (i+1)=t:=by rw [W6,hci];simp only;rw [ew];rfl
 rw [en];have hmem: ∀ x∈W6 cs Q i,x.b.length<=100:=fun x hx=>hQb x (Bb i x hx)
 have hlen:(W6 cs Q i).length<=100:=Qz (Bc i) hQl;generalize W6 cs Q i=L at ew hmem hlen;show QOs _ _ (slO cs Q L (.any c.d)) _ _;refine WG (m:=true) (τ1:=slO cs Q t (.any c.d)) ?_ (WkI.wk (.keep (.keep (.keep (.no .nil))))) id;refine Wa (τ1:=slO cs Q (q::t) (.any c.d)) ?wh ?_
 case wh =>
  rw [<- ew];refine Qab (m:=true) (fun L=>slO cs Q L (.any c.d)) (fun L=> ∀ x∈L,x.b.length<=100) (fun L=>L.length) (Ql9 c) List.tail Qw (fun L hL=> ?_) (fun L hL hc=>⟨true,?_,id⟩) (fun L hL hc=>⟨fun x hx=>hL x (Qeb hx),?_⟩) L hmem
  ·cases L with
   | nil=>exact Y3 (WE (k:=false) (k2:=false) (Gp (ds:=[]) (Vv 2 rfl)) (fun h=>nomatch h))
   | cons x L' =>
    have fx:=Bz x;have fc:=Bz c;refine Y3 (WE (k:=true) (k2:= !decide (QL x=QL c)) (Gp (ds:=(x::L').map QL) (Vv 2 rfl)) (fun _=>Ze ?_));have e:decide ([D.str x.h.k,.tup (x.b.map formL)]=[D.str c.h.k,.tup (c.b.map formL)])=decide (QL x=QL c):=by
     rw [Jc,QD,QD];exact Qkz.symm
    rw [<- e];refine Qrg (us:=[.str x.h.k,.tup (x.b.map formL)]) (vs:=[.str c.h.k,.tup (c.b.map formL)]) (QR (da:= .lst ((x::L').map QL)) (Vv 2 rfl) Vi at0) (Jy G1 (hr.mono (by decide)) (Vc (Vv 3 rfl) Vn) ⟨c,rfl,by omega,rfl⟩) (By x) (By c) ?_;have h3:dep (.tup [.str x.h.k,.tup (x.b.map formL)])<=4:=fx;have h4:dep (.tup [.str c.h.k,.tup (c.b.map formL)])<=4:=fc;refine QZ ?_ hu20;show _+_+_<=_+20;have: ∀ u a b:Nat,a<=4->b<=4->u+a+b<=u+20:=fun u a b ha hb=>by omega
    exact this _ _ _ h3 h4
  ·cases L with
   | nil=>cases hc
   | cons x L' =>
    have ex:WZ ((x::L').map QL) (some 1) none=L'.map QL:=Z9 ((x::L').map QL) 1;show QOs _ _ _ _ (.next true ((slO cs Q (x::L') (.any c.d)).set 2 (.any (.lst (L'.map QL)))));rw [<- ex];exact Vz (Jf (i:=2) (PDL.pd (BF (Vv 2 rfl) (JW Vi) Wv)) Bm.nd)
  ·cases L with
   | nil=>cases hc
   | cons x L'=>simp
 refine Wa (JT (k:=false) ?_ (fun h=>nomatch h) (fun _=>JS)) ?_
 ·refine Y3 (Qhq (k:=false) (B0 (k:=true) (Gp (ds:=(q::t).map QL) (Vv 2 rfl))) (fun _=>Qhp ?_) (fun h=>nomatch h));have rd:=Qol c;have hk:keyOks [c.h.d,.tup (c.b.map Li.d)]=true:=by
   have:=Qok c;simpa [Ru.d,keyOk] using this
  refine Qrh (us:=[c.h.d,.tup (c.b.map Li.d)]) (Jy G2 hr (Vc (Vv 3 rfl) Vn) ⟨c,rfl,hck,by rw [hcp];rfl⟩) (Vv 3 rfl) hk ?_;have h5:dep c.d=1+deps [c.h.d,.tup (c.b.map Li.d)]:=by simp [Ru.d,dep]
  refine QZ ?_ hu20;have: ∀ u a:Nat,a<=6->u+2+a+a<=u+20:=fun u a ha=>by omega
  exact this _ _ (by omega)
 ·have ex:WZ ((q::t).map QL) (some 1) none=t.map QL:=Z9 ((q::t).map QL) 1;show QOs _ _ _ _ (.next true ((slO cs Q (q::t) (.any c.d)).set 2 (.any (.lst (t.map QL)))));rw [<- ex];exact Vz (Jf (i:=2) (PDL.pd (BF (Vv 2 rfl) (JW Vi) Wv)) Bm.nd)
end
end K27
namespace L2
open PySem
theorem EnvO.clear {K:W.Frag} {H₀ H:Hp} {σ:St} {τ:List Sl} {i:Nat} (h:EnvO K H₀ H σ τ) (hi:τ[i]? =some .no):EnvO K H₀ H (σ.set i none) τ:=by
 have ne: ∀ (j:Nat) (s:Sl),τ[j]? =some s->s≠ .no->(σ.set i none)[j]? =σ[j]? :=fun j s e hs=>by
  refine Qc fun z=>hs ?_
  subst z;rw [hi] at e;exact (Qt e).symm
 have lt:i < σ.length:=by rw [h.len];exact (Q5.mp hi).1
 refine ⟨h.same,by simp [h.len],fun j s e=> ?_,fun j k ds es p hjk e1 e2 e3 e4=> ?_,fun j k ks ks' ds es p hjk e1 e2 e3 e4=> ?_⟩
 ·by_cases hj:i=j
  ·subst hj;rw [hi] at e;cases e;exact ⟨none,Qu lt,trivial⟩
  ·obtain ⟨o,e1,e2⟩:=h.sl j s e;exact ⟨o,by rw [Qc hj];exact e1,e2⟩
 ·rw [ne j _ e1 (by intro z;cases z)] at e3;rw [ne k _ e2 (by intro z;cases z)] at e4;exact h.apart j k ds es p hjk e1 e2 e3 e4
 ·rw [ne j _ e1 (by intro z;cases z)] at e3;rw [ne k _ e2 (by intro z;cases z)] at e4;exact h.apD j k ks ks' ds es p hjk e1 e2 e3 e4
theorem cleared {σ:St} {i j:Nat} {v:V} (e:(σ.set i none)[j]? =some (some v)):i≠j/\σ[j]? =some (some v):=by
 by_cases hj:i=j
 ·subst hj
  by_cases lt:i < σ.length
  ·rw [Qu lt] at e;cases Qt e
  ·rw [JJ (by simp;omega)] at e;cases e
 ·rw [Qc hj] at e;exact ⟨hj,e⟩
theorem Qkl {X:Cx} {H₀:Hp} {τ τ':List Sl} {st:Stmt} {m:Bool} (i:Nat) (y:Str) (h:QO { X with N:=X.N.set i y } H₀ τ st (.next m τ')) (hi:τ[i]? =some .no:=by rfl) (hi':τ'[i]? =some .no:=by rfl):QO X H₀ τ st (.next m τ'):=by
 refine ⟨fun pins s σ H D I q=> ?_⟩;have I0:Inv { X with N:=X.N.set i y } pins (σ.set i none) H s:=I.named (by simp [I.len]) fun j x v e1 e2=>by
  obtain ⟨hj,e2⟩:=cleared e2;rw [Qc hj] at e1;exact ⟨j,e1,e2⟩
 refine thn (h.pe pins s (σ.set i none) H ⟨fun σ' H'=>Rl m H H'/\EnvO X.K H₀ H' σ' τ',fun _ _=>False,fun _ _=>False,fun _ _=>False⟩ I0 ⟨q.1.clear hi,fun σ' H' rl ev=>⟨rl,ev⟩⟩) fun f s' hf=> ?_
 cases f with
 | next =>
  obtain ⟨σ',H',J,rl,ev⟩:=hf;refine ⟨σ'.set i none,H',?_,q.2 _ _ rl (ev.clear hi')⟩;exact J.named (N':=X.N) (by have:=J.len;simp at this ⊢; exact this) fun j x v e1 e2=>by
   obtain ⟨hj,e2⟩:=cleared e2;exact ⟨j,by show (X.N.set i y)[j]? =_;rw [Qc hj];exact e1,e2⟩
 | brk=>obtain ⟨_,_,_,z⟩:=hf;exact z.elim
 | cont=>obtain ⟨_,_,_,z⟩:=hf;exact z.elim
 | ret u=>obtain ⟨_,_,_,_,_,z⟩:=hf;exact z.elim
end L2
namespace K27
open PySem L2 RH
abbrev Qgc:Stmt:=top 60
def YM:List D->List Str
 | .str x::r=>x::YM r
 | _::r=>YM r
 | []=>[]
theorem Uo: ∀ l:List Str,YM (l.map .str)=l
 | []=>rfl
 | x::r=>by show x::YM (r.map .str)=_;rw [Uo r]
def Qnh:D->At
 | .tup [.str k,.tup ts]=>⟨k,YM ts⟩
 | _=>⟨"",[]⟩
theorem Qch (a:At):Qnh a.d=a:=by
 show RH.At.mk a.k (YM (a.ts.map .str))=a;rw [Uo]
def Qu3:D->Li
 | .tup [.str s,a]=>⟨decide (s= "yes"),Qnh a⟩
 | _=>⟨true,⟨"",[]⟩⟩
theorem Qzj:decide (("no" :Str)= "yes")=false:=by decide +kernel
theorem Qxn (l:Li):Qu3 l.d=l:=by
 obtain ⟨y,a⟩:=l;cases y with
 | true=>show Li.mk (decide (("yes" :Str)= "yes")) (Qnh a.d)=_;rw [Qch];simp
 | false=>show Li.mk (decide (("no" :Str)= "yes")) (Qnh a.d)=_;rw [Qch,Qzj]
def Qz0:D->Ru
 | .tup [h,.tup ls]=>⟨Qnh h,ls.map Qu3⟩
 | _=>⟨⟨"",[]⟩,[]⟩
theorem Qom (r:Ru):Qz0 r.d=r:=by
 show Ru.mk (Qnh r.h.d) ((r.b.map Li.d).map Qu3)=r;rw [Qch,Qo];have:r.b.map (Qu3 ∘ Li.d)=r.b:=(QQ fun l _=>Qxn l).trans (List.map_id' _);rw [this]
def gOf:D->Gv
 | .dct _ ks vs=>(YM ks,YM vs)
 | _=>([],[])
theorem Qvk (g:Gv):gOf (V.gD g)=g:=by
 show (YM (g.1.map .str),YM (g.2.map .str))=g;rw [Uo,Uo]
theorem Qrm {acc:List Str} {t x:Str} (h:t∈V.YU acc x):t∈acc \/ (t=x/\V.Qfr x=true):=by
 unfold V.YU at h;split at h
 ·rename_i hc;rcases QH.mp h with z | z
  ·exact .inl z
  ·exact .inr ⟨Qs.mp z,hc.1⟩
 ·exact .inl h
theorem Quw {acc:List Str} {x:Str} (h:acc.Nodup):(V.YU acc x).Nodup:=by
 unfold V.YU;split
 ·rename_i hc;rw [Wj];exact ⟨h,by simp,fun a ha b hb=>by rw [Qs.mp hb];exact fun e=>hc.2 (e ▸ ha)⟩
 ·exact h
theorem Qh9: ∀ (ts acc:List Str),acc.Nodup->(ts.foldl V.YU acc).Nodup/\ ∀ t∈ts.foldl V.YU acc,t∈acc \/ (V.Qfr t=true/\t∈ts)
 | [],acc,h=>⟨h,fun t ht=> .inl ht⟩
 | x::ts,acc,h=>by
  obtain ⟨h1,h2⟩:=Qh9 ts (V.YU acc x) (Quw h);refine ⟨h1,fun t ht=> ?_⟩;rcases h2 t ht with z | ⟨z1,z2⟩
  ·rcases Qrm z with z | ⟨rfl,z⟩
   ·exact .inl z
   ·exact .inr ⟨z,Q7⟩
  ·exact .inr ⟨z1,Q9 _ z2⟩
theorem Qha: ∀ (as:List At) (acc:List Str),acc.Nodup->(as.foldl V.Ye acc).Nodup/\ ∀ t∈as.foldl V.Ye acc,t∈acc \/ (V.Qfr t=true/\ ∃ a∈as,t∈a.ts)
 | [],acc,h=>⟨h,fun t ht=> .inl ht⟩
 | x::as,acc,h=>by
  obtain ⟨h0,h00⟩:=Qh9 x.ts acc h;obtain ⟨h1,h2⟩:=Qha as (V.Ye acc x) h0;refine ⟨h1,fun t ht=> ?_⟩;rcases h2 t ht with z | ⟨z1,a,ha,z2⟩
  ·rcases h00 t z with z | ⟨z1,z2⟩
   ·exact .inl z
   ·exact .inr ⟨z1,x,Q7,z2⟩
  ·exact .inr ⟨z1,a,Q9 _ ha,z2⟩
theorem vvars {r:Ru} (h:Dr r):(V.Qi r).length<=3/\ ∀ t∈V.Qi r,Jh t=true:=by
 obtain ⟨h1,h2⟩:=Qha (QB r) [] Wc;have mem: ∀ t∈V.Qi r,Jh t=true/\t∈XYZ:=fun t ht=>by
  rcases h2 t ht with z | ⟨z1,a,ha,z2⟩
  ·cases z
  ·have f:=h.tf a ha t z2;have ho:Jh t=true:=by rw [<- f.c];exact z1
   exact ⟨ho,f.o ho⟩
 refine ⟨?_,fun t ht=>(mem t ht).1⟩;have:=Y8 h1 (m:=XYZ) fun t ht=>(mem t ht).2
 rw [Qjr] at this;exact this
theorem Qh8 {S:Str->Prop} {ws:List Str}: ∀ (vs:List Str) (gs:List Gv),(∀ g∈gs,∀ k∈g.1,S k)->(∀ v∈vs,S v)-> ∀ g∈vs.foldl (V.Zk ws) gs,∀ k∈g.1,S k
 | [],gs,h,_,g,hg,k,hk=>h g hg k hk
 | v::vs,gs,h,hv,g,hg,k,hk=>by
  refine Qh8 vs (V.Zk ws gs v) (fun g1 hg1 k1 hk1=> ?_) (fun u hu=>hv u (Q9 _ hu)) g hg k hk;obtain ⟨g0,h0,h1⟩:=JR.mp hg1;obtain ⟨w,_,rfl⟩:=Q3.mp h1;rcases GE.mp hk1 with z | z
  ·exact h g0 h0 k1 z
  ·rw [z];exact hv v Q7
theorem Bw {r:Ru} (h:Dr r) {ws:List Str}: ∀ g∈V.givens (V.Qi r) ws,Gi g:=fun g hg=>by
 have h1:=V.Qaa (vars:=V.Qi r) (words:=ws) (V.Qi r).length g (by rw [QF];exact hg);exact ⟨h1.1,Qh8 (S:=fun k=>Jh k=true) (V.Qi r) [([],[])] (fun g hg k hk=>by
  have:g=([],[]):=by simpa using hg
  subst this;cases hk) (vvars h).2 g hg⟩
theorem Qdu {r:Ru} (h:Dr r) {ws:List Str} (hw:ws.length<=40):(V.givens (V.Qi r) ws).length<=64000:=by
 have h1:=V.UY (vars:=V.Qi r) hw (V.Qi r).length;rw [QF] at h1;refine Qz h1 ?_;have:=(vvars h).1;exact Qz (Qea (by decide) this) (by decide)
theorem Dr.rt {r:Ru} (h:Dr r):V.RuT r:=⟨h.b,fun a ha=>⟨h.t a ha,fun t ht=>⟨(h.tf a ha t ht).l8,(h.tf a ha t ht).ne⟩⟩⟩
theorem Qyg {a b:At} (h:[D.str a.k,.tup (a.ts.map .str)]=[D.str b.k,.tup (b.ts.map .str)]):a=b:=by
 have:a.d=b.d:=by unfold At.d;rw [h]
 rw [<- Qch a,<- Qch b,this]
theorem Qzy (r q:Ru) (p:Nat) (g1 g2:Gv) (hp:p < r.b.length):(grJ r q p g1 g2).d= .tup [(gRu g1 r).h.d,.tup ((WZ ((gRu g1 r).b.map Li.d) none (some (p:Int))++(gRu g2 q).b.map Li.d)++WZ ((gRu g1 r).b.map Li.d) (some ((p:Int)+1)) none)]:=by
 have hl:(gRu g1 r).b.length=r.b.length:=by simp [gRu,mapR]
 have e2:((p:Int)+1)=((p+1:Nat):Int):=by omega
 rw [e2,WK _ _ (by rw [Q0];omega),Z9];simp [grJ,Ru.d,gRu,mapR,JL,JV]
noncomputable def Qdt (g:Ru) (d:D):D:= .bl (UK (Qz0 d) g)
section
variable {P:Program} {w:World} {K:W.Frag} {mg:Str->Option Value} {base:Heap}
def RAllT:List D->D->Prop:=fun ds d=> ∃ (ns:List Int) (r q:Ru) (p:Nat) (l:Li) (cs rs:List Ru),ds=[scr ns,r.d,.int p,q.d,.tup (cs.map Ru.d)]/\ns.length<=63/\Dr r/\Dr q/\r.b[p]? =some l/\cs.length<=16/\(∀ c∈cs,RuI c)/\q∈rs/\cs=byG r p l rs/\d= .bl true
abbrev Qdc:List Str:=["_law_script", "_law_rule_here", "_law_place_here", "_law_other", "_law_between"]
abbrev Qq5:List Str:=["_law_script", "_law_rule_here", "_law_place_here", "_law_other", "_law_between", "_law_words_here", "_law_ones", "_law_given_here", "_law_two", "_law_one", "_law_ground_here"]
theorem BR:Vf Qq5 Qdc (Vs Qgc):=⟨rfl,rfl,rfl,by decide +kernel,rfl,by decide +kernel,by decide +kernel⟩
theorem nd7:(Qq5.set 7 "_").Nodup:=by decide +kernel
def slT (ns:List Int) (r q:Ru) (p:Nat) (cs:List Ru) (ws:List Str) (ones:List Ru) (x7 x8 x9 x10:Sl):List Sl:=[.arg (scr ns),.arg r.d,.arg (.int p),.arg q.d,.arg (.tup (cs.map Ru.d)),.any (.lst (ws.map .str)),.own (ones.map Ru.d),x7,x8,x9,x10]
def grD (r:Ru) (d:D):D:=(gRu (gOf d) r).d
set_option maxHeartbeats 2000000 in
theorem Qtp (T:Txt K mg) (F:Fd K mg "_law_all_there" Qgc Qdc) (GW:PrL P w K mg base "_law_words" 3 ["_law_script"] (RNs words)) (GV:PrL P w K mg base "_law_variables" 1 ["_law_rule_here"] V.RVars) (GG:PrD P w K mg base "_law_given" 1 V.BX V.RGiven) (GR:PrD P w K mg base "_law_ground" 2 YD RGround) (GI:PrD P w K mg base "_law_is_instance" 2 Qda RInst) :
  PrD P w K mg base "_law_all_there" 4 Qdc RAllT:=by
 refine Zi (N:=Qq5) F BR (by decide) fun f cdv A outer s H E ds d hr hR _=> ?_
 obtain ⟨ns,r,q,p,l,cs,rs,rfl,hns,dr,dq,hl,hcl,hci,hqr,hcs,rfl⟩:=hR;have hrb:=dr.b;have hqb:=dq.b;have hp:p < r.b.length:=(Q5.mp hl).1;have hlm:=Q4 hl;have hun:=hr.units;have hu20:(A.deeper (PyProof.Rows.envOfC "_law_all_there" (Vs Qgc) s.heap.objs.size f cdv)).units+20 < cLine:=by omega
 obtain ⟨ws,ews,hwl⟩: ∃ ws:List Str,WZ ((words ns).map D.str) none (some 3)=ws.map .str/\ws.length<=40:=by
  refine ⟨(words ns).take 3,?_,by rw [Qj];omega⟩;have h3:3<=(words ns).length:=by rcases Y5 ns with h | h<;>omega
  have:=WK ((words ns).map D.str) 3 (by rw [Q0];exact h3);rw [JL];exact this
 refine Vq (m:=true) (Jf (i:=5) (d:= .lst (ws.map .str)) (by rw [<- ews];exact PDL.pd (BF (PDL.pd (ZS GW hr (Vc (Vv 0 rfl) Vn) ⟨ns,rfl,hns,rfl⟩)) Wv (JW Vi))) BR.nd) ?_;have hg1l:=Qdu dr hwl;have hg2l:=Qdu dq hwl;generalize hones:(V.givens (V.Qi r) ws).map (fun g=>gRu g r)=ones;have lfo:LFs (ones.map Ru.d)=true:=QU Ru.lf _;have eo:ones.map Ru.d=((V.givens (V.Qi r) ws).map V.gD).map (grD r):=by
  rw [<- hones,Qo,Qo];refine QQ fun g _=> ?_
  show (gRu g r).d=grD r (V.gD g);unfold grD;rw [Qvk]
 have gr1: ∀ g∈V.givens (V.Qi r) ws,RGround [r.d,V.gD g] (gRu g r).d:=fun g hg=>⟨r,g,rfl,(Bw dr g hg).len,by omega,dr.t,rfl⟩
 have gr2: ∀ g∈V.givens (V.Qi q) ws,RGround [q.d,V.gD g] (gRu g q).d:=fun g hg=>⟨q,g,rfl,(Bw dq g hg).len,by omega,dq.t,rfl⟩
 refine Vq (m:=true) (τ1:=slT ns r q p cs ws ones .no .no .no .no) (Qkl 7 "_" ?ones) ?_
 case ones =>
  show QO _ _ _ _ (.next true ([.arg (scr ns),.arg r.d,.arg (.int p),.arg q.d,.arg (.tup (cs.map Ru.d)),.any (.lst (ws.map .str)),.own (ones.map Ru.d),.no,.no,.no,.no]));rw [eo] at lfo ⊢;refine Qbc (i:=6) (f:=grD r) lfo nd7 rfl (YH (Jy GG (hr.mono (by decide)) (Vc (PDL.pd (ZS GV (hr.mono (by decide)) (Vc (Vv 1 rfl) Vn) ⟨r,rfl,dr.rt,rfl⟩)) (Vc (Vv 5 rfl) Vn)) ⟨V.Qi r,ws,rfl,(vvars dr).1,hwl,rfl⟩)) (Vl (by rw [Q0];omega)) fun d hd cl C s H ex=> ?_
  obtain ⟨g,hg,rfl⟩:=Q3.mp hd;have e:grD r (V.gD g)=(gRu g r).d:=by unfold grD;rw [Qvk]
  rw [e];exact Jy GR (hr.mono (by decide)) (Vc (Vv 2 rfl) (Vc (Vv 0 rfl) Vn)) (gr1 g hg)
 refine Vq (m:=true) (τ1:=slT ns r q p cs ws ones .no .no .no .no) ?loop (Vz (Jv OV));refine Qva (j:=7) (ds:=(V.givens (V.Qi q) ws).map V.gD) (fun _=>slT ns r q p cs ws ones .no .no .no .no) Qw rfl (YH (Jy GG (hr.mono (by decide)) (Vc (PDL.pd (ZS GV (hr.mono (by decide)) (Vc (Vv 3 rfl) Vn) ⟨q,rfl,dq.rt,rfl⟩)) (Vc (Vv 5 rfl) Vn)) ⟨V.Qi q,ws,rfl,(vvars dq).1,hwl,rfl⟩)) rfl (fun i d hi=> ?_) BR.nd;obtain ⟨g2,hg2i,rfl⟩:=V.UD hi;have hg2:=Q4 hg2i;have gi2:=Bw dq g2 hg2;show QOs _ _ (slT ns r q p cs ws ones (.any (V.gD g2)) .no .no .no) _ _;refine WG (m:=true) (τ1:=slT ns r q p cs ws ones (.any (V.gD g2)) (.any (gRu g2 q).d) .no .no) ?_ (WkI.wk (.keep (.keep (.keep (.keep (.keep (.keep (.keep (.no (.no (.keep (.keep .nil)))))))))))) id;refine Wa (Jf (i:=8) (d:=(gRu g2 q).d) (Jy GR (hr.mono (by decide)) (Vc (Vv 3 rfl) (Vc (Vv 7 rfl) Vn)) (gr2 g2 hg2)) BR.nd) ?_;show QOs _ _ (slT ns r q p cs ws ones (.any (V.gD g2)) (.any (gRu g2 q).d) .no .no) _ _;refine Vz (Qva (j:=9) (ds:=ones.map Ru.d) (fun _=>slT ns r q p cs ws ones (.any (V.gD g2)) (.any (gRu g2 q).d) .no .no) Qw rfl (YH (Vv 6 rfl)) rfl (fun i d hi=> ?_) BR.nd);obtain ⟨o1,ho1,rfl⟩:=V.UD hi;obtain ⟨g1,hg1,rfl⟩: ∃ g1∈V.givens (V.Qi r) ws,gRu g1 r=o1:=by
  have:=Q4 ho1;rw [<- hones] at this;exact Q3.mp this
 have gi1:=Bw dr g1 hg1;show QOs _ _ (slT ns r q p cs ws ones (.any (V.gD g2)) (.any (gRu g2 q).d) (.any (gRu g1 r).d) .no) _ _;have hl1:(gRu g1 r).b[p]? =some (mapL (gS g1) l):=by
  show (r.b.map _)[p]? =_;rw [Q8,hl];rfl
 have hb1:(gRu g1 r).b.length=r.b.length:=by simp [gRu,mapR]
 have hb2:(gRu g2 q).b.length=q.b.length:=by simp [gRu,mapR]
 have dA:=Qfv (mapA (gS g1) l.a);have dB:=Qfv (mapA (gS g2) q.h);have kA: ∀ a:At,keyOks [.str a.k,.tup (a.ts.map .str)]=true:=fun a=>by
  have:=Qjk a;simpa [At.d,keyOk] using this
 refine WG (m:=true) (τ1:=slT ns r q p cs ws ones (.any (V.gD g2)) (.any (gRu g2 q).d) (.any (gRu g1 r).d) .no) ?_ (WkI.wk (.keep (.keep (.keep (.keep (.keep (.keep (.keep (.keep (.keep (.no (.keep .nil)))))))))))) id;refine Vz (JT (k:=decide ([D.str (mapA (gS g1) l.a).k,.tup ((mapA (gS g1) l.a).ts.map .str)]=[D.str (mapA (gS g2) q.h).k,.tup ((mapA (gS g2) q.h).ts.map .str)])) (Jaa (QR (da:= .tup [.str (if (mapL (gS g1) l).y then "yes" else "no"),(mapL (gS g1) l).a.d]) (d:=(mapA (gS g1) l.a).d) (QR (da:= .tup ((gRu g1 r).b.map Li.d)) (QR (da:= .tup [(gRu g1 r).h.d,.tup ((gRu g1 r).b.map Li.d)]) (Vv 9 rfl) Vi at1) (Vv 2 rfl) (YT hl1)) Vi at1) (QR (da:= .tup [(gRu g2 q).h.d,.tup ((gRu g2 q).b.map Li.d)]) (d:=(mapA (gS g2) q.h).d) (Vv 8 rfl) Vi at0) (kA _) (kA _) ?hu) (fun h=> ?_) (fun _=>JS))
 case hu =>
  have h3:dep (.tup [D.str (mapA (gS g1) l.a).k,.tup ((mapA (gS g1) l.a).ts.map .str)])<=3:=dA;have h4:dep (.tup [D.str (mapA (gS g2) q.h).k,.tup ((mapA (gS g2) q.h).ts.map .str)])<=3:=dB;refine QZ ?_ hu20;have: ∀ u a b:Nat,a<=3->b<=3->u+a+b<=u+20:=fun u a b ha hb=>by omega
  exact this _ _ _ h3 h4
 have heq:mapA (gS g1) l.a=mapA (gS g2) q.h:=Qyg (Jx h);obtain ⟨c,hc1,hc2⟩:=Quf (p:=p) dr dq gi1 gi2 hlm heq;have hcm:c∈cs:=by
  rw [hcs];exact Zb.mpr ⟨q,hqr,hc1⟩
 refine WG (m:=true) (τ1:=slT ns r q p cs ws ones (.any (V.gD g2)) (.any (gRu g2 q).d) (.any (gRu g1 r).d) (.any (grJ r q p g1 g2).d)) ?_ (WkI.wk (.keep (.keep (.keep (.keep (.keep (.keep (.keep (.keep (.keep (.keep (.no .nil)))))))))))) id;refine Wa (Jf (i:=10) (d:=(grJ r q p g1 g2).d) ?gval BR.nd) ?_
 case gval =>
  rw [Qzy r q p g1 g2 hp];refine Vp (Vc (QR (da:= .tup [(gRu g1 r).h.d,.tup ((gRu g1 r).b.map Li.d)]) (Vv 9 rfl) Vi at0) (Vc (UH (UH (WC (QR (da:= .tup [(gRu g1 r).h.d,.tup ((gRu g1 r).b.map Li.d)]) (Vv 9 rfl) Vi at1) Wv (JW (Vv 2 rfl))) (QR (da:= .tup [(gRu g2 q).h.d,.tup ((gRu g2 q).b.map Li.d)]) (Vv 8 rfl) Vi at1) (Vl ?z1)) (WC (QR (da:= .tup [(gRu g1 r).h.d,.tup ((gRu g1 r).b.map Li.d)]) (Vv 9 rfl) Vi at1) (JW (Wi (Vv 2 rfl) Vi)) Wv) (Vl ?z2)) Vn)) (Vl (by simp))
  case z1 =>
   rw [WK _ _ (by rw [Q0];omega)]
   simp
   omega
  case z2 =>
   have e2:((p:Int)+1)=((p+1:Nat):Int):=by omega
   rw [e2,WK _ _ (by rw [Q0];omega),Z9]
   simp
   omega
 have hgb:(grJ r q p g1 g2).b.length<=100:=by
  show (((r.b.map _).take p++q.b.map _)++(r.b.map _).drop (p+1)).length<=100;rw [Ql,Ql,Qj,Jr,Q0,Q0];omega
 have eany:(cs.map fun c=>UK c (grJ r q p g1 g2)).any id=true:=by
  rw [Qno];exact ⟨true,Q3.mpr ⟨c,hcm,hc2⟩,rfl⟩
 refine Vz (JT (k:=false) (B0 (k:=true) (Yr ?any)) (fun h=>nomatch h) (fun _=>JS))
 case any =>
  rw [<- eany];refine Qr1 rfl T.bAny (PDL.pd ?_);have ed:(cs.map fun c=>UK c (grJ r q p g1 g2)).map D.bl=(cs.map Ru.d).map (Qdt (grJ r q p g1 g2)):=by
   rw [Qo,Qo];refine QQ fun c _=> ?_
   show D.bl _=Qdt _ c.d;unfold Qdt;rw [Qom]
  rw [ed];refine Z6 (f:=Qdt (grJ r q p g1 g2)) rfl (Yp (Vv 4 rfl)) (Vl (by rw [Q0];omega)) fun d hd cl C s H ex=> ?_
  obtain ⟨c',hc',rfl⟩:=Q3.mp hd;have e:Qdt (grJ r q p g1 g2) c'.d= .bl (UK c' (grJ r q p g1 g2)):=by unfold Qdt;rw [Qom]
  rw [e];exact Jy GI (hr.mono (by decide)) (Vc (Vv 0 rfl) (Vc (Vv 11 rfl) Vn)) ⟨c',grJ r q p g1 g2,rfl,hci c' hc',hgb,rfl⟩
end
theorem Qey (ns:List Int):(rulesR ns).length<=9:=by unfold rulesR;rw [Q0];exact Qhg ns
theorem Qgd (ns:List Int):RsOk (rulesR ns):=by
 refine ⟨Qz (Qey ns) (by decide),fun r hr=> ?_⟩;obtain ⟨c,_,rfl⟩:=Q3.mp hr;exact Uy ns c _
theorem Qyk {rs:List Ru} (ok:RsOk rs) (h9:rs.length<=9):(K0 rs).length < 64:=by
 have h1:=Y8 (Qvu rs) fun k hk=>Qjo.mp hk
 have h2:=Yn (f:=QB) (n:=5) (l:=rs) fun r hr=>by have:=ok.2 r hr;simp [QB];omega
 have h3:(Zs rs).length=(rs.flatMap QB).length:=by simp [Zs,Oi]
 omega
theorem Qms (ns:List Int):Lvl (rulesR ns):=⟨Qgd ns,Qsm ns,Qyk (Qgd ns) (Qey ns)⟩
theorem Qr2 {α:Type} (l:List α) (a b:Nat) (h1:a<=b) (h2:b<=l.length):WZ l (some (a:Int)) (some (b:Int))=(l.drop a).take (b - a):=by
 unfold WZ;rw [HT.GC,HT.GC,Wo (show b<=l.length from h2),Wo (show a<=l.length from by omega)]
def fnd (rs:List Ru) (n:Nat) (bs:List Ru):List Ru:=rs.take n++bs++rs.drop (n+1)
theorem Qfj {rs bs:List Ru} {n:Nat} (h:n < rs.length):(fnd rs n bs).length=rs.length - 1+bs.length:=by
 unfold fnd;rw [Ql,Ql,Qj,Jr];omega
theorem Ja1 {rs bs:List Ru} {n:Nat} (h:n < rs.length):(WZ (rs.map Ru.d) none (some (n:Int))++bs.map Ru.d)++WZ (rs.map Ru.d) (some ((n:Int)+1)) none=(fnd rs n bs).map Ru.d:=by
 have e2:((n:Int)+1)=((n+1:Nat):Int):=by omega
 rw [e2,WK _ _ (by rw [Q0];omega),Z9];simp [fnd,JL,JV]
theorem Ja2 {rs bs:List Ru} {n:Nat} (h:n < rs.length):WZ ((fnd rs n bs).map Ru.d) none (some (n:Int))=(rs.take n).map Ru.d:=by
 rw [WK _ _ (by rw [Q0,Qfj h];omega),<- JL];unfold fnd;rw [BK,List.take_append_of_le_length (by rw [Qj];omega),JZ (by rw [Qj];omega)]
theorem Qzz {rs bs:List Ru} {n:Nat} (h:n < rs.length):WZ ((fnd rs n bs).map Ru.d) (some ((n+bs.length:Nat):Int)) none=(rs.drop (n+1)).map Ru.d:=by
 rw [Z9,<- JV];unfold fnd;have hl:(rs.take n++bs).length=n+bs.length:=by rw [Ql,Qj];omega
 rw [<- hl,List.drop_left]
theorem Ja0 {rs bs:List Ru} {n:Nat} (h:n < rs.length):WZ ((fnd rs n bs).map Ru.d) (some (n:Int)) (some ((n+bs.length:Nat):Int))=bs.map Ru.d:=by
 rw [Qr2 _ _ _ (by omega) (by rw [Q0,Qfj h];omega),<- JV,<- JL];unfold fnd;have hl:(rs.take n).length=n:=by rw [Qj];omega
 have e:(rs.take n++bs++rs.drop (n+1)).drop n=bs++rs.drop (n+1):=by
  rw [BK]
  conv=>lhs;arg 1;rw [<- hl]
  rw [List.drop_left]
 rw [e,show n+bs.length - n=bs.length from by omega,List.take_left]
theorem Qtr {X:Cx} {H₀:Hp} {τ:List Sl} {sts:List Stmt} {j:Nat} {ds:List D} {d:D} (hi:τ[j]? =some (.own ds)) (hl: ∀ (j:Nat) (d:D),τ[j]? =some (.any d)->LF d=true) (h:QOs X H₀ (τ.set j (.flt ds)) sts (.ret d)):QOs X H₀ τ sts (.ret d) :=
 ⟨fun pins s σ H D I q=>by
  obtain ⟨o,e1,p,vs,rfl,n,hp,lf,ia⟩:=q.1.sl j _ hi;obtain ⟨ob,I2⟩:=I.freeze hp;exact h.pe pins s σ _ D I2 ⟨q.1.frzL hi e1 n hp lf ia hl,q.2⟩⟩
theorem Qax (rs:List Ru):keyOks (rs.map Ru.d)=true:=WJ.mpr fun d hd=>by obtain ⟨x,_,rfl⟩:=Q3.mp hd;exact Qok x
theorem Qii (rs:List Ru):deps (rs.map Ru.d)<=6:=Qaf fun d hd=>by obtain ⟨x,_,rfl⟩:=Q3.mp hd;exact Qol x
theorem Qxw {r q:Ru} {p:Nat} (hp:p < r.b.length):(Jw r p q).d= .tup [r.h.d,.tup ((WZ (r.b.map Li.d) none (some (p:Int))++q.b.map Li.d)++WZ (r.b.map Li.d) (some ((p:Int)+1)) none)]:=by
 have e2:((p:Int)+1)=((p+1:Nat):Int):=by omega
 rw [e2,WK _ _ (by rw [Q0];omega),Z9];simp [Jw,Ru.d,JL,JV]
section
variable {P:Program} {w:World} {K:W.Frag} {mg:Str->Option Value} {base:Heap}
abbrev Qxi:List Str:=["_law_script", "_law_rules_here", "_law_at", "_law_number", "_law_place_here", "_law_found", "_law_rule_here", "_law_some_here", "_law_many", "_law_forms", "_law_other", "_law_between"]
theorem UI:Vf Qxi ["_law_script"] (Vs Qih):=⟨rfl,rfl,rfl,by decide +kernel,rfl,by decide +kernel,by decide +kernel⟩
theorem nd10:(Qxi.set 10 "_").Nodup:=by decide +kernel
theorem Qka (rs:List Ru):LF (.tup (rs.map Ru.d))=true:=by
 have:LFs (rs.map Ru.d)=true:=QU Ru.lf _;simp [LF,this]
set_option maxHeartbeats 4000000 in
theorem Qx9 {f:Addr} {fd:FuncData} (T:Txt K mg) (F:Fun K "law" "law" Qih f fd) (GR:PrD P w K mg base "_law_rules" 6 ["_law_script"] (RNsT Qez)) (G1:PrD P w K mg base "_law_cell" 1 ZX RCell) (G2:PrD P w K mg base "_law_mix" 1 Qbb RMix) (GP:PrD P w K mg base "_law_place" 2 BU RPlace)
  (GU:PrD P w K mg base "_law_unfolded" 7 Qd8 RUnfo) (GM:PrD P w K mg base "_law_may_be_full" 1 Qm8 RMay) (GF:PrD P w K mg base "_law_form" 1 ["_law_rule_here"] RForm) (GO:PrD P w K mg base "_law_in_order" 4 BV ROrder) (GA:PrD P w K mg base "_law_all_there" 4 Qdc RAllT) :
  FnOk P w K mg base CX0 8 f fd ["_law_script"] (spD K 1 RLaw0):=by
 refine Ja3 (N:=Qxi) F UI (by decide) fun cdv A outer s H E ds d hr hR _=> ?_
 obtain ⟨ns,rfl,hns,rfl⟩:=hR;have lv:=Qms ns;have drs:=Qqr ns;have h9:=Qey ns;have hun:=hr.units;have hu20:(A.deeper (PyProof.Rows.envOfC "law" (Vs Qih) s.heap.objs.size f cdv)).units+20 < cLine:=by omega
 refine Vq (m:=true) (Jf (i:=1) (d:= .tup ((rulesR ns).map Ru.d)) (Jy GR (hr.mono (by decide)) (Vc (Vv 0 rfl) Vn) ⟨ns,rfl,hns,rfl⟩) UI.nd) ?_;refine Vq (m:=true) (Jf (i:=2) (d:=Qiq (YC ns (rulesR ns))) (Jy GP (hr.mono (by decide)) (Vc (Vv 0 rfl) (Vc (Vv 1 rfl) Vn)) ⟨ns,rulesR ns,rfl,lv.ok,rfl⟩) UI.nd) ?_;generalize rulesR ns=rs at lv drs h9;cases hpl:YC ns rs with
 | none=>exact Gb (JT (k:=true) (Qah (d:= .non) (Vv 2 rfl)) (fun _=>Vz (Jv OV)) (fun h=>nomatch h))
 | some pq =>
 obtain ⟨n,p⟩:=pq;obtain ⟨r,l,hr1,hl1,hy⟩:=Qin (Qf5 hpl);have hr1:rs[n]? =some r:=hr1;have hl1:r.b[p]? =some l:=hl1;have hrm:=Q4 hr1;have hlm:=Q4 hl1;have hn:n < rs.length:=(Q5.mp hr1).1;have hp:p < r.b.length:=(Q5.mp hl1).1;have dr:=drs r hrm;have hrb:=dr.b;have fit:Fit rs n p r l:=⟨lv,fun q hq=>(drs q hq).c,hr1,hl1,hy⟩;refine Vq (m:=true) (JT (k:=false) (Qah (d:=pND (n,p)) (Vv 2 rfl)) (fun h=>nomatch h) (fun _=>JS)) ?_;refine Vq (m:=true) (Qxd (i:=3) (j:=4) (d:= .int n) (d':= .int p) rfl (Vv 2 rfl) (by decide) UI.nd) ?_
 by_cases hfull:Z8 (byG r p l rs)=true \/ 16 < rs.length - 1+(byG r p l rs).length
 ·refine Vq (m:=true) (Jf (i:=5) (d:= .non) (Jy GU hr (Vc (Vv 1 rfl) (Vc (Vv 3 rfl) (Vc (Vv 4 rfl) Vn))) (.inr ⟨⟨rs,n,p,r,l,rfl,fit,hfull⟩,rfl⟩)) UI.nd) ?_;exact Gb (JT (k:=true) (Qah (d:= .non) (Vv 5 rfl)) (fun _=>Vz (Jv (Jy GM (hr.mono (by decide)) (Vc (Vv 1 rfl) (Vc (Vv 3 rfl) (Vc (Vv 4 rfl) Vn))) ⟨rs,n,p,r,l,rfl,fit,hfull,rfl⟩))) (fun h=>nomatch h))
 have hm1:Z8 (byG r p l rs)=false:=by
  cases h:Z8 (byG r p l rs) with
  | false=>rfl
  | true=>exact (hfull (.inl h)).elim
 have hm2:rs.length - 1+(byG r p l rs).length<=16:=OL fun h=>hfull (.inr h)
 have sub:=Qjh r p l rs;have bysome:=Qlc r p l rs;have byk: ∀ c∈byG r p l rs,Jt c=c/\RuK c/\RuI c:=fun c hc=>by
  obtain ⟨q,hq,e⟩:=Qrb hc;have h2:=Qzf dr (drs q hq) hlm e;exact ⟨Qmc dr.c (drs q hq).c hlm e,h2.1,h2.2⟩
 generalize hbs:byG r p l rs=bs at hm1 hm2 sub bysome byk;refine Vq (m:=true) (Jf (i:=5) (d:= .tup ((fnd rs n bs).map Ru.d)) (Jy GU hr (Vc (Vv 1 rfl) (Vc (Vv 3 rfl) (Vc (Vv 4 rfl) Vn))) (.inl ⟨rs,n,p,r,l,rfl,fit,by rw [hbs];exact hm1,by rw [hbs];exact hm2,by rw [hbs,Ja1 hn]⟩)) UI.nd) ?_;refine Vq (m:=true) (JT (k:=false) (Qah (d:= .tup ((fnd rs n bs).map Ru.d)) (Vv 5 rfl)) (fun h=>nomatch h) (fun _=>JS)) ?_;refine Vq (m:=true) (Jf (i:=6) (d:=r.d) (QR (da:= .tup (rs.map Ru.d)) (Vv 1 rfl) (Vv 3 rfl) (YT hr1)) UI.nd) ?_;have lfs:LFs ((ZC rs l.a.k).map Ru.d)=true:=QU Ru.lf _;have hsl:(ZC rs l.a.k).length<=rs.length:=Zj _ _;have smem: ∀ q∈ZC rs l.a.k,q∈rs:=fun q hq=>(Wp.mp hq).1
 refine Vq (m:=true) (τ1:=[.arg (scr ns),.any (.tup (rs.map Ru.d)),.any (pND (n,p)),.any (.int n),.any (.int p),.any (.tup ((fnd rs n bs).map Ru.d)),.any r.d,.own ((ZC rs l.a.k).map Ru.d),.no,.no,.no,.no]) (Qkl 10 "_" ?comp) ?_
 case comp =>
  rw [Qoa] at lfs ⊢;refine BY (i:=7) lfs nd10 rfl (Yp (Vv 1 rfl)) (Vl (by rw [Q0];omega)) (fun d hd cl C s H ex=> ?_) (fun d hd hp cl C s H ex=>Vv 0 rfl);obtain ⟨q,hq,rfl⟩:=Q3.mp hd;exact Qjv (Qhu (QR (da:= .tup [.str q.h.k,.tup (q.h.ts.map .str)]) (QR (da:= .tup [q.h.d,.tup (q.b.map Li.d)]) (Vv 0 rfl) Vi at0) Vi at0) (QR (da:= .tup [.str l.a.k,.tup (l.a.ts.map .str)]) (QR (da:= .tup [.str (if l.y then "yes" else "no"),l.a.d]) (QR (da:= .tup (r.b.map Li.d)) (QR (da:= .tup [r.h.d,.tup (r.b.map Li.d)]) (Vv 7 rfl) Vi at1) (Vv 5 rfl) (YT hl1)) Vi at1) Vi at0))
 generalize hso:ZC rs l.a.k=so at lfs hsl smem sub bysome;refine Qtr (j:=7) rfl (AL.h ⟨Qka _,Qiu _,WN,WN,Qka _,Ru.lf _,trivial⟩) ?_;have em:((((fnd rs n bs).map Ru.d).length:Nat):Int) - ((rs.map Ru.d).length:Nat)+1=(bs.length:Nat):=by
  rw [Q0,Q0,Qfj hn];omega
 refine Vq (m:=true) (Jf (i:=8) (d:= .int bs.length) (by rw [<- em];exact Wi (Qdy (Wb T.bLen (Vv 5 rfl) rfl (fun y e=>nomatch e)) (Wb T.bLen (Vv 1 rfl) rfl (fun y e=>nomatch e))) Vi) UI.nd) ?_;have dl: ∀ L:List Ru,(A.deeper (PyProof.Rows.envOfC "law" (Vs Qih) s.heap.objs.size f cdv)).units+2+deps (L.map Ru.d)+deps (L.map Ru.d) < cLine:=fun L=>by
  have:=Qii L;omega
 have enm:((n:Nat):Int)+((bs.length:Nat):Int)=((n+bs.length:Nat):Int):=by omega
 have en1:((n:Nat):Int)+1=((n+1:Nat):Int):=by omega
 refine Vq (m:=true) (JT (k:=false) ?t1 (fun h=>nomatch h) (fun _=>JS)) ?_
 case t1 =>
  have c2:decide (((bs.length:Nat):Int) < 0)=false:=QA (by omega);refine Y3 (Qhq (k:=false) (B0 (k:=true) (Yr (Qqx T.bIsi T.bTup OE (Vv 5 rfl) (Qu9 K _)))) (fun _=>Qhq (k:=false) (by rw [<- c2];exact Qnf (Vv 8 rfl) Vi) (fun _=>Qhp ?_) (fun h=>nomatch h)) (fun h=>nomatch h));refine Qrh (us:=(rs.take n).map Ru.d) ?_ ?_ (Qax _) (dl _)
  ·rw [<- Ja2 (bs:=bs) hn];exact WC (Vv 5 rfl) Wv (JW (Vv 3 rfl))
  ·rw [JL,<- WK _ _ (by rw [Q0];omega)];exact WC (Vv 1 rfl) Wv (JW (Vv 3 rfl))
 refine Vq (m:=true) (JT (k:=false) ?t2 (fun h=>nomatch h) (fun _=>JS)) ?_
 case t2 =>
  refine Qrh (us:=(rs.drop (n+1)).map Ru.d) ?_ ?_ (Qax _) (dl _)
  ·rw [<- Qzz (bs:=bs) hn,<- enm];exact WC (Vv 5 rfl) (JW (Wi (Vv 3 rfl) (Vv 8 rfl))) Wv
  ·rw [JV,<- Z9,<- en1];exact WC (Vv 1 rfl) (JW (Wi (Vv 3 rfl) Vi)) Wv
 refine Vq (m:=true) (W5 (i:=9) (ds:=[]) (Wf Vn (Vl (by simp))) rfl UI.nd) ?_;refine Vq (m:=false) (τ1:=[.arg (scr ns),.any (.tup (rs.map Ru.d)),.any (pND (n,p)),.any (.int n),.any (.int p),.any (.tup ((fnd rs n bs).map Ru.d)),.any r.d,.flt (so.map Ru.d),.any (.int bs.length),.own ((so.map (Jw r p)).map QL),.no,.no]) ?forms ?_
 case forms =>
  have ef:(so.map (Jw r p)).map QL=((so.take (so.map Ru.d).length).map (Jw r p)).map QL:=by rw [Q0,QF]
  rw [ef];refine Zc (ds:=so.map Ru.d) (m:=false) (put:=fun τ d=>τ.set 10 (.any d)) (fun i=>[.arg (scr ns),.any (.tup (rs.map Ru.d)),.any (pND (n,p)),.any (.int n),.any (.int p),.any (.tup ((fnd rs n bs).map Ru.d)),.any r.d,.flt (so.map Ru.d),.any (.int bs.length),.own (((so.take i).map (Jw r p)).map QL),.no,.no]) Qw rfl (WT (WB (i:=7) rfl (QI rfl))) (Ja (i:=10) UI.nd rfl (QI rfl)) put1 (Qb0 (k:=7) rfl) rfl (fun i d hi=>⟨false,?_,fun z=>nomatch z⟩);obtain ⟨q,hqi,rfl⟩:=Zr hi;have hqm:=Q4 hqi;have hqb:=(drs q (smem q hqm)).b;have hil:i < so.length:=(Q5.mp hqi).1;have e1:((so.take (i+1)).map (Jw r p)).map QL=((so.take i).map (Jw r p)).map QL++[QL (Jw r p q)]:=by
   rw [QJ,hqi]
   simp
  rw [e1];have hal:(((so.take i).map (Jw r p)).map QL).length<=16:=by
   rw [Q0,Q0,Qj];omega
  generalize ((so.take i).map (Jw r p)).map QL=acc at hal;have hjb:(Jw r p q).b.length<=100:=by
   show (r.b.take p++q.b++r.b.drop (p+1)).length<=100;rw [Ql,Ql,Qj,Jr];omega
  show QOs _ _ [.arg (scr ns),.any (.tup (rs.map Ru.d)),.any (pND (n,p)),.any (.int n),.any (.int p),.any (.tup ((fnd rs n bs).map Ru.d)),.any r.d,.flt (so.map Ru.d),.any (.int bs.length),.own acc,.any q.d,.no] _ _;refine WG (m:=false) (τ1:=[.arg (scr ns),.any (.tup (rs.map Ru.d)),.any (pND (n,p)),.any (.int n),.any (.int p),.any (.tup ((fnd rs n bs).map Ru.d)),.any r.d,.flt (so.map Ru.d),.any (.int bs.length),.own (acc++[QL (Jw r p q)]),.any q.d,.no]) ?_ (WkI.wk (.keep (.keep (.keep (.keep (.keep (.keep (.keep (.keep (.keep (.keep (.no (.keep .nil))))))))))))) (fun z=>nomatch z);refine Vz (Zo (i:=9) (d:=QL (Jw r p q)) rfl (Jy GF (hr.mono (by decide)) (Vc (e:=_) ?jd Vn) ⟨Jw r p q,rfl,hjb,rfl⟩) (Qul _) (AL.h ⟨Qka _,Qiu _,WN,WN,Qka _,Ru.lf _,WN,Ru.lf _,trivial⟩) (QZ hal (by rw [QP];decide)))
  case jd =>
   rw [Qxw hp];refine Vp (Vc (QR (da:= .tup [r.h.d,.tup (r.b.map Li.d)]) (Vv 6 rfl) Vi at0) (Vc (UH (UH (WC (QR (da:= .tup [r.h.d,.tup (r.b.map Li.d)]) (Vv 6 rfl) Vi at1) Wv (JW (Vv 4 rfl))) (QR (da:= .tup [q.h.d,.tup (q.b.map Li.d)]) (Vv 10 rfl) Vi at1) (Vl ?z1)) (WC (QR (da:= .tup [r.h.d,.tup (r.b.map Li.d)]) (Vv 6 rfl) Vi at1) (JW (Wi (Vv 4 rfl) Vi)) Wv) (Vl ?z2)) Vn)) (Vl (by simp))
   case z1 =>
    rw [WK _ _ (by rw [Q0];omega)]
    simp
    omega
   case z2 =>
    have e2:((p:Int)+1)=((p+1:Nat):Int):=by omega
    rw [e2,WK _ _ (by rw [Q0];omega),Z9]
    simp
    omega
 have sub':(bs.map QL).Sublist ((so.map (Jw r p)).map QL):=by
  rw [Qo];exact sub
 refine Vq (m:=true) (Jf (i:=11) (d:= .tup (bs.map Ru.d)) (by rw [<- Ja0 (bs:=bs) hn,<- enm];exact WC (Vv 5 rfl) (JW (Vv 3 rfl)) (JW (Wi (Vv 3 rfl) (Vv 8 rfl)))) UI.nd) ?_;refine Vq (m:=true) (JT (k:=false) (B0 (k:=true) (Yr (Jy GO (hr.mono (by decide)) (Vc (Vv 11 rfl) (Vc (Vv 9 rfl) Vn)) ⟨bs,so.map (Jw r p),rfl,sub',fun c hc=>⟨(byk c hc).1,(byk c hc).2.1⟩,fun x hx=> ?_,by rw [Q0];omega,rfl⟩))) (fun h=>nomatch h) (fun _=>JS)) ?_
 ·obtain ⟨q,hq,rfl⟩:=Q3.mp hx;have hqb:=(drs q (smem q hq)).b;show (r.b.take p++q.b++r.b.drop (p+1)).length<=100;rw [Ql,Ql,Qj,Jr];omega
 by_cases hne:so=[]
 ·have hb0:bs.length=0:=by
   rw [hne] at bysome;simpa using bysome
  have c:(!(!(so.map Ru.d).isEmpty))=true:=by rw [hne];rfl
  refine Gb (JT (k:=true) (by rw [<- c];exact B0 (Gp (Vv 7 rfl))) (fun _=>Vz (Jv ?_)) (fun h=>nomatch h));have e0:(true:Bool)=decide (((bs.length:Nat):Int)=0):=by rw [hb0];rfl
  rw [e0];exact Qqz (Vv 8 rfl) Vi
 have c:(!(!(so.map Ru.d).isEmpty))=false:=by cases h:so with | nil=>exact absurd h hne | cons a t=>rfl
 refine Vq (m:=true) (JT (k:=false) (by rw [<- c];exact B0 (Gp (Vv 7 rfl))) (fun h=>nomatch h) (fun _=>JS)) ?_;have hz:0 < so.length:=ZT.mpr hne;have m1:=WQ (cell ns 3) 9629 (m:=(so.length:Nat)) (by omega);have m0:=JP (cell ns 3) 9629 (m:=(so.length:Nat)) (by omega);obtain ⟨q,hqm,hat⟩: ∃ q∈so,dAt (.lst (so.map Ru.d)) (mix (cell ns 3) 9629 (((so.map Ru.d).length:Nat):Int))=some q.d:=by
  rw [Q0];obtain ⟨k,ek⟩: ∃ k:Nat,mix (cell ns 3) 9629 (so.length:Nat)=(k:Int):=⟨_,(Qfx m0).symm⟩;rw [ek] at m1 ⊢;refine ⟨so[k]'(by omega),ZO _,WM ?_⟩;rw [Q8,Qb (by omega)];rfl
 refine Vq (m:=true) (Jf (i:=10) (d:=q.d) (QR (da:= .lst (so.map Ru.d)) (Vv 7 rfl) (Yq G2 (hr.mono (by decide)) (Be (k:=3) G1 (hr.mono (by decide)) (Vv 0 rfl) Vi) Vi (Wb T.bLen (Vv 7 rfl) rfl (fun y e=>nomatch e)) (by decide) (by rw [Q0];omega)) hat) UI.nd) ?_;exact Vz (Jv (Jy GA (hr.mono (by decide)) (Vc (Vv 0 rfl) (Vc (Vv 6 rfl) (Vc (Vv 4 rfl) (Vc (Vv 10 rfl) (Vc (Vv 11 rfl) Vn))))) ⟨ns,r,q,p,l,bs,rs,rfl,hns,dr,drs q (smem q hqm),hl1,by omega,fun c hc=>(byk c hc).2.2,smem q hqm,hbs.symm,rfl⟩))
end
theorem Ja7 {K:W.Frag} {h:Heap} {mg:Str->Option Value} {cH cP cR:Addr} (X:K.In h) (G:h.Ns mainGlobals mg)
  (e0:W.nsIn K mainGlobals "HallError" =some (some (.ref cH)))
  (e1:W.nsIn K mainGlobals "NoPlace" =some (some (.ref cP)))
  (e2:W.nsIn K mainGlobals "NoRoom" =some (some (.ref cR)))
  (e3:W.excIn K cH [.type "ValueError",.type "Exception",.type "BaseException",.type "object"] "ValueError.__new__" =true)
  (e4:W.excIn K cP [.type "ValueError",.type "Exception",.type "BaseException",.type "object"] "ValueError.__new__" =true)
  (e5:W.excIn K cR [.type "ValueError",.type "Exception",.type "BaseException",.type "object"] "ValueError.__new__" =true)
  (e6:W.specialIn K (.builtin "object.__class__") "__get__" =some (some (.builtin "getset_descriptor.__get__")))
  (e7:W.takesIn K (.builtin "object.__class__")=some true)
  (e8:W.findIn K (.ref cP) "__getattribute__" =some (some (.builtin "BaseException.__getattribute__")))
  (e9:W.findIn K (.ref cP) "__getattr__" =some none)
  (e10:W.mroIn K cP (.type "BaseException")=some true)
  (e11:(W.clsIn K cP).isSome=true)
  (e12:W.findIn K (.ref cP) "__class__" =some (some (.builtin "object.__class__")))
  (e13:W.mroIn K cP (.type "object")=some true)
  (e14:W.findIn K (.ref cR) "__getattribute__" =some (some (.builtin "BaseException.__getattribute__")))
  (e15:W.findIn K (.ref cR) "__getattr__" =some none)
  (e16:W.mroIn K cR (.type "BaseException")=some true)
  (e17:(W.clsIn K cR).isSome=true)
  (e18:W.findIn K (.ref cR) "__class__" =some (some (.builtin "object.__class__")))
  (e19:W.mroIn K cR (.type "object")=some true)
  (e20:W.mroIn K cP (.ref cH)=some true)
  (e21:W.mroIn K cR (.ref cH)=some true)
  (e22:W.kitOne K (.ref cP) (.type "ValueError")=some true)
  (e23:W.kitOne K (.ref cR) (.type "ValueError")=some true)
  (e24:W.kitOne K (.ref cP) (.ref cP)=some true)
  (e25:W.kitOne K (.ref cP) (.ref cR)=some false)
  (e26:W.kitOne K (.ref cR) (.ref cP)=some false)
  (e27:W.kitOne K (.ref cR) (.ref cR)=some true)
  (e28:W.nsIn K mainGlobals "ValueError" =some none)
  (e29:W.mroIn K cR (.ref cR)=some true)
  :Nonempty (Cl K mg):=by
 obtain ⟨bH,xH⟩:=Qfl B2 (by decide +kernel) e3;obtain ⟨bP,xP⟩:=Qfl B2 (by decide +kernel) e4;obtain ⟨bR,xR⟩:=Qfl B2 (by decide +kernel) e5;exact ⟨⟨cH,cP,cR,bH,bP,bR,W.mg_of X G e0,W.mg_of X G e1,W.mg_of X G e2,xH,xP,xR,⟨e8,e9,e10,e11,e12,e6,e7,e13⟩,⟨e14,e15,e16,e17,e18,e6,e7,e19⟩,e20,e21,e22,e23,e24,e25,e26,e27,W.mg_none_of X G e28,e29⟩⟩
theorem all {P:Program} {w:World} {K:W.Frag} {mg:Str->Option Value} {base:Heap} {f:Addr} {fd:FuncData} (T:Txt K mg) (C:Cl K mg) (F:Fun K "law" "law" Qih f fd)
  (f1:Fd K mg "atoms_of" Qaw ["rule"])
  (f2:Fd K mg "all_atoms_of" GD ["rules"])
  (f3:Fd K mg "links_of" Qer ["rules"])
  (f4:Fd K mg "path_between" Qk4 ["links", "start", "goal"])
  (f5:Fd K mg "ring_of" Qk3 ["links"])
  (f6:Fd K mg "levels_of" Qa3 ["rules"])
  (t20:Fd K mg "is_open" Qk5 ["term"])
  (t21:Fd K mg "filled" Qa6 Oq)
  (t23:Fd K mg "with_terms" Qjz Oo)
  (t24:Fd K mg "variables_by_coming" Qa7 ["rule"])
  (t25:Fd K mg "name_at" Qa2 ["place"])
  (t26:Fd K mg "plain" Qep ["rule"])
  (t32:Fd K mg "last_term" Qk6 Op)
  (t27:Fd K mg "meeting_terms" Qd3 Qd9)
  (t28:Fd K mg "set_apart" Qex ["rule"])
  (t29:Fd K mg "refuse_place" Qa1 GT)
  (t30:Fd K mg "rules_by" sBy pBy)
  (t31:Fd K mg "unfolded" Qoj GT)
  (l1:Fd K mg "_law_cell" Qk8 ZX)
  (l2:Fd K mg "_law_mix" Qsj Qbb)
  (l3:Fd K mg "_law_word" Qes Qkj)
  (l4:Fd K mg "_law_kinds" Qeu ["_law_script"])
  (l5:Fd K mg "_law_words" Qeo ["_law_script"])
  (l6:Fd K mg "_law_size" Qk2 ZX)
  (l7:Fd K mg "_law_some" Qk1 Br)
  (l8:Fd K mg "_law_body" Qk9 Qdb)
  (l9:Fd K mg "_law_bound" Qew ["_law_body_here"])
  (l10:Fd K mg "_law_rule" Qet BW)
  (l12:Fd K mg "_law_rules" Qa4 ["_law_script"])
  (l13:Fd K mg "_law_variables" V.Uv ["_law_rule_here"])
  (l14:Fd K mg "_law_put" V.Qsi V.Qgk)
  (l15:Fd K mg "_law_given" V.Qev V.BX)
  (l16:Fd K mg "_law_place" Qeq BU)
  (l17:Fd K mg "_law_unfolded" Qk0 Qd8)
  (l18:Fd K mg "_law_may_be_full" Qsk Qm8)
  (l19:Fd K mg "_law_form" Qk7 ["_law_rule_here"])
  (l20:Fd K mg "_law_is_instance" Oj Qda)
  (l21:Fd K mg "_law_in_order" Qav BV)
  (l22:Fd K mg "_law_ground" Qa5 YD)
  (l23:Fd K mg "_law_all_there" Qgc Qdc)
  :FnOk P w K mg base CX0 8 f fd ["_law_script"] (spD K 1 RLaw0):=by
 have g1:=Qpk (P:=P) (w:=w) (base:=base) f1;have g2:=Qxa f2 g1;have g3:=Qpg (P:=P) (w:=w) (base:=base) f3;have g4:=Qth (P:=P) (w:=w) (base:=base) f4;have g5:=Qtg f5 g4;have g6:=Qmf T f6 g3 g5 g2;have p0:=Qmj (P:=P) (w:=w) (base:=base) f1;have p1:=Qti (P:=P) (w:=w) (base:=base) t20;have p2:=Qmh (P:=P) (w:=w) (base:=base) T t21;have p3:=Qtb T t23 p2;have p4:=Qmi T t24 p0 p1;have p5:=Qme (P:=P) (w:=w) (base:=base) T t25;have p6:=Qpb T t26 p4 p5 p3;have q1:=Qpl T t28 p4 p3;have q0:=Qtk (P:=P) (w:=w) (base:=base) t32;have q2:=Qtj T t27 q0 p1;have q3:=Qmd (P:=P) (w:=w) (base:=base) T t29;have q5:=Qzg T t30 q1 q2 p3 p6;have q6:=Qx5 T t31 g6 q3 q5;have q8:=Qtd T C t31 g6 q3 q5;have m1:=Qtn (P:=P) (w:=w) (base:=base) T l1;have m2:=Qx7 (P:=P) (w:=w) (base:=base) l2;have m3:=Qpe T l3 m2;have m4:=Qph T l4 m1 m3;have m5:=Qp9 T l5 m1 m3 m2;have m6:=Qtf T l6 m1 m2;have m7:=Qte T l7 m2;have m8:=Qto T l8 m2 m5 m4 m6 m7;have m9:=Qpj (P:=P) (w:=w) (base:=base) l9;have m10:=Qpf T l10 m2 m5 m4 m6 m7 m8 m9;have m12:=Qpa T l12 m1 m2 m10;have m13:=V.Qf8 (P:=P) (w:=w) (base:=base) l13;have m14:=V.Qx6 (P:=P) (w:=w) (base:=base) T l14;have m15:=V.Qpi (P:=P) (w:=w) (base:=base) T l15;have m16:=Qpc T l16 m1 m2;have m17:=Qtc C l17 q6 q8;have m18:=Qx8 (P:=P) (w:=w) (base:=base) T l18;have m19:=Qtm (P:=P) (w:=w) (base:=base) T l19;have m20:=Qtl T l20 m19;have m21:=Qpd T l21 m19 p6;have m22:=Qmg T l22 m14;have m23:=Qtp T l23 m5 m13 m15 m22 m20;exact Qx9 T F m12 m1 m2 m16 m17 m18 m19 m21 m23
end K27
open PySem PySem.W PyProof.Rows
theorem PySem.W.Fast.tw7363734557977563087 : True := trivial
theorem PySem.W.Fast.tw12829060986586784675 : True := trivial
theorem PySem.W.Fast.tw5916374000838259294 : True := trivial
theorem PySem.W.Fast.tw1042967081176825772 : True := trivial
theorem PySem.W.Fast.tw4028343809367447687 : True := trivial
theorem PySem.W.Fast.tw3305732579144077515 : True := trivial
theorem PySem.W.Fast.tw15066087625652161053 : True := trivial
theorem PySem.W.Fast.tw12017544884442294356 : True := trivial
theorem PySem.W.Fast.tw12456913844865445880 : True := trivial
theorem PySem.W.Fast.tw11541907187611677384 : True := trivial
theorem PySem.W.Fast.tw17380375339890666612 : True := trivial
theorem PySem.W.Fast.tw8564240460836605193 : True := trivial
theorem PySem.W.Fast.tw10403878739117470919 : True := trivial
theorem PySem.W.Fast.tw13134063099335372882 : True := trivial
theorem PySem.W.Fast.tw16933646111182846915 : True := trivial
theorem PySem.W.Fast.tw12880451374364418070 : True := trivial
theorem PySem.W.Fast.tw4793128846809606994 : True := trivial
theorem PySem.W.Fast.tw419597933893987408 : True := trivial
theorem PySem.W.Fast.tw11601162230888089820 : True := trivial
theorem PySem.W.Fast.tw120744047550970528 : True := trivial
theorem PySem.W.Fast.tw5738279429465350720 : True := trivial
theorem PySem.W.Fast.tw5387706873808830935 : True := trivial
theorem PySem.W.Fast.tw18376270605979261123 : True := trivial
theorem PySem.W.Fast.tw2428714299356054627 : True := trivial
theorem PySem.W.Fast.tw12497559823029507057 : True := trivial
theorem PySem.W.Fast.tw14118244744647078754 : True := trivial
theorem PySem.W.Fast.tw16810103488801050206 : True := trivial
theorem PySem.W.Fast.tw6314490474915529019 : True := trivial
theorem PySem.W.Fast.tw17660609141437678460 : True := trivial
theorem PySem.W.Fast.tw15635677477187416361 : True := trivial
theorem PySem.W.Fast.tw17147149456740216928 : True := trivial
theorem PySem.W.Fast.tw6004012302602048369 : True := trivial
theorem PySem.W.Fast.tw9585621693921035899 : True := trivial
theorem PySem.W.Fast.tw8494008960712717129 : True := trivial
theorem PySem.W.Fast.tw18378488486798663307 : True := trivial
theorem PySem.W.Fast.tw18241520348185243044 : True := trivial
theorem PySem.W.Fast.tw17553424704470403486 : True := trivial
theorem PySem.W.Fast.tw2730951854226964404 : True := trivial
theorem PySem.W.Fast.tw7200586902870633415 : True := trivial
theorem PySem.W.Fast.tw16188959355065710521 : True := trivial
theorem PySem.W.Fast.tw14863407229310165997 : True := trivial
theorem PySem.W.Fast.tw9397752581314488753 : True := trivial
theorem PySem.W.Fast.tw5559993115478666852 : True := trivial
theorem PySem.W.Fast.tw6435949295890006245 : True := trivial
set_option maxRecDepth 100000 in
set_option maxHeartbeats 0 in
theorem PySem.Challenge.cw_rulehall_k27_what_unfolding_tells_holds : PySem.Challenge.rw_rulehall_k27_what_unfolding_tells.Holds := by
 w_on;o_law;k_head;(case hw=>w_witness2)
 k_fill
 refine L2.Qnu (l:=PySem.Challenge.rw_rulehall_k27_what_unfolding_tells) (n:=63) (k:=8) (x:= "_law_script") (CX:=L2.CX0) (sp:=fun K=>L2.spD K 1 L2.RLaw0) rfl (by decide) rfl ⟨rfl,by decide,by decide⟩ (fun w h Y=>W.kIn_of Y) ?F (fun K H a ns hl _ hS=>L2.Qzt H a ns hl hS) (fun _ _ _ _ z=>z)
 case F =>
  intro w mg fa h KX G hmg;have f1:L2.Fd (L2.KOf KX) mg "atoms_of" K27.Qaw ["rule"]:=by
   dsimp only [L2.KOf]
   refine' L2.JG KX G ?a ?l ?c ?k ?b
   (case a=>k_is);(case l=>k_is);(case c=>k_is);(case k=>k_is);(case b=>exact fun _ _ _ _ _ _ us hl=>match us,hl with | [_],_=>rfl)
  have f2:L2.Fd (L2.KOf KX) mg "all_atoms_of" K27.GD ["rules"]:=by
   dsimp only [L2.KOf]
   refine' L2.JG KX G ?a ?l ?c ?k ?b
   (case a=>k_is);(case l=>k_is);(case c=>k_is);(case k=>k_is);(case b=>exact fun _ _ _ _ _ _ us hl=>match us,hl with | [_],_=>rfl)
  have f3:L2.Fd (L2.KOf KX) mg "links_of" K27.Qer ["rules"]:=by
   dsimp only [L2.KOf]
   refine' L2.JG KX G ?a ?l ?c ?k ?b
   (case a=>k_is);(case l=>k_is);(case c=>k_is);(case k=>k_is);(case b=>exact fun _ _ _ _ _ _ us hl=>match us,hl with | [_],_=>rfl)
  have f4:L2.Fd (L2.KOf KX) mg "path_between" K27.Qk4 ["links", "start", "goal"]:=by
   dsimp only [L2.KOf]
   refine' L2.JG KX G ?a ?l ?c ?k ?b
   (case a=>k_is);(case l=>k_is);(case c=>k_is);(case k=>k_is);(case b=>exact fun _ _ _ _ _ _ us hl=>match us,hl with | [_,_,_],_=>rfl)
  have f5:L2.Fd (L2.KOf KX) mg "ring_of" K27.Qk3 ["links"]:=by
   dsimp only [L2.KOf]
   refine' L2.JG KX G ?a ?l ?c ?k ?b
   (case a=>k_is);(case l=>k_is);(case c=>k_is);(case k=>k_is);(case b=>exact fun _ _ _ _ _ _ us hl=>match us,hl with | [_],_=>rfl)
  have f6:L2.Fd (L2.KOf KX) mg "levels_of" K27.Qa3 ["rules"]:=by
   dsimp only [L2.KOf]
   refine' L2.JG KX G ?a ?l ?c ?k ?b
   (case a=>k_is);(case l=>k_is);(case c=>k_is);(case k=>k_is);(case b=>exact fun _ _ _ _ _ _ us hl=>match us,hl with | [_],_=>rfl)
  have t20:L2.Fd (L2.KOf KX) mg "is_open" K27.Qk5 ["term"]:=by
   dsimp only [L2.KOf]
   refine' L2.JG KX G ?a ?l ?c ?k ?b
   (case a=>k_is);(case l=>k_is);(case c=>k_is);(case k=>k_is);(case b=>exact fun _ _ _ _ _ _ us hl=>match us,hl with | [_],_=>rfl)
  have t21:L2.Fd (L2.KOf KX) mg "filled" K27.Qa6 K27.Oq:=by
   dsimp only [L2.KOf]
   refine' L2.JG KX G ?a ?l ?c ?k ?b
   (case a=>k_is);(case l=>k_is);(case c=>k_is);(case k=>k_is);(case b=>exact fun _ _ _ _ _ _ us hl=>match us,hl with | [_,_],_=>rfl)
  have t23:L2.Fd (L2.KOf KX) mg "with_terms" K27.Qjz K27.Oo:=by
   dsimp only [L2.KOf]
   refine' L2.JG KX G ?a ?l ?c ?k ?b
   (case a=>k_is);(case l=>k_is);(case c=>k_is);(case k=>k_is);(case b=>exact fun _ _ _ _ _ _ us hl=>match us,hl with | [_,_],_=>rfl)
  have t24:L2.Fd (L2.KOf KX) mg "variables_by_coming" K27.Qa7 ["rule"]:=by
   dsimp only [L2.KOf]
   refine' L2.JG KX G ?a ?l ?c ?k ?b
   (case a=>k_is);(case l=>k_is);(case c=>k_is);(case k=>k_is);(case b=>exact fun _ _ _ _ _ _ us hl=>match us,hl with | [_],_=>rfl)
  have t25:L2.Fd (L2.KOf KX) mg "name_at" K27.Qa2 ["place"]:=by
   dsimp only [L2.KOf]
   refine' L2.JG KX G ?a ?l ?c ?k ?b
   (case a=>k_is);(case l=>k_is);(case c=>k_is);(case k=>k_is);(case b=>exact fun _ _ _ _ _ _ us hl=>match us,hl with | [_],_=>rfl)
  have t26:L2.Fd (L2.KOf KX) mg "plain" K27.Qep ["rule"]:=by
   dsimp only [L2.KOf]
   refine' L2.JG KX G ?a ?l ?c ?k ?b
   (case a=>k_is);(case l=>k_is);(case c=>k_is);(case k=>k_is);(case b=>exact fun _ _ _ _ _ _ us hl=>match us,hl with | [_],_=>rfl)
  have t32:L2.Fd (L2.KOf KX) mg "last_term" K27.Qk6 K27.Op:=by
   dsimp only [L2.KOf]
   refine' L2.JG KX G ?a ?l ?c ?k ?b
   (case a=>k_is);(case l=>k_is);(case c=>k_is);(case k=>k_is);(case b=>exact fun _ _ _ _ _ _ us hl=>match us,hl with | [_,_],_=>rfl)
  have t27:L2.Fd (L2.KOf KX) mg "meeting_terms" K27.Qd3 K27.Qd9:=by
   dsimp only [L2.KOf]
   refine' L2.JG KX G ?a ?l ?c ?k ?b
   (case a=>k_is);(case l=>k_is);(case c=>k_is);(case k=>k_is);(case b=>exact fun _ _ _ _ _ _ us hl=>match us,hl with | [_,_],_=>rfl)
  have t28:L2.Fd (L2.KOf KX) mg "set_apart" K27.Qex ["rule"]:=by
   dsimp only [L2.KOf]
   refine' L2.JG KX G ?a ?l ?c ?k ?b
   (case a=>k_is);(case l=>k_is);(case c=>k_is);(case k=>k_is);(case b=>exact fun _ _ _ _ _ _ us hl=>match us,hl with | [_],_=>rfl)
  have t29:L2.Fd (L2.KOf KX) mg "refuse_place" K27.Qa1 K27.GT:=by
   dsimp only [L2.KOf]
   refine' L2.JG KX G ?a ?l ?c ?k ?b
   (case a=>k_is);(case l=>k_is);(case c=>k_is);(case k=>k_is);(case b=>exact fun _ _ _ _ _ _ us hl=>match us,hl with | [_,_,_],_=>rfl)
  have t30:L2.Fd (L2.KOf KX) mg "rules_by" K27.sBy K27.pBy:=by
   dsimp only [L2.KOf]
   refine' L2.JG KX G ?a ?l ?c ?k ?b
   (case a=>k_is);(case l=>k_is);(case c=>k_is);(case k=>k_is);(case b=>exact fun _ _ _ _ _ _ us hl=>match us,hl with | [_,_,_],_=>rfl)
  have t31:L2.Fd (L2.KOf KX) mg "unfolded" K27.Qoj K27.GT:=by
   dsimp only [L2.KOf]
   refine' L2.JG KX G ?a ?l ?c ?k ?b
   (case a=>k_is);(case l=>k_is);(case c=>k_is);(case k=>k_is);(case b=>exact fun _ _ _ _ _ _ us hl=>match us,hl with | [_,_,_],_=>rfl)
  have l1:L2.Fd (L2.KOf KX) mg "_law_cell" K27.Qk8 K27.ZX:=by
   dsimp only [L2.KOf]
   refine' L2.JG KX G ?a ?l ?c ?k ?b
   (case a=>k_is);(case l=>k_is);(case c=>k_is);(case k=>k_is);(case b=>exact fun _ _ _ _ _ _ us hl=>match us,hl with | [_,_],_=>rfl)
  have l2:L2.Fd (L2.KOf KX) mg "_law_mix" K27.Qsj K27.Qbb:=by
   dsimp only [L2.KOf]
   refine' L2.JG KX G ?a ?l ?c ?k ?b
   (case a=>k_is);(case l=>k_is);(case c=>k_is);(case k=>k_is);(case b=>exact fun _ _ _ _ _ _ us hl=>match us,hl with | [_,_,_],_=>rfl)
  have l3:L2.Fd (L2.KOf KX) mg "_law_word" K27.Qes K27.Qkj:=by
   dsimp only [L2.KOf]
   refine' L2.JG KX G ?a ?l ?c ?k ?b
   (case a=>k_is);(case l=>k_is);(case c=>k_is);(case k=>k_is);(case b=>exact fun _ _ _ _ _ _ us hl=>match us,hl with | [_,_,_],_=>rfl)
  have l4:L2.Fd (L2.KOf KX) mg "_law_kinds" K27.Qeu ["_law_script"]:=by
   dsimp only [L2.KOf]
   refine' L2.JG KX G ?a ?l ?c ?k ?b
   (case a=>k_is);(case l=>k_is);(case c=>k_is);(case k=>k_is);(case b=>exact fun _ _ _ _ _ _ us hl=>match us,hl with | [_],_=>rfl)
  have l5:L2.Fd (L2.KOf KX) mg "_law_words" K27.Qeo ["_law_script"]:=by
   dsimp only [L2.KOf]
   refine' L2.JG KX G ?a ?l ?c ?k ?b
   (case a=>k_is);(case l=>k_is);(case c=>k_is);(case k=>k_is);(case b=>exact fun _ _ _ _ _ _ us hl=>match us,hl with | [_],_=>rfl)
  have l6:L2.Fd (L2.KOf KX) mg "_law_size" K27.Qk2 K27.ZX:=by
   dsimp only [L2.KOf]
   refine' L2.JG KX G ?a ?l ?c ?k ?b
   (case a=>k_is);(case l=>k_is);(case c=>k_is);(case k=>k_is);(case b=>exact fun _ _ _ _ _ _ us hl=>match us,hl with | [_,_],_=>rfl)
  have l7:L2.Fd (L2.KOf KX) mg "_law_some" K27.Qk1 K27.Br:=by
   dsimp only [L2.KOf]
   refine' L2.JG KX G ?a ?l ?c ?k ?b
   (case a=>k_is);(case l=>k_is);(case c=>k_is);(case k=>k_is);(case b=>exact fun _ _ _ _ _ _ us hl=>match us,hl with | [_,_],_=>rfl)
  have l8:L2.Fd (L2.KOf KX) mg "_law_body" K27.Qk9 K27.Qdb:=by
   dsimp only [L2.KOf]
   refine' L2.JG KX G ?a ?l ?c ?k ?b
   (case a=>k_is);(case l=>k_is);(case c=>k_is);(case k=>k_is);(case b=>exact fun _ _ _ _ _ _ us hl=>match us,hl with | [_,_,_,_],_=>rfl)
  have l9:L2.Fd (L2.KOf KX) mg "_law_bound" K27.Qew ["_law_body_here"]:=by
   dsimp only [L2.KOf]
   refine' L2.JG KX G ?a ?l ?c ?k ?b
   (case a=>k_is);(case l=>k_is);(case c=>k_is);(case k=>k_is);(case b=>exact fun _ _ _ _ _ _ us hl=>match us,hl with | [_],_=>rfl)
  have l10:L2.Fd (L2.KOf KX) mg "_law_rule" K27.Qet K27.BW:=by
   dsimp only [L2.KOf]
   refine' L2.JG KX G ?a ?l ?c ?k ?b
   (case a=>k_is);(case l=>k_is);(case c=>k_is);(case k=>k_is);(case b=>exact fun _ _ _ _ _ _ us hl=>match us,hl with | [_,_,_],_=>rfl)
  have l12:L2.Fd (L2.KOf KX) mg "_law_rules" K27.Qa4 ["_law_script"]:=by
   dsimp only [L2.KOf]
   refine' L2.JG KX G ?a ?l ?c ?k ?b
   (case a=>k_is);(case l=>k_is);(case c=>k_is);(case k=>k_is);(case b=>exact fun _ _ _ _ _ _ us hl=>match us,hl with | [_],_=>rfl)
  have l13:L2.Fd (L2.KOf KX) mg "_law_variables" K27.V.Uv ["_law_rule_here"]:=by
   dsimp only [L2.KOf]
   refine' L2.JG KX G ?a ?l ?c ?k ?b
   (case a=>k_is);(case l=>k_is);(case c=>k_is);(case k=>k_is);(case b=>exact fun _ _ _ _ _ _ us hl=>match us,hl with | [_],_=>rfl)
  have l14:L2.Fd (L2.KOf KX) mg "_law_put" K27.V.Qsi K27.V.Qgk:=by
   dsimp only [L2.KOf]
   refine' L2.JG KX G ?a ?l ?c ?k ?b
   (case a=>k_is);(case l=>k_is);(case c=>k_is);(case k=>k_is);(case b=>exact fun _ _ _ _ _ _ us hl=>match us,hl with | [_,_],_=>rfl)
  have l15:L2.Fd (L2.KOf KX) mg "_law_given" K27.V.Qev K27.V.BX:=by
   dsimp only [L2.KOf]
   refine' L2.JG KX G ?a ?l ?c ?k ?b
   (case a=>k_is);(case l=>k_is);(case c=>k_is);(case k=>k_is);(case b=>exact fun _ _ _ _ _ _ us hl=>match us,hl with | [_,_],_=>rfl)
  have l16:L2.Fd (L2.KOf KX) mg "_law_place" K27.Qeq K27.BU:=by
   dsimp only [L2.KOf]
   refine' L2.JG KX G ?a ?l ?c ?k ?b
   (case a=>k_is);(case l=>k_is);(case c=>k_is);(case k=>k_is);(case b=>exact fun _ _ _ _ _ _ us hl=>match us,hl with | [_,_],_=>rfl)
  have l17:L2.Fd (L2.KOf KX) mg "_law_unfolded" K27.Qk0 K27.Qd8:=by
   dsimp only [L2.KOf]
   refine' L2.JG KX G ?a ?l ?c ?k ?b
   (case a=>k_is);(case l=>k_is);(case c=>k_is);(case k=>k_is);(case b=>exact fun _ _ _ _ _ _ us hl=>match us,hl with | [_,_,_],_=>rfl)
  have l18:L2.Fd (L2.KOf KX) mg "_law_may_be_full" K27.Qsk K27.Qm8:=by
   dsimp only [L2.KOf]
   refine' L2.JG KX G ?a ?l ?c ?k ?b
   (case a=>k_is);(case l=>k_is);(case c=>k_is);(case k=>k_is);(case b=>exact fun _ _ _ _ _ _ us hl=>match us,hl with | [_,_,_],_=>rfl)
  have l19:L2.Fd (L2.KOf KX) mg "_law_form" K27.Qk7 ["_law_rule_here"]:=by
   dsimp only [L2.KOf]
   refine' L2.JG KX G ?a ?l ?c ?k ?b
   (case a=>k_is);(case l=>k_is);(case c=>k_is);(case k=>k_is);(case b=>exact fun _ _ _ _ _ _ us hl=>match us,hl with | [_],_=>rfl)
  have l20:L2.Fd (L2.KOf KX) mg "_law_is_instance" K27.Oj K27.Qda:=by
   dsimp only [L2.KOf]
   refine' L2.JG KX G ?a ?l ?c ?k ?b
   (case a=>k_is);(case l=>k_is);(case c=>k_is);(case k=>k_is);(case b=>exact fun _ _ _ _ _ _ us hl=>match us,hl with | [_,_],_=>rfl)
  have l21:L2.Fd (L2.KOf KX) mg "_law_in_order" K27.Qav K27.BV:=by
   dsimp only [L2.KOf]
   refine' L2.JG KX G ?a ?l ?c ?k ?b
   (case a=>k_is);(case l=>k_is);(case c=>k_is);(case k=>k_is);(case b=>exact fun _ _ _ _ _ _ us hl=>match us,hl with | [_,_],_=>rfl)
  have l22:L2.Fd (L2.KOf KX) mg "_law_ground" K27.Qa5 K27.YD:=by
   dsimp only [L2.KOf]
   refine' L2.JG KX G ?a ?l ?c ?k ?b
   (case a=>k_is);(case l=>k_is);(case c=>k_is);(case k=>k_is);(case b=>exact fun _ _ _ _ _ _ us hl=>match us,hl with | [_,_],_=>rfl)
  have l23:L2.Fd (L2.KOf KX) mg "_law_all_there" K27.Qgc K27.Qdc:=by
   dsimp only [L2.KOf]
   refine' L2.JG KX G ?a ?l ?c ?k ?b
   (case a=>k_is);(case l=>k_is);(case c=>k_is);(case k=>k_is);(case b=>exact fun _ _ _ _ _ _ us hl=>match us,hl with | [_,_,_,_,_],_=>rfl)
  have b1:mg "isinstance" =none:=by (refine' W.mg_none_of KX G ?a);(case a=>k_is)
  have b2:mg "str" =none:=by (refine' W.mg_none_of KX G ?a);(case a=>k_is)
  have b3:mg "tuple" =none:=by (refine' W.mg_none_of KX G ?a);(case a=>k_is)
  have b4:mg "len" =none:=by (refine' W.mg_none_of KX G ?a);(case a=>k_is)
  have b5:mg "int" =none:=by (refine' W.mg_none_of KX G ?a);(case a=>k_is)
  have b6:mg "range" =none:=by (refine' W.mg_none_of KX G ?a);(case a=>k_is)
  have b7:mg "bool" =none:=by (refine' W.mg_none_of KX G ?a);(case a=>k_is)
  have b8:mg "set" =none:=by (refine' W.mg_none_of KX G ?a);(case a=>k_is)
  have b9:mg "sorted" =none:=by (refine' W.mg_none_of KX G ?a);(case a=>k_is)
  have b10:mg "dict" =none:=by (refine' W.mg_none_of KX G ?a);(case a=>k_is)
  have b11:mg "enumerate" =none:=by (refine' W.mg_none_of KX G ?a);(case a=>k_is)
  have b12:mg "list" =none:=by (refine' W.mg_none_of KX G ?a);(case a=>k_is)
  have b13:mg "zip" =none:=by (refine' W.mg_none_of KX G ?a);(case a=>k_is)
  have b14:mg "any" =none:=by (refine' W.mg_none_of KX G ?a);(case a=>k_is)
  have t100: ∃ t,mg "CAPITAL_LETTERS" =some (.str RH.CAPS t):=by (refine' L2.Quj KX G ?a);(case a=>k_is)
  have u0: ∃ t,mg "MOST_LITERALS" =some (.int 4 t):=by (refine' L2.Qky KX G ?a);(case a=>k_is)
  have u1: ∃ t,mg "MOST_RULES" =some (.int 16 t):=by (refine' L2.Qky KX G ?a);(case a=>k_is)
  have T:K27.Txt (L2.KOf KX) mg:=⟨b1,b2,b3,b4,b5,b6,b7,b8,b9,b10,b11,b12,b13,b14,t100,u0,u1⟩;have CC:Nonempty (K27.Cl (L2.KOf KX) mg):=by
   dsimp only [L2.KOf]
   refine' K27.Ja7 KX G ?e0 ?e1 ?e2 ?e3 ?e4 ?e5 ?e6 ?e7 ?e8 ?e9 ?e10 ?e11 ?e12 ?e13 ?e14 ?e15 ?e16 ?e17 ?e18 ?e19 ?e20 ?e21 ?e22 ?e23 ?e24 ?e25 ?e26 ?e27 ?e28 ?e29
   (case e0=>first | k_is | kernel_rfl)
   (case e1=>first | k_is | kernel_rfl)
   (case e2=>first | k_is | kernel_rfl)
   (case e3=>first | k_is | kernel_rfl)
   (case e4=>first | k_is | kernel_rfl)
   (case e5=>first | k_is | kernel_rfl)
   (case e6=>first | k_is | kernel_rfl)
   (case e7=>first | k_is | kernel_rfl)
   (case e8=>first | k_is | kernel_rfl)
   (case e9=>first | k_is | kernel_rfl)
   (case e10=>first | k_is | kernel_rfl)
   (case e11=>first | k_is | kernel_rfl)
   (case e12=>first | k_is | kernel_rfl)
   (case e13=>first | k_is | kernel_rfl)
   (case e14=>first | k_is | kernel_rfl)
   (case e15=>first | k_is | kernel_rfl)
   (case e16=>first | k_is | kernel_rfl)
   (case e17=>first | k_is | kernel_rfl)
   (case e18=>first | k_is | kernel_rfl)
   (case e19=>first | k_is | kernel_rfl)
   (case e20=>first | k_is | kernel_rfl)
   (case e21=>first | k_is | kernel_rfl)
   (case e22=>first | k_is | kernel_rfl)
   (case e23=>first | k_is | kernel_rfl)
   (case e24=>first | k_is | kernel_rfl)
   (case e25=>first | k_is | kernel_rfl)
   (case e26=>first | k_is | kernel_rfl)
   (case e27=>first | k_is | kernel_rfl)
   (case e28=>first | k_is | kernel_rfl)
   (case e29=>first | k_is | kernel_rfl)
  obtain ⟨C⟩:=CC
  refine' L2.Qzu (st:=K27.Qih) KX G hmg ?a ?l ?b ?F
  (case a=>k_is);(case l=>k_is);(case b=>exact fun s u=> .of_eq rfl)
  (case F =>
   intro base
   refine' K27.all T C (L2.Qj4 (st:=K27.Qih) ?l ?c ?k) f1 f2 f3 f4 f5 f6 t20 t21 t23 t24 t25 t26 t32 t27 t28 t29 t30 t31 l1 l2 l3 l4 l5 l6 l7 l8 l9 l10 l12 l13 l14 l15 l16 l17 l18 l19 l20 l21 l22 l23
   (case l=>k_is);(case c=>k_is);(case k=>k_is))
