import PyProof.Rows.All
import Wide.All
import OpenK.AllK
import Wide.FinOn
import Lean
import PyProof.EqAt
import PyProof.EqKinds
import PyProof.TupleCall
import PyProof.CallType
import PyProof.WalkLemmas
import PyProof.StrOps
import PyProof.ForAny
import PyProof.IsInstanceH
import PyProof.IsiFacts
import PyProof.IsiFacts2
import PyProof.FactsAll.object
import PyProof.ListMulRoad
import PyProof.FactsAll.tuple_2
import PyProof.StrLawsIdx
import KE.KDictList
import PyProof.Rows.Range3
import PyProof.EnumMake
import PyProof.EnumFor
import PyProof.CompUse
import PyProof.ExcClass3
import PyProof.ExcBaseAll.ValueError
import PyProof.InstStoreFacts
import PyProof.ExcArgsOwn
import PyProof.ExcAttrAll.ValueError
import PyProof.ListStr
import PyProof.NeKinds
import PyProof.IsInstanceT
import PyProof.FString5
import PyProof.Rows.SeqMore2
import PyProof.IsiPairs
import PyProof.StrCalls3
import KE.KSortTup
import KE.KSortKey
import PyProof.Rows.SortStr
import KE.KLam
import KE.KDictOf
import KE.KEqDict
import KE.KDictSum
import PyProof.AttrMissHeap
import PyProof.DictWalks
import PyProof.Rows.TupTab
import PyProof.DictItems
import PyProof.FactsAll.set_1
import KE.KRevIter
import PySem.Challenge.RW_shardask_k65_store_refused
set_option Elab.async false
set_option linter.all false
set_option compiler.extract_closed false
set_option maxRecDepth 100000
set_option maxHeartbeats 6400000
local macro_rules|`(tactic|trivial)=>`(tactic|(intro a b c d h;first|(cases h;subst_vars;rfl)|(repeat (first|(obtain ⟨e,_⟩:=h;subst e;rfl)|(obtain ⟨_,h⟩:=h)|fail))))
abbrev n6:List PySem.Str:=["self","name"]
abbrev n7:List PySem.Str:=["_law_store","_law_way","_law_name","_law_one","_law_other"]
abbrev n8:List PySem.Str:=["_law_state","_law_many"]
abbrev o4:List PySem.Str:=["_law_state","_law_store","_law_names_here","_law_tables","_law_houses","_law_cuts","_law_busy"]
abbrev o5:List PySem.Str:=["_law_state","_law_names_here","_law_tables","_law_houses","_law_cuts","_law_busy"]
abbrev o6:List PySem.Str:=["thing"]
abbrev o7:List PySem.Str:=["_law_state","_law_head_here"]
abbrev o8:List PySem.Str:=["self","houses","tables"]
abbrev o9:List PySem.Str:=["thing","least","most","is_part"]
abbrev u5:List PySem.Str:=["head","thing"]
abbrev u6:List PySem.Str:=["placed","name"]
abbrev u9:List PySem.Str:=["houses","tables"]
abbrev z8:List PySem.Str:=["thing","houses"]
abbrev bQA:List PySem.Str:=["self","name","row"]
abbrev bQB:List PySem.Str:=["head","placing","row","house","houses"]
abbrev bQC:List PySem.Str:=["self","name","number","house"]
abbrev bQD:List PySem.Str:=["_law_state","_law_kind"]
abbrev bQE:List PySem.Str:=["head","name"]
abbrev bQF:List PySem.Str:=["thing","many"]
abbrev bQG:List PySem.Str:=["table","house","houses"]
abbrev bQH:List PySem.Str:=["_law_state","_law_names_here"]
abbrev bQI:List PySem.Str:=["_law_store","_law_names_here"]
abbrev bQJ:List PySem.Str:=["thing","head","houses"]
abbrev bQK:List PySem.Str:=["_law_script"]
abbrev bQL:List PySem.Str:=["thing","kind"]
abbrev bQM:List PySem.Str:=["table","cuts"]
abbrev bQN:List PySem.Str:=["self","name","many"]
abbrev bQO:List PySem.Str:=["thing","texts"]
abbrev bQP:List PySem.Str:=["thing","kind","houses"]
abbrev bQQ:List PySem.Str:=["self","act"]
abbrev bQR:List PySem.Str:=["table","rows"]
abbrev bQS:List PySem.Str:=["self","name","house"]
abbrev bQT:List PySem.Str:=["table","number"]
abbrev bQU:List PySem.Str:=["row","mark"]
abbrev bQV:List PySem.Str:=["self","name","low"]
abbrev bQW:List PySem.Str:=["thing","head"]
abbrev bQX:List PySem.Str:=["cuts","value"]
section
open PySem PySem.Spec PySem.Calls PyProof.Rows
def b7:=@wpAny_bind
def b8:=@List.getElem?_eq_getElem
def d7:=@Heap.get?_push_of_some
def d8:=@wpAny_pure
def d9:=@List.size_toArray
def j0:=@Nat.le_refl
def j4:=@List.mem_cons_self
def j5:=@List.mem_cons_of_mem
def j6:=@Array.getElem?_eq_getElem
def j7:=@List.length_map
def j8:=@Heap.get?_push_size
def j9:=@List.getD_eq_getElem?_getD
def m8:=@List.mem_of_getElem?
def m9:=@Heap.lt_size
def t6:=@List.length_cons
def t7:=@List.getElem?_map
def v4:=@decide_eq_true
def v5:=@decide_eq_false
def v6:=@Bool.false_ne_true
def v7:=@Nat.ne_of_lt
def v8:=@Array.getD_eq_getD_getElem?
def v9:=@Array.length_toList
def z9:=@List.not_mem_nil
def bAA:=@Nat.lt_of_lt_of_le
def bAB:=@List.length_append
def bAC:=@List.mem_cons
def bAD:=@List.getElem?_eq_none
def bAE:=@Nat.le_trans
def bAF:=@Nat.zero_le
def bAG:=@wpAny_newObj_type
def bAH:=@Option.some.inj
def bAI:=@List.map_cons
def bAJ:=@Int.toNat_natCast
def bAK:=@wpAny_callSpecial?_slot
def bAL:=@wpAny_call_entry
def bAM:=@List.length_range
def bAN:=@wpAny_field
def bAO:=@List.mem_append_right
def bAP:=@wpAny_holding
def bAQ:=@wpAny_setField_rec
def bAR:=@List.length_take
def bAS:=@Heap.get?_update_self
def bAT:=@Bool.and_eq_true
def bAU:=@List.getElem_mem
def bAV:=@List.take_of_length_le
def bAW:=@List.getElem?_append_right
def bAX:=@List.eq_nil_of_length_eq_zero
def bAY:=@List.map_append
def bAZ:=@List.getElem?_append_left
def bBA:=@Around.under_plainId
def bBB:=@wpAny_truthy_bool
def bBC:=@Bool.false_eq_true
def bBD:=@Heap.SameBut.update
def bBE:=@Option.bind_some
def bBF:=@Heap.get?_update_other
def bBG:=@wpAny_seqItems
def bBH:=@wpAny_mono
def bBI:=@wpAny_Call_Name_kw
def bBJ:=@List.getElem_of_mem
def bBK:=@codeAny_builtin
def bBL:=@List.length_drop
def bBM:=@List.getElem_toArray
def bBN:=@List.contains_cons
def bBO:=@Array.getElem?_eq_none
def bBP:=@Heap.size_push
def bBQ:=@Nat.lt_irrefl
def bBR:=@Option.getD_some
def bBS:=@wpAny_setState_of
def bBT:=@List.mem_append_left
def bBU:=@List.append_nil
def bBV:=@List.length_nil
def bBW:=@List.take_add_one
def bBX:=@wpAny_loadPart_at
def bBY:=@Array.getElem?_toList
def bBZ:=@wpAny_setField
def bCA:=@wpAny_attempt
def bCB:=@List.find?_cons
def bCC:=@Calls.spliced_cons
def bCD:=@Nat.lt_of_le_of_lt
def bCE:=@codeAny_call_builtin
def bCF:=@List.all_eq_true
def bCG:=@PyProof.Rows.callWith_type1
def bCH:=@plainId_quiet
def bCI:=@codeAny_mono
def bCJ:=@Nat.lt_succ_of_lt
def bCK:=@List.set_set
def bCL:=@List.filterMap_cons
def bCM:=@Bool.eq_iff_iff
def bCN:=@PyProof.Rows.slot_tuple_getitem
def bCO:=@wpAny_typeNameOfWhole_itemiter
def bCP:=@Nat.ne_of_gt
def bCQ:=@List.eq_of_mem_replicate
def bCR:=@wpAny_pyIter_list
def bCS:=@List.ext_getElem?
def bCT:=@wpAny_call
def bCU:=@SeqAt.EqAt.same
def bCV:=@List.getElem?_range
def bCW:=@PyProof.Rows.F.plain_set_update_loop
def bCX:=@List.mem_map_of_mem
def bCY:=@Nat.lt_succ_self
def bCZ:=@List.lookup_cons
def bDA:=@List.mem_singleton
def bDB:=@Nat.le_succ
def bDC:=@List.append_assoc
def bDD:=@Array.toList_append
def bDE:=@wpAny_isSubtype_exc
def bDF:=@wpAny_setEntries_of
def bDG:=@wpAny_isInstance
def bDH:=@Nat.le_add_right
def bDI:=@wpAny_askSetting
def bDJ:=@Nat.le_of_lt
def bDK:=@List.getElem?_set_self
def bDL:=@SeqAt.EqAt.str_str
def bDM:=@Calls.callWith_builtin
def bDN:=@Bool.or_true
def bDO:=@Obj.data_mapFields
def bDP:=@SeqAt.EqAt.of_refs
def bDQ:=@List.map_map
def bDR:=@List.forIn_cons
def bDS:=@Option.map_some
def bDT:=@PySem.W.mg_of
def bDU:=@List.length_replicate
def bDV:=@List.length_filter_le
def bDW:=@Obj.isFreed_of_fields
def bDX:=@Array.mem_of_getElem?
def bDY:=@Nat.le_of_ble_eq_true
def bDZ:=@Heap.get?_none_of_le
def bEA:=@Calls.Name_function_global
def bEB:=@wpAny_rule
def bEC:=@wpAny_fieldsOf
def bED:=@List.take_length
def bEE:=@List.filter_cons
def bEF:=@List.any_eq_true
def bEG:=@Nat.zero_lt_succ
def bEH:=@List.drop_eq_getElem_cons
def bEI:=@PyProof.Rows.F.entry_set_update_loop
def bEJ:=@Heap.get?_update_ne
def bEK:=@List.getElem?_take_of_lt
def bEL:=@wpAny_onRaise
def bEM:=@List.Pairwise.imp_of_mem
def bEN:=@wpAny_passesOwn
def bEO:=@List.nil_append
def bEP:=@wpAny_pyIter_tuple
def bEQ:=@List.filterMap_map
def bER:=@SeqAt.EqAt.int_int
def bES:=@SeqAt.notIn_listAt
def bET:=@Int.emod_lt_of_pos
def bEU:=@wpAny_of_eq
def bEV:=@List.getElem?_cons_succ
def bEW:=@Calls.spliced_nil
def bEX:=@wpAny_typeOf
def bEY:=@Nat.lt_trans
def bEZ:=@List.drop_of_length_le
def bFA:=@Heap.get?_push_ne
def bFB:=@wpAny_isOneOf_itemiter
def bFC:=@wpAny_pyIter_slot
def bFD:=@Nat.lt_trichotomy
def bFE:=@Array.getElem?_setIfInBounds_ne
def bFF:=@List.length_singleton
def bFG:=@List.getElem?_toArray
def bFH:=@PyProof.Rows.callWith_builtin1
def bFI:=@wpAny_forIn_list
def bFJ:=@wpAny_standAt
def bFK:=@List.all_cons
def bFL:=@List.any_cons
def bFM:=@wpAny_handled
def bFN:=@List.take_nil
def bFO:=@List.getElem?_set_ne
def bFP:=@Calls.evalArgs_plain
def bFQ:=@wpAny_execs_nil
def bFR:=@Nat.not_lt_zero
def bFS:=@List.mem_append
def bFT:=@List.nodup_cons
def bFU:=@Int.emod_nonneg
def bFV:=@wpAny_ite_split
def bFW:=@Nat.zero_add
def bFX:=@Int.zero_add
def bFY:=@List.forIn_nil
def bFZ:=@wpAny_newTuple
def bF0:=@Nat.lt_or_eq_of_le
def bF1:=@List.map_replicate
def bF2:=@List.length_eraseIdx_of_lt
def bF3:=@List.take_sublist
def bF4:=@wpAny_throw
def bF5:=@wpAny_letGo
def bF6:=@Option.isSome_map
def bF7:=@Array.getElem_mem
def bF8:=@wpAny_dictEntries
abbrev bF9:=PySem.W.Frag
abbrev bGA:=Value->Shared->Prop
abbrev bGB:=List (Addr × Obj)
abbrev bGC:=Str->Option Value
end
local macro_rules
  | `(tactic| trivial) => `(tactic| first | exact Or.inl rfl | exact Or.inr rfl | exact Or.inr (Or.inl rfl) | exact Or.inr (Or.inr rfl) | exact⟨rfl, rfl, rfl, by decide +kernel, rfl, by decide +kernel, by decide +kernel⟩ | exact⟨by decide +kernel, rfl, by decide +kernel, by decide +kernel⟩ | decide +kernel | fail)
namespace L2
open PySem PySem.Spec PyProof.Rows
abbrev Key:=Sum Int Str
def wR:Key->Value->Bool
 |.inl k,v=>Value.isInt k v
 |.inr x,v=>Value.isStrOf x v
def bE3 (w:World):Key->Int
 |.inl k=>hashInt k
 |.inr x=>hashStr w x
theorem dI:∀{k:Key} {v:Value},wR k v=true->(∃i t,k=Sum.inl i/\v=Value.int i t)\/(∃x t,k=Sum.inr x/\v=Value.str x t)
 |.inl i,v,h=>by obtain⟨t,e⟩:=Value.isInt_shape h;exact .inl ⟨i,t,rfl,e⟩
 |.inr x,v,h=>by obtain⟨t,e⟩:=Value.isStrOf_shape h;exact .inr ⟨x,t,rfl,e⟩
def aDb (i:Int)(t:Tok):wR (.inl i) (.int i t)=true:=by simp[wR,Value.isInt]
def aEb (x:Str)(t:Tok):wR (.inr x) (.str x t)=true:=by simp[wR,Value.isStrOf]
def bAy (a b:Int):decide ((Sum.inl a:Key)=Sum.inl b)=(a == b):=by
 by_cases e:a=b
 ·subst e;simp
 ·have h:¬ (Sum.inl a:Key)=Sum.inl b:=λq=>e (Sum.inl.inj q);rw[v5 h];exact (beq_eq_false_iff_ne.mpr e).symm
def aZ0 (a b:Str):decide ((Sum.inr a:Key)=Sum.inr b)=decide (a=b):=by
 by_cases e:a=b
 ·subst e;simp
 ·have h:¬ (Sum.inr a:Key)=Sum.inr b:=λq=>e (Sum.inr.inj q);rw[v5 h,v5 e]
def bCs (a:Int)(b:Str):decide ((Sum.inl a:Key)=Sum.inr b)=false:=v5 (λq=>nomatch q)
def bAi (a:Str)(b:Int):decide ((Sum.inr a:Key)=Sum.inl b)=false:=v5 (λq=>nomatch q)
def bU (prog:Program)(w:World):PySem.KeyKind prog w Key where
 is:=wR
 hash:=bE3 w
 inj:=λv a b ha hb=>by
  rcases dI ha with⟨i,t,rfl,rfl⟩|⟨x,t,rfl,rfl⟩
  ·rcases dI hb with⟨j,u,rfl,e⟩|⟨y,u,rfl,e⟩
   ·injection e with e1 _;rw[e1]
   ·exact nomatch e
  ·rcases dI hb with⟨j,u,rfl,e⟩|⟨y,u,rfl,e⟩
   ·exact nomatch e
   ·injection e with e1 _;rw[e1]
 byValue:=λk v h=>by rcases dI h with⟨i,t,rfl,rfl⟩|⟨x,t,rfl,rfl⟩ <;> rfl
 pyHash:=λhv h=>by
  rcases dI hv with⟨i,t,rfl,rfl⟩|⟨x,t,rfl,rfl⟩
  ·exact wpAny_pyHash_int h
  ·exact wpAny_pyHash_str h
 eqBool:=λhu hv h=>by
  rcases dI hu with⟨i,t,rfl,rfl⟩|⟨x,t,rfl,rfl⟩
  ·rcases dI hv with⟨j,u,rfl,rfl⟩|⟨y,u,rfl,rfl⟩
   ·rw[bAy] at h;exact wpAny_eqBool_int h
   ·rw[bCs] at h;exact SeqAt.EqAt.int_str i t y u _ _ _ _ h
  ·rcases dI hv with⟨j,u,rfl,rfl⟩|⟨y,u,rfl,rfl⟩
   ·rw[bAi] at h;exact SeqAt.EqAt.str_int x t j u _ _ _ _ h
   ·rw[aZ0] at h;exact wpAny_eqBool_str h
 «strs»:=λk x t v h=>by
  rcases dI h with⟨i,u,rfl,e⟩|⟨y,u,rfl,e⟩
  ·exact nomatch e
  ·injection e with e1 _;subst e1;cases v <;> rfl
def aHd (prog:Program)(w:World)(i:Int)(t:Tok):(bU prog w).is (.inl i) (.int i t)=true:=aDb i t
def aJl (prog:Program)(w:World)(x:Str)(t:Tok):(bU prog w).is (.inr x) (.str x t)=true:=aEb x t
inductive V where
 |non|bl (b:Bool)|int (i:Int)|str (x:Str)|byt (b:Array UInt8)|flt (b:UInt64)|ref (a:Addr)|ty (n:String)
 deriving DecidableEq
def RelV:V->Value->Prop
 |.non,u=>u=Value.none
 |.bl b,u=>u=Value.bool b
 |.int i,u=>∃t,u=Value.int i t
 |.str x,u=>∃t,u=Value.str x t
 |.byt b,u=>∃t,u=Value.bytes b t
 |.flt b,u=>∃t,u=Value.float b t
 |.ref a,u=>u=Value.ref a
 |.ty n,u=>u=Value.type n
abbrev Vals:List V->List Value->Prop:=Paired RelV
def Vals.length (r:Vals xs us):xs.length=us.length:=Paired.length r
theorem Vals.get:∀{xs:List V} {us:List Value} {i:Nat} {x:V},Vals xs us->xs[i]?=some x->∃u,us[i]?=some u/\RelV x u
 |_,_,_,_,.nil,e=>by simp at e
 |_,_,0,_,.cons r _,e=>by simp at e;subst e;exact⟨_,rfl,r⟩
 |_,_,i+1,x,.cons _ t,e=>by obtain⟨u,b,a⟩:=Vals.get t (by simpa using e);exact⟨u,by simpa using b,a⟩
theorem Vals.set (r:RelV x u):∀{xs:List V} {us:List Value} (i:Nat),Vals xs us->Vals (xs.set i x) (us.set i u)
 |_,_,_,.nil=>.nil
 |_,_,0,.cons _ t=>.cons r t
 |_,_,i+1,.cons q t=>.cons q (Vals.set r i t)
theorem Vals.append:∀{xs ys:List V} {us ws:List Value},Vals xs us->Vals ys ws->Vals (xs++ys) (us++ws)
 |_,_,_,_,.nil,s=>s
 |_,_,_,_,.cons r t,s=>.cons r (Vals.append t s)
theorem Vals.take:∀{xs:List V} {us:List Value} (n:Nat),Vals xs us->Vals (xs.take n) (us.take n)
 |_,_,0,_=>.nil
 |_,_,_+1,.nil=>.nil
 |_,_,n+1,.cons r t=>.cons r (Vals.take n t)
theorem Vals.drop:∀{xs:List V} {us:List Value} (n:Nat),Vals xs us->Vals (xs.drop n) (us.drop n)
 |_,_,0,r=>r
 |_,_,_+1,.nil=>.nil
 |_,_,n+1,.cons _ t=>Vals.drop n t
def lX:Option V->Option Value->Prop
 |some v,some u=>RelV v u
 |none,none=>True
 |_,_=>False
def KV {κ:Type}:List (κ × V)->List (κ × Value)->Prop:=Paired λp q=>p.1=q.1/\RelV p.2 q.2
def kV:Key->V
 |.inl i=>.int i
 |.inr x=>.str x
inductive HO where
  |lst (xs:List V)
  |tup (xs:List V)
  |dK (kvs:List (Key × V))|dT (kvs:List (List Key × V))
  |set (S:Int->Bool) (n:Nat)
  |ins (C dx:Addr) (fs:List (Str × V))
  |own (x:Addr)
  |xd (fs:List (Str × V))
  |met (f x:Addr)
  |rng (lo hi:Int)
  |frz (o:Obj) (u:HO)
  |tbl (ps:Array Value)
  |tab (q:Str)
  |ext (φ:Heap->Prop)
abbrev Hp:=Addr->Option HO
def upd (H:Hp)(a:Addr)(o:HO):Hp:=λb=>if b=a then some o else H b
def aG:upd H a o a=some o:=by unfold upd;rw[if_pos rfl]
def aM (h:b≠a):upd H a o b=H b:=by unfold upd;rw[if_neg h]
def aN3:upd (upd H a o) a u=upd H a u:=by funext b;unfold upd;split <;> rfl
def aKk {H:Hp}{a b:Addr}{o u:HO}(h:H a=some o)(h':H b=some u)(d:o≠u):a≠b:=by intro e;subst e;rw[h] at h';exact d (bAH h')
def aW {H:Hp}{a b:Addr}{o:HO}(h:H a=some o)(h':H b=none):a≠b:=by intro e;subst e;rw[h] at h';cases h'
def yJ (h:Heap)(a:Addr)(items:Array Value):Prop:=IsTup h a items/\∀o,h.get? a=some o->o.dict=none
def yJ.of (e:h.get? a=some o)(d:o.dict=none)(x:IsTup h a items):yJ h a items:=⟨x,λc b=>by rw[e] at b;cases b;exact d⟩
def yJ.new (h:Heap)(items:Array Value):yJ (h.push { cls:=.type "tuple",data:=.seq items }) h.objs.size items:=.of (j8 _ rfl) rfl (IsTup.new _ _)
def yJ.keep (x:yJ h a items)(k:∀o,h.get? a=some o->h'.get? a=some o):yJ h' a items:=by obtain⟨⟨o,e,c⟩,d⟩:=x;exact .of (k o e) (d o e) ⟨o,k o e,c⟩
section
variable (P:Program)(w:World)
def cV (H:Hp)(h:Heap)(a:Addr):HO->Prop
 |.lst xs=>xs.length<=sizeLine/\∃its n,Vals xs its/\h.get? a=some { cls:=.type "list",data:=.seq its.toArray n }
 |.tup xs=>xs.length<=sizeLine/\∃its:List Value,Vals xs its/\yJ h a its.toArray
 |.dK kvs=>kvs.length<=sizeLine/\(a == sysModules)=false/\∃vs,KV kvs vs/\h.DictOf (bU P w) a vs
 |.dT kvs=>kvs.length<=sizeLine/\(a == sysModules)=false/\∃xs:List (List Key × Addr × Value),
   Paired (λp q=>p.1=q.1/\H q.2.1=some (.tup (p.1.map kV))/\RelV p.2 q.2.2) kvs xs /\
   ∃o es ep,h.get? a=some o/\o.ExactDict/\o.data=.dict es ep/\es.toList=xs.map (entryOfKey (tupleKind (bU P w)))/\(xs.map (·.1)).Nodup
 |.set S n=>h.SetOf (intKind P w) a S n
 |.ins C dx fs=>H dx=some (.own a)/\fs.length<=1000/\dx≠a/\h.get? a=some (PySem.W.instObj C dx) /\
   ∃mA,h.Ns1 dx mA/\(∀f,lX (fs.lookup f) (mA f))/\PySem.Within mA (fs.map (·.1))
 |.own _=>∃o,h.get? a=some o
 |.xd fs=>∃mA,h.Ns1 a mA/\∀f,lX (fs.lookup f) (mA f)
 |.rng lo hi=>∃t u v,h.get? a=some { cls:=.type "range",data:=.fields #[.int lo t,.int hi u,.int 1 v] }
 |.frz o u=>h.get? a=some o/\cV H h a u
 |.tbl ps=>h.get? a=some { cls:=.none,data:=.fields ps }
 |.tab q=>∃ps:Array Value,h.get? a=some { cls:=.none,data:=.fields ps }/\TriplesOk ps.toList/\∀pos cv,codeAmong pos ps.toList=some cv->∃c oc vs t,cv=.ref c/\H c=some (.own a)/\h.get? c=some oc/\oc.data=.fields vs/\vs[1]?=some (.str q t)
 |.met f x=>h.get? a=some (PySem.W.methodObj (.ref f) (.ref x))
 |.ext φ=>φ h/\(∃o,h.get? a=some o)/\∀h1 h2:Heap,φ h1->(∀o,h1.get? a=some o->h2.get? a=some o)->φ h2
def HOk (H:Hp)(h:Heap):Prop:=∀a o,H a=some o->cV P w H h a o
end
def cV.lt (x:cV P w H h a o):a<h.objs.size:=by
 cases o with
 |lst xs=>obtain⟨_,_,_,_,e⟩:=x;exact m9 e
 |tup xs=>obtain⟨_,_,_,p⟩:=x;exact p.1.lt
 |dK kvs=>obtain⟨_,_,_,_,o,_,_,e,_⟩:=x;exact m9 e
 |dT kvs=>obtain⟨_,_,_,_,o,_,_,e,_⟩:=x;exact m9 e
 |set S n=>obtain⟨o,_,_,_,e,_⟩:=x;exact m9 e
 |ins C dx fs=>obtain⟨_,_,_,e,_⟩:=x;exact m9 e
 |own y=>obtain⟨_,e⟩:=x;exact m9 e
 |xd fs=>obtain⟨_,⟨_,_,_,e,_⟩,_⟩:=x;exact m9 e
 |rng lo hi=>obtain⟨_,_,_,e⟩:=x;exact m9 e
 |frz ob u=>obtain⟨e,_⟩:=x;exact m9 e
 |tbl ps=>exact m9 (show h.get? a=some _ from x)
 |tab q=>obtain⟨_,e,_⟩:=x;exact m9 e
 |met f y=>exact m9 (show h.get? a=some _ from x)
 |ext φ=>obtain⟨_,⟨_,e⟩,_⟩:=x;exact m9 e
theorem Paired.bB3 {α β:Type}{F G:α->β->Prop}:∀{l₁:List α} {l₂:List β},Paired F l₁ l₂->(∀a b,F a b->G a b)->Paired G l₁ l₂
 |_,_,.nil,_=>.nil
 |_,_,.cons r t,f=>.cons (f _ _ r) (Paired.bB3 t f)
def cV.stay (x:cV P w H h a o)(k:∀b u,(b=a\/H b=some (.own a))->h.get? b=some u->h'.get? b=some u)
  (ho:∀b,H b=some (.own a)->H' b=some (.own a)) (J:∀b xs,H b=some (.tup xs)->H' b=some (.tup xs)):cV P w H' h' a o:=by
 induction o with
 |lst xs=>obtain⟨z,l,n,r,e⟩:=x;exact⟨z,l,n,r,k _ _ (.inl rfl) e⟩
 |tup xs=>obtain⟨z,l,r,p⟩:=x;exact⟨z,l,r,p.keep λo e=>k _ _ (.inl rfl) e⟩
 |dK kvs=>obtain⟨z,y,B,r,j,i,g,e,c⟩:=x;exact⟨z,y,B,r,j,i,g,k _ _ (.inl rfl) e,c⟩
 |dT kvs=>obtain⟨z,y,xs,r,j,i,g,e,c⟩:=x;exact⟨z,y,xs,Paired.bB3 r λp q z=>⟨z.1,J _ _ z.2.1,z.2.2⟩,j,i,g,k _ _ (.inl rfl) e,c⟩
 |set S n=>obtain⟨j,i,g,t,e,c⟩:=x;exact⟨j,i,g,t,k _ _ (.inl rfl) e,c⟩
 |ins C dx fs=>obtain⟨d,z,F,e,D,⟨A,i,g,G,c⟩,r⟩:=x;exact⟨ho _ d,z,F,k _ _ (.inl rfl) e,D,⟨A,i,g,k _ _ (.inr d) G,c⟩,r⟩
 |own y=>obtain⟨j,e⟩:=x;exact⟨j,k _ _ (.inl rfl) e⟩
 |xd fs=>obtain⟨D,⟨A,i,g,e,c⟩,r⟩:=x;exact⟨D,⟨A,i,g,k _ _ (.inl rfl) e,c⟩,r⟩
 |rng lo hi=>obtain⟨t,u,v,e⟩:=x;exact⟨t,u,v,k _ _ (.inl rfl) e⟩
 |frz j u ih=>obtain⟨e,q⟩:=x;exact⟨k _ _ (.inl rfl) e,ih q⟩
 |tab q=>obtain⟨m,e,t,c⟩:=x;exact⟨m,k _ _ (.inl rfl) e,t,λs I q=>let ⟨c',oc,B,tk,a1,a2,a3,a4⟩:=c s I q;⟨c',oc,B,tk,a1,ho _ a2,k _ _ (.inr a2) a3,a4⟩⟩
 |tbl m=>have e:h.get? a=some { cls:=.none,data:=.fields m }:=x;show h'.get? a=some { cls:=.none,data:=.fields m };exact k a _ (.inl rfl) e
 |met f y=>have e:h.get? a=some (PySem.W.methodObj (.ref f) (.ref y)):=x;show h'.get? a=some (PySem.W.methodObj (.ref f) (.ref y));exact k a _ (.inl rfl) e
 |ext φ=>obtain⟨p,⟨o,e⟩,E⟩:=x;exact⟨E _ _ p λo q=>k _ _ (.inl rfl) q,⟨o,k _ _ (.inl rfl) e⟩,E⟩
def HOk.lt (x:HOk P w H h)(e:H a=some o):a<h.objs.size:=(x a o e).lt
def HOk.fresh (x:HOk P w H h)(e:h.objs.size<=a):H a=none:=by
 cases q:H a with
 |none=>rfl
 |some u=>exact absurd (bAA (x.lt q) e) (bBQ _)
def HOk.kept (x:HOk P w H h)(k:∀b u,h.get? b=some u->h'.get? b=some u):HOk P w H h':=λa o e=>
 (x a o e).stay (λb u _ q=>k b u q) (λ_ q=>q) λ_ _ q=>q
def HOk.laid (x:HOk P w H h)(k:∀b u,h.get? b=some u->h'.get? b=some u)(j:h.objs.size<=a)(g:cV P w (upd H a o) h' a o):HOk P w (upd H a o) h':=λb u e=>by
 have f:=x.fresh j;by_cases d:b=a
 ·subst d;rw[aG] at e;cases e;exact g
 ·rw[aM d] at e;exact (x b u e).stay (λc v _ q=>k c v q) (λc q=>by rw[aM (aW q f)];exact q) λc i q=>by rw[aM (aW q f)];exact q
def Rd (H:Hp)(a:Addr)(u:HO):Prop:=H a=some u\/∃o,H a=some (.frz o u)
def Rd.ok (r:Rd H a u)(x:HOk P w H h):cV P w H h a u:=by
 rcases r with r|⟨o,r⟩
 ·exact x a u r
 ·obtain⟨_,q⟩:=x a _ r;exact q
def Mut:Option HO->Prop
 |some (.lst _)=>True
 |some (.dK _)=>True
 |some (.dT _)=>True
 |some (.set _ _)=>True
 |some (.ins _ _ _)=>True
 |some (.ext _)=>True
 |some (.tab _)=>True
 |_=>False
def HOk.write (s:HOk P w H h)(j:Mut (H x))(p:e=x\/H e=some (.own x))(k:∀b u,b≠e->h.get? b=some u->h'.get? b=some u)(o:∃u,h'.get? e=some u)
  (m:cV P w (upd H x o') h' x o'):HOk P w (upd H x o') h':=λb u q=>by
 have d:∀c y,H c=some (.own y)->c≠x:=λc y r z=>by subst z;rw[r] at j;exact j
 have f:∀c g,H c=some (.tup g)->c≠x:=λc g r z=>by subst z;rw[r] at j;exact j
 by_cases i:b=x
 ·subst i;rw[aG] at q;cases q;exact m
 ·rw[aM i] at q;by_cases a:b=e
  ·have l:H b=some (.own x):=by
    rcases p with z|z
    ·exact absurd (a.trans z) i
    ·rw[a];exact z
   rw[q] at l;cases l;obtain⟨v,n⟩:=o;exact⟨v,by rw[a];exact n⟩
  ·refine (s b u q).stay (λc v hc r=>k c v ?_ r) (λc r=>by rw[aM (d c b r)];exact r) λc g r=>by rw[aM (f c g r)];exact r
   rcases hc with rfl|hc
   ·exact a
   ·rintro rfl;rcases p with z|z
    ·exact d c b hc z
    ·rw[hc] at z;cases z;exact i rfl
structure Un (fs ex:List Addr)(H H':Hp)(h h':Heap):Prop where
 keep:∀b o,h.get? b=some o->H b=none->b∉fs->b∉ex->h'.get? b=some o
 slot:∀b o,h.get? b=some o->H b=none->b∈fs->b∉ex->∃sl,h'.get? b=some { o with slots:=sl }
 free:∀b o,h.get? b=some o->H b=none->b∉ex->H' b=none
 there:∀b o,h.get? b=some o->b∉ex->∃o',h'.get? b=some o'
 tups:∀b xs,H b=some (.tup xs)->H' b=some (.tup xs)
 frzs:∀b o u,H b=some (.frz o u)->H' b=some (.frz o u)
 tbls:∀b ps,H b=some (.tbl ps)->∃more,H' b=some (.tbl (ps++more))
def Un.any (u:Un fs ex H H1 h h1)(q:h.get? b=some ob)(n:H b=none)(c:b∉ex):∃sl,h1.get? b=some { ob with slots:=sl }:=by
 by_cases a:b∈fs
 ·exact u.slot b ob q n a c
 ·exact⟨ob.slots,u.keep b ob q n a c⟩
def Un.kept (k:∀b u,h.get? b=some u->h'.get? b=some u):Un fs ex H H h h':=
 ⟨λb a q _ _ _=>k b a q,λb a q _ _ _=>⟨a.slots,k b a q⟩,λ_ _ _ n _=>n,λb a q _=>⟨a,k b a q⟩,λ_ _ q=>q,λ_ _ _ q=>q,λ_ c q=>⟨#[],by rw[q];simp⟩⟩
def Un.refl:Un fs ex H H h h:=Un.kept λ_ _ q=>q
def Un.laid (k:∀b u,h.get? b=some u->h'.get? b=some u)(e:h.objs.size<=a)(c:H a=none):Un fs ex H (upd H a o) h h' where
 keep:=λb u q _ _ _=>k b u q
 slot:=λb u q _ _ _=>⟨u.slots,k b u q⟩
 free:=λb u q n _=>by rw[aM (v7 (bAA (m9 q) e))];exact n
 there:=λb u q _=>⟨u,k b u q⟩
 tups:=λb d q=>by rw[aM (aW q c)];exact q
 frzs:=λb u d q=>by rw[aM (aW q c)];exact q
 tbls:=λb f q=>⟨#[],by rw[aM (aW q c),q];simp⟩
def Un.write (d:Mut (H x))(m:e=x\/H e=some (.own x))(k:∀b u,b≠e->h.get? b=some u->h'.get? b=some u)(j:∃u,h'.get? e=some u):Un fs ex H (upd H x o) h h':=by
 have g:∀b,H b=none->b≠x:=λb n z=>by subst z;rw[n] at d;exact d
 have f:∀b,H b=none->b≠e:=λb n z=>by
  subst z;rcases m with r|r
  ·exact g b n r
  ·rw[n] at r;cases r
 have c:∀b u,H b=some u->¬ Mut (some u)->b≠x:=λb u q l z=>by subst z;rw[q] at d;exact l d
 refine⟨λb u q n _ _=>k b u (f b n) q,λb u q n _ _=>⟨u.slots,k b u (f b n) q⟩,λb u q n _=>by rw[aM (g b n)];exact n,λb u q _=>?_,
  λb i q=>by rw[aM (c b _ q λz=>z)];exact q,λb u i q=>by rw[aM (c b _ q λz=>z)];exact q,λb p q=>⟨#[],by rw[aM (c b _ q λz=>z),q];simp⟩⟩
 by_cases a:b=e
 ·subst a;exact j
 ·exact⟨u,k b u a q⟩
def trk (h:Heap)(H:Hp):List Addr:=(List.range h.objs.size).filter λa=>(H a).isSome
def aCu (h:Heap)(H:Hp):Heap:=PySem.W.hideAll h (trk h H)
def aRe (h:Heap)(H:Hp):(aCu h H).objs.size=h.objs.size:=PySem.W.hideAll_size _ _
def aUj (e:h.get? b=some o)(n:H b=none):(aCu h H).get? b=some o:=
 PySem.W.hideAll_get _ e λa=>by have q:=(List.mem_filter.mp a).2;rw[n] at q;simp at q
def aXx (e:(aCu h H).get? b=some o):h.get? b=some o/\H b=none:=by
 have a:=PySem.W.of_hideAll (trk h H) e;refine⟨a,?_⟩;cases q:H b with
 |none=>rfl
 |some x=>have c:b∈trk h H:=List.mem_filter.mpr ⟨List.mem_range.mpr (m9 a),by simp[q]⟩;have z:(aCu h H).get? b=none:=PySem.W.hideAll_none (trk h H) c;rw[z] at e;cases e
structure Mod (K:bF9)(mg:bGC)(base:Heap):Prop where
 kin:K.In base
 glob:base.Ns mainGlobals mg
 blt:∃mb,base.Ns builtinsNs mb/\∀x:Str,x≠"__name__"->mb x=bootBuiltins x
 nolimit:base.NoLimit
structure Cx where
 prog:Program
 w:World
 K:bF9
 mg:bGC
 base:Heap
 A:Around
 N:List Str
 s₀:Shared
 H₀:Hp
 env:Env
 outer:List Env
 stack:List Env
 ex:List Addr
 fn:Str->Bool
 calm:Bool
 pn:bGB
 xe:bGA
def frs (l:List Env):List Addr:=l.filterMap (·.frame)
abbrev Cx.fs (X:Cx):List Addr:=frs X.outer
def Vis (sc:Scope)(x:Str):Prop:=sc.names.lookup x=some .local\/sc.names.lookup x=some .cell\/sc.names.lookup x=some .free
def Loc (sc:Scope)(x:Str):Prop:=sc.names.lookup x=some .local\/sc.names.lookup x=some .cell
def Look (env:Env)(h:Heap)(m:bGC)(x:Str)(u:Value):Prop:=
 (env.kindOf x=some .local/\m x=some u)\/((env.kindOf x=some .cell\/env.kindOf x=some .free)/\∃c,env.cells.lookup x=some c/\h.IsCell c (some u))
structure Cx.Ok (X:Cx):Prop where
 mod:Mod X.K X.mg X.base
 kind:X.env.scope.kind=.function
 glob:X.env.globals=mainGlobals
 blt:X.env.builtins=builtinsNs
 above:X.s₀.heap.objs.size<=X.env.locals
 inj:∀x y c,X.env.cells.lookup x=some c->X.env.cells.lookup y=some c->x=y
 has:∀x,(X.env.kindOf x=some .cell\/X.env.kindOf x=some .free)->∃c,X.env.cells.lookup x=some c
 cab:∀x c,X.fn x=true->X.env.cells.lookup x=some c->X.s₀.heap.objs.size<=c
 hd:X.calm=true->X.A.handled=none
 frames:X.A.frames=some X.stack
 stk:X.stack=X.outer\/(X.stack=X.env::X.outer/\X.env.frame=some X.env.locals)
 exf:∀b∈X.ex,b≠X.env.locals/\∀x c,X.env.cells.lookup x=some c->c≠b
 bs:∀b o,X.base.get? b=some o->X.s₀.heap.get? b=some o/\X.H₀ b=none
 bsz:X.base.objs.size<=X.s₀.heap.objs.size
 noex:∀b o,X.base.get? b=some o->b∉X.ex
 exfs:∀b∈X.ex,b∉X.fs
 funs:X.s₀.heap.FunFrames X.base X.outer
 frf:∀b∈X.fs,X.H₀ b=none
structure Inv (X:Cx)(bGD:bGB)(σ:List (Option V))(H:Hp)(s:Shared):Prop where
 ok:X.Ok
 os:s.os=X.s₀.os
 bare:AllBare s.gens
 base:Un X.fs X.ex X.H₀ H X.s₀.heap s.heap
 loc:∃m,s.heap.Ns X.env.locals m/\∀(i:Nat) (x:Str) (v:V),X.N[i]?=some x->σ[i]?=some (some v)->Vis X.env.scope x->∃u,RelV v u/\Look X.env s.heap m x u
 cell:∀x c,X.env.cells.lookup x=some c->∃v,s.heap.IsCell c v
 free:H X.env.locals=none
 freeC:∀x c,X.env.cells.lookup x=some c->H c=none
 pin:∀p∈X.pn++bGD,s.heap.get? p.1=some p.2/\H p.1=none/\p.1≠X.env.locals/\p.1∉X.fs/\∀v,p.2.data≠.cell v
 hok:HOk X.prog X.w H s.heap
 len:σ.length=X.N.length
section
variable {X:Cx}{bGD:bGB}{σ:List (Option V)}{H H':Hp}{s:Shared}{h':Heap}
def Cx.Ok.nofr (c:X.Ok)(e:X.base.get? b=some o):b∉X.fs:=λa=>by have:=(c.funs.mem a).1;rw[e] at this;cases this
def Inv.bs (I:Inv X bGD σ H s):∀b o,X.base.get? b=some o->s.heap.get? b=some o/\H b=none:=λb o e=>
 ⟨I.base.keep b o (I.ok.bs b o e).1 (I.ok.bs b o e).2 (I.ok.nofr e) (I.ok.noex b o e),I.base.free b o (I.ok.bs b o e).1 (I.ok.bs b o e).2 (I.ok.noex b o e)⟩
def Inv.bk (I:Inv X bGD σ H s):∀b o,X.base.get? b=some o->s.heap.get? b=some o:=λb o e=>(I.bs b o e).1
def Inv.mod (I:Inv X bGD σ H s):Mod X.K X.mg X.base:=I.ok.mod
def Inv.kIn (I:Inv X bGD σ H s):X.K.In s.heap:=I.ok.mod.kin.keeps I.bk
def Inv.nolimit (I:Inv X bGD σ H s):s.heap.NoLimit:=I.ok.mod.nolimit.keeps I.bk
def Inv.fr (I:Inv X bGD σ H s):∃m,Fr X.base X.env.locals s.heap m:=
 let ⟨m,hn,_⟩:=I.loc
 ⟨m,hn,I.bk,bAE I.ok.bsz I.ok.above⟩
def Inv.lt (I:Inv X bGD σ H s):X.env.locals<s.heap.objs.size:=let ⟨_,hn,_⟩:=I.loc;hn.lt
def Inv.sz (I:Inv X bGD σ H s):X.s₀.heap.objs.size<=s.heap.objs.size:=bAE I.ok.above (bDJ I.lt)
def Inv.nofs (I:Inv X bGD σ H s)(h:s.heap.objs.size<=a):a∉X.fs:=λc=>by obtain⟨_,o,b,_⟩:=I.ok.funs.mem c;exact absurd (bAA (m9 b) (bAE I.sz h)) (bBQ _)
def Inv.cne (I:Inv X bGD σ H s):∀x c,X.env.cells.lookup x=some c->c≠X.env.locals:=λx c e z=>by obtain⟨v,o,d,hd⟩:=I.cell x c e;obtain⟨m,⟨g,h,f,b,a,_⟩,_⟩:=I.loc;rw[z,b] at d;cases d;rw[a] at hd;cases hd
def Inv.funs (I:Inv X bGD σ H s):s.heap.FunFrames X.base X.outer:=by
 have c:∀l,(∀b∈frs l,b∈X.fs)->X.s₀.heap.FunFrames X.base l->s.heap.FunFrames X.base l:=by
  intro l
  induction l with
  |nil=>intro _ _;trivial
  |cons env r ih=>intro g h;obtain⟨j,⟨L,o,d,m,i,hd⟩,k⟩:=h;have a:=g L (by unfold frs;rw[bCL,d];exact j4);obtain⟨n,e⟩:=I.base.slot L o i (I.ok.frf L a) a λz=>I.ok.exfs L z a;exact⟨j,⟨L,_,d,m,e,hd⟩,ih (λb f=>g b (by unfold frs;rw[bCL,d];exact j5 _ f)) k⟩
 exact c X.outer (λ_ f=>f) I.ok.funs
def Inv.stack (I:Inv X bGD σ H s):s.heap.FunFrames X.base X.stack:=by
 rcases I.ok.stk with e|⟨e,b⟩
 ·rw[e];exact I.funs
 ·rw[e];obtain⟨m,a,_⟩:=I.loc;refine .cons (by rw[I.ok.kind];decide) b a ?_ I.funs;exact bDZ (bAE I.ok.bsz I.ok.above)
def Inv.aEy (I:Inv X bGD σ H s):∀b∈frs X.stack,b∈X.env.locals::X.fs:=λb a=>by
 rcases I.ok.stk with e|⟨e,c⟩
 ·rw[e] at a;exact j5 _ a
 ·rw[e] at a;unfold frs at a;rw[bCL,c] at a;exact a
def Inv.qK (I:Inv X bGD σ H s):∀b∈frs X.stack,H b=none:=λb hb=>by
 rcases List.mem_cons.mp (I.aEy b hb) with e|hb
 ·rw[e];exact I.free
 ·obtain⟨_,o,a,_⟩:=I.ok.funs.mem hb;exact I.base.free b o a (I.ok.frf b hb) λz=>I.ok.exfs b z hb
def Inv.step {g':Array GenState}{t':Nat}{d':Drawn}{ch:List Addr}(I:Inv X bGD σ H s)
  (j:∀b∈ch,(b∈X.ex\/X.s₀.heap.objs.size<=b)/\b≠X.env.locals/\(∀x c,X.env.cells.lookup x=some c->c≠b)/\∀p∈X.pn++bGD,p.1≠b)
  (A:∀b o,b≠X.env.locals->b∉X.fs->b∉ch->s.heap.get? b=some o->H b=none->h'.get? b=some o)
  (slot:∀b o,b≠X.env.locals->b∈X.fs->b∉ch->s.heap.get? b=some o->H b=none->∃sl,h'.get? b=some { o with slots:=sl }) (f:∀b o,b∉ch->s.heap.get? b=some o->H b=none->H' b=none)
  (G:∀b o,b∉ch->s.heap.get? b=some o->∃o',h'.get? b=some o')
  (P:∀b xs,H b=some (.tup xs)->H' b=some (.tup xs)) (O:∀b o u,H b=some (.frz o u)->H' b=some (.frz o u)) (K:∀b ps,H b=some (.tbl ps)->∃more,H' b=some (.tbl (ps++more)))
  (Y:∀m,s.heap.Ns X.env.locals m->h'.Ns X.env.locals m) (Q:HOk X.prog X.w H' h') (W:AllBare g') :
  Inv X bGD σ H' { s with heap:=h',gens:=g',drawn:=d',toks:=t' }:=by
 have E:∀b o,X.s₀.heap.get? b=some o->b≠X.env.locals:=λb o e=>v7 (bAA (m9 e) I.ok.above);have y:∀b o,X.s₀.heap.get? b=some o->b∉X.ex->b∉ch:=λb o e a B=>by
  rcases (j b B).1 with z|z
  ·exact a z
  ·exact absurd (bAA (m9 e) z) (bBQ _)
 have h:∀x c,X.env.cells.lookup x=some c->∀v,s.heap.IsCell c v->h'.IsCell c v:=λx c e v ⟨o,C,hd⟩=>by
  have g:c∉ch:=λz=>(j c z).2.2.1 x c e rfl;by_cases L:c∈X.fs
  ·obtain⟨sl,q⟩:=slot c o (I.cne x c e) L g C (I.freeC x c e);exact⟨_,q,hd⟩
  ·exact⟨o,A c o (I.cne x c e) L g C (I.freeC x c e),hd⟩
 refine⟨I.ok,I.os,W,⟨λb o e n B a=>?_,λb o e n B a=>?_,λb o e n a=>?_,λb o e a=>?_,λb xs e=>P b xs (I.base.tups b xs e),λb o xs e=>O b o xs (I.base.frzs b o xs e),λb ps e=>?_⟩,?_,λx c e=>?_,?_,λx c e=>?_,λp J=>?_,Q,I.len⟩
 ·exact A b o (E b o e) B (y b o e a) (I.base.keep b o e n B a) (I.base.free b o e n a)
 ·obtain⟨sl,t⟩:=I.base.slot b o e n B a;obtain⟨F,D⟩:=slot b _ (E b o e) B (y b o e a) t (I.base.free b o e n a);exact⟨F,D⟩
 ·obtain⟨o',t⟩:=I.base.there b o e a;exact f b o' (y b o e a) t (I.base.free b o e n a)
 ·obtain⟨o',t⟩:=I.base.there b o e a;exact G b o' (y b o e a) t
 ·obtain⟨T,t⟩:=I.base.tbls b ps e;obtain⟨U,D⟩:=K b _ t;exact⟨T++U,by rw[D,Array.append_assoc]⟩
 ·obtain⟨m,V,R⟩:=I.loc;refine⟨m,Y m V,λi x v t D S=>?_⟩;obtain⟨u,r,l⟩:=R i x v t D S;refine⟨u,r,?_⟩;rcases l with l|⟨k,c,e,z⟩
  ·exact .inl l
  ·exact .inr ⟨k,c,e,h x c e _ z⟩
 ·obtain⟨v,z⟩:=I.cell x c e;exact⟨v,h x c e v z⟩
 ·obtain⟨m,⟨o,_,_,C,_⟩,_⟩:=I.loc;exact f _ o (λz=>(j _ z).2.1 rfl) C I.free
 ·obtain⟨v,o,C,hd⟩:=I.cell x c e;exact f c o (λz=>(j c z).2.2.1 x c e rfl) C (I.freeC x c e)
 ·obtain⟨e,n,N,M,d⟩:=I.pin p J;have g:p.1∉ch:=λz=>(j p.1 z).2.2.2 p J rfl;exact⟨A p.1 p.2 N M g e n,f p.1 p.2 g e n,N,M,d⟩
def Inv.un (I:Inv X bGD σ H s)(u:Un X.fs [] H H' s.heap h')(i:HOk X.prog X.w H' h'):Inv X bGD σ H' { s with heap:=h',toks:=t' }:=by
 obtain⟨m,⟨o,v,q,g,r⟩,_⟩:=id I.loc;obtain⟨p,k⟩:=u.any g I.free (by simp);exact I.step (g':=s.gens) (d':=s.drawn) (ch:=[]) (λ_ z=>nomatch z) (λb o _ d _ e n=>u.keep b o e n d (by simp)) (λb o _ d _ e n=>u.slot b o e n d (by simp)) (λb o _ e n=>u.free b o e n (by simp)) (λb o _ e=>u.there b o e (by simp)) u.tups u.frzs u.tbls (λl h=>by obtain⟨t,f,c,a,j⟩:=h;rw[g] at a;cases a;exact⟨_,f,c,k,j⟩) i I.bare
def Inv.call (I:Inv X bGD σ H s)(u:Un (frs X.stack) ch H H' s.heap h')(l:HOk X.prog X.w H' h')(A:AllBare g')
  (g:∀b∈ch,(b∈X.ex\/X.s₀.heap.objs.size<=b)/\b≠X.env.locals/\(∀x c,X.env.cells.lookup x=some c->c≠b)/\∀p∈X.pn++bGD,p.1≠b) :
  Inv X bGD σ H' { s with heap:=h',gens:=g',drawn:=d',toks:=t' }:=by
 obtain⟨m,⟨o,D,B,j,r⟩,_⟩:=id I.loc;obtain⟨y,f⟩:=u.any j I.free λz=>(g _ z).2.1 rfl;exact I.step (ch:=ch) g (λb o f t a e n=>u.keep b o e n (λz=>(List.mem_cons.mp (I.aEy b z)).elim f t) a) (λb o _ _ a e n=>u.any e n a) (λb o a e n=>u.free b o e n a) (λb o a e=>u.there b o e a) u.tups u.frzs u.tbls (λv k=>by obtain⟨C,i,h,d,q⟩:=k;rw[j] at d;cases d;exact⟨_,i,h,f,q⟩) l A
def Inv.turned (I:Inv X bGD σ H s)(k:∀b o,b≠it->s.heap.get? b=some o->h'.get? b=some o)(A:H it=none)(g:it≠X.env.locals)
  (t:it∈X.ex\/X.s₀.heap.objs.size<=it) (y:∀x c,X.env.cells.lookup x=some c->c≠it) (B:∀p∈X.pn++bGD,p.1≠it):Inv X bGD σ H { s with heap:=h',toks:=t' }:=by
 have d:∀b u,H b=some u->b≠it:=λb u e z=>by rw[z,A] at e;cases e
 refine I.step (g':=s.gens) (d':=s.drawn) (ch:=[it]) (λb j=>?_) (λb o _ _ a e _=>k b o (λz=>a (by simp[z])) e) (λb o _ _ a e _=>⟨o.slots,k b o (λz=>a (by simp[z])) e⟩) (λ_ _ _ _ n=>n)
  (λb o a e=>⟨o,k b o (λz=>a (by simp[z])) e⟩) (λ_ _ e=>e) (λ_ _ _ e=>e) (λb w e=>⟨#[],by rw[e];simp⟩) (λm f=>?_) (λb u e=>?_) I.bare
 ·have e:b=it:=by simpa using j
  subst e;exact⟨t,g,y,B⟩
 ·obtain⟨o,l,i,h,r⟩:=f;exact⟨o,l,i,k _ o (Ne.symm g) h,r⟩
 ·refine (I.hok b u e).stay (λc v a q=>k c v ?_ q) (λ_ q=>q) λ_ _ q=>q;rcases a with z|z
  ·rw[z];exact d b u e
  ·exact d c _ z
def Inv.tok (I:Inv X bGD σ H s)(t:Nat):Inv X bGD σ H { s with toks:=t }:=I.un (h':=s.heap) (t':=t) Un.refl I.hok
def Inv.kept (I:Inv X bGD σ H s)(k:∀b u,s.heap.get? b=some u->h'.get? b=some u):Inv X bGD σ H { s with heap:=h',toks:=t' }:=I.un (Un.kept k) (I.hok.kept k)
def Inv.laid (I:Inv X bGD σ H s)(k:∀b u,s.heap.get? b=some u->h'.get? b=some u)(c:s.heap.objs.size<=a)(d:cV X.prog X.w (upd H a o) h' a o) :
  Inv X bGD σ (upd H a o) { s with heap:=h',toks:=t' }:=I.un (Un.laid k c (I.hok.fresh c)) (I.hok.laid k c d)
def Inv.write (I:Inv X bGD σ H s)(d:Mut (H x))(f:e=x\/H e=some (.own x))(k:∀b u,b≠e->s.heap.get? b=some u->h'.get? b=some u)(a:∃u,h'.get? e=some u)
  (c:cV X.prog X.w (upd H x o) h' x o):Inv X bGD σ (upd H x o) { s with heap:=h',toks:=t' }:=I.un (Un.write d f k a) (I.hok.write d f k a c)
def Inv.aN6 (I:Inv X bGD σ H s)(h:∀p∈pins',s.heap.get? p.1=some p.2/\H p.1=none/\p.1≠X.env.locals/\p.1∉X.fs/\∀v,p.2.data≠.cell v):Inv X pins' σ H s:=
 ⟨I.ok,I.os,I.bare,I.base,I.loc,I.cell,I.free,I.freeC,λp a=>(List.mem_append.mp a).elim (λz=>I.pin p (bBT _ z)) (h p),I.hok,I.len⟩
def aBg {N:List Str}(f:N.Nodup){i j:Nat}{x:Str}(a:N[i]?=some x)(b:N[j]?=some x):i=j:=by obtain⟨g,c⟩:=List.getElem?_eq_some_iff.mp a;obtain⟨e,d⟩:=List.getElem?_eq_some_iff.mp b;exact (List.getElem_inj f).mp (c.trans d.symm)
def aEg {M:Model}{A:Around}{E:bGA}{i:Nat}{x:Str}{v:V}{u:Value}{Q:Unit->Shared->Prop}(I:Inv X bGD σ H s)(hN:X.N.Nodup)(hi:X.N[i]?=some x)(t:Loc X.env.scope x)(r:RelV v u)
  (h:∀s',Inv X bGD (σ.set i (some v)) H s'->(∃a,Heap.SameBut a s.heap s'.heap/\(a=X.env.locals\/X.env.cells.lookup x=some a))->Q () s') (hf:X.fn x=true\/X.env.scope.names.lookup x=some .local:=by first|exact .inl rfl|exact .inr rfl|assumption):wpAny M A (storeName X.env x u) Q E s:=by
 obtain⟨m,hn,hl⟩:=id I.loc;have O:(X.env.scope.kind == .class || (X.env.scope.kind == .module && X.env.locals != X.env.globals))=false:=by rw[I.ok.kind];rfl
 have L:i<σ.length:=by rw[I.len];exact (List.getElem?_eq_some_iff.mp hi).1
 have D:=I.cne;have g:∀{a:Addr} {K:Heap},(∃o,s.heap.get? a=some o/\H a=none)->Heap.SameBut a s.heap K->HOk X.prog X.w H K:=λ{a K} ha f b ob e=>by
  obtain⟨_,_,B⟩:=ha;refine (I.hok b ob e).stay (λc U hc q=>(f.2 c ?_).trans q) (λ_ q=>q) λ_ _ q=>q;rintro rfl;rcases hc with rfl|hc
  ·rw[B] at e;cases e
  ·rw[B] at hc;cases hc
 rcases t with hk|hk
 ·refine wpAny_storeName_local hk hn (λK a0 f=>?_) O;obtain⟨oL,_,_,Z,_⟩:=id hn;refine h _ ⟨I.ok,I.os,I.bare,⟨λb o e n G t=>?_,λb o e n G t=>?_,I.base.free,λb o e t=>?_,I.base.tups,I.base.frzs,I.base.tbls⟩,⟨_,a0,λj y v' l C e3=>?_⟩,λy c e=>?_,I.free,I.freeC,λp hp=>?_,g ⟨oL,Z,I.free⟩ f,by simpa using I.len⟩ ⟨_,f,.inl rfl⟩
  ·exact (f.2 b (v7 (bAA (m9 e) I.ok.above))).trans (I.base.keep b o e n G t)
  ·obtain⟨sl,l⟩:=I.base.slot b o e n G t;exact⟨sl,(f.2 b (v7 (bAA (m9 e) I.ok.above))).trans l⟩
  ·obtain⟨o',l⟩:=I.base.there b o e t;exact⟨o',(f.2 b (v7 (bAA (m9 e) I.ok.above))).trans l⟩
  ·by_cases F:j=i
   ·subst F;rw[hi] at l;cases l;rw[bDK L] at C;cases C;exact⟨u,r,.inl ⟨hk,by simp⟩⟩
   ·rw[bFO (Ne.symm F)] at C;obtain⟨u',r',q⟩:=hl j y v' l C e3;refine⟨u',r',?_⟩;rcases q with⟨k,e⟩|⟨k,c,e,z⟩
    ·refine .inl ⟨k,?_⟩;have:y≠x:=λe=>F (aBg hN l (e ▸ hi));simp[this,e]
    ·exact .inr ⟨k,c,e,z.sameBut f (D y c e)⟩
  ·obtain⟨U,z⟩:=I.cell y c e;exact⟨U,z.sameBut f (D y c e)⟩
  ·obtain⟨e,n,Y,nf,d⟩:=I.pin p hp;exact⟨(f.2 p.1 Y).trans e,n,Y,nf,d⟩
 ·have J:X.fn x=true:=by
   rcases hf with z|z
   ·exact z
   ·rw[z] at hk;cases hk
  obtain⟨c,hc⟩:=I.ok.has x (.inl hk);obtain⟨U,z⟩:=I.cell x c hc;refine wpAny_storeName_cell I.ok.kind hk hc z (λK S f=>?_);obtain⟨oc,T,P⟩:=id z;refine h { s with heap:=K } ⟨I.ok,I.os,I.bare,⟨λb o e n G t=>?_,λb o e n G t=>?_,I.base.free,λb o e t=>?_,I.base.tups,I.base.frzs,I.base.tbls⟩,⟨m,hn.sameBut f (Ne.symm (D x c hc)),λj y v' l C e3=>?_⟩,λy W e=>?_,I.free,I.freeC,λp hp=>?_,g ⟨oc,T,I.freeC x c hc⟩ f,by simpa using I.len⟩ ⟨c,f,.inr hc⟩
  ·exact (f.2 b (v7 (bAA (m9 e) (I.ok.cab x c J hc)))).trans (I.base.keep b o e n G t)
  ·obtain⟨sl,l⟩:=I.base.slot b o e n G t;exact⟨sl,(f.2 b (v7 (bAA (m9 e) (I.ok.cab x c J hc)))).trans l⟩
  ·obtain⟨o',l⟩:=I.base.there b o e t;exact⟨o',(f.2 b (v7 (bAA (m9 e) (I.ok.cab x c J hc)))).trans l⟩
  ·by_cases F:j=i
   ·subst F;rw[hi] at l;cases l;rw[bDK L] at C;cases C;exact⟨u,r,.inr ⟨.inl hk,c,hc,S⟩⟩
   ·rw[bFO (Ne.symm F)] at C;obtain⟨u',r',q⟩:=hl j y v' l C e3;refine⟨u',r',?_⟩;rcases q with q|⟨k,W,e,z'⟩
    ·exact .inl q
    ·refine .inr ⟨k,W,e,z'.sameBut f ?_⟩;rintro rfl;exact F (aBg hN l (I.ok.inj _ _ _ e hc ▸ hi))
  ·by_cases R:W=c
   ·subst R;exact⟨_,S⟩
   ·obtain⟨w2,z2⟩:=I.cell y W e;exact⟨w2,z2.sameBut f R⟩
  ·obtain⟨e,n,Y,nf,d⟩:=I.pin p hp;refine⟨(f.2 p.1 ?_).trans e,n,Y,nf,d⟩;intro q;rw[q,T] at e;have q':=bAH e;exact d U (by rw[<-q'];exact P)
def aBw (I:Inv X bGD σ H s)(d:X.N.Nodup)(hi:X.N[i]?=some x)(c:Loc X.env.scope x)(r:RelV v u)
  (h:∀s',Inv X bGD (σ.set i (some v)) H s'->Q () s') (b:X.fn x=true\/X.env.scope.names.lookup x=some .local:=by first|exact .inl rfl|exact .inr rfl|assumption):wpAny M A (storeName X.env x u) Q E s:=
 aEg I d hi c r (λs' a _=>h s' a) b
def Inv.call' (I:Inv X bGD σ H s)(ho:s'.os=s.os)(u:Un (frs X.stack) ch H H' s.heap s'.heap)(a:HOk X.prog X.w H' s'.heap)(h:AllBare s'.gens)
  (d:∀b∈ch,(b∈X.ex\/X.s₀.heap.objs.size<=b)/\b≠X.env.locals/\(∀x c,X.env.cells.lookup x=some c->c≠b)/\∀p∈X.pn++bGD,p.1≠b):Inv X bGD σ H' s':=by
 obtain⟨f,g',d',t',g⟩:=s';have e:=ho;subst e;exact I.call (g':=g') (t':=t') (d':=d') u a h d
end
abbrev XK:=Value->Option Addr->Hp->Prop
abbrev St:=List (Option V)
abbrev VK:=V->Hp->Prop
abbrev TE:=St->Hp->VK->Prop
abbrev TT:=St->Hp->(Bool->Hp->Prop)->Prop
abbrev TA:=St->Hp->(List V->Hp->Prop)->Prop
structure Ends where
 nx:St->Hp->Prop
 rt:VK
 bk:St->Hp->Prop:=λ_ _=>False
 ct:St->Hp->Prop:=λ_ _=>False
abbrev TS:=Ends->St->Hp->Prop
def EP (X:Cx)(bGD:bGB)(σ:St)(Q:VK)(u:Value)(s':Shared):Prop:=∃v H',Inv X bGD σ H' s'/\RelV v u/\Q v H'
def TP (X:Cx)(bGD:bGB)(σ:St)(Q:Bool->Hp->Prop)(b:Bool)(s':Shared):Prop:=∃H',Inv X bGD σ H' s'/\Q b H'
def AP (X:Cx)(bGD:bGB)(σ:St)(Q:List V->Hp->Prop)(us:List Value)(s':Shared):Prop:=∃vs H',Inv X bGD σ H' s'/\Vals vs us/\Q vs H'
def SP (X:Cx)(bGD:bGB)(D:Ends)(f:Flow)(s':Shared):Prop:=
 match f with
 |.next=>∃σ' H',Inv X bGD σ' H' s'/\D.nx σ' H'
 |.brk=>∃σ' H',Inv X bGD σ' H' s'/\D.bk σ' H'
 |.cont=>∃σ' H',Inv X bGD σ' H' s'/\D.ct σ' H'
 |.ret u=>∃v σ' H',Inv X bGD σ' H' s'/\RelV v u/\D.rt v H'
def PE (X:Cx)(e:Expr)(t:TE):Prop:=
 ∀bGD s σ H Q,Inv X bGD σ H s->t σ H Q->wpAny (model X.prog X.w) X.A (eval e X.env) (EP X bGD σ Q) X.xe s
def PT (X:Cx)(e:Expr)(t:TT):Prop:=
 ∀bGD s σ H Q,Inv X bGD σ H s->t σ H Q->wpAny (model X.prog X.w) X.A (isTrue e X.env (eval e X.env)) (TP X bGD σ Q) X.xe s
def PW (X:Cx)(e:Expr)(t:TT):Prop:=
 ∀whole bGD s σ H Q,Inv X bGD σ H s->t σ H Q->wpAny (model X.prog X.w) X.A (isTrue e X.env whole) (TP X bGD σ Q) X.xe s
def PW.pt (h:PW X e t):PT X e t:=h _
def PA (X:Cx)(es:List Expr)(t:TA):Prop:=
 ∀pos bGD s σ H Q,Inv X bGD σ H s->t σ H Q->wpAny (model X.prog X.w) X.A (spliced (backTo pos (starEach es X.env))) (AP X bGD σ Q) X.xe s
def PS (X:Cx)(st:Stmt)(t:TS):Prop:=
 ∀bGD s σ H D,Inv X bGD σ H s->t D σ H->wpAny (model X.prog X.w) X.A (exec st X.env) (SP X bGD D) X.xe s
def PSs (X:Cx)(st:List Stmt)(t:TS):Prop:=
 ∀bGD s σ H D,Inv X bGD σ H s->t D σ H->wpAny (model X.prog X.w) X.A (execs st X.env) (SP X bGD D) X.xe s
def thn {α:Type}{t:Sem α}{Q Q':α->Shared->Prop}{M:Model}{A:Around}{E:bGA}{s:Shared}(h:wpAny M A t Q E s)(b:∀a s,Q a s->Q' a s):wpAny M A t Q' E s:=bBH h b λ_ _ x=>x
inductive mL (i:Nat)(σ:St)(H:Hp)(Q:VK):Prop
 |mk (v:V) (h:σ[i]?=some (some v)) (q:Q v H):mL i σ H Q
def tC (v:V):TE:=λ_ H Q=>Q v H
def bCc (n:X.N[i]?=some x)(k:Vis X.env.scope x)(hd:(x == ("__debug__":Str))=false:=by decide)(g:(x == ("__classdict__":Str))=false:=by decide):PE X (.Name x pos) (mL i):=by
 intro b s σ H Q I h;obtain⟨v,e,h⟩:=h;obtain⟨m,j,f⟩:=I.loc;obtain⟨u,r,l⟩:=f i x v n e k;have a:EP X b σ Q u s:=⟨v,H,I,r,h⟩;rcases l with⟨hk,d⟩|⟨hk,c,hc,hcell⟩
 ·exact wpAny_Name (wpAny_loadName_local I.ok.kind hk j d a) hd
 ·rcases hk with hk|hk
  ·exact wpAny_Name (wpAny_loadName_cell I.ok.kind hk hc hcell a) hd
  ·exact wpAny_Name (wpAny_loadName_free I.ok.kind hk hc hcell a g) hd
def bB7 {i j pos}:PE X (.Constant (.int i) j pos) (tC (.int i)):=λ_ _ _ H _ I h=>wpAny_Constant_int ⟨.int i,H,I.tok _,⟨_,rfl⟩,h⟩
def bC9 {b j pos}:PE X (.Constant (.bool b) j pos) (tC (.bl b)):=λ_ _ _ H _ I h=>Constant_bool ⟨.bl b,H,I,rfl,h⟩
def bB9 {j pos}:PE X (.Constant .none j pos) (tC .non):=λ_ _ _ H _ I h=>Constant_none ⟨.non,H,I,rfl,h⟩
def aZ4 {x j pos}:PE X (.Constant (.str x) j pos) (tC (.str x)):=λ_ _ _ H _ I h=>Calls.Constant_str ⟨.str x,H,I.tok _,⟨_,rfl⟩,h⟩
def Gl (X:Cx)(x:Str):Prop:=X.env.kindOf x=some .globalImplicit
def lD (I:Inv X bGD σ H s)(b:Gl X x)(a:X.mg x=some u)(h:Q u s)
  (hd:(x == ("__debug__":Str))=false:=by decide):wpAny (model X.prog X.w) X.A (eval (.Name x pos) X.env) Q E s:=
 bEA I.ok.kind b (Calls.loadGlobal_global (by rw[I.ok.glob];exact I.mod.glob.keeps I.bk) a h) hd
def pW (I:Inv X bGD σ H s)(g:Gl X x)(c:X.mg x=none)(d:bootBuiltins x=some u)(h:Q u s)
  (e:x≠"__name__":=by decide) (hd:(x == ("__debug__":Str))=false:=by decide):wpAny (model X.prog X.w) X.A (eval (.Name x pos) X.env) Q E s:=by
 obtain⟨f,b,a⟩:=I.mod.blt;exact bEA I.ok.kind g (Calls.loadGlobal_builtin (by rw[I.ok.glob];exact I.mod.glob.keeps I.bk) c (by rw[I.ok.blt];exact b.keeps I.bk) ((a x e).trans d) h) hd
def aXr (b:Gl X x)(a:X.mg x=some u)(r:RelV v u)(hd:(x == ("__debug__":Str))=false:=by decide):PE X (.Name x pos) (tC v):=
 λ_ _ _ H _ I h=>lD I b a ⟨v,H,I,r,h⟩ hd
def aV8 (d:Gl X x)(a:X.mg x=none)(b:bootBuiltins x=some u)(r:RelV v u)(c:x≠"__name__":=by decide)(hd:(x == ("__debug__":Str))=false:=by decide):PE X (.Name x pos) (tC v):=
 λ_ _ _ H _ I h=>pW I d a b ⟨v,H,I,r,h⟩ c hd
def PC (X:Cx)(op:CmpOp)(a b:Expr)(t:TE):Prop:=
 ∀bGD s σ H Q,Inv X bGD σ H s->t σ H Q ->
  wpAny (model X.prog X.w) X.A (eval a X.env) (λv s₁=>wpAny (model X.prog X.w) X.A (eval b X.env) (λu s₂=>wpAny (model X.prog X.w) X.A (compareOp op v u) (EP X bGD σ Q) X.xe s₂) X.xe s₁) X.xe s
inductive BlI (Q:Bool->Hp->Prop)(x:V)(H1:Hp):Prop
 |mk (c:Bool) (h:x=.bl c) (q:Q c H1):BlI Q x H1
def tB (t:TE):TT:=fun σ H Q=>t σ H (BlI Q)
def aT7 {op:CmpOp}{t:TE}(h:PC X op a b t)(f:behindInMarks op b=false:=by first|exact nobehind _ (by decide) (by decide)|rfl):PT X (.Compare a [op] [b] pos) (tB t):=by intro e s σ H Q I k;refine wpAny_isTrue_Compare1 (thn (h e s σ H _ I k) λv o f=>thn f λu p l=>thn l λc n ⟨x,j,m,g,i⟩=>?_) f;obtain⟨d,rfl,q⟩:=i;cases g;exact bBB ⟨j,m,q⟩
def bCp {e:Expr}{t:TE}(h:PE X e t)(k:∀whole,isTrue e X.env whole=(do let v <-whole;standAt e.pos;holding [v] (truthy v)):=by intro _;rfl):PT X e (tB t):=by intro a s σ H Q I g;refine isTrue_plain (thn (h a s σ H _ I g) λv j ⟨x,f,i,b,c⟩=>?_) (k _);obtain⟨d,rfl,q⟩:=c;cases b;exact bBB ⟨f,i,q⟩
def bEm (t u:TT):TT:=fun σ H Q=>t σ H λc H1=>if c=true then u σ H1 Q else Q false H1
def tOr (t u:TT):TT:=fun σ H Q=>t σ H λc H1=>if c=true then Q true H1 else u σ H1 Q
def aZv (t:TT):TT:=fun σ H Q=>t σ H λc H1=>Q (!c) H1
def aXi (d:PT X a tA):PW X (.BoolOp .And [a] pos) tA:=by
 intro f b s σ H Q I h;refine isTrue_and (thn (d b s σ H Q I h) λc g e=>?_);cases c with
 |true=>exact isTrue_and_nil e
 |false=>exact e
def bCn (d:PT X a tA):PW X (.BoolOp .Or [a] pos) tA:=by
 intro f b s σ H Q I h;refine isTrue_or (thn (d b s σ H Q I h) λc g e=>?_);cases c with
 |false=>exact isTrue_or_nil e
 |true=>exact e
def aZp (k:PT X a tA)(l:PW X (.BoolOp .And (b::rest) pos) tB'):PW X (.BoolOp .And (a::b::rest) pos) (bEm tA tB'):=by
 intro i d s σ H Q I h;refine isTrue_and (thn (k d s σ H _ I h) λc j ⟨g,e,f⟩=>?_);cases c with
 |true=>exact l i d j σ g Q e f
 |false=>exact⟨g,e,f⟩
def bC2 (k:PT X a tA)(l:PW X (.BoolOp .Or (b::rest) pos) tB'):PW X (.BoolOp .Or (a::b::rest) pos) (tOr tA tB'):=by
 intro i d s σ H Q I h;refine isTrue_or (thn (k d s σ H _ I h) λc j ⟨g,e,f⟩=>?_);cases c with
 |true=>exact⟨g,e,f⟩
 |false=>exact l i d j σ g Q e f
def bCi (e:PT X a tA):PT X (.UnaryOp .Not a pos) (aZv tA):=by intro b s σ H Q I h;exact isTrue_not (e b s σ H (λc d=>Q (!c) d) I h)
def aY2 (ta tb:TE):TE:=fun σ H Q=>ta σ H λx H1=>∃c,x=.bl c/\if c=true then tb σ H1 Q else Q (.bl false) H1
def bEl (ta tb:TE):TE:=fun σ H Q=>ta σ H λx H1=>∃c,x=.bl c/\if c=true then Q (.bl true) H1 else tb σ H1 Q
def aYx (ta:TE):TE:=fun σ H Q=>ta σ H λx H1=>∃c,x=.bl c/\Q (.bl (!c)) H1
def aZu {op}(h:PE X a t):PE X (.BoolOp op [a] pos) t:=λb s σ H Q I c=>BoolOp_one (h b s σ H Q I c)
def bBu (k:PE X a ta)(l:PE X (.BoolOp .And (b::rest) pos) tb):PE X (.BoolOp .And (a::b::rest) pos) (aY2 ta tb):=by
 intro d s σ H Q I h;refine BoolOp_and (thn (k d s σ H _ I h) λv j ⟨x,f,g,i,e⟩=>?_);obtain⟨c,rfl,e⟩:=e;cases i;refine bBB ?_;cases c with
 |true=>exact l d j σ f Q g e
 |false=>exact⟨.bl false,f,g,rfl,e⟩
def bDb (k:PE X a ta)(l:PE X (.BoolOp .Or (b::rest) pos) tb):PE X (.BoolOp .Or (a::b::rest) pos) (bEl ta tb):=by
 intro d s σ H Q I h;refine BoolOp_or (thn (k d s σ H _ I h) λv j ⟨x,f,g,i,e⟩=>?_);obtain⟨c,rfl,e⟩:=e;cases i;refine bBB ?_;cases c with
 |false=>exact l d j σ f Q g e
 |true=>exact⟨.bl true,f,g,rfl,e⟩
def bBd (j:PE X a ta):PE X (.UnaryOp .Not a pos) (aYx ta):=by intro d s σ H Q I h;refine UnaryOp_ (thn (j d s σ H _ I h) λv i ⟨x,f,g,e,b⟩=>?_);obtain⟨c,rfl,b⟩:=b;cases e;exact not_of (bBB ⟨.bl (!c),f,g,rfl,b⟩)
def tIf (t:TT)(ta tb:TE):TE:=fun σ H Q=>t σ H λc H1=>if c=true then ta σ H1 Q else tb σ H1 Q
def aSe {c:Expr}(m:PT X c tA)(k:PE X a ta)(l:PE X b tb):PE X (.IfExp c a b pos) (tIf tA ta tb):=by
 intro e s σ H Q I h;refine wpAny_IfExp (thn (m e s σ H _ I h) λd i ⟨j,g,f⟩=>?_);cases d with
 |true=>exact k e i σ j Q g f
 |false=>exact l e i σ j Q g f
def SqL (K:bF9)(H:Hp)(a:Addr)(xs:List V):Prop:=
 Rd H a (.lst xs) \/
  ∃o its n,K.lookup a=some o/\o.cls=.type "list"/\o.dict=none/\o.data=.seq its n/\its.size<=sizeLine/\Vals xs its.toList
def SqT (K:bF9)(H:Hp)(a:Addr)(xs:List V):Prop:=
 Rd H a (.tup xs) \/
  ∃o its n,K.lookup a=some o/\o.cls=.type "tuple"/\o.dict=none/\o.data=.seq its n/\its.size<=sizeLine/\Vals xs its.toList
def bEx:Value->Option V
 |.none=>some .non
 |.bool b=>some (.bl b)
 |.int i _=>some (.int i)
 |.str x _=>some (.str x)
 |.bytes b _=>some (.byt b)
 |.float b _=>some (.flt b)
 |.ref a=>some (.ref a)
 |.type n=>some (.ty n)
 |_=>none
def RelV.abs (r:RelV x u):bEx u=some x:=by
 cases x with
 |non=>cases r;rfl
 |bl _=>cases r;rfl
 |int _=>obtain⟨t,rfl⟩:=r;rfl
 |str _=>obtain⟨t,rfl⟩:=r;rfl
 |byt _=>obtain⟨t,rfl⟩:=r;rfl
 |flt _=>obtain⟨t,rfl⟩:=r;rfl
 |ref _=>cases r;rfl
 |ty _=>cases r;rfl
def RelV.inj (r:RelV x u)(q:RelV y u):x=y:=bAH (r.abs.symm.trans q.abs)
theorem Vals.inj:∀{xs ys:List V} {us:List Value},Vals xs us->Vals ys us->xs=ys
 |_,_,_,.nil,.nil=>rfl
 |_,_,_,.cons r t,.cons r' t'=>by rw[r.inj r',Vals.inj t t']
def SqL.of {K:bF9}(h:H a=some (.lst xs)):SqL K H a xs:=.inl (.inl h)
def SqT.of {K:bF9}(h:H a=some (.tup xs)):SqT K H a xs:=.inl (.inl h)
def Inv.list (I:Inv X bGD σ H s)(h:SqL X.K H a xs):∃its:List Value,Vals xs its/\PlainL s.heap a its.toArray/\xs.length<=sizeLine:=by
 rcases h with h|⟨o,its,n,c,b,hd,d,f,r⟩
 ·obtain⟨z,its,n,r,e⟩:=h.ok I.hok;exact⟨its,r,⟨_,n,e,rfl,rfl,rfl⟩,z⟩
 ·refine⟨its.toList,r,⟨o,n,I.kIn a o c,b,hd,by simpa using d⟩,?_⟩;have e:=r.length;simp only[v9] at e;lia
def Inv.tuple (I:Inv X bGD σ H s)(h:SqT X.K H a xs):∃its:List Value,Vals xs its/\IsTup s.heap a its.toArray/\xs.length<=sizeLine:=by
 rcases h with h|⟨o,its,n,c,b,hd,d,f,r⟩
 ·obtain⟨z,its,r,p⟩:=h.ok I.hok;exact⟨its,r,p.1,z⟩
 ·refine⟨its.toList,r,⟨o,I.kIn a o c,b,n,by simpa using d⟩,?_⟩;have e:=r.length;simp only[v9] at e;lia
def Inv.aRt (I:Inv X bGD σ H s)(h:SqL X.K H a xs)(h':SqL X.K H a ys):xs=ys:=by
 obtain⟨c,r,⟨o,n,e,_,_,d⟩,_⟩:=I.list h;obtain⟨b,i,⟨k,j,g,_,_,f⟩,_⟩:=I.list h';rw[e] at g;cases g;rw[d] at f;injection f with d1 _;have:c=b:=by simpa using congrArg Array.toList d1
 subst this;exact r.inj i
def Inv.aQq (I:Inv X bGD σ H s)(h:SqT X.K H a xs)(h':SqT X.K H a ys):xs=ys:=by
 obtain⟨c,r,⟨o,e,_,n,d⟩,_⟩:=I.tuple h;obtain⟨b,i,⟨k,g,_,j,f⟩,_⟩:=I.tuple h';rw[e] at g;cases g;rw[d] at f;injection f with d1 _;have:c=b:=by simpa using congrArg Array.toList d1
 subst this;exact r.inj i
abbrev Cx.wish (X:Cx)(E:bGA):Cx:={ X with xe:=E }
abbrev Cx.nox (X:Cx):Cx:=X.wish λ_ _=>False
def Cx.Ok.wish {X:Cx}(a:X.Ok)(E:bGA):(X.wish E).Ok:=
 ⟨a.mod,a.kind,a.glob,a.blt,a.above,a.inj,a.has,a.cab,a.hd,a.frames,a.stk,a.exf,a.bs,a.bsz,a.noex,a.exfs,a.funs,a.frf⟩
def Cx.Ok.pH {X:Cx}{E:bGA}(a:(X.wish E).Ok):X.Ok:=
 ⟨a.mod,a.kind,a.glob,a.blt,a.above,a.inj,a.has,a.cab,a.hd,a.frames,a.stk,a.exf,a.bs,a.bsz,a.noex,a.exfs,a.funs,a.frf⟩
def Inv.wish (I:Inv X bGD σ H s)(E:bGA):Inv (X.wish E) bGD σ H s:=⟨I.ok.wish E,I.os,I.bare,I.base,I.loc,I.cell,I.free,I.freeC,I.pin,I.hok,I.len⟩
def Inv.pH (I:Inv (X.wish E) bGD σ H s):Inv X bGD σ H s:=⟨I.ok.pH,I.os,I.bare,I.base,I.loc,I.cell,I.free,I.freeC,I.pin,I.hok,I.len⟩
def SP.pH (h:SP (X.wish E) bGD D f s'):SP X bGD D f s':=by
 cases f with
 |next=>obtain⟨a,b,I,q⟩:=h;exact⟨a,b,I.pH,q⟩
 |brk=>obtain⟨a,b,I,q⟩:=h;exact⟨a,b,I.pH,q⟩
 |cont=>obtain⟨a,b,I,q⟩:=h;exact⟨a,b,I.pH,q⟩
 |ret u=>obtain⟨v,a,b,I,r,q⟩:=h;exact⟨v,a,b,I.pH,r,q⟩
def PSs.nox {st:List Stmt}{t:TS}(h:PSs X.nox st t):PSs X st t:=λa s σ H D I b=>
 bBH (h a s σ H D (I.wish _) b) (λ_ _ q=>q.pH) λ_ _ z=>False.elim z
section
variable {X:Cx}{st:Stmt}{rest:List Stmt}{t u:TS}
def pF:TS:=λD σ H=>D.nx σ H
def aFd (t u:TS):TS:=λD σ H=>t { D with nx:=u D } σ H
def aXp:PSs X [] pF:=λ_ _ σ H _ I h=>bFQ ⟨σ,H,I,h⟩
def aSk (g:PS X st t)(i:PSs X rest u):PSs X (st::rest) (aFd t u):=by
 intro a s σ H D I h;refine wpAny_execs_cons (thn (g a s σ H { D with nx:=u D } I h) λf e q=>?_);cases f with
 |next=>obtain⟨c,d,b,q⟩:=q;exact i a e c d D b q
 |ret v=>exact q
 |brk=>exact q
 |cont=>exact q
def aWz (b:PS X st t):PSs X [st] t:=by
 intro a s σ H D I h;refine wpAny_execs_cons (thn (b a s σ H D I h) λf c q=>?_);cases f with
 |next=>exact bFQ q
 |ret v=>exact q
 |brk=>exact q
 |cont=>exact q
def Inv.quiet (I:Inv X bGD σ H s):interactive X.env=false:=by simp[interactive,I.ok.kind]
def aN8 (te:TE):TS:=λD σ H=>te σ H λ_ H1=>D.nx σ H1
def aN4 (i:PE X e te)(j:swapsWith e none pos.line X.env=pure false:=by rfl):PS X (.Expr e pos) (aN8 te):=by intro a s σ H D I h;exact wpAny_Expr_any (thn (i a s σ H _ I h) λv f ⟨x,d,b,g,c⟩=>⟨σ,d,b,c⟩) I.quiet j
def sH (te:TE):TS:=λD σ H=>te σ H D.rt
def bA4 (i:PE X e te):PS X (.Return (some e) pos) (sH te):=by intro a s σ H D I h;exact wpAny_Return_some (thn (i a s σ H _ I h) λv g ⟨x,f,c,b,d⟩=>⟨x,σ,f,c,b,d⟩)
def aPq (c:TT)(t u:TS):TS:=λD σ H=>c σ H λb H1=>if b=true then t D σ H1 else u D σ H1
def bDr {c:Expr}{a b:List Stmt}{tc:TT}(m:PT X c tc)(k:PSs X a t)(l:PSs X b u):PS X (.If c a b pos) (aPq tc t u):=by
 intro e s σ H D I h;refine wpAny_If (thn (m e s σ H _ I h) λd i ⟨j,g,f⟩=>?_);cases d with
 |true=>exact k e i σ j D g f
 |false=>exact l e i σ j D g f
def aUg:TS:=λ_ _ _=>False
def aT4:PS X st aUg:=λ_ _ _ _ _ _ h=>h.elim
end
abbrev TG:=V->St->Hp->(St->Hp->Prop)->Prop
abbrev TGs:=List V->St->Hp->(St->Hp->Prop)->Prop
def PG (X:Cx)(target:Expr)(t:TG):Prop:=
 ∀bGD s σ H v u Q,Inv X bGD σ H s->RelV v u->t v σ H Q ->
  wpAny (model X.prog X.w) X.A (assign target X.env u) (λ_ s'=>∃σ' H',Inv X bGD σ' H' s'/\Q σ' H') X.xe s
def PGs (X:Cx)(ts:List Expr)(t:TGs):Prop:=
 ∀bGD s σ H vs us Q,Inv X bGD σ H s->Vals vs us->t vs σ H Q ->
  wpAny (model X.prog X.w) X.A (assignInOrder ((assignEach ts X.env).map (·.2)) us) (λ_ s'=>∃σ' H',Inv X bGD σ' H' s'/\Q σ' H') X.xe s
abbrev bBp:=V->V->V->Hp->(Hp->Prop)->Prop
def bAo (X:Cx)(t:bBp):Prop:=
 ∀bGD s σ H o i v ov iv u Q,Inv X bGD σ H s->RelV o ov->RelV i iv->RelV v u->t o i v H Q ->
  wpAny (model X.prog X.w) X.A (setItem ov iv u) (λ_ s'=>∃H',Inv X bGD σ H' s'/\Q H') X.xe s
def bF (i:Nat):TG:=λv σ H Q=>Q (σ.set i (some v)) H
def aW4 (f:X.N.Nodup)(hi:X.N[i]?=some x)(e:Loc X.env.scope x)(d:X.fn x=true\/X.env.scope.names.lookup x=some .local:=by first|exact .inl rfl|exact .inr rfl|assumption):PG X (.Name x pos) (bF i):=by intro b s σ H v u Q I r h;exact wpAny_assign_Name (aBw I f hi e r (λc a=>⟨_,H,a,h⟩) d)
def aQi:TGs:=λvs σ H Q=>vs=[]/\Q σ H
def rB (t:TG)(u:TGs):TGs:=λvs σ H Q=>∃v r,vs=v::r/\t v σ H fun σ' H'=>u r σ' H' Q
def aXo:PGs X [] aQi:=by intro a s σ H c b Q I r h;obtain⟨e,h⟩:=h;subst e;cases r;exact assignInOrder_nil ⟨σ,H,I,h⟩
def aS8 {e:Expr}{es:List Expr}{t:TG}{u:TGs}(j:PG X e t)(n:PGs X es u)
  (m:(assignEach (e::es) X.env).map (·.2)=assign e X.env::(assignEach es X.env).map (·.2):=by rfl):PGs X (e::es) (rB t u):=by
 intro a s σ H l k Q I r h;obtain⟨v,o,c,h⟩:=h;subst c;cases r with
 |cons r rr=>rw[m];refine assignInOrder_cons (thn (j a s σ H _ _ _ I r h) λ_ f ⟨b,g,i,d⟩=>?_);exact n a f b g _ _ Q i rr d
inductive aIv (K:bF9)(n:Nat)(t:TGs)(v:V)(σ:St)(H:Hp)(Q:St->Hp->Prop):Prop
 |mk (a:Addr) (xs:List V) (h:v=.ref a) (s:SqT K H a xs) (l:xs.length=n) (q:t xs σ H Q):aIv K n t v σ H Q
def bA0 (A:X.calm=true)(h:PGs X es t)
  (B:(assignEach es X.env).length=n:=by rfl) (p:(assignEach es X.env).findIdx? (·.1)=none:=by rfl):PG X (.Tuple es k pos) (aIv X.K n t):=by
 intro d s σ H v u Q I r c;obtain⟨a,m,j,l,g,c⟩:=c;subst j;cases r;obtain⟨q,f,x,z⟩:=I.tuple l;refine assign_Tuple_tuple (I.ok.hd A) x (by simp[B,<-g,f.length]) p λy i=>?_;have w:=I.kept (t':=s.toks) λb o e=>i b o (v7 (m9 e)) e;exact h d _ σ H m _ Q w (by simpa using f) c
def bC1 (to ti:TE)(t:bBp):TG:=λv σ H Q=>to σ H λo H1=>ti σ H1 λi H2=>t o i v H2 λH3=>Q σ H3
def bCt {o i:Expr}{to ti:TE}{t:bBp}(ho:PE X o to)(hi:PE X i ti)(z:bAo X t)
  (A:∀v,assign (.Subscript o i pos) X.env v=(do
   let ov <-holding [v] (eval o X.env)
   let iv <-holding [v,ov] (eval i X.env)
   standAt pos
   holding [v,ov,iv] (setItem ov iv v)
   release [v,ov,iv] []):=by intro _;rfl):PG X (.Subscript o i pos) (bC1 to ti t):=by
 intro a s σ H v u Q I r h;rw[A];refine b7 (bAP (thn (ho a s σ H _ I h) λov g ⟨x,j,q,e,f⟩=>?_));refine b7 (bAP (thn (hi a g σ j _ q f) λiv l ⟨y,b,k,c,p⟩=>?_));refine b7 (bFJ (b7 (bAP (thn (z a l σ b x y v ov iv u _ k e c r p) λ_ w ⟨n,m,d⟩=>?_))));exact wpAny_release ⟨σ,n,m,d⟩
def aB5 (te:TE)(g:TG):TS:=λD σ H=>te σ H λx H1=>g x σ H1 D.nx
def bB6 {tg e:Expr}{te:TE}{g:TG}(o:PE X e te)(m:PG X tg g)(l:swapsWithSole [tg] e pos.line X.env=pure false:=by rfl)(n:swappedStores [tg] e X.env=pure none:=by rfl)
  (j:(assignEach [tg] X.env).map (·.2)=[assign tg X.env]:=by rfl):PS X (.Assign [tg] e pos) (aB5 te g):=by
 intro a s σ H D I h;refine wpAny_Assign_stores (thn (o a s σ H _ I h) λv d ⟨x,f,i,b,c⟩=>?_) l n;rw[j];exact thn (m a d σ f x v _ i b c) λ_ k q=>q
def bAs {i:Nat}{x:Str}{e:Expr}{te:TE}{pos':Pos}(p:X.N.Nodup)(hi:X.N[i]?=some x)(j:Loc X.env.scope x)(o:PE X e te)(m:swapsWith e (some (.Name x pos')) pos.line X.env=pure false:=by rfl)(n:X.fn x=true\/X.env.scope.names.lookup x=some .local:=by first|exact .inl rfl|exact .inr rfl|assumption) :
  PS X (.Assign [.Name x pos'] e pos) (aB5 te (bF i)):=by
 intro a s σ H D I h;refine wpAny_Assign_Name (thn (o a s σ H _ I h) λv k ⟨y,d,g,b,c⟩=>?_) m;exact aBw g p hi j b (λl f=>⟨_,d,f,c⟩) n
structure It where
 go:Nat->Hp->Prop
 yld:Nat->Hp->V->Hp->Prop
 stop:Nat->Hp->Prop
def qU (X:Cx)(bGD:bGB)(H:Hp)(b:Addr):Prop:=
 H b=none/\b≠X.env.locals/\b∉X.fs/\(b∈X.ex\/X.s₀.heap.objs.size<=b)/\(∀x c,X.env.cells.lookup x=some c->c≠b)/\∀p∈X.pn++bGD,p.1≠b
def Inv.aIr (I:Inv X bGD σ H s)(a:s.heap.objs.size<=b)(f:H' b=none):qU X bGD H' b:=by
 refine⟨f,bCP (bAA I.lt a),I.nofs a,.inr (bAE I.sz a),λx c e z=>?_,λp d z=>?_⟩
 ·obtain⟨v,q⟩:=I.cell x c e;exact absurd (bAA q.lt (by rw[z];exact a)) (bBQ _)
 ·exact absurd (bAA (m9 (I.pin p d).1) (by rw[z];exact a)) (bBQ _)
structure Turn (P:Program)(w:World)(K:bF9)(tg:Expr)(J:It)(fp:List Addr)(it:Addr)(tn:Nat->Heap->Prop):Prop where
 mem:it∈fp
 obj:∀i h,tn i h->∀b∈fp,∃o,h.get? b=some o/\∀v,o.data≠.cell v
 keep:∀i h h',tn i h->(∀b∈fp,∀o,h.get? b=some o->h'.get? b=some o)->tn i h'
 item:∀(X:Cx),X.prog=P->X.w=w->X.K=K->X.calm=true->∀(i:Nat) (bGD:bGB) (s:Shared) (σ:St) (H:Hp) (E:bGA),Inv X bGD σ H s->(∀b∈fp,qU X bGD H b)->tn i s.heap->J.go i H ->
  wpAny (model P w) X.A (pyNext (.ref it)) (λr s1=>∃u,r=some u /\
   wpAny (model P w) X.A (letOwnedTupleGo tg (.ref it) u) (λ_ s2=>∃x H',Inv X bGD σ H' s2/\RelV x u/\J.yld i H x H'/\tn (i+1) s2.heap/\∀b∈fp,H' b=none) E s1) E s
 done:∀(X:Cx),X.prog=P->X.w=w->X.K=K->X.calm=true->∀(i:Nat) (bGD:bGB) (s:Shared) (σ:St) (H:Hp) (E:bGA),Inv X bGD σ H s->(∀b∈fp,qU X bGD H b)->tn i s.heap->J.stop i H ->
  wpAny (model P w) X.A (pyNext (.ref it)) (λr s1=>r=none/\Inv X bGD σ H s1) E s
 self:∀(A:Around) (i:Nat) (s:Shared) (Q:bGA) (E:bGA),tn i s.heap->Q (.ref it) s->wpAny (model P w) A (pyIter (.ref it)) Q E s
abbrev TI:=St->Hp->(It->Hp->Prop)->Prop
def PIE (X:Cx)(bGD:bGB)(σ:St)(tg:Expr)(R:It->Hp->Prop)(itv:Value)(s2:Shared):Prop:=
 ∃it fp tn J H',itv=.ref it/\Inv X bGD σ H' s2/\Turn X.prog X.w X.K tg J fp it tn/\tn 0 s2.heap/\(∀b∈fp,qU X bGD H' b)/\R J H'
def PI (X:Cx)(tg iter:Expr)(wi:TI):Prop:=
 ∀bGD s σ H R,Inv X bGD σ H s->wi σ H R ->
  wpAny (model X.prog X.w) X.A (eval iter X.env) (λv s1=>wpAny (model X.prog X.w) X.A (pyIter v) (PIE X bGD σ tg R) X.xe s1) X.xe s
def aH2 (ho:s.heap.get? it=some o)(b:o.cls=.type n)(hd:o.data=.fields vs)
  (c:["enumerate","zip","dict_itemiterator","dict_reverseitemiterator","odict_iterator","itertools.zip_longest","itertools.pairwise"].contains n=false) (a:Q () s):wpAny M A (letOwnedTupleGo tg (.ref it) u) Q E s:=by
 unfold letOwnedTupleGo;cases tg <;> first
  |exact d8 a
  |(cases u <;> first
    |exact d8 a
    |(refine b7 (wpAny_load ho ?_);rw[b,hd];show wpAny M A (if (["enumerate","zip","dict_itemiterator","dict_reverseitemiterator","odict_iterator","itertools.zip_longest","itertools.pairwise"].contains n && vs[0]? == some (rawInt _))=true then _ else _) Q E s;rw[if_neg (by intro h;rw[c,Bool.false_and] at h;cases h)];exact d8 a))
def Itl (K:bF9)(a:Addr):It:=
 ⟨λi H=>∃xs x,SqL K H a xs/\xs[i]?=some x,λi H x H'=>H'=H/\∀xs,SqL K H a xs->xs[i]?=some x,λi H=>∃xs,SqL K H a xs/\xs.length<=i⟩
def Itt (K:bF9)(a:Addr):It:=
 ⟨λi H=>∃xs x,SqT K H a xs/\xs[i]?=some x,λi H x H'=>H'=H/\∀xs,SqT K H a xs->xs[i]?=some x,λi H=>∃xs,SqT K H a xs/\xs.length<=i⟩
def Itr (lo:Int)(n:Nat):It:=⟨λi _=>i<n,λi H x H'=>H'=H/\x=.int (lo+i),λi _=>n<=i⟩
def aQw {P:Program}{w:World}{K:bF9}{tg:Expr}(a it:Addr):Turn P w K tg (Itl K a) [it] it (λi h=>h.IsListIter it a i) where
 mem:=by simp
 obj:=λi h f b g=>by
  have e:b=it:=by simpa using g
  subst e;obtain⟨o,e,c,d⟩:=f;exact⟨o,e,λv z=>by rw[d] at z;cases z⟩
 keep:=λi h M f k=>f.at λo e=>k it (by simp) o e
 item:=by intro X t y D N i L s σ H E I m f q;subst t y D;obtain⟨U,x,l,A⟩:=q;obtain⟨G,F,p,O⟩:=I.list l;obtain⟨u,S,T⟩:=F.get A;obtain⟨n,J,W,C,B,r⟩:=m it (by simp);refine wpAny_pyNext_list_item f p.isList (by simpa using S) λM j Q=>?_;have V:=I.turned (t':=s.toks) (λb o g e=>(Q.2 b g).trans e) n J C B r;obtain⟨o,e,c,d⟩:=id j;exact⟨u,rfl,aH2 e c d (by decide) ⟨x,H,V,T,⟨rfl,λys R=>by rw[I.aRt R l];exact A⟩,j,λb g=>(m b g).1⟩⟩
 done:=by intro X t y D N i L s σ H E I m f q;subst t y D;obtain⟨U,l,A⟩:=q;obtain⟨G,F,p,O⟩:=I.list l;obtain⟨n,J,W,C,B,r⟩:=m it (by simp);have Z:=F.length;exact wpAny_pyNext_list_end (I.ok.hd N) f p.isList (by simp;lia) λM Y=>⟨rfl,I.turned (t':=s.toks) (λb o g e=>Y b o g e) n J C B r⟩
 self:=λ_ _ _ _ _ f h=>wpAny_pyIter_listiter f h
def aNf {P:Program}{w:World}{K:bF9}{tg:Expr}(a it:Addr):Turn P w K tg (Itt K a) [it] it (λi h=>h.IsTupleIter it a i) where
 mem:=by simp
 obj:=λi h f b g=>by
  have e:b=it:=by simpa using g
  subst e;obtain⟨o,e,c,d⟩:=f;exact⟨o,e,λv z=>by rw[d] at z;cases z⟩
 keep:=λi h M f k=>f.at λo e=>k it (by simp) o e
 item:=by intro X y A F N i L s σ H E I n f r;subst y A F;obtain⟨U,x,m,B⟩:=r;obtain⟨j,G,p,O⟩:=I.tuple m;obtain⟨u,S,T⟩:=G.get B;obtain⟨q,J,W,D,C,t⟩:=n it (by simp);refine wpAny_pyNext_tuple_item f (show s.heap.IsTuple a j.toArray from p) (by simpa using S) λM l Q=>?_;have V:=I.turned (t':=s.toks) (λb o g e=>(Q.2 b g).trans e) q J D C t;obtain⟨o,e,c,d⟩:=id l;exact⟨u,rfl,aH2 e c d (by decide) ⟨x,H,V,T,⟨rfl,λys R=>by rw[I.aQq R m];exact B⟩,l,λb g=>(n b g).1⟩⟩
 done:=by intro X y A F N i L s σ H E I n f r;subst y A F;obtain⟨U,m,B⟩:=r;obtain⟨j,G,p,O⟩:=I.tuple m;obtain⟨q,J,W,D,C,t⟩:=n it (by simp);have Z:=G.length;exact wpAny_pyNext_tuple_end (I.ok.hd N) f (show s.heap.IsTuple a j.toArray from p) (by simp;lia) λM Y=>⟨rfl,I.turned (t':=s.toks) (λb o g e=>Y b o g e) q J D C t⟩
 self:=λ_ _ _ _ _ f h=>wpAny_pyIter_tupleiter f h
def aLq {P:Program}{w:World}{K:bF9}{tg:Expr}(it:Addr)(lo:Int)(n:Nat):Turn P w K tg (Itr lo n) [it] it (λi h=>IsRangeIter h it (lo+(i:Nat) * 1) ((n:Int) - (i:Nat)) 1) where
 mem:=by simp
 obj:=λi h a b c=>by
  have e:b=it:=by simpa using c
  subst e;exact⟨_,a,λv z=>by have F:Data.fields _=Data.cell v:=z;cases F⟩
 keep:=λi h g a k=>k it (by simp) _ a
 item:=by intro X q r A y i f s σ H E I j a m;subst q r A;obtain⟨l,B,L,x,u,p⟩:=j it (by simp);have W:=Walks.range (prog:=X.prog) (w:=X.w) (I.ok.hd y) it lo 1 n;refine W.item i s _ _ m a λv g C D d J=>?_;obtain⟨t,rfl⟩:=D;have G:Inv X f σ H { s with heap:=g,toks:=C }:=I.turned (λb o c e=>J b o (by simpa using c) e) l B x u p;refine⟨_,rfl,aH2 (s:={ s with heap:=g,toks:=C }) (n:="range_iterator") d rfl rfl (by decide) ⟨.int (lo+i),H,G,⟨t,?_⟩,⟨rfl,rfl⟩,d,λb c=>(j b c).1⟩⟩;rw[Int.mul_one]
 done:=by intro X q r A y i f s σ H E I j a m;subst q r A;obtain⟨l,B,L,x,u,p⟩:=j it (by simp);exact wpAny_pyNext_range_end (I.ok.hd y) a (by have:n<=i:=m;lia) λg M=>⟨rfl,I.turned (t':=s.toks) (λb o c e=>M b o c e) l B x u p⟩
 self:=λ_ _ _ _ _ a h=>wpAny_pyIter_rangeiter a h
def aNk (K:bF9)(tl:TE):TI:=fun σ H R=>tl σ H λx H1=>∃a,x=.ref a/\(∃xs,SqL K H1 a xs)/\R (Itl K a) H1
def aWu (K:bF9)(tl:TE):TI:=fun σ H R=>tl σ H λx H1=>∃a,x=.ref a/\(∃xs,SqT K H1 a xs)/\R (Itt K a) H1
def aVz {l:Expr}{tl:TE}(r:PE X l tl):PI X tg l (aNk X.K tl):=by
 intro f s σ H R I h;refine thn (r f s σ H _ I h) λv c ⟨x,k,d,g,i⟩=>?_;obtain⟨a,e,⟨u,j⟩,q⟩:=i;subst e;cases g;obtain⟨n,w,p,t⟩:=d.list j;refine bCR p.isList ?_;refine⟨c.heap.objs.size,[c.heap.objs.size],_,_,k,rfl,d.kept (t':=c.toks) λb o e=>d7 _ e,aQw a _,⟨_,j8 _ rfl,rfl,rfl⟩,λb m=>?_,q⟩;have e:b=c.heap.objs.size:=by simpa using m
 subst e;exact d.aIr (j0 _) (d.hok.fresh (j0 _))
def bBi {l:Expr}{tl:TE}(r:PE X l tl):PI X tg l (aWu X.K tl):=by
 intro g s σ H R I h;refine thn (r g s σ H _ I h) λv c ⟨x,m,d,i,j⟩=>?_;obtain⟨a,e,⟨u,k⟩,q⟩:=j;subst e;cases i;obtain⟨f,w,p,t⟩:=d.tuple k;refine bEP (show c.heap.IsTuple a f.toArray from p) ?_;refine⟨c.heap.objs.size,[c.heap.objs.size],_,_,m,rfl,d.kept (t':=c.toks) λb o e=>d7 _ e,aNf a _,⟨_,j8 _ rfl,rfl,rfl⟩,λb n=>?_,q⟩;have e:b=c.heap.objs.size:=by simpa using n
 subst e;exact d.aIr (j0 _) (d.hok.fresh (j0 _))
def aKh {g:bGB}{σ:St}{H:Hp}{s:Shared}{R:It->Hp->Prop}{E:bGA}{lo hi:Int}{t u v:Tok}{tk:Nat}(I:Inv X g σ H s)(j:-(2 ^ 62)<=lo)(i:lo<2 ^ 62)(k:-(2 ^ 62)<=hi)(h:hi<2 ^ 62)
  (q:R (Itr lo (hi - lo).toNat) H):wpAny (model X.prog X.w) X.A (pyIter (.ref s.heap.objs.size)) (PIE X g σ tg R) E { s with heap:=s.heap.push { cls:=.type "range",data:=.fields #[.int lo t,.int hi u,.int 1 v] },toks:=tk }:=by
 refine wpAny_pyIter_range (IsRange.new ..) (small_one j i k h) ?_;have a:Inv X g σ H { s with heap:=s.heap.push { cls:=.type "range",data:=.fields #[.int lo t,.int hi u,.int 1 v] },toks:=tk }:=I.kept λb o e=>d7 _ e;refine⟨(s.heap.push { cls:=.type "range",data:=.fields #[.int lo t,.int hi u,.int 1 v] }).objs.size,[(s.heap.push { cls:=.type "range",data:=.fields #[.int lo t,.int hi u,.int 1 v] }).objs.size],_,_,H,rfl,
  a.kept (t':=tk) λb o e=>d7 _ e,aLq _ lo (hi - lo).toNat,?_,λb c=>?_,q⟩
 ·have d:lo+((0:Nat):Int) * 1=lo:=by simp
  have f:(((hi - lo).toNat:Nat):Int) - ((0:Nat):Int)=Builtin.Range.rangeSize lo hi 1:=by rw[rangeSize_one];split <;> lia
  show IsRangeIter _ _ (lo+((0:Nat):Int) * 1) ((((hi - lo).toNat:Nat):Int) - ((0:Nat):Int)) 1;rw[d,f];exact j8 _ rfl
 ·have e:b=(s.heap.push { cls:=.type "range",data:=.fields #[.int lo t,.int hi u,.int 1 v] }).objs.size:=by simpa using c
  subst e;exact a.aIr (j0 _) (a.hok.fresh (j0 _))
def aTd (ta:TA):TI:=fun σ H R=>ta σ H λvs H1=>∃j:Int,vs=[.int j]/\-(2 ^ 62)<=j/\j<2 ^ 62/\R (Itr 0 j.toNat) H1
def aZg (ta:TA):TI:=fun σ H R=>ta σ H λvs H1=>∃i j:Int,vs=[.int i,.int j]/\(-(2 ^ 62)<=i/\i<2 ^ 62/\-(2 ^ 62)<=j/\j<2 ^ 62)/\R (Itr i (j - i).toNat) H1
def aPx {a:Expr}{ta:TA}{p pos:Pos}(u:Gl X "range")(i:X.mg "range"=none)(v:PA X [a] ta)(o:starEach [a] X.env=[(false,eval a X.env)]:=by rfl):PI X tg (.Call (.Name "range" p) [a] [] pos) (aTd ta):=by
 intro c s σ H R I h;refine Call_ (pW I u i boot_range (bCG (thn (v pos c s σ H _ I h) λk l ⟨m,n,g,d,b⟩=>?_) o rfl));obtain⟨j,e,b,f,q⟩:=b;subst e;cases d with
 |cons r rr=>cases rr;obtain⟨t,rfl⟩:=r;exact call_range_1 (aKh g (by lia) (by lia) b f (by simpa using q))
def aP0 {a b:Expr}{ta:TA}{p pos:Pos}(z:Gl X "range")(o:X.mg "range"=none)(A:PA X [a,b] ta)(y:starEach [a,b] X.env=[(false,eval a X.env),(false,eval b X.env)]:=by rfl)(d:starEach [b] X.env=[(false,eval b X.env)]:=by rfl) :
  PI X tg (.Call (.Name "range" p) [a,b] [] pos) (aZg ta):=by
 intro f s σ H R I h;refine Call_ (pW I z o boot_range (bCG (thn (A pos f s σ H _ I h) λu v ⟨w,x,n,k,c⟩=>?_) (by rw[y,d]) (by rw[d];rfl)));obtain⟨i,j,e,⟨c,m,g,l⟩,q⟩:=c;subst e;cases k with
 |cons r rr=>
  cases rr with
  |cons r' rr=>cases rr;obtain⟨t,rfl⟩:=r;obtain⟨B,rfl⟩:=r';exact call_range_2 (aKh n c m g l q)
def bDs (wi:TI)(g:TG)(tb:TS):TS:=λD σ H=>wi σ H λJ H1=>∃W:Nat->Nat->St->Hp->Prop,(∃m,W 0 m σ H1)/\∀i m σ H,W i m σ H ->
 (J.stop i H/\D.nx σ H)\/(J.go i H/\∃N:St->Hp->Prop,(∀σ' H',N σ' H'->∃m',m'<m/\W (i+1) m' σ' H')/\∀x H',J.yld i H x H'->g x σ H' fun σ2 H2=>tb { D with nx:=N,ct:=N,bk:=D.nx } σ2 H2)
def aB1 (fp:List Addr)(h:Heap):bGB:=fp.filterMap λb=>(h.get? b).map λo=>(b,o)
def nC (a:b∈fp)(e:h.get? b=some o):(b,o)∈aB1 fp h:=List.mem_filterMap.mpr ⟨b,a,by rw[e];rfl⟩
def aQo (d:p∈aB1 fp h):p.1∈fp/\h.get? p.1=some p.2:=by
 obtain⟨b,c,e⟩:=List.mem_filterMap.mp d;cases q:h.get? b with
 |none=>rw[q] at e;cases e
 |some o=>rw[q] at e;have a:=bAH e;subst a;exact⟨c,q⟩
def Inv.pinned (I:Inv X bGD σ H s)(j:∀b∈fp,qU X bGD H b)(ho:∀b∈fp,∃o,s.heap.get? b=some o/\∀v,o.data≠.cell v):Inv X (bGD++aB1 fp s.heap) σ H s:=
 I.aN6 λp g=>(List.mem_append.mp g).elim (λz=>I.pin p (bAO _ z)) λz=>by obtain⟨c,e⟩:=aQo z;obtain⟨f,h,i,_⟩:=j p.1 c;obtain⟨o,a,d⟩:=ho p.1 c;rw[e] at a;cases a;exact⟨e,f,h,i,d⟩
def Inv.pL (I:Inv X (bGD++pl) σ H s):Inv X bGD σ H s:=I.aN6 λp a=>I.pin p (bAO _ (bBT _ a))
def bBn {iter:Expr}{body:List Stmt}{wi:TI}{g:TG}{tb:TS}{pos:Pos}(F:PassesOwn (model X.prog X.w) X.A X.env X.xe)(hc:X.calm=true)(hi:PI X tg iter wi)(hg:PG X tg g)(q:PSs X body tb)
  (hs:∀x,foldedSetIterable iter X.env x=pure x:=by intro _;rfl):PS X (.For tg iter body [] pos) (bDs wi g tb):=by
 intro a s σ H D I h;refine wpAny_For (thn (hi a s σ H _ I h) λv s1 h1=>thn h1 λa0 s2 h2=>?_) hs;obtain⟨it,E,R,J,V,e,I2,T,K,Q,W,⟨m0,w0⟩,C⟩:=h2;subst e;have c:∀{H':Hp},(∀b∈E,H' b=none)->∀b∈E,qU X a H' b:=λhn b q=>⟨hn b q,(Q b q).2⟩;refine codeAny_forLoop_any (λn U=>∃i σ' H',Inv X a σ' H' U/\R i U.heap/\(∀b∈E,H' b=none)/\W i n σ' H') ?_ m0 ⟨0,σ,V,I2,K,λb q=>(Q b q).1,w0⟩;rintro n s3 ⟨i,σ3,H3,I3,st3,fr3,w3⟩;rcases C i n σ3 H3 w3 with⟨z,qn⟩|⟨go,N,hN,step⟩
 ·refine bEN F (thn (T.done X rfl rfl rfl hc i a s3 σ3 H3 X.xe I3 (c fr3) st3 z) λr s4 ⟨G,I4⟩=>?_);subst G;exact bFQ ⟨σ3,H3,I4,qn⟩
 ·refine bEN F (thn (T.item X rfl rfl rfl hc i a s3 σ3 H3 X.xe I3 (c fr3) st3 go) λr s4 ⟨u,G,h4⟩=>?_);subst G;refine bEN F (thn h4 λ_ S ⟨x,P,Y,r5,y5,y,M⟩=>?_);have L:=Y.pinned (c M) (T.obj _ _ y);refine bEN F (thn (hg _ S σ3 P x u _ L r5 (step x P y5)) λ_ s6 ⟨σ6,H6,I6,q6⟩=>?_);refine bEN F (thn (q _ s6 σ6 H6 _ I6 q6) λf O t=>?_);have k:∀{p:St} {l:Hp},Inv X (a++aB1 E S.heap) p l O->N p l->∃m,m<n/\∃i σ' H',Inv X a σ' H' O/\R i O.heap/\(∀b∈E,H' b=none)/\W i m σ' H':=λ{p l} j B=>by obtain⟨m',hm,w7⟩:=hN p l B;refine⟨m',hm,i+1,p,l,j.pL,T.keep _ _ _ y λb q o e=>(j.pin (b,o) (bAO _ (bAO _ (nC q e)))).1,λb q=>?_,w7⟩;obtain⟨o,e,d⟩:=T.obj _ _ y b q;exact (j.pin (b,o) (bAO _ (bAO _ (nC q e)))).2.1
  cases f with
  |next=>obtain⟨p,l,j,B⟩:=t;exact k j B
  |cont=>obtain⟨p,l,j,B⟩:=t;exact k j B
  |brk=>obtain⟨p,l,j,t⟩:=t;exact⟨p,l,j.pL,t⟩
  |ret v=>obtain⟨Z,p,l,j,r7,t⟩:=t;exact⟨Z,p,l,j.pL,r7,t⟩
def aWe {K:bF9}{a:Addr}{xs:List V}{g:TG}{tb:TS}{D:Ends}{σ:St}{H:Hp}(d:Nat->St->Hp->Prop)(f:d 0 σ H)(h:∀i σ H,i<=xs.length->d i σ H->SqT K H a xs)
  (j:∀i x σ H,xs[i]?=some x->d i σ H->g x σ H fun σ2 H2=>tb { D with nx:=d (i+1),ct:=d (i+1),bk:=D.nx } σ2 H2) (hd:∀σ H,d xs.length σ H->D.nx σ H) :
  ∃W:Nat->Nat->St->Hp->Prop,(∃m,W 0 m σ H)/\∀i m σ H,W i m σ H ->
   ((Itt K a).stop i H/\D.nx σ H)\/((Itt K a).go i H/\∃N:St->Hp->Prop,(∀σ' H',N σ' H'->∃m',m'<m/\W (i+1) m' σ' H')/\∀x H',(Itt K a).yld i H x H'->g x σ H' fun σ2 H2=>tb { D with nx:=N,ct:=N,bk:=D.nx } σ2 H2):=by
 refine⟨λi m σ H=>m=xs.length - i/\i<=xs.length/\d i σ H,⟨xs.length,by simp,bAF _,f⟩,?_⟩;rintro i m σ H ⟨rfl,hi,p⟩;have q:=h i σ H hi p;by_cases b:i<xs.length
 ·refine .inr ⟨⟨xs,xs[i],q,by simp[b]⟩,d (i+1),fun σ' H' c=>⟨xs.length - (i+1),by lia,rfl,b,c⟩,λx H' y=>?_⟩;obtain⟨e,y⟩:=y;subst e;exact j i x σ _ (y xs q) p
 ·have e:i=xs.length:=by lia
  subst e;exact .inl ⟨⟨xs,q,j0 _⟩,hd σ H p⟩
def gC {lo:Int}{n:Nat}{g:TG}{tb:TS}{D:Ends}{σ:St}{H:Hp}(c:Nat->St->Hp->Prop)(d:c 0 σ H)
  (f:∀i σ H,i<n->c i σ H->g (.int (lo+i)) σ H fun σ2 H2=>tb { D with nx:=c (i+1),ct:=c (i+1),bk:=D.nx } σ2 H2) (hd:∀σ H,c n σ H->D.nx σ H) :
  ∃W:Nat->Nat->St->Hp->Prop,(∃m,W 0 m σ H)/\∀i m σ H,W i m σ H ->
   ((Itr lo n).stop i H/\D.nx σ H)\/((Itr lo n).go i H/\∃N:St->Hp->Prop,(∀σ' H',N σ' H'->∃m',m'<m/\W (i+1) m' σ' H')/\∀x H',(Itr lo n).yld i H x H'->g x σ H' fun σ2 H2=>tb { D with nx:=N,ct:=N,bk:=D.nx } σ2 H2):=by
 refine⟨λi m σ H=>m=n - i/\i<=n/\c i σ H,⟨n,by simp,bAF _,d⟩,?_⟩;rintro i m σ H ⟨rfl,hi,p⟩;by_cases a:i<n
 ·refine .inr ⟨a,c (i+1),fun σ' H' b=>⟨n - (i+1),by lia,rfl,a,b⟩,λx H' y=>?_⟩;obtain⟨e,y⟩:=y;subst e y;exact f i σ _ a p
 ·have e:i=n:=by lia
  subst e;exact .inl ⟨j0 _,hd σ H p⟩
abbrev R2:=V->V->Hp->VK->Prop
def OpR (X:Cx)(f:Value->Value->Sem Value)(r:R2):Prop:=
 ∀bGD s σ H x y v u Q,Inv X bGD σ H s->RelV x v->RelV y u->r x y H Q ->
  wpAny (model X.prog X.w) X.A (f v u) (EP X bGD σ Q) X.xe s
def UnR (X:Cx)(f:Value->Sem Value)(r:V->Hp->VK->Prop):Prop:=
 ∀bGD s σ H x v Q,Inv X bGD σ H s->RelV x v->r x H Q ->
  wpAny (model X.prog X.w) X.A (f v) (EP X bGD σ Q) X.xe s
def cA (X:Cx)(f:Value)(r:List V->Hp->VK->Prop):Prop:=
 ∀bGD s σ H xs us Q,Inv X bGD σ H s->Vals xs us->r xs H Q ->
  wpAny (model X.prog X.w) X.A (call f us) (EP X bGD σ Q) X.xe s
def bE7 (X:Cx)(r:V->Hp->(Bool->Hp->Prop)->Prop):Prop:=
 ∀bGD s σ H x v Q,Inv X bGD σ H s->RelV x v->r x H Q ->
  wpAny (model X.prog X.w) X.A (truthy v) (TP X bGD σ Q) X.xe s
def tOp (r:R2)(ta tb:TE):TE:=fun σ H Q=>ta σ H λx H1=>tb σ H1 λy H2=>r x y H2 Q
def tUn (r:V->Hp->VK->Prop)(ta:TE):TE:=fun σ H Q=>ta σ H λx H1=>r x H1 Q
inductive rI (C:Int->Int->Prop)(g:Int->Int->V)(x y:V)(H:Hp)(Q:VK):Prop
 |mk (i j:Int) (h:x=.int i) (k:y=.int j) (c:C i j) (q:Q (g i j) H):rI C g x y H Q
inductive rI0 (g:Int->Int->V)(x y:V)(H:Hp)(Q:VK):Prop
 |mk (i j:Int) (h:x=.int i) (k:y=.int j) (q:Q (g i j) H):rI0 g x y H Q
def rU (g:Int->V):V->Hp->VK->Prop:=λx H Q=>∃i,x=.int i/\Q (g i) H
def aVi (m:PE X a ta)(n:PE X b tb){c:bGB}{s:Shared}{σ:St}{H:Hp}{R:V->V->Hp->Prop}(I:Inv X c σ H s)
  (h:ta σ H λx H1=>tb σ H1 λy H2=>R x y H2) {Q:bGA} {f:Value->Value->Sem Value}
  (o:∀v u s2 x y H2,Inv X c σ H2 s2->RelV x v->RelV y u->R x y H2->wpAny (model X.prog X.w) X.A (f v u) Q X.xe s2) :
  wpAny (model X.prog X.w) X.A (eval a X.env) (λv s₁=>wpAny (model X.prog X.w) X.A (eval b X.env) (λu s₂=>wpAny (model X.prog X.w) X.A (f v u) Q X.xe s₂) X.xe s₁) X.xe s:=by
 refine thn (m c s σ H _ I h) λv i ⟨x,H1,l,e,g⟩=>?_;refine thn (n c i σ H1 _ l g) λu s2 ⟨y,H2,j,d,k⟩=>?_;exact o v u s2 x y H2 j e d k
def bCz {op:Operator}{r:R2}(ho:OpR X (binaryOp op) r)(j:PE X a ta)(k:PE X b tb):PE X (.BinOp a op b pos) (tOp r ta tb):=by intro c s σ H Q I h;exact wpAny_BinOp (aVi j k I h λv u g x y d f e i q=>ho c g σ d x y v u Q f e i q)
def bC3 {op:UnaryOp}{r:V->Hp->VK->Prop}(ho:UnR X (unaryOp op) r)(i:PE X a ta):PE X (.UnaryOp op a pos) (tUn r ta):=by intro b s σ H Q I h;exact UnaryOp_ (thn (i b s σ H _ I h) λv c ⟨x,g,e,d,f⟩=>ho b c σ g x v Q e d f)
def opI {f:Value->Value->Sem Value}{C:Int->Int->Prop}{g:Int->Int->Int}
  (a:∀(i j:Int) (t u:Tok) (s:Shared) (Q:bGA) (E:bGA),C i j->Q (.int (g i j) s.toks) { s with toks:=s.toks+1 }->wpAny (model X.prog X.w) X.A (f (.int i t) (.int j u)) Q E s) :
  OpR X f (rI C λi j=>.int (g i j)):=by
 intro k s σ H x y v u Q I b e h;obtain⟨i,j,rfl,rfl,c,q⟩:=h;obtain⟨t,rfl⟩:=b;obtain⟨d,rfl⟩:=e;exact a i j t d s _ _ c ⟨.int (g i j),H,I.tok _,⟨_,rfl⟩,q⟩
def bDp {f:Value->Value->Sem Value}{g:Int->Int->Int}
  (a:∀(i j:Int) (t u:Tok) (s:Shared) (Q:bGA) (E:bGA),Q (.int (g i j) s.toks) { s with toks:=s.toks+1 }->wpAny (model X.prog X.w) X.A (f (.int i t) (.int j u)) Q E s) :
  OpR X f (rI0 λi j=>.int (g i j)):=by
 intro e s σ H x y v u Q I b d h;obtain⟨i,j,rfl,rfl,q⟩:=h;obtain⟨t,rfl⟩:=b;obtain⟨c,rfl⟩:=d;exact a i j t c s _ _ ⟨.int (g i j),H,I.tok _,⟨_,rfl⟩,q⟩
def aXk {f:Value->Value->Sem Value}{g:Int->Int->Bool}
  (a:∀(i j:Int) (t u:Tok) (s:Shared) (Q:bGA) (E:bGA),Q (.bool (g i j)) s->wpAny (model X.prog X.w) X.A (f (.int i t) (.int j u)) Q E s) :
  OpR X f (rI0 λi j=>.bl (g i j)):=by
 intro e s σ H x y v u Q I b d h;obtain⟨i,j,rfl,rfl,q⟩:=h;obtain⟨t,rfl⟩:=b;obtain⟨c,rfl⟩:=d;exact a i j t c s _ _ ⟨.bl (g i j),H,I,rfl,q⟩
def bEr (i j:Int):Prop:=0<j/\j<1073741824
def bE9 (i j:Int):Prop:=0<=j/\j<=1000000/\i.natAbs<2 ^ 64
def aZ3 (i j:Int):Prop:=(-(2 ^ 64)<i/\i<2 ^ 64)\/(-(2 ^ 64)<j/\j<2 ^ 64)
def aZ3.ok (h:aZ3 i j):IntMulOk i j:=by
 rcases h with⟨b,a⟩|⟨b,a⟩
 ·exact .of_left (intBits_le_64 b a)
 ·exact .of_right (intBits_le_64 b a)
def dC:OpR X (binaryOp .Add) (rI0 λi j=>.int (i+j)):=bDp λ_ _ _ _ _ _ _ q=>add_int q
def aGg:OpR X (binaryOp .Sub) (rI0 λi j=>.int (i - j)):=bDp λ_ _ _ _ _ _ _ q=>sub_int q
def aBy:OpR X (binaryOp .Mult) (rI aZ3 λi j=>.int (i * j)):=opI λ_ _ _ _ _ _ _ a q=>mul_int q a.ok
def aWc:OpR X (binaryOp .FloorDiv) (rI bEr λi j=>.int (i / j)):=opI λi j _ _ _ _ _ a q=>by have c:=a.1;have b:=a.2;exact floordiv_int (by lia) (by rw[Int.fdiv_eq_ediv_of_nonneg i (by lia)];exact q) (.inl (PyProof.noPylong_small (by lia)))
def lV:OpR X (binaryOp .Mod) (rI (λ_ j=>0<j) λi j=>.int (i % j)):=opI λi j _ _ _ _ _ a q=>by have b:=a;exact mod_int' (by lia) (by rw[Int.fmod_eq_emod_of_nonneg i (by lia)];exact q)
def aE9:OpR X (binaryOp .Pow) (rI bE9 λi j=>.int (i ^ j.toNat)):=opI λ_ _ _ _ _ _ _ a q=>pow_int_small a.1 a.2.1 a.2.2 q
def unI {f:Value->Sem Value}{g:Int->Int}
  (a:∀(i:Int) (t:Tok) (s:Shared) (Q:bGA) (E:bGA),Q (.int (g i) s.toks) { s with toks:=s.toks+1 }->wpAny (model X.prog X.w) X.A (f (.int i t)) Q E s) :
  UnR X f (rU λi=>.int (g i)):=by
 intro c s σ H x v Q I b h;obtain⟨i,rfl,q⟩:=h;obtain⟨t,rfl⟩:=b;exact a i t s _ _ ⟨.int (g i),H,I.tok _,⟨_,rfl⟩,q⟩
def wK:UnR X (unaryOp .USub) (rU λi=>.int (-i)):=unI λ_ _ _ _ _ q=>neg_int q
def scal:V->V->Bool
 |.non,.non=>true|.non,.int _=>true|.int _,.non=>true|.non,.bl _=>true|.bl _,.non=>true|.non,.str _=>true|.str _,.non=>true
 |.int _,.int _=>true|.bl _,.bl _=>true|.str _,.str _=>true|.byt _,.byt _=>true
 |.int _,.str _=>true|.str _,.int _=>true|.bl _,.str _=>true|.str _,.bl _=>true
 |_,_=>false
def rEq:R2:=λx y H Q=>scal x y=true/\Q (.bl (decide (x=y))) H
def rNe:R2:=λx y H Q=>scal x y=true/\Q (.bl (!decide (x=y))) H
def aOp:decide (V.int i=V.int j)=(i == j):=by rw[bCM];simp
def aU9:decide (V.bl i=V.bl j)=(i == j):=by rw[bCM];simp
def aOw:decide (V.str i=V.str j)=(i == j):=by rw[bCM];simp
def aOv:decide (V.byt i=V.byt j)=(i.toList == j.toList):=by rw[bCM];cases i;cases j;simp
section
variable {X:Cx}{a b c:Expr}
def bY (I:Inv X bGD σ H s)(q:Q (.bl k) H)(e:k=k'):EP X bGD σ Q (.bool k') s:=by subst e;exact⟨.bl k,H,I,rfl,q⟩
def cW:OpR X (compareOp .Eq) rEq:=by
 intro e s σ H x y v u Q I d a h;obtain⟨c,q⟩:=h;cases x with
 |non=>
  cases d;cases y with
  |non=>cases a;exact PySem.EqNone.eq_none_none (bY I q (by simp))
  |bl j=>cases a;exact PySem.EqNone.eq_none_bool (bY I q (by simp))
  |int j=>obtain⟨b,rfl⟩:=a;exact PySem.EqNone.eq_none_int (bY I q (by simp))
  |str j=>obtain⟨b,rfl⟩:=a;exact PySem.EqNone.eq_none_str (bY I q (by simp))
  |_=>exact absurd (show false=true from c) v6
 |bl i=>
  cases d;cases y with
  |non=>cases a;exact PySem.EqNone.eq_bool_none (bY I q (by simp))
  |bl j=>cases a;exact eq_bool (bY I q aU9)
  |str j=>obtain⟨b,rfl⟩:=a;exact PySem.EqMixed.eq_bool_str (bY I q (by simp))
  |_=>exact absurd (show false=true from c) v6
 |int i=>
  obtain⟨t,rfl⟩:=d;cases y with
  |non=>cases a;exact PySem.EqNone.eq_int_none (bY I q (by simp))
  |int j=>obtain⟨b,rfl⟩:=a;exact eq_int (bY I q aOp)
  |str j=>obtain⟨b,rfl⟩:=a;exact PySem.EqMixed.eq_int_str (bY I q (by simp))
  |_=>exact absurd (show false=true from c) v6
 |str i=>
  obtain⟨t,rfl⟩:=d;cases y with
  |non=>cases a;exact PySem.EqNone.eq_str_none (bY I q (by simp))
  |bl j=>cases a;exact PySem.EqMixed.eq_str_bool (bY I q (by simp))
  |int j=>obtain⟨b,rfl⟩:=a;exact PySem.EqMixed.eq_str_int (bY I q (by simp))
  |str j=>obtain⟨b,rfl⟩:=a;exact eq_str (bY I q aOw)
  |_=>exact absurd (show false=true from c) v6
 |byt i=>
  obtain⟨t,rfl⟩:=d;cases y with
  |byt j=>obtain⟨b,rfl⟩:=a;exact PySem.W.eq_bytes (bY I q aOv)
  |_=>exact absurd (show false=true from c) v6
 |_=>cases y <;> exact absurd (show false=true from c) v6
def aAa:OpR X (compareOp .NotEq) rNe:=by
 intro e s σ H x y v u Q I d a h;obtain⟨c,q⟩:=h;cases x with
 |non=>
  cases d;cases y with
  |non=>cases a;exact PySem.EqNone.ne_none_none (bY I q (by simp))
  |bl j=>cases a;exact PySem.EqNone.ne_none_bool (bY I q (by simp))
  |int j=>obtain⟨b,rfl⟩:=a;exact PySem.EqNone.ne_none_int (bY I q (by simp))
  |str j=>obtain⟨b,rfl⟩:=a;exact PySem.EqNone.ne_none_str (bY I q (by simp))
  |_=>exact absurd (show false=true from c) v6
 |bl i=>
  cases d;cases y with
  |non=>cases a;exact PySem.EqNone.ne_bool_none (bY I q (by simp))
  |bl j=>cases a;exact ne_bool (bY I q (congrArg not aU9))
  |str j=>obtain⟨b,rfl⟩:=a;exact PySem.EqMixed.ne_bool_str (bY I q (by simp))
  |_=>exact absurd (show false=true from c) v6
 |int i=>
  obtain⟨t,rfl⟩:=d;cases y with
  |non=>cases a;exact PySem.EqNone.ne_int_none (bY I q (by simp))
  |int j=>obtain⟨b,rfl⟩:=a;exact ne_int (bY I q (congrArg not aOp))
  |str j=>obtain⟨b,rfl⟩:=a;exact PySem.EqMixed.ne_int_str (bY I q (by simp))
  |_=>exact absurd (show false=true from c) v6
 |str i=>
  obtain⟨t,rfl⟩:=d;cases y with
  |non=>cases a;exact PySem.EqNone.ne_str_none (bY I q (by simp))
  |bl j=>cases a;exact PySem.EqMixed.ne_str_bool (bY I q (by simp))
  |int j=>obtain⟨b,rfl⟩:=a;exact PySem.EqMixed.ne_str_int (bY I q (by simp))
  |str j=>obtain⟨b,rfl⟩:=a;exact ne_str (bY I q (congrArg not aOw))
  |_=>exact absurd (show false=true from c) v6
 |byt i=>
  obtain⟨t,rfl⟩:=d;cases y with
  |byt j=>obtain⟨b,rfl⟩:=a;exact PySem.W.ne_bytes (bY I q (congrArg not aOv))
  |_=>exact absurd (show false=true from c) v6
 |_=>cases y <;> exact absurd (show false=true from c) v6
def aY5:OpR X (compareOp .Lt) (rI0 λi j=>.bl (decide (i<j))):=aXk λ_ _ _ _ _ _ _ q=>lt_int q
def aAd:OpR X (compareOp .LtE) (rI0 λi j=>.bl (decide (i<=j))):=aXk λ_ _ _ _ _ _ _ q=>le_int q
def bDt:OpR X (compareOp .Gt) (rI0 λi j=>.bl (decide (j<i))):=aXk λ_ _ _ _ _ _ _ q=>gt_int q
def bC0:OpR X (compareOp .GtE) (rI0 λi j=>.bl (decide (j<=i))):=aXk λ_ _ _ _ _ _ _ q=>ge_int q
def aQb:OpR X (compareOp .In) (λx y H Q=>∃i j,x=.str i/\y=.str j/\Q (.bl (!(Builtin.Str.occurrences j i 0 j.length 1).isEmpty)) H):=by intro c s σ H x y v u Q I a b h;obtain⟨i,j,rfl,rfl,q⟩:=h;obtain⟨t,rfl⟩:=a;obtain⟨d,rfl⟩:=b;exact in_str (bY I q rfl)
def aMh:OpR X (compareOp .Is) (λx y H Q=>y=.non/\Q (.bl (decide (x=.non))) H):=by
 intro c s σ H x y v u Q I a b h;obtain⟨rfl,q⟩:=h;cases b;refine is_none_gen (bY I q ?_);cases x <;> first
  |(cases a;rfl)
  |(obtain⟨t,rfl⟩:=a;rfl)
def aE8:OpR X (compareOp .IsNot) (λx y H Q=>y=.non/\Q (.bl (!decide (x=.non))) H):=by
 intro c s σ H x y v u Q I a b h;obtain⟨rfl,q⟩:=h;cases b;refine isnot_none_gen (bY I q ?_);cases x <;> first
  |(cases a;rfl)
  |(obtain⟨t,rfl⟩:=a;rfl)
def OpR.or (h:OpR X f r)(h':OpR X f r'):OpR X f (λx y H Q=>r x y H Q\/r' x y H Q):=by
 intro a s σ H x y v u Q I b c q;rcases q with q|q
 ·exact h a s σ H x y v u Q I b c q
 ·exact h' a s σ H x y v u Q I b c q
def aTy (b:Expr)(h:op≠.In:=by decide)(d:op≠.NotIn:=by decide):behindInMarks op b=false:=by
 have a:(op == CmpOp.In)=false:=by cases op <;> first|rfl|exact absurd rfl h
 have c:(op == CmpOp.NotIn)=false:=by cases op <;> first|rfl|exact absurd rfl d
 cases b <;> simp[behindInMarks,a,c]
def aXq (ho:OpR X (compareOp op) r)(k:PE X a ta)(l:PE X b tb)(j:behindInMarks op b=false):PE X (.Compare a [op] [b] pos) (tOp r ta tb):=by intro c s σ H Q I h;exact wpAny_Compare1 (aVi k l I h λv u g x y d f e i q=>ho c g σ d x y v u Q f e i q) j
def aHm (t:TE):TT:=fun σ H Q=>t σ H (BlI Q)
def aVu {op:CmpOp}{r:R2}(ho:OpR X (compareOp op) r)(E:PE X a ta)(F:PE X b tb)(C:behindInMarks op b=false):PT X (.Compare a [op] [b] pos) (aHm (tOp r ta tb)):=by
 intro d s σ H Q I h;refine wpAny_isTrue_Compare1 (thn (E d s σ H _ I h) λv m ⟨x,o,B,j,l⟩=>thn (F d m σ o _ B l) λu q ⟨y,f,p,g,A⟩=>
  thn (ho d q σ f x y v u _ p j g A) λc D ⟨z,t,w,n,k,e,i⟩=>?_) C
 subst e;cases n;exact bBB ⟨t,w,i⟩
def aGh (r r':R2)(ta tb tc:TE):TE:=fun σ H Q=>ta σ H λx H1=>tb σ H1 λy H2=>r x y H2 λz H3=>∃k,z=.bl k /\
 (if k=true then tc σ H3 λw' H4=>r' y w' H4 Q else Q (.bl false) H3)
def aSh {op op':CmpOp}{r r':R2}(ho:OpR X (compareOp op) r)(o:OpR X (compareOp op') r')(O:PE X a ta)(S:PE X b tb)(R:PE X c tc)
  (P:lastMarks [op,op'] [b,c]=false:=by with_unfolding_all rfl):PE X (.Compare a [op,op'] [b,c] pos) (aGh r r' ta tb tc):=by
 intro f s σ H Q I h;refine Compare_chain (thn (O f s σ H _ I h) λv G ⟨x,p,N,n,E⟩=>chain_link (thn (S f G σ p _ N E) λu q ⟨y,m,A,j,M⟩=>
  thn (ho f q σ m x y v u _ A n j M) λd F ⟨z,i,g,J,k,e,l⟩=>?_)) P
 subst e;cases J;refine bBB ?_;cases k with
 |false=>exact ite_ff ⟨.bl false,i,g,rfl,l⟩
 |true=>exact ite_tt (chain_last (thn (R f F σ i _ g l) λt D ⟨K,w,B,C,L⟩=>o f D σ w y K u t Q B j C L))
def aRp {op op':CmpOp}{r r':R2}(ho:OpR X (compareOp op) r)(q:OpR X (compareOp op') r')(Y:PE X a ta)(hb:PE X b tb)(hc:PE X c tc)
  (hm:lastMarks [op,op'] [b,c]=false:=by with_unfolding_all rfl):PT X (.Compare a [op,op'] [b,c] pos) (aHm (aGh r r' ta tb tc)):=by
 intro f s σ H Q I h;refine isTrue_chain (thn (Y f s σ H _ I h) λv N ⟨x,t,V,o,L⟩=>test_link (thn (hb f N σ t _ V L) λu w ⟨y,m,E,j,T⟩=>
  thn (ho f w σ m x y v u _ E o j T) λd M ⟨z,i,g,O,k,e,l⟩=>?_)) hm
 subst e;cases O;refine bBB ?_;cases k with
 |false=>obtain⟨k',n,J⟩:=l;cases n;exact ite_ff ⟨i,g,J⟩
 |true=>refine ite_tt (test_last (thn (hc f M σ i _ g l) λA K ⟨R,B,G,F,S⟩=>thn (q f K σ B y R u A _ G j F S) λZ W ⟨z2,C,p,U,k2,D,P⟩=>?_));subst D;cases U;exact bBB ⟨C,p,P⟩
def bAa (K:bF9)(x:V)(H:Hp)(k:Bool):Prop:=
 match x with
 |.non=>k=false
 |.bl b=>k=b
 |.int i=>k=(i != 0)
 |.str y=>y.length<=sizeLine/\k=((y.length:Int) != 0)
 |.byt y=>y.size<=sizeLine/\k=((y.size:Int) != 0)
 |.ref p=>(∃xs,SqL K H p xs/\k=!xs.isEmpty)\/(∃xs,SqT K H p xs/\k=!xs.isEmpty)\/∃kvs,H p=some (.dK kvs)/\k=!kvs.isEmpty
 |_=>False
def aL7 {κ:Type}{kvs:List (κ × V)}{vs:List (κ × Value)}(r:KV kvs vs):(!vs.isEmpty)=!kvs.isEmpty:=by cases r <;> rfl
def yZ (r:Vals xs its):(!its.toArray.isEmpty)=!xs.isEmpty:=by cases r <;> simp
def vP:(sizeLine:Nat)<2 ^ 63:=by rw[sizeLine_eq];decide
def bBk:bE7 X (λx H Q=>∃k,bAa X.K x H k/\Q k H):=by
 intro A s σ H x v Q I f h;obtain⟨k,e,q⟩:=h;have B:=vP;have C:sizeLine=16777216:=sizeLine_eq;cases x with
 |non=>cases f;have a:k=false:=e;subst a;exact truthy_none ⟨H,I,q⟩
 |bl b=>cases f;have a:k=b:=e;subst a;exact bBB ⟨H,I,q⟩
 |int i=>obtain⟨t,rfl⟩:=f;have a:k=(i != 0):=e;subst a;exact PySem.P.truthy_int ⟨H,I,q⟩
 |str y=>obtain⟨t,rfl⟩:=f;obtain⟨z,a⟩:y.length<=sizeLine/\k=((y.length:Int) != 0):=e;subst a;exact PySem.P.truthy_str (by lia) ⟨H,I.tok _,q⟩
 |byt y=>obtain⟨t,rfl⟩:=f;obtain⟨z,a⟩:y.size<=sizeLine/\k=((y.size:Int) != 0):=e;subst a;exact PySem.W.truthy_bytes (by lia) ⟨H,I.tok _,q⟩
 |ref p=>
  cases f;have a:(∃d,SqL X.K H p d/\k=!d.isEmpty)\/(∃d,SqT X.K H p d/\k=!d.isEmpty)\/∃kvs,H p=some (.dK kvs)/\k=!kvs.isEmpty:=e;rcases a with⟨d,g,a⟩|⟨d,g,a⟩|⟨kvs,g,a⟩
  ·subst a;obtain⟨n,r,l,o⟩:=I.list g;have c:=r.length;exact wpAny_truthy_list l.isList (by simp only[d9];lia) ⟨H,I.tok _,by rw[yZ r];exact q⟩
  ·subst a;obtain⟨n,r,l,o⟩:=I.tuple g;have c:=r.length;exact truthy_tuple l (by simp only[d9];lia) ⟨H,I.tok _,by rw[yZ r];exact q⟩
  ·subst a;obtain⟨o,u,j,r,m⟩:kvs.length<=sizeLine/\(p == sysModules)=false/\∃j,KV kvs j/\s.heap.DictOf (bU X.prog X.w) p j:=I.hok p _ g;have c:kvs.length=j.length:=Paired.length r;exact wpAny_truthy_dict u m (by lia) ⟨H,I.tok _,by rw[aL7 r];exact q⟩
 |_=>exact (show False from e).elim
def aT5 (i:PE X a ta)(j:∀whole,isTrue a X.env whole=(do let v <-whole;standAt a.pos;holding [v] (truthy v))) :
  PT X a (fun σ H Q=>ta σ H λx H'=>∃k,bAa X.K x H' k/\Q k H'):=by
 intro b s σ H Q I h;exact isTrue_plain (thn (i b s σ H _ I h) λv c ⟨x,g,e,d,f⟩=>bBk b c σ g x v Q e d f) (j _)
def mW:OpR X (binaryOp .Add) (λx y H Q=>∃i j,x=.str i/\y=.str j/\i.length+j.length<=sizeLine/\Q (.str (i++j)) H):=by intro e s σ H x y v u Q I b d h;obtain⟨i,j,rfl,rfl,a,q⟩:=h;obtain⟨t,rfl⟩:=b;obtain⟨c,rfl⟩:=d;exact add_str (λc f=>⟨.str (i++j),H,I.tok _,⟨_,rfl⟩,q⟩) a
def aHe (b:Expr):Prop:=∀o i,subscripted b false o i=operate [o,i] (getItem o i)
def aIc (B:PE X a ta)(D:PE X b tb)(A:aHe b) :
  PE X (.Subscript a b pos) (tOp (λx y H Q=>∃z i c,x=.str z/\y=.int i/\0<=i/\i<2 ^ 63/\i<z.length/\z.cps[i.toNat]?=some c/\Q (.str ⟨#[c]⟩) H) ta tb):=by
 intro m s σ H Q I h;refine Subscript_ (aVi B D I h λv u o x y f n j r q=>?_);obtain⟨z,i,c,rfl,rfl,d,g,w,k,q⟩:=q;obtain⟨t,rfl⟩:=j;obtain⟨C,rfl⟩:=r;have e:seqIndex? i z.length=some i.toNat:=PySem.StrLaws.seqIndex_nonneg d w;exact tail_any (typeIs_str o z t) slot_str_getitem.lookup (getItem_str (c:=c) (by have l:decide (i < -(2 ^ 63:Int))=false:=v5 (by lia);have p:decide (i ≥ 2 ^ 63)=false:=v5 (by lia);rw[l,p] <;> rfl) (by rw[e];exact k) ⟨.str ⟨#[c]⟩,f,n.tok _,⟨_,rfl⟩,q⟩) (A _ _)
def vals1 (r:Vals [x] us):∃u,us=[u]/\RelV x u:=by
 cases r with
 |cons r1 r2=>cases r2;exact⟨_,rfl,r1⟩
def vals2 (r:Vals [x,y] us):∃u w',us=[u,w']/\RelV x u/\RelV y w':=by
 cases r with
 |cons r1 r2=>
  cases r2 with
  |cons r3 r4=>cases r4;exact⟨_,_,rfl,r1,r3⟩
def aQ3 (e:X.calm=true):cA X (.builtin "max") (λxs H Q=>∃i j,xs=[.int i,.int j]/\Q (.int (if j > i then j else i)) H):=by
 intro b s σ H xs d Q I r h;obtain⟨i,j,rfl,q⟩:=h;obtain⟨u,f,rfl,⟨t,rfl⟩,⟨l,rfl⟩⟩:=vals2 r;refine max_two_ints (I.ok.hd e) λc g k=>⟨_,H,I.kept k,?_,q⟩;by_cases a:j > i
 ·rw[if_pos a,if_pos a];exact⟨_,rfl⟩
 ·rw[if_neg a,if_neg a];exact⟨_,rfl⟩
def aEj:cA X (.type "int") (λxs H Q=>(∃i,xs=[.int i]/\Q (.int i) H)\/∃k,xs=[.bl k]/\Q (.int (if k then 1 else 0)) H):=by
 intro b s σ H xs c Q I r h;rcases h with⟨i,rfl,q⟩|⟨k,rfl,q⟩
 ·obtain⟨u,rfl,t,rfl⟩:=vals1 r;exact call_int_int ⟨.int i,H,I,⟨_,rfl⟩,q⟩
 ·obtain⟨u,rfl,a⟩:=vals1 r;cases a;exact call_int_bool ⟨.int (if k then 1 else 0),H,I.tok _,⟨_,rfl⟩,q⟩
end
structure aMm (h:Heap)(x dx C:Addr)(mA:bGC):Prop where
 obj:h.get? x=some (PySem.W.instObj C dx)
 ns:h.Ns1 dx mA
 ne:dx≠x
def aQe {h:Heap}{dx:Addr}{mA:bGC}(n:h.Ns1 dx mA):∃od,h.get? dx=some od/\∀name,PySem.W.lookIn name od=some (mA name):=by
 obtain⟨o,c,k,g,hd,i,_,d⟩:=n;refine⟨o,g,λname=>?_⟩;have e:=d name;unfold nsFind findBy at e;rw[<-Array.find?_toList] at e;unfold PySem.W.lookIn;rw[hd];dsimp only
 split
 ·rename_i y q;rw[q] at e;exact congrArg some e
 ·rename_i q;rw[q] at e;have a:c.toList.any (·.refKey)=false:=by rw[List.any_eq_false];intro y j;obtain⟨z,t,b⟩:=i y (Array.mem_toList_iff.mp j);simp[DictEntry.refKey,b]
  have f:¬ c.toList.any (·.refKey)=true:=by rw[a];exact v6
  rw[if_neg f];exact congrArg some e
def aMm.look (I:aMm h x dx C mA):∃od,PySem.W.InstAt h x (PySem.W.instObj C dx) C (some od)/\∀name,PySem.W.lookIn name od=some (mA name):=
 let ⟨od,ho,hl⟩:=aQe I.ns
 ⟨od,⟨I.obj,rfl,rfl,ho⟩,hl⟩
section
variable {prog:Program}{w:World}{A:Around}{E:bGA}{s:Shared}{K:bF9}{x dx C f:Addr}{mA:bGC}{name:Str}{v:Value}
def aVq (X:K.In s.heap)(I:aMm s.heap x dx C mA)(g:PySem.W.plainGet K C name=true)(f:PySem.W.hasDictIn K C=true)
  (c:PySem.W.findIn K (.ref C) name=some none) (d:mA name=some v) (b:PySem.W.handedIn v=true) (h:Q v { s with toks:=s.toks+1 }) :
  wpAny (model prog w) A (getAttr (.ref x) name expr) Q E s:=by
 obtain⟨e,J,a⟩:=I.look;exact PySem.W.get_value X J (PySem.W.plainGet_of g).1 (PySem.W.findObj_own f c rfl (by rw[a,d])) b h
def aS7 (X:K.In s.heap)(I:aMm s.heap x dx C mA)(c:PySem.W.plainGet K C name=true)
  (e:PySem.W.findIn K (.ref C) name=some (some (.ref f))) (g:PySem.W.isFn K (.ref f)=true) (d:mA name=none) (h:Q (.ref f,[.ref x]) s) :
  wpAny (model prog w) A (getMethod (.ref x) name pl) Q E s:=by
 obtain⟨b,J,a⟩:=I.look;exact PySem.W.method_fn X J (PySem.W.plainGet_of c).1 (PySem.W.plainGet_of c).2 e (beq_iff_eq.mp g) (by show (PySem.W.lookIn name b).map (·.isSome)=some false;rw[a,d];rfl) h
def aVr (X:K.In s.heap)(I:aMm s.heap x dx C mA)
  (t:PySem.W.findIn K (.ref C) "__setattr__"=some (some (.builtin "object.__setattr__"))) (n:PySem.W.plainOver K C=true) (r:PySem.W.takerIn K C name=some none) (u:PySem.W.hasDictIn K C=true)
  (z:PySem.Within mA ns) (hsz:ns.length<=sizeLine)
  (h:∀h',aMm h' x dx C (λy=>if y=name then some v else mA y)->Heap.SameBut dx s.heap h'->Q () { s with heap:=h',toks:=s.toks+2 }) :
  wpAny (model prog w) A (setAttr (.ref x) name v) Q E s:=by
 obtain⟨o,J,m⟩:=I.look;refine PySem.W.set_plain X J t (PySem.W.osa_open X J n r λb=>?_);obtain⟨q,j,d⟩:=PySem.W.any_some u;have l:=I.obj;refine b7 (d8 (b7 (b7 (wpAny_loadPart l (b7 (PySem.W.Looks.here (PySem.W.looks_clsIn X j) ?_))))));rw[d];refine d8 (b7 (d8 (b7 ?_)));refine wpAny_nsSet1 I.ns λh' a c=>?_;obtain⟨p,k,i,g,f,e⟩:=a.count (PySem.Within.cons name v z);refine b7 (wpAny_lookBehind g (by rw[f];exact pastItsLine_dict (bAE e (by rw[t6];lia))) ?_);exact d8 (h _ ⟨(c.2 _ (Ne.symm I.ne)).trans I.obj,a,I.ne⟩ c)
def aS9 (X:K.In s.heap)(c:PySem.W.makesIn K C=true)
  (hi:PySem.W.findIn K (.ref C) "__init__"=some (some (.ref f))) (i:PySem.W.typeIn K (.ref f)=some (.type "function"))
  (h:codeAny (model prog w) (A.under (.builtin "type.__call__" ⟨.ref C::vs,kw⟩)) (.call (.ref f) ⟨.ref (s.heap.objs.size+1)::vs,kw⟩) (PySem.W.InitBack (s.heap.objs.size+1) R)
   { s with heap:=(s.heap.push PySem.W.emptyDict).push (PySem.W.instObj C s.heap.objs.size) }) :
  codeAny (model prog w) A (.call (.ref C) ⟨vs,kw⟩) R s:=by
 obtain⟨e,g,d,t,b⟩:=s;exact PySem.W.make_core (PySem.W.makes_of X c) (PySem.W.looks_findIn X hi) (λa=>PySem.W.bind_fn X a i) (.inl rfl) h
end
def gY (f:Str)(v:V):List (Str × V)->List (Str × V)
 |[]=>[(f,v)]
 |(g,x)::r=>if g=f then (g,v)::r else (g,x)::gY f v r
theorem xT (f g:Str)(v:V):∀fs:List (Str × V),(gY f v fs).lookup g=if g=f then some v else fs.lookup g
 |[]=>by
  show List.lookup g [(f,v)]=_;by_cases h:g=f
  ·have a:(g == f)=true:=beq_iff_eq.mpr h;simp only[List.lookup,a,if_pos h]
  ·have a:=beq_eq_false_iff_ne.mpr h;simp only[List.lookup,a,if_neg h]
 |(k,x)::r=>by
  have c:=xT f g v r;rw[show gY f v ((k,x)::r)=(if k=f then (k,v)::r else (k,x)::gY f v r) from rfl];by_cases b:k=f
  ·rw[if_pos b];by_cases h:g=k
   ·have a:=beq_iff_eq.mpr h;simp only[List.lookup,a,if_pos (h.trans b)]
   ·have a:=beq_eq_false_iff_ne.mpr h;simp only[List.lookup,a,if_neg (λe:g=f=>h (e.trans b.symm))]
  ·rw[if_neg b];by_cases h:g=k
   ·have a:=beq_iff_eq.mpr h;simp only[List.lookup,a,if_neg (λe:g=f=>b (h.symm.trans e))]
   ·have a:=beq_eq_false_iff_ne.mpr h;simp only[List.lookup,a];exact c
theorem wB (f:Str)(v:V):∀fs:List (Str × V),f∈(gY f v fs).map (·.1)/\∀g,g∈fs.map (·.1)->g∈(gY f v fs).map (·.1)
 |[]=>⟨by simp[gY],λg h=>by simp at h⟩
 |(k,x)::r=>by
  obtain⟨b,c⟩:=wB f v r;rw[show gY f v ((k,x)::r)=(if k=f then (k,v)::r else (k,x)::gY f v r) from rfl];by_cases a:k=f
  ·rw[if_pos a];subst a;exact⟨by simp,λg h=>by simpa using h⟩
  ·rw[if_neg a];refine⟨?_,λg h=>?_⟩
   ·rw[bAI];exact j5 _ b
   ·rw[bAI] at h ⊢;rcases List.mem_cons.mp h with e|e
    ·exact List.mem_cons.mpr (.inl e)
    ·exact j5 _ (c g e)
theorem xP (f:Str)(v:V):∀fs:List (Str × V),(gY f v fs).length<=fs.length+1
 |[]=>by simp[gY]
 |(k,x)::r=>by
  have b:=xP f v r;rw[show gY f v ((k,x)::r)=(if k=f then (k,v)::r else (k,x)::gY f v r) from rfl];by_cases a:k=f
  ·rw[if_pos a,t6,t6];lia
  ·rw[if_neg a,t6,t6];lia
def lX.some_of (r:lX (some v) o):∃u,o=some u/\RelV v u:=by
 cases o with
 |none=>exact (show False from r).elim
 |some u=>exact⟨u,rfl,r⟩
def lX.none_of (r:lX none o):o=none:=by
 cases o with
 |none=>rfl
 |some u=>exact (show False from r).elim
def aQ4 (r:RelV v u):PySem.W.handedIn u=true:=by
 cases v with
 |non=>cases (show u=Value.none from r);rfl
 |bl b=>cases (show u=Value.bool b from r);rfl
 |int i=>obtain⟨t,e⟩:=(show ∃t,u=Value.int i t from r);cases e;rfl
 |str x=>obtain⟨t,e⟩:=(show ∃t,u=Value.str x t from r);cases e;rfl
 |byt b=>obtain⟨t,e⟩:=(show ∃t,u=Value.bytes b t from r);cases e;rfl
 |flt b=>obtain⟨t,e⟩:=(show ∃t,u=Value.float b t from r);cases e;rfl
 |ref a=>cases (show u=Value.ref a from r);rfl
 |ty n=>cases (show u=Value.type n from r);rfl
def aGq (b:HOk P w H h)(e:H a=some (.ins C dx fs)):∃mA,aMm h a dx C mA/\(∀f,lX (fs.lookup f) (mA f))/\PySem.Within mA (fs.map (·.1))/\fs.length<=1000/\H dx=some (.own a):=by obtain⟨d,z,c,g,mA,n,r,q⟩:=(show cV P w H h a (.ins C dx fs) from b a _ e);exact⟨mA,⟨g,n,c⟩,r,q,z,d⟩
structure Cls (K:bF9)(C:Addr):Prop where
 pg:PySem.W.plainGet K C Str.empty=true
 hd:PySem.W.hasDictIn K C=true
 po:PySem.W.plainOver K C=true
 sa:PySem.W.findIn K (.ref C) "__setattr__"=some (some (.builtin "object.__setattr__"))
def Cls.get {K:bF9}{C:Addr}(c:Cls K C)(f:Str):PySem.W.plainGet K C f=true:=c.pg
def bN (K:bF9)(C:Addr)(f:Str):Prop:=PySem.W.findIn K (.ref C) f=some none
def bN.taker {K:bF9}{C:Addr}{f:Str}(n:bN K C f):PySem.W.takerIn K C f=some none:=by unfold PySem.W.takerIn;rw[show PySem.W.findIn K (.ref C) f=some none from n];rfl
structure Meth (K:bF9)(C:Addr)(m:Str)(f:Addr):Prop where
 at_:PySem.W.findIn K (.ref C) m=some (some (.ref f))
 fn:PySem.W.isFn K (.ref f)=true
 kp:PySem.W.keepIn K (.ref f)=true
section
variable {X:Cx}{bGD:bGB}{σ:St}{H:Hp}{s:Shared}{a C dx:Addr}{fs:List (Str × V)}{f:Str}{v:V}{A:Around}{E:bGA}
def aLu (I:Inv X bGD σ H s)(e:H a=some (.ins C dx fs))(c:Cls X.K C)(n:bN X.K C f)(l:fs.lookup f=some v)
  (h:∀u s',Inv X bGD σ H s'->RelV v u->Q u s'):wpAny (model X.prog X.w) A (getAttr (.ref a) f b) Q E s:=by
 obtain⟨i,O,r,_,_,_⟩:=aGq I.hok e;obtain⟨u,g,d⟩:=lX.some_of (by rw[<-l];exact r f);exact aVq I.kIn O (c.get f) c.hd n g (aQ4 d) (h u _ (I.tok _) d)
def aAj (I:Inv X bGD σ H s)(e:H a=some (.ins C dx fs))(c:Cls X.K C)(k:Meth X.K C m g)(l:fs.lookup m=none)
  (h:Q (.ref g,[.ref a]) s):wpAny (model X.prog X.w) A (getMethod (.ref a) m pl) Q E s:=by
 obtain⟨d,O,r,_,_,_⟩:=aGq I.hok e;have b:=lX.none_of (by rw[<-l];exact r m);exact aS7 I.kIn O (c.get m) k.at_ k.fn b h
def aKv {y:V}{u:Value}{Q:Unit->Shared->Prop}(I:Inv X bGD σ H s)(e:H a=some (.ins C dx fs))(c:Cls X.K C)(n:bN X.K C f)(hl:fs.length<1000)(B:RelV y u)
  (h:∀s',Inv X bGD σ (upd H a (.ins C dx (gY f y fs))) s'->Q () s'):wpAny (model X.prog X.w) A (setAttr (.ref a) f u) Q E s:=by
 obtain⟨k,O,r,i,_,j⟩:=aGq I.hok e;have m:(fs.map (·.1)).length<=sizeLine:=by rw[j7,sizeLine_eq];lia
 refine aVr I.kIn O c.sa c.po n.taker c.hd i m λl d t=>h _ ?_;have hd:∃o,l.get? dx=some o:=let ⟨o,_,_,e',_⟩:=d.ns;⟨o,e'⟩
 refine I.write (x:=a) (e:=dx) (by rw[e];exact True.intro) (.inr j) (λb q v z=>(t.2 b v).trans z) hd ?_;refine⟨by rw[aM O.ne];exact j,?_,O.ne,d.obj,_,d.ns,λg=>?_,λg p=>?_⟩
 ·have:=xP f y fs;lia
 ·show lX ((gY f y fs).lookup g) (if g=f then some u else k g);rw[xT];by_cases q:g=f
  ·rw[if_pos q,if_pos q];exact B
  ·rw[if_neg q,if_neg q];exact r g
 ·by_cases q:g=f
  ·rw[q];exact (wB f y fs).1
  ·refine (wB f y fs).2 g (i g λz=>p ?_);show (if g=f then some u else k g)=none;rw[if_neg q];exact z
def Inv.made (I:Inv X bGD σ H s):Inv X bGD σ (upd (upd H s.heap.objs.size (.own (s.heap.objs.size+1))) (s.heap.objs.size+1) (.ins C s.heap.objs.size []))
  { s with heap:=(s.heap.push PySem.W.emptyDict).push (PySem.W.instObj C s.heap.objs.size) }:=by
 have d:(s.heap.push PySem.W.emptyDict).get? s.heap.objs.size=some PySem.W.emptyDict:=j8 s.heap rfl;have h:((s.heap.push PySem.W.emptyDict).push (PySem.W.instObj C s.heap.objs.size)).get? (s.heap.objs.size+1)=some (PySem.W.instObj C s.heap.objs.size):=by
  have:=j8 (s.heap.push PySem.W.emptyDict) (o:=PySem.W.instObj C s.heap.objs.size) rfl
  rwa [bBP] at this
 have g:(s.heap.push PySem.W.emptyDict).Ns s.heap.objs.size (λ_=>none):=⟨PySem.W.emptyDict,#[],_,d,rfl,(λe j=>absurd j (by simp)),λ_=>rfl⟩;have i:=I.laid (a:=s.heap.objs.size) (o:=.own (s.heap.objs.size+1)) (h':=s.heap.push PySem.W.emptyDict) (t':=s.toks) (λb u q=>d7 _ q) (j0 _) ⟨_,d⟩;refine i.laid (a:=s.heap.objs.size+1) (o:=.ins C s.heap.objs.size []) (t':=s.toks) (λb u q=>d7 _ q) (Nat.le_of_eq (bBP _ _)) ?_;have c:s.heap.objs.size≠s.heap.objs.size+1:=v7 (bCY _);refine⟨by rw[aM c,aG],bAF _,c,h,λ_=>none,(Heap.Ns1.of_empty g).at λo q=>d7 _ q,λ_=>True.intro,λy f=>absurd rfl f⟩
def aO7 (a:attributeBase e f env (eval e env)=eval e env)
  (h:wpAny (model prog w) A (eval e env) (λo s₁=>wpAny (model prog w) A (getAttr o f true) Q E s₁) E s):wpAny (model prog w) A (eval (.Attribute e f pos) env) Q E s:=
 Attribute_any_ h (by rw[arm_eval_Attribute,a])
end
inductive bEh (K:bF9)(f:Str)(Q:VK)(x:V)(H1:Hp):Prop
 |mk (a C dx:Addr) (fs:List (Str × V)) (v:V) (h:x=.ref a) (k:H1 a=some (.ins C dx fs)) (c:Cls K C) (n:bN K C f) (l:fs.lookup f=some v) (q:Q v H1):bEh K f Q x H1
def bD4 (K:bF9)(ta:TE)(f:Str):TE:=fun σ H Q=>ta σ H (bEh K f Q)
def bCw (K:bF9)(ta tv:TE)(f:Str):TS:=λD σ H=>tv σ H λy H1=>ta σ H1 λx H2=>∃a C dx fs,x=.ref a/\H2 a=some (.ins C dx fs)/\Cls K C/\bN K C f/\fs.length<1000 /\
 D.nx σ (upd H2 a (.ins C dx (gY f y fs)))
def bCm (A:PE X e ta)(z:attributeBase e f X.env (eval e X.env)=eval e X.env):PE X (.Attribute e f pos) (bD4 X.K ta f):=by intro b s σ H Q I h;refine aO7 z (thn (A b s σ H _ I h) λu t ⟨x,i,o,g,a,C,p,r,v,k,d,c,n,l,q⟩=>?_);subst k;obtain rfl:u=Value.ref a:=g;exact aLu o d c n l λw y m j=>⟨v,i,m,j,q⟩
def bAj (F:PE X o ta)(G:PE X value tv)(E:swapsWith value (some (.Attribute o f pos')) pos.line X.env=pure false):PS X (.Assign [.Attribute o f pos'] value pos) (bCw X.K ta tv f):=by intro b s σ H D I h;refine plainObj_wpAny_Assign_Attribute (thn (G b s σ H _ I h) λu p ⟨y,g,v,k,q⟩=>thn (F b p σ g _ v q) λm B ⟨x,w,j,e,a,C,z,A,r,d,c,n,l,t⟩=>?_) E;subst r;obtain rfl:m=Value.ref a:=e;exact aKv j d c n l k λJ i=>⟨σ,_,i,t⟩
structure Room (k:Nat)(A:Around):Prop where
 hd:A.handled=none
 dp:A.depth+3 * k+5<recursionLimit
 un:A.units+16 * k+200<cLine
def Room.mono (r:Room k A)(h:j<=k):Room j A:=⟨r.hd,by have:=r.dp;lia,by have:=r.un;lia⟩
def Room.deeper (r:Room (k+1) A)(env:Env):Room k (A.deeper env):=
 ⟨r.hd,by have:=r.dp;show A.depth+1+3 * k+5<_;lia,by have:=r.un;show A.units+3+16 * k+200<_;lia⟩
def aM9 {A:Around}{C:Addr}{us:List Value}{kw:List (Str × Value)}:(A.under (.builtin "type.__call__" ⟨.ref C::us,kw⟩)).depth=A.depth+1:=by
 first|rfl|simp[Around.under,Code.weight,Code.isCreation,Code.isGuard,Code.isCaller,Code.frames,Code.isFrame,guardIds]
def aLt {A:Around}{C:Addr}{us:List Value}{kw:List (Str × Value)}:(A.under (.builtin "type.__call__" ⟨.ref C::us,kw⟩)).units=A.units+1:=by
 first|rfl|simp[Around.under,Code.cUnits,Code.frames,Code.isFrame]
def Room.make (r:Room (k+1) A)(C:Addr)(us:List Value)(kw:List (Str × Value)):Room k (A.under (.builtin "type.__call__" ⟨.ref C::us,kw⟩)):=
 ⟨r.hd,by have:=r.dp;rw[aM9];lia,by have:=r.un;rw[aLt];lia⟩
def Room.depth (r:Room k A):A.depth<recursionLimit:=by have:=r.dp;lia
def Room.units (r:Room k A):A.units+64<cLine:=by have:=r.un;lia
def qO:TA:=λ_ H Q=>Q [] H
def dN (ta:TE)(tr:TA):TA:=fun σ H Q=>ta σ H λx H1=>tr σ H1 λxs H2=>Q (x::xs) H2
def aSs:PA X [] qO:=λ_ _ _ _ H Q I h=>bEW ⟨[],H,I,.nil,h⟩
def aVt (r:PE X e te)(v:PA X es t)(q:starEach (e::es) X.env=(false,eval e X.env)::starEach es X.env:=by rfl):PA X (e::es) (dN te t):=by intro a b s σ H Q I h;rw[q];show wpAny _ _ (spliced ((false,eval e X.env)::backTo a (starEach es X.env))) _ _ s;refine bCC (thn (r b s σ H _ I h) λu i ⟨x,j,m,f,g⟩=>?_);exact thn (v a b i σ j _ m g) λo p ⟨k,c,n,d,l⟩=>⟨x::k,c,n,.cons f d,l⟩
abbrev Sp:=List V->Hp->VK->XK->Prop
abbrev CXT:=List Env->Hp->Shared->XK->Value->Shared->Prop
structure aFl (P:Program)(w:World)(K:bF9)(mg:bGC)(base:Heap)(A:Around)(outer:List Env)(s:Shared)(H:Hp):Prop where
 frames:A.frames=some outer
 mod:Mod K mg base
 bs:∀b o,base.get? b=some o->s.heap.get? b=some o/\H b=none
 bsz:base.objs.size<=s.heap.objs.size
 funs:s.heap.FunFrames base outer
 frf:∀b∈frs outer,H b=none
 hok:HOk P w H s.heap
 bare:AllBare s.gens
def CE (outer:List Env)(P:Program)(w:World)(H:Hp)(s:Shared)(Q:VK)(u:Value)(s':Shared):Prop:=
 ∃v H',s'.os=s.os/\AllBare s'.gens/\Un (frs outer) [] H H' s.heap s'.heap/\HOk P w H' s'.heap/\RelV v u/\Q v H'
def CR (CX:CXT)(outer:List Env)(P:Program)(w:World)(H:Hp)(s:Shared)(Q:VK)(E:XK)(r:Result)(s':Shared):Prop:=
 match r with
 |.ok (.ret u)=>CE outer P w H s Q u s'
 |.ok _=>False
 |.error e=>CX outer H s E e s'
structure eX (P:Program)(w:World)(K:bF9)(mg:bGC)(base:Heap)(CX:CXT)(k:Nat)(f:Addr)(fd:FuncData)(ps:List Str)(sp:Sp):Prop where
 len:∀vs H Q E,sp vs H Q E->vs.length=ps.length
 run:∀(A:Around) (outer:List Env) (s:Shared) (H:Hp) (args:Args) (us:List Value) (vs:List V) (Q:VK) (E:XK),Room k A->aFl P w K mg base A outer s H->BindsTo s fd args (ps.zip us)->Vals vs us->sp vs H Q E ->
  codeAny (model P w) A (.call (.ref f) args) (CR CX outer P w H s Q E) s
def eX.mono {P:Program}{w:World}{K:bF9}{mg:bGC}{base:Heap}{CX:CXT}{j k:Nat}{f:Addr}{fd:FuncData}{ps:List Str}{sp:Sp}(F:eX P w K mg base CX j f fd ps sp)(h:j<=k) :
  eX P w K mg base CX k f fd ps sp:=⟨F.len,λA a s H b c e Q E d=>F.run A a s H b c e Q E (d.mono h)⟩
def eX.imp {P:Program}{w:World}{K:bF9}{mg:bGC}{base:Heap}{CX:CXT}{k:Nat}{f:Addr}{fd:FuncData}{ps:List Str}{sp sp':Sp}(F:eX P w K mg base CX k f fd ps sp)
  (h:∀vs H Q E,sp' vs H Q E->sp vs H Q E):eX P w K mg base CX k f fd ps sp':=
 ⟨λvs H Q E q=>F.len vs H Q E (h _ _ _ _ q),λA a s H b d vs Q E i j g c e=>F.run A a s H b d vs Q E i j g c (h _ _ _ _ e)⟩
def aFl.make {P:Program}{w:World}{K:bF9}{mg:bGC}{base:Heap}{A:Around}{outer:List Env}{s:Shared}{H:Hp}(e:aFl P w K mg base A outer s H)(C:Addr)(us:List Value)(kw:List (Str × Value)) :
  aFl P w K mg base (A.under (.builtin "type.__call__" ⟨.ref C::us,kw⟩)) outer s H:=⟨by first|exact e.frames|(simpa [Around.under,Code.envs,Code.isFrame,pushEnvs] using e.frames),e.mod,e.bs,e.bsz,e.funs,e.frf,e.hok,e.bare⟩
def Inv.env0 (I:Inv X bGD σ H s):aFl X.prog X.w X.K X.mg X.base X.A X.stack s H:=
 ⟨I.ok.frames,I.ok.mod,I.bs,bAE I.ok.bsz I.sz,I.stack,I.qK,I.hok,I.bare⟩
def Inv.after (I:Inv X bGD σ H s)(h:CE X.stack X.prog X.w H s Q u s'):EP X bGD σ Q u s':=by obtain⟨v,j,i,a,k,c,r,q⟩:=h;obtain⟨f,g,d,t,e⟩:=s';obtain rfl:e=s.os:=i;exact⟨v,j,I.call (h':=f) (g':=g) (d':=d) (t':=t) k c a (λb z=>absurd z (by simp)),r,q⟩
def uQ (sp:Sp)(dvs:List V)(E:XK)(t:TA):TE:=fun σ H Q=>t σ H λvs H1=>sp (vs++dvs) H1 Q E
inductive aY3 (C:Addr)(m:Str)(sp:Sp)(dvs:List V)(E:XK)(t:TA)(σ:St)(Q:VK)(x:V)(H1:Hp):Prop
 |mk (a dx:Addr) (fs:List (Str × V)) (h:x=.ref a) (k:H1 a=some (.ins C dx fs)) (l:fs.lookup m=none) (q:t σ H1 λvs H2=>sp (x::(vs++dvs)) H2 Q E):aY3 C m sp dvs E t σ Q x H1
def aEh (C:Addr)(m:Str)(sp:Sp)(dvs:List V)(E:XK)(ta:TE)(t:TA):TE:=fun σ H Q=>ta σ H (aY3 C m sp dvs E t σ Q)
def aZb (C:Addr)(sp:Sp)(dvs:List V)(E:XK)(t:TA):TE:=fun σ H Q=>t σ H λvs H1=>∀x dx,H1 x=none->H1 dx=none->dx≠x ->
 sp (.ref x::(vs++dvs)) (upd (upd H1 dx (.own x)) x (.ins C dx [])) (λv H2=>v=.non/\Q (.ref x) H2) E
def Binds (K:bF9)(fd:FuncData)(ps:List Str)(ds:List Value):Prop:=
 ∀s us,K.In s.heap->(us++ds).length=ps.length->BindsTo s fd ⟨us,[]⟩ (ps.zip (us++ds))
def Binds.all {K:bF9}{fd:FuncData}{ps:List Str}(h:∀us:List Value,us.length=ps.length->bindArgs fd ⟨us,[]⟩=pure (ps.zip us)):Binds K fd ps []:=λs us _ a=>by rw[bBU] at a ⊢;exact .of_eq (h us a)
def jV (CX:CXT)(X:Cx)(E:XK):Prop:=∀bGD σ H s e s',Inv X bGD σ H s->CX X.stack H s E e s'->X.xe e s'
def aAm (F:eX X.prog X.w X.K X.mg X.base CX k f fd ps sp)(j:Room k X.A)(g:Binds X.K fd ps ds)(hd:Vals dvs ds)(i:jV CX X E)
  (I:Inv X bGD σ H s) (r:Vals vs us) (h:sp (vs++dvs) H Q E):wpAny (model X.prog X.w) X.A (call (.ref f) us) (EP X bGD σ Q) X.xe s:=by
 have b:=r.append hd;have c:(us++ds).length=ps.length:=by rw[<-b.length];exact F.len _ _ _ _ h
 refine bCT (bCI (F.run X.A X.stack s H ⟨us,[]⟩ (us++ds) (vs++dvs) Q E j I.env0 (g s us I.kIn c) b h) λr d a=>?_);cases r with
 |error e=>exact i bGD σ H s e d I a
 |ok fl=>
  cases fl with
  |ret u=>exact I.after a
  |next=>exact False.elim a
  |brk=>exact False.elim a
  |cont=>exact False.elim a
def aNv (F:eX X.prog X.w X.K X.mg X.base CX k f fd ps sp)(y:Room k X.A)(n:Gl X x)(g:X.mg x=some (.ref f))(v:PySem.W.keepIn X.K (.ref f)=true)(u:Binds X.K fd ps ds)(hd:Vals dvs ds)(z:jV CX X E)
  (o:PA X (e::es) t) (c:(x == ("__debug__":Str))=false:=by decide) (B:starEach (e::es) X.env=(false,eval e X.env)::starEach es X.env:=by rfl) (d:(backTo pos (starEach es X.env)).any (·.1)=false:=by rfl) :
  PE X (.Call (.Name x p) (e::es) [] pos) (uQ sp dvs E t):=by
 intro a s σ H Q I h;refine bBI (lD I n g ?_ c);refine PySem.W.callWith_K (h₀:=X.base) I.ok.mod.kin v (thn (o pos a s σ H _ I h) λi j ⟨l,m,b,r,q⟩=>⟨b.kIn,?_⟩) B d;exact aAm F y u hd z b r q
def aSf (F:eX X.prog X.w X.K X.mg X.base CX k f fd ps sp)(i:Room k X.A)(d:Gl X x)(c:X.mg x=some (.ref f))(g:PySem.W.keepIn X.K (.ref f)=true)(e:Binds X.K fd ps ds)(hd:Vals dvs ds)(j:jV CX X E)
  (a:(x == ("__debug__":Str))=false:=by decide):PE X (.Call (.Name x p) [] [] pos) (uQ sp dvs E qO):=by
 intro b s σ H Q I h;refine bBI (lD I d c ?_ a);exact PySem.W.callWith_K0 I.kIn g (aAm F i e hd j I .nil h)
def aNt {pl:Sem Bool}(O:PE X o ta)(c:Cls X.K C)(p:Meth X.K C m f)(F:eX X.prog X.w X.K X.mg X.base CX k f fd ps sp)(R:Room k X.A)(T:Binds X.K fd ps ds)(hd:Vals dvs ds)(P:jV CX X E)(N:PA X (e::es) t)
  (z:starEach (e::es) X.env=(false,eval e X.env)::starEach es X.env:=by rfl) (D:(backTo pos (starEach es X.env)).any (·.1)=false:=by rfl)
  (S:eval (.Call (.Attribute o m apos) (e::es) [] pos) X.env=(do
   let ov <-eval o X.env
   standAt apos.atName
   let (f,first) <-holding [ov] (getMethod ov m pl)
   callWith pos f first (backTo pos (starEach (e::es) X.env)) (backToKw pos (keywordEach [] X.env))):=by rfl) :
  PE X (.Call (.Attribute o m apos) (e::es) [] pos) (aEh C m sp dvs E ta t):=by
 intro b s σ H Q I h;refine PySem.W.methodCall_KW (pl:=pl) (thn (O b s σ H _ I h) λu v ⟨x,n,g,j,a,J,L,y,i,l,q⟩=>?_) S;subst y;obtain rfl:u=Value.ref a:=j;refine aAj g i c p l ?_;refine PySem.W.callWith_K (first:=[.ref a]) (h₀:=X.base) I.ok.mod.kin p.kp (thn (N pos b v σ n _ g q) λus M ⟨vs,G,d,r,B⟩=>⟨d.kIn,?_⟩) z D;exact aAm (us:=.ref a::us) (vs:=.ref a::vs) F R T hd P d (.cons rfl r) B
def aTx {pl:Sem Bool}(z:PE X o ta)(c:Cls X.K C)(e:Meth X.K C m f)(F:eX X.prog X.w X.K X.mg X.base CX k f fd ps sp)(D:Room k X.A)(y:Binds X.K fd ps ds)(hd:Vals dvs ds)(B:jV CX X E)
  (v:eval (.Call (.Attribute o m apos) [] [] pos) X.env=(do
   let ov <-eval o X.env
   standAt apos.atName
   let (f,first) <-holding [ov] (getMethod ov m pl)
   callWith pos f first (backTo pos (starEach [] X.env)) (backToKw pos (keywordEach [] X.env))):=by rfl) :
  PE X (.Call (.Attribute o m apos) [] [] pos) (aEh C m sp dvs E ta qO):=by
 intro d s σ H Q I h;refine PySem.W.methodCall_KW (pl:=pl) (thn (z d s σ H _ I h) λu r ⟨x,t,b,i,a,n,p,j,g,l,q⟩=>?_) v;subst j;obtain rfl:u=Value.ref a:=i;refine aAj b g c e l ?_;exact PySem.W.callWith_K0 (first:=[.ref a]) b.kIn e.kp (aAm (us:=[.ref a]) (vs:=[.ref a]) F D y hd B b (.cons rfl .nil) q)
structure Mk (K:bF9)(C f:Addr):Prop where
 makes:PySem.W.makesIn K C=true
 init:PySem.W.findIn K (.ref C) "__init__"=some (some (.ref f))
 fn:PySem.W.isFn K (.ref f)=true
 kp:PySem.W.keepIn K (.ref C)=true
def aTs {p:bGB}{σ:St}{H:Hp}{s:Shared}{Q:VK}{us:List Value}{vs:List V}(M:Mk X.K C f)(F:eX X.prog X.w X.K X.mg X.base CX k f fd ps sp)(y:Room (k+1) X.A)(t:Binds X.K fd ps ds)(hd:Vals dvs ds)
  (q:jV CX X E) (I:Inv X p σ H s) (r:Vals vs us)
  (h:∀x dx,H x=none->H dx=none->dx≠x->sp (.ref x::(vs++dvs)) (upd (upd H dx (.own x)) x (.ins C dx [])) (λv H2=>v=.non/\Q (.ref x) H2) E) :
  wpAny (model X.prog X.w) X.A (call (.ref C) us) (EP X p σ Q) X.xe s:=by
 have d:=h (s.heap.objs.size+1) s.heap.objs.size (I.hok.fresh (bDB _)) (I.hok.fresh (j0 _)) (v7 (bCY _));have b:=Inv.made (C:=C) I;have c:Vals (V.ref (s.heap.objs.size+1)::(vs++dvs)) (Value.ref (s.heap.objs.size+1)::(us++ds)):=.cons rfl (r.append hd);have g:(Value.ref (s.heap.objs.size+1)::us++ds).length=ps.length:=by have e:=c.length;rw[F.len _ _ _ _ d] at e;exact e.symm
 refine bCT (aS9 (f:=f) I.kIn M.makes M.init (beq_iff_eq.mp M.fn) (bCI (F.run _ X.stack _ _ ⟨Value.ref (s.heap.objs.size+1)::us,[]⟩ (Value.ref (s.heap.objs.size+1)::(us++ds)) _ _ E (y.make C us [])
  (b.env0.make C us []) (t _ (Value.ref (s.heap.objs.size+1)::us) b.kIn g) c d) λr i a=>?_))
 cases r with
 |error e=>exact q p σ _ _ e i b a
 |ok fl=>
  cases fl with
  |ret u=>obtain⟨v,o,l,m,n,j⟩:=b.after a;subst n;exact⟨m,⟨V.ref (s.heap.objs.size+1),o,l,rfl,j⟩⟩
  |next=>exact False.elim a
  |brk=>exact False.elim a
  |cont=>exact False.elim a
def aWd (M:Mk X.K C f)(F:eX X.prog X.w X.K X.mg X.base CX k f fd ps sp)(v:Room (k+1) X.A)(n:Gl X x)(g:X.mg x=some (.ref C))(u:Binds X.K fd ps ds)(hd:Vals dvs ds)(y:jV CX X E)
  (o:PA X (e::es) t) (c:(x == ("__debug__":Str))=false:=by decide) (z:starEach (e::es) X.env=(false,eval e X.env)::starEach es X.env:=by rfl) (d:(backTo pos (starEach es X.env)).any (·.1)=false:=by rfl) :
  PE X (.Call (.Name x p) (e::es) [] pos) (aZb C sp dvs E t):=by
 intro a s σ H Q I h;refine bBI (lD I n g ?_ c);refine PySem.W.callWith_K (h₀:=X.base) I.ok.mod.kin M.kp (thn (o pos a s σ H _ I h) λi j ⟨l,m,b,r,q⟩=>⟨b.kIn,?_⟩) z d;exact aTs M F v u hd y b r q
structure aJ (N P:List Str)(sc:Scope):Prop where
 kind:sc.kind=.function
 co:sc.isCoroutine=false
 gen:sc.isGenerator=false
 nd:N.Nodup
 pre:N.take P.length=P
 par:∀x∈P,sc.names.lookup x=some .local\/sc.names.lookup x=some .cell
 nofree:∀y∈sc.names,y.2≠.free
theorem aDj {kindOf:Str->Option NameKind}{x:Str}:∀{binds:List (Str × Value)} {m:bGC},(∀v,(x,v)∉binds)->bindL kindOf binds m x=m x
 |[],_,_=>rfl
 |(n,v)::r,m,h=>by
  unfold bindL;rw[aDj λw a=>h w (j5 _ a)]
  split
  ·have:x≠n:=by rintro rfl;exact h v j4
   simp[this]
  ·rfl
theorem aDc {kindOf:Str->Option NameKind}{x:Str}:∀{binds:List (Str × Value)} {m:bGC},(∀v,(x,v)∉binds)->bindC kindOf binds m x=m x
 |[],_,_=>rfl
 |(n,v)::r,m,h=>by
  unfold bindC;rw[aDc λw a=>h w (j5 _ a)]
  split
  ·rfl
  ·have:x≠n:=by rintro rfl;exact h v j4
   simp[this]
theorem aC8 {a:Str->Option NameKind}{x:Str}{v:Value}:∀{P:List Str} {vs:List Value} {i:Nat} {m:bGC},P.Nodup->P[i]?=some x->vs[i]?=some v->a x=some .local ->
  bindL a (P.zip vs) m x=some v
 |[],_,_,_,_,h,_,_=>by simp at h
 |_::_,[],_,_,_,_,h,_=>by simp at h
 |p::P,w::vs,0,m,nd,h1,h2,hk=>by simp at h1 h2;subst h1;subst h2;show bindL a ((p,w)::P.zip vs) m p=_;unfold bindL;rw[aDj λv b=>(List.nodup_cons.mp nd).1 (List.of_mem_zip b).1,if_pos hk];simp
 |p::P,w::vs,i+1,m,nd,h1,h2,hk=>by show bindL a ((p,w)::P.zip vs) m x=_;unfold bindL;exact aC8 (i:=i) (List.nodup_cons.mp nd).2 (by simpa using h1) (by simpa using h2) hk
theorem aD4 {a:Str->Option NameKind}{x:Str}{v:Value}:∀{P:List Str} {vs:List Value} {i:Nat} {m:bGC},P.Nodup->P[i]?=some x->vs[i]?=some v->a x≠some .local ->
  bindC a (P.zip vs) m x=some v
 |[],_,_,_,_,h,_,_=>by simp at h
 |_::_,[],_,_,_,_,h,_=>by simp at h
 |p::P,w::vs,0,m,nd,h1,h2,hk=>by simp at h1 h2;subst h1;subst h2;show bindC a ((p,w)::P.zip vs) m p=_;unfold bindC;rw[aDc λv b=>(List.nodup_cons.mp nd).1 (List.of_mem_zip b).1,if_neg hk];simp
 |p::P,w::vs,i+1,m,nd,h1,h2,hk=>by show bindC a ((p,w)::P.zip vs) m x=_;unfold bindC;exact aD4 (i:=i) (List.nodup_cons.mp nd).2 (by simpa using h1) (by simpa using h2) hk
def start (N:List Str)(vs:List V):St:=vs.map some++List.replicate (N.length - vs.length) none
def qN (CX:CXT)(P:Program)(w:World)(K:bF9)(mg:bGC)(base:Heap)(N:List Str)(qual:Str)(scope:Scope)(f:Addr)(cd:Value)(A:Around)(outer:List Env)(s:Shared)(H:Hp)(E:XK):Cx where
 prog:=P
 w:=w
 K:=K
 mg:=mg
 base:=base
 A:=A.deeper (envOfC qual scope s.heap.objs.size f cd)
 N:=N
 s₀:=s
 H₀:=H
 env:=envOfC qual scope s.heap.objs.size f cd
 outer:=outer
 stack:=envOfC qual scope s.heap.objs.size f cd::outer
 ex:=[]
 calm:=true
 fn:=λ_=>true
 pn:=[]
 xe:=λe s'=>wpAny (model P w) (A.deeper (envOfC qual scope s.heap.objs.size f cd)) (leaving (envOfC qual scope s.heap.objs.size f cd) e) (λ_ s''=>CX outer H s E e s'') (λe' s''=>CX outer H s E e' s'') s'
def aIj {a:Scope}{n:Nat}{x:Str}(h:a.names.lookup x=some .cell):∃c,(cellsFrom n a.names []).lookup x=some c:=by have q:=PySem.W.cellsFrom_some a.names n [] (.inl h);exact Option.isSome_iff_exists.mp q
def aQu {CX:CXT}{P:Program}{w:World}{K:bF9}{mg:bGC}{base:Heap}{N D:List Str}{B:Str}{scope:Scope}{f:Addr}{M:Value}{A:Around}{outer:List Env}{s s1:Shared}{H:Hp}{E:XK}{us:List Value}{vs:List V}
  (S:aJ N D scope) (hd:A.handled=none) (g:aFl P w K mg base A outer s H) (hl:vs.length=D.length) (r:Vals vs us)
  (x:InCallC s s.heap.objs.size (bindL (envOfC B scope s.heap.objs.size f M).kindOf (D.zip us) λ_=>none) (cellsFrom (s.heap.objs.size+1) scope.names []) (bindC (envOfC B scope s.heap.objs.size f M).kindOf (D.zip us) λ_=>none) s1) :
  Inv (qN CX P w K mg base N B scope f M A outer s H E) [] (start N vs) H s1:=by
 have J:D.length<=N.length:=by have:=congrArg List.length S.pre;rw[bAR] at this;lia
 obtain⟨t,L,rfl,F⟩:=x.done;have j:∀b:Addr,b∉(qN CX P w K mg base N B scope f M A outer s H E).ex:=λb z=>absurd (show b∈([]:List Addr) from z) (by simp);refine⟨⟨g.mod,S.kind,rfl,rfl,j0 _,λy z c t d=>?_,λy hy=>?_,λy c _ h=>?_,λ_=>hd,Around.frames_deeper g.frames,.inr ⟨rfl,rfl⟩,λb z=>absurd z (j b),g.bs,g.bsz,λb _ _=>j b,λb z=>absurd z (j b),g.funs,g.frf⟩,
  rfl,g.bare,Un.kept F,⟨_,x.toInCall.ns,λi y v t d O=>?_⟩,λy c h=>⟨_,x.cell y c h⟩,g.hok.fresh (j0 _),λy c h=>?_,λp l=>absurd (show p∈([]:bGB) from l) (by simp),g.hok.kept F,?_⟩
 ·exact name_of_addr x.apart (PySem.mem_of_lookup t) (PySem.mem_of_lookup d)
 ·have hy:scope.names.lookup y=some .cell\/scope.names.lookup y=some .free:=hy;rcases hy with hy|hy
  ·exact aIj hy
  ·exact absurd rfl (S.nofree _ (PySem.mem_of_lookup hy))
 ·exact bDJ (x.above y c (PySem.mem_of_lookup h))
 ·have o:i<vs.length:=by
   unfold start at d;by_cases o:i<vs.length
   ·exact o
   ·rw[bAW (by simpa using o)] at d;rw[List.getElem?_replicate] at d
    split at d <;> cases d
  have I:vs[i]?=some v:=by
   unfold start at d;rw[bAZ (by simpa using o),t7] at d;cases e:vs[i]? with
   |none=>rw[e] at d;cases d
   |some a=>rw[e] at d;cases d;rfl
  obtain⟨u,C,G⟩:=r.get I;have l:D[i]?=some y:=by rw[<-S.pre,bEK (by lia)];exact t
  have m:D.Nodup:=by rw[<-S.pre];exact S.nd.sublist (bF3 _ _)
  refine⟨u,G,?_⟩;rcases S.par y (m8 l) with k|k
  ·exact .inl ⟨k,aC8 m l C k⟩
  ·obtain⟨c,e⟩:=aIj (n:=s.heap.objs.size+1) k;refine .inr ⟨.inl k,c,e,?_⟩;have q:=x.cell y c e;rw[aD4 m l C (by show scope.names.lookup y≠_;rw[k];decide)] at q;exact q
 ·exact g.hok.fresh (bDJ (x.above y c (PySem.mem_of_lookup h)))
 ·unfold start;show _=N.length;rw[bAB,j7,bDU];lia
def aO0 {CX:CXT}{P:Program}{w:World}{K:bF9}{mg:bGC}{base:Heap}{k:Nat}{f:Addr}{name i:Str}{params:Arguments}{body:List Stmt}{scope:Scope}{dV kV doc pm p ct oc:Value}{an od:Option Addr}
  {osl:Array (Option Value)} {N ps:List Str} {sp:Sp} (lk:K.lookup f=some ⟨oc,od,.func (PySem.W.fnOf name i params body scope dV kV doc pm an p ct),osl⟩) (a0:PySem.W.codeIn K p i=true) (S:aJ N ps scope)
  (l:∀vs H Q E,sp vs H Q E->vs.length=ps.length)
  (D:∀(A:Around) (outer:List Env) (s:Shared) (H:Hp) (vs:List V) (Q:VK) (E:XK),Room k (A.deeper (envOfC i scope s.heap.objs.size f p))->sp vs H Q E ->
   ∃t,PSs (qN CX P w K mg base N i scope f p A outer s H E) body t/\t { nx:=λ_ H'=>Q .non H',rt:=Q } (start N vs) H) :
  eX P w K mg base CX (k+1) f (PySem.W.fnOf name i params body scope dV kV doc pm an p ct) ps sp:=by
 refine⟨l,λA outer s H F O vs Q E m d hb r g=>?_⟩;have M:=l _ _ _ _ g;have G:K.In s.heap:=d.mod.kin.keeps λb o e=>(d.bs b o e).1;have C:s.heap.NoLimit:=d.mod.nolimit.keeps λb o e=>(d.bs b o e).1;have a:∀y∈ps.zip O,scope.names.lookup y.1=some .local\/(scope.names.lookup y.1=some .cell/\((cellsFrom (s.heap.objs.size+1) scope.names []).lookup y.1).isSome=true):=λ⟨n,v⟩ T=>by
  rcases S.par n (List.of_mem_zip T).1 with q|q
  ·exact .inl q
  ·exact .inr ⟨q,PySem.W.cellsFrom_some _ _ _ (.inl q)⟩
 refine codeAny_call_function m.depth (G _ _ lk) rfl S.co S.gen rfl (PySem.W.codeRec_of G a0) (hb _ _ _ _ ?_);refine wpAny_newFunctionEnv_cells S.kind a λZ X L x=>?_;subst X;refine⟨C.keeps x.toInCall.keep,codeAny_func ?_⟩;obtain⟨t,U,R⟩:=D A outer s H vs Q E (m.deeper _) g;have I:Inv (qN CX P w K mg base N i scope f p A outer s H E) [] (start N vs) H L:=aQu S m.hd d M r x;refine bBH (U [] L (start N vs) H _ I R) (λY z c=>?_) λe z c=>c;have h:∀{j:St} {H':Hp} {v:V} {u:Value},Inv (qN CX P w K mg base N i scope f p A outer s H E) [] j H' z->RelV v u->Q v H'->CE outer P w H s Q u z:=
  λ{j H' v u} J B q=>⟨v,H',J.os,J.bare,J.base,J.hok,B,q⟩
 cases Y with
 |ret u=>obtain⟨v,j,H',J,B,q⟩:=c;exact h J B q
 |next=>obtain⟨j,H',J,q⟩:=c;exact h (v:=V.non) (u:=Value.none) J rfl q
 |brk=>obtain⟨_,_,_,q⟩:=c;exact False.elim q
 |cont=>obtain⟨_,_,_,q⟩:=c;exact False.elim q
section
variable {X:Cx}{x:Str}{p pos:Pos}{e:Expr}{es:List Expr}{t:TA}{id T:String}{r:List V->Hp->VK->Prop}
def tCB (r:List V->Hp->VK->Prop)(t:TA):TE:=fun σ H Q=>t σ H λvs H1=>r vs H1 Q
def aTc (o:cA X (.builtin id) r)(u:Gl X x)(m:X.mg x=none)(n:bootBuiltins x=some (.builtin id))(v:PA X (e::es) t)(q:x≠"__name__":=by decide)(b:(x == ("__debug__":Str))=false:=by decide)
  (w:starEach (e::es) X.env=(false,eval e X.env)::starEach es X.env:=by rfl) (k:(backTo pos (starEach es X.env)).any (·.1)=false:=by rfl):PE X (.Call (.Name x p) (e::es) [] pos) (tCB r t):=by
 intro a s σ H Q I h;refine bBI (pW I u m n ?_ q b);exact bFH (thn (v pos a s σ H _ I h) λc g ⟨i,j,l,d,f⟩=>o a g σ j i c Q l d f) w k
def aQ1 (o:cA X (.type T) r)(u:Gl X x)(m:X.mg x=none)(n:bootBuiltins x=some (.type T))(v:PA X (e::es) t)(q:x≠"__name__":=by decide)(b:(x == ("__debug__":Str))=false:=by decide)
  (w:starEach (e::es) X.env=(false,eval e X.env)::starEach es X.env:=by rfl) (k:(backTo pos (starEach es X.env)).any (·.1)=false:=by rfl):PE X (.Call (.Name x p) (e::es) [] pos) (tCB r t):=by
 intro a s σ H Q I h;refine bBI (pW I u m n ?_ q b);exact bCG (thn (v pos a s σ H _ I h) λc g ⟨i,j,l,d,f⟩=>o a g σ j i c Q l d f) w k
end
end L2
namespace HT
open PySem PyProof.Rows
section
open PySem.SeqAt
open PySem.AutoSeq1 (wpAny_loadPart')
open PySem.MeetsSeq PySem.MeetsSeq2 PySem.MeetsSeq3
end
def aYi (x:IsTup s.heap t vs.toArray)(u:IsTup s.heap b ws.toArray)(q:vs≠[])
  (y:ws=[]->Q (.ref t) s) (v:ws≠[]->Q (.ref s.heap.objs.size) { s with heap:=s.heap.push { cls:=.type "tuple",data:=.seq (vs++ws).toArray } })
  (r:vs.length+ws.length<=sizeLine):wpAny (model prog w) A (binaryOp .Add (.ref t) (.ref b)) Q E s:=by
 obtain⟨⟨cls,k,data,o⟩,h,m,n,hd⟩:=id x;obtain⟨⟨l,c,j,d⟩,a,f,p,g⟩:=id u;simp only at m hd f g;subst m hd f g;have e:vs.toArray++ws.toArray=(vs++ws).toArray:=by simp
 by_cases i:ws=[]
 ·exact concat_meets ⟨_,h,rfl⟩ ⟨_,a,rfl⟩ noFill_tuple_add seq_tuple_add PySem.F.slot_tuple_add PySem.F.entry_tuple_add (PySem.F.args_tuple_add_2 _ _)
   (tuple_addW1 t b vs.toArray ws.toArray n p k c o d (by simpa using q) (by simp[i])) ⟨h,a,y i⟩
 ·refine concat_meets ⟨_,h,rfl⟩ ⟨_,a,rfl⟩ noFill_tuple_add seq_tuple_add PySem.F.slot_tuple_add PySem.F.entry_tuple_add (PySem.F.args_tuple_add_2 _ _)
   (tuple_addW2 t b vs.toArray ws.toArray n p k c o d (by simpa using q) (by simpa using i) (by rw[d9,d9];exact r)) ⟨h,a,?_⟩
  rw[e];exact v i
def sIx (n d:Nat):Option Int->Nat
 |none=>d
 |some v=>if v<0 then (v+(n:Int)).toNat else min v.toNat n
def aIl (n d:Nat):sIx n d none=d:=rfl
def aO9 (n d k:Nat):sIx n d (some (k:Int))=min k n:=by show (if (k:Int)<0 then ((k:Int)+(n:Int)).toNat else min (k:Int).toNat n)=min k n;rw[if_neg (by lia),bAJ]
def bAw (n d:Nat)(hd:d<=n)(o:Option Int):sIx n d o<=n:=by
 cases o with
 |none=>exact hd
 |some v=>
  show (if v<0 then (v+(n:Int)).toNat else min v.toNat n)<=n;by_cases a:v<0
  ·rw[if_pos a];lia
  ·rw[if_neg a];exact Nat.min_le_right _ _
def aNn (v:Int)(n d:Nat):(if v<0 then max (v+(n:Int)) 0 else min v (n:Int))=((sIx n d (some v):Nat):Int):=by
 show (if v<0 then max (v+(n:Int)) 0 else min v (n:Int))=(((if v<0 then (v+(n:Int)).toNat else min v.toNat n):Nat):Int);by_cases a:v<0
 ·simp only[if_pos a];lia
 ·simp only[if_neg a];lia
def aLh (lo hi:Option Int)(n:Nat):Builtin.Slice.sliceAdjust lo hi 1 (n:Int)=(((sIx n 0 lo:Nat):Int),((sIx n n hi:Nat):Int)):=by
 have a:¬ ((1:Int)<0):=by lia
 unfold Builtin.Slice.sliceAdjust;simp only[a,if_false];refine Prod.ext ?_ ?_
 ·cases lo with
  |none=>rfl
  |some v=>exact aNn v n 0
 ·cases hi with
  |none=>rfl
  |some v=>exact aNn v n n
def aNg (i j:Nat):Builtin.Slice.slicePlaces (i:Int) (j:Int) 1=j - i:=by
 unfold Builtin.Slice.slicePlaces;have a:(1:Int) > 0:=by lia
 simp only[a,if_true,Int.ediv_one]
 split <;> lia
def aAk (p:IsPart v o)(h:Q o s):wpAny (model prog w) A (Builtin.Slice.slicePartIndex v) Q E s:=by
 cases p with
 |none=>exact slicePart_none h
 |int i t=>exact slicePart_int h
def mJ {sl:Addr}{f d:Value}{lo hi:Option Int}{n:Nat}{Q:Int × Int × Nat->Shared->Prop}(i:s.heap.IsSliceOf sl f d .none)(pl:IsPart f lo)(g:IsPart d hi)
  (h:Q (((sIx n 0 lo:Nat):Int),1,sIx n n hi - sIx n 0 lo) s):wpAny (model prog w) A (Builtin.Slice.sliceApplied (.ref sl) (pure (n:Int))) Q E s:=by
 obtain⟨e,a,c,b⟩:=id i;unfold Builtin.Slice.sliceApplied Builtin.Slice.sliceFields;refine b7 (b7 (bAN a b (x:=f) rfl (b7 (bAN a b (x:=d) rfl (b7 (bAN a b (x:=.none) rfl (d8 ?_)))))));refine b7 (slicePart_none ?_);show wpAny _ _ (if ((1:Int) == 0)=true then _ else _) _ _ s;rw[if_neg (by decide)];refine b7 (aAk pl (b7 (aAk g (b7 (d8 ?_)))));show wpAny _ _ (match Builtin.Slice.sliceAdjust lo hi 1 (n:Int) with|(lo,hi)=>pure (lo,(1:Int),Builtin.Slice.slicePlaces lo hi 1)) _ _ s;rw[aLh lo hi n];show wpAny _ _ (pure (((sIx n 0 lo:Nat):Int),(1:Int),Builtin.Slice.slicePlaces ((sIx n 0 lo:Nat):Int) ((sIx n n hi:Nat):Int) 1)) _ _ s;rw[aNg];exact d8 h
def aSj (xs:Array Value)(i k:Nat):((List.range k).filterMap λ(m:Nat)=>xs[((i:Int)+(m:Int) * 1).toNat]?).toArray=((xs.toList.drop i).take k).toArray:=by
 have e:(λ(m:Nat)=>xs[((i:Int)+(m:Int) * 1).toNat]?)=λm=>xs[i+m]?:=by
  funext m;have:((i:Int)+(m:Int) * 1).toNat=i+m:=by lia
  rw[this]
 rw[e];have:=pick_run xs i k;rw[bEQ] at this;have a:((λx=>xs[x]?) ∘ λx=>i+x)=λm=>xs[i+m]?:=rfl;rw[a] at this;rw[this]
def tR {t p:Addr}{a:Array Value}{vl vu:Value}{lo hi:Option Int}{Q:bGA}(g:IsTup s.heap t a)(j:s.heap.IsSliceOf p vl vu .none)(pl:IsPart vl lo)(n:IsPart vu hi)
  (u:¬ (sIx a.size 0 lo=0/\sIx a.size a.size hi=a.size))
  (h:Q (.ref s.heap.objs.size) { s with heap:=s.heap.push { cls:=.type "tuple",data:=.seq ((a.toList.drop (sIx a.size 0 lo)).take (sIx a.size a.size hi - sIx a.size 0 lo)).toArray } })
  (hsz:a.size<=sizeLine):wpAny (model prog w) A (getItem (.ref t) (.ref p)) Q E s:=by
 have b:sizeOk (.seq ((a.toList.drop (sIx a.size 0 lo)).take (sIx a.size a.size hi - sIx a.size 0 lo)).toArray):=by show ((a.toList.drop (sIx a.size 0 lo)).take (sIx a.size a.size hi - sIx a.size 0 lo)).toArray.size<=sizeLine;rw[d9,bAR,bBL,v9];lia
 have l:sIx a.size a.size hi<=a.size:=bAw _ _ (j0 _) hi;obtain⟨k,e,d,i⟩:=id j;have f:s.TypeIs (.ref p) "slice":=⟨k,e,d⟩;unfold getItem
 try with_reducible refine bAP ?_
 first|refine b7 (d8 ?_)|skip
 refine b7 (wpAny_sequenceKey g.typeIs (by decide) ?_);refine b7 (bAK (name:=Str.ofString "__getitem__") g.typeIs bCN
  (bAL bCN g.typeIs entry_tuple_getitem ?_ (args_tuple_getitem _ _)))
 show wpAny _ _ (Builtin.Tuple.tupleItemsOf (.ref t) >>= _) _ _ s;refine b7 (tupleItemsOf_ g ?_);refine b7 (bEX f ?_);rw[if_pos (by decide)];refine b7 (mJ j pl n ?_);have c:¬ ((((sIx a.size 0 lo:Nat):Int) == 0 && (1:Int) == 1 && (sIx a.size a.size hi - sIx a.size 0 lo) == a.size)=true):=by intro q;rw[bAT,bAT] at q;have o:((sIx a.size 0 lo:Nat):Int)=0:=eq_of_beq q.1.1;have r:sIx a.size a.size hi - sIx a.size 0 lo=a.size:=eq_of_beq q.2;exact u ⟨by lia,by lia⟩
 show wpAny _ _ (if (((sIx a.size 0 lo:Nat):Int) == 0 && (1:Int) == 1 && (sIx a.size a.size hi - sIx a.size 0 lo) == a.size)=true then _ else _) _ _ s;rw[if_neg c,aSj];first
  |exact b7 (m:=Builtin.Tuple.tupleExact _) (bAG (d8 ⟨_,rfl,d8 h⟩) b)
  |exact b7 (m:=Builtin.Tuple.tupleExact _) (bAG (b7 (d8 (d8 ⟨_,rfl,d8 h⟩))) b)
  |exact b7 (b7 (m:=Builtin.Tuple.tupleExact _) (bAG (d8 (d8 ⟨_,rfl,d8 h⟩)) b))
  |exact b7 (b7 (m:=Builtin.Tuple.tupleExact _) (bAG (d8 ⟨_,rfl,d8 h⟩) b))
end HT
namespace L2
open PySem PySem.Spec PyProof.Rows
abbrev TO:=St->Hp->(Option Int->Hp->Prop)->Prop
def PO (X:Cx)(e:Option Expr)(t:TO):Prop:=
 ∀bGD s σ H Q,Inv X bGD σ H s->t σ H Q ->
  wpAny (model X.prog X.w) X.A (evalPart e X.env) (λu s'=>∃o H',Inv X bGD σ H' s'/\IsPart u o/\Q o H') X.xe s
def yQ:TO:=λ_ H Q=>Q none H
def aPb (t:TE):TO:=fun σ H Q=>t σ H λx H1=>∃i,x=.int i/\Q (some i) H1
section
variable {X:Cx}{e:Expr}{te:TE}{lo hi:Option Expr}{tl th:TO}{pos p2:Pos}
def aWa:PO X none yQ:=by intro a s σ H Q I h;rw[evalPart_none];exact d8 ⟨none,H,I,.none,h⟩
def aWw (h:PE X e te):PO X (some e) (aPb te):=by intro a s σ H Q I f;rw[evalPart_some];refine thn (h a s σ H _ I f) λu j ⟨x,d,g,b,c⟩=>?_;obtain⟨i,rfl,q⟩:=c;obtain⟨t,rfl⟩:=b;exact⟨some i,d,g,.int i t,q⟩
def SlR (X:Cx)(r:V->Option Int->Option Int->Hp->VK->Prop):Prop:=
 ∀bGD s σ H x v vl vu lo hi sl Q,Inv X bGD σ H s->RelV x v->s.heap.IsSliceOf sl vl vu .none->IsPart vl lo->IsPart vu hi->r x lo hi H Q ->
  ∃T id,typeLookup (.type T) "__getitem__"=pure (some (.builtin id))/\s.TypeIs v T/\wpAny (model X.prog X.w) X.A (getItem v (.ref sl)) (EP X bGD σ Q) X.xe s
def tSl (r:V->Option Int->Option Int->Hp->VK->Prop)(te:TE)(tl th:TO):TE:=fun σ H Q=>te σ H λx H1=>tl σ H1 λl H2=>th σ H2 λu H3=>r x l u H3 Q
def aSo {r:V->Option Int->Option Int->Hp->VK->Prop}(M:SlR X r)(N:PE X e te)(L:PO X lo tl)(P:PO X hi th):PE X (.Subscript e (.Slice lo hi none p2) pos) (tSl r te tl th):=by intro a s σ H Q I h;refine Subscript_ (thn (N a s σ H _ I h) λv E ⟨x,n,J,k,D⟩=>?_);refine wpAny_Slice (thn (L a E σ n _ J D) λf p ⟨l,i,y,G,F⟩=>thn (P a p σ i _ y F) λd c ⟨u,g,o,m,C⟩=>?_);rw[evalPart_none];refine d8 ?_;have B:Inv X a σ g { c with heap:=c.heap.push { cls:=.type "slice",data:=.fields #[f,d,.none] } }:=o.kept (t':=c.toks) λb O q=>d7 _ q;obtain⟨T,K,j,z,t⟩:=M a { c with heap:=c.heap.push { cls:=.type "slice",data:=.fields #[f,d,.none] } } σ g x v f d l u c.heap.objs.size Q B k (Heap.IsSliceOf.new ..) G m C;show wpAny (model X.prog X.w) X.A (subscriptTail e (.Slice lo hi none p2) v (.ref c.heap.objs.size)) (EP X a σ Q) X.xe { c with heap:=c.heap.push { cls:=.type "slice",data:=.fields #[f,d,.none] } };exact tail_any (ops:=[.ref c.heap.objs.size,v]) z j t (by with_unfolding_all rfl)
def oJ (xs:List V)(lo hi:Option Int):List V:=(xs.drop (HT.sIx xs.length 0 lo)).take (HT.sIx xs.length xs.length hi - HT.sIx xs.length 0 lo)
def wW (xs:List V)(lo hi:Option Int):(oJ xs lo hi).length<=xs.length:=by unfold oJ;rw[bAR,bBL];lia
def bEv (K:bF9):V->Option Int->Option Int->Hp->VK->Prop:=λx lo hi H Q=>∃a xs,x=.ref a/\SqT K H a xs /\
 ¬ (HT.sIx xs.length 0 lo=0/\HT.sIx xs.length xs.length hi=xs.length)/\∀p,H p=none->Q (.ref p) (upd H p (.tup (oJ xs lo hi)))
def bAh:SlR X (bEv X.K):=by
 intro t s σ H x v z y e i w Q I k m n l h;obtain⟨a,d,rfl,p,o,q⟩:=h;cases k;obtain⟨f,r,j,g⟩:=I.tuple p;have c:f.toArray.size=d.length:=by rw[d9];exact r.length.symm
 refine⟨"tuple",_,PyProof.Rows.slot_tuple_getitem.lookup,j.typeIs,?_⟩;refine HT.tR j m n l (by rw[c];exact o) ?_ (by rw[c];exact g);rw[c];refine⟨.ref s.heap.objs.size,_,I.laid (t':=s.toks) (λb u q=>d7 _ q) (j0 _) ?_,rfl,q _ (I.hok.fresh (j0 _))⟩;exact⟨bAE (wW d e i) g,_,(r.drop (HT.sIx d.length 0 e)).take (HT.sIx d.length d.length i - HT.sIx d.length 0 e),yJ.new _ _⟩
def bEf (K:bF9):R2:=λx y H Q=>∃a b xs ys,x=.ref a/\y=.ref b/\SqT K H a xs/\SqT K H b ys/\xs≠[]/\xs.length+ys.length<=sizeLine /\
 (ys=[]->Q (.ref a) H)/\(ys≠[]->∀p,H p=none->Q (.ref p) (upd H p (.tup (xs++ys))))
def Vals.aF3 (r:Vals xs us):us=[]↔xs=[]:=by
 cases r with
 |nil=>simp
 |cons _ _=>simp
def aX9:OpR X (binaryOp .Add) (bEf X.K):=by intro t s σ H x y v u Q I g j h;obtain⟨a,b,B,C,rfl,rfl,i,p,k,e,l,n⟩:=h;cases g;cases j;obtain⟨r,d,o,_⟩:=I.tuple i;obtain⟨f,c,m,_⟩:=I.tuple p;refine HT.aYi o m (λz=>k (d.aF3.mp z)) (λz=>⟨.ref a,H,I,rfl,l (c.aF3.mp z)⟩) (λz=>?_) (by rw[<-d.length,<-c.length];exact e);refine⟨.ref s.heap.objs.size,_,I.laid (t':=s.toks) (λb A q=>d7 _ q) (j0 _) ?_,rfl,n (λw=>z (c.aF3.mpr w)) _ (I.hok.fresh (j0 _))⟩;exact⟨by rw[bAB];exact e,_,d.append c,yJ.new _ _⟩
end
def ixN (n:Nat)(i:Int):Option Nat:=if 0<=i then (if i<n then some i.toNat else none) else if -(n:Int)<=i then some (i+n).toNat else none
def atI {α:Type}(xs:List α)(i:Int):Option α:=(ixN xs.length i).bind λj=>xs[j]?
def aOa (h:ixN n i=some j):seqIndex? i n=some j/\j<n/\-(n:Int)<=i/\i<n:=by
 unfold ixN at h;by_cases b:0<=i
 ·rw[if_pos b] at h;by_cases a:i<n
  ·rw[if_pos a] at h;have e:=bAH h;exact⟨by rw[seqIndex_of b a,e],by lia,by lia,a⟩
  ·rw[if_neg a] at h;cases h
 ·rw[if_neg b] at h;by_cases a:-(n:Int)<=i
  ·rw[if_pos a] at h;have e:=bAH h;exact⟨by rw[seqIndex_neg (by lia) a,e],by lia,a,by lia⟩
  ·rw[if_neg a] at h;cases h
def aOl {α:Type}{xs:List α}{i:Int}{v:α}(h:atI xs i=some v):∃j,seqIndex? i xs.length=some j/\xs[j]?=some v/\j<xs.length/\-(xs.length:Int)<=i/\i<xs.length:=by
 unfold atI at h;cases e:ixN xs.length i with
 |none=>rw[e] at h;cases h
 |some j=>rw[e] at h;obtain⟨b,a,d,c⟩:=aOa e;exact⟨j,b,h,a,d,c⟩
def bO {α:Type}{xs:List α}{j:Nat}{v:α}(h:xs[j]?=some v):atI xs (j:Int)=some v:=by
 have a:j<xs.length:=(List.getElem?_eq_some_iff.mp h).1;have e:ixN xs.length (j:Int)=some j:=by unfold ixN;rw[if_pos (by lia),if_pos (by lia)];simp
 unfold atI;rw[e];exact h
def aFw (b:Expr):Prop:=∀o i,subscripted b false o i=operate [o,i] (getItem o i)
def IxR (X:Cx)(r:R2):Prop:=
 ∀value slice bGD s σ H x y v u Q,Inv X bGD σ H s->RelV x v->RelV y u->r x y H Q ->
  subscripted slice false v u=operate [v,u] (getItem v u)->wpAny (model X.prog X.w) X.A (subscriptTail value slice v u) (EP X bGD σ Q) X.xe s
def MtR (X:Cx)(id:String)(r:V->List V->Hp->VK->Prop):Prop:=
 ∀bGD s σ H x xs v us Q,Inv X bGD σ H s->RelV x v->Vals xs us->r x xs H Q ->
  wpAny (model X.prog X.w) X.A (call (.builtin id) (v::us)) (EP X bGD σ Q) X.xe s
section
variable {X:Cx}
def bD5 (m:IxR X r)(k:PE X a ta)(l:PE X b tb)(j:aFw b):PE X (.Subscript a b pos) (tOp r ta tb):=by intro c s σ H Q I h;exact Subscript_ (aVi k l I h λv u g x y d f e i q=>m a b c g σ d x y v u Q f e i q (j _ _))
inductive aYr (K:bF9)(x y:V)(H:Hp)(Q:VK):Prop
 |mk (p:Addr) (xs:List V) (i:Int) (v:V) (h:x=.ref p) (k:y=.int i) (s:SqL K H p xs) (e:atI xs i=some v) (q:Q v H):aYr K x y H Q
inductive bCe (K:bF9)(x y:V)(H:Hp)(Q:VK):Prop
 |mk (p:Addr) (xs:List V) (i:Int) (v:V) (h:x=.ref p) (k:y=.int i) (s:SqT K H p xs) (e:atI xs i=some v) (q:Q v H):bCe K x y H Q
def bJ:IxR X (aYr X.K):=by
 intro k d b s σ H x y v u Q I C F h m;obtain⟨p,N,i,z,rfl,rfl,D,E,q⟩:=h;cases C;obtain⟨t,rfl⟩:=F;obtain⟨l,r,g,M⟩:=I.list D;obtain⟨j,c,L,P,B,G⟩:=aOl E;obtain⟨w,n,f⟩:=r.get L;have A:=r.length;have O:=vP;have a:EP X b σ Q w s:=⟨z,H,I,f,q⟩;by_cases o:0<=i
 ·have e:i.toNat=j:=by rw[seqIndex_of o G] at c;exact bAH c
  exact item_listR g.isList o (by lia) (by rw[e];simpa using n) a m
 ·have e:(i+(l.toArray.size:Int)).toNat=j:=by rw[seqIndex_neg (by lia) B] at c;rw[d9,<-A];exact bAH c
  exact subscriptTail_builtinR (x:=w) g.isList.typeIs slot_list_getitem.lookup
   (wpAny_getItem_list_neg (Q:=λr J=>r=w/\EP X b σ Q r J) g.isList (by lia) (by rw[d9] <;> lia) (by lia) (by rw[e];simpa using n) ⟨rfl,a⟩) m
def aR:IxR X (bCe X.K):=by
 intro e c a s σ H x y v u Q I k A h m;obtain⟨p,L,i,z,rfl,rfl,l,o,q⟩:=h;cases k;obtain⟨t,rfl⟩:=A;obtain⟨D,r,f,F⟩:=I.tuple l;obtain⟨j,B,E,N,G,J⟩:=aOl o;obtain⟨w,n,d⟩:=r.get E;have g:=r.length;have M:=vP;have b:EP X a σ Q w s:=⟨z,H,I,d,q⟩;exact subscriptTail_builtinR (x:=w) f.typeIs slot_tuple_getitem.lookup
  (getItem_tuple (j:=j) (Q:=λr C=>r=w/\EP X a σ Q r C) f (by lia) (by lia) (by rw[d9,<-g];exact B) (by simpa using n) ⟨rfl,b⟩) m
def aK4 (its:List Value)(n j:Nat)(u:Value):Obj.mapSeq (·.setIfInBounds j u) { cls:=.type "list",data:=.seq its.toArray n }={ cls:=.type "list",data:=.seq (its.set j u).toArray n }:=by simp[Obj.mapSeq]
def Inv.lst (I:Inv X bGD σ H s)(h:H p=some (.lst xs)) :
  ∃its n,Vals xs its/\s.heap.get? p=some { cls:=.type "list",data:=.seq its.toArray n }/\xs.length<=sizeLine:=by
 obtain⟨z,its,n,r,e⟩:=I.hok p _ h;exact⟨its,n,r,e,z⟩
def Inv.aZ7 {bGD:bGB}{σ:St}{H:Hp}{s:Shared}{p:Addr}{xs ys:List V}{its its':List Value}{n a:Nat}{f:Obj->Obj}(I:Inv X bGD σ H s)(h:H p=some (.lst xs))
  (ho:s.heap.get? p=some { cls:=.type "list",data:=.seq its.toArray n }) (d:f { cls:=.type "list",data:=.seq its.toArray n }={ cls:=.type "list",data:=.seq its'.toArray a }) (r:Vals ys its') (g:ys.length<=sizeLine) (t:Nat) :
  Inv X bGD σ (upd H p (.lst ys)) { s with heap:=s.heap.update p f,toks:=t }:=by
 have e:(s.heap.update p f).get? p=some { cls:=.type "list",data:=.seq its'.toArray a }:=by rw[bAS f ho (by rw[d] <;> rfl),d]
 refine I.write (x:=p) (e:=p) (by rw[h];trivial) (.inl rfl) (λb u c q=>(bBF _ _ (Ne.symm c)).trans q) ⟨_,e⟩ ?_;exact⟨g,its',a,r,e⟩
def bCx:V->V->V->Hp->(Hp->Prop)->Prop:=λo i v H Q=>∃p xs k j,o=.ref p/\i=.int k/\H p=some (.lst xs)/\ixN xs.length k=some j/\Q (upd H p (.lst (xs.set j v)))
def set_list:bAo X bCx:=by
 intro e s σ H o i v F E u Q I D z C h;obtain⟨p,B,k,j,rfl,rfl,g,A,q⟩:=h;cases D;obtain⟨t,rfl⟩:=z;obtain⟨a,n,r,d,y⟩:=I.lst g;obtain⟨b,G,x,m⟩:=aOa A;have c:=r.length;have J:=vP;have l:Inv X e σ (upd H p (.lst (B.set j v))) { s with heap:=s.heap.update p (Obj.mapSeq (·.setIfInBounds j u)) }:=
  I.aZ7 g d (aK4 a n j u) (r.set C j) (by rw[List.length_set];exact y) s.toks
 by_cases w:0<=k
 ·have f:k.toNat=j:=by rw[seqIndex_of w m] at b;exact bAH b
  exact PySem.W.ki_setAt d w (by lia) (by rw[d9,<-c];exact m) (by rw[f];exact⟨_,l,q⟩)
 ·have f:(k+(a.toArray.size:Int)).toNat=j:=by rw[seqIndex_neg (by lia) x] at b;rw[d9,<-c];exact bAH b
  exact PySem.W.ki_setBack d (by lia) (by rw[d9,<-c];exact x) (by lia) (by rw[f];exact⟨_,l,q⟩)
def aGp (lo hi:Option Int)(n:Nat):(sliceBounds lo hi none n).1=((HT.sIx n 0 lo:Nat):Int)/\(sliceBounds lo hi none n).2.1=((HT.sIx n n hi:Nat):Int)/\(sliceBounds lo hi none n).2.2=1:=by
 refine⟨?_,?_,rfl⟩
 ·cases lo with
  |none=>simp[sliceBounds,HT.sIx]
  |some i=>
   simp only[sliceBounds,HT.sIx,Option.getD_none,show (1:Int) > 0 by decide,if_true];by_cases h:i<0
   ·simp only[h,if_true] <;> lia
   ·simp only[h,if_false] <;> lia
 ·cases hi with
  |none=>simp[sliceBounds,HT.sIx]
  |some i=>
   simp only[sliceBounds,HT.sIx,Option.getD_none,show (1:Int) > 0 by decide,if_true];by_cases h:i<0
   ·simp only[h,if_true] <;> lia
   ·simp only[h,if_false] <;> lia
def aCh (its:List Value)(lo hi:Option Int):slicePick its.toArray lo hi none=((its.drop (HT.sIx its.length 0 lo)).take (HT.sIx its.length its.length hi - HT.sIx its.length 0 lo)).toArray:=by obtain⟨b,a,c⟩:=aGp lo hi its.toArray.size;unfold slicePick;rw[b,a,c];simp only[sliceRange_one,pick_run,d9] <;> rfl
def bE8 (K:bF9):V->Option Int->Option Int->Hp->VK->Prop:=λx lo hi H Q=>∃a xs,x=.ref a/\SqL K H a xs/\∀p,H p=none->Q (.ref p) (upd H p (.lst (oJ xs lo hi)))
def aW5:SlR X (bE8 X.K):=by intro p s σ H x v y w e f u Q I j l m k h;obtain⟨a,c,rfl,o,q⟩:=h;cases j;obtain⟨n,r,g,i⟩:=I.list o;have d:=r.length;refine⟨"list",_,slot_list_getitem.lookup,g.isList.typeIs,?_⟩;refine wpAny_getItem_list_slice g.isList l m k .none (by simp) ?_ (by rw[d9] <;> lia);rw[aCh,<-d];refine⟨.ref s.heap.objs.size,_,I.laid (t':=s.toks) (λb t q=>d7 _ q) (j0 _) ?_,rfl,q _ (I.hok.fresh (j0 _))⟩;exact⟨bAE (wW c e f) i,_,0,(r.drop (HT.sIx c.length 0 e)).take (HT.sIx c.length c.length f - HT.sIx c.length 0 e),j8 _ rfl⟩
def iW:V->Bool
 |.non=>true
 |.bl _=>true
 |.int _=>true
 |.str _=>true
 |_=>false
def eqV:V->V->Bool
 |.non,.non=>true
 |.bl a,.bl b=>a == b
 |.bl a,.int b=>(if a then 1 else 0) == b
 |.int a,.bl b=>a == (if b then 1 else 0)
 |.int a,.int b=>a == b
 |.str a,.str b=>a == b
 |_,_=>false
def aRq (f:RelV y u)(c:RelV x v)(g:iW y=true)(e:iW x=true):SeqAt.EqAt A s u v (eqV y x):=by
 cases y with
 |non=>
  cases f;cases x with
  |non=>cases c;exact bCU _
  |bl b=>cases c;exact SeqAt.EqAt.none_bool b
  |int b=>obtain⟨t,rfl⟩:=c;exact SeqAt.EqAt.none_int b t
  |str b=>obtain⟨t,rfl⟩:=c;exact SeqAt.EqAt.none_str b t
  |_=>exact absurd (show false=true from e) v6
 |bl a=>
  cases f;cases x with
  |non=>cases c;exact SeqAt.EqAt.bool_none a
  |bl b=>cases c;exact SeqAt.EqAt.bool_bool a b
  |int b=>obtain⟨t,rfl⟩:=c;exact SeqAt.EqAt.bool_int a b t
  |str b=>obtain⟨t,rfl⟩:=c;exact SeqAt.EqAt.bool_str a b t
  |_=>exact absurd (show false=true from e) v6
 |int a=>
  obtain⟨d,rfl⟩:=f;cases x with
  |non=>cases c;exact SeqAt.EqAt.int_none a d
  |bl b=>cases c;exact SeqAt.EqAt.int_bool a d b
  |int b=>obtain⟨t,rfl⟩:=c;exact bER a d b t
  |str b=>obtain⟨t,rfl⟩:=c;exact SeqAt.EqAt.int_str a d b t
  |_=>exact absurd (show false=true from e) v6
 |str a=>
  obtain⟨d,rfl⟩:=f;cases x with
  |non=>cases c;exact SeqAt.EqAt.str_none a d
  |bl b=>cases c;exact SeqAt.EqAt.str_bool a d b
  |int b=>obtain⟨t,rfl⟩:=c;exact SeqAt.EqAt.str_int a d b t
  |str b=>obtain⟨t,rfl⟩:=c;exact bDL a d b t
  |_=>exact absurd (show false=true from e) v6
 |_=>exact absurd (show false=true from g) v6
def eqU (x:V)(u:Value):Bool:=match u with
 |.none=>eqV .non x
 |.bool b=>eqV (.bl b) x
 |.int i _=>eqV (.int i) x
 |.str z _=>eqV (.str z) x
 |_=>false
def aTr (r:RelV y u)(f:iW y=true):eqU x u=eqV y x:=by
 cases y with
 |non=>cases r;rfl
 |bl b=>cases r;rfl
 |int i=>obtain⟨t,rfl⟩:=r;rfl
 |str z=>obtain⟨t,rfl⟩:=r;rfl
 |_=>exact absurd (show false=true from f) v6
theorem vB:∀{xs:List V} {us:List Value},Vals xs us->xs.all iW=true->us.any (eqU x)=xs.any λy=>eqV y x
 |_,_,.nil,_=>rfl
 |y::xs,u::us,.cons r t,f=>by rw[bFK,bAT] at f;rw[bFL,bFL,aTr r f.1,vB t f.2]
theorem pG (a:RelV x v)(b:iW x=true):∀{xs:List V} {us:List Value},Vals xs us->xs.all iW=true->∀u∈us,SeqAt.EqAt A s u v (eqU x u)
 |_,_,.nil,_=>λu hu=>by cases hu
 |y::xs,u::us,.cons r t,f=>λc hu=>by
  rw[bFK,bAT] at f;rcases List.mem_cons.mp hu with rfl|hu
  ·rw[aTr r f.1];exact aRq r a f.1 b
  ·exact pG a b t f.2 c hu
def inV (x:V)(xs:List V):Bool:=xs.any λy=>eqV y x
def rIn (K:bF9)(neg:Bool):R2:=λx y H Q=>∃p xs,y=.ref p/\(SqL K H p xs\/SqT K H p xs)/\iW x=true/\xs.all iW=true/\Q (.bl (if neg then !inV x xs else inV x xs)) H
def wD:OpR X (compareOp .In) (rIn X.K false):=by
 intro j s σ H x y v u Q I e i h;obtain⟨p,k,rfl,hq,f,b,q⟩:=h;cases i;rcases hq with hq|hq
 ·obtain⟨a,r,c,g⟩:=I.list hq;refine SeqAt.in_listAt (eqU x) c.isList (λw d=>pG e f r b w (by simpa using d)) ⟨.bl _,H,I,rfl,?_⟩;rw[show a.toArray.any (eqU x)=a.any (eqU x) by simp,vB r b];exact q
 ·obtain⟨a,r,c,g⟩:=I.tuple hq;refine SeqAt.in_tupleAt (eqU x) c (λw d=>pG e f r b w (by simpa using d)) ⟨.bl _,H,I,rfl,?_⟩;rw[show a.toArray.any (eqU x)=a.any (eqU x) by simp,vB r b];exact q
def tV:OpR X (compareOp .NotIn) (rIn X.K true):=by
 intro j s σ H x y v u Q I e i h;obtain⟨p,k,rfl,hq,f,b,q⟩:=h;cases i;rcases hq with hq|hq
 ·obtain⟨a,r,c,g⟩:=I.list hq;refine bES (eqU x) c.isList (λw d=>pG e f r b w (by simpa using d)) ⟨.bl _,H,I,rfl,?_⟩;rw[show a.toArray.any (eqU x)=a.any (eqU x) by simp,vB r b];exact q
 ·obtain⟨a,r,c,g⟩:=I.tuple hq;refine SeqAt.notIn_tupleAt (eqU x) c (λw d=>pG e f r b w (by simpa using d)) ⟨.bl _,H,I,rfl,?_⟩;rw[show a.toArray.any (eqU x)=a.any (eqU x) by simp,vB r b];exact q
def bA:cA X (.builtin "len") (λxs H Q=>∃p ys,xs=[.ref p]/\(SqL X.K H p ys\/SqT X.K H p ys)/\Q (.int ys.length) H):=by
 intro g s σ H xs i Q I r h;obtain⟨p,ys,rfl,hq,q⟩:=h;obtain⟨u,rfl,f⟩:=vals1 r;cases f;have j:=vP;rcases hq with hq|hq
 ·obtain⟨d,b,c,e⟩:=I.list hq;have a:=b.length;exact Calls.call_len_list c.isList (by simp only[d9] <;> lia) ⟨.int ys.length,H,I.tok _,⟨s.toks+1,by rw[d9,a]⟩,q⟩
 ·obtain⟨d,b,c,e⟩:=I.tuple hq;have a:=b.length;exact len_tuple c (by simp only[d9] <;> lia) ⟨.int ys.length,H,I.tok _,⟨s.toks+1,by rw[d9,a]⟩,q⟩
def vH:cA X (.builtin "len") (λxs H Q=>∃z,xs=[.str z]/\z.length<=sizeLine/\Q (.int z.length) H):=by intro a s σ H xs c Q I r h;obtain⟨z,rfl,b,q⟩:=h;obtain⟨u,rfl,t,rfl⟩:=vals1 r;have d:=vP;exact len_str (by lia) ⟨.int z.length,H,I.tok _,⟨_,rfl⟩,q⟩
def cA.or (h:cA X f r)(h':cA X f r'):cA X f (λxs H Q=>r xs H Q\/r' xs H Q):=by
 intro a s σ H xs b Q I c q;rcases q with q|q
 ·exact h a s σ H xs b Q I c q
 ·exact h' a s σ H xs b Q I c q
def aF4:cA X (.type "list") (λxs H Q=>∃p ys,xs=[.ref p]/\(SqL X.K H p ys\/SqT X.K H p ys)/\∀l,H l=none->Q (.ref l) (upd H l (.lst ys))):=by
 intro x s σ H xs z Q I r h;obtain⟨p,ys,rfl,hq,q⟩:=h;obtain⟨u,rfl,y⟩:=vals1 r;cases y;have i:∀a,Vals ys a->ys.length<=sizeLine->∀c f,(∀b o',s.heap.get? b=some o'->c.get? b=some o') ->
   c.get? s.heap.objs.size=some { cls:=.type "list",dict:=none,data:=.seq a.toArray f,slots:=#[] }->EP X x σ Q (.ref s.heap.objs.size) { s with heap:=c }:=λa d g c f j e=>
  ⟨.ref s.heap.objs.size,_,I.laid (t':=s.toks) j (j0 _) (show cV X.prog X.w _ c _ (.lst ys) from ⟨g,a,f,d,e⟩),rfl,q _ (I.hok.fresh (j0 _))⟩
 rcases hq with hq|hq
 ·obtain⟨a,d,v,g⟩:=I.list hq;have k:=d.length;obtain⟨o,t,m,n,hd⟩:=v.isList;exact call_list_seq p (.inl rfl) t m hd (λc f j e=>i a d g c f j e) (by simp only[d9] <;> lia)
 ·obtain⟨a,d,v,g⟩:=I.tuple hq;have k:=d.length;obtain⟨o,t,m,n,hd⟩:=v;exact call_list_seq p (.inr rfl) t m hd (λc f j e=>i a d g c f j e) (by simp only[d9] <;> lia)
def aCm:cA X (.type "tuple") (λxs H Q=>∃p ys,xs=[.ref p]/\((SqL X.K H p ys/\∀l,H l=none->Q (.ref l) (upd H l (.tup ys)))\/(SqT X.K H p ys/\Q (.ref p) H))):=by
 intro i s σ H xs x Q I r h;obtain⟨p,ys,rfl,h⟩:=h;obtain⟨u,rfl,t⟩:=vals1 r;cases t;rcases h with⟨f,q⟩|⟨f,q⟩
 ·obtain⟨a,d,g,j⟩:=I.list f;have k:=d.length;refine call_tuple_list g.isList (λc n=>?_) (by simp only[d9] <;> lia);have m:=I.kept (t':=s.toks) n;have v:Inv X i σ (upd H c.objs.size (.tup ys)) { s with heap:=c.push { cls:=.type "tuple",data:=.seq a.toArray } }:=
   m.laid (t':=s.toks) (λb o e=>d7 _ e) (j0 _) (show cV X.prog X.w _ _ _ (.tup ys) from ⟨j,a,d,yJ.new _ _⟩)
  exact⟨.ref c.objs.size,_,v,rfl,q _ (m.hok.fresh (j0 _))⟩
 ·obtain⟨a,d,g,j⟩:=I.tuple f;exact call_tuple_same g ⟨.ref p,H,I,rfl,q⟩
def tyV (K:bF9)(T:String)(x:V)(H:Hp):Prop:=match x with
 |.str _=>T = "str"
 |.int _=>T = "int"
 |.ref p=>(T = "list"/\∃xs,SqL K H p xs)\/(T = "tuple"/\∃o,K.lookup p=some o/\o.cls=.type "tuple"/\o.dict=none) \/
   (T = "dict"/\((∃kvs,H p=some (.dK kvs))\/∃kvs,H p=some (.dT kvs)))\/(T = "set"/\∃S n,H p=some (.set S n))
 |_=>False
def aM5 (I:Inv X bGD σ H s)(r:RelV x v)(f:tyV X.K T x H) :
  s.TypeIs v T/\∀a,v=.ref a->∃ob,s.heap.get? a=some ob/\ob.dict=none:=by
 cases x with
 |str z=>obtain⟨t,rfl⟩:=r;cases (show T = "str" from f);exact⟨typeIs_str s z t,λ_ e=>nomatch e⟩
 |int i=>obtain⟨t,rfl⟩:=r;cases (show T = "int" from f);exact⟨typeIs_int s i t,λ_ e=>nomatch e⟩
 |ref p=>
  cases r;rcases f with⟨rfl,m,k⟩|⟨rfl,o,b,hc,hd⟩|⟨rfl,b⟩|⟨rfl,S,n,b⟩
  ·obtain⟨l,_,j,_⟩:=I.list k;refine⟨j.isList.typeIs,λa e=>?_⟩;cases e;obtain⟨o,n,e,c,hd,_⟩:=j;exact⟨o,e,hd⟩
  ·refine⟨⟨o,I.kIn p o b,hc⟩,λa e=>?_⟩;cases e;exact⟨o,I.kIn _ o b,hd⟩
  ·have z:∃o,s.heap.get? p=some o/\o.ExactDict:=by
    rcases b with⟨g,b⟩|⟨g,b⟩
    ·obtain⟨_,_,_,_,o,_,_,e,d,_⟩:=I.hok p _ b;exact⟨o,e,d⟩
    ·obtain⟨_,_,_,_,o,_,_,e,d,_⟩:=I.hok p _ b;exact⟨o,e,d⟩
   obtain⟨o,e,d⟩:=z;refine⟨⟨o,e,d.1⟩,λa h=>?_⟩;cases h;exact⟨o,e,d.2.1⟩
  ·obtain⟨o,_,_,_,e,d,_⟩:=I.hok p _ b;refine⟨⟨o,e,d.1⟩,λa h=>?_⟩;cases h;exact⟨o,e,d.2.1⟩
 |_=>exact False.elim f
def bDy (K:bF9)(T:String)(r:V->List V->Hp->VK->Prop)(to:TE):TE:=fun σ H Q=>to σ H λx H1=>tyV K T x H1/\r x [] H1 Q
def tBM (K:bF9)(T:String)(r:V->List V->Hp->VK->Prop)(to:TE)(t:TA):TE:=fun σ H Q=>to σ H λx H1=>tyV K T x H1/\t σ H1 λxs H2=>r x xs H2 Q
variable {o e:Expr}{es:List Expr}{to:TE}{t:TA}{name:Str}{apos cpos:Pos}{T id:String}{r:V->List V->Hp->VK->Prop}
def bAp (p:PlainAttrs T)(slot:Slot T name id)(f:typeOf (.builtin id)=pure (.type "method_descriptor"))(n:MtR X id r)(ho:PE X o to)
  (b:attributeBase o name X.env (eval o X.env)=eval o X.env:=by rfl) (c:(apos.endLine == cpos.line)=true:=by rfl):PE X (.Call (.Attribute o name apos) [] [] cpos) (bDy X.K T r to):=by
 intro a s σ H Q I h;refine wpAny_Call_method0_late b c (thn (ho a s σ H _ I h) λv j ⟨x,k,e,d,l,i⟩=>?_);obtain⟨g,m⟩:=aM5 e d l;exact⟨T,id,p,slot,f,g,m,bDM rfl (PySem.evalArgs_none (n a j σ k x [] v [] Q e d .nil i))⟩
def bDx (G:PlainAttrs T)(slot:Slot T name id)(p:typeOf (.builtin id)=pure (.type "method_descriptor"))(E:MtR X id r)(ho:PE X o to)(J:PA X (e::es) t)
  (c:attributeBase o name X.env (eval o X.env)=eval o X.env:=by rfl)
  (i:((backTo cpos (starEach (e::es) X.env)).all (λx=>!x.1) && (backToKw cpos (keywordEach [] X.env)).all (λx=>x.1.isSome)
   && decide ((e::es).length+([]:List Keyword).length+(if ([]:List Keyword).isEmpty then 0 else 1)<30))=true:=by rfl)
  (d:(apos.endLine == cpos.line)=true:=by rfl) (F:starEach (e::es) X.env=(false,eval e X.env)::starEach es X.env:=by rfl) (b:(backTo cpos (starEach es X.env)).any (·.1)=false:=by rfl) :
  PE X (.Call (.Attribute o name apos) (e::es) [] cpos) (tBM X.K T r to t):=by
 intro a s σ H Q I h;refine wpAny_Call_method_late c i d rfl (thn (ho a s σ H _ I h) λv u ⟨x,y,j,g,B,q⟩=>?_);obtain⟨m,D⟩:=aM5 j g B;refine⟨T,id,G,slot,p,m,D,?_⟩;have f:=J cpos a u σ y _ j q;rw[F] at f ⊢;refine bDM (by show (false || (backTo cpos (starEach es X.env)).any (·.1))=false;rw[b] <;> rfl) (bFP ?_);exact thn f λn A ⟨w,k,z,l,C⟩=>E a A σ k x w v n Q z g l C
end
def MtM (X:Cx)(id:String)(r:V->List V->Hp->VK->Prop):Prop:=
 ∀bGD s σ H x xs v us Q,Inv X bGD σ H s->RelV x v->Vals xs us->r x xs H Q ->
  wpAny (model X.prog X.w) X.A (call (.builtin id) (v::us)) (EP X bGD σ Q) X.xe s
theorem Vals.one:∀{x:V} {us:List Value},Vals [x] us->∃u,us=[u]/\RelV x u
 |_,_,.cons r .nil=>⟨_,rfl,r⟩
theorem Vals.two:∀{x y:V} {us:List Value},Vals [x,y] us->∃u v,us=[u,v]/\RelV x u/\RelV y v
 |_,_,_,.cons r t=>let ⟨_,e,q⟩:=Vals.one t;⟨_,_,e ▸ rfl,r,q⟩
theorem Vals.zero:∀{us:List Value},Vals [] us->us=[]
 |_,.nil=>rfl
def Vals.reverse (h:Vals xs us):Vals xs.reverse us.reverse:=by
 induction h with
 |nil=>exact .nil
 |cons r t ih=>rw[List.reverse_cons,List.reverse_cons];exact Vals.append ih (.cons r .nil)
def Inv.lset {its its':List Value}{n:Nat}{f:Array Value->Array Value}{t':Nat}(I:Inv X bGD σ H s)(h:H l=some (.lst xs))
  (e:s.heap.get? l=some { cls:=.type "list",data:=.seq its.toArray n }) (g:f its.toArray=its'.toArray) (c:Vals ys its') (d:ys.length<=sizeLine) :
  Inv X bGD σ (upd H l (.lst ys)) { s with heap:=s.heap.update l (Obj.mapSeq f),toks:=t' }:=by
 have q:=PySem.IsL.update e f;rw[g] at q;refine I.write (x:=l) (e:=l) (by rw[h];exact trivial) (.inl rfl) (λi u a b=>(bBF s.heap (Obj.mapSeq f) (Ne.symm a)).trans b) ⟨_,q⟩ ?_;exact⟨d,its',_,c,q⟩
def Inv.lnew (I:Inv X bGD σ H s)(a:Vals ys its)(b:ys.length<=sizeLine) :
  Inv X bGD σ (upd H s.heap.objs.size (.lst ys)) { s with heap:=s.heap.push { cls:=.type "list",data:=.seq its.toArray },toks:=t' }:=
 I.laid (λ_ _ q=>d7 _ q) (j0 _) ⟨b,its,0,a,j8 _ rfl⟩
def Inv.fresh (I:Inv X bGD σ H s):H s.heap.objs.size=none:=I.hok.fresh (j0 _)
def Inv.aR8 (I:Inv X bGD σ H s)(a:H l=some (.lst xs)):xs.length<=sizeLine/\∃its n,Vals xs its/\xs.length=its.length/\s.heap.get? l=some { cls:=.type "list",data:=.seq its.toArray n }:=by obtain⟨z,its,n,r,e⟩:=I.hok l _ a;exact⟨z,its,n,r,r.length,e⟩
def aOj:V->List V->Hp->VK->Prop:=λx vs H Q=>∃l xs y,x=.ref l/\vs=[y]/\H l=some (.lst xs)/\xs.length<sizeLine/\Q .non (upd H l (.lst (xs++[y])))
def aD6:MtM X "list.append" aOj:=by intro g s σ H x m v k Q I c f h;obtain⟨l,o,y,rfl,rfl,b,j,q⟩:=h;cases c;obtain⟨u,rfl,d⟩:=f.one;obtain⟨z,a,n,r,i,e⟩:=I.aR8 b;refine call_meets F.slot_list_append ⟨_,e,rfl⟩ F.entry_list_append (F.args_list_append_2 _ _) (PySem.list_append l a.toArray n u (by rw[d9];lia)) ⟨e,?_⟩;refine⟨.non,_,I.lset (its':=a++[u]) b e (by simp) (r.append (.cons d .nil)) ?_,rfl,q⟩;rw[bAB,bFF];lia
def aJ4:V->List V->Hp->VK->Prop:=λx vs H Q=>∃l xs,x=.ref l/\vs=[]/\H l=some (.lst xs)/\Q .non (upd H l (.lst xs.reverse))
def aKt:MtM X "list.reverse" aJ4:=by intro g s σ H x k v j Q I d f h;obtain⟨l,m,rfl,rfl,c,q⟩:=h;cases d;have b:=f.zero;subst b;obtain⟨z,a,n,r,i,e⟩:=I.aR8 c;refine call_meets F.slot_list_reverse ⟨_,e,rfl⟩ F.entry_list_reverse (F.args_list_reverse_1 _) (AutoSeq1.list_reverse_list_0 l a.toArray n (by rw[d9];lia)) ⟨e,?_⟩;refine⟨.non,_,I.lset (its':=a.reverse) c e (by simp) r.reverse ?_,rfl,q⟩;rw[List.length_reverse];lia
def bE4:R2:=λx y H Q=>∃l b xs zs,x=.ref l/\y=.ref b/\H l=some (.lst xs)/\H b=some (.lst zs)/\xs.length+zs.length<=sizeLine/\∀p,H p=none->Q (.ref p) (upd H p (.lst (xs++zs)))
def bBz:OpR X (binaryOp .Add) bE4:=by
 intro p s σ H x y v u Q I f j h;obtain⟨l,b,C,t,rfl,rfl,m,o,A,q⟩:=h;cases f;cases j;obtain⟨z,c,n,r,w,e⟩:=I.aR8 m;obtain⟨B,a,D,k,g,i⟩:=I.aR8 o;refine PySem.P.add_list e i ?_ (by rw[d9,d9];lia);have d:c.toArray++a.toArray=(c++a).toArray:=by simp
 rw[d];exact⟨.ref _,_,I.lnew (t':=s.toks) (r.append k) (by rw[bAB];lia),rfl,q _ I.fresh⟩
end L2
namespace Att
open PySem PySem.W PySem.Calls PyProof.Rows
def xW:∀ns vs,WellAll P h vs (ns.map WData.int)->IntsAre vs ns:=by
 intro ns
 induction ns with
 |nil=>intro vs w;rw[List.map_nil] at w;cases w;exact .nil
 |cons n ns ih=>
  intro vs w;rw[bAI] at w;cases w with
  |cons a b=>cases a;exact .cons _ _ (ih _ b)
def aRj {l:OpenLaw}{n:Nat}(s:l.most=some n){P:Params}{h:Heap}{args:List WData}{vals:List Value}
  (b:l.row.toRowW.claim.pre args=true) (k:WellAll P h vals args) :
  ∃a vs ns,vals=[Value.ref a]/\args=[WData.list (ns.map WData.int)]/\h.get? a=some { cls:=.type "list",data:=.seq vs.toArray }/\IntsAre vs ns/\ns.length<=n:=by
 have g:WShape.hasAll [] args [.list .int]=true:=(pre_splitW b).1;have i:l.pre.holds [] { args:=args }=true:=(pre_splitW b).2;obtain⟨d,r,rfl,o,m⟩:=hasAllW_cons g;obtain rfl:=hasAllW_nil m;obtain⟨t,rfl,p⟩:=hasW_list o;obtain⟨ns,rfl⟩:=items_int p;have c:ns.length<=n:=by
  unfold OpenLaw.pre at i;have e:(WTm.not (.lt (.lit (.int (n:Int))) (.len (.arg 0)))).holds [] { args:=[.list (ns.map .int)] }=true:=by have e:=(holds_andW i).1;rw[s] at e;exact e
  have f:=condW_of e (w_not (w_lt w_lit (w_len_list (w_arg rfl))));rw[j7] at f;refine Nat.le_of_not_lt λq=>?_;have j:(n:Int)<((ns.length:Nat):Int):=by lia
  first
   |(rw[v4 j] at f;exact absurd f (by decide))
   |(simp at f;lia)
 cases k with
 |cons w1 w2=>
  cases w2;cases w1 with
  |list ho hall=>exact⟨_,_,ns,rfl,rfl,ho,xW ns _ hall,c⟩
def aPj (l:OpenLaw)(args:List WData):l.row.toRowW.claim.post args (.bool true) args=true:=
 postW_of
  (show WShape.has [] (.bool true) .bool=true by first|rfl|decide|simp[WShape.has,WShape.arms,WShape.armsAll])
  (show (WTm.eq .res (.lit (.bool true))).value [] { args:=args,res:=some (.bool true),after:=args }=some (.bool (true == true)) from w_eq_bool (w_res rfl) w_lit) rfl
def aJ3 {l:OpenLaw}{n:Nat}{q:Program}{loose:List Str}{XP:(bGC)->Heap->Prop}{YP:World->Heap->Prop}{d:DefRec}
  (I:l.most=some n) (B:d.params.defaults=[])
  (m:∀(w:World) (s₀ s₁:Shared) (mg mb:bGC) (fa:Addr) (o:Obj) (pm cd doc:Value) (a:Addr) (vs:List Value) (ns:List Int),
   Ground q loose [] XP w s₀ mg mb s₁.heap->YP w s₁.heap ->
   s₁.heap.get? fa=some o->o.data=.func (docDef d.name d.params d.body d.scope pm cd doc)->s₁.heap.CodeRec cd d.name->mg d.name=some (.ref fa) ->
   s₁.heap.get? a=some { cls:=.type "list",data:=.seq vs.toArray }->IntsAre vs ns->ns.length<=n->s₁.gens=#[] ->
   codeAny (model l.prog w) callerA (.call (.ref fa) ⟨[.ref a],[]⟩) (λr s'=>r=.ok (.ret (.bool true))/\OldK s₁.heap s'.heap/\s'.os=s₁.os/\AllBare s'.gens) s₁) :
  WalkO q loose XP YP l.row.toRowW d [] (λf vs=>PySem.call f vs):=by
 intro w s₀ s₁ mg mb G Y fa o pm cd doc u kV C hd j k i x s t H c p E h z;obtain rfl:u=.none:=Dflts.none k B;obtain rfl:kV=.none:=Dflts.noKw k;obtain⟨a,vs,ns,rfl,rfl,e,b,g⟩:=aRj I c h;refine enter_call (bCI (m w s₀ s₁ mg mb fa o pm cd doc a vs ns G Y C (fd_plain hd) j i e b g x) λr s' y=>?_);obtain⟨rfl,D,F,v⟩:=y;exact⟨.inl ⟨.bool true,.bool true,[],rfl,λ_=>rfl,.bool true,aPj l _,λ_=>⟨List.Pairwise.nil,λ_ A=>(nomatch A)⟩⟩,D,F,v⟩
end Att
namespace L2
open PySem PySem.Spec PyProof.Rows
theorem aD9:∀{vs:List Value} {ns:List Int},IntsAre vs ns->Vals (ns.map V.int) vs
 |_,_,.nil=>.nil
 |_,_,.cons n t h=>.cons ⟨t,rfl⟩ (aD9 h)
abbrev KOf {K:bF9}{h:Heap}(_:K.In h):bF9:=K
def jL (s:Stmt):Arguments:=match s with
 |.FunctionDef _ a _ _ _ _ _ _ _ _=>a
 |_=>{ posonlyargs:=[],args:=[],vararg:=none,kwonlyargs:=[],kw_defaults:=[],kwarg:=none,defaults:=[] }
def cT (s:Stmt):List Stmt:=match s with
 |.FunctionDef _ _ b _ _ _ _ _ _ _=>b
 |_=>[]
def aC (s:Stmt):Scope:=match s with
 |.FunctionDef _ _ _ _ _ _ sc _ _ _=>sc
 |_=>{ kind:=.function,names:=[],isGenerator:=false,isCoroutine:=false }
abbrev CX0:CXT:=λ_ _ _ _ _ _=>False
abbrev E0:XK:=λ_ _ _=>False
def zA:jV CX0 X E0:=λ_ _ _ _ _ _ _ h=>h.elim
structure Fun (K:bF9)(x qual:Str)(st:Stmt)(f:Addr)(fd:FuncData):Prop where
 ex:∃(oc:Value) (od:Option Addr) (kV doc pm:Value) (an:Option Addr) (cdv ct:Value) (osl:Array (Option Value)),
  fd=PySem.W.fnOf x qual (jL st) (cT st) (aC st) .none kV doc pm an cdv ct/\K.lookup f=some ⟨oc,od,.func fd,osl⟩/\PySem.W.codeIn K cdv qual=true
 kp:PySem.W.keepIn K (.ref f)=true
section
variable {P:Program}{w:World}{K:bF9}{mg:bGC}{base:Heap}
def Fun.ok {x qual:Str}{st:Stmt}{f:Addr}{fd:FuncData}{N ps:List Str}{k:Nat}{sp:Sp}(F:Fun K x qual st f fd)(S:aJ N ps (aC st))(e:∀vs H Q E,sp vs H Q E->vs.length=ps.length)
  (c:∀(cdv:Value) (A:Around) (outer:List Env) (s:Shared) (H:Hp) (vs:List V) (Q:VK) (E:XK),Room k (A.deeper (envOfC qual (aC st) s.heap.objs.size f cdv))->sp vs H Q E ->
   ∃t,PSs (qN CX0 P w K mg base N qual (aC st) f cdv A outer s H E).nox (cT st) t/\t { nx:=λ_ H'=>Q .non H',rt:=Q } (start N vs) H):eX P w K mg base CX0 (k+1) f fd ps sp:=by
 obtain⟨m,n,kV,i,o,l,cdv,p,d,rfl,g,b⟩:=F.ex;refine aO0 g b S e λA outer s H vs Q E j a=>?_;obtain⟨t,h,q⟩:=c cdv A outer s H vs Q E j a;exact⟨t,h.nox,q⟩
def Fun.binds {x qual:Str}{st:Stmt}{f:Addr}{fd:FuncData}{ps:List Str}(F:Fun K x qual st f fd)
  (h:∀(kV doc pm:Value) (an:Option Addr) (cdv ct:Value) (us:List Value),us.length=ps.length->bindArgs (PySem.W.fnOf x qual (jL st) (cT st) (aC st) .none kV doc pm an cdv ct) ⟨us,[]⟩=pure (ps.zip us)):Binds K fd ps []:=by
 obtain⟨c,e,kV,doc,pm,an,cdv,ct,b,rfl,d,a⟩:=F.ex;exact .all (h kV doc pm an cdv ct)
def wN {x qual:Str}{st:Stmt}{f:Addr}{g:Value}{h e:Option Addr}{b:Array (Option Value)}{kV d i a ct:Value}(l:K.lookup f=some ⟨g,h,.func (PySem.W.fnOf x qual (jL st) (cT st) (aC st) .none kV d i e a ct),b⟩)
  (c:PySem.W.codeIn K a qual=true) (k:PySem.W.keepIn K (.ref f)=true):Fun K x qual st f (PySem.W.fnOf x qual (jL st) (cT st) (aC st) .none kV d i e a ct):=⟨⟨g,h,kV,d,i,e,a,ct,b,rfl,l,c⟩,k⟩
end
def jD (a:Room k A):A.units+1<cLine:=bCD (Nat.add_le_add_left (by decide:1<=64) _) a.units
def wA (h:n<=1000):n<sizeLine:=bCD h (by decide)
def pv (i:Nat)(c:X.N[i]?=some x:=by rfl)(b:Vis X.env.scope x:=by trivial)(hd:(x == ("__debug__":Str))=false:=by decide)
  (a:(x == ("__classdict__":Str))=false:=by decide):PE X (.Name x pos) (mL i):=bCc c b hd a
def bZ {A B:Prop}(h:B):if false=true then A else B:=by rw[if_neg v6];exact h
def cP {A B:Prop}(h:A):if true=true then A else B:=by rw[if_pos rfl];exact h
def aLp {c A B:Prop}[Decidable c](b:c->A)(a:¬ c->B):if c then A else B:=by
 by_cases h:c
 ·rw[if_pos h];exact b h
 ·rw[if_neg h];exact a h
def Same (H H':Hp):Prop:=∀b o,H b=some o->H' b=some o
def Same.refl (H:Hp):Same H H:=λ_ _ h=>h
def Same.trans (a:Same H H1)(b:Same H1 H2):Same H H2:=λc o h=>b c o (a c o h)
def Same.free (e:Same H H')(h:H' l=Option.none):H l=Option.none:=by
 cases q:H l with
 |none=>rfl
 |some o=>rw[e l o q] at h;cases h
def Same.seq {K:bF9}{H H':Hp}{a:Addr}{xs:List V}(e:Same H H')(h:SqL K H a xs):SqL K H' a xs:=by
 rcases h with (h|⟨o,h⟩)|h
 ·exact .inl (.inl (e _ _ h))
 ·exact .inl (.inr ⟨o,e _ _ h⟩)
 ·exact .inr h
end L2
namespace PySem
namespace RvF
end RvF
end PySem
namespace L2
open PySem PySem.Spec PyProof.Rows
def aLi:bootBuiltins "int"=some (.type "int"):=by trivial
def aV3:bootBuiltins "bool"=some (.type "bool"):=by trivial
def aR0:bootBuiltins "str"=some (.type "str"):=by trivial
def qG:bootBuiltins "list"=some (.type "list"):=by trivial
def fU:bootBuiltins "tuple"=some (.type "tuple"):=by trivial
def aOf:bootBuiltins "dict"=some (.type "dict"):=by trivial
def aU0:bootBuiltins "set"=some (.type "set"):=by trivial
def bBt:bootBuiltins "zip"=some (.type "zip"):=by trivial
def aGl:bootBuiltins "enumerate"=some (.type "enumerate"):=by trivial
def aV:bootBuiltins "isinstance"=some (.builtin "isinstance"):=by trivial
def cN:bootBuiltins "len"=some (.builtin "len"):=by trivial
def tK:bootBuiltins "all"=some (.builtin "all"):=by trivial
def bBq:bootBuiltins "any"=some (.builtin "any"):=by trivial
def bAl:bootBuiltins "max"=some (.builtin "max"):=by trivial
def vU:bootBuiltins "sorted"=some (.builtin "sorted"):=by trivial
def sgn (x:Str)(i:Nat):Str:=⟨#[x.cps.getD i 0]⟩
def aSu (h:x.cps[i]?=some c):(⟨#[c]⟩:Str)=sgn x i:=by unfold sgn;rw[v8,h];rfl
def Its (x:Str):It:=⟨λi _=>i<x.cps.size,λi H v H'=>H'=H/\v=.str (sgn x i),λi _=>x.cps.size<=i⟩
def aPu {P:Program}{w:World}{K:bF9}{tg:Expr}(it:Addr)(x:Str)(t:Tok):Turn P w K tg (Its x) [it] it (λi h=>h.IsStrIter it "str_ascii_iterator" x t i) where
 mem:=by simp
 obj:=λi h a b f=>by
  have e:b=it:=by simpa using f
  subst e;obtain⟨o,e,c,d⟩:=a;exact⟨o,e,λv z=>by rw[d] at z;cases z⟩
 keep:=λi h l a k=>let ⟨o,ho,r⟩:=a;⟨o,k it (by simp) o ho,r⟩
 item:=by intro X y A G F i j s σ H E I m a p;subst y A G;obtain⟨n,J,R,D,C,q⟩:=m it (by simp);refine (Walks.strAscii (prog:=X.prog) (w:=X.w) (I.ok.hd F) it x t).item i s _ _ p a λv l L N g Q=>?_;obtain⟨c,u,B,rfl⟩:=N;have O:Inv X j σ H { s with heap:=l,toks:=L }:=I.turned (λb o f e=>Q b o (by simpa using f) e) n J D C q;obtain⟨o,e,M,d⟩:=id g;exact⟨_,rfl,aH2 (s:={ s with heap:=l,toks:=L }) e M d (by decide) ⟨.str ⟨#[c]⟩,H,O,⟨u,rfl⟩,⟨rfl,by rw[aSu B]⟩,g,λb f=>(m b f).1⟩⟩
 done:=by intro X y A G F i j s σ H E I m a p;subst y A G;obtain⟨n,J,R,D,C,q⟩:=m it (by simp);exact wpAny_pyNext_ascii_end (I.ok.hd F) a (Array.getElem?_eq_none_iff.mpr p) λl S=>⟨rfl,I.turned (t':=s.toks) (λb o f e=>S b o f e) n J D C q⟩
 self:=λ_ _ _ _ _ a h=>wpAny_pyIter_striter_ascii a h
def aP5 {P:Program}{w:World}{K:bF9}{tg:Expr}(it:Addr)(x:Str)(t:Tok):Turn P w K tg (Its x) [it] it (λi h=>h.IsStrIter it "str_iterator" x t i) where
 mem:=by simp
 obj:=λi h a b f=>by
  have e:b=it:=by simpa using f
  subst e;obtain⟨o,e,c,d⟩:=a;exact⟨o,e,λv z=>by rw[d] at z;cases z⟩
 keep:=λi h l a k=>let ⟨o,ho,r⟩:=a;⟨o,k it (by simp) o ho,r⟩
 item:=by intro X y A G F i j s σ H E I m a p;subst y A G;obtain⟨n,J,R,D,C,q⟩:=m it (by simp);refine (Walks.strWide (prog:=X.prog) (w:=X.w) (I.ok.hd F) it x t).item i s _ _ p a λv l L N g Q=>?_;obtain⟨c,u,B,rfl⟩:=N;have O:Inv X j σ H { s with heap:=l,toks:=L }:=I.turned (λb o f e=>Q b o (by simpa using f) e) n J D C q;obtain⟨o,e,M,d⟩:=id g;exact⟨_,rfl,aH2 (s:={ s with heap:=l,toks:=L }) e M d (by decide) ⟨.str ⟨#[c]⟩,H,O,⟨u,rfl⟩,⟨rfl,by rw[aSu B]⟩,g,λb f=>(m b f).1⟩⟩
 done:=by intro X y A G F i j s σ H E I m a p;subst y A G;obtain⟨n,J,R,D,C,q⟩:=m it (by simp);exact wpAny_pyNext_wide_end (I.ok.hd F) a (Array.getElem?_eq_none_iff.mpr p) λl S=>⟨rfl,I.turned (t':=s.toks) (λb o f e=>S b o f e) n J D C q⟩
 self:=λ_ _ _ _ _ a h=>wpAny_pyIter_striter_wide a h
def bCg (tl:TE):TI:=fun σ H R=>tl σ H λx H1=>∃z,x=.str z/\R (Its z) H1
def bB4 (n:PE X l tl):PI X tg l (bCg tl):=by
 intro c s σ H R I h;refine thn (n c s σ H _ I h) λv a ⟨x,f,d,j,k⟩=>?_;obtain⟨z,e,q⟩:=k;subst e;obtain⟨t,rfl⟩:=j;have i:∀b∈[a.heap.objs.size],qU X c f b:=λb m=>by
  have e:b=a.heap.objs.size:=by simpa using m
  subst e;exact d.aIr (j0 _) (d.hok.fresh (j0 _))
 cases g:z.cps.all (·<128)
 ·exact wpAny_pyIter_wide g ⟨a.heap.objs.size,[a.heap.objs.size],_,_,f,rfl,d.kept (t':=a.toks) λb o e=>d7 _ e,aP5 _ z t,⟨_,j8 _ rfl,rfl,rfl⟩,i,q⟩
 ·exact wpAny_pyIter_ascii g ⟨a.heap.objs.size,[a.heap.objs.size],_,_,f,rfl,d.kept (t':=a.toks) λb o e=>d7 _ e,aPu _ z t,⟨_,j8 _ rfl,rfl,rfl⟩,i,q⟩
def aLo (x:V)(T:String):Option Bool:=match x with
 |.int _=>if T = "int" then some true else if T = "bool" then some false else if T = "str" then some false else none
 |.str _=>if T = "int" then some false else if T = "bool" then some false else if T = "str" then some true else none
 |.bl _=>if T = "int" then some true else if T = "bool" then some true else if T = "str" then some false else none
 |_=>none
def bD9:List V->Hp->VK->Prop:=λxs H Q=>∃x T b,xs=[x,.ty T]/\aLo x T=some b/\Q (.bl b) H
def tW:cA X (.builtin "isinstance") bD9:=by
 intro d s σ H m l Q I r h;obtain⟨x,T,b,rfl,e,q⟩:=h;obtain⟨u,v,rfl,g,j⟩:=r.two;cases j;have f:∀{k:Bool},some k=some b->EP X d σ Q (.bool k) s:=λe=>by cases e;exact⟨.bl _,H,I,rfl,q⟩
 have c:∀{k:Bool},some k=some b->EP X d σ Q (.bool k) { s with toks:=s.toks+1 }:=λe=>by cases e;exact⟨.bl _,H,I.tok _,rfl,q⟩
 cases x with
 |int i=>
  obtain⟨t,rfl⟩:=g;unfold aLo at e;dsimp only at e
  split at e
  ·rename_i a;subst a;exact IsiPair.int_int (f e)
  split at e
  ·rename_i a;subst a;exact IsiPair.int_bool (c e)
  split at e
  ·rename_i a;subst a;exact IsiPair.int_str (c e)
  ·cases e
 |str z=>
  obtain⟨t,rfl⟩:=g;unfold aLo at e;dsimp only at e
  split at e
  ·rename_i a;subst a;exact IsiPair.str_int (c e)
  split at e
  ·rename_i a;subst a;exact IsiPair.str_bool (c e)
  split at e
  ·rename_i a;subst a;exact IsiPair.str_str (f e)
  ·cases e
 |bl z=>
  cases g;unfold aLo at e;dsimp only at e
  split at e
  ·rename_i a;subst a;exact IsiPair.bool_int (f e)
  split at e
  ·rename_i a;subst a;exact IsiPair.bool_bool (f e)
  split at e
  ·rename_i a;subst a;exact IsiPair.bool_str (c e)
  ·cases e
 |_=>cases (show (none:Option Bool)=some b from e)
def small (h:n<=1000):n<=sizeLine:=bDJ (wA h)
def zU:Vals [] []:=.nil
def lC (r:RelV x u)(t:Vals xs us):Vals (x::xs) (u::us):=.cons r t
def cB:Expr->Bool
 |.Starred ..=>false
 |_=>true
def aN (h:cB e=true):starEach (e::es) env=(false,eval e env)::starEach es env:=by cases e <;> first|rfl|cases h
def bBx (b:PE X e te)(a:PA X es t)(c:cB e=true:=by rfl) :
  PA X (e::es) (dN te t):=aVt b a (aN c)
def bC4 (b:Gl X x)(a:∃u,X.mg x=some u/\RelV v u)(hd:(x == ("__debug__":Str))=false:=by decide):PE X (.Name x pos) (tC v):=by obtain⟨u,a,r⟩:=a;exact aXr b a r hd
section
variable {P:Program}{w:World}{K:bF9}{mg:bGC}{base:Heap}
def Dn (K:bF9)(mg:bGC)(x:Str)(st:Stmt)(ps:List Str):Prop:=∃f fd,Fun K x x st f fd/\Binds K fd ps []/\mg x=some (.ref f)
def Ok (P:Program)(w:World)(K:bF9)(mg:bGC)(base:Heap)(k:Nat)(x:Str)(ps:List Str)(sp:Sp):Prop:=
 ∃f fd,mg x=some (.ref f)/\PySem.W.keepIn K (.ref f)=true/\Binds K fd ps []/\eX P w K mg base CX0 k f fd ps sp
def Ok.mono (h:Ok P w K mg base j x ps sp)(g:j<=k):Ok P w K mg base k x ps sp:=by obtain⟨f,d,c,b,e,a⟩:=h;exact⟨f,d,c,b,e,a.mono g⟩
def Ok.of {x:Str}{st:Stmt}{N ps:List Str}{k:Nat}{sp:Sp}(D:Dn K mg x st ps)(S:aJ N ps (aC st))(c:∀vs H Q E,sp vs H Q E->vs.length=ps.length)
  (a:∀(f:Addr) (cdv:Value) (A:Around) (outer:List Env) (s:Shared) (H:Hp) (vs:List V) (Q:VK) (E:XK),Room k (A.deeper (envOfC x (aC st) s.heap.objs.size f cdv))->sp vs H Q E ->
   ∃t,PSs (qN CX0 P w K mg base N x (aC st) f cdv A outer s H E).nox (cT st) t/\t { nx:=λ_ H'=>Q .non H',rt:=Q } (start N vs) H):Ok P w K mg base (k+1) x ps sp:=by
 obtain⟨f,b,F,B,m⟩:=D;exact⟨f,b,m,F.kp,B,F.ok S c λcdv A outer s H vs Q E d h=>a f cdv A outer s H vs Q E d h⟩
end
def bDq (G:Ok X.prog X.w X.K X.mg X.base k x ps sp)(l:Room k X.A)(n:Gl X x)(i:PA X (e::es) t)(a:(x == ("__debug__":Str))=false:=by decide)
  (m:starEach (e::es) X.env=(false,eval e X.env)::starEach es X.env:=by rfl) (c:(backTo pos (starEach es X.env)).any (·.1)=false:=by rfl) :
  PE X (.Call (.Name x p) (e::es) [] pos) (uQ sp [] E0 t):=by
 obtain⟨f,j,g,d,h,b⟩:=G;exact aNv b l n g d h .nil zA i a m c
def bBj (G:Ok X.prog X.w X.K X.mg X.base k x ps sp)(h:Room k X.A)(i:Gl X x)(a:(x == ("__debug__":Str))=false:=by decide) :
  PE X (.Call (.Name x p) [] [] pos) (uQ sp [] E0 qO):=by
 obtain⟨f,g,d,c,e,b⟩:=G;exact aSf b h i d c e .nil zA a
theorem rR (f:Str × NameKind->List (Str × Addr)->Sem (ForInStep (List (Str × Addr))))
  (l:∀n r,f (n,.free) r=(cellOf env n >>= λa=>pure (.yield ((n,a)::r)))) (j:∀n k r,k≠.free->f (n,k) r=pure (.yield r)) :
  ∀(names:List (Str × NameKind)) (acc:List (Str × Addr)),(∀y∈names,y.2=.free->∃c,env.cells.lookup y.1=some c) ->
  ∃cl,forIn names acc f=(pure (cl++acc):Sem _)/\(∀p∈cl,env.cells.lookup p.1=some p.2/\(p.1,NameKind.free)∈names)/\∀y,(y,NameKind.free)∈names->∃c,(y,c)∈cl
 |[],acc,_=>⟨[],by simp,λ_ h=>(nomatch h),λ_ h=>(nomatch h)⟩
 |(n,k)::r,acc,h=>by
  by_cases g:k=.free
  ·subst g;obtain⟨c,i⟩:=h (n,.free) j4 rfl;obtain⟨cl,e,b,d⟩:=rR f l j r ((n,c)::acc) λy hy=>h y (j5 _ hy);refine⟨cl++[(n,c)],?_,λp hp=>?_,λy hy=>?_⟩
   ·rw[bDR,l];have o:cellOf env n=pure c:=by unfold cellOf;rw[i]
    rw[o,pure_bind,pure_bind];show forIn r ((n,c)::acc) f=_;rw[e,bDC];rfl
   ·rcases List.mem_append.mp hp with hp|hp
    ·exact⟨(b p hp).1,j5 _ (b p hp).2⟩
    ·obtain rfl:=List.mem_singleton.mp hp;exact⟨i,j4⟩
   ·rcases List.mem_cons.mp hy with e|hy
    ·cases e;exact⟨c,by simp⟩
    ·obtain⟨m,q⟩:=d y hy;exact⟨m,bBT _ q⟩
  ·obtain⟨cl,e,b,d⟩:=rR f l j r acc λy hy=>h y (j5 _ hy);refine⟨cl,?_,λp hp=>⟨(b p hp).1,j5 _ (b p hp).2⟩,λy hy=>?_⟩
   ·rw[bDR,j n k acc g,pure_bind];exact e
   ·rcases List.mem_cons.mp hy with e|hy
    ·cases e;exact absurd rfl g
    ·exact d y hy
def aLr (h:∀y∈scope.names,y.2=.free->∃c,env.cells.lookup y.1=some c) :
  ∃cl,closureFor scope env=pure cl/\(∀p∈cl,env.cells.lookup p.1=some p.2/\(p.1,NameKind.free)∈scope.names)/\∀y,(y,NameKind.free)∈scope.names->∃c,(y,c)∈cl:=by
 unfold closureFor;obtain⟨cl,e,b,f⟩:=rR (env:=env) (λx r=>match x with|(name,kind)=>if (kind == NameKind.free)=true then do let a <-cellOf env name;pure (.yield ((name,a)::r)) else pure (.yield r))
  (λn r=>rfl) (λn k r d=>by
   have:(k == NameKind.free)=false:=by simpa using d
   simp only[this,bBC,if_false]) scope.names [] h
 refine⟨cl,?_,b,f⟩;rw[bBU] at e;refine Eq.trans ?_ e;first
 |rfl
 |simp
theorem lookup_mem {α β:Type}[BEq α][LawfulBEq α]{a:α}{b:β}:∀{l:List (α × β)},(a,b)∈l->∃b',l.lookup a=some b'
 |(x,y)::r,h=>by
  rw[bCZ];by_cases e:(a == x)=true
  ·exact⟨y,by rw[e]⟩
  ·have c:(a == x)=false:=by simpa using e
   rw[c];rcases List.mem_cons.mp h with z|z
   ·cases z;simp at e
   ·exact lookup_mem z
theorem uI {env:Env}{y:Str}{k:NameKind}:∀{names:List (Str × NameKind)},names.lookup y=some .free ->
  (names.map λx=>match x with|(n,k)=>if (k == NameKind.free && env.scope.kind == ScopeKind.function && env.kindOf n == some NameKind.cell) then (n,NameKind.cell) else (n,k)).lookup y=some .cell \/
  (names.map λx=>match x with|(n,k)=>if (k == NameKind.free && env.scope.kind == ScopeKind.function && env.kindOf n == some NameKind.cell) then (n,NameKind.cell) else (n,k)).lookup y=some .free
 |[],h=>by simp at h
 |(n,k')::r,h=>by
  rw[bAI];rw[bCZ] at h;by_cases e:(y == n)=true
  ·rw[e] at h;cases h;by_cases q:((NameKind.free == NameKind.free) && env.scope.kind == ScopeKind.function && env.kindOf n == some NameKind.cell)=true
   ·left;simp only[q,if_true,bCZ,e]
   ·right;have f:=Bool.eq_false_iff.mpr q;simp only[f,bBC,if_false,bCZ,e]
  ·have b:(y == n)=false:=by simpa using e
   rw[b] at h;have c:=uI (env:=env) (k:=k) h;have a:∀z:Str × NameKind,z.1=n->(List.lookup y (z::(r.map λx=>match x with|(n,k)=>if (k == NameKind.free && env.scope.kind == ScopeKind.function && env.kindOf n == some NameKind.cell) then (n,NameKind.cell) else (n,k)))) =
     List.lookup y (r.map λx=>match x with|(n,k)=>if (k == NameKind.free && env.scope.kind == ScopeKind.function && env.kindOf n == some NameKind.cell) then (n,NameKind.cell) else (n,k)):=λz d=>by
    obtain⟨i,j⟩:=z;cases d;rw[bCZ,b]
   have g:(match ((n,k'):Str × NameKind) with|(n,k)=>if (k == NameKind.free && env.scope.kind == ScopeKind.function && env.kindOf n == some NameKind.cell) then (n,NameKind.cell) else (n,k)).1=n:=by
    dsimp only
    split <;> rfl
   rw[a _ g];exact c
theorem vA {env:Env}{y:Str}:∀{names:List (Str × NameKind)},(∀z∈names,z.2≠.cell) ->
  ((names.map λx=>match x with|(n,k)=>if (k == NameKind.free && env.scope.kind == ScopeKind.function && env.kindOf n == some NameKind.cell) then (n,NameKind.cell) else (n,k)).lookup y=some .cell \/
  (names.map λx=>match x with|(n,k)=>if (k == NameKind.free && env.scope.kind == ScopeKind.function && env.kindOf n == some NameKind.cell) then (n,NameKind.cell) else (n,k)).lookup y=some .free)->(y,NameKind.free)∈names
 |[],_,h=>by simp at h
 |(n,k')::r,hc,h=>by
  rw[bAI] at h;by_cases e:(y == n)=true
  ·have d:y=n:=by simpa using e
   subst d;have g:k'=.free:=by
    by_cases q:((k' == NameKind.free) && env.scope.kind == ScopeKind.function && env.kindOf y == some NameKind.cell)=true
    ·rw[bAT,bAT] at q;simpa using q.1.1
    ·have f:=Bool.eq_false_iff.mpr q;simp only[f,bBC,if_false,bCZ,e] at h;rcases h with h|h
     ·cases h;exact absurd rfl (hc (y,.cell) j4)
     ·cases h;rfl
   subst g;exact j4
  ·have c:(y == n)=false:=by simpa using e
   have b:∀z:Str × NameKind,z.1=n->(List.lookup y (z::(r.map λx=>match x with|(n,k)=>if (k == NameKind.free && env.scope.kind == ScopeKind.function && env.kindOf n == some NameKind.cell) then (n,NameKind.cell) else (n,k)))) =
     List.lookup y (r.map λx=>match x with|(n,k)=>if (k == NameKind.free && env.scope.kind == ScopeKind.function && env.kindOf n == some NameKind.cell) then (n,NameKind.cell) else (n,k)):=λz a=>by
    obtain⟨j,l⟩:=z;cases a;rw[bCZ,c]
   have i:(match ((n,k'):Str × NameKind) with|(n,k)=>if (k == NameKind.free && env.scope.kind == ScopeKind.function && env.kindOf n == some NameKind.cell) then (n,NameKind.cell) else (n,k)).1=n:=by
    dsimp only
    split <;> rfl
   rw[b _ i] at h;exact j5 _ (vA (λz a=>hc z (j5 _ a)) h)
def aPr (I:Nat->Shared->Prop)
  (f:∀n s,I n s->wpAny (model prog w) A (pyNext it) (λr s₁=>match r with
   |none=>R (.ok .next) s₁
   |some v=>wpAny (model prog w) A (letOwnedTupleGo target it v) (λ_ s'=>wpAny (model prog w) A (assign target env v) (λ_ s₂=>
     wpAny (model prog w) A (forIn ifs true λc r=>if r=true then do let ok <-isTrue c env (eval c env);pure (ForInStep.yield ok) else pure (ForInStep.yield r)) (λok s₃=>
      if ok=true then wpAny (model prog w) A (eval elt env) (λx s₄=>
       wpAny (model prog w) A (call (.builtin "list.append") [acc,x]) (λ_ s₅=>∃m,m<n/\I m s₅) (notedBy (model prog w) A env λe s'=>R (.error e) s') s₄) (notedBy (model prog w) A env λe s'=>R (.error e) s') s₃
      else ∃m,m<n/\I m s₃) (notedBy (model prog w) A env λe s'=>R (.error e) s') s₂) (notedBy (model prog w) A env λe s'=>R (.error e) s') s') (notedBy (model prog w) A env λe s'=>R (.error e) s') s₁)
   (notedBy (model prog w) A env λe s'=>R (.error e) s') s)
  (n:Nat) (h:I n s):codeAny (model prog w) A (.compLoop (.ListComp elt [⟨target,iter,ifs,0⟩] scope pos) 0 it acc env) R s:=by
 refine codeAny_loop rfl I (λn s i=>?_) n h;show wpAny _ A ((compTurn (.ListComp elt [⟨target,iter,ifs,0⟩] scope pos) 0 it acc env).onRaise (λx=>do noteFrame x env;theTreesLotGoes x)) _ _ s;refine wpAny_noted ?_;rw[compTurn_list];refine b7 (bFJ (b7 (bBH (f n s i) (λr s₁ g=>?_) λ_ _ a=>a)));cases r with
 |none=>exact d8 g
 |some v=>
  refine b7 (bBH g (λ_ s' b=>b7 (bBH b (λ_ s₂ j=>b7 (bBH j (λok s₃ d=>?_) λ_ _ a=>a)) λ_ _ a=>a)) λ_ _ a=>a);cases ok with
  |false=>exact d8 ⟨rfl,d⟩
  |true=>exact b7 (b7 (bBH d (λx s₄ k=>b7 (bBH k (λ_ s₅ l=>d8 (d8 ⟨rfl,l⟩)) λ_ _ a=>a)) λ_ _ a=>a))
def cxC (X:Cx)(N:List Str)(scope:Scope)(cl:List (Str × Addr))(s:Shared)(H:Hp)(fp:List Addr):Cx:=
 { X with N:=N,s₀:=s,H₀:=H,env:=compEnvC scope cl s.heap.objs.size X.env,outer:=X.stack,stack:=X.stack,ex:=fp,fn:=λ_=>false,pn:=[],xe:=λ_ _=>False }
def aQz (X:Cx)(ifs:List Expr)(tt:TT):Prop:=
 ∀bGD s σ H Q,Inv X bGD σ H s->tt σ H Q ->
  wpAny (model X.prog X.w) X.A (forIn ifs true λc r=>if r=true then do let ok <-isTrue c X.env (eval c X.env);pure (ForInStep.yield ok) else pure (ForInStep.yield r)) (TP X bGD σ Q) X.xe s
def kO:TT:=λ_ H Q=>Q true H
def bB0:aQz X [] kO:=λ_ _ _ H _ I h=>wpAny_tests_nil ⟨H,I,h⟩
def aZq (h:PT X c tc):aQz X [c] tc:=λa s σ H Q I q=>wpAny_tests_one (h a s σ H Q I q)
structure tH (scope:Scope)(N:List Str):Prop where
 cell:∀y∈scope.names,y.2≠.cell
 kind:scope.kind=.function
 names:∀y∈scope.names,y.2=.local->scope.names.lookup y.1=some .local
 free:∀y∈scope.names,y.2=.free->scope.names.lookup y.1=some .free
def Cap (X:Cx)(scope:Scope)(N:List Str)(σ σ':St):Prop:=
 σ'.length=N.length/\∀(i:Nat) (y:Str) (v:V),N[i]?=some y->σ'[i]?=some (some v)->(y,NameKind.free)∈scope.names/\∃j:Nat,X.N[j]?=some y/\σ[j]?=some (some v)/\Vis X.env.scope y
def aSd {X:Cx}{bGD:bGB}{σ σ':St}{H:Hp}{s:Shared}{scope:Scope}{N:List Str}{cl:List (Str × Addr)}{fp:List Addr}{Y:Heap}{tk:Nat}{m1:bGC}
  (I:Inv X bGD σ H s) (C:tH scope N) (a0:∀y,(y,NameKind.free)∈scope.names->X.env.kindOf y=some .cell\/X.env.kindOf y=some .free)
  (p1:∀p∈cl,X.env.cells.lookup p.1=some p.2/\(p.1,NameKind.free)∈scope.names) (p2:∀y,(y,NameKind.free)∈scope.names->∃c,(y,c)∈cl)
  (A:Cap X scope N σ σ') (L:∀b∈fp,qU X bGD H b) (Z:∀b∈fp,b<s.heap.objs.size)
  (hn:Y.Ns s.heap.objs.size m1) (E:∀b o,s.heap.get? b=some o->Y.get? b=some o) :
  Inv (cxC X N scope cl s H fp) [] σ' H { s with heap:=Y,toks:=tk }:=by
 have a:=I.ok;have f:∀y c,cl.lookup y=some c->X.env.cells.lookup y=some c:=λy c e=>(p1 _ (PySem.mem_of_lookup e)).1;have w:∀y,(y,NameKind.free)∈scope.names->∃c,cl.lookup y=some c/\X.env.cells.lookup y=some c:=λy d=>by obtain⟨c,hc⟩:=p2 y d;obtain⟨B,e⟩:=lookup_mem hc;exact⟨B,e,f y B e⟩
 have n:∀b∈fp,b∉frs X.stack:=λb g z=>by
  obtain⟨K,G,J,_⟩:=L b g;rcases List.mem_cons.mp (I.aEy b z) with e|e
  ·exact G e
  ·exact J e
 have F:(cxC X N scope cl s H fp).Ok:=by
  refine⟨a.mod,C.kind,a.glob,a.blt,j0 _,λx y c Y h2=>a.inj x y c (f x c Y) (f y c h2),λy d=>?_,λy c h _=>?_,a.hd,a.frames,.inl rfl,λb g=>?_,I.bs,bAE a.bsz I.sz,
   λb o e g=>?_,n,I.stack,I.qK⟩
  ·obtain⟨c,e,_⟩:=w y (vA C.cell d);exact⟨c,e⟩
  ·exact absurd (show false=true from h) v6
  ·obtain⟨K,G,J,O,M,V⟩:=L b g;exact⟨v7 (Z b g),λx c e=>M x c (f x c e)⟩
  ·obtain⟨K,G,J,O,M,V⟩:=L b g;rcases O with z|z
   ·exact a.noex b o e z
   ·exact absurd (bAA (m9 e) (bAE a.bsz z)) (bBQ _)
 refine⟨F,rfl,I.bare,Un.kept E,⟨m1,hn,λi y v e1 W e3=>?_⟩,λy c e=>?_,I.hok.fresh (j0 _),λy c e=>I.freeC y c (f y c e),λp Q=>absurd (show p∈([]:bGB) from Q) (by simp),I.hok.kept E,A.1⟩
 ·obtain⟨d,j,S,U,T⟩:=A.2 i y v e1 W;obtain⟨m,_,P⟩:=I.loc;obtain⟨u,r,l⟩:=P j y v S U T;refine⟨u,r,.inr ?_⟩;rcases l with⟨k,_⟩|⟨k,c,e,z⟩
  ·rcases a0 y d with q|q <;> (rw[k] at q;cases q)
  ·obtain⟨B,R,t⟩:=w y d;rw[e] at t;cases t;have rl:=uI (env:=X.env) (k:=.free) (C.free (y,.free) d rfl);refine⟨rl,c,R,?_⟩;obtain⟨o,D,hd⟩:=z;exact⟨o,E _ _ D,hd⟩
 ·obtain⟨v,o,D,hd⟩:=I.cell y c (f y c e);exact⟨v,o,E _ _ D,hd⟩
def jE (X:Cx)(scope:Scope)(N:List Str)(wi:TI)(g:TG)(tt:TT)(te:TE):TE:=fun σ H Q=>∃σ0,Cap X scope N σ σ0/\wi σ H λJ H1=>∀D,H1 D=none->∃W:Nat->Nat->St->Hp->List V->Prop,(∃m,W 0 m σ0 (upd H1 D (.lst [])) []) /\
 ∀i m σ' H' ys,W i m σ' H' ys->H' D=some (.lst ys)/\((J.stop i H'/\Q (.ref D) H')\/(J.go i H'/\∀x H2,J.yld i H' x H2->g x σ' H2 fun σ3 H3=>tt σ3 H3 λb H4=>
  if b=true then te σ3 H4 λy H5=>H5 D=some (.lst ys)/\ys.length<sizeLine/\∃m',m'<m/\W (i+1) m' σ3 (upd H5 D (.lst (ys++[y]))) (ys++[y]) else H4 D=some (.lst ys)/\∃m',m'<m/\W (i+1) m' σ3 H4 ys))
def aDl {X:Cx}{au a9 ap:Expr}{av:List Expr}{scope:Scope}{pos p9:Pos}{N:List Str}{wi:TI}{g:TG}{tt:TT}{te:TE}{use:Option (Value->Sem Unit)}{QQ:bGA}{a4:bGB}{s:Shared}{σ:St}{H:Hp}{Qv:VK}
  (C:tH scope N) (aj:∀y,(y,NameKind.free)∈scope.names->X.env.kindOf y=some .cell\/X.env.kindOf y=some .free) (hc:X.calm=true)
  (hi:PI X a9 ap wi)
  (a:∀cl s H fp,PG (cxC X N scope cl s H fp) a9 g/\aQz (cxC X N scope cl s H fp) av tt/\PE (cxC X N scope cl s H fp) au te)
  (hs:∀x,foldedSetIterable ap X.env x=pure x) (I:Inv X a4 σ H s) (hq:jE X scope N wi g tt te σ H Qv)
  (a5:∀(D fr:Addr) (H5:Hp) (s6:Shared),(∃m6,s6.heap.Ns fr m6)->(∀h',(∀b o,b≠fr->s6.heap.get? b=some o->h'.get? b=some o)->Inv X a4 σ H5 { s6 with heap:=h' })->qU X a4 H5 fr->Qv (.ref D) H5->compPost (model X.prog X.w) X.A X.xe use QQ (.ref D) fr (.ok .next) s6) :
  wpAny (model X.prog X.w) X.A (comprehension (.ListComp au [⟨a9,ap,av,0⟩] scope pos) scope X.env p9 (newList []) false (eval ap X.env) use) QQ X.xe s:=by
 obtain⟨σ0,am,hq⟩:=hq;obtain⟨cl,aa,p1,p2⟩:=aLr (scope:=scope) (env:=X.env) (λy hy hk=>by obtain⟨n,k⟩:=y;cases hk;exact I.ok.has n (aj n hy))
 refine wpAny_comprehension_free (use:=use) rfl hs aa C.kind C.names (thn (hi a4 s σ H _ I hq) λxv s1 h1=>thn h1 λaw f h2=>?_);obtain⟨it,fp,tn,J,G,rfl,I2,T,a0,f2,q2⟩:=h2;refine bAG (wpAny_newFunctionEnv C.cell (by intro y hy;simp at hy) (λh₁ F B=>?_) C.kind);dsimp only at F B ⊢;have hD:G f.heap.objs.size=none:=I2.hok.fresh (j0 _);have I3:Inv X a4 σ (upd G f.heap.objs.size (.lst [])) { f with heap:=f.heap.push { cls:=.type "list",dict:=none,data:=.seq ([]:List Value).toArray } }:=
  I2.laid (t':=f.toks) (λb u e=>d7 _ e) (j0 _) ⟨bAF _,[],0,.nil,j8 _ rfl⟩
 generalize a8:({ f with heap:=f.heap.push { cls:=.type "list",dict:=none,data:=.seq ([]:List Value).toArray } }:Shared)=s3 at I3;have Q:f.heap.push { cls:=.type "list",dict:=none,data:=.seq ([]:List Value).toArray }=s3.heap:=by rw[<-a8]
 rw[Q] at F B;have Z:∀b∈fp,b<f.heap.objs.size:=λb a=>by obtain⟨o,e,_⟩:=T.obj _ _ a0 b a;exact m9 e
 have ae:∀b∈fp,b<s3.heap.objs.size:=λb a=>by rw[<-Q,bBP];exact bCJ (Z b a)
 have f3:∀b∈fp,qU X a4 (upd G f.heap.objs.size (.lst [])) b:=λb a=>by obtain⟨f0,fr⟩:=f2 b a;exact⟨by rw[aM (v7 (Z b a))];exact f0,fr⟩
 have E:∀b o,s3.heap.get? b=some o->h₁.get? b=some o:=λb o e=>B.extBut b o (v7 (m9 e)) (d7 _ e);have I4:=aSd (tk:=s3.toks) I3 C aj p1 p2 am f3 ae F E;have Y:tn 0 h₁:=T.keep _ _ _ a0 λb a o e=>E b o (by rw[<-Q];exact d7 _ e);obtain⟨W,⟨m0,w0⟩,a7⟩:=q2 f.heap.objs.size hD;have P:∀{U:Hp},(∀b∈fp,U b=none)->∀b∈fp,qU (cxC X N scope cl s3 (upd G f.heap.objs.size (.lst [])) fp) [] U b:=λ{U} hn b a=>by obtain⟨e1,e2⟩:=I4.ok.exf b a;exact⟨hn b a,e1,I4.ok.exfs b a,.inl a,e2,λp hp=>absurd (show p∈([]:bGB) from hp) (by simp)⟩
 have L:∀s4:Shared,s4={ s3 with heap:=h₁,toks:=s3.toks } ->
   codeAny (model X.prog X.w) X.A (.compLoop (.ListComp au [⟨a9,ap,av,0⟩] scope pos) 0 (.ref it) (.ref f.heap.objs.size) (compEnvC scope cl s3.heap.objs.size X.env))
    (compPost (model X.prog X.w) X.A X.xe use QQ (.ref f.heap.objs.size) s3.heap.objs.size) s4:=by
  rintro s4 rfl;refine aPr (λn s'=>∃i σ' U ys,Inv (cxC X N scope cl s3 (upd G f.heap.objs.size (.lst [])) fp) [] σ' U s'/\tn i s'.heap/\(∀b∈fp,U b=none)/\W i n σ' U ys) ?_ m0 ⟨0,σ0,_,[],I4,Y,λb a=>(f3 b a).1,w0⟩;rintro n s5 ⟨i,σ5,H5,ys,I5,st5,fr5,w5⟩;obtain⟨aq,w5⟩:=a7 i n σ5 H5 ys w5;have j:∀{α:Type} {t:Sem α} {Q':α->Shared->Prop} {E':bGA} {s':Shared},wpAny (model X.prog X.w) X.A t Q' (λ_ _=>False) s'->wpAny (model X.prog X.w) X.A t Q' E' s':=λh=>bBH h (λ_ _ q=>q) λ_ _ z=>z.elim;rcases w5 with⟨a1,qn⟩|⟨go,step⟩
  ·refine j (thn (T.done (cxC X N scope cl s3 (upd G f.heap.objs.size (.lst [])) fp) rfl rfl rfl hc i [] s5 σ5 H5 _ I5 (P fr5) st5 a1) λr s6 ⟨hr,R⟩=>?_);subst hr;obtain⟨m6,ab,_⟩:=R.loc;refine a5 _ _ H5 s6 ⟨m6,ab⟩ (λh' kp=>?_) (I3.aIr (j0 _) R.free) qn;have O:∀b o,s3.heap.get? b=some o->b≠s3.heap.objs.size:=λb o e=>v7 (m9 e);have un:Un (frs X.stack) fp (upd G f.heap.objs.size (.lst [])) H5 s3.heap h':=by
    have u:=R.base;exact⟨λb o e n a hx=>kp b o (O b o e) (u.keep b o e n a hx),λb o e n a hx=>by
     obtain⟨sl,e1⟩:=u.slot b o e n a hx;exact⟨sl,kp b _ (O b o e) e1⟩,u.free,λb o e hx=>by
     obtain⟨o',e1⟩:=u.there b o e hx;exact⟨o',kp b _ (O b o e) e1⟩,u.tups,u.frzs,u.tbls⟩
   have ak:HOk X.prog X.w H5 h':=λb u e=>by
    refine (R.hok b u e).stay (λc v ao q=>kp c v ?_ q) (λ_ q=>q) λ_ _ q=>q;have l:H5 s3.heap.objs.size=none:=R.free;rintro rfl;rcases ao with z|z
    ·rw[z] at l;rw[l] at e;cases e
    ·rw[l] at z;cases z
   refine I3.call' (s':={ s6 with heap:=h' }) R.os un ak R.bare λb a=>?_;obtain⟨f0,f1,as,an,f4,f5⟩:=f3 b a;exact⟨an,f1,f4,f5⟩
  ·refine j (thn (T.item (cxC X N scope cl s3 (upd G f.heap.objs.size (.lst [])) fp) rfl rfl rfl hc i [] s5 σ5 H5 (λ_ _=>False) I5 (P fr5) st5 go) λr s6 ⟨u,hr,h6⟩=>?_);subst hr;refine j (thn h6 λ_ s7 ⟨x,H7,I7,r7,y7,S,af⟩=>?_);obtain⟨hg,ht,he⟩:=a cl s3 (upd G f.heap.objs.size (.lst [])) fp;have al:=I7.pinned (P af) (T.obj _ _ S);have m:∀{M:St} {H8:Hp} {s8:Shared},Inv (cxC X N scope cl s3 (upd G f.heap.objs.size (.lst [])) fp) ([]++aB1 fp s7.heap) M H8 s8->tn (i+1) s8.heap/\∀b∈fp,H8 b=none:=λ{M H8 s8} I8=>
    ⟨T.keep _ _ _ S λb a o e=>(I8.pin (b,o) (bAO _ (bAO _ (nC a e)))).1,λb a=>by obtain⟨o,e,d⟩:=T.obj _ _ S b a;exact (I8.pin (b,o) (bAO _ (bAO _ (nC a e)))).2.1⟩
   refine j (thn (hg _ s7 σ5 H7 x u _ al r7 (step x H7 y7)) λ_ s8 ⟨M,H8,I8,q8⟩=>?_);refine j (thn (ht _ s8 M H8 _ I8 q8) λb s9 ⟨H9,I9,q9⟩=>?_);cases b with
   |false=>rw[if_neg v6] at q9 ⊢;obtain⟨_,m',hm,w9⟩:=q9;exact⟨m',hm,i+1,M,H9,ys,I9.pL,(m I9).1,(m I9).2,w9⟩
   |true=>rw[if_pos rfl] at q9 ⊢;refine j (thn (he _ s9 M H9 _ I9 q9) λyv ad ⟨y,a6,ac,ai,K,a2,m',hm,ag⟩=>?_);refine j (thn (aD6 _ ad M a6 (.ref f.heap.objs.size) [y] (.ref f.heap.objs.size) [yv] (λ_ a3=>a3=upd a6 f.heap.objs.size (.lst (ys++[y]))) ac rfl (.cons ai .nil) ⟨_,_,_,rfl,rfl,K,a2,rfl⟩) λ_ ar ⟨z,a3,V,_,ah⟩=>?_);subst ah;exact⟨m',hm,i+1,M,_,ys++[y],V.pL,(m V).1,(m V).2,ag⟩
 have a5:=codeAny_compStart_list (L { s3 with heap:=h₁,toks:=s3.toks } rfl) (T.self _ _ _ _ _ Y (L { s3 with heap:=h₁,toks:=s3.toks } rfl));subst a8;exact a5
def aV2
  (C:tH scope N) (l:∀y,(y,NameKind.free)∈scope.names->X.env.kindOf y=some .cell\/X.env.kindOf y=some .free) (q:X.calm=true)
  (hi:PI X target iter wi)
  (d:∀cl s H fp,PG (cxC X N scope cl s H fp) target g/\aQz (cxC X N scope cl s H fp) ifs tt/\PE (cxC X N scope cl s H fp) elt te)
  (r:∀x,foldedSetIterable iter X.env x=pure x:=by intro _;rfl) :
  PE X (.ListComp elt [⟨target,iter,ifs,0⟩] scope pos) (jE X scope N wi g tt te):=by
 intro n s σ H Q I h;rw[eval_ListComp];exact aDl C l q hi d r I h λD t k p ⟨i,a⟩ c _ m=>⟨i,a,λf j=>⟨.ref D,k,c f λb o d e=>j.extBut b o d e,rfl,m⟩⟩
end L2
namespace PySem
open Sem (wp)
namespace IfF
def aTw:typeLookup (.type "function") "__class__"=pure (some (.builtin "object.__class__")):=by rw[typeLookup_type,builtinLookup_eq_fast];kernel_rfl
def yP:Slot "function" "__getattribute__" "object.__getattribute__":=
 .of (owner:="object") (n:="__getattribute__") (by rw[typeLookup_type,builtinLookup_eq_fast];kernel_rfl) (by trivial) (by trivial) (by trivial)
  (by first|exact .inl (by trivial)|exact .inr (by trivial)) (by rw[isSubtype_type];kernel_rfl)
def aTt:entryFor table "object.__getattribute__"=some Builtin.«object.__getattribute__»:=entryFor_of_tree (by kernel_rfl)
def xY:isSubtype (.type "function") (.type (".".intercalate ("object.__class__".cutAt '.').dropLast))=pure true:=by rw[F.owner_object_class,isSubtype_type];kernel_rfl
def sub_int:isSubtype (.type "function") (.type "int")=pure false:=by rw[isSubtype_type];kernel_rfl
def sub_bool:isSubtype (.type "function") (.type "bool")=pure false:=by rw[isSubtype_type];kernel_rfl
def aW3:isSubtype (.type "function") (.type "str")=pure false:=by rw[isSubtype_type];kernel_rfl
end IfF
section
variable {prog:Program}{w:World}{A:Around}{E:bGA}{h:Heap}{g:Array GenState}{d:Drawn}{t:Nat}{os:OsState}{a:Addr}{o:Obj}
def aG0 (e:h.get? a=some o)(c:o.cls=.type "function")(hq:R (.ok (.ret (.type "function"))) ⟨h,g,d,t,os⟩) :
  codeAny (model prog w) A (.call (.builtin "getset_descriptor.__get__") ⟨[.builtin "object.__class__",.ref a,.type "function"],[]⟩) R ⟨h,g,d,t,os⟩:=by
 have f:(⟨h,g,d,t,os⟩:Shared).TypeIs (.ref a) "function":=⟨_,e,c⟩;have b:=F.typeOf_object_class;have i:=IfF.xY;refine bCE F.slot_gs_get.plain F.entry_gs_get (F.slot_gs_get.check _ _ _ _ _ _ _ _ b (F.args_gs_get _ _ _) ?_)
 repeat (any_goals (first|assumption|wp_step))
 refine⟨Code.quiet_builtin _ (by trivial),bBK F.entry_object_class ?_⟩
 repeat (any_goals (first|assumption|wp_step))
def zE (e:h.get? a=some o)(c:o.cls=.type "function")(hq:Q (.done (.ret (.type "function"))) ⟨h,g,d,t,os⟩) :
  wpAny (model prog w) A (Builtin.«object.__getattribute__» ⟨[.ref a,.str "__class__" tk],[]⟩) Q E ⟨h,g,d,t,os⟩:=by
 have i:(⟨h,g,d,t,os⟩:Shared).TypeIs (.ref a) "function":=⟨_,e,c⟩;have b:=F.typeOf_object_class;have l:=IfF.aTw;have j:=F.typeOf_object_class;have f:=F.slot_gs_get.lookup;have k:=F.slot_gs_set.lookup
 repeat (any_goals (first|assumption|wp_step))
 refine aG0 e c ?_
 repeat (any_goals (first|assumption|wp_step))
def aIf (c:h.get? a=some o)(b:o.cls=.type "function")(hq:Q (.type "function") ⟨h,g,d,t,os⟩):wpAny (model prog w) A (getAttrBy (.ref a) (.str "__class__" tk) false) Q E ⟨h,g,d,t,os⟩:=by
 have e:(⟨h,g,d,t,os⟩:Shared).TypeIs (.ref a) "function":=⟨_,c,b⟩;have f:=IfF.yP.lookup;have i:=IfF.yP.bind (.ref a)
 repeat (any_goals (first|assumption|wp_step))
 refine bCE IfF.yP.plain IfF.aTt (IfF.yP.check _ _ _ _ _ _ _ _ e (F.args_object_getattribute_2 _ _) (zE c b ?_))
 repeat (any_goals (first|assumption|wp_step))
def aCs (c:h.get? a=some o)(b:o.cls=.type "function")(hq:Q (some (.type "function")) ⟨h,g,d,t+1,os⟩):wpAny (model prog w) A (getAttr? (.ref a) "__class__") Q E ⟨h,g,d,t,os⟩:=by
 unfold getAttr? getAttrBy?
 repeat (any_goals (first|assumption|with_reducible apply aIf c b|wp_step))
def aCy (c:h.get? a=some o)(b:o.cls=.type "function")(hne:(Value.type "function" == Value.type T)=false)(hty:typeOf (.type T)=pure (.type "type"))
  (hsub:isSubtype (.type "function") (.type T)=pure false) (hq:Q (.done (.ret (.bool false))) ⟨h,g,d,t+1,os⟩) :
  wpAny (model prog w) A (Builtin.«isinstance.nested» ⟨[.ref a,.type T,.int dep tk],[]⟩) Q E ⟨h,g,d,t,os⟩:=by
 have e:(⟨h,g,d,t,os⟩:Shared).TypeIs (.ref a) "function":=⟨_,c,b⟩
 repeat (any_goals (first|assumption|with_reducible apply aCs c b|wp_step))
end
def mO (e:(Value.type "function" == Value.type T)=false)(c:typeOf (.type T)=pure (.type "type"))(b:isSubtype (.type "function") (.type T)=pure false) :
  Meets (Builtin.«isinstance» ⟨[.ref a,.type T],[]⟩) (λ_ R s=>(∃o,s.heap.get? a=some o/\o.cls=.type "function")/\R (.ok (.ret (.bool false))) { s with toks:=s.toks+1 }):=
 λ_ _ _ _ s k=>by obtain⟨h,g,d,t,l⟩:=s;obtain⟨⟨o,i,f⟩,j⟩:=k;exact isinstance_outer (aCy i f e c b j)
def aM6 (c:s.heap.get? a=some o)(b:o.cls=.type "function")(h:Q (.bool false) { s with toks:=s.toks+1 }):wpAny (model prog w) A (call (.builtin "isinstance") [.ref a,.type "int"]) Q E s:=
 call_isinstance (mO (by decide) F.isi_meta_int IfF.sub_int) ⟨⟨o,c,b⟩,h⟩
def aI6 (c:s.heap.get? a=some o)(b:o.cls=.type "function")(h:Q (.bool false) { s with toks:=s.toks+1 }):wpAny (model prog w) A (call (.builtin "isinstance") [.ref a,.type "bool"]) Q E s:=
 call_isinstance (mO (by decide) F.isi_meta_bool IfF.sub_bool) ⟨⟨o,c,b⟩,h⟩
def aLb (c:s.heap.get? a=some o)(b:o.cls=.type "function")(h:Q (.bool false) { s with toks:=s.toks+1 }):wpAny (model prog w) A (call (.builtin "isinstance") [.ref a,.type "str"]) Q E s:=
 call_isinstance (mO (by decide) F.isi_meta_str IfF.aW3) ⟨⟨o,c,b⟩,h⟩
end PySem
namespace L2
open PySem PySem.Spec PyProof.Rows
def PE.imp (h:PE X e t)(k:∀σ H Q,t' σ H Q->t σ H Q):PE X e t':=λa s σ H Q I q=>h a s σ H Q I (k σ H Q q)
def bE1 (K:bF9):List V->Hp->VK->Prop:=λxs H Q=>∃(p:Addr) (bs:List Bool),xs=[.ref p]/\SqL K H p (bs.map V.bl)/\Q (.bl (bs.all id)) H
def all_range (bs:List Bool):(List.range bs.length).all (λi=>bs.getD i false)=bs.all id:=by
 rw[bCM,bCF,bCF];constructor
 ·intro h b c;obtain⟨i,a,e⟩:=List.mem_iff_getElem.mp c;have:=h i (List.mem_range.mpr a);rw[j9,b8 a] at this;rw[<-e];exact this
 ·intro h i a;have a:=List.mem_range.mp a;rw[j9,b8 a];exact h _ (bAU a)
def jP (P:X.calm=true):cA X (.builtin "all") (bE1 X.K):=by
 intro G s σ H R M Q I r h;obtain⟨p,c,rfl,x,q⟩:=h;obtain⟨u,rfl,w⟩:=r.one;cases w;obtain⟨d,t,k,L⟩:=I.list x;have g:=t.length;rw[j7] at g;have j:p≠s.heap.objs.size:=by obtain⟨o,E,_⟩:=k.isList;exact v7 (m9 E)
 refine call_all_walk (bCR k.isList ?_);refine⟨s.heap.objs.size,_,_,_,_,_,λi=>c.getD i false,rfl,Walks.list (show X.A.in1.handled=none from I.ok.hd P) _ p j d.toArray,⟨⟨_,j8 _ rfl,rfl,rfl⟩,?_⟩,?_,λJ N y=>?_⟩
 ·exact k.isList.at λo e=>d7 _ e
 ·intro i v B D O C a;have f:d[i]?=some v:=by simpa using C
  have m:i<c.length:=by rw[g];exact (List.getElem?_eq_some_iff.mp f).1
  obtain⟨u,n,F⟩:=t.get (by rw[t7,b8 m];rfl);rw[f] at n;cases n;cases F;have e:c.getD i false=c[i]:=by rw[j9,b8 m];rfl
  replace a:D (c.getD i false) B:=a;rw[e] at a;exact bBB a
 ·have e:(List.range d.toArray.size).all (λi=>c.getD i false)=c.all id:=by rw[d9,<-g];exact all_range c
  rw[e];refine⟨.bl (c.all id),H,?_,rfl,q⟩;exact I.kept λb o l=>y b o (by
   intro z;have:b=s.heap.objs.size:=by simpa using z
   rw[this] at l;exact absurd (m9 l) (bBQ _)) (d7 _ l)
inductive Rk (K:bF9)(H:Hp):V->String->Prop
 |non:Rk K H .non "NoneType"
 |lst {a xs}:SqL K H a xs->Rk K H (.ref a) "list"
 |tup {a xs}:SqT K H a xs->Rk K H (.ref a) "tuple"
 |dct {a kvs}:H a=some (.dK kvs)->Rk K H (.ref a) "dict"
 |fn {a o}:K.lookup a=some o->o.cls=.type "function"->Rk K H (.ref a) "function"
def aZa (K:bF9):List V->Hp->VK->Prop:=λxs H Q=>∃x k T,xs=[x,.ty T]/\Rk K H x k/\(T = "int"\/T = "bool"\/T = "str")/\Q (.bl false) H
def qH:cA X (.builtin "isinstance") (aZa X.K):=by
 intro i s σ H w t Q I r h;obtain⟨x,k,T,rfl,l,b,q⟩:=h;obtain⟨u,v,rfl,d,p⟩:=r.two;cases p;have a:EP X i σ Q (.bool false) { s with toks:=s.toks+1 }:=⟨.bl _,H,I.tok _,rfl,q⟩;cases l with
 |non=>
  cases d;rcases b with rfl|rfl|rfl
  ·exact IsiPair.NoneType_int a
  ·exact IsiPair.NoneType_bool a
  ·exact IsiPair.NoneType_str a
 |lst hq=>
  cases d;obtain⟨g,m,⟨o,n,e,c,_⟩,j⟩:=I.list hq;rcases b with rfl|rfl|rfl
  ·exact IsiPair.list_int e c a
  ·exact IsiPair.list_bool e c a
  ·exact IsiPair.list_str e c a
 |tup hq=>
  cases d;obtain⟨g,m,⟨o,e,c,_⟩,j⟩:=I.tuple hq;rcases b with rfl|rfl|rfl
  ·exact IsiPair.tuple_int e c a
  ·exact IsiPair.tuple_bool e c a
  ·exact IsiPair.tuple_str e c a
 |dct hq=>
  cases d;obtain⟨_,_,_,_,o,_,_,e,f,_⟩:=I.hok _ _ hq;rcases b with rfl|rfl|rfl
  ·exact IsiPair.dict_int e f.1 a
  ·exact IsiPair.dict_bool e f.1 a
  ·exact IsiPair.dict_str e f.1 a
 |fn hk hc=>
  cases d;have e:=I.kIn _ _ hk;rcases b with rfl|rfl|rfl
  ·exact aM6 e hc a
  ·exact aI6 e hc a
  ·exact aLb e hc a
def jN {X:Cx}{scope:Scope}(h:∀z∈scope.names,z.2≠.free:=by trivial):∀y,(y,NameKind.free)∈scope.names->X.env.kindOf y=some .cell\/X.env.kindOf y=some .free:=λy a=>absurd rfl (h _ a)
def iG {X:Cx}{scope:Scope}(sc:Scope)(e:X.env.scope=sc:=by rfl)(h:∀z∈scope.names,z.2=.free->sc.names.lookup z.1=some .cell\/sc.names.lookup z.1=some .free:=by trivial) :
  ∀y,(y,NameKind.free)∈scope.names->X.env.kindOf y=some .cell\/X.env.kindOf y=some .free:=λy a=>by
 show X.env.scope.names.lookup y=some .cell\/X.env.scope.names.lookup y=some .free;rw[e];exact h _ a rfl
def Same.bC {K:bF9}{H H':Hp}{a:Addr}{xs:List V}(e:Same H H')(h:SqT K H a xs):SqT K H' a xs:=by
 rcases h with (h|⟨o,h⟩)|h
 ·exact .inl (.inl (e _ _ h))
 ·exact .inl (.inr ⟨o,e _ _ h⟩)
 ·exact .inr h
def aO (h:H p=none)(o:HO):Same H (upd H p o):=λb u q=>by rw[aM (aW q h)];exact q
def Rk.same {K:bF9}{H H':Hp}{v:V}{k:String}(e:Same H H')(h:Rk K H v k):Rk K H' v k:=by
 cases h with
 |non=>exact .non
 |lst q=>exact .lst (e.seq q)
 |tup q=>exact .tup (e.bC q)
 |dct q=>exact .dct (e _ _ q)
 |fn q c=>exact .fn q c
def pZ:Cap X scope [x] σ [none]:=⟨rfl,λi y v _ a=>by
 cases i with
 |zero=>cases a
 |succ i=>cases a⟩
def aRi (xs:List V)(f:V->V)(p:St)(r:Cap X scope N σ p)(hsz:xs.length<=sizeLine)
  (v:∀R:It->Hp->Prop,(∀J:It,(∀H' i x,Same H H'->xs[i]?=some x->J.go i H'/\∀y H2,J.yld i H' y H2->H2=H'/\y=x)->(∀H',Same H H'->J.stop xs.length H')->R J H)->wi σ H R)
  (w:∀x∈xs,∀H' R l,Same H H'->R (f x) H'->te ((p.set 0 l).set 0 (some x)) H' R) (u:p[0]?=some none)
  (q:∀D,H D=none->Q (.ref D) (upd H D (.lst (xs.map f)))) :
  jE X scope N wi (bF 0) kO te σ H Q:=by
 refine⟨p,r,v _ λJ go stop D g=>?_⟩;have d:∀c:List V,Same H (upd H D (.lst c)):=λc b o e=>by rw[aM (aW e g)];exact e
 refine⟨λi m h H' c=>i<=xs.length/\m=xs.length - i/\(∃l,h=p.set 0 l)/\H'=upd H D (.lst c)/\c=(xs.take i).map f,⟨xs.length,bAF _,rfl,⟨none,?_⟩,rfl,rfl⟩,?_⟩
 ·refine (bCS λj=>?_);rw[List.getElem?_set]
  split
  ·rename_i k;subst k
   split
   ·exact u
   ·rename_i a;exact List.getElem?_eq_none_iff.mpr (by lia)
  ·rfl
 ·rintro i m h H' c ⟨hi,rfl,⟨l,rfl⟩,rfl,rfl⟩;refine⟨aG,?_⟩;by_cases a:i<xs.length
  ·right;obtain⟨n,s⟩:=go (upd H D (.lst ((xs.take i).map f))) i xs[i] (d _) (b8 a);refine⟨n,λx H2 t=>?_⟩;obtain⟨rfl,rfl⟩:=s x H2 t;unfold bF kO;dsimp only;rw[if_pos rfl];refine w xs[i] (bAU a) _ _ l (d _) ⟨aG,?_,xs.length - (i+1),by lia,a,rfl,⟨some xs[i],?_⟩,?_,?_⟩
   ·rw[j7,bAR];lia
   ·rw[bCK]
   ·rw[aN3]
   ·rw[bBW,b8 a,bAY];rfl
  ·left;have e:i=xs.length:=by lia
   subst e;refine⟨stop _ (d _),?_⟩;rw[bED];exact q D g
def bA5 (h:∀R:VK,R (.str z) H->tl σ H R)(R:It->Hp->Prop)
  (q:∀J:It,(∀H' i x,Same H H'->((List.range z.cps.size).map λi=>V.str (sgn z i))[i]?=some x->J.go i H'/\∀y H2,J.yld i H' y H2->H2=H'/\y=x) ->
   (∀H',Same H H'->J.stop ((List.range z.cps.size).map λi=>V.str (sgn z i)).length H')->R J H):bCg tl σ H R:=by
 refine h _ ⟨z,rfl,q _ (λH' i x _ e=>?_) λH' _=>?_⟩
 ·rw[t7] at e;have a:i<z.cps.size:=by
   cases b:(List.range z.cps.size)[i]? with
   |none=>rw[b] at e;cases e
   |some j=>have:=(List.getElem?_eq_some_iff.mp b).1;rwa [bAM] at this
  rw[bCV a] at e;cases e;exact⟨a,λy H2 c=>c⟩
 ·rw[j7,bAM];exact j0 _
end L2
namespace PySem
abbrev aWk (t:Addr)(i:Nat):Obj:={ cls:=.type "tuple_iterator",data:=.fields #[.ref t,.int (i:Int) 0] }
abbrev aWg (t:Addr)(i:Nat):Obj:={ cls:=.type "list_iterator",data:=.fields #[.ref t,.int (i:Int) 0] }
abbrev uX (f0:Value)(TI TO:Addr):Obj:={ cls:=.type "zip",dict:=none,data:=.fields #[f0,.bool false,.bool false,.ref TI,.ref TO],slots:=#[] }
abbrev kI (a b:Value):Obj:={ cls:=.type "tuple",data:=.seq #[a,b] }
def aL1 (ho:s.heap.get? it=some (aWk t i))(f:s.heap.IsTuple t its)(e:its[i]?=some x)
  (q:∀h',h'.get? it=some (aWk t (i+1))->Heap.SameBut it s.heap h'->Q x { s with heap:=h' }):wpAny (model prog w) A (Builtin.SmallTypes.nextOf (.ref it)) Q E s:=by
 have c:s.TypeIs (.ref it) "tuple_iterator":=⟨_,ho,rfl⟩;obtain⟨g,a,_,d,b⟩:=f;unfold Builtin.SmallTypes.nextOf;refine b7 (bAK c F.slot_tuple_iterator_next (bAL F.slot_tuple_iterator_next c F.entry_tuple_iterator_next ?_ (F.args_tuple_iterator_next_1 _)));refine b7 (m:=field (.ref it) 0) (bAN ho rfl (x:=.ref t) rfl ?_);refine (if_neg (show ¬ ((Value.ref t == Value.none)=true) from v6)).symm ▸ ?_;refine b7 (bAN ho rfl rfl ?_);refine b7 (bBG a b ?_);simp only[bAJ,e];refine b7 (bBZ ho rfl (by simp) (d8 ⟨x,rfl,d8 (q _ ?_ (bBD ..))⟩));exact bAS _ ho rfl
def aAg (d:A.handled=none)(ho:s.heap.get? it=some (aWk t i))(h:s.heap.IsTuple t its)(g:its[i]?=none)
  (q:∀h' e,Heap.ExtBut it s.heap h'->(∃o,h'.get? e=some o/\o.cls=.type "StopIteration")->E (.ref e) { s with heap:=h' }):wpAny (model prog w) A (Builtin.SmallTypes.nextOf (.ref it)) Q E s:=by
 have c:s.TypeIs (.ref it) "tuple_iterator":=⟨_,ho,rfl⟩;obtain⟨j,a,_,f,b⟩:=h;unfold Builtin.SmallTypes.nextOf;refine b7 (bAK c F.slot_tuple_iterator_next (bAL F.slot_tuple_iterator_next c F.entry_tuple_iterator_next ?_ (F.args_tuple_iterator_next_1 _)));refine b7 (m:=field (.ref it) 0) (bAN ho rfl (x:=.ref t) rfl ?_);refine (if_neg (show ¬ ((Value.ref t == Value.none)=true) from v6)).symm ▸ ?_;refine b7 (bAN ho rfl rfl ?_);refine b7 (bBG a b ?_);simp only[bAJ,g];refine b7 (bEB (b7 (bBZ ho rfl (by simp) ?_)));unfold Builtin.SmallTypes.stopIteration;refine b7 ?_;simp only[newExc,newTuple];refine b7 (bAG ?_ (by size_fits));refine b7 (bEU (by first|rfl|(simp only[firstArgMember];rfl)) ?_);refine bAG ?_ (by size_fits);simp only[raiseNew];refine b7 (bFM ?_);first|rw[show A.in1.handled=none from d]|rw[d]
 refine b7 (d8 (bF4 ?_));exact q _ _ (((bBD ..).extBut.push _).push _) ⟨_,j8 _ rfl,rfl⟩
def aM1 (ho:s.heap.get? it=some (aWg t i))(f:s.heap.IsList t its)(e:its[i]?=some x)
  (q:∀h',h'.get? it=some (aWg t (i+1))->Heap.SameBut it s.heap h'->Q x { s with heap:=h' }):wpAny (model prog w) A (Builtin.SmallTypes.nextOf (.ref it)) Q E s:=by
 have c:s.TypeIs (.ref it) "list_iterator":=⟨_,ho,rfl⟩;obtain⟨g,a,_,d,b⟩:=f;unfold Builtin.SmallTypes.nextOf;refine b7 (bAK c slot_listiter_next (bAL slot_listiter_next c entry_listiter_next ?_ (args_listiter_next _)));refine b7 (m:=field (.ref it) 0) (bAN ho rfl (x:=.ref t) rfl ?_);refine (if_neg (show ¬ ((Value.ref t == Value.none)=true) from v6)).symm ▸ ?_;refine b7 (bAN ho rfl rfl ?_);refine b7 (bBG a b ?_);simp only[bAJ,e];refine b7 (bBZ ho rfl (by simp) (d8 ⟨x,rfl,d8 (q _ ?_ (bBD ..))⟩));exact bAS _ ho rfl
def aBa (d:A.handled=none)(ho:s.heap.get? it=some (aWg t i))(h:s.heap.IsList t its)(g:its[i]?=none)
  (q:∀h' e,Heap.ExtBut it s.heap h'->(∃o,h'.get? e=some o/\o.cls=.type "StopIteration")->E (.ref e) { s with heap:=h' }):wpAny (model prog w) A (Builtin.SmallTypes.nextOf (.ref it)) Q E s:=by
 have c:s.TypeIs (.ref it) "list_iterator":=⟨_,ho,rfl⟩;obtain⟨j,a,_,f,b⟩:=h;unfold Builtin.SmallTypes.nextOf;refine b7 (bAK c slot_listiter_next (bAL slot_listiter_next c entry_listiter_next ?_ (args_listiter_next _)));refine b7 (m:=field (.ref it) 0) (bAN ho rfl (x:=.ref t) rfl ?_);refine (if_neg (show ¬ ((Value.ref t == Value.none)=true) from v6)).symm ▸ ?_;refine b7 (bAN ho rfl rfl ?_);refine b7 (bBG a b ?_);simp only[bAJ,g];refine b7 (bEB (b7 (bBZ ho rfl (by simp) ?_)));unfold Builtin.SmallTypes.stopIteration;refine b7 ?_;simp only[newExc,newTuple];refine b7 (bAG ?_ (by size_fits));refine b7 (bEU (by first|rfl|(simp only[firstArgMember];rfl)) ?_);refine bAG ?_ (by size_fits);simp only[raiseNew];refine b7 (bFM ?_);first|rw[show A.in1.handled=none from d]|rw[d]
 refine b7 (d8 (bF4 ?_));exact q _ _ (((bBD ..).extBut.push _).push _) ⟨_,j8 _ rfl,rfl⟩
def itO:Bool->Addr->Nat->Obj
 |true=>aWg
 |false=>aWk
def Heap.sV (h:Heap):Bool->Addr->Array Value->Prop
 |true=>h.IsList
 |false=>h.IsTuple
def Heap.sV.extBut (p:h.sV b t its)(e:Heap.ExtBut x h h')(n:t≠x):h'.sV b t its:=by
 cases b
 ·exact Heap.IsTuple.extBut p e n
 ·exact Heap.IsList.extBut p e n
def wO (ho:s.heap.get? it=some (itO L t i))(a:s.heap.sV L t its)(b:its[i]?=some x)
  (q:∀h',h'.get? it=some (itO L t (i+1))->Heap.SameBut it s.heap h'->Q x { s with heap:=h' }):wpAny (model prog w) A (Builtin.SmallTypes.nextOf (.ref it)) Q E s:=by
 cases L
 ·exact aL1 ho a b q
 ·exact aM1 ho a b q
def rD (b:A.handled=none)(ho:s.heap.get? it=some (itO L t i))(a:s.heap.sV L t its)(c:its[i]?=none)
  (q:∀h' e,Heap.ExtBut it s.heap h'->(∃o,h'.get? e=some o/\o.cls=.type "StopIteration")->E (.ref e) { s with heap:=h' }):wpAny (model prog w) A (Builtin.SmallTypes.nextOf (.ref it)) Q E s:=by
 cases L
 ·exact aAg b ho a c q
 ·exact aBa b ho a c q
structure vZ (z TI TO a b:Addr):Prop where
 h1:TI≠z
 h2:TO≠z
 h3:a≠z
 h4:b≠z
 h5:TI≠TO
 h6:TI≠a
 h7:TI≠b
 h8:TO≠a
 h9:TO≠b
 h10:a≠b
def aG1 (c:s.heap.get? T=some (kI a b))
  (q:∀h',h'.get? T=some { cls:=.type "tuple",data:=.seq ((#[a,b]:Array Value).setIfInBounds k x) }->Heap.SameBut T s.heap h'->Q () { s with heap:=h' }) :
  wpAny (model prog w) A (updateSeq T (·.setIfInBounds k x)) Q E s:=by
 refine wpAny_updateSeq c rfl (q _ ?_ (bBD ..));rw[bAS _ c rfl];simp[Obj.mapSeq]
def aQ6 {L:Bool}{z TI TO Y i2 t u:Addr}{k:Nat}{xs ys:Array Value}{x y a b:Value}{Q:Option Value->Shared->Prop}(D:vZ z TI TO Y i2)
  (n:s.heap.get? z=some (uX .none TI TO)) (a1:s.heap.get? TI=some (kI (.ref Y) (.ref i2))) (a0:s.heap.get? TO=some (kI a b))
  (g1:s.heap.get? Y=some (itO L t k)) (g2:s.heap.get? i2=some (itO L u k)) (ht:s.heap.sV L t xs) (hu:s.heap.sV L u ys) (hx:xs[k]?=some x) (hy:ys[k]?=some y)
  (t1:t≠z) (t2:t≠TO) (t3:t≠Y) (t4:t≠i2) (u1:u≠z) (u2:u≠TO) (u3:u≠Y) (u4:u≠i2)
  (q:∀h',h'.get? z=some (uX (rawInt s.heap.objs.size) TI TO)->h'.get? TO=some (kI x y)->h'.get? Y=some (itO L t (k+1))->h'.get? i2=some (itO L u (k+1))->h'.get? s.heap.objs.size=some (kI x y) ->
   (∀c o,c≠z->c≠TO->c≠Y->c≠i2->s.heap.get? c=some o->h'.get? c=some o)->Q (some (.ref s.heap.objs.size)) { s with heap:=h' }) :
  wpAny (model prog w) A (pyNext (.ref z)) Q E s:=by
 have V:s.TypeIs (.ref z) "zip":=⟨_,n,rfl⟩;unfold pyNext;refine b7 (bCA (bAK (name:=Str.ofString "__next__") V F.slot_zip_next (bAL F.slot_zip_next V F.entry_zip_next ?_ (F.args_zip_next_1 _))));refine b7 (m:=field (.ref z) 2) (bAN n rfl (x:=.bool false) rfl ?_);refine b7 (m:=field (.ref z) 3) (bAN n rfl (x:=.ref TI) rfl (b7 (bBG a1 rfl ?_)));refine b7 (m:=Builtin.SmallTypes.ownedTupleIsFree (.ref z)) ?_;unfold Builtin.SmallTypes.ownedTupleIsFree;refine b7 (bAN n rfl (x:=.none) rfl (d8 ?_));simp only[if_true];refine b7 (bEB (b7 (bAN n rfl (x:=.ref TO) rfl (b7 (bAQ n (by simp) λZ P h=>?_)))));replace P:Z.get? z=some (uX .ellipsis TI TO):=P;refine b7 ?_;simp only[List.zipIdx_cons,List.zipIdx_nil,bDR,bFY];refine b7 (b7 (bEL ?_));refine b7 (m:=Builtin.SmallTypes.nextOf (.ref Y)) (wO (s:={ s with heap:=Z }) (h.extBut _ _ D.h3 g1) (ht.extBut h.extBut t1) hx λh2 K j=>d8 ?_);have C:h2.get? TO=some (kI a b):=j.extBut _ _ D.h8 (h.extBut _ _ D.h2 a0);refine b7 (bBG C rfl (b7 (aG1 (s:={ s with heap:=h2 }) C λh3 i l=>b7 (bF5 (d8 ?_)))));replace i:h3.get? TO=some (kI x b):=i;refine b7 (b7 (bEL ?_));refine b7 (m:=Builtin.SmallTypes.nextOf (.ref i2)) (wO (s:={ s with heap:=h3 }) (l.extBut _ _ D.h9.symm (j.extBut _ _ D.h10.symm (h.extBut _ _ D.h4 g2))) (((hu.extBut h.extBut u1).extBut j.extBut u3).extBut l.extBut u2) hy λX N B=>d8 ?_);have p:X.get? TO=some (kI x b):=B.extBut _ _ D.h9 i;refine b7 (bBG p rfl (b7 (aG1 (s:={ s with heap:=X }) p λd f r=>b7 (bF5 (d8 (d8 ?_))))));replace f:d.get? TO=some (kI x y):=f;refine b7 (bBG f rfl (b7 (bFZ ?_)));have v:d.objs.size=s.heap.objs.size:=by rw[r.1,B.1,l.1,j.1,h.1]
 have W:d.get? z=some (uX .ellipsis TI TO):=r.extBut _ _ D.h2.symm (B.extBut _ _ D.h4.symm (l.extBut _ _ D.h2.symm (j.extBut _ _ D.h3.symm P)));have kp:∀c o,c≠z->c≠TO->c≠Y->c≠i2->s.heap.get? c=some o->d.get? c=some o:=λc o g G S M e=>r.extBut _ _ G (B.extBut _ _ M (l.extBut _ _ G (j.extBut _ _ S (h.extBut _ _ g e))));have O:d.get? Y=some (itO L t (k+1)):=r.extBut _ _ D.h8.symm (B.extBut _ _ D.h10 (l.extBut _ _ D.h8.symm K));have T:d.get? i2=some (itO L u (k+1)):=r.extBut _ _ D.h9.symm N;refine b7 (m:=Builtin.SmallTypes.ownedTupleHandOut (.ref z) (.ref d.objs.size)) ?_;unfold Builtin.SmallTypes.ownedTupleHandOut;have z6:(d.push (kI x y)).get? z=some (uX .ellipsis TI TO):=d7 _ W;refine b7 (bAQ z6 (by simp) λh7 R U=>?_);replace R:h7.get? z=some (uX (rawInt d.objs.size) TI TO):=R;refine bAQ R (by simp) λH J s8=>?_;replace J:H.get? z=some (uX (rawInt d.objs.size) TI TO):=J;have I:∀c o,c≠z->d.get? c=some o->H.get? c=some o:=λc o g e=>s8.extBut _ _ g (U.extBut _ _ g (d7 _ e));have nz:d.objs.size≠z:=bCP (m9 W);have T8:H.get? d.objs.size=some (kI x y):=s8.extBut _ _ nz (U.extBut _ _ nz (j8 _ rfl));rw[v] at J T8;refine d8 ⟨_,rfl,d8 ?_⟩;show Q (some (.ref d.objs.size)) _;rw[v];exact q H J (I _ _ D.h2 f) (I _ _ D.h3 O) (I _ _ D.h4 T) T8 λc o g G S M e=>I c o g (kp c o g G S M e)
theorem aVa (W:A.handled=none)(D:vZ z TI TO i1 i2)
  (g:s.heap.get? z=some (uX .none TI TO)) (M:s.heap.get? TI=some (kI (.ref i1) (.ref i2))) (I:s.heap.get? TO=some (kI a b))
  (g1:s.heap.get? i1=some (itO L t k)) (g2:s.heap.get? i2=some (itO L u k)) (Z:s.heap.sV L t xs) (hu:s.heap.sV L u ys) (Y:xs[k]?=some x) (X:ys[k]?=none) (t1:t≠z) (V:u≠z) (u2:u≠TO) (T:u≠i1)
  (q:∀h',(∀c o,c≠z->c≠TO->c≠i1->c≠i2->s.heap.get? c=some o->h'.get? c=some o)->Q none { s with heap:=h' }) :
  wpAny (model prog w) A (pyNext (.ref z)) Q E s:=by
 have v:s.TypeIs (.ref z) "zip":=⟨_,g,rfl⟩;unfold pyNext;refine b7 (bCA (bAK v F.slot_zip_next (bAL F.slot_zip_next v F.entry_zip_next ?_ (F.args_zip_next_1 _))));refine b7 (m:=field (.ref z) 2) (bAN g rfl (x:=.bool false) rfl ?_);refine b7 (bAN g rfl rfl (b7 (bBG M rfl ?_)));refine b7 ?_;unfold Builtin.SmallTypes.ownedTupleIsFree;refine b7 (bAN g rfl rfl (d8 ?_));simp only[if_true];refine b7 (bEB (b7 (bAN g rfl rfl (b7 (bAQ g (by simp) λO r f=>?_)))));replace r:O.get? z=some (uX .ellipsis TI TO):=r;refine b7 ?_;simp only[List.zipIdx_cons,List.zipIdx_nil,bDR,bFY];refine b7 (b7 (bEL ?_));refine b7 (wO (f.extBut _ _ D.h3 g1) (Z.extBut f.extBut t1) Y λh2 H h=>d8 ?_);have l:=h.extBut _ _ D.h8 (f.extBut _ _ D.h2 I);refine b7 (bBG l rfl (b7 (aG1 l λP j n=>b7 (bF5 (d8 ?_)))));replace j:P.get? TO=some (kI x b):=j;refine b7 (b7 (bEL ?_));refine b7 (rD W (n.extBut _ _ D.h9.symm (h.extBut _ _ D.h10.symm (f.extBut _ _ D.h4 g2))) (((hu.extBut f.extBut V).extBut h.extBut T).extBut n.extBut u2) X λU e C N=>?_);obtain⟨R,d,i⟩:=N;have B:=C _ _ D.h4.symm (n.extBut _ _ D.h2.symm (h.extBut _ _ D.h3.symm r));have p:e≠z:=λx=>by subst x;rw[B] at d;cases d;simp at i
 refine bAQ B (by simp) λh5 _ y=>?_;refine b7 (bDG ⟨R,y.extBut _ _ p d,i⟩ isSubtype_stop ?_);exact d8 (q _ λc o G J S K x=>y.extBut _ _ G (C _ _ K (n.extBut _ _ J (h.extBut _ _ S (f.extBut _ _ G x)))))
def aEc (I:A.handled=none)(D:vZ z TI TO i1 i2)
  (f:s.heap.get? z=some (uX .none TI TO)) (v:s.heap.get? TI=some (kI (.ref i1) (.ref i2))) (hTO:s.heap.get? TO=some (kI a b))
  (H:s.heap.get? i1=some (itO L t k)) (N:s.heap.sV L t xs) (M:xs[k]?=none) (J:t≠z)
  (q:∀h',(∀c o,c≠z->c≠TO->c≠i1->c≠i2->s.heap.get? c=some o->h'.get? c=some o)->Q none { s with heap:=h' }) :
  wpAny (model prog w) A (pyNext (.ref z)) Q E s:=by
 have l:s.TypeIs (.ref z) "zip":=⟨_,f,rfl⟩;unfold pyNext;refine b7 (bCA (bAK l F.slot_zip_next (bAL F.slot_zip_next l F.entry_zip_next ?_ (F.args_zip_next_1 _))));refine b7 (m:=field (.ref z) 2) (bAN f rfl (x:=.bool false) rfl ?_);refine b7 (bAN f rfl rfl (b7 (bBG v rfl ?_)));refine b7 ?_;unfold Builtin.SmallTypes.ownedTupleIsFree;refine b7 (bAN f rfl rfl (d8 ?_));simp only[if_true];refine b7 (bEB (b7 (bAN f rfl rfl (b7 (bAQ f (by simp) λG j i=>?_)))));replace j:G.get? z=some (uX .ellipsis TI TO):=j;refine b7 ?_;simp only[List.zipIdx_cons,List.zipIdx_nil,bDR,bFY];refine b7 (b7 (bEL ?_));refine b7 (rD I (i.extBut _ _ D.h3 H) (N.extBut i.extBut J) M λK e u C=>?_);obtain⟨y,d,g⟩:=C;have n:=u _ _ D.h3.symm j;have h:e≠z:=λx=>by subst x;rw[n] at d;cases d;simp at g
 refine bAQ n (by simp) λO _ p=>?_;refine b7 (bDG ⟨y,p.extBut _ _ h d,g⟩ isSubtype_stop ?_);exact d8 (q _ λc o r _ B _ x=>p.extBut _ _ r (u _ _ B (i.extBut _ _ r x)))
abbrev zT1 (L:Bool)(h:Heap)(t:Addr):Heap:=h.push (itO L t 0)
abbrev zT2 (L:Bool)(h:Heap)(t u:Addr):Heap:=(zT1 L h t).push (itO L u 0)
abbrev zT3 (L:Bool)(h:Heap)(t u:Addr):Heap:=(zT2 L h t u).push (kI (.ref h.objs.size) (.ref (zT1 L h t).objs.size))
abbrev zT4 (L:Bool)(h:Heap)(t u:Addr):Heap:=(zT3 L h t u).push (kI .none .none)
abbrev zT5 (L:Bool)(h:Heap)(t u:Addr):Heap:=(zT4 L h t u).push (uX .none (zT2 L h t u).objs.size (zT3 L h t u).objs.size)
def aMu (L:Bool)(t u:Addr)(xs ys:Array Value):Meets (Builtin.«zip.__new__» ⟨[.type "zip",.ref t,.ref u],[]⟩)
  (λ_ R s=>s.heap.sV L t xs/\s.heap.sV L u ys/\R (.ok (.ret (.ref (zT4 L s.heap t u).objs.size))) { s with heap:=zT5 L s.heap t u }):=
 .of_wp λk w A R s h=>by
  obtain⟨a,g,d,b,c⟩:=s;obtain⟨j,m,h⟩:=h;have l:=sub_zip;cases L
  ·have i:Heap.IsTuple (Shared.heap ⟨a,g,d,b,c⟩) t xs:=j;have e:Heap.IsTuple (Shared.heap ⟨a.push { cls:=.type "tuple_iterator",data:=.fields #[.ref t,.int 0 0] },g,d,b,c⟩) u ys:=by obtain⟨o,f,r⟩:=m;exact⟨o,d7 _ f,r⟩
   wp_walk using bEP i,bEP e;exact⟨_,rfl,h⟩
  ·have i:Heap.IsList (Shared.heap ⟨a,g,d,b,c⟩) t xs:=j;have e:Heap.IsList (Shared.heap ⟨a.push { cls:=.type "list_iterator",data:=.fields #[.ref t,.int 0 0] },g,d,b,c⟩) u ys:=by obtain⟨o,f,r⟩:=m;exact⟨o,d7 _ f,r⟩
   wp_walk using bCR i,bCR e;exact⟨_,rfl,h⟩
def aRk (b:s.heap.sV L t xs)(c:s.heap.sV L u ys)(q:Q (.ref (zT4 L s.heap t u).objs.size) { s with heap:=zT5 L s.heap t u }) :
  wpAny (model prog w) A (call (.type "zip") [.ref t,.ref u]) Q E s:=by
 refine callType_new F.called_zip (by decide) (F.typeCall_zip_2 _ _) (F.newCall_zip_2 _ _) (λa=>F.args_object_init_3 a _ _) F.entry_zip_new (aMu L t u xs ys) ⟨b,c,?_⟩;exact⟨⟨_,j8 _ rfl,rfl⟩,q⟩
end PySem
namespace L2
open PySem PySem.Spec PyProof.Rows
def Inv.tup_ne (I:Inv X bGD σ H s)(h:SqT X.K H t xs)(f:qU X bGD H b):t≠b:=by
 rintro rfl;obtain⟨a,i,j,c,_⟩:=f;rcases h with (h|⟨o,h⟩)|⟨o,d,n,g,_⟩
 ·rw[a] at h;cases h
 ·rw[a] at h;cases h
 ·have e:=I.ok.mod.kin t o g;rcases c with z|z
  ·exact I.ok.noex t o e z
  ·exact absurd (bAA (m9 e) (bAE I.ok.bsz z)) (bBQ _)
def Inv.bBs (I:Inv X bGD σ H s)(h:SqL X.K H t xs)(f:qU X bGD H b):t≠b:=by
 rintro rfl;obtain⟨a,i,j,c,_⟩:=f;rcases h with (h|⟨o,h⟩)|⟨o,d,n,g,_⟩
 ·rw[a] at h;cases h
 ·rw[a] at h;cases h
 ·have e:=I.ok.mod.kin t o g;rcases c with z|z
  ·exact I.ok.noex t o e z
  ·exact absurd (bAA (m9 e) (bAE I.ok.bsz z)) (bBQ _)
def SqB (K:bF9):Bool->Hp->Addr->List V->Prop
 |true=>SqL K
 |false=>SqT K
def Inv.sq (I:Inv X bGD σ H s)(h:SqB X.K L H t xs):∃its:List Value,Vals xs its/\s.heap.sV L t its.toArray:=by
 cases L
 ·obtain⟨its,a,b,_⟩:=I.tuple h;exact⟨its,a,b⟩
 ·obtain⟨its,a,b,_⟩:=I.list h;exact⟨its,a,b.isList⟩
def Inv.lB (I:Inv X bGD σ H s)(h:SqB X.K L H t xs)(f:qU X bGD H b):t≠b:=by
 cases L
 ·exact I.tup_ne h f
 ·exact I.bBs h f
def Inv.drawn {ch:List Addr}{h':Heap}{vs:List V}{its:List Value}{T:Addr}(I:Inv X bGD σ H s)(g:∀b∈ch,qU X bGD H b)(i:∀b o,b∉ch->s.heap.get? b=some o->h'.get? b=some o)
  (t:s.heap.objs.size<=T) (E:Vals vs its) (F:vs.length<=sizeLine) (ho:yJ h' T its.toArray) (hth:∀b∈ch,∃o,h'.get? b=some o):Inv X bGD σ (upd H T (.tup vs)) { s with heap:=h' }:=by
 have d:=I.hok.fresh t;have x:∀b o,s.heap.get? b=some o->b≠T:=λb o e=>v7 (bAA (m9 e) t);have f:∀b u,H b=some u->b∉ch:=λb u e z=>by rw[(g b z).1] at e;cases e
 refine I.step (g':=s.gens) (d':=s.drawn) (t':=s.toks) (λb h=>?_) (λb o _ _ a e _=>i b o a e) (λb o _ _ a e _=>⟨o.slots,i b o a e⟩) (λb o a e n=>by rw[aM (x b o e)];exact n)
  (λb o a e=>⟨o,i b o a e⟩) (λb w e=>by rw[aM (aW e d)];exact e) (λb o u e=>by rw[aM (aW e d)];exact e) (λb G e=>⟨#[],by rw[aM (aW e d),e];simp⟩) (λm l=>?_) (λb u e=>?_) I.bare
 ·obtain⟨_,C,_,p,D,A⟩:=g b h;exact⟨p,C,D,A⟩
 ·obtain⟨o,B,y,j,r⟩:=l;exact⟨o,B,y,i _ o (λz=>(g _ z).2.1 rfl) j,r⟩
 ·by_cases h:b=T
  ·subst h;rw[aG] at e;cases e;exact⟨F,its,E,ho⟩
  ·rw[aM h] at e;refine (I.hok b u e).stay (λc v k q=>i c v ?_ q) (λc q=>by rw[aM (aW q d)];exact q) λc w q=>by rw[aM (aW q d)];exact q
   rcases k with z|z
   ·rw[z];exact f b u e
   ·exact f c _ z
def Inv.aOq {ch:List Addr}{h':Heap}(I:Inv X bGD σ H s)(f:∀b∈ch,qU X bGD H b)(g:∀b o,b∉ch->s.heap.get? b=some o->h'.get? b=some o):Inv X bGD σ H { s with heap:=h' }:=by
 have d:∀b u,H b=some u->b∉ch:=λb u e z=>by rw[(f b z).1] at e;cases e
 refine I.step (g':=s.gens) (d':=s.drawn) (t':=s.toks) (λb t=>?_) (λb o _ _ a e _=>g b o a e) (λb o _ _ a e _=>⟨o.slots,g b o a e⟩) (λ_ _ _ _ n=>n)
  (λb o a e=>⟨o,g b o a e⟩) (λ_ _ e=>e) (λ_ _ _ e=>e) (λb A e=>⟨#[],by rw[e];simp⟩) (λm j=>?_) (λb u e=>?_) I.bare
 ·obtain⟨_,x,_,k,y,p⟩:=f b t;exact⟨k,x,y,p⟩
 ·obtain⟨o,w,l,h,r⟩:=j;exact⟨o,w,l,g _ o (λz=>(f _ z).2.1 rfl) h,r⟩
 ·refine (I.hok b u e).stay (λc v i q=>g c v ?_ q) (λ_ q=>q) λ_ _ q=>q;rcases i with z|z
  ·rw[z];exact d b u e
  ·exact d c _ z
def ItB (K:bF9)(L:Bool)(t u:Addr)(xs ys:List V):It:=
 ⟨λi H=>SqB K L H t xs/\SqB K L H u ys/\i<xs.length/\i<ys.length,λi H v H'=>∃T a b,H T=none/\v=.ref T/\H'=upd H T (.tup [a,b])/\xs[i]?=some a/\ys[i]?=some b,λi H=>(SqB K L H t xs/\xs.length<=i)\/(SqB K L H t xs/\SqB K L H u ys/\i=ys.length/\ys.length<=xs.length)⟩
def ztn (L:Bool)(z TI TO i1 i2 t u:Addr)(i:Nat)(h:Heap):Prop:=
 h.get? z=some (uX .none TI TO)/\h.get? TI=some (kI (.ref i1) (.ref i2))/\(∃a b,h.get? TO=some (kI a b))/\h.get? i1=some (itO L t i)/\h.get? i2=some (itO L u i)
def Itz (K:bF9)(t u:Addr)(xs ys:List V):It:=
 ⟨λi H=>SqT K H t xs/\SqT K H u ys/\i<xs.length/\i<ys.length,λi H v H'=>∃T a b,H T=none/\v=.ref T/\H'=upd H T (.tup [a,b])/\xs[i]?=some a/\ys[i]?=some b,λi H=>SqT K H t xs/\xs.length<=i⟩
def aC6 {P:Program}{w:World}{K:bF9}{elts:List Expr}{kt:Nat}{pos:Pos}{L:Bool}{z TI TO J O t u:Addr}{xs ys:List V}(D:vZ z TI TO J O) :
  Turn P w K (.Tuple elts kt pos) (ItB K L t u xs ys) [z,TI,TO,J,O] z (ztn L z TI TO J O t u) where
 mem:=by simp
 obj:=λi h A b d=>by
  obtain⟨r,l,⟨a,c,m⟩,n,C⟩:=A;simp only[bAC,z9,or_false] at d;rcases d with rfl|rfl|rfl|rfl|rfl
  ·exact⟨_,r,λv z=>by cases (show Data.fields _=Data.cell v from z)⟩
  ·exact⟨_,l,λv z=>by cases (show Data.seq _ _=Data.cell v from z)⟩
  ·exact⟨_,m,λv z=>by cases (show Data.seq _ _=Data.cell v from z)⟩
  ·exact⟨_,n,λv z=>by cases L <;> cases (show Data.fields _=Data.cell v from z)⟩
  ·exact⟨_,C,λv z=>by cases L <;> cases (show Data.fields _=Data.cell v from z)⟩
 keep:=λi h f A k=>by obtain⟨r,l,⟨a,c,m⟩,n,C⟩:=A;exact⟨k z (by simp) _ r,k TI (by simp) _ l,⟨a,c,k TO (by simp) _ m⟩,k J (by simp) _ n,k O (by simp) _ C⟩
 item:=by
  intro X hP Y hK U i B s σ H E I j A hg;subst hP Y hK;obtain⟨r,l,⟨a0,c0,m⟩,n,C⟩:=A;obtain⟨g,q,l1,l2⟩:=hg;obtain⟨its,R,M⟩:=I.sq g;obtain⟨a6,G,pu⟩:=I.sq q;obtain⟨x,T,rx⟩:=R.get (b8 l1);obtain⟨y,hy,ry⟩:=G.get (b8 l2);have F:=j z (by simp);have W:=j TO (by simp);have S:=j J (by simp);have f2:=j O (by simp);refine aQ6 D r l m n C M pu (by simpa using T) (by simpa using hy) (I.lB g F) (I.lB g W) (I.lB g S) (I.lB g f2)
   (I.lB q F) (I.lB q W) (I.lB q S) (I.lB q f2) λf a1 a2 a3 a4 a5 p=>?_
  refine⟨_,rfl,?_⟩;have fT:H s.heap.objs.size=none:=I.hok.fresh (j0 _);have I1:Inv X B σ (upd H s.heap.objs.size (.tup [xs[i],ys[i]])) { s with heap:=f }:=by
   refine I.drawn (ch:=[z,TO,J,O]) (its:=[x,y]) (λb d=>?_) (λb o d e=>?_) (j0 _) (.cons rx (.cons ry .nil)) (small (by simp)) (.of a5 rfl ⟨_,a5,rfl,_,rfl⟩) (λb d=>?_)
   ·refine j b ?_;simp only[bAC,z9,or_false] at d ⊢;rcases d with h|h|h|h <;> simp[h]
   ·simp only[bAC,z9,or_false,not_or] at d;exact p b o d.1 d.2.1 d.2.2.1 d.2.2.2 e
   ·simp only[bAC,z9,or_false] at d;rcases d with rfl|rfl|rfl|rfl
    ·exact⟨_,a1⟩
    ·exact⟨_,a2⟩
    ·exact⟨_,a3⟩
    ·exact⟨_,a4⟩
  have nT:∀b∈[z,TI,TO,J,O],b≠s.heap.objs.size:=λb d=>by
   have e:∃o,s.heap.get? b=some o:=by
    simp only[bAC,z9,or_false] at d;rcases d with rfl|rfl|rfl|rfl|rfl
    ·exact⟨_,r⟩
    ·exact⟨_,l⟩
    ·exact⟨_,m⟩
    ·exact⟨_,n⟩
    ·exact⟨_,C⟩
   obtain⟨o,e⟩:=e;exact v7 (m9 e)
  refine wpAny_letOwnedTupleGo_zip (s:={ s with heap:=f }) a1 λh2 z2 N=>?_;obtain⟨g0,g1,g2,g3,g4,g5⟩:=F;have I2:Inv X B σ (upd H s.heap.objs.size (.tup [xs[i],ys[i]])) { s with heap:=h2 }:=Inv.turned (s:={ s with heap:=f }) I1 (t':=s.toks) (it:=z) (λb o d e=>(N.2 b d).trans e) (by rw[aM (nT z (by simp))];exact g0) g1 g3 g4 g5;refine⟨.ref s.heap.objs.size,_,I2,rfl,⟨_,_,_,fT,rfl,rfl,b8 l1,b8 l2⟩,?_,λb d=>by rw[aM (nT b d)];exact (j b d).1⟩;exact⟨z2,N.extBut _ _ D.h1 (p TI _ D.h1 D.h5 D.h6 D.h7 l),⟨_,_,N.extBut _ _ D.h2 a2⟩,N.extBut _ _ D.h3 a3,N.extBut _ _ D.h4 a4⟩
 done:=by
  intro X hP Y hK U i B s σ H E I j A hg;subst hP Y hK;obtain⟨r,l,⟨a0,c0,m⟩,n,C⟩:=A;have F:=j z (by simp);have W:=j TO (by simp);have S:=j J (by simp);refine (λ(go:∀f,(∀c o,c≠z->c≠TO->c≠J->c≠O->s.heap.get? c=some o->f.get? c=some o)->_)=>?_:_->_) (λf p=>(⟨rfl,?_⟩:(none:Option Value)=none/\Inv X B σ H { s with heap:=f }))
  ·rcases hg with⟨g,hl⟩|⟨g,q,hl,hle⟩
   ·obtain⟨its,R,M⟩:=I.sq g;have Q:=R.length;exact aEc (I.ok.hd U) D r l m n M (by simp;lia) (I.lB g F) λf p=>go f p
   ·obtain⟨its,R,M⟩:=I.sq g;obtain⟨a6,G,pu⟩:=I.sq q;have Q:=R.length;have Z:=G.length;cases T:its[i]? with
    |none=>exact aEc (I.ok.hd U) D r l m n M (by simpa using T) (I.lB g F) λf p=>go f p
    |some x=>exact aVa (I.ok.hd U) D r l m n C M pu (by simpa using T) (by simp;lia) (I.lB g F) (I.lB q F) (I.lB q W) (I.lB q S) λf p=>go f p
  refine Inv.aOq (ch:=[z,TO,J,O]) I (λb d=>j b ?_) λb o d e=>?_
  ·simp only[bAC,z9,or_false] at d ⊢;rcases d with h|h|h|h <;> simp[h]
  ·simp only[bAC,z9,or_false,not_or] at d;exact p b o d.1 d.2.1 d.2.2.1 d.2.2.2 e
 self:=λ_ _ _ _ _ A h=>wpAny_pyIter_zip A.1 h
def aRr (K:bF9)(ta:TA):TI:=fun σ H R=>ta σ H λvs H1=>∃t u xs ys,vs=[.ref t,.ref u]/\SqT K H1 t xs/\SqT K H1 u ys/\R (Itz K t u xs ys) H1
def aO8 (L:Bool){J:Addr->Addr->List V->List V->It}{elts:List Expr}{kt:Nat}{tp:Pos}{a b:Expr}{ta:TA}{p pos:Pos}(T:∀{z TI TO i1 i2 t u xs ys},vZ z TI TO i1 i2->Turn X.prog X.w X.K (.Tuple elts kt tp) (J t u xs ys) [z,TI,TO,i1,i2] z (ztn L z TI TO i1 i2 t u))(Y:Gl X "zip")(hm:X.mg "zip"=none)(Z:PA X [a,b] ta)(W:starEach [a,b] X.env=(false,eval a X.env)::starEach [b] X.env:=by rfl)
  (Q:starEach [b] X.env=[(false,eval b X.env)]:=by rfl):PI X (.Tuple elts kt tp) (.Call (.Name "zip" p) [a,b] [] pos) (fun σ H R=>ta σ H λvs H1=>∃t u xs ys,vs=[.ref t,.ref u]/\SqB X.K L H1 t xs/\SqB X.K L H1 u ys/\R (J t u xs ys) H1):=by
 intro g s σ H R I h;refine Call_ (pW I Y hm bBt (bCG (thn (Z pos g s σ H _ I h) λU c ⟨vs,H1,f,A,M⟩=>?_) W (by rw[Q];rfl)));obtain⟨t,u,xs,ys,e,E,N,q⟩:=M;subst e;obtain⟨S,rv,y⟩:=f.sq E;obtain⟨F,O,B⟩:=f.sq N;cases A with
 |cons r rr=>
  cases rr with
  |cons r' rr'=>
   cases rr';cases r;cases r';refine aRk y B ?_;have i:(zT1 L c.heap t).objs.size=c.heap.objs.size+1:=bBP ..;have j:(zT2 L c.heap t u).objs.size=c.heap.objs.size+2:=by rw[bBP,i]
   have k:(zT3 L c.heap t u).objs.size=c.heap.objs.size+3:=by rw[bBP,j]
   have m:(zT4 L c.heap t u).objs.size=c.heap.objs.size+4:=by rw[bBP,k]
   have D:vZ (zT4 L c.heap t u).objs.size (zT2 L c.heap t u).objs.size (zT3 L c.heap t u).objs.size c.heap.objs.size (zT1 L c.heap t).objs.size:=by constructor <;> (show (_:Nat)≠(_:Nat);rw[Ne];intro h;simp only[i,j,k,m] at h;lia)
   have l:(zT5 L c.heap t u).get? (zT4 L c.heap t u).objs.size=some (uX .none (zT2 L c.heap t u).objs.size (zT3 L c.heap t u).objs.size):=j8 _ rfl;have x:(zT5 L c.heap t u).get? (zT3 L c.heap t u).objs.size=some (kI .none .none):=d7 _ (j8 _ rfl);have v:(zT5 L c.heap t u).get? (zT2 L c.heap t u).objs.size=some (kI (.ref c.heap.objs.size) (.ref (zT1 L c.heap t).objs.size)):=d7 _ (d7 _ (j8 _ rfl));have P:(zT5 L c.heap t u).get? (zT1 L c.heap t).objs.size=some (itO L u 0):=d7 _ (d7 _ (d7 _ (j8 _ (by cases L <;> rfl))));have G:(zT5 L c.heap t u).get? c.heap.objs.size=some (itO L t 0):=d7 _ (d7 _ (d7 _ (d7 _ (j8 _ (by cases L <;> rfl)))));have C:Inv X g σ H1 { c with heap:=zT5 L c.heap t u }:=f.kept (t':=c.toks) λb o e=>d7 _ (d7 _ (d7 _ (d7 _ (d7 _ e))));refine wpAny_pyIter_zip (s:={ c with heap:=zT5 L c.heap t u }) l ⟨_,_,_,_,H1,rfl,C,T D,⟨l,v,⟨_,_,x⟩,G,P⟩,λb n=>?_,q⟩;have d:c.heap.objs.size<=b:=by
    simp only[bAC,z9,or_false] at n;rcases n with rfl|rfl|rfl|rfl|rfl
    ·rw[m];exact bDH ..
    ·rw[j];exact bDH ..
    ·rw[k];exact bDH ..
    ·exact j0 _
    ·rw[i];exact bDH ..
   exact f.aIr d (f.hok.fresh d)
def aXd (d:Gl X "zip")(m:X.mg "zip"=none)(o:PA X [a,b] ta)(n:starEach [a,b] X.env=(false,eval a X.env)::starEach [b] X.env:=by rfl)
  (h:starEach [b] X.env=[(false,eval b X.env)]:=by rfl):PI X (.Tuple elts kt tp) (.Call (.Name "zip" p) [a,b] [] pos) (aRr X.K ta):=
 aO8 false (J:=Itz X.K) (λD=>let T:=aC6 (L:=false) D;⟨T.mem,T.obj,T.keep,T.item,λX e k l f i c s σ H E I j g d=>T.done X e k l f i c s σ H E I j g (.inl d),T.self⟩) d m o n h
inductive Tk (K:bF9)(H:Hp):V->Bool->Prop
 |int {i}:Tk K H (.int i) false
 |str {x}:Tk K H (.str x) false
 |bl {b}:Tk K H (.bl b) false
 |non:Tk K H .non false
 |lst {a xs}:SqL K H a xs->Tk K H (.ref a) false
 |dct {a kvs}:H a=some (.dK kvs)->Tk K H (.ref a) false
 |tup {a xs}:SqT K H a xs->Tk K H (.ref a) true
def bC6 (K:bF9):List V->Hp->VK->Prop:=λxs H Q=>∃x b,xs=[x,.ty "tuple"]/\Tk K H x b/\Q (.bl b) H
def iD:cA X (.builtin "isinstance") (bC6 X.K):=by
 intro f s σ H y w Q I r h;obtain⟨x,b,rfl,k,q⟩:=h;obtain⟨u,v,rfl,a,p⟩:=r.two;cases p;have i:EP X f σ Q (.bool b) s:=⟨.bl _,H,I,rfl,q⟩;have d:EP X f σ Q (.bool b) { s with toks:=s.toks+1 }:=⟨.bl _,H,I.tok _,rfl,q⟩;cases k with
 |int=>obtain⟨t,rfl⟩:=a;exact IsiPair.int_tuple d
 |str=>obtain⟨t,rfl⟩:=a;exact IsiPair.str_tuple d
 |bl=>cases a;exact IsiPair.bool_tuple d
 |non=>cases a;exact IsiPair.NoneType_tuple d
 |lst hq=>cases a;obtain⟨g,l,⟨o,n,e,c,_⟩,j⟩:=I.list hq;exact IsiPair.list_tuple e c d
 |dct hq=>cases a;obtain⟨_,_,_,_,o,_,_,e,m,_⟩:=I.hok _ _ hq;exact IsiPair.dict_tuple e m.1 d
 |tup hq=>cases a;obtain⟨g,l,⟨o,e,c,_⟩,j⟩:=I.tuple hq;exact IsiPair.tuple_tuple e c i
def jM {σ0:St}{j:Nat}(c:σ0[j]?=some none):σ0=σ0.set j none:=by
 refine (bCS λi=>?_);rw[List.getElem?_set]
 split
 ·rename_i a;subst a
  split
  ·exact c
  ·rename_i b;exact List.getElem?_eq_none_iff.mpr (by lia)
 ·rfl
def aD3 (xs:List V)(f:V->V)(k:St)(n:Cap X scope N σ k)(hsz:xs.length<=sizeLine)
  (u:∀R:It->Hp->Prop,(∀J:It,(∀H' i x,Same H H'->xs[i]?=some x->J.go i H'/\∀y H2,J.yld i H' y H2->H2=H'/\y=x)->(∀H',Same H H'->J.stop xs.length H')->R J H)->wi σ H R)
  (v:∀x∈xs,∀H' R l,Same H H'->(∀H2,Same H' H2->R (f x) H2)->te ((k.set 0 l).set 0 (some x)) H' R) (s:k[0]?=some none)
  (q:∀D H',Same H H'->H' D=some (.lst (xs.map f))->Q (.ref D) H') :
  jE X scope N wi (bF 0) kO te σ H Q:=by
 refine⟨k,n,u _ λJ go stop D d=>?_⟩;refine⟨λi m g H' c=>i<=xs.length/\m=xs.length - i/\(∃l,g=k.set 0 l)/\Same H H'/\H' D=some (.lst c)/\c=(xs.take i).map f,⟨xs.length,bAF _,rfl,⟨none,jM s⟩,aO d _,aG,rfl⟩,?_⟩;rintro i m g H' c ⟨hi,rfl,⟨l,rfl⟩,sm,hL,rfl⟩;refine⟨hL,?_⟩;by_cases a:i<xs.length
 ·right;obtain⟨j,p⟩:=go H' i xs[i] sm (b8 a);refine⟨j,λx H2 r=>?_⟩;obtain⟨rfl,rfl⟩:=p x H2 r;unfold bF kO;dsimp only;rw[if_pos rfl];refine v xs[i] (bAU a) _ _ l sm λt h=>⟨h _ _ hL,?_,xs.length - (i+1),by lia,a,rfl,⟨some xs[i],?_⟩,?_,aG,?_⟩
  ·rw[j7,bAR];lia
  ·rw[bCK]
  ·intro b o e;rw[aM (aW e d)];exact h _ _ (sm _ _ e)
  ·rw[bBW,b8 a,bAY];rfl
 ·left;have e:i=xs.length:=by lia
  subst e;refine⟨stop _ sm,?_⟩;rw[bED] at hL;exact q D _ sm hL
def aL3 {K:bF9}{a:Addr}{xs:List V}{tl:TE}(b:SqT K H a xs)(h:∀R:VK,R (.ref a) H->tl σ H R)(R:It->Hp->Prop)
  (q:∀J:It,(∀H' i x,Same H H'->xs[i]?=some x->J.go i H'/\∀y H2,J.yld i H' y H2->H2=H'/\y=x)->(∀H',Same H H'->J.stop xs.length H')->R J H):aWu K tl σ H R:=by
 refine h _ ⟨a,rfl,⟨xs,b⟩,q _ (λH' i x s e=>⟨⟨xs,x,s.bC b,e⟩,λy H2 g=>?_⟩) λH' s=>⟨xs,s.bC b,j0 _⟩⟩;obtain⟨d,f⟩:=g;have c:=f xs (s.bC b);rw[e] at c;cases c;exact⟨d,rfl⟩
section
variable {κ:Type}[DecidableEq κ]
def eO (kvs:List (κ × V))(k:κ):Option V:=(kvs.find? λkv=>decide (kv.1=k)).map (·.2)
def putK (kvs:List (κ × V))(k:κ)(v:V):List (κ × V):=
 if (kvs.any λkv=>decide (kv.1=k))=true then kvs.map (λkv=>if kv.1=k then (kv.1,v) else kv) else kvs++[(k,v)]
def jZ (kvs:List (κ × V))(k:κ):List (κ × V):=kvs.filter λkv=>decide (kv.1≠k)
def dM {p:κ × V}{r:List (κ × V)}{k:κ}(e:p.1=k):eO (p::r) k=some p.2:=by simp[eO,bCB,e]
def cO {p:κ × V}{r:List (κ × V)}{k:κ}(e:¬ p.1=k):eO (p::r) k=eO r k:=by simp[eO,bCB,e]
theorem mG (k:κ):∀kvs:List (κ × V),(kvs.any λkv=>decide (kv.1=k))=(eO kvs k).isSome
 |[]=>rfl
 |p::r=>by
  rw[bFL];by_cases e:p.1=k
  ·simp only[dM e,v4 e,Bool.true_or,Option.isSome_some]
  ·rw[cO e,v5 e,Bool.false_or];exact mG k r
theorem aJ8 (k j:κ)(y:V):∀kvs:List (κ × V),eO (kvs.map λkv=>if kv.1=k then (kv.1,y) else kv) j=(eO kvs j).map λx=>if j=k then y else x
 |[]=>rfl
 |p::r=>by
  have a:=aJ8 k j y r;rw[bAI];by_cases h:p.1=k
  ·rw[if_pos h];by_cases e:p.1=j
   ·rw[dM (p:=(p.1,y)) e,dM e,bDS,if_pos (e.symm.trans h)]
   ·rw[cO (p:=(p.1,y)) e,cO e,a]
  ·rw[if_neg h];by_cases e:p.1=j
   ·rw[dM e,dM e,bDS,if_neg (λz=>h (e.trans z))]
   ·rw[cO e,cO e,a]
theorem aDo (k j:κ)(y:V):∀kvs:List (κ × V),eO kvs k=none->eO (kvs++[(k,y)]) j=if j=k then some y else eO kvs j
 |[],_=>by
  by_cases e:k=j
  ·rw[if_pos e.symm];exact dM (p:=(k,y)) e
  ·rw[if_neg (λz=>e z.symm)];exact cO e
 |p::r,hn=>by
  rw[List.cons_append];have a:¬ p.1=k:=λz=>by rw[dM z] at hn;cases hn
  rw[cO a] at hn;have b:=aDo k j y r hn;by_cases e:p.1=j
  ·rw[dM e,dM e,if_neg (λz=>a (e.trans z))]
  ·rw[cO e,cO e,b]
def aH7 (b:List (κ × V))(k j:κ)(y:V):eO (putK b k y) j=if j=k then some y else eO b j:=by
 unfold putK;by_cases a:(b.any λc=>decide (c.1=k))=true
 ·rw[if_pos a,aJ8];rw[mG] at a;by_cases e:j=k
  ·obtain⟨x,d⟩:=Option.isSome_iff_exists.mp a;rw[if_pos e,e,d,bDS,if_pos rfl]
  ·rw[if_neg e];cases eO b j with
   |none=>rfl
   |some x=>rw[bDS,if_neg e]
 ·rw[if_neg a];refine aDo k j y b ?_;rw[mG] at a;cases q:eO b k with
  |none=>rfl
  |some x=>rw[q] at a;exact (a rfl).elim
def pD (kvs:List (κ × V))(k:κ)(v:V):(putK kvs k v).length<=kvs.length+1:=by
 unfold putK
 split
 ·rw[j7];lia
 ·rw[bAB,t6,bBV];lia
def aA2 {kvs:List (κ × V)}{k:κ}(v:V)(h:eO kvs k=none):putK kvs k v=kvs++[(k,v)]:=by unfold putK;rw[mG,h];exact if_neg (by decide)
def lX.mC (r:lX o u):o.isSome=u.isSome:=by
 cases o with
 |none=>cases u with
  |none=>rfl
  |some _=>exact (show False from r).elim
 |some _=>cases u with
  |none=>exact (show False from r).elim
  |some _=>rfl
def lX.getD (r:lX o u)(a:RelV d d'):RelV (o.getD d) (u.getD d'):=by
 cases o with
 |none=>cases u with
  |none=>exact a
  |some _=>exact (show False from r).elim
 |some _=>cases u with
  |none=>exact (show False from r).elim
  |some _=>exact r
def KV.val (r:KV kvs vs)(k:κ):lX (eO kvs k) (valueAt vs k):=by
 unfold KV at r
 induction r with
 |nil=>exact True.intro
 |@cons p q ps qs h t ih=>
  obtain⟨c,d⟩:=h;by_cases e:p.1=k
  ·have a:q.1=k:=c.symm.trans e;have b:valueAt (q::qs) k=some q.2:=by simp[valueAt,bCB,a]
   rw[dM e,b];exact d
  ·have a:¬ q.1=k:=λz=>e (c.trans z);have b:valueAt (q::qs) k=valueAt qs k:=by simp[valueAt,bCB,a]
   rw[cO e,b];exact ih
def KV.any (r:KV kvs vs)(k:κ):(kvs.any λkv=>decide (kv.1=k))=vs.any λkv=>decide (kv.1=k):=by
 unfold KV at r
 induction r with
 |nil=>rfl
 |cons h t ih=>rw[bFL,bFL,ih,h.1]
def KV.repl (r:KV kvs vs)(k:κ)(c:RelV y u) :
  KV (kvs.map λkv=>if kv.1=k then (kv.1,y) else kv) (vs.map λkv=>if kv.1=k then (kv.1,u) else kv):=by
 unfold KV at r ⊢
 induction r with
 |nil=>exact .nil
 |@cons p q ps qs h t ih=>
  rw[bAI,bAI];refine .cons ?_ ih;obtain⟨a,b⟩:=h;by_cases e:p.1=k
  ·rw[if_pos e,if_pos (a.symm.trans e)];exact⟨a,c⟩
  ·rw[if_neg e,if_neg (λz=>e (a.trans z))];exact⟨a,b⟩
def KV.put (r:KV kvs vs)(k:κ)(b:RelV y u):KV (putK kvs k y) (stored vs k u):=by
 unfold putK stored;rw[r.any k];by_cases e:(vs.any λa=>decide (a.1=k))=true
 ·rw[if_pos e,if_pos e];exact r.repl k b
 ·rw[if_neg e,if_neg e];exact Paired.snoc r ⟨rfl,b⟩
def KV.drop (r:KV kvs vs)(k:κ):KV (jZ kvs k) (without vs k):=by
 unfold KV at r ⊢;unfold jZ without
 induction r with
 |nil=>exact .nil
 |@cons p q ps qs h t ih=>
  obtain⟨c,d⟩:=h;rw[bEE,bEE];by_cases e:p.1=k
  ·have a:¬ decide (p.1≠k)=true:=by simp[e]
   have b:¬ decide (q.1≠k)=true:=by simp[c.symm.trans e]
   rw[if_neg a,if_neg b];exact ih
  ·have f:¬ q.1=k:=λz=>e (c.trans z);have a:decide (p.1≠k)=true:=by simp[e]
   have b:decide (q.1≠k)=true:=by simp[f]
   rw[if_pos a,if_pos b];exact .cons ⟨c,d⟩ ih
def KV.length {kvs:List (κ × V)}{vs:List (κ × Value)}(r:KV kvs vs):kvs.length=vs.length:=Paired.length r
def aHq (kvs:List (κ × V))(k:κ):(jZ kvs k).length<=kvs.length:=bDV _ _
end
def tX (r:RelV (kV k) u):(bU P w).is k u=true:=by
 cases k with
 |inl i=>obtain⟨t,e⟩:=(show ∃t,u=Value.int i t from r);subst e;exact aHd P w i t
 |inr x=>obtain⟨t,e⟩:=(show ∃t,u=Value.str x t from r);subst e;exact aJl P w x t
def bAg (e:kV a=kV b):a=b:=by
 cases a with
 |inl i=>cases b with
  |inl j=>have c:=e;injection c with c;rw[c]
  |inr y=>exact nomatch (show V.int i=V.str y from e)
 |inr x=>cases b with
  |inl j=>exact nomatch (show V.str x=V.int j from e)
  |inr y=>have c:=e;injection c with c;rw[c]
theorem aEe:∀{ks:List Key} {us:List Value},Vals (ks.map kV) us->ItemsAre (bU P w) ks us
 |[],_,r=>by rw[List.map_nil] at r;cases r;exact .nil
 |k::ks,_,r=>by
  rw[bAI] at r;cases r with
  |cons h t=>exact .cons (tX h) (aEe t)
abbrev KT (H:Hp):List (List Key × V)->List (List Key × Addr × Value)->Prop:=Paired λp q=>p.1=q.1/\H q.2.1=some (.tup (p.1.map kV))/\RelV p.2 q.2.2
def KT.val (r:KT H kvs xs)(k:List Key):lX (eO kvs k) ((atKey xs k).map (·.2)):=by
 induction r with
 |nil=>exact True.intro
 |@cons p q ps qs h t ih=>
  obtain⟨c,_,d⟩:=h;by_cases e:p.1=k
  ·have a:q.1=k:=c.symm.trans e;have b:atKey (q::qs) k=some q.2:=by simp[atKey,bCB,a]
   rw[dM e,b];exact d
  ·have a:¬ q.1=k:=λz=>e (c.trans z);have b:atKey (q::qs) k=atKey qs k:=by simp[atKey,bCB,a]
   rw[cO e,b];exact ih
def KT.repl (r:KT H kvs xs)(k:List Key)(d:RelV y u) :
  KT H (kvs.map λkv=>if kv.1=k then (kv.1,y) else kv) (xs.map (putAt k u)):=by
 induction r with
 |nil=>exact .nil
 |@cons p q ps qs h t ih=>
  rw[bAI,bAI];refine .cons ?_ ih;obtain⟨a,b,c⟩:=h;unfold putAt;by_cases e:p.1=k
  ·rw[if_pos e,if_pos (a.symm.trans e)];exact⟨a,b,d⟩
  ·rw[if_neg e,if_neg (λz=>e (a.trans z))];exact⟨a,b,c⟩
def KT.put (r:KT H kvs xs)(k:List Key)(d:H b=some (.tup (k.map kV)))(c:RelV y u) :
  KT H (putK kvs k y) (storedH xs k b u):=by
 have e:(kvs.any λa=>decide (a.1=k))=(atKey xs k).isSome:=by rw[mG,(r.val k).mC,bF6]
 unfold putK storedH;rw[e];by_cases q:(atKey xs k).isSome=true
 ·rw[if_pos q,if_pos q];exact r.repl k c
 ·rw[if_neg q,if_neg q];exact Paired.snoc r ⟨rfl,d,c⟩
def KT.keeps (r:KT H kvs xs)(a:∀b ys,H b=some (.tup ys)->H' b=some (.tup ys)):KT H' kvs xs:=
 Paired.bB3 r λ_ _ z=>⟨z.1,a _ _ z.2.1,z.2.2⟩
def aZk (b:HOk P w H h)(e:Rd H a u):cV P w H h a u:=e.ok b
def aAv (b:HOk P w H h)(e:Rd H a (.dK kvs)):kvs.length<=sizeLine/\(a == sysModules)=false/\∃vs,KV kvs vs/\h.DictOf (bU P w) a vs:=
 show cV P w H h a (.dK kvs) from aZk b e
def aAn (b:HOk P w H h)(e:H a=some (.dK kvs)):kvs.length<=sizeLine/\(a == sysModules)=false/\∃vs,KV kvs vs/\h.DictOf (bU P w) a vs:=aAv b (.inl e)
def vN (g:HOk P w H h)(e:H a=some (.tup (ks.map kV))):(tupleKind (bU P w)).is h ks a:=by obtain⟨_,b,r,⟨o,d,c,n,f⟩,_⟩:=(show cV P w H h a (.tup (ks.map kV)) from g a _ e);exact⟨o,b.toArray,n,d,c,f,by simpa using aEe r⟩
def aBt (c:HOk P w H h)(e:Rd H a (.dT kvs)):kvs.length<=sizeLine/\(a == sysModules)=false /\
  ∃xs,KT H kvs xs/\h.DictOfH (tupleKind (bU P w)) a xs:=by
 obtain⟨z,y,xs,r,o,g,f,k,i,n,d,j⟩:=(show cV P w H h a (.dT kvs) from aZk c e);refine⟨z,y,xs,r,o,g,f,k,i,n,d,λx hx=>?_,j⟩;have b:∀{l:List (List Key × V)} {m:List (List Key × Addr × Value)},KT H l m->∀x∈m,(tupleKind (bU P w)).is h x.1 x.2.1:=by
  intro l m q
  induction q with
  |nil=>intro x hx;exact nomatch hx
  |@cons p q ps qs hq t ih=>
   intro x hx;rcases List.mem_cons.mp hx with e|hx
   ·subst e;exact vN c (by rw[<-hq.1];exact hq.2.1)
   ·exact ih x hx
 exact b r x hx
def bD6 (b:HOk P w H h)(e:H a=some (.dT kvs)):kvs.length<=sizeLine/\(a == sysModules)=false /\
  ∃xs,KT H kvs xs/\h.DictOfH (tupleKind (bU P w)) a xs:=aBt b (.inl e)
def rZ (H:Hp)(a:Addr)(y:V)(r:Option V):Prop:=
 (∃kvs k,Rd H a (.dK kvs)/\y=kV k/\r=eO kvs k)\/∃kvs k b,Rd H a (.dT kvs)/\y=.ref b/\H b=some (.tup (k.map kV))/\r=eO kvs k
def aI9 (H:Hp)(a:Addr)(y v:V)(H':Hp):Prop:=
 (∃kvs k,H a=some (.dK kvs)/\y=kV k/\kvs.length<sizeLine/\H'=upd H a (.dK (putK kvs k v))) \/
 ∃kvs k b,H a=some (.dT kvs)/\y=.ref b/\H b=some (.tup (k.map kV))/\kvs.length<sizeLine/\H'=upd H a (.dT (putK kvs k v))
theorem rZ.k {H:Hp}{a:Addr}{b:List (Key × V)}{k:Key}(e:H a=some (.dK b)):rZ H a (kV k) (eO b k):=.inl ⟨b,k,.inl e,rfl,rfl⟩
theorem aI9.k {H:Hp}{a:Addr}{b:List (Key × V)}{k:Key}{v:V}(e:H a=some (.dK b))(c:b.length<sizeLine):aI9 H a (kV k) v (upd H a (.dK (putK b k v))):=.inl ⟨b,k,e,rfl,c,rfl⟩
def Inv.big (I:Inv X bGD σ H s):sysModules<s.heap.objs.size:=by have h:=(I.mod.glob.keeps I.bk).lt;exact bEY (by decide) h
def aP4 (r:A.units+1<cLine)(I:Inv X bGD σ H s)(g:rZ H a y (some v))(q:RelV y u)(h:∀w' s',Inv X bGD σ H s'->RelV v w'->Q w' s') :
  wpAny (model X.prog X.w) A (getItem (.ref a) u) Q E s:=by
 rcases g with⟨m,k,e,j,l⟩|⟨m,k,b,e,j,eb,l⟩
 ·subst j;obtain⟨z,hd,t,d,f⟩:=aAv I.hok e;obtain⟨w',n,c⟩:=lX.some_of (by rw[l];exact d.val k);exact wpAny_getItem_of (tX q) f.mapOf n (h w' _ (I.tok _) c)
 ·subst j;cases (show u=Value.ref b from q);obtain⟨z,hd,x,d,f⟩:=aBt I.hok e;obtain⟨w',n,c⟩:=lX.some_of (by rw[l];exact d.val k);obtain⟨p,o,i⟩:=Option.map_eq_some_iff.mp n;refine wpAny_getItem_heap (tupleKind_room_in1 r) (vN I.hok eb) f o ?_;rw[i];exact h w' _ (I.tok _) c
def bEq (n:A.units+1<cLine)(I:Inv X bGD σ H s)(g:rZ H a y o)(j:RelV y u)(h:∀s',Inv X bGD σ H s'->Q (.bool o.isSome) s') :
  wpAny (model X.prog X.w) A (compareOp .In u (.ref a)) Q E s:=by
 rcases g with⟨i,k,e,f,l⟩|⟨i,k,b,e,f,eb,l⟩
 ·subst f;obtain⟨z,hd,p,c,d⟩:=aAv I.hok e;refine wpAny_in_of (tX j) hd d.mapOf ?_;rw[<-(c.val k).mC,<-l];exact h _ (I.tok _)
 ·subst f;cases (show u=Value.ref b from j);obtain⟨z,hd,m,c,d⟩:=aBt I.hok e;refine wpAny_in_heap (tupleKind_room_in1 n) (vN I.hok eb) hd d ?_;have q:=(c.val k).mC;rw[bF6] at q;rw[<-q,<-l];exact h _ (I.tok _)
def aVn (n:A.units+1<cLine)(I:Inv X bGD σ H s)(g:rZ H a y o)(j:RelV y u)(h:∀s',Inv X bGD σ H s'->Q (.bool (!o.isSome)) s') :
  wpAny (model X.prog X.w) A (compareOp .NotIn u (.ref a)) Q E s:=by
 rcases g with⟨i,k,e,f,l⟩|⟨i,k,b,e,f,eb,l⟩
 ·subst f;obtain⟨z,hd,p,c,d⟩:=aAv I.hok e;refine wpAny_notIn_of (tX j) hd d.mapOf ?_;rw[<-(c.val k).mC,<-l];exact h _ (I.tok _)
 ·subst f;cases (show u=Value.ref b from j);obtain⟨z,hd,m,c,d⟩:=aBt I.hok e;refine wpAny_notIn_heap (tupleKind_room_in1 n) (vN I.hok eb) hd d ?_;have q:=(c.val k).mC;rw[bF6] at q;rw[<-q,<-l];exact h _ (I.tok _)
def yS (I:Inv X bGD σ H s)(e:Mut (H a))(g:Heap.SameBut a s.heap h')(f:∃q,h'.get? a=some q)(c:cV X.prog X.w (upd H a ob) h' a ob) :
  Inv X bGD σ (upd H a ob) { s with heap:=h',toks:=t' }:=
 I.write e (.inl rfl) (λb q d z=>(g.2 b d).trans z) f c
def aMr (z:kvs.length<=sizeLine)(hd:(a == sysModules)=false)(b:KV kvs vs)(c:h'.DictOf (bU P w) a vs) :
  cV P w H' h' a (.dK kvs):=⟨z,hd,vs,b,c⟩
def aP6 (S:A.units+1<cLine)(I:Inv X bGD σ H s)(g:aI9 H a y v H')(F:RelV y u)(K:RelV v r)(h:∀s',Inv X bGD σ H' s'->Q () s') :
  wpAny (model X.prog X.w) A (setItem (.ref a) u r) Q E s:=by
 rcases g with⟨f,k,e,p,l,t⟩|⟨f,k,b,e,p,eb,l,t⟩
 ·subst p t;obtain⟨z,hd,G,d,m⟩:=aAn I.hok e;have C:G.length<=sizeLine:=by rw[<-d.length];exact z
  have n:(putK f k v).length<=sizeLine:=by have:=pD f k v;lia
  refine wpAny_setItem_pairs (tX F) m λx i o=>h _ ?_;have O:∃q,x.get? a=some q:=let ⟨q,_,_,j,_⟩:=i;⟨q,j⟩
  exact yS I (by rw[e];exact True.intro) o O (aMr n hd (d.put k K) i)
 ·subst p t;cases (show u=Value.ref b from F);obtain⟨z,hd,J,d,m⟩:=bD6 I.hok e;have C:J.length<=sizeLine:=by rw[<-Paired.length d];exact z
  have n:(putK f k v).length<=sizeLine:=by have:=pD f k v;lia
  refine wpAny_setItem_heap (tupleKind_room_in1 S) (vN I.hok eb) m λx i o=>h _ ?_;obtain⟨q,M,L,j,N,R,D,_,P⟩:=i;refine yS I (by rw[e];exact True.intro) o ⟨q,j⟩ ⟨n,hd,_,(d.put k eb K).keeps λc T B=>?_,q,M,L,j,N,R,D,P⟩;rw[aM (aKk B e (λz=>nomatch z))];exact B
def bCv {v:V}{more:List Value}{Q:bGA}(I:Inv X bGD σ H s)(e:H a=some (.dK kvs))(j:RelV (kV k) u)(l:eO kvs k=some v)(n:more=[]\/∃x,more=[x])
  (h:∀w' s',Inv X bGD σ (upd H a (.dK (jZ kvs k))) s'->RelV v w'->Q w' s'):wpAny (model X.prog X.w) A (call (.builtin "dict.pop") (.ref a::u::more)) Q E s:=by
 obtain⟨z,hd,g,b,f⟩:=aAn I.hok e;obtain⟨w',B,d⟩:=lX.some_of (v:=v) (o:=valueAt g k) (by rw[<-l];exact b.val k);have p:(keyPart u).isSome=true:=by
  cases k with
  |inl i=>obtain⟨t,q⟩:=(show ∃t,u=Value.int i t from j);subst q;rfl
  |inr x=>obtain⟨t,q⟩:=(show ∃t,u=Value.str x t from j);subst q;rfl
 have y:argsOk "dict.pop" ⟨.ref a::u::more,[]⟩:=by
  rcases n with q|⟨x,q⟩
  ·subst q;exact PySem.F.args_dict_pop_2 _ _
  ·subst q;exact PySem.F.args_dict_pop_3 _ _ _
 refine call_meetsIn PySem.F.slot_dict_pop f.typeIs PySem.F.entry_dict_pop y (meets_dict_pop_there (bU X.prog X.w) a (tX j) more n p)
  ⟨g,w',f,by rw[<-b.length];exact z,B,λm c r=>h w' _ ?_ d⟩
 have C:∃q,m.get? a=some q:=let ⟨q,_,_,hq,_⟩:=c;⟨q,hq⟩
 exact yS I (by rw[e];exact True.intro) r C (aMr (bAE (aHq kvs k) z) hd (b.drop k) c)
def bCh (i:Expr):Prop:=∀ov iv,subscripted i false ov iv=operate [ov,iv] (getItem ov iv)
def aV9 {prog:Program}{w:World}{A:Around}{E:bGA}{s:Shared}{env:Env}{c d:Expr}{pos:Pos}{T id:String}{Q:bGA}
  (k:typeLookup (.type T) "__getitem__"=pure (some (.builtin id))) (l:bCh d)
  (h:wpAny (model prog w) A (eval c env) (λo s₁=>wpAny (model prog w) A (eval d env) (λi s₂=>s₂.TypeIs o T/\wpAny (model prog w) A (getItem o i) Q E s₂) E s₁) E s) :
  wpAny (model prog w) A (eval (.Subscript c d pos) env) Q E s:=by
 refine Subscript_ (bBH h (λo s₁ g=>bBH g (λi s₂ b=>?_) λ_ _ x=>x) λ_ _ x=>x);obtain⟨e,b⟩:=b;unfold subscriptTail;refine b7 ?_;rw[getitemInPython_of_ne e.not_modules];refine b7 (wpAny_specialOf e k ?_);have a:wpAny (model prog w) A (subscripted d false o i) (λr f=>wpAny (model prog w) A (letTemporaryGo c o r >>= λ_=>pure r) Q E f) E s₂:=by rw[l o i];exact wpAny_operating (bBH b (λr f j=>b7 (wpAny_letTemporaryGo (d8 j))) λ_ _ x=>x)
 first
  |exact d8 (b7 a)
  |exact b7 (d8 (b7 a))
  |exact b7 a
def aH6 (I:Inv X bGD σ H s)(g:rZ H a y o):s.TypeIs (.ref a) "dict":=by
 rcases g with⟨d,k,e,_,_⟩|⟨d,k,b,e,_,_,_⟩
 ·obtain⟨_,_,h,_,c⟩:=aAv I.hok e;exact c.typeIs
 ·obtain⟨_,_,f,_,c⟩:=aBt I.hok e;exact c.typeIs
inductive aZi (Q:VK)(x y:V)(H2:Hp):Prop
 |mk (a:Addr) (v:V) (h:x=.ref a) (g:rZ H2 a y (some v)) (q:Q v H2):aZi Q x y H2
def aY7 (td ty:TE):TE:=fun σ H Q=>td σ H λx H1=>ty σ H1 (aZi Q x)
def bDo (ty td:TE):TE:=fun σ H Q=>ty σ H λy H1=>td σ H1 λx H2=>∃a o,x=.ref a/\rZ H2 a y o/\Q (.bl o.isSome) H2
def aOt (ty td:TE):TE:=fun σ H Q=>ty σ H λy H1=>td σ H1 λx H2=>∃a o,x=.ref a/\rZ H2 a y o/\Q (.bl (!o.isSome)) H2
def aY9 (td ty tv:TE):TS:=λD σ H=>tv σ H λv H1=>td σ H1 λx H2=>ty σ H2 λy H3=>∃a H4,x=.ref a/\aI9 H3 a y v H4/\D.nx σ H4
def aW8 (z:X.A.units+1<cLine)(ho:PE X o td)(hi:PE X i ty)(D:bCh i):PE X (.Subscript o i pos) (aY7 td ty):=by intro b s σ H Q I h;refine aV9 PySem.F.slot_dict_getitem.lookup D (thn (ho b s σ H _ I h) λu k ⟨x,m,q,f,j⟩=>thn (hi b k σ m _ q j) λt B ⟨y,e,d,r,a,v,n,g,p⟩=>?_);subst n;obtain rfl:u=Value.ref a:=f;exact⟨aH6 d g,aP4 z d g r λC w l c=>⟨v,e,l,c,p⟩⟩
def bBc (w:X.A.units+1<cLine)(hi:PE X i ty)(ho:PE X o td):PC X .In i o (bDo ty td):=by intro b s σ H Q I h;refine thn (hi b s σ H _ I h) λt j ⟨y,k,p,r,f⟩=>thn (ho b j σ k _ p f) λu z ⟨x,c,q,d,a,e,l,g,n⟩=>?_;subst l;obtain rfl:u=Value.ref a:=d;exact bEq w q g r λv m=>⟨.bl e.isSome,c,m,rfl,n⟩
def aP8 (w:X.A.units+1<cLine)(hi:PE X i ty)(ho:PE X o td):PC X .NotIn i o (aOt ty td):=by intro b s σ H Q I h;refine thn (hi b s σ H _ I h) λt j ⟨y,k,p,r,f⟩=>thn (ho b j σ k _ p f) λu z ⟨x,c,q,d,a,e,l,g,n⟩=>?_;subst l;obtain rfl:u=Value.ref a:=d;exact aVn w q g r λv m=>⟨.bl (!e.isSome),c,m,rfl,n⟩
def aVg (M:X.A.units+1<cLine)(ho:PE X o td)(hi:PE X i ty)(J:PE X value tv)(E:swapsWith value (some (.Subscript o i pos')) pos.line X.env=pure false) :
  PS X (.Assign [.Subscript o i pos'] value pos) (aY9 td ty tv):=by
 intro b s σ H D I h;refine wpAny_Assign_Subscript (thn (J b s σ H _ I h) λr t ⟨v,e,C,z,q⟩=>thn (ho b t σ e _ C q) λu f ⟨x,c,l,d,B⟩=>thn (hi b f σ c _ l B) λG L ⟨y,F,j,m,a,k,w,g,p⟩=>?_) E;subst w;obtain rfl:u=Value.ref a:=d;exact aP6 M j g m z λK n=>⟨σ,k,n,p⟩
def aKm (h:Heap)(a:sysModules<h.objs.size):cV P w H (h.push { cls:=.type "dict",data:=.dict #[] }) h.objs.size (.dK []):=
 ⟨bAF _,beq_eq_false_iff_ne.mpr (Ne.symm (v7 a)),[],.nil,Heap.DictOf.new h⟩
def aTb:TE:=λ_ H Q=>∀p,H p=none->Q (.ref p) (upd H p (.dK []))
def aS5:PE X (.Dict [] [] pos) aTb:=λa s σ H Q I h=>
 wpAny_Dict_empty ⟨.ref s.heap.objs.size,_,I.laid (t':=s.toks) (λ_ _ q=>d7 _ q) (j0 _) (aKm s.heap I.big),rfl,h _ (I.hok.fresh (j0 _))⟩
def aKs:List (TE × TE)->St->Hp->(List (V × V)->Hp->Prop)->Prop
 |[],_,H,Q=>Q [] H
 |(tk,tv)::r,σ,H,Q=>tk σ H λx H1=>tv σ H1 λy H2=>aKs r σ H2 λps H3=>Q ((x,y)::ps) H3
abbrev VV:List (V × V)->List (Value × Value)->Prop:=Paired λp q=>RelV p.1 q.1/\RelV p.2 q.2
def PPs (X:Cx)(pos:Pos)(keys:List (Option Expr))(values:List Expr)(trs:List (TE × TE)):Prop:=
 ∀bGD s σ H Q,Inv X bGD σ H s->aKs trs σ H Q ->
  wpAny (model X.prog X.w) X.A (evalPairs (pairTrees keys values X.env pos)) (λvs s'=>∃ps H',Inv X bGD σ H' s'/\VV ps vs/\Q ps H') X.xe s
def aXw:PPs X pos [] [] []:=λa s σ H Q I h=>pairTrees_nil_walk ⟨[],H,I,.nil,h⟩
def aU2 (B:PE X k tk)(t:PE X v tv)(C:PPs X pos ks vs trs) :
  PPs X pos (some k::ks) (v::vs) ((tk,tv)::trs):=λa s σ H Q I h=>
 pairTrees_cons_walk (thn (B a s σ H _ I h) λu g ⟨x,j,p,e,f⟩=>thn (t a g σ j _ p f) λA m ⟨y,c,q,r,o⟩=>
  thn (C a m σ c _ q o) λz w ⟨i,n,l,b,d⟩=>⟨(x,y)::i,n,l,.cons ⟨e,r⟩ b,d⟩)
def jA (kvs more:List (Key × V)):List (Key × V):=more.foldl (λacc kv=>putK acc kv.1 kv.2) kvs
def KV.merge:∀{more:List (Key × V)} {rs:List (Key × Value)} {kvs:List (Key × V)} {vs:List (Key × Value)},KV more rs->KV kvs vs->KV (jA kvs more) (merged vs rs):=by
 intro more rs kvs vs r;unfold KV at r
 induction r generalizing kvs vs with
 |nil=>intro q;exact q
 |@cons p q ps qs h t ih=>
  intro a;have e:KV (putK kvs p.1 p.2) (stored vs q.1 q.2):=by have:=a.put p.1 h.2;rw[<-h.1];exact this
  exact ih e
theorem lO:∀more kvs,(jA kvs more).length<=kvs.length+more.length
 |[],kvs=>by show kvs.length<=kvs.length+0;lia
 |p::r,kvs=>by have b:=lO r (putK kvs p.1 p.2);have a:=pD kvs p.1 p.2;show (jA (putK kvs p.1 p.2) r).length<=_;rw[t6];lia
theorem zJ:∀{kvs:List (Key × V)} {ws:List (Value × Value)},VV (kvs.map λkv=>(kV kv.1,kv.2)) ws->∃rs,Carries (bU P w) ws rs/\KV kvs rs
 |[],_,r=>by rw[List.map_nil] at r;cases r;exact⟨[],True.intro,.nil⟩
 |p::kvs,_,r=>by
  rw[bAI] at r;cases r with
  |@cons a b as bs h t=>obtain⟨rs,c,q⟩:=zJ t;obtain⟨e,d⟩:=b;exact⟨(p.1,d)::rs,⟨tX h.1,rfl,c⟩,.cons ⟨rfl,h.2⟩ q⟩
def aYs (trs:List (TE × TE)):TE:=fun σ H Q=>∀p,H p=none->aKs trs σ (upd H p (.dK [])) λps H2=>H2 p=some (.dK [])/\∃kvs:List (Key × V),ps=kvs.map (λkv=>(kV kv.1,kv.2))/\kvs.length<=15/\Q (.ref p) (upd H2 p (.dK (jA [] kvs)))
def aYb {X:Cx}{pos:Pos}{keys:List (Option Expr)}{values:List Expr}{trs:List (TE × TE)}(h:PPs X pos keys values trs)(j:keys.all (·.isSome)=true)(D:keys.length=values.length)(K:keys≠[])
  (l:keys.length<=15):PE X (.Dict keys values pos) (aYs trs):=by
 intro f s σ H Q I q;have C:=I.hok.fresh (j0 s.heap.objs.size);have B:=I.laid (a:=s.heap.objs.size) (o:=.dK []) (h':=s.heap.push { cls:=.type "dict",data:=.dict #[] }) (t':=s.toks) (λ_ _ q=>d7 _ q) (j0 _) (aKm s.heap I.big);refine wpAny_Dict_walk (knd:=bU X.prog X.w) j D K l (thn (h f _ σ _ _ B (q _ C)) λG F ⟨L,E,i,g,e,d,x,J,y⟩=>?_);subst x;obtain⟨v,c,t⟩:=zJ (P:=X.prog) (w:=X.w) g;obtain⟨z,hd,u,A,r⟩:=aAn i.hok e;cases A;refine⟨v,c,r,λh' b m=>⟨.ref s.heap.objs.size,_,?_,rfl,y⟩⟩;have k:(jA [] d).length<=sizeLine:=by have p:=lO d [];rw[bBV] at p;rw[sizeLine_eq];lia
 have n:∃q,h'.get? s.heap.objs.size=some q:=let ⟨q,_,_,hq,_⟩:=b;⟨q,hq⟩
 exact yS i (by rw[e];exact True.intro) m n (aMr k hd (t.merge .nil) b)
structure M1 (X:Cx)(o:Expr)(m:Str)(apos:Pos)(e:Expr)(cpos:Pos):Prop where
 base:attributeBase o m X.env (eval o X.env)=eval o X.env
 few:((backTo cpos (starEach [e] X.env)).all (λx=>!x.1) && (backToKw cpos (keywordEach [] X.env)).all (λx=>x.1.isSome)
  && decide (([e]:List Expr).length+([]:List Keyword).length+(if ([]:List Keyword).isEmpty then 0 else 1)<30))=true
 line:(apos.endLine == cpos.line)=true
 trees:backTo cpos (starEach [e] X.env)=[(false,eval e X.env)]
def IsD (H:Hp)(a:Addr):Prop:=(∃kvs,Rd H a (.dK kvs))\/∃kvs,Rd H a (.dT kvs)
def bBr (I:Inv X bGD σ H s)(d:IsD H a) :
  s.TypeIs (.ref a) "dict"/\(∀b,Value.ref a=.ref b->∃ob,s.heap.get? b=some ob/\ob.dict=none)/\(a == sysModules)=false:=by
 rcases d with⟨f,e⟩|⟨f,e⟩
 ·obtain⟨_,hd,j,_,c⟩:=aAv I.hok e;refine⟨c.typeIs,λb q=>?_,hd⟩;cases q;obtain⟨ob,_,_,h,g,_⟩:=c;exact⟨ob,h,g.2.1⟩
 ·obtain⟨_,hd,i,_,c⟩:=aBt I.hok e;refine⟨c.typeIs,λb q=>?_,hd⟩;cases q;obtain⟨ob,_,_,h,g,_⟩:=c;exact⟨ob,h,g.2.1⟩
def bBa (n:A.units+1<cLine)(I:Inv X bGD σ H s)(g:rZ H a y o)(m:RelV y u)(h:∀w' s',Inv X bGD σ H s'->RelV (o.getD .non) w'->Q w' s') :
  wpAny (model X.prog X.w) A (call (.builtin "dict.get") [.ref a,u]) Q E s:=by
 rcases g with⟨i,k,e,f,l⟩|⟨i,k,b,e,f,eb,l⟩
 ·subst f;obtain⟨z,hd,p,c,d⟩:=aAv I.hok e;refine call_meetsIn PySem.F.slot_dict_get d.typeIs PySem.F.entry_dict_get (PySem.F.args_dict_get_2 _ _) (meets_dict_get (bU X.prog X.w) a (tX m) hd) ⟨_,d.mapOf,h _ _ (I.tok _) ?_⟩;rw[l];exact (c.val k).getD rfl
 ·subst f;cases (show u=Value.ref b from m);obtain⟨z,hd,j,c,d⟩:=aBt I.hok e;refine call_meetsIn PySem.F.slot_dict_get d.typeIs PySem.F.entry_dict_get (PySem.F.args_dict_get_2 _ _) (meetsH_dict_get (tupleKind (bU X.prog X.w)) a b hd) ⟨tupleKind_room_in1 n,k,j,vN I.hok eb,d,h _ _ (I.tok _) ?_⟩;rw[l];exact (c.val k).getD rfl
def aSy (td ty:TE):TE:=fun σ H Q=>td σ H λx H1=>∃a,x=.ref a/\IsD H1 a/\ty σ H1 λy H2=>∃o,rZ H2 a y o/\Q (o.getD .non) H2
def aTq (K:X.A.units+1<cLine)(ho:PE X o td)(D:PE X e ty)(m:M1 X o "get" apos e cpos):PE X (.Call (.Attribute o "get" apos) [e] [] cpos) (aSy td ty):=by intro b s σ H Q I h;refine wpAny_Call_method m.base m.few m.line PySem.F.plainAttrs_dict PySem.F.slot_dict_get PySem.F.type_dict_get (thn (ho b s σ H _ I h) λu r ⟨x,k,f,j,a,t,d,q⟩=>?_);subst t;obtain rfl:u=Value.ref a:=j;obtain⟨w,z,_⟩:=bBr f d;refine⟨w,z,?_⟩;rw[m.trees];refine bDM rfl (bFP (bCC (thn (D b r σ k _ f q) λE B ⟨y,i,n,p,G,g,v⟩=>bEW ?_)));exact bBa K n g p λC J l c=>⟨_,i,l,c,v⟩
section
variable {κ:Type}[DecidableEq κ]
def aVf {c:List (κ × V)}{k:κ}{v:V}(h:eO c k=some v):k∈c.map (·.1):=by
 have q:(c.any λa=>decide (a.1=k))=true:=by rw[mG,h];all_goals rfl
 obtain⟨p,b,e⟩:=List.any_eq_true.mp q;exact List.mem_map.mpr ⟨p,b,of_decide_eq_true e⟩
def aQl {p:κ × V}{r:List (κ × V)}{k:κ}(e:p.1=k):jZ (p::r) k=jZ r k:=by unfold jZ;rw[bEE,if_neg (by simp[e])]
def aRa {p:κ × V}{r:List (κ × V)}{k:κ}(e:¬ p.1=k):jZ (p::r) k=p::jZ r k:=by unfold jZ;rw[bEE,if_pos (by simp[e])]
end
structure VE (X:Cx)(e:Expr)(t:TE):Prop where
 out:PE X e t
structure VT (X:Cx)(e:Expr)(t:TT):Prop where
 out:PT X e t
structure VW (X:Cx)(e:Expr)(t:TT):Prop where
 out:PW X e t
structure VA (X:Cx)(es:List Expr)(t:TA):Prop where
 out:PA X es t
structure VS (X:Cx)(st:Stmt)(t:TS):Prop where
 out:PS X st t
structure VSs (X:Cx)(st:List Stmt)(t:TS):Prop where
 out:PSs X st t
structure VI (X:Cx)(tg iter:Expr)(t:TI):Prop where
 out:PI X tg iter t
structure VG (X:Cx)(tg:Expr)(t:TG):Prop where
 out:PG X tg t
structure VGs (X:Cx)(tg:List Expr)(t:TGs):Prop where
 out:PGs X tg t
structure VO (X:Cx)(e:Option Expr)(t:TO):Prop where
 out:PO X e t
structure VF (X:Cx)(ifs:List Expr)(t:TT):Prop where
 out:aQz X ifs t
section
variable {X:Cx}
def vv (i:Nat)(c:X.N[i]?=some x:=by rfl)(b:Vis X.env.scope x:=by trivial)(hd:(x == ("__debug__":Str))=false:=by decide)
  (a:(x == ("__classdict__":Str))=false:=by decide):VE X (.Name x pos) (mL i):=⟨pv i c b hd a⟩
def iU (b:Gl X x)(a:∃u,X.mg x=some u/\RelV v u)(hd:(x == ("__debug__":Str))=false:=by decide):VE X (.Name x pos) (tC v):=⟨bC4 b a hd⟩
def eY (d:Gl X x)(a:X.mg x=none)(b:bootBuiltins x=some u)(r:RelV v u)(c:x≠"__name__":=by decide)(hd:(x == ("__debug__":Str))=false:=by decide):VE X (.Name x pos) (tC v):=⟨aV8 d a b r c hd⟩
def aA {i j}:VE X (.Constant (.int i) j pos) (tC (.int i)):=⟨bB7⟩
def fB {b j}:VE X (.Constant (.bool b) j pos) (tC (.bl b)):=⟨bC9⟩
def cD {j}:VE X (.Constant .none j pos) (tC .non):=⟨bB9⟩
def aP {x j}:VE X (.Constant (.str x) j pos) (tC (.str x)):=⟨aZ4⟩
def bI (ho:OpR X (binaryOp op) r)(d:VE X a ta)(c:VE X b tb):VE X (.BinOp a op b pos) (tOp r ta tb):=⟨bCz ho d.1 c.1⟩
def aDw (ho:UnR X (unaryOp op) r)(b:VE X a ta):VE X (.UnaryOp op a pos) (tUn r ta):=⟨bC3 ho b.1⟩
def mU (ho:OpR X (compareOp op) r)(e:VE X a ta)(d:VE X b tb)(c:behindInMarks op b=false):VE X (.Compare a [op] [b] pos) (tOp r ta tb):=⟨aXq ho e.1 d.1 c⟩
def aFr (ho:OpR X (compareOp op) r)(e:VE X a ta)(d:VE X b tb)(c:behindInMarks op b=false):VT X (.Compare a [op] [b] pos) (aHm (tOp r ta tb)):=⟨aVu ho e.1 d.1 c⟩
def aTa (ho:OpR X (compareOp op) r)(d:OpR X (compareOp op') r')(g:VE X a ta)(h:VE X b tb)(f:VE X c tc)
  (e:lastMarks [op,op'] [b,c]=false:=by with_unfolding_all rfl):VE X (.Compare a [op,op'] [b,c] pos) (aGh r r' ta tb tc):=⟨aSh ho d g.1 h.1 f.1 e⟩
def zO (ho:OpR X (compareOp op) r)(d:OpR X (compareOp op') r')(g:VE X a ta)(h:VE X b tb)(f:VE X c tc)
  (e:lastMarks [op,op'] [b,c]=false:=by with_unfolding_all rfl):VT X (.Compare a [op,op'] [b,c] pos) (aHm (aGh r r' ta tb tc)):=⟨aRp ho d g.1 h.1 f.1 e⟩
def fX {op}(h:VE X a te):VE X (.BoolOp op [a] pos) te:=⟨aZu h.1⟩
def gH (d:VE X a ta)(c:VE X (.BoolOp .And (b::rest) pos) tb):VE X (.BoolOp .And (a::b::rest) pos) (aY2 ta tb):=⟨bBu d.1 c.1⟩
def aUt (d:VE X a ta)(c:VE X (.BoolOp .Or (b::rest) pos) tb):VE X (.BoolOp .Or (a::b::rest) pos) (bEl ta tb):=⟨bDb d.1 c.1⟩
def aR5 (b:VE X a ta):VE X (.UnaryOp .Not a pos) (aYx ta):=⟨bBd b.1⟩
def aTu (e:VT X c tA)(f:VE X a ta)(d:VE X b tb):VE X (.IfExp c a b pos) (tIf tA ta tb):=⟨aSe e.1 f.1 d.1⟩
def zV:VA X [] qO:=⟨aSs⟩
def aF (b:VE X e te)(a:VA X es t)(c:cB e=true:=by rfl):VA X (e::es) (dN te t):=⟨bBx b.1 a.1 c⟩
def bDl (G:Ok X.prog X.w X.K X.mg X.base k x ps sp)(f:Room k X.A)(g:Gl X x)(c:VA X (e::es) t)(b:(x == ("__debug__":Str))=false:=by decide)
  (d:cB e=true:=by rfl) (a:(backTo pos (starEach es X.env)).any (·.1)=false:=by rfl) :
  VE X (.Call (.Name x p) (e::es) [] pos) (uQ sp [] E0 t):=⟨bDq G f g c.1 b (aN d) a⟩
def bAr (G:Ok X.prog X.w X.K X.mg X.base k x ps sp)(b:Room k X.A)(c:Gl X x)(a:(x == ("__debug__":Str))=false:=by decide) :
  VE X (.Call (.Name x p) [] [] pos) (uQ sp [] E0 qO):=⟨bBj G b c a⟩
def aL {id:String}{r:List V->Hp->VK->Prop}(h:cA X (.builtin id) r)(j:Gl X x)(c:X.mg x=none)(g:bootBuiltins x=some (.builtin id))(d:VA X (e::es) t)(i:x≠"__name__":=by decide)(a:(x == ("__debug__":Str))=false:=by decide)
  (f:cB e=true:=by rfl) (b:(backTo pos (starEach es X.env)).any (·.1)=false:=by rfl):VE X (.Call (.Name x p) (e::es) [] pos) (tCB r t):=⟨aTc h j c g d.1 i a (aN f) b⟩
def cX (h:cA X (.type T) r)(j:Gl X x)(c:X.mg x=none)(g:bootBuiltins x=some (.type T))(d:VA X (e::es) t)(i:x≠"__name__":=by decide)(a:(x == ("__debug__":Str))=false:=by decide)
  (f:cB e=true:=by rfl) (b:(backTo pos (starEach es X.env)).any (·.1)=false:=by rfl):VE X (.Call (.Name x p) (e::es) [] pos) (tCB r t):=⟨aQ1 h j c g d.1 i a (aN f) b⟩
def aEq {o:Expr}{to:TE}{name:Str}{apos cpos:Pos}{T id:String}{r:V->List V->Hp->VK->Prop}(h:PlainAttrs T)(slot:Slot T name id)(f:typeOf (.builtin id)=pure (.type "method_descriptor"))(g:MtR X id r)(ho:VE X o to)(j:VA X (e::es) t)
  (b:attributeBase o name X.env (eval o X.env)=eval o X.env:=by rfl)
  (d:((backTo cpos (starEach (e::es) X.env)).all (λx=>!x.1) && (backToKw cpos (keywordEach [] X.env)).all (λx=>x.1.isSome)
   && decide ((e::es).length+([]:List Keyword).length+(if ([]:List Keyword).isEmpty then 0 else 1)<30))=true:=by rfl)
  (c:(apos.endLine == cpos.line)=true:=by rfl) (i:cB e=true:=by rfl) (a:(backTo cpos (starEach es X.env)).any (·.1)=false:=by rfl) :
  VE X (.Call (.Attribute o name apos) (e::es) [] cpos) (tBM X.K T r to t):=⟨bDx h slot f g ho.1 j.1 b d c (aN i) a⟩
def pU (e:VE X a ta)(d:VE X b tb)(f:aHe b) :
  VE X (.Subscript a b pos) (tOp (λx y H Q=>∃z i c,x=.str z/\y=.int i/\0<=i/\i<2 ^ 63/\i<z.length/\z.cps[i.toNat]?=some c/\Q (.str ⟨#[c]⟩) H) ta tb):=⟨aIc e.1 d.1 f⟩
def eZ:VO X none yQ:=⟨aWa⟩
def dW (h:VE X e te):VO X (some e) (aPb te):=⟨aWw h.1⟩
def cY {r:V->Option Int->Option Int->Hp->VK->Prop}{lo hi:Option Expr}{tl th:TO}{p2:Pos}(b:SlR X r)(c:VE X e te)(a:VO X lo tl)(d:VO X hi th):VE X (.Subscript e (.Slice lo hi none p2) pos) (tSl r te tl th):=⟨aSo b c.1 a.1 d.1⟩
def bEn (e:IxR X r)(d:VE X a ta)(c:VE X b tb)(f:aFw b):VE X (.Subscript a b pos) (tOp r ta tb):=⟨bD5 e d.1 c.1 f⟩
def aTl:VE X (.Dict [] [] pos) aTb:=⟨aS5⟩
def VE.imp {t t':TE}(h:VE X e t)(k:∀σ H Q,t' σ H Q->t σ H Q):VE X e t':=⟨PE.imp h.1 k⟩
def yU (b:VT X a tA):VW X (.BoolOp .And [a] pos) tA:=⟨aXi b.1⟩
def fG (b:VT X a tA):VW X (.BoolOp .Or [a] pos) tA:=⟨bCn b.1⟩
def aGt (d:VT X a tA)(c:VW X (.BoolOp .And (b::rest) pos) tB'):VW X (.BoolOp .And (a::b::rest) pos) (bEm tA tB'):=⟨aZp d.1 c.1⟩
def gB (d:VT X a tA)(c:VW X (.BoolOp .Or (b::rest) pos) tB'):VW X (.BoolOp .Or (a::b::rest) pos) (tOr tA tB'):=⟨bC2 d.1 c.1⟩
def VW.pt (h:VW X e tA):VT X e tA:=⟨h.1.pt⟩
def cC (b:VT X a tA):VT X (.UnaryOp .Not a pos) (aZv tA):=⟨bCi b.1⟩
def bR (h:VE X e te)(a:∀whole,isTrue e X.env whole=(do let v <-whole;standAt e.pos;holding [v] (truthy v)):=by intro _;rfl):VT X e (tB te):=⟨bCp h.1 a⟩
def aJu (c:VE X a ta)(b:∀whole,isTrue a X.env whole=(do let v <-whole;standAt a.pos;holding [v] (truthy v)):=by intro _;rfl) :
  VT X a (fun σ H Q=>ta σ H λx H'=>∃k,bAa X.K x H' k/\Q k H'):=⟨aT5 c.1 b⟩
variable {st:Stmt}{rest:List Stmt}{u w':TS}
def aQ:VSs X [] pF:=⟨aXp⟩
def aB (b:VS X st u)(a:VSs X rest w'):VSs X (st::rest) (aFd u w'):=⟨aSk b.1 a.1⟩
def aD (a:VS X st u):VSs X [st] u:=⟨aWz a.1⟩
def aK (a:VE X e te):VS X (.Return (some e) pos) (sH te):=⟨bA4 a.1⟩
def bM {a b:List Stmt}(d:VT X c tA)(e:VSs X a u)(f:VSs X b w'):VS X (.If c a b pos) (aPq tA u w'):=⟨bDr d.1 e.1 f.1⟩
def bB5 (d:X.N.Nodup)(hi:X.N[i]?=some x)(b:Loc X.env.scope x)(a:VE X e te)(c:swapsWith e (some (.Name x pos')) pos.line X.env=pure false:=by rfl)(f:X.fn x=true\/X.env.scope.names.lookup x=some .local:=by first|exact .inl rfl|exact .inr rfl|assumption) :
  VS X (.Assign [.Name x pos'] e pos) (aB5 te (bF i)):=⟨bAs d hi b a.1 c f⟩
def eF (a:VE X e te)(b:swapsWith e none pos.line X.env=pure false:=by rfl):VS X (.Expr e pos) (aN8 te):=⟨aN4 a.1 b⟩
def jU {tg iter:Expr}{body:List Stmt}{wi:TI}{g:TG}{tb:TS}(a:PassesOwn (model X.prog X.w) X.A X.env X.xe)(c:X.calm=true)(hi:VI X tg iter wi)(e:VG X tg g)(b:VSs X body tb)
  (d:∀x,foldedSetIterable iter X.env x=pure x:=by intro _;rfl):VS X (.For tg iter body [] pos) (bDs wi g tb):=⟨bBn a c hi.1 e.1 b.1 d⟩
def aNm (a:X.N.Nodup)(hi:X.N[i]?=some x)(c:Loc X.env.scope x)(b:X.fn x=true\/X.env.scope.names.lookup x=some .local:=by first|exact .inl rfl|exact .inr rfl|assumption):VG X (.Name x pos) (bF i):=⟨aW4 a hi c b⟩
def lF:VGs X [] aQi:=⟨aXo⟩
def cG {t:TG}{u:TGs}(b:VG X e t)(a:VGs X es u)(c:(assignEach (e::es) X.env).map (·.2)=assign e X.env::(assignEach es X.env).map (·.2):=by rfl):VGs X (e::es) (rB t u):=⟨aS8 b.1 a.1 c⟩
def aA1 {k:Nat}{t:TGs}{n:Nat}(b:X.calm=true)(h:VGs X es t)(c:(assignEach es X.env).length=n:=by rfl)(a:(assignEach es X.env).findIdx? (·.1)=none:=by rfl):VG X (.Tuple es k pos) (aIv X.K n t):=⟨bA0 b h.1 c a⟩
def lG (h:VE X e te):VI X tg e (aNk X.K te):=⟨aVz h.1⟩
def rQ (h:VE X e te):VI X tg e (aWu X.K te):=⟨bBi h.1⟩
def bAv (h:VE X e te):VI X tg e (bCg te):=⟨bB4 h.1⟩
def fK (e:Gl X "range")(b:X.mg "range"=none)(d:VA X [a] t)(c:cB a=true:=by rfl):VI X tg (.Call (.Name "range" p) [a] [] pos) (aTd t):=⟨aPx e b d.1 (aN c)⟩
def fY:VF X [] kO:=⟨bB0⟩
def zX (h:VT X c tA):VF X [c] tA:=⟨aZq h.1⟩
def cU
  (C:tH scope N) (b:∀y,(y,NameKind.free)∈scope.names->X.env.kindOf y=some .cell\/X.env.kindOf y=some .free) (c:X.calm=true)
  (hi:VI X target iter wi)
  (a:∀cl s H fp,VG (cxC X N scope cl s H fp) target g/\VF (cxC X N scope cl s H fp) ifs tt/\VE (cxC X N scope cl s H fp) elt te)
  (d:∀x,foldedSetIterable iter X.env x=pure x:=by intro _;rfl) :
  VE X (.ListComp elt [⟨target,iter,ifs,0⟩] scope pos) (jE X scope N wi g tt te):=
 ⟨aV2 C b c hi.1 (λcl s H fp=>⟨(a cl s H fp).1.1,(a cl s H fp).2.1.1,(a cl s H fp).2.2.1⟩) d⟩
end
section
variable {P:Program}{w:World}{K:bF9}{mg:bGC}{base:Heap}
def Fun.okV {x qual:Str}{st:Stmt}{f:Addr}{fd:FuncData}{N ps:List Str}{k:Nat}{sp:Sp}(F:Fun K x qual st f fd)(S:aJ N ps (aC st))(b:∀vs H Q E,sp vs H Q E->vs.length=ps.length)
  (a:∀(cdv:Value) (A:Around) (outer:List Env) (s:Shared) (H:Hp) (vs:List V) (Q:VK) (E:XK),Room k (A.deeper (envOfC qual (aC st) s.heap.objs.size f cdv))->sp vs H Q E ->
   ∃t,VSs (qN CX0 P w K mg base N qual (aC st) f cdv A outer s H E).nox (cT st) t/\t { nx:=λ_ H'=>Q .non H',rt:=Q } (start N vs) H):eX P w K mg base CX0 (k+1) f fd ps sp:=
 F.ok S b λcdv A outer s H vs Q E c h=>let ⟨t,h1,h2⟩:=a cdv A outer s H vs Q E c h;⟨t,h1.1,h2⟩
def Ok.ofV {x:Str}{st:Stmt}{N ps:List Str}{k:Nat}{sp:Sp}(D:Dn K mg x st ps)(S:aJ N ps (aC st))(b:∀vs H Q E,sp vs H Q E->vs.length=ps.length)
  (a:∀(f:Addr) (cdv:Value) (A:Around) (outer:List Env) (s:Shared) (H:Hp) (vs:List V) (Q:VK) (E:XK),Room k (A.deeper (envOfC x (aC st) s.heap.objs.size f cdv))->sp vs H Q E ->
   ∃t,VSs (qN CX0 P w K mg base N x (aC st) f cdv A outer s H E).nox (cT st) t/\t { nx:=λ_ H'=>Q .non H',rt:=Q } (start N vs) H):Ok P w K mg base (k+1) x ps sp:=
 Ok.of D S b λf cdv A outer s H vs Q E c h=>let ⟨t,h1,h2⟩:=a f cdv A outer s H vs Q E c h;⟨t,h1.1,h2⟩
end
def Held (P:Program)(w:World)(K:bF9)(mg:bGC)(base:Heap)(k:Nat)(f:Addr)(ps:List Str)(sp:Sp):Prop:=
 ∃fd,PySem.W.keepIn K (.ref f)=true/\Binds K fd ps []/\eX P w K mg base CX0 k f fd ps sp
def Ok.held {P:Program}{w:World}{K:bF9}{mg:bGC}{base:Heap}{k:Nat}{x:Str}{ps:List Str}{sp:Sp}(G:Ok P w K mg base k x ps sp):∃f,mg x=some (.ref f)/\Held P w K mg base k f ps sp:=by obtain⟨f,d,c,b,e,a⟩:=G;exact⟨f,c,d,b,e,a⟩
def aS4 (P:Program)(w:World)(K:bF9)(mg:bGC)(base:Heap)(k:Nat)(te:TE)(t:TA):TE:=fun σ H Q=>te σ H λv H1=>∃f ps sp,v=.ref f/\Held P w K mg base k f ps sp/\t σ H1 λvs H2=>sp vs H2 Q E0
def aXh (N:Room k X.A)(L:PE X (.Name x p) te)(J:PA X (e::es) t)
  (M:starEach (e::es) X.env=(false,eval e X.env)::starEach es X.env:=by rfl) (n:(backTo pos (starEach es X.env)).any (·.1)=false:=by rfl) :
  PE X (.Call (.Name x p) (e::es) [] pos) (aS4 X.prog X.w X.K X.mg X.base k te t):=by
 intro a s σ H Q I h;refine bBI (thn (L a s σ H _ I h) λu i ⟨v,j,c,d,g⟩=>?_);obtain⟨f,D,C,rfl,⟨B,o,m,F⟩,q⟩:=g;obtain rfl:u=Value.ref f:=d;refine PySem.W.callWith_K c.ok.mod.kin o (thn (J pos a i σ j _ c q) λz G ⟨E,y,b,r,l⟩=>⟨b.kIn,?_⟩) M n;exact aAm F N m .nil zA b r (by simpa using l)
end L2
namespace PySem
end PySem
namespace L2
open PySem PySem.Spec PyProof.Rows
def aVw:OpR X (binaryOp .Add) (λx y H Q=>∃a b ys,x=.ref a/\y=.ref b/\SqT X.K H a []/\SqT X.K H b ys/\Q (.ref b) H):=by
 intro L s σ H x y v u Q I t A h;obtain⟨a,b,ys,rfl,rfl,z,E,q⟩:=h;cases t;cases A;obtain⟨G,p,D,_⟩:=I.tuple z;obtain⟨f,M,C,_⟩:=I.tuple E;cases p;obtain⟨⟨r,B,l,w⟩,o,m,n,hd⟩:=id D;obtain⟨⟨k,i,g,j⟩,e,d,J,c⟩:=id C;simp only at m hd d c;subst m hd d c;exact concat_meets ⟨_,o,rfl⟩ ⟨_,e,rfl⟩ noFill_tuple_add seq_tuple_add PySem.F.slot_tuple_add PySem.F.entry_tuple_add (PySem.F.args_tuple_add_2 _ _)
  (tuple_addW0 a b #[] f.toArray n J B i w j rfl) ⟨o,e,⟨.ref b,H,I,rfl,q⟩⟩
end L2
namespace PySem
abbrev cI (led:Bool):Obj:={ cls:=.type "set",dict:=none,data:=.set #[] 0 (.fresh 0 0 led) }
end PySem
namespace L2
open PySem PySem.Spec PyProof.Rows
def mR (j:Nat)(e:(y,NameKind.free)∈scope.names)(c:X.N[j]?=some y)(f:σ[j]?=some (some v))(d:Vis X.env.scope y):Cap X scope [x,y] σ [none,some v]:=
 ⟨rfl,λi z u b a=>by
  match i,b,a with
  |0,_,a=>cases a
  |1,b,a=>cases b;cases a;exact⟨e,j,c,f,d⟩
  |i+2,b,_=>cases b⟩
def vM:Cap X scope [x,y] σ [none,none]:=⟨rfl,λi z u b a=>by
  match i,b,a with
  |0,_,a=>cases a
  |1,_,a=>cases a
  |i+2,b,_=>cases b⟩
def aVv (d:Room k X.A)(f:VE X (.Name x p) te)(b:VA X (e::es) t)(c:cB e=true:=by rfl)(a:(backTo pos (starEach es X.env)).any (·.1)=false:=by rfl) :
  VE X (.Call (.Name x p) (e::es) [] pos) (aS4 X.prog X.w X.K X.mg X.base k te t):=⟨aXh d f.1 b.1 (aN c) a⟩
def aR9 {P:Program}{w:World}{K:bF9}{mg:bGC}{base:Heap}{k:Nat}(h:Room k X.A)(f:VE X (.Name x p) te)(b:VA X (e::es) t)(c:cB e=true:=by rfl)(a:(backTo pos (starEach es X.env)).any (·.1)=false:=by rfl)
  (j:X.prog=P:=by rfl) (g:X.w=w:=by rfl) (l:X.K=K:=by rfl) (d:X.mg=mg:=by rfl) (i:X.base=base:=by rfl) :
  VE X (.Call (.Name x p) (e::es) [] pos) (aS4 P w K mg base k te t):=by
 subst j g l d i;exact aVv h f b c a
def cH {K:bF9}(h:X.K=K:=by rfl):IxR X (bCe K):=by subst h;exact aR
def yR {K:bF9}{k:Nat}{u:TGs}{n:Nat}(b:X.calm=true)(h:VGs X es u)(c:(assignEach es X.env).length=n:=by rfl)(a:(assignEach es X.env).findIdx? (·.1)=none:=by rfl)(d:X.K=K:=by rfl):VG X (.Tuple es k pos) (aIv K n u):=by subst d;exact aA1 b h c a
def aX8 (g:Gl X "zip")(d:X.mg "zip"=none)(e:VA X [a,b] t)(f:cB a=true:=by rfl)(c:cB b=true:=by rfl) :
  VI X (.Tuple elts kt tp) (.Call (.Name "zip" p) [a,b] [] pos) (aRr X.K t):=⟨aXd g d e.1 (aN f) (aN c)⟩
def aGa (b:VE X e te)(f:VG X tg g)(d:swapsWithSole [tg] e pos.line X.env=pure false:=by rfl)(a:swappedStores [tg] e X.env=pure none:=by rfl)
  (c:(assignEach [tg] X.env).map (·.2)=[assign tg X.env]:=by rfl):VS X (.Assign [tg] e pos) (aB5 te g):=⟨bB6 b.1 f.1 d a c⟩
def bEy:V->Option Int->Option Int->Hp->VK->Prop:=λx lo hi H Q=>∃z,x=.str z/\z.length<=sizeLine/\Q (.str (Txt.slice z lo hi)) H
def aF1:SlR X bEy:=by
 intro f s σ H x v J G D p m Q I r y E g h;obtain⟨z,rfl,n,q⟩:=h;obtain⟨t,rfl⟩:=r;have a:∀l u:Option (Int × Tok),l.map (·.1)=D->u.map (·.1)=p->s.heap.IsSlice m l u none->wpAny (model X.prog X.w) X.A (getItem (.str z t) (.ref m)) (EP X f σ Q) X.xe s:=λl u C B e=>by subst C B;refine wpAny_getItem_str_slice e rfl ?_;unfold sliceMade;have d:=Txt.slice_le z (l.map (·.1)) (u.map (·.1));exact post_val_or_str ⟨bAE d n,λK k=>⟨.str (Txt.slice z (l.map (·.1)) (u.map (·.1))),H,I.tok _,⟨_,rfl⟩,q⟩⟩
 refine⟨"str",_,F.slot_str_getitem.lookup,typeIs_str _ _ _,?_⟩;obtain⟨o,c,b,hd⟩:=y;cases E with
 |none=>
  cases g with
  |none=>exact a none none rfl rfl ⟨o,c,b,hd⟩
  |int j u=>exact a none (some (j,u)) rfl rfl ⟨o,c,b,hd⟩
 |int i t=>
  cases g with
  |none=>exact a (some (i,t)) none rfl rfl ⟨o,c,b,hd⟩
  |int j u=>exact a (some (i,t)) (some (j,u)) rfl rfl ⟨o,c,b,hd⟩
def aU6 {x:Str}{j:Nat}(h:j<=x.length):(Txt.slice x none (some (j:Int))).cps.toList=x.cps.toList.take j:=by have e:=StrLaws.sliceText_to (x:=x) (j:=(j:Int)) ⟨by lia,by rw[v9];exact Int.ofNat_le.mpr h⟩;show (StrLaws.sliceText x none (some (j:Int))).cps.toList=_;rw[e];simp
def aMx {x:Str}{j:Nat}(h:j<=x.length):(Txt.slice x (some (j:Int)) none).cps.toList=x.cps.toList.drop j:=by have e:=StrLaws.sliceText_from (x:=x) (i:=(j:Int)) ⟨by lia,by rw[v9];exact Int.ofNat_le.mpr h⟩;show (StrLaws.sliceText x (some (j:Int)) none).cps.toList=_;rw[e];simp only[bAJ];refine bAV ?_;rw[bBL];lia
def put (x:Str)(a:Nat)(c:Nat):Str:=Txt.slice x none (some (a:Int))++⟨#[c]⟩++Txt.slice x (some (a:Int)) none
def aE5 (h:a<=x.length):(put x a c).cps.toList=x.cps.toList.take a++c::x.cps.toList.drop a:=by show ((Txt.slice x none (some (a:Int))).cps++#[c]++(Txt.slice x (some (a:Int)) none).cps).toList=_;rw[bDD,bDD,aU6 h,aMx h];simp
def aWo (h:a<=x.length)(e:put x a c=put x a d):c=d:=by have b:=congrArg (λy:Str=>y.cps.toList) e;simp only[aE5 h] at b;have f:=List.append_cancel_left b;exact (List.cons.inj f).1
def aYm {x:Str}{a c:Nat}(h:a<=x.length):(put x a c).length=x.length+1:=by
 have e:=congrArg List.length (aE5 (c:=c) h);have l:x.length=x.cps.toList.length:=by rw[v9];rfl
 rw[v9,bAB,t6,bAR,bBL] at e;show (put x a c).cps.size=_;lia
def aWj (h:a<=x.length)(m:d∈(put x a c).cps):d=c\/d∈x.cps:=by
 have b:=Array.mem_toList_iff.mpr m;rw[aE5 h] at b;rcases List.mem_append.mp b with z|z
 ·exact .inr (Array.mem_toList_iff.mp (List.mem_of_mem_take z))
 ·rcases List.mem_cons.mp z with z|z
  ·exact .inl z
  ·exact .inr (Array.mem_toList_iff.mp (List.mem_of_mem_drop z))
def aIa {K:bF9}(h:X.K=K:=by rfl):IxR X (aYr K):=by subst h;exact bJ
def aSz (t:TA):TE:=fun σ H Q=>t σ H λxs H1=>xs.length<=sizeLine/\∀p H',H1 p=none->Same H1 H'->H' p=some (.tup xs)->Q (.ref p) H'
def aUm (t:TA):TE:=fun σ H Q=>t σ H λxs H1=>xs.length<=sizeLine/\∀p H',H1 p=none->Same H1 H'->H' p=some (.lst xs)->Q (.ref p) H'
def aZm:TE:=λ_ H Q=>∀p H',H p=none->Same H H'->H' p=some (.dK [])->Q (.ref p) H'
def bL {x1}(h:VA X es t):VE X (.Tuple es x1 pos) (aSz t):=⟨by intro c s σ H Q I j;refine wpAny_Tuple_spliced (thn (h.1 pos c s σ H _ I j) λg a ⟨k,i,f,r,z,q⟩=>⟨by rw[<-r.length];exact z,?_⟩);have d:=f.hok.fresh (j0 _);refine⟨.ref a.heap.objs.size,upd i a.heap.objs.size (.tup k),f.laid (t':=a.toks) (λb u e=>d7 _ e) (j0 _) ?_,rfl,q _ _ d (aO d _) aG⟩;exact⟨z,g,r,.of (j8 _ rfl) rfl ⟨_,j8 _ rfl,rfl,_,rfl⟩⟩⟩
def bQ (h:VA X es t):VE X (.List es pos) (aUm t):=⟨by intro c s σ H Q I j;refine wpAny_List_spliced (thn (h.1 pos c s σ H _ I j) λg a ⟨k,i,f,r,z,q⟩=>⟨by rw[<-r.length];exact z,?_⟩);have d:=f.hok.fresh (j0 _);refine⟨.ref a.heap.objs.size,upd i a.heap.objs.size (.lst k),f.laid (t':=a.toks) (λb u e=>d7 _ e) (j0 _) ?_,rfl,q _ _ d (aO d _) aG⟩;exact⟨z,g,0,r,j8 _ rfl⟩⟩
def aI3:VE X (.Dict [] [] pos) aZm:=VE.imp aTl fun σ H Q h p a=>h p _ a (aO a _) aG
def OpR.imp (h:OpR X f r)(k:∀x y H Q,r' x y H Q->r x y H Q):OpR X f r':=λa s σ H x y v u Q I b c q=>h a s σ H x y v u Q I b c (k _ _ _ _ q)
def cA.imp (h:cA X f r)(k:∀xs H Q,r' xs H Q->r xs H Q):cA X f r':=λa s σ H xs c Q I b q=>h a s σ H xs c Q I b (k _ _ _ q)
inductive aOo (K:bF9)(x y:V)(H:Hp)(Q:VK):Prop
 |mk (a b:Addr) (xs ys:List V) (h:x=.ref a) (k:y=.ref b) (s:SqT K H a xs) (t:SqT K H b ys) (l:xs.length+ys.length<=sizeLine) (q:∀r H',Same H H'->SqT K H' r (xs++ys)->Q (.ref r) H'):aOo K x y H Q
def lJ:OpR X (binaryOp .Add) (aOo X.K):=OpR.imp (aX9.or aVw) λx y H Q ⟨a,b,f,i,e,g,c,d,k,q⟩=>by
 by_cases h:f=[]
 ·subst h;exact .inr ⟨a,b,i,e,g,c,d,q b H (Same.refl H) d⟩
 ·refine .inl ⟨a,b,f,i,e,g,c,d,h,k,λz=>?_,λ_ p j=>q p _ (aO j _) (SqT.of aG)⟩;subst z;exact q a H (Same.refl H) (by rw[bBU];exact c)
def bEw (K:bF9):V->Option Int->Option Int->Hp->VK->Prop:=λx lo hi H Q=>∃a xs,x=.ref a/\SqT K H a xs /\
 ¬ (HT.sIx xs.length 0 lo=0/\HT.sIx xs.length xs.length hi=xs.length)/\∀p H',Same H H'->H' p=some (.tup (oJ xs lo hi))->Q (.ref p) H'
def aGi:SlR X (bEw X.K):=λb s σ H x v o l i d h Q I f j n g ⟨a,k,e,m,r,q⟩=>
 bAh b s σ H x v o l i d h Q I f j n g ⟨a,k,e,m,r,λp c=>q p _ (aO c _) aG⟩
inductive aT6 (x y:V)(H:Hp)(Q:VK):Prop
 |mk (l b:Addr) (xs zs:List V) (h:x=.ref l) (k:y=.ref b) (s:H l=some (.lst xs)) (t:H b=some (.lst zs)) (n:xs.length+zs.length<=sizeLine) (q:∀p H',H p=none->Same H H'->H' p=some (.lst (xs++zs))->Q (.ref p) H'):aT6 x y H Q
def pP:OpR X (binaryOp .Add) aT6:=OpR.imp bBz λx y H Q ⟨l,b,g,c,f,h,d,i,e,q⟩=>⟨l,b,g,c,f,h,d,i,e,λp a=>q p _ a (aO a _) aG⟩
def aK0 (K:bF9):List V->Hp->VK->Prop:=λxs H Q=>∃p ys,xs=[.ref p]/\(SqL K H p ys\/SqT K H p ys)/\∀l H',H l=none->Same H H'->H' l=some (.lst ys)->Q (.ref l) H'
def mX:cA X (.type "list") (aK0 X.K):=cA.imp aF4 λc H Q ⟨p,b,e,h,q⟩=>⟨p,b,e,h,λl a=>q l _ a (aO a _) aG⟩
def aYh (K:bF9):List V->Hp->VK->Prop:=λxs H Q=>∃p ys,xs=[.ref p]/\SqL K H p ys/\∀l H',H l=none->Same H H'->H' l=some (.tup ys)->Q (.ref l) H'
def pQ:cA X (.type "tuple") (aYh X.K):=cA.imp aCm λc H Q ⟨p,b,e,h,q⟩=>⟨p,b,e,.inl ⟨h,λl a=>q l _ a (aO a _) aG⟩⟩
def rP:MtR X "list.append" aOj:=aD6
def fP (f:H D=none)(s:Same H H'):Same H (upd H' D o):=λb u e=>by rw[aM (aW e f)];exact s _ _ e
end L2
namespace PySem
end PySem
namespace L2
open PySem PySem.Spec PyProof.Rows
def Ite (K:bF9)(l:Addr)(xs:List V):It:=
 ⟨λi H=>SqL K H l xs/\i<xs.length,λi H v H'=>∃T a,H T=none/\v=.ref T/\H'=upd H T (.tup [.int (i:Nat),a])/\xs[i]?=some a,λi H=>SqL K H l xs/\xs.length<=i⟩
def etn (e it l:Addr)(i:Nat)(h:Heap):Prop:=(∃old,IsEnum h e it (i:Int) old)/\h.IsListIter it l i
def aP2 {P:Program}{w:World}{K:bF9}{elts:List Expr}{kt:Nat}{pos:Pos}{e it l:Addr}{xs:List V}(D:e≠it) :
  Turn P w K (.Tuple elts kt pos) (Ite K l xs) [e,it] e (etn e it l) where
 mem:=by simp
 obj:=λi h f b a=>by
  obtain⟨⟨c,d⟩,o,j,c2,d2⟩:=f;simp only[bAC,z9,or_false] at a;rcases a with rfl|rfl
  ·exact⟨_,d,λv z=>by cases (show Data.fields _=Data.cell v from z)⟩
  ·exact⟨_,j,λv z=>by rw[d2] at z;cases z⟩
 keep:=λi h m f k=>by obtain⟨⟨c,d⟩,o,j,r⟩:=f;exact⟨⟨c,k e (by simp) _ d⟩,o,k it (by simp) _ j,r⟩
 item:=by
  intro X B q F T i g s σ H E I n f A;subst B q F;obtain⟨⟨c,d⟩,j⟩:=f;obtain⟨y,R⟩:=A;obtain⟨its,G,J,hz⟩:=I.list y;obtain⟨x,hx,Z⟩:=G.get (b8 R);have fe:=n e (by simp);have fi:=n it (by simp);refine wpAny_pyNext_enum_item d j J.isList (by simpa using hx) D λm S M N a4 t=>?_;refine⟨_,rfl,?_⟩;have fT:H s.heap.objs.size=none:=I.hok.fresh (j0 _);obtain⟨oi,C,_⟩:=id j;obtain⟨a0,p,_⟩:=id M;have I1:Inv X g σ (upd H s.heap.objs.size (.tup [.int (i:Nat),xs[i]])) { s with heap:=m }:=by
   refine I.drawn (ch:=[e,it]) (its:=[.int i s.toks,x]) (λb a=>n b a) (λb o a z=>?_) (j0 _) (.cons ⟨_,rfl⟩ (.cons Z .nil)) (small (by simp)) (.of N rfl ⟨_,N,rfl,_,rfl⟩) (λb a=>?_)
   ·simp only[bAC,z9,or_false,not_or] at a;exact t b o a.1 a.2 z
   ·simp only[bAC,z9,or_false] at a;rcases a with rfl|rfl
    ·exact⟨_,S⟩
    ·exact⟨_,p⟩
  have u:Inv X g σ (upd H s.heap.objs.size (.tup [.int (i:Nat),xs[i]])) { s with heap:=m,toks:=s.toks+1 }:=I1.tok _;have O:∀b∈[e,it],b≠s.heap.objs.size:=λb a=>by
   simp only[bAC,z9,or_false] at a;rcases a with rfl|rfl
   ·exact v7 (m9 d)
   ·exact v7 (m9 C)
  refine wpAny_letOwnedTupleGo_enum (s:={ s with heap:=m,toks:=s.toks+1 }) S λh2 z2 L=>?_;obtain⟨Y,g1,g2,U,W,g5⟩:=fe;have I2:Inv X g σ (upd H s.heap.objs.size (.tup [.int (i:Nat),xs[i]])) { s with heap:=h2,toks:=s.toks+1 }:=Inv.turned (s:={ s with heap:=m,toks:=s.toks+1 }) u (t':=s.toks+1) (it:=e) (λb o a z=>(L.2 b a).trans z) (by rw[aM (O e (by simp))];exact Y) g1 U W g5;refine⟨.ref s.heap.objs.size,_,I2,rfl,⟨_,_,fT,rfl,rfl,b8 R⟩,⟨⟨x,?_⟩,?_⟩,λb a=>by rw[aM (O b a)];exact (n b a).1⟩
  ·rw[show ((i+1:Nat):Int)=(i:Int)+1 from by lia];exact z2
  ·obtain⟨o,ho,r⟩:=M;exact⟨o,(L.2 it (Ne.symm D)).trans ho,r⟩
 done:=by intro X B q F T i g s σ H E I n f A;subst B q F;obtain⟨⟨c,d⟩,j⟩:=f;obtain⟨y,hi⟩:=A;obtain⟨its,G,J,hz⟩:=I.list y;have Q:=G.length;refine wpAny_pyNext_enum_end (I.ok.hd T) d j J.isList (by simp;lia) λm t=>⟨rfl,?_⟩;refine Inv.aOq (ch:=[it]) I (λb a=>n b (j5 _ a)) λb o a z=>t b o (by simpa using a) z
 self:=λ_ _ _ _ _ f h=>by obtain⟨⟨c,d⟩,_⟩:=f;exact wpAny_pyIter_enum d h
def aYw (K:bF9)(ta:TA):TI:=fun σ H R=>ta σ H λvs H1=>∃l xs,vs=[.ref l]/\SqL K H1 l xs/\R (Ite K l xs) H1
def aYe (D:Gl X "enumerate")(G:X.mg "enumerate"=none)(E:PA X [a] ta)(C:starEach [a] X.env=[(false,eval a X.env)]:=by rfl) :
  PI X (.Tuple elts kt tp) (.Call (.Name "enumerate" p) [a] [] pos) (aYw X.K ta):=by
 intro f s σ H R I h;refine Call_ (pW I D G aGl (bCG (thn (E pos f s σ H _ I h) λB i ⟨J,n,d,m,v⟩=>?_) C (by rfl)));obtain⟨l,L,e,k,q⟩:=v;subst e;obtain⟨y,M,x,A⟩:=d.list k;obtain⟨u,rfl,w⟩:=vals1 m;cases w;refine call_enumerate_list x.isList λz g o F t=>?_;have r:=d.kept (t':=i.toks) t;refine wpAny_pyIter_enum g ⟨_,_,_,_,n,rfl,r,aP2 (bCP (bCY _)),⟨⟨_,g⟩,o⟩,λb j=>?_,q⟩;have c:i.heap.objs.size<=b:=by
  simp only[bAC,z9,or_false] at j;rcases j with rfl|rfl
  ·exact bDB _
  ·exact j0 _
 exact d.aIr c (d.hok.fresh c)
def aTf {K:bF9}{l:Addr}{xs:List V}{g:TG}{tb:TS}{D:Ends}{σ:St}{H:Hp}(f:Nat->St->Hp->Prop)(k:f 0 σ H)(c:∀i σ H,i<=xs.length->f i σ H->SqL K H l xs)
  (n:∀i σ H a T H',xs[i]?=some a->f i σ H->H T=none->H'=upd H T (.tup [.int (i:Nat),a])->g (.ref T) σ H' fun σ2 H2=>tb { D with nx:=f (i+1),ct:=f (i+1),bk:=D.nx } σ2 H2) (hd:∀σ H,f xs.length σ H->D.nx σ H) :
  ∃W:Nat->Nat->St->Hp->Prop,(∃m,W 0 m σ H)/\∀i m σ H,W i m σ H ->
   ((Ite K l xs).stop i H/\D.nx σ H)\/((Ite K l xs).go i H/\∃N:St->Hp->Prop,(∀σ' H',N σ' H'->∃m',m'<m/\W (i+1) m' σ' H')/\∀x H',(Ite K l xs).yld i H x H'->g x σ H' fun σ2 H2=>tb { D with nx:=N,ct:=N,bk:=D.nx } σ2 H2):=by
 refine⟨λi m σ H=>m=xs.length - i/\i<=xs.length/\f i σ H,⟨xs.length,by simp,bAF _,k⟩,?_⟩;rintro i m σ H ⟨rfl,hi,p⟩;by_cases b:i<xs.length
 ·refine .inr ⟨⟨c i σ H hi p,b⟩,f (i+1),fun σ' H' j=>⟨xs.length - (i+1),by lia,rfl,b,j⟩,λx H' y=>?_⟩;obtain⟨T,a,d,rfl,e,h⟩:=y;exact n i σ H a T H' h p d e
 ·have e:i=xs.length:=by lia
  subst e;exact .inl ⟨⟨c _ σ H hi p,j0 _⟩,hd σ H p⟩
section
variable {X:Cx}{st:Stmt}
def aBu:VS X st aUg:=⟨aT4⟩
def aXv (e:Gl X "enumerate")(b:X.mg "enumerate"=none)(d:VA X [a] t)(c:cB a=true:=by rfl) :
  VI X (.Tuple elts kt tp) (.Call (.Name "enumerate" p) [a] [] pos) (aYw X.K t):=⟨aYe e b d.1 (aN c)⟩
def aZn {o:Expr}{to:TE}{name:Str}{apos cpos:Pos}{T id:String}{r:V->List V->Hp->VK->Prop}(e:PlainAttrs T)(slot:Slot T name id)(c:typeOf (.builtin id)=pure (.type "method_descriptor"))(d:MtR X id r)(ho:VE X o to)
  (a:attributeBase o name X.env (eval o X.env)=eval o X.env:=by rfl) (b:(apos.endLine == cpos.line)=true:=by rfl):VE X (.Call (.Attribute o name apos) [] [] cpos) (bDy X.K T r to):=⟨bAp e slot c d ho.1 a b⟩
end
def aP9 (xs:List V)(Rel:Nat->Hp->V->Prop)(G:∀{i H1 H2 y},Same H1 H2->Rel i H1 y->Rel i H2 y)(F:∀{i H1 D ys zs y},H1 D=some (.lst ys)->Rel i H1 y->Rel i (upd H1 D (.lst zs)) y)
  (n:St) (p:Cap X scope N σ n) (hsz:xs.length<=sizeLine)
  (B:∀R:It->Hp->Prop,(∀J:It,(∀H' i x,Same H H'->xs[i]?=some x->J.go i H'/\∀y H2,J.yld i H' y H2->H2=H'/\y=x)->(∀H',Same H H'->J.stop xs.length H')->R J H)->wi σ H R)
  (C:∀(i:Nat) (x:V),xs[i]?=some x->∀H' R l,Same H H'->(∀y H2,Same H' H2->Rel i H2 y->R y H2)->te ((n.set 0 l).set 0 (some x)) H' R) (E:n[0]?=some none)
  (q:∀D H' ys,Same H H'->H' D=some (.lst ys)->ys.length=xs.length->(∀(i:Nat) (y:V),ys[i]?=some y->Rel i H' y)->Q (.ref D) H') :
  jE X scope N wi (bF 0) kO te σ H Q:=by
 refine⟨n,p,B _ λJ go stop D h=>?_⟩;refine⟨λi m k H' ys=>i<=xs.length/\m=xs.length - i/\(∃l,k=n.set 0 l)/\Same H H'/\H' D=some (.lst ys)/\ys.length=i/\∀j y,ys[j]?=some y->Rel j H' y,⟨xs.length,bAF _,rfl,⟨none,jM E⟩,aO h _,aG,rfl,λj y e=>by simp at e⟩,?_⟩;rintro i m k H' ys ⟨hi,rfl,⟨l,rfl⟩,sm,hL,hl,hR⟩;refine⟨hL,?_⟩;by_cases a:i<xs.length
 ·right;obtain⟨u,w⟩:=go H' i xs[i] sm (b8 a);refine⟨u,λx H2 r=>?_⟩;obtain⟨rfl,rfl⟩:=w x H2 r;unfold bF kO;dsimp only;rw[if_pos rfl];refine C i xs[i] (b8 a) _ _ l sm λy A d v=>⟨d _ _ hL,by lia,xs.length - (i+1),by lia,a,rfl,⟨some xs[i],?_⟩,?_,aG,?_,?_⟩
  ·rw[bCK]
  ·intro b o e;rw[aM (aW e h)];exact d _ _ (sm _ _ e)
  ·rw[bAB,bFF,hl]
  ·intro j z c;refine F (d _ _ hL) ?_;by_cases t:j<ys.length
   ·rw[bAZ t] at c;exact G d (hR j z c)
   ·rw[bAW (by lia)] at c;have g:j - ys.length=0:=by
     by_cases s:j - ys.length=0
     ·exact s
     ·rw[bAD (by simp;lia)] at c;cases c
    have f:j=i:=by lia
    subst f;rw[g] at c;cases c;exact v
 ·left;have e:i=xs.length:=by lia
  subst e;exact⟨stop _ sm,q D _ ys sm hL hl hR⟩
def aVe (xs ys:List V)(n:ys.length=xs.length)(s:St)(k:Cap X scope N σ s)(m:xs.length<=sizeLine)
  (t:∀R:It->Hp->Prop,(∀J:It,(∀H' i x,Same H H'->xs[i]?=some x->J.go i H'/\∀y H2,J.yld i H' y H2->H2=H'/\y=x)->(∀H',Same H H'->J.stop xs.length H')->R J H)->wi σ H R)
  (u:∀(i:Nat) (x y:V),xs[i]?=some x->ys[i]?=some y->∀H' R l,Same H H'->(∀H2,Same H' H2->R y H2)->te ((s.set 0 l).set 0 (some x)) H' R) (o:s[0]?=some none)
  (q:∀D H',Same H H'->H' D=some (.lst ys)->Q (.ref D) H') :
  jE X scope N wi (bF 0) kO te σ H Q:=by
 refine aP9 xs (λi _ y=>ys[i]?=some y) (λ_ h=>h) (λ_ h=>h) s k m t (λi x d H' R l c r=>?_) o λD H' b c f p g=>?_
 ·have a:i<ys.length:=by rw[n];exact (List.getElem?_eq_some_iff.mp d).1
  exact u i x ys[i] d (b8 a) H' R l c λH2 j=>r _ H2 j (b8 a)
 ·have e:b=ys:=by
   refine bCS λi=>?_;by_cases a:i<b.length
   ·rw[g i b[i] (b8 a),b8 a]
   ·rw[bAD (by lia),bAD (by lia)]
  subst e;exact q D H' c f
def lH (b:X.A.units+1<cLine)(ho:VE X o td)(hi:VE X i ty)(a:bCh i):VE X (.Subscript o i pos) (aY7 td ty):=⟨aW8 b ho.1 hi.1 a⟩
def aDh (b:X.A.units+1<cLine)(hi:VE X i ty)(ho:VE X o td)(a:behindInMarks .NotIn o=false:=by first|exact nobehind _ (by decide) (by decide)|rfl):VT X (.Compare i [.NotIn] [o] pos) (tB (aOt ty td)):=⟨aT7 (aP8 b hi.1 ho.1) a⟩
def sel {α:Type}(p:Nat->Bool):Nat->List α->List α
 |_,[]=>[]
 |i,x::r=>if p i then x::sel p (i+1) r else sel p (i+1) r
theorem aBr {α:Type}(p:Nat->Bool)(x:α):∀k xs,sel p k (xs++[x])=sel p k xs++(if p (k+xs.length) then [x] else [])
 |k,[]=>by show (if p k then x::sel p (k+1) [] else sel p (k+1) [])=[]++(if p (k+0) then [x] else []);rw[Nat.add_zero,bEO];rfl
 |k,y::r=>by
  show (if p k then y::sel p (k+1) (r++[x]) else sel p (k+1) (r++[x]))=(if p k then y::sel p (k+1) r else sel p (k+1) r)++_;rw[aBr p x (k+1) r,t6,show k+1+r.length=k+(r.length+1) by lia]
  split <;> rfl
theorem aFc {α:Type}(p:Nat->Bool):∀(k:Nat) (xs:List α),(sel p k xs).length<=xs.length
 |_,[]=>j0 _
 |k,y::r=>by
  have:=aFc p (k+1) r;show (if p k then y::sel p (k+1) r else sel p (k+1) r).length<=r.length+1
  split
  ·rw[t6];lia
  ·lia
def aXt {X:Cx}{i0:Nat}{x0:Str}{c spos:Pos}{K h d:Expr}{P:List Expr}{scope:Scope}{pos:Pos}{N:List Str}{wi:TI}{g:TG}{tt:TT}{te:TE}
  (hN:X.N.Nodup) (G:X.N[i0]?=some x0) (J:Loc X.env.scope x0) (C:tH scope N) (U:∀y,(y,NameKind.free)∈scope.names->X.env.kindOf y=some .cell\/X.env.kindOf y=some .free) (hc:X.calm=true)
  (hi:PI X h d wi)
  (B:∀cl s H fp,PG (cxC X N scope cl s H fp) h g/\aQz (cxC X N scope cl s H fp) P tt/\PE (cxC X N scope cl s H fp) K te)
  (Z:∀x,foldedSetIterable d X.env x=pure x:=by intro _;rfl) (Q:swapsWith (.ListComp K [⟨h,d,P,0⟩] scope pos) (some (.Name x0 c)) spos.line X.env=pure true:=by rfl)
  (hf:X.fn x0=true\/X.env.scope.names.lookup x0=some .local:=by first|exact .inl rfl|exact .inr rfl|assumption) :
  PS X (.Assign [.Name x0 c] (.ListComp K [⟨h,d,P,0⟩] scope pos) spos) (aB5 (jE X scope N wi g tt te) (bF i0)):=by
 intro f s σ H Dn I i;rw[exec_Assign_Name_used _ _ _ _ Q];refine b7 (bFJ (b7 ?_));show wpAny _ X.A (do let _ <-comprehension (.ListComp K [⟨h,d,P,0⟩] scope pos) scope X.env _ (newList []) false (eval d X.env) (some (assign (.Name x0 c) X.env))) _ _ s;refine b7 (bBH (aDl (use:=some (assign (.Name x0 c) X.env)) (QQ:=λ_ t=>SP X f Dn .next t) C U hc hi B Z I i λD q r m ⟨V,l⟩ n fp R=>?_)
  (λ_ t i=>d8 (d8 i)) λ_ _ e=>e)
 have S:Inv X f σ r m:=n m.heap λ_ _ _ e=>e;obtain⟨F,u,g2,E,p,L⟩:=fp;show wpAny (model X.prog X.w) X.A (assign (.Name x0 c) X.env (.ref D)) _ _ m;refine wpAny_assign_Name (aEg S hN G J (v:=.ref D) rfl (λT W ⟨a,O,M⟩=>?_) hf);have k:q≠a:=by
  rcases M with z|z
  ·rw[z];exact u
  ·exact λe=>p x0 a z e.symm
 refine⟨V,l.sameBut O k,λY j=>?_⟩;exact⟨_,r,Inv.turned W (t':=T.toks) (it:=q) (λb o B e=>j.extBut b o B e) F u E p L,R⟩
def aW2
  (i:X.N.Nodup) (c:X.N[i0]?=some x0) (e:Loc X.env.scope x0) (C:tH scope N) (d:∀y,(y,NameKind.free)∈scope.names->X.env.kindOf y=some .cell\/X.env.kindOf y=some .free) (h:X.calm=true)
  (hi:VI X target iter wi)
  (a:∀cl s H fp,VG (cxC X N scope cl s H fp) target g/\VF (cxC X N scope cl s H fp) ifs tt/\VE (cxC X N scope cl s H fp) elt te)
  (j:∀x,foldedSetIterable iter X.env x=pure x:=by intro _;rfl) (b:swapsWith (.ListComp elt [⟨target,iter,ifs,0⟩] scope pos) (some (.Name x0 pos')) spos.line X.env=pure true:=by rfl)
  (f:X.fn x0=true\/X.env.scope.names.lookup x0=some .local:=by first|exact .inl rfl|exact .inr rfl|assumption) :
  VS X (.Assign [.Name x0 pos'] (.ListComp elt [⟨target,iter,ifs,0⟩] scope pos) spos) (aB5 (jE X scope N wi g tt te) (bF i0)):=
 ⟨aXt i c e C d h hi.1 (λcl s H fp=>⟨(a cl s H fp).1.1,(a cl s H fp).2.1.1,(a cl s H fp).2.2.1⟩) j b f⟩
section
variable {te:TE}{H:Hp}{Q:VK}
def aMl (xs:List V)(Rel:Nat->Hp->V->Prop)(E:∀{i H1 H2 y},Same H1 H2->Rel i H1 y->Rel i H2 y)(C:∀{i H1 D ys zs y},H1 D=some (.lst ys)->Rel i H1 y->Rel i (upd H1 D (.lst zs)) y)
  (v:St) (hsz:xs.length<=sizeLine)
  (J:It) (A:∀H' i x,Same H H'->xs[i]?=some x->J.go i H'/\∀y H2,J.yld i H' y H2->H2=H'/\y=x) (k:∀H',Same H H'->J.stop xs.length H')
  (w:∀(i:Nat) (x:V),xs[i]?=some x->∀H' R l,Same H H'->(∀y H2,Same H' H2->Rel i H2 y->R y H2)->te ((v.set 0 l).set 0 (some x)) H' R) (B:v[0]?=some none)
  (q:∀D H' ys,Same H H'->H' D=some (.lst ys)->ys.length=xs.length->(∀(i:Nat) (y:V),ys[i]?=some y->Rel i H' y)->Q (.ref D) H') :
  ∀D,H D=none->∃W:Nat->Nat->St->Hp->List V->Prop,(∃m,W 0 m v (upd H D (.lst [])) []) /\
   ∀i m σ' H' ys,W i m σ' H' ys->H' D=some (.lst ys)/\((J.stop i H'/\Q (.ref D) H')\/(J.go i H'/\∀x H2,J.yld i H' x H2->bF 0 x σ' H2 fun σ3 H3=>kO σ3 H3 λb H4=>
    if b=true then te σ3 H4 λy H5=>H5 D=some (.lst ys)/\ys.length<sizeLine/\∃m',m'<m/\W (i+1) m' σ3 (upd H5 D (.lst (ys++[y]))) (ys++[y]) else H4 D=some (.lst ys)/\∃m',m'<m/\W (i+1) m' σ3 H4 ys)):=by
 intro D h;refine⟨λi m σ' H' ys=>i<=xs.length/\m=xs.length - i/\(∃l,σ'=v.set 0 l)/\Same H H'/\H' D=some (.lst ys)/\ys.length=i/\∀j y,ys[j]?=some y->Rel j H' y,⟨xs.length,bAF _,rfl,⟨none,jM B⟩,aO h _,aG,rfl,λj y e=>by simp at e⟩,?_⟩;rintro i m σ' H' ys ⟨hi,rfl,⟨l,rfl⟩,sm,hL,hl,hR⟩;refine⟨hL,?_⟩;by_cases a:i<xs.length
 ·right;obtain⟨s,u⟩:=A H' i xs[i] sm (b8 a);refine⟨s,λx H2 n=>?_⟩;obtain⟨rfl,rfl⟩:=u x H2 n;unfold bF kO;dsimp only;rw[if_pos rfl];refine w i xs[i] (b8 a) _ _ l sm λy H3 d t=>⟨d _ _ hL,by lia,xs.length - (i+1),by lia,a,rfl,⟨some xs[i],?_⟩,?_,aG,?_,?_⟩
  ·rw[bCK]
  ·intro b o e;rw[aM (aW e h)];exact d _ _ (sm _ _ e)
  ·rw[bAB,bFF,hl]
  ·intro j z c;refine C (d _ _ hL) ?_;by_cases r:j<ys.length
   ·rw[bAZ r] at c;exact E d (hR j z c)
   ·rw[bAW (by lia)] at c;have g:j - ys.length=0:=by
     by_cases p:j - ys.length=0
     ·exact p
     ·rw[bAD (by simp;lia)] at c;cases c
    have f:j=i:=by lia
    subst f;rw[g] at c;cases c;exact t
 ·left;have e:i=xs.length:=by lia
  subst e;exact⟨k _ sm,q D _ ys sm hL hl hR⟩
end
section
variable {K:bF9}
def aFk (f:∀H',Same H H'->SqL K H' a xs):∀H' i x,Same H H'->xs[i]?=some x->(Itl K a).go i H'/\∀y H2,(Itl K a).yld i H' y H2->H2=H'/\y=x:=λH' i x s e=>
 ⟨⟨xs,x,f H' s,e⟩,λy H2 g=>by obtain⟨c,d⟩:=g;have b:=d xs (f H' s);rw[e] at b;cases b;exact⟨c,rfl⟩⟩
def uE (b:∀H',Same H H'->SqL K H' a xs):∀H',Same H H'->(Itl K a).stop xs.length H':=λH' s=>⟨xs,b H' s,j0 _⟩
end
section
variable {X:Cx}{K:bF9}{scope:Scope}{N:List Str}{tl te:TE}{σ:L2.St}{H:Hp}{Q:VK}
def aPn (Pr:List V->Prop)(Rel:Nat->Hp->V->Prop)(m:∀{i H1 H2 y},Same H1 H2->Rel i H1 y->Rel i H2 y)(k:∀{i H1 D ys zs y},H1 D=some (.lst ys)->Rel i H1 y->Rel i (upd H1 D (.lst zs)) y)
  (d:L2.St) (f:Cap X scope N σ d) (j:d[0]?=some none)
  (n:∀R:VK,(∀D H1 us,Same H H1->H1 D=some (.lst us)->Pr us->R (.ref D) H1)->tl σ H R)
  (h:∀us,Pr us->us.length<=sizeLine)
  (o:∀us,Pr us->∀(i:Nat) (x:V),us[i]?=some x->∀H' R l,Same H H'->(∀y H2,Same H' H2->Rel i H2 y->R y H2)->te ((d.set 0 l).set 0 (some x)) H' R)
  (q:∀us,Pr us->∀D H' ys,Same H H'->H' D=some (.lst ys)->ys.length=us.length->(∀(i:Nat) (y:V),ys[i]?=some y->Rel i H' y)->Q (.ref D) H') :
  jE X scope N (aNk K tl) (bF 0) kO te σ H Q:=
 ⟨d,f,n _ λD H1 us c b p=>⟨D,rfl,⟨us,SqL.of b⟩,aMl us Rel m k d (h us p) (Itl K D) (aFk λH' a=>SqL.of (a _ _ b)) (uE λH' a=>SqL.of (a _ _ b))
  (λi x e H' R l a r=>o us p i x e H' R l (c.trans a) r) j λg H' ys a=>q us p g H' ys (c.trans a)⟩⟩
end
def SqT.qQ {K:bF9}{H:Hp}{a D:Addr}{xs ys zs:List V}(b:H D=some (.lst ys))(h:SqT K H a xs):SqT K (upd H D (.lst zs)) a xs:=by
 rcases h with (h|⟨o,h⟩)|h
 ·exact .inl (.inl (by rw[aM (aKk h b (by intro z;cases z))];exact h))
 ·exact .inl (.inr ⟨o,by rw[aM (aKk h b (by intro z;cases z))];exact h⟩)
 ·exact .inr h
end L2
namespace PySem
end PySem
namespace L2
open PySem PySem.Spec PyProof.Rows
def classAt:Stmt->Nat->Stmt
 |.ClassDef _ _ _ body _ _ _ _ _ _ _,j=>body.getD j (.Pass ⟨0,0,0,0⟩)
 |st,_=>st
structure aUb (K:bF9)(mg:bGC)(x:Str)(C:Addr):Prop where
 at_:mg x=some (.ref C)
 cls:Cls K C
 mks:PySem.W.makesIn K C=true
 kp:PySem.W.keepIn K (.ref C)=true
def eV (K:bF9)(C:Addr)(m qual:Str)(st:Stmt)(ps:List Str):Prop:=∃f fd,Meth K C m f/\Fun K m qual st f fd/\Binds K fd ps []
section
variable {P:Program}{w:World}{K:bF9}{mg:bGC}{base:Heap}
def OkM (P:Program)(w:World)(K:bF9)(mg:bGC)(base:Heap)(C:Addr)(k:Nat)(m:Str)(ps:List Str)(sp:Sp):Prop:=
 ∃f fd,Cls K C/\Meth K C m f/\Binds K fd ps []/\eX P w K mg base CX0 k f fd ps sp
def OkM.mono (h:OkM P w K mg base C j m ps sp)(g:j<=k):OkM P w K mg base C k m ps sp:=by obtain⟨f,d,c,b,e,a⟩:=h;exact⟨f,d,c,b,e,a.mono g⟩
def OkM.ofV {C:Addr}{m qual:Str}{st:Stmt}{N ps:List Str}{k:Nat}{sp:Sp}(c:Cls K C)(D:eV K C m qual st ps)(S:aJ N ps (aC st))(e:∀vs H Q E,sp vs H Q E->vs.length=ps.length)
  (a:∀(f:Addr) (cdv:Value) (A:Around) (outer:List Env) (s:Shared) (H:Hp) (vs:List V) (Q:VK) (E:XK),Room k (A.deeper (envOfC qual (aC st) s.heap.objs.size f cdv))->sp vs H Q E ->
   ∃t,VSs (qN CX0 P w K mg base N qual (aC st) f cdv A outer s H E).nox (cT st) t/\t { nx:=λ_ H'=>Q .non H',rt:=Q } (start N vs) H):OkM P w K mg base C (k+1) m ps sp:=by
 obtain⟨f,d,b,F,B⟩:=D;exact⟨f,d,c,b,B,Fun.okV F S e λcdv A outer s H vs Q E g h=>a f cdv A outer s H vs Q E g h⟩
def OkC (P:Program)(w:World)(K:bF9)(mg:bGC)(base:Heap)(C:Addr)(k:Nat)(x:Str)(ps:List Str)(sp:Sp):Prop:=
 ∃f fd,mg x=some (.ref C)/\Mk K C f/\Binds K fd ps []/\eX P w K mg base CX0 k f fd ps sp
def OkC.mono (h:OkC P w K mg base C j x ps sp)(g:j<=k):OkC P w K mg base C k x ps sp:=by obtain⟨f,d,c,b,e,a⟩:=h;exact⟨f,d,c,b,e,a.mono g⟩
def OkM.make (c:aUb K mg x C)(h:OkM P w K mg base C k "__init__" ps sp):OkC P w K mg base C k x ps sp:=by obtain⟨f,d,g,a,e,b⟩:=h;exact⟨f,d,c.at_,⟨c.mks,a.at_,a.fn,c.kp⟩,e,b⟩
end
section
variable {X:Cx}{e o value:Expr}{es:List Expr}{f m x:Str}{p pos pos' apos:Pos}{t:TA}{C:Addr}{k:Nat}{ps:List Str}{sp:Sp}
def cR {K:bF9}(b:VE X e ta)(a:attributeBase e f X.env (eval e X.env)=eval e X.env:=by rfl)(h:X.K=K:=by rfl):VE X (.Attribute e f pos) (bD4 K ta f):=by subst h;exact⟨bCm b.1 a⟩
def aA4 {K:bF9}(b:VE X o ta)(a:VE X value tv)(c:swapsWith value (some (.Attribute o f pos')) pos.line X.env=pure false:=by rfl)(h:X.K=K:=by rfl):VS X (.Assign [.Attribute o f pos'] value pos) (bCw K ta tv f):=by subst h;exact⟨bAj b.1 a.1 c⟩
def aX5 (G:OkM X.prog X.w X.K X.mg X.base C k m ps sp)(l:Room k X.A)(n:VE X o ta)(h:VA X (e::es) t)
  (i:cB e=true:=by rfl) (b:(backTo pos (starEach es X.env)).any (·.1)=false:=by rfl)
  (p:eval (.Call (.Attribute o m apos) (e::es) [] pos) X.env=(do
   let ov <-eval o X.env
   standAt apos.atName
   let (f,first) <-holding [ov] (getMethod ov m pl)
   callWith pos f first (backTo pos (starEach (e::es) X.env)) (backToKw pos (keywordEach [] X.env))):=by rfl):VE X (.Call (.Attribute o m apos) (e::es) [] pos) (aEh C m sp [] E0 ta t):=by
 obtain⟨f,j,d,c,g,a⟩:=G;exact⟨aNt n.1 d c a l g .nil zA h.1 (aN i) b p⟩
def uB (G:OkM X.prog X.w X.K X.mg X.base C k m ps sp)(h:Room k X.A)(g:VE X o ta)
  (i:eval (.Call (.Attribute o m apos) [] [] pos) X.env=(do
   let ov <-eval o X.env
   standAt apos.atName
   let (f,first) <-holding [ov] (getMethod ov m pl)
   callWith pos f first (backTo pos (starEach [] X.env)) (backToKw pos (keywordEach [] X.env))):=by rfl):VE X (.Call (.Attribute o m apos) [] [] pos) (aEh C m sp [] E0 ta qO):=by
 obtain⟨f,e,c,b,d,a⟩:=G;exact⟨aTx g.1 c b a h d .nil zA i⟩
def aOz (G:OkC X.prog X.w X.K X.mg X.base C k x ps sp)(m:Room (k+1) X.A)(n:Gl X x)(i:VA X (e::es) t)(a:(x == ("__debug__":Str))=false:=by decide)(j:cB e=true:=by rfl)(c:(backTo pos (starEach es X.env)).any (·.1)=false:=by rfl) :
  VE X (.Call (.Name x p) (e::es) [] pos) (aZb C sp [] E0 t):=by
 obtain⟨f,l,g,d,h,b⟩:=G;exact⟨aWd d b m n g h .nil zA i.1 a (aN j) c⟩
end
end L2
namespace PySem
def Ris (xs:Array Nat):Prop:=∀a b (ha:a<xs.size) (hb:b<xs.size),a<b->xs[a]<xs[b]
theorem aAf (c:Ris xs):∀fuel lo hi,hi - lo<=fuel->lo<=hi->hi<=xs.size->(∀k h,k<lo->xs[k]<j)->(∀k h,hi<=k->j<=xs[k]) ->
  SetTable.below.go xs j fuel lo hi<=xs.size/\(∀k (h:k<xs.size),k<SetTable.below.go xs j fuel lo hi->xs[k]<j)/\∀k (h:k<xs.size),SetTable.below.go xs j fuel lo hi<=k->j<=xs[k]
 |0,lo,hi,hf,h1,h2,h3,h4=>by
  have e:lo=hi:=by lia
  subst e;exact⟨h2,h3,h4⟩
 |fuel+1,lo,hi,hf,h1,h2,h3,h4=>by
  unfold SetTable.below.go
  split
  ·rename_i f;have m:(lo+hi) / 2<hi:=by lia
   have g:lo<=(lo+hi) / 2:=by lia
   have a:(lo+hi) / 2<xs.size:=by lia
   dsimp only;rw[v8,j6 a,bBR]
   split
   ·rename_i b;refine aAf c fuel _ _ (by lia) (by lia) h2 (λk d i=>?_) h4;by_cases e:k=(lo+hi) / 2
    ·subst e;exact b
    ·exact bEY (c k _ d a (by lia)) b
   ·rename_i b;refine aAf c fuel _ _ (by lia) (by lia) (by lia) h3 λk d l=>?_;by_cases e:k=(lo+hi) / 2
    ·subst e;lia
    ·exact bAE (Nat.le_of_not_lt b) (bDJ (c _ k a d (by lia)))
  ·have e:lo=hi:=by lia
   subst e;exact⟨h2,h3,h4⟩
def mD (c:Ris xs)(j:Nat):SetTable.below xs j<=xs.size/\(∀k h,k<SetTable.below xs j->xs[k]<j)/\∀k h,SetTable.below xs j<=k->j<=xs[k]:=
 aAf c xs.size 0 xs.size (by lia) (bAF _) (j0 _) (λk _ h=>absurd h (bFR _)) (λk a b=>absurd a (by lia))
def lM {α:Type}(xs:Array α)(p:Nat)(x:α)(hp:p<=xs.size):(SetTable.insertAt xs p x).toList=xs.toList.take p++x::xs.toList.drop p:=by unfold SetTable.insertAt;rw[bDD,Array.toList_push,Array.toList_extract,Array.toList_extract];simp only[List.extract_eq_drop_take,List.drop_zero,Nat.sub_zero,bDC,List.singleton_append];have e:(xs.toList.drop p).take (xs.size - p)=xs.toList.drop p:=bAV (by rw[bBL,v9];exact j0 _);rw[e]
def zQ {xs:Array Nat}:Ris xs↔xs.toList.Pairwise (·<·):=by
 rw[List.pairwise_iff_getElem];unfold Ris;constructor
 ·intro h i j g e d;exact h i j (by simpa using g) (by simpa using e) d
 ·intro h a b f k c;exact h a b (by simpa using f) (by simpa using k) c
def aM0 {xs:Array Nat}{j:Nat}(l:Ris xs)(r:xs[SetTable.below xs j]?≠some j):Ris (SetTable.insertAt xs (SetTable.below xs j) j):=by
 obtain⟨p,o,n⟩:=mD l j;rw[zQ,lM _ _ _ p,List.pairwise_append,List.pairwise_cons];have m:=zQ.mp l;have below:∀a∈xs.toList.take (SetTable.below xs j),a<j:=λa d=>by
  obtain⟨i,e,rfl⟩:=bBJ d;rw[List.getElem_take];rw[bAR] at e;have f:i<xs.toList.length:=by lia
  exact o i (by simpa using f) (by lia)
 have c:∀a∈xs.toList.drop (SetTable.below xs j),j<a:=λa d=>by
  obtain⟨i,e,rfl⟩:=bBJ d;rw[List.getElem_drop];rw[bBL] at e;have g:SetTable.below xs j+i<xs.toList.length:=by lia
  have k:SetTable.below xs j+i<xs.size:=by simpa using g
  have q:=n _ k (bDH _ _);rw[Array.getElem_toList];rcases bF0 q with h|h
  ·exact h
  ·exfalso;cases i with
   |zero=>exact r ((j6 k).trans (congrArg some h.symm))
   |succ i=>
    have hb:SetTable.below xs j<xs.size:=by lia
    have s:=n _ hb (j0 _);have t:=l _ _ hb k (by lia);lia
 refine⟨m.sublist (bF3 _ _),⟨c,m.sublist (List.drop_sublist _ _)⟩,λa d b hb=>?_⟩;rcases List.mem_cons.mp hb with rfl|hb
 ·exact below a d
 ·exact bEY (below a d) (c b hb)
def TabOk (b:Bool)(t:SetTable):Prop:=(b=false->t.led=true)/\t.dummies=#[]/\7<=t.mask/\(t.plain=true->Ris t.place)
def xG {α β:Type}{R:α->β->Prop}{bs' bs:List β}(p:bs'.Perm bs):∀{as:List α},Paired R as bs->∃as',Paired R as' bs'/\as'.Perm as:=by
 induction p with
 |nil=>intro as h;exact⟨as,h,.refl _⟩
 |cons x _ ih=>
  intro as h;cases h with
  |cons r t=>obtain⟨as',b,a⟩:=ih t;exact⟨_,.cons r b,a.cons _⟩
 |swap x y l=>
  intro as h;cases h with
  |cons r t=>
   cases t with
   |cons r2 t2=>exact⟨_,.cons r2 (.cons r t2),.swap ..⟩
 |trans _ _ ih1 ih2=>intro as h;obtain⟨f,b,a⟩:=ih2 h;obtain⟨c,e,d⟩:=ih1 b;exact⟨c,e,d.trans a⟩
def xN {α β:Type}{R:α->β->Prop}{as:List α}{bs:List β}{a:α}{b:β}(h:Paired R as bs)(r:R a b):Paired R (as++[a]) (bs++[b]):=by
 induction h with
 |nil=>exact .cons r .nil
 |cons q _ ih=>exact .cons q ih
def aHx {α β:Type}{R:α->β->Prop}{as:List α}{bs:List β}(h:Paired R as bs):∀a∈as,∃b∈bs,R a b:=by
 induction h with
 |nil=>intro a ha;cases ha
 |cons q _ ih=>
  intro a ha;rcases List.mem_cons.mp ha with rfl|ha
  ·exact⟨_,j4,q⟩
  ·obtain⟨b,c,r⟩:=ih a ha;exact⟨b,j5 _ c,r⟩
def wY {α β:Type}{R:α->β->Prop}{as:List α}{bs:List β}(h:Paired R as bs):∀b∈bs,∃a∈as,R a b:=by
 induction h with
 |nil=>intro a c;cases c
 |cons q _ ih=>
  intro b hb;rcases List.mem_cons.mp hb with rfl|hb
  ·exact⟨_,j4,q⟩
  ·obtain⟨a,c,r⟩:=ih b hb;exact⟨a,j5 _ c,r⟩
section
variable {κ:Type}[DecidableEq κ]
def byT (w:World):Bool:=w.params.followText "set-order"
def Ded (kl xs:List κ):Prop:=kl.Nodup/\(∀k,k∈kl↔k∈xs)/\kl.length<=xs.length
def Ded.more {l kl' xs:List κ}{k:κ}(h:Ded l xs)(p:kl'.Perm (if k∈l then l else l++[k])):Ded kl' (xs++[k]):=by
 obtain⟨g,d,j⟩:=h;by_cases c:k∈l
 ·rw[if_pos c] at p;refine⟨p.nodup_iff.mpr g,λy=>?_,by rw[p.length_eq,bAB];lia⟩;rw[p.mem_iff,d,bFS,bDA];exact⟨.inl,λz=>z.elim id λe=>e ▸ (d k).mp c⟩
 ·rw[if_neg c] at p;refine⟨p.nodup_iff.mpr (List.nodup_append.mpr ⟨g,by simp,λa i b f e=>?_⟩),λy=>?_,by rw[p.length_eq,bAB,bAB];exact Nat.add_le_add_right j _⟩
  ·rw[bDA] at f;exact c (f ▸ e ▸ i)
  ·rw[p.mem_iff,bFS,bFS,d]
def aHc (a:Value)(h:Q₁ (.ref s.heap.objs.size) { s with heap:=s.heap.push (cI (!byT w)) }):codeAny (model prog w) A (.call (.builtin "set.__new__") ⟨[.type "set",a],[]⟩) (wants Q₁ E) s:=by have b:=sub_set_self;refine codeAny_of_tree (show wpAny _ A.in1 (do checkBuiltinCall "set.__new__" ⟨[.type "set",a],[]⟩;again (.builtin "set.__new__" ⟨[.type "set",a],[]⟩)) _ _ s from b7 (bEU (F.newCall_set_1 a) (d8 ⟨bCH F.plain_set_new _,bBK F.entry_set_new ?_⟩)));rw[bBA F.plain_set_new _];unfold Builtin.«set.__new__» Builtin.Frozenset.newClass;obtain⟨e,g,d,f,c⟩:=s;dsimp only;wp_walk;refine bDI (d8 ?_);dsimp only;simp only[newObj];exact b7 (wpAny_alloc (d8 (d8 h)))
def Ex (h0 h:Heap):Prop:=∀b o,h0.get? b=some o->h.get? b=some o
structure Kset (prog:Program)(w:World)(κ:Type)[DecidableEq κ](A:Around)(h0:Heap)(D:Addr)(S:Heap->List κ->Prop)(V:κ->Value->Prop)(m:Nat):Prop where
 at_:∀{h h':Heap} {kl:List κ},S h kl->(∀o,h.get? D=some o->h'.get? D=some o)->S h' kl
 add:∀{A':Around} {E:bGA} {s:Shared} {kl:List κ} {k:κ} {v:Value} {Q:Bool->Shared->Prop},A'.units<=A.units+9->Ex h0 s.heap->V k v->S s.heap kl->kl.length<m->(∀h' tk kl' b,Heap.SameBut D s.heap h'->S h' kl'->kl'.Perm (if k∈kl then kl else kl++[k])->Q b { s with heap:=h',toks:=tk })->wpAny (model prog w) A' (setAdd D v) Q E s
 new:∀{h:Heap},h.get? D=some (cI (!byT w))->S h []
def aP1 (W:Walks prog w A.in1 I fp wr n P St)(G:D∉fp)(Z:Kset prog w κ A0 h0 D S V m)(hA:A.units+1<=A0.units+9)(Q:∀b∈D::wr,h0.get? b=none)
  (ks:List κ) (U:ks.length=n) (F:∀i v,P i v->∃k,ks[i]?=some k/\V k v) (X:n<=m) :
  ∀k i s kl,i+k=n->St i s.heap->Ex h0 s.heap->S s.heap kl->Ded kl (ks.take i) ->
   (∀h' tk kl',(∀b o,b∉D::wr->s.heap.get? b=some o->h'.get? b=some o)->S h' kl'->Ded kl' ks->R (.ok (.ret .none)) { s with heap:=h',toks:=tk }) ->
   codeAny (model prog w) A (.builtin "set.update.loop" ⟨[.ref D,.ref I],[]⟩) R s:=by
 have d:D∉wr:=λq=>G (W.sub _ q);have g:∀{b:Addr} {o:Obj},h0.get? b=some o->b∉D::wr:=λe z=>by rw[Q _ z] at e;cases e
 intro k
 induction k with
 |zero=>
  intro i s kl J x r p f q;obtain rfl:i=n:=by lia
  refine bBK bEI ?_;rw[bBA bCW _];refine b7 (W.done s _ _ x λh' tk l=>?_);rw[bAV (Nat.le_of_eq U)] at f;exact d8 (q h' tk kl (λb o a e=>l b o (λz=>a (j5 _ z)) e) (Z.at_ p λo e=>l D o d e) f)
 |succ k ih=>
  intro i s kl J x r p f q;refine bBK bEI ?_;rw[bBA bCW _];refine b7 (W.item i s _ _ (by lia) x λv O L N y c=>?_);obtain⟨kk,H,E⟩:=F i v N;have B:Ex h0 O:=λb o e=>c b o (λz=>g e (j5 _ z)) (r b o e);show wpAny _ A.in1 (holding [v] (setAdd D v) >>= _) _ _ _;refine b7 (bAP ?_);have lt:(ks.take i).length=i:=by rw[bAR];lia
  refine Z.add hA B E (Z.at_ p λo e=>c D o d e) (by have:=f.2.2;lia) λY a0 t b2 h C K=>?_;have T:ks.take (i+1)=ks.take i++[kk]:=by rw[bBW,H];rfl
  have j:∀b o,b∉D::wr->s.heap.get? b=some o->Y.get? b=some o:=λb o a e=>by rw[h.2 b (λz=>a (by rw[z];exact j4))];exact c b o (λz=>a (j5 _ z)) e
  refine d8 ⟨bCH bCW _,ih (i+1) _ t (by lia) (W.frame _ _ _ y λb X o e=>?_) (λb o e=>j b o (g e) (r b o e)) C (by rw[T];exact f.more K) λh' tk kl' l u M=>q h' tk kl' (λb o a e=>l b o a (j b o a e)) u M⟩;rw[h.2 b (λz=>G (by rw[<-z];exact X))];exact e
def aP7 {A:Around}{R:Fin->Shared->Prop}{E:bGA}{s:Shared}{l:Addr}{its:Array Value}{ks:List κ}(J:A.handled=none)(Z:Kset prog w κ A0 s.heap s.heap.objs.size S V m)(N:A.units+1<=A0.units+9)(M:s.heap.IsList l its)(D:ks.length=its.size)
  (B:∀(i:Nat) (v:Value),its[i]?=some v->∃k,ks[i]?=some k/\V k v) (a:its.size<=m)
  (q:∀h' tk kl,S h' kl->Ded kl ks->(∀b o,b<s.heap.objs.size->s.heap.get? b=some o->h'.get? b=some o)->R (.done (.ret .none)) { s with heap:=h',toks:=tk }) :
  wpAny (model prog w) A (Builtin.«set.__init__» ⟨[.ref s.heap.objs.size,.ref l],[]⟩) R E { s with heap:=s.heap.push (cI (!byT w)) }:=by
 obtain⟨⟨P,H,T,r⟩,j,d,G,n⟩:=id M;simp only at d n;subst d n;have z:(s.heap.push (cI (!byT w))).get? s.heap.objs.size=some (cI (!byT w)):=j8 _ rfl;have O:Shared.TypeIs { s with heap:=s.heap.push (cI (!byT w)) } (.ref s.heap.objs.size) "set":=⟨_,z,rfl⟩;have h:(s.heap.push (cI (!byT w))).get? l=some { cls:=.type "list",dict:=H,data:=.seq its G,slots:=r }:=d7 _ j;have U:=F.sub_list_set;have W:=F.sub_list_frozenset;have Q:(Value.type "list" == Value.type "dict")=false:=by decide
 have g:(s.heap.push (cI (!byT w))).IsList l its:=⟨_,h,rfl,G,rfl⟩;have c:l<s.heap.objs.size:=m9 j;unfold Builtin.«set.__init__» noKeywords Builtin.Frozenset.updateFrom;generalize y:pyIter=PI;wp_walk;subst y;refine bCR g ?_;refine b7 (wpAny_runValue ?_);have p:(s.heap.push (cI (!byT w))).objs.size=s.heap.objs.size+1:=bBP ..;have u:l≠(s.heap.push (cI (!byT w))).objs.size:=by rw[p];exact v7 (bCJ c)
 have t:s.heap.objs.size∉[(s.heap.push (cI (!byT w))).objs.size,l]:=by rw[p];simp only[bAC,z9,or_false,not_or];exact⟨v7 (bCY _),bCP c⟩
 have C:∀b,s.heap.objs.size<=b->s.heap.get? b=none:=λb a=>by
  cases e:s.heap.get? b with
  |none=>rfl
  |some o=>exact absurd (m9 e) (Nat.not_lt.mpr a)
 refine aP1 (Walks.list (by first|exact J|simp[J]) _ l u its) t Z N (λb a=>?_) ks D B a its.size 0 _ [] (by lia) ⟨⟨_,j8 _ rfl,rfl,rfl⟩,g.push _⟩ (λb o e=>d7 _ (d7 _ e)) ?_ ⟨List.nodup_nil,λk=>by simp,bAF _⟩ λh' tk kl K x L=>?_
 ·rw[p] at a;simp only[bAC,z9,or_false] at a;rcases a with rfl|rfl
  ·exact C _ (j0 _)
  ·exact C _ (bDB _)
 ·have I:((s.heap.push (cI (!byT w))).push { cls:=.type "list_iterator",data:=.fields #[.ref l,.int 0 0] }).get? s.heap.objs.size=some (cI (!byT w)):=d7 _ z;exact Z.new I
 ·refine d8 (d8 (q h' tk kl x L λb o f e=>K b o ?_ (d7 _ (d7 _ e))));rw[p];simp only[bAC,z9,or_false,not_or];exact⟨v7 f,v7 (bCJ f)⟩
def aEm {l:Addr}{its:Array Value}{ks:List κ}{Q:bGA}(B:A.handled=none)(Z:Kset prog w κ A s.heap s.heap.objs.size S V m)(H:s.heap.IsList l its)(u:ks.length=its.size)
  (t:∀(i:Nat) (v:Value),its[i]?=some v->∃k,ks[i]?=some k/\V k v) (L:its.size<=m)
  (q:∀h' tk kl,S h' kl->Ded kl ks->(∀b o,b<s.heap.objs.size->s.heap.get? b=some o->h'.get? b=some o)->Q (.ref s.heap.objs.size) { s with heap:=h',toks:=tk }) :
  wpAny (model prog w) A (call (.type "set") [.ref l]) Q E s:=by
 have d:=F.called_set;obtain⟨c,M,j⟩:=d.mro;have G:=d.made;have K:=d.sub;have C:=d.notType;have D:=d.canCreate;have J:=F.typeCall_set_1 (.ref l);refine bCT (codeAny_of_tree (show wpAny _ _ (callAny (.type "set") _) _ _ _ from d8 ⟨Code.quiet_builtin _ (by trivial),bBK F.entry_type_call ?_⟩));rw[Around.under_plain (weight_type_call_type "set" [.ref l] []) (by rfl)]
 repeat (any_goals (first|assumption|wp_step))
 refine bCI (aHc (.ref l) (Q₁:=λobj n=>obj=.ref s.heap.objs.size/\n={ s with heap:=s.heap.push (cI (!byT w)) }) (E:=E) ⟨rfl,rfl⟩) λr n f=>?_;rcases r with e|fl
 ·exact f
 rcases fl with _|_|_|obj
 ·exact f.elim
 ·exact f.elim
 ·exact f.elim
 obtain⟨rfl,rfl⟩:=f;have y:Shared.TypeIs { s with heap:=s.heap.push (cI (!byT w)) } (.ref s.heap.objs.size) "set":=⟨_,j8 _ rfl,rfl⟩;have I:=d.init.lookup;have N:=d.init.bind (.ref s.heap.objs.size)
 repeat (any_goals (first|assumption|wp_step))
 refine bCI (bCE (R:=wants (λr p=>r=.none/\∃h' tk kl,p={ s with heap:=h',toks:=tk }/\S h' kl/\Ded kl ks/\∀b o,b<s.heap.objs.size->s.heap.get? b=some o->h'.get? b=some o) E)
  d.init.plain F.entry_set_init (check_set_init_1 y (aP7 (by first|exact B|simp[B]) Z (by simp only[Around.in1_units];lia) H u t L λh' tk kl x g h=>⟨rfl,h',tk,kl,rfl,x,g,h⟩))) λz p a=>?_
 rcases z with e|fl
 ·exact a
 rcases fl with _|_|_|v
 ·exact a.elim
 ·exact a.elim
 ·exact a.elim
 obtain⟨rfl,h',tk,kl,rfl,x,g,h⟩:=a
 repeat (any_goals (first|assumption|wp_step))
 exact q h' tk kl x g h
end
open PySem.Spec PyProof.Rows
def TxS (prog:Program)(w:World)(h:Heap)(D:Addr)(kl:List Str):Prop:=h.SetOf (strKind prog w) D (λy=>decide (y∈kl)) kl.length
def TxS.at (x:TxS prog w h D kl)(e:∀o,h.get? D=some o->h'.get? D=some o):TxS prog w h' D kl:=by obtain⟨o,b,a,t,c,r⟩:=x;exact⟨o,b,a,t,e o c,r⟩
def bAe (A:Around)(h0:Heap)(D:Addr):Kset prog w Str A h0 D (λh kl=>TxS prog w h D kl) (λk v=>∃t,v=.str k t) 1000:=⟨λx e=>x.at e,λ{j E s kl k v Q} _ _ c f l q=>by
 obtain⟨t,rfl⟩:=c;unfold setAdd;refine bAP (b7 ((strKind prog w).pyHash (k:=k) (strKind_is _ _ _ _) ?_));refine wpAny_setAddHashed_of (knd:=strKind prog w) (strKind_is _ _ _ _) rfl f (by unfold scanBound;lia) λi b a=>q i _ (if k∈kl then kl else kl++[k]) _ b ?_ (.refl _);have d:(λy=>decide (y∈if k∈kl then kl else kl++[k]))=λy=>(decide (y∈kl) || decide (y=k)):=funext λy=>by
  by_cases z:k∈kl
  ·rw[if_pos z,bCM];simp only[Bool.or_eq_true,decide_eq_true_eq];exact⟨.inl,λh=>h.elim id λe=>e ▸ z⟩
  ·rw[if_neg z,bCM];simp only[Bool.or_eq_true,decide_eq_true_eq,bFS,bDA]
 show Heap.SetOf _ _ _ _ _;rw[d];by_cases z:k∈kl
 ·rw[if_pos (v4 z)] at a;rw[if_pos z];exact a
 ·rw[if_neg (by rw[v5 z];exact v6)] at a;rw[if_neg z,bAB];exact a,λg=>(PyProof.Rows.setObjOf_fresh (knd:=strKind prog w) (!byT w)).setOf g (by decide)⟩
theorem aA3:∀(ss kl:List Str),kl.Nodup->(∀x∈kl,x∈ss)->kl.length<=ss.length/\(kl.length=ss.length->ss.Nodup)
 |[],kl,_,h=>by
  cases kl with
  |nil=>exact⟨j0 _,λ_=>List.nodup_nil⟩
  |cons a l=>exact absurd (h a j4) z9
 |a::r,kl,nd,h=>by
  by_cases z:a∈kl
  ·have m:=List.length_erase_of_mem z;have i:∀x∈kl.erase a,x∈r:=λx b=>by obtain⟨c,d⟩:=(nd.mem_erase_iff).mp b;exact (List.mem_cons.mp (h x d)).resolve_left c
   obtain⟨k,j⟩:=aA3 r _ (nd.erase a) i;have g:=List.length_pos_of_mem z;refine⟨by rw[t6];lia,λe=>?_⟩;rw[t6] at e;refine List.nodup_cons.mpr ⟨λf=>?_,j (by lia)⟩;have:=(aA3 r kl nd λx b=>(List.mem_cons.mp (h x b)).elim (λe=>e ▸ f) id).1;lia
  ·have:=(aA3 r kl nd λx b=>(List.mem_cons.mp (h x b)).resolve_left λe=>z (e ▸ b)).1;exact⟨by rw[t6];lia,λe=>by rw[t6] at e;lia⟩
def aKe {e c:List Str}(d:Ded e c):e.length=c.length↔c.Nodup:=
 ⟨(aA3 c e d.1 λx a=>(d.2.1 x).mp a).2,λb=>Nat.le_antisymm d.2.2 (aA3 e c b λx a=>(d.2.1 x).mpr a).1⟩
end PySem
namespace L2
open PySem PySem.Spec PyProof.Rows
def aS2 (P:Program)(w:World)(D:Addr)(kl:List Str):HO:=.ext λh=>TxS P w h D kl
def bCd (P:Program)(w:World)(K:bF9):List V->Hp->VK->Prop:=λxs H Q=>∃p ss,xs=[.ref p]/\SqL K H p (ss.map V.str)/\ss.length<=1000/\∀D kl,H D=none->Ded kl ss->Q (.ref D) (upd H D (aS2 P w D kl))
def aLm (R:X.calm=true):cA X (.type "set") (bCd X.prog X.w X.K):=by
 intro L s σ H S N Q I r h;obtain⟨p,J,rfl,B,z,q⟩:=h;obtain⟨u,rfl,A⟩:=r.one;cases A;obtain⟨d,m,G,M⟩:=I.list B;have a:=m.length;rw[j7] at a;refine aEm (I.ok.hd R) (bAe _ _ _) G.isList (by rw[d9];exact a) (λi v E=>?_) (by rw[d9,<-a];exact z) λf O j x D C=>?_
 ·have c:d[i]?=some v:=by simpa using E
  have g:i<J.length:=by rw[a];exact (List.getElem?_eq_some_iff.mp c).1
  obtain⟨u,l,t,rfl⟩:=m.get (by rw[t7,b8 g];rfl);rw[c] at l;cases l;exact⟨_,b8 g,t,rfl⟩
 ·have e:∃o,f.get? s.heap.objs.size=some o:=by obtain⟨o,_,_,_,F,_⟩:=x;exact⟨o,F⟩
  exact⟨.ref s.heap.objs.size,_,I.laid (o:=aS2 X.prog X.w s.heap.objs.size j) (λb o n=>C b o (m9 n) n) (j0 _) (show TxS X.prog X.w f s.heap.objs.size j/\_/\_ from ⟨x,e,λP T y k=>y.at k⟩),rfl,q _ _ (I.hok.fresh (j0 _)) D⟩
def aLg:cA X (.builtin "len") (λxs H Q=>∃D kl,xs=[.ref D]/\H D=some (aS2 X.prog X.w D kl)/\Q (.int (kl.length:Nat)) H):=by intro g s σ H xs m Q I r h;obtain⟨D,j,rfl,c,q⟩:=h;obtain⟨u,rfl,e⟩:=r.one;cases e;obtain⟨⟨o,p,n,t,f,a,hd,d,b,i,k,l⟩,_⟩:=I.hok D _ c;refine call_len_set f a hd k (by unfold scanBound at i;lia) ?_;rw[l];exact⟨.int (j.length:Nat),H,I.tok _,⟨_,rfl⟩,q⟩
end L2
namespace PySem
open Sem (wp)
section
variable {M:Model}{prog:Program}{w:World}{A:Around}{E:bGA}{R:Result->Shared->Prop}{h:Heap}{g:Array GenState}{d:Drawn}{t:Nat}{os:OsState}
variable {nm q:Str}{C N:Addr}{bs bm bmN:List Value}{hdct:Bool}{sn:List Str}{sub:List Value}{ab:Bool}{col:Option Bool}{dd:Option Addr}{k0 k1 k2 k3 k5:Option Value}{Bn newId inN:String}
def aKj (e:ExcBaseFacts Bn newId inN bmN)(f:bm.contains (.type Bn)=true){rest:List Value}{Q:Unit->Shared->Prop}(b:h.get? C=some (excClassObj nm q C N bs bm hdct sn sub ab col dd k0 k1 k2 k3 k5 newId))
  (i:Q () ⟨h,g,d,t,os⟩):wpAny M A (checkBuiltinCall newId ⟨.ref C::rest,[]⟩) Q E ⟨h,g,d,t,os⟩:=by
 have a:(Value.ref C::bm).contains (.type Bn)=true:=by rw[bBN,f,bDN]
 have c:=e.noStar;simp only[checkBuiltinCall,e.newKind,e.newSplit,e.newRow]
 repeat (first|refine bBX b ?_|(refine bDE b ?_;rw[a])|refine wpAny_staticBase_exc b ?_|refine wpAny_madeBy_exc b ?_|simp only[bne_self_eq_false,bBC,if_false]|wp_step)
 exact i
def bD1 (i:ExcBaseFacts Bn newId inN bmN)(k:bm.contains (.type Bn)=true)(l:bm.contains (.type "AttributeError")=false)(m:bm.contains (.type "NameError")=false){rest:List Value}(j:h.get? C=some (excClassObj nm q C N bs bm hdct sn sub ab col dd k0 k1 k2 k3 k5 newId))
  (n:R (.ok (.ret (.ref (h.objs.size+1)))) ⟨(h.push { cls:=.type "tuple",data:=.seq rest.toArray }).push
   { cls:=.ref C,data:=.fields #[.ref h.objs.size,.none,.none,.none,.bool false,.none] },g,d,t,os⟩) (hrest:rest.length<=sizeLine:=by size_fits) :
  codeAny (model prog w) A (.builtin newId ⟨.ref C::rest,[]⟩) R ⟨h,g,d,t,os⟩:=by
 have e:=i.ends;have a:(Value.ref C::bm).contains (.type Bn)=true:=by rw[bBN,k,bDN]
 have b:(Value.ref C::bm).contains (.type "AttributeError")=false:=by rw[bBN,l];rfl
 have f:(Value.ref C::bm).contains (.type "NameError")=false:=by rw[bBN,m];rfl
 refine codeAny_builtinAt i.entry ?_;unfold Builtin.«BaseException.__new__»;refine wpAt_bind ?_;refine wpAt_bind (wpAt_stack λp c=>wpAt_of_wpAny ?_);wp_walk;refine wpAt_of_wpAny ?_;rw[i.owner]
 repeat (first|with_reducible refine wpAny_madeHere_exc i.canon j ?_|with_reducible refine bBX j ?_|(with_reducible refine bDE j ?_;first|rw[a]|rw[b]|rw[f])|wp_step)
 rw[bBP];exact n
end
end PySem
namespace L2
open PySem PySem.Spec PyProof.Rows
def aBe:List Value->Bool
 |.ref _::r=>aBe r
 |l=>l == [.type "ValueError",.type "Exception",.type "BaseException",.type "object"]
theorem vG (a:Value):∀{l:List Value},aBe l=true->refuseLoop a "__setattr__" l=pure ()
 |[],e=>absurd e (by decide)
 |.ref c::r,e=>by rw[refuseLoop_ref];exact vG a e
 |.none::r,e|.bool _::r,e|.int _ _::r,e|.str _ _::r,e|.float _ _::r,e|.bytes _ _::r,e|.builtin _::r,e|.type _::r,e=>by have q:=beq_iff_eq.mp e;rw[q];exact PySem.F.store_ValueError.passes a
structure XC (K:bF9)(C fI:Addr):Prop where
 at_:∃nm q N bs bm sn sub ab col dd k0 k1 k2 k3 k5,K.lookup C=some (excClassObj nm q C N bs bm true sn sub ab col dd k0 k1 k2 k3 k5 "ValueError.__new__")/\bm.contains (.type "ValueError")=true /\
  bm.contains (.type "AttributeError")=false/\bm.contains (.type "NameError")=false/\bm.contains (.type "BaseException")=true
 init:PySem.W.findIn K (.ref C) "__init__"=some (some (.ref fI))
 fn:PySem.W.typeIn K (.ref fI)=some (.type "function")
 row:(PySem.W.clsIn K C).any (λcd=>aBe cd.mro && cd.hasDict)=true
 sa:PySem.W.findIn K (.ref C) "__setattr__"=some (some (.builtin "object.__setattr__"))
 ga:PySem.W.findIn K (.ref C) "__getattribute__"=some (some (.builtin "BaseException.__getattribute__"))
 hook:PySem.W.findIn K (.ref C) "__getattr__"=some none
 act:PySem.W.findIn K (.ref C) "act"=some none
 cls:PySem.W.findIn K (.ref C) "__class__"=some (some (.builtin "object.__class__"))
section
variable {prog:Program}{w:World}{A:Around}{E:bGA}{h:Heap}{g:Array GenState}{d:Drawn}{t:Nat}{os:OsState}{K:bF9}{C fI:Addr}
def aKb (X:K.In h)(c:XC K C fI){a:List Value}{Q:Fin->Shared->Prop}
  (M:∀h' e,Heap.MadeExcOf h h' e (.ref C) a->e=h.objs.size+1->h'.get? h.objs.size=some { cls:=.type "tuple",data:=.seq a.toArray } ->
   wpAny (model prog w) A (call (.ref fI) (.ref e::a)) (λr s'=>r=.none/\Q (.done (.ret (.ref e))) s') E ⟨h',g,d,t,os⟩) (m:a.length<=sizeLine) :
  wpAny (model prog w) A (Builtin.«type.__call__» ⟨.ref C::a,[]⟩) Q E ⟨h,g,d,t,os⟩:=by
 obtain⟨⟨T,q,N,S,I,Y,D,U,G,R,Z,L,O,k3,P,y,s,u,J,V⟩,v,z,_⟩:=c;have j:=X _ _ y;have F:=PySem.F.excBase_ValueError
 repeat (first|with_reducible refine bBX j ?_|with_reducible refine wpAny_madeBy_exc j ?_|wp_step)
 refine codeAny_call_builtin_code (Code.quiet_builtin _ F.quiet) (aKj F s j ?_);refine bD1 F s u J j ?_ m;show wpAny _ _ _ _ _ _;have l:∀b o,h.get? b=some o->((h.push { cls:=.type "tuple",data:=.seq a.toArray }).push { cls:=.ref C,data:=.fields #[.ref h.objs.size,.none,.none,.none,.bool false,.none] }).get? b=some o:=
  λb o e=>d7 _ (d7 _ e)
 have k:=l _ _ j;have p:=X.keeps l;have i:((h.push { cls:=.type "tuple",data:=.seq a.toArray }).push
   { cls:=.ref C,data:=.fields #[.ref h.objs.size,.none,.none,.none,.bool false,.none] }).get? (h.objs.size+1)=some
   { cls:=.ref C,data:=.fields #[.ref h.objs.size,.none,.none,.none,.bool false,.none] }:=by heap_get
 have f:((h.push { cls:=.type "tuple",data:=.seq a.toArray }).push
   { cls:=.ref C,data:=.fields #[.ref h.objs.size,.none,.none,.none,.bool false,.none] }).get? h.objs.size=some { cls:=.type "tuple",data:=.seq a.toArray }:=d7 _ (Heap.get?_push_at rfl rfl)
 have n:(Value.ref C::I).contains (.ref C)=true:=by simp
 unfold isInstance
 repeat (first|with_reducible refine bBX i ?_|(with_reducible refine bDE k ?_;rw[n])|wp_step)
 show wpAny _ _ (typeLookup (.ref C) _) _ _ _;refine (PySem.W.looks_findIn p v).at ?_;refine bAP (b7 ?_);unfold bindSpecial;refine b7 ((PySem.W.looks_typeIn p z).at ?_);rw[if_pos (by decide)];refine d8 (b7 (bBH (M _ (h.objs.size+1) ⟨l,bDZ (bDB _),h.objs.size,i,bDZ (j0 _),f⟩ rfl f) (λr s' B=>?_) λ_ _ x=>x));obtain⟨rfl,H⟩:=B;wp_walk;exact H
def x_call (X:K.In h)(c:XC K C fI)
  (z:∀h' e,Heap.MadeExcOf h h' e (.ref C) rest->e=h.objs.size+1->h'.get? h.objs.size=some { cls:=.type "tuple",data:=.seq rest.toArray } ->
   wpAny (model prog w) (A.under (.builtin "type.__call__" ⟨.ref C::rest,[]⟩)) (call (.ref fI) (.ref e::rest)) (λr s'=>r=.none/\Q (.ref e) s') E ⟨h',g,d,t,os⟩) (a:rest.length<=sizeLine) :
  wpAny (model prog w) A (call (.ref C) rest) Q E ⟨h,g,d,t,os⟩:=by
 obtain⟨v,q,N,p,H,B,i,x,j,o,D,s,G,F,I,k,O,n,M,y⟩:=c.at_;have b:=X _ _ k;have J:=tc_lookup;have L:=tc_bind (.ref C);have u:(⟨h,g,d,t,os⟩:Shared).TypeIs (.ref C) "type":=⟨_,b,rfl⟩;refine bCT (codeAny_of_tree ?_)
 repeat (any_goals (first|assumption|with_reducible refine bBX b ?_|wp_step))
 refine⟨rfl,?_⟩;refine codeAny_call_builtin_at (Code.quiet_builtin _ (by trivial)) entry_typeCall (wpAny_check_type_call_sub b (aKb X c (λh' e f m l=>?_) a));exact z h' e f m l
end
def XO (e C:Addr)(d:Option Addr):HO:=.ext λh=>∃vs:Array Value,h.get? e=some { cls:=.ref C,dict:=d,data:=.fields vs }/\vs.size=6/\vs[1]?=some .none
def XO.at (x:HOk P w H h)(q:H e=some (XO e C d)):∃vs:Array Value,h.get? e=some { cls:=.ref C,dict:=d,data:=.fields vs }/\vs.size=6/\vs[1]?=some .none:=(x e _ q).1
def XO.ok (q:h.get? e=some { cls:=.ref C,dict:=d,data:=.fields vs })(z:vs.size=6)(n:vs[1]?=some .none):cV P w H h e (XO e C d):=
 ⟨⟨vs,q,z,n⟩,⟨_,q⟩,λi g ⟨f,a,b,c⟩ k=>⟨f,k _ a,b,c⟩⟩
def aWi (K:bF9):PySem.W.findCls K (.type "ValueError") (.type "type") "__init__"=some (.val (.builtin "ValueError.__init__")):=
 show PySem.W.findCls [] (.type "ValueError") (.type "type") "__init__"=some (.val (.builtin "ValueError.__init__")) by kernel_rfl
section
variable {prog:Program}{w:World}{A:Around}{E:bGA}{s:Shared}{K:bF9}{C fI e:Addr}
def bAz (X:K.In s.heap)(c:XC K C fI)(m:s.heap.get? e=some { cls:=.ref C,dict:=dx,data:=.fields vs,slots:=sl })(B:0<vs.size)(I:vs[0]?=some u0)(H:rest.length<=sizeLine)
  (h:Q .none { s with heap:=(s.heap.push { cls:=.type "tuple",data:=.seq rest.toArray }).update e (Obj.mapFields (·.setIfInBounds 0 (.ref s.heap.objs.size))) }) :
  wpAny (model prog w) A (call (.builtin "ValueError.__init__") (.ref e::rest)) Q E s:=by
 obtain⟨M,q,N,L,u,R,o,O,p,J,S,z,D,T,G,l,r,v,V,P⟩:=c.at_;have k:=X _ _ l;have F:=PySem.F.excBase_ValueError;obtain⟨y,g,d,t,U⟩:=s;have j:(Value.ref C::u).contains (.type "ValueError")=true:=by rw[bBN,r,bDN]
 refine bCT (bCE F.init.plain F.initEntry ?_);have i:=F.noStar;simp only[checkBuiltinCall,F.initKind,F.initSplit,F.initRow]
 repeat (first|with_reducible refine bBX m ?_|with_reducible refine bBX k ?_|(with_reducible refine bDE k ?_;rw[j])|wp_step)
 refine bEL ?_;rw[show ∀a b n,Bind.check ⟨.positional,"*","ValueError",.self,[⟨"args",.varPos,false⟩]⟩ a b n (List.map (λx=>x.fst) ({ pos:=Value.ref e::rest }:Args).kw)=pure () from
  λa b n=>check_star_args _ _ _ _ _ _]
 refine d8 ?_;unfold Builtin.«BaseException.__init__» newTuple;refine b7 (bAG ?_ (by show rest.toArray.size<=sizeLine;rw[d9];exact H));have f:=d7 { cls:=.type "tuple",data:=.seq rest.toArray } m;refine b7 ?_;unfold Builtin.BaseException.bexcPut;refine b7 (bAN f rfl I ?_);refine b7 (bBZ f rfl B ?_)
 split
 ·exact bF5 (d8 h)
 ·exact d8 (d8 h)
end
open PySem PySem.Spec PyProof.Rows Builtin Builtin.ObjectAttr
section
variable {prog:Program}{w:World}{A:Around}{E:bGA}{s:Shared}{K:bF9}{C fI e:Addr}
def aVx (X:K.In s.heap)(c:XC K C fI){vs:Array Value}{v:Value}{Q:Unit->Shared->Prop}(m:s.heap.get? e=some { cls:=.ref C,data:=.fields vs })
  (Y:∀h' t',h'.get? e=some { cls:=.ref C,dict:=some s.heap.objs.size,data:=.fields vs }->h'.Ns1 s.heap.objs.size (λy=>if y = "act" then some v else none) ->
   (∀b o,b≠e->s.heap.get? b=some o->h'.get? b=some o)->Q () { s with heap:=h',toks:=t' }) :
  wpAny (model prog w) A (setAttr (.ref e) "act" v) Q E s:=by
 have I:PySem.W.InstAt s.heap e { cls:=.ref C,data:=.fields vs } C none:=⟨m,rfl,rfl,trivial⟩;refine PySem.W.set_plain X I c.sa ?_;obtain⟨S,J,p⟩:=PySem.W.any_some c.row;obtain⟨L,hd⟩:=Bool.and_eq_true_iff.mp p;have n:=PySem.F.store_object;have Z:=PySem.F.store_ValueError;have T:PySem.W.Looks (model prog w) s.heap (mroOf (.ref C)) S.mro:=(PySem.W.looks_clsIn X J).andThen .now;have f:∀{l:List Value},aBe l=true->l.contains (.type "object")=true/\l.isEmpty=false:=by
  intro l
  induction l with
  |nil=>intro z;exact absurd z (by decide)
  |cons a r ih=>
   intro z;refine⟨?_,rfl⟩;cases a with
   |ref x=>rw[bBN,(ih z).1,bDN]
   |_=>have q:=beq_iff_eq.mp z;rw[q];decide +kernel
 have H:PySem.W.Looks (model prog w) s.heap (isInstance (.ref e) (.type "object")) true:=I.type.andThen (PySem.W.looks_mroIn X (by unfold PySem.W.mroIn;rw[J,bBE,if_neg (by rw[(f L).2];decide),(f L).1]));refine bCE n.slot.plain n.entry (@PySem.W.check_slot (model prog w) _ _ { s with toks:=s.toks+1 } "object.__setattr__" "object" "__setattr__" (.ref e) [.str "act" s.toks,v] [] _ n.kind n.split H (n.args (.ref e) (.str "act" s.toks) v) ?_);rw[PySem.W.osa_eq,refuse_eq];refine b7 (b7 (I.type _ _ _ _ (λ_ _ e=>e) (b7 (T _ _ _ _ (λ_ _ e=>e) ?_))));rw[vG _ L];refine d8 (b7 (I.type _ _ _ _ (λ_ _ e=>e) (b7 (PySem.W.looks_findIn X c.act _ _ _ _ (λ_ _ e=>e) (b7 ?_)))));refine d8 ?_;dsimp only;obtain⟨h,g,d,t,os⟩:=s;dsimp only at *;unfold storeInOwnDict;have i:e≠h.objs.size:=v7 (m9 m);have k:(h.push { cls:=.type "dict",data:=.dict #[] }).get? e=some { cls:=.ref C,data:=.fields vs }:=d7 _ m;refine b7 (d8 (b7 ?_));unfold ownDictForStores instanceDict;refine b7 (wpAny_loadPart m ?_);dsimp only;refine b7 ((PySem.W.looks_clsIn X J) _ _ _ _ (λ_ _ e=>e) ?_);rw[hd,if_neg (by decide),if_neg (by simp[typeHasDict])];refine b7 (wpAny_alloc' ?_);refine b7 (wpAny_update' k ?_);refine d8 ?_;have B:((h.push { cls:=.type "dict",data:=.dict #[] }).update e λo=>{ cls:=o.cls,dict:=some h.objs.size,data:=o.data,slots:=o.slots }).get? h.objs.size
   = some { cls:=.type "dict",data:=.dict #[] }:=
  (bEJ _ _ _ _ i.symm).trans (Heap.get?_push_at rfl rfl)
 have M:((h.push { cls:=.type "dict",data:=.dict #[] }).update e λo=>{ cls:=o.cls,dict:=some h.objs.size,data:=o.data,slots:=o.slots }).Ns h.objs.size (λ_=>none):=
  ⟨_,#[],_,B,rfl,λe m=>absurd m (by simp),λ_=>rfl⟩
 show wpAny _ _ (storeInDict h.objs.size (.str "act" _) "act" v) _ _ _;unfold storeInDict newKeyGuard;refine b7 (d8 (b7 (wpAny_nsSet1 (Heap.Ns1.of_empty M) λh' j O=>?_)));obtain⟨V,U,R,D,u,N⟩:=j.count (Within.cons "act" v Within.nil);refine b7 (wpAny_lookBehind D (by rw[u];exact pastItsLine_dict (bAE N (by rw[t6,bBV,sizeLine_eq];lia))) ?_);refine d8 ?_;refine Y h' _ ?_ j λb ob G P=>(O.2 b (v7 (m9 P))).trans ((bEJ _ _ _ _ G).trans (d7 _ P));exact (O.2 e i).trans (bAS _ k rfl)
def x_load (X:K.In s.heap)(c:XC K C fI){vs:Array Value}{dx:Addr}{v:Value}{mA:bGC}{n:Bool}{Q:bGA}(B:s.heap.get? e=some { cls:=.ref C,dict:=some dx,data:=.fields vs })
  (hn:s.heap.Ns1 dx mA) (hv:mA "act"=some v) (U:PySem.W.handedIn v=true) (S:Q v { s with toks:=s.toks+1 }) :
  wpAny (model prog w) A (getAttr (.ref e) "act" n) Q E s:=by
 obtain⟨r,a,i⟩:=PySem.W.any_some c.row;obtain⟨ho,hd⟩:=Bool.and_eq_true_iff.mp i;obtain⟨h,g,d,t,L⟩:=s;have l:(Value.builtin "BaseException.__getattribute__" == Value.builtin "object.__getattribute__")=false:=by trivial
 have T:PySem.W.Looks (model prog w) h (typeOf (.ref e)) (.ref C):=(PySem.W.Looks.ld B).andThen .now;unfold getAttr;refine b7 (wpAny_mkText ?_);unfold getAttrBy;refine bAP (b7 (T.at (b7 ((PySem.W.looks_findIn X c.ga).at ?_))));dsimp only;rw[show (onTheHeap (Value.ref C) && Value.builtin "BaseException.__getattribute__" == Value.builtin "object.__getattribute__")=false by rw[l];rfl,if_neg (by decide)];unfold getAttrByItsOwn hookBefore;rw[if_pos (show onTheHeap (Value.ref C)=true from rfl)];refine b7 ((PySem.W.looks_findIn X c.hook).at (b7 (bCA (bAP ?_))));unfold callGetattribute;rw[show (n && onTheHeap (Value.builtin "BaseException.__getattribute__"))=false from Bool.and_false _,if_neg (by decide)];unfold boundAndCalled;have o:=PySem.F.attr_ValueError.ga;rw[o.bind];refine b7 (d8 ?_);show wpAny _ _ (call (.builtin "BaseException.__getattribute__") [.ref e,.str "act" t]) _ _ _;obtain⟨nm,q,N,bs,M,sn,D,ab,J,Z,k0,P,V,k3,Y,u,hB,O,hN,H⟩:=c.at_;have m:r.mro=.ref C::M:=by unfold PySem.W.clsIn at a;rw[u] at a;cases a;rfl
 have x:PySem.W.Looks (model prog w) h (isInstance (.ref e) (.type "BaseException")) true:=T.andThen (PySem.W.looks_mroIn X (by unfold PySem.W.mroIn;rw[a,bBE,m,if_neg (by simp),bBN,H,bDN]));refine bCT (bCE o.plain PySem.F.entry_bexc_ga (@PySem.W.check_slot (model prog w) _ _ ⟨h,g,d,t+1,L⟩ "BaseException.__getattribute__" "BaseException" "__getattribute__" (.ref e) [.str "act" t] [] _ (by trivial) (by trivial) x (PySem.F.args_bexc_ga (.ref e) (.str "act" t)) ?_));obtain⟨b,es,ep,k,j,-,-,y⟩:=hn;have I:PySem.W.InstAt h e { cls:=.ref C,dict:=some dx,data:=.fields vs } C (some b):=⟨B,rfl,rfl,k⟩;have p:PySem.W.lookIn "act" b=some (some v):=by have q:=(y "act").trans hv;unfold nsFind findBy at q;rw[<-Array.find?_toList] at q;unfold PySem.W.lookIn;rw[j];dsimp only;obtain⟨R,G,z⟩:=Option.map_eq_some_iff.mp q;rw[G];dsimp only;rw[z]
 have f:PySem.W.findObj K C (some b) "act"=some (.value v):=by unfold PySem.W.findObj;rw[a,bBE,c.act,bBE];dsimp only;rw[bBE,bBE];unfold PySem.W.ownOf;rw[hd,if_pos rfl];dsimp only;rw[p];rfl
 refine b7 (d8 (b7 (d8 (b7 (T.at (b7 ((PySem.W.looks_find X I f).at ?_)))))));refine d8 ?_;show wpAny _ _ (handedOut v) _ _ _;rw[PySem.W.handedOut_of U];exact d8 S
def aZh (c:XC K C fI):∃cd bm,PySem.W.clsIn K C=some cd/\cd.mro=.ref C::bm/\bm.contains (.type "BaseException")=true/\aBe cd.mro=true/\cd.hasDict=true/\bm.contains (.type "AttributeError")=false:=by obtain⟨cd,a,b⟩:=PySem.W.any_some c.row;obtain⟨f,hd⟩:=Bool.and_eq_true_iff.mp b;obtain⟨m,q,N,k,bm,o,e,n,h,j,p,l,s,r,t,i,v,d,u,g⟩:=c.at_;refine⟨cd,bm,a,?_,g,f,hd,d⟩;unfold PySem.W.clsIn at a;rw[i] at a;cases a;rfl
theorem aDd:∀{l:List Value},aBe l=true->l.contains (.type "object")=true
 |[],e=>absurd e (by decide)
 |.ref c::r,e=>by rw[bBN,aDd (l:=r) e,bDN]
 |.none::r,e|.bool _::r,e|.int _ _::r,e|.str _ _::r,e|.float _ _::r,e|.bytes _ _::r,e|.builtin _::r,e|.type _::r,e=>by have q:=beq_iff_eq.mp e;rw[q];decide +kernel
def aX1 (X:K.In s.heap)(c:XC K C fI){vs:Array Value}{dx:Option Addr}{Q:Option Value->Shared->Prop}(p:s.heap.get? e=some { cls:=.ref C,dict:=dx,data:=.fields vs })(hd:∀a,dx=some a->∃o,s.heap.get? a=some o)
  (B:Q (some (.ref C)) { s with toks:=s.toks+1 }):wpAny (model prog w) A (getAttr? (.ref e) "__class__") Q E s:=by
 obtain⟨z,D,j,l,u,r,v,y⟩:=aZh c;obtain⟨h,g,d,t,m⟩:=s;have f:(Value.builtin "BaseException.__getattribute__" == Value.builtin "object.__getattribute__")=false:=by trivial
 have T:PySem.W.Looks (model prog w) h (typeOf (.ref e)) (.ref C):=(PySem.W.Looks.ld p).andThen .now;unfold getAttr? getAttrBy?;refine b7 (wpAny_mkText (b7 (bCA ?_)));unfold getAttrBy;refine bAP (b7 (T.at (b7 ((PySem.W.looks_findIn X c.ga).at ?_))));dsimp only;rw[show (onTheHeap (Value.ref C) && Value.builtin "BaseException.__getattribute__" == Value.builtin "object.__getattribute__")=false by rw[f];rfl,if_neg (by decide)];unfold getAttrByItsOwn hookBefore;rw[if_pos (show onTheHeap (Value.ref C)=true from rfl)];refine b7 ((PySem.W.looks_findIn X c.hook).at (b7 (bCA (bAP ?_))));unfold callGetattribute;rw[show (false && onTheHeap (Value.builtin "BaseException.__getattribute__"))=false from rfl,if_neg (by decide)];unfold boundAndCalled;have n:=PySem.F.attr_ValueError.ga;rw[n.bind];refine b7 (d8 ?_);show wpAny _ _ (call (.builtin "BaseException.__getattribute__") [.ref e,.str "__class__" t]) _ _ _;have x:PySem.W.Looks (model prog w) h (isInstance (.ref e) (.type "BaseException")) true:=T.andThen (PySem.W.looks_mroIn X (by unfold PySem.W.mroIn;rw[j,bBE,l,if_neg (by simp),bBN,u,bDN]));refine bCT (bCE n.plain PySem.F.entry_bexc_ga (@PySem.W.check_slot (model prog w) _ _ ⟨h,g,d,t+1,m⟩ "BaseException.__getattribute__" "BaseException" "__getattribute__" (.ref e) [.str "__class__" t] [] _ (by trivial) (by trivial) x (PySem.F.args_bexc_ga (.ref e) (.str "__class__" t)) ?_));have I:∃b,PySem.W.InstAt h e { cls:=.ref C,dict:=dx,data:=.fields vs } C b:=by
  cases dx with
  |none=>exact⟨none,p,rfl,rfl,trivial⟩
  |some a=>obtain⟨o,q⟩:=hd a rfl;exact⟨some o,p,rfl,rfl,q⟩
 obtain⟨b,I⟩:=I;have i:PySem.W.findObj K C b "__class__"=some (.bind (.builtin "getset_descriptor.__get__") (.builtin "object.__class__")):=by unfold PySem.W.findObj;rw[j,bBE,c.cls,bBE];dsimp only;rw[show PySem.W.specialIn K (.builtin "object.__class__") "__get__"=some (some (.builtin "getset_descriptor.__get__")) from show PySem.W.specialIn [] (.builtin "object.__class__") "__get__"=some (some (.builtin "getset_descriptor.__get__")) by trivial,bBE];dsimp only;rw[show PySem.W.takesIn K (.builtin "object.__class__")=some true from show PySem.W.takesIn [] (.builtin "object.__class__")=some true by trivial,bBE]
 refine b7 (d8 (b7 (d8 (b7 (T.at (b7 ((PySem.W.looks_find X I i).at ?_)))))));have k:PySem.W.mroIn K C (.type "object")=some true:=by unfold PySem.W.mroIn;rw[j,bBE,if_neg (by rw[l];simp),aDd r]
 refine b7 (bAP (bCT (PySem.W.class_get (s:=⟨h,g,d,t+1,m⟩) X I k ?_)));exact d8 (d8 (d8 B))
def aFv (X:K.In s.heap)(c:XC K C fI){vs:Array Value}{dx:Option Addr}{D:Value}{b:Bool}{Q:Fin->Shared->Prop}(y:s.heap.get? e=some { cls:=.ref C,dict:=dx,data:=.fields vs })(hd:∀a,dx=some a->∃o,s.heap.get? a=some o)
  (I:PySem.W.Looks (model prog w) s.heap (typeOf D) (.type "type")) (O:PySem.W.Looks (model prog w) s.heap (isType D) true) (p:PySem.W.mroIn K C D=some b) (u:∀t,Q (.done (.ret (.bool b))) { s with toks:=t }) :
  wpAny (model prog w) A (Builtin.«isinstance.nested» ⟨[.ref e,D,rawInt 0],[]⟩) Q E s:=by
 obtain⟨R,H,F,m,hE,ho,v,J⟩:=aZh c;have j:PySem.W.mroIn K C (.ref C)=some true:=by unfold PySem.W.mroIn;rw[F,bBE,if_neg (by rw[m];simp),m];simp
 obtain⟨h,g,d,t,r⟩:=s;have T:PySem.W.Looks (model prog w) h (typeOf (.ref e)) (.ref C):=(PySem.W.Looks.ld y).andThen .now;have k:=PySem.W.looks_mroIn (M:=model prog w) X p;have LI:PySem.W.Looks (model prog w) h (isInstance (.ref e) D) b:=T.andThen k;unfold Builtin.«isinstance.nested»;refine b7 (T.at ?_);by_cases q:(Value.ref C == D)=true
 ·rw[if_pos q];have B:=beq_iff_eq.mp q;subst B;rw[j] at p;cases p;exact b7 (bEB (b7 (d8 (d8 (u t)))))
 ·rw[if_neg q];refine b7 (I.at ?_);rw[if_pos (by decide)];have P:∀{i:Bool->Shared->Prop} {l:bGA} {n:Around},(∀t,i b ⟨h,g,d,t,r⟩)->wpAny (model prog w) n (do
    if !(<-isType D) then
     if <-Builtins.hasBases D then unsupported "isinstance:class-by-__bases__"
     rule "isinstance.not-a-class";raiseError "TypeError" "isinstance() arg 2 must be a type, a tuple of types, or a union"
    if <-isInstance (.ref e) D then return true
    let some c <-getAttr? (.ref e) "__class__"|return false
    if !(<-isType c) then return false
    rule "isinstance.by-__class__";isSubtype c D) i l ⟨h,g,d,t,r⟩:=by
   intro i l n f;refine b7 (O.at ?_);rw[if_neg (by decide)];refine b7 (LI.at ?_);cases b with
   |true=>rw[if_pos rfl];exact d8 (f t)
   |false=>
    rw[if_neg (by decide)];refine b7 (aX1 X c y hd ?_);dsimp only;have tC:PySem.W.Looks (model prog w) h (isType (.ref C)) true:=by obtain⟨Z,q,N,Y,H,sn,z,ab,G,V,k0,L,S,k3,U,x,-⟩:=c.at_;exact (PySem.W.Looks.ld (X _ _ x)).andThen .now
    refine b7 (tC _ _ _ _ (λ_ _ e=>e) ?_);rw[if_neg (by decide)];exact b7 (bEB (k _ _ _ _ (λ_ _ e=>e) (f _)))
  exact b7 (P λt=>d8 (u t))
end
def aN0 (y:A.frames=some (env::outer))(x:s.heap.FunFrames base (env::outer))(D:env.frame=some L)
  (C:s.heap.get? e=some oe) (hd:oe.data=.fields vs) (B:1<vs.size)
  (h:∀h',(∀b o,b≠e->b∉frs (env::outer)->s.heap.get? b=some o->h'.get? b=some o)->(∀b o,b≠e->s.heap.get? b=some o->∃sl,h'.get? b=some { o with slots:=sl }) ->
   h'.get? e=some (oe.mapFields (·.setIfInBounds 1 (.ref s.heap.objs.size)))->(∃oT ts,h'.get? s.heap.objs.size=some oT/\oT.data=.fields ts/\3<ts.size)->Q () { s with heap:=h' }) :
  wpAny M A (do let a <-frameOf env;let pl <-entryPlaceOf L hadNext;let b <-EntryCells.newEntry head a .none (rawInt L) .none pl;setField (.ref e) 1 b) Q E s:=by
 have i:e∉(env::outer).filterMap (·.frame):=λw=>by obtain⟨_,o,m,u⟩:=x.mem w;rw[C] at m;injection m with m;subst m;exact u vs hd
 refine b7 (wpAny_frameOf_fun y x D λf c=>?_);refine b7 (wpAny_entryPlaceOf λpl v=>?_);unfold EntryCells.newEntry newFields;refine b7 (bAG ?_ (v.sizeOk5 _ _ _ _ _));have j:=(c.2.1 e i).trans C;have l:=d7 { cls:=.type "traceback",dict:=none,data:=.fields ([head,.ref L,.none,rawInt L,.none]++(if pl.isEmpty then List.replicate 6 Value.none else pl)).toArray } j;have r:=bCP (m9 j);have n:=bDO hd (·.setIfInBounds 1 (Value.ref f.objs.size));have p:=bAS (Obj.mapFields (·.setIfInBounds 1 (Value.ref f.objs.size))) l (bDW n);have q:=(bBF (f.push { cls:=.type "traceback",dict:=none,data:=.fields ([head,.ref L,.none,rawInt L,.none]++(if pl.isEmpty then List.replicate 6 Value.none else pl)).toArray })
  (Obj.mapFields (·.setIfInBounds 1 (Value.ref f.objs.size))) (Ne.symm r)).trans (j8 f rfl)
 have g:∀b o,b≠e->f.get? b=some o ->
   ((f.push { cls:=.type "traceback",dict:=none,data:=.fields ([head,.ref L,.none,rawInt L,.none]++(if pl.isEmpty then List.replicate 6 Value.none else pl)).toArray }).update e (Obj.mapFields (·.setIfInBounds 1 (Value.ref f.objs.size)))).get? b=some o:=λb o d k=>by
  rw[bBF _ _ (Ne.symm d)];exact d7 _ k
 refine bBZ l hd B (h _ (λb o d t k=>g b o d ((c.2.1 b t).trans k)) (λb o d k=>?_) ?_ ?_)
 ·obtain⟨sl,z⟩:=c.2.2 b o k;exact⟨sl,g b _ d z⟩
 ·rw[<-c.1];exact p
 ·rw[<-c.1];exact⟨_,_,q,rfl,by simp only[d9,bAB,t6,bBV] <;> lia⟩
theorem aZw (T:Option Addr)(J:A.frames=some (env::outer))(P:s.heap.FunFrames base (env::outer))(B:env.frame=some L)
  (H:s.heap.get? e=some oe) (hd:oe.data=.fields vs) (F:vs[1]?=some (T.elim .none .ref)) (U:∀a,T=some a->a≠e/\∃oT ts,s.heap.get? a=some oT/\oT.data=.fields ts/\3<ts.size)
  (h:∀h' T',(∀b o,b≠e->T≠some b->b∉frs (env::outer)->s.heap.get? b=some o->h'.get? b=some o)->(∀b o,b≠e->T≠some b->s.heap.get? b=some o->∃sl,h'.get? b=some { o with slots:=sl })->(∀b o,s.heap.get? b=some o->∃o',h'.get? b=some o') ->
   (∃vs':Array Value,h'.get? e=some { oe with data:=.fields vs' }/\vs'.size=vs.size/\vs'[1]?=some (.ref T'))->(∃oT ts,h'.get? T'=some oT/\oT.data=.fields ts/\3<ts.size)->(T=some T'\/T'=s.heap.objs.size)->Q () { s with heap:=h' }) :
  wpAny M A (noteFrame (.ref e) env) Q E s:=by
 unfold noteFrame;simp only[B];obtain⟨u,O,F⟩:∃u:Value,u=T.elim .none .ref/\vs[1]?=some u:=⟨_,rfl,F⟩;refine b7 (bAN H hd F ?_);have w:=(Array.getElem?_eq_some_iff.mp F).1;have S:∀n:Addr,oe.mapFields (·.setIfInBounds 1 (.ref n))={ oe with data:=.fields (vs.setIfInBounds 1 (.ref n)) }:=λn=>by obtain⟨c,d,R,sl⟩:=oe;cases hd;rfl
 have l:∀{h':Heap} {n:Addr},h'.get? e=some (oe.mapFields (·.setIfInBounds 1 (.ref n)))->∃vs':Array Value,h'.get? e=some { oe with data:=.fields vs' }/\vs'.size=vs.size/\vs'[1]?=some (.ref n):=λ{h' n} q=>
  ⟨_,by rw[q,S n],by simp,by simp[w]⟩
 cases T with
 |none=>
  obtain rfl:u=.none:=O;rw[if_neg (by decide)];refine aN0 J P B H hd w λh' D t x C=>h h' _ (λb o g _ B q=>D b o g B q) (λb o g _ q=>t b o g q) (λb o q=>?_) (l x) C (.inr rfl);by_cases z:b=e
  ·subst z;exact⟨_,x⟩
  ·obtain⟨sl,r⟩:=t b o z q;exact⟨_,r⟩
 |some a=>
  obtain⟨I,oT,ts,k,j,K⟩:=U a rfl;obtain rfl:u=.ref a:=O;rw[if_pos (show (Value.ref a != Value.none)=true from by simp)];refine b7 (bAN k j (j6 K) ?_);by_cases N:(ts[3] == rawInt L)=true
  ·rw[if_pos N];refine d8 (h s.heap a (λb o _ _ _ q=>q) (λb o _ _ q=>⟨o.slots,q⟩) (λb o q=>⟨o,q⟩) ⟨vs,?_,rfl,F⟩ ⟨oT,ts,k,j,K⟩ (.inl rfl));rw[H];obtain⟨c,d,R,sl⟩:=oe;cases hd;rfl
  rw[if_neg N];refine b7 (bBZ k j K ?_);have f:∀b,b≠a->(s.heap.update a (Obj.mapFields (·.setIfInBounds 3 Value.none))).get? b=s.heap.get? b:=λb g=>bBF _ _ (Ne.symm g);have i:∀b o,s.heap.get? b=some o->(∀vs,o.data≠.fields vs)->b≠a:=λb o g v q=>by rw[q,k] at g;injection g with g;subst g;exact v ts j
  have G:(s.heap.update a (Obj.mapFields (·.setIfInBounds 3 Value.none))).objs.size=s.heap.objs.size:=Heap.size_after_update ..;have p:=bAS (Obj.mapFields (·.setIfInBounds 3 Value.none)) k (bDW (bDO j _));refine aN0 J (P.of_keeps λb o g v=>⟨o,(f b (i b o g v)).trans g,rfl⟩) B ((f e (Ne.symm I)).trans H) hd w λh' D t x C=>?_;dsimp only at D t x C;rw[G] at x C;refine h h' _ (λb o g m B q=>D b o g B ((f b λz=>m (by rw[z])).trans q)) (λb o g m q=>t b o g ((f b λz=>m (by rw[z])).trans q)) (λb o q=>?_) (l x) C (.inr rfl);by_cases z:b=e
  ·subst z;exact⟨_,x⟩
  ·by_cases y:b=a
   ·subst y;obtain⟨sl,r⟩:=t b _ z p;exact⟨_,r⟩
   ·obtain⟨sl,r⟩:=t b o z ((f b y).trans q);exact⟨_,r⟩
def aCt (e T C dx:Addr):HO:=.ext λh=>∃vs:Array Value,h.get? e=some { cls:=.ref C,dict:=some dx,data:=.fields vs }/\vs.size=6/\vs[1]?=some (.ref T)
def TbO (T:Addr):HO:=.ext λh=>∃oT ts,h.get? T=some oT/\oT.data=.fields ts/\3<ts.size
def up2 (H:Hp)(e T C dx:Addr):Hp:=upd (upd H T (TbO T)) e (aCt e T C dx)
abbrev xdA:HO:=.xd [(("act":Str),V.non)]
def aCt.ok (q:h.get? e=some { cls:=.ref C,dict:=some dx,data:=.fields vs })(z:vs.size=6)(n:vs[1]?=some (.ref T)):cV P w H h e (aCt e T C dx):=
 ⟨⟨vs,q,z,n⟩,⟨_,q⟩,λg f ⟨d,a,b,c⟩ k=>⟨d,k _ a,b,c⟩⟩
def TbO.ok (q:∃oT ts,h.get? T=some oT/\oT.data=.fields ts/\3<ts.size):cV P w H h T (TbO T):=by obtain⟨o,ts,a,b,c⟩:=q;exact⟨⟨o,ts,a,b,c⟩,⟨_,a⟩,λf e ⟨u,d,a,b,c⟩ k=>⟨u,d,k _ a,b,c⟩⟩
def aWf (h:H a=some o):upd H a o=H:=by
 funext b;unfold upd;split
 ·rename_i e;rw[e,h]
 ·rfl
def Xt:HO->Prop
 |.ext _=>True
 |_=>False
def aEi (I:Inv X bGD σ H s)(v:X.stack=X.env::X.outer)(S:X.env.frame=some X.env.locals)(T:Option Addr)
  (he:s.heap.get? e=some { cls:=.ref C,dict:=some dx,data:=.fields vs }) (z:vs.size=6) (h1:vs[1]?=some (T.elim .none .ref))
  (y:∀a,T=some a->a≠e/\(∃oT ts,s.heap.get? a=some oT/\oT.data=.fields ts/\3<ts.size)/\∃o,H a=some o/\Xt o)
  (hx:∃o,H e=some o/\Xt o) (Y:∀b o,H₁ b=some o->b≠e/\T≠some b/\H b=some o) (a1:∀b o,H b=some o->b≠e->T≠some b->H₁ b=some o)
  (q:∀T' s',Inv X bGD σ (up2 H₁ e T' C dx) s'->H₁ T'=none->T'≠e->Q () s') :
  wpAny M X.A (noteFrame (.ref e) X.env) Q E s:=by
 have B:=v ▸ I.stack;obtain⟨oE,F,K⟩:=hx;refine aZw T (by rw[<-v];exact I.ok.frames) B S he rfl h1 (λa V=>⟨(y a V).1,(y a V).2.1⟩) λD T' R k2 k3 k4 k5 g=>?_;have N:∀b∈frs (X.env::X.outer),H b=none:=λb m=>I.qK b (by rw[v];exact m);have un:∀b,H b=none->H₁ b=none:=λb n=>by
  cases r:H₁ b with
  |none=>rfl
  |some o=>rw[(Y b o r).2.2] at n;cases n
 have J:H₁ T'=none:=by
  rcases g with g|rfl
  ·cases r:H₁ T' with
   |none=>rfl
   |some o=>exact absurd g (Y _ o r).2.1
  ·exact un _ (I.hok.fresh (j0 _))
 have P:T'≠e:=by
  rcases g with g|rfl
  ·exact (y _ g).1
  ·exact bCP (m9 he)
 have h:∀b,b≠e->b≠T'->up2 H₁ e T' C dx b=H₁ b:=λb l p=>by unfold up2;rw[aM l,aM p]
 have trk:∀b o,H b=some o->T≠some b->b≠T':=λb o r n=>by
  rcases g with g|rfl
  ·exact λf=>n (by rw[f];exact g)
  ·exact v7 (I.hok.lt r)
 have O:∀b,H b=none->(∃o,s.heap.get? b=some o)->b≠T':=λb n ⟨o,r⟩=>by
  rcases g with g|rfl
  ·intro f;obtain⟨W,j,_⟩:=(y _ g).2.2;rw[f,j] at n;cases n
  ·exact v7 (m9 r)
 have t:∀b o,H b=some o->¬ Xt o->b≠e/\T≠some b:=λb o r n=>by
  refine⟨λf=>?_,λf=>?_⟩
  ·subst f;rw[F] at r;cases r;exact n K
  ·obtain⟨W,j,x'⟩:=(y b f).2.2;rw[j] at r;cases r;exact n x'
 have i:∀b o u,H b=some o->b≠e->T≠some b->s.heap.get? b=some u->D.get? b=some u:=λb o u r l p k=>
  R b u l p (λm=>by rw[N b m] at r;cases r) k
 have d:∀b o,H b=some o->¬ Xt o->up2 H₁ e T' C dx b=some o:=λb o r n=>by obtain⟨l,p⟩:=t b o r n;rw[h b l (trk b o r p)];exact a1 b o r l p
 have G:HOk X.prog X.w (up2 H₁ e T' C dx) D:=λb o r=>by
  by_cases L:b=e
  ·subst L;unfold up2 at r;rw[aG] at r;cases r;obtain⟨a0,e1,e2,e3⟩:=k4;exact aCt.ok e1 (e2.trans z) e3
  ·by_cases Z:b=T'
   ·subst Z;unfold up2 at r;rw[aM L,aG] at r;cases r;exact TbO.ok k5
   ·rw[h b L Z] at r;obtain⟨l,p,j⟩:=Y b o r;refine (I.hok b o j).stay (λc u hc k=>?_) (λc k=>d c _ k λz=>z) λc xs k=>d c _ k λz=>z;rcases hc with rfl|hc
    ·exact i c o u j l p k
    ·obtain⟨m1,m2⟩:=t c _ hc λz=>z;exact i c _ u hc m1 m2 k
 have x:∀b,T=some b->H b≠none:=λb m n=>by obtain⟨W,j,_⟩:=(y b m).2.2;rw[j] at n;cases n
 have U:Un (frs X.stack) [] H (up2 H₁ e T' C dx) s.heap D:=by
  refine⟨λb o r n m _=>?_,λb o r n m _=>?_,λb o r n _=>?_,λb o r _=>k3 b o r,λb xs r=>d b _ r λz=>z,λb o u r=>d b _ r λz=>z,λb ps r=>⟨#[],by rw[d b _ r λz=>z];simp⟩⟩
  ·exact R b o (λf=>by subst f;rw[F] at n;cases n) (λf=>x b f n) (by rw[<-v];exact m) r
  ·exact k2 b o (λf=>by subst f;rw[F] at n;cases n) (λf=>x b f n) r
  ·rw[h b (λf=>by subst f;rw[F] at n;cases n) (O b n ⟨o,r⟩)];exact un b n
 exact q T' _ (I.call' (s':={ s with heap:=D }) rfl U G I.bare λb z=>absurd z (by simp)) J P
def nO {T:Addr}{A:Around}{p:Option Addr}(I:Inv X bGD σ (up2 H₁ e T C dx) s)(n:T≠e)(q:∀s',Inv X bGD σ (up2 H₁ e T C dx) s'->Q () s'):wpAny M A (setFlight (.ref e) p) Q E s:=by
 have m:up2 H₁ e T C dx e=some (aCt e T C dx):=aG;have j:up2 H₁ e T C dx T=some (TbO T):=by unfold up2;rw[aM n,aG]
 obtain⟨t,g,r,i⟩:=(I.hok e _ m).1;obtain⟨w,v,c,a,d⟩:=(I.hok T _ j).1;unfold setFlight;refine b7 (bAN g rfl i ?_);rw[if_pos (show (Value.ref T != Value.none)=true from by simp)];refine bBZ c a d (q _ ?_);have k:=bAS (h:=s.heap) (Obj.mapFields (·.setIfInBounds 3 (p.elim Value.none λf=>rawInt f))) c (bDW (bDO a _));have W:=I.write (x:=T) (e:=T) (o:=TbO T) (h':=s.heap.update T (Obj.mapFields (·.setIfInBounds 3 (p.elim Value.none λf=>rawInt f)))) (t':=s.toks) (by rw[j];trivial) (.inl rfl) (λb u l q=>(bBF _ _ (Ne.symm l)).trans q) ⟨_,k⟩
  (TbO.ok ⟨_,_,k,bDO a _,by simpa using d⟩)
 rw[aWf j] at W;exact W
def aPw (I:Inv X bGD σ (upd H₁ e (XO e C (some dx))) s)(f:X.stack=X.env::X.outer)(d:X.env.frame=some X.env.locals)(n:H₁ e=none)
  (q:∀T' s',Inv X bGD σ (up2 H₁ e T' C dx) s'->H₁ T'=none->T'≠e->Q () s') :
  wpAny M X.A (noteFrame (.ref e) X.env) Q E s:=by
 obtain⟨k,h,z,j⟩:=XO.at I.hok aG;refine aEi I f d none h z j (λa g=>nomatch g) ⟨_,aG,trivial⟩ (λb o r=>?_) (λb o r c _=>by rw[aM c] at r;exact r) q;have c:b≠e:=λi=>by subst i;rw[n] at r;cases r
 exact⟨c,(nomatch ·),by rw[aM c];exact r⟩
def aC2 {T:Addr}(I:Inv X bGD σ (up2 H₁ e T C dx) s)(k:X.stack=X.env::X.outer)(i:X.env.frame=some X.env.locals)(n:H₁ e=none)(u:H₁ T=none)(g:T≠e)
  (q:∀T' s',Inv X bGD σ (up2 H₁ e T' C dx) s'->H₁ T'=none->T'≠e->Q () s') :
  wpAny M X.A (noteFrame (.ref e) X.env) Q E s:=by
 have h:up2 H₁ e T C dx e=some (aCt e T C dx):=aG;have j:up2 H₁ e T C dx T=some (TbO T):=by unfold up2;rw[aM g,aG]
 obtain⟨t,m,z,p⟩:=(I.hok e _ h).1;refine aEi I k i (some T) m z p (λa l=>?_) ⟨_,h,trivial⟩ (λb o r=>?_) (λb o r d f=>?_) q
 ·cases l;exact⟨g,(I.hok T _ j).1,_,j,trivial⟩
 ·have d:b≠e:=λc=>by subst c;rw[n] at r;cases r
  have f:b≠T:=λc=>by subst c;rw[u] at r;cases r
  exact⟨d,λc=>f (bAH c).symm,by unfold up2;rw[aM d,aM f];exact r⟩
 ·unfold up2 at r;rw[aM d,aM (λc=>f (by rw[c]))] at r;exact r
def CXR (P:Program)(w:World):CXT:=λouter H s E v s'=>∃e T dx C H₁,v=.ref e/\s'.os=s.os/\AllBare s'.gens/\H₁ e=none/\H₁ T=none/\T≠e/\H₁ dx=some xdA /\
 Un (frs outer) [] H (up2 H₁ e T C dx) s.heap s'.heap/\HOk P w (up2 H₁ e T C dx) s'.heap/\E (.ref C) (some e) H₁
def Raises (X:Cx)(E:XK):Prop:=∀bGD σ H₁ s e C dx,Inv X bGD σ (upd H₁ e (XO e C (some dx))) s->H₁ e=none->H₁ dx=some xdA->E (.ref C) (some e) H₁->X.xe (.ref e) s
section
variable {P:Program}{w:World}{K:bF9}{mg:bGC}{base:Heap}{N:List Str}{qual:Str}{scope:Scope}{f:Addr}{cd:Value}{A:Around}{outer:List Env}{s₀:Shared}{H₀:Hp}{E:XK}
def aDu (I:Inv (qN (CXR P w) P w K mg base N qual scope f cd A outer s₀ H₀ E) bGD σ (up2 H₁ e T C dx) s)(n:H₁ e=none)(b:H₁ T=none)(a:T≠e)(hd:H₁ dx=some xdA)(q:E (.ref C) (some e) H₁) :
  CXR P w outer H₀ s₀ E (.ref e) s:=⟨e,T,dx,C,H₁,rfl,I.os,I.bare,n,b,a,hd,I.base,I.hok,q⟩
def dX:Raises (qN (CXR P w) P w K mg base N qual scope f cd A outer s₀ H₀ E) E:=by intro g σ l s e C i I n hd q;show wpAny _ _ (leaving _ (.ref e)) _ _ s;unfold leaving;exact b7 (aPw I rfl rfl n λj h b d a=>nO b a λk c=>aDu c n d a hd q)
def Thr (X:Cx)(E:XK):Prop:=∀bGD σ H₁ s e T C dx,Inv X bGD σ (up2 H₁ e T C dx) s->H₁ e=none->H₁ T=none->T≠e->H₁ dx=some xdA->E (.ref C) (some e) H₁->X.xe (.ref e) s
def Thr.passes (h:Thr X E):jV (CXR X.prog X.w) X E:=by intro f σ H s v s' I i;obtain⟨e,T,g,C,m,rfl,l,a,n,k,d,hd,j,c,q⟩:=i;exact h f σ m s' e T C g (I.call' (s':=s') l j c a λb z=>absurd z (by simp)) n k d hd q
def dB:Thr (qN (CXR P w) P w K mg base N qual scope f cd A outer s₀ H₀ E) E:=by intro i σ o s e T C k I n h b hd q;show wpAny _ _ (leaving _ (.ref e)) _ _ s;unfold leaving;exact b7 (aC2 I rfl rfl n h b λl j d c a=>nO d a λm g=>aDu g n c a hd q)
end
def bAx (h:H a=some o):upd H a o=H:=by
 funext b;unfold upd;split
 ·rename_i e;rw[e,h]
 ·rfl
def aTp (h:a≠b):upd (upd H a o) b u=upd (upd H b u) a o:=by
 funext c;unfold upd;by_cases e:c=b
 ·by_cases d:c=a
  ·exact absurd (d.symm.trans e) h
  ·simp[e,d,Ne.symm h]
 ·by_cases d:c=a
  ·simp[d,h]
  ·simp[e,d]
def tVI (K:bF9)(fI:Addr)(t:TA):TE:=fun σ H Q=>t σ H λvs H1=>∃e C v,vs=[.ref e,v]/\H1 e=some (XO e C none)/\XC K C fI/\Q .non H1
def aUu (K:bF9)(fI:Addr)(ta tv:TE):TS:=λD σ H=>tv σ H λy H1=>ta σ H1 λx H2=>∃e C,y=.non/\x=.ref e/\H2 e=some (XO e C none)/\XC K C fI /\
 ∀dx,H2 dx=none->dx≠e->D.nx σ (upd (upd H2 dx xdA) e (XO e C (some dx)))
def aOm:bootBuiltins "ValueError"=some (.type "ValueError"):=by trivial
def aZf:typeOf (.type "ValueError")=pure (.type "type"):=by first|rfl|kernel_rfl
def aWx:PySem.W.handedIn (.builtin "ValueError.__init__")=true:=by trivial
def aWy:Manifest.isStub "ValueError"=false:=by trivial
def aR6 (L:Gl X "ValueError")(O:X.mg "ValueError"=none)(M:PA X (e1::es) t)
  (D:starEach (e1::es) X.env=(false,eval e1 X.env)::starEach es X.env:=by rfl) (G:(backTo cpos (starEach es X.env)).any (·.1)=false:=by rfl)
  (N:eval (.Call (.Attribute (.Name "ValueError" p) "__init__" ap) (e1::es) [] cpos) X.env=(do
   let ov <-eval (.Name "ValueError" p) X.env
   standAt ap.atName
   let (f,first) <-holding [ov] (getMethod ov "__init__" pl)
   callWith cpos f first (backTo cpos (starEach (e1::es) X.env)) (backToKw cpos (keywordEach [] X.env))):=by rfl) :
  PE X (.Call (.Attribute (.Name "ValueError" p) "__init__" ap) (e1::es) [] cpos) (tVI X.K fI t):=by
 intro j s σ H Q I h;refine PySem.W.methodCall_KW (pl:=pl) (pW I L O aOm ?_) N;obtain⟨m,F⟩:=I.fr;refine PySem.W.method_type (T:="ValueError") (name:="__init__") (v:=.builtin "ValueError.__init__") F I.ok.mod.kin aZf aWy (aWi X.K) aWx ?_;refine bFH (thn (M cpos j _ σ H _ (I.tok _) h) λJ a ⟨vs,z,i,r,e,C,v,E,g,c,q⟩=>?_) D G;subst E;cases r with
 |cons r0 r1=>
  cases r1 with
  |@cons _ u2 _ _ r2 r3=>
   cases r3;obtain rfl:=r0;obtain⟨k,d,w,B⟩:=XO.at i.hok g;have l:0<k.size:=by lia
   refine bAz i.kIn c d l (j6 l) (by rw[sizeLine_eq,t6,bBV];lia) ?_;refine⟨.non,z,?_,rfl,q⟩;have A:=i.kept (h':=a.heap.push { cls:=.type "tuple",data:=.seq [u2].toArray }) (t':=a.toks) (λb u e=>d7 _ e);have hg2:=d7 (h:=a.heap) { cls:=.type "tuple",data:=.seq [u2].toArray } d;have n:=bAS (Obj.mapFields (·.setIfInBounds 0 (Value.ref a.heap.objs.size))) hg2 (bDW (bDO rfl _));have W:=A.write (x:=e) (e:=e) (o:=XO e C none) (t':=a.toks) (by rw[g];trivial) (.inl rfl) (λb u y q=>(bBF _ _ (Ne.symm y)).trans q) ⟨_,n⟩
    (XO.ok (vs:=k.setIfInBounds 0 (.ref a.heap.objs.size)) n (by simp[w]) (by rw[bFE (by decide)];exact B))
   rw[bAx g] at W;exact W
def bBe (ha:PE X o ta)(hv:PE X value tv)(Y:swapsWith value (some (.Attribute o "act" pos')) pos.line X.env=pure false:=by rfl):PS X (.Assign [.Attribute o "act" pos'] value pos) (aUu X.K fI ta tv):=by
 intro k s σ H D I h;refine plainObj_wpAny_Assign_Attribute (thn (hv k s σ H _ I h) λu R ⟨y,L,V,O,q⟩=>thn (ha k R σ L _ V q) λov d ⟨x,B,l,F,e,C,M,S,A,c,v⟩=>?_) Y;subst S M;obtain rfl:=F;obtain rfl:=O;obtain⟨Z,i,E,P⟩:=XO.at l.hok A;have t:B d.heap.objs.size=none:=l.hok.fresh (j0 _);have j:d.heap.objs.size≠e:=bCP (m9 i);refine aVx l.kIn c i λh' t' z N U=>⟨σ,_,?_,v _ t j⟩;obtain⟨w,W,T,g,p,r⟩:=id N;have J:=l.laid (a:=d.heap.objs.size) (o:=xdA) (h':=d.heap.push w) (t':=t') (λb u e=>d7 _ e) (j0 _)
  ⟨_,⟨w,W,T,j8 _ (Heap.get?_some_iff.mp g).2,p,r⟩,λf=>by
   by_cases e:f = "act"
   ·subst e;simp[lX,RelV]
   ·have n:(f == ("act":Str))=false:=by simpa using e
    simp[List.lookup,n,e,lX]⟩
 refine J.write (x:=e) (e:=e) (o:=XO e C (some d.heap.objs.size)) (h':=h') (t':=t') (by rw[aM (Ne.symm j),A];trivial) (.inl rfl) (λb u G q=>?_) ⟨_,z⟩ (XO.ok z E P);by_cases m:b=d.heap.objs.size
 ·subst m;rw[j8 _ (Heap.get?_some_iff.mp g).2] at q;cases q;exact g
 ·refine U b u G ?_;obtain⟨Q,v⟩:=Heap.get?_some_iff.mp q;refine Heap.get?_some_iff.mpr ⟨?_,v⟩;rw[<-Q];generalize d.heap=hh at m ⊢;cases hh;simp only at m;simp[Heap.push,Array.getElem?_push,m]
def aAy (K:bF9)(fI:Addr):Sp:=λvs H Q _=>∃e C,vs=[.ref e,.non]/\H e=some (XO e C none)/\XC K C fI/\∀dx,H dx=none->dx≠e->Q .non (upd (upd H dx xdA) e (XO e C (some dx)))
def aRl (C:Addr)(E:XK)(t:TA):TS:=λ_ σ H=>t σ H λvs H1=>vs=[.non]/\∀e dx,H1 e=none->H1 dx=none->dx≠e->E (.ref C) (some e) (upd H1 dx xdA)
section
variable {M:Model}{A:Around}{E:bGA}{env:Env}{K:bF9}{C fI:Addr}
def aJo (c:XC K C fI)(y:A.handled=none)
  (h:wpAny M A x (λv s₁=>∃e d vs,v=.ref e/\K.In s₁.heap/\s₁.heap.get? e=some { cls:=.ref C,dict:=d,data:=.fields vs }/\vs[1]?=some .none/\E (.ref e) s₁) E s) :
  wpAny M A (raiseStmt env (some x) none) Q E s:=by
 obtain⟨H,q,N,F,p,J,m,I,o,D,L,u,z,O,B,j,S,r,R,n⟩:=c.at_;have a:(Value.ref C::p).contains (.type "BaseException")=true:=by rw[bBN,n,bDN]
 unfold raiseStmt;refine b7 (bBH h (λv s₁ k=>?_) λ_ _ x=>x);obtain⟨e,G,vs,rfl,X,f,l,b⟩:=k;have i:=X _ _ j;obtain⟨t,g,d,w,P⟩:=s₁
 repeat (first|with_reducible refine bBX f ?_|with_reducible refine bBX i ?_|(with_reducible refine bDE i ?_;rw[a])|with_reducible refine bAN f rfl l ?_|wp_step)
 exact wpAny_raiseNew_none y b
end
section
variable {X:Cx}{CX:CXT}{k:Nat}{C fI:Addr}{fd:FuncData}{ps:List Str}{E:XK}{x:Str}{np cpos pos:Pos}{a:Expr}{t:TA}
def aVd {o:bGB}{σ:St}{H:Hp}{s:Shared}{Q:VK}{u:Value}(c:XC X.K C fI)(F:eX X.prog X.w X.K X.mg X.base CX k fI fd ps (aAy X.K fI))(R:Room (k+1) X.A)(W:Binds X.K fd ps [])(T:jV CX X E0)
  (I:Inv X o σ H s) (r:RelV .non u) (h:∀e dx,H e=none->H dx=none->dx≠e->Q (.ref e) (upd (upd H dx xdA) e (XO e C (some dx)))) :
  wpAny (model X.prog X.w) X.A (call (.ref C) [u]) (EP X o σ Q) X.xe s:=by
 obtain⟨P,g,d,j,y⟩:=s;refine x_call I.kIn c (λh' e p t S=>?_) (by rw[sizeLine_eq,t6,bBV];lia);obtain⟨U,E,-,-⟩:=p.there;have m:H e=none:=I.hok.fresh (by rw[t];exact bDB _);have i:Inv X o σ (upd H e (XO e C none)) ⟨h',g,d,j,y⟩:=I.laid (a:=e) (h':=h') (t':=j) p.keeps (by rw[t];exact bDB _) (XO.ok E rfl rfl);have x:aAy X.K fI [.ref e,.non] (upd H e (XO e C none)) (λv B=>v=.non/\Q (.ref e) B) E0:=by refine⟨e,C,rfl,aG,c,λdx n l=>⟨rfl,?_⟩⟩;rw[aM l] at n;have q:=h e dx m n l;rw[aTp (Ne.symm l),aN3];exact q
 have M:Vals [V.ref e,V.non] [Value.ref e,u]:=.cons rfl (.cons r .nil);have z:([Value.ref e,u]++[]).length=ps.length:=by have q:=F.len _ _ _ _ x;rw[bBU];exact q
 have f:=W ⟨h',g,d,j,y⟩ [Value.ref e,u] i.kIn z;rw[bBU] at f;refine bCT (bCI (F.run _ X.stack _ _ ⟨[Value.ref e,u],[]⟩ [Value.ref e,u] _ _ E0 (R.make C [u] []) (i.env0.make C [u] []) f M x) λr J b=>?_);cases r with
 |error v=>exact T o σ _ _ v J i b
 |ok fl=>
  cases fl with
  |ret w=>obtain⟨v,G,D,N,O,L⟩:=i.after b;subst O;exact⟨N,⟨V.ref e,G,D,rfl,L⟩⟩
  |next=>exact False.elim b
  |brk=>exact False.elim b
  |cont=>exact False.elim b
def aSa (c:XC X.K C fI)(F:eX X.prog X.w X.K X.mg X.base CX k fI fd ps (aAy X.K fI))(hr:Room (k+1) X.A)(hb:Binds X.K fd ps [])(hx:jV CX X E0)(V:Raises X E)(hc:X.calm=true)(hk:PySem.W.keepIn X.K (.ref C)=true)
  (Y:Gl X x) (hm:X.mg x=some (.ref C)) (Z:PA X [a] t) (N:(x == ("__debug__":Str))=false:=by decide) (he:starEach [a] X.env=(false,eval a X.env)::starEach [] X.env:=by rfl) :
  PS X (.Raise (some (.Call (.Name x np) [a] [] cpos)) none pos) (aRl C E t):=by
 intro f s σ H D I h;rw[arm_exec_Raise];refine b7 (bFJ (aJo c (I.ok.hd hc) ?_));refine b7 (bBH (Q:=EP X f σ λv l=>∃e b g,v=.ref e/\l=upd g e (XO e C (some b))/\g e=none/\g b=some xdA/\E (.ref C) (some e) g) (E:=X.xe) ?_ (λv m ⟨y,l,j,L,e,b,g,J,R,n,O,q⟩=>?_) λ_ _ z=>z)
 ·refine bBI (lD I Y hm ?_ N);refine PySem.W.callWith_K (h₀:=X.base) I.ok.mod.kin hk (thn (Z cpos f s σ H _ I h) λU m ⟨o,G,B,r,P,q⟩=>⟨B.kIn,?_⟩) he rfl;subst P;cases r with
  |cons r0 r1=>cases r1;exact aVd c F hr hb hx B r0 λe b p S u=>⟨e,b,upd G b xdA,rfl,rfl,by rw[aM (Ne.symm u)];exact p,aG,q e b p S u⟩
 ·subst J R;obtain rfl:=L;refine b7 (bFJ (d8 ?_));obtain⟨o,i,T,M⟩:=XO.at (d:=some b) j.hok aG;exact⟨e,_,o,rfl,j.kIn,i,M,V f σ g m e C b j n O q⟩
end
def name_goes (I:Inv X bGD σ H s)(hN:X.N.Nodup)(hi:X.N[i]?=some n)(hk:X.env.scope.names.lookup n=some .local)(h:∀s',Inv X bGD (σ.set i none) H s'->Q () s') :
  wpAny M A (do bindName X.env n .none;unbindBehindTheSuite X.env n pos) Q E s:=by
 obtain⟨m,K,P⟩:=id I.loc;have g:(X.env.scope.kind == .class || (X.env.scope.kind == .module && X.env.locals != X.env.globals))=false:=by rw[I.ok.kind];rfl
 have C:i<σ.length:=by rw[I.len];exact (List.getElem?_eq_some_iff.mp hi).1
 have r:=I.cne;obtain⟨oL,_,_,L,_⟩:=id K;refine wpAny_nameGoes_keeps hk K g λO v B a=>?_;have x:∀b o,X.s₀.heap.get? b=some o->b≠X.env.locals:=λb o e=>v7 (bAA (m9 e) I.ok.above);have u:HOk X.prog X.w H O:=λb Y e=>by
  refine (I.hok b Y e).stay (λc G hc q=>(a.2 c ?_).trans q) (λ_ q=>q) λ_ _ q=>q;rintro rfl;rcases hc with rfl|hc
  ·rw[I.free] at e;cases e
  ·rw[I.free] at hc;cases hc
 refine h _ ⟨I.ok,I.os,I.bare,⟨λb o e n F l=>?_,λb o e n F l=>?_,I.base.free,λb o e l=>?_,I.base.tups,I.base.frzs,I.base.tbls⟩,⟨_,B,λj y V f t S=>?_⟩,λy c e=>?_,I.free,I.freeC,λp R=>?_,u,by simpa using I.len⟩
 ·exact (a.2 b (x b o e)).trans (I.base.keep b o e n F l)
 ·obtain⟨U,f⟩:=I.base.slot b o e n F l;exact⟨U,(a.2 b (x b o e)).trans f⟩
 ·obtain⟨W,f⟩:=I.base.there b o e l;exact⟨W,(a.2 b (x b o e)).trans f⟩
 ·by_cases D:j=i
  ·subst D;rw[bDK C] at t;cases t
  ·rw[bFO (Ne.symm D)] at t;obtain⟨Z,T,q⟩:=P j y V f t S;refine⟨Z,T,?_⟩;rcases q with⟨k,e⟩|⟨k,c,e,z⟩
   ·refine .inl ⟨k,?_⟩;have:y≠n:=λe=>D (aBg hN f (e ▸ hi));simp[this,e]
   ·exact .inr ⟨k,c,e,z.sameBut a (r y c e)⟩
 ·obtain⟨G,z⟩:=I.cell y c e;exact⟨G,z.sameBut a (r y c e)⟩
 ·obtain⟨e,n,J,nf,d⟩:=I.pin p R;exact⟨(a.2 p.1 J).trans e,n,J,nf,d⟩
def uA (X:Cx)(bGD:bGB)(σ₀:St)(E:XK):Cx:={ X with pn:=X.pn++bGD,xe:=λv s'=>∃e T dx C H₁,v=.ref e/\Inv X bGD σ₀ (up2 H₁ e T C dx) s'/\H₁ e=none/\H₁ T=none/\T≠e/\H₁ dx=some xdA/\E (.ref C) (some e) H₁ }
def sY (X:Cx)(e:Addr):Cx:={ X with A:=X.A.mark (some (.ref e)),calm:=false,xe:=λ_ _=>False }
def aZ9 (a:X.Ok):(uA X bGD σ₀ E).Ok:=⟨a.mod,a.kind,a.glob,a.blt,a.above,a.inj,a.has,a.cab,a.hd,a.frames,a.stk,a.exf,a.bs,a.bsz,a.noex,a.exfs,a.funs,a.frf⟩
def aV4 (a:X.Ok):(sY X e).Ok:=⟨a.mod,a.kind,a.glob,a.blt,a.above,a.inj,a.has,a.cab,(λz=>nomatch z),a.frames,a.stk,a.exf,a.bs,a.bsz,a.noex,a.exfs,a.funs,a.frf⟩
def Inv.bEb (I:Inv X bGD σ H s):Inv (uA X bGD σ₀ E) [] σ H s:=⟨aZ9 I.ok,I.os,I.bare,I.base,I.loc,I.cell,I.free,I.freeC,λp a=>I.pin p (by rw[bBU] at a;exact a),I.hok,I.len⟩
def Inv.aJe (b:X.Ok)(I:Inv (uA X bGD σ₀ E) pins' σ H s):Inv X bGD σ H s:=⟨b,I.os,I.bare,I.base,I.loc,I.cell,I.free,I.freeC,λp a=>I.pin p (bBT _ a),I.hok,I.len⟩
def Inv.aR7 (I:Inv X bGD σ H s):Inv (sY X e) bGD σ H s:=⟨aV4 I.ok,I.os,I.bare,I.base,I.loc,I.cell,I.free,I.freeC,I.pin,I.hok,I.len⟩
def Inv.aFo (a:X.Ok)(I:Inv (sY X e) bGD σ H s):Inv X bGD σ H s:=⟨a,I.os,I.bare,I.base,I.loc,I.cell,I.free,I.freeC,I.pin,I.hok,I.len⟩
def aOh (σ₀:St)(sp:Sp)(dvs:List V)(E:XK)(t:TA):TE:=fun σ H Q=>σ=σ₀/\t σ H λvs H1=>sp (vs++dvs) H1 Q E
def aQa (ok:X.Ok)(F:eX X.prog X.w X.K X.mg X.base (CXR X.prog X.w) k f fd ps sp)(Y:Room k X.A)(U:Gl X x)(hm:X.mg x=some (.ref f))(hk:PySem.W.keepIn X.K (.ref f)=true)(hb:Binds X.K fd ps ds)(hd:Vals dvs ds)
  (V:PA (uA X bGD₀ σ₀ E) (e::es) t) (L:(x == ("__debug__":Str))=false:=by decide) (Z:starEach (e::es) X.env=(false,eval e X.env)::starEach es X.env:=by rfl) (S:(backTo pos (starEach es X.env)).any (·.1)=false:=by rfl) :
  PE (uA X bGD₀ σ₀ E) (.Call (.Name x p) (e::es) [] pos) (aOh σ₀ sp dvs E t):=by
 rintro bGD s σ H Q I ⟨rfl,h⟩;refine bBI (lD I U hm ?_ L);refine PySem.W.callWith_K I.ok.mod.kin hk (thn (V pos bGD s σ H _ I h) λi y ⟨O,G,d,r,q⟩=>⟨d.kIn,?_⟩) Z S;have o:=r.append hd;have B:(i++ds).length=ps.length:=by rw[<-o.length];exact F.len _ _ _ _ q
 refine bCT (bCI (F.run X.A X.stack y G ⟨i,[]⟩ (i++ds) (O++dvs) Q E Y d.env0 (hb y i d.kIn B) o q) λr s' c=>?_);cases r with
 |error v=>obtain⟨a,T,D,C,J,rfl,R,g,n,P,l,m,N,j,M⟩:=c;exact⟨a,T,D,C,J,rfl,(Inv.aJe ok d).call' (s':=s') R N j g (λb z=>absurd z (by simp)),n,P,l,m,M⟩
 |ok fl=>
  cases fl with
  |ret u=>exact d.after c
  |next=>exact False.elim c
  |brk=>exact False.elim c
  |cont=>exact False.elim c
structure XS (K:bF9)(S:Addr):Prop where
 ty:PySem.W.typeIn K (.ref S)=some (.type "type")
 cls:(PySem.W.clsIn K S).isSome=true
 base:PySem.W.mroIn K S (.type "BaseException")=some true
def aPz {M:Model}{A:Around}{E:bGA}{s:Shared}{K:bF9}{S C e:Addr}{oe:Obj}{Q:Bool->Shared->Prop}(X:K.In s.heap)(b:XS K S)(v:s.heap.get? e=some oe)(o:oe.cls=.ref C)(n:PySem.W.mroIn K C (.ref S)=some true)
  (p:Q true s):wpAny M A (excMatches (.ref e) (.ref S)) Q E s:=by
 obtain⟨h,g,d,t,u⟩:=s;have T:PySem.W.Looks M h (typeOf (.ref S)) (.type "type"):=PySem.W.looks_typeIn X b.ty;have k:PySem.W.Looks M h (isInstance (.ref S) (.type "tuple")) false:=T.andThen (PySem.W.Looks.of_pure tc_notTuple);have l:PySem.W.Looks M h (isType (.ref S)) true:=by
  obtain⟨r,q⟩:=Option.isSome_iff_exists.mp b.cls;unfold PySem.W.clsIn at q
  split at q
  ·rename_i i;exact (PySem.W.Looks.ld (X _ _ i)).andThen .now
  ·cases q
 have c:PySem.W.Looks M h (typeOf (.ref e)) (.ref C):=o ▸ (PySem.W.Looks.ld v).andThen .now;have j:=PySem.W.looks_mroIn (M:=M) X b.base;have f:=PySem.W.looks_mroIn (M:=M) X n;have m:PySem.W.Looks M h (isExcClass (.ref S)) true:=l.andThen j;unfold excMatches;refine b7 (k.at ?_);rw[if_neg (by decide)];refine b7 (d8 (a:=[Value.ref S]) ?_);simp only[bDR,bFY];refine b7 (b7 (b7 (m.at ?_)));simp only[Bool.not_true,bBC,if_false];refine d8 (d8 (b7 (c.at (b7 (b7 (b7 (f.at ?_)))))));simp only[if_true];exact d8 (d8 (d8 p))
def bDw (D:Ends)(i:Nat):Ends:={ nx:=fun σ H=>D.nx (σ.set i none) H,rt:=D.rt,bk:=fun σ H=>D.bk (σ.set i none) H,ct:=fun σ H=>D.ct (σ.set i none) H }
def exE (K:bF9)(S:Addr)(i:Nat)(th:TS)(D:Ends)(σ:St):XK:=λv o H₁=>∃C e fI,v=.ref C/\o=some e/\XC K C fI/\PySem.W.mroIn K C (.ref S)=some true /\
 ∀T dx,H₁ e=none->H₁ T=none->T≠e->H₁ dx=some xdA->th (bDw D i) (σ.set i (some (.ref e))) (up2 H₁ e T C dx)
def aYf (K:bF9)(S:Addr)(i:Nat)(tb:St->XK->TS)(th:TS):TS:=λD σ H=>tb σ (exE K S i th D σ) D σ H
def bBb (a1:X.stack=X.env::X.outer)(O:X.env.frame=some X.env.locals)(y:X.N.Nodup)(hi:X.N[i]?=some n)(m:X.env.scope.names.lookup n=some .local)
  (hg:Gl X x) (hm:X.mg x=some (.ref S)) (hS:XS X.K S) (hb:∀bGD σ₀ E,X.Ok->PSs (uA X bGD σ₀ E) body (tb σ₀ E)) (hh:∀e,PSs (sY X e) (b₀::suite) th) (a0:(x == ("__debug__":Str))=false:=by decide) :
  PS X (.Try body [.ExceptHandler (some (.Name x np)) (some n) (b₀::suite) hpos] [] [] pos) (aYf X.K S i tb th):=by
 intro bGD s σ H D I h;refine wpAny_Try_except (bBH (hb bGD σ (exE X.K S i th D σ) I.ok [] s σ H D I.bEb h) (λf s1 l=>?_) λv s1 l=>?_)
 ·cases f with
  |next=>obtain⟨d,b,a,q⟩:=l;exact bFQ ⟨d,b,Inv.aJe I.ok a,q⟩
  |brk=>obtain⟨d,b,a,q⟩:=l;exact⟨d,b,Inv.aJe I.ok a,q⟩
  |cont=>obtain⟨d,b,a,q⟩:=l;exact⟨d,b,Inv.aJe I.ok a,q⟩
  |ret u=>obtain⟨v,d,b,a,r,q⟩:=l;exact⟨v,d,b,Inv.aJe I.ok a,r,q⟩
 ·obtain⟨e,T,o,C,P,rfl,I1,Q,nT,G,hd,C',e',fI,Y,ee,c,A,q⟩:=l;cases Y;cases ee;refine aC2 I1 a1 O Q nT G λp R M L g=>nO M g λW w=>?_;have F:Inv (sY X e) bGD σ (up2 P e p C o) W:=w.aR7;refine wpAny_handleBy_cons (codeAny_handlers_test ?_) (by intro q;cases q);refine lD (X:=sY X e) F hg hm ?_ a0;have e1:up2 P e p C o e=some (aCt e p C o):=aG;obtain⟨vs,B,hz,Z⟩:=(w.hok e _ e1).1;refine aPz w.kIn hS B rfl A ?_;rw[if_pos rfl];refine codeAny_handlers_suite_as ?_;refine nO w g λU V=>?_;refine aBw V y hi (.inl m) (v:=.ref e) rfl (λs3 I4=>?_) (.inr m);refine bBH (hh e bGD s3 _ _ _ I4.aR7 (q p o Q L g hd)) (λf s4 t=>?_) λ_ _ z=>z.elim;cases f with
  |next=>obtain⟨d,b,a,k⟩:=t;exact name_goes (Inv.aFo I.ok a) y hi m λJ j=>⟨_,b,j,k⟩
  |brk=>obtain⟨d,b,a,k⟩:=t;exact name_goes (Inv.aFo I.ok a) y hi m λJ j=>⟨_,b,j,k⟩
  |cont=>obtain⟨d,b,a,k⟩:=t;exact name_goes (Inv.aFo I.ok a) y hi m λJ j=>⟨_,b,j,k⟩
  |ret u=>obtain⟨v,d,b,a,r,k⟩:=t;exact name_goes (Inv.aFo I.ok a) y hi m λJ j=>⟨v,_,b,j,r,k⟩
def bDv (K:bF9)(ta:TE):TE:=fun σ H Q=>ta σ H λx H1=>∃e T C dx fI,x=.ref e/\H1 e=some (aCt e T C dx)/\XC K C fI/\H1 dx=some xdA/\Q .non H1
def bAb (A:PE X o ta)(E:attributeBase o "act" X.env (eval o X.env)=eval o X.env:=by rfl):PE X (.Attribute o "act" pos) (bDv X.K ta):=by
 intro f s σ H Q I h;refine aO7 E (thn (A f s σ H _ I h) λu B ⟨x,m,b,k,e,T,C,j,fI,t,i,c,l,q⟩=>?_);subst t;obtain rfl:u=Value.ref e:=k;obtain⟨D,d,w,n⟩:=(b.hok e _ i).1;obtain⟨g,r,p⟩:=b.hok j _ l;have a:=p "act";have v:g "act"=some .none:=by
  cases z:g "act" with
  |none=>rw[z] at a;exact False.elim a
  |some y=>rw[z] at a;exact congrArg some a
 exact x_load b.kIn c d r v rfl ⟨.non,m,b.tok _,rfl,q⟩
def aTv (K:bF9)(D:V)(Du:Value)(b:Bool->Prop):List V->Hp->VK->Prop:=λxs H Q=>∃e T C dx fI bb,xs=[.ref e,D]/\H e=some (aCt e T C dx)/\XC K C fI/\H dx=some xdA/\PySem.W.mroIn K C Du=some bb/\b bb/\Q (.bl bb) H
def aI1 (y:∀u,RelV D u->u=Du)(n:∀(M:Model) (h:Heap),X.K.In h->PySem.W.Looks M h (typeOf Du) (.type "type"))(p:∀(M:Model) (h:Heap),X.K.In h->PySem.W.Looks M h (isType Du) true) :
  cA X (.builtin "isinstance") (aTv X.K D Du λ_=>True):=by
 rintro bGD s σ H xs us Q I r ⟨e,T,C,dx,fI,bb,rfl,he,c,hd,hm,-,q⟩;cases r with
 |cons r0 r1=>
  cases r1 with
  |@cons _ u2 _ _ r2 r3=>
   cases r3;obtain rfl:=r0;have j:=(y _ r2).symm;subst j;obtain⟨l,f,v,m⟩:=(I.hok e _ he).1;have d:∃o,s.heap.get? dx=some o:=by obtain⟨x,⟨o,_,_,k,_⟩,_⟩:=I.hok dx _ hd;exact⟨o,k⟩
   have g:Meets (Builtin.«isinstance» ⟨[.ref e,Du],[]⟩) (λ_ R s=>X.K.In s.heap/\s.heap.get? e=some { cls:=.ref C,dict:=some dx,data:=.fields l }/\(∃o,s.heap.get? dx=some o)/\∀t,R (.ok (.ret (.bool bb))) { s with toks:=t }):=
    λi w A R s b=>isinstance_outer (aFv b.1 c b.2.1 (λa z=>by cases z;exact b.2.2.1) (n _ _ b.1) (p _ _ b.1) hm λt=>b.2.2.2 t) (by intro z;cases z)
   exact call_isinstance g ⟨I.kIn,f,d,λt=>⟨.bl bb,H,I.tok t,rfl,q⟩⟩
def aXc (a:XS X.K D):cA X (.builtin "isinstance") (aTv X.K (.ref D) (.ref D) λ_=>True):=by
 refine aI1 (λu r=>r) (λM h k=>PySem.W.looks_typeIn k a.ty) λM h k=>?_;obtain⟨c,q⟩:=Option.isSome_iff_exists.mp a.cls;unfold PySem.W.clsIn at q
 split at q
 ·rename_i b;exact (PySem.W.Looks.ld (k _ _ b)).andThen .now
 ·cases q
def bAn:cA X (.builtin "isinstance") (aTv X.K (.ty "ValueError") (.type "ValueError") λ_=>True):=
 aI1 (λu r=>r) (λM h k=>PySem.W.Looks.of_pure aZf) λM h k=>.now
section
variable {P:Program}{w:World}{K:bF9}{mg:bGC}{base:Heap}
def OkX (P:Program)(w:World)(K:bF9)(mg:bGC)(base:Heap)(k:Nat)(x:Str)(ps:List Str)(sp:Sp):Prop:=
 ∃f fd,mg x=some (.ref f)/\PySem.W.keepIn K (.ref f)=true/\Binds K fd ps []/\eX P w K mg base (CXR P w) k f fd ps sp
def OkX.mono (h:OkX P w K mg base j x ps sp)(g:j<=k):OkX P w K mg base k x ps sp:=by obtain⟨f,d,c,b,e,a⟩:=h;exact⟨f,d,c,b,e,a.mono g⟩
def OkX.ofV {x:Str}{st:Stmt}{N ps:List Str}{k:Nat}{sp:Sp}(D:Dn K mg x st ps)(S:aJ N ps (aC st))(e:∀vs H Q E,sp vs H Q E->vs.length=ps.length)
  (c:∀(f:Addr) (cdv:Value) (A:Around) (outer:List Env) (s:Shared) (H:Hp) (vs:List V) (Q:VK) (E:XK),Room k (A.deeper (envOfC x (aC st) s.heap.objs.size f cdv))->sp vs H Q E ->
   ∃t,VSs (qN (CXR P w) P w K mg base N x (aC st) f cdv A outer s H E) (cT st) t/\t { nx:=λ_ H'=>Q .non H',rt:=Q } (start N vs) H):OkX P w K mg base (k+1) x ps sp:=by
 obtain⟨f,o,F,B,m⟩:=D;obtain⟨l,n,kV,h,p,j,cdv,q,d,rfl,g,b⟩:=F.ex;exact⟨f,_,m,F.kp,B,aO0 g b S e λA outer s H vs Q E i a=>let ⟨t,h1,h2⟩:=c f cdv A outer s H vs Q E i a;⟨t,h1.1,h2⟩⟩
def eX.calm (F:eX P w K mg base (CXR P w) k f fd ps sp)(h:∀vs H Q E,sp' vs H Q E->sp vs H Q E0):eX P w K mg base CX0 k f fd ps sp':=
 ⟨λvs H Q E q=>F.len vs H Q E0 (h _ _ _ _ q),λA a s H b e vs Q E j l i d g=>bCI (F.run A a s H b e vs Q E0 j l i d (h _ _ _ _ g)) λr m c=>by
  cases r with
  |error v=>obtain⟨_,_,_,_,_,_,_,_,_,_,_,_,_,_,z⟩:=c;exact z.elim
  |ok fl=>cases fl <;> exact c⟩
def OkX.calm (G:OkX P w K mg base k x ps sp)(h:∀vs H Q E,sp' vs H Q E->sp vs H Q E0):Ok P w K mg base k x ps sp':=by obtain⟨f,d,c,b,e,a⟩:=G;exact⟨f,d,c,b,e,a.calm h⟩
structure ExT (K:bF9)(mg:bGC)(st:Stmt)(x y:Str)(C S:Addr):Prop where
 at_:∃fI fd,XC K C fI/\Fun K "__init__" y st fI fd/\Binds K fd bQQ []
 mg:mg x=some (.ref C)
 kp:PySem.W.keepIn K (.ref C)=true
 cls:XS K C
 over:PySem.W.mroIn K C (.ref S)=some true
def gK {k:Nat}{y:Str}{st:Stmt}{fI:Addr}{fd:FuncData}(F:Fun K "__init__" y st fI fd)(j:aJ bQQ bQQ (aC st))
  (l:∀(X:Cx),X.N=(["self","act"]:List Str)->X.env.scope=aC st->X.mg=mg->VSs X (cT st) (aFd (aN8 (tVI X.K fI (dN (mL 0) (dN (mL 1) qO)))) (aUu X.K fI (mL 0) (mL 1)))) :
  eX P w K mg base CX0 (k+1) fI fd bQQ (aAy K fI):=by
 refine F.okV j (λg H Q E ⟨e,C,z,_⟩=>by rw[z];rfl) λd A a s H g Q E m ⟨e,C,h,b,c,q⟩=>⟨_,l _ rfl rfl rfl,?_⟩;subst h;refine⟨_,rfl,_,rfl,e,C,.non,rfl,b,c,?_⟩;exact⟨_,rfl,_,rfl,e,C,rfl,rfl,b,c,λf n i=>q f n i⟩
end
section
variable {X:Cx}{k j:Nat}{C S:Addr}{E:XK}{x y:Str}{np cpos pos:Pos}{a:Expr}{t:TA}{st:Stmt}
def fH (h:ExT X.K X.mg st x y C S)(e:∀fI fd,Fun X.K "__init__" y st fI fd->eX X.prog X.w X.K X.mg X.base CX0 k fI fd bQQ (aAy X.K fI))(j:Room (k+1) X.A)(l:Raises X E)(i:X.calm=true)
  (n:Gl X x) (f:VA X [a] t) (b:(x == ("__debug__":Str))=false:=by decide) (g:cB a=true:=by rfl) :
  VS X (.Raise (some (.Call (.Name x np) [a] [] cpos)) none pos) (aRl C E t):=by
 obtain⟨⟨fI,fd,c,F,B⟩,m,d,_,_⟩:=h;exact⟨aSa c (e fI fd F) j B zA l i d n m f.1 b (aN g)⟩
def bA9 {K:bF9}{o:Expr}{ta:TE}{f:Str}(a:VE X o ta)(b:X.K=K:=by rfl)(d:f = "act":=by first|rfl|decide)(c:attributeBase o f X.env (eval o X.env)=eval o X.env:=by rfl):VE X (.Attribute o f pos) (bDv K ta):=by subst d b;exact⟨bAb a.1 c⟩
def iV {K:bF9}{D:Addr}(a:XS K D)(b:X.K=K:=by rfl):cA X (.builtin "isinstance") (aTv K (.ref D) (.ref D) λ_=>True):=by subst b;exact aXc a
def aX4 {K:bF9}(a:X.K=K:=by rfl):cA X (.builtin "isinstance") (aTv K (.ty "ValueError") (.type "ValueError") λ_=>True):=by subst a;exact bAn
def aZ2 (b:X.stack=X.env::X.outer)(a:X.env.frame=some X.env.locals)(l:X.N.Nodup)(hi:X.N[i]?=some n)(k:X.env.scope.names.lookup n=some .local)
  (m:Gl X x) (f:X.mg x=some (.ref S)) (j:XS X.K S) (h:∀bGD σ₀ E,X.Ok->VSs (uA X bGD σ₀ E) body (tb σ₀ E)) (g:∀e,VSs (sY X e) (b₀::suite) th) (c:(x == ("__debug__":Str))=false:=by decide) :
  VS X (.Try body [.ExceptHandler (some (.Name x np)) (some n) (b₀::suite) hpos] [] [] pos) (aYf X.K S i tb th):=
 ⟨bBb b a l hi k m f j (λbGD σ₀ E d=>(h bGD σ₀ E d).1) (λe=>(g e).1) c⟩
def aPv (n:X.Ok)(G:OkX X.prog X.w X.K X.mg X.base k x ps sp)(m:Room k X.A)(o:Gl X x)
  (i:VA (uA X bGD₀ σ₀ E) (e::es) t) (a:(x == ("__debug__":Str))=false:=by decide) (j:cB e=true:=by rfl) (c:(backTo pos (starEach es X.env)).any (·.1)=false:=by rfl) :
  VE (uA X bGD₀ σ₀ E) (.Call (.Name x p) (e::es) [] pos) (aOh σ₀ sp [] E t):=by
 obtain⟨f,l,g,d,h,b⟩:=G;exact⟨aQa n b m o g d h .nil i.1 a (aN j) c⟩
end
section
variable {P:Program}{w:World}{K:bF9}{mg:bGC}{base:Heap}
def cZ (P:Program)(w:World)(K:bF9)(mg:bGC)(base:Heap)(C:Addr)(k:Nat)(m:Str)(ps:List Str)(sp:Sp):Prop:=
 ∃f fd,Cls K C/\Meth K C m f/\Binds K fd ps []/\eX P w K mg base (CXR P w) k f fd ps sp
def cZ.mono (h:cZ P w K mg base C j m ps sp)(g:j<=k):cZ P w K mg base C k m ps sp:=by obtain⟨f,d,c,b,e,a⟩:=h;exact⟨f,d,c,b,e,a.mono g⟩
def cZ.ofV {C:Addr}{m qual:Str}{st:Stmt}{N ps:List Str}{k:Nat}{sp:Sp}(c:Cls K C)(D:eV K C m qual st ps)(S:aJ N ps (aC st))(h:∀vs H Q E,sp vs H Q E->vs.length=ps.length)
  (d:∀(f:Addr) (cdv:Value) (A:Around) (outer:List Env) (s:Shared) (H:Hp) (vs:List V) (Q:VK) (E:XK),Room k (A.deeper (envOfC qual (aC st) s.heap.objs.size f cdv))->sp vs H Q E ->
   ∃t,VSs (qN (CXR P w) P w K mg base N qual (aC st) f cdv A outer s H E) (cT st) t/\t { nx:=λ_ H'=>Q .non H',rt:=Q } (start N vs) H):cZ P w K mg base C (k+1) m ps sp:=by
 obtain⟨f,q,e,F,B⟩:=D;obtain⟨o,p,kV,j,r,n,cdv,u,g,rfl,i,b⟩:=F.ex;exact⟨f,_,c,e,B,aO0 i b S h λA outer s H vs Q E l a=>let ⟨t,h1,h2⟩:=d f cdv A outer s H vs Q E l a;⟨t,h1.1,h2⟩⟩
def cZ.calm (G:cZ P w K mg base C k m ps sp)(h:∀vs H Q E,sp' vs H Q E->sp vs H Q E0):OkM P w K mg base C k m ps sp':=by obtain⟨f,d,c,b,e,a⟩:=G;exact⟨f,d,c,b,e,a.calm h⟩
end
def lZ (G:OkX X.prog X.w X.K X.mg X.base k x ps sp)(n:Room k X.A)(l:Thr X E)(o:Gl X x)
  (i:VA X (e::es) t) (a:(x == ("__debug__":Str))=false:=by decide) (j:cB e=true:=by rfl) (c:(backTo pos (starEach es X.env)).any (·.1)=false:=by rfl) :
  VE X (.Call (.Name x p) (e::es) [] pos) (uQ sp [] E t):=by
 obtain⟨f,m,g,d,h,b⟩:=G;exact⟨aNv b n o g d h .nil l.passes i.1 a (aN j) c⟩
inductive Tg where
 |non
 |int (i:Int)
 |bl (b:Bool)
 |str (x:Str)
 |tup (ts:List Tg)
 |lst
mutual
inductive dD (K:bF9)(H:Hp):V->Tg->Prop
 |non:dD K H .non .non
 |int {i}:dD K H (.int i) (.int i)
 |bl {b}:dD K H (.bl b) (.bl b)
 |str {x:Str}:x.length<=1000->dD K H (.str x) (.str x)
 |tup {a vs ts}:SqT K H a vs->vs.length<=1000->cM K H vs ts->dD K H (.ref a) (.tup ts)
 |lst {a vs}:H a=some (.lst vs)->dD K H (.ref a) .lst
inductive cM (K:bF9)(H:Hp):List V->List Tg->Prop
 |nil:cM K H [] []
 |cons {v t vs ts}:dD K H v t->cM K H vs ts->cM K H (v::vs) (t::ts)
end
structure Tst (K:bF9)(H H':Hp):Prop where
 tk:∀a xs,SqT K H a xs->SqT K H' a xs
 lk:∀a xs,H a=some (.lst xs)->∃ys,H' a=some (.lst ys)
mutual
theorem dD.st {K:bF9}{H H':Hp}(e:Tst K H H'):∀{v:V} {t:Tg},dD K H v t->dD K H' v t
 |_,_,.non=>.non
 |_,_,.int=>.int
 |_,_,.bl=>.bl
 |_,_,.str h=>.str h
 |_,_,.tup g l h=>.tup (e.tk _ _ g) l (cM.st e h)
 |_,_,.lst g=>let ⟨_,h⟩:=e.lk _ _ g;.lst h
theorem cM.st {K:bF9}{H H':Hp}(e:Tst K H H'):∀{vs:List V} {ts:List Tg},cM K H vs ts->cM K H' vs ts
 |_,_,.nil=>.nil
 |_,_,.cons h t=>.cons (dD.st e h) (cM.st e t)
end
def Tst.same {K:bF9}{H H':Hp}(e:Same H H'):Tst K H H':=⟨λ_ _=>e.bC,λ_ _ g=>⟨_,e _ _ g⟩⟩
def dD.same {K:bF9}{H H':Hp}{v:V}{t:Tg}(e:Same H H')(h:dD K H v t):dD K H' v t:=h.st (.same e)
def cM.same {K:bF9}{H H':Hp}{vs:List V}{ts:List Tg}(e:Same H H')(h:cM K H vs ts):cM K H' vs ts:=h.st (.same e)
theorem cM.len {K:bF9}{H:Hp}:∀{vs:List V} {ts:List Tg},cM K H vs ts->vs.length=ts.length
 |_,_,.nil=>rfl
 |_,_,.cons _ t=>by rw[t6,t6,cM.len t]
theorem cM.at {K:bF9}{H:Hp}:∀{vs:List V} {ts:List Tg},cM K H vs ts->∀{i:Nat} {v:V},vs[i]?=some v->∃t,ts[i]?=some t/\dD K H v t
 |_,_,.nil,_,_,e=>by cases e
 |_,_,.cons h t,0,v,e=>by cases e;exact⟨_,rfl,h⟩
 |_,_,.cons h t,i+1,v,e=>by obtain⟨c,b,a⟩:=cM.at t (by simpa using e);exact⟨c,by simpa using b,a⟩
def cJ (G:cZ X.prog X.w X.K X.mg X.base C k m ps sp)(n:Room k X.A)(j:Thr X E)(p:VE X o ta)(h:VA X (e::es) t)
  (i:cB e=true:=by rfl) (b:(backTo pos (starEach es X.env)).any (·.1)=false:=by rfl)
  (q:eval (.Call (.Attribute o m apos) (e::es) [] pos) X.env=(do
   let ov <-eval o X.env
   standAt apos.atName
   let (f,first) <-holding [ov] (getMethod ov m pl)
   callWith pos f first (backTo pos (starEach (e::es) X.env)) (backToKw pos (keywordEach [] X.env))):=by rfl):VE X (.Call (.Attribute o m apos) (e::es) [] pos) (aEh C m sp [] E ta t):=by
 obtain⟨f,l,d,c,g,a⟩:=G;exact⟨aNt p.1 d c a n g .nil j.passes h.1 (aN i) b q⟩
def bE2 (K:bF9):List V->Hp->VK->Prop:=λxs H Q=>∃(p:Addr) (bs:List Bool),xs=[.ref p]/\SqL K H p (bs.map V.bl)/\Q (.bl (bs.any id)) H
def any_range (bs:List Bool):(List.range bs.length).any (λi=>bs.getD i false)=bs.any id:=by
 rw[bCM,bEF,bEF];constructor
 ·rintro⟨i,a,h⟩;have a:=List.mem_range.mp a;rw[j9,b8 a] at h;exact⟨_,bAU a,h⟩
 ·rintro⟨b,c,h⟩;obtain⟨i,a,e⟩:=List.mem_iff_getElem.mp c;refine⟨i,List.mem_range.mpr a,?_⟩;rw[j9,b8 a];rw[e];exact h
def aTi (P:X.calm=true):cA X (.builtin "any") (bE2 X.K):=by
 intro G s σ H R M Q I r h;obtain⟨p,c,rfl,x,q⟩:=h;obtain⟨u,rfl,w⟩:=r.one;cases w;obtain⟨d,t,k,L⟩:=I.list x;have g:=t.length;rw[j7] at g;have j:p≠s.heap.objs.size:=by obtain⟨o,E,_⟩:=k.isList;exact v7 (m9 E)
 refine call_any_walk (bCR k.isList ?_);refine⟨s.heap.objs.size,_,_,_,_,_,λi=>c.getD i false,rfl,Walks.list (show X.A.in1.handled=none from I.ok.hd P) _ p j d.toArray,⟨⟨_,j8 _ rfl,rfl,rfl⟩,?_⟩,?_,λJ N y=>?_⟩
 ·exact k.isList.at λo e=>d7 _ e
 ·intro i v B D O C a;have f:d[i]?=some v:=by simpa using C
  have m:i<c.length:=by rw[g];exact (List.getElem?_eq_some_iff.mp f).1
  obtain⟨u,n,F⟩:=t.get (by rw[t7,b8 m];rfl);rw[f] at n;cases n;cases F;have e:c.getD i false=c[i]:=by rw[j9,b8 m];rfl
  replace a:D (c.getD i false) B:=a;rw[e] at a;exact bBB a
 ·have e:(List.range d.toArray.size).any (λi=>c.getD i false)=c.any id:=by rw[d9,<-g];exact any_range c
  rw[e];refine⟨.bl (c.any id),H,?_,rfl,q⟩;exact I.kept λb o l=>y b o (by
   intro z;have:b=s.heap.objs.size:=by simpa using z
   rw[this] at l;exact absurd (m9 l) (bBQ _)) (d7 _ l)
def bAm:List V->Hp->VK->Prop:=λxs H Q=>∃z:Str,xs=[.str z]/\z.length<=1000/\∀l H',H l=none->Same H H'->H' l=some (.lst ((List.range z.cps.size).map λi=>V.str (sgn z i)))->Q (.ref l) H'
def aMj (z:Str)(n:Nat):∀(k:Nat) (vs:List Value),vs.length=n->(∀(j:Nat) (v:Value),vs[j]?=some v->∃t,v=.str (sgn z (k+j)) t)->Vals ((List.range' k n).map λi=>V.str (sgn z i)) vs:=by
 induction n with
 |zero=>intro k vs a _;cases bAX a;exact .nil
 |succ n ih=>
  intro k vs a h;cases vs with
  |nil=>cases a
  |cons v vs=>obtain⟨t,rfl⟩:=h 0 v rfl;rw[List.range'_succ,bAI];refine .cons ⟨t,rfl⟩ (ih (k+1) vs (by simpa using a) λj u e=>?_);obtain⟨c,b⟩:=h (j+1) u e;exact⟨c,by rw[b,show k+(j+1)=k+1+j by lia]⟩
def aNb (D:X.calm=true):cA X (.type "list") bAm:=by
 intro A s σ H E C Q I r h;obtain⟨z,rfl,d,q⟩:=h;obtain⟨u,rfl,t,rfl⟩:=vals1 r;refine call_list_str (I.ok.hd D) z t (λB m a w p l b=>?_) (small d);have g:=aMj z z.cps.size 0 a.toList (by rw[v9];exact b.1) λj v e=>by have x:=b.2 j v (by rw[<-bBY];exact e);obtain⟨c,t',y,n⟩:=x;refine⟨t',?_⟩;rw[n];unfold sgn;rw[bFW,v8,y];rfl
 rw[<-List.range_eq_range'] at g;have k:a.toList.toArray=a:=by simp
 have f:H s.heap.objs.size=none:=I.hok.fresh (j0 _);refine⟨.ref s.heap.objs.size,_,I.laid (t':=m) (o:=.lst ((List.range z.cps.size).map λi=>V.str (sgn z i))) p (j0 _) ?_,rfl,q _ _ f (aO f _) aG⟩;refine⟨by rw[j7,bAM];exact small d,a.toList,w,g,?_⟩;rw[k];exact l
def aL8 {X:Cx}{K:bF9}(h:X.K=K:=by rfl):OpR X (compareOp .In) (rIn K false):=by subst h;exact wD
structure bA7 (E:Hp->Hp->Prop)(H:Hp):Prop where
 new:∀D o,H D=none->E H (upd H D o)
 trans:∀{H1 H2},E H H1->E H1 H2->E H H2
 upd:∀D o H',H D=none->E H H'->E H (upd H' D o)
 keep:∀D H1 H2 xs,H D=none->E H H1->H1 D=some (.lst xs)->E H1 H2->H2 D=some (.lst xs)
def aWl (H:Hp):bA7 Same H:=⟨λD o h=>aO h o,λa b=>a.trans b,λD o f h s=>fP h s,λD e d c _ _ h s=>s _ _ h⟩
def oH (J:It)(H1:Hp)(σ0:L2.St)(g:TG)(tt:TT)(te:TE)(Q:VK):Prop:=∀D,H1 D=none->∃W:Nat->Nat->L2.St->Hp->List V->Prop,(∃m,W 0 m σ0 (L2.upd H1 D (.lst [])) []) /\
 ∀i m σ' H' ys,W i m σ' H' ys->H' D=some (.lst ys)/\((J.stop i H'/\Q (.ref D) H')\/(J.go i H'/\∀x H2,J.yld i H' x H2->g x σ' H2 fun σ3 H3=>tt σ3 H3 λb H4=>
  if b=true then te σ3 H4 λy H5=>H5 D=some (.lst ys)/\ys.length<sizeLine/\∃m',m'<m/\W (i+1) m' σ3 (L2.upd H5 D (.lst (ys++[y]))) (ys++[y]) else H4 D=some (.lst ys)/\∃m',m'<m/\W (i+1) m' σ3 H4 ys))
section
variable {X:Cx}{K:bF9}{scope:Scope}{N:List Str}{tl te:TE}{tt:TT}{g:TG}{σ:L2.St}{H:Hp}{Q:VK}
def oU (c:L2.St)(b:Cap X scope N σ c)(h:tl σ H λv H1=>∃a,v=.ref a/\(∃xs,SqL K H1 a xs)/\oH (Itl K a) H1 c g tt te Q):jE X scope N (aNk K tl) g tt te σ H Q:=⟨c,b,h⟩
def zK (c:L2.St)(b:Cap X scope N σ c)(h:tl σ H λv H1=>∃a,v=.ref a/\(∃xs,SqT K H1 a xs)/\oH (Itt K a) H1 c g tt te Q):jE X scope N (aWu K tl) g tt te σ H Q:=⟨c,b,h⟩
def aMy {a:Addr}{xs:List V}{E:Hp->Hp->Prop}(f:∀H',E H H'->SqT K H' a xs):∀H' i x,E H H'->xs[i]?=some x->(Itt K a).go i H'/\∀y H2,(Itt K a).yld i H' y H2->H2=H'/\y=x:=λH' i x s e=>
 ⟨⟨xs,x,f H' s,e⟩,λy H2 g=>by obtain⟨c,d⟩:=g;have b:=d xs (f H' s);rw[e] at b;cases b;exact⟨c,rfl⟩⟩
def aBq {a:Addr}{xs:List V}{E:Hp->Hp->Prop}(b:∀H',E H H'->SqT K H' a xs):∀H',E H H'->(Itt K a).stop xs.length H':=λH' s=>⟨xs,b H' s,j0 _⟩
def aXa {a:Addr}{xs:List V}{E:Hp->Hp->Prop}(f:∀H',E H H'->SqL K H' a xs):∀H' i x,E H H'->xs[i]?=some x->(Itl K a).go i H'/\∀y H2,(Itl K a).yld i H' y H2->H2=H'/\y=x:=λH' i x s e=>
 ⟨⟨xs,x,f H' s,e⟩,λy H2 g=>by obtain⟨c,d⟩:=g;have b:=d xs (f H' s);rw[e] at b;cases b;exact⟨c,rfl⟩⟩
def aQx {a:Addr}{xs:List V}{E:Hp->Hp->Prop}(b:∀H',E H H'->SqL K H' a xs):∀H',E H H'->(Itl K a).stop xs.length H':=λH' s=>⟨xs,b H' s,j0 _⟩
inductive pX (R:Nat->V->Prop):List Nat->List V->Prop
 |nil:pX R [] []
 |cons {i y is ys}:R i y->pX R is ys->pX R (i::is) (y::ys)
def pX.snoc (h:pX R is ys)(r:R i y):pX R (is++[i]) (ys++[y]):=by
 induction h with
 |nil=>exact .cons r .nil
 |cons r' _ ih=>exact .cons r' ih
def pX.imp (h:pX R is ys)(k:∀i y,R i y->S i y):pX S is ys:=by
 induction h with
 |nil=>exact .nil
 |cons r _ ih=>exact .cons (k _ _ r) ih
def pX.len {R:Nat->V->Prop}{is:List Nat}{ys:List V}(h:pX R is ys):is.length=ys.length:=by
 induction h with
 |nil=>rfl
 |cons _ _ ih=>rw[t6,t6,ih]
def aUq (E:Hp->Hp->Prop)(n:bA7 E H)(xs:List V)(p:Nat->Bool)(Rel:Nat->Hp->V->Prop)
  (A:∀{i H1 H2 y},E H H1->E H1 H2->Rel i H1 y->Rel i H2 y) (I:∀{i H1 D ys zs y},H D=none->E H H1->H1 D=some (.lst ys)->Rel i H1 y->Rel i (L2.upd H1 D (.lst zs)) y)
  (At:Nat->L2.St->Prop) (U:L2.St->Prop) (T:U σ0) (hsz:xs.length<=sizeLine)
  (J:It) (S:∀H' i x,E H H'->xs[i]?=some x->J.go i H'/\∀y H2,J.yld i H' y H2->H2=H'/\y=x) (w:∀H',E H H'->J.stop xs.length H')
  (L:∀(i:Nat) (x:V) σ' H' Q',xs[i]?=some x->U σ'->E H H'->(∀σ2,U σ2->At i σ2->Q' σ2 H')->g x σ' H' Q')
  (P:∀(i:Nat) (x:V) σ2,xs[i]?=some x->At i σ2->∀H' R,E H H'->(∀H2,E H' H2->R (p i) H2)->tt σ2 H' R)
  (O:∀(i:Nat) (x:V) σ2,xs[i]?=some x->At i σ2->p i=true->∀H' R,E H H'->(∀y H2,E H' H2->Rel i H2 y->R y H2)->te σ2 H' R)
  (q:∀D H' ys,E H H'->H D=none->H' D=some (.lst ys)->pX (λi y=>Rel i H' y) (sel p 0 (List.range xs.length)) ys->Q (.ref D) H'):oH J H σ0 g tt te Q:=by
 intro D b;refine⟨λi m σ' H' ys=>i<=xs.length/\m=xs.length - i/\U σ'/\E H H'/\H' D=some (.lst ys)/\pX (λi y=>Rel i H' y) (sel p 0 (List.range i)) ys,⟨xs.length,bAF _,rfl,T,n.new _ _ b,aG,.nil⟩,?_⟩;rintro i m σ' H' ys ⟨hi,rfl,hps,sm,hL,hR⟩;refine⟨hL,?_⟩;by_cases c:i<xs.length
 ·right;have o:=b8 c;obtain⟨G,K⟩:=S H' i xs[i] sm o;refine⟨G,λx H2 C=>?_⟩;obtain⟨rfl,rfl⟩:=K x H2 C;have v:sel p 0 (List.range (i+1))=sel p 0 (List.range i)++(if p i then [i] else []):=by rw[List.range_succ,aBr,bAM,bFW]
  have W:=hR.len;have B:=aFc p 0 (List.range i);rw[bAM] at B;refine L i xs[i] σ' _ _ o hps sm fun σ2 k l=>?_;refine P i xs[i] σ2 o l _ _ sm λM s=>?_;have a:=n.trans sm s;have h:=n.keep D _ _ _ b sm hL s;cases t:p i with
  |true=>rw[if_pos rfl];refine O i xs[i] σ2 o l t _ _ a λy N u F=>?_;have f:=n.trans a u;have d:=n.keep D _ _ _ b a h u;refine⟨d,by lia,xs.length - (i+1),by lia,c,rfl,k,n.upd D _ _ b f,aG,?_⟩;rw[v,t];exact pX.snoc (hR.imp λj z r=>I b f d (A a u (A sm s r))) (I b f d F)
  |false=>rw[if_neg (by simp)];refine⟨h,xs.length - (i+1),by lia,c,rfl,k,a,h,?_⟩;rw[v,t];simp only[bBC,if_false,bBU];exact hR.imp λj z r=>A sm s r
 ·left;have e:i=xs.length:=by lia
  subst e;exact⟨w _ sm,q D _ ys sm b hL hR⟩
end
def At1 (σ0:L2.St)(v:V)(σ:L2.St):Prop:=∃l,σ=(σ0.set 0 l).set 0 (some v)
def Ps1 (σ0:L2.St)(σ:L2.St):Prop:=∃l,σ=σ0.set 0 l
def At2 (σ0:L2.St)(a b:V)(σ:L2.St):Prop:=σ=(σ0.set 0 (some a)).set 1 (some b)
def Ps2 (σ0:L2.St)(σ:L2.St):Prop:=∃l m,σ=(σ0.set 0 l).set 1 m
def hg1 {σ0:L2.St}{i:Nat}{x:V}{σ':L2.St}{H':Hp}{Q':L2.St->Hp->Prop}(h:Ps1 σ0 σ')(q:∀σ2,Ps1 σ0 σ2->At1 σ0 x σ2->Q' σ2 H'):bF 0 x σ' H' Q':=by obtain⟨l,rfl⟩:=h;exact q _ ⟨some x,by rw[bCK]⟩ ⟨l,rfl⟩
def hg2 {K:bF9}{c:L2.St}{p:Addr}{a b:V}{σ':L2.St}{H':Hp}{Q':L2.St->Hp->Prop}(d:SqT K H' p [a,b])(h:Ps2 c σ')(q:∀σ2,Ps2 c σ2->At2 c a b σ2->Q' σ2 H'):aIv K 2 (rB (bF 0) (rB (bF 1) aQi)) (.ref p) σ' H' Q':=by
 obtain⟨l,m,rfl⟩:=h;have e:(((c.set 0 l).set 1 m).set 0 (some a)).set 1 (some b)=(c.set 0 (some a)).set 1 (some b):=by rw[List.set_comm _ _ (show (1:Nat)≠0 by decide),bCK,bCK]
 refine⟨p,_,rfl,d,rfl,_,_,rfl,_,_,rfl,rfl,?_⟩;rw[e];exact q _ ⟨some a,some b,rfl⟩ rfl
def yV (xs:List V)(n:Nat):oJ xs none (some (n:Int))=xs.take n:=by
 unfold oJ;rw[HT.aIl,HT.aO9,List.drop_zero,Nat.sub_zero];by_cases h:n<=xs.length
 ·rw[Nat.min_eq_left h]
 ·rw[Nat.min_eq_right (by lia),bED,bAV (by lia)]
def vQ (xs:List V)(n:Nat):oJ xs (some (n:Int)) none=xs.drop n:=by
 unfold oJ;rw[HT.aIl,HT.aO9];by_cases h:n<=xs.length
 ·rw[Nat.min_eq_left h];exact bAV (by rw[bBL];lia)
 ·rw[Nat.min_eq_right (by lia),List.drop_length,bEZ (by lia),bFN]
def bEo (K:bF9):V->Option Int->Option Int->Hp->VK->Prop:=λx lo hi H Q=>∃a xs,x=.ref a/\SqL K H a xs/\∀p H',H p=none->Same H H'->H' p=some (.lst (oJ xs lo hi))->Q (.ref p) H'
def aBh:SlR X (bEo X.K):=λb s σ H x v o l i d h Q I f j n g ⟨a,k,e,m,q⟩=>
 aW5 b s σ H x v o l i d h Q I f j n g ⟨a,k,e,m,λp c=>q p _ c (aO c _) aG⟩
inductive Al2 {α β:Type}(R:α->β->Prop):List α->List β->Prop
 |nil:Al2 R [] []
 |cons {a b as bs}:R a b->Al2 R as bs->Al2 R (a::as) (b::bs)
def Al2.len {α β:Type}{R:α->β->Prop}{as:List α}{bs:List β}(h:Al2 R as bs):as.length=bs.length:=by
 induction h with
 |nil=>rfl
 |cons _ _ ih=>rw[t6,t6,ih]
theorem Al2.at {α β:Type}{R:α->β->Prop}{as:List α}{bs:List β}(h:Al2 R as bs):∀{j:Nat} {a:α},as[j]?=some a->∃b,bs[j]?=some b/\R a b:=by
 induction h with
 |nil=>intro j a e;simp at e
 |cons r _ ih=>
  intro j a e;cases j with
  |zero=>cases e;exact⟨_,rfl,r⟩
  |succ j=>exact ih (by simpa using e)
def DEq (K:bF9)(H:Hp):Nat->V->V->Prop
 |0,x,y=>iW x=true/\x=y
 |n+1,x,y=>(iW x=true/\x=y)\/∃a b xs ys,x=.ref a/\y=.ref b/\SqT K H a xs/\SqT K H b ys/\Al2 (DEq K H n) xs ys
def aDy (h:iW x=true)(a:RelV x v)(d:RelV x u):SeqAt.EqAt A s v u true:=by
 cases x with
 |non=>cases a;cases d;exact bCU _
 |bl b=>cases a;cases d;exact bCU _
 |int i=>obtain⟨t,rfl⟩:=a;obtain⟨c,rfl⟩:=d;have z:=bER (A:=A) (s:=s) i t i c;simpa using z
 |str y=>obtain⟨t,rfl⟩:=a;obtain⟨c,rfl⟩:=d;have z:=bDL (A:=A) (s:=s) y t y c;simpa using z
 |_=>cases h
def aLc (I:Inv X bGD σ H s)(k:Vals xs its)(l:Vals ys jts)(h:Al2 (DEq X.K H n) xs ys)
  (r:∀{x y v u},DEq X.K H n x y->RelV x v->RelV y u->SeqAt.EqAt A s v u true):∀(j:Nat) (h1:j<its.toArray.size) (h2:j<jts.toArray.size),SeqAt.EqAt A s its.toArray[j] jts.toArray[j] ((λ_=>true) j):=λj h1 h2=>by
 have q:=k.length;have a:j<xs.length:=by rw[d9] at h1;lia
 obtain⟨y,p,d⟩:=h.at (b8 a);obtain⟨m,b,i⟩:=k.get (b8 a);obtain⟨e,c,f⟩:=l.get p;have g:its.toArray[j]=m:=by rw[bBM];exact (List.getElem?_eq_some_iff.mp b).2
 have o:jts.toArray[j]=e:=by rw[bBM];exact (List.getElem?_eq_some_iff.mp c).2
 rw[g,o];exact r d i f
def uY (n:Nat):(List.range n).all (λ_=>true)=true:=by rw[bCF];intro _ _;rfl
theorem aDg (I:Inv X bGD σ H s):∀(n:Nat) {A:Around} {x y:V} {v u:Value},DEq X.K H n x y->RelV x v->RelV y u->A.units+n<cLine->SeqAt.EqAt A s v u true
 |0,A,x,y,v,u,h,rv,ru,_=>by obtain⟨h,rfl⟩:=h;exact aDy h rv ru
 |n+1,A,x,y,v,u,h,rv,ru,hu=>by
  rcases h with⟨h,rfl⟩|⟨a,b,xs,ys,rfl,rfl,ha,hb,h⟩
  ·exact aDy h rv ru
  cases rv;cases ru;by_cases e:a=b
  ·subst e;exact bCU _
  obtain⟨c,i,o,p⟩:=I.tuple ha;obtain⟨f,g,j,q⟩:=I.tuple hb;refine bDP e ?_;have z:=SeqAt.RcAt.tuples (A:=A) (e:=λ_=>true) (show s.heap.IsTuple a c.toArray from o) (show s.heap.IsTuple b f.toArray from j) (by lia) (aLc I i g h λd l m=>aDg I n d l m (by show A.units+1+n<cLine;lia));have k:(c.toArray.size == f.toArray.size)=true:=by rw[d9,d9];have:=i.length;have:=g.length;have:=h.len;simp;lia
  rw[uY,k] at z;exact z
def bDh:R2:=λx y H Q=>(∃a b,x=.int a/\y=.int b/\Q (.bl (decide (a<b))) H)\/∃a b:Str,x=.str a/\y=.str b/\Q (.bl (decide (a.cps.toList<b.cps.toList))) H
def bAt:OpR X (compareOp .Lt) bDh:=by
 intro f s σ H x y v u Q I c d h;rcases h with⟨a,b,rfl,rfl,q⟩|⟨a,b,rfl,rfl,q⟩
 ·obtain⟨t,rfl⟩:=c;obtain⟨e,rfl⟩:=d;exact lt_int ⟨.bl _,H,I,rfl,q⟩
 ·obtain⟨t,rfl⟩:=c;obtain⟨e,rfl⟩:=d;exact lt_str ⟨.bl _,H,I,rfl,q⟩
def aV5 (K:bF9):V->List V->Hp->VK->Prop:=λx vs H Q=>∃(l:Addr) (ss:List Str) (n:Str) (i:Nat),x=.ref l/\vs=[.str n]/\SqL K H l (ss.map V.str)/\ss.length<=1000/\ss[i]?=some n/\(∀(j:Nat) (m:Str),j<i->ss[j]?=some m->m≠n)/\Q (.int (i:Nat)) H
def aK6 (n:Str):Value->Bool
 |.str x _=>x == n
 |_=>false
def aQ2:MtR X "list.index" (aV5 X.K):=by
 intro Z s σ H x vs v us Q I M U h;obtain⟨l,f,n,i,rfl,rfl,S,A,C,o,q⟩:=h;cases M;obtain⟨u,rfl,T⟩:=U.one;obtain⟨t,rfl⟩:=T;obtain⟨a,r,W,hz⟩:=I.list S;have O:=r.length;rw[j7] at O;obtain⟨⟨L,R,D,N⟩,G,E,Y,hd⟩:=id W.isList;simp only at E hd;subst E hd;have J:=(List.getElem?_eq_some_iff.mp C).1;have c:∀{j:Nat} (e:j<a.length),∃m b,f[j]?=some m/\a[j]=.str m b:=λ{j} e=>by
  have g:j<f.length:=by lia
  obtain⟨w,P,B⟩:=r.get (show (f.map V.str)[j]?=some (.str f[j]) by rw[t7,b8 g];rfl);obtain⟨b,rfl⟩:=B;exact⟨f[j],b,b8 g,(List.getElem?_eq_some_iff.mp P).2⟩
 refine call_meets PySem.F.slot_list_index ⟨_,G,rfl⟩ PySem.F.entry_list_index (PySem.F.args_list_index_2 _ _)
  (SeqAt.list_indexAt l a.toArray Y R N (.str n t) (aK6 n) i (by rw[d9];lia) (by lia) ?_ ?_) ⟨G,λy z=>?_,⟨.int _,H,I.tok _,⟨_,rfl⟩,q⟩⟩
 ·obtain⟨m,b,d,k⟩:=c (j:=i) (by lia);rw[C] at d;cases d;show aK6 n a[i]=true;rw[k];show (n == n)=true;simp
 ·intro j e p;obtain⟨m,b,d,k⟩:=c (j:=j) (by simpa using e);show aK6 n a[j]=false;rw[k];have:=o j m p d;show (m == n)=false;simpa using this
 ·have z:y∈a:=by simpa using z
  obtain⟨j,e,rfl⟩:=bBJ z;obtain⟨m,b,d,k⟩:=c (j:=j) e;rw[k];exact bDL m b n t
def bDc (K:bF9):List V->Hp->VK->Prop:=λxs H Q=>∃l us,xs=[.ref l,.ty "list"]/\SqL K H l us/\Q (.bl true) H
def aRb:cA X (.builtin "isinstance") (bDc X.K):=by intro i s σ H n k Q I r h;obtain⟨l,j,rfl,a,q⟩:=h;obtain⟨u,v,rfl,b,g⟩:=r.two;obtain rfl:v=Value.type "list":=g;obtain rfl:u=Value.ref l:=b;obtain⟨f,m,e,_⟩:=I.list a;obtain⟨o,d,c,_⟩:=id e.isList;exact call_isinstance (isinstance_true F.isi_meta_list F.isi_self_list) ⟨⟨o,d,c⟩,⟨.bl true,H,I,rfl,q⟩⟩
def aY (i:Nat)(a:VE X e te)(d:X.N.Nodup:=by assumption)(hi:X.N[i]?=some x:=by rfl)(b:Loc X.env.scope x:=by first|exact Or.inl rfl|exact Or.inr rfl)(c:swapsWith e (some (.Name x pos')) pos.line X.env=pure false:=by rfl)(f:X.fn x=true\/X.env.scope.names.lookup x=some .local:=by first|exact .inl rfl|exact .inr rfl|assumption):VS X (.Assign [.Name x pos'] e pos) (aB5 te (bF i)):=bB5 d hi b a c f
def gF (i:Nat)(a:X.N.Nodup:=by assumption)(hi:X.N[i]?=some x:=by rfl)(c:Loc X.env.scope x:=by first|exact Or.inl rfl|exact Or.inr rfl)(b:X.fn x=true\/X.env.scope.names.lookup x=some .local:=by first|exact .inl rfl|exact .inr rfl|assumption):VG X (.Name x pos) (bF i):=aNm a hi c b
def bB (G:Ok X.prog X.w X.K X.mg X.base k0 x ps sp)(c:VA X (e::es) t)(g:Room k X.A:=by assumption)(f:k0<=k:=by decide)(h:Gl X x:=by rfl)(a:(x == ("__debug__":Str))=false:=by decide)(d:cB e=true:=by rfl)(b:(backTo pos (starEach es X.env)).any (·.1)=false:=by rfl):VE X (.Call (.Name x p) (e::es) [] pos) (uQ sp [] E0 t):=bDl (G.mono f) g h c a d b
def kY (G:OkM X.prog X.w X.K X.mg X.base C k0 m ps sp)(h:VE X o ta)(b:VA X (e::es) t)(g:Room k X.A:=by assumption)(d:k0<=k:=by decide)(c:cB e=true:=by rfl)(a:(backTo pos (starEach es X.env)).any (·.1)=false:=by rfl)
  (i:eval (.Call (.Attribute o m apos) (e::es) [] pos) X.env=(do
   let ov <-eval o X.env
   standAt apos.atName
   let (f,first) <-holding [ov] (getMethod ov m pl)
   callWith pos f first (backTo pos (starEach (e::es) X.env)) (backToKw pos (keywordEach [] X.env))):=by rfl):VE X (.Call (.Attribute o m apos) (e::es) [] pos) (aEh C m sp [] E0 ta t):=aX5 (G.mono d) g h b c a i
def aU (e:IxR X r)(d:VE X a ta)(c:VE X b tb)(f:aFw b:=by exact λ_ _=>rfl):VE X (.Subscript a b pos) (tOp r ta tb):=bEn e d c f
def eG (ho:OpR X (compareOp op) r)(e:VE X a ta)(d:VE X b tb)(c:behindInMarks op b=false:=by exact aTy _):VT X (.Compare a [op] [b] pos) (aHm (tOp r ta tb)):=aFr ho e d c
def tL (ho:OpR X (compareOp op) r)(e:VE X a ta)(d:VE X b tb)(c:behindInMarks op b=false:=by exact aTy _):VE X (.Compare a [op] [b] pos) (tOp r ta tb):=mU ho e d c
def va1 (a:VE X e te)(b:cB e=true:=by rfl):VA X [e] (dN te qO):=aF a zV b
def bH (e:sc.kind=.function:=by rfl)(a:sc.isCoroutine=false:=by rfl)(g:sc.isGenerator=false:=by rfl)(f:N.Nodup:=by trivial)(d:N.take ps.length=ps:=by rfl)(c:∀x∈ps,sc.names.lookup x=some .local\/sc.names.lookup x=some .cell:=by trivial)(b:∀y∈sc.names,y.2≠.free:=by trivial):aJ N ps sc:=⟨e,a,g,f,d,c,b⟩
def jH (i:Nat)(a:N.Nodup:=by trivial)(hi:N[i]?=some x:=by rfl)(c:Loc (cxC X N scope cl s H fp).env.scope x:=by exact Or.inl rfl)(b:(cxC X N scope cl s H fp).fn x=true\/(cxC X N scope cl s H fp).env.scope.names.lookup x=some .local:=by first|exact .inl rfl|exact .inr rfl|assumption):VG (cxC X N scope cl s H fp) (.Name x pos) (bF i):=aNm a hi c b
def ck (b:∀y∈scope.names,y.2≠.cell:=by trivial)(a:scope.kind=.function:=by rfl)(d:∀y∈scope.names,y.2=.local->scope.names.lookup y.1=some .local:=by trivial)(c:∀y∈scope.names,y.2=.free->scope.names.lookup y.1=some .free:=by trivial):tH scope N:=⟨b,a,d,c⟩
end L2
namespace My
open PySem PySem.Spec PyProof.Rows L2
def top (i:Nat):Stmt:=PySem.Challenge.pw_shardask_k65_store_refused.main.body.getD i (.Pass ⟨0,0,0,0⟩)
abbrev aBl:Stmt:=top 19
abbrev kZ:Stmt:=top 20
abbrev aDm:Stmt:=top 21
abbrev xR:Stmt:=top 22
abbrev iM:Stmt:=top 23
abbrev uV:Stmt:=top 24
abbrev aAt:Stmt:=top 25
abbrev aC3:Stmt:=top 26
abbrev zN:Stmt:=top 27
abbrev aDs:Stmt:=top 28
abbrev rC:Stmt:=top 29
abbrev oY:Stmt:=top 30
abbrev aCz:Stmt:=top 31
abbrev aJf:Stmt:=top 32
abbrev aD2:Stmt:=top 36
abbrev zY:Stmt:=top 38
abbrev aHa:Stmt:=top 42
abbrev sO:Stmt:=top 43
abbrev oV:Stmt:=top 44
abbrev vJ:Stmt:=top 45
abbrev tE:Stmt:=top 46
abbrev aB0:Stmt:=top 47
abbrev wZ:Stmt:=top 48
abbrev nY:Stmt:=top 49
abbrev aBc:Stmt:=top 50
abbrev aJ0:Stmt:=top 51
abbrev wU:Stmt:=top 52
abbrev wJ:Stmt:=top 53
abbrev iZ:Stmt:=classAt (top 54) 0
abbrev jW:Stmt:=classAt (top 54) 3
abbrev nH:Stmt:=classAt (top 54) 4
abbrev xM:Stmt:=top 56
abbrev xK:Stmt:=top 57
abbrev uO:Stmt:=top 58
abbrev oR:Stmt:=top 59
abbrev aAs:Stmt:=top 60
abbrev iJ:Stmt:=classAt (top 61) 0
abbrev gM:Stmt:=classAt (top 61) 2
abbrev fW:Stmt:=classAt (top 61) 3
abbrev iY:Stmt:=classAt (top 61) 4
abbrev pO:Stmt:=classAt (top 61) 5
abbrev nQ:Stmt:=classAt (top 61) 6
abbrev lN:Stmt:=classAt (top 61) 7
abbrev nF:Stmt:=classAt (top 61) 8
abbrev dG:Stmt:=classAt (top 61) 9
abbrev lK:Stmt:=classAt (top 61) 10
abbrev jO:Stmt:=classAt (top 61) 11
abbrev jQ:Stmt:=classAt (top 61) 12
abbrev gQ:Stmt:=classAt (top 61) 13
abbrev nM:Stmt:=classAt (top 61) 14
abbrev xQ:Stmt:=top 63
abbrev xV:Stmt:=top 64
abbrev tY:Stmt:=top 65
abbrev mK:Stmt:=top 66
abbrev uU:Stmt:=top 67
abbrev vC:Stmt:=top 68
abbrev xU:Stmt:=top 69
abbrev sG:Stmt:=top 70
abbrev aAu:Stmt:=top 71
abbrev pK:Stmt:=top 72
abbrev oW:Stmt:=top 73
abbrev aBj:Stmt:=top 74
abbrev mV:Stmt:=top 75
abbrev uR:Stmt:=top 76
abbrev aOg:Stmt:=top 77
abbrev dR:Stmt:=classAt (top 2) 0
inductive Exn where
 |tab|row|span|busy|house|move|yet|bad
 deriving DecidableEq
def Exn.nm:Exn->Str
 |.tab=>"NoTable"
 |.row=>"NoRow"
 |.span=>"NoSpan"
 |.busy=>"Busy"
 |.house=>"NoHouse"
 |.move=>"NoMove"
 |.yet=>"NotYet"
 |.bad=>"BadTown"
def Exn.wd:Exn->Str
 |.tab=>"table"
 |.row=>"row"
 |.span=>"span"
 |.busy=>"busy"
 |.house=>"house"
 |.move=>"move"
 |.yet=>"not yet"
 |.bad=>"town"
structure Txt (w:World)(K:bF9)(mg:bGC):Prop where
 tZ:mg "ValueError"=none
 aA0:mg "all"=none
 bDa:mg "any"=none
 bCr:mg "bool"=none
 aVc:mg "dict"=none
 aHi:mg "enumerate"=none
 aU8:mg "int"=none
 aZ:mg "isinstance"=none
 eU:mg "len"=none
 wG:mg "list"=none
 bDj:mg "max"=none
 iK:mg "range"=none
 aY8:mg "set"=none
 aAr:mg "sorted"=none
 aY1:mg "str"=none
 iQ:mg "tuple"=none
 aZj:mg "zip"=none
 iH:∃a,mg "QUESTION_WORDS"=some (.ref a)/\∀H,SqT K H a [.str "and",.str "by",.str "count",.str "down",.str "first",.str "group",.str "join",.str "keep",.str "least",.str "most",.str "named",.str "on",.str "sum",.str "table",.str "up",.str "where",.str "with"]
 aQk:∃u,mg "LETTERS"=some u/\RelV (.str "abcdefghijklmnopqrstuvwxyz") u
 aFe:∃a,mg "KINDS"=some (.ref a)/\∀H,SqT K H a [.str "number",.str "word"]
 zM:∃u,mg "MOST_LETTERS"=some u/\RelV (.int 8) u
 zB:∃u,mg "MOST_COLUMNS"=some u/\RelV (.int 8) u
 aY4:∃u,mg "WORD_BASE"=some u/\RelV (.int 27) u
 aCp:∃u,mg "MOST_HOUSES"=some u/\RelV (.int 6) u
 xJ:∃u,mg "MOST_CUTS"=some u/\RelV (.int 8) u
 xF:∃f o,(∃u,mg "is_column"=some u/\RelV (.ref f) u)/\K.lookup f=some o/\o.cls=.type "function"
 aMb:Dn K mg "is_whole" aBl o6
 tQ:Dn K mg "is_number_below" kZ bQF
 aPm:Dn K mg "is_word" aDm o6
 aIe:Dn K mg "is_one_of" xR bQO
 rG:Dn K mg "is_tuple_of" iM o9
 aGd:Dn K mg "are_unlike" uV ["names"]
 aMi:Dn K mg "names_of" aAt ["head"]
 aPy:Dn K mg "is_name" aC3 o6
 aMg:Dn K mg "is_value" zN o6
 aQf:Dn K mg "kind_of" aDs ["value"]
 aCk:Dn K mg "is_value_of" rC bQL
 aJs:Dn K mg "is_column" oY o6
 aQr:Dn K mg "is_head" aCz o6
 aU3:Dn K mg "is_row" aJf u5
 aQn:Dn K mg "kind_in" aD2 bQE
 aK8:Dn K mg "place_of" zY bQE
 aRo:Dn K mg "is_cut" aHa z8
 aLn:Dn K mg "are_cuts" sO bQP
 aAq:Dn K mg "is_column_in" oV u5
 aGm:Dn K mg "is_placing" vJ bQJ
 aK5:Dn K mg "are_rows" tE bQW
 aLx:Dn K mg "is_table" aB0 z8
 aHy:Dn K mg "need_town" wZ u9
 yG:Dn K mg "placed_tables" nY u9
 aLa:Dn K mg "table_in" aBc u6
 aT2:Dn K mg "cut_of" aJ0 bQX
 aIw:Dn K mg "stands_at" wU bQB
 aQp:Dn K mg "rows_at" wJ bQG
 aJ9:Dn K mg "with_rows" xM bQR
 wV:Dn K mg "with_cuts" xK bQM
 aGz:Dn K mg "may_cut_at" uO ["table","low"]
 aHz:Dn K mg "span_rows" oR bQT
 aK1:Dn K mg "is_above" aAs bQU
 aHg:Dn K mg "_law_seed" xQ bQK
 aIy:Dn K mg "_law_next" xV n8
 aG3:Dn K mg "_law_words" tY []
 aG7:Dn K mg "_law_names" mK n8
 aE6:Dn K mg "_law_great" uU ["_law_state"]
 aE3:Dn K mg "_law_value" vC bQD
 aIz:Dn K mg "_law_head" xU bQH
 aL0:Dn K mg "_law_row" sG o7
 aM4:Dn K mg "_law_did" aAu n7
 aKq:Dn K mg "_law_word" pK n7
 zH:Dn K mg "_law_odd_row" oW o7
 aK9:Dn K mg "_law_bad" aBj o5
 aFx:Dn K mg "_law_about" mV bQI
 aGv:Dn K mg "_law_asked" uR o4
 bEc:Dn K mg "law" aOg bQK
 bAc:∃C,aUb K mg "Town" C/\eV K C "__init__" "Town.__init__" iZ ["self","houses","tables"]/\eV K C "placing" "Town.placing" jW ["self","name"]/\eV K C "whole" "Town.whole" nH ["self","name"]/\bN K C "placed"/\bN K C "house_count"
 aV1:∃C,aUb K mg "Store" C/\eV K C "__init__" "Store.__init__" iJ ["self","houses","tables"]/\eV K C "cut_table" "Store.cut_table" gM ["self","name"]/\eV K C "need_still" "Store.need_still" fW ["self","name"]/\eV K C "move_of" "Store.move_of" iY ["self","name"]/\eV K C "put" "Store.put" pO ["self","name","row"]/\eV K C "drop" "Store.drop" nQ ["self","name","row"]/\eV K C "split" "Store.split" lN ["self","name","low"]/\eV K C "lend" "Store.lend" nF ["self","name","number","house"]/\eV K C "rows_to_come" "Store.rows_to_come" dG ["self","name"]/\eV K C "carry" "Store.carry" lK ["self","name","many"]/\eV K C "settle" "Store.settle" jO ["self","name"]/\eV K C "moving" "Store.moving" jQ ["self","name"]/\eV K C "stands" "Store.stands" gQ ["self","name","house"]/\eV K C "town" "Store.town" nM ["self"]/\bN K C "placed"/\bN K C "house_count"/\bN K C "moves"
 bEu:∃(S:Addr) (ad:Exn->Addr),mg "ShardError"=some (.ref S)/\XS K S/\(∀c,ExT K mg dR c.nm "ShardError.__init__" (ad c) S)/\(∀c d,PySem.W.mroIn K (ad c) (.ref (ad d))=some (decide (c=d)))/\∀c,PySem.W.mroIn K (ad c) (.type "ValueError")=some true
abbrev abc:Str:="abcdefghijklmnopqrstuvwxyz"
abbrev words:List V:=[.str "and",.str "by",.str "count",.str "down",.str "first",.str "group",.str "join",.str "keep",.str "least",.str "most",.str "named",.str "on",.str "sum",.str "table",.str "up",.str "where",.str "with"]
def Th (K:bF9)(H:Hp)(v:V):Prop:=(∃x,v=.str x/\x.length<=1000)\/(∃i,v=.int i)\/(∃b,v=.bl b)\/∃k,Rk K H v k
def Th.same {K:bF9}{H H':Hp}{v:V}(e:Same H H')(h:Th K H v):Th K H' v:=by
 rcases h with h|h|h|⟨k,h⟩
 ·exact .inl h
 ·exact .inr (.inl h)
 ·exact .inr (.inr (.inl h))
 ·exact .inr (.inr (.inr ⟨k,h.same e⟩))
def aWh:V->String->Bool
 |.int _,T=>T == "int"
 |.str _,T=>T == "str"
 |.bl _,T=>T == "int" || T == "bool"
 |_,_=>false
def isS:V->Bool
 |.str _=>true
 |_=>false
def whole:V->Bool
 |.int _=>true
 |_=>false
def uN {K:bF9}{H:Hp}{v:V}{T:String}{Q:VK}(c:Th K H v)(a:T = "int"\/T = "bool"\/T = "str")(q:Q (.bl (aWh v T)) H):bD9 [v,.ty T] H Q\/aZa K [v,.ty T] H Q:=by
 rcases c with⟨x,rfl,_⟩|⟨i,rfl⟩|⟨b,rfl⟩|⟨k,h⟩
 ·refine .inl ⟨_,_,_,rfl,?_,q⟩;rcases a with rfl|rfl|rfl <;> simp[aLo,aWh]
 ·refine .inl ⟨_,_,_,rfl,?_,q⟩;rcases a with rfl|rfl|rfl <;> simp[aLo,aWh]
 ·refine .inl ⟨_,_,_,rfl,?_,q⟩;rcases a with rfl|rfl|rfl <;> simp[aLo,aWh]
 ·refine .inr ⟨_,_,_,rfl,h,a,?_⟩;cases h <;> exact q
def inA (y:Str):Bool:=!(Builtin.Str.occurrences abc y 0 abc.length 1).isEmpty
def allIn (x:Str):Bool:=((List.range x.cps.size).map λi=>inA (sgn x i)).all id
def qP (l:Nat):V->Bool
 |.str x=>decide (l<=x.length) && (decide (x.length<=8) && allIn x)
 |_=>false
def nameB (v:V):Bool:=qP 1 v && !inV v words
def yD (v:V):Bool:=whole v || qP 0 v
def pC (K:bF9):Sp:=λvs H Q _=>∃v,vs=[v]/\Th K H v/\Q (.bl (whole v)) H
def aCj (K:bF9)(f:V->Bool):Sp:=λvs H Q _=>∃v,vs=[v]/\Th K H v/\∀H',Same H H'->Q (.bl (f v)) H'
def aN1 (K:bF9):Sp:=λvs H Q _=>∃v,vs=[v]/\Th K H v/\Q (.str (if whole v then "number" else "word")) H
inductive aZ8 (K:bF9)(vs:List V)(H:Hp)(Q:VK)(E_:XK):Prop
 |mk (a:Addr) (ns:List Int) (_:vs=[.ref a]) (_:SqL K H a (ns.map V.int)) (_:ns.length<=63) (_:∀H',Q (.bl true) H')
def bCu {K:bF9}{H:Hp}{a:Addr}{b:List Int}(h:b.length<=63)(c:SqL K H a (b.map V.int)):aZ8 K [.ref a] H (λv _=>v=.bl true) λ_ _ _=>False:=
 ⟨a,b,rfl,c,h,λ_=>rfl⟩
def aKn:aJ o6 o6 (aC aBl):=bH
def sU:aJ bQF bQF (aC kZ):=bH
def aKy:aJ o6 o6 (aC aDm):=bH
def aEw:aJ bQO bQO (aC xR):=bH
def pY:aJ o9 o9 (aC iM):=bH
def aCx:aJ ["names"] ["names"] (aC uV):=bH
def aJq:aJ ["head"] ["head"] (aC aAt):=bH
def aLy:aJ o6 o6 (aC aC3):=bH
def aH5:aJ o6 o6 (aC zN):=bH
def aK7:aJ ["value"] ["value"] (aC aDs):=bH
def aBv:aJ bQL bQL (aC rC):=bH
def aE1:aJ o6 o6 (aC oY):=bH
def aMt:aJ o6 o6 (aC aCz):=bH
def aQd:aJ u5 u5 (aC aJf):=bH
def aAe:aJ ["head","name","column"] bQE (aC aD2):=bH
def aJn:aJ bQE bQE (aC zY):=bH
def aQj:aJ z8 z8 (aC aHa):=bH
def xO:aJ ["thing","kind","houses","lows"] bQP (aC sO):=bH
def yE:aJ u5 u5 (aC oV):=bH
def aB8:aJ bQJ bQJ (aC vJ):=bH
def aIb:aJ bQW bQW (aC tE):=bH
def aJj:aJ z8 z8 (aC aB0):=bH
def uJ:aJ ["houses","tables","name","table"] u9 (aC wZ):=bH
def wM:aJ u9 u9 (aC nY):=bH
def aIm:aJ u6 u6 (aC aBc):=bH
def aEo:aJ ["cuts","value","number","place"] bQX (aC aJ0):=bH
def aFb:aJ ["head","placing","row","house","houses","value","cuts"] bQB (aC wU):=bH
def aM7:aJ bQG bQG (aC wJ):=bH
def wL:aJ o8 o8 (aC iZ):=bH
def yL:aJ n6 n6 (aC jW):=bH
def aCf:aJ n6 n6 (aC nH):=bH
def aGf:aJ bQR bQR (aC xM):=bH
def uD:aJ bQM bQM (aC xK):=bH
def rJ:aJ ["table","low","column","cuts"] ["table","low"] (aC uO):=bH
def tU:aJ ["table","number","place"] bQT (aC oR):=bH
def aIi:aJ bQU bQU (aC aAs):=bH
def uP:aJ o8 o8 (aC iJ):=bH
def jX:aJ ["self","name","table"] n6 (aC gM):=bH
def qM:aJ n6 n6 (aC fW):=bH
def wF:aJ n6 n6 (aC iY):=bH
def vI:aJ ["self","name","row","table"] bQA (aC pO):=bH
def qZ:aJ ["self","name","row","table","rows"] bQA (aC nQ):=bH
def oZ:aJ ["self","name","low","table","cuts","number","behind"] bQV (aC lN):=bH
def rK:aJ ["self","name","number","house","cuts"] bQC (aC nF):=bH
def iB:aJ ["self","name","move"] n6 (aC dG):=bH
def pJ:aJ ["self","name","many","move","waiting","unlike"] bQN (aC lK):=bH
def nU:aJ ["self","name","table","move","number","cuts"] n6 (aC jO):=bH
def yC:aJ n6 n6 (aC jQ):=bH
def oF:aJ ["self","name","house","table","rows","move"] bQS (aC gQ):=bH
def aB4:aJ ["self"] ["self"] (aC nM):=bH
def uM:aJ ["_law_script","_law_seed_here","_law_k","_law_cell"] bQK (aC xQ):=bH
def aGc:aJ n8 n8 (aC xV):=bH
def rH:aJ ["_law_words_here"] [] (aC tY):=bH
def rE:aJ ["_law_state","_law_many","_law_small","_law_odd","_law_base","_law_k","_law_at","_law_names_here"] n8 (aC mK):=bH
def rF:aJ ["_law_state","_law_number","_law_k"] ["_law_state"] (aC uU):=bH
def rN:aJ ["_law_state","_law_kind","_law_way","_law_word_here","_law_k"] bQD (aC vC):=bH
def uL:aJ ["_law_state","_law_names_here","_law_start","_law_head_here","_law_k","_law_kind"] bQH (aC xU):=bH
def aJp:aJ o7 o7 (aC sG):=bH
def aIo:aJ n7 n7 (aC aAu):=bH
def nG:aJ ["_law_store","_law_way","_law_name","_law_one","_law_other","_law_kinds","e","_law_words_here"] n7 (aC pK):=bH
def oG:aJ ["_law_state","_law_head_here","_law_row_here","_law_other","_law_some"] o7 (aC oW):=bH
def wX:aJ ["_law_state","_law_names_here","_law_tables","_law_houses","_law_cuts","_law_busy","_law_lot","_law_name","_law_head_here","_law_odd","_law_gone","_law_which","_law_number"] o5 (aC aBj):=bH
def rA:aJ ["_law_store","_law_names_here","_law_town"] bQI (aC mV):=bH
def qY:aJ ["_law_state","_law_store","_law_names_here","_law_tables","_law_houses","_law_cuts","_law_busy","_law_way","_law_name","_law_one","_law_other","_law_due","_law_before"] o4 (aC uR):=bH
def aTe:aJ ["_law_script","_law_state","_law_names_here","_law_houses","_law_tables","_law_k","_law_head_here","_law_column","_law_kind","_law_cuts","_law_placing","_law_store","_law_busy","_law_above"] bQK (aC aOg):=bH
def gU:aJ bQQ bQQ (aC dR):=bH
section
variable {P:Program}{w:World}{K:bF9}{mg:bGC}{base:Heap}
def aJz (T:Txt w K mg):Ok P w K mg base 1 "is_whole" o6 (pC K):=by
 refine Ok.ofV T.aMb aKn (by trivial) (λf d A c s H e Q E g h=>?_)
 obtain⟨v,rfl,a,q⟩:=h;refine⟨_,(aD (aK (gH (aL (tW.or qH) (by rfl) T.aZ aV (aF (vv 0) (va1 (eY (v:=.ty "int") (by rfl) T.aU8 aLi rfl)))) (fX (aR5 (aL (tW.or qH) (by rfl) T.aZ aV (aF (vv 0) (va1 (eY (v:=.ty "bool") (by rfl) T.bCr aV3 rfl))))))))),?_⟩;refine⟨_,rfl,uN a (.inl rfl) ⟨_,rfl,?_⟩⟩;rcases id a with⟨x,rfl,_⟩|⟨i,rfl⟩|⟨b,rfl⟩|⟨k,h⟩
 ·exact bZ q
 ·exact cP ⟨_,rfl,uN a (.inr (.inl rfl)) ⟨_,rfl,q⟩⟩
 ·exact cP ⟨_,rfl,uN a (.inr (.inl rfl)) ⟨_,rfl,q⟩⟩
 ·cases h <;> exact bZ q
def aS6 (x:Str):(((List.range x.cps.size).map λi=>V.str (sgn x i)).map λv=>match v with|.str y=>V.bl (inA y)|_=>.bl false)=(((List.range x.cps.size).map λi=>inA (sgn x i)).map V.bl):=by rw[bDQ,bDQ];rfl
def aLe (T:Txt w K mg):Ok P w K mg base 1 "is_word" o6 (aCj K (qP 0)):=by
 refine Ok.ofV T.aPm aKy (by trivial) (λf B A d s H J Q E G h=>?_)
 obtain⟨v,rfl,m,q⟩:=h;refine⟨_,(aB (bM (VW.pt (gB (cC (bR (aL (tW.or qH) (by rfl) T.aZ aV (aF (vv 0) (va1 (eY (v:=.ty "str") (by rfl) T.aY1 aR0 rfl)))))) (fG (eG bDt (aL vH (by rfl) T.eU cN (va1 (vv 0))) (iU (by rfl) T.zM))))) (aD (aK fB)) aQ) (aD (aK (aL (jP rfl) (by rfl) T.aA0 tK (va1 (cU (N:=["sign"]) ck jN rfl (bAv (vv 0)) (λC I t M=>⟨(jH 0),fY,(mU aQb (vv 0) (iU (by rfl) T.aQk) (by with_unfolding_all rfl))⟩))))))),?_⟩;refine⟨_,rfl,uN m (.inr (.inr rfl)) ⟨_,rfl,?_⟩⟩;have a:isS v=false->Q (.bl false) H:=λe=>by
  have z:qP 0 v=false:=by cases v <;> first|rfl|cases e
  rw[<-z];exact q H (Same.refl H)
 rcases id m with⟨x,rfl,j⟩|⟨i,rfl⟩|⟨b,rfl⟩|⟨k,h⟩
 ·refine bZ ⟨_,rfl,_,rfl,small j,_,_,rfl,rfl,_,rfl,?_⟩;refine aLp (λc=>?_) (λc=>?_)
  ·have u:(8:Int)<x.length:=of_decide_eq_true c;have z:qP 0 (.str x)=false:=by show (decide (0<=x.length) && (decide (x.length<=8) && allIn x))=false;rw[v5 (p:=x.length<=8) (by lia)];simp
   rw[<-z];exact q H (Same.refl H)
  ·have u:¬ (8:Int)<x.length:=of_decide_eq_false (Bool.eq_false_iff.mpr c);dsimp only[pF,sH,tCB,dN];refine aRi ((List.range x.cps.size).map λi=>V.str (sgn x i)) (λv=>match v with|.str y=>V.bl (inA y)|_=>.bl false) [none] pZ ?_
    (λR r=>bA5 (z:=x) (λL o=>⟨_,rfl,o⟩) R r) (λv g t R l F r=>?_) rfl λD n=>?_
   ·rw[j7,bAM];exact small j
   ·obtain⟨i,_,rfl⟩:=List.mem_map.mp g;exact⟨_,rfl,_,_,rfl,rfl,r⟩
   ·refine⟨D,(List.range x.cps.size).map λi=>inA (sgn x i),rfl,SqL.of (by rw[aG,aS6]),?_⟩;have z:qP 0 (.str x)=allIn x:=by show (decide (0<=x.length) && (decide (x.length<=8) && allIn x))=allIn x;rw[v4 (p:=x.length<=8) (by lia)];simp
    show Q (.bl (allIn x)) _;rw[<-z];exact q _ (aO n _)
 ·exact cP (a rfl)
 ·exact cP (a rfl)
 ·cases h <;> exact cP (a rfl)
def aFq (h:qP l v=true):∃x,v=.str x/\l<=x.length/\x.length<=8/\allIn x=true:=by
 cases v with
 |str x=>have h:(decide (l<=x.length) && (decide (x.length<=8) && allIn x))=true:=h;rw[bAT,bAT] at h;exact⟨x,rfl,of_decide_eq_true h.1,of_decide_eq_true h.2.1,h.2.2⟩
 |_=>cases h
def aEf:x=("":Str)↔x.length=0:=by
 constructor
 ·rintro rfl;decide +kernel
 ·intro h;obtain⟨a⟩:=x;have h:a.size=0:=h;rw[Array.size_eq_zero_iff] at h;subst h;decide +kernel
def zR:words.all iW=true:=rfl
def aMo (T:Txt w K mg)(C:Ok P w K mg base 1 "is_word" o6 (aCj K (qP 0))):Ok P w K mg base 2 "is_name" o6 (aCj K nameB):=by
 refine Ok.ofV T.aPy aLy (by trivial) (λf o A k s H G Q E D h=>?_)
 obtain⟨v,rfl,r,q⟩:=h;obtain⟨l,t,b⟩:=T.iH;have m:∃u,mg "QUESTION_WORDS"=some u/\RelV (.ref l) u:=⟨_,t,rfl⟩;refine⟨_,(aD (aK (gH (bB C (va1 (vv 0))) (gH (tL aAa (vv 0) aP) (fX (mU tV (vv 0) (iU (by rfl) m) (by with_unfolding_all rfl))))))),?_⟩;refine⟨_,rfl,_,rfl,r,λa j=>⟨_,rfl,?_⟩⟩;refine aLp (λc=>?_) (λc=>?_)
 ·obtain⟨x,rfl,_,i,d⟩:=aFq c;refine⟨_,rfl,rfl,_,rfl,?_⟩;by_cases e:x.length=0
  ·have y:=aEf.mpr e;subst y;refine bZ ?_;have z:nameB (.str "")=false:=by trivial
   rw[<-z];exact q a j
  ·have B:¬ (V.str x=V.str ""):=λz=>e (aEf.mp (V.str.inj z));have n:(!decide (V.str x=V.str ""))=true:=by rw[v5 B];rfl
   rw[n];refine cP ⟨_,rfl,l,words,rfl,.inr (b _),rfl,zR,?_⟩;have z:nameB (.str x)=!inV (.str x) words:=by show ((decide (1<=x.length) && (decide (x.length<=8) && allIn x)) && !inV (.str x) words)=!inV (.str x) words;rw[v4 (p:=1<=x.length) (by lia),v4 i,d];rfl
   show Q (.bl (!inV (.str x) words)) a;rw[<-z];exact q a j
 ·have z:nameB v=false:=by
   show (qP 1 v && !inV v words)=false;cases g:qP 1 v with
   |false=>rfl
   |true=>obtain⟨x,rfl,F,i,d⟩:=aFq g;refine absurd ?_ c;show (decide (0<=x.length) && (decide (x.length<=8) && allIn x))=true;rw[v4 i,d,v4 (bAF _)];rfl
  rw[<-z];exact q a j
def aI8 (T:Txt w K mg)(j:Ok P w K mg base 1 "is_whole" o6 (pC K))(k:Ok P w K mg base 1 "is_word" o6 (aCj K (qP 0))) :
  Ok P w K mg base 2 "is_value" o6 (aCj K yD):=by
 refine Ok.ofV T.aMg aH5 (by trivial) (λf d A a s H i Q E l h=>?_)
 obtain⟨v,rfl,b,q⟩:=h;refine⟨_,(aD (aK (aUt (bB j (va1 (vv 0))) (fX (bB k (va1 (vv 0))))))),?_⟩;refine⟨_,rfl,_,rfl,b,_,rfl,?_⟩;cases c:whole v with
 |true=>
  refine cP ?_;have z:yD v=true:=by show (whole v || qP 0 v)=true;rw[c];rfl
  rw[<-z];exact q H (Same.refl H)
 |false=>
  refine bZ ⟨_,rfl,_,rfl,b,λg e=>?_⟩;have z:yD v=qP 0 v:=by show (whole v || qP 0 v)=qP 0 v;rw[c];rfl
  rw[<-z];exact q g e
def aKx (T:Txt w K mg)(g:Ok P w K mg base 1 "is_whole" o6 (pC K)):Ok P w K mg base 2 "kind_of" ["value"] (aN1 K):=by
 refine Ok.ofV T.aQf aK7 (by trivial) (λf c A a s H e Q E i h=>?_)
 obtain⟨v,rfl,d,q⟩:=h;refine⟨_,(aD (aK (aTu (bR (bB g (va1 (vv 0)))) aP aP))),?_⟩;refine⟨_,rfl,_,rfl,d,_,rfl,?_⟩;cases b:whole v with
 |true=>rw[b] at q;exact cP q
 |false=>rw[b] at q;exact bZ q
def at0 (x:V)(r:List V):atI (x::r) 0=some x:=by unfold atI ixN;simp
def at1 (x y:V)(r:List V):atI (x::y::r) 1=some y:=by unfold atI ixN;simp only[t6];rw[if_pos (by lia),if_pos (by lia)];rfl
def Tk.same (e:Same H H')(h:Tk K H v b):Tk K H' v b:=by
 cases h with
 |int=>exact .int
 |str=>exact .str
 |bl=>exact .bl
 |non=>exact .non
 |lst q=>exact .lst (e.seq q)
 |dct q=>exact .dct (e _ _ q)
 |tup q=>exact .tup (e.bC q)
structure Tells (R:Hp->V->Bool->Prop):Prop where
 same:∀{H H' v b},Same H H'->R H v b->R H' v b
def bCb (R:Hp->V->Bool->Prop):Sp:=λvs H Q _=>∃v b,vs=[v]/\R H v b/\∀H',Same H H'->Q (.bl b) H'
inductive aEk (K:bF9)(R:Hp->V->Bool->Prop)(lo hi:Nat)(H:Hp):V->Bool->Prop
 |no {v}:Tk K H v false->aEk K R lo hi H v false
 |len {a xs}:SqT K H a xs->¬ (lo<=xs.length/\xs.length<=hi)->aEk K R lo hi H (.ref a) false
 |yes {a xs} (f:V->Bool):SqT K H a xs->lo<=xs.length->xs.length<=hi->(∀x∈xs,R H x (f x))->aEk K R lo hi H (.ref a) (xs.all f)
def aLw (K:bF9):Sp:=λvs H Q _=>∃v a xs,vs=[v,.ref a]/\Th K H v/\SqT K H a xs/\xs.all iW=true/\Q (.bl (isS v && inV v xs)) H
def aJk (P:Program)(w:World)(K:bF9)(mg:bGC)(base:Heap)(k:Nat):Sp:=λvs H Q _=>∃v lo hi f ps R b,vs=[v,.int (lo:Nat),.int (hi:Nat),.ref f]/\hi<=1000/\Held P w K mg base k f ps (bCb R)/\Tells R/\aEk K R lo hi H v b/\∀H',Same H H'->Q (.bl b) H'
inductive aDi (K:bF9)(vs:List V)(H:Hp)(Q:VK)(E_:XK):Prop
 |mk (a:Addr) (ss:List Str) (_:vs=[.ref a]) (_:SqL K H a (ss.map V.str)) (_:ss.length<=1000) (_:∀H',Same H H'->Q (.bl (decide ss.Nodup)) H')
def aE7 (T:Txt w K mg):Ok P w K mg base 1 "is_one_of" bQO (aLw K):=by
 refine Ok.ofV T.aIe aEw (by trivial) (λf e A c s H m Q E n h=>?_)
 obtain⟨v,a,g,rfl,d,j,l,q⟩:=h;refine⟨_,(aD (aK (gH (aL (tW.or qH) (by rfl) T.aZ aV (aF (vv 0) (va1 (eY (v:=.ty "str") (by rfl) T.aY1 aR0 rfl)))) (fX (mU wD (vv 0) (vv 1) (by with_unfolding_all rfl)))))),?_⟩;refine⟨_,rfl,uN d (.inr (.inr rfl)) ⟨_,rfl,?_⟩⟩;rcases id d with⟨x,rfl,_⟩|⟨i,rfl⟩|⟨b,rfl⟩|⟨k,h⟩
 ·exact cP ⟨_,rfl,_,rfl,a,g,rfl,.inr j,rfl,l,q⟩
 ·exact bZ q
 ·exact bZ q
 ·cases h <;> exact bZ q
def aBd (T:Txt w K mg):Ok P w K mg base (k+1) "is_tuple_of" o9 (aJk P w K mg base k):=by
 refine Ok.ofV T.rG pY (by trivial) (λf I A n s H V Q E G h=>?_)
 obtain⟨v,p,o,g,M,R,b,rfl,j,C,B,J,q⟩:=h;refine⟨_,(aB (bM (VW.pt (gB (cC (bR (aL iD (by rfl) T.aZ aV (aF (vv 0) (va1 (eY (v:=.ty "tuple") (by rfl) T.iQ fU rfl)))))) (fG (cC (zO aAd aAd (vv 1) (aL bA (by rfl) T.eU cN (va1 (vv 0))) (vv 2)))))) (aD (aK fB)) aQ) (aD (aK (aL (jP rfl) (by rfl) T.aA0 tK (va1 (cU (N:=["part","is_part"]) ck (iG (aC iM)) rfl (rQ (vv 0)) (λO U i X=>⟨(jH 0),fY,(aR9 (P:=P) (w:=w) (K:=K) (mg:=mg) (base:=base) G (vv 1) (va1 (vv 0)))⟩))))))),?_⟩;cases J with
 |no h=>exact⟨_,rfl,_,_,rfl,h,_,rfl,cP (q H (Same.refl H))⟩
 |@len a xs ha hn=>refine⟨_,rfl,_,_,rfl,.tup ha,_,rfl,bZ ?_⟩;refine⟨_,rfl,_,rfl,_,_,rfl,.inr ha,_,_,rfl,rfl,_,rfl,?_⟩;refine aLp (λc=>⟨_,rfl,_,_,rfl,rfl,_,rfl,?_⟩) (λc=>⟨_,rfl,cP (q H (Same.refl H))⟩);have S:(p:Int)<=xs.length:=of_decide_eq_true c;have e:decide ((xs.length:Int)<=(o:Int))=false:=v5 λz=>hn ⟨by lia,by lia⟩;rw[e];exact cP (q H (Same.refl H))
 |@yes a xs t ha h1 h2 hx=>
  refine⟨_,rfl,_,_,rfl,.tup ha,_,rfl,bZ ?_⟩;refine⟨_,rfl,_,rfl,_,_,rfl,.inr ha,_,_,rfl,rfl,_,rfl,?_⟩;have L:decide ((p:Int)<=(xs.length:Int))=true:=v4 (by lia);have F:decide ((xs.length:Int)<=(o:Int))=true:=v4 (by lia);rw[L];refine cP ⟨_,rfl,_,_,rfl,rfl,_,rfl,?_⟩;rw[F];refine bZ ?_;dsimp only[pF,sH,tCB,dN];refine aD3 xs (λx=>.bl (t x)) [none,some (.ref g)] ?_ (small (by lia)) (λR r=>aL3 ha (λW y=>⟨_,rfl,y⟩) R r) (λx m i R l d r=>?_) rfl λD i d u=>?_
  ·exact mR 3 (by trivial) rfl rfl (by trivial)
  ·exact⟨_,rfl,g,M,_,rfl,C,_,rfl,x,t x,rfl,B.same d (hx x m),r⟩
  ·refine⟨D,xs.map t,rfl,SqL.of (by rw[u,bDQ];rfl),?_⟩;rw[List.all_map];exact q i d
def aCv (T:Txt w K mg):Ok P w K mg base 1 "are_unlike" ["names"] (aDi K):=by
 refine Ok.ofV T.aGd aCx (by trivial) (λf k A c s H m Q E n h=>?_)
 obtain⟨a,b,rfl,j,l,q⟩:=h;refine⟨_,(aD (aK (tL cW (aL aLg (by rfl) T.eU cN (va1 (cX (aLm rfl) (by rfl) T.aY8 aU0 (va1 (vv 0))))) (aL bA (by rfl) T.eU cN (va1 (vv 0)))))),?_⟩;refine⟨_,rfl,a,b,rfl,j,l,λD i d g=>⟨D,i,rfl,aG,_,rfl,a,_,rfl,.inl ((aO d _).seq j),rfl,?_⟩⟩;have e:decide (V.int (i.length:Nat)=V.int (b.map V.str).length)=decide b.Nodup:=by rw[j7];exact decide_eq_decide.mpr ⟨λz=>(aKe g).mp (by have:=V.int.inj z;lia),λz=>by rw[(aKe g).mpr z]⟩
 rw[e];exact q _ (aO d _)
abbrev kinds:List V:=[.str "number",.str "word"]
inductive aE4 (K:bF9)(H:Hp):V->Bool->Prop
 |no {v}:Tk K H v false->aE4 K H v false
 |len {a xs}:SqT K H a xs->xs.length≠2->aE4 K H (.ref a) false
 |two {a x y}:SqT K H a [x,y]->Th K H x->Th K H y->aE4 K H (.ref a) (nameB x && (isS y && inV y kinds))
def aQ0 (K:bF9):Tells (aE4 K):=⟨λe h=>by
 cases h with
 |no q=>exact .no (Tk.same e q)
 |len q n=>exact .len (e.bC q) n
 |two q x y=>exact .two (e.bC q) (x.same e) (y.same e)⟩
def aFu (T:Txt w K mg)(z:Ok P w K mg base 2 "is_name" o6 (aCj K nameB))(r:Ok P w K mg base 1 "is_one_of" bQO (aLw K)):Ok P w K mg base 3 "is_column" o6 (bCb (aE4 K)):=by
 refine Ok.ofV T.aJs aE1 (by trivial) (λf m A i s H p Q E t h=>?_)
 obtain⟨v,b,rfl,n,q⟩:=h;obtain⟨k,o,j⟩:=T.aFe;have g:∃u,mg "KINDS"=some u/\RelV (.ref k) u:=⟨_,o,rfl⟩;refine⟨_,(aB (bM (VW.pt (gB (cC (bR (aL iD (by rfl) T.aZ aV (aF (vv 0) (va1 (eY (v:=.ty "tuple") (by rfl) T.iQ fU rfl)))))) (fG (eG aAa (aL bA (by rfl) T.eU cN (va1 (vv 0))) aA)))) (aD (aK fB)) aQ) (aD (aK (gH (bB z (va1 (aU aR (vv 0) aA))) (fX (bB r (aF (aU aR (vv 0) aA) (va1 (iU (by rfl) g))))))))),?_⟩;cases n with
 |no h=>exact⟨_,rfl,_,_,rfl,h,_,rfl,cP (q H (Same.refl H))⟩
 |@len a xs ha d=>
  refine⟨_,rfl,_,_,rfl,.tup ha,_,rfl,bZ ?_⟩;refine⟨_,rfl,_,_,rfl,.inr ha,rfl,_,rfl,?_⟩;have e:(!decide (V.int (xs.length:Nat)=V.int 2))=true:=by rw[v5 (by intro y;apply d;have:=V.int.inj y;lia)];rfl
  rw[e];exact cP (q H (Same.refl H))
 |@two a x y ha hx hy=>
  refine⟨_,rfl,_,_,rfl,.tup ha,_,rfl,bZ ?_⟩;refine⟨_,rfl,_,_,rfl,.inr ha,rfl,_,rfl,bZ ?_⟩;refine⟨_,rfl,a,_,0,_,rfl,rfl,ha,at0 _ _,x,rfl,hx,λl c=>⟨_,rfl,?_⟩⟩;cases d:nameB x with
  |false=>rw[d] at q;exact bZ (q l c)
  |true=>rw[d] at q;refine cP ⟨_,rfl,a,_,1,_,rfl,rfl,c.bC ha,at1 _ _ _,y,k,kinds,rfl,hy.same c,j _,rfl,q l c⟩
def kindS (v:V):Str:=if whole v then "number" else "word"
def aFn (K:bF9):Sp:=λvs H Q _=>∃v k,vs=[v,.str k]/\Th K H v/\∀H',Same H H'->Q (.bl (yD v && decide (kindS v=k))) H'
def aBk (T:Txt w K mg)(j:Ok P w K mg base 2 "is_value" o6 (aCj K yD))(i:Ok P w K mg base 2 "kind_of" ["value"] (aN1 K)):Ok P w K mg base 3 "is_value_of" bQL (aFn K):=by
 refine Ok.ofV T.aCk aBv (by trivial) (λf g A c s H l Q E m h=>?_)
 obtain⟨v,k,rfl,d,q⟩:=h;refine⟨_,(aD (aK (gH (bB j (va1 (vv 0))) (fX (tL cW (bB i (va1 (vv 0))) (vv 1)))))),?_⟩;refine⟨_,rfl,v,rfl,d,λe b=>⟨_,rfl,?_⟩⟩;cases a:yD v with
 |false=>rw[a] at q;exact bZ (q e b)
 |true=>rw[a] at q;refine cP ⟨_,rfl,v,rfl,d.same b,_,rfl,rfl,?_⟩;have z:decide (V.str (if whole v then "number" else "word")=V.str k)=decide (kindS v=k):=decide_eq_decide.mpr ⟨λy=>V.str.inj y,λy=>congrArg V.str y⟩;rw[z];exact q e b
def at2 (x y z:V)(r:List V):atI (x::y::z::r) 2=some z:=by unfold atI ixN;simp only[t6];rw[if_pos (by lia),if_pos (by lia)];rfl
def aL2 (h:x.length<=8):Th K H (.str x):=.inl ⟨x,rfl,by lia⟩
def Nm (x:Str):Prop:=nameB (.str x)=true
def aKr (h:nameB (.str x)=true):x.length<=8:=by have h:(qP 1 (.str x) && !inV (.str x) words)=true:=h;rw[bAT] at h;obtain⟨y,e,_,a,_⟩:=aFq h.1;cases e;exact a
def Nm.th (h:Nm x):Th K H (.str x):=aL2 (aKr h)
inductive dO {α β:Type}(R:α->β->Prop):List α->List β->Prop
 |nil:dO R [] []
 |cons {a b as bs}:R a b->dO R as bs->dO R (a::as) (b::bs)
def dO.len {α β:Type}{R:α->β->Prop}{as:List α}{bs:List β}(h:dO R as bs):as.length=bs.length:=by
 induction h with
 |nil=>rfl
 |cons _ _ ih=>rw[t6,t6,ih]
def dO.imp {α β:Type}{R S:α->β->Prop}{as:List α}{bs:List β}(h:dO R as bs)(k:∀a b,R a b->S a b):dO S as bs:=by
 induction h with
 |nil=>exact .nil
 |cons r _ ih=>exact .cons (k _ _ r) ih
def dO.mem {α β:Type}{R:α->β->Prop}{as:List α}{bs:List β}(h:dO R as bs){a:α}(m:a∈as):∃b,b∈bs/\R a b:=by
 induction h with
 |nil=>cases m
 |cons r _ ih=>
  rcases List.mem_cons.mp m with rfl|m
  ·exact⟨_,j4 ..,r⟩
  ·obtain⟨b,c,q⟩:=ih m;exact⟨b,j5 _ c,q⟩
def dO.app {α β:Type}{R:α->β->Prop}{as cs:List α}{bs ds:List β}(h:dO R as bs)(k:dO R cs ds):dO R (as++cs) (bs++ds):=by
 induction h with
 |nil=>exact k
 |cons r _ ih=>exact .cons r ih
def kE {α:Type}(K:bF9)(H:Hp)(R:V->α->Prop)(v:V)(xs:List α):Prop:=∃a vs,v=.ref a/\SqT K H a vs/\dO R vs xs
def kE.same {α:Type}{K:bF9}{H H':Hp}{R S:V->α->Prop}{v:V}{xs:List α}(e:Same H H')(k:∀a b,R a b->S a b)(h:kE K H R v xs):kE K H' S v xs:=by obtain⟨a,f,rfl,c,d⟩:=h;exact⟨a,f,rfl,e.bC c,d.imp k⟩
abbrev Hdr:=List (Str × Str)
def IsC (K:bF9)(H:Hp)(v:V)(c:Str × Str):Prop:=∃p,v=.ref p/\SqT K H p [.str c.1,.str c.2]
def IsC.same (e:Same H H')(h:IsC K H v c):IsC K H' v c:=by obtain⟨p,rfl,a⟩:=h;exact⟨p,rfl,e.bC a⟩
def jK (K:bF9)(H:Hp)(v:V)(hd:Hdr):Prop:=kE K H (IsC K H) v hd
def jK.same (e:Same H H')(h:jK K H v hd):jK K H' v hd:=kE.same e (λ_ _ q=>q.same e) h
def look (hd:Hdr)(n:Str):Option Str:=(hd.find? λc=>decide (c.1=n)).map (·.2)
theorem aGw {n k:Str}:∀{hd:Hdr},look hd n=some k->∃i,hd[i]?=some (n,k)/\∀(j:Nat) (c:Str × Str),j<i->hd[j]?=some c->c.1≠n
 |[],h=>by cases h
 |(m,j)::r,h=>by
  unfold look at h;rw[bCB] at h;by_cases e:m=n
  ·rw[v4 e] at h;have f:=bAH h;subst e f;exact⟨0,rfl,λj c b=>absurd b (bFR _)⟩
  ·rw[v5 e] at h;obtain⟨i,l,g⟩:=aGw h;refine⟨i+1,by simpa using l,λa c b d=>?_⟩;cases a with
   |zero=>cases d;exact e
   |succ a=>exact g a c (by lia) (by simpa using d)
theorem bW {α β:Type}{R:α->β->Prop}:∀{as:List α} {bs:List β},dO R as bs->∀{i:Nat} {a:α},as[i]?=some a->∃b,bs[i]?=some b/\R a b
 |_,_,.cons r t,0,_,h1=>by cases h1;exact⟨_,rfl,r⟩
 |_,_,.cons r t,i+1,a,h1=>by obtain⟨b,e,q⟩:=bW t (by simpa using h1);exact⟨b,by simpa using e,q⟩
def aK3 (K:bF9):Sp:=λvs H Q _=>∃vh n hd k,vs=[vh,.str n]/\jK K H vh hd/\look hd n=some k/\Q (.str k) H
def aLk (T:Txt w K mg):Ok P w K mg base 1 "kind_in" bQE (aK3 K):=by
 refine Ok.ofV T.aQn aAe (by trivial) (λf B A j s H J Q E F h=>?_)
 obtain⟨G,n,hd,k,rfl,⟨a,u,rfl,o,t⟩,C,q⟩:=h;have I:=aAe.nd;refine⟨_,(aB (jU PassesOwn.never rfl (rQ (vv 0)) (gF 2) (aD (bM (eG cW (aU (cH (K:=K)) (vv 2) aA) (vv 1)) (aD (aK (aU (cH (K:=K)) (vv 2) aA))) aQ))) (aD aBu)),?_⟩;obtain⟨g,r,y⟩:=aGw C;have v:g<u.length:=by rw[t.len];exact (List.getElem?_eq_some_iff.mp r).1
 refine⟨_,rfl,a,rfl,⟨_,o⟩,aWe (λi σ b=>b=H/\i<=g/\∃l,σ=[some (.ref a),some (.str n),l]) ⟨rfl,bAF _,_,rfl⟩ (λi σ b _ ⟨e,_⟩=>by rw[e];exact o) ?_ ?_⟩
 ·rintro i x σ b hx ⟨rfl,hi,l,rfl⟩;obtain⟨c,d,p,rfl,m⟩:=bW t hx;refine⟨_,rfl,p,_,0,_,rfl,rfl,m,at0 _ _,_,rfl,rfl,_,rfl,?_⟩;by_cases e:i=g
  ·subst e;rw[r] at d;cases d;rw[v4 rfl];exact cP ⟨_,rfl,p,_,1,_,rfl,rfl,m,at1 _ _ _,q⟩
  ·have D:=y i c (by lia) d;rw[v5 (by intro z;exact D (V.str.inj z))];exact bZ ⟨rfl,by lia,_,rfl⟩
 ·rintro σ b ⟨rfl,hi,_⟩;lia
def aSn {α:Type}{f:α->V}{xs:List α}{i:Nat}{y:V}(h:(xs.map f)[i]?=some y):∃x,xs[i]?=some x/\y=f x:=by
 rw[t7] at h;cases e:xs[i]? with
 |none=>rw[e] at h;cases h
 |some x=>rw[e] at h;cases h;exact⟨x,rfl,rfl⟩
def Good (hd:Hdr):Prop:=(hd.map (·.1)).Nodup/\1<=hd.length/\hd.length<=8
def aGo (K:bF9):Sp:=λvs H Q _=>∃v hd,vs=[v]/\jK K H v hd/\hd.length<=1000/\∀D H',Same H H'->H' D=some (.lst ((hd.map (·.1)).map V.str))->Q (.ref D) H'
def aG6 (T:Txt w K mg):Ok P w K mg base 1 "names_of" ["head"] (aGo K):=by
 refine Ok.ofV T.aMi aJq (by trivial) (λf B A e s H O Q E L h=>?_)
 obtain⟨v,hd,rfl,⟨a,o,rfl,u,g⟩,G,q⟩:=h;refine⟨_,(aD (aK (cU (N:=["column"]) ck jN rfl (rQ (vv 0)) (λI M b U=>⟨(jH 0),fY,(aU (cH (K:=K)) (vv 0) aA)⟩)))),?_⟩;have J:=g.len;refine aVe o ((hd.map (·.1)).map V.str) (by rw[j7,j7];lia) [none] pZ (small (by lia)) (λR r=>aL3 u (λS t=>⟨_,rfl,t⟩) R r) (λi x y F z b R l d r=>?_) rfl λD b d k=>q D b d k;obtain⟨c,C,p,rfl,m⟩:=bW g F;obtain⟨n,j,rfl⟩:=aSn z;rw[t7,C] at j;cases j;exact⟨_,rfl,p,_,0,_,rfl,rfl,d.bC m,at0 _ _,r b (Same.refl b)⟩
def plc:Hdr->Str->Nat
 |[],_=>0
 |c::r,n=>if c.1=n then 0 else plc r n+1
theorem aK2:∀{hd:Hdr},look hd n=some k->hd[plc hd n]?=some (n,k)/\∀j c,j<plc hd n->hd[j]?=some c->c.1≠n
 |[],h=>by cases h
 |(m,q)::r,h=>by
  unfold look at h;rw[bCB] at h;by_cases e:m=n
  ·rw[v4 e] at h;have d:=bAH h;subst e d;have z:plc ((m,q)::r) m=0:=if_pos rfl;rw[z];exact⟨rfl,λj c a=>absurd a (bFR _)⟩
  ·rw[v5 e] at h;obtain⟨g,f⟩:=aK2 h;have z:plc ((m,q)::r) n=plc r n+1:=if_neg e;rw[z];refine⟨by simpa using g,λj c a b=>?_⟩;cases j with
   |zero=>cases b;exact e
   |succ j=>exact f j c (by lia) (by simpa using b)
def aHn (K:bF9):Sp:=λvs H Q _=>∃vh n hd k,vs=[vh,.str n]/\jK K H vh hd/\hd.length<=1000/\look hd n=some k/\∀H',Same H H'->Q (.int (plc hd n:Nat)) H'
def aKa (T:Txt w K mg)(z:Ok P w K mg base 1 "names_of" ["head"] (aGo K)):Ok P w K mg base 2 "place_of" bQE (aHn K):=by
 refine Ok.ofV T.aK8 aJn (by trivial) (λf p A a s H B Q E y h=>?_)
 obtain⟨l,n,hd,k,rfl,g,b,v,q⟩:=h;obtain⟨o,x⟩:=aK2 v;refine⟨_,(aD (aK (aEq PySem.F.plainAttrs_list PySem.F.slot_list_index PySem.F.type_list_index aQ2 (bB z (va1 (vv 0))) (va1 (vv 1))))),?_⟩;refine⟨_,rfl,l,hd,rfl,g,b,λD i u e=>?_⟩;refine⟨.inl ⟨rfl,_,SqL.of e⟩,_,rfl,D,hd.map (·.1),n,plc hd n,rfl,rfl,SqL.of e,by rw[j7];exact b,by rw[t7,o];rfl,λj m r d=>?_,q i u⟩;rw[t7] at d;obtain⟨c,t,rfl⟩:=Option.map_eq_some_iff.mp d;exact x j c r t
def aO5 {n:Str}{ss:List Str}:inV (.str n) (ss.map V.str)=decide (n∈ss):=by
 unfold inV;rw[bCM,bEF,decide_eq_true_eq];constructor
 ·rintro⟨v,a,e⟩;obtain⟨z,b,rfl⟩:=List.mem_map.mp a;have d:(z == n)=true:=e;have c:z=n:=by simpa using d
  rw[<-c];exact b
 ·intro h;refine⟨.str n,List.mem_map.mpr ⟨n,h,rfl⟩,?_⟩;show (n == n)=true;simp
def aHl {ss:List Str}:(ss.map V.str).all iW=true:=by rw[bCF];intro v a;obtain⟨z,_,rfl⟩:=List.mem_map.mp a;rfl
def aNl {z:Str}{j:Int}(h0:0<=j)(h1:j<z.length):∃c,z.cps[j.toNat]?=some c:=
 ⟨_,j6 (by show j.toNat<z.length;lia)⟩
def aFm (x y:Str):(x++y).length=x.length+y.length:=by show (x.cps++y.cps).size=_;rw[Array.size_append];rfl
def at_of {xs:List V}{j:Int}(h0:0<=j)(h1:j<xs.length):∃v,atI xs j=some v/\v∈xs:=by
 have b:j.toNat<xs.length:=by lia
 refine⟨xs[j.toNat],?_,bAU b⟩;have a:=bO (b8 b);rw[show ((j.toNat:Nat):Int)=j by lia] at a;exact a
def Lets (x:Str):Prop:=∀c∈x.cps,97<=c/\c<=122
def aXl:∀k:_root_.Fin 26,inA ⟨#[97+k.val]⟩=true:=by trivial
def bAf (h1:97<=c)(h2:c<=122):inA ⟨#[c]⟩=true:=by have:=aXl ⟨c - 97,by lia⟩;simp only at this;rw[show 97+(c - 97)=c by lia] at this;exact this
def allIn_of (h:Lets x):allIn x=true:=by
 unfold allIn;rw[bCF];intro b d;obtain⟨i,c,rfl⟩:=List.mem_map.mp d;have a:=List.mem_range.mp c;have e:x.cps.getD i 0=x.cps[i]:=by rw[v8,j6 a];rfl
 obtain⟨g,f⟩:=h _ (bF7 a);unfold sgn;rw[e];exact bAf g f
def Lets.add (b:Lets x)(d:Lets y):Lets (x++y):=λc a=>by
 have a:=a;rcases Array.mem_append.mp a with h|h
 ·exact b c h
 ·exact d c h
def Lets.one {z:Str}{i c:Nat}(a:Lets z)(h:z.cps[i]?=some c):Lets ⟨#[c]⟩:=λd hd=>by
 have hd:=hd;have e:d=c:=by simpa using hd
 subst e;exact a _ (bDX h)
def aJd:Lets abc:=by
 have h:(abc.cps.all λc=>decide (97<=c) && decide (c<=122))=true:=by trivial
 intro c a;have:=(Array.all_eq_true_iff_forall_mem.mp h) c a;rw[bAT] at this;exact⟨of_decide_eq_true this.1,of_decide_eq_true this.2⟩
inductive dF:Str->V->Prop
 |num {i}:dF "number" (.int i)
 |wrd {x}:Lets x->x.length<=8->dF "word" (.str x)
def Vl (v:V):Prop:=(∃i,v=.int i)\/∃x,v=.str x/\Lets x/\x.length<=8
def Vl.th (h:Vl v):Th K H v:=by
 rcases h with⟨i,rfl⟩|⟨x,rfl,_,h8⟩
 ·exact .inr (.inl ⟨i,rfl⟩)
 ·exact .inl ⟨x,rfl,by lia⟩
def aI4:Sp:=λvs H Q _=>∃i m:Int,vs=[.int i,.int m]/\Q (.bl (decide (0<=i) && decide (i<m))) H
def isTup:Tg->Bool
 |.tup _=>true
 |_=>false
def bDn (h:dD K H v t):Tk K H v (isTup t):=by
 cases h with
 |non=>exact .non
 |int=>exact .int
 |bl=>exact .bl
 |str _=>exact .str
 |tup g _ _=>exact .tup g
 |lst g=>exact .lst (SqL.of g)
def aPc (h:dD K H v t):Th K H v:=by
 cases h with
 |non=>exact .inr (.inr (.inr ⟨_,.non⟩))
 |int=>exact .inr (.inl ⟨_,rfl⟩)
 |bl=>exact .inr (.inr (.inl ⟨_,rfl⟩))
 |str h=>exact .inl ⟨_,rfl,h⟩
 |tup g _ _=>exact .inr (.inr (.inr ⟨_,.tup g⟩))
 |lst g=>exact .inr (.inr (.inr ⟨_,.lst (SqL.of g)⟩))
def flat:Tg->V
 |.int i=>.int i
 |.bl b=>.bl b
 |.str x=>.str x
 |_=>.non
def aRu (t:Tg):Bool:=nameB (flat t)
def bE0 (t:Tg):Bool:=yD (flat t)
def aVm (h:dD K H v t):nameB v=aRu t:=by cases h <;> rfl
def jC (m:Int):Tg->Bool
 |.int i=>decide (0<=i) && decide (i<m)
 |_=>false
inductive qL (K:bF9)(vs:List V)(H:Hp)(Q:VK)(E_:XK):Prop
 |mk (v:V) (t:Tg) (m:Int) (_:vs=[v,.int m]) (_:dD K H v t) (_:Q (.bl (jC m t)) H)
def aFs (T:Txt w K mg)(g:Ok P w K mg base 1 "is_whole" o6 (pC K)):Ok P w K mg base 2 "is_number_below" bQF (qL K):=by
 refine Ok.ofV T.tQ sU (by trivial) (λf d A a s H e Q E j h=>?_)
 obtain⟨v,t,m,rfl,c,q⟩:=h;refine⟨_,(aD (aK (gH (bB g (va1 (vv 0))) (fX (aTa aAd aY5 aA (vv 0) (vv 1)))))),?_⟩;refine⟨_,rfl,_,rfl,aPc c,_,rfl,?_⟩;cases c with
 |@int i=>
  have q:Q (.bl (decide (0<=i) && decide (i<m))) H:=q;refine cP ⟨_,rfl,_,_,rfl,rfl,_,rfl,?_⟩;cases b:decide (0<=i) with
  |false=>rw[b] at q;exact bZ q
  |true=>rw[b] at q;exact cP ⟨_,rfl,_,_,rfl,rfl,q⟩
 |_=>exact bZ q
def aSw (G:Ok P w K mg base 2 "is_number_below" bQF (qL K)):Ok P w K mg base 2 "is_number_below" bQF aI4:=by obtain⟨f,b,d,c,e,a⟩:=G;refine⟨f,b,d,c,e,a.imp λg H Q E h=>?_⟩;obtain⟨i,m,rfl,q⟩:=h;exact⟨_,_,_,rfl,.int,q⟩
def aDa (a:0<=i)(b:i<m):jC m (.int i)=true:=by show (decide (0<=i) && decide (i<m))=true;rw[v4 a,v4 b];rfl
def aQh (h:aRu t=true):∃n,t=.str n:=by
 cases t with
 |str n=>exact⟨n,rfl⟩
 |_=>cases h
def vW (kd:Str)(t:Tg):Bool:=bE0 t && decide (kindS (flat t)=kd)
def aRv (h:dD K H v t):(yD v && decide (kindS v=kd))=vW kd t:=by cases h <;> rfl
end
end My
namespace PySem.W
open PySem PySem.Calls PyProof.Rows
def KasT.ev {α:Type}(f:Nat->Nat->Bool):KasT α->α
 |.ret a=>a
 |.ask i j k=>(k (f i j)).ev f
inductive KasT.Low {α:Type}(n:Nat)(P:α->Prop):KasT α->Prop
 |ret {a}:P a->KasT.Low n P (.ret a)
 |ask {i j k}:i<n->j<n->(∀b,KasT.Low n P (k b))->KasT.Low n P (.ask i j k)
def KasT.Low.bind {α β:Type}{n:Nat}{P:α->Prop}{R:β->Prop}{t:KasT α}{f:α->KasT β}(h:t.Low n P)(c:∀a,P a->(f a).Low n R):(t.bind f).Low n R:=by
 induction h with
 |ret h=>exact c _ h
 |ask a b _ ih=>exact .ask a b ih
def KasT.Low.of {α:Type}{n:Nat}{P:α->Prop}{t:KasT α}(h:t.Low n P)(f:Nat->Nat->Bool):P (t.ev f):=by
 induction h with
 |ret h=>exact h
 |@ask i j k a b _ ih=>exact ih (f i j)
def bAq {α:Type}{n:Nat}{P:α->Prop}{f:Nat->Nat->Bool}{cmp:Nat->Nat->(Bool->Shared->Prop)->Shared->Prop}{s:Shared}(c:∀i j C,i<n->j<n->C (f i j) s->cmp i j C s){t:KasT α}(h:t.Low n P){Q:α->Shared->Prop}(q:Q (t.ev f) s):t.kasWp cmp Q s:=by
 induction h with
 |ret h=>exact q
 |@ask i j k a b _ ih=>exact c i j _ a b (ih (f i j) q)
def Pl (n:Nat)(p:Array Nat):Prop:=p.size=n/\∀k,p.getD k 0<n
def Pl.perm (h:Pl n p)(e:q.Perm p)(g:0<n):Pl n q:=by
 refine⟨e.size_eq.trans h.1,λk=>?_⟩;by_cases d:k<q.size
 ·have b:q[k]∈p.toList:=(Array.perm_iff_toList_perm.mp e).mem_iff.mp (by simp);obtain⟨j,f,c⟩:=bBJ b;have a:j<p.size:=by simpa using f
  have:=h.2 j;rw[v8,j6 a,bBR] at this;rw[v8,j6 d,bBR,<-c];simpa using this
 ·rw[v8,bBO (by lia)];exact g
theorem aEz (h:Pl n p):∀f m,(kas_asc p f m).Low n (λr=>m<=r/\r<=m+f)
 |0,m=>.ret ⟨j0 _,j0 _⟩
 |f+1,m=>by
  refine .ask (h.2 _) (h.2 _) λc=>?_;by_cases e:c=true
  ·rw[if_pos e];exact .ret ⟨j0 _,by lia⟩
  ·rw[if_neg e];have z:=aEz h f (m+1);generalize kas_asc p f (m+1)=t at z
   induction z with
   |ret q=>exact .ret ⟨by lia,by lia⟩
   |ask a b _ ih=>exact .ask a b ih
theorem uF (a:0<n):∀f p m q,Pl n p->(kas_desc f p m q).Low n (λr=>Pl n r.1)
 |0,p,m,q,h=>.ret h
 |f+1,p,m,q,h=>by
  refine .ask (h.2 _) (h.2 _) λc=>?_;by_cases e:c=true
  ·rw[if_pos e];by_cases b:q > 0
   ·rw[if_pos b];exact uF a f _ _ _ (h.perm (mirror_perm _ _ _ _) a)
   ·rw[if_neg b];exact uF a f _ _ _ h
  ·rw[if_neg e];refine .ask (h.2 _) (h.2 _) λd=>?_;by_cases g:d=true
   ·rw[if_pos g];exact .ret h
   ·rw[if_neg g];exact uF a f _ _ _ h
def aC4 {n:Nat}(b:0<n){p:Array Nat}(h:Pl n p)(m nrem:Nat):(kas_tail3 m nrem p).Low n (λr=>Pl n r.2):=by have a:Pl n (kas_rev p 0 m):=h.perm (mirror_perm _ _ _ _) b;exact (aEz a _ _).bind λ_ _=>.ret a
def uC {n:Nat}(a:0<n){p:Array Nat}(h:Pl n p)(m nrem:Nat):(kas_descPart m nrem p).Low n (λr=>Pl n r.2):=by
 refine (uF a _ _ _ _ h).bind λr b=>?_;by_cases e:r.2.2 > 0
 ·rw[if_pos e];exact aC4 a (b.perm (mirror_perm _ _ _ _) a) _ _
 ·rw[if_neg e];exact aC4 a b _ _
def aPk {n:Nat}(a:0<n){p:Array Nat}(h:Pl n p)(b:Nat):(kas_count b p).Low n (λr=>Pl n r.2):=by
 refine (aEz h _ _).bind λm _=>?_;by_cases e:(m == b)=true
 ·rw[if_pos e];exact .ret h
 ·rw[if_neg e];by_cases d:m > 1
  ·rw[if_pos d];refine .ask (h.2 _) (h.2 _) λc=>?_;by_cases f:c=true
   ·rw[if_pos f];exact .ret h
   ·rw[if_neg f];exact uC a (h.perm (mirror_perm _ _ _ _) a) _ _
  ·rw[if_neg d];exact uC a h _ _
theorem vV (h:Pl n p)(k:Nat):∀f l r,(kas_place p k f l r).Low n (λ_=>True)
 |0,l,r=>.ret trivial
 |f+1,l,r=>by
  unfold kas_place;by_cases e:l ≥ r
  ·rw[if_pos e];exact .ret trivial
  ·rw[if_neg e];refine .ask (h.2 _) (h.2 _) λc=>?_;by_cases a:c=true
   ·rw[if_pos a];exact vV h k f _ _
   ·rw[if_neg a];exact vV h k f _ _
theorem aO1 {n:Nat}(a:0<n):∀(f:Nat) (p:Array Nat) (k:Nat),Pl n p->(kas_bin f p k).Low n (Pl n)
 |0,p,k,h=>.ret h
 |f+1,p,k,h=>(vV h k k 0 k).bind λl _=>aO1 a f _ _ (h.perm (bubble_perm _ _ _) a)
def aU7 (a:0<n):Pl n (List.toArray (List.range n)):=by
 refine⟨by simp,λk=>?_⟩;rw[v8,bFG];by_cases h:k<n
 ·rw[bCV h];exact h
 ·rw[bAD (by simpa using h)];exact a
def tO {n:Nat}(b:0<n):(kas_sort n).Low n (Pl n):=by
 refine (aPk b (aU7 b) n).bind λr a=>?_;by_cases e:r.1<n
 ·rw[if_pos e];exact aO1 b _ _ _ a
 ·rw[if_neg e];exact .ret a
def dY (n:Nat)(f:Nat->Nat->Bool):List Nat:=if n<2 then List.range n else ((kas_sort n).ev f).toList
def qI (n:Nat)(f:Nat->Nat->Bool):(dY n f).length=n:=by
 unfold dY;by_cases h:n<2
 ·rw[if_pos h,bAM]
 ·rw[if_neg h,v9];exact ((tO (by lia)).of f).1
def mF (h:i∈dY n f):i<n:=by
 unfold dY at h;by_cases b:n<2
 ·rw[if_pos b] at h;exact List.mem_range.mp h
 ·rw[if_neg b] at h;have z:=(tO (n:=n) (by lia)).of f;obtain⟨j,c,e⟩:=bBJ h;have a:j<((kas_sort n).ev f).size:=by simpa using c
  have:=z.2 j;rw[v8,j6 a,bBR] at this;rw[<-e];simpa using this
def nZ (ho:s.heap.get? a=some (seqObj "list" vs.toArray n))(J:vs.length<64)
  (G:2<=vs.length->∀h',(∀b o,b≠a->s.heap.get? b=some o->h'.get? b=some o)->∃κ,(∀(Q:SortKind->Shared->Prop),Q κ { s with heap:=h' }->wpAny (model prog w) A (keyKind' vs.toArray) Q (λ_ _=>False) { s with heap:=h' })/\∀i j (C:Bool->Shared->Prop),i<vs.length->j<vs.length->C (f i j) { s with heap:=h' }->kas_ask prog w A κ vs i j C { s with heap:=h' })
  (h:P (.done (.ret .none)) { s with heap:=sortedHeap s.heap a vs (List.toArray ((dY vs.length f).map λi=>vs.getD i Value.none)) }) :
  wpAny (model prog w) A (Builtin.«list.sort» ⟨[.ref a],[]⟩) P E s:=by
 rw[list_sort_plain];have D:a<s.heap.objs.size:=m9 ho;refine b7 (listItems_at ho rfl ?_);refine b7 (listUpdate_at ho rfl ?_ (by rw[d9,sizeLine_eq];lia) (bAF _));obtain⟨z,v⟩:∃z,(s.heap.update a (Obj.mapSeq λ_=>#[])).get? a=some (seqObj "list" #[] z):=⟨_,get?_update_seq ho (λ_=>#[])⟩;refine b7 (seqEpoch_at v rfl ?_);refine b7 (bFZ ?_ (by show vs.length<=_;rw[sizeLine_eq];lia));refine b7 (wpAny_newList ?_ (bAF _));refine bAP ?_;have g:(((s.heap.update a (Obj.mapSeq λ_=>#[])).push (seqObj "tuple" vs.toArray 0)).push (seqObj "list" #[] 0)).get? a=some (seqObj "list" #[] z):=by rw[bFA _ _ _ (by rw[size_push',Heap.size_update];exact v7 (bCJ D)),bFA _ _ _ (by rw[Heap.size_update];exact v7 D)];exact v
 have u:∀b o,b≠a->s.heap.get? b=some o->(((s.heap.update a (Obj.mapSeq λ_=>(#[]:Array Value))).push (seqObj "tuple" vs.toArray 0)).push (seqObj "list" #[] 0)).get? b=some o:=λb o L q=>by refine d7 _ (d7 _ ?_);rw[bEJ _ _ _ _ L];exact q
 show wpAny (model prog w) A _ P E { s with heap:=((s.heap.update a (Obj.mapSeq λ_=>#[])).push (seqObj "tuple" vs.toArray 0)).push (seqObj "list" #[] 0) };dsimp only;have k:vs.toArray.size=vs.length:=by simp
 by_cases l:vs.toArray.size<2
 ·rw[if_pos l,if_pos l];refine b7 (d8 ?_);rw[StateT.run_pure];refine b7 (d8 ?_);dsimp only;refine b7 (seqEpoch_at g rfl ?_);refine b7 (listUpdate_at g rfl ?_ (hsz2:=by rw[Array.size_map];show (pairsOf vs).size<=_;rw[pairsOf_size,sizeLine_eq];lia));simp only[bne_self_eq_false,bBC,if_false];refine d8 ?_;have e:((arrOf (SortSt.mk' general' (vs.toArray.zip vs.toArray) #[] 7 none)).map (·.2))=List.toArray ((dY vs.length f).map λi=>vs.getD i Value.none):=by
   show ((vs.toArray.zip vs.toArray).map (·.2))=_;unfold dY;rw[if_pos (by lia)]
   match vs,k,l with
   |[],_,_=>simp
   |[x],_,_=>simp[List.range,List.range.loop]
   |_::_::_,k,l=>rw[k,t6,t6] at l;lia
  rw[e];exact h
 ·rw[if_neg l,if_neg l];have m:2<=vs.length:=by lia
  obtain⟨κ,y,B⟩:=G m _ u;refine b7 (bBH (y (fun F c=>(kas_sort vs.length).kasWp (kas_ask prog w A F vs) (λp c=>c={ s with heap:=((s.heap.update a (Obj.mapSeq λ_=>#[])).push (seqObj "tuple" vs.toArray 0)).push (seqObj "list" #[] 0) }/\p=(kas_sort vs.length).ev f) c) (bAq (n:=vs.length) (P:=Pl vs.length) (f:=f) (cmp:=kas_ask prog w A κ vs) (t:=kas_sort vs.length) B (tO (by lia)) (Q:=λp c=>c={ s with heap:=((s.heap.update a (Obj.mapSeq λ_=>#[])).push (seqObj "tuple" vs.toArray 0)).push (seqObj "list" #[] 0) }/\p=(kas_sort vs.length).ev f) ⟨rfl,rfl⟩)) (fun F O G=>?_) λ_ _ x=>x.elim);refine b7 (bBH (kat_run (Q:=λd c=>∃p:Array Nat,p.size=vs.length/\arrOf d=p.map (kas_item (vs.toArray.zip vs.toArray))/\failedOf d=none/\c={ s with heap:=((s.heap.update a (Obj.mapSeq λ_=>#[])).push (seqObj "tuple" vs.toArray 0)).push (seqObj "list" #[] 0) }/\p=(kas_sort vs.length).ev f)
   rfl m J (λM d c H K N I=>⟨M,H,K,N,I⟩) G) ?_ λ_ _ e=>e)
  rintro⟨⟨⟩,d⟩ c ⟨p,hp,har,hf,rfl,rfl⟩;dsimp only;have r:=kat_snds rfl har;rw[r];refine b7 (seqEpoch_at g rfl ?_);refine b7 (listUpdate_at g rfl ?_ (bAF _) (by rw[d9,j7,v9,hp,sizeLine_eq];lia));rw[hf];simp only[bne_self_eq_false,bBC,if_false];refine d8 ?_;have e:dY vs.length f=((kas_sort vs.length).ev f).toList:=by unfold dY;rw[if_neg (by lia)]
  rw[e] at h;exact h
def aFi (n:s.heap.IsList l vs.toArray)(k:vs.length<64)
  (p:2<=vs.length->∀h',(∀b o,s.heap.get? b=some o->h'.get? b=some o)->∃κ,(∀(Q:SortKind->Shared->Prop),Q κ { s with heap:=h' }->wpAny (model prog w) A.in1.in1 (keyKind' vs.toArray) Q (λ_ _=>False) { s with heap:=h' })/\∀i j (C:Bool->Shared->Prop),i<vs.length->j<vs.length->C (f i j) { s with heap:=h' }->kas_ask prog w A.in1.in1 κ vs i j C { s with heap:=h' })
  (h:Q (.ref (s.heap.objs.size+1)) { s with heap:=sortedAll s.heap vs (List.toArray ((dY vs.length f).map λi=>vs.getD i Value.none)) }) :
  wpAny (model prog w) A (call (.builtin "sorted") [.ref l]) Q E s:=by
 refine Calls.call_function_entry kind_sorted plain_sorted entry_sorted (args_sorted1 _) ?_;unfold Builtin.«sorted»;refine b7 (d8 ?_);refine b7 (collect_list n ?_ (by rw[sizeLine_eq];lia));refine b7 (wpAny_newList ?_ (by rw[sizeLine_eq];lia));have a:((s.heap.push (seqObj "list" #[] 0)).update s.heap.objs.size (Obj.mapSeq (·++vs.toArray))).objs.size=s.heap.objs.size+1:=by rw[Heap.size_update,size_push']
 have d:(((s.heap.push (seqObj "list" #[] 0)).update s.heap.objs.size (Obj.mapSeq (·++vs.toArray))).push (seqObj "list" vs.toArray 0)).get? (s.heap.objs.size+1)=some (seqObj "list" vs.toArray 0):=by rw[<-a];exact j8 _ rfl
 have e:∀b o,s.heap.get? b=some o->(((s.heap.push (seqObj "list" #[] 0)).update s.heap.objs.size (Obj.mapSeq (·++vs.toArray))).push (seqObj "list" vs.toArray 0)).get? b=some o:=λb o q=>by have c:=m9 q;rw[bFA _ _ _ (by rw[a];exact v7 (bCJ c)),bEJ _ _ _ _ (v7 c),bFA _ _ _ (v7 c)];exact q
 rw[a];refine b7 (bAP (bAL slot_list_sort ⟨_,d,rfl⟩ entry_list_sort (nZ d k (λm h' g=>p m h' λb o q=>g b o (v7 (bCJ (m9 q))) (e b o q)) ⟨_,rfl,?_⟩) (args_list_sort _)));exact d8 ⟨_,rfl,h⟩
end PySem.W
namespace PySem.W.N4
open PySem PySem.Calls PyProof.Rows PySem.W
structure Swo (f:Nat->Nat->Bool):Prop where
 asym:∀{i j},f i j=true->f j i=false
 tr:∀{i j k},f j i=false->f k j=false->f k i=false
def Swo.lt1 (S:Swo f)(a:f i j=true)(b:f k j=false):f i k=true:=by
 cases e:f i k with
 |true=>rfl
 |false=>have:=S.tr b e;rw[a] at this;cases this
theorem qJ {α β:Type}{f:Nat->Nat->Bool}{g:α->KasT β}:∀t:KasT α,(t.bind g).ev f=(g (t.ev f)).ev f
 |.ret a=>rfl
 |.ask i j k=>qJ (k (f i j))
def tG (a:j<=p.size)(k:Nat):(kas_rev p i j).getD k 0=if i<=k/\k<j then p.getD (i+j - 1 - k) 0 else p.getD k 0:=by
 unfold kas_rev;rw[v8,getElem?_mirror_all a]
 split <;> rw[v8]
def bA3 (c:k<p.size)(hd:d<=k)(x:Nat):(bubble p k d).getD x 0=if x=k - d then p.getD k 0 else if k - d<x/\x<=k then p.getD (x - 1) 0 else p.getD x 0:=by
 rw[v8,getElem?_bubble c d hd,v8,v8,v8];by_cases a:x=k - d
 ·rw[if_pos a,if_pos a]
 ·rw[if_neg a,if_neg a];by_cases b:k - d<x/\x<=k
  ·rw[if_pos b,if_pos b]
  ·rw[if_neg b,if_neg b]
structure Ld (N:Nat)(p:Array Nat):Prop where
 sz:p.size=N
 pm:p.Perm (List.range N).toArray
def Asc (f:Nat->Nat->Bool)(p:Array Nat)(m:Nat):Prop:=∀i j,i<j->j<m->f (p.getD j 0) (p.getD i 0)=false
def Fds (f:Nat->Nat->Bool)(p:Array Nat)(m:Nat):Prop:=∀i j,i<j->j<m->f (p.getD i 0) (p.getD j 0)=false
def Ld.rev (L:Ld N p):Ld N (kas_rev p i j):=⟨by unfold kas_rev;rw[mirror_size];exact L.sz,(mirror_perm _ _ _ _).trans L.pm⟩
theorem aMq (p:Array Nat):∀fu m,m<=(kas_asc p fu m).ev f/\(kas_asc p fu m).ev f<=m+fu/\(∀k,m<=k->k<(kas_asc p fu m).ev f->f (p.getD k 0) (p.getD (k - 1) 0)=false)/\((kas_asc p fu m).ev f<m+fu->f (p.getD ((kas_asc p fu m).ev f) 0) (p.getD ((kas_asc p fu m).ev f - 1) 0)=true)
 |0,m=>⟨j0 _,j0 _,λk b a=>absurd (show k<m from a) (by lia),λh=>absurd (show m<m+0 from h) (by lia)⟩
 |fu+1,m=>by
  show m<=(if f (p.getD m 0) (p.getD (m - 1) 0)=true then KasT.ret m else kas_asc p fu (m+1)).ev f/\(if f (p.getD m 0) (p.getD (m - 1) 0)=true then KasT.ret m else kas_asc p fu (m+1)).ev f<=m+(fu+1)/\(∀k,m<=k->k<(if f (p.getD m 0) (p.getD (m - 1) 0)=true then KasT.ret m else kas_asc p fu (m+1)).ev f->f (p.getD k 0) (p.getD (k - 1) 0)=false)/\((if f (p.getD m 0) (p.getD (m - 1) 0)=true then KasT.ret m else kas_asc p fu (m+1)).ev f<m+(fu+1)->f (p.getD ((if f (p.getD m 0) (p.getD (m - 1) 0)=true then KasT.ret m else kas_asc p fu (m+1)).ev f) 0) (p.getD ((if f (p.getD m 0) (p.getD (m - 1) 0)=true then KasT.ret m else kas_asc p fu (m+1)).ev f - 1) 0)=true);by_cases e:f (p.getD m 0) (p.getD (m - 1) 0)=true
  ·simp only[if_pos e];exact⟨j0 _,bDH _ _,λk b a=>absurd (show k<m from a) (by lia),λ_=>e⟩
  ·simp only[if_neg e];obtain⟨b,a,g,c⟩:=aMq p fu (m+1);refine⟨by lia,by lia,λk i d=>?_,λh=>c (by lia)⟩;by_cases z:k=m
   ·subst z;simpa using e
   ·exact g k (by lia) d
theorem aFy (S:Swo f)(l:Asc f p m)(o:1<=m):∀d,(∀k,m<=k->k<m+d->f (p.getD k 0) (p.getD (k - 1) 0)=false)->Asc f p (m+d)
 |0,_=>l
 |d+1,h=>λi j c n=>by
  have e:=aFy S l o d λk a b=>h k a (by lia);by_cases z:j=m+d
  ·subst z;have g:=h (m+d) (by lia) (by lia);by_cases y:i=m+d - 1
   ·subst y;exact g
   ·exact S.tr (e i (m+d - 1) (by lia) (by lia)) g
  ·exact e i j c (by lia)
structure Dsc (f:Nat->Nat->Bool)(N:Nat)(p:Array Nat)(n q:Nat):Prop where
 ld:Ld N p
 hq:q+1<=n
 hn:n<=N
 a:Fds f p n
 b:∀i j,n - (q+1)<=i->i<j->j<n->f (p.getD j 0) (p.getD i 0)=false
def pA (p:Array Nat)(n q:Nat):Array Nat:=if q > 0 then kas_rev p (n - (q+1)) n else p
def Dsc.close (D:Dsc f N p n q):Ld N (pA p n q)/\Fds f (pA p n q) n/\(∀k,k<n->∃k',k'<n/\(pA p n q).getD k 0=p.getD k' 0)/\(pA p n q).getD n 0=p.getD n 0:=by
 have l:=D.hq;have c:n<=p.size:=by rw[D.ld.sz];exact D.hn
 unfold pA;by_cases h:q > 0
 ·rw[if_pos h];refine⟨D.ld.rev,λi j e g=>?_,λk d=>?_,by rw[tG c,if_neg (by lia)]⟩
  ·rw[tG c,tG c];by_cases a:n - (q+1)<=i
   ·rw[if_pos ⟨a,by lia⟩,if_pos ⟨by lia,g⟩];exact D.b _ _ (by lia) (by lia) (by lia)
   ·rw[if_neg (show ¬ (n - (q+1)<=i/\i<n) by lia)]
    split
    ·exact D.a _ _ (by lia) (by lia)
    ·exact D.a i j e g
  ·rw[tG c]
   split
   ·exact⟨_,by lia,rfl⟩
   ·exact⟨k,d,rfl⟩
 ·rw[if_neg h];exact⟨D.ld,D.a,λk d=>⟨k,d,rfl⟩,rfl⟩
def Dsc.down (S:Swo f)(D:Dsc f N p n q)(r:n<N)(h:f (p.getD n 0) (p.getD (n - 1) 0)=true):Dsc f N (pA p n q) (n+1) 0:=by
 obtain⟨L,F,R,e⟩:=D.close;have o:=D.hq;refine⟨L,by lia,r,λi j d m=>?_,λi j a b c=>by lia⟩;by_cases z:j=n
 ·subst z;obtain⟨g,k,l⟩:=R i d;rw[e,l];by_cases y:g=j - 1
  ·subst y;exact S.asym h
  ·exact S.asym (S.lt1 h (D.a g (j - 1) (by lia) (by lia)))
 ·exact F i j d (by lia)
def Dsc.flat (S:Swo f)(D:Dsc f N p n q)(k:n<N)(g:f (p.getD n 0) (p.getD (n - 1) 0)=false)(e:f (p.getD (n - 1) 0) (p.getD n 0)=false):Dsc f N p (n+1) (q+1):=by
 have l:=D.hq;refine⟨D.ld,by lia,k,λi j d h=>?_,λi j a b c=>?_⟩
 ·by_cases z:j=n
  ·subst z;by_cases y:i=j - 1
   ·subst y;exact e
   ·exact S.tr e (D.a i (j - 1) (by lia) (by lia))
  ·exact D.a i j d (by lia)
 ·by_cases z:j=n
  ·subst z;by_cases y:i=j - 1
   ·subst y;exact g
   ·exact S.tr (D.b i (j - 1) (by lia) (by lia) (by lia)) g
  ·exact D.b i j (by lia) b (by lia)
theorem yM (S:Swo f):∀fu p n q,Dsc f N p n q->n+fu<=N->Dsc f N ((kas_desc fu p n q).ev f).1 ((kas_desc fu p n q).ev f).2.1 ((kas_desc fu p n q).ev f).2.2
 |0,p,n,q,D,_=>D
 |fu+1,p,n,q,D,h=>by
  show Dsc f N ((if f (p.getD n 0) (p.getD (n - 1) 0)=true then (if q > 0 then kas_desc fu (kas_rev p (n - (q+1)) n) (n+1) 0 else kas_desc fu p (n+1) 0) else .ask (p.getD (n - 1) 0) (p.getD n 0) λd=>if d=true then .ret (p,n,q) else kas_desc fu p (n+1) (q+1)).ev f).1 ((if f (p.getD n 0) (p.getD (n - 1) 0)=true then (if q > 0 then kas_desc fu (kas_rev p (n - (q+1)) n) (n+1) 0 else kas_desc fu p (n+1) 0) else .ask (p.getD (n - 1) 0) (p.getD n 0) λd=>if d=true then .ret (p,n,q) else kas_desc fu p (n+1) (q+1)).ev f).2.1 ((if f (p.getD n 0) (p.getD (n - 1) 0)=true then (if q > 0 then kas_desc fu (kas_rev p (n - (q+1)) n) (n+1) 0 else kas_desc fu p (n+1) 0) else .ask (p.getD (n - 1) 0) (p.getD n 0) λd=>if d=true then .ret (p,n,q) else kas_desc fu p (n+1) (q+1)).ev f).2.2;by_cases e:f (p.getD n 0) (p.getD (n - 1) 0)=true
  ·have a:=D.down S (by lia) e;unfold pA at a;simp only[if_pos e];by_cases c:q > 0
   ·simp only[if_pos c] at a ⊢;exact yM S fu _ _ _ a (by lia)
   ·simp only[if_neg c] at a ⊢;exact yM S fu _ _ _ a (by lia)
  ·simp only[if_neg e];show Dsc f N ((if f (p.getD (n - 1) 0) (p.getD n 0)=true then KasT.ret (p,n,q) else kas_desc fu p (n+1) (q+1)).ev f).1 ((if f (p.getD (n - 1) 0) (p.getD n 0)=true then KasT.ret (p,n,q) else kas_desc fu p (n+1) (q+1)).ev f).2.1 ((if f (p.getD (n - 1) 0) (p.getD n 0)=true then KasT.ret (p,n,q) else kas_desc fu p (n+1) (q+1)).ev f).2.2;by_cases b:f (p.getD (n - 1) 0) (p.getD n 0)=true
   ·simp only[if_pos b];exact D
   ·simp only[if_neg b];exact yM S fu _ _ _ (D.flat S (by lia) (by simpa using e) (by simpa using b)) (by lia)
def aKd (f:Nat->Nat->Bool)(N:Nat)(r:Nat × Array Nat):Prop:=1<=r.1/\r.1<=N/\Ld N r.2/\Asc f r.2 r.1
def aJa (S:Swo f){N n:Nat}{p:Array Nat}(L:Ld N p)(F:Fds f p n)(m:1<=n)(l:n<=N):aKd f N ((kas_tail3 n N p).ev f):=by
 unfold kas_tail3;rw[qJ];have b:n<=p.size:=by rw[L.sz];exact l
 have c:Asc f (kas_rev p 0 n) n:=λi j h e=>by rw[tG b,tG b,if_pos ⟨bAF _,e⟩,if_pos ⟨bAF _,by lia⟩];exact F _ _ (by lia) (by lia)
 obtain⟨k,g,a,_⟩:=aMq (f:=f) (kas_rev p 0 n) (N - n) n;obtain⟨d,hd⟩:∃d,(kas_asc (kas_rev p 0 n) (N - n) n).ev f=n+d:=⟨(kas_asc (kas_rev p 0 n) (N - n) n).ev f - n,by lia⟩;show aKd f N ((kas_asc (kas_rev p 0 n) (N - n) n).ev f,kas_rev p 0 n);rw[hd] at g a ⊢;exact⟨by show 1<=n+d;lia,by show n+d<=N;lia,L.rev,aFy S c m d a⟩
def xH (S:Swo f){N n:Nat}{p:Array Nat}(D:Dsc f N p (n+1) 0):aKd f N ((kas_descPart n N p).ev f):=by
 unfold kas_descPart;rw[qJ];have a:=yM S (N - (n+1)) p (n+1) 0 D (by have:=D.hn;lia);generalize (kas_desc (N - (n+1)) p (n+1) 0).ev f=r at a;obtain⟨L,F,_⟩:=a.close;have b:=a.hq;unfold pA at L F;by_cases h:r.2.2 > 0
 ·simp only[if_pos h] at L F ⊢;exact aJa S L F (by lia) a.hn
 ·simp only[if_neg h] at L F ⊢;exact aJa S L F (by lia) a.hn
def aUs (S:Swo f){N:Nat}(h1:1<=N){p:Array Nat}(L:Ld N p):aKd f N ((kas_count N p).ev f):=by
 unfold kas_count;rw[qJ];obtain⟨l,u,o,q⟩:=aMq (f:=f) p (N - 1) 1;generalize w:(kas_asc p (N - 1) 1).ev f=m at l u o q;obtain⟨d,rfl⟩:∃d,m=1+d:=⟨m - 1,by lia⟩;have A:Asc f p (1+d):=aFy S (λi j h r=>by lia) (j0 _) d o;have v:N<=p.size:=by rw[L.sz];exact j0 _
 by_cases e:(1+d == N)=true
 ·simp only[if_pos e];exact⟨l,by show 1+d<=N;lia,L,A⟩
 ·simp only[if_neg e];have t:1+d<N:=by
   have:1+d≠N:=by simpa using e
   lia
  have hd:=q (by lia);by_cases n:1+d > 1
  ·simp only[if_pos n];show aKd f N ((if f (p.getD 0 0) (p.getD (1+d - 1) 0)=true then KasT.ret (1+d,p) else kas_descPart (1+d) N (kas_rev p 0 (1+d))).ev f);by_cases g:f (p.getD 0 0) (p.getD (1+d - 1) 0)=true
   ·simp only[if_pos g];exact⟨l,by show 1+d<=N;lia,L,A⟩
   ·simp only[if_neg g];have g:f (p.getD 0 0) (p.getD (1+d - 1) 0)=false:=by simpa using g
    have s:=λk=>tG (i:=0) (j:=1+d) (p:=p) (by lia) k;refine xH S ⟨L.rev,by lia,by lia,λi j h r=>?_,λi j a b c=>by lia⟩;rw[s i,s j,if_pos ⟨bAF _,by lia⟩];by_cases z:j=1+d
    ·subst z;rw[if_neg (by lia)];refine S.asym ?_;generalize B:0+(1+d) - 1 - i=k;by_cases y:k=1+d - 1
     ·rw[y];exact hd
     ·refine S.lt1 hd ?_;by_cases x:k=0
      ·rw[x];exact g
      ·exact S.tr g (A 0 k (by lia) (by lia))
    ·rw[if_pos ⟨bAF _,by lia⟩];exact A _ _ (by lia) (by lia)
  ·have z:d=0:=by lia
   subst z;simp only[if_neg n];refine xH S ⟨L,by lia,by lia,λi j h r=>?_,λi j a b c=>by lia⟩;have z:j=1:=by lia
   have y:i=0:=by lia
   subst z y;exact S.asym hd
theorem zZ (S:Swo f)(A:Asc f p k):∀fu l r,l<=r->r<=k->r - l<=fu->(∀i,i<l->f (p.getD k 0) (p.getD i 0)=false)->(∀i,r<=i->i<k->f (p.getD k 0) (p.getD i 0)=true) ->
  (kas_place p k fu l r).ev f<=k/\(∀i,i<(kas_place p k fu l r).ev f->f (p.getD k 0) (p.getD i 0)=false)/\∀i,(kas_place p k fu l r).ev f<=i->i<k->f (p.getD k 0) (p.getD i 0)=true
 |0,l,r,j,d,h3,a,b=>by
  have z:l=r:=by lia
  subst z;exact⟨d,a,b⟩
 |fu+1,l,r,j,d,h3,a,b=>by
  unfold kas_place;by_cases e:l ≥ r
  ·have z:l=r:=by lia
   subst z;simp only[if_pos e];exact⟨d,a,b⟩
  ·simp only[if_neg e];by_cases c:f (p.getD k 0) (p.getD ((l+r) / 2) 0)=true
   ·have n:∀i,(l+r) / 2<=i->i<k->f (p.getD k 0) (p.getD i 0)=true:=λi j d=>by
     by_cases z:i=(l+r) / 2
     ·subst z;exact c
     ·exact S.lt1 c (A _ i (by lia) d)
    have:=zZ S A fu l ((l+r) / 2) (by lia) (by lia) (by lia) a n;simpa only [KasT.ev,if_pos c] using this
   ·have g:f (p.getD k 0) (p.getD ((l+r) / 2) 0)=false:=by simpa using c
    have m:∀i,i<(l+r) / 2+1->f (p.getD k 0) (p.getD i 0)=false:=λi h=>by
     by_cases z:i=(l+r) / 2
     ·subst z;exact g
     ·exact S.tr (A i _ (by lia) (by lia)) g
    have:=zZ S A fu ((l+r) / 2+1) r (by lia) d (by lia) m b;simpa only [KasT.ev,if_neg c] using this
theorem aSr (S:Swo f){N:Nat}:∀(fu:Nat) (p:Array Nat) (k:Nat),Ld N p->Asc f p k->1<=k->k+fu=N->Ld N ((kas_bin fu p k).ev f)/\Asc f ((kas_bin fu p k).ev f) N
 |0,p,k,L,A,_,e=>by
  have z:k=N:=by lia
  subst z;exact⟨L,A⟩
 |fu+1,p,k,L,A,h1,e=>by
  unfold kas_bin;rw[qJ];obtain⟨r,q,c⟩:=zZ S A k 0 k (bAF _) (j0 _) (by lia) (λi h=>by lia) (λi h u=>by lia);generalize (kas_place p k k 0 k).ev f=l at r q c;have s:k<p.size:=by rw[L.sz];lia
  have a:=λx=>bA3 (p:=p) (k:=k) (d:=k - l) s (by lia) x;have t:k - (k - l)=l:=by lia
  rw[t] at a;refine aSr S fu _ (k+1) ⟨by rw[bubble_size];exact L.sz,(bubble_perm _ _ _).trans L.pm⟩ (λi j b v=>?_) (by lia) (by lia);rw[a i,a j];by_cases n:i=l
  ·rw[if_pos n,if_neg (by lia),if_pos (by lia)];exact S.asym (c _ (by lia) (by lia))
  ·rw[if_neg n];by_cases o:l<i/\i<=k
   ·rw[if_pos o,if_neg (by lia),if_pos (by lia)];exact A _ _ (by lia) (by lia)
   ·rw[if_neg o];by_cases g:j=l
    ·rw[if_pos g];exact q i (by lia)
    ·rw[if_neg g];by_cases m:l<j/\j<=k
     ·rw[if_pos m];exact A _ _ (by lia) (by lia)
     ·rw[if_neg m];exact A _ _ b (by lia)
def aWp (S:Swo f){N:Nat}(c:1<=N):Ld N ((kas_sort N).ev f)/\Asc f ((kas_sort N).ev f) N:=by
 unfold kas_sort;rw[qJ];have R:=aUs S c ⟨by simp,.refl _⟩;generalize (kas_count N (List.range N).toArray).ev f=r at R;obtain⟨a,b,L,A⟩:=R;by_cases e:r.1<N
 ·simp only[if_pos e];have z:max r.1 1=r.1:=by lia
  rw[z];exact aSr S _ _ _ L A a (by lia)
 ·simp only[if_neg e];have z:r.1=N:=by lia
  rw[z] at A;exact⟨L,A⟩
def aSx {α:Type}{n:Nat}{P:α->Prop}{t:KasT α}(h:t.Low n P){f g:Nat->Nat->Bool}(e:∀i j,i<n->j<n->f i j=g i j):t.ev f=t.ev g:=by
 induction h with
 |ret h=>rfl
 |@ask i j k a b _ ih=>show (k (f i j)).ev f=(k (g i j)).ev g;rw[e i j a b];exact ih (g i j)
def aMf {n:Nat}{f g:Nat->Nat->Bool}(e:∀i j,i<n->j<n->f i j=g i j):dY n f=dY n g:=by
 unfold dY;by_cases h:n<2
 ·rw[if_pos h,if_pos h]
 ·rw[if_neg h,if_neg h,aSx (tO (by lia)) e]
def aJy (S:Swo f):(dY n f).Perm (List.range n)/\(dY n f).Pairwise λi j=>f j i=false:=by
 unfold dY;by_cases h:n<2
 ·rw[if_pos h];refine⟨.refl _,?_⟩
  match n,h with
  |0,_=>exact .nil
  |1,_=>exact List.pairwise_singleton _ _
 ·rw[if_neg h];obtain⟨L,A⟩:=aWp S (show 1<=n by lia);generalize (kas_sort n).ev f=p at L A;refine⟨?_,List.pairwise_iff_getElem.mpr λi j e d c=>?_⟩
  ·have:=Array.perm_iff_toList_perm.mp L.pm;simpa using this
  ·have b:i<p.size:=by simpa using e
   have a:j<p.size:=by simpa using d
   have:=A i j c (by rw[<-L.sz];exact a);rw[v8,v8,j6 b,j6 a] at this;simpa using this
end PySem.W.N4
namespace PySem.W
open PySem PySem.Calls PyProof.Rows
def aA6 (l:List Value)(h:TriplesOk l)(d:codeAmong pos (l++[rawInt a,rawInt b,c])=some cv):codeAmong pos l=some cv\/cv=c:=by
 fun_induction TriplesOk l with
 |case1=>
  simp only[bEO,codeAmong,rawInt] at d
  split at d
  ·exact .inr (bAH d).symm
  ·cases d
 |case2 a' t b' u x rest ih=>
  simp only[List.cons_append,codeAmong] at d ⊢
  split at d
  ·rename_i e;rw[if_pos e];exact .inl d
  ·rename_i e;rw[if_neg e];exact ih h d
 |case3 l h1 h2=>exact h.elim
end PySem.W
namespace L2
open PySem PySem.Spec PyProof.Rows
def BM (mg:bGC)(base:Heap):Prop:=∃bm ob,mg "__builtins__"=some (.ref bm)/\bm≠builtinsNs/\base.get? bm=some ob/\ob.cls=.type "module"/\ob.dict=some builtinsNs/\ob.data=.plain
def ExO (a:Addr)(o:Obj):HO:=.ext λh=>h.get? a=some o
def bAu (e:h.get? a=some o):cV P w H h a (ExO a o):=⟨e,⟨o,e⟩,λ_ _ b k=>k o b⟩
def bEz (g x y:Str)(p0 p1 p2 p3:Pos):Expr:=.Call (.Name g p0) [.Name x p1,.Name y p2] [] p3
structure bBv (qual g x y:Str)(params:Arguments)(bd:Expr)(scope:Scope):Prop where
 body:∃p0 p1 p2 p3,bd=bEz g x y p0 p1 p2 p3
 bind:∀(cp c':Addr) (pm ctv v:Value),bindArgs (PySem.W.kla_fn "<lambda>" qual params bd scope [(y,cp)] pm (.ref c') ctv) ⟨[v],[]⟩=pure [(x,v)]
 co:scope.isCoroutine=false
 gen:scope.isGenerator=false
 kind:scope.kind=.function
 cell:∀z∈scope.names,z.2≠.cell
 hx:scope.names.lookup x=some .local
 hy:scope.names.lookup y=some .free
 hg:scope.names.lookup g=some .globalImplicit
 dx:(x == ("__debug__":Str))=false
 dy:(y == ("__debug__":Str))=false
 dg:(g == ("__debug__":Str))=false
 cy:(y == ("__classdict__":Str))=false
 xy:(y == x)=false
def uT (H:Hp)(f:Addr)(qual g x y:Str)(v:V):Prop:=∃params body scope cp c' pm ctv oc ol u vs t,
 bBv qual g x y params body scope/\H f=some (ExO f (PySem.W.kla_obj "<lambda>" qual params body scope [(y,cp)] pm c' ctv))/\H cp=some (ExO cp ol)/\(∀h:Heap,h.get? cp=some ol->h.IsCell cp (some u))/\RelV v u/\H c'=some (ExO c' oc)/\oc.data=.fields vs/\vs[1]?=some (.str qual t)
def uT.same (L:uT H f qual g x y v)(s:Same H H'):uT H' f qual g x y v:=by obtain⟨j,h,k,m,b,e,a,c,q,u,i,t,S,r,n,w,d,p,l,o⟩:=L;exact⟨j,h,k,m,b,e,a,c,q,u,i,t,S,s _ _ r,s _ _ n,w,d,s _ _ p,l,o⟩
section
def aX3 {bGD:bGB}{σ:St}{H:Hp}{s:Shared}{Q:VK}{f ga:Addr}{qual g x y:Str}{v a:V}{E:Value}{k:Nat}{fd:FuncData}{ps:List Str}{sp:Sp}
  (L:uT H f qual g x y v) (hr:Room (k+1) X.A) (hm:X.mg g=some (.ref ga)) (hk:PySem.W.keepIn X.K (.ref ga)=true) (hb:Binds X.K fd ps []) (F:eX X.prog X.w X.K X.mg X.base CX0 k ga fd ps sp)
  (I:Inv X bGD σ H s) (r:RelV a E) (h:sp [a,v] H Q E0):wpAny (model X.prog X.w) X.A (call (.ref f) [E]) (EP X bGD σ Q) X.xe s:=by
 obtain⟨pa,bo,sc,O,T,pm,a0,oc,ol,u,vs,t,S,h1,h2,h3,h4,h5,h6,h7⟩:=L;have e1:s.heap.get? f=some _:=(I.hok f _ h1).1;have e2:s.heap.get? O=some ol:=(I.hok O _ h2).1;have e5:s.heap.get? T=some oc:=(I.hok T _ h5).1;refine bCT (PySem.W.kla_callFunE hr.depth e1 rfl S.co S.gen rfl ⟨T,oc,vs,t,rfl,e5,h6,h7⟩ ?_);rw[S.bind];refine d8 (wpAny_newFunctionEnv S.cell (λz hz=>?_) (λB G C=>⟨I.nolimit.fresh _ C,?_⟩) S.kind)
 ·have e:z=(x,E):=by simpa using hz
  rw[e];exact S.hx
 have d:∀b o,s.heap.get? b=some o->B.get? b=some o:=λb o e=>C.extBut b o (v7 (m9 e)) (d7 _ e);have U:s.heap.objs.size<=B.objs.size:=by have:=C.1;rw[bBP] at this;lia
 refine PySem.W.kla_codeExpr ?_;obtain⟨p0,p1,p2,p3,rfl⟩:=S.body;have hG:B.Ns mainGlobals X.mg:=(I.mod.glob.keeps I.bk).keeps d;refine bBI (bEA S.kind S.hg (Calls.loadGlobal_global hG hm ?_) S.dg);refine PySem.W.callWith_K (h₀:=X.base) I.ok.mod.kin hk (bCC (wpAny_Name (wpAny_loadName_local S.kind S.hx G (v:=E) (by simp) ?_) S.dx)) rfl rfl;refine bCC (wpAny_Name (wpAny_loadName_free S.kind S.hy (c:=O) (by simp[newEnv,PySem.W.kla_fn]) (v:=u) (h3 B (d _ _ e2)) ?_ S.cy) S.dy);have N:X.K.In B:=I.kIn.keeps d;refine bEW ⟨N,?_⟩;generalize j:newEnv _ s.heap.objs.size _ _ _ _ _ _ _=env;have p:env.frame=some s.heap.objs.size:=by rw[<-j];rfl
 have Z:env.scope.kind≠.module:=by rw[<-j];show sc.kind≠_;rw[S.kind];decide
 have m:X.base.get? s.heap.objs.size=none:=bDZ (bAE I.ok.bsz I.sz);have i:H s.heap.objs.size=none:=I.hok.fresh (j0 _);have E1:aFl X.prog X.w X.K X.mg X.base (X.A.deeper env) (env::X.stack) { s with heap:=B,toks:=s.toks+1 } H:=by
  refine⟨Around.frames_deeper I.ok.frames,I.ok.mod,λb o e=>⟨d _ _ (I.bs b o e).1,(I.bs b o e).2⟩,bAE (bAE I.ok.bsz I.sz) U,.cons Z p G m ?_,?_,I.hok.kept d,I.bare⟩
  ·exact I.stack.of_keeps λb o e _=>⟨o,d _ _ e,rfl⟩
  ·intro b hb;unfold frs at hb;rw[bCL,p] at hb;rcases List.mem_cons.mp hb with e|hb
   ·rw[e];exact i
   ·exact I.qK b hb
 have r2:Vals [a,v] [E,u]:=.cons r (.cons h4 .nil);have hl:([E,u]++([]:List Value)).length=ps.length:=by rw[bBU,<-r2.length];exact F.len _ _ _ _ h
 refine bCT (bCI (F.run (X.A.deeper env) (env::X.stack) _ H ⟨[E,u],[]⟩ [E,u] [a,v] Q E0 (hr.deeper env) E1 (by simpa using hb { s with heap:=B,toks:=s.toks+1 } [E,u] N hl) r2 h) λrr s' M=>?_);cases rr with
 |error e=>exact M.elim
 |ok fl=>
  cases fl with
  |next=>exact False.elim M
  |brk=>exact False.elim M
  |cont=>exact False.elim M
  |ret uu=>
   obtain⟨v',H',os,J,l,R,P,q⟩:=M;refine I.after (Q:=Q) (u:=uu) (s':=s') ⟨v',H',os,J,?_,R,P,q⟩;have Y:∀b o,s.heap.get? b=some o->b≠s.heap.objs.size:=λb o e=>v7 (m9 e);have fe:frs (env::X.stack)=s.heap.objs.size::frs X.stack:=by unfold frs;rw[bCL,p]
   rw[fe] at l;exact⟨λb o e n hb D=>l.keep b o (d b o e) n (λz=>(List.mem_cons.mp z).elim (Y b o e) hb) D,λb o e n hb D=>l.slot b o (d b o e) n (j5 _ hb) D,λb o e n D=>l.free b o (d b o e) n D,λb o e D=>l.there b o (d b o e) D,l.tups,l.frzs,l.tbls⟩
def aR3 (P:Program)(w:World)(K:bF9)(mg:bGC)(base:Heap)(k:Nat)(te:TE)(t:TA):TE:=fun σ H Q=>te σ H λv H1=>∃f qual g x y z ps sp,v=.ref f/\uT H1 f qual g x y z/\Ok P w K mg base k g ps sp /\
 t σ H1 λvs H2=>∃a,vs=[a]/\uT H2 f qual g x y z/\sp [a,z] H2 Q E0
def aSb {n:Str}{p pos:Pos}{e:Expr}{es:List Expr}{te:TE}{t:TA}{k:Nat}(hr:Room (k+1) X.A)(hf:PE X (.Name n p) te)(ha:PA X (e::es) t)
  (he:starEach (e::es) X.env=(false,eval e X.env)::starEach es X.env:=by rfl) (a0:(backTo pos (starEach es X.env)).any (·.1)=false:=by rfl) :
  PE X (.Call (.Name n p) (e::es) [] pos) (aR3 X.prog X.w X.K X.mg X.base k te t):=by
 intro d s σ H Q I h;refine bBI (thn (hf d s σ H _ I h) λu U ⟨v,M,I1,J,T⟩=>?_);obtain⟨f,c,g,x,y,z,ps,sp,rfl,L,G,q⟩:=T;obtain rfl:u=Value.ref f:=J;obtain⟨ga,fd,O,hk,Z,F⟩:=G;have D:=ha pos d U σ M _ I1 q;rw[he] at D ⊢;refine PySem.W.callWith_of (P:=λh=>∃j m o B i l b,h.get? f=some (PySem.W.kla_obj "<lambda>" c j m o B i l b)) (by show ((false || (backTo pos (starEach es X.env)).any (·.1)) || false)=false;rw[a0];rfl) (λh ⟨j,m,o,B,i,l,b,eh⟩=>⟨.frame,.inl rfl,(PySem.W.Looks.ld (part:=none) eh).andThen .now⟩) (bFP (thn D λus s2 ⟨V,H2,E,r,Y⟩=>?_));obtain⟨a,rfl,C,R⟩:=Y;cases r with
 |cons r rn=>cases rn;refine⟨?_,aX3 C hr O hk Z F E r R⟩;obtain⟨j,m,o,cp,l,i,b,oc,ol,u,V,t,S,N,_⟩:=C;exact⟨j,m,o,_,i,l,b,(E.hok f _ N).1⟩
def aQt
  (I:Inv X bGD σ H s) (p:X.env.code=.ref c) (CH:PySem.W.CodeHd X.base c P) (i:H P=some (.tab (X.env.qual++"<lambda>"))) (a9:BM X.mg X.base) (T:closureFor scope X.env=pure clos) (a7:defaultsOf params X.env=([],[]))
  (q:∀f c' pm ctv H' h' tk,Inv X bGD σ H' { s with heap:=h',toks:=tk }->Same H H'->s.heap.objs.size<=f->H' f=none->H' c'=some (.own P)->H' P=some (.tab (X.env.qual++"<lambda>"))->h'.get? f=some (PySem.W.kla_obj "<lambda>" (X.env.qual++"<lambda>") params body scope clos pm c' ctv)->h'.CodeRec (.ref c') (X.env.qual++"<lambda>")->Q (.ref f) { s with heap:=h',toks:=tk }) :
  wpAny (model X.prog X.w) X.A (eval (.Lambda params body scope pos) X.env) Q E s:=by
 obtain⟨ps,hp,O,g⟩:=I.hok P _ i;have hg:=I.mod.glob.keeps I.bk;obtain⟨L,ob,b1,b2,M,b4,b5,Z⟩:=a9;have bG:L≠mainGlobals:=λz=>by obtain⟨o,es,ep,e,d,_⟩:=I.mod.glob;rw[z,e] at M;cases M;rw[d] at Z;cases Z
 have bP:L≠P:=λz=>by have:=(I.bs L ob M).2;rw[z,i] at this;cases this
 have gP:mainGlobals≠P:=λz=>by obtain⟨o,es,ep,e,d,_⟩:=I.mod.glob;have:=(I.bs _ o e).2;rw[z,i] at this;cases this
 have hB:s.heap.BuiltinsAt X.mg P:=⟨L,ob,b1,b2,bG,bP,I.bk _ _ M,b4,b5,Z⟩;refine PySem.W.kla_eval a7 ?_;cases x:codeAmong pos ps.toList with
 |some cv=>obtain⟨c',G,R,t,rfl,F,U,S,V⟩:=g pos cv x;refine PySem.W.kla_makeFunctionHit T I.ok.glob hg p (CH.keeps I.bk) hp O x hB λctv h' tk hk D=>?_;exact q _ c' _ ctv H _ tk (I.kept (t':=tk) λb o e=>d7 _ (hk b o e)) (λ_ _ e=>e) D (I.hok.fresh D) F i (j8 _ rfl) ⟨c',G,R,t,rfl,d7 _ (hk _ _ U),S,V⟩
 |none=>
  refine PySem.W.kla_makeFunction T I.ok.glob hg p (CH.keeps I.bk) hp O x gP hB λc' ctv h' tk hx h j J K=>?_;obtain⟨c2,G,R,t,e2,l,hd,hv⟩:=J;cases e2;have nc:=I.hok.fresh h;have a8:∀b u,b≠P->H b=some u->∀o,s.heap.get? b=some o->(h'.push (PySem.W.kla_obj "<lambda>" (X.env.qual++"<lambda>") params body scope clos ((X.mg "__name__").getD .none) c' ctv)).get? b=some o:=λb u hb _ o e=>d7 _ (hx b o hb e);have B:∀b o,b≠P->s.heap.get? b=some o->(h'.push (PySem.W.kla_obj "<lambda>" (X.env.qual++"<lambda>") params body scope clos ((X.mg "__name__").getD .none) c' ctv)).get? b=some o:=λb o hb e=>d7 _ (hx b o hb e);have k:∀b,H b=none->b≠P:=λb e z=>by rw[z,i] at e;cases e
  have a:∀{b u},H b=some u->upd H c' (.own P) b=some u:=λ{b u} e=>by rw[aM (aW e nc)];exact e
  refine q _ c' _ ctv (upd H c' (.own P)) _ tk (I.step (g':=s.gens) (d':=s.drawn) (ch:=[]) (λ_ z=>nomatch z) (λb o _ _ _ e n=>B b o (k b n) e) (λb o _ _ _ e n=>⟨o.slots,B b o (k b n) e⟩) (λb o _ e n=>?_) (λb o _ e=>?_)
   (λb xs e=>a e) (λb o u e=>a e) (λb qs e=>⟨#[],by rw[a e];simp⟩) (λm hm=>?_) (λb u e=>?_) I.bare) (λb o e=>a e) (bDJ (bCD h j)) (by rw[aM (bCP j)];exact I.hok.fresh (bDJ (bCD h j))) aG (a i) (j8 _ rfl) ⟨c',G,R,t,rfl,d7 _ l,hd,hv⟩
  ·rw[aM (v7 (bAA (m9 e) h))];exact n
  ·by_cases z:b=P
   ·subst z;exact⟨_,d7 _ K⟩
   ·exact⟨o,B b o z e⟩
  ·obtain⟨o,es,ep,e,r⟩:=hm;exact⟨o,es,ep,B _ o (k _ I.free) e,r⟩
  ·by_cases z:b=c'
   ·subst z;rw[aG] at e;cases e;exact⟨G,d7 _ l⟩
   ·rw[aM z] at e;by_cases y:b=P
    ·subst y;rw[i] at e;cases e;refine⟨_,d7 _ K,by rw[bDD];exact TriplesOk_snoc _ _ _ _ O,λC a0 N=>?_⟩;rw[bDD] at N;rcases PySem.W.aA6 _ O N with N|rfl
     ·obtain⟨c2,Y,a1,t2,rfl,F,U,S,V⟩:=g C a0 N;exact⟨c2,Y,a1,t2,rfl,a F,B _ _ (λz=>by rw[z,i] at F;cases F) U,S,V⟩
     ·exact⟨c',G,R,t,rfl,aG,d7 _ l,hd,hv⟩
    ·refine (I.hok b u e).stay (λd v a6 r=>B d v ?_ r) (λd r=>a r) λd xs r=>a r;rcases a6 with rfl|r'
     ·exact y
     ·intro z;rw[z,i] at r';cases r'
open Classical in
noncomputable def aCi (S:Addr->Prop) (h:Heap) (H:Hp):Hp:=λb=>if S b then (h.get? b).map (ExO b) else H b
open Classical in
noncomputable def aDt (S:Addr->Prop) (H Z:Hp):Hp:=λb=>if S b then H b else Z b
def nR (a:S b)(e:h.get? b=some o):aCi S h H b=some (ExO b o):=by unfold aCi;rw[if_pos a,e];rfl
def dH (a:¬ S b):aCi S h H b=H b:=by unfold aCi;rw[if_neg a]
def aBb (a:S b):aDt S H Z b=H b:=by unfold aDt;rw[if_pos a]
def gA (a:¬ S b):aDt S H Z b=Z b:=by unfold aDt;rw[if_neg a]
structure aB2 (X:Cx)(H:Hp)(h:Heap)(S:Addr->Prop):Prop where
 there:∀b,S b->∃o,h.get? b=some o
 own:∀d a o,¬ S a->H a=some o->H d=some (.own a)->¬ S d
 own2:∀d a o,S a->H a=some o->(∃e,o=.own e)\/(H d=some (.own a)->S d)
 tup:∀d xs,H d=some (.tup xs)->¬ S d
 frz:∀d o u,H d=some (.frz o u)->¬ S d
 tbl:∀d ps,H d=some (.tbl ps)->¬ S d
 base:∀b o,X.base.get? b=some o->¬ S b
 frs:∀b∈frs X.stack,¬ S b
def aB2.hok (p:aB2 X H s.heap S)(I:Inv X bGD σ H s):HOk X.prog X.w (aCi S s.heap H) s.heap:=by
 intro b o e;by_cases a:S b
 ·obtain⟨g,c⟩:=p.there b a;rw[nR a c] at e;cases e;exact bAu c
 ·rw[dH a] at e;refine (I.hok b o e).stay (λ_ _ _ q=>q) (λd q=>?_) λd f q=>?_
  ·rw[dH (p.own d b o a e q)];exact q
  ·rw[dH (p.tup d f q)];exact q
def aB2.env0 (p:aB2 X H s.heap S)(I:Inv X bGD σ H s):aFl X.prog X.w X.K X.mg X.base X.A X.stack s (aCi S s.heap H):=
 ⟨I.ok.frames,I.ok.mod,λb o e=>⟨(I.bs b o e).1,by rw[dH (p.base b o e)];exact (I.bs b o e).2⟩,bAE I.ok.bsz I.sz,I.stack,λb a=>by rw[dH (p.frs b a)];exact I.qK b a,p.hok I,I.bare⟩
def aB2.after (p:aB2 X H s.heap S)(I:Inv X bGD σ H s)(h:CE X.stack X.prog X.w (aCi S s.heap H) s (λv Z=>Same (aCi S s.heap H) Z/\∀H4,Same H H4->Q v H4) u s'):EP X bGD σ Q u s':=by
 obtain⟨v,Z,F,y,j,l,C,A,q⟩:=h;have r:∀b o,S b->s.heap.get? b=some o->s'.heap.get? b=some o:=λb o g e=>(l b _ (A _ _ (nR g e))).1;have f:Same H (aDt S H Z):=λb o e=>by
  by_cases g:S b
  ·rw[aBb g];exact e
  ·rw[gA g];exact A _ _ (by rw[dH g];exact e)
 refine I.after ⟨v,aDt S H Z,F,y,⟨λb o e n g m=>?_,λb o e n g m=>?_,λb o e n m=>?_,j.there,λb t e=>?_,λb o u e=>?_,λb B e=>?_⟩,λb o e=>?_,C,q _ f⟩
 ·by_cases a:S b
  ·exact r b o a e
  ·exact j.keep b o e (by rw[dH a];exact n) g m
 ·exact j.slot b o e (by rw[dH (p.frs b g)];exact n) g m
 ·by_cases a:S b
  ·rw[aBb a];exact n
  ·rw[gA a];exact j.free b o e (by rw[dH a];exact n) m
 ·rw[gA (p.tup b t e)];exact j.tups b t (by rw[dH (p.tup b t e)];exact e)
 ·rw[gA (p.frz b o u e)];exact j.frzs b o u (by rw[dH (p.frz b o u e)];exact e)
 ·rw[gA (p.tbl b B e)];exact j.tbls b B (by rw[dH (p.tbl b B e)];exact e)
 ·by_cases a:S b
  ·rw[aBb a] at e;rcases p.own2 b b o a e with⟨x,rfl⟩|_
   ·obtain⟨i,k⟩:=p.there b a;exact⟨i,r b i a k⟩
   ·by_cases D:∃x,o=.own x
    ·obtain⟨x,rfl⟩:=D;obtain⟨i,k⟩:=p.there b a;exact⟨i,r b i a k⟩
    ·refine (I.hok b o e).stay (λc u hc E=>?_) (λd q=>f _ _ q) λd t q=>f _ _ q;rcases hc with rfl|hc
     ·exact r _ _ a E
     ·rcases p.own2 c b o a e with z|z
      ·exact absurd z D
      ·exact r _ _ (z hc) E
  ·rw[gA a] at e;refine (l b o e).stay (λ_ _ _ q=>q) (λd q=>?_) λd t q=>?_
   ·by_cases hd:S d
    ·obtain⟨i,k⟩:=p.there d hd;rw[A _ _ (nR hd k)] at q;cases q
    ·rw[gA hd];exact q
   ·by_cases hd:S d
    ·obtain⟨i,k⟩:=p.there d hd;rw[A _ _ (nR hd k)] at q;cases q
    ·rw[gA hd];exact q
end
def aSt (X:Cx)(iy:Nat)(P:Addr)(g x y:Str)(sp:Sp)(t:TA):TE:=fun σ H Q=>t σ H λvs H1=>∃z,σ[iy]?=some (some z)/\H1 P=some (.tab (X.env.qual++"<lambda>")) /\
 ∀f H2,uT H2 f (X.env.qual++"<lambda>") g x y z->(∀a xs,SqT X.K H1 a xs->SqT X.K H2 a xs)->sp (vs++[.ref f]) H2 (λr H3=>Same H2 H3/\∀H4,Same H1 H4->Q r H4) E0
def aLl
  (F:eX X.prog X.w X.K X.mg X.base CX0 k fa fd ps sp) (hr:Room k X.A) (aj:Gl X fn) (hm:X.mg fn=some (.ref fa)) (hk:PySem.W.keepIn X.K (.ref fa)=true) (hb:Binds X.K fd ps [])
  (h1:PE X e1 te1) (h2:PE X e2 te2) (h3:PE X e3 te3)
  (aa:X.env.code=.ref c) (CH:PySem.W.CodeHd X.base c P) (al:BM X.mg X.base) (S:bBv (X.env.qual++"<lambda>") g x y params body scope) (hN:X.N[iy]?=some y) (a4:X.env.kindOf y=some .cell) (D:X.env.cells.lookup y=some cp) (af:X.fn y=true) (ah:closureFor scope X.env=pure [(y,cp)]) (ag:defaultsOf params X.env=([],[]))
  (ak:(fn == ("__debug__":Str))=false:=by decide)
  (a7:starEach [e1,e2,e3,.Lambda params body scope lpos] X.env=[(false,eval e1 X.env),(false,eval e2 X.env),(false,eval e3 X.env),(false,eval (.Lambda params body scope lpos) X.env)]:=by rfl)
  (ac:starEach [e2,e3,.Lambda params body scope lpos] X.env=[(false,eval e2 X.env),(false,eval e3 X.env),(false,eval (.Lambda params body scope lpos) X.env)]:=by rfl) :
  PE X (.Call (.Name fn p) [e1,e2,e3,.Lambda params body scope lpos] [] pos) (aSt X iy P g x y sp (dN te1 (dN te2 (dN te3 qO)))):=by
 intro L s σ H Q I h;refine bBI (lD I aj hm ?_ ak);refine PySem.W.callWith_K I.ok.mod.kin hk ?_ (by rw[a7,ac]) (by rw[ac];rfl);rw[a7];refine bCC (thn (h1 L s σ H _ I h) λU s1 ⟨v1,H1,I1,r1,q1⟩=>?_);refine bCC (thn (h2 L s1 σ H1 _ I1 q1) λV s2 ⟨v2,H2,I2,r2,q2⟩=>?_);refine bCC (thn (h3 L s2 σ H2 _ I2 q2) λR s3 ⟨v3,H3,I3,r3,q3⟩=>?_);obtain⟨z,hz,hP,q⟩:=q3;refine bCC (aQt I3 aa CH hP al ah ag λf c' pm ab M h' tk v s4 E hf ae l ef Y=>bEW ⟨v.kIn,?_⟩);generalize ad:({ s3 with heap:=h',toks:=tk }:Shared)=s4' at v;have hh:s4'.heap=h':=by rw[<-ad]
 rw[<-hh] at ef Y;obtain⟨m,hn,hl⟩:=v.loc;obtain⟨u,ru,lk⟩:=hl iy y z hN hz (.inr (.inl a4));have J:s4'.heap.IsCell cp (some u):=by
  rcases lk with⟨k',_⟩|⟨_,c2,e,hc⟩
  ·rw[a4] at k';cases k'
  ·rw[D] at e;cases e;exact hc
 obtain⟨ol,G,T⟩:=id J;obtain⟨c2,oc,vs,t,a3,a5,a8,hv⟩:=Y;cases a3;have j:=v.freeC y cp D;obtain⟨v0,ov,a2,_⟩:=I3.cell y cp D;have ai:=bAA (m9 a2) E;have PO:aB2 X M s4'.heap (λb=>b=f\/b=cp\/b=P\/M b=some (.own P)):=by
  refine⟨λb hb=>?_,λd a o ha n B hd=>?_,λd a o ha n=>?_,λd xs e hd=>?_,λd o u e hd=>?_,λd ps e hd=>?_,λb o e hd=>?_,λb hb hd=>?_⟩
  ·rcases hb with rfl|rfl|rfl|hb
   ·exact⟨_,ef⟩
   ·exact⟨_,G⟩
   ·obtain⟨ps,e,_⟩:=v.hok _ _ l;exact⟨_,e⟩
   ·exact v.hok _ _ hb
  ·rcases hd with rfl|rfl|rfl|hd
   ·rw[hf] at B;cases B
   ·rw[j] at B;cases B
   ·rw[l] at B;cases B
   ·rw[hd] at B;cases B;exact ha (.inr (.inr (.inl rfl)))
  ·rcases ha with rfl|rfl|rfl|ha
   ·rw[hf] at n;cases n
   ·rw[j] at n;cases n
   ·exact .inr λq=>.inr (.inr (.inr q))
   ·rw[ha] at n;cases n;exact .inl ⟨_,rfl⟩
  ·rcases hd with rfl|rfl|rfl|hd
   ·rw[hf] at e;cases e
   ·rw[j] at e;cases e
   ·rw[l] at e;cases e
   ·rw[hd] at e;cases e
  ·rcases hd with rfl|rfl|rfl|hd
   ·rw[hf] at e;cases e
   ·rw[j] at e;cases e
   ·rw[l] at e;cases e
   ·rw[hd] at e;cases e
  ·rcases hd with rfl|rfl|rfl|hd
   ·rw[hf] at e;cases e
   ·rw[j] at e;cases e
   ·rw[l] at e;cases e
   ·rw[hd] at e;cases e
  ·have i:=(v.bs b o e).2;have O:=bAA (m9 e) I.ok.bsz;rcases hd with rfl|rfl|rfl|hd
   ·exact absurd (bAA O (bAE I3.sz E)) (bBQ _)
   ·exact absurd (bAA O (I.ok.cab y _ af D)) (bBQ _)
   ·rw[l] at i;cases i
   ·rw[hd] at i;cases i
  ·have i:=v.qK b hb;rcases hd with rfl|rfl|rfl|hd
   ·obtain⟨_,o,n,_⟩:=I3.stack.mem hb;exact absurd (bAA (m9 n) E) (bBQ _)
   ·rcases List.mem_cons.mp (v.aEy _ hb) with e|hb'
    ·obtain⟨o,es,ep,n,B,_⟩:=hn;rw[<-e,G] at n;cases n;rw[T] at B;cases B
    ·obtain⟨_,o,n,_⟩:=I.ok.funs.mem hb';exact absurd (bAA (m9 n) (I.ok.cab y _ af D)) (bBQ _)
   ·rw[l] at i;cases i
   ·rw[hd] at i;cases i
 have LA:uT (aCi (λb=>b=f\/b=cp\/b=P\/M b=some (.own P)) s4'.heap M) f (X.env.qual++"<lambda>") g x y z:=
  ⟨params,body,scope,cp,c',pm,ab,oc,ol,u,vs,t,S,nR (.inl rfl) ef,nR (.inr (.inl rfl)) G,λh e=>⟨ol,e,T⟩,ru,nR (.inr (.inr (.inr ae))) a5,a8,hv⟩
 have hq:=q f _ LA λb xs e=>by
  rcases s4.bC e with (e|⟨ob,e⟩)|e
  ·exact .inl (.inl (by rw[dH (PO.tup b xs e)];exact e))
  ·exact .inl (.inr ⟨ob,by rw[dH (PO.frz b ob _ e)];exact e⟩)
  ·exact .inr e
 have r:Vals [v1,v2,v3,.ref f] [U,V,R,.ref f]:=.cons r1 (.cons r2 (.cons r3 (.cons rfl .nil)));have a0:([U,V,R,Value.ref f]++([]:List Value)).length=ps.length:=by rw[bBU,<-r.length];exact F.len _ _ _ _ hq
 refine bCT (bCI (F.run X.A X.stack s4' (aCi (λb=>b=f\/b=cp\/b=P\/M b=some (.own P)) s4'.heap M) ⟨[U,V,R,.ref f],[]⟩ [U,V,R,.ref f] [v1,v2,v3,.ref f] _ E0 hr (PO.env0 v) (by simpa using hb s4' [U,V,R,.ref f] v.kIn a0) r hq) λrr s' C=>?_);cases rr with
 |error e=>exact C.elim
 |ok fl=>
  cases fl with
  |next=>exact False.elim C
  |brk=>exact False.elim C
  |cont=>exact False.elim C
  |ret uu=>obtain⟨v',Z,os,a1,un,a9,a6,sm,qq⟩:=C;exact PO.after v ⟨v',Z,os,a1,un,a9,a6,sm,λH4 s5=>qq H4 (s4.trans s5)⟩
def aPl {n:Str}{p pos:Pos}{e:Expr}{es:List Expr}{te:TE}{t:TA}{P:Program}{w:World}{K:bF9}{mg:bGC}{base:Heap}{k:Nat}(h:Room (k+1) X.A)(f:VE X (.Name n p) te)(b:VA X (e::es) t)(c:cB e=true:=by rfl)(a:(backTo pos (starEach es X.env)).any (·.1)=false:=by rfl)
  (j:X.prog=P:=by rfl) (g:X.w=w:=by rfl) (l:X.K=K:=by rfl) (d:X.mg=mg:=by rfl) (i:X.base=base:=by rfl) :
  VE X (.Call (.Name n p) (e::es) [] pos) (aR3 P w K mg base k te t):=by
 subst j g l d i;exact⟨aSb h f.1 b.1 (aN c) a⟩
def aMc
  (G:Ok X.prog X.w X.K X.mg X.base k fn ps sp) (D:Room k X.A) (o:Gl X fn) (F:VE X e1 te1) (C:VE X e2 te2) (H:VE X e3 te3)
  (a:X.env.code=.ref c) (v:PySem.W.CodeHd X.base c P) (n:BM X.mg X.base) (S:bBv (X.env.qual++"<lambda>") g x y params body scope) (E:X.N[iy]?=some y) (t:X.env.kindOf y=some .cell) (f:X.env.cells.lookup y=some cp) (u:X.fn y=true) (q:closureFor scope X.env=pure [(y,cp)]) (e:defaultsOf params X.env=([],[]))
  (r:cB e1=true:=by rfl) (b:cB e2=true:=by rfl) (d:cB e3=true:=by rfl) (m:(fn == ("__debug__":Str))=false:=by decide)
  (j:starEach [.Lambda params body scope lpos] X.env=[(false,eval (.Lambda params body scope lpos) X.env)]:=by rfl) :
  VE X (.Call (.Name fn p) [e1,e2,e3,.Lambda params body scope lpos] [] pos) (aSt X iy P g x y sp (dN te1 (dN te2 (dN te3 qO)))):=by
 obtain⟨z,B,l,s,h,i⟩:=G;refine⟨aLl i D o l s h F.1 C.1 H.1 a v n S E t f u q e m ?_ ?_⟩
 ·rw[aN r,aN b,aN d,j]
 ·rw[aN b,aN d,j]
end L2
namespace HT
open PySem PySem.Spec PyProof.Rows L2
def qW {t B:Addr}{a:Array Value}{vl vu:Value}{lo hi:Option Int}{Q:bGA}(c:IsTup s.heap t a)(q:s.heap.IsSliceOf B vl vu .none)(pl:IsPart vl lo)(z:IsPart vu hi)
  (v:sIx a.size 0 lo=0/\sIx a.size a.size hi=a.size) (h:Q (.ref t) s):wpAny (model prog w) A (getItem (.ref t) (.ref B)) Q E s:=by
 obtain⟨u,f,e,o⟩:=id q;have i:s.TypeIs (.ref B) "slice":=⟨u,f,e⟩;obtain⟨⟨m,y,k,l⟩,p,j,n,hd⟩:=id c;simp only at j hd;subst j hd;unfold getItem
 try with_reducible refine bAP ?_
 first|refine b7 (d8 ?_)|skip
 refine b7 (wpAny_sequenceKey c.typeIs (by decide) ?_);refine b7 (bAK c.typeIs bCN
  (bAL bCN c.typeIs entry_tuple_getitem ?_ (args_tuple_getitem _ _)))
 show wpAny _ _ (Builtin.Tuple.tupleItemsOf (.ref t) >>= _) _ _ s;refine b7 (tupleItemsOf_ c ?_);refine b7 (bEX i ?_);rw[if_pos (by decide)];refine b7 (mJ q pl z ?_);have b:((((sIx a.size 0 lo:Nat):Int) == 0 && (1:Int) == 1 && (sIx a.size a.size hi - sIx a.size 0 lo) == a.size)=true):=by rw[v.1,v.2];simp
 show wpAny _ _ (if (((sIx a.size 0 lo:Nat):Int) == 0 && (1:Int) == 1 && (sIx a.size a.size hi - sIx a.size 0 lo) == a.size)=true then _ else _) _ _ s;rw[if_pos b];obtain⟨x,g,d,C,r⟩:=s;wp_walk using AutoSeq1.wpAny_loadPart' p;exact⟨_,rfl,d8 h⟩
end HT
namespace L2
open PySem PySem.Spec PyProof.Rows
def bCf (K:bF9):V->Option Int->Option Int->Hp->VK->Prop:=λx lo hi H Q=>∃a xs,x=.ref a/\SqT K H a xs/\∀p H',Same H H'->SqT K H' p (oJ xs lo hi)->Q (.ref p) H'
def nA:SlR X (bCf X.K):=by
 intro k s σ H x v y w i f u Q I l n t m h;obtain⟨a,b,rfl,g,q⟩:=h;by_cases d:HT.sIx b.length 0 i=0/\HT.sIx b.length b.length f=b.length
 ·cases l;obtain⟨j,r,o,C⟩:=I.tuple g;have c:j.toArray.size=b.length:=by rw[d9];exact r.length.symm
  refine⟨"tuple",_,PyProof.Rows.slot_tuple_getitem.lookup,o.typeIs,?_⟩;refine HT.qW o n t m (by rw[c];exact d) ⟨.ref a,H,I,rfl,q a H (Same.refl H) ?_⟩;have e:oJ b i f=b:=by unfold oJ;rw[d.1,d.2,List.drop_zero,Nat.sub_zero,bED]
  rw[e];exact g
 ·exact aGi k s σ H _ v y w i f u Q I l n t m ⟨a,b,rfl,g,d,λp z A B=>q p z A (SqT.of B)⟩
def aJg {κ:Type}[DecidableEq κ]{c:List (κ × Value)}(a:(c.map (·.1)).Nodup){k:κ}{v:Value}(h:(k,v)∈c):valueAt c k=some v:=by
 induction c with
 |nil=>cases h
 |cons x r ih=>
  rw[bAI,bFT] at a;unfold valueAt;rw[bCB];rcases List.mem_cons.mp h with e|h
  ·subst e;rw[v4 rfl];rfl
  ·have b:¬ x.1=k:=λz=>a.1 (by rw[z];exact List.mem_map.mpr ⟨_,h,rfl⟩);rw[v5 b];exact ih a.2 h
inductive PH (P:Program)(w:World):List DictEntry->List (Str × Value)->Prop
 |nil:PH P w [] []
 |cons {e:DictEntry} {kv:Str × Value} {es:List DictEntry} {kvs:List (Str × Value)}:(strKind P w).is kv.1 e.key=true->e.hash=(strKind P w).hash kv.1->e.val=kv.2->PH P w es kvs->PH P w (e::es) (kv::kvs)
end L2
namespace PySem
def yI:typeLookup (.type "tuple") "keys"=pure none:=am_miss_of_fast (by trivial)
def zW:typeLookup (.type "list") "keys"=pure none:=am_miss_of_fast (by trivial)
def sqN:Bool->String
 |true=>"list"
 |false=>"tuple"
def aG5 (v:s.heap.get? a=some o)(p:o.cls=.type "tuple")(i:o.data=.seq xs k)(hd:o.dict=none)(y:A.handled=none)
  (h:∀h' tk,(∀b u,s.heap.get? b=some u->h'.get? b=some u)->Q none { s with heap:=h',toks:=tk }):wpAny (model prog w) A (getAttr? (.ref a) "keys") Q E s:=by
 obtain⟨c,n,r,q⟩:=o;simp only at p i hd;subst p i hd;obtain⟨m,g,d,tk,t⟩:=s;have l:∀f,(⟨m,g,d,f,t⟩:Shared).TypeIs (.ref a) "tuple":=λ_=>⟨_,v,rfl⟩;have G:=sub_AttributeError;have x:=F.slot_tuple_getattribute.lookup;have H:=F.slot_tuple_getattribute.bind (.ref a);have B:=am_tuple_getattr_none;unfold getAttr? getAttrBy? getAttrBy
 repeat (any_goals (first|assumption|exact l _|((with_reducible show wpAny _ _ (call (Value.builtin "tuple.__getattribute__") _ _) _ _ _);refine call_meets F.slot_tuple_getattribute (l _) am_entry_tuple_getattribute (F.args_tuple_getattribute_2 _ _) (meets_getattribute_miss_tuple a xs k q "keys" _ yI (by trivial) (by size_fits)) ⟨v,y,λh' f e j=>?_⟩)|wp_step))
 obtain⟨C,z,D⟩:=j.there;unfold getattributeRaised
 repeat (any_goals (first|assumption|wp_step))
 exact h _ _ j.keeps
def aHk (v:s.heap.get? a=some o)(p:o.cls=.type "list")(i:o.data=.seq xs k)(hd:o.dict=none)(y:A.handled=none)
  (h:∀h' tk,(∀b u,s.heap.get? b=some u->h'.get? b=some u)->Q none { s with heap:=h',toks:=tk }):wpAny (model prog w) A (getAttr? (.ref a) "keys") Q E s:=by
 obtain⟨c,n,r,q⟩:=o;simp only at p i hd;subst p i hd;obtain⟨m,g,d,tk,t⟩:=s;have l:∀f,(⟨m,g,d,f,t⟩:Shared).TypeIs (.ref a) "list":=λ_=>⟨_,v,rfl⟩;have G:=sub_AttributeError;have x:=F.slot_list_getattribute.lookup;have H:=F.slot_list_getattribute.bind (.ref a);have B:=am_list_getattr_none;unfold getAttr? getAttrBy? getAttrBy
 repeat (any_goals (first|assumption|exact l _|((with_reducible show wpAny _ _ (call (Value.builtin "list.__getattribute__") _ _) _ _ _);refine call_meets F.slot_list_getattribute (l _) am_entry_list_getattribute (F.args_list_getattribute_2 _ _) (meets_getattribute_miss_list a xs k q "keys" _ zW (by trivial) (by size_fits)) ⟨v,y,λh' f e j=>?_⟩)|wp_step))
 obtain⟨C,z,D⟩:=j.there;unfold getattributeRaised
 repeat (any_goals (first|assumption|wp_step))
 exact h _ _ j.keeps
def aQm (f:s.heap.get? a=some o)(d:o.cls=.type (sqN L))(c:o.data=.seq xs k)(hd:o.dict=none)(e:A.handled=none)
  (h:∀h' tk,(∀b u,s.heap.get? b=some u->h'.get? b=some u)->Q none { s with heap:=h',toks:=tk }):wpAny (model prog w) A (getAttr? (.ref a) "keys") Q E s:=by
 cases L
 ·exact aG5 f d c hd e h
 ·exact aHk f d c hd e h
def gJ:entryFor table "dict.update.loop"=some Builtin.«dict.update.loop»:=entryFor_of_tree (by kernel_rfl)
def cQ:plainId "dict.update.loop"=true:=by trivial
section
variable {prog:Program}{w:World}{κ:Type}[DecidableEq κ]{knd:KeyKind prog w κ}
def rW (knd:KeyKind prog w κ)(h:Heap)(v:Value)(kv:κ × Value):Prop:=∃p key,v=.ref p/\PyProof.Rows.IsTup h p #[key,kv.2]/\knd.is kv.1 key=true
def rW.at (x:rW knd h v kv)(k:∀p,v=.ref p->∀o,h.get? p=some o->h'.get? p=some o):rW knd h' v kv:=by obtain⟨p,a,rfl,⟨o,c,r⟩,b⟩:=x;exact⟨p,a,rfl,⟨o,k p rfl o c,r⟩,b⟩
def xZ (W:Walks prog w A.in1 I fp wr n P St)(D:Addr)(hD:D∉fp)
  (a:List (κ × Value)) (a0:a.length=n) (hb:n<=1000) (hP:∀i v,P i v->∀p,v=.ref p->p∉D::wr) :
  ∀k i s t,i+k=n->St i s.heap->s.heap.DictOf knd D (merged [] (a.take i))->(∀j v kv,P j v->a[j]?=some kv->rW knd s.heap v kv) ->
   (∀h' tk,(∀b o,b∉D::wr->s.heap.get? b=some o->h'.get? b=some o)->h'.DictOf knd D (merged [] a)->R (.ok (.ret .none)) { s with heap:=h',toks:=tk }) ->
   codeAny (model prog w) A (.builtin "dict.update.loop" ⟨[.ref D,.ref I,.int (i:Nat) t,.none],[]⟩) R s:=by
 have y:D∉wr:=λq=>hD (W.sub _ q);intro k
 induction k with
 |zero=>
  intro i s t hi J hd Z q;obtain rfl:i=n:=by lia
  refine bBK gJ ?_;rw[bBA cQ _];refine b7 (W.done s _ _ J λh' tk C=>?_);refine b7 (d8 (d8 (q h' tk (λb o c e=>C b o (λz=>c (j5 _ z)) e) ?_)));rw[bAV (Nat.le_of_eq a0)] at hd;exact hd.at λo e=>C D o y e
 |succ k ih=>
  intro i s t hi J hd Z q;refine bBK gJ ?_;rw[bBA cQ _];refine b7 (W.item i s _ _ (by lia) J λv F l hv X f=>?_);have G:i<a.length:=by lia
  have u:=b8 G;have O:=hd.at λo e=>f D o y e;have B:∀j v kv,P j v->a[j]?=some kv->rW knd F v kv:=λj v kv pj e=>(Z j v kv pj e).at λp K o N=>f p o (λz=>hP j v pj p K (j5 _ z)) N;obtain⟨p,L,rfl,⟨⟨oc,od,ox,a1⟩,ho,hc,m,hx⟩,hk⟩:=B i v _ hv u;simp only at hc hx;subst hc hx;have Y:(merged [] (a.take i)).length<=i:=by have:=merged_length_le [] (a.take i);rw[bAR] at this;simp only[bBV] at this;lia
  obtain⟨S,g,d,tk,M⟩:=s;have hT:(⟨F,g,d,l,M⟩:Shared).TypeIs (.ref p) "tuple":=⟨_,ho,rfl⟩;have H:∀Q E,Q [L,a[i].2] ⟨F,g,d,l,M⟩->wpAny (model prog w) A.in1 (Builtin.Dict.pairItems (.ref p)) Q E ⟨F,g,d,l,M⟩:=by intro Q E h;unfold Builtin.Dict.pairItems;wp_walk;exact h
  refine b7 (bAP (b7 (wpAny_tryCatch (H _ _ ?_))));refine bAP (wpAny_dictSet_pairs hk O (λh2 x r=>?_) (bAE Y (bAE (by lia) (show 1000<=sizeLine by decide))));have e1:=merged_take_succ [] a i _ u;rw[<-e1] at x;refine d8 ⟨bCH cQ _,?_⟩;have U:∀b o,b∉D::wr->S.get? b=some o->h2.get? b=some o:=λb o c e=>by rw[r.2 b (λz=>c (by rw[z];exact j4))];exact f b o (λz=>c (j5 _ z)) e
  refine ih (i+1) _ _ (by lia) (W.frame _ _ _ X λb hb o e=>?_) x (λj v kv pj e=>(B j v kv pj e).at λp' K o N=>?_) λh' T C V=>q h' T (λb o c e=>C b o c (U b o c e)) V
  ·rw[r.2 b (λz=>hD (by rw[<-z];exact hb))];exact e
  ·rw[r.2 p' (λz=>hP j v pj p' K (by rw[z];exact j4))];exact N
end
section
variable {prog:Program}{w:World}{κ:Type}[DecidableEq κ]{knd:KeyKind prog w κ}{A:Around}{E:bGA}{s:Shared}
def aYl (L:Bool)(ho:h2.get? t=some o)(d:o.cls=.type (sqN L))(f:o.data=.seq its n)(c:A.handled=none)(b:t≠h2.objs.size) :
  ∃io St,Walks prog w A h2.objs.size [h2.objs.size,t] [h2.objs.size] its.size (λi v=>its[i]?=some v) St/\St 0 (h2.push io)/\∀s:Shared,s.heap=h2->∀Q E,Q (.ref h2.objs.size) { s with heap:=h2.push io }->wpAny (model prog w) A (pyIter (.ref t)) Q E s:=by
 cases L
 ·have a:h2.IsTuple t its:=⟨o,ho,d,n,f⟩;exact⟨_,_,Walks.tuple c _ t b its,⟨⟨_,j8 _ rfl,rfl,rfl⟩,a.push _⟩,λs e Q E q=>by subst e;exact bEP a q⟩
 ·have a:h2.IsList t its:=⟨o,ho,d,n,f⟩;exact⟨_,_,Walks.list c _ t b its,⟨⟨_,j8 _ rfl,rfl,rfl⟩,a.push _⟩,λs e Q E q=>by subst e;exact bCR a q⟩
def aGe (L:Bool){t n:Nat}{its:Array Value}{r:List (κ × Value)}{o:Obj}{Q:bGA}(m:A.handled=none)(ho:s.heap.get? t=some o)(C:o.cls=.type (sqN L))(N:o.data=.seq its n)(M:o.dict=none)(i:r.length=its.size)(hb:its.size<=1000)
  (H:∀(j:Nat) (v:Value) (kv:κ × Value),its[j]?=some v->r[j]?=some kv->rW knd s.heap v kv)
  (q:∀h' tk,h'.DictOf knd s.heap.objs.size (merged [] r)->(∀b o,s.heap.get? b=some o->h'.get? b=some o)->Q (.ref s.heap.objs.size) { s with heap:=h',toks:=tk }) :
  wpAny (model prog w) A (call (.type "dict") [.ref t]) Q E s:=by
 refine callType_codes (Q₁:=λk D=>k=.ref s.heap.objs.size/\D={ s with heap:=s.heap.push { cls:=.type "dict",data:=.dict #[] } }) F.kt_called_dict (F.kt_typeCall_dict_1 _) F.entry_dict_init (kt_code_dict_new _ ⟨rfl,rfl⟩) ?_;rintro k D ⟨rfl,rfl⟩;have a:(s.heap.push { cls:=.type "dict",data:=.dict #[] }).DictOf knd s.heap.objs.size []:=Heap.DictOf.new s.heap;have f:(s.heap.push { cls:=.type "dict",data:=.dict #[] }).get? t=some o:=d7 _ ho;have I:Shared.TypeIs { s with heap:=s.heap.push { cls:=.type "dict",data:=.dict #[] } } (.ref t) (sqN L):=⟨o,f,C⟩;have g:t<s.heap.objs.size:=m9 ho;refine⟨a.typeIs,F.args_dict_init_2 _ _,?_⟩;unfold Builtin.«dict.__init__»;refine b7 ?_;unfold Builtin.Dict.selfAndRest;refine b7 (wpAny_notOrdered_dict a.typeIs ?_);show wpAny _ _ (pure (s.heap.objs.size,[Value.ref t])) _ _ _;refine d8 ?_;show wpAny _ _ (Builtin.Dict.updateFrom "dict.__init__" s.heap.objs.size (.ref t) [] .none) _ _ _;unfold Builtin.Dict.updateFrom;refine b7 (bEX I ?_);rw[if_pos (by cases L <;> decide)];refine b7 (aQm (L:=L) f C N M (by first|exact m|simp[m]) λB V c=>?_);rw[if_pos (show (none:Option Value).isNone=true from rfl)];have y:B.get? t=some o:=c _ _ f;have P:(s.heap.push { cls:=.type "dict",data:=.dict #[] }).objs.size=s.heap.objs.size+1:=bBP ..;have d:s.heap.objs.size<B.objs.size:=by obtain⟨Y,_,_,K,_⟩:=id a;exact m9 (c _ _ K)
 have u:t≠B.objs.size:=v7 (bEY g d);obtain⟨X,St,W,x,J⟩:=aYl (prog:=prog) (w:=w) (A:=A.in1.in1) L y C N (by first|exact m|simp[m]) u;refine b7 (bEB (b7 (J _ rfl _ _ ?_)));refine d8 ⟨bCH cQ _,?_⟩;refine xZ (knd:=knd) W s.heap.objs.size ?_ r i hb ?_ its.size 0 _ _ (by lia) x ?_ ?_ λh' tk O z=>?_
 ·simp only[bAC,z9,or_false,not_or];exact⟨v7 d,bCP g⟩
 ·intro j v e p S;have R:j<r.length:=by rw[i];exact (Array.getElem?_eq_some_iff.mp e).1
  obtain⟨p',T,h,⟨Z,l,_⟩,_⟩:=H j v _ e (b8 R);rw[S] at h;cases h;have:=m9 l;simp only[bAC,z9,or_false,not_or];exact⟨v7 this,v7 (bEY this d)⟩
 ·exact (a.at λo e=>c _ _ e).at λo e=>d7 _ e
 ·intro j v kv e G;exact (H j v kv e G).at λp _ o U=>d7 _ (c _ _ (d7 _ U))
 ·refine⟨rfl,q h' tk z λb o e=>O b o ?_ (d7 _ (c _ _ (d7 _ e)))⟩;have:=m9 e;simp only[bAC,z9,or_false,not_or];exact⟨v7 this,v7 (bEY this d)⟩
end
open PySem.Calls PyProof.Rows
section
variable {κ:Type}[DecidableEq κ]
end
end PySem
namespace L2
open PySem PySem.Spec PyProof.Rows
abbrev aUn (K:bF9)(H:Hp):List V->List (Key × V)->Prop:=Paired λu kv=>∃p,u=.ref p/\SqT K H p [kV kv.1,kv.2]
def bCk (I:Inv X bGD σ H s)(h:aUn X.K H us kvs):∀{its:List Value},Vals us its ->
  ∃vs:List (Key × Value),KV kvs vs/\vs.length=its.length/\∀(j:Nat) (v:Value) (kv:Key × Value),its[j]?=some v->vs[j]?=some kv->rW (bU X.prog X.w) s.heap v kv:=by
 induction h with
 |nil=>intro its a;cases a;exact⟨[],.nil,rfl,λj v kv e _=>by simp at e⟩
 |@cons u kv us kvs r t ih=>
  intro its a;cases a with
  |cons q z=>
   obtain⟨p,rfl,g⟩:=r;cases q;obtain⟨A,l,m,y⟩:=I.tuple g;obtain⟨vs,o,n,x⟩:=ih z;obtain⟨d,b,rfl,k,i⟩:=vals2 l;refine⟨(kv.1,b)::vs,.cons ⟨rfl,i⟩ o,by rw[t6,t6,n],λj v c e f=>?_⟩;cases j with
   |zero=>cases e;cases f;exact⟨p,d,rfl,m,tX k⟩
   |succ j=>exact x j v c (by simpa using e) (by simpa using f)
theorem aA5:∀kvs acc,((acc++kvs).map (·.1)).Nodup->jA acc kvs=acc++kvs
 |[],acc,_=>by simp[jA]
 |kv::r,acc,h=>by
  have a:eO acc kv.1=none:=by
   cases e:eO acc kv.1 with
   |none=>rfl
   |some v=>exfalso;have:=aVf e;rw[bAY,List.nodup_append] at h;exact h.2.2 _ this _ (by rw[bAI];exact j4 ..) rfl
  show jA (putK acc kv.1 kv.2) r=_;rw[aA2 _ a,aA5 r _ (by rw[bDC];exact h),bDC];rfl
def mY (c:X.A.units+1<cLine)(ho:VE X o td)(hi:VE X i ty)(a:VE X value tv)(b:swapsWith value (some (.Subscript o i pos')) pos.line X.env=pure false:=by rfl):VS X (.Assign [.Subscript o i pos'] value pos) (aY9 td ty tv):=⟨aVg c ho.1 hi.1 a.1 b⟩
def aRw (ho:VE X o to)(hi:VE X i ti)(b:bAo X t)
  (a:∀v,assign (.Subscript o i pos) X.env v=(do
   let ov <-holding [v] (eval o X.env)
   let iv <-holding [v,ov] (eval i X.env)
   standAt pos
   holding [v,ov,iv] (setItem ov iv v)
   release [v,ov,iv] []):=by intro _;rfl):VG X (.Subscript o i pos) (bC1 to ti t):=⟨bCt ho.1 hi.1 b a⟩
def aG8:MtR X "list.reverse" aJ4:=aKt
end L2
namespace PySem
section
variable {κ:Type}[DecidableEq κ]
end
end PySem
namespace L2
open PySem PySem.Spec PyProof.Rows
def Itw (K:bF9)(t u:Addr)(xs ys:List V):It:=
 ⟨λi H=>SqL K H t xs/\SqL K H u ys/\i<xs.length/\i<ys.length,λi H v H'=>∃T a b,H T=none/\v=.ref T/\H'=upd H T (.tup [a,b])/\xs[i]?=some a/\ys[i]?=some b,λi H=>SqL K H t xs/\SqL K H u ys/\i=ys.length/\ys.length<=xs.length⟩
def aMw (K:bF9)(ta:TA):TI:=fun σ H R=>ta σ H λvs H1=>∃t u xs ys,vs=[.ref t,.ref u]/\SqL K H1 t xs/\SqL K H1 u ys/\R (Itw K t u xs ys) H1
def aUd (d:Gl X "zip")(m:X.mg "zip"=none)(o:PA X [a,b] ta)(n:starEach [a,b] X.env=(false,eval a X.env)::starEach [b] X.env:=by rfl)
  (h:starEach [b] X.env=[(false,eval b X.env)]:=by rfl):PI X (.Tuple elts kt tp) (.Call (.Name "zip" p) [a,b] [] pos) (aMw X.K ta):=
 aO8 true (λD=>let T:=aC6 D;⟨T.mem,T.obj,T.keep,T.item,λX e k l f i c s σ H E I j g d=>T.done X e k l f i c s σ H E I j g (.inr d),T.self⟩) d m o n h
def aR4 (g:Gl X "zip")(d:X.mg "zip"=none)(e:VA X [a,b] t)(f:cB a=true:=by rfl)(c:cB b=true:=by rfl) :
  VI X (.Tuple elts kt tp) (.Call (.Name "zip" p) [a,b] [] pos) (aMw X.K t):=⟨aUd g d e.1 (aN f) (aN c)⟩
def aHh {K:bF9}{t u:Addr}{xs ys:List V}{H:Hp}{B:L2.St}{te:TE}{Q:VK}(A:SqL K H t xs)(w:SqL K H u ys)(s:ys.length<=xs.length)(E:Ps2 B B)(hsz:ys.length<=1000)(g:List V)(hzl:g.length=ys.length)
  (F:∀(i:Nat) (x y z:V),xs[i]?=some x->ys[i]?=some y->g[i]?=some z->∀H' R,Same H H'->(∀H2,Same H' H2->R z H2)->te ((B.set 0 (some x)).set 1 (some y)) H' R)
  (q:∀D H',Same H H'->H' D=some (.lst g)->Q (.ref D) H'):oH (Itw K t u xs ys) H B (aIv K 2 (rB (bF 0) (rB (bF 1) aQi))) kO te Q:=by
 intro D o;refine⟨λi m p H' k=>m=ys.length - i/\i<=ys.length/\Same H H'/\H' D=some (.lst k)/\k=g.take i/\Ps2 B p,⟨ys.length,by simp,bAF _,aO o _,aG,rfl,E⟩,?_⟩;rintro i m p H' k ⟨rfl,hi,sm,gD,rfl,hps⟩;refine⟨gD,?_⟩;by_cases j:i<ys.length
 ·right;refine⟨⟨sm.seq A,sm.seq w,by lia,j⟩,?_⟩;rintro v H2 ⟨T,a,b,hT,rfl,rfl,ha,hb⟩;have l:Same H' (L2.upd H' T (.tup [a,b])):=aO hT _;refine hg2 (SqT.of aG) hps fun G c h=>?_;have d:=h;subst d;dsimp only[kO];rw[if_pos rfl];have f:i<g.length:=by lia
  refine F i a b g[i] ha hb (b8 f) _ _ (sm.trans l) λC r=>?_;have n:=r _ _ (l _ _ gD);refine⟨n,bCD (show (g.take i).length<=1000 by rw[bAR];lia) (by decide),ys.length - (i+1),by lia,rfl,by lia,fP o (sm.trans (l.trans r)),aG,?_,c⟩;rw[bBW,b8 f];rfl
 ·left;have e:i=ys.length:=by lia
  subst e;rw[bAV (by lia)] at gD;exact⟨⟨sm.seq A,sm.seq w,rfl,s⟩,q D H' sm gD⟩
def aGu {J:It}{H:Hp}{xs:List V}{t:L2.St}{te:TE}{Q:VK}(s:∀H' i x,Same H H'->xs[i]?=some x->J.go i H'/\∀y H2,J.yld i H' y H2->H2=H'/\y=x)(n:∀H',Same H H'->J.stop xs.length H')(B:Ps1 t t)(hsz:xs.length<=1000)
  (f:List V) (hzl:f.length=xs.length) (w:∀(i:Nat) (x z:V),xs[i]?=some x->f[i]?=some z->∀H' R l,Same H H'->(∀H2,Same H' H2->R z H2)->te ((t.set 0 l).set 0 (some x)) H' R)
  (q:∀D H',Same H H'->H D=none->H' D=some (.lst f)->Q (.ref D) H'):oH J H t (bF 0) kO te Q:=by
 intro D d;refine⟨λi m j H' h=>m=xs.length - i/\i<=xs.length/\Same H H'/\H' D=some (.lst h)/\h=f.take i/\Ps1 t j,⟨xs.length,by simp,bAF _,aO d _,aG,rfl,B⟩,?_⟩;rintro i m j H' h ⟨rfl,hi,sm,gD,rfl,hps⟩;refine⟨gD,?_⟩;by_cases b:i<xs.length
 ·right;obtain⟨o,r⟩:=s H' i xs[i] sm (b8 b);refine⟨o,λv H2 p=>?_⟩;obtain⟨rfl,rfl⟩:=r v H2 p;refine hg1 (i:=i) hps fun A a g=>?_;obtain⟨l,rfl⟩:=g;dsimp only[kO];rw[if_pos rfl];have c:i<f.length:=by lia
  refine w i _ f[i] (b8 b) (b8 c) _ _ l sm λu k=>?_;refine⟨k _ _ gD,bCD (show (f.take i).length<=1000 by rw[bAR];lia) (by decide),xs.length - (i+1),by lia,rfl,by lia,fP d (sm.trans k),aG,?_,a⟩;rw[bBW,b8 c];rfl
 ·left;have e:i=xs.length:=by lia
  subst e;rw[bAV (by lia)] at gD;exact⟨n H' sm,q D H' sm d gD⟩
def aR1 {X:Cx}{K:bF9}{scope:Scope}{N:List Str}{tl:TA}{te:TE}{tt:TT}{g:TG}{σ:L2.St}{H:Hp}{Q:VK}(b:L2.St)(a:Cap X scope N σ b)(h:tl σ H λvs H1=>∃t u xs ys,vs=[.ref t,.ref u]/\SqL K H1 t xs/\SqL K H1 u ys/\oH (Itw K t u xs ys) H1 b g tt te Q):jE X scope N (aMw K tl) g tt te σ H Q:=⟨b,a,h⟩
def rM (ts:List (Addr × Str))(H:Hp):Prop:=∀p∈ts,H p.1=some (.tab p.2)
def mH:List (Addr × Str)->Addr->Option Str
 |[],_=>none
 |p::r,b=>if b=p.1 then some p.2 else mH r b
theorem aEd:∀{ts:List (Addr × Str)},(∀p∈ts,b≠p.1)->mH ts b=none
 |[],_=>rfl
 |p::r,h=>by unfold mH;rw[if_neg (h p j4)];exact aEd λq a=>h q (j5 _ a)
theorem oX:∀{ts:List (Addr × Str)},mH ts b=some q->∃p∈ts,p.1=b/\p.2=q
 |p::r,h=>by
  unfold mH at h;by_cases e:b=p.1
  ·rw[if_pos e] at h;exact⟨p,j4,e.symm,bAH h⟩
  ·rw[if_neg e] at h;obtain⟨a,d,c⟩:=oX h;exact⟨a,j5 _ d,c⟩
theorem aOk:∀{ts:List (Addr × Str)},(ts.map (·.1)).Nodup->∀{p:Addr × Str},p∈ts->mH ts p.1=some p.2
 |p::r,nd,q,hq=>by
  rw[bAI,bFT] at nd;unfold mH;rcases List.mem_cons.mp hq with rfl|hq
  ·rw[if_pos rfl]
  ·rw[if_neg λz=>nd.1 (by rw[<-z];exact List.mem_map.mpr ⟨q,hq,rfl⟩)];exact aOk nd.2 hq
def aPs {P:Program}{w:World}{K:bF9}{mg mb:bGC}{CX:CXT}{k:Nat}{fa a:Addr}{fd:FuncData}{x:Str}{sp:Sp}{i:Shared}{vs:List Value}{ns:List Int}
  (KX:K.In i.heap) (T:i.heap.Ns mainGlobals mg) (g:i.heap.Ns builtinsNs mb) (a7:∀x:Str,x≠"__name__"->mb x=bootBuiltins x) (a1:i.heap.NoLimit) (hg:i.gens=#[])
  (Q:i.heap.get? a=some { cls:=.type "list",data:=.seq vs.toArray }) (hi:IntsAre vs ns) (hl:ns.length<=sizeLine) (hr:Room k callerA)
  (ts:List (Addr × Str)) (l:∀p∈ts,i.heap.get? p.1=some { cls:=.none,data:=.fields #[] }/\isCodeTable i.heap p.1/\K.lookup p.1=none) (a6:(ts.map (·.1)).Nodup) (a5:BM mg i.heap)
  (F:∀base:Heap,K.In base->base.Ns mainGlobals mg->BM mg base->eX P w K mg base CX k fa fd [x] sp) (Y:∀(s:Shared) (u:Value),BindsTo s fd ⟨[u],[]⟩ [(x,u)])
  (a3:∀H:Hp,rM ts H->SqL K H a (ns.map V.int)->sp [.ref a] H (λv H'=>v=.bl true/\rM ts H') λ_ _ _=>False)
  (a4:∀H e s',CX [] H i (λ_ _ _=>False) e s'->False) :
  codeAny (model P w) callerA (.call (.ref fa) ⟨[.ref a],[]⟩) (λr s'=>r=.ok (.ret (.bool true))/\OldK i.heap s'.heap/\s'.os=i.os/\AllBare s'.gens) i:=by
 have rv:=aD9 hi;have S:=hi.length;have B:∀H:Hp,rM ts H->(∀b,(∀p∈ts,b≠p.1)->H b=none\/∃o xs,H b=some (.frz o (.lst xs)))->SqL K H a (ns.map V.int)->HOk P w H i.heap->(∀b,H b≠none->b=a\/∃p∈ts,b=p.1)->(H a≠none->K.lookup a=none) ->
   codeAny (model P w) callerA (.call (.ref fa) ⟨[.ref a],[]⟩) (λr s'=>r=.ok (.ret (.bool true))/\OldK i.heap s'.heap/\s'.os=i.os/\AllBare s'.gens) i:=by
  intro H hT hO hS L hA hK;have f:∀{b:Addr} {o:Obj},i.heap.get? b=some o->H b=none->(aCu i.heap H).get? b=some o:=λe n=>aUj e n;have a0:∀{b:Addr} {o:Obj} {E:Array DictEntry} {D:Nat},i.heap.get? b=some o->o.data=.dict E D->H b=none:=λ{b o E D} e d=>by
   cases q:H b with
   |none=>rfl
   |some u=>
    rcases hA b (by rw[q];simp) with e'|⟨p,c,e'⟩
    ·subst e';rw[Q] at e;cases e;have d':Data.seq vs.toArray _=Data.dict E D:=d;cases d'
    ·subst e';rw[(l p c).1] at e;cases e;have d':Data.fields _=Data.dict E D:=d;cases d'
  have y:∀{b:Addr} {m:bGC},i.heap.Ns b m->(aCu i.heap H).Ns b m:=λ{b m} ⟨o,E,D,e,d,r⟩=>⟨o,E,D,f e (a0 e d),d,r⟩;have M:K.In (aCu i.heap H):=λb o e=>f (KX b o e) (by
   cases q:H b with
   |none=>rfl
   |some u=>
    rcases hA b (by rw[q];simp) with e'|⟨p,c,e'⟩
    ·subst e';rw[hK (by rw[q];simp)] at e;cases e
    ·subst e';rw[(l p c).2.2] at e;cases e)
  have I:BM mg (aCu i.heap H):=by
   obtain⟨Z,ob,b1,b2,O,b4,b5,X⟩:=a5;refine⟨Z,ob,b1,b2,f O ?_,b4,b5,X⟩;cases q:H Z with
   |none=>rfl
   |some u=>
    rcases hA Z (by rw[q];simp) with e'|⟨p,c,e'⟩
    ·rw[e',Q] at O;cases O;cases (show Data.seq vs.toArray _=Data.plain from X)
    ·rw[e',(l p c).1] at O;cases O;cases (show Data.fields _=Data.plain from X)
  have hM:Mod K mg (aCu i.heap H):=⟨M,y T,⟨mb,y g,a7⟩,let ⟨mc,h1,h2⟩:=a1;⟨mc,y h1,h2⟩⟩;have e0:aFl P w K mg (aCu i.heap H) callerA [] i H:=⟨rfl,hM,λb o e=>aXx e,Nat.le_of_eq (aRe _ _),trivial,λb g=>absurd (show b∈([]:List Addr) from g) (by simp),L,.of_eq hg⟩;refine bCI ((F _ M (y T) I).run callerA [] i H ⟨[.ref a],[]⟩ [.ref a] [.ref a] _ _ hr e0 (Y i (.ref a)) (.cons rfl .nil) (a3 H hT hS)) λr s' h=>?_;cases r with
  |error e=>exact (a4 H e s' h).elim
  |ok fl=>
   cases fl with
   |next=>exact False.elim h
   |brk=>exact False.elim h
   |cont=>exact False.elim h
   |ret u=>
    obtain⟨v,H',os,J,un,t,r',q⟩:=h;obtain⟨q',qT⟩:=(show v=.bl true/\rM ts H' from q);subst q';obtain rfl:u=Value.bool true:=r';have kp:∀b o,i.heap.get? b=some o->(∀p∈ts,b≠p.1)->s'.heap.get? b=some o:=λb o e g=>by
     cases q:H b with
     |none=>exact un.keep b o e q (by intro z;exact absurd (show b∈([]:List Addr) from z) (by simp)) (by simp)
     |some u=>
      rcases hO b g with z|⟨ob,xs,z⟩
      ·rw[q] at z;cases z
      ·have z2:=un.frzs b ob _ z;obtain⟨j,_⟩:=L b _ z;obtain⟨R,_⟩:=t b _ z2;rw[e] at j;cases j;exact R
    refine⟨rfl,⟨λb o e=>?_,λb o e=>?_⟩,os,J⟩
    ·by_cases g:∃p∈ts,b=p.1
     ·obtain⟨p,c,rfl⟩:=g;obtain⟨ps,j,_⟩:=t p.1 _ (qT p c);rw[(l p c).1] at e;cases e;exact .inr (.inl ⟨(l p c).2.1,rfl,#[],ps,rfl,by rw[j];simp⟩)
     ·exact .inl (kp b o e λp c z=>g ⟨p,c,z⟩)
    ·by_cases g:∃p∈ts,b=p.1
     ·obtain⟨p,c,rfl⟩:=g;obtain⟨ps,j,_⟩:=t p.1 _ (qT p c);exact⟨_,j⟩
     ·exact⟨o,kp b o e λp c z=>g ⟨p,c,z⟩⟩
 have aT:∀p∈ts,p.1≠a:=λp c z=>by have:=(l p c).1;rw[z,Q] at this;cases this
 have G:∀p∈ts,mH ts p.1=some p.2:=λp c=>aOk a6 c;have C:∀b,(∀p∈ts,b≠p.1)->mH ts b=none:=λb g=>aEd g;have N:∀(H:Hp) (p:Addr × Str),p∈ts->cV P w H i.heap p.1 (.tab p.2):=λH p c=>⟨#[],(l p c).1,trivial,λa2 cv z=>by cases z⟩;cases hk:K.lookup a with
 |some o=>
  have e:=KX a o hk;rw[Q] at e;cases e;refine B (λb=>(mH ts b).map .tab) (λp c=>by show (mH ts p.1).map _=_;rw[G p c];rfl) (λb g=>.inl (by show (mH ts b).map _=_;rw[C b g];rfl)) (.inr ⟨_,vs.toArray,_,hk,rfl,rfl,rfl,by rw[d9,S];exact hl,by simpa using rv⟩) (λb u z=>?_) (λb z=>?_) λz=>?_
  ·obtain⟨U,A,rfl⟩:=Option.map_eq_some_iff.mp (show (mH ts b).map .tab=some u from z);obtain⟨p,c,j,R⟩:=oX A;subst j R;exact N _ p c
  ·refine .inr ?_;cases A:mH ts b with
   |none=>exact absurd (show (mH ts b).map HO.tab=none by rw[A];rfl) z
   |some U=>obtain⟨p,c,j,_⟩:=oX A;exact⟨p,c,j.symm⟩
  ·exact absurd (show (mH ts a).map HO.tab=none by rw[C a λp c z=>aT p c z.symm];rfl) z
 |none=>
  refine B (λb=>if b=a then some (.frz { cls:=.type "list",data:=.seq vs.toArray } (.lst (ns.map V.int))) else (mH ts b).map .tab) (λp c=>by show (if p.1=a then _ else (mH ts p.1).map HO.tab)=_;rw[if_neg (aT p c),G p c];rfl) (λb g=>?_) (.inl (.inr ⟨{ cls:=.type "list",data:=.seq vs.toArray },if_pos rfl⟩)) (λb u z=>?_) (λb z=>?_) λ_=>hk
  ·by_cases h:b=a
   ·exact .inr ⟨_,_,if_pos h⟩
   ·exact .inl (by rw[if_neg h,C b g];rfl)
  ·by_cases g:b=a
   ·have W:=(if_pos g).symm.trans z;cases W;subst g;exact⟨Q,by rw[j7];exact hl,vs,_,rv,Q⟩
   ·have W:=(if_neg g).symm.trans z;obtain⟨U,A,rfl⟩:=Option.map_eq_some_iff.mp W;obtain⟨p,c,j,R⟩:=oX A;subst j R;exact N _ p c
  ·by_cases g:b=a
   ·exact .inl g
   ·refine .inr ?_;cases A:mH ts b with
    |none=>exact absurd (show (if b=a then _ else (mH ts b).map HO.tab)=none by rw[if_neg g,A];rfl) z
    |some U=>obtain⟨p,c,j,_⟩:=oX A;exact⟨p,c,j.symm⟩
def aRz {l:PySem.W.OpenLaw}{n k:Nat}{q:Program}{loose:List Str}{XP:(bGC)->Heap->Prop}{YP:World->Heap->Prop}{d:DefRec}{K:Params->bF9}{CX:World->CXT}{sp:World->Sp}{x:Str}
  (hn:l.most=some n) (D:n<=sizeLine) (I:d.params.defaults=[]) (Z:Room k callerA)
  (ts:List (Addr × Str)) (O:(ts.map (·.1)).Nodup)
  (hY:∀(w:World) (h:Heap),YP w h->(K w.params).In h/\∀p∈ts,h.get? p.1=some { cls:=.none,data:=.fields #[] })
  (R:∀(w:World),∀p∈ts,(∃c,PySem.W.codeHdIn (K w.params) c p.1=true)/\(K w.params).lookup p.1=none)
  (F:∀(w:World) (mg:bGC) (fa:Addr) (h:Heap),(K w.params).In h->h.Ns mainGlobals mg->mg d.name=some (.ref fa) ->
   ∃fd:FuncData,(∀(s:Shared) (u:Value),BindsTo s fd ⟨[u],[]⟩ [(x,u)]) /\
    ∀base:Heap,(K w.params).In base->base.Ns mainGlobals mg->BM mg base->eX l.prog w (K w.params) mg base (CX w) k fa fd [x] (sp w))
  (C:∀(w:World) (H:Hp) (a:Addr) (ns:List Int),ns.length<=n->rM ts H->SqL (K w.params) H a (ns.map V.int)->sp w [.ref a] H (λv H'=>v=.bl true/\rM ts H') λ_ _ _=>False)
  (J:∀(w:World) (H:Hp) (s:Shared) (e:Value) (s':Shared),CX w [] H s (λ_ _ _=>False) e s'->False) :
  PySem.W.WalkO q loose XP YP l.row.toRowW d [] (λf vs=>PySem.call f vs):=by
 refine Att.aJ3 hn I λw s₀ M mg mb fa o U X S a vs ns G Y ho hd Q z r m j B=>?_;obtain⟨y,i⟩:=hY w _ Y;obtain⟨fd,P,N⟩:=F w mg fa _ y G.T.g z;refine aPs y G.T.g G.T.b G.T.builtins G.T.nolimit B r m (bAE j D) Z ts (λp t=>⟨i p t,?_,(R w p t).2⟩) O G.T.bmain N P (λH E A=>C w H a ns j E A) λH e s'=>J w H M e s';obtain⟨c,L⟩:=(R w p t).1;exact Heap.TableAt.isCodeTable ((PySem.W.codeHd_of_K y L).tab (i p t))
def dJ (K:bF9)(H:Hp)(u:V)(r:List V):Prop:=∃a,u=.ref a/\SqT K H a r
def dJ.same {K:bF9}{H H':Hp}{u:V}{r:List V}(e:Same H H')(h:dJ K H u r):dJ K H' u r:=by obtain⟨a,rfl,b⟩:=h;exact⟨a,rfl,e.bC b⟩
def KdV:Bool->V->Prop
 |true,x=>∃i,x=.int i
 |false,x=>∃z,x=.str z
def KdR (ks:List Bool)(r:List V):Prop:=Al2 KdV ks r
def rlt:List V->List V->Bool
 |.int a::xs,.int b::ys=>if (a == b)=true then rlt xs ys else decide (a<b)
 |.str a::xs,.str b::ys=>if (a == b)=true then rlt xs ys else decide (a.cps.toList<b.cps.toList)
 |_,_=>false
def srt (rs:List (List V)):List (List V):=(PySem.W.dY rs.length λi j=>rlt (rs.getD i []) (rs.getD j [])).map λi=>rs.getD i []
def aN7 (rs:List (List V)):(srt rs).length=rs.length:=by unfold srt;rw[j7,PySem.W.qI]
def yO (h:r∈srt rs):r∈rs:=by
 obtain⟨i,a,rfl⟩:=List.mem_map.mp h;have:=PySem.W.mF a;have e:rs.getD i []=rs[i]:=by simp[this]
 rw[e];exact bAU this
def Al2.get {α β:Type}{R:α->β->Prop}{as:List α}{bs:List β}(h:Al2 R as bs){i:Nat}{a:α}{b:β}(f:as[i]?=some a)(c:bs[i]?=some b):R a b:=by obtain⟨d,e,r⟩:=h.at f;rw[c] at e;cases e;exact r
theorem Al2.of {α β:Type}{R:α->β->Prop}:∀{as:List α} {bs:List β},as.length=bs.length->(∀(i:Nat) (a:α) (b:β),as[i]?=some a->bs[i]?=some b->R a b)->Al2 R as bs
 |[],[],_,_=>.nil
 |a::as,b::bs,hl,h=>.cons (h 0 a b rfl rfl) (Al2.of (by simpa using hl) λi x y d c=>h (i+1) x y (by simpa using d) (by simpa using c))
def Al2.imp {α β:Type}{R S:α->β->Prop}{as:List α}{bs:List β}(h:Al2 R as bs)(k:∀a b,R a b->S a b):Al2 S as bs:=by
 induction h with
 |nil=>exact .nil
 |cons r _ ih=>exact .cons (k _ _ r) ih
def aXn (ks:List Bool):∀{r1 r2:List V} {i1 i2:List Value},KdR ks r1->KdR ks r2->Vals r1 i1->Vals r2 i2->∀i:Nat,Q (rlt r1 r2) s->PySem.W.KatLex prog w A b false Q (i1.zip i2) i s:=by
 induction ks with
 |nil=>intro r1 r2 i1 i2 f d a c i q;cases f;cases d;cases a;cases c;exact q
 |cons k ks ih=>
  intro r1 r2 i1 i2 f d a c i q;cases f with
  |cons a1 t1=>
   cases d with
   |cons a2 t2=>
    cases a with
    |cons p1 w1=>
     cases c with
     |cons p2 w2=>
      cases k with
      |true=>
       obtain⟨x,rfl⟩:=a1;obtain⟨y,rfl⟩:=a2;obtain⟨t,rfl⟩:=p1;obtain⟨u,rfl⟩:=p2;refine (bER x t y u) prog w _ _ ?_;unfold rlt at q;by_cases e:(x == y)=true
       ·rw[e,if_pos rfl];rw[if_pos e] at q;exact ih t1 t2 w1 w2 (i+1) q
       ·rw[if_neg e] at q;rw[Bool.not_eq_true] at e;rw[e,if_neg (by decide)];cases g:(b && i == 0) with
        |true=>exact oneLt_int q
        |false=>exact PySem.W.kat_one _ _ (lt_int q)
      |false=>
       obtain⟨x,rfl⟩:=a1;obtain⟨y,rfl⟩:=a2;obtain⟨t,rfl⟩:=p1;obtain⟨u,rfl⟩:=p2;refine (bDL x t y u) prog w _ _ ?_;unfold rlt at q;by_cases e:(x == y)=true
       ·rw[e,if_pos rfl];rw[if_pos e] at q;exact ih t1 t2 w1 w2 (i+1) q
       ·rw[if_neg e] at q;rw[Bool.not_eq_true] at e;rw[e,if_neg (by decide)];cases g:(b && i == 0) with
        |true=>exact oneLt_str q
        |false=>exact PySem.W.kat_one _ _ (lt_str q)
def aSc (K:bF9):List V->Hp->VK->Prop:=λxs H Q=>∃l us rs ks,xs=[.ref l]/\SqL K H l us/\Al2 (dJ K H) us rs/\us.length<64/\ks≠[]/\(∀r∈rs,KdR ks r) /\
 ∀D H' us',H D=none->Same H H'->H' D=some (.lst us')->Al2 (dJ K H) us' (srt rs)->Q (.ref D) H'
theorem aOc (I:Inv X bGD σ H s)(d:∀b o,s.heap.get? b=some o->h'.get? b=some o):∀{us:List V} {rs:List (List V)} {its:List Value},Al2 (dJ X.K H) us rs->Vals us its->(∀r∈rs,KdR (k::ks) r) ->
  ∃fs,PySem.W.KatTups h' its fs/\fs.length=its.length/\∀f∈fs,∀M:Model,PySem.W.Looks M h' (typeOf f) (.type (if k=true then "int" else "str"))
 |_,_,_,.nil,.nil,_=>⟨[],.nil,rfl,λf h=>by cases h⟩
 |_,_,_,.cons (b:=r) hr t,.cons q z,hk=>by
  obtain⟨fs,w,v,y⟩:=aOc I d t z λr m=>hk r (j5 _ m);obtain⟨a,rfl,u⟩:=hr;cases q;obtain⟨x,p,⟨o,j,e,n,hd⟩,_⟩:=I.tuple u;have c:=hk r (j4 ..);cases c with
  |cons hx _=>
   cases p with
   |@cons _ f _ fr rx _=>
    refine⟨f::fs,.cons (d _ _ j) e hd (by simp) w,by rw[t6,t6,v],λg hg M=>?_⟩;rcases List.mem_cons.mp hg with rfl|hg
    ·cases k with
     |true=>obtain⟨i,rfl⟩:=hx;obtain⟨l,rfl⟩:=rx;exact .now
     |false=>obtain⟨i,rfl⟩:=hx;obtain⟨l,rfl⟩:=rx;exact .now
    ·exact y g hg M
def aI5 (I:Inv X bGD σ H s)(F:Vals us its)(E:Al2 (dJ X.K H) us rs)(Y:ks≠[])(hk:∀r∈rs,KdR ks r)(A:Around)(h2:2<=its.length)(h':Heap)(S:∀b o,s.heap.get? b=some o->h'.get? b=some o) :
  ∃κ,(∀Q,Q κ { s with heap:=h' }->wpAny (model X.prog X.w) A (keyKind' its.toArray) Q (λ_ _=>False) { s with heap:=h' })/\∀i j C,i<its.length->j<its.length->C (rlt (rs.getD i []) (rs.getD j [])) { s with heap:=h' }->PySem.W.kas_ask X.prog X.w A κ its i j C { s with heap:=h' }:=by
 have e1:=F.length;have e2:=E.len;obtain⟨k,c,rfl⟩:∃k c,ks=k::c:=by
  cases ks with
  |nil=>exact absurd rfl Y
  |cons k c=>exact⟨k,c,rfl⟩
 obtain⟨fs,t1,t2,P⟩:=aOc I S E F hk;refine⟨_,λQ M=>PySem.W.kat_kind (s:={ s with heap:=h' }) (T:=.type (if k=true then "int" else "str")) t1 (by lia) (λv t=>P v t _) (by simp) M,λi j C z U G=>?_⟩;have g:∀{i:Nat},i<its.length->∃a o r l n,its.getD i Value.none=.ref a/\h'.get? a=some o/\o.data=.seq (List.toArray l) n/\Vals r l/\rs.getD i []=r/\KdR (k::c) r:=λ{i} z=>by
  have e:i<us.length:=by lia
  have d:i<rs.length:=by lia
  obtain⟨a,L,O⟩:=E.get (b8 e) (b8 d);obtain⟨v,t,B⟩:=F.get (b8 e);rw[L] at B;cases B;obtain⟨l,R,⟨o,Z,hc,n,hd⟩,_⟩:=I.tuple O;refine⟨a,o,rs[i],l,n,?_,S _ _ Z,hd,R,by simp[d],hk _ (bAU d)⟩;rw[j9,t];rfl
 obtain⟨a,o,r1,x1,n1,V,g2,J,y,N,D⟩:=g z;obtain⟨b,o',r2,x2,n2,q,u,x,h,m,f⟩:=g U;show wpAny _ _ (keyLt' _ (its.getD i Value.none) (its.getD j Value.none)) C _ _;rw[V,q];refine PySem.W.kat_lt g2 J u x ?_;have p:decide ((List.toArray x1).size<(List.toArray x2).size)=false:=by rw[d9,d9];have:=y.length;have:=h.length;have:=Al2.len D;have:=Al2.len f;exact v5 (by lia)
 rw[p];refine aXn (k::c) D f y h 0 ?_;rw[N,m] at G;exact G
def aEp (f:Vals us its):∀L:List Nat,(∀i∈L,i<us.length)->Vals (L.map λi=>us.getD i .non) (L.map λi=>its.getD i Value.none):=by
 intro L
 induction L with
 |nil=>intro _;exact .nil
 |cons i L ih=>intro b;have a:=b i (j4 ..);obtain⟨v,d,e⟩:=f.get (b8 a);refine .cons ?_ (ih λj c=>b j (j5 _ c));show RelV (us.getD i .non) (its.getD i Value.none);rw[j9,b8 a,j9,d];exact e
def aC7 {K:bF9}{H:Hp}{us:List V}{f:List (List V)}(e:Al2 (dJ K H) us f):∀L:List Nat,(∀i∈L,i<us.length)->Al2 (dJ K H) (L.map λi=>us.getD i .non) (L.map λi=>f.getD i []):=by
 intro L
 induction L with
 |nil=>intro _;exact .nil
 |cons i L ih=>
  intro c;have b:=c i (j4 ..);have a:i<f.length:=by have:=e.len;lia
  refine .cons ?_ (ih λj d=>c j (j5 _ d));show dJ K H (us.getD i .non) (f.getD i []);rw[j9,b8 b,j9,b8 a];exact e.get (b8 b) (b8 a)
def zF:cA X (.builtin "sorted") (aSc X.K):=by
 intro A s σ H F w Q I r h;obtain⟨l,C,g,G,rfl,n,d,t,f,z,q⟩:=h;obtain⟨u,rfl,x⟩:=vals1 r;cases x;obtain⟨a,k,y,B⟩:=I.list n;have E:=k.length;have D:=d.len;refine PySem.W.aFi y.isList (by lia) (aI5 I k d f z _) ?_;obtain⟨e,v⟩:=sortedAll_at s.heap a (List.toArray ((PySem.W.dY a.length λi j=>rlt (g.getD i []) (g.getD j [])).map λi=>a.getD i Value.none));have m:=I.hok.fresh (bDB _);have p:a.length=g.length:=by lia
 refine⟨.ref (s.heap.objs.size+1),_,I.laid (t':=s.toks) (λb o q=>sortedAll_old q) (bDB _) ?_,rfl,q _ _ _ m (aO m _) aG (aC7 d _ λi c=>by have:=PySem.W.mF c;lia)⟩;refine⟨small (by rw[j7,PySem.W.qI];lia),_,e,?_,v⟩;rw[p];exact aEp k _ λi c=>by have:=PySem.W.mF c;lia
def kvlt:V->V->Bool
 |.int a,.int b=>decide (a<b)
 |.str a,.str b=>decide (a.cps.toList<b.cps.toList)
 |_,_=>false
section
variable {P:Program}{w:World}{K:bF9}{mg:bGC}{base:Heap}
def aTm (K:bF9)(mg:bGC)(x:Str)(Pt:Addr):Prop:=∃f o fd c,mg x=some (.ref f)/\K.lookup f=some o/\o.data=.func fd/\fd.code=.ref c/\PySem.W.codeHdIn K c Pt=true
def Ok.bE5 {x:Str}{st:Stmt}{N ps:List Str}{k:Nat}{sp:Sp}{Pt:Addr}(D:Dn K mg x st ps)(C:aTm K mg x Pt)(U:K.In base)(S:aJ N ps (aC st))(p:∀vs H Q E,sp vs H Q E->vs.length=ps.length)
  (j:∀(f c:Addr) (A:Around) (outer:List Env) (s:Shared) (H:Hp) (vs:List V) (Q:VK) (E:XK),PySem.W.CodeHd base c Pt->Room k (A.deeper (envOfC x (aC st) s.heap.objs.size f (.ref c)))->sp vs H Q E ->
   ∃t,VSs (qN CX0 P w K mg base N x (aC st) f (.ref c) A outer s H E).nox (cT st) t/\t { nx:=λ_ H'=>Q .non H',rt:=Q } (start N vs) H):Ok P w K mg base (k+1) x ps sp:=by
 obtain⟨f,z,F,B,m⟩:=D;obtain⟨M,O,r,c,n,a,d,g,u⟩:=C;rw[m] at n;cases n;refine⟨f,z,m,F.kp,B,?_⟩;obtain⟨T,I,kV,G,J,R,y,L,o,rfl,l,i⟩:=F.ex;rw[l] at a;cases a;cases d;have e:=g;subst e;refine aO0 l i S p λA outer s H vs Q E v b=>?_;obtain⟨t,h,q⟩:=j f c A outer s H vs Q E (PySem.W.codeHd_of_K U u) v b;exact⟨t,h.1.nox,q⟩
end
end L2
namespace My
open PySem PySem.Spec PyProof.Rows L2
section
variable {P:Program}{w:World}{K:bF9}{mg:bGC}{base:Heap}
def vlt:V->V->Bool
 |.int a,.int b=>decide (a<b)
 |.str a,.str b=>decide (a.cps.toList<b.cps.toList)
 |_,_=>false
def aF2 (k:Str):Prop:=k = "number"\/k = "word"
def qC:Str:="are_cuts.<locals>.<lambda>"
inductive aOb (P:Program)(w:World)(K:bF9)(mg:bGC)(base:Heap)(k:Nat)(vs:List V)(H:Hp)(Q:VK)(E_:XK):Prop
 |mk (a:Addr) (lo hi:Nat) (f:Addr) (xs:List V) (qual g x y:Str) (z:V) (ps:List Str) (sp:Sp) (_:vs=[.ref a,.int (lo:Nat),.int (hi:Nat),.ref f]) (_:SqT K H a xs) (_:lo<=xs.length) (_:xs.length<=hi) (_:hi<=1000) (_:uT H f qual g x y z) (_:Ok P w K mg base k g ps sp) (_:(∀v∈xs,∀(H':Hp) (R:VK),Same H H'->(∀H2,Same H' H2->R (.bl true) H2)->sp [v,z] H' R E0)) (_:∀H',Same H H'->Q (.bl true) H')
def xX (T:Txt w K mg):Ok P w K mg base (k+2) "is_tuple_of" o9 (aOb P w K mg base k):=by
 refine Ok.ofV T.rG pY (by trivial) (λf G A n s H X Q E F h=>?_)
 obtain⟨a,S,t,g,d,c,B,x,y,z,O,M,rfl,j,V,Z,m,o,L,i,q⟩:=h;refine⟨_,(aB (bM (VW.pt (gB (cC (bR (aL iD (by rfl) T.aZ aV (aF (vv 0) (va1 (eY (v:=.ty "tuple") (by rfl) T.iQ fU rfl)))))) (fG (cC (zO aAd aAd (vv 1) (aL bA (by rfl) T.eU cN (va1 (vv 0))) (vv 2)))))) (aD (aK fB)) aQ) (aD (aK (aL (jP rfl) (by rfl) T.aA0 tK (va1 (cU (N:=["part","is_part"]) ck (iG (aC iM)) rfl (rQ (vv 0)) (λU W e fp=>⟨(jH 0),fY,(aPl (P:=P) (w:=w) (K:=K) (mg:=mg) (base:=base) F (vv 1) (va1 (vv 0)))⟩))))))),?_⟩;refine⟨_,rfl,_,_,rfl,.tup j,_,rfl,bZ ?_⟩;refine⟨_,rfl,_,rfl,_,_,rfl,.inr j,_,_,rfl,rfl,_,rfl,?_⟩;have J:decide ((S:Int)<=(d.length:Int))=true:=v4 (by lia);have C:decide ((d.length:Int)<=(t:Int))=true:=v4 (by lia);rw[J];refine cP ⟨_,rfl,_,_,rfl,rfl,_,rfl,?_⟩;rw[C];refine bZ ?_;dsimp only[pF,sH,tCB,dN];refine aD3 d (λ_=>.bl true) [none,some (.ref g)] ?_ (small (by lia)) (λR r=>aL3 j (λY u=>⟨_,rfl,u⟩) R r) (λv I e R l b r=>?_) rfl λD e b p=>?_
 ·exact mR 3 (by trivial) rfl rfl (by trivial)
 ·exact⟨_,rfl,g,c,B,x,y,z,O,M,rfl,o.same b,L,_,rfl,v,rfl,o.same b,i v I e R b r⟩
 ·refine⟨D,d.map λ_=>true,rfl,SqL.of (by rw[p,bDQ];rfl),?_⟩;rw[show (d.map λ_=>true).all id=true by rw[List.all_map];exact List.all_eq_true.mpr λ_ _=>rfl];exact q e b
inductive aS1 (K:bF9)(vs:List V)(H:Hp)(Q:VK)(E_:XK):Prop
 |mk (p:Addr) (v:V) (h m:Int) (_:vs=[.ref p,.int m]) (_:SqT K H p [v,.int h]) (_:0<=h) (_:h<m) (_:∀H',Same H H'->Q (.bl true) H')
def aQ7 (T:Txt w K mg)(g:Ok P w K mg base 2 "is_number_below" bQF aI4):Ok P w K mg base 3 "is_cut" z8 (aS1 K):=by
 refine Ok.ofV T.aRo aQj (by trivial) (λf d A b s H i Q E j h=>?_)
 obtain⟨p,v,h,m,rfl,a,c,e,q⟩:=h;refine⟨_,(aD (aK (gH (aL iD (by rfl) T.aZ aV (aF (vv 0) (va1 (eY (v:=.ty "tuple") (by rfl) T.iQ fU rfl)))) (gH (tL cW (aL bA (by rfl) T.eU cN (va1 (vv 0))) aA) (fX (bB g (aF (aU aR (vv 0) aA) (va1 (vv 1))))))))),?_⟩;refine⟨_,rfl,_,_,rfl,.tup a,_,rfl,cP ⟨_,rfl,_,_,rfl,.inr a,rfl,_,rfl,?_⟩⟩;refine cP ⟨_,rfl,p,_,1,_,rfl,rfl,a,at1 _ _ _,_,rfl,h,m,rfl,?_⟩;rw[v4 c,v4 e];exact q H (Same.refl H)
def aRm (h:env.cells.lookup y=some cp):closureFor { kind:=.function,names:=[(x,.local),(y,.free),(g,.globalImplicit)],isGenerator:=false,isCoroutine:=false,more:=[] } env=pure [(y,cp)]:=by
 have a:cellOf env y=pure cp:=by unfold cellOf;rw[h]
 simp[closureFor,a]
def gZ (K:bF9)(H:Hp)(v:V)(c:V × Int):Prop:=∃p,v=.ref p/\SqT K H p [c.1,.int c.2]
def gZ.same (e:Same H H')(h:gZ K H v c):gZ K H' v c:=by obtain⟨p,rfl,a⟩:=h;exact⟨p,rfl,e.bC a⟩
structure sE (kd:Str)(m:Int)(h0:Int)(cs:List (V × Int)):Prop where
 first:0<=h0/\h0<m
 each:∀c∈cs,dF kd c.1/\0<=c.2/\c.2<m
 up:(cs.map (·.1)).Pairwise λa b=>vlt a b=true
 few:cs.length<=7
def jT (h:dF kd v):yD v=true/\kindS v=kd:=by
 cases h with
 |num=>exact⟨rfl,rfl⟩
 |@wrd x hx h8=>refine⟨?_,rfl⟩;show (false || (decide (0<=x.length) && (decide (x.length<=8) && allIn x)))=true;rw[allIn_of hx,v4 h8];rfl
def aDx (h:dF kd v):Vl v:=by
 cases h with
 |num=>exact .inl ⟨_,rfl⟩
 |wrd hx h8=>exact .inr ⟨_,rfl,hx,h8⟩
def bBy (h:vlt a b=true)(q:Q (.bl true) H):bDh a b H Q:=by
 unfold vlt at h
 split at h
 ·exact .inl ⟨_,_,rfl,rfl,by rw[h];exact q⟩
 ·exact .inr ⟨_,_,rfl,rfl,by rw[h];exact q⟩
 ·cases h
inductive aNx (K:bF9)(Pt:Addr)(vs:List V)(H:Hp)(Q:VK)(E_:XK):Prop
 |mk (v:V) (kd:Str) (m h0:Int) (cs:List (V × Int)) (_:vs=[v,.str kd,.int m]) (_:kE K H (gZ K H) v ((.non,h0)::cs)) (_:aF2 kd) (_:sE kd m h0 cs) (_:H Pt=some (.tab qC)) (_:∀H',Same H H'->Q (.bl true) H')
def aJ5 (T:Txt w K mg)(C:aTm K mg "are_cuts" Pt)(hK:K.In base)(a7:BM mg base)(lQ:Ok P w K mg base 5 "is_tuple_of" o9 (aOb P w K mg base 3))(a4:Ok P w K mg base 3 "is_cut" z8 (aS1 K))
  (fQ:Ok P w K mg base 3 "is_value_of" bQL (aFn K)):Ok P w K mg base 6 "are_cuts" bQP (aNx K Pt):=by
 refine Ok.bE5 T.aLn C hK xO (λvs H Q E h=>?_) (λf c A a3 s H vs Q E CH hr h=>?_)
 ·obtain⟨v,kd,m,h0,o,rfl,_⟩:=h;rfl
 obtain⟨v,kd,m,h0,o,rfl,⟨a,us,rfl,ha,Z⟩,a8,J,hP,q⟩:=h;have a5:=jD hr;refine⟨_,(aB (bM (VW.pt (gB (cC (bR (aMc (iy:=2) lQ hr (by rfl) (vv 0) aA (iU (by rfl) T.xJ) rfl CH a7 ⟨⟨_,_,_,_,rfl⟩,λ_ _ _ _ _=>rfl,rfl,rfl,rfl,by trivial,rfl,rfl,rfl,by trivial,by trivial,by trivial,by trivial,by trivial⟩ rfl rfl rfl rfl (aRm rfl) rfl))) (fG (eG aE8 (aU aR (aU aR (vv 0) aA) aA) cD)))) (aD (aK fB)) aQ) (aB (aW2 (i0:=3) xO.nd rfl (by trivial) (N:=["cut"]) ck jN rfl (rQ (cY nA (vv 0) (dW aA) eZ)) (λcl e d fp=>⟨(jH 0),fY,(aU (cH (K:=K)) (vv 0) aA)⟩)) (aB (bM (cC (bR (aL (jP rfl) (by rfl) T.aA0 tK (va1 (cU (N:=["low","kind"]) ck (iG (aC sO)) rfl (lG (vv 3)) (λcl e d fp=>⟨(jH 0),fY,(bB fQ (aF (vv 0) (va1 (vv 1))))⟩)))))) (aD (aK fB)) aQ) (aD (aK (aL (jP rfl) (by rfl) T.aA0 tK (va1 (cU (N:=["low","after"]) ck jN rfl (aR4 (by rfl) T.aZj (aF (vv 3) (va1 (cY aBh (vv 3) (dW aA) eZ)))) (λcl e d fp=>⟨(yR (K:=K) (n:=2) rfl (cG (jH 0) (cG (jH 1) lF))),fY,(tL bAt (vv 0) (vv 1))⟩))))))))),?_⟩;have lu:=Z.len;have a6:=J.few;rw[t6] at lu;refine⟨_,rfl,.int m,rfl,hP,λlf O hL hT=>⟨a,1,8,lf,us,_,_,_,_,_,_,_,rfl,hT _ _ ha,by lia,by lia,by decide,hL,a4,λv hv d R G r=>?_,λH3 s3=>⟨s3,λH4 I=>?_⟩⟩⟩
 ·obtain⟨c,hc,p,rfl,hp⟩:=Z.mem hv;have U:0<=c.2/\c.2<m:=by
   rcases List.mem_cons.mp hc with rfl|hc
   ·exact J.first
   ·exact (J.each c hc).2
  exact⟨p,c.1,c.2,m,rfl,G.bC (hT _ _ hp),U.1,U.2,λO X=>r O X⟩
 obtain⟨u0,W,rfl,⟨p0,rfl,a0⟩,M⟩:∃u0 W,us=u0::W/\gZ K H u0 (.non,h0)/\dO (gZ K H) W o:=by
  cases Z with
  |cons r t=>exact⟨_,_,rfl,r,t⟩
 refine⟨_,rfl,bZ ?_⟩;refine⟨_,rfl,a,_,0,_,rfl,rfl,I.bC ha,at0 _ _,p0,_,0,_,rfl,rfl,I.bC a0,at0 _ _,rfl,_,rfl,bZ ?_⟩;dsimp only[pF,bF,aFd,aB5];have lt:=M.len;refine zK [none] pZ ⟨_,rfl,_,rfl,a,_,rfl,I.bC ha,λts H5 s5 S=>?_⟩;rw[show (1:Int)=((1:Nat):Int) from rfl,vQ,List.drop_one,List.tail_cons] at S;refine⟨ts,rfl,⟨_,S⟩,aGu (aMy λd e=>e.bC S) (aBq λd e=>e.bC S) ⟨none,rfl⟩ (by lia) (o.map (·.1)) (by rw[j7];lia) (λi x z B F d R l G r=>?_) λL H6 s6 nL V=>?_⟩
 ·obtain⟨c',u,p',rfl,a2⟩:=bW M B;rw[t7,u] at F;cases F;exact⟨_,rfl,p',_,0,_,rfl,rfl,(I.trans (s5.trans G)).bC a2,at0 _ _,r d (Same.refl _)⟩
 have g:∀n:Nat,(List.replicate n true).all id=true:=λn=>List.all_eq_true.mpr λb U=>(bCQ U);dsimp only[aPq,aZv,tB,tCB,dN,List.set];refine oU [none,some (.str kd)] (mR 1 (by trivial) rfl rfl (by trivial)) ⟨_,rfl,L,rfl,⟨_,SqL.of V⟩,aGu (aFk λd e=>SqL.of (e _ _ V)) (uE λd e=>SqL.of (e _ _ V)) ⟨none,rfl⟩ (by rw[j7];lia) (List.replicate o.length (.bl true)) (by rw[bDU,j7]) (λi x z B F d R l G r=>?_) λD H7 s7 _ g7=>?_⟩
 ·rw[t7] at B;obtain⟨c',u,rfl⟩:=Option.map_eq_some_iff.mp B;have k:=bCQ (m8 F);subst k;have hk:=(J.each c' (m8 u)).1;obtain⟨v1,v2⟩:=jT hk;refine⟨_,rfl,_,rfl,c'.1,kd,rfl,(aDx hk).th,λO X=>?_⟩;rw[v1,v2,v4 rfl];exact r O X
 refine⟨D,List.replicate o.length true,rfl,SqL.of (by rw[g7,bF1]),?_⟩;rw[g];refine⟨_,rfl,bZ ?_⟩;dsimp only[pF,sH,tCB,dN];have j:=s7 _ _ V;refine aR1 [none,none] vM ⟨_,rfl,_,rfl,_,rfl,L,_,rfl,SqL.of j,λa1 H8 _ Y g8=>?_⟩;rw[show (1:Int)=((1:Nat):Int) from rfl,vQ] at g8;refine⟨L,a1,_,_,rfl,SqL.of (Y _ _ j),SqL.of g8,aHh (SqL.of (Y _ _ j)) (SqL.of g8) (by rw[bBL];lia) ⟨none,none,rfl⟩ (by rw[bBL,j7];lia) (List.replicate ((o.map (·.1)).drop 1).length (.bl true)) (by rw[bDU]) (λi x y z B ey F d R G r=>?_) λD2 H9 s9 g9=>?_⟩
 ·have k:=bCQ (m8 F);subst k;rw[List.getElem?_drop] at ey;obtain⟨hi,rfl⟩:=List.getElem?_eq_some_iff.mp B;obtain⟨hj,rfl⟩:=List.getElem?_eq_some_iff.mp ey;exact⟨_,rfl,_,rfl,bBy ((List.pairwise_iff_getElem.mp J.up) i (1+i) hi hj (by lia)) (r d (Same.refl _))⟩
 ·refine⟨D2,List.replicate ((o.map (·.1)).drop 1).length true,rfl,SqL.of (by rw[g9,bF1]),?_⟩;rw[g];exact q H9 (I.trans (s5.trans (s6.trans (s7.trans (Y.trans s9)))))
end
end My
namespace L2
open PySem PySem.Spec PyProof.Rows
def aQs {K:bF9}{tl:TA}{t u:Addr}(xs ys j:List V)(hz:j.length=xs.length)(s:St)(w:Cap X scope N σ s)(hsz:xs.length<=sizeLine)(hl:xs.length=ys.length)
  (n:SqT K H t xs) (C:SqT K H u ys) (G:∀R:List V->Hp->Prop,R [.ref t,.ref u] H->tl σ H R)
  (I:∀(i:Nat) (x y z:V),xs[i]?=some x->ys[i]?=some y->j[i]?=some z->∀H' R l1 l2,Same H H'->(∀H2,Same H' H2->R z H2)->te ((((s.set 0 l1).set 1 l2).set 0 (some x)).set 1 (some y)) H' R) (L:s[0]?=some none) (J:s[1]?=some none)
  (q:∀D H',Same H H'->H' D=some (.lst j)->Q (.ref D) H') :
  jE X scope N (aRr K tl) (aIv K 2 (rB (bF 0) (rB (bF 1) aQi))) kO te σ H Q:=by
 refine⟨s,w,G _ ⟨t,u,xs,ys,rfl,n,C,λD k=>?_⟩⟩;refine⟨λi m l H' g=>i<=xs.length/\m=xs.length - i/\(∃l1 l2,l=(s.set 0 l1).set 1 l2)/\Same H H'/\H' D=some (.lst g)/\g=j.take i,⟨xs.length,bAF _,rfl,⟨none,none,?_⟩,aO k _,aG,rfl⟩,?_⟩
 ·rw[<-jM L];exact jM J
 rintro i m l H' g ⟨hi,rfl,⟨l1,l2,rfl⟩,sm,hL,rfl⟩;refine⟨hL,?_⟩;by_cases d:i<xs.length
 ·right;refine⟨⟨sm.bC n,sm.bC C,d,by lia⟩,λv H2 B=>?_⟩;obtain⟨T,a,b,r,rfl,rfl,A,E⟩:=B;have h:Same H' (upd H' T (.tup [a,b])):=aO r _;refine⟨T,[a,b],rfl,.inl (.inl aG),rfl,a,[b],rfl,b,[],rfl,rfl,?_⟩;unfold kO;dsimp only;rw[if_pos rfl];have f:i<j.length:=by lia
  refine I i a b _ A E (b8 f) _ _ l1 l2 (λb o e=>h _ _ (sm _ _ e)) λF p=>⟨p _ _ (h _ _ hL),?_,xs.length - (i+1),by lia,d,rfl,⟨some a,some b,?_⟩,?_,aG,?_⟩
  ·rw[bAR];lia
  ·rw[List.set_comm _ _ (show (1:Nat)≠0 by decide),bCK,bCK]
  ·intro c o e;rw[aM (aW e k)];exact p _ _ (h _ _ (sm _ _ e))
  ·rw[bBW,b8 f];rfl
 ·left;have e:i=xs.length:=by lia
  subst e;refine⟨⟨sm.bC n,j0 _⟩,?_⟩;rw[bAV (by lia)] at hL;exact q D _ sm hL
end L2
namespace My
open PySem PySem.Spec PyProof.Rows L2
section
variable {P:Program}{w:World}{K:bF9}{mg:bGC}{base:Heap}
def aP3 (hd:Hdr):Prop:=Good hd/\∀c∈hd,Nm c.1/\aF2 c.2
inductive aHu (K:bF9)(vs:List V)(H:Hp)(Q:VK)(E_:XK):Prop
 |mk (v:V) (hd:Hdr) (_:vs=[v]) (_:jK K H v hd) (_:aP3 hd) (_:∀H',Same H H'->Q (.bl true) H')
def cF (K:bF9)(H:Hp)(D:Addr)(rs:List (List V)):Prop:=∃us,H D=some (.lst us)/\dO (dJ K H) us rs
def cF.same (e:Same H H')(h:cF K H D rs):cF K H' D rs:=by obtain⟨b,c,a⟩:=h;exact⟨b,e _ _ c,a.imp λ_ _ r=>r.same e⟩
def aKc (T:Txt w K mg)(O:Ok P w K mg base 3 "is_column" o6 (bCb (aE4 K)))(lQ:Ok P w K mg base 4 "is_tuple_of" o9 (aJk P w K mg base 3))
  (U:Ok P w K mg base 1 "are_unlike" ["names"] (aDi K)) (jR:Ok P w K mg base 1 "names_of" ["head"] (aGo K)):Ok P w K mg base 5 "is_head" o6 (aHu K):=by
 refine Ok.ofV T.aQr aMt (by trivial) (λf J A j s H vs Q E Z h=>?_)
 obtain⟨v,hd,rfl,⟨a,l,rfl,m,i⟩,b,q⟩:=h;obtain⟨k,S,F⟩:=O.held;have N:∃u,mg "is_column"=some u/\RelV (.ref k) u:=⟨_,S,rfl⟩;refine⟨_,(aD (aK (gH (bB lQ (aF (vv 0) (aF aA (aF (iU (by rfl) T.zB) (va1 (iU (by rfl) N)))))) (fX (bB U (va1 (bB jR (va1 (vv 0))))))))),?_⟩;have Y:=i.len;have W:=b.1.2.1;have l2:=b.1.2.2;have d:l.all (λ_=>true)=true:=List.all_eq_true.mpr λ_ _=>rfl;have G:aEk K (aE4 K) 1 8 H (.ref a) true:=by
  have:=aEk.yes (K:=K) (R:=aE4 K) (lo:=1) (hi:=8) (H:=H) (λ_=>true) m (by lia) (by lia) (λx I=>by
   obtain⟨c,L,p,rfl,y⟩:=i.mem I;obtain⟨r,o⟩:=b.2 c L;have g:Th K H (.str c.2):=aL2 (by rcases o with e|e <;> rw[e] <;> decide +kernel);have z:=aE4.two (K:=K) (H:=H) y r.th g;have e:(nameB (.str c.1) && (isS (.str c.2) && inV (.str c.2) kinds))=true:=by rw[show nameB (.str c.1)=true from r];rcases o with e|e <;> rw[e] <;> decide +kernel
   rw[e] at z;exact z)
  rw[d] at this;exact this
 refine⟨_,rfl,_,1,8,k,_,_,_,rfl,by decide,F,aQ0 K,G,λX n=>⟨_,rfl,cP ?_⟩⟩;refine⟨_,rfl,.ref a,hd,rfl,jK.same n ⟨a,l,rfl,m,i⟩,by lia,λD V B t=>?_⟩;refine⟨D,hd.map (·.1),rfl,SqL.of t,by rw[j7];lia,λC M=>?_⟩;rw[v4 b.1.1];exact q C ((n.trans B).trans M)
def qR (hd:Hdr)(r:List V):Prop:=dO (λc v=>dF c.2 v) hd r
inductive aOn (K:bF9)(vs:List V)(H:Hp)(Q:VK)(E_:XK):Prop
 |mk (vh v:V) (hd:Hdr) (r:List V) (_:vs=[vh,v]) (_:jK K H vh hd) (_:hd.length<=1000) (_:dJ K H v r) (_:qR hd r) (_:∀H',Same H H'->Q (.bl true) H')
inductive aJ2 (K:bF9)(vs:List V)(H:Hp)(Q:VK)(E_:XK):Prop
 |mk (vh:V) (hd:Hdr) (n:Str) (_:vs=[vh,.str n]) (_:jK K H vh hd) (_:hd.length<=1000) (_:Nm n) (_:n∈hd.map (·.1)) (_:∀H',Same H H'->Q (.bl true) H')
def yF (T:Txt w K mg)(u:Ok P w K mg base 2 "is_name" o6 (aCj K nameB))(o:Ok P w K mg base 1 "names_of" ["head"] (aGo K)):Ok P w K mg base 3 "is_column_in" u5 (aJ2 K):=by
 refine Ok.ofV T.aAq yE (by trivial) (λf i A a s H p Q E t h=>?_)
 obtain⟨m,hd,n,rfl,g,j,c,d,q⟩:=h;refine⟨_,(aD (aK (gH (bB u (va1 (vv 1))) (fX (mU wD (vv 1) (bB o (va1 (vv 0))) (by with_unfolding_all rfl)))))),?_⟩;refine⟨_,rfl,_,rfl,c.th,λr b=>⟨_,rfl,?_⟩⟩;rw[show nameB (.str n)=true from c];refine cP ⟨_,rfl,_,rfl,m,hd,rfl,g.same b,j,λD k l e=>?_⟩;refine⟨D,_,rfl,.inl (SqL.of e),rfl,aHl,?_⟩;rw[aO5,v4 d];exact q k (b.trans l)
inductive Plc where
 |copies
 |keys (n:Str)
 |spans (n:Str) (h0:Int) (cs:List (V × Int))
def zP (K:bF9)(H:Hp)(v:V):Plc->Prop
 |.copies=>∃a,v=.ref a/\SqT K H a [.str "copies"]
 |.keys n=>∃a,v=.ref a/\SqT K H a [.str "keys",.str n]
 |.spans n h0 cs=>∃a vc,v=.ref a/\SqT K H a [.str "spans",.str n,vc]/\kE K H (gZ K H) vc ((.non,h0)::cs)
def zP.same (e:Same H H')(h:zP K H v pl):zP K H' v pl:=by
 cases pl with
 |copies=>obtain⟨a,rfl,b⟩:=h;exact⟨a,rfl,e.bC b⟩
 |keys n=>obtain⟨a,rfl,b⟩:=h;exact⟨a,rfl,e.bC b⟩
 |spans n h0 cs=>obtain⟨a,c,rfl,b,d⟩:=h;exact⟨a,c,rfl,e.bC b,kE.same e (λ_ _ q=>q.same e) d⟩
def aZt (hd:Hdr)(m:Int):Plc->Prop
 |.copies=>True
 |.keys n=>Nm n/\∃k,look hd n=some k
 |.spans n h0 cs=>Nm n/\∃k,look hd n=some k/\aF2 k/\sE k m h0 cs
def aBo (h:look hd n=some k):n∈hd.map (·.1):=by obtain⟨i,a,_⟩:=aGw h;exact List.mem_map.mpr ⟨_,m8 a,rfl⟩
def dZ {p q:Prop}(h:c=true)(a:p):if c=true then p else q:=by rw[if_pos h];exact a
def dU {p q:Prop}(h:c=false)(a:q):if c=true then p else q:=by rw[if_neg (by rw[h];exact v6)];exact a
inductive aY6 (K:bF9)(Pt:Addr)(vs:List V)(H:Hp)(Q:VK)(E_:XK):Prop
 |mk (v vh:V) (m:Int) (hd:Hdr) (pl:Plc) (_:vs=[v,vh,.int m]) (_:zP K H v pl) (_:jK K H vh hd) (_:hd.length<=1000) (_:aZt hd m pl) (_:H Pt=some (.tab qC)) (_:∀H',Same H H'->Q (.bl true) H')
def th8 (h:x.length<=8):Th K H (.str x):=aL2 h
def aCd (T:Txt w K mg)(M:Ok P w K mg base 1 "is_one_of" bQO (aLw K))(W:Ok P w K mg base 3 "is_column_in" u5 (aJ2 K))(vR:Ok P w K mg base 1 "kind_in" bQE (aK3 K))(a0:Ok P w K mg base 6 "are_cuts" bQP (aNx K Pt)):Ok P w K mg base 7 "is_placing" bQJ (aY6 K Pt):=by
 refine Ok.ofV T.aGm aB8 (by trivial) (λf U A F s H vs Q E hr h=>?_)
 obtain⟨v,B,m,hd,pl,rfl,i,r,L,j,R,q⟩:=h;refine⟨_,(aB (bM (VW.pt (gB (cC (bR (aL iD (by rfl) T.aZ aV (aF (vv 0) (va1 (eY (v:=.ty "tuple") (by rfl) T.iQ fU rfl)))))) (fG (eG cW (aL bA (by rfl) T.eU cN (va1 (vv 0))) aA)))) (aD (aK fB)) aQ) (aB (bM (bR (bB M (aF (aU aR (vv 0) aA) (va1 (bL (va1 aP)))))) (aD (aK (tL cW (aL bA (by rfl) T.eU cN (va1 (vv 0))) aA))) aQ) (aB (bM (bR (bB M (aF (aU aR (vv 0) aA) (va1 (bL (va1 aP)))))) (aD (aK (gH (tL cW (aL bA (by rfl) T.eU cN (va1 (vv 0))) aA) (fX (bB W (aF (vv 1) (va1 (aU aR (vv 0) aA)))))))) aQ) (aB (bM (VW.pt (gB (cC (bR (bB M (aF (aU aR (vv 0) aA) (va1 (bL (va1 aP))))))) (gB (eG aAa (aL bA (by rfl) T.eU cN (va1 (vv 0))) aA) (fG (cC (bR (bB W (aF (vv 1) (va1 (aU aR (vv 0) aA)))))))))) (aD (aK fB)) aQ) (aD (aK (bB a0 (aF (aU aR (vv 0) aA) (aF (bB vR (aF (vv 1) (va1 (aU aR (vv 0) aA)))) (va1 (vv 2))))))))))),?_⟩;cases pl with
 |copies=>obtain⟨a,rfl,b⟩:=i;refine⟨_,rfl,_,_,rfl,.tup b,_,rfl,bZ ⟨_,rfl,_,_,rfl,.inr b,rfl,_,rfl,bZ ?_⟩⟩;refine⟨_,rfl,a,_,0,_,rfl,rfl,b,at0 _ _,by decide,λo u _ g l=>⟨_,o,_,rfl,th8 (by trivial),SqT.of l,rfl,_,rfl,dZ (by trivial) ?_⟩⟩;refine⟨_,rfl,_,_,rfl,.inr (g.bC b),rfl,?_⟩;exact q u g
 |keys n=>obtain⟨a,rfl,b⟩:=i;obtain⟨J,k,p⟩:=j;refine⟨_,rfl,_,_,rfl,.tup b,_,rfl,bZ ⟨_,rfl,_,_,rfl,.inr b,rfl,_,rfl,bZ ?_⟩⟩;refine⟨_,rfl,a,_,0,_,rfl,rfl,b,at0 _ _,by decide,λo u _ g l=>⟨_,o,_,rfl,th8 (by trivial),SqT.of l,rfl,_,rfl,dU (by trivial) ?_⟩⟩;refine⟨_,rfl,a,_,0,_,rfl,rfl,g.bC b,at0 _ _,by decide,λG O _ x D=>⟨_,G,_,rfl,th8 (by trivial),SqT.of D,rfl,_,rfl,dZ (by trivial) ?_⟩⟩;have c:=g.trans x;refine⟨_,rfl,_,_,rfl,.inr (c.bC b),rfl,_,rfl,cP ?_⟩;exact⟨_,rfl,_,rfl,a,_,1,_,rfl,rfl,c.bC b,at1 _ _ _,B,hd,n,rfl,r.same c,L,J,aBo p,λy C=>q y (c.trans C)⟩
 |spans n h0 cs=>obtain⟨a,Z,rfl,b,X⟩:=i;obtain⟨J,k,p,I,t⟩:=j;refine⟨_,rfl,_,_,rfl,.tup b,_,rfl,bZ ⟨_,rfl,_,_,rfl,.inr b,rfl,_,rfl,bZ ?_⟩⟩;refine⟨_,rfl,a,_,0,_,rfl,rfl,b,at0 _ _,by decide,λo u _ g l=>⟨_,o,_,rfl,th8 (by trivial),SqT.of l,rfl,_,rfl,dU (by trivial) ?_⟩⟩;refine⟨_,rfl,a,_,0,_,rfl,rfl,g.bC b,at0 _ _,by decide,λG O _ x D=>⟨_,G,_,rfl,th8 (by trivial),SqT.of D,rfl,_,rfl,dU (by trivial) ?_⟩⟩;have c:=g.trans x;refine⟨_,rfl,a,_,0,_,rfl,rfl,c.bC b,at0 _ _,by decide,λS H3 _ Y N=>⟨_,S,_,rfl,th8 (by trivial),SqT.of N,rfl,_,rfl,dU (by trivial) ?_⟩⟩;have e:=c.trans Y;refine⟨_,rfl,_,_,rfl,.inr (e.bC b),rfl,_,rfl,bZ ?_⟩;refine⟨_,rfl,_,rfl,a,_,1,_,rfl,rfl,e.bC b,at1 _ _ _,B,hd,n,rfl,r.same e,L,J,aBo p,λH4 V=>⟨_,rfl,bZ ?_⟩⟩;have d:=e.trans V;refine⟨_,rfl,a,_,2,_,rfl,rfl,d.bC b,at2 _ _ _ _,_,rfl,_,rfl,a,_,1,_,rfl,rfl,d.bC b,at1 _ _ _,B,n,hd,k,rfl,r.same d,p,_,rfl,?_⟩;exact⟨Z,k,m,h0,cs,rfl,kE.same d (λ_ _ z=>z.same d) X,I,t,d _ _ R,λy C=>q y (d.trans C)⟩
inductive aKf (K:bF9)(vs:List V)(H:Hp)(Q:VK)(E_:XK):Prop
 |mk (L:Addr) (vh:V) (hd:Hdr) (rows:List (List V)) (_:vs=[.ref L,vh]) (_:jK K H vh hd) (_:hd.length<=1000) (_:cF K H L rows) (_:rows.length<=1000) (_:(∀r∈rows,qR hd r)) (_:∀H',Same H H'->Q (.bl true) H')
def aJi (T:Txt w K mg)(pM:Ok P w K mg base 4 "is_row" u5 (aOn K)):Ok P w K mg base 5 "are_rows" bQW (aKf K):=by
 refine Ok.ofV T.aK5 aIb (by trivial) (λf S A n s H Z Q E Y h=>?_)
 obtain⟨L,t,hd,u,rfl,B,C,⟨a,d,y⟩,hn,e,q⟩:=h;refine⟨_,(aD (aK (gH (aL aRb (by rfl) T.aZ aV (aF (vv 0) (va1 (eY (v:=.ty "list") (by rfl) T.wG qG rfl)))) (fX (aL (jP rfl) (by rfl) T.aA0 tK (va1 (cU (N:=["row","head"]) ck (iG (aC tE)) rfl (lG (vv 0)) (λW c j fp=>⟨(jH 0),fY,(bB pM (aF (vv 1) (va1 (vv 0))))⟩)))))))),?_⟩;have X:=y.len;refine⟨_,rfl,L,a,rfl,SqL.of d,_,rfl,cP ?_⟩;dsimp only[sH,tCB,dN];refine oU [none,some t] (mR 1 (by trivial) rfl rfl (by trivial)) ⟨_,rfl,L,rfl,⟨_,SqL.of d⟩,aGu (aFk λj c=>SqL.of (c _ _ d)) (uE λj c=>SqL.of (c _ _ d)) ⟨none,rfl⟩ (by lia) (List.replicate a.length (.bl true)) (by rw[bDU]) (λi x z U V j R l p r=>?_) λD I F _ O=>?_⟩
 ·have m:=bCQ (m8 V);subst m;obtain⟨o,g,M⟩:=bW y U;exact⟨_,rfl,_,rfl,t,x,hd,o,rfl,B.same p,C,M.same p,e o (m8 g),λG J=>r G J⟩
 ·refine⟨D,List.replicate a.length true,rfl,SqL.of (by rw[O,bF1]),?_⟩;rw[show (List.replicate a.length true).all id=true from List.all_eq_true.mpr λb k=>bCQ k];exact q I F
structure Tb where
 hd:Hdr
 pl:Plc
 rows:List (List V)
def lU (K:bF9)(H:Hp)(v:V)(vh vp:V)(L:Addr)(t:Tb):Prop:=∃a,v=.ref a/\SqT K H a [vh,vp,.ref L]/\jK K H vh t.hd/\zP K H vp t.pl/\cF K H L t.rows
structure kJ (m:Int)(t:Tb):Prop where
 hd:aP3 t.hd
 pl:aZt t.hd m t.pl
 few:t.rows.length<=60
 rows:∀r∈t.rows,qR t.hd r
inductive aYz (K:bF9)(Pt:Addr)(vs:List V)(H:Hp)(Q:VK)(E_:XK):Prop
 |mk (v vh vp:V) (L:Addr) (m:Int) (t:Tb) (_:vs=[v,.int m]) (_:lU K H v vh vp L t) (_:kJ m t) (_:H Pt=some (.tab qC)) (_:∀H',Same H H'->Q (.bl true) H')
def aH9 (T:Txt w K mg)(r:Ok P w K mg base 5 "is_head" o6 (aHu K))(l:Ok P w K mg base 7 "is_placing" bQJ (aY6 K Pt))(B:Ok P w K mg base 5 "are_rows" bQW (aKf K)):Ok P w K mg base 8 "is_table" z8 (aYz K Pt):=by
 refine Ok.ofV T.aLx aJj (by trivial) (λf y A k s H J Q E G h=>?_)
 obtain⟨v,i,u,L,m,t,rfl,⟨a,rfl,c,g,j,n⟩,e,x,q⟩:=h;have I:=e.hd.1.2.2;have C:=e.few;refine⟨_,(aB (bM (VW.pt (gB (cC (bR (aL iD (by rfl) T.aZ aV (aF (vv 0) (va1 (eY (v:=.ty "tuple") (by rfl) T.iQ fU rfl)))))) (gB (eG aAa (aL bA (by rfl) T.eU cN (va1 (vv 0))) aA) (fG (cC (bR (bB r (va1 (aU aR (vv 0) aA))))))))) (aD (aK fB)) aQ) (aD (aK (gH (bB l (aF (aU aR (vv 0) aA) (aF (aU aR (vv 0) aA) (va1 (vv 1))))) (fX (bB B (aF (aU aR (vv 0) aA) (va1 (aU aR (vv 0) aA))))))))),?_⟩;refine⟨_,rfl,_,_,rfl,.tup c,_,rfl,bZ ⟨_,rfl,_,_,rfl,.inr c,rfl,_,rfl,bZ ?_⟩⟩;refine⟨_,rfl,a,_,0,_,rfl,rfl,c,at0 _ _,i,t.hd,rfl,g,e.hd,λF d=>⟨_,rfl,bZ ?_⟩⟩;refine⟨_,rfl,a,_,1,_,rfl,rfl,d.bC c,at1 _ _ _,_,rfl,a,_,0,_,rfl,rfl,d.bC c,at0 _ _,_,rfl,u,i,m,t.hd,t.pl,rfl,j.same d,g.same d,by lia,e.pl,d _ _ x,λD o=>⟨_,rfl,cP ?_⟩⟩;have b:=d.trans o;exact⟨_,rfl,a,_,2,_,rfl,rfl,b.bC c,at2 _ _ _ _,_,rfl,a,_,0,_,rfl,rfl,b.bC c,at0 _ _,L,i,t.hd,t.rows,rfl,g.same b,by lia,n.same b,by lia,e.rows,λp z=>q p (b.trans z)⟩
def aVk:decide (V.int (n:Nat)=V.int (k:Nat))=decide (n=k):=decide_eq_decide.mpr ⟨λz=>by have:=V.int.inj z;lia,λz=>by rw[z]⟩
def aGk (hd:Hdr):Tg->Bool
 |.tup ts=>decide (ts.length=hd.length) && (ts.zip hd).all λp=>vW p.2.2 p.1
 |_=>false
inductive yN (K:bF9)(vs:List V)(H:Hp)(Q:VK)(E_:XK):Prop
 |mk (vh v:V) (hd:Hdr) (t:Tg) (_:vs=[vh,v]) (_:jK K H vh hd) (_:hd.length<=1000) (_:dD K H v t) (_:∀H',Same H H'->Q (.bl (aGk hd t)) H')
def aKu (T:Txt w K mg)(fQ:Ok P w K mg base 3 "is_value_of" bQL (aFn K)):Ok P w K mg base 4 "is_row" u5 (yN K):=by
 refine Ok.ofV T.aU3 aQd (by trivial) (λf S A o s H j Q E hr h=>?_)
 obtain⟨vh,v,hd,t,rfl,⟨b,k,rfl,F,C⟩,Y,y,q⟩:=h;have lc:=C.len;refine⟨_,(aB (bM (VW.pt (gB (cC (bR (aL iD (by rfl) T.aZ aV (aF (vv 1) (va1 (eY (v:=.ty "tuple") (by rfl) T.iQ fU rfl)))))) (fG (eG aAa (aL bA (by rfl) T.eU cN (va1 (vv 1))) (aL bA (by rfl) T.eU cN (va1 (vv 0))))))) (aD (aK fB)) aQ) (aD (aK (aL (jP rfl) (by rfl) T.aA0 tK (va1 (cU (N:=["value","column"]) ck jN rfl (aX8 (by rfl) T.aZj (aF (vv 1) (va1 (vv 0)))) (λZ s' d fp=>⟨(yR (K:=K) (n:=2) rfl (cG (jH 0) (cG (jH 1) lF))),fY,(bB fQ (aF (vv 0) (va1 (aU (cH (K:=K)) (vv 1) aA))))⟩))))))),?_⟩;refine⟨_,rfl,_,_,rfl,bDn y,_,rfl,?_⟩;cases y with
 |@tup a j ts ha hl' hts=>
  have ll:=hts.len;have q:∀d,Same H d->Q (.bl (decide (ts.length=hd.length) && (ts.zip hd).all λp=>vW p.2.2 p.1)) d:=q;refine bZ ⟨_,rfl,_,_,rfl,.inr ha,_,rfl,_,_,rfl,.inr F,rfl,_,rfl,?_⟩;rw[aVk];by_cases e:ts.length=hd.length
  ·rw[v4 e,Bool.true_and] at q;rw[v4 (show j.length=k.length by lia)];refine bZ ?_;dsimp only[pF,sH,tCB,dN];refine aQs j k ((ts.zip hd).map λp=>V.bl (vW p.2.2 p.1)) (by rw[j7,List.length_zip];lia) [none,none] vM (small (by lia)) (by lia) ha F (λR r=>⟨_,rfl,_,rfl,r⟩) (λi x c z W M G d R l1 l2 g L=>?_) rfl rfl λD d g I=>?_
   ·obtain⟨B,m,p,rfl,J⟩:=bW C M;obtain⟨X,l,u⟩:=hts.at W;rw[t7,(List.getElem?_zip_eq_some (z:=(X,B))).mpr ⟨l,m⟩] at G;cases G;refine⟨_,rfl,_,rfl,p,_,1,_,rfl,rfl,g.bC J,at1 _ _ _,x,B.2,rfl,aPc (u.same g),λO U=>?_⟩;rw[aRv u];exact L O U
   ·refine⟨D,(ts.zip hd).map λp=>vW p.2.2 p.1,rfl,SqL.of (by rw[I,bDQ];rfl),?_⟩;rw[List.all_map];exact q d g
  ·rw[v5 e,Bool.false_and] at q;rw[v5 (show ¬ j.length=k.length by lia)];exact cP (q H (Same.refl H))
 |_=>exact cP (q H (Same.refl H))
def vTg:V->Tg
 |.int i=>.int i
 |.str x=>.str x
 |_=>.non
def aDq (h:dF kd v):dD K H v (vTg v)/\vW kd (vTg v)=true/\flat (vTg v)=v:=by
 have a:=jT h;cases h with
 |@num i=>exact⟨.int,(by show (yD (.int i) && decide (kindS (.int i)=_))=true;rw[a.1,a.2,v4 rfl];rfl),rfl⟩
 |@wrd x hx h8=>exact⟨.str (by lia),(by show (yD (.str x) && decide (kindS (.str x)=_))=true;rw[a.1,a.2,v4 rfl];rfl),rfl⟩
def aOx (h:qR hd r):∃ts,cM K H r ts/\ts.length=hd.length/\((ts.zip hd).all λp=>vW p.2.2 p.1)=true:=by
 unfold qR at h
 induction h with
 |nil=>exact⟨[],.nil,rfl,rfl⟩
 |@cons c v hd r k _ ih=>obtain⟨ts,e,a,f⟩:=ih;obtain⟨d,b,_⟩:=aDq k;exact⟨vTg v::ts,.cons d e,by rw[t6,t6,a],by rw[List.zip_cons_cons,bFK,f,Bool.and_true];exact b⟩
def aX0 (G:Ok P w K mg base 4 "is_row" u5 (yN K)):Ok P w K mg base 4 "is_row" u5 (aOn K):=by obtain⟨f,k,s,n,t,j⟩:=G;refine⟨f,k,s,n,t,j.imp λu H Q E h=>?_⟩;obtain⟨o,v,hd,r,rfl,e,i,⟨a,rfl,l⟩,c,q⟩:=h;obtain⟨b,d,m,g⟩:=aOx c;refine⟨o,_,hd,.tup b,rfl,e,i,.tup l (by rw[d.len];lia) d,?_⟩;rw[show aGk hd (.tup b)=(decide (b.length=hd.length) && (b.zip hd).all λp=>vW p.2.2 p.1) from rfl,m,v4 rfl,g];exact q
end
end My
namespace L2
open PySem PySem.Spec PyProof.Rows
section
variable {X:Cx}{H:Hp}{s:Shared}{d:Addr}
def aVs (i:HOk X.prog X.w H s.heap)(hd:H d=some u)(k:∀xs,u≠.tup xs)(j:∀a,u≠.own a)(h:cV X.prog X.w H s.heap d u'):HOk X.prog X.w (upd H d u') s.heap:=by
 have f:∀{b v},cV X.prog X.w H s.heap b v->cV X.prog X.w (upd H d u') s.heap b v:=λ{b v} z=>z.stay (λ_ _ _ q=>q) (λc q=>by
  rw[aM (λe=>by subst e;rw[hd] at q;exact j _ (bAH q))];exact q) λc xs q=>by
  rw[aM (λe=>by subst e;rw[hd] at q;exact k _ (bAH q))];exact q
 intro b v e;by_cases g:b=d
 ·subst g;rw[aG] at e;cases e;exact f h
 ·rw[aM g] at e;exact f (i b v e)
def Inv.setd (I:Inv X bGD σ H s)(hd:H d=some u)(l:∀xs,u≠.tup xs)(y:∀a,u≠.own a)(r:∀ps,u≠.tbl ps)(t:∀ob v,X.H₀ d≠some (.frz ob v))(h:cV X.prog X.w H s.heap d u'):Inv X bGD σ (upd H d u') s:=by
 have g:∀{b},H b=none->upd H d u' b=none:=λ{b} e=>by rw[aM (λz=>by subst z;rw[hd] at e;cases e)];exact e
 refine⟨I.ok,I.os,I.bare,⟨I.base.keep,I.base.slot,λb ob e n k=>g (I.base.free b ob e n k),I.base.there,λb xs e=>?_,λb ob v e=>?_,λb ps e=>?_⟩,I.loc,I.cell,g I.free,λx c e=>g (I.freeC x c e),λp i=>?_,aVs I.hok hd l y h,I.len⟩
 ·have q:=I.base.tups b xs e;rw[aM (λz=>by subst z;rw[hd] at q;exact l _ (bAH q))];exact q
 ·have q:=I.base.frzs b ob v e;rw[aM (λz=>by subst z;exact t _ _ e)];exact q
 ·obtain⟨f,q⟩:=I.base.tbls b ps e;refine⟨f,?_⟩;rw[aM (λz=>by subst z;rw[hd] at q;exact r _ (bAH q))];exact q
 ·obtain⟨o,m,j⟩:=I.pin p i;exact⟨o,g m,j⟩
end
def aNs (b:o.data=.dict es ep)(m:cV P w H h d (.frz o (.dK kvs))):∃vs,KV kvs vs/\h.DictAt (bU P w) d vs ep:=by obtain⟨e,_,_,vs,a,⟨l,k,g,c,j,f,i⟩⟩:=m;rw[e] at c;cases c;rw[b] at f;cases f;exact⟨vs,a,o,es,e,j,b,i⟩
def bDd (d:Addr)(kvs:List (Key × V))(D:Ends):Ends:={ nx:=fun σ H=>(∃o,H d=some (.frz o (.dK kvs)))/\D.nx σ (upd H d (.dK kvs)),rt:=λv H=>(∃o,H d=some (.frz o (.dK kvs)))/\D.rt v (upd H d (.dK kvs)) }
def bDu (X:Cx)(t:TS):TS:=λD σ H=>∃d kvs,H d=some (.dK kvs)/\((∀ob u,X.H₀ d≠some (.frz ob u))->t (bDd d kvs D) σ H)
def aX7 {st:Stmt}{t:TS}(h:VS X st t):VS X st (bDu X t):=⟨by
 intro c s σ H D I ⟨d,k,hd,q⟩;have w:∀p u,X.H₀ d≠some (.frz p u):=λp u e=>by have:=I.base.frzs d p u e;rw[hd] at this;cases this
 have a:∀{b j l o},Inv X c b j l->j d=some (.frz o (.dK k))->Inv X c b (upd j d (.dK k)) l:=λ{b j l o} g i=>g.setd i (λ_ z=>by cases z) (λ_ z=>by cases z) (λ_ z=>by cases z) w (g.hok d _ i).2;refine thn (h.1 c s σ H _ I (q w)) λf l m=>?_;cases f with
 |next=>obtain⟨b,j,g,⟨o,i⟩,n⟩:=m;exact⟨b,_,a g i,n⟩
 |brk=>obtain⟨_,_,_,z⟩:=m;exact z.elim
 |cont=>obtain⟨_,_,_,z⟩:=m;exact z.elim
 |ret u=>obtain⟨v,b,j,g,r,⟨o,i⟩,n⟩:=m;exact⟨v,b,_,a g i,r,n⟩⟩
end L2
namespace PySem
section
variable {K:Type}[DecidableEq K]
end
end PySem
namespace L2
open PySem PySem.Spec PyProof.Rows
end L2
namespace PySem
end PySem
namespace L2
open PySem PySem.Spec PyProof.Rows
end L2
namespace PySem
def aYn {it d:Addr}{i ep:Nat}{od:Obj}{es:Array DictEntry}{I n:Value}{Q:Option Value->Shared->Prop}(r:IsItemIter s.heap it d i es.size ep I n)(S:s.heap.get? d=some od)(W:od.data=.dict es ep)(lt:i<es.size)
  (q:∀h',IsItemIterOut h' it d (i+1) es.size ep es[i].key es[i].val s.heap.objs.size->h'.get? s.heap.objs.size=some { cls:=.type "tuple",data:=.seq #[es[i].key,es[i].val] }->h'.objs.size=s.heap.objs.size+1 ->
   (∀b o,b≠it->s.heap.get? b=some o->h'.get? b=some o)->Q (some (.ref s.heap.objs.size)) { s with heap:=h' }):wpAny (model prog w) A (pyNext (.ref it)) Q E s:=by
 have g:s.TypeIs (.ref it) "dict_itemiterator":=⟨_,r,rfl⟩;have Z:it<s.heap.objs.size:=m9 r;unfold pyNext;refine b7 (bCA (bAK (name:="__next__") g F.slot_dict_itemiterator_next (bAL F.slot_dict_itemiterator_next g F.entry_dict_itemiterator_next (b7 (d8 (b7 (b7 ?_)))) (F.args_dict_itemiterator_next_1 _))));refine b7 (bCO g (d8 (b7 (bEC r rfl ?_))));rw[show Builtin.Dict_items.ownsTuple "dict_itemiterator"=true from by decide];simp only[if_true];have Y:¬ ((Value.ref d == Value.none)=true):=v6;show wpAny _ _ (ite ((Value.ref d == Value.none)=true) _ _) _ _ _;rw[if_neg Y];refine b7 (d8 (b7 (bF8 S W ?_)));rw[if_neg (by simp)];refine b7 (d8 (b7 (wpAny_dictEpoch S W ?_)));rw[if_neg (by simp)];have P:¬ ((i:Int)<0):=by lia
 refine d8 ?_;simp only[P,if_false,bAJ,j6 lt];refine b7 (b7 (bCO g (d8 (b7 (bFB g ?_)))));show wpAny _ _ (setField (.ref it) 3 (rawInt ((i:Int)+1)) >>= _) _ _ s;refine b7 (bAQ r (by simp) λa X H=>?_);have K:IsItemIter a it d (i+1) es.size ep I n:=by
  have z:((i+1:Nat):Int)=(i:Int)+1:=by lia
  unfold IsItemIter;rw[z];simpa [rawInt] using X
 have j:Shared.TypeIs { s with heap:=a } (.ref it) "dict_itemiterator":=⟨_,K,rfl⟩;refine b7 (bAP (b7 (bFB j (b7 (bFB j ?_)))));have f:a.objs.size=s.heap.objs.size:=H.1;show wpAny _ _ (Builtin.Dict_items.pairFromOwner (.ref it) 6 es[i].key es[i].val) _ _ { s with heap:=a };unfold Builtin.Dict_items.pairFromOwner;refine b7 (bFZ ?_);have k:IsItemIter (a.push { cls:=.type "tuple",data:=.seq #[es[i].key,es[i].val] }) it d (i+1) es.size ep I n:=d7 _ K;have J:(a.push { cls:=.type "tuple",data:=.seq #[es[i].key,es[i].val] }).get? s.heap.objs.size=some { cls:=.type "tuple",data:=.seq #[es[i].key,es[i].val] }:=by rw[<-f];exact j8 _ rfl
 have l:(a.push { cls:=.type "tuple",data:=.seq #[es[i].key,es[i].val] }).objs.size=s.heap.objs.size+1:=by rw[bBP,f]
 have y:∀b o,b≠it->s.heap.get? b=some o->(a.push { cls:=.type "tuple",data:=.seq #[es[i].key,es[i].val] }).get? b=some o:=λb o c e=>d7 _ (H.extBut b o c e);rw[show ({ s with heap:=a }:Shared).heap.objs.size=s.heap.objs.size from f];show wpAny _ _ (Builtin.Dict_items.ownedTupleIsFree (.ref it) >>= _) _ _ { s with heap:=a.push { cls:=.type "tuple",data:=.seq #[es[i].key,es[i].val] } };generalize a.push { cls:=.type "tuple",data:=.seq #[es[i].key,es[i].val] }=h2 at k J l y ⊢;unfold Builtin.Dict_items.ownedTupleIsFree;refine b7 (b7 (bAN k rfl (x:=.none) rfl (d8 ?_)));simp only[if_true];refine b7 (bAN k rfl (x:=I) rfl (b7 (bAN k rfl (x:=n) rfl (b7 (bAQ k (by simp) λu L D=>?_)))));have U:IsItemIter u it d (i+1) es.size ep es[i].key n:=L;refine b7 (bAQ U (by simp) λm M C=>?_);have T:IsItemIter m it d (i+1) es.size ep es[i].key es[i].val:=M;refine b7 (bAQ T (by simp) λp O v=>?_);have R:IsItemIterOut p it d (i+1) es.size ep es[i].key es[i].val s.heap.objs.size:=O;refine b7 (bAQ R (by simp) λh N G=>?_);have V:IsItemIterOut h it d (i+1) es.size ep es[i].key es[i].val s.heap.objs.size:=N;have B:∀b o,b≠it->h2.get? b=some o->h.get? b=some o:=λb o c e=>G.extBut b o c (v.extBut b o c (C.extBut b o c (D.extBut b o c e)));have t:h.objs.size=s.heap.objs.size+1:=by have a3:u.objs.size=h2.objs.size:=D.1;have a4:m.objs.size=u.objs.size:=C.1;have a5:p.objs.size=m.objs.size:=v.1;have a6:h.objs.size=p.objs.size:=G.1;lia
 exact b7 (bF5 (d8 (d8 ⟨_,rfl,d8 (q h V (B _ _ (bCP Z) J) t λb o c e=>B b o c (y b o c e))⟩)))
def aNd (h:A.handled=none)(b:IsItemIter s.heap it d es.size es.size ep k0 v0)(g:s.heap.get? d=some od)(f:od.data=.dict es ep)
  (q:∀h',Heap.ExtBut it s.heap h'->Q none { s with heap:=h' }):wpAny (model prog w) A (pyNext (.ref it)) Q E s:=by
 have a:s.TypeIs (.ref it) "dict_itemiterator":=⟨_,b,rfl⟩;unfold pyNext;refine b7 (bCA (bAK (name:="__next__") a F.slot_dict_itemiterator_next (bAL F.slot_dict_itemiterator_next a F.entry_dict_itemiterator_next (b7 (d8 (b7 (b7 ?_)))) (F.args_dict_itemiterator_next_1 _))));refine b7 (bCO a (d8 (b7 (bEC b rfl ?_))));rw[show Builtin.Dict_items.ownsTuple "dict_itemiterator"=true from by decide];simp only[if_true];have e:¬ ((Value.ref d == Value.none)=true):=v6;show wpAny _ _ (ite ((Value.ref d == Value.none)=true) _ _) _ _ _;rw[if_neg e];refine b7 (d8 (b7 (bF8 g f ?_)));rw[if_neg (by simp)];refine b7 (d8 (b7 (wpAny_dictEpoch g f ?_)));rw[if_neg (by simp)];have c:¬ ((es.size:Int)<0):=by lia
 refine d8 ?_;simp only[c,if_false,bAJ,bBO (j0 es.size)];refine b7 (b7 (bCO a (d8 ?_)));show wpAny _ _ (setField (.ref it) 2 .none >>= _) _ _ s;refine b7 (bBZ b rfl (by simp) ?_);refine b7 ?_;simp only[newExc,newTuple,raiseNew];refine b7 (bAG ?_ (by size_fits));refine b7 (bEU (by simp only[firstArgMember];rfl) ?_);refine bAG (b7 (bFM ?_)) (by size_fits);rw[show A.in1.handled=none from h];refine b7 (d8 (bF4 ?_));refine b7 (bDG ⟨_,j8 _ rfl,rfl⟩ isSubtype_stop ?_);exact d8 (q _ (((bBD ..).extBut.push _).push _))
def aUv (b:(d == sysModules)=false)(a:s.TypeIs (.ref d) "dict")
  (q:Q (.ref s.heap.objs.size) { s with heap:=s.heap.push { cls:=.type "dict_items",data:=.fields #[.ref d] } }):wpAny (model prog w) A (call (.builtin "dict.items") [.ref d]) Q E s:=by
 refine bAL F.slot_dict_items a F.entry_dict_items ?_ (F.args_dict_items_1 _);unfold Builtin.«dict.items» Builtin.Dict.noArgs;refine b7 (b7 (wpAny_notOrdered_dict a ?_));show wpAny _ _ (pure d) _ _ s;refine d8 ?_;show wpAny _ _ (Builtin.Dict.showsAll d >>= _) _ _ _;unfold Builtin.Dict.showsAll;rw[if_neg (show ¬ (d == sysModules)=true by rw[b];exact v6)];exact b7 (d8 (b7 (bAG (d8 ⟨_,rfl,q⟩))))
def aI2 (a:s.heap.IsItemsView v d)(f:s.heap.get? d=some od)(c:od.data=.dict es ep)
  (q:Q (.ref s.heap.objs.size) { s with heap:=s.heap.push { cls:=.type "dict_itemiterator",data:=.fields #[.none,.bool false,.ref d,.int 0 0,.int es.size 0,.int ep 0,.none,.none] } }):wpAny (model prog w) A (pyIter (.ref v)) Q E s:=by
 obtain⟨h,e,g,b⟩:=id a;refine bFC a.typeIs F.slot_dict_items_iter (bAL F.slot_dict_items_iter a.typeIs F.entry_dict_items_iter ?_ (F.args_dict_items_iter_1 _));unfold Builtin.«dict_items.__iter__» Builtin.Dict_items.dictOf;refine b7 (d8 (b7 (b7 (bAN e b rfl (d8 ?_)))));refine b7 ?_;unfold Builtin.Dict_items.newIterator;refine b7 (bF8 f c (b7 (wpAny_dictEpoch f c ?_)));rw[show Builtin.Dict_items.ownsTuple "dict_itemiterator"=true from by decide];simp only[if_true];refine bAG (d8 ⟨_,rfl,"dict_itemiterator",_,⟨_,j8 _ rfl,rfl⟩,F.slot_dict_itemiterator_next.lookup,?_⟩) (by simp only[sizeOk,Builtin.Dict_items.ownedTupleFields,d9,bAB,t6,bBV,sizeLine_eq];lia);simpa [rawInt,Builtin.Dict_items.ownedTupleFields] using q
open Builtin in
def aAo:entryFor table "dict_itemiterator.__iter__"=some Builtin.«dict_keyiterator.__iter__»:=entryFor_alias (id':="dict_keyiterator.__iter__") (by kernel_rfl) rfl (by trivial) (by kernel_rfl)
end PySem
namespace L2
open PySem PySem.Spec PyProof.Rows
def aLj (d:Addr)(o:Obj)(kvs:List (Key × V)):It:=
 ⟨λi H=>H d=some (.frz o (.dK kvs))/\i<kvs.length,λi H x H'=>∃T kv,H T=none/\x=.ref T/\kvs[i]?=some kv/\H'=upd H T (.tup [kV kv.1,kv.2]),λi H=>H d=some (.frz o (.dK kvs))/\i=kvs.length⟩
def bEa (r:KV kvs vs):∀{i:Nat} {kv:Key × V},kvs[i]?=some kv->∃q,vs[i]?=some q/\kv.1=q.1/\RelV kv.2 q.2:=by
 unfold KV at r
 induction r with
 |nil=>intro i kv h;cases h
 |cons a _ ih=>
  intro i kv h;cases i with
  |zero=>cases h;exact⟨_,rfl,a⟩
  |succ i=>exact ih h
def aW9 (h:(bU P w).is (Sum.inr n) key=true):∃t,key=.str n t:=by
 cases key with
 |str x t=>
  have e:x=n:=by simpa [bU,wR,Value.isStrOf] using h
  exact⟨t,by rw[e]⟩
 |_=>exact absurd (show false=true from h) v6
def aV6 (h:(bU P w).is k key=true):RelV (kV k) key:=by
 cases k with
 |inr n=>exact aW9 h
 |inl i=>
  cases key with
  |int j t=>
   have e:j=i:=by simpa [bU,wR,Value.isInt] using h
   exact⟨t,by rw[e]⟩
  |_=>exact absurd (show false=true from h) v6
def aHb {P:Program}{w:World}{K:bF9}{elts:List Expr}{kt:Nat}{pos:Pos}(d it:Addr)(o:Obj)(l:List (Key × V))(es:Array DictEntry)(ep:Nat)(g:o.data=.dict es ep) :
  Turn P w K (.Tuple elts kt pos) (aLj d o l) [it] it (λi h=>∃k0 v0,IsItemIter h it d i l.length ep k0 v0) where
 mem:=by simp
 obj:=λi h a b f=>by
  have e:b=it:=by simpa using f
  subst e;obtain⟨k0,v0,N⟩:=a;exact⟨_,N,λv z=>by cases (show Data.fields _=Data.cell v from z)⟩
 keep:=λi h D a k=>by obtain⟨k0,v0,N⟩:=a;exact⟨k0,v0,k it (by simp) _ N⟩
 item:=by
  intro X R M U hc i B s σ H E I S a O;subst R M U;obtain⟨k0,v0,a⟩:=a;obtain⟨hd,G⟩:=O;obtain⟨vs,j,od,Y,t,_,c,_,m,_⟩:=aNs g (I.hok d _ hd);have y:=(I.hok d _ hd).1;rw[y] at t;cases t;rw[g] at c;cases c;have C:es.size=l.length:=by rw[KV.length j,<-m.length,v9]
  have q:=b8 G;obtain⟨x,hx,e1,e3⟩:=bEa j q;have u:i<es.size:=by lia
  obtain⟨n,W⟩:=m.get? (by rw[bBY];exact j6 u) hx;rw[<-e1] at n;have rk:=aV6 n;have r:=S it (by simp);rw[<-C] at a;refine aYn a y g u λD T L a3 kp=>?_;rw[W] at T L;refine⟨_,rfl,?_⟩;have fT:=I.hok.fresh (j0 _);have p:=v7 (m9 a);have I1:Inv X B σ (upd H s.heap.objs.size (.tup [kV l[i].1,l[i].2])) { s with heap:=D }:=by
   refine I.drawn (ch:=[it]) (its:=[_,x.2]) (λb f=>?_) (λb o f e=>kp b o (by simpa using f) e) (j0 _) (.cons rk (.cons e3 .nil)) (small (by simp)) (.of L rfl ⟨_,L,rfl,_,rfl⟩) (λb f=>?_)
   ·have:b=it:=by simpa using f
    rw[this];exact r
   ·have:b=it:=by simpa using f
    rw[this];exact⟨_,T⟩
  refine wpAny_letOwnedTupleGo_items T λh2 z2 s2=>?_;obtain⟨Z,g1,g2,g3,g4,g5⟩:=r;have I2:=Inv.turned I1 (t':=s.toks) (λb o f e=>(s2.2 b f).trans e) (by rw[aM p];exact Z) g1 g3 g4 g5;refine⟨.ref s.heap.objs.size,_,I2,rfl,⟨_,l[i],fT,rfl,q,rfl⟩,⟨_,_,by rw[<-C];exact z2⟩,λb f=>?_⟩;have:b=it:=by simpa using f
  rw[this,aM p];exact Z
 done:=by
  intro X R M U hc i B s σ H E I S a O;subst R M U;obtain⟨k0,v0,a⟩:=a;obtain⟨f0,f1,f2,f3,f4,f5⟩:=S it (by simp);obtain⟨hd,G⟩:=O;obtain⟨vs,j,od,Y,t,_,c,_,m,_⟩:=aNs g (I.hok d _ hd);have y:=(I.hok d _ hd).1;rw[y] at t;cases t;rw[g] at c;cases c;have C:es.size=l.length:=by rw[KV.length j,<-m.length,v9]
  rw[G,<-C] at a;exact aNd (I.ok.hd hc) a y g λD eb=>⟨rfl,I.turned (t':=s.toks) (λb o f e=>eb b o f e) f0 f1 f3 f4 f5⟩
 self:=λA i s Q E a h=>by obtain⟨k0,v0,a⟩:=a;have J:s.TypeIs (.ref it) "dict_itemiterator":=⟨_,a,rfl⟩;refine bFC J PySem.F.slot_dict_itemiterator_iter (bAL PySem.F.slot_dict_itemiterator_iter J PySem.aAo ?_ (PySem.F.args_dict_itemiterator_iter_1 _));exact d8 ⟨_,rfl,"dict_itemiterator",_,J,PySem.F.slot_dict_itemiterator_next.lookup,h⟩
section
variable {X:Cx}
def aO2 (te:TE):TI:=fun σ H R=>te σ H λv H1=>∃d kvs,v=.ref d/\H1 d=some (.dK kvs)/\(∀kv∈kvs,∃n,kv.1=Sum.inr n)/\(∀ob u,X.H₀ d≠some (.frz ob u))/\∀o,R (aLj d o kvs) (upd H1 d (.frz o (.dK kvs)))
def aDf {elts:List Expr}{kt:Nat}{tp apos cpos:Pos}{e:Expr}{te:TE}(h:VE X e te)(k:attributeBase e "items" X.env (eval e X.env)=eval e X.env:=by rfl)(n:(apos.endLine == cpos.line)=true:=by rfl) :
  VI X (.Tuple elts kt tp) (.Call (.Attribute e "items" apos) [] [] cpos) (aO2 (X:=X) te):=⟨by
 intro f s σ H R I J;refine wpAny_Call_method0_late k n (thn (h.1 f s σ H _ I J) λv a ⟨x,t,j,C,M⟩=>?_);obtain⟨d,c,e,hd,V,P,q⟩:=M;subst e;cases C;obtain⟨z,L,O,m,⟨o,p,A,l,U,r,B,g,Q⟩⟩:=aAn j.hok hd;have G:p.size=c.length:=by rw[KV.length m,<-g.length,v9]
 have E:a.TypeIs (.ref d) "dict":=(show a.heap.DictOf (bU X.prog X.w) d O from ⟨o,p,A,l,U,r,B,g,Q⟩).typeIs;obtain⟨N,D⟩:=aM5 (T:="dict") j (show RelV (.ref d) (.ref d) from rfl) (.inr (.inr (.inl ⟨rfl,.inl ⟨c,hd⟩⟩)));refine⟨"dict","dict.items",PySem.F.plainAttrs_dict,PySem.F.slot_dict_items,PySem.F.type_dict_items,N,D,bDM rfl (PySem.evalArgs_none ?_)⟩;refine aUv L E ?_;have K:Inv X f σ (upd t d (.frz o (.dK c))) a:=j.setd hd (λ_ z=>by cases z) (λ_ z=>by cases z) (λ_ z=>by cases z) P ⟨l,j.hok d _ hd⟩;have i:Inv X f σ (upd t d (.frz o (.dK c))) { a with heap:=a.heap.push { cls:=.type "dict_items",data:=.fields #[.ref d] } }:=K.kept (t':=a.toks) λb o e=>d7 _ e;have y:(a.heap.push { cls:=.type "dict_items",data:=.fields #[.ref d] }).IsItemsView a.heap.objs.size d:=⟨_,j8 _ rfl,rfl,rfl⟩;have u:(a.heap.push { cls:=.type "dict_items",data:=.fields #[.ref d] }).get? d=some o:=d7 _ l;generalize a.heap.push { cls:=.type "dict_items",data:=.fields #[.ref d] }=hp at i y u ⊢;refine aI2 (s:={ a with heap:=hp }) y u r ?_;refine⟨hp.objs.size,[hp.objs.size],_,_,_,rfl,i.kept (t':=a.toks) λb o e=>d7 _ e,aHb d _ o c p A r,?_,λb S=>?_,q o⟩
 ·rw[<-G];exact⟨_,_,j8 _ rfl⟩
 ·have e:b=hp.objs.size:=by simpa using S
  subst e;exact i.aIr (j0 _) (i.hok.fresh (j0 _))⟩
end
def aLs {d:Addr}{o:Obj}{a:List (Key × V)}{g:TG}{tb:TS}{D:Ends}{σ:L2.St}{H:Hp}(c:Nat->L2.St->Hp->Prop)(f:c 0 σ H)(j:∀i σ H,i<=a.length->c i σ H->H d=some (.frz o (.dK a)))
  (k:∀i kv T σ H,a[i]?=some kv->c i σ H->H T=none->g (.ref T) σ (upd H T (.tup [kV kv.1,kv.2])) fun σ2 H2=>tb { D with nx:=c (i+1),ct:=c (i+1),bk:=D.nx } σ2 H2) (hd:∀σ H,c a.length σ H->D.nx σ H) :
  ∃W:Nat->Nat->L2.St->Hp->Prop,(∃m,W 0 m σ H)/\∀i m σ H,W i m σ H ->
   ((aLj d o a).stop i H/\D.nx σ H)\/((aLj d o a).go i H/\∃N:L2.St->Hp->Prop,(∀σ' H',N σ' H'->∃m',m'<m/\W (i+1) m' σ' H')/\∀x H',(aLj d o a).yld i H x H'->g x σ H' fun σ2 H2=>tb { D with nx:=N,ct:=N,bk:=D.nx } σ2 H2):=by
 refine⟨λi m σ H=>m=a.length - i/\i<=a.length/\c i σ H,⟨a.length,by simp,bAF _,f⟩,?_⟩;rintro i m σ H ⟨rfl,hi,p⟩;have q:=j i σ H hi p;by_cases b:i<a.length
 ·right;refine⟨⟨q,b⟩,c (i+1),fun σ' H' h=>⟨a.length - (i+1),by lia,rfl,by lia,h⟩,?_⟩;rintro x H' ⟨T,kv,hT,rfl,hkv,rfl⟩;exact k i kv T σ H hkv p hT
 ·left;have e:i=a.length:=by lia
  subst e;exact⟨⟨q,rfl⟩,hd σ H p⟩
def aZs (X:Cx)(t:TE):TE:=fun σ H Q=>∃d kvs,H d=some (.dK kvs)/\((∀ob u,X.H₀ d≠some (.frz ob u))->t σ H λv H'=>(∃o,H' d=some (.frz o (.dK kvs)))/\Q v (upd H' d (.dK kvs)))
def aYg (h:VE X e t):VE X e (aZs X t):=⟨by
 intro b s σ H Q I ⟨d,j,hd,q⟩;have g:∀a u,X.H₀ d≠some (.frz a u):=λa u e=>by have:=I.base.frzs d a u e;rw[hd] at this;cases this
 refine thn (h.1 b s σ H _ I (q g)) λu k ⟨v,l,c,r,⟨o,f⟩,i⟩=>?_;exact⟨v,_,c.setd f (λ_ z=>by cases z) (λ_ z=>by cases z) (λ_ z=>by cases z) g (c.hok d _ f).2,r,i⟩⟩
def aJ6 {K:bF9}{d:Addr}{o:Obj}{a:List (Key × V)}{H:Hp}{w:L2.St}{te:TE}{Q:VK}(hd:H d=some (.frz o (.dK a)))(C:Ps2 w w)(hsz:a.length<=1000)
  (Rel:Addr->Nat->Hp->V->Prop) (B:∀{D i H1 H2 y},Same H1 H2->Rel D i H1 y->Rel D i H2 y) (u:∀{D i H1 ys zs y},H1 D=some (.lst ys)->Rel D i H1 y->Rel D i (L2.upd H1 D (.lst zs)) y)
  (E:∀(i:Nat) (kv:Key × V),a[i]?=some kv->∀H' R D ys,Same H H'->H D=none->H' D=some (.lst ys)->(∀y H2,Same H' H2->Rel D i H2 y->R y H2)->te ((w.set 0 (some (kV kv.1))).set 1 (some kv.2)) H' R)
  (q:∀D H' ys,Same H H'->H D=none->H' D=some (.lst ys)->ys.length=a.length->(∀i y,ys[i]?=some y->Rel D i H' y)->Q (.ref D) H'):oH (aLj d o a) H w (aIv K 2 (rB (bF 0) (rB (bF 1) aQi))) kO te Q:=by
 intro D h;refine⟨λi m r H' ys=>m=a.length - i/\i<=a.length/\Same H H'/\H' D=some (.lst ys)/\ys.length=i/\Ps2 w r/\∀j y,ys[j]?=some y->Rel D j H' y,⟨a.length,by simp,bAF _,aO h _,aG,rfl,C,λj y e=>by cases e⟩,?_⟩;rintro i m r H' ys ⟨rfl,hi,sm,gD,ly,hps,hr⟩;refine⟨gD,?_⟩;by_cases l:i<a.length
 ·right;refine⟨⟨sm _ _ hd,l⟩,?_⟩;rintro x H2 ⟨T,kv,hT,rfl,hkv,rfl⟩;have g:Same H' (L2.upd H' T (.tup [kV kv.1,kv.2])):=aO hT _;refine hg2 (SqT.of aG) hps fun F c k=>?_;have f:=k;subst f;dsimp only[kO];rw[if_pos rfl];refine E i kv hkv _ _ D ys (sm.trans g) h (g _ _ gD) λy A p v=>?_;have b:=p _ _ (g _ _ gD);have n:=sm.trans (g.trans p);refine⟨b,bCD (show ys.length<=1000 by lia) (by decide),a.length - (i+1),by lia,rfl,by lia,fP h n,aG,by rw[bAB,ly];rfl,c,λj z e=>?_⟩;by_cases s:j<ys.length
  ·rw[bAZ s] at e;exact u b (B (g.trans p) (hr j z e))
  ·rw[bAW (by lia)] at e;have t:j - ys.length=0:=by have:=(List.getElem?_eq_some_iff.mp e).1;simpa using this
   rw[t] at e;cases e;have:j=i:=by lia
   rw[this];exact u b v
 ·left;have e:i=a.length:=by lia
  subst e;exact⟨⟨sm _ _ hd,rfl⟩,q D H' ys sm h gD ly hr⟩
def aUy {X:Cx}{scope:Scope}{N:List Str}{tl:TE}{te:TE}{tt:TT}{g:TG}{σ:L2.St}{H:Hp}{Q:VK}(b:L2.St)(a:Cap X scope N σ b)(h:tl σ H λv H1=>∃d kvs,v=.ref d/\H1 d=some (.dK kvs)/\(∀kv∈kvs,∃n,kv.1=Sum.inr n)/\(∀ob u,X.H₀ d≠some (.frz ob u))/\∀o,oH (aLj d o kvs) (upd H1 d (.frz o (.dK kvs))) b g tt te Q):jE X scope N (aO2 (X:=X) tl) g tt te σ H Q:=⟨b,a,h⟩
def aVo:List V->Hp->VK->Prop:=λxs H Q=>∃d kvs,xs=[.ref d,.ty "dict"]/\H d=some (.dK kvs)/\Q (.bl true) H
def aHf:cA X (.builtin "isinstance") aVo:=by intro j s σ H n l Q I r h;obtain⟨d,g,rfl,hd,q⟩:=h;obtain⟨u,v,rfl,b,i⟩:=r.two;obtain rfl:v=Value.type "dict":=i;obtain rfl:u=Value.ref d:=b;obtain⟨z,k,m,f,a⟩:=aAn I.hok hd;obtain⟨o,e,c⟩:=(show s.TypeIs (.ref d) "dict" from a.typeIs);exact call_isinstance (isinstance_true F.isi_meta_dict F.isi_self_dict) ⟨⟨o,e,c⟩,⟨.bl true,H,I,rfl,q⟩⟩
def bCo (K:bF9):List V->Hp->VK->Prop:=λxs H Q=>∃t us kvs,xs=[.ref t]/\H t=some (.lst us)/\aUn K H us kvs/\us.length<=1000/\∀p H',H p=none->Same H H'->H' p=some (.dK (jA [] kvs))->Q (.ref p) H'
def aNc (J:X.calm=true):cA X (.type "dict") (bCo X.K):=by intro A s σ H M i Q I r h;obtain⟨t,i,a,rfl,l,f,D,q⟩:=h;obtain⟨u,rfl,w⟩:=vals1 r;cases w;obtain⟨E,y,n,d,p⟩:=I.hok t _ l;have G:=d.length;obtain⟨L,c,z,B⟩:=bCk I f d;have F:=KV.length c;refine aGe true (I.ok.hd J) p rfl rfl rfl (by rw[d9];exact z) (by rw[d9];lia) (λj v x e g=>B j v x (by simpa using e) g) λC k hd o=>?_;have b:=I.hok.fresh (j0 _);refine⟨.ref s.heap.objs.size,_,I.laid (t':=k) o (j0 _) ?_,rfl,q _ _ b (aO b _) aG⟩;have m:=lO a [];simp only[bBV] at m;exact⟨small (by lia),beq_eq_false_iff_ne.mpr (Ne.symm (v7 I.big)),_,KV.merge c .nil,hd⟩
end L2
namespace My
open PySem PySem.Spec PyProof.Rows L2
section
variable {P:Program}{w:World}{K:bF9}{mg:bGC}{base:Heap}
def aZc (k:Str):Bool:=decide (k = "number")
def knds (hd:Hdr):List Bool:=hd.map λc=>aZc c.2
def aKp (h:X.K=K:=by rfl):cA X (.builtin "sorted") (aSc K):=by subst h;exact zF
def aJv (h:X.K=K:=by rfl):cA X (.type "list") (aK0 K):=by subst h;exact mX
def none_of (e:Same H H')(h:H' D=none):H D=none:=by
 cases g:H D with
 |none=>rfl
 |some o=>rw[e _ _ g] at h;cases h
def But (d:Addr)(H H':Hp):Prop:=∀b o,b≠d->H b=some o->H' b=some o
section
variable {K:bF9}{H H':Hp}{d:Addr}
def eE (H:Hp)(d:Addr):Prop:=(∀xs,H d≠some (.tup xs))/\(∀ob xs,H d≠some (.frz ob (.tup xs)))/\∀xs,H d≠some (.lst xs)
def eE.dK (h:H d=some (.dK kvs)):eE H d:=⟨λ_ z=>(by rw[h] at z;cases z),λ_ _ z=>(by rw[h] at z;cases z),λ_ z=>(by rw[h] at z;cases z)⟩
def eE.fz (h:H d=some (.frz o (.dK kvs))):eE H d:=⟨λ_ z=>(by rw[h] at z;cases z),λ_ _ z=>(by rw[h] at z;cases z),λ_ z=>(by rw[h] at z;cases z)⟩
def But.bC (b:But d H H')(hd:eE H d)(h:SqT K H a xs):SqT K H' a xs:=by
 rcases h with (h|⟨o,h⟩)|h
 ·exact .inl (.inl (b _ _ (λz=>hd.1 _ (z ▸ h)) h))
 ·exact .inl (.inr ⟨o,b _ _ (λz=>hd.2.1 _ _ (z ▸ h)) h⟩)
 ·exact .inr h
def But.lst (b:But d H H')(hd:eE H d)(h:H a=some (.lst xs)):H' a=some (.lst xs):=b _ _ (λz=>hd.2.2 _ (z ▸ h)) h
def But.hdr (b:But d H H')(hd:eE H d)(h:jK K H v hr):jK K H' v hr:=by obtain⟨a,g,rfl,c,i⟩:=h;exact⟨a,g,rfl,b.bC hd c,i.imp λ_ _ ⟨p,e,f⟩=>⟨p,e,b.bC hd f⟩⟩
theorem But.pl {v:V}{pl:Plc}(b:But d H H')(hd:eE H d)(h:zP K H v pl):zP K H' v pl:=by
 cases pl with
 |copies=>obtain⟨a,rfl,f⟩:=h;exact⟨a,rfl,b.bC hd f⟩
 |keys n=>obtain⟨a,rfl,f⟩:=h;exact⟨a,rfl,b.bC hd f⟩
 |spans n h0 cs=>obtain⟨a,l,rfl,f,⟨c,i,rfl,j,k⟩⟩:=h;exact⟨a,_,rfl,b.bC hd f,c,i,rfl,b.bC hd j,k.imp λ_ _ ⟨p,e,g⟩=>⟨p,e,b.bC hd g⟩⟩
def But.rows (b:But d H H')(hd:eE H d)(h:cF K H L rs):cF K H' L rs:=by obtain⟨c,g,a⟩:=h;exact⟨c,b.lst hd g,a.imp λ_ _ ⟨p,e,f⟩=>⟨p,e,b.bC hd f⟩⟩
def But.tb (b:But d H H')(hd:eE H d)(h:lU K H v vh vp L t):lU K H' v vh vp L t:=by obtain⟨a,rfl,e,f,c,g⟩:=h;exact⟨a,rfl,b.bC hd e,b.hdr hd f,b.pl hd c,b.rows hd g⟩
def But.upd:But d H (L2.upd H d u):=λb o a h=>by rw[aM a];exact h
def But.same (b:But d H H')(s:Same H' H2):But d H H2:=λc o a h=>s _ _ (b c o a h)
def But.thaw (b:But d H H2)(hd:H d=some (.dK kvs)):Same H (L2.upd H2 d (.dK kvs)):=λc o h=>by
 by_cases e:c=d
 ·rw[e,aG,<-hd,<-e];exact h
 ·rw[aM e];exact b c o e h
end
structure En where
 n:Str
 v:V
 vh:V
 vp:V
 L:Addr
 t:Tb
def enK (es:List En):List (Key × V):=es.map λe=>(Sum.inr e.n,e.v)
structure eQ (K:bF9)(H:Hp)(d:Addr)(es:List En):Prop where
 at_:H d=some (.dK (enK es))
 nd:(es.map (·.n)).Nodup
 few:es.length<=60
 nm:∀e∈es,Nm e.n
 tb:∀e∈es,lU K H e.v e.vh e.vp e.L e.t
def lU.same (s:Same H H')(h:lU K H v vh vp L t):lU K H' v vh vp L t:=by obtain⟨a,rfl,c,d,b,e⟩:=h;exact⟨a,rfl,s.bC c,d.same s,b.same s,e.same s⟩
def eQ.same (s:Same H H')(h:eQ K H d es):eQ K H' d es:=⟨s _ _ h.at_,h.nd,h.few,h.nm,λe a=>(h.tb e a).same s⟩
def aVb {es:List En}{i:Nat}{kv:Key × V}(h:(enK es)[i]?=some kv):∃e,es[i]?=some e/\kv=(Sum.inr e.n,e.v):=by unfold enK at h;rw[t7] at h;obtain⟨e,a,rfl⟩:=Option.map_eq_some_iff.mp h;exact⟨e,a,rfl⟩
def aOd:∀kv∈enK es,∃n,kv.1=Sum.inr n:=λkv h=>by unfold enK at h;obtain⟨e,_,rfl⟩:=List.mem_map.mp h;exact⟨_,rfl⟩
def yW:(enK es).length=es.length:=j7 _
inductive aOu (K:bF9)(Pt:Addr)(vs:List V)(H:Hp)(Q:VK)(E_:XK):Prop
 |mk (d:Addr) (m:Int) (es:List En) (_:vs=[.int m,.ref d]) (_:1<=m) (_:m<=6) (_:eQ K H d es) (_:(∀e∈es,kJ m e.t)) (_:H Pt=some (.tab qC)) (_:∀H',Same H H'->Q .non H')
def aF7 (T:Txt w K mg){Pt:Addr}(fZ:Ok P w K mg base 1 "is_whole" o6 (pC K))(iC:Ok P w K mg base 2 "is_name" o6 (aCj K nameB))(Y:Ok P w K mg base 8 "is_table" z8 (aYz K Pt)):Ok P w K mg base 9 "need_town" u9 (aOu K Pt):=by
 refine Ok.ofV T.aHy uJ (by trivial) (λf R A D s H vs Q E hr h=>?_)
 obtain⟨d,m,g,rfl,S,X,b,k,u,q⟩:=h;have nd:=uJ.nd;refine⟨_,(aB (bM (VW.pt (gB (cC (bR (bB fZ (va1 (vv 0))))) (gB (cC (zO aAd aAd aA (vv 0) (iU (by rfl) T.aCp))) (fG (cC (bR (aL aHf (by rfl) T.aZ aV (aF (vv 1) (va1 (eY (v:=.ty "dict") (by rfl) T.aVc aOf rfl)))))))))) (aD aBu) aQ) (aD (aX7 (jU PassesOwn.never rfl (aDf (vv 1)) (aA1 rfl (cG (gF 2) (cG (gF 3) lF))) (aD (bM (VW.pt (gB (cC (bR (bB iC (va1 (vv 2))))) (fG (cC (bR (bB Y (aF (vv 3) (va1 (vv 0))))))))) (aD aBu) aQ)))))),?_⟩;refine⟨_,rfl,_,rfl,.inr (.inl ⟨m,rfl⟩),_,rfl,bZ ?_⟩;refine⟨_,rfl,_,_,rfl,rfl,_,rfl,?_⟩;rw[v4 S];refine cP ⟨_,_,rfl,rfl,_,rfl,?_⟩;rw[v4 X];refine bZ ⟨_,rfl,d,_,rfl,b.at_,_,rfl,bZ ?_⟩;refine⟨d,enK g,b.at_,λW=>⟨_,rfl,d,_,rfl,b.at_,aOd,W,λo=>?_⟩⟩;have F:Pt≠d:=λz=>by rw[z,b.at_] at u;cases u
 have y:But d H (L2.upd H d (.frz o (.dK (enK g)))):=But.upd;have l:L2.upd H d (.frz o (.dK (enK g))) d=some (.frz o (.dK (enK g))):=aG;generalize L2.upd H d (.frz o (.dK (enK g)))=B at y l ⊢;refine aLs (λi σ c=>Same B c/\∃r C,σ=[some (.int m),some (.ref d),r,C]) ⟨Same.refl B,_,_,rfl⟩ (λi σ c _ p=>p.1 _ _ l) (λi kv x σ c M p N=>?_) fun σ c p=>?_
 ·obtain⟨e,r,C,rfl⟩:=p;obtain⟨a,O,rfl⟩:=aVb M;have j:=m8 O;have G:Same c (L2.upd c x (.tup [kV (Sum.inr a.n),a.v])):=aO N _;have U:But d H (L2.upd c x (.tup [kV (Sum.inr a.n),a.v])):=(y.same e).same G;refine⟨x,_,rfl,SqT.of aG,rfl,_,_,rfl,_,_,rfl,rfl,?_⟩;refine⟨_,rfl,_,rfl,(b.nm a j).th,λZ I=>⟨_,rfl,?_⟩⟩;rw[show nameB (kV (Sum.inr a.n,a.v).fst)=true from b.nm a j];refine bZ ?_;have J:=U.same I;refine⟨_,rfl,_,rfl,a.v,a.vh,a.vp,a.L,m,a.t,rfl,J.tb (eE.dK b.at_) (b.tb a j),k a j,J _ _ F u,λH3 V=>⟨_,rfl,bZ ?_⟩⟩;exact⟨e.trans (G.trans (I.trans V)),_,_,rfl⟩
 ·obtain⟨e,r,C,rfl⟩:=p;exact⟨⟨o,e _ _ l⟩,q _ ((y.same e).thaw b.at_)⟩
def aCc (e:En)(v:V)(L:Addr):En:={ e with v:=v,L:=L,t:={ e.t with rows:=srt e.t.rows } }
inductive vO (K:bF9)(Pt:Addr)(vs:List V)(H:Hp)(Q:VK)(E_:XK):Prop
 |mk (d:Addr) (m:Int) (es:List En) (_:vs=[.int m,.ref d]) (_:1<=m) (_:m<=6) (_:eQ K H d es) (_:(∀e∈es,kJ m e.t)) (_:H Pt=some (.tab qC)) (_:∀d' H' es',H d'=none->Same H H'->eQ K H' d' es'->dO (λe e'=>∃v L,e'=aCc e v L/\H L=none) es es'->Q (.ref d') H')
def bDf (h:dF kd v):KdV (aZc kd) v:=by
 cases h with
 |num=>exact⟨_,rfl⟩
 |wrd _ _=>exact⟨_,rfl⟩
def aAx (h:qR hd r):KdR (knds hd) r:=by
 unfold qR at h;unfold KdR knds
 induction h with
 |nil=>exact .nil
 |cons a _ ih=>exact .cons (bDf a) ih
def aPd (h:Good hd):knds hd≠[]:=λz=>by have e:=congrArg List.length z;unfold knds at e;rw[j7] at e;have:=h.2.1;rw[e] at this;exact absurd this (by decide)
def lY {α β:Type}{R:α->β->Prop}{as:List α}{bs:List β}(h:dO R as bs):Al2 R as bs:=by
 induction h with
 |nil=>exact .nil
 |cons r _ ih=>exact .cons r ih
def aH4 {α β:Type}{R:α->β->Prop}{as:List α}{bs:List β}(h:Al2 R as bs):dO R as bs:=by
 induction h with
 |nil=>exact .nil
 |cons r _ ih=>exact .cons r ih
def PlR (K:bF9)(H0:Hp)(es:List En)(D:Addr)(i:Nat)(H:Hp)(y:V):Prop:=∃e v L tp,es[i]?=some e/\y=.ref tp/\SqT K H tp [.str e.n,v]/\lU K H v e.vh e.vp L { e.t with rows:=srt e.t.rows }/\L≠D/\H0 L=none
def lU.qQ (f:H D=some (.lst ys))(q:L≠D)(h:lU K H v vh vp L t):lU K (L2.upd H D (.lst zs)) v vh vp L t:=by
 obtain⟨a,rfl,u,⟨b,l,rfl,w,m⟩,i,⟨s,x,o⟩⟩:=h;refine⟨a,rfl,SqT.qQ f u,⟨b,l,rfl,SqT.qQ f w,m.imp λ_ _ ⟨p,e,j⟩=>⟨p,e,SqT.qQ f j⟩⟩,?_,⟨s,by rw[aM q];exact x,o.imp λ_ _ ⟨p,e,j⟩=>⟨p,e,SqT.qQ f j⟩⟩⟩;cases g:t.pl with
 |copies=>rw[g] at i;obtain⟨k,rfl,d⟩:=i;exact⟨k,rfl,SqT.qQ f d⟩
 |keys n=>rw[g] at i;obtain⟨k,rfl,d⟩:=i;exact⟨k,rfl,SqT.qQ f d⟩
 |spans n h0 cs=>rw[g] at i;obtain⟨k,y,rfl,d,⟨c,l,rfl,r,m⟩⟩:=i;exact⟨k,_,rfl,SqT.qQ f d,c,l,rfl,SqT.qQ f r,m.imp λ_ _ ⟨p,e,j⟩=>⟨p,e,SqT.qQ f j⟩⟩
def aXz:∀{ys:List V},ys.length=es.length->(∀i y,ys[i]?=some y->PlR K H0 es D i H y) ->
  ∃es',dO (λe e'=>∃v L,e'=aCc e v L/\H0 L=none) es es'/\dO (λy e'=>∃tp,y=.ref tp/\SqT K H tp [.str e'.n,e'.v]) ys es'/\∀e'∈es',lU K H e'.v e'.vh e'.vp e'.L e'.t:=by
 induction es with
 |nil=>intro ys a _;cases bAX a;exact⟨[],.nil,.nil,λe h=>by cases h⟩
 |cons en es ih=>
  intro ys a h;cases ys with
  |nil=>cases a
  |cons y ys=>
   obtain⟨es',c,g,l⟩:=ih (Nat.succ.inj a) λi y f=>by obtain⟨e,v,L,tp,b,r⟩:=h (i+1) y (by simpa using f);exact⟨e,v,L,tp,by simpa using b,r⟩
   obtain⟨e,v,L,tp,b,rfl,k,j,_,d⟩:=h 0 y rfl;cases b;refine⟨aCc en v L::es',.cons ⟨v,L,rfl,d⟩ c,.cons ⟨tp,rfl,k⟩ g,λe' h'=>?_⟩;rcases List.mem_cons.mp h' with rfl|h'
   ·exact j
   ·exact l e' h'
def bCq (h:dO (λy (e':En)=>∃tp,y=.ref tp/\SqT K H tp [.str e'.n,e'.v]) ys es'):aUn K H ys (enK es'):=by
 unfold enK
 induction h with
 |nil=>exact .nil
 |cons r _ ih=>exact .cons r ih
def aJc {H0:Hp}{es es':List En}(h:dO (λe e'=>∃v L,e'=aCc e v L/\H0 L=none) es es'):es'.map (·.n)=es.map (·.n):=by
 induction h with
 |nil=>rfl
 |cons r _ ih=>obtain⟨v,L,rfl,_⟩:=r;rw[bAI,bAI,ih];rfl
def vL (T:Txt w K mg){Pt:Addr}(a9:Ok P w K mg base 9 "need_town" u9 (aOu K Pt)):Ok P w K mg base 10 "placed_tables" u9 (vO K Pt):=by
 refine Ok.ofV T.yG wM (by trivial) (λf ab A a7 s H vs Q E hr h=>?_)
 obtain⟨d,m,c,rfl,m1,m6,S,X,hP,q⟩:=h;refine⟨_,(aB (eF (bB a9 (aF (vv 0) (va1 (vv 1))))) (aD (aK (cX (aNc rfl) (by rfl) T.aVc aOf (va1 (aYg (cU (N:=["name","table"]) ck jN rfl (aDf (vv 1)) (λcl s' l fp=>⟨(yR (K:=K) (n:=2) rfl (cG (jH 0) (cG (jH 1) lF))),fY,(bL (aF (vv 0) (va1 (bL (aF (aU (cH (K:=K)) (vv 1) aA) (aF (aU (cH (K:=K)) (vv 1) aA) (va1 (aL (aKp (K:=K)) (by rfl) T.aAr vU (va1 (aU (cH (K:=K)) (vv 1) aA))))))))))⟩)))))))),?_⟩;refine⟨_,rfl,_,rfl,d,m,c,rfl,m1,m6,S,X,hP,λx s1=>?_⟩;have g:=S.same s1;dsimp only[sH,tCB,dN];refine⟨d,enK c,g.at_,λnf=>aUy [none,none] vM ⟨_,rfl,d,_,rfl,g.at_,aOd,nf,λo=>?_⟩⟩;have b0:But d x (L2.upd x d (.frz o (.dK (enK c)))):=But.upd;have g0:L2.upd x d (.frz o (.dK (enK c))) d=some (.frz o (.dK (enK c))):=aG;have n0:∀b,L2.upd x d (.frz o (.dK (enK c))) b=none->x b=none:=λb h=>by
  by_cases e:b=d
  ·rw[e,aG] at h;cases h
  ·rw[aM e] at h;exact h
 generalize L2.upd x d (.frz o (.dK (enK c)))=B at b0 g0 n0 ⊢;refine aJ6 g0 ⟨none,none,rfl⟩ (by rw[yW];have:=S.few;lia) (PlR K H c) ?_ ?_ (λi kv ek l R D ys J hD I r=>?_) λD l ys J hD I ly hy=>?_
 ·rintro D i H2 H3 y V ⟨e,v,L,u,M,rfl,Z,hb,hne⟩;exact⟨e,v,L,u,M,rfl,V.bC Z,hb.same V,hne⟩
 ·rintro D i H2 ys zs y I ⟨e,v,L,u,M,rfl,Z,hb,hne,h0⟩;exact⟨e,v,L,u,M,rfl,SqT.qQ I Z,hb.qQ I hne,hne,h0⟩
 ·obtain⟨O,M,rfl⟩:=aVb ek;have hm:=m8 M;have j:=X O hm;obtain⟨a,ev,ha,h1,h2,⟨us,h3,h4⟩⟩:=(b0.same J).tb (eE.dK g.at_) (g.tb O hm);have lu:=h4.len;have a8:=j.few;refine⟨_,rfl,_,rfl,a,_,0,_,ev,rfl,ha,at0 _ _,_,rfl,a,_,1,_,ev,rfl,ha,at1 _ _ _,_,rfl,a,_,2,_,ev,rfl,ha,at2 _ _ _ _,O.L,us,O.t.rows,knds O.t.hd,rfl,SqL.of h3,lY h4,by lia,aPd j.hd.1,λr a5=>aAx (j.rows r a5),λL' H2 a0 hN V g2 h5=>?_⟩;refine⟨by show 3<=sizeLine;decide,λt1 H3 _ s3 g3=>⟨by show 2<=sizeLine;decide,λt2 H4 _ s4 g4=>r _ H4 (V.trans (s3.trans s4)) ?_⟩⟩;have F:=V.trans (s3.trans s4);refine⟨O,.ref t1,L',t2,M,rfl,SqT.of g4,⟨t1,rfl,s4.bC (SqT.of g3),h1.same F,h2.same F,⟨a0,(s3.trans s4) _ _ g2,(aH4 h5).imp λ_ _ z=>z.same F⟩⟩,λz=>?_,none_of s1 (n0 _ (none_of J hN))⟩;rw[z,I] at hN;cases hN
 ·rw[yW] at ly;obtain⟨k,a1,a2,a3⟩:=aXz ly hy;have bD:=b0.same J;refine⟨⟨o,J _ _ g0⟩,?_⟩;have nz:eE l d:=eE.fz (J _ _ g0);have bz:But d l (L2.upd l d (.dK (enK c))):=But.upd;have G:Same x (L2.upd l d (.dK (enK c))):=bD.thaw g.at_;have W:=bz.lst nz I;have U:dO (λy (C:En)=>∃u,y=.ref u/\SqT K (L2.upd l d (.dK (enK c))) u [.str C.n,C.v]) ys k:=a2.imp λy C ⟨u,ey,Z⟩=>⟨u,ey,bz.bC nz Z⟩;have aa:H D=none:=none_of s1 (n0 _ hD);generalize L2.upd l d (.dK (enK c))=H5 at bz G W U;have le:=a2.len;have la:=a1.len;have fw:=S.few;refine⟨D,ys,enK k,rfl,W,bCq U,by lia,λp H6 hN s6 g6=>?_⟩;have Y:(k.map (·.n)).Nodup:=by rw[aJc a1];exact S.nd
  have a6:((enK k).map (·.1)).Nodup:=by unfold enK;rw[bDQ];exact List.pairwise_map.mpr ((List.pairwise_map.mp Y).imp λ{a b} a4 z=>a4 (Sum.inr.inj z))
  rw[aA5 _ [] (by rw[bEO];exact a6),bEO] at g6;refine q p H6 k (none_of s1 (none_of G hN)) (s1.trans (G.trans s6)) ⟨g6,Y,by lia,λC h'=>?_,λC h'=>(bz.tb nz (a3 C h')).same s6⟩ a1;have:C.n∈c.map (·.n):=by rw[<-aJc a1];exact bCX h'
  obtain⟨e0,h0,e1⟩:=List.mem_map.mp this;rw[<-e1];exact S.nm e0 h0
end
end My
namespace L2
open PySem PySem.Spec PyProof.Rows
def aMa (xs:List V)(p:Nat->Bool)(k:L2.St)(hsz:xs.length<=sizeLine)(w:∀H' i x,Same H H'->xs[i]?=some x->J.go i H'/\∀y H2,J.yld i H' y H2->H2=H'/\y=x)(n:∀H',Same H H'->J.stop xs.length H')
  (A:∀(i:Nat) (x:V),xs[i]?=some x->∀H' R l,Same H H'->(∀H2,Same H' H2->R (p i) H2)->tt ((k.set 0 l).set 0 (some x)) H' R) (g:k[0]?=some none)
  (q:∀D H',H D=none->Same H H'->H' D=some (.lst (sel p 0 xs))->Q (.ref D) H'):oH J H k (bF 0) tt (mL 0) Q:=by
 intro D d;refine⟨λi m j H' f=>i<=xs.length/\m=xs.length - i/\(∃l,j=k.set 0 l)/\Same H H'/\H' D=some (.lst f)/\f=sel p 0 (xs.take i),⟨xs.length,bAF _,rfl,⟨none,jM g⟩,aO d _,aG,rfl⟩,?_⟩;rintro i m j H' f ⟨hi,rfl,⟨l,rfl⟩,sm,hL,rfl⟩;refine⟨hL,?_⟩;by_cases a:i<xs.length
 ·right;obtain⟨t,u⟩:=w H' i xs[i] sm (b8 a);refine⟨t,λx H2 v=>?_⟩;obtain⟨rfl,rfl⟩:=u x H2 v;unfold bF;dsimp only;have s:0<k.length:=by
   by_cases z:0<k.length
   ·exact z
   ·rw[bAD (by lia)] at g;cases g
  have r:sel p 0 (xs.take (i+1))=sel p 0 (xs.take i)++(if p i then [xs[i]] else []):=by rw[bBW,b8 a];show sel p 0 (xs.take i++[xs[i]])=_;rw[aBr,bAR,bFW,Nat.min_eq_left (bDJ a)]
  refine A i xs[i] (b8 a) _ _ l sm λB c=>?_;cases h:p i with
  |true=>
   rw[if_pos rfl];refine⟨xs[i],by rw[bCK,bDK s],c _ _ hL,?_,xs.length - (i+1),by lia,a,rfl,⟨some xs[i],by rw[bCK]⟩,?_,aG,?_⟩
   ·have:=aFc p 0 (xs.take i);rw[bAR] at this;lia
   ·intro b o e;rw[aM (aW e d)];exact c _ _ (sm _ _ e)
   ·rw[r,h];rfl
  |false=>rw[if_neg (by simp)];refine⟨c _ _ hL,xs.length - (i+1),by lia,a,rfl,⟨some xs[i],by rw[bCK]⟩,sm.trans c,c _ _ hL,?_⟩;rw[r,h];simp
 ·left;have e:i=xs.length:=by lia
  subst e;refine⟨n _ sm,?_⟩;rw[bED] at hL;exact q D _ d sm hL
end L2
namespace My
open PySem PySem.Spec PyProof.Rows L2
section
variable {P:Program}{w:World}{K:bF9}{mg:bGC}{base:Heap}
def hinit (T:Txt w K mg)(fI:Addr):∀X,X.N=(["self","act"]:List Str)->X.env.scope=aC dR->X.mg=mg->VSs X (cT dR) (aFd (aN8 (tVI X.K fI (dN (mL 0) (dN (mL 1) qO)))) (aUu X.K fI (mL 0) (mL 1))):=by
 intro X e b f;have c:∀{a:Pos},VE X (.Name "self" a) (mL 0):=λ{a}=>vv 0 (by rw[e];rfl) (by left;rw[b];rfl);have d:∀{a:Pos},VE X (.Name "act" a) (mL 1):=λ{a}=>vv 1 (by rw[e];rfl) (by left;rw[b];rfl);have g:Gl X "ValueError":=by show X.env.scope.names.lookup _=_;rw[b];rfl
 exact aB ⟨aN4 (aR6 (fI:=fI) g (by rw[f];exact T.tZ) (bBx c.1 (bBx d.1 aSs)))⟩ (aD ⟨bBe c.1 d.1⟩)
def bD0:R2:=λx y H Q=>(∃a b,x=.int a/\y=.int b/\Q (.bl (!decide (b<a))) H)\/∃a b:Str,x=.str a/\y=.str b/\Q (.bl (!decide (b.cps.toList<a.cps.toList))) H
theorem bCa:OpR X (compareOp .LtE) bD0:=by
 intro f s σ H x y v u Q I c d h;rcases h with⟨a,b,rfl,rfl,q⟩|⟨a,b,rfl,rfl,q⟩
 ·obtain⟨t,rfl⟩:=c;obtain⟨e,rfl⟩:=d;refine PyProof.Rows.le_int ?_;rw[show decide (a<=b)=!decide (b<a) by by_cases h:b<a <;> simp[h] <;> lia];exact⟨.bl _,H,I,rfl,q⟩
 ·obtain⟨t,rfl⟩:=c;obtain⟨e,rfl⟩:=d;exact P.le_str ⟨.bl _,H,I,rfl,q⟩
def aPo (g:Gl X "range")(d:X.mg "range"=none)(e:VA X [a,b] t)(f:cB a=true:=by rfl)(c:cB b=true:=by rfl):VI X tg (.Call (.Name "range" p) [a,b] [] pos) (aZg t):=⟨aP0 g d e.1 (by rw[aN f,aN c];rfl) (by rw[aN c];rfl)⟩
def Rf (H:Hp)(E:XK)(C:Addr):Prop:=∀a H',Same H H'->E (.ref C) (some a) H'
def Rf.same (s:Same H H1)(h:Rf H E C):Rf H1 E C:=λa b c=>h a b (s.trans c)
def aD1 (K:bF9)(CT:Addr)(E:XK)(H:Hp)(es:List En)(v:V):Prop:=∃t,dD K H v t/\(∀e∈es,t≠.str e.n)/\Rf H E CT
inductive nJ (K:bF9)(CT:Addr)(vs:List V)(H:Hp)(Q:VK)(E:XK):Prop
 |mk (d:Addr) (es:List En) (v:V) (_:vs=[.ref d,v]) (_:eQ K H d es) (_:((∃e∈es,v=.str e.n/\∀H',Same H H'->Q e.v H')\/aD1 K CT E H es v))
theorem uG:∀{es:List En} {e:En},(es.map (·.n)).Nodup->e∈es->eO (enK es) (Sum.inr e.n)=some e.v
 |[],e,nd,h=>by cases h
 |a::es,e,nd,h=>by
  rw[bAI,bFT] at nd;rcases List.mem_cons.mp h with rfl|h
  ·exact dM rfl
  ·have:a.n≠e.n:=λz=>nd.1 (z ▸ bCX h);show eO ((Sum.inr a.n,a.v)::enK es) (Sum.inr e.n)=_;rw[cO (λz=>this (Sum.inr.inj z))];exact uG nd.2 h
def aV0:(∀e∈es,e.n≠n)->eO (enK es) (Sum.inr n)=none:=by
 induction es with
 |nil=>exact λ_=>rfl
 |cons e es ih=>intro h;show eO ((Sum.inr e.n,e.v)::enK es) (Sum.inr n)=_;rw[cO (λz=>h e j4 (Sum.inr.inj z))];exact ih λb a=>h b (j5 _ a)
def aIh (T:Txt w K mg)(b:ExT K mg dR "NoTable" "ShardError.__init__" CT S)(G:Ok P w K mg base 2 "is_name" o6 (aCj K nameB)):OkX P w K mg base 3 "table_in" u6 (nJ K CT):=by
 refine OkX.ofV T.aLa aIm (by trivial) (λf y A m s H J Q E p h=>?_)
 obtain⟨d,L,v,rfl,g,h⟩:=h;have u:=jD p;have hinit:=λ{fI:Addr}=>hinit T fI;refine⟨_,(aB (bM (VW.pt (gB (cC (bR (bB G (va1 (vv 1))))) (fG (aDh u (vv 1) (vv 0))))) (aD (fH b (λfI I F=>gK (k:=0) F gU hinit) (p.mono (by decide)) dX rfl (by rfl) (va1 cD))) aQ) (aD (aK (lH u (vv 0) (vv 1) (λ_ _=>rfl))))),?_⟩;rcases h with⟨e,i,rfl,q⟩|⟨t,ht,hn,qF⟩
 ·refine⟨_,rfl,_,rfl,(g.nm e i).th,λo c=>⟨_,rfl,?_⟩⟩;rw[show nameB (.str e.n)=true from g.nm e i];refine bZ ?_;have r:=uG g.nd i;refine⟨_,rfl,_,rfl,d,_,rfl,.inl ⟨_,Sum.inr e.n,.inl (c _ _ g.at_),rfl,rfl⟩,_,rfl,?_⟩;rw[r];refine bZ ?_;exact⟨_,rfl,_,rfl,d,e.v,rfl,.inl ⟨_,Sum.inr e.n,.inl (c _ _ g.at_),rfl,r.symm⟩,q o c⟩
 ·refine⟨_,rfl,_,rfl,aPc ht,λo c=>⟨_,rfl,?_⟩⟩;rw[aVm ht];cases x:aRu t with
  |false=>exact cP ⟨rfl,λa j B l D=>qF a _ (c.trans (aO l _))⟩
  |true=>
   obtain⟨n,rfl⟩:=aQh x;have C:v=.str n:=by cases ht;rfl
   subst C;refine bZ ⟨_,rfl,_,rfl,d,_,rfl,.inl ⟨_,Sum.inr n,.inl (c _ _ g.at_),rfl,rfl⟩,_,rfl,?_⟩;rw[aV0 λe i z=>hn e i (by rw[z])];exact cP ⟨rfl,λa j B l D=>qF a _ (c.trans (aO l _))⟩
inductive aNj (K:bF9)(vs:List V)(H:Hp)(Q:VK)(E_:XK):Prop
 |mk (d:Addr) (es:List En) (e:En) (_:vs=[.ref d,.str e.n]) (_:eQ K H d es) (_:e∈es) (_:∀H',Same H H'->Q e.v H')
def aZz (G:OkX P w K mg base 3 "table_in" u6 (nJ K CT)):Ok P w K mg base 3 "table_in" u6 (aNj K):=
 G.calm λf H Q E h=>by obtain⟨d,a,e,rfl,c,b,q⟩:=h;exact⟨d,a,_,rfl,c,.inl ⟨e,b,rfl,q⟩⟩
def bBg (d:dF kd a)(c:dF kd b)(q:Q (.bl (!vlt b a)) H):bD0 a b H Q:=by
 cases d with
 |num=>cases c;exact .inl ⟨_,_,rfl,rfl,q⟩
 |wrd _ _=>cases c;exact .inr ⟨_,_,rfl,rfl,q⟩
def aB9 (v:V):List (V × Int)->Nat->Nat->Nat
 |[],_,n=>n
 |c::t,p,n=>aB9 v t (p+1) (if vlt v c.1=true then n else p)
theorem aEn (v:V):∀(l:List (V × Int)) (c:V × Int) (p n:Nat),aB9 v (l++[c]) p n=if vlt v c.1=true then aB9 v l p n else p+l.length
 |[],c,p,n=>by show (if _ then _ else _)=_;rfl
 |a::l,c,p,n=>by
  show aB9 v (l++[c]) (p+1) _=_;rw[aEn v l c];show (if _ then aB9 v l (p+1) _ else p+1+l.length)=if _ then aB9 v l (p+1) _ else p+(l.length+1)
  rw[show p+1+l.length=p+(l.length+1) by lia]
inductive aAw (K:bF9)(vs:List V)(H:Hp)(Q:VK)(E_:XK):Prop
 |mk (vc v:V) (kd:Str) (h0:Int) (cs:List (V × Int)) (_:vs=[vc,v]) (_:kE K H (gZ K H) vc ((.non,h0)::cs)) (_:cs.length<=7) (_:dF kd v) (_:(∀c∈cs,dF kd c.1)) (_:Q (.int (aB9 v cs 1 0:Nat)) H)
def aQg (T:Txt w K mg):Ok P w K mg base 1 "cut_of" bQX (aAw K):=by
 refine Ok.ofV T.aT2 aEo (by trivial) (λf G A x s H S Q E N h=>?_)
 obtain⟨U,v,M,O,d,rfl,⟨a,b,rfl,z,C⟩,V,I,u,q⟩:=h;have R:=aEo.nd;refine⟨_,(aB (aY 2 aA) (aB (jU PassesOwn.never rfl (aPo (by rfl) T.iK (aF aA (va1 (aL bA (by rfl) T.eU cN (va1 (vv 0)))))) (gF 3) (aD (bM (eG bCa (aU aR (aU aR (vv 0) (vv 3)) aA) (vv 1)) (aD (aY 2 (vv 3))) aQ))) (aD (aK (vv 2))))),?_⟩;have F:=C.len;rw[t6] at F;have L:b.length<=8:=by lia
 refine⟨_,rfl,_,_,rfl,.inr z,1,b.length,rfl,⟨by decide,by decide,by lia,by lia⟩,?_⟩;rw[show ((b.length:Int) - 1).toNat=d.length by lia];refine gC (λi σ m=>m=H/\∃l,σ=[some (.ref a),some v,some (.int (aB9 v (d.take i) 1 0:Nat)),l]) ⟨rfl,_,rfl⟩ (λi σ m J p=>?_) fun σ m p=>?_
 ·obtain⟨rfl,l,rfl⟩:=p;have g:i+1<b.length:=by lia
  obtain⟨c,o,y,n,t⟩:=bW C (b8 g);rw[bEV] at o;have e:atI b (1+(i:Int))=some (.ref y):=by rw[show (1+(i:Int))=((i+1:Nat):Int) by lia,<-n];exact bO (b8 g)
  have r:=u c (m8 o);have D:d.take (i+1)=d.take i++[c]:=by rw[bBW,o];rfl
  have k:(d.take i).length=i:=by rw[bAR];lia
  refine⟨_,rfl,_,rfl,a,b,_,_,rfl,rfl,z,e,y,_,0,_,rfl,rfl,t,at0 _ _,_,rfl,bBg r I ⟨_,rfl,?_⟩⟩;have j:=aEn v (d.take i) c 1 0;rw[<-D,k] at j;cases B:vlt v c.1 with
  |true=>rw[B,if_pos rfl] at j;exact bZ ⟨rfl,some (.int (1+(i:Int))),by rw[j];rfl⟩
  |false=>rw[B,if_neg v6] at j;refine cP ⟨_,rfl,rfl,some (.int (1+(i:Int))),?_⟩;rw[j,show (((1+i:Nat)):Int)=1+(i:Int) by lia];rfl
 ·obtain⟨rfl,l,rfl⟩:=p;rw[bAV (j0 _)];exact⟨_,rfl,q⟩
def bDe (h:qR hd r)(d:look hd n=some k):∃v,r[plc hd n]?=some v/\r.getD (plc hd n) .non=v/\dF k v:=by obtain⟨c,_⟩:=aK2 d;obtain⟨v,a,b⟩:=bW h c;exact⟨v,a,by rw[j9,a];rfl,b⟩
theorem aAp {α:Type}{p:Nat->Bool}{p':α->Bool}:∀{k:Nat} {xs:List α},(∀(i:Nat) (x:α),xs[i]?=some x->p (k+i)=p' x)->sel p k xs=xs.filter p'
 |_,[],_=>rfl
 |k,x::r,h=>by have a:=h 0 x rfl;rw[Nat.add_zero] at a;show (if p k then x::sel p (k+1) r else sel p (k+1) r)=_;rw[bEE,a,aAp (k:=k+1) (xs:=r) λi y e=>by rw[show k+1+i=k+(i+1) by lia];exact h (i+1) y (by simpa using e)]
def aUk {α β:Type}{R:α->β->Prop}{p:Nat->Bool}{as:List α}{c:List β}(h:dO R as c):∀k,dO R (sel p k as) (sel p k c):=by
 induction h with
 |nil=>exact λ_=>.nil
 |@cons a b as c r _ ih=>
  intro k;show dO R (if p k then a::sel p (k+1) as else sel p (k+1) as) (if p k then b::sel p (k+1) c else sel p (k+1) c)
  split
  ·exact .cons r (ih _)
  ·exact ih _
def aYo (i j k:Nat)(m:(y,NameKind.free)∈scope.names)(l:(z,NameKind.free)∈scope.names)(e:(y3,NameKind.free)∈scope.names)(hi:X.N[i]?=some y)(f:X.N[j]?=some z)(p:X.N[k]?=some y3)(h:σ[i]?=some (some u))(s:σ[j]?=some (some v))(d:σ[k]?=some (some u3))(g:Vis X.env.scope y)(o:Vis X.env.scope z)(c:Vis X.env.scope y3):Cap X scope [x,y,z,y3] σ [none,some u,some v,some u3]:=
 ⟨rfl,λn q r b a=>by
  match n,b,a with
  |0,_,a=>cases a
  |1,b,a=>cases b;cases a;exact⟨m,i,hi,h,g⟩
  |2,b,a=>cases b;cases a;exact⟨l,j,f,s,o⟩
  |3,b,a=>cases b;cases a;exact⟨e,k,p,d,c⟩
  |n+4,b,_=>cases b⟩
def aA7:Sp:=λ_ _ _ _=>False
def aFa (T:Txt w K mg):Ok P w K mg base 1 "stands_at" bQB aA7:=
 Ok.ofV T.aIw aFb (λ_ _ _ _ h=>h.elim) (λ_ _ _ _ _ _ _ _ _ _ h=>h.elim)
inductive aEa (K:bF9)(CH:Addr)(vs:List V)(H:Hp)(Q:VK)(E:XK):Prop
 |mk (v vo:V) (t:Tg) (m:Int) (_:vs=[v,vo,.int m]) (_:dD K H vo t) (_:jC m t=false) (_:Rf H E CH)
def aMe (T:Txt w K mg)(b:ExT K mg dR "NoHouse" "ShardError.__init__" CH S)(u:Ok P w K mg base 2 "is_number_below" bQF (qL K))(n:Ok P w K mg base 1 "stands_at" bQB aA7):OkX P w K mg base 4 "rows_at" bQG (aEa K CH):=by
 refine OkX.ofV T.aQp aM7 (by trivial) (λf j A c s H z Q E g h=>?_)
 have hinit:=λ{fI:Addr}=>hinit T fI;refine⟨_,(aB (bM (cC (bR (bB u (aF (vv 1) (va1 (vv 2)))))) (aD (fH b (λfI y F=>gK (k:=0) F gU hinit) (g.mono (by decide)) dX rfl (by rfl) (va1 cD))) aQ) (aD (aK (cU (N:=["row","house","houses","table"]) ck (iG (aC wJ)) rfl (lG (aU (cH (K:=K)) (vv 0) aA)) (λq x r D=>⟨(jH 0),(zX (bR (bB n (aF (aU (cH (K:=K)) (vv 3) aA) (aF (aU (cH (K:=K)) (vv 3) aA) (aF (vv 0) (aF (vv 1) (va1 (vv 2))))))))),(vv 0)⟩))))),?_⟩;obtain⟨v,e,t,m,rfl,i,o,d⟩:=h;refine⟨_,rfl,_,rfl,e,t,m,rfl,i,_,rfl,?_⟩;rw[o];exact cP ⟨rfl,λa l B p C=>d a _ (aO p _)⟩
def rY (K:bF9)(H:Hp)(C x:Addr)(m:Int)(d:Addr)(es:List En):Prop:=(∃dx,H x=some (.ins C dx [("placed",.ref d),("house_count",.int m)]))/\eQ K H d es/\∀e∈es,kJ m e.t
def rY.same (s:Same H H')(h:rY K H C x m d es):rY K H' C x m d es:=by obtain⟨⟨b,c⟩,a,e⟩:=h;exact⟨⟨b,s _ _ c⟩,a.same s,e⟩
def eE.ins (h:H x=some (.ins C dx fs)):eE H x:=⟨λ_ z=>(by rw[h] at z;cases z),λ_ _ z=>(by rw[h] at z;cases z),λ_ z=>(by rw[h] at z;cases z)⟩
def aC5 {α β:Type}{R:α->β->Prop}{as:List α}{bs:List β}(h:dO R as bs){b:β}(hb:b∈bs):∃a∈as,R a b:=by
 induction h with
 |nil=>cases hb
 |cons r _ ih=>
  rcases List.mem_cons.mp hb with rfl|hb
  ·exact⟨_,j4,r⟩
  ·obtain⟨a,d,c⟩:=ih hb;exact⟨a,j5 _ d,c⟩
def kJ.sorted (h:kJ m t):kJ m { t with rows:=srt t.rows }:=⟨h.hd,h.pl,by rw[aN7];exact h.few,λr a=>h.rows r (yO a)⟩
inductive aNu (K:bF9)(C Pt:Addr)(vs:List V)(H:Hp)(Q:VK)(E_:XK):Prop
 |mk (H0:Hp) (x dx d:Addr) (m:Int) (es:List En) (_:vs=[.ref x,.int m,.ref d]) (_:H x=some (.ins C dx [])) (_:H0 x=none) (_:Same H0 H) (_:1<=m) (_:m<=6) (_:eQ K H0 d es) (_:(∀e∈es,kJ m e.t)) (_:H0 Pt=some (.tab qC)) (_:∀d' H' es',H0 d'=none->Same H0 H'->rY K H' C x m d' es'->dO (λe e'=>∃v L,e'=aCc e v L/\H0 L=none) es es'->Q .non H')
def aTg (T:Txt w K mg)(c:Cls K C)(D:eV K C "__init__" "Town.__init__" iZ o8)(n1:bN K C "placed")(n2:bN K C "house_count")(jB:Ok P w K mg base 10 "placed_tables" u9 (vO K Pt)):OkM P w K mg base C 11 "__init__" o8 (aNu K C Pt):=by
 refine OkM.ofV c D wL (by trivial) (λf V A y s H vs Q E hr h=>?_)
 obtain⟨H0,x,g,d,m,es,rfl,B,hN,k,W,Z,Y,F,O,q⟩:=h;refine⟨_,(aB (aA4 (K:=K) (vv 0) (bB jB (aF (vv 1) (va1 (vv 2))))) (aD (aA4 (K:=K) (vv 0) (vv 1)))),?_⟩;refine⟨_,rfl,_,rfl,d,m,es,rfl,W,Z,Y.same k,F,k _ _ O,λj n r i I a G=>?_⟩;have l:=I _ _ B;refine⟨_,rfl,x,C,g,[],rfl,l,c,n1,by decide,?_⟩;refine⟨_,rfl,_,rfl,x,C,g,_,rfl,aG,c,n2,by show 1<1000;decide,?_⟩;have S:=eE.ins l;have u:j≠x:=λz=>by rw[z,B] at i;cases i
 have t:But x n (L2.upd (L2.upd n x (.ins C g [("placed",.ref j)])) x (.ins C g [("placed",.ref j),("house_count",.int m)])):=λb o J h=>by rw[aM J,aM J];exact h
 have N:Same H0 (L2.upd (L2.upd n x (.ins C g [("placed",.ref j)])) x (.ins C g [("placed",.ref j),("house_count",.int m)])):=λb o h=>t _ _ (λz=>by rw[z,hN] at h;cases h) (I _ _ (k _ _ h));refine q j _ r (none_of k i) N ⟨⟨g,aG⟩,⟨t _ _ u a.at_,a.nd,a.few,a.nm,λe p=>t.tb S (a.tb e p)⟩,λe p=>?_⟩ (G.imp λe e' ⟨v,L,X,R⟩=>⟨v,L,X,none_of k R⟩);obtain⟨M,U,v,L,rfl,_⟩:=aC5 G p;exact (F M U).sorted
inductive sW (K:bF9)(C:Addr)(vs:List V)(H:Hp)(Q:VK)(E_:XK):Prop
 |mk (x d:Addr) (m:Int) (es:List En) (e:En) (_:vs=[.ref x,.str e.n]) (_:rY K H C x m d es) (_:e∈es) (_:∀H',Same H H'->Q e.vp H')
def aHw (T:Txt w K mg)(c:Cls K C)(D:eV K C "placing" "Town.placing" jW n6)(y:bN K C "placed")(v:Ok P w K mg base 3 "table_in" u6 (aNj K)):OkM P w K mg base C 4 "placing" n6 (sW K C):=by
 refine OkM.ofV c D yL (by trivial) (λf k A b s H u Q E F h=>?_)
 obtain⟨x,d,m,t,e,rfl,⟨⟨l,n⟩,i,z⟩,j,q⟩:=h;refine⟨_,(aD (aK (aU (cH (K:=K)) (bB v (aF (cR (K:=K) (vv 0)) (va1 (vv 1)))) aA))),?_⟩;obtain⟨a,r,p,G,B,I⟩:=i.tb e j;exact⟨_,rfl,x,C,l,_,_,rfl,n,c,y,rfl,_,rfl,d,t,e,rfl,i,j,λo g=>⟨a,_,1,_,r,rfl,g.bC p,at1 _ _ _,q o g⟩⟩
inductive mQ (K:bF9)(C:Addr)(vs:List V)(H:Hp)(Q:VK)(E_:XK):Prop
 |mk (x d:Addr) (m:Int) (es:List En) (e:En) (_:vs=[.ref x,.str e.n]) (_:rY K H C x m d es) (_:e∈es) (_:∀L H',H L=none->Same H H'->cF K H' L e.t.rows->Q (.ref L) H')
def aQ5 (T:Txt w K mg)(c:Cls K C)(D:eV K C "whole" "Town.whole" nH n6)(U:bN K C "placed")(S:Ok P w K mg base 3 "table_in" u6 (aNj K)):OkM P w K mg base C 4 "whole" n6 (mQ K C):=by
 refine OkM.ofV c D aCf (by trivial) (λf y A i s H R Q E N h=>?_)
 obtain⟨x,d,m,F,e,rfl,⟨⟨o,u⟩,n,v⟩,g,q⟩:=h;refine⟨_,(aD (aK (cX (aJv (K:=K)) (by rfl) T.wG qG (va1 (aU (cH (K:=K)) (bB S (aF (cR (K:=K) (vv 0)) (va1 (vv 1)))) aA))))),?_⟩;obtain⟨a,z,t,O,W,⟨j,I,k⟩⟩:=n.tb e g;have M:=k.len;have V:=(v e g).few;refine⟨_,rfl,x,C,o,_,_,rfl,u,c,U,rfl,_,rfl,d,F,e,rfl,n,g,λJ b=>⟨a,_,2,_,z,rfl,b.bC t,at2 _ _ _ _,e.L,j,rfl,.inl (SqL.of (b _ _ I)),λL p G l B=>q L p (none_of b G) (b.trans l) ⟨j,B,k.imp λ_ _ r=>r.same (b.trans l)⟩⟩⟩
end
end My
namespace L2
open PySem PySem.Spec PyProof.Rows
abbrev M61:Int:=2305843009213693951
def fM (H:Hp)(a:Addr):Prop:=∃s:Int,H a=some (.lst [.int s])/\True
structure Fx (a:Addr)(H H':Hp):Prop where
 same:∀b o,b≠a->H b=some o->H' b=some o
 st:fM H' a
def Fx.trans (f:Fx a H H1)(g:Fx a H1 H2):Fx a H H2:=⟨λb o n e=>g.same b o n (f.same b o n e),g.st⟩
def fM.same (h:fM H a)(e:Same H H'):fM H' a:=by obtain⟨s,c,b⟩:=h;exact⟨s,e _ _ c,b⟩
def Fx.of (h:fM H a)(e:Same H H'):Fx a H H':=⟨λb o _ q=>e b o q,h.same e⟩
def Fx.refl (h:fM H a):Fx a H H:=.of h (Same.refl H)
def Fx.sm (f:Fx a H H1)(e:Same H1 H2):Fx a H H2:=f.trans (.of f.st e)
def fM.ne (h:fM H a)(f:H p=none):p≠a:=by obtain⟨s,b,_⟩:=h;exact (aW b f).symm
def Fx.bC {K:bF9}{a p:Addr}{H H':Hp}{xs:List V}(f:Fx a H H')(h:fM H a)(e:SqT K H p xs):SqT K H' p xs:=by
 obtain⟨s,b,_⟩:=h;rcases e with (e|⟨o,e⟩)|e
 ·exact .inl (.inl (f.same p _ (aKk e b (by intro z;cases z)) e))
 ·exact .inl (.inr ⟨o,f.same p _ (aKk e b (by intro z;cases z)) e⟩)
 ·exact .inr e
def Fx.upd (f:Fx a H H')(g:H D=none)(h:D≠a):Fx a H (L2.upd H' D o):=⟨λb u n e=>by rw[aM (aW e g)];exact f.same b u n e,by obtain⟨s,d,c⟩:=f.st;exact⟨s,by rw[aM h.symm];exact d,c⟩⟩
def Fx.free (f:Fx a H H')(h:H' p=none):H p=none:=by
 cases e:H p with
 |none=>rfl
 |some o=>
  by_cases z:p=a
  ·subst z;obtain⟨s,b,_⟩:=f.st;rw[b] at h;cases h
  ·rw[f.same p o z e] at h;cases h
def aZd (h:fM H a):bA7 (Fx a) H:=⟨λD o c=>.of h (aO c o),λa b=>a.trans b,λD o j c f=>f.upd c (h.ne c),λD i g d c _ e f=>f.same _ _ (h.ne c) e⟩
end L2
namespace My
open PySem PySem.Spec PyProof.Rows L2
section
variable {P:Program}{w:World}{K:bF9}{mg:bGC}{base:Heap}
inductive aNp (K:bF9)(vs:List V)(H:Hp)(Q:VK)(E_:XK):Prop
 |mk (a:Addr) (ns:List Int) (_:vs=[.ref a]) (_:SqL K H a (ns.map V.int)) (_:ns.length<=63) (_:∀c H',Same H H'->0<=c->c<M61->Q (.int c) H')
def aFg (T:Txt w K mg):Ok P w K mg base 1 "_law_seed" bQK (aNp K):=by
 refine Ok.ofV T.aHg uM (by trivial) (λf j A d s H o Q E p h=>?_)
 obtain⟨a,l,rfl,g,k,q⟩:=h;have n:=uM.nd;refine⟨_,(aB (aY 1 aA) (aB (jU PassesOwn.never rfl (aXv (by rfl) T.aHi (va1 (vv 0))) (aA1 rfl (cG (gF 2) (cG (gF 3) lF))) (aD (aY 1 (bI lV (bI dC (bI dC (bI dC (bI aBy (vv 1) aA) (bI lV (vv 3) (bI aE9 aA aA))) (bI aBy aA (vv 2))) aA) aA)))) (aD (aK (vv 1))))),?_⟩;refine⟨_,rfl,a,l.map V.int,rfl,g,aTf (λi σ b=>Same H b/\∃c l2 l3,0<=c/\c<M61/\σ=[some (.ref a),some (.int c),l2,l3]) ⟨Same.refl H,7,_,_,by decide,by decide,rfl⟩ (λi σ b _ ⟨e,_⟩=>e.seq g) ?_ ?_⟩
 ·rintro i σ b x Tp H'' ex ⟨sm,c,l2,l3,c0,c1,rfl⟩ hT rfl;obtain⟨z,m,rfl⟩:=aSn ex;refine⟨Tp,_,rfl,SqT.of aG,rfl,_,_,rfl,_,_,rfl,rfl,?_⟩;refine⟨_,rfl,_,_,rfl,rfl,.inr ⟨by decide,by decide⟩,_,rfl,_,_,rfl,rfl,⟨by decide,by decide,by decide⟩,_,_,rfl,rfl,(by show (0:Int)<10 ^ 30;decide),_,_,rfl,rfl,_,rfl,_,_,rfl,rfl,.inl ⟨by decide,by decide⟩,_,_,rfl,rfl,_,_,rfl,rfl,_,_,rfl,rfl,(by show (0:Int)<2305843009213693951;decide),?_⟩;exact⟨sm.trans (aO hT _),_,_,_,bFU _ (by decide),bET _ (by decide),rfl⟩
 ·rintro σ b ⟨sm,c,l2,l3,c0,c1,rfl⟩;exact⟨_,rfl,q c b sm c0 c1⟩
inductive jJ (vs:List V)(H:Hp)(Q:VK)(E_:XK):Prop
 |mk (a:Addr) (m:Int) (_:vs=[.ref a,.int m]) (_:fM H a) (_:(0<m/\m<2 ^ 64)) (_:∀c H',Fx a H H'->0<=c->c<m->Q (.int c) H')
def aFj (T:Txt w K mg):Ok P w K mg base 1 "_law_next" n8 jJ:=by
 refine Ok.ofV T.aIy aGc (by trivial) (λf i A c s H k Q E p h=>?_)
 obtain⟨a,m,rfl,⟨g,e,l⟩,⟨d,j⟩,q⟩:=h;refine⟨_,(aB (aGa (bI lV (bI dC (bI aBy (aU bJ (vv 0) aA) aA) aA) aA) (aRw (vv 0) aA set_list)) (aD (aK (bI lV (bI aWc (aU bJ (vv 0) aA) aA) (vv 1))))),?_⟩;refine⟨_,rfl,a,_,0,_,rfl,rfl,SqL.of e,at0 _ _,_,_,rfl,rfl,.inr ⟨by decide,by decide⟩,_,_,rfl,rfl,_,_,rfl,rfl,(by show (0:Int)<2305843009213693951;decide),?_⟩;refine⟨_,rfl,a,_,0,0,rfl,rfl,e,rfl,?_⟩;refine⟨_,rfl,a,[.int ((g * 1181783497276652981+12345678910987) % 2305843009213693951)],0,_,rfl,rfl,SqL.of aG,at0 _ _,_,_,rfl,rfl,⟨by decide,by decide⟩,_,rfl,_,_,rfl,rfl,d,?_⟩;exact q _ _ ⟨λb o n h=>by rw[aM n];exact h,(g * 1181783497276652981+12345678910987) % 2305843009213693951,aG,trivial⟩ (bFU _ (by lia)) (bET _ d)
def aH8:Sp:=λvs H Q _=>∃a:Addr,vs=[.ref a]/\fM H a/\∀i H',Fx a H H'->Q (.int i) H'
def aCb (T:Txt w K mg)(n:Ok P w K mg base 1 "_law_next" n8 jJ):Ok P w K mg base 2 "_law_great" ["_law_state"] aH8:=by
 refine Ok.ofV T.aE6 rF (by trivial) (λf r A g s H D Q E B h=>?_)
 obtain⟨a,rfl,m,q⟩:=h;have C:=rF.nd;refine⟨_,(aB (aY 1 aA) (aB (jU PassesOwn.never rfl (fK (by rfl) T.iK (va1 aA)) (gF 2) (aD (aY 1 (bI dC (bI aBy (vv 1) (bI aE9 aA aA)) (bB n (aF (vv 0) (va1 (bI aE9 aA aA)))))))) (aD (aK (aU bJ (bQ (aF (vv 1) (va1 (bI aGg aA (vv 1))))) (bB n (aF (vv 0) (va1 aA)))))))),?_⟩;refine⟨_,rfl,by decide,by decide,gC (λi σ b=>Fx a H b/\∃c l2,σ=[some (.ref a),some (.int c),l2]) ⟨.refl m,0,_,rfl⟩ ?_ ?_⟩
 ·rintro i σ b hi ⟨fx,c,l2,rfl⟩;refine⟨_,rfl,_,_,rfl,rfl,⟨by decide,by decide,by decide⟩,_,_,rfl,rfl,.inr ⟨by decide,by decide⟩,_,rfl,_,_,rfl,rfl,⟨by decide,by decide,by decide⟩,a,_,rfl,fx.st,(by decide),λd l o _ _=>?_⟩;exact⟨_,_,rfl,rfl,fx.trans o,_,_,rfl⟩
 ·rintro σ b ⟨fx,c,l2,rfl⟩;refine⟨_,rfl,_,rfl,_,_,rfl,rfl,(by show 2<=sizeLine;decide),λp l y e x=>?_⟩;refine⟨_,rfl,a,2,rfl,fx.st.same e,by decide,λd z j u F=>?_⟩;obtain⟨v,t,k⟩:=at_of (xs:=[.int c,.int (0 - c)]) u (by show d<2;lia);refine⟨p,_,_,v,rfl,rfl,SqL.of (j.same _ _ (fx.st.ne y) x),t,?_⟩;simp only[bAC,z9,or_false] at k;rcases k with rfl|rfl
  ·exact q _ _ ((fx.sm e).trans j)
  ·exact q _ _ ((fx.sm e).trans j)
abbrev aL5:List V:=[.str "",.str "a",.str "b",.str "ab"]
inductive yX (vs:List V)(H:Hp)(Q:VK)(E_:XK):Prop
 |mk (a:Addr) (kd:Str) (_:vs=[.ref a,.str kd]) (_:fM H a) (_:aF2 kd) (_:∀v H',Fx a H H'->dF kd v->Q v H')
def aM3 (h:v∈aL5):dF "word" v:=by
 simp only[aL5,bAC,z9,or_false] at h;have a:∀x:Str,(x.cps.all λc=>decide (97<=c) && decide (c<=122))=true->Lets x:=λx d c b=>by have:=(Array.all_eq_true_iff_forall_mem.mp d) c b;rw[bAT] at this;exact⟨of_decide_eq_true this.1,of_decide_eq_true this.2⟩
 rcases h with rfl|rfl|rfl|rfl
 ·exact .wrd (a _ (by trivial)) (by trivial)
 ·exact .wrd (a _ (by trivial)) (by trivial)
 ·exact .wrd (a _ (by trivial)) (by trivial)
 ·exact .wrd (a _ (by trivial)) (by trivial)
def aB7 (T:Txt w K mg)(r:Ok P w K mg base 1 "_law_next" n8 jJ)(I:Ok P w K mg base 2 "_law_great" ["_law_state"] aH8):Ok P w K mg base 3 "_law_value" bQD yX:=by
 refine Ok.ofV T.aE3 rN (by trivial) (λf N A D s H vs Q E Y h=>?_)
 obtain⟨a,X,rfl,J,S,q⟩:=h;have nd:=rN.nd;refine⟨_,(aB (aY 2 (bB r (aF (vv 0) (va1 aA)))) (aB (bM (eG cW (vv 1) aP) (aD (aK (aU bJ (bQ (aF (bI aGg (bB r (aF (vv 0) (va1 aA))) aA) (va1 (bB I (va1 (vv 0)))))) (cX aEj (by rfl) T.aU8 aLi (va1 (tL cW (vv 2) aA)))))) aQ) (aB (bM (eG aY5 (vv 2) aA) (aD (aK (aU bJ (bQ (aF aP (aF aP (aF aP (va1 aP))))) (bI lV (vv 2) aA)))) aQ) (aB (aY 3 aP) (aB (jU PassesOwn.never rfl (fK (by rfl) T.iK (va1 (bB r (aF (vv 0) (va1 aA))))) (gF 4) (aD (aY 3 (bI mW (vv 3) (pU aP (bB r (aF (vv 0) (va1 aA))) (λ_ _=>rfl)))))) (aD (aK (vv 3)))))))),?_⟩;refine⟨_,rfl,a,10,rfl,J,by decide,λb W l w0 Z=>?_⟩;rcases S with rfl|rfl
 ·refine⟨_,rfl,rfl,_,rfl,cP ?_⟩;refine⟨_,rfl,a,4,rfl,l.st,by decide,λd G o y C=>?_⟩;refine⟨_,_,rfl,rfl,_,rfl,a,rfl,o.st,λg L u=>?_⟩;refine⟨(by show 2<=sizeLine;decide),λp M _ B m=>?_⟩;have c:=(l.trans (o.trans u)).sm B;refine⟨_,rfl,rfl,.inr ⟨_,rfl,?_⟩⟩;by_cases e:b=9
  ·rw[v4 (congrArg V.int e)];exact⟨p,_,_,_,rfl,rfl,SqL.of m,bO (j:=1) rfl,q _ _ c .num⟩
  ·rw[v5 (by intro z;exact e (V.int.inj z))];exact⟨p,_,_,_,rfl,rfl,SqL.of m,bO (j:=0) rfl,q _ _ c .num⟩
 ·refine⟨_,rfl,rfl,_,rfl,bZ ?_⟩;refine⟨_,rfl,_,_,rfl,rfl,_,rfl,aLp (λ_=>?_) (λ_=>?_)⟩
  ·refine⟨(by show 4<=sizeLine;decide),λp M _ B m=>?_⟩;obtain⟨v,O,R⟩:=at_of (xs:=aL5) (j:=b % 4) (by lia) (by show b % 4<4;lia);exact⟨_,rfl,_,_,rfl,rfl,(by show (0:Int)<4;decide),p,_,_,v,rfl,rfl,SqL.of m,O,q _ _ (l.sm B) (aM3 R)⟩
  ·refine⟨_,rfl,a,9,rfl,l.st,by decide,λn G o n0 n1=>?_⟩;refine⟨_,rfl,by lia,by lia,gC (n:=n.toNat) (λi σ t=>Fx a H t/\∃(x:Str) (l4:Option V),σ=[some (.ref a),some (.str "word"),some (.int b),some (.str x),l4]/\x.length<=i/\Lets x) ⟨l.trans o,_,_,rfl,by trivial,λd hd=>by simp[show (("":Str).cps)=#[] from rfl] at hd⟩ ?_ ?_⟩
   ·rintro i σ t hi ⟨c,x,l4,rfl,hl,hx⟩;have F:abc.length=26:=by trivial
    refine⟨_,rfl,_,rfl,a,26,rfl,c.st,by decide,λd L u y C=>?_⟩;obtain⟨U,k⟩:=aNl (z:=abc) y (by rw[F];exact C);refine⟨_,_,_,rfl,rfl,y,(by lia),(by rw[F];exact C),k,_,_,rfl,rfl,?_,c.trans u,_,_,rfl,?_,hx.add (aJd.one k)⟩
    ·show x.length+1<=sizeLine;exact small (by lia)
    ·rw[aFm];show x.length+1<=i+1;lia
   ·rintro σ t ⟨c,x,l4,rfl,hl,hx⟩;exact⟨_,rfl,q _ _ c (.wrd hx (by lia))⟩
def aC9:Sp:=λvs H Q _=>vs=[]/\∀p H',H p=none->Same H H'->H' p=some (.lst words)->Q (.ref p) H'
def aCw (T:Txt w K mg):Ok P w K mg base 1 "_law_words" [] aC9:=by
 refine Ok.ofV T.aG3 rH (by trivial) (λf e A b s H t Q E v h=>?_)
 obtain⟨rfl,q⟩:=h;have r:=rH.nd;refine⟨_,(aB (aY 0 (bQ (aF aP (aF aP (aF aP (aF aP (aF aP (aF aP (aF aP (aF aP (va1 aP))))))))))) (aD (aK (bI pP (vv 0) (bQ (aF aP (aF aP (aF aP (aF aP (aF aP (aF aP (aF aP (va1 aP))))))))))))),?_⟩;refine⟨(by decide),λm u _ c i=>?_⟩;refine⟨_,rfl,(by decide),λk o _ a n=>?_⟩;exact⟨m,k,_,_,rfl,rfl,a _ _ i,n,(by decide),λp l g j d=>q p l ((c.trans a).free g) (c.trans (a.trans j)) d⟩
def qX (ns:List Str):Prop:=ns.length=17/\(∀n∈ns,Nm n)/\ns.Nodup
def qX.rev (h:qX ns):qX ns.reverse:=⟨by rw[List.length_reverse];exact h.1,λn a=>h.2.1 n (List.mem_reverse.mp a),List.pairwise_reverse.mpr (h.2.2.imp λq=>Ne.symm q)⟩
def aZr:∀j:_root_.Fin 26,abc.cps[j.val]?=some (97+j.val):=by trivial
def aXm (h:j<26):abc.cps[j]?=some (97+j):=aZr ⟨j,h⟩
def sgl (o:Nat):List Str:=(List.range 17).map λk=>⟨#[97+(o+k)]⟩
def aPa:∀o:_root_.Fin 10,((sgl o.val).all λn=>nameB (.str n))=true/\(Txt.slice abc (some (o.val:Int)) (some ((o.val:Int)+17))).cps.size=17/\((List.range 17).all λi=>decide (sgn (Txt.slice abc (some (o.val:Int)) (some ((o.val:Int)+17))) i=⟨#[97+(o.val+i)]⟩))=true:=by trivial
def aUw (h:(⟨#[a]⟩:Str)=⟨#[b]⟩):a=b:=by have:=congrArg (λx:Str=>x.cps.toList) h;simpa using this
def aU1 (h:o<10):qX (sgl o):=by
 refine⟨by simp[sgl],λn b=>?_,?_⟩
 ·have:=(aPa ⟨o,h⟩).1;rw[bCF] at this;exact this n b
 ·refine List.pairwise_map.mpr (bEM ?_ List.nodup_range);intro k l _ _ a e;have:=aUw e;exact a (by lia)
def aXe {o:Nat}(h:o<10):((List.range (Txt.slice abc (some (o:Int)) (some ((o:Int)+17))).cps.size).map λi=>V.str (sgn (Txt.slice abc (some (o:Int)) (some ((o:Int)+17))) i))=(sgl o).map V.str:=by obtain⟨_,a,b⟩:=aPa ⟨o,h⟩;have a:=a;rw[a];unfold sgl;rw[bDQ];refine List.map_congr_left λi c=>?_;rw[bCF] at b;have:=of_decide_eq_true (b i c);exact congrArg V.str this
def stm (b:Str)(a o:Nat):Nat->List Str:=λi=>(List.range i).map λk=>put b a (97+(o+k))
def bBo (x:Lets b)(hl:b.length<=7)(h:a<=b.length)(ho:o<10)(y:∀w∈words,inV w ((stm b a o 17).map V.str)=false):qX (stm b a o 17):=by
 refine⟨by simp[stm],λn j=>?_,?_⟩
 ·obtain⟨k,i,rfl⟩:=List.mem_map.mp j;have i:=List.mem_range.mp i;have g:inV (.str (put b a (97+(o+k)))) words=false:=by
   cases e:inV (.str (put b a (97+(o+k)))) words with
   |false=>rfl
   |true=>
    exfalso;unfold inV at e;rw[bEF] at e;obtain⟨v,d,s⟩:=e;have f:∃z:Str,v=.str z:=by simp only[words,bAC,z9,or_false] at d;rcases d with rfl|rfl|rfl|rfl|rfl|rfl|rfl|rfl|rfl|rfl|rfl|rfl|rfl|rfl|rfl|rfl|rfl <;> exact⟨_,rfl⟩
    obtain⟨z,rfl⟩:=f;have u:(z == put b a (97+(o+k)))=true:=s;have m:z=put b a (97+(o+k)):=by simpa using u
    have:=y _ d;rw[aO5,decide_eq_false_iff_not] at this;exact this (by rw[m];exact j)
  show ((decide (1<=(put b a (97+(o+k))).length) && (decide ((put b a (97+(o+k))).length<=8) && allIn (put b a (97+(o+k))))) && !inV (.str (put b a (97+(o+k)))) words)=true;have r:Lets (put b a (97+(o+k))):=λc q=>by
   rcases aWj h q with rfl|z
   ·lia
   ·exact x c z
  rw[aYm h,v4 (p:=1<=b.length+1) (by lia),v4 (p:=b.length+1<=8) (by lia),allIn_of r,g];rfl
 ·refine List.pairwise_map.mpr (bEM ?_ List.nodup_range);intro k l _ _ t e;have:=aWo h e;exact t (by lia)
def aUo:Sp:=λvs H Q _=>∃a:Addr,vs=[.ref a,.int 17]/\fM H a/\∀p H' ns,Fx a H H'->H p=none->H' p=some (.lst (ns.map V.str))->qX ns->Q (.ref p) H'
def aCo (T:Txt w K mg)(Y:Ok P w K mg base 1 "_law_next" n8 jJ)(a8:Ok P w K mg base 1 "_law_words" [] aC9):Ok P w K mg base 2 "_law_names" n8 aUo:=by
 refine Ok.ofV T.aG7 rE (by trivial) (λf a9 A a6 s H vs Q E hr h=>?_)
 obtain⟨a,rfl,M,q⟩:=h;have nd:=rE.nd;refine⟨_,(aB (aY 2 aP) (aB (aY 3 (bB Y (aF (vv 0) (va1 (bI aGg aA (vv 1)))))) (aB (aY 4 aP) (aB (jU PassesOwn.never rfl (fK (by rfl) T.iK (va1 (bB Y (aF (vv 0) (va1 aA))))) (gF 5) (aD (aY 4 (bI mW (vv 4) (pU (vv 2) (bB Y (aF (vv 0) (va1 aA))) (λ_ _=>rfl)))))) (aB (aY 6 (bB Y (aF (vv 0) (va1 (bI dC (aL vH (by rfl) T.eU cN (va1 (vv 4))) aA))))) (aB (aY 7 (bQ zV)) (aB (jU PassesOwn.never rfl (fK (by rfl) T.iK (va1 (vv 1))) (gF 5) (aD (eF (aEq PySem.F.plainAttrs_list PySem.F.slot_list_append PySem.F.type_list_append rP (vv 7) (va1 (bI mW (bI mW (cY aF1 (vv 4) eZ (dW (vv 6))) (pU (vv 2) (bI dC (vv 3) (vv 5)) (λ_ _=>rfl))) (cY aF1 (vv 4) (dW (vv 6)) eZ))))))) (aB (bM (bR (aL (aTi rfl) (by rfl) T.bDa bBq (va1 (cU (N:=["_law_word_here","_law_names_here"]) ck (iG (aC mK)) rfl (lG (bAr (a8.mono (by decide)) hr (by rfl))) (λcl s' u fp=>⟨(jH 0),fY,(mU (aL8 (K:=K)) (vv 0) (vv 1) (by with_unfolding_all rfl))⟩))))) (aD (aY 7 (cX (aNb rfl) (by rfl) T.wG qG (va1 (cY aF1 (vv 2) (dW (vv 3)) (dW (bI dC (vv 3) (vv 1)))))))) aQ) (aB (bM (eG cW (bB Y (aF (vv 0) (va1 aA))) aA) (aD (eF (aZn PySem.F.plainAttrs_list PySem.F.slot_list_reverse PySem.F.type_list_reverse aG8 (vv 7)))) aQ) (aD (aK (vv 7)))))))))))),?_⟩;have J:abc.length=26:=by trivial
 refine⟨_,rfl,_,rfl,_,_,rfl,rfl,a,10,rfl,M,by decide,λod H1 f1 o0 o1=>?_⟩;obtain⟨o,rfl⟩:∃o:Nat,od=o:=⟨od.toNat,by lia⟩;have ho:o<10:=by lia
 refine⟨_,rfl,a,8,rfl,f1.st,by decide,λn H2 f2 n0 n1=>?_⟩;refine⟨_,rfl,by lia,by lia,gC (n:=n.toNat) (λi σ u=>Fx a H u/\∃(x:Str) (l5:Option V),σ=[some (.ref a),some (.int 17),some (.str abc),some (.int (o:Nat)),some (.str x),l5,none,none]/\x.length<=i/\Lets x) ⟨f1.trans f2,_,_,rfl,by trivial,λd hd=>by simp[show (("":Str).cps)=#[] from rfl] at hd⟩ ?_ ?_⟩
 ·rintro i σ u L ⟨fx,x,l5,rfl,hl,hx⟩;refine⟨_,rfl,_,rfl,_,rfl,a,26,rfl,fx.st,by decide,λd H3 Z d0 d1=>?_⟩;obtain⟨ch,t⟩:=aNl (z:=abc) d0 (by rw[J];exact d1);refine⟨_,_,_,rfl,rfl,d0,(by lia),(by rw[J];exact d1),t,_,_,rfl,rfl,?_,fx.trans Z,_,_,rfl,?_,hx.add (aJd.one t)⟩
  ·show x.length+1<=sizeLine;exact small (by lia)
  ·rw[aFm];show x.length+1<=i+1;lia
 rintro σ H3 ⟨Z,b,l5,rfl,hl,hb⟩;have a5:b.length<=7:=by lia
 refine⟨_,rfl,_,rfl,_,rfl,small (by lia),_,_,rfl,rfl,a,_,rfl,Z.st,(by show (0:Int)<(b.length:Int)+1/\(b.length:Int)+1<2 ^ 64;lia),λai H4 f4 a0 a1=>?_⟩;obtain⟨g,rfl⟩:∃g:Nat,ai=g:=⟨ai.toNat,by lia⟩;have ha:g<=b.length:=by have:(g:Int)<(b.length:Int)+1:=a1;lia
 have G:=Z.trans f4;refine⟨(by show 0<=sizeLine;decide),λp H5 fp s5 g5=>?_⟩;have k:H p=none:=G.free fp;have v:p≠a:=M.ne k;refine⟨_,rfl,_,rfl,by decide,by decide,gC (n:=17) (λi σ u=>Fx a H u/\u p=some (.lst ((stm b g o i).map V.str))/\∃l5,σ=[some (.ref a),some (.int 17),some (.str abc),some (.int (o:Nat)),some (.str b),l5,some (.int (g:Nat)),some (.ref p)]) ⟨G.sm s5,g5,_,rfl⟩ ?_ ?_⟩
 ·rintro i σ u L ⟨fx,gp,l5,rfl⟩;have s1:=Txt.slice_le b none (some ((g:Nat):Int));have s2:=Txt.slice_le b (some ((g:Nat):Int)) none;have ej:((o:Int)+(0+(i:Int))).toNat=o+i:=by lia
  have t:abc.cps[((o:Int)+(0+(i:Int))).toNat]?=some (97+(o+i)):=by rw[ej];exact aXm (by lia)
  refine⟨_,rfl,.inl ⟨rfl,_,SqL.of gp⟩,_,rfl,_,rfl,_,rfl,_,rfl,small (by lia),_,rfl,_,rfl,_,rfl,_,_,rfl,rfl,_,_,_,rfl,rfl,(by show 0<=(o:Int)+(0+(i:Int));lia),(by show (o:Int)+(0+(i:Int))<2 ^ 63;lia),(by rw[J];show (o:Int)+(0+(i:Int))<26;lia),t,_,_,rfl,rfl,?_,_,rfl,_,rfl,_,rfl,_,rfl,small (by lia),_,_,rfl,rfl,?_,?_⟩
  ·show (Txt.slice b none (some ((g:Nat):Int))).length+1<=sizeLine;exact small (by lia)
  ·rw[aFm];show (Txt.slice b none (some ((g:Nat):Int))).length+1+_<=sizeLine;exact small (by lia)
  refine⟨p,_,_,rfl,rfl,gp,?_,fx.upd k v,?_,_,rfl⟩
  ·rw[j7];exact wA (by simp[stm];lia)
  ·rw[aG];unfold stm;rw[List.range_succ,bAY,bAY];rfl
 rintro σ H6 ⟨f6,g6,l5',rfl⟩;dsimp only[aFd,aPq,tB,tCB,dN];refine aPn (λX=>X=words) (λi _ y=>∃m,words[i]?=some m/\y=.bl (inV m ((stm b g o 17).map V.str))) (λ_ h=>h) (λ_ h=>h) [none,some (.ref p)] ?_ rfl (λR r=>⟨rfl,λW H7 _ U O=>r W H7 _ U O rfl⟩) (λX e=>by subst e;exact small (by decide)) (λX e i x ex u R l sm r=>?_) λX e D H7 ys U O a7 hR=>?_
 ·exact mR 7 (by trivial) rfl rfl (by trivial)
 ·subst e;have fl:iW x=true:=by have:=zR;rw[bCF] at this;exact this x (m8 ex)
  exact⟨_,rfl,_,rfl,p,_,rfl,.inl (SqL.of (sm _ _ g6)),fl,aHl,r _ _ (Same.refl _) ⟨x,ex,rfl⟩⟩
 subst e;have ey:ys=(words.map λm=>inV m ((stm b g o 17).map V.str)).map V.bl:=by
  rw[bDQ];refine bCS λi=>?_;by_cases L:i<ys.length
  ·obtain⟨m,h1,h2⟩:=hR i ys[i] (b8 L);rw[b8 L,t7,h1,h2];rfl
  ·rw[bAD (by lia),bAD (by rw[j7];lia)]
 rw[ey] at O;refine⟨D,_,rfl,SqL.of O,_,rfl,?_⟩;have I:=f6.sm U;refine aLp (λc=>?_) (λc=>?_)
 ·refine⟨_,rfl,_,rfl,_,rfl,_,rfl,_,rfl,_,_,rfl,rfl,_,rfl,abc,rfl,small (by rw[J];decide),?_⟩;refine⟨_,rfl,?_,λS H8 a2 s8 g8=>?_⟩
  ·have:=Txt.slice_le abc (some (o:Int)) (some ((o:Int)+17));rw[J] at this;exact bAE this (by decide)
  have a4:H8 S=some (.lst ((sgl o).map V.str)):=by rw[g8];exact congrArg (λz=>some (HO.lst z)) (aXe ho)
  have f8:=I.sm s8;have j:=I.free a2;refine⟨_,rfl,a,2,rfl,f8.st,by decide,λd H9 C d0 d1=>?_⟩;have B:=C.same _ _ (M.ne j) a4;refine⟨rfl,_,rfl,aLp (λ_=>?_) (λ_=>?_)⟩
  ·refine⟨_,rfl,.inl ⟨rfl,_,SqL.of B⟩,S,_,rfl,rfl,B,?_⟩;refine⟨_,rfl,q S _ (sgl o).reverse ((f8.trans C).upd j (M.ne j)) j ?_ (aU1 ho).rev⟩;rw[aG,List.map_reverse]
  ·exact⟨_,rfl,q S _ (sgl o) (f8.trans C) j B (aU1 ho)⟩
 ·have hw:∀m∈words,inV m ((stm b g o 17).map V.str)=false:=λm a3=>by
   cases e:inV m ((stm b g o 17).map V.str) with
   |false=>rfl
   |true=>exfalso;apply c;rw[bEF];exact⟨true,List.mem_map.mpr ⟨m,a3,e⟩,rfl⟩
  have hn:=bBo hb a5 ha ho hw;refine⟨_,rfl,a,2,rfl,I.st,by decide,λd H9 C d0 d1=>?_⟩;have B:=C.same _ _ v (U _ _ g6);refine⟨rfl,_,rfl,aLp (λ_=>?_) (λ_=>?_)⟩
  ·refine⟨_,rfl,.inl ⟨rfl,_,SqL.of B⟩,p,_,rfl,rfl,B,?_⟩;refine⟨_,rfl,q p _ (stm b g o 17).reverse ((I.trans C).upd k v) k ?_ hn.rev⟩;rw[aG,List.map_reverse]
  ·exact⟨_,rfl,q p _ (stm b g o 17) (I.trans C) k B hn⟩
inductive aKl (K:bF9)(vs:List V)(H:Hp)(Q:VK)(E_:XK):Prop
 |mk (a N:Addr) (ns:List Str) (_:vs=[.ref a,.ref N]) (_:fM H a) (_:H N=some (.lst (ns.map V.str))) (_:N≠a) (_:qX ns) (_:∀v H' hd,Fx a H H'->jK K H' v hd->aP3 hd->hd.length<=7->Q v H')
def aRn {α:Type}{l:List α}(h:l.Nodup){i j:Nat}{x:α}(g:l[i]?=some x)(f:l[j]?=some x):i=j:=by
 have b:=List.pairwise_iff_getElem.mp h;obtain⟨c,d⟩:=List.getElem?_eq_some_iff.mp g;obtain⟨a,e⟩:=List.getElem?_eq_some_iff.mp f;rcases bFD i j with q|q|q
 ·exact absurd (d.trans e.symm) (b i j c a q)
 ·exact q
 ·exact absurd (e.trans d.symm) (b j i a c q)
def bDk {α:Type}{l:List α}(h:∀(i j:Nat) (x:α),l[i]?=some x->l[j]?=some x->i=j):l.Nodup:=by refine List.pairwise_iff_getElem.mpr λi j c a b e=>?_;have:=h i j l[i] (b8 c) (by rw[b8 a,e]);lia
def aT1 {m:List Str}(o:qX m){n:Nat}{hd:Hdr}(hl:hd.length<=8)(h:∀(j:Nat) (c:Str × Str),hd[j]?=some c->m[3+(n+j) % 8]?=some c.1):(hd.map (·.1)).Nodup:=by
 refine bDk λi j x f l=>?_;have g:∀k,(hd.map (·.1))[k]?=some x->k<hd.length/\m[3+(n+k) % 8]?=some x:=λk a=>by
  rw[t7] at a;cases e:hd[k]? with
  |none=>rw[e] at a;cases a
  |some c=>rw[e] at a;cases a;exact⟨(List.getElem?_eq_some_iff.mp e).1,h k c e⟩
 obtain⟨p,b⟩:=g i f;obtain⟨q,d⟩:=g j l;have:=aRn o.2.2 b d;lia
def aFh (T:Txt w K mg)(S:Ok P w K mg base 1 "_law_next" n8 jJ):Ok P w K mg base 2 "_law_head" bQH (aKl K):=by
 refine Ok.ofV T.aIz uL (by trivial) (λf a7 A a2 s H vs Q E hr h=>?_)
 obtain⟨a,N,G,rfl,hs,hN,nN,hn,q⟩:=h;have nd:=uL.nd;refine⟨_,(aB (aY 2 (bB S (aF (vv 0) (va1 aA)))) (aB (aY 3 (bQ zV)) (aB (jU PassesOwn.never rfl (fK (by rfl) T.iK (va1 (bI dC aA (bI aBy (bB S (aF (vv 0) (va1 aA))) (bI dC aA (cX aEj (by rfl) T.aU8 aLi (va1 (tL cW (bB S (aF (vv 0) (va1 aA))) aA)))))))) (gF 4) (aB (aY 5 (aU bJ (bQ (aF aP (aF aP (va1 aP)))) (bB S (aF (vv 0) (va1 aA))))) (aD (eF (aEq PySem.F.plainAttrs_list PySem.F.slot_list_append PySem.F.type_list_append rP (vv 3) (va1 (bL (aF (aU bJ (vv 1) (bI dC aA (bI lV (bI dC (vv 2) (vv 4)) aA))) (va1 (vv 5)))))))))) (aD (aK (cX pQ (by rfl) T.iQ fU (va1 (vv 3)))))))),?_⟩;have a6:=hn.1;refine⟨_,rfl,a,8,rfl,hs,by decide,λu H1 f1 a4 a5=>?_⟩;obtain⟨g,rfl⟩:∃g:Nat,u=g:=⟨u.toNat,by lia⟩;refine⟨(by show 0<=sizeLine;decide),λp H2 fp s2 g2=>?_⟩;have f2:=f1.sm s2;have x:H p=none:=f1.free fp;have b:p≠a:=hs.ne x;refine⟨_,rfl,a,4,rfl,f2.st,by decide,λm H3 Y m0 m1=>?_⟩;refine⟨_,rfl,a,8,rfl,Y.st,by decide,λe H4 f4 e0 e1=>?_⟩;have M:=f2.trans (Y.trans f4);have g4:=f4.same _ _ b (Y.same _ _ b g2);refine⟨rfl,.inr ⟨_,rfl,?_⟩⟩;have U:∃z:Nat,1+m * (1+(if decide (V.int e=V.int 0) then 1 else 0))=(z:Int)/\1<=z/\z<=7:=by
  cases decide (V.int e=V.int 0)
  ·exact⟨(1+m).toNat,by simp;lia,by lia,by lia⟩
  ·exact⟨(1+m * 2).toNat,by simp;lia,by lia,by lia⟩
 obtain⟨z,ez,z1,z7⟩:=U;refine⟨_,_,rfl,rfl,_,_,rfl,rfl,.inl ⟨by lia,by lia⟩,_,_,rfl,rfl,?_⟩;refine⟨(z:Int),?_,by lia,by lia,?_⟩
 ·show [V.int (1+m * (1+(if decide (V.int e=V.int 0) then 1 else 0)))]=_;rw[ez]
 rw[bAJ];refine gC (n:=z) (λi σ o=>Fx a H o/\∃(us:List V) (hd:Hdr) (l4 l5:Option V),o p=some (.lst us)/\hd.length=i/\dO (IsC K o) us hd/\(∀(j:Nat) (c:Str × Str),hd[j]?=some c->G[3+(g+j) % 8]?=some c.1/\aF2 c.2)/\σ=[some (.ref a),some (.ref N),some (.int (g:Nat)),some (.ref p),l4,l5]) ⟨M,[],[],_,_,g4,rfl,.nil,λj c h=>by simp at h,rfl⟩ ?_ ?_
 ·rintro i σ o hi ⟨fx,us,hd,l4,l5,gp,hl,hu,hc,rfl⟩;have lu:=hu.len;refine⟨(by show 3<=sizeLine;decide),λp1 H5 a0 l L=>?_⟩;refine⟨_,rfl,a,3,rfl,fx.st.same l,by decide,λd H6 B d0 d1=>?_⟩;obtain⟨kv,R,v⟩:=at_of (xs:=[.str "number",.str "number",.str "word"]) d0 (by show d<3;lia);obtain⟨D,rfl,a3⟩:∃D:Str,kv=.str D/\aF2 D:=by
   simp only[bAC,z9,or_false] at v;rcases v with rfl|rfl|rfl
   ·exact⟨_,rfl,.inl rfl⟩
   ·exact⟨_,rfl,.inl rfl⟩
   ·exact⟨_,rfl,.inr rfl⟩
  have r:=(fx.sm l).trans B;refine⟨p1,_,_,_,rfl,rfl,SqL.of (B.same _ _ (fx.st.ne a0) L),R,?_⟩;have k:=B.same _ _ b (l _ _ gp);have O:=r.same _ _ nN hN;have J:dO (IsC K H6) us hd:=hu.imp λ_ _ ⟨p',ep,I⟩=>⟨p',ep,B.bC (fx.st.same l) (l.bC I)⟩;have y:3+(g+i) % 8<G.length:=by lia
  refine⟨_,rfl,.inl ⟨rfl,_,SqL.of k⟩,?_⟩;refine⟨_,rfl,_,rfl,_,rfl,_,_,rfl,rfl,_,_,rfl,rfl,(by show (0:Int)<8;decide),_,_,rfl,rfl,N,_,_,.str G[3+(g+i) % 8],rfl,rfl,SqL.of O,?_,_,rfl,(by show 2<=sizeLine;decide),λt H7 ft C g7=>?_⟩
  ·have e8:(3:Int)+((g:Int)+(0+(i:Int))) % 8=((3+(g+i) % 8:Nat):Int):=by lia
   rw[e8];exact bO (by rw[t7,b8 y];rfl)
  refine⟨p,_,_,rfl,rfl,C _ _ k,wA (by lia),?_⟩;have a1:=(aW k ft).symm;refine⟨(r.sm C).upd x b,us++[.ref t],hd++[(G[3+(g+i) % 8],D)],_,_,aG,by rw[bAB,hl];rfl,?_,λj c h=>?_,rfl⟩
  ·refine (J.imp λ_ _ ⟨p',ep,I⟩=>⟨p',ep,(C.bC I).qQ (C _ _ k)⟩).app (.cons ⟨t,rfl,SqT.of (by rw[aM a1];exact g7)⟩ .nil)
  ·by_cases X:j<hd.length
   ·rw[bAZ X] at h;exact hc j c h
   ·rw[bAW (by lia)] at h;have Z:j - hd.length=0:=by
     by_cases z0:j - hd.length=0
     ·exact z0
     ·rw[bAD (by simp;lia)] at h;cases h
    rw[Z] at h;cases h;have:j=i:=by lia
    subst this;exact⟨b8 y,a3⟩
 ·rintro σ o ⟨fx,us,hd,l4,l5,gp,hl,hu,hc,rfl⟩;refine⟨_,rfl,p,us,rfl,SqL.of gp,λt H5 _ l L=>q _ _ hd (fx.sm l) ⟨t,us,rfl,SqT.of L,hu.imp λ_ _ h=>h.same l⟩ ⟨⟨aT1 hn (by lia) λj c h=>(hc j c h).1,by lia,by lia⟩,λc W=>?_⟩ (by lia)⟩;obtain⟨j,X,e⟩:=bBJ W;have h2:=hc j c (by rw[b8 X,e]);exact⟨hn.2.1 _ (m8 h2.1),h2.2⟩
def TK (K:bF9)(H H':Hp):Prop:=∀p xs,SqT K H p xs->SqT K H' p xs
def _root_.L2.Fx.tk (f:Fx a H H')(h:fM H a):TK K H H':=λ_ _ e=>f.bC h e
def TK.of (s:Same H H'):TK K H H':=λ_ _ e=>s.bC e
def IsC.tk (e:TK K H H')(h:IsC K H v c):IsC K H' v c:=by obtain⟨p,rfl,a⟩:=h;exact⟨p,rfl,e _ _ a⟩
def aNw {α:Type}{K:bF9}{H H':Hp}{R S:V->α->Prop}{v:V}{xs:List α}(e:TK K H H')(k:∀a b,R a b->S a b)(h:kE K H R v xs):kE K H' S v xs:=by obtain⟨a,f,rfl,c,d⟩:=h;exact⟨a,f,rfl,e _ _ c,d.imp k⟩
def jK.tk (e:TK K H H')(h:jK K H v hd):jK K H' v hd:=aNw e (λ_ _ q=>q.tk e) h
def aUi (a:(hd.map (·.1)).Nodup)(h:c∈hd):look hd c.1=some c.2:=by
 induction hd with
 |nil=>cases h
 |cons x r ih=>
  rw[bAI,bFT] at a;unfold look;rw[bCB];rcases List.mem_cons.mp h with rfl|h
  ·rw[v4 rfl];rfl
  ·have b:¬ x.1=c.1:=λz=>a.1 (by rw[z];exact List.mem_map.mpr ⟨c,h,rfl⟩);rw[v5 b];exact ih a.2 h
theorem zG {α β:Type}{R:α->β->Prop}:∀{as:List α} {bs:List β},as.length=bs.length->(∀(i:Nat) (a:α) (b:β),as[i]?=some a->bs[i]?=some b->R a b)->dO R as bs
 |[],[],_,_=>.nil
 |[],_::_,h,_=>by cases h
 |_::_,[],h,_=>by cases h
 |a::as,b::bs,h,k=>.cons (k 0 a b rfl rfl) (zG (by simpa using h) λi x y d c=>k (i+1) x y (by simpa using d) (by simpa using c))
theorem aBx {α:Type}:∀(k:Nat) (xs:List α),sel (λ_=>true) k xs=xs
 |_,[]=>rfl
 |k,x::r=>by show (if true=true then x::sel (λ_=>true) (k+1) r else _)=_;rw[if_pos rfl,aBx (k+1) r]
def aAz (h:pX R (List.range n) ys):ys.length=n/\∀i y,ys[i]?=some y->R i y:=by
 have b:∀{d:List Nat} {ys:List V},pX R d ys->∀(i:Nat) (y:V),ys[i]?=some y->∃j,d[i]?=some j/\R j y:=by
  intro d ys h
  induction h with
  |nil=>intro i y e;simp at e
  |cons r _ ih=>
   intro i y e;cases i with
   |zero=>cases e;exact⟨_,rfl,r⟩
   |succ i=>obtain⟨j,a,c⟩:=ih i y (by simpa using e);exact⟨j,by simpa using a,c⟩
 have l:=h.len;rw[bAM] at l;refine⟨l.symm,λi y e=>?_⟩;obtain⟨j,a,c⟩:=b h i y e;have f:i<n:=by have:=(List.getElem?_eq_some_iff.mp e).1;lia
 rw[bCV f] at a;cases a;exact c
def aZe (h:KdR ks r):∀x∈r,(∃i,x=.int i)\/∃z,x=.str z:=by
 unfold KdR at h
 induction h with
 |nil=>intro x hx;cases hx
 |@cons b y _ _ h _ ih=>
  intro x hx;rcases List.mem_cons.mp hx with rfl|hx
  ·cases b with
   |true=>exact .inl h
   |false=>exact .inr h
  ·exact ih x hx
inductive aF5 (K:bF9)(vs:List V)(H:Hp)(Q:VK)(E_:XK):Prop
 |mk (a:Addr) (vh:V) (hd:Hdr) (_:vs=[.ref a,vh]) (_:fM H a) (_:jK K H vh hd) (_:aP3 hd) (_:∀t H' r,Fx a H H'->H' t=some (.tup r)->qR hd r->Q (.ref t) H')
def aHo (T:Txt w K mg)(gG:Ok P w K mg base 3 "_law_value" bQD yX):Ok P w K mg base 4 "_law_row" o7 (aF5 K):=by
 refine Ok.ofV T.aL0 aJp (by trivial) (λf a0 A J s H vs Q E hr h=>?_)
 obtain⟨a,vh,hd,rfl,o,⟨b,Y,rfl,F,M⟩,⟨p,G⟩,q⟩:=h;refine⟨_,(aD (aK (cX pQ (by rfl) T.iQ fU (va1 (cU (N:=["_law_name","_law_kind","_law_state"]) ck (iG (aC sG)) rfl (rQ (vv 1)) (λcl s' l fp=>⟨(yR (K:=K) (n:=2) rfl (cG (jH 0) (cG (jH 1) lF))),fY,(bB gG (aF (vv 2) (va1 (vv 1))))⟩)))))),?_⟩;have lu:=M.len;have l8:=p.2.2;dsimp only[sH,tCB,dN];refine zK [none,none,some (.ref a)] ?_ ⟨_,rfl,b,rfl,⟨_,F⟩,aUq (Fx a) (aZd o) Y (λ_=>true) (λi _ y=>∃c,hd[i]?=some c/\dF c.2 y) (λ_ _ h=>h) (λ_ _ _ h=>h) (λi σ=>∃c,hd[i]?=some c/\At2 [none,none,some (.ref a)] (.str c.1) (.str c.2) σ) (Ps2 [none,none,some (.ref a)]) ⟨none,none,rfl⟩ (small (by lia)) _ (aMy λl e=>e.bC o F) (aBq λl e=>e.bC o F) (λi x σ' l Q' C B e X=>?_) (λi x u C O l R e r=>r l (Fx.refl e.st)) (λi x u C O hp l R e r=>?_) λD H6 ys V fD Z m=>?_⟩
 ·refine⟨rfl,λi y v j g=>?_⟩
  match i,j,g with
  |0,_,g=>cases g
  |1,_,g=>cases g
  |2,j,g=>cases j;cases g;exact⟨by trivial,0,rfl,rfl,by trivial⟩
  |i+3,j,_=>cases j
 ·obtain⟨c,d,p',rfl,I⟩:=bW M C;exact hg2 (e.bC o I) B fun u j g=>X u j ⟨c,d,g⟩
 ·obtain⟨c,d,rfl⟩:=O;exact⟨_,rfl,_,rfl,a,c.2,rfl,e.st,(G c (m8 d)).2,λv U W z=>r v U W ⟨c,d,z⟩⟩
 ·rw[aBx] at m;obtain⟨l1,l2⟩:=aAz m;refine⟨D,_,rfl,SqL.of Z,λt H3 _ s3 S=>q t H3 ys (V.sm s3) S (zG (by lia) λi k y L ey=>?_)⟩;obtain⟨c,d,z⟩:=l2 i y ey;rw[d] at L;cases L;exact z
end
end My
namespace L2
open PySem PySem.Spec PyProof.Rows
def aRx (c:KdV k a)(d:KdV k b)(h:kvlt a b=true):kvlt b a=false:=by
 cases k with
 |true=>obtain⟨x,rfl⟩:=c;obtain⟨y,rfl⟩:=d;have:=of_decide_eq_true (show decide (x<y)=true from h);exact v5 (by lia)
 |false=>obtain⟨x,rfl⟩:=c;obtain⟨y,rfl⟩:=d;have:=of_decide_eq_true (show decide (x.cps.toList<y.cps.toList)=true from h);exact v5 (List.lt_asymm this)
def aZ5 (d:KdV k a)(e:KdV k b)(h:KdV k c)(j:kvlt b a=false)(i:kvlt c b=false):kvlt c a=false:=by
 cases k with
 |true=>obtain⟨x,rfl⟩:=d;obtain⟨y,rfl⟩:=e;obtain⟨z,rfl⟩:=h;have:=of_decide_eq_false (show decide (y<x)=false from j);have:=of_decide_eq_false (show decide (z<y)=false from i);exact v5 (by lia)
 |false=>obtain⟨x,rfl⟩:=d;obtain⟨y,rfl⟩:=e;obtain⟨z,rfl⟩:=h;have f:=of_decide_eq_false (show decide (y.cps.toList<x.cps.toList)=false from j);have g:=of_decide_eq_false (show decide (z.cps.toList<y.cps.toList)=false from i);exact v5 (List.not_lt.mpr (List.le_trans (List.not_lt.mp f) (List.not_lt.mp g)))
def aUx (d:KdV k a)(f:KdV k b)(l:kvlt a b=false)(i:kvlt b a=false):a=b:=by
 cases k with
 |true=>obtain⟨x,rfl⟩:=d;obtain⟨y,rfl⟩:=f;have:=of_decide_eq_false (show decide (x<y)=false from l);have:=of_decide_eq_false (show decide (y<x)=false from i);rw[show x=y by lia]
 |false=>obtain⟨x,rfl⟩:=d;obtain⟨y,rfl⟩:=f;have g:=of_decide_eq_false (show decide (x.cps.toList<y.cps.toList)=false from l);have h:=of_decide_eq_false (show decide (y.cps.toList<x.cps.toList)=false from i);have e:=List.le_antisymm (List.not_lt.mp h) (List.not_lt.mp g);obtain⟨⟨c⟩⟩:=x;obtain⟨⟨j⟩⟩:=y;have:c=j:=e;rw[this]
def iT {k:Bool}{ks:List Bool}{a b:V}{r q:List V}(c:KdV k a)(d:KdV k b):rlt (a::r) (b::q)=if a=b then rlt r q else kvlt a b:=by
 cases k with
 |true=>
  obtain⟨x,rfl⟩:=c;obtain⟨y,rfl⟩:=d;show (if (x == y)=true then rlt r q else decide (x<y))=_;by_cases e:x=y
  ·subst e;rw[if_pos (by simp),if_pos rfl]
  ·rw[if_neg (by simpa using e),if_neg (by intro z;exact e (V.int.inj z))];rfl
 |false=>
  obtain⟨x,rfl⟩:=c;obtain⟨y,rfl⟩:=d;show (if (x == y)=true then rlt r q else decide (x.cps.toList<y.cps.toList))=_;by_cases e:x=y
  ·subst e;rw[if_pos (by simp),if_pos rfl]
  ·rw[if_neg (by simpa using e),if_neg (by intro z;exact e (V.str.inj z))];rfl
def aHj {ks:List Bool}{a:List V}(p:KdR ks a):∀{b},KdR ks b->rlt a b=true->rlt b a=false:=by
 induction p with
 |nil=>intro b q h;cases q;cases h
 |@cons k x ks a ha ta ih=>
  intro b q h;obtain _|⟨hb,tb⟩:=q;rename_i y b;rw[iT (ks:=ks) ha hb] at h;rw[iT (ks:=ks) hb ha];by_cases e:x=y
  ·rw[if_pos e] at h;rw[if_pos e.symm];exact ih tb h
  ·rw[if_neg e] at h;rw[if_neg (Ne.symm e)];exact aRx ha hb h
def aZ1 (p:KdR ks a):rlt a a=false:=by
 cases h:rlt a a with
 |false=>rfl
 |true=>rw[aHj p p h] at h;cases h
def aZx {ks:List Bool}{a:List V}(p:KdR ks a):∀{b c},KdR ks b->KdR ks c->rlt b a=false->rlt c b=false->rlt c a=false:=by
 induction p with
 |nil=>intro b c q r _ _;cases q;cases r;rfl
 |@cons k x ks a ha ta ih=>
  intro b c q r e d;obtain _|⟨hb,tb⟩:=q;obtain _|⟨hc,tc⟩:=r;rename_i y b z c;rw[iT (ks:=ks) hb ha] at e;rw[iT (ks:=ks) hc hb] at d;rw[iT (ks:=ks) hc ha];by_cases g:y=x
  ·subst g;rw[if_pos rfl] at e;by_cases f:z=y
   ·subst f;rw[if_pos rfl] at d ⊢;exact ih tb tc e d
   ·rw[if_neg f] at d ⊢;exact d
  ·rw[if_neg g] at e;by_cases f:z=y
   ·subst f;rw[if_neg g];exact e
   ·rw[if_neg f] at d;by_cases h:z=x
    ·subst h;exact absurd (aUx hc hb d e) f
    ·rw[if_neg h];exact aZ5 ha hb hc e d
def aZ6 {ks:List Bool}{a:List V}(p:KdR ks a):∀{b},KdR ks b->rlt a b=false->rlt b a=false->a=b:=by
 induction p with
 |nil=>intro b q _ _;cases q;rfl
 |@cons k x ks a ha ta ih=>
  intro b q d c;obtain _|⟨hb,tb⟩:=q;rename_i y b;rw[iT (ks:=ks) ha hb] at d;rw[iT (ks:=ks) hb ha] at c;by_cases e:x=y
  ·subst e;rw[if_pos rfl] at d c;rw[ih tb d c]
  ·rw[if_neg e] at d;rw[if_neg (Ne.symm e)] at c;exact absurd (aUx ha hb d c) e
def getD_mem {α:Type}{l:List α}{d:α}(hd:d∈l)(i:Nat):l.getD i d∈l:=by
 by_cases h:i<l.length
 ·rw[j9,b8 h];exact bAU h
 ·rw[j9,bAD (by lia)];exact hd
def range_getD {α:Type}(l:List α)(d:α):(List.range l.length).map (λi=>l.getD i d)=l:=by
 refine bCS λi=>?_;by_cases h:i<l.length
 ·rw[t7,bCV h,b8 h,bDS,j9,b8 h];rfl
 ·rw[bAD (by simpa using h),bAD (by lia)]
def bDi {α:Type}{g:α->α->Bool}(l:List α)(d:α){n:Nat}(C:n=l.length)(p:∀a∈l,∀b∈l,g a b=true->g b a=false)(A:∀a∈l,∀b∈l,∀c∈l,g b a=false->g c b=false->g c a=false) :
  ((PySem.W.dY n λi j=>g (l.getD i d) (l.getD j d)).map λi=>l.getD i d).Perm l/\((PySem.W.dY n λi j=>g (l.getD i d) (l.getD j d)).map λi=>l.getD i d).Pairwise λa b=>g b a=false:=by
 subst C;cases l with
 |nil=>
  have e:PySem.W.dY ([]:List α).length (λi j=>g (([]:List α).getD i d) (([]:List α).getD j d))=[]:=by have:=PySem.W.qI ([]:List α).length (λi j=>g (([]:List α).getD i d) (([]:List α).getD j d));exact List.length_eq_zero_iff.mp this
  rw[e];exact⟨.nil,.nil⟩
 |cons x0 l0=>
  generalize v:x0::l0=l at p A;have q:x0∈l:=by rw[<-v];exact j4
  have o:PySem.W.dY l.length (λi j=>g (l.getD i d) (l.getD j d))=PySem.W.dY l.length (λi j=>g (l.getD i x0) (l.getD j x0)):=PySem.W.N4.aMf λi j f s=>by rw[j9,j9,j9,j9,b8 f,b8 s];rfl
  have S:PySem.W.N4.Swo λi j=>g (l.getD i x0) (l.getD j x0):=⟨λ{i j} h=>p _ (getD_mem q i) _ (getD_mem q j) h,λ{i j k} r B=>A _ (getD_mem q i) _ (getD_mem q j) _ (getD_mem q k) r B⟩;obtain⟨u,t⟩:=PySem.W.N4.aJy S;rw[<-o] at u t;have m:∀i∈PySem.W.dY l.length (λi j=>g (l.getD i d) (l.getD j d)),i<l.length:=λi f=>PySem.W.mF f;refine⟨?_,?_⟩
  ·have:=u.map λi=>l.getD i d;rw[range_getD] at this;exact this
  ·refine List.pairwise_map.mpr (bEM ?_ t);intro i j f s r;have z:=m i f;have y:=m j s;have x:l.getD i x0=l.getD i d:=by rw[j9,j9,b8 z];rfl
   have w:l.getD j x0=l.getD j d:=by rw[j9,j9,b8 y];rfl
   rw[x,w] at r;exact r
def wI (h:∀r∈rs,KdR ks r):(srt rs).Perm rs/\(srt rs).Pairwise λa b=>rlt b a=false:=by obtain⟨i,g⟩:=bDi rs [] rfl (λa d b e=>aHj (h a d) (h b e)) (λa d b e c f=>aZx (h a d) (h b e) (h c f));exact⟨i,g⟩
theorem aDk {α:Type}{lt:α->α->Bool}:∀{l m:List α},l.Perm m->(∀a∈l,∀b∈l,lt a b=false->lt b a=false->a=b)->l.Pairwise (λa b=>lt b a=false)->m.Pairwise (λa b=>lt b a=false)->l=m
 |[],m,p,_,_,_=>(List.perm_nil.mp p.symm).symm
 |a::l,[],p,_,_,_=>absurd (List.perm_nil.mp p) (by simp)
 |a::l,b::m,p,anti,hl,hm=>by
  rw[List.pairwise_cons] at hl hm;have d:=p.subset j4;have c:=p.symm.subset j4;have e:a=b:=by
   rcases List.mem_cons.mp d with z|z
   ·exact z
   ·rcases List.mem_cons.mp c with y|y
    ·exact y.symm
    ·exact anti a j4 b c (hm.1 a z) (hl.1 b y)
  subst e;rw[aDk (List.Perm.cons_inv p) (λx g y f=>anti x (j5 _ g) y (j5 _ f)) hl.2 hm.2]
def aT8 (h:∀r∈rs,KdR ks r)(p:rs.Perm qs):srt rs=srt qs:=by have l:∀r∈qs,KdR ks r:=λr c=>h r (p.symm.subset c);obtain⟨d,j⟩:=wI h;obtain⟨i,g⟩:=wI l;have e:∀r∈srt rs,KdR ks r:=λr c=>h r (d.subset c);exact aDk (d.trans (p.trans i.symm)) (λa f b k=>aZ6 (e a f) (e b k)) j g
end L2
namespace PySem.SeqAt
open PySem PySem.Spec
abbrev opG:Bool->CmpOp
 |true=>.Gt
 |false=>.LtE
def aY0 (g:Bool)(A:Around)(s:Shared)(y x:Value)(b:Bool):Prop:=
 ∀prog w E Q,Q (.bool b) s->wpAny (model prog w) A (richCompare (opG g) y x) Q E s
def fnG:Bool->Args->Sem Fin
 |true=>Builtin.«tuple.__gt__»
 |false=>Builtin.«tuple.__le__»
def leW (e c:Nat->Bool)(l:List Nat)(z:Bool):Bool:=l.foldr (λj acc=>if e j then acc else c j) z
def aI7 (g z:Bool)(F:z=!g)(l b:Addr)(items items2:Array Value)(n n2:Nat)(dd dd2:Option Addr)(sl sl2:Array (Option Value))(e c:Nat->Bool)(q:items.size=items2.size) :
  Meets (fnG g ⟨[.ref l,.ref b],[]⟩)
   (λA R s=>s.heap.get? l=some { cls:=.type "tuple",dict:=dd,data:=.seq items n,slots:=sl }/\s.heap.get? b=some { cls:=.type "tuple",dict:=dd2,data:=.seq items2 n2,slots:=sl2 } /\
    (∀j (h1:j<items.size) (h2:j<items2.size),EqAt A.in1 s items[j] items2[j] (e j))/\(∀j (h1:j<items.size) (h2:j<items2.size),aY0 g A.in1 s items[j] items2[j] (c j)) /\
    R (.ok (.ret (.bool (leW e c (List.range items.size) z)))) s):=
 .of_wp λa w A R s h=>by
  cases g;all_goals
   unfold fnG;obtain⟨m,r,d,p,t⟩:=s;obtain⟨D,K,H,J,h⟩:=h;have N:=AutoSeq1.sub_tuple_tuple;have C:(items.toList.zip items2.toList).length=items.size:=by simp[q]
   wp_walk using wpAny_loadPart' D,wpAny_loadPart' K,bFI _ (λk b B=>b.1=none/\B=⟨m,r,d,p,t⟩/\∃i,k=(items.toList.zip items2.toList).drop i /\
    R (.ok (.ret (.bool (leW e c ((List.range items.size).drop i) z)))) ⟨m,r,d,p,t⟩) _
   case turn=>
    rintro⟨y,x⟩ k b B ⟨hb',rfl,i,hz,hR⟩;have o:i<(items.toList.zip items2.toList).length:=by
     rcases Nat.lt_or_ge i (items.toList.zip items2.toList).length with h'|h'
     ·exact h'
     ·rw[bEZ h'] at hz;cases hz
    have h1:i<items.size:=C ▸ o;have h2:i<items2.size:=q ▸ h1;rw[bEH o] at hz;injection hz with hyx hrest;have u:y=items[i]:=by have:=congrArg Prod.fst hyx;simpa using this
    have I:x=items2[i]:=by have:=congrArg Prod.snd hyx;simpa using this
    subst u I;have hd:(List.range items.size).drop i=i::(List.range items.size).drop (i+1):=by simp[bEH,h1]
    rw[hd] at hR;have f:R (.ok (.ret (.bool (if e i then leW e c ((List.range items.size).drop (i+1)) z else c i)))) ⟨m,r,d,p,t⟩:=hR;refine b7 (H i h1 h2 a w _ _ ?_);cases u:e i with
    |true=>rw[u] at f;wp_walk;exact⟨rfl,rfl,i+1,hrest,by simpa using f⟩
    |false=>rw[u] at f;have G:∀{E:bGA} {Q:bGA},Q (.bool (c i)) ⟨m,r,d,p,t⟩->wpAny (model a w) A.in1 (richCompare _ items[i] items2[i]) Q E ⟨m,r,d,p,t⟩:=λ{E Q} h=>J i h1 h2 a w E Q h;wp_walk using G;exact⟨_,rfl,by simpa using f⟩
   case fin=>
    rintro⟨M,L⟩ B ⟨hb',rfl,i,hz,hR⟩;simp only at hb';subst hb';have v:items.size<=i:=by
     rcases Nat.lt_or_ge i (items.toList.zip items2.toList).length with h'|h'
     ·rw[bEH h'] at hz;cases hz
     ·exact C ▸ h'
    rw[bEZ (by simpa using v)] at hR;wp_walk;exact⟨_,rfl,by simpa [Builtin.Tuple.tupleCompareSizes,q,leW,F] using hR⟩
   case h=>exact⟨rfl,rfl,0,rfl,by simpa using h⟩
end PySem.SeqAt
namespace L2
open PySem PySem.Spec PyProof.Rows
theorem aHv (g:Bool):∀{ks:List Bool} {a b:List V},KdR ks a->KdR ks b->SeqAt.leW (λj=>decide (a.getD j .non=b.getD j .non)) (λj=>kvlt (b.getD j .non) (a.getD j .non) == g) (List.range a.length) (!g)=(rlt b a == g)
 |_,_,_,.nil,.nil=>by cases g <;> rfl
 |_,x::a,y::b,.cons (as:=ks) ha ta,.cons hb tb=>by
  have c:=aHv g ta tb;rw[iT (ks:=ks) hb ha,t6,List.range_succ_eq_map];show (if decide (x=y)=true then SeqAt.leW (λj=>decide ((x::a).getD j .non=(y::b).getD j .non)) (λj=>kvlt ((y::b).getD j .non) ((x::a).getD j .non) == g) ((List.range a.length).map Nat.succ) (!g) else (kvlt y x == g))=_;by_cases e:x=y
  ·rw[if_pos (v4 e),if_pos e.symm,<-c];unfold SeqAt.leW;rw[List.foldr_map];rfl
  ·rw[if_neg (by rw[v5 e];exact v6),if_neg (Ne.symm e)]
def bCy (g:Bool)(K:bF9):R2:=λx y H Q=>∃ks r q,dJ K H x r/\dJ K H y q/\KdR ks r/\KdR ks q/\Q (.bl (rlt q r == g)) H
theorem aVj (g:Bool)(hu:X.A.units+64<cLine):OpR X (compareOp (SeqAt.opG g)) (bCy g X.K):=by
 intro a6 s σ H x y v u Q I rx ry h;obtain⟨ks,r,q,⟨a,rfl,ha⟩,⟨b,rfl,hb⟩,Y,Z,J⟩:=h;cases rx;cases ry;obtain⟨f,r1,⟨⟨a5,dd,a4,sl⟩,W,hc,n,hd⟩,hz⟩:=I.tuple ha;obtain⟨i,r2,⟨⟨a3,a1,a0,a2⟩,o,S,n2,R⟩,hw⟩:=I.tuple hb;simp only at hc hd S R;subst hc hd S R;have l1:=r1.length;have l2:=r2.length;have p:=Al2.len Y;have C:=Al2.len Z;have D:∀j (t:j<f.toArray.size) (G:j<i.toArray.size),∃k,KdV k (r.getD j .non)/\KdV k (q.getD j .non)/\RelV (r.getD j .non) f.toArray[j]/\RelV (q.getD j .non) i.toArray[j]:=λj t G=>by
  rw[d9] at t G;have hj:j<ks.length:=by lia
  have M:j<r.length:=by lia
  have L:j<q.length:=by lia
  have er:r.getD j .non=r[j]:=by simp[M]
  have eq:q.getD j .non=q[j]:=by simp[L]
  obtain⟨w1,g1,g2⟩:=r1.get (b8 M);obtain⟨w2,g3,g4⟩:=r2.get (b8 L);rw[er,eq];refine⟨ks[j],Y.get (b8 hj) (b8 M),Z.get (b8 hj) (b8 L),?_,?_⟩
  ·rw[bBM,(List.getElem?_eq_some_iff.mp g1).2];exact g2
  ·rw[bBM,(List.getElem?_eq_some_iff.mp g3).2];exact g4
 have sz:f.toArray.size=r.length:=by rw[d9];lia
 have sj:f.toArray.size=i.toArray.size:=by rw[d9,d9];lia
 have tc:=SeqAt.aI7 g (!g) rfl a b f.toArray i.toArray n n2 dd a1 sl a2 (λj=>decide (r.getD j .non=q.getD j .non)) (λj=>kvlt (q.getD j .non) (r.getD j .non) == g) sj;have B:=aHv g Y Z;have m:∀j (t:j<f.toArray.size) (G:j<i.toArray.size),SeqAt.EqAt X.A.in1 s f.toArray[j] i.toArray[j] (decide (r.getD j .non=q.getD j .non)):=λj t G=>by
  obtain⟨k,p,C,m,l⟩:=D j t G;generalize r.getD j .non=y1 at p m;generalize q.getD j .non=y2 at C l;generalize f.toArray[j]=w1 at m;generalize i.toArray[j]=w2 at l;cases k with
  |true=>
   obtain⟨c,rfl⟩:=p;obtain⟨d,rfl⟩:=C;obtain⟨O,rfl⟩:=m;obtain⟨U,rfl⟩:=l;have z:=bER (A:=X.A.in1) (s:=s) c O d U;have e:(c == d)=decide (V.int c=V.int d):=by by_cases e:c=d <;> simp[e]
   rw[<-e];exact z
  |false=>
   obtain⟨c,rfl⟩:=p;obtain⟨d,rfl⟩:=C;obtain⟨O,rfl⟩:=m;obtain⟨U,rfl⟩:=l;have z:=bDL (A:=X.A.in1) (s:=s) c O d U;have e:(c == d)=decide (V.str c=V.str d):=by by_cases e:c=d <;> simp[e]
   rw[<-e];exact z
 have l:∀j (t:j<f.toArray.size) (G:j<i.toArray.size),SeqAt.aY0 g X.A.in1 s f.toArray[j] i.toArray[j] (kvlt (q.getD j .non) (r.getD j .non) == g):=λj t G=>by
  obtain⟨k,p,C,m,l⟩:=D j t G;generalize r.getD j .non=y1 at p m;generalize q.getD j .non=y2 at C l;generalize f.toArray[j]=w1 at m;generalize i.toArray[j]=w2 at l;cases k with
  |true=>
   obtain⟨c,rfl⟩:=p;obtain⟨d,rfl⟩:=C;obtain⟨O,rfl⟩:=m;obtain⟨U,rfl⟩:=l;intro N w E Q T;cases g
   ·refine le_int ?_;have e:decide (c<=d)=(kvlt (.int d) (.int c) == false):=by show decide (c<=d)=(decide (d<c) == false);by_cases z:c<=d <;> simp[z] <;> lia
    rw[e];exact T
   ·refine gt_int ?_;rw[show decide (d<c)=(kvlt (.int d) (.int c) == true) by show _=(decide (d<c) == true);simp];exact T
  |false=>
   obtain⟨c,rfl⟩:=p;obtain⟨d,rfl⟩:=C;obtain⟨O,rfl⟩:=m;obtain⟨U,rfl⟩:=l;intro N w E Q T;cases g
   ·refine P.le_str ?_;rw[show (!decide (d.cps.toList<c.cps.toList))=(kvlt (.str d) (.str c) == false) by show _=(decide (d.cps.toList<c.cps.toList) == false);simp];exact T
   ·refine P.gt_str ?_;rw[show decide (d.cps.toList<c.cps.toList)=(kvlt (.str d) (.str c) == true) by show _=(decide (d.cps.toList<c.cps.toList) == true);simp];exact T
 rw[<-sz] at B;rw[<-B] at J;cases g
 ·exact richCompare_meets_room (op:=.LtE) ⟨_,W,rfl⟩ ⟨_,o,rfl⟩ F.slot_tuple_le F.entry_tuple_le (F.args_tuple_le_2 _ _) tc ⟨W,o,m,l,(λz=>nomatch z),⟨.bl _,H,I,rfl,J⟩⟩ (by lia)
 ·exact richCompare_meets_room (op:=.Gt) ⟨_,W,rfl⟩ ⟨_,o,rfl⟩ F.slot_tuple_gt F.entry_tuple_gt (F.args_tuple_gt_2 _ _) tc ⟨W,o,m,l,(λz=>nomatch z),⟨.bl _,H,I,rfl,J⟩⟩ (by lia)
def bE6 (K:bF9):R2:=λx y H Q=>∃ks r q,dJ K H x r/\dJ K H y q/\KdR ks r/\KdR ks q/\Q (.bl (rlt q r)) H
def bA1 (j:X.A.units+64<cLine):OpR X (compareOp .Gt) (bE6 X.K):=λa s σ H x y v u Q I d g ⟨e,r,q,i,f,b,c,h⟩=>aVj true j a s σ H x y v u Q I d g ⟨e,r,q,i,f,b,c,by rw[show (rlt q r == true)=rlt q r by simp];exact h⟩
theorem aO3 {K:bF9}{H:Hp}:∀{r:List V},(∀x∈r,(∃i,x=.int i)\/∃z,x=.str z)->∀n,Al2 (DEq K H n) r r
 |[],_,_=>.nil
 |x::r,h,n=>.cons (by rcases h x j4 with⟨i,rfl⟩|⟨z,rfl⟩ <;> cases n <;> first|exact⟨rfl,rfl⟩|exact .inl ⟨rfl,rfl⟩) (aO3 (λy a=>h y (j5 _ a)) n)
def aIu {K:bF9}{H:Hp}{us ws:List V}{rs:List (List V)}(k:Al2 (dJ K H) us rs)(j:Al2 (dJ K H) ws rs)(m:∀r∈rs,∀x∈r,(∃i,x=.int i)\/∃z,x=.str z):Al2 (DEq K H 40) us ws:=by refine Al2.of (k.len.trans j.len.symm) λi u w g h=>?_;obtain⟨r,d,a,rfl,e⟩:=k.at g;obtain⟨l,c,b,rfl,f⟩:=j.at h;rw[d] at c;cases c;exact .inr ⟨a,b,r,r,rfl,rfl,e,f,aO3 (m r (m8 d)) 39⟩
end L2
namespace PySem
open PySem.Spec
def gV:entryFor table "list.remove.loop"=some Builtin.«list.remove.loop»:=entryFor_of_tree (by kernel_rfl)
def aCn (c:s.heap.get? l=some { cls:=Value.type "list",dict:=dd,data:=Data.seq items n,slots:=sl })(f:j<items.size)
  (h:SeqAt.EqAt A.in1 s items[j] x true) (g:∀(m:Nat) (hm:m<items.size),m<j->SeqAt.EqAt A.in1 s items[m] x false) (d:items.size<=sizeLine)
  (q:R (.ok (.ret .none)) { s with heap:=s.heap.update l (Obj.mapSeq λxs=>xs.eraseIdxIfInBounds j) }) :
  ∀k i,i+k=j->codeAny (model prog w) A (.builtin "list.remove.loop" ⟨[.ref l,x,rawInt (i:Nat)],[]⟩) R s:=by
 intro k
 induction k with
 |zero=>
  intro i e;obtain rfl:i=j:=by lia
  refine bBK gV ?_;rw[bBA MeetsSeq.plain_remove_loop _];refine b7 (wpAny_listItems c rfl ?_);have b:items[Int.toNat (i:Nat)]?=some items[i]:=by rw[bAJ];exact j6 f
  simp only[b];refine b7 (h _ _ _ _ ?_);simp only[if_true];refine b7 (PyProof.Rows.listUpdate_at c rfl ?_ d ?_)
  ·rw[bAJ];exact d8 q
  ·unfold Array.eraseIdxIfInBounds
   split
   ·rw[Array.size_eraseIdx];lia
   ·lia
 |succ k ih=>
  intro i e;refine bBK gV ?_;rw[bBA MeetsSeq.plain_remove_loop _];have a:i<items.size:=by lia
  refine b7 (wpAny_listItems c rfl ?_);have b:items[Int.toNat (i:Nat)]?=some items[i]:=by rw[bAJ];exact j6 a
  simp only[b];refine b7 (g i a (by lia) _ _ _ _ ?_);refine d8 ⟨bCH MeetsSeq.plain_remove_loop _,?_⟩;exact ih (i+1) (by lia)
def aCr (l:Addr)(items:Array Value)(n:Nat)(dd:Option Addr)(sl:Array (Option Value))(x:Value)(j:Nat)(f:j<items.size)(c:items.size<=sizeLine) :
  Meets (Builtin.«list.remove» ⟨[.ref l,x],[]⟩) λA R s=>s.heap.get? l=some { cls:=Value.type "list",dict:=dd,data:=Data.seq items n,slots:=sl } /\
   SeqAt.EqAt A.in1 s items[j] x true/\(∀m hm,m<j->SeqAt.EqAt A.in1 s items[m] x false) /\
   R (.ok (.ret .none)) { s with heap:=s.heap.update l (Obj.mapSeq λxs=>xs.eraseIdxIfInBounds j) }:=by
 intro a w A R s ⟨e,b,d,q⟩;refine d8 ⟨bCH MeetsSeq.plain_remove_loop _,?_⟩;exact aCn e f b d c q j 0 (by lia)
end PySem
namespace L2
open PySem PySem.Spec PyProof.Rows
theorem aBf:∀{xs:List V} {its:List Value},Vals xs its->∀j,Vals (xs.eraseIdx j) (its.eraseIdx j)
 |_,_,.nil,j=>by cases j <;> exact .nil
 |_,_,.cons r t,0=>t
 |_,_,.cons r t,j+1=>.cons r (aBf t j)
def pI (r:List V):Prop:=∀x∈r,(∃i,x=.int i)\/∃z,x=.str z
def aNr (a:(∃i,x=.int i)\/∃z,x=.str z)(b:(∃i,y=.int i)\/∃z,y=.str z):eqV x y=decide (x=y):=by
 rcases a with⟨i,rfl⟩|⟨z,rfl⟩ <;> rcases b with⟨j,rfl⟩|⟨w,rfl⟩
 ·by_cases e:i=j
  ·subst e;rw[v4 rfl];exact beq_self_eq_true _
  ·rw[v5 λq=>e (V.int.inj q)];exact beq_eq_false_iff_ne.mpr e
 ·rw[v5 λq=>by cases q];rfl
 ·rw[v5 λq=>by cases q];rfl
 ·by_cases e:z=w
  ·subst e;rw[v4 rfl];exact beq_self_eq_true _
  ·rw[v5 λq=>e (V.str.inj q)];exact beq_eq_false_iff_ne.mpr e
def aVp:∀{r q:List V},pI r->pI q->((List.range (min r.length q.length)).all (λj=>eqV (r.getD j .non) (q.getD j .non)) && r.length == q.length)=decide (r=q):=by
 intro r q b f;by_cases e:r=q
 ·subst e;rw[v4 rfl,beq_self_eq_true,Bool.and_true,bCF];intro j a;rw[List.mem_range,Nat.min_self] at a;rw[j9,b8 a,bBR,aNr (b _ (bAU a)) (b _ (bAU a)),v4 rfl]
 ·rw[v5 e];by_cases l:r.length=q.length
  ·cases h:(List.range (min r.length q.length)).all (λj=>eqV (r.getD j .non) (q.getD j .non)) with
   |false=>rfl
   |true=>refine absurd (List.ext_getElem l λj d c=>?_) e;have:=List.all_eq_true.mp h j (List.mem_range.mpr (by lia));rw[j9,b8 d,bBR,j9,b8 c,bBR,aNr (b _ (bAU d)) (f _ (bAU c))] at this;exact of_decide_eq_true this
  ·rw[show (r.length == q.length)=false from beq_eq_false_iff_ne.mpr l,Bool.and_false]
def aUp (h:Vals r its):∀{q:List V},Vals q its->pI r->pI q->r=q:=by
 induction h with
 |nil=>intro q h _ _;cases h;rfl
 |@cons x _ r _ a t ih=>
  intro q h f d;cases h with
  |@cons y _ q _ b u=>
   have e:x=y:=by rcases f x j4 with⟨i,rfl⟩|⟨z,rfl⟩ <;> rcases d y j4 with⟨j,rfl⟩|⟨w,rfl⟩ <;> obtain⟨_,a⟩:=a <;> obtain⟨_,b⟩:=b <;> rw[a] at b <;> cases b <;> rfl
   rw[e,ih u (λz c=>f z (j5 _ c)) λz c=>d z (j5 _ c)]
def aAb (I:Inv X bGD σ H s)(u:SqT X.K H a r)(w:SqT X.K H a q)(v:pI r)(m:pI q):r=q:=by
 obtain⟨c,g,k,_⟩:=I.tuple u;obtain⟨d,f,h,_⟩:=I.tuple w;have i:c=d:=by obtain⟨o,j,p,t,l⟩:=k;obtain⟨x,b,n,y,e⟩:=h;rw[j] at b;cases b;rw[l] at e;have:=Data.seq.inj e;simpa using congrArg Array.toList this.1
 subst i;exact aUp g f v m
def aEr (I:Inv X bGD σ H s){A:Around}(hA:A.units+2<cLine){x y:V}{v u:Value}{r q:List V}(S:dJ X.K H x r)(R:dJ X.K H y q)(l:pI r)(m:pI q)(U:RelV x v)(T:RelV y u):SeqAt.EqAt A s v u (decide (r=q)):=by
 obtain⟨a,rfl,k⟩:=S;obtain⟨b,rfl,t⟩:=R;cases U;cases T;obtain⟨d,h,M,_⟩:=I.tuple k;obtain⟨c,n,B,_⟩:=I.tuple t;by_cases e:a=b
 ·subst e;rw[aAb I k t l m,v4 rfl];exact bCU _
 have C:=h.length;have J:=n.length;refine bDP e ?_;have z:=SeqAt.RcAt.tuples (A:=A) (e:=λj=>eqV (r.getD j .non) (q.getD j .non)) (show s.heap.IsTuple a d.toArray from M) (show s.heap.IsTuple b c.toArray from B) (by lia) λj G O=>by
  rw[d9] at G O;have o:r[j]?=some r[j]:=b8 (by lia);have p:q[j]?=some q[j]:=b8 (by lia);obtain⟨D,f,F⟩:=h.get o;obtain⟨L,g,N⟩:=n.get p;have w:d.toArray[j]=D:=by rw[bBM];exact (List.getElem?_eq_some_iff.mp f).2
  have E:c.toArray[j]=L:=by rw[bBM];exact (List.getElem?_eq_some_iff.mp g).2
  rw[w,E,j9,o,j9,p];have P:=l r[j] (bAU _);have Q:=m q[j] (bAU _);refine aRq F N ?_ ?_
  ·rcases P with⟨i,e⟩|⟨i,e⟩ <;> rw[show (Option.some r[j]).getD V.non=r[j] from rfl,e] <;> rfl
  ·rcases Q with⟨i,e⟩|⟨i,e⟩ <;> rw[show (Option.some q[j]).getD V.non=q[j] from rfl,e] <;> rfl
 rw[d9,d9,<-C,<-J,aVp l m] at z;exact z
def aW0 (I:Inv X bGD σ H s)(N:A.units+2<cLine)(J:Vals us its)(h:Al2 (dJ X.K H) us rs)(M:∀r∈rs,pI r)(P:dJ X.K H y q)(G:pI q)(Q:RelV y u):∃e:Value->Bool,(∀v∈its,SeqAt.EqAt A s v u (e v))/\its.any e=decide (q∈rs):=by
 have o:∀v∈its,∃i x r,us[i]?=some x/\rs[i]?=some r/\dJ X.K H x r/\RelV x v:=λv d=>by
  obtain⟨i,k⟩:=List.mem_iff_getElem?.mp d;have j:i<us.length:=by rw[J.length];exact (List.getElem?_eq_some_iff.mp k).1
  obtain⟨r,t,C⟩:=h.at (b8 j);obtain⟨O,p,f⟩:=J.get (b8 j);rw[k] at p;cases p;exact⟨i,_,r,b8 j,t,C,f⟩
 refine⟨λv=>@decide (∃x,dJ X.K H x q/\RelV x v) (Classical.propDecidable _),λv d=>?_,?_⟩
 ·obtain⟨i,x,r,_,w,n,l⟩:=o v d;have F:=M r (m8 w);have e:@decide (∃x,dJ X.K H x q/\RelV x v) (Classical.propDecidable _)=decide (r=q):=by
   by_cases z:r=q
   ·subst z;rw[v4 rfl];exact @decide_eq_true _ (Classical.propDecidable _) ⟨x,n,l⟩
   ·rw[v5 z];refine @decide_eq_false _ (Classical.propDecidable _) λ⟨L,g,c⟩=>z ?_;obtain⟨a,rfl,B⟩:=n;obtain⟨b,rfl,E⟩:=g;have D:=l;have m:=c;rw[D] at m;cases m;exact aAb I B E F G
  show SeqAt.EqAt A s v u (@decide (∃x,dJ X.K H x q/\RelV x v) (Classical.propDecidable _));rw[e];exact aEr I N n P F G l Q
 ·by_cases z:q∈rs
  ·rw[v4 z];obtain⟨i,k⟩:=List.mem_iff_getElem?.mp z;have j:i<us.length:=by rw[h.len];exact (List.getElem?_eq_some_iff.mp k).1
   obtain⟨r,t,C⟩:=h.at (b8 j);rw[k] at t;cases t;obtain⟨v,d,f⟩:=J.get (b8 j);exact List.any_eq_true.mpr ⟨v,m8 d,@decide_eq_true _ (Classical.propDecidable _) ⟨_,C,f⟩⟩
  ·rw[v5 z];refine List.any_eq_false.mpr λv d hd=>z ?_;obtain⟨L,g,c⟩:=@of_decide_eq_true _ (Classical.propDecidable _) hd;obtain⟨i,x,r,_,w,n,l⟩:=o v d;obtain⟨a,rfl,B⟩:=n;obtain⟨b,rfl,E⟩:=g;have D:=l;have m:=c;rw[D] at m;cases m;rw[<-aAb I B E (M r (m8 w)) G];exact m8 w
def aT3 (K:bF9):R2:=λx y H Q=>∃l us rs q,y=.ref l/\SqL K H l us/\Al2 (dJ K H) us rs/\(∀r∈rs,pI r)/\dJ K H x q/\pI q/\Q (.bl (!decide (q∈rs))) H
def aMz (hu:X.A.units+64<cLine):OpR X (compareOp .NotIn) (aT3 X.K):=by
 intro w s σ H x y v u Q I d m h;obtain⟨l,B,r,q,rfl,b,o,g,j,p,k⟩:=h;cases m;obtain⟨a,c,t,_⟩:=I.list b;obtain⟨e,i,f⟩:=aW0 I (A:=X.A.in1) (show X.A.units+1+2<cLine by lia) c o g j p d;refine bES e t.isList (λy n=>i y (by simpa using n)) ?_;have z:a.toArray.any e=decide (q∈r):=by rw[<-f];simp
 rw[z];exact⟨.bl _,H,I,rfl,k⟩
def bEk (K:bF9):V->List V->Hp->VK->Prop:=λx vs H Q=>∃l us y rs q j,x=.ref l/\vs=[y]/\H l=some (.lst us)/\Al2 (dJ K H) us rs/\(∀r∈rs,pI r)/\dJ K H y q/\pI q/\rs[j]?=some q/\(∀m r,m<j->rs[m]?=some r->r≠q)/\Q .non (upd H l (.lst (us.eraseIdx j)))
def aW1 {X:Cx}(hu:X.A.units+64<cLine):MtR X "list.remove" (bEk X.K):=by
 intro T s σ H x vs v L Q I J W h;obtain⟨l,G,y,E,q,j,rfl,rfl,D,C,N,O,R,w,Y,k⟩:=h;cases J;obtain⟨u,rfl,U⟩:=W.one;obtain⟨z,a,n,r,Z,e⟩:=I.aR8 D;have lx:=C.len;have g:j<a.toArray.size:=by rw[d9];have:=(List.getElem?_eq_some_iff.mp w).1;lia
 have i:∀(m:Nat) (o:m<a.toArray.size) (b:List V),E[m]?=some b->SeqAt.EqAt X.A.in1 s a.toArray[m] u (decide (b=q)):=λm o b d=>by
  have f:m<G.length:=by rw[d9] at o;lia
  obtain⟨r',c,B⟩:=C.at (b8 f);rw[d] at c;cases c;obtain⟨M,t,P⟩:=r.get (b8 f);have S:a.toArray[m]=M:=by rw[bBM];exact (List.getElem?_eq_some_iff.mp t).2
  rw[S];exact aEr I (show X.A.units+1+2<cLine by lia) B O (N b (m8 d)) R P U
 refine call_meets F.slot_list_remove ⟨_,e,rfl⟩ F.entry_list_remove (F.args_list_remove_2 _ _) (aCr l a.toArray n none #[] u j g (by rw[d9];lia)) ⟨e,?_,λm o p=>?_,?_⟩
 ·have:=i j g q w;rw[v4 rfl] at this;exact this
 ·obtain⟨b,d⟩:∃b,E[m]?=some b:=⟨_,b8 (by have:=(List.getElem?_eq_some_iff.mp w).1;lia)⟩;have:=i m o b d;rw[v5 (Y m b p d)] at this;exact this
 ·refine⟨.non,_,I.lset (its':=a.eraseIdx j) D e ?_ ?_ ?_,rfl,k⟩
  ·show a.toArray.eraseIdxIfInBounds j=(a.eraseIdx j).toArray;rw[List.eraseIdxIfInBounds_toArray]
  ·exact aBf r j
  ·have:=List.length_eraseIdx_le G j;lia
end L2
namespace My
open PySem PySem.Spec PyProof.Rows L2
section
variable {P:Program}{w:World}{K:bF9}{mg:bGC}{base:Heap}
def aUh (b:X.A.units+1<cLine)(ho:VE X o td)(a:VE X e ty)(m:M1 X o "get" apos e cpos:=by exact⟨rfl,rfl,rfl,rfl⟩):VE X (.Call (.Attribute o "get" apos) [e] [] cpos) (aSy td ty):=⟨aTq b ho.1 a.1 m⟩
def aZy (b:X.A.units+1<cLine)(hi:VE X i ty)(ho:VE X o td)(a:behindInMarks .In o=false:=by first|exact nobehind _ (by decide) (by decide)|rfl):VT X (.Compare i [.In] [o] pos) (tB (bDo ty td)):=⟨aT7 (bBc b hi.1 ho.1) a⟩
structure aX (K:bF9)(H:Hp)(C x:Addr)(m:Int)(d dm:Addr)(es:List En):Prop where
 at_:∃dx,H x=some (.ins C dx [("placed",.ref d),("house_count",.int m),("moves",.ref dm)])
 ens:eQ K H d es
 ok:∀e∈es,kJ m e.t
 ne:d≠dm
def aX.same (s:Same H H')(h:aX K H C x m d dm es):aX K H' C x m d dm es:=
 ⟨let ⟨dx,h1⟩:=h.at_;⟨dx,s _ _ h1⟩,h.ens.same s,h.ok,h.ne⟩
structure Mv where
 num:Nat
 house:Int
 mark:Option (List V)
def aJt (K:bF9)(H:Hp)(v:V):Option (List V)->Prop
 |none=>v=.non
 |some r=>dJ K H v r
def aI0 (K:bF9)(H:Hp)(v:V)(q:Mv):Prop:=∃a vm,v=.ref a/\SqT K H a [.int q.num,.int q.house,vm]/\aJt K H vm q.mark
def aJt.tk (k:∀p xs,SqT K H p xs->SqT K H' p xs)(h:aJt K H v o):aJt K H' v o:=by
 cases o with
 |none=>exact h
 |some r=>obtain⟨a,e,b⟩:=h;exact⟨a,e,k _ _ b⟩
def aI0.tk (k:∀p xs,SqT K H p xs->SqT K H' p xs)(h:aI0 K H v q):aI0 K H' v q:=
 let ⟨a,vm,e,ha,hm⟩:=h;⟨a,vm,e,k _ _ ha,hm.tk k⟩
def aJt.same (s:Same H H')(h:aJt K H v o):aJt K H' v o:=h.tk λ_ _=>s.bC
def MvV (K:bF9)(H:Hp)(v:V):Option Mv->Prop
 |none=>v=.non
 |some q=>aI0 K H v q
def mvO (o:Option Mv)(v:V):Option V:=match o with|none=>none|some _=>some v
def MvD (K:bF9)(H:Hp)(dm:Addr)(nm:Str)(o:Option Mv):Prop:=∃kvs v,H dm=some (.dK kvs)/\eO kvs (Sum.inr nm)=mvO o v/\MvV K H v o
def MvD.kp {S:Addr->Prop}{H H':Hp}{dm:Addr}{nm:Str}{o:Option Mv}(e:∀u,H dm=some u->H' dm=some u)(tk:∀p xs,SqT K H p xs->SqT K H' p xs)(h:MvD K H dm nm o):MvD K H' dm nm o:=by
 obtain⟨a,v,d,c,b⟩:=h;refine⟨a,v,e _ d,c,?_⟩;cases o with
 |none=>exact b
 |some q=>exact aI0.tk tk b
def MvD.same {H H':Hp}{dm:Addr}{nm:Str}{o:Option Mv}(s:Same H H')(h:MvD K H dm nm o):MvD K H' dm nm o:=h.kp (S:=λ_=>True) (λu h=>s _ _ h) λ_ _=>s.bC
inductive aIx (K:bF9)(C Pt:Addr)(vs:List V)(H:Hp)(Q:VK)(E_:XK):Prop
 |mk (H0:Hp) (x dx d:Addr) (m:Int) (es:List En) (_:vs=[.ref x,.int m,.ref d]) (_:H x=some (.ins C dx [])) (_:H0 x=none) (_:Same H0 H) (_:1<=m) (_:m<=6) (_:eQ K H0 d es) (_:(∀e∈es,kJ m e.t)) (_:H0 Pt=some (.tab qC)) (_:∀d' dm H' es',H0 d'=none->H0 dm=none->Same H0 H'->aX K H' C x m d' dm es'->H' dm=some (.dK [])->dO (λe e'=>∃v L,e'=aCc e v L/\H0 L=none) es es'->Q .non H')
def aQc (T:Txt w K mg){C Pt:Addr}(c:Cls K C)(D:eV K C "__init__" "Store.__init__" iJ o8)(n1:bN K C "placed")(n2:bN K C "house_count")(n3:bN K C "moves")(jB:Ok P w K mg base 10 "placed_tables" u9 (vO K Pt)):OkM P w K mg base C 11 "__init__" o8 (aIx K C Pt):=by
 refine OkM.ofV c D uP (by trivial) (λf a0 A N s H vs Q E hr h=>?_)
 obtain⟨H0,x,a,d,m,es,rfl,S,hN,n,m1,m6,hE,U,hP,q⟩:=h;refine⟨_,(aB (aA4 (K:=K) (vv 0) (bB jB (aF (vv 1) (va1 (vv 2))))) (aB (aA4 (K:=K) (vv 0) (vv 1)) (aD (aA4 (K:=K) (vv 0) aI3)))),?_⟩;refine⟨_,rfl,_,rfl,d,m,es,rfl,m1,m6,hE.same n,U,n _ _ hP,λg k G l J i V=>?_⟩;have t:=J _ _ S;refine⟨_,rfl,x,C,a,[],rfl,t,c,n1,by decide,?_⟩;refine⟨_,rfl,_,rfl,x,C,a,_,rfl,aG,c,n2,by show 1<1000;decide,?_⟩;have nx:eE k x:=eE.ins t;have r:g≠x:=λz=>by rw[z,S] at l;cases l
 have M:But x k (L2.upd (L2.upd k x (.ins C a (gY "placed" (.ref g) []))) x (.ins C a (gY "house_count" (.int m) (gY "placed" (.ref g) [])))):=λb o p h=>by rw[aM p,aM p];exact h
 have I:L2.upd (L2.upd k x (.ins C a (gY "placed" (.ref g) []))) x (.ins C a (gY "house_count" (.int m) (gY "placed" (.ref g) []))) x=some (.ins C a [("placed",.ref g),("house_count",.int m)]):=aG;have R:∀{b},L2.upd (L2.upd k x (.ins C a (gY "placed" (.ref g) []))) x (.ins C a (gY "house_count" (.int m) (gY "placed" (.ref g) []))) b=none->k b=none:=λ{b} h=>by
  by_cases z:b=x
  ·rw[z,aG] at h;cases h
  ·rw[aM z,aM z] at h;exact h
 generalize L2.upd (L2.upd k x (.ins C a (gY "placed" (.ref g) []))) x (.ins C a (gY "house_count" (.int m) (gY "placed" (.ref g) [])))=H2 at M I R ⊢;refine λu O j W X=>?_;refine⟨_,rfl,x,C,a,_,rfl,W _ _ I,c,n3,by show 2<1000;decide,?_⟩;have B:But x k (L2.upd O x (.ins C a [("placed",.ref g),("house_count",.int m),("moves",.ref u)])):=λb o p h=>by rw[aM p];exact W _ _ (M _ _ p h)
 have y:u≠x:=λz=>by rw[z,I] at j;cases j
 have Z:Same H0 (L2.upd O x (.ins C a [("placed",.ref g),("house_count",.int m),("moves",.ref u)])):=λb o h=>B _ _ (λz=>by rw[z,hN] at h;cases h) (J _ _ (n _ _ h));refine q g u _ G (none_of n l) (none_of (n.trans J) (R j)) Z ⟨⟨a,aG⟩,⟨B _ _ r i.at_,i.nd,i.few,i.nm,λe F=>B.tb nx (i.tb e F)⟩,λe F=>?_,λz=>?_⟩ (by rw[aM y];exact X) (V.imp λe e' ⟨v,L,e1,e2⟩=>⟨v,L,e1,none_of n e2⟩)
 ·obtain⟨Y,h0,v,L,rfl,_⟩:=aC5 V F;exact (U Y h0).sorted
 ·have:=M _ _ r i.at_;rw[z,j] at this;cases this
inductive aE0 (K:bF9)(C Ct Pt:Addr)(vs:List V)(H:Hp)(Q:VK)(E_:XK):Prop
 |mk (x d dm:Addr) (m:Int) (es:List En) (_:vs=[.ref x]) (_:aX K H C x m d dm es) (_:1<=m) (_:m<=6) (_:H Pt=some (.tab qC)) (_:∀y d' H' es',H y=none->H d'=none->Same H H'->rY K H' Ct y m d' es'->dO (λe e'=>∃v L,e'=aCc e v L/\H L=none) es es'->Q (.ref y) H')
def aU5 (T:Txt w K mg)(c:Cls K C)(D:eV K C "town" "Store.town" nM ["self"])(N:bN K C "placed")(R:bN K C "house_count")(a:OkC P w K mg base Ct 11 "Town" o8 (aNu K Ct Pt)):OkM P w K mg base C 13 "town" ["self"] (aE0 K C Ct Pt):=by
 refine OkM.ofV c D aB4 (by trivial) (λf B A j s H M Q E v h=>?_)
 obtain⟨x,d,O,m,L,rfl,b,F,J,u,q⟩:=h;refine⟨_,(aD (aK (aOz (a.mono (by decide)) v (by rfl) (aF (cR (K:=K) (vv 0)) (va1 (cR (K:=K) (vv 0))))))),?_⟩;obtain⟨l,n⟩:=b.at_;refine⟨_,rfl,x,C,l,_,_,rfl,n,c,R,rfl,_,rfl,x,C,l,_,_,rfl,n,c,N,rfl,λy o e g G=>?_⟩;refine⟨H,y,o,d,m,L,rfl,aG,e,fP e (aO g _),F,J,b.ens,b.ok,u,λt r k i I p z=>⟨rfl,?_⟩⟩;exact q y t r k e i I p z
def aWm:Plc->Prop
 |.spans _ _ _=>False
 |_=>True
def aJ1 (K:bF9)(CT CS:Addr)(E:XK)(H:Hp)(es:List En)(v:V):Prop:=aD1 K CT E H es v\/∃e∈es,v=.str e.n/\aWm e.t.pl/\Rf H E CS
inductive uH (K:bF9)(C CT CS:Addr)(vs:List V)(H:Hp)(Q:VK)(E:XK):Prop
 |mk (x d dm:Addr) (m:Int) (es:List En) (v:V) (_:vs=[.ref x,v]) (_:aX K H C x m d dm es) (_:((∃e n h0 cs,v=.str e.n/\e∈es/\e.t.pl=.spans n h0 cs/\∀H',Same H H'->Q e.v H')\/aJ1 K CT CS E H es v))
def aRs (T:Txt w K mg)(j:ExT K mg dR "NoSpan" "ShardError.__init__" CS S)(c:Cls K C)(D:eV K C "cut_table" "Store.cut_table" gM n6)(N:bN K C "placed")(i:OkX P w K mg base 3 "table_in" u6 (nJ K CT)):cZ P w K mg base C 4 "cut_table" n6 (uH K C CT CS):=by
 refine cZ.ofV c D jX (by trivial) (λf V A J s H vs Q E M h=>?_)
 obtain⟨x,d,dm,m,X,v,rfl,y,h⟩:=h;have hinit:=λ{fI:Addr}=>hinit T fI;have nd:=jX.nd;refine⟨_,(aB (aY 2 (lZ (i.mono (by decide)) M dB (by rfl) (aF (cR (K:=K) (vv 0)) (va1 (vv 1))))) (aB (bM (eG aAa (aU aR (aU aR (vv 2) aA) aA) aP) (aD (fH j (λfI fd F=>gK (k:=0) F gU hinit) (M.mono (by decide)) dX rfl (by rfl) (va1 cD))) aQ) (aD (aK (vv 2))))),?_⟩;obtain⟨O,R⟩:=y.at_;refine⟨_,rfl,x,C,O,_,_,rfl,R,c,N,rfl,_,rfl,d,X,v,rfl,y.ens,?_⟩;rcases h with⟨e,n,Z,cs,rfl,p,g,q⟩|h|⟨e,p,rfl,hns,hF⟩
 ·refine .inl ⟨e,p,rfl,λL o=>?_⟩;obtain⟨a,B,z,U,l,Y⟩:=(y.ens.tb e p).same o;rw[g] at l;obtain⟨b,vc,u,r,hc⟩:=l;refine⟨_,rfl,a,_,1,_,B,rfl,z,at1 _ _ _,b,_,0,_,u,rfl,r,at0 _ _,rfl,_,rfl,dU (by decide) ?_⟩;exact⟨_,rfl,q L o⟩
 ·exact .inr h
 ·refine .inl ⟨e,p,rfl,λL o=>?_⟩;obtain⟨a,B,z,U,l,Y⟩:=(y.ens.tb e p).same o;cases g:e.t.pl with
  |spans _ _ _=>rw[g] at hns;exact hns.elim
  |copies=>rw[g] at l;obtain⟨b,u,r⟩:=l;exact⟨_,rfl,a,_,1,_,B,rfl,z,at1 _ _ _,b,_,0,_,u,rfl,r,at0 _ _,rfl,_,rfl,dZ (by decide) ⟨rfl,λa G N I W=>hF a _ (o.trans (aO I _))⟩⟩
  |keys n=>rw[g] at l;obtain⟨b,u,r⟩:=l;exact⟨_,rfl,a,_,1,_,B,rfl,z,at1 _ _ _,b,_,0,_,u,rfl,r,at0 _ _,rfl,_,rfl,dZ (by decide) ⟨rfl,λa G N I W=>hF a _ (o.trans (aO I _))⟩⟩
inductive aBp (K:bF9)(C CB:Addr)(vs:List V)(H:Hp)(Q:VK)(E:XK):Prop
 |mk (x d dm:Addr) (m:Int) (es:List En) (n:Str) (o:Option Mv) (_:vs=[.ref x,.str n]) (_:aX K H C x m d dm es) (_:MvD K H dm n o) (_:(o=none->Q .non H)) (_:(o≠none->Rf H E CB))
def aRd (T:Txt w K mg)(b:ExT K mg dR "Busy" "ShardError.__init__" CB S)(c:Cls K C)(D:eV K C "need_still" "Store.need_still" fW n6)(u:bN K C "moves"):cZ P w K mg base C 3 "need_still" n6 (aBp K C CB):=by
 refine cZ.ofV c D qM (by trivial) (λf G A e s H N Q E i h=>?_)
 obtain⟨x,d,r,m,U,n,o,rfl,t,⟨B,v,l,p,_⟩,q,y⟩:=h;have J:=jD i;have hinit:=λ{fI:Addr}=>hinit T fI;refine⟨_,(aD (bM (aZy J (vv 1) (cR (K:=K) (vv 0))) (aD (fH b (λfI M F=>gK (k:=0) F gU hinit) (i.mono (by decide)) dX rfl (by rfl) (va1 cD))) aQ)),?_⟩;obtain⟨g,j⟩:=t.at_;cases o with
 |none=>exact⟨_,rfl,_,rfl,x,C,g,_,_,rfl,j,c,u,rfl,r,none,rfl,.inl ⟨_,Sum.inr n,.inl l,rfl,p.symm⟩,_,rfl,bZ (q rfl)⟩
 |some mq=>exact⟨_,rfl,_,rfl,x,C,g,_,_,rfl,j,c,u,rfl,r,some v,rfl,.inl ⟨_,Sum.inr n,.inl l,rfl,p.symm⟩,_,rfl,cP ⟨rfl,λa I O L R=>y (λz=>by cases z) a _ (aO L _)⟩⟩
inductive vK (K:bF9)(C CM:Addr)(vs:List V)(H:Hp)(Q:VK)(E:XK):Prop
 |mk (x d dm:Addr) (m:Int) (es:List En) (n:Str) (_:vs=[.ref x,.str n]) (_:aX K H C x m d dm es) (_:((∃v kvs,H dm=some (.dK kvs)/\eO kvs (Sum.inr n)=some v/\Q v H)\/(MvD K H dm n none/\Rf H E CM)))
def aMd (T:Txt w K mg)(b:ExT K mg dR "NoMove" "ShardError.__init__" CM S)(c:Cls K C)(D:eV K C "move_of" "Store.move_of" iY n6)(r:bN K C "moves"):cZ P w K mg base C 3 "move_of" n6 (vK K C CM):=by
 refine cZ.ofV c D wF (by trivial) (λf z A p s H J Q E t h=>?_)
 obtain⟨x,d,o,m,N,n,rfl,y,h⟩:=h;have u:=jD t;have hinit:=λ{fI:Addr}=>hinit T fI;refine⟨_,(aB (bM (aDh u (vv 1) (cR (K:=K) (vv 0))) (aD (fH b (λfI I F=>gK (k:=0) F gU hinit) (t.mono (by decide)) dX rfl (by rfl) (va1 cD))) aQ) (aD (aK (lH u (cR (K:=K) (vv 0)) (vv 1) (λ_ _=>rfl))))),?_⟩;obtain⟨i,l⟩:=y.at_;rcases h with⟨v,j,e,g,q⟩|⟨⟨j,v,e,g,_⟩,hF⟩
 ·refine⟨_,rfl,_,rfl,x,C,i,_,_,rfl,l,c,r,rfl,o,some v,rfl,.inl ⟨_,Sum.inr n,.inl e,rfl,g.symm⟩,_,rfl,bZ ?_⟩;exact⟨_,rfl,x,C,i,_,_,rfl,l,c,r,rfl,_,rfl,o,v,rfl,.inl ⟨_,Sum.inr n,.inl e,rfl,g.symm⟩,q⟩
 ·exact⟨_,rfl,_,rfl,x,C,i,_,_,rfl,l,c,r,rfl,o,none,rfl,.inl ⟨_,Sum.inr n,.inl e,rfl,g.symm⟩,_,rfl,cP ⟨rfl,λa B L G M=>hF a _ (aO G _)⟩⟩
inductive wC (K:bF9)(C CT:Addr)(vs:List V)(H:Hp)(Q:VK)(E:XK):Prop
 |mk (x d dm:Addr) (m:Int) (es:List En) (v:V) (_:vs=[.ref x,v]) (_:aX K H C x m d dm es) (_:((∃e o,v=.str e.n/\e∈es/\MvD K H dm e.n o/\∀v H',Same H H'->MvV K H' v o->Q v H')\/aD1 K CT E H es v))
def aMs (T:Txt w K mg)(c:Cls K C)(D:eV K C "moving" "Store.moving" jQ n6)(M:bN K C "placed")(u:bN K C "moves")(a:OkX P w K mg base 3 "table_in" u6 (nJ K CT)):cZ P w K mg base C 4 "moving" n6 (wC K C CT):=by
 refine cZ.ofV c D yC (by trivial) (λf F A j s H L Q E p h=>?_)
 obtain⟨x,d,r,m,J,v,rfl,k,h⟩:=h;have I:=jD p;refine⟨_,(aB (eF (lZ (a.mono (by decide)) p dB (by rfl) (aF (cR (K:=K) (vv 0)) (va1 (vv 1))))) (aD (aK (aUh I (cR (K:=K) (vv 0)) (vv 1))))),?_⟩;obtain⟨g,i⟩:=k.at_;refine⟨_,rfl,x,C,g,_,_,rfl,i,c,M,rfl,_,rfl,d,J,v,rfl,k.ens,?_⟩;rcases h with⟨e,o,rfl,z,B,q⟩|h
 ·refine .inl ⟨e,z,rfl,λl b=>?_⟩;obtain⟨y,v,hd,t,G⟩:=B.same b;cases o with
  |none=>exact⟨_,rfl,x,C,g,_,_,rfl,b _ _ i,c,u,rfl,r,rfl,.inl ⟨_,.inl hd⟩,_,rfl,none,.inl ⟨_,Sum.inr e.n,.inl hd,rfl,t.symm⟩,q .non l b rfl⟩
  |some mq=>exact⟨_,rfl,x,C,g,_,_,rfl,b _ _ i,c,u,rfl,r,rfl,.inl ⟨_,.inl hd⟩,_,rfl,some v,.inl ⟨_,Sum.inr e.n,.inl hd,rfl,t.symm⟩,q v l b G⟩
 ·exact .inr h
def aNo (o:cF K H a rs)(hl:rs.length<=1000)(p:List V->Bool)(n:σ0[0]?=some none)
  (v:∀(u:V) (r:List V),r∈rs->∀H' R l,Same H H'->dJ K H' u r->(∀H2,Same H' H2->R (p r) H2)->tt ((σ0.set 0 l).set 0 (some u)) H' R)
  (q:∀D H',H D=none->Same H H'->cF K H' D (rs.filter p)->Q (.ref D) H'):oH (Itl K a) H σ0 (bF 0) tt (mL 0) Q:=by
 obtain⟨h,g,b⟩:=o;have t:=b.len;refine aMa h (λi=>p (rs.getD i [])) σ0 (small (by lia)) (aXa λH' s=>SqL.of (s _ _ g)) (aQx λH' s=>SqL.of (s _ _ g)) (λi u j H' R l c e=>?_) n λD H' m c f=>?_
 ·obtain⟨r,d,k⟩:=bW b j;rw[j9,d,bBR] at e;exact v u r (m8 d) H' R l c (k.same c) e
 ·refine q D H' m c ⟨_,f,?_⟩;rw[<-aAp (p:=λi=>p (rs.getD i [])) (p':=p) λi r d=>by rw[bFW,j9,d];rfl];exact (aUk b 0).imp λ_ _ r=>r.same c
def aD5 (hd:Hdr)(n:Str)(cs:List (V × Int))(num:Nat)(r:List V):Bool:=decide (aB9 (r.getD (plc hd n) .non) cs 1 0=num)
def aF6:Option (List V)->List V->Bool
 |none,_=>true
 |some q,r=>rlt q r
inductive aA8 (K:bF9)(vs:List V)(H:Hp)(Q:VK)(E_:XK):Prop
 |mk (vr vm:V) (r:List V) (o:Option (List V)) (ks:List Bool) (_:vs=[vr,vm]) (_:dJ K H vr r) (_:aJt K H vm o) (_:KdR ks r) (_:(∀q,o=some q->KdR ks q)) (_:Q (.bl (aF6 o r)) H)
def aIn (T:Txt w K mg):Ok P w K mg base 1 "is_above" bQU (aA8 K):=by
 refine Ok.ofV T.aK1 aIi (by trivial) (λf e A d s H t Q E m h=>?_)
 obtain⟨u,n,r,o,i,rfl,c,a,l,g,q⟩:=h;have k:=m.units;refine⟨_,(aD (aK (aUt (tL aMh (vv 1) cD) (fX (tL (bA1 k) (vv 0) (vv 1)))))),?_⟩;cases o with
 |none=>cases a;exact⟨_,rfl,rfl,_,rfl,dZ (v4 rfl) q⟩
 |some b=>obtain⟨p,rfl,j⟩:=id a;exact⟨_,rfl,rfl,_,rfl,dU (v5 λz=>by cases z) ⟨_,rfl,_,rfl,i,r,b,c,a,l,g b rfl,q⟩⟩
inductive aAl (K:bF9)(vs:List V)(H:Hp)(Q:VK)(E_:XK):Prop
 |mk (v vh vp:V) (L:Addr) (t:Tb) (m:Int) (num:Nat) (n:Str) (h0:Int) (cs:List (V × Int)) (_:vs=[v,.int num]) (_:lU K H v vh vp L t) (_:kJ m t) (_:t.pl=.spans n h0 cs) (_:∀D' H',H D'=none->Same H H'->cF K H' D' (t.rows.filter (aD5 t.hd n cs num))->Q (.ref D') H')
def aFt (T:Txt w K mg)(a1:Ok P w K mg base 2 "place_of" bQE (aHn K))(zT:Ok P w K mg base 1 "cut_of" bQX (aAw K)):Ok P w K mg base 3 "span_rows" bQT (aAl K):=by
 refine Ok.ofV T.aHz tU (by trivial) (λf a2 A S s H vs Q E hr h=>?_)
 obtain⟨v,vh,vp,L,t,m,d,n,h0,B,rfl,⟨a,rfl,C,hI,k,g⟩,F,j,q⟩:=h;rw[j] at k;obtain⟨b,vc,rfl,W,O⟩:=k;have x:=F.pl;rw[j] at x;obtain⟨hn,Y,X,a3,o⟩:=x;have l8:=F.hd.1.2.2;have nd:=tU.nd;refine⟨_,(aB (aY 2 (bB a1 (aF (aU aR (vv 0) aA) (va1 (aU aR (aU (cH (K:=K)) (vv 0) aA) aA))))) (aD (aK (cU (N:=["row","number","place","table"]) ck (iG (aC oR)) rfl (lG (aU (cH (K:=K)) (vv 0) aA)) (λcl p y fp=>⟨(jH 0),(zX (eG cW (bB zT (aF (aU (cH (K:=K)) (aU (cH (K:=K)) (vv 3) aA) aA) (va1 (aU (cH (K:=K)) (vv 0) (vv 2))))) (vv 1))),(vv 0)⟩))))),?_⟩;refine⟨_,rfl,a,_,0,_,rfl,rfl,C,at0 _ _,_,rfl,a,_,1,_,rfl,rfl,C,at1 _ _ _,b,_,1,_,rfl,rfl,W,at1 _ _ _,vh,n,t.hd,Y,rfl,hI,by lia,X,λH1 i=>?_⟩;dsimp only[bF,sH,List.set];obtain⟨us,gL,a0⟩:=id g;refine oU [none,some (.int d),some (.int (plc t.hd n:Nat)),some (.ref a)] (aYo 1 2 0 (by trivial) (by trivial) (by trivial) rfl rfl rfl rfl rfl rfl (by trivial) (by trivial) (by trivial)) ?_;refine⟨_,rfl,a,_,2,_,rfl,rfl,i.bC C,at2 _ _ _ _,L,rfl,⟨_,SqL.of (i _ _ gL)⟩,aNo (g.same i) (by have:=F.few;lia) (aD5 t.hd n B d) rfl (λu r M y R l G J rr=>?_) λD y hN G Z=>q D y (none_of i hN) (i.trans G) Z⟩;obtain⟨ra,rfl,I⟩:=J;obtain⟨v,hv,hg,U⟩:=bDe (F.rows r M) X;have p:=i.trans G;refine⟨_,rfl,a,_,1,_,rfl,rfl,p.bC C,at1 _ _ _,b,_,2,_,rfl,rfl,p.bC W,at2 _ _ _ _,_,rfl,_,rfl,ra,r,_,v,rfl,rfl,I,bO hv,vc,v,Y,h0,B,rfl,kE.same p (λ_ _ z=>z.same p) O,o.few,U,λc O=>(o.each c O).1,_,rfl,rfl,_,rfl,?_⟩;have e:decide (V.int (aB9 v B 1 0:Nat)=V.int d)=aD5 t.hd n B d r:=by unfold aD5;rw[hg];exact decide_eq_decide.mpr ⟨λz=>by have:=V.int.inj z;lia,λz=>by rw[z]⟩
 rw[e];exact rr y (Same.refl _)
inductive aL9 (K:bF9)(C:Addr)(vs:List V)(H:Hp)(Q:VK)(E_:XK):Prop
 |mk (x d dm:Addr) (m:Int) (es:List En) (e:En) (mq:Mv) (n:Str) (h0:Int) (cs:List (V × Int)) (_:vs=[.ref x,.str e.n]) (_:aX K H C x m d dm es) (_:e∈es) (_:MvD K H dm e.n (some mq)) (_:e.t.pl=.spans n h0 cs) (_:(∀q,mq.mark=some q->qR e.t.hd q)) (_:∀D' H',H D'=none->Same H H'->cF K H' D' (e.t.rows.filter λr=>aF6 mq.mark r && aD5 e.t.hd n cs mq.num r)->Q (.ref D') H')
def aWs (T:Txt w K mg)(c:Cls K C)(D:eV K C "rows_to_come" "Store.rows_to_come" dG n6)(n1:bN K C "placed")(n3:bN K C "moves")(pN:Ok P w K mg base 3 "span_rows" bQT (aAl K))(sI:Ok P w K mg base 1 "is_above" bQU (aA8 K)):OkM P w K mg base C 4 "rows_to_come" n6 (aL9 K C):=by
 refine OkM.ofV c D iB (by trivial) (λf a2 A G s H vs Q E Y h=>?_)
 obtain⟨x,d,dm,m,es,e,y,n,h0,cs,rfl,b,o,⟨a1,v,Z,hk,hv⟩,k,hq,q⟩:=h;have J:=jD Y;have nd:=iB.nd;refine⟨_,(aB (aY 2 (lH J (cR (K:=K) (vv 0)) (vv 1) (λ_ _=>rfl))) (aD (aK (cU (N:=["row","move"]) ck (iG (aC dG)) rfl (lG (bB pN (aF (lH J (cR (K:=K) (vv 0)) (vv 1) (λ_ _=>rfl)) (va1 (aU aR (vv 2) aA))))) (λcl s' i fp=>⟨(jH 0),(zX (bR (bB sI (aF (vv 0) (va1 (aU (cH (K:=K)) (vv 1) aA)))))),(vv 0)⟩))))),?_⟩;obtain⟨M,U⟩:=b.at_;obtain⟨a,V,rfl,S,B⟩:=hv;have F:=b.ok e o;refine⟨_,rfl,x,C,M,_,_,rfl,U,c,n3,rfl,_,rfl,dm,_,rfl,.inl ⟨_,Sum.inr e.n,.inl Z,rfl,hk.symm⟩,?_⟩;dsimp only[bF,sH,List.set];refine oU [none,some (.ref a)] (mR 2 (by trivial) rfl rfl (by trivial)) ?_;refine⟨_,rfl,x,C,M,_,_,rfl,U,c,n1,rfl,_,rfl,d,e.v,rfl,.inl ⟨_,Sum.inr e.n,.inl b.ens.at_,rfl,(uG b.ens.nd o).symm⟩,?_⟩;refine⟨_,rfl,a,_,0,_,rfl,rfl,S,at0 _ _,e.v,e.vh,e.vp,e.L,e.t,m,y.num,n,h0,cs,rfl,b.ens.tb e o,F,k,λD1 H1 a3 j O=>?_⟩;obtain⟨us,W,a0⟩:=id O;refine⟨D1,rfl,⟨_,SqL.of W⟩,aNo O (bAE (bDV _ _) (by have:=F.few;lia)) (aF6 y.mark) rfl (λu r z i R l g p X=>?_) λD' i hN g I=>q D' i (none_of j hN) (j.trans g) (by rw[List.filter_filter] at I;exact I)⟩;refine⟨_,rfl,_,rfl,a,_,2,_,rfl,rfl,(j.trans g).bC S,at2 _ _ _ _,u,V,r,y.mark,knds e.t.hd,rfl,p,B.same (j.trans g),aAx (F.rows r (List.mem_filter.mp z).1),λq' e'=>aAx (hq q' e'),_,rfl,X i (Same.refl _)⟩
inductive aEt (K:bF9)(C CT CR:Addr)(vs:List V)(H:Hp)(Q:VK)(E:XK):Prop
 |mk (x d dm:Addr) (m:Int) (es:List En) (v vr:V) (_:vs=[.ref x,v,vr]) (_:aX K H C x m d dm es) (_:(aD1 K CT E H es v\/∃e∈es,v=.str e.n/\(∃t,dD K H vr t/\aGk e.t.hd t=false)/\Rf H E CR))
def aF9 (T:Txt w K mg):Ok P w K mg base 1 "with_rows" bQR aA7:=
 Ok.ofV T.aJ9 aGf (λ_ _ _ _ h=>h.elim) (λ_ _ _ _ _ _ _ _ _ _ h=>h.elim)
def aXj (T:Txt w K mg){C CT CR S:Addr}(g:ExT K mg dR "NoRow" "ShardError.__init__" CR S)(c:Cls K C)(D:eV K C "put" "Store.put" pO bQA)(M:bN K C "placed")(b:OkX P w K mg base 3 "table_in" u6 (nJ K CT))(pM:Ok P w K mg base 4 "is_row" u5 (yN K))(oM:Ok P w K mg base 1 "with_rows" bQR aA7):cZ P w K mg base C 5 "put" bQA (aEt K C CT CR):=by
 refine cZ.ofV c D vI (by trivial) (λf G A o s H vs Q E l h=>?_)
 obtain⟨x,d,dm,m,U,v,B,rfl,i,h⟩:=h;have J:=jD l;have hinit:=λ{fI:Addr}=>hinit T fI;have nd:=vI.nd;refine⟨_,(aB (aY 3 (lZ (b.mono (by decide)) l dB (by rfl) (aF (cR (K:=K) (vv 0)) (va1 (vv 1))))) (aB (bM (cC (bR (bB pM (aF (aU aR (vv 3) aA) (va1 (vv 2)))))) (aD (fH g (λfI Z F=>gK (k:=0) F gU hinit) (l.mono (by decide)) dX rfl (by rfl) (va1 cD))) aQ) (aD (mY J (cR (K:=K) (vv 0)) (vv 1) (bB oM (aF (vv 3) (va1 (bI pP (aU aR (vv 3) aA) (bQ (va1 (vv 2))))))))))),?_⟩;obtain⟨p,y⟩:=i.at_;refine⟨_,rfl,x,C,p,_,_,rfl,y,c,M,rfl,_,rfl,d,U,v,rfl,i.ens,?_⟩;rcases h with h|⟨e,j,rfl,⟨t,u,O⟩,L⟩
 ·exact .inr h
 have X:=(i.ok e j).hd.1.2.2;refine .inl ⟨e,j,rfl,λW n=>?_⟩;obtain⟨a,N,r,z,h2,Y⟩:=(i.ens.tb e j).same n;refine⟨_,rfl,a,_,0,_,N,rfl,r,at0 _ _,_,rfl,e.vh,B,e.t.hd,t,rfl,z,by lia,u.same n,λV q=>⟨_,rfl,?_⟩⟩;rw[O];exact cP ⟨rfl,λa I M R ne=>L a _ ((n.trans q).trans (aO R _))⟩
def aUl (T:Txt w K mg){C CT CR S:Addr}(g:ExT K mg dR "NoRow" "ShardError.__init__" CR S)(c:Cls K C)(D:eV K C "drop" "Store.drop" nQ bQA)(N:bN K C "placed")(b:OkX P w K mg base 3 "table_in" u6 (nJ K CT))(pM:Ok P w K mg base 4 "is_row" u5 (yN K))(oM:Ok P w K mg base 1 "with_rows" bQR aA7):cZ P w K mg base C 5 "drop" bQA (aEt K C CT CR):=by
 refine cZ.ofV c D qZ (by trivial) (λf I A o s H vs Q E j h=>?_)
 obtain⟨x,d,dm,m,V,v,G,rfl,i,h⟩:=h;have L:=jD j;have p:=j.units;have hinit:=λ{fI:Addr}=>hinit T fI;have nd:=qZ.nd;refine⟨_,(aB (aY 3 (lZ (b.mono (by decide)) j dB (by rfl) (aF (cR (K:=K) (vv 0)) (va1 (vv 1))))) (aB (bM (VW.pt (gB (cC (bR (bB pM (aF (aU aR (vv 3) aA) (va1 (vv 2)))))) (fG (aFr (aMz p) (vv 2) (aU aR (vv 3) aA) (by with_unfolding_all rfl))))) (aD (fH g (λfI fd F=>gK (k:=0) F gU hinit) (j.mono (by decide)) dX rfl (by rfl) (va1 cD))) aQ) (aB (aY 4 (cX mX (by rfl) T.wG qG (va1 (aU aR (vv 3) aA)))) (aB (eF (aEq PySem.F.plainAttrs_list PySem.F.slot_list_remove PySem.F.type_list_remove (aW1 p) (vv 4) (va1 (vv 2)))) (aD (mY L (cR (K:=K) (vv 0)) (vv 1) (bB oM (aF (vv 3) (va1 (vv 4)))))))))),?_⟩;obtain⟨q,z⟩:=i.at_;refine⟨_,rfl,x,C,q,_,_,rfl,z,c,N,rfl,_,rfl,d,V,v,rfl,i.ens,?_⟩;rcases h with h|⟨e,l,rfl,⟨t,y,R⟩,M⟩
 ·exact .inr h
 have Y:=(i.ok e l).hd.1.2.2;refine .inl ⟨e,l,rfl,λX n=>?_⟩;obtain⟨a,O,u,B,h2,Z⟩:=(i.ens.tb e l).same n;refine⟨_,rfl,a,_,0,_,O,rfl,u,at0 _ _,_,rfl,e.vh,G,e.t.hd,t,rfl,B,by lia,y.same n,λW r=>⟨_,rfl,?_⟩⟩;rw[R];exact cP ⟨rfl,λa J N U ne=>M a _ ((n.trans r).trans (aO U _))⟩
inductive aBz (K:bF9)(C CT CH:Addr)(vs:List V)(H:Hp)(Q:VK)(E:XK):Prop
 |mk (x d dm:Addr) (m:Int) (es:List En) (v vo:V) (_:vs=[.ref x,v,vo]) (_:aX K H C x m d dm es) (_:(aD1 K CT E H es v\/∃e∈es,v=.str e.n/\(∃t,dD K H vo t/\jC m t=false)/\Rf H E CH))
def aNh (T:Txt w K mg)(c:Cls K C)(D:eV K C "stands" "Store.stands" gQ bQS)(S:bN K C "placed")(V:bN K C "house_count")(b:OkX P w K mg base 3 "table_in" u6 (nJ K CT))(g:OkX P w K mg base 4 "rows_at" bQG (aEa K CH))(a:cZ P w K mg base C 4 "moving" n6 (wC K C CT))(X:Ok P w K mg base 3 "span_rows" bQT (aAl K))(M:Ok P w K mg base 1 "is_above" bQU (aA8 K)):cZ P w K mg base C 5 "stands" bQS (aBz K C CT CH):=by
 refine cZ.ofV c D oF (by trivial) (λf u A k s H R Q E i h=>?_)
 obtain⟨x,d,U,m,B,v,p,rfl,n,h⟩:=h;have O:=jD i;have L:=oF.nd;refine⟨_,(aB (aY 3 (lZ (b.mono (by decide)) i dB (by rfl) (aF (cR (K:=K) (vv 0)) (va1 (vv 1))))) (aB (aY 4 (lZ (g.mono (by decide)) i dB (by rfl) (aF (vv 3) (aF (vv 2) (va1 (cR (K:=K) (vv 0))))))) (aB (aY 5 (cJ (a.mono (by decide)) i dB (vv 0) (va1 (vv 1)))) (aB (bM (VW.pt (gB (eG aMh (vv 5) cD) (fG (eG aAa (aU aR (vv 5) aA) (vv 2))))) (aD (aK (vv 4))) aQ) (aD (aK (aL zF (by rfl) T.aAr vU (va1 (bI pP (vv 4) (cU (N:=["row","move"]) ck (iG (aC gQ)) rfl (lG (bB X (aF (vv 3) (va1 (aU aR (vv 5) aA))))) (λF J I W=>⟨(jH 0),(zX (cC (bR (bB M (aF (vv 0) (va1 (aU (cH (K:=K)) (vv 1) aA))))))),(vv 0)⟩))))))))))),?_⟩;obtain⟨l,o⟩:=n.at_;refine⟨_,rfl,x,C,l,_,_,rfl,o,c,S,rfl,_,rfl,d,B,v,rfl,n.ens,?_⟩;rcases h with h|⟨e,q,rfl,⟨t,r,z⟩,y⟩
 ·exact .inr h
 refine .inl ⟨e,q,rfl,λG j=>?_⟩;exact⟨_,rfl,_,rfl,_,rfl,x,C,l,_,_,rfl,j _ _ o,c,V,rfl,e.v,p,t,m,rfl,r.same j,z,y.same j⟩
end
end My
namespace PySem
theorem rO {α:Type}:∀(l:List α) (i:Nat) (h:i<l.length),(l[i]::l.eraseIdx i).Perm l
 |x::l,0,_=>.refl _
 |x::l,i+1,h=>by have a:=rO l i (Nat.lt_of_succ_lt_succ h);exact (List.Perm.swap x _ (l.eraseIdx i)).trans (a.cons x)
def aFz (a:n≠0)(h:∀i dr,i<n->Q i { s with drawn:=dr }):wpAny (model prog w) A (choose src n) Q E s:=
 λ_ _ _=>⟨a,h _ _ (Nat.mod_lt _ (Nat.pos_of_ne_zero a))⟩
theorem oA {α:Type}:∀(n:Nat) (xs:List α) (s:Shared) (Q:List α->Shared->Prop),xs.length=n->(∀ys dr,ys.Perm xs->Q ys { s with drawn:=dr })->wpAny (model prog w) A (drawOrder n xs) Q E s
 |0,xs,s,Q,hl,h=>by have e:=bAX hl;subst e;unfold drawOrder;exact d8 (h [] s.drawn (.refl _))
 |n+1,xs,s,Q,hl,h=>by
  cases xs with
  |nil=>cases hl
  |cons x xs=>unfold drawOrder;refine b7 (aFz (by rw[hl];lia) λi dr b=>?_);rw[b8 b];dsimp only;refine b7 (oA n _ _ _ (by rw[bF2 b,hl];rfl) λys a p=>d8 ?_);refine h _ a ?_;have e:=rO _ _ b;exact (p.cons _).trans e
theorem aOi {α:Type}(b:Nat->Nat):∀(fuel k:Nat) (left:List α) (out:Array α),left.length=fuel->(pickOrder.go b fuel k left out).toList.Perm (out.toList++left)
 |0,k,left,out,h=>by have e:left=[]:=bAX h;subst e;unfold pickOrder.go;rw[bBU]
 |fuel+1,k,left,out,h=>by have a:b k % left.length<left.length:=Nat.mod_lt _ (by lia);unfold pickOrder.go;rw[b8 a];dsimp only;refine (aOi b fuel (k+1) _ _ (by rw[bF2 a,h];rfl)).trans ?_;rw[Array.toList_push,bDC];exact List.Perm.append_left _ (rO _ _ a)
def wQ {α:Type}(a:Nat->Nat)(xs:Array α):(pickOrder a xs).toList.Perm xs.toList:=by unfold pickOrder;exact aOi a xs.size 0 xs.toList #[] (by rw[v9])
def bV:Slot "set_iterator" "__next__" "set_iterator.__next__":=.of (owner:="set_iterator") (n:="__next__") (by rw[typeLookup_type,builtinLookup_eq_fast];kernel_rfl) (by trivial) (by trivial) (by trivial) (by first|exact .inl (by trivial)|exact .inr (by trivial)) (by rw[isSubtype_type];kernel_rfl)
def oN:Slot "set_iterator" "__iter__" "set_iterator.__iter__":=.of (owner:="set_iterator") (n:="__iter__") (by rw[typeLookup_type,builtinLookup_eq_fast];kernel_rfl) (by trivial) (by trivial) (by trivial) (by first|exact .inl (by trivial)|exact .inr (by trivial)) (by rw[isSubtype_type];kernel_rfl)
def fV:entryFor table "set_iterator.__next__"=some Builtin.«set_iterator.__next__»:=entryFor_of_tree (by kernel_rfl)
def yK:entryFor table "set_iterator.__iter__"=some Builtin.«dict_keyiterator.__iter__»:=entryFor_alias (id':="dict_keyiterator.__iter__") (by kernel_rfl) rfl (by trivial) (by kernel_rfl)
def aBm:entryFor table "set.__iter__"=some Builtin.«frozenset.__iter__»:=entryFor_alias (id':="frozenset.__iter__") (by kernel_rfl) rfl (by trivial) (by kernel_rfl)
def zL:Manifest.owners.lookup (String.ofList ['r','o','t','a','r','e','t','i','_','t','e','s'].reverse)=some Manifest.sig_set_iterator:=by kernel_rfl
def gO (a:Value):argsOk "set_iterator.__next__" ⟨[a],[]⟩:=by unfold argsOk;rw[signature?_of (id:="set_iterator.__next__") (n:=['_','_','t','x','e','n','_','_']) (o:=['r','o','t','a','r','e','t','i','_','t','e','s']) (by kernel_rfl) zL];kernel_rfl
def aAi (a:Value):argsOk "set_iterator.__iter__" ⟨[a],[]⟩:=by unfold argsOk;rw[signature?_of (id:="set_iterator.__iter__") (n:=['_','_','r','e','t','i','_','_']) (o:=['r','o','t','a','r','e','t','i','_','t','e','s']) (by kernel_rfl) zL];kernel_rfl
def fJ (h:Heap)(I:Addr)(first:Value)(i:Nat)(D:Addr)(n ep:Nat):Prop:=h.get? I=some { cls:=.type "set_iterator",data:=.fields #[first,.int i 0,.ref D,.int n 0,.int ep 0] }
def tM (h:Heap)(D:Addr)(es:Array (Int × Value))(ep:Nat)(t:SetTable):Prop:=∃o,h.get? D=some o/\o.ExactSet/\o.data=.set es ep t/\t.fits es.size=true
def aF8 (prog:Program)(w:World)(D:Addr)(es:Array (Int × Value))(ep:Nat)(t:SetTable)(slot i:Nat)(r:Option (Value × Nat)):Prop:=
 ∀A E s Q,tM s.heap D es ep t->Q r s->wpAny (model prog w) A (setNext D slot i ep) Q E s
def aC1 {I D:Addr}{es:Array (Int × Value)}{ep slot i a:Nat}{t:SetTable}{x:Value}{Q:Option Value->Shared->Prop}(c:fJ s.heap I (.int slot 0) i D es.size ep)(k:tM s.heap D es ep t)(hne:D≠I)
  (nx:aF8 prog w D es ep t slot i (some (x,a)))
  (q:∀h',fJ h' I (.int a 0) (i+1) D es.size ep->(∀b o,b≠I->s.heap.get? b=some o->h'.get? b=some o)->Q (some x) { s with heap:=h' }):wpAny (model prog w) A (pyNext (.ref I)) Q E s:=by
 have d:s.TypeIs (.ref I) "set_iterator":=⟨_,c,rfl⟩;obtain⟨o,m,h,hd,p⟩:=id k;unfold pyNext;refine b7 (bCA (bAK d bV (bAL bV d fV (b7 (d8 (b7 (bEC c rfl ?_)))) (gO _))));refine b7 (bDF m hd p ?_);dsimp only;rw[if_neg (by simp)];simp only[bAJ];refine b7 (nx _ _ _ _ k ?_);dsimp only;refine b7 (bAQ c (by simp) λy j l=>?_);have u:fJ y I (.int a 0) i D es.size ep:=by simpa [rawInt,fJ] using j
 refine b7 (bAQ u (by simp) λg r n=>?_);have v:fJ g I (.int a 0) (i+1) D es.size ep:=by
  have z:((i+1:Nat):Int)=(i:Int)+1:=by lia
  unfold fJ;rw[z];simpa [rawInt] using r
 exact d8 ⟨_,rfl,d8 (q g v λb o f e=>n.extBut b o f (l.extBut b o f e))⟩
def aC0 {I D:Addr}{es:Array (Int × Value)}{ep slot i:Nat}{t:SetTable}{Q:Option Value->Shared->Prop}(h:A.handled=none)(c:fJ s.heap I (.int slot 0) i D es.size ep)(f:tM s.heap D es ep t)
  (nx:aF8 prog w D es ep t slot i none) (q:∀h',(∀b o,b≠I->s.heap.get? b=some o->h'.get? b=some o)->Q none { s with heap:=h' }):wpAny (model prog w) A (pyNext (.ref I)) Q E s:=by
 have a:s.TypeIs (.ref I) "set_iterator":=⟨_,c,rfl⟩;obtain⟨o,g,d,hd,e⟩:=id f;unfold pyNext;refine b7 (bCA (bAK a bV (bAL bV a fV (b7 (d8 (b7 (bEC c rfl ?_)))) (gO _))));refine b7 (bDF g hd e ?_);dsimp only;rw[if_neg (by simp)];simp only[bAJ];refine b7 (nx _ _ _ _ f ?_);dsimp only;refine b7 (bBZ c rfl (by simp) ?_);refine b7 ?_;simp only[newExc,newTuple,raiseNew];refine b7 (bAG ?_ (by size_fits));refine b7 (bEU (by simp only[firstArgMember];rfl) ?_);refine bAG (b7 (bFM ?_)) (by size_fits);rw[show A.in1.handled=none from h];refine b7 (d8 (bF4 ?_));refine b7 (bDG ⟨_,j8 _ rfl,rfl⟩ isSubtype_stop ?_);exact d8 (q _ (((bBD ..).extBut.push _).push _))
def aNa {I D T:Addr}{es:Array (Int × Value)}{ep i j:Nat}{t:SetTable}{pl:Array Value}{e:Int × Value}{Q:Option Value->Shared->Prop}(a:fJ s.heap I (.ref T) i D es.size ep)(r:tM s.heap D es ep t)(u:s.heap.get? T=some { cls:=.type "tuple",data:=.seq pl })
  (p:pl[i]?=some (.int j 0)) (v:es[j]?=some e)
  (q:∀h',fJ h' I (.ref T) (i+1) D es.size ep->(∀b o,b≠I->s.heap.get? b=some o->h'.get? b=some o)->Q (some e.2) { s with heap:=h' }):wpAny (model prog w) A (pyNext (.ref I)) Q E s:=by
 have d:s.TypeIs (.ref I) "set_iterator":=⟨_,a,rfl⟩;obtain⟨o,c,h,hd,f⟩:=id r;unfold pyNext;refine b7 (bCA (bAK d bV (bAL bV d fV (b7 (d8 (b7 (bEC a rfl ?_)))) (gO _))));refine b7 (bDF c hd f ?_);dsimp only;rw[if_neg (by simp)];simp only[bAJ];refine b7 (bBG u rfl ?_);dsimp only;rw[p];dsimp only;unfold setNextDrawn;refine b7 (b7 (bBS c hd f ?_));dsimp only;rw[if_neg (by simp)];refine b7 (d8 ?_);simp only[bAJ,v];refine d8 (b7 (bAQ a (by simp) λg m k=>?_));have n:fJ g I (.ref T) (i+1) D es.size ep:=by
  have z:((i+1:Nat):Int)=(i:Int)+1:=by lia
  unfold fJ;rw[z];simpa [rawInt] using m
 exact d8 ⟨_,rfl,d8 (q g n λb o l e=>k.extBut b o l e)⟩
def aM8 (m:A.handled=none)(d:fJ s.heap I (.ref T) i D es.size ep)(r:tM s.heap D es ep t)(n:s.heap.get? T=some { cls:=.type "tuple",data:=.seq pl })
  (l:pl[i]?=none) (q:∀h',(∀b o,b≠I->s.heap.get? b=some o->h'.get? b=some o)->Q none { s with heap:=h' }):wpAny (model prog w) A (pyNext (.ref I)) Q E s:=by
 have a:s.TypeIs (.ref I) "set_iterator":=⟨_,d,rfl⟩;obtain⟨o,j,f,hd,g⟩:=id r;unfold pyNext;refine b7 (bCA (bAK a bV (bAL bV a fV (b7 (d8 (b7 (bEC d rfl ?_)))) (gO _))));refine b7 (bDF j hd g ?_);dsimp only;rw[if_neg (by simp)];simp only[bAJ];refine b7 (bBG n rfl ?_);dsimp only;rw[l];dsimp only;refine b7 (bAQ d (by simp) λp h k=>?_);refine b7 (bBZ h rfl (by simp) ?_);refine b7 ?_;simp only[newExc,newTuple,raiseNew];refine b7 (bAG ?_ (by size_fits));refine b7 (bEU (by simp only[firstArgMember];rfl) ?_);refine bAG (b7 (bFM ?_)) (by size_fits);rw[show A.in1.handled=none from m];refine b7 (d8 (bF4 ?_));refine b7 (bDG ⟨_,j8 _ rfl,rfl⟩ isSubtype_stop ?_);refine d8 (q _ λb o c e=>((((bBD ..).extBut.push _).push _)) b o c (k.extBut b o c e))
def aDz (g:byT w=true):aF8 prog w D es ep t slot i (((pickOrder (w.params.setOrder D ep) es)[i]?).map λe=>(e.2,slot)):=by intro A E s Q f q;obtain⟨o,c,d,hd,b⟩:=f;have a:(⟨(model prog w).prog,(model prog w).w.params⟩:Setting).params.followText "set-order"=true:=g;unfold setNext setsByText setWalk;refine b7 (bBS c hd b ?_);dsimp only;refine b7 (b7 (bDI (d8 ?_)));rw[if_pos a,if_neg (by simp)];refine b7 (b7 (bBS c hd b ?_));dsimp only;unfold setsByText;refine b7 (b7 (bDI (d8 ?_)));rw[if_pos a];exact b7 (bDI (d8 (d8 q)))
def aAh (l:byT w=false)(g:t.led=true)(k:t.plain=true\/es.size<=1) :
  aF8 prog w D es ep t slot i (match es[SetTable.below t.place slot]?,t.place[SetTable.below t.place slot]? with|some (_,x),some j=>some (x,j+1)|_,_=>none):=by
 intro A E s Q e q;obtain⟨o,f,c,hd,d⟩:=e;have b:(⟨(model prog w).prog,(model prog w).w.params⟩:Setting).params.followText "set-order"=false:=l;unfold setNext setsByText;refine b7 (bBS f hd d ?_);dsimp only;refine b7 (b7 (bDI (d8 ?_)));rw[if_neg (by rw[b];exact v6)]
 split
 ·rename_i a;have z:(!t.plain && decide (es.size > 1))=true:=a;rw[bAT,decide_eq_true_eq] at z;rcases k with h|h
  ·rw[h] at z;cases z.1
  ·lia
 ·refine b7 (show wpAny _ _ (if (!t.led && !es.isEmpty)=true then unsupported "set:maker-not-led" else pure ()) _ _ _ from ?_);rw[if_neg (by rw[g];exact v6)];exact d8 (d8 q)
def vX (b:fJ s.heap I first i D n ep)(h:Q (.ref I) s):wpAny (model prog w) A (pyIter (.ref I)) Q E s:=by have a:s.TypeIs (.ref I) "set_iterator":=⟨_,b,rfl⟩;refine bFC a oN (bAL oN a yK ?_ (aAi _));exact d8 ⟨_,rfl,"set_iterator",_,a,bV.lookup,h⟩
def tM.at (x:tM h D es ep t)(e:∀o,h.get? D=some o->h'.get? D=some o):tM h' D es ep t:=by obtain⟨o,a,r⟩:=x;exact⟨o,e o a,r⟩
def aL4 {I D:Addr}{es:Array (Int × Value)}{ep:Nat}{t:SetTable}(c:byT w=true)(r:A.handled=none)(l:D≠I) :
  Walks prog w A I [I,D] [I] es.size (λi v=>((pickOrder (w.params.setOrder D ep) es).toList.map (·.2))[i]?=some v) (λi h=>fJ h I (.int (0:Nat) 0) i D es.size ep/\tM h D es ep t) where
 sub:=λb c=>by simp at c;simp[c]
 frame:=λ_ _ _ a m=>⟨m I (by simp) _ a.1,a.2.at λo e=>m D (by simp) o e⟩
 item:=λi s Q E q a g=>by
  have n:(pickOrder (w.params.setOrder D ep) es).size=es.size:=by rw[<-v9,(wQ _ es).length_eq,v9]
  have f:i<(pickOrder (w.params.setOrder D ep) es).size:=by lia
  have d:=aDz (prog:=prog) (D:=D) (es:=es) (ep:=ep) (slot:=0) (i:=i) (t:=t) c;rw[j6 f] at d;refine aC1 a.1 a.2 l d λk p j=>?_;exact g _ k s.toks (by rw[t7,bBY,j6 f];rfl) ⟨p,a.2.at λo e=>j D o l e⟩ λb o c e=>j b o (λz=>c (by simp[z])) e
 done:=λs Q E a g=>by
  have n:(pickOrder (w.params.setOrder D ep) es).size=es.size:=by rw[<-v9,(wQ _ es).length_eq,v9]
  have d:=aDz (prog:=prog) (D:=D) (es:=es) (ep:=ep) (slot:=0) (i:=es.size) (t:=t) c;rw[bBO (by lia)] at d;exact aC0 r a.1 a.2 d λk j=>g k s.toks λb o c e=>j b o (λz=>c (by simp[z])) e
 self:=λ_ _ _ _ a g=>vX a.1 g
def aJb {I D:Addr}{es:Array (Int × Value)}{ep:Nat}{t:SetTable}(a:byT w=false)(u:t.led=true)(x:t.plain=true\/es.size<=1)(F:Ris t.place)(hsz:t.place.size=es.size)(J:A.handled=none)(q:D≠I) :
  Walks prog w A I [I,D] [I] es.size (λi v=>(es.toList.map (·.2))[i]?=some v) (λi h=>∃slot,fJ h I (.int (slot:Nat) 0) i D es.size ep/\tM h D es ep t/\SetTable.below t.place slot=i) where
 sub:=λb a=>by simp at a;simp[a]
 frame:=λ_ _ _ ⟨k,d,f,j⟩ m=>⟨k,m I (by simp) _ d,f.at λo e=>m D (by simp) o e,j⟩
 item:=λi s Q E r ⟨k,d,f,j⟩ l=>by
  have g:=aAh (prog:=prog) (D:=D) (es:=es) (ep:=ep) (slot:=k) (i:=i) (t:=t) a u x;have c:i<t.place.size:=by lia
  rw[j,j6 r,j6 c] at g;refine aC1 d f q g λp B n=>?_;refine l _ p s.toks (by rw[t7,bBY,j6 r];rfl) ⟨_,B,f.at λo e=>n D o q e,?_⟩ λb o a e=>n b o (λz=>a (by simp[z])) e;obtain⟨K,y,C⟩:=mD F (t.place[i]+1);have G:i<SetTable.below t.place (t.place[i]+1):=Nat.lt_of_not_le λz=>by have:=C i c z;lia
  rcases bF0 (Nat.succ_le_of_lt G) with h2|h2
  ·exfalso;have m:i+1<t.place.size:=by lia
   have L:=y (i+1) m h2;have H:=F i (i+1) c m (bCY _);lia
  ·exact h2.symm
 done:=λs Q E ⟨k,d,f,j⟩ l=>by have g:=aAh (prog:=prog) (D:=D) (es:=es) (ep:=ep) (slot:=k) (i:=es.size) (t:=t) a u x;rw[j,bBO (j0 _)] at g;exact aC0 J d f g λp n=>l p s.toks λb o a e=>n b o (λz=>a (by simp[z])) e
 self:=λ_ _ _ _ ⟨_,d,_⟩ l=>vX d l
def aIq {I D T:Addr}{es:Array (Int × Value)}{ep:Nat}{t:SetTable}{ys:List Nat}(p:ys.Perm (List.range es.size))(y:A.handled=none)(q:D≠I)(r:T≠I) :
  Walks prog w A I [I,D,T] [I] es.size (λi v=>((ys.map λj=>es.getD j (0,.none)).map (·.2))[i]?=some v) (λi h=>fJ h I (.ref T) i D es.size ep/\tM h D es ep t/\h.get? T=some { cls:=.type "tuple",data:=.seq (ys.map λj=>rawInt (j:Nat)).toArray }) where
 sub:=λb d=>by simp at d;simp[d]
 frame:=λ_ _ _ a m=>⟨m I (by simp) _ a.1,a.2.1.at λo e=>m D (by simp) o e,m T (by simp) _ a.2.2⟩
 item:=λi s Q E x a f=>by
  have l:ys.length=es.size:=by rw[p.length_eq,bAM]
  have c:i<ys.length:=by lia
  have n:=List.mem_range.mp (p.mem_iff.mp (bAU c));refine aNa a.1 a.2.1 a.2.2 (by rw[bFG,t7,b8 c];rfl) (j6 n) λk u g=>?_;refine f _ k s.toks ?_ ⟨u,a.2.1.at λo e=>g D o q e,g T _ r a.2.2⟩ λb o d e=>g b o (λz=>d (by simp[z])) e;rw[t7,t7,b8 c];show some (es.getD ys[i] (0,.none)).2=some es[ys[i]].2;rw[v8,j6 n];rfl
 done:=λs Q E a f=>by
  have l:ys.length=es.size:=by rw[p.length_eq,bAM]
  exact aM8 y a.1 a.2.1 a.2.2 (by rw[bFG,t7,bAD (by lia)];rfl) λk g=>f k s.toks λb o d e=>g b o (λz=>d (by simp[z])) e
 self:=λ_ _ _ _ a f=>vX a.1 f
def aT9 {D:Addr}{es:Array (Int × Value)}{ep:Nat}{t:SetTable}{Q:bGA}(J:A.handled=none)(R:tM s.heap D es ep t)(q:TabOk (byT w) t)(V:es.size<=1000)
  (h:∀I fp (order:List (Int × Value)) St h1 dr,(∀b o,s.heap.get? b=some o->h1.get? b=some o)->Walks prog w A I fp [I] es.size (λi v=>(order.map (·.2))[i]?=some v) St->St 0 h1->(∀b∈fp,b=D\/s.heap.objs.size<=b)->s.heap.objs.size<=I->order.Perm es.toList ->
   Q (.ref I) { s with heap:=h1,drawn:=dr }):wpAny (model prog w) A (pyIter (.ref D)) Q E s:=by
 obtain⟨o,g,k,hd,d⟩:=id R;have H:s.TypeIs (.ref D) "set":=⟨o,g,k.1⟩;refine bFC H F.slot_set_iter (bAL F.slot_set_iter H aBm ?_ (F.args_set_iter_1 _));unfold Builtin.«frozenset.__iter__» Builtin.Frozenset.slot0 slotArgs;simp only[List.isEmpty_nil,Bool.not_true,bBC,↓reduceIte,bind_assoc,bBV,bne_self_eq_false];unfold Builtin.Frozenset.addrOf Builtin.Frozenset.sizeOf setDrawn setsByText;refine b7 (d8 ?_)
 try dsimp only
 refine b7 (d8 ?_);refine b7 (b7 (bDF g hd d (d8 ?_)));refine b7 (b7 (bBS g hd d ?_));dsimp only;refine b7 (b7 (bDI (d8 (d8 ?_))));have f:D<s.heap.objs.size:=m9 g;have T:((0:Nat):Int)=0:=rfl
 split
 ·rename_i K;refine b7 (oA _ _ _ _ (bAM ..) λC dr x=>?_);refine b7 (bFZ ?_ (by rw[j7,x.length_eq,bAM];exact bAE V (by decide)));have n:({ s with drawn:=dr,heap:=s.heap.push { cls:=.type "tuple",data:=.seq (C.map λi=>rawInt (i:Nat)).toArray } }:Shared).heap.get? D=some o:=d7 _ g;refine b7 (wpAny_setEpoch_of n hd d ?_);refine b7 ?_;unfold newFields;refine bAG (d8 ⟨_,rfl,"set_iterator",_,⟨_,j8 _ rfl,rfl⟩,bV.lookup,?_⟩);have p:(s.heap.push { cls:=.type "tuple",data:=.seq (C.map λi=>rawInt (i:Nat)).toArray }).objs.size=s.heap.objs.size+1:=bBP ..;refine h _ [_,D,s.heap.objs.size] (C.map λj=>es.getD j (0,.none)) _ _ dr (λb o e=>d7 _ (d7 _ e)) (aIq (t:=t) (ep:=ep) x J ?_ ?_) ⟨?_,?_,?_⟩ (λb c=>?_) ?_ ?_
  ·show D≠Array.size _;rw[p];exact v7 (bCJ f)
  ·show s.heap.objs.size≠Array.size _;rw[p];exact v7 (bCY _)
  ·exact j8 _ rfl
  ·exact⟨o,d7 _ n,k,hd,d⟩
  ·exact d7 _ (j8 _ rfl)
  ·simp only[bAC,z9,or_false] at c;rcases c with rfl|rfl|rfl
   ·right;rw[p];exact bDB _
   ·left;rfl
   ·right;exact j0 _
  ·rw[p];exact bDB _
  ·have e:(List.range es.size).map (λj=>es.getD j (0,.none))=es.toList:=by
    refine bCS λj=>?_;rw[t7,show es.toList[j]?=es[j]? from bBY];by_cases y:j<es.size
    ·rw[bCV y,j6 y];show some (es.getD j (0,.none))=_;rw[v8,j6 y];rfl
    ·rw[bAD (by rw[bAM];lia),bBO (by lia)];rfl
   exact (x.map _).trans (by rw[e])
 ·rename_i K;refine b7 (d8 (b7 (wpAny_setEpoch_of g hd d (b7 ?_))));unfold newFields;refine bAG (d8 ⟨_,rfl,"set_iterator",_,⟨_,j8 _ rfl,rfl⟩,bV.lookup,?_⟩);have L:fJ (s.heap.push { cls:=.type "set_iterator",data:=.fields [rawInt 0,rawInt 0,Value.ref D,rawInt (es.size:Nat),rawInt (ep:Nat)].toArray }) s.heap.objs.size (.int (0:Nat) 0) 0 D es.size ep:=j8 _ rfl;have m:tM (s.heap.push { cls:=.type "set_iterator",data:=.fields [rawInt 0,rawInt 0,Value.ref D,rawInt (es.size:Nat),rawInt (ep:Nat)].toArray }) D es ep t:=R.at λo e=>d7 _ e;have l:∀b∈[s.heap.objs.size,D],b=D\/s.heap.objs.size<=b:=λb c=>by
   simp only[bAC,z9,or_false] at c;rcases c with rfl|rfl
   ·right;exact j0 _
   ·left;rfl
  cases c:byT w with
  |true=>exact h _ [s.heap.objs.size,D] _ _ _ s.drawn (λb o e=>d7 _ e) (aL4 (t:=t) (ep:=ep) c J (v7 f)) ⟨L,m⟩ l (j0 _) (wQ _ es)
  |false=>
   have M:t.led=true:=q.1 c;have r:t.place.size=es.size:=by unfold SetTable.fits at d;rw[bAT,beq_iff_eq] at d;exact d.1
   have G:t.plain=true\/es.size<=1:=by
    have z:¬ (!byT w && (!t.plain && decide (es.size > 1)))=true:=K;rw[c] at z;cases B:t.plain with
    |true=>exact .inl rfl
    |false=>rw[B] at z;right;simpa using z
   have u:Ris t.place:=by
    rcases G with z|z
    ·exact q.2.2.2 z
    ·intro a b U N S;lia
   refine h _ [s.heap.objs.size,D] es.toList _ _ s.drawn (λb o e=>d7 _ e) (aJb (t:=t) (ep:=ep) c M G u r J (v7 f)) ⟨0,L,m,?_⟩ l (j0 _) (.refl _);obtain⟨_,P,_⟩:=mD u 0;rcases Nat.eq_zero_or_pos (SetTable.below t.place 0) with z|z
   ·exact z
   ·by_cases O:0<t.place.size
    ·exact absurd (P 0 O z) (bFR _)
    ·have:=(mD u 0).1;lia
def aUe (c:s.TypeIs (.ref D) "set")(h:Q false s):wpAny (model prog w) A (Builtin.List.listLengthHint (.ref D)) Q E s:=by unfold Builtin.List.listLengthHint;refine b7 (wpAny_specialOf c F.slot_set_len.lookup ?_);generalize b:("set.__len__":String)=id0;wp_delta;rw[show splitId id0=some ("set","__len__") from by subst b;decide +kernel];subst b;refine b7 (bDG c sub_set_self (bFV (λa=>absurd a (by decide)) (λ_=>bFV (λ_=>?_) (λa=>absurd (by trivial) a))));exact b7 (bEX c (d8 h))
def aL6 (hh:A.handled=none)(X:tM s.heap D es ep t)(T:TabOk (byT w) t)(hn:es.size<=1000)(S:Addr)(C:S≠D)(res:Value)(P:s.heap.get? S=some { cls:=.type "list",data:=.seq #[] })
  (hR:∀h' tk dr acc c (order:List (Int × Value)),(∀b o,b≠S->s.heap.get? b=some o->h'.get? b=some o)->h'.get? S=some { cls:=.type "list",dict:=none,data:=.seq acc c,slots:=#[] }->order.Perm es.toList->acc.toList=order.map (·.2)->R (.ok (.ret res)) { s with heap:=h',toks:=tk,drawn:=dr }) :
  wpAny (model prog w) A.in1 (Builtin.List.listExtendWith (.ref S) (.ref D) res) (λfin s'=>match fin with|.done f=>R (.ok f) s'|.again c'=>c'.quiet=true/\codeAny (model prog w) A c' R s') (λe s'=>R (.error e) s') s:=by
 obtain⟨o,M,m,hd,hf⟩:=id X;have Q:s.TypeIs (.ref D) "set":=⟨o,M,m.1⟩;have n:=m9 P;unfold Builtin.List.listExtendWith;refine b7 (bEX Q ?_);have V:Builtin.List.listSameRef (.ref S) (.ref D)=false:=by simp[Builtin.List.listSameRef,C]
 simp only[V,show (Value.type "set" == Value.type "list")=false by decide,show (Value.type "set" == Value.type "tuple")=false by decide,Bool.or_false,bBC,if_false];refine b7 (aT9 hh X T hn λI Z order St v dr d W N J B a=>?_);have q:S∉Z:=λz=>(J S z).elim C λz=>absurd n (Nat.not_lt.mpr z);have l:=d _ _ P;have r:∀h x tk,St 0 h->(∀b o,b≠S->s.heap.get? b=some o->h.get? b=some o)->h.get? S=some { cls:=.type "list",data:=.seq #[] x } ->
   codeAny (model prog w) A (.builtin "list.extend.loop" ⟨[.ref S,.ref I,res],[]⟩) R { s with heap:=h,toks:=tk,drawn:=dr }:=λh x tk H Y G=>by
  refine codeAny_extend_loopS W.toS (bAE hn (by decide)) S q res es.size 0 _ #[] x rfl (bAF _) H G (ItemsOf.nil _) λs' k c' K E i=>?_;rw[Moved.eq_with K];refine hR s'.heap s'.toks dr k c' order (λb o g e=>K.heap b o (λhmem=>?_) (Y b o g e)) E a ?_
  ·rcases List.mem_cons.mp hmem with O|hmem
   ·exact g O
   ·rw[List.mem_singleton.mp hmem] at e;exact absurd (m9 e) (Nat.not_lt.mpr B)
  ·have U:order.length=es.size:=by rw[a.length_eq,v9]
   refine bCS λj=>?_;rw[bBY];by_cases L:j<k.size
   ·rw[j6 L];exact (i.2 j _ (j6 L)).symm
   ·rw[bBO (by lia),bAD (by rw[j7,U,<-i.1];lia)]
 refine b7 (bAP (aUe ⟨o,d _ _ M,m.1⟩ ?_));refine bFV (λ_=>?_) (λ_=>d8 ⟨bCH F.plain_extend_loop _,r v _ _ N (λb o _ e=>d b o e) l⟩);refine b7 (bEB (b7 ?_));refine b7 (wpAny_updateSeq l rfl ?_);have u:=bAS (Obj.mapSeq (·.push Value.none)) l rfl;refine wpAny_updateSeq u rfl ?_;have y:=bAS (Obj.mapSeq (·.pop)) u rfl;have p:∀b o,b≠S->v.get? b=some o->((v.update S (Obj.mapSeq (·.push Value.none))).update S (Obj.mapSeq (·.pop))).get? b=some o:=λb o g e=>(bBF _ _ (Ne.symm g)).trans ((bBF _ _ (Ne.symm g)).trans e);exact d8 ⟨bCH F.plain_extend_loop _,r _ _ _ (W.frame 0 _ _ N λb g o e=>p b o (λz=>q (z ▸ g)) e) (λb o g e=>p b o g (d b o e)) y⟩
open PySem.Calls PyProof.Rows
section
variable {κ:Type}[DecidableEq κ]
def aGj (J:A.handled=none)(I:tM s.heap D es ep t)(C:TabOk (byT w) t)(G:es.size<=1000)
  (h:∀h' tk dr (order:List (Int × Value)),(∀b o,s.heap.get? b=some o->h'.get? b=some o)->order.Perm es.toList->R (order.map (·.2)) { s with heap:=h',toks:=tk,drawn:=dr }):wpAny (model prog w) A (collect (.ref D)) R E s:=by
 obtain⟨o,v,m,hd,H⟩:=I;have n:=m9 v;unfold collect;refine b7 (wpAny_runValue (bBK entry_proto_collect' ?_));rw[bBA PySem.F.plain_proto_collect _];show wpAny _ A.in1 (newList [] >>= λl=>again (.builtin "list.__iadd__" ⟨[l,.ref D],[]⟩)) _ _ s;refine b7 (bAG (d8 ⟨bCH PySem.F.plain_list_iadd _,bBK entry_list_iadd' ?_⟩));rw[bBA PySem.F.plain_list_iadd _];have r:(s.heap.push { cls:=.type "list",data:=.seq ([]:List Value).toArray }).get? s.heap.objs.size=some { cls:=.type "list",data:=.seq #[] }:=j8 _ rfl;show wpAny _ A.in1 (Builtin.List.listExtendWith (.ref s.heap.objs.size) (.ref D) (.ref s.heap.objs.size)) _ _ _;have u:=aL6 (prog:=prog) (w:=w) (A:=A) (s:={ s with heap:=s.heap.push { cls:=.type "list",data:=.seq ([]:List Value).toArray } })
  (R:=λ(q:Result) (p:Shared)=>∃(h':Heap) (tk:Nat) (dr:Drawn) (a:Array Value) (c:Nat) (order:List (Int × Value)),q=.ok (.ret (.ref s.heap.objs.size))/\p={ s with heap:=h',toks:=tk,drawn:=dr }/\(∀b o,s.heap.get? b=some o->h'.get? b=some o)/\h'.get? s.heap.objs.size=some { cls:=.type "list",dict:=none,data:=.seq a c,slots:=#[] }/\order.Perm es.toList/\a.toList=order.map (·.2))
  J ⟨o,d7 _ v,m,hd,H⟩ C G s.heap.objs.size (bCP n) (.ref s.heap.objs.size) r
  (λh' tk dr a c order j d g i=>⟨h',tk,dr,a,c,order,rfl,rfl,λb o e=>j b o (v7 (m9 e)) (d7 _ e),d,g,i⟩)
 have k:∀(h':Heap) (tk:Nat) (dr:Drawn) (a:Array Value) (c:Nat) (order:List (Int × Value)),(∀b o,s.heap.get? b=some o->h'.get? b=some o)->h'.get? s.heap.objs.size=some { cls:=.type "list",dict:=none,data:=.seq a c,slots:=#[] }->order.Perm es.toList->a.toList=order.map (·.2) ->
   wpAny (model prog w) A (load s.heap.objs.size >>= λo=>match o.data with|.seq xs _=>pure xs.toList|_=>unsupported "internal:collect") R E { s with heap:=h',toks:=tk,drawn:=dr }:=λh' tk dr a c order j d g i=>by
  refine b7 (wpAny_load d (d8 ?_));rw[i];exact h h' tk dr order j g
 refine bBH u (λB p x=>?_) λe p x=>?_
 ·cases B with
  |done f=>obtain⟨h',tk,dr,a,c,order,e,rfl,j,d,g,i⟩:=x;cases e;exact k h' tk dr a c order j d g i
  |again c₁=>refine⟨x.1,bCI x.2 λq K y=>?_⟩;obtain⟨h',tk,dr,a,c,order,rfl,rfl,j,d,g,i⟩:=y;exact k h' tk dr a c order j d g i
 ·obtain⟨_,_,_,_,_,_,z,_⟩:=x;cases z
end
end PySem
namespace L2
open PySem PySem.Spec PyProof.Rows PySem.Calls
section
variable {X:Cx}
def Inv.drew (I:Inv X bGD σ H s)(dr:Drawn):Inv X bGD σ H { s with drawn:=dr }:=⟨I.ok,I.os,I.bare,I.base,I.loc,I.cell,I.free,I.freeC,I.pin,I.hok,I.len⟩
def aYc (h:RelV (kV k) v):(bU X.prog X.w).is k v=true/\v.scannable=true:=by
 cases k with
 |inl n=>obtain⟨t,rfl⟩:=h;exact⟨aDb n t,rfl⟩
 |inr n=>obtain⟨t,rfl⟩:=h;exact⟨aEb n t,rfl⟩
end
end L2
namespace PySem
open SetTable (Probe bits runEnd leap)
def tmk (m:Nat):SetTable:=⟨m,#[],#[],0,true,0,true⟩
def sq (m:Nat)(p:Probe):Nat->Probe
 |0=>p
 |n+1=>(tmk m).advance (sq m p n)
def hd (m:Nat)(x:Nat × Nat):Probe:=⟨x.1,runEnd m x.1 - x.1,x.1,x.2,none⟩
def x0 (m:Nat)(h:Int):Nat × Nat:=(bits h % (m+1),bits h)
def pj (m:Nat)(h:Int)(n:Nat):Nat:=(sq m (hd m (x0 m h)) n).j
def lp (m:Nat)(x:Nat × Nat):Nat->Nat × Nat
 |0=>x
 |k+1=>leap m (lp m x k).1 (lp m x k).2
theorem aEv (m:Nat)(p:Probe)(a:Nat):∀b,sq m p (a+b)=sq m (sq m p a) b
 |0=>rfl
 |b+1=>congrArg (tmk m).advance (aEv m p a b)
theorem aGb (m:Nat)(x:Nat × Nat):∀k,k<=runEnd m x.1 - x.1->sq m (hd m x) k=⟨x.1+k,runEnd m x.1 - x.1 - k,x.1,x.2,none⟩
 |0,_=>rfl
 |k+1,h=>by unfold sq;rw[aGb m x k (by lia)];unfold SetTable.advance;rw[if_pos (by show runEnd m x.1 - x.1 - k > 0;lia)];rfl
def aG2 (m:Nat)(x:Nat × Nat):sq m (hd m x) (runEnd m x.1 - x.1+1)=hd m (leap m x.1 x.2):=by unfold sq;rw[aGb m x _ (j0 _)];unfold SetTable.advance;rw[if_neg (by show ¬ (runEnd m x.1 - x.1 - (runEnd m x.1 - x.1) > 0);lia)];rfl
def bB2 (m i:Nat):runEnd m i - i<=9:=by unfold runEnd;split <;> lia
def aBi (hi:i<=m)(a:k<=runEnd m i - i):i+k<=m:=by unfold runEnd at a;split at a <;> lia
theorem heads (m:Nat)(x:Nat × Nat):∀k,∃n,n<=10 * k/\sq m (hd m x) n=hd m (lp m x k)
 |0=>⟨0,j0 _,rfl⟩
 |k+1=>by obtain⟨n,b,a⟩:=heads m x k;refine⟨n+(runEnd m (lp m x k).1 - (lp m x k).1+1),by have:=bB2 m (lp m x k).1;lia,?_⟩;rw[aEv,a,aG2];rfl
theorem aTo (m:Nat)(x:Nat × Nat):∀k,(lp m x k).2=x.2 / 32 ^ k
 |0=>by simp[lp]
 |k+1=>by show (lp m x k).2 / 32=_;rw[aTo m x k,Nat.div_div_eq_div_mul,Nat.pow_succ]
theorem aUr (m:Nat)(x:Nat × Nat)(h:x.1<=m):∀k,(lp m x k).1<=m
 |0=>h
 |k+1=>by exact Nat.le_of_lt_succ (Nat.mod_lt _ (Nat.succ_pos m))
def fI (m:Nat):Nat->Nat->Nat
 |0,i=>i
 |k+1,i=>(fI m k i * 5+1) % (m+1)
theorem aB3 (m a i:Nat):∀b,fI m (b+a) i=fI m b (fI m a i)
 |0=>by rw[bFW];rfl
 |b+1=>by rw[show b+1+a=(b+a)+1 by lia];show (fI m (b+a) i * 5+1) % (m+1)=_;rw[aB3 m a i b];rfl
def orb (m:Nat):Nat->Nat->List Nat
 |0,_=>[]
 |k+1,i=>i::orb m k ((i * 5+1) % (m+1))
theorem aSv:∀{n i j:Nat},j∈orb m n i->∃k,k<n/\fI m k i=j
 |n+1,i,j,h=>by
  rcases List.mem_cons.mp h with rfl|h
  ·exact⟨0,Nat.succ_pos _,rfl⟩
  ·obtain⟨k,b,a⟩:=aSv h;exact⟨k+1,Nat.succ_lt_succ b,by rw[aB3 m 1 i k];exact a⟩
def Msk (m:Nat):Prop:=m=7\/m=31\/m=127
def aXg (h:Msk m):(List.range (m+1)).all (λj=>(orb m (m+1) 0).contains j)=true/\fI m (m+1) 0=0:=by rcases h with rfl|rfl|rfl <;> exact⟨by trivial,by trivial⟩
def cyc (h:Msk m)(hi:i<=m)(d:j<=m):∃k,k<=m/\fI m k i=j:=by
 obtain⟨f,e⟩:=aXg h;have at0:∀j,j<=m->∃k,k<m+1/\fI m k 0=j:=λj d=>aSv (by simpa using List.all_eq_true.mp f j (List.mem_range.mpr (by lia)));obtain⟨a,g,rfl⟩:=at0 i hi;obtain⟨b,l,rfl⟩:=at0 j d;by_cases c:a<=b
 ·exact⟨b - a,by lia,by rw[<-aB3,show b - a+a=b by lia]⟩
 ·exact⟨b+(m+1) - a,by lia,by rw[<-aB3,show b+(m+1) - a+a=b+(m+1) by lia,aB3,e]⟩
def aTn (m:Nat)(h:Int):(x0 m h).1<=m/\(x0 m h).2<2 ^ 64:=by refine⟨Nat.le_of_lt_succ (Nat.mod_lt _ (Nat.succ_pos m)),?_⟩;show (h % 2 ^ 64).toNat<2 ^ 64;have a:=bET h (show (0:Int)<2 ^ 64 by decide);have b:=bFU h (show (2 ^ 64:Int)≠0 by decide);lia
theorem aN9 (h:x.2<2 ^ 64):∀k,(lp m x (12+k)).1=fI m k (lp m x 12).1
 |0=>rfl
 |k+1=>by
  show ((lp m x (12+k)).1 * 5+1+(lp m x (12+k)).2 / 32) % (m+1)=(fI m k _ * 5+1) % (m+1);rw[aN9 h k,aTo,Nat.div_div_eq_div_mul,<-Nat.pow_succ];have:x.2 / 32 ^ (12+k+1)=0:=by refine Nat.div_eq_of_lt (bAA h ?_);exact bAE (by decide:2 ^ 64<=32 ^ 13) (Nat.pow_le_pow_right (by decide) (by lia))
  rw[this]
def aPf (d:Msk m)(h:Int)(e:j<=m):∃k,k<=12+m/\(lp m (x0 m h) k).1=j:=by obtain⟨a,b⟩:=aTn m h;obtain⟨k,f,c⟩:=cyc d (aUr m _ a 12) e;exact⟨12+k,by lia,(aN9 b k).trans c⟩
def least {P:Nat->Prop}:∀n,P n->∃k,k<=n/\P k/\∀i,i<k->¬ P i:=by
 intro n
 induction n using Nat.strongRecOn with
 |ind n ih=>
  intro g;by_cases c:∃i,i<n/\P i
  ·obtain⟨i,e,f⟩:=c;obtain⟨k,a,b⟩:=ih i e f;exact⟨k,by lia,b⟩
  ·exact⟨n,j0 _,g,λi d q=>c ⟨i,d,q⟩⟩
theorem pig:∀(n:Nat) (l:List Nat),(∀j,j<n->j∈l)->n<=l.length
 |0,_,_=>bAF _
 |n+1,l,h=>by have a:=h n (bCY _);have:=pig n (l.erase n) λj b=>(List.mem_erase_of_ne (by lia)).mpr (h j (by lia));rw[List.length_erase_of_mem a] at this;have:=List.length_pos_of_mem a;lia
def first {m:Nat}(t:Msk m){l:List Nat}(hl:l.length<=m)(h:Int):∃N,N<10 * (m+15)/\pj m h N∉l/\pj m h N<=m/\∀n,n<N->pj m h n∈l:=by
 obtain⟨j,g,s⟩:∃j,j<=m/\j∉l:=Classical.byContradiction λz=>by have:=pig (m+1) l λj g=>Classical.byContradiction λq=>z ⟨j,by lia,q⟩;lia
 obtain⟨k,u,r⟩:=aPf t h g;obtain⟨n,v,p⟩:=heads m (x0 m h) k;have e:pj m h n=j:=by unfold pj;rw[p];exact r
 obtain⟨N,a,b,c⟩:=least (P:=λn=>pj m h n∉l) n (by rw[e];exact s);refine⟨N,by lia,b,?_,λi o=>Classical.byContradiction (c i o)⟩;refine (?_:∀N,pj m h N<=m) N;intro N;have f:∀N,∃x k,x.1<=m/\k<=runEnd m x.1 - x.1/\sq m (hd m (x0 m h)) N=sq m (hd m x) k:=by
  intro N
  induction N with
  |zero=>exact⟨x0 m h,0,(aTn m h).1,bAF _,rfl⟩
  |succ N ih=>
   obtain⟨x,k,a,b,c⟩:=ih;by_cases d:k+1<=runEnd m x.1 - x.1
   ·exact⟨x,k+1,a,d,congrArg (tmk m).advance c⟩
   ·obtain rfl:k=runEnd m x.1 - x.1:=by lia
    refine⟨leap m x.1 x.2,0,?_,bAF _,(congrArg (tmk m).advance c).trans (aG2 m x)⟩;exact aUr m x a 1
 obtain⟨x,k,a,b,c⟩:=f N;unfold pj;rw[c,aGb m x k b];exact aBi a b
def Rch (m:Nat)(l:List Nat)(h:Int)(j:Nat):Prop:=∃n,pj m h n=j/\∀i,i<n->pj m h i∈l
def Rch.mono (r:Rch m l h j)(s:∀x∈l,x∈l'):Rch m l' h j:=
 let ⟨n,a,b⟩:=r;⟨n,a,λi c=>s _ (b i c)⟩
def below_at (b:Ris xs)(hi:i<xs.size):SetTable.below xs xs[i]=i:=by
 obtain⟨e,c,a⟩:=mD b xs[i];rcases bFD (SetTable.below xs xs[i]) i with h|h|h
 ·have f:=a _ (by lia) (j0 _);have d:=b _ i (by lia) hi h;lia
 ·exact h
 ·have:=c i hi h;lia
def aA9 {t:SetTable}(hd:t.dummies=#[])(f:Ris t.place)(j:Nat):(j∉t.place.toList/\t.slot j=.empty)\/∃i,t.place[i]?=some j/\t.slot j=.live i:=by
 by_cases h:j∈t.place.toList
 ·right;obtain⟨i,c,e⟩:=bBJ h;have a:i<t.place.size:=by simpa using c
  have d:t.place[i]=j:=by simpa using e
  subst d;refine⟨i,j6 a,?_⟩;unfold SetTable.slot;dsimp only;rw[below_at f a,j6 a];simp
 ·left;refine⟨h,?_⟩;unfold SetTable.slot;dsimp only;rw[if_neg,hd]
  ·have:SetTable.has #[] j=false:=by unfold SetTable.has;simp
   rw[this];rfl
  ·intro z;have b:=eq_of_beq z;exact h (by simpa using bDX b)
theorem aDv (f:t.dummies=#[])(m:Ris t.place)(B:pj t.mask h N∉t.place.toList)(x:∀n,n<N->pj t.mask h n∈t.place.toList) :
  ∀(fuel n:Nat),n<=N->N - n<fuel->∃n',n<=n'/\n'<=N/\(∀k i,n<=k->k<n'->t.place[i]?=some (pj t.mask h k)->g i≠h) /\
   ((n'=N/\SetTable.probe.go t g h fuel (sq t.mask (hd t.mask (x0 t.mask h)) n)=some (.empty (pj t.mask h N) none)) \/
   (n'<N/\∃i,t.place[i]?=some (pj t.mask h n')/\g i=h/\SetTable.probe.go t g h fuel (sq t.mask (hd t.mask (x0 t.mask h)) n)=some (.candidate (pj t.mask h n') i (sq t.mask (hd t.mask (x0 t.mask h)) (n'+1)))))
 |0,n,_,hf=>by lia
 |fuel+1,n,hn,hf=>by
  have A:(sq t.mask (hd t.mask (x0 t.mask h)) n).dummy=none:=by
   clear hn hf
   induction n with
   |zero=>rfl
   |succ n ih=>
    unfold sq SetTable.advance
    split
    ·exact ih
    ·exact ih
  unfold SetTable.probe.go;rcases aA9 f m (pj t.mask h n) with⟨a,b⟩|⟨i,a,b⟩
  ·have e:=Nat.le_antisymm hn (Nat.le_of_not_lt λz=>a (x n z));subst e;refine⟨n,j0 _,j0 _,λk i q l=>by lia,.inl ⟨rfl,?_⟩⟩;rw[show t.slot (sq t.mask (hd t.mask (x0 t.mask h)) n).j=.empty from b];dsimp only;rw[A];rfl
  ·have d:=Nat.lt_of_le_of_ne hn λz=>B (by rw[<-z];simpa using bDX a);rw[show t.slot (sq t.mask (hd t.mask (x0 t.mask h)) n).j=.live i from b];dsimp only;by_cases c:g i=h
   ·refine⟨n,j0 _,hn,λk i q l=>by lia,.inr ⟨d,i,a,c,?_⟩⟩;rw[if_pos (beq_iff_eq.mpr c)];rfl
   ·rw[if_neg (by simpa using c)];obtain⟨n',q,l,C,s⟩:=aDv f m B x fuel (n+1) d (by lia);refine⟨n',by lia,l,λk o D y p=>?_,s⟩;by_cases e:k=n
    ·subst e;have:o=i:=by obtain⟨u,w⟩:=Array.getElem?_eq_some_iff.mp p;obtain⟨r,v⟩:=Array.getElem?_eq_some_iff.mp a;rw[<-below_at m u,<-below_at m r,w,v]
     rw[this];exact c
    ·exact C k o (by lia) y p
def aD7 {α β:Type}{R:α->β->Prop}{as:List α}{bs:List β}(h:Paired R as bs):∀{i:Nat} {a:α},as[i]?=some a->∃b,bs[i]?=some b/\R a b:=by
 induction h with
 |nil=>intro i a q;cases q
 |cons r _ ih=>
  intro i a q;cases i with
  |zero=>cases q;exact⟨_,rfl,r⟩
  |succ i=>exact ih q
def aVh {m:Nat}(F:Msk m){w:Array (Option Nat)}{f:List Nat}(ch:∀j,j<=m->((w.getD j (some 0)).isNone=true↔j∉f))(hl:f.length<=m)(h:Int) :
  ∃j,SetTable.layClean.free m w (SetTable.turns m) (bits h % (m+1)) (bits h)=some j/\j<=m/\j∉f/\Rch m f h j:=by
 obtain⟨j,t,C⟩:∃j,j<=m/\j∉f:=Classical.byContradiction λz=>by have:=pig (m+1) f λj t=>Classical.byContradiction λq=>z ⟨j,by lia,q⟩;lia
 obtain⟨K,E,B⟩:=aPf F h t;have r:∀a k,k<=K->K - k<a->(∃n,sq m (hd m (x0 m h)) n=hd m (lp m (x0 m h) k)/\∀i,i<n->pj m h i∈f)->∃j,SetTable.layClean.free m w a (lp m (x0 m h) k).1 (lp m (x0 m h) k).2=some j/\j<=m/\j∉f/\Rch m f h j:=by
  intro a
  induction a with
  |zero=>intro k _ z;lia
  |succ a ih=>
   intro k I D ⟨n,e,u⟩;have b:=aUr m _ (aTn m h).1 k;have g:∀c,c<=runEnd m (lp m (x0 m h) k).1 - (lp m (x0 m h) k).1->pj m h (n+c)=(lp m (x0 m h) k).1+c:=λc l=>by unfold pj;rw[aEv,e,aGb _ _ _ l]
   have v:∀c,c<=runEnd m (lp m (x0 m h) k).1 - (lp m (x0 m h) k).1->(∀d,d<c->(lp m (x0 m h) k).1+d∈f)->∀i,i<n+c->pj m h i∈f:=λc l hd i s=>by
    by_cases z:i<n
    ·exact u i z
    ·have:=hd (i - n) (by lia);rw[<-g (i - n) (by lia),show n+(i - n)=i by lia] at this;exact this
   have G:(lp m (x0 m h) k).1<=runEnd m (lp m (x0 m h) k).1:=by unfold runEnd;split <;> lia
   unfold SetTable.layClean.free;cases p:(List.range (runEnd m (lp m (x0 m h) k).1+1 - (lp m (x0 m h) k).1)).find? λc=>(w.getD ((lp m (x0 m h) k).1+c) (some 0)).isNone with
   |some c=>
    rw[List.find?_range_eq_some] at p;obtain⟨y,A,x⟩:=p;rw[List.mem_range] at A;have l:c<=runEnd m (lp m (x0 m h) k).1 - (lp m (x0 m h) k).1:=by lia
    refine⟨_,rfl,aBi b l,(ch _ (aBi b l)).mp y,n+c,g c l,v c l λd hd=>Classical.byContradiction λz=>?_⟩;have:=x d hd;rw[(ch _ (aBi b (by lia))).mpr z] at this;cases this
   |none=>
    rw[List.find?_range_eq_none] at p;have o:∀d,d<runEnd m (lp m (x0 m h) k).1+1 - (lp m (x0 m h) k).1->(lp m (x0 m h) k).1+d∈f:=λd hd=>Classical.byContradiction λz=>by have:=p d hd;rw[(ch _ (aBi b (by lia))).mpr z] at this;cases this
    have H:k≠K:=λz=>C (by rw[<-B,<-z];exact o 0 (by lia));refine ih (k+1) (by lia) (by lia) ⟨n+(runEnd m (lp m (x0 m h) k).1 - (lp m (x0 m h) k).1+1),by rw[aEv,e,aG2];rfl,λi s=>?_⟩;by_cases z:i<n
    ·exact u i z
    ·have:=o (i - n) (by lia);rw[<-g (i - n) (by lia),show n+(i - n)=i by lia] at this;exact this
 exact r _ 0 (bAF _) (by unfold SetTable.turns;lia) ⟨0,rfl,λi s=>by lia⟩
structure LI (m:Nat)(done:List Int)(js:List Nat)(ow:Array (Option Nat)):Prop where
 sz:ow.size=m+1
 at_:∀j k:Nat,ow[j]?=some (some k)↔js[k]?=some j
 le:∀j∈js,j<=m
 pr:Paired (Rch m js) done js
def LI.ch (L:LI m done js ow)(j:Nat)(hj:j<=m):(ow.getD j (some 0)).isNone=true↔j∉js:=by
 have a:j<ow.size:=by rw[L.sz];lia
 rw[v8,j6 a,bBR];cases e:ow[j] with
 |none=>refine⟨λ_ z=>?_,λ_=>rfl⟩;obtain⟨k,b,q⟩:=bBJ z;have:=(L.at_ j k).mpr (by rw[b8 b,q]);rw[j6 a,e] at this;cases this
 |some k=>exact⟨λz=>(by cases z),λz=>absurd (m8 ((L.at_ j k).mp (by rw[j6 a,e]))) z⟩
def LI.more (L:LI m done js ow)(i:j<=m)(l:j∉js)(r:Rch m js h j):LI m (done++[h]) (js++[j]) (ow.setIfInBounds j (some js.length)):=by
 have g:j<ow.size:=by rw[L.sz];lia
 refine⟨by rw[Array.size_setIfInBounds,L.sz],λf k=>?_,λx d=>?_,?_⟩
 ·by_cases e:j=f
  ·subst e;rw[Array.getElem?_setIfInBounds_self_of_lt g];constructor
   ·intro z;cases z;rw[bAW (j0 _),Nat.sub_self];rfl
   ·intro z;rcases bFD k js.length with c|c|c
    ·rw[bAZ c] at z;exact absurd (m8 z) l
    ·rw[c]
    ·rw[bAD (by rw[bAB];show js.length+1<=k;lia)] at z;cases z
  ·rw[bFE e,L.at_];rcases bFD k js.length with c|c|c
   ·rw[bAZ c]
   ·rw[c,bAW (j0 _),Nat.sub_self,bAD (j0 _)];exact⟨λz=>(by cases z),λz=>absurd (bAH z) e⟩
   ·rw[bAD (by lia),bAD (by rw[bAB];show js.length+1<=k;lia)]
 ·rcases List.mem_append.mp d with z|z
  ·exact L.le x z
  ·rw[List.mem_singleton.mp z];exact i
 ·exact xN (L.pr.mono λa b q=>q.mono λx d=>bBT _ d) (r.mono λx d=>bBT _ d)
theorem aPe (b:Msk m)(c:∀o k h j,SetTable.layClean.free m o (SetTable.turns m) (bits h % (m+1)) (bits h)=some j->f (some (o,k)) h=some (o.setIfInBounds j (some k),k+1)) :
  ∀hs done js ow,LI m done js ow->js.length+hs.length<=m->∃js' ow' k,hs.foldl f (some (ow,js.length))=some (ow',k)/\LI m (done++hs) js' ow'
 |[],done,js,ow,L,_=>⟨js,ow,_,rfl,by rw[bBU];exact L⟩
 |h::hs,done,js,ow,L,hl=>by rw[t6] at hl;obtain⟨j,e,g,d,i⟩:=aVh b L.ch (by lia) h;obtain⟨js',ow',k,q,a⟩:=aPe b c hs (done++[h]) (js++[j]) _ (L.more g d i) (by rw[bAB];show js.length+1+hs.length<=m;lia);refine⟨js',ow',k,?_,by rw[bDC] at a;exact a⟩;rw[List.foldl_cons,c _ _ _ _ e];rw[bAB] at q;exact q
theorem aIs {α:Type}:∀l:List α,(List.range l.length).filterMap (λi=>l[i]?)=l
 |[]=>rfl
 |x::l=>by rw[t6,List.range_succ_eq_map,bCL];simp only[List.getElem?_cons_zero,bEQ,Function.comp_def,Nat.succ_eq_add_one,bEV];rw[aIs l]
def aVl {m:Nat}(T:Msk m)(es:Array (Int × Value))(R:es.size<=m)(fi mv:Nat)(ld pl:Bool):∃place order,SetTable.laid m fi mv ld pl (es.map (·.1))=some (⟨m,place,#[],fi,ld,mv,pl⟩,order)/\Ris place/\(∀j∈place.toList,j<=m) /\
  (order.filterMap (es[·]?)).toList.Perm es.toList/\Paired (λj e=>Rch m place.toList e.1 j) place.toList (order.filterMap (es[·]?)).toList:=by
 have Q:LI m [] [] (Array.replicate (m+1) none):=⟨Array.size_replicate,λj k=>⟨λz=>(by
  rw[Array.getElem?_replicate] at z
  split at z <;> cases z),λz=>(by cases z)⟩,λj u=>(by cases u),.nil⟩
 have A:([]:List Nat).length+(es.map (·.1)).toList.length<=m:=by simpa using R
 obtain⟨s,v,k,e,L⟩:=aPe T (f:=λE h=>do
  let (owner,k) <-E
  let j <-SetTable.layClean.free m owner (SetTable.turns m) (bits h % (m+1)) (bits h)
  pure (owner.setIfInBounds j (some k),k+1)) (λo k h j q=>by show (SetTable.layClean.free m o _ _ _).bind _=_;rw[q];rfl) (es.map (·.1)).toList [] [] _ Q A
 rw[bEO] at L;have J:s.length=es.size:=by rw[<-L.pr.length];simp
 have P:SetTable.layClean m (es.map (·.1))=some v:=by unfold SetTable.layClean;rw[<-Array.foldl_toList];exact congrArg (Option.map (·.1)) e
 have c:∀x:Nat × Nat,x∈(List.range (m+1)).filterMap (λj=>(v.getD j none).map (j,·))↔s[x.2]?=some x.1:=λx=>by
  rw[List.mem_filterMap,<-L.at_];constructor
  ·rintro⟨j,u,q⟩;have n:j<v.size:=by rw[L.sz];exact List.mem_range.mp u
   rw[v8,j6 n,bBR] at q;obtain⟨k,l,rfl⟩:=Option.map_eq_some_iff.mp q;rw[j6 n,l]
  ·intro q;obtain⟨n,l⟩:=Array.getElem?_eq_some_iff.mp q;refine⟨x.1,List.mem_range.mpr (by rw[L.sz] at n;exact n),?_⟩;rw[v8,q];rfl
 generalize C:(List.range (m+1)).filterMap (λj=>(v.getD j none).map (j,·))=live at c;have p:∀j b,(v.getD j none).map (j,·)=some b->b.1=j:=λj b q=>by obtain⟨_,_,rfl⟩:=Option.map_eq_some_iff.mp q;rfl
 have B:live.Pairwise λa b=>a.1<b.1:=by rw[<-C,List.pairwise_filterMap];exact List.pairwise_lt_range.imp λ{a b} G x g y t=>by rw[p a x g,p b y t];exact G
 have K:(live.map (·.2)).Nodup:=by refine List.pairwise_map.mpr ((List.pairwise_and_iff.mpr ⟨B,List.pairwise_iff_forall_sublist.mpr λ{a b} q=>(⟨(c a).mp (q.subset j4),(c b).mp (q.subset (j5 _ j4))⟩:s[a.2]?=some a.1/\s[b.2]?=some b.1)⟩).imp λ{a b} ⟨S,M,O⟩ z=>?_);rw[z,O] at M;have:=bAH M;lia
 have I:(live.map (·.2)).Perm (List.range es.size):=(List.perm_ext_iff_of_nodup K List.nodup_range).mpr λk=>by
  rw[List.mem_map,List.mem_range];constructor
  ·rintro⟨x,g,rfl⟩;rw[<-J];exact (List.getElem?_eq_some_iff.mp ((c x).mp g)).1
  ·intro H;exact⟨(s[k]'(by lia),k),(c _).mpr (b8 _),rfl⟩
 have w:((live.map (·.2)).toArray.filterMap (es[·]?)).toList=live.filterMap λx=>es[x.2]?:=by rw[Array.toList_filterMap];simp only[bEQ,Function.comp_def]
 refine⟨(live.map (·.1)).toArray,(live.map (·.2)).toArray,?_,?_,λj u=>?_,?_,?_⟩
 ·unfold SetTable.laid;rw[P];show some _=_;rw[<-C]
 ·rw[zQ];exact List.pairwise_map.mpr B
 ·obtain⟨x,g,rfl⟩:=List.mem_map.mp u;exact L.le _ (m8 ((c x).mp g))
 ·rw[Array.toList_filterMap];refine (I.filterMap _).trans ?_;have:=aIs es.toList;rw[v9] at this;simp only[bBY] at this;rw[this]
 ·rw[w];have d:∀x∈live,∃e:Int × Value,es[x.2]?=some e/\Rch m (live.map (·.1)) e.1 x.1:=λx g=>by
   have q:=(c x).mp g;have H:x.2<es.size:=by rw[<-J];exact (List.getElem?_eq_some_iff.mp q).1
   refine⟨es[x.2],j6 H,?_⟩;obtain⟨b,l,F⟩:=aD7 L.pr (i:=x.2) (a:=es[x.2].1) (by simp[H]);rw[q] at l;cases l;exact F.mono λy t=>by obtain⟨i,N,z⟩:=bBJ t;exact List.mem_map.mpr ⟨(y,i),(c _).mpr (by rw[b8 N,z]),rfl⟩
  refine (?_:∀D,(∀x∈live,∃e:Int × Value,es[x.2]?=some e/\Rch m D e.1 x.1)->Paired (λj (e:Int × Value)=>Rch m D e.1 j) (live.map (·.1)) (live.filterMap λx=>es[x.2]?)) _ d;clear d w I K B C c;intro D d
  induction live with
  |nil=>exact .nil
  |cons x r ih=>obtain⟨e,l,F⟩:=d x j4;rw[bCL,l];exact .cons F (ih λy t=>d y (j5 _ t))
open SetTable (Probe bits)
section
variable {prog:Program}{w:World}{κ:Type}[DecidableEq κ]{knd:KeyKind prog w κ}{A:Around}{E:bGA}{s:Shared}
structure TI (b:Bool)(t:SetTable)(es:Array (Int × Value)):Prop where
 led:b=false->t.led=true
 dm:t.dummies=#[]
 msk:Msk t.mask
 ris:Ris t.place
 pr:Paired (λj (e:Int × Value)=>Rch t.mask t.place.toList e.1 j) t.place.toList es.toList
 room:5 * es.size<3 * t.mask
def TI.len {b:Bool}{t:SetTable}{es:Array (Int × Value)}(x:TI b t es):t.place.size=es.size:=by have:=x.pr.length;simpa using this
def TI.fits (x:TI b t es):t.fits es.size=true:=by unfold SetTable.fits SetTable.fill;rw[x.len,x.dm];have:=x.room;simp;lia
def TI.tab (x:TI b t es):TabOk b t:=⟨x.led,x.dm,by rcases x.msk with e|e|e <;> lia,λ_=>x.ris⟩
def aD0 (e:Ex h0 h)(x:IsTupleKey knd h0 k a):IsTupleKey knd h k a:=let ⟨o,i,n,ho,r⟩:=x;⟨o,i,n,e _ _ ho,r⟩
variable {T:List κ->Addr->Prop}
def ElT (knd:KeyKind prog w κ)(T:List κ->Addr->Prop)(h0:Heap)(k:List κ)(e:Int × Value):Prop:=∃a,e.2=.ref a/\(IsTupleKey knd h0 k a/\T k a)/\e.1=tupleKeyHash knd k
def ElT.inj (x:ElT knd T h0 k e)(y:ElT knd T h0 k' e):k=k':=by obtain⟨a,d,g,_⟩:=x;obtain⟨b,c,f,_⟩:=y;rw[d] at c;cases c;exact g.1.inj f.1
def cls_val (n:Nat)(h:carriedByValue v=true):ofAClassStatement n v=pure false:=by
 cases v with
 |ref a=>simp[carriedByValue] at h
 |_=>first|rfl|simp[ofAClassStatement]|(unfold ofAClassStatement;rfl)
def aN2 (i:IsTupleKey knd s.heap k a)(h:Q false s):wpAny (model prog w) A (ofAClassStatement 8 (.ref a)) Q E s:=by
 have f:=i.typeIs;obtain⟨o,e,n,j,_,hd,g⟩:=i;unfold ofAClassStatement;refine b7 (bEX f ?_);dsimp only;rw[if_pos (by rfl)];refine b7 (d8 ?_);simp only[Bool.not_true,bBC,if_false];refine b7 (bBG j hd (b7 ?_));rw[<-Array.forIn_toList];refine bFI _ (λb r c=>r.1=none/\c=s/\∀v∈b,carriedByValue v=true) _ ?_ ?_ _ _ ⟨rfl,rfl,g.byValue⟩
 ·rintro v b r c ⟨hr,rfl,hall⟩;rw[cls_val _ (hall v j4)];refine b7 (d8 ?_);simp only[bBC,if_false];exact d8 ⟨rfl,rfl,λu d=>hall u (j5 _ d)⟩
 ·rintro⟨m,l⟩ c ⟨hr,rfl,_⟩;simp only at hr;subst hr;exact d8 h
def aUz (i:IsTupleKey knd s.heap k a)(h:Q false s)(j:∀v∈l,∃b k',v=.ref b/\IsTupleKey knd s.heap k' b):wpAny (model prog w) A (searchCouldBeSeen (.ref a) l) Q E s:=by
 unfold searchCouldBeSeen;refine b7 (bFI _ (λc r d=>r.1=none/\d=s/\∀v∈c,∃b k',v=.ref b/\IsTupleKey knd s.heap k' b) _ ?_ ?_ _ _ ⟨rfl,rfl,j⟩)
 ·rintro v c r d ⟨hr,rfl,hall⟩;have g:∀v∈c,∃b k',v=.ref b/\IsTupleKey knd d.heap k' b:=λu e=>hall u (j5 _ e);obtain⟨b,k',rfl,f⟩:=hall v j4;dsimp only
  split
  ·exact d8 ⟨rfl,rfl,g⟩
  ·refine b7 (wpAny_eqIsQuiet_tuple i ?_);refine b7 (wpAny_eqIsQuiet_tuple f ?_);refine b7 (aN2 i ?_);exact b7 (aN2 f (d8 ⟨rfl,rfl,g⟩))
 ·rintro⟨n,m⟩ d ⟨hr,rfl,_⟩;simp only at hr;subst hr;exact d8 h
def aVy (n:Nat)(h:carriedByValue v=true):∃b,hashByValue n v=pure b:=by
 cases v with
 |ref a=>simp[carriedByValue] at h
 |_=>first|exact⟨_,rfl⟩|exact⟨_,by unfold hashByValue;rfl⟩
def aWq (p:IsTupleKey knd s.heap k a)(h:∀b,Q b s):wpAny (model prog w) A (hashByValue 8 (.ref a)) Q E s:=by
 have i:=p.typeIs;obtain⟨o,g,n,m,_,hd,j⟩:=p;unfold hashByValue;refine b7 (wpAny_specialOf i F.slot_tuple_hash.lookup ?_);dsimp only;refine b7 (bBG m hd (b7 ?_));simp only[bBR];rw[<-Array.forIn_toList];refine bFI _ (λc r d=>d=s/\∀v∈c,carriedByValue v=true) _ ?_ ?_ _ _ ⟨rfl,j.byValue⟩
 ·rintro v c r d ⟨rfl,hall⟩;obtain⟨b,e⟩:=aVy 7 (hall v j4);rw[e];refine b7 (d8 ?_);cases b with
  |true=>exact d8 ⟨rfl,λu f=>hall u (j5 _ f)⟩
  |false=>exact d8 (d8 (h _))
 ·rintro⟨l,q⟩ d ⟨rfl,_⟩;cases l with
  |none=>exact d8 (h _)
  |some r=>exact d8 (h _)
def aDe {xs:Array Nat}(f:Ris xs){i j p:Nat}(a:xs[i]?=some p)(b:xs[j]?=some p):i=j:=by obtain⟨e,d⟩:=Array.getElem?_eq_some_iff.mp a;obtain⟨g,c⟩:=Array.getElem?_eq_some_iff.mp b;rw[<-below_at f e,<-below_at f g,d,c]
def aQ9 (ho:s.heap.get? D=some o)(P:o.data=.set es ep t)(h:TI (byT w) t es)(G:Ex h0 s.heap)(hu:A.units<cLine)(ka:IsTupleKey knd h0 k a)(X:Paired (ElT knd T h0) kl es.toList)
  (a3:k∈kl->Q (.there none) s) (a0:k∉kl->∀j,j∉t.place.toList->Rch t.mask t.place.toList (tupleKeyHash knd k) j->Q (.free j false) s) :
  wpAny (model prog w) A (setSearch D (.ref a) (tupleKeyHash knd k) true) Q E s:=by
 have hf:=h.fits;have ll:t.place.toList.length<=t.mask:=by rw[v9,h.len];have:=h.room;lia
 obtain⟨N,n1,J,_,O⟩:=first h.msk ll (tupleKeyHash knd k)
 have W:∀(f n:Nat) (K:Option Probe),n<=N->N - n<f->K.getD (t.probeStart (tupleKeyHash knd k))=sq t.mask (hd t.mask (x0 t.mask (tupleKeyHash knd k))) n->(∀(l i:Nat) (e:Int × Value),l<n->t.place[i]?=some (pj t.mask (tupleKeyHash knd k) l)->es[i]?=some e->¬ ElT knd T h0 k e) ->
   wpAny (model prog w) A (setSearchFrom D (.ref a) (tupleKeyHash knd k) true f K) Q E s:=by
  intro f
  induction f with
  |zero=>intro n K _ z;lia
  |succ f ih=>
   intro n K hn a1 V L;unfold setSearchFrom;refine b7 (bBS ho P hf ?_);dsimp only;rw[if_neg (by unfold SetTable.gaveWay;rcases h.msk with e|e|e <;> rw[e] <;> decide),V];generalize hp:t.probe _ (tupleKeyHash knd k) (sq t.mask (hd t.mask (x0 t.mask (tupleKeyHash knd k))) n)=pm;have x:SetTable.probe.go t (λi=>(es[i]?.map (·.1)).getD 0) (tupleKeyHash knd k) (10 * SetTable.turns t.mask) (sq t.mask (hd t.mask (x0 t.mask (tupleKeyHash knd k))) n)=pm:=hp;obtain⟨l,m1,m2,m3,H⟩:=aDv (g:=λi=>(es[i]?.map (·.1)).getD 0) h.dm h.ris J O (10 * SetTable.turns t.mask) n hn (by unfold SetTable.turns;lia);have I:∀(d i:Nat) (e:Int × Value),d<l->t.place[i]?=some (pj t.mask (tupleKeyHash knd k) d)->es[i]?=some e->¬ ElT knd T h0 k e:=λd i e F r p C=>by
    by_cases z:d<n
    ·exact L d i e z r p C
    ·refine m3 d i (by lia) F r ?_;rw[p];obtain⟨_,_,_,e'⟩:=C;exact e'
   rcases H with⟨rfl,H⟩|⟨m5,i,m6,m7,H⟩
   ·rw[H] at x;subst x;dsimp only;refine d8 (a0 (λz=>?_) _ J ⟨_,rfl,O⟩);obtain⟨e,F,r⟩:=aHx X k z;obtain⟨i,Y,rfl⟩:=bBJ F;have u:i<es.size:=by simpa using Y
    have B:i<t.place.size:=by rw[h.len];exact u
    obtain⟨b,p,m,C,q5⟩:=aD7 h.pr (i:=i) (a:=t.place[i]) (by simp[B]);rw[b8 Y] at p;cases p;obtain⟨_,_,_,q6⟩:=id r;rw[q6] at C q5;refine I m i _ (Nat.lt_of_not_le λz=>?_) (by rw[C,j6 B]) (by simp[u]) r;rcases bF0 z with z|z
    ·exact J (q5 _ z)
    ·rw[z,C] at J;exact J (by simp[bF7])
   ·rw[H] at x;subst x;dsimp only;have B:=(Array.getElem?_eq_some_iff.mp m6).1;have u:i<es.size:=by rw[<-h.len];exact B
    have S:=j6 u;obtain⟨k',U,a',e1,kb,e2⟩:=wY X es[i] (by simp[bF7]);have sl:t.slot (pj t.mask (tupleKeyHash knd k) l)=.live i:=by
     rcases aA9 h.dm h.ris (pj t.mask (tupleKeyHash knd k) l) with⟨q,_⟩|⟨Z,q,q'⟩
     ·exact absurd (O l m5) q
     ·rw[q',aDe h.ris q m6]
    have M:∀{R:Bool->Shared->Prop},R false s->wpAny (model prog w) A (searchCouldBeSeen (.ref a) ((es.filter (·.1 == tupleKeyHash knd k)).toList.map (·.2))) R E s:=λhR=>aUz (aD0 G ka) hR λv hv=>by obtain⟨e,F,rfl⟩:=List.mem_map.mp hv;rw[Array.toList_filter] at F;obtain⟨k2,_,a2,r,p,_⟩:=wY X e (List.mem_filter.mp F).1;exact⟨a2,k2,r,aD0 G p.1⟩
    generalize es[i]=ee at *;obtain⟨hh,y⟩:=ee;dsimp only at e1;subst e1;cases hl:t.led;all_goals
     first
      |(rw[if_pos (by rfl)];refine b7 (M ?_);rw[if_neg (by decide)])
      |rw[if_neg (by decide)]
     rw[S];dsimp only;refine b7 (bAP (wpAny_eqBool_tuple hu (aD0 G kb.1) (aD0 G ka) ?_));refine b7 (bBS ho P hf ?_);by_cases c:k'=k
     ·rw[v4 c,if_pos (by rfl)];exact d8 (a3 (c ▸ U))
     ·rw[v5 c,if_neg (by decide)];dsimp only;rw[show t.sameMemory t.moves t.mask=some true by unfold SetTable.sameMemory;rw[if_pos (by simp)]];dsimp only;rw[if_pos rfl,sl];dsimp only;rw[S];dsimp only;refine b7 (wpAny_isSame_ref_self ?_);refine b7 (d8 ?_);rw[if_pos rfl];dsimp only;rw[if_neg (by decide)];refine ih (l+1) (some _) m5 (by lia) rfl λd Z e F r p C=>?_;by_cases z:d<l
      ·exact I d Z e z r p C
      ·obtain rfl:d=l:=by lia
       rw[aDe h.ris r m6,S] at p;cases p;exact c ((ElT.inj ⟨a',rfl,kb,e2⟩ C))
 exact W _ 0 none (bAF _) (by rcases h.msk with e|e|e <;> rw[e] at n1 <;> lia) rfl λl i e z=>by lia
theorem aBs {α β:Type}{R:α->β->Prop}{a:α}{b:β}(r:R a b):∀{as:List α} {bs:List β},Paired R as bs->∀p,Paired R (as.take p++a::as.drop p) (bs.take p++b::bs.drop p)
 |_,_,.nil,p=>by rw[bFN,bFN,List.drop_nil,List.drop_nil];exact .cons r .nil
 |_,_,.cons q t,0=>.cons r (.cons q t)
 |_,_,.cons q t,p+1=>.cons q (aBs r t p)
def aH0 {α:Type}(l:List α)(x:α)(p:Nat):(l.take p++x::l.drop p).Perm (l++[x]):=
 List.perm_middle.trans (by rw[List.take_append_drop];exact (List.perm_append_singleton x l).symm)
def SetT (knd:KeyKind prog w κ)(T:List κ->Addr->Prop)(h0 h:Heap)(D:Addr)(kl:List (List κ)):Prop:=∃o es ep t,h.get? D=some o/\o.ExactSet/\o.data=.set es ep t/\TI (byT w) t es/\Paired (ElT knd T h0) kl es.toList
def aSg (ho:s.heap.get? D=some o)(hd:o.data=.set es ep t)(u:t.fits es.size=true)(d:Msk m)(k:SetTable.sizeAbove n=m+1)(r:5 * es.size<3 * m)(l:byT w=false->t.led=true)
  (h:∀es' t',es'.toList.Perm es.toList->TI (byT w) t' es'->Q () { s with heap:=s.heap.update D (Obj.putSet es' t') }):wpAny (model prog w) A (setRelay D n) Q E s:=by
 unfold setRelay;refine b7 (bBS ho hd u ?_);dsimp only;have q:es.size<=m:=by lia
 obtain⟨f,b,i,j,_,g,p⟩:=aVl d es q t.finger (t.movedTo m) t.led t.plain;have c:(b.filterMap (es[·]?)).size=es.size:=by rw[<-v9,g.length_eq,v9]
 rw[if_neg (by rw[k,sizeLine_eq];rcases d with e|e|e <;> lia)];refine b7 (bEU (a:=(b.filterMap (es[·]?),⟨m,f,#[],t.finger,t.led,t.movedTo m,t.plain⟩)) ?_ (wpAny_storeSet_of ho hd (h _ _ g ⟨l,rfl,d,j,p,by rw[c];exact r⟩) (by rw[c,sizeLine_eq];rcases d with e|e|e <;> lia)));rw[show t.relaid (es.map (·.1)) n=some (⟨m,f,#[],t.finger,t.led,t.movedTo m,t.plain⟩,b) by unfold SetTable.relaid;rw[k];exact i];exact if_neg (by simp[c])
def aT0 {D a:Addr}{H:List (List κ)}{k:List κ}{h0:Heap}{Q:Bool->Shared->Prop}(hu:A.units<cLine)(G:Ex h0 s.heap)(V:IsTupleKey knd h0 k a)(hT:T k a)(hS:SetT knd T h0 s.heap D H)(hroom:H.length<76)
  (h:∀h' tk kl' b,Heap.SameBut D s.heap h'->SetT knd T h0 h' D kl'->kl'.Perm (if k∈H then H else H++[k])->Q b { s with heap:=h',toks:=tk }):wpAny (model prog w) A (setAdd D (.ref a)) Q E s:=by
 obtain⟨o,f,ep,t,F,y,hd,g,M⟩:=id hS;have hn:H.length=f.size:=by rw[Paired.length M,v9]
 unfold setAdd;refine bAP (b7 (wpAny_pyHash_tuple hu (aD0 G V) ?_));generalize s.toks+_=tk;unfold setAddHashed setAddHashedIn;refine bAP (b7 (bBS F hd g.fits ?_));dsimp only;rw[if_neg (by unfold byScan;simp[Value.scannable])];refine b7 (aQ9 (s:={ s with toks:=tk }) F hd g G hu V M (λz=>?_) λz j hj hr=>?_)
 ·exact d8 (h s.heap tk H false (Heap.SameBut.refl D s.heap) hS (by rw[if_pos z]))
 ·dsimp only;have bl:=(mD g.ris j).1;have lp:(SetTable.insertAt t.place (SetTable.below t.place j) j).toList=_:=lM _ _ _ bl;have W:(SetTable.insertAt f (SetTable.below t.place j) (tupleKeyHash knd k,Value.ref a)).toList=_:=lM f _ _ (by rw[<-g.len];exact bl);have nj:t.place[SetTable.below t.place j]?≠some j:=λq=>hj (by simpa using bDX q);have u:∀x,x∈t.place.toList->x∈(SetTable.insertAt t.place (SetTable.below t.place j) j).toList:=λx hx=>by rw[lp,(aH0 _ _ _).mem_iff];exact bBT _ hx
  have r:Paired (λi (e:Int × Value)=>Rch t.mask (SetTable.insertAt t.place (SetTable.below t.place j) j).toList e.1 i) (SetTable.insertAt t.place (SetTable.below t.place j) j).toList (SetTable.insertAt f (SetTable.below t.place j) (tupleKeyHash knd k,Value.ref a)).toList:=by
   rw[W];generalize (SetTable.insertAt t.place (SetTable.below t.place j) j).toList=L at lp u ⊢;refine (?_:∀L',L'=L->Paired (λi (e:Int × Value)=>Rch t.mask L e.1 i) L' _) L rfl;rintro L' rfl
   conv=>arg 2;rw[lp]
   exact aBs (R:=λi (e:Int × Value)=>Rch t.mask L' e.1 i) (hr.mono u) (g.pr.mono λ_ _ q=>q.mono u) _
  obtain⟨kl',n,pm⟩:=xG (W ▸ aH0 f.toList _ _:(SetTable.insertAt f (SetTable.below t.place j) (tupleKeyHash knd k,Value.ref a)).toList.Perm _) (xN M (show ElT knd T h0 k (tupleKeyHash knd k,Value.ref a) from ⟨a,rfl,⟨V,hT⟩,rfl⟩));generalize U:SetTable.insertAt f (SetTable.below t.place j) (tupleKeyHash knd k,Value.ref a)=es1 at W r n;have sz:es1.size=f.size+1:=by rw[<-v9,<-Paired.length n,pm.length_eq,bAB,hn];rfl
  have X:∀pt:SetTable × Nat,pt.1.mask=t.mask->pt.1.place=SetTable.insertAt t.place (SetTable.below t.place j) j->pt.1.dummies=#[]->pt.1.led=t.led->pt.2=SetTable.below t.place j->wpAny (model prog w) A (do
    let byValue <-if pt.1.plain then hashByValue 8 (Value.ref a) else pure true
    let t:=if byValue then pt.1 else { pt.1 with plain:=false }
    storeSet D (SetTable.insertAt f pt.2 (tupleKeyHash knd k,Value.ref a)) t
    if !false && t.tooFull then setRelay D (SetTable.grown (f.size+1))
    return true) Q E { s with toks:=tk }:=by
   intro ⟨K,p⟩ f1 f2 f3 f4 f5;dsimp only at f1 f2 f3 f4 f5 ⊢;subst f5;rw[U];have l:∀d:SetTable,d.mask=t.mask->d.place=K.place->d.dummies=#[]->d.led=t.led->wpAny (model prog w) A (do
     storeSet D es1 d
     if !false && d.tooFull then setRelay D (SetTable.grown (f.size+1))
     return true) Q E { s with toks:=tk }:=by
    intro d C J N Z;have tf:d.tooFull=decide (5 * es1.size ≥ 3 * t.mask):=by
     unfold SetTable.tooFull SetTable.fill;rw[C,J,N,f2,<-v9,r.length,v9]
     congr 1
     simp only[d9,bBV,Nat.add_zero];rw[Nat.mul_comm,Nat.mul_comm t.mask]
    have rm:=g.room;have ft:d.fits es1.size=true:=by unfold SetTable.fits SetTable.fill;rw[C,J,N,f2,<-v9,r.length,v9];simp;lia
    have ps:=putSet_of es1 d hd;have I:=bAS (Obj.putSet es1 d) F (by rw[ps];rfl);rw[ps] at I;have B:kl'.Perm (if k∈H then H else H++[k]):=by rw[if_neg z];exact pm
    refine b7 (wpAny_storeSet_of F hd ?_ (by rw[sz,sizeLine_eq];lia));rw[tf];by_cases c:5 * es1.size ≥ 3 * t.mask
    ·rw[v4 c,if_pos (by rfl)];obtain⟨m,m1,m2,m3⟩:∃m,Msk m/\SetTable.sizeAbove (SetTable.grown (f.size+1))=m+1/\5 * es1.size<3 * m:=by
      rcases g.msk with e|e|e <;> rw[e] at c rm
      ·have:f.size=4:=by lia
       exact⟨31,.inr (.inl rfl),by rw[this];decide +kernel,by lia⟩
      ·have:f.size=18:=by lia
       exact⟨127,.inr (.inr rfl),by rw[this];decide +kernel,by lia⟩
      ·lia
     refine b7 (aSg (s:={ s with heap:=s.heap.update D (Obj.putSet es1 d),toks:=tk }) I rfl ft m1 m2 m3 (λq=>by rw[Z];exact g.led q) λv Y q1 q2=>d8 ?_);obtain⟨S,P,O⟩:=xG q1 n;have hg2:=bAS (Obj.putSet v Y) I rfl;exact h _ tk S true ((bBD s.heap D (Obj.putSet es1 d)).trans (bBD _ D (Obj.putSet v Y))) ⟨_,v,_,Y,hg2,y,rfl,q2,P⟩ (O.trans B)
    ·rw[v5 c,if_neg (by decide)];exact d8 (h _ tk kl' true (bBD s.heap D (Obj.putSet es1 d)) ⟨_,es1,_,d,I,y,rfl,⟨λq=>by rw[Z];exact g.led q,N,by rw[C];exact g.msk,by rw[J,f2];exact aM0 g.ris nj,by rw[C,J,f2];exact r,by rw[C];lia⟩,n⟩ B)
   split
   ·refine b7 (aWq (s:={ s with toks:=tk }) (aD0 G V) λb=>?_);cases b with
    |true=>exact l K f1 rfl f3 f4
    |false=>exact l { K with plain:=false } f1 rfl f3 f4
   ·exact b7 (d8 (l K f1 rfl f3 f4))
  refine b7 (bBS F hd g.fits ?_);exact X (t.put j) rfl rfl (by show (if SetTable.has t.dummies j=true then _ else t.dummies)=#[];rw[g.dm,show SetTable.has #[] j=false by unfold SetTable.has;simp];rfl) rfl rfl
end
section
variable {prog:Program}{w:World}{κ:Type}[DecidableEq κ]{knd:KeyKind prog w κ}{T:List κ->Addr->Prop}
def bA8 (hu:A.units+10<cLine)(h0:Heap)(D:Addr):Kset prog w (List κ) A h0 D (λh kl=>SetT knd T h0 h D kl) (λk v=>∃a,v=.ref a/\IsTupleKey knd h0 k a/\T k a) 75:=
 ⟨λ⟨o,B,u,t,m,r⟩ e=>⟨o,B,u,t,e o m,r⟩,λC n ⟨a,e,j,i⟩ l E q=>by subst e;exact aT0 (by lia) n j i l (by lia) λg p d b z x f=>q g p d b z x (by split <;> rename_i c <;> simp only[c,if_true,if_false] at f <;> exact f),
 λs=>⟨_,#[],0,_,s,⟨rfl,rfl,rfl⟩,rfl,⟨λe=>by show (!byT w)=true;rw[e];rfl,rfl,.inl rfl,λa b y=>absurd y (by show ¬ (a<0);lia),.nil,by show 5 * 0<3 * 7;decide⟩,.nil⟩⟩
end
end PySem
namespace L2
open PySem PySem.Spec PyProof.Rows PySem.Calls
def aR2 (w:World)(D:Addr)(as:List Addr):HO:=.ext λh=>∃o es ep t,h.get? D=some o/\o.ExactSet/\o.data=.set es ep t/\t.fits es.size=true/\TabOk (byT w) t/\es.toList.map (·.2)=as.map Value.ref
def aTh (h:pI r):∃k:List Key,r=k.map kV:=by
 induction r with
 |nil=>exact⟨[],rfl⟩
 |cons x r ih=>
  obtain⟨k,rfl⟩:=ih λy a=>h y (j5 _ a);rcases h x j4 with⟨i,rfl⟩|⟨z,rfl⟩
  ·exact⟨.inl i::k,rfl⟩
  ·exact⟨.inr z::k,rfl⟩
def bBw {a b:List Key}(h:a.map kV=b.map kV):a=b:=by
 induction a generalizing b with
 |nil=>cases b with
  |nil=>rfl
  |cons=>cases h
 |cons x a ih=>cases b with
  |nil=>cases h
  |cons y b=>injection h with h1 h2;rw[bAg h1,ih h2]
def aYa (I:Inv X bGD σ H s)(h:SqT X.K H a (k.map kV)):IsTupleKey (bU X.prog X.w) s.heap k a:=by
 obtain⟨b,c,⟨o,e,d,n,hd⟩,z⟩:=I.tuple h;clear z;refine⟨o,_,n,e,d,hd,?_⟩;clear h e d hd
 induction k generalizing b with
 |nil=>cases c;exact .nil
 |cons x k ih=>
  cases c with
  |cons p q=>exact .cons (aYc p).1 (ih _ q)
def bDz (w:World)(K:bF9):List V->Hp->VK->Prop:=λxs H Q=>∃p us rs,xs=[.ref p]/\SqL K H p us/\Al2 (dJ K H) us rs/\(∀r∈rs,pI r)/\us.length<=75/\∀D H' as qs,H D=none->Same H H'->H' D=some (aR2 w D as)->Al2 (dJ K H) (as.map .ref) qs->Ded qs rs->Q (.ref D) H'
def aRh (hc:X.calm=true)(hU:X.A.units+64<cLine):cA X (.type "set") (bDz X.w X.K):=by
 intro a1 s σ H xs a0 Q I r h;obtain⟨p,us,J,rfl,hq,F,W,hl,q⟩:=h;obtain⟨u,rfl,rx⟩:=r.one;cases rx;obtain⟨O,rv,pl,hz⟩:=I.list hq;have n:=rv.length;have m:=F.len;obtain⟨ks,rfl⟩:∃ks:List (List Key),J=ks.map (·.map kV):=by
  clear F m q
  induction J with
  |nil=>exact⟨[],rfl⟩
  |cons r J ih=>obtain⟨ks,rfl⟩:=ih λy hy=>W y (j5 _ hy);obtain⟨k,rfl⟩:=aTh (W r j4);exact⟨k::ks,rfl⟩
 rw[j7] at m;refine aEm (ks:=ks) (I.ok.hd hc) (bA8 (knd:=bU X.prog X.w) (T:=λk a=>dJ X.K H (.ref a) (k.map kV)) (by lia) s.heap s.heap.objs.size) pl.isList (by rw[d9];lia) (λi v hv=>?_) (by rw[d9,<-n];exact hl) λh' tk kl x C kp=>?_
 ·have B:O[i]?=some v:=by simpa using hv
  have R:i<ks.length:=by have:=(List.getElem?_eq_some_iff.mp B).1;lia
  have j:i<us.length:=by lia
  obtain⟨u,S,Z⟩:=rv.get (b8 j);rw[B] at S;cases S;have c:=F.get (b8 j) (show (ks.map (·.map kV))[i]?=some (ks[i].map kV) by rw[t7,b8 R];rfl);obtain⟨a,E,ha⟩:=id c;rw[E] at Z c;cases Z;exact⟨ks[i],b8 R,a,rfl,aYa I ha,c⟩
 ·obtain⟨o,D,N,t,Y,L,hd,M,P⟩:=x;obtain⟨d,E,G⟩:∃d:List Addr,D.toList.map (·.2)=d.map Value.ref/\Al2 (dJ X.K H) (d.map .ref) (kl.map (·.map kV)):=by
   clear C q M hd;generalize D.toList=l at P
   induction P with
   |nil=>exact⟨[],rfl,.nil⟩
   |cons r _ ih=>obtain⟨d,f,g⟩:=ih;obtain⟨a,e1,⟨_,ht⟩,_⟩:=r;exact⟨a::d,by rw[bAI,bAI,e1,f],.cons ht g⟩
  have V:H s.heap.objs.size=none:=I.hok.fresh (j0 _);refine⟨.ref s.heap.objs.size,_,I.laid (t':=tk) (o:=aR2 X.w s.heap.objs.size d) (λb o U=>kp b o (m9 U) U) (j0 _) ⟨⟨o,D,N,t,Y,L,hd,M.fits,M.tab,E⟩,⟨o,Y⟩,λf g ⟨o,D,N,t,y,z⟩ k=>⟨o,D,N,t,k o y,z⟩⟩,rfl,q _ _ d _ V (aO V _) aG G ⟨?_,λk=>?_,?_⟩⟩
  ·exact List.pairwise_map.mpr (C.1.imp λh e=>h (bBw e))
  ·rw[List.mem_map,List.mem_map];exact⟨λ⟨x,f,g⟩=>⟨x,(C.2.1 x).mp f,g⟩,λ⟨x,f,g⟩=>⟨x,(C.2.1 x).mpr f,g⟩⟩
  ·rw[j7,j7];exact C.2.2
def aRf (w:World)(K:bF9):List V->Hp->VK->Prop:=λxs H Q=>∃D as rs ks,xs=[.ref D]/\H D=some (aR2 w D as)/\Al2 (dJ K H) (as.map .ref) rs/\as.length<64/\ks≠[]/\(∀r∈rs,KdR ks r) /\
 ∀B H' us',H B=none->Same H H'->H' B=some (.lst us')->Al2 (dJ K H) us' (srt rs)->Q (.ref B) H'
def aSm {α β:Type}{R:α->β->Prop}{as' as:List α}(p:as'.Perm as):∀{bs:List β},Al2 R as bs->∃bs',Al2 R as' bs'/\bs'.Perm bs:=by
 induction p with
 |nil=>intro bs h;exact⟨bs,h,.refl _⟩
 |cons x _ ih=>
  intro bs h;cases h with
  |cons r t=>obtain⟨bs',b,a⟩:=ih t;exact⟨_,.cons r b,a.cons _⟩
 |swap x y l=>
  intro bs h;cases h with
  |cons r t=>
   cases t with
   |cons r2 t2=>exact⟨_,.cons r2 (.cons r t2),.swap ..⟩
 |trans _ _ ih1 ih2=>intro bs h;obtain⟨f,b,a⟩:=ih2 h;obtain⟨c,e,d⟩:=ih1 b;exact⟨c,e,d.trans a⟩
def aB6 (hc:X.calm=true):cA X (.builtin "sorted") (aRf X.w X.K):=by
 intro Y s σ H xs a1 Q I r h;obtain⟨D,N,a0,ks,rfl,hD,L,a2,T,P,q⟩:=h;obtain⟨u,rfl,rx⟩:=r.one;cases rx;obtain⟨o,es,ep,t,ho,O,hd,hf,S,Z⟩:=(I.hok D _ hD).1;have hl:es.size=N.length:=by have:=congrArg List.length Z;simpa using this
 refine call_function_entry kind_sorted plain_sorted entry_sorted (args_sorted1 _) ?_;unfold Builtin.«sorted»;refine b7 (m:=checkCount "sorted" 1 1 _) (d8 (b7 (aGj (A:=X.A.in1) (I.ok.hd hc) ⟨o,ho,O,hd,hf⟩ S (by lia) λy F U d hk hp=>?_)));obtain⟨c,e1,R⟩:∃c:List Addr,d.map (·.2)=c.map Value.ref/\c.Perm N:=by
  have E:(d.map (·.2)).Perm (N.map Value.ref):=Z ▸ hp.map _;have p:∀v∈d.map (·.2),∃a,v=Value.ref a:=λv M=>by obtain⟨a,_,e⟩:=List.mem_map.mp (E.mem_iff.mp M);exact⟨a,e.symm⟩
  generalize d.map (·.2)=l at E p;have un:∃c:List Addr,l=c.map Value.ref:=by
   clear E
   induction l with
   |nil=>exact⟨[],rfl⟩
   |cons v l ih=>obtain⟨c,rfl⟩:=ih λv M=>p v (j5 _ M);obtain⟨a,rfl⟩:=p v j4;exact⟨a::c,rfl⟩
  obtain⟨c,rfl⟩:=un;refine⟨c,rfl,?_⟩;have:=E.filterMap λv=>match v with|Value.ref a=>some a|_=>none
  simpa [bEQ,Function.comp_def] using this
 rw[e1];obtain⟨g,x,G⟩:=aSm (R.map V.ref) L;have n:∀r∈g,KdR ks r:=λr x=>P r (G.mem_iff.mp x);have ul:=R.length_eq;have rv:Vals (c.map .ref) (c.map Value.ref):=by
  clear x g G n R ul e1
  induction c with
  |nil=>exact .nil
  |cons a c ih=>exact .cons rfl ih
 have rl:g.length=c.length:=by have:=x.len;rw[j7] at this;exact this.symm
 have J:Inv X Y σ H { s with heap:=y,toks:=F,drawn:=U }:=(I.kept (t':=F) hk).drew U;have e3:=aT8 n G;refine b7 (wpAny_newList ?_ (by rw[sizeLine_eq,j7];lia));have k:(y.push (seqObj "list" (c.map Value.ref).toArray 0)).get? y.objs.size=some (seqObj "list" (c.map Value.ref).toArray 0):=j8 _ rfl;refine b7 (bAP (bAL slot_list_sort ⟨_,k,rfl⟩ entry_list_sort (PySem.W.nZ (f:=λi j=>rlt (g.getD i []) (g.getD j [])) (s:={ s with heap:=y.push (seqObj "list" (c.map Value.ref).toArray 0),toks:=F,drawn:=U }) k (by rw[j7];lia) (λh2 h' kp=>aI5 J rv x T n _ h2 h' λb o e=>kp b o (v7 (m9 e)) (d7 _ e)) ⟨_,rfl,d8 ⟨_,rfl,?_⟩⟩) (args_list_sort _)));obtain⟨e,he⟩:=sortedHeap_at (out:=List.toArray ((PySem.W.dY (c.map Value.ref).length λi j=>rlt (g.getD i []) (g.getD j [])).map λi=>(c.map Value.ref).getD i Value.none)) k;have B:H y.objs.size=none:=J.hok.fresh (j0 _);have C:∀i∈PySem.W.dY g.length (λi j=>rlt (g.getD i []) (g.getD j [])),i<(c.map V.ref).length:=λi hi=>by have:=PySem.W.mF hi;rw[j7];lia
 refine⟨.ref y.objs.size,_,J.laid (t':=F) (o:=.lst ((PySem.W.dY g.length λi j=>rlt (g.getD i []) (g.getD j [])).map λi=>(c.map V.ref).getD i .non)) (λb o q=>?_) (j0 _) ?_,rfl,q _ _ _ B (aO B _) aG (e3 ▸ aC7 x _ C)⟩
 ·have z:=m9 q;show (sortedHeap _ _ _ _).get? b=some o;rw[sortedHeap_old (v7 z) (by rw[size_push'];exact bCJ z)];exact d7 _ q
 ·refine⟨small (by rw[j7,PySem.W.qI];lia),_,e,?_,he⟩;rw[j7,<-rl];exact aEp rv _ C
end L2
namespace My
open PySem PySem.Spec PyProof.Rows L2
section
variable {P:Program}{w:World}{K:bF9}{mg:bGC}{base:Heap}
def gZ.tk (e:TK K H H')(h:gZ K H v c):gZ K H' v c:=by obtain⟨p,rfl,a⟩:=h;exact⟨p,rfl,e _ _ a⟩
def zP.tk (e:TK K H H')(h:zP K H v pl):zP K H' v pl:=by
 cases pl with
 |copies=>obtain⟨a,rfl,b⟩:=h;exact⟨a,rfl,e _ _ b⟩
 |keys n=>obtain⟨a,rfl,b⟩:=h;exact⟨a,rfl,e _ _ b⟩
 |spans n h0 cs=>obtain⟨a,c,rfl,b,d⟩:=h;exact⟨a,c,rfl,e _ _ b,aNw e (λ_ _ z=>z.tk e) d⟩
structure KP (K:bF9)(S:Addr->Prop)(H H':Hp):Prop where
 st:∀b o,S b->H b=some o->H' b=some o
 tk:TK K H H'
section
variable {S:Addr->Prop}{H H':Hp}
def KP.same (s:Same H H'):KP K S H H':=⟨λb o _ h=>s b o h,.of s⟩
def KP.trans (k:KP K S H H')(l:KP K S H' H2):KP K S H H2:=⟨λb o h e=>l.st b o h (k.st b o h e),λp a e=>l.tk p a (k.tk p a e)⟩
def KP.bEd (d:eE H D)(n:¬ S D):KP K S H (L2.upd H D u):=⟨λb o h e=>by have a:b≠D:=λz=>n (z ▸ h);rw[aM a];exact e,λp c e=>But.bC But.upd d e⟩
def KP.fx (f:Fx a H H')(h:fM H a)(n:¬ S a):KP K S H H':=⟨λb o c e=>f.same b o (λz=>n (z ▸ c)) e,f.tk h⟩
def KP.mono (k:KP K S H H')(h:∀b,S' b->S b):KP K S' H H':=⟨λb o s e=>k.st b o (h b s) e,k.tk⟩
def cF.kp (k:KP K S H H')(s:S L)(h:cF K H L rs):cF K H' L rs:=by obtain⟨b,d,a⟩:=h;exact⟨b,k.st _ _ s d,a.imp λ_ _ ⟨p,e,c⟩=>⟨p,e,k.tk _ _ c⟩⟩
end
def lU.kp (k:KP K S H H')(s:S L)(h:lU K H v vh vp L t):lU K H' v vh vp L t:=by obtain⟨a,e,c,b,d,f⟩:=h;exact⟨a,e,k.tk _ _ c,b.tk k.tk,d.tk k.tk,f.kp k s⟩
def eQ.kp (k:KP K S H H')(b:S d)(c:∀e∈es,S e.L)(h:eQ K H d es):eQ K H' d es:=⟨k.st _ _ b h.at_,h.nd,h.few,h.nm,λe a=>(h.tb e a).kp k (c e a)⟩
def nD (h:n<1000):n<sizeLine:=bAA h (by decide)
def aXs {hd:Hdr}{r:List V}(h:qR hd r):pI r:=λx a=>aZe (aAx h) x a
def aOe {α:Type}{xs:List α}{x:α}(h:xs[xs.length - 1]?=some x):atI xs (-1)=some x:=by have a:=(List.getElem?_eq_some_iff.mp h).1;unfold atI ixN;rw[if_neg (by decide),if_pos (by lia)];rw[show ((-1:Int)+(xs.length:Int)).toNat=xs.length - 1 by lia];exact h
def aQ8 {α β:Type}{R:α->β->Prop}{as:List α}{bs:List β}(h:dO R as bs):∀n,dO R (as.take n) (bs.take n):=by
 induction h with
 |nil=>intro n;rw[bFN,bFN];exact .nil
 |cons r _ ih=>
  intro n;cases n with
  |zero=>exact .nil
  |succ n=>exact .cons r (ih n)
def aX.kp (k:KP K S H H')(b:S x)(c:S d)(a:∀e∈es,S e.L)(h:aX K H C x m d dm es):aX K H' C x m d dm es:=
 ⟨let ⟨dx,h1⟩:=h.at_;⟨dx,k.st _ _ b h1⟩,h.ens.kp k c a,h.ok,h.ne⟩
def aX.mv (h:aX K H C x m d dm es)(g:H dm=some (.dK kvs)):KP K (λb=>b≠dm) H (L2.upd H dm (.dK kvs'))/\aX K (L2.upd H dm (.dK kvs')) C x m d dm es:=by
 have k:KP K (λb=>b≠dm) H (L2.upd H dm (.dK kvs')):=.bEd (eE.dK g) λz=>z rfl;refine⟨k,h.kp k (λz=>?_) h.ne λe f z=>?_⟩
 ·obtain⟨i,a⟩:=h.at_;rw[z,g] at a;cases a
 ·obtain⟨_,_,_,_,_,j,c,_⟩:=h.ens.tb e f;rw[z,g] at c;cases c
def Mvs (K:bF9)(H:Hp)(dm:Addr)(f:Str->Option Mv)(j:Nat):Prop:=∃kvs,H dm=some (.dK kvs)/\kvs.length<=j/\∀n,∃v,eO kvs (Sum.inr n)=mvO (f n) v/\MvV K H v (f n)
def fset (f:Str->Option Mv)(n:Str)(o:Option Mv):Str->Option Mv:=λx=>if x=n then o else f x
def MvV.tk (k:∀p xs,SqT K H p xs->SqT K H' p xs)(h:MvV K H v o):MvV K H' v o:=by
 cases o with
 |none=>exact h
 |some q=>exact aI0.tk k h
def Mvs.d (h:Mvs K H dm f j)(n:Str)(e:f n=o):MvD K H dm n o:=by obtain⟨a,g,_,i⟩:=h;obtain⟨v,c,b⟩:=i n;rw[e] at c b;exact⟨a,v,g,c,b⟩
def Mvs.kp (e:∀u,H dm=some u->H' dm=some u)(tk:∀p xs,SqT K H p xs->SqT K H' p xs)(h:Mvs K H dm f j):Mvs K H' dm f j:=by obtain⟨a,c,b,d⟩:=h;exact⟨a,e _ c,b,λn=>let ⟨v,h4,h5⟩:=d n;⟨v,h4,h5.tk tk⟩⟩
def Mvs.same (s:Same H H')(h:Mvs K H dm f j):Mvs K H' dm f j:=h.kp (λu h=>s _ _ h) λ_ _=>s.bC
def aX6 (kvs:List (Key × V))(k:Key)(v:V):(putK kvs k v).length<=kvs.length+1:=by
 unfold putK
 split
 ·rw[j7];lia
 ·rw[bAB];exact j0 _
def Mvs.put (g:H dm=some (.dK kvs))(h:Mvs K H dm f j)(o:aI0 K H v q):Mvs K (L2.upd H dm (.dK (putK kvs (Sum.inr n) v))) dm (fset f n (some q)) (j+1):=by
 obtain⟨b,c,r,i⟩:=h;rw[g] at c;cases c;have d:∀p a,SqT K H p a->SqT K (L2.upd H dm (.dK (putK kvs (Sum.inr n) v))) p a:=λp a e=>But.bC But.upd (eE.dK g) e;refine⟨_,aG,bAE (aX6 _ _ _) (by lia),λm=>?_⟩;by_cases e:m=n
 ·subst e;refine⟨v,?_,?_⟩
  ·rw[aH7,if_pos rfl];unfold fset;rw[if_pos rfl];rfl
  ·unfold fset;rw[if_pos rfl];exact aI0.tk d o
 ·obtain⟨u,k,l⟩:=i m;refine⟨u,?_,?_⟩
  ·rw[aH7,if_neg λz=>e (Sum.inr.inj z)];unfold fset;rw[if_neg e];exact k
  ·unfold fset;rw[if_neg e];exact l.tk d
theorem vY (k j:Key):∀kvs:List (Key × V),eO (jZ kvs k) j=if j=k then none else eO kvs j
 |[]=>by split <;> rfl
 |p::r=>by
  have a:=vY k j r;by_cases e:p.1=k
  ·rw[aQl e,a];by_cases z:j=k
   ·rw[if_pos z,if_pos z]
   ·rw[if_neg z,if_neg z,cO λq=>z (q.symm.trans e)]
  ·rw[aRa e];by_cases z:p.1=j
   ·rw[dM z,dM z,if_neg λq=>e (z.trans q)]
   ·rw[cO z,cO z,a]
def Mvs.drop (g:H dm=some (.dK kvs))(h:Mvs K H dm f j):Mvs K (L2.upd H dm (.dK (jZ kvs (Sum.inr n)))) dm (fset f n none) j:=by
 obtain⟨b,c,k,d⟩:=h;rw[g] at c;cases c;have o:∀p a,SqT K H p a->SqT K (L2.upd H dm (.dK (jZ kvs (Sum.inr n)))) p a:=λp a e=>But.bC But.upd (eE.dK g) e;refine⟨_,aG,bAE (aHq _ _) k,λm=>?_⟩;by_cases e:m=n
 ·subst e;refine⟨.non,?_,?_⟩
  ·rw[vY,if_pos rfl];unfold fset;rw[if_pos rfl];rfl
  ·unfold fset;rw[if_pos rfl];rfl
 ·obtain⟨u,i,l⟩:=d m;refine⟨u,?_,?_⟩
  ·rw[vY,if_neg λz=>e (Sum.inr.inj z)];unfold fset;rw[if_neg e];exact i
  ·unfold fset;rw[if_neg e];exact l.tk o
def iI (num:Nat)(h0:Int)(cs:List (V × Int)):Int:=(((V.non,h0)::cs).map (·.2)).getD num 0
inductive aPg (K:bF9)(C CT CS CH CB:Addr)(vs:List V)(H:Hp)(Q:VK)(E:XK):Prop
 |mk (x d dm:Addr) (m:Int) (es:List En) (v vn vh:V) (f:Str->Option Mv) (j:Nat) (_:vs=[.ref x,v,vn,vh]) (_:aX K H C x m d dm es) (_:Mvs K H dm f j) (_:(aJ1 K CT CS E H es v\/∃(e:En) (n:Str) (h0:Int) (cs:List (V × Int)),v=.str e.n/\e∈es/\e.t.pl=.spans n h0 cs /\
 ((∃t,dD K H vn t/\jC (cs.length+1:Nat) t=false/\Rf H E CS)\/∃num:Nat,vn=.int num/\num<=cs.length/\((∃t,dD K H vh t/\(jC m t=false\/t=.int (iI num h0 cs))/\Rf H E CH) \/
  ∃house:Int,vh=.int house/\0<=house/\house<m/\house≠iI num h0 cs/\(f e.n≠none->Rf H E CB)/\(f e.n=none->j<900/\∀H',KP K (λb=>b≠dm) H H'->aX K H' C x m d dm es->Mvs K H' dm (fset f e.n (some ⟨num,house,none⟩)) (j+1)->Q .non H')))))
def aUf (T:Txt w K mg){C CT CS CH CB S:Addr}(G:ExT K mg dR "NoSpan" "ShardError.__init__" CS S)(y:ExT K mg dR "NoHouse" "ShardError.__init__" CH S)(c:Cls K C)(D:eV K C "lend" "Store.lend" nF bQC)(L:bN K C "house_count")(n3:bN K C "moves")(cL:Ok P w K mg base 2 "is_number_below" bQF (qL K))(l:cZ P w K mg base C 4 "cut_table" n6 (uH K C CT CS))(g:cZ P w K mg base C 3 "need_still" n6 (aBp K C CB)):cZ P w K mg base C 5 "lend" bQC (aPg K C CT CS CH CB):=by
 refine cZ.ofV c D rK (by trivial) (λf a4 A a3 s H vs Q E U h=>?_)
 obtain⟨x,d,dm,m,es,v,vn,vh,fm,j,rfl,O,J,h⟩:=h;have hu:=jD U;have hinit:=λ{fI:Addr}=>hinit T fI;have nd:=rK.nd;refine⟨_,(aB (aY 4 (aU aR (aU aR (cJ (l.mono (by decide)) U dB (vv 0) (va1 (vv 1))) aA) aA)) (aB (bM (cC (bR (bB cL (aF (vv 2) (va1 (aL bA (by rfl) T.eU cN (va1 (vv 4)))))))) (aD (fH G (λfI fd F=>gK (k:=0) F gU hinit) (U.mono (by decide)) dX rfl (by rfl) (va1 cD))) aQ) (aB (bM (VW.pt (gB (cC (bR (bB cL (aF (vv 3) (va1 (cR (K:=K) (vv 0))))))) (fG (eG cW (vv 3) (aU aR (aU aR (vv 4) (vv 2)) aA))))) (aD (fH y (λfI fd F=>gK (k:=0) F gU hinit) (U.mono (by decide)) dX rfl (by rfl) (va1 cD))) aQ) (aB (eF (cJ (g.mono (by decide)) U dB (vv 0) (va1 (vv 1)))) (aD (mY hu (cR (K:=K) (vv 0)) (vv 1) (bL (aF (vv 2) (aF (vv 3) (va1 cD)))))))))),?_⟩;obtain⟨dx,hx⟩:=O.at_;refine⟨_,rfl,x,dx,_,rfl,hx,rfl,_,rfl,x,d,dm,m,es,v,rfl,O,?_⟩;rcases h with h|⟨e,n,h0,cs,rfl,he,R,h⟩
 ·exact .inr h
 refine .inl ⟨e,n,h0,cs,rfl,he,R,λH1 o=>?_⟩;obtain⟨a,ev,ha,h1,h2,h3⟩:=(O.ens.tb e he).same o;rw[R] at h2;obtain⟨b,vc,eb,hb,⟨ca,r,rfl,u,Z⟩⟩:=h2;have lu:=Z.len;rw[t6] at lu;refine⟨a,_,1,_,ev,rfl,ha,at1 _ _ _,b,_,2,_,eb,rfl,hb,at2 _ _ _ _,?_⟩;rcases h with⟨t,ht,I,N⟩|⟨num,rfl,hn,h⟩
 ·refine⟨_,rfl,_,rfl,ca,r,rfl,.inr u,vn,t,(r.length:Int),rfl,ht.same o,_,rfl,?_⟩;rw[show jC (r.length:Int) t=false by rw[lu];exact I];exact cP ⟨rfl,λa X n1 L ne=>N a _ (o.trans (aO L _))⟩
 refine⟨_,rfl,_,rfl,ca,r,rfl,.inr u,.int num,.int num,(r.length:Int),rfl,.int,_,rfl,?_⟩;rw[aDa (m:=(r.length:Int)) (i:=(num:Int)) (by lia) (by lia)];refine bZ ?_;have B:num<r.length:=by lia
 obtain⟨c0,a0,pc,W,Y⟩:=bW Z (b8 B);have ch:iI num h0 cs=c0.2:=by unfold iI;rw[j9,t7,a0];rfl
 rcases h with⟨t,ht,I,N⟩|⟨house,rfl,b0,b1,hne,N,h⟩
 ·refine⟨_,rfl,_,rfl,x,C,dx,_,_,rfl,o _ _ hx,c,L,rfl,vh,t,m,rfl,ht.same o,_,rfl,?_⟩;cases a2:jC m t with
  |false=>exact cP ⟨rfl,λa X n1 L ne=>N a _ (o.trans (aO L _))⟩
  |true=>
   have et:t=.int (iI num h0 cs):=I.resolve_left (by rw[a2];exact Bool.noConfusion);rw[et] at ht;have ev:vh=.int (iI num h0 cs):=by cases ht;rfl
   rw[ev,ch];exact bZ ⟨_,rfl,_,rfl,_,rfl,ca,r,_,r[num],rfl,rfl,u,bO (b8 B),pc,_,1,_,W,rfl,Y,at1 _ _ _,rfl,_,rfl,dZ (v4 rfl) ⟨rfl,λa X n1 L ne=>N a _ (o.trans (aO L _))⟩⟩
 refine⟨_,rfl,_,rfl,x,C,dx,_,_,rfl,o _ _ hx,c,L,rfl,.int house,.int house,m,rfl,.int,_,rfl,?_⟩;rw[aDa b0 b1];refine bZ ?_;refine⟨_,rfl,_,rfl,_,rfl,ca,r,_,r[num],rfl,rfl,u,bO (b8 B),pc,_,1,_,W,rfl,Y,at1 _ _ _,rfl,_,rfl,dU (v5 λz=>hne (ch ▸ V.int.inj z)) ?_⟩;refine⟨_,rfl,x,dx,_,rfl,o _ _ hx,rfl,_,rfl,x,d,dm,m,es,e.n,fm e.n,rfl,O.same o,(J.d e.n rfl).same o,λM=>?_,λM=>(N M).same o⟩;obtain⟨hj,q⟩:=h M;refine⟨_,rfl,_,rfl,by show 3<=sizeLine;decide,λt2 H2 _ s2 g2=>?_⟩;have p:=o.trans s2;obtain⟨a1,gm,lk,_⟩:=id (J.same p);obtain⟨k1,k2⟩:=(O.same p).mv (kvs':=putK a1 (Sum.inr e.n) (.ref t2)) gm;refine⟨_,rfl,x,C,dx,_,_,rfl,p _ _ hx,c,n3,rfl,_,rfl,dm,_,rfl,aI9.k (k:=Sum.inr e.n) gm (nD (by lia)),?_⟩;exact q _ ((KP.same p).trans k1) k2 ((J.same p).put gm ⟨t2,.non,rfl,SqT.of g2,rfl⟩)
def jF (t:Tb)(n:Str)(cs:List (V × Int))(num:Nat)(o:Option (List V)):List (List V):=t.rows.filter λr=>aF6 o r && aD5 t.hd n cs num r
def bEi (K:bF9)(C:Addr)(vs:List V)(H:Hp)(Q:VK):Prop:=∃(x d dm:Addr) (m:Int) (es:List En) (e:En) (mq:Mv) (n:Str) (h0:Int) (cs:List (V × Int)) (k:Nat) (f:Str->Option Mv) (j:Nat),vs=[.ref x,.str e.n,.int k]/\aX K H C x m d dm es/\e∈es/\Mvs K H dm f j/\f e.n=some mq/\j<900/\e.t.pl=.spans n h0 cs/\(∀q,mq.mark=some q->qR e.t.hd q) /\
 ∀qs,Ded qs (jF e.t n cs mq.num mq.mark)->(((srt qs).take k=[]->∀H',Same H H'->Q (.int 0) H')/\∀r,((srt qs).take k).getLast?=some r->∀H',KP K (λb=>b≠dm) H H'->aX K H' C x m d dm es->Mvs K H' dm (fset f e.n (some { mq with mark:=some r })) (j+1)->Q (.int ((jF e.t n cs mq.num mq.mark).length - (jF e.t n cs mq.num (some r)).length)) H')
def aZo (K:bF9)(C CT CS CM:Addr)(E:XK)(H:Hp)(x:Addr)(v:V):Prop:=∃d dm m es,aX K H C x m d dm es/\(aJ1 K CT CS E H es v\/∃e n h0 cs,v=.str e.n/\e∈es/\e.t.pl=.spans n h0 cs/\MvD K H dm e.n none/\Rf H E CM)
def aHs (K:bF9)(C CT CS CM:Addr):Sp:=λvs H Q E=>bEi K C vs H Q\/∃x v vk,vs=[.ref x,v,vk]/\aZo K C CT CS CM E H x v
def aQv (T:Txt w K mg){C CT CS CM:Addr}(c:Cls K C)(D:eV K C "carry" "Store.carry" lK bQN)(n3:bN K C "moves")(o:cZ P w K mg base C 4 "cut_table" n6 (uH K C CT CS))(y:cZ P w K mg base C 3 "move_of" n6 (vK K C CM))(g:OkM P w K mg base C 4 "rows_to_come" n6 (aL9 K C)):cZ P w K mg base C 5 "carry" bQN (aHs K C CT CS CM):=by
 refine cZ.ofV c D pJ (λvs H Q E h=>?_) (λf ax A ar s H vs Q E hr h=>?_)
 ·rcases h with⟨x,d,F,m,W,e,l,n,h0,L,k,fm,j,rfl,_⟩|⟨x,v,vk,rfl,_⟩ <;> rfl
 have hu:=jD hr;have hU:=hr.units;have nd:=pJ.nd;refine⟨_,(aB (eF (cJ (o.mono (by decide)) hr dB (vv 0) (va1 (vv 1)))) (aB (aY 3 (cJ (y.mono (by decide)) hr dB (vv 0) (va1 (vv 1)))) (aB (aY 4 (kY g (vv 0) (va1 (vv 1)))) (aB (aY 5 (cY aBh (aL (aB6 rfl) (by rfl) T.aAr vU (va1 (cX (aRh rfl hU) (by rfl) T.aY8 aU0 (va1 (vv 4))))) eZ (dW (aL (aQ3 rfl) (by rfl) T.bDj bAl (aF (vv 2) (va1 aA)))))) (aB (bM (cC (aJu (vv 5))) (aD (aK aA)) aQ) (aB (mY hu (cR (K:=K) (vv 0)) (vv 1) (bI lJ (cY aGi (vv 3) eZ (dW aA)) (bL (va1 (aU bJ (vv 5) (aDw wK aA)))))) (aD (aK (bI aGg (aL bA (by rfl) T.eU cN (va1 (vv 4))) (aL bA (by rfl) T.eU cN (va1 (kY g (vv 0) (va1 (vv 1)))))))))))))),?_⟩;cases h with
 |inr h=>
  obtain⟨x,v,vk,rfl,d,F,m,W,O,h⟩:=h;obtain⟨dx,hx⟩:=O.at_;refine⟨_,rfl,x,dx,_,rfl,hx,rfl,_,rfl,x,d,F,m,W,v,rfl,O,?_⟩;rcases h with h|⟨e,n,h0,L,rfl,he,M,hm,hF⟩
  ·exact .inr h
  exact .inl ⟨e,n,h0,L,rfl,he,M,λH1 J=>⟨_,rfl,x,dx,_,rfl,J _ _ hx,rfl,_,rfl,x,d,F,m,W,e.n,rfl,O.same J,.inr ⟨hm.same J,hF.same J⟩⟩⟩
 |inl h=>
 obtain⟨x,d,F,m,W,e,l,n,h0,L,k,fm,j,rfl,O,he,Y,au,hj,M,ak,q⟩:=h;obtain⟨dx,hx⟩:=O.at_;have ok:=O.ok e he;have ap:=ok.few;refine⟨_,rfl,x,dx,_,rfl,hx,rfl,_,rfl,x,d,F,m,W,_,rfl,O,.inl ⟨e,n,h0,L,rfl,he,M,λH1 J=>?_⟩⟩;have ab:=(Y.d e.n au).same J;obtain⟨I,v,gm,hk,hv⟩:=id ab;have hk:eO I (Sum.inr e.n)=some v:=hk;have lk:I.length<=j:=by obtain⟨kvs',g',l',_⟩:=Y.same J;rw[gm] at g';cases g';exact l'
 refine⟨_,rfl,x,dx,_,rfl,J _ _ hx,rfl,_,rfl,x,d,F,m,W,e.n,rfl,O.same J,.inl ⟨v,I,gm,hk,?_⟩⟩;refine⟨_,rfl,x,dx,_,rfl,J _ _ hx,rfl,_,rfl,x,d,F,m,W,e,l,n,h0,L,rfl,O.same J,he,ab,M,ak,λW2 H2 ag s2 ai=>?_⟩;obtain⟨us,g2,a6⟩:=id ai;have lu:=a6.len;have an:=J.trans s2;have lW:(jF e.t n L l.num l.mark).length<=60:=bAE (bDV _ _) ap;have kW:∀r∈jF e.t n L l.num l.mark,KdR (knds e.t.hd) r:=λr N=>aAx (ok.rows r (List.mem_filter.mp N).1);have hW:us.length=(jF e.t n L l.num l.mark).length:=lu;refine⟨_,rfl,W2,us,jF e.t n L l.num l.mark,rfl,SqL.of g2,lY a6,λr N=>aXs (ok.rows r (List.mem_filter.mp N).1),by lia,λD3 H3 as qs av s3 g3 af U=>?_⟩;have la:=af.len;have ld:=U.2.2;rw[j7] at la;refine⟨D3,as,qs,knds e.t.hd,rfl,g3,af.imp λ_ _ z=>z.same s3,by lia,aPd ok.hd.1,λr N=>kW r ((U.2.1 r).mp N),λB H4 G hB s4 g4 h4=>?_⟩;have a1:=s3.trans s4;refine⟨_,rfl,(k:Int),0,rfl,(k:Int),by rw[if_neg (show ¬ (0:Int) > (k:Int) by lia)],B,G,rfl,SqL.of g4,λp H5 hp s5 g5=>?_⟩;rw[show oJ G none (some ((k:Nat):Int))=G.take k from yV _ k] at g5;have a5:dO (dJ K H5) (G.take k) ((srt qs).take k):=(aQ8 (aH4 h4) k).imp λ_ _ z=>z.same (s4.trans s5);have al:=an.trans (a1.trans s5);obtain⟨q0,q1⟩:=q qs U;refine⟨_,rfl,_,.inl ⟨_,SqL.of g5,rfl⟩,?_⟩;have uS:∀i u,(G.take k)[i]?=some u->∃r,((srt qs).take k)[i]?=some r/\dJ K H5 u r:=λi u z=>bW a5 z;have lS:=a5.len;generalize G.take k=uk at g5 uS lS ⊢;cases uk with
 |nil=>refine dZ rfl ?_;exact q0 (bAX lS.symm) H5 al
 |cons u0 ur=>
  refine dU rfl ?_;obtain⟨ul,a4⟩:∃ul,(u0::ur)[(u0::ur).length - 1]?=some ul:=⟨_,b8 (by rw[t6];lia)⟩;obtain⟨r,a9,aj⟩:=uS _ _ a4;have hl:((srt qs).take k).getLast?=some r:=by rw[List.getLast?_eq_getElem?,<-lS];exact a9
  have aq:qR e.t.hd r:=by have h1:=(U.2.1 r).mp (yO (List.mem_of_mem_take (m8 a9)));exact ok.rows r (List.mem_filter.mp h1).1
  obtain⟨a,vm,rfl,ha,hm⟩:=hv;have aa:=s2.trans (a1.trans s5);refine⟨_,rfl,_,rfl,a,_,rfl,aa.bC ha,by show ¬ (HT.sIx 3 0 none=0/\HT.sIx 3 3 (some 2)=3);decide,λp6 H6 s6 g6=>?_⟩;rw[show oJ [V.int l.num,.int l.house,vm] none (some 2)=[V.int l.num,.int l.house] from yV _ 2] at g6;refine⟨_,rfl,_,rfl,p,_,_,ul,rfl,rfl,SqL.of (s6 _ _ g5),aOe a4,by show 1<=sizeLine;decide,λp7 H7 _ s7 g7=>?_⟩;refine⟨p6,p7,_,_,rfl,rfl,SqT.of (s7 _ _ g6),SqT.of g7,by show 3<=sizeLine;decide,λp8 H8 s8 g8=>?_⟩;have a3:=s6.trans (s7.trans s8);have a7:=aa.trans a3;have R:=J.trans a7;have a2:=a7 _ _ gm;obtain⟨k1,k2⟩:=(O.same R).mv (kvs':=putK I (Sum.inr e.n) (.ref p8)) a2;refine⟨_,rfl,x,C,dx,_,_,rfl,R _ _ hx,c,n3,rfl,_,rfl,F,_,rfl,aI9.k (k:=Sum.inr e.n) a2 (nD (by lia)),?_⟩;have Z:Mvs K (_root_.L2.upd H8 F (.dK (putK I (Sum.inr e.n) (.ref p8)))) F (fset fm e.n (some { l with mark:=some r })) (j+1):=(Y.same R).put a2 ⟨p8,ul,rfl,g8,aj.same a3⟩;have ac:=(KP.same (K:=K) (S:=λb=>b≠F) R).trans k1;have nW:W2≠F:=λz=>by rw[z,gm] at ag;cases ag
  have gW:=k1.st _ _ nW (a3 _ _ ((a1.trans s5) _ _ g2));generalize _root_.L2.upd H8 F (.dK (putK I (Sum.inr e.n) (.ref p8)))=H9 at k1 k2 Z ac gW ⊢;obtain⟨ah,am⟩:=k2.at_;refine⟨_,rfl,W2,us,rfl,.inl (SqL.of gW),_,rfl,x,ah,_,rfl,am,rfl,_,rfl,x,d,F,m,W,e,{ l with mark:=some r },n,h0,L,rfl,k2,he,Z.d e.n (by unfold fset;rw[if_pos rfl]),M,λq' e'=>by cases e';exact aq,λW3 ae aw X a8=>?_⟩;obtain⟨a0,ao,ad⟩:=a8;have l3:=ad.len;refine⟨W3,a0,rfl,.inl (SqL.of ao),_,_,rfl,rfl,?_⟩;have e1:(us.length:Int) - a0.length=((jF e.t n L l.num l.mark).length - (jF e.t n L l.num (some r)).length:Int):=by rw[hW,l3];rfl
  show Q (.int ((us.length:Int) - a0.length)) ae;rw[e1];exact q1 r hl ae (ac.trans (KP.same X)) (k2.same X) (Z.same X)
end
end My
namespace PySem
section
variable {κ:Type}[DecidableEq κ]
open PySem.Spec PySem.Calls PyProof.Rows L2
end
end PySem
namespace L2
open PySem PySem.Spec PyProof.Rows
def EqW (P:Program)(w:World)(A:Around)(s:Shared)(y x:Value):Prop:=∀E Q,Q true s->wpAny (model P w) A (eqBool y x) Q E s
def EqW.of (h:SeqAt.EqAt A s y x true):EqW P w A s y x:=λE Q q=>h P w E Q q
def EqW.refs (c:a≠b)(h:∀E Q,Q (.bool true) s->wpAny (model P w) A (richCompare .Eq (.ref a) (.ref b)) Q E s):EqW P w A s (.ref a) (.ref b):=λE Q q=>by unfold eqBool;refine bAP (bFV (λz=>?_) λ_=>b7 (h E _ (bBB q)));exact absurd (by have:=eq_of_beq z;injection this) c
section
open AutoSeq1 (wpAny_loadPart')
open MeetsSeq MeetsSeq2 MeetsSeq3
def aRy (m:xs.size=ys.size)(k:Nat):∀i:Nat,xs.size - i=k->MeetsIn P w (Builtin.«list.__eq__.loop» ⟨[.ref a,.ref b,rawInt i,rawInt 3],[]⟩)
  (λA R s=>s.heap.get? a=some ⟨.type "list",da,.seq xs na,sa⟩/\s.heap.get? b=some ⟨.type "list",db,.seq ys nb,sb⟩/\(∀j (h1:j<xs.size) (h2:j<ys.size),EqW P w A.in1 s xs[j] ys[j])/\R (.ok (.ret (.bool false))) s):=by
 induction k with
 |zero=>
  rintro i hk A R ⟨hp,g,d,tk,os⟩ ⟨ha,hb,he,r⟩;wp_walk using wpAny_loadPart' ha,wpAny_loadPart' hb;have c:xs[((i:Nat):Int).toNat]?=none:=by rw[bAJ];exact bBO (by lia)
  have e:ys[((i:Nat):Int).toNat]?=none:=by rw[bAJ];exact bBO (by lia)
  rw[c,e];wp_walk using wpAny_loadPart' ha,wpAny_loadPart' hb;show R (.ok (.ret (.bool (xs.size != ys.size)))) _;have l:(xs.size != ys.size)=false:=by rw[m];exact bne_self_eq_false _
  rw[l];exact r
 |succ k ih=>
  rintro i hk A R ⟨hp,g,d,tk,os⟩ ⟨ha,hb,he,r⟩;wp_walk using wpAny_loadPart' ha,wpAny_loadPart' hb;have f:i<xs.size:=by lia
  have h:i<ys.size:=by lia
  have c:xs[((i:Nat):Int).toNat]?=some xs[i]:=by rw[bAJ];exact j6 f
  have e:ys[((i:Nat):Int).toNat]?=some ys[i]:=by rw[bAJ];exact j6 h
  rw[c,e];refine b7 (he i f h _ _ ?_);wp_walk;rw[show (i:Int)+1=((i+1:Nat):Int) from rfl];refine⟨bCH plain_eq_loop _,bBK entry_eq_loop ?_⟩;rw[bBA plain_eq_loop _];exact ih (i+1) (by lia) A R _ ⟨ha,hb,he,r⟩
def aSl (c:xs.size=ys.size):MeetsIn P w (Builtin.«list.__ne__» ⟨[.ref a,.ref b],[]⟩)
  (λA R s=>s.heap.get? a=some ⟨.type "list",da,.seq xs na,sa⟩/\s.heap.get? b=some ⟨.type "list",db,.seq ys nb,sb⟩/\(∀j (h1:j<xs.size) (h2:j<ys.size),EqW P w A.in1 s xs[j] ys[j])/\R (.ok (.ret (.bool false))) s):=by
 rintro A R ⟨hp,g,d,tk,os⟩ ⟨ha,hb,he,r⟩;have f:=AutoSeq1.sub_list_list;have e:¬ (xs.size != ys.size)=true:=by rw[c,bne_self_eq_false];exact v6
 wp_walk using wpAny_loadPart' ha,wpAny_loadPart' hb;refine⟨bCH plain_eq_loop _,bBK entry_eq_loop ?_⟩;rw[bBA plain_eq_loop _];exact aRy c _ 0 rfl A R _ ⟨ha,hb,he,r⟩
def neW {A:Around}{E:bGA}{Q:bGA}{s:Shared}{a b:Addr}{xs ys:Array Value}(r:s.heap.IsList a xs)(t:s.heap.IsList b ys)(i:xs.size=ys.size)(n:A.units<cLine)(B:∀j (h1:j<xs.size) (h2:j<ys.size),EqW P w A.in1 s xs[j] ys[j])(q:Q (.bool false) s):wpAny (model P w) A (compareOp .NotEq (.ref a) (.ref b)) Q E s:=by obtain⟨⟨l,v,u,m⟩,c,d,p,e⟩:=r;obtain⟨⟨k,C,x,o⟩,f,g,y,h⟩:=t;dsimp only at d e g h;subst d e g h;exact wpAny_richCompare_same_room (op:=.NotEq) ⟨_,c,rfl⟩ ⟨_,f,rfl⟩ F.slot_list_ne (call_meetsIn F.slot_list_ne ⟨_,c,rfl⟩ F.entry_list_ne (F.args_list_ne_2 _ _) (aSl i) ⟨c,f,B,(⟨(λz=>nomatch z),q⟩:Value.bool false≠.notImplemented/\Q (.bool false) s)⟩) n
end
def DL (K:bF9)(H:Hp):Nat->V->V->Prop
 |0,x,y=>(∃a,x=.ref a/\y=.ref a)\/DEq K H 40 x y
 |n+1,x,y=>DL K H n x y\/∃a b xs ys,x=.ref a/\y=.ref b/\SqL K H a xs/\SqL K H b ys/\Al2 (DL K H n) xs ys
def aAc {R:V->V->Prop}{T:Value->Value->Prop}{xs ys:List V}{its jts:List Value}(k:Vals xs its)(l:Vals ys jts)(h:Al2 R xs ys)(q:∀{x y v u},R x y->RelV x v->RelV y u->T v u):∀(j:Nat) (h1:j<its.toArray.size) (h2:j<jts.toArray.size),T its.toArray[j] jts.toArray[j]:=λj h1 h2=>by
 have p:=k.length;have a:j<xs.length:=by rw[d9] at h1;lia
 obtain⟨y,o,d⟩:=h.at (b8 a);obtain⟨m,b,i⟩:=k.get (b8 a);obtain⟨e,c,f⟩:=l.get o;have g:its.toArray[j]=m:=by rw[bBM];exact (List.getElem?_eq_some_iff.mp b).2
 have n:jts.toArray[j]=e:=by rw[bBM];exact (List.getElem?_eq_some_iff.mp c).2
 rw[g,n];exact q d i f
theorem mZ (I:Inv X bGD σ H s):∀(n:Nat) {A:Around} {x y:V} {v u:Value},DL X.K H n x y->RelV x v->RelV y u->A.units+42+n<cLine->SeqAt.EqAt A s v u true
 |0,A,x,y,v,u,h,rv,ru,hu=>by
  rcases h with⟨a,rfl,rfl⟩|h
  ·cases rv;cases ru;exact bCU _
  ·exact aDg I 40 h rv ru (by lia)
 |n+1,A,x,y,v,u,h,rv,ru,hu=>by
  rcases h with h|⟨a,b,w,z,rfl,rfl,m,p,h⟩
  ·exact mZ I n h rv ru (by lia)
  cases rv;cases ru;by_cases e:a=b
  ·subst e;exact bCU _
  obtain⟨q,f,o,_⟩:=I.list m;obtain⟨r,c,i,_⟩:=I.list p;have l:=h.len;have t:=f.length;have B:=c.length;refine bDP e ?_;have g:=SeqAt.RcAt.lists (A:=A) (e:=λ_=>true) o.isList i.isList (by rw[d9,d9];lia) (by lia) (aAc f c h λd j k=>mZ I n d j k (by show A.units+1+42+n<cLine;lia));rw[uY] at g;exact g
def bC7 (K:bF9)(H:Hp)(p q:Key × V):Prop:=p.1=q.1/\DL K H 1 p.2 q.2
theorem aN5 (I:Inv X bGD σ H s)(a:A.units+43<cLine)(e:(kb.map (·.1)).Nodup):∀{kvs kws:List (Key × V)} {ka kc:List (Key × Value)},Al2 (bC7 X.K H) kvs kws->KV kvs ka->KV kws kc->(∀p∈kc,p∈kb)->PySem.W.KeqHits A s kb ka true
 |[],[],ka,_,_,r,_,_=>by cases r;exact .nil
 |p::kvs,q::kws,ka,kc,.cons h t,r,r',hm=>by
  cases r with
  |cons r1 rt=>
   rename_i x v;cases r' with
   |cons r1' rt'=>rename_i y n;obtain⟨k,hd⟩:=h;obtain⟨b,f⟩:=r1;obtain⟨i,g⟩:=r1';obtain⟨o,u⟩:=x;obtain⟨m,l⟩:=y;have d:=b.symm;have j:=i.symm.trans k.symm;subst d j;exact PySem.W.KeqHits.hit (aJg e (hm _ j4)) (mZ I 1 hd f g a) (aN5 I a e t rt rt' λz c=>hm z (j5 _ c))
def DW (K:bF9)(H:Hp)(x y:V):Prop:=DL K H 2 x y\/∃d e kvs kws,x=.ref d/\y=.ref e/\H d=some (.dK kvs)/\H e=some (.dK kws)/\Al2 (bC7 K H) kvs kws
def bBh (I:Inv X bGD σ H s)(h:DW X.K H x y)(r:RelV x v)(t:RelV y u)(hA:A.units+45<cLine):EqW X.prog X.w A s v u:=by
 rcases h with h|⟨d,e,B,l,rfl,rfl,hd,D,j⟩
 ·exact .of (mZ I 2 h r t (by lia))
 cases r;cases t;by_cases z:d=e
 ·subst z;exact .of (bCU _)
 refine .refs z λE Q q=>?_;obtain⟨z,k,g,b,m⟩:=aAn I.hok hd;obtain⟨G,c,f,a,i⟩:=aAn I.hok D;have o:=let ⟨_,_,_,_,_,_,_,_,hn⟩:=i;hn
 have F:=KV.length b;have L:=KV.length a;have J:=j.len;refine PySem.W.keq_eq k c m i (by lia) (λ_=>aN5 I (show A.units+1+43<cLine by lia) o j b a λp n=>n) ?_;have C:(g.length == f.length && true)=true:=by rw[show g.length=f.length by lia];simp
 rw[C];exact q
def bEs (K:bF9):R2:=λx y H Q=>∃a b us ws,x=.ref a/\y=.ref b/\SqL K H a us/\SqL K H b ws/\Al2 (DW K H) us ws/\Q (.bl false) H
def aS3 {X:Cx}(hu:X.A.units+64<cLine):OpR X (compareOp .NotEq) (bEs X.K):=by intro t s σ H x y v u Q I f j h;obtain⟨a,b,z,C,rfl,rfl,i,p,hd,q⟩:=h;cases f;cases j;obtain⟨r,c,o,w⟩:=I.list i;obtain⟨k,e,g,D⟩:=I.list p;have l:=hd.len;have B:=c.length;have E:=e.length;refine neW o.isList g.isList (by rw[d9,d9];lia) (by lia) (aAc c e hd λd m n=>bBh I d m n (by show X.A.units+1+45<cLine;lia)) ?_;exact⟨.bl _,H,I,rfl,q⟩
def bEt (K:bF9):R2:=λx y H Q=>∃a b us ws,x=.ref a/\y=.ref b/\SqL K H a us/\SqL K H b ws/\Al2 (DL K H 2) us ws/\Q (.bl true) H
def bB8 {X:Cx}(hu:X.A.units+64<cLine):OpR X (compareOp .Eq) (bEt X.K):=by
 intro w s σ H x y v u Q I g k h;obtain⟨a,b,B,D,rfl,rfl,j,r,hd,q⟩:=h;cases g;cases k;obtain⟨t,c,p,z⟩:=I.list j;obtain⟨m,f,i,E⟩:=I.list r;have l:=hd.len;have C:=c.length;have F:=f.length;refine SeqAt.RcAt.lists (e:=λ_=>true) p.isList i.isList (by rw[d9,d9];lia) (by lia) (aAc c f hd λd n o=>mZ I 2 d n o (by show X.A.units+1+42+2<cLine;lia)) _ _ _ _ ?_;first
  |(rw[uY];exact⟨.bl _,H,I,rfl,q⟩)
  |(simp only[uY];exact⟨.bl _,H,I,rfl,q⟩)
end L2
namespace PySem
namespace LR
end LR
section
open PySem.Calls PyProof.Rows
end
end PySem
namespace L2
open PySem PySem.Spec PyProof.Rows
def bD2:V->List V->Hp->VK->Prop:=λx vs H Q=>∃d kvs k v,x=.ref d/\vs=[kV k]/\H d=some (.dK kvs)/\eO kvs k=some v/\Q v (upd H d (.dK (jZ kvs k)))
def aXu:MtR X "dict.pop" bD2:=by intro j s σ H x n v m Q I e g h;obtain⟨d,i,k,y,rfl,rfl,hd,b,q⟩:=h;cases e;obtain⟨u,rfl,f⟩:=vals1 g;exact bCv I hd f b (.inl rfl) λo l c a=>⟨y,_,c,a,q⟩
end L2
namespace My
open PySem PySem.Spec PyProof.Rows L2
section
variable {P:Program}{w:World}{K:bF9}{mg:bGC}{base:Heap}
def aWt {κ:Type}[DecidableEq κ]{A B:List (κ × V)}{k:κ}{v d:V}(c:∀kv∈A,kv.1≠k)(e:∀kv∈B,kv.1≠k):putK (A++(k,v)::B) k d=A++(k,d)::B:=by
 have b:∀{L:List (κ × V)},(∀kv∈L,kv.1≠k)->L.map (λkv=>if kv.1=k then (kv.1,d) else kv)=L:=λ{L} h=>by
  conv=>rhs;rw[<-List.map_id L]
  exact List.map_congr_left λkv a=>by rw[if_neg (h kv a)];rfl
 unfold putK;rw[if_pos (List.any_eq_true.mpr ⟨(k,v),bAO _ j4,v4 rfl⟩),bAY,bAI,b c,b e,if_pos rfl]
def aYq {l1 l2:List En}{e e':En}(f:((l1++e::l2).map (·.n)).Nodup)(i:e'.n=e.n):putK (enK (l1++e::l2)) (Sum.inr e.n) e'.v=enK (l1++e'::l2):=by
 rw[bAY,bAI] at f;obtain⟨_,g,h⟩:=List.nodup_append.mp f;have d:=(List.nodup_cons.mp g).1;unfold enK;rw[bAY,bAI,bAY,bAI,i];refine aWt (λc a z=>?_) λc a z=>?_
 ·obtain⟨x,b,rfl⟩:=List.mem_map.mp a;exact h _ (bCX b) _ j4 (Sum.inr.inj z)
 ·obtain⟨x,b,rfl⟩:=List.mem_map.mp a;exact d (by rw[<-Sum.inr.inj z];exact bCX b)
def aX.put {H:Hp}{C x d dm:Addr}{m:Int}{i g:List En}{e e':En}(h:aX K H C x m d dm (i++e::g))(p:e'.n=e.n)(r:lU K H e'.v e'.vh e'.vp e'.L e'.t)(q:kJ m e'.t):KP K (λb=>b≠d) H (L2.upd H d (.dK (enK (i++e'::g))))/\aX K (L2.upd H d (.dK (enK (i++e'::g)))) C x m d dm (i++e'::g):=by
 have k:=eE.dK h.ens.at_;have b:But d H (L2.upd H d (.dK (enK (i++e'::g)))):=But.upd;have c:∀y∈i++e'::g,y=e'\/y∈i++e::g:=λy hy=>by
  rcases List.mem_append.mp hy with h|h
  ·exact .inr (bBT _ h)
  ·rcases List.mem_cons.mp h with h|h
   ·exact .inl h
   ·exact .inr (bAO _ (j5 _ h))
 have a:=h.ens;have f:(i++e'::g).map (·.n)=(i++e::g).map (·.n):=by rw[bAY,bAY,bAI,bAI,p]
 obtain⟨l,j⟩:=h.at_;have o:x≠d:=λz=>by rw[z,a.at_] at j;cases j
 refine⟨.bEd k λz=>z rfl,⟨l,b _ _ o j⟩,⟨aG,by rw[f];exact a.nd,?_,λy hy=>?_,λy hy=>?_⟩,λy hy=>?_,h.ne⟩
 ·have:=congrArg List.length f;rw[j7,j7] at this;rw[this];exact a.few
 ·rcases c y hy with rfl|hy
  ·rw[p];exact a.nm e (bAO _ j4)
  ·exact a.nm y hy
 ·rcases c y hy with rfl|hy
  ·exact b.tb k r
  ·exact b.tb k (a.tb y hy)
 ·rcases c y hy with rfl|hy
  ·exact q
  ·exact h.ok y hy
inductive aD8 (K:bF9)(vs:List V)(H:Hp)(Q:VK)(E_:XK):Prop
 |mk (v vh vp vc:V) (L:Addr) (t:Tb) (n:Str) (h0 k0:Int) (cs ks:List (V × Int)) (_:vs=[v,vc]) (_:lU K H v vh vp L t) (_:t.pl=.spans n h0 cs) (_:kE K H (gZ K H) vc ((.non,k0)::ks)) (_:∀v' vp' H',Same H H'->lU K H' v' vh vp' L { t with pl:=.spans n k0 ks }->Q v' H')
def aEx (T:Txt w K mg):Ok P w K mg base 1 "with_cuts" bQM (aD8 K):=by
 refine Ok.ofV T.wV uD (by trivial) (λf D A i s H vs Q E X h=>?_)
 obtain⟨v,Y,W,M,L,t,n,Z,k0,cs,ks,rfl,⟨a,rfl,g,C,m,R⟩,e,F,q⟩:=h;rw[e] at m;obtain⟨b,y,rfl,O,_⟩:=m;refine⟨_,(aD (aK (bL (aF (aU aR (vv 0) aA) (aF (bI lJ (cY aGi (aU aR (vv 0) aA) eZ (dW aA)) (bL (va1 (vv 1)))) (va1 (aU aR (vv 0) aA))))))),?_⟩;refine⟨_,rfl,a,_,0,_,rfl,rfl,g,at0 _ _,_,rfl,a,_,1,_,rfl,rfl,g,at1 _ _ _,?_⟩;refine⟨_,rfl,b,_,rfl,O,by show ¬ (HT.sIx 3 0 none=0/\HT.sIx 3 3 (some 2)=3);decide,λp U I k=>?_⟩;rw[show oJ [.str "spans",.str n,y] none (some 2)=[.str "spans",.str n] from yV _ 2] at k;refine⟨_,rfl,by show 1<=sizeLine;decide,λJ S _ j N=>?_⟩;refine⟨p,J,_,_,rfl,rfl,SqT.of (j _ _ k),SqT.of N,by show 3<=sizeLine;decide,λr V G o=>?_⟩;have d:=I.trans (j.trans G);refine⟨_,rfl,a,_,2,_,rfl,rfl,d.bC g,at2 _ _ _ _,by show 3<=sizeLine;decide,λx B _ l u=>?_⟩;have c:=d.trans l;exact q _ (.ref r) B c ⟨x,rfl,SqT.of u,C.same c,⟨r,M,rfl,l.bC o,F.same c λ_ _ z=>z.same c⟩,R.same c⟩
def sZ (K:bF9)(H:Hp)(kd:Str)(cs:List (V × Int))(vl:V):Prop:=(∃t,dD K H vl t/\vW kd t=false)\/∃c∈cs,vl=c.1
def sZ.same (s:Same H H')(h:sZ K H kd cs vl):sZ K H' kd cs vl:=by
 rcases h with⟨t,a,b⟩|h
 ·exact .inl ⟨t,a.same s,b⟩
 ·exact .inr h
inductive aSp (K:bF9)(vs:List V)(H:Hp)(Q:VK)(E_:XK):Prop
 |mk (v vh vp vl:V) (L:Addr) (t:Tb) (n kd:Str) (h0:Int) (cs:List (V × Int)) (_:vs=[v,vl]) (_:lU K H v vh vp L t) (_:t.pl=.spans n h0 cs) (_:look t.hd n=some kd) (_:(∀c∈cs,dF kd c.1)) (_:cs.length<=7) (_:sZ K H kd cs vl) (_:∀H',Same H H'->Q (.bl false) H')
def aNy (h:dF kd v):yD v=true/\iW v=true:=by
 cases h with
 |num=>exact⟨(jT dF.num).1,rfl⟩
 |wrd h1 h2=>exact⟨(jT (dF.wrd h1 h2)).1,rfl⟩
def aYk (a:dF kd v)(h:v∈xs):inV v xs=true:=by unfold inV;refine List.any_eq_true.mpr ⟨v,h,?_⟩;cases a <;> exact v4 rfl
def aCl (T:Txt w K mg)(fQ:Ok P w K mg base 3 "is_value_of" bQL (aFn K))(vR:Ok P w K mg base 1 "kind_in" bQE (aK3 K)):Ok P w K mg base 4 "may_cut_at" ["table","low"] (aSp K):=by
 refine Ok.ofV T.aGz rJ (by trivial) (λf a0 A I s H vs Q E hr h=>?_)
 obtain⟨v,vh,vp,J,L,t,n,X,M,O,rfl,⟨a,rfl,C,h1,h2,h3⟩,p,hk,d,l7,S,q⟩:=h;rw[p] at h2;obtain⟨b,vo,rfl,U,⟨Y,us,rfl,e,k⟩⟩:=h2;have nd:=rJ.nd;refine⟨_,(aB (aY 2 (aU aR (aU aR (vv 0) aA) aA)) (aB (aY 3 (aU aR (aU aR (vv 0) aA) aA)) (aB (bM (VW.pt (gB (eG bC0 (aL bA (by rfl) T.eU cN (va1 (vv 3))) (iU (by rfl) T.xJ)) (fG (cC (bR (bB fQ (aF (vv 1) (va1 (bB vR (aF (aU aR (vv 0) aA) (va1 (vv 2)))))))))))) (aD (aK fB)) aQ) (aD (aK (mU tV (vv 1) (cU (N:=["cut"]) ck jN rfl (rQ (vv 3)) (λcl o m fp=>⟨(jH 0),fY,(aU (cH (K:=K)) (vv 0) aA)⟩)) (by with_unfolding_all rfl))))))),?_⟩;have lu:=k.len;rw[t6] at lu;refine⟨_,rfl,a,_,1,_,rfl,rfl,C,at1 _ _ _,b,_,1,_,rfl,rfl,U,at1 _ _ _,?_⟩;refine⟨_,rfl,a,_,1,_,rfl,rfl,C,at1 _ _ _,b,_,2,_,rfl,rfl,U,at2 _ _ _ _,?_⟩;refine⟨_,rfl,Y,_,rfl,.inr e,_,_,rfl,rfl,_,rfl,?_⟩;cases decide (((us.length:Nat):Int) ≥ 8) with
 |true=>exact cP (q H (Same.refl H))
 |false=>
 have G:Th K H J:=by
  rcases S with⟨t,F,_⟩|⟨c,hc,rfl⟩
  ·exact aPc F
  ·exact (aDx (d c hc)).th
 refine bZ ⟨_,rfl,_,rfl,a,_,0,_,rfl,rfl,C,at0 _ _,_,rfl,vh,n,t.hd,X,rfl,h1,hk,J,X,rfl,G,λH1 j=>⟨_,rfl,?_⟩⟩;rcases S with⟨t,F,u⟩|⟨c,hc,rfl⟩
 ·rw[aRv F,u];exact cP (q H1 j)
 obtain⟨v1,v2⟩:=aNy (d c hc);rw[v1,(jT (d c hc)).2,v4 rfl];refine bZ ⟨_,rfl,?_⟩;dsimp only[pF,bF,aFd,aB5,sH];refine zK [none] pZ ⟨_,rfl,Y,rfl,⟨_,j.bC e⟩,aGu (aMy λm o=>(j.trans o).bC e) (aBq λm o=>(j.trans o).bC e) ⟨none,rfl⟩ (by lia) (((.non,M)::O).map (·.1)) (by rw[j7,t6];lia) (λi x z ex W m R l sm r=>?_) λD H6 s6 nL gL=>?_⟩
 ·obtain⟨Z,g,p',rfl,B⟩:=bW k ex;rw[t7,g] at W;cases W;exact⟨_,rfl,p',_,0,_,rfl,rfl,(j.trans sm).bC B,at0 _ _,r m (Same.refl _)⟩
 refine⟨D,_,rfl,.inl (SqL.of gL),v2,?_,?_⟩
 ·rw[bAI,bFK,List.all_eq_true.mpr λy hy=>?_];rfl;obtain⟨Z,g,rfl⟩:=List.mem_map.mp hy;exact (aNy (d Z g)).2
 ·have hm:c.1∈((.non,M)::O).map (·.1):=j5 _ (bCX (f:=λx:V × Int=>x.1) hc);rw[if_pos rfl,aYk (d c hc) hm];exact q H6 (j.trans s6)
inductive aG9 (K:bF9)(C CT CS CB:Addr)(vs:List V)(H:Hp)(Q:VK)(E:XK):Prop
 |mk (x d dm:Addr) (m:Int) (es:List En) (v vl:V) (f:Str->Option Mv) (j:Nat) (_:vs=[.ref x,v,vl]) (_:aX K H C x m d dm es) (_:Mvs K H dm f j) (_:(aJ1 K CT CS E H es v\/∃(e:En) (n kd:Str) (h0:Int) (cs:List (V × Int)),v=.str e.n/\e∈es/\e.t.pl=.spans n h0 cs/\look e.t.hd n=some kd/\(f e.n≠none->Rf H E CB)/\(f e.n=none->sZ K H kd cs vl/\Rf H E CS)))
def aGy (T:Txt w K mg):Ok P w K mg base 1 "with_cuts" bQM aA7:=
 Ok.ofV T.wV uD (λ_ _ _ _ h=>h.elim) (λ_ _ _ _ _ _ _ _ _ _ h=>h.elim)
def aRc (T:Txt w K mg)(l:ExT K mg dR "NoSpan" "ShardError.__init__" CS S)(c:Cls K C)(D:eV K C "split" "Store.split" lN bQV)(n1:bN K C "placed")(g:cZ P w K mg base C 4 "cut_table" n6 (uH K C CT CS))(b:cZ P w K mg base C 3 "need_still" n6 (aBp K C CB))(a0:Ok P w K mg base 4 "may_cut_at" ["table","low"] (aSp K))(zT:Ok P w K mg base 1 "cut_of" bQX (aAw K))(oO:Ok P w K mg base 1 "with_cuts" bQM aA7):cZ P w K mg base C 5 "split" bQV (aG9 K C CT CS CB):=by
 refine cZ.ofV c D oZ (by trivial) (λf a1 A J s H vs Q E z h=>?_)
 obtain⟨x,d,U,m,V,v,Z,fm,j,rfl,r,I,h⟩:=h;have hu:=jD z;have hinit:=λ{fI:Addr}=>hinit T fI;have nd:=oZ.nd;refine⟨_,(aB (aY 3 (cJ (g.mono (by decide)) z dB (vv 0) (va1 (vv 1)))) (aB (eF (cJ (b.mono (by decide)) z dB (vv 0) (va1 (vv 1)))) (aB (bM (cC (bR (bB a0 (aF (vv 3) (va1 (vv 2)))))) (aD (fH l (λfI fd F=>gK (k:=0) F gU hinit) (z.mono (by decide)) dX rfl (by rfl) (va1 cD))) aQ) (aB (aY 4 (aU aR (aU aR (vv 3) aA) aA)) (aB (aY 5 (bB zT (aF (vv 4) (va1 (vv 2))))) (aB (aY 6 (bI dC (vv 5) aA)) (aD (mY hu (cR (K:=K) (vv 0)) (vv 1) (bB oO (aF (vv 3) (va1 (bI lJ (bI lJ (cY nA (vv 4) eZ (dW (vv 6))) (bL (va1 (bL (aF (vv 2) (va1 (aU aR (aU aR (vv 4) (vv 5)) aA))))))) (cY nA (vv 4) (dW (vv 6)) eZ))))))))))))),?_⟩;obtain⟨M,N⟩:=r.at_;refine⟨_,rfl,x,M,_,rfl,N,rfl,_,rfl,x,d,U,m,V,v,rfl,r,?_⟩;rcases h with h|⟨e,n,Y,O,R,rfl,G,i,W,hF,h⟩
 ·exact .inr h
 refine .inl ⟨e,n,O,R,rfl,G,i,λH1 o=>?_⟩;refine⟨_,rfl,x,M,_,rfl,o _ _ N,rfl,_,rfl,x,d,U,m,V,e.n,fm e.n,rfl,r.same o,(I.d e.n rfl).same o,λp=>?_,λp=>(hF p).same o⟩;obtain⟨hb,B⟩:=h p;have y:=(r.ok e G).pl;rw[i] at y;obtain⟨a2,k',u,a4,q⟩:=y;rw[W] at u;cases u;refine⟨_,rfl,_,rfl,e.v,e.vh,e.vp,Z,e.L,e.t,n,Y,O,R,rfl,(r.ens.tb e G).same o,i,W,λc hc=>(q.each c hc).1,q.few,hb.same o,λH2 X=>⟨_,rfl,cP ⟨rfl,λa a3 n1 n2 ne=>B a _ ((o.trans X).trans (aO n2 _))⟩⟩⟩
def bD7 (ho:Int):List (V × Int)->Nat->List (V × Int)
 |[],_=>[]
 |c::cs,0=>(c.1,ho)::cs
 |c::cs,k+1=>c::bD7 ho cs k
abbrev aE2 (ho:Int)(k:Nat)(cs:List (V × Int)):List (V × Int):=bD7 ho cs k
def aCg:Nat->Int->Int->Int
 |0,ho,_=>ho
 |_+1,_,h0=>h0
def aCq:Nat->Int->List (V × Int)->List (V × Int)
 |0,_,cs=>cs
 |k+1,ho,cs=>aE2 ho k cs
def bEp (num:Nat)(ho h0:Int)(cs:List (V × Int)):aE2 ho num ((V.non,h0)::cs)=(V.non,aCg num ho h0)::aCq num ho cs:=by cases num <;> rfl
theorem uW:∀k cs,(aE2 ho k cs).map (·.1)=cs.map (·.1)
 |_,[]=>rfl
 |0,_::_=>rfl
 |k+1,c::cs=>by show c.1::(aE2 ho k cs).map (·.1)=_;rw[uW k cs];rfl
theorem aJ7:∀{k:Nat} {cs:List (V × Int)},c∈aE2 ho k cs->∃c0∈cs,c.1=c0.1/\(c.2=c0.2\/c.2=ho)
 |_,[],h=>by cases h
 |0,c0::cs,h=>by
  rcases List.mem_cons.mp h with rfl|h
  ·exact⟨c0,j4,rfl,.inr rfl⟩
  ·exact⟨c,j5 _ h,rfl,.inl rfl⟩
 |k+1,c0::cs,h=>by
  rcases List.mem_cons.mp h with rfl|h
  ·exact⟨c,j4,rfl,.inl rfl⟩
  ·obtain⟨b,d,a⟩:=aJ7 h;exact⟨b,j5 _ d,a⟩
def aNz (num:Nat)(h:sE kd m h0 cs)(l:0<=ho)(e:ho<m):sE kd m (aCg num ho h0) (aCq num ho cs):=by
 cases num with
 |zero=>exact⟨⟨l,e⟩,h.each,h.up,h.few⟩
 |succ k=>
  refine⟨h.first,λc j=>?_,?_,?_⟩
  ·obtain⟨f,a,g,e2⟩:=aJ7 (k:=k) j;obtain⟨b,i,d⟩:=h.each f a;rw[g];rcases e2 with e2|e2 <;> rw[e2]
   ·exact⟨b,i,d⟩
   ·exact⟨b,l,e⟩
  ·show ((aE2 ho k cs).map (·.1)).Pairwise _;rw[uW];exact h.up
  ·have:=congrArg List.length (uW (ho:=ho) k cs);rw[j7,j7] at this;show (aE2 ho k cs).length<=7;rw[this];exact h.few
def aPi {R:V->V × Int->Prop}{ho:Int}{u:V}{us:List V}{cs:List (V × Int)}(h:dO R us cs):∀{k:Nat},(∀c,cs[k]?=some c->R u (c.1,ho))->dO R (us.set k u) (aE2 ho k cs):=by
 induction h with
 |nil=>intro k _;cases k <;> exact .nil
 |cons r t ih=>
  intro k a;cases k with
  |zero=>exact .cons (a _ rfl) t
  |succ k=>exact .cons r (ih λc b=>a c b)
def aZl (K:bF9)(C CN:Addr)(vs:List V)(H:Hp)(Q:VK)(E:XK):Prop:=∃x d dm m l1 l2 e mq n h0 cs f j,vs=[.ref x,.str e.n]/\aX K H C x m d dm (l1++e::l2)/\e.t.pl=.spans n h0 cs/\Mvs K H dm f j/\f e.n=some mq/\(∀q,mq.mark=some q->qR e.t.hd q)/\(jF e.t n cs mq.num mq.mark≠[]->Rf H E CN)/\mq.num<=cs.length/\0<=mq.house/\mq.house<m /\
 (jF e.t n cs mq.num mq.mark=[]->∀v vp H',KP K (λb=>b≠d/\b≠dm) H H'->aX K H' C x m d dm (l1++{ e with v:=v,vp:=vp,t:={ e.t with pl:=.spans n (aCg mq.num mq.house h0) (aCq mq.num mq.house cs) } }::l2)->Mvs K H' dm (fset f e.n none) j->Q .non H')
def aDn (K:bF9)(C CT CS CM CN:Addr):Sp:=λvs H Q E=>aZl K C CN vs H Q E\/∃x v,vs=[.ref x,v]/\aZo K C CT CS CM E H x v
def aNe (T:Txt w K mg){C CT CS CM CN S:Addr}(Z:ExT K mg dR "NotYet" "ShardError.__init__" CN S)(c:Cls K C)(D:eV K C "settle" "Store.settle" jO n6)(n1:bN K C "placed")(n3:bN K C "moves")(p:cZ P w K mg base C 4 "cut_table" n6 (uH K C CT CS))(y:cZ P w K mg base C 3 "move_of" n6 (vK K C CM))(o:OkM P w K mg base C 4 "rows_to_come" n6 (aL9 K C))(oO:Ok P w K mg base 1 "with_cuts" bQM (aD8 K)):cZ P w K mg base C 6 "settle" n6 (aDn K C CT CS CM CN):=by
 refine cZ.ofV c D nU (λvs H Q E h=>?_) (λf b3 A aw s H vs Q E hr h=>?_)
 ·rcases h with⟨x,d,N,m,l1,l2,e,mq,n,M,G,fm,j,rfl,_⟩|⟨x,v,rfl,_⟩ <;> rfl
 have hu:=jD hr;have hinit:=λ{fI:Addr}=>hinit T fI;have nd:=nU.nd;refine⟨_,(aB (aY 2 (cJ (p.mono (by decide)) hr dB (vv 0) (va1 (vv 1)))) (aB (aY 3 (cJ (y.mono (by decide)) hr dB (vv 0) (va1 (vv 1)))) (aB (bM (aJu (kY o (vv 0) (va1 (vv 1)))) (aD (fH Z (λfI fd F=>gK (k:=0) F gU hinit) (hr.mono (by decide)) dX rfl (by rfl) (va1 cD))) aQ) (aB (aY 4 (aU aR (vv 3) aA)) (aB (aY 5 (cX mX (by rfl) T.wG qG (va1 (aU aR (aU aR (vv 2) aA) aA)))) (aB (aGa (bL (aF (aU (cH (K:=K)) (aU bJ (vv 5) (vv 4)) aA) (va1 (aU aR (vv 3) aA)))) (aRw (vv 5) (vv 4) set_list)) (aB (mY hu (cR (K:=K) (vv 0)) (vv 1) (bB oO (aF (vv 2) (va1 (cX pQ (by rfl) T.iQ fU (va1 (vv 5))))))) (aD (eF (aEq PySem.F.plainAttrs_dict PySem.F.slot_dict_pop PySem.F.type_dict_pop aXu (cR (K:=K) (vv 0)) (va1 (vv 1)))))))))))),?_⟩;cases h with
 |inr h=>
  obtain⟨x,v,rfl,d,N,m,es,B,h⟩:=h;obtain⟨dx,hx⟩:=B.at_;refine⟨_,rfl,x,dx,_,rfl,hx,rfl,_,rfl,x,d,N,m,es,v,rfl,B,?_⟩;rcases h with h|⟨e,n,M,G,rfl,W,r,hm,hF⟩
  ·exact .inr h
  exact .inl ⟨e,n,M,G,rfl,W,r,λH1 I=>⟨_,rfl,x,dx,_,rfl,I _ _ hx,rfl,_,rfl,x,d,N,m,es,e.n,rfl,B.same I,.inr ⟨hm.same I,hF.same I⟩⟩⟩
 |inl h=>
 obtain⟨x,d,N,m,l1,l2,e,mq,n,M,G,fm,j,rfl,B,r,a8,ax,an,hF,n0,b0,b1,q⟩:=h;obtain⟨dx,hx⟩:=B.at_;have W:e∈l1++e::l2:=bAO _ j4;have ok:=B.ok e W;have aa:=ok.pl;rw[r] at aa;obtain⟨av,k',ai,ap,ak⟩:=aa;refine⟨_,rfl,x,dx,_,rfl,hx,rfl,_,rfl,x,d,N,m,_,_,rfl,B,.inl ⟨e,n,M,G,rfl,W,r,λH1 I=>?_⟩⟩;have ae:=(a8.d e.n ax).same I;obtain⟨a1,v,gm,hk,hv⟩:=id ae;have hk:eO a1 (Sum.inr e.n)=some v:=hk;refine⟨_,rfl,x,dx,_,rfl,I _ _ hx,rfl,_,rfl,x,d,N,m,_,e.n,rfl,B.same I,.inl ⟨v,a1,gm,hk,?_⟩⟩;refine⟨_,rfl,x,dx,_,rfl,I _ _ hx,rfl,_,rfl,x,d,N,m,_,e,mq,n,M,G,rfl,B.same I,W,ae,r,an,λW2 H2 b4 s2 ah=>?_⟩;obtain⟨af,g2,U⟩:=ah;by_cases hW:jF e.t n G mq.num mq.mark≠[]
 ·refine⟨_,.inl ⟨_,SqL.of g2,rfl⟩,dZ ?_ ⟨rfl,λa b2 n1 n2 ne=>hF hW a _ ((I.trans s2).trans (aO n2 _))⟩⟩;cases af with
  |nil=>exact absurd (bAX U.len.symm) hW
  |cons _ _=>rfl
 have hW:=Classical.not_not.mp hW;have q:=q hW;have e2:af=[]:=bAX (U.len.trans (congrArg List.length hW));subst e2;refine⟨_,.inl ⟨_,SqL.of g2,rfl⟩,dU rfl ?_⟩;have ab:=I.trans s2;obtain⟨g,i,ay⟩:=mq;have n0:g<=G.length:=n0;obtain⟨a0,vm,rfl,a9,hm⟩:=hv;obtain⟨a,ev,ha,h1,h2,h3⟩:=(B.ens.tb e W).same ab;rw[r] at h2;obtain⟨b,vo,eb,hb,⟨cc,R,rfl,ar,X⟩⟩:=h2;have lu:=X.len;rw[t6] at lu;have a3:g<R.length:=by lia
 obtain⟨c0,am,pc,as,aj⟩:=bW X (b8 a3);refine⟨_,rfl,a0,_,0,_,rfl,rfl,s2.bC a9,at0 _ _,?_⟩;refine⟨_,rfl,a,_,1,_,ev,rfl,ha,at1 _ _ _,b,_,2,_,eb,rfl,hb,at2 _ _ _ _,cc,_,rfl,.inr ar,λl H3 hl s3 g3=>?_⟩;refine⟨_,rfl,_,rfl,l,_,_,R[g],rfl,rfl,SqL.of g3,bO (b8 a3),pc,_,0,_,as,rfl,s3.bC aj,at0 _ _,_,rfl,a0,_,1,_,rfl,rfl,(s2.trans s3).bC a9,at1 _ _ _,by show 2<=sizeLine;decide,λt4 H4 _ s4 g4=>?_⟩;have a4:=s4 _ _ g3;refine⟨_,rfl,_,rfl,l,_,_,g,rfl,rfl,a4,by show ixN R.length (g:Int)=some g;unfold ixN;rw[if_pos (by lia),if_pos (by lia)];rfl,?_⟩;have a7:Same H2 (_root_.L2.upd H4 l (.lst (R.set g (.ref t4)))):=fP hl (s3.trans s4);have g5:_root_.L2.upd H4 l (.lst (R.set g (.ref t4))) l=some (.lst (R.set g (.ref t4))):=aG;have ag:SqT K (_root_.L2.upd H4 l (.lst (R.set g (.ref t4)))) t4 [c0.1,.int i]:=SqT.qQ a4 (SqT.of g4);generalize _root_.L2.upd H4 l (.lst (R.set g (.ref t4)))=H5 at a7 g5 ag ⊢;refine⟨_,rfl,_,rfl,l,_,rfl,SqL.of g5,λp6 H6 _ s6 g6=>?_⟩;have V:=a7.trans s6;have ac:=ab.trans V;have a6:kE K H6 (gZ K H6) (.ref p6) ((.non,aCg g i M)::aCq g i G):=⟨p6,_,rfl,SqT.of g6,by rw[<-bEp];refine aPi (X.imp λ_ _ z=>z.same V) λc1 a2=>?_;rw[am] at a2;cases a2;exact⟨t4,rfl,s6.bC ag⟩⟩
 refine⟨e.v,e.vh,e.vp,.ref p6,e.L,e.t,n,M,aCg g i M,G,aCq g i G,rfl,(B.ens.tb e W).same ac,r,a6,λv' ad H7 s7 hT=>?_⟩;have O:=ac.trans s7;have Y:=B.same O;have au:kJ m { e.t with pl:=.spans n (aCg g i M) (aCq g i G) }:=⟨ok.hd,⟨av,k',ai,ap,aNz g ak b0 b1⟩,ok.few,ok.rows⟩;obtain⟨e',ee⟩:∃e':En,e'={ e with v:=v',vp:=ad,t:={ e.t with pl:=.spans n (aCg g i M) (aCq g i G) } }:=⟨_,rfl⟩;obtain⟨k1,k2⟩:=Y.put (e':=e') (by rw[ee]) (by rw[ee];exact hT) (by rw[ee];exact au);have az:=Y.ens.few;refine⟨_,rfl,x,C,dx,_,_,rfl,O _ _ hx,c,n1,rfl,_,rfl,d,_,rfl,aI9.k (k:=Sum.inr e.n) Y.ens.at_ (by rw[yW];exact nD (by lia)),?_⟩;have ek:putK (enK (l1++e::l2)) (Sum.inr e.n) v'=enK (l1++e'::l2):=by have:=aYq (e':=e') B.ens.nd (by rw[ee]);rw[ee] at this ⊢;exact this
 rw[ek];have aq:=s2.trans (V.trans s7);have J:=k1.st _ _ (Ne.symm B.ne) (aq _ _ gm);have a5:Mvs K _ N fm j:=(a8.same O).kp (λu=>k1.st _ _ (Ne.symm B.ne)) k1.tk;generalize _root_.L2.upd H7 d (.dK (enK (l1++e'::l2)))=H8 at k1 k2 J a5 ⊢;obtain⟨ao,al⟩:=k2.at_;obtain⟨k3,k4⟩:=k2.mv (kvs':=jZ a1 (Sum.inr e.n)) J;refine⟨_,rfl,x,C,ao,_,_,rfl,al,c,n3,rfl,.inr (.inr (.inl ⟨rfl,.inl ⟨_,J⟩⟩)),_,rfl,N,_,Sum.inr e.n,_,rfl,rfl,J,hk,?_⟩;rw[ee] at k4;exact q v' ad _ (((KP.same O).trans (k1.mono λb z=>z.1)).trans (k3.mono λb z=>z.2)) k4 (a5.drop J)
end
end My
namespace L2
open PySem PySem.Spec PyProof.Rows Builtin Builtin.ObjectAttr
end L2
namespace My
open PySem PySem.Spec PyProof.Rows L2
section
variable {P:Program}{w:World}{K:bF9}{mg:bGC}{base:Heap}
def qD (J:L2.St->Hp->Prop)(b:∀N:L2.St->Hp->Prop,(∀σ' H',J σ' H'->N σ' H')->S { D with nx:=N } σ H)(a:∀σ' H',J σ' H'->R D σ' H'):aFd S R D σ H:=b _ a
def bB1 (EX:XK)(b:∀E:XK,(∀v o H₁,EX v o H₁->E v o H₁)->tb σ E D σ H)(a:∀v o H₁,EX v o H₁->exE K S i th D σ v o H₁):aYf K S i tb th D σ H:=b _ a
def aUc (n:H e=none)(a:H T=none):Same H (up2 H e T C dx):=λb o h=>by unfold up2;rw[aM (aW h n),aM (aW h a)];exact h
structure aYu (K:bF9)(mg:bGC)(S:Addr)(ad:Exn->Addr):Prop where
 sm:mg "ShardError"=some (.ref S)
 ss:XS K S
 ex:∀c,ExT K mg dR c.nm "ShardError.__init__" (ad c) S
 mro:∀c d,PySem.W.mroIn K (ad c) (.ref (ad d))=some (decide (c=d))
 ve:∀c,PySem.W.mroIn K (ad c) (.type "ValueError")=some true
inductive Bad (K:bF9)(H:Hp)(m:Int)(es:List En)(f:Str->Option Mv):Int->V->V->V->Exn->Prop
 |tab {way:Int} {v v1 v2:V} {t:Tg}:0<=way->way<8->dD K H v t->(∀e∈es,t≠.str e.n)->Bad K H m es f way v v1 v2 .tab
 |row {way:Int} {v1 v2:V} {e:En} {t:Tg}:0<=way->way<2->e∈es->dD K H v1 t->aGk e.t.hd t=false->Bad K H m es f way (.str e.n) v1 v2 .row
 |span {way:Int} {v1 v2:V} {e:En}:2<=way->way<6->e∈es->aWm e.t.pl->Bad K H m es f way (.str e.n) v1 v2 .span
 |busy {way:Int} {v1 v2:V} {e:En} {n kd:Str} {h0:Int} {cs:List (V × Int)}:way=2->e∈es->e.t.pl=.spans n h0 cs->look e.t.hd n=some kd->f e.n≠none->Bad K H m es f way (.str e.n) v1 v2 .busy
 |low {way:Int} {v1 v2:V} {e:En} {n kd:Str} {h0:Int} {cs:List (V × Int)}:way=2->e∈es->e.t.pl=.spans n h0 cs->look e.t.hd n=some kd->f e.n=none->sZ K H kd cs v1->Bad K H m es f way (.str e.n) v1 v2 .span
 |num {way:Int} {v1 v2:V} {e:En} {n:Str} {h0:Int} {cs:List (V × Int)} {t:Tg}:way=3->e∈es->e.t.pl=.spans n h0 cs->dD K H v1 t->jC (cs.length+1:Nat) t=false->Bad K H m es f way (.str e.n) v1 v2 .span
 |house {way:Int} {v2:V} {e:En} {n:Str} {h0:Int} {cs:List (V × Int)} {num:Nat} {t:Tg}:way=3->e∈es->e.t.pl=.spans n h0 cs->num<=cs.length->dD K H v2 t->(jC m t=false\/t=.int (iI num h0 cs))->Bad K H m es f way (.str e.n) (.int num) v2 .house
 |busy3 {way:Int} {e:En} {n:Str} {h0 house:Int} {cs:List (V × Int)} {num:Nat}:way=3->e∈es->e.t.pl=.spans n h0 cs->num<=cs.length->0<=house->house<m->house≠iI num h0 cs->f e.n≠none->Bad K H m es f way (.str e.n) (.int num) (.int house) .busy
 |stands {way:Int} {v1 v2:V} {e:En} {t:Tg}:way=7->e∈es->dD K H v1 t->jC m t=false->Bad K H m es f way (.str e.n) v1 v2 .house
 |move {way:Int} {v1 v2:V} {e:En} {n:Str} {h0:Int} {cs:List (V × Int)}:4<=way->way<6->e∈es->e.t.pl=.spans n h0 cs->f e.n=none->Bad K H m es f way (.str e.n) v1 v2 .move
section
variable {H:Hp}{E:XK}{m way:Int}{es:List En}{f:Str->Option Mv}{v v1 v2:V}{c:Exn}{ad:Exn->Addr}
def Bad.same (s:Same H H')(h:Bad K H m es f way v v1 v2 c):Bad K H' m es f way v v1 v2 c:=by
 cases h with
 |tab a b t d=>exact .tab a b (t.same s) d
 |row a b e t d=>exact .row a b e (t.same s) d
 |span a b e d=>exact .span a b e d
 |busy a e p l d=>exact .busy a e p l d
 |low a e p l d b=>exact .low a e p l d (b.same s)
 |num a e p t d=>exact .num a e p (t.same s) d
 |house a e p n t d=>exact .house a e p n (t.same s) d
 |busy3 a e p n b0 b1 d g=>exact .busy3 a e p n b0 b1 d g
 |stands a e t d=>exact .stands a e (t.same s) d
 |move a b e p d=>exact .move a b e p d
def Bad.ref (h:Bad K H m es f way v v1 v2 c)(g:Rf H E (ad c))(hw:way<2):aD1 K (ad .tab) E H es v\/∃e∈es,v=.str e.n/\(∃t,dD K H v1 t/\aGk e.t.hd t=false)/\Rf H E (ad .row):=by
 cases h with
 |tab a b t d=>exact .inl ⟨_,t,d,g⟩
 |row a b e t d=>exact .inr ⟨_,e,rfl,⟨_,t,d⟩,g⟩
 |_=>exfalso;lia
def Bad.split (h:Bad K H m es f way v v1 v2 c)(g:Rf H E (ad c))(hw:way=2):aJ1 K (ad .tab) (ad .span) E H es v\/∃e n kd h0 cs,v=.str e.n/\e∈es/\e.t.pl=.spans n h0 cs/\look e.t.hd n=some kd/\(f e.n≠none->Rf H E (ad .busy))/\(f e.n=none->sZ K H kd cs v1/\Rf H E (ad .span)):=by
 cases h with
 |tab a b t d=>exact .inl (.inl ⟨_,t,d,g⟩)
 |span a b e d=>exact .inl (.inr ⟨_,e,rfl,d,g⟩)
 |busy a e p l d=>exact .inr ⟨_,_,_,_,_,rfl,e,p,l,λ_=>g,λz=>absurd z d⟩
 |low a e p l d b=>exact .inr ⟨_,_,_,_,_,rfl,e,p,l,λz=>absurd d z,λ_=>⟨b,g⟩⟩
 |_=>exfalso;lia
def Bad.mov (h:Bad K H m es f way v v1 v2 c)(g:Rf H E (ad c))(i:aX K H C x m d dm es)(k:Mvs K H dm f j)(h4:4<=way)(h6:way<6):aZo K C (ad .tab) (ad .span) (ad .move) E H x v:=by
 refine⟨d,dm,m,es,i,?_⟩;cases h with
 |tab a b t d=>exact .inl (.inl ⟨_,t,d,g⟩)
 |span a b e d=>exact .inl (.inr ⟨_,e,rfl,d,g⟩)
 |move a b e p d=>exact .inr ⟨_,_,_,_,rfl,e,p,k.d _ d,g⟩
 |_=>exfalso;lia
end
inductive aBn (K:bF9)(C:Addr)(ad:Exn->Addr)(vs:List V)(H:Hp)(Q:VK)(E:XK):Prop
 |mk (x d dm:Addr) (m way:Int) (es:List En) (v v1 v2:V) (f:Str->Option Mv) (j:Nat) (_:vs=[.ref x,.int way,v,v1,v2]) (_:aX K H C x m d dm es) (_:Mvs K H dm f j) (_:((∃c,Bad K H m es f way v v1 v2 c/\Rf H E (ad c))\/(way=5/\aZl K C (ad .yet) [.ref x,v] H Q E)))
def aJh (T:Txt w K mg){C:Addr}{ad:Exn->Addr}(J:cZ P w K mg base C 5 "put" bQA (aEt K C (ad .tab) (ad .row)))(I:cZ P w K mg base C 5 "drop" bQA (aEt K C (ad .tab) (ad .row)))(F:cZ P w K mg base C 5 "split" bQV (aG9 K C (ad .tab) (ad .span) (ad .busy)))
  (G:cZ P w K mg base C 5 "lend" bQC (aPg K C (ad .tab) (ad .span) (ad .house) (ad .busy))) (D:cZ P w K mg base C 5 "carry" bQN (aHs K C (ad .tab) (ad .span) (ad .move))) (r:cZ P w K mg base C 6 "settle" n6 (aDn K C (ad .tab) (ad .span) (ad .move) (ad .yet)))
  (q:cZ P w K mg base C 4 "moving" n6 (wC K C (ad .tab))) (u:cZ P w K mg base C 5 "stands" bQS (aBz K C (ad .tab) (ad .house))):OkX P w K mg base 7 "_law_did" n7 (aBn K C ad):=by
 refine OkX.ofV T.aM4 aIo (by trivial) (λf a1 A a0 s H vs Q E N h=>?_)
 obtain⟨x,d,W,m,l,S,v,R,v2,Z,j,rfl,L,X,h⟩:=h;refine⟨_,(aB (bM (eG cW (vv 1) aA) (aD (aK (cJ (J.mono (by decide)) N dB (vv 0) (aF (vv 2) (va1 (vv 3)))))) aQ) (aB (bM (eG cW (vv 1) aA) (aD (aK (cJ (I.mono (by decide)) N dB (vv 0) (aF (vv 2) (va1 (vv 3)))))) aQ) (aB (bM (eG cW (vv 1) aA) (aD (aK (cJ (F.mono (by decide)) N dB (vv 0) (aF (vv 2) (va1 (vv 3)))))) aQ) (aB (bM (eG cW (vv 1) aA) (aD (aK (cJ (G.mono (by decide)) N dB (vv 0) (aF (vv 2) (aF (vv 3) (va1 (vv 4))))))) aQ) (aB (bM (eG cW (vv 1) aA) (aD (aK (cJ (D.mono (by decide)) N dB (vv 0) (aF (vv 2) (va1 (vv 3)))))) aQ) (aB (bM (eG cW (vv 1) aA) (aD (aK (cJ (r.mono (by decide)) N dB (vv 0) (va1 (vv 2))))) aQ) (aB (bM (eG cW (vv 1) aA) (aD (aK (cJ (q.mono (by decide)) N dB (vv 0) (va1 (vv 2))))) aQ) (aD (aK (cJ (u.mono (by decide)) N dB (vv 0) (aF (vv 2) (va1 (vv 3))))))))))))),?_⟩;obtain⟨M,O⟩:=L.at_;have U:l≠5->∃c,Bad K H m S Z l v R v2 c/\Rf H E (ad c):=λz=>h.resolve_right λy=>z y.1;have i:∀{k:Int},l≠k->decide (V.int l=V.int k)=false:=λz=>v5 λy=>z (V.int.inj y);refine⟨_,rfl,rfl,_,rfl,?_⟩;by_cases w0:l=0
 ·obtain⟨c,B,o⟩:=U (by lia);exact dZ (by rw[w0];rfl) ⟨_,rfl,x,M,_,rfl,O,rfl,_,rfl,_,rfl,x,d,W,m,S,v,R,rfl,L,B.ref o (by lia)⟩
 refine dU (i w0) ⟨_,rfl,rfl,_,rfl,?_⟩;by_cases w1:l=1
 ·obtain⟨c,B,o⟩:=U (by lia);exact dZ (by rw[w1];rfl) ⟨_,rfl,x,M,_,rfl,O,rfl,_,rfl,_,rfl,x,d,W,m,S,v,R,rfl,L,B.ref o (by lia)⟩
 refine dU (i w1) ⟨_,rfl,rfl,_,rfl,?_⟩;by_cases w2:l=2
 ·obtain⟨c,B,o⟩:=U (by lia);exact dZ (by rw[w2];rfl) ⟨_,rfl,x,M,_,rfl,O,rfl,_,rfl,_,rfl,x,d,W,m,S,v,R,Z,j,rfl,L,X,B.split o w2⟩
 refine dU (i w2) ⟨_,rfl,rfl,_,rfl,?_⟩;by_cases w3:l=3
 ·obtain⟨c,B,o⟩:=U (by lia);refine dZ (by rw[w3];rfl) ⟨_,rfl,x,M,_,rfl,O,rfl,_,rfl,_,rfl,_,rfl,x,d,W,m,S,v,R,v2,Z,j,rfl,L,X,?_⟩;cases B with
  |tab a b t d=>exact .inl (.inl ⟨_,t,d,o⟩)
  |span a b e d=>exact .inl (.inr ⟨_,e,rfl,d,o⟩)
  |num a e p t d=>exact .inr ⟨_,_,_,_,rfl,e,p,.inl ⟨_,t,d,o⟩⟩
  |house a e p n t d=>exact .inr ⟨_,_,_,_,rfl,e,p,.inr ⟨_,rfl,n,.inl ⟨_,t,d,o⟩⟩⟩
  |busy3 a e p n b0 b1 d g=>exact .inr ⟨_,_,_,_,rfl,e,p,.inr ⟨_,rfl,n,.inr ⟨_,rfl,b0,b1,d,λ_=>o,λz=>absurd z g⟩⟩⟩
  |_=>exfalso;lia
 refine dU (i w3) ⟨_,rfl,rfl,_,rfl,?_⟩;by_cases w4:l=4
 ·obtain⟨c,B,o⟩:=U (by lia);exact dZ (by rw[w4];rfl) ⟨_,rfl,x,M,_,rfl,O,rfl,_,rfl,_,rfl,.inr ⟨x,v,R,rfl,B.mov o L X (by lia) (by lia)⟩⟩
 refine dU (i w4) ⟨_,rfl,rfl,_,rfl,?_⟩;by_cases Y:l=5
 ·refine dZ (by rw[Y];rfl) ⟨_,rfl,x,M,_,rfl,O,rfl,_,rfl,?_⟩;rcases h with⟨c,B,o⟩|⟨_,h⟩
  ·exact .inr ⟨x,v,rfl,B.mov o L X (by lia) (by lia)⟩
  ·exact .inl h
 obtain⟨c,B,o⟩:=U Y;refine dU (i Y) ⟨_,rfl,rfl,_,rfl,?_⟩;by_cases w6:l=6
 ·refine dZ (by rw[w6];rfl) ⟨_,rfl,x,M,_,rfl,O,rfl,_,rfl,x,d,W,m,S,v,rfl,L,?_⟩;cases B with
  |tab a b t d=>exact .inr ⟨_,t,d,o⟩
  |_=>exfalso;lia
 refine dU (i w6) ⟨_,rfl,x,M,_,rfl,O,rfl,_,rfl,_,rfl,x,d,W,m,S,v,R,rfl,L,?_⟩;cases B with
 |tab a b t d=>exact .inl ⟨_,t,d,o⟩
 |stands a e t d=>exact .inr ⟨_,e,rfl,⟨_,t,d⟩,o⟩
 |_=>exfalso;lia
def aNq (i j:Nat)(e:(y,NameKind.free)∈scope.names)(k:(z,NameKind.free)∈scope.names)(hi:X.N[i]?=some y)(c:X.N[j]?=some z)(h:σ[i]?=some (some u))(g:σ[j]?=some (some v))(d:Vis X.env.scope y)(f:Vis X.env.scope z):Cap X scope [x,y,z] σ [none,some u,some v]:=
 ⟨rfl,λn q r b a=>by
  match n,b,a with
  |0,_,a=>cases a
  |1,b,a=>cases b;cases a;exact⟨e,i,hi,h,d⟩
  |2,b,a=>cases b;cases a;exact⟨k,j,c,g,f⟩
  |n+3,b,_=>cases b⟩
def cF.fx (f:Fx a H H')(h:fM H a)(i:D≠a)(r:cF K H D rs):cF K H' D rs:=by obtain⟨c,g,d⟩:=r;exact⟨c,f.same _ _ i g,d.imp λ_ _ ⟨p,e,b⟩=>⟨p,e,f.bC h b⟩⟩
def aKz (e:((List.range n).map λi:Nat=>V.int (0+(i:Int)))[i]?=some x):i<n/\x=.int (0+(i:Int)):=by
 have a:i<n:=by have:=(List.getElem?_eq_some_iff.mp e).1;rw[j7,bAM] at this;exact this
 rw[t7,bCV a] at e;exact⟨a,(bAH e).symm⟩
def aIk (b:L2.St)(a:Cap X scope N σ b)(h:ta σ H λvs H1=>∃j:Int,vs=[.int j]/\-(2 ^ 62)<=j/\j<2 ^ 62/\oH (Itr 0 j.toNat) H1 b g tt te Q):jE X scope N (aTd ta) g tt te σ H Q:=⟨b,a,h⟩
theorem aO6 {K:bF9}{H:Hp}{Pr:List V->Prop}:∀{ys:List V},(∀y∈ys,∃r,dJ K H y r/\Pr r)->∃rs,dO (dJ K H) ys rs/\∀r∈rs,Pr r
 |[],_=>⟨[],.nil,λr h=>by cases h⟩
 |y::ys,h=>by
  obtain⟨r,d,c⟩:=h y j4;obtain⟨rs,e,b⟩:=aO6 λz a=>h z (j5 _ a);refine⟨r::rs,.cons d e,λx hx=>?_⟩;rcases List.mem_cons.mp hx with rfl|hx
  ·exact c
  ·exact b x hx
def bBm {X:Cx}{K:bF9}{o e:Expr}{es:List Expr}{to:TE}{t:TA}{name:Str}{apos cpos:Pos}{T id:String}{r:V->List V->Hp->VK->Prop}(h:PlainAttrs T)(slot:Slot T name id)(f:typeOf (.builtin id)=pure (.type "method_descriptor"))(g:MtR X id r)(ho:VE X o to)(j:VA X (e::es) t)
  (b:attributeBase o name X.env (eval o X.env)=eval o X.env:=by rfl)
  (d:((backTo cpos (starEach (e::es) X.env)).all (λx=>!x.1) && (backToKw cpos (keywordEach [] X.env)).all (λx=>x.1.isSome)
   && decide ((e::es).length+([]:List Keyword).length+(if ([]:List Keyword).isEmpty then 0 else 1)<30))=true:=by rfl)
  (c:(apos.endLine == cpos.line)=true:=by rfl) (i:cB e=true:=by rfl) (a:(backTo cpos (starEach es X.env)).any (·.1)=false:=by rfl) (k:X.K=K:=by rfl) :
  VE X (.Call (.Attribute o name apos) (e::es) [] cpos) (tBM K T r to t):=by subst k;exact aEq h slot f g ho j b d c i a
abbrev wds:List V:=[.str "table",.str "row",.str "span",.str "busy",.str "house",.str "move",.str "not yet",.str "town",.str "other"]
def Rk (c:Exn):List V:=[.bl (decide (c=.tab)),.bl (decide (c=.row)),.bl (decide (c=.span)),.bl (decide (c=.busy)),.bl (decide (c=.house)),.bl (decide (c=.move)),.bl (decide (c=.yet)),.bl (decide (c=.bad)),.bl false]
def pk (R:List V)(i:Nat):Bool:=match R[i]? with|some (.bl b)=>b|_=>false
def Exn.ix:Exn->Nat
 |.tab=>0|.row=>1|.span=>2|.busy=>3|.house=>4|.move=>5|.yet=>6|.bad=>7
def aUa (c:Exn):sel (pk (Rk c)) 0 (List.range 9)=[c.ix]/\wds[c.ix]?=some (.str c.wd):=by cases c <;> exact⟨rfl,rfl⟩
def PkR (R W:List V):Prop:=(R=[]/\W=[])\/∃c:Exn,R=Rk c/\W=[.str c.wd]
def PkR.bl (h:PkR R W)(hi:i<R.length):R[i]?=some (.bl (pk R i)):=by
 rcases h with⟨rfl,_⟩|⟨c,rfl,_⟩
 ·cases hi
 ·have hi:=hi
  match i,hi with
  |0,_=>rfl
  |1,_=>rfl
  |2,_=>rfl
  |3,_=>rfl
  |4,_=>rfl
  |5,_=>rfl
  |6,_=>rfl
  |7,_=>rfl
  |8,_=>rfl
def PkR.len {R W:List V}(h:PkR R W):R.length<=9:=by
 rcases h with⟨rfl,_⟩|⟨c,rfl,_⟩
 ·decide
 ·exact j0 9
theorem PkR.ys {R W ys:List V}{H:Hp}(h:PkR R W)(d:pX (λi y=>wds[i]?=some y) (sel (pk R) 0 (List.range R.length)) ys):ys=W:=by
 rcases h with⟨rfl,rfl⟩|⟨c,rfl,rfl⟩
 ·cases d;rfl
 ·rw[show (Rk c).length=9 from rfl,(aUa c).1] at d;cases d with
  |cons a b=>cases b;rw[(aUa c).2] at a;cases a;rfl
def wdQ (Q:VK):VK:=λ_ H1=>∀l H',Same H1 H'->H' l=some (.lst [])->Q (.ref l) H'
def wdE (ad:Exn->Addr)(Q:VK):XK:=λu o H1=>∃c a,u=.ref (ad c)/\o=some a/\∀l H',Same H1 H'->H' l=some (.lst [.str c.wd])->Q (.ref l) H'
def uZ (K:bF9)(C:Addr)(ad:Exn->Addr):Sp:=λvs H Q _=>aBn K C ad vs H (wdQ Q) (wdE ad Q)
def aQy {C l:Addr}{ad:Exn->Addr}{vs us:List V}{H H1:Hp}{Q Q':VK}{E E':XK}(s:Same H H1)(g:H1 l=some (.lst us))(h:aBn K C ad vs H Q E)(P:∀v H',Q v H'->H' l=some (.lst us)->Q' v H')(I:∀v o H',E v o H'->E' v o H'):aBn K C ad vs H1 Q' E':=by
 obtain⟨x,d,M,m,p,O,v,w,F,f,j,e,u,t,h⟩:=h;refine⟨x,d,M,m,p,O,v,w,F,f,j,e,u.same s,t.same s,?_⟩;rcases h with⟨c,N,J⟩|⟨hw,x',d',dm',m',l1,l2,e',mq,n,h0,cs,f',j',a1,i,a3,b,a5,a6,a7,a8,a9,a10,q⟩
 ·exact .inl ⟨c,N.same s,λa H' k=>I _ _ _ (J a H' (s.trans k))⟩
 ·have i:=i.same s;have b:=b.same s;obtain⟨D,B,_⟩:=id b;have A:=i.ens.at_;exact .inr ⟨hw,x',d',dm',m',l1,l2,e',mq,n,h0,cs,f',j',a1,i,a3,b,a5,a6,λz a H' k=>I _ _ _ (a7 z a H' (s.trans k)),a8,a9,a10,λz v y H' r G L=>P _ _ (q z v y H' ((KP.same s).trans r) G L) (r.st _ _ ⟨λz=>(by rw[z,A] at g;cases g),λz=>(by rw[z,B] at g;cases g)⟩ g)⟩
def aFf (T:Txt w K mg){C S:Addr}{t:Exn->Addr}(p:aYu K mg S t)(a7:OkX P w K mg base 7 "_law_did" n7 (aBn K C t)):Ok P w K mg base 8 "_law_word" n7 (uZ K C t):=by
 refine Ok.ofV T.aKq nG (by trivial) (λf ag A ae s H vs Q E hr h=>?_)
 obtain⟨x,a6,v,v1,v2,rfl⟩:∃x a6 v v1 v2,vs=[.ref x,.int a6,v,v1,v2]:=by obtain⟨x,d,dm,m,a6,es,v,v1,v2,fm,j,rfl,_⟩:=h;exact⟨x,a6,v,v1,v2,rfl⟩
 have b:=p.sm;have k:=p.ss;have xg:∀c:Exn,∃u,mg c.nm=some u/\RelV (.ref (t c)) u:=λc=>⟨_,(p.ex c).mg,rfl⟩;have L:=xg .tab;have a3:=xg .row;have X:=xg .span;have a8:=xg .busy;have M:=xg .house;have a1:=xg .move;have a2:=xg .yet;have O:=xg .bad;have G:=(p.ex .tab).cls;have a5:=(p.ex .row).cls;have Y:=(p.ex .span).cls;have a9:=(p.ex .busy).cls;have J:=(p.ex .house).cls;have Z:=(p.ex .move).cls;have a0:=(p.ex .yet).cls;have I:=(p.ex .bad).cls;have a:=aOm;have nd:=nG.nd;refine⟨_,(aB (aY 5 (bQ zV)) (aB (aZ2 (i:=6) rfl rfl nG.nd rfl rfl (by rfl) b k (λah σ₀ E ok=>(aD (eF (aPv ok (a7.mono (by decide)) hr (by rfl) (aF (vv 0) (aF (vv 1) (aF (vv 2) (aF (vv 3) (va1 (vv 4)))))))))) (λe=>(aB (aY 5 (bQ (aF (aL (iV (K:=K) G) (by rfl) T.aZ aV (aF (vv 6) (va1 (iU (by rfl) L)))) (aF (aL (iV (K:=K) a5) (by rfl) T.aZ aV (aF (vv 6) (va1 (iU (by rfl) a3)))) (aF (aL (iV (K:=K) Y) (by rfl) T.aZ aV (aF (vv 6) (va1 (iU (by rfl) X)))) (va1 (aL (iV (K:=K) a9) (by rfl) T.aZ aV (aF (vv 6) (va1 (iU (by rfl) a8)))))))))) (aB (aY 5 (bI pP (vv 5) (bQ (aF (aL (iV (K:=K) J) (by rfl) T.aZ aV (aF (vv 6) (va1 (iU (by rfl) M)))) (aF (aL (iV (K:=K) Z) (by rfl) T.aZ aV (aF (vv 6) (va1 (iU (by rfl) a1)))) (aF (aL (iV (K:=K) a0) (by rfl) T.aZ aV (aF (vv 6) (va1 (iU (by rfl) a2)))) (va1 (aL (iV (K:=K) I) (by rfl) T.aZ aV (aF (vv 6) (va1 (iU (by rfl) O))))))))))) (aD (eF (bBm (K:=K) PySem.F.plainAttrs_list PySem.F.slot_list_append PySem.F.type_list_append rP (vv 5) (va1 (aUt (aR5 (aL (aX4 (K:=K)) (by rfl) T.aZ aV (aF (vv 6) (va1 (eY (v:=.ty "ValueError") (by rfl) T.tZ a rfl))))) (fX (tL aE8 (bA9 (K:=K) (vv 6)) cD))))))))))) (aB (aY 7 (bQ (aF aP (aF aP (aF aP (aF aP (aF aP (aF aP (aF aP (aF aP (va1 aP))))))))))) (aD (aK (cU (N:=["_law_k","_law_words_here","_law_kinds"]) ck (iG (aC pK)) rfl (fK (by rfl) T.iK (va1 (aL bA (by rfl) T.eU cN (va1 (vv 5))))) (λcl s' H' fp=>⟨(jH 0),(zX (bR (aU (aIa (K:=K)) (vv 2) (vv 0)))),(aU (aIa (K:=K)) (vv 1) (vv 0))⟩))))))),?_⟩;refine⟨(by show 0<=sizeLine;decide),λl H1 fl s1 g1=>?_⟩;dsimp only[bF,List.set];refine qD (S:=aYf _ _ _ _ _) (fun σ H'=>∃l' R W u,σ=[some (.ref x),some (.int a6),some v,some v1,some v2,some (.ref l'),u,none]/\H' l'=some (.lst R)/\PkR R W/\∀l2 H2,Same H' H2->H2 l2=some (.lst W)->Q (.ref l2) H2) (λNX hN=>bB1 (wdE t Q) (λE hE=>?_) λu o H₁ hv=>?_) fun σ' H' hJ=>?_
 ·exact⟨rfl,_,rfl,_,rfl,_,rfl,_,rfl,_,rfl,aQy s1 g1 h (λu H2 q g=>hN _ _ ⟨l,[],[],none,rfl,g,.inl ⟨rfl,rfl⟩,λl2 H3 s3 g3=>q l2 H3 s3 g3⟩) hE⟩
 ·obtain⟨c,e,rfl,rfl,q⟩:=hv;obtain⟨⟨fI,fd,xc,F,B⟩,mc,kp,hc,ac⟩:=p.ex c;refine⟨t c,e,fI,rfl,rfl,xc,ac,λTb dx n nT af hd=>?_⟩;have su:=aUc (C:=t c) (dx:=dx) n nT;have he:up2 H₁ e Tb (t c) dx e=some (aCt e Tb (t c) dx):=aG;have z:up2 H₁ e Tb (t c) dx dx=some xdA:=su _ _ hd;generalize up2 H₁ e Tb (t c) dx=H2 at he z su ⊢;refine⟨_,rfl,e,Tb,t c,dx,fI,_,rfl,he,xc,z,p.mro c .tab,trivial,?_⟩;refine⟨_,rfl,e,Tb,t c,dx,fI,_,rfl,he,xc,z,p.mro c .row,trivial,?_⟩;refine⟨_,rfl,e,Tb,t c,dx,fI,_,rfl,he,xc,z,p.mro c .span,trivial,?_⟩;refine⟨_,rfl,e,Tb,t c,dx,fI,_,rfl,he,xc,z,p.mro c .busy,trivial,(by show 4<=sizeLine;decide),λl3 H3 f3 s3 g3=>?_⟩;dsimp only[bF,List.set];have aa:=s3 _ _ he;have U:=s3 _ _ z;refine⟨_,rfl,_,rfl,e,Tb,t c,dx,fI,_,rfl,aa,xc,U,p.mro c .house,trivial,?_⟩;refine⟨_,rfl,e,Tb,t c,dx,fI,_,rfl,aa,xc,U,p.mro c .move,trivial,?_⟩;refine⟨_,rfl,e,Tb,t c,dx,fI,_,rfl,aa,xc,U,p.mro c .yet,trivial,?_⟩;refine⟨_,rfl,e,Tb,t c,dx,fI,_,rfl,aa,xc,U,p.mro c .bad,trivial,(by show 4<=sizeLine;decide),λl4 H4 f4 s4 g4=>?_⟩;refine⟨l3,l4,_,_,rfl,rfl,s4 _ _ g3,g4,small (by show 8<=1000;decide),λl5 H5 f5 s5 g5=>?_⟩;have a4:=s3.trans (s4.trans s5);dsimp only[bF,List.set];refine⟨_,rfl,.inl ⟨rfl,_,SqL.of g5⟩,_,rfl,e,Tb,t c,dx,fI,_,rfl,a4 _ _ he,xc,a4 _ _ z,p.ve c,trivial,_,rfl,_,rfl,?_⟩;refine bZ ⟨_,rfl,e,Tb,t c,dx,fI,rfl,a4 _ _ he,xc,a4 _ _ z,rfl,l5,_,_,rfl,rfl,g5,(by show 8<sizeLine;decide),?_⟩;exact hN _ _ ⟨l5,Rk c,[.str c.wd],none,rfl,aG,.inr ⟨c,rfl,rfl⟩,λl2 H6 s6 g6=>q l2 H6 ((su.trans (fP (none_of (s3.trans s4) f5) a4)).trans s6) g6⟩
 ·obtain⟨l',R,W,u,rfl,gR,hR,q⟩:=hJ;refine⟨(by show 9<=sizeLine;decide),λlw H2 _ s2 g2=>?_⟩;dsimp only[bF,List.set,sH];have l9:=hR.len;refine aIk [none,some (.ref lw),some (.ref l')] (aNq 7 5 (by trivial) (by trivial) rfl rfl rfl rfl (by trivial) (by trivial)) ?_;refine⟨_,rfl,l',R,rfl,.inl (SqL.of (s2 _ _ gR)),(R.length:Int),rfl,by lia,by lia,?_⟩;refine aUq Same (aWl _) ((List.range R.length).map λi:Nat=>V.int (0+(i:Int))) (pk R) (λi _ y=>wds[i]?=some y) (λ_ _ h=>h) (λ_ _ _ h=>h) (λi σ=>σ=[some (.int (0+(i:Int))),some (.ref lw),some (.ref l')]/\i<R.length) (fun σ=>∃l,σ=[l,some (.ref lw),some (.ref l')]) ⟨none,rfl⟩ (small (by rw[j7,bAM];lia)) (Itr 0 R.length) (λH3 i x _ ex=>?_) (λH3 _=>?_) (λi x σ' H3 Q' ex ps _ r=>?_) (λi x σ2 ex at2 H3 R' s3 r=>?_) (λi x σ2 ex at2 hp H3 R' s3 r=>?_) λD H3 ys s3 _ gD ab=>?_
  ·obtain⟨hi,rfl⟩:=aKz ex;exact⟨hi,λy H2 hy=>hy⟩
  ·show R.length<=_;rw[j7,bAM];exact j0 _
  ·obtain⟨hi,rfl⟩:=aKz ex;obtain⟨l,rfl⟩:=ps;exact r _ ⟨_,rfl⟩ ⟨rfl,hi⟩
  ·obtain⟨rfl,hi⟩:=at2;rw[bFX];exact⟨_,rfl,_,rfl,l',R,_,.bl (pk R i),rfl,rfl,SqL.of (s3 _ _ (s2 _ _ gR)),bO (hR.bl hi),_,rfl,r H3 (Same.refl _)⟩
  ·obtain⟨rfl,hi⟩:=at2;rw[bFX];have hw:i<wds.length:=by show i<9;lia
   exact⟨_,rfl,_,rfl,lw,wds,_,wds[i],rfl,rfl,SqL.of (s3 _ _ g2),bO (b8 hw),r _ H3 (Same.refl _) (b8 hw)⟩
  ·rw[j7,bAM] at ab;have:=hR.ys (H:=H3) ab;subst this;exact q D H3 (s2.trans s3) gD
def aW6:PPs X pos [] [] []:=aXw
def aH3 (b:VE X k tk)(a:VE X v tv)(c:PPs X pos ks vs trs):PPs X pos (some k::ks) (v::vs) ((tk,tv)::trs):=aU2 b.1 a.1 c
def aXy (h:PPs X pos keys values trs)(a:keys.all (·.isSome)=true)(d:keys.length=values.length)(c:keys≠[])(b:keys.length<=15):VE X (.Dict keys values pos) (aYs trs):=⟨aYb h a d c b⟩
def aLv (h:fM H a)(f:Fx a H H'):Tst K H H':=by
 refine⟨λb c g=>f.bC h g,λb c g=>?_⟩;by_cases z:b=a
 ·obtain⟨s,e,_⟩:=f.st;exact⟨_,z ▸ e⟩
 ·exact⟨_,f.same b _ z g⟩
def aEu (h:dD K H v (.tup ts)):∃a vs,v=.ref a/\SqT K H a vs/\vs.length<=1000/\cM K H vs ts:=by
 cases h with
 |tup g l h=>exact⟨_,_,rfl,g,l,h⟩
def aWb (h:cM K H vs ts)(k:cM K H us rs):cM K H (vs++us) (ts++rs):=by
 induction ts generalizing vs with
 |nil=>cases h;exact k
 |cons t ts ih=>cases h with|cons a b=>exact .cons a (ih b)
def aGx (g:SqT K H a vs)(h:cM K H vs ts)(l:ts.length<=1000):dD K H (.ref a) (.tup ts):=.tup g (by rw[h.len];exact l) h
section
variable {σ:L2.St}{H0:Hp}
abbrev RV:=Hp->V->Prop
def Bd (σ:L2.St)(H0:Hp)(t:TE)(R:RV):Prop:=∀H Q,Same H0 H->(∀v H',Same H H'->R H' v->Q v H')->t σ H Q
def BdA (σ:L2.St)(H0:Hp)(t:TA)(R:Hp->List V->Prop):Prop:=∀H Q,Same H0 H->(∀vs H',Same H H'->R H' vs->Q vs H')->t σ H Q
def TR (K:bF9)(t:Tg):RV:=λH v=>dD K H v t
def TRs (K:bF9)(ts:List Tg):Hp->List V->Prop:=λH vs=>cM K H vs ts
def uK (h:∀H,dD K H x t):Bd σ H0 (tC x) (TR K t):=λH Q s q=>q x H (Same.refl H) (h H)
def aMv (a:x.length<=1000):Bd σ H0 (tC (.str x)) (TR K (.str x)):=uK λH=>.str a
def aWr (h:σ[i]?=some (some v))(r:dD K H0 v t):Bd σ H0 (mL i) (TR K t):=λH Q s q=>⟨v,h,q v H (Same.refl H) (r.same s)⟩
def nP:BdA σ H0 qO (TRs K []):=λH Q s q=>q [] H (Same.refl H) .nil
def bK (h:Bd σ H0 t (TR K x))(f:BdA σ H0 ts (TRs K xs)):BdA σ H0 (dN t ts) (TRs K (x::xs)):=
 λH Q s q=>h H _ s λv d a r=>f d _ (s.trans a) λg e b c=>q _ _ (a.trans b) (.cons (dD.same b r) c)
def aNi (h:BdA σ H0 ts (TRs K xs))(b:xs.length<=1000):Bd σ H0 (aSz ts) (TR K (.tup xs)):=
 λH Q s q=>h H _ s λf g d r=>⟨small (by rw[cM.len r];exact b),λp e _ a c=>q _ _ (d.trans a) (aGx (SqT.of c) (cM.same a r) b)⟩
def LP (K:bF9)(H0:Hp)(xs:List Tg):RV:=λH v=>∃p vs,v=.ref p/\H0 p=none/\H p=some (.lst vs)/\cM K H vs xs
def bD8 (h:BdA σ H0 ts (TRs K xs))(f:xs.length<=1000):Bd σ H0 (aUm ts) (LP K H0 xs):=
 λH Q s q=>h H _ s λe i a r=>⟨small (by rw[cM.len r];exact f),λp g c b d=>q _ _ (a.trans b) ⟨p,e,rfl,none_of (s.trans a) c,d,cM.same b r⟩⟩
def aS0 (w:Bd σ H0 t1 (TR K (.tup xs)))(z:Bd σ H0 t2 (TR K (.tup ys)))(o:xs.length+ys.length<=1000):Bd σ H0 (tOp (aOo K) t1 t2) (TR K (.tup (xs++ys))):=
 λH Q s q=>w H _ s λv k c i=>z k _ (s.trans c) λu t d g=>by obtain⟨p,j,rfl,n,_,a⟩:=aEu (i.same d);obtain⟨m,h,rfl,l,_,e⟩:=aEu g;have x:=a.len;have A:=e.len;exact⟨p,m,j,h,rfl,rfl,n,l,small (by lia),λr y b f=>q _ _ (c.trans (d.trans b)) (aGx f ((aWb a e).same b) (by rw[bAB];exact o))⟩
def aTj (h:cM K H vs ts):cM K H (vs.drop 1) (ts.drop 1):=by
 cases h with
 |nil=>exact .nil
 |cons _ t=>exact t
def aX2 (k:Bd σ H0 t1 (TR K (.tup xs)))(hl:xs.length<=1000):Bd σ H0 (tSl (bCf K) t1 (aPb (tC (.int 1))) yQ) (TR K (.tup (xs.drop 1))):=
 λH Q s q=>k H _ s λv i f e=>by obtain⟨p,a,rfl,g,_,d⟩:=aEu e;refine⟨1,rfl,p,a,rfl,g,λj h b c=>q _ _ (f.trans b) ?_⟩;rw[show oJ a (some 1) none=a.drop 1 from vQ a 1] at c;exact aGx c ((aTj d).same b) (by rw[bBL];lia)
def aYd (h:Bd σ H0 t (TR K (.tup xs))):Bd σ H0 (tCB (aK0 K) (dN t qO)) (TR K .lst):=
 λH Q s q=>h H _ s λv i a r=>by obtain⟨p,b,rfl,e,_,f⟩:=aEu r;exact⟨p,b,rfl,.inr e,λl g _ c d=>q _ _ (a.trans c) (.lst d)⟩
def bCl (h:Bd σ H t R)(k:∀v H',Same H H'->R H' v->rest D (σ.set i (some v)) H'):aFd (aB5 t (bF i)) rest D σ H:=h H _ (Same.refl H) λv H' s r=>k v H' s r
end
def bBf (kd:Str):Tg:=if kd = "number" then .str "a" else .int 0
def aXb (h:aF2 kd):vW kd (bBf kd)=false:=by rcases h with rfl|rfl <;> decide +kernel
def aJx (kd:Str):V:=if kd = "number" then .str "a" else .int 0
def bAd:dD K H (aJx kd) (bBf kd):=by
 unfold aJx bBf;by_cases e:kd = "number"
 ·rw[if_pos e,if_pos e];exact .str (by trivial)
 ·rw[if_neg e,if_neg e];exact .int
def aH1 {hd:Hdr}{ts:List Tg}(h:ts.length≠hd.length):aGk hd (.tup ts)=false:=Bool.and_eq_false_iff.mpr (.inl (v5 h))
def sX {hd:Hdr}{c:Str × Str}{x:Tg}{a:List Tg}(b:hd[0]?=some c)(h:vW c.2 x=false):aGk hd (.tup (x::a))=false:=by
 cases hd with
 |nil=>cases b
 |cons c' r=>cases b;have e:aGk (c::r) (.tup (x::a))=(decide ((x::a).length=(c::r).length) && (vW c.2 x && (a.zip r).all λp=>vW p.2.2 p.1)):=rfl;rw[e,h,Bool.false_and,Bool.and_false]
inductive aDp (K:bF9)(vs:List V)(H:Hp)(Q:VK)(E_:XK):Prop
 |mk (a:Addr) (vh:V) (hd:Hdr) (_:vs=[.ref a,vh]) (_:fM H a) (_:jK K H vh hd) (_:aP3 hd) (_:∀u H' t,Fx a H H'->dD K H' u t->aGk hd t=false->Q u H')
def yH (T:Txt w K mg)(aH:Ok P w K mg base 1 "_law_next" n8 jJ)(sS:Ok P w K mg base 4 "_law_row" o7 (aF5 K)):Ok P w K mg base 5 "_law_odd_row" o7 (aDp K):=by
 refine Ok.ofV T.zH oG (by trivial) (λf a2 A Y s H J Q E hr h=>?_)
 obtain⟨a,vh,hd,rfl,hs,Z,F,q⟩:=h;have hu:=jD hr;have nd:=oG.nd;refine⟨_,(aB (aY 2 (bB sS (aF (vv 0) (va1 (vv 1))))) (aB (aY 3 (lH hu (aXy (aH3 aP aP (aH3 aP aA aW6)) rfl rfl (by simp) (by decide)) (aU aR (aU aR (vv 1) aA) aA) (λ_ _=>rfl))) (aB (aY 4 (bQ (aF (bI lJ (vv 2) (bL (va1 aA))) (aF (cY nA (vv 2) (dW aA) eZ) (aF (cX mX (by rfl) T.wG qG (va1 (vv 2))) (aF cD (aF (bI lJ (bL (va1 (vv 3))) (cY nA (vv 2) (dW aA) eZ)) (aF (bI lJ (bL (va1 fB)) (cY nA (vv 2) (dW aA) eZ)) (aF (bI lJ (bL (va1 cD)) (cY nA (vv 2) (dW aA) eZ)) (va1 aP)))))))))) (aD (aK (aU bJ (vv 4) (bB aH (aF (vv 0) (va1 aA))))))))),?_⟩;refine⟨_,rfl,_,rfl,a,vh,hd,rfl,hs,Z,F,λt z r N g1 U=>?_⟩;dsimp only[bF,List.set];obtain⟨ts,C,a0,_⟩:=aOx (K:=K) (H:=z) U;obtain⟨⟨_,l1,l8⟩,hk⟩:=id F;obtain⟨b,S,rfl,hb,D⟩:=Z.tk (N.tk hs);have lu:=D.len;obtain⟨g,d⟩:∃c,hd[0]?=some c:=⟨hd[0]'(by lia),b8 _⟩;have G:0<S.length:=by lia
 obtain⟨c1,o,p0,M,O⟩:=bW D (b8 G);rw[d] at o;cases o;have I:=(hk g (m8 d)).2;refine λl B=>⟨aG,[(Sum.inr "number",.str "a"),(Sum.inr "word",.int 0)],rfl,by decide,?_⟩;have m:Same z (L2.upd (L2.upd z l (.dK [])) l (.dK (jA [] [(Sum.inr "number",.str "a"),(Sum.inr "word",.int 0)]))):=fP B (aO B _);have g2:L2.upd (L2.upd z l (.dK [])) l (.dK (jA [] [(Sum.inr "number",.str "a"),(Sum.inr "word",.int 0)])) l=some (.dK [(Sum.inr "number",.str "a"),(Sum.inr "word",.int 0)]):=aG;generalize L2.upd (L2.upd z l (.dK [])) l (.dK (jA [] [(Sum.inr "number",.str "a"),(Sum.inr "word",.int 0)]))=H2 at m g2 ⊢;have hg:=rZ.k (k:=(Sum.inr g.2:Key)) g2;have hv:eO [((Sum.inr "number":Key),V.str "a"),(Sum.inr "word",.int 0)] (Sum.inr g.2)=some (aJx g.2):=by rcases I with e|e <;> rw[e] <;> rfl
 rw[hv] at hg;refine⟨_,rfl,b,S,0,S[0],rfl,rfl,m.bC hb,bO (j:=0) (b8 G),p0,_,1,_,M,rfl,m.bC O,at1 _ _ _,l,aJx g.2,rfl,hg,?_⟩;dsimp only[bF,List.set];have lr:=C.len;have lt:ts.length<=8:=by lia
 have L:=aWr (K:=K) (σ:=[some (.ref a),some (.ref b),some (.ref t),some (aJx g.2),none]) (H0:=H2) (i:=2) rfl (aGx (SqT.of (m _ _ g1)) (C.same m) (by lia));have V3:=aWr (K:=K) (σ:=[some (.ref a),some (.ref b),some (.ref t),some (aJx g.2),none]) (H0:=H2) (i:=3) rfl bAd;have R:=aX2 L (by lia);have n:∀{x:TE} {y:Tg},Bd [some (.ref a),some (.ref b),some (.ref t),some (aJx g.2),none] H2 x (TR K y)->Bd [some (.ref a),some (.ref b),some (.ref t),some (aJx g.2),none] H2 (tOp (aOo K) (aSz (dN x qO)) (tSl (bCf K) (mL 2) (aPb (tC (.int 1))) yQ)) (TR K (.tup ([y]++ts.drop 1))):=λh=>aS0 (aNi (bK h nP) (bDY rfl)) R (by rw[bBL];show 1+_<=1000;lia);refine bCl (bD8 (bK (aS0 L (aNi (bK (uK λ_=>.int) nP) (bDY rfl)) (by show _+1<=1000;lia)) (bK R (bK (aYd L) (bK (uK λ_=>.non) (bK (n V3) (bK (n (uK λ_=>.bl)) (bK (n (uK λ_=>.non)) (bK (aMv (x:="a") (by trivial)) nP)))))))) (bDY rfl)) λu H3 s3 ⟨p,J,eu,hp,gp,v⟩=>?_;subst eu;have X:=(N.sm m).sm s3;refine⟨_,rfl,_,rfl,a,8,rfl,X.st,⟨by decide,by decide⟩,λc H4 W a1 c8=>?_⟩;have np:p≠a:=(N.st.same m).ne hp;obtain⟨j,rfl⟩:∃j:Nat,c=j:=⟨c.toNat,by lia⟩;have jl:j<J.length:=by rw[v.len];show j<8;lia
 obtain⟨t8,e8,i8⟩:=v.at (b8 jl);refine⟨p,J,_,J[j],rfl,rfl,SqL.of (W.same _ _ np gp),bO (b8 jl),q _ H4 t8 (X.trans W) (i8.st (aLv X.st W)) ?_⟩;have ht:=m8 e8;simp only[bAC,z9,or_false] at ht;rcases ht with rfl|rfl|rfl|rfl|rfl|rfl|rfl|rfl
 ·exact aH1 (by rw[bAB];show _+1≠_;lia)
 ·exact aH1 (by rw[bBL];lia)
 ·rfl
 ·rfl
 ·exact sX d (aXb I)
 ·exact sX d rfl
 ·exact sX d rfl
 ·rfl
def eQ.fx (f:Fx a H H')(h:fM H a)(hd:d≠a)(m:∀e∈es,e.L≠a)(b:eQ K H d es):eQ K H' d es:=by refine⟨f.same _ _ hd b.at_,b.nd,b.few,b.nm,λe c=>?_⟩;obtain⟨t,g,j,k,i,l⟩:=b.tb e c;exact⟨t,g,f.bC h j,k.tk (f.tk h),i.tk (f.tk h),l.fx f h (m e c)⟩
def aA2 {κ:Type}[DecidableEq κ]{kvs:List (κ × V)}{k:κ}{v:V}(h:∀kv∈kvs,kv.1≠k):putK kvs k v=kvs++[(k,v)]:=by unfold putK;rw[if_neg];intro z;obtain⟨kv,b,a⟩:=List.any_eq_true.mp z;exact h kv b (of_decide_eq_true a)
def aKg (h:BdA σ H ts (TRs K xs))(x:σ[0]?=some (some (.ref a)))(k:fM H a)(hm:m=xs.length)(h1:0<xs.length)(y:xs.length<=1000)(q:∀u t H',Fx a H H'->t∈xs->dD K H' u t->Q u H'):tOp (aYr K) (aUm ts) (uQ jJ [] E0 (dN (mL 0) (dN (tC (.int m)) qO))) σ H Q:=by
 refine h H _ (Same.refl H) λg B b r=>⟨small (by rw[cM.len r];exact y),λp z w d v=>⟨_,x,a,m,rfl,k.same (b.trans d),⟨by lia,by lia⟩,λc s f C A=>?_⟩⟩;have o:=(k.same b).ne w;have l:=cM.same d r;obtain⟨j,rfl⟩:∃j:Nat,c=j:=⟨c.toNat,by lia⟩;have n:j<g.length:=by rw[l.len];lia
 obtain⟨t,e,i⟩:=l.at (b8 n);exact⟨p,g,_,g[j],rfl,rfl,SqL.of (f.same _ _ o v),bO (b8 n),q _ t s ((Fx.of k (b.trans d)).trans f) (m8 e) (i.st (aLv (k.same (b.trans d)) f))⟩
def aYj (h:dF kd x)(i:dD K H v (vTg x)):v=x:=by cases h <;> (cases i;rfl)
structure Ctx (ns:List Str)(ts es:List En)(m:Int)(nn kd:Str)(h0:Int)(cs:List (V × Int)):Prop where
 at_:∀i:Nat,i<3->∃e t,es[i]?=some e/\ts[i]?=some t/\ns[i]?=some e.n/\t.n=e.n/\t.t.hd=e.t.hd
 len:es.length=3
 pl:∃e,es[0]?=some e/\e.t.pl=.spans nn h0 cs/\look e.t.hd nn=some kd
 no:∀i e,0<i->es[i]?=some e->aWm e.t.pl
 ok:sE kd m h0 cs
 kd:aF2 kd
 one:cs≠[]
def Ctx.name {ns:List Str}{ts es:List En}{m h0:Int}{nn kd:Str}{cs:List (V × Int)}(h:Ctx ns ts es m nn kd h0 cs){e:En}(g:e∈es):∃i,i<3/\ns[i]?=some e.n:=by
 obtain⟨i,b⟩:=List.getElem?_of_mem g;have a:i<3:=by rw[<-h.len];exact (List.getElem?_eq_some_iff.mp b).1
 obtain⟨f,t,c,_,d,_⟩:=h.at_ i a;rw[b] at c;cases c;exact⟨i,a,d⟩
def jY (h:i<0\/m<=i):jC m (.int i)=false:=by
 show (decide (0<=i) && decide (i<m))=false;rw[Bool.and_eq_false_iff];rcases h with h|h
 ·exact .inl (v5 (by lia))
 ·exact .inr (v5 (by lia))
def aHr {m h:Int}(m2:2<=m)(h0:0<=h)(h1:h<m):0<=(h+1) % m/\(h+1) % m<m/\(h+1) % m≠h:=by
 refine⟨bFU _ (by lia),bET _ (by lia),λz=>?_⟩;by_cases e:h+1=m
 ·rw[e,Int.emod_self] at z;lia
 ·rw[Int.emod_eq_of_lt (by lia) (by lia)] at z;lia
inductive aU4 (K:bF9)(vs:List V)(H:Hp)(Q:VK)(E_:XK):Prop
 |mk (a N dt:Addr) (m:Int) (vc:V) (b:Bool) (ns:List Str) (ts es:List En) (f:Str->Option Mv) (nn kd:Str) (h0:Int) (cs:List (V × Int)) (_:vs=[.ref a,.ref N,.ref dt,.int m,vc,.bl b]) (_:fM H a) (_:H N=some (.lst (ns.map V.str))) (_:N≠a) (_:qX ns) (_:eQ K H dt ts) (_:dt≠a) (_:(∀e∈ts,kJ m e.t/\e.L≠a)) (_:Ctx ns ts es m nn kd h0 cs) (_:kE K H (gZ K H) vc ((.non,h0)::cs)) (_:2<=m) (_:m<=4) (_:(∀n,ns[0]?=some n->(b=true->f n≠none)/\(b=false->f n=none))) (_:∀p way v v1 v2 (c:Exn) H',Fx a H H'->SqT K H' p [.int way,v,v1,v2,.str c.wd]->((c=.move/\b=true)\/((b=true->c≠.move)/\Bad K H' m es f way v v1 v2 c))->Q (.ref p) H')
def aKo (T:Txt w K mg)(J:Ok P w K mg base 1 "_law_next" n8 jJ)(gG:Ok P w K mg base 3 "_law_value" bQD yX)(pB:Ok P w K mg base 5 "_law_odd_row" o7 (aDp K)):Ok P w K mg base 6 "_law_bad" o5 (aU4 K):=by
 refine Ok.ofV T.aK9 wX (by trivial) (λf bh A be s H vs Q E hr h=>?_)
 obtain⟨a,N,dt,m,vc,b,ns,ts,es,fm,nn,kd,h0,cs,rfl,hs,gN,nN,a3,hE,az,ae,C,hc,m2,m4,hb,q⟩:=h;have hu:=jD hr;have nd:=wX.nd;refine⟨_,(aB (aY 6 (bB J (aF (vv 0) (va1 aA)))) (aB (aY 7 (aU bJ (vv 1) aA)) (aB (aY 8 (aU aR (lH hu (vv 2) (vv 7) (λ_ _=>rfl)) aA)) (aB (aY 9 (aU bJ (bQ (aF cD (aF aA (aF (bI dC (vv 3) (bB J (aF (vv 0) (va1 aA)))) (aF (aDw wK aA) (aF fB (va1 aP))))))) (bB J (aF (vv 0) (va1 aA))))) (aB (bM (eG cW (vv 6) aA) (aB (aY 10 (aU bJ (bQ (aF (aU bJ (vv 1) aA) (aF aP (aF cD (va1 aP))))) (bB J (aF (vv 0) (va1 aA))))) (aD (aK (bL (aF (bB J (aF (vv 0) (va1 aA))) (aF (vv 10) (aF (bB pB (aF (vv 0) (va1 (vv 8)))) (aF (vv 9) (va1 aP))))))))) aQ) (aB (bM (eG cW (vv 6) aA) (aB (aY 11 (aU bJ (vv 1) (bB J (aF (vv 0) (va1 aA))))) (aD (aK (bL (aF (bB J (aF (vv 0) (va1 aA))) (aF (vv 11) (aF (bB pB (aF (vv 0) (va1 (aU aR (lH hu (vv 2) (vv 11) (λ_ _=>rfl)) aA)))) (aF aA (va1 aP))))))))) aQ) (aB (bM (eG cW (vv 6) aA) (aD (aK (bL (aF (bI dC aA (bB J (aF (vv 0) (va1 aA)))) (aF (aU bJ (vv 1) (bI dC aA (bB J (aF (vv 0) (va1 aA))))) (aF cD (aF (vv 9) (va1 aP)))))))) aQ) (aB (bM (VW.pt (aGt (eG cW (vv 6) aA) (yU (bR (vv 5))))) (aD (aK (bL (aF aA (aF (vv 7) (aF (aU bJ (bQ (aF cD (va1 (bB gG (aF (vv 0) (va1 aP)))))) (bB J (aF (vv 0) (va1 aA)))) (aF aA (va1 aP)))))))) aQ) (aB (bM (eG cW (vv 6) aA) (aD (aK (bL (aF aA (aF (vv 7) (aF (aU bJ (bQ (aF cD (aF fB (aF aP (aF (aU aR (aU aR (vv 4) (aDw wK aA)) aA) (va1 (bL (va1 aP)))))))) (bB J (aF (vv 0) (va1 aA)))) (aF aA (va1 aP)))))))) aQ) (aB (bM (eG cW (vv 6) aA) (aD (aK (bL (aF aA (aF (vv 7) (aF (aU bJ (bQ (aF (aL bA (by rfl) T.eU cN (va1 (vv 4))) (aF (aDw wK aA) (aF cD (aF fB (va1 aP)))))) (bB J (aF (vv 0) (va1 aA)))) (aF (vv 9) (va1 aP)))))))) aQ) (aB (bM (eG cW (vv 6) aA) (aB (aY 12 (bB J (aF (vv 0) (va1 (aL bA (by rfl) T.eU cN (va1 (vv 4))))))) (aB (aY 10 (aU bJ (bQ (aF (aU aR (aU aR (vv 4) (vv 12)) aA) (aF (vv 3) (aF (aDw wK aA) (aF cD (aF fB (va1 (bI dC (vv 3) aA)))))))) (bB J (aF (vv 0) (va1 aA))))) (aD (aK (bL (aF aA (aF (vv 7) (aF (vv 12) (aF (vv 10) (va1 aP)))))))))) aQ) (aB (bM (VW.pt (aGt (eG cW (vv 6) aA) (yU (bR (vv 5))))) (aD (aK (bL (aF aA (aF (vv 7) (aF aA (aF (bI lV (bI dC (aU aR (aU aR (vv 4) aA) aA) aA) (vv 3)) (va1 aP)))))))) aQ) (aB (bM (eG cW (vv 6) aA) (aD (aK (bL (aF aA (aF (vv 7) (aF (aU bJ (bQ (aF (vv 3) (aF (aDw wK aA) (aF cD (aF fB (va1 aP)))))) (bB J (aF (vv 0) (va1 aA)))) (aF aA (va1 aP)))))))) aQ) (aD (aK (bL (aF (bI dC aA (bB J (aF (vv 0) (va1 aA)))) (aF (vv 7) (aF aA (aF aA (va1 aP))))))))))))))))))))),?_⟩;refine⟨_,rfl,a,10,rfl,hs,⟨by decide,by decide⟩,λB H1 f1 bg bi=>?_⟩;dsimp only[bF,List.set];obtain⟨e0,t0,af,aw,ad,b1,bk⟩:=C.at_ 0 (by decide);have a4:∀{i:Nat} {n:Str},ns[i]?=some n->atI (ns.map V.str) (i:Int)=some (.str n):=λh=>bO (by rw[t7,h];rfl);have ax:∀{i:Nat} {n:Str},ns[i]?=some n->n.length<=1000:=λh=>bAE (aKr (a3.2.1 _ (m8 h))) (by decide);have fE:∀{d},Fx a H d->eQ K d dt ts:=λf'=>hE.fx f' hs az λe he=>(ae e he).2;have fN:∀{d},Fx a H d->d N=some (.lst (ns.map V.str)):=λf'=>f'.same _ _ nN gN;have fC:∀{d},Fx a H d->kE K d (gZ K d) vc ((.non,h0)::cs):=λf'=>by obtain⟨cc,F,e,g,al⟩:=hc;exact⟨cc,F,e,f'.bC hs g,al.imp λ_ _ ⟨p,e1,e2⟩=>⟨p,e1,f'.bC hs e2⟩⟩
 have a5:∀{d:Hp} {i:Nat} {e t:En},Fx a H d->ts[i]?=some t->t.n=e.n->rZ d dt (.str e.n) (some t.v)/\∃x,t.v=.ref x/\SqT K d x [t.vh,t.vp,.ref t.L]/\jK K d t.vh t.t.hd/\aP3 t.t.hd:=λ{d i e t} f' ht en=>by have hm:=m8 ht;have a7:=fE f';have hg:=rZ.k (k:=(Sum.inr e.n:Key)) a7.at_;rw[<-en,uG a7.nd hm] at hg;rw[<-en];obtain⟨x,e1,g1,g2,_⟩:=a7.tb t hm;exact⟨hg,x,e1,g1,g2,(ae t hm).1.hd⟩
 refine⟨_,rfl,N,_,0,.str e0.n,rfl,rfl,SqL.of (fN f1),a4 ad,?_⟩;dsimp only[bF,List.set];obtain⟨b4,x0,av,b5,b6,ag⟩:=a5 (e:=e0) f1 aw b1;refine⟨_,rfl,_,rfl,dt,t0.v,rfl,b4,x0,_,0,_,av,rfl,b5,at0 _ _,?_⟩;dsimp only[bF,List.set];refine⟨_,rfl,_,rfl,a,3,rfl,f1.st,⟨by decide,by decide⟩,λc1 H2 f2 _ _=>⟨_,_,rfl,rfl,1,rfl,(by show 6<=sizeLine;decide),λpo H3 bd s3 g3=>?_⟩⟩;have f3:=(f1.trans f2).sm s3;have ay:po≠a:=f2.st.ne bd;refine⟨_,rfl,a,6,rfl,f3.st,⟨by decide,by decide⟩,λc2 H4 f4 bc bb=>?_⟩;have o:=f3.trans f4;obtain⟨jo,rfl⟩:∃j:Nat,c2=j:=⟨c2.toNat,by lia⟩;obtain⟨vo,ak⟩:∃vo,[V.non,.int 3,.int (m+c1),.int (-1),.bl true,.str "0"][jo]?=some vo:=⟨_,b8 (by show jo<6;lia)⟩;refine⟨po,_,_,vo,rfl,rfl,SqL.of (f4.same _ _ ay g3),bO ak,?_⟩;dsimp only[bF,List.set];clear ak bc bb;have F14:=((Fx.refl f1.st).trans f2).sm s3 |>.trans f4
 have l:∀{k:Int},B≠k->decide (V.int B=V.int k)=false:=λz=>v5 λy=>z (V.int.inj y);have G:=m8 af;obtain⟨eP,as,I,aq⟩:=C.pl;rw[af] at as;cases as;have a0:=hb e0.n ad;refine⟨_,rfl,rfl,_,rfl,?_⟩;by_cases l0:B=0
 ·refine dZ (by rw[l0];rfl) ?_;obtain⟨n5,N5⟩:∃n,ns[5]?=some n:=⟨ns[5]'(by rw[a3.1];decide),b8 _⟩;refine aKg (xs:=[.str n5,.str "Q",.non,.str ""]) (bK (λd Q' Y M=>⟨_,rfl,N,_,5,.str n5,rfl,rfl,SqL.of (Y _ _ (fN o)),a4 N5,M _ d (Same.refl _) (.str (ax N5))⟩) (bK (aMv (x:="Q") (by trivial)) (bK (uK λ_=>.non) (bK (aMv (x:="") (by trivial)) nP)))) rfl o.st rfl (bEG _) (by show 4<=1000;decide) λu t H5 r ht X=>?_;dsimp only[bF,List.set];have S:=o.trans r;refine⟨_,rfl,a,8,rfl,S.st,⟨by decide,by decide⟩,λab R f6 w0 w1=>⟨_,rfl,_,rfl,_,rfl,a,t0.vh,t0.t.hd,rfl,f6.st,b6.tk (((F14.trans r).trans f6).tk f1.st),ag,λu1 H7 t1 f7 ai _=>⟨_,rfl,(by show 5<=sizeLine;decide),λp H8 _ s8 g8=>?_⟩⟩⟩;have ar:=f6.trans f7;refine q p ab u u1 vo .tab H8 ((S.trans ar).sm s8) (SqT.of g8) (.inr ⟨λ_ z=>(by cases z),.tab w0 w1 ((X.st (aLv S.st ar)).same s8) λe he z=>?_⟩);obtain⟨i,i3,hi⟩:=C.name he;have a2:=a3.2.1 _ (m8 hi);subst z;simp only[bAC,z9,or_false,Tg.str.injEq,reduceCtorEq,false_or] at ht;rcases ht with ht|ht|ht
  ·have:=aRn a3.2.2 hi (by rw[ht];exact N5);lia
  ·rw[ht] at a2;exact absurd a2 (by unfold Nm;decide +kernel)
  ·rw[ht] at a2;exact absurd a2 (by unfold Nm;decide +kernel)
 refine dU (l l0) ⟨_,rfl,rfl,_,rfl,?_⟩;by_cases l1:B=1
 ·refine dZ (by rw[l1];rfl) ?_;refine⟨_,rfl,_,rfl,a,3,rfl,o.st,⟨by decide,by decide⟩,λci H5 r an ao=>?_⟩;obtain⟨i,rfl⟩:∃j:Nat,ci=j:=⟨ci.toNat,by lia⟩;obtain⟨e,t,Ei,Ti,Ni,tn,th⟩:=C.at_ i (by lia);have S:=o.trans r;refine⟨N,_,_,.str e.n,rfl,rfl,SqL.of (fN S),a4 Ni,?_⟩;dsimp only[bF,List.set];refine⟨_,rfl,a,2,rfl,S.st,⟨by decide,by decide⟩,λab R f6 w0 w1=>?_⟩;obtain⟨hg,x,ev,gx,hI,ba⟩:=a5 (e:=e) (S.trans f6) Ti tn;refine⟨_,rfl,_,rfl,_,rfl,_,rfl,dt,t.v,rfl,hg,x,_,0,_,ev,rfl,gx,at0 _ _,a,t.vh,t.t.hd,rfl,f6.st,hI,ba,λu1 H7 t1 f7 ai b3=>⟨(by show 5<=sizeLine;decide),λp H8 _ s8 g8=>?_⟩⟩;exact q p ab (.str e.n) u1 (.int 0) .row H8 (((S.trans f6).trans f7).sm s8) (SqT.of g8) (.inr ⟨λ_ z=>(by cases z),.row w0 w1 (m8 Ei) (ai.same s8) (by rw[<-th];exact b3)⟩)
 refine dU (l l1) ⟨_,rfl,rfl,_,rfl,?_⟩;by_cases l2:B=2
 ·refine dZ (by rw[l2];rfl) ?_;refine⟨_,rfl,a,4,rfl,o.st,⟨by decide,by decide⟩,λw1 H5 r ah ac=>⟨_,_,rfl,rfl,?_⟩⟩;have S:=o.trans r;refine⟨_,rfl,_,rfl,a,2,rfl,S.st,⟨by decide,by decide⟩,λci R f6 an ao=>⟨_,_,rfl,rfl,?_⟩⟩;obtain⟨i,rfl⟩:∃j:Nat,ci=j:=⟨ci.toNat,by lia⟩;obtain⟨e,t,Ei,Ti,Ni,tn,th⟩:=C.at_ (1+i) (by lia);have F6:=S.trans f6;refine⟨N,_,_,.str e.n,rfl,rfl,SqL.of (fN F6),by have:=a4 Ni;rw[Int.natCast_add] at this;exact this,_,rfl,(by show 5<=sizeLine;decide),λp H7 _ s7 g7=>?_⟩;exact q p _ (.str e.n) .non vo .span H7 (F6.sm s7) (SqT.of g7) (.inr ⟨λ_ z=>(by cases z),.span (by lia) (by lia) (m8 Ei) (C.no (1+i) e (by lia) Ei)⟩)
 refine dU (l l2) ⟨_,rfl,rfl,_,rfl,?_⟩;by_cases l3:B=3
 ·refine dZ (by rw[l3];rfl) ⟨_,rfl,b,rfl,?_⟩;cases b with
  |true=>refine cP ⟨_,rfl,_,rfl,a,"word",rfl,o.st,.inr rfl,λvl H5 r bj=>⟨(by show 2<=sizeLine;decide),λpl R a9 D g6=>?_⟩⟩;have F6:=(o.trans r).sm D;have b2:pl≠a:=r.st.ne a9;refine⟨_,rfl,a,2,rfl,F6.st,⟨by decide,by decide⟩,λci H7 f7 an ao=>?_⟩;obtain⟨i,rfl⟩:∃j:Nat,ci=j:=⟨ci.toNat,by lia⟩;obtain⟨v1,au⟩:∃v1,[V.non,vl][i]?=some v1:=⟨_,b8 (by show i<2;lia)⟩;refine⟨pl,_,_,v1,rfl,rfl,SqL.of (f7.same _ _ b2 g6),bO au,(by show 5<=sizeLine;decide),λp H8 _ s8 g8=>?_⟩;exact q p 2 (.str e0.n) v1 (.int 0) .busy H8 ((F6.trans f7).sm s8) (SqT.of g8) (.inr ⟨λ_ z=>(by cases z),.busy rfl G I aq (a0.1 rfl)⟩)
  |false=>
   refine bZ ⟨_,rfl,rfl,_,rfl,dZ (by rw[l3];rfl) ?_⟩;obtain⟨cc,F,rfl,W,U⟩:=fC o;have lu:=U.len;rw[t6] at lu;obtain⟨cl,a6⟩:∃c,cs.getLast?=some c:=by
    cases h:cs.getLast? with
    |some c=>exact⟨c,rfl⟩
    |none=>exact absurd (List.getLast?_eq_none_iff.mp h) C.one
   have aj:=List.mem_of_getLast? a6;have a1:F.length - 1<F.length:=by lia
   obtain⟨c',O,pl,ap,a9⟩:=bW U (b8 a1);have ec:c'=cl:=by rw[lu,Nat.add_sub_cancel] at O;have l1:0<cs.length:=List.length_pos_iff.mpr C.one;obtain⟨k,hk⟩:∃k,cs.length=k+1:=⟨cs.length - 1,by lia⟩;rw[hk,bEV] at O;rw[List.getLast?_eq_getElem?,hk,Nat.add_sub_cancel,O] at a6;exact bAH a6
   subst ec;have am:=(C.ok.each c' aj).1;refine⟨_,rfl,aKg (xs:=[.non,.bl true,.str "A",vTg c'.1,.tup [.str "a"]]) (bK (uK λ_=>.non) (bK (uK λ_=>.bl) (bK (aMv (x:="A") (by trivial)) (bK (λd Q' Y M=>⟨_,rfl,1,rfl,cc,F,_,F[F.length - 1],rfl,rfl,Y.bC W,aOe (b8 a1),pl,_,0,_,ap,rfl,Y.bC a9,at0 _ _,M _ d (Same.refl _) (aDq am).1⟩) (bK (aNi (bK (aMv (x:="a") (by trivial)) nP) (bDY rfl)) nP))))) rfl o.st rfl (bEG _) (by show 5<=1000;decide) λu t H5 r ht X=>⟨(by show 5<=sizeLine;decide),λp R _ D g6=>?_⟩⟩;refine q p 2 (.str e0.n) u (.int 0) .span R ((o.trans r).sm D) (SqT.of g6) (.inr ⟨λ_ z=>(by cases z),.low rfl G I aq (a0.2 rfl) ?_⟩);simp only[bAC,z9,or_false] at ht;rcases ht with rfl|rfl|rfl|rfl|rfl
   ·exact .inl ⟨_,X.same D,rfl⟩
   ·exact .inl ⟨_,X.same D,rfl⟩
   ·exact .inl ⟨_,X.same D,Bool.and_eq_false_iff.mpr (.inl (by trivial))⟩
   ·exact .inr ⟨c',aj,aYj am X⟩
   ·exact .inl ⟨_,X.same D,rfl⟩
 refine dU (l l3) ⟨_,rfl,rfl,_,rfl,dU (l l3) ⟨_,rfl,rfl,_,rfl,?_⟩⟩;obtain⟨cc,F,rfl,W,U⟩:=fC o;have lu:=U.len;rw[t6] at lu;by_cases l4:B=4
 ·refine dZ (by rw[l4];rfl) ?_;refine⟨_,rfl,aKg (xs:=[.int (F.length:Nat),.int (-1),.non,.bl false,.str "0"]) (bK (λd Q' Y M=>⟨_,rfl,cc,F,rfl,.inr (Y.bC W),M _ d (Same.refl _) .int⟩) (bK (λd Q' Y M=>⟨1,rfl,M _ d (Same.refl d) .int⟩) (bK (uK λ_=>.non) (bK (uK λ_=>.bl) (bK (aMv (x:="0") (by trivial)) nP))))) rfl o.st rfl (bEG _) (by show 5<=1000;decide) λu t H5 r ht X=>⟨_,rfl,(by show 5<=sizeLine;decide),λp R _ D g6=>?_⟩⟩;refine q p 3 (.str e0.n) u vo .span R ((o.trans r).sm D) (SqT.of g6) (.inr ⟨λ_ z=>(by cases z),.num rfl G I (X.same D) ?_⟩);simp only[bAC,z9,or_false] at ht;rcases ht with rfl|rfl|rfl|rfl|rfl
  ·exact jY (.inr (by rw[lu];exact Int.le_refl _))
  ·exact jY (.inl (by decide))
  ·rfl
  ·rfl
  ·rfl
 refine dU (l l4) ⟨_,rfl,rfl,_,rfl,?_⟩;have bn:=C.ok.few;by_cases l5:B=5
 ·refine dZ (by rw[l5];rfl) ?_;refine⟨_,rfl,_,rfl,cc,F,rfl,.inr W,a,_,rfl,o.st,⟨by lia,by lia⟩,λcn H5 r bm bf=>?_⟩;dsimp only[bF,List.set];obtain⟨num,rfl⟩:∃j:Nat,cn=j:=⟨cn.toNat,by lia⟩;have S:=o.trans r;have Z:num<F.length:=by lia
  obtain⟨c',O,pn,a8,aa⟩:=bW U (b8 Z);have ch:iI num h0 cs=c'.2:=by unfold iI;rw[j9,t7,O];rfl
  refine aKg (xs:=[.int c'.2,.int m,.int (-1),.non,.bl true,.int (m+7)]) (bK (λd Q' Y M=>⟨_,rfl,_,rfl,cc,F,_,F[num],rfl,rfl,Y.bC (r.bC o.st W),bO (b8 Z),pn,_,1,_,a8,rfl,Y.bC (r.bC o.st aa),at1 _ _ _,M _ d (Same.refl _) .int⟩) (bK (aWr rfl .int) (bK (λd Q' Y M=>⟨1,rfl,M _ d (Same.refl d) .int⟩) (bK (uK λ_=>.non) (bK (uK λ_=>.bl) (bK (λd Q' Y M=>⟨_,rfl,_,_,rfl,rfl,M _ d (Same.refl d) .int⟩) nP)))))) rfl S.st rfl (bEG _) (by show 6<=1000;decide) λu t R f6 ht X=>?_;dsimp only[bF,List.set];refine⟨_,rfl,_,rfl,_,rfl,(by show 5<=sizeLine;decide),λp H7 _ s7 g7=>?_⟩;refine q p 3 (.str e0.n) (.int num) u .house H7 ((S.trans f6).sm s7) (SqT.of g7) (.inr ⟨λ_ z=>(by cases z),.house rfl G I (by lia) (X.same s7) ?_⟩);simp only[bAC,z9,or_false] at ht;rcases ht with rfl|rfl|rfl|rfl|rfl|rfl
  ·exact .inr (by rw[ch])
  ·exact .inl (jY (.inr (Int.le_refl _)))
  ·exact .inl (jY (.inl (by decide)))
  ·exact .inl rfl
  ·exact .inl rfl
  ·exact .inl (jY (.inr (by lia)))
 refine dU (l l5) ⟨_,rfl,rfl,_,rfl,?_⟩;by_cases l6:B=6
 ·refine dZ (by rw[l6];rfl) ⟨_,rfl,b,rfl,?_⟩;cases b with
  |true=>
   obtain⟨b9,b0⟩:=C.ok.first;obtain⟨n1,n2,n3⟩:=aHr m2 b9 b0;have Z:0<F.length:=by lia
   obtain⟨c',O,pn,a8,aa⟩:=bW U (b8 Z);cases O;refine cP ⟨_,rfl,_,rfl,cc,F,0,F[0],rfl,rfl,W,bO (j:=0) (b8 Z),pn,_,1,_,a8,rfl,aa,at1 _ _ _,_,_,rfl,rfl,_,rfl,_,_,rfl,rfl,by lia,(by show 5<=sizeLine;decide),λp H5 _ s5 g5=>?_⟩;exact q p 3 (.str e0.n) (.int 0) _ .busy H5 (o.sm s5) (SqT.of g5) (.inr ⟨λ_ z=>(by cases z),.busy3 (num:=0) rfl G I (bAF _) n1 n2 n3 (a0.1 rfl)⟩)
  |false=>refine bZ ⟨_,rfl,rfl,_,rfl,dU (by rw[l6];rfl) ⟨_,rfl,a,2,rfl,o.st,⟨by decide,by decide⟩,λw1 H5 r ah ac=>⟨_,_,rfl,rfl,_,rfl,(by show 5<=sizeLine;decide),λp R _ D g6=>?_⟩⟩⟩;exact q p _ (.str e0.n) (.int 1) (.int 0) .move R ((o.trans r).sm D) (SqT.of g6) (.inr ⟨λz=>(by cases z),.move (by lia) (by lia) G I (a0.2 rfl)⟩)
 refine dU (l l6) ⟨_,rfl,rfl,_,rfl,?_⟩;by_cases l7:B=7
 ·refine dZ (by rw[l7];rfl) ?_;refine⟨_,rfl,aKg (xs:=[.int m,.int (-1),.non,.bl true,.str "0"]) (bK (aWr rfl .int) (bK (λd Q' Y M=>⟨1,rfl,M _ d (Same.refl d) .int⟩) (bK (uK λ_=>.non) (bK (uK λ_=>.bl) (bK (aMv (x:="0") (by trivial)) nP))))) rfl o.st rfl (bEG _) (by show 5<=1000;decide) λu t H5 r ht X=>⟨(by show 5<=sizeLine;decide),λp R _ D g6=>?_⟩⟩;refine q p 7 (.str e0.n) u (.int 0) .house R ((o.trans r).sm D) (SqT.of g6) (.inr ⟨λ_ z=>(by cases z),.stands rfl G (X.same D) ?_⟩);simp only[bAC,z9,or_false] at ht;rcases ht with rfl|rfl|rfl|rfl|rfl
  ·exact jY (.inr (Int.le_refl _))
  ·exact jY (.inl (by decide))
  ·rfl
  ·rfl
  ·rfl
 refine dU (l l7) ⟨_,rfl,a,2,rfl,o.st,⟨by decide,by decide⟩,λw1 H5 r ah ac=>⟨_,_,rfl,rfl,_,rfl,(by show 5<=sizeLine;decide),λp R _ D g6=>?_⟩⟩;refine q p _ (.str e0.n) (.int 1) (.int 0) .move R ((o.trans r).sm D) (SqT.of g6) ?_;cases b with
 |true=>exact .inl ⟨rfl,rfl⟩
 |false=>exact .inr ⟨λz=>(by cases z),.move (by lia) (by lia) G I (a0.2 rfl)⟩
def aM2 (xs:List V)(w:Ps1 σ0 σ0)(hsz:xs.length<=1000)
  (W:∀H' i x,Same H H'->xs[i]?=some x->J.go i H'/\∀y H2,J.yld i H' y H2->H2=H'/\y=x) (u:∀H',Same H H'->J.stop xs.length H') (f:Nat->List (List V))
  (U:∀(i:Nat) x,xs[i]?=some x->∀σ2 H' R,At1 σ0 x σ2->Same H H'->(∀L H2,H' L=none->Same H' H2->cF K H2 L (f i)->R (.ref L) H2)->te σ2 H' R)
  (q:∀D H' (Ls:List Addr),Same H H'->H D=none->H' D=some (.lst (Ls.map V.ref))->Ls.length=xs.length->(∀(i:Nat) L,Ls[i]?=some L->H L=none/\cF K H' L (f i))->Q (.ref D) H'):oH J H σ0 (bF 0) kO te Q:=by
 intro D c;refine⟨λi m n H' l=>m=xs.length - i/\i<=xs.length/\Same H H'/\Ps1 σ0 n/\H' D=some (.lst l)/\∃Ls:List Addr,l=Ls.map V.ref/\Ls.length=i/\∀j L,Ls[j]?=some L->H L=none/\L≠D/\cF K H' L (f j),⟨xs.length,rfl,bAF _,aO c _,w,aG,[],rfl,rfl,λj L e=>by cases e⟩,?_⟩;rintro i m n H' l ⟨rfl,hi,sm,hps,gD,Ls,rfl,lL,hr⟩;refine⟨gD,?_⟩;by_cases g:i<xs.length
 ·right;have s:=b8 g;obtain⟨S,T⟩:=W H' i xs[i] sm s;refine⟨S,λx H2 G=>?_⟩;obtain⟨rfl,rfl⟩:=T x H2 G;refine hg1 (i:=i) hps fun σ2 b d=>?_;dsimp only[kO];rw[if_pos rfl];refine U i _ s σ2 _ _ d sm λL o h k F=>?_;have a:=k _ _ gD;have v:L≠D:=λz=>by rw[z,gD] at h;cases h
  have t:∀{M rs},M≠D->cF K o M rs->cF K (L2.upd o D (.lst (Ls.map V.ref++[.ref L]))) M rs:=λC ⟨B,I,w⟩=>⟨B,by rw[aM C];exact I,w.imp λ_ _ ⟨p,e,A⟩=>⟨p,e,SqT.qQ a A⟩⟩;refine⟨a,bCD (show (Ls.map V.ref).length<=1000 by rw[j7];lia) (by decide),xs.length - (i+1),by lia,rfl,by lia,fP c (sm.trans k),b,aG,Ls++[L],by rw[bAY];rfl,by rw[bAB,lL];rfl,λj M e=>?_⟩;by_cases P:j<Ls.length
  ·rw[bAZ P] at e;obtain⟨O,r,N⟩:=hr j M e;exact⟨O,r,t r (N.same k)⟩
  ·rw[bAW (by lia)] at e;have E:j - Ls.length=0:=by have:=(List.getElem?_eq_some_iff.mp e).1;simpa using this
   rw[E] at e;cases e;have:j=i:=by lia
   rw[this];exact⟨none_of sm h,v,t v F⟩
 ·left;have e:i=xs.length:=by lia
  subst e;exact⟨u _ sm,q D H' Ls sm c gD lL λj L e=>⟨(hr j L e).1,(hr j L e).2.2⟩⟩
def FlR (rs:List (List V)):Prop:=∀r∈rs,∀x∈r,(∃i,x=.int i)\/∃z,x=.str z
def kJ.flat (h:kJ m t):FlR t.rows:=λr a x b=>aZe (aAx (h.rows r a)) x b
theorem aDr:∀{n:Nat} {x y:V},DEq K H 40 x y->DL K H n x y
 |0,_,_,h=>.inr h
 |_+1,_,_,h=>.inl (aDr h)
theorem aOr:∀{n:Nat} {a:Addr},DL K H n (.ref a) (.ref a)
 |0,a=>.inl ⟨a,rfl,rfl⟩
 |_+1,_=>.inl aOr
def aO4 {α β:Type}{R S:α->β->Prop}(k:∀a b,R a b->S a b){as:List α}{bs:List β}(h:Al2 R as bs):Al2 S as bs:=by
 induction h with
 |nil=>exact .nil
 |cons r _ ih=>exact .cons (k _ _ r) ih
def aV7 (k:cF K H a rs)(j:cF K H b rs)(i:FlR rs):DL K H (n+1) (.ref a) (.ref b):=by obtain⟨g,f,h⟩:=k;obtain⟨c,e,d⟩:=j;exact .inr ⟨a,b,g,c,rfl,rfl,SqL.of f,SqL.of e,aO4 (λ_ _ z=>aDr z) (aIu (lY h) (lY d) i)⟩
def aYp (h:xs.all iW=true):Al2 (DW K H) xs xs:=by
 induction xs with
 |nil=>exact .nil
 |cons x xs ih=>rw[bFK,bAT] at h;exact .cons (.inl (aDr (.inl ⟨h.1,rfl⟩))) (ih h.2)
inductive tD (K:bF9)(C:Addr)(vs:List V)(H:Hp)(Q:VK)(E_:XK):Prop
 |mk (x d dm:Addr) (m:Int) (es:List En) (e:En) (o:Option Mv) (_:vs=[.ref x,.str e.n]) (_:aX K H C x m d dm es) (_:e∈es) (_:MvD K H dm e.n o) (_:∀v H',Same H H'->MvV K H' v o->Q v H')
def aPh (K:bF9)(H:Hp)(us:List V)(es:List En)(o:Option Mv):Prop:=∃(Ls:List Addr) (vm:V) (e0:En),us=Ls.map V.ref++[vm,e0.vp]/\es[0]?=some e0/\Ls.length=es.length/\(∀(i:Nat) (L:Addr) (e:En),Ls[i]?=some L->es[i]?=some e->cF K H L (srt e.t.rows))/\MvV K H vm o
def aPh.same (s:Same H H')(h:aPh K H us es o):aPh K H' us es o:=by obtain⟨g,c,l,d,j,m,f,k⟩:=h;exact⟨g,c,l,d,j,m,λi L e a b=>(f i L e a b).same s,k.tk λ_ _=>s.bC⟩
inductive aHt (K:bF9)(C Pt:Addr)(vs:List V)(H:Hp)(Q:VK)(E_:XK):Prop
 |mk (x N d dm:Addr) (m:Int) (es:List En) (ns:List Str) (e0:En) (o:Option Mv) (_:vs=[.ref x,.ref N]) (_:aX K H C x m d dm es) (_:1<=m) (_:m<=6) (_:H Pt=some (.tab qC)) (_:H N=some (.lst (ns.map V.str))) (_:es.length=3) (_:3<=ns.length) (_:(∀(i:Nat) (e:En),es[i]?=some e->ns[i]?=some e.n)) (_:es[0]?=some e0) (_:MvD K H dm e0.n o) (_:∀l us H',Same H H'->H' l=some (.lst us)->aPh K H' us es o->Q (.ref l) H')
def aCa (T:Txt w K mg){C Ct Pt:Addr}(g:OkM P w K mg base C 13 "town" ["self"] (aE0 K C Ct Pt))(b:OkM P w K mg base C 4 "moving" n6 (tD K C))(a:OkM P w K mg base Ct 4 "placing" n6 (sW K Ct))(c:OkM P w K mg base Ct 4 "whole" n6 (mQ K Ct)):Ok P w K mg base 14 "_law_about" bQI (aHt K C Pt):=by
 refine Ok.ofV T.aFx rA (by trivial) (λf ab A a8 s H vs Q E hr h=>?_)
 obtain⟨x,N,d,dm,m,X,Y,I,o,rfl,hS,m1,m6,hP,gN,l3,n3,hn,Z,hM,q⟩:=h;have nd:=rA.nd;refine⟨_,(aB (aY 2 (uB (g.mono (by decide)) hr (vv 0))) (aD (aK (bI pP (cU (N:=["_law_name","_law_town"]) ck (iG (aC mV)) rfl (lG (cY aBh (vv 1) eZ (dW aA))) (λcl s' H' fp=>⟨(jH 0),fY,(kY c (vv 1) (va1 (vv 0)))⟩)) (bQ (aF (kY b (vv 0) (va1 (aU bJ (vv 1) aA))) (va1 (kY a (vv 2) (va1 (aU bJ (vv 1) aA)))))))))),?_⟩;obtain⟨dx,hx⟩:=hS.at_;refine⟨_,rfl,x,dx,_,rfl,hx,rfl,x,d,dm,m,X,rfl,hS,m1,m6,hP,λy d' H1 F hy ac s1 hT a1=>?_⟩;have lA:=a1.len;obtain⟨⟨dy,gy⟩,_,_⟩:=id hT;have W:∀{i:Nat} {e:En},X[i]?=some e->∃u∈F,u.n=e.n/\u.vp=e.vp/\u.t.rows=srt e.t.rows:=λh=>by obtain⟨u,h',v,L,rfl,_⟩:=bW a1 h;exact⟨_,m8 h',rfl,rfl,rfl⟩
 have a6:=m8 Z;have U:atI (Y.map V.str) 0=some (.str I.n):=bO (j:=0) (by rw[t7,hn 0 I Z];rfl);dsimp only[bF,List.set,sH,tOp];refine oU [none,some (.ref y)] (mR 2 (by trivial) rfl rfl (by trivial)) ?_;refine⟨_,rfl,3,rfl,N,_,rfl,SqL.of (s1 _ _ gN),λp H2 hp s2 g2=>?_⟩;rw[show oJ (Y.map V.str) none (some 3)=(Y.map V.str).take 3 from yV _ 3] at g2;have a2:((Y.map V.str).take 3).length=3:=by rw[bAR,j7];lia
 refine⟨p,rfl,⟨_,SqL.of g2⟩,aM2 (K:=K) ((Y.map V.str).take 3) ⟨none,rfl⟩ (by lia) (aFk λH' s'=>SqL.of (s' _ _ g2)) (uE λH' s'=>SqL.of (s' _ _ g2)) (λi=>srt ((X.map (·.t.rows)).getD i [])) (λi z ez σ2 H' R a0 sm r=>?_) λD H3 Ls s3 hD gD lL a3=>?_⟩
 ·have hi:i<3:=by rw[<-a2];exact (List.getElem?_eq_some_iff.mp ez).1
  have a5:i<X.length:=by lia
  have J:=b8 a5;obtain⟨u,B,en,_,er⟩:=W J;rw[bEK hi,t7,hn i _ J] at ez;cases ez;obtain⟨l,rfl⟩:=a0;refine⟨_,rfl,y,dy,_,rfl,(s2.trans sm) _ _ gy,rfl,_,rfl,y,d',m,F,u,(by rw[en];rfl),hT.same (s2.trans sm),B,λL H4 hL s4 hR=>r L H4 hL s4 ?_⟩;rw[j9,t7,J];rw[er] at hR;exact hR
 have S:=s2.trans s3;have k:=s1.trans S;obtain⟨u,B,en,a7,_⟩:=W Z;refine⟨_,rfl,x,dx,_,rfl,k _ _ hx,rfl,_,rfl,N,_,0,.str I.n,rfl,rfl,SqL.of (k _ _ gN),U,x,d,dm,m,X,I,o,rfl,hS.same k,a6,hM.same k,λvm H4 s4 a4=>?_⟩;have G:=S.trans s4;refine⟨_,rfl,y,dy,_,rfl,G _ _ gy,rfl,_,rfl,N,_,0,.str I.n,rfl,rfl,SqL.of ((s1.trans G) _ _ gN),U,y,d',m,F,u,(by rw[en];rfl),hT.same G,B,λH5 s5=>⟨(by show 2<=sizeLine;decide),λp6 H6 a9 s6 g6=>?_⟩⟩;have O:=s4.trans (s5.trans s6);refine⟨D,p6,_,_,rfl,rfl,O _ _ gD,g6,small (by rw[j7];show _+2<=1000;lia),λr H7 aa s7 g7=>?_⟩;have M:=O.trans s7;rw[a7] at g7;refine q r _ H7 (k.trans M) g7 ⟨Ls,vm,I,rfl,Z,by lia,λi L e hL J=>?_,a4.tk λ_ _=>(s5.trans (s6.trans s7)).bC⟩;have:=(a3 i L hL).2;rw[j9,t7,J] at this;exact this.same M
def aWv {α β:Type}{R:α->β->Prop}{as cs:List α}{bs ds:List β}(h:Al2 R as bs)(k:Al2 R cs ds):Al2 R (as++cs) (bs++ds):=by
 induction h with
 |nil=>exact k
 |cons r _ ih=>exact .cons r ih
def bDg (h:aPh K H us es o)(h':aPh K H ws es o)(B:∀e∈es,kJ m e.t/\∃a,e.vp=.ref a)(N:∀mq,o=some mq->mq.mark=none):Al2 (DL K H 2) us ws:=by
 obtain⟨O,I,y,rfl,j,F,G,g⟩:=h;obtain⟨J,R,x,rfl,f,Q,C,n⟩:=h';rw[j] at f;cases f;refine aWv (Al2.of (by rw[j7,j7];lia) λi u w p q=>?_) (.cons ?_ (.cons ?_ .nil))
 ·rw[t7] at p q;obtain⟨L,l,rfl⟩:=Option.map_eq_some_iff.mp p;obtain⟨M,D,rfl⟩:=Option.map_eq_some_iff.mp q;have s:i<es.length:=by rw[<-F];exact (List.getElem?_eq_some_iff.mp l).1
  have d:=b8 s;exact aV7 (G i L _ l d) (C i M _ D d) λr A=>(B _ (m8 d)).1.flat r (yO A)
 ·cases o with
  |none=>cases g;cases n;exact aDr (.inl ⟨rfl,rfl⟩)
  |some mq=>obtain⟨a,v,rfl,z,k⟩:=g;obtain⟨b,P,rfl,E,c⟩:=n;rw[N mq rfl] at k c;cases k;cases c;exact aDr (.inr ⟨a,b,_,_,rfl,rfl,z,E,.cons (.inl ⟨rfl,rfl⟩) (.cons (.inl ⟨rfl,rfl⟩) (.cons (.inl ⟨rfl,rfl⟩) .nil))⟩)
 ·obtain⟨a,e⟩:=(B y (m8 j)).2;rw[e];exact aOr
def aKw (g:aX K H C x m d dm es):∀e∈es,kJ m e.t/\∃a,e.vp=.ref a:=λe f=>by
 obtain⟨_,_,_,_,c,_⟩:=g.ens.tb e f;refine⟨g.ok e f,?_⟩;generalize e.t.pl=pl at c;cases pl with
 |copies=>obtain⟨a,b,_⟩:=c;exact⟨a,b⟩
 |keys n=>obtain⟨a,b,_⟩:=c;exact⟨a,b⟩
 |spans n h0 cs=>obtain⟨a,_,b,_⟩:=c;exact⟨a,b⟩
def aX.fx (f:Fx a H H')(h:fM H a)(l:∀e∈es,e.L≠a)(i:aX K H C x m d dm es):aX K H' C x m d dm es:=by obtain⟨s,c,_⟩:=id h;obtain⟨k,j⟩:=id i.at_;have g:=i.ens.at_;exact i.kp (S:=λb=>b≠a) (KP.fx f h λz=>z rfl) (λz=>by rw[z,c] at j;cases j) (λz=>by rw[z,c] at g;cases g) l
def Mvs.fx (f:Fx a H H')(h:fM H a)(e:Mvs K H dm g j):Mvs K H' dm g j:=by obtain⟨s,c,_⟩:=id h;obtain⟨d,b,_⟩:=id e;exact e.kp (λu z=>f.same _ _ (λy=>by rw[y,c] at b;cases b) z) λ_ _=>f.bC h
inductive aJw (K:bF9)(C Pt:Addr)(vs:List V)(H:Hp)(Q:VK)(E_:XK):Prop
 |mk (a x N dt d dm:Addr) (m:Int) (vc:V) (b:Bool) (ns:List Str) (ts es:List En) (f:Str->Option Mv) (j:Nat) (nn kd:Str) (h0:Int) (cs:List (V × Int)) (_:vs=[.ref a,.ref x,.ref N,.ref dt,.int m,vc,.bl b]) (_:fM H a) (_:H N=some (.lst (ns.map V.str))) (_:N≠a) (_:qX ns) (_:eQ K H dt ts) (_:dt≠a) (_:(∀e∈ts,kJ m e.t/\e.L≠a)) (_:Ctx ns ts es m nn kd h0 cs) (_:kE K H (gZ K H) vc ((.non,h0)::cs)) (_:2<=m) (_:m<=4) (_:(∀n,ns[0]?=some n->(b=true->f n≠none)/\(b=false->f n=none))) (_:aX K H C x m d dm es) (_:(∀e∈es,e.L≠a)) (_:Mvs K H dm f j) (_:(∀n mq,f n=some mq->mq.mark=none)) (_:H Pt=some (.tab qC)) (_:∀H',Fx a H H'->Q (.bl true) H')
def aCe (T:Txt w K mg){C Pt:Addr}{ad:Exn->Addr}(a8:Ok P w K mg base 6 "_law_bad" o5 (aU4 K))(vD:Ok P w K mg base 14 "_law_about" bQI (aHt K C Pt))(oK:Ok P w K mg base 8 "_law_word" n7 (uZ K C ad)):Ok P w K mg base 15 "_law_asked" o4 (aJw K C Pt):=by
 refine Ok.ofV T.aGv qY (by trivial) (λf a9 A a5 s H vs Q E hr h=>?_)
 obtain⟨a,x,N,dt,d,dm,m,vc,b,S,ts,F,M,j,nn,kd,h0,cs,rfl,U,gN,nN,R,hE,a4,a0,D,hc,m2,m4,hb,hS,hL,hM,a3,hP,q⟩:=h;have hU:=hr.units;have nd:=qY.nd;refine⟨_,(aB (aGa (bB a8 (aF (vv 0) (aF (vv 2) (aF (vv 3) (aF (vv 4) (aF (vv 5) (va1 (vv 6)))))))) (aA1 rfl (cG (gF 7) (cG (gF 8) (cG (gF 9) (cG (gF 10) (cG (gF 11) lF))))))) (aB (bM (VW.pt (aGt (eG cW (vv 11) aP) (yU (bR (vv 6))))) (aD (aK fB)) aQ) (aB (aY 12 (bB vD (aF (vv 1) (va1 (vv 2))))) (aB (bM (eG (aS3 hU) (bB oK (aF (vv 1) (aF (vv 7) (aF (vv 8) (aF (vv 9) (va1 (vv 10))))))) (bQ (va1 (vv 11)))) (aD (aK fB)) aQ) (aD (aK (tL (bB8 hU) (bB vD (aF (vv 1) (va1 (vv 2)))) (vv 12)))))))),?_⟩;refine⟨_,rfl,_,rfl,_,rfl,_,rfl,_,rfl,_,rfl,a,N,dt,m,vc,b,S,ts,F,M,nn,kd,h0,cs,rfl,U,gN,nN,R,hE,a4,a0,D,hc,m2,m4,hb,λp u v v1 v2 c H1 y gp B=>?_⟩;refine⟨p,_,rfl,gp,rfl,_,_,rfl,_,_,rfl,_,_,rfl,_,_,rfl,_,_,rfl,rfl,?_⟩;dsimp only[bF,List.set];refine qD (fun σ' H'=>σ'=[some (.ref a),some (.ref x),some (.ref N),some (.ref dt),some (.int m),some vc,some (.bl b),some (.int u),some v,some v1,some v2,some (.str c.wd),none]/\H'=H1/\Bad K H1 m F M u v v1 v2 c) (λNX hN=>?_) fun σ' H' hJ=>?_
 ·refine⟨_,rfl,rfl,_,rfl,?_⟩;rcases B with⟨rfl,rfl⟩|⟨hnb,B⟩
  ·exact dZ rfl ⟨_,rfl,true,rfl,cP (q H1 y)⟩
  ·cases ec:decide (V.str c.wd=V.str "move") with
   |false=>exact bZ (hN _ _ ⟨rfl,rfl,B⟩)
   |true=>
    have e:c=.move:=by have e:=V.str.inj (of_decide_eq_true ec);cases c <;> first|rfl|exact absurd e (by trivial)
    refine cP ⟨_,rfl,b,rfl,?_⟩;cases b with
    |true=>exact absurd e (hnb rfl)
    |false=>exact bZ (hN _ _ ⟨rfl,rfl,B⟩)
 ·obtain⟨rfl,rfl,B⟩:=hJ;have k:=hS.fx y U hL;have r:=hM.fx y U;obtain⟨sv,ha,_⟩:=id U;have O:=y.same _ _ (λz=>by rw[z,ha] at hP;cases hP) hP;have L:=y.same _ _ nN gN;obtain⟨Y,t0,I,a7,a6,_,_⟩:=D.at_ 0 (by decide);have J:∀(i:Nat) (e:En),F[i]?=some e->S[i]?=some e.n:=λi e he=>by
   have il:i<3:=by rw[<-D.len];exact (List.getElem?_eq_some_iff.mp he).1
   obtain⟨e',t,h1,_,h2,_⟩:=D.at_ i il;rw[he] at h1;cases h1;exact h2
  have G:3<=S.length:=by rw[R.1];decide
  refine⟨_,rfl,_,rfl,x,N,d,dm,m,F,S,Y,M Y.n,rfl,k,by lia,by lia,O,L,D.len,G,J,I,r.d _ rfl,λl us H2 W g2 hA=>?_⟩;dsimp only[bF,List.set];refine⟨_,rfl,_,rfl,_,rfl,_,rfl,_,rfl,x,d,dm,m,u,F,v,v1,v2,M,j,rfl,k.same W,r.same W,.inl ⟨c,B.same W,λea H3 s3=>⟨c,ea,rfl,rfl,λl4 H4 s4 g4=>?_⟩⟩⟩;have o:=s3.trans s4;refine⟨_,rfl,(by show 1<=sizeLine;decide),λl5 H5 _ Z g5=>⟨l4,l5,_,_,rfl,rfl,SqL.of (Z _ _ g4),SqL.of g5,aYp rfl,_,rfl,bZ ?_⟩⟩;have g:=W.trans (o.trans Z);refine⟨_,rfl,_,rfl,x,N,d,dm,m,F,S,Y,M Y.n,rfl,k.same g,by lia,by lia,g _ _ O,g _ _ L,D.len,G,J,I,(r.same g).d _ rfl,λl6 a2 H6 X g6 a1=>?_⟩;exact⟨_,rfl,l6,l,a2,us,rfl,rfl,SqL.of g6,SqL.of ((o.trans (Z.trans X)) _ _ g2),bDg a1 (hA.same (o.trans (Z.trans X))) (aKw (k.same (g.trans X))) (λmq e=>a3 _ mq e),q H6 (y.sm (g.trans X))⟩
end
end My
namespace L2
open PySem PySem.Spec PyProof.Rows
def bBl (K:bF9):R2:=λx y H Q=>∃l l0 l1 b z q,x=.ref b/\y=.ref l/\SqL K H l [.ref l0,.ref l1]/\H l0=some (.lst [])/\H l1=some (.lst [.str z])/\H b=some (.lst q)/\(q=[]\/q=[.str z])/\Q (.bl false) H
theorem aSi (hu:X.A.units+64<cLine):OpR X (compareOp .NotIn) (bBl X.K):=by
 intro S s σ H x y v u Q I E M h;obtain⟨l,f,c,b,z,q,rfl,rfl,C,d,j,m,F,k⟩:=h;cases E;cases M;obtain⟨R,r,t,_⟩:=I.list C;obtain⟨V,P,L,_⟩:=I.list (SqL.of d);obtain⟨T,D,O,_⟩:=I.list (SqL.of j);obtain⟨U,J,w,_⟩:=I.list (SqL.of m);have G:=P.length;have N:=D.length;have B:=J.length;have p:X.A.in1.units+42+1<cLine:=by show X.A.units+1+42+1<cLine;lia
 have g:X.A.in1.units<cLine:=by lia
 have a:f≠c:=λz=>by rw[z,j] at d;cases d
 cases r with
 |cons a1 r=>
  cases r with
  |cons a2 r=>
   cases r;cases a1;cases a2;rcases F with rfl|rfl
   ·have n:=mZ I 1 (.inr ⟨f,b,[],[],rfl,rfl,SqL.of d,SqL.of m,.nil⟩) rfl rfl p;have o:=bDP (λz=>by rw[z,m] at j;cases j) (SeqAt.RcAt.lists_lengths O.isList w.isList (by rw[d9,d9,<-N,<-B];rfl) g);refine bES (λv=>decide (v=.ref f)) t.isList (λy i=>?_) ?_
    ·simp only[List.mem_toArray,bAC,z9,or_false] at i;rcases i with rfl|rfl
     ·rw[v4 rfl];exact n
     ·rw[v5 λz=>a (by injection z with z;exact z.symm)];exact o
    ·have e:([Value.ref f,Value.ref c].toArray.any λv=>decide (v=.ref f))=true:=by simp
     rw[e];exact⟨.bl _,H,I,rfl,k⟩
   ·have o:=mZ I 1 (.inr ⟨c,b,_,_,rfl,rfl,SqL.of j,SqL.of m,.cons (.inr (.inl ⟨rfl,rfl⟩)) .nil⟩) rfl rfl p;have n:=bDP (λz=>by rw[z,m] at d;cases d) (SeqAt.RcAt.lists_lengths L.isList w.isList (by rw[d9,d9,<-G,<-B];rfl) g);refine bES (λv=>decide (v=.ref c)) t.isList (λy i=>?_) ?_
    ·simp only[List.mem_toArray,bAC,z9,or_false] at i;rcases i with rfl|rfl
     ·rw[v5 λz=>a (by injection z)];exact n
     ·rw[v4 rfl];exact o
    ·have e:([Value.ref f,Value.ref c].toArray.any λv=>decide (v=.ref c))=true:=by simp
     rw[e];exact⟨.bl _,H,I,rfl,k⟩
def bEe (K:bF9):R2:=λx y H Q=>∃l b xs zs,x=.ref l/\y=.ref b/\SqL K H l xs/\SqL K H b zs/\xs.length+zs.length<=sizeLine/\∀p H',H p=none->Same H H'->H' p=some (.lst (xs++zs))->Q (.ref p) H'
def aWn:OpR X (binaryOp .Add) (bEe X.K):=by
 intro M s σ H x y v u Q I B D h;obtain⟨l,b,T,O,rfl,rfl,G,N,P,q⟩:=h;cases B;cases D;obtain⟨c,r,J,_⟩:=I.list G;obtain⟨a,p,g,_⟩:=I.list N;have S:=r.length;have R:=p.length;obtain⟨⟨A,E,o,C⟩,w,t,n,hd⟩:=J.isList;obtain⟨⟨m,j,i,k⟩,f,e,L,d⟩:=g.isList;simp only at t hd e d;subst t hd e d;refine concat_meets ⟨_,w,rfl⟩ ⟨_,f,rfl⟩ noFill_list_add seq_list_add PySem.F.slot_list_add PySem.F.entry_list_add (PySem.F.args_list_add_2 _ _) (list_addW l b c.toArray a.toArray n L E j C k (by rw[d9,d9];lia)) ⟨w,f,?_⟩;have z:c.toArray++a.toArray=(c++a).toArray:=by simp
 rw[z];exact⟨.ref _,_,I.lnew (t':=s.toks) (r.append p) (by rw[bAB];lia),rfl,q _ _ I.fresh (aO I.fresh _) aG⟩
end L2
namespace My
open PySem PySem.Spec PyProof.Rows L2
section
variable {P:Program}{w:World}{K:bF9}{mg:bGC}{base:Heap}
inductive aOs (K:bF9)(Pt:Addr)(vs:List V)(H:Hp)(Q:VK)(E_:XK):Prop
 |mk (a:Addr) (ns:List Int) (_:vs=[.ref a]) (_:SqL K H a (ns.map V.int)) (_:ns.length<=63) (_:H Pt=some (.tab qC)) (_:∀H',H' Pt=some (.tab qC)->Q (.bl true) H')
def aIp {t:Tb}{n:Str}{cs:List (V × Int)}{num:Nat}{ks:List Bool}{j:List (List V)}(p:∀r∈t.rows,KdR ks r)(o:t.rows.length<=60)(a:Ded j (jF t n cs num none)):((srt j).take 60=[]->jF t n cs num none=[])/\∀r,((srt j).take 60).getLast?=some r->r∈t.rows/\jF t n cs num (some r)=[]:=by
 have g:∀r∈j,KdR ks r:=λr e=>p r (List.mem_filter.mp ((a.2.1 r).mp e)).1;obtain⟨c,i⟩:=wI g;have k:(srt j).length<=60:=by rw[aN7];exact bAE a.2.2 (bAE (bDV _ _) o)
 rw[bAV k];refine⟨λz=>?_,λr e=>?_⟩
 ·refine List.eq_nil_iff_forall_not_mem.mpr λx f=>?_;have:=c.mem_iff.mpr ((a.2.1 x).mpr f);rw[z] at this;cases this
 ·obtain⟨q,m⟩:=List.getLast?_eq_some_iff.mp e;rw[m] at i c;have b:=c.mem_iff.mp (bAO _ j4);refine⟨(List.mem_filter.mp ((a.2.1 r).mp b)).1,List.filter_eq_nil_iff.mpr λx f z=>?_⟩;rw[bAT] at z;have l:=(a.2.1 x).mpr (List.mem_filter.mpr ⟨f,by rw[bAT];exact⟨rfl,z.2⟩⟩);have d:rlt r x=true:=z.1;rcases List.mem_append.mp (c.mem_iff.mpr l) with h|h
  ·have:=(List.pairwise_append.mp i).2.2 x h r j4;rw[this] at d;cases d
  ·cases List.mem_singleton.mp h;rw[aZ1 (g _ b)] at d;cases d
inductive aTz (K:bF9)(C:Addr)(vs:List V)(H:Hp)(Q:VK)(E_:XK):Prop
 |mk (x d dm:Addr) (m:Int) (es:List En) (e:En) (n:Str) (h0:Int) (cs:List (V × Int)) (num:Nat) (house:Int) (f:Str->Option Mv) (j:Nat) (_:vs=[.ref x,.str e.n,.int num,.int house]) (_:aX K H C x m d dm es) (_:e∈es) (_:e.t.pl=.spans n h0 cs) (_:Mvs K H dm f j) (_:f e.n=none) (_:j<900) (_:num<=cs.length) (_:0<=house) (_:house<m) (_:house≠iI num h0 cs) (_:∀H',KP K (λb=>b≠dm) H H'->aX K H' C x m d dm es->Mvs K H' dm (fset f e.n (some ⟨num,house,none⟩)) (j+1)->Q .non H')
def PlK (m:Int)(k:Nat)(e:En):Prop:=(k=0->∃nn kd h0 cs,e.t.pl=.spans nn h0 cs/\look e.t.hd nn=some kd/\aF2 kd/\sE kd m h0 cs/\cs≠[])/\(0<k->aWm e.t.pl)
def Ctx.set {ns:List Str}{ts l2:List En}{e0 e':En}{m h0 a:Int}{nn kd:Str}{o:List (V × Int)}(num:Nat)(h:Ctx ns ts (e0::l2) m nn kd h0 o)(E:0<=a)(D:a<m)(q:e'.n=e0.n)(v:e'.t.hd=e0.t.hd)(B:e'.t.pl=.spans nn (aCg num a h0) (aCq num a o)):Ctx ns ts (e'::l2) m nn kd (aCg num a h0) (aCq num a o):=by
 obtain⟨A,w,⟨F,u,C,r⟩,p,y,s,j⟩:=h;cases u;refine⟨λi b=>?_,w,⟨e',rfl,B,by rw[v];exact r⟩,λi e b x=>?_,aNz num y E D,s,λz=>?_⟩
 ·obtain⟨e,t,c,g,l,f,d⟩:=A i b;cases i with
  |zero=>cases c;exact⟨e',t,rfl,g,by rw[q];exact l,by rw[q];exact f,by rw[v];exact d⟩
  |succ i=>exact⟨e,t,c,g,l,f,d⟩
 ·cases i with
  |zero=>cases b
  |succ i=>exact p (i+1) e b x
 ·cases num with
  |zero=>exact j z
  |succ k=>have:=congrArg List.length (uW (ho:=a) k o);rw[show aE2 a k o=[] from z] at this;rw[j7,j7] at this;exact j (bAX this.symm)
def aJm {ad:Exn->Addr}{C x d M:Addr}{H:Hp}{Q:VK}{E:XK}{ns:List Str}{ts J:List En}{e:En}{m u a:Int}{O kd:Str}{w:List (V × Int)}{f:Str->Option Mv}{j:Nat}(s:aX K H C x m d M (e::J))(r:Mvs K H M f j)(R:f e.n=some ⟨1,a,none⟩)(I:0<=a)(N:a<m)(h:Ctx ns ts (e::J) m O kd u w)
  (q:∀l us H' e' f' h0' cs',KP K (λb=>b≠d/\b≠M) H H'->H' l=some (.lst us)->(us=[]\/us=[.str "not yet"])->aX K H' C x m d M (e'::J)->Mvs K H' M f' j->Ctx ns ts (e'::J) m O kd h0' cs'->e'.n=e.n->e'.t.rows=e.t.rows->(f' e.n=f e.n\/f' e.n=none)->(∀n,n≠e.n->f' n=f n)->Q (.ref l) H'):uZ K C ad [.ref x,.int 5,.str e.n,.int 0,.int 0] H Q E:=by
 obtain⟨S,G,i,F⟩:=h.pl;cases G;have B:=List.length_pos_iff.mpr h.one;refine⟨x,d,M,m,5,e::J,.str e.n,.int 0,.int 0,f,j,rfl,s,r,.inr ⟨rfl,x,d,M,m,[],J,e,⟨1,a,none⟩,O,u,w,f,j,rfl,s,i,r,R,(λq z=>by cases z),λ_ y D L=>⟨.yet,y,rfl,rfl,λl H' g p=>?_⟩,B,I,N,λ_ v vp D A o k l H' g p=>?_⟩⟩
 ·have c:=L.trans g;exact q l _ H' e f u w (.same c) p (.inr rfl) (s.same c) (r.same c) h rfl rfl (.inl rfl) λ_ _=>rfl
 ·exact q l _ H' { e with v:=v,vp:=vp,t:={ e.t with pl:=.spans O (aCg 1 a u) (aCq 1 a w) } } _ _ _ (A.trans (.same g)) p (.inl rfl) (o.same g) (k.same g) (h.set 1 I N rfl rfl rfl) rfl rfl (.inr (by unfold fset;rw[if_pos rfl])) λn P=>by unfold fset;rw[if_neg P]
structure Bs (K:bF9)(H:Hp)(Pt N dt a:Addr)(ns:List Str)(iz:List Int)(ts:List En):Prop where
 sc:SqL K H a (iz.map V.int)
 nm:H N=some (.lst (ns.map V.str))
 en:eQ K H dt ts
 pt:H Pt=some (.tab qC)
def SqL.same' (s:Same H H')(h:SqL K H a xs):SqL K H' a xs:=by
 rcases h with (h|⟨o,h⟩)|h
 ·exact .inl (.inl (s _ _ h))
 ·exact .inl (.inr ⟨o,s _ _ h⟩)
 ·exact .inr h
def Bs.same (s:Same H H')(h:Bs K H Pt N dt a ns iz ts):Bs K H' Pt N dt a ns iz ts:=⟨SqL.same' s h.sc,s _ _ h.nm,h.en.same s,s _ _ h.pt⟩
structure LS (K:bF9)(H:Hp)(Pt C x N dt d dm a:Addr)(m:Int)(ns:List Str)(iz:List Int)(ts:List En)(nn kd:Str)(es:List En)(f:Str->Option Mv)(j:Nat)(b:Bool)(h0:Int)(cs:List (V × Int)):Prop where
 bs:Bs K H Pt N dt a ns iz ts
 sto:aX K H C x m d dm es
 mv:Mvs K H dm f j
 ctx:Ctx ns ts es m nn kd h0 cs
 bz:∀n,ns[0]?=some n->(b=true->∃house,f n=some ⟨1,house,none⟩/\0<=house/\house<m)/\(b=false->f n=none)
 mrk:∀n mq,f n=some mq->mq.mark=none
section
variable {H H':Hp}{Pt C x N dt d dm a:Addr}{m h0:Int}{ns:List Str}{iz:List Int}{ts es:List En}{nn kd:Str}{f:Str->Option Mv}{j:Nat}{b:Bool}{cs:List (V × Int)}
def LS.same (s:Same H H')(h:LS K H Pt C x N dt d dm a m ns iz ts nn kd es f j b h0 cs):LS K H' Pt C x N dt d dm a m ns iz ts nn kd es f j b h0 cs:=⟨h.bs.same s,h.sto.same s,h.mv.same s,h.ctx,h.bz,h.mrk⟩
def Bs.kp (k:KP K (λb=>b≠d/\b≠dm) H H')(r:dt≠d)(u:dt≠dm)(t:aX K H C x m d dm es)(v:Mvs K H dm f j)(h:Bs K H Pt N dt a ns iz ts):Bs K H' Pt N dt a ns iz ts:=by
 have l:=t.ens.at_;obtain⟨c,n,_⟩:=v;have g:∀{b:Addr} {o:HO},H b=some o->(∀c,o≠.dK c)->b≠d/\b≠dm:=λi z=>⟨λy=>by rw[y,l] at i;cases i;exact z _ rfl,λy=>by rw[y,n] at i;cases i;exact z _ rfl⟩;refine⟨?_,k.st _ _ (g h.nm λ_ z=>by cases z) h.nm,h.en.kp k ⟨r,u⟩ λe p=>?_,k.st _ _ (g h.pt λ_ z=>by cases z) h.pt⟩
 ·rcases h.sc with (h|⟨o,h⟩)|h
  ·exact .inl (.inl (k.st _ _ (g h λ_ z=>by cases z) h))
  ·exact .inl (.inr ⟨o,k.st _ _ (g h λ_ z=>by cases z) h⟩)
  ·exact .inr h
 ·obtain⟨_,_,_,_,_,s,q,_⟩:=h.en.tb e p;exact g q λ_ z=>by cases z
def aOy {st:Addr}(k:KP K (λb=>b≠d/\b≠dm) H H')(n:aX K H C x m d dm es)(l:Mvs K H dm f j)(h:fM H st):fM H' st:=by have c:=n.ens.at_;obtain⟨i,e,_⟩:=l;obtain⟨a,g,t⟩:=h;exact⟨a,k.st _ _ ⟨λz=>(by rw[z,c] at g;cases g),λz=>(by rw[z,e] at g;cases g)⟩ g,t⟩
def LS.first (h:LS K H Pt C x N dt d dm a m ns iz ts nn kd es f j b h0 cs):∃e0 l2,es=e0::l2/\ns[0]?=some e0.n/\e0.t.pl=.spans nn h0 cs:=by
 obtain⟨e0,t,g,_,k,_⟩:=h.ctx.at_ 0 (by decide);obtain⟨l,i,c,_⟩:=h.ctx.pl;rw[g] at i;cases i;cases es with
 |nil=>cases g
 |cons e l2=>cases g;exact⟨_,l2,rfl,k,c⟩
end
def bCj {f:Addr}{fd:FuncData}(F:Fun K "law" "law" aOg f fd)(T:Txt w K mg){C Ct Pt:Addr}{ad:Exn->Addr}(iv:Ok P w K mg base 1 "_law_seed" bQK (aNp K))(jk:Ok P w K mg base 2 "_law_names" n8 aUo)(aH:Ok P w K mg base 1 "_law_next" n8 jJ)(gG:Ok P w K mg base 3 "_law_value" bQD yX)(ja:Ok P w K mg base 2 "_law_head" bQH (aKl K))(sS:Ok P w K mg base 4 "_law_row" o7 (aF5 K))
  (de:OkC P w K mg base C 11 "Store" o8 (aIx K C Pt)) (is:Ok P w K mg base 15 "_law_asked" o4 (aJw K C Pt)) (oK:Ok P w K mg base 8 "_law_word" n7 (uZ K C ad))
  (bo:OkM P w K mg base C 5 "lend" bQC (aTz K C)) (bb:OkM P w K mg base C 5 "carry" bQN λvs H Q _=>bEi K C vs H Q) (b1:OkM P w K mg base C 6 "settle" n6 λvs H Q _=>aZl K C (ad .yet) vs H Q E0) (X:OkM P w K mg base C 4 "moving" n6 (tD K C)) (I:OkM P w K mg base C 13 "town" ["self"] (aE0 K C Ct Pt)) (ba:OkM P w K mg base Ct 4 "placing" n6 (sW K Ct)) (a5:OkM P w K mg base Ct 4 "whole" n6 (mQ K Ct)):eX P w K mg base CX0 16 f fd bQK (aOs K Pt):=by
 refine Fun.okV F aTe (λvs H Q E h=>?_) (λiu A gn s H vs Q E hr h=>?_)
 ·obtain⟨a,W,rfl,_⟩:=h;rfl
 obtain⟨a,iz,rfl,ha,gr,eq,q⟩:=h;have hU:=hr.units;have hu:=jD hr;have nd:=aTe.nd;refine⟨_,(aB (aY 1 (bQ (va1 (bB iv (va1 (vv 0)))))) (aB (aY 2 (bB jk (aF (vv 1) (va1 aA)))) (aB (aY 3 (bI dC aA (bB aH (aF (vv 1) (va1 aA))))) (aB (aY 4 aI3) (aB (jU PassesOwn.never rfl (fK (by rfl) T.iK (va1 aA)) (gF 5) (aB (aY 6 (bB ja (aF (vv 1) (va1 (vv 2))))) (aB (aGa (aU aR (vv 6) (bB aH (aF (vv 1) (va1 (aL bA (by rfl) T.eU cN (va1 (vv 6))))))) (aA1 rfl (cG (gF 7) (cG (gF 8) lF)))) (aB (aY 9 (bL (aF (bL (aF cD (va1 (bB aH (aF (vv 1) (va1 (vv 3))))))) (va1 (bL (aF (bB gG (aF (vv 1) (va1 (vv 8)))) (va1 (bB aH (aF (vv 1) (va1 (vv 3))))))))))) (aB (aY 10 (aU bJ (bQ (aF (bL (aF aP (aF (vv 7) (va1 (vv 9))))) (aF (bL (aF aP (va1 (vv 7)))) (va1 (bL (va1 aP)))))) (vv 5))) (aD (mY hu (vv 4) (aU bJ (vv 2) (vv 5)) (bL (aF (vv 6) (aF (vv 10) (va1 (cU (N:=["_law_j","_law_state","_law_head_here"]) ck (iG (aC aOg)) rfl (fK (by rfl) T.iK (va1 (bB aH (aF (vv 1) (va1 aA))))) (λcl s' M fp=>⟨(jH 0),fY,(bB sS (aF (vv 1) (va1 (vv 2))))⟩))))))))))))) (aB (aY 11 (aOz (de.mono (by decide)) hr (by rfl) (aF (vv 3) (va1 (vv 4))))) (aB (aY 9 (aU aR (aU aR (lH hu (vv 4) (aU bJ (vv 2) aA) (λ_ _=>rfl)) aA) aA)) (aB (aY 12 fB) (aB (jU PassesOwn.never rfl (fK (by rfl) T.iK (va1 aA)) (gF 5) (aB (aY 1 (bQ (va1 (bI dC (aU bJ (vv 1) aA) (bI lV (aU bJ (bI aWn (vv 0) (bQ (va1 aA))) (bI lV (vv 5) (bI dC (aL bA (by rfl) T.eU cN (va1 (vv 0))) aA))) (bI aE9 aA aA)))))) (aB (bM (cC (bR (bB is (aF (vv 1) (aF (vv 11) (aF (vv 2) (aF (vv 4) (aF (vv 3) (aF (vv 9) (va1 (vv 12))))))))))) (aD (aK fB)) aQ) (aB (bM (eG cW (vv 5) aA) (aB (eF (kY bo (vv 11) (aF (aU bJ (vv 2) aA) (aF aA (va1 (bI lV (bI dC (aU aR (aU aR (vv 9) aA) aA) aA) (vv 3))))))) (aB (aY 12 fB) (aB (aY 13 (kY a5 (uB (I.mono (by decide)) hr (vv 11)) (va1 (aU bJ (vv 2) aA)))) (aB (bM (VW.pt (gB (aFr (aSi hU) (bB oK (aF (vv 11) (aF aA (aF (aU bJ (vv 2) aA) (aF aA (va1 aA)))))) (bQ (aF (bQ zV) (va1 (bQ (va1 aP))))) (by with_unfolding_all rfl)) (fG (eG (aS3 hU) (vv 13) (kY a5 (uB (I.mono (by decide)) hr (vv 11)) (va1 (aU bJ (vv 2) aA))))))) (aD (aK fB)) aQ) (aD (aY 12 (tL aE8 (kY X (vv 11) (va1 (aU bJ (vv 2) aA))) cD))))))) aQ) (aB (bM (VW.pt (aGt (eG cW (vv 5) aA) (yU (bR (vv 12))))) (aB (eF (kY bb (vv 11) (aF (aU bJ (vv 2) aA) (va1 aA)))) (aB (eF (kY b1 (vv 11) (va1 (aU bJ (vv 2) aA)))) (aD (aY 12 fB)))) aQ) (aD (aY 9 (aU aR (kY ba (uB (I.mono (by decide)) hr (vv 11)) (va1 (aU bJ (vv 2) aA))) aA)))))))) (aD (aK (tL aMh (kY X (vv 11) (va1 (aU bJ (vv 2) aA))) cD)))))))))))),?_⟩;refine⟨_,rfl,a,iz,rfl,ha,gr,λc H1 s1 _ _=>⟨(by show 1<=sizeLine;decide),λu H2 bj s2 fy=>?_⟩⟩;have fo:fM H2 u:=⟨c,fy,trivial⟩;dsimp only[bF,List.set];refine⟨_,rfl,u,rfl,fo,λN H3 W f3 fv gN be=>?_⟩;dsimp only[bF,List.set];refine⟨_,rfl,u,3,rfl,f3.st,⟨by decide,by decide⟩,λz H4 f4 z0 z1=>⟨_,_,rfl,rfl,?_⟩⟩;obtain⟨m,em⟩:∃m,m=2+z:=⟨_,rfl⟩;have m2:2<=m:=by lia
 have m4:m<=4:=by lia
 dsimp only[bF,List.set];rw[<-em];clear em z0 z1;refine λdt H5 e8 s5 g5=>?_;dsimp only[bF,List.set];have nN:N≠u:=fo.ne fv;have cr:=f4.same _ _ nN gN;have c8:=f3.trans f4;have cx:=c8.st;have fa:dt≠u:=cx.ne e8;have f5:Fx u H4 H5:=Fx.of cx s5;have j3:=be.1;refine qD (fun σ M=>∃ts l5 l6 l7 l8 l9 a3,Fx u H4 M/\eQ K M dt ts/\(∀e∈ts,kJ m e.t/\H4 e.L=none)/\ts.length=3/\ts.map (·.n)=W.take 3/\(∀(k:Nat) (e:En),ts[k]?=some e->PlK m k e)/\σ=[some (.ref a),some (.ref u),some (.ref N),some (.int m),some (.ref dt),l5,l6,l7,l8,l9,a3,none,none,none]) (λNX ie=>?_) fun σ' M hJ=>?_
 ·refine⟨3,rfl,by decide,by decide,?_⟩;refine gC (n:=3) (λi σ M=>Fx u H4 M/\∃O l5 l6 l7 l8 l9 a3,eQ K M dt O/\(∀e∈O,kJ m e.t/\H4 e.L=none)/\O.map (·.n)=W.take i/\(∀(k:Nat) (e:En),O[k]?=some e->PlK m k e)/\σ=[some (.ref a),some (.ref u),some (.ref N),some (.int m),some (.ref dt),l5,l6,l7,l8,l9,a3,none,none,none]) ⟨f5,[],none,none,none,none,none,none,⟨g5,List.nodup_nil,bAF _,λe h=>(by cases h),λe h=>(by cases h)⟩,λe h=>(by cases h),rfl,λk e h=>(by cases h),rfl⟩ (λi σ M hi p=>?_) fun σ M p=>?_
  ·obtain⟨fx,O,l5,l6,l7,l8,l9,a3,hE,cf,ak,az,rfl⟩:=p;have gq:=fx.same _ _ nN cr;refine⟨_,rfl,_,rfl,u,N,W,rfl,fx.st,gq,nN,be,λvh H6 hd f6 hI b9 _=>?_⟩;dsimp only[bF,List.set];obtain⟨b,us,rfl,hb,dk⟩:=id hI;have lu:=dk.len;have jh:=b9.1.2.2;have jc:=b9.1.2.1;refine⟨_,rfl,_,rfl,_,rfl,b,us,rfl,.inr hb,u,_,rfl,f6.st,⟨by lia,by lia⟩,λzc H7 f7 jg je=>?_⟩;obtain⟨zi,rfl⟩:∃zi:Nat,zc=zi:=⟨zc.toNat,by lia⟩;have hz:zi<us.length:=by lia
   obtain⟨c,hc,pc,i8,gt⟩:=bW dk (b8 hz);have F7:=fx.trans (f6.trans f7);refine⟨b,us,_,.ref pc,rfl,rfl,f7.bC f6.st hb,bO (by rw[b8 hz,i8]),?_⟩;have ed:=m8 hc;have lk:=aUi b9.1.1 ed;obtain⟨di,d0⟩:=b9.2 c ed;refine⟨pc,_,rfl,f7.bC f6.st gt,rfl,_,_,rfl,_,_,rfl,rfl,?_⟩;dsimp only[bF,List.set];refine⟨_,rfl,_,rfl,u,m,rfl,F7.st,⟨by lia,by lia⟩,λh0 H8 f8 im fr=>⟨(by show 2<=sizeLine;decide),λp1 H9 _ s9 g9=>?_⟩⟩;have F9:=(F7.trans f8).sm s9;refine⟨_,rfl,_,rfl,u,c.2,rfl,F9.st,d0,λd1 e7 ei gg=>⟨_,rfl,_,rfl,u,m,rfl,ei.st,⟨by lia,by lia⟩,λh1 cq c7 ig gk=>⟨(by show 2<=sizeLine;decide),λp2 c0 _ cd fq=>⟨(by show 2<=sizeLine;decide),λpt fg _ ah gc=>?_⟩⟩⟩⟩;have au:=ei.trans c7;have F13:=((F9.trans au).sm cd).sm ah;dsimp only[bF,List.set];refine⟨_,rfl,_,rfl,(by show 3<=sizeLine;decide),λq1 bi _ ac i0=>⟨_,rfl,(by show 2<=sizeLine;decide),λq2 c9 _ c4 ge=>⟨(by show 1<=sizeLine;decide),λq3 ik _ bu da=>⟨(by show 3<=sizeLine;decide),λql bd _ an cw=>?_⟩⟩⟩⟩;have Z:=ac.trans (c4.trans (bu.trans an));have F17:=F13.sm Z;have d3:kE K bd (gZ K bd) (.ref pt) ((.non,h0)::[(d1,h1)]):=⟨pt,_,rfl,SqT.of (Z _ _ gc),.cons ⟨p1,rfl,SqT.of (Z _ _ (ah _ _ (cd _ _ (by
    have dr:p1≠u:=λz=>by obtain⟨sv,e,_⟩:=F9.st;rw[<-z,g9] at e;cases e
    exact au.same _ _ dr g9))))⟩ (.cons ⟨p2,rfl,SqT.of (Z _ _ (ah _ _ fq))⟩ .nil)⟩
   have ey:sE c.2 m h0 [(d1,h1)]:=⟨⟨im,fr⟩,λx hx=>by rw[List.mem_singleton.mp hx];exact⟨gg,ig,gk⟩,List.pairwise_singleton _ _,by show 1<=7;decide⟩;obtain⟨vp,pl,gh,bv,eu,ij⟩:∃vp pl,[V.ref q1,.ref q2,.ref q3][i]?=some vp/\zP K bd vp pl/\aZt hd m pl/\∀e:En,e.t.hd=hd->e.t.pl=pl->PlK m i e:=by
    match i,hi with
    |0,_=>exact⟨_,.spans c.1 h0 [(d1,h1)],rfl,⟨q1,.ref pt,rfl,SqT.of (an _ _ (bu _ _ (c4 _ _ i0))),d3⟩,⟨di,c.2,lk,d0,ey⟩,λe e1 e2=>⟨λ_=>⟨_,_,_,_,e2,by rw[e1];exact lk,d0,ey,λz=>by cases z⟩,λz=>absurd z (by decide)⟩⟩
    |1,_=>exact⟨_,.keys c.1,rfl,⟨q2,rfl,SqT.of (an _ _ (bu _ _ ge))⟩,⟨di,c.2,lk⟩,λe e1 e2=>⟨λz=>absurd z (by decide),λ_=>by rw[e2];exact trivial⟩⟩
    |2,_=>exact⟨_,.copies,rfl,⟨q3,rfl,SqT.of (an _ _ da)⟩,trivial,λe e1 e2=>⟨λz=>absurd z (by decide),λ_=>by rw[e2];exact trivial⟩⟩
    |k+3,h=>exact absurd h (by lia)
   refine⟨_,rfl,ql,_,_,vp,rfl,rfl,SqL.of cw,by rw[bFX];exact bO gh,?_⟩;dsimp only[bF,List.set];have cm:jK K bd (.ref b) hd:=hI.tk ((((f7.trans f8).sm s9).trans au |>.sm (cd.trans (ah.trans Z))).tk f6.st);refine⟨_,rfl,_,rfl,?_⟩;refine aIk [none,some (.ref u),some (.ref b)] (aNq 1 6 (by trivial) (by trivial) rfl rfl rfl rfl (by trivial) (by trivial)) ?_;refine⟨_,rfl,u,5,rfl,F17.st,⟨by decide,by decide⟩,λy ic b5 y0 y1=>?_⟩;refine⟨y,rfl,by lia,by lia,?_⟩;have F18:=F17.trans b5;have e6:=cm.tk (b5.tk (K:=K) F17.st);refine aUq (Fx u) (aZd b5.st) ((List.range y.toNat).map λi:Nat=>V.int (0+(i:Int))) (λ_=>true) (λ_ M y=>∃r,dJ K M y r/\qR hd r) (λf1 f2 ⟨r,⟨p,e,hp⟩,h⟩=>⟨r,⟨p,e,f2.bC f1.st hp⟩,h⟩) (λ_ _ gD ⟨r,⟨p,e,hp⟩,h⟩=>⟨r,⟨p,e,SqT.qQ gD hp⟩,h⟩) (λi σ=>∃x,σ=[some x,some (.ref u),some (.ref b)]) (fun σ=>∃l,σ=[l,some (.ref u),some (.ref b)]) ⟨none,rfl⟩ (small (by rw[j7,bAM];lia)) (Itr 0 y.toNat) (λM i x _ ex=>?_) (λM _=>?_) (λi x σ' M Q' ex ps f' r=>?_) (λi x σ2 ex at2 M R f' r=>r M (Fx.refl f'.st)) (λi x σ2 ex at2 _ M R f' r=>?_) λL g1 ys g0 fL gL eo=>?_
   ·obtain⟨hi,rfl⟩:=aKz ex;exact⟨hi,λy H2 hy=>hy⟩
   ·show y.toNat<=_;rw[j7,bAM];exact j0 _
   ·obtain⟨l,rfl⟩:=ps;exact r _ ⟨some x,rfl⟩ ⟨x,rfl⟩
   ·obtain⟨x',rfl⟩:=at2;exact⟨_,rfl,_,rfl,u,.ref b,hd,rfl,f'.st,e6.tk (f'.tk b5.st),b9,λt H2 r' f2 g2 hk=>r _ H2 f2 ⟨r',⟨t,rfl,SqT.of g2⟩,hk⟩⟩
   rw[aBx,j7,bAM] at eo;obtain⟨ly,hy⟩:=aAz eo;obtain⟨cn,ci,i3⟩:=aO6 (ys:=ys) λy hm=>by obtain⟨i,hi⟩:=List.mem_iff_getElem?.mp hm;exact hy i y hi
   have ip:=ci.len;have af:=b5.trans g0;have F19:=F17.trans af;have g4:H4 L=none:=F17.free (b5.free fL);refine⟨(by show 3<=sizeLine;decide),λt al b2 ai gx=>?_⟩;have d6:i<W.length:=by lia
   have F20:=F19.sm ai;have ef:=F20.same _ _ nN cr;have d4:=(((f7.trans f8).sm s9).trans au |>.sm (cd.trans (ah.trans Z)));have ay:eQ K al dt O:=(hE.fx ((f6.trans d4).trans af) fx.st fa λe he=>cx.ne (cf e he).2).same ai;have lE:O.length=i:=by have:=congrArg List.length ak;rw[j7,bAR] at this;lia
   refine⟨_,rfl,_,rfl,_,rfl,N,_,_,.str W[i],rfl,rfl,SqL.of ef,?_,dt,_,rfl,aI9.k (k:=Sum.inr W[i]) ay.at_ (by rw[yW];exact nD (by lia)),?_⟩
   ·rw[bFX];exact bO (by rw[t7,b8 d6];rfl)
   have tk:W.take (i+1)=W.take i++[W[i]]:=by rw[bBW,b8 d6];rfl
   have cu:(W.take (i+1)).Nodup:=be.2.2.sublist (bF3 _ _);have gj:∀e∈O,e.n≠W[i]:=λe he z=>by rw[tk,<-ak] at cu;exact (List.nodup_append.mp cu).2.2 _ (bCX he) _ j4 z
   obtain⟨a8,ag⟩:∃a8:En,(⟨W[i],.ref t,.ref b,vp,L,⟨hd,pl,cn⟩⟩:En)=a8:=⟨_,rfl⟩;have ek:putK (enK O) (Sum.inr W[i]) (.ref t)=enK (O++[a8]):=by
    rw[aA2 λkv dl=>by unfold enK at dl;obtain⟨e,he,rfl⟩:=List.mem_map.mp dl;exact λz=>gj e he (Sum.inr.inj z)]
    unfold enK;rw[bAY,<-ag];rfl
   rw[ek];have nz:eE al dt:=eE.dK ay.at_;have bz:But dt al (L2.upd al dt (.dK (enK (O++[a8])))):=But.upd;have i7:lU K al a8.v a8.vh a8.vp a8.L a8.t:=by rw[<-ag];exact⟨t,rfl,SqT.of gx,(cm.tk (af.tk F17.st)).same ai,(bv.tk (af.tk F17.st)).same ai,ys,ai _ _ gL,ci.imp λ_ _ z=>z.same ai⟩
   refine⟨F20.upd e8 fa,O++[a8],_,_,_,_,_,_,⟨aG,?_,?_,λe he=>?_,λe he=>?_⟩,λe he=>?_,?_,λk e hk=>?_,rfl⟩
   ·rw[bAY,ak,<-ag];show (W.take i++[W[i]]).Nodup;rw[<-tk];exact cu
   ·rw[bAB];show O.length+1<=60;lia
   ·rcases List.mem_append.mp he with he|he
    ·exact ay.nm e he
    ·rw[bDA] at he;rw[he,<-ag];exact be.2.1 _ (bAU d6)
   ·rcases List.mem_append.mp he with he|he
    ·exact bz.tb nz (ay.tb e he)
    ·rw[bDA] at he;rw[he];exact bz.tb nz i7
   ·rcases List.mem_append.mp he with he|he
    ·exact cf e he
    ·rw[bDA] at he;rw[he,<-ag];exact⟨⟨b9,eu,by show cn.length<=60;lia,i3⟩,g4⟩
   ·rw[bAY,ak,tk,<-ag];rfl
   ·by_cases kl:k<O.length
    ·rw[bAZ kl] at hk;exact az k e hk
    ·rw[bAW (by lia)] at hk;have ej:k - O.length=0:=by have:=(List.getElem?_eq_some_iff.mp hk).1;simpa using this
     rw[ej] at hk;cases hk;have:k=i:=by lia
     rw[this];exact ij a8 (by rw[<-ag]) (by rw[<-ag])
  ·obtain⟨fx,O,l5,l6,l7,l8,l9,a3,hE,cf,ak,az,rfl⟩:=p;have lE:O.length=3:=by have:=congrArg List.length ak;rw[j7,bAR] at this;lia
   exact ie _ _ ⟨O,_,_,_,_,_,_,fx,hE,cf,lE,ak,az,rfl⟩
 obtain⟨ts,l5,l6,l7,l8,l9,a3,F4,hE,gs,h6,hh,az,rfl⟩:=hJ;have et:∀e∈ts,kJ m e.t:=λe he=>(gs e he).1;have ez:Pt≠u:=aW (s1 _ _ eq) bj;have g6:=c8.same _ _ ez (s2 _ _ (s1 _ _ eq));have dp:=F4.same _ _ ez g6;refine⟨_,rfl,_,rfl,λx dx dz f9 jb=>?_⟩;refine⟨M,x,dx,dt,m,ts,rfl,aG,dz,fP dz (aO f9 _),by lia,by lia,hE,et,dp,λd dm H6 O io ea s6 hS ii hA=>⟨rfl,?_⟩⟩;dsimp only[bF,List.set];have cb:dt≠d:=aW hE.at_ io;have c3:dt≠dm:=aW hE.at_ ea;have lA:=hA.len;have du:∀(i:Nat) (t:En),ts[i]?=some t->W[i]?=some t.n:=λi t ht=>by
  have il:i<3:=by rw[<-h6];exact (List.getElem?_eq_some_iff.mp ht).1
  have:=congrArg (λl=>l[i]?) hh;simp only[t7,ht,bDS] at this;rw[bEK il] at this;exact this.symm
 obtain⟨t0,b2⟩:∃t,ts[0]?=some t:=⟨ts[0]'(by lia),b8 _⟩;obtain⟨nn,kd,h0,cs,p1,p2,p3,p4,p5⟩:=(az 0 t0 b2).1 rfl;have C1:Ctx W ts O m nn kd h0 cs:=by
  refine⟨λi hi=>?_,by lia,?_,λi e hi he=>?_,p4,p3,p5⟩
  ·have b3:i<ts.length:=by lia
   obtain⟨e,he,v,L,rfl,_⟩:=bW hA (b8 b3);exact⟨_,_,he,b8 b3,du i ts[i] (b8 b3),rfl,rfl⟩
  ·obtain⟨e,he,v,L,rfl,_⟩:=bW hA b2;exact⟨_,he,p1,p2⟩
  ·have b3:i<ts.length:=by have:=(List.getElem?_eq_some_iff.mp he).1;lia
   obtain⟨e',e3,v,L,rfl,_⟩:=bW hA (b8 b3);rw[he] at e3;cases e3;exact (az i _ (b8 b3)).2 hi
 have ce:Fx u H4 H6:=F4.sm s6;have a4:SqL K H6 a (iz.map V.int):=by
  rcases ha with (h|⟨o,h⟩)|h
  ·have na:=aW (s1 _ _ h) bj;exact .inl (.inl (ce.same _ _ na (c8.same _ _ na (s2 _ _ (s1 _ _ h)))))
  ·have na:=aW (s1 _ _ h) bj;exact .inl (.inr ⟨o,ce.same _ _ na (c8.same _ _ na (s2 _ _ (s1 _ _ h)))⟩)
  ·exact .inr h
 have B6:Bs K H6 Pt N dt a W iz ts:=⟨a4,ce.same _ _ nN cr,hE.same s6,s6 _ _ dp⟩;have L6:LS K H6 Pt C x N dt d dm a m W iz ts nn kd O (λ_=>none) 0 false h0 cs:=⟨B6,hS,⟨[],ii,j0 _,λn=>⟨.non,rfl,rfl⟩⟩,C1,λn _=>⟨λz=>(by cases z),λ_=>rfl⟩,λn mq z=>by cases z⟩;have db:=hE.same s6;have dv:=rZ.k (k:=(Sum.inr t0.n:Key)) db.at_;rw[uG db.nd (m8 b2)] at dv;obtain⟨x0,gv,i6,_,cp,_⟩:=db.tb t0 (m8 b2);rw[p1] at cp;obtain⟨b0,vc,gi,fu,h4⟩:=cp;refine⟨_,rfl,_,rfl,N,_,0,.str t0.n,rfl,rfl,SqL.of B6.nm,bO (j:=0) (by rw[t7,du 0 t0 b2];rfl),dt,t0.v,rfl,dv,x0,_,1,_,gv,rfl,i6,at1 _ _ _,b0,_,2,_,gi,rfl,fu,at2 _ _ _ _,?_⟩;dsimp only[bF,List.set];refine⟨30,rfl,by decide,by decide,?_⟩;refine gC (n:=30) (λi σ M=>∃u O f j vc b h0 cs l5 l6 l7 l8 a3 df,LS K M Pt C x N dt d dm a m W iz ts nn kd O f j b h0 cs/\fM M u/\kE K M (gZ K M) vc ((.non,h0)::cs)/\j<=2 * i/\(b=true->10<=i/\i<20)/\σ=[some (.ref a),some (.ref u),some (.ref N),some (.int m),some (.ref dt),l5,l6,l7,l8,some vc,a3,some (.ref x),some (.bl b),df]) ⟨u,O,_,0,vc,false,h0,cs,_,_,_,_,_,_,L6,ce.st,h4,bAF _,λz=>(by cases z),rfl⟩ (λi σ H7 hi p=>?_) fun σ H7 p=>?_
 ·obtain⟨i2,eh,f7,j,c5,b,h7,b4,l5,l6,l7,l8,a3,df,L7,fn,dj,hj,hb,rfl⟩:=p;obtain⟨sv,fe,_⟩:=id fn;have fb:iz.map V.int++[V.int 0]=(iz++[0]).map V.int:=by rw[bAY];rfl
  obtain⟨w0,ia⟩:∃w0,atI (iz.map V.int++[V.int 0]) ((0+(i:Int)) % (((iz.map V.int).length:Int)+1))=some (.int w0):=by
   have e:(0+(i:Int)) % (((iz.map V.int).length:Int)+1)=((i % (iz.length+1):Nat):Int):=by rw[bFX,j7];rfl
   have hl:i % (iz.length+1)<(iz++[0]).length:=by rw[bAB];exact Nat.mod_lt _ (Nat.succ_pos _)
   rw[e,fb];exact⟨_,bO (by rw[t7,b8 hl];rfl)⟩
  refine⟨_,rfl,i2,_,0,.int sv,rfl,rfl,SqL.of fe,rfl,_,rfl,(by show 1<=sizeLine;decide),λp1 H8 dr s8 g8=>⟨a,p1,_,_,rfl,rfl,SqL.same' s8 L7.bs.sc,SqL.of g8,small (by rw[j7];show _+1<=1000;lia),λp2 H9 jd s9 g9=>?_⟩⟩;refine⟨_,rfl,_,rfl,a,_,rfl,.inl (SqL.same' (s8.trans s9) L7.bs.sc),_,_,rfl,rfl,_,_,rfl,rfl,(by lia),p2,_,_,.int w0,rfl,rfl,SqL.of g9,ia,10,18,rfl,rfl,⟨by decide,by decide,by decide⟩,_,_,rfl,rfl,(by show (0:Int)<10 ^ 18;decide),_,_,rfl,rfl,(by show 1<=sizeLine;decide),λu e7 dd gu ib=>?_⟩;dsimp only[bF,List.set];have aq:=s8.trans (s9.trans gu);have bk:=L7.same aq;have bj:fM e7 u:=⟨_,ib,trivial⟩;have bq:∀{b:Addr} {o:HO},H7 b=some o->b≠u:=λh=>aW ((s8.trans s9) _ _ h) dd;refine⟨_,rfl,_,rfl,_,rfl,_,rfl,_,rfl,_,rfl,_,rfl,u,x,N,dt,d,dm,m,c5,b,W,ts,eh,f7,j,nn,kd,h7,b4,rfl,bj,bk.bs.nm,bq L7.bs.nm,be,bk.bs.en,bq L7.bs.en.at_,λe he=>⟨et e he,?_⟩,L7.ctx,kE.same aq (λ_ _ z=>z.same aq) dj,m2,m4,λn J=>⟨λz=>?_,(L7.bz n J).2⟩,bk.sto,λe he=>?_,bk.mv,L7.mrk,bk.bs.pt,λcq c7=>⟨_,rfl,bZ ?_⟩⟩
  ·obtain⟨_,_,_,_,_,us,h3,_⟩:=L7.bs.en.tb e he;exact bq h3
  ·obtain⟨ho,e,_⟩:=(L7.bz n J).1 z;rw[e];exact λy=>by cases y
  ·obtain⟨_,_,_,_,_,us,h3,_⟩:=L7.sto.ens.tb e he;exact bq h3
  have bg:Same H7 cq:=λb o h=>c7.same _ _ (bq h) (aq _ _ h);have D:=L7.same bg;have bf:=c7.st;have e4:=kE.same bg (λ_ _ z=>z.same bg) dj;dsimp only[pF];refine qD (S:=aPq _ _ _) (fun σ M=>∃O f j' b' h0 cs as,LS K M Pt C x N dt d dm a m W iz ts nn kd O f j' b' h0 cs/\fM M u/\j'<=2 * i+1/\(b'=true->9<=i/\i<20)/\σ=[some (.ref a),some (.ref u),some (.ref N),some (.int m),some (.ref dt),some (.int (0+i)),l6,l7,l8,some c5,a3,some (.ref x),some (.bl b'),as]) (λNX hN=>?_) fun σ' c0 hJ=>?_
  ·refine⟨_,rfl,rfl,_,rfl,?_⟩;by_cases h9:i=9
   ·refine dZ (by rw[h9];rfl) ?_;have eb:b=false:=by
     cases b with
     |false=>rfl
     |true=>exact absurd (hb rfl).1 (by lia)
    subst eb;obtain⟨B,l2,rfl,N0,aj⟩:=D.first;have fw:=(D.bz _ N0).2 rfl;obtain⟨dx,hx⟩:=D.sto.at_;have ab:atI (W.map V.str) 0=some (.str B.n):=bO (j:=0) (by rw[t7,N0];rfl);obtain⟨cc,us,rfl,fz,dn⟩:=e4;have lu:=dn.len;rw[t6] at lu;have l1:1<=b4.length:=List.length_pos_iff.mpr D.ctx.one;have dg:1<us.length:=by lia
    obtain⟨c1,eg,pn,fs,gf⟩:=bW dn (b8 dg);have ch:iI 1 h7 b4=c1.2:=by unfold iI;rw[j9,t7,eg];rfl
    have gp:c1∈b4:=m8 (i:=0) (by simpa using eg);obtain⟨_,ih,hq⟩:=D.ctx.ok.each c1 gp;obtain⟨n1,n2,n3⟩:=aHr m2 ih hq;refine⟨_,rfl,x,dx,_,rfl,hx,rfl,_,rfl,N,_,0,.str B.n,rfl,rfl,SqL.of D.bs.nm,ab,_,rfl,cc,us,1,us[1],rfl,rfl,fz,bO (j:=1) (b8 dg),pn,_,1,_,fs,rfl,gf,at1 _ _ _,_,_,rfl,rfl,_,rfl,_,_,rfl,rfl,(by lia),x,d,dm,m,_,B,nn,h7,b4,1,(c1.2+1) % m,f7,j,rfl,D.sto,j4,aj,D.mv,fw,by lia,l1,n1,n2,(by rw[ch];exact n3),λc0 bw bc cj=>?_⟩;dsimp only[bF,List.set];generalize (c1.2+1) % m=Y at n1 n2 cj;have bw:KP K (λb=>b≠d/\b≠dm) cq c0:=bw.mono λb z=>z.2;have B12:=D.bs.kp bw cb c3 D.sto D.mv;have a6:=aOy bw D.sto D.mv bf;obtain⟨ec,dq⟩:=bc.at_;refine⟨_,rfl,x,ec,_,rfl,dq,rfl,x,d,dm,m,_,rfl,bc,by lia,by lia,B12.pt,λy d' fg cg hy i1 ah hT a1=>?_⟩;obtain⟨⟨dy,gy⟩,_,_⟩:=id hT;obtain⟨_,bn,v',L',rfl,_⟩:=bW a1 (i:=0) rfl;refine⟨y,dy,_,rfl,gy,rfl,_,rfl,N,_,0,.str B.n,rfl,rfl,SqL.of (ah _ _ B12.nm),ab,y,d',m,cg,aCc B v' L',rfl,hT,m8 bn,λLa bi ji ac fj=>?_⟩;dsimp only[bF,List.set];have ae:=ah.trans ac;have G:=bc.same ae;have U:=cj.same ae;have B14:=B12.same ae;refine⟨_,rfl,_,rfl,N,_,0,.str B.n,rfl,rfl,SqL.of B14.nm,ab,aJm (E:=E0) G U (by unfold fset;rw[if_pos rfl]) n1 n2 D.ctx λlw go c9 e' f' aa a0 b6 g3 ee ar aw C15 en er ca cz=>?_⟩;refine⟨(by show 0<=sizeLine;decide),λla ik _ bu da=>⟨(by show 1<=sizeLine;decide),λlb bd _ an cw=>⟨(by show 2<=sizeLine;decide),λlc ic _ d5 ft=>?_⟩⟩⟩;have a7:=bu.trans (an.trans d5);refine⟨lc,la,lb,lw,"not yet",go,rfl,rfl,SqL.of ft,d5 _ _ (an _ _ da),d5 _ _ cw,a7 _ _ g3,ee,_,rfl,bZ ?_⟩;have co:=ar.same a7;have iq:=aw.same a7;have B15:=B14.kp b6 cb c3 G U;have B18:=B15.same a7;obtain⟨fh,ev⟩:=co.at_;refine⟨_,rfl,_,rfl,x,fh,_,rfl,ev,rfl,x,d,dm,m,_,rfl,co,by lia,by lia,B18.pt,λy2 d2 g1 h2 it jj ep ff a2=>?_⟩;obtain⟨⟨hg,i9⟩,_,_⟩:=id ff;obtain⟨_,h8,v2,gw,rfl,_⟩:=bW a2 (i:=0) rfl;refine⟨y2,hg,_,rfl,i9,rfl,_,rfl,N,_,0,.str B.n,rfl,rfl,SqL.of (ep _ _ B18.nm),ab,y2,d2,m,h2,aCc e' v2 gw,(by show _=[V.ref y2,V.str e'.n];rw[en];rfl),ff,m8 h8,λLb al ir ai c6=>?_⟩;have a9:=a7.trans (ep.trans ai);have dc:cF K c9 La (srt B.t.rows):=by obtain⟨ua,ga,ra⟩:=id fj;have gd:=G.ens.at_;obtain⟨j1,gm,_⟩:=id U;exact cF.kp b6 ⟨λz=>(by rw[z,gd] at ga;cases ga),λz=>(by rw[z,gm] at ga;cases ga)⟩ fj
    obtain⟨ua,ga,ra⟩:=dc.same a9;have c6:cF K al Lb (srt e'.t.rows):=c6;rw[er] at c6;obtain⟨ub,gb,rb⟩:=c6;have fl:∀r∈srt B.t.rows,∀z∈r,(∃i,z=V.int i)\/∃y,z=.str y:=λr hr=>(D.sto.ok B j4).flat r (yO hr);refine⟨La,Lb,ua,ub,rfl,rfl,SqL.of ga,SqL.of gb,aO4 (λ_ _ z=>.inl (aDr z)) (aIu (lY ra) (lY rb) fl),_,rfl,bZ ?_⟩;have ax:=ar.same a9;have bp:=aw.same a9;have B20:=B15.same a9;obtain⟨fk,e9⟩:=ax.at_;dsimp only[pF];refine⟨_,rfl,x,fk,_,rfl,e9,rfl,_,rfl,N,_,0,.str B.n,rfl,rfl,SqL.of B20.nm,ab,x,d,dm,m,_,e',f' e'.n,(by rw[en];rfl),ax,j4,bp.d _ rfl,λvm iy ap br=>⟨rfl,?_⟩⟩;dsimp only[bF,List.set];have eN:∀n,W[0]?=some n->n=B.n:=λn J=>by rw[N0] at J;exact (bAH J).symm
    have bh:=(aOy b6 G U (a6.same ae)).same (a9.trans ap);have fc:∀n mq,f' n=some mq->mq.mark=none:=λn mq J=>by
     by_cases z:n=B.n
     ·subst z;rcases ca with h|h
      ·rw[h] at J;unfold fset at J;rw[if_pos rfl] at J;cases J;rfl
      ·rw[h] at J;cases J
     ·rw[cz n z] at J;unfold fset at J;rw[if_neg z] at J;exact D.mrk n mq J
    rw[en] at br;rcases ca with h|h
    ·have h:f' B.n=some ⟨1,Y,none⟩:=by rw[h];unfold fset;rw[if_pos rfl]
     rw[h] at br;obtain⟨av,um,rfl,_⟩:=br;exact hN _ _ ⟨_,f',j+1,true,aa,a0,_,⟨B20.same ap,ax.same ap,bp.same ap,C15,λn J=>⟨λ_=>⟨Y,by rw[eN n J];exact h,n1,n2⟩,λz=>(by cases z)⟩,fc⟩,bh,by lia,λ_=>⟨by lia,by lia⟩,rfl⟩
    ·rw[h] at br;cases br;exact hN _ _ ⟨_,f',j+1,false,aa,a0,_,⟨B20.same ap,ax.same ap,bp.same ap,C15,λn J=>⟨λz=>(by cases z),λ_=>by rw[eN n J];exact h⟩,fc⟩,bh,by lia,λz=>(by cases z),rfl⟩
   ·exact dU (v5 λz=>h9 (by have:=V.int.inj z;lia)) (hN _ _ ⟨eh,f7,j,b,h7,b4,_,D,bf,by lia,λz=>⟨by have:=(hb z).1;lia,(hb z).2⟩,rfl⟩)
  obtain⟨O,fm,j',b',aa,a0,as,g,a6,el,bt,rfl⟩:=hJ;refine qD (S:=aPq _ _ _) (fun σ M=>∃O f j' b' h0 cs,LS K M Pt C x N dt d dm a m W iz ts nn kd O f j' b' h0 cs/\fM M u/\j'<=2 * (i+1)/\(b'=true->9<=i/\i<19)/\σ=[some (.ref a),some (.ref u),some (.ref N),some (.int m),some (.ref dt),some (.int (0+i)),l6,l7,l8,some c5,a3,some (.ref x),some (.bl b'),as]) (λNX hN=>?_) fun σ' fg hJ=>?_
  ·refine⟨_,rfl,rfl,_,rfl,?_⟩;by_cases ds:i=19
   ·refine dZ (by rw[ds];rfl) ⟨_,rfl,b',rfl,?_⟩;cases b' with
    |false=>exact bZ (hN _ _ ⟨O,fm,j',false,aa,a0,g,a6,by lia,λz=>(by cases z),rfl⟩)
    |true=>
     refine cP ?_;obtain⟨B,l2,rfl,N0,aj⟩:=g.first;obtain⟨Y,hf,n1,n2⟩:=(g.bz _ N0).1 rfl;have ab:atI (W.map V.str) 0=some (.str B.n):=bO (j:=0) (by rw[t7,N0];rfl);obtain⟨dx,hx⟩:=g.sto.at_;have ok:=g.sto.ok B j4;have l1:1<=a0.length:=List.length_pos_iff.mpr g.ctx.one;refine qD (fun σ M=>∃f' j2 bm,KP K (λb=>b≠d/\b≠dm) c0 M/\aX K M C x m d dm (B::l2)/\Mvs K M dm f' j2/\f' B.n=some ⟨1,Y,bm⟩/\(∀n,n≠B.n->f' n=fm n)/\j2<=j'+1/\(∀q,bm=some q->qR B.t.hd q)/\jF B.t nn a0 1 bm=[]/\σ=[some (.ref a),some (.ref u),some (.ref N),some (.int m),some (.ref dt),some (.int (0+i)),l6,l7,l8,some c5,a3,some (.ref x),some (.bl true),as]) (λjl ew=>?_) fun jf bi gz=>?_
     ·refine⟨_,rfl,x,dx,_,rfl,hx,rfl,_,rfl,N,_,0,.str B.n,rfl,rfl,SqL.of g.bs.nm,ab,x,d,dm,m,_,B,⟨1,Y,none⟩,nn,aa,a0,60,fm,j',rfl,g.sto,j4,g.mv,hf,by lia,aj,(λq z=>by cases z),λqs i5=>?_⟩;obtain⟨c1,c2⟩:=aIp (λr hr=>aAx (ok.rows r hr)) ok.few i5;refine⟨λz bi ac=>ew _ _ ⟨fm,j',none,.same ac,g.sto.same ac,g.mv.same ac,hf,λ_ _=>rfl,by lia,(λq z=>by cases z),c1 z,rfl⟩,λr hr bi bx G U=>?_⟩;obtain⟨rm,gl⟩:=c2 r hr;exact ew _ _ ⟨_,_,some r,bx.mono λb z=>z.2,G,U,by unfold fset;rw[if_pos rfl],(λn J=>by unfold fset;rw[if_neg J]),j0 _,(λq z=>by cases z;exact ok.rows r rm),gl,rfl⟩
     ·obtain⟨f',j2,bm,bx,G,U,ca,cz,ix,h5,hw,rfl⟩:=gz;have B14:=g.bs.kp bx cb c3 g.sto g.mv;have cy:=aOy bx g.sto g.mv a6;obtain⟨f0,e5⟩:=G.at_;refine⟨_,rfl,x,f0,_,rfl,e5,rfl,_,rfl,N,_,0,.str B.n,rfl,rfl,SqL.of B14.nm,ab,x,d,dm,m,[],l2,B,⟨1,Y,bm⟩,nn,aa,a0,f',j2,rfl,G,aj,U,ca,h5,λz=>absurd hw z,l1,n1,n2,λ_ v vp c9 b6 ar aw=>?_⟩;dsimp only[bF,List.set];have eN:∀n,W[0]?=some n->n=B.n:=λn J=>by rw[N0] at J;exact (bAH J).symm
      refine hN _ _ ⟨_,_,j2,false,_,_,⟨B14.kp b6 cb c3 G U,ar,aw,g.ctx.set 1 n1 n2 rfl rfl rfl,λn J=>⟨λz=>(by cases z),λ_=>by rw[eN n J];unfold fset;rw[if_pos rfl]⟩,λn mq J=>?_⟩,aOy b6 G U cy,by lia,λz=>(by cases z),rfl⟩;unfold fset at J;by_cases z:n=B.n
      ·rw[if_pos z] at J;cases J
      ·rw[if_neg z,cz n z] at J;exact g.mrk n mq J
   ·exact dU (v5 λz=>ds (by have:=V.int.inj z;lia)) (hN _ _ ⟨O,fm,j',b',aa,a0,g,a6,by lia,λz=>⟨(bt z).1,by have:=(bt z).2;lia⟩,rfl⟩)
  obtain⟨O,fm,j',b',aa,a0,ao,cv,el,bt,rfl⟩:=hJ;obtain⟨B,l2,rfl,N0,aj⟩:=ao.first;have ab:atI (W.map V.str) 0=some (.str B.n):=bO (j:=0) (by rw[t7,N0];rfl);obtain⟨dx,hx⟩:=ao.sto.at_;refine⟨_,rfl,x,dx,_,rfl,hx,rfl,x,d,dm,m,_,rfl,ao.sto,by lia,by lia,ao.bs.pt,λy d' bi cg hy i1 ac hT a1=>?_⟩;obtain⟨⟨dy,gy⟩,_,_⟩:=id hT;obtain⟨_,bn,v',L',rfl,_⟩:=bW a1 (i:=0) rfl;refine⟨y,dy,_,rfl,gy,rfl,_,rfl,N,_,0,.str B.n,rfl,rfl,SqL.of (ac _ _ ao.bs.nm),ab,y,d',m,cg,aCc B v' L',rfl,hT,m8 bn,λc9 c4=>?_⟩;have am:=ac.trans c4;obtain⟨_,_,_,_,bv,_⟩:=(ao.sto.ens.tb B j4).same am;rw[aj] at bv;obtain⟨i4,ct,dw,fi,dh⟩:=bv;refine⟨i4,_,2,ct,dw,rfl,fi,at2 _ _ _ _,?_⟩;exact⟨u,_,fm,j',ct,b',aa,a0,_,_,_,_,_,_,ao.same am,cv.same am,dh,el,λz=>⟨by have:=(bt z).1;lia,by have:=(bt z).2;lia⟩,rfl⟩
 ·obtain⟨iw,cg,f',j',ct,b',aa,a0,_,_,_,_,_,_,L7,_,_,_,hb,rfl⟩:=p;obtain⟨B,l2,rfl,N0,aj⟩:=L7.first;obtain⟨hs,g7⟩:=L7.sto.at_;have eb:b'=false:=by
   cases b' with
   |false=>rfl
   |true=>exact absurd (hb rfl).2 (by decide)
  refine⟨_,rfl,x,hs,_,rfl,g7,rfl,_,rfl,N,_,0,.str B.n,rfl,rfl,SqL.of L7.bs.nm,bO (j:=0) (by rw[t7,N0];rfl),x,d,dm,m,_,B,none,rfl,L7.sto,j4,L7.mv.d _ ((L7.bz _ N0).2 eb),λv H8 s8 hv=>?_⟩;cases hv;exact⟨rfl,q H8 (s8 _ _ L7.bs.pt)⟩
def bA6 {fa Pt:Addr}(T:Txt w K mg)(CT:aTm K mg "are_cuts" Pt)(a4:mg "law"=some (.ref fa)) :
  ∃fd:FuncData,(∀(s:Shared) (u:Value),BindsTo s fd ⟨[u],[]⟩ [("_law_script",u)])/\∀base:Heap,K.In base->base.Ns mainGlobals mg->BM mg base->eX P w K mg base CX0 16 fa fd bQK (aOs K Pt):=by
 obtain⟨f,fd,F,B,m⟩:=T.bEc;have e:fa=f:=by rw[m] at a4;injection a4 with e;injection e with e;exact e.symm
 subst e;refine⟨fd,?_,λbase hK _ a8=>?_⟩
 ·obtain⟨⟨oc,od,kV,a9,pm,an,ac,L,aa,rfl,lk,ae⟩,kp⟩:=F;exact λs u=>.of_eq rfl
 ·obtain⟨Tc,D,m0,m1,m2,a1,a2⟩:=T.bAc;obtain⟨Sc,DS,q0,q1,q2,q3,q4,q5,q6,q7,q8,q9,qa,qb,qc,qd,l,Z,q⟩:=T.aV1;obtain⟨S,ad,x1,x2,g,x4,x5⟩:=T.bEu;have hx:aYu K mg S ad:=⟨x1,x2,g,x4,x5⟩;have c:=D.cls;have a:=DS.cls;have g1:=aJz (P:=P) (base:=base) T;have g2:=aLe (P:=P) (base:=base) T;have Y:=aMo T g2;have g4:=aI8 T g1 g2;have g5:=aKx T g1;have g6:=aE7 (P:=P) (base:=base) T;have nb:=aFs T g1;have t:=aG6 (P:=P) (base:=base) T;have vo:=aBk T g4 g5;have O:=aLk (P:=P) (base:=base) T;have M:=aQg (P:=P) (base:=base) T;have X:=aJ5 T CT hK a8 (xX T) (aQ7 T (aSw nb)) vo;have pl:=aCd T g6 (yF T Y t) O X;have k:=aKu T vo;have tb:=aH9 T (aKc T (aFu T Y g6) (aBd T) (aCv T) t) pl (aJi T (aX0 k));have pt:=vL T (aF7 T g1 Y tb);have b:=aIh T (g .tab) Y;have r:=aZz b;have ra:=aMe T (g .house) nb (aFa T);have A:=aFj (P:=P) (base:=base) T;have n2:=aB7 T A (aCb T A);have G:=aHo T n2;have L:=aRs T (g .span) a q1 l b;have sr:=aFt T (aKa T t) M;have ab:=aIn (P:=P) (base:=base) T;have wr:=aF9 (P:=P) (base:=base) T;have i:=aRd (P:=P) (w:=w) (mg:=mg) (base:=base) T (g .busy) a q2 q;have R:=aMd (P:=P) (w:=w) (mg:=mg) (base:=base) T (g .move) a q3 q;have W:=aWs T a q8 l q sr ab;have y:=aMs T a qb l q b;have U:=aUf T (g .span) (g .house) a q7 Z q nb L i;have J:=aQv T a q9 q L R W;have C:=aNe T (g .yet) a qa l q L R W (aEx (P:=P) (base:=base) T);have I:=aHw T c m1 a1 r;have N:=aQ5 T c m2 a1 r;have V:=aU5 T a qd l Z (OkM.make D (aTg T c m0 a1 a2 pt));have a6:=aJh T (aXj T (g .row) a q4 l b k wr) (aUl T (g .row) a q5 l b k wr) (aRc T (g .span) a q6 l L i (aCl T vo O) M (aGy T)) U J C y (aNh T a qc l Z b ra y sr ab);have wd:=aFf T hx a6;have p:OkM P w K mg base Sc 4 "moving" n6 (tD K Sc):=y.calm λvs H Q E h=>by obtain⟨x,d,dm,m,es,e,o,h1,h2,h3,h4,h5⟩:=h;exact⟨x,d,dm,m,es,_,h1,h2,.inl ⟨e,o,rfl,h3,h4,h5⟩⟩
  exact bCj F T (aFg T) (aCo T A (aCw T)) A n2 (aFh T A) G (OkM.make DS (aQc T a q0 l Z q pt)) (aCe T (aKo T A n2 (yH T A G)) (aCa T V p I N) wd) wd (U.calm λvs H Q E h=>by obtain⟨x,d,dm,m,es,e,n,h0,a,a7,v,f,j,h1,h2,h3,h4,h5,h6,h7,h8,h9,a5,a3,a0⟩:=h;exact⟨x,d,dm,m,es,_,_,_,f,j,h1,h2,h5,.inr ⟨e,n,h0,a,rfl,h3,h4,.inr ⟨a7,rfl,h8,.inr ⟨v,rfl,h9,a5,a3,λz=>absurd h6 z,λ_=>⟨h7,a0⟩⟩⟩⟩⟩) (J.calm λvs H Q E h=>.inl h) (C.calm λvs H Q E h=>.inl h) p V I N
def aTk {Pt:Addr}{H:Hp}{a:Addr}{c:List Int}{E:XK}(d:c.length<=63)(e:rM [(Pt,qC)] H)(f:SqL K H a (c.map V.int)):aOs K Pt [.ref a] H (λv H'=>v=.bl true/\rM [(Pt,qC)] H') E:=
 ⟨a,c,rfl,f,d,e _ (List.mem_singleton.mpr rfl),λH' h=>⟨rfl,λp b=>by rcases List.mem_singleton.mp b with rfl;exact h⟩⟩
def bAk {h:Heap}{Pt f c:Addr}{o:Obj}{g:FuncData}(X:K.In h)(G:h.Ns mainGlobals mg)(a:PySem.W.nsIn K mainGlobals "are_cuts"=some (some (.ref f)))(l:K.lookup f=some o)(d:o.data=.func g)(b:g.code=.ref c)(e:PySem.W.codeHdIn K c Pt=true):aTm K mg "are_cuts" Pt:=
 ⟨f,o,g,c,bDT X G a,l,d,b,e⟩
def aXf {Pt f c:Addr}{o:Obj}{fd:FuncData}(a:PySem.W.nsIn K mainGlobals "are_cuts"=some (some (.ref f)))(l:K.lookup f=some o)(e1:o.data=.func fd)(e2:fd.code=.ref c)(d:PySem.W.codeHdIn K c Pt=true)(n:K.lookup Pt=none) :
  ∀p∈[(Pt,qC)],(∃c,PySem.W.codeHdIn K c p.1=true)/\K.lookup p.1=none:=λp b=>by
 rcases List.mem_singleton.mp b with rfl;exact⟨⟨c,d⟩,n⟩
def aW7 {Pt:Addr}{h:Heap}(x:∀P∈[Pt],h.get? P=some (PySem.W.tabObj #[])):∀p∈[(Pt,qC)],h.get? p.1=some { cls:=.none,data:=.fields #[] }:=λp a=>by rcases List.mem_singleton.mp a with rfl;exact x _ (List.mem_singleton.mpr rfl)
def aPt {l:PySem.W.OpenLaw}{n k:Nat}{q:Program}{loose:List Str}{XP:(bGC)->Heap->Prop}{YP:World->Heap->Prop}{d:DefRec}{K:Params->bF9}{CX:CXT}{sp:bF9->Sp}{x:Str}
  (y:l.most=some n) (j:n<=sizeLine) (b:d.params.defaults=[]) (A:Room k callerA)
  (ts:List (Addr × Str)) (m:(ts.map (·.1)).Nodup)
  (B:∀(w:World) (h:Heap),YP w h->(K w.params).In h/\∀p∈ts,h.get? p.1=some { cls:=.none,data:=.fields #[] })
  (z:∀(w:World),∀p∈ts,(∃c,PySem.W.codeHdIn (K w.params) c p.1=true)/\(K w.params).lookup p.1=none)
  (F:∀(w:World) (mg:bGC) (fa:Addr) (h:Heap),(K w.params).In h->h.Ns mainGlobals mg->mg d.name=some (.ref fa) ->
   ∃fd:FuncData,(∀(s:Shared) (u:Value),BindsTo s fd ⟨[u],[]⟩ [(x,u)]) /\
    ∀base:Heap,(K w.params).In base->base.Ns mainGlobals mg->BM mg base->eX l.prog w (K w.params) mg base CX k fa fd [x] (sp (K w.params)))
  (i:∀(K:bF9) (H:Hp) (a:Addr) (ns:List Int),ns.length<=n->rM ts H->SqL K H a (ns.map V.int)->sp K [.ref a] H (λv H'=>v=.bl true/\rM ts H') λ_ _ _=>False)
  (g:∀(H:Hp) (s:Shared) (e:Value) (s':Shared),CX [] H s (λ_ _ _=>False) e s'->False) :
  PySem.W.WalkO q loose XP YP l.row.toRowW d [] (λf vs=>PySem.call f vs):=
 aRz (K:=K) (CX:=λ_=>CX) (sp:=λw=>sp (K w.params)) y j b A ts m B z F (λw H a ns r o t=>i (K w.params) H a ns r o t) λ_ H s e s'=>g H s e s'
end
inductive FA (K:bF9)(n:Str)(s:Stmt)(f:Addr):Prop
 |mk {od an:Option Addr} {sl:Array (Option Value)} {kV dc pm cd ct:Value}:PySem.W.nsIn K mainGlobals n=some (some (.ref f))->K.lookup f=some ⟨.type "function",od,.func (PySem.W.fnOf n n (jL s) (cT s) (aC s) .none kV dc pm an cd ct),sl⟩->PySem.W.codeIn K cd n=true->PySem.W.keepIn K (.ref f)=true->FA K n s f
section
variable {K:bF9}{h:Heap}{mg:bGC}{n:Str}{s:Stmt}{f:Addr}{ps:List Str}
def aYv (X:K.In h)(G:h.Ns mainGlobals mg)(a:FA K n s f):mg n=some (.ref f):=by obtain⟨a,_,_,_⟩:=a;exact bDT X G a
def bC8 (X:K.In h)(G:h.Ns mainGlobals mg)(a:FA K n s f)(b:∀(kV doc pm:Value) (an:Option Addr) (cdv ct:Value) (us:List Value),us.length=ps.length->bindArgs (PySem.W.fnOf n n (jL s) (cT s) (aC s) .none kV doc pm an cdv ct) ⟨us,[]⟩=pure (ps.zip us)):Dn K mg n s ps:=by have m:=aYv X G a;obtain⟨_,l,c,k⟩:=a;exact⟨f,_,wN l c k,(wN l c k).binds b,m⟩
def bEg (X:K.In h)(G:h.Ns mainGlobals mg)(a:FA K n s f):∃f o,(∃u,mg n=some u/\RelV (.ref f) u)/\K.lookup f=some o/\o.cls=.type "function":=by have m:=aYv X G a;obtain⟨_,l,c,k⟩:=a;exact⟨f,_,⟨_,m,rfl⟩,l,rfl⟩
end
inductive CA (K:bF9)(x:Str)(C:Addr):Prop
 |mk:PySem.W.nsIn K mainGlobals x=some (some (.ref C))->PySem.W.plainGet K C Str.empty=true->PySem.W.hasDictIn K C=true->PySem.W.plainOver K C=true->PySem.W.findIn K (.ref C) "__setattr__"=some (some (.builtin "object.__setattr__"))->PySem.W.makesIn K C=true->PySem.W.keepIn K (.ref C)=true->CA K x C
def bEj {K:bF9}{h:Heap}{mg:bGC}{x:Str}{C:Addr}(X:K.In h)(G:h.Ns mainGlobals mg)(a:CA K x C):aUb K mg x C:=by obtain⟨a,c,g,b,f,d,e⟩:=a;exact⟨bDT X G a,⟨c,g,b,f⟩,d,e⟩
inductive MA (K:bF9)(C:Addr)(m qual:Str)(s:Stmt)(f:Addr):Prop
 |mk {od an:Option Addr} {sl:Array (Option Value)} {kV dc pm cd ct:Value}:PySem.W.findIn K (.ref C) m=some (some (.ref f))->PySem.W.isFn K (.ref f)=true->K.lookup f=some ⟨.type "function",od,.func (PySem.W.fnOf m qual (jL s) (cT s) (aC s) .none kV dc pm an cd ct),sl⟩->PySem.W.codeIn K cd qual=true->PySem.W.keepIn K (.ref f)=true->MA K C m qual s f
def bC5 {K:bF9}{C:Addr}{m qual:Str}{s:Stmt}{f:Addr}{ps:List Str}(a:MA K C m qual s f)(b:∀(kV doc pm:Value) (an:Option Addr) (cdv ct:Value) (us:List Value),us.length=ps.length->bindArgs (PySem.W.fnOf m qual (jL s) (cT s) (aC s) .none kV doc pm an cdv ct) ⟨us,[]⟩=pure (ps.zip us)):eV K C m qual s ps:=by obtain⟨a,i,l,c,k⟩:=a;exact⟨f,_,⟨a,i,k⟩,wN l c k,(wN l c k).binds b⟩
theorem ln0 {P:List Value->Prop}(h:P []):∀us:List Value,us.length=0->P us
 |[],_=>h
theorem lnS {P:List Value->Prop}{n:Nat}(h:∀a us,us.length=n->P (a::us)):∀us:List Value,us.length=n+1->P us
 |[],e=>by cases e
 |a::us,e=>h a us (Nat.succ.inj e)
def ln1 {P:List Value->Prop}(h:∀a0,P [a0]):∀us:List Value,us.length=1->P us:=lnS λa0=>ln0 (h a0)
def ln2 {P:List Value->Prop}(h:∀a0 a1,P [a0,a1]):∀us:List Value,us.length=2->P us:=lnS λa0=>lnS λa1=>ln0 (h a0 a1)
def ln3 {P:List Value->Prop}(h:∀a0 a1 a2,P [a0,a1,a2]):∀us:List Value,us.length=3->P us:=lnS λa0=>lnS λa1=>lnS λa2=>ln0 (h a0 a1 a2)
def ln4 {P:List Value->Prop}(h:∀a0 a1 a2 a3,P [a0,a1,a2,a3]):∀us:List Value,us.length=4->P us:=lnS λa0=>lnS λa1=>lnS λa2=>lnS λa3=>ln0 (h a0 a1 a2 a3)
def ln5 {P:List Value->Prop}(h:∀a0 a1 a2 a3 a4,P [a0,a1,a2,a3,a4]):∀us:List Value,us.length=5->P us:=lnS λa0=>lnS λa1=>lnS λa2=>lnS λa3=>lnS λa4=>ln0 (h a0 a1 a2 a3 a4)
def ln6 {P:List Value->Prop}(h:∀a0 a1 a2 a3 a4 a5,P [a0,a1,a2,a3,a4,a5]):∀us:List Value,us.length=6->P us:=lnS λa0=>lnS λa1=>lnS λa2=>lnS λa3=>lnS λa4=>lnS λa5=>ln0 (h a0 a1 a2 a3 a4 a5)
def ln7 {P:List Value->Prop}(h:∀a0 a1 a2 a3 a4 a5 a6,P [a0,a1,a2,a3,a4,a5,a6]):∀us:List Value,us.length=7->P us:=lnS λa0=>lnS λa1=>lnS λa2=>lnS λa3=>lnS λa4=>lnS λa5=>lnS λa6=>ln0 (h a0 a1 a2 a3 a4 a5 a6)
inductive X1 (K:bF9)(S fI:Addr)(n:Str)(C:Addr):Prop
 |mk {nm q:Str} {N:Addr} {bs bm:List Value} {sn:List Str} {sub:List Value} {ab:Bool} {col:Option Bool} {dd:Option Addr} {k0 k1 k2 k3 k5:Option Value} {cd:ClassData} :
  PySem.W.nsIn K mainGlobals n=some (some (.ref C)) ->
  K.lookup C=some (excClassObj nm q C N bs bm true sn sub ab col dd k0 k1 k2 k3 k5 "ValueError.__new__") ->
  bm.contains (.type "ValueError")=true ->
  bm.contains (.type "AttributeError")=false ->
  bm.contains (.type "NameError")=false ->
  bm.contains (.type "BaseException")=true ->
  PySem.W.clsIn K C=some cd ->
  (aBe cd.mro && cd.hasDict)=true ->
  PySem.W.findIn K (.ref C) "__init__"=some (some (.ref fI)) ->
  PySem.W.typeIn K (.ref fI)=some (.type "function") ->
  PySem.W.findIn K (.ref C) "__setattr__"=some (some (.builtin "object.__setattr__")) ->
  PySem.W.findIn K (.ref C) "__getattribute__"=some (some (.builtin "BaseException.__getattribute__")) ->
  PySem.W.findIn K (.ref C) "__getattr__"=some none ->
  PySem.W.findIn K (.ref C) "act"=some none ->
  PySem.W.findIn K (.ref C) "__class__"=some (some (.builtin "object.__class__")) ->
  PySem.W.keepIn K (.ref C)=true ->
  PySem.W.typeIn K (.ref C)=some (.type "type") ->
  PySem.W.mroIn K C (.type "BaseException")=some true ->
  PySem.W.mroIn K C (.ref S)=some true ->
  PySem.W.mroIn K C (.type "ValueError")=some true->X1 K S fI n C
inductive X0 (K:bF9)(S fI:Addr):Prop
 |mk {cS:ClassData} {od an:Option Addr} {sl:Array (Option Value)} {kV dc pm cdv ct:Value} :
  K.lookup fI=some ⟨.type "function",od,.func (PySem.W.fnOf "__init__" "ShardError.__init__" (jL dR) (cT dR) (aC dR) .none kV dc pm an cdv ct),sl⟩ ->
  PySem.W.codeIn K cdv "ShardError.__init__"=true ->
  PySem.W.keepIn K (.ref fI)=true ->
  PySem.W.typeIn K (.ref S)=some (.type "type") ->
  PySem.W.clsIn K S=some cS ->
  PySem.W.mroIn K S (.type "BaseException")=some true->X0 K S fI
def jG {K:bF9}{h:Heap}{mg:bGC}{S fI C:Addr}{n:Str}(X:K.In h)(G:h.Ns mainGlobals mg)(a:X1 K S fI n C)(b:X0 K S fI):ExT K mg dR n "ShardError.__init__" C S/\PySem.W.mroIn K C (.type "ValueError")=some true:=by obtain⟨u,p,w,r,q,s,o,A,x,v,t,y,z,i,j,m,k,f,g,l⟩:=a;obtain⟨c,d,e,_,_,_⟩:=b;exact⟨⟨⟨fI,_,⟨⟨_,_,_,_,_,_,_,_,_,_,_,_,_,_,_,p,w,r,q,s⟩,x,v,by rw[o];exact A,t,y,z,i,j⟩,wN c d e,(wN c d e).binds λ_ _ _ _ _ _=>ln2 λ_ _=>rfl⟩,bDT X G u,m,⟨k,by rw[o];rfl,f⟩,g⟩,l⟩
def bA2 (c0 c1 c2 c3 c4 c5 c6 c7:Addr):Exn->Addr
 |.tab=>c0
 |.row=>c1
 |.span=>c2
 |.busy=>c3
 |.house=>c4
 |.move=>c5
 |.yet=>c6
 |.bad=>c7
def bDm {K:bF9}{h:Heap}{mg:bGC}{S fI x t q w r u y v:Addr}(X:K.In h)(G:h.Ns mainGlobals mg)(s:PySem.W.nsIn K mainGlobals "ShardError"=some (some (.ref S)))(i:X1 K S fI "NoTable" x)(a:X1 K S fI "NoRow" t)(n:X1 K S fI "NoSpan" q)(p:X1 K S fI "Busy" w)(k:X1 K S fI "NoHouse" r)(f:X1 K S fI "NoMove" u)(o:X1 K S fI "NotYet" y)(g:X1 K S fI "BadTown" v)(b:X0 K S fI)(m:∀c d,PySem.W.mroIn K (bA2 x t q w r u y v c) (.ref (bA2 x t q w r u y v d))=some (decide (c=d))) :
  ∃(S:Addr) (ad:Exn->Addr),mg "ShardError"=some (.ref S)/\XS K S/\(∀c,ExT K mg dR c.nm "ShardError.__init__" (ad c) S)/\(∀c d,PySem.W.mroIn K (ad c) (.ref (ad d))=some (decide (c=d)))/\∀c,PySem.W.mroIn K (ad c) (.type "ValueError")=some true:=by
 refine⟨S,bA2 x t q w r u y v,bDT X G s,?_,λc=>?_,m,λc=>?_⟩
 ·obtain⟨_,_,_,l,j,e⟩:=b;exact⟨l,by rw[j];rfl,e⟩
 ·cases c
  ·exact (jG X G i b).1
  ·exact (jG X G a b).1
  ·exact (jG X G n b).1
  ·exact (jG X G p b).1
  ·exact (jG X G k b).1
  ·exact (jG X G f b).1
  ·exact (jG X G o b).1
  ·exact (jG X G g b).1
 ·cases c
  ·exact (jG X G i b).2
  ·exact (jG X G a b).2
  ·exact (jG X G n b).2
  ·exact (jG X G p b).2
  ·exact (jG X G k b).2
  ·exact (jG X G f b).2
  ·exact (jG X G o b).2
  ·exact (jG X G g b).2
def aYt {K:bF9}{h:Heap}{mg:bGC}{n:Str}{l:List V}{a:Addr}{o:Obj}{vs:Array Value}{m:Nat}(X:K.In h)(G:h.Ns mainGlobals mg)(q:PySem.W.nsIn K mainGlobals n=some (some (.ref a)))(r:K.lookup a=some o)(t:o.cls=.type "tuple")(y:o.dict=none)(u:o.data=.seq vs m)(v:Vals l vs.toList)(s:l.length<=1000):∃a,mg n=some (.ref a)/\∀H,SqT K H a l:=
 ⟨_,bDT X G q,λH=>.inr ⟨_,_,_,r,t,y,u,by have e:=v.length;simp only[v9] at e;rw[<-e];exact small s,v⟩⟩
def aYy {K:bF9}{h:Heap}{mg:bGC}{n:Str}{v:V}{u:Value}(X:K.In h)(G:h.Ns mainGlobals mg)(q:PySem.W.nsIn K mainGlobals n=some (some u))(r:RelV v u):∃u,mg n=some u/\RelV v u:=⟨u,bDT X G q,r⟩
def bD3 {K:bF9}{h:Heap}{mg:bGC}{x:Str}{C:Addr}{R:Addr->Prop}(X:K.In h)(G:h.Ns mainGlobals mg)(a:CA K x C)(r:R C):∃C,aUb K mg x C/\R C:=⟨C,bEj X G a,r⟩
end My
open PySem PySem.W PyProof.Rows
namespace PySem.W.Fast
def tw16131395741906472190:=Nat
def tw17983880447051931125:=Nat
def tw8461698193762054878:=Nat
def tw8145895312997833464:=Nat
def tw5202936052159444827:=Nat
def tw923576590461285047:=Nat
def tw7748540784022256144:=Nat
def tw10779462235668288282:=Nat
def tw3576887677187501888:=Nat
def tw5155769706625051693:=Nat
def tw4036621932580642921:=Nat
def tw8216551591640752840:=Nat
def tw7415969872283614377:=Nat
def tw17066252287238203885:=Nat
def tw11813276886220891420:=Nat
def tw14567807939274455124:=Nat
def tw6822015968783074508:=Nat
def tw7387766266303703925:=Nat
def tw17342604990821697669:=Nat
def tw13812302963203273161:=Nat
def tw2802928107255581903:=Nat
def tw10347260613648632416:=Nat
def tw9255696589045774467:=Nat
def tw11104338701326459624:=Nat
def tw17997863960484125923:=Nat
def tw9621151099693810841:=Nat
def tw3159091283697596259:=Nat
def tw5980421534713589287:=Nat
def tw3891088567030762998:=Nat
def tw1115656547565182039:=Nat
def tw2453812676551762377:=Nat
def tw8359766718946963988:=Nat
def tw13045670287883197793:=Nat
def tw6466979294644939752:=Nat
def tw11120290805468686790:=Nat
def tw16335069043931101889:=Nat
def tw8133576705527045077:=Nat
def tw10414382924606090043:=Nat
def tw6401711563908461144:=Nat
def tw4690705041219428776:=Nat
def tw4138610450572669578:=Nat
def tw10147727203109907447:=Nat
def tw9341279569175210648:=Nat
def tw1625161873455879746:=Nat
def tw10295569063018377174:=Nat
def tw7394212974132889442:=Nat
def tw10328776567624696879:=Nat
def tw3193426427049154114:=Nat
def tw57530846910486373:=Nat
def tw1653126644397185646:=Nat
def tw3661296620044272687:=Nat
def tw14261755156844643417:=Nat
def tw983331401423155279:=Nat
def tw7246402585840006806:=Nat
def tw13709026707802021391:=Nat
def tw8638002998419555850:=Nat
def tw15400148201015177046:=Nat
def tw5053999997303150304:=Nat
def tw16398034213058486310:=Nat
def tw1480603466564971673:=Nat
def tw10656424748544791806:=Nat
def tw14714423157566696903:=Nat
def tw6644739170571771093:=Nat
def tw3746493463644157942:=Nat
def tw12719159681931384521:=Nat
def tw9805091152399919894:=Nat
def tw15515675880512897799:=Nat
def tw9648917293271060663:=Nat
def tw8523627695748889132:=Nat
def tw8760886594637470217:=Nat
def tw17678406276097702122:=Nat
def tw2143653065060108519:=Nat
def tw3937993772597759747:=Nat
def tw826759818454320158:=Nat
def tw7956926619825724204:=Nat
def tw1520544510143002580:=Nat
def tw15009737572236791370:=Nat
def tw7311806669942005152:=Nat
def tw6069909573636293080:=Nat
def tw5129917102283374350:=Nat
def tw11406992882920696782:=Nat
def tw5901221776623495533:=Nat
def tw17829463526049199735:=Nat
def tw12917589676109687909:=Nat
def tw14864068812757738340:=Nat
def tw3603154482842478023:=Nat
def tw16815842053678784572:=Nat
def tw2275916416357745376:=Nat
def tw3395890757884103105:=Nat
def tw5016297913752873493:=Nat
def tw17942860054763401979:=Nat
def tw9207318598551053792:=Nat
def tw12084926844569116875:=Nat
def tw4063162387067063110:=Nat
def tw18387390557954022583:=Nat
def tw9125952090328439980:=Nat
def tw18300801964309738916:=Nat
def tw369922908647918763:=Nat
def tw8935796548162590128:=Nat
def tw2439499395004402553:=Nat
def tw10048963632944347208:=Nat
def tw1392238882826622977:=Nat
def tw15906096297343764824:=Nat
def tw5749497228912813295:=Nat
def tw16052331248008831364:=Nat
def tw14312308875399957751:=Nat
def tw11685194958630306330:=Nat
def tw11958810810413219273:=Nat
def tw1147785931902617613:=Nat
def tw17289111436905750442:=Nat
def tw4355039166461923004:=Nat
def tw3713511215181644369:=Nat
def tw15471234539260939322:=Nat
def tw12283366426154855238:=Nat
def tw3884648050801573118:=Nat
def tw3618843243139292228:=Nat
def tw17241611147689107532:=Nat
def tw13866463249722028528:=Nat
def tw10806073359114322928:=Nat
def tw11892095704218186899:=Nat
def tw14895891295005474837:=Nat
def tw10037429462665074467:=Nat
def tw10537655441264432161:=Nat
def tw8045448708959366464:=Nat
def tw18125472120301466134:=Nat
def tw15122191603156180608:=Nat
def tw13401203522270820118:=Nat
def tw14740329534632090123:=Nat
def tw13529725879748369001:=Nat
def tw5818597463479949765:=Nat
def tw7551517280263079463:=Nat
def tw10450641703407188517:=Nat
def tw5791030436076945934:=Nat
def tw7443437140110801269:=Nat
def tw12227934224257747921:=Nat
def tw11426361098566625632:=Nat
def tw14497985530854988101:=Nat
def tw7384668555227946677:=Nat
def tw13679224659272140946:=Nat
def tw5816308296788097366:=Nat
def tw15774333346917057069:=Nat
def tw13351164157932482178:=Nat
def tw13201442210739745583:=Nat
def tw16426135566175604355:=Nat
def tw10089388915782899542:=Nat
def tw4819182436611331322:=Nat
def tw3355356307914689561:=Nat
def tw9315747150806901449:=Nat
def tw6622385187566494080:=Nat
def tw13725991232727557841:=Nat
def tw11598209922205658741:=Nat
def tw8748719132495656394:=Nat
def tw4754221298498352768:=Nat
def tw11100641570635625334:=Nat
def tw18164756899442677272:=Nat
def tw8638361824215554652:=Nat
def tw9612877119139704284:=Nat
def tw9437314371304486561:=Nat
def tw4727403375615007668:=Nat
def tw7098203737129387114:=Nat
def tw9433404408810840730:=Nat
def tw596400591443856112:=Nat
def tw5037205888408565854:=Nat
def tw10478513432215041212:=Nat
def tw17920408261230663289:=Nat
def tw16453779614491616809:=Nat
def tw18119466363805525117:=Nat
def tw13292936962568196111:=Nat
def tw18043449890636335610:=Nat
def tw12529285847497293301:=Nat
def tw7217472767941066731:=Nat
def tw17671008750364618280:=Nat
def tw14056408842745517399:=Nat
def tw13850508949588566051:=Nat
def tw13808661894396092903:=Nat
def tw1413449273391762952:=Nat
def tw3361414499071388635:=Nat
def tw7421615740949242804:=Nat
def tw11351128016109489231:=Nat
def tw9390352654443061252:=Nat
def tw3928580776171593447:=Nat
def tw12969507646808144213:=Nat
def tw10830498848193405378:=Nat
def tw8157749146499407200:=Nat
def tw11025740354829133126:=Nat
def tw17018867343073394643:=Nat
def tw11120214189707451253:=Nat
def tw16202286175435886546:=Nat
def tw16950149349883679693:=Nat
def tw460737676062587837:=Nat
def tw2676907203058627871:=Nat
def tw2752413461285844071:=Nat
def tw18110730940225544514:=Nat
def tw820950270228596060:=Nat
def tw6552026517040764876:=Nat
def tw16818348815146841975:=Nat
def tw9031134310622900245:=Nat
def tw9600961865455112742:=Nat
def tw18354835726508819825:=Nat
def tw16981030564496093214:=Nat
def tw10468639833411927549:=Nat
def tw8709021866609925050:=Nat
def tw10242916746848308881:=Nat
def tw8040096521444060975:=Nat
def tw4594662018227819854:=Nat
def tw5782806687292479535:=Nat
def tw17604397177456751643:=Nat
def tw4007479470034978398:=Nat
def tw1742579237480329515:=Nat
def tw7417543709559120247:=Nat
def tw5061760883751282791:=Nat
def tw18335276060156822292:=Nat
def tw12080063213483371379:=Nat
def tw264559483197203847:=Nat
def tw10811267335083694379:=Nat
def tw13352766267649165214:=Nat
def tw7121786004462283892:=Nat
def tw13332857168234453290:=Nat
def tw7457259588806517930:=Nat
def tw12061043845589763471:=Nat
def tw712598154900325739:=Nat
def tw3540601427308157259:=Nat
def tw1855001681085088772:=Nat
def tw3159233481400747157:=Nat
def tw16343011862094649557:=Nat
def tw18357392753661494857:=Nat
def tw13334676953585631313:=Nat
def tw13071192091775040361:=Nat
def tw9015104145659826499:=Nat
def tw806509066939625191:=Nat
def tw3991911032396958051:=Nat
def tw15189072021974169210:=Nat
def tw18223440020126449834:=Nat
def tw17462233058255290326:=Nat
def tw827706557123279262:=Nat
def tw16012140522164476144:=Nat
def tw13823739338691276413:=Nat
def tw13998329203663033684:=Nat
def tw5556991967872230263:=Nat
def tw3298011529366413486:=Nat
def tw3156812973321107737:=Nat
def tw2834335064782188117:=Nat
def tw2057814700424551304:=Nat
def tw15353631191405473640:=Nat
def tw11409757854601550100:=Nat
def tw5108635744168704301:=Nat
def tw14456432902329964956:=Nat
def tw17336677771824563617:=Nat
def tw13002345689263818359:=Nat
def tw10442350537429756403:=Nat
def tw10911505323070587927:=Nat
def tw14295326824732150952:=Nat
def tw12392257242124622797:=Nat
def tw4404973222134985729:=Nat
def tw5574028831447078702:=Nat
def tw11894502210186153401:=Nat
def tw4487668045736152113:=Nat
def tw2765273975423968174:=Nat
def tw18325490758534074481:=Nat
def tw6116139970916046129:=Nat
def tw905612441986994040:=Nat
def tw16752432766720772517:=Nat
def tw7287157136607755054:=Nat
def tw6785895966335756751:=Nat
def tw9615620799071647016:=Nat
def tw8089736179474651322:=Nat
def tw474630353081939584:=Nat
def tw12070217736854242999:=Nat
def tw5762493229771709077:=Nat
def tw14123080274437859216:=Nat
def tw13831233636891982205:=Nat
def tw13482541497270298346:=Nat
def tw7650098427294801394:=Nat
def tw1975597463460374870:=Nat
def tw10745317608157480734:=Nat
def tw16284064766159737496:=Nat
def tw10882908367766869185:=Nat
def tw8391617492354204551:=Nat
def tw6097832138450357090:=Nat
def tw8865467865382273829:=Nat
def tw353579627443249534:=Nat
def tw2165743679531434569:=Nat
def tw1222895486759620971:=Nat
def tw17182078334691160805:=Nat
def tw16550164835558627891:=Nat
def tw4832111601529696677:=Nat
def tw472045175602277579:=Nat
def tw16130906901911770476:=Nat
def tw1113837249083982546:=Nat
def tw5418332360234606176:=Nat
def tw4390623211149102421:=Nat
def tw1201748620213058254:=Nat
def tw5892626961034173053:=Nat
def tw12143505027207138777:=Nat
def tw6129077946466864743:=Nat
def tw4883318836682564896:=Nat
def tw4474696264424334859:=Nat
def tw341583395035883760:=Nat
def tw16576671993091420187:=Nat
def tw1409303368342824651:=Nat
def tw6136976930532673950:=Nat
def tw4647083887564362819:=Nat
def tw17575740447877151986:=Nat
def tw16535036750665175917:=Nat
def tw6561381353413529805:=Nat
def tw17496917593239958580:=Nat
def tw4049060256236542954:=Nat
def tw13761528002496840841:=Nat
def tw12724373193324852820:=Nat
def tw9272750073123328453:=Nat
def tw6147994173410822063:=Nat
def tw2234363691353978305:=Nat
def tw14765589935686058905:=Nat
def tw2061414144916590930:=Nat
def tw11414730041652110362:=Nat
def tw6050720062555182230:=Nat
def tw6914078353979344178:=Nat
def tw2539825416255498658:=Nat
def tw14012146750220761612:=Nat
def tw3635746844686293132:=Nat
def tw12382014079969762496:=Nat
def tw11310985564293539105:=Nat
def tw6421000793457377715:=Nat
def tw15615853197389464041:=Nat
def tw15577828929376463013:=Nat
def tw15100069322609882418:=Nat
def tw14584632175648731458:=Nat
def tw6628411611367150895:=Nat
def tw16829210371884557707:=Nat
def tw10590742879300707032:=Nat
def tw10427215303394477646:=Nat
def tw4230962733432798375:=Nat
def tw9115293532747009503:=Nat
def tw9337719552208834831:=Nat
def tw9215278495351915321:=Nat
def tw5163311573979893008:=Nat
def tw4538882064847090417:=Nat
def tw15979492203128492824:=Nat
def tw9200135192194361896:=Nat
def tw6613057569211719111:=Nat
def tw2287029700352883316:=Nat
def tw14189441508723255519:=Nat
def tw13231973146810993724:=Nat
def tw4682819559265943441:=Nat
def tw4151207658722324960:=Nat
def tw14927219464198136248:=Nat
def tw12598630541458672145:=Nat
def tw16493519813224826244:=Nat
def tw7656580670157053816:=Nat
def tw5137391877721137760:=Nat
def tw13179100430779081865:=Nat
def tw8561135720927711710:=Nat
def tw9304938403749230105:=Nat
def tw10673414640473994315:=Nat
def tw5881779214202152711:=Nat
def tw2503412763725408569:=Nat
def tw9754407969351354529:=Nat
def tw74227393143593062:=Nat
def tw4219877684327937399:=Nat
def tw2037342885621875030:=Nat
def tw16780242389523734666:=Nat
def tw10979925970623278595:=Nat
def tw1009029491841741858:=Nat
def tw6560944013727399911:=Nat
def tw12603489745784260084:=Nat
def tw5612171656758891695:=Nat
def tw10919808067779113905:=Nat
def tw16800690577094848610:=Nat
def tw3229873262737868834:=Nat
def tw15058060517978903004:=Nat
def tw12714452144489655672:=Nat
def tw18340436746026041890:=Nat
def tw3754561072949550178:=Nat
def tw14754611454327123794:=Nat
def tw14081116850471655049:=Nat
def tw8811126291686155483:=Nat
def tw8299999930922935091:=Nat
def tw14397047888220101754:=Nat
def tw2572794596607890267:=Nat
def tw2043728412256305713:=Nat
def tw9064481008431006717:=Nat
def tw13808509322090008:=Nat
def tw11552001167673456231:=Nat
def tw252523006513129560:=Nat
def tw15498058350581690820:=Nat
def tw4221149623242974055:=Nat
def tw12880170319343366674:=Nat
def tw1635706430681009064:=Nat
def tw4630316619946024205:=Nat
def tw11977708717570921053:=Nat
def tw13581676038367986598:=Nat
def tw11921198288014444864:=Nat
def tw6795581185409102688:=Nat
def tw949391349418221812:=Nat
def tw7228358607221295371:=Nat
def tw11947712959339151722:=Nat
def tw10132435662854949375:=Nat
def tw10848321783835023483:=Nat
def tw929190175146348792:=Nat
def tw3545493702390821804:=Nat
end PySem.W.Fast
set_option maxRecDepth 100000 in
set_option maxHeartbeats 0 in
theorem PySem.Challenge.cw_shardask_k65_store_refused_holds : PySem.Challenge.rw_shardask_k65_store_refused.Holds := by
 w_on;o_law;k_head;(case hw=>w_witness2)
 k_fill
 refine My.aPt (l:=PySem.Challenge.rw_shardask_k65_store_refused) (n:=63) (k:=16) (x:="_law_script") (CX:=L2.CX0) (sp:=fun K=>My.aOs K 278) rfl (by decide) rfl ⟨rfl,by decide,by decide⟩ [(278,My.qC)] (by decide) (fun w h Y=>⟨PySem.W.km_in_of Y,My.aW7 (PySem.W.km_tabs_of Y)⟩) ?C ?F (fun K H a ns hl hO hS=>My.aTk hl hO hS) (fun _ _ _ _ z=>z)
 case C=>
  intro w
  refine' My.aXf ?a ?l ?e1 ?e2 ?h ?n
  (case a=>k_is)
  (case l=>k_is)
  (case e1=>rfl)
  (case e2=>rfl)
  (case h=>first|k_is|kernel_rfl|decide +kernel)
  (case n=>first|k_is|kernel_rfl|decide +kernel)
 case F=>
  intro w mg fa h KX G hmg
  have T:My.Txt w (L2.KOf KX) mg:=by
   dsimp only [L2.KOf]
   apply My.Txt.mk
   iterate 17 (refine' mg_none_of KX G ?_;k_is)
   (refine' My.aYt KX G ?gq ?gr ?gt ?gy ?gu ?gv ?gs;(case gq=>k_is);(case gr=>k_is);(case gt=>rfl);(case gy=>rfl);(case gu=>rfl);(case gv=>repeat (first|exact L2.zU|refine L2.lC rfl ?_|refine L2.lC ⟨_,rfl⟩ ?_));(case gs=>decide))
   (refine' My.aYy KX G ?gq ?gr;(case gq=>k_is);(case gr=>exact ⟨_,rfl⟩))
   (refine' My.aYt KX G ?gq ?gr ?gt ?gy ?gu ?gv ?gs;(case gq=>k_is);(case gr=>k_is);(case gt=>rfl);(case gy=>rfl);(case gu=>rfl);(case gv=>repeat (first|exact L2.zU|refine L2.lC rfl ?_|refine L2.lC ⟨_,rfl⟩ ?_));(case gs=>decide))
   iterate 5 (refine' My.aYy KX G ?gq ?gr;(case gq=>k_is);(case gr=>exact ⟨_,rfl⟩))
   (refine' My.bEg KX G (s:=My.oY) (My.FA.mk ?vj ?vl ?vc ?vk);(case vj=>k_is);(case vl=>k_is);(case vc=>k_is);(case vk=>k_is))
   iterate 48 (refine' My.bC8 KX G (My.FA.mk ?fj ?fl ?fc ?fk) ?fb;(case fj=>k_is);(case fl=>k_is);(case fc=>k_is);(case fk=>k_is);(case fb=>first|exact fun _ _ _ _ _ _=>My.ln1 fun _=>rfl|exact fun _ _ _ _ _ _=>My.ln2 fun _ _=>rfl|exact fun _ _ _ _ _ _=>My.ln3 fun _ _ _=>rfl|exact fun _ _ _ _ _ _=>My.ln4 fun _ _ _ _=>rfl|exact fun _ _ _ _ _ _=>My.ln5 fun _ _ _ _ _=>rfl|exact fun _ _ _ _ _ _=>My.ln6 fun _ _ _ _ _ _=>rfl|exact fun _ _ _ _ _ _=>My.ln7 fun _ _ _ _ _ _ _=>rfl|exact fun _ _ _ _ _ _=>My.ln0 rfl))
   iterate 2 (refine' My.bD3 KX G (My.CA.mk ?cj ?c1 ?c2 ?c3 ?c4 ?c5 ?c6) ?cr;(case cj=>k_is);(case c1=>first|k_is|kernel_rfl|decide +kernel);(case c2=>first|k_is|kernel_rfl|decide +kernel);(case c3=>first|k_is|kernel_rfl|decide +kernel);(case c4=>first|k_is|kernel_rfl|decide +kernel);(case c5=>first|k_is|kernel_rfl|decide +kernel);(case c6=>first|k_is|kernel_rfl|decide +kernel);(case cr=>(repeat (refine' ⟨My.bC5 (My.MA.mk ?mj ?mi ?ml ?mc ?mk) ?mb,?_⟩;(case mj=>k_is);(case mi=>first|k_is|kernel_rfl|decide +kernel);(case ml=>k_is);(case mc=>k_is);(case mk=>k_is);(case mb=>first|exact fun _ _ _ _ _ _=>My.ln1 fun _=>rfl|exact fun _ _ _ _ _ _=>My.ln2 fun _ _=>rfl|exact fun _ _ _ _ _ _=>My.ln3 fun _ _ _=>rfl|exact fun _ _ _ _ _ _=>My.ln4 fun _ _ _ _=>rfl|exact fun _ _ _ _ _ _=>My.ln5 fun _ _ _ _ _=>rfl|exact fun _ _ _ _ _ _=>My.ln6 fun _ _ _ _ _ _=>rfl|exact fun _ _ _ _ _ _=>My.ln7 fun _ _ _ _ _ _ _=>rfl|exact fun _ _ _ _ _ _=>My.ln0 rfl)));unfold L2.bN;(repeat (refine' ⟨?ma,?_⟩;(case ma=>k_is)));k_is))
   (refine' My.bDm KX G ?xs ?xc0 ?xc1 ?xc2 ?xc3 ?xc4 ?xc5 ?xc6 ?xc7 ?xb ?xm;(case xs=>k_is);(any_goals (refine' My.X1.mk ?zy0 ?zy1 ?zr0 ?zr1 ?zr2 ?zr3 ?zy2 ?zr4 ?zy3 ?zy4 ?zy5 ?zy6 ?zy7 ?zy8 ?zy9 ?zy10 ?zy11 ?zy12 ?zy13 ?zy14;(case zy0=>k_is);(case zy1=>k_is);(case zr0=>first|rfl|decide +kernel);(case zr1=>first|rfl|decide +kernel);(case zr2=>first|rfl|decide +kernel);(case zr3=>first|rfl|decide +kernel);(case zy2=>k_is);(case zr4=>first|rfl|decide +kernel);(case zy3=>k_is);(case zy4=>k_is);(case zy5=>k_is);(case zy6=>k_is);(case zy7=>k_is);(case zy8=>k_is);(case zy9=>k_is);(case zy10=>k_is);(case zy11=>k_is);(case zy12=>k_is);(case zy13=>k_is);(case zy14=>k_is)));(case xb=>refine' My.X0.mk ?zy0 ?zy1 ?zy2 ?zy3 ?zy4 ?zy5;(case zy0=>k_is);(case zy1=>k_is);(case zy2=>k_is);(case zy3=>k_is);(case zy4=>k_is);(case zy5=>k_is));(case xm=>intro c d;cases c <;> cases d <;> first|(show PySem.W.mroIn _ _ _=some true;k_is)|(show PySem.W.mroIn _ _ _=some false;k_is)))
  have C:L2.aTm (L2.KOf KX) mg "are_cuts" 278:=by
   dsimp only [L2.KOf]
   refine' My.bAk KX G ?a ?l ?e1 ?e2 ?h
   (case a=>k_is)
   (case l=>k_is)
   (case e1=>rfl)
   (case e2=>rfl)
   (case h=>first|k_is|kernel_rfl|decide +kernel)
  exact My.bA6 (P:=PySem.Challenge.rw_shardask_k65_store_refused.prog) T C hmg
