import PyProof.Rows.All
import Wide.All
import OpenK.AllK
import Wide.FinOn
import Lean
import PyProof.EqAt
import PyProof.EqKinds
import PyProof.TupleCall
import PyProof.CallType
import PyProof.WalkLemmas
import PyProof.StrOps
import PyProof.ForAny
import PyProof.IsInstanceH
import PyProof.IsiFacts
import PyProof.IsiFacts2
import PyProof.FactsAll.object
import PyProof.ListMulRoad
import PyProof.FactsAll.tuple_2
import PyProof.StrLawsIdx
import KE.KDictList
import PyProof.Rows.Range3
import PyProof.EnumMake
import PyProof.EnumFor
import PyProof.CompUse
import PyProof.ListStr
import PyProof.NeKinds
import PyProof.IsInstanceT
import PyProof.FString5
import PyProof.Rows.SeqMore2
import PyProof.IsiPairs
import PyProof.StrCalls3
import KE.KSortTup
import KE.KSortKey
import PyProof.Rows.SortStr
import KE.KLam
import KE.KDictOf
import KE.KEqDict
import KE.KDictSum
import PyProof.AttrMissHeap
import PyProof.DictWalks
import PyProof.Rows.TupTab
import PyProof.DictItems
import PyProof.FactsAll.set_1
import KE.KRevIter
import PySem.Challenge.RW_shardask_k67_whole_moves
set_option Elab.async false
set_option linter.all false
set_option compiler.extract_closed false
set_option maxRecDepth 100000
set_option maxHeartbeats 6400000
local macro_rules|`(tactic|trivial)=>`(tactic|(intro a b c d h;first|(cases h;subst_vars;rfl)|(repeat (first|(obtain ⟨e,_⟩:=h;subst e;rfl)|(obtain ⟨_,h⟩:=h)|fail))))
abbrev n6:List PySem.Str:=["self","name"]
abbrev n7:List PySem.Str:=["_law_state","_law_store","_law_name","_law_table","_law_houses"]
abbrev n8:List PySem.Str:=["_law_state","_law_many"]
abbrev o4:List PySem.Str:=["_law_state","_law_store","_law_name","_law_table"]
abbrev o5:List PySem.Str:=["_law_table","_law_houses","_law_house"]
abbrev o6:List PySem.Str:=["thing"]
abbrev o7:List PySem.Str:=["self","houses","tables"]
abbrev o8:List PySem.Str:=["thing","least","most","is_part"]
abbrev o9:List PySem.Str:=["_law_cuts","_law_value_here"]
abbrev u5:List PySem.Str:=["_law_store","_law_name","_law_table","_law_houses"]
abbrev u6:List PySem.Str:=["self","name","house"]
abbrev z8:List PySem.Str:=["placed","name"]
abbrev bQA:List PySem.Str:=["head","thing"]
abbrev bQB:List PySem.Str:=["houses","tables"]
abbrev bQC:List PySem.Str:=["_law_state","_law_head_here"]
abbrev bQD:List PySem.Str:=["thing","houses"]
abbrev bQE:List PySem.Str:=["_law_script"]
abbrev bQF:List PySem.Str:=["_law_state","_law_head_here","_law_houses"]
abbrev bQG:List PySem.Str:=["_law_head_here","_law_name"]
abbrev bQH:List PySem.Str:=["_law_state","_law_names_here","_law_most"]
abbrev bQI:List PySem.Str:=["self","name","row"]
abbrev bQJ:List PySem.Str:=["head","name"]
abbrev bQK:List PySem.Str:=["head","placing","row","house","houses"]
abbrev bQL:List PySem.Str:=["table","house","houses"]
abbrev bQM:List PySem.Str:=["_law_state","_law_kind"]
abbrev bQN:List PySem.Str:=["_law_value_here","_law_houses"]
abbrev bQO:List PySem.Str:=["_law_state","_law_names_here"]
abbrev bQP:List PySem.Str:=["self","name","number","house"]
abbrev bQQ:List PySem.Str:=["thing","head","houses"]
abbrev bQR:List PySem.Str:=["thing","many"]
abbrev bQS:List PySem.Str:=["thing","kind"]
abbrev bQT:List PySem.Str:=["thing","texts"]
abbrev bQU:List PySem.Str:=["thing","kind","houses"]
abbrev bQV:List PySem.Str:=["cuts","value"]
abbrev bQW:List PySem.Str:=["table","rows"]
abbrev bQX:List PySem.Str:=["table","cuts"]
abbrev bQY:List PySem.Str:=["table","number"]
abbrev bQZ:List PySem.Str:=["self","name","many"]
abbrev bXA:List PySem.Str:=["row","mark"]
abbrev bXB:List PySem.Str:=["self","name","low"]
abbrev bXC:List PySem.Str:=["thing","head"]
abbrev bXD:List PySem.Str:=["value","houses"]
abbrev bXE:List PySem.Str:=["_law_table"]
section
open PySem PySem.Spec PySem.Calls PyProof.Rows
def b7:=@wpAny_bind
def b8:=@List.getElem?_eq_getElem
def d7:=@Heap.get?_push_of_some
def d8:=@wpAny_pure
def d9:=@Nat.le_refl
def j0:=@List.getD_eq_getElem?_getD
def j4:=@List.length_map
def j5:=@List.mem_cons_self
def j6:=@List.size_toArray
def j7:=@List.mem_cons_of_mem
def j8:=@Heap.get?_push_size
def j9:=@List.length_cons
def m8:=@Array.getElem?_eq_getElem
def m9:=@decide_eq_true
def t8:=@Heap.lt_size
def v4:=@List.mem_of_getElem?
def v5:=@List.getElem?_map
def v6:=@decide_eq_false
def v7:=@Array.length_toList
def v8:=@Bool.false_ne_true
def v9:=@List.length_append
def w6:=@Array.getD_eq_getD_getElem?
def z9:=@Nat.ne_of_lt
def bAA:=@List.mem_append_right
def bAB:=@Nat.lt_of_lt_of_le
def bAC:=@List.length_take
def bAD:=@List.getElem?_eq_none
def bAE:=@Nat.zero_le
def bAF:=@List.map_cons
def bAG:=@List.not_mem_nil
def bAH:=@wpAny_call_entry
def bAI:=@Nat.le_trans
def bAJ:=@wpAny_callSpecial?_slot
def bAK:=@List.length_range
def bAL:=@wpAny_newObj_type
def bAM:=@Option.some.inj
def bAN:=@List.map_append
def bAO:=@List.getElem_mem
def bAP:=@List.mem_cons
def bAQ:=@List.eq_nil_of_length_eq_zero
def bAR:=@wpAny_setField_rec
def bAS:=@Int.toNat_natCast
def bAT:=@List.mem_map_of_mem
def bAU:=@wpAny_holding
def bAV:=@wpAny_field
def bAW:=@Bool.and_eq_true
def bAX:=@List.length_filter_le
def bAY:=@Heap.SameBut.update
def bAZ:=@List.take_of_length_le
def bBA:=@List.getElem?_append_right
def bBB:=@Bool.false_eq_true
def bBC:=@List.getElem_of_mem
def bBD:=@List.getElem?_append_left
def bBE:=@List.length_drop
def bBF:=@List.mem_append_left
def bBG:=@wpAny_truthy_bool
def bBH:=@List.take_add_one
def bBI:=@wpAny_seqItems
def bBJ:=@Heap.get?_update_self
def bBK:=@Array.getElem?_toList
def bBL:=@wpAny_setState_of
def bBM:=@Around.under_plainId
def bBN:=@Nat.lt_irrefl
def bBO:=@Option.getD_some
def bBP:=@List.eq_of_mem_replicate
def bBQ:=@wpAny_mono
def bBR:=@Nat.lt_succ_of_lt
def bBS:=@Heap.size_push
def bBT:=@wpAny_Call_Name_kw
def bBU:=@codeAny_builtin
def bBV:=@List.find?_cons
def bBW:=@List.map_map
def bBX:=@Calls.spliced_cons
def bBY:=@Nat.lt_of_le_of_lt
def bBZ:=@List.all_eq_true
def bCA:=@List.take_length
def bCB:=@List.getElem_toArray
def bCC:=@PyProof.Rows.callWith_type1
def bCD:=@List.append_assoc
def bCE:=@List.ext_getElem?
def bCF:=@List.set_set
def bCG:=@Array.getElem?_eq_none
def bCH:=@List.filterMap_cons
def bCI:=@Bool.eq_iff_iff
def bCJ:=@List.append_nil
def bCK:=@PyProof.Rows.slot_tuple_getitem
def bCL:=@List.filter_cons
def bCM:=@List.mem_singleton
def bCN:=@wpAny_typeNameOfWhole_itemiter
def bCO:=@List.mem_of_mem_take
def bCP:=@wpAny_pyIter_list
def bCQ:=@List.length_nil
def bCR:=@List.getElem?_range
def bCS:=@PyProof.Rows.F.plain_set_update_loop
def bCT:=@wpAny_attempt
def bCU:=@plainId_quiet
def bCV:=@Nat.lt_succ_self
def bCW:=@List.lookup_cons
def bCX:=@List.nil_append
def bCY:=@Nat.not_lt_zero
def bCZ:=@codeAny_mono
def bDA:=@Nat.zero_add
def bDB:=@Array.toList_append
def bDC:=@wpAny_setEntries_of
def bDD:=@wpAny_setField
def bDE:=@wpAny_isInstance
def bDF:=@Nat.le_add_right
def bDG:=@wpAny_askSetting
def bDH:=@Nat.le_succ
def bDI:=@Nat.le_of_lt
def bDJ:=@Nat.ne_of_gt
def bDK:=@Heap.get?_update_other
def bDL:=@SeqAt.EqAt.str_str
def bDM:=@Calls.callWith_builtin
def bDN:=@List.map_replicate
def bDO:=@Int.emod_lt_of_pos
def bDP:=@Option.map_some
def bDQ:=@List.mem_append
def bDR:=@List.length_replicate
def bDS:=@Array.mem_of_getElem?
def bDT:=@Calls.Name_function_global
def bDU:=@wpAny_rule
def bDV:=@wpAny_fieldsOf
def bDW:=@List.any_eq_true
def bDX:=@List.drop_eq_getElem_cons
def bDY:=@PyProof.Rows.F.entry_set_update_loop
def bDZ:=@List.take_nil
def bEA:=@List.Pairwise.imp_of_mem
def bEB:=@wpAny_passesOwn
def bEC:=@SeqAt.EqAt.same
def bED:=@List.forIn_cons
def bEE:=@Int.emod_nonneg
def bEF:=@wpAny_pyIter_tuple
def bEG:=@List.filterMap_map
def bEH:=@SeqAt.EqAt.int_int
def bEI:=@List.filter_filter
def bEJ:=@wpAny_of_eq
def bEK:=@List.length_eraseIdx_le
def bEL:=@List.getElem?_set_self
def bEM:=@Calls.spliced_nil
def bEN:=@List.take_sublist
def bEO:=@wpAny_typeOf
def bEP:=@Nat.lt_trans
def bEQ:=@List.drop_of_length_le
def bER:=@Array.getElem_mem
def bES:=@Heap.get?_push_ne
def bET:=@wpAny_isOneOf_itemiter
def bEU:=@wpAny_pyIter_slot
def bEV:=@Nat.lt_trichotomy
def bEW:=@List.eraseIdxIfInBounds_toArray
def bEX:=@List.length_singleton
def bEY:=@List.getElem?_toArray
def bEZ:=@wpAny_forIn_list
def bFA:=@List.any_cons
def bFB:=@wpAny_handled
def bFC:=@wpAny_onRaise
def bFD:=@wpAny_newList
def bFE:=@PySem.W.mg_of
def bFF:=@Calls.evalArgs_plain
def bFG:=@codeAny_call_builtin
def bFH:=@List.nodup_cons
def bFI:=@List.length_zipWith
def bFJ:=@List.take_succ_cons
def bFK:=@Int.fdiv_eq_ediv_of_nonneg
def bFL:=@Int.fmod_eq_emod_of_nonneg
def bFM:=@wpAny_call
def bFN:=@wpAny_newTuple
def bFO:=@Nat.lt_or_eq_of_le
def bFP:=@Bool.and_false
def bFQ:=@List.length_eraseIdx_of_lt
def bFR:=@List.perm_ext_iff_of_nodup
def bFS:=@wpAny_throw
def bFT:=@Option.isSome_map
def bFU:=@Array.toList_push
def bFV:=@wpAny_storeSet_of
def bFW:=@wpAny_dictEntries
def bFX:=@wpAny_standAt
def bFY:=@List.all_cons
abbrev bFZ:=PySem.W.Frag
abbrev bF0:=Value->Shared->Prop
abbrev bF1:=List (Addr × Obj)
abbrev bF2:=Str->Option Value
end
local macro_rules
  | `(tactic| trivial) => `(tactic| first | exact Or.inl rfl | exact Or.inr rfl | exact Or.inr (Or.inl rfl) | exact Or.inr (Or.inr rfl) | exact⟨rfl, rfl, rfl, by decide +kernel, rfl, by decide +kernel, by decide +kernel⟩ | exact⟨by decide +kernel, rfl, by decide +kernel, by decide +kernel⟩ | decide +kernel | fail)
namespace L2
open PySem PySem.Spec PyProof.Rows
abbrev Key:=Sum Int Str
def rO:Key->Value->Bool
 |.inl k,v=>Value.isInt k v
 |.inr x,v=>Value.isStrOf x v
def bFm (w:World):Key->Int
 |.inl k=>hashInt k
 |.inr x=>hashStr w x
theorem cT:∀{k:Key} {v:Value},rO k v=true->(∃i t,k=Sum.inl i/\v=Value.int i t)\/(∃x t,k=Sum.inr x/\v=Value.str x t)
 |.inl i,v,h=>by obtain⟨t,e⟩:=Value.isInt_shape h;exact .inl ⟨i,t,rfl,e⟩
 |.inr x,v,h=>by obtain⟨t,e⟩:=Value.isStrOf_shape h;exact .inr ⟨x,t,rfl,e⟩
def aF8 (i:Int)(t:Tok):rO (.inl i) (.int i t)=true:=by simp[rO,Value.isInt]
def aF2 (x:Str)(t:Tok):rO (.inr x) (.str x t)=true:=by simp[rO,Value.isStrOf]
def bCg (a b:Int):decide ((Sum.inl a:Key)=Sum.inl b)=(a == b):=by
 by_cases e:a=b
 ·subst e;simp
 ·have h:¬ (Sum.inl a:Key)=Sum.inl b:=λq=>e (Sum.inl.inj q);rw[v6 h];exact (beq_eq_false_iff_ne.mpr e).symm
def bBq (a b:Str):decide ((Sum.inr a:Key)=Sum.inr b)=decide (a=b):=by
 by_cases e:a=b
 ·subst e;simp
 ·have h:¬ (Sum.inr a:Key)=Sum.inr b:=λq=>e (Sum.inr.inj q);rw[v6 h,v6 e]
def bBs (a:Int)(b:Str):decide ((Sum.inl a:Key)=Sum.inr b)=false:=v6 (λq=>nomatch q)
def bCz (a:Str)(b:Int):decide ((Sum.inr a:Key)=Sum.inl b)=false:=v6 (λq=>nomatch q)
def bJ (prog:Program)(w:World):PySem.KeyKind prog w Key where
 is:=rO
 hash:=bFm w
 inj:=λv a b ha hb=>by
  rcases cT ha with⟨i,t,rfl,rfl⟩|⟨x,t,rfl,rfl⟩
  ·rcases cT hb with⟨j,u,rfl,e⟩|⟨y,u,rfl,e⟩
   ·injection e with e1 _;rw[e1]
   ·exact nomatch e
  ·rcases cT hb with⟨j,u,rfl,e⟩|⟨y,u,rfl,e⟩
   ·exact nomatch e
   ·injection e with e1 _;rw[e1]
 byValue:=λk v h=>by rcases cT h with⟨i,t,rfl,rfl⟩|⟨x,t,rfl,rfl⟩ <;> rfl
 pyHash:=λhv h=>by
  rcases cT hv with⟨i,t,rfl,rfl⟩|⟨x,t,rfl,rfl⟩
  ·exact wpAny_pyHash_int h
  ·exact wpAny_pyHash_str h
 eqBool:=λhu hv h=>by
  rcases cT hu with⟨i,t,rfl,rfl⟩|⟨x,t,rfl,rfl⟩
  ·rcases cT hv with⟨j,u,rfl,rfl⟩|⟨y,u,rfl,rfl⟩
   ·rw[bCg] at h;exact wpAny_eqBool_int h
   ·rw[bBs] at h;exact SeqAt.EqAt.int_str i t y u _ _ _ _ h
  ·rcases cT hv with⟨j,u,rfl,rfl⟩|⟨y,u,rfl,rfl⟩
   ·rw[bCz] at h;exact SeqAt.EqAt.str_int x t j u _ _ _ _ h
   ·rw[bBq] at h;exact wpAny_eqBool_str h
 «strs»:=λk x t v h=>by
  rcases cT h with⟨i,u,rfl,e⟩|⟨y,u,rfl,e⟩
  ·exact nomatch e
  ·injection e with e1 _;subst e1;cases v <;> rfl
def aKb (prog:Program)(w:World)(i:Int)(t:Tok):(bJ prog w).is (.inl i) (.int i t)=true:=aF8 i t
def aL3 (prog:Program)(w:World)(x:Str)(t:Tok):(bJ prog w).is (.inr x) (.str x t)=true:=aF2 x t
inductive V where
 |non|bl (b:Bool)|int (i:Int)|str (x:Str)|byt (b:Array UInt8)|flt (b:UInt64)|ref (a:Addr)|ty (n:String)
 deriving DecidableEq
def RelV:V->Value->Prop
 |.non,u=>u=Value.none
 |.bl b,u=>u=Value.bool b
 |.int i,u=>∃t,u=Value.int i t
 |.str x,u=>∃t,u=Value.str x t
 |.byt b,u=>∃t,u=Value.bytes b t
 |.flt b,u=>∃t,u=Value.float b t
 |.ref a,u=>u=Value.ref a
 |.ty n,u=>u=Value.type n
abbrev Vals:List V->List Value->Prop:=Paired RelV
def Vals.length (r:Vals xs us):xs.length=us.length:=Paired.length r
theorem Vals.get:∀{xs:List V} {us:List Value} {i:Nat} {x:V},Vals xs us->xs[i]?=some x->∃u,us[i]?=some u/\RelV x u
 |_,_,_,_,.nil,e=>by simp at e
 |_,_,0,_,.cons r _,e=>by simp at e;subst e;exact⟨_,rfl,r⟩
 |_,_,i+1,x,.cons _ t,e=>by obtain⟨u,a,b⟩:=Vals.get t (by simpa using e);exact⟨u,by simpa using a,b⟩
theorem Vals.set (r:RelV x u):∀{xs:List V} {us:List Value} (i:Nat),Vals xs us->Vals (xs.set i x) (us.set i u)
 |_,_,_,.nil=>.nil
 |_,_,0,.cons _ t=>.cons r t
 |_,_,i+1,.cons q t=>.cons q (Vals.set r i t)
theorem Vals.append:∀{xs ys:List V} {us ws:List Value},Vals xs us->Vals ys ws->Vals (xs++ys) (us++ws)
 |_,_,_,_,.nil,s=>s
 |_,_,_,_,.cons r t,s=>.cons r (Vals.append t s)
theorem Vals.take:∀{xs:List V} {us:List Value} (n:Nat),Vals xs us->Vals (xs.take n) (us.take n)
 |_,_,0,_=>.nil
 |_,_,_+1,.nil=>.nil
 |_,_,n+1,.cons r t=>.cons r (Vals.take n t)
theorem Vals.drop:∀{xs:List V} {us:List Value} (n:Nat),Vals xs us->Vals (xs.drop n) (us.drop n)
 |_,_,0,r=>r
 |_,_,_+1,.nil=>.nil
 |_,_,n+1,.cons _ t=>Vals.drop n t
def oZ:Option V->Option Value->Prop
 |some v,some u=>RelV v u
 |none,none=>True
 |_,_=>False
def KV {κ:Type}:List (κ × V)->List (κ × Value)->Prop:=Paired λp q=>p.1=q.1/\RelV p.2 q.2
def kV:Key->V
 |.inl i=>.int i
 |.inr x=>.str x
inductive HO where
  |lst (xs:List V)
  |tup (xs:List V)
  |dK (kvs:List (Key × V))|dT (kvs:List (List Key × V))
  |set (S:Int->Bool) (n:Nat)
  |ins (C dx:Addr) (fs:List (Str × V))
  |own (x:Addr)
  |xd (fs:List (Str × V))
  |met (f x:Addr)
  |rng (lo hi:Int)
  |frz (o:Obj) (u:HO)
  |tbl (ps:Array Value)
  |tab (q:Str)
  |ext (φ:Heap->Prop)
abbrev Hp:=Addr->Option HO
def upd (H:Hp)(a:Addr)(o:HO):Hp:=λb=>if b=a then some o else H b
def aG:upd H a o a=some o:=by unfold upd;rw[if_pos rfl]
def aQ (h:b≠a):upd H a o b=H b:=by unfold upd;rw[if_neg h]
def aXv:upd (upd H a o) a u=upd H a u:=by funext b;unfold upd;split <;> rfl
def aKz {H:Hp}{a b:Addr}{o u:HO}(h:H a=some o)(h':H b=some u)(d:o≠u):a≠b:=by intro e;subst e;rw[h] at h';exact d (bAM h')
def aL {H:Hp}{a b:Addr}{o:HO}(h:H a=some o)(h':H b=none):a≠b:=by intro e;subst e;rw[h] at h';cases h'
def zR (h:Heap)(a:Addr)(items:Array Value):Prop:=IsTup h a items/\∀o,h.get? a=some o->o.dict=none
def zR.of (e:h.get? a=some o)(d:o.dict=none)(x:IsTup h a items):zR h a items:=⟨x,λc b=>by rw[e] at b;cases b;exact d⟩
def zR.new (h:Heap)(items:Array Value):zR (h.push { cls:=.type "tuple",data:=.seq items }) h.objs.size items:=.of (j8 _ rfl) rfl (IsTup.new _ _)
def zR.keep (x:zR h a items)(k:∀o,h.get? a=some o->h'.get? a=some o):zR h' a items:=by obtain⟨⟨o,e,c⟩,d⟩:=x;exact .of (k o e) (d o e) ⟨o,k o e,c⟩
section
variable (P:Program)(w:World)
def dN (H:Hp)(h:Heap)(a:Addr):HO->Prop
 |.lst xs=>xs.length<=sizeLine/\∃its n,Vals xs its/\h.get? a=some { cls:=.type "list",data:=.seq its.toArray n }
 |.tup xs=>xs.length<=sizeLine/\∃its:List Value,Vals xs its/\zR h a its.toArray
 |.dK kvs=>kvs.length<=sizeLine/\(a == sysModules)=false/\∃vs,KV kvs vs/\h.DictOf (bJ P w) a vs
 |.dT kvs=>kvs.length<=sizeLine/\(a == sysModules)=false/\∃xs:List (List Key × Addr × Value),
   Paired (λp q=>p.1=q.1/\H q.2.1=some (.tup (p.1.map kV))/\RelV p.2 q.2.2) kvs xs /\
   ∃o es ep,h.get? a=some o/\o.ExactDict/\o.data=.dict es ep/\es.toList=xs.map (entryOfKey (tupleKind (bJ P w)))/\(xs.map (·.1)).Nodup
 |.set S n=>h.SetOf (intKind P w) a S n
 |.ins C dx fs=>H dx=some (.own a)/\fs.length<=1000/\dx≠a/\h.get? a=some (PySem.W.instObj C dx) /\
   ∃mA,h.Ns1 dx mA/\(∀f,oZ (fs.lookup f) (mA f))/\PySem.Within mA (fs.map (·.1))
 |.own _=>∃o,h.get? a=some o
 |.xd fs=>∃mA,h.Ns1 a mA/\∀f,oZ (fs.lookup f) (mA f)
 |.rng lo hi=>∃t u v,h.get? a=some { cls:=.type "range",data:=.fields #[.int lo t,.int hi u,.int 1 v] }
 |.frz o u=>h.get? a=some o/\dN H h a u
 |.tbl ps=>h.get? a=some { cls:=.none,data:=.fields ps }
 |.tab q=>∃ps:Array Value,h.get? a=some { cls:=.none,data:=.fields ps }/\TriplesOk ps.toList/\∀pos cv,codeAmong pos ps.toList=some cv->∃c oc vs t,cv=.ref c/\H c=some (.own a)/\h.get? c=some oc/\oc.data=.fields vs/\vs[1]?=some (.str q t)
 |.met f x=>h.get? a=some (PySem.W.methodObj (.ref f) (.ref x))
 |.ext φ=>φ h/\(∃o,h.get? a=some o)/\∀h1 h2:Heap,φ h1->(∀o,h1.get? a=some o->h2.get? a=some o)->φ h2
def HOk (H:Hp)(h:Heap):Prop:=∀a o,H a=some o->dN P w H h a o
end
def dN.lt (x:dN P w H h a o):a<h.objs.size:=by
 cases o with
 |lst xs=>obtain⟨_,_,_,_,e⟩:=x;exact t8 e
 |tup xs=>obtain⟨_,_,_,p⟩:=x;exact p.1.lt
 |dK kvs=>obtain⟨_,_,_,_,o,_,_,e,_⟩:=x;exact t8 e
 |dT kvs=>obtain⟨_,_,_,_,o,_,_,e,_⟩:=x;exact t8 e
 |set S n=>obtain⟨o,_,_,_,e,_⟩:=x;exact t8 e
 |ins C dx fs=>obtain⟨_,_,_,e,_⟩:=x;exact t8 e
 |own y=>obtain⟨_,e⟩:=x;exact t8 e
 |xd fs=>obtain⟨_,⟨_,_,_,e,_⟩,_⟩:=x;exact t8 e
 |rng lo hi=>obtain⟨_,_,_,e⟩:=x;exact t8 e
 |frz ob u=>obtain⟨e,_⟩:=x;exact t8 e
 |tbl ps=>exact t8 (show h.get? a=some _ from x)
 |tab q=>obtain⟨_,e,_⟩:=x;exact t8 e
 |met f y=>exact t8 (show h.get? a=some _ from x)
 |ext φ=>obtain⟨_,⟨_,e⟩,_⟩:=x;exact t8 e
theorem Paired.bA3 {α β:Type}{F G:α->β->Prop}:∀{l₁:List α} {l₂:List β},Paired F l₁ l₂->(∀a b,F a b->G a b)->Paired G l₁ l₂
 |_,_,.nil,_=>.nil
 |_,_,.cons r t,f=>.cons (f _ _ r) (Paired.bA3 t f)
def dN.stay (x:dN P w H h a o)(k:∀b u,(b=a\/H b=some (.own a))->h.get? b=some u->h'.get? b=some u)
  (ho:∀b,H b=some (.own a)->H' b=some (.own a)) (J:∀b xs,H b=some (.tup xs)->H' b=some (.tup xs)):dN P w H' h' a o:=by
 induction o with
 |lst xs=>obtain⟨z,l,n,r,e⟩:=x;exact⟨z,l,n,r,k _ _ (.inl rfl) e⟩
 |tup xs=>obtain⟨z,l,r,p⟩:=x;exact⟨z,l,r,p.keep λo e=>k _ _ (.inl rfl) e⟩
 |dK kvs=>obtain⟨z,y,B,r,j,g,i,e,c⟩:=x;exact⟨z,y,B,r,j,g,i,k _ _ (.inl rfl) e,c⟩
 |dT kvs=>obtain⟨z,y,xs,r,j,g,i,e,c⟩:=x;exact⟨z,y,xs,Paired.bA3 r λp q z=>⟨z.1,J _ _ z.2.1,z.2.2⟩,j,g,i,k _ _ (.inl rfl) e,c⟩
 |set S n=>obtain⟨j,g,i,t,e,c⟩:=x;exact⟨j,g,i,t,k _ _ (.inl rfl) e,c⟩
 |ins C dx fs=>obtain⟨d,z,F,e,A,⟨D,g,i,G,c⟩,r⟩:=x;exact⟨ho _ d,z,F,k _ _ (.inl rfl) e,A,⟨D,g,i,k _ _ (.inr d) G,c⟩,r⟩
 |own y=>obtain⟨j,e⟩:=x;exact⟨j,k _ _ (.inl rfl) e⟩
 |xd fs=>obtain⟨A,⟨D,g,i,e,c⟩,r⟩:=x;exact⟨A,⟨D,g,i,k _ _ (.inl rfl) e,c⟩,r⟩
 |rng lo hi=>obtain⟨t,u,v,e⟩:=x;exact⟨t,u,v,k _ _ (.inl rfl) e⟩
 |frz j u ih=>obtain⟨e,q⟩:=x;exact⟨k _ _ (.inl rfl) e,ih q⟩
 |tab q=>obtain⟨m,e,t,c⟩:=x;exact⟨m,k _ _ (.inl rfl) e,t,λs I q=>let ⟨c',oc,B,tk,a1,a2,a3,a4⟩:=c s I q;⟨c',oc,B,tk,a1,ho _ a2,k _ _ (.inr a2) a3,a4⟩⟩
 |tbl m=>have e:h.get? a=some { cls:=.none,data:=.fields m }:=x;show h'.get? a=some { cls:=.none,data:=.fields m };exact k a _ (.inl rfl) e
 |met f y=>have e:h.get? a=some (PySem.W.methodObj (.ref f) (.ref y)):=x;show h'.get? a=some (PySem.W.methodObj (.ref f) (.ref y));exact k a _ (.inl rfl) e
 |ext φ=>obtain⟨p,⟨o,e⟩,E⟩:=x;exact⟨E _ _ p λo q=>k _ _ (.inl rfl) q,⟨o,k _ _ (.inl rfl) e⟩,E⟩
def HOk.lt (x:HOk P w H h)(e:H a=some o):a<h.objs.size:=(x a o e).lt
def HOk.fresh (x:HOk P w H h)(e:h.objs.size<=a):H a=none:=by
 cases q:H a with
 |none=>rfl
 |some u=>exact absurd (bAB (x.lt q) e) (bBN _)
def HOk.kept (x:HOk P w H h)(k:∀b u,h.get? b=some u->h'.get? b=some u):HOk P w H h':=λa o e=>
 (x a o e).stay (λb u _ q=>k b u q) (λ_ q=>q) λ_ _ q=>q
def HOk.laid (x:HOk P w H h)(k:∀b u,h.get? b=some u->h'.get? b=some u)(i:h.objs.size<=a)(g:dN P w (upd H a o) h' a o):HOk P w (upd H a o) h':=λb u e=>by
 have d:=x.fresh i;by_cases f:b=a
 ·subst f;rw[aG] at e;cases e;exact g
 ·rw[aQ f] at e;exact (x b u e).stay (λc v _ q=>k c v q) (λc q=>by rw[aQ (aL q d)];exact q) λc j q=>by rw[aQ (aL q d)];exact q
def Rd (H:Hp)(a:Addr)(u:HO):Prop:=H a=some u\/∃o,H a=some (.frz o u)
def Rd.ok (r:Rd H a u)(x:HOk P w H h):dN P w H h a u:=by
 rcases r with r|⟨o,r⟩
 ·exact x a u r
 ·obtain⟨_,q⟩:=x a _ r;exact q
def Mut:Option HO->Prop
 |some (.lst _)=>True
 |some (.dK _)=>True
 |some (.dT _)=>True
 |some (.set _ _)=>True
 |some (.ins _ _ _)=>True
 |some (.ext _)=>True
 |some (.tab _)=>True
 |_=>False
def HOk.write (s:HOk P w H h)(j:Mut (H x))(m:e=x\/H e=some (.own x))(k:∀b u,b≠e->h.get? b=some u->h'.get? b=some u)(n:∃u,h'.get? e=some u)
  (p:dN P w (upd H x o') h' x o'):HOk P w (upd H x o') h':=λb u q=>by
 have d:∀c y,H c=some (.own y)->c≠x:=λc y r z=>by subst z;rw[r] at j;exact j
 have f:∀c i,H c=some (.tup i)->c≠x:=λc i r z=>by subst z;rw[r] at j;exact j
 by_cases g:b=x
 ·subst g;rw[aG] at q;cases q;exact p
 ·rw[aQ g] at q;by_cases a:b=e
  ·have l:H b=some (.own x):=by
    rcases m with z|z
    ·exact absurd (a.trans z) g
    ·rw[a];exact z
   rw[q] at l;cases l;obtain⟨v,o⟩:=n;exact⟨v,by rw[a];exact o⟩
  ·refine (s b u q).stay (λc v hc r=>k c v ?_ r) (λc r=>by rw[aQ (d c b r)];exact r) λc i r=>by rw[aQ (f c i r)];exact r
   rcases hc with rfl|hc
   ·exact a
   ·rintro rfl;rcases m with z|z
    ·exact d c b hc z
    ·rw[hc] at z;cases z;exact g rfl
structure Un (fs ex:List Addr)(H H':Hp)(h h':Heap):Prop where
 keep:∀b o,h.get? b=some o->H b=none->b∉fs->b∉ex->h'.get? b=some o
 slot:∀b o,h.get? b=some o->H b=none->b∈fs->b∉ex->∃sl,h'.get? b=some { o with slots:=sl }
 free:∀b o,h.get? b=some o->H b=none->b∉ex->H' b=none
 there:∀b o,h.get? b=some o->b∉ex->∃o',h'.get? b=some o'
 tups:∀b xs,H b=some (.tup xs)->H' b=some (.tup xs)
 frzs:∀b o u,H b=some (.frz o u)->H' b=some (.frz o u)
 tbls:∀b ps,H b=some (.tbl ps)->∃more,H' b=some (.tbl (ps++more))
def Un.any (u:Un fs ex H H1 h h1)(q:h.get? b=some ob)(n:H b=none)(c:b∉ex):∃sl,h1.get? b=some { ob with slots:=sl }:=by
 by_cases a:b∈fs
 ·exact u.slot b ob q n a c
 ·exact⟨ob.slots,u.keep b ob q n a c⟩
def Un.kept (k:∀b u,h.get? b=some u->h'.get? b=some u):Un fs ex H H h h':=
 ⟨λb a q _ _ _=>k b a q,λb a q _ _ _=>⟨a.slots,k b a q⟩,λ_ _ _ n _=>n,λb a q _=>⟨a,k b a q⟩,λ_ _ q=>q,λ_ _ _ q=>q,λ_ c q=>⟨#[],by rw[q];simp⟩⟩
def Un.refl:Un fs ex H H h h:=Un.kept λ_ _ q=>q
def Un.laid (k:∀b u,h.get? b=some u->h'.get? b=some u)(e:h.objs.size<=a)(c:H a=none):Un fs ex H (upd H a o) h h' where
 keep:=λb u q _ _ _=>k b u q
 slot:=λb u q _ _ _=>⟨u.slots,k b u q⟩
 free:=λb u q n _=>by rw[aQ (z9 (bAB (t8 q) e))];exact n
 there:=λb u q _=>⟨u,k b u q⟩
 tups:=λb d q=>by rw[aQ (aL q c)];exact q
 frzs:=λb u d q=>by rw[aQ (aL q c)];exact q
 tbls:=λb f q=>⟨#[],by rw[aQ (aL q c),q];simp⟩
def Un.write (c:Mut (H x))(m:e=x\/H e=some (.own x))(k:∀b u,b≠e->h.get? b=some u->h'.get? b=some u)(j:∃u,h'.get? e=some u):Un fs ex H (upd H x o) h h':=by
 have g:∀b,H b=none->b≠x:=λb n z=>by subst z;rw[n] at c;exact c
 have f:∀b,H b=none->b≠e:=λb n z=>by
  subst z;rcases m with r|r
  ·exact g b n r
  ·rw[n] at r;cases r
 have d:∀b u,H b=some u->¬ Mut (some u)->b≠x:=λb u q nm z=>by subst z;rw[q] at c;exact nm c
 refine⟨λb u q n _ _=>k b u (f b n) q,λb u q n _ _=>⟨u.slots,k b u (f b n) q⟩,λb u q n _=>by rw[aQ (g b n)];exact n,λb u q _=>?_,
  λb i q=>by rw[aQ (d b _ q λz=>z)];exact q,λb u i q=>by rw[aQ (d b _ q λz=>z)];exact q,λb l q=>⟨#[],by rw[aQ (d b _ q λz=>z),q];simp⟩⟩
 by_cases a:b=e
 ·subst a;exact j
 ·exact⟨u,k b u a q⟩
def trk (h:Heap)(H:Hp):List Addr:=(List.range h.objs.size).filter λa=>(H a).isSome
def aD7 (h:Heap)(H:Hp):Heap:=PySem.W.hideAll h (trk h H)
def aSt (h:Heap)(H:Hp):(aD7 h H).objs.size=h.objs.size:=PySem.W.hideAll_size _ _
def aWi (e:h.get? b=some o)(n:H b=none):(aD7 h H).get? b=some o:=
 PySem.W.hideAll_get _ e λa=>by have q:=(List.mem_filter.mp a).2;rw[n] at q;simp at q
def aX6 (e:(aD7 h H).get? b=some o):h.get? b=some o/\H b=none:=by
 have a:=PySem.W.of_hideAll (trk h H) e;refine⟨a,?_⟩;cases q:H b with
 |none=>rfl
 |some x=>have c:b∈trk h H:=List.mem_filter.mpr ⟨List.mem_range.mpr (t8 a),by simp[q]⟩;have z:(aD7 h H).get? b=none:=PySem.W.hideAll_none (trk h H) c;rw[z] at e;cases e
structure Mod (K:bFZ)(mg:bF2)(base:Heap):Prop where
 kin:K.In base
 glob:base.Ns mainGlobals mg
 blt:∃mb,base.Ns builtinsNs mb/\∀x:Str,x≠"__name__"->mb x=bootBuiltins x
 nolimit:base.NoLimit
structure Cx where
 prog:Program
 w:World
 K:bFZ
 mg:bF2
 base:Heap
 A:Around
 N:List Str
 s₀:Shared
 H₀:Hp
 env:Env
 outer:List Env
 stack:List Env
 ex:List Addr
 fn:Str->Bool
 calm:Bool
 pn:bF1
 xe:bF0
def frs (l:List Env):List Addr:=l.filterMap (·.frame)
abbrev Cx.fs (X:Cx):List Addr:=frs X.outer
def Vis (sc:Scope)(x:Str):Prop:=sc.names.lookup x=some .local\/sc.names.lookup x=some .cell\/sc.names.lookup x=some .free
def Loc (sc:Scope)(x:Str):Prop:=sc.names.lookup x=some .local\/sc.names.lookup x=some .cell
def Look (env:Env)(h:Heap)(m:bF2)(x:Str)(u:Value):Prop:=
 (env.kindOf x=some .local/\m x=some u)\/((env.kindOf x=some .cell\/env.kindOf x=some .free)/\∃c,env.cells.lookup x=some c/\h.IsCell c (some u))
structure Cx.Ok (X:Cx):Prop where
 mod:Mod X.K X.mg X.base
 kind:X.env.scope.kind=.function
 glob:X.env.globals=mainGlobals
 blt:X.env.builtins=builtinsNs
 above:X.s₀.heap.objs.size<=X.env.locals
 inj:∀x y c,X.env.cells.lookup x=some c->X.env.cells.lookup y=some c->x=y
 has:∀x,(X.env.kindOf x=some .cell\/X.env.kindOf x=some .free)->∃c,X.env.cells.lookup x=some c
 cab:∀x c,X.fn x=true->X.env.cells.lookup x=some c->X.s₀.heap.objs.size<=c
 hd:X.calm=true->X.A.handled=none
 frames:X.A.frames=some X.stack
 stk:X.stack=X.outer\/(X.stack=X.env::X.outer/\X.env.frame=some X.env.locals)
 exf:∀b∈X.ex,b≠X.env.locals/\∀x c,X.env.cells.lookup x=some c->c≠b
 bs:∀b o,X.base.get? b=some o->X.s₀.heap.get? b=some o/\X.H₀ b=none
 bsz:X.base.objs.size<=X.s₀.heap.objs.size
 noex:∀b o,X.base.get? b=some o->b∉X.ex
 exfs:∀b∈X.ex,b∉X.fs
 funs:X.s₀.heap.FunFrames X.base X.outer
 frf:∀b∈X.fs,X.H₀ b=none
structure Inv (X:Cx)(bF3:bF1)(σ:List (Option V))(H:Hp)(s:Shared):Prop where
 ok:X.Ok
 os:s.os=X.s₀.os
 bare:AllBare s.gens
 base:Un X.fs X.ex X.H₀ H X.s₀.heap s.heap
 loc:∃m,s.heap.Ns X.env.locals m/\∀(i:Nat) (x:Str) (v:V),X.N[i]?=some x->σ[i]?=some (some v)->Vis X.env.scope x->∃u,RelV v u/\Look X.env s.heap m x u
 cell:∀x c,X.env.cells.lookup x=some c->∃v,s.heap.IsCell c v
 free:H X.env.locals=none
 freeC:∀x c,X.env.cells.lookup x=some c->H c=none
 pin:∀p∈X.pn++bF3,s.heap.get? p.1=some p.2/\H p.1=none/\p.1≠X.env.locals/\p.1∉X.fs/\∀v,p.2.data≠.cell v
 hok:HOk X.prog X.w H s.heap
 len:σ.length=X.N.length
section
variable {X:Cx}{bF3:bF1}{σ:List (Option V)}{H H':Hp}{s:Shared}{h':Heap}
def Cx.Ok.nofr (c:X.Ok)(e:X.base.get? b=some o):b∉X.fs:=λa=>by have:=(c.funs.mem a).1;rw[e] at this;cases this
def Inv.bs (I:Inv X bF3 σ H s):∀b o,X.base.get? b=some o->s.heap.get? b=some o/\H b=none:=λb o e=>
 ⟨I.base.keep b o (I.ok.bs b o e).1 (I.ok.bs b o e).2 (I.ok.nofr e) (I.ok.noex b o e),I.base.free b o (I.ok.bs b o e).1 (I.ok.bs b o e).2 (I.ok.noex b o e)⟩
def Inv.bk (I:Inv X bF3 σ H s):∀b o,X.base.get? b=some o->s.heap.get? b=some o:=λb o e=>(I.bs b o e).1
def Inv.mod (I:Inv X bF3 σ H s):Mod X.K X.mg X.base:=I.ok.mod
def Inv.kIn (I:Inv X bF3 σ H s):X.K.In s.heap:=I.ok.mod.kin.keeps I.bk
def Inv.nolimit (I:Inv X bF3 σ H s):s.heap.NoLimit:=I.ok.mod.nolimit.keeps I.bk
def Inv.lt (I:Inv X bF3 σ H s):X.env.locals<s.heap.objs.size:=let ⟨_,hn,_⟩:=I.loc;hn.lt
def Inv.sz (I:Inv X bF3 σ H s):X.s₀.heap.objs.size<=s.heap.objs.size:=bAI I.ok.above (bDI I.lt)
def Inv.nofs (I:Inv X bF3 σ H s)(h:s.heap.objs.size<=a):a∉X.fs:=λb=>by obtain⟨_,o,c,_⟩:=I.ok.funs.mem b;exact absurd (bAB (t8 c) (bAI I.sz h)) (bBN _)
def Inv.cne (I:Inv X bF3 σ H s):∀x c,X.env.cells.lookup x=some c->c≠X.env.locals:=λx c e z=>by obtain⟨v,o,d,hd⟩:=I.cell x c e;obtain⟨m,⟨g,f,h,a,b,_⟩,_⟩:=I.loc;rw[z,a] at d;cases d;rw[b] at hd;cases hd
def Inv.funs (I:Inv X bF3 σ H s):s.heap.FunFrames X.base X.outer:=by
 have f:∀l,(∀b∈frs l,b∈X.fs)->X.s₀.heap.FunFrames X.base l->s.heap.FunFrames X.base l:=by
  intro l
  induction l with
  |nil=>intro _ _;trivial
  |cons env r ih=>intro g j;obtain⟨i,⟨L,o,d,h,m,hd⟩,k⟩:=j;have a:=g L (by unfold frs;rw[bCH,d];exact j5);obtain⟨n,e⟩:=I.base.slot L o m (I.ok.frf L a) a λz=>I.ok.exfs L z a;exact⟨i,⟨L,_,d,h,e,hd⟩,ih (λb c=>g b (by unfold frs;rw[bCH,d];exact j7 _ c)) k⟩
 exact f X.outer (λ_ c=>c) I.ok.funs
def Inv.stack (I:Inv X bF3 σ H s):s.heap.FunFrames X.base X.stack:=by
 rcases I.ok.stk with e|⟨e,a⟩
 ·rw[e];exact I.funs
 ·rw[e];obtain⟨m,b,_⟩:=I.loc;refine .cons (by rw[I.ok.kind];decide) a b ?_ I.funs;exact Heap.get?_none_of_le (bAI I.ok.bsz I.ok.above)
def Inv.aGt (I:Inv X bF3 σ H s):∀b∈frs X.stack,b∈X.env.locals::X.fs:=λb a=>by
 rcases I.ok.stk with e|⟨e,c⟩
 ·rw[e] at a;exact j7 _ a
 ·rw[e] at a;unfold frs at a;rw[bCH,c] at a;exact a
def Inv.yL (I:Inv X bF3 σ H s):∀b∈frs X.stack,H b=none:=λb hb=>by
 rcases List.mem_cons.mp (I.aGt b hb) with e|hb
 ·rw[e];exact I.free
 ·obtain⟨_,o,a,_⟩:=I.ok.funs.mem hb;exact I.base.free b o a (I.ok.frf b hb) λz=>I.ok.exfs b z hb
def Inv.step {g':Array GenState}{t':Nat}{d':Drawn}{ch:List Addr}(I:Inv X bF3 σ H s)
  (t:∀b∈ch,(b∈X.ex\/X.s₀.heap.objs.size<=b)/\b≠X.env.locals/\(∀x c,X.env.cells.lookup x=some c->c≠b)/\∀p∈X.pn++bF3,p.1≠b)
  (A:∀b o,b≠X.env.locals->b∉X.fs->b∉ch->s.heap.get? b=some o->H b=none->h'.get? b=some o)
  (slot:∀b o,b≠X.env.locals->b∈X.fs->b∉ch->s.heap.get? b=some o->H b=none->∃sl,h'.get? b=some { o with slots:=sl }) (f:∀b o,b∉ch->s.heap.get? b=some o->H b=none->H' b=none)
  (F:∀b o,b∉ch->s.heap.get? b=some o->∃o',h'.get? b=some o')
  (M:∀b xs,H b=some (.tup xs)->H' b=some (.tup xs)) (O:∀b o u,H b=some (.frz o u)->H' b=some (.frz o u)) (K:∀b ps,H b=some (.tbl ps)->∃more,H' b=some (.tbl (ps++more)))
  (Y:∀m,s.heap.Ns X.env.locals m->h'.Ns X.env.locals m) (Q:HOk X.prog X.w H' h') (W:AllBare g') :
  Inv X bF3 σ H' { s with heap:=h',gens:=g',drawn:=d',toks:=t' }:=by
 have D:∀b o,X.s₀.heap.get? b=some o->b≠X.env.locals:=λb o e=>z9 (bAB (t8 e) I.ok.above);have y:∀b o,X.s₀.heap.get? b=some o->b∉X.ex->b∉ch:=λb o e a B=>by
  rcases (t b B).1 with z|z
  ·exact a z
  ·exact absurd (bAB (t8 e) z) (bBN _)
 have g:∀x c,X.env.cells.lookup x=some c->∀v,s.heap.IsCell c v->h'.IsCell c v:=λx c e v ⟨o,C,hd⟩=>by
  have h:c∉ch:=λz=>(t c z).2.2.1 x c e rfl;by_cases J:c∈X.fs
  ·obtain⟨sl,q⟩:=slot c o (I.cne x c e) J h C (I.freeC x c e);exact⟨_,q,hd⟩
  ·exact⟨o,A c o (I.cne x c e) J h C (I.freeC x c e),hd⟩
 refine⟨I.ok,I.os,W,⟨λb o e n B a=>?_,λb o e n B a=>?_,λb o e n a=>?_,λb o e a=>?_,λb xs e=>M b xs (I.base.tups b xs e),λb o xs e=>O b o xs (I.base.frzs b o xs e),λb ps e=>?_⟩,?_,λx c e=>?_,?_,λx c e=>?_,λp P=>?_,Q,I.len⟩
 ·exact A b o (D b o e) B (y b o e a) (I.base.keep b o e n B a) (I.base.free b o e n a)
 ·obtain⟨sl,j⟩:=I.base.slot b o e n B a;obtain⟨G,E⟩:=slot b _ (D b o e) B (y b o e a) j (I.base.free b o e n a);exact⟨G,E⟩
 ·obtain⟨o',j⟩:=I.base.there b o e a;exact f b o' (y b o e a) j (I.base.free b o e n a)
 ·obtain⟨o',j⟩:=I.base.there b o e a;exact F b o' (y b o e a) j
 ·obtain⟨T,j⟩:=I.base.tbls b ps e;obtain⟨U,E⟩:=K b _ j;exact⟨T++U,by rw[E,Array.append_assoc]⟩
 ·obtain⟨m,R,V⟩:=I.loc;refine⟨m,Y m R,λi x v j E S=>?_⟩;obtain⟨u,r,l⟩:=V i x v j E S;refine⟨u,r,?_⟩;rcases l with l|⟨k,c,e,z⟩
  ·exact .inl l
  ·exact .inr ⟨k,c,e,g x c e _ z⟩
 ·obtain⟨v,z⟩:=I.cell x c e;exact⟨v,g x c e v z⟩
 ·obtain⟨m,⟨o,_,_,C,_⟩,_⟩:=I.loc;exact f _ o (λz=>(t _ z).2.1 rfl) C I.free
 ·obtain⟨v,o,C,hd⟩:=I.cell x c e;exact f c o (λz=>(t c z).2.2.1 x c e rfl) C (I.freeC x c e)
 ·obtain⟨e,n,N,L,d⟩:=I.pin p P;have h:p.1∉ch:=λz=>(t p.1 z).2.2.2 p P rfl;exact⟨A p.1 p.2 N L h e n,f p.1 p.2 h e n,N,L,d⟩
def Inv.un (I:Inv X bF3 σ H s)(u:Un X.fs [] H H' s.heap h')(h:HOk X.prog X.w H' h'):Inv X bF3 σ H' { s with heap:=h',toks:=t' }:=by
 obtain⟨m,⟨o,p,t,g,r⟩,_⟩:=id I.loc;obtain⟨l,i⟩:=u.any g I.free (by simp);exact I.step (g':=s.gens) (d':=s.drawn) (ch:=[]) (λ_ z=>nomatch z) (λb o _ c _ e n=>u.keep b o e n c (by simp)) (λb o _ c _ e n=>u.slot b o e n c (by simp)) (λb o _ e n=>u.free b o e n (by simp)) (λb o _ e=>u.there b o e (by simp)) u.tups u.frzs u.tbls (λv j=>by obtain⟨q,f,d,a,k⟩:=j;rw[g] at a;cases a;exact⟨_,f,d,i,k⟩) h I.bare
def Inv.call (I:Inv X bF3 σ H s)(u:Un (frs X.stack) ch H H' s.heap h')(k:HOk X.prog X.w H' h')(A:AllBare g')
  (f:∀b∈ch,(b∈X.ex\/X.s₀.heap.objs.size<=b)/\b≠X.env.locals/\(∀x c,X.env.cells.lookup x=some c->c≠b)/\∀p∈X.pn++bF3,p.1≠b) :
  Inv X bF3 σ H' { s with heap:=h',gens:=g',drawn:=d',toks:=t' }:=by
 obtain⟨m,⟨o,y,C,j,r⟩,_⟩:=id I.loc;obtain⟨v,g⟩:=u.any j I.free λz=>(f _ z).2.1 rfl;exact I.step (ch:=ch) f (λb o g l a e n=>u.keep b o e n (λz=>(List.mem_cons.mp (I.aGt b z)).elim g l) a) (λb o _ _ a e n=>u.any e n a) (λb o a e n=>u.free b o e n a) (λb o a e=>u.there b o e a) u.tups u.frzs u.tbls (λD q=>by obtain⟨B,i,h,d,t⟩:=q;rw[j] at d;cases d;exact⟨_,i,h,g,t⟩) k A
def Inv.turned (I:Inv X bF3 σ H s)(k:∀b o,b≠it->s.heap.get? b=some o->h'.get? b=some o)(t:H it=none)(g:it≠X.env.locals)
  (A:it∈X.ex\/X.s₀.heap.objs.size<=it) (y:∀x c,X.env.cells.lookup x=some c->c≠it) (w:∀p∈X.pn++bF3,p.1≠it):Inv X bF3 σ H { s with heap:=h',toks:=t' }:=by
 have d:∀b u,H b=some u->b≠it:=λb u e z=>by rw[z,t] at e;cases e
 refine I.step (g':=s.gens) (d':=s.drawn) (ch:=[it]) (λb h=>?_) (λb o _ _ a e _=>k b o (λz=>a (by simp[z])) e) (λb o _ _ a e _=>⟨o.slots,k b o (λz=>a (by simp[z])) e⟩) (λ_ _ _ _ n=>n)
  (λb o a e=>⟨o,k b o (λz=>a (by simp[z])) e⟩) (λ_ _ e=>e) (λ_ _ _ e=>e) (λb B e=>⟨#[],by rw[e];simp⟩) (λm l=>?_) (λb u e=>?_) I.bare
 ·have e:b=it:=by simpa using h
  subst e;exact⟨A,g,y,w⟩
 ·obtain⟨o,f,i,j,r⟩:=l;exact⟨o,f,i,k _ o (Ne.symm g) j,r⟩
 ·refine (I.hok b u e).stay (λc v a q=>k c v ?_ q) (λ_ q=>q) λ_ _ q=>q;rcases a with z|z
  ·rw[z];exact d b u e
  ·exact d c _ z
def Inv.tok (I:Inv X bF3 σ H s)(t:Nat):Inv X bF3 σ H { s with toks:=t }:=I.un (h':=s.heap) (t':=t) Un.refl I.hok
def Inv.kept (I:Inv X bF3 σ H s)(k:∀b u,s.heap.get? b=some u->h'.get? b=some u):Inv X bF3 σ H { s with heap:=h',toks:=t' }:=I.un (Un.kept k) (I.hok.kept k)
def Inv.laid (I:Inv X bF3 σ H s)(k:∀b u,s.heap.get? b=some u->h'.get? b=some u)(c:s.heap.objs.size<=a)(d:dN X.prog X.w (upd H a o) h' a o) :
  Inv X bF3 σ (upd H a o) { s with heap:=h',toks:=t' }:=I.un (Un.laid k c (I.hok.fresh c)) (I.hok.laid k c d)
def Inv.write (I:Inv X bF3 σ H s)(c:Mut (H x))(f:e=x\/H e=some (.own x))(k:∀b u,b≠e->s.heap.get? b=some u->h'.get? b=some u)(a:∃u,h'.get? e=some u)
  (d:dN X.prog X.w (upd H x o) h' x o):Inv X bF3 σ (upd H x o) { s with heap:=h',toks:=t' }:=I.un (Un.write c f k a) (I.hok.write c f k a d)
def Inv.aPu (I:Inv X bF3 σ H s)(h:∀p∈pins',s.heap.get? p.1=some p.2/\H p.1=none/\p.1≠X.env.locals/\p.1∉X.fs/\∀v,p.2.data≠.cell v):Inv X pins' σ H s:=
 ⟨I.ok,I.os,I.bare,I.base,I.loc,I.cell,I.free,I.freeC,λp a=>(List.mem_append.mp a).elim (λz=>I.pin p (bBF _ z)) (h p),I.hok,I.len⟩
def aLp {N:List Str}(f:N.Nodup){i j:Nat}{x:Str}(a:N[i]?=some x)(b:N[j]?=some x):i=j:=by obtain⟨e,c⟩:=List.getElem?_eq_some_iff.mp a;obtain⟨g,d⟩:=List.getElem?_eq_some_iff.mp b;exact (List.getElem_inj f).mp (c.trans d.symm)
def aFc {M:Model}{A:Around}{E:bF0}{i:Nat}{x:Str}{v:V}{u:Value}{Q:Unit->Shared->Prop}(I:Inv X bF3 σ H s)(hN:X.N.Nodup)(hi:X.N[i]?=some x)(t:Loc X.env.scope x)(r:RelV v u)
  (h:∀s',Inv X bF3 (σ.set i (some v)) H s'->(∃a,Heap.SameBut a s.heap s'.heap/\(a=X.env.locals\/X.env.cells.lookup x=some a))->Q () s') (hf:X.fn x=true\/X.env.scope.names.lookup x=some .local:=by first|exact .inl rfl|exact .inr rfl|assumption):wpAny M A (storeName X.env x u) Q E s:=by
 obtain⟨m,Z,hl⟩:=id I.loc;have P:(X.env.scope.kind == .class || (X.env.scope.kind == .module && X.env.locals != X.env.globals))=false:=by rw[I.ok.kind];rfl
 have L:i<σ.length:=by rw[I.len];exact (List.getElem?_eq_some_iff.mp hi).1
 have D:=I.cne;have l:∀{a:Addr} {K:Heap},(∃o,s.heap.get? a=some o/\H a=none)->Heap.SameBut a s.heap K->HOk X.prog X.w H K:=λ{a K} ha f b ob e=>by
  obtain⟨_,_,B⟩:=ha;refine (I.hok b ob e).stay (λc U hc q=>(f.2 c ?_).trans q) (λ_ q=>q) λ_ _ q=>q;rintro rfl;rcases hc with rfl|hc
  ·rw[B] at e;cases e
  ·rw[B] at hc;cases hc
 rcases t with hk|hk
 ·refine wpAny_storeName_local hk Z (λK a0 f=>?_) P;obtain⟨oL,_,_,a1,_⟩:=id Z;refine h _ ⟨I.ok,I.os,I.bare,⟨λb o e n G t=>?_,λb o e n G t=>?_,I.base.free,λb o e t=>?_,I.base.tups,I.base.frzs,I.base.tbls⟩,⟨_,a0,λj y v' g C e3=>?_⟩,λy c e=>?_,I.free,I.freeC,λp hp=>?_,l ⟨oL,a1,I.free⟩ f,by simpa using I.len⟩ ⟨_,f,.inl rfl⟩
  ·exact (f.2 b (z9 (bAB (t8 e) I.ok.above))).trans (I.base.keep b o e n G t)
  ·obtain⟨sl,g⟩:=I.base.slot b o e n G t;exact⟨sl,(f.2 b (z9 (bAB (t8 e) I.ok.above))).trans g⟩
  ·obtain⟨o',g⟩:=I.base.there b o e t;exact⟨o',(f.2 b (z9 (bAB (t8 e) I.ok.above))).trans g⟩
  ·by_cases J:j=i
   ·subst J;rw[hi] at g;cases g;rw[bEL L] at C;cases C;exact⟨u,r,.inl ⟨hk,by simp⟩⟩
   ·rw[List.getElem?_set_ne (Ne.symm J)] at C;obtain⟨u',r',q⟩:=hl j y v' g C e3;refine⟨u',r',?_⟩;rcases q with⟨k,e⟩|⟨k,c,e,z⟩
    ·refine .inl ⟨k,?_⟩;have:y≠x:=λe=>J (aLp hN g (e ▸ hi));simp[this,e]
    ·exact .inr ⟨k,c,e,z.sameBut f (D y c e)⟩
  ·obtain⟨U,z⟩:=I.cell y c e;exact⟨U,z.sameBut f (D y c e)⟩
  ·obtain⟨e,n,Y,nf,d⟩:=I.pin p hp;exact⟨(f.2 p.1 Y).trans e,n,Y,nf,d⟩
 ·have F:X.fn x=true:=by
   rcases hf with z|z
   ·exact z
   ·rw[z] at hk;cases hk
  obtain⟨c,hc⟩:=I.ok.has x (.inl hk);obtain⟨U,z⟩:=I.cell x c hc;refine wpAny_storeName_cell I.ok.kind hk hc z (λK R f=>?_);obtain⟨oc,O,S⟩:=id z;refine h { s with heap:=K } ⟨I.ok,I.os,I.bare,⟨λb o e n G t=>?_,λb o e n G t=>?_,I.base.free,λb o e t=>?_,I.base.tups,I.base.frzs,I.base.tbls⟩,⟨m,Z.sameBut f (Ne.symm (D x c hc)),λj y v' g C e3=>?_⟩,λy W e=>?_,I.free,I.freeC,λp hp=>?_,l ⟨oc,O,I.freeC x c hc⟩ f,by simpa using I.len⟩ ⟨c,f,.inr hc⟩
  ·exact (f.2 b (z9 (bAB (t8 e) (I.ok.cab x c F hc)))).trans (I.base.keep b o e n G t)
  ·obtain⟨sl,g⟩:=I.base.slot b o e n G t;exact⟨sl,(f.2 b (z9 (bAB (t8 e) (I.ok.cab x c F hc)))).trans g⟩
  ·obtain⟨o',g⟩:=I.base.there b o e t;exact⟨o',(f.2 b (z9 (bAB (t8 e) (I.ok.cab x c F hc)))).trans g⟩
  ·by_cases J:j=i
   ·subst J;rw[hi] at g;cases g;rw[bEL L] at C;cases C;exact⟨u,r,.inr ⟨.inl hk,c,hc,R⟩⟩
   ·rw[List.getElem?_set_ne (Ne.symm J)] at C;obtain⟨u',r',q⟩:=hl j y v' g C e3;refine⟨u',r',?_⟩;rcases q with q|⟨k,W,e,z'⟩
    ·exact .inl q
    ·refine .inr ⟨k,W,e,z'.sameBut f ?_⟩;rintro rfl;exact J (aLp hN g (I.ok.inj _ _ _ e hc ▸ hi))
  ·by_cases T:W=c
   ·subst T;exact⟨_,R⟩
   ·obtain⟨w2,z2⟩:=I.cell y W e;exact⟨w2,z2.sameBut f T⟩
  ·obtain⟨e,n,Y,nf,d⟩:=I.pin p hp;refine⟨(f.2 p.1 ?_).trans e,n,Y,nf,d⟩;intro q;rw[q,O] at e;have q':=bAM e;exact d U (by rw[<-q'];exact S)
def aMm (I:Inv X bF3 σ H s)(b:X.N.Nodup)(hi:X.N[i]?=some x)(d:Loc X.env.scope x)(r:RelV v u)
  (h:∀s',Inv X bF3 (σ.set i (some v)) H s'->Q () s') (c:X.fn x=true\/X.env.scope.names.lookup x=some .local:=by first|exact .inl rfl|exact .inr rfl|assumption):wpAny M A (storeName X.env x u) Q E s:=
 aFc I b hi d r (λs' a _=>h s' a) c
def Inv.call' (I:Inv X bF3 σ H s)(ho:s'.os=s.os)(u:Un (frs X.stack) ch H H' s.heap s'.heap)(a:HOk X.prog X.w H' s'.heap)(f:AllBare s'.gens)
  (d:∀b∈ch,(b∈X.ex\/X.s₀.heap.objs.size<=b)/\b≠X.env.locals/\(∀x c,X.env.cells.lookup x=some c->c≠b)/\∀p∈X.pn++bF3,p.1≠b):Inv X bF3 σ H' s':=by
 obtain⟨h,g',d',t',g⟩:=s';have e:=ho;subst e;exact I.call (g':=g') (t':=t') (d':=d') u a f d
end
abbrev XK:=Value->Option Addr->Hp->Prop
abbrev St:=List (Option V)
abbrev VK:=V->Hp->Prop
abbrev TE:=St->Hp->VK->Prop
abbrev TT:=St->Hp->(Bool->Hp->Prop)->Prop
abbrev TA:=St->Hp->(List V->Hp->Prop)->Prop
structure Ends where
 nx:St->Hp->Prop
 rt:VK
 bk:St->Hp->Prop:=λ_ _=>False
 ct:St->Hp->Prop:=λ_ _=>False
abbrev TS:=Ends->St->Hp->Prop
def EP (X:Cx)(bF3:bF1)(σ:St)(Q:VK)(u:Value)(s':Shared):Prop:=∃v H',Inv X bF3 σ H' s'/\RelV v u/\Q v H'
def TP (X:Cx)(bF3:bF1)(σ:St)(Q:Bool->Hp->Prop)(b:Bool)(s':Shared):Prop:=∃H',Inv X bF3 σ H' s'/\Q b H'
def AP (X:Cx)(bF3:bF1)(σ:St)(Q:List V->Hp->Prop)(us:List Value)(s':Shared):Prop:=∃vs H',Inv X bF3 σ H' s'/\Vals vs us/\Q vs H'
def SP (X:Cx)(bF3:bF1)(D:Ends)(f:Flow)(s':Shared):Prop:=
 match f with
 |.next=>∃σ' H',Inv X bF3 σ' H' s'/\D.nx σ' H'
 |.brk=>∃σ' H',Inv X bF3 σ' H' s'/\D.bk σ' H'
 |.cont=>∃σ' H',Inv X bF3 σ' H' s'/\D.ct σ' H'
 |.ret u=>∃v σ' H',Inv X bF3 σ' H' s'/\RelV v u/\D.rt v H'
def PE (X:Cx)(e:Expr)(t:TE):Prop:=
 ∀bF3 s σ H Q,Inv X bF3 σ H s->t σ H Q->wpAny (model X.prog X.w) X.A (eval e X.env) (EP X bF3 σ Q) X.xe s
def PT (X:Cx)(e:Expr)(t:TT):Prop:=
 ∀bF3 s σ H Q,Inv X bF3 σ H s->t σ H Q->wpAny (model X.prog X.w) X.A (isTrue e X.env (eval e X.env)) (TP X bF3 σ Q) X.xe s
def PW (X:Cx)(e:Expr)(t:TT):Prop:=
 ∀whole bF3 s σ H Q,Inv X bF3 σ H s->t σ H Q->wpAny (model X.prog X.w) X.A (isTrue e X.env whole) (TP X bF3 σ Q) X.xe s
def PW.pt (h:PW X e t):PT X e t:=h _
def PA (X:Cx)(es:List Expr)(t:TA):Prop:=
 ∀pos bF3 s σ H Q,Inv X bF3 σ H s->t σ H Q->wpAny (model X.prog X.w) X.A (spliced (backTo pos (starEach es X.env))) (AP X bF3 σ Q) X.xe s
def PS (X:Cx)(st:Stmt)(t:TS):Prop:=
 ∀bF3 s σ H D,Inv X bF3 σ H s->t D σ H->wpAny (model X.prog X.w) X.A (exec st X.env) (SP X bF3 D) X.xe s
def PSs (X:Cx)(st:List Stmt)(t:TS):Prop:=
 ∀bF3 s σ H D,Inv X bF3 σ H s->t D σ H->wpAny (model X.prog X.w) X.A (execs st X.env) (SP X bF3 D) X.xe s
def thn {α:Type}{t:Sem α}{Q Q':α->Shared->Prop}{M:Model}{A:Around}{E:bF0}{s:Shared}(h:wpAny M A t Q E s)(b:∀a s,Q a s->Q' a s):wpAny M A t Q' E s:=bBQ h b λ_ _ x=>x
def aKf (i:Nat):TE:=fun σ H Q=>∃v,σ[i]?=some (some v)/\Q v H
def tC (v:V):TE:=λ_ H Q=>Q v H
def bC2 (k:X.N[i]?=some x)(n:Vis X.env.scope x)(hd:(x == ("__debug__":Str))=false:=by decide)(g:(x == ("__classdict__":Str))=false:=by decide):PE X (.Name x pos) (aKf i):=by
 intro b s σ H Q I h;obtain⟨v,e,h⟩:=h;obtain⟨m,d,f⟩:=I.loc;obtain⟨u,r,l⟩:=f i x v k e n;have a:EP X b σ Q u s:=⟨v,H,I,r,h⟩;rcases l with⟨hk,j⟩|⟨hk,c,hc,hcell⟩
 ·exact wpAny_Name (wpAny_loadName_local I.ok.kind hk d j a) hd
 ·rcases hk with hk|hk
  ·exact wpAny_Name (wpAny_loadName_cell I.ok.kind hk hc hcell a) hd
  ·exact wpAny_Name (wpAny_loadName_free I.ok.kind hk hc hcell a g) hd
def bDa {i j pos}:PE X (.Constant (.int i) j pos) (tC (.int i)):=λ_ _ _ H _ I h=>wpAny_Constant_int ⟨.int i,H,I.tok _,⟨_,rfl⟩,h⟩
def bEs {b j pos}:PE X (.Constant (.bool b) j pos) (tC (.bl b)):=λ_ _ _ H _ I h=>Constant_bool ⟨.bl b,H,I,rfl,h⟩
def bAl {j pos}:PE X (.Constant .none j pos) (tC .non):=λ_ _ _ H _ I h=>Constant_none ⟨.non,H,I,rfl,h⟩
def bBm {x j pos}:PE X (.Constant (.str x) j pos) (tC (.str x)):=λ_ _ _ H _ I h=>Calls.Constant_str ⟨.str x,H,I.tok _,⟨_,rfl⟩,h⟩
def Gl (X:Cx)(x:Str):Prop:=X.env.kindOf x=some .globalImplicit
def wF (I:Inv X bF3 σ H s)(b:Gl X x)(a:X.mg x=some u)(h:Q u s)
  (hd:(x == ("__debug__":Str))=false:=by decide):wpAny (model X.prog X.w) X.A (eval (.Name x pos) X.env) Q E s:=
 bDT I.ok.kind b (Calls.loadGlobal_global (by rw[I.ok.glob];exact I.mod.glob.keeps I.bk) a h) hd
def vK (I:Inv X bF3 σ H s)(e:Gl X x)(g:X.mg x=none)(f:bootBuiltins x=some u)(h:Q u s)
  (c:x≠"__name__":=by decide) (hd:(x == ("__debug__":Str))=false:=by decide):wpAny (model X.prog X.w) X.A (eval (.Name x pos) X.env) Q E s:=by
 obtain⟨d,a,b⟩:=I.mod.blt;exact bDT I.ok.kind e (Calls.loadGlobal_builtin (by rw[I.ok.glob];exact I.mod.glob.keeps I.bk) g (by rw[I.ok.blt];exact a.keeps I.bk) ((b x c).trans f) h) hd
def aX9 (a:Gl X x)(b:X.mg x=some u)(r:RelV v u)(hd:(x == ("__debug__":Str))=false:=by decide):PE X (.Name x pos) (tC v):=
 λ_ _ _ H _ I h=>wF I a b ⟨v,H,I,r,h⟩ hd
def aYk (c:Gl X x)(d:X.mg x=none)(b:bootBuiltins x=some u)(r:RelV v u)(a:x≠"__name__":=by decide)(hd:(x == ("__debug__":Str))=false:=by decide):PE X (.Name x pos) (tC v):=
 λ_ _ _ H _ I h=>vK I c d b ⟨v,H,I,r,h⟩ a hd
def PC (X:Cx)(op:CmpOp)(a b:Expr)(t:TE):Prop:=
 ∀bF3 s σ H Q,Inv X bF3 σ H s->t σ H Q ->
  wpAny (model X.prog X.w) X.A (eval a X.env) (λv s₁=>wpAny (model X.prog X.w) X.A (eval b X.env) (λu s₂=>wpAny (model X.prog X.w) X.A (compareOp op v u) (EP X bF3 σ Q) X.xe s₂) X.xe s₁) X.xe s
def tB (t:TE):TT:=fun σ H Q=>t σ H λx H1=>∃c,x=.bl c/\Q c H1
def aTs {op:CmpOp}{t:TE}(h:PC X op a b t)(f:behindInMarks op b=false:=by first|exact nobehind _ (by decide) (by decide)|rfl):PT X (.Compare a [op] [b] pos) (tB t):=by intro e s σ H Q I m;refine wpAny_isTrue_Compare1 (thn (h e s σ H _ I m) λv o f=>thn f λu p l=>thn l λc n ⟨x,g,j,k,i⟩=>?_) f;obtain⟨d,rfl,q⟩:=i;cases k;exact bBG ⟨g,j,q⟩
def bAu {e:Expr}{t:TE}(h:PE X e t)(j:∀whole,isTrue e X.env whole=(do let v <-whole;standAt e.pos;holding [v] (truthy v)):=by intro _;rfl):PT X e (tB t):=by intro a s σ H Q I i;refine isTrue_plain (thn (h a s σ H _ I i) λv k ⟨x,b,f,g,c⟩=>?_) (j _);obtain⟨d,rfl,q⟩:=c;cases g;exact bBG ⟨b,f,q⟩
def bEa (t u:TT):TT:=fun σ H Q=>t σ H λc H1=>if c=true then u σ H1 Q else Q false H1
def tOr (t u:TT):TT:=fun σ H Q=>t σ H λc H1=>if c=true then Q true H1 else u σ H1 Q
def bC0 (t:TT):TT:=fun σ H Q=>t σ H λc H1=>Q (!c) H1
def aY6 (f:PT X a tA):PW X (.BoolOp .And [a] pos) tA:=by
 intro g b s σ H Q I h;refine isTrue_and (thn (f b s σ H Q I h) λc d e=>?_);cases c with
 |true=>exact isTrue_and_nil e
 |false=>exact e
def bC8 (f:PT X a tA):PW X (.BoolOp .Or [a] pos) tA:=by
 intro g b s σ H Q I h;refine isTrue_or (thn (f b s σ H Q I h) λc d e=>?_);cases c with
 |false=>exact isTrue_or_nil e
 |true=>exact e
def bBu (k:PT X a tA)(l:PW X (.BoolOp .And (b::rest) pos) tB'):PW X (.BoolOp .And (a::b::rest) pos) (bEa tA tB'):=by
 intro j d s σ H Q I h;refine isTrue_and (thn (k d s σ H _ I h) λc i ⟨e,g,f⟩=>?_);cases c with
 |true=>exact l j d i σ e Q g f
 |false=>exact⟨e,g,f⟩
def bD0 (k:PT X a tA)(l:PW X (.BoolOp .Or (b::rest) pos) tB'):PW X (.BoolOp .Or (a::b::rest) pos) (tOr tA tB'):=by
 intro j d s σ H Q I h;refine isTrue_or (thn (k d s σ H _ I h) λc i ⟨e,g,f⟩=>?_);cases c with
 |true=>exact⟨e,g,f⟩
 |false=>exact l j d i σ e Q g f
def bA4 (e:PT X a tA):PT X (.UnaryOp .Not a pos) (bC0 tA):=by intro b s σ H Q I h;exact isTrue_not (e b s σ H (λc d=>Q (!c) d) I h)
def aZ3 (ta tb:TE):TE:=fun σ H Q=>ta σ H λx H1=>∃c,x=.bl c/\if c=true then tb σ H1 Q else Q (.bl false) H1
def bEw (ta tb:TE):TE:=fun σ H Q=>ta σ H λx H1=>∃c,x=.bl c/\if c=true then Q (.bl true) H1 else tb σ H1 Q
def aZ4 (ta:TE):TE:=fun σ H Q=>ta σ H λx H1=>∃c,x=.bl c/\Q (.bl (!c)) H1
def bC5 {op}(h:PE X a t):PE X (.BoolOp op [a] pos) t:=λb s σ H Q I c=>BoolOp_one (h b s σ H Q I c)
def bCw (k:PE X a ta)(l:PE X (.BoolOp .And (b::rest) pos) tb):PE X (.BoolOp .And (a::b::rest) pos) (aZ3 ta tb):=by
 intro d s σ H Q I h;refine BoolOp_and (thn (k d s σ H _ I h) λv j ⟨x,f,g,i,e⟩=>?_);obtain⟨c,rfl,e⟩:=e;cases i;refine bBG ?_;cases c with
 |true=>exact l d j σ f Q g e
 |false=>exact⟨.bl false,f,g,rfl,e⟩
def bEn (k:PE X a ta)(l:PE X (.BoolOp .Or (b::rest) pos) tb):PE X (.BoolOp .Or (a::b::rest) pos) (bEw ta tb):=by
 intro d s σ H Q I h;refine BoolOp_or (thn (k d s σ H _ I h) λv j ⟨x,f,g,i,e⟩=>?_);obtain⟨c,rfl,e⟩:=e;cases i;refine bBG ?_;cases c with
 |false=>exact l d j σ f Q g e
 |true=>exact⟨.bl true,f,g,rfl,e⟩
def bCv (i:PE X a ta):PE X (.UnaryOp .Not a pos) (aZ4 ta):=by intro d s σ H Q I h;refine UnaryOp_ (thn (i d s σ H _ I h) λv j ⟨x,e,f,g,b⟩=>?_);obtain⟨c,rfl,b⟩:=b;cases g;exact not_of (bBG ⟨.bl (!c),e,f,rfl,b⟩)
def tIf (t:TT)(ta tb:TE):TE:=fun σ H Q=>t σ H λc H1=>if c=true then ta σ H1 Q else tb σ H1 Q
def aVb {c:Expr}(m:PT X c tA)(k:PE X a ta)(l:PE X b tb):PE X (.IfExp c a b pos) (tIf tA ta tb):=by
 intro e s σ H Q I h;refine wpAny_IfExp (thn (m e s σ H _ I h) λd i ⟨f,j,g⟩=>?_);cases d with
 |true=>exact k e i σ f Q j g
 |false=>exact l e i σ f Q j g
def SqL (K:bFZ)(H:Hp)(a:Addr)(xs:List V):Prop:=
 Rd H a (.lst xs) \/
  ∃o its n,K.lookup a=some o/\o.cls=.type "list"/\o.dict=none/\o.data=.seq its n/\its.size<=sizeLine/\Vals xs its.toList
def SqT (K:bFZ)(H:Hp)(a:Addr)(xs:List V):Prop:=
 Rd H a (.tup xs) \/
  ∃o its n,K.lookup a=some o/\o.cls=.type "tuple"/\o.dict=none/\o.data=.seq its n/\its.size<=sizeLine/\Vals xs its.toList
def bFb:Value->Option V
 |.none=>some .non
 |.bool b=>some (.bl b)
 |.int i _=>some (.int i)
 |.str x _=>some (.str x)
 |.bytes b _=>some (.byt b)
 |.float b _=>some (.flt b)
 |.ref a=>some (.ref a)
 |.type n=>some (.ty n)
 |_=>none
def RelV.abs (r:RelV x u):bFb u=some x:=by
 cases x with
 |non=>cases r;rfl
 |bl _=>cases r;rfl
 |int _=>obtain⟨t,rfl⟩:=r;rfl
 |str _=>obtain⟨t,rfl⟩:=r;rfl
 |byt _=>obtain⟨t,rfl⟩:=r;rfl
 |flt _=>obtain⟨t,rfl⟩:=r;rfl
 |ref _=>cases r;rfl
 |ty _=>cases r;rfl
def RelV.inj (r:RelV x u)(q:RelV y u):x=y:=bAM (r.abs.symm.trans q.abs)
theorem Vals.inj:∀{xs ys:List V} {us:List Value},Vals xs us->Vals ys us->xs=ys
 |_,_,_,.nil,.nil=>rfl
 |_,_,_,.cons r t,.cons r' t'=>by rw[r.inj r',Vals.inj t t']
def SqL.of {K:bFZ}(h:H a=some (.lst xs)):SqL K H a xs:=.inl (.inl h)
def SqT.of {K:bFZ}(h:H a=some (.tup xs)):SqT K H a xs:=.inl (.inl h)
def Inv.list (I:Inv X bF3 σ H s)(h:SqL X.K H a xs):∃its:List Value,Vals xs its/\PlainL s.heap a its.toArray/\xs.length<=sizeLine:=by
 rcases h with h|⟨o,its,n,b,d,hd,c,f,r⟩
 ·obtain⟨z,its,n,r,e⟩:=h.ok I.hok;exact⟨its,r,⟨_,n,e,rfl,rfl,rfl⟩,z⟩
 ·refine⟨its.toList,r,⟨o,n,I.kIn a o b,d,hd,by simpa using c⟩,?_⟩;have e:=r.length;simp only[v7] at e;lia
def Inv.tuple (I:Inv X bF3 σ H s)(h:SqT X.K H a xs):∃its:List Value,Vals xs its/\IsTup s.heap a its.toArray/\xs.length<=sizeLine:=by
 rcases h with h|⟨o,its,n,b,d,hd,c,f,r⟩
 ·obtain⟨z,its,r,p⟩:=h.ok I.hok;exact⟨its,r,p.1,z⟩
 ·refine⟨its.toList,r,⟨o,I.kIn a o b,d,n,by simpa using c⟩,?_⟩;have e:=r.length;simp only[v7] at e;lia
def Inv.bFn (I:Inv X bF3 σ H s)(h:SqT X.K H a xs):∃its:List Value,Vals xs its/\zR s.heap a its.toArray/\xs.length<=sizeLine:=by
 rcases h with h|⟨o,its,n,b,d,hd,c,f,r⟩
 ·obtain⟨z,its,r,p⟩:=h.ok I.hok;exact⟨its,r,p,z⟩
 ·refine⟨its.toList,r,.of (I.kIn a o b) hd ⟨o,I.kIn a o b,d,n,by simpa using c⟩,?_⟩;have e:=r.length;simp only[v7] at e;lia
def Inv.aW0 (I:Inv X bF3 σ H s)(h:SqL X.K H a xs)(h':SqL X.K H a ys):xs=ys:=by
 obtain⟨c,r,⟨o,n,e,_,_,d⟩,_⟩:=I.list h;obtain⟨b,i,⟨k,j,g,_,_,f⟩,_⟩:=I.list h';rw[e] at g;cases g;rw[d] at f;injection f with d1 _;have:c=b:=by simpa using congrArg Array.toList d1
 subst this;exact r.inj i
def Inv.aR7 (I:Inv X bF3 σ H s)(h:SqT X.K H a xs)(h':SqT X.K H a ys):xs=ys:=by
 obtain⟨c,r,⟨o,e,_,n,d⟩,_⟩:=I.tuple h;obtain⟨b,i,⟨k,g,_,j,f⟩,_⟩:=I.tuple h';rw[e] at g;cases g;rw[d] at f;injection f with d1 _;have:c=b:=by simpa using congrArg Array.toList d1
 subst this;exact r.inj i
abbrev Cx.wish (X:Cx)(E:bF0):Cx:={ X with xe:=E }
abbrev Cx.nox (X:Cx):Cx:=X.wish λ_ _=>False
def Cx.Ok.wish {X:Cx}(a:X.Ok)(E:bF0):(X.wish E).Ok:=
 ⟨a.mod,a.kind,a.glob,a.blt,a.above,a.inj,a.has,a.cab,a.hd,a.frames,a.stk,a.exf,a.bs,a.bsz,a.noex,a.exfs,a.funs,a.frf⟩
def Cx.Ok.rD {X:Cx}{E:bF0}(a:(X.wish E).Ok):X.Ok:=
 ⟨a.mod,a.kind,a.glob,a.blt,a.above,a.inj,a.has,a.cab,a.hd,a.frames,a.stk,a.exf,a.bs,a.bsz,a.noex,a.exfs,a.funs,a.frf⟩
def Inv.wish (I:Inv X bF3 σ H s)(E:bF0):Inv (X.wish E) bF3 σ H s:=⟨I.ok.wish E,I.os,I.bare,I.base,I.loc,I.cell,I.free,I.freeC,I.pin,I.hok,I.len⟩
def Inv.rD (I:Inv (X.wish E) bF3 σ H s):Inv X bF3 σ H s:=⟨I.ok.rD,I.os,I.bare,I.base,I.loc,I.cell,I.free,I.freeC,I.pin,I.hok,I.len⟩
def SP.rD (h:SP (X.wish E) bF3 D f s'):SP X bF3 D f s':=by
 cases f with
 |next=>obtain⟨b,a,I,q⟩:=h;exact⟨b,a,I.rD,q⟩
 |brk=>obtain⟨b,a,I,q⟩:=h;exact⟨b,a,I.rD,q⟩
 |cont=>obtain⟨b,a,I,q⟩:=h;exact⟨b,a,I.rD,q⟩
 |ret u=>obtain⟨v,b,a,I,r,q⟩:=h;exact⟨v,b,a,I.rD,r,q⟩
def PSs.nox {st:List Stmt}{t:TS}(h:PSs X.nox st t):PSs X st t:=λa s σ H D I b=>
 bBQ (h a s σ H D (I.wish _) b) (λ_ _ q=>q.rD) λ_ _ z=>False.elim z
section
variable {X:Cx}{st:Stmt}{rest:List Stmt}{t u:TS}
def mJ:TS:=λD σ H=>D.nx σ H
def aBi (t u:TS):TS:=λD σ H=>t { D with nx:=u D } σ H
def aZq:PSs X [] mJ:=λ_ _ σ H _ I h=>wpAny_execs_nil ⟨σ,H,I,h⟩
def aVe (g:PS X st t)(i:PSs X rest u):PSs X (st::rest) (aBi t u):=by
 intro a s σ H D I h;refine wpAny_execs_cons (thn (g a s σ H { D with nx:=u D } I h) λf c q=>?_);cases f with
 |next=>obtain⟨b,d,e,q⟩:=q;exact i a c b d D e q
 |ret v=>exact q
 |brk=>exact q
 |cont=>exact q
def aXm (c:PS X st t):PSs X [st] t:=by
 intro a s σ H D I h;refine wpAny_execs_cons (thn (c a s σ H D I h) λf b q=>?_);cases f with
 |next=>exact wpAny_execs_nil q
 |ret v=>exact q
 |brk=>exact q
 |cont=>exact q
def Inv.quiet (I:Inv X bF3 σ H s):interactive X.env=false:=by simp[interactive,I.ok.kind]
def aU7 (te:TE):TS:=λD σ H=>te σ H λ_ H1=>D.nx σ H1
def aYs (f:PE X e te)(g:swapsWith e none pos.line X.env=pure false:=by rfl):PS X (.Expr e pos) (aU7 te):=by intro a s σ H D I h;exact wpAny_Expr_any (thn (f a s σ H _ I h) λv i ⟨x,b,d,j,c⟩=>⟨σ,b,d,c⟩) I.quiet g
def pZ (te:TE):TS:=λD σ H=>te σ H D.rt
def bAh (g:PE X e te):PS X (.Return (some e) pos) (pZ te):=by intro a s σ H D I h;exact wpAny_Return_some (thn (g a s σ H _ I h) λv i ⟨x,b,d,f,c⟩=>⟨x,σ,b,d,f,c⟩)
def aR3 (c:TT)(t u:TS):TS:=λD σ H=>c σ H λb H1=>if b=true then t D σ H1 else u D σ H1
def bEi {c:Expr}{a b:List Stmt}{tc:TT}(m:PT X c tc)(k:PSs X a t)(l:PSs X b u):PS X (.If c a b pos) (aR3 tc t u):=by
 intro e s σ H D I h;refine wpAny_If (thn (m e s σ H _ I h) λd i ⟨f,j,g⟩=>?_);cases d with
 |true=>exact k e i σ f D j g
 |false=>exact l e i σ f D j g
def aVw:TS:=λ_ _ _=>False
def aVc:PS X st aVw:=λ_ _ _ _ _ _ h=>h.elim
end
abbrev TG:=V->St->Hp->(St->Hp->Prop)->Prop
abbrev TGs:=List V->St->Hp->(St->Hp->Prop)->Prop
def PG (X:Cx)(target:Expr)(t:TG):Prop:=
 ∀bF3 s σ H v u Q,Inv X bF3 σ H s->RelV v u->t v σ H Q ->
  wpAny (model X.prog X.w) X.A (assign target X.env u) (λ_ s'=>∃σ' H',Inv X bF3 σ' H' s'/\Q σ' H') X.xe s
def PGs (X:Cx)(ts:List Expr)(t:TGs):Prop:=
 ∀bF3 s σ H vs us Q,Inv X bF3 σ H s->Vals vs us->t vs σ H Q ->
  wpAny (model X.prog X.w) X.A (assignInOrder ((assignEach ts X.env).map (·.2)) us) (λ_ s'=>∃σ' H',Inv X bF3 σ' H' s'/\Q σ' H') X.xe s
abbrev bBi:=V->V->V->Hp->(Hp->Prop)->Prop
def bAt (X:Cx)(t:bBi):Prop:=
 ∀bF3 s σ H o i v ov iv u Q,Inv X bF3 σ H s->RelV o ov->RelV i iv->RelV v u->t o i v H Q ->
  wpAny (model X.prog X.w) X.A (setItem ov iv u) (λ_ s'=>∃H',Inv X bF3 σ H' s'/\Q H') X.xe s
def bR (i:Nat):TG:=λv σ H Q=>Q (σ.set i (some v)) H
def aYz (c:X.N.Nodup)(hi:X.N[i]?=some x)(f:Loc X.env.scope x)(d:X.fn x=true\/X.env.scope.names.lookup x=some .local:=by first|exact .inl rfl|exact .inr rfl|assumption):PG X (.Name x pos) (bR i):=by intro a s σ H v u Q I r h;exact wpAny_assign_Name (aMm I c hi f r (λe b=>⟨_,H,b,h⟩) d)
def aRq:TGs:=λvs σ H Q=>vs=[]/\Q σ H
def uF (t:TG)(u:TGs):TGs:=λvs σ H Q=>∃v r,vs=v::r/\t v σ H fun σ' H'=>u r σ' H' Q
def aZp:PGs X [] aRq:=by intro a s σ H c b Q I r h;obtain⟨e,h⟩:=h;subst e;cases r;exact assignInOrder_nil ⟨σ,H,I,h⟩
def aUs {e:Expr}{es:List Expr}{t:TG}{u:TGs}(l:PG X e t)(k:PGs X es u)
  (j:(assignEach (e::es) X.env).map (·.2)=assign e X.env::(assignEach es X.env).map (·.2):=by rfl):PGs X (e::es) (uF t u):=by
 intro a s σ H o m Q I r h;obtain⟨v,n,c,h⟩:=h;subst c;cases r with
 |cons r rr=>rw[j];refine assignInOrder_cons (thn (l a s σ H _ _ _ I r h) λ_ i ⟨g,b,f,d⟩=>?_);exact k a i g b _ _ Q f rr d
def aPc (K:bFZ)(n:Nat)(t:TGs):TG:=λv σ H Q=>∃a xs,v=.ref a/\SqT K H a xs/\xs.length=n/\t xs σ H Q
def bBl (z:X.calm=true)(h:PGs X es t)
  (y:(assignEach es X.env).length=n:=by rfl) (w:(assignEach es X.env).findIdx? (·.1)=none:=by rfl):PG X (.Tuple es k pos) (aPc X.K n t):=by
 intro d s σ H v u Q I r c;obtain⟨a,q,i,g,j,c⟩:=c;subst i;cases r;obtain⟨x,f,l,A⟩:=I.tuple g;refine assign_Tuple_tuple (I.ok.hd z) l (by simp[y,<-j,f.length]) w λB p=>?_;have m:=I.kept (t':=s.toks) λb o e=>p b o (z9 (t8 e)) e;exact h d _ σ H q _ Q m (by simpa using f) c
def bDn (to ti:TE)(t:bBi):TG:=λv σ H Q=>to σ H λo H1=>ti σ H1 λi H2=>t o i v H2 λH3=>Q σ H3
def bA2 {o i:Expr}{to ti:TE}{t:bBi}(ho:PE X o to)(hi:PE X i ti)(w:bAt X t)
  (A:∀v,assign (.Subscript o i pos) X.env v=(do
   let ov <-holding [v] (eval o X.env)
   let iv <-holding [v,ov] (eval i X.env)
   standAt pos
   holding [v,ov,iv] (setItem ov iv v)
   release [v,ov,iv] []):=by intro _;rfl):PG X (.Subscript o i pos) (bDn to ti t):=by
 intro a s σ H v u Q I r h;rw[A];refine b7 (bAU (thn (ho a s σ H _ I h) λov p ⟨x,b,g,j,d⟩=>?_));refine b7 (bAU (thn (hi a p σ b _ g d) λiv q ⟨y,k,e,l,c⟩=>?_));refine b7 (bFX (b7 (bAU (thn (w a q σ k x y v ov iv u _ e j l r c) λ_ z ⟨m,f,n⟩=>?_))));exact wpAny_release ⟨σ,m,f,n⟩
def vB (te:TE)(g:TG):TS:=λD σ H=>te σ H λx H1=>g x σ H1 D.nx
def bB9 {tg e:Expr}{te:TE}{g:TG}(j:PE X e te)(l:PG X tg g)(k:swapsWithSole [tg] e pos.line X.env=pure false:=by rfl)(m:swappedStores [tg] e X.env=pure none:=by rfl)
  (n:(assignEach [tg] X.env).map (·.2)=[assign tg X.env]:=by rfl):PS X (.Assign [tg] e pos) (vB te g):=by
 intro a s σ H D I h;refine wpAny_Assign_stores (thn (j a s σ H _ I h) λv i ⟨x,b,d,f,c⟩=>?_) k m;rw[n];exact thn (l a i σ b x v _ d f c) λ_ o q=>q
def bAv {i:Nat}{x:Str}{e:Expr}{te:TE}{pos':Pos}(k:X.N.Nodup)(hi:X.N[i]?=some x)(m:Loc X.env.scope x)(j:PE X e te)(l:swapsWith e (some (.Name x pos')) pos.line X.env=pure false:=by rfl)(o:X.fn x=true\/X.env.scope.names.lookup x=some .local:=by first|exact .inl rfl|exact .inr rfl|assumption) :
  PS X (.Assign [.Name x pos'] e pos) (vB te (bR i)):=by
 intro a s σ H D I h;refine wpAny_Assign_Name (thn (j a s σ H _ I h) λv n ⟨y,b,f,g,c⟩=>?_) l;exact aMm f k hi m g (λp d=>⟨_,b,d,c⟩) o
structure It where
 go:Nat->Hp->Prop
 yld:Nat->Hp->V->Hp->Prop
 stop:Nat->Hp->Prop
def tW (X:Cx)(bF3:bF1)(H:Hp)(b:Addr):Prop:=
 H b=none/\b≠X.env.locals/\b∉X.fs/\(b∈X.ex\/X.s₀.heap.objs.size<=b)/\(∀x c,X.env.cells.lookup x=some c->c≠b)/\∀p∈X.pn++bF3,p.1≠b
def Inv.aHp (I:Inv X bF3 σ H s)(a:s.heap.objs.size<=b)(f:H' b=none):tW X bF3 H' b:=by
 refine⟨f,bDJ (bAB I.lt a),I.nofs a,.inr (bAI I.sz a),λx c e z=>?_,λp d z=>?_⟩
 ·obtain⟨v,q⟩:=I.cell x c e;exact absurd (bAB q.lt (by rw[z];exact a)) (bBN _)
 ·exact absurd (bAB (t8 (I.pin p d).1) (by rw[z];exact a)) (bBN _)
structure Turn (P:Program)(w:World)(K:bFZ)(tg:Expr)(J:It)(fp:List Addr)(it:Addr)(tn:Nat->Heap->Prop):Prop where
 mem:it∈fp
 obj:∀i h,tn i h->∀b∈fp,∃o,h.get? b=some o/\∀v,o.data≠.cell v
 keep:∀i h h',tn i h->(∀b∈fp,∀o,h.get? b=some o->h'.get? b=some o)->tn i h'
 item:∀(X:Cx),X.prog=P->X.w=w->X.K=K->X.calm=true->∀(i:Nat) (bF3:bF1) (s:Shared) (σ:St) (H:Hp) (E:bF0),Inv X bF3 σ H s->(∀b∈fp,tW X bF3 H b)->tn i s.heap->J.go i H ->
  wpAny (model P w) X.A (pyNext (.ref it)) (λr s1=>∃u,r=some u /\
   wpAny (model P w) X.A (letOwnedTupleGo tg (.ref it) u) (λ_ s2=>∃x H',Inv X bF3 σ H' s2/\RelV x u/\J.yld i H x H'/\tn (i+1) s2.heap/\∀b∈fp,H' b=none) E s1) E s
 done:∀(X:Cx),X.prog=P->X.w=w->X.K=K->X.calm=true->∀(i:Nat) (bF3:bF1) (s:Shared) (σ:St) (H:Hp) (E:bF0),Inv X bF3 σ H s->(∀b∈fp,tW X bF3 H b)->tn i s.heap->J.stop i H ->
  wpAny (model P w) X.A (pyNext (.ref it)) (λr s1=>r=none/\Inv X bF3 σ H s1) E s
 self:∀(A:Around) (i:Nat) (s:Shared) (Q:bF0) (E:bF0),tn i s.heap->Q (.ref it) s->wpAny (model P w) A (pyIter (.ref it)) Q E s
abbrev TI:=St->Hp->(It->Hp->Prop)->Prop
def PIE (X:Cx)(bF3:bF1)(σ:St)(tg:Expr)(R:It->Hp->Prop)(itv:Value)(s2:Shared):Prop:=
 ∃it fp tn J H',itv=.ref it/\Inv X bF3 σ H' s2/\Turn X.prog X.w X.K tg J fp it tn/\tn 0 s2.heap/\(∀b∈fp,tW X bF3 H' b)/\R J H'
def PI (X:Cx)(tg iter:Expr)(wi:TI):Prop:=
 ∀bF3 s σ H R,Inv X bF3 σ H s->wi σ H R ->
  wpAny (model X.prog X.w) X.A (eval iter X.env) (λv s1=>wpAny (model X.prog X.w) X.A (pyIter v) (PIE X bF3 σ tg R) X.xe s1) X.xe s
def aFa (ho:s.heap.get? it=some o)(c:o.cls=.type n)(hd:o.data=.fields vs)
  (b:["enumerate","zip","dict_itemiterator","dict_reverseitemiterator","odict_iterator","itertools.zip_longest","itertools.pairwise"].contains n=false) (a:Q () s):wpAny M A (letOwnedTupleGo tg (.ref it) u) Q E s:=by
 unfold letOwnedTupleGo;cases tg <;> first
  |exact d8 a
  |(cases u <;> first
    |exact d8 a
    |(refine b7 (wpAny_load ho ?_);rw[c,hd];show wpAny M A (if (["enumerate","zip","dict_itemiterator","dict_reverseitemiterator","odict_iterator","itertools.zip_longest","itertools.pairwise"].contains n && vs[0]? == some (rawInt _))=true then _ else _) Q E s;rw[if_neg (by intro h;rw[b,Bool.false_and] at h;cases h)];exact d8 a))
def Itl (K:bFZ)(a:Addr):It:=
 ⟨λi H=>∃xs x,SqL K H a xs/\xs[i]?=some x,λi H x H'=>H'=H/\∀xs,SqL K H a xs->xs[i]?=some x,λi H=>∃xs,SqL K H a xs/\xs.length<=i⟩
def Itt (K:bFZ)(a:Addr):It:=
 ⟨λi H=>∃xs x,SqT K H a xs/\xs[i]?=some x,λi H x H'=>H'=H/\∀xs,SqT K H a xs->xs[i]?=some x,λi H=>∃xs,SqT K H a xs/\xs.length<=i⟩
def Itr (lo:Int)(n:Nat):It:=⟨λi _=>i<n,λi H x H'=>H'=H/\x=.int (lo+i),λi _=>n<=i⟩
def aR8 {P:Program}{w:World}{K:bFZ}{tg:Expr}(a it:Addr):Turn P w K tg (Itl K a) [it] it (λi h=>h.IsListIter it a i) where
 mem:=by simp
 obj:=λi h f b g=>by
  have e:b=it:=by simpa using g
  subst e;obtain⟨o,e,c,d⟩:=f;exact⟨o,e,λv z=>by rw[d] at z;cases z⟩
 keep:=λi h N f k=>f.at λo e=>k it (by simp) o e
 item:=by intro X n J L M i A s σ H E I l f D;subst n J L;obtain⟨U,x,m,F⟩:=D;obtain⟨B,t,p,T⟩:=I.list m;obtain⟨u,R,V⟩:=t.get F;obtain⟨C,q,W,G,r,y⟩:=l it (by simp);refine wpAny_pyNext_list_item f p.isList (by simpa using R) λN j S=>?_;have O:=I.turned (t':=s.toks) (λb o g e=>(S.2 b g).trans e) C q G r y;obtain⟨o,e,c,d⟩:=id j;exact⟨u,rfl,aFa e c d (by decide) ⟨x,H,O,V,⟨rfl,λZ Q=>by rw[I.aW0 Q m];exact F⟩,j,λb g=>(l b g).1⟩⟩
 done:=by intro X n J L M i A s σ H E I l f D;subst n J L;obtain⟨U,m,F⟩:=D;obtain⟨B,t,p,T⟩:=I.list m;obtain⟨C,q,W,G,r,y⟩:=l it (by simp);have hl:=t.length;exact wpAny_pyNext_list_end (I.ok.hd M) f p.isList (by simp;lia) λN Y=>⟨rfl,I.turned (t':=s.toks) (λb o g e=>Y b o g e) C q G r y⟩
 self:=λ_ _ _ _ _ f h=>wpAny_pyIter_listiter f h
def aN7 {P:Program}{w:World}{K:bFZ}{tg:Expr}(a it:Addr):Turn P w K tg (Itt K a) [it] it (λi h=>h.IsTupleIter it a i) where
 mem:=by simp
 obj:=λi h f b j=>by
  have e:b=it:=by simpa using j
  subst e;obtain⟨o,e,c,d⟩:=f;exact⟨o,e,λv z=>by rw[d] at z;cases z⟩
 keep:=λi h N f k=>f.at λo e=>k it (by simp) o e
 item:=by intro X q J L M i B s σ H E I m f D;subst q J L;obtain⟨U,x,n,F⟩:=D;obtain⟨g,y,p,T⟩:=I.tuple n;obtain⟨u,R,V⟩:=y.get F;obtain⟨C,r,W,G,t,A⟩:=m it (by simp);refine wpAny_pyNext_tuple_item f (show s.heap.IsTuple a g.toArray from p) (by simpa using R) λN l S=>?_;have O:=I.turned (t':=s.toks) (λb o j e=>(S.2 b j).trans e) C r G t A;obtain⟨o,e,c,d⟩:=id l;exact⟨u,rfl,aFa e c d (by decide) ⟨x,H,O,V,⟨rfl,λZ Q=>by rw[I.aR7 Q n];exact F⟩,l,λb j=>(m b j).1⟩⟩
 done:=by intro X q J L M i B s σ H E I m f D;subst q J L;obtain⟨U,n,F⟩:=D;obtain⟨g,y,p,T⟩:=I.tuple n;obtain⟨C,r,W,G,t,A⟩:=m it (by simp);have hl:=y.length;exact wpAny_pyNext_tuple_end (I.ok.hd M) f (show s.heap.IsTuple a g.toArray from p) (by simp;lia) λN Y=>⟨rfl,I.turned (t':=s.toks) (λb o j e=>Y b o j e) C r G t A⟩
 self:=λ_ _ _ _ _ f h=>wpAny_pyIter_tupleiter f h
def aMt {P:Program}{w:World}{K:bFZ}{tg:Expr}(it:Addr)(lo:Int)(n:Nat):Turn P w K tg (Itr lo n) [it] it (λi h=>IsRangeIter h it (lo+(i:Nat) * 1) ((n:Int) - (i:Nat)) 1) where
 mem:=by simp
 obj:=λi h a b c=>by
  have e:b=it:=by simpa using c
  subst e;exact⟨_,a,λv z=>by have L:Data.fields _=Data.cell v:=z;cases L⟩
 keep:=λi h j a k=>k it (by simp) _ a
 item:=by intro X l A B q i d s σ H E I g a x;subst l A B;obtain⟨u,m,G,y,p,r⟩:=g it (by simp);have W:=Walks.range (prog:=X.prog) (w:=X.w) (I.ok.hd q) it lo 1 n;refine W.item i s _ _ x a λv j C F f M=>?_;obtain⟨t,rfl⟩:=F;have D:Inv X d σ H { s with heap:=j,toks:=C }:=I.turned (λb o c e=>M b o (by simpa using c) e) u m y p r;refine⟨_,rfl,aFa (s:={ s with heap:=j,toks:=C }) (n:="range_iterator") f rfl rfl (by decide) ⟨.int (lo+i),H,D,⟨t,?_⟩,⟨rfl,rfl⟩,f,λb c=>(g b c).1⟩⟩;rw[Int.mul_one]
 done:=by intro X l A B q i d s σ H E I g a x;subst l A B;obtain⟨u,m,G,y,p,r⟩:=g it (by simp);exact wpAny_pyNext_range_end (I.ok.hd q) a (by have:n<=i:=x;lia) λj J=>⟨rfl,I.turned (t':=s.toks) (λb o c e=>J b o c e) u m y p r⟩
 self:=λ_ _ _ _ _ a h=>wpAny_pyIter_rangeiter a h
def aLj (K:bFZ)(tl:TE):TI:=fun σ H R=>tl σ H λx H1=>∃a,x=.ref a/\(∃xs,SqL K H1 a xs)/\R (Itl K a) H1
def aZa (K:bFZ)(tl:TE):TI:=fun σ H R=>tl σ H λx H1=>∃a,x=.ref a/\(∃xs,SqT K H1 a xs)/\R (Itt K a) H1
def aZm {l:Expr}{tl:TE}(r:PE X l tl):PI X tg l (aLj X.K tl):=by
 intro f s σ H R I h;refine thn (r f s σ H _ I h) λv d ⟨x,i,c,m,j⟩=>?_;obtain⟨a,e,⟨w,g⟩,q⟩:=j;subst e;cases m;obtain⟨n,t,p,u⟩:=c.list g;refine bCP p.isList ?_;refine⟨d.heap.objs.size,[d.heap.objs.size],_,_,i,rfl,c.kept (t':=d.toks) λb o e=>d7 _ e,aR8 a _,⟨_,j8 _ rfl,rfl,rfl⟩,λb k=>?_,q⟩;have e:b=d.heap.objs.size:=by simpa using k
 subst e;exact c.aHp (d9 _) (c.hok.fresh (d9 _))
def bCi {l:Expr}{tl:TE}(r:PE X l tl):PI X tg l (aZa X.K tl):=by
 intro f s σ H R I h;refine thn (r f s σ H _ I h) λv c ⟨x,j,d,n,k⟩=>?_;obtain⟨a,e,⟨w,i⟩,q⟩:=k;subst e;cases n;obtain⟨g,t,p,u⟩:=d.tuple i;refine bEF (show c.heap.IsTuple a g.toArray from p) ?_;refine⟨c.heap.objs.size,[c.heap.objs.size],_,_,j,rfl,d.kept (t':=c.toks) λb o e=>d7 _ e,aN7 a _,⟨_,j8 _ rfl,rfl,rfl⟩,λb m=>?_,q⟩;have e:b=c.heap.objs.size:=by simpa using m
 subst e;exact d.aHp (d9 _) (d.hok.fresh (d9 _))
def aLf {d:bF1}{σ:St}{H:Hp}{s:Shared}{R:It->Hp->Prop}{E:bF0}{lo hi:Int}{t u v:Tok}{tk:Nat}(I:Inv X d σ H s)(i:-(2 ^ 62)<=lo)(k:lo<2 ^ 62)(h:-(2 ^ 62)<=hi)(j:hi<2 ^ 62)
  (q:R (Itr lo (hi - lo).toNat) H):wpAny (model X.prog X.w) X.A (pyIter (.ref s.heap.objs.size)) (PIE X d σ tg R) E { s with heap:=s.heap.push { cls:=.type "range",data:=.fields #[.int lo t,.int hi u,.int 1 v] },toks:=tk }:=by
 refine wpAny_pyIter_range (IsRange.new ..) (small_one i k h j) ?_;have a:Inv X d σ H { s with heap:=s.heap.push { cls:=.type "range",data:=.fields #[.int lo t,.int hi u,.int 1 v] },toks:=tk }:=I.kept λb o e=>d7 _ e;refine⟨(s.heap.push { cls:=.type "range",data:=.fields #[.int lo t,.int hi u,.int 1 v] }).objs.size,[(s.heap.push { cls:=.type "range",data:=.fields #[.int lo t,.int hi u,.int 1 v] }).objs.size],_,_,H,rfl,
  a.kept (t':=tk) λb o e=>d7 _ e,aMt _ lo (hi - lo).toNat,?_,λb g=>?_,q⟩
 ·have c:lo+((0:Nat):Int) * 1=lo:=by simp
  have f:(((hi - lo).toNat:Nat):Int) - ((0:Nat):Int)=Builtin.Range.rangeSize lo hi 1:=by rw[rangeSize_one];split <;> lia
  show IsRangeIter _ _ (lo+((0:Nat):Int) * 1) ((((hi - lo).toNat:Nat):Int) - ((0:Nat):Int)) 1;rw[c,f];exact j8 _ rfl
 ·have e:b=(s.heap.push { cls:=.type "range",data:=.fields #[.int lo t,.int hi u,.int 1 v] }).objs.size:=by simpa using g
  subst e;exact a.aHp (d9 _) (a.hok.fresh (d9 _))
def aVu (ta:TA):TI:=fun σ H R=>ta σ H λvs H1=>∃j:Int,vs=[.int j]/\-(2 ^ 62)<=j/\j<2 ^ 62/\R (Itr 0 j.toNat) H1
def aZ0 (ta:TA):TI:=fun σ H R=>ta σ H λvs H1=>∃i j:Int,vs=[.int i,.int j]/\(-(2 ^ 62)<=i/\i<2 ^ 62/\-(2 ^ 62)<=j/\j<2 ^ 62)/\R (Itr i (j - i).toNat) H1
def aS6 {a:Expr}{ta:TA}{p f:Pos}(m:Gl X "range")(o:X.mg "range"=none)(n:PA X [a] ta)(l:starEach [a] X.env=[(false,eval a X.env)]:=by rfl):PI X tg (.Call (.Name "range" p) [a] [] f) (aVu ta):=by
 intro c s σ H R I h;refine Call_ (vK I m o boot_range (bCC (thn (n f c s σ H _ I h) λv u ⟨w,k,g,i,b⟩=>?_) l rfl));obtain⟨j,e,b,d,q⟩:=b;subst e;cases i with
 |cons r rr=>cases rr;obtain⟨t,rfl⟩:=r;exact call_range_1 (aLf g (by lia) (by lia) b d (by simpa using q))
def aR6 {a b:Expr}{ta:TA}{p k:Pos}(w:Gl X "range")(y:X.mg "range"=none)(x:PA X [a,b] ta)(v:starEach [a,b] X.env=[(false,eval a X.env),(false,eval b X.env)]:=by rfl)(d:starEach [b] X.env=[(false,eval b X.env)]:=by rfl) :
  PI X tg (.Call (.Name "range" p) [a,b] [] k) (aZ0 ta):=by
 intro f s σ H R I h;refine Call_ (vK I w y boot_range (bCC (thn (x k f s σ H _ I h) λB A ⟨C,u,l,n,c⟩=>?_) (by rw[v,d]) (by rw[d];rfl)));obtain⟨i,j,e,⟨c,g,o,m⟩,q⟩:=c;subst e;cases n with
 |cons r rr=>
  cases rr with
  |cons r' rr=>cases rr;obtain⟨t,rfl⟩:=r;obtain⟨z,rfl⟩:=r';exact call_range_2 (aLf l c g o m q)
def bC7 (wi:TI)(g:TG)(tb:TS):TS:=λD σ H=>wi σ H λJ H1=>∃W:Nat->Nat->St->Hp->Prop,(∃m,W 0 m σ H1)/\∀i m σ H,W i m σ H ->
 (J.stop i H/\D.nx σ H)\/(J.go i H/\∃N:St->Hp->Prop,(∀σ' H',N σ' H'->∃m',m'<m/\W (i+1) m' σ' H')/\∀x H',J.yld i H x H'->g x σ H' fun σ2 H2=>tb { D with nx:=N,ct:=N,bk:=D.nx } σ2 H2)
def aDo (fp:List Addr)(h:Heap):bF1:=fp.filterMap λb=>(h.get? b).map λo=>(b,o)
def pN (a:b∈fp)(e:h.get? b=some o):(b,o)∈aDo fp h:=List.mem_filterMap.mpr ⟨b,a,by rw[e];rfl⟩
def aRz (d:p∈aDo fp h):p.1∈fp/\h.get? p.1=some p.2:=by
 obtain⟨b,a,e⟩:=List.mem_filterMap.mp d;cases q:h.get? b with
 |none=>rw[q] at e;cases e
 |some o=>rw[q] at e;have c:=bAM e;subst c;exact⟨a,q⟩
def Inv.pinned (I:Inv X bF3 σ H s)(j:∀b∈fp,tW X bF3 H b)(ho:∀b∈fp,∃o,s.heap.get? b=some o/\∀v,o.data≠.cell v):Inv X (bF3++aDo fp s.heap) σ H s:=
 I.aPu λp f=>(List.mem_append.mp f).elim (λz=>I.pin p (bAA _ z)) λz=>by obtain⟨c,e⟩:=aRz z;obtain⟨h,g,i,_⟩:=j p.1 c;obtain⟨o,a,d⟩:=ho p.1 c;rw[e] at a;cases a;exact⟨e,h,g,i,d⟩
def Inv.qO (I:Inv X (bF3++pl) σ H s):Inv X bF3 σ H s:=I.aPu λp a=>I.pin p (bAA _ (bBF _ a))
theorem bB3 {iter:Expr}{body:List Stmt}{wi:TI}{g:TG}{tb:TS}{pos:Pos}(F:PassesOwn (model X.prog X.w) X.A X.env X.xe)(Z:X.calm=true)(hi:PI X tg iter wi)(hg:PG X tg g)(q:PSs X body tb)
  (hs:∀x,foldedSetIterable iter X.env x=pure x:=by intro _;rfl):PS X (.For tg iter body [] pos) (bC7 wi g tb):=by
 intro a s σ H D I h;refine wpAny_For (thn (hi a s σ H _ I h) λv s1 h1=>thn h1 λY s2 h2=>?_) hs;obtain⟨it,z,Q,J,H2,e,V,T,O,R,W,⟨m0,w0⟩,E⟩:=h2;subst e;have l:∀{H':Hp},(∀b∈z,H' b=none)->∀b∈z,tW X a H' b:=λhn b q=>⟨hn b q,(R b q).2⟩;refine codeAny_forLoop_any (λn U=>∃i σ' H',Inv X a σ' H' U/\Q i U.heap/\(∀b∈z,H' b=none)/\W i n σ' H') ?_ m0 ⟨0,σ,H2,V,O,λb q=>(R b q).1,w0⟩;rintro n s3 ⟨i,σ3,H3,I3,st3,fr3,w3⟩;rcases E i n σ3 H3 w3 with⟨B,qn⟩|⟨go,N,hN,step⟩
 ·refine bEB F (thn (T.done X rfl rfl rfl Z i a s3 σ3 H3 X.xe I3 (l fr3) st3 B) λr s4 ⟨K,I4⟩=>?_);subst K;exact wpAny_execs_nil ⟨σ3,H3,I4,qn⟩
 ·refine bEB F (thn (T.item X rfl rfl rfl Z i a s3 σ3 H3 X.xe I3 (l fr3) st3 go) λr s4 ⟨u,K,h4⟩=>?_);subst K;refine bEB F (thn h4 λ_ P ⟨x,S,I5,r5,y5,y,M⟩=>?_);have G:=I5.pinned (l M) (T.obj _ _ y);refine bEB F (thn (hg _ P σ3 S x u _ G r5 (step x S y5)) λ_ s6 ⟨σ6,H6,I6,q6⟩=>?_);refine bEB F (thn (q _ s6 σ6 H6 _ I6 q6) λf L t=>?_);have j:∀{c:St} {p:Hp},Inv X (a++aDo z P.heap) c p L->N c p->∃m,m<n/\∃i σ' H',Inv X a σ' H' L/\Q i L.heap/\(∀b∈z,H' b=none)/\W i m σ' H':=λ{c p} k C=>by obtain⟨m',hm,w7⟩:=hN c p C;refine⟨m',hm,i+1,c,p,k.qO,T.keep _ _ _ y λb q o e=>(k.pin (b,o) (bAA _ (bAA _ (pN q e)))).1,λb q=>?_,w7⟩;obtain⟨o,e,d⟩:=T.obj _ _ y b q;exact (k.pin (b,o) (bAA _ (bAA _ (pN q e)))).2.1
  cases f with
  |next=>obtain⟨c,p,k,C⟩:=t;exact j k C
  |cont=>obtain⟨c,p,k,C⟩:=t;exact j k C
  |brk=>obtain⟨c,p,k,t⟩:=t;exact⟨c,p,k.qO,t⟩
  |ret v=>obtain⟨x7,c,p,k,r7,t⟩:=t;exact⟨x7,c,p,k.qO,r7,t⟩
def aJv {K:bFZ}{a:Addr}{xs:List V}{g:TG}{tb:TS}{D:Ends}{σ:St}{H:Hp}(d:Nat->St->Hp->Prop)(j:d 0 σ H)(f:∀i σ H,i<=xs.length->d i σ H->SqL K H a xs)
  (h:∀i x σ H,xs[i]?=some x->d i σ H->g x σ H fun σ2 H2=>tb { D with nx:=d (i+1),ct:=d (i+1),bk:=D.nx } σ2 H2) (hd:∀σ H,d xs.length σ H->D.nx σ H) :
  ∃W:Nat->Nat->St->Hp->Prop,(∃m,W 0 m σ H)/\∀i m σ H,W i m σ H ->
   ((Itl K a).stop i H/\D.nx σ H)\/((Itl K a).go i H/\∃N:St->Hp->Prop,(∀σ' H',N σ' H'->∃m',m'<m/\W (i+1) m' σ' H')/\∀x H',(Itl K a).yld i H x H'->g x σ H' fun σ2 H2=>tb { D with nx:=N,ct:=N,bk:=D.nx } σ2 H2):=by
 refine⟨λi m σ H=>m=xs.length - i/\i<=xs.length/\d i σ H,⟨xs.length,by simp,bAE _,j⟩,?_⟩;rintro i m σ H ⟨rfl,hi,p⟩;have q:=f i σ H hi p;by_cases b:i<xs.length
 ·refine .inr ⟨⟨xs,xs[i],q,by simp[b]⟩,d (i+1),fun σ' H' c=>⟨xs.length - (i+1),by lia,rfl,b,c⟩,λx H' y=>?_⟩;obtain⟨e,y⟩:=y;subst e;exact h i x σ _ (y xs q) p
 ·have e:i=xs.length:=by lia
  subst e;exact .inl ⟨⟨xs,q,d9 _⟩,hd σ H p⟩
def aZf {K:bFZ}{a:Addr}{xs:List V}{g:TG}{tb:TS}{D:Ends}{σ:St}{H:Hp}(d:Nat->St->Hp->Prop)(j:d 0 σ H)(f:∀i σ H,i<=xs.length->d i σ H->SqT K H a xs)
  (h:∀i x σ H,xs[i]?=some x->d i σ H->g x σ H fun σ2 H2=>tb { D with nx:=d (i+1),ct:=d (i+1),bk:=D.nx } σ2 H2) (hd:∀σ H,d xs.length σ H->D.nx σ H) :
  ∃W:Nat->Nat->St->Hp->Prop,(∃m,W 0 m σ H)/\∀i m σ H,W i m σ H ->
   ((Itt K a).stop i H/\D.nx σ H)\/((Itt K a).go i H/\∃N:St->Hp->Prop,(∀σ' H',N σ' H'->∃m',m'<m/\W (i+1) m' σ' H')/\∀x H',(Itt K a).yld i H x H'->g x σ H' fun σ2 H2=>tb { D with nx:=N,ct:=N,bk:=D.nx } σ2 H2):=by
 refine⟨λi m σ H=>m=xs.length - i/\i<=xs.length/\d i σ H,⟨xs.length,by simp,bAE _,j⟩,?_⟩;rintro i m σ H ⟨rfl,hi,p⟩;have q:=f i σ H hi p;by_cases b:i<xs.length
 ·refine .inr ⟨⟨xs,xs[i],q,by simp[b]⟩,d (i+1),fun σ' H' c=>⟨xs.length - (i+1),by lia,rfl,b,c⟩,λx H' y=>?_⟩;obtain⟨e,y⟩:=y;subst e;exact h i x σ _ (y xs q) p
 ·have e:i=xs.length:=by lia
  subst e;exact .inl ⟨⟨xs,q,d9 _⟩,hd σ H p⟩
def iB {lo:Int}{n:Nat}{g:TG}{tb:TS}{D:Ends}{σ:St}{H:Hp}(c:Nat->St->Hp->Prop)(f:c 0 σ H)
  (d:∀i σ H,i<n->c i σ H->g (.int (lo+i)) σ H fun σ2 H2=>tb { D with nx:=c (i+1),ct:=c (i+1),bk:=D.nx } σ2 H2) (hd:∀σ H,c n σ H->D.nx σ H) :
  ∃W:Nat->Nat->St->Hp->Prop,(∃m,W 0 m σ H)/\∀i m σ H,W i m σ H ->
   ((Itr lo n).stop i H/\D.nx σ H)\/((Itr lo n).go i H/\∃N:St->Hp->Prop,(∀σ' H',N σ' H'->∃m',m'<m/\W (i+1) m' σ' H')/\∀x H',(Itr lo n).yld i H x H'->g x σ H' fun σ2 H2=>tb { D with nx:=N,ct:=N,bk:=D.nx } σ2 H2):=by
 refine⟨λi m σ H=>m=n - i/\i<=n/\c i σ H,⟨n,by simp,bAE _,f⟩,?_⟩;rintro i m σ H ⟨rfl,hi,p⟩;by_cases a:i<n
 ·refine .inr ⟨a,c (i+1),fun σ' H' b=>⟨n - (i+1),by lia,rfl,a,b⟩,λx H' y=>?_⟩;obtain⟨e,y⟩:=y;subst e y;exact d i σ _ a p
 ·have e:i=n:=by lia
  subst e;exact .inl ⟨d9 _,hd σ H p⟩
abbrev R2:=V->V->Hp->VK->Prop
def OpR (X:Cx)(f:Value->Value->Sem Value)(r:R2):Prop:=
 ∀bF3 s σ H x y v u Q,Inv X bF3 σ H s->RelV x v->RelV y u->r x y H Q ->
  wpAny (model X.prog X.w) X.A (f v u) (EP X bF3 σ Q) X.xe s
def UnR (X:Cx)(f:Value->Sem Value)(r:V->Hp->VK->Prop):Prop:=
 ∀bF3 s σ H x v Q,Inv X bF3 σ H s->RelV x v->r x H Q ->
  wpAny (model X.prog X.w) X.A (f v) (EP X bF3 σ Q) X.xe s
def cF (X:Cx)(f:Value)(r:List V->Hp->VK->Prop):Prop:=
 ∀bF3 s σ H xs us Q,Inv X bF3 σ H s->Vals xs us->r xs H Q ->
  wpAny (model X.prog X.w) X.A (call f us) (EP X bF3 σ Q) X.xe s
def bFh (X:Cx)(r:V->Hp->(Bool->Hp->Prop)->Prop):Prop:=
 ∀bF3 s σ H x v Q,Inv X bF3 σ H s->RelV x v->r x H Q ->
  wpAny (model X.prog X.w) X.A (truthy v) (TP X bF3 σ Q) X.xe s
def tOp (r:R2)(ta tb:TE):TE:=fun σ H Q=>ta σ H λx H1=>tb σ H1 λy H2=>r x y H2 Q
def tUn (r:V->Hp->VK->Prop)(ta:TE):TE:=fun σ H Q=>ta σ H λx H1=>r x H1 Q
def rI (C:Int->Int->Prop)(g:Int->Int->V):R2:=λx y H Q=>∃i j,x=.int i/\y=.int j/\C i j/\Q (g i j) H
def rI0 (g:Int->Int->V):R2:=λx y H Q=>∃i j,x=.int i/\y=.int j/\Q (g i j) H
def rU (g:Int->V):V->Hp->VK->Prop:=λx H Q=>∃i,x=.int i/\Q (g i) H
def aY1 (m:PE X a ta)(n:PE X b tb){c:bF1}{s:Shared}{σ:St}{H:Hp}{R:V->V->Hp->Prop}(I:Inv X c σ H s)
  (h:ta σ H λx H1=>tb σ H1 λy H2=>R x y H2) {Q:bF0} {f:Value->Value->Sem Value}
  (o:∀v u s2 x y H2,Inv X c σ H2 s2->RelV x v->RelV y u->R x y H2->wpAny (model X.prog X.w) X.A (f v u) Q X.xe s2) :
  wpAny (model X.prog X.w) X.A (eval a X.env) (λv s₁=>wpAny (model X.prog X.w) X.A (eval b X.env) (λu s₂=>wpAny (model X.prog X.w) X.A (f v u) Q X.xe s₂) X.xe s₁) X.xe s:=by
 refine thn (m c s σ H _ I h) λv l ⟨x,H1,i,j,e⟩=>?_;refine thn (n c l σ H1 _ i e) λu s2 ⟨y,H2,g,k,d⟩=>?_;exact o v u s2 x y H2 g j k d
def bEc {op:Operator}{r:R2}(ho:OpR X (binaryOp op) r)(j:PE X a ta)(k:PE X b tb):PE X (.BinOp a op b pos) (tOp r ta tb):=by intro c s σ H Q I h;exact wpAny_BinOp (aY1 j k I h λv u i x y f d e g q=>ho c i σ f x y v u Q d e g q)
def bEb {op:UnaryOp}{r:V->Hp->VK->Prop}(ho:UnR X (unaryOp op) r)(i:PE X a ta):PE X (.UnaryOp op a pos) (tUn r ta):=by intro b s σ H Q I h;exact UnaryOp_ (thn (i b s σ H _ I h) λv e ⟨x,c,f,g,d⟩=>ho b e σ c x v Q f g d)
def opI {f:Value->Value->Sem Value}{C:Int->Int->Prop}{g:Int->Int->Int}
  (a:∀(i j:Int) (t u:Tok) (s:Shared) (Q:bF0) (E:bF0),C i j->Q (.int (g i j) s.toks) { s with toks:=s.toks+1 }->wpAny (model X.prog X.w) X.A (f (.int i t) (.int j u)) Q E s) :
  OpR X f (rI C λi j=>.int (g i j)):=by
 intro k s σ H x y v u Q I b e h;obtain⟨i,j,rfl,rfl,c,q⟩:=h;obtain⟨t,rfl⟩:=b;obtain⟨d,rfl⟩:=e;exact a i j t d s _ _ c ⟨.int (g i j),H,I.tok _,⟨_,rfl⟩,q⟩
def bD1 {f:Value->Value->Sem Value}{g:Int->Int->Int}
  (a:∀(i j:Int) (t u:Tok) (s:Shared) (Q:bF0) (E:bF0),Q (.int (g i j) s.toks) { s with toks:=s.toks+1 }->wpAny (model X.prog X.w) X.A (f (.int i t) (.int j u)) Q E s) :
  OpR X f (rI0 λi j=>.int (g i j)):=by
 intro e s σ H x y v u Q I b d h;obtain⟨i,j,rfl,rfl,q⟩:=h;obtain⟨t,rfl⟩:=b;obtain⟨c,rfl⟩:=d;exact a i j t c s _ _ ⟨.int (g i j),H,I.tok _,⟨_,rfl⟩,q⟩
def aY7 {f:Value->Value->Sem Value}{g:Int->Int->Bool}
  (a:∀(i j:Int) (t u:Tok) (s:Shared) (Q:bF0) (E:bF0),Q (.bool (g i j)) s->wpAny (model X.prog X.w) X.A (f (.int i t) (.int j u)) Q E s) :
  OpR X f (rI0 λi j=>.bl (g i j)):=by
 intro e s σ H x y v u Q I b d h;obtain⟨i,j,rfl,rfl,q⟩:=h;obtain⟨t,rfl⟩:=b;obtain⟨c,rfl⟩:=d;exact a i j t c s _ _ ⟨.bl (g i j),H,I,rfl,q⟩
def bFc (i j:Int):Prop:=0<j/\j<1073741824
def bE8 (i j:Int):Prop:=0<=j/\j<=1000000/\i.natAbs<2 ^ 64
def bBt (i j:Int):Prop:=(-(2 ^ 64)<i/\i<2 ^ 64)\/(-(2 ^ 64)<j/\j<2 ^ 64)
def bBt.ok (h:bBt i j):IntMulOk i j:=by
 rcases h with⟨a,b⟩|⟨a,b⟩
 ·exact .of_left (intBits_le_64 a b)
 ·exact .of_right (intBits_le_64 a b)
def cY:OpR X (binaryOp .Add) (rI0 λi j=>.int (i+j)):=bD1 λ_ _ _ _ _ _ _ q=>add_int q
def aCn:OpR X (binaryOp .Sub) (rI0 λi j=>.int (i - j)):=bD1 λ_ _ _ _ _ _ _ q=>sub_int q
def vG:OpR X (binaryOp .Mult) (rI bBt λi j=>.int (i * j)):=opI λ_ _ _ _ _ _ _ a q=>mul_int q a.ok
def aPi:OpR X (binaryOp .FloorDiv) (rI bFc λi j=>.int (i / j)):=opI λi j _ _ _ _ _ a q=>by have b:=a.1;have c:=a.2;exact floordiv_int (by lia) (by rw[bFK i (by lia)];exact q) (.inl (PyProof.noPylong_small (by lia)))
def lM:OpR X (binaryOp .Mod) (rI (λ_ j=>0<j) λi j=>.int (i % j)):=opI λi j _ _ _ _ _ a q=>by have b:=a;exact mod_int' (by lia) (by rw[bFL i (by lia)];exact q)
def aHw:OpR X (binaryOp .Pow) (rI bE8 λi j=>.int (i ^ j.toNat)):=opI λ_ _ _ _ _ _ _ a q=>pow_int_small a.1 a.2.1 a.2.2 q
def unI {f:Value->Sem Value}{g:Int->Int}
  (a:∀(i:Int) (t:Tok) (s:Shared) (Q:bF0) (E:bF0),Q (.int (g i) s.toks) { s with toks:=s.toks+1 }->wpAny (model X.prog X.w) X.A (f (.int i t)) Q E s) :
  UnR X f (rU λi=>.int (g i)):=by
 intro b s σ H x v Q I c h;obtain⟨i,rfl,q⟩:=h;obtain⟨t,rfl⟩:=c;exact a i t s _ _ ⟨.int (g i),H,I.tok _,⟨_,rfl⟩,q⟩
def aT3:UnR X (unaryOp .USub) (rU λi=>.int (-i)):=unI λ_ _ _ _ _ q=>neg_int q
def scal:V->V->Bool
 |.non,.non=>true|.non,.int _=>true|.int _,.non=>true|.non,.bl _=>true|.bl _,.non=>true|.non,.str _=>true|.str _,.non=>true
 |.int _,.int _=>true|.bl _,.bl _=>true|.str _,.str _=>true|.byt _,.byt _=>true
 |.int _,.str _=>true|.str _,.int _=>true|.bl _,.str _=>true|.str _,.bl _=>true
 |_,_=>false
def rEq:R2:=λx y H Q=>scal x y=true/\Q (.bl (decide (x=y))) H
def rNe:R2:=λx y H Q=>scal x y=true/\Q (.bl (!decide (x=y))) H
def aQe:decide (V.int i=V.int j)=(i == j):=by rw[bCI];simp
def aU6:decide (V.bl i=V.bl j)=(i == j):=by rw[bCI];simp
def aPw:decide (V.str i=V.str j)=(i == j):=by rw[bCI];simp
def aQd:decide (V.byt i=V.byt j)=(i.toList == j.toList):=by rw[bCI];cases i;cases j;simp
section
variable {X:Cx}{a b c:Expr}
def cD (I:Inv X bF3 σ H s)(q:Q (.bl k) H)(e:k=k'):EP X bF3 σ Q (.bool k') s:=by subst e;exact⟨.bl k,H,I,rfl,q⟩
def dX:OpR X (compareOp .Eq) rEq:=by
 intro e s σ H x y v u Q I d a h;obtain⟨c,q⟩:=h;cases x with
 |non=>
  cases d;cases y with
  |non=>cases a;exact PySem.EqNone.eq_none_none (cD I q (by simp))
  |bl j=>cases a;exact PySem.EqNone.eq_none_bool (cD I q (by simp))
  |int j=>obtain⟨b,rfl⟩:=a;exact PySem.EqNone.eq_none_int (cD I q (by simp))
  |str j=>obtain⟨b,rfl⟩:=a;exact PySem.EqNone.eq_none_str (cD I q (by simp))
  |_=>exact absurd (show false=true from c) v8
 |bl i=>
  cases d;cases y with
  |non=>cases a;exact PySem.EqNone.eq_bool_none (cD I q (by simp))
  |bl j=>cases a;exact eq_bool (cD I q aU6)
  |str j=>obtain⟨b,rfl⟩:=a;exact PySem.EqMixed.eq_bool_str (cD I q (by simp))
  |_=>exact absurd (show false=true from c) v8
 |int i=>
  obtain⟨t,rfl⟩:=d;cases y with
  |non=>cases a;exact PySem.EqNone.eq_int_none (cD I q (by simp))
  |int j=>obtain⟨b,rfl⟩:=a;exact eq_int (cD I q aQe)
  |str j=>obtain⟨b,rfl⟩:=a;exact PySem.EqMixed.eq_int_str (cD I q (by simp))
  |_=>exact absurd (show false=true from c) v8
 |str i=>
  obtain⟨t,rfl⟩:=d;cases y with
  |non=>cases a;exact PySem.EqNone.eq_str_none (cD I q (by simp))
  |bl j=>cases a;exact PySem.EqMixed.eq_str_bool (cD I q (by simp))
  |int j=>obtain⟨b,rfl⟩:=a;exact PySem.EqMixed.eq_str_int (cD I q (by simp))
  |str j=>obtain⟨b,rfl⟩:=a;exact eq_str (cD I q aPw)
  |_=>exact absurd (show false=true from c) v8
 |byt i=>
  obtain⟨t,rfl⟩:=d;cases y with
  |byt j=>obtain⟨b,rfl⟩:=a;exact PySem.W.eq_bytes (cD I q aQd)
  |_=>exact absurd (show false=true from c) v8
 |_=>cases y <;> exact absurd (show false=true from c) v8
def wN:OpR X (compareOp .NotEq) rNe:=by
 intro e s σ H x y v u Q I d a h;obtain⟨c,q⟩:=h;cases x with
 |non=>
  cases d;cases y with
  |non=>cases a;exact PySem.EqNone.ne_none_none (cD I q (by simp))
  |bl j=>cases a;exact PySem.EqNone.ne_none_bool (cD I q (by simp))
  |int j=>obtain⟨b,rfl⟩:=a;exact PySem.EqNone.ne_none_int (cD I q (by simp))
  |str j=>obtain⟨b,rfl⟩:=a;exact PySem.EqNone.ne_none_str (cD I q (by simp))
  |_=>exact absurd (show false=true from c) v8
 |bl i=>
  cases d;cases y with
  |non=>cases a;exact PySem.EqNone.ne_bool_none (cD I q (by simp))
  |bl j=>cases a;exact ne_bool (cD I q (congrArg not aU6))
  |str j=>obtain⟨b,rfl⟩:=a;exact PySem.EqMixed.ne_bool_str (cD I q (by simp))
  |_=>exact absurd (show false=true from c) v8
 |int i=>
  obtain⟨t,rfl⟩:=d;cases y with
  |non=>cases a;exact PySem.EqNone.ne_int_none (cD I q (by simp))
  |int j=>obtain⟨b,rfl⟩:=a;exact ne_int (cD I q (congrArg not aQe))
  |str j=>obtain⟨b,rfl⟩:=a;exact PySem.EqMixed.ne_int_str (cD I q (by simp))
  |_=>exact absurd (show false=true from c) v8
 |str i=>
  obtain⟨t,rfl⟩:=d;cases y with
  |non=>cases a;exact PySem.EqNone.ne_str_none (cD I q (by simp))
  |bl j=>cases a;exact PySem.EqMixed.ne_str_bool (cD I q (by simp))
  |int j=>obtain⟨b,rfl⟩:=a;exact PySem.EqMixed.ne_str_int (cD I q (by simp))
  |str j=>obtain⟨b,rfl⟩:=a;exact ne_str (cD I q (congrArg not aPw))
  |_=>exact absurd (show false=true from c) v8
 |byt i=>
  obtain⟨t,rfl⟩:=d;cases y with
  |byt j=>obtain⟨b,rfl⟩:=a;exact PySem.W.ne_bytes (cD I q (congrArg not aQd))
  |_=>exact absurd (show false=true from c) v8
 |_=>cases y <;> exact absurd (show false=true from c) v8
def aJf:OpR X (compareOp .Lt) (rI0 λi j=>.bl (decide (i<j))):=aY7 λ_ _ _ _ _ _ _ q=>lt_int q
def aDe:OpR X (compareOp .LtE) (rI0 λi j=>.bl (decide (i<=j))):=aY7 λ_ _ _ _ _ _ _ q=>le_int q
def aQt:OpR X (compareOp .Gt) (rI0 λi j=>.bl (decide (j<i))):=aY7 λ_ _ _ _ _ _ _ q=>gt_int q
def bE4:OpR X (compareOp .GtE) (rI0 λi j=>.bl (decide (j<=i))):=aY7 λ_ _ _ _ _ _ _ q=>ge_int q
def aS0:OpR X (compareOp .In) (λx y H Q=>∃i j,x=.str i/\y=.str j/\Q (.bl (!(Builtin.Str.occurrences j i 0 j.length 1).isEmpty)) H):=by intro c s σ H x y v u Q I a b h;obtain⟨i,j,rfl,rfl,q⟩:=h;obtain⟨t,rfl⟩:=a;obtain⟨d,rfl⟩:=b;exact in_str (cD I q rfl)
def aOj:OpR X (compareOp .Is) (λx y H Q=>y=.non/\Q (.bl (decide (x=.non))) H):=by
 intro c s σ H x y v u Q I a b h;obtain⟨rfl,q⟩:=h;cases b;refine is_none_gen (cD I q ?_);cases x <;> first
  |(cases a;rfl)
  |(obtain⟨t,rfl⟩:=a;rfl)
def aBw:OpR X (compareOp .IsNot) (λx y H Q=>y=.non/\Q (.bl (!decide (x=.non))) H):=by
 intro c s σ H x y v u Q I a b h;obtain⟨rfl,q⟩:=h;cases b;refine isnot_none_gen (cD I q ?_);cases x <;> first
  |(cases a;rfl)
  |(obtain⟨t,rfl⟩:=a;rfl)
def OpR.or (h:OpR X f r)(h':OpR X f r'):OpR X f (λx y H Q=>r x y H Q\/r' x y H Q):=by
 intro a s σ H x y v u Q I c b q;rcases q with q|q
 ·exact h a s σ H x y v u Q I c b q
 ·exact h' a s σ H x y v u Q I c b q
def aWv (b:Expr)(h:op≠.In:=by decide)(d:op≠.NotIn:=by decide):behindInMarks op b=false:=by
 have c:(op == CmpOp.In)=false:=by cases op <;> first|rfl|exact absurd rfl h
 have a:(op == CmpOp.NotIn)=false:=by cases op <;> first|rfl|exact absurd rfl d
 cases b <;> simp[behindInMarks,c,a]
def aX1 (ho:OpR X (compareOp op) r)(j:PE X a ta)(k:PE X b tb)(l:behindInMarks op b=false):PE X (.Compare a [op] [b] pos) (tOp r ta tb):=by intro c s σ H Q I h;exact wpAny_Compare1 (aY1 j k I h λv u i x y f d e g q=>ho c i σ f x y v u Q d e g q) l
def aJ5 (t:TE):TT:=fun σ H Q=>t σ H λx H'=>∃k,x=.bl k/\Q k H'
def aY0 {op:CmpOp}{r:R2}(ho:OpR X (compareOp op) r)(D:PE X a ta)(E:PE X b tb)(F:behindInMarks op b=false):PT X (.Compare a [op] [b] pos) (aJ5 (tOp r ta tb)):=by
 intro d s σ H Q I h;refine wpAny_isTrue_Compare1 (thn (D d s σ H _ I h) λv w ⟨x,f,n,o,i⟩=>thn (E d w σ f _ n i) λu A ⟨y,p,j,q,g⟩=>
  thn (ho d A σ p x y v u _ j o q g) λc C ⟨z,t,l,m,k,e,B⟩=>?_) F
 subst e;cases m;exact bBG ⟨t,l,B⟩
def aG3 (r r':R2)(ta tb tc:TE):TE:=fun σ H Q=>ta σ H λx H1=>tb σ H1 λy H2=>r x y H2 λz H3=>∃k,z=.bl k /\
 (if k=true then tc σ H3 λw' H4=>r' y w' H4 Q else Q (.bl false) H3)
def aU0 {op op':CmpOp}{r r':R2}(ho:OpR X (compareOp op) r)(t:OpR X (compareOp op') r')(R:PE X a ta)(S:PE X b tb)(O:PE X c tc)
  (P:lastMarks [op,op'] [b,c]=false:=by with_unfolding_all rfl):PE X (.Compare a [op,op'] [b,c] pos) (aG3 r r' ta tb tc):=by
 intro f s σ H Q I h;refine Compare_chain (thn (R f s σ H _ I h) λv L ⟨x,n,q,J,o⟩=>chain_link (thn (S f L σ n _ q o) λu N ⟨y,K,p,g,m⟩=>
  thn (ho f N σ K x y v u _ p J g m) λd w ⟨z,i,j,F,k,e,l⟩=>?_)) P
 subst e;cases F;refine bBG ?_;cases k with
 |false=>exact ite_ff ⟨.bl false,i,j,rfl,l⟩
 |true=>exact ite_tt (chain_last (thn (O f w σ i _ j l) λB D ⟨M,A,E,C,G⟩=>t f D σ A y M u B Q E g C G))
def aTl {op op':CmpOp}{r r':R2}(ho:OpR X (compareOp op) r)(A:OpR X (compareOp op') r')(ha:PE X a ta)(hb:PE X b tb)(Z:PE X c tc)
  (hm:lastMarks [op,op'] [b,c]=false:=by with_unfolding_all rfl):PT X (.Compare a [op,op'] [b,c] pos) (aJ5 (aG3 r r' ta tb tc)):=by
 intro f s σ H Q I h;refine isTrue_chain (thn (ha f s σ H _ I h) λv T ⟨x,n,t,O,o⟩=>test_link (thn (hb f T σ n _ t o) λu V ⟨y,R,p,g,m⟩=>
  thn (ho f V σ R x y v u _ p O g m) λd C ⟨z,i,j,L,k,e,l⟩=>?_)) hm
 subst e;cases L;refine bBG ?_;cases k with
 |false=>obtain⟨k',K,P⟩:=l;cases K;exact ite_ff ⟨i,j,P⟩
 |true=>refine ite_tt (test_last (thn (Z f C σ i _ j l) λE G ⟨U,D,J,F,N⟩=>thn (A f G σ D y U u E _ J g F N) λW Y ⟨z2,q,B,S,k2,M,w⟩=>?_));subst M;cases S;exact bBG ⟨q,B,w⟩
def bBd (K:bFZ)(x:V)(H:Hp)(k:Bool):Prop:=
 match x with
 |.non=>k=false
 |.bl b=>k=b
 |.int i=>k=(i != 0)
 |.str y=>y.length<=sizeLine/\k=((y.length:Int) != 0)
 |.byt y=>y.size<=sizeLine/\k=((y.size:Int) != 0)
 |.ref p=>(∃xs,SqL K H p xs/\k=!xs.isEmpty)\/(∃xs,SqT K H p xs/\k=!xs.isEmpty)\/∃kvs,H p=some (.dK kvs)/\k=!kvs.isEmpty
 |_=>False
def aPb {κ:Type}{kvs:List (κ × V)}{vs:List (κ × Value)}(r:KV kvs vs):(!vs.isEmpty)=!kvs.isEmpty:=by cases r <;> rfl
def aBz (r:Vals xs its):(!its.toArray.isEmpty)=!xs.isEmpty:=by cases r <;> simp
def zA:(sizeLine:Nat)<2 ^ 63:=by rw[sizeLine_eq];decide
def bDd:bFh X (λx H Q=>∃k,bBd X.K x H k/\Q k H):=by
 intro A s σ H x v Q I f h;obtain⟨k,e,q⟩:=h;have B:=zA;have C:sizeLine=16777216:=sizeLine_eq;cases x with
 |non=>cases f;have a:k=false:=e;subst a;exact truthy_none ⟨H,I,q⟩
 |bl b=>cases f;have a:k=b:=e;subst a;exact bBG ⟨H,I,q⟩
 |int i=>obtain⟨t,rfl⟩:=f;have a:k=(i != 0):=e;subst a;exact PySem.P.truthy_int ⟨H,I,q⟩
 |str y=>obtain⟨t,rfl⟩:=f;obtain⟨u,a⟩:y.length<=sizeLine/\k=((y.length:Int) != 0):=e;subst a;exact PySem.P.truthy_str (by lia) ⟨H,I.tok _,q⟩
 |byt y=>obtain⟨t,rfl⟩:=f;obtain⟨u,a⟩:y.size<=sizeLine/\k=((y.size:Int) != 0):=e;subst a;exact PySem.W.truthy_bytes (by lia) ⟨H,I.tok _,q⟩
 |ref p=>
  cases f;have a:(∃d,SqL X.K H p d/\k=!d.isEmpty)\/(∃d,SqT X.K H p d/\k=!d.isEmpty)\/∃kvs,H p=some (.dK kvs)/\k=!kvs.isEmpty:=e;rcases a with⟨d,g,a⟩|⟨d,g,a⟩|⟨kvs,g,a⟩
  ·subst a;obtain⟨l,r,n,o⟩:=I.list g;have c:=r.length;exact wpAny_truthy_list n.isList (by simp only[j6];lia) ⟨H,I.tok _,by rw[aBz r];exact q⟩
  ·subst a;obtain⟨l,r,n,o⟩:=I.tuple g;have c:=r.length;exact truthy_tuple n (by simp only[j6];lia) ⟨H,I.tok _,by rw[aBz r];exact q⟩
  ·subst a;obtain⟨o,z,j,r,m⟩:kvs.length<=sizeLine/\(p == sysModules)=false/\∃j,KV kvs j/\s.heap.DictOf (bJ X.prog X.w) p j:=I.hok p _ g;have c:kvs.length=j.length:=Paired.length r;exact wpAny_truthy_dict z m (by lia) ⟨H,I.tok _,by rw[aPb r];exact q⟩
 |_=>exact (show False from e).elim
def aT9 (j:PE X a ta)(i:∀whole,isTrue a X.env whole=(do let v <-whole;standAt a.pos;holding [v] (truthy v))) :
  PT X a (fun σ H Q=>ta σ H λx H'=>∃k,bBd X.K x H' k/\Q k H'):=by
 intro b s σ H Q I h;exact isTrue_plain (thn (j b s σ H _ I h) λv e ⟨x,c,f,g,d⟩=>bDd b e σ c x v Q f g d) (i _)
def pX:OpR X (binaryOp .Add) (λx y H Q=>∃i j,x=.str i/\y=.str j/\i.length+j.length<=sizeLine/\Q (.str (i++j)) H):=by intro e s σ H x y v u Q I a d h;obtain⟨i,j,rfl,rfl,b,q⟩:=h;obtain⟨t,rfl⟩:=a;obtain⟨c,rfl⟩:=d;exact add_str (λc f=>⟨.str (i++j),H,I.tok _,⟨_,rfl⟩,q⟩) b
def aJd (b:Expr):Prop:=∀o i,subscripted b false o i=operate [o,i] (getItem o i)
def aKq (B:PE X a ta)(C:PE X b tb)(A:aJd b) :
  PE X (.Subscript a b pos) (tOp (λx y H Q=>∃z i c,x=.str z/\y=.int i/\0<=i/\i<2 ^ 63/\i<z.length/\z.cps[i.toNat]?=some c/\Q (.str ⟨#[c]⟩) H) ta tb):=by
 intro p s σ H Q I h;refine Subscript_ (aY1 B C I h λv u k x y n g j o q=>?_);obtain⟨z,i,c,rfl,rfl,w,f,r,m,q⟩:=q;obtain⟨t,rfl⟩:=j;obtain⟨D,rfl⟩:=o;have e:seqIndex? i z.length=some i.toNat:=PySem.StrLaws.seqIndex_nonneg w r;exact tail_any (typeIs_str k z t) slot_str_getitem.lookup (getItem_str (c:=c) (by have d:decide (i < -(2 ^ 63:Int))=false:=v6 (by lia);have l:decide (i ≥ 2 ^ 63)=false:=v6 (by lia);rw[d,l] <;> rfl) (by rw[e];exact m) ⟨.str ⟨#[c]⟩,n,g.tok _,⟨_,rfl⟩,q⟩) (A _ _)
def vals1 (r:Vals [x] us):∃u,us=[u]/\RelV x u:=by
 cases r with
 |cons r1 r2=>cases r2;exact⟨_,rfl,r1⟩
def vals2 (r:Vals [x,y] us):∃u w',us=[u,w']/\RelV x u/\RelV y w':=by
 cases r with
 |cons r1 r2=>
  cases r2 with
  |cons r3 r4=>cases r4;exact⟨_,_,rfl,r1,r3⟩
def aWw:cF X (.builtin "abs") (λxs H Q=>∃i,xs=[.int i]/\Q (.int (if i<0 then -i else i)) H):=by intro a s σ H xs c Q I r h;obtain⟨i,rfl,q⟩:=h;obtain⟨u,rfl,t,rfl⟩:=vals1 r;exact call_abs_int λu b=>⟨.int (if i<0 then -i else i),H,I.tok _,⟨_,rfl⟩,q⟩
def aSe (e:X.calm=true):cF X (.builtin "max") (λxs H Q=>∃i j,xs=[.int i,.int j]/\Q (.int (if j > i then j else i)) H):=by
 intro b s σ H xs g Q I r h;obtain⟨i,j,rfl,q⟩:=h;obtain⟨u,l,rfl,⟨t,rfl⟩,⟨f,rfl⟩⟩:=vals2 r;refine max_two_ints (I.ok.hd e) λd c k=>⟨_,H,I.kept k,?_,q⟩;by_cases a:j > i
 ·rw[if_pos a,if_pos a];exact⟨_,rfl⟩
 ·rw[if_neg a,if_neg a];exact⟨_,rfl⟩
def aFz:cF X (.type "int") (λxs H Q=>(∃i,xs=[.int i]/\Q (.int i) H)\/∃k,xs=[.bl k]/\Q (.int (if k then 1 else 0)) H):=by
 intro b s σ H xs c Q I r h;rcases h with⟨i,rfl,q⟩|⟨k,rfl,q⟩
 ·obtain⟨u,rfl,t,rfl⟩:=vals1 r;exact call_int_int ⟨.int i,H,I,⟨_,rfl⟩,q⟩
 ·obtain⟨u,rfl,a⟩:=vals1 r;cases a;exact call_int_bool ⟨.int (if k then 1 else 0),H,I.tok _,⟨_,rfl⟩,q⟩
end
structure aNa (h:Heap)(x dx C:Addr)(mA:bF2):Prop where
 obj:h.get? x=some (PySem.W.instObj C dx)
 ns:h.Ns1 dx mA
 ne:dx≠x
def aSh {h:Heap}{dx:Addr}{mA:bF2}(n:h.Ns1 dx mA):∃od,h.get? dx=some od/\∀name,PySem.W.lookIn name od=some (mA name):=by
 obtain⟨o,c,k,g,hd,d,_,j⟩:=n;refine⟨o,g,λname=>?_⟩;have e:=j name;unfold nsFind findBy at e;rw[<-Array.find?_toList] at e;unfold PySem.W.lookIn;rw[hd];dsimp only
 split
 ·rename_i y q;rw[q] at e;exact congrArg some e
 ·rename_i q;rw[q] at e;have a:c.toList.any (·.refKey)=false:=by rw[List.any_eq_false];intro y f;obtain⟨z,t,b⟩:=d y (Array.mem_toList_iff.mp f);simp[DictEntry.refKey,b]
  have i:¬ c.toList.any (·.refKey)=true:=by rw[a];exact v8
  rw[if_neg i];exact congrArg some e
def aNa.look (I:aNa h x dx C mA):∃od,PySem.W.InstAt h x (PySem.W.instObj C dx) C (some od)/\∀name,PySem.W.lookIn name od=some (mA name):=
 let ⟨od,ho,hl⟩:=aSh I.ns
 ⟨od,⟨I.obj,rfl,rfl,ho⟩,hl⟩
section
variable {prog:Program}{w:World}{A:Around}{E:bF0}{s:Shared}{K:bFZ}{x dx C f:Addr}{mA:bF2}{name:Str}{v:Value}
def aYc (X:K.In s.heap)(I:aNa s.heap x dx C mA)(c:PySem.W.plainGet K C name=true)(f:PySem.W.hasDictIn K C=true)
  (d:PySem.W.findIn K (.ref C) name=some none) (g:mA name=some v) (b:PySem.W.handedIn v=true) (h:Q v { s with toks:=s.toks+1 }) :
  wpAny (model prog w) A (getAttr (.ref x) name expr) Q E s:=by
 obtain⟨e,J,a⟩:=I.look;exact PySem.W.get_value X J (PySem.W.plainGet_of c).1 (PySem.W.findObj_own f d rfl (by rw[a,g])) b h
def aTb (X:K.In s.heap)(I:aNa s.heap x dx C mA)(b:PySem.W.plainGet K C name=true)
  (e:PySem.W.findIn K (.ref C) name=some (some (.ref f))) (d:PySem.W.isFn K (.ref f)=true) (g:mA name=none) (h:Q (.ref f,[.ref x]) s) :
  wpAny (model prog w) A (getMethod (.ref x) name pl) Q E s:=by
 obtain⟨c,J,a⟩:=I.look;exact PySem.W.method_fn X J (PySem.W.plainGet_of b).1 (PySem.W.plainGet_of b).2 e (beq_iff_eq.mp d) (by show (PySem.W.lookIn name c).map (·.isSome)=some false;rw[a,g];rfl) h
def aYf (X:K.In s.heap)(I:aNa s.heap x dx C mA)
  (n:PySem.W.findIn K (.ref C) "__setattr__"=some (some (.builtin "object.__setattr__"))) (p:PySem.W.plainOver K C=true) (o:PySem.W.takerIn K C name=some none) (u:PySem.W.hasDictIn K C=true)
  (q:PySem.Within mA ns) (hsz:ns.length<=sizeLine)
  (h:∀h',aNa h' x dx C (λy=>if y=name then some v else mA y)->Heap.SameBut dx s.heap h'->Q () { s with heap:=h',toks:=s.toks+2 }) :
  wpAny (model prog w) A (setAttr (.ref x) name v) Q E s:=by
 obtain⟨t,J,m⟩:=I.look;refine PySem.W.set_plain X J n (PySem.W.osa_open X J p o λb=>?_);obtain⟨z,k,d⟩:=PySem.W.any_some u;have j:=I.obj;refine b7 (d8 (b7 (b7 (wpAny_loadPart j (b7 (PySem.W.Looks.here (PySem.W.looks_clsIn X k) ?_))))));rw[d];refine d8 (b7 (d8 (b7 ?_)));refine wpAny_nsSet1 I.ns λh' a c=>?_;obtain⟨r,i,l,f,g,e⟩:=a.count (PySem.Within.cons name v q);refine b7 (wpAny_lookBehind f (by rw[g];exact pastItsLine_dict (bAI e (by rw[j9];lia))) ?_);exact d8 (h _ ⟨(c.2 _ (Ne.symm I.ne)).trans I.obj,a,I.ne⟩ c)
def aUf (X:K.In s.heap)(i:PySem.W.makesIn K C=true)
  (hi:PySem.W.findIn K (.ref C) "__init__"=some (some (.ref f))) (b:PySem.W.typeIn K (.ref f)=some (.type "function"))
  (h:codeAny (model prog w) (A.under (.builtin "type.__call__" ⟨.ref C::vs,kw⟩)) (.call (.ref f) ⟨.ref (s.heap.objs.size+1)::vs,kw⟩) (PySem.W.InitBack (s.heap.objs.size+1) R)
   { s with heap:=(s.heap.push PySem.W.emptyDict).push (PySem.W.instObj C s.heap.objs.size) }) :
  codeAny (model prog w) A (.call (.ref C) ⟨vs,kw⟩) R s:=by
 obtain⟨e,g,d,t,c⟩:=s;exact PySem.W.make_core (PySem.W.makes_of X i) (PySem.W.looks_findIn X hi) (λa=>PySem.W.bind_fn X a b) (.inl rfl) h
end
def iZ (f:Str)(v:V):List (Str × V)->List (Str × V)
 |[]=>[(f,v)]
 |(g,x)::r=>if g=f then (g,v)::r else (g,x)::iZ f v r
theorem aAr (f g:Str)(v:V):∀fs:List (Str × V),(iZ f v fs).lookup g=if g=f then some v else fs.lookup g
 |[]=>by
  show List.lookup g [(f,v)]=_;by_cases h:g=f
  ·have a:(g == f)=true:=beq_iff_eq.mpr h;simp only[List.lookup,a,if_pos h]
  ·have a:=beq_eq_false_iff_ne.mpr h;simp only[List.lookup,a,if_neg h]
 |(k,x)::r=>by
  have c:=aAr f g v r;rw[show iZ f v ((k,x)::r)=(if k=f then (k,v)::r else (k,x)::iZ f v r) from rfl];by_cases b:k=f
  ·rw[if_pos b];by_cases h:g=k
   ·have a:=beq_iff_eq.mpr h;simp only[List.lookup,a,if_pos (h.trans b)]
   ·have a:=beq_eq_false_iff_ne.mpr h;simp only[List.lookup,a,if_neg (λe:g=f=>h (e.trans b.symm))]
  ·rw[if_neg b];by_cases h:g=k
   ·have a:=beq_iff_eq.mpr h;simp only[List.lookup,a,if_neg (λe:g=f=>b (h.symm.trans e))]
   ·have a:=beq_eq_false_iff_ne.mpr h;simp only[List.lookup,a];exact c
theorem yZ (f:Str)(v:V):∀fs:List (Str × V),f∈(iZ f v fs).map (·.1)/\∀g,g∈fs.map (·.1)->g∈(iZ f v fs).map (·.1)
 |[]=>⟨by simp[iZ],λg h=>by simp at h⟩
 |(k,x)::r=>by
  obtain⟨b,c⟩:=yZ f v r;rw[show iZ f v ((k,x)::r)=(if k=f then (k,v)::r else (k,x)::iZ f v r) from rfl];by_cases a:k=f
  ·rw[if_pos a];subst a;exact⟨by simp,λg h=>by simpa using h⟩
  ·rw[if_neg a];refine⟨?_,λg h=>?_⟩
   ·rw[bAF];exact j7 _ b
   ·rw[bAF] at h ⊢;rcases List.mem_cons.mp h with e|e
    ·exact List.mem_cons.mpr (.inl e)
    ·exact j7 _ (c g e)
theorem aAx (f:Str)(v:V):∀fs:List (Str × V),(iZ f v fs).length<=fs.length+1
 |[]=>by simp[iZ]
 |(k,x)::r=>by
  have b:=aAx f v r;rw[show iZ f v ((k,x)::r)=(if k=f then (k,v)::r else (k,x)::iZ f v r) from rfl];by_cases a:k=f
  ·rw[if_pos a,j9,j9];lia
  ·rw[if_neg a,j9,j9];lia
def oZ.some_of (r:oZ (some v) o):∃u,o=some u/\RelV v u:=by
 cases o with
 |none=>exact (show False from r).elim
 |some u=>exact⟨u,rfl,r⟩
def oZ.none_of (r:oZ none o):o=none:=by
 cases o with
 |none=>rfl
 |some u=>exact (show False from r).elim
def aQ4 (r:RelV v u):PySem.W.handedIn u=true:=by
 cases v with
 |non=>cases (show u=Value.none from r);rfl
 |bl b=>cases (show u=Value.bool b from r);rfl
 |int i=>obtain⟨t,e⟩:=(show ∃t,u=Value.int i t from r);cases e;rfl
 |str x=>obtain⟨t,e⟩:=(show ∃t,u=Value.str x t from r);cases e;rfl
 |byt b=>obtain⟨t,e⟩:=(show ∃t,u=Value.bytes b t from r);cases e;rfl
 |flt b=>obtain⟨t,e⟩:=(show ∃t,u=Value.float b t from r);cases e;rfl
 |ref a=>cases (show u=Value.ref a from r);rfl
 |ty n=>cases (show u=Value.type n from r);rfl
def aHl (b:HOk P w H h)(e:H a=some (.ins C dx fs)):∃mA,aNa h a dx C mA/\(∀f,oZ (fs.lookup f) (mA f))/\PySem.Within mA (fs.map (·.1))/\fs.length<=1000/\H dx=some (.own a):=by obtain⟨d,z,g,c,mA,n,r,q⟩:=(show dN P w H h a (.ins C dx fs) from b a _ e);exact⟨mA,⟨c,n,g⟩,r,q,z,d⟩
structure Cls (K:bFZ)(C:Addr):Prop where
 pg:PySem.W.plainGet K C Str.empty=true
 hd:PySem.W.hasDictIn K C=true
 po:PySem.W.plainOver K C=true
 sa:PySem.W.findIn K (.ref C) "__setattr__"=some (some (.builtin "object.__setattr__"))
def Cls.get {K:bFZ}{C:Addr}(c:Cls K C)(f:Str):PySem.W.plainGet K C f=true:=c.pg
def bU (K:bFZ)(C:Addr)(f:Str):Prop:=PySem.W.findIn K (.ref C) f=some none
def bU.taker {K:bFZ}{C:Addr}{f:Str}(n:bU K C f):PySem.W.takerIn K C f=some none:=by unfold PySem.W.takerIn;rw[show PySem.W.findIn K (.ref C) f=some none from n];rfl
structure Meth (K:bFZ)(C:Addr)(m:Str)(f:Addr):Prop where
 at_:PySem.W.findIn K (.ref C) m=some (some (.ref f))
 fn:PySem.W.isFn K (.ref f)=true
 kp:PySem.W.keepIn K (.ref f)=true
section
variable {X:Cx}{bF3:bF1}{σ:St}{H:Hp}{s:Shared}{a C dx:Addr}{fs:List (Str × V)}{f:Str}{v:V}{A:Around}{E:bF0}
def aM1 (I:Inv X bF3 σ H s)(e:H a=some (.ins C dx fs))(c:Cls X.K C)(n:bU X.K C f)(l:fs.lookup f=some v)
  (h:∀u s',Inv X bF3 σ H s'->RelV v u->Q u s'):wpAny (model X.prog X.w) A (getAttr (.ref a) f b) Q E s:=by
 obtain⟨i,O,r,_,_,_⟩:=aHl I.hok e;obtain⟨u,g,d⟩:=oZ.some_of (by rw[<-l];exact r f);exact aYc I.kIn O (c.get f) c.hd n g (aQ4 d) (h u _ (I.tok _) d)
def aB2 (I:Inv X bF3 σ H s)(e:H a=some (.ins C dx fs))(c:Cls X.K C)(k:Meth X.K C m g)(l:fs.lookup m=none)
  (h:Q (.ref g,[.ref a]) s):wpAny (model X.prog X.w) A (getMethod (.ref a) m pl) Q E s:=by
 obtain⟨d,O,r,_,_,_⟩:=aHl I.hok e;have b:=oZ.none_of (by rw[<-l];exact r m);exact aTb I.kIn O (c.get m) k.at_ k.fn b h
def aOf {y:V}{u:Value}{Q:Unit->Shared->Prop}(I:Inv X bF3 σ H s)(e:H a=some (.ins C dx fs))(c:Cls X.K C)(n:bU X.K C f)(hl:fs.length<1000)(B:RelV y u)
  (h:∀s',Inv X bF3 σ (upd H a (.ins C dx (iZ f y fs))) s'->Q () s'):wpAny (model X.prog X.w) A (setAttr (.ref a) f u) Q E s:=by
 obtain⟨j,O,r,i,_,k⟩:=aHl I.hok e;have t:(fs.map (·.1)).length<=sizeLine:=by rw[j4,sizeLine_eq];lia
 refine aYf I.kIn O c.sa c.po n.taker c.hd i t λv d p=>h _ ?_;have hd:∃o,v.get? dx=some o:=let ⟨o,_,_,e',_⟩:=d.ns;⟨o,e'⟩
 refine I.write (x:=a) (e:=dx) (by rw[e];exact True.intro) (.inr k) (λb q m z=>(p.2 b m).trans z) hd ?_;refine⟨by rw[aQ O.ne];exact k,?_,O.ne,d.obj,_,d.ns,λg=>?_,λg l=>?_⟩
 ·have:=aAx f y fs;lia
 ·show oZ ((iZ f y fs).lookup g) (if g=f then some u else j g);rw[aAr];by_cases q:g=f
  ·rw[if_pos q,if_pos q];exact B
  ·rw[if_neg q,if_neg q];exact r g
 ·by_cases q:g=f
  ·rw[q];exact (yZ f y fs).1
  ·refine (yZ f y fs).2 g (i g λz=>l ?_);show (if g=f then some u else j g)=none;rw[if_neg q];exact z
def Inv.made (I:Inv X bF3 σ H s):Inv X bF3 σ (upd (upd H s.heap.objs.size (.own (s.heap.objs.size+1))) (s.heap.objs.size+1) (.ins C s.heap.objs.size []))
  { s with heap:=(s.heap.push PySem.W.emptyDict).push (PySem.W.instObj C s.heap.objs.size) }:=by
 have c:(s.heap.push PySem.W.emptyDict).get? s.heap.objs.size=some PySem.W.emptyDict:=j8 s.heap rfl;have h:((s.heap.push PySem.W.emptyDict).push (PySem.W.instObj C s.heap.objs.size)).get? (s.heap.objs.size+1)=some (PySem.W.instObj C s.heap.objs.size):=by
  have:=j8 (s.heap.push PySem.W.emptyDict) (o:=PySem.W.instObj C s.heap.objs.size) rfl
  rwa [bBS] at this
 have g:(s.heap.push PySem.W.emptyDict).Ns s.heap.objs.size (λ_=>none):=⟨PySem.W.emptyDict,#[],_,c,rfl,(λe f=>absurd f (by simp)),λ_=>rfl⟩;have i:=I.laid (a:=s.heap.objs.size) (o:=.own (s.heap.objs.size+1)) (h':=s.heap.push PySem.W.emptyDict) (t':=s.toks) (λb u q=>d7 _ q) (d9 _) ⟨_,c⟩;refine i.laid (a:=s.heap.objs.size+1) (o:=.ins C s.heap.objs.size []) (t':=s.toks) (λb u q=>d7 _ q) (Nat.le_of_eq (bBS _ _)) ?_;have d:s.heap.objs.size≠s.heap.objs.size+1:=z9 (bCV _);refine⟨by rw[aQ d,aG],bAE _,d,h,λ_=>none,(Heap.Ns1.of_empty g).at λo q=>d7 _ q,λ_=>True.intro,λy j=>absurd rfl j⟩
def aZk (a:attributeBase e f env (eval e env)=eval e env)
  (h:wpAny (model prog w) A (eval e env) (λo s₁=>wpAny (model prog w) A (getAttr o f true) Q E s₁) E s):wpAny (model prog w) A (eval (.Attribute e f pos) env) Q E s:=
 Attribute_any_ h (by rw[arm_eval_Attribute,a])
end
def bDi (K:bFZ)(ta:TE)(f:Str):TE:=fun σ H Q=>ta σ H λx H1=>∃a C dx fs v,x=.ref a/\H1 a=some (.ins C dx fs)/\Cls K C/\bU K C f/\fs.lookup f=some v/\Q v H1
def bDt (K:bFZ)(ta tv:TE)(f:Str):TS:=λD σ H=>tv σ H λy H1=>ta σ H1 λx H2=>∃a C dx fs,x=.ref a/\H2 a=some (.ins C dx fs)/\Cls K C/\bU K C f/\fs.length<1000 /\
 D.nx σ (upd H2 a (.ins C dx (iZ f y fs)))
def bCk (p:PE X e ta)(w:attributeBase e f X.env (eval e X.env)=eval e X.env):PE X (.Attribute e f pos) (bDi X.K ta f):=by intro b s σ H Q I h;refine aZk w (thn (p b s σ H _ I h) λu z ⟨x,d,j,i,a,C,r,y,v,k,m,c,n,l,q⟩=>?_);subst k;obtain rfl:u=Value.ref a:=i;exact aM1 j m c n l λt A g o=>⟨v,d,g,o,q⟩
def bAi (E:PE X o ta)(z:PE X value tv)(w:swapsWith value (some (.Attribute o f pos')) pos.line X.env=pure false):PS X (.Assign [.Attribute o f pos'] value pos) (bDt X.K ta tv f):=by intro b s σ H D I h;refine plainObj_wpAny_Assign_Attribute (thn (z b s σ H _ I h) λu t ⟨y,e,i,v,q⟩=>thn (E b t σ e _ i q) λr J ⟨x,G,g,m,a,C,F,A,p,j,c,n,l,d⟩=>?_) w;subst p;obtain rfl:r=Value.ref a:=m;exact aOf g j c n l v λB k=>⟨σ,_,k,d⟩
structure Room (k:Nat)(A:Around):Prop where
 hd:A.handled=none
 dp:A.depth+3 * k+5<recursionLimit
 un:A.units+16 * k+200<cLine
def Room.mono (r:Room k A)(h:j<=k):Room j A:=⟨r.hd,by have:=r.dp;lia,by have:=r.un;lia⟩
def Room.deeper (r:Room (k+1) A)(env:Env):Room k (A.deeper env):=
 ⟨r.hd,by have:=r.dp;show A.depth+1+3 * k+5<_;lia,by have:=r.un;show A.units+3+16 * k+200<_;lia⟩
def aM7 {A:Around}{C:Addr}{us:List Value}{kw:List (Str × Value)}:(A.under (.builtin "type.__call__" ⟨.ref C::us,kw⟩)).depth=A.depth+1:=by
 first|rfl|simp[Around.under,Code.weight,Code.isCreation,Code.isGuard,Code.isCaller,Code.frames,Code.isFrame,guardIds]
def aMz {A:Around}{C:Addr}{us:List Value}{kw:List (Str × Value)}:(A.under (.builtin "type.__call__" ⟨.ref C::us,kw⟩)).units=A.units+1:=by
 first|rfl|simp[Around.under,Code.cUnits,Code.frames,Code.isFrame]
def Room.make (r:Room (k+1) A)(C:Addr)(us:List Value)(kw:List (Str × Value)):Room k (A.under (.builtin "type.__call__" ⟨.ref C::us,kw⟩)):=
 ⟨r.hd,by have:=r.dp;rw[aM7];lia,by have:=r.un;rw[aMz];lia⟩
def Room.depth (r:Room k A):A.depth<recursionLimit:=by have:=r.dp;lia
def Room.units (r:Room k A):A.units+64<cLine:=by have:=r.un;lia
def aBl:TA:=λ_ H Q=>Q [] H
def dZ (ta:TE)(tr:TA):TA:=fun σ H Q=>ta σ H λx H1=>tr σ H1 λxs H2=>Q (x::xs) H2
def bBp:PA X [] aBl:=λ_ _ _ _ H Q I h=>bEM ⟨[],H,I,.nil,h⟩
def aYn (q:PE X e te)(o:PA X es t)(p:starEach (e::es) X.env=(false,eval e X.env)::starEach es X.env:=by rfl):PA X (e::es) (dZ te t):=by intro a b s σ H Q I h;rw[p];show wpAny _ _ (spliced ((false,eval e X.env)::backTo a (starEach es X.env))) _ _ s;refine bBX (thn (q b s σ H _ I h) λu n ⟨x,c,i,j,f⟩=>?_);exact thn (o a b n σ c _ i f) λr v ⟨m,k,g,l,d⟩=>⟨x::m,k,g,.cons j l,d⟩
abbrev Sp:=List V->Hp->VK->XK->Prop
abbrev CXT:=List Env->Hp->Shared->XK->Value->Shared->Prop
structure aIb (P:Program)(w:World)(K:bFZ)(mg:bF2)(base:Heap)(A:Around)(outer:List Env)(s:Shared)(H:Hp):Prop where
 frames:A.frames=some outer
 mod:Mod K mg base
 bs:∀b o,base.get? b=some o->s.heap.get? b=some o/\H b=none
 bsz:base.objs.size<=s.heap.objs.size
 funs:s.heap.FunFrames base outer
 frf:∀b∈frs outer,H b=none
 hok:HOk P w H s.heap
 bare:AllBare s.gens
def CE (outer:List Env)(P:Program)(w:World)(H:Hp)(s:Shared)(Q:VK)(u:Value)(s':Shared):Prop:=
 ∃v H',s'.os=s.os/\AllBare s'.gens/\Un (frs outer) [] H H' s.heap s'.heap/\HOk P w H' s'.heap/\RelV v u/\Q v H'
def CR (CX:CXT)(outer:List Env)(P:Program)(w:World)(H:Hp)(s:Shared)(Q:VK)(E:XK)(r:Result)(s':Shared):Prop:=
 match r with
 |.ok (.ret u)=>CE outer P w H s Q u s'
 |.ok _=>False
 |.error e=>CX outer H s E e s'
structure kZ (P:Program)(w:World)(K:bFZ)(mg:bF2)(base:Heap)(CX:CXT)(k:Nat)(f:Addr)(fd:FuncData)(ps:List Str)(sp:Sp):Prop where
 len:∀vs H Q E,sp vs H Q E->vs.length=ps.length
 run:∀(A:Around) (outer:List Env) (s:Shared) (H:Hp) (args:Args) (us:List Value) (vs:List V) (Q:VK) (E:XK),Room k A->aIb P w K mg base A outer s H->BindsTo s fd args (ps.zip us)->Vals vs us->sp vs H Q E ->
  codeAny (model P w) A (.call (.ref f) args) (CR CX outer P w H s Q E) s
def kZ.mono {P:Program}{w:World}{K:bFZ}{mg:bF2}{base:Heap}{CX:CXT}{j k:Nat}{f:Addr}{fd:FuncData}{ps:List Str}{sp:Sp}(F:kZ P w K mg base CX j f fd ps sp)(h:j<=k) :
  kZ P w K mg base CX k f fd ps sp:=⟨F.len,λA a s H b d e Q E c=>F.run A a s H b d e Q E (c.mono h)⟩
def aIb.make {P:Program}{w:World}{K:bFZ}{mg:bF2}{base:Heap}{A:Around}{outer:List Env}{s:Shared}{H:Hp}(e:aIb P w K mg base A outer s H)(C:Addr)(us:List Value)(kw:List (Str × Value)) :
  aIb P w K mg base (A.under (.builtin "type.__call__" ⟨.ref C::us,kw⟩)) outer s H:=⟨by first|exact e.frames|(simpa [Around.under,Code.envs,Code.isFrame,pushEnvs] using e.frames),e.mod,e.bs,e.bsz,e.funs,e.frf,e.hok,e.bare⟩
def Inv.env0 (I:Inv X bF3 σ H s):aIb X.prog X.w X.K X.mg X.base X.A X.stack s H:=
 ⟨I.ok.frames,I.ok.mod,I.bs,bAI I.ok.bsz I.sz,I.stack,I.yL,I.hok,I.bare⟩
def Inv.after (I:Inv X bF3 σ H s)(h:CE X.stack X.prog X.w H s Q u s'):EP X bF3 σ Q u s':=by obtain⟨v,f,i,a,k,c,r,q⟩:=h;obtain⟨j,g,d,t,e⟩:=s';obtain rfl:e=s.os:=i;exact⟨v,f,I.call (h':=j) (g':=g) (d':=d) (t':=t) k c a (λb z=>absurd z (by simp)),r,q⟩
def aAi (sp:Sp)(dvs:List V)(E:XK)(t:TA):TE:=fun σ H Q=>t σ H λvs H1=>sp (vs++dvs) H1 Q E
def aLd (C:Addr)(m:Str)(sp:Sp)(dvs:List V)(E:XK)(ta:TE)(t:TA):TE:=fun σ H Q=>ta σ H λx H1=>∃a dx fs,x=.ref a/\H1 a=some (.ins C dx fs)/\fs.lookup m=none /\
 t σ H1 λvs H2=>sp (x::(vs++dvs)) H2 Q E
def aZy (C:Addr)(sp:Sp)(dvs:List V)(E:XK)(t:TA):TE:=fun σ H Q=>t σ H λvs H1=>∀x dx,H1 x=none->H1 dx=none->dx≠x ->
 sp (.ref x::(vs++dvs)) (upd (upd H1 dx (.own x)) x (.ins C dx [])) (λv H2=>v=.non/\Q (.ref x) H2) E
def Binds (K:bFZ)(fd:FuncData)(ps:List Str)(ds:List Value):Prop:=
 ∀s us,K.In s.heap->(us++ds).length=ps.length->BindsTo s fd ⟨us,[]⟩ (ps.zip (us++ds))
def Binds.all {K:bFZ}{fd:FuncData}{ps:List Str}(h:∀us:List Value,us.length=ps.length->bindArgs fd ⟨us,[]⟩=pure (ps.zip us)):Binds K fd ps []:=λs us _ a=>by rw[bCJ] at a ⊢;exact .of_eq (h us a)
def sU (CX:CXT)(X:Cx)(E:XK):Prop:=∀bF3 σ H s e s',Inv X bF3 σ H s->CX X.stack H s E e s'->X.xe e s'
def aCa (F:kZ X.prog X.w X.K X.mg X.base CX k f fd ps sp)(g:Room k X.A)(j:Binds X.K fd ps ds)(hd:Vals dvs ds)(i:sU CX X E)
  (I:Inv X bF3 σ H s) (r:Vals vs us) (h:sp (vs++dvs) H Q E):wpAny (model X.prog X.w) X.A (call (.ref f) us) (EP X bF3 σ Q) X.xe s:=by
 have b:=r.append hd;have c:(us++ds).length=ps.length:=by rw[<-b.length];exact F.len _ _ _ _ h
 refine bFM (bCZ (F.run X.A X.stack s H ⟨us,[]⟩ (us++ds) (vs++dvs) Q E g I.env0 (j s us I.kIn c) b h) λr d a=>?_);cases r with
 |error e=>exact i bF3 σ H s e d I a
 |ok fl=>
  cases fl with
  |ret u=>exact I.after a
  |next=>exact False.elim a
  |brk=>exact False.elim a
  |cont=>exact False.elim a
def aYg (F:kZ X.prog X.w X.K X.mg X.base CX k f fd ps sp)(j:Room k X.A)(m:Gl X x)(v:X.mg x=some (.ref f))(i:PySem.W.keepIn X.K (.ref f)=true)(o:Binds X.K fd ps ds)(hd:Vals dvs ds)(u:sU CX X E)
  (n:PA X (e::es) t) (c:(x == ("__debug__":Str))=false:=by decide) (l:starEach (e::es) X.env=(false,eval e X.env)::starEach es X.env:=by rfl) (d:(backTo pos (starEach es X.env)).any (·.1)=false:=by rfl) :
  PE X (.Call (.Name x p) (e::es) [] pos) (aAi sp dvs E t):=by
 intro a s σ H Q I h;refine bBT (wF I m v ?_ c);refine PySem.W.callWith_K (h₀:=X.base) I.ok.mod.kin i (thn (n pos a s σ H _ I h) λz y ⟨B,g,b,r,q⟩=>⟨b.kIn,?_⟩) l d;exact aCa F j o hd u b r q
def aTp (F:kZ X.prog X.w X.K X.mg X.base CX k f fd ps sp)(d:Room k X.A)(e:Gl X x)(j:X.mg x=some (.ref f))(c:PySem.W.keepIn X.K (.ref f)=true)(g:Binds X.K fd ps ds)(hd:Vals dvs ds)(i:sU CX X E)
  (a:(x == ("__debug__":Str))=false:=by decide):PE X (.Call (.Name x p) [] [] pos) (aAi sp dvs E aBl):=by
 intro b s σ H Q I h;refine bBT (wF I e j ?_ a);exact PySem.W.callWith_K0 I.kIn c (aCa F d g hd i I .nil h)
def aXf {pl:Sem Bool}(M:PE X o ta)(c:Cls X.K C)(v:Meth X.K C m f)(F:kZ X.prog X.w X.K X.mg X.base CX k f fd ps sp)(L:Room k X.A)(P:Binds X.K fd ps ds)(hd:Vals dvs ds)(R:sU CX X E)(N:PA X (e::es) t)
  (p:starEach (e::es) X.env=(false,eval e X.env)::starEach es X.env:=by rfl) (z:(backTo pos (starEach es X.env)).any (·.1)=false:=by rfl)
  (G:eval (.Call (.Attribute o m apos) (e::es) [] pos) X.env=(do
   let ov <-eval o X.env
   standAt apos.atName
   let (f,first) <-holding [ov] (getMethod ov m pl)
   callWith pos f first (backTo pos (starEach (e::es) X.env)) (backToKw pos (keywordEach [] X.env))):=by rfl) :
  PE X (.Call (.Attribute o m apos) (e::es) [] pos) (aLd C m sp dvs E ta t):=by
 intro b s σ H Q I h;refine PySem.W.methodCall_KW (pl:=pl) (thn (M b s σ H _ I h) λu D ⟨x,j,g,y,a,O,J,B,n,l,q⟩=>?_) G;subst B;obtain rfl:u=Value.ref a:=y;refine aB2 g n c v l ?_;refine PySem.W.callWith_K (first:=[.ref a]) (h₀:=X.base) I.ok.mod.kin v.kp (thn (N pos b D σ j _ g q) λus T ⟨vs,S,d,r,i⟩=>⟨d.kIn,?_⟩) p z;exact aCa (us:=.ref a::us) (vs:=.ref a::vs) F L P hd R d (.cons rfl r) i
def aTy {pl:Sem Bool}(r:PE X o ta)(c:Cls X.K C)(j:Meth X.K C m f)(F:kZ X.prog X.w X.K X.mg X.base CX k f fd ps sp)(p:Room k X.A)(y:Binds X.K fd ps ds)(hd:Vals dvs ds)(z:sU CX X E)
  (t:eval (.Call (.Attribute o m apos) [] [] pos) X.env=(do
   let ov <-eval o X.env
   standAt apos.atName
   let (f,first) <-holding [ov] (getMethod ov m pl)
   callWith pos f first (backTo pos (starEach [] X.env)) (backToKw pos (keywordEach [] X.env))):=by rfl) :
  PE X (.Call (.Attribute o m apos) [] [] pos) (aLd C m sp dvs E ta aBl):=by
 intro d s σ H Q I h;refine PySem.W.methodCall_KW (pl:=pl) (thn (r d s σ H _ I h) λu D ⟨x,n,b,e,a,v,B,g,i,l,q⟩=>?_) t;subst g;obtain rfl:u=Value.ref a:=e;refine aB2 b i c j l ?_;exact PySem.W.callWith_K0 (first:=[.ref a]) b.kIn j.kp (aCa (us:=[.ref a]) (vs:=[.ref a]) F p y hd z b (.cons rfl .nil) q)
structure Mk (K:bFZ)(C f:Addr):Prop where
 makes:PySem.W.makesIn K C=true
 init:PySem.W.findIn K (.ref C) "__init__"=some (some (.ref f))
 fn:PySem.W.isFn K (.ref f)=true
 kp:PySem.W.keepIn K (.ref C)=true
def aVg {n:bF1}{σ:St}{H:Hp}{s:Shared}{Q:VK}{us:List Value}{vs:List V}(M:Mk X.K C f)(F:kZ X.prog X.w X.K X.mg X.base CX k f fd ps sp)(q:Room (k+1) X.A)(t:Binds X.K fd ps ds)(hd:Vals dvs ds)
  (y:sU CX X E) (I:Inv X n σ H s) (r:Vals vs us)
  (h:∀x dx,H x=none->H dx=none->dx≠x->sp (.ref x::(vs++dvs)) (upd (upd H dx (.own x)) x (.ins C dx [])) (λv H2=>v=.non/\Q (.ref x) H2) E) :
  wpAny (model X.prog X.w) X.A (call (.ref C) us) (EP X n σ Q) X.xe s:=by
 have c:=h (s.heap.objs.size+1) s.heap.objs.size (I.hok.fresh (bDH _)) (I.hok.fresh (d9 _)) (z9 (bCV _));have b:=Inv.made (C:=C) I;have d:Vals (V.ref (s.heap.objs.size+1)::(vs++dvs)) (Value.ref (s.heap.objs.size+1)::(us++ds)):=.cons rfl (r.append hd);have g:(Value.ref (s.heap.objs.size+1)::us++ds).length=ps.length:=by have e:=d.length;rw[F.len _ _ _ _ c] at e;exact e.symm
 refine bFM (aUf (f:=f) I.kIn M.makes M.init (beq_iff_eq.mp M.fn) (bCZ (F.run _ X.stack _ _ ⟨Value.ref (s.heap.objs.size+1)::us,[]⟩ (Value.ref (s.heap.objs.size+1)::(us++ds)) _ _ E (q.make C us [])
  (b.env0.make C us []) (t _ (Value.ref (s.heap.objs.size+1)::us) b.kIn g) d c) λr j a=>?_))
 cases r with
 |error e=>exact y n σ _ _ e j b a
 |ok fl=>
  cases fl with
  |ret u=>obtain⟨v,o,i,l,m,p⟩:=b.after a;subst m;exact⟨l,⟨V.ref (s.heap.objs.size+1),o,i,rfl,p⟩⟩
  |next=>exact False.elim a
  |brk=>exact False.elim a
  |cont=>exact False.elim a
def aX5 (M:Mk X.K C f)(F:kZ X.prog X.w X.K X.mg X.base CX k f fd ps sp)(i:Room (k+1) X.A)(l:Gl X x)(u:X.mg x=some (.ref C))(n:Binds X.K fd ps ds)(hd:Vals dvs ds)(o:sU CX X E)
  (m:PA X (e::es) t) (c:(x == ("__debug__":Str))=false:=by decide) (j:starEach (e::es) X.env=(false,eval e X.env)::starEach es X.env:=by rfl) (d:(backTo pos (starEach es X.env)).any (·.1)=false:=by rfl) :
  PE X (.Call (.Name x p) (e::es) [] pos) (aZy C sp dvs E t):=by
 intro a s σ H Q I h;refine bBT (wF I l u ?_ c);refine PySem.W.callWith_K (h₀:=X.base) I.ok.mod.kin M.kp (thn (m pos a s σ H _ I h) λy v ⟨z,g,b,r,q⟩=>⟨b.kIn,?_⟩) j d;exact aVg M F i n hd o b r q
structure aJ (N P:List Str)(sc:Scope):Prop where
 kind:sc.kind=.function
 co:sc.isCoroutine=false
 gen:sc.isGenerator=false
 nd:N.Nodup
 pre:N.take P.length=P
 par:∀x∈P,sc.names.lookup x=some .local\/sc.names.lookup x=some .cell
 nofree:∀y∈sc.names,y.2≠.free
theorem aFw {kindOf:Str->Option NameKind}{x:Str}:∀{binds:List (Str × Value)} {m:bF2},(∀v,(x,v)∉binds)->bindL kindOf binds m x=m x
 |[],_,_=>rfl
 |(n,v)::r,m,h=>by
  unfold bindL;rw[aFw λw a=>h w (j7 _ a)]
  split
  ·have:x≠n:=by rintro rfl;exact h v j5
   simp[this]
  ·rfl
theorem aFs {kindOf:Str->Option NameKind}{x:Str}:∀{binds:List (Str × Value)} {m:bF2},(∀v,(x,v)∉binds)->bindC kindOf binds m x=m x
 |[],_,_=>rfl
 |(n,v)::r,m,h=>by
  unfold bindC;rw[aFs λw a=>h w (j7 _ a)]
  split
  ·rfl
  ·have:x≠n:=by rintro rfl;exact h v j5
   simp[this]
theorem aFl {a:Str->Option NameKind}{x:Str}{v:Value}:∀{P:List Str} {vs:List Value} {i:Nat} {m:bF2},P.Nodup->P[i]?=some x->vs[i]?=some v->a x=some .local ->
  bindL a (P.zip vs) m x=some v
 |[],_,_,_,_,h,_,_=>by simp at h
 |_::_,[],_,_,_,_,h,_=>by simp at h
 |p::P,w::vs,0,m,nd,h1,h2,hk=>by simp at h1 h2;subst h1;subst h2;show bindL a ((p,w)::P.zip vs) m p=_;unfold bindL;rw[aFw λv b=>(List.nodup_cons.mp nd).1 (List.of_mem_zip b).1,if_pos hk];simp
 |p::P,w::vs,i+1,m,nd,h1,h2,hk=>by show bindL a ((p,w)::P.zip vs) m x=_;unfold bindL;exact aFl (i:=i) (List.nodup_cons.mp nd).2 (by simpa using h1) (by simpa using h2) hk
theorem aFj {a:Str->Option NameKind}{x:Str}{v:Value}:∀{P:List Str} {vs:List Value} {i:Nat} {m:bF2},P.Nodup->P[i]?=some x->vs[i]?=some v->a x≠some .local ->
  bindC a (P.zip vs) m x=some v
 |[],_,_,_,_,h,_,_=>by simp at h
 |_::_,[],_,_,_,_,h,_=>by simp at h
 |p::P,w::vs,0,m,nd,h1,h2,hk=>by simp at h1 h2;subst h1;subst h2;show bindC a ((p,w)::P.zip vs) m p=_;unfold bindC;rw[aFs λv b=>(List.nodup_cons.mp nd).1 (List.of_mem_zip b).1,if_neg hk];simp
 |p::P,w::vs,i+1,m,nd,h1,h2,hk=>by show bindC a ((p,w)::P.zip vs) m x=_;unfold bindC;exact aFj (i:=i) (List.nodup_cons.mp nd).2 (by simpa using h1) (by simpa using h2) hk
def start (N:List Str)(vs:List V):St:=vs.map some++List.replicate (N.length - vs.length) none
def aB3 (CX:CXT)(P:Program)(w:World)(K:bFZ)(mg:bF2)(base:Heap)(N:List Str)(qual:Str)(scope:Scope)(f:Addr)(cd:Value)(A:Around)(outer:List Env)(s:Shared)(H:Hp)(E:XK):Cx where
 prog:=P
 w:=w
 K:=K
 mg:=mg
 base:=base
 A:=A.deeper (envOfC qual scope s.heap.objs.size f cd)
 N:=N
 s₀:=s
 H₀:=H
 env:=envOfC qual scope s.heap.objs.size f cd
 outer:=outer
 stack:=envOfC qual scope s.heap.objs.size f cd::outer
 ex:=[]
 calm:=true
 fn:=λ_=>true
 pn:=[]
 xe:=λe s'=>wpAny (model P w) (A.deeper (envOfC qual scope s.heap.objs.size f cd)) (leaving (envOfC qual scope s.heap.objs.size f cd) e) (λ_ s''=>CX outer H s E e s'') (λe' s''=>CX outer H s E e' s'') s'
def aKj {a:Scope}{n:Nat}{x:Str}(h:a.names.lookup x=some .cell):∃c,(cellsFrom n a.names []).lookup x=some c:=by have q:=PySem.W.cellsFrom_some a.names n [] (.inl h);exact Option.isSome_iff_exists.mp q
def aRm {CX:CXT}{P:Program}{w:World}{K:bFZ}{mg:bF2}{base:Heap}{N F:List Str}{D:Str}{scope:Scope}{f:Addr}{O:Value}{A:Around}{outer:List Env}{s s1:Shared}{H:Hp}{E:XK}{us:List Value}{vs:List V}
  (S:aJ N F scope) (hd:A.handled=none) (g:aIb P w K mg base A outer s H) (hl:vs.length=F.length) (r:Vals vs us)
  (x:InCallC s s.heap.objs.size (bindL (envOfC D scope s.heap.objs.size f O).kindOf (F.zip us) λ_=>none) (cellsFrom (s.heap.objs.size+1) scope.names []) (bindC (envOfC D scope s.heap.objs.size f O).kindOf (F.zip us) λ_=>none) s1) :
  Inv (aB3 CX P w K mg base N D scope f O A outer s H E) [] (start N vs) H s1:=by
 have J:F.length<=N.length:=by have:=congrArg List.length S.pre;rw[bAC] at this;lia
 obtain⟨t,L,rfl,B⟩:=x.done;have j:∀b:Addr,b∉(aB3 CX P w K mg base N D scope f O A outer s H E).ex:=λb z=>absurd (show b∈([]:List Addr) from z) (by simp);refine⟨⟨g.mod,S.kind,rfl,rfl,d9 _,λy z c t d=>?_,λy hy=>?_,λy c _ h=>?_,λ_=>hd,Around.frames_deeper g.frames,.inr ⟨rfl,rfl⟩,λb z=>absurd z (j b),g.bs,g.bsz,λb _ _=>j b,λb z=>absurd z (j b),g.funs,g.frf⟩,
  rfl,g.bare,Un.kept B,⟨_,x.toInCall.ns,λi y v t d M=>?_⟩,λy c h=>⟨_,x.cell y c h⟩,g.hok.fresh (d9 _),λy c h=>?_,λp m=>absurd (show p∈([]:bF1) from m) (by simp),g.hok.kept B,?_⟩
 ·exact name_of_addr x.apart (PySem.mem_of_lookup t) (PySem.mem_of_lookup d)
 ·have hy:scope.names.lookup y=some .cell\/scope.names.lookup y=some .free:=hy;rcases hy with hy|hy
  ·exact aKj hy
  ·exact absurd rfl (S.nofree _ (PySem.mem_of_lookup hy))
 ·exact bDI (x.above y c (PySem.mem_of_lookup h))
 ·have o:i<vs.length:=by
   unfold start at d;by_cases o:i<vs.length
   ·exact o
   ·rw[bBA (by simpa using o)] at d;rw[List.getElem?_replicate] at d
    split at d <;> cases d
  have G:vs[i]?=some v:=by
   unfold start at d;rw[bBD (by simpa using o),v5] at d;cases e:vs[i]? with
   |none=>rw[e] at d;cases d
   |some a=>rw[e] at d;cases d;rfl
  obtain⟨u,C,I⟩:=r.get G;have m:F[i]?=some y:=by rw[<-S.pre,List.getElem?_take_of_lt (by lia)];exact t
  have l:F.Nodup:=by rw[<-S.pre];exact S.nd.sublist (bEN _ _)
  refine⟨u,I,?_⟩;rcases S.par y (v4 m) with k|k
  ·exact .inl ⟨k,aFl l m C k⟩
  ·obtain⟨c,e⟩:=aKj (n:=s.heap.objs.size+1) k;refine .inr ⟨.inl k,c,e,?_⟩;have q:=x.cell y c e;rw[aFj l m C (by show scope.names.lookup y≠_;rw[k];decide)] at q;exact q
 ·exact g.hok.fresh (bDI (x.above y c (PySem.mem_of_lookup h)))
 ·unfold start;show _=N.length;rw[v9,j4,bDR];lia
def aZ1 {CX:CXT}{P:Program}{w:World}{K:bFZ}{mg:bF2}{base:Heap}{k:Nat}{f:Addr}{name i:Str}{params:Arguments}{body:List Stmt}{scope:Scope}{dV kV doc pm D ct oc:Value}{an od:Option Addr}
  {osl:Array (Option Value)} {N ps:List Str} {sp:Sp} (lk:K.lookup f=some ⟨oc,od,.func (PySem.W.fnOf name i params body scope dV kV doc pm an D ct),osl⟩) (R:PySem.W.codeIn K D i=true) (S:aJ N ps scope)
  (C:∀vs H Q E,sp vs H Q E->vs.length=ps.length)
  (p:∀(A:Around) (outer:List Env) (s:Shared) (H:Hp) (vs:List V) (Q:VK) (E:XK),Room k (A.deeper (envOfC i scope s.heap.objs.size f D))->sp vs H Q E ->
   ∃t,PSs (aB3 CX P w K mg base N i scope f D A outer s H E) body t/\t { nx:=λ_ H'=>Q .non H',rt:=Q } (start N vs) H) :
  kZ P w K mg base CX (k+1) f (PySem.W.fnOf name i params body scope dV kV doc pm an D ct) ps sp:=by
 refine⟨C,λA outer s H F us vs Q E B d Z r g=>?_⟩;have X:=C _ _ _ _ g;have G:K.In s.heap:=d.mod.kin.keeps λb o e=>(d.bs b o e).1;have z:s.heap.NoLimit:=d.mod.nolimit.keeps λb o e=>(d.bs b o e).1;have a:∀y∈ps.zip us,scope.names.lookup y.1=some .local\/(scope.names.lookup y.1=some .cell/\((cellsFrom (s.heap.objs.size+1) scope.names []).lookup y.1).isSome=true):=λ⟨n,v⟩ T=>by
  rcases S.par n (List.of_mem_zip T).1 with q|q
  ·exact .inl q
  ·exact .inr ⟨q,PySem.W.cellsFrom_some _ _ _ (.inl q)⟩
 refine codeAny_call_function B.depth (G _ _ lk) rfl S.co S.gen rfl (PySem.W.codeRec_of G R) (Z _ _ _ _ ?_);refine wpAny_newFunctionEnv_cells S.kind a λa0 Y L x=>?_;subst Y;refine⟨z.keeps x.toInCall.keep,codeAny_func ?_⟩;obtain⟨t,O,U⟩:=p A outer s H vs Q E (B.deeper _) g;have I:Inv (aB3 CX P w K mg base N i scope f D A outer s H E) [] (start N vs) H L:=aRm S B.hd d X r x;refine bBQ (O [] L (start N vs) H _ I U) (λM l c=>?_) λe l c=>c;have h:∀{j:St} {H':Hp} {v:V} {u:Value},Inv (aB3 CX P w K mg base N i scope f D A outer s H E) [] j H' l->RelV v u->Q v H'->CE outer P w H s Q u l:=
  λ{j H' v u} J m q=>⟨v,H',J.os,J.bare,J.base,J.hok,m,q⟩
 cases M with
 |ret u=>obtain⟨v,j,H',J,m,q⟩:=c;exact h J m q
 |next=>obtain⟨j,H',J,q⟩:=c;exact h (v:=V.non) (u:=Value.none) J rfl q
 |brk=>obtain⟨_,_,_,q⟩:=c;exact False.elim q
 |cont=>obtain⟨_,_,_,q⟩:=c;exact False.elim q
section
variable {X:Cx}{x:Str}{p pos:Pos}{e:Expr}{es:List Expr}{t:TA}{id T:String}{r:List V->Hp->VK->Prop}
def tCB (r:List V->Hp->VK->Prop)(t:TA):TE:=fun σ H Q=>t σ H λvs H1=>r vs H1 Q
def aVr (v:cF X (.builtin id) r)(o:Gl X x)(w:X.mg x=none)(u:bootBuiltins x=some (.builtin id))(q:PA X (e::es) t)(m:x≠"__name__":=by decide)(d:(x == ("__debug__":Str))=false:=by decide)
  (n:starEach (e::es) X.env=(false,eval e X.env)::starEach es X.env:=by rfl) (i:(backTo pos (starEach es X.env)).any (·.1)=false:=by rfl):PE X (.Call (.Name x p) (e::es) [] pos) (tCB r t):=by
 intro a s σ H Q I h;refine bBT (vK I o w u ?_ m d);exact PyProof.Rows.callWith_builtin1 (thn (q pos a s σ H _ I h) λk j ⟨l,b,f,g,c⟩=>v a j σ b l k Q f g c) n i
def aRv (v:cF X (.type T) r)(o:Gl X x)(w:X.mg x=none)(u:bootBuiltins x=some (.type T))(q:PA X (e::es) t)(m:x≠"__name__":=by decide)(d:(x == ("__debug__":Str))=false:=by decide)
  (n:starEach (e::es) X.env=(false,eval e X.env)::starEach es X.env:=by rfl) (i:(backTo pos (starEach es X.env)).any (·.1)=false:=by rfl):PE X (.Call (.Name x p) (e::es) [] pos) (tCB r t):=by
 intro a s σ H Q I h;refine bBT (vK I o w u ?_ m d);exact bCC (thn (q pos a s σ H _ I h) λk j ⟨l,b,f,g,c⟩=>v a j σ b l k Q f g c) n i
end
end L2
namespace HT
open PySem PyProof.Rows
section
open PySem.SeqAt
open PySem.AutoSeq1 (wpAny_loadPart')
open PySem.MeetsSeq PySem.MeetsSeq2 PySem.MeetsSeq3
end
def aW5 (u:IsTup s.heap t vs.toArray)(v:IsTup s.heap b ws.toArray)(q:vs≠[])
  (y:ws=[]->Q (.ref t) s) (x:ws≠[]->Q (.ref s.heap.objs.size) { s with heap:=s.heap.push { cls:=.type "tuple",data:=.seq (vs++ws).toArray } })
  (r:vs.length+ws.length<=sizeLine):wpAny (model prog w) A (binaryOp .Add (.ref t) (.ref b)) Q E s:=by
 obtain⟨⟨cls,l,data,k⟩,h,o,n,hd⟩:=id u;obtain⟨⟨p,g,j,f⟩,a,c,m,d⟩:=id v;simp only at o hd c d;subst o hd c d;have e:vs.toArray++ws.toArray=(vs++ws).toArray:=by simp
 by_cases i:ws=[]
 ·exact concat_meets ⟨_,h,rfl⟩ ⟨_,a,rfl⟩ noFill_tuple_add seq_tuple_add PySem.F.slot_tuple_add PySem.F.entry_tuple_add (PySem.F.args_tuple_add_2 _ _)
   (tuple_addW1 t b vs.toArray ws.toArray n m l g k f (by simpa using q) (by simp[i])) ⟨h,a,y i⟩
 ·refine concat_meets ⟨_,h,rfl⟩ ⟨_,a,rfl⟩ noFill_tuple_add seq_tuple_add PySem.F.slot_tuple_add PySem.F.entry_tuple_add (PySem.F.args_tuple_add_2 _ _)
   (tuple_addW2 t b vs.toArray ws.toArray n m l g k f (by simpa using q) (by simpa using i) (by rw[j6,j6];exact r)) ⟨h,a,?_⟩
  rw[e];exact x i
def sIx (n d:Nat):Option Int->Nat
 |none=>d
 |some v=>if v<0 then (v+(n:Int)).toNat else min v.toNat n
def aLt (n d:Nat):sIx n d none=d:=rfl
def aPt (n d k:Nat):sIx n d (some (k:Int))=min k n:=by show (if (k:Int)<0 then ((k:Int)+(n:Int)).toNat else min (k:Int).toNat n)=min k n;rw[if_neg (by lia),bAS]
def bCm (n d:Nat)(hd:d<=n)(o:Option Int):sIx n d o<=n:=by
 cases o with
 |none=>exact hd
 |some v=>
  show (if v<0 then (v+(n:Int)).toNat else min v.toNat n)<=n;by_cases a:v<0
  ·rw[if_pos a];lia
  ·rw[if_neg a];exact Nat.min_le_right _ _
def aQh (v:Int)(n d:Nat):(if v<0 then max (v+(n:Int)) 0 else min v (n:Int))=((sIx n d (some v):Nat):Int):=by
 show (if v<0 then max (v+(n:Int)) 0 else min v (n:Int))=(((if v<0 then (v+(n:Int)).toNat else min v.toNat n):Nat):Int);by_cases a:v<0
 ·simp only[if_pos a];lia
 ·simp only[if_neg a];lia
def aOw (lo hi:Option Int)(n:Nat):Builtin.Slice.sliceAdjust lo hi 1 (n:Int)=(((sIx n 0 lo:Nat):Int),((sIx n n hi:Nat):Int)):=by
 have a:¬ ((1:Int)<0):=by lia
 unfold Builtin.Slice.sliceAdjust;simp only[a,if_false];refine Prod.ext ?_ ?_
 ·cases lo with
  |none=>rfl
  |some v=>exact aQh v n 0
 ·cases hi with
  |none=>rfl
  |some v=>exact aQh v n n
def aM5 (i j:Nat):Builtin.Slice.slicePlaces (i:Int) (j:Int) 1=j - i:=by
 unfold Builtin.Slice.slicePlaces;have a:(1:Int) > 0:=by lia
 simp only[a,if_true,Int.ediv_one]
 split <;> lia
def aCi (p:IsPart v o)(h:Q o s):wpAny (model prog w) A (Builtin.Slice.slicePartIndex v) Q E s:=by
 cases p with
 |none=>exact slicePart_none h
 |int i t=>exact slicePart_int h
def oW {sl:Addr}{d i:Value}{lo hi:Option Int}{n:Nat}{Q:Int × Int × Nat->Shared->Prop}(e:s.heap.IsSliceOf sl d i .none)(pl:IsPart d lo)(f:IsPart i hi)
  (h:Q (((sIx n 0 lo:Nat):Int),1,sIx n n hi - sIx n 0 lo) s):wpAny (model prog w) A (Builtin.Slice.sliceApplied (.ref sl) (pure (n:Int))) Q E s:=by
 obtain⟨g,b,c,a⟩:=id e;unfold Builtin.Slice.sliceApplied Builtin.Slice.sliceFields;refine b7 (b7 (bAV b a (x:=d) rfl (b7 (bAV b a (x:=i) rfl (b7 (bAV b a (x:=.none) rfl (d8 ?_)))))));refine b7 (slicePart_none ?_);show wpAny _ _ (if ((1:Int) == 0)=true then _ else _) _ _ s;rw[if_neg (by decide)];refine b7 (aCi pl (b7 (aCi f (b7 (d8 ?_)))));show wpAny _ _ (match Builtin.Slice.sliceAdjust lo hi 1 (n:Int) with|(lo,hi)=>pure (lo,(1:Int),Builtin.Slice.slicePlaces lo hi 1)) _ _ s;rw[aOw lo hi n];show wpAny _ _ (pure (((sIx n 0 lo:Nat):Int),(1:Int),Builtin.Slice.slicePlaces ((sIx n 0 lo:Nat):Int) ((sIx n n hi:Nat):Int) 1)) _ _ s;rw[aM5];exact d8 h
def aVo (xs:Array Value)(i k:Nat):((List.range k).filterMap λ(m:Nat)=>xs[((i:Int)+(m:Int) * 1).toNat]?).toArray=((xs.toList.drop i).take k).toArray:=by
 have e:(λ(m:Nat)=>xs[((i:Int)+(m:Int) * 1).toNat]?)=λm=>xs[i+m]?:=by
  funext m;have:((i:Int)+(m:Int) * 1).toNat=i+m:=by lia
  rw[this]
 rw[e];have:=pick_run xs i k;rw[bEG] at this;have a:((λx=>xs[x]?) ∘ λx=>i+x)=λm=>xs[i+m]?:=rfl;rw[a] at this;rw[this]
def yE {t n:Addr}{a:Array Value}{vl vu:Value}{lo hi:Option Int}{Q:bF0}(c:IsTup s.heap t a)(j:s.heap.IsSliceOf n vl vu .none)(pl:IsPart vl lo)(p:IsPart vu hi)
  (u:¬ (sIx a.size 0 lo=0/\sIx a.size a.size hi=a.size))
  (h:Q (.ref s.heap.objs.size) { s with heap:=s.heap.push { cls:=.type "tuple",data:=.seq ((a.toList.drop (sIx a.size 0 lo)).take (sIx a.size a.size hi - sIx a.size 0 lo)).toArray } })
  (hsz:a.size<=sizeLine):wpAny (model prog w) A (getItem (.ref t) (.ref n)) Q E s:=by
 have b:sizeOk (.seq ((a.toList.drop (sIx a.size 0 lo)).take (sIx a.size a.size hi - sIx a.size 0 lo)).toArray):=by show ((a.toList.drop (sIx a.size 0 lo)).take (sIx a.size a.size hi - sIx a.size 0 lo)).toArray.size<=sizeLine;rw[j6,bAC,bBE,v7];lia
 have r:sIx a.size a.size hi<=a.size:=bCm _ _ (d9 _) hi;obtain⟨k,g,f,i⟩:=id j;have e:s.TypeIs (.ref n) "slice":=⟨k,g,f⟩;unfold getItem
 try with_reducible refine bAU ?_
 first|refine b7 (d8 ?_)|skip
 refine b7 (wpAny_sequenceKey c.typeIs (by decide) ?_);refine b7 (bAJ (name:=Str.ofString "__getitem__") c.typeIs bCK
  (bAH bCK c.typeIs entry_tuple_getitem ?_ (args_tuple_getitem _ _)))
 show wpAny _ _ (Builtin.Tuple.tupleItemsOf (.ref t) >>= _) _ _ s;refine b7 (tupleItemsOf_ c ?_);refine b7 (bEO e ?_);rw[if_pos (by decide)];refine b7 (oW j pl p ?_);have d:¬ ((((sIx a.size 0 lo:Nat):Int) == 0 && (1:Int) == 1 && (sIx a.size a.size hi - sIx a.size 0 lo) == a.size)=true):=by intro q;rw[bAW,bAW] at q;have o:((sIx a.size 0 lo:Nat):Int)=0:=eq_of_beq q.1.1;have l:sIx a.size a.size hi - sIx a.size 0 lo=a.size:=eq_of_beq q.2;exact u ⟨by lia,by lia⟩
 show wpAny _ _ (if (((sIx a.size 0 lo:Nat):Int) == 0 && (1:Int) == 1 && (sIx a.size a.size hi - sIx a.size 0 lo) == a.size)=true then _ else _) _ _ s;rw[if_neg d,aVo];first
  |exact b7 (m:=Builtin.Tuple.tupleExact _) (bAL (d8 ⟨_,rfl,d8 h⟩) b)
  |exact b7 (m:=Builtin.Tuple.tupleExact _) (bAL (b7 (d8 (d8 ⟨_,rfl,d8 h⟩))) b)
  |exact b7 (b7 (m:=Builtin.Tuple.tupleExact _) (bAL (d8 (d8 ⟨_,rfl,d8 h⟩)) b))
  |exact b7 (b7 (m:=Builtin.Tuple.tupleExact _) (bAL (d8 ⟨_,rfl,d8 h⟩) b))
end HT
namespace L2
open PySem PySem.Spec PyProof.Rows
abbrev TO:=St->Hp->(Option Int->Hp->Prop)->Prop
def PO (X:Cx)(e:Option Expr)(t:TO):Prop:=
 ∀bF3 s σ H Q,Inv X bF3 σ H s->t σ H Q ->
  wpAny (model X.prog X.w) X.A (evalPart e X.env) (λu s'=>∃o H',Inv X bF3 σ H' s'/\IsPart u o/\Q o H') X.xe s
def aP9:TO:=λ_ H Q=>Q none H
def aZ2 (t:TE):TO:=fun σ H Q=>t σ H λx H1=>∃i,x=.int i/\Q (some i) H1
section
variable {X:Cx}{e:Expr}{te:TE}{lo hi:Option Expr}{tl th:TO}{pos p2:Pos}
def aX3:PO X none aP9:=by intro a s σ H Q I h;rw[evalPart_none];exact d8 ⟨none,H,I,.none,h⟩
def aXz (h:PE X e te):PO X (some e) (aZ2 te):=by intro a s σ H Q I g;rw[evalPart_some];refine thn (h a s σ H _ I g) λu j ⟨x,b,d,f,c⟩=>?_;obtain⟨i,rfl,q⟩:=c;obtain⟨t,rfl⟩:=f;exact⟨some i,b,d,.int i t,q⟩
def SlR (X:Cx)(r:V->Option Int->Option Int->Hp->VK->Prop):Prop:=
 ∀bF3 s σ H x v vl vu lo hi sl Q,Inv X bF3 σ H s->RelV x v->s.heap.IsSliceOf sl vl vu .none->IsPart vl lo->IsPart vu hi->r x lo hi H Q ->
  ∃T id,typeLookup (.type T) "__getitem__"=pure (some (.builtin id))/\s.TypeIs v T/\wpAny (model X.prog X.w) X.A (getItem v (.ref sl)) (EP X bF3 σ Q) X.xe s
def tSl (r:V->Option Int->Option Int->Hp->VK->Prop)(te:TE)(tl th:TO):TE:=fun σ H Q=>te σ H λx H1=>tl σ H1 λl H2=>th σ H2 λu H3=>r x l u H3 Q
def aTk {r:V->Option Int->Option Int->Hp->VK->Prop}(O:SlR X r)(M:PE X e te)(L:PO X lo tl)(K:PO X hi th):PE X (.Subscript e (.Slice lo hi none p2) pos) (tSl r te tl th):=by intro a s σ H Q I h;refine Subscript_ (thn (M a s σ H _ I h) λv E ⟨x,j,o,B,k⟩=>?_);refine wpAny_Slice (thn (L a E σ j _ o k) λf F ⟨l,D,m,G,i⟩=>thn (K a F σ D _ m i) λd c ⟨u,g,y,z,J⟩=>?_);rw[evalPart_none];refine d8 ?_;have p:Inv X a σ g { c with heap:=c.heap.push { cls:=.type "slice",data:=.fields #[f,d,.none] } }:=y.kept (t':=c.toks) λb N q=>d7 _ q;obtain⟨T,P,C,n,t⟩:=O a { c with heap:=c.heap.push { cls:=.type "slice",data:=.fields #[f,d,.none] } } σ g x v f d l u c.heap.objs.size Q p B (Heap.IsSliceOf.new ..) G z J;show wpAny (model X.prog X.w) X.A (subscriptTail e (.Slice lo hi none p2) v (.ref c.heap.objs.size)) (EP X a σ Q) X.xe { c with heap:=c.heap.push { cls:=.type "slice",data:=.fields #[f,d,.none] } };exact tail_any (ops:=[.ref c.heap.objs.size,v]) n C t (by with_unfolding_all rfl)
def pQ (xs:List V)(lo hi:Option Int):List V:=(xs.drop (HT.sIx xs.length 0 lo)).take (HT.sIx xs.length xs.length hi - HT.sIx xs.length 0 lo)
def aAt (xs:List V)(lo hi:Option Int):(pQ xs lo hi).length<=xs.length:=by unfold pQ;rw[bAC,bBE];lia
def bFe (K:bFZ):V->Option Int->Option Int->Hp->VK->Prop:=λx lo hi H Q=>∃a xs,x=.ref a/\SqT K H a xs /\
 ¬ (HT.sIx xs.length 0 lo=0/\HT.sIx xs.length xs.length hi=xs.length)/\∀p,H p=none->Q (.ref p) (upd H p (.tup (pQ xs lo hi)))
def bCj:SlR X (bFe X.K):=by
 intro p s σ H x v w z e i u Q I m k t l h;obtain⟨a,d,rfl,n,o,q⟩:=h;cases m;obtain⟨f,r,g,j⟩:=I.tuple n;have c:f.toArray.size=d.length:=by rw[j6];exact r.length.symm
 refine⟨"tuple",_,PyProof.Rows.slot_tuple_getitem.lookup,g.typeIs,?_⟩;refine HT.yE g k t l (by rw[c];exact o) ?_ (by rw[c];exact j);rw[c];refine⟨.ref s.heap.objs.size,_,I.laid (t':=s.toks) (λb y q=>d7 _ q) (d9 _) ?_,rfl,q _ (I.hok.fresh (d9 _))⟩;exact⟨bAI (aAt d e i) j,_,(r.drop (HT.sIx d.length 0 e)).take (HT.sIx d.length d.length i - HT.sIx d.length 0 e),zR.new _ _⟩
def bEg (K:bFZ):R2:=λx y H Q=>∃a b xs ys,x=.ref a/\y=.ref b/\SqT K H a xs/\SqT K H b ys/\xs≠[]/\xs.length+ys.length<=sizeLine /\
 (ys=[]->Q (.ref a) H)/\(ys≠[]->∀p,H p=none->Q (.ref p) (upd H p (.tup (xs++ys))))
def Vals.aIz (r:Vals xs us):us=[]↔xs=[]:=by
 cases r with
 |nil=>simp
 |cons _ _=>simp
def aZr:OpR X (binaryOp .Add) (bEg X.K):=by intro j s σ H x y v u Q I m r h;obtain⟨a,b,B,A,rfl,rfl,n,o,p,e,i,g⟩:=h;cases m;cases r;obtain⟨l,d,k,_⟩:=I.tuple n;obtain⟨f,c,t,_⟩:=I.tuple o;refine HT.aW5 k t (λz=>p (d.aIz.mp z)) (λz=>⟨.ref a,H,I,rfl,i (c.aIz.mp z)⟩) (λz=>?_) (by rw[<-d.length,<-c.length];exact e);refine⟨.ref s.heap.objs.size,_,I.laid (t':=s.toks) (λb C q=>d7 _ q) (d9 _) ?_,rfl,g (λw=>z (c.aIz.mpr w)) _ (I.hok.fresh (d9 _))⟩;exact⟨by rw[v9];exact e,_,d.append c,zR.new _ _⟩
end
def ixN (n:Nat)(i:Int):Option Nat:=if 0<=i then (if i<n then some i.toNat else none) else if -(n:Int)<=i then some (i+n).toNat else none
def atI {α:Type}(xs:List α)(i:Int):Option α:=(ixN xs.length i).bind λj=>xs[j]?
def aQs (h:ixN n i=some j):seqIndex? i n=some j/\j<n/\-(n:Int)<=i/\i<n:=by
 unfold ixN at h;by_cases b:0<=i
 ·rw[if_pos b] at h;by_cases a:i<n
  ·rw[if_pos a] at h;have e:=bAM h;exact⟨by rw[seqIndex_of b a,e],by lia,by lia,a⟩
  ·rw[if_neg a] at h;cases h
 ·rw[if_neg b] at h;by_cases a:-(n:Int)<=i
  ·rw[if_pos a] at h;have e:=bAM h;exact⟨by rw[seqIndex_neg (by lia) a,e],by lia,a,by lia⟩
  ·rw[if_neg a] at h;cases h
def aP2 {α:Type}{xs:List α}{i:Int}{v:α}(h:atI xs i=some v):∃j,seqIndex? i xs.length=some j/\xs[j]?=some v/\j<xs.length/\-(xs.length:Int)<=i/\i<xs.length:=by
 unfold atI at h;cases e:ixN xs.length i with
 |none=>rw[e] at h;cases h
 |some j=>rw[e] at h;obtain⟨b,d,a,c⟩:=aQs e;exact⟨j,b,h,d,a,c⟩
def cG {α:Type}{xs:List α}{j:Nat}{v:α}(h:xs[j]?=some v):atI xs (j:Int)=some v:=by
 have a:j<xs.length:=(List.getElem?_eq_some_iff.mp h).1;have e:ixN xs.length (j:Int)=some j:=by unfold ixN;rw[if_pos (by lia),if_pos (by lia)];simp
 unfold atI;rw[e];exact h
def aI2 (b:Expr):Prop:=∀o i,subscripted b false o i=operate [o,i] (getItem o i)
def IxR (X:Cx)(r:R2):Prop:=
 ∀value slice bF3 s σ H x y v u Q,Inv X bF3 σ H s->RelV x v->RelV y u->r x y H Q ->
  subscripted slice false v u=operate [v,u] (getItem v u)->wpAny (model X.prog X.w) X.A (subscriptTail value slice v u) (EP X bF3 σ Q) X.xe s
def MtR (X:Cx)(id:String)(r:V->List V->Hp->VK->Prop):Prop:=
 ∀bF3 s σ H x xs v us Q,Inv X bF3 σ H s->RelV x v->Vals xs us->r x xs H Q ->
  wpAny (model X.prog X.w) X.A (call (.builtin id) (v::us)) (EP X bF3 σ Q) X.xe s
section
variable {X:Cx}
def bD6 (j:IxR X r)(l:PE X a ta)(m:PE X b tb)(k:aI2 b):PE X (.Subscript a b pos) (tOp r ta tb):=by intro c s σ H Q I h;exact Subscript_ (aY1 l m I h λv u i x y f d e g q=>j a b c i σ f x y v u Q d e g q (k _ _))
def bFj (K:bFZ):R2:=λx y H Q=>∃p xs i v,x=.ref p/\y=.int i/\SqL K H p xs/\atI xs i=some v/\Q v H
def bEy (K:bFZ):R2:=λx y H Q=>∃p xs i v,x=.ref p/\y=.int i/\SqT K H p xs/\atI xs i=some v/\Q v H
def bF:IxR X (bFj X.K):=by
 intro k g a s σ H x y v u Q I F J h m;obtain⟨p,O,i,z,rfl,rfl,C,E,q⟩:=h;cases F;obtain⟨t,rfl⟩:=J;obtain⟨d,r,l,N⟩:=I.list C;obtain⟨j,c,G,P,L,A⟩:=aP2 E;obtain⟨w,n,f⟩:=r.get G;have D:=r.length;have M:=zA;have b:EP X a σ Q w s:=⟨z,H,I,f,q⟩;by_cases o:0<=i
 ·have e:i.toNat=j:=by rw[seqIndex_of o A] at c;exact bAM c
  exact item_listR l.isList o (by lia) (by rw[e];simpa using n) b m
 ·have e:(i+(d.toArray.size:Int)).toNat=j:=by rw[seqIndex_neg (by lia) L] at c;rw[j6,<-D];exact bAM c
  exact subscriptTail_builtinR (x:=w) l.isList.typeIs slot_list_getitem.lookup
   (wpAny_getItem_list_neg (Q:=λr B=>r=w/\EP X a σ Q r B) l.isList (by lia) (by rw[j6] <;> lia) (by lia) (by rw[e];simpa using n) ⟨rfl,b⟩) m
def aO:IxR X (bEy X.K):=by
 intro e d a s σ H x y v u Q I A C h g;obtain⟨p,L,i,z,rfl,rfl,m,o,q⟩:=h;cases A;obtain⟨t,rfl⟩:=C;obtain⟨l,r,f,J⟩:=I.tuple m;obtain⟨j,E,B,M,N,G⟩:=aP2 o;obtain⟨w,D,c⟩:=r.get B;have n:=r.length;have F:=zA;have b:EP X a σ Q w s:=⟨z,H,I,c,q⟩;exact subscriptTail_builtinR (x:=w) f.typeIs slot_tuple_getitem.lookup
  (getItem_tuple (j:=j) (Q:=λr k=>r=w/\EP X a σ Q r k) f (by lia) (by lia) (by rw[j6,<-n];exact E) (by simpa using D) ⟨rfl,b⟩) g
def aNm (its:List Value)(n j:Nat)(u:Value):Obj.mapSeq (·.setIfInBounds j u) { cls:=.type "list",data:=.seq its.toArray n }={ cls:=.type "list",data:=.seq (its.set j u).toArray n }:=by simp[Obj.mapSeq]
def Inv.lst (I:Inv X bF3 σ H s)(h:H p=some (.lst xs)) :
  ∃its n,Vals xs its/\s.heap.get? p=some { cls:=.type "list",data:=.seq its.toArray n }/\xs.length<=sizeLine:=by
 obtain⟨z,its,n,r,e⟩:=I.hok p _ h;exact⟨its,n,r,e,z⟩
def Inv.bC6 {bF3:bF1}{σ:St}{H:Hp}{s:Shared}{p:Addr}{xs ys:List V}{its its':List Value}{n a:Nat}{f:Obj->Obj}(I:Inv X bF3 σ H s)(h:H p=some (.lst xs))
  (ho:s.heap.get? p=some { cls:=.type "list",data:=.seq its.toArray n }) (c:f { cls:=.type "list",data:=.seq its.toArray n }={ cls:=.type "list",data:=.seq its'.toArray a }) (r:Vals ys its') (g:ys.length<=sizeLine) (t:Nat) :
  Inv X bF3 σ (upd H p (.lst ys)) { s with heap:=s.heap.update p f,toks:=t }:=by
 have e:(s.heap.update p f).get? p=some { cls:=.type "list",data:=.seq its'.toArray a }:=by rw[bBJ f ho (by rw[c] <;> rfl),c]
 refine I.write (x:=p) (e:=p) (by rw[h];trivial) (.inl rfl) (λb u d q=>(bDK _ _ (Ne.symm d)).trans q) ⟨_,e⟩ ?_;exact⟨g,its',a,r,e⟩
def bDo:V->V->V->Hp->(Hp->Prop)->Prop:=λo i v H Q=>∃p xs k j,o=.ref p/\i=.int k/\H p=some (.lst xs)/\ixN xs.length k=some j/\Q (upd H p (.lst (xs.set j v)))
def set_list:bAt X bDo:=by
 intro d s σ H o i v J F u Q I C D y h;obtain⟨p,A,k,j,rfl,rfl,l,B,q⟩:=h;cases C;obtain⟨t,rfl⟩:=D;obtain⟨a,n,r,c,z⟩:=I.lst l;obtain⟨b,G,g,m⟩:=aQs B;have f:=r.length;have E:=zA;have x:Inv X d σ (upd H p (.lst (A.set j v))) { s with heap:=s.heap.update p (Obj.mapSeq (·.setIfInBounds j u)) }:=
  I.bC6 l c (aNm a n j u) (r.set y j) (by rw[List.length_set];exact z) s.toks
 by_cases w:0<=k
 ·have e:k.toNat=j:=by rw[seqIndex_of w m] at b;exact bAM b
  exact PySem.W.ki_setAt c w (by lia) (by rw[j6,<-f];exact m) (by rw[e];exact⟨_,x,q⟩)
 ·have e:(k+(a.toArray.size:Int)).toNat=j:=by rw[seqIndex_neg (by lia) g] at b;rw[j6,<-f];exact bAM b
  exact PySem.W.ki_setBack c (by lia) (by rw[j6,<-f];exact g) (by lia) (by rw[e];exact⟨_,x,q⟩)
def aHz (lo hi:Option Int)(n:Nat):(sliceBounds lo hi none n).1=((HT.sIx n 0 lo:Nat):Int)/\(sliceBounds lo hi none n).2.1=((HT.sIx n n hi:Nat):Int)/\(sliceBounds lo hi none n).2.2=1:=by
 refine⟨?_,?_,rfl⟩
 ·cases lo with
  |none=>simp[sliceBounds,HT.sIx]
  |some i=>
   simp only[sliceBounds,HT.sIx,Option.getD_none,show (1:Int) > 0 by decide,if_true];by_cases h:i<0
   ·simp only[h,if_true] <;> lia
   ·simp only[h,if_false] <;> lia
 ·cases hi with
  |none=>simp[sliceBounds,HT.sIx]
  |some i=>
   simp only[sliceBounds,HT.sIx,Option.getD_none,show (1:Int) > 0 by decide,if_true];by_cases h:i<0
   ·simp only[h,if_true] <;> lia
   ·simp only[h,if_false] <;> lia
def aEw (its:List Value)(lo hi:Option Int):slicePick its.toArray lo hi none=((its.drop (HT.sIx its.length 0 lo)).take (HT.sIx its.length its.length hi - HT.sIx its.length 0 lo)).toArray:=by obtain⟨a,c,b⟩:=aHz lo hi its.toArray.size;unfold slicePick;rw[a,c,b];simp only[sliceRange_one,pick_run,j6] <;> rfl
def bFi (K:bFZ):V->Option Int->Option Int->Hp->VK->Prop:=λx lo hi H Q=>∃a xs,x=.ref a/\SqL K H a xs/\∀p,H p=none->Q (.ref p) (upd H p (.lst (pQ xs lo hi)))
def aYu:SlR X (bFi X.K):=by intro n s σ H x v u y e g t Q I k i p j h;obtain⟨a,c,rfl,l,q⟩:=h;cases k;obtain⟨o,r,f,m⟩:=I.list l;have d:=r.length;refine⟨"list",_,slot_list_getitem.lookup,f.isList.typeIs,?_⟩;refine wpAny_getItem_list_slice f.isList i p j .none (by simp) ?_ (by rw[j6] <;> lia);rw[aEw,<-d];refine⟨.ref s.heap.objs.size,_,I.laid (t':=s.toks) (λb w q=>d7 _ q) (d9 _) ?_,rfl,q _ (I.hok.fresh (d9 _))⟩;exact⟨bAI (aAt c e g) m,_,0,(r.drop (HT.sIx c.length 0 e)).take (HT.sIx c.length c.length g - HT.sIx c.length 0 e),j8 _ rfl⟩
def iG:V->Bool
 |.non=>true
 |.bl _=>true
 |.int _=>true
 |.str _=>true
 |_=>false
def eqV:V->V->Bool
 |.non,.non=>true
 |.bl a,.bl b=>a == b
 |.bl a,.int b=>(if a then 1 else 0) == b
 |.int a,.bl b=>a == (if b then 1 else 0)
 |.int a,.int b=>a == b
 |.str a,.str b=>a == b
 |_,_=>false
def aTw (f:RelV y u)(c:RelV x v)(g:iG y=true)(e:iG x=true):SeqAt.EqAt A s u v (eqV y x):=by
 cases y with
 |non=>
  cases f;cases x with
  |non=>cases c;exact bEC _
  |bl b=>cases c;exact SeqAt.EqAt.none_bool b
  |int b=>obtain⟨t,rfl⟩:=c;exact SeqAt.EqAt.none_int b t
  |str b=>obtain⟨t,rfl⟩:=c;exact SeqAt.EqAt.none_str b t
  |_=>exact absurd (show false=true from e) v8
 |bl a=>
  cases f;cases x with
  |non=>cases c;exact SeqAt.EqAt.bool_none a
  |bl b=>cases c;exact SeqAt.EqAt.bool_bool a b
  |int b=>obtain⟨t,rfl⟩:=c;exact SeqAt.EqAt.bool_int a b t
  |str b=>obtain⟨t,rfl⟩:=c;exact SeqAt.EqAt.bool_str a b t
  |_=>exact absurd (show false=true from e) v8
 |int a=>
  obtain⟨d,rfl⟩:=f;cases x with
  |non=>cases c;exact SeqAt.EqAt.int_none a d
  |bl b=>cases c;exact SeqAt.EqAt.int_bool a d b
  |int b=>obtain⟨t,rfl⟩:=c;exact bEH a d b t
  |str b=>obtain⟨t,rfl⟩:=c;exact SeqAt.EqAt.int_str a d b t
  |_=>exact absurd (show false=true from e) v8
 |str a=>
  obtain⟨d,rfl⟩:=f;cases x with
  |non=>cases c;exact SeqAt.EqAt.str_none a d
  |bl b=>cases c;exact SeqAt.EqAt.str_bool a d b
  |int b=>obtain⟨t,rfl⟩:=c;exact SeqAt.EqAt.str_int a d b t
  |str b=>obtain⟨t,rfl⟩:=c;exact bDL a d b t
  |_=>exact absurd (show false=true from e) v8
 |_=>exact absurd (show false=true from g) v8
def eqU (x:V)(u:Value):Bool:=match u with
 |.none=>eqV .non x
 |.bool b=>eqV (.bl b) x
 |.int i _=>eqV (.int i) x
 |.str z _=>eqV (.str z) x
 |_=>false
def aU1 (r:RelV y u)(f:iG y=true):eqU x u=eqV y x:=by
 cases y with
 |non=>cases r;rfl
 |bl b=>cases r;rfl
 |int i=>obtain⟨t,rfl⟩:=r;rfl
 |str z=>obtain⟨t,rfl⟩:=r;rfl
 |_=>exact absurd (show false=true from f) v8
theorem wH:∀{xs:List V} {us:List Value},Vals xs us->xs.all iG=true->us.any (eqU x)=xs.any λy=>eqV y x
 |_,_,.nil,_=>rfl
 |y::xs,u::us,.cons r t,f=>by rw[bFY,bAW] at f;rw[bFA,bFA,aU1 r f.1,wH t f.2]
theorem sG (a:RelV x v)(b:iG x=true):∀{xs:List V} {us:List Value},Vals xs us->xs.all iG=true->∀u∈us,SeqAt.EqAt A s u v (eqU x u)
 |_,_,.nil,_=>λu hu=>by cases hu
 |y::xs,u::us,.cons r t,f=>λc hu=>by
  rw[bFY,bAW] at f;rcases List.mem_cons.mp hu with rfl|hu
  ·rw[aU1 r f.1];exact aTw r a f.1 b
  ·exact sG a b t f.2 c hu
def inV (x:V)(xs:List V):Bool:=xs.any λy=>eqV y x
def rIn (K:bFZ)(neg:Bool):R2:=λx y H Q=>∃p xs,y=.ref p/\(SqL K H p xs\/SqT K H p xs)/\iG x=true/\xs.all iG=true/\Q (.bl (if neg then !inV x xs else inV x xs)) H
def yX:OpR X (compareOp .In) (rIn X.K false):=by
 intro j s σ H x y v u Q I e i h;obtain⟨p,k,rfl,hq,f,b,q⟩:=h;cases i;rcases hq with hq|hq
 ·obtain⟨a,r,d,g⟩:=I.list hq;refine SeqAt.in_listAt (eqU x) d.isList (λw c=>sG e f r b w (by simpa using c)) ⟨.bl _,H,I,rfl,?_⟩;rw[show a.toArray.any (eqU x)=a.any (eqU x) by simp,wH r b];exact q
 ·obtain⟨a,r,d,g⟩:=I.tuple hq;refine SeqAt.in_tupleAt (eqU x) d (λw c=>sG e f r b w (by simpa using c)) ⟨.bl _,H,I,rfl,?_⟩;rw[show a.toArray.any (eqU x)=a.any (eqU x) by simp,wH r b];exact q
def pY:OpR X (compareOp .NotIn) (rIn X.K true):=by
 intro j s σ H x y v u Q I e i h;obtain⟨p,k,rfl,hq,f,b,q⟩:=h;cases i;rcases hq with hq|hq
 ·obtain⟨a,r,d,g⟩:=I.list hq;refine SeqAt.notIn_listAt (eqU x) d.isList (λw c=>sG e f r b w (by simpa using c)) ⟨.bl _,H,I,rfl,?_⟩;rw[show a.toArray.any (eqU x)=a.any (eqU x) by simp,wH r b];exact q
 ·obtain⟨a,r,d,g⟩:=I.tuple hq;refine SeqAt.notIn_tupleAt (eqU x) d (λw c=>sG e f r b w (by simpa using c)) ⟨.bl _,H,I,rfl,?_⟩;rw[show a.toArray.any (eqU x)=a.any (eqU x) by simp,wH r b];exact q
def aX:cF X (.builtin "len") (λxs H Q=>∃p ys,xs=[.ref p]/\(SqL X.K H p ys\/SqT X.K H p ys)/\Q (.int ys.length) H):=by
 intro g s σ H xs j Q I r h;obtain⟨p,ys,rfl,hq,q⟩:=h;obtain⟨u,rfl,e⟩:=vals1 r;cases e;have i:=zA;rcases hq with hq|hq
 ·obtain⟨c,b,d,f⟩:=I.list hq;have a:=b.length;exact Calls.call_len_list d.isList (by simp only[j6] <;> lia) ⟨.int ys.length,H,I.tok _,⟨s.toks+1,by rw[j6,a]⟩,q⟩
 ·obtain⟨c,b,d,f⟩:=I.tuple hq;have a:=b.length;exact len_tuple d (by simp only[j6] <;> lia) ⟨.int ys.length,H,I.tok _,⟨s.toks+1,by rw[j6,a]⟩,q⟩
def yG:cF X (.builtin "len") (λxs H Q=>∃z,xs=[.str z]/\z.length<=sizeLine/\Q (.int z.length) H):=by intro a s σ H xs d Q I r h;obtain⟨z,rfl,c,q⟩:=h;obtain⟨u,rfl,t,rfl⟩:=vals1 r;have b:=zA;exact len_str (by lia) ⟨.int z.length,H,I.tok _,⟨_,rfl⟩,q⟩
def cF.or (h:cF X f r)(h':cF X f r'):cF X f (λxs H Q=>r xs H Q\/r' xs H Q):=by
 intro a s σ H xs c Q I b q;rcases q with q|q
 ·exact h a s σ H xs c Q I b q
 ·exact h' a s σ H xs c Q I b q
def aG1:cF X (.type "list") (λxs H Q=>∃p ys,xs=[.ref p]/\(SqL X.K H p ys\/SqT X.K H p ys)/\∀l,H l=none->Q (.ref l) (upd H l (.lst ys))):=by
 intro v s σ H xs z Q I r h;obtain⟨p,ys,rfl,hq,q⟩:=h;obtain⟨u,rfl,y⟩:=vals1 r;cases y;have i:∀a,Vals ys a->ys.length<=sizeLine->∀c d,(∀b o',s.heap.get? b=some o'->c.get? b=some o') ->
   c.get? s.heap.objs.size=some { cls:=.type "list",dict:=none,data:=.seq a.toArray d,slots:=#[] }->EP X v σ Q (.ref s.heap.objs.size) { s with heap:=c }:=λa f g c d j e=>
  ⟨.ref s.heap.objs.size,_,I.laid (t':=s.toks) j (d9 _) (show dN X.prog X.w _ c _ (.lst ys) from ⟨g,a,d,f,e⟩),rfl,q _ (I.hok.fresh (d9 _))⟩
 rcases hq with hq|hq
 ·obtain⟨a,f,x,g⟩:=I.list hq;have k:=f.length;obtain⟨o,m,t,n,hd⟩:=x.isList;exact call_list_seq p (.inl rfl) m t hd (λc d j e=>i a f g c d j e) (by simp only[j6] <;> lia)
 ·obtain⟨a,f,x,g⟩:=I.tuple hq;have k:=f.length;obtain⟨o,m,t,n,hd⟩:=x;exact call_list_seq p (.inr rfl) m t hd (λc d j e=>i a f g c d j e) (by simp only[j6] <;> lia)
def aEt:cF X (.type "tuple") (λxs H Q=>∃p ys,xs=[.ref p]/\((SqL X.K H p ys/\∀l,H l=none->Q (.ref l) (upd H l (.tup ys)))\/(SqT X.K H p ys/\Q (.ref p) H))):=by
 intro f s σ H xs x Q I r h;obtain⟨p,ys,rfl,h⟩:=h;obtain⟨u,rfl,t⟩:=vals1 r;cases t;rcases h with⟨c,q⟩|⟨c,q⟩
 ·obtain⟨a,d,g,k⟩:=I.list c;have m:=d.length;refine call_tuple_list g.isList (λi v=>?_) (by simp only[j6] <;> lia);have j:=I.kept (t':=s.toks) v;have n:Inv X f σ (upd H i.objs.size (.tup ys)) { s with heap:=i.push { cls:=.type "tuple",data:=.seq a.toArray } }:=
   j.laid (t':=s.toks) (λb o e=>d7 _ e) (d9 _) (show dN X.prog X.w _ _ _ (.tup ys) from ⟨k,a,d,zR.new _ _⟩)
  exact⟨.ref i.objs.size,_,n,rfl,q _ (j.hok.fresh (d9 _))⟩
 ·obtain⟨a,d,g,k⟩:=I.tuple c;exact call_tuple_same g ⟨.ref p,H,I,rfl,q⟩
def tyV (K:bFZ)(T:String)(x:V)(H:Hp):Prop:=match x with
 |.str _=>T = "str"
 |.int _=>T = "int"
 |.ref p=>(T = "list"/\∃xs,SqL K H p xs)\/(T = "tuple"/\∃o,K.lookup p=some o/\o.cls=.type "tuple"/\o.dict=none) \/
   (T = "dict"/\((∃kvs,H p=some (.dK kvs))\/∃kvs,H p=some (.dT kvs)))\/(T = "set"/\∃S n,H p=some (.set S n))
 |_=>False
def aOc (I:Inv X bF3 σ H s)(r:RelV x v)(h:tyV X.K T x H) :
  s.TypeIs v T/\∀a,v=.ref a->∃ob,s.heap.get? a=some ob/\ob.dict=none:=by
 cases x with
 |str z=>obtain⟨t,rfl⟩:=r;cases (show T = "str" from h);exact⟨typeIs_str s z t,λ_ e=>nomatch e⟩
 |int i=>obtain⟨t,rfl⟩:=r;cases (show T = "int" from h);exact⟨typeIs_int s i t,λ_ e=>nomatch e⟩
 |ref p=>
  cases r;rcases h with⟨rfl,m,k⟩|⟨rfl,o,b,hc,hd⟩|⟨rfl,b⟩|⟨rfl,S,n,b⟩
  ·obtain⟨l,_,j,_⟩:=I.list k;refine⟨j.isList.typeIs,λa e=>?_⟩;cases e;obtain⟨o,n,e,c,hd,_⟩:=j;exact⟨o,e,hd⟩
  ·refine⟨⟨o,I.kIn p o b,hc⟩,λa e=>?_⟩;cases e;exact⟨o,I.kIn _ o b,hd⟩
  ·have z:∃o,s.heap.get? p=some o/\o.ExactDict:=by
    rcases b with⟨f,b⟩|⟨f,b⟩
    ·obtain⟨_,_,_,_,o,_,_,e,d,_⟩:=I.hok p _ b;exact⟨o,e,d⟩
    ·obtain⟨_,_,_,_,o,_,_,e,d,_⟩:=I.hok p _ b;exact⟨o,e,d⟩
   obtain⟨o,e,d⟩:=z;refine⟨⟨o,e,d.1⟩,λa g=>?_⟩;cases g;exact⟨o,e,d.2.1⟩
  ·obtain⟨o,_,_,_,e,d,_⟩:=I.hok p _ b;refine⟨⟨o,e,d.1⟩,λa g=>?_⟩;cases g;exact⟨o,e,d.2.1⟩
 |_=>exact False.elim h
def bEt (K:bFZ)(T:String)(r:V->List V->Hp->VK->Prop)(to:TE):TE:=fun σ H Q=>to σ H λx H1=>tyV K T x H1/\r x [] H1 Q
def tBM (K:bFZ)(T:String)(r:V->List V->Hp->VK->Prop)(to:TE)(t:TA):TE:=fun σ H Q=>to σ H λx H1=>tyV K T x H1/\t σ H1 λxs H2=>r x xs H2 Q
variable {o e:Expr}{es:List Expr}{to:TE}{t:TA}{name:Str}{apos cpos:Pos}{T id:String}{r:V->List V->Hp->VK->Prop}
def bC4 (n:PlainAttrs T)(slot:Slot T name id)(i:typeOf (.builtin id)=pure (.type "method_descriptor"))(p:MtR X id r)(ho:PE X o to)
  (c:attributeBase o name X.env (eval o X.env)=eval o X.env:=by rfl) (b:(apos.endLine == cpos.line)=true:=by rfl):PE X (.Call (.Attribute o name apos) [] [] cpos) (bEt X.K T r to):=by
 intro a s σ H Q I h;refine wpAny_Call_method0_late c b (thn (ho a s σ H _ I h) λv l ⟨x,f,d,e,k,g⟩=>?_);obtain⟨m,j⟩:=aOc d e k;exact⟨T,id,n,slot,i,m,j,bDM rfl (PySem.evalArgs_none (p a l σ f x [] v [] Q d e .nil g))⟩
def bEk (J:PlainAttrs T)(slot:Slot T name id)(p:typeOf (.builtin id)=pure (.type "method_descriptor"))(G:MtR X id r)(ho:PE X o to)(F:PA X (e::es) t)
  (d:attributeBase o name X.env (eval o X.env)=eval o X.env:=by rfl)
  (j:((backTo cpos (starEach (e::es) X.env)).all (λx=>!x.1) && (backToKw cpos (keywordEach [] X.env)).all (λx=>x.1.isSome)
   && decide ((e::es).length+([]:List Keyword).length+(if ([]:List Keyword).isEmpty then 0 else 1)<30))=true:=by rfl)
  (c:(apos.endLine == cpos.line)=true:=by rfl) (E:starEach (e::es) X.env=(false,eval e X.env)::starEach es X.env:=by rfl) (b:(backTo cpos (starEach es X.env)).any (·.1)=false:=by rfl) :
  PE X (.Call (.Attribute o name apos) (e::es) [] cpos) (tBM X.K T r to t):=by
 intro a s σ H Q I h;refine wpAny_Call_method_late d j c rfl (thn (ho a s σ H _ I h) λv z ⟨x,k,f,g,y,m⟩=>?_);obtain⟨A,q⟩:=aOc f g y;refine⟨T,id,J,slot,p,A,q,?_⟩;have i:=F cpos a z σ k _ f m;rw[E] at i ⊢;refine bDM (by show (false || (backTo cpos (starEach es X.env)).any (·.1))=false;rw[b] <;> rfl) (bFF ?_);exact thn i λB D ⟨C,u,n,w,l⟩=>G a D σ u x C v B Q n g w l
end
def MtM (X:Cx)(id:String)(r:V->List V->Hp->VK->Prop):Prop:=
 ∀bF3 s σ H x xs v us Q,Inv X bF3 σ H s->RelV x v->Vals xs us->r x xs H Q ->
  wpAny (model X.prog X.w) X.A (call (.builtin id) (v::us)) (EP X bF3 σ Q) X.xe s
theorem Vals.one:∀{x:V} {us:List Value},Vals [x] us->∃u,us=[u]/\RelV x u
 |_,_,.cons r .nil=>⟨_,rfl,r⟩
theorem Vals.two:∀{x y:V} {us:List Value},Vals [x,y] us->∃u v,us=[u,v]/\RelV x u/\RelV y v
 |_,_,_,.cons r t=>let ⟨_,e,q⟩:=Vals.one t;⟨_,_,e ▸ rfl,r,q⟩
theorem Vals.zero:∀{us:List Value},Vals [] us->us=[]
 |_,.nil=>rfl
theorem Vals.eraseIdx:∀{xs:List V} {us:List Value} (i:Nat),Vals xs us->Vals (xs.eraseIdx i) (us.eraseIdx i)
 |_,_,_,.nil=>.nil
 |_,_,0,.cons _ t=>t
 |_,_,i+1,.cons r t=>.cons r (Vals.eraseIdx i t)
def Vals.reverse (h:Vals xs us):Vals xs.reverse us.reverse:=by
 induction h with
 |nil=>exact .nil
 |cons r t ih=>rw[List.reverse_cons,List.reverse_cons];exact Vals.append ih (.cons r .nil)
theorem aFb {α:Type}:∀(l:List α) (i:Nat),(l.eraseIdx i).length<=l.length
 |[],_=>d9 _
 |_::_,0=>bDH _
 |_::r,i+1=>Nat.succ_le_succ (aFb r i)
def Inv.lset {its its':List Value}{n:Nat}{f:Array Value->Array Value}{t':Nat}(I:Inv X bF3 σ H s)(g:H l=some (.lst xs))
  (e:s.heap.get? l=some { cls:=.type "list",data:=.seq its.toArray n }) (d:f its.toArray=its'.toArray) (h:Vals ys its') (c:ys.length<=sizeLine) :
  Inv X bF3 σ (upd H l (.lst ys)) { s with heap:=s.heap.update l (Obj.mapSeq f),toks:=t' }:=by
 have q:=PySem.IsL.update e f;rw[d] at q;refine I.write (x:=l) (e:=l) (by rw[g];exact trivial) (.inl rfl) (λi u a b=>(bDK s.heap (Obj.mapSeq f) (Ne.symm a)).trans b) ⟨_,q⟩ ?_;exact⟨c,its',_,h,q⟩
def Inv.lnew (I:Inv X bF3 σ H s)(b:Vals ys its)(a:ys.length<=sizeLine) :
  Inv X bF3 σ (upd H s.heap.objs.size (.lst ys)) { s with heap:=s.heap.push { cls:=.type "list",data:=.seq its.toArray },toks:=t' }:=
 I.laid (λ_ _ q=>d7 _ q) (d9 _) ⟨a,its,0,b,j8 _ rfl⟩
def Inv.fresh (I:Inv X bF3 σ H s):H s.heap.objs.size=none:=I.hok.fresh (d9 _)
def Inv.aOp (I:Inv X bF3 σ H s)(a:H l=some (.lst xs)):xs.length<=sizeLine/\∃its n,Vals xs its/\xs.length=its.length/\s.heap.get? l=some { cls:=.type "list",data:=.seq its.toArray n }:=by obtain⟨z,its,n,r,e⟩:=I.hok l _ a;exact⟨z,its,n,r,r.length,e⟩
def aPz:V->List V->Hp->VK->Prop:=λx vs H Q=>∃l xs y,x=.ref l/\vs=[y]/\H l=some (.lst xs)/\xs.length<sizeLine/\Q .non (upd H l (.lst (xs++[y])))
def aFu:MtM X "list.append" aPz:=by intro f s σ H x o v m Q I c d h;obtain⟨l,k,y,rfl,rfl,b,j,q⟩:=h;cases c;obtain⟨u,rfl,g⟩:=d.one;obtain⟨z,a,n,r,i,e⟩:=I.aOp b;refine call_meets F.slot_list_append ⟨_,e,rfl⟩ F.entry_list_append (F.args_list_append_2 _ _) (PySem.list_append l a.toArray n u (by rw[j6];lia)) ⟨e,?_⟩;refine⟨.non,_,I.lset (its':=a++[u]) b e (by simp) (r.append (.cons g .nil)) ?_,rfl,q⟩;rw[v9,bEX];lia
def aTm:V->List V->Hp->VK->Prop:=λx vs H Q=>∃l xs i k y,x=.ref l/\vs=[.int i]/\H l=some (.lst xs)/\-(2 ^ 63)<=i/\i<2 ^ 63/\seqIndex? i xs.length=some k/\xs[k]?=some y/\Q y (upd H l (.lst (xs.eraseIdx k)))
def aV1:MtM X "list.pop" aTm:=by
 intro j s σ H x E v G Q I A f h;obtain⟨l,g,i,k,y,rfl,rfl,c,D,B,o,d,q⟩:=h;cases A;obtain⟨u,rfl,m⟩:=f.one;obtain⟨t,rfl⟩:=m;obtain⟨z,a,n,r,p,e⟩:=I.aOp c;obtain⟨w,C,b⟩:=r.get d;refine call_meets F.slot_list_pop ⟨_,e,rfl⟩ F.entry_list_pop (F.args_list_pop_2 _ _)
  (MeetsSeq.list_pop_at l a.toArray n i t k w (fitsIndex_both D B) (by rw[j6,<-p];exact o) (by rw[<-bBK];exact C) (by rw[j6];lia)) ⟨e,?_⟩
 refine⟨y,_,I.lset (its':=a.eraseIdx k) c e ?_ (r.eraseIdx k) ?_,b,q⟩
 ·show a.toArray.eraseIdxIfInBounds k=(a.eraseIdx k).toArray;rw[bEW]
 ·have:=aFb g k;lia
def aMc:V->List V->Hp->VK->Prop:=λx vs H Q=>∃l xs,x=.ref l/\vs=[]/\H l=some (.lst xs)/\Q .non (upd H l (.lst xs.reverse))
def aNk:MtM X "list.reverse" aMc:=by intro g s σ H x m v k Q I d f h;obtain⟨l,j,rfl,rfl,c,q⟩:=h;cases d;have b:=f.zero;subst b;obtain⟨z,a,n,r,i,e⟩:=I.aOp c;refine call_meets F.slot_list_reverse ⟨_,e,rfl⟩ F.entry_list_reverse (F.args_list_reverse_1 _) (AutoSeq1.list_reverse_list_0 l a.toArray n (by rw[j6];lia)) ⟨e,?_⟩;refine⟨.non,_,I.lset (its':=a.reverse) c e (by simp) r.reverse ?_,rfl,q⟩;rw[List.length_reverse];lia
def aUb:V->List V->Hp->VK->Prop:=λx vs H Q=>∃l xs,x=.ref l/\vs=[]/\H l=some (.lst xs)/\Q .non (upd H l (.lst []))
def aVq:MtM X "list.clear" aUb:=by intro g s σ H x m v k Q I d f h;obtain⟨l,j,rfl,rfl,c,q⟩:=h;cases d;have a:=f.zero;subst a;obtain⟨z,b,n,r,i,e⟩:=I.aOp c;refine call_meets F.slot_list_clear ⟨_,e,rfl⟩ F.entry_list_clear (F.args_list_clear_1 _) (AutoSeq1.list_clear_list_0 l b.toArray n (by rw[j6];lia)) ⟨e,?_⟩;exact⟨.non,_,I.lset (its':=[]) c e rfl .nil (bAE _),rfl,q⟩
def bFk:R2:=λx y H Q=>∃l b xs zs,x=.ref l/\y=.ref b/\H l=some (.lst xs)/\H b=some (.lst zs)/\xs.length+zs.length<=sizeLine/\∀p,H p=none->Q (.ref p) (upd H p (.lst (xs++zs)))
def bB0:OpR X (binaryOp .Add) bFk:=by
 intro i s σ H x y v u Q I j p h;obtain⟨l,b,w,D,rfl,rfl,k,o,t,q⟩:=h;cases j;cases p;obtain⟨z,c,n,r,A,e⟩:=I.aOp k;obtain⟨B,a,C,f,d,m⟩:=I.aOp o;refine PySem.P.add_list e m ?_ (by rw[j6,j6];lia);have g:c.toArray++a.toArray=(c++a).toArray:=by simp
 rw[g];exact⟨.ref _,_,I.lnew (t':=s.toks) (r.append f) (by rw[v9];lia),rfl,q _ I.fresh⟩
end L2
namespace Att
open PySem PySem.W PySem.Calls PyProof.Rows
def aBc:∀ns vs,WellAll P h vs (ns.map WData.int)->IntsAre vs ns:=by
 intro ns
 induction ns with
 |nil=>intro vs w;rw[List.map_nil] at w;cases w;exact .nil
 |cons n ns ih=>
  intro vs w;rw[bAF] at w;cases w with
  |cons a b=>cases a;exact .cons _ _ (ih _ b)
def aR9 {l:OpenLaw}{n:Nat}(s:l.most=some n){P:Params}{h:Heap}{args:List WData}{vals:List Value}
  (c:l.row.toRowW.claim.pre args=true) (o:WellAll P h vals args) :
  ∃a vs ns,vals=[Value.ref a]/\args=[WData.list (ns.map WData.int)]/\h.get? a=some { cls:=.type "list",data:=.seq vs.toArray }/\IntsAre vs ns/\ns.length<=n:=by
 have g:WShape.hasAll [] args [.list .int]=true:=(pre_splitW c).1;have i:l.pre.holds [] { args:=args }=true:=(pre_splitW c).2;obtain⟨d,r,rfl,p,m⟩:=hasAllW_cons g;obtain rfl:=hasAllW_nil m;obtain⟨t,rfl,j⟩:=hasW_list p;obtain⟨ns,rfl⟩:=items_int j;have b:ns.length<=n:=by
  unfold OpenLaw.pre at i;have f:(WTm.not (.lt (.lit (.int (n:Int))) (.len (.arg 0)))).holds [] { args:=[.list (ns.map .int)] }=true:=by have f:=(holds_andW i).1;rw[s] at f;exact f
  have e:=condW_of f (w_not (w_lt w_lit (w_len_list (w_arg rfl))));rw[j4] at e;refine Nat.le_of_not_lt λq=>?_;have k:(n:Int)<((ns.length:Nat):Int):=by lia
  first
   |(rw[m9 k] at e;exact absurd e (by decide))
   |(simp at e;lia)
 cases o with
 |cons w1 w2=>
  cases w2;cases w1 with
  |list ho hall=>exact⟨_,_,ns,rfl,rfl,ho,aBc ns _ hall,b⟩
def aQ9 (l:OpenLaw)(args:List WData):l.row.toRowW.claim.post args (.bool true) args=true:=
 postW_of
  (show WShape.has [] (.bool true) .bool=true by first|rfl|decide|simp[WShape.has,WShape.arms,WShape.armsAll])
  (show (WTm.eq .res (.lit (.bool true))).value [] { args:=args,res:=some (.bool true),after:=args }=some (.bool (true == true)) from w_eq_bool (w_res rfl) w_lit) rfl
def aMf {l:OpenLaw}{n:Nat}{q:Program}{loose:List Str}{XP:(bF2)->Heap->Prop}{YP:World->Heap->Prop}{d:DefRec}
  (H:l.most=some n) (y:d.params.defaults=[])
  (t:∀(w:World) (s₀ s₁:Shared) (mg mb:bF2) (fa:Addr) (o:Obj) (pm cd doc:Value) (a:Addr) (vs:List Value) (ns:List Int),
   Ground q loose [] XP w s₀ mg mb s₁.heap->YP w s₁.heap ->
   s₁.heap.get? fa=some o->o.data=.func (docDef d.name d.params d.body d.scope pm cd doc)->s₁.heap.CodeRec cd d.name->mg d.name=some (.ref fa) ->
   s₁.heap.get? a=some { cls:=.type "list",data:=.seq vs.toArray }->IntsAre vs ns->ns.length<=n->s₁.gens=#[] ->
   codeAny (model l.prog w) callerA (.call (.ref fa) ⟨[.ref a],[]⟩) (λr s'=>r=.ok (.ret (.bool true))/\OldK s₁.heap s'.heap/\s'.os=s₁.os/\AllBare s'.gens) s₁) :
  WalkO q loose XP YP l.row.toRowW d [] (λf vs=>PySem.call f vs):=by
 intro w s₀ s₁ mg mb G Y fa o pm cd doc u kV v hd h m i C s k I e p F j x;obtain rfl:u=.none:=Dflts.none m y;obtain rfl:kV=.none:=Dflts.noKw m;obtain⟨a,vs,ns,rfl,rfl,g,b,c⟩:=aR9 H e j;refine enter_call (bCZ (t w s₀ s₁ mg mb fa o pm cd doc a vs ns G Y v (fd_plain hd) h i g b c C) λr s' A=>?_);obtain⟨rfl,D,B,E⟩:=A;exact⟨.inl ⟨.bool true,.bool true,[],rfl,λ_=>rfl,.bool true,aQ9 l _,λ_=>⟨List.Pairwise.nil,λ_ z=>(nomatch z)⟩⟩,D,B,E⟩
end Att
namespace L2
open PySem PySem.Spec PyProof.Rows
theorem aFd:∀{vs:List Value} {ns:List Int},IntsAre vs ns->Vals (ns.map V.int) vs
 |_,_,.nil=>.nil
 |_,_,.cons n t h=>.cons ⟨t,rfl⟩ (aFd h)
abbrev KOf {K:bFZ}{h:Heap}(_:K.In h):bFZ:=K
def mQ (s:Stmt):Arguments:=match s with
 |.FunctionDef _ a _ _ _ _ _ _ _ _=>a
 |_=>{ posonlyargs:=[],args:=[],vararg:=none,kwonlyargs:=[],kw_defaults:=[],kwarg:=none,defaults:=[] }
def fJ (s:Stmt):List Stmt:=match s with
 |.FunctionDef _ _ b _ _ _ _ _ _ _=>b
 |_=>[]
def aF (s:Stmt):Scope:=match s with
 |.FunctionDef _ _ _ _ _ _ sc _ _ _=>sc
 |_=>{ kind:=.function,names:=[],isGenerator:=false,isCoroutine:=false }
abbrev CX0:CXT:=λ_ _ _ _ _ _=>False
abbrev E0:XK:=λ_ _ _=>False
def aE4:sU CX0 X E0:=λ_ _ _ _ _ _ _ h=>h.elim
structure Fun (K:bFZ)(x qual:Str)(st:Stmt)(f:Addr)(fd:FuncData):Prop where
 ex:∃(oc:Value) (od:Option Addr) (kV doc pm:Value) (an:Option Addr) (cdv ct:Value) (osl:Array (Option Value)),
  fd=PySem.W.fnOf x qual (mQ st) (fJ st) (aF st) .none kV doc pm an cdv ct/\K.lookup f=some ⟨oc,od,.func fd,osl⟩/\PySem.W.codeIn K cdv qual=true
 kp:PySem.W.keepIn K (.ref f)=true
section
variable {P:Program}{w:World}{K:bFZ}{mg:bF2}{base:Heap}
def Fun.ok {x qual:Str}{st:Stmt}{f:Addr}{fd:FuncData}{N ps:List Str}{k:Nat}{sp:Sp}(F:Fun K x qual st f fd)(S:aJ N ps (aF st))(j:∀vs H Q E,sp vs H Q E->vs.length=ps.length)
  (c:∀(cdv:Value) (A:Around) (outer:List Env) (s:Shared) (H:Hp) (vs:List V) (Q:VK) (E:XK),Room k (A.deeper (envOfC qual (aF st) s.heap.objs.size f cdv))->sp vs H Q E ->
   ∃t,PSs (aB3 CX0 P w K mg base N qual (aF st) f cdv A outer s H E).nox (fJ st) t/\t { nx:=λ_ H'=>Q .non H',rt:=Q } (start N vs) H):kZ P w K mg base CX0 (k+1) f fd ps sp:=by
 obtain⟨n,o,kV,g,l,p,cdv,m,i,rfl,d,a⟩:=F.ex;refine aZ1 d a S j λA outer s H vs Q E e b=>?_;obtain⟨t,h,q⟩:=c cdv A outer s H vs Q E e b;exact⟨t,h.nox,q⟩
def Fun.binds {x qual:Str}{st:Stmt}{f:Addr}{fd:FuncData}{ps:List Str}(F:Fun K x qual st f fd)
  (h:∀(kV doc pm:Value) (an:Option Addr) (cdv ct:Value) (us:List Value),us.length=ps.length->bindArgs (PySem.W.fnOf x qual (mQ st) (fJ st) (aF st) .none kV doc pm an cdv ct) ⟨us,[]⟩=pure (ps.zip us)):Binds K fd ps []:=by
 obtain⟨d,e,kV,doc,pm,an,cdv,ct,a,rfl,c,b⟩:=F.ex;exact .all (h kV doc pm an cdv ct)
def aHf {x qual:Str}{st:Stmt}{f:Addr}{g:Value}{h i:Option Addr}{a:Array (Option Value)}{kV b e d ct:Value}(l:K.lookup f=some ⟨g,h,.func (PySem.W.fnOf x qual (mQ st) (fJ st) (aF st) .none kV b e i d ct),a⟩)
  (c:PySem.W.codeIn K d qual=true) (k:PySem.W.keepIn K (.ref f)=true):Fun K x qual st f (PySem.W.fnOf x qual (mQ st) (fJ st) (aF st) .none kV b e i d ct):=⟨⟨g,h,kV,b,e,i,d,ct,a,rfl,l,c⟩,k⟩
end
def mC (a:Room k A):A.units+1<cLine:=bBY (Nat.add_le_add_left (by decide:1<=64) _) a.units
def nZ (h:n<=1000):n<sizeLine:=bBY h (by decide)
def pv (i:Nat)(b:X.N[i]?=some x:=by rfl)(c:Vis X.env.scope x:=by trivial)(hd:(x == ("__debug__":Str))=false:=by decide)
  (a:(x == ("__classdict__":Str))=false:=by decide):PE X (.Name x pos) (aKf i):=bC2 b c hd a
def cB {A B:Prop}(h:B):if false=true then A else B:=by rw[if_neg v8];exact h
def fB {A B:Prop}(h:A):if true=true then A else B:=by rw[if_pos rfl];exact h
def aG4 {c A B:Prop}[Decidable c](a:c->A)(b:¬ c->B):if c then A else B:=by
 by_cases h:c
 ·rw[if_pos h];exact a h
 ·rw[if_neg h];exact b h
def Same (H H':Hp):Prop:=∀b o,H b=some o->H' b=some o
def Same.refl (H:Hp):Same H H:=λ_ _ h=>h
def Same.trans (a:Same H H1)(b:Same H1 H2):Same H H2:=λc o h=>b c o (a c o h)
def Same.free (e:Same H H')(h:H' l=Option.none):H l=Option.none:=by
 cases q:H l with
 |none=>rfl
 |some o=>rw[e l o q] at h;cases h
def Same.seq {K:bFZ}{H H':Hp}{a:Addr}{xs:List V}(e:Same H H')(h:SqL K H a xs):SqL K H' a xs:=by
 rcases h with (h|⟨o,h⟩)|h
 ·exact .inl (.inl (e _ _ h))
 ·exact .inl (.inr ⟨o,e _ _ h⟩)
 ·exact .inr h
end L2
namespace PySem
namespace RvF
end RvF
end PySem
namespace L2
open PySem PySem.Spec PyProof.Rows
def aM3:bootBuiltins "int"=some (.type "int"):=by trivial
def aZi:bootBuiltins "bool"=some (.type "bool"):=by trivial
def aNr:bootBuiltins "str"=some (.type "str"):=by trivial
def tK:bootBuiltins "list"=some (.type "list"):=by trivial
def fU:bootBuiltins "tuple"=some (.type "tuple"):=by trivial
def aI5:bootBuiltins "dict"=some (.type "dict"):=by trivial
def aIg:bootBuiltins "set"=some (.type "set"):=by trivial
def bDc:bootBuiltins "zip"=some (.type "zip"):=by trivial
def aI4:bootBuiltins "enumerate"=some (.type "enumerate"):=by trivial
def bQ:bootBuiltins "isinstance"=some (.builtin "isinstance"):=by trivial
def cQ:bootBuiltins "len"=some (.builtin "len"):=by trivial
def rJ:bootBuiltins "all"=some (.builtin "all"):=by trivial
def bCh:bootBuiltins "any"=some (.builtin "any"):=by trivial
def bBc:bootBuiltins "max"=some (.builtin "max"):=by trivial
def dG:bootBuiltins "sorted"=some (.builtin "sorted"):=by trivial
def bBy:bootBuiltins "abs"=some (.builtin "abs"):=by trivial
def aXc {J:It}{n:Nat}{item:Nat->V}{g:TG}{tb:TS}{D:Ends}{σ:St}{H:Hp}(d:Nat->St->Hp->Prop)
  (c:∀i H,i<n->J.go i H) (j:∀H,J.stop n H) (l:∀i H x H',i<n->J.yld i H x H'->H'=H/\x=item i) (o:d 0 σ H)
  (k:∀i σ H,i<n->d i σ H->g (item i) σ H fun σ2 H2=>tb { D with nx:=d (i+1),ct:=d (i+1),bk:=D.nx } σ2 H2) (hd:∀σ H,d n σ H->D.nx σ H) :
  ∃W:Nat->Nat->St->Hp->Prop,(∃m,W 0 m σ H)/\∀i m σ H,W i m σ H ->
   (J.stop i H/\D.nx σ H)\/(J.go i H/\∃N:St->Hp->Prop,(∀σ' H',N σ' H'->∃m',m'<m/\W (i+1) m' σ' H')/\∀x H',J.yld i H x H'->g x σ H' fun σ2 H2=>tb { D with nx:=N,ct:=N,bk:=D.nx } σ2 H2):=by
 refine⟨λi m σ H=>m=n - i/\i<=n/\d i σ H,⟨n,by simp,bAE _,o⟩,?_⟩;rintro i m σ H ⟨rfl,hi,p⟩;by_cases a:i<n
 ·refine .inr ⟨c i H a,d (i+1),fun σ' H' h=>⟨n - (i+1),by lia,rfl,a,h⟩,λx H' y=>?_⟩;obtain⟨b,f⟩:=l i H x H' a y;subst b f;exact k i σ _ a p
 ·have e:i=n:=by lia
  subst e;exact .inl ⟨j H,hd σ H p⟩
def sgn (x:Str)(i:Nat):Str:=⟨#[x.cps.getD i 0]⟩
def aTv (h:x.cps[i]?=some c):(⟨#[c]⟩:Str)=sgn x i:=by unfold sgn;rw[w6,h];rfl
def Its (x:Str):It:=⟨λi _=>i<x.cps.size,λi H v H'=>H'=H/\v=.str (sgn x i),λi _=>x.cps.size<=i⟩
def aS5 {P:Program}{w:World}{K:bFZ}{tg:Expr}(it:Addr)(x:Str)(t:Tok):Turn P w K tg (Its x) [it] it (λi h=>h.IsStrIter it "str_ascii_iterator" x t i) where
 mem:=by simp
 obj:=λi h a b f=>by
  have e:b=it:=by simpa using f
  subst e;obtain⟨o,e,c,d⟩:=a;exact⟨o,e,λv z=>by rw[d] at z;cases z⟩
 keep:=λi h m a k=>let ⟨o,ho,r⟩:=a;⟨o,k it (by simp) o ho,r⟩
 item:=by intro X n G J y i g s σ H E I l a D;subst n G J;obtain⟨B,p,O,F,q,A⟩:=l it (by simp);refine (Walks.strAscii (prog:=X.prog) (w:=X.w) (I.ok.hd y) it x t).item i s _ _ D a λv m L N j S=>?_;obtain⟨c,u,C,rfl⟩:=N;have M:Inv X g σ H { s with heap:=m,toks:=L }:=I.turned (λb o f e=>S b o (by simpa using f) e) B p F q A;obtain⟨o,e,Q,d⟩:=id j;exact⟨_,rfl,aFa (s:={ s with heap:=m,toks:=L }) e Q d (by decide) ⟨.str ⟨#[c]⟩,H,M,⟨u,rfl⟩,⟨rfl,by rw[aTv C]⟩,j,λb f=>(l b f).1⟩⟩
 done:=by intro X n G J y i g s σ H E I l a D;subst n G J;obtain⟨B,p,O,F,q,A⟩:=l it (by simp);exact wpAny_pyNext_ascii_end (I.ok.hd y) a (Array.getElem?_eq_none_iff.mpr D) λm R=>⟨rfl,I.turned (t':=s.toks) (λb o f e=>R b o f e) B p F q A⟩
 self:=λ_ _ _ _ _ a h=>wpAny_pyIter_striter_ascii a h
def aSq {P:Program}{w:World}{K:bFZ}{tg:Expr}(it:Addr)(x:Str)(t:Tok):Turn P w K tg (Its x) [it] it (λi h=>h.IsStrIter it "str_iterator" x t i) where
 mem:=by simp
 obj:=λi h a b f=>by
  have e:b=it:=by simpa using f
  subst e;obtain⟨o,e,c,d⟩:=a;exact⟨o,e,λv z=>by rw[d] at z;cases z⟩
 keep:=λi h m a k=>let ⟨o,ho,r⟩:=a;⟨o,k it (by simp) o ho,r⟩
 item:=by intro X n G J y i g s σ H E I l a D;subst n G J;obtain⟨B,p,O,F,q,A⟩:=l it (by simp);refine (Walks.strWide (prog:=X.prog) (w:=X.w) (I.ok.hd y) it x t).item i s _ _ D a λv m L N j S=>?_;obtain⟨c,u,C,rfl⟩:=N;have M:Inv X g σ H { s with heap:=m,toks:=L }:=I.turned (λb o f e=>S b o (by simpa using f) e) B p F q A;obtain⟨o,e,Q,d⟩:=id j;exact⟨_,rfl,aFa (s:={ s with heap:=m,toks:=L }) e Q d (by decide) ⟨.str ⟨#[c]⟩,H,M,⟨u,rfl⟩,⟨rfl,by rw[aTv C]⟩,j,λb f=>(l b f).1⟩⟩
 done:=by intro X n G J y i g s σ H E I l a D;subst n G J;obtain⟨B,p,O,F,q,A⟩:=l it (by simp);exact wpAny_pyNext_wide_end (I.ok.hd y) a (Array.getElem?_eq_none_iff.mpr D) λm R=>⟨rfl,I.turned (t':=s.toks) (λb o f e=>R b o f e) B p F q A⟩
 self:=λ_ _ _ _ _ a h=>wpAny_pyIter_striter_wide a h
def bDg (tl:TE):TI:=fun σ H R=>tl σ H λx H1=>∃z,x=.str z/\R (Its z) H1
def bBe (n:PE X l tl):PI X tg l (bDg tl):=by
 intro c s σ H R I h;refine thn (n c s σ H _ I h) λv a ⟨x,f,d,m,j⟩=>?_;obtain⟨z,e,q⟩:=j;subst e;obtain⟨t,rfl⟩:=m;have i:∀b∈[a.heap.objs.size],tW X c f b:=λb k=>by
  have e:b=a.heap.objs.size:=by simpa using k
  subst e;exact d.aHp (d9 _) (d.hok.fresh (d9 _))
 cases g:z.cps.all (·<128)
 ·exact wpAny_pyIter_wide g ⟨a.heap.objs.size,[a.heap.objs.size],_,_,f,rfl,d.kept (t':=a.toks) λb o e=>d7 _ e,aSq _ z t,⟨_,j8 _ rfl,rfl,rfl⟩,i,q⟩
 ·exact wpAny_pyIter_ascii g ⟨a.heap.objs.size,[a.heap.objs.size],_,_,f,rfl,d.kept (t':=a.toks) λb o e=>d7 _ e,aS5 _ z t,⟨_,j8 _ rfl,rfl,rfl⟩,i,q⟩
def aPq {x:Str}{g:TG}{tb:TS}{D:Ends}{σ:St}{H:Hp}(b:Nat->St->Hp->Prop)(c:b 0 σ H)
  (a:∀i σ H,i<x.cps.size->b i σ H->g (.str (sgn x i)) σ H fun σ2 H2=>tb { D with nx:=b (i+1),ct:=b (i+1),bk:=D.nx } σ2 H2) (hd:∀σ H,b x.cps.size σ H->D.nx σ H) :
  ∃W:Nat->Nat->St->Hp->Prop,(∃m,W 0 m σ H)/\∀i m σ H,W i m σ H ->
   ((Its x).stop i H/\D.nx σ H)\/((Its x).go i H/\∃N:St->Hp->Prop,(∀σ' H',N σ' H'->∃m',m'<m/\W (i+1) m' σ' H')/\∀v H',(Its x).yld i H v H'->g v σ H' fun σ2 H2=>tb { D with nx:=N,ct:=N,bk:=D.nx } σ2 H2):=
 aXc (item:=λi=>.str (sgn x i)) b (λi H h=>h) (λH=>d9 _) (λi H v H' _ y=>y) c a hd
def bA6:V->List V->Hp->VK->Prop:=λx vs H Q=>∃a b i rest,x=.str a/\vs=[.str b]/\Builtin.Str.occurrences a b 0 a.length 1=i::rest/\Q (.int (i:Nat)) H
def aJj:MtR X "str.index" bA6:=by intro g s σ H x l v k Q I d e h;obtain⟨a,b,i,c,rfl,rfl,f,q⟩:=h;obtain⟨t,rfl⟩:=d;obtain⟨u,rfl,j,rfl⟩:=e.one;exact SC.index f ⟨.int (i:Nat),H,I.tok _,⟨_,rfl⟩,q⟩
def aNo (x:V)(T:String):Option Bool:=match x with
 |.int _=>if T = "int" then some true else if T = "bool" then some false else if T = "str" then some false else none
 |.str _=>if T = "int" then some false else if T = "bool" then some false else if T = "str" then some true else none
 |.bl _=>if T = "int" then some true else if T = "bool" then some true else if T = "str" then some false else none
 |_=>none
def bDv:List V->Hp->VK->Prop:=λxs H Q=>∃x T b,xs=[x,.ty T]/\aNo x T=some b/\Q (.bl b) H
def rQ:cF X (.builtin "isinstance") bDv:=by
 intro d s σ H l m Q I r h;obtain⟨x,T,b,rfl,e,q⟩:=h;obtain⟨u,v,rfl,g,j⟩:=r.two;cases j;have f:∀{k:Bool},some k=some b->EP X d σ Q (.bool k) s:=λe=>by cases e;exact⟨.bl _,H,I,rfl,q⟩
 have c:∀{k:Bool},some k=some b->EP X d σ Q (.bool k) { s with toks:=s.toks+1 }:=λe=>by cases e;exact⟨.bl _,H,I.tok _,rfl,q⟩
 cases x with
 |int i=>
  obtain⟨t,rfl⟩:=g;unfold aNo at e;dsimp only at e
  split at e
  ·rename_i a;subst a;exact IsiPair.int_int (f e)
  split at e
  ·rename_i a;subst a;exact IsiPair.int_bool (c e)
  split at e
  ·rename_i a;subst a;exact IsiPair.int_str (c e)
  ·cases e
 |str z=>
  obtain⟨t,rfl⟩:=g;unfold aNo at e;dsimp only at e
  split at e
  ·rename_i a;subst a;exact IsiPair.str_int (c e)
  split at e
  ·rename_i a;subst a;exact IsiPair.str_bool (c e)
  split at e
  ·rename_i a;subst a;exact IsiPair.str_str (f e)
  ·cases e
 |bl z=>
  cases g;unfold aNo at e;dsimp only at e
  split at e
  ·rename_i a;subst a;exact IsiPair.bool_int (f e)
  split at e
  ·rename_i a;subst a;exact IsiPair.bool_bool (f e)
  split at e
  ·rename_i a;subst a;exact IsiPair.bool_str (c e)
  ·cases e
 |_=>cases (show (none:Option Bool)=some b from e)
def small (h:n<=1000):n<=sizeLine:=bDI (nZ h)
def aDs:Vals [] []:=.nil
def mK (r:RelV x u)(t:Vals xs us):Vals (x::xs) (u::us):=.cons r t
def cW:Expr->Bool
 |.Starred ..=>false
 |_=>true
def aU (h:cW e=true):starEach (e::es) env=(false,eval e env)::starEach es env:=by cases e <;> first|rfl|cases h
def bFa (b:PE X e te)(c:PA X es t)(a:cW e=true:=by rfl) :
  PA X (e::es) (dZ te t):=aYn b c (aU a)
def bEl (b:Gl X x)(a:∃u,X.mg x=some u/\RelV v u)(hd:(x == ("__debug__":Str))=false:=by decide):PE X (.Name x pos) (tC v):=by obtain⟨u,a,r⟩:=a;exact aX9 b a r hd
section
variable {P:Program}{w:World}{K:bFZ}{mg:bF2}{base:Heap}
def Dn (K:bFZ)(mg:bF2)(x:Str)(st:Stmt)(ps:List Str):Prop:=∃f fd,Fun K x x st f fd/\Binds K fd ps []/\mg x=some (.ref f)
def Ok (P:Program)(w:World)(K:bFZ)(mg:bF2)(base:Heap)(k:Nat)(x:Str)(ps:List Str)(sp:Sp):Prop:=
 ∃f fd,mg x=some (.ref f)/\PySem.W.keepIn K (.ref f)=true/\Binds K fd ps []/\kZ P w K mg base CX0 k f fd ps sp
def Ok.mono (h:Ok P w K mg base j x ps sp)(g:j<=k):Ok P w K mg base k x ps sp:=by obtain⟨f,a,c,e,b,d⟩:=h;exact⟨f,a,c,e,b,d.mono g⟩
def Ok.of {x:Str}{st:Stmt}{N ps:List Str}{k:Nat}{sp:Sp}(D:Dn K mg x st ps)(S:aJ N ps (aF st))(d:∀vs H Q E,sp vs H Q E->vs.length=ps.length)
  (a:∀(f:Addr) (cdv:Value) (A:Around) (outer:List Env) (s:Shared) (H:Hp) (vs:List V) (Q:VK) (E:XK),Room k (A.deeper (envOfC x (aF st) s.heap.objs.size f cdv))->sp vs H Q E ->
   ∃t,PSs (aB3 CX0 P w K mg base N x (aF st) f cdv A outer s H E).nox (fJ st) t/\t { nx:=λ_ H'=>Q .non H',rt:=Q } (start N vs) H):Ok P w K mg base (k+1) x ps sp:=by
 obtain⟨f,b,F,B,m⟩:=D;exact⟨f,b,m,F.kp,B,F.ok S d λcdv A outer s H vs Q E c h=>a f cdv A outer s H vs Q E c h⟩
end
def bEm (G:Ok X.prog X.w X.K X.mg X.base k x ps sp)(l:Room k X.A)(m:Gl X x)(n:PA X (e::es) t)(b:(x == ("__debug__":Str))=false:=by decide)
  (j:starEach (e::es) X.env=(false,eval e X.env)::starEach es X.env:=by rfl) (g:(backTo pos (starEach es X.env)).any (·.1)=false:=by rfl) :
  PE X (.Call (.Name x p) (e::es) [] pos) (aAi sp [] E0 t):=by
 obtain⟨f,i,c,h,a,d⟩:=G;exact aYg d l m c h a .nil aE4 n b j g
def bDe (G:Ok X.prog X.w X.K X.mg X.base k x ps sp)(h:Room k X.A)(i:Gl X x)(b:(x == ("__debug__":Str))=false:=by decide) :
  PE X (.Call (.Name x p) [] [] pos) (aAi sp [] E0 aBl):=by
 obtain⟨f,g,c,e,a,d⟩:=G;exact aTp d h i c e a .nil aE4 b
theorem vL (f:Str × NameKind->List (Str × Addr)->Sem (ForInStep (List (Str × Addr))))
  (l:∀n r,f (n,.free) r=(cellOf env n >>= λa=>pure (.yield ((n,a)::r)))) (j:∀n k r,k≠.free->f (n,k) r=pure (.yield r)) :
  ∀(names:List (Str × NameKind)) (acc:List (Str × Addr)),(∀y∈names,y.2=.free->∃c,env.cells.lookup y.1=some c) ->
  ∃cl,forIn names acc f=(pure (cl++acc):Sem _)/\(∀p∈cl,env.cells.lookup p.1=some p.2/\(p.1,NameKind.free)∈names)/\∀y,(y,NameKind.free)∈names->∃c,(y,c)∈cl
 |[],acc,_=>⟨[],by simp,λ_ h=>(nomatch h),λ_ h=>(nomatch h)⟩
 |(n,k)::r,acc,h=>by
  by_cases d:k=.free
  ·subst d;obtain⟨c,i⟩:=h (n,.free) j5 rfl;obtain⟨cl,e,b,g⟩:=vL f l j r ((n,c)::acc) λy hy=>h y (j7 _ hy);refine⟨cl++[(n,c)],?_,λp hp=>?_,λy hy=>?_⟩
   ·rw[bED,l];have o:cellOf env n=pure c:=by unfold cellOf;rw[i]
    rw[o,pure_bind,pure_bind];show forIn r ((n,c)::acc) f=_;rw[e,bCD];rfl
   ·rcases List.mem_append.mp hp with hp|hp
    ·exact⟨(b p hp).1,j7 _ (b p hp).2⟩
    ·obtain rfl:=List.mem_singleton.mp hp;exact⟨i,j5⟩
   ·rcases List.mem_cons.mp hy with e|hy
    ·cases e;exact⟨c,by simp⟩
    ·obtain⟨m,q⟩:=g y hy;exact⟨m,bBF _ q⟩
  ·obtain⟨cl,e,b,g⟩:=vL f l j r acc λy hy=>h y (j7 _ hy);refine⟨cl,?_,λp hp=>⟨(b p hp).1,j7 _ (b p hp).2⟩,λy hy=>?_⟩
   ·rw[bED,j n k acc d,pure_bind];exact e
   ·rcases List.mem_cons.mp hy with e|hy
    ·cases e;exact absurd rfl d
    ·exact g y hy
def aNn (h:∀y∈scope.names,y.2=.free->∃c,env.cells.lookup y.1=some c) :
  ∃cl,closureFor scope env=pure cl/\(∀p∈cl,env.cells.lookup p.1=some p.2/\(p.1,NameKind.free)∈scope.names)/\∀y,(y,NameKind.free)∈scope.names->∃c,(y,c)∈cl:=by
 unfold closureFor;obtain⟨cl,e,f,d⟩:=vL (env:=env) (λx r=>match x with|(name,kind)=>if (kind == NameKind.free)=true then do let a <-cellOf env name;pure (.yield ((name,a)::r)) else pure (.yield r))
  (λn r=>rfl) (λn k r b=>by
   have:(k == NameKind.free)=false:=by simpa using b
   simp only[this,bBB,if_false]) scope.names [] h
 refine⟨cl,?_,f,d⟩;rw[bCJ] at e;refine Eq.trans ?_ e;first
 |rfl
 |simp
theorem lookup_mem {α β:Type}[BEq α][LawfulBEq α]{a:α}{b:β}:∀{l:List (α × β)},(a,b)∈l->∃b',l.lookup a=some b'
 |(x,y)::r,h=>by
  rw[bCW];by_cases e:(a == x)=true
  ·exact⟨y,by rw[e]⟩
  ·have c:(a == x)=false:=by simpa using e
   rw[c];rcases List.mem_cons.mp h with z|z
   ·cases z;simp at e
   ·exact lookup_mem z
theorem xK {env:Env}{y:Str}{k:NameKind}:∀{names:List (Str × NameKind)},names.lookup y=some .free ->
  (names.map λx=>match x with|(n,k)=>if (k == NameKind.free && env.scope.kind == ScopeKind.function && env.kindOf n == some NameKind.cell) then (n,NameKind.cell) else (n,k)).lookup y=some .cell \/
  (names.map λx=>match x with|(n,k)=>if (k == NameKind.free && env.scope.kind == ScopeKind.function && env.kindOf n == some NameKind.cell) then (n,NameKind.cell) else (n,k)).lookup y=some .free
 |[],h=>by simp at h
 |(n,k')::r,h=>by
  rw[bAF];rw[bCW] at h;by_cases e:(y == n)=true
  ·rw[e] at h;cases h;by_cases q:((NameKind.free == NameKind.free) && env.scope.kind == ScopeKind.function && env.kindOf n == some NameKind.cell)=true
   ·left;simp only[q,if_true,bCW,e]
   ·right;have g:=Bool.eq_false_iff.mpr q;simp only[g,bBB,if_false,bCW,e]
  ·have b:(y == n)=false:=by simpa using e
   rw[b] at h;have f:=xK (env:=env) (k:=k) h;have a:∀z:Str × NameKind,z.1=n->(List.lookup y (z::(r.map λx=>match x with|(n,k)=>if (k == NameKind.free && env.scope.kind == ScopeKind.function && env.kindOf n == some NameKind.cell) then (n,NameKind.cell) else (n,k)))) =
     List.lookup y (r.map λx=>match x with|(n,k)=>if (k == NameKind.free && env.scope.kind == ScopeKind.function && env.kindOf n == some NameKind.cell) then (n,NameKind.cell) else (n,k)):=λz c=>by
    obtain⟨j,i⟩:=z;cases c;rw[bCW,b]
   have d:(match ((n,k'):Str × NameKind) with|(n,k)=>if (k == NameKind.free && env.scope.kind == ScopeKind.function && env.kindOf n == some NameKind.cell) then (n,NameKind.cell) else (n,k)).1=n:=by
    dsimp only
    split <;> rfl
   rw[a _ d];exact f
theorem xP {env:Env}{y:Str}:∀{names:List (Str × NameKind)},(∀z∈names,z.2≠.cell) ->
  ((names.map λx=>match x with|(n,k)=>if (k == NameKind.free && env.scope.kind == ScopeKind.function && env.kindOf n == some NameKind.cell) then (n,NameKind.cell) else (n,k)).lookup y=some .cell \/
  (names.map λx=>match x with|(n,k)=>if (k == NameKind.free && env.scope.kind == ScopeKind.function && env.kindOf n == some NameKind.cell) then (n,NameKind.cell) else (n,k)).lookup y=some .free)->(y,NameKind.free)∈names
 |[],_,h=>by simp at h
 |(n,k')::r,hc,h=>by
  rw[bAF] at h;by_cases e:(y == n)=true
  ·have g:y=n:=by simpa using e
   subst g;have c:k'=.free:=by
    by_cases q:((k' == NameKind.free) && env.scope.kind == ScopeKind.function && env.kindOf y == some NameKind.cell)=true
    ·rw[bAW,bAW] at q;simpa using q.1.1
    ·have i:=Bool.eq_false_iff.mpr q;simp only[i,bBB,if_false,bCW,e] at h;rcases h with h|h
     ·cases h;exact absurd rfl (hc (y,.cell) j5)
     ·cases h;rfl
   subst c;exact j5
  ·have d:(y == n)=false:=by simpa using e
   have b:∀z:Str × NameKind,z.1=n->(List.lookup y (z::(r.map λx=>match x with|(n,k)=>if (k == NameKind.free && env.scope.kind == ScopeKind.function && env.kindOf n == some NameKind.cell) then (n,NameKind.cell) else (n,k)))) =
     List.lookup y (r.map λx=>match x with|(n,k)=>if (k == NameKind.free && env.scope.kind == ScopeKind.function && env.kindOf n == some NameKind.cell) then (n,NameKind.cell) else (n,k)):=λz a=>by
    obtain⟨l,j⟩:=z;cases a;rw[bCW,d]
   have f:(match ((n,k'):Str × NameKind) with|(n,k)=>if (k == NameKind.free && env.scope.kind == ScopeKind.function && env.kindOf n == some NameKind.cell) then (n,NameKind.cell) else (n,k)).1=n:=by
    dsimp only
    split <;> rfl
   rw[b _ f] at h;exact j7 _ (xP (λz a=>hc z (j7 _ a)) h)
def aSd (I:Nat->Shared->Prop)
  (f:∀n s,I n s->wpAny (model prog w) A (pyNext it) (λr s₁=>match r with
   |none=>R (.ok .next) s₁
   |some v=>wpAny (model prog w) A (letOwnedTupleGo target it v) (λ_ s'=>wpAny (model prog w) A (assign target env v) (λ_ s₂=>
     wpAny (model prog w) A (forIn ifs true λc r=>if r=true then do let ok <-isTrue c env (eval c env);pure (ForInStep.yield ok) else pure (ForInStep.yield r)) (λok s₃=>
      if ok=true then wpAny (model prog w) A (eval elt env) (λx s₄=>
       wpAny (model prog w) A (call (.builtin "list.append") [acc,x]) (λ_ s₅=>∃m,m<n/\I m s₅) (notedBy (model prog w) A env λe s'=>R (.error e) s') s₄) (notedBy (model prog w) A env λe s'=>R (.error e) s') s₃
      else ∃m,m<n/\I m s₃) (notedBy (model prog w) A env λe s'=>R (.error e) s') s₂) (notedBy (model prog w) A env λe s'=>R (.error e) s') s') (notedBy (model prog w) A env λe s'=>R (.error e) s') s₁)
   (notedBy (model prog w) A env λe s'=>R (.error e) s') s)
  (n:Nat) (h:I n s):codeAny (model prog w) A (.compLoop (.ListComp elt [⟨target,iter,ifs,0⟩] scope pos) 0 it acc env) R s:=by
 refine codeAny_loop rfl I (λn s i=>?_) n h;show wpAny _ A ((compTurn (.ListComp elt [⟨target,iter,ifs,0⟩] scope pos) 0 it acc env).onRaise (λx=>do noteFrame x env;theTreesLotGoes x)) _ _ s;refine wpAny_noted ?_;rw[compTurn_list];refine b7 (bFX (b7 (bBQ (f n s i) (λr s₁ d=>?_) λ_ _ a=>a)));cases r with
 |none=>exact d8 d
 |some v=>
  refine b7 (bBQ d (λ_ s' b=>b7 (bBQ b (λ_ s₂ j=>b7 (bBQ j (λok s₃ g=>?_) λ_ _ a=>a)) λ_ _ a=>a)) λ_ _ a=>a);cases ok with
  |false=>exact d8 ⟨rfl,g⟩
  |true=>exact b7 (b7 (bBQ g (λx s₄ k=>b7 (bBQ k (λ_ s₅ l=>d8 (d8 ⟨rfl,l⟩)) λ_ _ a=>a)) λ_ _ a=>a))
def cxC (X:Cx)(N:List Str)(scope:Scope)(cl:List (Str × Addr))(s:Shared)(H:Hp)(fp:List Addr):Cx:=
 { X with N:=N,s₀:=s,H₀:=H,env:=compEnvC scope cl s.heap.objs.size X.env,outer:=X.stack,stack:=X.stack,ex:=fp,fn:=λ_=>false,pn:=[],xe:=λ_ _=>False }
def aSw (X:Cx)(ifs:List Expr)(tt:TT):Prop:=
 ∀bF3 s σ H Q,Inv X bF3 σ H s->tt σ H Q ->
  wpAny (model X.prog X.w) X.A (forIn ifs true λc r=>if r=true then do let ok <-isTrue c X.env (eval c X.env);pure (ForInStep.yield ok) else pure (ForInStep.yield r)) (TP X bF3 σ Q) X.xe s
def mG:TT:=λ_ H Q=>Q true H
def bB7:aSw X [] mG:=λ_ _ _ H _ I h=>wpAny_tests_nil ⟨H,I,h⟩
def bAs (h:PT X c tc):aSw X [c] tc:=λa s σ H Q I q=>wpAny_tests_one (h a s σ H Q I q)
structure vV (scope:Scope)(N:List Str):Prop where
 cell:∀y∈scope.names,y.2≠.cell
 kind:scope.kind=.function
 names:∀y∈scope.names,y.2=.local->scope.names.lookup y.1=some .local
 free:∀y∈scope.names,y.2=.free->scope.names.lookup y.1=some .free
def Cap (X:Cx)(scope:Scope)(N:List Str)(σ σ':St):Prop:=
 σ'.length=N.length/\∀(i:Nat) (y:Str) (v:V),N[i]?=some y->σ'[i]?=some (some v)->(y,NameKind.free)∈scope.names/\∃j:Nat,X.N[j]?=some y/\σ[j]?=some (some v)/\Vis X.env.scope y
def aUr {X:Cx}{bF3:bF1}{σ σ':St}{H:Hp}{s:Shared}{scope:Scope}{N:List Str}{cl:List (Str × Addr)}{fp:List Addr}{h1:Heap}{tk:Nat}{m1:bF2}
  (I:Inv X bF3 σ H s) (C:vV scope N) (V:∀y,(y,NameKind.free)∈scope.names->X.env.kindOf y=some .cell\/X.env.kindOf y=some .free)
  (p1:∀p∈cl,X.env.cells.lookup p.1=some p.2/\(p.1,NameKind.free)∈scope.names) (p2:∀y,(y,NameKind.free)∈scope.names->∃c,(y,c)∈cl)
  (A:Cap X scope N σ σ') (L:∀b∈fp,tW X bF3 H b) (a0:∀b∈fp,b<s.heap.objs.size)
  (hn:h1.Ns s.heap.objs.size m1) (F:∀b o,s.heap.get? b=some o->h1.get? b=some o) :
  Inv (cxC X N scope cl s H fp) [] σ' H { s with heap:=h1,toks:=tk }:=by
 have a:=I.ok;have f:∀y c,cl.lookup y=some c->X.env.cells.lookup y=some c:=λy c e=>(p1 _ (PySem.mem_of_lookup e)).1;have w:∀y,(y,NameKind.free)∈scope.names->∃c,cl.lookup y=some c/\X.env.cells.lookup y=some c:=λy d=>by obtain⟨c,S⟩:=p2 y d;obtain⟨G,e⟩:=lookup_mem S;exact⟨G,e,f y G e⟩
 have t:∀b∈fp,b∉frs X.stack:=λb g z=>by
  obtain⟨M,B,E,_⟩:=L b g;rcases List.mem_cons.mp (I.aGt b z) with e|e
  ·exact B e
  ·exact E e
 have J:(cxC X N scope cl s H fp).Ok:=by
  refine⟨a.mod,C.kind,a.glob,a.blt,d9 _,λx y c h1 h2=>a.inj x y c (f x c h1) (f y c h2),λy d=>?_,λy c h _=>?_,a.hd,a.frames,.inl rfl,λb g=>?_,I.bs,bAI a.bsz I.sz,
   λb o e g=>?_,t,I.stack,I.yL⟩
  ·obtain⟨c,e,_⟩:=w y (xP C.cell d);exact⟨c,e⟩
  ·exact absurd (show false=true from h) v8
  ·obtain⟨M,B,E,O,K,T⟩:=L b g;exact⟨z9 (a0 b g),λx c e=>K x c (f x c e)⟩
  ·obtain⟨M,B,E,O,K,T⟩:=L b g;rcases O with z|z
   ·exact a.noex b o e z
   ·exact absurd (bAB (t8 e) (bAI a.bsz z)) (bBN _)
 refine⟨J,rfl,I.bare,Un.kept F,⟨m1,hn,λi y v Q e2 e3=>?_⟩,λy c e=>?_,I.hok.fresh (d9 _),λy c e=>I.freeC y c (f y c e),λp hp=>absurd (show p∈([]:bF1) from hp) (by simp),I.hok.kept F,A.1⟩
 ·obtain⟨d,j,Y,R,U⟩:=A.2 i y v Q e2;obtain⟨m,_,W⟩:=I.loc;obtain⟨u,r,l⟩:=W j y v Y R U;refine⟨u,r,.inr ?_⟩;rcases l with⟨k,_⟩|⟨k,c,e,z⟩
  ·rcases V y d with q|q <;> (rw[k] at q;cases q)
  ·obtain⟨G,Z,n⟩:=w y d;rw[e] at n;cases n;have P:=xK (env:=X.env) (k:=.free) (C.free (y,.free) d rfl);refine⟨P,c,Z,?_⟩;obtain⟨o,D,hd⟩:=z;exact⟨o,F _ _ D,hd⟩
 ·obtain⟨v,o,D,hd⟩:=I.cell y c (f y c e);exact⟨v,o,F _ _ D,hd⟩
def jB (X:Cx)(scope:Scope)(N:List Str)(wi:TI)(g:TG)(tt:TT)(te:TE):TE:=fun σ H Q=>∃σ0,Cap X scope N σ σ0/\wi σ H λJ H1=>∀D,H1 D=none->∃W:Nat->Nat->St->Hp->List V->Prop,(∃m,W 0 m σ0 (upd H1 D (.lst [])) []) /\
 ∀i m σ' H' ys,W i m σ' H' ys->H' D=some (.lst ys)/\((J.stop i H'/\Q (.ref D) H')\/(J.go i H'/\∀x H2,J.yld i H' x H2->g x σ' H2 fun σ3 H3=>tt σ3 H3 λb H4=>
  if b=true then te σ3 H4 λy H5=>H5 D=some (.lst ys)/\ys.length<sizeLine/\∃m',m'<m/\W (i+1) m' σ3 (upd H5 D (.lst (ys++[y]))) (ys++[y]) else H4 D=some (.lst ys)/\∃m',m'<m/\W (i+1) m' σ3 H4 ys))
def aFp {X:Cx}{av aa ar:Expr}{ax:List Expr}{scope:Scope}{as p9:Pos}{N:List Str}{wi:TI}{g:TG}{tt:TT}{te:TE}{use:Option (Value->Sem Unit)}{QQ:bF0}{a4:bF1}{s:Shared}{σ:St}{H:Hp}{Qv:VK}
  (C:vV scope N) (af:∀y,(y,NameKind.free)∈scope.names->X.env.kindOf y=some .cell\/X.env.kindOf y=some .free) (hc:X.calm=true)
  (hi:PI X aa ar wi)
  (a:∀cl s H fp,PG (cxC X N scope cl s H fp) aa g/\aSw (cxC X N scope cl s H fp) ax tt/\PE (cxC X N scope cl s H fp) av te)
  (hs:∀x,foldedSetIterable ar X.env x=pure x) (I:Inv X a4 σ H s) (hq:jB X scope N wi g tt te σ H Qv)
  (a5:∀(D fr:Addr) (H5:Hp) (s6:Shared),(∃m6,s6.heap.Ns fr m6)->(∀h',(∀b o,b≠fr->s6.heap.get? b=some o->h'.get? b=some o)->Inv X a4 σ H5 { s6 with heap:=h' })->tW X a4 H5 fr->Qv (.ref D) H5->compPost (model X.prog X.w) X.A X.xe use QQ (.ref D) fr (.ok .next) s6) :
  wpAny (model X.prog X.w) X.A (comprehension (.ListComp av [⟨aa,ar,ax,0⟩] scope as) scope X.env p9 (newList []) false (eval ar X.env) use) QQ X.xe s:=by
 obtain⟨σ0,an,hq⟩:=hq;obtain⟨cl,al,p1,p2⟩:=aNn (scope:=scope) (env:=X.env) (λy hy hk=>by obtain⟨n,k⟩:=y;cases hk;exact I.ok.has n (af n hy))
 refine wpAny_comprehension_free (use:=use) rfl hs al C.kind C.names (thn (hi a4 s σ H _ I hq) λxv s1 h1=>thn h1 λau f h2=>?_);obtain⟨it,fp,tn,J,G,rfl,I2,T,a8,f2,q2⟩:=h2;refine bAL (wpAny_newFunctionEnv C.cell (by intro y hy;simp at hy) (λh₁ E B=>?_) C.kind);dsimp only at E B ⊢;have hD:G f.heap.objs.size=none:=I2.hok.fresh (d9 _);have I3:Inv X a4 σ (upd G f.heap.objs.size (.lst [])) { f with heap:=f.heap.push { cls:=.type "list",dict:=none,data:=.seq ([]:List Value).toArray } }:=
  I2.laid (t':=f.toks) (λb u e=>d7 _ e) (d9 _) ⟨bAE _,[],0,.nil,j8 _ rfl⟩
 generalize a9:({ f with heap:=f.heap.push { cls:=.type "list",dict:=none,data:=.seq ([]:List Value).toArray } }:Shared)=s3 at I3;have R:f.heap.push { cls:=.type "list",dict:=none,data:=.seq ([]:List Value).toArray }=s3.heap:=by rw[<-a9]
 rw[R] at E B;have Z:∀b∈fp,b<f.heap.objs.size:=λb a=>by obtain⟨o,e,_⟩:=T.obj _ _ a8 b a;exact t8 e
 have ah:∀b∈fp,b<s3.heap.objs.size:=λb a=>by rw[<-R,bBS];exact bBR (Z b a)
 have f3:∀b∈fp,tW X a4 (upd G f.heap.objs.size (.lst [])) b:=λb a=>by obtain⟨f0,fr⟩:=f2 b a;exact⟨by rw[aQ (z9 (Z b a))];exact f0,fr⟩
 have F:∀b o,s3.heap.get? b=some o->h₁.get? b=some o:=λb o e=>B.extBut b o (z9 (t8 e)) (d7 _ e);have I4:=aUr (tk:=s3.toks) I3 C af p1 p2 an f3 ah E F;have a3:tn 0 h₁:=T.keep _ _ _ a8 λb a o e=>F b o (by rw[<-R];exact d7 _ e);obtain⟨W,⟨m0,w0⟩,a7⟩:=q2 f.heap.objs.size hD;have S:∀{P:Hp},(∀b∈fp,P b=none)->∀b∈fp,tW (cxC X N scope cl s3 (upd G f.heap.objs.size (.lst [])) fp) [] P b:=λ{P} hn b a=>by obtain⟨Y,e2⟩:=I4.ok.exf b a;exact⟨hn b a,Y,I4.ok.exfs b a,.inl a,e2,λp hp=>absurd (show p∈([]:bF1) from hp) (by simp)⟩
 have L:∀s4:Shared,s4={ s3 with heap:=h₁,toks:=s3.toks } ->
   codeAny (model X.prog X.w) X.A (.compLoop (.ListComp av [⟨aa,ar,ax,0⟩] scope as) 0 (.ref it) (.ref f.heap.objs.size) (compEnvC scope cl s3.heap.objs.size X.env))
    (compPost (model X.prog X.w) X.A X.xe use QQ (.ref f.heap.objs.size) s3.heap.objs.size) s4:=by
  rintro s4 rfl;refine aSd (λn s'=>∃i σ' P ys,Inv (cxC X N scope cl s3 (upd G f.heap.objs.size (.lst [])) fp) [] σ' P s'/\tn i s'.heap/\(∀b∈fp,P b=none)/\W i n σ' P ys) ?_ m0 ⟨0,σ0,_,[],I4,a3,λb a=>(f3 b a).1,w0⟩;rintro n s5 ⟨i,σ5,H5,ys,I5,st5,fr5,w5⟩;obtain⟨aq,w5⟩:=a7 i n σ5 H5 ys w5;have l:∀{α:Type} {t:Sem α} {Q':α->Shared->Prop} {E':bF0} {s':Shared},wpAny (model X.prog X.w) X.A t Q' (λ_ _=>False) s'->wpAny (model X.prog X.w) X.A t Q' E' s':=λh=>bBQ h (λ_ _ q=>q) λ_ _ z=>z.elim;rcases w5 with⟨a6,qn⟩|⟨go,step⟩
  ·refine l (thn (T.done (cxC X N scope cl s3 (upd G f.heap.objs.size (.lst [])) fp) rfl rfl rfl hc i [] s5 σ5 H5 _ I5 (S fr5) st5 a6) λr s6 ⟨hr,V⟩=>?_);subst hr;obtain⟨m6,ac,_⟩:=V.loc;refine a5 _ _ H5 s6 ⟨m6,ac⟩ (λh' kp=>?_) (I3.aHp (d9 _) V.free) qn;have U:∀b o,s3.heap.get? b=some o->b≠s3.heap.objs.size:=λb o e=>z9 (t8 e);have un:Un (frs X.stack) fp (upd G f.heap.objs.size (.lst [])) H5 s3.heap h':=by
    have u:=V.base;exact⟨λb o e n a hx=>kp b o (U b o e) (u.keep b o e n a hx),λb o e n a hx=>by
     obtain⟨sl,Y⟩:=u.slot b o e n a hx;exact⟨sl,kp b _ (U b o e) Y⟩,u.free,λb o e hx=>by
     obtain⟨o',Y⟩:=u.there b o e hx;exact⟨o',kp b _ (U b o e) Y⟩,u.tups,u.frzs,u.tbls⟩
   have am:HOk X.prog X.w H5 h':=λb u e=>by
    refine (V.hok b u e).stay (λc v ap q=>kp c v ?_ q) (λ_ q=>q) λ_ _ q=>q;have j:H5 s3.heap.objs.size=none:=V.free;rintro rfl;rcases ap with z|z
    ·rw[z] at j;rw[j] at e;cases e
    ·rw[j] at z;cases z
   refine I3.call' (s':={ s6 with heap:=h' }) V.os un am V.bare λb a=>?_;obtain⟨f0,f1,aw,ak,f4,f5⟩:=f3 b a;exact⟨ak,f1,f4,f5⟩
  ·refine l (thn (T.item (cxC X N scope cl s3 (upd G f.heap.objs.size (.lst [])) fp) rfl rfl rfl hc i [] s5 σ5 H5 (λ_ _=>False) I5 (S fr5) st5 go) λr s6 ⟨u,hr,h6⟩=>?_);subst hr;refine l (thn h6 λ_ s7 ⟨x,H7,I7,r7,y7,O,ao⟩=>?_);obtain⟨hg,ht,he⟩:=a cl s3 (upd G f.heap.objs.size (.lst [])) fp;have ai:=I7.pinned (S ao) (T.obj _ _ O);have m:∀{M:St} {H8:Hp} {s8:Shared},Inv (cxC X N scope cl s3 (upd G f.heap.objs.size (.lst [])) fp) ([]++aDo fp s7.heap) M H8 s8->tn (i+1) s8.heap/\∀b∈fp,H8 b=none:=λ{M H8 s8} I8=>
    ⟨T.keep _ _ _ O λb a o e=>(I8.pin (b,o) (bAA _ (bAA _ (pN a e)))).1,λb a=>by obtain⟨o,e,d⟩:=T.obj _ _ O b a;exact (I8.pin (b,o) (bAA _ (bAA _ (pN a e)))).2.1⟩
   refine l (thn (hg _ s7 σ5 H7 x u _ ai r7 (step x H7 y7)) λ_ s8 ⟨M,H8,I8,q8⟩=>?_);refine l (thn (ht _ s8 M H8 _ I8 q8) λb s9 ⟨H9,I9,q9⟩=>?_);cases b with
   |false=>rw[if_neg v8] at q9 ⊢;obtain⟨_,m',hm,w9⟩:=q9;exact⟨m',hm,i+1,M,H9,ys,I9.qO,(m I9).1,(m I9).2,w9⟩
   |true=>rw[if_pos rfl] at q9 ⊢;refine l (thn (he _ s9 M H9 _ I9 q9) λyv ab ⟨y,a1,ae,ag,K,a2,m',hm,ad⟩=>?_);refine l (thn (aFu _ ab M a1 (.ref f.heap.objs.size) [y] (.ref f.heap.objs.size) [yv] (λ_ a0=>a0=upd a1 f.heap.objs.size (.lst (ys++[y]))) ae rfl (.cons ag .nil) ⟨_,_,_,rfl,rfl,K,a2,rfl⟩) λ_ ay ⟨z,a0,Q,_,aj⟩=>?_);subst aj;exact⟨m',hm,i+1,M,_,ys++[y],Q.qO,(m Q).1,(m Q).2,ad⟩
 have a5:=codeAny_compStart_list (L { s3 with heap:=h₁,toks:=s3.toks } rfl) (T.self _ _ _ _ _ a3 (L { s3 with heap:=h₁,toks:=s3.toks } rfl));subst a9;exact a5
def aXg
  (C:vV scope N) (h:∀y,(y,NameKind.free)∈scope.names->X.env.kindOf y=some .cell\/X.env.kindOf y=some .free) (r:X.calm=true)
  (hi:PI X target iter wi)
  (d:∀cl s H fp,PG (cxC X N scope cl s H fp) target g/\aSw (cxC X N scope cl s H fp) ifs tt/\PE (cxC X N scope cl s H fp) elt te)
  (p:∀x,foldedSetIterable iter X.env x=pure x:=by intro _;rfl) :
  PE X (.ListComp elt [⟨target,iter,ifs,0⟩] scope pos) (jB X scope N wi g tt te):=by
 intro m s σ H Q I f;rw[eval_ListComp];exact aFp C h r hi d p I f λD q i t ⟨l,c⟩ a _ k=>⟨l,c,λn j=>⟨.ref D,i,a n λb o d e=>j.extBut b o d e,rfl,k⟩⟩
end L2
namespace PySem
open Sem (wp)
namespace IfF
def aUe:typeLookup (.type "function") "__class__"=pure (some (.builtin "object.__class__")):=by rw[typeLookup_type,builtinLookup_eq_fast];kernel_rfl
def aBv:Slot "function" "__getattribute__" "object.__getattribute__":=
 .of (owner:="object") (n:="__getattribute__") (by rw[typeLookup_type,builtinLookup_eq_fast];kernel_rfl) (by trivial) (by trivial) (by trivial)
  (by first|exact .inl (by trivial)|exact .inr (by trivial)) (by rw[isSubtype_type];kernel_rfl)
def aUd:entryFor table "object.__getattribute__"=some Builtin.«object.__getattribute__»:=entryFor_of_tree (by kernel_rfl)
def aBn:isSubtype (.type "function") (.type (".".intercalate ("object.__class__".cutAt '.').dropLast))=pure true:=by rw[F.owner_object_class,isSubtype_type];kernel_rfl
def sub_int:isSubtype (.type "function") (.type "int")=pure false:=by rw[isSubtype_type];kernel_rfl
def sub_bool:isSubtype (.type "function") (.type "bool")=pure false:=by rw[isSubtype_type];kernel_rfl
def aXj:isSubtype (.type "function") (.type "str")=pure false:=by rw[isSubtype_type];kernel_rfl
end IfF
section
variable {prog:Program}{w:World}{A:Around}{E:bF0}{h:Heap}{g:Array GenState}{d:Drawn}{t:Nat}{os:OsState}{a:Addr}{o:Obj}
def aH3 (e:h.get? a=some o)(f:o.cls=.type "function")(hq:R (.ok (.ret (.type "function"))) ⟨h,g,d,t,os⟩) :
  codeAny (model prog w) A (.call (.builtin "getset_descriptor.__get__") ⟨[.builtin "object.__class__",.ref a,.type "function"],[]⟩) R ⟨h,g,d,t,os⟩:=by
 have c:(⟨h,g,d,t,os⟩:Shared).TypeIs (.ref a) "function":=⟨_,e,f⟩;have b:=F.typeOf_object_class;have i:=IfF.aBn;refine bFG F.slot_gs_get.plain F.entry_gs_get (F.slot_gs_get.check _ _ _ _ _ _ _ _ b (F.args_gs_get _ _ _) ?_)
 repeat (any_goals (first|assumption|wp_step))
 refine⟨Code.quiet_builtin _ (by trivial),bBU F.entry_object_class ?_⟩
 repeat (any_goals (first|assumption|wp_step))
def aDf (b:h.get? a=some o)(e:o.cls=.type "function")(hq:Q (.done (.ret (.type "function"))) ⟨h,g,d,t,os⟩) :
  wpAny (model prog w) A (Builtin.«object.__getattribute__» ⟨[.ref a,.str "__class__" tk],[]⟩) Q E ⟨h,g,d,t,os⟩:=by
 have f:(⟨h,g,d,t,os⟩:Shared).TypeIs (.ref a) "function":=⟨_,b,e⟩;have c:=F.typeOf_object_class;have k:=IfF.aUe;have l:=F.typeOf_object_class;have j:=F.slot_gs_get.lookup;have i:=F.slot_gs_set.lookup
 repeat (any_goals (first|assumption|wp_step))
 refine aH3 b e ?_
 repeat (any_goals (first|assumption|wp_step))
def aKi (c:h.get? a=some o)(e:o.cls=.type "function")(hq:Q (.type "function") ⟨h,g,d,t,os⟩):wpAny (model prog w) A (getAttrBy (.ref a) (.str "__class__" tk) false) Q E ⟨h,g,d,t,os⟩:=by
 have b:(⟨h,g,d,t,os⟩:Shared).TypeIs (.ref a) "function":=⟨_,c,e⟩;have i:=IfF.aBv.lookup;have f:=IfF.aBv.bind (.ref a)
 repeat (any_goals (first|assumption|wp_step))
 refine bFG IfF.aBv.plain IfF.aUd (IfF.aBv.check _ _ _ _ _ _ _ _ b (F.args_object_getattribute_2 _ _) (aDf c e ?_))
 repeat (any_goals (first|assumption|wp_step))
def aEe (c:h.get? a=some o)(b:o.cls=.type "function")(hq:Q (some (.type "function")) ⟨h,g,d,t+1,os⟩):wpAny (model prog w) A (getAttr? (.ref a) "__class__") Q E ⟨h,g,d,t,os⟩:=by
 unfold getAttr? getAttrBy?
 repeat (any_goals (first|assumption|with_reducible apply aKi c b|wp_step))
def aD8 (b:h.get? a=some o)(c:o.cls=.type "function")(hne:(Value.type "function" == Value.type T)=false)(hty:typeOf (.type T)=pure (.type "type"))
  (hsub:isSubtype (.type "function") (.type T)=pure false) (hq:Q (.done (.ret (.bool false))) ⟨h,g,d,t+1,os⟩) :
  wpAny (model prog w) A (Builtin.«isinstance.nested» ⟨[.ref a,.type T,.int dep tk],[]⟩) Q E ⟨h,g,d,t,os⟩:=by
 have e:(⟨h,g,d,t,os⟩:Shared).TypeIs (.ref a) "function":=⟨_,b,c⟩
 repeat (any_goals (first|assumption|with_reducible apply aEe b c|wp_step))
end
def pK (j:(Value.type "function" == Value.type T)=false)(i:typeOf (.type T)=pure (.type "type"))(b:isSubtype (.type "function") (.type T)=pure false) :
  Meets (Builtin.«isinstance» ⟨[.ref a,.type T],[]⟩) (λ_ R s=>(∃o,s.heap.get? a=some o/\o.cls=.type "function")/\R (.ok (.ret (.bool false))) { s with toks:=s.toks+1 }):=
 λ_ _ _ _ s e=>by obtain⟨h,g,d,t,l⟩:=s;obtain⟨⟨o,f,k⟩,c⟩:=e;exact isinstance_outer (aD8 f k j i b c)
def aNx (c:s.heap.get? a=some o)(b:o.cls=.type "function")(h:Q (.bool false) { s with toks:=s.toks+1 }):wpAny (model prog w) A (call (.builtin "isinstance") [.ref a,.type "int"]) Q E s:=
 call_isinstance (pK (by decide) F.isi_meta_int IfF.sub_int) ⟨⟨o,c,b⟩,h⟩
def aLr (c:s.heap.get? a=some o)(b:o.cls=.type "function")(h:Q (.bool false) { s with toks:=s.toks+1 }):wpAny (model prog w) A (call (.builtin "isinstance") [.ref a,.type "bool"]) Q E s:=
 call_isinstance (pK (by decide) F.isi_meta_bool IfF.sub_bool) ⟨⟨o,c,b⟩,h⟩
def aNw (c:s.heap.get? a=some o)(b:o.cls=.type "function")(h:Q (.bool false) { s with toks:=s.toks+1 }):wpAny (model prog w) A (call (.builtin "isinstance") [.ref a,.type "str"]) Q E s:=
 call_isinstance (pK (by decide) F.isi_meta_str IfF.aXj) ⟨⟨o,c,b⟩,h⟩
end PySem
namespace L2
open PySem PySem.Spec PyProof.Rows
def PE.imp (h:PE X e t)(k:∀σ H Q,t' σ H Q->t σ H Q):PE X e t':=λa s σ H Q I q=>h a s σ H Q I (k σ H Q q)
def bFf (K:bFZ):List V->Hp->VK->Prop:=λxs H Q=>∃(p:Addr) (bs:List Bool),xs=[.ref p]/\SqL K H p (bs.map V.bl)/\Q (.bl (bs.all id)) H
def all_range (bs:List Bool):(List.range bs.length).all (λi=>bs.getD i false)=bs.all id:=by
 rw[bCI,bBZ,bBZ];constructor
 ·intro h b c;obtain⟨i,a,e⟩:=List.mem_iff_getElem.mp c;have:=h i (List.mem_range.mpr a);rw[j0,b8 a] at this;rw[<-e];exact this
 ·intro h i a;have a:=List.mem_range.mp a;rw[j0,b8 a];exact h _ (bAO a)
def jQ (M:X.calm=true):cF X (.builtin "all") (bFf X.K):=by
 intro C s σ H O R Q I r h;obtain⟨p,c,rfl,E,q⟩:=h;obtain⟨u,rfl,F⟩:=r.one;cases F;obtain⟨d,m,l,N⟩:=I.list E;have k:=m.length;rw[j4] at k;have j:p≠s.heap.objs.size:=by obtain⟨o,B,_⟩:=l.isList;exact z9 (t8 B)
 refine call_all_walk (bCP l.isList ?_);refine⟨s.heap.objs.size,_,_,_,_,_,λi=>c.getD i false,rfl,Walks.list (show X.A.in1.handled=none from I.ok.hd M) _ p j d.toArray,⟨⟨_,j8 _ rfl,rfl,rfl⟩,?_⟩,?_,λP L G=>?_⟩
 ·exact l.isList.at λo e=>d7 _ e
 ·intro i v x w J y a;have f:d[i]?=some v:=by simpa using y
  have t:i<c.length:=by rw[k];exact (List.getElem?_eq_some_iff.mp f).1
  obtain⟨u,n,D⟩:=m.get (by rw[v5,b8 t];rfl);rw[f] at n;cases n;cases D;have e:c.getD i false=c[i]:=by rw[j0,b8 t];rfl
  replace a:w (c.getD i false) x:=a;rw[e] at a;exact bBG a
 ·have e:(List.range d.toArray.size).all (λi=>c.getD i false)=c.all id:=by rw[j6,<-k];exact all_range c
  rw[e];refine⟨.bl (c.all id),H,?_,rfl,q⟩;exact I.kept λb o g=>G b o (by
   intro z;have:b=s.heap.objs.size:=by simpa using z
   rw[this] at g;exact absurd (t8 g) (bBN _)) (d7 _ g)
inductive Rk (K:bFZ)(H:Hp):V->String->Prop
 |non:Rk K H .non "NoneType"
 |lst {a xs}:SqL K H a xs->Rk K H (.ref a) "list"
 |tup {a xs}:SqT K H a xs->Rk K H (.ref a) "tuple"
 |dct {a kvs}:H a=some (.dK kvs)->Rk K H (.ref a) "dict"
 |fn {a o}:K.lookup a=some o->o.cls=.type "function"->Rk K H (.ref a) "function"
def aZv (K:bFZ):List V->Hp->VK->Prop:=λxs H Q=>∃x k T,xs=[x,.ty T]/\Rk K H x k/\(T = "int"\/T = "bool"\/T = "str")/\Q (.bl false) H
def tR:cF X (.builtin "isinstance") (aZv X.K):=by
 intro g s σ H t w Q I r h;obtain⟨x,k,T,rfl,l,d,q⟩:=h;obtain⟨u,v,rfl,b,p⟩:=r.two;cases p;have a:EP X g σ Q (.bool false) { s with toks:=s.toks+1 }:=⟨.bl _,H,I.tok _,rfl,q⟩;cases l with
 |non=>
  cases b;rcases d with rfl|rfl|rfl
  ·exact IsiPair.NoneType_int a
  ·exact IsiPair.NoneType_bool a
  ·exact IsiPair.NoneType_str a
 |lst hq=>
  cases b;obtain⟨i,j,⟨o,n,e,c,_⟩,m⟩:=I.list hq;rcases d with rfl|rfl|rfl
  ·exact IsiPair.list_int e c a
  ·exact IsiPair.list_bool e c a
  ·exact IsiPair.list_str e c a
 |tup hq=>
  cases b;obtain⟨i,j,⟨o,e,c,_⟩,m⟩:=I.tuple hq;rcases d with rfl|rfl|rfl
  ·exact IsiPair.tuple_int e c a
  ·exact IsiPair.tuple_bool e c a
  ·exact IsiPair.tuple_str e c a
 |dct hq=>
  cases b;obtain⟨_,_,_,_,o,_,_,e,f,_⟩:=I.hok _ _ hq;rcases d with rfl|rfl|rfl
  ·exact IsiPair.dict_int e f.1 a
  ·exact IsiPair.dict_bool e f.1 a
  ·exact IsiPair.dict_str e f.1 a
 |fn hk hc=>
  cases b;have e:=I.kIn _ _ hk;rcases d with rfl|rfl|rfl
  ·exact aNx e hc a
  ·exact aLr e hc a
  ·exact aNw e hc a
def iM {X:Cx}{scope:Scope}(h:∀z∈scope.names,z.2≠.free:=by trivial):∀y,(y,NameKind.free)∈scope.names->X.env.kindOf y=some .cell\/X.env.kindOf y=some .free:=λy a=>absurd rfl (h _ a)
def eU {X:Cx}{scope:Scope}(sc:Scope)(e:X.env.scope=sc:=by rfl)(h:∀z∈scope.names,z.2=.free->sc.names.lookup z.1=some .cell\/sc.names.lookup z.1=some .free:=by trivial) :
  ∀y,(y,NameKind.free)∈scope.names->X.env.kindOf y=some .cell\/X.env.kindOf y=some .free:=λy a=>by
 show X.env.scope.names.lookup y=some .cell\/X.env.scope.names.lookup y=some .free;rw[e];exact h _ a rfl
def Same.aP {K:bFZ}{H H':Hp}{a:Addr}{xs:List V}(e:Same H H')(h:SqT K H a xs):SqT K H' a xs:=by
 rcases h with (h|⟨o,h⟩)|h
 ·exact .inl (.inl (e _ _ h))
 ·exact .inl (.inr ⟨o,e _ _ h⟩)
 ·exact .inr h
def aZ (h:H p=none)(o:HO):Same H (upd H p o):=λb u q=>by rw[aQ (aL q h)];exact q
def Rk.same {K:bFZ}{H H':Hp}{v:V}{k:String}(e:Same H H')(h:Rk K H v k):Rk K H' v k:=by
 cases h with
 |non=>exact .non
 |lst q=>exact .lst (e.seq q)
 |tup q=>exact .tup (e.aP q)
 |dct q=>exact .dct (e _ _ q)
 |fn q c=>exact .fn q c
def oU:Cap X scope [x] σ [none]:=⟨rfl,λi y v _ a=>by
 cases i with
 |zero=>cases a
 |succ i=>cases a⟩
def aRy (xs:List V)(f:V->V)(p:St)(k:Cap X scope N σ p)(hsz:xs.length<=sizeLine)
  (v:∀R:It->Hp->Prop,(∀J:It,(∀H' i x,Same H H'->xs[i]?=some x->J.go i H'/\∀y H2,J.yld i H' y H2->H2=H'/\y=x)->(∀H',Same H H'->J.stop xs.length H')->R J H)->wi σ H R)
  (u:∀x∈xs,∀H' R l,Same H H'->R (f x) H'->te ((p.set 0 l).set 0 (some x)) H' R) (w:p[0]?=some none)
  (q:∀D,H D=none->Q (.ref D) (upd H D (.lst (xs.map f)))) :
  jB X scope N wi (bR 0) mG te σ H Q:=by
 refine⟨p,k,v _ λJ go stop D g=>?_⟩;have d:∀c:List V,Same H (upd H D (.lst c)):=λc b o e=>by rw[aQ (aL e g)];exact e
 refine⟨λi m h H' c=>i<=xs.length/\m=xs.length - i/\(∃l,h=p.set 0 l)/\H'=upd H D (.lst c)/\c=(xs.take i).map f,⟨xs.length,bAE _,rfl,⟨none,?_⟩,rfl,rfl⟩,?_⟩
 ·refine (bCE λj=>?_);rw[List.getElem?_set]
  split
  ·rename_i s;subst s
   split
   ·exact w
   ·rename_i a;exact List.getElem?_eq_none_iff.mpr (by lia)
  ·rfl
 ·rintro i m h H' c ⟨hi,rfl,⟨l,rfl⟩,rfl,rfl⟩;refine⟨aG,?_⟩;by_cases a:i<xs.length
  ·right;obtain⟨t,n⟩:=go (upd H D (.lst ((xs.take i).map f))) i xs[i] (d _) (b8 a);refine⟨t,λx H2 r=>?_⟩;obtain⟨rfl,rfl⟩:=n x H2 r;unfold bR mG;dsimp only;rw[if_pos rfl];refine u xs[i] (bAO a) _ _ l (d _) ⟨aG,?_,xs.length - (i+1),by lia,a,rfl,⟨some xs[i],?_⟩,?_,?_⟩
   ·rw[j4,bAC];lia
   ·rw[bCF]
   ·rw[aXv]
   ·rw[bBH,b8 a,bAN];rfl
  ·left;have e:i=xs.length:=by lia
   subst e;refine⟨stop _ (d _),?_⟩;rw[bCA];exact q D g
def bB6 (h:∀R:VK,R (.str z) H->tl σ H R)(R:It->Hp->Prop)
  (q:∀J:It,(∀H' i x,Same H H'->((List.range z.cps.size).map λi=>V.str (sgn z i))[i]?=some x->J.go i H'/\∀y H2,J.yld i H' y H2->H2=H'/\y=x) ->
   (∀H',Same H H'->J.stop ((List.range z.cps.size).map λi=>V.str (sgn z i)).length H')->R J H):bDg tl σ H R:=by
 refine h _ ⟨z,rfl,q _ (λH' i x _ e=>?_) λH' _=>?_⟩
 ·rw[v5] at e;have b:i<z.cps.size:=by
   cases a:(List.range z.cps.size)[i]? with
   |none=>rw[a] at e;cases e
   |some j=>have:=(List.getElem?_eq_some_iff.mp a).1;rwa [bAK] at this
  rw[bCR b] at e;cases e;exact⟨b,λy H2 c=>c⟩
 ·rw[j4,bAK];exact d9 _
def aHg {K:bFZ}{a:Addr}{xs:List V}{tl:TE}{σ:St}{H:Hp}(b:∀H',Same H H'->SqL K H' a xs)(h:∀R:VK,R (.ref a) H->tl σ H R)(R:It->Hp->Prop)
  (q:∀J:It,(∀H' i x,Same H H'->xs[i]?=some x->J.go i H'/\∀y H2,J.yld i H' y H2->H2=H'/\y=x)->(∀H',Same H H'->J.stop xs.length H')->R J H):aLj K tl σ H R:=by
 refine h _ ⟨a,rfl,⟨xs,b H (Same.refl H)⟩,q _ (λH' i x s e=>⟨⟨xs,x,b H' s,e⟩,λy H2 g=>?_⟩) λH' s=>⟨xs,b H' s,d9 _⟩⟩;obtain⟨d,f⟩:=g;have c:=f xs (b H' s);rw[e] at c;cases c;exact⟨d,rfl⟩
end L2
namespace PySem
abbrev aW6 (t:Addr)(i:Nat):Obj:={ cls:=.type "tuple_iterator",data:=.fields #[.ref t,.int (i:Int) 0] }
abbrev aYm (t:Addr)(i:Nat):Obj:={ cls:=.type "list_iterator",data:=.fields #[.ref t,.int (i:Int) 0] }
abbrev yI (f0:Value)(TI TO:Addr):Obj:={ cls:=.type "zip",dict:=none,data:=.fields #[f0,.bool false,.bool false,.ref TI,.ref TO],slots:=#[] }
abbrev mH (a b:Value):Obj:={ cls:=.type "tuple",data:=.seq #[a,b] }
def aNj (ho:s.heap.get? it=some (aW6 t i))(e:s.heap.IsTuple t its)(g:its[i]?=some x)
  (q:∀h',h'.get? it=some (aW6 t (i+1))->Heap.SameBut it s.heap h'->Q x { s with heap:=h' }):wpAny (model prog w) A (Builtin.SmallTypes.nextOf (.ref it)) Q E s:=by
 have c:s.TypeIs (.ref it) "tuple_iterator":=⟨_,ho,rfl⟩;obtain⟨d,a,_,f,b⟩:=e;unfold Builtin.SmallTypes.nextOf;refine b7 (bAJ c F.slot_tuple_iterator_next (bAH F.slot_tuple_iterator_next c F.entry_tuple_iterator_next ?_ (F.args_tuple_iterator_next_1 _)));refine b7 (m:=field (.ref it) 0) (bAV ho rfl (x:=.ref t) rfl ?_);refine (if_neg (show ¬ ((Value.ref t == Value.none)=true) from v8)).symm ▸ ?_;refine b7 (bAV ho rfl rfl ?_);refine b7 (bBI a b ?_);simp only[bAS,g];refine b7 (bDD ho rfl (by simp) (d8 ⟨x,rfl,d8 (q _ ?_ (bAY ..))⟩));exact bBJ _ ho rfl
def aDu (d:A.handled=none)(ho:s.heap.get? it=some (aW6 t i))(g:s.heap.IsTuple t its)(j:its[i]?=none)
  (q:∀h' e,Heap.ExtBut it s.heap h'->(∃o,h'.get? e=some o/\o.cls=.type "StopIteration")->E (.ref e) { s with heap:=h' }):wpAny (model prog w) A (Builtin.SmallTypes.nextOf (.ref it)) Q E s:=by
 have c:s.TypeIs (.ref it) "tuple_iterator":=⟨_,ho,rfl⟩;obtain⟨f,a,_,h,b⟩:=g;unfold Builtin.SmallTypes.nextOf;refine b7 (bAJ c F.slot_tuple_iterator_next (bAH F.slot_tuple_iterator_next c F.entry_tuple_iterator_next ?_ (F.args_tuple_iterator_next_1 _)));refine b7 (m:=field (.ref it) 0) (bAV ho rfl (x:=.ref t) rfl ?_);refine (if_neg (show ¬ ((Value.ref t == Value.none)=true) from v8)).symm ▸ ?_;refine b7 (bAV ho rfl rfl ?_);refine b7 (bBI a b ?_);simp only[bAS,j];refine b7 (bDU (b7 (bDD ho rfl (by simp) ?_)));unfold Builtin.SmallTypes.stopIteration;refine b7 ?_;simp only[newExc,newTuple];refine b7 (bAL ?_ (by size_fits));refine b7 (bEJ (by first|rfl|(simp only[firstArgMember];rfl)) ?_);refine bAL ?_ (by size_fits);simp only[raiseNew];refine b7 (bFB ?_);first|rw[show A.in1.handled=none from d]|rw[d]
 refine b7 (d8 (bFS ?_));exact q _ _ (((bAY ..).extBut.push _).push _) ⟨_,j8 _ rfl,rfl⟩
def aNf (ho:s.heap.get? it=some (aYm t i))(e:s.heap.IsList t its)(g:its[i]?=some x)
  (q:∀h',h'.get? it=some (aYm t (i+1))->Heap.SameBut it s.heap h'->Q x { s with heap:=h' }):wpAny (model prog w) A (Builtin.SmallTypes.nextOf (.ref it)) Q E s:=by
 have c:s.TypeIs (.ref it) "list_iterator":=⟨_,ho,rfl⟩;obtain⟨d,a,_,f,b⟩:=e;unfold Builtin.SmallTypes.nextOf;refine b7 (bAJ c slot_listiter_next (bAH slot_listiter_next c entry_listiter_next ?_ (args_listiter_next _)));refine b7 (m:=field (.ref it) 0) (bAV ho rfl (x:=.ref t) rfl ?_);refine (if_neg (show ¬ ((Value.ref t == Value.none)=true) from v8)).symm ▸ ?_;refine b7 (bAV ho rfl rfl ?_);refine b7 (bBI a b ?_);simp only[bAS,g];refine b7 (bDD ho rfl (by simp) (d8 ⟨x,rfl,d8 (q _ ?_ (bAY ..))⟩));exact bBJ _ ho rfl
def aDn (d:A.handled=none)(ho:s.heap.get? it=some (aYm t i))(g:s.heap.IsList t its)(j:its[i]?=none)
  (q:∀h' e,Heap.ExtBut it s.heap h'->(∃o,h'.get? e=some o/\o.cls=.type "StopIteration")->E (.ref e) { s with heap:=h' }):wpAny (model prog w) A (Builtin.SmallTypes.nextOf (.ref it)) Q E s:=by
 have c:s.TypeIs (.ref it) "list_iterator":=⟨_,ho,rfl⟩;obtain⟨f,a,_,h,b⟩:=g;unfold Builtin.SmallTypes.nextOf;refine b7 (bAJ c slot_listiter_next (bAH slot_listiter_next c entry_listiter_next ?_ (args_listiter_next _)));refine b7 (m:=field (.ref it) 0) (bAV ho rfl (x:=.ref t) rfl ?_);refine (if_neg (show ¬ ((Value.ref t == Value.none)=true) from v8)).symm ▸ ?_;refine b7 (bAV ho rfl rfl ?_);refine b7 (bBI a b ?_);simp only[bAS,j];refine b7 (bDU (b7 (bDD ho rfl (by simp) ?_)));unfold Builtin.SmallTypes.stopIteration;refine b7 ?_;simp only[newExc,newTuple];refine b7 (bAL ?_ (by size_fits));refine b7 (bEJ (by first|rfl|(simp only[firstArgMember];rfl)) ?_);refine bAL ?_ (by size_fits);simp only[raiseNew];refine b7 (bFB ?_);first|rw[show A.in1.handled=none from d]|rw[d]
 refine b7 (d8 (bFS ?_));exact q _ _ (((bAY ..).extBut.push _).push _) ⟨_,j8 _ rfl,rfl⟩
def itO:Bool->Addr->Nat->Obj
 |true=>aYm
 |false=>aW6
def Heap.vJ (h:Heap):Bool->Addr->Array Value->Prop
 |true=>h.IsList
 |false=>h.IsTuple
def Heap.vJ.extBut (p:h.vJ b t its)(e:Heap.ExtBut x h h')(n:t≠x):h'.vJ b t its:=by
 cases b
 ·exact Heap.IsTuple.extBut p e n
 ·exact Heap.IsList.extBut p e n
def zP (ho:s.heap.get? it=some (itO L t i))(b:s.heap.vJ L t its)(a:its[i]?=some x)
  (q:∀h',h'.get? it=some (itO L t (i+1))->Heap.SameBut it s.heap h'->Q x { s with heap:=h' }):wpAny (model prog w) A (Builtin.SmallTypes.nextOf (.ref it)) Q E s:=by
 cases L
 ·exact aNj ho b a q
 ·exact aNf ho b a q
def uH (b:A.handled=none)(ho:s.heap.get? it=some (itO L t i))(c:s.heap.vJ L t its)(a:its[i]?=none)
  (q:∀h' e,Heap.ExtBut it s.heap h'->(∃o,h'.get? e=some o/\o.cls=.type "StopIteration")->E (.ref e) { s with heap:=h' }):wpAny (model prog w) A (Builtin.SmallTypes.nextOf (.ref it)) Q E s:=by
 cases L
 ·exact aDu b ho c a q
 ·exact aDn b ho c a q
structure zT (z TI TO a b:Addr):Prop where
 h1:TI≠z
 h2:TO≠z
 h3:a≠z
 h4:b≠z
 h5:TI≠TO
 h6:TI≠a
 h7:TI≠b
 h8:TO≠a
 h9:TO≠b
 h10:a≠b
def aHn (c:s.heap.get? T=some (mH a b))
  (q:∀h',h'.get? T=some { cls:=.type "tuple",data:=.seq ((#[a,b]:Array Value).setIfInBounds k x) }->Heap.SameBut T s.heap h'->Q () { s with heap:=h' }) :
  wpAny (model prog w) A (updateSeq T (·.setIfInBounds k x)) Q E s:=by
 refine wpAny_updateSeq c rfl (q _ ?_ (bAY ..));rw[bBJ _ c rfl];simp[Obj.mapSeq]
def aSb {L:Bool}{z TI TO V W t u:Addr}{k:Nat}{xs ys:Array Value}{x y a b:Value}{Q:Option Value->Shared->Prop}(D:zT z TI TO V W)
  (v:s.heap.get? z=some (yI .none TI TO)) (a1:s.heap.get? TI=some (mH (.ref V) (.ref W))) (a0:s.heap.get? TO=some (mH a b))
  (g1:s.heap.get? V=some (itO L t k)) (g2:s.heap.get? W=some (itO L u k)) (ht:s.heap.vJ L t xs) (hu:s.heap.vJ L u ys) (hx:xs[k]?=some x) (hy:ys[k]?=some y)
  (t1:t≠z) (t2:t≠TO) (t3:t≠V) (t4:t≠W) (u1:u≠z) (u2:u≠TO) (u3:u≠V) (u4:u≠W)
  (q:∀h',h'.get? z=some (yI (rawInt s.heap.objs.size) TI TO)->h'.get? TO=some (mH x y)->h'.get? V=some (itO L t (k+1))->h'.get? W=some (itO L u (k+1))->h'.get? s.heap.objs.size=some (mH x y) ->
   (∀c o,c≠z->c≠TO->c≠V->c≠W->s.heap.get? c=some o->h'.get? c=some o)->Q (some (.ref s.heap.objs.size)) { s with heap:=h' }) :
  wpAny (model prog w) A (pyNext (.ref z)) Q E s:=by
 have hT:s.TypeIs (.ref z) "zip":=⟨_,v,rfl⟩;unfold pyNext;refine b7 (bCT (bAJ (name:=Str.ofString "__next__") hT F.slot_zip_next (bAH F.slot_zip_next hT F.entry_zip_next ?_ (F.args_zip_next_1 _))));refine b7 (m:=field (.ref z) 2) (bAV v rfl (x:=.bool false) rfl ?_);refine b7 (m:=field (.ref z) 3) (bAV v rfl (x:=.ref TI) rfl (b7 (bBI a1 rfl ?_)));refine b7 (m:=Builtin.SmallTypes.ownedTupleIsFree (.ref z)) ?_;unfold Builtin.SmallTypes.ownedTupleIsFree;refine b7 (bAV v rfl (x:=.none) rfl (d8 ?_));simp only[if_true];refine b7 (bDU (b7 (bAV v rfl (x:=.ref TO) rfl (b7 (bAR v (by simp) λh1 R i=>?_)))));replace R:h1.get? z=some (yI .ellipsis TI TO):=R;refine b7 ?_;simp only[List.zipIdx_cons,List.zipIdx_nil,bED,List.forIn_nil];refine b7 (b7 (bFC ?_));refine b7 (m:=Builtin.SmallTypes.nextOf (.ref V)) (zP (s:={ s with heap:=h1 }) (i.extBut _ _ D.h3 g1) (ht.extBut i.extBut t1) hx λh2 O l=>d8 ?_);have n:h2.get? TO=some (mH a b):=l.extBut _ _ D.h8 (i.extBut _ _ D.h2 a0);refine b7 (bBI n rfl (b7 (aHn (s:={ s with heap:=h2 }) n λX g j=>b7 (wpAny_letGo (d8 ?_)))));replace g:X.get? TO=some (mH x b):=g;refine b7 (b7 (bFC ?_));refine b7 (m:=Builtin.SmallTypes.nextOf (.ref W)) (zP (s:={ s with heap:=X }) (j.extBut _ _ D.h9.symm (l.extBut _ _ D.h10.symm (i.extBut _ _ D.h4 g2))) (((hu.extBut i.extBut u1).extBut l.extBut u3).extBut j.extBut u2) hy λh4 S C=>d8 ?_);have B:h4.get? TO=some (mH x b):=C.extBut _ _ D.h9 g;refine b7 (bBI B rfl (b7 (aHn (s:={ s with heap:=h4 }) B λd f p=>b7 (wpAny_letGo (d8 (d8 ?_))))));replace f:d.get? TO=some (mH x y):=f;refine b7 (bBI f rfl (b7 (bFN ?_)));have r:d.objs.size=s.heap.objs.size:=by rw[p.1,C.1,j.1,l.1,i.1]
 have z5:d.get? z=some (yI .ellipsis TI TO):=p.extBut _ _ D.h2.symm (C.extBut _ _ D.h4.symm (j.extBut _ _ D.h2.symm (l.extBut _ _ D.h3.symm R)));have kp:∀c o,c≠z->c≠TO->c≠V->c≠W->s.heap.get? c=some o->d.get? c=some o:=λc o h G P T e=>p.extBut _ _ G (C.extBut _ _ T (j.extBut _ _ G (l.extBut _ _ P (i.extBut _ _ h e))));have N:d.get? V=some (itO L t (k+1)):=p.extBut _ _ D.h8.symm (C.extBut _ _ D.h10 (j.extBut _ _ D.h8.symm O));have K:d.get? W=some (itO L u (k+1)):=p.extBut _ _ D.h9.symm S;refine b7 (m:=Builtin.SmallTypes.ownedTupleHandOut (.ref z) (.ref d.objs.size)) ?_;unfold Builtin.SmallTypes.ownedTupleHandOut;have z6:(d.push (mH x y)).get? z=some (yI .ellipsis TI TO):=d7 _ z5;refine b7 (bAR z6 (by simp) λh7 M Z=>?_);replace M:h7.get? z=some (yI (rawInt d.objs.size) TI TO):=M;refine bAR M (by simp) λI J Y=>?_;replace J:I.get? z=some (yI (rawInt d.objs.size) TI TO):=J;have H:∀c o,c≠z->d.get? c=some o->I.get? c=some o:=λc o h e=>Y.extBut _ _ h (Z.extBut _ _ h (d7 _ e));have nz:d.objs.size≠z:=bDJ (t8 z5);have U:I.get? d.objs.size=some (mH x y):=Y.extBut _ _ nz (Z.extBut _ _ nz (j8 _ rfl));rw[r] at J U;refine d8 ⟨_,rfl,d8 ?_⟩;show Q (some (.ref d.objs.size)) _;rw[r];exact q I J (H _ _ D.h2 f) (H _ _ D.h3 N) (H _ _ D.h4 K) U λc o h G P T e=>H c o h (kp c o h G P T e)
def aVi (hh:A.handled=none)(D:zT z TI TO i1 i2)
  (i:s.heap.get? z=some (yI .none TI TO)) (S:s.heap.get? TI=some (mH (.ref i1) (.ref i2))) (H:s.heap.get? TO=some (mH a b))
  (g1:s.heap.get? i1=some (itO L t k)) (g2:s.heap.get? i2=some (itO L u k)) (V:s.heap.vJ L t xs) (Y:s.heap.vJ L u ys) (hx:xs[k]?=some x) (X:ys[k]?=none) (T:t≠z) (u1:u≠z) (Z:u≠TO) (U:u≠i1)
  (q:∀h',(∀c o,c≠z->c≠TO->c≠i1->c≠i2->s.heap.get? c=some o->h'.get? c=some o)->Q none { s with heap:=h' }) :
  wpAny (model prog w) A (pyNext (.ref z)) Q E s:=by
 have G:s.TypeIs (.ref z) "zip":=⟨_,i,rfl⟩;unfold pyNext;refine b7 (bCT (bAJ G F.slot_zip_next (bAH F.slot_zip_next G F.entry_zip_next ?_ (F.args_zip_next_1 _))));refine b7 (m:=field (.ref z) 2) (bAV i rfl (x:=.bool false) rfl ?_);refine b7 (bAV i rfl rfl (b7 (bBI S rfl ?_)));refine b7 ?_;unfold Builtin.SmallTypes.ownedTupleIsFree;refine b7 (bAV i rfl rfl (d8 ?_));simp only[if_true];refine b7 (bDU (b7 (bAV i rfl rfl (b7 (bAR i (by simp) λR p f=>?_)))));replace p:R.get? z=some (yI .ellipsis TI TO):=p;refine b7 ?_;simp only[List.zipIdx_cons,List.zipIdx_nil,bED,List.forIn_nil];refine b7 (b7 (bFC ?_));refine b7 (zP (f.extBut _ _ D.h3 g1) (V.extBut f.extBut T) hx λh2 I j=>d8 ?_);have g:=j.extBut _ _ D.h8 (f.extBut _ _ D.h2 H);refine b7 (bBI g rfl (b7 (aHn g λM h n=>b7 (wpAny_letGo (d8 ?_)))));replace h:M.get? TO=some (mH x b):=h;refine b7 (b7 (bFC ?_));refine b7 (uH hh (n.extBut _ _ D.h9.symm (j.extBut _ _ D.h10.symm (f.extBut _ _ D.h4 g2))) (((Y.extBut f.extBut u1).extBut j.extBut U).extBut n.extBut Z) X λh4 e y N=>?_);obtain⟨P,d,l⟩:=N;have B:=y _ _ D.h4.symm (n.extBut _ _ D.h2.symm (j.extBut _ _ D.h3.symm p));have r:e≠z:=λx=>by subst x;rw[B] at d;cases d;simp at l
 refine bAR B (by simp) λW _ v=>?_;refine b7 (bDE ⟨P,v.extBut _ _ r d,l⟩ isSubtype_stop ?_);exact d8 (q _ λc o C K J O x=>v.extBut _ _ C (y _ _ O (n.extBut _ _ K (j.extBut _ _ J (f.extBut _ _ C x)))))
def aFr (O:A.handled=none)(D:zT z TI TO i1 i2)
  (f:s.heap.get? z=some (yI .none TI TO)) (G:s.heap.get? TI=some (mH (.ref i1) (.ref i2))) (hTO:s.heap.get? TO=some (mH a b))
  (N:s.heap.get? i1=some (itO L t k)) (J:s.heap.vJ L t xs) (K:xs[k]?=none) (I:t≠z)
  (q:∀h',(∀c o,c≠z->c≠TO->c≠i1->c≠i2->s.heap.get? c=some o->h'.get? c=some o)->Q none { s with heap:=h' }) :
  wpAny (model prog w) A (pyNext (.ref z)) Q E s:=by
 have r:s.TypeIs (.ref z) "zip":=⟨_,f,rfl⟩;unfold pyNext;refine b7 (bCT (bAJ r F.slot_zip_next (bAH F.slot_zip_next r F.entry_zip_next ?_ (F.args_zip_next_1 _))));refine b7 (m:=field (.ref z) 2) (bAV f rfl (x:=.bool false) rfl ?_);refine b7 (bAV f rfl rfl (b7 (bBI G rfl ?_)));refine b7 ?_;unfold Builtin.SmallTypes.ownedTupleIsFree;refine b7 (bAV f rfl rfl (d8 ?_));simp only[if_true];refine b7 (bDU (b7 (bAV f rfl rfl (b7 (bAR f (by simp) λC j i=>?_)))));replace j:C.get? z=some (yI .ellipsis TI TO):=j;refine b7 ?_;simp only[List.zipIdx_cons,List.zipIdx_nil,bED,List.forIn_nil];refine b7 (b7 (bFC ?_));refine b7 (uH O (i.extBut _ _ D.h3 N) (J.extBut i.extBut I) K λM e n v=>?_);obtain⟨y,d,g⟩:=v;have l:=n _ _ D.h3.symm j;have h:e≠z:=λx=>by subst x;rw[l] at d;cases d;simp at g
 refine bAR l (by simp) λH _ u=>?_;refine b7 (bDE ⟨y,u.extBut _ _ h d,g⟩ isSubtype_stop ?_);exact d8 (q _ λc o p _ B _ x=>u.extBut _ _ p (n _ _ B (i.extBut _ _ p x)))
abbrev zT1 (L:Bool)(h:Heap)(t:Addr):Heap:=h.push (itO L t 0)
abbrev zT2 (L:Bool)(h:Heap)(t u:Addr):Heap:=(zT1 L h t).push (itO L u 0)
abbrev zT3 (L:Bool)(h:Heap)(t u:Addr):Heap:=(zT2 L h t u).push (mH (.ref h.objs.size) (.ref (zT1 L h t).objs.size))
abbrev zT4 (L:Bool)(h:Heap)(t u:Addr):Heap:=(zT3 L h t u).push (mH .none .none)
abbrev zT5 (L:Bool)(h:Heap)(t u:Addr):Heap:=(zT4 L h t u).push (yI .none (zT2 L h t u).objs.size (zT3 L h t u).objs.size)
def aNt (L:Bool)(t u:Addr)(xs ys:Array Value):Meets (Builtin.«zip.__new__» ⟨[.type "zip",.ref t,.ref u],[]⟩)
  (λ_ R s=>s.heap.vJ L t xs/\s.heap.vJ L u ys/\R (.ok (.ret (.ref (zT4 L s.heap t u).objs.size))) { s with heap:=zT5 L s.heap t u }):=
 .of_wp λj w A R s h=>by
  obtain⟨b,g,d,a,c⟩:=s;obtain⟨k,l,h⟩:=h;have m:=sub_zip;cases L
  ·have e:Heap.IsTuple (Shared.heap ⟨b,g,d,a,c⟩) t xs:=k;have i:Heap.IsTuple (Shared.heap ⟨b.push { cls:=.type "tuple_iterator",data:=.fields #[.ref t,.int 0 0] },g,d,a,c⟩) u ys:=by obtain⟨o,f,r⟩:=l;exact⟨o,d7 _ f,r⟩
   wp_walk using bEF e,bEF i;exact⟨_,rfl,h⟩
  ·have e:Heap.IsList (Shared.heap ⟨b,g,d,a,c⟩) t xs:=k;have i:Heap.IsList (Shared.heap ⟨b.push { cls:=.type "list_iterator",data:=.fields #[.ref t,.int 0 0] },g,d,a,c⟩) u ys:=by obtain⟨o,f,r⟩:=l;exact⟨o,d7 _ f,r⟩
   wp_walk using bCP e,bCP i;exact⟨_,rfl,h⟩
def aR1 (c:s.heap.vJ L t xs)(b:s.heap.vJ L u ys)(q:Q (.ref (zT4 L s.heap t u).objs.size) { s with heap:=zT5 L s.heap t u }) :
  wpAny (model prog w) A (call (.type "zip") [.ref t,.ref u]) Q E s:=by
 refine callType_new F.called_zip (by decide) (F.typeCall_zip_2 _ _) (F.newCall_zip_2 _ _) (λa=>F.args_object_init_3 a _ _) F.entry_zip_new (aNt L t u xs ys) ⟨c,b,?_⟩;exact⟨⟨_,j8 _ rfl,rfl⟩,q⟩
end PySem
namespace L2
open PySem PySem.Spec PyProof.Rows
def Inv.tup_ne (I:Inv X bF3 σ H s)(h:SqT X.K H t xs)(f:tW X bF3 H b):t≠b:=by
 rintro rfl;obtain⟨a,i,j,g,_⟩:=f;rcases h with (h|⟨o,h⟩)|⟨o,d,n,c,_⟩
 ·rw[a] at h;cases h
 ·rw[a] at h;cases h
 ·have e:=I.ok.mod.kin t o c;rcases g with z|z
  ·exact I.ok.noex t o e z
  ·exact absurd (bAB (t8 e) (bAI I.ok.bsz z)) (bBN _)
def Inv.bBx (I:Inv X bF3 σ H s)(h:SqL X.K H t xs)(f:tW X bF3 H b):t≠b:=by
 rintro rfl;obtain⟨a,i,j,g,_⟩:=f;rcases h with (h|⟨o,h⟩)|⟨o,d,n,c,_⟩
 ·rw[a] at h;cases h
 ·rw[a] at h;cases h
 ·have e:=I.ok.mod.kin t o c;rcases g with z|z
  ·exact I.ok.noex t o e z
  ·exact absurd (bAB (t8 e) (bAI I.ok.bsz z)) (bBN _)
def SqB (K:bFZ):Bool->Hp->Addr->List V->Prop
 |true=>SqL K
 |false=>SqT K
def Inv.sq (I:Inv X bF3 σ H s)(h:SqB X.K L H t xs):∃its:List Value,Vals xs its/\s.heap.vJ L t its.toArray:=by
 cases L
 ·obtain⟨its,a,b,_⟩:=I.tuple h;exact⟨its,a,b⟩
 ·obtain⟨its,a,b,_⟩:=I.list h;exact⟨its,a,b.isList⟩
def Inv.mL (I:Inv X bF3 σ H s)(h:SqB X.K L H t xs)(f:tW X bF3 H b):t≠b:=by
 cases L
 ·exact I.tup_ne h f
 ·exact I.bBx h f
def Inv.drawn {ch:List Addr}{h':Heap}{vs:List V}{its:List Value}{T:Addr}(I:Inv X bF3 σ H s)(d:∀b∈ch,tW X bF3 H b)(i:∀b o,b∉ch->s.heap.get? b=some o->h'.get? b=some o)
  (C:s.heap.objs.size<=T) (E:Vals vs its) (F:vs.length<=sizeLine) (ho:zR h' T its.toArray) (hth:∀b∈ch,∃o,h'.get? b=some o):Inv X bF3 σ (upd H T (.tup vs)) { s with heap:=h' }:=by
 have f:=I.hok.fresh C;have y:∀b o,s.heap.get? b=some o->b≠T:=λb o e=>z9 (bAB (t8 e) C);have g:∀b u,H b=some u->b∉ch:=λb u e z=>by rw[(d b z).1] at e;cases e
 refine I.step (g':=s.gens) (d':=s.drawn) (t':=s.toks) (λb h=>?_) (λb o _ _ a e _=>i b o a e) (λb o _ _ a e _=>⟨o.slots,i b o a e⟩) (λb o a e n=>by rw[aQ (y b o e)];exact n)
  (λb o a e=>⟨o,i b o a e⟩) (λb D e=>by rw[aQ (aL e f)];exact e) (λb o u e=>by rw[aQ (aL e f)];exact e) (λb G e=>⟨#[],by rw[aQ (aL e f),e];simp⟩) (λm B=>?_) (λb u e=>?_) I.bare
 ·obtain⟨_,p,_,x,t,A⟩:=d b h;exact⟨x,p,t,A⟩
 ·obtain⟨o,l,w,k,r⟩:=B;exact⟨o,l,w,i _ o (λz=>(d _ z).2.1 rfl) k,r⟩
 ·by_cases h:b=T
  ·subst h;rw[aG] at e;cases e;exact⟨F,its,E,ho⟩
  ·rw[aQ h] at e;refine (I.hok b u e).stay (λc v j q=>i c v ?_ q) (λc q=>by rw[aQ (aL q f)];exact q) λc D q=>by rw[aQ (aL q f)];exact q
   rcases j with z|z
   ·rw[z];exact g b u e
   ·exact g c _ z
def Inv.aQg {ch:List Addr}{h':Heap}(I:Inv X bF3 σ H s)(a:∀b∈ch,tW X bF3 H b)(g:∀b o,b∉ch->s.heap.get? b=some o->h'.get? b=some o):Inv X bF3 σ H { s with heap:=h' }:=by
 have f:∀b u,H b=some u->b∉ch:=λb u e z=>by rw[(a b z).1] at e;cases e
 refine I.step (g':=s.gens) (d':=s.drawn) (t':=s.toks) (λb p=>?_) (λb o _ _ d e _=>g b o d e) (λb o _ _ d e _=>⟨o.slots,g b o d e⟩) (λ_ _ _ _ n=>n)
  (λb o d e=>⟨o,g b o d e⟩) (λ_ _ e=>e) (λ_ _ _ e=>e) (λb A e=>⟨#[],by rw[e];simp⟩) (λm y=>?_) (λb u e=>?_) I.bare
 ·obtain⟨_,k,_,w,l,x⟩:=a b p;exact⟨w,k,l,x⟩
 ·obtain⟨o,j,t,i,r⟩:=y;exact⟨o,j,t,g _ o (λz=>(a _ z).2.1 rfl) i,r⟩
 ·refine (I.hok b u e).stay (λc v h q=>g c v ?_ q) (λ_ q=>q) λ_ _ q=>q;rcases h with z|z
  ·rw[z];exact f b u e
  ·exact f c _ z
def ItB (K:bFZ)(L:Bool)(t u:Addr)(xs ys:List V):It:=
 ⟨λi H=>SqB K L H t xs/\SqB K L H u ys/\i<xs.length/\i<ys.length,λi H v H'=>∃T a b,H T=none/\v=.ref T/\H'=upd H T (.tup [a,b])/\xs[i]?=some a/\ys[i]?=some b,λi H=>(SqB K L H t xs/\xs.length<=i)\/(SqB K L H t xs/\SqB K L H u ys/\i=ys.length/\ys.length<=xs.length)⟩
def ztn (L:Bool)(z TI TO i1 i2 t u:Addr)(i:Nat)(h:Heap):Prop:=
 h.get? z=some (yI .none TI TO)/\h.get? TI=some (mH (.ref i1) (.ref i2))/\(∃a b,h.get? TO=some (mH a b))/\h.get? i1=some (itO L t i)/\h.get? i2=some (itO L u i)
def Itz (K:bFZ)(t u:Addr)(xs ys:List V):It:=
 ⟨λi H=>SqT K H t xs/\SqT K H u ys/\i<xs.length/\i<ys.length,λi H v H'=>∃T a b,H T=none/\v=.ref T/\H'=upd H T (.tup [a,b])/\xs[i]?=some a/\ys[i]?=some b,λi H=>SqT K H t xs/\xs.length<=i⟩
def aFq {P:Program}{w:World}{K:bFZ}{elts:List Expr}{kt:Nat}{pos:Pos}{L:Bool}{z TI TO J O t u:Addr}{xs ys:List V}(D:zT z TI TO J O) :
  Turn P w K (.Tuple elts kt pos) (ItB K L t u xs ys) [z,TI,TO,J,O] z (ztn L z TI TO J O t u) where
 mem:=by simp
 obj:=λi h B b d=>by
  obtain⟨m,l,⟨a,c,n⟩,r,C⟩:=B;simp only[bAP,bAG,or_false] at d;rcases d with rfl|rfl|rfl|rfl|rfl
  ·exact⟨_,m,λv z=>by cases (show Data.fields _=Data.cell v from z)⟩
  ·exact⟨_,l,λv z=>by cases (show Data.seq _ _=Data.cell v from z)⟩
  ·exact⟨_,n,λv z=>by cases (show Data.seq _ _=Data.cell v from z)⟩
  ·exact⟨_,r,λv z=>by cases L <;> cases (show Data.fields _=Data.cell v from z)⟩
  ·exact⟨_,C,λv z=>by cases L <;> cases (show Data.fields _=Data.cell v from z)⟩
 keep:=λi h f B k=>by obtain⟨m,l,⟨a,c,n⟩,r,C⟩:=B;exact⟨k z (by simp) _ m,k TI (by simp) _ l,⟨a,c,k TO (by simp) _ n⟩,k J (by simp) _ r,k O (by simp) _ C⟩
 item:=by
  intro X Y Z hK S i A s σ H E I j B hg;subst Y Z hK;obtain⟨m,l,⟨a0,c0,n⟩,r,C⟩:=B;obtain⟨g,q,l1,l2⟩:=hg;obtain⟨its,N,M⟩:=I.sq g;obtain⟨a7,G,pu⟩:=I.sq q;obtain⟨x,U,rx⟩:=N.get (b8 l1);obtain⟨y,hy,ry⟩:=G.get (b8 l2);have F:=j z (by simp);have T:=j TO (by simp);have W:=j J (by simp);have f2:=j O (by simp);refine aSb D m l n r C M pu (by simpa using U) (by simpa using hy) (I.mL g F) (I.mL g T) (I.mL g W) (I.mL g f2)
   (I.mL q F) (I.mL q T) (I.mL q W) (I.mL q f2) λf a1 a2 a3 a4 a5 p=>?_
  refine⟨_,rfl,?_⟩;have fT:H s.heap.objs.size=none:=I.hok.fresh (d9 _);have I1:Inv X A σ (upd H s.heap.objs.size (.tup [xs[i],ys[i]])) { s with heap:=f }:=by
   refine I.drawn (ch:=[z,TO,J,O]) (its:=[x,y]) (λb d=>?_) (λb o d e=>?_) (d9 _) (.cons rx (.cons ry .nil)) (small (by simp)) (.of a5 rfl ⟨_,a5,rfl,_,rfl⟩) (λb d=>?_)
   ·refine j b ?_;simp only[bAP,bAG,or_false] at d ⊢;rcases d with h|h|h|h <;> simp[h]
   ·simp only[bAP,bAG,or_false,not_or] at d;exact p b o d.1 d.2.1 d.2.2.1 d.2.2.2 e
   ·simp only[bAP,bAG,or_false] at d;rcases d with rfl|rfl|rfl|rfl
    ·exact⟨_,a1⟩
    ·exact⟨_,a2⟩
    ·exact⟨_,a3⟩
    ·exact⟨_,a4⟩
  have nT:∀b∈[z,TI,TO,J,O],b≠s.heap.objs.size:=λb d=>by
   have e:∃o,s.heap.get? b=some o:=by
    simp only[bAP,bAG,or_false] at d;rcases d with rfl|rfl|rfl|rfl|rfl
    ·exact⟨_,m⟩
    ·exact⟨_,l⟩
    ·exact⟨_,n⟩
    ·exact⟨_,r⟩
    ·exact⟨_,C⟩
   obtain⟨o,e⟩:=e;exact z9 (t8 e)
  refine wpAny_letOwnedTupleGo_zip (s:={ s with heap:=f }) a1 λh2 z2 Q=>?_;obtain⟨g0,g1,g2,g3,g4,g5⟩:=F;have I2:Inv X A σ (upd H s.heap.objs.size (.tup [xs[i],ys[i]])) { s with heap:=h2 }:=Inv.turned (s:={ s with heap:=f }) I1 (t':=s.toks) (it:=z) (λb o d e=>(Q.2 b d).trans e) (by rw[aQ (nT z (by simp))];exact g0) g1 g3 g4 g5;refine⟨.ref s.heap.objs.size,_,I2,rfl,⟨_,_,_,fT,rfl,rfl,b8 l1,b8 l2⟩,?_,λb d=>by rw[aQ (nT b d)];exact (j b d).1⟩;exact⟨z2,Q.extBut _ _ D.h1 (p TI _ D.h1 D.h5 D.h6 D.h7 l),⟨_,_,Q.extBut _ _ D.h2 a2⟩,Q.extBut _ _ D.h3 a3,Q.extBut _ _ D.h4 a4⟩
 done:=by
  intro X Y Z hK S i A s σ H E I j B hg;subst Y Z hK;obtain⟨m,l,⟨a0,c0,n⟩,r,C⟩:=B;have F:=j z (by simp);have T:=j TO (by simp);have W:=j J (by simp);refine (λ(go:∀f,(∀c o,c≠z->c≠TO->c≠J->c≠O->s.heap.get? c=some o->f.get? c=some o)->_)=>?_:_->_) (λf p=>(⟨rfl,?_⟩:(none:Option Value)=none/\Inv X A σ H { s with heap:=f }))
  ·rcases hg with⟨g,hl⟩|⟨g,q,hl,hle⟩
   ·obtain⟨its,N,M⟩:=I.sq g;have R:=N.length;exact aFr (I.ok.hd S) D m l n r M (by simp;lia) (I.mL g F) λf p=>go f p
   ·obtain⟨its,N,M⟩:=I.sq g;obtain⟨a7,G,pu⟩:=I.sq q;have R:=N.length;have a6:=G.length;cases U:its[i]? with
    |none=>exact aFr (I.ok.hd S) D m l n r M (by simpa using U) (I.mL g F) λf p=>go f p
    |some x=>exact aVi (I.ok.hd S) D m l n r C M pu (by simpa using U) (by simp;lia) (I.mL g F) (I.mL q F) (I.mL q T) (I.mL q W) λf p=>go f p
  refine Inv.aQg (ch:=[z,TO,J,O]) I (λb d=>j b ?_) λb o d e=>?_
  ·simp only[bAP,bAG,or_false] at d ⊢;rcases d with h|h|h|h <;> simp[h]
  ·simp only[bAP,bAG,or_false,not_or] at d;exact p b o d.1 d.2.1 d.2.2.1 d.2.2.2 e
 self:=λ_ _ _ _ _ B h=>wpAny_pyIter_zip B.1 h
def aT5 (K:bFZ)(ta:TA):TI:=fun σ H R=>ta σ H λvs H1=>∃t u xs ys,vs=[.ref t,.ref u]/\SqT K H1 t xs/\SqT K H1 u ys/\R (Itz K t u xs ys) H1
def aPh (L:Bool){J:Addr->Addr->List V->List V->It}{elts:List Expr}{kt:Nat}{tp:Pos}{a b:Expr}{ta:TA}{p v:Pos}(hT:∀{z TI TO i1 i2 t u xs ys},zT z TI TO i1 i2->Turn X.prog X.w X.K (.Tuple elts kt tp) (J t u xs ys) [z,TI,TO,i1,i2] z (ztn L z TI TO i1 i2 t u))(Z:Gl X "zip")(Y:X.mg "zip"=none)(ha:PA X [a,b] ta)(U:starEach [a,b] X.env=(false,eval a X.env)::starEach [b] X.env:=by rfl)
  (E:starEach [b] X.env=[(false,eval b X.env)]:=by rfl):PI X (.Tuple elts kt tp) (.Call (.Name "zip" p) [a,b] [] v) (fun σ H R=>ta σ H λvs H1=>∃t u xs ys,vs=[.ref t,.ref u]/\SqB X.K L H1 t xs/\SqB X.K L H1 u ys/\R (J t u xs ys) H1):=by
 intro g s σ H R I h;refine Call_ (vK I Z Y bDc (bCC (thn (ha v g s σ H _ I h) λus c ⟨vs,H1,f,P,A⟩=>?_) U (by rw[E];rfl)));obtain⟨t,u,xs,ys,e,y,B,q⟩:=A;subst e;obtain⟨M,W,F⟩:=f.sq y;obtain⟨S,Q,N⟩:=f.sq B;cases P with
 |cons r rr=>
  cases rr with
  |cons r' rr'=>
   cases rr';cases r;cases r';refine aR1 F N ?_;have i:(zT1 L c.heap t).objs.size=c.heap.objs.size+1:=bBS ..;have j:(zT2 L c.heap t u).objs.size=c.heap.objs.size+2:=by rw[bBS,i]
   have k:(zT3 L c.heap t u).objs.size=c.heap.objs.size+3:=by rw[bBS,j]
   have m:(zT4 L c.heap t u).objs.size=c.heap.objs.size+4:=by rw[bBS,k]
   have D:zT (zT4 L c.heap t u).objs.size (zT2 L c.heap t u).objs.size (zT3 L c.heap t u).objs.size c.heap.objs.size (zT1 L c.heap t).objs.size:=by constructor <;> (show (_:Nat)≠(_:Nat);rw[Ne];intro h;simp only[i,j,k,m] at h;lia)
   have l:(zT5 L c.heap t u).get? (zT4 L c.heap t u).objs.size=some (yI .none (zT2 L c.heap t u).objs.size (zT3 L c.heap t u).objs.size):=j8 _ rfl;have C:(zT5 L c.heap t u).get? (zT3 L c.heap t u).objs.size=some (mH .none .none):=d7 _ (j8 _ rfl);have T:(zT5 L c.heap t u).get? (zT2 L c.heap t u).objs.size=some (mH (.ref c.heap.objs.size) (.ref (zT1 L c.heap t).objs.size)):=d7 _ (d7 _ (j8 _ rfl));have O:(zT5 L c.heap t u).get? (zT1 L c.heap t).objs.size=some (itO L u 0):=d7 _ (d7 _ (d7 _ (j8 _ (by cases L <;> rfl))));have G:(zT5 L c.heap t u).get? c.heap.objs.size=some (itO L t 0):=d7 _ (d7 _ (d7 _ (d7 _ (j8 _ (by cases L <;> rfl)))));have x:Inv X g σ H1 { c with heap:=zT5 L c.heap t u }:=f.kept (t':=c.toks) λb o e=>d7 _ (d7 _ (d7 _ (d7 _ (d7 _ e))));refine wpAny_pyIter_zip (s:={ c with heap:=zT5 L c.heap t u }) l ⟨_,_,_,_,H1,rfl,x,hT D,⟨l,T,⟨_,_,C⟩,G,O⟩,λb n=>?_,q⟩;have d:c.heap.objs.size<=b:=by
    simp only[bAP,bAG,or_false] at n;rcases n with rfl|rfl|rfl|rfl|rfl
    ·rw[m];exact bDF ..
    ·rw[j];exact bDF ..
    ·rw[k];exact bDF ..
    ·exact d9 _
    ·rw[i];exact bDF ..
   exact f.aHp d (f.hok.fresh d)
def aYy (d:Gl X "zip")(o:X.mg "zip"=none)(n:PA X [a,b] ta)(m:starEach [a,b] X.env=(false,eval a X.env)::starEach [b] X.env:=by rfl)
  (g:starEach [b] X.env=[(false,eval b X.env)]:=by rfl):PI X (.Tuple elts kt tp) (.Call (.Name "zip" p) [a,b] [] pos) (aT5 X.K ta):=
 aPh false (J:=Itz X.K) (λD=>let T:=aFq (L:=false) D;⟨T.mem,T.obj,T.keep,T.item,λX j f e k i c s σ H E I h l d=>T.done X j f e k i c s σ H E I h l (.inl d),T.self⟩) d o n m g
inductive Tk (K:bFZ)(H:Hp):V->Bool->Prop
 |int {i}:Tk K H (.int i) false
 |str {x}:Tk K H (.str x) false
 |bl {b}:Tk K H (.bl b) false
 |non:Tk K H .non false
 |lst {a xs}:SqL K H a xs->Tk K H (.ref a) false
 |dct {a kvs}:H a=some (.dK kvs)->Tk K H (.ref a) false
 |tup {a xs}:SqT K H a xs->Tk K H (.ref a) true
def bD4 (K:bFZ):List V->Hp->VK->Prop:=λxs H Q=>∃x b,xs=[x,.ty "tuple"]/\Tk K H x b/\Q (.bl b) H
def jG:cF X (.builtin "isinstance") (bD4 X.K):=by
 intro f s σ H w y Q I r h;obtain⟨x,b,rfl,j,q⟩:=h;obtain⟨u,v,rfl,a,l⟩:=r.two;cases l;have p:EP X f σ Q (.bool b) s:=⟨.bl _,H,I,rfl,q⟩;have d:EP X f σ Q (.bool b) { s with toks:=s.toks+1 }:=⟨.bl _,H,I.tok _,rfl,q⟩;cases j with
 |int=>obtain⟨t,rfl⟩:=a;exact IsiPair.int_tuple d
 |str=>obtain⟨t,rfl⟩:=a;exact IsiPair.str_tuple d
 |bl=>cases a;exact IsiPair.bool_tuple d
 |non=>cases a;exact IsiPair.NoneType_tuple d
 |lst hq=>cases a;obtain⟨g,i,⟨o,n,e,c,_⟩,k⟩:=I.list hq;exact IsiPair.list_tuple e c d
 |dct hq=>cases a;obtain⟨_,_,_,_,o,_,_,e,m,_⟩:=I.hok _ _ hq;exact IsiPair.dict_tuple e m.1 d
 |tup hq=>cases a;obtain⟨g,i,⟨o,e,c,_⟩,k⟩:=I.tuple hq;exact IsiPair.tuple_tuple e c p
def lG {σ0:St}{j:Nat}(c:σ0[j]?=some none):σ0=σ0.set j none:=by
 refine (bCE λi=>?_);rw[List.getElem?_set]
 split
 ·rename_i b;subst b
  split
  ·exact c
  ·rename_i a;exact List.getElem?_eq_none_iff.mpr (by lia)
 ·rfl
def aGc (xs:List V)(f:V->V)(n:St)(j:Cap X scope N σ n)(hsz:xs.length<=sizeLine)
  (t:∀R:It->Hp->Prop,(∀J:It,(∀H' i x,Same H H'->xs[i]?=some x->J.go i H'/\∀y H2,J.yld i H' y H2->H2=H'/\y=x)->(∀H',Same H H'->J.stop xs.length H')->R J H)->wi σ H R)
  (s:∀x∈xs,∀H' R l,Same H H'->(∀H2,Same H' H2->R (f x) H2)->te ((n.set 0 l).set 0 (some x)) H' R) (v:n[0]?=some none)
  (q:∀D H',Same H H'->H' D=some (.lst (xs.map f))->Q (.ref D) H') :
  jB X scope N wi (bR 0) mG te σ H Q:=by
 refine⟨n,j,t _ λJ go stop D d=>?_⟩;refine⟨λi m g H' c=>i<=xs.length/\m=xs.length - i/\(∃l,g=n.set 0 l)/\Same H H'/\H' D=some (.lst c)/\c=(xs.take i).map f,⟨xs.length,bAE _,rfl,⟨none,lG v⟩,aZ d _,aG,rfl⟩,?_⟩;rintro i m g H' c ⟨hi,rfl,⟨l,rfl⟩,sm,hL,rfl⟩;refine⟨hL,?_⟩;by_cases a:i<xs.length
 ·right;obtain⟨r,k⟩:=go H' i xs[i] sm (b8 a);refine⟨r,λx H2 p=>?_⟩;obtain⟨rfl,rfl⟩:=k x H2 p;unfold bR mG;dsimp only;rw[if_pos rfl];refine s xs[i] (bAO a) _ _ l sm λu h=>⟨h _ _ hL,?_,xs.length - (i+1),by lia,a,rfl,⟨some xs[i],?_⟩,?_,aG,?_⟩
  ·rw[j4,bAC];lia
  ·rw[bCF]
  ·intro b o e;rw[aQ (aL e d)];exact h _ _ (sm _ _ e)
  ·rw[bBH,b8 a,bAN];rfl
 ·left;have e:i=xs.length:=by lia
  subst e;refine⟨stop _ sm,?_⟩;rw[bCA] at hL;exact q D _ sm hL
def aUn {K:bFZ}{tl:TA}{t u:Addr}(xs ys:List V)(f:V->V->V)(z:St)(s:Cap X scope N σ z)(hsz:xs.length<=sizeLine)(hl:xs.length=ys.length)
  (j:SqT K H t xs) (A:SqT K H u ys) (E:∀R:List V->Hp->Prop,R [.ref t,.ref u] H->tl σ H R)
  (C:∀(i:Nat) (x y:V),xs[i]?=some x->ys[i]?=some y->∀H' R l1 l2,Same H H'->(∀H2,Same H' H2->R (f x y) H2)->te ((((z.set 0 l1).set 1 l2).set 0 (some x)).set 1 (some y)) H' R) (I:z[0]?=some none) (G:z[1]?=some none)
  (q:∀D H',Same H H'->H' D=some (.lst (List.zipWith f xs ys))->Q (.ref D) H') :
  jB X scope N (aT5 K tl) (aPc K 2 (uF (bR 0) (uF (bR 1) aRq))) mG te σ H Q:=by
 refine⟨z,s,E _ ⟨t,u,xs,ys,rfl,j,A,λD p=>?_⟩⟩;refine⟨λi m r H' g=>i<=xs.length/\m=xs.length - i/\(∃l1 l2,r=(z.set 0 l1).set 1 l2)/\Same H H'/\H' D=some (.lst g)/\g=(List.zipWith f xs ys).take i,⟨xs.length,bAE _,rfl,⟨none,none,?_⟩,aZ p _,aG,rfl⟩,?_⟩
 ·rw[<-lG I];exact lG G
 rintro i m r H' g ⟨hi,rfl,⟨l1,l2,rfl⟩,sm,hL,rfl⟩;refine⟨hL,?_⟩;by_cases d:i<xs.length
 ·right;refine⟨⟨sm.aP j,sm.aP A,d,by lia⟩,λv H2 w=>?_⟩;obtain⟨T,a,b,B,rfl,rfl,k,l⟩:=w;have h:Same H' (upd H' T (.tup [a,b])):=aZ B _;refine⟨T,[a,b],rfl,.inl (.inl aG),rfl,a,[b],rfl,b,[],rfl,rfl,?_⟩;unfold mG;dsimp only;rw[if_pos rfl];refine C i a b k l _ _ l1 l2 (λb o e=>h _ _ (sm _ _ e)) λF n=>⟨n _ _ (h _ _ hL),?_,xs.length - (i+1),by lia,d,rfl,⟨some a,some b,?_⟩,?_,aG,?_⟩
  ·rw[bAC,bFI];lia
  ·rw[List.set_comm _ _ (show (1:Nat)≠0 by decide),bCF,bCF]
  ·intro c o e;rw[aQ (aL e p)];exact n _ _ (h _ _ (sm _ _ e))
  ·rw[bBH,List.getElem?_zipWith,k,l];rfl
 ·left;have e:i=xs.length:=by lia
  subst e;refine⟨⟨sm.aP j,d9 _⟩,?_⟩;rw[bAZ (by rw[bFI];lia)] at hL;exact q D _ sm hL
def aOt {K:bFZ}{a:Addr}{xs:List V}{tl:TE}(b:SqT K H a xs)(h:∀R:VK,R (.ref a) H->tl σ H R)(R:It->Hp->Prop)
  (q:∀J:It,(∀H' i x,Same H H'->xs[i]?=some x->J.go i H'/\∀y H2,J.yld i H' y H2->H2=H'/\y=x)->(∀H',Same H H'->J.stop xs.length H')->R J H):aZa K tl σ H R:=by
 refine h _ ⟨a,rfl,⟨xs,b⟩,q _ (λH' i x s e=>⟨⟨xs,x,s.aP b,e⟩,λy H2 g=>?_⟩) λH' s=>⟨xs,s.aP b,d9 _⟩⟩;obtain⟨d,f⟩:=g;have c:=f xs (s.aP b);rw[e] at c;cases c;exact⟨d,rfl⟩
section
variable {κ:Type}[DecidableEq κ]
def fQ (kvs:List (κ × V))(k:κ):Option V:=(kvs.find? λkv=>decide (kv.1=k)).map (·.2)
def putK (kvs:List (κ × V))(k:κ)(v:V):List (κ × V):=
 if (kvs.any λkv=>decide (kv.1=k))=true then kvs.map (λkv=>if kv.1=k then (kv.1,v) else kv) else kvs++[(k,v)]
def mD (kvs:List (κ × V))(k:κ):List (κ × V):=kvs.filter λkv=>decide (kv.1≠k)
def dC {p:κ × V}{r:List (κ × V)}{k:κ}(e:p.1=k):fQ (p::r) k=some p.2:=by simp[fQ,bBV,e]
def cU {p:κ × V}{r:List (κ × V)}{k:κ}(e:¬ p.1=k):fQ (p::r) k=fQ r k:=by simp[fQ,bBV,e]
theorem nY (k:κ):∀kvs:List (κ × V),(kvs.any λkv=>decide (kv.1=k))=(fQ kvs k).isSome
 |[]=>rfl
 |p::r=>by
  rw[bFA];by_cases e:p.1=k
  ·simp only[dC e,m9 e,Bool.true_or,Option.isSome_some]
  ·rw[cU e,v6 e,Bool.false_or];exact nY k r
theorem aL6 (k j:κ)(y:V):∀kvs:List (κ × V),fQ (kvs.map λkv=>if kv.1=k then (kv.1,y) else kv) j=(fQ kvs j).map λx=>if j=k then y else x
 |[]=>rfl
 |p::r=>by
  have a:=aL6 k j y r;rw[bAF];by_cases h:p.1=k
  ·rw[if_pos h];by_cases e:p.1=j
   ·rw[dC (p:=(p.1,y)) e,dC e,bDP,if_pos (e.symm.trans h)]
   ·rw[cU (p:=(p.1,y)) e,cU e,a]
  ·rw[if_neg h];by_cases e:p.1=j
   ·rw[dC e,dC e,bDP,if_neg (λz=>h (e.trans z))]
   ·rw[cU e,cU e,a]
theorem aE0 (k j:κ)(y:V):∀kvs:List (κ × V),fQ kvs k=none->fQ (kvs++[(k,y)]) j=if j=k then some y else fQ kvs j
 |[],_=>by
  by_cases e:k=j
  ·rw[if_pos e.symm];exact dC (p:=(k,y)) e
  ·rw[if_neg (λz=>e z.symm)];exact cU e
 |p::r,hn=>by
  rw[List.cons_append];have a:¬ p.1=k:=λz=>by rw[dC z] at hn;cases hn
  rw[cU a] at hn;have b:=aE0 k j y r hn;by_cases e:p.1=j
  ·rw[dC e,dC e,if_neg (λz=>a (e.trans z))]
  ·rw[cU e,cU e,b]
def aKc (kvs:List (κ × V))(k j:κ)(y:V):fQ (putK kvs k y) j=if j=k then some y else fQ kvs j:=by
 unfold putK;by_cases a:(kvs.any λc=>decide (c.1=k))=true
 ·rw[if_pos a,aL6];rw[nY] at a;by_cases e:j=k
  ·obtain⟨x,b⟩:=Option.isSome_iff_exists.mp a;rw[if_pos e,e,b,bDP,if_pos rfl]
  ·rw[if_neg e];cases fQ kvs j with
   |none=>rfl
   |some x=>rw[bDP,if_neg e]
 ·rw[if_neg a];refine aE0 k j y kvs ?_;rw[nY] at a;cases q:fQ kvs k with
  |none=>rfl
  |some x=>rw[q] at a;exact (a rfl).elim
def rG (kvs:List (κ × V))(k:κ)(v:V):(putK kvs k v).length<=kvs.length+1:=by
 unfold putK
 split
 ·rw[j4];lia
 ·rw[v9,j9,bCQ];lia
def xG {kvs:List (κ × V)}{k:κ}(v:V)(h:fQ kvs k=none):putK kvs k v=kvs++[(k,v)]:=by unfold putK;rw[nY,h];exact if_neg (by decide)
def oZ.oV (r:oZ o u):o.isSome=u.isSome:=by
 cases o with
 |none=>cases u with
  |none=>rfl
  |some _=>exact (show False from r).elim
 |some _=>cases u with
  |none=>exact (show False from r).elim
  |some _=>rfl
def oZ.getD (r:oZ o u)(a:RelV d d'):RelV (o.getD d) (u.getD d'):=by
 cases o with
 |none=>cases u with
  |none=>exact a
  |some _=>exact (show False from r).elim
 |some _=>cases u with
  |none=>exact (show False from r).elim
  |some _=>exact r
def KV.val (r:KV kvs vs)(k:κ):oZ (fQ kvs k) (valueAt vs k):=by
 unfold KV at r
 induction r with
 |nil=>exact True.intro
 |@cons p q ps qs h t ih=>
  obtain⟨c,d⟩:=h;by_cases e:p.1=k
  ·have a:q.1=k:=c.symm.trans e;have b:valueAt (q::qs) k=some q.2:=by simp[valueAt,bBV,a]
   rw[dC e,b];exact d
  ·have a:¬ q.1=k:=λz=>e (c.trans z);have b:valueAt (q::qs) k=valueAt qs k:=by simp[valueAt,bBV,a]
   rw[cU e,b];exact ih
def KV.any (r:KV kvs vs)(k:κ):(kvs.any λkv=>decide (kv.1=k))=vs.any λkv=>decide (kv.1=k):=by
 unfold KV at r
 induction r with
 |nil=>rfl
 |cons h t ih=>rw[bFA,bFA,ih,h.1]
def KV.repl (r:KV kvs vs)(k:κ)(c:RelV y u) :
  KV (kvs.map λkv=>if kv.1=k then (kv.1,y) else kv) (vs.map λkv=>if kv.1=k then (kv.1,u) else kv):=by
 unfold KV at r ⊢
 induction r with
 |nil=>exact .nil
 |@cons p q ps qs h t ih=>
  rw[bAF,bAF];refine .cons ?_ ih;obtain⟨a,b⟩:=h;by_cases e:p.1=k
  ·rw[if_pos e,if_pos (a.symm.trans e)];exact⟨a,c⟩
  ·rw[if_neg e,if_neg (λz=>e (a.trans z))];exact⟨a,b⟩
def KV.put (r:KV kvs vs)(k:κ)(b:RelV y u):KV (putK kvs k y) (stored vs k u):=by
 unfold putK stored;rw[r.any k];by_cases e:(vs.any λa=>decide (a.1=k))=true
 ·rw[if_pos e,if_pos e];exact r.repl k b
 ·rw[if_neg e,if_neg e];exact Paired.snoc r ⟨rfl,b⟩
def KV.drop (r:KV kvs vs)(k:κ):KV (mD kvs k) (without vs k):=by
 unfold KV at r ⊢;unfold mD without
 induction r with
 |nil=>exact .nil
 |@cons p q ps qs h t ih=>
  obtain⟨c,f⟩:=h;rw[bCL,bCL];by_cases e:p.1=k
  ·have a:¬ decide (p.1≠k)=true:=by simp[e]
   have b:¬ decide (q.1≠k)=true:=by simp[c.symm.trans e]
   rw[if_neg a,if_neg b];exact ih
  ·have d:¬ q.1=k:=λz=>e (c.trans z);have a:decide (p.1≠k)=true:=by simp[e]
   have b:decide (q.1≠k)=true:=by simp[d]
   rw[if_pos a,if_pos b];exact .cons ⟨c,f⟩ ih
def KV.keys {kvs:List (κ × V)}{vs:List (κ × Value)}(r:KV kvs vs):kvs.map (·.1)=vs.map (·.1):=by
 unfold KV at r
 induction r with
 |nil=>rfl
 |cons h t ih=>rw[bAF,bAF,ih,h.1]
def KV.length {kvs:List (κ × V)}{vs:List (κ × Value)}(r:KV kvs vs):kvs.length=vs.length:=Paired.length r
def aKn (kvs:List (κ × V))(k:κ):(mD kvs k).length<=kvs.length:=bAX _ _
end
def aA4 (r:RelV (kV k) u):(bJ P w).is k u=true:=by
 cases k with
 |inl i=>obtain⟨t,e⟩:=(show ∃t,u=Value.int i t from r);subst e;exact aKb P w i t
 |inr x=>obtain⟨t,e⟩:=(show ∃t,u=Value.str x t from r);subst e;exact aL3 P w x t
def bBr (e:kV a=kV b):a=b:=by
 cases a with
 |inl i=>cases b with
  |inl j=>have c:=e;injection c with c;rw[c]
  |inr y=>exact nomatch (show V.int i=V.str y from e)
 |inr x=>cases b with
  |inl j=>exact nomatch (show V.str x=V.int j from e)
  |inr y=>have c:=e;injection c with c;rw[c]
theorem aGa:∀{ks:List Key} {us:List Value},Vals (ks.map kV) us->ItemsAre (bJ P w) ks us
 |[],_,r=>by rw[List.map_nil] at r;cases r;exact .nil
 |k::ks,_,r=>by
  rw[bAF] at r;cases r with
  |cons h t=>exact .cons (aA4 h) (aGa t)
abbrev KT (H:Hp):List (List Key × V)->List (List Key × Addr × Value)->Prop:=Paired λp q=>p.1=q.1/\H q.2.1=some (.tup (p.1.map kV))/\RelV p.2 q.2.2
def KT.val (r:KT H kvs xs)(k:List Key):oZ (fQ kvs k) ((atKey xs k).map (·.2)):=by
 induction r with
 |nil=>exact True.intro
 |@cons p q ps qs h t ih=>
  obtain⟨c,_,d⟩:=h;by_cases e:p.1=k
  ·have a:q.1=k:=c.symm.trans e;have b:atKey (q::qs) k=some q.2:=by simp[atKey,bBV,a]
   rw[dC e,b];exact d
  ·have a:¬ q.1=k:=λz=>e (c.trans z);have b:atKey (q::qs) k=atKey qs k:=by simp[atKey,bBV,a]
   rw[cU e,b];exact ih
def KT.repl (r:KT H kvs xs)(k:List Key)(d:RelV y u) :
  KT H (kvs.map λkv=>if kv.1=k then (kv.1,y) else kv) (xs.map (putAt k u)):=by
 induction r with
 |nil=>exact .nil
 |@cons p q ps qs h t ih=>
  rw[bAF,bAF];refine .cons ?_ ih;obtain⟨a,b,c⟩:=h;unfold putAt;by_cases e:p.1=k
  ·rw[if_pos e,if_pos (a.symm.trans e)];exact⟨a,b,d⟩
  ·rw[if_neg e,if_neg (λz=>e (a.trans z))];exact⟨a,b,c⟩
def KT.put (r:KT H kvs xs)(k:List Key)(d:H b=some (.tup (k.map kV)))(c:RelV y u) :
  KT H (putK kvs k y) (storedH xs k b u):=by
 have e:(kvs.any λa=>decide (a.1=k))=(atKey xs k).isSome:=by rw[nY,(r.val k).oV,bFT]
 unfold putK storedH;rw[e];by_cases q:(atKey xs k).isSome=true
 ·rw[if_pos q,if_pos q];exact r.repl k c
 ·rw[if_neg q,if_neg q];exact Paired.snoc r ⟨rfl,d,c⟩
def KT.keeps (r:KT H kvs xs)(a:∀b ys,H b=some (.tup ys)->H' b=some (.tup ys)):KT H' kvs xs:=
 Paired.bA3 r λ_ _ z=>⟨z.1,a _ _ z.2.1,z.2.2⟩
def aZ5 (b:HOk P w H h)(e:Rd H a u):dN P w H h a u:=e.ok b
def aAy (b:HOk P w H h)(e:Rd H a (.dK kvs)):kvs.length<=sizeLine/\(a == sysModules)=false/\∃vs,KV kvs vs/\h.DictOf (bJ P w) a vs:=
 show dN P w H h a (.dK kvs) from aZ5 b e
def aFm (b:HOk P w H h)(e:H a=some (.dK kvs)):kvs.length<=sizeLine/\(a == sysModules)=false/\∃vs,KV kvs vs/\h.DictOf (bJ P w) a vs:=aAy b (.inl e)
def yS (g:HOk P w H h)(e:H a=some (.tup (ks.map kV))):(tupleKind (bJ P w)).is h ks a:=by obtain⟨_,b,r,⟨o,d,f,n,c⟩,_⟩:=(show dN P w H h a (.tup (ks.map kV)) from g a _ e);exact⟨o,b.toArray,n,d,f,c,by simpa using aGa r⟩
def aCl (n:HOk P w H h)(e:Rd H a (.dT kvs)):kvs.length<=sizeLine/\(a == sysModules)=false /\
  ∃xs,KT H kvs xs/\h.DictOfH (tupleKind (bJ P w)) a xs:=by
 obtain⟨z,y,xs,r,o,d,g,j,i,c,k,f⟩:=(show dN P w H h a (.dT kvs) from aZ5 n e);refine⟨z,y,xs,r,o,d,g,j,i,c,k,λx hx=>?_,f⟩;have b:∀{l:List (List Key × V)} {m:List (List Key × Addr × Value)},KT H l m->∀x∈m,(tupleKind (bJ P w)).is h x.1 x.2.1:=by
  intro l m q
  induction q with
  |nil=>intro x hx;exact nomatch hx
  |@cons p q ps qs hq t ih=>
   intro x hx;rcases List.mem_cons.mp hx with e|hx
   ·subst e;exact yS n (by rw[<-hq.1];exact hq.2.1)
   ·exact ih x hx
 exact b r x hx
def bEd (b:HOk P w H h)(e:H a=some (.dT kvs)):kvs.length<=sizeLine/\(a == sysModules)=false /\
  ∃xs,KT H kvs xs/\h.DictOfH (tupleKind (bJ P w)) a xs:=aCl b (.inl e)
def aHo (H:Hp)(a:Addr)(y:V)(r:Option V):Prop:=
 (∃kvs k,Rd H a (.dK kvs)/\y=kV k/\r=fQ kvs k)\/∃kvs k b,Rd H a (.dT kvs)/\y=.ref b/\H b=some (.tup (k.map kV))/\r=fQ kvs k
def aA8 (H:Hp)(a:Addr)(y v:V)(H':Hp):Prop:=
 (∃kvs k,H a=some (.dK kvs)/\y=kV k/\kvs.length<sizeLine/\H'=upd H a (.dK (putK kvs k v))) \/
 ∃kvs k b,H a=some (.dT kvs)/\y=.ref b/\H b=some (.tup (k.map kV))/\kvs.length<sizeLine/\H'=upd H a (.dT (putK kvs k v))
theorem aA8.k {H:Hp}{a:Addr}{kvs:List (Key × V)}{k:Key}{v:V}(e:H a=some (.dK kvs))(b:kvs.length<sizeLine):aA8 H a (kV k) v (upd H a (.dK (putK kvs k v))):=.inl ⟨kvs,k,e,rfl,b,rfl⟩
def Inv.big (I:Inv X bF3 σ H s):sysModules<s.heap.objs.size:=by have h:=(I.mod.glob.keeps I.bk).lt;exact bEP (by decide) h
def aSm (r:A.units+1<cLine)(I:Inv X bF3 σ H s)(g:aHo H a y (some v))(q:RelV y u)(h:∀w' s',Inv X bF3 σ H s'->RelV v w'->Q w' s') :
  wpAny (model X.prog X.w) A (getItem (.ref a) u) Q E s:=by
 rcases g with⟨i,k,e,n,l⟩|⟨i,k,b,e,n,eb,l⟩
 ·subst n;obtain⟨z,hd,x,c,f⟩:=aAy I.hok e;obtain⟨w',m,d⟩:=oZ.some_of (by rw[l];exact c.val k);exact wpAny_getItem_of (aA4 q) f.mapOf m (h w' _ (I.tok _) d)
 ·subst n;cases (show u=Value.ref b from q);obtain⟨z,hd,t,c,f⟩:=aCl I.hok e;obtain⟨w',m,d⟩:=oZ.some_of (by rw[l];exact c.val k);obtain⟨p,o,j⟩:=Option.map_eq_some_iff.mp m;refine wpAny_getItem_heap (tupleKind_room_in1 r) (yS I.hok eb) f o ?_;rw[j];exact h w' _ (I.tok _) d
def bFp (p:A.units+1<cLine)(I:Inv X bF3 σ H s)(g:aHo H a y o)(j:RelV y u)(h:∀s',Inv X bF3 σ H s'->Q (.bool o.isSome) s') :
  wpAny (model X.prog X.w) A (compareOp .In u (.ref a)) Q E s:=by
 rcases g with⟨f,k,e,i,l⟩|⟨f,k,b,e,i,eb,l⟩
 ·subst i;obtain⟨z,hd,n,c,d⟩:=aAy I.hok e;refine wpAny_in_of (aA4 j) hd d.mapOf ?_;rw[<-(c.val k).oV,<-l];exact h _ (I.tok _)
 ·subst i;cases (show u=Value.ref b from j);obtain⟨z,hd,m,c,d⟩:=aCl I.hok e;refine wpAny_in_heap (tupleKind_room_in1 p) (yS I.hok eb) hd d ?_;have q:=(c.val k).oV;rw[bFT] at q;rw[<-q,<-l];exact h _ (I.tok _)
def aZc (p:A.units+1<cLine)(I:Inv X bF3 σ H s)(g:aHo H a y o)(j:RelV y u)(h:∀s',Inv X bF3 σ H s'->Q (.bool (!o.isSome)) s') :
  wpAny (model X.prog X.w) A (compareOp .NotIn u (.ref a)) Q E s:=by
 rcases g with⟨f,k,e,i,l⟩|⟨f,k,b,e,i,eb,l⟩
 ·subst i;obtain⟨z,hd,n,c,d⟩:=aAy I.hok e;refine wpAny_notIn_of (aA4 j) hd d.mapOf ?_;rw[<-(c.val k).oV,<-l];exact h _ (I.tok _)
 ·subst i;cases (show u=Value.ref b from j);obtain⟨z,hd,m,c,d⟩:=aCl I.hok e;refine wpAny_notIn_heap (tupleKind_room_in1 p) (yS I.hok eb) hd d ?_;have q:=(c.val k).oV;rw[bFT] at q;rw[<-q,<-l];exact h _ (I.tok _)
def aH7 (I:Inv X bF3 σ H s)(e:Mut (H a))(g:Heap.SameBut a s.heap h')(f:∃q,h'.get? a=some q)(c:dN X.prog X.w (upd H a ob) h' a ob) :
  Inv X bF3 σ (upd H a ob) { s with heap:=h',toks:=t' }:=
 I.write e (.inl rfl) (λb q d z=>(g.2 b d).trans z) f c
def aWk (z:kvs.length<=sizeLine)(hd:(a == sysModules)=false)(b:KV kvs vs)(c:h'.DictOf (bJ P w) a vs) :
  dN P w H' h' a (.dK kvs):=⟨z,hd,vs,b,c⟩
def aSr (T:A.units+1<cLine)(I:Inv X bF3 σ H s)(g:aA8 H a y v H')(O:RelV y u)(J:RelV v r)(h:∀s',Inv X bF3 σ H' s'->Q () s') :
  wpAny (model X.prog X.w) A (setItem (.ref a) u r) Q E s:=by
 rcases g with⟨d,k,e,t,l,p⟩|⟨d,k,b,e,t,eb,l,p⟩
 ·subst t p;obtain⟨z,hd,R,f,n⟩:=aFm I.hok e;have M:R.length<=sizeLine:=by rw[<-f.length];exact z
  have m:(putK d k v).length<=sizeLine:=by have:=rG d k v;lia
  refine wpAny_setItem_pairs (aA4 O) n λx i o=>h _ ?_;have D:∃q,x.get? a=some q:=let ⟨q,_,_,j,_⟩:=i;⟨q,j⟩
  exact aH7 I (by rw[e];exact True.intro) o D (aWk m hd (f.put k J) i)
 ·subst t p;cases (show u=Value.ref b from O);obtain⟨z,hd,N,f,n⟩:=bEd I.hok e;have M:N.length<=sizeLine:=by rw[<-Paired.length f];exact z
  have m:(putK d k v).length<=sizeLine:=by have:=rG d k v;lia
  refine wpAny_setItem_heap (tupleKind_room_in1 T) (yS I.hok eb) n λx i o=>h _ ?_;obtain⟨q,F,K,j,L,C,P,_,G⟩:=i;refine aH7 I (by rw[e];exact True.intro) o ⟨q,j⟩ ⟨m,hd,_,(f.put k eb J).keeps λc S B=>?_,q,F,K,j,L,C,P,G⟩;rw[aQ (aKz B e (λz=>nomatch z))];exact B
def bE6 {v:V}{more:List Value}{Q:bF0}(I:Inv X bF3 σ H s)(e:H a=some (.dK kvs))(g:RelV (kV k) u)(l:fQ kvs k=some v)(B:more=[]\/∃x,more=[x])
  (h:∀w' s',Inv X bF3 σ (upd H a (.dK (mD kvs k))) s'->RelV v w'->Q w' s'):wpAny (model X.prog X.w) A (call (.builtin "dict.pop") (.ref a::u::more)) Q E s:=by
 obtain⟨z,hd,j,b,f⟩:=aFm I.hok e;obtain⟨w',y,d⟩:=oZ.some_of (v:=v) (o:=valueAt j k) (by rw[<-l];exact b.val k);have r:(keyPart u).isSome=true:=by
  cases k with
  |inl i=>obtain⟨t,q⟩:=(show ∃t,u=Value.int i t from g);subst q;rfl
  |inr x=>obtain⟨t,q⟩:=(show ∃t,u=Value.str x t from g);subst q;rfl
 have p:argsOk "dict.pop" ⟨.ref a::u::more,[]⟩:=by
  rcases B with q|⟨x,q⟩
  ·subst q;exact PySem.F.args_dict_pop_2 _ _
  ·subst q;exact PySem.F.args_dict_pop_3 _ _ _
 refine call_meetsIn PySem.F.slot_dict_pop f.typeIs PySem.F.entry_dict_pop p (meets_dict_pop_there (bJ X.prog X.w) a (aA4 g) more B r)
  ⟨j,w',f,by rw[<-b.length];exact z,y,λC c n=>h w' _ ?_ d⟩
 have m:∃q,C.get? a=some q:=let ⟨q,_,_,hq,_⟩:=c;⟨q,hq⟩
 exact aH7 I (by rw[e];exact True.intro) n m (aWk (bAI (aKn kvs k) z) hd (b.drop k) c)
def bE7 (I:Inv X bF3 σ H s)(e:Rd H a (.dK kvs))(h:∀t s',Inv X bF3 σ H s'->Q (.int kvs.length t) s'):wpAny (model X.prog X.w) A (call (.builtin "len") [.ref a]) Q E s:=by obtain⟨z,hd,d,b,c⟩:=aAy I.hok e;refine call_len_dict hd c (by rw[<-b.length];rw[sizeLine_eq] at z;lia) ?_;rw[<-b.length];exact h _ _ (I.tok _)
def bB5 (i:Expr):Prop:=∀ov iv,subscripted i false ov iv=operate [ov,iv] (getItem ov iv)
def aZj {prog:Program}{w:World}{A:Around}{E:bF0}{s:Shared}{env:Env}{d c:Expr}{pos:Pos}{T id:String}{Q:bF0}
  (k:typeLookup (.type T) "__getitem__"=pure (some (.builtin id))) (l:bB5 c)
  (h:wpAny (model prog w) A (eval d env) (λo s₁=>wpAny (model prog w) A (eval c env) (λi s₂=>s₂.TypeIs o T/\wpAny (model prog w) A (getItem o i) Q E s₂) E s₁) E s) :
  wpAny (model prog w) A (eval (.Subscript d c pos) env) Q E s:=by
 refine Subscript_ (bBQ h (λo s₁ g=>bBQ g (λi s₂ b=>?_) λ_ _ x=>x) λ_ _ x=>x);obtain⟨e,b⟩:=b;unfold subscriptTail;refine b7 ?_;rw[getitemInPython_of_ne e.not_modules];refine b7 (wpAny_specialOf e k ?_);have a:wpAny (model prog w) A (subscripted c false o i) (λr f=>wpAny (model prog w) A (letTemporaryGo d o r >>= λ_=>pure r) Q E f) E s₂:=by rw[l o i];exact wpAny_operating (bBQ b (λr f j=>b7 (wpAny_letTemporaryGo (d8 j))) λ_ _ x=>x)
 first
  |exact d8 (b7 a)
  |exact b7 (d8 (b7 a))
  |exact b7 a
def aLv (I:Inv X bF3 σ H s)(g:aHo H a y o):s.TypeIs (.ref a) "dict":=by
 rcases g with⟨d,k,e,_,_⟩|⟨d,k,b,e,_,_,_⟩
 ·obtain⟨_,_,h,_,c⟩:=aAy I.hok e;exact c.typeIs
 ·obtain⟨_,_,f,_,c⟩:=aCl I.hok e;exact c.typeIs
def aZw (td ty:TE):TE:=fun σ H Q=>td σ H λx H1=>ty σ H1 λy H2=>∃a v,x=.ref a/\aHo H2 a y (some v)/\Q v H2
def bEq (ty td:TE):TE:=fun σ H Q=>ty σ H λy H1=>td σ H1 λx H2=>∃a o,x=.ref a/\aHo H2 a y o/\Q (.bl o.isSome) H2
def aQb (ty td:TE):TE:=fun σ H Q=>ty σ H λy H1=>td σ H1 λx H2=>∃a o,x=.ref a/\aHo H2 a y o/\Q (.bl (!o.isSome)) H2
def aZ7 (td ty tv:TE):TS:=λD σ H=>tv σ H λv H1=>td σ H1 λx H2=>ty σ H2 λy H3=>∃a H4,x=.ref a/\aA8 H3 a y v H4/\D.nx σ H4
def aZe (B:X.A.units+1<cLine)(ho:PE X o td)(hi:PE X i ty)(t:bB5 i):PE X (.Subscript o i pos) (aZw td ty):=by intro b s σ H Q I h;refine aZj PySem.F.slot_dict_getitem.lookup t (thn (ho b s σ H _ I h) λu q ⟨x,e,m,l,j⟩=>thn (hi b q σ e _ m j) λw C ⟨y,n,d,r,a,v,p,g,f⟩=>?_);subst p;obtain rfl:u=Value.ref a:=l;exact⟨aLv d g,aSm B d g r λD z k c=>⟨v,n,k,c,f⟩⟩
def bCc (w:X.A.units+1<cLine)(hi:PE X i ty)(ho:PE X o td):PC X .In i o (bEq ty td):=by intro b s σ H Q I h;refine thn (hi b s σ H _ I h) λt q ⟨y,c,l,r,e⟩=>thn (ho b q σ c _ l e) λu z ⟨x,m,f,k,a,p,n,g,d⟩=>?_;subst n;obtain rfl:u=Value.ref a:=k;exact bFp w f g r λv j=>⟨.bl p.isSome,m,j,rfl,d⟩
def aSn (w:X.A.units+1<cLine)(hi:PE X i ty)(ho:PE X o td):PC X .NotIn i o (aQb ty td):=by intro b s σ H Q I h;refine thn (hi b s σ H _ I h) λt q ⟨y,c,l,r,e⟩=>thn (ho b q σ c _ l e) λu z ⟨x,m,f,k,a,p,n,g,d⟩=>?_;subst n;obtain rfl:u=Value.ref a:=k;exact aZc w f g r λv j=>⟨.bl (!p.isSome),m,j,rfl,d⟩
def aZs (G:X.A.units+1<cLine)(ho:PE X o td)(hi:PE X i ty)(J:PE X value tv)(E:swapsWith value (some (.Subscript o i pos')) pos.line X.env=pure false) :
  PS X (.Assign [.Subscript o i pos'] value pos) (aZ7 td ty tv):=by
 intro b s σ H D I h;refine wpAny_Assign_Subscript (thn (J b s σ H _ I h) λr w ⟨v,d,j,k,e⟩=>thn (ho b w σ d _ j e) λu B ⟨x,q,f,p,c⟩=>thn (hi b B σ q _ f c) λF L ⟨y,K,n,z,a,l,t,g,C⟩=>?_) E;subst t;obtain rfl:u=Value.ref a:=p;exact aSr G n g z k λM m=>⟨σ,l,m,C⟩
def aWz (h:Heap)(a:sysModules<h.objs.size):dN P w H (h.push { cls:=.type "dict",data:=.dict #[] }) h.objs.size (.dK []):=
 ⟨bAE _,beq_eq_false_iff_ne.mpr (Ne.symm (z9 a)),[],.nil,Heap.DictOf.new h⟩
def aW2:TE:=λ_ H Q=>∀p,H p=none->Q (.ref p) (upd H p (.dK []))
def aVh:PE X (.Dict [] [] pos) aW2:=λa s σ H Q I h=>
 wpAny_Dict_empty ⟨.ref s.heap.objs.size,_,I.laid (t':=s.toks) (λ_ _ q=>d7 _ q) (d9 _) (aWz s.heap I.big),rfl,h _ (I.hok.fresh (d9 _))⟩
def pF (kvs more:List (Key × V)):List (Key × V):=more.foldl (λacc kv=>putK acc kv.1 kv.2) kvs
def KV.merge:∀{more:List (Key × V)} {rs:List (Key × Value)} {kvs:List (Key × V)} {vs:List (Key × Value)},KV more rs->KV kvs vs->KV (pF kvs more) (merged vs rs):=by
 intro more rs kvs vs r;unfold KV at r
 induction r generalizing kvs vs with
 |nil=>intro q;exact q
 |@cons p q ps qs h t ih=>
  intro a;have e:KV (putK kvs p.1 p.2) (stored vs q.1 q.2):=by have:=a.put p.1 h.2;rw[<-h.1];exact this
  exact ih e
theorem nO:∀more kvs,(pF kvs more).length<=kvs.length+more.length
 |[],kvs=>by show kvs.length<=kvs.length+0;lia
 |p::r,kvs=>by have a:=nO r (putK kvs p.1 p.2);have b:=rG kvs p.1 p.2;show (pF (putK kvs p.1 p.2) r).length<=_;rw[j9];lia
structure M1 (X:Cx)(o:Expr)(m:Str)(apos:Pos)(e:Expr)(cpos:Pos):Prop where
 base:attributeBase o m X.env (eval o X.env)=eval o X.env
 few:((backTo cpos (starEach [e] X.env)).all (λx=>!x.1) && (backToKw cpos (keywordEach [] X.env)).all (λx=>x.1.isSome)
  && decide (([e]:List Expr).length+([]:List Keyword).length+(if ([]:List Keyword).isEmpty then 0 else 1)<30))=true
 line:(apos.endLine == cpos.line)=true
 trees:backTo cpos (starEach [e] X.env)=[(false,eval e X.env)]
def IsD (H:Hp)(a:Addr):Prop:=(∃kvs,Rd H a (.dK kvs))\/∃kvs,Rd H a (.dT kvs)
def bBa (I:Inv X bF3 σ H s)(d:IsD H a) :
  s.TypeIs (.ref a) "dict"/\(∀b,Value.ref a=.ref b->∃ob,s.heap.get? b=some ob/\ob.dict=none)/\(a == sysModules)=false:=by
 rcases d with⟨f,e⟩|⟨f,e⟩
 ·obtain⟨_,hd,j,_,c⟩:=aAy I.hok e;refine⟨c.typeIs,λb q=>?_,hd⟩;cases q;obtain⟨ob,_,_,g,h,_⟩:=c;exact⟨ob,g,h.2.1⟩
 ·obtain⟨_,hd,i,_,c⟩:=aCl I.hok e;refine⟨c.typeIs,λb q=>?_,hd⟩;cases q;obtain⟨ob,_,_,g,h,_⟩:=c;exact⟨ob,g,h.2.1⟩
def bAw (p:A.units+1<cLine)(I:Inv X bF3 σ H s)(g:aHo H a y o)(m:RelV y u)(h:∀w' s',Inv X bF3 σ H s'->RelV (o.getD .non) w'->Q w' s') :
  wpAny (model X.prog X.w) A (call (.builtin "dict.get") [.ref a,u]) Q E s:=by
 rcases g with⟨f,k,e,i,l⟩|⟨f,k,b,e,i,eb,l⟩
 ·subst i;obtain⟨z,hd,n,c,d⟩:=aAy I.hok e;refine call_meetsIn PySem.F.slot_dict_get d.typeIs PySem.F.entry_dict_get (PySem.F.args_dict_get_2 _ _) (meets_dict_get (bJ X.prog X.w) a (aA4 m) hd) ⟨_,d.mapOf,h _ _ (I.tok _) ?_⟩;rw[l];exact (c.val k).getD rfl
 ·subst i;cases (show u=Value.ref b from m);obtain⟨z,hd,j,c,d⟩:=aCl I.hok e;refine call_meetsIn PySem.F.slot_dict_get d.typeIs PySem.F.entry_dict_get (PySem.F.args_dict_get_2 _ _) (meetsH_dict_get (tupleKind (bJ X.prog X.w)) a b hd) ⟨tupleKind_room_in1 p,k,j,yS I.hok eb,d,h _ _ (I.tok _) ?_⟩;rw[l];exact (c.val k).getD rfl
def aWu (td ty:TE):TE:=fun σ H Q=>td σ H λx H1=>∃a,x=.ref a/\IsD H1 a/\ty σ H1 λy H2=>∃o,aHo H2 a y o/\Q (o.getD .non) H2
def aUl (C:X.A.units+1<cLine)(ho:PE X o td)(G:PE X e ty)(m:M1 X o "get" apos e cpos):PE X (.Call (.Attribute o "get" apos) [e] [] cpos) (aWu td ty):=by intro b s σ H Q I h;refine wpAny_Call_method m.base m.few m.line PySem.F.plainAttrs_dict PySem.F.slot_dict_get PySem.F.type_dict_get (thn (ho b s σ H _ I h) λu w ⟨x,j,f,r,a,v,d,n⟩=>?_);subst v;obtain rfl:u=Value.ref a:=r;obtain⟨k,l,_⟩:=bBa f d;refine⟨k,l,?_⟩;rw[m.trees];refine bDM rfl (bFF (bBX (thn (G b w σ j _ f n) λB K ⟨y,t,p,z,J,g,i⟩=>bEM ?_)));exact bAw C p g z λE D q c=>⟨_,t,q,c,i⟩
def aSs:cF X (.builtin "len") (λxs H Q=>∃a kvs,xs=[V.ref a]/\H a=some (.dK kvs)/\Q (.int kvs.length) H):=by intro c s σ H xs g Q I r h;obtain⟨a,kvs,rfl,b,q⟩:=h;obtain⟨u,rfl,d⟩:=vals1 r;cases d;exact bE7 I (.inl b) λt f e=>⟨.int kvs.length,H,e,⟨t,rfl⟩,q⟩
section
variable {κ:Type}[DecidableEq κ]
def aYw {kvs:List (κ × V)}{k:κ}{v:V}(h:fQ kvs k=some v):k∈kvs.map (·.1):=by
 have q:(kvs.any λb=>decide (b.1=k))=true:=by rw[nY,h];all_goals rfl
 obtain⟨p,a,e⟩:=List.any_eq_true.mp q;exact List.mem_map.mpr ⟨p,a,of_decide_eq_true e⟩
def aR5 {p:κ × V}{r:List (κ × V)}{k:κ}(e:p.1=k):mD (p::r) k=mD r k:=by unfold mD;rw[bCL,if_neg (by simp[e])]
def aRi {p:κ × V}{r:List (κ × V)}{k:κ}(e:¬ p.1=k):mD (p::r) k=p::mD r k:=by unfold mD;rw[bCL,if_pos (by simp[e])]
end
structure VE (X:Cx)(e:Expr)(t:TE):Prop where
 out:PE X e t
structure VT (X:Cx)(e:Expr)(t:TT):Prop where
 out:PT X e t
structure VW (X:Cx)(e:Expr)(t:TT):Prop where
 out:PW X e t
structure VA (X:Cx)(es:List Expr)(t:TA):Prop where
 out:PA X es t
structure VS (X:Cx)(st:Stmt)(t:TS):Prop where
 out:PS X st t
structure VSs (X:Cx)(st:List Stmt)(t:TS):Prop where
 out:PSs X st t
structure VI (X:Cx)(tg iter:Expr)(t:TI):Prop where
 out:PI X tg iter t
structure VG (X:Cx)(tg:Expr)(t:TG):Prop where
 out:PG X tg t
structure VGs (X:Cx)(tg:List Expr)(t:TGs):Prop where
 out:PGs X tg t
structure VO (X:Cx)(e:Option Expr)(t:TO):Prop where
 out:PO X e t
structure VF (X:Cx)(ifs:List Expr)(t:TT):Prop where
 out:aSw X ifs t
section
variable {X:Cx}
def vv (i:Nat)(b:X.N[i]?=some x:=by rfl)(c:Vis X.env.scope x:=by trivial)(hd:(x == ("__debug__":Str))=false:=by decide)
  (a:(x == ("__classdict__":Str))=false:=by decide):VE X (.Name x pos) (aKf i):=⟨pv i b c hd a⟩
def rN (b:Gl X x)(a:∃u,X.mg x=some u/\RelV v u)(hd:(x == ("__debug__":Str))=false:=by decide):VE X (.Name x pos) (tC v):=⟨bEl b a hd⟩
def fK (c:Gl X x)(d:X.mg x=none)(a:bootBuiltins x=some u)(r:RelV v u)(b:x≠"__name__":=by decide)(hd:(x == ("__debug__":Str))=false:=by decide):VE X (.Name x pos) (tC v):=⟨aYk c d a r b hd⟩
def aB {i j}:VE X (.Constant (.int i) j pos) (tC (.int i)):=⟨bDa⟩
def jL {b j}:VE X (.Constant (.bool b) j pos) (tC (.bl b)):=⟨bEs⟩
def jV {j}:VE X (.Constant .none j pos) (tC .non):=⟨bAl⟩
def bH {x j}:VE X (.Constant (.str x) j pos) (tC (.str x)):=⟨bBm⟩
def bB (ho:OpR X (binaryOp op) r)(c:VE X a ta)(d:VE X b tb):VE X (.BinOp a op b pos) (tOp r ta tb):=⟨bEc ho c.1 d.1⟩
def aZ6 (ho:UnR X (unaryOp op) r)(b:VE X a ta):VE X (.UnaryOp op a pos) (tUn r ta):=⟨bEb ho b.1⟩
def pG (ho:OpR X (compareOp op) r)(c:VE X a ta)(e:VE X b tb)(d:behindInMarks op b=false):VE X (.Compare a [op] [b] pos) (tOp r ta tb):=⟨aX1 ho c.1 e.1 d⟩
def aIa (ho:OpR X (compareOp op) r)(c:VE X a ta)(e:VE X b tb)(d:behindInMarks op b=false):VT X (.Compare a [op] [b] pos) (aJ5 (tOp r ta tb)):=⟨aY0 ho c.1 e.1 d⟩
def aTc (ho:OpR X (compareOp op) r)(d:OpR X (compareOp op') r')(e:VE X a ta)(f:VE X b tb)(h:VE X c tc)
  (g:lastMarks [op,op'] [b,c]=false:=by with_unfolding_all rfl):VE X (.Compare a [op,op'] [b,c] pos) (aG3 r r' ta tb tc):=⟨aU0 ho d e.1 f.1 h.1 g⟩
def aCm (ho:OpR X (compareOp op) r)(d:OpR X (compareOp op') r')(e:VE X a ta)(f:VE X b tb)(h:VE X c tc)
  (g:lastMarks [op,op'] [b,c]=false:=by with_unfolding_all rfl):VT X (.Compare a [op,op'] [b,c] pos) (aJ5 (aG3 r r' ta tb tc)):=⟨aTl ho d e.1 f.1 h.1 g⟩
def iU {op}(h:VE X a te):VE X (.BoolOp op [a] pos) te:=⟨bC5 h.1⟩
def iI (c:VE X a ta)(d:VE X (.BoolOp .And (b::rest) pos) tb):VE X (.BoolOp .And (a::b::rest) pos) (aZ3 ta tb):=⟨bCw c.1 d.1⟩
def bAd (c:VE X a ta)(d:VE X (.BoolOp .Or (b::rest) pos) tb):VE X (.BoolOp .Or (a::b::rest) pos) (bEw ta tb):=⟨bEn c.1 d.1⟩
def bA5 (b:VE X a ta):VE X (.UnaryOp .Not a pos) (aZ4 ta):=⟨bCv b.1⟩
def aLl (e:VT X c tA)(d:VE X a ta)(f:VE X b tb):VE X (.IfExp c a b pos) (tIf tA ta tb):=⟨aVb e.1 d.1 f.1⟩
def yP:VA X [] aBl:=⟨bBp⟩
def aH (b:VE X e te)(c:VA X es t)(a:cW e=true:=by rfl):VA X (e::es) (dZ te t):=⟨bFa b.1 c.1 a⟩
def bD2 (G:Ok X.prog X.w X.K X.mg X.base k x ps sp)(f:Room k X.A)(g:Gl X x)(d:VA X (e::es) t)(a:(x == ("__debug__":Str))=false:=by decide)
  (c:cW e=true:=by rfl) (b:(backTo pos (starEach es X.env)).any (·.1)=false:=by rfl) :
  VE X (.Call (.Name x p) (e::es) [] pos) (aAi sp [] E0 t):=⟨bEm G f g d.1 a (aU c) b⟩
def bCb (G:Ok X.prog X.w X.K X.mg X.base k x ps sp)(c:Room k X.A)(b:Gl X x)(a:(x == ("__debug__":Str))=false:=by decide) :
  VE X (.Call (.Name x p) [] [] pos) (aAi sp [] E0 aBl):=⟨bDe G c b a⟩
def aK {id:String}{r:List V->Hp->VK->Prop}(i:cF X (.builtin id) r)(f:Gl X x)(j:X.mg x=none)(h:bootBuiltins x=some (.builtin id))(g:VA X (e::es) t)(d:x≠"__name__":=by decide)(b:(x == ("__debug__":Str))=false:=by decide)
  (c:cW e=true:=by rfl) (a:(backTo pos (starEach es X.env)).any (·.1)=false:=by rfl):VE X (.Call (.Name x p) (e::es) [] pos) (tCB r t):=⟨aVr i f j h g.1 d b (aU c) a⟩
def cI (i:cF X (.type T) r)(f:Gl X x)(j:X.mg x=none)(h:bootBuiltins x=some (.type T))(g:VA X (e::es) t)(d:x≠"__name__":=by decide)(b:(x == ("__debug__":Str))=false:=by decide)
  (c:cW e=true:=by rfl) (a:(backTo pos (starEach es X.env)).any (·.1)=false:=by rfl):VE X (.Call (.Name x p) (e::es) [] pos) (tCB r t):=⟨aRv i f j h g.1 d b (aU c) a⟩
def rZ {o:Expr}{to:TE}{name:Str}{apos cpos:Pos}{T id:String}{r:V->List V->Hp->VK->Prop}(h:PlainAttrs T)(slot:Slot T name id)(f:typeOf (.builtin id)=pure (.type "method_descriptor"))(j:MtR X id r)(ho:VE X o to)(i:VA X (e::es) t)
  (c:attributeBase o name X.env (eval o X.env)=eval o X.env:=by rfl)
  (d:((backTo cpos (starEach (e::es) X.env)).all (λx=>!x.1) && (backToKw cpos (keywordEach [] X.env)).all (λx=>x.1.isSome)
   && decide ((e::es).length+([]:List Keyword).length+(if ([]:List Keyword).isEmpty then 0 else 1)<30))=true:=by rfl)
  (b:(apos.endLine == cpos.line)=true:=by rfl) (g:cW e=true:=by rfl) (a:(backTo cpos (starEach es X.env)).any (·.1)=false:=by rfl) :
  VE X (.Call (.Attribute o name apos) (e::es) [] cpos) (tBM X.K T r to t):=⟨bEk h slot f j ho.1 i.1 c d b (aU g) a⟩
def rR (d:VE X a ta)(f:VE X b tb)(e:aJd b) :
  VE X (.Subscript a b pos) (tOp (λx y H Q=>∃z i c,x=.str z/\y=.int i/\0<=i/\i<2 ^ 63/\i<z.length/\z.cps[i.toNat]?=some c/\Q (.str ⟨#[c]⟩) H) ta tb):=⟨aKq d.1 f.1 e⟩
def dO:VO X none aP9:=⟨aX3⟩
def dF (h:VE X e te):VO X (some e) (aZ2 te):=⟨aXz h.1⟩
def cR {r:V->Option Int->Option Int->Hp->VK->Prop}{lo hi:Option Expr}{tl th:TO}{p2:Pos}(c:SlR X r)(b:VE X e te)(a:VO X lo tl)(d:VO X hi th):VE X (.Subscript e (.Slice lo hi none p2) pos) (tSl r te tl th):=⟨aTk c b.1 a.1 d.1⟩
def bDw (f:IxR X r)(c:VE X a ta)(e:VE X b tb)(d:aI2 b):VE X (.Subscript a b pos) (tOp r ta tb):=⟨bD6 f c.1 e.1 d⟩
def aWl:VE X (.Dict [] [] pos) aW2:=⟨aVh⟩
def VE.imp {t t':TE}(h:VE X e t)(k:∀σ H Q,t' σ H Q->t σ H Q):VE X e t':=⟨PE.imp h.1 k⟩
def aBu (b:VT X a tA):VW X (.BoolOp .And [a] pos) tA:=⟨aY6 b.1⟩
def eE (b:VT X a tA):VW X (.BoolOp .Or [a] pos) tA:=⟨bC8 b.1⟩
def aDy (c:VT X a tA)(d:VW X (.BoolOp .And (b::rest) pos) tB'):VW X (.BoolOp .And (a::b::rest) pos) (bEa tA tB'):=⟨bBu c.1 d.1⟩
def fG (c:VT X a tA)(d:VW X (.BoolOp .Or (b::rest) pos) tB'):VW X (.BoolOp .Or (a::b::rest) pos) (tOr tA tB'):=⟨bD0 c.1 d.1⟩
def VW.pt (h:VW X e tA):VT X e tA:=⟨h.1.pt⟩
def cL (b:VT X a tA):VT X (.UnaryOp .Not a pos) (bC0 tA):=⟨bA4 b.1⟩
def cC (h:VE X e te)(a:∀whole,isTrue e X.env whole=(do let v <-whole;standAt e.pos;holding [v] (truthy v)):=by intro _;rfl):VT X e (tB te):=⟨bAu h.1 a⟩
def aK6 (b:VE X a ta)(c:∀whole,isTrue a X.env whole=(do let v <-whole;standAt a.pos;holding [v] (truthy v)):=by intro _;rfl) :
  VT X a (fun σ H Q=>ta σ H λx H'=>∃k,bBd X.K x H' k/\Q k H'):=⟨aT9 b.1 c⟩
variable {st:Stmt}{rest:List Stmt}{u w':TS}
def aW:VSs X [] mJ:=⟨aZq⟩
def aC (a:VS X st u)(b:VSs X rest w'):VSs X (st::rest) (aBi u w'):=⟨aVe a.1 b.1⟩
def aD (a:VS X st u):VSs X [st] u:=⟨aXm a.1⟩
def aM (a:VE X e te):VS X (.Return (some e) pos) (pZ te):=⟨bAh a.1⟩
def bO {a b:List Stmt}(e:VT X c tA)(d:VSs X a u)(f:VSs X b w'):VS X (.If c a b pos) (aR3 tA u w'):=⟨bEi e.1 d.1 f.1⟩
def bAy (d:X.N.Nodup)(hi:X.N[i]?=some x)(b:Loc X.env.scope x)(c:VE X e te)(f:swapsWith e (some (.Name x pos')) pos.line X.env=pure false:=by rfl)(a:X.fn x=true\/X.env.scope.names.lookup x=some .local:=by first|exact .inl rfl|exact .inr rfl|assumption) :
  VS X (.Assign [.Name x pos'] e pos) (vB te (bR i)):=⟨bAv d hi b c.1 f a⟩
def cM (b:VE X e te)(a:swapsWith e none pos.line X.env=pure false:=by rfl):VS X (.Expr e pos) (aU7 te):=⟨aYs b.1 a⟩
def gG {tg iter:Expr}{body:List Stmt}{wi:TI}{g:TG}{tb:TS}(a:PassesOwn (model X.prog X.w) X.A X.env X.xe)(e:X.calm=true)(hi:VI X tg iter wi)(c:VG X tg g)(d:VSs X body tb)
  (b:∀x,foldedSetIterable iter X.env x=pure x:=by intro _;rfl):VS X (.For tg iter body [] pos) (bC7 wi g tb):=⟨bB3 a e hi.1 c.1 d.1 b⟩
def aQl (b:X.N.Nodup)(hi:X.N[i]?=some x)(c:Loc X.env.scope x)(a:X.fn x=true\/X.env.scope.names.lookup x=some .local:=by first|exact .inl rfl|exact .inr rfl|assumption):VG X (.Name x pos) (bR i):=⟨aYz b hi c a⟩
def fP:VGs X [] aRq:=⟨aZp⟩
def bC {t:TG}{u:TGs}(a:VG X e t)(c:VGs X es u)(b:(assignEach (e::es) X.env).map (·.2)=assign e X.env::(assignEach es X.env).map (·.2):=by rfl):VGs X (e::es) (uF t u):=⟨aUs a.1 c.1 b⟩
def uZ {k:Nat}{t:TGs}{n:Nat}(c:X.calm=true)(h:VGs X es t)(b:(assignEach es X.env).length=n:=by rfl)(a:(assignEach es X.env).findIdx? (·.1)=none:=by rfl):VG X (.Tuple es k pos) (aPc X.K n t):=⟨bBl c h.1 b a⟩
def fM (h:VE X e te):VI X tg e (aLj X.K te):=⟨aZm h.1⟩
def nU (h:VE X e te):VI X tg e (aZa X.K te):=⟨bCi h.1⟩
def aNd (h:VE X e te):VI X tg e (bDg te):=⟨bBe h.1⟩
def gA (d:Gl X "range")(c:X.mg "range"=none)(e:VA X [a] t)(b:cW a=true:=by rfl):VI X tg (.Call (.Name "range" p) [a] [] pos) (aVu t):=⟨aS6 d c e.1 (aU b)⟩
def fH:VF X [] mG:=⟨bB7⟩
def nJ (h:VT X c tA):VF X [c] tA:=⟨bAs h.1⟩
def cJ
  (C:vV scope N) (b:∀y,(y,NameKind.free)∈scope.names->X.env.kindOf y=some .cell\/X.env.kindOf y=some .free) (d:X.calm=true)
  (hi:VI X target iter wi)
  (a:∀cl s H fp,VG (cxC X N scope cl s H fp) target g/\VF (cxC X N scope cl s H fp) ifs tt/\VE (cxC X N scope cl s H fp) elt te)
  (c:∀x,foldedSetIterable iter X.env x=pure x:=by intro _;rfl) :
  VE X (.ListComp elt [⟨target,iter,ifs,0⟩] scope pos) (jB X scope N wi g tt te):=
 ⟨aXg C b d hi.1 (λcl s H fp=>⟨(a cl s H fp).1.1,(a cl s H fp).2.1.1,(a cl s H fp).2.2.1⟩) c⟩
end
section
variable {P:Program}{w:World}{K:bFZ}{mg:bF2}{base:Heap}
def Fun.okV {x qual:Str}{st:Stmt}{f:Addr}{fd:FuncData}{N ps:List Str}{k:Nat}{sp:Sp}(F:Fun K x qual st f fd)(S:aJ N ps (aF st))(c:∀vs H Q E,sp vs H Q E->vs.length=ps.length)
  (a:∀(cdv:Value) (A:Around) (outer:List Env) (s:Shared) (H:Hp) (vs:List V) (Q:VK) (E:XK),Room k (A.deeper (envOfC qual (aF st) s.heap.objs.size f cdv))->sp vs H Q E ->
   ∃t,VSs (aB3 CX0 P w K mg base N qual (aF st) f cdv A outer s H E).nox (fJ st) t/\t { nx:=λ_ H'=>Q .non H',rt:=Q } (start N vs) H):kZ P w K mg base CX0 (k+1) f fd ps sp:=
 F.ok S c λcdv A outer s H vs Q E b h=>let ⟨t,h1,h2⟩:=a cdv A outer s H vs Q E b h;⟨t,h1.1,h2⟩
def Ok.ofV {x:Str}{st:Stmt}{N ps:List Str}{k:Nat}{sp:Sp}(D:Dn K mg x st ps)(S:aJ N ps (aF st))(c:∀vs H Q E,sp vs H Q E->vs.length=ps.length)
  (a:∀(f:Addr) (cdv:Value) (A:Around) (outer:List Env) (s:Shared) (H:Hp) (vs:List V) (Q:VK) (E:XK),Room k (A.deeper (envOfC x (aF st) s.heap.objs.size f cdv))->sp vs H Q E ->
   ∃t,VSs (aB3 CX0 P w K mg base N x (aF st) f cdv A outer s H E).nox (fJ st) t/\t { nx:=λ_ H'=>Q .non H',rt:=Q } (start N vs) H):Ok P w K mg base (k+1) x ps sp:=
 Ok.of D S c λf cdv A outer s H vs Q E b h=>let ⟨t,h1,h2⟩:=a f cdv A outer s H vs Q E b h;⟨t,h1.1,h2⟩
end
def Held (P:Program)(w:World)(K:bFZ)(mg:bF2)(base:Heap)(k:Nat)(f:Addr)(ps:List Str)(sp:Sp):Prop:=
 ∃fd,PySem.W.keepIn K (.ref f)=true/\Binds K fd ps []/\kZ P w K mg base CX0 k f fd ps sp
def Ok.held {P:Program}{w:World}{K:bFZ}{mg:bF2}{base:Heap}{k:Nat}{x:Str}{ps:List Str}{sp:Sp}(G:Ok P w K mg base k x ps sp):∃f,mg x=some (.ref f)/\Held P w K mg base k f ps sp:=by obtain⟨f,a,c,e,b,d⟩:=G;exact⟨f,c,a,e,b,d⟩
def aTa (P:Program)(w:World)(K:bFZ)(mg:bF2)(base:Heap)(k:Nat)(te:TE)(t:TA):TE:=fun σ H Q=>te σ H λv H1=>∃f ps sp,v=.ref f/\Held P w K mg base k f ps sp/\t σ H1 λvs H2=>sp vs H2 Q E0
def aYl (z:Room k X.A)(G:PE X (.Name x p) te)(D:PA X (e::es) t)
  (B:starEach (e::es) X.env=(false,eval e X.env)::starEach es X.env:=by rfl) (n:(backTo pos (starEach es X.env)).any (·.1)=false:=by rfl) :
  PE X (.Call (.Name x p) (e::es) [] pos) (aTa X.prog X.w X.K X.mg X.base k te t):=by
 intro a s σ H Q I h;refine bBT (thn (G a s σ H _ I h) λu o ⟨v,g,c,m,j⟩=>?_);obtain⟨f,N,C,rfl,⟨y,d,l,F⟩,q⟩:=j;obtain rfl:u=Value.ref f:=m;refine PySem.W.callWith_K c.ok.mod.kin d (thn (D pos a o σ g _ c q) λJ M ⟨L,E,b,r,i⟩=>⟨b.kIn,?_⟩) B n;exact aCa F z l .nil aE4 b r (by simpa using i)
end L2
namespace PySem
end PySem
namespace L2
open PySem PySem.Spec PyProof.Rows
def aY8:OpR X (binaryOp .Add) (λx y H Q=>∃a b ys,x=.ref a/\y=.ref b/\SqT X.K H a []/\SqT X.K H b ys/\Q (.ref b) H):=by
 intro t s σ H x y v u Q I A G h;obtain⟨a,b,ys,rfl,rfl,C,D,q⟩:=h;cases A;cases G;obtain⟨w,E,L,_⟩:=I.tuple C;obtain⟨e,M,J,_⟩:=I.tuple D;cases E;obtain⟨⟨r,z,m,p⟩,k,l,n,hd⟩:=id L;obtain⟨⟨o,i,j,g⟩,d,c,B,f⟩:=id J;simp only at l hd c f;subst l hd c f;exact concat_meets ⟨_,k,rfl⟩ ⟨_,d,rfl⟩ noFill_tuple_add seq_tuple_add PySem.F.slot_tuple_add PySem.F.entry_tuple_add (PySem.F.args_tuple_add_2 _ _)
  (tuple_addW0 a b #[] e.toArray n B z i p g rfl) ⟨k,d,⟨.ref b,H,I,rfl,q⟩⟩
end L2
namespace PySem
abbrev cO (led:Bool):Obj:={ cls:=.type "set",dict:=none,data:=.set #[] 0 (.fresh 0 0 led) }
end PySem
namespace L2
open PySem PySem.Spec PyProof.Rows
def lB (j:Nat)(e:(y,NameKind.free)∈scope.names)(c:X.N[j]?=some y)(d:σ[j]?=some (some v))(f:Vis X.env.scope y):Cap X scope [x,y] σ [none,some v]:=
 ⟨rfl,λi z u a b=>by
  match i,a,b with
  |0,_,b=>cases b
  |1,a,b=>cases a;cases b;exact⟨e,j,c,d,f⟩
  |i+2,a,_=>cases a⟩
def tO:Cap X scope [x,y] σ [none,none]:=⟨rfl,λi z u b a=>by
  match i,b,a with
  |0,_,a=>cases a
  |1,_,a=>cases a
  |i+2,b,_=>cases b⟩
def aXl (f:Room k X.A)(c:VE X (.Name x p) te)(d:VA X (e::es) t)(b:cW e=true:=by rfl)(a:(backTo pos (starEach es X.env)).any (·.1)=false:=by rfl) :
  VE X (.Call (.Name x p) (e::es) [] pos) (aTa X.prog X.w X.K X.mg X.base k te t):=⟨aYl f c.1 d.1 (aU b) a⟩
def aVk {P:Program}{w:World}{K:bFZ}{mg:bF2}{base:Heap}{k:Nat}(d:Room k X.A)(f:VE X (.Name x p) te)(h:VA X (e::es) t)(b:cW e=true:=by rfl)(a:(backTo pos (starEach es X.env)).any (·.1)=false:=by rfl)
  (i:X.prog=P:=by rfl) (l:X.w=w:=by rfl) (c:X.K=K:=by rfl) (j:X.mg=mg:=by rfl) (g:X.base=base:=by rfl) :
  VE X (.Call (.Name x p) (e::es) [] pos) (aTa P w K mg base k te t):=by
 subst i l c j g;exact aXl d f h b a
def bL {K:bFZ}(h:X.K=K:=by rfl):IxR X (bEy K):=by subst h;exact aO
def tG {K:bFZ}{k:Nat}{u:TGs}{n:Nat}(c:X.calm=true)(h:VGs X es u)(b:(assignEach es X.env).length=n:=by rfl)(a:(assignEach es X.env).findIdx? (·.1)=none:=by rfl)(d:X.K=K:=by rfl):VG X (.Tuple es k pos) (aPc K n u):=by subst d;exact uZ c h b a
def aX4 (g:Gl X "zip")(f:X.mg "zip"=none)(e:VA X [a,b] t)(d:cW a=true:=by rfl)(c:cW b=true:=by rfl) :
  VI X (.Tuple elts kt tp) (.Call (.Name "zip" p) [a,b] [] pos) (aT5 X.K t):=⟨aYy g f e.1 (aU d) (aU c)⟩
def iD (c:VE X e te)(f:VG X tg g)(d:swapsWithSole [tg] e pos.line X.env=pure false:=by rfl)(b:swappedStores [tg] e X.env=pure none:=by rfl)
  (a:(assignEach [tg] X.env).map (·.2)=[assign tg X.env]:=by rfl):VS X (.Assign [tg] e pos) (vB te g):=⟨bB9 c.1 f.1 d b a⟩
def bFd:V->Option Int->Option Int->Hp->VK->Prop:=λx lo hi H Q=>∃z,x=.str z/\z.length<=sizeLine/\Q (.str (Txt.slice z lo hi)) H
def aHr:SlR X bFd:=by
 intro e s σ H x v K J D B g Q I y p E m h;obtain⟨z,rfl,r,q⟩:=h;obtain⟨t,rfl⟩:=y;have a:∀l u:Option (Int × Tok),l.map (·.1)=D->u.map (·.1)=B->s.heap.IsSlice g l u none->wpAny (model X.prog X.w) X.A (getItem (.str z t) (.ref g)) (EP X e σ Q) X.xe s:=λl u n C f=>by subst n C;refine wpAny_getItem_str_slice f rfl ?_;unfold sliceMade;have d:=Txt.slice_le z (l.map (·.1)) (u.map (·.1));exact post_val_or_str ⟨bAI d r,λG k=>⟨.str (Txt.slice z (l.map (·.1)) (u.map (·.1))),H,I.tok _,⟨_,rfl⟩,q⟩⟩
 refine⟨"str",_,F.slot_str_getitem.lookup,typeIs_str _ _ _,?_⟩;obtain⟨o,b,c,hd⟩:=p;cases E with
 |none=>
  cases m with
  |none=>exact a none none rfl rfl ⟨o,b,c,hd⟩
  |int j u=>exact a none (some (j,u)) rfl rfl ⟨o,b,c,hd⟩
 |int i t=>
  cases m with
  |none=>exact a (some (i,t)) none rfl rfl ⟨o,b,c,hd⟩
  |int j u=>exact a (some (i,t)) (some (j,u)) rfl rfl ⟨o,b,c,hd⟩
def aWc {x:Str}{j:Nat}(h:j<=x.length):(Txt.slice x none (some (j:Int))).cps.toList=x.cps.toList.take j:=by have e:=StrLaws.sliceText_to (x:=x) (j:=(j:Int)) ⟨by lia,by rw[v7];exact Int.ofNat_le.mpr h⟩;show (StrLaws.sliceText x none (some (j:Int))).cps.toList=_;rw[e];simp
def aO0 {x:Str}{j:Nat}(h:j<=x.length):(Txt.slice x (some (j:Int)) none).cps.toList=x.cps.toList.drop j:=by have e:=StrLaws.sliceText_from (x:=x) (i:=(j:Int)) ⟨by lia,by rw[v7];exact Int.ofNat_le.mpr h⟩;show (StrLaws.sliceText x (some (j:Int)) none).cps.toList=_;rw[e];simp only[bAS];refine bAZ ?_;rw[bBE];lia
def put (x:Str)(a:Nat)(c:Nat):Str:=Txt.slice x none (some (a:Int))++⟨#[c]⟩++Txt.slice x (some (a:Int)) none
def aIl (h:a<=x.length):(put x a c).cps.toList=x.cps.toList.take a++c::x.cps.toList.drop a:=by show ((Txt.slice x none (some (a:Int))).cps++#[c]++(Txt.slice x (some (a:Int)) none).cps).toList=_;rw[bDB,bDB,aWc h,aO0 h];simp
def aZg (h:a<=x.length)(e:put x a c=put x a d):c=d:=by have b:=congrArg (λy:Str=>y.cps.toList) e;simp only[aIl h] at b;have f:=List.append_cancel_left b;exact (List.cons.inj f).1
def aXe {x:Str}{a c:Nat}(h:a<=x.length):(put x a c).length=x.length+1:=by
 have e:=congrArg List.length (aIl (c:=c) h);have l:x.length=x.cps.toList.length:=by rw[v7];rfl
 rw[v7,v9,j9,bAC,bBE] at e;show (put x a c).cps.size=_;lia
def aYv (h:a<=x.length)(m:d∈(put x a c).cps):d=c\/d∈x.cps:=by
 have b:=Array.mem_toList_iff.mpr m;rw[aIl h] at b;rcases List.mem_append.mp b with z|z
 ·exact .inr (Array.mem_toList_iff.mp (bCO z))
 ·rcases List.mem_cons.mp z with z|z
  ·exact .inl z
  ·exact .inr (Array.mem_toList_iff.mp (List.mem_of_mem_drop z))
def bEo (t:TA):TE:=fun σ H Q=>t σ H λxs H1=>xs.length<=sizeLine/\∀p H',H1 p=none->Same H1 H'->H' p=some (.tup xs)->Q (.ref p) H'
def bAe (t:TA):TE:=fun σ H Q=>t σ H λxs H1=>xs.length<=sizeLine/\∀p H',H1 p=none->Same H1 H'->H' p=some (.lst xs)->Q (.ref p) H'
def bC1:TE:=λ_ H Q=>∀p H',H p=none->Same H H'->H' p=some (.dK [])->Q (.ref p) H'
def bY {x1}(h:VA X es t):VE X (.Tuple es x1 pos) (bEo t):=⟨by intro c s σ H Q I g;refine wpAny_Tuple_spliced (thn (h.1 pos c s σ H _ I g) λk a ⟨j,i,d,r,z,q⟩=>⟨by rw[<-r.length];exact z,?_⟩);have f:=d.hok.fresh (d9 _);refine⟨.ref a.heap.objs.size,upd i a.heap.objs.size (.tup j),d.laid (t':=a.toks) (λb u e=>d7 _ e) (d9 _) ?_,rfl,q _ _ f (aZ f _) aG⟩;exact⟨z,k,r,.of (j8 _ rfl) rfl ⟨_,j8 _ rfl,rfl,_,rfl⟩⟩⟩
def dY (h:VA X es t):VE X (.List es pos) (bAe t):=⟨by intro c s σ H Q I g;refine wpAny_List_spliced (thn (h.1 pos c s σ H _ I g) λk a ⟨j,i,d,r,z,q⟩=>⟨by rw[<-r.length];exact z,?_⟩);have f:=d.hok.fresh (d9 _);refine⟨.ref a.heap.objs.size,upd i a.heap.objs.size (.lst j),d.laid (t':=a.toks) (λb u e=>d7 _ e) (d9 _) ?_,rfl,q _ _ f (aZ f _) aG⟩;exact⟨z,k,0,r,j8 _ rfl⟩⟩
def aCv:VE X (.Dict [] [] pos) bC1:=VE.imp aWl fun σ H Q h p a=>h p _ a (aZ a _) aG
def OpR.imp (h:OpR X f r)(k:∀x y H Q,r' x y H Q->r x y H Q):OpR X f r':=λa s σ H x y v u Q I c b q=>h a s σ H x y v u Q I c b (k _ _ _ _ q)
def cF.imp (h:cF X f r)(k:∀xs H Q,r' xs H Q->r xs H Q):cF X f r':=λa s σ H xs b Q I c q=>h a s σ H xs b Q I c (k _ _ _ q)
def bEu (K:bFZ):R2:=λx y H Q=>∃a b xs ys,x=.ref a/\y=.ref b/\SqT K H a xs/\SqT K H b ys/\xs.length+ys.length<=sizeLine/\∀r H',Same H H'->SqT K H' r (xs++ys)->Q (.ref r) H'
def lC:OpR X (binaryOp .Add) (bEu X.K):=OpR.imp (aZr.or aY8) λx y H Q ⟨a,b,g,e,f,i,c,d,k,q⟩=>by
 by_cases h:g=[]
 ·subst h;exact .inr ⟨a,b,e,f,i,c,d,q b H (Same.refl H) d⟩
 ·refine .inl ⟨a,b,g,e,f,i,c,d,h,k,λz=>?_,λ_ p j=>q p _ (aZ j _) (SqT.of aG)⟩;subst z;exact q a H (Same.refl H) (by rw[bCJ];exact c)
def bFq (K:bFZ):V->Option Int->Option Int->Hp->VK->Prop:=λx lo hi H Q=>∃a xs,x=.ref a/\SqT K H a xs /\
 ¬ (HT.sIx xs.length 0 lo=0/\HT.sIx xs.length xs.length hi=xs.length)/\∀p H',Same H H'->H' p=some (.tup (pQ xs lo hi))->Q (.ref p) H'
def aBq:SlR X (bFq X.K):=λb s σ H x v f o n k d Q I i g r h ⟨a,m,e,j,c,q⟩=>
 bCj b s σ H x v f o n k d Q I i g r h ⟨a,m,e,j,c,λp l=>q p _ (aZ l _) aG⟩
def bB4:R2:=λx y H Q=>∃l b xs zs,x=.ref l/\y=.ref b/\H l=some (.lst xs)/\H b=some (.lst zs)/\xs.length+zs.length<=sizeLine/\∀p H',H p=none->Same H H'->H' p=some (.lst (xs++zs))->Q (.ref p) H'
def rA:OpR X (binaryOp .Add) bB4:=OpR.imp bB0 λx y H Q ⟨l,b,g,i,f,h,c,d,e,q⟩=>⟨l,b,g,i,f,h,c,d,e,λp a=>q p _ a (aZ a _) aG⟩
def aUk (K:bFZ):List V->Hp->VK->Prop:=λxs H Q=>∃p ys,xs=[.ref p]/\(SqL K H p ys\/SqT K H p ys)/\∀l H',H l=none->Same H H'->H' l=some (.lst ys)->Q (.ref l) H'
def pJ:cF X (.type "list") (aUk X.K):=cF.imp aG1 λc H Q ⟨p,b,e,h,q⟩=>⟨p,b,e,h,λl a=>q l _ a (aZ a _) aG⟩
def aW8 (K:bFZ):List V->Hp->VK->Prop:=λxs H Q=>∃p ys,xs=[.ref p]/\SqL K H p ys/\∀l H',H l=none->Same H H'->H' l=some (.tup ys)->Q (.ref l) H'
def mV:cF X (.type "tuple") (aW8 X.K):=cF.imp aEt λc H Q ⟨p,b,e,h,q⟩=>⟨p,b,e,.inl ⟨h,λl a=>q l _ a (aZ a _) aG⟩⟩
def pO:MtR X "list.append" aPz:=aFu
def gJ (f:H D=none)(s:Same H H'):Same H (upd H' D o):=λb u e=>by rw[aQ (aL e f)];exact s _ _ e
end L2
namespace PySem
end PySem
namespace L2
open PySem PySem.Spec PyProof.Rows
def Ite (K:bFZ)(l:Addr)(xs:List V):It:=
 ⟨λi H=>SqL K H l xs/\i<xs.length,λi H v H'=>∃T a,H T=none/\v=.ref T/\H'=upd H T (.tup [.int (i:Nat),a])/\xs[i]?=some a,λi H=>SqL K H l xs/\xs.length<=i⟩
def etn (e it l:Addr)(i:Nat)(h:Heap):Prop:=(∃old,IsEnum h e it (i:Int) old)/\h.IsListIter it l i
def aRu {P:Program}{w:World}{K:bFZ}{elts:List Expr}{kt:Nat}{pos:Pos}{e it l:Addr}{xs:List V}(F:e≠it) :
  Turn P w K (.Tuple elts kt pos) (Ite K l xs) [e,it] e (etn e it l) where
 mem:=by simp
 obj:=λi h g b a=>by
  obtain⟨⟨c,d⟩,o,j,c2,d2⟩:=g;simp only[bAP,bAG,or_false] at a;rcases a with rfl|rfl
  ·exact⟨_,d,λv z=>by cases (show Data.fields _=Data.cell v from z)⟩
  ·exact⟨_,j,λv z=>by rw[d2] at z;cases z⟩
 keep:=λi h n g k=>by obtain⟨⟨c,d⟩,o,j,r⟩:=g;exact⟨⟨c,k e (by simp) _ d⟩,o,k it (by simp) _ j,r⟩
 item:=by
  intro X p A B L i f s σ H E I m g G;subst p A B;obtain⟨⟨c,d⟩,j⟩:=g;obtain⟨t,S⟩:=G;obtain⟨its,q,J,hz⟩:=I.list t;obtain⟨x,hx,rx⟩:=q.get (b8 S);have fe:=m e (by simp);have fi:=m it (by simp);refine wpAny_pyNext_enum_item d j J.isList (by simpa using hx) F λn O R Q a4 y=>?_;refine⟨_,rfl,?_⟩;have fT:H s.heap.objs.size=none:=I.hok.fresh (d9 _);obtain⟨oi,C,_⟩:=id j;obtain⟨a0,D,_⟩:=id R;have W:Inv X f σ (upd H s.heap.objs.size (.tup [.int (i:Nat),xs[i]])) { s with heap:=n }:=by
   refine I.drawn (ch:=[e,it]) (its:=[.int i s.toks,x]) (λb a=>m b a) (λb o a z=>?_) (d9 _) (.cons ⟨_,rfl⟩ (.cons rx .nil)) (small (by simp)) (.of Q rfl ⟨_,Q,rfl,_,rfl⟩) (λb a=>?_)
   ·simp only[bAP,bAG,or_false,not_or] at a;exact y b o a.1 a.2 z
   ·simp only[bAP,bAG,or_false] at a;rcases a with rfl|rfl
    ·exact⟨_,O⟩
    ·exact⟨_,D⟩
  have u:Inv X f σ (upd H s.heap.objs.size (.tup [.int (i:Nat),xs[i]])) { s with heap:=n,toks:=s.toks+1 }:=W.tok _;have M:∀b∈[e,it],b≠s.heap.objs.size:=λb a=>by
   simp only[bAP,bAG,or_false] at a;rcases a with rfl|rfl
   ·exact z9 (t8 d)
   ·exact z9 (t8 C)
  refine wpAny_letOwnedTupleGo_enum (s:={ s with heap:=n,toks:=s.toks+1 }) O λh2 Z N=>?_;obtain⟨g0,Y,g2,g3,g4,g5⟩:=fe;have U:Inv X f σ (upd H s.heap.objs.size (.tup [.int (i:Nat),xs[i]])) { s with heap:=h2,toks:=s.toks+1 }:=Inv.turned (s:={ s with heap:=n,toks:=s.toks+1 }) u (t':=s.toks+1) (it:=e) (λb o a z=>(N.2 b a).trans z) (by rw[aQ (M e (by simp))];exact g0) Y g3 g4 g5;refine⟨.ref s.heap.objs.size,_,U,rfl,⟨_,_,fT,rfl,rfl,b8 S⟩,⟨⟨x,?_⟩,?_⟩,λb a=>by rw[aQ (M b a)];exact (m b a).1⟩
  ·rw[show ((i+1:Nat):Int)=(i:Int)+1 from by lia];exact Z
  ·obtain⟨o,ho,r⟩:=R;exact⟨o,(N.2 it (Ne.symm F)).trans ho,r⟩
 done:=by intro X p A B L i f s σ H E I m g G;subst p A B;obtain⟨⟨c,d⟩,j⟩:=g;obtain⟨t,hi⟩:=G;obtain⟨its,q,J,hz⟩:=I.list t;have T:=q.length;refine wpAny_pyNext_enum_end (I.ok.hd L) d j J.isList (by simp;lia) λn y=>⟨rfl,?_⟩;refine Inv.aQg (ch:=[it]) I (λb a=>m b (j7 _ a)) λb o a z=>y b o (by simpa using a) z
 self:=λ_ _ _ _ _ g h=>by obtain⟨⟨c,d⟩,_⟩:=g;exact wpAny_pyIter_enum d h
def bAc (K:bFZ)(ta:TA):TI:=fun σ H R=>ta σ H λvs H1=>∃l xs,vs=[.ref l]/\SqL K H1 l xs/\R (Ite K l xs) H1
def aYt (J:Gl X "enumerate")(F:X.mg "enumerate"=none)(L:PA X [a] ta)(z:starEach [a] X.env=[(false,eval a X.env)]:=by rfl) :
  PI X (.Tuple elts kt tp) (.Call (.Name "enumerate" p) [a] [] pos) (bAc X.K ta):=by
 intro f s σ H R I h;refine Call_ (vK I J F aI4 (bCC (thn (L pos f s σ H _ I h) λM j ⟨E,k,d,w,n⟩=>?_) z (by rfl)));obtain⟨l,C,e,v,q⟩:=n;subst e;obtain⟨o,A,y,B⟩:=d.list v;obtain⟨u,rfl,t⟩:=vals1 w;cases t;refine call_enumerate_list y.isList λG g r D x=>?_;have m:=d.kept (t':=j.toks) x;refine wpAny_pyIter_enum g ⟨_,_,_,_,k,rfl,m,aRu (bDJ (bCV _)),⟨⟨_,g⟩,r⟩,λb i=>?_,q⟩;have c:j.heap.objs.size<=b:=by
  simp only[bAP,bAG,or_false] at i;rcases i with rfl|rfl
  ·exact bDH _
  ·exact d9 _
 exact d.aHp c (d.hok.fresh c)
def aV5 {K:bFZ}{l:Addr}{xs:List V}{g:TG}{tb:TS}{D:Ends}{σ:St}{H:Hp}(d:Nat->St->Hp->Prop)(n:d 0 σ H)(c:∀i σ H,i<=xs.length->d i σ H->SqL K H l xs)
  (k:∀i σ H a T H',xs[i]?=some a->d i σ H->H T=none->H'=upd H T (.tup [.int (i:Nat),a])->g (.ref T) σ H' fun σ2 H2=>tb { D with nx:=d (i+1),ct:=d (i+1),bk:=D.nx } σ2 H2) (hd:∀σ H,d xs.length σ H->D.nx σ H) :
  ∃W:Nat->Nat->St->Hp->Prop,(∃m,W 0 m σ H)/\∀i m σ H,W i m σ H ->
   ((Ite K l xs).stop i H/\D.nx σ H)\/((Ite K l xs).go i H/\∃N:St->Hp->Prop,(∀σ' H',N σ' H'->∃m',m'<m/\W (i+1) m' σ' H')/\∀x H',(Ite K l xs).yld i H x H'->g x σ H' fun σ2 H2=>tb { D with nx:=N,ct:=N,bk:=D.nx } σ2 H2):=by
 refine⟨λi m σ H=>m=xs.length - i/\i<=xs.length/\d i σ H,⟨xs.length,by simp,bAE _,n⟩,?_⟩;rintro i m σ H ⟨rfl,hi,p⟩;by_cases b:i<xs.length
 ·refine .inr ⟨⟨c i σ H hi p,b⟩,d (i+1),fun σ' H' j=>⟨xs.length - (i+1),by lia,rfl,b,j⟩,λx H' y=>?_⟩;obtain⟨T,a,h,rfl,e,f⟩:=y;exact k i σ H a T H' f p h e
 ·have e:i=xs.length:=by lia
  subst e;exact .inl ⟨⟨c _ σ H hi p,d9 _⟩,hd σ H p⟩
section
variable {X:Cx}{st:Stmt}
def dR:VS X st aVw:=⟨aVc⟩
def aXs (d:Gl X "enumerate")(c:X.mg "enumerate"=none)(e:VA X [a] t)(b:cW a=true:=by rfl) :
  VI X (.Tuple elts kt tp) (.Call (.Name "enumerate" p) [a] [] pos) (bAc X.K t):=⟨aYt d c e.1 (aU b)⟩
def aWx {o:Expr}{to:TE}{name:Str}{apos cpos:Pos}{T id:String}{r:V->List V->Hp->VK->Prop}(d:PlainAttrs T)(slot:Slot T name id)(c:typeOf (.builtin id)=pure (.type "method_descriptor"))(e:MtR X id r)(ho:VE X o to)
  (b:attributeBase o name X.env (eval o X.env)=eval o X.env:=by rfl) (a:(apos.endLine == cpos.line)=true:=by rfl):VE X (.Call (.Attribute o name apos) [] [] cpos) (bEt X.K T r to):=⟨bC4 d slot c e ho.1 b a⟩
end
def aSy (xs:List V)(Rel:Nat->Hp->V->Prop)(C:∀{i H1 H2 y},Same H1 H2->Rel i H1 y->Rel i H2 y)(A:∀{i H1 D ys zs y},H1 D=some (.lst ys)->Rel i H1 y->Rel i (upd H1 D (.lst zs)) y)
  (v:St) (n:Cap X scope N σ v) (hsz:xs.length<=sizeLine)
  (F:∀R:It->Hp->Prop,(∀J:It,(∀H' i x,Same H H'->xs[i]?=some x->J.go i H'/\∀y H2,J.yld i H' y H2->H2=H'/\y=x)->(∀H',Same H H'->J.stop xs.length H')->R J H)->wi σ H R)
  (E:∀(i:Nat) (x:V),xs[i]?=some x->∀H' R l,Same H H'->(∀y H2,Same H' H2->Rel i H2 y->R y H2)->te ((v.set 0 l).set 0 (some x)) H' R) (G:v[0]?=some none)
  (q:∀D H' ys,Same H H'->H' D=some (.lst ys)->ys.length=xs.length->(∀(i:Nat) (y:V),ys[i]?=some y->Rel i H' y)->Q (.ref D) H') :
  jB X scope N wi (bR 0) mG te σ H Q:=by
 refine⟨v,n,F _ λJ go stop D h=>?_⟩;refine⟨λi m k H' ys=>i<=xs.length/\m=xs.length - i/\(∃l,k=v.set 0 l)/\Same H H'/\H' D=some (.lst ys)/\ys.length=i/\∀j y,ys[j]?=some y->Rel j H' y,⟨xs.length,bAE _,rfl,⟨none,lG G⟩,aZ h _,aG,rfl,λj y e=>by simp at e⟩,?_⟩;rintro i m k H' ys ⟨hi,rfl,⟨l,rfl⟩,sm,hL,hl,hR⟩;refine⟨hL,?_⟩;by_cases a:i<xs.length
 ·right;obtain⟨r,u⟩:=go H' i xs[i] sm (b8 a);refine⟨r,λx H2 p=>?_⟩;obtain⟨rfl,rfl⟩:=u x H2 p;unfold bR mG;dsimp only;rw[if_pos rfl];refine E i xs[i] (b8 a) _ _ l sm λy B d t=>⟨d _ _ hL,by lia,xs.length - (i+1),by lia,a,rfl,⟨some xs[i],?_⟩,?_,aG,?_,?_⟩
  ·rw[bCF]
  ·intro b o e;rw[aQ (aL e h)];exact d _ _ (sm _ _ e)
  ·rw[v9,bEX,hl]
  ·intro j z c;refine A (d _ _ hL) ?_;by_cases w:j<ys.length
   ·rw[bBD w] at c;exact C d (hR j z c)
   ·rw[bBA (by lia)] at c;have f:j - ys.length=0:=by
     by_cases s:j - ys.length=0
     ·exact s
     ·rw[bAD (by simp;lia)] at c;cases c
    have g:j=i:=by lia
    subst g;rw[f] at c;cases c;exact t
 ·left;have e:i=xs.length:=by lia
  subst e;exact⟨stop _ sm,q D _ ys sm hL hl hR⟩
def aYd (xs ys:List V)(m:ys.length=xs.length)(s:St)(f:Cap X scope N σ s)(k:xs.length<=sizeLine)
  (t:∀R:It->Hp->Prop,(∀J:It,(∀H' i x,Same H H'->xs[i]?=some x->J.go i H'/\∀y H2,J.yld i H' y H2->H2=H'/\y=x)->(∀H',Same H H'->J.stop xs.length H')->R J H)->wi σ H R)
  (p:∀(i:Nat) (x y:V),xs[i]?=some x->ys[i]?=some y->∀H' R l,Same H H'->(∀H2,Same H' H2->R y H2)->te ((s.set 0 l).set 0 (some x)) H' R) (u:s[0]?=some none)
  (q:∀D H',Same H H'->H' D=some (.lst ys)->Q (.ref D) H') :
  jB X scope N wi (bR 0) mG te σ H Q:=by
 refine aSy xs (λi _ y=>ys[i]?=some y) (λ_ h=>h) (λ_ h=>h) s f k t (λi x d H' R l b r=>?_) u λD H' c b j o n=>?_
 ·have a:i<ys.length:=by rw[m];exact (List.getElem?_eq_some_iff.mp d).1
  exact p i x ys[i] d (b8 a) H' R l b λH2 g=>r _ H2 g (b8 a)
 ·have e:c=ys:=by
   refine bCE λi=>?_;by_cases a:i<c.length
   ·rw[n i c[i] (b8 a),b8 a]
   ·rw[bAD (by lia),bAD (by lia)]
  subst e;exact q D H' b j
def iK (a:X.A.units+1<cLine)(ho:VE X o td)(hi:VE X i ty)(b:bB5 i):VE X (.Subscript o i pos) (aZw td ty):=⟨aZe a ho.1 hi.1 b⟩
def aE8 (a:X.A.units+1<cLine)(hi:VE X i ty)(ho:VE X o td)(b:behindInMarks .NotIn o=false:=by first|exact nobehind _ (by decide) (by decide)|rfl):VT X (.Compare i [.NotIn] [o] pos) (tB (aQb ty td)):=⟨aTs (aSn a hi.1 ho.1) b⟩
def sel {α:Type}(p:Nat->Bool):Nat->List α->List α
 |_,[]=>[]
 |i,x::r=>if p i then x::sel p (i+1) r else sel p (i+1) r
theorem aB6 {α:Type}(p:Nat->Bool)(x:α):∀k xs,sel p k (xs++[x])=sel p k xs++(if p (k+xs.length) then [x] else [])
 |k,[]=>by show (if p k then x::sel p (k+1) [] else sel p (k+1) [])=[]++(if p (k+0) then [x] else []);rw[Nat.add_zero,bCX];rfl
 |k,y::r=>by
  show (if p k then y::sel p (k+1) (r++[x]) else sel p (k+1) (r++[x]))=(if p k then y::sel p (k+1) r else sel p (k+1) r)++_;rw[aB6 p x (k+1) r,j9,show k+1+r.length=k+(r.length+1) by lia]
  split <;> rfl
theorem aHy {α:Type}(p:Nat->Bool):∀(k:Nat) (xs:List α),(sel p k xs).length<=xs.length
 |_,[]=>d9 _
 |k,y::r=>by
  have:=aHy p (k+1) r;show (if p k then y::sel p (k+1) r else sel p (k+1) r).length<=r.length+1
  split
  ·rw[j9];lia
  ·lia
def aYx {X:Cx}{i0:Nat}{x0:Str}{c spos:Pos}{G h f:Expr}{P:List Expr}{scope:Scope}{J:Pos}{N:List Str}{wi:TI}{g:TG}{tt:TT}{te:TE}
  (Z:X.N.Nodup) (F:X.N[i0]?=some x0) (O:Loc X.env.scope x0) (C:vV scope N) (Q:∀y,(y,NameKind.free)∈scope.names->X.env.kindOf y=some .cell\/X.env.kindOf y=some .free) (hc:X.calm=true)
  (hi:PI X h f wi)
  (B:∀cl s H fp,PG (cxC X N scope cl s H fp) h g/\aSw (cxC X N scope cl s H fp) P tt/\PE (cxC X N scope cl s H fp) G te)
  (hs:∀x,foldedSetIterable f X.env x=pure x:=by intro _;rfl) (W:swapsWith (.ListComp G [⟨h,f,P,0⟩] scope J) (some (.Name x0 c)) spos.line X.env=pure true:=by rfl)
  (hf:X.fn x0=true\/X.env.scope.names.lookup x0=some .local:=by first|exact .inl rfl|exact .inr rfl|assumption) :
  PS X (.Assign [.Name x0 c] (.ListComp G [⟨h,f,P,0⟩] scope J) spos) (vB (jB X scope N wi g tt te) (bR i0)):=by
 intro d s σ H Dn I l;rw[exec_Assign_Name_used _ _ _ _ W];refine b7 (bFX (b7 ?_));show wpAny _ X.A (do let _ <-comprehension (.ListComp G [⟨h,f,P,0⟩] scope J) scope X.env _ (newList []) false (eval f X.env) (some (assign (.Name x0 c) X.env))) _ _ s;refine b7 (bBQ (aFp (use:=some (assign (.Name x0 c) X.env)) (QQ:=λ_ r=>SP X d Dn .next r) C Q hc hi B hs I l λD q p j ⟨M,i⟩ m fp U=>?_)
  (λ_ r l=>d8 (d8 l)) λ_ _ e=>e)
 have R:Inv X d σ p j:=m j.heap λ_ _ _ e=>e;obtain⟨V,u,g2,Y,t,L⟩:=fp;show wpAny (model X.prog X.w) X.A (assign (.Name x0 c) X.env (.ref D)) _ _ j;refine wpAny_assign_Name (aFc R Z F O (v:=.ref D) rfl (λS E ⟨a,K,T⟩=>?_) hf);have n:q≠a:=by
  rcases T with z|z
  ·rw[z];exact u
  ·exact λe=>t x0 a z e.symm
 refine⟨M,i.sameBut K n,λh' k=>?_⟩;exact⟨_,p,Inv.turned E (t':=S.toks) (it:=q) (λb o B e=>k.extBut b o B e) V u Y t L,U⟩
def aBx
  (f:X.N.Nodup) (c:X.N[i0]?=some x0) (d:Loc X.env.scope x0) (C:vV scope N) (b:∀y,(y,NameKind.free)∈scope.names->X.env.kindOf y=some .cell\/X.env.kindOf y=some .free) (j:X.calm=true)
  (hi:VI X target iter wi)
  (a:∀cl s H fp,VG (cxC X N scope cl s H fp) target g/\VF (cxC X N scope cl s H fp) ifs tt/\VE (cxC X N scope cl s H fp) elt te)
  (h:∀x,foldedSetIterable iter X.env x=pure x:=by intro _;rfl) (e:swapsWith (.ListComp elt [⟨target,iter,ifs,0⟩] scope pos) (some (.Name x0 pos')) spos.line X.env=pure true:=by rfl)
  (i:X.fn x0=true\/X.env.scope.names.lookup x0=some .local:=by first|exact .inl rfl|exact .inr rfl|assumption) :
  VS X (.Assign [.Name x0 pos'] (.ListComp elt [⟨target,iter,ifs,0⟩] scope pos) spos) (vB (jB X scope N wi g tt te) (bR i0)):=
 ⟨aYx f c d C b j hi.1 (λcl s H fp=>⟨(a cl s H fp).1.1,(a cl s H fp).2.1.1,(a cl s H fp).2.2.1⟩) h e i⟩
section
variable {te:TE}{H:Hp}{Q:VK}
def aOl (xs:List V)(Rel:Nat->Hp->V->Prop)(A:∀{i H1 H2 y},Same H1 H2->Rel i H1 y->Rel i H2 y)(w:∀{i H1 D ys zs y},H1 D=some (.lst ys)->Rel i H1 y->Rel i (upd H1 D (.lst zs)) y)
  (C:St) (hsz:xs.length<=sizeLine)
  (J:It) (v:∀H' i x,Same H H'->xs[i]?=some x->J.go i H'/\∀y H2,J.yld i H' y H2->H2=H'/\y=x) (h:∀H',Same H H'->J.stop xs.length H')
  (B:∀(i:Nat) (x:V),xs[i]?=some x->∀H' R l,Same H H'->(∀y H2,Same H' H2->Rel i H2 y->R y H2)->te ((C.set 0 l).set 0 (some x)) H' R) (E:C[0]?=some none)
  (q:∀D H' ys,Same H H'->H' D=some (.lst ys)->ys.length=xs.length->(∀(i:Nat) (y:V),ys[i]?=some y->Rel i H' y)->Q (.ref D) H') :
  ∀D,H D=none->∃W:Nat->Nat->St->Hp->List V->Prop,(∃m,W 0 m C (upd H D (.lst [])) []) /\
   ∀i m σ' H' ys,W i m σ' H' ys->H' D=some (.lst ys)/\((J.stop i H'/\Q (.ref D) H')\/(J.go i H'/\∀x H2,J.yld i H' x H2->bR 0 x σ' H2 fun σ3 H3=>mG σ3 H3 λb H4=>
    if b=true then te σ3 H4 λy H5=>H5 D=some (.lst ys)/\ys.length<sizeLine/\∃m',m'<m/\W (i+1) m' σ3 (upd H5 D (.lst (ys++[y]))) (ys++[y]) else H4 D=some (.lst ys)/\∃m',m'<m/\W (i+1) m' σ3 H4 ys)):=by
 intro D k;refine⟨λi m σ' H' ys=>i<=xs.length/\m=xs.length - i/\(∃l,σ'=C.set 0 l)/\Same H H'/\H' D=some (.lst ys)/\ys.length=i/\∀j y,ys[j]?=some y->Rel j H' y,⟨xs.length,bAE _,rfl,⟨none,lG E⟩,aZ k _,aG,rfl,λj y e=>by simp at e⟩,?_⟩;rintro i m σ' H' ys ⟨hi,rfl,⟨l,rfl⟩,sm,hL,hl,hR⟩;refine⟨hL,?_⟩;by_cases a:i<xs.length
 ·right;obtain⟨p,t⟩:=v H' i xs[i] sm (b8 a);refine⟨p,λx H2 n=>?_⟩;obtain⟨rfl,rfl⟩:=t x H2 n;unfold bR mG;dsimp only;rw[if_pos rfl];refine B i xs[i] (b8 a) _ _ l sm λy H3 d s=>⟨d _ _ hL,by lia,xs.length - (i+1),by lia,a,rfl,⟨some xs[i],?_⟩,?_,aG,?_,?_⟩
  ·rw[bCF]
  ·intro b o e;rw[aQ (aL e k)];exact d _ _ (sm _ _ e)
  ·rw[v9,bEX,hl]
  ·intro j z c;refine w (d _ _ hL) ?_;by_cases u:j<ys.length
   ·rw[bBD u] at c;exact A d (hR j z c)
   ·rw[bBA (by lia)] at c;have f:j - ys.length=0:=by
     by_cases r:j - ys.length=0
     ·exact r
     ·rw[bAD (by simp;lia)] at c;cases c
    have g:j=i:=by lia
    subst g;rw[f] at c;cases c;exact s
 ·left;have e:i=xs.length:=by lia
  subst e;exact⟨h _ sm,q D _ ys sm hL hl hR⟩
end
section
variable {K:bFZ}
def aN2 (d:∀H',Same H H'->SqL K H' a xs):∀H' i x,Same H H'->xs[i]?=some x->(Itl K a).go i H'/\∀y H2,(Itl K a).yld i H' y H2->H2=H'/\y=x:=λH' i x s e=>
 ⟨⟨xs,x,d H' s,e⟩,λy H2 g=>by obtain⟨c,f⟩:=g;have b:=f xs (d H' s);rw[e] at b;cases b;exact⟨c,rfl⟩⟩
def aB7 (b:∀H',Same H H'->SqL K H' a xs):∀H',Same H H'->(Itl K a).stop xs.length H':=λH' s=>⟨xs,b H' s,d9 _⟩
end
section
variable {X:Cx}{K:bFZ}{scope:Scope}{N:List Str}{tl te:TE}{σ:L2.St}{H:Hp}{Q:VK}
def aR0 (Pr:List V->Prop)(Rel:Nat->Hp->V->Prop)(n:∀{i H1 H2 y},Same H1 H2->Rel i H1 y->Rel i H2 y)(k:∀{i H1 D ys zs y},H1 D=some (.lst ys)->Rel i H1 y->Rel i (upd H1 D (.lst zs)) y)
  (e:L2.St) (d:Cap X scope N σ e) (o:e[0]?=some none)
  (m:∀R:VK,(∀D H1 us,Same H H1->H1 D=some (.lst us)->Pr us->R (.ref D) H1)->tl σ H R)
  (g:∀us,Pr us->us.length<=sizeLine)
  (j:∀us,Pr us->∀(i:Nat) (x:V),us[i]?=some x->∀H' R l,Same H H'->(∀y H2,Same H' H2->Rel i H2 y->R y H2)->te ((e.set 0 l).set 0 (some x)) H' R)
  (q:∀us,Pr us->∀D H' ys,Same H H'->H' D=some (.lst ys)->ys.length=us.length->(∀(i:Nat) (y:V),ys[i]?=some y->Rel i H' y)->Q (.ref D) H') :
  jB X scope N (aLj K tl) (bR 0) mG te σ H Q:=
 ⟨e,d,m _ λD H1 us c b p=>⟨D,rfl,⟨us,SqL.of b⟩,aOl us Rel n k e (g us p) (Itl K D) (aN2 λH' a=>SqL.of (a _ _ b)) (aB7 λH' a=>SqL.of (a _ _ b))
  (λi x h H' R l a r=>j us p i x h H' R l (c.trans a) r) o λf H' ys a=>q us p f H' ys (c.trans a)⟩⟩
end
def SqT.jO {K:bFZ}{H:Hp}{a D:Addr}{xs ys zs:List V}(b:H D=some (.lst ys))(h:SqT K H a xs):SqT K (upd H D (.lst zs)) a xs:=by
 rcases h with (h|⟨o,h⟩)|h
 ·exact .inl (.inl (by rw[aQ (aKz h b (by intro z;cases z))];exact h))
 ·exact .inl (.inr ⟨o,by rw[aQ (aKz h b (by intro z;cases z))];exact h⟩)
 ·exact .inr h
end L2
namespace PySem
end PySem
namespace L2
open PySem PySem.Spec PyProof.Rows
def classAt:Stmt->Nat->Stmt
 |.ClassDef _ _ _ body _ _ _ _ _ _ _,j=>body.getD j (.Pass ⟨0,0,0,0⟩)
 |st,_=>st
structure aTf (K:bFZ)(mg:bF2)(x:Str)(C:Addr):Prop where
 at_:mg x=some (.ref C)
 cls:Cls K C
 mks:PySem.W.makesIn K C=true
 kp:PySem.W.keepIn K (.ref C)=true
def eZ (K:bFZ)(C:Addr)(m qual:Str)(st:Stmt)(ps:List Str):Prop:=∃f fd,Meth K C m f/\Fun K m qual st f fd/\Binds K fd ps []
section
variable {P:Program}{w:World}{K:bFZ}{mg:bF2}{base:Heap}
def OkM (P:Program)(w:World)(K:bFZ)(mg:bF2)(base:Heap)(C:Addr)(k:Nat)(m:Str)(ps:List Str)(sp:Sp):Prop:=
 ∃f fd,Cls K C/\Meth K C m f/\Binds K fd ps []/\kZ P w K mg base CX0 k f fd ps sp
def OkM.mono (h:OkM P w K mg base C j m ps sp)(g:j<=k):OkM P w K mg base C k m ps sp:=by obtain⟨f,a,c,e,b,d⟩:=h;exact⟨f,a,c,e,b,d.mono g⟩
def OkM.ofV {C:Addr}{m qual:Str}{st:Stmt}{N ps:List Str}{k:Nat}{sp:Sp}(c:Cls K C)(D:eZ K C m qual st ps)(S:aJ N ps (aF st))(e:∀vs H Q E,sp vs H Q E->vs.length=ps.length)
  (a:∀(f:Addr) (cdv:Value) (A:Around) (outer:List Env) (s:Shared) (H:Hp) (vs:List V) (Q:VK) (E:XK),Room k (A.deeper (envOfC qual (aF st) s.heap.objs.size f cdv))->sp vs H Q E ->
   ∃t,VSs (aB3 CX0 P w K mg base N qual (aF st) f cdv A outer s H E).nox (fJ st) t/\t { nx:=λ_ H'=>Q .non H',rt:=Q } (start N vs) H):OkM P w K mg base C (k+1) m ps sp:=by
 obtain⟨f,b,g,F,B⟩:=D;exact⟨f,b,c,g,B,Fun.okV F S e λcdv A outer s H vs Q E d h=>a f cdv A outer s H vs Q E d h⟩
def OkC (P:Program)(w:World)(K:bFZ)(mg:bF2)(base:Heap)(C:Addr)(k:Nat)(x:Str)(ps:List Str)(sp:Sp):Prop:=
 ∃f fd,mg x=some (.ref C)/\Mk K C f/\Binds K fd ps []/\kZ P w K mg base CX0 k f fd ps sp
def OkC.mono (h:OkC P w K mg base C j x ps sp)(g:j<=k):OkC P w K mg base C k x ps sp:=by obtain⟨f,a,c,e,b,d⟩:=h;exact⟨f,a,c,e,b,d.mono g⟩
def OkM.make (c:aTf K mg x C)(h:OkM P w K mg base C k "__init__" ps sp):OkC P w K mg base C k x ps sp:=by obtain⟨f,b,g,a,d,e⟩:=h;exact⟨f,b,c.at_,⟨c.mks,a.at_,a.fn,c.kp⟩,d,e⟩
end
section
variable {X:Cx}{e o value:Expr}{es:List Expr}{f m x:Str}{p pos pos' apos:Pos}{t:TA}{C:Addr}{k:Nat}{ps:List Str}{sp:Sp}
def cV {K:bFZ}(b:VE X e ta)(a:attributeBase e f X.env (eval e X.env)=eval e X.env:=by rfl)(h:X.K=K:=by rfl):VE X (.Attribute e f pos) (bDi K ta f):=by subst h;exact⟨bCk b.1 a⟩
def aDp {K:bFZ}(c:VE X o ta)(a:VE X value tv)(b:swapsWith value (some (.Attribute o f pos')) pos.line X.env=pure false:=by rfl)(h:X.K=K:=by rfl):VS X (.Assign [.Attribute o f pos'] value pos) (bDt K ta tv f):=by subst h;exact⟨bAi c.1 a.1 b⟩
def aXh (G:OkM X.prog X.w X.K X.mg X.base C k m ps sp)(l:Room k X.A)(j:VE X o ta)(p:VA X (e::es) t)
  (i:cW e=true:=by rfl) (d:(backTo pos (starEach es X.env)).any (·.1)=false:=by rfl)
  (n:eval (.Call (.Attribute o m apos) (e::es) [] pos) X.env=(do
   let ov <-eval o X.env
   standAt apos.atName
   let (f,first) <-holding [ov] (getMethod ov m pl)
   callWith pos f first (backTo pos (starEach (e::es) X.env)) (backToKw pos (keywordEach [] X.env))):=by rfl):VE X (.Call (.Attribute o m apos) (e::es) [] pos) (aLd C m sp [] E0 ta t):=by
 obtain⟨f,h,b,g,a,c⟩:=G;exact⟨aXf j.1 b g c l a .nil aE4 p.1 (aU i) d n⟩
def aUy (G:OkM X.prog X.w X.K X.mg X.base C k m ps sp)(h:Room k X.A)(g:VE X o ta)
  (i:eval (.Call (.Attribute o m apos) [] [] pos) X.env=(do
   let ov <-eval o X.env
   standAt apos.atName
   let (f,first) <-holding [ov] (getMethod ov m pl)
   callWith pos f first (backTo pos (starEach [] X.env)) (backToKw pos (keywordEach [] X.env))):=by rfl):VE X (.Call (.Attribute o m apos) [] [] pos) (aLd C m sp [] E0 ta aBl):=by
 obtain⟨f,e,b,d,a,c⟩:=G;exact⟨aTy g.1 b d c h a .nil aE4 i⟩
def aPd (G:OkC X.prog X.w X.K X.mg X.base C k x ps sp)(l:Room (k+1) X.A)(m:Gl X x)(n:VA X (e::es) t)(b:(x == ("__debug__":Str))=false:=by decide)(j:cW e=true:=by rfl)(g:(backTo pos (starEach es X.env)).any (·.1)=false:=by rfl) :
  VE X (.Call (.Name x p) (e::es) [] pos) (aZy C sp [] E0 t):=by
 obtain⟨f,i,c,h,a,d⟩:=G;exact⟨aX5 h d l m c a .nil aE4 n.1 b (aU j) g⟩
end
end L2
namespace PySem
def Ris (xs:Array Nat):Prop:=∀a b (ha:a<xs.size) (hb:b<xs.size),a<b->xs[a]<xs[b]
theorem aDd (c:Ris xs):∀fuel lo hi,hi - lo<=fuel->lo<=hi->hi<=xs.size->(∀k h,k<lo->xs[k]<j)->(∀k h,hi<=k->j<=xs[k]) ->
  SetTable.below.go xs j fuel lo hi<=xs.size/\(∀k (h:k<xs.size),k<SetTable.below.go xs j fuel lo hi->xs[k]<j)/\∀k (h:k<xs.size),SetTable.below.go xs j fuel lo hi<=k->j<=xs[k]
 |0,lo,hi,hf,h1,h2,h3,h4=>by
  have e:lo=hi:=by lia
  subst e;exact⟨h2,h3,h4⟩
 |fuel+1,lo,hi,hf,h1,h2,h3,h4=>by
  unfold SetTable.below.go
  split
  ·rename_i g;have m:(lo+hi) / 2<hi:=by lia
   have l:lo<=(lo+hi) / 2:=by lia
   have a:(lo+hi) / 2<xs.size:=by lia
   dsimp only;rw[w6,m8 a,bBO]
   split
   ·rename_i b;refine aDd c fuel _ _ (by lia) (by lia) h2 (λk d f=>?_) h4;by_cases e:k=(lo+hi) / 2
    ·subst e;exact b
    ·exact bEP (c k _ d a (by lia)) b
   ·rename_i b;refine aDd c fuel _ _ (by lia) (by lia) (by lia) h3 λk d i=>?_;by_cases e:k=(lo+hi) / 2
    ·subst e;lia
    ·exact bAI (Nat.le_of_not_lt b) (bDI (c _ k a d (by lia)))
  ·have e:lo=hi:=by lia
   subst e;exact⟨h2,h3,h4⟩
def oJ (b:Ris xs)(j:Nat):SetTable.below xs j<=xs.size/\(∀k h,k<SetTable.below xs j->xs[k]<j)/\∀k h,SetTable.below xs j<=k->j<=xs[k]:=
 aDd b xs.size 0 xs.size (by lia) (bAE _) (d9 _) (λk _ h=>absurd h (bCY _)) (λk a c=>absurd a (by lia))
def nA {α:Type}(xs:Array α)(p:Nat)(x:α)(hp:p<=xs.size):(SetTable.insertAt xs p x).toList=xs.toList.take p++x::xs.toList.drop p:=by unfold SetTable.insertAt;rw[bDB,bFU,Array.toList_extract,Array.toList_extract];simp only[List.extract_eq_drop_take,List.drop_zero,Nat.sub_zero,bCD,List.singleton_append];have e:(xs.toList.drop p).take (xs.size - p)=xs.toList.drop p:=bAZ (by rw[bBE,v7];exact d9 _);rw[e]
def aCb {xs:Array Nat}:Ris xs↔xs.toList.Pairwise (·<·):=by
 rw[List.pairwise_iff_getElem];unfold Ris;constructor
 ·intro h i j g e d;exact h i j (by simpa using g) (by simpa using e) d
 ·intro h a b f k c;exact h a b (by simpa using f) (by simpa using k) c
def vC {xs:Array Nat}{j:Nat}(l:Ris xs)(s:xs[SetTable.below xs j]?≠some j):Ris (SetTable.insertAt xs (SetTable.below xs j) j):=by
 obtain⟨o,p,n⟩:=oJ l j;rw[aCb,nA _ _ _ o,List.pairwise_append,List.pairwise_cons];have m:=aCb.mp l;have below:∀a∈xs.toList.take (SetTable.below xs j),a<j:=λa d=>by
  obtain⟨i,g,rfl⟩:=bBC d;rw[List.getElem_take];rw[bAC] at g;have e:i<xs.toList.length:=by lia
  exact p i (by simpa using e) (by lia)
 have c:∀a∈xs.toList.drop (SetTable.below xs j),j<a:=λa d=>by
  obtain⟨i,g,rfl⟩:=bBC d;rw[List.getElem_drop];rw[bBE] at g;have k:SetTable.below xs j+i<xs.toList.length:=by lia
  have f:SetTable.below xs j+i<xs.size:=by simpa using k
  have q:=n _ f (bDF _ _);rw[Array.getElem_toList];rcases bFO q with h|h
  ·exact h
  ·exfalso;cases i with
   |zero=>exact s ((m8 f).trans (congrArg some h.symm))
   |succ i=>
    have hb:SetTable.below xs j<xs.size:=by lia
    have t:=n _ hb (d9 _);have r:=l _ _ hb f (by lia);lia
 refine⟨m.sublist (bEN _ _),⟨c,m.sublist (List.drop_sublist _ _)⟩,λa d b hb=>?_⟩;rcases List.mem_cons.mp hb with rfl|hb
 ·exact below a d
 ·exact bEP (below a d) (c b hb)
def aNi {t:SetTable}{j:Nat}(h:t.slot j=.empty):t.place[SetTable.below t.place j]?≠some j:=by unfold SetTable.slot at h;intro e;simp[e] at h
def aHj {t:SetTable}(hd:t.dummies=#[])(j:Nat):t.slot j≠.dummy:=by
 unfold SetTable.slot;rw[hd];dsimp only
 split
 ·intro z;cases z
 ·have:SetTable.has #[] j=false:=by unfold SetTable.has;simp
  rw[this];intro z;cases z
theorem aJw {t:SetTable}{g:Nat->Int}{h:Int}(hd:t.dummies=#[]):∀(fuel:Nat) (p:SetTable.Probe) (j:Nat) (dm:Option Nat),p.dummy=none->SetTable.probe.go t g h fuel p=some (.empty j dm)->dm=none/\t.slot j=.empty
 |0,p,j,dm,_,e=>by cases e
 |fuel+1,p,j,dm,hp,e=>by
  unfold SetTable.probe.go at e;have a:∀q:SetTable.Probe,q.dummy=none->(t.advance q).dummy=none:=λq c=>by
   unfold SetTable.advance
   split
   ·exact c
   ·exact c
  split at e
  ·rename_i b;cases e;exact⟨hp,b⟩
  ·rename_i b;exact absurd b (aHj hd _)
  ·split at e
   ·cases e
   ·exact aJw hd fuel _ j dm (a p hp) e
def aK4 {t:SetTable}{h:Int}{j:Nat}{b:Bool}(hd:t.dummies=#[])(e:t.freeSlot h=some (j,b)):t.place[SetTable.below t.place j]?≠some j:=by
 unfold SetTable.freeSlot at e
 split at e
 ·rename_i f d a;unfold SetTable.probe at a;obtain⟨rfl,c⟩:=aJw hd _ _ _ _ rfl a;cases e;exact aNi c
 ·cases e
def TabOk (b:Bool)(t:SetTable):Prop:=(b=false->t.led=true)/\t.dummies=#[]/\7<=t.mask/\(t.plain=true->Ris t.place)
def TabOk.stand {b:Bool}{t:SetTable}{n:Nat}(h:TabOk b t)(hn:1<=n):TabOk b (t.standIn n):=⟨h.1,rfl,by show 7<=4 * n+4;lia,λz=>by cases z⟩
def TabOk.off (h:TabOk b t):TabOk b { t with plain:=false }:=⟨h.1,h.2.1,h.2.2.1,λz=>by cases z⟩
def TabOk.new {b:Bool}{t:SetTable}{es:Array (Int × Value)}{h:Int}{x:Value}(c:TabOk b t):TabOk b (layNew t es h x).2.1:=by
 unfold layNew
 split
 ·rename_i a g e;have f:=aK4 c.2.1 e;dsimp only[SetTable.put];have d:(if SetTable.has t.dummies a=true then SetTable.eraseAt t.dummies (SetTable.below t.dummies a) else t.dummies)=#[]:=by
   rw[c.2.1];have:SetTable.has #[] a=false:=by unfold SetTable.has;simp
   rw[this];rfl
  rw[d];unfold SetTable.orStandIn
  split
  ·exact⟨c.1,rfl,c.2.2.1,λz=>vC (c.2.2.2 z) f⟩
  ·refine TabOk.stand ⟨c.1,rfl,c.2.2.1,λz=>vC (c.2.2.2 z) f⟩ ?_;unfold SetTable.insertAt;simp only[Array.size_append,Array.size_push,Array.size_extract];lia
 ·exact c.stand (Nat.succ_le_succ (bAE _))
def TabOk.room (c:TabOk b t)(a:t.fits n=true)(hn:n<=4):t.tooFull=false:=by unfold SetTable.fits at a;rw[bAW,beq_iff_eq] at a;unfold SetTable.tooFull SetTable.fill;rw[a.1,c.2.1];have:=c.2.2.1;simp only[Array.size_empty,Nat.add_zero,decide_eq_false_iff_not];lia
def mY {α β:Type}{R:α->β->Prop}{bs' bs:List β}(p:bs'.Perm bs):∀{as:List α},Paired R as bs->∃as',Paired R as' bs'/\as'.Perm as:=by
 induction p with
 |nil=>intro as h;exact⟨as,h,.refl _⟩
 |cons x _ ih=>
  intro as h;cases h with
  |cons r t=>obtain⟨as',a,b⟩:=ih t;exact⟨_,.cons r a,b.cons _⟩
 |swap x y l=>
  intro as h;cases h with
  |cons r t=>
   cases t with
   |cons r2 t2=>exact⟨_,.cons r2 (.cons r t2),.swap ..⟩
 |trans _ _ ih1 ih2=>intro as h;obtain⟨f,a,b⟩:=ih2 h;obtain⟨e,c,d⟩:=ih1 a;exact⟨e,c,d.trans b⟩
def rF {α β:Type}{R:α->β->Prop}{as:List α}{bs:List β}{a:α}{b:β}(h:Paired R as bs)(r:R a b):Paired R (as++[a]) (bs++[b]):=by
 induction h with
 |nil=>exact .cons r .nil
 |cons q _ ih=>exact .cons q ih
def aA0 {α β:Type}{R:α->β->Prop}{as:List α}{bs:List β}(h:Paired R as bs):∀a∈as,∃b∈bs,R a b:=by
 induction h with
 |nil=>intro a ha;cases ha
 |cons q _ ih=>
  intro a ha;rcases List.mem_cons.mp ha with rfl|ha
  ·exact⟨_,j5,q⟩
  ·obtain⟨b,c,r⟩:=ih a ha;exact⟨b,j7 _ c,r⟩
def mR {α β:Type}{R:α->β->Prop}{as:List α}{bs:List β}(h:Paired R as bs):∀b∈bs,∃a∈as,R a b:=by
 induction h with
 |nil=>intro a c;cases c
 |cons q _ ih=>
  intro b hb;rcases List.mem_cons.mp hb with rfl|hb
  ·exact⟨_,j5,q⟩
  ·obtain⟨a,c,r⟩:=ih b hb;exact⟨a,j7 _ c,r⟩
section
variable {prog:Program}{w:World}{κ:Type}[DecidableEq κ]{knd:KeyKind prog w κ}{A:Around}{E:bF0}{s:Shared}
def byT (w:World):Bool:=w.params.followText "set-order"
abbrev ElK (knd:KeyKind prog w κ):κ->Int × Value->Prop:=λk e=>knd.is k e.2=true/\e.1=knd.hash k/\e.2.scannable=true
def xJ (knd:KeyKind prog w κ)(h:Heap)(D:Addr)(kl:List κ):Prop:=∃o es ep t,h.get? D=some o/\o.ExactSet/\o.data=.set es ep t/\t.fits es.size=true/\TabOk (byT w) t/\Paired (ElK knd) kl es.toList
def xJ.at (x:xJ knd h D kl)(e:∀o,h.get? D=some o->h'.get? D=some o):xJ knd h' D kl:=by obtain⟨o,c,b,t,a,r⟩:=x;exact⟨o,c,b,t,e o a,r⟩
def aWo (B:knd.is k x=true)(u:x.scannable=true)(hS:xJ knd s.heap D kl)(hroom:kl.length<4)
  (h:∀h' kl' b,Heap.SameBut D s.heap h'->xJ knd h' D kl'->kl'.Perm (if k∈kl then kl else kl++[k])->Q b { s with heap:=h' }):wpAny (model prog w) A (setAddHashed D x (knd.hash k)) Q E s:=by
 obtain⟨o,l,ep,t,v,I,hd,P,J,p⟩:=hS;have hn:kl.length=l.size:=by rw[Paired.length p,v7]
 have F:ElemsOf knd l.toList:=λe T=>by obtain⟨X,_,G,r2,r3⟩:=mR p e T;exact⟨⟨X,G,r2⟩,r3⟩
 have hb:l.size<scanBound:=by unfold scanBound;lia
 unfold setAddHashed setAddHashedIn;refine bAU (b7 (bBL v hd P ?_));dsimp only;rw[byScan_of u hb F];simp only[↓reduceIte];unfold setAddByScan;refine b7 (b7 (bDU (b7 (wpAny_setScan_of B v hd P F ?_))));cases hr:List.findIdx? (λe=>knd.is k e.2) l.toList with
 |some j=>
  dsimp only;obtain⟨hj,W,_⟩:=List.findIdx?_eq_some_iff_getElem.mp hr;obtain⟨X,U,G,_⟩:=mR p _ (bAO hj);have K:k∈kl:=by rw[knd.inj _ k X W G];exact U
  refine d8 (d8 ?_);have e:s={ s with heap:=s.heap }:=by cases s;rfl
  rw[e];exact h s.heap kl _ (Heap.SameBut.refl D s.heap) ⟨o,l,ep,t,v,I,hd,P,J,p⟩ (by rw[if_pos K])
 |none=>
  dsimp only;have H:k∉kl:=λz=>by obtain⟨e,T,G,_⟩:=aA0 p k z;have:=List.findIdx?_eq_none_iff.mp hr e T;rw[G] at this;cases this
  have O:∀b {g:Shared} {M:Unit->Shared->Prop},M () g->wpAny (model prog w) A (match b with|true=>rule "set.scan.the-table-gave-way"|false=>pure ()) M E g:=λb g M hq=>match b with
   |true=>bDU hq
   |false=>d8 hq
  have a:=layNew_perm t l (knd.hash k) x;have c:=layNew_fits t l (knd.hash k) x;have d:TabOk (byT w) (layNew t l (knd.hash k) x).2.1:=J.new;generalize hL:layNew t l (knd.hash k) x=L at a c d ⊢;obtain⟨f,N,n,Y⟩:=L;dsimp only at a c d ⊢;rw[bFU] at a;obtain⟨kl',V,pm⟩:=mY a (rF p (show ElK knd k (knd.hash k,x) from ⟨B,rfl,u⟩));have a0:f.size=l.size+1:=by rw[<-v7,a.length_eq,v9,v7];rfl
  refine b7 (O _ ?_);have C:∀i:SetTable,TabOk (byT w) i->i.fits f.size=true->∀(R:Option Bool->Shared->Prop),(∀h',Heap.SameBut D s.heap h'->xJ knd h' D kl'->R (some true) { s with heap:=h' }) ->
    wpAny (model prog w) A (storeSet D f i) (λ_ g=>i.tooFull=false/\R (some true) g) E s:=λi h2 Z R hR=>by
   refine bFV v hd ⟨h2.room Z (by lia),?_⟩ (fits_of_scanBound (by unfold scanBound;lia));have hg:=bBJ (Obj.putSet f i) v (by rw[putSet_of f i hd];rfl);rw[putSet_of f i hd] at hg;exact hR _ (bAY s.heap D (Obj.putSet f i)) ⟨_,f,ep+1,i,hg,I,rfl,Z,h2,V⟩
  have m:∀h',Heap.SameBut D s.heap h'->xJ knd h' D kl'->Q true { s with heap:=h' }:=λh' y q=>h h' kl' true y q (by rw[if_neg H];exact pm)
  split
  ·refine b7 ?_;rw[hashByValue_scannable 8 u];refine d8 ?_;refine b7 (bBQ (C (if plainKind x=true then N else { N with plain:=false }) (by split;exact d;exact d.off) (by split;exact c;exact SetTable.fits_plain_off c) (λr g=>wpAny (model prog w) A (match r with|some b=>pure b|none=>unsupported "x") Q E g) λh' y q=>d8 (m h' y q)) (λ_ g ⟨S,q⟩=>?_) λ_ _ z=>z);rw[S];simp only[bFP,bBB,↓reduceIte];exact d8 q
  ·refine b7 (d8 ?_);simp only[↓reduceIte];refine b7 (bBQ (C N d c (λr g=>wpAny (model prog w) A (match r with|some b=>pure b|none=>unsupported "x") Q E g) λh' y q=>d8 (m h' y q)) (λ_ g ⟨S,q⟩=>?_) λ_ _ z=>z);rw[S];simp only[bFP,bBB,↓reduceIte];exact d8 q
def Ded (kl xs:List κ):Prop:=kl.Nodup/\(∀k,k∈kl↔k∈xs)/\kl.length<=xs.length
def Ded.more {l kl' xs:List κ}{k:κ}(h:Ded l xs)(p:kl'.Perm (if k∈l then l else l++[k])):Ded kl' (xs++[k]):=by
 obtain⟨f,d,i⟩:=h;by_cases c:k∈l
 ·rw[if_pos c] at p;refine⟨p.nodup_iff.mpr f,λy=>?_,by rw[p.length_eq,v9];lia⟩;rw[p.mem_iff,d,bDQ,bCM];exact⟨.inl,λz=>z.elim id λe=>e ▸ (d k).mp c⟩
 ·rw[if_neg c] at p;refine⟨p.nodup_iff.mpr (List.nodup_append.mpr ⟨f,by simp,λa j b g e=>?_⟩),λy=>?_,by rw[p.length_eq,v9,v9];exact Nat.add_le_add_right i _⟩
  ·rw[bCM] at g;exact c (g ▸ e ▸ j)
  ·rw[p.mem_iff,bDQ,bDQ,d]
def aVf (d:h.get? D=some (cO (!byT w))):xJ knd h D []:=by refine⟨_,#[],0,_,d,⟨rfl,rfl,rfl⟩,rfl,rfl,⟨λe=>?_,rfl,d9 _,λ_=>λa b c=>absurd c (by show ¬ (a<0);lia)⟩,.nil⟩;rw[e];rfl
def aJe (a:Value)(h:Q₁ (.ref s.heap.objs.size) { s with heap:=s.heap.push (cO (!byT w)) }):codeAny (model prog w) A (.call (.builtin "set.__new__") ⟨[.type "set",a],[]⟩) (wants Q₁ E) s:=by have b:=sub_set_self;refine codeAny_of_tree (show wpAny _ A.in1 (do checkBuiltinCall "set.__new__" ⟨[.type "set",a],[]⟩;again (.builtin "set.__new__" ⟨[.type "set",a],[]⟩)) _ _ s from b7 (bEJ (F.newCall_set_1 a) (d8 ⟨bCU F.plain_set_new _,bBU F.entry_set_new ?_⟩)));rw[bBM F.plain_set_new _];unfold Builtin.«set.__new__» Builtin.Frozenset.newClass;obtain⟨c,g,d,e,f⟩:=s;dsimp only;wp_walk;refine bDG (d8 ?_);dsimp only;simp only[newObj];exact b7 (wpAny_alloc (d8 (d8 h)))
def Ex (h0 h:Heap):Prop:=∀b o,h0.get? b=some o->h.get? b=some o
structure Kset (prog:Program)(w:World)(κ:Type)[DecidableEq κ](A:Around)(h0:Heap)(D:Addr)(S:Heap->List κ->Prop)(V:κ->Value->Prop)(m:Nat):Prop where
 at_:∀{h h':Heap} {kl:List κ},S h kl->(∀o,h.get? D=some o->h'.get? D=some o)->S h' kl
 add:∀{A':Around} {E:bF0} {s:Shared} {kl:List κ} {k:κ} {v:Value} {Q:Bool->Shared->Prop},A'.units<=A.units+9->Ex h0 s.heap->V k v->S s.heap kl->kl.length<m->(∀h' tk kl' b,Heap.SameBut D s.heap h'->S h' kl'->kl'.Perm (if k∈kl then kl else kl++[k])->Q b { s with heap:=h',toks:=tk })->wpAny (model prog w) A' (setAdd D v) Q E s
 new:∀{h:Heap},h.get? D=some (cO (!byT w))->S h []
variable {h0:Heap}
def aS3 (W:Walks prog w A.in1 I fp wr n P St)(L:D∉fp)(Z:Kset prog w κ A0 h0 D S V m)(hA:A.units+1<=A0.units+9)(a0:∀b∈D::wr,h0.get? b=none)
  (ks:List κ) (N:ks.length=n) (F:∀i v,P i v->∃k,ks[i]?=some k/\V k v) (U:n<=m) :
  ∀k i s kl,i+k=n->St i s.heap->Ex h0 s.heap->S s.heap kl->Ded kl (ks.take i) ->
   (∀h' tk kl',(∀b o,b∉D::wr->s.heap.get? b=some o->h'.get? b=some o)->S h' kl'->Ded kl' ks->R (.ok (.ret .none)) { s with heap:=h',toks:=tk }) ->
   codeAny (model prog w) A (.builtin "set.update.loop" ⟨[.ref D,.ref I],[]⟩) R s:=by
 have g:D∉wr:=λq=>L (W.sub _ q);have j:∀{b:Addr} {o:Obj},h0.get? b=some o->b∉D::wr:=λe z=>by rw[a0 _ z] at e;cases e
 intro k
 induction k with
 |zero=>
  intro i s kl T p x y h q;obtain rfl:i=n:=by lia
  refine bBU bDY ?_;rw[bBM bCS _];refine b7 (W.done s _ _ p λh' tk l=>?_);rw[bAZ (Nat.le_of_eq N)] at h;exact d8 (q h' tk kl (λb o a e=>l b o (λz=>a (j7 _ z)) e) (Z.at_ y λo e=>l D o g e) h)
 |succ k ih=>
  intro i s kl T p x y h q;refine bBU bDY ?_;rw[bBM bCS _];refine b7 (W.item i s _ _ (by lia) p λv Y G J B c=>?_);obtain⟨kk,Q,u⟩:=F i v J;have t:Ex h0 Y:=λb o e=>c b o (λz=>j e (j7 _ z)) (x b o e);show wpAny _ A.in1 (holding [v] (setAdd D v) >>= _) _ _ _;refine b7 (bAU ?_);have lt:(ks.take i).length=i:=by rw[bAC];lia
  refine Z.add hA t u (Z.at_ y λo e=>c D o g e) (by have:=h.2.2;lia) λX M r b2 f E O=>?_;have H:ks.take (i+1)=ks.take i++[kk]:=by rw[bBH,Q];rfl
  have d:∀b o,b∉D::wr->s.heap.get? b=some o->X.get? b=some o:=λb o a e=>by rw[f.2 b (λz=>a (by rw[z];exact j5))];exact c b o (λz=>a (j7 _ z)) e
  refine d8 ⟨bCU bCS _,ih (i+1) _ r (by lia) (W.frame _ _ _ B λb U o e=>?_) (λb o e=>d b o (j e) (x b o e)) E (by rw[H];exact h.more O) λh' tk kl' l C K=>q h' tk kl' (λb o a e=>l b o a (d b o a e)) C K⟩;rw[f.2 b (λz=>L (by rw[<-z];exact U))];exact e
def aRk {A:Around}{R:Fin->Shared->Prop}{E:bF0}{s:Shared}{l:Addr}{its:Array Value}{ks:List κ}(L:A.handled=none)(Z:Kset prog w κ A0 s.heap s.heap.objs.size S V m)(T:A.units+1<=A0.units+9)(O:s.heap.IsList l its)(D:ks.length=its.size)
  (z:∀(i:Nat) (v:Value),its[i]?=some v->∃k,ks[i]?=some k/\V k v) (a:its.size<=m)
  (q:∀h' tk kl,S h' kl->Ded kl ks->(∀b o,b<s.heap.objs.size->s.heap.get? b=some o->h'.get? b=some o)->R (.done (.ret .none)) { s with heap:=h',toks:=tk }) :
  wpAny (model prog w) A (Builtin.«set.__init__» ⟨[.ref s.heap.objs.size,.ref l],[]⟩) R E { s with heap:=s.heap.push (cO (!byT w)) }:=by
 obtain⟨⟨U,H,W,u⟩,g,j,C,h⟩:=id O;simp only at j h;subst j h;have G:(s.heap.push (cO (!byT w))).get? s.heap.objs.size=some (cO (!byT w)):=j8 _ rfl;have Q:Shared.TypeIs { s with heap:=s.heap.push (cO (!byT w)) } (.ref s.heap.objs.size) "set":=⟨_,G,rfl⟩;have f:(s.heap.push (cO (!byT w))).get? l=some { cls:=.type "list",dict:=H,data:=.seq its C,slots:=u }:=d7 _ g;have M:=F.sub_list_set;have N:=F.sub_list_frozenset;have P:(Value.type "list" == Value.type "dict")=false:=by decide
 have c:(s.heap.push (cO (!byT w))).IsList l its:=⟨_,f,rfl,C,rfl⟩;have n:l<s.heap.objs.size:=t8 g;unfold Builtin.«set.__init__» noKeywords Builtin.Frozenset.updateFrom;generalize t:pyIter=PI;wp_walk;subst t;refine bCP c ?_;refine b7 (wpAny_runValue ?_);have p:(s.heap.push (cO (!byT w))).objs.size=s.heap.objs.size+1:=bBS ..;have r:l≠(s.heap.push (cO (!byT w))).objs.size:=by rw[p];exact z9 (bBR n)
 have x:s.heap.objs.size∉[(s.heap.push (cO (!byT w))).objs.size,l]:=by rw[p];simp only[bAP,bAG,or_false,not_or];exact⟨z9 (bCV _),bDJ n⟩
 have B:∀b,s.heap.objs.size<=b->s.heap.get? b=none:=λb a=>by
  cases e:s.heap.get? b with
  |none=>rfl
  |some o=>exact absurd (t8 e) (Nat.not_lt.mpr a)
 refine aS3 (Walks.list (by first|exact L|simp[L]) _ l r its) x Z T (λb a=>?_) ks D z a its.size 0 _ [] (by lia) ⟨⟨_,j8 _ rfl,rfl,rfl⟩,c.push _⟩ (λb o e=>d7 _ (d7 _ e)) ?_ ⟨List.nodup_nil,λk=>by simp,bAE _⟩ λh' tk kl K y I=>?_
 ·rw[p] at a;simp only[bAP,bAG,or_false] at a;rcases a with rfl|rfl
  ·exact B _ (d9 _)
  ·exact B _ (bDH _)
 ·have J:((s.heap.push (cO (!byT w))).push { cls:=.type "list_iterator",data:=.fields #[.ref l,.int 0 0] }).get? s.heap.objs.size=some (cO (!byT w)):=d7 _ G;exact Z.new J
 ·refine d8 (d8 (q h' tk kl y I λb o d e=>K b o ?_ (d7 _ (d7 _ e))));rw[p];simp only[bAP,bAG,or_false,not_or];exact⟨z9 d,z9 (bBR d)⟩
def zY {l:Addr}{its:Array Value}{ks:List κ}{Q:bF0}(B:A.handled=none)(Z:Kset prog w κ A s.heap s.heap.objs.size S V m)(C:s.heap.IsList l its)(p:ks.length=its.size)
  (n:∀(i:Nat) (v:Value),its[i]?=some v->∃k,ks[i]?=some k/\V k v) (H:its.size<=m)
  (q:∀h' tk kl,S h' kl->Ded kl ks->(∀b o,b<s.heap.objs.size->s.heap.get? b=some o->h'.get? b=some o)->Q (.ref s.heap.objs.size) { s with heap:=h',toks:=tk }) :
  wpAny (model prog w) A (call (.type "set") [.ref l]) Q E s:=by
 have d:=F.called_set;obtain⟨c,N,j⟩:=d.mro;have K:=d.made;have D:=d.sub;have M:=d.notType;have G:=d.canCreate;have J:=F.typeCall_set_1 (.ref l);refine bFM (codeAny_of_tree (show wpAny _ _ (callAny (.type "set") _) _ _ _ from d8 ⟨Code.quiet_builtin _ (by trivial),bBU F.entry_type_call ?_⟩));rw[Around.under_plain (weight_type_call_type "set" [.ref l] []) (by rfl)]
 repeat (any_goals (first|assumption|wp_step))
 refine bCZ (aJe (.ref l) (Q₁:=λobj t=>obj=.ref s.heap.objs.size/\t={ s with heap:=s.heap.push (cO (!byT w)) }) (E:=E) ⟨rfl,rfl⟩) λr t f=>?_;rcases r with e|fl
 ·exact f
 rcases fl with _|_|_|obj
 ·exact f.elim
 ·exact f.elim
 ·exact f.elim
 obtain⟨rfl,rfl⟩:=f;have z:Shared.TypeIs { s with heap:=s.heap.push (cO (!byT w)) } (.ref s.heap.objs.size) "set":=⟨_,j8 _ rfl,rfl⟩;have L:=d.init.lookup;have I:=d.init.bind (.ref s.heap.objs.size)
 repeat (any_goals (first|assumption|wp_step))
 refine bCZ (bFG (R:=wants (λr u=>r=.none/\∃h' tk kl,u={ s with heap:=h',toks:=tk }/\S h' kl/\Ded kl ks/\∀b o,b<s.heap.objs.size->s.heap.get? b=some o->h'.get? b=some o) E)
  d.init.plain F.entry_set_init (check_set_init_1 z (aRk (by first|exact B|simp[B]) Z (by simp only[Around.in1_units];lia) C p n H λh' tk kl x g h=>⟨rfl,h',tk,kl,rfl,x,g,h⟩))) λy u a=>?_
 rcases y with e|fl
 ·exact a
 rcases fl with _|_|_|v
 ·exact a.elim
 ·exact a.elim
 ·exact a.elim
 obtain⟨rfl,h',tk,kl,rfl,x,g,h⟩:=a
 repeat (any_goals (first|assumption|wp_step))
 exact q h' tk kl x g h
def bDf (A:Around)(h0:Heap)(D:Addr):Kset prog w κ A h0 D (λh kl=>xJ knd h D kl) (λk v=>knd.is k v=true/\v.scannable=true) 4:=⟨λx e=>x.at e,λ_ _ d i f q=>by unfold setAdd;exact bAU (b7 (knd.pyHash d.1 (aWo d.1 d.2 i f λl a j b c g=>q l _ a j b c g))),aVf⟩
def aSv (e:A.handled=none)(d:s.heap.IsList l its)(c:ks.length=its.size)
  (a:∀(i:Nat) (v:Value),its[i]?=some v->∃k,ks[i]?=some k/\knd.is k v=true/\v.scannable=true) (f:its.size<=4)
  (q:∀h' tk kl,xJ knd h' s.heap.objs.size kl->Ded kl ks->(∀b o,b<s.heap.objs.size->s.heap.get? b=some o->h'.get? b=some o)->Q (.ref s.heap.objs.size) { s with heap:=h',toks:=tk }) :
  wpAny (model prog w) A (call (.type "set") [.ref l]) Q E s:=zY e (bDf A s.heap s.heap.objs.size) d c a f q
end
open PySem.Spec PyProof.Rows
def TxS (prog:Program)(w:World)(h:Heap)(D:Addr)(kl:List Str):Prop:=h.SetOf (strKind prog w) D (λy=>decide (y∈kl)) kl.length
def TxS.at (x:TxS prog w h D kl)(e:∀o,h.get? D=some o->h'.get? D=some o):TxS prog w h' D kl:=by obtain⟨o,c,b,t,a,r⟩:=x;exact⟨o,c,b,t,e o a,r⟩
def bBo (A:Around)(h0:Heap)(D:Addr):Kset prog w Str A h0 D (λh kl=>TxS prog w h D kl) (λk v=>∃t,v=.str k t) 1000:=⟨λx e=>x.at e,λ{l E s kl k v Q} _ _ f i j q=>by
 obtain⟨t,rfl⟩:=f;unfold setAdd;refine bAU (b7 ((strKind prog w).pyHash (k:=k) (strKind_is _ _ _ _) ?_));refine wpAny_setAddHashed_of (knd:=strKind prog w) (strKind_is _ _ _ _) rfl i (by unfold scanBound;lia) λg b a=>q g _ (if k∈kl then kl else kl++[k]) _ b ?_ (.refl _);have c:(λy=>decide (y∈if k∈kl then kl else kl++[k]))=λy=>(decide (y∈kl) || decide (y=k)):=funext λy=>by
  by_cases z:k∈kl
  ·rw[if_pos z,bCI];simp only[Bool.or_eq_true,decide_eq_true_eq];exact⟨.inl,λh=>h.elim id λe=>e ▸ z⟩
  ·rw[if_neg z,bCI];simp only[Bool.or_eq_true,decide_eq_true_eq,bDQ,bCM]
 show Heap.SetOf _ _ _ _ _;rw[c];by_cases z:k∈kl
 ·rw[if_pos (m9 z)] at a;rw[if_pos z];exact a
 ·rw[if_neg (by rw[v6 z];exact v8)] at a;rw[if_neg z,v9];exact a,λd=>(PyProof.Rows.setObjOf_fresh (knd:=strKind prog w) (!byT w)).setOf d (by decide)⟩
theorem aC2:∀(ss kl:List Str),kl.Nodup->(∀x∈kl,x∈ss)->kl.length<=ss.length/\(kl.length=ss.length->ss.Nodup)
 |[],kl,_,h=>by
  cases kl with
  |nil=>exact⟨d9 _,λ_=>List.nodup_nil⟩
  |cons a l=>exact absurd (h a j5) bAG
 |a::r,kl,nd,h=>by
  by_cases z:a∈kl
  ·have m:=List.length_erase_of_mem z;have f:∀x∈kl.erase a,x∈r:=λx b=>by obtain⟨c,i⟩:=(nd.mem_erase_iff).mp b;exact (List.mem_cons.mp (h x i)).resolve_left c
   obtain⟨k,j⟩:=aC2 r _ (nd.erase a) f;have d:=List.length_pos_of_mem z;refine⟨by rw[j9];lia,λe=>?_⟩;rw[j9] at e;refine List.nodup_cons.mpr ⟨λg=>?_,j (by lia)⟩;have:=(aC2 r kl nd λx b=>(List.mem_cons.mp (h x b)).elim (λe=>e ▸ g) id).1;lia
  ·have:=(aC2 r kl nd λx b=>(List.mem_cons.mp (h x b)).resolve_left λe=>z (e ▸ b)).1;exact⟨by rw[j9];lia,λe=>by rw[j9] at e;lia⟩
def aJk {e b:List Str}(d:Ded e b):e.length=b.length↔b.Nodup:=
 ⟨(aC2 b e d.1 λx a=>(d.2.1 x).mp a).2,λc=>Nat.le_antisymm d.2.2 (aC2 e b c λx a=>(d.2.1 x).mpr a).1⟩
end PySem
namespace L2
open PySem PySem.Spec PyProof.Rows
def aT1 (P:Program)(w:World)(D:Addr)(kl:List Str):HO:=.ext λh=>TxS P w h D kl
def bAn (P:Program)(w:World)(K:bFZ):List V->Hp->VK->Prop:=λxs H Q=>∃p ss,xs=[.ref p]/\SqL K H p (ss.map V.str)/\ss.length<=1000/\∀D kl,H D=none->Ded kl ss->Q (.ref D) (upd H D (aT1 P w D kl))
def aO4 (N:X.calm=true):cF X (.type "set") (bAn X.prog X.w X.K):=by
 intro B s σ H P T Q I r h;obtain⟨p,D,rfl,C,E,q⟩:=h;obtain⟨u,rfl,G⟩:=r.one;cases G;obtain⟨d,g,L,O⟩:=I.list C;have a:=g.length;rw[j4] at a;refine zY (I.ok.hd N) (bBo _ _ _) L.isList (by rw[j6];exact a) (λi v z=>?_) (by rw[j6,<-a];exact E) λm M f x F J=>?_
 ·have c:d[i]?=some v:=by simpa using z
  have n:i<D.length:=by rw[a];exact (List.getElem?_eq_some_iff.mp c).1
  obtain⟨u,j,t,rfl⟩:=g.get (by rw[v5,b8 n];rfl);rw[c] at j;cases j;exact⟨_,b8 n,t,rfl⟩
 ·have e:∃o,m.get? s.heap.objs.size=some o:=by obtain⟨o,_,_,_,A,_⟩:=x;exact⟨o,A⟩
  exact⟨.ref s.heap.objs.size,_,I.laid (o:=aT1 X.prog X.w s.heap.objs.size f) (λb o l=>J b o (t8 l) l) (d9 _) (show TxS X.prog X.w m s.heap.objs.size f/\_/\_ from ⟨x,e,λS R y k=>y.at k⟩),rfl,q _ _ (I.hok.fresh (d9 _)) F⟩
def aMs:cF X (.builtin "len") (λxs H Q=>∃D kl,xs=[.ref D]/\H D=some (aT1 X.prog X.w D kl)/\Q (.int (kl.length:Nat)) H):=by intro l s σ H xs p Q I r h;obtain⟨D,d,rfl,i,q⟩:=h;obtain⟨u,rfl,f⟩:=r.one;cases f;obtain⟨⟨o,m,n,t,j,a,hd,e,b,g,k,c⟩,_⟩:=I.hok D _ i;refine call_len_set j a hd k (by unfold scanBound at g;lia) ?_;rw[c];exact⟨.int (d.length:Nat),H,I.tok _,⟨_,rfl⟩,q⟩
def bFo (K:bFZ):List V->Hp->VK->Prop:=λxs H Q=>∃(p:Addr) (bs:List Bool),xs=[.ref p]/\SqL K H p (bs.map V.bl)/\Q (.bl (bs.any id)) H
def any_range (bs:List Bool):(List.range bs.length).any (λi=>bs.getD i false)=bs.any id:=by
 rw[bCI,bDW,bDW];constructor
 ·rintro⟨i,a,h⟩;have a:=List.mem_range.mp a;rw[j0,b8 a] at h;exact⟨_,bAO a,h⟩
 ·rintro⟨b,c,h⟩;obtain⟨i,a,e⟩:=List.mem_iff_getElem.mp c;refine⟨i,List.mem_range.mpr a,?_⟩;rw[j0,b8 a];rw[e];exact h
def aUz (M:X.calm=true):cF X (.builtin "any") (bFo X.K):=by
 intro C s σ H O R Q I r h;obtain⟨p,c,rfl,E,q⟩:=h;obtain⟨u,rfl,F⟩:=r.one;cases F;obtain⟨d,m,l,N⟩:=I.list E;have k:=m.length;rw[j4] at k;have j:p≠s.heap.objs.size:=by obtain⟨o,B,_⟩:=l.isList;exact z9 (t8 B)
 refine call_any_walk (bCP l.isList ?_);refine⟨s.heap.objs.size,_,_,_,_,_,λi=>c.getD i false,rfl,Walks.list (show X.A.in1.handled=none from I.ok.hd M) _ p j d.toArray,⟨⟨_,j8 _ rfl,rfl,rfl⟩,?_⟩,?_,λP L G=>?_⟩
 ·exact l.isList.at λo e=>d7 _ e
 ·intro i v x w J y a;have f:d[i]?=some v:=by simpa using y
  have t:i<c.length:=by rw[k];exact (List.getElem?_eq_some_iff.mp f).1
  obtain⟨u,n,D⟩:=m.get (by rw[v5,b8 t];rfl);rw[f] at n;cases n;cases D;have e:c.getD i false=c[i]:=by rw[j0,b8 t];rfl
  replace a:w (c.getD i false) x:=a;rw[e] at a;exact bBG a
 ·have e:(List.range d.toArray.size).any (λi=>c.getD i false)=c.any id:=by rw[j6,<-k];exact any_range c
  rw[e];refine⟨.bl (c.any id),H,?_,rfl,q⟩;exact I.kept λb o g=>G b o (by
   intro z;have:b=s.heap.objs.size:=by simpa using z
   rw[this] at g;exact absurd (t8 g) (bBN _)) (d7 _ g)
def bC3:List V->Hp->VK->Prop:=λxs H Q=>∃z:Str,xs=[.str z]/\z.length<=1000/\∀l H',H l=none->Same H H'->H' l=some (.lst ((List.range z.cps.size).map λi=>V.str (sgn z i)))->Q (.ref l) H'
def aNl (z:Str)(n:Nat):∀(k:Nat) (vs:List Value),vs.length=n->(∀(j:Nat) (v:Value),vs[j]?=some v->∃t,v=.str (sgn z (k+j)) t)->Vals ((List.range' k n).map λi=>V.str (sgn z i)) vs:=by
 induction n with
 |zero=>intro k vs a _;cases bAQ a;exact .nil
 |succ n ih=>
  intro k vs a h;cases vs with
  |nil=>cases a
  |cons v vs=>obtain⟨t,rfl⟩:=h 0 v rfl;rw[List.range'_succ,bAF];refine .cons ⟨t,rfl⟩ (ih (k+1) vs (by simpa using a) λj u e=>?_);obtain⟨b,c⟩:=h (j+1) u e;exact⟨b,by rw[c,show k+(j+1)=k+1+j by lia]⟩
def aN0 (B:X.calm=true):cF X (.type "list") bC3:=by
 intro n s σ H C E Q I r h;obtain⟨z,rfl,g,q⟩:=h;obtain⟨u,rfl,t,rfl⟩:=vals1 r;refine call_list_str (I.ok.hd B) z t (λD k a p x A b=>?_) (small g);have d:=aNl z z.cps.size 0 a.toList (by rw[v7];exact b.1) λj v e=>by have y:=b.2 j v (by rw[<-bBK];exact e);obtain⟨c,t',l,w⟩:=y;refine⟨t',?_⟩;rw[w];unfold sgn;rw[bDA,w6,l];rfl
 rw[<-List.range_eq_range'] at d;have m:a.toList.toArray=a:=by simp
 have f:H s.heap.objs.size=none:=I.hok.fresh (d9 _);refine⟨.ref s.heap.objs.size,_,I.laid (t':=k) (o:=.lst ((List.range z.cps.size).map λi=>V.str (sgn z i))) x (d9 _) ?_,rfl,q _ _ f (aZ f _) aG⟩;refine⟨by rw[j4,bAK];exact small g,a.toList,p,d,?_⟩;rw[m];exact A
def aNg {X:Cx}{K:bFZ}(h:X.K=K:=by rfl):OpR X (compareOp .In) (rIn K false):=by subst h;exact yX
structure bCy (E:Hp->Hp->Prop)(H:Hp):Prop where
 new:∀D o,H D=none->E H (upd H D o)
 trans:∀{H1 H2},E H H1->E H1 H2->E H H2
 upd:∀D o H',H D=none->E H H'->E H (upd H' D o)
 keep:∀D H1 H2 xs,H D=none->E H H1->H1 D=some (.lst xs)->E H1 H2->H2 D=some (.lst xs)
def aQm (H:Hp):bCy Same H:=⟨λD o h=>aZ h o,λa b=>a.trans b,λD o f h s=>gJ h s,λD d c e _ _ h s=>s _ _ h⟩
def oG (J:It)(H1:Hp)(σ0:L2.St)(g:TG)(tt:TT)(te:TE)(Q:VK):Prop:=∀D,H1 D=none->∃W:Nat->Nat->L2.St->Hp->List V->Prop,(∃m,W 0 m σ0 (L2.upd H1 D (.lst [])) []) /\
 ∀i m σ' H' ys,W i m σ' H' ys->H' D=some (.lst ys)/\((J.stop i H'/\Q (.ref D) H')\/(J.go i H'/\∀x H2,J.yld i H' x H2->g x σ' H2 fun σ3 H3=>tt σ3 H3 λb H4=>
  if b=true then te σ3 H4 λy H5=>H5 D=some (.lst ys)/\ys.length<sizeLine/\∃m',m'<m/\W (i+1) m' σ3 (L2.upd H5 D (.lst (ys++[y]))) (ys++[y]) else H4 D=some (.lst ys)/\∃m',m'<m/\W (i+1) m' σ3 H4 ys))
section
variable {X:Cx}{K:bFZ}{scope:Scope}{N:List Str}{tl te:TE}{tt:TT}{g:TG}{σ:L2.St}{H:Hp}{Q:VK}
def jT (c:L2.St)(b:Cap X scope N σ c)(h:tl σ H λv H1=>∃a,v=.ref a/\(∃xs,SqL K H1 a xs)/\oG (Itl K a) H1 c g tt te Q):jB X scope N (aLj K tl) g tt te σ H Q:=⟨c,b,h⟩
def oE (c:L2.St)(b:Cap X scope N σ c)(h:tl σ H λv H1=>∃a,v=.ref a/\(∃xs,SqT K H1 a xs)/\oG (Itt K a) H1 c g tt te Q):jB X scope N (aZa K tl) g tt te σ H Q:=⟨c,b,h⟩
def zQ {a:Addr}{xs:List V}{E:Hp->Hp->Prop}(d:∀H',E H H'->SqT K H' a xs):∀H' i x,E H H'->xs[i]?=some x->(Itt K a).go i H'/\∀y H2,(Itt K a).yld i H' y H2->H2=H'/\y=x:=λH' i x s e=>
 ⟨⟨xs,x,d H' s,e⟩,λy H2 g=>by obtain⟨c,f⟩:=g;have b:=f xs (d H' s);rw[e] at b;cases b;exact⟨c,rfl⟩⟩
def oM {a:Addr}{xs:List V}{E:Hp->Hp->Prop}(b:∀H',E H H'->SqT K H' a xs):∀H',E H H'->(Itt K a).stop xs.length H':=λH' s=>⟨xs,b H' s,d9 _⟩
def aXa {a:Addr}{xs:List V}{E:Hp->Hp->Prop}(d:∀H',E H H'->SqL K H' a xs):∀H' i x,E H H'->xs[i]?=some x->(Itl K a).go i H'/\∀y H2,(Itl K a).yld i H' y H2->H2=H'/\y=x:=λH' i x s e=>
 ⟨⟨xs,x,d H' s,e⟩,λy H2 g=>by obtain⟨c,f⟩:=g;have b:=f xs (d H' s);rw[e] at b;cases b;exact⟨c,rfl⟩⟩
def aRo {a:Addr}{xs:List V}{E:Hp->Hp->Prop}(b:∀H',E H H'->SqL K H' a xs):∀H',E H H'->(Itl K a).stop xs.length H':=λH' s=>⟨xs,b H' s,d9 _⟩
inductive tY (R:Nat->V->Prop):List Nat->List V->Prop
 |nil:tY R [] []
 |cons {i y is ys}:R i y->tY R is ys->tY R (i::is) (y::ys)
def tY.snoc (h:tY R is ys)(r:R i y):tY R (is++[i]) (ys++[y]):=by
 induction h with
 |nil=>exact .cons r .nil
 |cons r' _ ih=>exact .cons r' ih
def tY.imp (h:tY R is ys)(k:∀i y,R i y->S i y):tY S is ys:=by
 induction h with
 |nil=>exact .nil
 |cons r _ ih=>exact .cons (k _ _ r) ih
def tY.len {R:Nat->V->Prop}{is:List Nat}{ys:List V}(h:tY R is ys):is.length=ys.length:=by
 induction h with
 |nil=>rfl
 |cons _ _ ih=>rw[j9,j9,ih]
def aJn (E:Hp->Hp->Prop)(n:bCy E H)(xs:List V)(p:Nat->Bool)(Rel:Nat->Hp->V->Prop)
  (A:∀{i H1 H2 y},E H H1->E H1 H2->Rel i H1 y->Rel i H2 y) (F:∀{i H1 D ys zs y},H D=none->E H H1->H1 D=some (.lst ys)->Rel i H1 y->Rel i (L2.upd H1 D (.lst zs)) y)
  (At:Nat->L2.St->Prop) (N:L2.St->Prop) (W:N σ0) (hsz:xs.length<=sizeLine)
  (J:It) (L:∀H' i x,E H H'->xs[i]?=some x->J.go i H'/\∀y H2,J.yld i H' y H2->H2=H'/\y=x) (w:∀H',E H H'->J.stop xs.length H')
  (T:∀(i:Nat) (x:V) σ' H' Q',xs[i]?=some x->N σ'->E H H'->(∀σ2,N σ2->At i σ2->Q' σ2 H')->g x σ' H' Q')
  (M:∀(i:Nat) (x:V) σ2,xs[i]?=some x->At i σ2->∀H' R,E H H'->(∀H2,E H' H2->R (p i) H2)->tt σ2 H' R)
  (S:∀(i:Nat) (x:V) σ2,xs[i]?=some x->At i σ2->p i=true->∀H' R,E H H'->(∀y H2,E H' H2->Rel i H2 y->R y H2)->te σ2 H' R)
  (q:∀D H' ys,E H H'->H D=none->H' D=some (.lst ys)->tY (λi y=>Rel i H' y) (sel p 0 (List.range xs.length)) ys->Q (.ref D) H'):oG J H σ0 g tt te Q:=by
 intro D d;refine⟨λi m σ' H' ys=>i<=xs.length/\m=xs.length - i/\N σ'/\E H H'/\H' D=some (.lst ys)/\tY (λi y=>Rel i H' y) (sel p 0 (List.range i)) ys,⟨xs.length,bAE _,rfl,W,n.new _ _ d,aG,.nil⟩,?_⟩;rintro i m σ' H' ys ⟨hi,rfl,hps,sm,hL,hR⟩;refine⟨hL,?_⟩;by_cases f:i<xs.length
 ·right;have s:=b8 f;obtain⟨G,K⟩:=L H' i xs[i] sm s;refine⟨G,λx H2 C=>?_⟩;obtain⟨rfl,rfl⟩:=K x H2 C;have v:sel p 0 (List.range (i+1))=sel p 0 (List.range i)++(if p i then [i] else []):=by rw[List.range_succ,aB6,bAK,bDA]
  have U:=hR.len;have B:=aHy p 0 (List.range i);rw[bAK] at B;refine T i xs[i] σ' _ _ s hps sm fun σ2 l k=>?_;refine M i xs[i] σ2 s k _ _ sm λO o=>?_;have a:=n.trans sm o;have h:=n.keep D _ _ _ d sm hL o;cases u:p i with
  |true=>rw[if_pos rfl];refine S i xs[i] σ2 s k u _ _ a λy P t I=>?_;have b:=n.trans a t;have c:=n.keep D _ _ _ d a h t;refine⟨c,by lia,xs.length - (i+1),by lia,f,rfl,l,n.upd D _ _ d b,aG,?_⟩;rw[v,u];exact tY.snoc (hR.imp λj z r=>F d b c (A a t (A sm o r))) (F d b c I)
  |false=>rw[if_neg (by simp)];refine⟨h,xs.length - (i+1),by lia,f,rfl,l,a,h,?_⟩;rw[v,u];simp only[bBB,if_false,bCJ];exact hR.imp λj z r=>A sm o r
 ·left;have e:i=xs.length:=by lia
  subst e;exact⟨w _ sm,q D _ ys sm d hL hR⟩
end
def At1 (σ0:L2.St)(v:V)(σ:L2.St):Prop:=∃l,σ=(σ0.set 0 l).set 0 (some v)
def Ps1 (σ0:L2.St)(σ:L2.St):Prop:=∃l,σ=σ0.set 0 l
def At2 (σ0:L2.St)(a b:V)(σ:L2.St):Prop:=σ=(σ0.set 0 (some a)).set 1 (some b)
def Ps2 (σ0:L2.St)(σ:L2.St):Prop:=∃l m,σ=(σ0.set 0 l).set 1 m
def hg1 {σ0:L2.St}{i:Nat}{x:V}{σ':L2.St}{H':Hp}{Q':L2.St->Hp->Prop}(h:Ps1 σ0 σ')(q:∀σ2,Ps1 σ0 σ2->At1 σ0 x σ2->Q' σ2 H'):bR 0 x σ' H' Q':=by obtain⟨l,rfl⟩:=h;exact q _ ⟨some x,by rw[bCF]⟩ ⟨l,rfl⟩
def hg2 {K:bFZ}{c:L2.St}{p:Addr}{a b:V}{σ':L2.St}{H':Hp}{Q':L2.St->Hp->Prop}(d:SqT K H' p [a,b])(h:Ps2 c σ')(q:∀σ2,Ps2 c σ2->At2 c a b σ2->Q' σ2 H'):aPc K 2 (uF (bR 0) (uF (bR 1) aRq)) (.ref p) σ' H' Q':=by
 obtain⟨l,m,rfl⟩:=h;have e:(((c.set 0 l).set 1 m).set 0 (some a)).set 1 (some b)=(c.set 0 (some a)).set 1 (some b):=by rw[List.set_comm _ _ (show (1:Nat)≠0 by decide),bCF,bCF]
 refine⟨p,_,rfl,d,rfl,_,_,rfl,_,_,rfl,rfl,?_⟩;rw[e];exact q _ ⟨some a,some b,rfl⟩ rfl
def kY (xs:List V)(n:Nat):pQ xs none (some (n:Int))=xs.take n:=by
 unfold pQ;rw[HT.aLt,HT.aPt,List.drop_zero,Nat.sub_zero];by_cases h:n<=xs.length
 ·rw[Nat.min_eq_left h]
 ·rw[Nat.min_eq_right (by lia),bCA,bAZ (by lia)]
def lJ (xs:List V)(n:Nat):pQ xs (some (n:Int)) none=xs.drop n:=by
 unfold pQ;rw[HT.aLt,HT.aPt];by_cases h:n<=xs.length
 ·rw[Nat.min_eq_left h];exact bAZ (by rw[bBE];lia)
 ·rw[Nat.min_eq_right (by lia),List.drop_length,bEQ (by lia),bDZ]
def bEe (K:bFZ):V->Option Int->Option Int->Hp->VK->Prop:=λx lo hi H Q=>∃a xs,x=.ref a/\SqL K H a xs/\∀p H',H p=none->Same H H'->H' p=some (.lst (pQ xs lo hi))->Q (.ref p) H'
def yK:SlR X (bEe X.K):=λb s σ H x v f n m k d Q I i g o h ⟨a,l,e,j,q⟩=>
 aYu b s σ H x v f n m k d Q I i g o h ⟨a,l,e,j,λp c=>q p _ c (aZ c _) aG⟩
inductive Al2 {α β:Type}(R:α->β->Prop):List α->List β->Prop
 |nil:Al2 R [] []
 |cons {a b as bs}:R a b->Al2 R as bs->Al2 R (a::as) (b::bs)
def Al2.len {α β:Type}{R:α->β->Prop}{as:List α}{bs:List β}(h:Al2 R as bs):as.length=bs.length:=by
 induction h with
 |nil=>rfl
 |cons _ _ ih=>rw[j9,j9,ih]
theorem Al2.at {α β:Type}{R:α->β->Prop}{as:List α}{bs:List β}(h:Al2 R as bs):∀{j:Nat} {a:α},as[j]?=some a->∃b,bs[j]?=some b/\R a b:=by
 induction h with
 |nil=>intro j a e;simp at e
 |cons r _ ih=>
  intro j a e;cases j with
  |zero=>cases e;exact⟨_,rfl,r⟩
  |succ j=>exact ih (by simpa using e)
def DEq (K:bFZ)(H:Hp):Nat->V->V->Prop
 |0,x,y=>iG x=true/\x=y
 |n+1,x,y=>(iG x=true/\x=y)\/∃a b xs ys,x=.ref a/\y=.ref b/\SqT K H a xs/\SqT K H b ys/\Al2 (DEq K H n) xs ys
def aE2 (h:iG x=true)(a:RelV x v)(d:RelV x u):SeqAt.EqAt A s v u true:=by
 cases x with
 |non=>cases a;cases d;exact bEC _
 |bl b=>cases a;cases d;exact bEC _
 |int i=>obtain⟨t,rfl⟩:=a;obtain⟨c,rfl⟩:=d;have z:=bEH (A:=A) (s:=s) i t i c;simpa using z
 |str y=>obtain⟨t,rfl⟩:=a;obtain⟨c,rfl⟩:=d;have z:=bDL (A:=A) (s:=s) y t y c;simpa using z
 |_=>cases h
def uW (I:Inv X bF3 σ H s)(g:Vals xs its)(m:Vals ys jts)(h:Al2 (DEq X.K H n) xs ys)
  (r:∀{x y v u},DEq X.K H n x y->RelV x v->RelV y u->SeqAt.EqAt A s v u true):∀(j:Nat) (h1:j<its.toArray.size) (h2:j<jts.toArray.size),SeqAt.EqAt A s its.toArray[j] jts.toArray[j] ((λ_=>true) j):=λj h1 h2=>by
 have q:=g.length;have a:j<xs.length:=by rw[j6] at h1;lia
 obtain⟨y,f,d⟩:=h.at (b8 a);obtain⟨p,b,i⟩:=g.get (b8 a);obtain⟨l,c,k⟩:=m.get f;have o:its.toArray[j]=p:=by rw[bCB];exact (List.getElem?_eq_some_iff.mp b).2
 have e:jts.toArray[j]=l:=by rw[bCB];exact (List.getElem?_eq_some_iff.mp c).2
 rw[o,e];exact r d i k
def wC (n:Nat):(List.range n).all (λ_=>true)=true:=by rw[bBZ];intro _ _;rfl
theorem zX (I:Inv X bF3 σ H s):∀(n:Nat) {A:Around} {x y:V} {v u:Value},DEq X.K H n x y->RelV x v->RelV y u->A.units+n<cLine->SeqAt.EqAt A s v u true
 |0,A,x,y,v,u,h,rv,ru,_=>by obtain⟨h,rfl⟩:=h;exact aE2 h rv ru
 |n+1,A,x,y,v,u,h,rv,ru,hu=>by
  rcases h with⟨h,rfl⟩|⟨a,b,xs,ys,rfl,rfl,ha,hb,h⟩
  ·exact aE2 h rv ru
  cases rv;cases ru;by_cases e:a=b
  ·subst e;exact bEC _
  obtain⟨f,g,o,p⟩:=I.tuple ha;obtain⟨c,i,k,q⟩:=I.tuple hb;refine SeqAt.EqAt.of_refs e ?_;have z:=SeqAt.RcAt.tuples (A:=A) (e:=λ_=>true) (show s.heap.IsTuple a f.toArray from o) (show s.heap.IsTuple b c.toArray from k) (by lia) (uW I g i h λd m j=>zX I n d m j (by show A.units+1+n<cLine;lia));have l:(f.toArray.size == c.toArray.size)=true:=by rw[j6,j6];have:=g.length;have:=i.length;have:=h.len;simp;lia
  rw[wC,l] at z;exact z
def bE2 (K:bFZ)(r:Bool):R2:=λx y H Q=>∃a b xs ys,x=.ref a/\y=.ref b/\SqT K H a xs/\SqT K H b ys/\Al2 (DEq K H 40) xs ys/\Q (.bl r) H
def aVm (hu:X.A.units+64<cLine):OpR X (compareOp .NotEq) (bE2 X.K false):=by
 intro l s σ H x y v u Q I o t h;obtain⟨a,b,C,z,rfl,rfl,p,r,h,q⟩:=h;cases o;cases t;obtain⟨c,i,w,B⟩:=I.tuple p;obtain⟨f,g,m,D⟩:=I.tuple r;refine SeqAt.RcNeAt.tuples (e:=λ_=>true) (show s.heap.IsTuple a c.toArray from w) (show s.heap.IsTuple b f.toArray from m) (by lia) (uW I i g h λd k j=>zX I 40 d k j (by show X.A.units+1+40<cLine;lia)) _ _ _ _ ?_;have n:(c.toArray.size == f.toArray.size)=true:=by rw[j6,j6];have:=i.length;have:=g.length;have:=h.len;simp;lia
 rw[wC,n];exact⟨.bl _,H,I,rfl,q⟩
def bDr:R2:=λx y H Q=>(∃a b,x=.int a/\y=.int b/\Q (.bl (decide (a<b))) H)\/∃a b:Str,x=.str a/\y=.str b/\Q (.bl (decide (a.cps.toList<b.cps.toList))) H
def bAk:OpR X (compareOp .Lt) bDr:=by
 intro f s σ H x y v u Q I c d h;rcases h with⟨a,b,rfl,rfl,q⟩|⟨a,b,rfl,rfl,q⟩
 ·obtain⟨t,rfl⟩:=c;obtain⟨e,rfl⟩:=d;exact lt_int ⟨.bl _,H,I,rfl,q⟩
 ·obtain⟨t,rfl⟩:=c;obtain⟨e,rfl⟩:=d;exact lt_str ⟨.bl _,H,I,rfl,q⟩
def aXt (K:bFZ):V->List V->Hp->VK->Prop:=λx vs H Q=>∃(l:Addr) (ss:List Str) (n:Str) (i:Nat),x=.ref l/\vs=[.str n]/\SqL K H l (ss.map V.str)/\ss.length<=1000/\ss[i]?=some n/\(∀(j:Nat) (m:Str),j<i->ss[j]?=some m->m≠n)/\Q (.int (i:Nat)) H
def aOn (n:Str):Value->Bool
 |.str x _=>x == n
 |_=>false
def aF5:MtR X "list.index" (aXt X.K):=by
 intro O s σ H x vs v us Q I T M h;obtain⟨l,d,n,i,rfl,rfl,U,p,G,A,q⟩:=h;cases T;obtain⟨u,rfl,P⟩:=M.one;obtain⟨t,rfl⟩:=P;obtain⟨a,r,Z,hz⟩:=I.list U;have Y:=r.length;rw[j4] at Y;obtain⟨⟨L,S,E,J⟩,C,D,N,hd⟩:=id Z.isList;simp only at D hd;subst D hd;have R:=(List.getElem?_eq_some_iff.mp G).1;have c:∀{j:Nat} (g:j<a.length),∃m b,d[j]?=some m/\a[j]=.str m b:=λ{j} g=>by
  have e:j<d.length:=by lia
  obtain⟨w,W,B⟩:=r.get (show (d.map V.str)[j]?=some (.str d[j]) by rw[v5,b8 e];rfl);obtain⟨b,rfl⟩:=B;exact⟨d[j],b,b8 e,(List.getElem?_eq_some_iff.mp W).2⟩
 refine call_meets PySem.F.slot_list_index ⟨_,C,rfl⟩ PySem.F.entry_list_index (PySem.F.args_list_index_2 _ _)
  (SeqAt.list_indexAt l a.toArray N S J (.str n t) (aOn n) i (by rw[j6];lia) (by lia) ?_ ?_) ⟨C,λy o=>?_,⟨.int _,H,I.tok _,⟨_,rfl⟩,q⟩⟩
 ·obtain⟨m,b,k,f⟩:=c (j:=i) (by lia);rw[G] at k;cases k;show aOn n a[i]=true;rw[f];show (n == n)=true;simp
 ·intro j g z;obtain⟨m,b,k,f⟩:=c (j:=j) (by simpa using g);show aOn n a[j]=false;rw[f];have:=A j m z k;show (m == n)=false;simpa using this
 ·have o:y∈a:=by simpa using o
  obtain⟨j,g,rfl⟩:=bBC o;obtain⟨m,b,k,f⟩:=c (j:=j) g;rw[f];exact bDL m b n t
open PySem PySem.Spec PyProof.Rows Builtin
def bEr (K:bFZ):List V->Hp->VK->Prop:=λxs H Q=>∃l us,xs=[.ref l,.ty "list"]/\SqL K H l us/\Q (.bl true) H
def aRb:cF X (.builtin "isinstance") (bEr X.K):=by intro f s σ H k m Q I r h;obtain⟨l,n,rfl,a,q⟩:=h;obtain⟨u,v,rfl,b,e⟩:=r.two;obtain rfl:v=Value.type "list":=e;obtain rfl:u=Value.ref l:=b;obtain⟨g,j,i,_⟩:=I.list a;obtain⟨o,c,d,_⟩:=id i.isList;exact call_isinstance (isinstance_true F.isi_meta_list F.isi_self_list) ⟨⟨o,c,d⟩,⟨.bl true,H,I,rfl,q⟩⟩
def aY (i:Nat)(c:VE X e te)(d:X.N.Nodup:=by assumption)(hi:X.N[i]?=some x:=by rfl)(b:Loc X.env.scope x:=by first|exact Or.inl rfl|exact Or.inr rfl)(f:swapsWith e (some (.Name x pos')) pos.line X.env=pure false:=by rfl)(a:X.fn x=true\/X.env.scope.names.lookup x=some .local:=by first|exact .inl rfl|exact .inr rfl|assumption):VS X (.Assign [.Name x pos'] e pos) (vB te (bR i)):=bAy d hi b c f a
def cZ (i:Nat)(b:X.N.Nodup:=by assumption)(hi:X.N[i]?=some x:=by rfl)(c:Loc X.env.scope x:=by first|exact Or.inl rfl|exact Or.inr rfl)(a:X.fn x=true\/X.env.scope.names.lookup x=some .local:=by first|exact .inl rfl|exact .inr rfl|assumption):VG X (.Name x pos) (bR i):=aQl b hi c a
def aV (G:Ok X.prog X.w X.K X.mg X.base k0 x ps sp)(h:VA X (e::es) t)(f:Room k X.A:=by assumption)(d:k0<=k:=by decide)(g:Gl X x:=by rfl)(a:(x == ("__debug__":Str))=false:=by decide)(c:cW e=true:=by rfl)(b:(backTo pos (starEach es X.env)).any (·.1)=false:=by rfl):VE X (.Call (.Name x p) (e::es) [] pos) (aAi sp [] E0 t):=bD2 (G.mono d) f g h a c b
def fY (G:OkM X.prog X.w X.K X.mg X.base C k0 m ps sp)(g:VE X o ta)(i:VA X (e::es) t)(d:Room k X.A:=by assumption)(c:k0<=k:=by decide)(b:cW e=true:=by rfl)(a:(backTo pos (starEach es X.env)).any (·.1)=false:=by rfl)
  (h:eval (.Call (.Attribute o m apos) (e::es) [] pos) X.env=(do
   let ov <-eval o X.env
   standAt apos.atName
   let (f,first) <-holding [ov] (getMethod ov m pl)
   callWith pos f first (backTo pos (starEach (e::es) X.env)) (backToKw pos (keywordEach [] X.env))):=by rfl):VE X (.Call (.Attribute o m apos) (e::es) [] pos) (aLd C m sp [] E0 ta t):=aXh (G.mono c) d g i b a h
def aR (f:IxR X r)(c:VE X a ta)(e:VE X b tb)(d:aI2 b:=by exact λ_ _=>rfl):VE X (.Subscript a b pos) (tOp r ta tb):=bDw f c e d
def cX (ho:OpR X (compareOp op) r)(c:VE X a ta)(e:VE X b tb)(d:behindInMarks op b=false:=by exact aWv _):VT X (.Compare a [op] [b] pos) (aJ5 (tOp r ta tb)):=aIa ho c e d
def yN (ho:OpR X (compareOp op) r)(c:VE X a ta)(e:VE X b tb)(d:behindInMarks op b=false:=by exact aWv _):VE X (.Compare a [op] [b] pos) (tOp r ta tb):=pG ho c e d
def va1 (b:VE X e te)(a:cW e=true:=by rfl):VA X [e] (dZ te aBl):=aH b yP a
def bA (d:sc.kind=.function:=by rfl)(g:sc.isCoroutine=false:=by rfl)(c:sc.isGenerator=false:=by rfl)(e:N.Nodup:=by trivial)(b:N.take ps.length=ps:=by rfl)(a:∀x∈ps,sc.names.lookup x=some .local\/sc.names.lookup x=some .cell:=by trivial)(f:∀y∈sc.names,y.2≠.free:=by trivial):aJ N ps sc:=⟨d,g,c,e,b,a,f⟩
def fZ (i:Nat)(b:N.Nodup:=by trivial)(hi:N[i]?=some x:=by rfl)(c:Loc (cxC X N scope cl s H fp).env.scope x:=by exact Or.inl rfl)(a:(cxC X N scope cl s H fp).fn x=true\/(cxC X N scope cl s H fp).env.scope.names.lookup x=some .local:=by first|exact .inl rfl|exact .inr rfl|assumption):VG (cxC X N scope cl s H fp) (.Name x pos) (bR i):=aQl b hi c a
def ck (a:∀y∈scope.names,y.2≠.cell:=by trivial)(d:scope.kind=.function:=by rfl)(c:∀y∈scope.names,y.2=.local->scope.names.lookup y.1=some .local:=by trivial)(b:∀y∈scope.names,y.2=.free->scope.names.lookup y.1=some .free:=by trivial):vV scope N:=⟨a,d,c,b⟩
end L2
namespace My
open PySem PySem.Spec PyProof.Rows L2
def top (i:Nat):Stmt:=PySem.Challenge.pw_shardask_k67_whole_moves.main.body.getD i (.Pass ⟨0,0,0,0⟩)
abbrev aDv:Stmt:=top 19
abbrev mW:Stmt:=top 20
abbrev aE1:Stmt:=top 21
abbrev aAq:Stmt:=top 22
abbrev jJ:Stmt:=top 23
abbrev wL:Stmt:=top 24
abbrev aCr:Stmt:=top 25
abbrev aFi:Stmt:=top 26
abbrev aC8:Stmt:=top 27
abbrev aFx:Stmt:=top 28
abbrev uP:Stmt:=top 29
abbrev rE:Stmt:=top 30
abbrev aF7:Stmt:=top 31
abbrev aK7:Stmt:=top 32
abbrev uK:Stmt:=top 33
abbrev aWq:Stmt:=top 34
abbrev aGf:Stmt:=top 36
abbrev aCs:Stmt:=top 38
abbrev aJ8:Stmt:=top 42
abbrev vM:Stmt:=top 43
abbrev rC:Stmt:=top 44
abbrev yJ:Stmt:=top 45
abbrev vO:Stmt:=top 46
abbrev aC7:Stmt:=top 47
abbrev aAn:Stmt:=top 48
abbrev qJ:Stmt:=top 49
abbrev aCk:Stmt:=top 50
abbrev aJh:Stmt:=top 51
abbrev aA5:Stmt:=top 52
abbrev zZ:Stmt:=top 53
abbrev jY:Stmt:=classAt (top 54) 0
abbrev lL:Stmt:=classAt (top 54) 3
abbrev pB:Stmt:=classAt (top 54) 4
abbrev sI:Stmt:=classAt (top 54) 6
abbrev aA7:Stmt:=top 56
abbrev aAk:Stmt:=top 57
abbrev xV:Stmt:=top 58
abbrev qP:Stmt:=top 59
abbrev aDr:Stmt:=top 60
abbrev jH:Stmt:=classAt (top 61) 0
abbrev iV:Stmt:=classAt (top 61) 2
abbrev gO:Stmt:=classAt (top 61) 3
abbrev jW:Stmt:=classAt (top 61) 4
abbrev sZ:Stmt:=classAt (top 61) 5
abbrev pC:Stmt:=classAt (top 61) 6
abbrev nH:Stmt:=classAt (top 61) 7
abbrev pW:Stmt:=classAt (top 61) 8
abbrev dJ:Stmt:=classAt (top 61) 9
abbrev mZ:Stmt:=classAt (top 61) 10
abbrev lK:Stmt:=classAt (top 61) 11
abbrev lU:Stmt:=classAt (top 61) 12
abbrev iC:Stmt:=classAt (top 61) 13
abbrev pH:Stmt:=classAt (top 61) 14
abbrev aAp:Stmt:=top 63
abbrev xQ:Stmt:=top 64
abbrev aAz:Stmt:=top 65
abbrev yD:Stmt:=top 66
abbrev pR:Stmt:=top 67
abbrev xR:Stmt:=top 68
abbrev xF:Stmt:=top 69
abbrev aAh:Stmt:=top 70
abbrev lN:Stmt:=top 71
abbrev uY:Stmt:=top 72
abbrev sH:Stmt:=top 73
abbrev aA1:Stmt:=top 74
abbrev qX:Stmt:=top 75
abbrev aA2:Stmt:=top 76
abbrev lA:Stmt:=top 77
abbrev lO:Stmt:=top 78
abbrev nF:Stmt:=top 79
abbrev aA3:Stmt:=top 80
abbrev pL:Stmt:=top 81
abbrev wG:Stmt:=top 82
abbrev aAm:Stmt:=top 83
abbrev vX:Stmt:=top 84
abbrev aP0:Stmt:=top 85
structure Txt (w:World)(K:bFZ)(mg:bF2):Prop where
 aYe:mg "ValueError"=none
 bDz:mg "abs"=none
 aAw:mg "all"=none
 bDl:mg "any"=none
 bCo:mg "bool"=none
 aOy:mg "dict"=none
 aT2:mg "divmod"=none
 aK5:mg "enumerate"=none
 aTt:mg "int"=none
 bZ:mg "isinstance"=none
 dW:mg "len"=none
 yR:mg "list"=none
 bDj:mg "max"=none
 jK:mg "range"=none
 aPm:mg "set"=none
 eO:mg "sorted"=none
 aWe:mg "str"=none
 iH:mg "tuple"=none
 aZz:mg "zip"=none
 jF:∃a,mg "QUESTION_WORDS"=some (.ref a)/\∀H,SqT K H a [.str "and",.str "by",.str "count",.str "down",.str "first",.str "group",.str "join",.str "keep",.str "least",.str "most",.str "named",.str "on",.str "sum",.str "table",.str "up",.str "where",.str "with"]
 aGd:∃u,mg "LETTERS"=some u/\RelV (.str "abcdefghijklmnopqrstuvwxyz") u
 aH2:∃a,mg "KINDS"=some (.ref a)/\∀H,SqT K H a [.str "number",.str "word"]
 aCj:∃u,mg "MOST_LETTERS"=some u/\RelV (.int 8) u
 aDt:∃u,mg "MOST_COLUMNS"=some u/\RelV (.int 8) u
 aLu:∃u,mg "WORD_BASE"=some u/\RelV (.int 27) u
 aEz:∃u,mg "MOST_HOUSES"=some u/\RelV (.int 6) u
 aA6:∃u,mg "MOST_CUTS"=some u/\RelV (.int 8) u
 aAj:∃f o,(∃u,mg "is_column"=some u/\RelV (.ref f) u)/\K.lookup f=some o/\o.cls=.type "function"
 aN8:Dn K mg "is_whole" aDv o6
 vY:Dn K mg "is_number_below" mW bQR
 aRc:Dn K mg "is_word" aE1 o6
 aLo:Dn K mg "is_one_of" aAq bQT
 tZ:Dn K mg "is_tuple_of" jJ o8
 aHt:Dn K mg "are_unlike" wL ["names"]
 aOx:Dn K mg "names_of" aCr ["head"]
 aRg:Dn K mg "is_name" aFi o6
 aOd:Dn K mg "is_value" aC8 o6
 aSc:Dn K mg "kind_of" aFx ["value"]
 aEy:Dn K mg "is_value_of" uP bQS
 aLw:Dn K mg "is_column" rE o6
 aQ5:Dn K mg "is_head" aF7 o6
 aU4:Dn K mg "is_row" aK7 bQA
 aEo:Dn K mg "word_number" uK ["word"]
 bB1:Dn K mg "home" aWq bXD
 aSx:Dn K mg "kind_in" aGf bQJ
 aNv:Dn K mg "place_of" aCs bQJ
 aTi:Dn K mg "is_cut" aJ8 bQD
 aO1:Dn K mg "are_cuts" vM bQU
 aDg:Dn K mg "is_column_in" rC bQA
 aIs:Dn K mg "is_placing" yJ bQQ
 aOk:Dn K mg "are_rows" vO bXC
 aNe:Dn K mg "is_table" aC7 bQD
 aJa:Dn K mg "need_town" aAn bQB
 aBm:Dn K mg "placed_tables" qJ bQB
 aO8:Dn K mg "table_in" aCk z8
 aWt:Dn K mg "cut_of" aJh bQV
 aKg:Dn K mg "stands_at" aA5 bQK
 aSg:Dn K mg "rows_at" zZ bQL
 aI9:Dn K mg "with_rows" aA7 bQW
 aJp:Dn K mg "with_cuts" aAk bQX
 aG7:Dn K mg "may_cut_at" xV ["table","low"]
 aKd:Dn K mg "span_rows" qP bQY
 aOg:Dn K mg "is_above" aDr bXA
 aLc:Dn K mg "_law_seed" aAp bQE
 aIe:Dn K mg "_law_begin" xQ bQE
 aKm:Dn K mg "_law_next" aAz n8
 aIv:Dn K mg "_law_words" yD []
 aGs:Dn K mg "_law_names" pR n8
 aIy:Dn K mg "_law_great" xR ["_law_state"]
 aIx:Dn K mg "_law_value" xF bQM
 aJy:Dn K mg "_law_head" aAh bQO
 aB4:Dn K mg "_law_placing" lN bQF
 aOo:Dn K mg "_law_row" uY bQC
 aMe:Dn K mg "_law_town" sH bQH
 aMd:Dn K mg "_law_home" aA1 bQN
 aMi:Dn K mg "_law_span" qX o9
 aKr:Dn K mg "_law_spot" aA2 bQG
 aHe:Dn K mg "_law_stood" lA o5
 aDq:Dn K mg "_law_of_span" lO bXE
 aEn:Dn K mg "_law_stands" nF o5
 aL0:Dn K mg "_law_lend" aA3 n7
 aI1:Dn K mg "_law_carry" pL o4
 aG2:Dn K mg "_law_split" wG o4
 aKt:Dn K mg "_law_deed" aAm n7
 aIo:Dn K mg "_law_right" vX u5
 bD5:Dn K mg "law" aP0 bQE
 bAz:∃C,aTf K mg "Town" C/\eZ K C "__init__" "Town.__init__" jY ["self","houses","tables"]/\eZ K C "placing" "Town.placing" lL ["self","name"]/\eZ K C "whole" "Town.whole" pB ["self","name"]/\eZ K C "part" "Town.part" sI ["self","name","house"]/\bU K C "placed"/\bU K C "house_count"
 aX0:∃C,aTf K mg "Store" C/\eZ K C "__init__" "Store.__init__" jH ["self","houses","tables"]/\eZ K C "cut_table" "Store.cut_table" iV ["self","name"]/\eZ K C "need_still" "Store.need_still" gO ["self","name"]/\eZ K C "move_of" "Store.move_of" jW ["self","name"]/\eZ K C "put" "Store.put" sZ ["self","name","row"]/\eZ K C "drop" "Store.drop" pC ["self","name","row"]/\eZ K C "split" "Store.split" nH ["self","name","low"]/\eZ K C "lend" "Store.lend" pW ["self","name","number","house"]/\eZ K C "rows_to_come" "Store.rows_to_come" dJ ["self","name"]/\eZ K C "carry" "Store.carry" mZ ["self","name","many"]/\eZ K C "settle" "Store.settle" lK ["self","name"]/\eZ K C "moving" "Store.moving" lU ["self","name"]/\eZ K C "stands" "Store.stands" iC ["self","name","house"]/\eZ K C "town" "Store.town" pH ["self"]/\bU K C "placed"/\bU K C "house_count"/\bU K C "moves"
abbrev abc:Str:="abcdefghijklmnopqrstuvwxyz"
abbrev words:List V:=[.str "and",.str "by",.str "count",.str "down",.str "first",.str "group",.str "join",.str "keep",.str "least",.str "most",.str "named",.str "on",.str "sum",.str "table",.str "up",.str "where",.str "with"]
def Th (K:bFZ)(H:Hp)(v:V):Prop:=(∃x,v=.str x/\x.length<=1000)\/(∃i,v=.int i)\/(∃b,v=.bl b)\/∃k,Rk K H v k
def Th.same {K:bFZ}{H H':Hp}{v:V}(e:Same H H')(h:Th K H v):Th K H' v:=by
 rcases h with h|h|h|⟨k,h⟩
 ·exact .inl h
 ·exact .inr (.inl h)
 ·exact .inr (.inr (.inl h))
 ·exact .inr (.inr (.inr ⟨k,h.same e⟩))
def aYh:V->String->Bool
 |.int _,T=>T == "int"
 |.str _,T=>T == "str"
 |.bl _,T=>T == "int" || T == "bool"
 |_,_=>false
def isS:V->Bool
 |.str _=>true
 |_=>false
def whole:V->Bool
 |.int _=>true
 |_=>false
def wY {K:bFZ}{H:Hp}{v:V}{T:String}{Q:VK}(c:Th K H v)(a:T = "int"\/T = "bool"\/T = "str")(q:Q (.bl (aYh v T)) H):bDv [v,.ty T] H Q\/aZv K [v,.ty T] H Q:=by
 rcases c with⟨x,rfl,_⟩|⟨i,rfl⟩|⟨b,rfl⟩|⟨k,h⟩
 ·refine .inl ⟨_,_,_,rfl,?_,q⟩;rcases a with rfl|rfl|rfl <;> simp[aNo,aYh]
 ·refine .inl ⟨_,_,_,rfl,?_,q⟩;rcases a with rfl|rfl|rfl <;> simp[aNo,aYh]
 ·refine .inl ⟨_,_,_,rfl,?_,q⟩;rcases a with rfl|rfl|rfl <;> simp[aNo,aYh]
 ·refine .inr ⟨_,_,_,rfl,h,a,?_⟩;cases h <;> exact q
def inA (y:Str):Bool:=!(Builtin.Str.occurrences abc y 0 abc.length 1).isEmpty
def allIn (x:Str):Bool:=((List.range x.cps.size).map λi=>inA (sgn x i)).all id
def tX (l:Nat):V->Bool
 |.str x=>decide (l<=x.length) && (decide (x.length<=8) && allIn x)
 |_=>false
def nameB (v:V):Bool:=tX 1 v && !inV v words
def aJo (v:V):Bool:=whole v || tX 0 v
def oF (K:bFZ):Sp:=λvs H Q _=>∃v,vs=[v]/\Th K H v/\Q (.bl (whole v)) H
def aEr (K:bFZ)(f:V->Bool):Sp:=λvs H Q _=>∃v,vs=[v]/\Th K H v/\∀H',Same H H'->Q (.bl (f v)) H'
def aQk (K:bFZ):Sp:=λvs H Q _=>∃v,vs=[v]/\Th K H v/\Q (.str (if whole v then "number" else "word")) H
inductive bCf (K:bFZ)(vs:List V)(H:Hp)(Q:VK)(E_:XK):Prop
 |mk (a:Addr) (ns:List Int) (_:vs=[.ref a]) (_:SqL K H a (ns.map V.int)) (_:ns.length<=63) (_:∀H',Q (.bl true) H')
def bDh {K:bFZ}{H:Hp}{a:Addr}{c:List Int}(h:c.length<=63)(b:SqL K H a (c.map V.int)):bCf K [.ref a] H (λv _=>v=.bl true) λ_ _ _=>False:=
 ⟨a,c,rfl,b,h,λ_=>rfl⟩
def aJi:aJ o6 o6 (aF aDv):=bA
def vQ:aJ bQR bQR (aF mW):=bA
def aN1:aJ o6 o6 (aF aE1):=bA
def aGn:aJ bQT bQT (aF aAq):=bA
def rY:aJ o8 o8 (aF jJ):=bA
def aD9:aJ ["names"] ["names"] (aF wL):=bA
def aK0:aJ ["head"] ["head"] (aF aCr):=bA
def aOu:aJ o6 o6 (aF aFi):=bA
def aKx:aJ o6 o6 (aF aC8):=bA
def aNh:aJ ["value"] ["value"] (aF aFx):=bA
def aCh:aJ bQS bQS (aF uP):=bA
def aHq:aJ o6 o6 (aF rE):=bA
def aMw:aJ o6 o6 (aF aF7):=bA
def aRx:aJ bQA bQA (aF aK7):=bA
def qQ:aJ ["word","number","letter"] ["word"] (aF uK):=bA
def aPs:aJ ["value","houses","number"] bXD (aF aWq):=bA
def aCy:aJ ["head","name","column"] bQJ (aF aGf):=bA
def aJr:aJ bQJ bQJ (aF aCs):=bA
def aRr:aJ bQD bQD (aF aJ8):=bA
def aAo:aJ ["thing","kind","houses","lows"] bQU (aF vM):=bA
def aBe:aJ bQA bQA (aF rC):=bA
def aEg:aJ bQQ bQQ (aF yJ):=bA
def aJ3:aJ bXC bXC (aF vO):=bA
def aLs:aJ bQD bQD (aF aC7):=bA
def vZ:aJ ["houses","tables","name","table"] bQB (aF aAn):=bA
def aAf:aJ bQB bQB (aF qJ):=bA
def aMn:aJ z8 z8 (aF aCk):=bA
def aGj:aJ ["cuts","value","number","place"] bQV (aF aJh):=bA
def yH:aJ ["head","placing","row","house","houses","value","cuts"] bQK (aF aA5):=bA
def aOi:aJ bQL bQL (aF zZ):=bA
def zO:aJ o7 o7 (aF jY):=bA
def aA9:aJ n6 n6 (aF lL):=bA
def aEp:aJ n6 n6 (aF pB):=bA
def aGw:aJ u6 u6 (aF sI):=bA
def aHk:aJ bQW bQW (aF aA7):=bA
def aG8:aJ bQX bQX (aF aAk):=bA
def uN:aJ ["table","low","column","cuts"] ["table","low"] (aF xV):=bA
def xM:aJ ["table","number","place"] bQY (aF qP):=bA
def aI8:aJ bXA bXA (aF aDr):=bA
def wW:aJ o7 o7 (aF jH):=bA
def lV:aJ ["self","name","table"] n6 (aF iV):=bA
def tV:aJ n6 n6 (aF gO):=bA
def aAe:aJ n6 n6 (aF jW):=bA
def yF:aJ ["self","name","row","table"] bQI (aF sZ):=bA
def uB:aJ ["self","name","row","table","rows"] bQI (aF pC):=bA
def sY:aJ ["self","name","low","table","cuts","number","behind"] bXB (aF nH):=bA
def uL:aJ ["self","name","number","house","cuts"] bQP (aF pW):=bA
def jC:aJ ["self","name","move"] n6 (aF dJ):=bA
def rM:aJ ["self","name","many","move","waiting","unlike"] bQZ (aF mZ):=bA
def qL:aJ ["self","name","table","move","number","cuts"] n6 (aF lK):=bA
def aBa:aJ n6 n6 (aF lU):=bA
def qF:aJ ["self","name","house","table","rows","move"] u6 (aF iC):=bA
def aEv:aJ ["self"] ["self"] (aF pH):=bA
def wI:aJ ["_law_script","_law_seed_here","_law_k","_law_cell"] bQE (aF aAp):=bA
def uT:aJ ["_law_script","_law_digits"] bQE (aF xQ):=bA
def yM:aJ ["_law_state","_law_many","_law_digit"] n8 (aF aAz):=bA
def uJ:aJ ["_law_words_here"] [] (aF yD):=bA
def uG:aJ ["_law_state","_law_many","_law_small","_law_odd","_law_base","_law_k","_law_at","_law_names_here"] n8 (aF pR):=bA
def uQ:aJ ["_law_state","_law_number","_law_k"] ["_law_state"] (aF xR):=bA
def uE:aJ ["_law_state","_law_kind","_law_way","_law_word","_law_k"] bQM (aF xF):=bA
def wK:aJ ["_law_state","_law_names_here","_law_start","_law_head_here","_law_k","_law_kind"] bQO (aF aAh):=bA
def kE:aJ ["_law_state","_law_head_here","_law_houses","_law_way","_law_name","_law_kind","_law_lows","_law_cuts","_law_low"] bQF (aF lN):=bA
def aJ2:aJ bQC bQC (aF uY):=bA
def pD:aJ ["_law_state","_law_names_here","_law_most","_law_houses","_law_tables","_law_k","_law_head_here","_law_placing_here","_law_rows"] bQH (aF sH):=bA
def xU:aJ ["_law_value_here","_law_houses","_law_number","_law_letter"] bQN (aF aA1):=bA
def aH5:aJ o9 o9 (aF qX):=bA
def aGp:aJ bQG bQG (aF aA2):=bA
def uM:aJ ["_law_table","_law_houses","_law_house","_law_head_here","_law_placing_here","_law_rows","_law_move","_law_spot_here"] o5 (aF lA):=bA
def qK:aJ ["_law_table","_law_head_here","_law_placing_here","_law_rows","_law_move","_law_spot_here"] bXE (aF lO):=bA
def rK:aJ ["_law_table","_law_houses","_law_house","_law_found","_law_move"] o5 (aF nF):=bA
def yC:aJ ["_law_state","_law_store","_law_name","_law_table","_law_houses","_law_number","_law_house"] n7 (aF aA3):=bA
def nC:aJ ["_law_state","_law_store","_law_name","_law_table","_law_number","_law_house","_law_mark","_law_above","_law_many","_law_some","_law_cuts"] o4 (aF pL):=bA
def uI:aJ ["_law_state","_law_store","_law_name","_law_table","_law_cuts","_law_low","_law_spot_here"] o4 (aF wG):=bA
def wZ:aJ ["_law_state","_law_store","_law_name","_law_table","_law_houses","_law_way","_law_row_here"] n7 (aF aAm):=bA
def uO:aJ ["_law_store","_law_name","_law_table","_law_houses","_law_town_here","_law_house","_law_found"] u5 (aF vX):=bA
def aWp:aJ ["_law_script","_law_state","_law_houses","_law_tables","_law_model","_law_name","_law_store","_law_cell"] bQE (aF aP0):=bA
section
variable {P:Program}{w:World}{K:bFZ}{mg:bF2}{base:Heap}
def aLn (T:Txt w K mg):Ok P w K mg base 1 "is_whole" o6 (oF K):=by
 refine Ok.ofV T.aN8 aJi (by trivial) (λf d A c s H g Q E e h=>?_)
 obtain⟨v,rfl,a,q⟩:=h;refine⟨_,(aD (aM (iI (aK (rQ.or tR) (by rfl) T.bZ bQ (aH (vv 0) (va1 (fK (v:=.ty "int") (by rfl) T.aTt aM3 rfl)))) (iU (bA5 (aK (rQ.or tR) (by rfl) T.bZ bQ (aH (vv 0) (va1 (fK (v:=.ty "bool") (by rfl) T.bCo aZi rfl))))))))),?_⟩;refine⟨_,rfl,wY a (.inl rfl) ⟨_,rfl,?_⟩⟩;rcases id a with⟨x,rfl,_⟩|⟨i,rfl⟩|⟨b,rfl⟩|⟨k,h⟩
 ·exact cB q
 ·exact fB ⟨_,rfl,wY a (.inr (.inl rfl)) ⟨_,rfl,q⟩⟩
 ·exact fB ⟨_,rfl,wY a (.inr (.inl rfl)) ⟨_,rfl,q⟩⟩
 ·cases h <;> exact cB q
def aTu (x:Str):(((List.range x.cps.size).map λi=>V.str (sgn x i)).map λv=>match v with|.str y=>V.bl (inA y)|_=>.bl false)=(((List.range x.cps.size).map λi=>inA (sgn x i)).map V.bl):=by rw[bBW,bBW];rfl
def aNq (T:Txt w K mg):Ok P w K mg base 1 "is_word" o6 (aEr K (tX 0)):=by
 refine Ok.ofV T.aRc aN1 (by trivial) (λf B A g s H G Q E J h=>?_)
 obtain⟨v,rfl,j,q⟩:=h;refine⟨_,(aC (bO (VW.pt (fG (cL (cC (aK (rQ.or tR) (by rfl) T.bZ bQ (aH (vv 0) (va1 (fK (v:=.ty "str") (by rfl) T.aWe aNr rfl)))))) (eE (cX aQt (aK yG (by rfl) T.dW cQ (va1 (vv 0))) (rN (by rfl) T.aCj))))) (aD (aM jL)) aW) (aD (aM (aK (jQ rfl) (by rfl) T.aAw rJ (va1 (cJ (N:=["sign"]) ck iM rfl (aNd (vv 0)) (λM C u I=>⟨(fZ 0),fH,(pG aS0 (vv 0) (rN (by rfl) T.aGd) (by with_unfolding_all rfl))⟩))))))),?_⟩;refine⟨_,rfl,wY j (.inr (.inr rfl)) ⟨_,rfl,?_⟩⟩;have a:isS v=false->Q (.bl false) H:=λe=>by
  have z:tX 0 v=false:=by cases v <;> first|rfl|cases e
  rw[<-z];exact q H (Same.refl H)
 rcases id j with⟨x,rfl,m⟩|⟨i,rfl⟩|⟨b,rfl⟩|⟨k,h⟩
 ·refine cB ⟨_,rfl,_,rfl,small m,_,_,rfl,rfl,_,rfl,?_⟩;refine aG4 (λc=>?_) (λc=>?_)
  ·have o:(8:Int)<x.length:=of_decide_eq_true c;have z:tX 0 (.str x)=false:=by show (decide (0<=x.length) && (decide (x.length<=8) && allIn x))=false;rw[v6 (p:=x.length<=8) (by lia)];simp
   rw[<-z];exact q H (Same.refl H)
  ·have o:¬ (8:Int)<x.length:=of_decide_eq_false (Bool.eq_false_iff.mpr c);dsimp only[mJ,pZ,tCB,dZ];refine aRy ((List.range x.cps.size).map λi=>V.str (sgn x i)) (λv=>match v with|.str y=>V.bl (inA y)|_=>.bl false) [none] oU ?_
    (λR r=>bB6 (z:=x) (λF t=>⟨_,rfl,t⟩) R r) (λv d u R l L r=>?_) rfl λD n=>?_
   ·rw[j4,bAK];exact small m
   ·obtain⟨i,_,rfl⟩:=List.mem_map.mp d;exact⟨_,rfl,_,_,rfl,rfl,r⟩
   ·refine⟨D,(List.range x.cps.size).map λi=>inA (sgn x i),rfl,SqL.of (by rw[aG,aTu]),?_⟩;have z:tX 0 (.str x)=allIn x:=by show (decide (0<=x.length) && (decide (x.length<=8) && allIn x))=allIn x;rw[m9 (p:=x.length<=8) (by lia)];simp
    show Q (.bl (allIn x)) _;rw[<-z];exact q _ (aZ n _)
 ·exact fB (a rfl)
 ·exact fB (a rfl)
 ·cases h <;> exact fB (a rfl)
def aGm (h:tX l v=true):∃x,v=.str x/\l<=x.length/\x.length<=8/\allIn x=true:=by
 cases v with
 |str x=>have h:(decide (l<=x.length) && (decide (x.length<=8) && allIn x))=true:=h;rw[bAW,bAW] at h;exact⟨x,rfl,of_decide_eq_true h.1,of_decide_eq_true h.2.1,h.2.2⟩
 |_=>cases h
def aF9:x=("":Str)↔x.length=0:=by
 constructor
 ·rintro rfl;decide +kernel
 ·intro h;obtain⟨a⟩:=x;have h:a.size=0:=h;rw[Array.size_eq_zero_iff] at h;subst h;decide +kernel
def aDa:words.all iG=true:=rfl
def aNc (T:Txt w K mg)(D:Ok P w K mg base 1 "is_word" o6 (aEr K (tX 0))):Ok P w K mg base 2 "is_name" o6 (aEr K nameB):=by
 refine Ok.ofV T.aRg aOu (by trivial) (λf B A i s H C Q E F h=>?_)
 obtain⟨v,rfl,m,q⟩:=h;obtain⟨l,y,g⟩:=T.jF;have n:∃u,mg "QUESTION_WORDS"=some u/\RelV (.ref l) u:=⟨_,y,rfl⟩;refine⟨_,(aD (aM (iI (aV D (va1 (vv 0))) (iI (yN wN (vv 0) bH) (iU (pG pY (vv 0) (rN (by rfl) n) (by with_unfolding_all rfl))))))),?_⟩;refine⟨_,rfl,_,rfl,m,λa j=>⟨_,rfl,?_⟩⟩;refine aG4 (λc=>?_) (λc=>?_)
 ·obtain⟨x,rfl,_,b,d⟩:=aGm c;refine⟨_,rfl,rfl,_,rfl,?_⟩;by_cases e:x.length=0
  ·have t:=aF9.mpr e;subst t;refine cB ?_;have z:nameB (.str "")=false:=by trivial
   rw[<-z];exact q a j
  ·have o:¬ (V.str x=V.str ""):=λz=>e (aF9.mp (V.str.inj z));have r:(!decide (V.str x=V.str ""))=true:=by rw[v6 o];rfl
   rw[r];refine fB ⟨_,rfl,l,words,rfl,.inr (g _),rfl,aDa,?_⟩;have z:nameB (.str x)=!inV (.str x) words:=by show ((decide (1<=x.length) && (decide (x.length<=8) && allIn x)) && !inV (.str x) words)=!inV (.str x) words;rw[m9 (p:=1<=x.length) (by lia),m9 b,d];rfl
   show Q (.bl (!inV (.str x) words)) a;rw[<-z];exact q a j
 ·have z:nameB v=false:=by
   show (tX 1 v && !inV v words)=false;cases k:tX 1 v with
   |false=>rfl
   |true=>obtain⟨x,rfl,G,b,d⟩:=aGm k;refine absurd ?_ c;show (decide (0<=x.length) && (decide (x.length<=8) && allIn x))=true;rw[m9 b,d,m9 (bAE _)];rfl
  rw[<-z];exact q a j
def aLy (T:Txt w K mg)(j:Ok P w K mg base 1 "is_whole" o6 (oF K))(l:Ok P w K mg base 1 "is_word" o6 (aEr K (tX 0))) :
  Ok P w K mg base 2 "is_value" o6 (aEr K aJo):=by
 refine Ok.ofV T.aOd aKx (by trivial) (λf g A a s H k Q E i h=>?_)
 obtain⟨v,rfl,b,q⟩:=h;refine⟨_,(aD (aM (bAd (aV j (va1 (vv 0))) (iU (aV l (va1 (vv 0))))))),?_⟩;refine⟨_,rfl,_,rfl,b,_,rfl,?_⟩;cases c:whole v with
 |true=>
  refine fB ?_;have z:aJo v=true:=by show (whole v || tX 0 v)=true;rw[c];rfl
  rw[<-z];exact q H (Same.refl H)
 |false=>
  refine cB ⟨_,rfl,_,rfl,b,λd e=>?_⟩;have z:aJo v=tX 0 v:=by show (whole v || tX 0 v)=tX 0 v;rw[c];rfl
  rw[<-z];exact q d e
def aN9 (T:Txt w K mg)(g:Ok P w K mg base 1 "is_whole" o6 (oF K)):Ok P w K mg base 2 "kind_of" ["value"] (aQk K):=by
 refine Ok.ofV T.aSc aNh (by trivial) (λf d A a s H i Q E e h=>?_)
 obtain⟨v,rfl,c,q⟩:=h;refine⟨_,(aD (aM (aLl (cC (aV g (va1 (vv 0)))) bH bH))),?_⟩;refine⟨_,rfl,_,rfl,c,_,rfl,?_⟩;cases b:whole v with
 |true=>rw[b] at q;exact fB q
 |false=>rw[b] at q;exact cB q
def at0 (x:V)(r:List V):atI (x::r) 0=some x:=by unfold atI ixN;simp
def at1 (x y:V)(r:List V):atI (x::y::r) 1=some y:=by unfold atI ixN;simp only[j9];rw[if_pos (by lia),if_pos (by lia)];rfl
def Tk.same (e:Same H H')(h:Tk K H v b):Tk K H' v b:=by
 cases h with
 |int=>exact .int
 |str=>exact .str
 |bl=>exact .bl
 |non=>exact .non
 |lst q=>exact .lst (e.seq q)
 |dct q=>exact .dct (e _ _ q)
 |tup q=>exact .tup (e.aP q)
structure Tells (R:Hp->V->Bool->Prop):Prop where
 same:∀{H H' v b},Same H H'->R H v b->R H' v b
def bA0 (R:Hp->V->Bool->Prop):Sp:=λvs H Q _=>∃v b,vs=[v]/\R H v b/\∀H',Same H H'->Q (.bl b) H'
inductive aF6 (K:bFZ)(R:Hp->V->Bool->Prop)(lo hi:Nat)(H:Hp):V->Bool->Prop
 |no {v}:Tk K H v false->aF6 K R lo hi H v false
 |len {a xs}:SqT K H a xs->¬ (lo<=xs.length/\xs.length<=hi)->aF6 K R lo hi H (.ref a) false
 |yes {a xs} (f:V->Bool):SqT K H a xs->lo<=xs.length->xs.length<=hi->(∀x∈xs,R H x (f x))->aF6 K R lo hi H (.ref a) (xs.all f)
def aM4 (K:bFZ):Sp:=λvs H Q _=>∃v a xs,vs=[v,.ref a]/\Th K H v/\SqT K H a xs/\xs.all iG=true/\Q (.bl (isS v && inV v xs)) H
def aJ1 (P:Program)(w:World)(K:bFZ)(mg:bF2)(base:Heap)(k:Nat):Sp:=λvs H Q _=>∃v lo hi f ps R b,vs=[v,.int (lo:Nat),.int (hi:Nat),.ref f]/\hi<=1000/\Held P w K mg base k f ps (bA0 R)/\Tells R/\aF6 K R lo hi H v b/\∀H',Same H H'->Q (.bl b) H'
inductive aFo (K:bFZ)(vs:List V)(H:Hp)(Q:VK)(E_:XK):Prop
 |mk (a:Addr) (ss:List Str) (_:vs=[.ref a]) (_:SqL K H a (ss.map V.str)) (_:ss.length<=1000) (_:∀H',Same H H'->Q (.bl (decide ss.Nodup)) H')
def aHh (T:Txt w K mg):Ok P w K mg base 1 "is_one_of" bQT (aM4 K):=by
 refine Ok.ofV T.aLo aGn (by trivial) (λf l A c s H n Q E m h=>?_)
 obtain⟨v,a,g,rfl,d,e,j,q⟩:=h;refine⟨_,(aD (aM (iI (aK (rQ.or tR) (by rfl) T.bZ bQ (aH (vv 0) (va1 (fK (v:=.ty "str") (by rfl) T.aWe aNr rfl)))) (iU (pG yX (vv 0) (vv 1) (by with_unfolding_all rfl)))))),?_⟩;refine⟨_,rfl,wY d (.inr (.inr rfl)) ⟨_,rfl,?_⟩⟩;rcases id d with⟨x,rfl,_⟩|⟨i,rfl⟩|⟨b,rfl⟩|⟨k,h⟩
 ·exact fB ⟨_,rfl,_,rfl,a,g,rfl,.inr e,rfl,j,q⟩
 ·exact cB q
 ·exact cB q
 ·cases h <;> exact cB q
def aCq (T:Txt w K mg):Ok P w K mg base (k+1) "is_tuple_of" o8 (aJ1 P w K mg base k):=by
 refine Ok.ofV T.tZ rY (by trivial) (λf M A m s H U Q E G h=>?_)
 obtain⟨v,p,o,g,F,R,b,rfl,i,I,C,y,q⟩:=h;refine⟨_,(aC (bO (VW.pt (fG (cL (cC (aK jG (by rfl) T.bZ bQ (aH (vv 0) (va1 (fK (v:=.ty "tuple") (by rfl) T.iH fU rfl)))))) (eE (cL (aCm aDe aDe (vv 1) (aK aX (by rfl) T.dW cQ (va1 (vv 0))) (vv 2)))))) (aD (aM jL)) aW) (aD (aM (aK (jQ rfl) (by rfl) T.aAw rJ (va1 (cJ (N:=["part","is_part"]) ck (eU (aF jJ)) rfl (nU (vv 0)) (λX O n V=>⟨(fZ 0),fH,(aVk (P:=P) (w:=w) (K:=K) (mg:=mg) (base:=base) G (vv 1) (va1 (vv 0)))⟩))))))),?_⟩;cases y with
 |no h=>exact⟨_,rfl,_,_,rfl,h,_,rfl,fB (q H (Same.refl H))⟩
 |@len a xs ha hn=>refine⟨_,rfl,_,_,rfl,.tup ha,_,rfl,cB ?_⟩;refine⟨_,rfl,_,rfl,_,_,rfl,.inr ha,_,_,rfl,rfl,_,rfl,?_⟩;refine aG4 (λc=>⟨_,rfl,_,_,rfl,rfl,_,rfl,?_⟩) (λc=>⟨_,rfl,fB (q H (Same.refl H))⟩);have W:(p:Int)<=xs.length:=of_decide_eq_true c;have e:decide ((xs.length:Int)<=(o:Int))=false:=v6 λz=>hn ⟨by lia,by lia⟩;rw[e];exact fB (q H (Same.refl H))
 |@yes a xs t ha h1 h2 hx=>
  refine⟨_,rfl,_,_,rfl,.tup ha,_,rfl,cB ?_⟩;refine⟨_,rfl,_,rfl,_,_,rfl,.inr ha,_,_,rfl,rfl,_,rfl,?_⟩;have u:decide ((p:Int)<=(xs.length:Int))=true:=m9 (by lia);have J:decide ((xs.length:Int)<=(o:Int))=true:=m9 (by lia);rw[u];refine fB ⟨_,rfl,_,_,rfl,rfl,_,rfl,?_⟩;rw[J];refine cB ?_;dsimp only[mJ,pZ,tCB,dZ];refine aGc xs (λx=>.bl (t x)) [none,some (.ref g)] ?_ (small (by lia)) (λR r=>aOt ha (λS L=>⟨_,rfl,L⟩) R r) (λx d n R l j r=>?_) rfl λD n j B=>?_
  ·exact lB 3 (by trivial) rfl rfl (by trivial)
  ·exact⟨_,rfl,g,F,_,rfl,I,_,rfl,x,t x,rfl,C.same j (hx x d),r⟩
  ·refine⟨D,xs.map t,rfl,SqL.of (by rw[B,bBW];rfl),?_⟩;rw[List.all_map];exact q n j
def aEi (T:Txt w K mg):Ok P w K mg base 1 "are_unlike" ["names"] (aFo K):=by
 refine Ok.ofV T.aHt aD9 (by trivial) (λf l A c s H n Q E m h=>?_)
 obtain⟨a,b,rfl,i,k,q⟩:=h;refine⟨_,(aD (aM (yN dX (aK aMs (by rfl) T.dW cQ (va1 (cI (aO4 rfl) (by rfl) T.aPm aIg (va1 (vv 0))))) (aK aX (by rfl) T.dW cQ (va1 (vv 0)))))),?_⟩;refine⟨_,rfl,a,b,rfl,i,k,λD d j g=>⟨D,d,rfl,aG,_,rfl,a,_,rfl,.inl ((aZ j _).seq i),rfl,?_⟩⟩;have e:decide (V.int (d.length:Nat)=V.int (b.map V.str).length)=decide b.Nodup:=by rw[j4];exact decide_eq_decide.mpr ⟨λz=>(aJk g).mp (by have:=V.int.inj z;lia),λz=>by rw[(aJk g).mpr z]⟩
 rw[e];exact q _ (aZ j _)
abbrev kinds:List V:=[.str "number",.str "word"]
inductive aIn (K:bFZ)(H:Hp):V->Bool->Prop
 |no {v}:Tk K H v false->aIn K H v false
 |len {a xs}:SqT K H a xs->xs.length≠2->aIn K H (.ref a) false
 |two {a x y}:SqT K H a [x,y]->Th K H x->Th K H y->aIn K H (.ref a) (nameB x && (isS y && inV y kinds))
def aSf (K:bFZ):Tells (aIn K):=⟨λe h=>by
 cases h with
 |no q=>exact .no (Tk.same e q)
 |len q n=>exact .len (e.aP q) n
 |two q x y=>exact .two (e.aP q) (x.same e) (y.same e)⟩
def aIp (T:Txt w K mg)(r:Ok P w K mg base 2 "is_name" o6 (aEr K nameB))(z:Ok P w K mg base 1 "is_one_of" bQT (aM4 K)):Ok P w K mg base 3 "is_column" o6 (bA0 (aIn K)):=by
 refine Ok.ofV T.aLw aHq (by trivial) (λf o A j s H t Q E p h=>?_)
 obtain⟨v,b,rfl,m,q⟩:=h;obtain⟨l,n,i⟩:=T.aH2;have g:∃u,mg "KINDS"=some u/\RelV (.ref l) u:=⟨_,n,rfl⟩;refine⟨_,(aC (bO (VW.pt (fG (cL (cC (aK jG (by rfl) T.bZ bQ (aH (vv 0) (va1 (fK (v:=.ty "tuple") (by rfl) T.iH fU rfl)))))) (eE (cX wN (aK aX (by rfl) T.dW cQ (va1 (vv 0))) aB)))) (aD (aM jL)) aW) (aD (aM (iI (aV r (va1 (aR aO (vv 0) aB))) (iU (aV z (aH (aR aO (vv 0) aB) (va1 (rN (by rfl) g))))))))),?_⟩;cases m with
 |no h=>exact⟨_,rfl,_,_,rfl,h,_,rfl,fB (q H (Same.refl H))⟩
 |@len a xs ha c=>
  refine⟨_,rfl,_,_,rfl,.tup ha,_,rfl,cB ?_⟩;refine⟨_,rfl,_,_,rfl,.inr ha,rfl,_,rfl,?_⟩;have e:(!decide (V.int (xs.length:Nat)=V.int 2))=true:=by rw[v6 (by intro y;apply c;have:=V.int.inj y;lia)];rfl
  rw[e];exact fB (q H (Same.refl H))
 |@two a x y ha hx hy=>
  refine⟨_,rfl,_,_,rfl,.tup ha,_,rfl,cB ?_⟩;refine⟨_,rfl,_,_,rfl,.inr ha,rfl,_,rfl,cB ?_⟩;refine⟨_,rfl,a,_,0,_,rfl,rfl,ha,at0 _ _,x,rfl,hx,λk d=>⟨_,rfl,?_⟩⟩;cases c:nameB x with
  |false=>rw[c] at q;exact cB (q k d)
  |true=>rw[c] at q;refine fB ⟨_,rfl,a,_,1,_,rfl,rfl,d.aP ha,at1 _ _ _,y,l,kinds,rfl,hy.same d,i _,rfl,q k d⟩
def kindS (v:V):Str:=if whole v then "number" else "word"
def aHd (K:bFZ):Sp:=λvs H Q _=>∃v k,vs=[v,.str k]/\Th K H v/\∀H',Same H H'->Q (.bl (aJo v && decide (kindS v=k))) H'
def aDw (T:Txt w K mg)(g:Ok P w K mg base 2 "is_value" o6 (aEr K aJo))(i:Ok P w K mg base 2 "kind_of" ["value"] (aQk K)):Ok P w K mg base 3 "is_value_of" bQS (aHd K):=by
 refine Ok.ofV T.aEy aCh (by trivial) (λf j A b s H m Q E l h=>?_)
 obtain⟨v,k,rfl,e,q⟩:=h;refine⟨_,(aD (aM (iI (aV g (va1 (vv 0))) (iU (yN dX (aV i (va1 (vv 0))) (vv 1)))))),?_⟩;refine⟨_,rfl,v,rfl,e,λd c=>⟨_,rfl,?_⟩⟩;cases a:aJo v with
 |false=>rw[a] at q;exact cB (q d c)
 |true=>rw[a] at q;refine fB ⟨_,rfl,v,rfl,e.same c,_,rfl,rfl,?_⟩;have z:decide (V.str (if whole v then "number" else "word")=V.str k)=decide (kindS v=k):=decide_eq_decide.mpr ⟨λy=>V.str.inj y,λy=>congrArg V.str y⟩;rw[z];exact q d c
def at2 (x y z:V)(r:List V):atI (x::y::z::r) 2=some z:=by unfold atI ixN;simp only[j9];rw[if_pos (by lia),if_pos (by lia)];rfl
def aMx (h:x.length<=8):Th K H (.str x):=.inl ⟨x,rfl,by lia⟩
def Nm (x:Str):Prop:=nameB (.str x)=true
def aTh (h:nameB (.str x)=true):x.length<=8:=by have h:(tX 1 (.str x) && !inV (.str x) words)=true:=h;rw[bAW] at h;obtain⟨y,e,_,a,_⟩:=aGm h.1;cases e;exact a
def Nm.th (h:Nm x):Th K H (.str x):=aMx (aTh h)
inductive bW {α β:Type}(R:α->β->Prop):List α->List β->Prop
 |nil:bW R [] []
 |cons {a b as bs}:R a b->bW R as bs->bW R (a::as) (b::bs)
def bW.len {α β:Type}{R:α->β->Prop}{as:List α}{bs:List β}(h:bW R as bs):as.length=bs.length:=by
 induction h with
 |nil=>rfl
 |cons _ _ ih=>rw[j9,j9,ih]
def bW.imp {α β:Type}{R S:α->β->Prop}{as:List α}{bs:List β}(h:bW R as bs)(k:∀a b,R a b->S a b):bW S as bs:=by
 induction h with
 |nil=>exact .nil
 |cons r _ ih=>exact .cons (k _ _ r) ih
def bW.mem {α β:Type}{R:α->β->Prop}{as:List α}{bs:List β}(h:bW R as bs){a:α}(m:a∈as):∃b,b∈bs/\R a b:=by
 induction h with
 |nil=>cases m
 |cons r _ ih=>
  rcases List.mem_cons.mp m with rfl|m
  ·exact⟨_,j5 ..,r⟩
  ·obtain⟨b,c,q⟩:=ih m;exact⟨b,j7 _ c,q⟩
def bW.app {α β:Type}{R:α->β->Prop}{as cs:List α}{bs ds:List β}(h:bW R as bs)(k:bW R cs ds):bW R (as++cs) (bs++ds):=by
 induction h with
 |nil=>exact k
 |cons r _ ih=>exact .cons r ih
def kJ {α:Type}(K:bFZ)(H:Hp)(R:V->α->Prop)(v:V)(xs:List α):Prop:=∃a vs,v=.ref a/\SqT K H a vs/\bW R vs xs
def kJ.same {α:Type}{K:bFZ}{H H':Hp}{R S:V->α->Prop}{v:V}{xs:List α}(e:Same H H')(k:∀a b,R a b->S a b)(h:kJ K H R v xs):kJ K H' S v xs:=by obtain⟨a,d,rfl,c,f⟩:=h;exact⟨a,d,rfl,e.aP c,f.imp k⟩
abbrev Hdr:=List (Str × Str)
def IsC (K:bFZ)(H:Hp)(v:V)(c:Str × Str):Prop:=∃p,v=.ref p/\SqT K H p [.str c.1,.str c.2]
def IsC.same (e:Same H H')(h:IsC K H v c):IsC K H' v c:=by obtain⟨p,rfl,a⟩:=h;exact⟨p,rfl,e.aP a⟩
def mF (K:bFZ)(H:Hp)(v:V)(hd:Hdr):Prop:=kJ K H (IsC K H) v hd
def mF.same (e:Same H H')(h:mF K H v hd):mF K H' v hd:=kJ.same e (λ_ _ q=>q.same e) h
def look (hd:Hdr)(n:Str):Option Str:=(hd.find? λc=>decide (c.1=n)).map (·.2)
theorem aGy {n k:Str}:∀{hd:Hdr},look hd n=some k->∃i,hd[i]?=some (n,k)/\∀(j:Nat) (c:Str × Str),j<i->hd[j]?=some c->c.1≠n
 |[],h=>by cases h
 |(m,j)::r,h=>by
  unfold look at h;rw[bBV] at h;by_cases e:m=n
  ·rw[m9 e] at h;have g:=bAM h;subst e g;exact⟨0,rfl,λj c b=>absurd b (bCY _)⟩
  ·rw[v6 e] at h;obtain⟨i,f,l⟩:=aGy h;refine⟨i+1,by simpa using f,λa c b d=>?_⟩;cases a with
   |zero=>cases d;exact e
   |succ a=>exact l a c (by lia) (by simpa using d)
theorem bV {α β:Type}{R:α->β->Prop}:∀{as:List α} {bs:List β},bW R as bs->∀{i:Nat} {a:α},as[i]?=some a->∃b,bs[i]?=some b/\R a b
 |_,_,.cons r t,0,_,h1=>by cases h1;exact⟨_,rfl,r⟩
 |_,_,.cons r t,i+1,a,h1=>by obtain⟨b,e,q⟩:=bV t (by simpa using h1);exact⟨b,by simpa using e,q⟩
def aM6 (K:bFZ):Sp:=λvs H Q _=>∃vh n hd k,vs=[vh,.str n]/\mF K H vh hd/\look hd n=some k/\Q (.str k) H
def aNu (T:Txt w K mg):Ok P w K mg base 1 "kind_in" bQJ (aM6 K):=by
 refine Ok.ofV T.aSx aCy (by trivial) (λf D A g s H F Q E I h=>?_)
 obtain⟨J,n,hd,k,rfl,⟨a,C,rfl,r,m⟩,B,q⟩:=h;have G:=aCy.nd;refine⟨_,(aC (gG PassesOwn.never rfl (nU (vv 0)) (cZ 2) (aD (bO (cX dX (aR (bL (K:=K)) (vv 2) aB) (vv 1)) (aD (aM (aR (bL (K:=K)) (vv 2) aB))) aW))) (aD dR)),?_⟩;obtain⟨j,o,y⟩:=aGy B;have v:j<C.length:=by rw[m.len];exact (List.getElem?_eq_some_iff.mp o).1
 refine⟨_,rfl,a,rfl,⟨_,r⟩,aZf (λi σ b=>b=H/\i<=j/\∃l,σ=[some (.ref a),some (.str n),l]) ⟨rfl,bAE _,_,rfl⟩ (λi σ b _ ⟨e,_⟩=>by rw[e];exact r) ?_ ?_⟩
 ·rintro i x σ b hx ⟨rfl,hi,l,rfl⟩;obtain⟨c,d,p,rfl,t⟩:=bV m hx;refine⟨_,rfl,p,_,0,_,rfl,rfl,t,at0 _ _,_,rfl,rfl,_,rfl,?_⟩;by_cases e:i=j
  ·subst e;rw[o] at d;cases d;rw[m9 rfl];exact fB ⟨_,rfl,p,_,1,_,rfl,rfl,t,at1 _ _ _,q⟩
  ·have u:=y i c (by lia) d;rw[v6 (by intro z;exact u (V.str.inj z))];exact cB ⟨rfl,by lia,_,rfl⟩
 ·rintro σ b ⟨rfl,hi,_⟩;lia
def aTd {α:Type}{f:α->V}{xs:List α}{i:Nat}{y:V}(h:(xs.map f)[i]?=some y):∃x,xs[i]?=some x/\y=f x:=by
 rw[v5] at h;cases e:xs[i]? with
 |none=>rw[e] at h;cases h
 |some x=>rw[e] at h;cases h;exact⟨x,rfl,rfl⟩
def Good (hd:Hdr):Prop:=(hd.map (·.1)).Nodup/\1<=hd.length/\hd.length<=8
def aIh (K:bFZ):Sp:=λvs H Q _=>∃v hd,vs=[v]/\mF K H v hd/\hd.length<=1000/\∀D H',Same H H'->H' D=some (.lst ((hd.map (·.1)).map V.str))->Q (.ref D) H'
def aHc (T:Txt w K mg):Ok P w K mg base 1 "names_of" ["head"] (aIh K):=by
 refine Ok.ofV T.aOx aK0 (by trivial) (λf F A e s H J Q E O h=>?_)
 obtain⟨v,hd,rfl,⟨a,C,rfl,t,j⟩,M,q⟩:=h;refine⟨_,(aD (aM (cJ (N:=["column"]) ck iM rfl (nU (vv 0)) (λU G b L=>⟨(fZ 0),fH,(aR (bL (K:=K)) (vv 0) aB)⟩)))),?_⟩;have S:=j.len;refine aYd C ((hd.map (·.1)).map V.str) (by rw[j4,j4];lia) [none] oU (small (by lia)) (λR r=>aOt t (λI B=>⟨_,rfl,B⟩) R r) (λi x y z o b R l d r=>?_) rfl λD b d m=>q D b d m;obtain⟨c,k,p,rfl,u⟩:=bV j z;obtain⟨n,g,rfl⟩:=aTd o;rw[v5,k] at g;cases g;exact⟨_,rfl,p,_,0,_,rfl,rfl,d.aP u,at0 _ _,r b (Same.refl b)⟩
def plc:Hdr->Str->Nat
 |[],_=>0
 |c::r,n=>if c.1=n then 0 else plc r n+1
theorem aI6:∀{hd:Hdr},look hd n=some k->hd[plc hd n]?=some (n,k)/\∀j c,j<plc hd n->hd[j]?=some c->c.1≠n
 |[],h=>by cases h
 |(m,q)::r,h=>by
  unfold look at h;rw[bBV] at h;by_cases e:m=n
  ·rw[m9 e] at h;have f:=bAM h;subst e f;have z:plc ((m,q)::r) m=0:=if_pos rfl;rw[z];exact⟨rfl,λj c a=>absurd a (bCY _)⟩
  ·rw[v6 e] at h;obtain⟨d,g⟩:=aI6 h;have z:plc ((m,q)::r) n=plc r n+1:=if_neg e;rw[z];refine⟨by simpa using d,λj c a b=>?_⟩;cases j with
   |zero=>cases b;exact e
   |succ j=>exact g j c (by lia) (by simpa using b)
def oR (K:bFZ):Sp:=λvs H Q _=>∃vh n hd k,vs=[vh,.str n]/\mF K H vh hd/\hd.length<=1000/\look hd n=some k/\∀H',Same H H'->Q (.int (plc hd n:Nat)) H'
def aAv (T:Txt w K mg)(B:Ok P w K mg base 1 "names_of" ["head"] (aIh K)):Ok P w K mg base 2 "place_of" bQJ (oR K):=by
 refine Ok.ofV T.aNv aJr (by trivial) (λf x A a s H y Q E z h=>?_)
 obtain⟨p,n,hd,k,rfl,g,e,o,q⟩:=h;obtain⟨v,r⟩:=aI6 o;refine⟨_,(aD (aM (rZ PySem.F.plainAttrs_list PySem.F.slot_list_index PySem.F.type_list_index aF5 (aV B (va1 (vv 0))) (va1 (vv 1))))),?_⟩;refine⟨_,rfl,p,hd,rfl,g,e,λD i u b=>?_⟩;refine⟨.inl ⟨rfl,_,SqL.of b⟩,_,rfl,D,hd.map (·.1),n,plc hd n,rfl,rfl,SqL.of b,by rw[j4];exact e,by rw[v5,v];rfl,λj m t d=>?_,q i u⟩;rw[v5] at d;obtain⟨c,l,rfl⟩:=Option.map_eq_some_iff.mp d;exact r j c t l
def aPl {n:Str}{ss:List Str}:inV (.str n) (ss.map V.str)=decide (n∈ss):=by
 unfold inV;rw[bCI,bDW,decide_eq_true_eq];constructor
 ·rintro⟨v,d,e⟩;obtain⟨z,a,rfl⟩:=List.mem_map.mp d;have c:(z == n)=true:=e;have b:z=n:=by simpa using c
  rw[<-b];exact a
 ·intro h;refine⟨.str n,List.mem_map.mpr ⟨n,h,rfl⟩,?_⟩;show (n == n)=true;simp
def aJm {ss:List Str}:(ss.map V.str).all iG=true:=by rw[bBZ];intro v a;obtain⟨z,_,rfl⟩:=List.mem_map.mp a;rfl
def aP5 {z:Str}{j:Int}(h0:0<=j)(h1:j<z.length):∃c,z.cps[j.toNat]?=some c:=
 ⟨_,m8 (by show j.toNat<z.length;lia)⟩
def aIk (x y:Str):(x++y).length=x.length+y.length:=by show (x.cps++y.cps).size=_;rw[Array.size_append];rfl
def at_of {xs:List V}{j:Int}(h0:0<=j)(h1:j<xs.length):∃v,atI xs j=some v/\v∈xs:=by
 have b:j.toNat<xs.length:=by lia
 refine⟨xs[j.toNat],?_,bAO b⟩;have a:=cG (b8 b);rw[show ((j.toNat:Nat):Int)=j by lia] at a;exact a
def Lets (x:Str):Prop:=∀c∈x.cps,97<=c/\c<=122
def aXy:∀k:_root_.Fin 26,inA ⟨#[97+k.val]⟩=true:=by trivial
def bCu (h1:97<=c)(h2:c<=122):inA ⟨#[c]⟩=true:=by have:=aXy ⟨c - 97,by lia⟩;simp only at this;rw[show 97+(c - 97)=c by lia] at this;exact this
def allIn_of (h:Lets x):allIn x=true:=by
 unfold allIn;rw[bBZ];intro b f;obtain⟨i,d,rfl⟩:=List.mem_map.mp f;have a:=List.mem_range.mp d;have e:x.cps.getD i 0=x.cps[i]:=by rw[w6,m8 a];rfl
 obtain⟨c,g⟩:=h _ (bER a);unfold sgn;rw[e];exact bCu c g
def Lets.add (d:Lets x)(b:Lets y):Lets (x++y):=λc a=>by
 have a:=a;rcases Array.mem_append.mp a with h|h
 ·exact d c h
 ·exact b c h
def Lets.one {z:Str}{i c:Nat}(a:Lets z)(h:z.cps[i]?=some c):Lets ⟨#[c]⟩:=λd hd=>by
 have hd:=hd;have e:d=c:=by simpa using hd
 subst e;exact a _ (bDS h)
def aLm:Lets abc:=by
 have h:(abc.cps.all λc=>decide (97<=c) && decide (c<=122))=true:=by trivial
 intro c a;have:=(Array.all_eq_true_iff_forall_mem.mp h) c a;rw[bAW] at this;exact⟨of_decide_eq_true this.1,of_decide_eq_true this.2⟩
inductive bM:Str->V->Prop
 |num {i}:bM "number" (.int i)
 |wrd {x}:Lets x->x.length<=8->bM "word" (.str x)
def val (c:Nat):Int:=(c:Int) - 96
def num (x:Str):Nat->Int
 |0=>0
 |n+1=>num x n * 27+val (x.cps.getD n 0)
def aXp:∀k:_root_.Fin 26,Builtin.Str.occurrences abc ⟨#[97+k.val]⟩ 0 abc.length 1=[k.val]:=by trivial
def occ (h1:97<=c)(h2:c<=122):Builtin.Str.occurrences abc ⟨#[c]⟩ 0 abc.length 1=[c - 97]:=by
 have h:=aXp ⟨c - 97,by lia⟩;have e:97+(c - 97)=c:=by lia
 simpa [e] using h
def Vl (v:V):Prop:=(∃i,v=.int i)\/∃x,v=.str x/\Lets x/\x.length<=8
def nm:V->Int
 |.int i=>i
 |.str x=>num x x.cps.size
 |_=>0
def Lets.at (h:Lets x)(hi:i<x.cps.size):97<=x.cps.getD i 0/\x.cps.getD i 0<=122:=by rw[w6,m8 hi];exact h _ (bER hi)
def Vl.th (h:Vl v):Th K H v:=by
 rcases h with⟨i,rfl⟩|⟨x,rfl,_,h8⟩
 ·exact .inr (.inl ⟨i,rfl⟩)
 ·exact .inl ⟨x,rfl,by lia⟩
def aP4:Sp:=λvs H Q _=>∃x,vs=[.str x]/\Lets x/\Q (.int (num x x.cps.size)) H
def aP8:Sp:=λvs H Q _=>∃v h,vs=[v,.int h]/\Vl v/\0<h/\Q (.int (nm v % h)) H
def aCz (T:Txt w K mg):Ok P w K mg base 1 "word_number" ["word"] aP4:=by
 refine Ok.ofV T.aEo qQ (by trivial) (λf g A a s H m Q E k h=>?_)
 obtain⟨x,rfl,c,q⟩:=h;have o:=qQ.nd;refine⟨_,(aC (aY 1 aB) (aC (gG PassesOwn.never rfl (aNd (vv 0)) (cZ 2) (aD (aY 1 (bB cY (bB cY (bB vG (vv 1) (rN (by rfl) T.aLu)) (rZ PySem.F.plainAttrs_str PySem.F.slot_str_index PySem.F.type_str_index aJj (rN (by rfl) T.aGd) (va1 (vv 2)))) aB)))) (aD (aM (vv 1))))),?_⟩;refine⟨_,rfl,_,rfl,aPq (λi σ b=>b=H/\∃l,σ=[some (.str x),some (.int (num x i)),l]) ⟨rfl,_,rfl⟩ ?_ ?_⟩
 ·rintro i σ b hi ⟨rfl,l,rfl⟩;obtain⟨j,d⟩:=c.at hi;refine⟨_,rfl,_,_,rfl,rfl,.inr ⟨by decide,by decide⟩,rfl,_,rfl,_,_,_,_,rfl,rfl,occ j d,_,_,rfl,rfl,_,_,rfl,rfl,rfl,some (.str (sgn x i)),?_⟩;have e:num x i * 27+((x.cps.getD i 0 - 97:Nat):Int)+1=num x (i+1):=by show num x i * 27+((x.cps.getD i 0 - 97:Nat):Int)+1=num x i * 27+((x.cps.getD i 0:Int) - 96);lia
  exact congrArg (λn=>[some (V.str x),some (V.int n),some (V.str (sgn x i))]) e
 ·rintro σ b ⟨rfl,l,rfl⟩;exact⟨_,rfl,q⟩
def aXr (T:Txt w K mg)(k:Ok P w K mg base 1 "is_whole" o6 (oF K))(e:Ok P w K mg base 1 "word_number" ["word"] aP4):Ok P w K mg base 2 "home" bXD aP8:=by
 refine Ok.ofV T.bB1 aPs (by trivial) (λf g A a s H l Q E j h=>?_)
 obtain⟨v,h,rfl,c,d,q⟩:=h;have m:=aPs.nd;refine⟨_,(aC (aY 2 (aLl (cC (aV k (va1 (vv 0)))) (vv 0) (aV e (va1 (vv 0))))) (aD (aM (bB lM (vv 2) (vv 1))))),?_⟩;have b:=c.th (K:=K) (H:=H);rcases c with⟨i,rfl⟩|⟨x,rfl,hx,h8⟩
 ·exact⟨_,rfl,_,rfl,b,_,rfl,fB ⟨_,rfl,_,rfl,_,rfl,_,_,rfl,rfl,d,q⟩⟩
 ·exact⟨_,rfl,_,rfl,b,_,rfl,cB ⟨_,rfl,_,rfl,hx,_,rfl,_,rfl,_,_,rfl,rfl,d,q⟩⟩
def wA:Sp:=λvs H Q _=>∃i m:Int,vs=[.int i,.int m]/\Q (.bl (decide (0<=i) && decide (i<m))) H
def vI (T:Txt w K mg)(e:Ok P w K mg base 1 "is_whole" o6 (oF K)):Ok P w K mg base 2 "is_number_below" bQR wA:=by
 refine Ok.ofV T.vY vQ (by trivial) (λf c A a s H g Q E d h=>?_)
 obtain⟨i,m,rfl,q⟩:=h;refine⟨_,(aD (aM (iI (aV e (va1 (vv 0))) (iU (aTc aDe aJf aB (vv 0) (vv 1)))))),?_⟩;refine⟨_,rfl,_,rfl,.inr (.inl ⟨i,rfl⟩),_,rfl,fB ?_⟩;refine⟨_,rfl,_,_,rfl,rfl,_,rfl,?_⟩;cases b:decide (0<=i) with
 |false=>rw[b] at q;exact cB q
 |true=>rw[b] at q;exact fB ⟨_,rfl,_,_,rfl,rfl,q⟩
end
end My
namespace PySem.W
open PySem PySem.Calls PyProof.Rows
def KasT.ev {α:Type}(f:Nat->Nat->Bool):KasT α->α
 |.ret a=>a
 |.ask i j k=>(k (f i j)).ev f
inductive KasT.Low {α:Type}(n:Nat)(P:α->Prop):KasT α->Prop
 |ret {a}:P a->KasT.Low n P (.ret a)
 |ask {i j k}:i<n->j<n->(∀b,KasT.Low n P (k b))->KasT.Low n P (.ask i j k)
def KasT.Low.bind {α β:Type}{n:Nat}{P:α->Prop}{R:β->Prop}{t:KasT α}{f:α->KasT β}(h:t.Low n P)(c:∀a,P a->(f a).Low n R):(t.bind f).Low n R:=by
 induction h with
 |ret h=>exact c _ h
 |ask a b _ ih=>exact .ask a b ih
def KasT.Low.of {α:Type}{n:Nat}{P:α->Prop}{t:KasT α}(h:t.Low n P)(f:Nat->Nat->Bool):P (t.ev f):=by
 induction h with
 |ret h=>exact h
 |@ask i j k a b _ ih=>exact ih (f i j)
def bA1 {α:Type}{n:Nat}{P:α->Prop}{f:Nat->Nat->Bool}{cmp:Nat->Nat->(Bool->Shared->Prop)->Shared->Prop}{s:Shared}(c:∀i j C,i<n->j<n->C (f i j) s->cmp i j C s){t:KasT α}(h:t.Low n P){Q:α->Shared->Prop}(q:Q (t.ev f) s):t.kasWp cmp Q s:=by
 induction h with
 |ret h=>exact q
 |@ask i j k a b _ ih=>exact c i j _ a b (ih (f i j) q)
def Pl (n:Nat)(p:Array Nat):Prop:=p.size=n/\∀k,p.getD k 0<n
def Pl.perm (h:Pl n p)(e:q.Perm p)(g:0<n):Pl n q:=by
 refine⟨e.size_eq.trans h.1,λk=>?_⟩;by_cases b:k<q.size
 ·have f:q[k]∈p.toList:=(Array.perm_iff_toList_perm.mp e).mem_iff.mp (by simp);obtain⟨j,c,d⟩:=bBC f;have a:j<p.size:=by simpa using c
  have:=h.2 j;rw[w6,m8 a,bBO] at this;rw[w6,m8 b,bBO,<-d];simpa using this
 ·rw[w6,bCG (by lia)];exact g
theorem aGv (h:Pl n p):∀f m,(kas_asc p f m).Low n (λr=>m<=r/\r<=m+f)
 |0,m=>.ret ⟨d9 _,d9 _⟩
 |f+1,m=>by
  refine .ask (h.2 _) (h.2 _) λc=>?_;by_cases e:c=true
  ·rw[if_pos e];exact .ret ⟨d9 _,by lia⟩
  ·rw[if_neg e];have z:=aGv h f (m+1);generalize kas_asc p f (m+1)=t at z
   induction z with
   |ret q=>exact .ret ⟨by lia,by lia⟩
   |ask a b _ ih=>exact .ask a b ih
theorem xW (a:0<n):∀f p m q,Pl n p->(kas_desc f p m q).Low n (λr=>Pl n r.1)
 |0,p,m,q,h=>.ret h
 |f+1,p,m,q,h=>by
  refine .ask (h.2 _) (h.2 _) λc=>?_;by_cases e:c=true
  ·rw[if_pos e];by_cases b:q > 0
   ·rw[if_pos b];exact xW a f _ _ _ (h.perm (mirror_perm _ _ _ _) a)
   ·rw[if_neg b];exact xW a f _ _ _ h
  ·rw[if_neg e];refine .ask (h.2 _) (h.2 _) λd=>?_;by_cases g:d=true
   ·rw[if_pos g];exact .ret h
   ·rw[if_neg g];exact xW a f _ _ _ h
def aE9 {n:Nat}(b:0<n){p:Array Nat}(h:Pl n p)(m nrem:Nat):(kas_tail3 m nrem p).Low n (λr=>Pl n r.2):=by have a:Pl n (kas_rev p 0 m):=h.perm (mirror_perm _ _ _ _) b;exact (aGv a _ _).bind λ_ _=>.ret a
def wB {n:Nat}(a:0<n){p:Array Nat}(h:Pl n p)(m nrem:Nat):(kas_descPart m nrem p).Low n (λr=>Pl n r.2):=by
 refine (xW a _ _ _ _ h).bind λr b=>?_;by_cases e:r.2.2 > 0
 ·rw[if_pos e];exact aE9 a (b.perm (mirror_perm _ _ _ _) a) _ _
 ·rw[if_neg e];exact aE9 a b _ _
def aQ6 {n:Nat}(f:0<n){p:Array Nat}(h:Pl n p)(b:Nat):(kas_count b p).Low n (λr=>Pl n r.2):=by
 refine (aGv h _ _).bind λm _=>?_;by_cases e:(m == b)=true
 ·rw[if_pos e];exact .ret h
 ·rw[if_neg e];by_cases d:m > 1
  ·rw[if_pos d];refine .ask (h.2 _) (h.2 _) λc=>?_;by_cases a:c=true
   ·rw[if_pos a];exact .ret h
   ·rw[if_neg a];exact wB f (h.perm (mirror_perm _ _ _ _) f) _ _
  ·rw[if_neg d];exact wB f h _ _
theorem aAc (h:Pl n p)(k:Nat):∀f l r,(kas_place p k f l r).Low n (λ_=>True)
 |0,l,r=>.ret trivial
 |f+1,l,r=>by
  unfold kas_place;by_cases e:l ≥ r
  ·rw[if_pos e];exact .ret trivial
  ·rw[if_neg e];refine .ask (h.2 _) (h.2 _) λc=>?_;by_cases a:c=true
   ·rw[if_pos a];exact aAc h k f _ _
   ·rw[if_neg a];exact aAc h k f _ _
theorem aPj {n:Nat}(a:0<n):∀(f:Nat) (p:Array Nat) (k:Nat),Pl n p->(kas_bin f p k).Low n (Pl n)
 |0,p,k,h=>.ret h
 |f+1,p,k,h=>(aAc h k k 0 k).bind λl _=>aPj a f _ _ (h.perm (bubble_perm _ _ _) a)
def aU9 (a:0<n):Pl n (List.toArray (List.range n)):=by
 refine⟨by simp,λk=>?_⟩;rw[w6,bEY];by_cases h:k<n
 ·rw[bCR h];exact h
 ·rw[bAD (by simpa using h)];exact a
def xX {n:Nat}(a:0<n):(kas_sort n).Low n (Pl n):=by
 refine (aQ6 a (aU9 a) n).bind λr b=>?_;by_cases e:r.1<n
 ·rw[if_pos e];exact aPj a _ _ _ b
 ·rw[if_neg e];exact .ret b
def eG (n:Nat)(f:Nat->Nat->Bool):List Nat:=if n<2 then List.range n else ((kas_sort n).ev f).toList
def tL (n:Nat)(f:Nat->Nat->Bool):(eG n f).length=n:=by
 unfold eG;by_cases h:n<2
 ·rw[if_pos h,bAK]
 ·rw[if_neg h,v7];exact ((xX (by lia)).of f).1
def oN (h:i∈eG n f):i<n:=by
 unfold eG at h;by_cases b:n<2
 ·rw[if_pos b] at h;exact List.mem_range.mp h
 ·rw[if_neg b] at h;have z:=(xX (n:=n) (by lia)).of f;obtain⟨j,c,e⟩:=bBC h;have a:j<((kas_sort n).ev f).size:=by simpa using c
  have:=z.2 j;rw[w6,m8 a,bBO] at this;rw[<-e];simpa using this
def qD (ho:s.heap.get? a=some (seqObj "list" vs.toArray n))(M:vs.length<64)
  (D:2<=vs.length->∀h',(∀b o,b≠a->s.heap.get? b=some o->h'.get? b=some o)->∃κ,(∀(Q:SortKind->Shared->Prop),Q κ { s with heap:=h' }->wpAny (model prog w) A (keyKind' vs.toArray) Q (λ_ _=>False) { s with heap:=h' })/\∀i j (C:Bool->Shared->Prop),i<vs.length->j<vs.length->C (f i j) { s with heap:=h' }->kas_ask prog w A κ vs i j C { s with heap:=h' })
  (h:P (.done (.ret .none)) { s with heap:=sortedHeap s.heap a vs (List.toArray ((eG vs.length f).map λi=>vs.getD i Value.none)) }) :
  wpAny (model prog w) A (Builtin.«list.sort» ⟨[.ref a],[]⟩) P E s:=by
 rw[list_sort_plain];have G:a<s.heap.objs.size:=t8 ho;refine b7 (listItems_at ho rfl ?_);refine b7 (listUpdate_at ho rfl ?_ (by rw[j6,sizeLine_eq];lia) (bAE _));obtain⟨y,v⟩:∃y,(s.heap.update a (Obj.mapSeq λ_=>#[])).get? a=some (seqObj "list" #[] y):=⟨_,get?_update_seq ho (λ_=>#[])⟩;refine b7 (seqEpoch_at v rfl ?_);refine b7 (bFN ?_ (by show vs.length<=_;rw[sizeLine_eq];lia));refine b7 (bFD ?_ (bAE _));refine bAU ?_;have d:(((s.heap.update a (Obj.mapSeq λ_=>#[])).push (seqObj "tuple" vs.toArray 0)).push (seqObj "list" #[] 0)).get? a=some (seqObj "list" #[] y):=by rw[bES _ _ _ (by rw[size_push',Heap.size_update];exact z9 (bBR G)),bES _ _ _ (by rw[Heap.size_update];exact z9 G)];exact v
 have m:∀b o,b≠a->s.heap.get? b=some o->(((s.heap.update a (Obj.mapSeq λ_=>(#[]:Array Value))).push (seqObj "tuple" vs.toArray 0)).push (seqObj "list" #[] 0)).get? b=some o:=λb o I q=>by refine d7 _ (d7 _ ?_);rw[Heap.get?_update_ne _ _ _ _ I];exact q
 show wpAny (model prog w) A _ P E { s with heap:=((s.heap.update a (Obj.mapSeq λ_=>#[])).push (seqObj "tuple" vs.toArray 0)).push (seqObj "list" #[] 0) };dsimp only;have k:vs.toArray.size=vs.length:=by simp
 by_cases l:vs.toArray.size<2
 ·rw[if_pos l,if_pos l];refine b7 (d8 ?_);rw[StateT.run_pure];refine b7 (d8 ?_);dsimp only;refine b7 (seqEpoch_at d rfl ?_);refine b7 (listUpdate_at d rfl ?_ (hsz2:=by rw[Array.size_map];show (pairsOf vs).size<=_;rw[pairsOf_size,sizeLine_eq];lia));simp only[bne_self_eq_false,bBB,if_false];refine d8 ?_;have e:((arrOf (SortSt.mk' general' (vs.toArray.zip vs.toArray) #[] 7 none)).map (·.2))=List.toArray ((eG vs.length f).map λi=>vs.getD i Value.none):=by
   show ((vs.toArray.zip vs.toArray).map (·.2))=_;unfold eG;rw[if_pos (by lia)]
   match vs,k,l with
   |[],_,_=>simp
   |[x],_,_=>simp[List.range,List.range.loop]
   |_::_::_,k,l=>rw[k,j9,j9] at l;lia
  rw[e];exact h
 ·rw[if_neg l,if_neg l];have u:2<=vs.length:=by lia
  obtain⟨κ,B,z⟩:=D u _ m;refine b7 (bBQ (B (fun F g=>(kas_sort vs.length).kasWp (kas_ask prog w A F vs) (λp g=>g={ s with heap:=((s.heap.update a (Obj.mapSeq λ_=>#[])).push (seqObj "tuple" vs.toArray 0)).push (seqObj "list" #[] 0) }/\p=(kas_sort vs.length).ev f) g) (bA1 (n:=vs.length) (P:=Pl vs.length) (f:=f) (cmp:=kas_ask prog w A κ vs) (t:=kas_sort vs.length) z (xX (by lia)) (Q:=λp g=>g={ s with heap:=((s.heap.update a (Obj.mapSeq λ_=>#[])).push (seqObj "tuple" vs.toArray 0)).push (seqObj "list" #[] 0) }/\p=(kas_sort vs.length).ev f) ⟨rfl,rfl⟩)) (fun F O D=>?_) λ_ _ x=>x.elim);refine b7 (bBQ (kat_run (Q:=λc g=>∃p:Array Nat,p.size=vs.length/\arrOf c=p.map (kas_item (vs.toArray.zip vs.toArray))/\failedOf c=none/\g={ s with heap:=((s.heap.update a (Obj.mapSeq λ_=>#[])).push (seqObj "tuple" vs.toArray 0)).push (seqObj "list" #[] 0) }/\p=(kas_sort vs.length).ev f)
   rfl u M (λL c g J N K H=>⟨L,J,N,K,H⟩) D) ?_ λ_ _ e=>e)
  rintro⟨⟨⟩,c⟩ g ⟨p,hp,har,hf,rfl,rfl⟩;dsimp only;have r:=kat_snds rfl har;rw[r];refine b7 (seqEpoch_at d rfl ?_);refine b7 (listUpdate_at d rfl ?_ (bAE _) (by rw[j6,j4,v7,hp,sizeLine_eq];lia));rw[hf];simp only[bne_self_eq_false,bBB,if_false];refine d8 ?_;have e:eG vs.length f=((kas_sort vs.length).ev f).toList:=by unfold eG;rw[if_neg (by lia)]
  rw[e] at h;exact h
def aHb (p:s.heap.IsList l vs.toArray)(k:vs.length<64)
  (n:2<=vs.length->∀h',(∀b o,s.heap.get? b=some o->h'.get? b=some o)->∃κ,(∀(Q:SortKind->Shared->Prop),Q κ { s with heap:=h' }->wpAny (model prog w) A.in1.in1 (keyKind' vs.toArray) Q (λ_ _=>False) { s with heap:=h' })/\∀i j (C:Bool->Shared->Prop),i<vs.length->j<vs.length->C (f i j) { s with heap:=h' }->kas_ask prog w A.in1.in1 κ vs i j C { s with heap:=h' })
  (h:Q (.ref (s.heap.objs.size+1)) { s with heap:=sortedAll s.heap vs (List.toArray ((eG vs.length f).map λi=>vs.getD i Value.none)) }) :
  wpAny (model prog w) A (call (.builtin "sorted") [.ref l]) Q E s:=by
 refine Calls.call_function_entry kind_sorted plain_sorted entry_sorted (args_sorted1 _) ?_;unfold Builtin.«sorted»;refine b7 (d8 ?_);refine b7 (collect_list p ?_ (by rw[sizeLine_eq];lia));refine b7 (bFD ?_ (by rw[sizeLine_eq];lia));have c:((s.heap.push (seqObj "list" #[] 0)).update s.heap.objs.size (Obj.mapSeq (·++vs.toArray))).objs.size=s.heap.objs.size+1:=by rw[Heap.size_update,size_push']
 have e:(((s.heap.push (seqObj "list" #[] 0)).update s.heap.objs.size (Obj.mapSeq (·++vs.toArray))).push (seqObj "list" vs.toArray 0)).get? (s.heap.objs.size+1)=some (seqObj "list" vs.toArray 0):=by rw[<-c];exact j8 _ rfl
 have d:∀b o,s.heap.get? b=some o->(((s.heap.push (seqObj "list" #[] 0)).update s.heap.objs.size (Obj.mapSeq (·++vs.toArray))).push (seqObj "list" vs.toArray 0)).get? b=some o:=λb o q=>by have a:=t8 q;rw[bES _ _ _ (by rw[c];exact z9 (bBR a)),Heap.get?_update_ne _ _ _ _ (z9 a),bES _ _ _ (z9 a)];exact q
 rw[c];refine b7 (bAU (bAH slot_list_sort ⟨_,e,rfl⟩ entry_list_sort (qD e k (λm h' g=>n m h' λb o q=>g b o (z9 (bBR (t8 q))) (d b o q)) ⟨_,rfl,?_⟩) (args_list_sort _)));exact d8 ⟨_,rfl,h⟩
end PySem.W
namespace PySem.W.N4
open PySem PySem.Calls PyProof.Rows PySem.W
structure Swo (f:Nat->Nat->Bool):Prop where
 asym:∀{i j},f i j=true->f j i=false
 tr:∀{i j k},f j i=false->f k j=false->f k i=false
def Swo.lt1 (S:Swo f)(a:f i j=true)(b:f k j=false):f i k=true:=by
 cases e:f i k with
 |true=>rfl
 |false=>have:=S.tr b e;rw[a] at this;cases this
theorem tE {α β:Type}{f:Nat->Nat->Bool}{g:α->KasT β}:∀t:KasT α,(t.bind g).ev f=(g (t.ev f)).ev f
 |.ret a=>rfl
 |.ask i j k=>tE (k (f i j))
def vN (a:j<=p.size)(k:Nat):(kas_rev p i j).getD k 0=if i<=k/\k<j then p.getD (i+j - 1 - k) 0 else p.getD k 0:=by
 unfold kas_rev;rw[w6,getElem?_mirror_all a]
 split <;> rw[w6]
def bBz (c:k<p.size)(hd:d<=k)(x:Nat):(bubble p k d).getD x 0=if x=k - d then p.getD k 0 else if k - d<x/\x<=k then p.getD (x - 1) 0 else p.getD x 0:=by
 rw[w6,getElem?_bubble c d hd,w6,w6,w6];by_cases a:x=k - d
 ·rw[if_pos a,if_pos a]
 ·rw[if_neg a,if_neg a];by_cases b:k - d<x/\x<=k
  ·rw[if_pos b,if_pos b]
  ·rw[if_neg b,if_neg b]
structure Ld (N:Nat)(p:Array Nat):Prop where
 sz:p.size=N
 pm:p.Perm (List.range N).toArray
def Asc (f:Nat->Nat->Bool)(p:Array Nat)(m:Nat):Prop:=∀i j,i<j->j<m->f (p.getD j 0) (p.getD i 0)=false
def Fds (f:Nat->Nat->Bool)(p:Array Nat)(m:Nat):Prop:=∀i j,i<j->j<m->f (p.getD i 0) (p.getD j 0)=false
def Ld.rev (L:Ld N p):Ld N (kas_rev p i j):=⟨by unfold kas_rev;rw[mirror_size];exact L.sz,(mirror_perm _ _ _ _).trans L.pm⟩
theorem aOs (p:Array Nat):∀fu m,m<=(kas_asc p fu m).ev f/\(kas_asc p fu m).ev f<=m+fu/\(∀k,m<=k->k<(kas_asc p fu m).ev f->f (p.getD k 0) (p.getD (k - 1) 0)=false)/\((kas_asc p fu m).ev f<m+fu->f (p.getD ((kas_asc p fu m).ev f) 0) (p.getD ((kas_asc p fu m).ev f - 1) 0)=true)
 |0,m=>⟨d9 _,d9 _,λk b a=>absurd (show k<m from a) (by lia),λh=>absurd (show m<m+0 from h) (by lia)⟩
 |fu+1,m=>by
  show m<=(if f (p.getD m 0) (p.getD (m - 1) 0)=true then KasT.ret m else kas_asc p fu (m+1)).ev f/\(if f (p.getD m 0) (p.getD (m - 1) 0)=true then KasT.ret m else kas_asc p fu (m+1)).ev f<=m+(fu+1)/\(∀k,m<=k->k<(if f (p.getD m 0) (p.getD (m - 1) 0)=true then KasT.ret m else kas_asc p fu (m+1)).ev f->f (p.getD k 0) (p.getD (k - 1) 0)=false)/\((if f (p.getD m 0) (p.getD (m - 1) 0)=true then KasT.ret m else kas_asc p fu (m+1)).ev f<m+(fu+1)->f (p.getD ((if f (p.getD m 0) (p.getD (m - 1) 0)=true then KasT.ret m else kas_asc p fu (m+1)).ev f) 0) (p.getD ((if f (p.getD m 0) (p.getD (m - 1) 0)=true then KasT.ret m else kas_asc p fu (m+1)).ev f - 1) 0)=true);by_cases e:f (p.getD m 0) (p.getD (m - 1) 0)=true
  ·simp only[if_pos e];exact⟨d9 _,bDF _ _,λk b a=>absurd (show k<m from a) (by lia),λ_=>e⟩
  ·simp only[if_neg e];obtain⟨b,a,c,g⟩:=aOs p fu (m+1);refine⟨by lia,by lia,λk i d=>?_,λh=>g (by lia)⟩;by_cases z:k=m
   ·subst z;simpa using e
   ·exact c k (by lia) d
theorem aGx (S:Swo f)(l:Asc f p m)(o:1<=m):∀d,(∀k,m<=k->k<m+d->f (p.getD k 0) (p.getD (k - 1) 0)=false)->Asc f p (m+d)
 |0,_=>l
 |d+1,h=>λi j c n=>by
  have g:=aGx S l o d λk a b=>h k a (by lia);by_cases z:j=m+d
  ·subst z;have e:=h (m+d) (by lia) (by lia);by_cases y:i=m+d - 1
   ·subst y;exact e
   ·exact S.tr (g i (m+d - 1) (by lia) (by lia)) e
  ·exact g i j c (by lia)
structure Dsc (f:Nat->Nat->Bool)(N:Nat)(p:Array Nat)(n q:Nat):Prop where
 ld:Ld N p
 hq:q+1<=n
 hn:n<=N
 a:Fds f p n
 b:∀i j,n - (q+1)<=i->i<j->j<n->f (p.getD j 0) (p.getD i 0)=false
def rP (p:Array Nat)(n q:Nat):Array Nat:=if q > 0 then kas_rev p (n - (q+1)) n else p
def Dsc.close (D:Dsc f N p n q):Ld N (rP p n q)/\Fds f (rP p n q) n/\(∀k,k<n->∃k',k'<n/\(rP p n q).getD k 0=p.getD k' 0)/\(rP p n q).getD n 0=p.getD n 0:=by
 have l:=D.hq;have c:n<=p.size:=by rw[D.ld.sz];exact D.hn
 unfold rP;by_cases h:q > 0
 ·rw[if_pos h];refine⟨D.ld.rev,λi j e g=>?_,λk d=>?_,by rw[vN c,if_neg (by lia)]⟩
  ·rw[vN c,vN c];by_cases a:n - (q+1)<=i
   ·rw[if_pos ⟨a,by lia⟩,if_pos ⟨by lia,g⟩];exact D.b _ _ (by lia) (by lia) (by lia)
   ·rw[if_neg (show ¬ (n - (q+1)<=i/\i<n) by lia)]
    split
    ·exact D.a _ _ (by lia) (by lia)
    ·exact D.a i j e g
  ·rw[vN c]
   split
   ·exact⟨_,by lia,rfl⟩
   ·exact⟨k,d,rfl⟩
 ·rw[if_neg h];exact⟨D.ld,D.a,λk d=>⟨k,d,rfl⟩,rfl⟩
def Dsc.down (S:Swo f)(D:Dsc f N p n q)(o:n<N)(h:f (p.getD n 0) (p.getD (n - 1) 0)=true):Dsc f N (rP p n q) (n+1) 0:=by
 obtain⟨L,F,R,e⟩:=D.close;have m:=D.hq;refine⟨L,by lia,o,λi j d r=>?_,λi j a b c=>by lia⟩;by_cases z:j=n
 ·subst z;obtain⟨g,l,k⟩:=R i d;rw[e,k];by_cases y:g=j - 1
  ·subst y;exact S.asym h
  ·exact S.asym (S.lt1 h (D.a g (j - 1) (by lia) (by lia)))
 ·exact F i j d (by lia)
def Dsc.flat (S:Swo f)(D:Dsc f N p n q)(k:n<N)(e:f (p.getD n 0) (p.getD (n - 1) 0)=false)(g:f (p.getD (n - 1) 0) (p.getD n 0)=false):Dsc f N p (n+1) (q+1):=by
 have h:=D.hq;refine⟨D.ld,by lia,k,λi j d l=>?_,λi j a b c=>?_⟩
 ·by_cases z:j=n
  ·subst z;by_cases y:i=j - 1
   ·subst y;exact g
   ·exact S.tr g (D.a i (j - 1) (by lia) (by lia))
  ·exact D.a i j d (by lia)
 ·by_cases z:j=n
  ·subst z;by_cases y:i=j - 1
   ·subst y;exact e
   ·exact S.tr (D.b i (j - 1) (by lia) (by lia) (by lia)) e
  ·exact D.b i j (by lia) b (by lia)
theorem aBt (S:Swo f):∀fu p n q,Dsc f N p n q->n+fu<=N->Dsc f N ((kas_desc fu p n q).ev f).1 ((kas_desc fu p n q).ev f).2.1 ((kas_desc fu p n q).ev f).2.2
 |0,p,n,q,D,_=>D
 |fu+1,p,n,q,D,h=>by
  show Dsc f N ((if f (p.getD n 0) (p.getD (n - 1) 0)=true then (if q > 0 then kas_desc fu (kas_rev p (n - (q+1)) n) (n+1) 0 else kas_desc fu p (n+1) 0) else .ask (p.getD (n - 1) 0) (p.getD n 0) λd=>if d=true then .ret (p,n,q) else kas_desc fu p (n+1) (q+1)).ev f).1 ((if f (p.getD n 0) (p.getD (n - 1) 0)=true then (if q > 0 then kas_desc fu (kas_rev p (n - (q+1)) n) (n+1) 0 else kas_desc fu p (n+1) 0) else .ask (p.getD (n - 1) 0) (p.getD n 0) λd=>if d=true then .ret (p,n,q) else kas_desc fu p (n+1) (q+1)).ev f).2.1 ((if f (p.getD n 0) (p.getD (n - 1) 0)=true then (if q > 0 then kas_desc fu (kas_rev p (n - (q+1)) n) (n+1) 0 else kas_desc fu p (n+1) 0) else .ask (p.getD (n - 1) 0) (p.getD n 0) λd=>if d=true then .ret (p,n,q) else kas_desc fu p (n+1) (q+1)).ev f).2.2;by_cases e:f (p.getD n 0) (p.getD (n - 1) 0)=true
  ·have a:=D.down S (by lia) e;unfold rP at a;simp only[if_pos e];by_cases c:q > 0
   ·simp only[if_pos c] at a ⊢;exact aBt S fu _ _ _ a (by lia)
   ·simp only[if_neg c] at a ⊢;exact aBt S fu _ _ _ a (by lia)
  ·simp only[if_neg e];show Dsc f N ((if f (p.getD (n - 1) 0) (p.getD n 0)=true then KasT.ret (p,n,q) else kas_desc fu p (n+1) (q+1)).ev f).1 ((if f (p.getD (n - 1) 0) (p.getD n 0)=true then KasT.ret (p,n,q) else kas_desc fu p (n+1) (q+1)).ev f).2.1 ((if f (p.getD (n - 1) 0) (p.getD n 0)=true then KasT.ret (p,n,q) else kas_desc fu p (n+1) (q+1)).ev f).2.2;by_cases b:f (p.getD (n - 1) 0) (p.getD n 0)=true
   ·simp only[if_pos b];exact D
   ·simp only[if_neg b];exact aBt S fu _ _ _ (D.flat S (by lia) (by simpa using e) (by simpa using b)) (by lia)
def aKy (f:Nat->Nat->Bool)(N:Nat)(r:Nat × Array Nat):Prop:=1<=r.1/\r.1<=N/\Ld N r.2/\Asc f r.2 r.1
def aMh (S:Swo f){N n:Nat}{p:Array Nat}(L:Ld N p)(F:Fds f p n)(m:1<=n)(k:n<=N):aKy f N ((kas_tail3 n N p).ev f):=by
 unfold kas_tail3;rw[tE];have a:n<=p.size:=by rw[L.sz];exact k
 have h:Asc f (kas_rev p 0 n) n:=λi j g c=>by rw[vN a,vN a,if_pos ⟨bAE _,c⟩,if_pos ⟨bAE _,by lia⟩];exact F _ _ (by lia) (by lia)
 obtain⟨l,e,b,_⟩:=aOs (f:=f) (kas_rev p 0 n) (N - n) n;obtain⟨d,hd⟩:∃d,(kas_asc (kas_rev p 0 n) (N - n) n).ev f=n+d:=⟨(kas_asc (kas_rev p 0 n) (N - n) n).ev f - n,by lia⟩;show aKy f N ((kas_asc (kas_rev p 0 n) (N - n) n).ev f,kas_rev p 0 n);rw[hd] at e b ⊢;exact⟨by show 1<=n+d;lia,by show n+d<=N;lia,L.rev,aGx S h m d b⟩
def aAl (S:Swo f){N n:Nat}{p:Array Nat}(D:Dsc f N p (n+1) 0):aKy f N ((kas_descPart n N p).ev f):=by
 unfold kas_descPart;rw[tE];have a:=aBt S (N - (n+1)) p (n+1) 0 D (by have:=D.hn;lia);generalize (kas_desc (N - (n+1)) p (n+1) 0).ev f=r at a;obtain⟨L,F,_⟩:=a.close;have b:=a.hq;unfold rP at L F;by_cases h:r.2.2 > 0
 ·simp only[if_pos h] at L F ⊢;exact aMh S L F (by lia) a.hn
 ·simp only[if_neg h] at L F ⊢;exact aMh S L F (by lia) a.hn
def aWb (S:Swo f){N:Nat}(h1:1<=N){p:Array Nat}(L:Ld N p):aKy f N ((kas_count N p).ev f):=by
 unfold kas_count;rw[tE];obtain⟨l,u,r,o⟩:=aOs (f:=f) p (N - 1) 1;generalize B:(kas_asc p (N - 1) 1).ev f=m at l u r o;obtain⟨d,rfl⟩:∃d,m=1+d:=⟨m - 1,by lia⟩;have A:Asc f p (1+d):=aGx S (λi j h q=>by lia) (d9 _) d r;have w:N<=p.size:=by rw[L.sz];exact d9 _
 by_cases e:(1+d == N)=true
 ·simp only[if_pos e];exact⟨l,by show 1+d<=N;lia,L,A⟩
 ·simp only[if_neg e];have t:1+d<N:=by
   have:1+d≠N:=by simpa using e
   lia
  have hd:=o (by lia);by_cases s:1+d > 1
  ·simp only[if_pos s];show aKy f N ((if f (p.getD 0 0) (p.getD (1+d - 1) 0)=true then KasT.ret (1+d,p) else kas_descPart (1+d) N (kas_rev p 0 (1+d))).ev f);by_cases g:f (p.getD 0 0) (p.getD (1+d - 1) 0)=true
   ·simp only[if_pos g];exact⟨l,by show 1+d<=N;lia,L,A⟩
   ·simp only[if_neg g];have g:f (p.getD 0 0) (p.getD (1+d - 1) 0)=false:=by simpa using g
    have n:=λk=>vN (i:=0) (j:=1+d) (p:=p) (by lia) k;refine aAl S ⟨L.rev,by lia,by lia,λi j h q=>?_,λi j a b c=>by lia⟩;rw[n i,n j,if_pos ⟨bAE _,by lia⟩];by_cases z:j=1+d
    ·subst z;rw[if_neg (by lia)];refine S.asym ?_;generalize v:0+(1+d) - 1 - i=k;by_cases y:k=1+d - 1
     ·rw[y];exact hd
     ·refine S.lt1 hd ?_;by_cases x:k=0
      ·rw[x];exact g
      ·exact S.tr g (A 0 k (by lia) (by lia))
    ·rw[if_pos ⟨bAE _,by lia⟩];exact A _ _ (by lia) (by lia)
  ·have z:d=0:=by lia
   subst z;simp only[if_neg s];refine aAl S ⟨L,by lia,by lia,λi j h q=>?_,λi j a b c=>by lia⟩;have z:j=1:=by lia
   have y:i=0:=by lia
   subst z y;exact S.asym hd
theorem aCd (S:Swo f)(A:Asc f p k):∀fu l r,l<=r->r<=k->r - l<=fu->(∀i,i<l->f (p.getD k 0) (p.getD i 0)=false)->(∀i,r<=i->i<k->f (p.getD k 0) (p.getD i 0)=true) ->
  (kas_place p k fu l r).ev f<=k/\(∀i,i<(kas_place p k fu l r).ev f->f (p.getD k 0) (p.getD i 0)=false)/\∀i,(kas_place p k fu l r).ev f<=i->i<k->f (p.getD k 0) (p.getD i 0)=true
 |0,l,r,j,d,h3,a,b=>by
  have z:l=r:=by lia
  subst z;exact⟨d,a,b⟩
 |fu+1,l,r,j,d,h3,a,b=>by
  unfold kas_place;by_cases e:l ≥ r
  ·have z:l=r:=by lia
   subst z;simp only[if_pos e];exact⟨d,a,b⟩
  ·simp only[if_neg e];by_cases c:f (p.getD k 0) (p.getD ((l+r) / 2) 0)=true
   ·have n:∀i,(l+r) / 2<=i->i<k->f (p.getD k 0) (p.getD i 0)=true:=λi j d=>by
     by_cases z:i=(l+r) / 2
     ·subst z;exact c
     ·exact S.lt1 c (A _ i (by lia) d)
    have:=aCd S A fu l ((l+r) / 2) (by lia) (by lia) (by lia) a n;simpa only [KasT.ev,if_pos c] using this
   ·have g:f (p.getD k 0) (p.getD ((l+r) / 2) 0)=false:=by simpa using c
    have m:∀i,i<(l+r) / 2+1->f (p.getD k 0) (p.getD i 0)=false:=λi h=>by
     by_cases z:i=(l+r) / 2
     ·subst z;exact g
     ·exact S.tr (A i _ (by lia) (by lia)) g
    have:=aCd S A fu ((l+r) / 2+1) r (by lia) d (by lia) m b;simpa only [KasT.ev,if_neg c] using this
theorem aT7 (S:Swo f){N:Nat}:∀(fu:Nat) (p:Array Nat) (k:Nat),Ld N p->Asc f p k->1<=k->k+fu=N->Ld N ((kas_bin fu p k).ev f)/\Asc f ((kas_bin fu p k).ev f) N
 |0,p,k,L,A,_,e=>by
  have z:k=N:=by lia
  subst z;exact⟨L,A⟩
 |fu+1,p,k,L,A,h1,e=>by
  unfold kas_bin;rw[tE];obtain⟨t,c,n⟩:=aCd S A k 0 k (bAE _) (d9 _) (by lia) (λi h=>by lia) (λi h v=>by lia);generalize (kas_place p k k 0 k).ev f=l at t c n;have r:k<p.size:=by rw[L.sz];lia
  have a:=λx=>bBz (p:=p) (k:=k) (d:=k - l) r (by lia) x;have s:k - (k - l)=l:=by lia
  rw[s] at a;refine aT7 S fu _ (k+1) ⟨by rw[bubble_size];exact L.sz,(bubble_perm _ _ _).trans L.pm⟩ (λi j b u=>?_) (by lia) (by lia);rw[a i,a j];by_cases o:i=l
  ·rw[if_pos o,if_neg (by lia),if_pos (by lia)];exact S.asym (n _ (by lia) (by lia))
  ·rw[if_neg o];by_cases q:l<i/\i<=k
   ·rw[if_pos q,if_neg (by lia),if_pos (by lia)];exact A _ _ (by lia) (by lia)
   ·rw[if_neg q];by_cases m:j=l
    ·rw[if_pos m];exact c i (by lia)
    ·rw[if_neg m];by_cases g:l<j/\j<=k
     ·rw[if_pos g];exact A _ _ (by lia) (by lia)
     ·rw[if_neg g];exact A _ _ b (by lia)
def aXq (S:Swo f){N:Nat}(c:1<=N):Ld N ((kas_sort N).ev f)/\Asc f ((kas_sort N).ev f) N:=by
 unfold kas_sort;rw[tE];have R:=aWb S c ⟨by simp,.refl _⟩;generalize (kas_count N (List.range N).toArray).ev f=r at R;obtain⟨a,b,L,A⟩:=R;by_cases e:r.1<N
 ·simp only[if_pos e];have z:max r.1 1=r.1:=by lia
  rw[z];exact aT7 S _ _ _ L A a (by lia)
 ·simp only[if_neg e];have z:r.1=N:=by lia
  rw[z] at A;exact⟨L,A⟩
def aVt {α:Type}{n:Nat}{P:α->Prop}{t:KasT α}(h:t.Low n P){f g:Nat->Nat->Bool}(e:∀i j,i<n->j<n->f i j=g i j):t.ev f=t.ev g:=by
 induction h with
 |ret h=>rfl
 |@ask i j k a b _ ih=>show (k (f i j)).ev f=(k (g i j)).ev g;rw[e i j a b];exact ih (g i j)
def aM2 {n:Nat}{f g:Nat->Nat->Bool}(e:∀i j,i<n->j<n->f i j=g i j):eG n f=eG n g:=by
 unfold eG;by_cases h:n<2
 ·rw[if_pos h,if_pos h]
 ·rw[if_neg h,if_neg h,aVt (xX (by lia)) e]
def aJ7 (S:Swo f):(eG n f).Perm (List.range n)/\(eG n f).Pairwise λi j=>f j i=false:=by
 unfold eG;by_cases h:n<2
 ·rw[if_pos h];refine⟨.refl _,?_⟩
  match n,h with
  |0,_=>exact .nil
  |1,_=>exact List.pairwise_singleton _ _
 ·rw[if_neg h];obtain⟨L,A⟩:=aXq S (show 1<=n by lia);generalize (kas_sort n).ev f=p at L A;refine⟨?_,List.pairwise_iff_getElem.mpr λi j e d c=>?_⟩
  ·have:=Array.perm_iff_toList_perm.mp L.pm;simpa using this
  ·have b:i<p.size:=by simpa using e
   have a:j<p.size:=by simpa using d
   have:=A i j c (by rw[<-L.sz];exact a);rw[w6,w6,m8 b,m8 a] at this;simpa using this
end PySem.W.N4
namespace PySem.W
open PySem PySem.Calls PyProof.Rows
def aB0 (l:List Value)(h:TriplesOk l)(d:codeAmong pos (l++[rawInt a,rawInt b,c])=some cv):codeAmong pos l=some cv\/cv=c:=by
 fun_induction TriplesOk l with
 |case1=>
  simp only[bCX,codeAmong,rawInt] at d
  split at d
  ·exact .inr (bAM d).symm
  ·cases d
 |case2 a' t b' u x rest ih=>
  simp only[List.cons_append,codeAmong] at d ⊢
  split at d
  ·rename_i e;rw[if_pos e];exact .inl d
  ·rename_i e;rw[if_neg e];exact ih h d
 |case3 l h1 h2=>exact h.elim
end PySem.W
namespace L2
open PySem PySem.Spec PyProof.Rows
def BM (mg:bF2)(base:Heap):Prop:=∃bm ob,mg "__builtins__"=some (.ref bm)/\bm≠builtinsNs/\base.get? bm=some ob/\ob.cls=.type "module"/\ob.dict=some builtinsNs/\ob.data=.plain
def ExO (a:Addr)(o:Obj):HO:=.ext λh=>h.get? a=some o
def bAq (e:h.get? a=some o):dN P w H h a (ExO a o):=⟨e,⟨o,e⟩,λ_ _ b k=>k o b⟩
def bE9 (g x y:Str)(p0 p1 p2 p3:Pos):Expr:=.Call (.Name g p0) [.Name x p1,.Name y p2] [] p3
structure bCq (qual g x y:Str)(params:Arguments)(bd:Expr)(scope:Scope):Prop where
 body:∃p0 p1 p2 p3,bd=bE9 g x y p0 p1 p2 p3
 bind:∀(cp c':Addr) (pm ctv v:Value),bindArgs (PySem.W.kla_fn "<lambda>" qual params bd scope [(y,cp)] pm (.ref c') ctv) ⟨[v],[]⟩=pure [(x,v)]
 co:scope.isCoroutine=false
 gen:scope.isGenerator=false
 kind:scope.kind=.function
 cell:∀z∈scope.names,z.2≠.cell
 hx:scope.names.lookup x=some .local
 hy:scope.names.lookup y=some .free
 hg:scope.names.lookup g=some .globalImplicit
 dx:(x == ("__debug__":Str))=false
 dy:(y == ("__debug__":Str))=false
 dg:(g == ("__debug__":Str))=false
 cy:(y == ("__classdict__":Str))=false
 xy:(y == x)=false
def wQ (H:Hp)(f:Addr)(qual g x y:Str)(v:V):Prop:=∃params body scope cp c' pm ctv oc ol u vs t,
 bCq qual g x y params body scope/\H f=some (ExO f (PySem.W.kla_obj "<lambda>" qual params body scope [(y,cp)] pm c' ctv))/\H cp=some (ExO cp ol)/\(∀h:Heap,h.get? cp=some ol->h.IsCell cp (some u))/\RelV v u/\H c'=some (ExO c' oc)/\oc.data=.fields vs/\vs[1]?=some (.str qual t)
def wQ.same (L:wQ H f qual g x y v)(s:Same H H'):wQ H' f qual g x y v:=by obtain⟨l,j,n,k,d,c,a,p,m,u,q,t,S,o,h,b,w,e,i,r⟩:=L;exact⟨l,j,n,k,d,c,a,p,m,u,q,t,S,s _ _ o,s _ _ h,b,w,s _ _ e,i,r⟩
section
def aYr {bF3:bF1}{σ:St}{H:Hp}{s:Shared}{Q:VK}{f ga:Addr}{qual g x y:Str}{v a:V}{E:Value}{k:Nat}{fd:FuncData}{ps:List Str}{sp:Sp}
  (L:wQ H f qual g x y v) (hr:Room (k+1) X.A) (hm:X.mg g=some (.ref ga)) (hk:PySem.W.keepIn X.K (.ref ga)=true) (hb:Binds X.K fd ps []) (F:kZ X.prog X.w X.K X.mg X.base CX0 k ga fd ps sp)
  (I:Inv X bF3 σ H s) (r:RelV a E) (h:sp [a,v] H Q E0):wpAny (model X.prog X.w) X.A (call (.ref f) [E]) (EP X bF3 σ Q) X.xe s:=by
 obtain⟨pa,bo,sc,P,R,pm,a0,oc,ol,u,vs,t,S,h1,h2,h3,h4,h5,h6,h7⟩:=L;have e1:s.heap.get? f=some _:=(I.hok f _ h1).1;have e2:s.heap.get? P=some ol:=(I.hok P _ h2).1;have e5:s.heap.get? R=some oc:=(I.hok R _ h5).1;refine bFM (PySem.W.kla_callFunE hr.depth e1 rfl S.co S.gen rfl ⟨R,oc,vs,t,rfl,e5,h6,h7⟩ ?_);rw[S.bind];refine d8 (wpAny_newFunctionEnv S.cell (λz hz=>?_) (λB G m=>⟨I.nolimit.fresh _ m,?_⟩) S.kind)
 ·have e:z=(x,E):=by simpa using hz
  rw[e];exact S.hx
 have d:∀b o,s.heap.get? b=some o->B.get? b=some o:=λb o e=>m.extBut b o (z9 (t8 e)) (d7 _ e);have T:s.heap.objs.size<=B.objs.size:=by have:=m.1;rw[bBS] at this;lia
 refine PySem.W.kla_codeExpr ?_;obtain⟨p0,p1,p2,p3,rfl⟩:=S.body;have hG:B.Ns mainGlobals X.mg:=(I.mod.glob.keeps I.bk).keeps d;refine bBT (bDT S.kind S.hg (Calls.loadGlobal_global hG hm ?_) S.dg);refine PySem.W.callWith_K (h₀:=X.base) I.ok.mod.kin hk (bBX (wpAny_Name (wpAny_loadName_local S.kind S.hx G (v:=E) (by simp) ?_) S.dx)) rfl rfl;refine bBX (wpAny_Name (wpAny_loadName_free S.kind S.hy (c:=P) (by simp[newEnv,PySem.W.kla_fn]) (v:=u) (h3 B (d _ _ e2)) ?_ S.cy) S.dy);have J:X.K.In B:=I.kIn.keeps d;refine bEM ⟨J,?_⟩;generalize j:newEnv _ s.heap.objs.size _ _ _ _ _ _ _=env;have p:env.frame=some s.heap.objs.size:=by rw[<-j];rfl
 have Y:env.scope.kind≠.module:=by rw[<-j];show sc.kind≠_;rw[S.kind];decide
 have D:X.base.get? s.heap.objs.size=none:=Heap.get?_none_of_le (bAI I.ok.bsz I.sz);have i:H s.heap.objs.size=none:=I.hok.fresh (d9 _);have E1:aIb X.prog X.w X.K X.mg X.base (X.A.deeper env) (env::X.stack) { s with heap:=B,toks:=s.toks+1 } H:=by
  refine⟨Around.frames_deeper I.ok.frames,I.ok.mod,λb o e=>⟨d _ _ (I.bs b o e).1,(I.bs b o e).2⟩,bAI (bAI I.ok.bsz I.sz) T,.cons Y p G D ?_,?_,I.hok.kept d,I.bare⟩
  ·exact I.stack.of_keeps λb o e _=>⟨o,d _ _ e,rfl⟩
  ·intro b hb;unfold frs at hb;rw[bCH,p] at hb;rcases List.mem_cons.mp hb with e|hb
   ·rw[e];exact i
   ·exact I.yL b hb
 have r2:Vals [a,v] [E,u]:=.cons r (.cons h4 .nil);have hl:([E,u]++([]:List Value)).length=ps.length:=by rw[bCJ,<-r2.length];exact F.len _ _ _ _ h
 refine bFM (bCZ (F.run (X.A.deeper env) (env::X.stack) _ H ⟨[E,u],[]⟩ [E,u] [a,v] Q E0 (hr.deeper env) E1 (by simpa using hb { s with heap:=B,toks:=s.toks+1 } [E,u] J hl) r2 h) λrr s' N=>?_);cases rr with
 |error e=>exact N.elim
 |ok fl=>
  cases fl with
  |next=>exact False.elim N
  |brk=>exact False.elim N
  |cont=>exact False.elim N
  |ret uu=>
   obtain⟨v',H',os,M,l,O,U,q⟩:=N;refine I.after (Q:=Q) (u:=uu) (s':=s') ⟨v',H',os,M,?_,O,U,q⟩;have Z:∀b o,s.heap.get? b=some o->b≠s.heap.objs.size:=λb o e=>z9 (t8 e);have fe:frs (env::X.stack)=s.heap.objs.size::frs X.stack:=by unfold frs;rw[bCH,p]
   rw[fe] at l;exact⟨λb o e n hb C=>l.keep b o (d b o e) n (λz=>(List.mem_cons.mp z).elim (Z b o e) hb) C,λb o e n hb C=>l.slot b o (d b o e) n (j7 _ hb) C,λb o e n C=>l.free b o (d b o e) n C,λb o e C=>l.there b o (d b o e) C,l.tups,l.frzs,l.tbls⟩
def aVp (P:Program)(w:World)(K:bFZ)(mg:bF2)(base:Heap)(k:Nat)(te:TE)(t:TA):TE:=fun σ H Q=>te σ H λv H1=>∃f qual g x y z ps sp,v=.ref f/\wQ H1 f qual g x y z/\Ok P w K mg base k g ps sp /\
 t σ H1 λvs H2=>∃a,vs=[a]/\wQ H2 f qual g x y z/\sp [a,z] H2 Q E0
def aUh {n:Str}{p B:Pos}{e:Expr}{es:List Expr}{te:TE}{t:TA}{k:Nat}(hr:Room (k+1) X.A)(hf:PE X (.Name n p) te)(ha:PA X (e::es) t)
  (he:starEach (e::es) X.env=(false,eval e X.env)::starEach es X.env:=by rfl) (a0:(backTo B (starEach es X.env)).any (·.1)=false:=by rfl) :
  PE X (.Call (.Name n p) (e::es) [] B) (aVp X.prog X.w X.K X.mg X.base k te t):=by
 intro c s σ H Q I h;refine bBT (thn (hf c s σ H _ I h) λu s1 ⟨v,N,R,r1,O⟩=>?_);obtain⟨f,d,g,x,y,z,ps,sp,rfl,L,G,q⟩:=O;obtain rfl:u=Value.ref f:=r1;obtain⟨ga,fd,U,V,Y,F⟩:=G;have J:=ha B c s1 σ N _ R q;rw[he] at J ⊢;refine PySem.W.callWith_of (P:=λh=>∃o m i E j l b,h.get? f=some (PySem.W.kla_obj "<lambda>" d o m i E j l b)) (by show ((false || (backTo B (starEach es X.env)).any (·.1)) || false)=false;rw[a0];rfl) (λh ⟨o,m,i,E,j,l,b,Z⟩=>⟨.frame,.inl rfl,(PySem.W.Looks.ld (part:=none) Z).andThen .now⟩) (bFF (thn J λus s2 ⟨T,H2,C,r,M⟩=>?_));obtain⟨a,rfl,D,q3⟩:=M;cases r with
 |cons r rn=>cases rn;refine⟨?_,aYr D hr U V Y F C r q3⟩;obtain⟨o,m,i,cp,l,j,b,oc,ol,u,T,t,S,h1,_⟩:=D;exact⟨o,m,i,_,j,l,b,(C.hok f _ h1).1⟩
def aRw
  (I:Inv X bF3 σ H s) (p:X.env.code=.ref c) (CH:PySem.W.CodeHd X.base c P) (i:H P=some (.tab (X.env.qual++"<lambda>"))) (a8:BM X.mg X.base) (a1:closureFor scope X.env=pure clos) (a7:defaultsOf params X.env=([],[]))
  (q:∀f c' pm ctv H' h' tk,Inv X bF3 σ H' { s with heap:=h',toks:=tk }->Same H H'->s.heap.objs.size<=f->H' f=none->H' c'=some (.own P)->H' P=some (.tab (X.env.qual++"<lambda>"))->h'.get? f=some (PySem.W.kla_obj "<lambda>" (X.env.qual++"<lambda>") params body scope clos pm c' ctv)->h'.CodeRec (.ref c') (X.env.qual++"<lambda>")->Q (.ref f) { s with heap:=h',toks:=tk }) :
  wpAny (model X.prog X.w) X.A (eval (.Lambda params body scope pos) X.env) Q E s:=by
 obtain⟨ps,hp,N,g⟩:=I.hok P _ i;have hg:=I.mod.glob.keeps I.bk;obtain⟨O,ob,b1,b2,R,b4,b5,U⟩:=a8;have bG:O≠mainGlobals:=λz=>by obtain⟨o,es,ep,e,d,_⟩:=I.mod.glob;rw[z,e] at R;cases R;rw[d] at U;cases U
 have bP:O≠P:=λz=>by have:=(I.bs O ob R).2;rw[z,i] at this;cases this
 have gP:mainGlobals≠P:=λz=>by obtain⟨o,es,ep,e,d,_⟩:=I.mod.glob;have:=(I.bs _ o e).2;rw[z,i] at this;cases this
 have hB:s.heap.BuiltinsAt X.mg P:=⟨O,ob,b1,b2,bG,bP,I.bk _ _ R,b4,b5,U⟩;refine PySem.W.kla_eval a7 ?_;cases x:codeAmong pos ps.toList with
 |some cv=>obtain⟨c',D,M,t,rfl,G,Z,Y,V⟩:=g pos cv x;refine PySem.W.kla_makeFunctionHit a1 I.ok.glob hg p (CH.keeps I.bk) hp N x hB λctv h' tk hk F=>?_;exact q _ c' _ ctv H _ tk (I.kept (t':=tk) λb o e=>d7 _ (hk b o e)) (λ_ _ e=>e) F (I.hok.fresh F) G i (j8 _ rfl) ⟨c',D,M,t,rfl,d7 _ (hk _ _ Z),Y,V⟩
 |none=>
  refine PySem.W.kla_makeFunction a1 I.ok.glob hg p (CH.keeps I.bk) hp N x gP hB λc' ctv h' tk hx h l J K=>?_;obtain⟨c2,D,M,t,e2,k,hd,hv⟩:=J;cases e2;have nc:=I.hok.fresh h;have a9:∀b u,b≠P->H b=some u->∀o,s.heap.get? b=some o->(h'.push (PySem.W.kla_obj "<lambda>" (X.env.qual++"<lambda>") params body scope clos ((X.mg "__name__").getD .none) c' ctv)).get? b=some o:=λb u hb _ o e=>d7 _ (hx b o hb e);have B:∀b o,b≠P->s.heap.get? b=some o->(h'.push (PySem.W.kla_obj "<lambda>" (X.env.qual++"<lambda>") params body scope clos ((X.mg "__name__").getD .none) c' ctv)).get? b=some o:=λb o hb e=>d7 _ (hx b o hb e);have j:∀b,H b=none->b≠P:=λb e z=>by rw[z,i] at e;cases e
  have a:∀{b u},H b=some u->upd H c' (.own P) b=some u:=λ{b u} e=>by rw[aQ (aL e nc)];exact e
  refine q _ c' _ ctv (upd H c' (.own P)) _ tk (I.step (g':=s.gens) (d':=s.drawn) (ch:=[]) (λ_ z=>nomatch z) (λb o _ _ _ e n=>B b o (j b n) e) (λb o _ _ _ e n=>⟨o.slots,B b o (j b n) e⟩) (λb o _ e n=>?_) (λb o _ e=>?_)
   (λb xs e=>a e) (λb o u e=>a e) (λb qs e=>⟨#[],by rw[a e];simp⟩) (λm hm=>?_) (λb u e=>?_) I.bare) (λb o e=>a e) (bDI (bBY h l)) (by rw[aQ (bDJ l)];exact I.hok.fresh (bDI (bBY h l))) aG (a i) (j8 _ rfl) ⟨c',D,M,t,rfl,d7 _ k,hd,hv⟩
  ·rw[aQ (z9 (bAB (t8 e) h))];exact n
  ·by_cases z:b=P
   ·subst z;exact⟨_,d7 _ K⟩
   ·exact⟨o,B b o z e⟩
  ·obtain⟨o,es,ep,e,r⟩:=hm;exact⟨o,es,ep,B _ o (j _ I.free) e,r⟩
  ·by_cases z:b=c'
   ·subst z;rw[aG] at e;cases e;exact⟨D,d7 _ k⟩
   ·rw[aQ z] at e;by_cases y:b=P
    ·subst y;rw[i] at e;cases e;refine⟨_,d7 _ K,by rw[bDB];exact TriplesOk_snoc _ _ _ _ N,λC T L=>?_⟩;rw[bDB] at L;rcases PySem.W.aB0 _ N L with L|rfl
     ·obtain⟨c2,a0,S,t2,rfl,G,Z,Y,V⟩:=g C T L;exact⟨c2,a0,S,t2,rfl,a G,B _ _ (λz=>by rw[z,i] at G;cases G) Z,Y,V⟩
     ·exact⟨c',D,M,t,rfl,aG,d7 _ k,hd,hv⟩
    ·refine (I.hok b u e).stay (λd v a6 r=>B d v ?_ r) (λd r=>a r) λd xs r=>a r;rcases a6 with rfl|r'
     ·exact y
     ·intro z;rw[z,i] at r';cases r'
open Classical in
noncomputable def aD5 (S:Addr->Prop) (h:Heap) (H:Hp):Hp:=λb=>if S b then (h.get? b).map (ExO b) else H b
open Classical in
noncomputable def aFg (S:Addr->Prop) (H Z:Hp):Hp:=λb=>if S b then H b else Z b
def pP (a:S b)(e:h.get? b=some o):aD5 S h H b=some (ExO b o):=by unfold aD5;rw[if_pos a,e];rfl
def dM (a:¬ S b):aD5 S h H b=H b:=by unfold aD5;rw[if_neg a]
def aB1 (a:S b):aFg S H Z b=H b:=by unfold aFg;rw[if_pos a]
def gQ (a:¬ S b):aFg S H Z b=Z b:=by unfold aFg;rw[if_neg a]
structure aCo (X:Cx)(H:Hp)(h:Heap)(S:Addr->Prop):Prop where
 there:∀b,S b->∃o,h.get? b=some o
 own:∀d a o,¬ S a->H a=some o->H d=some (.own a)->¬ S d
 own2:∀d a o,S a->H a=some o->(∃e,o=.own e)\/(H d=some (.own a)->S d)
 tup:∀d xs,H d=some (.tup xs)->¬ S d
 frz:∀d o u,H d=some (.frz o u)->¬ S d
 tbl:∀d ps,H d=some (.tbl ps)->¬ S d
 base:∀b o,X.base.get? b=some o->¬ S b
 frs:∀b∈frs X.stack,¬ S b
def aCo.hok (p:aCo X H s.heap S)(I:Inv X bF3 σ H s):HOk X.prog X.w (aD5 S s.heap H) s.heap:=by
 intro b o e;by_cases a:S b
 ·obtain⟨g,c⟩:=p.there b a;rw[pP a c] at e;cases e;exact bAq c
 ·rw[dM a] at e;refine (I.hok b o e).stay (λ_ _ _ q=>q) (λd q=>?_) λd f q=>?_
  ·rw[dM (p.own d b o a e q)];exact q
  ·rw[dM (p.tup d f q)];exact q
def aCo.env0 (p:aCo X H s.heap S)(I:Inv X bF3 σ H s):aIb X.prog X.w X.K X.mg X.base X.A X.stack s (aD5 S s.heap H):=
 ⟨I.ok.frames,I.ok.mod,λb o e=>⟨(I.bs b o e).1,by rw[dM (p.base b o e)];exact (I.bs b o e).2⟩,bAI I.ok.bsz I.sz,I.stack,λb a=>by rw[dM (p.frs b a)];exact I.yL b a,p.hok I,I.bare⟩
def aCo.after (p:aCo X H s.heap S)(I:Inv X bF3 σ H s)(h:CE X.stack X.prog X.w (aD5 S s.heap H) s (λv Z=>Same (aD5 S s.heap H) Z/\∀H4,Same H H4->Q v H4) u s'):EP X bF3 σ Q u s':=by
 obtain⟨v,Z,F,m,i,l,B,A,q⟩:=h;have y:∀b o,S b->s.heap.get? b=some o->s'.heap.get? b=some o:=λb o g e=>(l b _ (A _ _ (pP g e))).1;have f:Same H (aFg S H Z):=λb o e=>by
  by_cases g:S b
  ·rw[aB1 g];exact e
  ·rw[gQ g];exact A _ _ (by rw[dM g];exact e)
 refine I.after ⟨v,aFg S H Z,F,m,⟨λb o e n g t=>?_,λb o e n g t=>?_,λb o e n t=>?_,i.there,λb r e=>?_,λb o u e=>?_,λb C e=>?_⟩,λb o e=>?_,B,q _ f⟩
 ·by_cases a:S b
  ·exact y b o a e
  ·exact i.keep b o e (by rw[dM a];exact n) g t
 ·exact i.slot b o e (by rw[dM (p.frs b g)];exact n) g t
 ·by_cases a:S b
  ·rw[aB1 a];exact n
  ·rw[gQ a];exact i.free b o e (by rw[dM a];exact n) t
 ·rw[gQ (p.tup b r e)];exact i.tups b r (by rw[dM (p.tup b r e)];exact e)
 ·rw[gQ (p.frz b o u e)];exact i.frzs b o u (by rw[dM (p.frz b o u e)];exact e)
 ·rw[gQ (p.tbl b C e)];exact i.tbls b C (by rw[dM (p.tbl b C e)];exact e)
 ·by_cases a:S b
  ·rw[aB1 a] at e;rcases p.own2 b b o a e with⟨x,rfl⟩|_
   ·obtain⟨k,j⟩:=p.there b a;exact⟨k,y b k a j⟩
   ·by_cases D:∃x,o=.own x
    ·obtain⟨x,rfl⟩:=D;obtain⟨k,j⟩:=p.there b a;exact⟨k,y b k a j⟩
    ·refine (I.hok b o e).stay (λc u hc E=>?_) (λd q=>f _ _ q) λd r q=>f _ _ q;rcases hc with rfl|hc
     ·exact y _ _ a E
     ·rcases p.own2 c b o a e with z|z
      ·exact absurd z D
      ·exact y _ _ (z hc) E
  ·rw[gQ a] at e;refine (l b o e).stay (λ_ _ _ q=>q) (λd q=>?_) λd r q=>?_
   ·by_cases hd:S d
    ·obtain⟨k,j⟩:=p.there d hd;rw[A _ _ (pP hd j)] at q;cases q
    ·rw[gQ hd];exact q
   ·by_cases hd:S d
    ·obtain⟨k,j⟩:=p.there d hd;rw[A _ _ (pP hd j)] at q;cases q
    ·rw[gQ hd];exact q
end
def aVz (X:Cx)(iy:Nat)(P:Addr)(g x y:Str)(sp:Sp)(t:TA):TE:=fun σ H Q=>t σ H λvs H1=>∃z,σ[iy]?=some (some z)/\H1 P=some (.tab (X.env.qual++"<lambda>")) /\
 ∀f H2,wQ H2 f (X.env.qual++"<lambda>") g x y z->(∀a xs,SqT X.K H1 a xs->SqT X.K H2 a xs)->sp (vs++[.ref f]) H2 (λr H3=>Same H2 H3/\∀H4,Same H1 H4->Q r H4) E0
def aNy
  (F:kZ X.prog X.w X.K X.mg X.base CX0 k fa fd ps sp) (hr:Room k X.A) (aj:Gl X fn) (hm:X.mg fn=some (.ref fa)) (hk:PySem.W.keepIn X.K (.ref fa)=true) (hb:Binds X.K fd ps [])
  (h1:PE X e1 te1) (h2:PE X e2 te2) (h3:PE X e3 te3)
  (a7:X.env.code=.ref c) (CH:PySem.W.CodeHd X.base c P) (ak:BM X.mg X.base) (S:bCq (X.env.qual++"<lambda>") g x y params body scope) (hN:X.N[iy]?=some y) (aa:X.env.kindOf y=some .cell) (D:X.env.cells.lookup y=some cp) (a3:X.fn y=true) (al:closureFor scope X.env=pure [(y,cp)]) (ag:defaultsOf params X.env=([],[]))
  (ai:(fn == ("__debug__":Str))=false:=by decide)
  (af:starEach [e1,e2,e3,.Lambda params body scope lpos] X.env=[(false,eval e1 X.env),(false,eval e2 X.env),(false,eval e3 X.env),(false,eval (.Lambda params body scope lpos) X.env)]:=by rfl)
  (a4:starEach [e2,e3,.Lambda params body scope lpos] X.env=[(false,eval e2 X.env),(false,eval e3 X.env),(false,eval (.Lambda params body scope lpos) X.env)]:=by rfl) :
  PE X (.Call (.Name fn p) [e1,e2,e3,.Lambda params body scope lpos] [] pos) (aVz X iy P g x y sp (dZ te1 (dZ te2 (dZ te3 aBl)))):=by
 intro G s σ H Q I h;refine bBT (wF I aj hm ?_ ai);refine PySem.W.callWith_K I.ok.mod.kin hk ?_ (by rw[af,a4]) (by rw[a4];rfl);rw[af];refine bBX (thn (h1 G s σ H _ I h) λu1 s1 ⟨v1,H1,I1,r1,q1⟩=>?_);refine bBX (thn (h2 G s1 σ H1 _ I1 q1) λT s2 ⟨v2,H2,I2,r2,q2⟩=>?_);refine bBX (thn (h3 G s2 σ H2 _ I2 q2) λO s3 ⟨v3,H3,I3,r3,q3⟩=>?_);obtain⟨z,hz,hP,q⟩:=q3;refine bBX (aRw I3 a7 CH hP ak al ag λf c' pm a6 M h' tk v s4 J U ab l ef a0=>bEM ⟨v.kIn,?_⟩);generalize ac:({ s3 with heap:=h',toks:=tk }:Shared)=s4' at v;have hh:s4'.heap=h':=by rw[<-ac]
 rw[<-hh] at ef a0;obtain⟨m,hn,hl⟩:=v.loc;obtain⟨u,ru,lk⟩:=hl iy y z hN hz (.inr (.inl aa));have E:s4'.heap.IsCell cp (some u):=by
  rcases lk with⟨k',_⟩|⟨_,c2,e,hc⟩
  ·rw[aa] at k';cases k'
  ·rw[D] at e;cases e;exact hc
 obtain⟨ol,L,R⟩:=id E;obtain⟨c2,oc,vs,t,a9,a5,ae,hv⟩:=a0;cases a9;have j:=v.freeC y cp D;obtain⟨v0,ov,ad,_⟩:=I3.cell y cp D;have ah:=bAB (t8 ad) J;have PO:aCo X M s4'.heap (λb=>b=f\/b=cp\/b=P\/M b=some (.own P)):=by
  refine⟨λb hb=>?_,λd a o ha n C hd=>?_,λd a o ha n=>?_,λd xs e hd=>?_,λd o u e hd=>?_,λd ps e hd=>?_,λb o e hd=>?_,λb hb hd=>?_⟩
  ·rcases hb with rfl|rfl|rfl|hb
   ·exact⟨_,ef⟩
   ·exact⟨_,L⟩
   ·obtain⟨ps,e,_⟩:=v.hok _ _ l;exact⟨_,e⟩
   ·exact v.hok _ _ hb
  ·rcases hd with rfl|rfl|rfl|hd
   ·rw[U] at C;cases C
   ·rw[j] at C;cases C
   ·rw[l] at C;cases C
   ·rw[hd] at C;cases C;exact ha (.inr (.inr (.inl rfl)))
  ·rcases ha with rfl|rfl|rfl|ha
   ·rw[U] at n;cases n
   ·rw[j] at n;cases n
   ·exact .inr λq=>.inr (.inr (.inr q))
   ·rw[ha] at n;cases n;exact .inl ⟨_,rfl⟩
  ·rcases hd with rfl|rfl|rfl|hd
   ·rw[U] at e;cases e
   ·rw[j] at e;cases e
   ·rw[l] at e;cases e
   ·rw[hd] at e;cases e
  ·rcases hd with rfl|rfl|rfl|hd
   ·rw[U] at e;cases e
   ·rw[j] at e;cases e
   ·rw[l] at e;cases e
   ·rw[hd] at e;cases e
  ·rcases hd with rfl|rfl|rfl|hd
   ·rw[U] at e;cases e
   ·rw[j] at e;cases e
   ·rw[l] at e;cases e
   ·rw[hd] at e;cases e
  ·have i:=(v.bs b o e).2;have V:=bAB (t8 e) I.ok.bsz;rcases hd with rfl|rfl|rfl|hd
   ·exact absurd (bAB V (bAI I3.sz J)) (bBN _)
   ·exact absurd (bAB V (I.ok.cab y _ a3 D)) (bBN _)
   ·rw[l] at i;cases i
   ·rw[hd] at i;cases i
  ·have i:=v.yL b hb;rcases hd with rfl|rfl|rfl|hd
   ·obtain⟨_,o,n,_⟩:=I3.stack.mem hb;exact absurd (bAB (t8 n) J) (bBN _)
   ·rcases List.mem_cons.mp (v.aGt _ hb) with e|hb'
    ·obtain⟨o,es,ep,n,C,_⟩:=hn;rw[<-e,L] at n;cases n;rw[R] at C;cases C
    ·obtain⟨_,o,n,_⟩:=I.ok.funs.mem hb';exact absurd (bAB (t8 n) (I.ok.cab y _ a3 D)) (bBN _)
   ·rw[l] at i;cases i
   ·rw[hd] at i;cases i
 have LA:wQ (aD5 (λb=>b=f\/b=cp\/b=P\/M b=some (.own P)) s4'.heap M) f (X.env.qual++"<lambda>") g x y z:=
  ⟨params,body,scope,cp,c',pm,a6,oc,ol,u,vs,t,S,pP (.inl rfl) ef,pP (.inr (.inl rfl)) L,λh e=>⟨ol,e,R⟩,ru,pP (.inr (.inr (.inr ab))) a5,ae,hv⟩
 have hq:=q f _ LA λb xs e=>by
  rcases s4.aP e with (e|⟨ob,e⟩)|e
  ·exact .inl (.inl (by rw[dM (PO.tup b xs e)];exact e))
  ·exact .inl (.inr ⟨ob,by rw[dM (PO.frz b ob _ e)];exact e⟩)
  ·exact .inr e
 have r:Vals [v1,v2,v3,.ref f] [u1,T,O,.ref f]:=.cons r1 (.cons r2 (.cons r3 (.cons rfl .nil)));have a1:([u1,T,O,Value.ref f]++([]:List Value)).length=ps.length:=by rw[bCJ,<-r.length];exact F.len _ _ _ _ hq
 refine bFM (bCZ (F.run X.A X.stack s4' (aD5 (λb=>b=f\/b=cp\/b=P\/M b=some (.own P)) s4'.heap M) ⟨[u1,T,O,.ref f],[]⟩ [u1,T,O,.ref f] [v1,v2,v3,.ref f] _ E0 hr (PO.env0 v) (by simpa using hb s4' [u1,T,O,.ref f] v.kIn a1) r hq) λrr s' B=>?_);cases rr with
 |error e=>exact B.elim
 |ok fl=>
  cases fl with
  |next=>exact False.elim B
  |brk=>exact False.elim B
  |cont=>exact False.elim B
  |ret uu=>obtain⟨v',Z,os,Y,un,a2,a8,sm,qq⟩:=B;exact PO.after v ⟨v',Z,os,Y,un,a2,a8,sm,λH4 s5=>qq H4 (s4.trans s5)⟩
def aS4 {n:Str}{p pos:Pos}{e:Expr}{es:List Expr}{te:TE}{t:TA}{P:Program}{w:World}{K:bFZ}{mg:bF2}{base:Heap}{k:Nat}(d:Room (k+1) X.A)(f:VE X (.Name n p) te)(h:VA X (e::es) t)(b:cW e=true:=by rfl)(a:(backTo pos (starEach es X.env)).any (·.1)=false:=by rfl)
  (i:X.prog=P:=by rfl) (l:X.w=w:=by rfl) (c:X.K=K:=by rfl) (j:X.mg=mg:=by rfl) (g:X.base=base:=by rfl) :
  VE X (.Call (.Name n p) (e::es) [] pos) (aVp P w K mg base k te t):=by
 subst i l c j g;exact⟨aUh d f.1 h.1 (aU b) a⟩
def aOm
  (G:Ok X.prog X.w X.K X.mg X.base k fn ps sp) (B:Room k X.A) (q:Gl X fn) (F:VE X e1 te1) (D:VE X e2 te2) (z:VE X e3 te3)
  (a:X.env.code=.ref c) (E:PySem.W.CodeHd X.base c P) (u:BM X.mg X.base) (S:bCq (X.env.qual++"<lambda>") g x y params body scope) (C:X.N[iy]?=some y) (o:X.env.kindOf y=some .cell) (m:X.env.cells.lookup y=some cp) (s:X.fn y=true) (f:closureFor scope X.env=pure [(y,cp)]) (e:defaultsOf params X.env=([],[]))
  (j:cW e1=true:=by rfl) (d:cW e2=true:=by rfl) (b:cW e3=true:=by rfl) (i:(fn == ("__debug__":Str))=false:=by decide)
  (h:starEach [.Lambda params body scope lpos] X.env=[(false,eval (.Lambda params body scope lpos) X.env)]:=by rfl) :
  VE X (.Call (.Name fn p) [e1,e2,e3,.Lambda params body scope lpos] [] pos) (aVz X iy P g x y sp (dZ te1 (dZ te2 (dZ te3 aBl)))):=by
 obtain⟨H,v,r,l,t,n⟩:=G;refine⟨aNy n B q r l t F.1 D.1 z.1 a E u S C o m s f e i ?_ ?_⟩
 ·rw[aU j,aU d,aU b,h]
 ·rw[aU d,aU b,h]
end L2
namespace HT
open PySem PySem.Spec PyProof.Rows L2
def tU {t y:Addr}{a:Array Value}{vl vu:Value}{lo hi:Option Int}{Q:bF0}(c:IsTup s.heap t a)(m:s.heap.IsSliceOf y vl vu .none)(pl:IsPart vl lo)(B:IsPart vu hi)
  (r:sIx a.size 0 lo=0/\sIx a.size a.size hi=a.size) (h:Q (.ref t) s):wpAny (model prog w) A (getItem (.ref t) (.ref y)) Q E s:=by
 obtain⟨u,i,f,l⟩:=id m;have e:s.TypeIs (.ref y) "slice":=⟨u,i,f⟩;obtain⟨⟨o,z,k,q⟩,p,j,n,hd⟩:=id c;simp only at j hd;subst j hd;unfold getItem
 try with_reducible refine bAU ?_
 first|refine b7 (d8 ?_)|skip
 refine b7 (wpAny_sequenceKey c.typeIs (by decide) ?_);refine b7 (bAJ c.typeIs bCK
  (bAH bCK c.typeIs entry_tuple_getitem ?_ (args_tuple_getitem _ _)))
 show wpAny _ _ (Builtin.Tuple.tupleItemsOf (.ref t) >>= _) _ _ s;refine b7 (tupleItemsOf_ c ?_);refine b7 (bEO e ?_);rw[if_pos (by decide)];refine b7 (oW m pl B ?_);have b:((((sIx a.size 0 lo:Nat):Int) == 0 && (1:Int) == 1 && (sIx a.size a.size hi - sIx a.size 0 lo) == a.size)=true):=by rw[r.1,r.2];simp
 show wpAny _ _ (if (((sIx a.size 0 lo:Nat):Int) == 0 && (1:Int) == 1 && (sIx a.size a.size hi - sIx a.size 0 lo) == a.size)=true then _ else _) _ _ s;rw[if_pos b];obtain⟨C,g,d,x,v⟩:=s;wp_walk using AutoSeq1.wpAny_loadPart' p;exact⟨_,rfl,d8 h⟩
end HT
namespace L2
open PySem PySem.Spec PyProof.Rows
def bFg (K:bFZ):V->Option Int->Option Int->Hp->VK->Prop:=λx lo hi H Q=>∃a xs,x=.ref a/\SqT K H a xs/\∀p H',Same H H'->SqT K H' p (pQ xs lo hi)->Q (.ref p) H'
def mX:SlR X (bFg X.K):=by
 intro f s σ H x v A z k j u Q I o l t n h;obtain⟨a,b,rfl,i,q⟩:=h;by_cases d:HT.sIx b.length 0 k=0/\HT.sIx b.length b.length j=b.length
 ·cases o;obtain⟨g,r,m,C⟩:=I.tuple i;have c:g.toArray.size=b.length:=by rw[j6];exact r.length.symm
  refine⟨"tuple",_,PyProof.Rows.slot_tuple_getitem.lookup,m.typeIs,?_⟩;refine HT.tU m l t n (by rw[c];exact d) ⟨.ref a,H,I,rfl,q a H (Same.refl H) ?_⟩;have e:pQ b k j=b:=by unfold pQ;rw[d.1,d.2,List.drop_zero,Nat.sub_zero,bCA]
  rw[e];exact i
 ·exact aBq f s σ H _ v A z k j u Q I o l t n ⟨a,b,rfl,i,d,λp B w y=>q p B w (SqT.of y)⟩
inductive PH (P:Program)(w:World):List DictEntry->List (Str × Value)->Prop
 |nil:PH P w [] []
 |cons {e:DictEntry} {kv:Str × Value} {es:List DictEntry} {kvs:List (Str × Value)}:(strKind P w).is kv.1 e.key=true->e.hash=(strKind P w).hash kv.1->e.val=kv.2->PH P w es kvs->PH P w (e::es) (kv::kvs)
end L2
namespace PySem
def aBh:typeLookup (.type "tuple") "keys"=pure none:=am_miss_of_fast (by trivial)
def aDm:typeLookup (.type "list") "keys"=pure none:=am_miss_of_fast (by trivial)
def sqN:Bool->String
 |true=>"list"
 |false=>"tuple"
def aIq (n:s.heap.get? a=some o)(p:o.cls=.type "tuple")(i:o.data=.seq xs k)(hd:o.dict=none)(G:A.handled=none)
  (h:∀h' tk,(∀b u,s.heap.get? b=some u->h'.get? b=some u)->Q none { s with heap:=h',toks:=tk }):wpAny (model prog w) A (getAttr? (.ref a) "keys") Q E s:=by
 obtain⟨c,v,t,m⟩:=o;simp only at p i hd;subst p i hd;obtain⟨q,g,d,tk,r⟩:=s;have l:∀f,(⟨q,g,d,f,r⟩:Shared).TypeIs (.ref a) "tuple":=λ_=>⟨_,n,rfl⟩;have y:=sub_AttributeError;have C:=F.slot_tuple_getattribute.lookup;have z:=F.slot_tuple_getattribute.bind (.ref a);have D:=am_tuple_getattr_none;unfold getAttr? getAttrBy? getAttrBy
 repeat (any_goals (first|assumption|exact l _|((with_reducible show wpAny _ _ (call (Value.builtin "tuple.__getattribute__") _ _) _ _ _);refine call_meets F.slot_tuple_getattribute (l _) am_entry_tuple_getattribute (F.args_tuple_getattribute_2 _ _) (meets_getattribute_miss_tuple a xs k m "keys" _ aBh (by trivial) (by size_fits)) ⟨n,G,λh' f e j=>?_⟩)|wp_step))
 obtain⟨H,B,x⟩:=j.there;unfold getattributeRaised
 repeat (any_goals (first|assumption|wp_step))
 exact h _ _ j.keeps
def aKs (n:s.heap.get? a=some o)(p:o.cls=.type "list")(i:o.data=.seq xs k)(hd:o.dict=none)(G:A.handled=none)
  (h:∀h' tk,(∀b u,s.heap.get? b=some u->h'.get? b=some u)->Q none { s with heap:=h',toks:=tk }):wpAny (model prog w) A (getAttr? (.ref a) "keys") Q E s:=by
 obtain⟨c,v,t,m⟩:=o;simp only at p i hd;subst p i hd;obtain⟨q,g,d,tk,r⟩:=s;have l:∀f,(⟨q,g,d,f,r⟩:Shared).TypeIs (.ref a) "list":=λ_=>⟨_,n,rfl⟩;have y:=sub_AttributeError;have C:=F.slot_list_getattribute.lookup;have z:=F.slot_list_getattribute.bind (.ref a);have D:=am_list_getattr_none;unfold getAttr? getAttrBy? getAttrBy
 repeat (any_goals (first|assumption|exact l _|((with_reducible show wpAny _ _ (call (Value.builtin "list.__getattribute__") _ _) _ _ _);refine call_meets F.slot_list_getattribute (l _) am_entry_list_getattribute (F.args_list_getattribute_2 _ _) (meets_getattribute_miss_list a xs k m "keys" _ aDm (by trivial) (by size_fits)) ⟨n,G,λh' f e j=>?_⟩)|wp_step))
 obtain⟨H,B,x⟩:=j.there;unfold getattributeRaised
 repeat (any_goals (first|assumption|wp_step))
 exact h _ _ j.keeps
def aSz (e:s.heap.get? a=some o)(f:o.cls=.type (sqN L))(c:o.data=.seq xs k)(hd:o.dict=none)(d:A.handled=none)
  (h:∀h' tk,(∀b u,s.heap.get? b=some u->h'.get? b=some u)->Q none { s with heap:=h',toks:=tk }):wpAny (model prog w) A (getAttr? (.ref a) "keys") Q E s:=by
 cases L
 ·exact aIq e f c hd d h
 ·exact aKs e f c hd d h
def iR:entryFor table "dict.update.loop"=some Builtin.«dict.update.loop»:=entryFor_of_tree (by kernel_rfl)
def dD:plainId "dict.update.loop"=true:=by trivial
section
variable {prog:Program}{w:World}{κ:Type}[DecidableEq κ]{knd:KeyKind prog w κ}
def uX (knd:KeyKind prog w κ)(h:Heap)(v:Value)(kv:κ × Value):Prop:=∃p key,v=.ref p/\PyProof.Rows.IsTup h p #[key,kv.2]/\knd.is kv.1 key=true
def uX.at (x:uX knd h v kv)(k:∀p,v=.ref p->∀o,h.get? p=some o->h'.get? p=some o):uX knd h' v kv:=by obtain⟨p,a,rfl,⟨o,c,r⟩,b⟩:=x;exact⟨p,a,rfl,⟨o,k p rfl o c,r⟩,b⟩
def aBb (W:Walks prog w A.in1 I fp wr n P St)(D:Addr)(hD:D∉fp)
  (kvs:List (κ × Value)) (a0:kvs.length=n) (hb:n<=1000) (hP:∀i v,P i v->∀p,v=.ref p->p∉D::wr) :
  ∀k i s t,i+k=n->St i s.heap->s.heap.DictOf knd D (merged [] (kvs.take i))->(∀j v kv,P j v->kvs[j]?=some kv->uX knd s.heap v kv) ->
   (∀h' tk,(∀b o,b∉D::wr->s.heap.get? b=some o->h'.get? b=some o)->h'.DictOf knd D (merged [] kvs)->R (.ok (.ret .none)) { s with heap:=h',toks:=tk }) ->
   codeAny (model prog w) A (.builtin "dict.update.loop" ⟨[.ref D,.ref I,.int (i:Nat) t,.none],[]⟩) R s:=by
 have r:D∉wr:=λq=>hD (W.sub _ q);intro k
 induction k with
 |zero=>
  intro i s t hi U hd hp q;obtain rfl:i=n:=by lia
  refine bBU iR ?_;rw[bBM dD _];refine b7 (W.done s _ _ U λh' tk B=>?_);refine b7 (d8 (d8 (q h' tk (λb o c e=>B b o (λz=>c (j7 _ z)) e) ?_)));rw[bAZ (Nat.le_of_eq a0)] at hd;exact hd.at λo e=>B D o r e
 |succ k ih=>
  intro i s t hi U hd hp q;refine bBU iR ?_;rw[bBM dD _];refine b7 (W.item i s _ _ (by lia) U λv C a hv M f=>?_);have K:i<kvs.length:=by lia
  have u:=b8 K;have O:=hd.at λo e=>f D o r e;have x:∀j v kv,P j v->kvs[j]?=some kv->uX knd C v kv:=λj v kv pj e=>(hp j v kv pj e).at λp S o H=>f p o (λz=>hP j v pj p S (j7 _ z)) H;obtain⟨p,L,rfl,⟨⟨oc,od,ox,a1⟩,ho,Y,m,hx⟩,hk⟩:=x i v _ hv u;simp only at Y hx;subst Y hx;have V:(merged [] (kvs.take i)).length<=i:=by have:=merged_length_le [] (kvs.take i);rw[bAC] at this;simp only[bCQ] at this;lia
  obtain⟨J,g,d,tk,T⟩:=s;have hT:(⟨C,g,d,a,T⟩:Shared).TypeIs (.ref p) "tuple":=⟨_,ho,rfl⟩;have F:∀Q E,Q [L,kvs[i].2] ⟨C,g,d,a,T⟩->wpAny (model prog w) A.in1 (Builtin.Dict.pairItems (.ref p)) Q E ⟨C,g,d,a,T⟩:=by intro Q E h;unfold Builtin.Dict.pairItems;wp_walk;exact h
  refine b7 (bAU (b7 (wpAny_tryCatch (F _ _ ?_))));refine bAU (wpAny_dictSet_pairs hk O (λh2 y l=>?_) (bAI V (bAI (by lia) (show 1000<=sizeLine by decide))));have e1:=merged_take_succ [] kvs i _ u;rw[<-e1] at y;refine d8 ⟨bCU dD _,?_⟩;have G:∀b o,b∉D::wr->J.get? b=some o->h2.get? b=some o:=λb o c e=>by rw[l.2 b (λz=>c (by rw[z];exact j5))];exact f b o (λz=>c (j7 _ z)) e
  refine ih (i+1) _ _ (by lia) (W.frame _ _ _ M λb hb o e=>?_) y (λj v kv pj e=>(x j v kv pj e).at λZ S o H=>?_) λh' N B X=>q h' N (λb o c e=>B b o c (G b o c e)) X
  ·rw[l.2 b (λz=>hD (by rw[<-z];exact hb))];exact e
  ·rw[l.2 Z (λz=>hP j v pj Z S (by rw[z];exact j5))];exact H
end
section
variable {prog:Program}{w:World}{κ:Type}[DecidableEq κ]{knd:KeyKind prog w κ}{A:Around}{E:bF0}{s:Shared}
def aXx (L:Bool)(ho:h2.get? t=some o)(f:o.cls=.type (sqN L))(c:o.data=.seq its n)(d:A.handled=none)(b:t≠h2.objs.size) :
  ∃io St,Walks prog w A h2.objs.size [h2.objs.size,t] [h2.objs.size] its.size (λi v=>its[i]?=some v) St/\St 0 (h2.push io)/\∀s:Shared,s.heap=h2->∀Q E,Q (.ref h2.objs.size) { s with heap:=h2.push io }->wpAny (model prog w) A (pyIter (.ref t)) Q E s:=by
 cases L
 ·have a:h2.IsTuple t its:=⟨o,ho,f,n,c⟩;exact⟨_,_,Walks.tuple d _ t b its,⟨⟨_,j8 _ rfl,rfl,rfl⟩,a.push _⟩,λs e Q E q=>by subst e;exact bEF a q⟩
 ·have a:h2.IsList t its:=⟨o,ho,f,n,c⟩;exact⟨_,_,Walks.list d _ t b its,⟨⟨_,j8 _ rfl,rfl,rfl⟩,a.push _⟩,λs e Q E q=>by subst e;exact bCP a q⟩
def vW (L:Bool){t n:Nat}{its:Array Value}{kvs:List (κ × Value)}{o:Obj}{Q:bF0}(z:A.handled=none)(ho:s.heap.get? t=some o)(B:o.cls=.type (sqN L))(N:o.data=.seq its n)(J:o.dict=none)(k:kvs.length=its.size)(hb:its.size<=1000)
  (S:∀(j:Nat) (v:Value) (kv:κ × Value),its[j]?=some v->kvs[j]?=some kv->uX knd s.heap v kv)
  (q:∀h' tk,h'.DictOf knd s.heap.objs.size (merged [] kvs)->(∀b o,s.heap.get? b=some o->h'.get? b=some o)->Q (.ref s.heap.objs.size) { s with heap:=h',toks:=tk }) :
  wpAny (model prog w) A (call (.type "dict") [.ref t]) Q E s:=by
 refine callType_codes (Q₁:=λg C=>g=.ref s.heap.objs.size/\C={ s with heap:=s.heap.push { cls:=.type "dict",data:=.dict #[] } }) F.kt_called_dict (F.kt_typeCall_dict_1 _) F.entry_dict_init (kt_code_dict_new _ ⟨rfl,rfl⟩) ?_;rintro g C ⟨rfl,rfl⟩;have a:(s.heap.push { cls:=.type "dict",data:=.dict #[] }).DictOf knd s.heap.objs.size []:=Heap.DictOf.new s.heap;have f:(s.heap.push { cls:=.type "dict",data:=.dict #[] }).get? t=some o:=d7 _ ho;have P:Shared.TypeIs { s with heap:=s.heap.push { cls:=.type "dict",data:=.dict #[] } } (.ref t) (sqN L):=⟨o,f,B⟩;have i:t<s.heap.objs.size:=t8 ho;refine⟨a.typeIs,F.args_dict_init_2 _ _,?_⟩;unfold Builtin.«dict.__init__»;refine b7 ?_;unfold Builtin.Dict.selfAndRest;refine b7 (wpAny_notOrdered_dict a.typeIs ?_);show wpAny _ _ (pure (s.heap.objs.size,[Value.ref t])) _ _ _;refine d8 ?_;show wpAny _ _ (Builtin.Dict.updateFrom "dict.__init__" s.heap.objs.size (.ref t) [] .none) _ _ _;unfold Builtin.Dict.updateFrom;refine b7 (bEO P ?_);rw[if_pos (by cases L <;> decide)];refine b7 (aSz (L:=L) f B N J (by first|exact z|simp[z]) λy I c=>?_);rw[if_pos (show (none:Option Value).isNone=true from rfl)];have l:y.get? t=some o:=c _ _ f;have D:(s.heap.push { cls:=.type "dict",data:=.dict #[] }).objs.size=s.heap.objs.size+1:=bBS ..;have d:s.heap.objs.size<y.objs.size:=by obtain⟨Z,_,_,K,_⟩:=id a;exact t8 (c _ _ K)
 have r:t≠y.objs.size:=z9 (bEP i d);obtain⟨V,St,W,u,U⟩:=aXx (prog:=prog) (w:=w) (A:=A.in1.in1) L l B N (by first|exact z|simp[z]) r;refine b7 (bDU (b7 (U _ rfl _ _ ?_)));refine d8 ⟨bCU dD _,?_⟩;refine aBb (knd:=knd) W s.heap.objs.size ?_ kvs k hb ?_ its.size 0 _ _ (by lia) u ?_ ?_ λh' tk R x=>?_
 ·simp only[bAP,bAG,or_false,not_or];exact⟨z9 d,bDJ i⟩
 ·intro j v e p H;have T:j<kvs.length:=by rw[k];exact (Array.getElem?_eq_some_iff.mp e).1
  obtain⟨Y,O,h,⟨X,m,_⟩,_⟩:=S j v _ e (b8 T);rw[H] at h;cases h;have:=t8 m;simp only[bAP,bAG,or_false,not_or];exact⟨z9 this,z9 (bEP this d)⟩
 ·exact (a.at λo e=>c _ _ e).at λo e=>d7 _ e
 ·intro j v kv e M;exact (S j v kv e M).at λp _ o G=>d7 _ (c _ _ (d7 _ G))
 ·refine⟨rfl,q h' tk x λb o e=>R b o ?_ (d7 _ (c _ _ (d7 _ e)))⟩;have:=t8 e;simp only[bAP,bAG,or_false,not_or];exact⟨z9 this,z9 (bEP this d)⟩
end
open PySem.Calls PyProof.Rows
section
variable {prog:Program}{w:World}{κ:Type}[DecidableEq κ]{knd:PySem.KeyKind prog w κ}{A:Around}{E:bF0}{s:Shared}
def aY5 (nm:κ->Str)(kvs:List (κ × Value)):∀(vs:List Value),vs.length=kvs.length->(∀(j:Nat) (v:Value),vs[j]?=some v->∃kv t,kvs[j]?=some kv/\v=.str (nm kv.1) t)->StrsAre vs (kvs.map λkv=>nm kv.1):=by
 induction kvs with
 |nil=>intro vs a _;cases bAQ a;exact .nil
 |cons kv kvs ih=>
  intro vs a h;cases vs with
  |nil=>cases a
  |cons v vs=>obtain⟨b,t,e,rfl⟩:=h 0 v rfl;cases e;exact .cons _ t (ih vs (by simpa using a) λj v e=>h (j+1) v (by simpa using e))
def zB {d:Addr}{kvs:List (κ × Value)}{Q:bF0}(nm:κ->Str)(O:A.handled=none)(lo:(d == sysModules)=false)(K:s.heap.DictOf knd d kvs)(D:∀k v,knd.is k v=true->(∃x,(k,x)∈kvs)->∃t,v=Value.str (nm k) t)(J:kvs.length<64)
  (q:∀(h1 h':Heap) (tk:Nat) (B:Addr) (vs:List Value) (ss:List Str) (e:Nat),StrsAre vs ss->ss.Perm (kvs.map λkv=>nm kv.1)->h'.get? B=some (seqObj "list" vs.toArray e)->(∀b o,s.heap.get? b=some o->h1.get? b=some o)->(∀b o,h1.get? b=some o->h'.get? b=some o)->h1.objs.size<=B->Q (.ref B) { s with heap:=h',toks:=tk }) :
  wpAny (model prog w) A (call (.builtin "sorted") [.ref d]) Q E s:=by
 obtain⟨L,h⟩:=K.dictAt;refine call_function_entry kind_sorted plain_sorted entry_sorted (args_sorted1 _) ?_;unfold Builtin.«sorted»;refine b7 (d8 ?_);refine b7 (PySem.W.kdu_collect (PySem.W.kdl_dict lo) O h (by rw[sizeLine_eq];lia) λh' tk c C a=>?_);have p:c.toList.length=kvs.length:=by rw[v7];exact a.1
 have l:=aY5 nm kvs _ p λj v e=>by obtain⟨k,x,r,H⟩:=a.2 j v (by rw[<-bBK];exact e);obtain⟨t,rfl⟩:=D k v H ⟨x,v4 r⟩;exact⟨(k,x),t,r,rfl⟩
 refine b7 (bFD ?_ (by rw[sizeLine_eq];lia));have f:(h'.push (seqObj "list" c.toList.toArray 0)).get? h'.objs.size=some (seqObj "list" c.toList.toArray 0):=j8 _ rfl;refine b7 (bAU (bAH slot_list_sort ⟨_,f,rfl⟩ entry_list_sort (list_sort_treeK strKind_oneLt f l.keysOf (λP N n e=>keyKind_strs (by rw[<-e];exact l)) (by rw[p];exact J) λi y z=>⟨_,rfl,?_⟩) (args_list_sort _)));obtain⟨m,G,I,M⟩:=sorted_out_str l y z;obtain⟨e,F⟩:=sortedHeap_at f;refine d8 ⟨_,rfl,q h' _ tk h'.objs.size ((arrOf i).map (·.2)).toList m e G I (by rw[Array.toArray_toList];exact F) C (λb o u=>?_) (d9 _)⟩;have g:=t8 u;rw[sortedHeap_old (z9 g) (by rw[size_push'];exact bBR g)];exact d7 _ u
end
end PySem
namespace L2
open PySem PySem.Spec PyProof.Rows
abbrev aL9 (K:bFZ)(H:Hp):List V->List (Key × V)->Prop:=Paired λu kv=>∃p,u=.ref p/\SqT K H p [kV kv.1,kv.2]
def aU2 (I:Inv X bF3 σ H s)(h:aL9 X.K H us kvs):∀{its:List Value},Vals us its ->
  ∃vs:List (Key × Value),KV kvs vs/\vs.length=its.length/\∀(j:Nat) (v:Value) (kv:Key × Value),its[j]?=some v->vs[j]?=some kv->uX (bJ X.prog X.w) s.heap v kv:=by
 induction h with
 |nil=>intro its b;cases b;exact⟨[],.nil,rfl,λj v kv e _=>by simp at e⟩
 |@cons u kv us kvs r t ih=>
  intro its b;cases b with
  |cons q z=>
   obtain⟨p,rfl,m⟩:=r;cases q;obtain⟨y,k,o,x⟩:=I.tuple m;obtain⟨vs,n,l,f⟩:=ih z;obtain⟨c,val,rfl,g,i⟩:=vals2 k;refine⟨(kv.1,val)::vs,.cons ⟨rfl,i⟩ n,by rw[j9,j9,l],λj v a e d=>?_⟩;cases j with
   |zero=>cases e;cases d;exact⟨p,c,rfl,o,aA4 g⟩
   |succ j=>exact f j v a (by simpa using e) (by simpa using d)
def bAr (K:bFZ):List V->Hp->VK->Prop:=λxs H Q=>∃t us kvs,xs=[.ref t]/\SqT K H t us/\aL9 K H us kvs/\us.length<=1000/\∀p H',H p=none->Same H H'->H' p=some (.dK (pF [] kvs))->Q (.ref p) H'
def aO5 (N:X.calm=true):cF X (.type "dict") (bAr X.K):=by intro m s σ H P G Q I r h;obtain⟨t,G,kvs,rfl,i,E,S,q⟩:=h;obtain⟨u,rfl,z⟩:=vals1 r;cases z;obtain⟨p,b,⟨l,y⟩,O⟩:=I.bFn i;have L:=b.length;obtain⟨x,f,D,A⟩:=aU2 I E b;have M:=KV.length f;obtain⟨o,c,a,n,C⟩:=l;refine vW false (knd:=bJ X.prog X.w) (kvs:=x) (I.ok.hd N) c a C (y o c) (by rw[j6];exact D) (by rw[j6];lia) (λj v k e B=>A j v k (by simpa using e) B) λR g hd F=>?_;have d:H s.heap.objs.size=none:=I.hok.fresh (d9 _);refine⟨.ref s.heap.objs.size,_,I.laid (t':=g) (o:=.dK (pF [] kvs)) F (d9 _) ?_,rfl,q _ _ d (aZ d _) aG⟩;have J:=nO kvs [];simp only[bCQ] at J;exact⟨small (by lia),beq_eq_false_iff_ne.mpr (Ne.symm (z9 I.big)),_,KV.merge f .nil,hd⟩
theorem uU:∀kvs acc,((acc++kvs).map (·.1)).Nodup->pF acc kvs=acc++kvs
 |[],acc,_=>by simp[pF]
 |kv::r,acc,h=>by
  have a:fQ acc kv.1=none:=by
   cases e:fQ acc kv.1 with
   |none=>rfl
   |some v=>exfalso;have:=aYw e;rw[bAN,List.nodup_append] at h;exact h.2.2 _ this _ (by rw[bAF];exact j5 ..) rfl
  show pF (putK acc kv.1 kv.2) r=_;rw[xG _ a,uU r _ (by rw[bCD];exact h),bCD];rfl
def bAp:List V->Hp->VK->Prop:=λxs H Q=>∃(d:Addr) (kvs:List (Key × V)) (ns:List Str),xs=[.ref d]/\H d=some (.dK kvs)/\kvs.map (·.1)=(ns.map λn=>(Sum.inr n:Key))/\kvs.length<64/\∀(p:Addr) (H':Hp) (ss:List Str),H p=none->Same H H'->ss.Perm ns->H' p=some (.lst (ss.map V.str))->Q (.ref p) H'
theorem aFf:∀{vs:List Value} {ss:List Str},StrsAre vs ss->Vals (ss.map V.str) vs
 |_,_,.nil=>.nil
 |_,_,.cons x t h=>.cons ⟨t,rfl⟩ (aFf h)
def aMy (U:X.calm=true):cF X (.builtin "sorted") bAp:=by
 intro K s σ H V us Q I r h;obtain⟨d,c,G,rfl,hd,p,S,q⟩:=h;obtain⟨u,rfl,L⟩:=vals1 r;cases L;obtain⟨z,M,m,f,O⟩:=aFm I.hok hd;have T:=KV.length f;have E:=KV.keys f
 let nm:Key->Str:=λk=>match k with|.inr n=>n|.inl _=>⟨#[]⟩
 have o:(m.map λj=>nm j.1)=G:=by
  have:(m.map λj=>nm j.1)=(m.map (·.1)).map nm:=by rw[bBW];rfl
  rw[this,<-E,p,bBW];exact List.map_id _
 refine zB nm (I.ok.hd U) M O (λk v F w=>?_) (by lia) λh1 Y A B i N e R y P l g a=>?_
 ·obtain⟨x,w⟩:=w;have b:k∈c.map (·.1):=by rw[E];exact List.mem_map.mpr ⟨_,w,rfl⟩
  rw[p] at b;obtain⟨n,_,rfl⟩:=List.mem_map.mp b;cases v with
  |str x t=>
   have e:x=n:=by simpa [bJ,rO,Value.isStrOf] using F
   exact⟨t,by rw[e]⟩
  |_=>exact absurd (show false=true from F) v8
 ·rw[o] at y;have C:=I.kept (t':=A) l;have D:=C.hok.fresh a;refine⟨.ref B,_,C.laid (t':=A) g a ?_,rfl,q B _ N D (aZ D _) y aG⟩;have J:=aFf R;have Z:=y.length_eq;have W:G.length=c.length:=by have:=congrArg List.length p;simpa using this.symm
  exact⟨small (by rw[j4];lia),i,e,J,P⟩
def mO (a:X.A.units+1<cLine)(ho:VE X o td)(hi:VE X i ty)(b:VE X value tv)(c:swapsWith value (some (.Subscript o i pos')) pos.line X.env=pure false:=by rfl):VS X (.Assign [.Subscript o i pos'] value pos) (aZ7 td ty tv):=⟨aZs a ho.1 hi.1 b.1 c⟩
def pI (ho:VE X o to)(hi:VE X i ti)(b:bAt X t)
  (a:∀v,assign (.Subscript o i pos) X.env v=(do
   let ov <-holding [v] (eval o X.env)
   let iv <-holding [v,ov] (eval i X.env)
   standAt pos
   holding [v,ov,iv] (setItem ov iv v)
   release [v,ov,iv] []):=by intro _;rfl):VG X (.Subscript o i pos) (bDn to ti t):=⟨bA2 ho.1 hi.1 b a⟩
def aJq:MtR X "list.reverse" aMc:=aNk
end L2
namespace PySem
section
variable {κ:Type}[DecidableEq κ]
end
end PySem
namespace L2
open PySem PySem.Spec PyProof.Rows
def Itw (K:bFZ)(t u:Addr)(xs ys:List V):It:=
 ⟨λi H=>SqL K H t xs/\SqL K H u ys/\i<xs.length/\i<ys.length,λi H v H'=>∃T a b,H T=none/\v=.ref T/\H'=upd H T (.tup [a,b])/\xs[i]?=some a/\ys[i]?=some b,λi H=>SqL K H t xs/\SqL K H u ys/\i=ys.length/\ys.length<=xs.length⟩
def aN3 (K:bFZ)(ta:TA):TI:=fun σ H R=>ta σ H λvs H1=>∃t u xs ys,vs=[.ref t,.ref u]/\SqL K H1 t xs/\SqL K H1 u ys/\R (Itw K t u xs ys) H1
def aT4 (d:Gl X "zip")(o:X.mg "zip"=none)(n:PA X [a,b] ta)(m:starEach [a,b] X.env=(false,eval a X.env)::starEach [b] X.env:=by rfl)
  (g:starEach [b] X.env=[(false,eval b X.env)]:=by rfl):PI X (.Tuple elts kt tp) (.Call (.Name "zip" p) [a,b] [] pos) (aN3 X.K ta):=
 aPh true (λD=>let T:=aFq D;⟨T.mem,T.obj,T.keep,T.item,λX j f e k i c s σ H E I h l d=>T.done X j f e k i c s σ H E I h l (.inr d),T.self⟩) d o n m g
def aWr (g:Gl X "zip")(f:X.mg "zip"=none)(e:VA X [a,b] t)(d:cW a=true:=by rfl)(c:cW b=true:=by rfl) :
  VI X (.Tuple elts kt tp) (.Call (.Name "zip" p) [a,b] [] pos) (aN3 X.K t):=⟨aT4 g f e.1 (aU d) (aU c)⟩
def aJb {K:bFZ}{t u:Addr}{xs ys:List V}{H:Hp}{C:L2.St}{te:TE}{Q:VK}(w:SqL K H t xs)(A:SqL K H u ys)(s:ys.length<=xs.length)(F:Ps2 C C)(hsz:ys.length<=1000)(n:List V)(hzl:n.length=ys.length)
  (B:∀(i:Nat) (x y z:V),xs[i]?=some x->ys[i]?=some y->n[i]?=some z->∀H' R,Same H H'->(∀H2,Same H' H2->R z H2)->te ((C.set 0 (some x)).set 1 (some y)) H' R)
  (q:∀D H',Same H H'->H' D=some (.lst n)->Q (.ref D) H'):oG (Itw K t u xs ys) H C (aPc K 2 (uF (bR 0) (uF (bR 1) aRq))) mG te Q:=by
 intro D p;refine⟨λi m r H' k=>m=ys.length - i/\i<=ys.length/\Same H H'/\H' D=some (.lst k)/\k=n.take i/\Ps2 C r,⟨ys.length,by simp,bAE _,aZ p _,aG,rfl,F⟩,?_⟩;rintro i m r H' k ⟨rfl,hi,sm,gD,rfl,hps⟩;refine⟨gD,?_⟩;by_cases g:i<ys.length
 ·right;refine⟨⟨sm.seq w,sm.seq A,by lia,g⟩,?_⟩;rintro v H2 ⟨T,a,b,hT,rfl,rfl,ha,hb⟩;have l:Same H' (L2.upd H' T (.tup [a,b])):=aZ hT _;refine hg2 (SqT.of aG) hps fun E d j=>?_;have c:=j;subst c;dsimp only[mG];rw[if_pos rfl];have f:i<n.length:=by lia
  refine B i a b n[i] ha hb (b8 f) _ _ (sm.trans l) λG o=>?_;have h:=o _ _ (l _ _ gD);refine⟨h,bBY (show (n.take i).length<=1000 by rw[bAC];lia) (by decide),ys.length - (i+1),by lia,rfl,by lia,gJ p (sm.trans (l.trans o)),aG,?_,d⟩;rw[bBH,b8 f];rfl
 ·left;have e:i=ys.length:=by lia
  subst e;rw[bAZ (by lia)] at gD;exact⟨⟨sm.seq w,sm.seq A,rfl,s⟩,q D H' sm gD⟩
def aDb {J:It}{H:Hp}{xs:List V}{u:L2.St}{te:TE}{Q:VK}(t:∀H' i x,Same H H'->xs[i]?=some x->J.go i H'/\∀y H2,J.yld i H' y H2->H2=H'/\y=x)(j:∀H',Same H H'->J.stop xs.length H')(B:Ps1 u u)(hsz:xs.length<=1000)
  (h:List V) (hzl:h.length=xs.length) (s:∀(i:Nat) (x z:V),xs[i]?=some x->h[i]?=some z->∀H' R l,Same H H'->(∀H2,Same H' H2->R z H2)->te ((u.set 0 l).set 0 (some x)) H' R)
  (q:∀D H',Same H H'->H D=none->H' D=some (.lst h)->Q (.ref D) H'):oG J H u (bR 0) mG te Q:=by
 intro D d;refine⟨λi m k H' g=>m=xs.length - i/\i<=xs.length/\Same H H'/\H' D=some (.lst g)/\g=h.take i/\Ps1 u k,⟨xs.length,by simp,bAE _,aZ d _,aG,rfl,B⟩,?_⟩;rintro i m k H' g ⟨rfl,hi,sm,gD,rfl,hps⟩;refine⟨gD,?_⟩;by_cases a:i<xs.length
 ·right;obtain⟨r,o⟩:=t H' i xs[i] sm (b8 a);refine⟨r,λv H2 p=>?_⟩;obtain⟨rfl,rfl⟩:=o v H2 p;refine hg1 (i:=i) hps fun w b f=>?_;obtain⟨l,rfl⟩:=f;dsimp only[mG];rw[if_pos rfl];have c:i<h.length:=by lia
  refine s i _ h[i] (b8 a) (b8 c) _ _ l sm λA n=>?_;refine⟨n _ _ gD,bBY (show (h.take i).length<=1000 by rw[bAC];lia) (by decide),xs.length - (i+1),by lia,rfl,by lia,gJ d (sm.trans n),aG,?_,b⟩;rw[bBH,b8 c];rfl
 ·left;have e:i=xs.length:=by lia
  subst e;rw[bAZ (by lia)] at gD;exact⟨j H' sm,q D H' sm d gD⟩
def aV6 {X:Cx}{K:bFZ}{scope:Scope}{N:List Str}{tl:TA}{te:TE}{tt:TT}{g:TG}{σ:L2.St}{H:Hp}{Q:VK}(b:L2.St)(a:Cap X scope N σ b)(h:tl σ H λvs H1=>∃t u xs ys,vs=[.ref t,.ref u]/\SqL K H1 t xs/\SqL K H1 u ys/\oG (Itw K t u xs ys) H1 b g tt te Q):jB X scope N (aN3 K tl) g tt te σ H Q:=⟨b,a,h⟩
def uC (ts:List (Addr × Str))(H:Hp):Prop:=∀p∈ts,H p.1=some (.tab p.2)
def oH:List (Addr × Str)->Addr->Option Str
 |[],_=>none
 |p::r,b=>if b=p.1 then some p.2 else oH r b
theorem aFv:∀{ts:List (Addr × Str)},(∀p∈ts,b≠p.1)->oH ts b=none
 |[],_=>rfl
 |p::r,h=>by unfold oH;rw[if_neg (h p j5)];exact aFv λq a=>h q (j7 _ a)
theorem qZ:∀{ts:List (Addr × Str)},oH ts b=some q->∃p∈ts,p.1=b/\p.2=q
 |p::r,h=>by
  unfold oH at h;by_cases e:b=p.1
  ·rw[if_pos e] at h;exact⟨p,j5,e.symm,bAM h⟩
  ·rw[if_neg e] at h;obtain⟨c,a,d⟩:=qZ h;exact⟨c,j7 _ a,d⟩
theorem aPo:∀{ts:List (Addr × Str)},(ts.map (·.1)).Nodup->∀{p:Addr × Str},p∈ts->oH ts p.1=some p.2
 |p::r,nd,q,hq=>by
  rw[bAF,bFH] at nd;unfold oH;rcases List.mem_cons.mp hq with rfl|hq
  ·rw[if_pos rfl]
  ·rw[if_neg λz=>nd.1 (by rw[<-z];exact List.mem_map.mpr ⟨q,hq,rfl⟩)];exact aPo nd.2 hq
def aQ3 {P:Program}{w:World}{K:bFZ}{mg mb:bF2}{CX:CXT}{k:Nat}{fa a:Addr}{fd:FuncData}{x:Str}{sp:Sp}{i:Shared}{vs:List Value}{ns:List Int}
  (KX:K.In i.heap) (U:i.heap.Ns mainGlobals mg) (f:i.heap.Ns builtinsNs mb) (a3:∀x:Str,x≠"__name__"->mb x=bootBuiltins x) (a1:i.heap.NoLimit) (hg:i.gens=#[])
  (R:i.heap.get? a=some { cls:=.type "list",data:=.seq vs.toArray }) (hi:IntsAre vs ns) (hl:ns.length<=sizeLine) (hr:Room k callerA)
  (ts:List (Addr × Str)) (l:∀p∈ts,i.heap.get? p.1=some { cls:=.none,data:=.fields #[] }/\isCodeTable i.heap p.1/\K.lookup p.1=none) (a7:(ts.map (·.1)).Nodup) (a4:BM mg i.heap)
  (F:∀base:Heap,K.In base->base.Ns mainGlobals mg->BM mg base->kZ P w K mg base CX k fa fd [x] sp) (a0:∀(s:Shared) (u:Value),BindsTo s fd ⟨[u],[]⟩ [(x,u)])
  (a6:∀H:Hp,uC ts H->SqL K H a (ns.map V.int)->sp [.ref a] H (λv H'=>v=.bl true/\uC ts H') λ_ _ _=>False)
  (a5:∀H e s',CX [] H i (λ_ _ _=>False) e s'->False) :
  codeAny (model P w) callerA (.call (.ref fa) ⟨[.ref a],[]⟩) (λr s'=>r=.ok (.ret (.bool true))/\OldK i.heap s'.heap/\s'.os=i.os/\AllBare s'.gens) i:=by
 have rv:=aFd hi;have M:=hi.length;have B:∀H:Hp,uC ts H->(∀b,(∀p∈ts,b≠p.1)->H b=none\/∃o xs,H b=some (.frz o (.lst xs)))->SqL K H a (ns.map V.int)->HOk P w H i.heap->(∀b,H b≠none->b=a\/∃p∈ts,b=p.1)->(H a≠none->K.lookup a=none) ->
   codeAny (model P w) callerA (.call (.ref fa) ⟨[.ref a],[]⟩) (λr s'=>r=.ok (.ret (.bool true))/\OldK i.heap s'.heap/\s'.os=i.os/\AllBare s'.gens) i:=by
  intro H hT hO hS G hA hK;have g:∀{b:Addr} {o:Obj},i.heap.get? b=some o->H b=none->(aD7 i.heap H).get? b=some o:=λe n=>aWi e n;have Y:∀{b:Addr} {o:Obj} {D:Array DictEntry} {E:Nat},i.heap.get? b=some o->o.data=.dict D E->H b=none:=λ{b o D E} e d=>by
   cases q:H b with
   |none=>rfl
   |some u=>
    rcases hA b (by rw[q];simp) with e'|⟨p,c,e'⟩
    ·subst e';rw[R] at e;cases e;have T:Data.seq vs.toArray _=Data.dict D E:=d;cases T
    ·subst e';rw[(l p c).1] at e;cases e;have T:Data.fields _=Data.dict D E:=d;cases T
  have y:∀{b:Addr} {m:bF2},i.heap.Ns b m->(aD7 i.heap H).Ns b m:=λ{b m} ⟨o,D,E,e,d,r⟩=>⟨o,D,E,g e (Y e d),d,r⟩;have J:K.In (aD7 i.heap H):=λb o e=>g (KX b o e) (by
   cases q:H b with
   |none=>rfl
   |some u=>
    rcases hA b (by rw[q];simp) with e'|⟨p,c,e'⟩
    ·subst e';rw[hK (by rw[q];simp)] at e;cases e
    ·subst e';rw[(l p c).2.2] at e;cases e)
  have O:BM mg (aD7 i.heap H):=by
   obtain⟨bm,W,b1,b2,S,b4,b5,X⟩:=a4;refine⟨bm,W,b1,b2,g S ?_,b4,b5,X⟩;cases q:H bm with
   |none=>rfl
   |some u=>
    rcases hA bm (by rw[q];simp) with e'|⟨p,c,e'⟩
    ·rw[e',R] at S;cases S;cases (show Data.seq vs.toArray _=Data.plain from X)
    ·rw[e',(l p c).1] at S;cases S;cases (show Data.fields _=Data.plain from X)
  have hM:Mod K mg (aD7 i.heap H):=⟨J,y U,⟨mb,y f,a3⟩,let ⟨mc,h1,h2⟩:=a1;⟨mc,y h1,h2⟩⟩;have e0:aIb P w K mg (aD7 i.heap H) callerA [] i H:=⟨rfl,hM,λb o e=>aX6 e,Nat.le_of_eq (aSt _ _),trivial,λb f=>absurd (show b∈([]:List Addr) from f) (by simp),G,.of_eq hg⟩;refine bCZ ((F _ J (y U) O).run callerA [] i H ⟨[.ref a],[]⟩ [.ref a] [.ref a] _ _ hr e0 (a0 i (.ref a)) (.cons rfl .nil) (a6 H hT hS)) λr s' h=>?_;cases r with
  |error e=>exact (a5 H e s' h).elim
  |ok fl=>
   cases fl with
   |next=>exact False.elim h
   |brk=>exact False.elim h
   |cont=>exact False.elim h
   |ret u=>
    obtain⟨v,H',os,Q,un,t,r',q⟩:=h;obtain⟨q',qT⟩:=(show v=.bl true/\uC ts H' from q);subst q';obtain rfl:u=Value.bool true:=r';have kp:∀b o,i.heap.get? b=some o->(∀p∈ts,b≠p.1)->s'.heap.get? b=some o:=λb o e f=>by
     cases q:H b with
     |none=>exact un.keep b o e q (by intro z;exact absurd (show b∈([]:List Addr) from z) (by simp)) (by simp)
     |some u=>
      rcases hO b f with z|⟨W,xs,z⟩
      ·rw[q] at z;cases z
      ·have z2:=un.frzs b W _ z;obtain⟨j,_⟩:=G b _ z;obtain⟨L,_⟩:=t b _ z2;rw[e] at j;cases j;exact L
    refine⟨rfl,⟨λb o e=>?_,λb o e=>?_⟩,os,Q⟩
    ·by_cases f:∃p∈ts,b=p.1
     ·obtain⟨p,c,rfl⟩:=f;obtain⟨ps,j,_⟩:=t p.1 _ (qT p c);rw[(l p c).1] at e;cases e;exact .inr (.inl ⟨(l p c).2.1,rfl,#[],ps,rfl,by rw[j];simp⟩)
     ·exact .inl (kp b o e λp c z=>f ⟨p,c,z⟩)
    ·by_cases f:∃p∈ts,b=p.1
     ·obtain⟨p,c,rfl⟩:=f;obtain⟨ps,j,_⟩:=t p.1 _ (qT p c);exact⟨_,j⟩
     ·exact⟨o,kp b o e λp c z=>f ⟨p,c,z⟩⟩
 have aT:∀p∈ts,p.1≠a:=λp c z=>by have:=(l p c).1;rw[z,R] at this;cases this
 have I:∀p∈ts,oH ts p.1=some p.2:=λp c=>aPo a7 c;have C:∀b,(∀p∈ts,b≠p.1)->oH ts b=none:=λb f=>aFv f;have N:∀(H:Hp) (p:Addr × Str),p∈ts->dN P w H i.heap p.1 (.tab p.2):=λH p c=>⟨#[],(l p c).1,trivial,λa2 cv z=>by cases z⟩;cases hk:K.lookup a with
 |some o=>
  have e:=KX a o hk;rw[R] at e;cases e;refine B (λb=>(oH ts b).map .tab) (λp c=>by show (oH ts p.1).map _=_;rw[I p c];rfl) (λb f=>.inl (by show (oH ts b).map _=_;rw[C b f];rfl)) (.inr ⟨_,vs.toArray,_,hk,rfl,rfl,rfl,by rw[j6,M];exact hl,by simpa using rv⟩) (λb u z=>?_) (λb z=>?_) λz=>?_
  ·obtain⟨qn,A,rfl⟩:=Option.map_eq_some_iff.mp (show (oH ts b).map .tab=some u from z);obtain⟨p,c,j,L⟩:=qZ A;subst j L;exact N _ p c
  ·refine .inr ?_;cases A:oH ts b with
   |none=>exact absurd (show (oH ts b).map HO.tab=none by rw[A];rfl) z
   |some qn=>obtain⟨p,c,j,_⟩:=qZ A;exact⟨p,c,j.symm⟩
  ·exact absurd (show (oH ts a).map HO.tab=none by rw[C a λp c z=>aT p c z.symm];rfl) z
 |none=>
  refine B (λb=>if b=a then some (.frz { cls:=.type "list",data:=.seq vs.toArray } (.lst (ns.map V.int))) else (oH ts b).map .tab) (λp c=>by show (if p.1=a then _ else (oH ts p.1).map HO.tab)=_;rw[if_neg (aT p c),I p c];rfl) (λb f=>?_) (.inl (.inr ⟨{ cls:=.type "list",data:=.seq vs.toArray },if_pos rfl⟩)) (λb u z=>?_) (λb z=>?_) λ_=>hk
  ·by_cases h:b=a
   ·exact .inr ⟨_,_,if_pos h⟩
   ·exact .inl (by rw[if_neg h,C b f];rfl)
  ·by_cases f:b=a
   ·have Z:=(if_pos f).symm.trans z;cases Z;subst f;exact⟨R,by rw[j4];exact hl,vs,_,rv,R⟩
   ·have Z:=(if_neg f).symm.trans z;obtain⟨qn,A,rfl⟩:=Option.map_eq_some_iff.mp Z;obtain⟨p,c,j,L⟩:=qZ A;subst j L;exact N _ p c
  ·by_cases f:b=a
   ·exact .inl f
   ·refine .inr ?_;cases A:oH ts b with
    |none=>exact absurd (show (if b=a then _ else (oH ts b).map HO.tab)=none by rw[if_neg f,A];rfl) z
    |some qn=>obtain⟨p,c,j,_⟩:=qZ A;exact⟨p,c,j.symm⟩
def aUp {l:PySem.W.OpenLaw}{n k:Nat}{q:Program}{loose:List Str}{XP:(bF2)->Heap->Prop}{YP:World->Heap->Prop}{d:DefRec}{K:Params->bFZ}{CX:World->CXT}{sp:World->Sp}{x:Str}
  (U:l.most=some n) (M:n<=sizeLine) (I:d.params.defaults=[]) (hr:Room k callerA)
  (ts:List (Addr × Str)) (N:(ts.map (·.1)).Nodup)
  (hY:∀(w:World) (h:Heap),YP w h->(K w.params).In h/\∀p∈ts,h.get? p.1=some { cls:=.none,data:=.fields #[] })
  (C:∀(w:World),∀p∈ts,(∃c,PySem.W.codeHdIn (K w.params) c p.1=true)/\(K w.params).lookup p.1=none)
  (F:∀(w:World) (mg:bF2) (fa:Addr) (h:Heap),(K w.params).In h->h.Ns mainGlobals mg->mg d.name=some (.ref fa) ->
   ∃fd:FuncData,(∀(s:Shared) (u:Value),BindsTo s fd ⟨[u],[]⟩ [(x,u)]) /\
    ∀base:Heap,(K w.params).In base->base.Ns mainGlobals mg->BM mg base->kZ l.prog w (K w.params) mg base (CX w) k fa fd [x] (sp w))
  (E:∀(w:World) (H:Hp) (a:Addr) (ns:List Int),ns.length<=n->uC ts H->SqL (K w.params) H a (ns.map V.int)->sp w [.ref a] H (λv H'=>v=.bl true/\uC ts H') λ_ _ _=>False)
  (B:∀(w:World) (H:Hp) (s:Shared) (e:Value) (s':Shared),CX w [] H s (λ_ _ _=>False) e s'->False) :
  PySem.W.WalkO q loose XP YP l.row.toRowW d [] (λf vs=>PySem.call f vs):=by
 refine Att.aMf U I λw s₀ L mg Z fa o pm cd P a vs ns G Y X hd A z r m j O=>?_;obtain⟨y,i⟩:=hY w _ Y;obtain⟨fd,R,Q⟩:=F w mg fa _ y G.T.g z;refine aQ3 y G.T.g G.T.b G.T.builtins G.T.nolimit O r m (bAI j M) hr ts (λp t=>⟨i p t,?_,(C w p t).2⟩) N G.T.bmain Q R (λH J S=>E w H a ns j J S) λH e s'=>B w H L e s';obtain⟨c,D⟩:=(C w p t).1;exact Heap.TableAt.isCodeTable ((PySem.W.codeHd_of_K y D).tab (i p t))
def cP (K:bFZ)(H:Hp)(u:V)(r:List V):Prop:=∃a,u=.ref a/\SqT K H a r
def cP.same {K:bFZ}{H H':Hp}{u:V}{r:List V}(e:Same H H')(h:cP K H u r):cP K H' u r:=by obtain⟨a,rfl,b⟩:=h;exact⟨a,rfl,e.aP b⟩
def KdV:Bool->V->Prop
 |true,x=>∃i,x=.int i
 |false,x=>∃z,x=.str z
def KdR (ks:List Bool)(r:List V):Prop:=Al2 KdV ks r
def rlt:List V->List V->Bool
 |.int a::xs,.int b::ys=>if (a == b)=true then rlt xs ys else decide (a<b)
 |.str a::xs,.str b::ys=>if (a == b)=true then rlt xs ys else decide (a.cps.toList<b.cps.toList)
 |_,_=>false
def srt (rs:List (List V)):List (List V):=(PySem.W.eG rs.length λi j=>rlt (rs.getD i []) (rs.getD j [])).map λi=>rs.getD i []
def tH (rs:List (List V)):(srt rs).length=rs.length:=by unfold srt;rw[j4,PySem.W.tL]
def gC (h:r∈srt rs):r∈rs:=by
 obtain⟨i,a,rfl⟩:=List.mem_map.mp h;have:=PySem.W.oN a;have e:rs.getD i []=rs[i]:=by simp[this]
 rw[e];exact bAO this
def Al2.get {α β:Type}{R:α->β->Prop}{as:List α}{bs:List β}(h:Al2 R as bs){i:Nat}{a:α}{b:β}(c:as[i]?=some a)(f:bs[i]?=some b):R a b:=by obtain⟨d,e,r⟩:=h.at c;rw[f] at e;cases e;exact r
theorem Al2.of {α β:Type}{R:α->β->Prop}:∀{as:List α} {bs:List β},as.length=bs.length->(∀(i:Nat) (a:α) (b:β),as[i]?=some a->bs[i]?=some b->R a b)->Al2 R as bs
 |[],[],_,_=>.nil
 |a::as,b::bs,hl,h=>.cons (h 0 a b rfl rfl) (Al2.of (by simpa using hl) λi x y c d=>h (i+1) x y (by simpa using c) (by simpa using d))
def Al2.imp {α β:Type}{R S:α->β->Prop}{as:List α}{bs:List β}(h:Al2 R as bs)(k:∀a b,R a b->S a b):Al2 S as bs:=by
 induction h with
 |nil=>exact .nil
 |cons r _ ih=>exact .cons (k _ _ r) ih
def aXo (ks:List Bool):∀{r1 r2:List V} {i1 i2:List Value},KdR ks r1->KdR ks r2->Vals r1 i1->Vals r2 i2->∀i:Nat,Q (rlt r1 r2) s->PySem.W.KatLex prog w A b false Q (i1.zip i2) i s:=by
 induction ks with
 |nil=>intro r1 r2 i1 i2 d c a f i q;cases d;cases c;cases a;cases f;exact q
 |cons k ks ih=>
  intro r1 r2 i1 i2 d c a f i q;cases d with
  |cons a1 t1=>
   cases c with
   |cons a2 t2=>
    cases a with
    |cons p1 w1=>
     cases f with
     |cons p2 w2=>
      cases k with
      |true=>
       obtain⟨x,rfl⟩:=a1;obtain⟨y,rfl⟩:=a2;obtain⟨t,rfl⟩:=p1;obtain⟨u,rfl⟩:=p2;refine (bEH x t y u) prog w _ _ ?_;unfold rlt at q;by_cases e:(x == y)=true
       ·rw[e,if_pos rfl];rw[if_pos e] at q;exact ih t1 t2 w1 w2 (i+1) q
       ·rw[if_neg e] at q;rw[Bool.not_eq_true] at e;rw[e,if_neg (by decide)];cases g:(b && i == 0) with
        |true=>exact oneLt_int q
        |false=>exact PySem.W.kat_one _ _ (lt_int q)
      |false=>
       obtain⟨x,rfl⟩:=a1;obtain⟨y,rfl⟩:=a2;obtain⟨t,rfl⟩:=p1;obtain⟨u,rfl⟩:=p2;refine (bDL x t y u) prog w _ _ ?_;unfold rlt at q;by_cases e:(x == y)=true
       ·rw[e,if_pos rfl];rw[if_pos e] at q;exact ih t1 t2 w1 w2 (i+1) q
       ·rw[if_neg e] at q;rw[Bool.not_eq_true] at e;rw[e,if_neg (by decide)];cases g:(b && i == 0) with
        |true=>exact oneLt_str q
        |false=>exact PySem.W.kat_one _ _ (lt_str q)
def aNb (K:bFZ):List V->Hp->VK->Prop:=λxs H Q=>∃l us rs ks,xs=[.ref l]/\SqL K H l us/\Al2 (cP K H) us rs/\us.length<64/\ks≠[]/\(∀r∈rs,KdR ks r) /\
 ∀D H' us',H D=none->Same H H'->H' D=some (.lst us')->Al2 (cP K H) us' (srt rs)->Q (.ref D) H'
theorem aPx (I:Inv X bF3 σ H s)(w:∀b o,s.heap.get? b=some o->h'.get? b=some o):∀{us:List V} {rs:List (List V)} {its:List Value},Al2 (cP X.K H) us rs->Vals us its->(∀r∈rs,KdR (k::ks) r) ->
  ∃fs,PySem.W.KatTups h' its fs/\fs.length=its.length/\∀f∈fs,∀M:Model,PySem.W.Looks M h' (typeOf f) (.type (if k=true then "int" else "str"))
 |_,_,_,.nil,.nil,_=>⟨[],.nil,rfl,λf h=>by cases h⟩
 |_,_,_,.cons (b:=r) hr t,.cons q z,hk=>by
  obtain⟨fs,y,v,e⟩:=aPx I w t z λr m=>hk r (j7 _ m);obtain⟨a,rfl,j⟩:=hr;cases q;obtain⟨x,l,⟨o,p,u,n,hd⟩,_⟩:=I.tuple j;have c:=hk r (j5 ..);cases c with
  |cons hx _=>
   cases l with
   |@cons _ f _ fr rx _=>
    refine⟨f::fs,.cons (w _ _ p) u hd (by simp) y,by rw[j9,j9,v],λg hg M=>?_⟩;rcases List.mem_cons.mp hg with rfl|hg
    ·cases k with
     |true=>obtain⟨i,rfl⟩:=hx;obtain⟨d,rfl⟩:=rx;exact .now
     |false=>obtain⟨i,rfl⟩:=hx;obtain⟨d,rfl⟩:=rx;exact .now
    ·exact e g hg M
def aLa (I:Inv X bF3 σ H s)(y:Vals us its)(E:Al2 (cP X.K H) us rs)(S:ks≠[])(V:∀r∈rs,KdR ks r)(A:Around)(h2:2<=its.length)(h':Heap)(kp:∀b o,s.heap.get? b=some o->h'.get? b=some o) :
  ∃κ,(∀Q,Q κ { s with heap:=h' }->wpAny (model X.prog X.w) A (keyKind' its.toArray) Q (λ_ _=>False) { s with heap:=h' })/\∀i j C,i<its.length->j<its.length->C (rlt (rs.getD i []) (rs.getD j [])) { s with heap:=h' }->PySem.W.kas_ask X.prog X.w A κ its i j C { s with heap:=h' }:=by
 have e1:=y.length;have e2:=E.len;obtain⟨k,c,rfl⟩:∃k c,ks=k::c:=by
  cases ks with
  |nil=>exact absurd rfl S
  |cons k c=>exact⟨k,c,rfl⟩
 obtain⟨fs,L,t2,N⟩:=aPx I kp E y V;refine⟨_,λQ U=>PySem.W.kat_kind (s:={ s with heap:=h' }) (T:=.type (if k=true then "int" else "str")) L (by lia) (λv m=>N v m _) (by simp) U,λi j C G hj B=>?_⟩;have g:∀{i:Nat},i<its.length->∃a o r l n,its.getD i Value.none=.ref a/\h'.get? a=some o/\o.data=.seq (List.toArray l) n/\Vals r l/\rs.getD i []=r/\KdR (k::c) r:=λ{i} G=>by
  have h:i<us.length:=by lia
  have d:i<rs.length:=by lia
  obtain⟨a,P,Y⟩:=E.get (b8 h) (b8 d);obtain⟨v,m,F⟩:=y.get (b8 h);rw[P] at F;cases F;obtain⟨l,rr,⟨o,M,hc,n,hd⟩,_⟩:=I.tuple Y;refine⟨a,o,rs[i],l,n,?_,kp _ _ M,hd,rr,by simp[d],V _ (bAO d)⟩;rw[j0,m];rfl
 obtain⟨a,o,r1,x1,n1,R,Z,g3,z,O,D⟩:=g G;obtain⟨b,o',r2,J,n2,x,u,q,e,t,f⟩:=g hj;show wpAny _ _ (keyLt' _ (its.getD i Value.none) (its.getD j Value.none)) C _ _;rw[R,x];refine PySem.W.kat_lt Z g3 u q ?_;have p:decide ((List.toArray x1).size<(List.toArray J).size)=false:=by rw[j6,j6];have:=z.length;have:=e.length;have:=Al2.len D;have:=Al2.len f;exact v6 (by lia)
 rw[p];refine aXo (k::c) D f z e 0 ?_;rw[O,t] at B;exact B
def aE6 (f:Vals us its):∀L:List Nat,(∀i∈L,i<us.length)->Vals (L.map λi=>us.getD i .non) (L.map λi=>its.getD i Value.none):=by
 intro L
 induction L with
 |nil=>intro _;exact .nil
 |cons i L ih=>intro a;have b:=a i (j5 ..);obtain⟨v,e,d⟩:=f.get (b8 b);refine .cons ?_ (ih λj c=>a j (j7 _ c));show RelV (us.getD i .non) (its.getD i Value.none);rw[j0,b8 b,j0,e];exact d
def aGl {K:bFZ}{H:Hp}{us:List V}{f:List (List V)}(e:Al2 (cP K H) us f):∀L:List Nat,(∀i∈L,i<us.length)->Al2 (cP K H) (L.map λi=>us.getD i .non) (L.map λi=>f.getD i []):=by
 intro L
 induction L with
 |nil=>intro _;exact .nil
 |cons i L ih=>
  intro b;have c:=b i (j5 ..);have a:i<f.length:=by have:=e.len;lia
  refine .cons ?_ (ih λj d=>b j (j7 _ d));show cP K H (us.getD i .non) (f.getD i []);rw[j0,b8 c,j0,b8 a];exact e.get (b8 c) (b8 a)
def eY:cF X (.builtin "sorted") (aNb X.K):=by
 intro p s σ H D n Q I r h;obtain⟨l,G,g,E,rfl,w,f,z,d,v,q⟩:=h;obtain⟨u,rfl,t⟩:=vals1 r;cases t;obtain⟨a,c,A,C⟩:=I.list w;have B:=c.length;have F:=f.len;refine PySem.W.aHb A.isList (by lia) (aLa I c f d v _) ?_;obtain⟨e,x⟩:=sortedAll_at s.heap a (List.toArray ((PySem.W.eG a.length λi j=>rlt (g.getD i []) (g.getD j [])).map λi=>a.getD i Value.none));have m:=I.hok.fresh (bDH _);have y:a.length=g.length:=by lia
 refine⟨.ref (s.heap.objs.size+1),_,I.laid (t':=s.toks) (λb o q=>sortedAll_old q) (bDH _) ?_,rfl,q _ _ _ m (aZ m _) aG (aGl f _ λi k=>by have:=PySem.W.oN k;lia)⟩;refine⟨small (by rw[j4,PySem.W.tL];lia),_,e,?_,x⟩;rw[y];exact aE6 c _ λi k=>by have:=PySem.W.oN k;lia
def kvlt:V->V->Bool
 |.int a,.int b=>decide (a<b)
 |.str a,.str b=>decide (a.cps.toList<b.cps.toList)
 |_,_=>false
section
variable {P:Program}{w:World}{K:bFZ}{mg:bF2}{base:Heap}
def aTq (K:bFZ)(mg:bF2)(x:Str)(Pt:Addr):Prop:=∃f o fd c,mg x=some (.ref f)/\K.lookup f=some o/\o.data=.func fd/\fd.code=.ref c/\PySem.W.codeHdIn K c Pt=true
def Ok.bFl {x:Str}{st:Stmt}{N ps:List Str}{k:Nat}{sp:Sp}{Pt:Addr}(D:Dn K mg x st ps)(C:aTq K mg x Pt)(O:K.In base)(S:aJ N ps (aF st))(y:∀vs H Q E,sp vs H Q E->vs.length=ps.length)
  (g:∀(f c:Addr) (A:Around) (outer:List Env) (s:Shared) (H:Hp) (vs:List V) (Q:VK) (E:XK),PySem.W.CodeHd base c Pt->Room k (A.deeper (envOfC x (aF st) s.heap.objs.size f (.ref c)))->sp vs H Q E ->
   ∃t,VSs (aB3 CX0 P w K mg base N x (aF st) f (.ref c) A outer s H E).nox (fJ st) t/\t { nx:=λ_ H'=>Q .non H',rt:=Q } (start N vs) H):Ok P w K mg base (k+1) x ps sp:=by
 obtain⟨f,o,F,B,m⟩:=D;obtain⟨M,I,p,c,n,a,j,i,G⟩:=C;rw[m] at n;cases n;refine⟨f,o,m,F.kp,B,?_⟩;obtain⟨R,J,kV,u,L,U,z,T,v,rfl,l,b⟩:=F.ex;rw[l] at a;cases a;cases j;have e:=i;subst e;refine aZ1 l b S y λA outer s H vs Q E r d=>?_;obtain⟨t,h,q⟩:=g f c A outer s H vs Q E (PySem.W.codeHd_of_K O G) r d;exact⟨t,h.1.nox,q⟩
end
end L2
namespace My
open PySem PySem.Spec PyProof.Rows L2
section
variable {P:Program}{w:World}{K:bFZ}{mg:bF2}{base:Heap}
def vlt:V->V->Bool
 |.int a,.int b=>decide (a<b)
 |.str a,.str b=>decide (a.cps.toList<b.cps.toList)
 |_,_=>false
def aRj (k:Str):Prop:=k = "number"\/k = "word"
def qC:Str:="are_cuts.<locals>.<lambda>"
inductive aPn (P:Program)(w:World)(K:bFZ)(mg:bF2)(base:Heap)(k:Nat)(vs:List V)(H:Hp)(Q:VK)(E_:XK):Prop
 |mk (a:Addr) (lo hi:Nat) (f:Addr) (xs:List V) (qual g x y:Str) (z:V) (ps:List Str) (sp:Sp) (_:vs=[.ref a,.int (lo:Nat),.int (hi:Nat),.ref f]) (_:SqT K H a xs) (_:lo<=xs.length) (_:xs.length<=hi) (_:hi<=1000) (_:wQ H f qual g x y z) (_:Ok P w K mg base k g ps sp) (_:(∀v∈xs,∀(H':Hp) (R:VK),Same H H'->(∀H2,Same H' H2->R (.bl true) H2)->sp [v,z] H' R E0)) (_:∀H',Same H H'->Q (.bl true) H')
def aBd (T:Txt w K mg):Ok P w K mg base (k+2) "is_tuple_of" o8 (aPn P w K mg base k):=by
 refine Ok.ofV T.tZ rY (by trivial) (λf O A n s H W Q E G h=>?_)
 obtain⟨a,L,J,g,b,c,t,x,y,z,F,u,rfl,j,h1,Y,m,o,S,i,q⟩:=h;refine⟨_,(aC (bO (VW.pt (fG (cL (cC (aK jG (by rfl) T.bZ bQ (aH (vv 0) (va1 (fK (v:=.ty "tuple") (by rfl) T.iH fU rfl)))))) (eE (cL (aCm aDe aDe (vv 1) (aK aX (by rfl) T.dW cQ (va1 (vv 0))) (vv 2)))))) (aD (aM jL)) aW) (aD (aM (aK (jQ rfl) (by rfl) T.aAw rJ (va1 (cJ (N:=["part","is_part"]) ck (eU (aF jJ)) rfl (nU (vv 0)) (λZ U e X=>⟨(fZ 0),fH,(aS4 (P:=P) (w:=w) (K:=K) (mg:=mg) (base:=base) G (vv 1) (va1 (vv 0)))⟩))))))),?_⟩;refine⟨_,rfl,_,_,rfl,.tup j,_,rfl,cB ?_⟩;refine⟨_,rfl,_,rfl,_,_,rfl,.inr j,_,_,rfl,rfl,_,rfl,?_⟩;have p:decide ((L:Int)<=(b.length:Int))=true:=m9 (by lia);have I:decide ((b.length:Int)<=(J:Int))=true:=m9 (by lia);rw[p];refine fB ⟨_,rfl,_,_,rfl,rfl,_,rfl,?_⟩;rw[I];refine cB ?_;dsimp only[mJ,pZ,tCB,dZ];refine aGc b (λ_=>.bl true) [none,some (.ref g)] ?_ (small (by lia)) (λR r=>aOt j (λV M=>⟨_,rfl,M⟩) R r) (λv B e R l d r=>?_) rfl λD e d C=>?_
 ·exact lB 3 (by trivial) rfl rfl (by trivial)
 ·exact⟨_,rfl,g,c,t,x,y,z,F,u,rfl,o.same d,S,_,rfl,v,rfl,o.same d,i v B e R d r⟩
 ·refine⟨D,b.map λ_=>true,rfl,SqL.of (by rw[C,bBW];rfl),?_⟩;rw[show (b.map λ_=>true).all id=true by rw[List.all_map];exact List.all_eq_true.mpr λ_ _=>rfl];exact q e d
inductive aWg (K:bFZ)(vs:List V)(H:Hp)(Q:VK)(E_:XK):Prop
 |mk (p:Addr) (v:V) (h m:Int) (_:vs=[.ref p,.int m]) (_:SqT K H p [v,.int h]) (_:0<=h) (_:h<m) (_:∀H',Same H H'->Q (.bl true) H')
def aR2 (T:Txt w K mg)(i:Ok P w K mg base 2 "is_number_below" bQR wA):Ok P w K mg base 3 "is_cut" bQD (aWg K):=by
 refine Ok.ofV T.aTi aRr (by trivial) (λf c A b s H j Q E g h=>?_)
 obtain⟨p,v,h,m,rfl,a,e,d,q⟩:=h;refine⟨_,(aD (aM (iI (aK jG (by rfl) T.bZ bQ (aH (vv 0) (va1 (fK (v:=.ty "tuple") (by rfl) T.iH fU rfl)))) (iI (yN dX (aK aX (by rfl) T.dW cQ (va1 (vv 0))) aB) (iU (aV i (aH (aR aO (vv 0) aB) (va1 (vv 1))))))))),?_⟩;refine⟨_,rfl,_,_,rfl,.tup a,_,rfl,fB ⟨_,rfl,_,_,rfl,.inr a,rfl,_,rfl,?_⟩⟩;refine fB ⟨_,rfl,p,_,1,_,rfl,rfl,a,at1 _ _ _,_,rfl,h,m,rfl,?_⟩;rw[m9 e,m9 d];exact q H (Same.refl H)
def aV0 (h:env.cells.lookup y=some cp):closureFor { kind:=.function,names:=[(x,.local),(y,.free),(g,.globalImplicit)],isGenerator:=false,isCoroutine:=false,more:=[] } env=pure [(y,cp)]:=by
 have a:cellOf env y=pure cp:=by unfold cellOf;rw[h]
 simp[closureFor,a]
def eQ (K:bFZ)(H:Hp)(v:V)(c:V × Int):Prop:=∃p,v=.ref p/\SqT K H p [c.1,.int c.2]
def eQ.same (e:Same H H')(h:eQ K H v c):eQ K H' v c:=by obtain⟨p,rfl,a⟩:=h;exact⟨p,rfl,e.aP a⟩
structure oY (kd:Str)(m:Int)(h0:Int)(cs:List (V × Int)):Prop where
 first:0<=h0/\h0<m
 each:∀c∈cs,bM kd c.1/\0<=c.2/\c.2<m
 up:(cs.map (·.1)).Pairwise λa b=>vlt a b=true
 few:cs.length<=7
def lX (h:bM kd v):aJo v=true/\kindS v=kd:=by
 cases h with
 |num=>exact⟨rfl,rfl⟩
 |@wrd x hx h8=>refine⟨?_,rfl⟩;show (false || (decide (0<=x.length) && (decide (x.length<=8) && allIn x)))=true;rw[allIn_of hx,m9 h8];rfl
def oO (h:bM kd v):Vl v:=by
 cases h with
 |num=>exact .inl ⟨_,rfl⟩
 |wrd hx h8=>exact .inr ⟨_,rfl,hx,h8⟩
def bCe (h:vlt a b=true)(q:Q (.bl true) H):bDr a b H Q:=by
 unfold vlt at h
 split at h
 ·exact .inl ⟨_,_,rfl,rfl,by rw[h];exact q⟩
 ·exact .inr ⟨_,_,rfl,rfl,by rw[h];exact q⟩
 ·cases h
inductive aQ0 (K:bFZ)(Pt:Addr)(vs:List V)(H:Hp)(Q:VK)(E_:XK):Prop
 |mk (v:V) (kd:Str) (m h0:Int) (cs:List (V × Int)) (_:vs=[v,.str kd,.int m]) (_:kJ K H (eQ K H) v ((.non,h0)::cs)) (_:aRj kd) (_:oY kd m h0 cs) (_:H Pt=some (.tab qC)) (_:∀H',Same H H'->Q (.bl true) H')
def aJ6 (T:Txt w K mg)(C:aTq K mg "are_cuts" Pt)(hK:K.In base)(a3:BM mg base)(nG:Ok P w K mg base 5 "is_tuple_of" o8 (aPn P w K mg base 3))(a7:Ok P w K mg base 3 "is_cut" bQD (aWg K))
  (gH:Ok P w K mg base 3 "is_value_of" bQS (aHd K)):Ok P w K mg base 6 "are_cuts" bQU (aQ0 K Pt):=by
 refine Ok.bFl T.aO1 C hK aAo (λvs H Q E h=>?_) (λf c A a1 s H vs Q E CH hr h=>?_)
 ·obtain⟨v,X,m,h0,j,rfl,_⟩:=h;rfl
 obtain⟨v,X,m,h0,j,rfl,⟨a,us,rfl,ha,hu⟩,a4,M,hP,q⟩:=h;have a5:=mC hr;refine⟨_,(aC (bO (VW.pt (fG (cL (cC (aOm (iy:=2) nG hr (by rfl) (vv 0) aB (rN (by rfl) T.aA6) rfl CH a3 ⟨⟨_,_,_,_,rfl⟩,λ_ _ _ _ _=>rfl,rfl,rfl,rfl,by trivial,rfl,rfl,rfl,by trivial,by trivial,by trivial,by trivial,by trivial⟩ rfl rfl rfl rfl (aV0 rfl) rfl))) (eE (cX aBw (aR aO (aR aO (vv 0) aB) aB) jV)))) (aD (aM jL)) aW) (aC (aBx (i0:=3) aAo.nd rfl (by trivial) (N:=["cut"]) ck iM rfl (nU (cR mX (vv 0) (dF aB) dO)) (λcl e d fp=>⟨(fZ 0),fH,(aR (bL (K:=K)) (vv 0) aB)⟩)) (aC (bO (cL (cC (aK (jQ rfl) (by rfl) T.aAw rJ (va1 (cJ (N:=["low","kind"]) ck (eU (aF vM)) rfl (fM (vv 3)) (λcl e d fp=>⟨(fZ 0),fH,(aV gH (aH (vv 0) (va1 (vv 1))))⟩)))))) (aD (aM jL)) aW) (aD (aM (aK (jQ rfl) (by rfl) T.aAw rJ (va1 (cJ (N:=["low","after"]) ck iM rfl (aWr (by rfl) T.aZz (aH (vv 3) (va1 (cR yK (vv 3) (dF aB) dO)))) (λcl e d fp=>⟨(tG (K:=K) (n:=2) rfl (bC (fZ 0) (bC (fZ 1) fP))),fH,(yN bAk (vv 0) (vv 1))⟩))))))))),?_⟩;have lu:=hu.len;have a6:=M.few;rw[j9] at lu;refine⟨_,rfl,.int m,rfl,hP,λlf O hL hT=>⟨a,1,8,lf,us,_,_,_,_,_,_,_,rfl,hT _ _ ha,by lia,by lia,by decide,hL,a7,λv hv d R I r=>?_,λH3 s3=>⟨s3,λH4 J=>?_⟩⟩⟩
 ·obtain⟨c,hc,p,rfl,hp⟩:=hu.mem hv;have U:0<=c.2/\c.2<m:=by
   rcases List.mem_cons.mp hc with rfl|hc
   ·exact M.first
   ·exact (M.each c hc).2
  exact⟨p,c.1,c.2,m,rfl,I.aP (hT _ _ hp),U.1,U.2,λO s2=>r O s2⟩
 obtain⟨u0,W,rfl,⟨p0,rfl,Y⟩,G⟩:∃u0 W,us=u0::W/\eQ K H u0 (.non,h0)/\bW (eQ K H) W j:=by
  cases hu with
  |cons r t=>exact⟨_,_,rfl,r,t⟩
 refine⟨_,rfl,cB ?_⟩;refine⟨_,rfl,a,_,0,_,rfl,rfl,J.aP ha,at0 _ _,p0,_,0,_,rfl,rfl,J.aP Y,at0 _ _,rfl,_,rfl,cB ?_⟩;dsimp only[mJ,bR,aBi,vB];have lt:=G.len;refine oE [none] oU ⟨_,rfl,_,rfl,a,_,rfl,J.aP ha,λts H5 s5 S=>?_⟩;rw[show (1:Int)=((1:Nat):Int) from rfl,lJ,List.drop_one,List.tail_cons] at S;refine⟨ts,rfl,⟨_,S⟩,aDb (zQ λd e=>e.aP S) (oM λd e=>e.aP S) ⟨none,rfl⟩ (by lia) (j.map (·.1)) (by rw[j4];lia) (λi x z B F d R l I r=>?_) λL H6 s6 nL V=>?_⟩
 ·obtain⟨Z,u,p',rfl,a0⟩:=bV G B;rw[v5,u] at F;cases F;exact⟨_,rfl,p',_,0,_,rfl,rfl,(J.trans (s5.trans I)).aP a0,at0 _ _,r d (Same.refl _)⟩
 have g:∀n:Nat,(List.replicate n true).all id=true:=λn=>List.all_eq_true.mpr λb U=>(bBP U);dsimp only[aR3,bC0,tB,tCB,dZ,List.set];refine jT [none,some (.str X)] (lB 1 (by trivial) rfl rfl (by trivial)) ⟨_,rfl,L,rfl,⟨_,SqL.of V⟩,aDb (aN2 λd e=>SqL.of (e _ _ V)) (aB7 λd e=>SqL.of (e _ _ V)) ⟨none,rfl⟩ (by rw[j4];lia) (List.replicate j.length (.bl true)) (by rw[bDR,j4]) (λi x z B F d R l I r=>?_) λD H7 s7 _ g7=>?_⟩
 ·rw[v5] at B;obtain⟨Z,u,rfl⟩:=Option.map_eq_some_iff.mp B;have k:=bBP (v4 F);subst k;have hk:=(M.each Z (v4 u)).1;obtain⟨v1,v2⟩:=lX hk;refine⟨_,rfl,_,rfl,Z.1,X,rfl,(oO hk).th,λO s2=>?_⟩;rw[v1,v2,m9 rfl];exact r O s2
 refine⟨D,List.replicate j.length true,rfl,SqL.of (by rw[g7,bDN]),?_⟩;rw[g];refine⟨_,rfl,cB ?_⟩;dsimp only[mJ,pZ,tCB,dZ];have o:=s7 _ _ V;refine aV6 [none,none] tO ⟨_,rfl,_,rfl,_,rfl,L,_,rfl,SqL.of o,λa2 H8 _ s8 g8=>?_⟩;rw[show (1:Int)=((1:Nat):Int) from rfl,lJ] at g8;refine⟨L,a2,_,_,rfl,SqL.of (s8 _ _ o),SqL.of g8,aJb (SqL.of (s8 _ _ o)) (SqL.of g8) (by rw[bBE];lia) ⟨none,none,rfl⟩ (by rw[bBE,j4];lia) (List.replicate ((j.map (·.1)).drop 1).length (.bl true)) (by rw[bDR]) (λi x y z B ey F d R I r=>?_) λD2 H9 s9 g9=>?_⟩
 ·have k:=bBP (v4 F);subst k;rw[List.getElem?_drop] at ey;obtain⟨hi,rfl⟩:=List.getElem?_eq_some_iff.mp B;obtain⟨hj,rfl⟩:=List.getElem?_eq_some_iff.mp ey;exact⟨_,rfl,_,rfl,bCe ((List.pairwise_iff_getElem.mp M.up) i (1+i) hi hj (by lia)) (r d (Same.refl _))⟩
 ·refine⟨D2,List.replicate ((j.map (·.1)).drop 1).length true,rfl,SqL.of (by rw[g9,bDN]),?_⟩;rw[g];exact q H9 (J.trans (s5.trans (s6.trans (s7.trans (s8.trans s9)))))
def aOq (hd:Hdr):Prop:=Good hd/\∀c∈hd,Nm c.1/\aRj c.2
inductive aK9 (K:bFZ)(vs:List V)(H:Hp)(Q:VK)(E_:XK):Prop
 |mk (v:V) (hd:Hdr) (_:vs=[v]) (_:mF K H v hd) (_:aOq hd) (_:∀H',Same H H'->Q (.bl true) H')
def bN (K:bFZ)(H:Hp)(D:Addr)(rs:List (List V)):Prop:=∃us,H D=some (.lst us)/\bW (cP K H) us rs
def bN.same (e:Same H H')(h:bN K H D rs):bN K H' D rs:=by obtain⟨b,a,c⟩:=h;exact⟨b,e _ _ a,c.imp λ_ _ r=>r.same e⟩
def aMa (T:Txt w K mg)(G:Ok P w K mg base 3 "is_column" o6 (bA0 (aIn K)))(Z:Ok P w K mg base 4 "is_tuple_of" o8 (aJ1 P w K mg base 3))
  (O:Ok P w K mg base 1 "are_unlike" ["names"] (aFo K)) (lQ:Ok P w K mg base 1 "names_of" ["head"] (aIh K)):Ok P w K mg base 5 "is_head" o6 (aK9 K):=by
 refine Ok.ofV T.aQ5 aMw (by trivial) (λf S A k s H X Q E Y h=>?_)
 obtain⟨v,hd,rfl,⟨a,t,rfl,o,g⟩,b,q⟩:=h;obtain⟨m,U,J⟩:=G.held;have i:∃u,mg "is_column"=some u/\RelV (.ref m) u:=⟨_,U,rfl⟩;refine⟨_,(aD (aM (iI (aV Z (aH (vv 0) (aH aB (aH (rN (by rfl) T.aDt) (va1 (rN (by rfl) i)))))) (iU (aV O (va1 (aV lQ (va1 (vv 0))))))))),?_⟩;have lu:=g.len;have l1:=b.1.2.1;have W:=b.1.2.2;have d:t.all (λ_=>true)=true:=List.all_eq_true.mpr λ_ _=>rfl;have y:aF6 K (aIn K) 1 8 H (.ref a) true:=by
  have:=aF6.yes (K:=K) (R:=aIn K) (lo:=1) (hi:=8) (H:=H) (λ_=>true) o (by lia) (by lia) (λx M=>by
   obtain⟨c,C,p,rfl,N⟩:=g.mem M;obtain⟨l,n⟩:=b.2 c C;have j:Th K H (.str c.2):=aMx (by rcases n with e|e <;> rw[e] <;> decide +kernel);have z:=aIn.two (K:=K) (H:=H) N l.th j;have e:(nameB (.str c.1) && (isS (.str c.2) && inV (.str c.2) kinds))=true:=by rw[show nameB (.str c.1)=true from l];rcases n with e|e <;> rw[e] <;> decide +kernel
   rw[e] at z;exact z)
  rw[d] at this;exact this
 refine⟨_,rfl,_,1,8,m,_,_,_,rfl,by decide,J,aSf K,y,λV r=>⟨_,rfl,fB ?_⟩⟩;refine⟨_,rfl,.ref a,hd,rfl,mF.same r ⟨a,t,rfl,o,g⟩,by lia,λD H2 B F=>?_⟩;refine⟨D,hd.map (·.1),rfl,SqL.of F,by rw[j4];lia,λI L=>?_⟩;rw[m9 b.1.1];exact q I ((r.trans B).trans L)
def jA (hd:Hdr)(r:List V):Prop:=bW (λc v=>bM c.2 v) hd r
inductive aBo (K:bFZ)(vs:List V)(H:Hp)(Q:VK)(E_:XK):Prop
 |mk (vh v:V) (hd:Hdr) (r:List V) (_:vs=[vh,v]) (_:mF K H vh hd) (_:hd.length<=1000) (_:cP K H v r) (_:jA hd r) (_:∀H',Same H H'->Q (.bl true) H')
def aOz (T:Txt w K mg)(gH:Ok P w K mg base 3 "is_value_of" bQS (aHd K)):Ok P w K mg base 4 "is_row" bQA (aBo K):=by
 refine Ok.ofV T.aU4 aRx (by trivial) (λf W A t s H vs Q E hr h=>?_)
 obtain⟨vh,v,hd,r,rfl,⟨b,k,rfl,B,y⟩,hl,⟨a,rfl,m⟩,j,q⟩:=h;have Z:=y.len;have lr:=j.len;refine⟨_,(aC (bO (VW.pt (fG (cL (cC (aK jG (by rfl) T.bZ bQ (aH (vv 1) (va1 (fK (v:=.ty "tuple") (by rfl) T.iH fU rfl)))))) (eE (cX wN (aK aX (by rfl) T.dW cQ (va1 (vv 1))) (aK aX (by rfl) T.dW cQ (va1 (vv 0))))))) (aD (aM jL)) aW) (aD (aM (aK (jQ rfl) (by rfl) T.aAw rJ (va1 (cJ (N:=["value","column"]) ck iM rfl (aX4 (by rfl) T.aZz (aH (vv 1) (va1 (vv 0)))) (λcl Y u fp=>⟨(tG (K:=K) (n:=2) rfl (bC (fZ 0) (bC (fZ 1) fP))),fH,(aV gH (aH (vv 0) (va1 (aR (bL (K:=K)) (vv 1) aB))))⟩))))))),?_⟩;refine⟨_,rfl,_,_,rfl,.tup m,_,rfl,cB ?_⟩;refine⟨_,rfl,_,_,rfl,.inr m,_,rfl,_,_,rfl,.inr B,rfl,_,rfl,?_⟩;have e:(!decide (V.int (r.length:Nat)=V.int (k.length:Nat)))=false:=by rw[show r.length=k.length by lia];simp
 rw[e];refine cB ?_;dsimp only[mJ,pZ,tCB,dZ];refine aUn r k (λ_ _=>.bl true) [none,none] tO (small (by lia)) (by lia) m B (λR r=>⟨_,rfl,_,rfl,r⟩) (λi x c M F u R l1 l2 o S=>?_) rfl rfl λD u o G=>?_
 ·obtain⟨I,l,p,rfl,L⟩:=bV y F;obtain⟨x',g,z⟩:=bV j l;rw[M] at g;cases g;obtain⟨J,X⟩:=lX z;refine⟨_,rfl,_,rfl,p,_,1,_,rfl,rfl,o.aP L,at1 _ _ _,x,I.2,rfl,(oO z).th,λC U=>?_⟩;rw[J,X,m9 rfl];exact S C U
 ·have O:List.zipWith (λ_ _:V=>V.bl true) r k=(List.replicate r.length true).map V.bl:=by rw[bDN];refine List.eq_replicate_iff.mpr ⟨by rw[bFI];lia,λb d=>?_⟩;obtain⟨i,hi,rfl⟩:=bBC d;rw[List.getElem_zipWith]
  refine⟨D,List.replicate r.length true,rfl,SqL.of (by rw[G,O]),?_⟩;rw[show (List.replicate r.length true).all id=true from List.all_eq_true.mpr λb d=>bBP d];exact q u o
inductive aLb (K:bFZ)(vs:List V)(H:Hp)(Q:VK)(E_:XK):Prop
 |mk (vh:V) (hd:Hdr) (n:Str) (_:vs=[vh,.str n]) (_:mF K H vh hd) (_:hd.length<=1000) (_:Nm n) (_:n∈hd.map (·.1)) (_:∀H',Same H H'->Q (.bl true) H')
def aBg (T:Txt w K mg)(t:Ok P w K mg base 2 "is_name" o6 (aEr K nameB))(r:Ok P w K mg base 1 "names_of" ["head"] (aIh K)):Ok P w K mg base 3 "is_column_in" bQA (aLb K):=by
 refine Ok.ofV T.aDg aBe (by trivial) (λf l A a s H u Q E p h=>?_)
 obtain⟨g,hd,n,rfl,d,e,b,m,q⟩:=h;refine⟨_,(aD (aM (iI (aV t (va1 (vv 1))) (iU (pG yX (vv 1) (aV r (va1 (vv 0))) (by with_unfolding_all rfl)))))),?_⟩;refine⟨_,rfl,_,rfl,b.th,λo c=>⟨_,rfl,?_⟩⟩;rw[show nameB (.str n)=true from b];refine fB ⟨_,rfl,_,rfl,g,hd,rfl,d.same c,e,λD k i j=>?_⟩;refine⟨D,_,rfl,.inl (SqL.of j),rfl,aJm,?_⟩;rw[aPl,m9 m];exact q k (c.trans i)
inductive Plc where
 |copies
 |keys (n:Str)
 |spans (n:Str) (h0:Int) (cs:List (V × Int))
def jZ (K:bFZ)(H:Hp)(v:V):Plc->Prop
 |.copies=>∃a,v=.ref a/\SqT K H a [.str "copies"]
 |.keys n=>∃a,v=.ref a/\SqT K H a [.str "keys",.str n]
 |.spans n h0 cs=>∃a vc,v=.ref a/\SqT K H a [.str "spans",.str n,vc]/\kJ K H (eQ K H) vc ((.non,h0)::cs)
def jZ.same (e:Same H H')(h:jZ K H v pl):jZ K H' v pl:=by
 cases pl with
 |copies=>obtain⟨a,rfl,b⟩:=h;exact⟨a,rfl,e.aP b⟩
 |keys n=>obtain⟨a,rfl,b⟩:=h;exact⟨a,rfl,e.aP b⟩
 |spans n h0 cs=>obtain⟨a,c,rfl,b,d⟩:=h;exact⟨a,c,rfl,e.aP b,kJ.same e (λ_ _ q=>q.same e) d⟩
def aS9 (hd:Hdr)(m:Int):Plc->Prop
 |.copies=>True
 |.keys n=>Nm n/\∃k,look hd n=some k
 |.spans n h0 cs=>Nm n/\∃k,look hd n=some k/\aRj k/\oY k m h0 cs
def aC0 (h:look hd n=some k):n∈hd.map (·.1):=by obtain⟨i,a,_⟩:=aGy h;exact List.mem_map.mpr ⟨_,v4 a,rfl⟩
def gF {p q:Prop}(h:c=true)(a:p):if c=true then p else q:=by rw[if_pos h];exact a
def dI {p q:Prop}(h:c=false)(a:q):if c=true then p else q:=by rw[if_neg (by rw[h];exact v8)];exact a
inductive aZu (K:bFZ)(Pt:Addr)(vs:List V)(H:Hp)(Q:VK)(E_:XK):Prop
 |mk (v vh:V) (m:Int) (hd:Hdr) (pl:Plc) (_:vs=[v,vh,.int m]) (_:jZ K H v pl) (_:mF K H vh hd) (_:hd.length<=1000) (_:aS9 hd m pl) (_:H Pt=some (.tab qC)) (_:∀H',Same H H'->Q (.bl true) H')
def th8 (h:x.length<=8):Th K H (.str x):=aMx h
def aD6 (T:Txt w K mg)(L:Ok P w K mg base 1 "is_one_of" bQT (aM4 K))(N:Ok P w K mg base 3 "is_column_in" bQA (aLb K))(yW:Ok P w K mg base 1 "kind_in" bQJ (aM6 K))(Y:Ok P w K mg base 6 "are_cuts" bQU (aQ0 K Pt)):Ok P w K mg base 7 "is_placing" bQQ (aZu K Pt):=by
 refine Ok.ofV T.aIs aEg (by trivial) (λf a0 A I s H vs Q E hr h=>?_)
 obtain⟨v,F,m,hd,W,rfl,i,r,M,j,O,q⟩:=h;refine⟨_,(aC (bO (VW.pt (fG (cL (cC (aK jG (by rfl) T.bZ bQ (aH (vv 0) (va1 (fK (v:=.ty "tuple") (by rfl) T.iH fU rfl)))))) (eE (cX dX (aK aX (by rfl) T.dW cQ (va1 (vv 0))) aB)))) (aD (aM jL)) aW) (aC (bO (cC (aV L (aH (aR aO (vv 0) aB) (va1 (bY (va1 bH)))))) (aD (aM (yN dX (aK aX (by rfl) T.dW cQ (va1 (vv 0))) aB))) aW) (aC (bO (cC (aV L (aH (aR aO (vv 0) aB) (va1 (bY (va1 bH)))))) (aD (aM (iI (yN dX (aK aX (by rfl) T.dW cQ (va1 (vv 0))) aB) (iU (aV N (aH (vv 1) (va1 (aR aO (vv 0) aB)))))))) aW) (aC (bO (VW.pt (fG (cL (cC (aV L (aH (aR aO (vv 0) aB) (va1 (bY (va1 bH))))))) (fG (cX wN (aK aX (by rfl) T.dW cQ (va1 (vv 0))) aB) (eE (cL (cC (aV N (aH (vv 1) (va1 (aR aO (vv 0) aB)))))))))) (aD (aM jL)) aW) (aD (aM (aV Y (aH (aR aO (vv 0) aB) (aH (aV yW (aH (vv 1) (va1 (aR aO (vv 0) aB)))) (va1 (vv 2))))))))))),?_⟩;cases W with
 |copies=>obtain⟨a,rfl,b⟩:=i;refine⟨_,rfl,_,_,rfl,.tup b,_,rfl,cB ⟨_,rfl,_,_,rfl,.inr b,rfl,_,rfl,cB ?_⟩⟩;refine⟨_,rfl,a,_,0,_,rfl,rfl,b,at0 _ _,by decide,λl u _ g o=>⟨_,l,_,rfl,th8 (by trivial),SqT.of o,rfl,_,rfl,gF (by trivial) ?_⟩⟩;refine⟨_,rfl,_,_,rfl,.inr (g.aP b),rfl,?_⟩;exact q u g
 |keys n=>obtain⟨a,rfl,b⟩:=i;obtain⟨t,k,p⟩:=j;refine⟨_,rfl,_,_,rfl,.tup b,_,rfl,cB ⟨_,rfl,_,_,rfl,.inr b,rfl,_,rfl,cB ?_⟩⟩;refine⟨_,rfl,a,_,0,_,rfl,rfl,b,at0 _ _,by decide,λl u _ g o=>⟨_,l,_,rfl,th8 (by trivial),SqT.of o,rfl,_,rfl,dI (by trivial) ?_⟩⟩;refine⟨_,rfl,a,_,0,_,rfl,rfl,g.aP b,at0 _ _,by decide,λx X _ y G=>⟨_,x,_,rfl,th8 (by trivial),SqT.of G,rfl,_,rfl,gF (by trivial) ?_⟩⟩;have c:=g.trans y;refine⟨_,rfl,_,_,rfl,.inr (c.aP b),rfl,_,rfl,fB ?_⟩;exact⟨_,rfl,_,rfl,a,_,1,_,rfl,rfl,c.aP b,at1 _ _ _,F,hd,n,rfl,r.same c,M,t,aC0 p,λJ B=>q J (c.trans B)⟩
 |spans n h0 cs=>obtain⟨a,vc,rfl,b,R⟩:=i;obtain⟨t,k,p,C,D⟩:=j;refine⟨_,rfl,_,_,rfl,.tup b,_,rfl,cB ⟨_,rfl,_,_,rfl,.inr b,rfl,_,rfl,cB ?_⟩⟩;refine⟨_,rfl,a,_,0,_,rfl,rfl,b,at0 _ _,by decide,λl u _ g o=>⟨_,l,_,rfl,th8 (by trivial),SqT.of o,rfl,_,rfl,dI (by trivial) ?_⟩⟩;refine⟨_,rfl,a,_,0,_,rfl,rfl,g.aP b,at0 _ _,by decide,λx X _ y G=>⟨_,x,_,rfl,th8 (by trivial),SqT.of G,rfl,_,rfl,dI (by trivial) ?_⟩⟩;have c:=g.trans y;refine⟨_,rfl,a,_,0,_,rfl,rfl,c.aP b,at0 _ _,by decide,λS H3 _ U Z=>⟨_,S,_,rfl,th8 (by trivial),SqT.of Z,rfl,_,rfl,dI (by trivial) ?_⟩⟩;have e:=c.trans U;refine⟨_,rfl,_,_,rfl,.inr (e.aP b),rfl,_,rfl,cB ?_⟩;refine⟨_,rfl,_,rfl,a,_,1,_,rfl,rfl,e.aP b,at1 _ _ _,F,hd,n,rfl,r.same e,M,t,aC0 p,λH4 V=>⟨_,rfl,cB ?_⟩⟩;have d:=e.trans V;refine⟨_,rfl,a,_,2,_,rfl,rfl,d.aP b,at2 _ _ _ _,_,rfl,_,rfl,a,_,1,_,rfl,rfl,d.aP b,at1 _ _ _,F,n,hd,k,rfl,r.same d,p,_,rfl,?_⟩;exact⟨vc,k,m,h0,cs,rfl,kJ.same d (λ_ _ z=>z.same d) R,C,D,d _ _ O,λJ B=>q J (d.trans B)⟩
inductive aL5 (K:bFZ)(vs:List V)(H:Hp)(Q:VK)(E_:XK):Prop
 |mk (L:Addr) (vh:V) (hd:Hdr) (rows:List (List V)) (_:vs=[.ref L,vh]) (_:mF K H vh hd) (_:hd.length<=1000) (_:bN K H L rows) (_:rows.length<=1000) (_:(∀r∈rows,jA hd r)) (_:∀H',Same H H'->Q (.bl true) H')
def aL8 (T:Txt w K mg)(Z:Ok P w K mg base 4 "is_row" bQA (aBo K)):Ok P w K mg base 5 "are_rows" bXC (aL5 K):=by
 refine Ok.ofV T.aOk aJ3 (by trivial) (λf V A m s H X Q E hr h=>?_)
 obtain⟨L,t,hd,p,rfl,B,G,⟨d,c,o⟩,W,e,q⟩:=h;refine⟨_,(aD (aM (iI (aK aRb (by rfl) T.bZ bQ (aH (vv 0) (va1 (fK (v:=.ty "list") (by rfl) T.yR tK rfl)))) (iU (aK (jQ rfl) (by rfl) T.aAw rJ (va1 (cJ (N:=["row","head"]) ck (eU (aF vO)) rfl (fM (vv 0)) (λcl a n Y=>⟨(fZ 0),fH,(aV Z (aH (vv 1) (va1 (vv 0))))⟩)))))))),?_⟩;have lu:=o.len;refine⟨_,rfl,L,d,rfl,SqL.of c,_,rfl,fB ?_⟩;dsimp only[pZ,tCB,dZ];refine jT [none,some t] (lB 1 (by trivial) rfl rfl (by trivial)) ⟨_,rfl,L,rfl,⟨_,SqL.of c⟩,aDb (aN2 λn a=>SqL.of (a _ _ c)) (aB7 λn a=>SqL.of (a _ _ c)) ⟨none,rfl⟩ (by lia) (List.replicate d.length (.bl true)) (by rw[bDR]) (λi x z O U n R l u r=>?_) λD S J _ F=>?_⟩
 ·have k:=bBP (v4 U);subst k;obtain⟨y,j,I⟩:=bV o O;exact⟨_,rfl,_,rfl,t,x,hd,y,rfl,B.same u,G,I.same u,e y (v4 j),λM C=>r M C⟩
 ·refine⟨D,List.replicate d.length true,rfl,SqL.of (by rw[F,bDN]),?_⟩;rw[show (List.replicate d.length true).all id=true from List.all_eq_true.mpr λb g=>bBP g];exact q S J
structure Tb where
 hd:Hdr
 pl:Plc
 rows:List (List V)
def jU (K:bFZ)(H:Hp)(v:V)(vh vp:V)(L:Addr)(t:Tb):Prop:=∃a,v=.ref a/\SqT K H a [vh,vp,.ref L]/\mF K H vh t.hd/\jZ K H vp t.pl/\bN K H L t.rows
structure jR (m:Int)(t:Tb):Prop where
 hd:aOq t.hd
 pl:aS9 t.hd m t.pl
 few:t.rows.length<=60
 rows:∀r∈t.rows,jA t.hd r
inductive aZ8 (K:bFZ)(Pt:Addr)(vs:List V)(H:Hp)(Q:VK)(E_:XK):Prop
 |mk (v vh vp:V) (L:Addr) (m:Int) (t:Tb) (_:vs=[v,.int m]) (_:jU K H v vh vp L t) (_:jR m t) (_:H Pt=some (.tab qC)) (_:∀H',Same H H'->Q (.bl true) H')
def aK2 (T:Txt w K mg)(B:Ok P w K mg base 5 "is_head" o6 (aK9 K))(y:Ok P w K mg base 7 "is_placing" bQQ (aZu K Pt))(u:Ok P w K mg base 5 "are_rows" bXC (aL5 K)):Ok P w K mg base 8 "is_table" bQD (aZ8 K Pt):=by
 refine Ok.ofV T.aNe aLs (by trivial) (λf z A k s H G Q E I h=>?_)
 obtain⟨v,i,x,L,m,t,rfl,⟨a,rfl,c,g,j,p⟩,e,l,q⟩:=h;have F:=e.hd.1.2.2;have o:=e.few;refine⟨_,(aC (bO (VW.pt (fG (cL (cC (aK jG (by rfl) T.bZ bQ (aH (vv 0) (va1 (fK (v:=.ty "tuple") (by rfl) T.iH fU rfl)))))) (fG (cX wN (aK aX (by rfl) T.dW cQ (va1 (vv 0))) aB) (eE (cL (cC (aV B (va1 (aR aO (vv 0) aB))))))))) (aD (aM jL)) aW) (aD (aM (iI (aV y (aH (aR aO (vv 0) aB) (aH (aR aO (vv 0) aB) (va1 (vv 1))))) (iU (aV u (aH (aR aO (vv 0) aB) (va1 (aR aO (vv 0) aB))))))))),?_⟩;refine⟨_,rfl,_,_,rfl,.tup c,_,rfl,cB ⟨_,rfl,_,_,rfl,.inr c,rfl,_,rfl,cB ?_⟩⟩;refine⟨_,rfl,a,_,0,_,rfl,rfl,c,at0 _ _,i,t.hd,rfl,g,e.hd,λD d=>⟨_,rfl,cB ?_⟩⟩;refine⟨_,rfl,a,_,1,_,rfl,rfl,d.aP c,at1 _ _ _,_,rfl,a,_,0,_,rfl,rfl,d.aP c,at0 _ _,_,rfl,x,i,m,t.hd,t.pl,rfl,j.same d,g.same d,by lia,e.pl,d _ _ l,λJ C=>⟨_,rfl,fB ?_⟩⟩;have b:=d.trans C;exact⟨_,rfl,a,_,2,_,rfl,rfl,b.aP c,at2 _ _ _ _,_,rfl,a,_,0,_,rfl,rfl,b.aP c,at0 _ _,L,i,t.hd,t.rows,rfl,g.same b,by lia,p.same b,by lia,e.rows,λn r=>q n (b.trans r)⟩
end
end My
namespace L2
open PySem PySem.Spec PyProof.Rows
section
variable {X:Cx}{H:Hp}{s:Shared}{d:Addr}
def aW7 (k:HOk X.prog X.w H s.heap)(hd:H d=some u)(j:∀xs,u≠.tup xs)(i:∀a,u≠.own a)(h:dN X.prog X.w H s.heap d u'):HOk X.prog X.w (upd H d u') s.heap:=by
 have g:∀{b v},dN X.prog X.w H s.heap b v->dN X.prog X.w (upd H d u') s.heap b v:=λ{b v} z=>z.stay (λ_ _ _ q=>q) (λc q=>by
  rw[aQ (λe=>by subst e;rw[hd] at q;exact i _ (bAM q))];exact q) λc xs q=>by
  rw[aQ (λe=>by subst e;rw[hd] at q;exact j _ (bAM q))];exact q
 intro b v e;by_cases f:b=d
 ·subst f;rw[aG] at e;cases e;exact g h
 ·rw[aQ f] at e;exact g (k b v e)
def Inv.setd (I:Inv X bF3 σ H s)(hd:H d=some u)(o:∀xs,u≠.tup xs)(y:∀a,u≠.own a)(r:∀ps,u≠.tbl ps)(t:∀ob v,X.H₀ d≠some (.frz ob v))(h:dN X.prog X.w H s.heap d u'):Inv X bF3 σ (upd H d u') s:=by
 have g:∀{b},H b=none->upd H d u' b=none:=λ{b} e=>by rw[aQ (λz=>by subst z;rw[hd] at e;cases e)];exact e
 refine⟨I.ok,I.os,I.bare,⟨I.base.keep,I.base.slot,λb ob e n j=>g (I.base.free b ob e n j),I.base.there,λb xs e=>?_,λb ob v e=>?_,λb ps e=>?_⟩,I.loc,I.cell,g I.free,λx c e=>g (I.freeC x c e),λp l=>?_,aW7 I.hok hd o y h,I.len⟩
 ·have q:=I.base.tups b xs e;rw[aQ (λz=>by subst z;rw[hd] at q;exact o _ (bAM q))];exact q
 ·have q:=I.base.frzs b ob v e;rw[aQ (λz=>by subst z;exact t _ _ e)];exact q
 ·obtain⟨f,q⟩:=I.base.tbls b ps e;refine⟨f,?_⟩;rw[aQ (λz=>by subst z;rw[hd] at q;exact r _ (bAM q))];exact q
 ·obtain⟨m,k,i⟩:=I.pin p l;exact⟨m,g k,i⟩
end
def Itd (d:Addr)(o:Obj)(kvs:List (Key × V)):It:=
 ⟨λi H=>H d=some (.frz o (.dK kvs))/\i<kvs.length,λi H x H'=>H'=H/\∀kv,kvs[i]?=some kv->x=kV kv.1,λi H=>H d=some (.frz o (.dK kvs))/\i=kvs.length⟩
def aBp (b:o.data=.dict es ep)(m:dN P w H h d (.frz o (.dK kvs))):∃vs,KV kvs vs/\h.DictAt (bJ P w) d vs ep:=by obtain⟨f,_,_,vs,a,⟨l,g,i,e,k,c,j⟩⟩:=m;rw[f] at e;cases e;rw[b] at c;cases c;exact⟨vs,a,o,es,f,k,b,j⟩
def aUw {P:Program}{w:World}{K:bFZ}{tg:Expr}(d it:Addr)(o:Obj)(kvs:List (Key × V))(es:Array DictEntry)(ep:Nat)(L:o.data=.dict es ep)(hk:∀kv∈kvs,∃n,kv.1=Sum.inr n):Turn P w K tg (Itd d o kvs) [it] it (λi h=>h.IsKeyIter it d i kvs.length ep) where
 mem:=by simp
 obj:=λi h c b g=>by
  have e:b=it:=by simpa using g
  subst e;obtain⟨D,h1,h2,h3⟩:=c;exact⟨D,h1,λv z=>by rw[h3] at z;cases z⟩
 keep:=λi h C c k=>c.at λD e=>k it (by simp) D e
 item:=by
  intro X F W Y Z i p s σ H E I B c R;subst F W Y;obtain⟨hd,S⟩:=R;obtain⟨j,f,U⟩:=aBp L (I.hok d _ hd);have A:=KV.length f;obtain⟨Q,G,f2,T,J,M⟩:=B it (by simp);have u:kvs[i]?=some kvs[i]:=b8 S;have O:i<j.length:=by lia
  have m:j[i]?=some (j[i].1,j[i].2):=b8 O;have ek:kvs[i].1=j[i].1:=by have:=congrArg (λl=>l[i]?) (KV.keys f);simp only[v5,u,m,bDP] at this;exact bAM this
  rw[A] at c;refine wpAny_pyNext_dict_item c U m λy C a q N=>?_;obtain⟨n,en⟩:=hk _ (bAO S);have I1:Inv X p σ H { s with heap:=C,toks:=s.toks }:=I.turned (λb D g e=>(N.2 b g).trans e) Q G T J M;rw[<-ek,en] at a;obtain⟨t,rfl⟩:∃t,y=.str n t:=by
   cases y with
   |str x t=>
    have e:x=n:=by simpa [bJ,rO,Value.isStrOf] using a
    exact⟨t,by rw[e]⟩
   |_=>exact absurd (show false=true from a) v8
  obtain⟨oi,r,ci,di⟩:=q;refine⟨_,rfl,aFa (s:={ s with heap:=C }) (n:="dict_keyiterator") r ci di (by decide) ⟨.str n,H,I1,⟨t,rfl⟩,⟨rfl,λkv e=>?_⟩,?_,λb g=>(B b g).1⟩⟩
  ·rw[u] at e;cases e;rw[en];rfl
  ·rw[A];exact⟨oi,r,ci,di⟩
 done:=by intro X F W Y Z i p s σ H E I B c R;subst F W Y;obtain⟨Q,G,f2,T,J,M⟩:=B it (by simp);obtain⟨hd,S⟩:=R;obtain⟨j,f,U⟩:=aBp L (I.hok d _ hd);have A:=KV.length f;rw[A] at c;exact wpAny_pyNext_dict_end (I.ok.hd Z) c U (bAD (by lia)) λC eb=>⟨rfl,I.turned (t':=s.toks) (λb o g e=>eb b o g e) Q G T J M⟩
 self:=λ_ _ _ _ _ c h=>wpAny_pyIter_keyiter c h
section
variable {X:Cx}
def bDu (te:TE):TI:=fun σ H R=>te σ H λv H1=>∃d kvs,v=.ref d/\H1 d=some (.dK kvs)/\(∀kv∈kvs,∃n,kv.1=Sum.inr n)/\(∀ob u,X.H₀ d≠some (.frz ob u))/\∀o,R (Itd d o kvs) (upd H1 d (.frz o (.dK kvs)))
end
section
variable {X:Cx}{tg:Expr}
def aU3 {e:Expr}{te:TE}(h:VE X e te):VI X tg e (bDu (X:=X) te):=⟨by
 intro f s σ H R I J;refine thn (h.1 f s σ H _ I J) λv a ⟨x,p,j,D,t⟩=>?_;obtain⟨d,c,e,hd,B,u,q⟩:=t;subst e;cases D;obtain⟨z,A,y,i,⟨o,l,m,n,E,k,G⟩⟩:=aFm j.hok hd;have r:=KV.length i;have F:a.heap.DictAt (bJ X.prog X.w) d y m:=⟨o,l,n,E,k,G⟩;have g:Inv X f σ (upd p d (.frz o (.dK c))) a:=j.setd hd (λ_ z=>by cases z) (λ_ z=>by cases z) (λ_ z=>by cases z) u ⟨n,j.hok d _ hd⟩;refine wpAny_pyIter_dict A F ?_;refine⟨a.heap.objs.size,[a.heap.objs.size],_,_,_,rfl,g.kept (t':=a.toks) λb o e=>d7 _ e,aUw d _ o c l m k B,?_,λb C=>?_,q o⟩
 ·rw[r];exact⟨_,j8 _ rfl,rfl,rfl⟩
 ·have e:b=a.heap.objs.size:=by simpa using C
  subst e;exact g.aHp (d9 _) (g.hok.fresh (d9 _))⟩
def bDq (d:Addr)(kvs:List (Key × V))(D:Ends):Ends:={ nx:=fun σ H=>(∃o,H d=some (.frz o (.dK kvs)))/\D.nx σ (upd H d (.dK kvs)),rt:=λv H=>(∃o,H d=some (.frz o (.dK kvs)))/\D.rt v (upd H d (.dK kvs)) }
def bAb (X:Cx)(t:TS):TS:=λD σ H=>∃d kvs,H d=some (.dK kvs)/\((∀ob u,X.H₀ d≠some (.frz ob u))->t (bDq d kvs D) σ H)
def aQi {st:Stmt}{t:TS}(h:VS X st t):VS X st (bAb X t):=⟨by
 intro c s σ H D I ⟨d,k,hd,q⟩;have w:∀n u,X.H₀ d≠some (.frz n u):=λn u e=>by have:=I.base.frzs d n u e;rw[hd] at this;cases this
 have a:∀{b i l o},Inv X c b i l->i d=some (.frz o (.dK k))->Inv X c b (upd i d (.dK k)) l:=λ{b i l o} j g=>j.setd g (λ_ z=>by cases z) (λ_ z=>by cases z) (λ_ z=>by cases z) w (j.hok d _ g).2;refine thn (h.1 c s σ H _ I (q w)) λf l m=>?_;cases f with
 |next=>obtain⟨b,i,j,⟨o,g⟩,p⟩:=m;exact⟨b,_,a j g,p⟩
 |brk=>obtain⟨_,_,_,z⟩:=m;exact z.elim
 |cont=>obtain⟨_,_,_,z⟩:=m;exact z.elim
 |ret u=>obtain⟨v,b,i,j,r,⟨o,g⟩,p⟩:=m;exact⟨v,b,_,a j g,r,p⟩⟩
end
def aW9 {d:Addr}{o:Obj}{kvs:List (Key × V)}{g:TG}{tb:TS}{D:Ends}{σ:L2.St}{H:Hp}(b:Nat->L2.St->Hp->Prop)(j:b 0 σ H)(c:∀i σ H,i<=kvs.length->b i σ H->H d=some (.frz o (.dK kvs)))
  (f:∀i kv σ H,kvs[i]?=some kv->b i σ H->g (kV kv.1) σ H fun σ2 H2=>tb { D with nx:=b (i+1),ct:=b (i+1),bk:=D.nx } σ2 H2) (hd:∀σ H,b kvs.length σ H->D.nx σ H) :
  ∃W:Nat->Nat->L2.St->Hp->Prop,(∃m,W 0 m σ H)/\∀i m σ H,W i m σ H ->
   ((Itd d o kvs).stop i H/\D.nx σ H)\/((Itd d o kvs).go i H/\∃N:L2.St->Hp->Prop,(∀σ' H',N σ' H'->∃m',m'<m/\W (i+1) m' σ' H')/\∀x H',(Itd d o kvs).yld i H x H'->g x σ H' fun σ2 H2=>tb { D with nx:=N,ct:=N,bk:=D.nx } σ2 H2):=by
 refine⟨λi m σ H=>m=kvs.length - i/\i<=kvs.length/\b i σ H,⟨kvs.length,by simp,bAE _,j⟩,?_⟩;rintro i m σ H ⟨rfl,hi,p⟩;have q:=c i σ H hi p;by_cases a:i<kvs.length
 ·right;refine⟨⟨q,a⟩,b (i+1),fun σ' H' h=>⟨kvs.length - (i+1),by lia,rfl,by lia,h⟩,?_⟩;rintro x H' ⟨rfl,hy⟩;have e:=hy _ (b8 a);subst e;exact f i _ σ H' (b8 a) p
 ·left;have e:i=kvs.length:=by lia
  subst e;exact⟨⟨q,rfl⟩,hd σ H p⟩
end L2
namespace PySem
section
variable {K:Type}[DecidableEq K]
end
end PySem
namespace L2
open PySem PySem.Spec PyProof.Rows
end L2
namespace PySem
end PySem
namespace L2
open PySem PySem.Spec PyProof.Rows
end L2
namespace PySem
def aZo {it d:Addr}{i ep:Nat}{od:Obj}{es:Array DictEntry}{J t:Value}{Q:Option Value->Shared->Prop}(u:IsItemIter s.heap it d i es.size ep J t)(Y:s.heap.get? d=some od)(U:od.data=.dict es ep)(lt:i<es.size)
  (q:∀h',IsItemIterOut h' it d (i+1) es.size ep es[i].key es[i].val s.heap.objs.size->h'.get? s.heap.objs.size=some { cls:=.type "tuple",data:=.seq #[es[i].key,es[i].val] }->h'.objs.size=s.heap.objs.size+1 ->
   (∀b o,b≠it->s.heap.get? b=some o->h'.get? b=some o)->Q (some (.ref s.heap.objs.size)) { s with heap:=h' }):wpAny (model prog w) A (pyNext (.ref it)) Q E s:=by
 have h:s.TypeIs (.ref it) "dict_itemiterator":=⟨_,u,rfl⟩;have T:it<s.heap.objs.size:=t8 u;unfold pyNext;refine b7 (bCT (bAJ (name:="__next__") h F.slot_dict_itemiterator_next (bAH F.slot_dict_itemiterator_next h F.entry_dict_itemiterator_next (b7 (d8 (b7 (b7 ?_)))) (F.args_dict_itemiterator_next_1 _))));refine b7 (bCN h (d8 (b7 (bDV u rfl ?_))));rw[show Builtin.Dict_items.ownsTuple "dict_itemiterator"=true from by decide];simp only[if_true];have Z:¬ ((Value.ref d == Value.none)=true):=v8;show wpAny _ _ (ite ((Value.ref d == Value.none)=true) _ _) _ _ _;rw[if_neg Z];refine b7 (d8 (b7 (bFW Y U ?_)));rw[if_neg (by simp)];refine b7 (d8 (b7 (wpAny_dictEpoch Y U ?_)));rw[if_neg (by simp)];have W:¬ ((i:Int)<0):=by lia
 refine d8 ?_;simp only[W,if_false,bAS,m8 lt];refine b7 (b7 (bCN h (d8 (b7 (bET h ?_)))));show wpAny _ _ (setField (.ref it) 3 (rawInt ((i:Int)+1)) >>= _) _ _ s;refine b7 (bAR u (by simp) λa L K=>?_);have B:IsItemIter a it d (i+1) es.size ep J t:=by
  have z:((i+1:Nat):Int)=(i:Int)+1:=by lia
  unfold IsItemIter;rw[z];simpa [rawInt] using L
 have g:Shared.TypeIs { s with heap:=a } (.ref it) "dict_itemiterator":=⟨_,B,rfl⟩;refine b7 (bAU (b7 (bET g (b7 (bET g ?_)))));have f:a.objs.size=s.heap.objs.size:=K.1;show wpAny _ _ (Builtin.Dict_items.pairFromOwner (.ref it) 6 es[i].key es[i].val) _ _ { s with heap:=a };unfold Builtin.Dict_items.pairFromOwner;refine b7 (bFN ?_);have j:IsItemIter (a.push { cls:=.type "tuple",data:=.seq #[es[i].key,es[i].val] }) it d (i+1) es.size ep J t:=d7 _ B;have v:(a.push { cls:=.type "tuple",data:=.seq #[es[i].key,es[i].val] }).get? s.heap.objs.size=some { cls:=.type "tuple",data:=.seq #[es[i].key,es[i].val] }:=by rw[<-f];exact j8 _ rfl
 have n:(a.push { cls:=.type "tuple",data:=.seq #[es[i].key,es[i].val] }).objs.size=s.heap.objs.size+1:=by rw[bBS,f]
 have G:∀b o,b≠it->s.heap.get? b=some o->(a.push { cls:=.type "tuple",data:=.seq #[es[i].key,es[i].val] }).get? b=some o:=λb o c e=>d7 _ (K.extBut b o c e);rw[show ({ s with heap:=a }:Shared).heap.objs.size=s.heap.objs.size from f];show wpAny _ _ (Builtin.Dict_items.ownedTupleIsFree (.ref it) >>= _) _ _ { s with heap:=a.push { cls:=.type "tuple",data:=.seq #[es[i].key,es[i].val] } };generalize a.push { cls:=.type "tuple",data:=.seq #[es[i].key,es[i].val] }=h2 at j v n G ⊢;unfold Builtin.Dict_items.ownedTupleIsFree;refine b7 (b7 (bAV j rfl (x:=.none) rfl (d8 ?_)));simp only[if_true];refine b7 (bAV j rfl (x:=J) rfl (b7 (bAV j rfl (x:=t) rfl (b7 (bAR j (by simp) λm N H=>?_)))));have X:IsItemIter m it d (i+1) es.size ep es[i].key t:=N;refine b7 (bAR X (by simp) λr V I=>?_);have O:IsItemIter r it d (i+1) es.size ep es[i].key es[i].val:=V;refine b7 (bAR O (by simp) λl M C=>?_);have P:IsItemIterOut l it d (i+1) es.size ep es[i].key es[i].val s.heap.objs.size:=M;refine b7 (bAR P (by simp) λk S D=>?_);have R:IsItemIterOut k it d (i+1) es.size ep es[i].key es[i].val s.heap.objs.size:=S;have y:∀b o,b≠it->h2.get? b=some o->k.get? b=some o:=λb o c e=>D.extBut b o c (C.extBut b o c (I.extBut b o c (H.extBut b o c e)));have p:k.objs.size=s.heap.objs.size+1:=by have a3:m.objs.size=h2.objs.size:=H.1;have a4:r.objs.size=m.objs.size:=I.1;have a5:l.objs.size=r.objs.size:=C.1;have a6:k.objs.size=l.objs.size:=D.1;lia
 exact b7 (wpAny_letGo (d8 (d8 ⟨_,rfl,d8 (q k R (y _ _ (bDJ T) v) p λb o c e=>y b o c (G b o c e))⟩)))
def aMu (h:A.handled=none)(b:IsItemIter s.heap it d es.size es.size ep k0 v0)(e:s.heap.get? d=some od)(c:od.data=.dict es ep)
  (q:∀h',Heap.ExtBut it s.heap h'->Q none { s with heap:=h' }):wpAny (model prog w) A (pyNext (.ref it)) Q E s:=by
 have a:s.TypeIs (.ref it) "dict_itemiterator":=⟨_,b,rfl⟩;unfold pyNext;refine b7 (bCT (bAJ (name:="__next__") a F.slot_dict_itemiterator_next (bAH F.slot_dict_itemiterator_next a F.entry_dict_itemiterator_next (b7 (d8 (b7 (b7 ?_)))) (F.args_dict_itemiterator_next_1 _))));refine b7 (bCN a (d8 (b7 (bDV b rfl ?_))));rw[show Builtin.Dict_items.ownsTuple "dict_itemiterator"=true from by decide];simp only[if_true];have g:¬ ((Value.ref d == Value.none)=true):=v8;show wpAny _ _ (ite ((Value.ref d == Value.none)=true) _ _) _ _ _;rw[if_neg g];refine b7 (d8 (b7 (bFW e c ?_)));rw[if_neg (by simp)];refine b7 (d8 (b7 (wpAny_dictEpoch e c ?_)));rw[if_neg (by simp)];have f:¬ ((es.size:Int)<0):=by lia
 refine d8 ?_;simp only[f,if_false,bAS,bCG (d9 es.size)];refine b7 (b7 (bCN a (d8 ?_)));show wpAny _ _ (setField (.ref it) 2 .none >>= _) _ _ s;refine b7 (bDD b rfl (by simp) ?_);refine b7 ?_;simp only[newExc,newTuple,raiseNew];refine b7 (bAL ?_ (by size_fits));refine b7 (bEJ (by simp only[firstArgMember];rfl) ?_);refine bAL (b7 (bFB ?_)) (by size_fits);rw[show A.in1.handled=none from h];refine b7 (d8 (bFS ?_));refine b7 (bDE ⟨_,j8 _ rfl,rfl⟩ isSubtype_stop ?_);exact d8 (q _ (((bAY ..).extBut.push _).push _))
def aWs (b:(d == sysModules)=false)(a:s.TypeIs (.ref d) "dict")
  (q:Q (.ref s.heap.objs.size) { s with heap:=s.heap.push { cls:=.type "dict_items",data:=.fields #[.ref d] } }):wpAny (model prog w) A (call (.builtin "dict.items") [.ref d]) Q E s:=by
 refine bAH F.slot_dict_items a F.entry_dict_items ?_ (F.args_dict_items_1 _);unfold Builtin.«dict.items» Builtin.Dict.noArgs;refine b7 (b7 (wpAny_notOrdered_dict a ?_));show wpAny _ _ (pure d) _ _ s;refine d8 ?_;show wpAny _ _ (Builtin.Dict.showsAll d >>= _) _ _ _;unfold Builtin.Dict.showsAll;rw[if_neg (show ¬ (d == sysModules)=true by rw[b];exact v8)];exact b7 (d8 (b7 (bAL (d8 ⟨_,rfl,q⟩))))
def aKk (a:s.heap.IsItemsView v d)(c:s.heap.get? d=some od)(b:od.data=.dict es ep)
  (q:Q (.ref s.heap.objs.size) { s with heap:=s.heap.push { cls:=.type "dict_itemiterator",data:=.fields #[.none,.bool false,.ref d,.int 0 0,.int es.size 0,.int ep 0,.none,.none] } }):wpAny (model prog w) A (pyIter (.ref v)) Q E s:=by
 obtain⟨g,e,h,f⟩:=id a;refine bEU a.typeIs F.slot_dict_items_iter (bAH F.slot_dict_items_iter a.typeIs F.entry_dict_items_iter ?_ (F.args_dict_items_iter_1 _));unfold Builtin.«dict_items.__iter__» Builtin.Dict_items.dictOf;refine b7 (d8 (b7 (b7 (bAV e f rfl (d8 ?_)))));refine b7 ?_;unfold Builtin.Dict_items.newIterator;refine b7 (bFW c b (b7 (wpAny_dictEpoch c b ?_)));rw[show Builtin.Dict_items.ownsTuple "dict_itemiterator"=true from by decide];simp only[if_true];refine bAL (d8 ⟨_,rfl,"dict_itemiterator",_,⟨_,j8 _ rfl,rfl⟩,F.slot_dict_itemiterator_next.lookup,?_⟩) (by simp only[sizeOk,Builtin.Dict_items.ownedTupleFields,j6,v9,j9,bCQ,sizeLine_eq];lia);simpa [rawInt,Builtin.Dict_items.ownedTupleFields] using q
open Builtin in
def aC3:entryFor table "dict_itemiterator.__iter__"=some Builtin.«dict_keyiterator.__iter__»:=entryFor_alias (id':="dict_keyiterator.__iter__") (by kernel_rfl) rfl (by trivial) (by kernel_rfl)
end PySem
namespace L2
open PySem PySem.Spec PyProof.Rows
def aNz (d:Addr)(o:Obj)(kvs:List (Key × V)):It:=
 ⟨λi H=>H d=some (.frz o (.dK kvs))/\i<kvs.length,λi H x H'=>∃T kv,H T=none/\x=.ref T/\kvs[i]?=some kv/\H'=upd H T (.tup [kV kv.1,kv.2]),λi H=>H d=some (.frz o (.dK kvs))/\i=kvs.length⟩
def bD7 (r:KV kvs vs):∀{i:Nat} {kv:Key × V},kvs[i]?=some kv->∃q,vs[i]?=some q/\kv.1=q.1/\RelV kv.2 q.2:=by
 unfold KV at r
 induction r with
 |nil=>intro i kv h;cases h
 |cons a _ ih=>
  intro i kv h;cases i with
  |zero=>cases h;exact⟨_,rfl,a⟩
  |succ i=>exact ih h
def aX8 (h:(bJ P w).is (Sum.inr n) key=true):∃t,key=.str n t:=by
 cases key with
 |str x t=>
  have e:x=n:=by simpa [bJ,rO,Value.isStrOf] using h
  exact⟨t,by rw[e]⟩
 |_=>exact absurd (show false=true from h) v8
def aJl {P:Program}{w:World}{K:bFZ}{elts:List Expr}{kt:Nat}{pos:Pos}(d it:Addr)(o:Obj)(kvs:List (Key × V))(es:Array DictEntry)(ep:Nat)(g:o.data=.dict es ep)(hk:∀kv∈kvs,∃n,kv.1=Sum.inr n) :
  Turn P w K (.Tuple elts kt pos) (aNz d o kvs) [it] it (λi h=>∃k0 v0,IsItemIter h it d i kvs.length ep k0 v0) where
 mem:=by simp
 obj:=λi h a b f=>by
  have e:b=it:=by simpa using f
  subst e;obtain⟨k0,v0,R⟩:=a;exact⟨_,R,λv z=>by cases (show Data.fields _=Data.cell v from z)⟩
 keep:=λi h Y a k=>by obtain⟨k0,v0,R⟩:=a;exact⟨k0,v0,k it (by simp) _ R⟩
 item:=by
  intro X J M N hc i r s σ H E I L a Z;subst J M N;obtain⟨k0,v0,a⟩:=a;obtain⟨hd,D⟩:=Z;obtain⟨vs,j,od,a0,C,_,c,_,l,_⟩:=aBp g (I.hok d _ hd);have p:=(I.hok d _ hd).1;rw[p] at C;cases C;rw[g] at c;cases c;have G:es.size=kvs.length:=by rw[KV.length j,<-l.length,v7]
  have u:=b8 D;obtain⟨x,hx,e1,e3⟩:=bD7 j u;have y:i<es.size:=by lia
  obtain⟨m,T⟩:=l.get? (by rw[bBK];exact m8 y) hx;obtain⟨n,en⟩:=hk _ (bAO D);rw[<-e1,en] at m;obtain⟨t,m⟩:=aX8 m;have B:=L it (by simp);rw[<-G] at a;refine aZo a p g y λY S W a3 kp=>?_;rw[m,T] at S W;refine⟨_,rfl,?_⟩;have fT:=I.hok.fresh (d9 _);have q:=z9 (t8 a);have O:kV kvs[i].1=.str n:=by rw[en];rfl
  have I1:Inv X r σ (upd H s.heap.objs.size (.tup [kV kvs[i].1,kvs[i].2])) { s with heap:=Y }:=by
   rw[O];refine I.drawn (ch:=[it]) (its:=[.str n t,x.2]) (λb f=>?_) (λb o f e=>kp b o (by simpa using f) e) (d9 _) (.cons ⟨t,rfl⟩ (.cons e3 .nil)) (small (by simp)) (.of W rfl ⟨_,W,rfl,_,rfl⟩) (λb f=>?_)
   ·have:b=it:=by simpa using f
    rw[this];exact B
   ·have:b=it:=by simpa using f
    rw[this];exact⟨_,S⟩
  refine wpAny_letOwnedTupleGo_items S λh2 z2 s2=>?_;obtain⟨g0,g1,g2,g3,g4,g5⟩:=B;have I2:=Inv.turned I1 (t':=s.toks) (λb o f e=>(s2.2 b f).trans e) (by rw[aQ q];exact g0) g1 g3 g4 g5;refine⟨.ref s.heap.objs.size,_,I2,rfl,⟨_,kvs[i],fT,rfl,u,rfl⟩,⟨_,_,by rw[<-G];exact z2⟩,λb f=>?_⟩;have:b=it:=by simpa using f
  rw[this,aQ q];exact g0
 done:=by
  intro X J M N hc i r s σ H E I L a Z;subst J M N;obtain⟨k0,v0,a⟩:=a;obtain⟨f0,f1,f2,f3,f4,f5⟩:=L it (by simp);obtain⟨hd,D⟩:=Z;obtain⟨vs,j,od,a0,C,_,c,_,l,_⟩:=aBp g (I.hok d _ hd);have p:=(I.hok d _ hd).1;rw[p] at C;cases C;rw[g] at c;cases c;have G:es.size=kvs.length:=by rw[KV.length j,<-l.length,v7]
  rw[D,<-G] at a;exact aMu (I.ok.hd hc) a p g λY eb=>⟨rfl,I.turned (t':=s.toks) (λb o f e=>eb b o f e) f0 f1 f3 f4 f5⟩
 self:=λA i s Q E a h=>by obtain⟨k0,v0,a⟩:=a;have U:s.TypeIs (.ref it) "dict_itemiterator":=⟨_,a,rfl⟩;refine bEU U PySem.F.slot_dict_itemiterator_iter (bAH PySem.F.slot_dict_itemiterator_iter U PySem.aC3 ?_ (PySem.F.args_dict_itemiterator_iter_1 _));exact d8 ⟨_,rfl,"dict_itemiterator",_,U,PySem.F.slot_dict_itemiterator_next.lookup,h⟩
section
variable {X:Cx}
def aQz (te:TE):TI:=fun σ H R=>te σ H λv H1=>∃d kvs,v=.ref d/\H1 d=some (.dK kvs)/\(∀kv∈kvs,∃n,kv.1=Sum.inr n)/\(∀ob u,X.H₀ d≠some (.frz ob u))/\∀o,R (aNz d o kvs) (upd H1 d (.frz o (.dK kvs)))
def aGh {elts:List Expr}{kt:Nat}{tp apos cpos:Pos}{e:Expr}{te:TE}(h:VE X e te)(l:attributeBase e "items" X.env (eval e X.env)=eval e X.env:=by rfl)(p:(apos.endLine == cpos.line)=true:=by rfl) :
  VI X (.Tuple elts kt tp) (.Call (.Attribute e "items" apos) [] [] cpos) (aQz (X:=X) te):=⟨by
 intro f s σ H R I V;refine wpAny_Call_method0_late l p (thn (h.1 f s σ H _ I V) λv a ⟨x,t,i,P,E⟩=>?_);obtain⟨d,c,e,hd,M,J,q⟩:=E;subst e;cases P;obtain⟨z,L,K,k,⟨o,n,y,r,Q,m,U,g,S⟩⟩:=aFm i.hok hd;have C:n.size=c.length:=by rw[KV.length k,<-g.length,v7]
 have G:a.TypeIs (.ref d) "dict":=(show a.heap.DictOf (bJ X.prog X.w) d K from ⟨o,n,y,r,Q,m,U,g,S⟩).typeIs;obtain⟨B,N⟩:=aOc (T:="dict") i (show RelV (.ref d) (.ref d) from rfl) (.inr (.inr (.inl ⟨rfl,.inl ⟨c,hd⟩⟩)));refine⟨"dict","dict.items",PySem.F.plainAttrs_dict,PySem.F.slot_dict_items,PySem.F.type_dict_items,B,N,bDM rfl (PySem.evalArgs_none ?_)⟩;refine aWs L G ?_;have D:Inv X f σ (upd t d (.frz o (.dK c))) a:=i.setd hd (λ_ z=>by cases z) (λ_ z=>by cases z) (λ_ z=>by cases z) J ⟨r,i.hok d _ hd⟩;have j:Inv X f σ (upd t d (.frz o (.dK c))) { a with heap:=a.heap.push { cls:=.type "dict_items",data:=.fields #[.ref d] } }:=D.kept (t':=a.toks) λb o e=>d7 _ e;have u:(a.heap.push { cls:=.type "dict_items",data:=.fields #[.ref d] }).IsItemsView a.heap.objs.size d:=⟨_,j8 _ rfl,rfl,rfl⟩;have A:(a.heap.push { cls:=.type "dict_items",data:=.fields #[.ref d] }).get? d=some o:=d7 _ r;generalize a.heap.push { cls:=.type "dict_items",data:=.fields #[.ref d] }=hp at j u A ⊢;refine aKk (s:={ a with heap:=hp }) u A m ?_;refine⟨hp.objs.size,[hp.objs.size],_,_,_,rfl,j.kept (t':=a.toks) λb o e=>d7 _ e,aJl d _ o c n y m M,?_,λb O=>?_,q o⟩
 ·rw[<-C];exact⟨_,_,j8 _ rfl⟩
 ·have e:b=hp.objs.size:=by simpa using O
  subst e;exact j.aHp (d9 _) (j.hok.fresh (d9 _))⟩
end
def aOb {d:Addr}{o:Obj}{kvs:List (Key × V)}{g:TG}{tb:TS}{D:Ends}{σ:L2.St}{H:Hp}(b:Nat->L2.St->Hp->Prop)(j:b 0 σ H)(c:∀i σ H,i<=kvs.length->b i σ H->H d=some (.frz o (.dK kvs)))
  (f:∀i kv T σ H,kvs[i]?=some kv->b i σ H->H T=none->g (.ref T) σ (upd H T (.tup [kV kv.1,kv.2])) fun σ2 H2=>tb { D with nx:=b (i+1),ct:=b (i+1),bk:=D.nx } σ2 H2) (hd:∀σ H,b kvs.length σ H->D.nx σ H) :
  ∃W:Nat->Nat->L2.St->Hp->Prop,(∃m,W 0 m σ H)/\∀i m σ H,W i m σ H ->
   ((aNz d o kvs).stop i H/\D.nx σ H)\/((aNz d o kvs).go i H/\∃N:L2.St->Hp->Prop,(∀σ' H',N σ' H'->∃m',m'<m/\W (i+1) m' σ' H')/\∀x H',(aNz d o kvs).yld i H x H'->g x σ H' fun σ2 H2=>tb { D with nx:=N,ct:=N,bk:=D.nx } σ2 H2):=by
 refine⟨λi m σ H=>m=kvs.length - i/\i<=kvs.length/\b i σ H,⟨kvs.length,by simp,bAE _,j⟩,?_⟩;rintro i m σ H ⟨rfl,hi,p⟩;have q:=c i σ H hi p;by_cases a:i<kvs.length
 ·right;refine⟨⟨q,a⟩,b (i+1),fun σ' H' h=>⟨kvs.length - (i+1),by lia,rfl,by lia,h⟩,?_⟩;rintro x H' ⟨T,kv,hT,rfl,hkv,rfl⟩;exact f i kv T σ H hkv p hT
 ·left;have e:i=kvs.length:=by lia
  subst e;exact⟨⟨q,rfl⟩,hd σ H p⟩
def bC9 (X:Cx)(t:TE):TE:=fun σ H Q=>∃d kvs,H d=some (.dK kvs)/\((∀ob u,X.H₀ d≠some (.frz ob u))->t σ H λv H'=>(∃o,H' d=some (.frz o (.dK kvs)))/\Q v (upd H' d (.dK kvs)))
def aQw (h:VE X e t):VE X e (bC9 X t):=⟨by
 intro b s σ H Q I ⟨d,i,hd,q⟩;have f:∀a u,X.H₀ d≠some (.frz a u):=λa u e=>by have:=I.base.frzs d a u e;rw[hd] at this;cases this
 refine thn (h.1 b s σ H _ I (q f)) λu k ⟨v,l,g,r,⟨o,c⟩,j⟩=>?_;exact⟨v,_,g.setd c (λ_ z=>by cases z) (λ_ z=>by cases z) (λ_ z=>by cases z) f (g.hok d _ c).2,r,j⟩⟩
def aLe {K:bFZ}{d:Addr}{o:Obj}{kvs:List (Key × V)}{H:Hp}{w:L2.St}{te:TE}{Q:VK}(hd:H d=some (.frz o (.dK kvs)))(B:Ps2 w w)(hsz:kvs.length<=1000)
  (Rel:Addr->Nat->Hp->V->Prop) (E:∀{D i H1 H2 y},Same H1 H2->Rel D i H1 y->Rel D i H2 y) (s:∀{D i H1 ys zs y},H1 D=some (.lst ys)->Rel D i H1 y->Rel D i (L2.upd H1 D (.lst zs)) y)
  (v:∀(i:Nat) (kv:Key × V),kvs[i]?=some kv->∀H' R D ys,Same H H'->H D=none->H' D=some (.lst ys)->(∀y H2,Same H' H2->Rel D i H2 y->R y H2)->te ((w.set 0 (some (kV kv.1))).set 1 (some kv.2)) H' R)
  (q:∀D H' ys,Same H H'->H D=none->H' D=some (.lst ys)->ys.length=kvs.length->(∀i y,ys[i]?=some y->Rel D i H' y)->Q (.ref D) H'):oG (aNz d o kvs) H w (aPc K 2 (uF (bR 0) (uF (bR 1) aRq))) mG te Q:=by
 intro D g;refine⟨λi m p H' ys=>m=kvs.length - i/\i<=kvs.length/\Same H H'/\H' D=some (.lst ys)/\ys.length=i/\Ps2 w p/\∀j y,ys[j]?=some y->Rel D j H' y,⟨kvs.length,by simp,bAE _,aZ g _,aG,rfl,B,λj y e=>by cases e⟩,?_⟩;rintro i m p H' ys ⟨rfl,hi,sm,gD,ly,hps,hr⟩;refine⟨gD,?_⟩;by_cases h:i<kvs.length
 ·right;refine⟨⟨sm _ _ hd,h⟩,?_⟩;rintro x H2 ⟨T,kv,hT,rfl,hkv,rfl⟩;have f:Same H' (L2.upd H' T (.tup [kV kv.1,kv.2])):=aZ hT _;refine hg2 (SqT.of aG) hps fun A c n=>?_;have b:=n;subst b;dsimp only[mG];rw[if_pos rfl];refine v i kv hkv _ _ D ys (sm.trans f) g (f _ _ gD) λy C k r=>?_;have a:=k _ _ (f _ _ gD);have l:=sm.trans (f.trans k);refine⟨a,bBY (show ys.length<=1000 by lia) (by decide),kvs.length - (i+1),by lia,rfl,by lia,gJ g l,aG,by rw[v9,ly];rfl,c,λj z e=>?_⟩;by_cases t:j<ys.length
  ·rw[bBD t] at e;exact s a (E (f.trans k) (hr j z e))
  ·rw[bBA (by lia)] at e;have u:j - ys.length=0:=by have:=(List.getElem?_eq_some_iff.mp e).1;simpa using this
   rw[u] at e;cases e;have:j=i:=by lia
   rw[this];exact s a r
 ·left;have e:i=kvs.length:=by lia
  subst e;exact⟨⟨sm _ _ hd,rfl⟩,q D H' ys sm g gD ly hr⟩
def aTo {X:Cx}{scope:Scope}{N:List Str}{tl:TE}{te:TE}{tt:TT}{g:TG}{σ:L2.St}{H:Hp}{Q:VK}(b:L2.St)(a:Cap X scope N σ b)(h:tl σ H λv H1=>∃d kvs,v=.ref d/\H1 d=some (.dK kvs)/\(∀kv∈kvs,∃n,kv.1=Sum.inr n)/\(∀ob u,X.H₀ d≠some (.frz ob u))/\∀o,oG (aNz d o kvs) (upd H1 d (.frz o (.dK kvs))) b g tt te Q):jB X scope N (aQz (X:=X) tl) g tt te σ H Q:=⟨b,a,h⟩
def aZn:List V->Hp->VK->Prop:=λxs H Q=>∃d kvs,xs=[.ref d,.ty "dict"]/\H d=some (.dK kvs)/\Q (.bl true) H
def aKo:cF X (.builtin "isinstance") aZn:=by intro j s σ H k l Q I r h;obtain⟨d,b,rfl,hd,q⟩:=h;obtain⟨u,v,rfl,c,i⟩:=r.two;obtain rfl:v=Value.type "dict":=i;obtain rfl:u=Value.ref d:=c;obtain⟨z,n,m,e,a⟩:=aFm I.hok hd;obtain⟨o,f,g⟩:=(show s.TypeIs (.ref d) "dict" from a.typeIs);exact call_isinstance (isinstance_true F.isi_meta_dict F.isi_self_dict) ⟨⟨o,f,g⟩,⟨.bl true,H,I,rfl,q⟩⟩
def bBh (K:bFZ):List V->Hp->VK->Prop:=λxs H Q=>∃t us kvs,xs=[.ref t]/\H t=some (.lst us)/\aL9 K H us kvs/\us.length<=1000/\∀p H',H p=none->Same H H'->H' p=some (.dK (pF [] kvs))->Q (.ref p) H'
def aOv (E:X.calm=true):cF X (.type "dict") (bBh X.K):=by intro l s σ H G A Q I r h;obtain⟨t,A,a,rfl,g,y,M,q⟩:=h;obtain⟨u,rfl,o⟩:=vals1 r;cases o;obtain⟨F,m,n,b,k⟩:=I.hok t _ g;have C:=b.length;obtain⟨J,d,x,p⟩:=aU2 I y b;have D:=KV.length d;refine vW true (I.ok.hd E) k rfl rfl rfl (by rw[j6];exact x) (by rw[j6];lia) (λj v i e w=>p j v i (by simpa using e) w) λL f hd z=>?_;have c:=I.hok.fresh (d9 _);refine⟨.ref s.heap.objs.size,_,I.laid (t':=f) z (d9 _) ?_,rfl,q _ _ c (aZ c _) aG⟩;have B:=nO a [];simp only[bCQ] at B;exact⟨small (by lia),beq_eq_false_iff_ne.mpr (Ne.symm (z9 I.big)),_,KV.merge d .nil,hd⟩
end L2
namespace My
open PySem PySem.Spec PyProof.Rows L2
section
variable {P:Program}{w:World}{K:bFZ}{mg:bF2}{base:Heap}
def aZ9 (k:Str):Bool:=decide (k = "number")
def knds (hd:Hdr):List Bool:=hd.map λc=>aZ9 c.2
def aK3 (h:X.K=K:=by rfl):cF X (.builtin "sorted") (aNb K):=by subst h;exact eY
def aKv (h:X.K=K:=by rfl):cF X (.type "list") (aUk K):=by subst h;exact pJ
def none_of (e:Same H H')(h:H' D=none):H D=none:=by
 cases g:H D with
 |none=>rfl
 |some o=>rw[e _ _ g] at h;cases h
def But (d:Addr)(H H':Hp):Prop:=∀b o,b≠d->H b=some o->H' b=some o
section
variable {K:bFZ}{H H':Hp}{d:Addr}
def dH (H:Hp)(d:Addr):Prop:=(∀xs,H d≠some (.tup xs))/\(∀ob xs,H d≠some (.frz ob (.tup xs)))/\∀xs,H d≠some (.lst xs)
def dH.dK (h:H d=some (.dK kvs)):dH H d:=⟨λ_ z=>(by rw[h] at z;cases z),λ_ _ z=>(by rw[h] at z;cases z),λ_ z=>(by rw[h] at z;cases z)⟩
def dH.fz (h:H d=some (.frz o (.dK kvs))):dH H d:=⟨λ_ z=>(by rw[h] at z;cases z),λ_ _ z=>(by rw[h] at z;cases z),λ_ z=>(by rw[h] at z;cases z)⟩
def But.aP (b:But d H H')(hd:dH H d)(h:SqT K H a xs):SqT K H' a xs:=by
 rcases h with (h|⟨o,h⟩)|h
 ·exact .inl (.inl (b _ _ (λz=>hd.1 _ (z ▸ h)) h))
 ·exact .inl (.inr ⟨o,b _ _ (λz=>hd.2.1 _ _ (z ▸ h)) h⟩)
 ·exact .inr h
def But.lst (b:But d H H')(hd:dH H d)(h:H a=some (.lst xs)):H' a=some (.lst xs):=b _ _ (λz=>hd.2.2 _ (z ▸ h)) h
def But.hdr (b:But d H H')(hd:dH H d)(h:mF K H v hr):mF K H' v hr:=by obtain⟨a,g,rfl,f,i⟩:=h;exact⟨a,g,rfl,b.aP hd f,i.imp λ_ _ ⟨p,e,c⟩=>⟨p,e,b.aP hd c⟩⟩
theorem But.pl {v:V}{pl:Plc}(b:But d H H')(hd:dH H d)(h:jZ K H v pl):jZ K H' v pl:=by
 cases pl with
 |copies=>obtain⟨a,rfl,f⟩:=h;exact⟨a,rfl,b.aP hd f⟩
 |keys n=>obtain⟨a,rfl,f⟩:=h;exact⟨a,rfl,b.aP hd f⟩
 |spans n h0 cs=>obtain⟨a,l,rfl,f,⟨c,i,rfl,k,j⟩⟩:=h;exact⟨a,_,rfl,b.aP hd f,c,i,rfl,b.aP hd k,j.imp λ_ _ ⟨p,e,g⟩=>⟨p,e,b.aP hd g⟩⟩
def But.rows (b:But d H H')(hd:dH H d)(h:bN K H L rs):bN K H' L rs:=by obtain⟨f,c,g⟩:=h;exact⟨f,b.lst hd c,g.imp λ_ _ ⟨p,e,a⟩=>⟨p,e,b.aP hd a⟩⟩
def But.tb (b:But d H H')(hd:dH H d)(h:jU K H v vh vp L t):jU K H' v vh vp L t:=by obtain⟨a,rfl,f,e,g,c⟩:=h;exact⟨a,rfl,b.aP hd f,b.hdr hd e,b.pl hd g,b.rows hd c⟩
def But.upd:But d H (L2.upd H d u):=λb o a h=>by rw[aQ a];exact h
def But.same (b:But d H H')(s:Same H' H2):But d H H2:=λc o a h=>s _ _ (b c o a h)
def But.thaw (b:But d H H2)(hd:H d=some (.dK kvs)):Same H (L2.upd H2 d (.dK kvs)):=λc o h=>by
 by_cases e:c=d
 ·rw[e,aG,<-hd,<-e];exact h
 ·rw[aQ e];exact b c o e h
end
structure En where
 n:Str
 v:V
 vh:V
 vp:V
 L:Addr
 t:Tb
def enK (es:List En):List (Key × V):=es.map λe=>(Sum.inr e.n,e.v)
structure gY (K:bFZ)(H:Hp)(d:Addr)(es:List En):Prop where
 at_:H d=some (.dK (enK es))
 nd:(es.map (·.n)).Nodup
 few:es.length<=60
 nm:∀e∈es,Nm e.n
 tb:∀e∈es,jU K H e.v e.vh e.vp e.L e.t
def jU.same (s:Same H H')(h:jU K H v vh vp L t):jU K H' v vh vp L t:=by obtain⟨a,rfl,d,c,e,b⟩:=h;exact⟨a,rfl,s.aP d,c.same s,e.same s,b.same s⟩
def gY.same (s:Same H H')(h:gY K H d es):gY K H' d es:=⟨s _ _ h.at_,h.nd,h.few,h.nm,λe a=>(h.tb e a).same s⟩
def aNs {es:List En}{i:Nat}{kv:Key × V}(h:(enK es)[i]?=some kv):∃e,es[i]?=some e/\kv=(Sum.inr e.n,e.v):=by unfold enK at h;rw[v5] at h;obtain⟨e,a,rfl⟩:=Option.map_eq_some_iff.mp h;exact⟨e,a,rfl⟩
def aI3:∀kv∈enK es,∃n,kv.1=Sum.inr n:=λkv h=>by unfold enK at h;obtain⟨e,_,rfl⟩:=List.mem_map.mp h;exact⟨_,rfl⟩
def mU:(enK es).length=es.length:=j4 _
inductive aQc (K:bFZ)(Pt:Addr)(vs:List V)(H:Hp)(Q:VK)(E_:XK):Prop
 |mk (d:Addr) (m:Int) (es:List En) (_:vs=[.int m,.ref d]) (_:1<=m) (_:m<=6) (_:gY K H d es) (_:(∀e∈es,jR m e.t)) (_:H Pt=some (.tab qC)) (_:∀H',Same H H'->Q .non H')
def aIi (T:Txt w K mg){Pt:Addr}(eX:Ok P w K mg base 1 "is_whole" o6 (oF K))(jE:Ok P w K mg base 2 "is_name" o6 (aEr K nameB))(M:Ok P w K mg base 8 "is_table" bQD (aZ8 K Pt)):Ok P w K mg base 9 "need_town" bQB (aQc K Pt):=by
 refine Ok.ofV T.aJa vZ (by trivial) (λf Y A F s H vs Q E hr h=>?_)
 obtain⟨d,m,e,rfl,S,N,b,k,l,q⟩:=h;have nd:=vZ.nd;refine⟨_,(aC (bO (VW.pt (fG (cL (cC (aV eX (va1 (vv 0))))) (fG (cL (aCm aDe aDe aB (vv 0) (rN (by rfl) T.aEz))) (eE (cL (cC (aK aKo (by rfl) T.bZ bQ (aH (vv 1) (va1 (fK (v:=.ty "dict") (by rfl) T.aOy aI5 rfl)))))))))) (aD dR) aW) (aD (aQi (gG PassesOwn.never rfl (aGh (vv 1)) (uZ rfl (bC (cZ 2) (bC (cZ 3) fP))) (aD (bO (VW.pt (fG (cL (cC (aV jE (va1 (vv 2))))) (eE (cL (cC (aV M (aH (vv 3) (va1 (vv 0))))))))) (aD dR) aW)))))),?_⟩;refine⟨_,rfl,_,rfl,.inr (.inl ⟨m,rfl⟩),_,rfl,cB ?_⟩;refine⟨_,rfl,_,_,rfl,rfl,_,rfl,?_⟩;rw[m9 S];refine fB ⟨_,_,rfl,rfl,_,rfl,?_⟩;rw[m9 N];refine cB ⟨_,rfl,d,_,rfl,b.at_,_,rfl,cB ?_⟩;refine⟨d,enK e,b.at_,λO=>⟨_,rfl,d,_,rfl,b.at_,aI3,O,λo=>?_⟩⟩;have y:Pt≠d:=λz=>by rw[z,b.at_] at l;cases l
 have u:But d H (L2.upd H d (.frz o (.dK (enK e)))):=But.upd;have D:L2.upd H d (.frz o (.dK (enK e))) d=some (.frz o (.dK (enK e))):=aG;generalize L2.upd H d (.frz o (.dK (enK e)))=B at u D ⊢;refine aOb (λi σ c=>Same B c/\∃C x,σ=[some (.int m),some (.ref d),C,x]) ⟨Same.refl B,_,_,rfl⟩ (λi σ c _ p=>p.1 _ _ D) (λi Z r σ c V p X=>?_) fun σ c p=>?_
 ·obtain⟨g,C,x,rfl⟩:=p;obtain⟨a,U,rfl⟩:=aNs V;have j:=v4 U;have G:Same c (L2.upd c r (.tup [kV (Sum.inr a.n),a.v])):=aZ X _;have W:But d H (L2.upd c r (.tup [kV (Sum.inr a.n),a.v])):=(u.same g).same G;refine⟨r,_,rfl,SqT.of aG,rfl,_,_,rfl,_,_,rfl,rfl,?_⟩;refine⟨_,rfl,_,rfl,(b.nm a j).th,λH2 I=>⟨_,rfl,?_⟩⟩;rw[show nameB (kV (Sum.inr a.n,a.v).fst)=true from b.nm a j];refine cB ?_;have J:=W.same I;refine⟨_,rfl,_,rfl,a.v,a.vh,a.vp,a.L,m,a.t,rfl,J.tb (dH.dK b.at_) (b.tb a j),k a j,J _ _ y l,λH3 R=>⟨_,rfl,cB ?_⟩⟩;exact⟨g.trans (G.trans (I.trans R)),_,_,rfl⟩
 ·obtain⟨g,C,x,rfl⟩:=p;exact⟨⟨o,g _ _ D⟩,q _ ((u.same g).thaw b.at_)⟩
def aOh (e:En)(v:V)(L:Addr):En:={ e with v:=v,L:=L,t:={ e.t with rows:=srt e.t.rows } }
inductive aAg (K:bFZ)(Pt:Addr)(vs:List V)(H:Hp)(Q:VK)(E_:XK):Prop
 |mk (d:Addr) (m:Int) (es:List En) (_:vs=[.int m,.ref d]) (_:1<=m) (_:m<=6) (_:gY K H d es) (_:(∀e∈es,jR m e.t)) (_:H Pt=some (.tab qC)) (_:∀d' H' es',H d'=none->Same H H'->gY K H' d' es'->bW (λe e'=>∃v L,e'=aOh e v L/\H L=none) es es'->Q (.ref d') H')
def bDm (h:bM kd v):KdV (aZ9 kd) v:=by
 cases h with
 |num=>exact⟨_,rfl⟩
 |wrd _ _=>exact⟨_,rfl⟩
def gU (h:jA hd r):KdR (knds hd) r:=by
 unfold jA at h;unfold KdR knds
 induction h with
 |nil=>exact .nil
 |cons a _ ih=>exact .cons (bDm a) ih
def iT (h:Good hd):knds hd≠[]:=λz=>by have e:=congrArg List.length z;unfold knds at e;rw[j4] at e;have:=h.2.1;rw[e] at this;exact absurd this (by decide)
def cN {α β:Type}{R:α->β->Prop}{as:List α}{bs:List β}(h:bW R as bs):Al2 R as bs:=by
 induction h with
 |nil=>exact .nil
 |cons r _ ih=>exact .cons r ih
def fV {α β:Type}{R:α->β->Prop}{as:List α}{bs:List β}(h:Al2 R as bs):bW R as bs:=by
 induction h with
 |nil=>exact .nil
 |cons r _ ih=>exact .cons r ih
def PlR (K:bFZ)(H0:Hp)(es:List En)(D:Addr)(i:Nat)(H:Hp)(y:V):Prop:=∃e v L tp,es[i]?=some e/\y=.ref tp/\SqT K H tp [.str e.n,v]/\jU K H v e.vh e.vp L { e.t with rows:=srt e.t.rows }/\L≠D/\H0 L=none
def jU.jO (f:H D=some (.lst ys))(x:L≠D)(h:jU K H v vh vp L t):jU K (L2.upd H D (.lst zs)) v vh vp L t:=by
 obtain⟨a,rfl,q,⟨b,m,rfl,r,l⟩,i,⟨u,o,w⟩⟩:=h;refine⟨a,rfl,SqT.jO f q,⟨b,m,rfl,SqT.jO f r,l.imp λ_ _ ⟨p,e,j⟩=>⟨p,e,SqT.jO f j⟩⟩,?_,⟨u,by rw[aQ x];exact o,w.imp λ_ _ ⟨p,e,j⟩=>⟨p,e,SqT.jO f j⟩⟩⟩;cases g:t.pl with
 |copies=>rw[g] at i;obtain⟨k,rfl,d⟩:=i;exact⟨k,rfl,SqT.jO f d⟩
 |keys n=>rw[g] at i;obtain⟨k,rfl,d⟩:=i;exact⟨k,rfl,SqT.jO f d⟩
 |spans n h0 cs=>rw[g] at i;obtain⟨k,y,rfl,d,⟨c,m,rfl,s,l⟩⟩:=i;exact⟨k,_,rfl,SqT.jO f d,c,m,rfl,SqT.jO f s,l.imp λ_ _ ⟨p,e,j⟩=>⟨p,e,SqT.jO f j⟩⟩
def aXu:∀{ys:List V},ys.length=es.length->(∀i y,ys[i]?=some y->PlR K H0 es D i H y) ->
  ∃es',bW (λe e'=>∃v L,e'=aOh e v L/\H0 L=none) es es'/\bW (λy e'=>∃tp,y=.ref tp/\SqT K H tp [.str e'.n,e'.v]) ys es'/\∀e'∈es',jU K H e'.v e'.vh e'.vp e'.L e'.t:=by
 induction es with
 |nil=>intro ys a _;cases bAQ a;exact⟨[],.nil,.nil,λe h=>by cases h⟩
 |cons en es ih=>
  intro ys a h;cases ys with
  |nil=>cases a
  |cons y ys=>
   obtain⟨es',j,l,k⟩:=ih (Nat.succ.inj a) λi y g=>by obtain⟨e,v,L,tp,b,r⟩:=h (i+1) y (by simpa using g);exact⟨e,v,L,tp,by simpa using b,r⟩
   obtain⟨e,v,L,tp,b,rfl,c,f,_,d⟩:=h 0 y rfl;cases b;refine⟨aOh en v L::es',.cons ⟨v,L,rfl,d⟩ j,.cons ⟨tp,rfl,c⟩ l,λe' h'=>?_⟩;rcases List.mem_cons.mp h' with rfl|h'
   ·exact f
   ·exact k e' h'
def bAj (h:bW (λy (e':En)=>∃tp,y=.ref tp/\SqT K H tp [.str e'.n,e'.v]) ys es'):aL9 K H ys (enK es'):=by
 unfold enK
 induction h with
 |nil=>exact .nil
 |cons r _ ih=>exact .cons r ih
def aL4 {H0:Hp}{es es':List En}(h:bW (λe e'=>∃v L,e'=aOh e v L/\H0 L=none) es es'):es'.map (·.n)=es.map (·.n):=by
 induction h with
 |nil=>rfl
 |cons r _ ih=>obtain⟨v,L,rfl,_⟩:=r;rw[bAF,bAF,ih];rfl
def zJ (T:Txt w K mg){Pt:Addr}(ad:Ok P w K mg base 9 "need_town" bQB (aQc K Pt)):Ok P w K mg base 10 "placed_tables" bQB (aAg K Pt):=by
 refine Ok.ofV T.aBm aAf (by trivial) (λf ab A a6 s H vs Q E hr h=>?_)
 obtain⟨d,m,c,rfl,m1,m6,O,U,hP,q⟩:=h;refine⟨_,(aC (cM (aV ad (aH (vv 0) (va1 (vv 1))))) (aD (aM (cI (aOv rfl) (by rfl) T.aOy aI5 (va1 (aQw (cJ (N:=["name","table"]) ck iM rfl (aGh (vv 1)) (λcl s' u fp=>⟨(tG (K:=K) (n:=2) rfl (bC (fZ 0) (bC (fZ 1) fP))),fH,(bY (aH (vv 0) (va1 (bY (aH (aR (bL (K:=K)) (vv 1) aB) (aH (aR (bL (K:=K)) (vv 1) aB) (va1 (aK (aK3 (K:=K)) (by rfl) T.eO dG (va1 (aR (bL (K:=K)) (vv 1) aB))))))))))⟩)))))))),?_⟩;refine⟨_,rfl,_,rfl,d,m,c,rfl,m1,m6,O,U,hP,λF W=>?_⟩;have g:=O.same W;dsimp only[pZ,tCB,dZ];refine⟨d,enK c,g.at_,λnf=>aTo [none,none] tO ⟨_,rfl,d,_,rfl,g.at_,aI3,nf,λo=>?_⟩⟩;have b0:But d F (L2.upd F d (.frz o (.dK (enK c)))):=But.upd;have g0:L2.upd F d (.frz o (.dK (enK c))) d=some (.frz o (.dK (enK c))):=aG;have n0:∀b,L2.upd F d (.frz o (.dK (enK c))) b=none->F b=none:=λb h=>by
  by_cases e:b=d
  ·rw[e,aG] at h;cases h
  ·rw[aQ e] at h;exact h
 generalize L2.upd F d (.frz o (.dK (enK c)))=B at b0 g0 n0 ⊢;refine aLe g0 ⟨none,none,rfl⟩ (by rw[mU];have:=O.few;lia) (PlR K H c) ?_ ?_ (λi kv ek u R D ys I hD M r=>?_) λD u ys I hD M ly hy=>?_
 ·rintro D i H2 H3 y X ⟨e,v,L,l,J,rfl,Y,hb,hne⟩;exact⟨e,v,L,l,J,rfl,X.aP Y,hb.same X,hne⟩
 ·rintro D i H2 ys zs y M ⟨e,v,L,l,J,rfl,Y,hb,hne,h0⟩;exact⟨e,v,L,l,J,rfl,SqT.jO M Y,hb.jO M hne,hne,h0⟩
 ·obtain⟨S,J,rfl⟩:=aNs ek;have hm:=v4 J;have j:=U S hm;obtain⟨a,ev,ha,h1,h2,⟨us,h3,h4⟩⟩:=(b0.same I).tb (dH.dK g.at_) (g.tb S hm);have lu:=h4.len;have ac:=j.few;refine⟨_,rfl,_,rfl,a,_,0,_,ev,rfl,ha,at0 _ _,_,rfl,a,_,1,_,ev,rfl,ha,at1 _ _ _,_,rfl,a,_,2,_,ev,rfl,ha,at2 _ _ _ _,S.L,us,S.t.rows,knds S.t.hd,rfl,SqL.of h3,cN h4,by lia,iT j.hd.1,λr a5=>gU (j.rows r a5),λL' H2 a9 V X g2 h5=>?_⟩;refine⟨by show 3<=sizeLine;decide,λt1 H3 _ s3 g3=>⟨by show 2<=sizeLine;decide,λt2 H4 _ s4 g4=>r _ H4 (X.trans (s3.trans s4)) ?_⟩⟩;have G:=X.trans (s3.trans s4);refine⟨S,.ref t1,L',t2,J,rfl,SqT.of g4,⟨t1,rfl,s4.aP (SqT.of g3),h1.same G,h2.same G,⟨a9,(s3.trans s4) _ _ g2,(fV h5).imp λ_ _ z=>z.same G⟩⟩,λz=>?_,none_of W (n0 _ (none_of I V))⟩;rw[z,M] at V;cases V
 ·rw[mU] at ly;obtain⟨k,a1,a2,a3⟩:=aXu ly hy;have bD:=b0.same I;refine⟨⟨o,I _ _ g0⟩,?_⟩;have nz:dH u d:=dH.fz (I _ _ g0);have bz:But d u (L2.upd u d (.dK (enK c))):=But.upd;have C:Same F (L2.upd u d (.dK (enK c))):=bD.thaw g.at_;have a0:=bz.lst nz M;have Z:bW (λy (x:En)=>∃l,y=.ref l/\SqT K (L2.upd u d (.dK (enK c))) l [.str x.n,x.v]) ys k:=a2.imp λy x ⟨l,ey,Y⟩=>⟨l,ey,bz.aP nz Y⟩;have aa:H D=none:=none_of W (n0 _ hD);generalize L2.upd u d (.dK (enK c))=H5 at bz C a0 Z;have le:=a2.len;have la:=a1.len;have fw:=O.few;refine⟨D,ys,enK k,rfl,a0,bAj Z,by lia,λp H6 V s6 g6=>?_⟩;have a4:(k.map (·.n)).Nodup:=by rw[aL4 a1];exact O.nd
  have a7:((enK k).map (·.1)).Nodup:=by unfold enK;rw[bBW];exact List.pairwise_map.mpr ((List.pairwise_map.mp a4).imp λ{a b} a8 z=>a8 (Sum.inr.inj z))
  rw[uU _ [] (by rw[bCX];exact a7),bCX] at g6;refine q p H6 k (none_of W (none_of C V)) (W.trans (C.trans s6)) ⟨g6,a4,by lia,λx h'=>?_,λx h'=>(bz.tb nz (a3 x h')).same s6⟩ a1;have:x.n∈c.map (·.n):=by rw[<-aL4 a1];exact bAT h'
  obtain⟨e0,h0,e1⟩:=List.mem_map.mp this;rw[<-e1];exact O.nm e0 h0
end
end My
namespace L2
open PySem PySem.Spec PyProof.Rows
def aCp (xs:List V)(p:Nat->Bool)(j:L2.St)(hsz:xs.length<=sizeLine)(w:∀H' i x,Same H H'->xs[i]?=some x->J.go i H'/\∀y H2,J.yld i H' y H2->H2=H'/\y=x)(h:∀H',Same H H'->J.stop xs.length H')
  (A:∀(i:Nat) (x:V),xs[i]?=some x->∀H' R l,Same H H'->(∀H2,Same H' H2->R (p i) H2)->tt ((j.set 0 l).set 0 (some x)) H' R) (r:j[0]?=some none)
  (q:∀D H',H D=none->Same H H'->H' D=some (.lst (sel p 0 xs))->Q (.ref D) H'):oG J H j (bR 0) tt (aKf 0) Q:=by
 intro D f;refine⟨λi m n H' d=>i<=xs.length/\m=xs.length - i/\(∃l,n=j.set 0 l)/\Same H H'/\H' D=some (.lst d)/\d=sel p 0 (xs.take i),⟨xs.length,bAE _,rfl,⟨none,lG r⟩,aZ f _,aG,rfl⟩,?_⟩;rintro i m n H' d ⟨hi,rfl,⟨l,rfl⟩,sm,hL,rfl⟩;refine⟨hL,?_⟩;by_cases a:i<xs.length
 ·right;obtain⟨v,s⟩:=w H' i xs[i] sm (b8 a);refine⟨v,λx H2 t=>?_⟩;obtain⟨rfl,rfl⟩:=s x H2 t;unfold bR;dsimp only;have u:0<j.length:=by
   by_cases z:0<j.length
   ·exact z
   ·rw[bAD (by lia)] at r;cases r
  have g:sel p 0 (xs.take (i+1))=sel p 0 (xs.take i)++(if p i then [xs[i]] else []):=by rw[bBH,b8 a];show sel p 0 (xs.take i++[xs[i]])=_;rw[aB6,bAC,bDA,Nat.min_eq_left (bDI a)]
  refine A i xs[i] (b8 a) _ _ l sm λB c=>?_;cases k:p i with
  |true=>
   rw[if_pos rfl];refine⟨xs[i],by rw[bCF,bEL u],c _ _ hL,?_,xs.length - (i+1),by lia,a,rfl,⟨some xs[i],by rw[bCF]⟩,?_,aG,?_⟩
   ·have:=aHy p 0 (xs.take i);rw[bAC] at this;lia
   ·intro b o e;rw[aQ (aL e f)];exact c _ _ (sm _ _ e)
   ·rw[g,k];rfl
  |false=>rw[if_neg (by simp)];refine⟨c _ _ hL,xs.length - (i+1),by lia,a,rfl,⟨some xs[i],by rw[bCF]⟩,sm.trans c,c _ _ hL,?_⟩;rw[g,k];simp
 ·left;have e:i=xs.length:=by lia
  subst e;refine⟨h _ sm,?_⟩;rw[bCA] at hL;exact q D _ f sm hL
def aAb (xs:List V)(p:Nat->Bool)(b:L2.St)(a:Cap X scope N σ b)(c:xs.length<=sizeLine)
  (d:∀R:It->Hp->Prop,(∀J:It,(∀H' i x,Same H H'->xs[i]?=some x->J.go i H'/\∀y H2,J.yld i H' y H2->H2=H'/\y=x)->(∀H',Same H H'->J.stop xs.length H')->R J H)->wi σ H R)
  (e:∀(i:Nat) (x:V),xs[i]?=some x->∀H' R l,Same H H'->(∀H2,Same H' H2->R (p i) H2)->tt ((b.set 0 l).set 0 (some x)) H' R) (f:b[0]?=some none)
  (q:∀D H',H D=none->Same H H'->H' D=some (.lst (sel p 0 xs))->Q (.ref D) H') :
  jB X scope N wi (bR 0) tt (aKf 0) σ H Q:=
 ⟨b,a,d _ λJ go stop=>aCp xs p b c go stop e f q⟩
end L2
namespace My
open PySem PySem.Spec PyProof.Rows L2
section
variable {P:Program}{w:World}{K:bFZ}{mg:bF2}{base:Heap}
def bAx:R2:=λx y H Q=>(∃a b,x=.int a/\y=.int b/\Q (.bl (!decide (b<a))) H)\/∃a b:Str,x=.str a/\y=.str b/\Q (.bl (!decide (b.cps.toList<a.cps.toList))) H
theorem aVj:OpR X (compareOp .LtE) bAx:=by
 intro f s σ H x y v u Q I c d h;rcases h with⟨a,b,rfl,rfl,q⟩|⟨a,b,rfl,rfl,q⟩
 ·obtain⟨t,rfl⟩:=c;obtain⟨e,rfl⟩:=d;refine PyProof.Rows.le_int ?_;rw[show decide (a<=b)=!decide (b<a) by by_cases h:b<a <;> simp[h] <;> lia];exact⟨.bl _,H,I,rfl,q⟩
 ·obtain⟨t,rfl⟩:=c;obtain⟨e,rfl⟩:=d;exact P.le_str ⟨.bl _,H,I,rfl,q⟩
def aSk (g:Gl X "range")(f:X.mg "range"=none)(e:VA X [a,b] t)(d:cW a=true:=by rfl)(c:cW b=true:=by rfl):VI X tg (.Call (.Name "range" p) [a,b] [] pos) (aZ0 t):=⟨aR6 g f e.1 (by rw[aU d,aU c];rfl) (by rw[aU c];rfl)⟩
inductive pM (K:bFZ)(vs:List V)(H:Hp)(Q:VK)(E_:XK):Prop
 |mk (d:Addr) (es:List En) (e:En) (_:vs=[.ref d,.str e.n]) (_:gY K H d es) (_:e∈es) (_:∀H',Same H H'->Q e.v H')
theorem tQ:∀{es:List En} {e:En},(es.map (·.n)).Nodup->e∈es->fQ (enK es) (Sum.inr e.n)=some e.v
 |[],e,nd,h=>by cases h
 |a::es,e,nd,h=>by
  rw[bAF,bFH] at nd;rcases List.mem_cons.mp h with rfl|h
  ·exact dC rfl
  ·have:a.n≠e.n:=λz=>nd.1 (z ▸ bAT h);show fQ ((Sum.inr a.n,a.v)::enK es) (Sum.inr e.n)=_;rw[cU (λz=>this (Sum.inr.inj z))];exact tQ nd.2 h
def aLi (T:Txt w K mg)(p:Ok P w K mg base 2 "is_name" o6 (aEr K nameB)):Ok P w K mg base 3 "table_in" z8 (pM K):=by
 refine Ok.ofV T.aO8 aMn (by trivial) (λf m A c s H r Q E l h=>?_)
 obtain⟨d,o,e,rfl,a,b,q⟩:=h;have i:=mC l;refine⟨_,(aC (bO (VW.pt (fG (cL (cC (aV p (va1 (vv 1))))) (eE (aE8 i (vv 1) (vv 0))))) (aD dR) aW) (aD (aM (iK i (vv 0) (vv 1) (λ_ _=>rfl))))),?_⟩;refine⟨_,rfl,_,rfl,(a.nm e b).th,λk g=>⟨_,rfl,?_⟩⟩;rw[show nameB (.str e.n)=true from a.nm e b];refine cB ?_;have j:=tQ a.nd b;refine⟨_,rfl,_,rfl,d,_,rfl,.inl ⟨_,Sum.inr e.n,.inl (g _ _ a.at_),rfl,rfl⟩,_,rfl,?_⟩;rw[j];refine cB ?_;exact⟨_,rfl,_,rfl,d,e.v,rfl,.inl ⟨_,Sum.inr e.n,.inl (g _ _ a.at_),rfl,j.symm⟩,q k g⟩
def bCt (d:bM kd a)(c:bM kd b)(q:Q (.bl (!vlt b a)) H):bAx a b H Q:=by
 cases d with
 |num=>cases c;exact .inl ⟨_,_,rfl,rfl,q⟩
 |wrd _ _=>cases c;exact .inr ⟨_,_,rfl,rfl,q⟩
def dU (v:V):List (V × Int)->Nat->Nat->Nat
 |[],_,n=>n
 |c::t,p,n=>dU v t (p+1) (if vlt v c.1=true then n else p)
theorem yV (v:V):∀(l:List (V × Int)) (c:V × Int) (p n:Nat),dU v (l++[c]) p n=if vlt v c.1=true then dU v l p n else p+l.length
 |[],c,p,n=>by show (if _ then _ else _)=_;rfl
 |a::l,c,p,n=>by
  show dU v (l++[c]) (p+1) _=_;rw[yV v l c];show (if _ then dU v l (p+1) _ else p+1+l.length)=if _ then dU v l (p+1) _ else p+(l.length+1)
  rw[show p+1+l.length=p+(l.length+1) by lia]
def wJ (v:V)(l:List (V × Int)):dU v l 1 0<=l.length:=by
 suffices ∀l p n,n<=p+l.length - 1\/n=0->dU v l p n<=p+l.length - 1\/dU v l p n=0 by rcases this l 1 0 (.inr rfl) with h|h <;> lia
 intro l
 induction l with
 |nil=>intro p n h;exact h
 |cons c t ih=>
  intro p n h;have:=ih (p+1) (if vlt v c.1=true then n else p) (by
   rw[j9] at h
   split
   ·rcases h with h|h
    ·left;lia
    ·right;exact h
   ·left;lia)
  rw[j9];rcases this with h|h
  ·left;show dU v t (p+1) _<=_;lia
  ·right;exact h
inductive xO (K:bFZ)(vs:List V)(H:Hp)(Q:VK)(E_:XK):Prop
 |mk (vc v:V) (kd:Str) (h0:Int) (cs:List (V × Int)) (_:vs=[vc,v]) (_:kJ K H (eQ K H) vc ((.non,h0)::cs)) (_:cs.length<=7) (_:bM kd v) (_:(∀c∈cs,bM kd c.1)) (_:Q (.int (dU v cs 1 0:Nat)) H)
def aSi (T:Txt w K mg):Ok P w K mg base 1 "cut_of" bQV (xO K):=by
 refine Ok.ofV T.aWt aGj (by trivial) (λf I A t s H M Q E O h=>?_)
 obtain⟨V,v,L,U,b,rfl,⟨a,d,rfl,B,y⟩,S,F,n,q⟩:=h;have N:=aGj.nd;refine⟨_,(aC (aY 2 aB) (aC (gG PassesOwn.never rfl (aSk (by rfl) T.jK (aH aB (va1 (aK aX (by rfl) T.dW cQ (va1 (vv 0)))))) (cZ 3) (aD (bO (cX aVj (aR aO (aR aO (vv 0) (vv 3)) aB) (vv 1)) (aD (aY 2 (vv 3))) aW))) (aD (aM (vv 2))))),?_⟩;have G:=y.len;rw[j9] at G;have J:d.length<=8:=by lia
 refine⟨_,rfl,_,_,rfl,.inr B,1,d.length,rfl,⟨by decide,by decide,by lia,by lia⟩,?_⟩;rw[show ((d.length:Int) - 1).toNat=b.length by lia];refine iB (λi σ x=>x=H/\∃l,σ=[some (.ref a),some v,some (.int (dU v (b.take i) 1 0:Nat)),l]) ⟨rfl,_,rfl⟩ (λi σ x R p=>?_) fun σ x p=>?_
 ·obtain⟨rfl,l,rfl⟩:=p;have g:i+1<d.length:=by lia
  obtain⟨c,k,C,m,o⟩:=bV y (b8 g);rw[List.getElem?_cons_succ] at k;have e:atI d (1+(i:Int))=some (.ref C):=by rw[show (1+(i:Int))=((i+1:Nat):Int) by lia,<-m];exact cG (b8 g)
  have u:=n c (v4 k);have D:b.take (i+1)=b.take i++[c]:=by rw[bBH,k];rfl
  have r:(b.take i).length=i:=by rw[bAC];lia
  refine⟨_,rfl,_,rfl,a,d,_,_,rfl,rfl,B,e,C,_,0,_,rfl,rfl,o,at0 _ _,_,rfl,bCt u F ⟨_,rfl,?_⟩⟩;have j:=yV v (b.take i) c 1 0;rw[<-D,r] at j;cases z:vlt v c.1 with
  |true=>rw[z,if_pos rfl] at j;exact cB ⟨rfl,some (.int (1+(i:Int))),by rw[j];rfl⟩
  |false=>rw[z,if_neg v8] at j;refine fB ⟨_,rfl,rfl,some (.int (1+(i:Int))),?_⟩;rw[j,show (((1+i:Nat)):Int)=1+(i:Int) by lia];rfl
 ·obtain⟨rfl,l,rfl⟩:=p;rw[bAZ (d9 _)];exact⟨_,rfl,q⟩
def bK (hd:Hdr)(m:Int)(r:List V)(house:Int):Plc->Bool
 |.copies=>true
 |.keys n=>decide (nm (r.getD (plc hd n) .non) % m=house)
 |.spans n h0 cs=>decide ((((.non,h0)::cs).map (·.2)).getD (dU (r.getD (plc hd n) .non) cs 1 0) 0=house)
inductive aF3 (K:bFZ)(vs:List V)(H:Hp)(Q:VK)(E_:XK):Prop
 |mk (vh vp vr:V) (house m:Int) (hd:Hdr) (pl:Plc) (r:List V) (_:vs=[vh,vp,vr,.int house,.int m]) (_:mF K H vh hd) (_:aOq hd) (_:jZ K H vp pl) (_:aS9 hd m pl) (_:cP K H vr r) (_:jA hd r) (_:0<m) (_:∀H',Same H H'->Q (.bl (bK hd m r house pl)) H')
def aFh (h:jA hd r)(d:look hd n=some k):∃v,r[plc hd n]?=some v/\r.getD (plc hd n) .non=v/\bM k v:=by obtain⟨b,_⟩:=aI6 d;obtain⟨v,a,c⟩:=bV h b;exact⟨v,a,by rw[j0,a];rfl,c⟩
def aH6 (T:Txt w K mg)(vR:Ok P w K mg base 2 "place_of" bQJ (oR K))(a1:Ok P w K mg base 2 "home" bXD aP8)(sV:Ok P w K mg base 1 "cut_of" bQV (xO K)):Ok P w K mg base 3 "stands_at" bQK (aF3 K):=by
 refine Ok.ofV T.aKg yH (by trivial) (λf a3 A N s H vs Q E hr h=>?_)
 obtain⟨U,vp,vr,b,m,hd,pl,r,rfl,R,B,l,i,⟨X,rfl,y⟩,t,m0,q⟩:=h;have l8:=B.1.2.2;have nd:=yH.nd;refine⟨_,(aC (bO (cX dX (aR aO (vv 1) aB) bH) (aD (aM jL)) aW) (aC (aY 5 (aR aO (vv 2) (aV vR (aH (vv 0) (va1 (aR aO (vv 1) aB)))))) (aC (bO (cX dX (aR aO (vv 1) aB) bH) (aD (aM (yN dX (aV a1 (aH (vv 5) (va1 (vv 4)))) (vv 3)))) aW) (aC (aY 6 (aR aO (vv 1) aB)) (aD (aM (yN dX (aR aO (aR aO (vv 6) (aV sV (aH (vv 6) (va1 (vv 5))))) aB) (vv 3)))))))),?_⟩;cases pl with
 |copies=>obtain⟨a,rfl,d⟩:=l;exact⟨_,rfl,a,_,0,_,rfl,rfl,d,at0 _ _,rfl,_,rfl,fB (q H (Same.refl H))⟩
 |keys n=>
  obtain⟨a,rfl,d⟩:=l;obtain⟨Y,k,u⟩:=i;obtain⟨v,F,L,j⟩:=aFh t u;refine⟨_,rfl,a,_,0,_,rfl,rfl,d,at0 _ _,rfl,_,rfl,dI (by trivial) ?_⟩;refine⟨_,rfl,_,rfl,_,rfl,a,_,1,_,rfl,rfl,d,at1 _ _ _,U,n,hd,k,rfl,R,by lia,u,λC g=>?_⟩;refine⟨X,r,_,v,rfl,rfl,g.aP y,cG F,?_⟩;refine⟨_,rfl,a,_,0,_,rfl,rfl,g.aP d,at0 _ _,rfl,_,rfl,gF (by trivial) ?_⟩;refine⟨_,rfl,_,rfl,v,m,rfl,oO j,m0,_,rfl,rfl,?_⟩;have e:decide (V.int (nm v % m)=V.int b)=bK hd m r b (.keys n):=by show _=decide (nm (r.getD (plc hd n) .non) % m=b);rw[L];exact decide_eq_decide.mpr ⟨λz=>V.int.inj z,λz=>congrArg V.int z⟩
  rw[e];exact q C g
 |spans n h0 cs=>
  obtain⟨a,vc,rfl,d,G⟩:=l;obtain⟨Y,k,u,a2,p⟩:=i;obtain⟨v,F,L,j⟩:=aFh t u;refine⟨_,rfl,a,_,0,_,rfl,rfl,d,at0 _ _,rfl,_,rfl,dI (by trivial) ?_⟩;refine⟨_,rfl,_,rfl,_,rfl,a,_,1,_,rfl,rfl,d,at1 _ _ _,U,n,hd,k,rfl,R,by lia,u,λC g=>?_⟩;refine⟨X,r,_,v,rfl,rfl,g.aP y,cG F,?_⟩;refine⟨_,rfl,a,_,0,_,rfl,rfl,g.aP d,at0 _ _,rfl,_,rfl,dI (by trivial) ?_⟩;refine⟨_,rfl,a,_,2,_,rfl,rfl,g.aP d,at2 _ _ _ _,?_⟩;have x:=kJ.same g (λ_ _ z=>z.same g) G;obtain⟨S,O,Z,D,o⟩:=id x;subst Z;have lu:=o.len;rw[j9] at lu;have a0:=wJ v cs;obtain⟨c,M,W,I,J⟩:=bV o (b8 (show dU v cs 1 0<O.length by lia));refine⟨_,rfl,_,rfl,_,rfl,.ref S,v,k,h0,cs,rfl,x,p.few,j,λc G=>(p.each c G).1,S,O,_,.ref W,rfl,rfl,D,cG (by rw[b8 (show dU v cs 1 0<O.length by lia),I]),W,_,1,_,rfl,rfl,J,at1 _ _ _,_,rfl,rfl,?_⟩;have e:decide (V.int c.2=V.int b)=bK hd m r b (.spans n h0 cs):=by show _=decide ((((.non,h0)::cs).map (·.2)).getD (dU (r.getD (plc hd n) .non) cs 1 0) 0=b);rw[L,j0,v5,M];exact decide_eq_decide.mpr ⟨λz=>V.int.inj z,λz=>congrArg V.int z⟩
  rw[e];exact q C g
theorem jD {α:Type}{p:Nat->Bool}{p':α->Bool}:∀{k:Nat} {xs:List α},(∀(i:Nat) (x:α),xs[i]?=some x->p (k+i)=p' x)->sel p k xs=xs.filter p'
 |_,[],_=>rfl
 |k,x::r,h=>by have a:=h 0 x rfl;rw[Nat.add_zero] at a;show (if p k then x::sel p (k+1) r else sel p (k+1) r)=_;rw[bCL,a,jD (k:=k+1) (xs:=r) λi y e=>by rw[show k+1+i=k+(i+1) by lia];exact h (i+1) y (by simpa using e)]
def wD {α β:Type}{R:α->β->Prop}{p:Nat->Bool}{as:List α}{c:List β}(h:bW R as c):∀k,bW R (sel p k as) (sel p k c):=by
 induction h with
 |nil=>exact λ_=>.nil
 |@cons a b as c r _ ih=>
  intro k;show bW R (if p k then a::sel p (k+1) as else sel p (k+1) as) (if p k then b::sel p (k+1) c else sel p (k+1) c)
  split
  ·exact .cons r (ih _)
  ·exact ih _
def tM (i j k:Nat)(s:(y,NameKind.free)∈scope.names)(h:(z,NameKind.free)∈scope.names)(c:(y3,NameKind.free)∈scope.names)(hi:X.N[i]?=some y)(o:X.N[j]?=some z)(f:X.N[k]?=some y3)(g:σ[i]?=some (some u))(l:σ[j]?=some (some v))(e:σ[k]?=some (some u3))(m:Vis X.env.scope y)(p:Vis X.env.scope z)(d:Vis X.env.scope y3):Cap X scope [x,y,z,y3] σ [none,some u,some v,some u3]:=
 ⟨rfl,λn q r b a=>by
  match n,b,a with
  |0,_,a=>cases a
  |1,b,a=>cases b;cases a;exact⟨s,i,hi,g,m⟩
  |2,b,a=>cases b;cases a;exact⟨h,j,o,l,p⟩
  |3,b,a=>cases b;cases a;exact⟨c,k,f,e,d⟩
  |n+4,b,_=>cases b⟩
inductive zH (K:bFZ)(vs:List V)(H:Hp)(Q:VK)(E_:XK):Prop
 |mk (v vh vp:V) (L:Addr) (t:Tb) (house m:Int) (_:vs=[v,.int house,.int m]) (_:jU K H v vh vp L t) (_:jR m t) (_:0<=house) (_:house<m) (_:∀D' H',H D'=none->Same H H'->bN K H' D' (t.rows.filter λr=>bK t.hd m r house t.pl)->Q (.ref D') H')
def aPa (T:Txt w K mg)(dB:Ok P w K mg base 2 "is_number_below" bQR wA)(V:Ok P w K mg base 3 "stands_at" bQK (aF3 K)):Ok P w K mg base 4 "rows_at" bQL (zH K):=by
 refine Ok.ofV T.aSg aOi (by trivial) (λf a0 A y s H vs Q E hr h=>?_)
 obtain⟨v,S,O,L,t,b,m,rfl,W,g,h0,M,q⟩:=h;refine⟨_,(aC (bO (cL (cC (aV dB (aH (vv 1) (va1 (vv 2)))))) (aD dR) aW) (aD (aM (cJ (N:=["row","house","houses","table"]) ck (eU (aF zZ)) rfl (fM (aR (bL (K:=K)) (vv 0) aB)) (λcl s' d fp=>⟨(fZ 0),(nJ (cC (aV V (aH (aR (bL (K:=K)) (vv 3) aB) (aH (aR (bL (K:=K)) (vv 3) aB) (aH (vv 0) (aH (vv 1) (va1 (vv 2))))))))),(vv 0)⟩))))),?_⟩;refine⟨_,rfl,_,rfl,b,m,rfl,_,rfl,?_⟩;rw[m9 h0,m9 M];refine cB ?_;obtain⟨a,rfl,p,C,x,⟨us,G,k⟩⟩:=W;have lu:=k.len;have fw:=g.few;have U:0<m:=by lia
 refine aAb us (λi=>bK t.hd m (t.rows.getD i []) b t.pl) [none,some (.int b),some (.int m),some (.ref a)] ?_ (small (by lia)) (λR r=>aHg (λd c=>SqL.of (c _ _ G)) (λR' Z=>⟨_,rfl,a,_,2,_,rfl,rfl,p,at2 _ _ _ _,Z⟩) R r) (λi u Y d R l c B=>?_) rfl λJ d D c z=>?_
 ·exact tM 1 2 0 (by trivial) (by trivial) (by trivial) rfl rfl rfl rfl rfl rfl (by trivial) (by trivial) (by trivial)
 ·obtain⟨r,j,o⟩:=bV k Y;have n:=g.rows r (v4 j);have I:t.rows.getD i []=r:=by rw[j0,j];rfl
  rw[I] at B;refine⟨_,rfl,a,_,0,_,rfl,rfl,c.aP p,at0 _ _,_,rfl,a,_,1,_,rfl,rfl,c.aP p,at1 _ _ _,_,rfl,_,rfl,_,rfl,S,O,u,b,m,t.hd,t.pl,r,rfl,C.same c,g.hd,x.same c,g.pl,o.same c,n,U,λX F=>⟨_,rfl,B X F⟩⟩
 ·refine q J d D c ⟨_,z,?_⟩;have e:(t.rows.filter λr=>bK t.hd m r b t.pl)=sel (λi=>bK t.hd m (t.rows.getD i []) b t.pl) 0 t.rows:=(jD λi r j=>by rw[bDA,j0,j];rfl).symm;rw[e];exact (wD k 0).imp λ_ _ r=>r.same c
def rW (K:bFZ)(H:Hp)(C x:Addr)(m:Int)(d:Addr)(es:List En):Prop:=(∃dx,H x=some (.ins C dx [("placed",.ref d),("house_count",.int m)]))/\gY K H d es/\∀e∈es,jR m e.t
def rW.same (s:Same H H')(h:rW K H C x m d es):rW K H' C x m d es:=by obtain⟨⟨c,b⟩,e,a⟩:=h;exact⟨⟨c,s _ _ b⟩,e.same s,a⟩
def dH.ins (h:H x=some (.ins C dx fs)):dH H x:=⟨λ_ z=>(by rw[h] at z;cases z),λ_ _ z=>(by rw[h] at z;cases z),λ_ z=>(by rw[h] at z;cases z)⟩
def oA {α β:Type}{R:α->β->Prop}{as:List α}{bs:List β}(h:bW R as bs){b:β}(hb:b∈bs):∃a∈as,R a b:=by
 induction h with
 |nil=>cases hb
 |cons r _ ih=>
  rcases List.mem_cons.mp hb with rfl|hb
  ·exact⟨_,j5,r⟩
  ·obtain⟨a,c,d⟩:=ih hb;exact⟨a,j7 _ c,d⟩
def jR.sorted (h:jR m t):jR m { t with rows:=srt t.rows }:=⟨h.hd,h.pl,by rw[tH];exact h.few,λr a=>h.rows r (gC a)⟩
inductive aQu (K:bFZ)(C Pt:Addr)(vs:List V)(H:Hp)(Q:VK)(E_:XK):Prop
 |mk (H0:Hp) (x dx d:Addr) (m:Int) (es:List En) (_:vs=[.ref x,.int m,.ref d]) (_:H x=some (.ins C dx [])) (_:H0 x=none) (_:Same H0 H) (_:1<=m) (_:m<=6) (_:gY K H0 d es) (_:(∀e∈es,jR m e.t)) (_:H0 Pt=some (.tab qC)) (_:∀d' H' es',H0 d'=none->Same H0 H'->rW K H' C x m d' es'->bW (λe e'=>∃v L,e'=aOh e v L/\H0 L=none) es es'->Q .non H')
def aWd (T:Txt w K mg)(c:Cls K C)(D:eZ K C "__init__" "Town.__init__" jY o7)(n1:bU K C "placed")(n2:bU K C "house_count")(jX:Ok P w K mg base 10 "placed_tables" bQB (aAg K Pt)):OkM P w K mg base C 11 "__init__" o7 (aQu K C Pt):=by
 refine OkM.ofV c D zO (by trivial) (λf a0 A t s H vs Q E hr h=>?_)
 obtain⟨X,x,g,d,m,W,rfl,F,O,l,U,S,Z,J,N,q⟩:=h;refine⟨_,(aC (aDp (K:=K) (vv 0) (aV jX (aH (vv 1) (va1 (vv 2))))) (aD (aDp (K:=K) (vv 0) (vv 1)))),?_⟩;refine⟨_,rfl,_,rfl,d,m,W,rfl,U,S,Z.same l,J,l _ _ N,λj n y i I a B=>?_⟩;have k:=I _ _ F;refine⟨_,rfl,x,C,g,[],rfl,k,c,n1,by decide,?_⟩;refine⟨_,rfl,_,rfl,x,C,g,_,rfl,aG,c,n2,by show 1<1000;decide,?_⟩;have nx:=dH.ins k;have u:j≠x:=λz=>by rw[z,F] at i;cases i
 have p:But x n (L2.upd (L2.upd n x (.ins C g [("placed",.ref j)])) x (.ins C g [("placed",.ref j),("house_count",.int m)])):=λb o G h=>by rw[aQ G,aQ G];exact h
 have s2:Same X (L2.upd (L2.upd n x (.ins C g [("placed",.ref j)])) x (.ins C g [("placed",.ref j),("house_count",.int m)])):=λb o h=>p _ _ (λz=>by rw[z,O] at h;cases h) (I _ _ (l _ _ h));refine q j _ y (none_of l i) s2 ⟨⟨g,aG⟩,⟨p _ _ u a.at_,a.nd,a.few,a.nm,λe r=>p.tb nx (a.tb e r)⟩,λe r=>?_⟩ (B.imp λe e' ⟨v,L,M,Y⟩=>⟨v,L,M,none_of l Y⟩);obtain⟨R,V,v,L,rfl,_⟩:=oA B r;exact (J R V).sorted
inductive aC4 (K:bFZ)(C:Addr)(vs:List V)(H:Hp)(Q:VK)(E_:XK):Prop
 |mk (x d:Addr) (m:Int) (es:List En) (e:En) (_:vs=[.ref x,.str e.n]) (_:rW K H C x m d es) (_:e∈es) (_:∀H',Same H H'->Q e.vp H')
def aJ4 (T:Txt w K mg)(c:Cls K C)(D:eZ K C "placing" "Town.placing" lL n6)(v:bU K C "placed")(z:Ok P w K mg base 3 "table_in" z8 (pM K)):OkM P w K mg base C 4 "placing" n6 (aC4 K C):=by
 refine OkM.ofV c D aA9 (by trivial) (λf t A b s H G Q E y h=>?_)
 obtain⟨x,d,m,l,e,rfl,⟨⟨o,p⟩,i,I⟩,g,q⟩:=h;refine⟨_,(aD (aM (aR (bL (K:=K)) (aV z (aH (cV (K:=K) (vv 0)) (va1 (vv 1)))) aB))),?_⟩;obtain⟨a,r,n,F,B,u⟩:=i.tb e g;exact⟨_,rfl,x,C,o,_,_,rfl,p,c,v,rfl,_,rfl,d,l,e,rfl,i,g,λk j=>⟨a,_,1,_,r,rfl,j.aP n,at1 _ _ _,q k j⟩⟩
inductive wX (K:bFZ)(C:Addr)(vs:List V)(H:Hp)(Q:VK)(E_:XK):Prop
 |mk (x d:Addr) (m:Int) (es:List En) (e:En) (_:vs=[.ref x,.str e.n]) (_:rW K H C x m d es) (_:e∈es) (_:∀L H',H L=none->Same H H'->bN K H' L e.t.rows->Q (.ref L) H')
def aRt (T:Txt w K mg)(c:Cls K C)(D:eZ K C "whole" "Town.whole" pB n6)(M:bU K C "placed")(O:Ok P w K mg base 3 "table_in" z8 (pM K)):OkM P w K mg base C 4 "whole" n6 (wX K C):=by
 refine OkM.ofV c D aEp (by trivial) (λf G A i s H R Q E S h=>?_)
 obtain⟨x,d,m,u,e,rfl,⟨⟨y,z⟩,k,I⟩,g,q⟩:=h;refine⟨_,(aD (aM (cI (aKv (K:=K)) (by rfl) T.yR tK (va1 (aR (bL (K:=K)) (aV O (aH (cV (K:=K) (vv 0)) (va1 (vv 1)))) aB))))),?_⟩;obtain⟨a,p,v,W,U,⟨l,t,n⟩⟩:=k.tb e g;have V:=n.len;have N:=(I e g).few;refine⟨_,rfl,x,C,y,_,_,rfl,z,c,M,rfl,_,rfl,d,u,e,rfl,k,g,λJ b=>⟨a,_,2,_,p,rfl,b.aP v,at2 _ _ _ _,e.L,l,rfl,.inl (SqL.of (b _ _ t)),λL F o j B=>q L F (none_of b o) (b.trans j) ⟨l,B,n.imp λ_ _ r=>r.same (b.trans j)⟩⟩⟩
inductive aPg (K:bFZ)(C:Addr)(vs:List V)(H:Hp)(Q:VK)(E_:XK):Prop
 |mk (x d:Addr) (m house:Int) (es:List En) (e:En) (_:vs=[.ref x,.str e.n,.int house]) (_:rW K H C x m d es) (_:e∈es) (_:0<=house) (_:house<m) (_:∀L H',H L=none->Same H H'->bN K H' L (e.t.rows.filter λr=>bK e.t.hd m r house e.t.pl)->Q (.ref L) H')
def aUc (T:Txt w K mg)(c:Cls K C)(D:eZ K C "part" "Town.part" sI u6)(I:bU K C "placed")(R:bU K C "house_count")(M:Ok P w K mg base 3 "table_in" z8 (pM K))(J:Ok P w K mg base 4 "rows_at" bQL (zH K)):OkM P w K mg base C 5 "part" u6 (aPg K C):=by
 refine OkM.ofV c D aGw (by trivial) (λf z A i s H N Q E O h=>?_)
 obtain⟨x,d,m,a,u,e,rfl,⟨⟨j,k⟩,l,F⟩,g,r,p,q⟩:=h;refine⟨_,(aD (aM (aV J (aH (aV M (aH (cV (K:=K) (vv 0)) (va1 (vv 1)))) (aH (vv 2) (va1 (cV (K:=K) (vv 0)))))))),?_⟩;refine⟨_,rfl,x,C,j,_,_,rfl,k,c,I,rfl,_,rfl,d,u,e,rfl,l,g,λG b=>?_⟩;refine⟨_,rfl,_,rfl,x,C,j,_,_,rfl,b _ _ k,c,R,rfl,e.v,e.vh,e.vp,e.L,e.t,a,m,rfl,(l.tb e g).same b,F e g,r,p,λL y n B o=>q L y (none_of b n) (b.trans B) o⟩
end
end My
namespace L2
open PySem PySem.Spec PyProof.Rows
abbrev M61:Int:=2305843009213693951
def eV (H:Hp)(a:Addr):Prop:=∃s d:Int,H a=some (.lst [.int s,.int d])/\True/\0<=d
structure Fx (a:Addr)(H H':Hp):Prop where
 same:∀b o,b≠a->H b=some o->H' b=some o
 st:eV H' a
def Fx.trans (f:Fx a H H1)(g:Fx a H1 H2):Fx a H H2:=⟨λb o n e=>g.same b o n (f.same b o n e),g.st⟩
def eV.same (h:eV H a)(e:Same H H'):eV H' a:=by obtain⟨s,d,b,c⟩:=h;exact⟨s,d,e _ _ b,c⟩
def Fx.of (h:eV H a)(e:Same H H'):Fx a H H':=⟨λb o _ q=>e b o q,h.same e⟩
def Fx.refl (h:eV H a):Fx a H H:=.of h (Same.refl H)
def Fx.sm (f:Fx a H H1)(e:Same H1 H2):Fx a H H2:=f.trans (.of f.st e)
def eV.ne (h:eV H a)(f:H p=none):p≠a:=by obtain⟨s,d,b,_⟩:=h;exact (aL b f).symm
def Fx.aP {K:bFZ}{a p:Addr}{H H':Hp}{xs:List V}(f:Fx a H H')(h:eV H a)(e:SqT K H p xs):SqT K H' p xs:=by
 obtain⟨s,d,b,_⟩:=h;rcases e with (e|⟨o,e⟩)|e
 ·exact .inl (.inl (f.same p _ (aKz e b (by intro z;cases z)) e))
 ·exact .inl (.inr ⟨o,f.same p _ (aKz e b (by intro z;cases z)) e⟩)
 ·exact .inr e
def Fx.upd (f:Fx a H H')(i:H D=none)(h:D≠a):Fx a H (L2.upd H' D o):=⟨λb u n e=>by rw[aQ (aL e i)];exact f.same b u n e,by obtain⟨s,d,c,g⟩:=f.st;exact⟨s,d,by rw[aQ h.symm];exact c,g⟩⟩
def Fx.free (f:Fx a H H')(h:H' p=none):H p=none:=by
 cases e:H p with
 |none=>rfl
 |some o=>
  by_cases z:p=a
  ·subst z;obtain⟨s,d,b,_⟩:=f.st;rw[b] at h;cases h
  ·rw[f.same p o z e] at h;cases h
def aU8 (h:eV H a):bCy (Fx a) H:=⟨λD o c=>.of h (aZ c o),λa b=>a.trans b,λD o j c f=>f.upd c (h.ne c),λD g d i c _ e f=>f.same _ _ (h.ne c) e⟩
def aRs:bootBuiltins "divmod"=some (.builtin "divmod"):=by trivial
def bE0:List V->Hp->VK->Prop:=λxs H Q=>∃i j,xs=[.int i,.int j]/\(0<j/\j<2 ^ 64)/\∀p H',H p=none->Same H H'->H' p=some (.tup [.int (i / j),.int (i % j)])->Q (.ref p) H'
def aRl:cF X (.builtin "divmod") bE0:=by
 intro f s σ H k n Q I r h;obtain⟨i,j,rfl,⟨m,g⟩,q⟩:=h;obtain⟨u,p,rfl,⟨t,rfl⟩,⟨l,rfl⟩⟩:=vals2 r;have c:j.natAbs<2 ^ 64:=by lia
 have a:j.natAbs.log2<9000:=by have:=(Nat.log2_lt (show j.natAbs≠0 by lia)).mpr c;lia
 refine divmod_int (by lia) ?_ (.inl (PyProof.noPylong_of_log2 a));rw[bFK i (by lia),bFL i (by lia)];have d:=I.hok.fresh (d9 _);refine⟨.ref s.heap.objs.size,upd H s.heap.objs.size (.tup [.int (i / j),.int (i % j)]),?_,rfl,q _ _ d (aZ d _) aG⟩;refine I.laid (λb o e=>d7 _ e) (d9 _) ⟨by simp only[j9,bCQ];rw[sizeLine_eq];decide,[.int (i / j) s.toks,.int (i % j) (s.toks+1)],.cons ⟨_,rfl⟩ (.cons ⟨_,rfl⟩ .nil),?_⟩;exact .of (j8 s.heap rfl) rfl ⟨_,j8 s.heap rfl,rfl,0,rfl⟩
end L2
namespace My
open PySem PySem.Spec PyProof.Rows L2
section
variable {P:Program}{w:World}{K:bFZ}{mg:bF2}{base:Heap}
inductive aH0 (K:bFZ)(vs:List V)(H:Hp)(Q:VK)(E_:XK):Prop
 |mk (a:Addr) (ns:List Int) (_:vs=[.ref a]) (_:SqL K H a (ns.map V.int)) (_:ns.length<=63) (_:∀c H',Same H H'->0<=c->c<M61->Q (.int c) H')
def aH1 (T:Txt w K mg):Ok P w K mg base 1 "_law_seed" bQE (aH0 K):=by
 refine Ok.ofV T.aLc wI (by trivial) (λf l A d s H o Q E m h=>?_)
 obtain⟨a,k,rfl,g,j,q⟩:=h;have p:=wI.nd;refine⟨_,(aC (aY 1 aB) (aC (gG PassesOwn.never rfl (aXs (by rfl) T.aK5 (va1 (vv 0))) (uZ rfl (bC (cZ 2) (bC (cZ 3) fP))) (aD (aY 1 (bB lM (bB cY (bB cY (bB cY (bB vG (vv 1) aB) (bB lM (vv 3) (bB aHw aB aB))) (bB vG aB (vv 2))) aB) aB)))) (aD (aM (vv 1))))),?_⟩;refine⟨_,rfl,a,k.map V.int,rfl,g,aV5 (λi σ b=>Same H b/\∃c l2 l3,0<=c/\c<M61/\σ=[some (.ref a),some (.int c),l2,l3]) ⟨Same.refl H,7,_,_,by decide,by decide,rfl⟩ (λi σ b _ ⟨e,_⟩=>e.seq g) ?_ ?_⟩
 ·rintro i σ b x Tp H'' ex ⟨sm,c,l2,l3,c0,c1,rfl⟩ hT rfl;obtain⟨z,n,rfl⟩:=aTd ex;refine⟨Tp,_,rfl,SqT.of aG,rfl,_,_,rfl,_,_,rfl,rfl,?_⟩;refine⟨_,rfl,_,_,rfl,rfl,.inr ⟨by decide,by decide⟩,_,rfl,_,_,rfl,rfl,⟨by decide,by decide,by decide⟩,_,_,rfl,rfl,(by show (0:Int)<10 ^ 30;decide),_,_,rfl,rfl,_,rfl,_,_,rfl,rfl,.inl ⟨by decide,by decide⟩,_,_,rfl,rfl,_,_,rfl,rfl,_,_,rfl,rfl,(by show (0:Int)<2305843009213693951;decide),?_⟩;exact⟨sm.trans (aZ hT _),_,_,_,bEE _ (by decide),bDO _ (by decide),rfl⟩
 ·rintro σ b ⟨sm,c,l2,l3,c0,c1,rfl⟩;exact⟨_,rfl,q c b sm c0 c1⟩
inductive iY (vs:List V)(H:Hp)(Q:VK)(E_:XK):Prop
 |mk (a:Addr) (m:Int) (_:vs=[.ref a,.int m]) (_:eV H a) (_:(0<m/\m<2 ^ 64)) (_:∀c H',Fx a H H'->0<=c->c<m->Q (.int c) H')
def aHs (T:Txt w K mg):Ok P w K mg base 1 "_law_next" n8 iY:=by
 refine Ok.ofV T.aKm yM (by trivial) (λf v A k s H y Q E C h=>?_)
 obtain⟨a,m,rfl,⟨i,j,d,u,l⟩,⟨e,g⟩,q⟩:=h;have z:=yM.nd;refine⟨_,(aC (bO (cX aQt (aR bF (vv 0) aB) aB) (aC (iD (aK aRl (by rfl) T.aT2 aRs (aH (aR bF (vv 0) aB) (va1 (vv 1)))) (uZ rfl (bC (pI (vv 0) aB set_list) (bC (cZ 2) fP)))) (aD (aM (vv 2)))) aW) (aC (iD (bB lM (bB cY (bB vG (aR bF (vv 0) aB) aB) aB) aB) (pI (vv 0) aB set_list)) (aD (aM (bB lM (bB aPi (aR bF (vv 0) aB) aB) (vv 1)))))),?_⟩;refine⟨_,rfl,a,_,1,_,rfl,rfl,SqL.of d,at1 _ _ _,_,_,rfl,rfl,_,rfl,aG4 (λc=>?_) λc=>?_⟩
 ·refine⟨_,rfl,a,_,1,_,rfl,rfl,SqL.of d,at1 _ _ _,_,rfl,_,_,rfl,⟨e,g⟩,λp x B r t=>?_⟩;refine⟨p,_,rfl,SqT.of t,rfl,_,_,rfl,⟨_,rfl,a,_,1,1,rfl,rfl,r _ _ d,rfl,?_⟩⟩;refine⟨_,_,rfl,rfl,_,rfl,?_⟩;exact q _ _ ⟨λb o n h=>by rw[aQ n];exact r _ _ h,i,j / m,aG,u,Int.ediv_nonneg l (by lia)⟩ (bEE _ (by lia)) (bDO _ e)
 ·refine⟨_,rfl,a,_,0,_,rfl,rfl,SqL.of d,at0 _ _,_,_,rfl,rfl,.inr ⟨by decide,by decide⟩,_,_,rfl,rfl,_,_,rfl,rfl,(by show (0:Int)<2305843009213693951;decide),?_⟩;refine⟨_,rfl,a,_,0,0,rfl,rfl,d,rfl,?_⟩;refine⟨_,rfl,a,[.int ((i * 1181783497276652981+12345678910987) % 2305843009213693951),.int j],0,_,rfl,rfl,SqL.of aG,at0 _ _,_,_,rfl,rfl,⟨by decide,by decide⟩,_,rfl,_,_,rfl,rfl,e,?_⟩;exact q _ _ ⟨λb o n h=>by rw[aQ n];exact h,(i * 1181783497276652981+12345678910987) % 2305843009213693951,j,aG,trivial,l⟩ (bEE _ (by lia)) (bDO _ e)
inductive aMj (K:bFZ)(vs:List V)(H:Hp)(Q:VK)(E_:XK):Prop
 |mk (a:Addr) (ns:List Int) (_:vs=[.ref a]) (_:SqL K H a (ns.map V.int)) (_:ns.length<=63) (_:∀p H',H p=none->Same H H'->eV H' p->Q (.ref p) H')
def aEk (T:Txt w K mg)(l:Ok P w K mg base 1 "_law_seed" bQE (aH0 K)):Ok P w K mg base 2 "_law_begin" bQE (aMj K):=by
 refine Ok.ofV T.aIe uT (by trivial) (λf u A g s H z Q E C h=>?_)
 obtain⟨a,i,rfl,d,e,q⟩:=h;have B:=uT.nd;refine⟨_,(aC (aY 1 aB) (aC (bO (VW.pt (aDy (cX aQt (aK aX (by rfl) T.dW cQ (va1 (vv 0))) aB) (aBu (cX dX (bB lM (aR bF (vv 0) aB) aB) aB)))) (aD (aY 1 (bB aPi (aK aWw (by rfl) T.bDz bBy (va1 (aR bF (vv 0) aB))) aB))) aW) (aD (aM (dY (aH (aV l (va1 (vv 0))) (va1 (vv 1)))))))),?_⟩;have b:∀dg:Int,0<=dg->∀(σ:L2.St),σ=[some (.ref a),some (.int dg)]->(pZ (bAe (dZ (aAi (aH0 K) [] E0 (dZ (aKf 0) aBl)) (dZ (aKf 1) aBl)))) { nx:=λ_ v=>Q V.non v,rt:=Q } σ H:=by rintro dg d0 σ rfl;exact⟨_,rfl,a,i,rfl,d,e,λc y j D F=>⟨_,rfl,(by show 2<=sizeLine;decide),λp t m x o=>q p t (j.free m) (j.trans x) ⟨c,dg,o,trivial,d0⟩⟩⟩
 refine⟨_,rfl,a,_,rfl,.inl d,_,_,rfl,rfl,_,rfl,?_⟩;cases i with
 |nil=>exact cB (b 0 (by decide) _ rfl)
 |cons n r=>
  have k:decide ((0:Int)<((n::r).map V.int).length)=true:=m9 (by simp);rw[show (decide (((((n::r).map V.int).length:Nat):Int) > 0))=true from k];refine fB ⟨_,rfl,a,_,0,.int n,rfl,rfl,d,at0 _ _,_,_,rfl,rfl,(by show (0:Int)<2;decide),rfl,_,rfl,aG4 (λc=>?_) λc=>?_⟩
  ·exact⟨_,rfl,a,_,0,.int n,rfl,rfl,d,at0 _ _,_,rfl,_,_,rfl,rfl,⟨by decide,by decide⟩,b _ (Int.ediv_nonneg (by split <;> lia) (by decide)) _ rfl⟩
  ·exact b 0 (by decide) _ rfl
def aKp:Sp:=λvs H Q _=>∃a:Addr,vs=[.ref a]/\eV H a/\∀i H',Fx a H H'->Q (.int i) H'
def aEq (T:Txt w K mg)(r:Ok P w K mg base 1 "_law_next" n8 iY):Ok P w K mg base 2 "_law_great" ["_law_state"] aKp:=by
 refine Ok.ofV T.aIy uQ (by trivial) (λf y A e s H z Q E C h=>?_)
 obtain⟨a,rfl,m,q⟩:=h;have B:=uQ.nd;refine⟨_,(aC (aY 1 aB) (aC (gG PassesOwn.never rfl (gA (by rfl) T.jK (va1 aB)) (cZ 2) (aD (aY 1 (bB cY (bB vG (vv 1) (bB aHw aB aB)) (aV r (aH (vv 0) (va1 (bB aHw aB aB)))))))) (aD (aM (aR bF (dY (aH (vv 1) (va1 (bB aCn aB (vv 1))))) (aV r (aH (vv 0) (va1 aB)))))))),?_⟩;refine⟨_,rfl,by decide,by decide,iB (λi σ j=>Fx a H j/\∃c l2,σ=[some (.ref a),some (.int c),l2]) ⟨.refl m,0,_,rfl⟩ ?_ ?_⟩
 ·rintro i σ j hi ⟨fx,c,l2,rfl⟩;refine⟨_,rfl,_,_,rfl,rfl,⟨by decide,by decide,by decide⟩,_,_,rfl,rfl,.inr ⟨by decide,by decide⟩,_,rfl,_,_,rfl,rfl,⟨by decide,by decide,by decide⟩,a,_,rfl,fx.st,(by decide),λd l o _ _=>?_⟩;exact⟨_,_,rfl,rfl,fx.trans o,_,_,rfl⟩
 ·rintro σ j ⟨fx,c,l2,rfl⟩;refine⟨_,rfl,_,rfl,_,_,rfl,rfl,(by show 2<=sizeLine;decide),λp l x g u=>?_⟩;refine⟨_,rfl,a,2,rfl,fx.st.same g,by decide,λd D b n F=>?_⟩;obtain⟨v,t,k⟩:=at_of (xs:=[.int c,.int (0 - c)]) n (by show d<2;lia);refine⟨p,_,_,v,rfl,rfl,SqL.of (b.same _ _ (fx.st.ne x) u),t,?_⟩;simp only[bAP,bAG,or_false] at k;rcases k with rfl|rfl
  ·exact q _ _ ((fx.sm g).trans b)
  ·exact q _ _ ((fx.sm g).trans b)
abbrev aN5:List V:=[.str "",.str "a",.str "b",.str "ab"]
inductive aBr (vs:List V)(H:Hp)(Q:VK)(E_:XK):Prop
 |mk (a:Addr) (kd:Str) (_:vs=[.ref a,.str kd]) (_:eV H a) (_:aRj kd) (_:∀v H',Fx a H H'->bM kd v->Q v H')
def aM9 (h:v∈aN5):bM "word" v:=by
 simp only[aN5,bAP,bAG,or_false] at h;have a:∀x:Str,(x.cps.all λc=>decide (97<=c) && decide (c<=122))=true->Lets x:=λx b c d=>by have:=(Array.all_eq_true_iff_forall_mem.mp b) c d;rw[bAW] at this;exact⟨of_decide_eq_true this.1,of_decide_eq_true this.2⟩
 rcases h with rfl|rfl|rfl|rfl
 ·exact .wrd (a _ (by trivial)) (by trivial)
 ·exact .wrd (a _ (by trivial)) (by trivial)
 ·exact .wrd (a _ (by trivial)) (by trivial)
 ·exact .wrd (a _ (by trivial)) (by trivial)
def aEu (T:Txt w K mg)(t:Ok P w K mg base 1 "_law_next" n8 iY)(J:Ok P w K mg base 2 "_law_great" ["_law_state"] aKp):Ok P w K mg base 3 "_law_value" bQM aBr:=by
 refine Ok.ofV T.aIx uE (by trivial) (λf S A B s H vs Q E hr h=>?_)
 obtain⟨a,Y,rfl,G,N,q⟩:=h;have nd:=uE.nd;refine⟨_,(aC (aY 2 (aV t (aH (vv 0) (va1 aB)))) (aC (bO (cX dX (vv 1) bH) (aD (aM (aR bF (dY (aH (bB aCn (aV t (aH (vv 0) (va1 aB))) aB) (va1 (aV J (va1 (vv 0)))))) (cI aFz (by rfl) T.aTt aM3 (va1 (yN dX (vv 2) aB)))))) aW) (aC (bO (cX aJf (vv 2) aB) (aD (aM (aR bF (dY (aH bH (aH bH (aH bH (va1 bH))))) (bB lM (vv 2) aB)))) aW) (aC (aY 3 bH) (aC (gG PassesOwn.never rfl (gA (by rfl) T.jK (va1 (aV t (aH (vv 0) (va1 aB))))) (cZ 4) (aD (aY 3 (bB pX (vv 3) (rR bH (aV t (aH (vv 0) (va1 aB))) (λ_ _=>rfl)))))) (aD (aM (vv 3)))))))),?_⟩;refine⟨_,rfl,a,10,rfl,G,by decide,λb U k Z w1=>?_⟩;rcases N with rfl|rfl
 ·refine⟨_,rfl,rfl,_,rfl,fB ?_⟩;refine⟨_,rfl,a,4,rfl,k.st,by decide,λd R o r C=>?_⟩;refine⟨_,_,rfl,rfl,_,rfl,a,rfl,o.st,λg L y=>?_⟩;refine⟨(by show 2<=sizeLine;decide),λp M _ u m=>?_⟩;have c:=(k.trans (o.trans y)).sm u;refine⟨_,rfl,rfl,.inr ⟨_,rfl,?_⟩⟩;by_cases e:b=9
  ·rw[m9 (congrArg V.int e)];exact⟨p,_,_,_,rfl,rfl,SqL.of m,cG (j:=1) rfl,q _ _ c .num⟩
  ·rw[v6 (by intro z;exact e (V.int.inj z))];exact⟨p,_,_,_,rfl,rfl,SqL.of m,cG (j:=0) rfl,q _ _ c .num⟩
 ·refine⟨_,rfl,rfl,_,rfl,cB ?_⟩;refine⟨_,rfl,_,_,rfl,rfl,_,rfl,aG4 (λ_=>?_) (λ_=>?_)⟩
  ·refine⟨(by show 4<=sizeLine;decide),λp M _ u m=>?_⟩;obtain⟨v,I,O⟩:=at_of (xs:=aN5) (j:=b % 4) (by lia) (by show b % 4<4;lia);exact⟨_,rfl,_,_,rfl,rfl,(by show (0:Int)<4;decide),p,_,_,v,rfl,rfl,SqL.of m,I,q _ _ (k.sm u) (aM9 O)⟩
  ·refine⟨_,rfl,a,9,rfl,k.st,by decide,λn R o X W=>?_⟩;refine⟨_,rfl,by lia,by lia,iB (n:=n.toNat) (λi σ D=>Fx a H D/\∃(x:Str) (l4:Option V),σ=[some (.ref a),some (.str "word"),some (.int b),some (.str x),l4]/\x.length<=i/\Lets x) ⟨k.trans o,_,_,rfl,by trivial,λd hd=>by simp[show (("":Str).cps)=#[] from rfl] at hd⟩ ?_ ?_⟩
   ·rintro i σ D hi ⟨c,x,l4,rfl,hl,hx⟩;have F:abc.length=26:=by trivial
    refine⟨_,rfl,_,rfl,a,26,rfl,c.st,by decide,λd L y r C=>?_⟩;obtain⟨ch,l⟩:=aP5 (z:=abc) r (by rw[F];exact C);refine⟨_,_,_,rfl,rfl,r,(by lia),(by rw[F];exact C),l,_,_,rfl,rfl,?_,c.trans y,_,_,rfl,?_,hx.add (aLm.one l)⟩
    ·show x.length+1<=sizeLine;exact small (by lia)
    ·rw[aIk];show x.length+1<=i+1;lia
   ·rintro σ D ⟨c,x,l4,rfl,hl,hx⟩;exact⟨_,rfl,q _ _ c (.wrd hx (by lia))⟩
def aGb:Sp:=λvs H Q _=>vs=[]/\∀p H',H p=none->Same H H'->H' p=some (.lst words)->Q (.ref p) H'
def aEs (T:Txt w K mg):Ok P w K mg base 1 "_law_words" [] aGb:=by
 refine Ok.ofV T.aIv uJ (by trivial) (λf m A b s H v Q E r h=>?_)
 obtain⟨rfl,q⟩:=h;have u:=uJ.nd;refine⟨_,(aC (aY 0 (dY (aH bH (aH bH (aH bH (aH bH (aH bH (aH bH (aH bH (aH bH (va1 bH))))))))))) (aD (aM (bB rA (vv 0) (dY (aH bH (aH bH (aH bH (aH bH (aH bH (aH bH (aH bH (va1 bH))))))))))))),?_⟩;refine⟨(by decide),λn o _ c j=>?_⟩;refine⟨_,rfl,(by decide),λk t _ a d=>?_⟩;exact⟨n,k,_,_,rfl,rfl,a _ _ j,d,(by decide),λp i g e l=>q p i ((c.trans a).free g) (c.trans (a.trans e)) l⟩
def xH (ns:List Str):Prop:=ns.length=17/\(∀n∈ns,Nm n)/\ns.Nodup
def xH.rev (h:xH ns):xH ns.reverse:=⟨by rw[List.length_reverse];exact h.1,λn a=>h.2.1 n (List.mem_reverse.mp a),List.pairwise_reverse.mpr (h.2.2.imp λq=>Ne.symm q)⟩
def bA7:∀j:_root_.Fin 26,abc.cps[j.val]?=some (97+j.val):=by trivial
def aXk (h:j<26):abc.cps[j]?=some (97+j):=bA7 ⟨j,h⟩
def sgl (o:Nat):List Str:=(List.range 17).map λk=>⟨#[97+(o+k)]⟩
def aQy:∀o:_root_.Fin 10,((sgl o.val).all λn=>nameB (.str n))=true/\(Txt.slice abc (some (o.val:Int)) (some ((o.val:Int)+17))).cps.size=17/\((List.range 17).all λi=>decide (sgn (Txt.slice abc (some (o.val:Int)) (some ((o.val:Int)+17))) i=⟨#[97+(o.val+i)]⟩))=true:=by trivial
def aWm (h:(⟨#[a]⟩:Str)=⟨#[b]⟩):a=b:=by have:=congrArg (λx:Str=>x.cps.toList) h;simpa using this
def aUg (h:o<10):xH (sgl o):=by
 refine⟨by simp[sgl],λn b=>?_,?_⟩
 ·have:=(aQy ⟨o,h⟩).1;rw[bBZ] at this;exact this n b
 ·refine List.pairwise_map.mpr (bEA ?_ List.nodup_range);intro k l _ _ a e;have:=aWm e;exact a (by lia)
def aY2 {o:Nat}(h:o<10):((List.range (Txt.slice abc (some (o:Int)) (some ((o:Int)+17))).cps.size).map λi=>V.str (sgn (Txt.slice abc (some (o:Int)) (some ((o:Int)+17))) i))=(sgl o).map V.str:=by obtain⟨_,a,b⟩:=aQy ⟨o,h⟩;have a:=a;rw[a];unfold sgl;rw[bBW];refine List.map_congr_left λi c=>?_;rw[bBZ] at b;have:=of_decide_eq_true (b i c);exact congrArg V.str this
def stm (b:Str)(a o:Nat):Nat->List Str:=λi=>(List.range i).map λk=>put b a (97+(o+k))
def bBg (x:Lets b)(hl:b.length<=7)(j:a<=b.length)(ho:o<10)(y:∀w∈words,inV w ((stm b a o 17).map V.str)=false):xH (stm b a o 17):=by
 refine⟨by simp[stm],λn h=>?_,?_⟩
 ·obtain⟨k,i,rfl⟩:=List.mem_map.mp h;have i:=List.mem_range.mp i;have d:inV (.str (put b a (97+(o+k)))) words=false:=by
   cases e:inV (.str (put b a (97+(o+k)))) words with
   |false=>rfl
   |true=>
    exfalso;unfold inV at e;rw[bDW] at e;obtain⟨v,f,u⟩:=e;have g:∃z:Str,v=.str z:=by simp only[words,bAP,bAG,or_false] at f;rcases f with rfl|rfl|rfl|rfl|rfl|rfl|rfl|rfl|rfl|rfl|rfl|rfl|rfl|rfl|rfl|rfl|rfl <;> exact⟨_,rfl⟩
    obtain⟨z,rfl⟩:=g;have r:(z == put b a (97+(o+k)))=true:=u;have m:z=put b a (97+(o+k)):=by simpa using r
    have:=y _ f;rw[aPl,decide_eq_false_iff_not] at this;exact this (by rw[m];exact h)
  show ((decide (1<=(put b a (97+(o+k))).length) && (decide ((put b a (97+(o+k))).length<=8) && allIn (put b a (97+(o+k))))) && !inV (.str (put b a (97+(o+k)))) words)=true;have s:Lets (put b a (97+(o+k))):=λc t=>by
   rcases aYv j t with rfl|z
   ·lia
   ·exact x c z
  rw[aXe j,m9 (p:=1<=b.length+1) (by lia),m9 (p:=b.length+1<=8) (by lia),allIn_of s,d];rfl
 ·refine List.pairwise_map.mpr (bEA ?_ List.nodup_range);intro k l _ _ q e;have:=aZg j e;exact q (by lia)
def aV4:Sp:=λvs H Q _=>∃a:Addr,vs=[.ref a,.int 17]/\eV H a/\∀p H' ns,Fx a H H'->H p=none->H' p=some (.lst (ns.map V.str))->xH ns->Q (.ref p) H'
def aEx (T:Txt w K mg)(Y:Ok P w K mg base 1 "_law_next" n8 iY)(a8:Ok P w K mg base 1 "_law_words" [] aGb):Ok P w K mg base 2 "_law_names" n8 aV4:=by
 refine Ok.ofV T.aGs uG (by trivial) (λf a7 A a4 s H vs Q E hr h=>?_)
 obtain⟨a,rfl,X,q⟩:=h;have nd:=uG.nd;refine⟨_,(aC (aY 2 bH) (aC (aY 3 (aV Y (aH (vv 0) (va1 (bB aCn aB (vv 1)))))) (aC (aY 4 bH) (aC (gG PassesOwn.never rfl (gA (by rfl) T.jK (va1 (aV Y (aH (vv 0) (va1 aB))))) (cZ 5) (aD (aY 4 (bB pX (vv 4) (rR (vv 2) (aV Y (aH (vv 0) (va1 aB))) (λ_ _=>rfl)))))) (aC (aY 6 (aV Y (aH (vv 0) (va1 (bB cY (aK yG (by rfl) T.dW cQ (va1 (vv 4))) aB))))) (aC (aY 7 (dY yP)) (aC (gG PassesOwn.never rfl (gA (by rfl) T.jK (va1 (vv 1))) (cZ 5) (aD (cM (rZ PySem.F.plainAttrs_list PySem.F.slot_list_append PySem.F.type_list_append pO (vv 7) (va1 (bB pX (bB pX (cR aHr (vv 4) dO (dF (vv 6))) (rR (vv 2) (bB cY (vv 3) (vv 5)) (λ_ _=>rfl))) (cR aHr (vv 4) (dF (vv 6)) dO))))))) (aC (bO (cC (aK (aUz rfl) (by rfl) T.bDl bCh (va1 (cJ (N:=["_law_word","_law_names_here"]) ck (eU (aF pR)) rfl (fM (bCb (a8.mono (by decide)) hr (by rfl))) (λcl s' u fp=>⟨(fZ 0),fH,(pG (aNg (K:=K)) (vv 0) (vv 1) (by with_unfolding_all rfl))⟩))))) (aD (aY 7 (cI (aN0 rfl) (by rfl) T.yR tK (va1 (cR aHr (vv 2) (dF (vv 3)) (dF (bB cY (vv 3) (vv 1)))))))) aW) (aC (bO (cX dX (aV Y (aH (vv 0) (va1 aB))) aB) (aD (cM (aWx PySem.F.plainAttrs_list PySem.F.slot_list_reverse PySem.F.type_list_reverse aJq (vv 7)))) aW) (aD (aM (vv 7)))))))))))),?_⟩;have G:abc.length=26:=by trivial
 refine⟨_,rfl,_,rfl,_,_,rfl,rfl,a,10,rfl,X,by decide,λod H1 f1 o0 o1=>?_⟩;obtain⟨o,rfl⟩:∃o:Nat,od=o:=⟨od.toNat,by lia⟩;have Z:o<10:=by lia
 refine⟨_,rfl,a,8,rfl,f1.st,by decide,λn H2 f2 n0 n1=>?_⟩;refine⟨_,rfl,by lia,by lia,iB (n:=n.toNat) (λi σ u=>Fx a H u/\∃(x:Str) (l5:Option V),σ=[some (.ref a),some (.int 17),some (.str abc),some (.int (o:Nat)),some (.str x),l5,none,none]/\x.length<=i/\Lets x) ⟨f1.trans f2,_,_,rfl,by trivial,λd hd=>by simp[show (("":Str).cps)=#[] from rfl] at hd⟩ ?_ ?_⟩
 ·rintro i σ u M ⟨fx,x,l5,rfl,hl,hx⟩;refine⟨_,rfl,_,rfl,_,rfl,a,26,rfl,fx.st,by decide,λd H3 f3 L d1=>?_⟩;obtain⟨ch,t⟩:=aP5 (z:=abc) L (by rw[G];exact d1);refine⟨_,_,_,rfl,rfl,L,(by lia),(by rw[G];exact d1),t,_,_,rfl,rfl,?_,fx.trans f3,_,_,rfl,?_,hx.add (aLm.one t)⟩
  ·show x.length+1<=sizeLine;exact small (by lia)
  ·rw[aIk];show x.length+1<=i+1;lia
 rintro σ H3 ⟨f3,b,l5,rfl,hl,hb⟩;have a6:b.length<=7:=by lia
 refine⟨_,rfl,_,rfl,_,rfl,small (by lia),_,_,rfl,rfl,a,_,rfl,f3.st,(by show (0:Int)<(b.length:Int)+1/\(b.length:Int)+1<2 ^ 64;lia),λai H4 f4 a0 a1=>?_⟩;obtain⟨g,rfl⟩:∃g:Nat,ai=g:=⟨ai.toNat,by lia⟩;have ha:g<=b.length:=by have:(g:Int)<(b.length:Int)+1:=a1;lia
 have I:=f3.trans f4;refine⟨(by show 0<=sizeLine;decide),λp H5 fp s5 g5=>?_⟩;have k:H p=none:=I.free fp;have C:p≠a:=X.ne k;refine⟨_,rfl,_,rfl,by decide,by decide,iB (n:=17) (λi σ u=>Fx a H u/\u p=some (.lst ((stm b g o i).map V.str))/\∃l5,σ=[some (.ref a),some (.int 17),some (.str abc),some (.int (o:Nat)),some (.str b),l5,some (.int (g:Nat)),some (.ref p)]) ⟨I.sm s5,g5,_,rfl⟩ ?_ ?_⟩
 ·rintro i σ u M ⟨fx,gp,l5,rfl⟩;have s1:=Txt.slice_le b none (some ((g:Nat):Int));have s2:=Txt.slice_le b (some ((g:Nat):Int)) none;have ej:((o:Int)+(0+(i:Int))).toNat=o+i:=by lia
  have t:abc.cps[((o:Int)+(0+(i:Int))).toNat]?=some (97+(o+i)):=by rw[ej];exact aXk (by lia)
  refine⟨_,rfl,.inl ⟨rfl,_,SqL.of gp⟩,_,rfl,_,rfl,_,rfl,_,rfl,small (by lia),_,rfl,_,rfl,_,rfl,_,_,rfl,rfl,_,_,_,rfl,rfl,(by show 0<=(o:Int)+(0+(i:Int));lia),(by show (o:Int)+(0+(i:Int))<2 ^ 63;lia),(by rw[G];show (o:Int)+(0+(i:Int))<26;lia),t,_,_,rfl,rfl,?_,_,rfl,_,rfl,_,rfl,_,rfl,small (by lia),_,_,rfl,rfl,?_,?_⟩
  ·show (Txt.slice b none (some ((g:Nat):Int))).length+1<=sizeLine;exact small (by lia)
  ·rw[aIk];show (Txt.slice b none (some ((g:Nat):Int))).length+1+_<=sizeLine;exact small (by lia)
  refine⟨p,_,_,rfl,rfl,gp,?_,fx.upd k C,?_,_,rfl⟩
  ·rw[j4];exact nZ (by simp[stm];lia)
  ·rw[aG];unfold stm;rw[List.range_succ,bAN,bAN];rfl
 rintro σ H6 ⟨f6,g6,l5',rfl⟩;dsimp only[aBi,aR3,tB,tCB,dZ];refine aR0 (λU=>U=words) (λi _ y=>∃m,words[i]?=some m/\y=.bl (inV m ((stm b g o 17).map V.str))) (λ_ h=>h) (λ_ h=>h) [none,some (.ref p)] ?_ rfl (λR r=>⟨rfl,λW H7 _ O g7=>r W H7 _ O g7 rfl⟩) (λU e=>by subst e;exact small (by decide)) (λU e i x ex u R l sm r=>?_) λU e D H7 ys O g7 a9 hR=>?_
 ·exact lB 7 (by trivial) rfl rfl (by trivial)
 ·subst e;have fl:iG x=true:=by have:=aDa;rw[bBZ] at this;exact this x (v4 ex)
  exact⟨_,rfl,_,rfl,p,_,rfl,.inl (SqL.of (sm _ _ g6)),fl,aJm,r _ _ (Same.refl _) ⟨x,ex,rfl⟩⟩
 subst e;have ey:ys=(words.map λm=>inV m ((stm b g o 17).map V.str)).map V.bl:=by
  rw[bBW];refine bCE λi=>?_;by_cases M:i<ys.length
  ·obtain⟨m,h1,h2⟩:=hR i ys[i] (b8 M);rw[b8 M,v5,h1,h2];rfl
  ·rw[bAD (by lia),bAD (by rw[j4];lia)]
 rw[ey] at g7;refine⟨D,_,rfl,SqL.of g7,_,rfl,?_⟩;have J:=f6.sm O;refine aG4 (λc=>?_) (λc=>?_)
 ·refine⟨_,rfl,_,rfl,_,rfl,_,rfl,_,rfl,_,_,rfl,rfl,_,rfl,abc,rfl,small (by rw[G];decide),?_⟩;refine⟨_,rfl,?_,λS H8 a2 s8 g8=>?_⟩
  ·have:=Txt.slice_le abc (some (o:Int)) (some ((o:Int)+17));rw[G] at this;exact bAI this (by decide)
  have a5:H8 S=some (.lst ((sgl o).map V.str)):=by rw[g8];exact congrArg (λz=>some (HO.lst z)) (aY2 Z)
  have f8:=J.sm s8;have j:=J.free a2;refine⟨_,rfl,a,2,rfl,f8.st,by decide,λd H9 B L d1=>?_⟩;have v:=B.same _ _ (X.ne j) a5;refine⟨rfl,_,rfl,aG4 (λ_=>?_) (λ_=>?_)⟩
  ·refine⟨_,rfl,.inl ⟨rfl,_,SqL.of v⟩,S,_,rfl,rfl,v,?_⟩;refine⟨_,rfl,q S _ (sgl o).reverse ((f8.trans B).upd j (X.ne j)) j ?_ (aUg Z).rev⟩;rw[aG,List.map_reverse]
  ·exact⟨_,rfl,q S _ (sgl o) (f8.trans B) j v (aUg Z)⟩
 ·have hw:∀m∈words,inV m ((stm b g o 17).map V.str)=false:=λm a3=>by
   cases e:inV m ((stm b g o 17).map V.str) with
   |false=>rfl
   |true=>exfalso;apply c;rw[bDW];exact⟨true,List.mem_map.mpr ⟨m,a3,e⟩,rfl⟩
  have hn:=bBg hb a6 ha Z hw;refine⟨_,rfl,a,2,rfl,J.st,by decide,λd H9 B L d1=>?_⟩;have v:=B.same _ _ C (O _ _ g6);refine⟨rfl,_,rfl,aG4 (λ_=>?_) (λ_=>?_)⟩
  ·refine⟨_,rfl,.inl ⟨rfl,_,SqL.of v⟩,p,_,rfl,rfl,v,?_⟩;refine⟨_,rfl,q p _ (stm b g o 17).reverse ((J.trans B).upd k C) k ?_ hn.rev⟩;rw[aG,List.map_reverse]
  ·exact⟨_,rfl,q p _ (stm b g o 17) (J.trans B) k v hn⟩
inductive aLg (K:bFZ)(vs:List V)(H:Hp)(Q:VK)(E_:XK):Prop
 |mk (a N:Addr) (ns:List Str) (_:vs=[.ref a,.ref N]) (_:eV H a) (_:H N=some (.lst (ns.map V.str))) (_:N≠a) (_:xH ns) (_:∀v H' hd,Fx a H H'->mF K H' v hd->aOq hd->hd.length<=7->Q v H')
def bAm {α:Type}{l:List α}(h:l.Nodup){i j:Nat}{x:α}(f:l[i]?=some x)(g:l[j]?=some x):i=j:=by
 have a:=List.pairwise_iff_getElem.mp h;obtain⟨e,b⟩:=List.getElem?_eq_some_iff.mp f;obtain⟨c,d⟩:=List.getElem?_eq_some_iff.mp g;rcases bEV i j with q|q|q
 ·exact absurd (b.trans d.symm) (a i j e c q)
 ·exact q
 ·exact absurd (d.trans b.symm) (a j i c e q)
def bD8 {α:Type}{l:List α}(h:∀(i j:Nat) (x:α),l[i]?=some x->l[j]?=some x->i=j):l.Nodup:=by refine List.pairwise_iff_getElem.mpr λi j b a c e=>?_;have:=h i j l[i] (b8 b) (by rw[b8 a,e]);lia
def aWy {o:List Str}(m:xH o){q:Nat}{hd:Hdr}(hl:hd.length<=8)(h:∀(j:Nat) (c:Str × Str),hd[j]?=some c->o[3+(q+j) % 8]?=some c.1):(hd.map (·.1)).Nodup:=by
 refine bD8 λi j x l d=>?_;have g:∀k,(hd.map (·.1))[k]?=some x->k<hd.length/\o[3+(q+k) % 8]?=some x:=λk a=>by
  rw[v5] at a;cases e:hd[k]? with
  |none=>rw[e] at a;cases a
  |some c=>rw[e] at a;cases a;exact⟨(List.getElem?_eq_some_iff.mp e).1,h k c e⟩
 obtain⟨n,f⟩:=g i l;obtain⟨p,b⟩:=g j d;have:=bAm m.2.2 f b;lia
def aIu (T:Txt w K mg)(X:Ok P w K mg base 1 "_law_next" n8 iY):Ok P w K mg base 2 "_law_head" bQO (aLg K):=by
 refine Ok.ofV T.aJy wK (by trivial) (λf a7 A U s H vs Q E hr h=>?_)
 obtain⟨a,N,G,rfl,hs,hN,nN,W,q⟩:=h;have nd:=wK.nd;refine⟨_,(aC (aY 2 (aV X (aH (vv 0) (va1 aB)))) (aC (aY 3 (dY yP)) (aC (gG PassesOwn.never rfl (gA (by rfl) T.jK (va1 (bB cY aB (bB vG (aV X (aH (vv 0) (va1 aB))) (bB cY aB (cI aFz (by rfl) T.aTt aM3 (va1 (yN dX (aV X (aH (vv 0) (va1 aB))) aB)))))))) (cZ 4) (aC (aY 5 (aR bF (dY (aH bH (aH bH (va1 bH)))) (aV X (aH (vv 0) (va1 aB))))) (aD (cM (rZ PySem.F.plainAttrs_list PySem.F.slot_list_append PySem.F.type_list_append pO (vv 3) (va1 (bY (aH (aR bF (vv 1) (bB cY aB (bB lM (bB cY (vv 2) (vv 4)) aB))) (va1 (vv 5)))))))))) (aD (aM (cI mV (by rfl) T.iH fU (va1 (vv 3)))))))),?_⟩;have a6:=W.1;refine⟨_,rfl,a,8,rfl,hs,by decide,λo H1 f1 a4 a5=>?_⟩;obtain⟨g,rfl⟩:∃g:Nat,o=g:=⟨o.toNat,by lia⟩;refine⟨(by show 0<=sizeLine;decide),λp H2 fp s2 g2=>?_⟩;have f2:=f1.sm s2;have x:H p=none:=f1.free fp;have k:p≠a:=hs.ne x;refine⟨_,rfl,a,4,rfl,f2.st,by decide,λm H3 f3 m0 m1=>?_⟩;refine⟨_,rfl,a,8,rfl,f3.st,by decide,λe H4 f4 e0 e1=>?_⟩;have J:=f2.trans (f3.trans f4);have g4:=f4.same _ _ k (f3.same _ _ k g2);refine⟨rfl,.inr ⟨_,rfl,?_⟩⟩;have I:∃z:Nat,1+m * (1+(if decide (V.int e=V.int 0) then 1 else 0))=(z:Int)/\1<=z/\z<=7:=by
  cases decide (V.int e=V.int 0)
  ·exact⟨(1+m).toNat,by simp;lia,by lia,by lia⟩
  ·exact⟨(1+m * 2).toNat,by simp;lia,by lia,by lia⟩
 obtain⟨z,ez,z1,z7⟩:=I;refine⟨_,_,rfl,rfl,_,_,rfl,rfl,.inl ⟨by lia,by lia⟩,_,_,rfl,rfl,?_⟩;refine⟨(z:Int),?_,by lia,by lia,?_⟩
 ·show [V.int (1+m * (1+(if decide (V.int e=V.int 0) then 1 else 0)))]=_;rw[ez]
 rw[bAS];refine iB (n:=z) (λi σ u=>Fx a H u/\∃(us:List V) (hd:Hdr) (l4 l5:Option V),u p=some (.lst us)/\hd.length=i/\bW (IsC K u) us hd/\(∀(j:Nat) (c:Str × Str),hd[j]?=some c->G[3+(g+j) % 8]?=some c.1/\aRj c.2)/\σ=[some (.ref a),some (.ref N),some (.int (g:Nat)),some (.ref p),l4,l5]) ⟨J,[],[],_,_,g4,rfl,.nil,λj c h=>by simp at h,rfl⟩ ?_ ?_
 ·rintro i σ u hi ⟨fx,us,hd,l4,l5,gp,hl,hu,hc,rfl⟩;have lu:=hu.len;refine⟨(by show 3<=sizeLine;decide),λp1 H5 O l Y=>?_⟩;refine⟨_,rfl,a,3,rfl,fx.st.same l,by decide,λd H6 C d0 d1=>?_⟩;obtain⟨kv,R,r⟩:=at_of (xs:=[.str "number",.str "number",.str "word"]) d0 (by show d<3;lia);obtain⟨B,rfl,Z⟩:∃B:Str,kv=.str B/\aRj B:=by
   simp only[bAP,bAG,or_false] at r;rcases r with rfl|rfl|rfl
   ·exact⟨_,rfl,.inl rfl⟩
   ·exact⟨_,rfl,.inl rfl⟩
   ·exact⟨_,rfl,.inr rfl⟩
  have v:=(fx.sm l).trans C;refine⟨p1,_,_,_,rfl,rfl,SqL.of (C.same _ _ (fx.st.ne O) Y),R,?_⟩;have b:=C.same _ _ k (l _ _ gp);have a3:=v.same _ _ nN hN;have M:bW (IsC K H6) us hd:=hu.imp λ_ _ ⟨L,ep,hp⟩=>⟨L,ep,C.aP (fx.st.same l) (l.aP hp)⟩;have y:3+(g+i) % 8<G.length:=by lia
  refine⟨_,rfl,.inl ⟨rfl,_,SqL.of b⟩,?_⟩;refine⟨_,rfl,_,rfl,_,rfl,_,_,rfl,rfl,_,_,rfl,rfl,(by show (0:Int)<8;decide),_,_,rfl,rfl,N,_,_,.str G[3+(g+i) % 8],rfl,rfl,SqL.of a3,?_,_,rfl,(by show 2<=sizeLine;decide),λt H7 ft D g7=>?_⟩
  ·have e8:(3:Int)+((g:Int)+(0+(i:Int))) % 8=((3+(g+i) % 8:Nat):Int):=by lia
   rw[e8];exact cG (by rw[v5,b8 y];rfl)
  refine⟨p,_,_,rfl,rfl,D _ _ b,nZ (by lia),?_⟩;have a2:=(aL b ft).symm;refine⟨(v.sm D).upd x k,us++[.ref t],hd++[(G[3+(g+i) % 8],B)],_,_,aG,by rw[v9,hl];rfl,?_,λj c h=>?_,rfl⟩
  ·refine (M.imp λ_ _ ⟨L,ep,hp⟩=>⟨L,ep,(D.aP hp).jO (D _ _ b)⟩).app (.cons ⟨t,rfl,SqT.of (by rw[aQ a2];exact g7)⟩ .nil)
  ·by_cases S:j<hd.length
   ·rw[bBD S] at h;exact hc j c h
   ·rw[bBA (by lia)] at h;have a0:j - hd.length=0:=by
     by_cases z0:j - hd.length=0
     ·exact z0
     ·rw[bAD (by simp;lia)] at h;cases h
    rw[a0] at h;cases h;have:j=i:=by lia
    subst this;exact⟨b8 y,Z⟩
 ·rintro σ u ⟨fx,us,hd,l4,l5,gp,hl,hu,hc,rfl⟩;refine⟨_,rfl,p,us,rfl,SqL.of gp,λt H5 _ l Y=>q _ _ hd (fx.sm l) ⟨t,us,rfl,SqT.of Y,hu.imp λ_ _ h=>h.same l⟩ ⟨⟨aWy W (by lia) λj c h=>(hc j c h).1,by lia,by lia⟩,λc a1=>?_⟩ (by lia)⟩;obtain⟨j,S,e⟩:=bBC a1;have h2:=hc j c (by rw[b8 S,e]);exact⟨W.2.1 _ (v4 h2.1),h2.2⟩
def TK (K:bFZ)(H H':Hp):Prop:=∀p xs,SqT K H p xs->SqT K H' p xs
def _root_.L2.Fx.tk (f:Fx a H H')(h:eV H a):TK K H H':=λ_ _ e=>f.aP h e
def TK.of (s:Same H H'):TK K H H':=λ_ _ e=>s.aP e
def IsC.tk (e:TK K H H')(h:IsC K H v c):IsC K H' v c:=by obtain⟨p,rfl,a⟩:=h;exact⟨p,rfl,e _ _ a⟩
def aPe {α:Type}{K:bFZ}{H H':Hp}{R S:V->α->Prop}{v:V}{xs:List α}(e:TK K H H')(k:∀a b,R a b->S a b)(h:kJ K H R v xs):kJ K H' S v xs:=by obtain⟨a,d,rfl,c,f⟩:=h;exact⟨a,d,rfl,e _ _ c,f.imp k⟩
def mF.tk (e:TK K H H')(h:mF K H v hd):mF K H' v hd:=aPe e (λ_ _ q=>q.tk e) h
def aTn (a:(hd.map (·.1)).Nodup)(h:c∈hd):look hd c.1=some c.2:=by
 induction hd with
 |nil=>cases h
 |cons x r ih=>
  rw[bAF,bFH] at a;unfold look;rw[bBV];rcases List.mem_cons.mp h with rfl|h
  ·rw[m9 rfl];rfl
  ·have b:¬ x.1=c.1:=λz=>a.1 (by rw[z];exact List.mem_map.mpr ⟨c,h,rfl⟩);rw[v6 b];exact ih a.2 h
theorem aCg {α β:Type}{R:α->β->Prop}:∀{as:List α} {bs:List β},as.length=bs.length->(∀(i:Nat) (a:α) (b:β),as[i]?=some a->bs[i]?=some b->R a b)->bW R as bs
 |[],[],_,_=>.nil
 |[],_::_,h,_=>by cases h
 |_::_,[],h,_=>by cases h
 |a::as,b::bs,h,k=>.cons (k 0 a b rfl rfl) (aCg (by simpa using h) λi x y c d=>k (i+1) x y (by simpa using c) (by simpa using d))
theorem qR {α:Type}:∀(k:Nat) (xs:List α),sel (λ_=>true) k xs=xs
 |_,[]=>rfl
 |k,x::r=>by show (if true=true then x::sel (λ_=>true) (k+1) r else _)=_;rw[if_pos rfl,qR (k+1) r]
def pA (h:tY R (List.range n) ys):ys.length=n/\∀i y,ys[i]?=some y->R i y:=by
 have b:∀{c:List Nat} {ys:List V},tY R c ys->∀(i:Nat) (y:V),ys[i]?=some y->∃j,c[i]?=some j/\R j y:=by
  intro c ys h
  induction h with
  |nil=>intro i y e;simp at e
  |cons r _ ih=>
   intro i y e;cases i with
   |zero=>cases e;exact⟨_,rfl,r⟩
   |succ i=>obtain⟨j,a,d⟩:=ih i y (by simpa using e);exact⟨j,by simpa using a,d⟩
 have l:=h.len;rw[bAK] at l;refine⟨l.symm,λi y e=>?_⟩;obtain⟨j,a,d⟩:=b h i y e;have f:i<n:=by have:=(List.getElem?_eq_some_iff.mp e).1;lia
 rw[bCR f] at a;cases a;exact d
def aVx (h:KdR ks r):∀x∈r,(∃i,x=.int i)\/∃z,x=.str z:=by
 unfold KdR at h
 induction h with
 |nil=>intro x hx;cases hx
 |@cons b y _ _ h _ ih=>
  intro x hx;rcases List.mem_cons.mp hx with rfl|hx
  ·cases b with
   |true=>exact .inl h
   |false=>exact .inr h
  ·exact ih x hx
inductive aGo (K:bFZ)(vs:List V)(H:Hp)(Q:VK)(E_:XK):Prop
 |mk (a:Addr) (vh:V) (hd:Hdr) (_:vs=[.ref a,vh]) (_:eV H a) (_:mF K H vh hd) (_:aOq hd) (_:∀t H' r,Fx a H H'->H' t=some (.tup r)->jA hd r->Q (.ref t) H')
def aMb (T:Txt w K mg)(iJ:Ok P w K mg base 3 "_law_value" bQM aBr):Ok P w K mg base 4 "_law_row" bQC (aGo K):=by
 refine Ok.ofV T.aOo aJ2 (by trivial) (λf a0 A F s H vs Q E hr h=>?_)
 obtain⟨a,vh,hd,rfl,o,⟨b,us,rfl,I,M⟩,⟨J,p⟩,q⟩:=h;refine⟨_,(aD (aM (cI mV (by rfl) T.iH fU (va1 (cJ (N:=["_law_name","_law_kind","_law_state"]) ck (eU (aF uY)) rfl (nU (vv 1)) (λcl s' l fp=>⟨(tG (K:=K) (n:=2) rfl (bC (fZ 0) (bC (fZ 1) fP))),fH,(aV iJ (aH (vv 2) (va1 (vv 1))))⟩)))))),?_⟩;have lu:=M.len;have l8:=J.2.2;dsimp only[pZ,tCB,dZ];refine oE [none,none,some (.ref a)] ?_ ⟨_,rfl,b,rfl,⟨_,I⟩,aJn (Fx a) (aU8 o) us (λ_=>true) (λi _ y=>∃c,hd[i]?=some c/\bM c.2 y) (λ_ _ h=>h) (λ_ _ _ h=>h) (λi σ=>∃c,hd[i]?=some c/\At2 [none,none,some (.ref a)] (.str c.1) (.str c.2) σ) (Ps2 [none,none,some (.ref a)]) ⟨none,none,rfl⟩ (small (by lia)) _ (zQ λl e=>e.aP o I) (oM λl e=>e.aP o I) (λi x σ' l Q' C u e qq=>?_) (λi x G C O l R e r=>r l (Fx.refl e.st)) (λi x G C O hp l R e r=>?_) λD H6 S V fD X m=>?_⟩
 ·refine⟨rfl,λi y v j g=>?_⟩
  match i,j,g with
  |0,_,g=>cases g
  |1,_,g=>cases g
  |2,j,g=>cases j;cases g;exact⟨by trivial,0,rfl,rfl,by trivial⟩
  |i+3,j,_=>cases j
 ·obtain⟨c,d,p',rfl,B⟩:=bV M C;exact hg2 (e.aP o B) u fun G j g=>qq G j ⟨c,d,g⟩
 ·obtain⟨c,d,rfl⟩:=O;exact⟨_,rfl,_,rfl,a,c.2,rfl,e.st,(p c (v4 d)).2,λv H2 Z z=>r v H2 Z ⟨c,d,z⟩⟩
 ·rw[qR] at m;obtain⟨l1,l2⟩:=pA m;refine⟨D,_,rfl,SqL.of X,λt U _ Y g3=>q t U S (V.sm Y) g3 (aCg (by lia) λi k y L W=>?_)⟩;obtain⟨c,d,z⟩:=l2 i y W;rw[d] at L;cases L;exact z
end
end My
namespace L2
open PySem PySem.Spec PyProof.Rows
def aUm (c:KdV k a)(d:KdV k b)(h:kvlt a b=true):kvlt b a=false:=by
 cases k with
 |true=>obtain⟨x,rfl⟩:=c;obtain⟨y,rfl⟩:=d;have:=of_decide_eq_true (show decide (x<y)=true from h);exact v6 (by lia)
 |false=>obtain⟨x,rfl⟩:=c;obtain⟨y,rfl⟩:=d;have:=of_decide_eq_true (show decide (x.cps.toList<y.cps.toList)=true from h);exact v6 (List.lt_asymm this)
def bCl (f:KdV k a)(h:KdV k b)(i:KdV k c)(g:kvlt b a=false)(j:kvlt c b=false):kvlt c a=false:=by
 cases k with
 |true=>obtain⟨x,rfl⟩:=f;obtain⟨y,rfl⟩:=h;obtain⟨z,rfl⟩:=i;have:=of_decide_eq_false (show decide (y<x)=false from g);have:=of_decide_eq_false (show decide (z<y)=false from j);exact v6 (by lia)
 |false=>obtain⟨x,rfl⟩:=f;obtain⟨y,rfl⟩:=h;obtain⟨z,rfl⟩:=i;have d:=of_decide_eq_false (show decide (y.cps.toList<x.cps.toList)=false from g);have e:=of_decide_eq_false (show decide (z.cps.toList<y.cps.toList)=false from j);exact v6 (List.not_lt.mpr (List.le_trans (List.not_lt.mp d) (List.not_lt.mp e)))
def aWh (g:KdV k a)(j:KdV k b)(i:kvlt a b=false)(l:kvlt b a=false):a=b:=by
 cases k with
 |true=>obtain⟨x,rfl⟩:=g;obtain⟨y,rfl⟩:=j;have:=of_decide_eq_false (show decide (x<y)=false from i);have:=of_decide_eq_false (show decide (y<x)=false from l);rw[show x=y by lia]
 |false=>obtain⟨x,rfl⟩:=g;obtain⟨y,rfl⟩:=j;have c:=of_decide_eq_false (show decide (x.cps.toList<y.cps.toList)=false from i);have f:=of_decide_eq_false (show decide (y.cps.toList<x.cps.toList)=false from l);have e:=List.le_antisymm (List.not_lt.mp f) (List.not_lt.mp c);obtain⟨⟨d⟩⟩:=x;obtain⟨⟨h⟩⟩:=y;have:d=h:=e;rw[this]
def jP {k:Bool}{ks:List Bool}{a b:V}{r q:List V}(c:KdV k a)(d:KdV k b):rlt (a::r) (b::q)=if a=b then rlt r q else kvlt a b:=by
 cases k with
 |true=>
  obtain⟨x,rfl⟩:=c;obtain⟨y,rfl⟩:=d;show (if (x == y)=true then rlt r q else decide (x<y))=_;by_cases e:x=y
  ·subst e;rw[if_pos (by simp),if_pos rfl]
  ·rw[if_neg (by simpa using e),if_neg (by intro z;exact e (V.int.inj z))];rfl
 |false=>
  obtain⟨x,rfl⟩:=c;obtain⟨y,rfl⟩:=d;show (if (x == y)=true then rlt r q else decide (x.cps.toList<y.cps.toList))=_;by_cases e:x=y
  ·subst e;rw[if_pos (by simp),if_pos rfl]
  ·rw[if_neg (by simpa using e),if_neg (by intro z;exact e (V.str.inj z))];rfl
def aVs {ks:List Bool}{a:List V}(p:KdR ks a):∀{b},KdR ks b->rlt a b=true->rlt b a=false:=by
 induction p with
 |nil=>intro b q h;cases q;cases h
 |@cons k x ks a ha ta ih=>
  intro b q h;obtain _|⟨hb,tb⟩:=q;rename_i y b;rw[jP (ks:=ks) ha hb] at h;rw[jP (ks:=ks) hb ha];by_cases e:x=y
  ·rw[if_pos e] at h;rw[if_pos e.symm];exact ih tb h
  ·rw[if_neg e] at h;rw[if_neg (Ne.symm e)];exact aUm ha hb h
def bCa {ks:List Bool}{a:List V}(p:KdR ks a):∀{b c},KdR ks b->KdR ks c->rlt b a=false->rlt c b=false->rlt c a=false:=by
 induction p with
 |nil=>intro b c q r _ _;cases q;cases r;rfl
 |@cons k x ks a ha ta ih=>
  intro b c q r e d;obtain _|⟨hb,tb⟩:=q;obtain _|⟨hc,tc⟩:=r;rename_i y b z c;rw[jP (ks:=ks) hb ha] at e;rw[jP (ks:=ks) hc hb] at d;rw[jP (ks:=ks) hc ha];by_cases g:y=x
  ·subst g;rw[if_pos rfl] at e;by_cases f:z=y
   ·subst f;rw[if_pos rfl] at d ⊢;exact ih tb tc e d
   ·rw[if_neg f] at d ⊢;exact d
  ·rw[if_neg g] at e;by_cases f:z=y
   ·subst f;rw[if_neg g];exact e
   ·rw[if_neg f] at d;by_cases h:z=x
    ·subst h;exact absurd (aWh hc hb d e) f
    ·rw[if_neg h];exact bCl ha hb hc e d
def aTe {ks:List Bool}{a:List V}(p:KdR ks a):∀{b},KdR ks b->rlt a b=false->rlt b a=false->a=b:=by
 induction p with
 |nil=>intro b q _ _;cases q;rfl
 |@cons k x ks a ha ta ih=>
  intro b q c d;obtain _|⟨hb,tb⟩:=q;rename_i y b;rw[jP (ks:=ks) ha hb] at c;rw[jP (ks:=ks) hb ha] at d;by_cases e:x=y
  ·subst e;rw[if_pos rfl] at c d;rw[ih tb c d]
  ·rw[if_neg e] at c;rw[if_neg (Ne.symm e)] at d;exact absurd (aWh ha hb c d) e
def getD_mem {α:Type}{l:List α}{d:α}(hd:d∈l)(i:Nat):l.getD i d∈l:=by
 by_cases h:i<l.length
 ·rw[j0,b8 h];exact bAO h
 ·rw[j0,bAD (by lia)];exact hd
def range_getD {α:Type}(l:List α)(d:α):(List.range l.length).map (λi=>l.getD i d)=l:=by
 refine bCE λi=>?_;by_cases h:i<l.length
 ·rw[v5,bCR h,b8 h,bDP,j0,b8 h];rfl
 ·rw[bAD (by simpa using h),bAD (by lia)]
def bDy {α:Type}{p:α->α->Bool}(l:List α)(d:α){n:Nat}(C:n=l.length)(f:∀a∈l,∀b∈l,p a b=true->p b a=false)(y:∀a∈l,∀b∈l,∀c∈l,p b a=false->p c b=false->p c a=false) :
  ((PySem.W.eG n λi j=>p (l.getD i d) (l.getD j d)).map λi=>l.getD i d).Perm l/\((PySem.W.eG n λi j=>p (l.getD i d) (l.getD j d)).map λi=>l.getD i d).Pairwise λa b=>p b a=false:=by
 subst C;cases l with
 |nil=>
  have e:PySem.W.eG ([]:List α).length (λi j=>p (([]:List α).getD i d) (([]:List α).getD j d))=[]:=by have:=PySem.W.tL ([]:List α).length (λi j=>p (([]:List α).getD i d) (([]:List α).getD j d));exact List.length_eq_zero_iff.mp this
  rw[e];exact⟨.nil,.nil⟩
 |cons x0 l0=>
  generalize w:x0::l0=l at f y;have m:x0∈l:=by rw[<-w];exact j5
  have g:PySem.W.eG l.length (λi j=>p (l.getD i d) (l.getD j d))=PySem.W.eG l.length (λi j=>p (l.getD i x0) (l.getD j x0)):=PySem.W.N4.aM2 λi j o s=>by rw[j0,j0,j0,j0,b8 o,b8 s];rfl
  have S:PySem.W.N4.Swo λi j=>p (l.getD i x0) (l.getD j x0):=⟨λ{i j} h=>f _ (getD_mem m i) _ (getD_mem m j) h,λ{i j k} r A=>y _ (getD_mem m i) _ (getD_mem m j) _ (getD_mem m k) r A⟩;obtain⟨u,t⟩:=PySem.W.N4.aJ7 S;rw[<-g] at u t;have q:∀i∈PySem.W.eG l.length (λi j=>p (l.getD i d) (l.getD j d)),i<l.length:=λi o=>PySem.W.oN o;refine⟨?_,?_⟩
  ·have:=u.map λi=>l.getD i d;rw[range_getD] at this;exact this
  ·refine List.pairwise_map.mpr (bEA ?_ t);intro i j o s r;have v:=q i o;have x:=q j s;have z:l.getD i x0=l.getD i d:=by rw[j0,j0,b8 v];rfl
   have B:l.getD j x0=l.getD j d:=by rw[j0,j0,b8 x];rfl
   rw[z,B] at r;exact r
def lH (h:∀r∈rs,KdR ks r):(srt rs).Perm rs/\(srt rs).Pairwise λa b=>rlt b a=false:=by obtain⟨f,i⟩:=bDy rs [] rfl (λa d b e=>aVs (h a d) (h b e)) (λa d b e c g=>bCa (h a d) (h b e) (h c g));exact⟨f,i⟩
theorem yO {α:Type}{lt:α->α->Bool}:∀{l m:List α},l.Perm m->(∀a∈l,∀b∈l,lt a b=false->lt b a=false->a=b)->l.Pairwise (λa b=>lt b a=false)->m.Pairwise (λa b=>lt b a=false)->l=m
 |[],m,p,_,_,_=>(List.perm_nil.mp p.symm).symm
 |a::l,[],p,_,_,_=>absurd (List.perm_nil.mp p) (by simp)
 |a::l,b::m,p,anti,hl,hm=>by
  rw[List.pairwise_cons] at hl hm;have d:=p.subset j5;have c:=p.symm.subset j5;have e:a=b:=by
   rcases List.mem_cons.mp d with z|z
   ·exact z
   ·rcases List.mem_cons.mp c with y|y
    ·exact y.symm
    ·exact anti a j5 b c (hm.1 a z) (hl.1 b y)
  subst e;rw[yO (List.Perm.cons_inv p) (λx g y f=>anti x (j7 _ g) y (j7 _ f)) hl.2 hm.2]
def sJ (h:∀r∈rs,KdR ks r)(p:rs.Perm qs):srt rs=srt qs:=by have f:∀r∈qs,KdR ks r:=λr c=>h r (p.symm.subset c);obtain⟨d,l⟩:=lH h;obtain⟨g,i⟩:=lH f;have e:∀r∈srt rs,KdR ks r:=λr c=>h r (d.subset c);exact yO (d.trans (p.trans g.symm)) (λa j b k=>aTe (e a j) (e b k)) l i
end L2
namespace PySem.SeqAt
open PySem PySem.Spec
abbrev opG:Bool->CmpOp
 |true=>.Gt
 |false=>.LtE
def aZx (g:Bool)(A:Around)(s:Shared)(y x:Value)(b:Bool):Prop:=
 ∀prog w E Q,Q (.bool b) s->wpAny (model prog w) A (richCompare (opG g) y x) Q E s
def fnG:Bool->Args->Sem Fin
 |true=>Builtin.«tuple.__gt__»
 |false=>Builtin.«tuple.__le__»
def leW (e c:Nat->Bool)(l:List Nat)(z:Bool):Bool:=l.foldr (λj acc=>if e j then acc else c j) z
def aK1 (g z:Bool)(D:z=!g)(l b:Addr)(items items2:Array Value)(n n2:Nat)(dd dd2:Option Addr)(sl sl2:Array (Option Value))(e c:Nat->Bool)(p:items.size=items2.size) :
  Meets (fnG g ⟨[.ref l,.ref b],[]⟩)
   (λA R s=>s.heap.get? l=some { cls:=.type "tuple",dict:=dd,data:=.seq items n,slots:=sl }/\s.heap.get? b=some { cls:=.type "tuple",dict:=dd2,data:=.seq items2 n2,slots:=sl2 } /\
    (∀j (h1:j<items.size) (h2:j<items2.size),EqAt A.in1 s items[j] items2[j] (e j))/\(∀j (h1:j<items.size) (h2:j<items2.size),aZx g A.in1 s items[j] items2[j] (c j)) /\
    R (.ok (.ret (.bool (leW e c (List.range items.size) z)))) s):=
 .of_wp λa w A R s h=>by
  cases g;all_goals
   unfold fnG;obtain⟨t,o,d,m,q⟩:=s;obtain⟨H,J,I,F,h⟩:=h;have L:=AutoSeq1.sub_tuple_tuple;have C:(items.toList.zip items2.toList).length=items.size:=by simp[p]
   wp_walk using wpAny_loadPart' H,wpAny_loadPart' J,bEZ _ (λk b v=>b.1=none/\v=⟨t,o,d,m,q⟩/\∃i,k=(items.toList.zip items2.toList).drop i /\
    R (.ok (.ret (.bool (leW e c ((List.range items.size).drop i) z)))) ⟨t,o,d,m,q⟩) _
   case turn=>
    rintro⟨y,x⟩ k b v ⟨hb',rfl,i,hz,hR⟩;have r:i<(items.toList.zip items2.toList).length:=by
     rcases Nat.lt_or_ge i (items.toList.zip items2.toList).length with h'|h'
     ·exact h'
     ·rw[bEQ h'] at hz;cases hz
    have h1:i<items.size:=C ▸ r;have h2:i<items2.size:=p ▸ h1;rw[bDX r] at hz;injection hz with hyx hrest;have u:y=items[i]:=by have:=congrArg Prod.fst hyx;simpa using this
    have K:x=items2[i]:=by have:=congrArg Prod.snd hyx;simpa using this
    subst u K;have hd:(List.range items.size).drop i=i::(List.range items.size).drop (i+1):=by simp[bDX,h1]
    rw[hd] at hR;have f:R (.ok (.ret (.bool (if e i then leW e c ((List.range items.size).drop (i+1)) z else c i)))) ⟨t,o,d,m,q⟩:=hR;refine b7 (I i h1 h2 a w _ _ ?_);cases u:e i with
    |true=>rw[u] at f;wp_walk;exact⟨rfl,rfl,i+1,hrest,by simpa using f⟩
    |false=>rw[u] at f;have G:∀{E:bF0} {Q:bF0},Q (.bool (c i)) ⟨t,o,d,m,q⟩->wpAny (model a w) A.in1 (richCompare _ items[i] items2[i]) Q E ⟨t,o,d,m,q⟩:=λ{E Q} h=>F i h1 h2 a w E Q h;wp_walk using G;exact⟨_,rfl,by simpa using f⟩
   case fin=>
    rintro⟨M,N⟩ v ⟨hb',rfl,i,hz,hR⟩;simp only at hb';subst hb';have B:items.size<=i:=by
     rcases Nat.lt_or_ge i (items.toList.zip items2.toList).length with h'|h'
     ·rw[bDX h'] at hz;cases hz
     ·exact C ▸ h'
    rw[bEQ (by simpa using B)] at hR;wp_walk;exact⟨_,rfl,by simpa [Builtin.Tuple.tupleCompareSizes,p,leW,D] using hR⟩
   case h=>exact⟨rfl,rfl,0,rfl,by simpa using h⟩
end PySem.SeqAt
namespace L2
open PySem PySem.Spec PyProof.Rows
theorem aKh (g:Bool):∀{ks:List Bool} {a b:List V},KdR ks a->KdR ks b->SeqAt.leW (λj=>decide (a.getD j .non=b.getD j .non)) (λj=>kvlt (b.getD j .non) (a.getD j .non) == g) (List.range a.length) (!g)=(rlt b a == g)
 |_,_,_,.nil,.nil=>by cases g <;> rfl
 |_,x::a,y::b,.cons (as:=ks) ha ta,.cons hb tb=>by
  have c:=aKh g ta tb;rw[jP (ks:=ks) hb ha,j9,List.range_succ_eq_map];show (if decide (x=y)=true then SeqAt.leW (λj=>decide ((x::a).getD j .non=(y::b).getD j .non)) (λj=>kvlt ((y::b).getD j .non) ((x::a).getD j .non) == g) ((List.range a.length).map Nat.succ) (!g) else (kvlt y x == g))=_;by_cases e:x=y
  ·rw[if_pos (m9 e),if_pos e.symm,<-c];unfold SeqAt.leW;rw[List.foldr_map];rfl
  ·rw[if_neg (by rw[v6 e];exact v8),if_neg (Ne.symm e)]
def bEx (g:Bool)(K:bFZ):R2:=λx y H Q=>∃ks r q,cP K H x r/\cP K H y q/\KdR ks r/\KdR ks q/\Q (.bl (rlt q r == g)) H
theorem aQv (g:Bool)(hu:X.A.units+64<cLine):OpR X (compareOp (SeqAt.opG g)) (bEx g X.K):=by
 intro a3 s σ H x y v u Q I rx ry h;obtain⟨ks,r,q,⟨a,rfl,ha⟩,⟨b,rfl,hb⟩,hr,hq,L⟩:=h;cases rx;cases ry;obtain⟨f,r1,⟨⟨a4,dd,a2,sl⟩,W,hc,n,hd⟩,hz⟩:=I.tuple ha;obtain⟨i,r2,⟨⟨a1,Z,a0,Y⟩,o,S,n2,T⟩,hw⟩:=I.tuple hb;simp only at hc hd S T;subst hc hd S T;have l1:=r1.length;have l2:=r2.length;have G:=Al2.len hr;have B:=Al2.len hq;have p:∀j (t:j<f.toArray.size) (D:j<i.toArray.size),∃k,KdV k (r.getD j .non)/\KdV k (q.getD j .non)/\RelV (r.getD j .non) f.toArray[j]/\RelV (q.getD j .non) i.toArray[j]:=λj t D=>by
  rw[j6] at t D;have hj:j<ks.length:=by lia
  have M:j<r.length:=by lia
  have J:j<q.length:=by lia
  have er:r.getD j .non=r[j]:=by simp[M]
  have eq:q.getD j .non=q[j]:=by simp[J]
  obtain⟨w1,g1,g2⟩:=r1.get (b8 M);obtain⟨w2,g3,g4⟩:=r2.get (b8 J);rw[er,eq];refine⟨ks[j],hr.get (b8 hj) (b8 M),hq.get (b8 hj) (b8 J),?_,?_⟩
  ·rw[bCB,(List.getElem?_eq_some_iff.mp g1).2];exact g2
  ·rw[bCB,(List.getElem?_eq_some_iff.mp g3).2];exact g4
 have sz:f.toArray.size=r.length:=by rw[j6];lia
 have sj:f.toArray.size=i.toArray.size:=by rw[j6,j6];lia
 have tc:=SeqAt.aK1 g (!g) rfl a b f.toArray i.toArray n n2 dd Z sl Y (λj=>decide (r.getD j .non=q.getD j .non)) (λj=>kvlt (q.getD j .non) (r.getD j .non) == g) sj;have C:=aKh g hr hq;have l:∀j (t:j<f.toArray.size) (D:j<i.toArray.size),SeqAt.EqAt X.A.in1 s f.toArray[j] i.toArray[j] (decide (r.getD j .non=q.getD j .non)):=λj t D=>by
  obtain⟨k,G,B,l,m⟩:=p j t D;generalize r.getD j .non=y1 at G l;generalize q.getD j .non=y2 at B m;generalize f.toArray[j]=w1 at l;generalize i.toArray[j]=w2 at m;cases k with
  |true=>
   obtain⟨c,rfl⟩:=G;obtain⟨d,rfl⟩:=B;obtain⟨O,rfl⟩:=l;obtain⟨R,rfl⟩:=m;have z:=bEH (A:=X.A.in1) (s:=s) c O d R;have e:(c == d)=decide (V.int c=V.int d):=by by_cases e:c=d <;> simp[e]
   rw[<-e];exact z
  |false=>
   obtain⟨c,rfl⟩:=G;obtain⟨d,rfl⟩:=B;obtain⟨O,rfl⟩:=l;obtain⟨R,rfl⟩:=m;have z:=bDL (A:=X.A.in1) (s:=s) c O d R;have e:(c == d)=decide (V.str c=V.str d):=by by_cases e:c=d <;> simp[e]
   rw[<-e];exact z
 have m:∀j (t:j<f.toArray.size) (D:j<i.toArray.size),SeqAt.aZx g X.A.in1 s f.toArray[j] i.toArray[j] (kvlt (q.getD j .non) (r.getD j .non) == g):=λj t D=>by
  obtain⟨k,G,B,l,m⟩:=p j t D;generalize r.getD j .non=y1 at G l;generalize q.getD j .non=y2 at B m;generalize f.toArray[j]=w1 at l;generalize i.toArray[j]=w2 at m;cases k with
  |true=>
   obtain⟨c,rfl⟩:=G;obtain⟨d,rfl⟩:=B;obtain⟨O,rfl⟩:=l;obtain⟨R,rfl⟩:=m;intro N w E Q U;cases g
   ·refine le_int ?_;have e:decide (c<=d)=(kvlt (.int d) (.int c) == false):=by show decide (c<=d)=(decide (d<c) == false);by_cases z:c<=d <;> simp[z] <;> lia
    rw[e];exact U
   ·refine gt_int ?_;rw[show decide (d<c)=(kvlt (.int d) (.int c) == true) by show _=(decide (d<c) == true);simp];exact U
  |false=>
   obtain⟨c,rfl⟩:=G;obtain⟨d,rfl⟩:=B;obtain⟨O,rfl⟩:=l;obtain⟨R,rfl⟩:=m;intro N w E Q U;cases g
   ·refine P.le_str ?_;rw[show (!decide (d.cps.toList<c.cps.toList))=(kvlt (.str d) (.str c) == false) by show _=(decide (d.cps.toList<c.cps.toList) == false);simp];exact U
   ·refine P.gt_str ?_;rw[show decide (d.cps.toList<c.cps.toList)=(kvlt (.str d) (.str c) == true) by show _=(decide (d.cps.toList<c.cps.toList) == true);simp];exact U
 rw[<-sz] at C;rw[<-C] at L;cases g
 ·exact richCompare_meets_room (op:=.LtE) ⟨_,W,rfl⟩ ⟨_,o,rfl⟩ F.slot_tuple_le F.entry_tuple_le (F.args_tuple_le_2 _ _) tc ⟨W,o,l,m,(λz=>nomatch z),⟨.bl _,H,I,rfl,L⟩⟩ (by lia)
 ·exact richCompare_meets_room (op:=.Gt) ⟨_,W,rfl⟩ ⟨_,o,rfl⟩ F.slot_tuple_gt F.entry_tuple_gt (F.args_tuple_gt_2 _ _) tc ⟨W,o,l,m,(λz=>nomatch z),⟨.bl _,H,I,rfl,L⟩⟩ (by lia)
def bEj (K:bFZ):R2:=λx y H Q=>∃ks r q,cP K H x r/\cP K H y q/\KdR ks r/\KdR ks q/\Q (.bl (!rlt q r)) H
def bD3 (K:bFZ):R2:=λx y H Q=>∃ks r q,cP K H x r/\cP K H y q/\KdR ks r/\KdR ks q/\Q (.bl (rlt q r)) H
def bB2 (j:X.A.units+64<cLine):OpR X (compareOp .LtE) (bEj X.K):=λa s σ H x y v u Q I c e ⟨i,r,q,f,d,b,g,h⟩=>aQv false j a s σ H x y v u Q I c e ⟨i,r,q,f,d,b,g,by rw[show (rlt q r == false)=!rlt q r by simp];exact h⟩
def aUu (j:X.A.units+64<cLine):OpR X (compareOp .Gt) (bD3 X.K):=λa s σ H x y v u Q I c e ⟨i,r,q,f,d,b,g,h⟩=>aQv true j a s σ H x y v u Q I c e ⟨i,r,q,f,d,b,g,by rw[show (rlt q r == true)=rlt q r by simp];exact h⟩
theorem aIf {K:bFZ}{H:Hp}:∀{r:List V},(∀x∈r,(∃i,x=.int i)\/∃z,x=.str z)->∀n,Al2 (DEq K H n) r r
 |[],_,_=>.nil
 |x::r,h,n=>.cons (by rcases h x j5 with⟨i,rfl⟩|⟨z,rfl⟩ <;> cases n <;> first|exact⟨rfl,rfl⟩|exact .inl ⟨rfl,rfl⟩) (aIf (λy a=>h y (j7 _ a)) n)
def aUx {K:bFZ}{H:Hp}{us ws:List V}{rs:List (List V)}(j:Al2 (cP K H) us rs)(f:Al2 (cP K H) ws rs)(m:∀r∈rs,∀x∈r,(∃i,x=.int i)\/∃z,x=.str z):Al2 (DEq K H 40) us ws:=by refine Al2.of (j.len.trans f.len.symm) λi u w e h=>?_;obtain⟨r,d,a,rfl,g⟩:=j.at e;obtain⟨l,c,b,rfl,k⟩:=f.at h;rw[d] at c;cases c;exact .inr ⟨a,b,r,r,rfl,rfl,g,k,aIf (m r (v4 d)) 39⟩
def aW4 (K:bFZ):R2:=λx y H Q=>∃a b us ws rs,x=.ref a/\y=.ref b/\SqL K H a us/\SqL K H b ws/\Al2 (cP K H) us rs/\Al2 (cP K H) ws rs/\(∀r∈rs,∀x∈r,(∃i,x=.int i)\/∃z,x=.str z)/\Q (.bl false) H
def yU (hu:X.A.units+64<cLine):OpR X (compareOp .NotEq) (aW4 X.K):=by
 intro k s σ H x y v u Q I o w h;obtain⟨a,b,M,L,F,rfl,rfl,p,r,B,t,j,q⟩:=h;cases o;cases w;obtain⟨m,f,C,D⟩:=I.list p;obtain⟨z,c,n,J⟩:=I.list r;have d:=aUx B t j;have l:=d.len;have G:=f.length;have E:=c.length;refine SeqAt.RcNeAt.lists (e:=λ_=>true) C.isList n.isList (by rw[j6,j6];lia) (by lia) (uW I f c d λd i g=>zX I 40 d i g (by show X.A.units+1+40<cLine;lia)) _ _ _ _ ?_;first
  |(rw[wC];exact⟨.bl _,H,I,rfl,q⟩)
  |(simp only[wC];exact⟨.bl _,H,I,rfl,q⟩)
end L2
namespace My
open PySem PySem.Spec PyProof.Rows L2
section
variable {P:Program}{w:World}{K:bFZ}{mg:bF2}{base:Heap}
def aS8 (a:X.A.units+1<cLine)(ho:VE X o td)(b:VE X e ty)(m:M1 X o "get" apos e cpos:=by exact⟨rfl,rfl,rfl,rfl⟩):VE X (.Call (.Attribute o "get" apos) [e] [] cpos) (aWu td ty):=⟨aUl a ho.1 b.1 m⟩
def bBf (a:X.A.units+1<cLine)(hi:VE X i ty)(ho:VE X o td)(b:behindInMarks .In o=false:=by first|exact nobehind _ (by decide) (by decide)|rfl):VT X (.Compare i [.In] [o] pos) (tB (bEq ty td)):=⟨aTs (bCc a hi.1 ho.1) b⟩
structure bI (K:bFZ)(H:Hp)(C x:Addr)(m:Int)(d dm:Addr)(es:List En):Prop where
 at_:∃dx,H x=some (.ins C dx [("placed",.ref d),("house_count",.int m),("moves",.ref dm)])
 ens:gY K H d es
 ok:∀e∈es,jR m e.t
 ne:d≠dm
def bI.same (s:Same H H')(h:bI K H C x m d dm es):bI K H' C x m d dm es:=
 ⟨let ⟨dx,h1⟩:=h.at_;⟨dx,s _ _ h1⟩,h.ens.same s,h.ok,h.ne⟩
structure Mv where
 num:Nat
 house:Int
 mark:Option (List V)
def aH4 (K:bFZ)(H:Hp)(v:V):Option (List V)->Prop
 |none=>v=.non
 |some r=>cP K H v r
def qM (K:bFZ)(H:Hp)(v:V)(q:Mv):Prop:=∃a vm,v=.ref a/\SqT K H a [.int q.num,.int q.house,vm]/\aH4 K H vm q.mark
def aH4.tk (k:∀p xs,SqT K H p xs->SqT K H' p xs)(h:aH4 K H v o):aH4 K H' v o:=by
 cases o with
 |none=>exact h
 |some r=>obtain⟨a,e,b⟩:=h;exact⟨a,e,k _ _ b⟩
def qM.tk (k:∀p xs,SqT K H p xs->SqT K H' p xs)(h:qM K H v q):qM K H' v q:=
 let ⟨a,vm,e,ha,hm⟩:=h;⟨a,vm,e,k _ _ ha,hm.tk k⟩
def qM.same (s:Same H H')(h:qM K H v q):qM K H' v q:=h.tk λ_ _=>s.aP
def aH4.same (s:Same H H')(h:aH4 K H v o):aH4 K H' v o:=h.tk λ_ _=>s.aP
def MvV (K:bFZ)(H:Hp)(v:V):Option Mv->Prop
 |none=>v=.non
 |some q=>qM K H v q
def mvO (o:Option Mv)(v:V):Option V:=match o with|none=>none|some _=>some v
def MvD (K:bFZ)(H:Hp)(dm:Addr)(nm:Str)(o:Option Mv):Prop:=∃kvs v,H dm=some (.dK kvs)/\fQ kvs (Sum.inr nm)=mvO o v/\MvV K H v o
def MvD.kp {S:Addr->Prop}{H H':Hp}{dm:Addr}{nm:Str}{o:Option Mv}(e:∀u,H dm=some u->H' dm=some u)(tk:∀p xs,SqT K H p xs->SqT K H' p xs)(h:MvD K H dm nm o):MvD K H' dm nm o:=by
 obtain⟨a,v,c,d,b⟩:=h;refine⟨a,v,e _ c,d,?_⟩;cases o with
 |none=>exact b
 |some q=>exact qM.tk tk b
def MvD.same {H H':Hp}{dm:Addr}{nm:Str}{o:Option Mv}(s:Same H H')(h:MvD K H dm nm o):MvD K H' dm nm o:=h.kp (S:=λ_=>True) (λu h=>s _ _ h) λ_ _=>s.aP
inductive aMl (K:bFZ)(C Pt:Addr)(vs:List V)(H:Hp)(Q:VK)(E_:XK):Prop
 |mk (H0:Hp) (x dx d:Addr) (m:Int) (es:List En) (_:vs=[.ref x,.int m,.ref d]) (_:H x=some (.ins C dx [])) (_:H0 x=none) (_:Same H0 H) (_:1<=m) (_:m<=6) (_:gY K H0 d es) (_:(∀e∈es,jR m e.t)) (_:H0 Pt=some (.tab qC)) (_:∀d' dm H' es',H0 d'=none->H0 dm=none->Same H0 H'->bI K H' C x m d' dm es'->H' dm=some (.dK [])->bW (λe e'=>∃v L,e'=aOh e v L/\H0 L=none) es es'->Q .non H')
def aQ7 (T:Txt w K mg){C Pt:Addr}(c:Cls K C)(D:eZ K C "__init__" "Store.__init__" jH o7)(n1:bU K C "placed")(n2:bU K C "house_count")(n3:bU K C "moves")(jX:Ok P w K mg base 10 "placed_tables" bQB (aAg K Pt)):OkM P w K mg base C 11 "__init__" o7 (aMl K C Pt):=by
 refine OkM.ofV c D wW (by trivial) (λf a0 A I s H vs Q E hr h=>?_)
 obtain⟨H0,x,a,d,m,es,rfl,V,Z,n,m1,m6,hE,W,Y,q⟩:=h;refine⟨_,(aC (aDp (K:=K) (vv 0) (aV jX (aH (vv 1) (va1 (vv 2))))) (aC (aDp (K:=K) (vv 0) (vv 1)) (aD (aDp (K:=K) (vv 0) aCv)))),?_⟩;refine⟨_,rfl,_,rfl,d,m,es,rfl,m1,m6,hE.same n,W,n _ _ Y,λg k N l J i R=>?_⟩;have p:=J _ _ V;refine⟨_,rfl,x,C,a,[],rfl,p,c,n1,by decide,?_⟩;refine⟨_,rfl,_,rfl,x,C,a,_,rfl,aG,c,n2,by show 1<1000;decide,?_⟩;have nx:dH k x:=dH.ins p;have t:g≠x:=λz=>by rw[z,V] at l;cases l
 have F:But x k (L2.upd (L2.upd k x (.ins C a (iZ "placed" (.ref g) []))) x (.ins C a (iZ "house_count" (.int m) (iZ "placed" (.ref g) [])))):=λb o r h=>by rw[aQ r,aQ r];exact h
 have y:L2.upd (L2.upd k x (.ins C a (iZ "placed" (.ref g) []))) x (.ins C a (iZ "house_count" (.int m) (iZ "placed" (.ref g) []))) x=some (.ins C a [("placed",.ref g),("house_count",.int m)]):=aG;have O:∀{b},L2.upd (L2.upd k x (.ins C a (iZ "placed" (.ref g) []))) x (.ins C a (iZ "house_count" (.int m) (iZ "placed" (.ref g) []))) b=none->k b=none:=λ{b} h=>by
  by_cases z:b=x
  ·rw[z,aG] at h;cases h
  ·rw[aQ z,aQ z] at h;exact h
 generalize L2.upd (L2.upd k x (.ins C a (iZ "placed" (.ref g) []))) x (.ins C a (iZ "house_count" (.int m) (iZ "placed" (.ref g) [])))=H2 at F y O ⊢;refine λu S j U g3=>?_;refine⟨_,rfl,x,C,a,_,rfl,U _ _ y,c,n3,by show 2<1000;decide,?_⟩;have M:But x k (L2.upd S x (.ins C a [("placed",.ref g),("house_count",.int m),("moves",.ref u)])):=λb o r h=>by rw[aQ r];exact U _ _ (F _ _ r h)
 have B:u≠x:=λz=>by rw[z,y] at j;cases j
 have s2:Same H0 (L2.upd S x (.ins C a [("placed",.ref g),("house_count",.int m),("moves",.ref u)])):=λb o h=>M _ _ (λz=>by rw[z,Z] at h;cases h) (J _ _ (n _ _ h));refine q g u _ N (none_of n l) (none_of (n.trans J) (O j)) s2 ⟨⟨a,aG⟩,⟨M _ _ t i.at_,i.nd,i.few,i.nm,λe G=>M.tb nx (i.tb e G)⟩,λe G=>?_,λz=>?_⟩ (by rw[aQ B];exact g3) (R.imp λe e' ⟨v,L,X,e2⟩=>⟨v,L,X,none_of n e2⟩)
 ·obtain⟨e0,h0,v,L,rfl,_⟩:=oA R G;exact (W e0 h0).sorted
 ·have:=F _ _ t i.at_;rw[z,j] at this;cases this
inductive aQa (K:bFZ)(C Ct Pt:Addr)(vs:List V)(H:Hp)(Q:VK)(E_:XK):Prop
 |mk (x d dm:Addr) (m:Int) (es:List En) (_:vs=[.ref x]) (_:bI K H C x m d dm es) (_:1<=m) (_:m<=6) (_:H Pt=some (.tab qC)) (_:∀y d' H' es',H y=none->H d'=none->Same H H'->rW K H' Ct y m d' es'->bW (λe e'=>∃v L,e'=aOh e v L/\H L=none) es es'->Q (.ref y) H')
def aTj (T:Txt w K mg)(c:Cls K C)(D:eZ K C "town" "Store.town" pH ["self"])(M:bU K C "placed")(O:bU K C "house_count")(a:OkC P w K mg base Ct 11 "Town" o7 (aQu K Ct Pt)):OkM P w K mg base C 13 "town" ["self"] (aQa K C Ct Pt):=by
 refine OkM.ofV c D aEv (by trivial) (λf L A g s H N Q E F h=>?_)
 obtain⟨x,d,R,m,G,rfl,i,B,v,r,q⟩:=h;refine⟨_,(aD (aM (aPd (a.mono (by decide)) F (by rfl) (aH (cV (K:=K) (vv 0)) (va1 (cV (K:=K) (vv 0))))))),?_⟩;obtain⟨n,l⟩:=i.at_;refine⟨_,rfl,x,C,n,_,_,rfl,l,c,O,rfl,_,rfl,x,C,n,_,_,rfl,l,c,M,rfl,λy o b e z=>?_⟩;refine⟨H,y,o,d,m,G,rfl,aG,b,gJ b (aZ e _),B,v,i.ens,i.ok,r,λt p j k J I u=>⟨rfl,?_⟩⟩;exact q y t p j b k J I u
inductive xN (K:bFZ)(C:Addr)(vs:List V)(H:Hp)(Q:VK)(E_:XK):Prop
 |mk (x d dm:Addr) (m:Int) (es:List En) (e:En) (n:Str) (h0:Int) (cs:List (V × Int)) (_:vs=[.ref x,.str e.n]) (_:bI K H C x m d dm es) (_:e∈es) (_:e.t.pl=.spans n h0 cs) (_:∀H',Same H H'->Q e.v H')
def aTg (T:Txt w K mg)(c:Cls K C)(D:eZ K C "cut_table" "Store.cut_table" iV n6)(G:bU K C "placed")(L:Ok P w K mg base 3 "table_in" z8 (pM K)):OkM P w K mg base C 4 "cut_table" n6 (xN K C):=by
 refine OkM.ofV c D lV (by trivial) (λf F A i s H M Q E R h=>?_)
 obtain⟨x,d,S,m,t,e,n,V,I,rfl,j,k,g,q⟩:=h;have N:=lV.nd;refine⟨_,(aC (aY 2 (aV L (aH (cV (K:=K) (vv 0)) (va1 (vv 1))))) (aC (bO (cX wN (aR aO (aR aO (vv 2) aB) aB) bH) (aD dR) aW) (aD (aM (vv 2))))),?_⟩;obtain⟨y,v⟩:=j.at_;refine⟨_,rfl,x,C,y,_,_,rfl,v,c,G,rfl,_,rfl,d,t,e,rfl,j.ens,k,λp o=>?_⟩;obtain⟨a,r,u,U,l,O⟩:=(j.ens.tb e k).same o;rw[g] at l;obtain⟨b,W,B,z,J⟩:=l;refine⟨_,rfl,a,_,1,_,r,rfl,u,at1 _ _ _,b,_,0,_,B,rfl,z,at0 _ _,rfl,_,rfl,dI (by decide) ?_⟩;exact⟨_,rfl,q p o⟩
inductive aC1 (K:bFZ)(C:Addr)(vs:List V)(H:Hp)(Q:VK)(E_:XK):Prop
 |mk (x d dm:Addr) (m:Int) (es:List En) (n:Str) (_:vs=[.ref x,.str n]) (_:bI K H C x m d dm es) (_:MvD K H dm n none) (_:Q .non H)
def aS2 (T:Txt w K mg)(c:Cls K C)(D:eZ K C "need_still" "Store.need_still" gO n6)(u:bU K C "moves"):OkM P w K mg base C 1 "need_still" n6 (aC1 K C):=by
 refine OkM.ofV c D tV (by trivial) (λf p A a s H y Q E b h=>?_)
 obtain⟨x,d,g,m,t,n,rfl,o,⟨e,v,r,l,_⟩,q⟩:=h;have j:=mC b;refine⟨_,(aD (bO (bBf j (vv 1) (cV (K:=K) (vv 0))) (aD dR) aW)),?_⟩;obtain⟨k,i⟩:=o.at_;exact⟨_,rfl,_,rfl,x,C,k,_,_,rfl,i,c,u,rfl,g,none,rfl,.inl ⟨_,Sum.inr n,.inl r,rfl,l.symm⟩,_,rfl,cB q⟩
inductive zG (K:bFZ)(C:Addr)(vs:List V)(H:Hp)(Q:VK)(E_:XK):Prop
 |mk (x d dm:Addr) (m:Int) (es:List En) (n:Str) (v:V) (kvs:List (Key × V)) (_:vs=[.ref x,.str n]) (_:bI K H C x m d dm es) (_:H dm=some (.dK kvs)) (_:fQ kvs (Sum.inr n)=some v) (_:Q v H)
def aN6 (T:Txt w K mg)(c:Cls K C)(D:eZ K C "move_of" "Store.move_of" jW n6)(p:bU K C "moves"):OkM P w K mg base C 1 "move_of" n6 (zG K C):=by
 refine OkM.ofV c D aAe (by trivial) (λf t A a s H y Q E l h=>?_)
 obtain⟨x,d,b,m,u,n,v,o,rfl,r,k,j,q⟩:=h;have g:=mC l;refine⟨_,(aC (bO (aE8 g (vv 1) (cV (K:=K) (vv 0))) (aD dR) aW) (aD (aM (iK g (cV (K:=K) (vv 0)) (vv 1) (λ_ _=>rfl))))),?_⟩;obtain⟨i,e⟩:=r.at_;refine⟨_,rfl,_,rfl,x,C,i,_,_,rfl,e,c,p,rfl,b,some v,rfl,.inl ⟨_,Sum.inr n,.inl k,rfl,j.symm⟩,_,rfl,cB ?_⟩;exact⟨_,rfl,x,C,i,_,_,rfl,e,c,p,rfl,_,rfl,b,v,rfl,.inl ⟨_,Sum.inr n,.inl k,rfl,j.symm⟩,q⟩
inductive zF (K:bFZ)(C:Addr)(vs:List V)(H:Hp)(Q:VK)(E_:XK):Prop
 |mk (x d dm:Addr) (m:Int) (es:List En) (e:En) (o:Option Mv) (_:vs=[.ref x,.str e.n]) (_:bI K H C x m d dm es) (_:e∈es) (_:MvD K H dm e.n o) (_:∀v H',Same H H'->MvV K H' v o->Q v H')
def aO7 (T:Txt w K mg)(c:Cls K C)(D:eZ K C "moving" "Store.moving" lU n6)(J:bU K C "placed")(u:bU K C "moves")(L:Ok P w K mg base 3 "table_in" z8 (pM K)):OkM P w K mg base C 4 "moving" n6 (zF K C):=by
 refine OkM.ofV c D aBa (by trivial) (λf I A i s H M Q E F h=>?_)
 obtain⟨x,d,l,m,G,e,o,rfl,p,B,z,q⟩:=h;have t:=mC F;refine⟨_,(aC (cM (aV L (aH (cV (K:=K) (vv 0)) (va1 (vv 1))))) (aD (aM (aS8 t (cV (K:=K) (vv 0)) (vv 1))))),?_⟩;obtain⟨g,b⟩:=p.at_;refine⟨_,rfl,x,C,g,_,_,rfl,b,c,J,rfl,_,rfl,d,G,e,rfl,p.ens,B,λj a=>?_⟩;obtain⟨r,v,hd,k,y⟩:=z.same a;cases o with
 |none=>exact⟨_,rfl,x,C,g,_,_,rfl,a _ _ b,c,u,rfl,l,rfl,.inl ⟨_,.inl hd⟩,_,rfl,none,.inl ⟨_,Sum.inr e.n,.inl hd,rfl,k.symm⟩,q .non j a rfl⟩
 |some mq=>exact⟨_,rfl,x,C,g,_,_,rfl,a _ _ b,c,u,rfl,l,rfl,.inl ⟨_,.inl hd⟩,_,rfl,some v,.inl ⟨_,Sum.inr e.n,.inl hd,rfl,k.symm⟩,q v j a y⟩
def tD (v:bN K H a rs)(hl:rs.length<=1000)(p:List V->Bool)(o:σ0[0]?=some none)
  (n:∀(u:V) (r:List V),r∈rs->∀H' R l,Same H H'->cP K H' u r->(∀H2,Same H' H2->R (p r) H2)->tt ((σ0.set 0 l).set 0 (some u)) H' R)
  (q:∀D H',H D=none->Same H H'->bN K H' D (rs.filter p)->Q (.ref D) H'):oG (Itl K a) H σ0 (bR 0) tt (aKf 0) Q:=by
 obtain⟨m,g,b⟩:=v;have t:=b.len;refine aCp m (λi=>p (rs.getD i [])) σ0 (small (by lia)) (aXa λH' s=>SqL.of (s _ _ g)) (aRo λH' s=>SqL.of (s _ _ g)) (λi u k H' R l c e=>?_) o λD H' h c j=>?_
 ·obtain⟨r,d,f⟩:=bV b k;rw[j0,d,bBO] at e;exact n u r (v4 d) H' R l c (f.same c) e
 ·refine q D H' h c ⟨_,j,?_⟩;rw[<-jD (p:=λi=>p (rs.getD i [])) (p':=p) λi r d=>by rw[bDA,j0,d];rfl];exact (wD b 0).imp λ_ _ r=>r.same c
def gV (hd:Hdr)(n:Str)(cs:List (V × Int))(num:Nat)(r:List V):Bool:=decide (dU (r.getD (plc hd n) .non) cs 1 0=num)
def zU:Option (List V)->List V->Bool
 |none,_=>true
 |some q,r=>rlt q r
inductive aC5 (K:bFZ)(vs:List V)(H:Hp)(Q:VK)(E_:XK):Prop
 |mk (vr vm:V) (r:List V) (o:Option (List V)) (ks:List Bool) (_:vs=[vr,vm]) (_:cP K H vr r) (_:aH4 K H vm o) (_:KdR ks r) (_:(∀q,o=some q->KdR ks q)) (_:Q (.bl (zU o r)) H)
def aJu (T:Txt w K mg):Ok P w K mg base 1 "is_above" bXA (aC5 K):=by
 refine Ok.ofV T.aOg aI8 (by trivial) (λf k A c s H u Q E j h=>?_)
 obtain⟨t,p,r,o,m,rfl,d,a,g,e,q⟩:=h;have l:=j.units;refine⟨_,(aD (aM (bAd (yN aOj (vv 1) jV) (iU (yN (aUu l) (vv 0) (vv 1)))))),?_⟩;cases o with
 |none=>cases a;exact⟨_,rfl,rfl,_,rfl,gF (m9 rfl) q⟩
 |some b=>obtain⟨n,rfl,i⟩:=id a;exact⟨_,rfl,rfl,_,rfl,dI (v6 λz=>by cases z) ⟨_,rfl,_,rfl,m,r,b,d,a,g,e b rfl,q⟩⟩
inductive aDj (K:bFZ)(vs:List V)(H:Hp)(Q:VK)(E_:XK):Prop
 |mk (v vh vp:V) (L:Addr) (t:Tb) (m:Int) (num:Nat) (n:Str) (h0:Int) (cs:List (V × Int)) (_:vs=[v,.int num]) (_:jU K H v vh vp L t) (_:jR m t) (_:t.pl=.spans n h0 cs) (_:∀D' H',H D'=none->Same H H'->bN K H' D' (t.rows.filter (gV t.hd n cs num))->Q (.ref D') H')
def aIc (T:Txt w K mg)(vR:Ok P w K mg base 2 "place_of" bQJ (oR K))(sV:Ok P w K mg base 1 "cut_of" bQV (xO K)):Ok P w K mg base 3 "span_rows" bQY (aDj K):=by
 refine Ok.ofV T.aKd xM (by trivial) (λf a1 A M s H vs Q E hr h=>?_)
 obtain⟨v,vh,vp,L,t,m,num,n,h0,x,rfl,⟨a,rfl,B,hI,j,d⟩,C,k,q⟩:=h;rw[k] at j;obtain⟨b,vc,rfl,X,G⟩:=j;have p:=C.pl;rw[k] at p;obtain⟨hn,U,W,a2,i⟩:=p;have l8:=C.hd.1.2.2;have nd:=xM.nd;refine⟨_,(aC (aY 2 (aV vR (aH (aR aO (vv 0) aB) (va1 (aR aO (aR (bL (K:=K)) (vv 0) aB) aB))))) (aD (aM (cJ (N:=["row","number","place","table"]) ck (eU (aF qP)) rfl (fM (aR (bL (K:=K)) (vv 0) aB)) (λcl o y fp=>⟨(fZ 0),(nJ (cX dX (aV sV (aH (aR (bL (K:=K)) (aR (bL (K:=K)) (vv 3) aB) aB) (va1 (aR (bL (K:=K)) (vv 0) (vv 2))))) (vv 1))),(vv 0)⟩))))),?_⟩;refine⟨_,rfl,a,_,0,_,rfl,rfl,B,at0 _ _,_,rfl,a,_,1,_,rfl,rfl,B,at1 _ _ _,b,_,1,_,rfl,rfl,X,at1 _ _ _,vh,n,t.hd,U,rfl,hI,by lia,W,λH1 g=>?_⟩;dsimp only[bR,pZ,List.set];obtain⟨us,gL,a0⟩:=id d;refine jT [none,some (.int num),some (.int (plc t.hd n:Nat)),some (.ref a)] (tM 1 2 0 (by trivial) (by trivial) (by trivial) rfl rfl rfl rfl rfl rfl (by trivial) (by trivial) (by trivial)) ?_;refine⟨_,rfl,a,_,2,_,rfl,rfl,g.aP B,at2 _ _ _ _,L,rfl,⟨_,SqL.of (g _ _ gL)⟩,tD (d.same g) (by have:=C.few;lia) (gV t.hd n x num) rfl (λu r I y R l J F rr=>?_) λD y Y J hD=>q D y (none_of g Y) (g.trans J) hD⟩;obtain⟨ra,rfl,O⟩:=F;obtain⟨v,Z,hg,S⟩:=aFh (C.rows r I) W;have o:=g.trans J;refine⟨_,rfl,a,_,1,_,rfl,rfl,o.aP B,at1 _ _ _,b,_,2,_,rfl,rfl,o.aP X,at2 _ _ _ _,_,rfl,_,rfl,ra,r,_,v,rfl,rfl,O,cG Z,vc,v,U,h0,x,rfl,kJ.same o (λ_ _ z=>z.same o) G,i.few,S,λc G=>(i.each c G).1,_,rfl,rfl,_,rfl,?_⟩;have e:decide (V.int (dU v x 1 0:Nat)=V.int num)=gV t.hd n x num r:=by unfold gV;rw[hg];exact decide_eq_decide.mpr ⟨λz=>by have:=V.int.inj z;lia,λz=>by rw[z]⟩
 rw[e];exact rr y (Same.refl _)
inductive aOr (K:bFZ)(C:Addr)(vs:List V)(H:Hp)(Q:VK)(E_:XK):Prop
 |mk (x d dm:Addr) (m:Int) (es:List En) (e:En) (mq:Mv) (n:Str) (h0:Int) (cs:List (V × Int)) (_:vs=[.ref x,.str e.n]) (_:bI K H C x m d dm es) (_:e∈es) (_:MvD K H dm e.n (some mq)) (_:e.t.pl=.spans n h0 cs) (_:(∀q,mq.mark=some q->jA e.t.hd q)) (_:∀D' H',H D'=none->Same H H'->bN K H' D' (e.t.rows.filter λr=>zU mq.mark r && gV e.t.hd n cs mq.num r)->Q (.ref D') H')
def aYj (T:Txt w K mg)(c:Cls K C)(D:eZ K C "rows_to_come" "Store.rows_to_come" dJ n6)(n1:bU K C "placed")(n3:bU K C "moves")(qW:Ok P w K mg base 3 "span_rows" bQY (aDj K))(vD:Ok P w K mg base 1 "is_above" bXA (aC5 K)):OkM P w K mg base C 4 "rows_to_come" n6 (aOr K C):=by
 refine OkM.ofV c D jC (by trivial) (λf a0 A y s H vs Q E hr h=>?_)
 obtain⟨x,d,dm,m,es,e,z,n,h0,V,rfl,b,B,⟨W,v,hm,hk,Y⟩,p,hq,q⟩:=h;have M:=mC hr;have nd:=jC.nd;refine⟨_,(aC (aY 2 (iK M (cV (K:=K) (vv 0)) (vv 1) (λ_ _=>rfl))) (aD (aM (cJ (N:=["row","move"]) ck (eU (aF dJ)) rfl (fM (aV qW (aH (iK M (cV (K:=K) (vv 0)) (vv 1) (λ_ _=>rfl)) (va1 (aR aO (vv 2) aB))))) (λcl s' j fp=>⟨(fZ 0),(nJ (cC (aV vD (aH (vv 0) (va1 (aR (bL (K:=K)) (vv 1) aB)))))),(vv 0)⟩))))),?_⟩;obtain⟨U,J⟩:=b.at_;obtain⟨a,vm,rfl,S,F⟩:=Y;have G:=b.ok e B;refine⟨_,rfl,x,C,U,_,_,rfl,J,c,n3,rfl,_,rfl,dm,_,rfl,.inl ⟨_,Sum.inr e.n,.inl hm,rfl,hk.symm⟩,?_⟩;dsimp only[bR,pZ,List.set];refine jT [none,some (.ref a)] (lB 2 (by trivial) rfl rfl (by trivial)) ?_;refine⟨_,rfl,x,C,U,_,_,rfl,J,c,n1,rfl,_,rfl,d,e.v,rfl,.inl ⟨_,Sum.inr e.n,.inl b.ens.at_,rfl,(tQ b.ens.nd B).symm⟩,?_⟩;refine⟨_,rfl,a,_,0,_,rfl,rfl,S,at0 _ _,e.v,e.vh,e.vp,e.L,e.t,m,z.num,n,h0,V,rfl,b.ens.tb e B,G,p,λD1 H1 a1 i O=>?_⟩;obtain⟨us,gD,Z⟩:=id O;refine⟨D1,rfl,⟨_,SqL.of gD⟩,tD O (bAI (bAX _ _) (by have:=G.few;lia)) (zU z.mark) rfl (λu r o j R l g k rr=>?_) λD' j X g I=>q D' j (none_of i X) (i.trans g) (by rw[bEI] at I;exact I)⟩;refine⟨_,rfl,_,rfl,a,_,2,_,rfl,rfl,(i.trans g).aP S,at2 _ _ _ _,u,vm,r,z.mark,knds e.t.hd,rfl,k,F.same (i.trans g),gU (G.rows r (List.mem_filter.mp o).1),λq' e'=>gU (hq q' e'),_,rfl,rr j (Same.refl _)⟩
end
end My
namespace PySem
theorem uV {α:Type}:∀(l:List α) (i:Nat) (h:i<l.length),(l[i]::l.eraseIdx i).Perm l
 |x::l,0,_=>.refl _
 |x::l,i+1,h=>by have a:=uV l i (Nat.lt_of_succ_lt_succ h);exact (List.Perm.swap x _ (l.eraseIdx i)).trans (a.cons x)
def aGq (a:n≠0)(h:∀i dr,i<n->Q i { s with drawn:=dr }):wpAny (model prog w) A (choose src n) Q E s:=
 λ_ _ _=>⟨a,h _ _ (Nat.mod_lt _ (Nat.pos_of_ne_zero a))⟩
theorem qH {α:Type}:∀(n:Nat) (xs:List α) (s:Shared) (Q:List α->Shared->Prop),xs.length=n->(∀ys dr,ys.Perm xs->Q ys { s with drawn:=dr })->wpAny (model prog w) A (drawOrder n xs) Q E s
 |0,xs,s,Q,hl,h=>by have e:=bAQ hl;subst e;unfold drawOrder;exact d8 (h [] s.drawn (.refl _))
 |n+1,xs,s,Q,hl,h=>by
  cases xs with
  |nil=>cases hl
  |cons x xs=>unfold drawOrder;refine b7 (aGq (by rw[hl];lia) λi dr b=>?_);rw[b8 b];dsimp only;refine b7 (qH n _ _ _ (by rw[bFQ b,hl];rfl) λys a p=>d8 ?_);refine h _ a ?_;have e:=uV _ _ b;exact (p.cons _).trans e
theorem aPp {α:Type}(b:Nat->Nat):∀(fuel k:Nat) (left:List α) (out:Array α),left.length=fuel->(pickOrder.go b fuel k left out).toList.Perm (out.toList++left)
 |0,k,left,out,h=>by have e:left=[]:=bAQ h;subst e;unfold pickOrder.go;rw[bCJ]
 |fuel+1,k,left,out,h=>by have a:b k % left.length<left.length:=Nat.mod_lt _ (by lia);unfold pickOrder.go;rw[b8 a];dsimp only;refine (aPp b fuel (k+1) _ _ (by rw[bFQ a,h];rfl)).trans ?_;rw[bFU,bCD];exact List.Perm.append_left _ (uV _ _ a)
def aAa {α:Type}(a:Nat->Nat)(xs:Array α):(pickOrder a xs).toList.Perm xs.toList:=by unfold pickOrder;exact aPp a xs.size 0 xs.toList #[] (by rw[v7])
def cA:Slot "set_iterator" "__next__" "set_iterator.__next__":=.of (owner:="set_iterator") (n:="__next__") (by rw[typeLookup_type,builtinLookup_eq_fast];kernel_rfl) (by trivial) (by trivial) (by trivial) (by first|exact .inl (by trivial)|exact .inr (by trivial)) (by rw[isSubtype_type];kernel_rfl)
def rH:Slot "set_iterator" "__iter__" "set_iterator.__iter__":=.of (owner:="set_iterator") (n:="__iter__") (by rw[typeLookup_type,builtinLookup_eq_fast];kernel_rfl) (by trivial) (by trivial) (by trivial) (by first|exact .inl (by trivial)|exact .inr (by trivial)) (by rw[isSubtype_type];kernel_rfl)
def gK:entryFor table "set_iterator.__next__"=some Builtin.«set_iterator.__next__»:=entryFor_of_tree (by kernel_rfl)
def aBf:entryFor table "set_iterator.__iter__"=some Builtin.«dict_keyiterator.__iter__»:=entryFor_alias (id':="dict_keyiterator.__iter__") (by kernel_rfl) rfl (by trivial) (by kernel_rfl)
def aB5:entryFor table "set.__iter__"=some Builtin.«frozenset.__iter__»:=entryFor_alias (id':="frozenset.__iter__") (by kernel_rfl) rfl (by trivial) (by kernel_rfl)
def aCe:Manifest.owners.lookup (String.ofList ['r','o','t','a','r','e','t','i','_','t','e','s'].reverse)=some Manifest.sig_set_iterator:=by kernel_rfl
def iW (a:Value):argsOk "set_iterator.__next__" ⟨[a],[]⟩:=by unfold argsOk;rw[signature?_of (id:="set_iterator.__next__") (n:=['_','_','t','x','e','n','_','_']) (o:=['r','o','t','a','r','e','t','i','_','t','e','s']) (by kernel_rfl) aCe];kernel_rfl
def aDx (a:Value):argsOk "set_iterator.__iter__" ⟨[a],[]⟩:=by unfold argsOk;rw[signature?_of (id:="set_iterator.__iter__") (n:=['_','_','r','e','t','i','_','_']) (o:=['r','o','t','a','r','e','t','i','_','t','e','s']) (by kernel_rfl) aCe];kernel_rfl
def fX (h:Heap)(I:Addr)(first:Value)(i:Nat)(D:Addr)(n ep:Nat):Prop:=h.get? I=some { cls:=.type "set_iterator",data:=.fields #[first,.int i 0,.ref D,.int n 0,.int ep 0] }
def vP (h:Heap)(D:Addr)(es:Array (Int × Value))(ep:Nat)(t:SetTable):Prop:=∃o,h.get? D=some o/\o.ExactSet/\o.data=.set es ep t/\t.fits es.size=true
def aG6 (prog:Program)(w:World)(D:Addr)(es:Array (Int × Value))(ep:Nat)(t:SetTable)(slot i:Nat)(r:Option (Value × Nat)):Prop:=
 ∀A E s Q,vP s.heap D es ep t->Q r s->wpAny (model prog w) A (setNext D slot i ep) Q E s
def aF4 {I D:Addr}{es:Array (Int × Value)}{ep slot i a:Nat}{t:SetTable}{x:Value}{Q:Option Value->Shared->Prop}(g:fX s.heap I (.int slot 0) i D es.size ep)(j:vP s.heap D es ep t)(hne:D≠I)
  (nx:aG6 prog w D es ep t slot i (some (x,a)))
  (q:∀h',fX h' I (.int a 0) (i+1) D es.size ep->(∀b o,b≠I->s.heap.get? b=some o->h'.get? b=some o)->Q (some x) { s with heap:=h' }):wpAny (model prog w) A (pyNext (.ref I)) Q E s:=by
 have f:s.TypeIs (.ref I) "set_iterator":=⟨_,g,rfl⟩;obtain⟨o,m,n,hd,r⟩:=id j;unfold pyNext;refine b7 (bCT (bAJ f cA (bAH cA f gK (b7 (d8 (b7 (bDV g rfl ?_)))) (iW _))));refine b7 (bDC m hd r ?_);dsimp only;rw[if_neg (by simp)];simp only[bAS];refine b7 (nx _ _ _ _ j ?_);dsimp only;refine b7 (bAR g (by simp) λu h p=>?_);have k:fX u I (.int a 0) i D es.size ep:=by simpa [rawInt,fX] using h
 refine b7 (bAR k (by simp) λd l v=>?_);have y:fX d I (.int a 0) (i+1) D es.size ep:=by
  have z:((i+1:Nat):Int)=(i:Int)+1:=by lia
  unfold fX;rw[z];simpa [rawInt] using l
 exact d8 ⟨_,rfl,d8 (q d y λb o c e=>v.extBut b o c (p.extBut b o c e))⟩
def aFe {I D:Addr}{es:Array (Int × Value)}{ep slot i:Nat}{t:SetTable}{Q:Option Value->Shared->Prop}(h:A.handled=none)(c:fX s.heap I (.int slot 0) i D es.size ep)(e:vP s.heap D es ep t)
  (nx:aG6 prog w D es ep t slot i none) (q:∀h',(∀b o,b≠I->s.heap.get? b=some o->h'.get? b=some o)->Q none { s with heap:=h' }):wpAny (model prog w) A (pyNext (.ref I)) Q E s:=by
 have a:s.TypeIs (.ref I) "set_iterator":=⟨_,c,rfl⟩;obtain⟨o,g,d,hd,f⟩:=id e;unfold pyNext;refine b7 (bCT (bAJ a cA (bAH cA a gK (b7 (d8 (b7 (bDV c rfl ?_)))) (iW _))));refine b7 (bDC g hd f ?_);dsimp only;rw[if_neg (by simp)];simp only[bAS];refine b7 (nx _ _ _ _ e ?_);dsimp only;refine b7 (bDD c rfl (by simp) ?_);refine b7 ?_;simp only[newExc,newTuple,raiseNew];refine b7 (bAL ?_ (by size_fits));refine b7 (bEJ (by simp only[firstArgMember];rfl) ?_);refine bAL (b7 (bFB ?_)) (by size_fits);rw[show A.in1.handled=none from h];refine b7 (d8 (bFS ?_));refine b7 (bDE ⟨_,j8 _ rfl,rfl⟩ isSubtype_stop ?_);exact d8 (q _ (((bAY ..).extBut.push _).push _))
def aOa {I D T:Addr}{es:Array (Int × Value)}{ep i j:Nat}{t:SetTable}{pl:Array Value}{e:Int × Value}{Q:Option Value->Shared->Prop}(g:fX s.heap I (.ref T) i D es.size ep)(r:vP s.heap D es ep t)(v:s.heap.get? T=some { cls:=.type "tuple",data:=.seq pl })
  (u:pl[i]?=some (.int j 0)) (p:es[j]?=some e)
  (q:∀h',fX h' I (.ref T) (i+1) D es.size ep->(∀b o,b≠I->s.heap.get? b=some o->h'.get? b=some o)->Q (some e.2) { s with heap:=h' }):wpAny (model prog w) A (pyNext (.ref I)) Q E s:=by
 have d:s.TypeIs (.ref I) "set_iterator":=⟨_,g,rfl⟩;obtain⟨o,a,l,hd,f⟩:=id r;unfold pyNext;refine b7 (bCT (bAJ d cA (bAH cA d gK (b7 (d8 (b7 (bDV g rfl ?_)))) (iW _))));refine b7 (bDC a hd f ?_);dsimp only;rw[if_neg (by simp)];simp only[bAS];refine b7 (bBI v rfl ?_);dsimp only;rw[u];dsimp only;unfold setNextDrawn;refine b7 (b7 (bBL a hd f ?_));dsimp only;rw[if_neg (by simp)];refine b7 (d8 ?_);simp only[bAS,p];refine d8 (b7 (bAR g (by simp) λc h m=>?_));have n:fX c I (.ref T) (i+1) D es.size ep:=by
  have z:((i+1:Nat):Int)=(i:Int)+1:=by lia
  unfold fX;rw[z];simpa [rawInt] using h
 exact d8 ⟨_,rfl,d8 (q c n λb o k e=>m.extBut b o k e)⟩
def aN4 (p:A.handled=none)(c:fX s.heap I (.ref T) i D es.size ep)(n:vP s.heap D es ep t)(m:s.heap.get? T=some { cls:=.type "tuple",data:=.seq pl })
  (l:pl[i]?=none) (q:∀h',(∀b o,b≠I->s.heap.get? b=some o->h'.get? b=some o)->Q none { s with heap:=h' }):wpAny (model prog w) A (pyNext (.ref I)) Q E s:=by
 have a:s.TypeIs (.ref I) "set_iterator":=⟨_,c,rfl⟩;obtain⟨o,k,f,hd,h⟩:=id n;unfold pyNext;refine b7 (bCT (bAJ a cA (bAH cA a gK (b7 (d8 (b7 (bDV c rfl ?_)))) (iW _))));refine b7 (bDC k hd h ?_);dsimp only;rw[if_neg (by simp)];simp only[bAS];refine b7 (bBI m rfl ?_);dsimp only;rw[l];dsimp only;refine b7 (bAR c (by simp) λr j g=>?_);refine b7 (bDD j rfl (by simp) ?_);refine b7 ?_;simp only[newExc,newTuple,raiseNew];refine b7 (bAL ?_ (by size_fits));refine b7 (bEJ (by simp only[firstArgMember];rfl) ?_);refine bAL (b7 (bFB ?_)) (by size_fits);rw[show A.in1.handled=none from p];refine b7 (d8 (bFS ?_));refine b7 (bDE ⟨_,j8 _ rfl,rfl⟩ isSubtype_stop ?_);refine d8 (q _ λb o d e=>((((bAY ..).extBut.push _).push _)) b o d (g.extBut b o d e))
def aFy (g:byT w=true):aG6 prog w D es ep t slot i (((pickOrder (w.params.setOrder D ep) es)[i]?).map λe=>(e.2,slot)):=by intro A E s Q f q;obtain⟨o,c,d,hd,b⟩:=f;have a:(⟨(model prog w).prog,(model prog w).w.params⟩:Setting).params.followText "set-order"=true:=g;unfold setNext setsByText setWalk;refine b7 (bBL c hd b ?_);dsimp only;refine b7 (b7 (bDG (d8 ?_)));rw[if_pos a,if_neg (by simp)];refine b7 (b7 (bBL c hd b ?_));dsimp only;unfold setsByText;refine b7 (b7 (bDG (d8 ?_)));rw[if_pos a];exact b7 (bDG (d8 (d8 q)))
def aDk (l:byT w=false)(k:t.led=true)(g:t.plain=true\/es.size<=1) :
  aG6 prog w D es ep t slot i (match es[SetTable.below t.place slot]?,t.place[SetTable.below t.place slot]? with|some (_,x),some j=>some (x,j+1)|_,_=>none):=by
 intro A E s Q d q;obtain⟨o,f,c,hd,e⟩:=d;have a:(⟨(model prog w).prog,(model prog w).w.params⟩:Setting).params.followText "set-order"=false:=l;unfold setNext setsByText;refine b7 (bBL f hd e ?_);dsimp only;refine b7 (b7 (bDG (d8 ?_)));rw[if_neg (by rw[a];exact v8)]
 split
 ·rename_i b;have z:(!t.plain && decide (es.size > 1))=true:=b;rw[bAW,decide_eq_true_eq] at z;rcases g with h|h
  ·rw[h] at z;cases z.1
  ·lia
 ·refine b7 (show wpAny _ _ (if (!t.led && !es.isEmpty)=true then unsupported "set:maker-not-led" else pure ()) _ _ _ from ?_);rw[if_neg (by rw[k];exact v8)];exact d8 (d8 q)
def zN (b:fX s.heap I first i D n ep)(h:Q (.ref I) s):wpAny (model prog w) A (pyIter (.ref I)) Q E s:=by have a:s.TypeIs (.ref I) "set_iterator":=⟨_,b,rfl⟩;refine bEU a rH (bAH rH a aBf ?_ (aDx _));exact d8 ⟨_,rfl,"set_iterator",_,a,cA.lookup,h⟩
def vP.at (x:vP h D es ep t)(e:∀o,h.get? D=some o->h'.get? D=some o):vP h' D es ep t:=by obtain⟨o,a,r⟩:=x;exact⟨o,e o a,r⟩
def aMv {I D:Addr}{es:Array (Int × Value)}{ep:Nat}{t:SetTable}(c:byT w=true)(r:A.handled=none)(l:D≠I) :
  Walks prog w A I [I,D] [I] es.size (λi v=>((pickOrder (w.params.setOrder D ep) es).toList.map (·.2))[i]?=some v) (λi h=>fX h I (.int (0:Nat) 0) i D es.size ep/\vP h D es ep t) where
 sub:=λb c=>by simp at c;simp[c]
 frame:=λ_ _ _ a m=>⟨m I (by simp) _ a.1,a.2.at λo e=>m D (by simp) o e⟩
 item:=λi s Q E q a f=>by
  have n:(pickOrder (w.params.setOrder D ep) es).size=es.size:=by rw[<-v7,(aAa _ es).length_eq,v7]
  have d:i<(pickOrder (w.params.setOrder D ep) es).size:=by lia
  have g:=aFy (prog:=prog) (D:=D) (es:=es) (ep:=ep) (slot:=0) (i:=i) (t:=t) c;rw[m8 d] at g;refine aF4 a.1 a.2 l g λk p j=>?_;exact f _ k s.toks (by rw[v5,bBK,m8 d];rfl) ⟨p,a.2.at λo e=>j D o l e⟩ λb o c e=>j b o (λz=>c (by simp[z])) e
 done:=λs Q E a f=>by
  have n:(pickOrder (w.params.setOrder D ep) es).size=es.size:=by rw[<-v7,(aAa _ es).length_eq,v7]
  have g:=aFy (prog:=prog) (D:=D) (es:=es) (ep:=ep) (slot:=0) (i:=es.size) (t:=t) c;rw[bCG (by lia)] at g;exact aFe r a.1 a.2 g λk j=>f k s.toks λb o c e=>j b o (λz=>c (by simp[z])) e
 self:=λ_ _ _ _ a f=>zN a.1 f
def aL2 {I D:Addr}{es:Array (Int × Value)}{ep:Nat}{t:SetTable}(a:byT w=false)(u:t.led=true)(y:t.plain=true\/es.size<=1)(x:Ris t.place)(hsz:t.place.size=es.size)(L:A.handled=none)(p:D≠I) :
  Walks prog w A I [I,D] [I] es.size (λi v=>(es.toList.map (·.2))[i]?=some v) (λi h=>∃slot,fX h I (.int (slot:Nat) 0) i D es.size ep/\vP h D es ep t/\SetTable.below t.place slot=i) where
 sub:=λb a=>by simp at a;simp[a]
 frame:=λ_ _ _ ⟨j,d,f,k⟩ g=>⟨j,g I (by simp) _ d,f.at λo e=>g D (by simp) o e,k⟩
 item:=λi s Q E r ⟨j,d,f,k⟩ l=>by
  have m:=aDk (prog:=prog) (D:=D) (es:=es) (ep:=ep) (slot:=j) (i:=i) (t:=t) a u y;have c:i<t.place.size:=by lia
  rw[k,m8 r,m8 c] at m;refine aF4 d f p m λq F n=>?_;refine l _ q s.toks (by rw[v5,bBK,m8 r];rfl) ⟨_,F,f.at λo e=>n D o p e,?_⟩ λb o a e=>n b o (λz=>a (by simp[z])) e;obtain⟨J,B,C⟩:=oJ x (t.place[i]+1);have G:i<SetTable.below t.place (t.place[i]+1):=Nat.lt_of_not_le λz=>by have:=C i c z;lia
  rcases bFO (Nat.succ_le_of_lt G) with h2|h2
  ·exfalso;have g:i+1<t.place.size:=by lia
   have H:=B (i+1) g h2;have K:=x i (i+1) c g (bCV _);lia
  ·exact h2.symm
 done:=λs Q E ⟨j,d,f,k⟩ l=>by have m:=aDk (prog:=prog) (D:=D) (es:=es) (ep:=ep) (slot:=j) (i:=es.size) (t:=t) a u y;rw[k,bCG (d9 _)] at m;exact aFe L d f m λq n=>l q s.toks λb o a e=>n b o (λz=>a (by simp[z])) e
 self:=λ_ _ _ _ ⟨_,d,_⟩ l=>zN d l
def aLq {I D T:Addr}{es:Array (Int × Value)}{ep:Nat}{t:SetTable}{ys:List Nat}(n:ys.Perm (List.range es.size))(y:A.handled=none)(u:D≠I)(q:T≠I) :
  Walks prog w A I [I,D,T] [I] es.size (λi v=>((ys.map λj=>es.getD j (0,.none)).map (·.2))[i]?=some v) (λi h=>fX h I (.ref T) i D es.size ep/\vP h D es ep t/\h.get? T=some { cls:=.type "tuple",data:=.seq (ys.map λj=>rawInt (j:Nat)).toArray }) where
 sub:=λb d=>by simp at d;simp[d]
 frame:=λ_ _ _ a k=>⟨k I (by simp) _ a.1,a.2.1.at λo e=>k D (by simp) o e,k T (by simp) _ a.2.2⟩
 item:=λi s Q E x a f=>by
  have m:ys.length=es.size:=by rw[n.length_eq,bAK]
  have c:i<ys.length:=by lia
  have p:=List.mem_range.mp (n.mem_iff.mp (bAO c));refine aOa a.1 a.2.1 a.2.2 (by rw[bEY,v5,b8 c];rfl) (m8 p) λl r g=>?_;refine f _ l s.toks ?_ ⟨r,a.2.1.at λo e=>g D o u e,g T _ q a.2.2⟩ λb o d e=>g b o (λz=>d (by simp[z])) e;rw[v5,v5,b8 c];show some (es.getD ys[i] (0,.none)).2=some es[ys[i]].2;rw[w6,m8 p];rfl
 done:=λs Q E a f=>by
  have m:ys.length=es.size:=by rw[n.length_eq,bAK]
  exact aN4 y a.1 a.2.1 a.2.2 (by rw[bEY,v5,bAD (by lia)];rfl) λl g=>f l s.toks λb o d e=>g b o (λz=>d (by simp[z])) e
 self:=λ_ _ _ _ a f=>zN a.1 f
theorem aVd {D:Addr}{es:Array (Int × Value)}{ep:Nat}{t:SetTable}{Q:bF0}(K:A.handled=none)(P:vP s.heap D es ep t)(C:TabOk (byT w) t)(T:es.size<=1000)
  (h:∀I fp (order:List (Int × Value)) St h1 dr,(∀b o,s.heap.get? b=some o->h1.get? b=some o)->Walks prog w A I fp [I] es.size (λi v=>(order.map (·.2))[i]?=some v) St->St 0 h1->(∀b∈fp,b=D\/s.heap.objs.size<=b)->s.heap.objs.size<=I->order.Perm es.toList ->
   Q (.ref I) { s with heap:=h1,drawn:=dr }):wpAny (model prog w) A (pyIter (.ref D)) Q E s:=by
 obtain⟨o,g,n,hd,d⟩:=id P;have H:s.TypeIs (.ref D) "set":=⟨o,g,n.1⟩;refine bEU H F.slot_set_iter (bAH F.slot_set_iter H aB5 ?_ (F.args_set_iter_1 _));unfold Builtin.«frozenset.__iter__» Builtin.Frozenset.slot0 slotArgs;simp only[List.isEmpty_nil,Bool.not_true,bBB,↓reduceIte,bind_assoc,bCQ,bne_self_eq_false];unfold Builtin.Frozenset.addrOf Builtin.Frozenset.sizeOf setDrawn setsByText;refine b7 (d8 ?_)
 try dsimp only
 refine b7 (d8 ?_);refine b7 (b7 (bDC g hd d (d8 ?_)));refine b7 (b7 (bBL g hd d ?_));dsimp only;refine b7 (b7 (bDG (d8 (d8 ?_))));have f:D<s.heap.objs.size:=t8 g;have U:((0:Nat):Int)=0:=rfl
 split
 ·rename_i G;refine b7 (qH _ _ _ _ (bAK ..) λr dr q=>?_);refine b7 (bFN ?_ (by rw[j4,q.length_eq,bAK];exact bAI T (by decide)));have l:({ s with drawn:=dr,heap:=s.heap.push { cls:=.type "tuple",data:=.seq (r.map λi=>rawInt (i:Nat)).toArray } }:Shared).heap.get? D=some o:=d7 _ g;refine b7 (wpAny_setEpoch_of l hd d ?_);refine b7 ?_;unfold newFields;refine bAL (d8 ⟨_,rfl,"set_iterator",_,⟨_,j8 _ rfl,rfl⟩,cA.lookup,?_⟩);have p:(s.heap.push { cls:=.type "tuple",data:=.seq (r.map λi=>rawInt (i:Nat)).toArray }).objs.size=s.heap.objs.size+1:=bBS ..;refine h _ [_,D,s.heap.objs.size] (r.map λj=>es.getD j (0,.none)) _ _ dr (λb o e=>d7 _ (d7 _ e)) (aLq (t:=t) (ep:=ep) q K ?_ ?_) ⟨?_,?_,?_⟩ (λb c=>?_) ?_ ?_
  ·show D≠Array.size _;rw[p];exact z9 (bBR f)
  ·show s.heap.objs.size≠Array.size _;rw[p];exact z9 (bCV _)
  ·exact j8 _ rfl
  ·exact⟨o,d7 _ l,n,hd,d⟩
  ·exact d7 _ (j8 _ rfl)
  ·simp only[bAP,bAG,or_false] at c;rcases c with rfl|rfl|rfl
   ·right;rw[p];exact bDH _
   ·left;rfl
   ·right;exact d9 _
  ·rw[p];exact bDH _
  ·have e:(List.range es.size).map (λj=>es.getD j (0,.none))=es.toList:=by
    refine bCE λj=>?_;rw[v5,show es.toList[j]?=es[j]? from bBK];by_cases B:j<es.size
    ·rw[bCR B,m8 B];show some (es.getD j (0,.none))=_;rw[w6,m8 B];rfl
    ·rw[bAD (by rw[bAK];lia),bCG (by lia)];rfl
   exact (q.map _).trans (by rw[e])
 ·rename_i G;refine b7 (d8 (b7 (wpAny_setEpoch_of g hd d (b7 ?_))));unfold newFields;refine bAL (d8 ⟨_,rfl,"set_iterator",_,⟨_,j8 _ rfl,rfl⟩,cA.lookup,?_⟩);have L:fX (s.heap.push { cls:=.type "set_iterator",data:=.fields [rawInt 0,rawInt 0,Value.ref D,rawInt (es.size:Nat),rawInt (ep:Nat)].toArray }) s.heap.objs.size (.int (0:Nat) 0) 0 D es.size ep:=j8 _ rfl;have m:vP (s.heap.push { cls:=.type "set_iterator",data:=.fields [rawInt 0,rawInt 0,Value.ref D,rawInt (es.size:Nat),rawInt (ep:Nat)].toArray }) D es ep t:=P.at λo e=>d7 _ e;have k:∀b∈[s.heap.objs.size,D],b=D\/s.heap.objs.size<=b:=λb c=>by
   simp only[bAP,bAG,or_false] at c;rcases c with rfl|rfl
   ·right;exact d9 _
   ·left;rfl
  cases c:byT w with
  |true=>exact h _ [s.heap.objs.size,D] _ _ _ s.drawn (λb o e=>d7 _ e) (aMv (t:=t) (ep:=ep) c K (z9 f)) ⟨L,m⟩ k (d9 _) (aAa _ es)
  |false=>
   have O:t.led=true:=C.1 c;have u:t.place.size=es.size:=by unfold SetTable.fits at d;rw[bAW,beq_iff_eq] at d;exact d.1
   have J:t.plain=true\/es.size<=1:=by
    have z:¬ (!byT w && (!t.plain && decide (es.size > 1)))=true:=G;rw[c] at z;cases y:t.plain with
    |true=>exact .inl rfl
    |false=>rw[y] at z;right;simpa using z
   have x:Ris t.place:=by
    rcases J with z|z
    ·exact C.2.2.2 z
    ·intro a b V M N;lia
   refine h _ [s.heap.objs.size,D] es.toList _ _ s.drawn (λb o e=>d7 _ e) (aL2 (t:=t) (ep:=ep) c O J x u K (z9 f)) ⟨0,L,m,?_⟩ k (d9 _) (.refl _);obtain⟨_,R,_⟩:=oJ x 0;rcases Nat.eq_zero_or_pos (SetTable.below t.place 0) with z|z
   ·exact z
   ·by_cases S:0<t.place.size
    ·exact absurd (R 0 S z) (bCY _)
    ·have:=(oJ x 0).1;lia
def aUa (c:s.TypeIs (.ref D) "set")(h:Q false s):wpAny (model prog w) A (Builtin.List.listLengthHint (.ref D)) Q E s:=by unfold Builtin.List.listLengthHint;refine b7 (wpAny_specialOf c F.slot_set_len.lookup ?_);generalize b:("set.__len__":String)=id0;wp_delta;rw[show splitId id0=some ("set","__len__") from by subst b;decide +kernel];subst b;refine b7 (bDE c sub_set_self (wpAny_ite_split (λa=>absurd a (by decide)) (λ_=>wpAny_ite_split (λ_=>?_) (λa=>absurd (by trivial) a))));exact b7 (bEO c (d8 h))
def aO9 (hh:A.handled=none)(U:vP s.heap D es ep t)(Y:TabOk (byT w) t)(O:es.size<=1000)(S:Addr)(G:S≠D)(res:Value)(Z:s.heap.get? S=some { cls:=.type "list",data:=.seq #[] })
  (hR:∀h' tk dr acc c (order:List (Int × Value)),(∀b o,b≠S->s.heap.get? b=some o->h'.get? b=some o)->h'.get? S=some { cls:=.type "list",dict:=none,data:=.seq acc c,slots:=#[] }->order.Perm es.toList->acc.toList=order.map (·.2)->R (.ok (.ret res)) { s with heap:=h',toks:=tk,drawn:=dr }) :
  wpAny (model prog w) A.in1 (Builtin.List.listExtendWith (.ref S) (.ref D) res) (λfin s'=>match fin with|.done f=>R (.ok f) s'|.again c'=>c'.quiet=true/\codeAny (model prog w) A c' R s') (λe s'=>R (.error e) s') s:=by
 obtain⟨o,K,r,hd,hf⟩:=id U;have P:s.TypeIs (.ref D) "set":=⟨o,K,r.1⟩;have q:=t8 Z;unfold Builtin.List.listExtendWith;refine b7 (bEO P ?_);have h1:Builtin.List.listSameRef (.ref S) (.ref D)=false:=by simp[Builtin.List.listSameRef,G]
 simp only[h1,show (Value.type "set" == Value.type "list")=false by decide,show (Value.type "set" == Value.type "tuple")=false by decide,Bool.or_false,bBB,if_false];refine b7 (aVd hh U Y O λI Q order St v dr d W L E x a=>?_);have u:S∉Q:=λz=>(E S z).elim G λz=>absurd q (Nat.not_lt.mpr z);have l:=d _ _ Z;have p:∀h H tk,St 0 h->(∀b o,b≠S->s.heap.get? b=some o->h.get? b=some o)->h.get? S=some { cls:=.type "list",data:=.seq #[] H } ->
   codeAny (model prog w) A (.builtin "list.extend.loop" ⟨[.ref S,.ref I,res],[]⟩) R { s with heap:=h,toks:=tk,drawn:=dr }:=λh H tk B T y=>by
  refine codeAny_extend_loopS W.toS (bAI O (by decide)) S u res es.size 0 _ #[] H rfl (bAE _) B y (ItemsOf.nil _) λs' i c' M J k=>?_;rw[Moved.eq_with M];refine hR s'.heap s'.toks dr i c' order (λb o g e=>M.heap b o (λhmem=>?_) (T b o g e)) J a ?_
  ·rcases List.mem_cons.mp hmem with V|hmem
   ·exact g V
   ·rw[List.mem_singleton.mp hmem] at e;exact absurd (t8 e) (Nat.not_lt.mpr x)
  ·have X:order.length=es.size:=by rw[a.length_eq,v7]
   refine bCE λj=>?_;rw[bBK];by_cases N:j<i.size
   ·rw[m8 N];exact (k.2 j _ (m8 N)).symm
   ·rw[bCG (by lia),bAD (by rw[j4,X,<-k.1];lia)]
 refine b7 (bAU (aUa ⟨o,d _ _ K,r.1⟩ ?_));refine wpAny_ite_split (λ_=>?_) (λ_=>d8 ⟨bCU F.plain_extend_loop _,p v _ _ L (λb o _ e=>d b o e) l⟩);refine b7 (bDU (b7 ?_));refine b7 (wpAny_updateSeq l rfl ?_);have n:=bBJ (Obj.mapSeq (·.push Value.none)) l rfl;refine wpAny_updateSeq n rfl ?_;have C:=bBJ (Obj.mapSeq (·.pop)) n rfl;have m:∀b o,b≠S->v.get? b=some o->((v.update S (Obj.mapSeq (·.push Value.none))).update S (Obj.mapSeq (·.pop))).get? b=some o:=λb o g e=>(bDK _ _ (Ne.symm g)).trans ((bDK _ _ (Ne.symm g)).trans e);exact d8 ⟨bCU F.plain_extend_loop _,p _ _ _ (W.frame 0 _ _ L λb g o e=>m b o (λz=>u (z ▸ g)) e) (λb o g e=>m b o g (d b o e)) C⟩
open PySem.Calls PyProof.Rows
section
variable {prog:Program}{w:World}{κ:Type}[DecidableEq κ]{knd:PySem.KeyKind prog w κ}{A:Around}{E:bF0}{s:Shared}
def wV (K:A.handled=none)(I:vP s.heap D es ep t)(G:TabOk (byT w) t)(B:es.size<=1000)
  (h:∀h' tk dr (order:List (Int × Value)),(∀b o,s.heap.get? b=some o->h'.get? b=some o)->order.Perm es.toList->R (order.map (·.2)) { s with heap:=h',toks:=tk,drawn:=dr }):wpAny (model prog w) A (collect (.ref D)) R E s:=by
 obtain⟨o,v,r,hd,H⟩:=I;have m:=t8 v;unfold collect;refine b7 (wpAny_runValue (bBU entry_proto_collect' ?_));rw[bBM PySem.F.plain_proto_collect _];show wpAny _ A.in1 (newList [] >>= λl=>again (.builtin "list.__iadd__" ⟨[l,.ref D],[]⟩)) _ _ s;refine b7 (bAL (d8 ⟨bCU PySem.F.plain_list_iadd _,bBU entry_list_iadd' ?_⟩));rw[bBM PySem.F.plain_list_iadd _];have u:(s.heap.push { cls:=.type "list",data:=.seq ([]:List Value).toArray }).get? s.heap.objs.size=some { cls:=.type "list",data:=.seq #[] }:=j8 _ rfl;show wpAny _ A.in1 (Builtin.List.listExtendWith (.ref s.heap.objs.size) (.ref D) (.ref s.heap.objs.size)) _ _ _;have p:=aO9 (prog:=prog) (w:=w) (A:=A) (s:={ s with heap:=s.heap.push { cls:=.type "list",data:=.seq ([]:List Value).toArray } })
  (R:=λ(q:Result) (n:Shared)=>∃(h':Heap) (tk:Nat) (dr:Drawn) (a:Array Value) (c:Nat) (order:List (Int × Value)),q=.ok (.ret (.ref s.heap.objs.size))/\n={ s with heap:=h',toks:=tk,drawn:=dr }/\(∀b o,s.heap.get? b=some o->h'.get? b=some o)/\h'.get? s.heap.objs.size=some { cls:=.type "list",dict:=none,data:=.seq a c,slots:=#[] }/\order.Perm es.toList/\a.toList=order.map (·.2))
  K ⟨o,d7 _ v,r,hd,H⟩ G B s.heap.objs.size (bDJ m) (.ref s.heap.objs.size) u
  (λh' tk dr a c order g d j i=>⟨h',tk,dr,a,c,order,rfl,rfl,λb o e=>g b o (z9 (t8 e)) (d7 _ e),d,j,i⟩)
 have k:∀(h':Heap) (tk:Nat) (dr:Drawn) (a:Array Value) (c:Nat) (order:List (Int × Value)),(∀b o,s.heap.get? b=some o->h'.get? b=some o)->h'.get? s.heap.objs.size=some { cls:=.type "list",dict:=none,data:=.seq a c,slots:=#[] }->order.Perm es.toList->a.toList=order.map (·.2) ->
   wpAny (model prog w) A (load s.heap.objs.size >>= λo=>match o.data with|.seq xs _=>pure xs.toList|_=>unsupported "internal:collect") R E { s with heap:=h',toks:=tk,drawn:=dr }:=λh' tk dr a c order g d j i=>by
  refine b7 (wpAny_load d (d8 ?_));rw[i];exact h h' tk dr order g j
 refine bBQ p (λC n x=>?_) λe n x=>?_
 ·cases C with
  |done f=>obtain⟨h',tk,dr,a,c,order,e,rfl,g,d,j,i⟩:=x;cases e;exact k h' tk dr a c order g d j i
  |again c₁=>refine⟨x.1,bCZ x.2 λq J y=>?_⟩;obtain⟨h',tk,dr,a,c,order,rfl,rfl,g,d,j,i⟩:=y;exact k h' tk dr a c order g d j i
 ·obtain⟨_,_,_,_,_,_,z,_⟩:=x;cases z
def aLh (x:A.handled=none)(u:xJ knd s.heap D kl)(n:kl.length<=1000)
  (h:∀h' tk dr acc kl',(∀b o,s.heap.get? b=some o->h'.get? b=some o)->kl'.Perm kl->Paired (λk v=>knd.is k v=true) kl' acc->R acc { s with heap:=h',toks:=tk,drawn:=dr }):wpAny (model prog w) A (collect (.ref D)) R E s:=by
 obtain⟨o,p,q,t,l,c,hd,m,d,i⟩:=u;refine wV x ⟨o,l,c,hd,m⟩ d (by rw[<-v7,<-Paired.length i];exact n) λh' tk dr e j g=>?_;obtain⟨kl',a,f⟩:=mY g i;refine h h' tk dr _ kl' j f ?_;clear g f
 induction a with
 |nil=>exact .nil
 |cons r _ ih=>exact .cons r.1 ih
end
end PySem
namespace L2
open PySem PySem.Spec PyProof.Rows PySem.Calls
section
variable {prog:Program}{w:World}{A:Around}{E:bF0}{s:Shared}
def aS1 (h:Paired (λk v=>(bJ prog w).is k v=true) kl acc)(hi:∀k∈kl,∃n,k=Sum.inl n):∃ns:List Int,kl=ns.map Sum.inl/\IntsAre acc ns:=by
 induction h with
 |nil=>exact⟨[],rfl,.nil⟩
 |@cons k v kl acc r _ ih=>
  obtain⟨ns,rfl,b⟩:=ih λk a=>hi k (j7 _ a);obtain⟨n,rfl⟩:=hi k j5;rcases cT (show rO (Sum.inl n) v=true from r) with⟨i,t,e,rfl⟩|⟨x,t,e,_⟩
  ·cases e;exact⟨n::ns,rfl,.cons n t b⟩
  ·cases e
def aRn (h:Paired (λk v=>(bJ prog w).is k v=true) kl acc)(hi:∀k∈kl,∃n,k=Sum.inr n):∃ns:List Str,kl=ns.map Sum.inr/\StrsAre acc ns:=by
 induction h with
 |nil=>exact⟨[],rfl,.nil⟩
 |@cons k v kl acc r _ ih=>
  obtain⟨ns,rfl,b⟩:=ih λk a=>hi k (j7 _ a);obtain⟨n,rfl⟩:=hi k j5;rcases cT (show rO (Sum.inr n) v=true from r) with⟨i,t,e,_⟩|⟨x,t,e,rfl⟩
  ·cases e
  ·cases e;exact⟨n::ns,rfl,.cons n t b⟩
def ltK:Key->Key->Prop
 |.inl a,.inl b=>a<b
 |.inr a,.inr b=>a.cps.toList<b.cps.toList
 |_,_=>False
theorem aGk:∀l p,risingS p l=true->∀x∈l,¬ x.cps.toList<p.cps.toList
 |[],_,_,x,hx=>by cases hx
 |y::r,p,h,x,hx=>by
  unfold risingS at h;rw[bAW,ltCps_eq,Bool.not_eq_true',decide_eq_false_iff_not] at h;rcases List.mem_cons.mp hx with rfl|hx
  ·exact h.1
  ·intro z;have a:=aGk r y h.2 x hx;exact h.1 (List.lt_of_le_of_lt (show y.cps.toList<=x.cps.toList from a) z)
theorem xT:∀l p,risingS p l=true->l.Nodup->l.Pairwise λa b=>a.cps.toList<b.cps.toList
 |[],_,_,_=>.nil
 |y::r,p,h,nd=>by
  unfold risingS at h;rw[bAW] at h;rw[bFH] at nd;refine .cons (λx c=>?_) (xT r y h.2 nd.2);have d:=aGk r y h.2 x c;rcases Classical.em (y.cps.toList<x.cps.toList) with z|z
  ·exact z
  ·exfalso;have e:=List.le_antisymm d z;have:y=x:=by cases y;cases x;exact congrArg Str.mk (Array.toList_inj.mp e)
   exact nd.1 (this ▸ c)
def aDi (h:IntsAre vs ns):Vals ((ns.map Sum.inl).map kV) vs:=by
 induction h with
 |nil=>exact .nil
 |cons n t _ ih=>exact .cons ⟨t,rfl⟩ ih
def aDh (h:StrsAre vs ns):Vals ((ns.map Sum.inr).map kV) vs:=by
 induction h with
 |nil=>exact .nil
 |cons n t _ ih=>exact .cons ⟨t,rfl⟩ ih
def xY {α β:Type}{f:α->β}{l:List α}(h:(l.map f).Nodup):l.Nodup:=List.Pairwise.imp (λa e=>a (congrArg f e)) (List.pairwise_map.mp h)
def aO2 (Y:A.handled=none)(W:xJ (bJ prog w) s.heap D kl)(hn:kl.length<=60)(T:kl.Nodup)(hi:(∀k∈kl,∃n,k=Sum.inl n)\/∀k∈kl,∃n,k=Sum.inr n)
  (q:∀(h1 h':Heap) (tk:Nat) (dr:Drawn) (B:Addr) (vs:List Value) (ks:List Key) (e:Nat),Vals (ks.map kV) vs->ks.Perm kl->ks.Pairwise ltK->h'.get? B=some (seqObj "list" vs.toArray e)->(∀b o,s.heap.get? b=some o->h1.get? b=some o)->(∀b o,h1.get? b=some o->h'.get? b=some o)->h1.objs.size<=B->Q (.ref B) { s with heap:=h',toks:=tk,drawn:=dr }) :
  wpAny (model prog w) A (call (.builtin "sorted") [.ref D]) Q E s:=by
 refine call_function_entry kind_sorted plain_sorted entry_sorted (args_sorted1 _) ?_;unfold Builtin.«sorted»;refine b7 (m:=checkCount "sorted" 1 1 _) (d8 (b7 (aLh (A:=A.in1) Y W (by lia) λh' tk dr c i l p G=>?_)));have U:c.length=kl.length:=by rw[<-Paired.length G,p.length_eq]
 have u:i.Nodup:=p.nodup_iff.mpr T;have v:c.length<64:=by lia
 refine b7 (bFD ?_ (by rw[sizeLine_eq];lia));have d:(h'.push (seqObj "list" c.toArray 0)).get? h'.objs.size=some (seqObj "list" c.toArray 0):=j8 _ rfl;have j:∀(out:Array Value) (ks:List Key),Vals (ks.map kV) out.toList->ks.Perm i->ks.Pairwise ltK->Q (.ref h'.objs.size) { s with heap:=sortedHeap (h'.push (seqObj "list" c.toArray 0)) h'.objs.size c out,toks:=tk,drawn:=dr }:=λout ks K J R=>by obtain⟨e,N⟩:=sortedHeap_at (out:=out) d;refine q h' _ tk dr h'.objs.size out.toList ks e K (J.trans p) R (by rw[Array.toArray_toList];exact N) l (λb o h=>?_) (d9 _);have t:=t8 h;rw[sortedHeap_old (z9 t) (by rw[size_push'];exact bBR t)];exact d7 _ h
 rcases hi with hi|hi
 ·obtain⟨P,rfl,f⟩:=aS1 G λk l=>hi k (p.mem_iff.mp l);refine b7 (bAU (bAH slot_list_sort ⟨_,d,rfl⟩ entry_list_sort (list_sort_tree d f v λout g C z L=>⟨_,rfl,d8 ⟨_,rfl,j out (g.map Sum.inl) (aDi C) (z.map _) ?_⟩⟩) (args_list_sort _)));rw[List.pairwise_map];have F:g.Nodup:=z.nodup_iff.mpr (xY u);refine (List.pairwise_and_iff.mpr ⟨L,F⟩).imp λ{a b} ⟨h1,V⟩=>?_;show a<b;lia
 ·obtain⟨P,rfl,f⟩:=aRn G λk l=>hi k (p.mem_iff.mp l);refine b7 (bAU (bAH slot_list_sort ⟨_,d,rfl⟩ entry_list_sort (list_sort_treeK strKind_oneLt d f.keysOf (λZ X H e=>keyKind_strs (by rw[<-e];exact f)) v λM C z=>⟨_,rfl,d8 ⟨_,rfl,?_⟩⟩) (args_list_sort _)));obtain⟨x,O,I,S⟩:=sorted_out_str f C z;refine j _ (x.map Sum.inr) (aDh O) (I.map _) ?_;rw[List.pairwise_map];have F:=I.nodup_iff.mpr (xY u);cases x with
  |nil=>exact .nil
  |cons y r=>have:=xT (y::r) y (by unfold risingS;rw[bAW,ltCps_eq];exact⟨by simpa using List.lt_irrefl _,S⟩) F;exact this
end
def aV2 (P:Program)(w:World)(D:Addr)(kl:List Key):HO:=.ext λh=>xJ (bJ P w) h D kl
section
variable {X:Cx}
def Inv.drew (I:Inv X bF3 σ H s)(dr:Drawn):Inv X bF3 σ H { s with drawn:=dr }:=⟨I.ok,I.os,I.bare,I.base,I.loc,I.cell,I.free,I.freeC,I.pin,I.hok,I.len⟩
def bEv (P:Program)(w:World)(K:bFZ):List V->Hp->VK->Prop:=λxs H Q=>∃p ks,xs=[.ref p]/\SqL K H p (ks.map kV)/\ks.length<=4/\∀D H' kl,H D=none->Same H H'->H' D=some (aV2 P w D kl)->Ded kl ks->Q (.ref D) H'
def aQr (h:RelV (kV k) v):(bJ X.prog X.w).is k v=true/\v.scannable=true:=by
 cases k with
 |inl n=>obtain⟨t,rfl⟩:=h;exact⟨aF8 n t,rfl⟩
 |inr n=>obtain⟨t,rfl⟩:=h;exact⟨aF2 n t,rfl⟩
def aRe (N:X.calm=true):cF X (.type "set") (bEv X.prog X.w X.K):=by
 intro C s σ H P T Q I r h;obtain⟨p,ks,rfl,E,F,q⟩:=h;obtain⟨u,rfl,J⟩:=r.one;cases J;obtain⟨f,g,M,O⟩:=I.list E;have a:=g.length;rw[j4] at a;refine aSv (knd:=bJ X.prog X.w) (ks:=ks) (I.ok.hd N) M.isList (by rw[j6];exact a) (λi v A=>?_) (by rw[j6,<-a];exact F) λn z d x G L=>?_
 ·have c:f[i]?=some v:=by simpa using A
  have t:i<ks.length:=by rw[a];exact (List.getElem?_eq_some_iff.mp c).1
  obtain⟨u,j,D⟩:=g.get (i:=i) (x:=kV ks[i]) (by rw[v5,b8 t];rfl);rw[c] at j;cases j;exact⟨ks[i],b8 t,aQr D⟩
 ·have e:∃o,n.get? s.heap.objs.size=some o:=by obtain⟨o,_,_,_,B,_⟩:=x;exact⟨o,B⟩
  have m:H s.heap.objs.size=none:=I.hok.fresh (d9 _);exact⟨.ref s.heap.objs.size,_,I.laid (t':=z) (o:=aV2 X.prog X.w s.heap.objs.size d) (λb o l=>L b o (t8 l) l) (d9 _) (show xJ (bJ X.prog X.w) n s.heap.objs.size d/\_/\_ from ⟨x,e,λS R y k=>y.at k⟩),rfl,q _ _ d m (aZ m _) aG G⟩
def aU5 (P:Program)(w:World):List V->Hp->VK->Prop:=λxs H Q=>∃D kl,xs=[.ref D]/\H D=some (aV2 P w D kl)/\kl.length<=60/\kl.Nodup/\((∀k∈kl,∃n,k=Sum.inl n)\/∀k∈kl,∃n,k=Sum.inr n) /\
 ∀(B:Addr) (H':Hp) (ks:List Key),H B=none->Same H H'->H' B=some (.lst (ks.map kV))->ks.Perm kl->ks.Pairwise ltK->Q (.ref B) H'
def aGu (J:X.calm=true):cF X (.builtin "sorted") (aU5 X.prog X.w):=by
 intro p s σ H K N Q I r h;obtain⟨D,F,rfl,m,f,v,A,q⟩:=h;obtain⟨u,rfl,z⟩:=r.one;cases z;have x:=(I.hok D _ m).1;refine aO2 (I.ok.hd J) x f v A λM L b j B t a e l g E n C y i=>?_;have k:=I.kept (t':=b) C;have c:=k.drew j;have d:=c.hok.fresh i;have G:a.length<=60:=by rw[g.length_eq];exact f
 exact⟨.ref B,_,c.laid (t':=b) (o:=.lst (a.map kV)) y i ⟨small (by rw[j4];lia),t,e,l,n⟩,rfl,q B _ a d (aZ d _) aG g E⟩
end
end L2
namespace PySem
open SetTable (Probe bits runEnd leap)
def tmk (m:Nat):SetTable:=⟨m,#[],#[],0,true,0,true⟩
def sq (m:Nat)(p:Probe):Nat->Probe
 |0=>p
 |n+1=>(tmk m).advance (sq m p n)
def hd (m:Nat)(x:Nat × Nat):Probe:=⟨x.1,runEnd m x.1 - x.1,x.1,x.2,none⟩
def x0 (m:Nat)(h:Int):Nat × Nat:=(bits h % (m+1),bits h)
def pj (m:Nat)(h:Int)(n:Nat):Nat:=(sq m (hd m (x0 m h)) n).j
def lp (m:Nat)(x:Nat × Nat):Nat->Nat × Nat
 |0=>x
 |k+1=>leap m (lp m x k).1 (lp m x k).2
theorem aGr (m:Nat)(p:Probe)(a:Nat):∀b,sq m p (a+b)=sq m (sq m p a) b
 |0=>rfl
 |b+1=>congrArg (tmk m).advance (aGr m p a b)
theorem aH9 (m:Nat)(x:Nat × Nat):∀k,k<=runEnd m x.1 - x.1->sq m (hd m x) k=⟨x.1+k,runEnd m x.1 - x.1 - k,x.1,x.2,none⟩
 |0,_=>rfl
 |k+1,h=>by unfold sq;rw[aH9 m x k (by lia)];unfold SetTable.advance;rw[if_pos (by show runEnd m x.1 - x.1 - k > 0;lia)];rfl
def aI0 (m:Nat)(x:Nat × Nat):sq m (hd m x) (runEnd m x.1 - x.1+1)=hd m (leap m x.1 x.2):=by unfold sq;rw[aH9 m x _ (d9 _)];unfold SetTable.advance;rw[if_neg (by show ¬ (runEnd m x.1 - x.1 - (runEnd m x.1 - x.1) > 0);lia)];rfl
def bDb (m i:Nat):runEnd m i - i<=9:=by unfold runEnd;split <;> lia
def aD1 (hi:i<=m)(a:k<=runEnd m i - i):i+k<=m:=by unfold runEnd at a;split at a <;> lia
theorem heads (m:Nat)(x:Nat × Nat):∀k,∃n,n<=10 * k/\sq m (hd m x) n=hd m (lp m x k)
 |0=>⟨0,d9 _,rfl⟩
 |k+1=>by obtain⟨n,b,a⟩:=heads m x k;refine⟨n+(runEnd m (lp m x k).1 - (lp m x k).1+1),by have:=bDb m (lp m x k).1;lia,?_⟩;rw[aGr,a,aI0];rfl
theorem aV9 (m:Nat)(x:Nat × Nat):∀k,(lp m x k).2=x.2 / 32 ^ k
 |0=>by simp[lp]
 |k+1=>by show (lp m x k).2 / 32=_;rw[aV9 m x k,Nat.div_div_eq_div_mul,Nat.pow_succ]
theorem aVa (m:Nat)(x:Nat × Nat)(h:x.1<=m):∀k,(lp m x k).1<=m
 |0=>h
 |k+1=>by exact Nat.le_of_lt_succ (Nat.mod_lt _ (Nat.succ_pos m))
def fI (m:Nat):Nat->Nat->Nat
 |0,i=>i
 |k+1,i=>(fI m k i * 5+1) % (m+1)
theorem aD2 (m a i:Nat):∀b,fI m (b+a) i=fI m b (fI m a i)
 |0=>by rw[bDA];rfl
 |b+1=>by rw[show b+1+a=(b+a)+1 by lia];show (fI m (b+a) i * 5+1) % (m+1)=_;rw[aD2 m a i b];rfl
def orb (m:Nat):Nat->Nat->List Nat
 |0,_=>[]
 |k+1,i=>i::orb m k ((i * 5+1) % (m+1))
theorem aUj:∀{n i j:Nat},j∈orb m n i->∃k,k<n/\fI m k i=j
 |n+1,i,j,h=>by
  rcases List.mem_cons.mp h with rfl|h
  ·exact⟨0,Nat.succ_pos _,rfl⟩
  ·obtain⟨k,a,b⟩:=aUj h;exact⟨k+1,Nat.succ_lt_succ a,by rw[aD2 m 1 i k];exact b⟩
def Msk (m:Nat):Prop:=m=7\/m=31\/m=127
def aZl (h:Msk m):(List.range (m+1)).all (λj=>(orb m (m+1) 0).contains j)=true/\fI m (m+1) 0=0:=by rcases h with rfl|rfl|rfl <;> exact⟨by trivial,by trivial⟩
def cyc (h:Msk m)(hi:i<=m)(d:j<=m):∃k,k<=m/\fI m k i=j:=by
 obtain⟨e,f⟩:=aZl h;have at0:∀j,j<=m->∃k,k<m+1/\fI m k 0=j:=λj d=>aUj (by simpa using List.all_eq_true.mp e j (List.mem_range.mpr (by lia)));obtain⟨a,g,rfl⟩:=at0 i hi;obtain⟨b,l,rfl⟩:=at0 j d;by_cases c:a<=b
 ·exact⟨b - a,by lia,by rw[<-aD2,show b - a+a=b by lia]⟩
 ·exact⟨b+(m+1) - a,by lia,by rw[<-aD2,show b+(m+1) - a+a=b+(m+1) by lia,aD2,f]⟩
def aWn (m:Nat)(h:Int):(x0 m h).1<=m/\(x0 m h).2<2 ^ 64:=by refine⟨Nat.le_of_lt_succ (Nat.mod_lt _ (Nat.succ_pos m)),?_⟩;show (h % 2 ^ 64).toNat<2 ^ 64;have a:=bDO h (show (0:Int)<2 ^ 64 by decide);have b:=bEE h (show (2 ^ 64:Int)≠0 by decide);lia
theorem aP7 (h:x.2<2 ^ 64):∀k,(lp m x (12+k)).1=fI m k (lp m x 12).1
 |0=>rfl
 |k+1=>by
  show ((lp m x (12+k)).1 * 5+1+(lp m x (12+k)).2 / 32) % (m+1)=(fI m k _ * 5+1) % (m+1);rw[aP7 h k,aV9,Nat.div_div_eq_div_mul,<-Nat.pow_succ];have:x.2 / 32 ^ (12+k+1)=0:=by refine Nat.div_eq_of_lt (bAB h ?_);exact bAI (by decide:2 ^ 64<=32 ^ 13) (Nat.pow_le_pow_right (by decide) (by lia))
  rw[this]
def aQx (f:Msk m)(h:Int)(e:j<=m):∃k,k<=12+m/\(lp m (x0 m h) k).1=j:=by obtain⟨a,b⟩:=aWn m h;obtain⟨k,d,c⟩:=cyc f (aVa m _ a 12) e;exact⟨12+k,by lia,(aP7 b k).trans c⟩
def least {P:Nat->Prop}:∀n,P n->∃k,k<=n/\P k/\∀i,i<k->¬ P i:=by
 intro n
 induction n using Nat.strongRecOn with
 |ind n ih=>
  intro d;by_cases c:∃i,i<n/\P i
  ·obtain⟨i,f,e⟩:=c;obtain⟨k,a,b⟩:=ih i f e;exact⟨k,by lia,b⟩
  ·exact⟨n,d9 _,d,λi g q=>c ⟨i,g,q⟩⟩
theorem pig:∀(n:Nat) (l:List Nat),(∀j,j<n->j∈l)->n<=l.length
 |0,_,_=>bAE _
 |n+1,l,h=>by have a:=h n (bCV _);have:=pig n (l.erase n) λj b=>(List.mem_erase_of_ne (by lia)).mpr (h j (by lia));rw[List.length_erase_of_mem a] at this;have:=List.length_pos_of_mem a;lia
def first {m:Nat}(v:Msk m){l:List Nat}(hl:l.length<=m)(h:Int):∃N,N<10 * (m+15)/\pj m h N∉l/\pj m h N<=m/\∀n,n<N->pj m h n∈l:=by
 obtain⟨j,g,o⟩:∃j,j<=m/\j∉l:=Classical.byContradiction λz=>by have:=pig (m+1) l λj g=>Classical.byContradiction λq=>z ⟨j,by lia,q⟩;lia
 obtain⟨k,u,r⟩:=aQx v h g;obtain⟨n,t,s⟩:=heads m (x0 m h) k;have e:pj m h n=j:=by unfold pj;rw[s];exact r
 obtain⟨N,a,b,c⟩:=least (P:=λn=>pj m h n∉l) n (by rw[e];exact o);refine⟨N,by lia,b,?_,λi p=>Classical.byContradiction (c i p)⟩;refine (?_:∀N,pj m h N<=m) N;intro N;have f:∀N,∃x k,x.1<=m/\k<=runEnd m x.1 - x.1/\sq m (hd m (x0 m h)) N=sq m (hd m x) k:=by
  intro N
  induction N with
  |zero=>exact⟨x0 m h,0,(aWn m h).1,bAE _,rfl⟩
  |succ N ih=>
   obtain⟨x,k,a,b,c⟩:=ih;by_cases d:k+1<=runEnd m x.1 - x.1
   ·exact⟨x,k+1,a,d,congrArg (tmk m).advance c⟩
   ·obtain rfl:k=runEnd m x.1 - x.1:=by lia
    refine⟨leap m x.1 x.2,0,?_,bAE _,(congrArg (tmk m).advance c).trans (aI0 m x)⟩;exact aVa m x a 1
 obtain⟨x,k,a,b,c⟩:=f N;unfold pj;rw[c,aH9 m x k b];exact aD1 a b
def Rch (m:Nat)(l:List Nat)(h:Int)(j:Nat):Prop:=∃n,pj m h n=j/\∀i,i<n->pj m h i∈l
def Rch.mono (r:Rch m l h j)(s:∀x∈l,x∈l'):Rch m l' h j:=
 let ⟨n,a,b⟩:=r;⟨n,a,λi c=>s _ (b i c)⟩
def below_at (c:Ris xs)(hi:i<xs.size):SetTable.below xs xs[i]=i:=by
 obtain⟨e,a,b⟩:=oJ c xs[i];rcases bEV (SetTable.below xs xs[i]) i with h|h|h
 ·have d:=b _ (by lia) (d9 _);have f:=c _ i (by lia) hi h;lia
 ·exact h
 ·have:=a i hi h;lia
def aCw {t:SetTable}(hd:t.dummies=#[])(f:Ris t.place)(j:Nat):(j∉t.place.toList/\t.slot j=.empty)\/∃i,t.place[i]?=some j/\t.slot j=.live i:=by
 by_cases h:j∈t.place.toList
 ·right;obtain⟨i,d,e⟩:=bBC h;have a:i<t.place.size:=by simpa using d
  have b:t.place[i]=j:=by simpa using e
  subst b;refine⟨i,m8 a,?_⟩;unfold SetTable.slot;dsimp only;rw[below_at f a,m8 a];simp
 ·left;refine⟨h,?_⟩;unfold SetTable.slot;dsimp only;rw[if_neg,hd]
  ·have:SetTable.has #[] j=false:=by unfold SetTable.has;simp
   rw[this];rfl
  ·intro z;have c:=eq_of_beq z;exact h (by simpa using bDS c)
theorem aF0 (m:t.dummies=#[])(f:Ris t.place)(u:pj t.mask h N∉t.place.toList)(y:∀n,n<N->pj t.mask h n∈t.place.toList) :
  ∀(fuel n:Nat),n<=N->N - n<fuel->∃n',n<=n'/\n'<=N/\(∀k i,n<=k->k<n'->t.place[i]?=some (pj t.mask h k)->g i≠h) /\
   ((n'=N/\SetTable.probe.go t g h fuel (sq t.mask (hd t.mask (x0 t.mask h)) n)=some (.empty (pj t.mask h N) none)) \/
   (n'<N/\∃i,t.place[i]?=some (pj t.mask h n')/\g i=h/\SetTable.probe.go t g h fuel (sq t.mask (hd t.mask (x0 t.mask h)) n)=some (.candidate (pj t.mask h n') i (sq t.mask (hd t.mask (x0 t.mask h)) (n'+1)))))
 |0,n,_,hf=>by lia
 |fuel+1,n,hn,hf=>by
  have w:(sq t.mask (hd t.mask (x0 t.mask h)) n).dummy=none:=by
   clear hn hf
   induction n with
   |zero=>rfl
   |succ n ih=>
    unfold sq SetTable.advance
    split
    ·exact ih
    ·exact ih
  unfold SetTable.probe.go;rcases aCw m f (pj t.mask h n) with⟨a,b⟩|⟨i,a,b⟩
  ·have e:=Nat.le_antisymm hn (Nat.le_of_not_lt λz=>a (y n z));subst e;refine⟨n,d9 _,d9 _,λk i p l=>by lia,.inl ⟨rfl,?_⟩⟩;rw[show t.slot (sq t.mask (hd t.mask (x0 t.mask h)) n).j=.empty from b];dsimp only;rw[w];rfl
  ·have d:=Nat.lt_of_le_of_ne hn λz=>u (by rw[<-z];simpa using bDS a);rw[show t.slot (sq t.mask (hd t.mask (x0 t.mask h)) n).j=.live i from b];dsimp only;by_cases c:g i=h
   ·refine⟨n,d9 _,hn,λk i p l=>by lia,.inr ⟨d,i,a,c,?_⟩⟩;rw[if_pos (beq_iff_eq.mpr c)];rfl
   ·rw[if_neg (by simpa using c)];obtain⟨n',p,l,s,A⟩:=aF0 m f u y fuel (n+1) d (by lia);refine⟨n',by lia,l,λk o D B q=>?_,A⟩;by_cases e:k=n
    ·subst e;have:o=i:=by obtain⟨v,r⟩:=Array.getElem?_eq_some_iff.mp q;obtain⟨C,x⟩:=Array.getElem?_eq_some_iff.mp a;rw[<-below_at f v,<-below_at f C,r,x]
     rw[this];exact c
    ·exact s k o (by lia) B q
def aF1 {α β:Type}{R:α->β->Prop}{as:List α}{bs:List β}(h:Paired R as bs):∀{i:Nat} {a:α},as[i]?=some a->∃b,bs[i]?=some b/\R a b:=by
 induction h with
 |nil=>intro i a q;cases q
 |cons r _ ih=>
  intro i a q;cases i with
  |zero=>cases q;exact⟨_,rfl,r⟩
  |succ i=>exact ih q
def aXb {m:Nat}(F:Msk m){A:Array (Option Nat)}{l:List Nat}(ch:∀j,j<=m->((A.getD j (some 0)).isNone=true↔j∉l))(hl:l.length<=m)(h:Int) :
  ∃j,SetTable.layClean.free m A (SetTable.turns m) (bits h % (m+1)) (bits h)=some j/\j<=m/\j∉l/\Rch m l h j:=by
 obtain⟨j,u,w⟩:∃j,j<=m/\j∉l:=Classical.byContradiction λz=>by have:=pig (m+1) l λj u=>Classical.byContradiction λq=>z ⟨j,by lia,q⟩;lia
 obtain⟨K,I,B⟩:=aQx F h u;have r:∀a k,k<=K->K - k<a->(∃n,sq m (hd m (x0 m h)) n=hd m (lp m (x0 m h) k)/\∀i,i<n->pj m h i∈l)->∃j,SetTable.layClean.free m A a (lp m (x0 m h) k).1 (lp m (x0 m h) k).2=some j/\j<=m/\j∉l/\Rch m l h j:=by
  intro a
  induction a with
  |zero=>intro k _ z;lia
  |succ a ih=>
   intro k G E ⟨n,e,s⟩;have b:=aVa m _ (aWn m h).1 k;have g:∀c,c<=runEnd m (lp m (x0 m h) k).1 - (lp m (x0 m h) k).1->pj m h (n+c)=(lp m (x0 m h) k).1+c:=λc f=>by unfold pj;rw[aGr,e,aH9 _ _ _ f]
   have x:∀c,c<=runEnd m (lp m (x0 m h) k).1 - (lp m (x0 m h) k).1->(∀d,d<c->(lp m (x0 m h) k).1+d∈l)->∀i,i<n+c->pj m h i∈l:=λc f hd i t=>by
    by_cases z:i<n
    ·exact s i z
    ·have:=hd (i - n) (by lia);rw[<-g (i - n) (by lia),show n+(i - n)=i by lia] at this;exact this
   have D:(lp m (x0 m h) k).1<=runEnd m (lp m (x0 m h) k).1:=by unfold runEnd;split <;> lia
   unfold SetTable.layClean.free;cases p:(List.range (runEnd m (lp m (x0 m h) k).1+1 - (lp m (x0 m h) k).1)).find? λc=>(A.getD ((lp m (x0 m h) k).1+c) (some 0)).isNone with
   |some c=>
    rw[List.find?_range_eq_some] at p;obtain⟨y,v,C⟩:=p;rw[List.mem_range] at v;have f:c<=runEnd m (lp m (x0 m h) k).1 - (lp m (x0 m h) k).1:=by lia
    refine⟨_,rfl,aD1 b f,(ch _ (aD1 b f)).mp y,n+c,g c f,x c f λd hd=>Classical.byContradiction λz=>?_⟩;have:=C d hd;rw[(ch _ (aD1 b (by lia))).mpr z] at this;cases this
   |none=>
    rw[List.find?_range_eq_none] at p;have o:∀d,d<runEnd m (lp m (x0 m h) k).1+1 - (lp m (x0 m h) k).1->(lp m (x0 m h) k).1+d∈l:=λd hd=>Classical.byContradiction λz=>by have:=p d hd;rw[(ch _ (aD1 b (by lia))).mpr z] at this;cases this
    have H:k≠K:=λz=>w (by rw[<-B,<-z];exact o 0 (by lia));refine ih (k+1) (by lia) (by lia) ⟨n+(runEnd m (lp m (x0 m h) k).1 - (lp m (x0 m h) k).1+1),by rw[aGr,e,aI0];rfl,λi t=>?_⟩;by_cases z:i<n
    ·exact s i z
    ·have:=o (i - n) (by lia);rw[<-g (i - n) (by lia),show n+(i - n)=i by lia] at this;exact this
 exact r _ 0 (bAE _) (by unfold SetTable.turns;lia) ⟨0,rfl,λi t=>by lia⟩
structure LI (m:Nat)(done:List Int)(js:List Nat)(ow:Array (Option Nat)):Prop where
 sz:ow.size=m+1
 at_:∀j k:Nat,ow[j]?=some (some k)↔js[k]?=some j
 le:∀j∈js,j<=m
 pr:Paired (Rch m js) done js
def LI.ch (L:LI m done js ow)(j:Nat)(hj:j<=m):(ow.getD j (some 0)).isNone=true↔j∉js:=by
 have a:j<ow.size:=by rw[L.sz];lia
 rw[w6,m8 a,bBO];cases e:ow[j] with
 |none=>refine⟨λ_ z=>?_,λ_=>rfl⟩;obtain⟨k,b,q⟩:=bBC z;have:=(L.at_ j k).mpr (by rw[b8 b,q]);rw[m8 a,e] at this;cases this
 |some k=>exact⟨λz=>(by cases z),λz=>absurd (v4 ((L.at_ j k).mp (by rw[m8 a,e]))) z⟩
def LI.more (L:LI m done js ow)(l:j<=m)(i:j∉js)(r:Rch m js h j):LI m (done++[h]) (js++[j]) (ow.setIfInBounds j (some js.length)):=by
 have f:j<ow.size:=by rw[L.sz];lia
 refine⟨by rw[Array.size_setIfInBounds,L.sz],λg k=>?_,λx d=>?_,?_⟩
 ·by_cases e:j=g
  ·subst e;rw[Array.getElem?_setIfInBounds_self_of_lt f];constructor
   ·intro z;cases z;rw[bBA (d9 _),Nat.sub_self];rfl
   ·intro z;rcases bEV k js.length with c|c|c
    ·rw[bBD c] at z;exact absurd (v4 z) i
    ·rw[c]
    ·rw[bAD (by rw[v9];show js.length+1<=k;lia)] at z;cases z
  ·rw[Array.getElem?_setIfInBounds_ne e,L.at_];rcases bEV k js.length with c|c|c
   ·rw[bBD c]
   ·rw[c,bBA (d9 _),Nat.sub_self,bAD (d9 _)];exact⟨λz=>(by cases z),λz=>absurd (bAM z) e⟩
   ·rw[bAD (by lia),bAD (by rw[v9];show js.length+1<=k;lia)]
 ·rcases List.mem_append.mp d with z|z
  ·exact L.le x z
  ·rw[List.mem_singleton.mp z];exact l
 ·exact rF (L.pr.mono λa b q=>q.mono λx d=>bBF _ d) (r.mono λx d=>bBF _ d)
theorem aQ2 (g:Msk m)(c:∀o k h j,SetTable.layClean.free m o (SetTable.turns m) (bits h % (m+1)) (bits h)=some j->f (some (o,k)) h=some (o.setIfInBounds j (some k),k+1)) :
  ∀hs done js ow,LI m done js ow->js.length+hs.length<=m->∃js' ow' k,hs.foldl f (some (ow,js.length))=some (ow',k)/\LI m (done++hs) js' ow'
 |[],done,js,ow,L,_=>⟨js,ow,_,rfl,by rw[bCJ];exact L⟩
 |h::hs,done,js,ow,L,hl=>by rw[j9] at hl;obtain⟨j,e,d,i,b⟩:=aXb g L.ch (by lia) h;obtain⟨js',ow',k,q,a⟩:=aQ2 g c hs (done++[h]) (js++[j]) _ (L.more d i b) (by rw[v9];show js.length+1+hs.length<=m;lia);refine⟨js',ow',k,?_,by rw[bCD] at a;exact a⟩;rw[List.foldl_cons,c _ _ _ _ e];rw[v9] at q;exact q
theorem aL7 {α:Type}:∀l:List α,(List.range l.length).filterMap (λi=>l[i]?)=l
 |[]=>rfl
 |x::l=>by rw[j9,List.range_succ_eq_map,bCH];simp only[List.getElem?_cons_zero,bEG,Function.comp_def,Nat.succ_eq_add_one,List.getElem?_cons_succ];rw[aL7 l]
def aXn {m:Nat}(R:Msk m)(es:Array (Int × Value))(S:es.size<=m)(fi mv:Nat)(ld pl:Bool):∃place order,SetTable.laid m fi mv ld pl (es.map (·.1))=some (⟨m,place,#[],fi,ld,mv,pl⟩,order)/\Ris place/\(∀j∈place.toList,j<=m) /\
  (order.filterMap (es[·]?)).toList.Perm es.toList/\Paired (λj e=>Rch m place.toList e.1 j) place.toList (order.filterMap (es[·]?)).toList:=by
 have O:LI m [] [] (Array.replicate (m+1) none):=⟨Array.size_replicate,λj k=>⟨λz=>(by
  rw[Array.getElem?_replicate] at z
  split at z <;> cases z),λz=>(by cases z)⟩,λj u=>(by cases u),.nil⟩
 have F:([]:List Nat).length+(es.map (·.1)).toList.length<=m:=by simpa using S
 obtain⟨v,p,k,e,L⟩:=aQ2 R (f:=λC h=>do
  let (owner,k) <-C
  let j <-SetTable.layClean.free m owner (SetTable.turns m) (bits h % (m+1)) (bits h)
  pure (owner.setIfInBounds j (some k),k+1)) (λo k h j q=>by show (SetTable.layClean.free m o _ _ _).bind _=_;rw[q];rfl) (es.map (·.1)).toList [] [] _ O F
 rw[bCX] at L;have M:v.length=es.size:=by rw[<-L.pr.length];simp
 have N:SetTable.layClean m (es.map (·.1))=some p:=by unfold SetTable.layClean;rw[<-Array.foldl_toList];exact congrArg (Option.map (·.1)) e
 have c:∀x:Nat × Nat,x∈(List.range (m+1)).filterMap (λj=>(p.getD j none).map (j,·))↔v[x.2]?=some x.1:=λx=>by
  rw[List.mem_filterMap,<-L.at_];constructor
  ·rintro⟨j,u,q⟩;have n:j<p.size:=by rw[L.sz];exact List.mem_range.mp u
   rw[w6,m8 n,bBO] at q;obtain⟨k,g,rfl⟩:=Option.map_eq_some_iff.mp q;rw[m8 n,g]
  ·intro q;obtain⟨n,g⟩:=Array.getElem?_eq_some_iff.mp q;refine⟨x.1,List.mem_range.mpr (by rw[L.sz] at n;exact n),?_⟩;rw[w6,q];rfl
 generalize D:(List.range (m+1)).filterMap (λj=>(p.getD j none).map (j,·))=live at c;have s:∀j b,(p.getD j none).map (j,·)=some b->b.1=j:=λj b q=>by obtain⟨_,_,rfl⟩:=Option.map_eq_some_iff.mp q;rfl
 have H:live.Pairwise λa b=>a.1<b.1:=by rw[<-D,List.pairwise_filterMap];exact List.pairwise_lt_range.imp λ{a b} E x l y t=>by rw[s a x l,s b y t];exact E
 have I:(live.map (·.2)).Nodup:=by refine List.pairwise_map.mpr ((List.pairwise_and_iff.mpr ⟨H,List.pairwise_iff_forall_sublist.mpr λ{a b} q=>(⟨(c a).mp (q.subset j5),(c b).mp (q.subset (j7 _ j5))⟩:v[a.2]?=some a.1/\v[b.2]?=some b.1)⟩).imp λ{a b} ⟨T,K,P⟩ z=>?_);rw[z,P] at K;have:=bAM K;lia
 have J:(live.map (·.2)).Perm (List.range es.size):=(bFR I List.nodup_range).mpr λk=>by
  rw[List.mem_map,List.mem_range];constructor
  ·rintro⟨x,l,rfl⟩;rw[<-M];exact (List.getElem?_eq_some_iff.mp ((c x).mp l)).1
  ·intro G;exact⟨(v[k]'(by lia),k),(c _).mpr (b8 _),rfl⟩
 have w:((live.map (·.2)).toArray.filterMap (es[·]?)).toList=live.filterMap λx=>es[x.2]?:=by rw[Array.toList_filterMap];simp only[bEG,Function.comp_def]
 refine⟨(live.map (·.1)).toArray,(live.map (·.2)).toArray,?_,?_,λj u=>?_,?_,?_⟩
 ·unfold SetTable.laid;rw[N];show some _=_;rw[<-D]
 ·rw[aCb];exact List.pairwise_map.mpr H
 ·obtain⟨x,l,rfl⟩:=List.mem_map.mp u;exact L.le _ (v4 ((c x).mp l))
 ·rw[Array.toList_filterMap];refine (J.filterMap _).trans ?_;have:=aL7 es.toList;rw[v7] at this;simp only[bBK] at this;rw[this]
 ·rw[w];have d:∀x∈live,∃e:Int × Value,es[x.2]?=some e/\Rch m (live.map (·.1)) e.1 x.1:=λx l=>by
   have q:=(c x).mp l;have G:x.2<es.size:=by rw[<-M];exact (List.getElem?_eq_some_iff.mp q).1
   refine⟨es[x.2],m8 G,?_⟩;obtain⟨b,g,A⟩:=aF1 L.pr (i:=x.2) (a:=es[x.2].1) (by simp[G]);rw[q] at g;cases g;exact A.mono λy t=>by obtain⟨i,Q,z⟩:=bBC t;exact List.mem_map.mpr ⟨(y,i),(c _).mpr (by rw[b8 Q,z]),rfl⟩
  refine (?_:∀B,(∀x∈live,∃e:Int × Value,es[x.2]?=some e/\Rch m B e.1 x.1)->Paired (λj (e:Int × Value)=>Rch m B e.1 j) (live.map (·.1)) (live.filterMap λx=>es[x.2]?)) _ d;clear d w J I H D c;intro B d
  induction live with
  |nil=>exact .nil
  |cons x r ih=>obtain⟨e,g,A⟩:=d x j5;rw[bCH,g];exact .cons A (ih λy t=>d y (j7 _ t))
open SetTable (Probe bits)
section
variable {prog:Program}{w:World}{κ:Type}[DecidableEq κ]{knd:KeyKind prog w κ}{A:Around}{E:bF0}{s:Shared}
structure TI (b:Bool)(t:SetTable)(es:Array (Int × Value)):Prop where
 led:b=false->t.led=true
 dm:t.dummies=#[]
 msk:Msk t.mask
 ris:Ris t.place
 pr:Paired (λj (e:Int × Value)=>Rch t.mask t.place.toList e.1 j) t.place.toList es.toList
 room:5 * es.size<3 * t.mask
def TI.len {b:Bool}{t:SetTable}{es:Array (Int × Value)}(x:TI b t es):t.place.size=es.size:=by have:=x.pr.length;simpa using this
def TI.fits (x:TI b t es):t.fits es.size=true:=by unfold SetTable.fits SetTable.fill;rw[x.len,x.dm];have:=x.room;simp;lia
def TI.tab (x:TI b t es):TabOk b t:=⟨x.led,x.dm,by rcases x.msk with e|e|e <;> lia,λ_=>x.ris⟩
def aE5 (e:Ex h0 h)(x:IsTupleKey knd h0 k a):IsTupleKey knd h k a:=let ⟨o,i,n,ho,r⟩:=x;⟨o,i,n,e _ _ ho,r⟩
variable {T:List κ->Addr->Prop}
def ElT (knd:KeyKind prog w κ)(T:List κ->Addr->Prop)(h0:Heap)(k:List κ)(e:Int × Value):Prop:=∃a,e.2=.ref a/\(IsTupleKey knd h0 k a/\T k a)/\e.1=tupleKeyHash knd k
def ElT.inj (x:ElT knd T h0 k e)(y:ElT knd T h0 k' e):k=k':=by obtain⟨a,f,d,_⟩:=x;obtain⟨b,c,g,_⟩:=y;rw[f] at c;cases c;exact d.1.inj g.1
def cls_val (n:Nat)(h:carriedByValue v=true):ofAClassStatement n v=pure false:=by
 cases v with
 |ref a=>simp[carriedByValue] at h
 |_=>first|rfl|simp[ofAClassStatement]|(unfold ofAClassStatement;rfl)
def aP1 (g:IsTupleKey knd s.heap k a)(h:Q false s):wpAny (model prog w) A (ofAClassStatement 8 (.ref a)) Q E s:=by
 have f:=g.typeIs;obtain⟨o,d,n,j,_,hd,i⟩:=g;unfold ofAClassStatement;refine b7 (bEO f ?_);dsimp only;rw[if_pos (by rfl)];refine b7 (d8 ?_);simp only[Bool.not_true,bBB,if_false];refine b7 (bBI j hd (b7 ?_));rw[<-Array.forIn_toList];refine bEZ _ (λb r e=>r.1=none/\e=s/\∀v∈b,carriedByValue v=true) _ ?_ ?_ _ _ ⟨rfl,rfl,i.byValue⟩
 ·rintro v b r e ⟨hr,rfl,hall⟩;rw[cls_val _ (hall v j5)];refine b7 (d8 ?_);simp only[bBB,if_false];exact d8 ⟨rfl,rfl,λu c=>hall u (j7 _ c)⟩
 ·rintro⟨m,l⟩ e ⟨hr,rfl,_⟩;simp only at hr;subst hr;exact d8 h
def aWj (i:IsTupleKey knd s.heap k a)(h:Q false s)(m:∀v∈l,∃b k',v=.ref b/\IsTupleKey knd s.heap k' b):wpAny (model prog w) A (searchCouldBeSeen (.ref a) l) Q E s:=by
 unfold searchCouldBeSeen;refine b7 (bEZ _ (λc r d=>r.1=none/\d=s/\∀v∈c,∃b k',v=.ref b/\IsTupleKey knd s.heap k' b) _ ?_ ?_ _ _ ⟨rfl,rfl,m⟩)
 ·rintro v c r d ⟨hr,rfl,hall⟩;have f:∀v∈c,∃b k',v=.ref b/\IsTupleKey knd d.heap k' b:=λu e=>hall u (j7 _ e);obtain⟨b,k',rfl,g⟩:=hall v j5;dsimp only
  split
  ·exact d8 ⟨rfl,rfl,f⟩
  ·refine b7 (wpAny_eqIsQuiet_tuple i ?_);refine b7 (wpAny_eqIsQuiet_tuple g ?_);refine b7 (aP1 i ?_);exact b7 (aP1 g (d8 ⟨rfl,rfl,f⟩))
 ·rintro⟨n,j⟩ d ⟨hr,rfl,_⟩;simp only at hr;subst hr;exact d8 h
def aY4 (n:Nat)(h:carriedByValue v=true):∃b,hashByValue n v=pure b:=by
 cases v with
 |ref a=>simp[carriedByValue] at h
 |_=>first|exact⟨_,rfl⟩|exact⟨_,by unfold hashByValue;rfl⟩
def aYi (i:IsTupleKey knd s.heap k a)(h:∀b,Q b s):wpAny (model prog w) A (hashByValue 8 (.ref a)) Q E s:=by
 have p:=i.typeIs;obtain⟨o,d,n,m,_,hd,j⟩:=i;unfold hashByValue;refine b7 (wpAny_specialOf p F.slot_tuple_hash.lookup ?_);dsimp only;refine b7 (bBI m hd (b7 ?_));simp only[bBO];rw[<-Array.forIn_toList];refine bEZ _ (λc r f=>f=s/\∀v∈c,carriedByValue v=true) _ ?_ ?_ _ _ ⟨rfl,j.byValue⟩
 ·rintro v c r f ⟨rfl,hall⟩;obtain⟨b,e⟩:=aY4 7 (hall v j5);rw[e];refine b7 (d8 ?_);cases b with
  |true=>exact d8 ⟨rfl,λu g=>hall u (j7 _ g)⟩
  |false=>exact d8 (d8 (h _))
 ·rintro⟨l,q⟩ f ⟨rfl,_⟩;cases l with
  |none=>exact d8 (h _)
  |some r=>exact d8 (h _)
def aE3 {xs:Array Nat}(d:Ris xs){i j p:Nat}(a:xs[i]?=some p)(b:xs[j]?=some p):i=j:=by obtain⟨g,c⟩:=Array.getElem?_eq_some_iff.mp a;obtain⟨f,e⟩:=Array.getElem?_eq_some_iff.mp b;rw[<-below_at d g,<-below_at d f,c,e]
def aRd (ho:s.heap.get? D=some o)(P:o.data=.set es ep t)(h:TI (byT w) t es)(F:Ex h0 s.heap)(hu:A.units<cLine)(ka:IsTupleKey knd h0 k a)(pr:Paired (ElT knd T h0) kl es.toList)
  (a1:k∈kl->Q (.there none) s) (a0:k∉kl->∀j,j∉t.place.toList->Rch t.mask t.place.toList (tupleKeyHash knd k) j->Q (.free j false) s) :
  wpAny (model prog w) A (setSearch D (.ref a) (tupleKeyHash knd k) true) Q E s:=by
 have Z:=h.fits;have ll:t.place.toList.length<=t.mask:=by rw[v7,h.len];have:=h.room;lia
 obtain⟨N,n1,H,_,L⟩:=first h.msk ll (tupleKeyHash knd k)
 have M:∀(f n:Nat) (K:Option Probe),n<=N->N - n<f->K.getD (t.probeStart (tupleKeyHash knd k))=sq t.mask (hd t.mask (x0 t.mask (tupleKeyHash knd k))) n->(∀(p i:Nat) (e:Int × Value),p<n->t.place[i]?=some (pj t.mask (tupleKeyHash knd k) p)->es[i]?=some e->¬ ElT knd T h0 k e) ->
   wpAny (model prog w) A (setSearchFrom D (.ref a) (tupleKeyHash knd k) true f K) Q E s:=by
  intro f
  induction f with
  |zero=>intro n K _ z;lia
  |succ f ih=>
   intro n K hn a3 O W;unfold setSearchFrom;refine b7 (bBL ho P Z ?_);dsimp only;rw[if_neg (by unfold SetTable.gaveWay;rcases h.msk with e|e|e <;> rw[e] <;> decide),O];generalize hp:t.probe _ (tupleKeyHash knd k) (sq t.mask (hd t.mask (x0 t.mask (tupleKeyHash knd k))) n)=pm;have C:SetTable.probe.go t (λi=>(es[i]?.map (·.1)).getD 0) (tupleKeyHash knd k) (10 * SetTable.turns t.mask) (sq t.mask (hd t.mask (x0 t.mask (tupleKeyHash knd k))) n)=pm:=hp;obtain⟨p,m1,m2,m3,J⟩:=aF0 (g:=λi=>(es[i]?.map (·.1)).getD 0) h.dm h.ris H L (10 * SetTable.turns t.mask) n hn (by unfold SetTable.turns;lia);have I:∀(d i:Nat) (e:Int × Value),d<p->t.place[i]?=some (pj t.mask (tupleKeyHash knd k) d)->es[i]?=some e->¬ ElT knd T h0 k e:=λd i e G r l B=>by
    by_cases z:d<n
    ·exact W d i e z r l B
    ·refine m3 d i (by lia) G r ?_;rw[l];obtain⟨_,_,_,e'⟩:=B;exact e'
   rcases J with⟨rfl,J⟩|⟨m5,i,m6,m7,J⟩
   ·rw[J] at C;subst C;dsimp only;refine d8 (a0 (λz=>?_) _ H ⟨_,rfl,L⟩);obtain⟨e,G,r⟩:=aA0 pr k z;obtain⟨i,hi,rfl⟩:=bBC G;have u:i<es.size:=by simpa using hi
    have x:i<t.place.size:=by rw[h.len];exact u
    obtain⟨b,l,m,B,Y⟩:=aF1 h.pr (i:=i) (a:=t.place[i]) (by simp[x]);rw[b8 hi] at l;cases l;obtain⟨_,_,_,q6⟩:=id r;rw[q6] at B Y;refine I m i _ (Nat.lt_of_not_le λz=>?_) (by rw[B,m8 x]) (by simp[u]) r;rcases bFO z with z|z
    ·exact H (Y _ z)
    ·rw[z,B] at H;exact H (by simp[bER])
   ·rw[J] at C;subst C;dsimp only;have x:=(Array.getElem?_eq_some_iff.mp m6).1;have u:i<es.size:=by rw[<-h.len];exact x
    have S:=m8 u;obtain⟨k',V,a',X,kb,e2⟩:=mR pr es[i] (by simp[bER]);have sl:t.slot (pj t.mask (tupleKeyHash knd k) p)=.live i:=by
     rcases aCw h.dm h.ris (pj t.mask (tupleKeyHash knd k) p) with⟨q,_⟩|⟨i',q,q'⟩
     ·exact absurd (L p m5) q
     ·rw[q',aE3 h.ris q m6]
    have U:∀{R:Bool->Shared->Prop},R false s->wpAny (model prog w) A (searchCouldBeSeen (.ref a) ((es.filter (·.1 == tupleKeyHash knd k)).toList.map (·.2))) R E s:=λhR=>aWj (aE5 F ka) hR λv hv=>by obtain⟨e,G,rfl⟩:=List.mem_map.mp hv;rw[Array.toList_filter] at G;obtain⟨k2,_,a2,r,l,_⟩:=mR pr e (List.mem_filter.mp G).1;exact⟨a2,k2,r,aE5 F l.1⟩
    generalize es[i]=ee at *;obtain⟨hh,y⟩:=ee;dsimp only at X;subst X;cases hl:t.led;all_goals
     first
      |(rw[if_pos (by rfl)];refine b7 (U ?_);rw[if_neg (by decide)])
      |rw[if_neg (by decide)]
     rw[S];dsimp only;refine b7 (bAU (wpAny_eqBool_tuple hu (aE5 F kb.1) (aE5 F ka) ?_));refine b7 (bBL ho P Z ?_);by_cases c:k'=k
     ·rw[m9 c,if_pos (by rfl)];exact d8 (a1 (c ▸ V))
     ·rw[v6 c,if_neg (by decide)];dsimp only;rw[show t.sameMemory t.moves t.mask=some true by unfold SetTable.sameMemory;rw[if_pos (by simp)]];dsimp only;rw[if_pos rfl,sl];dsimp only;rw[S];dsimp only;refine b7 (wpAny_isSame_ref_self ?_);refine b7 (d8 ?_);rw[if_pos rfl];dsimp only;rw[if_neg (by decide)];refine ih (p+1) (some _) m5 (by lia) rfl λd i' e G r l B=>?_;by_cases z:d<p
      ·exact I d i' e z r l B
      ·obtain rfl:d=p:=by lia
       rw[aE3 h.ris r m6,S] at l;cases l;exact c ((ElT.inj ⟨a',rfl,kb,e2⟩ B))
 exact M _ 0 none (bAE _) (by rcases h.msk with e|e|e <;> rw[e] at n1 <;> lia) rfl λp i e z=>by lia
theorem aCx {α β:Type}{R:α->β->Prop}{a:α}{b:β}(r:R a b):∀{as:List α} {bs:List β},Paired R as bs->∀p,Paired R (as.take p++a::as.drop p) (bs.take p++b::bs.drop p)
 |_,_,.nil,p=>by rw[bDZ,bDZ,List.drop_nil,List.drop_nil];exact .cons r .nil
 |_,_,.cons q t,0=>.cons r (.cons q t)
 |_,_,.cons q t,p+1=>.cons q (aCx r t p)
def aJc {α:Type}(l:List α)(x:α)(p:Nat):(l.take p++x::l.drop p).Perm (l++[x]):=
 List.perm_middle.trans (by rw[List.take_append_drop];exact (List.perm_append_singleton x l).symm)
def SetT (knd:KeyKind prog w κ)(T:List κ->Addr->Prop)(h0 h:Heap)(D:Addr)(kl:List (List κ)):Prop:=∃o es ep t,h.get? D=some o/\o.ExactSet/\o.data=.set es ep t/\TI (byT w) t es/\Paired (ElT knd T h0) kl es.toList
def aT0 (ho:s.heap.get? D=some o)(hd:o.data=.set es ep t)(u:t.fits es.size=true)(d:Msk m)(j:SetTable.sizeAbove n=m+1)(r:5 * es.size<3 * m)(p:byT w=false->t.led=true)
  (h:∀es' t',es'.toList.Perm es.toList->TI (byT w) t' es'->Q () { s with heap:=s.heap.update D (Obj.putSet es' t') }):wpAny (model prog w) A (setRelay D n) Q E s:=by
 unfold setRelay;refine b7 (bBL ho hd u ?_);dsimp only;have k:es.size<=m:=by lia
 obtain⟨g,b,i,q,_,f,l⟩:=aXn d es k t.finger (t.movedTo m) t.led t.plain;have c:(b.filterMap (es[·]?)).size=es.size:=by rw[<-v7,f.length_eq,v7]
 rw[if_neg (by rw[j,sizeLine_eq];rcases d with e|e|e <;> lia)];refine b7 (bEJ (a:=(b.filterMap (es[·]?),⟨m,g,#[],t.finger,t.led,t.movedTo m,t.plain⟩)) ?_ (bFV ho hd (h _ _ f ⟨p,rfl,d,q,l,by rw[c];exact r⟩) (by rw[c,sizeLine_eq];rcases d with e|e|e <;> lia)));rw[show t.relaid (es.map (·.1)) n=some (⟨m,g,#[],t.finger,t.led,t.movedTo m,t.plain⟩,b) by unfold SetTable.relaid;rw[j];exact i];exact if_neg (by simp[c])
theorem aVy {D a:Addr}{I:List (List κ)}{k:List κ}{h0:Heap}{Q:Bool->Shared->Prop}(hu:A.units<cLine)(C:Ex h0 s.heap)(M:IsTupleKey knd h0 k a)(hT:T k a)(hS:SetT knd T h0 s.heap D I)(hroom:I.length<76)
  (h:∀h' tk kl' b,Heap.SameBut D s.heap h'->SetT knd T h0 h' D kl'->kl'.Perm (if k∈I then I else I++[k])->Q b { s with heap:=h',toks:=tk }):wpAny (model prog w) A (setAdd D (.ref a)) Q E s:=by
 obtain⟨o,f,ep,t,y,F,hd,g,W⟩:=id hS;have hn:I.length=f.size:=by rw[Paired.length W,v7]
 unfold setAdd;refine bAU (b7 (wpAny_pyHash_tuple hu (aE5 C M) ?_));generalize s.toks+_=tk;unfold setAddHashed setAddHashedIn;refine bAU (b7 (bBL y hd g.fits ?_));dsimp only;rw[if_neg (by unfold byScan;simp[Value.scannable])];refine b7 (aRd (s:={ s with toks:=tk }) y hd g C hu M W (λz=>?_) λz j hj hr=>?_)
 ·exact d8 (h s.heap tk I false (Heap.SameBut.refl D s.heap) hS (by rw[if_pos z]))
 ·dsimp only;have bl:=(oJ g.ris j).1;have lp:(SetTable.insertAt t.place (SetTable.below t.place j) j).toList=_:=nA _ _ _ bl;have N:(SetTable.insertAt f (SetTable.below t.place j) (tupleKeyHash knd k,Value.ref a)).toList=_:=nA f _ _ (by rw[<-g.len];exact bl);have nj:t.place[SetTable.below t.place j]?≠some j:=λq=>hj (by simpa using bDS q);have u:∀x,x∈t.place.toList->x∈(SetTable.insertAt t.place (SetTable.below t.place j) j).toList:=λx hx=>by rw[lp,(aJc _ _ _).mem_iff];exact bBF _ hx
  have r:Paired (λi (e:Int × Value)=>Rch t.mask (SetTable.insertAt t.place (SetTable.below t.place j) j).toList e.1 i) (SetTable.insertAt t.place (SetTable.below t.place j) j).toList (SetTable.insertAt f (SetTable.below t.place j) (tupleKeyHash knd k,Value.ref a)).toList:=by
   rw[N];generalize (SetTable.insertAt t.place (SetTable.below t.place j) j).toList=L at lp u ⊢;refine (?_:∀L',L'=L->Paired (λi (e:Int × Value)=>Rch t.mask L e.1 i) L' _) L rfl;rintro L' rfl
   conv=>arg 2;rw[lp]
   exact aCx (R:=λi (e:Int × Value)=>Rch t.mask L' e.1 i) (hr.mono u) (g.pr.mono λ_ _ q=>q.mono u) _
  obtain⟨kl',n,pm⟩:=mY (N ▸ aJc f.toList _ _:(SetTable.insertAt f (SetTable.below t.place j) (tupleKeyHash knd k,Value.ref a)).toList.Perm _) (rF W (show ElT knd T h0 k (tupleKeyHash knd k,Value.ref a) from ⟨a,rfl,⟨M,hT⟩,rfl⟩));generalize S:SetTable.insertAt f (SetTable.below t.place j) (tupleKeyHash knd k,Value.ref a)=es1 at N r n;have sz:es1.size=f.size+1:=by rw[<-v7,<-Paired.length n,pm.length_eq,v9,hn];rfl
  have U:∀pt:SetTable × Nat,pt.1.mask=t.mask->pt.1.place=SetTable.insertAt t.place (SetTable.below t.place j) j->pt.1.dummies=#[]->pt.1.led=t.led->pt.2=SetTable.below t.place j->wpAny (model prog w) A (do
    let byValue <-if pt.1.plain then hashByValue 8 (Value.ref a) else pure true
    let t:=if byValue then pt.1 else { pt.1 with plain:=false }
    storeSet D (SetTable.insertAt f pt.2 (tupleKeyHash knd k,Value.ref a)) t
    if !false && t.tooFull then setRelay D (SetTable.grown (f.size+1))
    return true) Q E { s with toks:=tk }:=by
   intro ⟨H,p⟩ f1 f2 f3 f4 f5;dsimp only at f1 f2 f3 f4 f5 ⊢;subst f5;rw[S];have l:∀d:SetTable,d.mask=t.mask->d.place=H.place->d.dummies=#[]->d.led=t.led->wpAny (model prog w) A (do
     storeSet D es1 d
     if !false && d.tooFull then setRelay D (SetTable.grown (f.size+1))
     return true) Q E { s with toks:=tk }:=by
    intro d B K X Z;have tf:d.tooFull=decide (5 * es1.size ≥ 3 * t.mask):=by
     unfold SetTable.tooFull SetTable.fill;rw[B,K,X,f2,<-v7,r.length,v7]
     congr 1
     simp only[j6,bCQ,Nat.add_zero];rw[Nat.mul_comm,Nat.mul_comm t.mask]
    have rm:=g.room;have ft:d.fits es1.size=true:=by unfold SetTable.fits SetTable.fill;rw[B,K,X,f2,<-v7,r.length,v7];simp;lia
    have ps:=putSet_of es1 d hd;have J:=bBJ (Obj.putSet es1 d) y (by rw[ps];rfl);rw[ps] at J;have G:kl'.Perm (if k∈I then I else I++[k]):=by rw[if_neg z];exact pm
    refine b7 (bFV y hd ?_ (by rw[sz,sizeLine_eq];lia));rw[tf];by_cases c:5 * es1.size ≥ 3 * t.mask
    ·rw[m9 c,if_pos (by rfl)];obtain⟨m,m1,m2,m3⟩:∃m,Msk m/\SetTable.sizeAbove (SetTable.grown (f.size+1))=m+1/\5 * es1.size<3 * m:=by
      rcases g.msk with e|e|e <;> rw[e] at c rm
      ·have:f.size=4:=by lia
       exact⟨31,.inr (.inl rfl),by rw[this];decide +kernel,by lia⟩
      ·have:f.size=18:=by lia
       exact⟨127,.inr (.inr rfl),by rw[this];decide +kernel,by lia⟩
      ·lia
     refine b7 (aT0 (s:={ s with heap:=s.heap.update D (Obj.putSet es1 d),toks:=tk }) J rfl ft m1 m2 m3 (λq=>by rw[Z];exact g.led q) λv O q1 q2=>d8 ?_);obtain⟨Y,V,P⟩:=mY q1 n;have hg2:=bBJ (Obj.putSet v O) J rfl;exact h _ tk Y true ((bAY s.heap D (Obj.putSet es1 d)).trans (bAY _ D (Obj.putSet v O))) ⟨_,v,_,O,hg2,F,rfl,q2,V⟩ (P.trans G)
    ·rw[v6 c,if_neg (by decide)];exact d8 (h _ tk kl' true (bAY s.heap D (Obj.putSet es1 d)) ⟨_,es1,_,d,J,F,rfl,⟨λq=>by rw[Z];exact g.led q,X,by rw[B];exact g.msk,by rw[K,f2];exact vC g.ris nj,by rw[B,K,f2];exact r,by rw[B];lia⟩,n⟩ G)
   split
   ·refine b7 (aYi (s:={ s with toks:=tk }) (aE5 C M) λb=>?_);cases b with
    |true=>exact l H f1 rfl f3 f4
    |false=>exact l { H with plain:=false } f1 rfl f3 f4
   ·exact b7 (d8 (l H f1 rfl f3 f4))
  refine b7 (bBL y hd g.fits ?_);exact U (t.put j) rfl rfl (by show (if SetTable.has t.dummies j=true then _ else t.dummies)=#[];rw[g.dm,show SetTable.has #[] j=false by unfold SetTable.has;simp];rfl) rfl rfl
end
end PySem
namespace L2
open PySem PySem.Spec PyProof.Rows
end L2
namespace PySem
open PySem.Spec
def iQ:entryFor table "list.remove.loop"=some Builtin.«list.remove.loop»:=entryFor_of_tree (by kernel_rfl)
def aEm (c:s.heap.get? l=some { cls:=Value.type "list",dict:=dd,data:=Data.seq items n,slots:=sl })(f:j<items.size)
  (g:SeqAt.EqAt A.in1 s items[j] x true) (h:∀(m:Nat) (hm:m<items.size),m<j->SeqAt.EqAt A.in1 s items[m] x false) (e:items.size<=sizeLine)
  (q:R (.ok (.ret .none)) { s with heap:=s.heap.update l (Obj.mapSeq λxs=>xs.eraseIdxIfInBounds j) }) :
  ∀k i,i+k=j->codeAny (model prog w) A (.builtin "list.remove.loop" ⟨[.ref l,x,rawInt (i:Nat)],[]⟩) R s:=by
 intro k
 induction k with
 |zero=>
  intro i d;obtain rfl:i=j:=by lia
  refine bBU iQ ?_;rw[bBM MeetsSeq.plain_remove_loop _];refine b7 (wpAny_listItems c rfl ?_);have b:items[Int.toNat (i:Nat)]?=some items[i]:=by rw[bAS];exact m8 f
  simp only[b];refine b7 (g _ _ _ _ ?_);simp only[if_true];refine b7 (PyProof.Rows.listUpdate_at c rfl ?_ e ?_)
  ·rw[bAS];exact d8 q
  ·unfold Array.eraseIdxIfInBounds
   split
   ·rw[Array.size_eraseIdx];lia
   ·lia
 |succ k ih=>
  intro i d;refine bBU iQ ?_;rw[bBM MeetsSeq.plain_remove_loop _];have a:i<items.size:=by lia
  refine b7 (wpAny_listItems c rfl ?_);have b:items[Int.toNat (i:Nat)]?=some items[i]:=by rw[bAS];exact m8 a
  simp only[b];refine b7 (h i a (by lia) _ _ _ _ ?_);refine d8 ⟨bCU MeetsSeq.plain_remove_loop _,?_⟩;exact ih (i+1) (by lia)
def aEc (l:Addr)(items:Array Value)(n:Nat)(dd:Option Addr)(sl:Array (Option Value))(x:Value)(j:Nat)(f:j<items.size)(e:items.size<=sizeLine) :
  Meets (Builtin.«list.remove» ⟨[.ref l,x],[]⟩) λA R s=>s.heap.get? l=some { cls:=Value.type "list",dict:=dd,data:=Data.seq items n,slots:=sl } /\
   SeqAt.EqAt A.in1 s items[j] x true/\(∀m hm,m<j->SeqAt.EqAt A.in1 s items[m] x false) /\
   R (.ok (.ret .none)) { s with heap:=s.heap.update l (Obj.mapSeq λxs=>xs.eraseIdxIfInBounds j) }:=by
 intro a w A R s ⟨b,c,d,q⟩;refine d8 ⟨bCU MeetsSeq.plain_remove_loop _,?_⟩;exact aEm b f c d e q j 0 (by lia)
end PySem
namespace L2
open PySem PySem.Spec PyProof.Rows
theorem aD0:∀{xs:List V} {its:List Value},Vals xs its->∀j,Vals (xs.eraseIdx j) (its.eraseIdx j)
 |_,_,.nil,j=>by cases j <;> exact .nil
 |_,_,.cons r t,0=>t
 |_,_,.cons r t,j+1=>.cons r (aD0 t j)
def qN (r:List V):Prop:=∀x∈r,(∃i,x=.int i)\/∃z,x=.str z
def aPf (b:(∃i,x=.int i)\/∃z,x=.str z)(a:(∃i,y=.int i)\/∃z,y=.str z):eqV x y=decide (x=y):=by
 rcases b with⟨i,rfl⟩|⟨z,rfl⟩ <;> rcases a with⟨j,rfl⟩|⟨w,rfl⟩
 ·by_cases e:i=j
  ·subst e;rw[m9 rfl];exact beq_self_eq_true _
  ·rw[v6 λq=>e (V.int.inj q)];exact beq_eq_false_iff_ne.mpr e
 ·rw[v6 λq=>by cases q];rfl
 ·rw[v6 λq=>by cases q];rfl
 ·by_cases e:z=w
  ·subst e;rw[m9 rfl];exact beq_self_eq_true _
  ·rw[v6 λq=>e (V.str.inj q)];exact beq_eq_false_iff_ne.mpr e
def aZd:∀{r q:List V},qN r->qN q->((List.range (min r.length q.length)).all (λj=>eqV (r.getD j .non) (q.getD j .non)) && r.length == q.length)=decide (r=q):=by
 intro r q b f;by_cases e:r=q
 ·subst e;rw[m9 rfl,beq_self_eq_true,Bool.and_true,bBZ];intro j a;rw[List.mem_range,Nat.min_self] at a;rw[j0,b8 a,bBO,aPf (b _ (bAO a)) (b _ (bAO a)),m9 rfl]
 ·rw[v6 e];by_cases l:r.length=q.length
  ·cases h:(List.range (min r.length q.length)).all (λj=>eqV (r.getD j .non) (q.getD j .non)) with
   |false=>rfl
   |true=>refine absurd (List.ext_getElem l λj c d=>?_) e;have:=List.all_eq_true.mp h j (List.mem_range.mpr (by lia));rw[j0,b8 c,bBO,j0,b8 d,bBO,aPf (b _ (bAO c)) (f _ (bAO d))] at this;exact of_decide_eq_true this
  ·rw[show (r.length == q.length)=false from beq_eq_false_iff_ne.mpr l,bFP]
def aTr (h:Vals r its):∀{q:List V},Vals q its->qN r->qN q->r=q:=by
 induction h with
 |nil=>intro q h _ _;cases h;rfl
 |@cons x _ r _ a t ih=>
  intro q h f d;cases h with
  |@cons y _ q _ b u=>
   have e:x=y:=by rcases f x j5 with⟨i,rfl⟩|⟨z,rfl⟩ <;> rcases d y j5 with⟨j,rfl⟩|⟨w,rfl⟩ <;> obtain⟨_,a⟩:=a <;> obtain⟨_,b⟩:=b <;> rw[a] at b <;> cases b <;> rfl
   rw[e,ih u (λz c=>f z (j7 _ c)) λz c=>d z (j7 _ c)]
def aB9 (I:Inv X bF3 σ H s)(u:SqT X.K H a r)(v:SqT X.K H a q)(t:qN r)(x:qN q):r=q:=by
 obtain⟨d,g,l,_⟩:=I.tuple u;obtain⟨c,i,f,_⟩:=I.tuple v;have k:d=c:=by obtain⟨o,h,w,m,j⟩:=l;obtain⟨n,b,y,p,e⟩:=f;rw[h] at b;cases b;rw[j] at e;have:=Data.seq.inj e;simpa using congrArg Array.toList this.1
 subst k;exact aTr g i t x
def aGe (I:Inv X bF3 σ H s){A:Around}(hA:A.units+2<cLine){x y:V}{v u:Value}{r q:List V}(U:cP X.K H x r)(R:cP X.K H y q)(h:qN r)(m:qN q)(S:RelV x v)(T:RelV y u):SeqAt.EqAt A s v u (decide (r=q)):=by
 obtain⟨a,rfl,n⟩:=U;obtain⟨b,rfl,p⟩:=R;cases S;cases T;obtain⟨c,t,Q,_⟩:=I.tuple n;obtain⟨d,k,F,_⟩:=I.tuple p;by_cases e:a=b
 ·subst e;rw[aB9 I n p h m,m9 rfl];exact bEC _
 have J:=t.length;have B:=k.length;refine SeqAt.EqAt.of_refs e ?_;have z:=SeqAt.RcAt.tuples (A:=A) (e:=λj=>eqV (r.getD j .non) (q.getD j .non)) (show s.heap.IsTuple a c.toArray from Q) (show s.heap.IsTuple b d.toArray from F) (by lia) λj O L=>by
  rw[j6] at O L;have l:r[j]?=some r[j]:=b8 (by lia);have o:q[j]?=some q[j]:=b8 (by lia);obtain⟨P,f,G⟩:=t.get l;obtain⟨C,g,N⟩:=k.get o;have M:c.toArray[j]=P:=by rw[bCB];exact (List.getElem?_eq_some_iff.mp f).2
  have D:d.toArray[j]=C:=by rw[bCB];exact (List.getElem?_eq_some_iff.mp g).2
  rw[M,D,j0,l,j0,o];have w:=h r[j] (bAO _);have E:=m q[j] (bAO _);refine aTw G N ?_ ?_
  ·rcases w with⟨i,e⟩|⟨i,e⟩ <;> rw[show (Option.some r[j]).getD V.non=r[j] from rfl,e] <;> rfl
  ·rcases E with⟨i,e⟩|⟨i,e⟩ <;> rw[show (Option.some q[j]).getD V.non=q[j] from rfl,e] <;> rfl
 rw[j6,j6,<-J,<-B,aZd h m] at z;exact z
def aYo (I:Inv X bF3 σ H s)(Q:A.units+2<cLine)(G:Vals us its)(h:Al2 (cP X.K H) us rs)(L:∀r∈rs,qN r)(N:cP X.K H y q)(J:qN q)(O:RelV y u):∃e:Value->Bool,(∀v∈its,SeqAt.EqAt A s v u (e v))/\its.any e=decide (q∈rs):=by
 have k:∀v∈its,∃i x r,us[i]?=some x/\rs[i]?=some r/\cP X.K H x r/\RelV x v:=λv d=>by
  obtain⟨i,o⟩:=List.mem_iff_getElem?.mp d;have j:i<us.length:=by rw[G.length];exact (List.getElem?_eq_some_iff.mp o).1
  obtain⟨r,t,E⟩:=h.at (b8 j);obtain⟨P,l,c⟩:=G.get (b8 j);rw[o] at l;cases l;exact⟨i,_,r,b8 j,t,E,c⟩
 refine⟨λv=>@decide (∃x,cP X.K H x q/\RelV x v) (Classical.propDecidable _),λv d=>?_,?_⟩
 ·obtain⟨i,x,r,_,w,p,m⟩:=k v d;have F:=L r (v4 w);have e:@decide (∃x,cP X.K H x q/\RelV x v) (Classical.propDecidable _)=decide (r=q):=by
   by_cases z:r=q
   ·subst z;rw[m9 rfl];exact @decide_eq_true _ (Classical.propDecidable _) ⟨x,p,m⟩
   ·rw[v6 z];refine @decide_eq_false _ (Classical.propDecidable _) λ⟨M,f,g⟩=>z ?_;obtain⟨a,rfl,C⟩:=p;obtain⟨b,rfl,D⟩:=f;have B:=m;have n:=g;rw[B] at n;cases n;exact aB9 I C D F J
  show SeqAt.EqAt A s v u (@decide (∃x,cP X.K H x q/\RelV x v) (Classical.propDecidable _));rw[e];exact aGe I Q p N F J m O
 ·by_cases z:q∈rs
  ·rw[m9 z];obtain⟨i,o⟩:=List.mem_iff_getElem?.mp z;have j:i<us.length:=by rw[h.len];exact (List.getElem?_eq_some_iff.mp o).1
   obtain⟨r,t,E⟩:=h.at (b8 j);rw[o] at t;cases t;obtain⟨v,d,c⟩:=G.get (b8 j);exact List.any_eq_true.mpr ⟨v,v4 d,@decide_eq_true _ (Classical.propDecidable _) ⟨_,E,c⟩⟩
  ·rw[v6 z];refine List.any_eq_false.mpr λv d hd=>z ?_;obtain⟨M,f,g⟩:=@of_decide_eq_true _ (Classical.propDecidable _) hd;obtain⟨i,x,r,_,w,p,m⟩:=k v d;obtain⟨a,rfl,C⟩:=p;obtain⟨b,rfl,D⟩:=f;have B:=m;have n:=g;rw[B] at n;cases n;rw[<-aB9 I C D (L r (v4 w)) J];exact v4 w
def aV8 (K:bFZ):R2:=λx y H Q=>∃l us rs q,y=.ref l/\SqL K H l us/\Al2 (cP K H) us rs/\(∀r∈rs,qN r)/\cP K H x q/\qN q/\Q (.bl (!decide (q∈rs))) H
def aM0 (hu:X.A.units+64<cLine):OpR X (compareOp .NotIn) (aV8 X.K):=by
 intro d s σ H x y v u Q I m r h;obtain⟨l,B,j,q,rfl,g,t,c,o,f,k⟩:=h;cases r;obtain⟨a,p,w,_⟩:=I.list g;obtain⟨e,i,n⟩:=aYo I (A:=X.A.in1) (show X.A.units+1+2<cLine by lia) p t c o f m;refine SeqAt.notIn_listAt e w.isList (λy b=>i y (by simpa using b)) ?_;have z:a.toArray.any e=decide (q∈j):=by rw[<-n];simp
 rw[z];exact⟨.bl _,H,I,rfl,k⟩
def bD9 (K:bFZ):V->List V->Hp->VK->Prop:=λx vs H Q=>∃l us y rs q j,x=.ref l/\vs=[y]/\H l=some (.lst us)/\Al2 (cP K H) us rs/\(∀r∈rs,qN r)/\cP K H y q/\qN q/\rs[j]?=some q/\(∀m r,m<j->rs[m]?=some r->r≠q)/\Q .non (upd H l (.lst (us.eraseIdx j)))
def aX7 {X:Cx}(hu:X.A.units+64<cLine):MtR X "list.remove" (bD9 X.K):=by
 intro P s σ H x vs v W Q I T M h;obtain⟨l,C,y,D,q,j,rfl,rfl,E,G,O,L,S,B,J,k⟩:=h;cases T;obtain⟨u,rfl,R⟩:=M.one;obtain⟨z,a,n,r,hl,e⟩:=I.aOp E;have Z:=G.len;have f:j<a.toArray.size:=by rw[j6];have:=(List.getElem?_eq_some_iff.mp B).1;lia
 have g:∀(m:Nat) (o:m<a.toArray.size) (b:List V),D[m]?=some b->SeqAt.EqAt X.A.in1 s a.toArray[m] u (decide (b=q)):=λm o b i=>by
  have c:m<C.length:=by rw[j6] at o;lia
  obtain⟨r',d,p⟩:=G.at (b8 c);rw[i] at d;cases d;obtain⟨Y,t,U⟩:=r.get (b8 c);have N:a.toArray[m]=Y:=by rw[bCB];exact (List.getElem?_eq_some_iff.mp t).2
  rw[N];exact aGe I (show X.A.units+1+2<cLine by lia) p L (O b (v4 i)) S U R
 refine call_meets F.slot_list_remove ⟨_,e,rfl⟩ F.entry_list_remove (F.args_list_remove_2 _ _) (aEc l a.toArray n none #[] u j f (by rw[j6];lia)) ⟨e,?_,λm o w=>?_,?_⟩
 ·have:=g j f q B;rw[m9 rfl] at this;exact this
 ·obtain⟨b,i⟩:∃b,D[m]?=some b:=⟨_,b8 (by have:=(List.getElem?_eq_some_iff.mp B).1;lia)⟩;have:=g m o b i;rw[v6 (J m b w i)] at this;exact this
 ·refine⟨.non,_,I.lset (its':=a.eraseIdx j) E e ?_ ?_ ?_,rfl,k⟩
  ·show a.toArray.eraseIdxIfInBounds j=(a.eraseIdx j).toArray;rw[bEW]
  ·exact aD0 r j
  ·have:=bEK C j;lia
def aRa:MtR X "list.pop" aTm:=aV1
end L2
namespace PySem
section
variable {prog:Program}{w:World}{κ:Type}[DecidableEq κ]{knd:KeyKind prog w κ}{T:List κ->Addr->Prop}
def bCr (hu:A.units+10<cLine)(h0:Heap)(D:Addr):Kset prog w (List κ) A h0 D (λh kl=>SetT knd T h0 h D kl) (λk v=>∃a,v=.ref a/\IsTupleKey knd h0 k a/\T k a) 75:=
 ⟨λ⟨o,j,n,t,p,r⟩ e=>⟨o,j,n,t,e o p,r⟩,λE u ⟨a,e,i,z⟩ y C q=>by subst e;exact aVy (by lia) u i z y (by lia) λB g d b s x f=>q B g d b s x (by split <;> rename_i c <;> simp only[c,if_true,if_false] at f <;> exact f),
 λl=>⟨_,#[],0,_,l,⟨rfl,rfl,rfl⟩,rfl,⟨λe=>by show (!byT w)=true;rw[e];rfl,rfl,.inl rfl,λa b m=>absurd m (by show ¬ (a<0);lia),.nil,by show 5 * 0<3 * 7;decide⟩,.nil⟩⟩
end
end PySem
namespace L2
open PySem PySem.Spec PyProof.Rows PySem.Calls
def aUq (w:World)(D:Addr)(as:List Addr):HO:=.ext λh=>∃o es ep t,h.get? D=some o/\o.ExactSet/\o.data=.set es ep t/\t.fits es.size=true/\TabOk (byT w) t/\es.toList.map (·.2)=as.map Value.ref
def aT6 (h:qN r):∃k:List Key,r=k.map kV:=by
 induction r with
 |nil=>exact⟨[],rfl⟩
 |cons x r ih=>
  obtain⟨k,rfl⟩:=ih λy a=>h y (j7 _ a);rcases h x j5 with⟨i,rfl⟩|⟨z,rfl⟩
  ·exact⟨.inl i::k,rfl⟩
  ·exact⟨.inr z::k,rfl⟩
def bCn {a b:List Key}(h:a.map kV=b.map kV):a=b:=by
 induction a generalizing b with
 |nil=>cases b with
  |nil=>rfl
  |cons=>cases h
 |cons x a ih=>cases b with
  |nil=>cases h
  |cons y b=>injection h with h1 h2;rw[bBr h1,ih h2]
def aXd (I:Inv X bF3 σ H s)(h:SqT X.K H a (k.map kV)):IsTupleKey (bJ X.prog X.w) s.heap k a:=by
 obtain⟨b,d,⟨o,c,e,n,hd⟩,z⟩:=I.tuple h;clear z;refine⟨o,_,n,c,e,hd,?_⟩;clear h c e hd
 induction k generalizing b with
 |nil=>cases d;exact .nil
 |cons x k ih=>
  cases d with
  |cons p q=>exact .cons (aQr p).1 (ih _ q)
def bDx (w:World)(K:bFZ):List V->Hp->VK->Prop:=λxs H Q=>∃p us rs,xs=[.ref p]/\SqL K H p us/\Al2 (cP K H) us rs/\(∀r∈rs,qN r)/\us.length<=75/\∀D H' as qs,H D=none->Same H H'->H' D=some (aUq w D as)->Al2 (cP K H) (as.map .ref) qs->Ded qs rs->Q (.ref D) H'
def aE7 (hc:X.calm=true)(hU:X.A.units+64<cLine):cF X (.type "set") (bDx X.w X.K):=by
 intro a0 s σ H xs a1 Q I r h;obtain⟨p,us,J,rfl,hq,G,P,hl,q⟩:=h;obtain⟨u,rfl,rx⟩:=r.one;cases rx;obtain⟨F,R,pl,hz⟩:=I.list hq;have D:=R.length;have B:=G.len;obtain⟨ks,rfl⟩:∃ks:List (List Key),J=ks.map (·.map kV):=by
  clear G B q
  induction J with
  |nil=>exact⟨[],rfl⟩
  |cons r J ih=>obtain⟨ks,rfl⟩:=ih λy hy=>P y (j7 _ hy);obtain⟨k,rfl⟩:=aT6 (P r j5);exact⟨k::ks,rfl⟩
 rw[j4] at B;refine zY (ks:=ks) (I.ok.hd hc) (bCr (knd:=bJ X.prog X.w) (T:=λk a=>cP X.K H (.ref a) (k.map kV)) (by lia) s.heap s.heap.objs.size) pl.isList (by rw[j6];lia) (λi v hv=>?_) (by rw[j6,<-D];exact hl) λh' tk kl x n kp=>?_
 ·have j:F[i]?=some v:=by simpa using hv
  have W:i<ks.length:=by have:=(List.getElem?_eq_some_iff.mp j).1;lia
  have m:i<us.length:=by lia
  obtain⟨u,Y,V⟩:=R.get (b8 m);rw[j] at Y;cases Y;have c:=G.get (b8 m) (show (ks.map (·.map kV))[i]?=some (ks[i].map kV) by rw[v5,b8 W];rfl);obtain⟨a,E,ha⟩:=id c;rw[E] at V c;cases V;exact⟨ks[i],b8 W,a,rfl,aXd I ha,c⟩
 ·obtain⟨o,C,N,t,Z,O,hd,M,pr⟩:=x;obtain⟨d,E,L⟩:∃d:List Addr,C.toList.map (·.2)=d.map Value.ref/\Al2 (cP X.K H) (d.map .ref) (kl.map (·.map kV)):=by
   clear n q M hd;generalize C.toList=l at pr
   induction pr with
   |nil=>exact⟨[],rfl,.nil⟩
   |cons r _ ih=>obtain⟨d,f,g⟩:=ih;obtain⟨a,e1,⟨_,ht⟩,_⟩:=r;exact⟨a::d,by rw[bAF,bAF,e1,f],.cons ht g⟩
  have U:H s.heap.objs.size=none:=I.hok.fresh (d9 _);refine⟨.ref s.heap.objs.size,_,I.laid (t':=tk) (o:=aUq X.w s.heap.objs.size d) (λb o S=>kp b o (t8 S) S) (d9 _) ⟨⟨o,C,N,t,Z,O,hd,M.fits,M.tab,E⟩,⟨o,Z⟩,λf g ⟨o,C,N,t,y,z⟩ k=>⟨o,C,N,t,k o y,z⟩⟩,rfl,q _ _ d _ U (aZ U _) aG L ⟨?_,λk=>?_,?_⟩⟩
  ·exact List.pairwise_map.mpr (n.1.imp λh e=>h (bCn e))
  ·rw[List.mem_map,List.mem_map];exact⟨λ⟨x,f,g⟩=>⟨x,(n.2.1 x).mp f,g⟩,λ⟨x,f,g⟩=>⟨x,(n.2.1 x).mpr f,g⟩⟩
  ·rw[j4,j4];exact n.2.2
def aSp (w:World)(K:bFZ):List V->Hp->VK->Prop:=λxs H Q=>∃D as rs ks,xs=[.ref D]/\H D=some (aUq w D as)/\Al2 (cP K H) (as.map .ref) rs/\as.length<64/\ks≠[]/\(∀r∈rs,KdR ks r) /\
 ∀B H' us',H B=none->Same H H'->H' B=some (.lst us')->Al2 (cP K H) us' (srt rs)->Q (.ref B) H'
def aW1 {α β:Type}{R:α->β->Prop}{as' as:List α}(p:as'.Perm as):∀{bs:List β},Al2 R as bs->∃bs',Al2 R as' bs'/\bs'.Perm bs:=by
 induction p with
 |nil=>intro bs h;exact⟨bs,h,.refl _⟩
 |cons x _ ih=>
  intro bs h;cases h with
  |cons r t=>obtain⟨bs',a,b⟩:=ih t;exact⟨_,.cons r a,b.cons _⟩
 |swap x y l=>
  intro bs h;cases h with
  |cons r t=>
   cases t with
   |cons r2 t2=>exact⟨_,.cons r2 (.cons r t2),.swap ..⟩
 |trans _ _ ih1 ih2=>intro bs h;obtain⟨f,a,b⟩:=ih2 h;obtain⟨e,c,d⟩:=ih1 a;exact⟨e,c,d.trans b⟩
theorem uA (hc:X.calm=true):cF X (.builtin "sorted") (aSp X.w X.K):=by
 intro L s σ H xs a2 Q I r h;obtain⟨D,P,a0,ks,rfl,hD,N,a1,S,M,q⟩:=h;obtain⟨u,rfl,rx⟩:=r.one;cases rx;obtain⟨o,es,ep,t,ho,U,hd,hf,O,ea⟩:=(I.hok D _ hD).1;have hl:es.size=P.length:=by have:=congrArg List.length ea;simpa using this
 refine call_function_entry kind_sorted plain_sorted entry_sorted (args_sorted1 _) ?_;unfold Builtin.«sorted»;refine b7 (m:=checkCount "sorted" 1 1 _) (d8 (b7 (wV (A:=X.A.in1) (I.ok.hd hc) ⟨o,ho,U,hd,hf⟩ O (by lia) λy F R d hk hp=>?_)));obtain⟨c,Z,T⟩:∃c:List Addr,d.map (·.2)=c.map Value.ref/\c.Perm P:=by
  have E:(d.map (·.2)).Perm (P.map Value.ref):=ea ▸ hp.map _;have k:∀v∈d.map (·.2),∃a,v=Value.ref a:=λv J=>by obtain⟨a,_,e⟩:=List.mem_map.mp (E.mem_iff.mp J);exact⟨a,e.symm⟩
  generalize d.map (·.2)=l at E k;have un:∃c:List Addr,l=c.map Value.ref:=by
   clear E
   induction l with
   |nil=>exact⟨[],rfl⟩
   |cons v l ih=>obtain⟨c,rfl⟩:=ih λv J=>k v (j7 _ J);obtain⟨a,rfl⟩:=k v j5;exact⟨a::c,rfl⟩
  obtain⟨c,rfl⟩:=un;refine⟨c,rfl,?_⟩;have:=E.filterMap λv=>match v with|Value.ref a=>some a|_=>none
  simpa [bEG,Function.comp_def] using this
 rw[Z];obtain⟨g,x,Y⟩:=aW1 (T.map V.ref) N;have p:∀r∈g,KdR ks r:=λr x=>M r (Y.mem_iff.mp x);have ul:=T.length_eq;have rv:Vals (c.map .ref) (c.map Value.ref):=by
  clear x g Y p T ul Z
  induction c with
  |nil=>exact .nil
  |cons a c ih=>exact .cons rfl ih
 have rl:g.length=c.length:=by have:=x.len;rw[j4] at this;exact this.symm
 have G:Inv X L σ H { s with heap:=y,toks:=F,drawn:=R }:=(I.kept (t':=F) hk).drew R;have e3:=sJ p Y;refine b7 (bFD ?_ (by rw[sizeLine_eq,j4];lia));have n:(y.push (seqObj "list" (c.map Value.ref).toArray 0)).get? y.objs.size=some (seqObj "list" (c.map Value.ref).toArray 0):=j8 _ rfl;refine b7 (bAU (bAH slot_list_sort ⟨_,n,rfl⟩ entry_list_sort (PySem.W.qD (f:=λi j=>rlt (g.getD i []) (g.getD j [])) (s:={ s with heap:=y.push (seqObj "list" (c.map Value.ref).toArray 0),toks:=F,drawn:=R }) n (by rw[j4];lia) (λh2 h' kp=>aLa G rv x S p _ h2 h' λb o e=>kp b o (z9 (t8 e)) (d7 _ e)) ⟨_,rfl,d8 ⟨_,rfl,?_⟩⟩) (args_list_sort _)));obtain⟨e,he⟩:=sortedHeap_at (out:=List.toArray ((PySem.W.eG (c.map Value.ref).length λi j=>rlt (g.getD i []) (g.getD j [])).map λi=>(c.map Value.ref).getD i Value.none)) n;have z:H y.objs.size=none:=G.hok.fresh (d9 _);have C:∀i∈PySem.W.eG g.length (λi j=>rlt (g.getD i []) (g.getD j [])),i<(c.map V.ref).length:=λi hi=>by have:=PySem.W.oN hi;rw[j4];lia
 refine⟨.ref y.objs.size,_,G.laid (t':=F) (o:=.lst ((PySem.W.eG g.length λi j=>rlt (g.getD i []) (g.getD j [])).map λi=>(c.map V.ref).getD i .non)) (λb o q=>?_) (d9 _) ?_,rfl,q _ _ _ z (aZ z _) aG (e3 ▸ aGl x _ C)⟩
 ·have B:=t8 q;show (sortedHeap _ _ _ _).get? b=some o;rw[sortedHeap_old (z9 B) (by rw[size_push'];exact bBR B)];exact d7 _ q
 ·refine⟨small (by rw[j4,PySem.W.tL];lia),_,e,?_,he⟩;rw[j4,<-rl];exact aE6 rv _ C
end L2
namespace My
open PySem PySem.Spec PyProof.Rows L2
section
variable {P:Program}{w:World}{K:bFZ}{mg:bF2}{base:Heap}
def eQ.tk (e:TK K H H')(h:eQ K H v c):eQ K H' v c:=by obtain⟨p,rfl,a⟩:=h;exact⟨p,rfl,e _ _ a⟩
def jZ.tk (e:TK K H H')(h:jZ K H v pl):jZ K H' v pl:=by
 cases pl with
 |copies=>obtain⟨a,rfl,b⟩:=h;exact⟨a,rfl,e _ _ b⟩
 |keys n=>obtain⟨a,rfl,b⟩:=h;exact⟨a,rfl,e _ _ b⟩
 |spans n h0 cs=>obtain⟨a,c,rfl,b,d⟩:=h;exact⟨a,c,rfl,e _ _ b,aPe e (λ_ _ z=>z.tk e) d⟩
structure KP (K:bFZ)(S:Addr->Prop)(H H':Hp):Prop where
 st:∀b o,S b->H b=some o->H' b=some o
 tk:TK K H H'
section
variable {S:Addr->Prop}{H H':Hp}
def KP.same (s:Same H H'):KP K S H H':=⟨λb o _ h=>s b o h,.of s⟩
def KP.trans (k:KP K S H H')(l:KP K S H' H2):KP K S H H2:=⟨λb o h e=>l.st b o h (k.st b o h e),λp a e=>l.tk p a (k.tk p a e)⟩
def KP.jO (d:H D=some (.lst ys))(n:¬ S D):KP K S H (L2.upd H D (.lst zs)):=⟨λb o h e=>by have a:b≠D:=λz=>n (z ▸ h);rw[aQ a];exact e,λp c e=>SqT.jO d e⟩
def KP.aUi (d:dH H D)(n:¬ S D):KP K S H (L2.upd H D u):=⟨λb o h e=>by have a:b≠D:=λz=>n (z ▸ h);rw[aQ a];exact e,λp c e=>But.aP But.upd d e⟩
def KP.fx (f:Fx a H H')(h:eV H a)(n:¬ S a):KP K S H H':=⟨λb o c e=>f.same b o (λz=>n (z ▸ c)) e,f.tk h⟩
def KP.mono (k:KP K S H H')(h:∀b,S' b->S b):KP K S' H H':=⟨λb o s e=>k.st b o (h b s) e,k.tk⟩
def bN.kp (k:KP K S H H')(s:S L)(h:bN K H L rs):bN K H' L rs:=by obtain⟨c,b,d⟩:=h;exact⟨c,k.st _ _ s b,d.imp λ_ _ ⟨p,e,a⟩=>⟨p,e,k.tk _ _ a⟩⟩
end
def jU.kp (k:KP K S H H')(s:S L)(h:jU K H v vh vp L t):jU K H' v vh vp L t:=by obtain⟨a,c,b,d,e,f⟩:=h;exact⟨a,c,k.tk _ _ b,d.tk k.tk,e.tk k.tk,f.kp k s⟩
def gY.kp (k:KP K S H H')(b:S d)(c:∀e∈es,S e.L)(h:gY K H d es):gY K H' d es:=⟨k.st _ _ b h.at_,h.nd,h.few,h.nm,λe a=>(h.tb e a).kp k (c e a)⟩
def fW (h:n<1000):n<sizeLine:=bAB h (by decide)
def wR {hd:Hdr}{r:List V}(h:jA hd r):qN r:=λx a=>aVx (gU h) x a
def aQn {α:Type}{xs:List α}{x:α}(h:xs[xs.length - 1]?=some x):atI xs (-1)=some x:=by have a:=(List.getElem?_eq_some_iff.mp h).1;unfold atI ixN;rw[if_neg (by decide),if_pos (by lia)];rw[show ((-1:Int)+(xs.length:Int)).toNat=xs.length - 1 by lia];exact h
def oK {α β:Type}{R:α->β->Prop}{as:List α}{bs:List β}(h:bW R as bs):∀n,bW R (as.take n) (bs.take n):=by
 induction h with
 |nil=>intro n;rw[bDZ,bDZ];exact .nil
 |cons r _ ih=>
  intro n;cases n with
  |zero=>exact .nil
  |succ n=>exact .cons r (ih n)
def bI.kp (k:KP K S H H')(c:S x)(a:S d)(b:∀e∈es,S e.L)(h:bI K H C x m d dm es):bI K H' C x m d dm es:=
 ⟨let ⟨dx,h1⟩:=h.at_;⟨dx,k.st _ _ c h1⟩,h.ens.kp k a b,h.ok,h.ne⟩
def bI.mv (h:bI K H C x m d dm es)(g:H dm=some (.dK kvs)):KP K (λb=>b≠dm) H (L2.upd H dm (.dK kvs'))/\bI K (L2.upd H dm (.dK kvs')) C x m d dm es:=by
 have k:KP K (λb=>b≠dm) H (L2.upd H dm (.dK kvs')):=.aUi (dH.dK g) λz=>z rfl;refine⟨k,h.kp k (λz=>?_) h.ne λe f z=>?_⟩
 ·obtain⟨j,c⟩:=h.at_;rw[z,g] at c;cases c
 ·obtain⟨_,_,_,_,_,i,a,_⟩:=h.ens.tb e f;rw[z,g] at a;cases a
def Mvs (K:bFZ)(H:Hp)(dm:Addr)(f:Str->Option Mv)(j:Nat):Prop:=∃kvs,H dm=some (.dK kvs)/\kvs.length<=j/\∀n,∃v,fQ kvs (Sum.inr n)=mvO (f n) v/\MvV K H v (f n)
def fset (f:Str->Option Mv)(n:Str)(o:Option Mv):Str->Option Mv:=λx=>if x=n then o else f x
def MvV.tk (k:∀p xs,SqT K H p xs->SqT K H' p xs)(h:MvV K H v o):MvV K H' v o:=by
 cases o with
 |none=>exact h
 |some q=>exact qM.tk k h
def Mvs.d (h:Mvs K H dm f j)(n:Str)(e:f n=o):MvD K H dm n o:=by obtain⟨a,i,_,g⟩:=h;obtain⟨v,c,b⟩:=g n;rw[e] at c b;exact⟨a,v,i,c,b⟩
def Mvs.kp (e:∀u,H dm=some u->H' dm=some u)(tk:∀p xs,SqT K H p xs->SqT K H' p xs)(h:Mvs K H dm f j):Mvs K H' dm f j:=by obtain⟨a,b,d,c⟩:=h;exact⟨a,e _ b,d,λn=>let ⟨v,h4,h5⟩:=c n;⟨v,h4,h5.tk tk⟩⟩
def Mvs.same (s:Same H H')(h:Mvs K H dm f j):Mvs K H' dm f j:=h.kp (λu h=>s _ _ h) λ_ _=>s.aP
def aXw (kvs:List (Key × V))(k:Key)(v:V):(putK kvs k v).length<=kvs.length+1:=by
 unfold putK
 split
 ·rw[j4];lia
 ·rw[v9];exact d9 _
def Mvs.put (g:H dm=some (.dK kvs))(h:Mvs K H dm f j)(o:qM K H v q):Mvs K (L2.upd H dm (.dK (putK kvs (Sum.inr n) v))) dm (fset f n (some q)) (j+1):=by
 obtain⟨d,c,r,i⟩:=h;rw[g] at c;cases c;have b:∀p a,SqT K H p a->SqT K (L2.upd H dm (.dK (putK kvs (Sum.inr n) v))) p a:=λp a e=>But.aP But.upd (dH.dK g) e;refine⟨_,aG,bAI (aXw _ _ _) (by lia),λm=>?_⟩;by_cases e:m=n
 ·subst e;refine⟨v,?_,?_⟩
  ·rw[aKc,if_pos rfl];unfold fset;rw[if_pos rfl];rfl
  ·unfold fset;rw[if_pos rfl];exact qM.tk b o
 ·obtain⟨u,l,k⟩:=i m;refine⟨u,?_,?_⟩
  ·rw[aKc,if_neg λz=>e (Sum.inr.inj z)];unfold fset;rw[if_neg e];exact l
  ·unfold fset;rw[if_neg e];exact k.tk b
theorem zL (k j:Key):∀kvs:List (Key × V),fQ (mD kvs k) j=if j=k then none else fQ kvs j
 |[]=>by split <;> rfl
 |p::r=>by
  have a:=zL k j r;by_cases e:p.1=k
  ·rw[aR5 e,a];by_cases z:j=k
   ·rw[if_pos z,if_pos z]
   ·rw[if_neg z,if_neg z,cU λq=>z (q.symm.trans e)]
  ·rw[aRi e];by_cases z:p.1=j
   ·rw[dC z,dC z,if_neg λq=>e (z.trans q)]
   ·rw[cU z,cU z,a]
def Mvs.drop (g:H dm=some (.dK kvs))(h:Mvs K H dm f j):Mvs K (L2.upd H dm (.dK (mD kvs (Sum.inr n)))) dm (fset f n none) j:=by
 obtain⟨c,b,o,i⟩:=h;rw[g] at b;cases b;have d:∀p a,SqT K H p a->SqT K (L2.upd H dm (.dK (mD kvs (Sum.inr n)))) p a:=λp a e=>But.aP But.upd (dH.dK g) e;refine⟨_,aG,bAI (aKn _ _) o,λm=>?_⟩;by_cases e:m=n
 ·subst e;refine⟨.non,?_,?_⟩
  ·rw[zL,if_pos rfl];unfold fset;rw[if_pos rfl];rfl
  ·unfold fset;rw[if_pos rfl];rfl
 ·obtain⟨u,l,k⟩:=i m;refine⟨u,?_,?_⟩
  ·rw[zL,if_neg λz=>e (Sum.inr.inj z)];unfold fset;rw[if_neg e];exact l
  ·unfold fset;rw[if_neg e];exact k.tk d
def kI (num:Nat)(h0:Int)(cs:List (V × Int)):Int:=(((V.non,h0)::cs).map (·.2)).getD num 0
inductive aPk (K:bFZ)(C:Addr)(vs:List V)(H:Hp)(Q:VK)(E_:XK):Prop
 |mk (x d dm:Addr) (m:Int) (es:List En) (e:En) (n:Str) (h0:Int) (cs:List (V × Int)) (num:Nat) (house:Int) (f:Str->Option Mv) (j:Nat) (_:vs=[.ref x,.str e.n,.int num,.int house]) (_:bI K H C x m d dm es) (_:e∈es) (_:e.t.pl=.spans n h0 cs) (_:Mvs K H dm f j) (_:f e.n=none) (_:j<900) (_:num<=cs.length) (_:0<=house) (_:house<m) (_:house≠kI num h0 cs) (_:∀H',KP K (λb=>b≠dm) H H'->bI K H' C x m d dm es->Mvs K H' dm (fset f e.n (some ⟨num,house,none⟩)) (j+1)->Q .non H')
def aVv (T:Txt w K mg){C:Addr}(c:Cls K C)(D:eZ K C "lend" "Store.lend" pW bQP)(n2:bU K C "house_count")(n3:bU K C "moves")(dB:Ok P w K mg base 2 "is_number_below" bQR wA)(i:OkM P w K mg base C 4 "cut_table" n6 (xN K C))(g:OkM P w K mg base C 1 "need_still" n6 (aC1 K C)):OkM P w K mg base C 5 "lend" bQP (aPk K C):=by
 refine OkM.ofV c D uL (by trivial) (λf a0 A O s H vs Q E hr h=>?_)
 obtain⟨x,d,U,m,es,e,n,Z,X,num,o,fm,j,rfl,B,he,y,p,L,hj,hn,b0,b1,S,q⟩:=h;have hu:=mC hr;have nd:=uL.nd;refine⟨_,(aC (aY 4 (aR aO (aR aO (fY i (vv 0) (va1 (vv 1))) aB) aB)) (aC (bO (cL (cC (aV dB (aH (vv 2) (va1 (aK aX (by rfl) T.dW cQ (va1 (vv 4)))))))) (aD dR) aW) (aC (bO (VW.pt (fG (cL (cC (aV dB (aH (vv 3) (va1 (cV (K:=K) (vv 0))))))) (eE (cX dX (vv 3) (aR aO (aR aO (vv 4) (vv 2)) aB))))) (aD dR) aW) (aC (cM (fY g (vv 0) (va1 (vv 1)))) (aD (mO hu (cV (K:=K) (vv 0)) (vv 1) (bY (aH (vv 2) (aH (vv 3) (va1 jV)))))))))),?_⟩;obtain⟨I,G⟩:=B.at_;refine⟨_,rfl,x,I,_,rfl,G,rfl,_,rfl,x,d,U,m,es,e,n,Z,X,rfl,B,he,y,λH1 r=>?_⟩;obtain⟨a,ev,ha,h1,h2,h3⟩:=(B.ens.tb e he).same r;rw[y] at h2;obtain⟨b,vc,eb,hb,⟨Y,t,rfl,F,u⟩⟩:=h2;have lu:=u.len;rw[j9] at lu;refine⟨a,_,1,_,ev,rfl,ha,at1 _ _ _,b,_,2,_,eb,rfl,hb,at2 _ _ _ _,?_⟩;refine⟨_,rfl,_,rfl,Y,t,rfl,.inr F,(num:Int),(t.length:Int),rfl,_,rfl,?_⟩;rw[m9 (show (0:Int)<=num by lia),m9 (show (num:Int)<t.length by lia)];refine cB ?_;have v:num<t.length:=by lia
 obtain⟨c0,R,pc,M,N⟩:=bV u (b8 v);have ch:kI num Z X=c0.2:=by unfold kI;rw[j0,v5,R];rfl
 refine⟨_,rfl,_,rfl,x,C,I,_,_,rfl,r _ _ G,c,n2,rfl,o,m,rfl,_,rfl,?_⟩;rw[m9 b0,m9 b1];refine cB ?_;refine⟨_,rfl,_,rfl,_,rfl,Y,t,_,t[num],rfl,rfl,F,cG (b8 v),pc,_,1,_,M,rfl,N,at1 _ _ _,rfl,_,rfl,dI (v6 λz=>S (ch ▸ V.int.inj z)) ?_⟩;refine⟨_,rfl,x,I,_,rfl,r _ _ G,rfl,_,rfl,x,d,U,m,es,e.n,rfl,B.same r,(p.d e.n L).same r,?_⟩;refine⟨_,rfl,_,rfl,by show 3<=sizeLine;decide,λt2 H2 _ s2 g2=>?_⟩;have l:=r.trans s2;obtain⟨J,W,lk,_⟩:=id (p.same l);obtain⟨k1,k2⟩:=(B.same l).mv (kvs':=putK J (Sum.inr e.n) (.ref t2)) W;refine⟨_,rfl,x,C,I,_,_,rfl,l _ _ G,c,n3,rfl,_,rfl,U,_,rfl,aA8.k (k:=Sum.inr e.n) W (fW (by lia)),?_⟩;exact q _ ((KP.same l).trans k1) k2 ((p.same l).put W ⟨t2,.non,rfl,SqT.of g2,rfl⟩)
def aW3 (h:Ded qs W)(h':Ded qs' W)(b:∀r∈W,KdR ks r):srt qs=srt qs':=
 sJ (λr a=>b r ((h.2.1 r).mp a)) ((bFR h.1 h'.1).mpr λr=>(h.2.1 r).trans (h'.2.1 r).symm)
def qG (t:Tb)(n:Str)(cs:List (V × Int))(num:Nat)(o:Option (List V)):List (List V):=t.rows.filter λr=>zU o r && gV t.hd n cs num r
inductive aKl (K:bFZ)(C:Addr)(vs:List V)(H:Hp)(Q:VK)(E_:XK):Prop
 |mk (x d dm:Addr) (m:Int) (es:List En) (e:En) (mq:Mv) (n:Str) (h0:Int) (cs:List (V × Int)) (k:Nat) (f:Str->Option Mv) (j:Nat) (_:vs=[.ref x,.str e.n,.int k]) (_:bI K H C x m d dm es) (_:e∈es) (_:Mvs K H dm f j) (_:f e.n=some mq) (_:j<900) (_:e.t.pl=.spans n h0 cs) (_:(∀q,mq.mark=some q->jA e.t.hd q)) (_:∀qs,Ded qs (qG e.t n cs mq.num mq.mark)->(((srt qs).take k=[]->∀H',Same H H'->Q (.int 0) H')/\∀r,((srt qs).take k).getLast?=some r->∀H',KP K (λb=>b≠dm) H H'->bI K H' C x m d dm es->Mvs K H' dm (fset f e.n (some { mq with mark:=some r })) (j+1)->Q (.int ((qG e.t n cs mq.num mq.mark).length - (qG e.t n cs mq.num (some r)).length)) H'))
def aSo (T:Txt w K mg){C:Addr}(c:Cls K C)(D:eZ K C "carry" "Store.carry" mZ bQZ)(n3:bU K C "moves")(o:OkM P w K mg base C 4 "cut_table" n6 (xN K C))(y:OkM P w K mg base C 1 "move_of" n6 (zG K C))(g:OkM P w K mg base C 4 "rows_to_come" n6 (aOr K C)):OkM P w K mg base C 5 "carry" bQZ (aKl K C):=by
 refine OkM.ofV c D rM (by trivial) (λf au A an s H vs Q E hr h=>?_)
 obtain⟨x,d,J,m,es,e,l,n,h0,L,k,fm,j,rfl,hS,he,Y,af,hj,W,al,q⟩:=h;have hu:=mC hr;have hU:=hr.units;have nd:=rM.nd;refine⟨_,(aC (cM (fY o (vv 0) (va1 (vv 1)))) (aC (aY 3 (fY y (vv 0) (va1 (vv 1)))) (aC (aY 4 (fY g (vv 0) (va1 (vv 1)))) (aC (aY 5 (cR yK (aK (uA rfl) (by rfl) T.eO dG (va1 (cI (aE7 rfl hU) (by rfl) T.aPm aIg (va1 (vv 4))))) dO (dF (aK (aSe rfl) (by rfl) T.bDj bBc (aH (vv 2) (va1 aB)))))) (aC (bO (cL (aK6 (vv 5))) (aD (aM aB)) aW) (aC (mO hu (cV (K:=K) (vv 0)) (vv 1) (bB lC (cR aBq (vv 3) dO (dF aB)) (bY (va1 (aR bF (vv 5) (aZ6 aT3 aB)))))) (aD (aM (bB aCn (aK aX (by rfl) T.dW cQ (va1 (vv 4))) (aK aX (by rfl) T.dW cQ (va1 (fY g (vv 0) (va1 (vv 1)))))))))))))),?_⟩;obtain⟨dx,hx⟩:=hS.at_;have ok:=hS.ok e he;have ap:=ok.few;refine⟨_,rfl,x,dx,_,rfl,hx,rfl,_,rfl,x,d,J,m,es,e,n,h0,L,rfl,hS,he,W,λH1 O=>?_⟩;have a6:=(Y.d e.n af).same O;obtain⟨F,v,gm,hk,hv⟩:=id a6;have hk:fQ F (Sum.inr e.n)=some v:=hk;have lk:F.length<=j:=by obtain⟨kvs',g',l',_⟩:=Y.same O;rw[gm] at g';cases g';exact l'
 refine⟨_,rfl,x,dx,_,rfl,O _ _ hx,rfl,_,rfl,x,d,J,m,es,e.n,v,F,rfl,hS.same O,gm,hk,?_⟩;refine⟨_,rfl,x,dx,_,rfl,O _ _ hx,rfl,_,rfl,x,d,J,m,es,e,l,n,h0,L,rfl,hS.same O,he,a6,W,al,λW2 H2 aa s2 ai=>?_⟩;obtain⟨us,g2,a2⟩:=id ai;have lu:=a2.len;have am:=O.trans s2;have lW:(qG e.t n L l.num l.mark).length<=60:=bAI (bAX _ _) ap;have kW:∀r∈qG e.t n L l.num l.mark,KdR (knds e.t.hd) r:=λr I=>gU (ok.rows r (List.mem_filter.mp I).1);have hW:us.length=(qG e.t n L l.num l.mark).length:=lu;refine⟨_,rfl,W2,us,qG e.t n L l.num l.mark,rfl,SqL.of g2,cN a2,λr I=>wR (ok.rows r (List.mem_filter.mp I).1),by lia,λD3 H3 as qs ar s3 g3 a7 M=>?_⟩;have la:=a7.len;have ld:=M.2.2;rw[j4] at la;refine⟨D3,as,qs,knds e.t.hd,rfl,g3,a7.imp λ_ _ z=>z.same s3,by lia,iT ok.hd.1,λr I=>kW r ((M.2.1 r).mp I),λB H4 G hB s4 g4 h4=>?_⟩;have Z:=s3.trans s4;refine⟨_,rfl,(k:Int),0,rfl,(k:Int),by rw[if_neg (show ¬ (0:Int) > (k:Int) by lia)],B,G,rfl,SqL.of g4,λp H5 hp s5 g5=>?_⟩;rw[show pQ G none (some ((k:Nat):Int))=G.take k from kY _ k] at g5;have a5:bW (cP K H5) (G.take k) ((srt qs).take k):=(oK (fV h4) k).imp λ_ _ z=>z.same (s4.trans s5);have ag:=am.trans (Z.trans s5);obtain⟨q0,q1⟩:=q qs M;refine⟨_,rfl,_,.inl ⟨_,SqL.of g5,rfl⟩,?_⟩;have uS:∀i u,(G.take k)[i]?=some u->∃r,((srt qs).take k)[i]?=some r/\cP K H5 u r:=λi u z=>bV a5 z;have lS:=a5.len;generalize G.take k=uk at g5 uS lS ⊢;cases uk with
 |nil=>refine gF rfl ?_;exact q0 (bAQ lS.symm) H5 ag
 |cons u0 ur=>
  refine dI rfl ?_;obtain⟨ul,a9⟩:∃ul,(u0::ur)[(u0::ur).length - 1]?=some ul:=⟨_,b8 (by rw[j9];lia)⟩;obtain⟨r,a4,ah⟩:=uS _ _ a9;have hl:((srt qs).take k).getLast?=some r:=by rw[List.getLast?_eq_getElem?,<-lS];exact a4
  have ak:jA e.t.hd r:=by have h1:=(M.2.1 r).mp (gC (bCO (v4 a4)));exact ok.rows r (List.mem_filter.mp h1).1
  obtain⟨a,vm,rfl,ha,hm⟩:=hv;have ac:=s2.trans (Z.trans s5);refine⟨_,rfl,_,rfl,a,_,rfl,ac.aP ha,by show ¬ (HT.sIx 3 0 none=0/\HT.sIx 3 3 (some 2)=3);decide,λp6 H6 s6 g6=>?_⟩;rw[show pQ [V.int l.num,.int l.house,vm] none (some 2)=[V.int l.num,.int l.house] from kY _ 2] at g6;refine⟨_,rfl,_,rfl,p,_,_,ul,rfl,rfl,SqL.of (s6 _ _ g5),aQn a9,by show 1<=sizeLine;decide,λp7 H7 _ s7 g7=>?_⟩;refine⟨p6,p7,_,_,rfl,rfl,SqT.of (s7 _ _ g6),SqT.of g7,by show 3<=sizeLine;decide,λp8 H8 s8 g8=>?_⟩;have X:=s6.trans (s7.trans s8);have ab:=ac.trans X;have N:=O.trans ab;have a1:=ab _ _ gm;obtain⟨k1,k2⟩:=(hS.same N).mv (kvs':=putK F (Sum.inr e.n) (.ref p8)) a1;refine⟨_,rfl,x,C,dx,_,_,rfl,N _ _ hx,c,n3,rfl,_,rfl,J,_,rfl,aA8.k (k:=Sum.inr e.n) a1 (fW (by lia)),?_⟩;have a0:Mvs K (_root_.L2.upd H8 J (.dK (putK F (Sum.inr e.n) (.ref p8)))) J (fset fm e.n (some { l with mark:=some r })) (j+1):=(Y.same N).put a1 ⟨p8,ul,rfl,g8,ah.same X⟩;have ad:=(KP.same (K:=K) (S:=λb=>b≠J) N).trans k1;have nW:W2≠J:=λz=>by rw[z,gm] at aa;cases aa
  have gW:=k1.st _ _ nW (X _ _ ((Z.trans s5) _ _ g2));generalize _root_.L2.upd H8 J (.dK (putK F (Sum.inr e.n) (.ref p8)))=H9 at k1 k2 a0 ad gW ⊢;obtain⟨aj,aq⟩:=k2.at_;refine⟨_,rfl,W2,us,rfl,.inl (SqL.of gW),_,rfl,x,aj,_,rfl,aq,rfl,_,rfl,x,d,J,m,es,e,{ l with mark:=some r },n,h0,L,rfl,k2,he,a0.d e.n (by unfold fset;rw[if_pos rfl]),W,λq' e'=>by cases e';exact ak,λW3 a8 av R a3=>?_⟩;obtain⟨U,ao,ae⟩:=a3;have l3:=ae.len;refine⟨W3,U,rfl,.inl (SqL.of ao),_,_,rfl,rfl,?_⟩;have e1:(us.length:Int) - U.length=((qG e.t n L l.num l.mark).length - (qG e.t n L l.num (some r)).length:Int):=by rw[hW,l3];rfl
  show Q (.int ((us.length:Int) - U.length)) a8;rw[e1];exact q1 r hl a8 (ad.trans (KP.same R)) (k2.same R) (a0.same R)
def aYa {κ:Type}[DecidableEq κ]{A B:List (κ × V)}{k:κ}{v d:V}(c:∀kv∈A,kv.1≠k)(e:∀kv∈B,kv.1≠k):putK (A++(k,v)::B) k d=A++(k,d)::B:=by
 have b:∀{L:List (κ × V)},(∀kv∈L,kv.1≠k)->L.map (λkv=>if kv.1=k then (kv.1,d) else kv)=L:=λ{L} h=>by
  conv=>rhs;rw[<-List.map_id L]
  exact List.map_congr_left λkv a=>by rw[if_neg (h kv a)];rfl
 unfold putK;rw[if_pos (List.any_eq_true.mpr ⟨(k,v),bAA _ j5,m9 rfl⟩),bAN,bAF,b c,b e,if_pos rfl]
def aBs {l1 l2:List En}{e e':En}(c:((l1++e::l2).map (·.n)).Nodup)(i:e'.n=e.n):putK (enK (l1++e::l2)) (Sum.inr e.n) e'.v=enK (l1++e'::l2):=by
 rw[bAN,bAF] at c;obtain⟨_,f,g⟩:=List.nodup_append.mp c;have d:=(List.nodup_cons.mp f).1;unfold enK;rw[bAN,bAF,bAN,bAF,i];refine aYa (λh a z=>?_) λh a z=>?_
 ·obtain⟨x,b,rfl⟩:=List.mem_map.mp a;exact g _ (bAT b) _ j5 (Sum.inr.inj z)
 ·obtain⟨x,b,rfl⟩:=List.mem_map.mp a;exact d (by rw[<-Sum.inr.inj z];exact bAT b)
def bI.put {H:Hp}{C x d dm:Addr}{m:Int}{g i:List En}{e e':En}(h:bI K H C x m d dm (g++e::i))(l:e'.n=e.n)(r:jU K H e'.v e'.vh e'.vp e'.L e'.t)(q:jR m e'.t):KP K (λb=>b≠d) H (L2.upd H d (.dK (enK (g++e'::i))))/\bI K (L2.upd H d (.dK (enK (g++e'::i)))) C x m d dm (g++e'::i):=by
 have k:=dH.dK h.ens.at_;have b:But d H (L2.upd H d (.dK (enK (g++e'::i)))):=But.upd;have c:∀y∈g++e'::i,y=e'\/y∈g++e::i:=λy hy=>by
  rcases List.mem_append.mp hy with h|h
  ·exact .inr (bBF _ h)
  ·rcases List.mem_cons.mp h with h|h
   ·exact .inl h
   ·exact .inr (bAA _ (j7 _ h))
 have a:=h.ens;have f:(g++e'::i).map (·.n)=(g++e::i).map (·.n):=by rw[bAN,bAN,bAF,bAF,l]
 obtain⟨p,j⟩:=h.at_;have o:x≠d:=λz=>by rw[z,a.at_] at j;cases j
 refine⟨.aUi k λz=>z rfl,⟨p,b _ _ o j⟩,⟨aG,by rw[f];exact a.nd,?_,λy hy=>?_,λy hy=>?_⟩,λy hy=>?_,h.ne⟩
 ·have:=congrArg List.length f;rw[j4,j4] at this;rw[this];exact a.few
 ·rcases c y hy with rfl|hy
  ·rw[l];exact a.nm e (bAA _ j5)
  ·exact a.nm y hy
 ·rcases c y hy with rfl|hy
  ·exact b.tb k r
  ·exact b.tb k (a.tb y hy)
 ·rcases c y hy with rfl|hy
  ·exact q
  ·exact h.ok y hy
inductive zK (K:bFZ)(vs:List V)(H:Hp)(Q:VK)(E_:XK):Prop
 |mk (v vh vp:V) (L R:Addr) (t:Tb) (rows:List (List V)) (_:vs=[v,.ref R]) (_:jU K H v vh vp L t) (_:aOq t.hd) (_:bN K H R rows) (_:rows.length<=60) (_:(∀r∈rows,jA t.hd r)) (_:∀v' L' H',H L'=none->Same H H'->jU K H' v' vh vp L' { t with rows:=srt rows }->Q v' H')
def aIm (T:Txt w K mg):Ok P w K mg base 1 "with_rows" bQW (zK K):=by
 refine Ok.ofV T.aI9 aHk (by trivial) (λf X A n s H vs Q E hr h=>?_)
 obtain⟨v,y,x,L,R,t,d,rfl,⟨a,rfl,M,U,O,h3⟩,hd,G,F,o,q⟩:=h;refine⟨_,(aD (aM (bB lC (cR aBq (vv 0) dO (dF aB)) (bY (va1 (aK eY (by rfl) T.eO dG (va1 (vv 1)))))))),?_⟩;obtain⟨V,D,c⟩:=G;have lu:=c.len;refine⟨_,rfl,_,rfl,a,_,rfl,M,by show ¬ (HT.sIx 3 0 none=0/\HT.sIx 3 3 (some 2)=3);decide,λp Y g u=>?_⟩;rw[show pQ [y,x,.ref L] none (some 2)=[y,x] from kY _ 2] at u;refine⟨_,rfl,R,V,d,knds t.hd,rfl,SqL.of (g _ _ D),cN (c.imp λ_ _ z=>z.same g),by lia,iT hd.1,λr j=>gU (o r j),λJ H2 k l i N B=>?_⟩;refine⟨by show 1<=sizeLine;decide,λS Z _ e W=>?_⟩;refine⟨p,S,_,_,rfl,rfl,SqT.of (e _ _ (i _ _ u)),SqT.of W,by show 3<=sizeLine;decide,λr I m C=>?_⟩;have b:=g.trans (i.trans (e.trans m));exact q _ J I (none_of g l) b ⟨r,rfl,C,U.same b,O.same b,k,m _ _ (e _ _ N),(fV B).imp λ_ _ z=>z.same (i.trans (e.trans m))⟩
inductive aWa (K:bFZ)(C:Addr)(vs:List V)(H:Hp)(Q:VK)(E_:XK):Prop
 |mk (x d dm:Addr) (m:Int) (l1 l2:List En) (e:En) (vr:V) (r:List V) (_:vs=[.ref x,.str e.n,vr]) (_:bI K H C x m d dm (l1++e::l2)) (_:cP K H vr r) (_:jA e.t.hd r) (_:e.t.rows.length<60) (_:∀v L H',KP K (λb=>b≠d) H H'->H L=none->bI K H' C x m d dm (l1++{ e with v:=v,L:=L,t:={ e.t with rows:=srt (e.t.rows++[r]) } }::l2)->Q .non H')
def aX2 (T:Txt w K mg){C:Addr}(c:Cls K C)(D:eZ K C "put" "Store.put" sZ bQI)(n1:bU K C "placed")(cH:Ok P w K mg base 3 "table_in" z8 (pM K))(qU:Ok P w K mg base 4 "is_row" bQA (aBo K))(sS:Ok P w K mg base 1 "with_rows" bQW (zK K)):OkM P w K mg base C 5 "put" bQI (aWa K C):=by
 refine OkM.ofV c D yF (by trivial) (λf a0 A O s H vs Q E hr h=>?_)
 obtain⟨x,d,dm,m,X,V,e,vr,r,rfl,i,F,o,a1,q⟩:=h;have hu:=mC hr;have nd:=yF.nd;refine⟨_,(aC (aY 3 (aV cH (aH (cV (K:=K) (vv 0)) (va1 (vv 1))))) (aC (bO (cL (cC (aV qU (aH (aR aO (vv 3) aB) (va1 (vv 2)))))) (aD dR) aW) (aD (mO hu (cV (K:=K) (vv 0)) (vv 1) (aV sS (aH (vv 3) (va1 (bB rA (aR aO (vv 3) aB) (dY (va1 (vv 2))))))))))),?_⟩;obtain⟨dx,Y⟩:=i.at_;have I:e∈X++e::V:=bAA _ j5;have B:=i.ok e I;have l8:=B.hd.1.2.2;refine⟨_,rfl,x,C,dx,_,_,rfl,Y,c,n1,rfl,_,rfl,d,_,e,rfl,i.ens,I,λH1 S=>?_⟩;obtain⟨a,ev,ha,h1,h2,⟨us,h3,h4⟩⟩:=(i.ens.tb e I).same S;have lu:=h4.len;refine⟨_,rfl,a,_,0,_,ev,rfl,ha,at0 _ _,_,rfl,e.vh,vr,e.t.hd,r,rfl,h1,by lia,F.same S,o,λH2 G=>⟨_,rfl,cB ?_⟩⟩;have N:=S.trans G;refine⟨_,rfl,_,rfl,a,_,2,_,ev,rfl,G.aP ha,at2 _ _ _ _,_,rfl,by show 1<=sizeLine;decide,λp H3 hp J g3=>?_⟩;refine⟨e.L,p,us,_,rfl,rfl,J _ _ (G _ _ h3),g3,small (by show _+1<=1000;lia),λR H4 hR s4 g4=>?_⟩;have b:=N.trans (J.trans s4);have l:bN K H4 R (e.t.rows++[r]):=⟨_,g4,bW.app (h4.imp λ_ _ z=>z.same (G.trans (J.trans s4))) (.cons (F.same b) .nil)⟩;refine⟨e.v,e.vh,e.vp,e.L,R,e.t,_,rfl,(i.ens.tb e I).same b,B.hd,l,by rw[v9];show _+1<=60;lia,λy hy=>?_,λW L' H5 M s5 hT=>?_⟩
 ·rcases List.mem_append.mp hy with hy|hy
  ·exact B.rows y hy
  ·rw[List.mem_singleton.mp hy];exact o
 have g:=b.trans s5;have j:=i.same g;have U:jR m { e.t with rows:=srt (e.t.rows++[r]) }:=⟨B.hd,B.pl,by show (srt _).length<=60;rw[tH,v9];show _+1<=60;lia,λy hy=>by
  rcases List.mem_append.mp (gC hy) with hy|hy
  ·exact B.rows y hy
  ·rw[List.mem_singleton.mp hy];exact o⟩
 obtain⟨e',u⟩:∃e':En,e'={ e with v:=W,L:=L',t:={ e.t with rows:=srt (e.t.rows++[r]) } }:=⟨_,rfl⟩;obtain⟨k1,k2⟩:=j.put (e':=e') (by rw[u]) (by rw[u];exact hT) (by rw[u];exact U);have Z:=j.ens.few;refine⟨_,rfl,x,C,dx,_,_,rfl,g _ _ Y,c,n1,rfl,_,rfl,d,_,rfl,aA8.k (k:=Sum.inr e.n) j.ens.at_ (by rw[mU];exact fW (by lia)),?_⟩;have ek:putK (enK (X++e::V)) (Sum.inr e.n) W=enK (X++e'::V):=by have:=aBs (e':=e') i.ens.nd (by rw[u]);rw[u] at this ⊢;exact this
 rw[ek];rw[u] at k1 k2 ⊢;exact q W L' _ ((KP.same g).trans k1) (none_of b M) k2
theorem aJt {r:List V}:∀{rs:List (List V)},r∈rs->∃j,rs[j]?=some r/\∀(m:Nat) q,m<j->rs[m]?=some q->q≠r
 |[],h=>by cases h
 |a::rs,h=>by
  by_cases e:a=r
  ·exact⟨0,by rw[e];rfl,λm q c=>absurd c (bCY _)⟩
  ·rcases List.mem_cons.mp h with h|h
   ·exact absurd h.symm e
   ·obtain⟨j,d,f⟩:=aJt h;refine⟨j+1,by simpa using d,λm q c b=>?_⟩;cases m with
    |zero=>cases b;exact e
    |succ m=>exact f m q (by lia) (by simpa using b)
def aB8 {α β:Type}{R:α->β->Prop}{as:List α}{bs:List β}(h:bW R as bs):∀n,bW R (as.eraseIdx n) (bs.eraseIdx n):=by
 induction h with
 |nil=>intro n;exact .nil
 |cons r t ih=>
  intro n;cases n with
  |zero=>exact t
  |succ n=>exact .cons r (ih n)
theorem vH {α:Type}{r:α}:∀{rs:List α} {j:Nat},rs[j]?=some r->(r::rs.eraseIdx j).Perm rs
 |[],_,h=>by cases h
 |a::rs,0,h=>by cases h;exact .refl _
 |a::rs,j+1,h=>(List.Perm.swap a r _).trans ((vH (by simpa using h)).cons a)
inductive aQq (K:bFZ)(C:Addr)(vs:List V)(H:Hp)(Q:VK)(E_:XK):Prop
 |mk (x d dm:Addr) (m:Int) (l1 l2:List En) (e:En) (vr:V) (r:List V) (_:vs=[.ref x,.str e.n,vr]) (_:bI K H C x m d dm (l1++e::l2)) (_:cP K H vr r) (_:jA e.t.hd r) (_:r∈e.t.rows) (_:∀v L rows' H',(r::rows').Perm e.t.rows->KP K (λb=>b≠d) H H'->H L=none->bI K H' C x m d dm (l1++{ e with v:=v,L:=L,t:={ e.t with rows:=srt rows' } }::l2)->Q .non H')
def aTz (T:Txt w K mg){C:Addr}(c:Cls K C)(D:eZ K C "drop" "Store.drop" pC bQI)(n1:bU K C "placed")(cH:Ok P w K mg base 3 "table_in" z8 (pM K))(qU:Ok P w K mg base 4 "is_row" bQA (aBo K))(sS:Ok P w K mg base 1 "with_rows" bQW (zK K)):OkM P w K mg base C 5 "drop" bQI (aQq K C):=by
 refine OkM.ofV c D uB (by trivial) (λf a7 A a1 s H vs Q E U h=>?_)
 obtain⟨x,d,dm,m,l1,l2,e,vr,r,rfl,p,l,I,hm,qT⟩:=h;have hu:=mC U;have hU:=U.units;have nd:=uB.nd;refine⟨_,(aC (aY 3 (aV cH (aH (cV (K:=K) (vv 0)) (va1 (vv 1))))) (aC (bO (VW.pt (fG (cL (cC (aV qU (aH (aR aO (vv 3) aB) (va1 (vv 2)))))) (eE (aIa (aM0 hU) (vv 2) (aR aO (vv 3) aB) (by with_unfolding_all rfl))))) (aD dR) aW) (aC (aY 4 (cI pJ (by rfl) T.yR tK (va1 (aR aO (vv 3) aB)))) (aC (cM (rZ PySem.F.plainAttrs_list PySem.F.slot_list_remove PySem.F.type_list_remove (aX7 hU) (vv 4) (va1 (vv 2)))) (aD (mO hu (cV (K:=K) (vv 0)) (vv 1) (aV sS (aH (vv 3) (va1 (vv 4)))))))))),?_⟩;obtain⟨dx,hx⟩:=p.at_;have W:e∈l1++e::l2:=bAA _ j5;have i:=p.ok e W;have l8:=i.hd.1.2.2;have a8:=i.few;refine⟨_,rfl,x,C,dx,_,_,rfl,hx,c,n1,rfl,_,rfl,d,_,e,rfl,p.ens,W,λH1 V=>?_⟩;obtain⟨a,ev,ha,h1,h2,⟨q,h3,X⟩⟩:=(p.ens.tb e W).same V;have lu:=X.len;refine⟨_,rfl,a,_,0,_,ev,rfl,ha,at0 _ _,_,rfl,e.vh,vr,e.t.hd,r,rfl,h1,by lia,l.same V,I,λH2 g=>⟨_,rfl,cB ?_⟩⟩;have O:=V.trans g;have N:∀r∈e.t.rows,qN r:=λr U=>wR (i.rows r U);refine⟨_,rfl,_,rfl,a,_,2,_,ev,rfl,g.aP ha,at2 _ _ _ _,e.L,q,e.t.rows,r,rfl,SqL.of (g _ _ h3),cN (X.imp λ_ _ z=>z.same g),N,l.same O,wR I,_,rfl,?_⟩
 ·rw[m9 hm];refine cB ?_;obtain⟨j,hj,a2⟩:=aJt hm;refine⟨_,rfl,a,_,2,_,ev,rfl,g.aP ha,at2 _ _ _ _,e.L,q,rfl,.inl (SqL.of (g _ _ h3)),λR Y hR Z g3=>?_⟩;have a4:=O.trans Z;refine⟨_,rfl,.inl ⟨rfl,_,SqL.of g3⟩,_,rfl,R,q,vr,e.t.rows,r,j,rfl,rfl,g3,cN (X.imp λ_ _ z=>z.same (g.trans Z)),N,l.same a4,wR I,hj,a2,?_⟩;have B:Same H1 (L2.upd Y R (.lst (q.eraseIdx j))):=g.trans (gJ hR Z);have b:=V.trans B;have g4:L2.upd Y R (.lst (q.eraseIdx j)) R=some (.lst (q.eraseIdx j)):=aG;generalize L2.upd Y R (.lst (q.eraseIdx j))=H4 at B b g4 ⊢;obtain⟨a6,ej⟩:=List.getElem?_eq_some_iff.mp hj;have pm:(r::e.t.rows.eraseIdx j).Perm e.t.rows:=vH hj;have S:∀y∈e.t.rows.eraseIdx j,y∈e.t.rows:=λy M=>List.mem_of_mem_eraseIdx M;have G:bN K H4 R (e.t.rows.eraseIdx j):=⟨_,g4,aB8 (X.imp λ_ _ z=>z.same B) j⟩;have a9:=bEK e.t.rows j;refine⟨_,rfl,_,rfl,e.v,e.vh,e.vp,e.L,R,e.t,e.t.rows.eraseIdx j,rfl,(p.ens.tb e W).same b,i.hd,G,by lia,λy M=>i.rows y (S y M),λv' L' H5 a0 s5 hT=>?_⟩;have o:=b.trans s5;have u:=p.same o;have a3:jR m { e.t with rows:=srt (e.t.rows.eraseIdx j) }:=⟨i.hd,i.pl,by show (srt _).length<=60;rw[tH];lia,λy M=>i.rows y (S y (gC M))⟩;obtain⟨e',J⟩:∃e':En,e'={ e with v:=v',L:=L',t:={ e.t with rows:=srt (e.t.rows.eraseIdx j) } }:=⟨_,rfl⟩;obtain⟨k1,k2⟩:=u.put (e':=e') (by rw[J]) (by rw[J];exact hT) (by rw[J];exact a3);have a5:=u.ens.few;refine⟨_,rfl,x,C,dx,_,_,rfl,o _ _ hx,c,n1,rfl,_,rfl,d,_,rfl,aA8.k (k:=Sum.inr e.n) u.ens.at_ (by rw[mU];exact fW (by lia)),?_⟩;have ek:putK (enK (l1++e::l2)) (Sum.inr e.n) v'=enK (l1++e'::l2):=by have:=aBs (e':=e') p.ens.nd (by rw[J]);rw[J] at this ⊢;exact this
  rw[ek];rw[J] at k1 k2 ⊢;exact qT v' L' _ _ pm ((KP.same o).trans k1) (none_of b a0) k2
inductive yQ (K:bFZ)(vs:List V)(H:Hp)(Q:VK)(E_:XK):Prop
 |mk (v vh vp vc:V) (L:Addr) (t:Tb) (n:Str) (h0 k0:Int) (cs ks:List (V × Int)) (_:vs=[v,vc]) (_:jU K H v vh vp L t) (_:t.pl=.spans n h0 cs) (_:kJ K H (eQ K H) vc ((.non,k0)::ks)) (_:∀v' vp' H',Same H H'->jU K H' v' vh vp' L { t with pl:=.spans n k0 ks }->Q v' H')
def aG5 (T:Txt w K mg):Ok P w K mg base 1 "with_cuts" bQX (yQ K):=by
 refine Ok.ofV T.aJp aG8 (by trivial) (λf O A i s H W Q E hr h=>?_)
 obtain⟨v,vh,Z,R,L,t,n,X,k0,U,Y,rfl,⟨a,rfl,e,M,m,C⟩,g,x,q⟩:=h;rw[g] at m;obtain⟨b,o,rfl,F,_⟩:=m;refine⟨_,(aD (aM (bY (aH (aR aO (vv 0) aB) (aH (bB lC (cR aBq (aR aO (vv 0) aB) dO (dF aB)) (bY (va1 (vv 1)))) (va1 (aR aO (vv 0) aB))))))),?_⟩;refine⟨_,rfl,a,_,0,_,rfl,rfl,e,at0 _ _,_,rfl,a,_,1,_,rfl,rfl,e,at1 _ _ _,?_⟩;refine⟨_,rfl,b,_,rfl,F,by show ¬ (HT.sIx 3 0 none=0/\HT.sIx 3 3 (some 2)=3);decide,λp S I k=>?_⟩;rw[show pQ [.str "spans",.str n,o] none (some 2)=[.str "spans",.str n] from kY _ 2] at k;refine⟨_,rfl,by show 1<=sizeLine;decide,λJ H2 _ j G=>?_⟩;refine⟨p,J,_,_,rfl,rfl,SqT.of (j _ _ k),SqT.of G,by show 3<=sizeLine;decide,λr V y N=>?_⟩;have d:=I.trans (j.trans y);refine⟨_,rfl,a,_,2,_,rfl,rfl,d.aP e,at2 _ _ _ _,by show 3<=sizeLine;decide,λD B _ l u=>?_⟩;have c:=d.trans l;exact q _ (.ref r) B c ⟨D,rfl,SqT.of u,M.same c,⟨r,R,rfl,l.aP N,x.same c λ_ _ z=>z.same c⟩,C.same c⟩
inductive aUo (K:bFZ)(vs:List V)(H:Hp)(Q:VK)(E_:XK):Prop
 |mk (v vh vp vl:V) (L:Addr) (t:Tb) (n kd:Str) (h0:Int) (cs:List (V × Int)) (_:vs=[v,vl]) (_:jU K H v vh vp L t) (_:t.pl=.spans n h0 cs) (_:look t.hd n=some kd) (_:(∀c∈cs,bM kd c.1)) (_:cs.length+1<8) (_:bM kd vl) (_:inV vl (.non::cs.map (·.1))=false) (_:∀H',Same H H'->Q (.bl true) H')
def aPr (h:bM kd v):aJo v=true/\iG v=true:=by
 cases h with
 |num=>exact⟨(lX bM.num).1,rfl⟩
 |wrd h1 h2=>exact⟨(lX (bM.wrd h1 h2)).1,rfl⟩
def aEj (T:Txt w K mg)(gH:Ok P w K mg base 3 "is_value_of" bQS (aHd K))(yW:Ok P w K mg base 1 "kind_in" bQJ (aM6 K)):Ok P w K mg base 4 "may_cut_at" ["table","low"] (aUo K):=by
 refine Ok.ofV T.aG7 uN (by trivial) (λf a0 A B s H vs Q E hr h=>?_)
 obtain⟨v,vh,vp,M,L,t,n,I,S,G,rfl,⟨a,rfl,C,h1,W,h3⟩,p,hk,o,h8,m,F,q⟩:=h;rw[p] at W;obtain⟨b,vo,rfl,U,⟨J,us,rfl,c,e⟩⟩:=W;have nd:=uN.nd;refine⟨_,(aC (aY 2 (aR aO (aR aO (vv 0) aB) aB)) (aC (aY 3 (aR aO (aR aO (vv 0) aB) aB)) (aC (bO (VW.pt (fG (cX bE4 (aK aX (by rfl) T.dW cQ (va1 (vv 3))) (rN (by rfl) T.aA6)) (eE (cL (cC (aV gH (aH (vv 1) (va1 (aV yW (aH (aR aO (vv 0) aB) (va1 (vv 2)))))))))))) (aD (aM jL)) aW) (aD (aM (pG pY (vv 1) (cJ (N:=["cut"]) ck iM rfl (nU (vv 3)) (λcl k j fp=>⟨(fZ 0),fH,(aR (bL (K:=K)) (vv 0) aB)⟩)) (by with_unfolding_all rfl))))))),?_⟩;have lu:=e.len;rw[j9] at lu;refine⟨_,rfl,a,_,1,_,rfl,rfl,C,at1 _ _ _,b,_,1,_,rfl,rfl,U,at1 _ _ _,?_⟩;refine⟨_,rfl,a,_,1,_,rfl,rfl,C,at1 _ _ _,b,_,2,_,rfl,rfl,U,at2 _ _ _ _,?_⟩;refine⟨_,rfl,J,_,rfl,.inr c,_,_,rfl,rfl,_,rfl,?_⟩;rw[show decide (((us.length:Nat):Int) ≥ 8)=false from v6 (by lia)];obtain⟨v1,v2⟩:=aPr m;refine cB ⟨_,rfl,_,rfl,a,_,0,_,rfl,rfl,C,at0 _ _,_,rfl,vh,n,t.hd,I,rfl,h1,hk,M,I,rfl,(oO m).th,λH1 g=>⟨_,rfl,?_⟩⟩;rw[v1,Bool.true_and,m9 (lX m).2];refine cB ?_;refine⟨_,rfl,?_⟩;dsimp only[mJ,bR,aBi,vB,pZ];refine oE [none] oU ⟨_,rfl,J,rfl,⟨_,g.aP c⟩,aDb (zQ λj k=>(g.trans k).aP c) (oM λj k=>(g.trans k).aP c) ⟨none,rfl⟩ (by lia) (((.non,S)::G).map (·.1)) (by rw[j4,j9];lia) (λi x z ex X j R l sm r=>?_) λD H6 Z nL gL=>?_⟩
 ·obtain⟨O,d,p',rfl,u⟩:=bV e ex;rw[v5,d] at X;cases X;exact⟨_,rfl,p',_,0,_,rfl,rfl,(g.trans sm).aP u,at0 _ _,r j (Same.refl _)⟩
 refine⟨D,_,rfl,.inl (SqL.of gL),v2,?_,?_⟩
 ·rw[bAF,bFY,List.all_eq_true.mpr λy Y=>?_];rfl;obtain⟨O,d,rfl⟩:=List.mem_map.mp Y;exact (aPr (o O d)).2
 ·rw[if_pos rfl,show inV M (((V.non,S)::G).map (·.1))=false from F];exact q H6 (g.trans Z)
def aS7 (h:bM kd a)(e:bM kd b)(f:bM kd c)(d:vlt a b=true)(g:vlt b c=true):vlt a c=true:=by
 cases h with
 |num=>cases e;cases f;exact m9 (Int.lt_trans (of_decide_eq_true d) (of_decide_eq_true g))
 |wrd _ _=>cases e;cases f;exact m9 (List.lt_trans (of_decide_eq_true d) (of_decide_eq_true g))
def bCs (g:bM kd a)(d:bM kd b)(h:vlt a b=false)(c:a≠b):vlt b a=true:=by
 cases g with
 |num=>cases d;have h:=of_decide_eq_false h;exact m9 (by have:_≠_:=λz=>c (congrArg V.int z);lia)
 |@wrd x _ _=>
  cases d with
  |@wrd y _ _=>have h:=of_decide_eq_false h;refine m9 (Decidable.byContradiction λf=>c ?_);have e:=List.le_antisymm f h;cases x;cases y;exact congrArg V.str (congrArg Str.mk (Array.toList_inj.mp e))
theorem aCf {kd:Str}{v:V}{cs:List (V × Int)}(w:bM kd v)(o:∀c∈cs,bM kd c.1)(q:(cs.map (·.1)).Pairwise λa b=>vlt a b=true):∀k,k<=cs.length->dU v (cs.take k) 1 0<=k/\∀(i:Nat) (c:V × Int),i<k->cs[i]?=some c->(i<dU v (cs.take k) 1 0↔vlt v c.1=false)
 |0,_=>⟨d9 _,λi c h=>absurd h (bCY _)⟩
 |k+1,h=>by
  obtain⟨A,x⟩:=aCf w o q k (by lia);have g:cs[k]?=some cs[k]:=b8 (by lia);have p:cs.take (k+1)=cs.take k++[cs[k]]:=by rw[bBH,g];rfl
  have s:(cs.take k).length=k:=by rw[bAC];lia
  rw[p,yV,s];have n:=o _ (v4 g);cases f:vlt v cs[k].1 with
  |true=>
   rw[if_pos rfl];refine⟨by lia,λi c u d=>?_⟩;by_cases e:i=k
   ·subst e;rw[g] at d;cases d;rw[f];exact⟨λz=>absurd z (by lia),λz=>by cases z⟩
   ·exact x i c (by lia) d
  |false=>
   rw[if_neg v8];refine⟨by lia,λi c u d=>⟨λ_=>?_,λ_=>by lia⟩⟩;by_cases e:i=k
   ·subst e;rw[g] at d;cases d;exact f
   ·cases y:vlt v c.1 with
    |false=>rfl
    |true=>
     have j:=o c (v4 d);have r:i<(cs.map (·.1)).length:=by rw[j4];lia
     have m:k<(cs.map (·.1)).length:=by rw[j4];lia
     have l:=List.pairwise_iff_getElem.mp q i k r m (by lia);rw[List.getElem_map,List.getElem_map] at l;have t:=(List.getElem?_eq_some_iff.mp d).2;rw[t] at l;rw[aS7 w j n y l] at f;cases f
def atH (v:V)(h0:Int)(cs:List (V × Int)):Int:=(((.non,h0)::cs).map (·.2)).getD (dU v cs 1 0) 0
def sW (v:V)(h0:Int)(cs:List (V × Int)):List (V × Int):=cs.take (dU v cs 1 0)++(v,atH v h0 cs)::cs.drop (dU v cs 1 0)
def aV7 (h:bM kd v):eqV v v=true:=by
 cases h with
 |num=>exact m9 rfl
 |wrd _ _=>exact m9 rfl
def bAo (d:oY kd m h0 cs):0<=atH v h0 cs/\atH v h0 cs<m:=by
 have f:=wJ v cs;have a:dU v cs 1 0<((V.non,h0)::cs).length:=by rw[j9];lia
 have e:atH v h0 cs=(((V.non,h0)::cs)[dU v cs 1 0]).2:=by unfold atH;rw[j0,v5,b8 a];rfl
 rw[e];have b:=bAO a;generalize ((V.non,h0)::cs)[dU v cs 1 0]=c at b;rcases List.mem_cons.mp b with rfl|hc
 ·exact d.first
 ·exact (d.each c hc).2
def aQp {B:Str}{m C:Int}{v:V}{e:List (V × Int)}(f:oY B m C e)(j:bM B v)(l8:e.length+1<8)(k:inV v (.non::e.map (·.1))=false):oY B m C (sW v C e):=by
 have l:∀c∈e,bM B c.1:=λc hc=>(f.each c hc).1;obtain⟨o,h⟩:=aCf j l f.up e.length (d9 _);rw[bCA] at o h;have t:∀c∈e,c.1≠v:=λc hc z=>by have:inV v (.non::e.map (·.1))=true:=List.any_eq_true.mpr ⟨c.1,j7 _ (bAT hc),by rw[z];exact aV7 j⟩;rw[this] at k;cases k
 unfold sW;have q:=bAo (v:=v) f;generalize atH v C e=ah at q ⊢;generalize dU v e 1 0=Nn at o h ⊢;have n:=f.up;rw[<-List.take_append_drop Nn e,bAN] at n;obtain⟨y,w,s⟩:=List.pairwise_append.mp n;have x:∀c∈e.take Nn,vlt c.1 v=true:=λc hc=>by
  obtain⟨i,d⟩:=List.mem_iff_getElem?.mp hc;have g:i<Nn:=by have:=(List.getElem?_eq_some_iff.mp d).1;rw[bAC] at this;lia
  rw[List.getElem?_take,if_pos g] at d;have r:=v4 d;exact bCs j (l c r) ((h i c (by have:=(List.getElem?_eq_some_iff.mp d).1;lia) d).mp g) (t c r).symm
 have A:∀c∈e.drop Nn,vlt v c.1=true:=λc hc=>by
  obtain⟨i,d⟩:=List.mem_iff_getElem?.mp hc;rw[List.getElem?_drop] at d;cases u:vlt v c.1 with
  |true=>rfl
  |false=>exact absurd ((h (Nn+i) c (by have:=(List.getElem?_eq_some_iff.mp d).1;lia) d).mpr u) (by lia)
 refine⟨f.first,λc hc=>?_,?_,?_⟩
 ·rcases List.mem_append.mp hc with hc|hc
  ·exact f.each c (bCO hc)
  ·rcases List.mem_cons.mp hc with rfl|hc
   ·exact⟨j,q⟩
   ·exact f.each c (List.mem_of_mem_drop hc)
 ·rw[bAN,bAF];refine List.pairwise_append.mpr ⟨y,List.pairwise_cons.mpr ⟨λb hb=>?_,w⟩,λa p b hb=>?_⟩
  ·obtain⟨c,hc,rfl⟩:=List.mem_map.mp hb;exact A c hc
  ·rcases List.mem_cons.mp hb with rfl|hb
   ·obtain⟨c,hc,rfl⟩:=List.mem_map.mp p;exact x c hc
   ·exact s a p b hb
 ·rw[v9,j9,bAC,bBE];lia
end
end My
namespace PySem
section
variable {κ:Type}[DecidableEq κ]
open PySem.Spec PySem.Calls PyProof.Rows L2
end
end PySem
namespace L2
open PySem PySem.Spec PyProof.Rows
def aRh (hd:H d=some (.frz o (.dK kvs)))(u:Ps1 σ0 σ0)(hsz:kvs.length<=1000)
  (Rel:Addr->Nat->Hp->V->Prop) (w:∀{D i H1 H2 y},Same H1 H2->Rel D i H1 y->Rel D i H2 y) (p:∀{D i H1 ys zs y},H1 D=some (.lst ys)->Rel D i H1 y->Rel D i (L2.upd H1 D (.lst zs)) y)
  (t:∀(i:Nat) (kv:Key × V),kvs[i]?=some kv->∀σ2 H' R D ys,At1 σ0 (kV kv.1) σ2->Same H H'->H D=none->H' D=some (.lst ys)->(∀y H2,Same H' H2->Rel D i H2 y->R y H2)->te σ2 H' R)
  (q:∀D H' ys,Same H H'->H D=none->H' D=some (.lst ys)->ys.length=kvs.length->(∀i y,ys[i]?=some y->Rel D i H' y)->Q (.ref D) H'):oG (Itd d o kvs) H σ0 (bR 0) mG te Q:=by
 intro D f;refine⟨λi m n H' ys=>m=kvs.length - i/\i<=kvs.length/\Same H H'/\H' D=some (.lst ys)/\ys.length=i/\Ps1 σ0 n/\∀j y,ys[j]?=some y->Rel D j H' y,⟨kvs.length,by simp,bAE _,aZ f _,aG,rfl,u,λj y e=>by cases e⟩,?_⟩;rintro i m n H' ys ⟨rfl,hi,sm,gD,ly,hps,hr⟩;refine⟨gD,?_⟩;by_cases a:i<kvs.length
 ·right;refine⟨⟨sm _ _ hd,a⟩,?_⟩;rintro x H2 ⟨rfl,g⟩;have e:=g _ (b8 a);subst e;refine hg1 (i:=i) hps fun σ2 c k=>?_;dsimp only[mG];rw[if_pos rfl];refine t i _ (b8 a) σ2 _ _ D ys k sm f gD λy v l g=>?_;have b:=l _ _ gD;have h:=sm.trans l;refine⟨b,bBY (show ys.length<=1000 by lia) (by decide),kvs.length - (i+1),by lia,rfl,by lia,gJ f h,aG,by rw[v9,ly];rfl,c,λj z e=>?_⟩;by_cases r:j<ys.length
  ·rw[bBD r] at e;exact p b (w l (hr j z e))
  ·rw[bBA (by lia)] at e;have s:j - ys.length=0:=by have:=(List.getElem?_eq_some_iff.mp e).1;simpa using this
   rw[s] at e;cases e;have:j=i:=by lia
   rw[this];exact p b g
 ·left;have e:i=kvs.length:=by lia
  subst e;exact⟨⟨sm _ _ hd,rfl⟩,q D H' ys sm f gD ly hr⟩
def aWf {X:Cx}{scope:Scope}{N:List Str}{tl:TE}{te:TE}{tt:TT}{g:TG}{σ:L2.St}{H:Hp}{Q:VK}(b:L2.St)(a:Cap X scope N σ b)(h:tl σ H λv H1=>∃d kvs,v=.ref d/\H1 d=some (.dK kvs)/\(∀kv∈kvs,∃n,kv.1=Sum.inr n)/\(∀ob u,X.H₀ d≠some (.frz ob u))/\∀o,oG (Itd d o kvs) (upd H1 d (.frz o (.dK kvs))) b g tt te Q):jB X scope N (bDu (X:=X) tl) g tt te σ H Q:=⟨b,a,h⟩
section
open AutoSeq1 (wpAny_loadPart')
open MeetsSeq MeetsSeq2 MeetsSeq3
end
end L2
namespace PySem
namespace LR
end LR
section
open PySem.Calls PyProof.Rows
end
end PySem
namespace L2
open PySem PySem.Spec PyProof.Rows
def bCp (K:bFZ):R2:=λx y H Q=>∃a b us,x=.ref a/\y=.ref b/\SqL K H a us/\SqL K H b []/\Q (.bl (!us.isEmpty)) H
def aJ9 (hu':X.A.units+64<cLine):OpR X (compareOp .NotEq) (bCp X.K):=by
 intro i s σ H x y v u Q I l p h;have c:X.A.units<cLine:=by lia
 obtain⟨a,b,E,rfl,rfl,m,n,q⟩:=h;cases l;cases p;obtain⟨k,o,f,B⟩:=I.list m;obtain⟨w,g,d,D⟩:=I.list n;cases g;cases o with
 |nil=>refine SeqAt.RcNeAt.lists (e:=λ_=>true) f.isList d.isList rfl c (λj z C=>by simp at z) _ _ _ _ ?_;exact⟨.bl _,H,I,rfl,q⟩
 |cons r t=>exact SeqAt.RcNeAt.lists_lengths f.isList d.isList (by simp) c _ _ _ _ ⟨.bl _,H,I,rfl,q⟩
def bEh:V->List V->Hp->VK->Prop:=λx vs H Q=>∃d kvs k v,x=.ref d/\vs=[kV k]/\H d=some (.dK kvs)/\fQ kvs k=some v/\Q v (upd H d (.dK (mD kvs k)))
def aYb:MtR X "dict.pop" bEh:=by intro g s σ H x n v m Q I c e h;obtain⟨d,b,k,y,rfl,rfl,hd,f,q⟩:=h;cases c;obtain⟨u,rfl,i⟩:=vals1 e;exact bE6 I hd i f (.inl rfl) λo l j a=>⟨y,_,j,a,q⟩
end L2
namespace My
open PySem PySem.Spec PyProof.Rows L2
section
variable {P:Program}{w:World}{K:bFZ}{mg:bF2}{base:Heap}
def vA {α β:Type}{R:α->β->Prop}{as:List α}{bs:List β}(h:bW R as bs):∀n,bW R (as.drop n) (bs.drop n):=by
 induction h with
 |nil=>intro n;rw[List.drop_nil,List.drop_nil];exact .nil
 |cons r t ih=>
  intro n;cases n with
  |zero=>exact .cons r t
  |succ n=>exact ih n
inductive aJ0 (K:bFZ)(C:Addr)(vs:List V)(H:Hp)(Q:VK)(E_:XK):Prop
 |mk (x d dm:Addr) (m:Int) (l1 l2:List En) (e:En) (vl:V) (n kd:Str) (h0:Int) (cs:List (V × Int)) (_:vs=[.ref x,.str e.n,vl]) (_:bI K H C x m d dm (l1++e::l2)) (_:e.t.pl=.spans n h0 cs) (_:look e.t.hd n=some kd) (_:bM kd vl) (_:MvD K H dm e.n none) (_:cs.length+1<8) (_:inV vl (.non::cs.map (·.1))=false) (_:∀v vp H',KP K (λb=>b≠d) H H'->bI K H' C x m d dm (l1++{ e with v:=v,vp:=vp,t:={ e.t with pl:=.spans n h0 (sW vl h0 cs) } }::l2)->Q .non H')
def aSj (T:Txt w K mg){C:Addr}(c:Cls K C)(D:eZ K C "split" "Store.split" nH bXB)(n1:bU K C "placed")(l:OkM P w K mg base C 4 "cut_table" n6 (xN K C))(j:OkM P w K mg base C 1 "need_still" n6 (aC1 K C))(ag:Ok P w K mg base 4 "may_cut_at" ["table","low"] (aUo K))(sV:Ok P w K mg base 1 "cut_of" bQV (xO K))(sO:Ok P w K mg base 1 "with_cuts" bQX (yQ K)):OkM P w K mg base C 6 "split" bXB (aJ0 K C):=by
 refine OkM.ofV c D sY (by trivial) (λf ah A aa s H vs Q E hr h=>?_)
 obtain⟨x,d,dm,m,l1,l2,e,o,n,kd,i,g,rfl,r,p,hk,G,ad,l8,a7,qT⟩:=h;have hu:=mC hr;have nd:=sY.nd;refine⟨_,(aC (aY 3 (fY l (vv 0) (va1 (vv 1)))) (aC (cM (fY j (vv 0) (va1 (vv 1)))) (aC (bO (cL (cC (aV ag (aH (vv 3) (va1 (vv 2)))))) (aD dR) aW) (aC (aY 4 (aR aO (aR aO (vv 3) aB) aB)) (aC (aY 5 (aV sV (aH (vv 4) (va1 (vv 2))))) (aC (aY 6 (bB cY (vv 5) aB)) (aD (mO hu (cV (K:=K) (vv 0)) (vv 1) (aV sO (aH (vv 3) (va1 (bB lC (bB lC (cR mX (vv 4) dO (dF (vv 6))) (bY (va1 (bY (aH (vv 2) (va1 (aR aO (aR aO (vv 4) (vv 5)) aB))))))) (cR mX (vv 4) (dF (vv 6)) dO))))))))))))),?_⟩;obtain⟨dx,hx⟩:=r.at_;have he:e∈l1++e::l2:=bAA _ j5;have ok:=r.ok e he;have a3:=ok.pl;rw[p] at a3;obtain⟨a8,W,a5,ac,q⟩:=a3;have:W=kd:=by rw[hk] at a5;exact (bAM a5).symm
 subst this;have R:∀c∈g,bM W c.1:=λc hc=>(q.each c hc).1;refine⟨_,rfl,x,dx,_,rfl,hx,rfl,_,rfl,x,d,dm,m,_,e,n,i,g,rfl,r,he,p,λH1 V=>?_⟩;refine⟨_,rfl,x,dx,_,rfl,V _ _ hx,rfl,_,rfl,x,d,dm,m,_,e.n,rfl,r.same V,ad.same V,?_⟩;have ae:=(r.ens.tb e he).same V;refine⟨_,rfl,_,rfl,e.v,e.vh,e.vp,o,e.L,e.t,n,W,i,g,rfl,ae,p,hk,R,l8,G,a7,λH2 s2=>⟨_,rfl,?_⟩⟩;have U:=V.trans s2;refine cB ?_;obtain⟨a,ev,ha,h1,h2,h3⟩:=(r.ens.tb e he).same U;have a1:=h2;rw[p] at a1;obtain⟨b,vo,eb,hb,X⟩:=a1;obtain⟨cc,M,eo,y,u⟩:=id X;refine⟨_,rfl,a,_,1,_,ev,rfl,ha,at1 _ _ _,b,_,2,_,eb,rfl,hb,at2 _ _ _ _,?_⟩;refine⟨_,rfl,_,rfl,vo,o,W,i,g,rfl,X,q.few,G,R,?_⟩;refine⟨_,rfl,_,_,rfl,rfl,?_⟩;have hN:=wJ o g;have lu:=u.len;rw[j9] at lu;have B:dU o g 1 0<M.length:=by lia
 obtain⟨c0,a2,pc,O,a9⟩:=bV u (b8 B);have eA:c0.2=atH o i g:=by unfold atH;rw[j0,v5,a2];rfl
 have eI:((.non,i)::g).take (dU o g 1 0+1)++[(o,c0.2)]++((.non,i)::g).drop (dU o g 1 0+1)=(.non,i)::sW o i g:=by unfold sW;rw[eA,bFJ,List.drop_succ_cons,bCD];rfl
 generalize dU o g 1 0=Nn at hN B a2 eI O ⊢;have eN:((Nn:Nat):Int)+1=((Nn+1:Nat):Int):=rfl;refine⟨_,rfl,_,rfl,_,rfl,_,rfl,cc,M,eo,y,λp1 H3 s3 g3=>?_⟩;rw[eN,kY] at g3;refine⟨_,rfl,_,rfl,_,rfl,cc,M,_,M[Nn],eo,rfl,s3.aP y,cG (b8 B),pc,_,1,_,O,rfl,s3.aP a9,at1 _ _ _,by show 2<=sizeLine;decide,λt1 H4 _ s4 g4=>⟨by show 1<=sizeLine;decide,λt2 H5 _ s5 g5=>?_⟩⟩;have a0:=s4.trans s5;refine⟨p1,t2,_,_,rfl,rfl,a0.aP g3,SqT.of g5,small (by rw[bAC];show _+1<=1000;have:=q.few;lia),λp6 H6 s6 g6=>?_⟩;have S:=s3.trans (a0.trans s6);refine⟨_,rfl,_,rfl,_,rfl,cc,M,eo,S.aP y,λp7 H7 s7 g7=>?_⟩;rw[eN,lJ] at g7;refine⟨p6,p7,_,_,rfl,rfl,s7.aP g6,g7,small (by rw[v9,bAC,bBE];show _+1+_<=1000;have:=q.few;lia),λp8 H8 s8 g8=>?_⟩;have a6:=S.trans (s7.trans s8);have Y:=U.trans a6;have N:kJ K H8 (eQ K H8) (.ref p8) ((.non,i)::sW o i g):=⟨p8,_,rfl,g8,by rw[<-eI];have Z:bW (eQ K H8) M ((.non,i)::g):=u.imp λ_ _ z=>z.same a6;exact bW.app (bW.app (oK Z _) (.cons ⟨t1,rfl,SqT.of (s8 _ _ (s7 _ _ (s6 _ _ (s5 _ _ g4))))⟩ .nil)) (vA Z _)⟩
 refine⟨e.v,e.vh,e.vp,.ref p8,e.L,e.t,n,i,i,g,sW o i g,rfl,(r.ens.tb e he).same Y,p,N,λv' a4 H9 s9 hT=>?_⟩;have I:=Y.trans s9;have F:=r.same I;have ab:jR m { e.t with pl:=.spans n i (sW o i g) }:=⟨ok.hd,⟨a8,W,hk,ac,aQp q G l8 a7⟩,ok.few,ok.rows⟩;obtain⟨e',J⟩:∃e':En,e'={ e with v:=v',vp:=a4,t:={ e.t with pl:=.spans n i (sW o i g) } }:=⟨_,rfl⟩;obtain⟨k1,k2⟩:=F.put (e':=e') (by rw[J]) (by rw[J];exact hT) (by rw[J];exact ab);have af:=F.ens.few;refine⟨_,rfl,x,C,dx,_,_,rfl,I _ _ hx,c,n1,rfl,_,rfl,d,_,rfl,aA8.k (k:=Sum.inr e.n) F.ens.at_ (by rw[mU];exact fW (by lia)),?_⟩;have ek:putK (enK (l1++e::l2)) (Sum.inr e.n) v'=enK (l1++e'::l2):=by have:=aBs (e':=e') r.ens.nd (by rw[J]);rw[J] at this ⊢;exact this
 rw[ek];rw[J] at k1 k2 ⊢;exact qT v' a4 _ ((KP.same I).trans k1) k2
def bEf (ho:Int):List (V × Int)->Nat->List (V × Int)
 |[],_=>[]
 |c::cs,0=>(c.1,ho)::cs
 |c::cs,k+1=>c::bEf ho cs k
abbrev aEf (ho:Int)(k:Nat)(cs:List (V × Int)):List (V × Int):=bEf ho cs k
def wO:Nat->Int->Int->Int
 |0,ho,_=>ho
 |_+1,_,h0=>h0
def wU:Nat->Int->List (V × Int)->List (V × Int)
 |0,_,cs=>cs
 |k+1,ho,cs=>aEf ho k cs
def bE1 (num:Nat)(ho h0:Int)(cs:List (V × Int)):aEf ho num ((V.non,h0)::cs)=(V.non,wO num ho h0)::wU num ho cs:=by cases num <;> rfl
theorem aDc:∀k cs,(aEf ho k cs).map (·.1)=cs.map (·.1)
 |_,[]=>rfl
 |0,_::_=>rfl
 |k+1,c::cs=>by show c.1::(aEf ho k cs).map (·.1)=_;rw[aDc k cs];rfl
theorem aLk:∀{k:Nat} {cs:List (V × Int)},c∈aEf ho k cs->∃c0∈cs,c.1=c0.1/\(c.2=c0.2\/c.2=ho)
 |_,[],h=>by cases h
 |0,c0::cs,h=>by
  rcases List.mem_cons.mp h with rfl|h
  ·exact⟨c0,j5,rfl,.inr rfl⟩
  ·exact⟨c,j7 _ h,rfl,.inl rfl⟩
 |k+1,c0::cs,h=>by
  rcases List.mem_cons.mp h with rfl|h
  ·exact⟨c,j5,rfl,.inl rfl⟩
  ·obtain⟨b,a,d⟩:=aLk h;exact⟨b,j7 _ a,d⟩
def aPy (num:Nat)(h:oY kd m h0 cs)(l:0<=ho)(e:ho<m):oY kd m (wO num ho h0) (wU num ho cs):=by
 cases num with
 |zero=>exact⟨⟨l,e⟩,h.each,h.up,h.few⟩
 |succ k=>
  refine⟨h.first,λc j=>?_,?_,?_⟩
  ·obtain⟨i,a,d,e2⟩:=aLk (k:=k) j;obtain⟨b,f,g⟩:=h.each i a;rw[d];rcases e2 with e2|e2 <;> rw[e2]
   ·exact⟨b,f,g⟩
   ·exact⟨b,l,e⟩
  ·show ((aEf ho k cs).map (·.1)).Pairwise _;rw[aDc];exact h.up
  ·have:=congrArg List.length (aDc (ho:=ho) k cs);rw[j4,j4] at this;show (aEf ho k cs).length<=7;rw[this];exact h.few
def aRf {R:V->V × Int->Prop}{ho:Int}{u:V}{us:List V}{cs:List (V × Int)}(h:bW R us cs):∀{k:Nat},(∀c,cs[k]?=some c->R u (c.1,ho))->bW R (us.set k u) (aEf ho k cs):=by
 induction h with
 |nil=>intro k _;cases k <;> exact .nil
 |cons r t ih=>
  intro k a;cases k with
  |zero=>exact .cons (a _ rfl) t
  |succ k=>exact .cons r (ih λc b=>a c b)
inductive aFt (K:bFZ)(C:Addr)(vs:List V)(H:Hp)(Q:VK)(E_:XK):Prop
 |mk (x d dm:Addr) (m:Int) (l1 l2:List En) (e:En) (mq:Mv) (n:Str) (h0:Int) (cs:List (V × Int)) (f:Str->Option Mv) (j:Nat) (_:vs=[.ref x,.str e.n]) (_:bI K H C x m d dm (l1++e::l2)) (_:e.t.pl=.spans n h0 cs) (_:Mvs K H dm f j) (_:f e.n=some mq) (_:(∀q,mq.mark=some q->jA e.t.hd q)) (_:qG e.t n cs mq.num mq.mark=[]) (_:mq.num<=cs.length) (_:0<=mq.house) (_:mq.house<m) (_:∀v vp H',KP K (λb=>b≠d/\b≠dm) H H'->bI K H' C x m d dm (l1++{ e with v:=v,vp:=vp,t:={ e.t with pl:=.spans n (wO mq.num mq.house h0) (wU mq.num mq.house cs) } }::l2)->Mvs K H' dm (fset f e.n none) j->Q .non H')
def aM8 (T:Txt w K mg){C:Addr}(c:Cls K C)(D:eZ K C "settle" "Store.settle" lK n6)(n1:bU K C "placed")(n3:bU K C "moves")(o:OkM P w K mg base C 4 "cut_table" n6 (xN K C))(p:OkM P w K mg base C 1 "move_of" n6 (zG K C))(i:OkM P w K mg base C 4 "rows_to_come" n6 (aOr K C))(sO:Ok P w K mg base 1 "with_cuts" bQX (yQ K)):OkM P w K mg base C 6 "settle" n6 (aFt K C):=by
 refine OkM.ofV c D qL (by trivial) (λf ay A au s H vs Q E hr h=>?_)
 obtain⟨x,d,dm,m,l1,l2,e,mq,n,S,I,fm,j,rfl,y,r,a4,ae,ar,hW,n0,b0,b1,q⟩:=h;have hu:=mC hr;have nd:=qL.nd;refine⟨_,(aC (aY 2 (fY o (vv 0) (va1 (vv 1)))) (aC (aY 3 (fY p (vv 0) (va1 (vv 1)))) (aC (bO (aK6 (fY i (vv 0) (va1 (vv 1)))) (aD dR) aW) (aC (aY 4 (aR aO (vv 3) aB)) (aC (aY 5 (cI pJ (by rfl) T.yR tK (va1 (aR aO (aR aO (vv 2) aB) aB)))) (aC (iD (bY (aH (aR (bL (K:=K)) (aR bF (vv 5) (vv 4)) aB) (va1 (aR aO (vv 3) aB)))) (pI (vv 5) (vv 4) set_list)) (aC (mO hu (cV (K:=K) (vv 0)) (vv 1) (aV sO (aH (vv 2) (va1 (cI mV (by rfl) T.iH fU (va1 (vv 5))))))) (aD (cM (rZ PySem.F.plainAttrs_dict PySem.F.slot_dict_pop PySem.F.type_dict_pop aYb (cV (K:=K) (vv 0)) (va1 (vv 1)))))))))))),?_⟩;obtain⟨dx,hx⟩:=y.at_;have he:e∈l1++e::l2:=bAA _ j5;have ok:=y.ok e he;have ab:=ok.pl;rw[r] at ab;obtain⟨as,k',ap,an,aq⟩:=ab;refine⟨_,rfl,x,dx,_,rfl,hx,rfl,_,rfl,x,d,dm,m,_,e,n,S,I,rfl,y,he,r,λH1 V=>?_⟩;have a1:=(a4.d e.n ae).same V;obtain⟨M,v,gm,hk,hv⟩:=id a1;have hk:fQ M (Sum.inr e.n)=some v:=hk;refine⟨_,rfl,x,dx,_,rfl,V _ _ hx,rfl,_,rfl,x,d,dm,m,_,e.n,v,M,rfl,y.same V,gm,hk,?_⟩;refine⟨_,rfl,x,dx,_,rfl,V _ _ hx,rfl,_,rfl,x,d,dm,m,_,e,mq,n,S,I,rfl,y.same V,he,a1,r,ar,λW2 H2 ax s2 al=>?_⟩;obtain⟨ag,g2,a6⟩:=al;have e2:ag=[]:=bAQ (a6.len.trans (congrArg List.length hW));subst e2;refine⟨_,.inl ⟨_,SqL.of g2,rfl⟩,dI rfl ?_⟩;have a9:=V.trans s2;obtain⟨num,g,av⟩:=mq;have n0:num<=I.length:=n0;obtain⟨a0,vm,rfl,Y,hm⟩:=hv;obtain⟨a,ev,ha,h1,h2,h3⟩:=(y.ens.tb e he).same a9;rw[r] at h2;obtain⟨b,vo,eb,hb,⟨cc,J,rfl,aj,N⟩⟩:=h2;have lu:=N.len;rw[j9] at lu;have a8:num<J.length:=by lia
 obtain⟨c0,ao,pc,af,ah⟩:=bV N (b8 a8);refine⟨_,rfl,a0,_,0,_,rfl,rfl,s2.aP Y,at0 _ _,?_⟩;refine⟨_,rfl,a,_,1,_,ev,rfl,ha,at1 _ _ _,b,_,2,_,eb,rfl,hb,at2 _ _ _ _,cc,_,rfl,.inr aj,λl H3 hl s3 g3=>?_⟩;refine⟨_,rfl,_,rfl,l,_,_,J[num],rfl,rfl,SqL.of g3,cG (b8 a8),pc,_,0,_,af,rfl,s3.aP ah,at0 _ _,_,rfl,a0,_,1,_,rfl,rfl,(s2.trans s3).aP Y,at1 _ _ _,by show 2<=sizeLine;decide,λR H4 _ s4 g4=>?_⟩;have Z:=s4 _ _ g3;refine⟨_,rfl,_,rfl,l,_,_,num,rfl,rfl,Z,by show ixN J.length (num:Int)=some num;unfold ixN;rw[if_pos (by lia),if_pos (by lia)];rfl,?_⟩;have a7:Same H2 (_root_.L2.upd H4 l (.lst (J.set num (.ref R)))):=gJ hl (s3.trans s4);have g5:_root_.L2.upd H4 l (.lst (J.set num (.ref R))) l=some (.lst (J.set num (.ref R))):=aG;have X:SqT K (_root_.L2.upd H4 l (.lst (J.set num (.ref R)))) R [c0.1,.int g]:=SqT.jO Z (SqT.of g4);generalize _root_.L2.upd H4 l (.lst (J.set num (.ref R)))=H5 at a7 g5 X ⊢;refine⟨_,rfl,_,rfl,l,_,rfl,SqL.of g5,λp6 H6 _ s6 g6=>?_⟩;have O:=a7.trans s6;have a5:=a9.trans O;have a2:kJ K H6 (eQ K H6) (.ref p6) ((.non,wO num g S)::wU num g I):=⟨p6,_,rfl,SqT.of g6,by rw[<-bE1];refine aRf (N.imp λ_ _ z=>z.same O) λc1 a3=>?_;rw[ao] at a3;cases a3;exact⟨R,rfl,s6.aP X⟩⟩
 refine⟨e.v,e.vh,e.vp,.ref p6,e.L,e.t,n,S,wO num g S,I,wU num g I,rfl,(y.ens.tb e he).same a5,r,a2,λv' ac H7 s7 hT=>?_⟩;have G:=a5.trans s7;have U:=y.same G;have am:jR m { e.t with pl:=.spans n (wO num g S) (wU num g I) }:=⟨ok.hd,⟨as,k',ap,an,aPy num aq b0 b1⟩,ok.few,ok.rows⟩;obtain⟨e',W⟩:∃e':En,e'={ e with v:=v',vp:=ac,t:={ e.t with pl:=.spans n (wO num g S) (wU num g I) } }:=⟨_,rfl⟩;obtain⟨k1,k2⟩:=U.put (e':=e') (by rw[W]) (by rw[W];exact hT) (by rw[W];exact am);have aw:=U.ens.few;refine⟨_,rfl,x,C,dx,_,_,rfl,G _ _ hx,c,n1,rfl,_,rfl,d,_,rfl,aA8.k (k:=Sum.inr e.n) U.ens.at_ (by rw[mU];exact fW (by lia)),?_⟩;have ek:putK (enK (l1++e::l2)) (Sum.inr e.n) v'=enK (l1++e'::l2):=by have:=aBs (e':=e') y.ens.nd (by rw[W]);rw[W] at this ⊢;exact this
 rw[ek];have ad:=s2.trans (O.trans s7);have B:=k1.st _ _ (Ne.symm y.ne) (ad _ _ gm);have aa:Mvs K _ dm fm j:=(a4.same G).kp (λu=>k1.st _ _ (Ne.symm y.ne)) k1.tk;generalize _root_.L2.upd H7 d (.dK (enK (l1++e'::l2)))=H8 at k1 k2 B aa ⊢;obtain⟨ak,ai⟩:=k2.at_;obtain⟨k3,k4⟩:=k2.mv (kvs':=mD M (Sum.inr e.n)) B;refine⟨_,rfl,x,C,ak,_,_,rfl,ai,c,n3,rfl,.inr (.inr (.inl ⟨rfl,.inl ⟨_,B⟩⟩)),_,rfl,dm,_,Sum.inr e.n,_,rfl,rfl,B,hk,?_⟩;rw[W] at k4;exact q v' ac _ (((KP.same G).trans (k1.mono λb z=>z.1)).trans (k3.mono λb z=>z.2)) k4 (aa.drop B)
def aQo (i j:Nat)(k:(y,NameKind.free)∈scope.names)(g:(z,NameKind.free)∈scope.names)(hi:X.N[i]?=some y)(d:X.N[j]?=some z)(f:σ[i]?=some (some u))(h:σ[j]?=some (some v))(c:Vis X.env.scope y)(e:Vis X.env.scope z):Cap X scope [x,y,z] σ [none,some u,some v]:=
 ⟨rfl,λn q r a b=>by
  match n,a,b with
  |0,_,b=>cases b
  |1,a,b=>cases a;cases b;exact⟨k,i,hi,f,c⟩
  |2,a,b=>cases a;cases b;exact⟨g,j,d,h,e⟩
  |n+3,a,_=>cases a⟩
def bN.fx (f:Fx a H H')(h:eV H a)(i:D≠a)(r:bN K H D rs):bN K H' D rs:=by obtain⟨d,c,g⟩:=r;exact⟨d,f.same _ _ i c,g.imp λ_ _ ⟨p,e,b⟩=>⟨p,e,f.aP h b⟩⟩
def aT8 (e:((List.range n).map λi:Nat=>V.int (0+(i:Int)))[i]?=some x):i<n/\x=.int (0+(i:Int)):=by
 have a:i<n:=by have:=(List.getElem?_eq_some_iff.mp e).1;rw[j4,bAK] at this;exact this
 rw[v5,bCR a] at e;exact⟨a,(bAM e).symm⟩
def aLz (b:L2.St)(a:Cap X scope N σ b)(h:ta σ H λvs H1=>∃j:Int,vs=[.int j]/\-(2 ^ 62)<=j/\j<2 ^ 62/\oG (Itr 0 j.toNat) H1 b g tt te Q):jB X scope N (aVu ta) g tt te σ H Q:=⟨b,a,h⟩
theorem aP3 {K:bFZ}{H:Hp}{Pr:List V->Prop}:∀{ys:List V},(∀y∈ys,∃r,cP K H y r/\Pr r)->∃rs,bW (cP K H) ys rs/\∀r∈rs,Pr r
 |[],_=>⟨[],.nil,λr h=>by cases h⟩
 |y::ys,h=>by
  obtain⟨r,c,e⟩:=h y j5;obtain⟨rs,b,d⟩:=aP3 λz a=>h z (j7 _ a);refine⟨r::rs,.cons c b,λx hx=>?_⟩;rcases List.mem_cons.mp hx with rfl|hx
  ·exact e
  ·exact d x hx
theorem aP6:∀{ys:List V},(∀y∈ys,bM k y)->∃ks:List Key,ys=ks.map kV/\∀x∈ks,bM k (kV x)
 |[],_=>⟨[],rfl,λx h=>by cases h⟩
 |y::ys,h=>by
  obtain⟨ks,e,b⟩:=aP6 λz hz=>h z (j7 _ hz);have a:=h y j5;obtain⟨x,rfl⟩:∃x,y=kV x:=by
   cases a with
   |num=>exact⟨.inl _,rfl⟩
   |wrd _ _=>exact⟨.inr _,rfl⟩
  refine⟨x::ks,by rw[e];rfl,λz hz=>?_⟩;rcases List.mem_cons.mp hz with rfl|hz
  ·exact a
  ·exact b z hz
def aQ8 {k:Str}{ks:List Key}(h:∀x∈ks,bM k (kV x)):(∀x∈ks,∃n,x=Sum.inl n)\/∀x∈ks,∃n,x=Sum.inr n:=by
 by_cases d:k = "number"
 ·refine .inl λx b=>?_;cases x with
  |inl n=>exact⟨n,rfl⟩
  |inr n=>
   have:=h _ b;rw[d] at this;generalize c:kV (Sum.inr n)=v at this;generalize a:("number":Str)=k0 at this;cases this with
   |num=>cases c
   |wrd _ _=>exact absurd a (by decide)
 ·refine .inr λx b=>?_;cases x with
  |inr n=>exact⟨n,rfl⟩
  |inl n=>
   have:=h _ b;generalize c:kV (Sum.inl n)=v at this;cases this with
   |num=>exact absurd rfl d
   |wrd _ _=>cases c
def bB8 (h:ltK a b):vlt (kV a) (kV b)=true:=by cases a <;> cases b <;> first|exact m9 h|exact absurd h id
inductive aAs (K:bFZ)(vs:List V)(H:Hp)(Q:VK)(E_:XK):Prop
 |mk (a:Addr) (vh:V) (hd:Hdr) (m:Int) (_:vs=[.ref a,vh,.int m]) (_:eV H a) (_:mF K H vh hd) (_:aOq hd) (_:1<=m) (_:m<=6) (_:∀vp H' pl,Fx a H H'->jZ K H' vp pl->aS9 hd m pl->Q vp H')
def aBk (T:Txt w K mg)(aN:Ok P w K mg base 1 "_law_next" n8 iY)(iJ:Ok P w K mg base 3 "_law_value" bQM aBr):Ok P w K mg base 4 "_law_placing" bQF (aAs K):=by
 refine Ok.ofV T.aB4 kE (by trivial) (λf bd A b6 s H vs Q E hr h=>?_)
 obtain⟨a,vh,hd,m,rfl,hs,hI,M,m1,m6,q⟩:=h;have l8:=M.1.2.2;have nd:=kE.nd;refine⟨_,(aC (aY 3 (aV aN (aH (vv 0) (va1 aB)))) (aC (bO (cX dX (vv 3) aB) (aD (aM (bY (va1 bH)))) aW) (aC (iD (aR aO (vv 1) (aV aN (aH (vv 0) (va1 (aK aX (by rfl) T.dW cQ (va1 (vv 1))))))) (uZ rfl (bC (cZ 4) (bC (cZ 5) fP)))) (aC (bO (cX dX (vv 3) aB) (aD (aM (bY (aH bH (va1 (vv 4)))))) aW) (aC (aBx (i0:=6) kE.nd rfl (by trivial) (N:=["_law_k","_law_state","_law_kind"]) ck (eU (aF lN)) rfl (gA (by rfl) T.jK (va1 (aV aN (aH (vv 0) (va1 aB))))) (λcl s' n fp=>⟨(fZ 0),fH,(aV iJ (aH (vv 1) (va1 (vv 2))))⟩)) (aC (aY 7 (dY (va1 (bY (aH jV (va1 (aV aN (aH (vv 0) (va1 (vv 2)))))))))) (aC (gG PassesOwn.never rfl (fM (aK (aGu rfl) (by rfl) T.eO dG (va1 (cI (aRe rfl) (by rfl) T.aPm aIg (va1 (vv 6)))))) (cZ 8) (aD (cM (rZ PySem.F.plainAttrs_list PySem.F.slot_list_append PySem.F.type_list_append pO (vv 7) (va1 (bY (aH (vv 8) (va1 (aV aN (aH (vv 0) (va1 (vv 2)))))))))))) (aD (aM (bY (aH bH (aH (vv 4) (va1 (cI mV (by rfl) T.iH fU (va1 (vv 7)))))))))))))))),?_⟩;refine⟨_,rfl,a,3,rfl,hs,by decide,λY H1 f1 w0 w1=>?_⟩;refine⟨_,rfl,rfl,_,rfl,?_⟩;cases decide (V.int Y=V.int 0) with
 |true=>exact fB ⟨by show 1<=sizeLine;decide,λt H2 _ s2 g2=>q _ H2 .copies (f1.sm s2) ⟨t,rfl,SqT.of g2⟩ trivial⟩
 |false=>
 refine cB ?_;have am:=hI.tk (f1.tk (K:=K) hs);obtain⟨b,us,rfl,hb,hu⟩:=id am;have lu:=hu.len;have l1:=M.1.2.1;refine⟨_,rfl,_,rfl,_,rfl,b,us,rfl,.inr hb,a,_,rfl,f1.st,⟨by lia,by lia⟩,λz H2 f2 z0 z1=>?_⟩;have a5:=f1.trans f2;obtain⟨zi,rfl⟩:∃zi:Nat,z=zi:=⟨z.toNat,by lia⟩;have hz:zi<us.length:=by lia
 obtain⟨c,hc,pc,aq,ar⟩:=bV hu (b8 hz);refine⟨b,us,_,.ref pc,rfl,rfl,f2.aP f1.st hb,cG (by rw[b8 hz,aq]),?_⟩;have a8:=v4 hc;have lk:=aTn M.1.1 a8;obtain⟨a9,ae⟩:=M.2 c a8;refine⟨pc,_,rfl,f2.aP f1.st ar,rfl,_,_,rfl,_,_,rfl,rfl,?_⟩;refine⟨_,rfl,rfl,_,rfl,?_⟩;cases decide (V.int Y=V.int 1) with
 |true=>exact fB ⟨_,rfl,by show 2<=sizeLine;decide,λt H3 _ s3 g3=>q _ H3 (.keys c.1) (a5.sm s3) ⟨t,rfl,SqT.of g3⟩ ⟨a9,c.2,lk⟩⟩
 |false=>
 refine cB ?_;dsimp only[mJ,aBi,vB];refine aLz [none,some (.ref a),some (.str c.2)] (aQo 0 5 (by trivial) (by trivial) rfl rfl rfl rfl (by trivial) (by trivial)) ?_;refine⟨_,rfl,a,5,rfl,f2.st,by decide,λz H5 f5 z0 z1=>?_⟩;refine⟨z,rfl,by lia,by lia,?_⟩;refine aJn (Fx a) (aU8 f5.st) ((List.range z.toNat).map λi:Nat=>V.int (0+(i:Int))) (λ_=>true) (λ_ _ y=>bM c.2 y) (λ_ _ h=>h) (λ_ _ _ h=>h) (λi σ=>∃x,σ=[some x,some (.ref a),some (.str c.2)]) (fun σ=>∃l,σ=[l,some (.ref a),some (.str c.2)]) ⟨none,rfl⟩ (small (by rw[j4,bAK];lia)) (Itr 0 z.toNat) (λn i x _ ex=>?_) (λn _=>?_) (λi x σ' n Q' ex ps f' r=>?_) (λi x σ2 ex at2 n R f' r=>r n (Fx.refl f'.st)) (λi x σ2 ex at2 _ n R f' r=>?_) λL H6 ys f6 fL gL a7=>?_
 ·obtain⟨hi,rfl⟩:=aT8 ex;exact⟨hi,λy H2 hy=>hy⟩
 ·show z.toNat<=_;rw[j4,bAK];exact d9 _
 ·obtain⟨l,rfl⟩:=ps;exact r _ ⟨some x,rfl⟩ ⟨x,rfl⟩
 ·obtain⟨x',rfl⟩:=at2;exact⟨_,rfl,_,rfl,a,c.2,rfl,f'.st,ae,λv H2 f2 hv=>r v H2 f2 hv⟩
 rw[qR,j4,bAK] at a7;obtain⟨ly,hy⟩:=pA a7;have b4:=a5.trans (f5.trans f6);obtain⟨ks,rfl,ap⟩:=aP6 (k:=c.2) (ys:=ys) λy hm=>by obtain⟨i,hi⟩:=List.mem_iff_getElem?.mp hm;exact hy i y hi
 rw[j4] at ly;have au:L≠a:=f5.st.ne fL;refine⟨_,rfl,_,rfl,a,m,rfl,f6.st,⟨by lia,by lia⟩,λh0 H7 f7 ak as=>?_⟩;refine⟨by show 2<=sizeLine;decide,λt1 H8 _ s8 g8=>⟨by show 1<=sizeLine;decide,λC H9 hC s9 g9=>?_⟩⟩;have ah:=b4.trans f7;have ad:=(ah.sm s8).sm s9;have b5:=s9 _ _ (s8 _ _ (f7.same _ _ au gL));refine⟨_,rfl,L,ks,rfl,SqL.of b5,by lia,λD bb kl be o gD a1=>?_⟩;have a4:∀x∈kl,bM c.2 (kV x):=λx hx=>ap x ((a1.2.1 x).mp hx);have bf:=a1.2.2;refine⟨D,kl,rfl,gD,by lia,a1.1,aQ8 a4,λB al O a0 a3 gB S pw=>?_⟩;have bc:=S.length_eq;have aj:H C=none:=ah.free (none_of s8 hC);have Z:C≠a:=hs.ne aj;have ag:=(ad.sm o).sm a3;have ab:=a3 _ _ (o _ _ g9);have an:H B=none:=ad.free (none_of o a0);have ao:B≠a:=hs.ne an;have az:B≠C:=λz=>by rw[z,o _ _ g9] at a0;cases a0
 have b2:SqT K al t1 [.non,.int h0]:=a3.aP (o.aP (s9.aP (SqT.of g8)));refine⟨B,rfl,⟨_,SqL.of gB⟩,aJv (xs:=O.map kV) (λi σ n=>Fx a H n/\n B=some (.lst (O.map kV))/\∃j G l,n C=some (.lst j)/\bW (eQ K n) j ((.non,h0)::G)/\G.map (·.1)=(O.take i).map kV/\(∀x∈G,0<=x.2/\x.2<m)/\σ=[some (.ref a),some (.ref b),some (.int m),some (.int Y),some (.str c.1),some (.str c.2),some (.ref L),some (.ref C),l]) ⟨ag,gB,_,[],none,ab,.cons ⟨t1,rfl,b2⟩ .nil,rfl,λx hx=>(by cases hx),rfl⟩ (λi σ n _ p=>SqL.of p.2.1) (λi x σ n ex p=>?_) fun σ n p=>?_⟩
 ·obtain⟨fx,a6,j,G,l,u,J,g,a2,rfl⟩:=p;rw[v5] at ex;obtain⟨I,ac,rfl⟩:=Option.map_eq_some_iff.mp ex;have aw:=J.len;have b3:G.length<=4:=by have:=congrArg List.length g;rw[j4,j4,bAC] at this;lia
  rw[j9] at aw;refine⟨_,rfl,.inl ⟨rfl,_,SqL.of u⟩,_,rfl,_,rfl,_,rfl,a,m,rfl,fx.st,⟨by lia,by lia⟩,λhh ba d av b9=>?_⟩;refine⟨by show 2<=sizeLine;decide,λt2 ai U e X=>?_⟩;have W:=e _ _ (d.same _ _ Z u);have af:=e _ _ (d.same _ _ ao a6);have ay:t2≠C:=λz=>by rw[z,d.same _ _ Z u] at U;cases U
  refine⟨C,_,_,rfl,rfl,W,nZ (by lia),?_⟩;refine⟨((fx.trans d).sm e).upd aj Z,by rw[aQ az];exact af,j++[.ref t2],G++[(kV I,hh)],some (kV I),aG,?_,?_,λx hx=>?_,rfl⟩
  ·rw[<-List.cons_append];exact (J.imp λ_ _ ⟨p',ep,hp⟩=>⟨p',ep,(e.aP (d.aP fx.st hp)).jO W⟩).app (.cons ⟨t2,rfl,SqT.of (by rw[aQ ay];exact X)⟩ .nil)
  ·rw[bAN,g,bBH,ac,bAN];rfl
  ·rcases List.mem_append.mp hx with hx|hx
   ·exact a2 x hx
   ·rw[bCM] at hx;subst hx;exact⟨av,b9⟩
 ·obtain⟨fx,a6,j,G,l,u,J,g,a2,rfl⟩:=p;rw[j4,bCA] at g;have b3:G.length=O.length:=by have:=congrArg List.length g;rw[j4,j4] at this;exact this
  refine⟨_,rfl,_,rfl,C,j,rfl,SqL.of u,λt3 ba _ aa ax=>⟨by show 3<=sizeLine;decide,λt4 ai _ e X=>?_⟩⟩;refine q _ ai (.spans c.1 h0 G) ((fx.sm aa).sm e) ⟨t4,.ref t3,rfl,SqT.of X,t3,j,rfl,e.aP (SqT.of ax),J.imp λ_ _ z=>z.same (aa.trans e)⟩ ⟨a9,c.2,lk,ae,⟨ak,as⟩,λx hx=>⟨?_,a2 x hx⟩,?_,by lia⟩
  ·have:x.1∈G.map (·.1):=bAT hx;rw[g] at this;obtain⟨I,b1,b0⟩:=List.mem_map.mp this;rw[<-b0];exact a4 I (S.mem_iff.mp b1)
  ·rw[g];exact List.pairwise_map.mpr (pw.imp λh=>bB8 h)
def gY.fx (f:Fx a H H')(h:eV H a)(hd:d≠a)(m:∀e∈es,e.L≠a)(b:gY K H d es):gY K H' d es:=by refine⟨f.same _ _ hd b.at_,b.nd,b.few,b.nm,λe c=>?_⟩;obtain⟨t,i,j,k,l,g⟩:=b.tb e c;exact⟨t,i,f.aP h j,k.tk (f.tk h),l.tk (f.tk h),g.fx f h (m e c)⟩
def xG {κ:Type}[DecidableEq κ]{kvs:List (κ × V)}{k:κ}{v:V}(h:∀kv∈kvs,kv.1≠k):putK kvs k v=kvs++[(k,v)]:=by unfold putK;rw[if_neg];intro z;obtain⟨kv,a,b⟩:=List.any_eq_true.mp z;exact h kv a (of_decide_eq_true b)
inductive aMo (K:bFZ)(vs:List V)(H:Hp)(Q:VK)(E_:XK):Prop
 |mk (a N:Addr) (ns:List Str) (_:vs=[.ref a,.ref N,.int 5]) (_:eV H a) (_:H N=some (.lst (ns.map V.str))) (_:N≠a) (_:xH ns) (_:∀t d (m:Int) es H',Fx a H H'->SqT K H' t [.int m,.ref d]->H d=none->1<=m->m<=4->gY K H' d es->(∀e∈es,jR m e.t/\e.t.rows.length<=5/\H e.L=none)->2<=es.length->es.length<=3->Q (.ref t) H')
def aG0 (T:Txt w K mg)(aN:Ok P w K mg base 1 "_law_next" n8 iY)(aj:Ok P w K mg base 2 "_law_head" bQO (aLg K))(ak:Ok P w K mg base 4 "_law_placing" bQF (aAs K))(vU:Ok P w K mg base 4 "_law_row" bQC (aGo K)):Ok P w K mg base 5 "_law_town" bQH (aMo K):=by
 refine Ok.ofV T.aMe pD (by trivial) (λf am A ae s H vs Q E hr h=>?_)
 obtain⟨a,N,g,rfl,hs,hN,nN,hn,q⟩:=h;have hu:=mC hr;have nd:=pD.nd;refine⟨_,(aC (aY 3 (bB cY aB (aV aN (aH (vv 0) (va1 aB))))) (aC (aY 4 aCv) (aC (gG PassesOwn.never rfl (gA (by rfl) T.jK (va1 (bB cY aB (aV aN (aH (vv 0) (va1 aB)))))) (cZ 5) (aC (aY 6 (aV aj (aH (vv 0) (va1 (vv 1))))) (aC (aY 7 (aV ak (aH (vv 0) (aH (vv 6) (va1 (vv 3)))))) (aC (aBx (i0:=8) pD.nd rfl (by trivial) (N:=["_law_j","_law_state","_law_head_here"]) ck (eU (aF sH)) rfl (gA (by rfl) T.jK (va1 (aV aN (aH (vv 0) (va1 (bB cY (vv 2) aB)))))) (λcl s' o fp=>⟨(fZ 0),fH,(aV vU (aH (vv 1) (va1 (vv 2))))⟩)) (aD (mO hu (vv 4) (aR bF (vv 1) (vv 5)) (bY (aH (vv 6) (aH (vv 7) (va1 (vv 8))))))))))) (aD (aM (bY (aH (vv 3) (va1 (vv 4))))))))),?_⟩;have al:=hn.1;refine⟨_,rfl,a,4,rfl,hs,by decide,λz H1 f1 z0 z1=>⟨_,_,rfl,rfl,λd H2 af s2 g2=>?_⟩⟩;have X:=f1.sm s2;have u:H d=none:=f1.free af;have U:d≠a:=hs.ne u;refine⟨_,rfl,a,2,rfl,X.st,by decide,λz2 H3 f3 ai ah=>⟨_,_,rfl,rfl,?_⟩⟩;have a7:=X.trans f3;have g3:=f3.same _ _ U g2;have m1:1<=1+z:=by lia
 have m6:1+z<=6:=by lia
 refine⟨2+z2,rfl,by lia,by lia,?_⟩;obtain⟨n,en⟩:∃n:Nat,(2+z2).toNat=n:=⟨_,rfl⟩;rw[en];refine iB (n:=n) (λi σ o=>Fx a H o/\∃c l5 l6 l7 l8,gY K o d c/\(∀e∈c,jR (1+z) e.t/\e.t.rows.length<=5/\H e.L=none)/\c.map (·.n)=g.take i/\σ=[some (.ref a),some (.ref N),some (.int 5),some (.int (1+z)),some (.ref d),l5,l6,l7,l8]) ⟨a7,[],none,none,none,none,⟨g3,List.nodup_nil,bAE _,λe h=>(by cases h),λe h=>(by cases h)⟩,λe h=>(by cases h),rfl,rfl⟩ (λi σ o hi p=>?_) fun σ o p=>?_
 ·obtain⟨S,c,l5,l6,l7,l8,hE,D,j,rfl⟩:=p;have ad:=S.same _ _ nN hN;refine⟨_,rfl,_,rfl,a,N,g,rfl,S.st,ad,nN,hn,λY H5 hd f5 hI M _=>?_⟩;refine⟨_,rfl,_,rfl,_,rfl,a,Y,hd,1+z,rfl,f5.st,hI,M,m1,m6,λvp H6 pl I ac a1=>?_⟩;have a0:=hI.tk (I.tk (K:=K) f5.st);dsimp only[bR,aBi,vB];refine aLz [none,some (.ref a),some Y] (aQo 0 6 (by trivial) (by trivial) rfl rfl rfl rfl (by trivial) (by trivial)) ?_;refine⟨_,rfl,_,rfl,_,_,rfl,rfl,a,_,rfl,I.st,(by show (0:Int)<5+1/\(5:Int)+1<2 ^ 64;decide),λy H7 f7 y0 y1=>?_⟩;have y1:y<5+1:=y1;refine⟨y,rfl,by lia,by lia,?_⟩;have ab:=a0.tk (f7.tk (K:=K) I.st);refine aJn (Fx a) (aU8 f7.st) ((List.range y.toNat).map λi:Nat=>V.int (0+(i:Int))) (λ_=>true) (λ_ o y=>∃r,cP K o y r/\jA hd r) (λf1 X ⟨r,⟨p,e,hp⟩,h⟩=>⟨r,⟨p,e,X.aP f1.st hp⟩,h⟩) (λ_ _ gD ⟨r,⟨p,e,hp⟩,h⟩=>⟨r,⟨p,e,SqT.jO gD hp⟩,h⟩) (λi σ=>∃x,σ=[some x,some (.ref a),some Y]) (fun σ=>∃l,σ=[l,some (.ref a),some Y]) ⟨none,rfl⟩ (small (by rw[j4,bAK];lia)) (Itr 0 y.toNat) (λo i x _ ex=>?_) (λo _=>?_) (λi x σ' o Q' ex ps f' r=>?_) (λi x σ2 ex at2 o R f' r=>r o (Fx.refl f'.st)) (λi x σ2 ex at2 _ o R f' r=>?_) λL H8 ys f8 fL gL a2=>?_
  ·obtain⟨hi,rfl⟩:=aT8 ex;exact⟨hi,λy H2 hy=>hy⟩
  ·show y.toNat<=_;rw[j4,bAK];exact d9 _
  ·obtain⟨l,rfl⟩:=ps;exact r _ ⟨some x,rfl⟩ ⟨x,rfl⟩
  ·obtain⟨x',rfl⟩:=at2;exact⟨_,rfl,_,rfl,a,Y,hd,rfl,f'.st,ab.tk (f'.tk f7.st),M,λt H2 r' X g2 hk=>r _ H2 X ⟨r',⟨t,rfl,SqT.of g2⟩,hk⟩⟩
  rw[qR,j4,bAK] at a2;obtain⟨ly,hy⟩:=pA a2;obtain⟨B,G,a6⟩:=aP3 (ys:=ys) λy hm=>by obtain⟨i,hi⟩:=List.mem_iff_getElem?.mp hm;exact hy i y hi
  have ag:=G.len;have F:=f7.trans f8;have Z:=(S.trans f5).trans (I.trans F);have a4:H L=none:=(S.trans f5).free (I.free (f7.free fL));refine⟨_,rfl,_,rfl,_,rfl,by show 3<=sizeLine;decide,λt H9 an O g9=>?_⟩;have J:i<g.length:=by lia
  have a5:=O _ _ (Z.same _ _ nN hN);have aa:gY K H8 d c:=hE.fx ((f5.trans I).trans F) S.st U λe he=>hs.ne (D e he).2.2;have C:=aa.same O;have lE:c.length=i:=by have:=congrArg List.length j;rw[j4,bAC] at this;lia
  refine⟨_,rfl,_,rfl,_,rfl,N,_,_,.str g[i],rfl,rfl,SqL.of a5,?_,d,_,rfl,aA8.k (k:=Sum.inr g[i]) C.at_ (by rw[mU];exact fW (by lia)),?_⟩
  ·rw[Int.zero_add];exact cG (by rw[v5,b8 J];rfl)
  have tk:g.take (i+1)=g.take i++[g[i]]:=by rw[bBH,b8 J];rfl
  have W:(g.take (i+1)).Nodup:=hn.2.2.sublist (bEN _ _);have a9:∀e∈c,e.n≠g[i]:=λe he z=>by rw[tk,<-j] at W;exact (List.nodup_append.mp W).2.2 _ (bAT he) _ j5 z
  obtain⟨b,m⟩:∃b:En,(⟨g[i],.ref t,Y,vp,L,⟨hd,pl,B⟩⟩:En)=b:=⟨_,rfl⟩;have ek:putK (enK c) (Sum.inr g[i]) (.ref t)=enK (c++[b]):=by
   rw[xG λkv a3=>by unfold enK at a3;obtain⟨e,he,rfl⟩:=List.mem_map.mp a3;exact λz=>a9 e he (Sum.inr.inj z)]
   unfold enK;rw[bAN,<-m];rfl
  rw[ek];have nz:dH H9 d:=dH.dK C.at_;have bz:But d H9 (L2.upd H9 d (.dK (enK (c++[b])))):=But.upd;have a8:jU K H9 b.v b.vh b.vp b.L b.t:=by rw[<-m];exact⟨t,rfl,SqT.of g9,(a0.tk (F.tk I.st)).same O,(ac.tk (F.tk I.st)).same O,ys,O _ _ gL,G.imp λ_ _ z=>z.same O⟩
  refine⟨(Z.sm O).upd u U,c++[b],_,_,_,_,⟨aG,?_,?_,λe he=>?_,λe he=>?_⟩,λe he=>?_,?_,rfl⟩
  ·rw[bAN,j,<-m];show (g.take i++[g[i]]).Nodup;rw[<-tk];exact W
  ·rw[v9];show c.length+1<=60;lia
  ·rcases List.mem_append.mp he with he|he
   ·exact C.nm e he
   ·rw[bCM] at he;rw[he,<-m];exact hn.2.1 _ (bAO J)
  ·rcases List.mem_append.mp he with he|he
   ·exact bz.tb nz (C.tb e he)
   ·rw[bCM] at he;rw[he];exact bz.tb nz a8
  ·rcases List.mem_append.mp he with he|he
   ·exact D e he
   ·rw[bCM] at he;rw[he,<-m];exact⟨⟨M,a1,by show B.length<=60;lia,a6⟩,by show B.length<=5;lia,a4⟩
  ·rw[bAN,j,tk,<-m];rfl
 ·obtain⟨S,c,l5,l6,l7,l8,hE,D,j,rfl⟩:=p;have lE:c.length=n:=by have:=congrArg List.length j;rw[j4,bAC] at this;lia
  exact⟨_,rfl,_,rfl,by show 2<=sizeLine;decide,λt H5 _ s5 g5=>q t d (1+z) c H5 (S.sm s5) (SqT.of g5) u m1 (by lia) (hE.same s5) D (by lia) (by lia)⟩
end
end My
namespace L2
open PySem PySem.Spec PyProof.Rows
def bAf (K:bFZ)(n:Nat)(t:TGs):TG:=λv σ H Q=>∃a xs,v=.ref a/\SqL K H a xs/\xs.length=n/\t xs σ H Q
def aYp (A:X.calm=true)(h:PGs X es t)
  (z:(assignEach es X.env).length=n:=by rfl) (y:(assignEach es X.env).findIdx? (·.1)=none:=by rfl):PG X (.Tuple es k pos) (bAf X.K n t):=by
 intro f s σ H v u Q I r d;obtain⟨a,x,l,j,m,d⟩:=d;subst l;cases r;obtain⟨g,i,p,B⟩:=I.list j;have c:(assignEach es X.env).length=g.toArray.size:=by rw[z,<-m,i.length,j6]
 rw[arm_assign_Tuple];refine b7 (bFX ?_);unfold unpack;rw[c,y];refine b7 (bAU (PySem.W.kun_itemsOf (I.ok.hd A) p.isList λC w=>?_));have q:=I.kept (t':=s.toks) λb o e=>w b o (z9 (t8 e)) e;exact h f _ σ H x _ Q q (by simpa using i) d
def aQf (c:X.calm=true)(h:VGs X es t)(b:(assignEach es X.env).length=n:=by rfl)(a:(assignEach es X.env).findIdx? (·.1)=none:=by rfl):VG X (.Tuple es k pos) (bAf X.K n t):=⟨aYp c h.1 b a⟩
end L2
namespace My
open PySem PySem.Spec PyProof.Rows L2
section
variable {P:Program}{w:World}{K:bFZ}{mg:bF2}{base:Heap}
def lZ (h:∀r∈rs,KdR ks r)(p:List V->Bool):srt (rs.filter p)=(srt rs).filter p:=by obtain⟨k,d⟩:=lH h;obtain⟨e,j⟩:=lH λr c=>h r (List.mem_filter.mp c).1;refine yO (e.trans (k.filter p).symm) (λa f b i g l=>?_) j (d.filter p);exact aTe (h a (List.mem_filter.mp (gC f)).1) (h b (List.mem_filter.mp (gC i)).1) g l
def aHi (T:Txt w K mg):Ok P w K mg base 1 "_law_spot" bQG (oR K):=by
 refine Ok.ofV T.aKr aGp (by trivial) (λf a0 A u s H vs Q E hr h=>?_)
 obtain⟨vh,n,hd,k,rfl,⟨b,us,rfl,C,L⟩,Z,hk,q⟩:=h;obtain⟨v,G⟩:=aI6 hk;refine⟨_,(aD (aM (rZ PySem.F.plainAttrs_list PySem.F.slot_list_index PySem.F.type_list_index aF5 (cJ (N:=["_law_column","_law_kind"]) ck iM rfl (nU (vv 0)) (λcl e g fp=>⟨(tG (K:=K) (n:=2) rfl (bC (fZ 0) (bC (fZ 1) fP))),fH,(vv 0)⟩)) (va1 (vv 1))))),?_⟩;have lu:=L.len;dsimp only[pZ,tBM];refine oE [none,none] tO ⟨_,rfl,b,rfl,⟨_,C⟩,aJn Same (aQm H) us (λ_=>true) (λi _ y=>∃a,hd[i]?=some a/\y=.str a.1) (λ_ _ h=>h) (λ_ _ _ h=>h) (λi σ=>∃a,hd[i]?=some a/\At2 [none,none] (.str a.1) (.str a.2) σ) (Ps2 [none,none]) ⟨none,none,rfl⟩ (small (by lia)) _ (zQ λg e=>e.aP C) (oM λg e=>e.aP C) (λi x σ' g Q' t o e qq=>?_) (λi x B t O g R e r=>r g (Same.refl _)) (λi x B t O hp g R e r=>?_) λD X I W fD J l=>?_⟩
 ·obtain⟨a,d,p',rfl,p⟩:=bV L t;exact hg2 (e.aP p) o fun B v G=>qq B v ⟨a,d,G⟩
 ·obtain⟨a,d,rfl⟩:=O;exact⟨_,rfl,r _ _ (Same.refl g) ⟨a,d,rfl⟩⟩
 ·rw[qR] at l;obtain⟨l1,l2⟩:=pA l;have Y:I=(hd.map (·.1)).map V.str:=bCE λi=>by
   cases S:I[i]? with
   |some z=>obtain⟨a,d,rfl⟩:=l2 i z S;rw[v5,v5,d];rfl
   |none=>have:=List.getElem?_eq_none_iff.mp S;exact (bAD (by rw[j4,j4];lia)).symm
  subst Y;refine⟨.inl ⟨rfl,_,SqL.of J⟩,_,rfl,D,hd.map (·.1),n,plc hd n,rfl,rfl,SqL.of J,by rw[j4];exact Z,by rw[v5,v];rfl,λj m hj M=>?_,q X W⟩;rw[v5] at M;obtain⟨c,U,rfl⟩:=Option.map_eq_some_iff.mp M;exact G j c hj U
def aUt (i:Nat)(c:(y,NameKind.free)∈scope.names)(hi:X.N[i]?=some y)(e:σ[i]?=some (some u))(d:Vis X.env.scope y):Cap X scope [x,x2,y] σ [none,none,some u]:=
 ⟨rfl,λn q r b a=>by
  match n,b,a with
  |0,_,a=>cases a
  |1,_,a=>cases a
  |2,b,a=>cases b;cases a;exact⟨c,i,hi,e,d⟩
  |n+3,b,_=>cases b⟩
theorem aAu {α:Type}{p:α->Bool}:∀{l:List α} {N:Nat},N<=l.length->(∀(i:Nat) (c:α),l[i]?=some c->(i<N↔p c=true))->l.filter p=l.take N
 |[],N,_,_=>by rw[bDZ];rfl
 |a::l,0,h,hp=>by rw[List.take_zero];refine List.filter_eq_nil_iff.mpr λc d=>?_;obtain⟨i,b⟩:=List.mem_iff_getElem?.mp d;exact λz=>absurd ((hp i c b).mpr z) (bCY _)
 |a::l,N+1,h,hp=>by rw[bCL,if_pos ((hp 0 a rfl).mp (Nat.succ_pos _)),bFJ];exact congrArg _ (aAu (by simpa using h) λi c e=>⟨λz=>(hp (i+1) c (by simpa using e)).mp (by lia),λz=>by have:=(hp (i+1) c (by simpa using e)).mpr z;lia⟩)
theorem aCc {α β:Type}(p:Nat->Bool):∀(k:Nat) (l:List α) (m:List β),l.length=m.length->(sel p k l).length=(sel p k m).length
 |_,[],[],_=>rfl
 |k,a::l,b::m,h=>by
  have c:=aCc p (k+1) l m (by simpa using h);unfold sel;cases p k with
  |true=>simpa using c
  |false=>simpa using c
def bBj (d:bM kd a)(c:bM kd b)(q:Q (.bl (!vlt b a)) H):bAx a b H Q:=by
 cases d with
 |num=>cases c;exact .inl ⟨_,_,rfl,rfl,q⟩
 |wrd _ _=>cases c;exact .inr ⟨_,_,rfl,rfl,q⟩
inductive xZ (K:bFZ)(vs:List V)(H:Hp)(Q:VK)(E_:XK):Prop
 |mk (vc v:V) (kd:Str) (m h0:Int) (cs:List (V × Int)) (_:vs=[vc,v]) (_:kJ K H (eQ K H) vc ((.non,h0)::cs)) (_:oY kd m h0 cs) (_:bM kd v) (_:∀H',Same H H'->Q (.int (dU v cs 1 0:Nat)) H')
def aG9 (T:Txt w K mg):Ok P w K mg base 1 "_law_span" o9 (xZ K):=by
 refine Ok.ofV T.aMi aH5 (by trivial) (λf a0 A C s H vs Q E hr h=>?_)
 obtain⟨vc,v,Z,m,h0,b,rfl,⟨a,us,rfl,ha,hu⟩,M,U,q⟩:=h;have V:∀c∈b,bM Z c.1:=λc g=>(M.each c g).1;have a1:=M.few;refine⟨_,(aD (aM (aK aX (by rfl) T.dW cQ (va1 (cJ (N:=["_law_low","_law_house","_law_value_here"]) ck (eU (aF qX)) rfl (nU (cR mX (vv 0) (dF aB) dO)) (λcl d j fp=>⟨(tG (K:=K) (n:=2) rfl (bC (fZ 0) (bC (fZ 1) fP))),(nJ (cX aVj (vv 0) (vv 2))),(vv 0)⟩)))))),?_⟩;obtain⟨G,k,rfl,_,l⟩:∃G k,us=G::k/\eQ K H G (.non,h0)/\bW (eQ K H) k b:=by
  cases hu with
  |cons r t=>exact⟨_,_,rfl,r,t⟩
 have lt:=l.len;dsimp only[pZ,tCB,dZ];refine oE [none,none,some v] (aUt 1 (by trivial) rfl rfl (by trivial)) ⟨_,rfl,_,rfl,a,_,rfl,ha,λts H5 S u=>?_⟩;rw[show (1:Int)=((1:Nat):Int) from rfl,lJ,List.drop_one,List.tail_cons] at u;refine⟨ts,rfl,⟨_,u⟩,aJn Same (aQm H5) k (λi=>!vlt v (b.getD i (.non,0)).1) (λ_ _ _=>True) (λ_ _ h=>h) (λ_ _ _ h=>h) (λi σ=>∃c,b[i]?=some c/\At2 [none,none,some v] c.1 (.int c.2) σ) (Ps2 [none,none,some v]) ⟨none,none,rfl⟩ (small (by lia)) _ (zQ λj d=>d.aP u) (oM λj d=>d.aP u) (λi x σ' j Q' B y d qq=>?_) (λi x I B L j R d o=>?_) (λi x I B L X j R d o=>?_) λD H6 Y s6 fD g6 J=>?_⟩
 ·obtain⟨c,g,p,rfl,X⟩:=bV l B;exact hg2 ((S.trans d).aP X) y fun I h1 h2=>qq I h1 ⟨c,g,h2⟩
 ·obtain⟨c,g,rfl⟩:=L;refine⟨_,rfl,_,rfl,bBj (V c (v4 g)) U ⟨_,rfl,?_⟩⟩;have e:(!vlt v (b.getD i (.non,0)).1)=!vlt v c.1:=by rw[j0,g];rfl
  rw[e] at o;exact o j (Same.refl _)
 ·obtain⟨c,g,rfl⟩:=L;exact⟨_,rfl,o _ j (Same.refl _) trivial⟩
 ·have W:=J.len;rw[aCc _ 0 (List.range k.length) b (by rw[bAK];lia),jD (p':=λc=>!vlt v c.1) λi c e=>by rw[bDA,j0,e];rfl] at W;obtain⟨O,F⟩:=aCf U V M.up b.length (d9 _);rw[bCA] at O F;rw[aAu (N:=dU v b 1 0) O λi c e=>⟨λz=>by rw[(F i c (List.getElem?_eq_some_iff.mp e).1 e).mp z];rfl,λz=>(F i c (List.getElem?_eq_some_iff.mp e).1 e).mpr (by simpa using z)⟩,bAC] at W;refine⟨D,_,rfl,.inl (SqL.of g6),?_⟩;rw[show Y.length=dU v b 1 0 by lia];exact q H6 (S.trans s6)
def aMq:Sp:=λvs H Q _=>∃v m,vs=[v,.int m]/\Vl v/\0<m/\m<=6/\Q (.int (nm v % m)) H
def aHx (T:Txt w K mg):Ok P w K mg base 1 "_law_home" bQN aMq:=by
 refine Ok.ofV T.aMd xU (by trivial) (λf j A a s H r Q E o h=>?_)
 obtain⟨v,m,rfl,d,c,p,q⟩:=h;have t:=xU.nd;refine⟨_,(aC (aY 2 (vv 0)) (aC (bO (cC (aK rQ (by rfl) T.bZ bQ (aH (vv 0) (va1 (fK (v:=.ty "str") (by rfl) T.aWe aNr rfl))))) (aC (aY 2 aB) (aD (gG PassesOwn.never rfl (aNd (vv 0)) (cZ 3) (aD (aY 2 (bB cY (bB cY (bB vG (vv 2) aB) (rZ PySem.F.plainAttrs_str PySem.F.slot_str_index PySem.F.type_str_index aJj bH (va1 (vv 3)))) aB)))))) aW) (aD (aM (bB lM (vv 2) (vv 1)))))),?_⟩;rcases d with⟨i,rfl⟩|⟨x,rfl,hx,h8⟩
 ·exact⟨_,rfl,_,rfl,_,"str",false,rfl,rfl,_,rfl,cB ⟨_,rfl,_,rfl,_,_,rfl,rfl,c,q⟩⟩
 ·refine⟨_,rfl,_,rfl,_,"str",true,rfl,rfl,_,rfl,fB ⟨_,rfl,_,rfl,aPq (λi σ b=>b=H/\∃l,σ=[some (.str x),some (.int m),some (.int (num x i)),l]) ⟨rfl,none,rfl⟩ ?_ ?_⟩⟩
  ·rintro i σ b hi ⟨rfl,l,rfl⟩;obtain⟨k,g⟩:=hx.at hi;refine⟨_,rfl,_,_,rfl,rfl,.inr ⟨by decide,by decide⟩,rfl,_,rfl,_,_,_,_,rfl,rfl,occ k g,_,_,rfl,rfl,_,_,rfl,rfl,rfl,some (.str (sgn x i)),?_⟩;have e:num x i * 27+((x.cps.getD i 0 - 97:Nat):Int)+1=num x (i+1):=by show num x i * 27+((x.cps.getD i 0 - 97:Nat):Int)+1=num x i * 27+((x.cps.getD i 0:Int) - 96);lia
   exact congrArg (λn=>[some (V.str x),some (V.int m),some (V.int n),some (V.str (sgn x i))]) e
  ·rintro σ b ⟨rfl,l,rfl⟩;exact⟨_,rfl,_,rfl,_,_,rfl,rfl,c,q⟩
def kO (K:bFZ)(H:Hp)(M:Addr)(vh vp:V)(R:Addr)(t:Tb)(vm:V):Prop:=H M=some (.lst [vh,vp,.ref R,vm])/\mF K H vh t.hd/\jZ K H vp t.pl/\bN K H R t.rows
def kO.same (s:Same H H')(h:kO K H M vh vp R t vm):kO K H' M vh vp R t vm:=⟨s _ _ h.1,h.2.1.same s,h.2.2.1.same s,h.2.2.2.same s⟩
inductive zM (K:bFZ)(vs:List V)(H:Hp)(Q:VK)(E_:XK):Prop
 |mk (M R:Addr) (vh vp vm:V) (t:Tb) (m house:Int) (_:vs=[.ref M,.int m,.int house]) (_:kO K H M vh vp R t vm) (_:jR m t) (_:0<m) (_:m<=6) (_:∀L H',H L=none->Same H H'->bN K H' L ((srt t.rows).filter λr=>bK t.hd m r house t.pl)->Q (.ref L) H')
def aD3 (T:Txt w K mg)(sX:Ok P w K mg base 1 "_law_spot" bQG (oR K))(ab:Ok P w K mg base 1 "_law_home" bQN aMq)(jN:Ok P w K mg base 1 "_law_span" o9 (xZ K)):Ok P w K mg base 2 "_law_stood" o5 (zM K):=by
 refine Ok.ofV T.aHe uM (by trivial) (λf ac A a8 s H vs Q E hr h=>?_)
 obtain⟨M,R,vh,vp,vm,t,m,a,rfl,⟨gM,hI,D,⟨us,gR,g⟩⟩,G,m0,m6,q⟩:=h;have F:=G.pl;have l8:=G.hd.1.2.2;have lu:=g.len;have ae:=G.few;have d:∀r∈t.rows,KdR (knds t.hd) r:=λr o=>gU (G.rows r o);have nd:=uM.nd;refine⟨_,(aC (iD (vv 0) (aQf rfl (bC (cZ 3) (bC (cZ 4) (bC (cZ 5) (bC (cZ 6) fP)))))) (aC (bO (cX dX (aR aO (vv 4) aB) bH) (aD (aM (aK eY (by rfl) T.eO dG (va1 (vv 5))))) aW) (aC (aY 7 (aV sX (aH (vv 3) (va1 (aR aO (vv 4) aB))))) (aC (bO (cX dX (aR aO (vv 4) aB) bH) (aD (aM (aK eY (by rfl) T.eO dG (va1 (cJ (N:=["_law_row_here","_law_house","_law_houses","_law_spot_here"]) ck (eU (aF lA)) rfl (fM (vv 5)) (λcl y Z fp=>⟨(fZ 0),(nJ (cX dX (aV ab (aH (aR (bL (K:=K)) (vv 0) (vv 3)) (va1 (vv 2)))) (vv 1))),(vv 0)⟩)))))) aW) (aD (aM (aK eY (by rfl) T.eO dG (va1 (cJ (N:=["_law_row_here","_law_house","_law_placing_here","_law_spot_here"]) ck (eU (aF lA)) rfl (fM (vv 5)) (λcl y Z fp=>⟨(fZ 0),(nJ (cX dX (aR (bL (K:=K)) (aR (bL (K:=K)) (aR (bL (K:=K)) (vv 2) aB) (aV jN (aH (aR (bL (K:=K)) (vv 2) aB) (va1 (aR (bL (K:=K)) (vv 0) (vv 3)))))) aB) (vv 1))),(vv 0)⟩)))))))))),?_⟩;refine⟨_,rfl,M,_,rfl,SqL.of gM,rfl,_,_,rfl,_,_,rfl,_,_,rfl,_,_,rfl,rfl,?_⟩;cases p:t.pl with
 |copies=>rw[p] at D q;obtain⟨b,rfl,B⟩:=D;refine⟨_,rfl,b,_,0,_,rfl,rfl,B,at0 _ _,rfl,_,rfl,gF (by decide) ?_⟩;refine⟨_,rfl,R,us,t.rows,knds t.hd,rfl,SqL.of gR,cN g,by lia,iT G.hd.1,d,λL8 H8 k C J g8 O=>?_⟩;have e:((srt t.rows).filter λr=>bK t.hd m r a .copies)=srt t.rows:=List.filter_eq_self.mpr λ_ _=>rfl;rw[e] at q;exact q L8 H8 C J ⟨k,g8,(fV O).imp λ_ _ z=>z.same J⟩
 |keys n=>
  have c:=D;rw[p] at c F;obtain⟨b,rfl,B⟩:=c;obtain⟨a4,kd,hk⟩:=F;refine⟨_,rfl,b,_,0,_,rfl,rfl,B,at0 _ _,rfl,_,rfl,dI (by decide) ?_⟩;refine⟨_,rfl,_,rfl,b,_,1,_,rfl,rfl,B,at1 _ _ _,vh,n,t.hd,kd,rfl,hI,by lia,hk,λH1 j=>?_⟩;refine⟨_,rfl,b,_,0,_,rfl,rfl,j.aP B,at0 _ _,rfl,_,rfl,gF (by decide) ?_⟩;dsimp only[bR,aBi,vB,pZ,tCB,dZ,List.set,mJ];refine aAb us (λi=>bK t.hd m (t.rows.getD i []) a t.pl) [none,some (.int a),some (.int m),some (.int (plc t.hd n:Nat))] (tM 2 1 7 (by trivial) (by trivial) (by trivial) rfl rfl rfl rfl rfl rfl (by trivial) (by trivial) (by trivial)) (small (by lia)) (λR' r'=>aHg (λZ U=>SqL.of (U _ _ (j _ _ gR))) (λR'' S=>⟨_,rfl,S⟩) R' r') (λi u ex Z R' l U rr=>?_) rfl λD7 H7 a3 W g7=>?_
  ·obtain⟨r,I,ru,rfl,L⟩:=bV g ex;have Y:=G.rows r (v4 I);obtain⟨v,hv,hg,X⟩:=aFh Y hk;have eg:t.rows.getD i []=r:=by rw[j0,I];rfl
   rw[eg,p] at rr;have y:=j.trans U;refine⟨_,rfl,_,rfl,ru,r,_,v,rfl,rfl,y.aP L,cG hv,_,rfl,v,m,rfl,oO X,m0,m6,_,rfl,rfl,_,rfl,?_⟩;have e:decide (V.int (nm v % m)=V.int a)=bK t.hd m r a (.keys n):=by show _=decide (nm (r.getD (plc t.hd n) .non) % m=a);rw[hg];exact decide_eq_decide.mpr ⟨λz=>V.int.inj z,λz=>congrArg V.int z⟩
   rw[e];exact rr Z (Same.refl _)
  have x:bW (cP K H7) (sel (λi=>bK t.hd m (t.rows.getD i []) a t.pl) 0 us) (t.rows.filter λr=>bK t.hd m r a t.pl):=by have eF:(t.rows.filter λr=>bK t.hd m r a t.pl)=sel (λi=>bK t.hd m (t.rows.getD i []) a t.pl) 0 t.rows:=(jD λi r I=>by rw[bDA,j0,I];rfl).symm;rw[eF];exact (wD g 0).imp λ_ _ r=>r.same (j.trans W)
  have lF:=x.len;have lf:(t.rows.filter λr=>bK t.hd m r a t.pl).length<=t.rows.length:=bAX _ _;refine⟨D7,_,_,knds t.hd,rfl,SqL.of g7,cN x,by lia,iT G.hd.1,λr o=>d r (List.mem_filter.mp o).1,λL8 H8 k C J g8 O=>?_⟩;rw[lZ d] at O;exact q L8 H8 (none_of (j.trans W) C) (j.trans (W.trans J)) ⟨k,g8,(fV O).imp λ_ _ z=>z.same J⟩
 |spans n h0 cs=>
  have c:=D;rw[p] at c F;obtain⟨b,vo,rfl,B,a2⟩:=c;obtain⟨cc,cu,rfl,a7,a0⟩:=id a2;obtain⟨a4,kd,hk,ad,aa⟩:=F;refine⟨_,rfl,b,_,0,_,rfl,rfl,B,at0 _ _,rfl,_,rfl,dI (by decide) ?_⟩;refine⟨_,rfl,_,rfl,b,_,1,_,rfl,rfl,B,at1 _ _ _,vh,n,t.hd,kd,rfl,hI,by lia,hk,λH1 j=>?_⟩;refine⟨_,rfl,b,_,0,_,rfl,rfl,j.aP B,at0 _ _,rfl,_,rfl,dI (by decide) ?_⟩;dsimp only[bR,aBi,vB,pZ,tCB,dZ,List.set,mJ];refine aAb us (λi=>bK t.hd m (t.rows.getD i []) a t.pl) [none,some (.int a),some (.ref b),some (.int (plc t.hd n:Nat))] (tM 2 4 7 (by trivial) (by trivial) (by trivial) rfl rfl rfl rfl rfl rfl (by trivial) (by trivial) (by trivial)) (small (by lia)) (λR' r'=>aHg (λZ U=>SqL.of (U _ _ (j _ _ gR))) (λR'' S=>⟨_,rfl,S⟩) R' r') (λi u ex Z R' l U rr=>?_) rfl λD7 H7 a3 W g7=>?_
  ·obtain⟨r,I,ru,rfl,L⟩:=bV g ex;have Y:=G.rows r (v4 I);obtain⟨v,hv,hg,X⟩:=aFh Y hk;have eg:t.rows.getD i []=r:=by rw[j0,I];rfl
   rw[eg,p] at rr;have y:=j.trans U;refine⟨_,rfl,b,_,2,_,rfl,rfl,y.aP B,at2 _ _ _ _,_,rfl,b,_,2,_,rfl,rfl,y.aP B,at2 _ _ _ _,_,rfl,_,rfl,ru,r,_,v,rfl,rfl,y.aP L,cG hv,.ref cc,v,kd,m,h0,cs,rfl,kJ.same y (λ_ _ z=>z.same y) a2,aa,X,λH2 s2=>?_⟩;have hN:=wJ v cs;have lc:=a0.len;rw[j9] at lc;have a1:dU v cs 1 0<cu.length:=by lia
   obtain⟨c0,a9,pc,a5,a6⟩:=bV a0 (b8 a1);refine⟨cc,cu,_,cu[dU v cs 1 0],rfl,rfl,(y.trans s2).aP a7,cG (b8 a1),pc,_,1,_,a5,rfl,(y.trans s2).aP a6,at1 _ _ _,_,rfl,rfl,_,rfl,?_⟩;have e:decide (V.int c0.2=V.int a)=bK t.hd m r a (.spans n h0 cs):=by show _=decide ((((.non,h0)::cs).map (·.2)).getD (dU (r.getD (plc t.hd n) .non) cs 1 0) 0=a);rw[hg,j0,v5,a9];exact decide_eq_decide.mpr ⟨λz=>V.int.inj z,λz=>congrArg V.int z⟩
   rw[e];exact rr H2 s2
  have x:bW (cP K H7) (sel (λi=>bK t.hd m (t.rows.getD i []) a t.pl) 0 us) (t.rows.filter λr=>bK t.hd m r a t.pl):=by have eF:(t.rows.filter λr=>bK t.hd m r a t.pl)=sel (λi=>bK t.hd m (t.rows.getD i []) a t.pl) 0 t.rows:=(jD λi r I=>by rw[bDA,j0,I];rfl).symm;rw[eF];exact (wD g 0).imp λ_ _ r=>r.same (j.trans W)
  have lF:=x.len;have lf:(t.rows.filter λr=>bK t.hd m r a t.pl).length<=t.rows.length:=bAX _ _;refine⟨D7,_,_,knds t.hd,rfl,SqL.of g7,cN x,by lia,iT G.hd.1,λr o=>d r (List.mem_filter.mp o).1,λL8 H8 k C J g8 O=>?_⟩;rw[lZ d] at O;exact q L8 H8 (none_of (j.trans W) C) (j.trans (W.trans J)) ⟨k,g8,(fV O).imp λ_ _ z=>z.same J⟩
theorem aMk {α:Type}{p q:α->Bool}:∀l:List α,(∀x∈l,p x=true->q x=false)->(l.filter p).length+(l.filter q).length<=l.length
 |[],_=>d9 _
 |a::l,h=>by
  have e:=aMk l λx d=>h x (j7 _ d);have c:=h a j5;rw[bCL,bCL,j9];cases b:p a with
  |true=>rw[c b];simp;lia
  |false=>cases q a <;> simp <;> lia
def aFn {hd:Hdr}{m house h0:Int}{n:Str}{d:List (V × Int)}{f:Mv}(g:List V->Bool)(a:List (List V))(j:f.house=house)(i:f.house≠kI f.num h0 d):(a.filter λr=>bK hd m r house (.spans n h0 d)).length+(a.filter λr=>g r && gV hd n d f.num r).length<=a.length:=aMk a λr _ h=>by
 cases e:gV hd n d f.num r with
 |false=>exact bFP _
 |true=>have c:dU (r.getD (plc hd n) .non) d 1 0=f.num:=of_decide_eq_true e;have b:=of_decide_eq_true (show decide _=true from h);rw[c] at b;exact absurd (j.trans b.symm) i
def pU (o:Option (List V))(r:List V):Bool:=!zU o r
def nQ (hd:Hdr)(m house:Int)(pl:Plc)(o:Option Mv)(n:Str)(cs:List (V × Int))(rows:List (List V)):List (List V):=
 match o with
 |none=>rows.filter λr=>bK hd m r house pl
 |some q=>if q.house=house then srt ((rows.filter λr=>bK hd m r house pl)++rows.filter λr=>pU q.mark r && gV hd n cs q.num r) else rows.filter λr=>bK hd m r house pl
inductive aDz (K:bFZ)(C:Addr)(vs:List V)(H:Hp)(Q:VK)(E_:XK):Prop
 |mk (x d dm:Addr) (m house:Int) (es:List En) (e:En) (o:Option Mv) (n:Str) (h0:Int) (cs:List (V × Int)) (_:vs=[.ref x,.str e.n,.int house]) (_:bI K H C x m d dm es) (_:e∈es) (_:MvD K H dm e.n o) (_:(∀mq,o=some mq->e.t.pl=.spans n h0 cs)) (_:(∀mq,o=some mq->mq.house≠kI mq.num h0 cs)) (_:(∀mq q,o=some mq->mq.mark=some q->jA e.t.hd q)) (_:0<=house) (_:house<m) (_:∀L H',H L=none->Same H H'->bN K H' L (nQ e.t.hd m house e.t.pl o n cs e.t.rows)->Q (.ref L) H')
def aL1 (T:Txt w K mg)(c:Cls K C)(D:eZ K C "stands" "Store.stands" iC u6)(n1:bU K C "placed")(n2:bU K C "house_count")(cH:Ok P w K mg base 3 "table_in" z8 (pM K))(zW:Ok P w K mg base 4 "rows_at" bQL (zH K))(g:OkM P w K mg base C 4 "moving" n6 (zF K C))(qW:Ok P w K mg base 3 "span_rows" bQY (aDj K))(vD:Ok P w K mg base 1 "is_above" bXA (aC5 K)):OkM P w K mg base C 5 "stands" u6 (aDz K C):=by
 refine OkM.ofV c D qF (by trivial) (λf a9 A a2 s H vs Q E hr h=>?_)
 obtain⟨x,d,dm,m,b,es,e,o,n,h0,G,rfl,F,S,a5,j,a1,a6,b0,b1,q⟩:=h;have nd:=qF.nd;refine⟨_,(aC (aY 3 (aV cH (aH (cV (K:=K) (vv 0)) (va1 (vv 1))))) (aC (aY 4 (aV zW (aH (vv 3) (aH (vv 2) (va1 (cV (K:=K) (vv 0))))))) (aC (aY 5 (fY g (vv 0) (va1 (vv 1)))) (aC (bO (VW.pt (fG (cX aOj (vv 5) jV) (eE (cX wN (aR aO (vv 5) aB) (vv 2))))) (aD (aM (vv 4))) aW) (aD (aM (aK eY (by rfl) T.eO dG (va1 (bB rA (vv 4) (cJ (N:=["row","move"]) ck (eU (aF iC)) rfl (fM (aV qW (aH (vv 3) (va1 (aR aO (vv 5) aB))))) (λcl s' H' fp=>⟨(fZ 0),(nJ (cL (cC (aV vD (aH (vv 0) (va1 (aR (bL (K:=K)) (vv 1) aB))))))),(vv 0)⟩))))))))))),?_⟩;obtain⟨dx,hx⟩:=F.at_;have B:=F.ok e S;refine⟨_,rfl,x,C,dx,_,_,rfl,hx,c,n1,rfl,_,rfl,d,es,e,rfl,F.ens,S,λH1 M=>?_⟩;refine⟨_,rfl,_,rfl,_,rfl,x,C,dx,_,_,rfl,M _ _ hx,c,n2,rfl,e.v,e.vh,e.vp,e.L,e.t,b,m,rfl,(F.ens.tb e S).same M,B,b0,b1,λL H2 hN s2 hR=>?_⟩;have i:=M.trans s2;refine⟨_,rfl,x,dx,_,rfl,i _ _ hx,rfl,_,rfl,x,d,dm,m,es,e,o,rfl,F.same i,S,a5.same i,λv H3 s3 hv=>?_⟩;have k:=i.trans s3;have y:=hR.same s3;cases o with
 |none=>cases hv;exact⟨_,rfl,rfl,_,rfl,gF (m9 rfl) ⟨_,rfl,q L H3 (none_of M hN) k y⟩⟩
 |some mq=>
  have j:=j mq rfl;obtain⟨a,vm,rfl,ha,hm⟩:=hv;refine⟨_,rfl,rfl,_,rfl,dI (v6 λz=>by cases z) ?_⟩;refine⟨_,rfl,a,_,1,_,rfl,rfl,ha,at1 _ _ _,_,rfl,rfl,_,rfl,?_⟩;by_cases U:mq.house=b
  ·refine dI (by rw[m9 (congrArg V.int U)];rfl) ?_;refine⟨_,rfl,?_⟩;refine jT [none,some (.ref a)] (lB 5 (by trivial) rfl rfl (by trivial)) ?_;refine⟨_,rfl,_,rfl,a,_,0,_,rfl,rfl,ha,at0 _ _,e.v,e.vh,e.vp,e.L,e.t,m,mq.num,n,h0,G,rfl,(F.ens.tb e S).same k,B,j,λD1 H4 ab X I=>?_⟩;obtain⟨ws,gD,a8⟩:=id I;have O:=k.trans X;refine⟨D1,rfl,⟨_,SqL.of gD⟩,tD I (bAI (bAX _ _) (by have:=B.few;lia)) (pU mq.mark) rfl (λu r p H' R l sm Y rr=>?_) λD' H5 aa Z J=>?_⟩
   ·refine⟨_,rfl,_,rfl,a,_,2,_,rfl,rfl,(X.trans sm).aP ha,at2 _ _ _ _,u,vm,r,mq.mark,knds e.t.hd,rfl,Y,hm.same (X.trans sm),gU (B.rows r (List.mem_filter.mp p).1),λq' e'=>gU (a6 mq q' rfl e'),_,rfl,rr H' (Same.refl _)⟩
   ·rw[bEI] at J;obtain⟨u1,g1,h1⟩:=y.same (X.trans Z);obtain⟨u2,g2,h2⟩:=J;have l1:=h1.len;have l2:=h2.len;have f1:(e.t.rows.filter λr=>bK e.t.hd m r b e.t.pl).length+(e.t.rows.filter λr=>pU mq.mark r && gV e.t.hd n G mq.num r).length<=e.t.rows.length:=by rw[j];exact aFn (pU mq.mark) e.t.rows U (a1 mq rfl)
    have f2:=B.few;refine⟨L,D',u1,u2,rfl,rfl,g1,g2,small (by lia),λR6 H6 a7 W g6=>?_⟩;refine⟨R6,_,(e.t.rows.filter λr=>bK e.t.hd m r b e.t.pl)++e.t.rows.filter λr=>pU mq.mark r && gV e.t.hd n G mq.num r,knds e.t.hd,rfl,SqL.of g6,cN (bW.app (h1.imp λ_ _ z=>z.same W) (h2.imp λ_ _ z=>z.same W)),by rw[v9];lia,iT B.hd.1,λr p=>?_,λL7 H7 a4 a3 s7 g7 h7=>?_⟩
    ·rcases List.mem_append.mp p with z|z <;> exact gU (B.rows r (List.mem_filter.mp z).1)
    ·have a0:=O.trans (Z.trans (W.trans s7));refine q L7 H7 (none_of (O.trans (Z.trans W)) a3) a0 ⟨a4,g7,?_⟩;have e7:nQ e.t.hd m b e.t.pl (some mq) n G e.t.rows=_:=if_pos U;rw[e7];exact (fV h7).imp λ_ _ z=>z.same s7
  ·refine gF (by rw[v6 λz=>U (V.int.inj z)];rfl) ⟨_,rfl,q L H3 (none_of M hN) k ?_⟩;have e7:nQ e.t.hd m b e.t.pl (some mq) n G e.t.rows=_:=if_neg U;rw[e7];exact y
section
variable {X:Cx}{A0:Around}
def aZb (a:A0.units+64<cLine)(h:X.K=K:=by rfl)(b:X.A=A0:=by rfl):OpR X (compareOp .LtE) (bEj K):=by subst h b;exact bB2 a
def aZh (a:A0.units+64<cLine)(h:X.K=K:=by rfl)(b:X.A=A0:=by rfl):OpR X (compareOp .Gt) (bD3 K):=by subst h b;exact aUu a
end
def zV (h:∀r∈rs,KdR ks r):srt (srt rs)=srt rs:=(sJ h (lH h).1.symm).symm
inductive aAd (K:bFZ)(vs:List V)(H:Hp)(Q:VK)(E_:XK):Prop
 |mk (M R:Addr) (vh vp vm:V) (t:Tb) (mq:Mv) (m:Int) (n:Str) (h0:Int) (cs:List (V × Int)) (_:vs=[.ref M]) (_:kO K H M vh vp R t vm) (_:qM K H vm mq) (_:jR m t) (_:t.pl=.spans n h0 cs) (_:∀L H',H L=none->Same H H'->bN K H' L ((srt t.rows).filter (gV t.hd n cs mq.num))->Q (.ref L) H')
def aBj (T:Txt w K mg)(sX:Ok P w K mg base 1 "_law_spot" bQG (oR K))(jN:Ok P w K mg base 1 "_law_span" o9 (xZ K)):Ok P w K mg base 2 "_law_of_span" bXE (aAd K):=by
 refine Ok.ofV T.aDq qK (by trivial) (λf a3 A F s H vs Q E hr h=>?_)
 obtain⟨M,R,vh,vp,vm,t,y,m,n,h0,i,rfl,⟨gM,hI,j,c⟩,⟨X,vk,rfl,B,_⟩,g,k,q⟩:=h;rw[k] at j;obtain⟨b,vo,rfl,hb,I⟩:=j;obtain⟨us,gR,a1⟩:=id c;have x:=g.pl;rw[k] at x;obtain⟨a2,U,hk,a4,S⟩:=x;have l8:=g.hd.1.2.2;have a5:=g.few;have nd:=qK.nd;refine⟨_,(aC (iD (vv 0) (aQf rfl (bC (cZ 1) (bC (cZ 2) (bC (cZ 3) (bC (cZ 4) fP)))))) (aC (aY 5 (aV sX (aH (vv 1) (va1 (aR aO (vv 2) aB))))) (aD (aM (aK eY (by rfl) T.eO dG (va1 (cJ (N:=["_law_row_here","_law_move","_law_placing_here","_law_spot_here"]) ck (eU (aF lO)) rfl (fM (vv 3)) (λcl p H' fp=>⟨(fZ 0),(nJ (cX dX (aV jN (aH (aR (bL (K:=K)) (vv 2) aB) (va1 (aR (bL (K:=K)) (vv 0) (vv 3))))) (aR (bL (K:=K)) (vv 1) aB))),(vv 0)⟩)))))))),?_⟩;refine⟨_,rfl,M,_,rfl,SqL.of gM,rfl,_,_,rfl,_,_,rfl,_,_,rfl,_,_,rfl,rfl,?_⟩;refine⟨_,rfl,_,rfl,b,_,1,_,rfl,rfl,hb,at1 _ _ _,vh,n,t.hd,U,rfl,hI,by lia,hk,λH1 o=>?_⟩;dsimp only[bR,aBi,vB,pZ,tCB,dZ,List.set,mJ];refine jT [none,some (.ref X),some (.ref b),some (.int (plc t.hd n:Nat))] (tM 4 2 5 (by trivial) (by trivial) (by trivial) rfl rfl rfl rfl rfl rfl (by trivial) (by trivial) (by trivial)) ?_;refine⟨_,rfl,R,rfl,⟨_,SqL.of (o _ _ gR)⟩,tD (c.same o) (by lia) (gV t.hd n i y.num) rfl (λu r a H' R' l sm C rr=>?_) λD7 H7 a0 Z J=>?_⟩
 ·obtain⟨ra,rfl,G⟩:=C;obtain⟨v,hv,hg,L⟩:=aFh (g.rows r a) hk;have p:=o.trans sm;refine⟨_,rfl,b,_,2,_,rfl,rfl,p.aP hb,at2 _ _ _ _,_,rfl,_,rfl,ra,r,_,v,rfl,rfl,G,cG hv,vo,v,U,m,h0,i,rfl,kJ.same p (λ_ _ z=>z.same p) I,S,L,λH2 s2=>?_⟩;refine⟨_,rfl,X,_,0,_,rfl,rfl,(p.trans s2).aP B,at0 _ _,rfl,_,rfl,?_⟩;have e:decide (V.int (dU v i 1 0:Nat)=V.int y.num)=gV t.hd n i y.num r:=by unfold gV;rw[hg];exact decide_eq_decide.mpr ⟨λz=>by have:=V.int.inj z;lia,λz=>by rw[z]⟩
  rw[e];exact rr H2 s2
 ·obtain⟨u7,g7,h7⟩:=J;have l7:=h7.len;have lf:=bAX (gV t.hd n i y.num) t.rows;have d:∀r∈t.rows,KdR (knds t.hd) r:=λr a=>gU (g.rows r a);refine⟨D7,u7,_,knds t.hd,rfl,SqL.of g7,cN h7,by lia,iT g.hd.1,λr a=>d r (List.mem_filter.mp a).1,λL8 H8 D O Y g8 W=>?_⟩;rw[lZ d] at W;exact q L8 H8 (none_of (o.trans Z) O) (o.trans (Z.trans Y)) ⟨D,g8,(fV W).imp λ_ _ z=>z.same Y⟩
inductive aC6 (K:bFZ)(vs:List V)(H:Hp)(Q:VK)(E_:XK):Prop
 |mk (M R:Addr) (vh vp vm:V) (t:Tb) (o:Option Mv) (m house:Int) (n:Str) (h0:Int) (cs:List (V × Int)) (_:vs=[.ref M,.int m,.int house]) (_:kO K H M vh vp R t vm) (_:MvV K H vm o) (_:jR m t) (_:0<m) (_:m<=6) (_:(∀mq,o=some mq->t.pl=.spans n h0 cs)) (_:(∀mq,o=some mq->mq.house≠kI mq.num h0 cs)) (_:(∀mq q,o=some mq->mq.mark=some q->jA t.hd q)) (_:∀L H',H L=none->Same H H'->bN K H' L (nQ t.hd m house t.pl o n cs (srt t.rows))->Q (.ref L) H')
def aCt (T:Txt w K mg)(oX:Ok P w K mg base 2 "_law_stood" o5 (zM K))(lY:Ok P w K mg base 2 "_law_of_span" bXE (aAd K)):Ok P w K mg base 3 "_law_stands" o5 (aC6 K):=by
 refine Ok.ofV T.aEn rK (by trivial) (λf aa A a3 s H vs Q E hr h=>?_)
 obtain⟨M,R,vh,vp,vm,t,o,m,a,n,h0,y,rfl,hM,i,ok,m0,m6,p,B,F,q⟩:=h;have ab:=ok.few;have hU:=hr.units;have d:∀r∈t.rows,KdR (knds t.hd) r:=λr b=>gU (ok.rows r b);have c:∀r∈srt t.rows,KdR (knds t.hd) r:=λr b=>d r (gC b);have ls:=tH t.rows;have nd:=rK.nd;refine⟨_,(aC (aY 3 (aV oX (aH (vv 0) (aH (vv 1) (va1 (vv 2)))))) (aC (aY 4 (aR bF (vv 0) aB)) (aC (bO (VW.pt (aDy (cX aBw (vv 4) jV) (aDy (cX dX (aR aO (vv 4) aB) (vv 2)) (aBu (cX aBw (aR (bL (K:=K)) (vv 4) aB) jV))))) (aD (aY 3 (bB rA (vv 3) (cJ (N:=["_law_row_here","_law_move"]) ck (eU (aF nF)) rfl (fM (aV lY (va1 (vv 0)))) (λcl s' H' fp=>⟨(fZ 0),(nJ (cX (aZb (K:=K) hU) (vv 0) (aR (bL (K:=K)) (vv 1) aB))),(vv 0)⟩))))) aW) (aD (aM (aK eY (by rfl) T.eO dG (va1 (vv 3)))))))),?_⟩;refine⟨_,rfl,_,rfl,_,rfl,M,R,vh,vp,vm,t,m,a,rfl,hM,ok,m0,m6,λL H1 hL D hR=>?_⟩;have Y:=hM.same D;refine⟨_,rfl,M,_,3,_,rfl,rfl,SqL.of Y.1,cG (j:=3) rfl,?_⟩;have k:∀W L2 G,Same H1 W->bN K W L2 G->G.length<64->(∀r∈G,KdR (knds t.hd) r)->srt G=nQ t.hd m a t.pl o n y (srt t.rows)->aNb K [.ref L2] W Q:=λW L2 G J ⟨us,g,S⟩ a6 a2 e=>⟨L2,us,G,knds t.hd,rfl,SqL.of g,cN S,by have:=S.len;lia,iT ok.hd.1,a2,λL8 H8 a1 a5 s8 g8 h8=>q L8 H8 (none_of (D.trans J) a5) (D.trans (J.trans s8)) ⟨a1,g8,by rw[<-e];exact (fV h8).imp λ_ _ z=>z.same s8⟩⟩;have f1:=bAX (λr=>bK t.hd m r a t.pl) (srt t.rows);have v:∀r∈(srt t.rows).filter λr=>bK t.hd m r a t.pl,KdR (knds t.hd) r:=λr b=>c r (List.mem_filter.mp b).1;cases o with
 |none=>cases (show vm=.non from i);refine⟨_,rfl,rfl,_,rfl,dI rfl (cB ⟨_,rfl,k H1 L _ (Same.refl _) hR (by lia) v ?_⟩)⟩;show srt _=List.filter _ _;rw[lZ c,zV d]
 |some mq=>
  have i:qM K H vm mq:=i;have B:=B mq rfl;have p:=p mq rfl;have F:=λq=>F mq q rfl;obtain⟨U,vk,rfl,x,O⟩:=id i;refine⟨_,rfl,rfl,_,rfl,gF (by rw[v6 (λz=>by cases z)];rfl) ?_⟩;refine⟨_,rfl,U,_,1,_,rfl,rfl,D.aP x,at1 _ _ _,_,rfl,rfl,_,rfl,?_⟩;by_cases hh:mq.house=a
  ·refine gF (m9 (congrArg V.int hh)) ?_;have I:nQ t.hd m a t.pl (some mq) n y (srt t.rows)=_:=if_pos hh;refine⟨_,rfl,U,_,2,_,rfl,rfl,D.aP x,at2 _ _ _ _,rfl,_,rfl,?_⟩;cases C:mq.mark with
   |none=>rw[C] at O I;have O:vk=.non:=O;subst O;refine dI rfl ⟨_,rfl,k H1 L _ (Same.refl _) hR (by lia) v ?_⟩;rw[I,show ((srt t.rows).filter λr=>pU none r && gV t.hd n y mq.num r)=[] from List.filter_eq_nil_iff.mpr λr _=>by show ¬ (false && _)=true;simp,bCJ]
   |some r0=>
    rw[C] at O I;obtain⟨ka,rfl,a4⟩:=id O;refine gF (by rw[v6 (λz=>by cases z)];rfl) ?_;refine⟨_,rfl,?_⟩;refine jT [none,some (.ref U)] (lB 4 (by trivial) rfl rfl (by trivial)) ?_;refine⟨_,rfl,M,R,vh,vp,.ref U,t,mq,m,n,h0,y,rfl,Y,i.same D,ok,p,λD2 W a8 J X=>?_⟩;obtain⟨w2,g2,h2⟩:=id X;have f2:=bAX (gV t.hd n y mq.num) (srt t.rows);refine⟨D2,rfl,⟨_,SqL.of g2⟩,tD X (by lia) (pU (some r0)) rfl (λu r b H' R' l sm a0 rr=>?_) λD3 H3 a7 s3 Z=>?_⟩
    ·have s':=D.trans (J.trans sm);exact⟨_,rfl,_,rfl,U,_,2,_,rfl,rfl,s'.aP x,at2 _ _ _ _,knds t.hd,r,r0,a0,⟨ka,rfl,s'.aP a4⟩,c r (List.mem_filter.mp b).1,gU (F r0 C),_,rfl,rr H' (Same.refl _)⟩
    ·rw[bEI] at Z;obtain⟨u1,g1,h1⟩:=hR.same (J.trans s3);obtain⟨u3,g3,h3⟩:=Z;have l1:=h1.len;have l3:=h3.len;have f3:((srt t.rows).filter λr=>bK t.hd m r a t.pl).length+((srt t.rows).filter λr=>pU (some r0) r && gV t.hd n y mq.num r).length<=(srt t.rows).length:=by rw[p];exact aFn (pU (some r0)) (srt t.rows) hh B
     refine⟨L,D3,u1,u3,rfl,rfl,g1,g3,small (by lia),λR4 H4 a9 s4 g4=>?_⟩;refine⟨_,rfl,k H4 R4 _ (J.trans (s3.trans s4)) ⟨_,g4,bW.app (h1.imp λ_ _ z=>z.same s4) (h3.imp λ_ _ z=>z.same s4)⟩ (by rw[v9];lia) (λr b=>?_) I.symm⟩;rcases List.mem_append.mp b with z|z
     ·exact v r z
     ·exact c r (List.mem_filter.mp z).1
  ·refine dI (v6 λz=>hh (V.int.inj z)) (cB ⟨_,rfl,k H1 L _ (Same.refl _) hR (by lia) v ?_⟩);have I:nQ t.hd m a t.pl (some mq) n y (srt t.rows)=_:=if_neg hh;rw[I,lZ c,zV d]
end
end My
namespace L2
open PySem PySem.Spec PyProof.Rows
def aSl:MtR X "list.clear" aUb:=aVq
end L2
namespace My
open PySem PySem.Spec PyProof.Rows L2
section
variable {P:Program}{w:World}{K:bFZ}{mg:bF2}{base:Heap}
def rB (h:bM kd v):iG v=true:=by cases h <;> rfl
def aR4 (e:∀c∈cs,iG c.1=true)(h:bW (eQ K H) us cs)(h':bW (eQ K H) ws cs):Al2 (DEq K H 39) us ws:=by
 induction h generalizing ws with
 |nil=>cases h';exact .nil
 |cons r _ ih=>
  cases h' with
  |cons r' t'=>obtain⟨p,rfl,b⟩:=r;obtain⟨d,rfl,a⟩:=r';exact .cons (.inr ⟨p,d,_,_,rfl,rfl,b,a,.cons (.inl ⟨e _ j5,rfl⟩) (.cons (.inl ⟨rfl,rfl⟩) .nil)⟩) (ih (λc f=>e c (j7 _ f)) t')
def aY3 (h:jZ K H v (.spans n h0 cs))(h':jZ K H v' (.spans n h0 cs))(q:oY kd m h0 cs):∃a b xs ys,v=.ref a/\v'=.ref b/\SqT K H a xs/\SqT K H b ys/\Al2 (DEq K H 40) xs ys:=by
 obtain⟨a,r,rfl,f,⟨c,o,rfl,j,i⟩⟩:=h;obtain⟨b,p,rfl,g,⟨e,l,rfl,d,k⟩⟩:=h';refine⟨a,b,_,_,rfl,rfl,f,g,.cons (.inl ⟨rfl,rfl⟩) (.cons (.inl ⟨rfl,rfl⟩) (.cons (.inr ⟨c,e,o,l,rfl,rfl,j,d,aR4 (λx hx=>?_) i k⟩) .nil))⟩;rcases List.mem_cons.mp hx with rfl|hx
 ·rfl
 ·exact rB (q.each x hx).1
def aC9 (h:eV H a)(k:∀o,H a=some o->H' a=some o):eV H' a:=by obtain⟨s,c,e,r⟩:=h;exact⟨s,c,k _ e,r⟩
structure Sy (K:bFZ)(H:Hp)(C x:Addr)(m:Int)(d dm M R:Addr)(l1 l2:List En)(f:Str->Option Mv)(j:Nat)(e:En)(vh vp vm:V)(t:Tb)(o:Option Mv):Prop where
 st:bI K H C x m d dm (l1++e::l2)
 md:kO K H M vh vp R t vm
 mvs:Mvs K H dm f j
 fo:f e.n=o
 vm:MvV K H vm o
 et:e.t={ t with rows:=srt t.rows }
 ok:jR m t
 mk_:∀mq q,o=some mq->mq.mark=some q->jA t.hd q
 hn:∀mq,o=some mq->∃n h0 cs,t.pl=.spans n h0 cs/\mq.house≠kI mq.num h0 cs/\mq.num<=cs.length/\0<=mq.house/\mq.house<m
 m1:1<=m
 m4:m<=4
 n1:M≠R
 n2:∀y∈l1++e::l2,y.L≠R
 n3:∀y∈l1++e::l2,y.L≠M
section
variable {H H':Hp}{C x d dm M R:Addr}{m:Int}{l1 l2:List En}{f:Str->Option Mv}{j:Nat}{e:En}{vh vp vm:V}{t:Tb}{o:Option Mv}
def MvV.same (s:Same H H')(h:MvV K H v o):MvV K H' v o:=h.tk λ_ _=>s.aP
def Sy.mem (_:Sy K H C x m d dm M R l1 l2 f j e vh vp vm t o):e∈l1++e::l2:=bAA _ j5
def Sy.mv (h:Sy K H C x m d dm M R l1 l2 f j e vh vp vm t o):MvD K H dm e.n o:=h.mvs.d e.n h.fo
def Sy.same (s:Same H H')(h:Sy K H C x m d dm M R l1 l2 f j e vh vp vm t o):Sy K H' C x m d dm M R l1 l2 f j e vh vp vm t o:=
 ⟨h.st.same s,h.md.same s,h.mvs.same s,h.fo,h.vm.same s,h.et,h.ok,h.mk_,h.hn,h.m1,h.m4,h.n1,h.n2,h.n3⟩
def kO.kp (k:KP K S H H')(b:S M)(a:S R)(h:kO K H M vh vp R t vm):kO K H' M vh vp R t vm:=⟨k.st _ _ b h.1,h.2.1.tk k.tk,h.2.2.1.tk k.tk,h.2.2.2.kp k a⟩
def Sy.kp (k:KP K S H H')(g:S x)(a:S d)(l:S dm)(i:S M)(c:S R)(b:∀y∈l1++e::l2,S y.L)(h:Sy K H C x m d dm M R l1 l2 f j e vh vp vm t o):Sy K H' C x m d dm M R l1 l2 f j e vh vp vm t o:=
 ⟨h.st.kp k g a b,h.md.kp k i c,h.mvs.kp (λ_=>k.st _ _ l) k.tk,h.fo,h.vm.tk k.tk,h.et,h.ok,h.mk_,h.hn,h.m1,h.m4,h.n1,h.n2,h.n3⟩
end
def bBw {H:Hp}{hd:Hdr}{v v':V}{n:Mv}(h:qM K H v n)(h':qM K H v' n)(o:∀q,n.mark=some q->jA hd q):∃a b xs ys,v=.ref a/\v'=.ref b/\SqT K H a xs/\SqT K H b ys/\Al2 (DEq K H 40) xs ys:=by
 obtain⟨a,u,rfl,g,d⟩:=h;obtain⟨b,m,rfl,i,c⟩:=h';refine⟨a,b,_,_,rfl,rfl,g,i,.cons (.inl ⟨rfl,rfl⟩) (.cons (.inl ⟨rfl,rfl⟩) (.cons ?_ .nil))⟩;cases f:n.mark with
 |none=>rw[f] at d c;cases d;cases c;exact .inl ⟨rfl,rfl⟩
 |some r=>rw[f] at d c;obtain⟨p,rfl,k⟩:=d;obtain⟨l,rfl,e⟩:=c;exact .inr ⟨p,l,r,r,rfl,rfl,k,e,aIf (λx j=>aVx (gU (o r f)) x j) 39⟩
theorem aDl {α β:Type}{R:α->β->Prop}{o:α}{k2:List α}:∀{k1:List α} {es:List β},bW R (k1++o::k2) es->∃l1 e l2,es=l1++e::l2/\bW R k1 l1/\R o e/\bW R k2 l2
 |[],_,h=>by
  cases h with
  |cons r t=>exact⟨[],_,_,rfl,.nil,r,t⟩
 |k::k1,_,h=>by
  cases h with
  |cons r t=>obtain⟨l1,e,l2,rfl,b,c,a⟩:=aDl t;exact⟨_::l1,e,l2,rfl,.cons r b,c,a⟩
def bA9 {H:Hp}{hd:Hdr}{v k:V}{o:Option Mv}{Q:VK}(h:MvV K H v o)(h':MvV K H k o)(l:∀mq q,o=some mq->mq.mark=some q->jA hd q)(q:Q (.bl false) H):bE2 K false v k H Q\/rNe v k H Q:=by
 cases o with
 |none=>cases (show v=.non from h);cases (show k=.non from h');exact .inr ⟨rfl,q⟩
 |some mq=>obtain⟨a,b,e,i,c,f,g,j,d⟩:=bBw h h' λq=>l mq q rfl;exact .inl ⟨a,b,e,i,c,f,g,j,d,q⟩
def aY9 {H:Hp}{v v':V}{hd:Hdr}{m:Int}{pl:Plc}(h:jZ K H v pl)(h':jZ K H v' pl)(f:aS9 hd m pl):∃a b xs ys,v=.ref a/\v'=.ref b/\SqT K H a xs/\SqT K H b ys/\Al2 (DEq K H 40) xs ys:=by
 cases pl with
 |copies=>obtain⟨a,rfl,d⟩:=h;obtain⟨b,rfl,e⟩:=h';exact⟨a,b,_,_,rfl,rfl,d,e,.cons (.inl ⟨rfl,rfl⟩) .nil⟩
 |keys n=>obtain⟨a,rfl,d⟩:=h;obtain⟨b,rfl,e⟩:=h';exact⟨a,b,_,_,rfl,rfl,d,e,.cons (.inl ⟨rfl,rfl⟩) (.cons (.inl ⟨rfl,rfl⟩) .nil)⟩
 |spans n h0 cs=>obtain⟨_,g,_,_,c⟩:=f;exact aY3 h h' c
def plN:Plc->Str
 |.spans n _ _=>n
 |_=>""
def plH:Plc->Int
 |.spans _ h0 _=>h0
 |_=>0
def plC:Plc->List (V × Int)
 |.spans _ _ cs=>cs
 |_=>[]
inductive aKu (K:bFZ)(C Pt:Addr)(vs:List V)(H:Hp)(Q:VK)(E_:XK):Prop
 |mk (x d dm M R:Addr) (m:Int) (l1 l2:List En) (f:Str->Option Mv) (j:Nat) (e:En) (vh vp vm:V) (t:Tb) (o:Option Mv) (_:vs=[.ref x,.str e.n,.ref M,.int m]) (_:Sy K H C x m d dm M R l1 l2 f j e vh vp vm t o) (_:H Pt=some (.tab qC)) (_:∀H',Same H H'->Q (.bl true) H')
def aD4 (T:Txt w K mg){C Ct Pt:Addr}(oX:Ok P w K mg base 2 "_law_stood" o5 (zM K))(ba:Ok P w K mg base 3 "_law_stands" o5 (aC6 K))(l:OkM P w K mg base C 4 "moving" n6 (zF K C))(D:OkM P w K mg base C 13 "town" ["self"] (aQa K C Ct Pt))(u:OkM P w K mg base C 5 "stands" u6 (aDz K C))(B:OkM P w K mg base Ct 4 "placing" n6 (aC4 K Ct))(G:OkM P w K mg base Ct 4 "whole" n6 (wX K Ct))(J:OkM P w K mg base Ct 5 "part" u6 (aPg K Ct)):Ok P w K mg base 14 "_law_right" u5 (aKu K C Pt):=by
 refine Ok.ofV T.aIo uO (by trivial) (λf bb A au s H vs Q E hr h=>?_)
 obtain⟨x,d,dm,M,R,m,l1,l2,fm,j,e,vh,vp,vm,t,o,rfl,c,hP,q⟩:=h;have hU:=hr.units;have nd:=uO.nd;refine⟨_,(aC (aY 4 (aUy (D.mono (by decide)) hr (vv 0))) (aC (bO (VW.pt (fG (cX (yU hU) (fY G (vv 4) (va1 (vv 1))) (aK eY (by rfl) T.eO dG (va1 (aR bF (vv 2) aB)))) (fG (cX (aVm hU) (fY B (vv 4) (va1 (vv 1))) (aR bF (vv 2) aB)) (eE (cX ((aVm hU).or wN) (fY l (vv 0) (va1 (vv 1))) (aR bF (vv 2) aB)))))) (aD (aM jL)) aW) (aC (gG PassesOwn.never rfl (gA (by rfl) T.jK (va1 (vv 3))) (cZ 5) (aC (aY 6 (fY u (vv 0) (aH (vv 1) (va1 (vv 5))))) (aC (bO (cX (yU hU) (vv 6) (aV ba (aH (vv 2) (aH (vv 3) (va1 (vv 5)))))) (aD (aM jL)) aW) (aC (cM (aWx PySem.F.plainAttrs_list PySem.F.slot_list_clear PySem.F.type_list_clear aSl (vv 6))) (aD (bO (cX (yU hU) (fY J (vv 4) (aH (vv 1) (va1 (vv 5)))) (aV oX (aH (vv 2) (aH (vv 3) (va1 (vv 5)))))) (aD (aM jL)) aW)))))) (aD (aM jL))))),?_⟩;have ok:=c.ok;have bc:=ok.few;have m1:=c.m1;have m4:=c.m4;have he:=c.mem;have I:∀r∈t.rows,KdR (knds t.hd) r:=λr a=>gU (ok.rows r a);have a4:∀r∈srt t.rows,∀x∈r,(∃i,x=.int i)\/∃z,x=.str z:=λr a x hx=>aVx (I r (gC a)) x hx;obtain⟨dx,hx⟩:=c.st.at_;refine⟨_,rfl,x,dx,_,rfl,hx,rfl,x,d,dm,m,_,rfl,c.st,by lia,by lia,hP,λy d' H2 b9 hy bf s2 hT a1=>?_⟩;obtain⟨k1,Y,k2,rfl,_,⟨v2,be,ee,_⟩,_⟩:=aDl a1;have a2:Y∈k1++Y::k2:=bAA _ j5;have Z:Y.n=e.n:=by rw[ee];rfl
 have aj:Y.vp=e.vp:=by rw[ee];rfl
 have ab:Y.t={ t with rows:=srt t.rows }:=by rw[ee];show ({ e.t with rows:=srt e.t.rows }:Tb)=_;rw[c.et];show ({ t with rows:=srt (srt t.rows) }:Tb)=_;rw[zV I]
 have V:=c.same s2;obtain⟨⟨dy,a5⟩,_,_⟩:=id hT;refine⟨_,rfl,y,dy,_,rfl,a5,rfl,_,rfl,y,d',m,_,Y,by rw[Z];rfl,hT,a2,λLw H3 b6 s3 N=>?_⟩;rw[ab] at N;have N:bN K H3 Lw (srt t.rows):=N;have a7:=V.same s3;obtain⟨us,gR,a6⟩:=id a7.md.2.2.2;have bd:=a6.len;refine⟨_,rfl,M,_,2,_,rfl,rfl,SqL.of a7.md.1,at2 _ _ _ _,R,us,t.rows,knds t.hd,rfl,SqL.of gR,cN a6,by lia,iT ok.hd.1,I,λLb H4 am b5 s4 g4 h4=>?_⟩;obtain⟨uw,gw,hw⟩:=N.same s4;refine⟨Lw,Lb,uw,am,srt t.rows,rfl,rfl,SqL.of gw,SqL.of g4,cN hw,cN ((fV h4).imp λ_ _ z=>z.same s4),a4,_,rfl,cB ?_⟩;have S:=s3.trans s4;have ay:=V.same S;refine⟨_,rfl,y,dy,_,rfl,S _ _ a5,rfl,_,rfl,y,d',m,_,Y,by rw[Z];rfl,hT.same S,a2,λH5 s5=>?_⟩;have g:=ay.same s5;have p1:jZ K H5 e.vp t.pl:=by obtain⟨_,_,_,_,hp,_⟩:=g.st.ens.tb e he;rw[c.et] at hp;exact hp
 obtain⟨ra,rb,rx,ry,e3,e4,r1,r2,r3⟩:=aY9 p1 g.md.2.2.1 ok.pl;refine⟨_,rfl,M,_,1,_,rfl,rfl,SqL.of g.md.1,at1 _ _ _,ra,rb,rx,ry,by rw[aj];exact e3,e4,r1,r2,r3,_,rfl,cB ?_⟩;have ar:=S.trans s5;obtain⟨aq,as⟩:=g.st.at_;refine⟨_,rfl,x,aq,_,rfl,as,rfl,_,rfl,x,d,dm,m,_,e,o,rfl,g.st,he,g.mv,λv H6 s6 hv=>?_⟩;have aa:=g.same s6;have ai:=ar.trans s6;refine⟨_,rfl,M,_,3,_,rfl,rfl,SqL.of aa.md.1,cG (j:=3) rfl,bA9 hv aa.vm c.mk_ ⟨_,rfl,cB ?_⟩⟩;have W:∀mq,o=some mq->t.pl=.spans (plN t.pl) (plH t.pl) (plC t.pl)/\mq.house≠kI mq.num (plH t.pl) (plC t.pl):=λmq z=>by obtain⟨n,h0,cs,h1,h2,_⟩:=c.hn mq z;rw[h1];exact⟨rfl,h2⟩
 refine⟨_,rfl,m,rfl,by lia,by lia,iB (n:=m.toNat) (λj σ H'=>Same H2 H'/\∃l5 l6,σ=[some (.ref x),some (.str e.n),some (.ref M),some (.int m),some (.ref y),l5,l6]) ⟨ai,_,_,rfl⟩ (λj σ H7 hj p=>?_) fun σ H7 p=>?_⟩
 ·obtain⟨s7,l5,l6,rfl⟩:=p;have a3:0<=(0:Int)+(j:Int):=by lia
  have a0:(0:Int)+(j:Int)<m:=by lia
  generalize (0:Int)+(j:Int)=house at a3 a0;have L:=V.same s7;obtain⟨ao,al⟩:=L.st.at_;refine⟨_,rfl,x,ao,_,rfl,al,rfl,_,rfl,_,rfl,x,d,dm,m,house,_,e,o,plN t.pl,plH t.pl,plC t.pl,rfl,L.st,he,L.mv,λb O=>by rw[c.et];exact (W b O).1,λb O=>(W b O).2,λb q' O z2=>by rw[c.et];exact c.mk_ b q' O z2,a3,a0,λL8 H8 az s8 U=>?_⟩;rw[c.et] at U;have U:bN K H8 L8 (nQ t.hd m house t.pl o (plN t.pl) (plC t.pl) (srt t.rows)):=U;have a9:=L.same s8;refine⟨_,rfl,_,rfl,_,rfl,_,rfl,M,R,vh,vp,vm,t,o,m,house,plN t.pl,plH t.pl,plC t.pl,rfl,a9.md,a9.vm,ok,by lia,by lia,λb O=>(W b O).1,λb O=>(W b O).2,c.mk_,λL9 H9 b4 s9 ag=>?_⟩;obtain⟨u8,g8,h8⟩:=U.same s9;obtain⟨u9,g9,h9⟩:=ag;have av:∀r∈nQ t.hd m house t.pl o (plN t.pl) (plC t.pl) (srt t.rows),∀x∈r,(∃i,x=.int i)\/∃z,x=.str z:=λr a=>a4 r (by
   unfold nQ at a;cases o with
   |none=>exact (List.mem_filter.mp a).1
   |some mq=>
   dsimp only at a
   split at a
   ·rcases List.mem_append.mp (gC a) with z|z <;> exact (List.mem_filter.mp z).1
   ·exact (List.mem_filter.mp a).1)
  refine⟨L8,L9,u8,u9,_,rfl,rfl,SqL.of g8,SqL.of g9,cN h8,cN h9,av,_,rfl,cB ?_⟩;refine⟨_,rfl,.inl ⟨rfl,_,SqL.of g8⟩,L8,u8,rfl,rfl,g8,?_⟩;have sc:Same H2 (L2.upd H9 L8 (.lst [])):=s7.trans (gJ az (s8.trans s9));generalize L2.upd H9 L8 (.lst [])=Hc at sc ⊢;refine⟨_,rfl,y,dy,_,rfl,sc _ _ a5,rfl,_,rfl,_,rfl,y,d',m,house,_,Y,by rw[Z];rfl,hT.same sc,a2,a3,a0,λad ak b1 ae k=>?_⟩;rw[ab] at k;have k:bN K ak ad ((srt t.rows).filter λr=>bK t.hd m r house t.pl):=k;have X:=sc.trans ae;refine⟨_,rfl,_,rfl,_,rfl,M,R,vh,vp,vm,t,m,house,rfl,(V.same X).md,ok,by lia,by lia,λah b3 b2 ac a8=>?_⟩;obtain⟨b0,aw,af⟩:=k.same ac;obtain⟨an,ap,ax⟩:=a8;exact⟨ad,ah,b0,an,_,rfl,rfl,SqL.of aw,SqL.of ap,cN af,cN ax,λr a=>a4 r (List.mem_filter.mp a).1,_,rfl,cB ⟨X.trans ac,_,_,rfl⟩⟩
 ·obtain⟨s7,l5,l6,rfl⟩:=p;exact q H7 (s2.trans s7)
def Sy.fx {H H':Hp}{a C x d dm M R:Addr}{m:Int}{l1 l2:List En}{f:Str->Option Mv}{j:Nat}{e:En}{vh vp vm:V}{t:Tb}{o:Option Mv}(q:Fx a H H')(l:eV H a)(v:M≠a)(n:R≠a)(r:∀y∈l1++e::l2,y.L≠a)(h:Sy K H C x m d dm M R l1 l2 f j e vh vp vm t o):Sy K H' C x m d dm M R l1 l2 f j e vh vp vm t o:=by
 obtain⟨s,u,c,_⟩:=id l;obtain⟨p,g⟩:=h.st.at_;obtain⟨k,i,_⟩:=id h.mvs;refine h.kp (S:=λb=>b≠a) (KP.fx q l λz=>z rfl) (λz=>?_) (λz=>?_) (λz=>?_) v n r
 ·rw[z,c] at g;cases g
 ·have:=h.st.ens.at_;rw[z,c] at this;cases this
 ·rw[z,c] at i;cases i
inductive aJg (K:bFZ)(C:Addr)(vs:List V)(H:Hp)(Q:VK)(E_:XK):Prop
 |mk (st x d dm M R:Addr) (m:Int) (l1 l2:List En) (f:Str->Option Mv) (j:Nat) (e:En) (vh vp vm:V) (t:Tb) (n:Str) (h0:Int) (cs:List (V × Int)) (_:vs=[.ref st,.ref x,.str e.n,.ref M,.int m]) (_:eV H st) (_:Sy K H C x m d dm M R l1 l2 f j e vh vp vm t none) (_:t.pl=.spans n h0 cs) (_:2<=m) (_:M≠st) (_:R≠st) (_:(∀y∈l1++e::l2,y.L≠st)) (_:j<900) (_:∀vm' mq f' H',KP K (λb=>b≠st/\b≠M/\b≠dm) H H'->eV H' st->Sy K H' C x m d dm M R l1 l2 f' (j+1) e vh vp vm' t (some mq)->(∀k,k≠e.n->f' k=f k)->Q .non H')
def aIt (T:Txt w K mg){C:Addr}(aN:Ok P w K mg base 1 "_law_next" n8 iY)(c:OkM P w K mg base C 5 "lend" bQP (aPk K C)):Ok P w K mg base 6 "_law_lend" n7 (aJg K C):=by
 refine Ok.ofV T.aL0 yC (by trivial) (λf au A ah s H vs Q E hr h=>?_)
 obtain⟨st,x,d,O,M,R,m,l1,l2,fm,j,e,N,vp,vm,t,n,h0,S,rfl,hs,a,F,m2,nM,nR,nL,hj,q⟩:=h;have nd:=yC.nd;refine⟨_,(aC (aY 5 (aV aN (aH (vv 0) (va1 (aK aX (by rfl) T.dW cQ (va1 (aR aO (aR bF (vv 3) aB) aB))))))) (aC (aY 6 (bB lM (bB cY (bB cY (aR aO (aR aO (aR aO (aR bF (vv 3) aB) aB) (vv 5)) aB) aB) (aV aN (aH (vv 0) (va1 (bB aCn (vv 4) aB))))) (vv 4))) (aC (iD (bY (aH (vv 5) (aH (vv 6) (va1 jV)))) (pI (vv 3) aB set_list)) (aD (cM (fY c (vv 1) (aH (vv 2) (aH (vv 5) (va1 (vv 6)))))))))),?_⟩;have ok:=a.ok;have m4:=a.m4;obtain⟨gM,hI,a2,ap⟩:=id a.md;have aa:=ok.pl;rw[F] at a2 aa;obtain⟨b,vo,rfl,hb,⟨ca,cu,rfl,a7,a3⟩⟩:=id a2;obtain⟨_,kd,_,_,I⟩:=aa;have lc:=a3.len;rw[j9] at lc;have lf:=I.few;refine⟨_,rfl,_,rfl,M,_,1,_,rfl,rfl,SqL.of gM,at1 _ _ _,b,_,2,_,rfl,rfl,hb,at2 _ _ _ _,ca,cu,rfl,.inr a7,st,_,rfl,hs,⟨by lia,by lia⟩,λz H1 f1 z0 z1=>?_⟩;obtain⟨num,rfl⟩:∃num:Nat,z=num:=⟨z.toNat,by lia⟩;have a0:num<cu.length:=by lia
 obtain⟨G,a8,pc,af,ag⟩:=bV a3 (b8 a0);have ch:kI num h0 S=G.2:=by unfold kI;rw[j0,v5,a8];rfl
 have cb:0<=G.2/\G.2<m:=by
  rcases List.mem_cons.mp (v4 a8) with e1|e1
  ·rw[e1];exact I.first
  ·exact (I.each G e1).2
 have ai:=a.fx f1 hs nM nR nL;have B:=f1.tk (K:=K) hs;refine⟨_,rfl,M,_,1,_,rfl,rfl,SqL.of ai.md.1,at1 _ _ _,b,_,2,_,rfl,rfl,B _ _ hb,at2 _ _ _ _,_,rfl,ca,cu,_,cu[num],rfl,rfl,B _ _ a7,cG (b8 a0),pc,_,1,_,af,rfl,B _ _ ag,at1 _ _ _,?_⟩;refine⟨_,_,rfl,rfl,_,rfl,_,rfl,_,_,rfl,rfl,st,m - 1,rfl,f1.st,⟨by lia,by lia⟩,λz H2 f2 as aj=>⟨_,_,rfl,rfl,_,rfl,_,_,rfl,rfl,by lia,?_⟩⟩;obtain⟨v,eh⟩:∃v:Int,v=(G.2+1+z) % m:=⟨_,rfl⟩;show bR 6 (V.int ((G.2+1+z) % m)) _ _ _;rw[<-eh];have a9:v≠G.2:=by rcases (show m=2\/m=3\/m=4 by lia) with e1|e1|e1 <;> rw[e1] at eh cb aj <;> lia
 have a5:0<=v:=by rw[eh];exact bEE _ (by lia)
 have W:v<m:=by rw[eh];exact bDO _ (by lia)
 have ad:=f1.trans f2;refine⟨_,rfl,_,rfl,by show 3<=sizeLine;decide,λy D ar s3 g3=>?_⟩;have f3:=ad.sm s3;have p:=a.fx f3 hs nM nR nL;obtain⟨r,al,ac,ab⟩:=id p.md;refine⟨_,rfl,M,_,3,3,rfl,rfl,r,rfl,?_⟩;dsimp only[List.set];have L:KP K (λb=>b≠M) D (L2.upd D M (.lst [N,.ref b,.ref R,.ref y])):=.jO r λz=>z rfl;have g6:L2.upd D M (.lst [N,.ref b,.ref R,.ref y]) M=some (.lst [N,.ref b,.ref R,.ref y]):=aG;have a1:SqT K (L2.upd D M (.lst [N,.ref b,.ref R,.ref y])) y [.int (num:Nat),.int v,.non]:=SqT.jO r (SqT.of g3);generalize L2.upd D M (.lst [N,.ref b,.ref R,.ref y])=H6 at L g6 a1 ⊢;obtain⟨dx,X⟩:=p.st.at_;obtain⟨aq,J,_⟩:=id p.mvs;have no:∀{b u},D b=some u->(∀l,u≠.lst l)->b≠M:=λg hu z=>by rw[z,r] at g;cases g;exact hu _ rfl
 have a6:=no X λ_ z=>(by cases z);have ao:=no p.st.ens.at_ λ_ z=>(by cases z);have Y:=no J λ_ z=>(by cases z);have am:=p.st.kp L a6 ao p.n3;have ae:Mvs K H6 O fm j:=p.mvs.kp (λ_=>L.st _ _ Y) L.tk;have a4:e.t.pl=.spans n h0 S:=by rw[p.et];exact F
 refine⟨_,rfl,x,dx,_,rfl,L.st _ _ a6 X,rfl,_,rfl,_,rfl,_,rfl,x,d,O,m,_,e,n,h0,S,num,v,fm,j,rfl,am,p.mem,a4,ae,p.fo,hj,by lia,a5,W,by rw[ch];exact a9,λH7 k7 ak U=>?_⟩;have i:KP K (λb=>b≠M/\b≠O) D H7:=(L.mono λb z=>z.1).trans (k7.mono λb z=>z.2);have an:st≠O:=λz=>by obtain⟨_,_,e1,_⟩:=f3.st;rw[z,J] at e1;cases e1
 have Z:R≠O:=λz=>by obtain⟨_,e1,_⟩:=ab;rw[z,J] at e1;cases e1
 have y7:Sy K H7 C x m d O M R l1 l2 (fset fm e.n (some ⟨num,v,none⟩)) (j+1) e N (.ref b) (.ref y) t (some ⟨num,v,none⟩):=⟨ak,⟨k7.st _ _ Y.symm g6,al.tk i.tk,ac.tk i.tk,ab.kp i ⟨a.n1.symm,Z⟩⟩,U,if_pos rfl,⟨y,.non,rfl,k7.tk _ _ a1,rfl⟩,a.et,ok,λ_ _ z1 z2=>(by cases z1;cases z2),λ_ z1=>(by cases z1;exact⟨n,h0,S,F,by rw[ch];exact a9,by show num<=S.length;lia,a5,W⟩),a.m1,a.m4,a.n1,a.n2,a.n3⟩;exact q (.ref y) _ _ H7 (((KP.fx f3 hs λz=>z rfl).mono λb z=>z.1).trans (i.mono λb z=>z.2)) (aC9 f3.st λo h=>i.st _ _ ⟨nM.symm,an⟩ h) y7 λk hk=>if_neg hk
end
end My
namespace L2
open PySem PySem.Spec PyProof.Rows
end L2
namespace My
open PySem PySem.Spec PyProof.Rows L2
section
variable {P:Program}{w:World}{K:bFZ}{mg:bF2}{base:Heap}
def aBy (J:L2.St->Hp->Prop)(a:∀N:L2.St->Hp->Prop,(∀σ' H',J σ' H'->N σ' H')->S { D with nx:=N } σ H)(b:∀σ' H',J σ' H'->R D σ' H'):aBi S R D σ H:=a _ b
def aVl (Y N:Hp->Prop)(d:∀R:Bool->Hp->Prop,(∀H8,Y H8->R true H8)->(∀H8,N H8->R false H8)->c σ H R)(b:∀H8,Y H8->t D σ H8)(a:∀H8,N H8->u D σ H8):aR3 c t u D σ H:=
 d _ (λH8 y=>fB (b H8 y)) (λH8 y=>cB (a H8 y))
def qI (o:Option (List V))(S:List (List V)):Option (List V):=match S.getLast? with|none=>o|some r=>some r
def bCx (K:bFZ):R2:=λx y H Q=>∃a b us,x=.ref a/\y=.ref b/\SqL K H a us/\SqL K H b []/\Q (.bl us.isEmpty) H
def aTx (hu':X.A.units+64<cLine):OpR X (compareOp .Eq) (bCx X.K):=by
 intro i s σ H x y v u Q I l p h;have f:X.A.units<cLine:=by lia
 obtain⟨a,b,E,rfl,rfl,m,n,q⟩:=h;cases l;cases p;obtain⟨k,o,d,B⟩:=I.list m;obtain⟨w,g,c,D⟩:=I.list n;cases g;cases o with
 |nil=>refine SeqAt.RcAt.lists (e:=λ_=>true) d.isList c.isList rfl f (λj z C=>by simp at z) _ _ _ _ ?_;exact⟨.bl _,H,I,rfl,q⟩
 |cons r t=>exact SeqAt.RcAt.lists_lengths d.isList c.isList (by simp) (by lia) _ _ _ _ ⟨.bl _,H,I,rfl,q⟩
theorem bDs {ho:Int}:∀{k:Nat} {L:List (V × Int)} {c:V × Int},L[k]?=some c->L.take k++[(c.1,ho)]++L.drop (k+1)=aEf ho k L
 |0,[],_,h=>by cases h
 |0,_::_,_,h=>by cases h;rfl
 |_+1,[],_,h=>by cases h
 |k+1,a::L,c,h=>by have:=bDs (ho:=ho) (k:=k) (L:=L) (c:=c) (by simpa using h);show a::(L.take k++[(c.1,ho)]++L.drop (k+1))=a::aEf ho k L;rw[this]
def aQ1 {l1 l2:List En}{e e':En}{R:Addr}(b:e'.L=e.L)(h:∀y∈l1++e::l2,y.L≠R):∀y∈l1++e'::l2,y.L≠R:=λy a=>by
 rcases List.mem_append.mp a with z|z
 ·exact h y (bBF _ z)
 ·rcases List.mem_cons.mp z with rfl|z
  ·rw[b];exact h e (bAA _ j5)
  ·exact h y (bAA _ (j7 _ z))
inductive aGi (K:bFZ)(C:Addr)(vs:List V)(H:Hp)(Q:VK)(E_:XK):Prop
 |mk (st x d dm M R:Addr) (m:Int) (l1 l2:List En) (f:Str->Option Mv) (j:Nat) (e:En) (vh vp vm:V) (t:Tb) (mq:Mv) (_:vs=[.ref st,.ref x,.str e.n,.ref M]) (_:eV H st) (_:Sy K H C x m d dm M R l1 l2 f j e vh vp vm t (some mq)) (_:M≠st) (_:R≠st) (_:(∀y∈l1++e::l2,y.L≠st)) (_:j<900) (_:∀e' vp' vm' t' o' f' H',KP K (λb=>b≠st/\b≠M/\b≠dm/\b≠d) H H'->eV H' st->Sy K H' C x m d dm M R l1 l2 f' (j+1) e' vh vp' vm' t' o'->e'.n=e.n->e'.L=e.L->t'.rows=t.rows->(∀k,k≠e.n->f' k=f k)->Q .non H')
def aEb (T:Txt w K mg){C:Addr}(aN:Ok P w K mg base 1 "_law_next" n8 iY)(lY:Ok P w K mg base 2 "_law_of_span" bXE (aAd K))(ab:OkM P w K mg base C 5 "carry" bQZ (aKl K C))(a9:OkM P w K mg base C 6 "settle" n6 (aFt K C)):Ok P w K mg base 7 "_law_carry" o4 (aGi K C):=by
 refine Ok.ofV T.aI1 nC (by trivial) (λf ez A el s H vs Q E hr h=>?_)
 obtain⟨st,x,d,dm,M,R,m,l1,l2,fm,j,e,vh,vp,vm,t,a,rfl,hs,g,nM,nR,nL,hj,q⟩:=h;have hU:=hr.units;have nd:=nC.nd;refine⟨_,(aC (iD (aR bF (vv 3) aB) (uZ rfl (bC (cZ 4) (bC (cZ 5) (bC (cZ 6) fP))))) (aC (aBx (i0:=7) nC.nd rfl (by trivial) (N:=["_law_row_here","_law_mark"]) ck (eU (aF pL)) rfl (fM (aV lY (va1 (vv 3)))) (λcl s' H' fp=>⟨(fZ 0),(nJ (VW.pt (fG (cX aOj (vv 1) jV) (eE (cX (aZh (K:=K) hU) (vv 0) (vv 1)))))),(vv 0)⟩)) (aC (aY 8 (aV aN (aH (vv 0) (va1 aB)))) (aC (aY 9 (cR yK (aK (uA rfl) (by rfl) T.eO dG (va1 (cI (aE7 rfl hU) (by rfl) T.aPm aIg (va1 (vv 7))))) dO (dF (vv 8)))) (aC (cM (fY ab (vv 1) (aH (vv 2) (va1 (vv 8))))) (aC (bO (cX (aJ9 hU) (vv 9) (dY yP)) (aD (iD (bY (aH (vv 4) (aH (vv 5) (va1 (aR bF (vv 9) (aZ6 aT3 aB)))))) (pI (vv 3) aB set_list))) aW) (aD (bO (cX (aTx hU) (vv 7) (dY yP)) (aC (aY 10 (aR aO (aR bF (vv 3) aB) aB)) (aC (aY 10 (bB lC (bB lC (cR mX (vv 10) dO (dF (vv 4))) (bY (va1 (bY (aH (aR aO (aR aO (vv 10) (vv 4)) aB) (va1 (vv 5))))))) (cR mX (vv 10) (dF (bB cY (vv 4) aB)) dO))) (aC (iD (bY (aH bH (aH (aR aO (aR bF (vv 3) aB) aB) (va1 (vv 10))))) (pI (vv 3) aB set_list)) (aC (iD jV (pI (vv 3) aB set_list)) (aD (cM (fY a9 (vv 1) (va1 (vv 2))))))))) aW)))))))),?_⟩;have ok:=g.ok;have ew:=ok.few;have ls:=tH t.rows;have b2:=λU e0=>g.mk_ a U rfl e0;have ao:∀r∈t.rows,KdR (knds t.hd) r:=λr y=>gU (ok.rows r y);have ds:∀r∈srt t.rows,KdR (knds t.hd) r:=λr y=>ao r (gC y);obtain⟨n,X,L,ar,ey,ce,b0,b1⟩:=g.hn a rfl;obtain⟨ma,vk,rfl,dl,ec⟩:=id (show qM K H vm a from g.vm);refine⟨_,rfl,M,_,3,_,rfl,rfl,SqL.of g.md.1,cG (j:=3) rfl,ma,_,rfl,dl,rfl,_,_,rfl,_,_,rfl,_,_,rfl,rfl,?_⟩;dsimp only[bR,aBi,vB,List.set,mJ];refine jT [none,some vk] (lB 6 (by trivial) rfl rfl (by trivial)) ?_;refine⟨_,rfl,M,R,vh,vp,.ref ma,t,a,m,n,X,L,rfl,g.md,g.vm,ok,ar,λD1 H1 ex s1 c9=>?_⟩;obtain⟨w1,g1,h1⟩:=id c9;have f1:=bAX (gV t.hd n L a.num) (srt t.rows);refine⟨D1,rfl,⟨_,SqL.of g1⟩,tD c9 (by lia) (zU a.mark) rfl (λu r y H' R' l sm e4 rr=>?_) λD2 H2 da s2 av=>?_⟩
 ·have hm:=ec.same (s1.trans sm);cases bu:a.mark with
  |none=>rw[bu] at hm rr;have hm:vk=.non:=hm;subst hm;exact⟨_,rfl,rfl,_,rfl,gF (m9 rfl) (rr H' (Same.refl _))⟩
  |some U=>rw[bu] at hm rr;obtain⟨ka,rfl,f0⟩:=id hm;exact⟨_,rfl,rfl,_,rfl,dI (v6 λz=>by cases z) ⟨_,rfl,_,rfl,knds t.hd,r,U,e4,hm,ds r (List.mem_filter.mp y).1,gU (b2 U bu),_,rfl,rr H' (Same.refl _)⟩⟩
 rw[bEI] at av;have a7:=s1.trans s2;obtain⟨Wt,eW⟩:∃Wt,Wt=qG { t with rows:=srt t.rows } n L a.num a.mark:=⟨_,rfl⟩;have av:bN K H2 D2 Wt:=by rw[eW];exact av
 have kW:∀r∈Wt,r∈t.rows:=λr y=>by rw[eW] at y;exact gC (List.mem_filter.mp y).1
 have lW:Wt.length<=60:=by rw[eW];exact bAI (bAX _ _) (by show (srt t.rows).length<=60;lia)
 have ep:D2≠st:=(hs.same s1).ne da;refine⟨_,rfl,st,4,rfl,hs.same a7,by decide,λz H3 f3 z0 z1=>?_⟩;obtain⟨k2,rfl⟩:∃k2:Nat,z=k2:=⟨z.toNat,by lia⟩;have es:=f3.st;have ek:KP K (λb=>b≠st) H H3:=(KP.same a7).trans (.fx f3 (hs.same a7) λz=>z rfl);have d1:=(g.same a7).fx f3 (hs.same a7) nM nR nL;obtain⟨u2,g2,h2⟩:=av.kp (.fx (K:=K) (S:=λb=>b≠st) f3 (hs.same a7) λz=>z rfl) ep;have ev:=h2.len;refine⟨_,rfl,D2,u2,Wt,rfl,SqL.of g2,cN h2,λr y=>wR (ok.rows r (kW r y)),by lia,λD3 al as qs e5 bn ct aq ax=>?_⟩;have la:=aq.len;have ld:=ax.2.2;rw[j4] at la;refine⟨D3,as,qs,knds t.hd,rfl,ct,aq.imp λ_ _ z=>z.same bn,by lia,iT ok.hd.1,λr y=>ao r (kW r ((ax.2.1 r).mp y)),λB cf au hB bx d4 ci=>?_⟩;refine⟨_,rfl,(k2:Int),rfl,B,au,rfl,SqL.of d4,λp I hp bq bp=>?_⟩;rw[show pQ au none (some ((k2:Nat):Int))=au.take k2 from kY _ k2] at bp;have de:bW (cP K I) (au.take k2) ((srt qs).take k2):=(oK (fV ci) k2).imp λ_ _ z=>z.same (bx.trans bq);have a0:=bn.trans (bx.trans bq);have c:=d1.same a0;have bm:qM K I (.ref ma) a:=c.vm;obtain⟨S,eS⟩:∃S,S=(srt qs).take k2:=⟨_,rfl⟩;have dr:∀r∈S,jA t.hd r:=λr y=>by rw[eS] at y;exact ok.rows r (kW r ((ax.2.1 r).mp (gC (bCO y))))
 rw[<-eS] at de;have dj:bN K I p S:=⟨_,bp,de⟩;have dw:∀r∈Wt,KdR (knds t.hd) r:=λr y=>ao r (kW r y);have c8:KP K (λb=>b≠st) H I:=ek.trans (.same a0);have bh:=es.same a0;have ba:bN K I D2 Wt:=bN.same a0 ⟨u2,g2,h2⟩;clear bn bx bq ct aq d4 ci e5 hB f3 d1;obtain⟨dx,bd⟩:=c.st.at_;have b4:e.t.pl=.spans n X L:=by rw[g.et];exact ar
 obtain⟨eg,ac,_⟩:=id c.mvs;have nD:∀{b u},I b=some u->(∀l,u≠.dK l)->b≠dm:=λh hu z=>by rw[z,ac] at h;cases h;exact hu _ rfl
 have nd:∀{b u},I b=some u->(∀l,u≠.dK l)->b≠d:=λh hu z=>by have:=c.st.ens.at_;rw[z,this] at h;cases h;exact hu _ rfl
 have az:=nD c.md.1 λ_ z=>(by cases z);have cy:st≠dm:=λz=>by obtain⟨_,_,e1,_⟩:=bh;rw[z,ac] at e1;cases e1
 refine aBy (S:=aU7 _) (fun σ H'=>∃f',KP K (λb=>b≠dm) I H'/\bI K H' C x m d dm (l1++e::l2)/\Mvs K H' dm f' (j+1)/\f' e.n=some { a with mark:=qI a.mark S }/\(∀k,k≠e.n->f' k=fm k)/\σ=[some (.ref st),some (.ref x),some (.str e.n),some (.ref M),some (.int a.num),some (.int a.house),some vk,some (.ref D2),some (.int k2),some (.ref p),none]) (λNX ai=>?_) fun σ' c5 hJ=>?_
 ·refine⟨_,rfl,x,dx,_,rfl,bd,rfl,_,rfl,_,rfl,x,d,dm,m,_,e,a,n,X,L,k2,fm,j,rfl,c.st,g.mem,c.mvs,g.fo,hj,b4,λU e0=>by rw[g.et];exact b2 U e0,λe3 b3=>?_⟩;rw[g.et,<-eW] at b3;have eq:(srt e3).take k2=S:=by rw[eS,aW3 b3 ax dw]
  rw[eq];refine⟨λd6 c5 bk=>ai _ _ ⟨fm,.same bk,c.st.same bk,?_,?_,λ_ _=>rfl,rfl⟩,λr hl c5 a8 af Y=>ai _ _ ⟨_,a8,af,Y,?_,λk hk=>if_neg hk,rfl⟩⟩
  ·obtain⟨kv,a1,a2,a3⟩:=c.mvs.same bk;exact⟨kv,a1,by lia,a3⟩
  ·rw[d6];exact g.fo
  ·rw[show qI a.mark S=some r by unfold qI;rw[hl]];exact if_pos rfl
 obtain⟨f',a8,af,Y,aw,dg,rfl⟩:=hJ;have cq:=c.md.kp a8 az (by obtain⟨uR,gR,_⟩:=id c.md.2.2.2;exact nD gR λ_ z=>(by cases z));have bv:=bm.tk a8.tk;obtain⟨cw,d0,bf⟩:=id (dj.kp a8 (nD bp λ_ z=>(by cases z)));have lS:=bf.len;have e9:∀U,qI a.mark S=some U->jA t.hd U:=λU e0=>by
  unfold qI at e0
  split at e0
  ·exact b2 U e0
  ·rename_i r hl;cases e0;exact dr _ (List.mem_of_getLast? hl)
 refine aBy (S:=aR3 _ _ _) (fun σ H'=>∃Z,Sy K H' C x m d dm M R l1 l2 f' (j+1) e vh vp Z t (some { a with mark:=qI a.mark S })/\KP K (λb=>b≠M/\b≠dm) I H'/\σ=[some (.ref st),some (.ref x),some (.str e.n),some (.ref M),some (.int a.num),some (.int a.house),some vk,some (.ref D2),some (.int k2),some (.ref p),none]) (λNX ai=>?_) fun σ' f2 hJ=>?_
 ·refine⟨_,rfl,by show 0<=sizeLine;decide,λp9 aa e8 F c4=>⟨p,p9,_,rfl,rfl,SqL.of (F _ _ d0),SqL.of c4,_,rfl,?_⟩⟩;have b6:=cq.same F;have c3:=bv.same F;have be:=af.same F;have ak:=Y.same F;have cg:KP K (λb=>b≠M/\b≠dm) I aa:=(a8.mono λb z=>z.2).trans (.same F);have dh:∀G U,some { a with mark:=qI a.mark S }=some G->G.mark=some U->jA t.hd U:=λG U z1 z2=>by cases z1;exact e9 U z2
  have dd:∀G,some { a with mark:=qI a.mark S }=some G->∃n X L,t.pl=.spans n X L/\G.house≠kI G.num X L/\G.num<=L.length/\0<=G.house/\G.house<m:=λG z1=>by cases z1;exact g.hn a rfl
  have dn:∀i u,cw[i]?=some u->∃r,S[i]?=some r/\cP K c5 u r:=λi u z=>bV bf z;cases cw with
  |nil=>have e0:S=[]:=bAQ lS.symm;refine dI rfl (ai _ _ ⟨.ref ma,⟨be,b6,ak,aw,?_,g.et,ok,dh,dd,g.m1,g.m4,g.n1,g.n2,g.n3⟩,cg,rfl⟩);rw[e0];exact c3
  |cons u0 ur=>
   refine gF rfl ?_;obtain⟨ul,cx⟩:∃ul,(u0::ur)[(u0::ur).length - 1]?=some ul:=⟨_,b8 (by rw[j9];lia)⟩;obtain⟨r,du,ed⟩:=dn _ _ cx;have hl:S.getLast?=some r:=by rw[List.getLast?_eq_getElem?,<-lS];exact du
   refine⟨_,rfl,_,rfl,_,rfl,_,rfl,p,_,_,ul,rfl,rfl,SqL.of (F _ _ d0),aQn cx,by show 3<=sizeLine;decide,λaj cn _ ah eb=>?_⟩;have W:=b6.same ah;refine⟨_,rfl,M,_,3,3,rfl,rfl,W.1,rfl,?_⟩;rw[show ([vh,vp,V.ref R,V.ref ma]:List V).set 3 (V.ref aj)=[vh,vp,.ref R,.ref aj] from rfl];have O:KP K (λb=>b≠M) cn (L2.upd cn M (.lst [vh,vp,.ref R,.ref aj])):=.jO W.1 λz=>z rfl;have nM:∀{b u},I b=some u->(∀l,u≠.lst l)->b≠M:=λh hu z=>by rw[z,c.md.1] at h;cases h;exact hu _ rfl
   refine ai _ _ ⟨.ref aj,⟨(be.same ah).kp O (nM bd λ_ z=>(by cases z)) (nM c.st.ens.at_ λ_ z=>(by cases z)) g.n3,⟨aG,W.2.1.tk O.tk,W.2.2.1.tk O.tk,W.2.2.2.kp O g.n1.symm⟩,(ak.same ah).kp (λ_=>O.st _ _ (nM ac λ_ z=>(by cases z))) O.tk,aw,⟨aj,ul,rfl,O.tk _ _ (SqT.of eb),?_⟩,g.et,ok,dh,dd,g.m1,g.m4,g.n1,g.n2,g.n3⟩,cg.trans ((KP.same ah).trans (O.mono λb z=>z.1)),rfl⟩;show aH4 K _ ul (qI a.mark S);rw[show qI a.mark S=some r by unfold qI;rw[hl]];obtain⟨b,e1,hb⟩:=ed;exact⟨b,e1,O.tk _ _ ((F.trans ah).aP hb)⟩
 obtain⟨Z,df,bj,rfl⟩:=hJ;have en:D2≠M:=(aL (g.same s1).md.1 da).symm;have cd:eV _ st:=aC9 bh λo h=>bj.st _ _ ⟨nM.symm,cy⟩ h;have d5:=ba.kp bj ⟨en,by obtain⟨uR,gR,_⟩:=id ba;exact nD gR λ_ z=>(by cases z)⟩;refine⟨_,rfl,by show 0<=sizeLine;decide,λp9 aa e8 F c4=>?_⟩;obtain⟨uD,gD,er⟩:=id (d5.same F);have lD:=er.len;have D:=df.same F;have ap:=cd.same F;have b5:KP K (λb=>b≠st/\b≠M/\b≠dm/\b≠d) H aa:=(c8.mono λb z=>z.1).trans ((bj.mono λb z=>⟨z.2.1,z.2.2.1⟩).trans (.same F));refine⟨D2,p9,uD,rfl,rfl,SqL.of gD,SqL.of c4,_,rfl,?_⟩;cases uD with
 |cons u0 ur=>exact dI rfl (q e vp Z t _ f' aa b5 ap D rfl rfl rfl dg)
 |nil=>
  have cu:Wt=[]:=bAQ lD.symm;have ee:qs=[]:=bAQ (by rw[cu] at ld;simpa using ld);have dz:S=[]:=by rw[eS,List.eq_nil_iff_forall_not_mem];intro r y;have:=gC (bCO y);rw[ee] at this;cases this
  have em:qI a.mark S=a.mark:=by rw[dz];rfl
  rw[em] at D aw;have hW:qG e.t n L a.num a.mark=[]:=by rw[g.et,<-eW];exact cu
  refine gF rfl ?_;have cm:jZ K aa vp (.spans n X L):=by rw[<-ar];exact D.md.2.2.1
  have cz:=ok.pl;rw[ar] at cz;obtain⟨ej,kd,hk,dv,d3⟩:=cz;obtain⟨a5,dq,_,⟨uR,c2,ei⟩⟩:=id D.md;obtain⟨b,vo,rfl,hb,⟨cc,us,rfl,bl,bt⟩⟩:=cm;have lu:=bt.len;rw[j9] at lu;have cj:a.num<us.length:=by lia
  obtain⟨c0,ef,pc,ea,dt⟩:=bV bt (b8 cj);have eu:=d3.few;refine⟨_,rfl,M,_,1,_,rfl,rfl,SqL.of a5,at1 _ _ _,b,_,2,_,rfl,rfl,hb,at2 _ _ _ _,?_⟩;dsimp only[bR,List.set];refine⟨_,rfl,_,rfl,_,rfl,cc,us,rfl,bl,λp5 H5 s5 g5=>?_⟩;rw[kY] at g5;refine⟨_,rfl,_,rfl,cc,us,_,us[a.num],rfl,rfl,s5.aP bl,cG (b8 cj),pc,_,0,_,ea,rfl,s5.aP dt,at0 _ _,_,rfl,by show 2<=sizeLine;decide,λt6 H6 _ s6 g6=>⟨by show 1<=sizeLine;decide,λt7 H7 _ s7 g7=>?_⟩⟩;refine⟨p5,t7,_,_,rfl,rfl,(s6.trans s7).aP g5,SqT.of g7,small (by rw[bAC];show _+1<=1000;lia),λp8 H8 s8 g8=>?_⟩;have db:=s5.trans (s6.trans (s7.trans s8));have eN:((a.num:Nat):Int)+1=((a.num+1:Nat):Int):=rfl;refine⟨_,rfl,_,rfl,_,_,rfl,rfl,_,rfl,cc,us,rfl,db.aP bl,λp9 H9 s9 g9=>?_⟩;rw[eN,lJ] at g9;refine⟨p8,p9,_,_,rfl,rfl,s9.aP g8,g9,small (by rw[v9,bAC,bBE];show _+1+_<=1000;lia),λc1 bo cr e7=>?_⟩;have a4:=db.trans (s9.trans cr);have bs:kJ K bo (eQ K bo) (.ref c1) ((.non,wO a.num a.house X)::wU a.num a.house L):=⟨c1,_,rfl,e7,by rw[<-bE1,<-bDs ef];have bi:bW (eQ K bo) us ((.non,X)::L):=bt.imp λ_ _ ⟨p',e1,e2⟩=>⟨p',e1,a4.aP e2⟩;exact bW.app (bW.app (oK bi _) (.cons ⟨t6,rfl,SqT.of (cr _ _ (s9 _ _ (s8 _ _ (s7 _ _ g6))))⟩ .nil)) (vA bi _)⟩
  have cv:=a4 _ _ a5;refine⟨_,rfl,M,_,1,_,rfl,rfl,SqL.of cv,at1 _ _ _,b,_,1,_,rfl,rfl,a4.aP hb,at1 _ _ _,_,rfl,by show 3<=sizeLine;decide,λJ am _ c7 eh=>?_⟩;have b9:=a4.trans c7;have bg:=b9 _ _ a5;refine⟨_,rfl,M,_,1,1,rfl,rfl,bg,rfl,?_⟩;dsimp only[List.set];have ae:KP K (λb=>b≠M) am (L2.upd am M (.lst [vh,.ref J,.ref R,Z])):=.jO bg λz=>z rfl;have ag:L2.upd am M (.lst [vh,.ref J,.ref R,Z]) M=some (.lst [vh,.ref J,.ref R,Z]):=aG;generalize L2.upd am M (.lst [vh,.ref J,.ref R,Z])=H12 at ae ag ⊢;refine⟨_,rfl,M,_,3,3,rfl,rfl,ag,rfl,?_⟩;dsimp only[List.set];have ad:KP K (λb=>b≠M) H12 (L2.upd H12 M (.lst [vh,.ref J,.ref R,.non])):=.jO ag λz=>z rfl;have bb:L2.upd H12 M (.lst [vh,.ref J,.ref R,.non]) M=some (.lst [vh,.ref J,.ref R,.non]):=aG;generalize L2.upd H12 M (.lst [vh,.ref J,.ref R,.non])=al at ad bb ⊢;have kM:KP K (λb=>b≠M) aa al:=(KP.same b9).trans (ae.trans ad);obtain⟨dy,c6⟩:=D.st.at_;have an:=D.st.ens.at_;obtain⟨_,ay,_⟩:=id D.mvs;have cb:x≠M:=λz=>by rw[z,a5] at c6;cases c6
  have az:M≠d:=λz=>by rw[<-z,a5] at an;cases an
  have bc:M≠dm:=λz=>by rw[<-z,a5] at ay;cases ay
  have e6:R≠d:=λz=>by rw[<-z,c2] at an;cases an
  have dc:R≠dm:=λz=>by rw[<-z,c2] at ay;cases ay
  have ch:st≠d:=λz=>by obtain⟨_,_,e1,_⟩:=ap;rw[z,an] at e1;cases e1
  have dk:=D.st.kp kM cb az.symm g.n3;have bz:=D.mvs.kp (λ_=>kM.st _ _ bc.symm) kM.tk;have ca:∀p xs,SqT K am p xs->SqT K al p xs:=λp xs z=>ad.tk _ _ (ae.tk _ _ z);have br:jZ K al (.ref J) (.spans n (wO a.num a.house X) (wU a.num a.house L)):=jZ.tk (pl:=.spans n (wO a.num a.house X) (wU a.num a.house L)) ca ⟨J,.ref c1,rfl,SqT.of eh,kJ.same c7 (λ_ _ z=>z.same c7) bs⟩;have di:eV al st:=aC9 ap λo h=>kM.st _ _ nM.symm h;refine⟨_,rfl,x,dy,_,rfl,kM.st _ _ cb c6,rfl,_,rfl,x,d,dm,m,l1,l2,e,a,n,X,L,f',j+1,rfl,dk,b4,bz,aw,λU e0=>by rw[g.et];exact b2 U e0,hW,ce,b0,b1,λv' eo cf a6 cp bw=>?_⟩;have dp:jR m { t with pl:=.spans n (wO a.num a.house X) (wU a.num a.house L) }:=⟨ok.hd,⟨ej,kd,hk,dv,aPy a.num d3 b0 b1⟩,ok.few,ok.rows⟩;have co:=(b5.trans (kM.mono λb z=>z.2.1)).trans (a6.mono λb z=>⟨z.2.2.2,z.2.2.1⟩);refine q { e with v:=v',vp:=eo,t:={ e.t with pl:=.spans n (wO a.num a.house X) (wU a.num a.house L) } } (.ref J) .non { t with pl:=.spans n (wO a.num a.house X) (wU a.num a.house L) } none (fset f' e.n none) cf co (aC9 di λo h=>a6.st _ _ ⟨ch,cy⟩ h) ⟨cp,⟨a6.st _ _ ⟨az,bc⟩ bb,(dq.tk kM.tk).tk a6.tk,br.tk a6.tk,?_⟩,bw,?_,rfl,?_,dp,λ_ _ z=>(by cases z),λ_ z=>(by cases z),g.m1,g.m4,g.n1,aQ1 (e:=e) rfl g.n2,aQ1 (e:=e) rfl g.n3⟩ rfl rfl rfl λk d2=>?_
  ·exact (bN.kp kM g.n1.symm ⟨uR,c2,ei⟩).kp a6 ⟨e6,dc⟩
  ·exact if_pos rfl
  ·show ({ e.t with pl:=.spans n (wO a.num a.house X) (wU a.num a.house L) }:Tb)=_;rw[g.et]
  ·exact (if_neg d2).trans (dg k d2)
theorem aFk:∀{hd:Hdr},look hd n=some kd->fQ (hd.map λc=>((Sum.inr c.1:Key),V.str c.2)) (Sum.inr n)=some (.str kd)
 |[],h=>by cases h
 |c::hd,h=>by
  unfold look at h;rw[bAF];rw[bBV] at h;by_cases z:c.1=n
  ·rw[m9 z] at h;cases h;rw[z];exact dC rfl
  ·rw[v6 z] at h;rw[cU λq=>z (Sum.inr.inj q)];exact aFk h
def bBv {H:Hp}{us:List V}{hd:Hdr}(h:bW (IsC K H) us hd):aL9 K H us (hd.map λc=>((Sum.inr c.1:Key),V.str c.2)):=by
 induction h with
 |nil=>exact .nil
 |cons r _ ih=>obtain⟨p,e,a⟩:=r;exact .cons ⟨p,e,a⟩ ih
def bE5 {hd:Hdr}(h:Good hd):((hd.map λc=>((Sum.inr c.1:Key),V.str c.2)).map (·.1)).Nodup:=by rw[bBW];have e:=h.1;exact List.pairwise_map.mpr ((List.pairwise_map.mp e).imp λ{a b} d z=>d (Sum.inr.inj z))
inductive aGg (K:bFZ)(C:Addr)(vs:List V)(H:Hp)(Q:VK)(E_:XK):Prop
 |mk (st x d dm M R:Addr) (m:Int) (l1 l2:List En) (f:Str->Option Mv) (j:Nat) (e:En) (vh vp vm:V) (t:Tb) (n:Str) (h0:Int) (cs:List (V × Int)) (_:vs=[.ref st,.ref x,.str e.n,.ref M]) (_:eV H st) (_:Sy K H C x m d dm M R l1 l2 f j e vh vp vm t none) (_:t.pl=.spans n h0 cs) (_:M≠st) (_:R≠st) (_:(∀y∈l1++e::l2,y.L≠st)) (_:∀e' vp' t' H',KP K (λb=>b≠st/\b≠M/\b≠d) H H'->eV H' st->Sy K H' C x m d dm M R l1 l2 f j e' vh vp' vm t' none->e'.n=e.n->e'.L=e.L->t'.rows=t.rows->Q .non H')
def aEh (T:Txt w K mg){C:Addr}(iJ:Ok P w K mg base 3 "_law_value" bQM aBr)(jN:Ok P w K mg base 1 "_law_span" o9 (xZ K))(O:OkM P w K mg base C 6 "split" bXB (aJ0 K C)):Ok P w K mg base 7 "_law_split" o4 (aGg K C):=by
 refine Ok.ofV T.aG2 uI (by trivial) (λf bn A bh s H vs Q E hr h=>?_)
 obtain⟨st,x,d,dm,M,R,m,l1,l2,fm,j,e,vh,vp,vm,t,n,k,u,rfl,hs,I,a9,nM,nR,nL,q⟩:=h;have hU:=hr.units;have hu:=mC hr;have ok:=I.ok;have as:=ok.pl;rw[a9] at as;obtain⟨bf,kd,hk,ap,a2⟩:=as;obtain⟨gM,hI,bg,⟨rs,gR,bp⟩⟩:=id I.md;have a4:=bg;rw[a9] at a4;obtain⟨b,vo,rfl,hb,ba⟩:=a4;obtain⟨cc,us,rfl,b6,a7⟩:=id ba;obtain⟨ha,ax,rfl,bk,an⟩:=id hI;have lu:=a7.len;rw[j9] at lu;have bo:=a2.few;have l8:=ok.hd.1.2.2;have lh:=an.len;have nd:=uI.nd;refine⟨_,(aC (aY 4 (aR aO (aR bF (vv 3) aB) aB)) (aC (aY 5 (aV iJ (aH (vv 0) (va1 (iK hu (cI (aO5 rfl) (by rfl) T.aOy aI5 (va1 (aR bF (vv 3) aB))) (aR aO (aR bF (vv 3) aB) aB) (λ_ _=>rfl)))))) (aD (bO (VW.pt (aDy (cX aJf (aK aX (by rfl) T.dW cQ (va1 (vv 4))) aB) (aBu (aIa pY (vv 5) (cJ (N:=["_law_cut"]) ck iM rfl (nU (vv 4)) (λcl s' H' fp=>⟨(fZ 0),fH,(aR (bL (K:=K)) (vv 0) aB)⟩)) (by with_unfolding_all rfl))))) (aC (aY 6 (aV jN (aH (vv 4) (va1 (vv 5))))) (aC (aY 4 (bB lC (bB lC (cR mX (vv 4) dO (dF (bB cY (vv 6) aB))) (bY (va1 (bY (aH (vv 5) (va1 (aR aO (aR aO (vv 4) (vv 6)) aB))))))) (cR mX (vv 4) (dF (bB cY (vv 6) aB)) dO))) (aC (iD (bY (aH bH (aH (aR aO (aR bF (vv 3) aB) aB) (va1 (vv 4))))) (pI (vv 3) aB set_list)) (aD (cM (fY O (vv 1) (aH (vv 2) (va1 (vv 5))))))))) aW)))),?_⟩;refine⟨_,rfl,M,_,1,_,rfl,rfl,SqL.of gM,at1 _ _ _,b,_,2,_,rfl,rfl,hb,at2 _ _ _ _,?_⟩;dsimp only[bR,List.set];refine⟨_,rfl,_,rfl,M,_,0,_,rfl,rfl,SqL.of gM,at0 _ _,ha,ax,_,rfl,bk,bBv an,by lia,λp H1 hp s1 g1=>?_⟩;rw[uU _ [] (by rw[bCX];exact bE5 ok.hd.1),bCX] at g1;refine⟨_,rfl,M,_,1,_,rfl,rfl,SqL.of (s1 _ _ gM),at1 _ _ _,b,_,1,_,rfl,rfl,s1.aP hb,at1 _ _ _,p,.str kd,rfl,.inl ⟨_,Sum.inr n,.inl g1,rfl,(aFk hk).symm⟩,?_⟩;refine⟨st,kd,rfl,hs.same s1,ap,λG H2 f2 a0=>?_⟩;have b5:(((V.non,k)::u).map (·.1)).all iG=true:=by rw[bAF,bFY,List.all_eq_true.mpr λy hy=>?_];rfl;obtain⟨c',ag,rfl⟩:=List.mem_map.mp hy;exact rB (a2.each c' ag).1
 dsimp only[bR,List.set];have ac:=(I.same s1).fx f2 (hs.same s1) nM nR nL;have L:KP K (λb=>b≠st) H H2:=(KP.same s1).trans (.fx f2 (hs.same s1) λz=>z rfl);have aa:=f2.st;have c:=L.tk _ _ b6;have v2:=rB a0;refine aVl (λH8=>Same H2 H8/\u.length+1<8/\inV G (((V.non,k)::u).map (·.1))=false) (λH8=>Same H2 H8) (λRR hT hF=>?_) (λH3 z=>?_) λH3 s3=>?_
 ·refine⟨_,rfl,cc,_,rfl,.inr c,_,_,rfl,rfl,_,rfl,?_⟩;by_cases l:((us.length:Nat):Int)<8
  ·refine gF (m9 l) ⟨_,rfl,?_⟩;refine oE [none] oU ⟨_,rfl,cc,rfl,⟨_,c⟩,aDb (zQ λH' s'=>s'.aP c) (oM λH' s'=>s'.aP c) ⟨none,rfl⟩ (by lia) (((.non,k)::u).map (·.1)) (by rw[j4,j9];lia) (λi x z ex ez H' R' l sm r=>?_) λD H6 s6 nL gL=>?_⟩
   ·obtain⟨c',ag,p',rfl,b9⟩:=bV a7 ex;rw[v5,ag] at ez;cases ez;exact⟨_,rfl,p',_,0,_,rfl,rfl,sm.aP (L.tk _ _ b9),at0 _ _,r H' (Same.refl _)⟩
   refine⟨D,_,rfl,.inl (SqL.of gL),v2,b5,_,rfl,?_⟩;rw[if_pos rfl];cases bj:inV G (((V.non,k)::u).map (·.1)) with
   |true=>exact hF _ s6
   |false=>exact hT _ ⟨s6,by lia,bj⟩
  ·exact dI (v6 l) (hF _ (Same.refl _))
 ·obtain⟨s3,aw,av⟩:=z;have S:bW (eQ K H2) us ((.non,k)::u):=a7.imp λ_ _ ⟨p',e1,e2⟩=>⟨p',e1,L.tk _ _ e2⟩;have bc:=L.tk _ _ hb;have ae:=ac.md.1;refine⟨_,rfl,_,rfl,.ref cc,G,kd,m,k,u,rfl,kJ.same s3 (λ_ _ z=>z.same s3) ⟨cc,us,rfl,c,S⟩,a2,a0,λH4 s4=>?_⟩;have b2:=s3.trans s4;have be:=wJ G u;have ad:dU G u 1 0<us.length:=by lia
  obtain⟨c0,ar,pc,ai,b4⟩:=bV S (b8 ad);have eA:c0.2=atH G k u:=by unfold atH;rw[j0,v5,ar];rfl
  have eI:((.non,k)::u).take (dU G u 1 0+1)++[(G,c0.2)]++((.non,k)::u).drop (dU G u 1 0+1)=(.non,k)::sW G k u:=by unfold sW;rw[eA,bFJ,List.drop_succ_cons,bCD];rfl
  generalize dU G u 1 0=Nn at be ad ar eI ai ⊢;have eN:((Nn:Nat):Int)+1=((Nn+1:Nat):Int):=rfl;dsimp only[bR,List.set];refine⟨_,rfl,_,rfl,_,_,rfl,rfl,_,rfl,cc,us,rfl,b2.aP c,λp1 H4 s4 g4=>?_⟩;rw[eN,kY] at g4;have af:=b2.trans s4;refine⟨_,rfl,_,rfl,_,rfl,cc,us,_,us[Nn],rfl,rfl,af.aP c,cG (b8 ad),pc,_,1,_,ai,rfl,af.aP b4,at1 _ _ _,by show 2<=sizeLine;decide,λt1 H5 _ s5 g5=>⟨by show 1<=sizeLine;decide,λt2 H6 _ s6 g6=>?_⟩⟩;refine⟨p1,t2,_,_,rfl,rfl,(s5.trans s6).aP g4,SqT.of g6,small (by rw[bAC];show _+1<=1000;lia),λp7 H7 s7 g7=>?_⟩;have aq:=af.trans (s5.trans (s6.trans s7));refine⟨_,rfl,_,rfl,_,_,rfl,rfl,_,rfl,cc,us,rfl,aq.aP c,λp8 H8 s8 g8=>?_⟩;rw[eN,lJ] at g8;refine⟨p7,p8,_,_,rfl,rfl,s8.aP g7,g8,small (by rw[v9,bAC,bBE];show _+1+_<=1000;lia),λp9 H9 s9 g9=>?_⟩;have a3:=aq.trans (s8.trans s9);have b0:kJ K H9 (eQ K H9) (.ref p9) ((.non,k)::sW G k u):=⟨p9,_,rfl,g9,by rw[<-eI];have ay:bW (eQ K H9) us ((.non,k)::u):=S.imp λ_ _ z=>z.same a3;exact bW.app (bW.app (oK ay _) (.cons ⟨t1,rfl,SqT.of (s9 _ _ (s8 _ _ (s7 _ _ (s6 _ _ g5))))⟩ .nil)) (vA ay _)⟩
  refine⟨_,rfl,M,_,1,_,rfl,rfl,SqL.of (a3 _ _ ae),at1 _ _ _,b,_,1,_,rfl,rfl,a3.aP bc,at1 _ _ _,_,rfl,by show 3<=sizeLine;decide,λJ a1 _ a8 bi=>?_⟩;have B:=a3.trans a8;have ah:=kJ.same a8 (λ_ _ z=>z.same a8) b0;refine⟨_,rfl,M,_,1,1,rfl,rfl,B _ _ ae,rfl,?_⟩;dsimp only[List.set];have X:KP K (λb=>b≠M) a1 (L2.upd a1 M (.lst [.ref ha,.ref J,.ref R,vm])):=.jO (B _ _ ae) λz=>z rfl;have a5:L2.upd a1 M (.lst [.ref ha,.ref J,.ref R,vm]) M=some (.lst [.ref ha,.ref J,.ref R,vm]):=aG;generalize L2.upd a1 M (.lst [.ref ha,.ref J,.ref R,vm])=H11 at X a5 ⊢;have a:=ac.same B;obtain⟨dx,Y⟩:=a.st.at_;have W:=a.st.ens.at_;obtain⟨_,az,_⟩:=id a.mvs;have U:=a.md.1;have a6:=a.md.2.2.2;have am:x≠M:=λz=>by rw[z,U] at Y;cases Y
  have b1:M≠d:=λz=>by rw[<-z,U] at W;cases W
  have al:M≠dm:=λz=>by rw[<-z,U] at az;cases az
  have bl:dm≠d:=λz=>I.st.ne z.symm;have bd:R≠d:=λz=>by obtain⟨_,g,_⟩:=a6;rw[<-z,g] at W;cases W
  have bb:st≠d:=λz=>by obtain⟨_,_,e1,_⟩:=aa.same B;rw[z,W] at e1;cases e1
  have au:=a.st.kp X am b1.symm I.n3;have Z:=a.mvs.kp (λ_=>X.st _ _ al.symm) X.tk;have aj:eV H11 st:=aC9 (aa.same B) λo h=>X.st _ _ nM.symm h;have ak:e.t.pl=.spans n k u:=by rw[I.et];exact a9
  refine⟨_,rfl,x,dx,_,rfl,X.st _ _ am Y,rfl,_,rfl,_,rfl,x,d,dm,m,l1,l2,e,G,n,kd,k,u,rfl,au,ak,by rw[I.et];exact hk,a0,Z.d e.n I.fo,aw,av,λv' bm b3 F ao=>?_⟩;have ab:jZ K b3 (.ref J) (.spans n k (sW G k u)):=jZ.tk (pl:=.spans n k (sW G k u)) (λp xs z=>F.tk _ _ (X.tk _ _ z)) ⟨J,.ref p9,rfl,SqT.of bi,ah⟩;refine q { e with v:=v',vp:=bm,t:={ e.t with pl:=.spans n k (sW G k u) } } (.ref J) { t with pl:=.spans n k (sW G k u) } b3 (((L.mono λb z=>z.1).trans ((KP.same B).trans (X.mono λb z=>z.2.1))).trans (F.mono λb z=>z.2.2)) (aC9 aj λo h=>F.st _ _ bb h) ⟨ao,⟨F.st _ _ b1 a5,(a.md.2.1.tk X.tk).tk F.tk,ab,(a6.kp X I.n1.symm).kp F bd⟩,Z.kp (λ_=>F.st _ _ bl) F.tk,I.fo,(a.vm.tk X.tk).tk F.tk,?_,⟨ok.hd,⟨bf,kd,hk,ap,aQp a2 a0 aw av⟩,ok.few,ok.rows⟩,λ_ _ z=>(by cases z),λ_ z=>(by cases z),I.m1,I.m4,I.n1,aQ1 (e:=e) rfl I.n2,aQ1 (e:=e) rfl I.n3⟩ rfl rfl rfl;show ({ e.t with pl:=.spans n k (sW G k u) }:Tb)=_;rw[I.et]
 ·exact q e (.ref b) t H3 ((L.mono λb z=>z.1).trans (.same s3)) (aa.same s3) (ac.same s3) rfl rfl rfl
end
section
variable {K:bFZ}
def Sy.upd {H H':Hp}{C x d B M R:Addr}{m:Int}{s v:List En}{f:Str->Option Mv}{j:Nat}{e e':En}{vh vp vm:V}{t:Tb}{o:Option Mv}{rows':List (List V)}(h:Sy K H C x m d B M R s v f j e vh vp vm t o)(k:KP K (λb=>b≠R/\b≠d) H H')(D:bI K H' C x m d B (s++e'::v))(w:e'.n=e.n)(A:e'.t={ t with rows:=srt rows' })(r:H e'.L=none)(F:bN K H' R rows')(G:jR m { t with rows:=rows' }):Sy K H' C x m d B M R s v f j e' vh vp vm { t with rows:=rows' } o:=by
 obtain⟨_,l,_⟩:=id h.mvs;obtain⟨E,i,_⟩:=id h.md.2.2.2;have a:M≠d:=λz=>by have:=h.st.ens.at_;rw[<-z,h.md.1] at this;cases this
 have c:B≠R:=λz=>by rw[z,i] at l;cases l
 have g:∀{Z:Addr},Z≠e'.L->(∀y∈s++e::v,y.L≠Z)->∀y∈s++e'::v,y.L≠Z:=λu p y q=>by
  rcases List.mem_append.mp q with z|z
  ·exact p y (bBF _ z)
  ·rcases List.mem_cons.mp z with rfl|z
   ·exact u.symm
   ·exact p y (bAA _ (j7 _ z))
 exact⟨D,⟨k.st _ _ ⟨h.n1,a⟩ h.md.1,h.md.2.1.tk k.tk,h.md.2.2.1.tk k.tk,F⟩,h.mvs.kp (λ_=>k.st _ _ ⟨c,λz=>h.st.ne z.symm⟩) k.tk,by rw[w];exact h.fo,h.vm.tk k.tk,A,G,h.mk_,h.hn,h.m1,h.m4,h.n1,g (aL i r) h.n2,g (aL h.md.1 r) h.n3⟩
def Mvs.le (h:Mvs K H dm f j)(l:j<=i):Mvs K H dm f i:=by obtain⟨c,a,d,b⟩:=h;exact⟨c,a,by lia,b⟩
def Sy.le {H:Hp}{C x d dm M R:Addr}{m:Int}{l1 l2:List En}{f:Str->Option Mv}{j:Nat}{e:En}{vh vp vm:V}{t:Tb}{o:Option Mv}(h:Sy K H C x m d dm M R l1 l2 f j e vh vp vm t o):Sy K H C x m d dm M R l1 l2 f (j+1) e vh vp vm t o:=
 ⟨h.st,h.md,h.mvs.le (bDH j),h.fo,h.vm,h.et,h.ok,h.mk_,h.hn,h.m1,h.m4,h.n1,h.n2,h.n3⟩
inductive aKe (K:bFZ)(C:Addr)(vs:List V)(H:Hp)(Q:VK)(E_:XK):Prop
 |mk (st x d dm M R:Addr) (m:Int) (l1 l2:List En) (f:Str->Option Mv) (j:Nat) (e:En) (vh vp vm:V) (t:Tb) (o:Option Mv) (_:vs=[.ref st,.ref x,.str e.n,.ref M,.int m]) (_:eV H st) (_:Sy K H C x m d dm M R l1 l2 f j e vh vp vm t o) (_:M≠st) (_:R≠st) (_:(∀y∈l1++e::l2,y.L≠st)) (_:t.rows.length<=10) (_:j<900) (_:∀e' vp' vm' t' o' f' H',KP K (λb=>b≠st/\b≠M/\b≠dm/\b≠d/\b≠R) H H'->eV H' st->Sy K H' C x m d dm M R l1 l2 f' (j+1) e' vh vp' vm' t' o'->e'.n=e.n->(e'.L=e.L\/H e'.L=none)->t'.rows.length<=10->(∀k,k≠e.n->f' k=f k)->Q .non H')
def plW:Plc->Str
 |.copies=>"copies"
 |.keys _=>"keys"
 |.spans _ _ _=>"spans"
def jZ.hd (h:jZ K H v pl):∃a xs,v=.ref a/\SqT K H a (.str (plW pl)::xs):=by
 cases pl with
 |copies=>obtain⟨a,rfl,b⟩:=h;exact⟨a,_,rfl,b⟩
 |keys n=>obtain⟨a,rfl,b⟩:=h;exact⟨a,_,rfl,b⟩
 |spans n h0 cs=>obtain⟨a,c,rfl,b,_⟩:=h;exact⟨a,_,rfl,b⟩
def aHu (T:Txt w K mg){C:Addr}(aN:Ok P w K mg base 1 "_law_next" n8 iY)(vU:Ok P w K mg base 4 "_law_row" bQC (aGo K))(a0:OkM P w K mg base C 5 "put" bQI (aWa K C))(Y:OkM P w K mg base C 5 "drop" bQI (aQq K C))(be:Ok P w K mg base 7 "_law_carry" o4 (aGi K C))(bi:Ok P w K mg base 7 "_law_split" o4 (aGg K C))(bd:Ok P w K mg base 6 "_law_lend" n7 (aJg K C)):Ok P w K mg base 8 "_law_deed" n7 (aKe K C):=by
 refine Ok.ofV T.aKt wZ (by trivial) (λf bf A b3 s H vs Q E hr h=>?_)
 obtain⟨J,x,d,dm,M,R,m,l1,l2,fm,j,e,vh,vp,vm,t,o,rfl,hs,B,nM,nR,nL,fw,hj,q⟩:=h;have hU:=hr.units;have nd:=wZ.nd;refine⟨_,(aC (aY 5 (aV aN (aH (vv 0) (va1 aB)))) (aD (bO (VW.pt (fG (cX aJf (vv 5) aB) (fG (cX wN (aR aO (aR bF (vv 3) aB) aB) bH) (eE (cX aJf (vv 4) aB))))) (aC (aY 6 (aV vU (aH (vv 0) (va1 (aR bF (vv 3) aB))))) (aD (bO (VW.pt (aDy (cX (aJ9 hU) (aR bF (vv 3) aB) (dY yP)) (aBu (VW.pt (fG (cX aQt (aK aX (by rfl) T.dW cQ (va1 (aR bF (vv 3) aB))) aB) (eE (cX dX (aV aN (aH (vv 0) (va1 aB))) aB))))))) (aD (cM (fY Y (vv 1) (aH (vv 2) (va1 (rZ PySem.F.plainAttrs_list PySem.F.slot_list_pop PySem.F.type_list_pop aRa (aR bF (vv 3) aB) (va1 (aV aN (aH (vv 0) (va1 (aK aX (by rfl) T.dW cQ (va1 (aR bF (vv 3) aB))))))))))))) (aC (cM (rZ PySem.F.plainAttrs_list PySem.F.slot_list_append PySem.F.type_list_append pO (aR bF (vv 3) aB) (va1 (vv 6)))) (aD (cM (fY a0 (vv 1) (aH (vv 2) (va1 (vv 6)))))))))) (aD (bO (cX aBw (aR bF (vv 3) aB) jV) (aD (cM (aV be (aH (vv 0) (aH (vv 1) (aH (vv 2) (va1 (vv 3)))))))) (aD (bO (cX dX (vv 5) aB) (aD (cM (aV bi (aH (vv 0) (aH (vv 1) (aH (vv 2) (va1 (vv 3)))))))) (aD (cM (aV bd (aH (vv 0) (aH (vv 1) (aH (vv 2) (aH (vv 3) (va1 (vv 4)))))))))))))))),?_⟩;refine⟨_,rfl,J,6,rfl,hs,by decide,λz H1 f1 z0 z1=>?_⟩;dsimp only[bR,List.set];have c:=B.fx f1 hs nM nR nL;have X:=f1.st;have aw:J≠d:=λz=>by obtain⟨_,_,e1,_⟩:=X;have:=c.st.ens.at_;rw[<-z,e1] at this;cases this
 have k1:KP K (λb=>b≠J) H H1:=.fx f1 hs λz=>z rfl;obtain⟨pa,ps,rfl,ba⟩:=c.md.2.2.1.hd;refine aVl (λH8=>H8=H1) (λH8=>H8=H1/\(∃n h0 cs,t.pl=.spans n h0 cs)/\2<=m) (λRR hT hF=>?_) (λG z2=>?_) λG z2=>?_
 ·refine⟨_,rfl,_,_,rfl,rfl,_,rfl,?_⟩;by_cases h1:z<2
  ·exact gF (m9 h1) (hT _ rfl)
  refine dI (v6 h1) ⟨_,rfl,M,_,1,_,rfl,rfl,SqL.of c.md.1,at1 _ _ _,pa,_,0,_,rfl,rfl,ba,at0 _ _,rfl,_,rfl,?_⟩;by_cases h2:plW t.pl = "spans"
  ·refine dI (by simp[h2]) ⟨_,rfl,_,_,rfl,rfl,_,rfl,?_⟩;by_cases h3:m<2
   ·rw[m9 h3];exact hT _ rfl
   ·rw[v6 h3];refine hF _ ⟨rfl,?_,by lia⟩;cases hp:t.pl with
    |copies=>rw[hp] at h2;exact absurd h2 (by trivial)
    |keys n=>rw[hp] at h2;exact absurd (show (Str.ofString "keys")=Str.ofString "spans" from h2) (by trivial)
    |spans n h0 cs=>exact⟨n,h0,cs,rfl⟩
  ·exact gF (by simp[h2]) (hT _ rfl)
 ·subst z2;have ok:=B.ok;have bg:=ok.few;have a6:(srt t.rows).Perm t.rows:=(lH λr b2=>gU (ok.rows r b2)).1;refine⟨_,rfl,_,rfl,M,_,0,_,rfl,rfl,SqL.of c.md.1,at0 _ _,J,vh,t.hd,rfl,X,c.md.2.1,ok.hd,λtr H3 r f3 g3 ah=>?_⟩;have a2:=f1.trans f3;have k:=B.fx a2 hs nM nR nL;dsimp only[bR,List.set];have ak:∀{Hq H5 e' a},Fx J H Hq->KP K (λb=>b≠R/\b≠d) Hq H5->Sy K H5 C x m d dm M R l1 l2 fm j e' vh (.ref pa) vm { t with rows:=a } o->e'.n=e.n->a.length<=10->Hq e'.L=none->Q .non H5:=λ{Hq H5 e' a} fq kk p en lr aa=>by
   have ai:=fq.st;refine q e' _ vm _ o fm H5 (((KP.fx fq hs λz=>z rfl).mono λb z=>z.1).trans (kk.mono λb z=>⟨z.2.2.2.2,z.2.2.2.1⟩)) (aC9 ai λo h=>kk.st _ _ ⟨nR.symm,aw⟩ h) p.le en (.inr ?_) lr λ_ _=>rfl;cases hh:H e'.L with
   |none=>rfl
   |some u=>rw[fq.same _ _ (ai.ne aa) hh] at aa;cases aa
  refine aVl (λH8=>Fx J H H8/\t.rows≠[]) (λH8=>Fx J H H8/\cP K H8 (.ref tr) r/\t.rows.length<=9) (λRR hT hF=>?_) (λG az=>?_) λG as=>?_
  ·obtain⟨i,D,g⟩:=id k.md.2.2.2;have I:=g.len;refine⟨_,rfl,M,_,2,_,rfl,rfl,SqL.of k.md.1,at2 _ _ _ _,by show 0<=sizeLine;decide,λp9 H9 bh s9 g9=>⟨R,p9,i,rfl,rfl,SqL.of (s9 _ _ D),SqL.of g9,_,rfl,?_⟩⟩;have f9:=a2.sm s9;cases i with
   |nil=>exact dI rfl (hF _ ⟨f9,⟨tr,rfl,s9.aP (SqT.of g3)⟩,by rw[<-I];decide⟩)
   |cons u0 ur=>
    have a3:t.rows≠[]:=λz=>by rw[z] at I;cases I
    refine gF rfl ⟨_,rfl,M,_,2,_,rfl,rfl,SqL.of (s9 _ _ k.md.1),at2 _ _ _ _,R,_,rfl,.inl (SqL.of (s9 _ _ D)),_,_,rfl,rfl,_,rfl,?_⟩;by_cases h9:(9:Int)<(((u0::ur).length:Nat):Int)
    ·exact gF (m9 h9) (hT _ ⟨f9,a3⟩)
    refine dI (v6 h9) ⟨_,rfl,J,2,rfl,f9.st,by decide,λz bc a7 z0 z1=>⟨rfl,_,rfl,?_⟩⟩;cases decide (V.int z=V.int 0) with
    |true=>exact hT _ ⟨f9.trans a7,a3⟩
    |false=>exact hF _ ⟨f9.trans a7,⟨tr,rfl,a7.tk (K:=K) f9.st _ _ (s9.aP (SqT.of g3))⟩,by lia⟩
  ·obtain⟨f2,a3⟩:=az;have U:=B.fx f2 hs nM nR nL;have af:=f2.st;obtain⟨i,D,g⟩:=id U.md.2.2.2;have I:=g.len;have bb:0<t.rows.length:=List.length_pos_iff.mpr a3;obtain⟨aq,b6⟩:=U.st.at_;refine⟨_,rfl,x,aq,_,rfl,b6,rfl,_,rfl,_,rfl,M,_,2,_,rfl,rfl,SqL.of U.md.1,at2 _ _ _ _,.inl ⟨rfl,_,SqL.of D⟩,_,rfl,_,rfl,M,_,2,_,rfl,rfl,SqL.of U.md.1,at2 _ _ _ _,R,i,rfl,.inl (SqL.of D),J,_,rfl,af,⟨by lia,by lia⟩,λz H3 f3 z0 z1=>?_⟩;have a2:=f2.trans f3;have k:=U.fx f3 af nM nR nL;obtain⟨i,D,g⟩:=id k.md.2.2.2;have I:=g.len;obtain⟨l,rfl⟩:∃l:Nat,z=l:=⟨z.toNat,by lia⟩;have hz:l<i.length:=by lia
   obtain⟨q0,a9,qa,ao,ar⟩:=bV g (b8 hz);refine⟨R,i,_,l,i[l],rfl,rfl,D,by lia,by lia,PySem.StrLaws.seqIndex_nonneg (by lia) (by lia),b8 hz,?_⟩;have O:KP K (λb=>b≠R) H3 (L2.upd H3 R (.lst (i.eraseIdx l))):=.jO D λz=>z rfl;have aj:L2.upd H3 R (.lst (i.eraseIdx l)) R=some (.lst (i.eraseIdx l)):=aG;have ad:∀{b},L2.upd H3 R (.lst (i.eraseIdx l)) b=none->H3 b=none:=λ{b} h=>by
    by_cases zz:b=R
    ·rw[zz,aG] at h;cases h
    ·rw[aQ zz] at h;exact h
   generalize L2.upd H3 R (.lst (i.eraseIdx l))=H4 at O aj ad ⊢;obtain⟨dx,b1⟩:=k.st.at_;have no:∀{b u},H3 b=some u->(∀ys,u≠.lst ys)->b≠R:=λh hu z=>by rw[z,D] at h;cases h;exact hu _ rfl
   have a4:=no b1 λ_ z=>(by cases z);have Z:=no k.st.ens.at_ λ_ z=>(by cases z);have b4:=k.st.kp O a4 Z B.n2;have ay:=ok.rows q0 (v4 a9);have pe:=vH a9;have av:q0∈e.t.rows:=by rw[B.et];exact a6.mem_iff.mpr (v4 a9)
   dsimp only[bR,List.set];refine⟨x,d,dm,m,l1,l2,e,i[l],q0,rfl,b4,⟨qa,ao,O.tk _ _ ar⟩,by rw[B.et];exact ay,av,λv L a H5 pm k5 a1 au=>?_⟩;rw[B.et] at pm;have pr:a.Perm (t.rows.eraseIdx l):=(List.Perm.trans pm (a6.trans pe.symm)).cons_inv;have N:∀y∈t.rows.eraseIdx l,jA t.hd y:=λy hy=>ok.rows y (List.mem_of_mem_eraseIdx hy);have es:srt a=srt (t.rows.eraseIdx l):=(sJ (λy hy=>gU (N y hy)) pr.symm).symm;have kk:KP K (λb=>b≠R/\b≠d) H3 H5:=(O.mono λb z=>z.1).trans (k5.mono λb z=>z.2);have le:=bEK t.rows l;have b0:bN K H4 R (t.rows.eraseIdx l):=⟨_,aj,aB8 (g.imp λ_ _ ⟨b,e1,e2⟩=>⟨b,e1,O.tk _ _ e2⟩) l⟩;have an:=ad a1;refine ak (e':={ e with v:=v,L:=L,t:={ e.t with rows:=srt a } }) a2 kk (k.upd kk au rfl ?_ an (b0.kp k5 Z.symm) ⟨ok.hd,ok.pl,by show (t.rows.eraseIdx l).length<=60;lia,N⟩) rfl (by lia) an;show ({ e.t with rows:=srt a }:Tb)=_;rw[B.et,es]
  ·obtain⟨f5,am,l9⟩:=as;have p:=B.fx f5 hs nM nR nL;obtain⟨i,D,g⟩:=id p.md.2.2.2;have I:=g.len;refine⟨_,rfl,M,_,2,_,rfl,rfl,SqL.of p.md.1,at2 _ _ _ _,.inl ⟨rfl,_,SqL.of D⟩,_,rfl,R,_,_,rfl,rfl,D,nZ (by lia),?_⟩;have O:KP K (λb=>b≠R) G (L2.upd G R (.lst (i++[.ref tr]))):=.jO D λz=>z rfl;have ag:L2.upd G R (.lst (i++[.ref tr])) R=some (.lst (i++[.ref tr])):=aG;have ac:∀{b},L2.upd G R (.lst (i++[.ref tr])) b=none->G b=none:=λ{b} h=>by
    by_cases zz:b=R
    ·rw[zz,aG] at h;cases h
    ·rw[aQ zz] at h;exact h
   generalize L2.upd G R (.lst (i++[.ref tr]))=H6 at O ag ac ⊢;obtain⟨dx,al⟩:=p.st.at_;have no:∀{b u},G b=some u->(∀ys,u≠.lst ys)->b≠R:=λh hu z=>by rw[z,D] at h;cases h;exact hu _ rfl
   have a4:=no al λ_ z=>(by cases z);have Z:=no p.st.ens.at_ λ_ z=>(by cases z);have ax:=p.st.kp O a4 Z B.n2;have a5:∀{u r},cP K G u r->cP K H6 u r:=λ⟨b,e1,e2⟩=>⟨b,e1,O.tk _ _ e2⟩;have lR:e.t.rows.length<60:=by rw[B.et];show (srt t.rows).length<60;rw[tH];lia
   refine⟨_,rfl,x,dx,_,rfl,O.st _ _ a4 al,rfl,_,rfl,_,rfl,x,d,dm,m,l1,l2,e,.ref tr,r,rfl,ax,a5 am,by rw[B.et];exact ah,lR,λv L H7 k7 b5 b9=>?_⟩;have kk:KP K (λb=>b≠R/\b≠d) G H7:=(O.mono λb z=>z.1).trans (k7.mono λb z=>z.2);have N:∀y∈t.rows++[r],jA t.hd y:=λy hy=>by
    rcases List.mem_append.mp hy with hy|hy
    ·exact ok.rows y hy
    ·rw[List.mem_singleton.mp hy];exact ah
   have es:srt (e.t.rows++[r])=srt (t.rows++[r]):=by rw[B.et];exact (sJ (λy hy=>gU (N y hy)) (a6.symm.append_right [r])).symm
   have ap:bN K H6 R (t.rows++[r]):=⟨_,ag,bW.app (g.imp λ_ _ z=>a5 z) (.cons (a5 am) .nil)⟩;have a1:=ac b5;have lw:(t.rows++[r]).length=t.rows.length+1:=by rw[v9];rfl
   refine ak (e':={ e with v:=v,L:=L,t:={ e.t with rows:=srt (e.t.rows++[r]) } }) f5 kk (p.upd kk b9 rfl ?_ a1 (ap.kp k7 Z.symm) ⟨ok.hd,ok.pl,by show (t.rows++[r]).length<=60;lia,N⟩) rfl (by lia) a1;show ({ e.t with rows:=srt (e.t.rows++[r]) }:Tb)=_;rw[es,B.et]
 ·obtain⟨rfl,⟨n,h0,cs,ae⟩,m2⟩:=z2;refine⟨_,rfl,M,_,3,_,rfl,rfl,SqL.of c.md.1,cG (j:=3) rfl,rfl,_,rfl,?_⟩;cases o with
  |some mq=>obtain⟨ma,vk,rfl,_⟩:=id (show qM K G vm mq from c.vm);refine gF (by rfl) ⟨_,rfl,_,rfl,_,rfl,_,rfl,J,x,d,dm,M,R,m,l1,l2,fm,j,e,vh,.ref pa,.ref ma,t,mq,rfl,X,c,nM,nR,nL,hj,λe' ab a8 t' o' f' H' k' S W en eL er hf=>?_⟩;exact q e' ab a8 t' o' f' H' ((k1.mono λb z=>z.1).trans (k'.mono λb z=>⟨z.1,z.2.1,z.2.2.1,z.2.2.2.1⟩)) S W en (.inl eL) (by rw[er];exact fw) hf
  |none=>
   have e0:vm=.non:=c.vm;subst e0;refine dI (by rfl) ⟨_,rfl,rfl,_,rfl,?_⟩;by_cases h2:z=2
   ·refine gF (by rw[h2];rfl) ⟨_,rfl,_,rfl,_,rfl,_,rfl,J,x,d,dm,M,R,m,l1,l2,fm,j,e,vh,.ref pa,.non,t,n,h0,cs,rfl,X,c,ae,nM,nR,nL,λe' ab t' H' k' S W en eL er=>?_⟩;exact q e' ab .non t' none fm H' ((k1.mono λb z=>z.1).trans (k'.mono λb z=>⟨z.1,z.2.1,z.2.2.2.1⟩)) S W.le en (.inl eL) (by rw[er];exact fw) λ_ _=>rfl
   ·refine dI (v6 λz=>by cases z;exact h2 rfl) ⟨_,rfl,_,rfl,_,rfl,_,rfl,_,rfl,J,x,d,dm,M,R,m,l1,l2,fm,j,e,vh,.ref pa,.non,t,n,h0,cs,rfl,X,c,ae,m2,nM,nR,nL,hj,λa8 mq f' H' k' S W hf=>?_⟩;exact q e (.ref pa) a8 t (some mq) f' H' ((k1.mono λb z=>z.1).trans (k'.mono λb z=>⟨z.1,z.2.1,z.2.2.1⟩)) S W rfl (.inl rfl) fw hf
structure Mo where
 M:Addr
 R:Addr
 vh:V
 vp:V
 vm:V
 t:Tb
 o:Option Mv
abbrev EM:=En × Mo
def moK (ps:List EM):List (Key × V):=ps.map λp=>(Sum.inr p.1.n,.ref p.2.M)
structure Pr (K:bFZ)(H:Hp)(m:Int)(f:Str->Option Mv)(e:En)(y:Mo):Prop where
 md:kO K H y.M y.vh y.vp y.R y.t y.vm
 fo:f e.n=y.o
 vm:MvV K H y.vm y.o
 et:e.t={ y.t with rows:=srt y.t.rows }
 ok:jR m y.t
 mk_:∀mq q,y.o=some mq->mq.mark=some q->jA y.t.hd q
 hn:∀mq,y.o=some mq->∃n h0 cs,y.t.pl=.spans n h0 cs/\mq.house≠kI mq.num h0 cs/\mq.num<=cs.length/\0<=mq.house/\mq.house<m
 n1:y.M≠y.R
 fw:y.t.rows.length<=10
abbrev Un (a b:Addr × Addr):Prop:=a.1≠b.1/\a.1≠b.2/\a.2≠b.1/\a.2≠b.2
structure Sys (K:bFZ)(H:Hp)(C x:Addr)(m:Int)(d dm D:Addr)(ps:List EM)(f:Str->Option Mv)(j:Nat):Prop where
 st:bI K H C x m d dm (ps.map (·.1))
 mvs:Mvs K H dm f j
 md:H D=some (.dK (moK ps))
 pr:∀p∈ps,Pr K H m f p.1 p.2
 nn:(ps.map λp=>(p.2.M,p.2.R)).Pairwise Un
 nl:∀p∈ps,∀q∈ps,q.1.L≠p.2.R/\q.1.L≠p.2.M
 dd:D≠d
 de:D≠dm
 m1:1<=m
 m4:m<=4
def mapm {α β:Type}{g:α->β}{k1 k2:List α}{p:α}:(k1++p::k2).map g=k1.map g++g p::k2.map g:=by rw[bAN];rfl
def aPv (h:bN K H R rows)(g:H a=some (.lst us))(l:y∈us)(k:∀b,y≠.ref b):a≠R:=by rintro rfl;obtain⟨f,c,i⟩:=h;rw[g] at c;cases c;obtain⟨j,d⟩:=List.mem_iff_getElem?.mp l;obtain⟨_,_,p,e,_⟩:=bV i d;exact k p e
def aUv (h:kO K H M vh vp R t vm)(g:H a=some (.lst (.int c::us))):M≠a/\R≠a:=by refine⟨λz=>?_,(aPv h.2.2.2 g j5 λ_ z=>by cases z).symm⟩;have e:=h.1;rw[z,g] at e;obtain⟨_,_,b,_⟩:=h.2.1;rw[b] at e;cases e
section
variable {H H':Hp}{C x d dm D st:Addr}{m:Int}{ps k1 k2:List EM}{f f':Str->Option Mv}{j:Nat}{e e':En}{y:Mo}
def Pr.kp {S:Addr->Prop}(k:KP K S H H')(b:S y.M)(c:S y.R)(a:f' e.n=f e.n)(h:Pr K H m f e y):Pr K H' m f' e y:=⟨h.md.kp k b c,a.trans h.fo,h.vm.tk k.tk,h.et,h.ok,h.mk_,h.hn,h.n1,h.fw⟩
def Sys.kp {S:Addr->Prop}(k:KP K S H H')(i:S x)(c:S d)(l:S dm)(g:S D)(sp:∀p∈ps,S p.1.L/\S p.2.M/\S p.2.R)(h:Sys K H C x m d dm D ps f j):Sys K H' C x m d dm D ps f j:=
 ⟨h.st.kp k i c λe b=>(by obtain⟨p,a,rfl⟩:=List.mem_map.mp b;exact (sp p a).1),h.mvs.kp (λ_=>k.st _ _ l) k.tk,k.st _ _ g h.md,λp a=>(h.pr p a).kp k (sp p a).2.1 (sp p a).2.2 rfl,h.nn,h.nl,h.dd,h.de,h.m1,h.m4⟩
def Sys.same (s:Same H H')(h:Sys K H C x m d dm D ps f j):Sys K H' C x m d dm D ps f j:=h.kp (S:=λ_=>True) (.same s) trivial trivial trivial trivial λ_ _=>⟨trivial,trivial,trivial⟩
def Sys.rows (h:Sys K H C x m d dm D ps f j){p:EM}(b:p∈ps):bN K H p.1.L p.1.t.rows:=by obtain⟨_,_,_,_,_,a⟩:=h.st.ens.tb p.1 (bAT b);exact a
theorem Sys.at (h:Sys K H C x m d dm D (k1++(e,y)::k2) f j):Sy K H C x m d dm y.M y.R (k1.map (·.1)) (k2.map (·.1)) f j e y.vh y.vp y.vm y.t y.o:=by
 have p:=h.pr (e,y) (bAA _ j5);have c:=h.st;rw[mapm] at c;have k:=h.nl (e,y) (bAA _ j5);have b:∀z∈k1.map (·.1)++e::k2.map (·.1),z.L≠y.R/\z.L≠y.M:=λz a=>by rw[<-mapm (p:=(e,y)) (g:=λp:EM=>p.1)] at a;obtain⟨q,i,rfl⟩:=List.mem_map.mp a;exact k q i
 exact⟨c,p.md,h.mvs,p.fo,p.vm,p.et,p.ok,p.mk_,p.hn,h.m1,h.m4,p.n1,λz a=>(b z a).1,λz a=>(b z a).2⟩
def Sys.no {b:Addr}{u:HO}(h:Sys K H C x m d dm D ps f j)(g:H b=some u)(i:∀us,u=.lst us->∃c r,us=.int c::r):∀p∈ps,p.1.L≠b/\p.2.M≠b/\p.2.R≠b:=λp e=>by
 have q:=h.pr p e;obtain⟨us,k,_⟩:=id (h.rows e);obtain⟨o,n,_⟩:=id q.md.2.2.2;refine⟨λz=>?_,λz=>?_,λz=>?_⟩
 ·have a:=g;rw[<-z,k] at a;cases a;obtain⟨c,r,rfl⟩:=i _ rfl;exact aPv (h.rows e) k j5 (λ_ z=>by cases z) rfl
 ·have a:=g;rw[<-z,q.md.1] at a;cases a;obtain⟨c,r,l⟩:=i _ rfl;rw[l] at g;exact (aUv q.md g).1 z
 ·have a:=g;rw[<-z,n] at a;cases a;obtain⟨c,r,rfl⟩:=i _ rfl;exact (aUv q.md g).2 z
def Sys.dk (h:Sys K H C x m d dm D ps f j){b:Addr}{kvs:List (Key × V)}(g:H b=some (.dK kvs)):∀p∈ps,p.1.L≠b/\p.2.M≠b/\p.2.R≠b:=h.no g λ_ z=>by cases z
def Sys.ge (h:Sys K H C x m d dm D (k1++(e,y)::k2) f j):∀p∈k1++k2,p.1.n≠e.n/\Un (p.2.M,p.2.R) (y.M,y.R):=λp hp=>by
 have a:=h.st.ens.nd;have b:=h.nn;rw[bBW,mapm] at a;rw[mapm] at b;obtain⟨_,i,k⟩:=List.nodup_append.mp a;obtain⟨_,g,c⟩:=List.pairwise_append.mp b;rcases List.mem_append.mp hp with hp|hp
 ·exact⟨k _ (bAT hp) _ j5,c _ (bAT hp) _ j5⟩
 ·have u:=(List.pairwise_cons.mp g).1 _ (bAT hp);exact⟨λz=>(List.nodup_cons.mp i).1 (by show e.n∈_;rw[<-z];exact bAT (f:=((·.n) ∘ (·.1))) hp),u.1.symm,u.2.2.1.symm,u.2.1.symm,u.2.2.2.symm⟩
def mem_mid {α:Type}{k1 k2:List α}{a p:α}:p∈k1++a::k2↔p=a\/p∈k1++k2:=by
 rw[bDQ,bAP,bDQ];constructor
 ·rintro (h|h|h)
  ·exact .inr (.inl h)
  ·exact .inl h
  ·exact .inr (.inr h)
 ·rintro (h|h|h)
  ·exact .inr (.inl h)
  ·exact .inl h
  ·exact .inr (.inr h)
def Sys.upd {E F:V}{t':Tb}{W:Option Mv}{i:Nat}(h:Sys K H C x m d dm D (k1++(e,y)::k2) f j)(Y:∃c r,H st=some (.lst (.int c::r)))(k:KP K (λb=>b≠st/\b≠y.M/\b≠dm/\b≠d/\b≠y.R) H H')(s:Sy K H' C x m d dm y.M y.R (k1.map (·.1)) (k2.map (·.1)) f' i e' y.vh E F t' W)(en:e'.n=e.n)(eL:e'.L=e.L\/H e'.L=none)(fw:t'.rows.length<=10)(hf:∀k,k≠e.n->f' k=f k):Sys K H' C x m d dm D (k1++(e',{ y with vp:=E,vm:=F,t:=t',o:=W })::k2) f' i:=by
 obtain⟨c0,r0,O⟩:=Y;obtain⟨_,B,_⟩:=id h.mvs;have I:=h.no O λ_ z=>by cases z;exact⟨_,_,rfl⟩
 have T:=h.dk h.st.ens.at_;have N:=h.dk B;have J:=h.dk h.md;have G:(e,y)∈k1++(e,y)::k2:=mem_mid.mpr (.inl rfl);have S:=h.ge;have w:∀p∈k1++(e',{ y with vp:=E,vm:=F,t:=t',o:=W })::k2,∃q∈k1++(e,y)::k2,q.2.M=p.2.M/\q.2.R=p.2.R/\(p.1.L=q.1.L\/H p.1.L=none):=λp hp=>by
  rcases mem_mid.mp hp with rfl|hp
  ·exact⟨_,G,rfl,rfl,eL⟩
  ·exact⟨p,mem_mid.mpr (.inr hp),rfl,rfl,.inl rfl⟩
 refine⟨by rw[mapm];exact s.st,s.mvs,?_,λp hp=>?_,?_,λp hp q Z=>?_,h.dd,h.de,h.m1,h.m4⟩
 ·rw[show moK (k1++(e',{ y with vp:=E,vm:=F,t:=t',o:=W })::k2)=moK (k1++(e,y)::k2) by unfold moK;rw[mapm,mapm,en]];exact k.st _ _ ⟨(λz=>by have g:=h.md;rw[z,O] at g;cases g),(J _ G).2.1.symm,h.de,h.dd,(J _ G).2.2.symm⟩ h.md
 ·rcases mem_mid.mp hp with rfl|hp
  ·exact⟨s.md,s.fo,s.vm,s.et,s.ok,s.mk_,s.hn,s.n1,fw⟩
  ·have l:=mem_mid (a:=(e,y)).mpr (.inr hp);have u:=(S p hp).2;exact (h.pr p l).kp k ⟨(I p l).2.1,u.1,(N p l).2.1,(T p l).2.1,u.2.1⟩ ⟨(I p l).2.2,u.2.2.1,(N p l).2.2,(T p l).2.2,u.2.2.2⟩ (hf _ (S p hp).1)
 ·have P:=h.nn;rw[mapm] at P ⊢;exact P
 ·obtain⟨U,v,X,eR,_⟩:=w p hp;obtain⟨q0,A,_,_,eq⟩:=w q Z;rw[<-X,<-eR];rcases eq with eq|eq
  ·rw[eq];exact h.nl U v q0 A
  ·have Q:=(h.pr U v).md;obtain⟨us,g,_⟩:=id Q.2.2.2;exact⟨(aL g eq).symm,(aL Q.1 eq).symm⟩
def Sys.get (h:Sys K H C x m d dm D (k1++(e,y)::k2) f j):fQ (moK (k1++(e,y)::k2)) (Sum.inr e.n)=some (.ref y.M):=by
 have a:=λp b=>(h.ge p (bBF _ b)).1;clear h
 induction k1 with
 |nil=>exact dC rfl
 |cons p r ih=>refine (cU λz=>a p j5 (Sum.inr.inj z)).trans (ih λq c=>a q (j7 _ c))
structure LI (K:bFZ)(H:Hp)(C x:Addr)(m:Int)(d dm D W Pt st:Addr)(xs:List V)(ps:List EM)(f:Str->Option Mv)(j:Nat):Prop where
 s:eV H st
 y:Sys K H C x m d dm D ps f j
 l2:2<=ps.length
 l3:ps.length<=3
 gW:H W=some (.lst (.int 0::xs))
 gP:H Pt=some (.tab qC)
 nW:W≠st
variable {W Pt:Addr}{xs:List V}
def LI.same (s:Same H H')(h:LI K H C x m d dm D W Pt st xs ps f j):LI K H' C x m d dm D W Pt st xs ps f j:=⟨h.s.same s,h.y.same s,h.l2,h.l3,s _ _ h.gW,s _ _ h.gP,h.nW⟩
def LI.fx (i:Fx st H H')(h:LI K H C x m d dm D W Pt st xs ps f j):LI K H' C x m d dm D W Pt st xs ps f j:=by
 obtain⟨c,r,k,_⟩:=id h.s;obtain⟨_,e,_⟩:=id h.y.mvs;obtain⟨o,n⟩:=h.y.st.at_;have a:∀{b u},H b=some u->(∀us,u≠.lst us)->b≠st:=λg l z=>by rw[z,k] at g;cases g;exact l _ rfl
 exact⟨i.st,h.y.kp (S:=λb=>b≠st) (.fx i h.s λz=>z rfl) (a n λ_ z=>by cases z) (a h.y.st.ens.at_ λ_ z=>by cases z) (a e λ_ z=>by cases z) (a h.y.md λ_ z=>by cases z) (h.y.no k λ_ z=>by cases z;exact⟨_,_,rfl⟩),h.l2,h.l3,i.same _ _ h.nW h.gW,i.same _ _ (a h.gP λ_ z=>by cases z) h.gP,h.nW⟩
def LI.upd {vp' vm':V}{t':Tb}{o':Option Mv}{i:Nat}(h:LI K H C x m d dm D W Pt st xs (k1++(e,y)::k2) f j)(k:KP K (λb=>b≠st/\b≠y.M/\b≠dm/\b≠d/\b≠y.R) H H')(I:eV H' st)(J:Sy K H' C x m d dm y.M y.R (k1.map (·.1)) (k2.map (·.1)) f' i e' y.vh vp' vm' t' o')(Q:e'.n=e.n)(N:e'.L=e.L\/H e'.L=none)(O:t'.rows.length<=10)(P:∀k,k≠e.n->f' k=f k):LI K H' C x m d dm D W Pt st xs (k1++(e',{ y with vp:=vp',vm:=vm',t:=t',o:=o' })::k2) f' i:=by
 obtain⟨c,r,p,_⟩:=id h.s;obtain⟨_,a,_⟩:=id h.y.mvs;have A:(e,y)∈k1++(e,y)::k2:=mem_mid.mpr (.inl rfl);have B:=h.y.no h.gW (λ_ z=>by cases z;exact⟨_,_,rfl⟩) _ A;have E:=h.y.no h.gP (λ_ z=>by cases z) _ A;have w:=h.l2;have q:=h.l3;rw[v9,j9] at w q;have l:∀{b u v} {b':Addr},H b=some u->H b'=some v->u≠v->b≠b':=λg G F z=>by rw[z,G] at g;cases g;exact F rfl
 refine⟨I,h.y.upd ⟨_,_,p⟩ k J Q N O P,by rw[v9,j9];exact w,by rw[v9,j9];exact q,k.st _ _ ⟨h.nW,B.2.1.symm,l h.gW a λz=>(by cases z),l h.gW h.y.st.ens.at_ λz=>(by cases z),B.2.2.symm⟩ h.gW,k.st _ _ ⟨l h.gP p λz=>(by cases z),E.2.1.symm,l h.gP a λz=>(by cases z),l h.gP h.y.st.ens.at_ λz=>(by cases z),E.2.2.symm⟩ h.gP,h.nW⟩
end
def bCd:∀{ps:List EM} {es:List En},bW R (ps.map (·.1)) es->∃qs:List EM,qs.map (·.1)=es/\bW (λa b=>b.2=a.2/\R a.1 b.1) ps qs:=by
 intro ps
 induction ps with
 |nil=>intro es h;cases h;exact⟨[],rfl,.nil⟩
 |cons p r ih=>
  intro es h;cases h with
  |cons a b=>obtain⟨qs,rfl,c⟩:=ih b;exact⟨(_,p.2)::qs,rfl,.cons ⟨rfl,a⟩ c⟩
def aJs {α β γ:Type}{R:α->β->Prop}{g:α->γ}{g':β->γ}{as:List α}{bs:List β}(h:bW R as bs)(c:∀a b,R a b->g' b=g a):bs.map g'=as.map g:=by
 induction h with
 |nil=>rfl
 |cons r _ ih=>rw[bAF,bAF,ih,c _ _ r]
inductive aQj (K:bFZ)(Pt:Addr)(vs:List V)(H:Hp)(Q:VK)(E_:XK):Prop
 |mk (a:Addr) (ns:List Int) (_:vs=[.ref a]) (_:SqL K H a (ns.map V.int)) (_:ns.length<=63) (_:H Pt=some (.tab qC)) (_:∀H',H' Pt=some (.tab qC)->Q (.bl true) H')
def bA8 {f:Addr}{fd:FuncData}(F:Fun K "law" "law" aP0 f fd)(T:Txt w K mg){C Pt:Addr}(cv:Ok P w K mg base 2 "_law_begin" bQE (aMj K))(ct:Ok P w K mg base 2 "_law_names" n8 aV4)(aN:Ok P w K mg base 1 "_law_next" n8 iY)(cq:Ok P w K mg base 5 "_law_town" bQH (aMo K))(aq:OkC P w K mg base C 11 "Store" o7 (aMl K C Pt))(cp:Ok P w K mg base 8 "_law_deed" n7 (aKe K C))(wM:Ok P w K mg base 14 "_law_right" u5 (aKu K C Pt)):kZ P w K mg base CX0 15 f fd bQE (aQj K Pt):=by
 refine Fun.okV F aWp (λvs H Q E h=>?_) (λcw A cc s H vs Q E hr h=>?_)
 ·obtain⟨a,ns,rfl,_⟩:=h;rfl
 obtain⟨a,ns,rfl,ha,hn,aw,q⟩:=h;have hu:=mC hr;have nd:=aWp.nd;refine⟨_,(aC (aY 1 (aV cv (va1 (vv 0)))) (aC (iD (aV cq (aH (vv 1) (aH (aV ct (aH (vv 1) (va1 aB))) (va1 aB)))) (uZ rfl (bC (cZ 2) (bC (cZ 3) fP)))) (aC (aY 4 aCv) (aC (aQi (gG PassesOwn.never rfl (aU3 (vv 3)) (cZ 5) (aD (mO hu (vv 4) (vv 5) (dY (aH (aR aO (iK hu (vv 3) (vv 5) (λ_ _=>rfl)) aB) (aH (aR aO (iK hu (vv 3) (vv 5) (λ_ _=>rfl)) aB) (aH (cI pJ (by rfl) T.yR tK (va1 (aR aO (iK hu (vv 3) (vv 5) (λ_ _=>rfl)) aB))) (va1 jV))))))))) (aC (aY 6 (aPd (aq.mono (by decide)) hr (by rfl) (aH (vv 2) (va1 (vv 3))))) (aC (gG PassesOwn.never rfl (fM (bB rA (dY (va1 aB)) (cR yK (vv 0) dO (dF aB)))) (cZ 7) (aC (iD (bB cY (aR bF (vv 1) aB) (bB lM (vv 7) (bB aHw aB aB))) (pI (vv 1) aB set_list)) (aC (aY 5 (aR bF (aK (aMy rfl) (by rfl) T.eO dG (va1 (vv 4))) (aV aN (aH (vv 1) (va1 (aK aSs (by rfl) T.dW cQ (va1 (vv 4)))))))) (aC (cM (aV cp (aH (vv 1) (aH (vv 6) (aH (vv 5) (aH (iK hu (vv 4) (vv 5) (λ_ _=>rfl)) (va1 (vv 2)))))))) (aD (bO (cL (cC (aV wM (aH (vv 6) (aH (vv 5) (aH (iK hu (vv 4) (vv 5) (λ_ _=>rfl)) (va1 (vv 2)))))))) (aD (aM jL)) aW)))))) (aD (aM (aK (jQ rfl) (by rfl) T.aAw rJ (va1 (aQw (cJ (N:=["_law_name","_law_store","_law_houses","_law_model"]) ck (eU (aF aP0)) rfl (aU3 (vv 4)) (λcl s' U fp=>⟨(fZ 0),fH,(aV wM (aH (vv 1) (aH (vv 0) (aH (iK hu (vv 3) (vv 0) (λ_ _=>rfl)) (va1 (vv 2))))))⟩))))))))))))),?_⟩;refine⟨_,rfl,a,ns,rfl,ha,hn,λst H2 bm s2 bg=>?_⟩;refine⟨_,rfl,_,rfl,st,rfl,bg,λN H3 bq f3 bn gN ca=>⟨st,N,bq,rfl,f3.st,gN,bg.ne bn,ca,λt O m I H4 f4 ht cm m1 m4 hE ba l2 l3=>?_⟩⟩;have ap:=f3.trans f4;have an:Same H H4:=λb o h=>ap.same b o (aL h bm) (s2 b o h);refine⟨t,_,rfl,ht,rfl,_,_,rfl,_,_,rfl,rfl,?_⟩;refine λD H5 bb s5 gD=>?_;have ae:=hE.same s5;have a7:O≠D:=aL hE.at_ bb;dsimp only[bR,List.set];refine aBy (S:=bAb _ _) (fun σ G=>Same H4 G/\∃(Y:List EM) (l5:Option V),G D=some (.dK (moK Y))/\(∀p∈Y,kO K G p.2.M p.2.vh p.2.vp p.2.R p.2.t .non/\p.2.M≠p.2.R/\p.2.t=p.1.t/\p.2.vm=.non/\p.2.o=none)/\Y.map (·.1)=I/\(Y.map λp=>(p.2.M,p.2.R)).Pairwise Un/\σ=[some (.ref a),some (.ref st),some (.int m),some (.ref O),some (.ref D),l5,none,none]) (λNX hN=>?_) fun σ' G hJ=>?_
 ·refine⟨O,enK I,ae.at_,λnf=>⟨_,rfl,O,_,rfl,ae.at_,aI3,nf,λo=>?_⟩⟩;have b0:But O H5 (L2.upd H5 O (.frz o (.dK (enK I)))):=But.upd;have g0:L2.upd H5 O (.frz o (.dK (enK I))) O=some (.frz o (.dK (enK I))):=aG;generalize L2.upd H5 O (.frz o (.dK (enK I)))=B at b0 g0 ⊢;have nz:=dH.dK ae.at_;have b6:∀e∈I,jU K B e.v e.vh e.vp e.L e.t:=λe he=>b0.tb nz (ae.tb e he);have ac:B D=some (.dK []):=b0 _ _ a7.symm gD;have bu:∀e∈I,e.L≠D:=λe he z=>by obtain⟨_,_,_,_,_,⟨us,h3,_⟩⟩:=b6 e he;rw[z,ac] at h3;cases h3
  refine aW9 (λi σ U=>KP K (λb=>b≠D) B U/\∃J:List EM,U D=some (.dK (moK J))/\(∀p∈J,kO K U p.2.M p.2.vh p.2.vp p.2.R p.2.t .non/\B p.2.M=none/\B p.2.R=none/\p.2.M≠p.2.R/\p.2.t=p.1.t/\p.2.vm=.non/\p.2.o=none)/\J.map (·.1)=I.take i/\(J.map λp=>(p.2.M,p.2.R)).Pairwise Un/\∃l5,σ=[some (.ref a),some (.ref st),some (.int m),some (.ref O),some (.ref D),l5,none,none]) ⟨.same (Same.refl _),[],ac,λo h=>(by cases h),rfl,.nil,none,rfl⟩ (λi σ U _ p=>p.1.st _ _ a7 g0) (λi kv σ U ek p=>?_) fun σ U p=>?_
  ·obtain⟨kp,J,a4,a0,al,nn,l5,rfl⟩:=p;obtain⟨X,am,rfl⟩:=aNs ek;have a8:=v4 am;have gd:=kp.st _ _ a7 g0;have lt:=(List.getElem?_eq_some_iff.mp am).1;obtain⟨a',ev,ak,h1,h2,⟨us,h3,h4⟩⟩:=(b6 X a8).kp kp (bu X a8);refine⟨_,rfl,_,rfl,O,X.v,rfl,.inl ⟨_,Sum.inr X.n,.inr ⟨o,gd⟩,rfl,(tQ hE.nd a8).symm⟩,a',_,0,_,ev,rfl,ak,at0 _ _,?_⟩;refine⟨_,rfl,_,rfl,O,X.v,rfl,.inl ⟨_,Sum.inr X.n,.inr ⟨o,gd⟩,rfl,(tQ hE.nd a8).symm⟩,a',_,1,_,ev,rfl,ak,at1 _ _ _,?_⟩;refine⟨_,rfl,_,rfl,O,X.v,rfl,.inl ⟨_,Sum.inr X.n,.inr ⟨o,gd⟩,rfl,(tQ hE.nd a8).symm⟩,a',_,2,_,ev,rfl,ak,at2 _ _ _ _,X.L,us,rfl,.inl (SqL.of h3),λR H6 hR s6 gR=>?_⟩;refine⟨by show 4<=sizeLine;decide,λM H7 hM s7 gM=>?_⟩;have a6:=s6.trans s7;have la:J.length=(I.take i).length:=by rw[<-al,j4]
   rw[bAC] at la;refine⟨_,rfl,_,rfl,D,_,rfl,aA8.k (k:=Sum.inr X.n) (a6 _ _ a4) (by unfold moK;rw[j4];exact fW (by lia)),?_⟩;have ar:I.take (i+1)=I.take i++[X]:=by rw[bBH,am];rfl
   have bk:∀p∈J,p.1.n≠X.n:=λp hp z=>by
    have hm:p.1∈I.take i:=by rw[<-al];exact bAT hp
    have b3:=hE.nd.sublist ((bEN (i+1) I).map (·.n));rw[ar,bAN] at b3;exact (List.nodup_append.mp b3).2.2 _ (bAT hm) _ j5 z
   obtain⟨p1,ep⟩:∃p1:EM,(X,(⟨M,R,X.vh,X.vp,.non,X.t,none⟩:Mo))=p1:=⟨_,rfl⟩;have c0:putK (moK J) (Sum.inr X.n) (.ref M)=moK (J++[p1]):=by
    rw[xG λkv bd=>by unfold moK at bd;obtain⟨y,hy,rfl⟩:=List.mem_map.mp bd;exact λz=>bk y hy (Sum.inr.inj z)]
    unfold moK;rw[bAN,<-ep];rfl
   rw[c0];have ce:=a6 _ _ a4;have kz:KP K (λb=>b≠D) H7 (L2.upd H7 D (.dK (moK (J++[p1])))):=.aUi (dH.dK ce) λz=>z rfl;have gZ:L2.upd H7 D (.dK (moK (J++[p1]))) D=some (.dK (moK (J++[p1]))):=aG;generalize L2.upd H7 D (.dK (moK (J++[p1])))=H8 at kz gZ ⊢;have k8:KP K (λb=>b≠D) U H8:=(KP.same a6).trans kz;have ab:=none_of s6 hM;have au:M≠D:=(aL a4 ab).symm;have b1:R≠D:=(aL a4 hR).symm;have fr:∀{b},b≠D->U b=none->B b=none:=λ{b} hb h=>by
    cases e3:B b with
    |none=>rfl
    |some o=>rw[kp.st _ _ hb e3] at h;cases h
   have cg:kO K H8 M X.vh X.vp R X.t .non:=kO.kp kz au b1 ⟨gM,h1.same a6,h2.same a6,us,s7 _ _ gR,h4.imp λ_ _ z=>z.same a6⟩;refine⟨kp.trans k8,J++[p1],gZ,λy hy=>?_,?_,?_,_,rfl⟩
   ·rcases List.mem_append.mp hy with hy|hy
    ·obtain⟨c1,c2,c3,c4⟩:=a0 y hy;exact⟨c1.kp k8 (aL ac c2).symm (aL ac c3).symm,c2,c3,c4⟩
    ·rw[List.mem_singleton.mp hy,<-ep];exact⟨cg,fr au ab,fr b1 hR,(aL gR hM).symm,rfl,rfl,rfl⟩
   ·rw[ar,bAN,al,<-ep];rfl
   ·rw[bAN];refine List.pairwise_append.mpr ⟨nn,List.pairwise_singleton _ _,λr hr r' bc=>?_⟩;obtain⟨y,hy,rfl⟩:=List.mem_map.mp hr;rw[<-ep] at bc;cases List.mem_singleton.mp bc;obtain⟨c1,_⟩:=a0 y hy;obtain⟨cj,g',_⟩:=id c1.2.2.2;exact⟨aL c1.1 ab,aL c1.1 hR,aL g' ab,aL g' hR⟩
  ·obtain⟨kp,Y,a4,a0,al,nn,l5,rfl⟩:=p;rw[mU,bCA] at al;have gd:=kp.st _ _ a7 g0;refine⟨⟨o,gd⟩,?_⟩;have bG:But O U (L2.upd U O (.dK (enK I))):=But.upd;have cb:dH U O:=dH.fz gd;have kG:KP K (λb=>b≠O) U (L2.upd U O (.dK (enK I))):=.aUi cb λz=>z rfl;have a5:Same H4 (L2.upd U O (.dK (enK I))):=λb u h=>by
    by_cases z:b=O
    ·rw[z,hE.at_] at h;cases h;rw[z];exact aG
    ·exact bG _ _ z (kp.st _ _ (aL h bb) (b0 _ _ z (s5 _ _ h)))
   generalize L2.upd U O (.dK (enK I))=G at bG kG a5 ⊢;exact hN _ _ ⟨a5,Y,l5,bG _ _ a7.symm a4,λy hy=>by obtain⟨c1,c2,c3,c4⟩:=a0 y hy;exact⟨c1.kp kG (aL g0 c2).symm (aL g0 c3).symm,c4⟩,al,nn,rfl⟩
 obtain⟨a5,Y,l5,af,a0,al,nn,rfl⟩:=hJ;refine⟨_,rfl,_,rfl,λx dx bf b5 cu=>?_⟩;have bs:=a5 _ _ (an _ _ aw);refine⟨G,x,dx,O,m,I,rfl,aG,bf,gJ bf (aZ b5 _),m1,by lia,hE.same a5,λe he=>(ba e he).1,bs,λd dm H6 cy cd ax s6 ay b2 aA=>⟨rfl,?_⟩⟩;rw[<-al] at aA;obtain⟨J,rfl,az⟩:=bCd aA;have be:moK J=moK Y:=aJs az λp q ⟨e1,v,L,e2,_⟩=>by rw[e1,e2];rfl
 have as:(J.map λp=>(p.2.M,p.2.R))=Y.map λp=>(p.2.M,p.2.R):=aJs az λp q ⟨e1,_⟩=>by rw[e1]
 have cx:J.length=I.length:=by rw[<-al,j4];exact az.len.symm
 have hY:Sys K H6 C x m d dm D J (λ_=>none) 0:=by
  refine⟨ay,⟨[],b2,d9 _,λn=>⟨.non,rfl,rfl⟩⟩,by rw[be];exact s6 _ _ af,λp hp=>?_,by rw[as];exact nn,λp hp p2 bz=>?_,aL af cd,aL af ax,m1,m4⟩
  ·obtain⟨p0,a9,e1,v,L,e2,_⟩:=oA az hp;obtain⟨md,c4,c5,c6,c7⟩:=a0 p0 a9;have md:=md.same s6;have hh:=ba p0.1 (by rw[<-al];exact bAT a9);rw[e1,e2];exact⟨by rw[c6];exact md,c7.symm,by rw[c6,c7];rfl,by rw[c5];rfl,by rw[c5];exact hh.1,λ_ _ z=>(by rw[c7] at z;cases z),λ_ z=>(by rw[c7] at z;cases z),c4,by rw[c5];exact bAI hh.2.1 (by decide)⟩
  ·obtain⟨p0,a9,e1,_⟩:=oA az hp;obtain⟨_,_,_,v,L,e2,hL⟩:=oA az bz;have md:=(a0 p0 a9).1;obtain⟨us,g,_⟩:=id md.2.2.2;rw[e1,e2];exact⟨(aL g hL).symm,(aL md.1 hL).symm⟩
 have ag:=a5.trans s6;clear a0 nn af aA az be as al ay b2;dsimp only[bR,List.set];refine aBy (S:=bC7 _ _ _) (fun σ U=>∃(W:Addr) (xs:List V) (J:List EM) (f:Str->Option Mv) (j:Nat) (l5 l7:Option V),LI K U C x m d dm D W Pt st xs J f j/\σ=[some (.ref a),some (.ref st),some (.int m),some (.ref O),some (.ref D),l5,some (.ref x),l7]) (λNX hN=>?_) fun σ' H8 hJ=>?_
 ·refine⟨by show 1<=sizeLine;decide,λz7 H7 ch s7 g7=>?_⟩;refine⟨_,rfl,_,rfl,a,ns.map V.int,rfl,(an.trans (ag.trans s7)).seq ha,λp8 H8 co s8 g8=>?_⟩;rw[show pQ (ns.map V.int) none (some 63)=(ns.map V.int).take 63 from kY _ 63] at g8;have bt:((ns.map V.int).take 63).length<=63:=by rw[bAC];lia
  refine⟨z7,p8,_,_,rfl,rfl,s8 _ _ g7,g8,small (by show 1+_<=1000;lia),λW H9 hW s9 g9=>?_⟩;obtain⟨xs,aa⟩:∃xs,xs=(ns.map V.int).take 63:=⟨_,rfl⟩;have g9:H9 W=some (.lst (.int 0::xs)):=by rw[aa];exact g9
  rw[<-aa] at bt;have c9:∀y∈V.int 0::xs,∃c,y=.int c:=λy hy=>by
   rw[aa] at hy;rcases List.mem_cons.mp hy with hy|hy
   ·exact⟨0,hy⟩
   ·obtain⟨c,_,rfl⟩:=List.mem_map.mp (bCO hy);exact⟨c,rfl⟩
  have ao:=s7.trans (s8.trans s9);have c8:LI K H9 C x m d dm D W Pt st xs J (λ_=>none) 0:=⟨ap.st.same (ag.trans ao),hY.same ao,by lia,by lia,g9,(ag.trans ao) _ _ (an _ _ aw),(ap.st.same (ag.trans (s7.trans s8))).ne hW⟩;clear aa hY g7 g8;refine⟨W,rfl,⟨_,SqL.of g9⟩,aJv (xs:=V.int 0::xs) (λi σ U=>∃(J:List EM) (f:Str->Option Mv) (l5 l7:Option V),LI K U C x m d dm D W Pt st xs J f i/\σ=[some (.ref a),some (.ref st),some (.int m),some (.ref O),some (.ref D),l5,some (.ref x),l7]) ⟨J,_,_,_,c8,rfl⟩ (λi σ U _ p=>by obtain⟨_,_,_,_,Z,_⟩:=p;exact SqL.of Z.gW) (λi y σ H8 ey p=>?_) fun σ H8 ⟨J,fm,l5,l7,Z,e⟩=>hN _ _ ⟨W,xs,J,fm,_,l5,l7,Z,e⟩⟩;obtain⟨J,fm,l5,l7,Z,rfl⟩:=p;obtain⟨c,rfl⟩:=c9 y (v4 ey);have hi:i<64:=by have:=(List.getElem?_eq_some_iff.mp ey).1;rw[j9] at this;lia
  obtain⟨s0,dg,ai,_,d0⟩:=Z.s;refine⟨_,rfl,st,_,0,_,rfl,rfl,SqL.of ai,at0 _ _,_,rfl,_,_,rfl,rfl,⟨by decide,by decide,by decide⟩,_,_,rfl,rfl,(by show (0:Int)<10 ^ 18;decide),_,_,rfl,rfl,?_⟩;refine⟨_,rfl,st,_,0,0,rfl,rfl,ai,rfl,?_⟩;generalize eA:L2.upd H8 st _=HA;have fx:Fx st H8 HA:=by rw[<-eA];exact⟨λb o n h=>by rw[aQ n];exact h,_,dg,aG,trivial,d0⟩
  have a2:=Z.fx fx;clear Z ai fx eA;refine⟨_,rfl,D,moK J,J.map (·.1.n),rfl,a2.y.md,by unfold moK;rw[bBW,bBW];rfl,(by unfold moK;rw[j4];have:=a2.l3;lia),λS5 HB ss bw sB pm g5=>?_⟩;have ad:=a2.same sB;have bh:=pm.length_eq;rw[j4] at bh;have bo:(moK J).length=J.length:=by unfold moK;rw[j4]
  have ci:=a2.l2;have bj:=a2.l3;refine⟨_,rfl,_,rfl,D,moK J,rfl,ad.y.md,st,_,rfl,ad.s,⟨by lia,by lia⟩,λz HC fC z0 z1=>?_⟩;have a1:=ad.fx fC;obtain⟨zi,rfl⟩:∃zi:Nat,z=zi:=⟨z.toNat,by lia⟩;have hz:zi<ss.length:=by lia
  refine⟨S5,_,_,.str ss[zi],rfl,rfl,SqL.of (fC.same _ _ (a2.s.ne bw) g5),cG (by rw[v5,b8 hz];rfl),?_⟩;obtain⟨⟨e,y⟩,hp,ep⟩:=List.mem_map.mp (pm.mem_iff.mp (bAO hz));rw[<-ep];obtain⟨k1,k2,rfl⟩:=List.append_of_mem hp;clear ep pm bh hz g5 z0 z1 a2 ad hp bo fC;dsimp only[bR,List.set];obtain⟨cs,cr,gs,_⟩:=id a1.s;have aj:=a1.y.no gs λ_ z=>by cases z;exact⟨_,_,rfl⟩
  have pr:=a1.y.pr _ (mem_mid.mpr (.inl rfl));refine⟨_,rfl,_,rfl,_,rfl,_,rfl,_,rfl,D,.ref y.M,rfl,.inl ⟨_,Sum.inr e.n,.inl a1.y.md,rfl,a1.y.get.symm⟩,_,rfl,st,x,d,dm,y.M,y.R,m,k1.map (·.1),k2.map (·.1),fm,i,e,y.vh,y.vp,y.vm,y.t,y.o,rfl,a1.s,a1.y.at,(aj _ (mem_mid.mpr (.inl rfl))).2.1,(aj _ (mem_mid.mpr (.inl rfl))).2.2,?_,pr.fw,by lia,λe' br bp t' o' f' HD kD bi b4 en eL fw hf=>?_⟩
  ·intro z hz;rw[<-mapm (p:=(e,y)) (g:=λp:EM=>p.1)] at hz;obtain⟨q,hq,rfl⟩:=List.mem_map.mp hz;exact (aj q hq).1
  have ah:=a1.upd kD bi b4 en eL fw hf;have hg:=ah.y.get;refine⟨_,rfl,_,rfl,_,rfl,_,rfl,D,.ref y.M,rfl,.inl ⟨_,Sum.inr e.n,.inl ah.y.md,rfl,by rw[<-en];exact hg.symm⟩,_,rfl,x,d,dm,y.M,y.R,m,k1.map (·.1),k2.map (·.1),f',i+1,e',y.vh,br,bp,t',o',by rw[en];rfl,b4,ah.gP,λHE sE=>⟨_,rfl,cB ?_⟩⟩;exact⟨_,f',_,_,ah.same sE,rfl⟩
 obtain⟨W,xs,J,fm,j,l5,l7,Z,rfl⟩:=hJ;have a3:=Z.y.md;have bj:=Z.l3;refine⟨D,moK J,a3,λbv=>aWf [none,some (.ref x),some (.int m),some (.ref D)] (tM 6 2 4 (by trivial) (by trivial) (by trivial) rfl rfl rfl rfl rfl rfl (by trivial) (by trivial) (by trivial)) ⟨_,rfl,D,_,rfl,a3,λkv hk=>?_,bv,λo'=>?_⟩⟩
 ·unfold moK at hk;obtain⟨p,_,rfl⟩:=List.mem_map.mp hk;exact⟨_,rfl⟩
 have k1:KP K (λb=>b≠D) H8 (L2.upd H8 D (.frz o' (.dK (moK J)))):=.aUi (dH.dK a3) λz=>z rfl;have g1:L2.upd H8 D (.frz o' (.dK (moK J))) D=some (.frz o' (.dK (moK J))):=aG;generalize L2.upd H8 D (.frz o' (.dK (moK J)))=B1 at k1 g1 ⊢;have b9:B1 Pt=some (.tab qC):=k1.st _ _ (λz=>by have g:=Z.gP;rw[z,a3] at g;cases g) Z.gP;refine aRh g1 ⟨none,rfl⟩ (by unfold moK;rw[j4];lia) (λ_ _ _ y=>y=.bl true) (λ_ h=>h) (λ_ h=>h) (λj kv ek σ2 U R DD ys bx sm hD gD r=>?_) λDD U ys sm hD gD ly hy=>?_
 ·unfold moK at ek;rw[v5] at ek;obtain⟨⟨e,y⟩,hp,rfl⟩:=Option.map_eq_some_iff.mp ek;obtain⟨l,rfl⟩:=bx;obtain⟨k2,k3,rfl⟩:=List.append_of_mem (v4 hp);obtain⟨cn,av⟩:=Z.y.st.at_;have ns:=Z.y.dk a3;have hY:=Z.y.at.kp k1 (λz=>by rw[z,a3] at av;cases av) Z.y.dd.symm Z.y.de.symm (ns _ (mem_mid.mpr (.inl rfl))).2.1 (ns _ (mem_mid.mpr (.inl rfl))).2.2 λz hz=>by rw[<-mapm (p:=(e,y)) (g:=λp:EM=>p.1)] at hz;obtain⟨q,hq,rfl⟩:=List.mem_map.mp hz;exact (ns q hq).1
  refine⟨_,rfl,_,rfl,_,rfl,_,rfl,D,.ref y.M,rfl,.inl ⟨_,Sum.inr e.n,.inr ⟨o',sm _ _ g1⟩,rfl,Z.y.get.symm⟩,_,rfl,x,d,dm,y.M,y.R,m,_,_,fm,_,e,y.vh,y.vp,y.vm,y.t,y.o,rfl,hY.same sm,sm _ _ b9,λH2 s2=>r _ _ s2 rfl⟩
 ·refine⟨⟨o',sm _ _ g1⟩,?_⟩;have e1:ys=(List.replicate ys.length true).map V.bl:=by rw[bDN];exact List.eq_replicate_iff.mpr ⟨rfl,λb hb=>by obtain⟨i,hi⟩:=List.mem_iff_getElem?.mp hb;exact hy i b hi⟩
  have cf:DD≠D:=(aL g1 hD).symm;refine⟨DD,List.replicate ys.length true,rfl,SqL.of (by rw[<-e1,aQ cf];exact gD),?_⟩;rw[show (List.replicate ys.length true).all id=true from List.all_eq_true.mpr λb hb=>bBP hb];refine q _ ?_;rw[aQ λz=>by have g:=Z.gP;rw[z,a3] at g;cases g];exact sm _ _ b9
def bBb {fa Pt:Addr}(T:Txt w K mg)(CT:aTq K mg "are_cuts" Pt)(N:mg "law"=some (.ref fa)) :
  ∃fd:FuncData,(∀(s:Shared) (u:Value),BindsTo s fd ⟨[u],[]⟩ [("_law_script",u)])/\∀base:Heap,K.In base->base.Ns mainGlobals mg->BM mg base->kZ P w K mg base CX0 15 fa fd bQE (aQj K Pt):=by
 obtain⟨f,fd,F,B,m⟩:=T.bD5;have e:fa=f:=by rw[m] at N;injection N with e;injection e with e;exact e.symm
 subst e;refine⟨fd,?_,λbase hK _ L=>?_⟩
 ·obtain⟨⟨oc,od,kV,a4,pm,an,a0,v,a5,rfl,lk,a3⟩,kp⟩:=F;exact λs u=>.of_eq rfl
 ·obtain⟨Tc,D,m0,m3,m4,m6,G,Y⟩:=T.bAz;obtain⟨Sc,V,q0,q1,q2,q3,q4,q5,qp,q6,q7,q8,qs,q9,qa,qb,i,E,l⟩:=T.aX0;have c:=D.cls;have b:=V.cls;have r:=aLn (P:=P) (base:=base) T;have Z:=aNq (P:=P) (base:=base) T;have H:=aNc T Z;have g4:=aLy T r Z;have g5:=aN9 T r;have Q:=aHh (P:=P) (base:=base) T;have I:=vI T r;have j:=aHc (P:=P) (base:=base) T;have M:=aDw T g4 g5;have t:=aNu (P:=P) (base:=base) T;have n:=aSi (P:=P) (base:=base) T;have y:=aJ6 T CT hK L (aBd T) (aR2 T I) M;have pl:=aD6 T Q (aBg T H j) t y;have g:=aOz T M;have tb:=aK2 T (aMa T (aIp T H Q) (aCq T) (aEi T) j) pl (aL8 T g);have W:=zJ T (aIi T r H tb);have a:=aLi T H;have R:=aPa T I (aH6 T (aAv T j) (aXr T r (aCz T)) n);have h:=aHs (P:=P) (base:=base) T;have J:=aEu T h (aEq T h);have C:=aMb T J;have k:=aHi (P:=P) (base:=base) T;have d:=aG9 (P:=P) (base:=base) T;have po:=aAv T j;have q:=aO7 T b q9 i l a;have v:=aTg T b q1 i a;have S:=aIc T po n;have X:=aJu (P:=P) (base:=base) T;have U:=aIm (P:=P) (base:=base) T;have o:=aD3 T k (aHx T) d;have x:=aBj T k d;have A:=aN6 (P:=P) (w:=w) (mg:=mg) (base:=base) T b q3 l;have p:=aYj T b q7 i l S X;have z:=aS2 (P:=P) (w:=w) (mg:=mg) (base:=base) T b q2 l;have O:=aG5 (P:=P) (base:=base) T;have hd:=aIu T h;exact bA8 F T (aEk T (aH1 T)) (aEx T h (aEs T)) h (aG0 T h hd (aBk T h J) C) (OkM.make V (aQ7 T b q0 i E l W)) (aHu T h C (aX2 T b q4 i a g U) (aTz T b q5 i a g U) (aEb T h x (aSo T b q8 l v A p) (aM8 T b qs i l v A p O)) (aEh T J d (aSj T b qp i v z (aEj T M t) n O)) (aIt T h (aVv T b q6 E l I v z))) (aD4 T o (aCt T o x) q (aTj T b qb i E (OkM.make D (aWd T c m0 G Y W))) (aL1 T b qa i E a R q S X) (aJ4 T c m3 G a) (aRt T c m4 G a) (aUc T c m6 G Y a R))
def aV3 {Pt:Addr}{H:Hp}{a:Addr}{e:List Int}{E:XK}(d:e.length<=63)(c:uC [(Pt,qC)] H)(f:SqL K H a (e.map V.int)):aQj K Pt [.ref a] H (λv H'=>v=.bl true/\uC [(Pt,qC)] H') E:=
 ⟨a,e,rfl,f,d,c _ (List.mem_singleton.mpr rfl),λH' h=>⟨rfl,λp b=>by rcases List.mem_singleton.mp b with rfl;exact h⟩⟩
def bBk {h:Heap}{Pt f c:Addr}{o:Obj}{b:FuncData}(X:K.In h)(G:h.Ns mainGlobals mg)(a:PySem.W.nsIn K mainGlobals "are_cuts"=some (some (.ref f)))(l:K.lookup f=some o)(d:o.data=.func b)(e:b.code=.ref c)(g:PySem.W.codeHdIn K c Pt=true):aTq K mg "are_cuts" Pt:=
 ⟨f,o,b,c,bFE X G a,l,d,e,g⟩
def aYq {Pt f c:Addr}{o:Obj}{fd:FuncData}(a:PySem.W.nsIn K mainGlobals "are_cuts"=some (some (.ref f)))(l:K.lookup f=some o)(e1:o.data=.func fd)(e2:fd.code=.ref c)(d:PySem.W.codeHdIn K c Pt=true)(n:K.lookup Pt=none) :
  ∀p∈[(Pt,qC)],(∃c,PySem.W.codeHdIn K c p.1=true)/\K.lookup p.1=none:=λp b=>by
 rcases List.mem_singleton.mp b with rfl;exact⟨⟨c,d⟩,n⟩
def aXi {Pt:Addr}{h:Heap}(x:∀P∈[Pt],h.get? P=some (PySem.W.tabObj #[])):∀p∈[(Pt,qC)],h.get? p.1=some { cls:=.none,data:=.fields #[] }:=λp a=>by rcases List.mem_singleton.mp a with rfl;exact x _ (List.mem_singleton.mpr rfl)
def aRp {l:PySem.W.OpenLaw}{n k:Nat}{q:Program}{loose:List Str}{XP:(bF2)->Heap->Prop}{YP:World->Heap->Prop}{d:DefRec}{K:Params->bFZ}{CX:CXT}{sp:bFZ->Sp}{x:Str}
  (y:l.most=some n) (g:n<=sizeLine) (r:d.params.defaults=[]) (z:Room k callerA)
  (ts:List (Addr × Str)) (i:(ts.map (·.1)).Nodup)
  (A:∀(w:World) (h:Heap),YP w h->(K w.params).In h/\∀p∈ts,h.get? p.1=some { cls:=.none,data:=.fields #[] })
  (B:∀(w:World),∀p∈ts,(∃c,PySem.W.codeHdIn (K w.params) c p.1=true)/\(K w.params).lookup p.1=none)
  (F:∀(w:World) (mg:bF2) (fa:Addr) (h:Heap),(K w.params).In h->h.Ns mainGlobals mg->mg d.name=some (.ref fa) ->
   ∃fd:FuncData,(∀(s:Shared) (u:Value),BindsTo s fd ⟨[u],[]⟩ [(x,u)]) /\
    ∀base:Heap,(K w.params).In base->base.Ns mainGlobals mg->BM mg base->kZ l.prog w (K w.params) mg base CX k fa fd [x] (sp (K w.params)))
  (m:∀(K:bFZ) (H:Hp) (a:Addr) (ns:List Int),ns.length<=n->uC ts H->SqL K H a (ns.map V.int)->sp K [.ref a] H (λv H'=>v=.bl true/\uC ts H') λ_ _ _=>False)
  (j:∀(H:Hp) (s:Shared) (e:Value) (s':Shared),CX [] H s (λ_ _ _=>False) e s'->False) :
  PySem.W.WalkO q loose XP YP l.row.toRowW d [] (λf vs=>PySem.call f vs):=
 aUp (K:=K) (CX:=λ_=>CX) (sp:=λw=>sp (K w.params)) y g r z ts i A B F (λw H a ns t o b=>m (K w.params) H a ns t o b) λ_ H s e s'=>j H s e s'
end
inductive FA (K:bFZ)(n:Str)(s:Stmt)(f:Addr):Prop
 |mk {od an:Option Addr} {sl:Array (Option Value)} {kV dc pm cd ct:Value}:PySem.W.nsIn K mainGlobals n=some (some (.ref f))->K.lookup f=some ⟨.type "function",od,.func (PySem.W.fnOf n n (mQ s) (fJ s) (aF s) .none kV dc pm an cd ct),sl⟩->PySem.W.codeIn K cd n=true->PySem.W.keepIn K (.ref f)=true->FA K n s f
section
variable {K:bFZ}{h:Heap}{mg:bF2}{n:Str}{s:Stmt}{f:Addr}{ps:List Str}
def aZt (X:K.In h)(G:h.Ns mainGlobals mg)(a:FA K n s f):mg n=some (.ref f):=by obtain⟨a,_,_,_⟩:=a;exact bFE X G a
def bE3 (X:K.In h)(G:h.Ns mainGlobals mg)(a:FA K n s f)(b:∀(kV doc pm:Value) (an:Option Addr) (cdv ct:Value) (us:List Value),us.length=ps.length->bindArgs (PySem.W.fnOf n n (mQ s) (fJ s) (aF s) .none kV doc pm an cdv ct) ⟨us,[]⟩=pure (ps.zip us)):Dn K mg n s ps:=by have m:=aZt X G a;obtain⟨_,l,c,k⟩:=a;exact⟨f,_,aHf l c k,(aHf l c k).binds b,m⟩
def bDk (X:K.In h)(G:h.Ns mainGlobals mg)(a:FA K n s f):∃f o,(∃u,mg n=some u/\RelV (.ref f) u)/\K.lookup f=some o/\o.cls=.type "function":=by have m:=aZt X G a;obtain⟨_,l,c,k⟩:=a;exact⟨f,_,⟨_,m,rfl⟩,l,rfl⟩
end
inductive CA (K:bFZ)(x:Str)(C:Addr):Prop
 |mk:PySem.W.nsIn K mainGlobals x=some (some (.ref C))->PySem.W.plainGet K C Str.empty=true->PySem.W.hasDictIn K C=true->PySem.W.plainOver K C=true->PySem.W.findIn K (.ref C) "__setattr__"=some (some (.builtin "object.__setattr__"))->PySem.W.makesIn K C=true->PySem.W.keepIn K (.ref C)=true->CA K x C
def bEz {K:bFZ}{h:Heap}{mg:bF2}{x:Str}{C:Addr}(X:K.In h)(G:h.Ns mainGlobals mg)(a:CA K x C):aTf K mg x C:=by obtain⟨a,g,e,d,b,f,c⟩:=a;exact⟨bFE X G a,⟨g,e,d,b⟩,f,c⟩
inductive MA (K:bFZ)(C:Addr)(m qual:Str)(s:Stmt)(f:Addr):Prop
 |mk {od an:Option Addr} {sl:Array (Option Value)} {kV dc pm cd ct:Value}:PySem.W.findIn K (.ref C) m=some (some (.ref f))->PySem.W.isFn K (.ref f)=true->K.lookup f=some ⟨.type "function",od,.func (PySem.W.fnOf m qual (mQ s) (fJ s) (aF s) .none kV dc pm an cd ct),sl⟩->PySem.W.codeIn K cd qual=true->PySem.W.keepIn K (.ref f)=true->MA K C m qual s f
def bDp {K:bFZ}{C:Addr}{m qual:Str}{s:Stmt}{f:Addr}{ps:List Str}(a:MA K C m qual s f)(b:∀(kV doc pm:Value) (an:Option Addr) (cdv ct:Value) (us:List Value),us.length=ps.length->bindArgs (PySem.W.fnOf m qual (mQ s) (fJ s) (aF s) .none kV doc pm an cdv ct) ⟨us,[]⟩=pure (ps.zip us)):eZ K C m qual s ps:=by obtain⟨a,i,l,c,k⟩:=a;exact⟨f,_,⟨a,i,k⟩,aHf l c k,(aHf l c k).binds b⟩
theorem ln0 {P:List Value->Prop}(h:P []):∀us:List Value,us.length=0->P us
 |[],_=>h
theorem lnS {P:List Value->Prop}{n:Nat}(h:∀a us,us.length=n->P (a::us)):∀us:List Value,us.length=n+1->P us
 |[],e=>by cases e
 |a::us,e=>h a us (Nat.succ.inj e)
def ln1 {P:List Value->Prop}(h:∀a0,P [a0]):∀us:List Value,us.length=1->P us:=lnS λa0=>ln0 (h a0)
def ln2 {P:List Value->Prop}(h:∀a0 a1,P [a0,a1]):∀us:List Value,us.length=2->P us:=lnS λa0=>lnS λa1=>ln0 (h a0 a1)
def ln3 {P:List Value->Prop}(h:∀a0 a1 a2,P [a0,a1,a2]):∀us:List Value,us.length=3->P us:=lnS λa0=>lnS λa1=>lnS λa2=>ln0 (h a0 a1 a2)
def ln4 {P:List Value->Prop}(h:∀a0 a1 a2 a3,P [a0,a1,a2,a3]):∀us:List Value,us.length=4->P us:=lnS λa0=>lnS λa1=>lnS λa2=>lnS λa3=>ln0 (h a0 a1 a2 a3)
def ln5 {P:List Value->Prop}(h:∀a0 a1 a2 a3 a4,P [a0,a1,a2,a3,a4]):∀us:List Value,us.length=5->P us:=lnS λa0=>lnS λa1=>lnS λa2=>lnS λa3=>lnS λa4=>ln0 (h a0 a1 a2 a3 a4)
def ln6 {P:List Value->Prop}(h:∀a0 a1 a2 a3 a4 a5,P [a0,a1,a2,a3,a4,a5]):∀us:List Value,us.length=6->P us:=lnS λa0=>lnS λa1=>lnS λa2=>lnS λa3=>lnS λa4=>lnS λa5=>ln0 (h a0 a1 a2 a3 a4 a5)
def bAa {K:bFZ}{h:Heap}{mg:bF2}{n:Str}{l:List V}{a:Addr}{o:Obj}{vs:Array Value}{m:Nat}(X:K.In h)(G:h.Ns mainGlobals mg)(q:PySem.W.nsIn K mainGlobals n=some (some (.ref a)))(r:K.lookup a=some o)(t:o.cls=.type "tuple")(y:o.dict=none)(u:o.data=.seq vs m)(v:Vals l vs.toList)(s:l.length<=1000):∃a,mg n=some (.ref a)/\∀H,SqT K H a l:=
 ⟨_,bFE X G q,λH=>.inr ⟨_,_,_,r,t,y,u,by have e:=v.length;simp only[v7] at e;rw[<-e];exact small s,v⟩⟩
def bAg {K:bFZ}{h:Heap}{mg:bF2}{n:Str}{v:V}{u:Value}(X:K.In h)(G:h.Ns mainGlobals mg)(q:PySem.W.nsIn K mainGlobals n=some (some u))(r:RelV v u):∃u,mg n=some u/\RelV v u:=⟨u,bFE X G q,r⟩
def bEp {K:bFZ}{h:Heap}{mg:bF2}{x:Str}{C:Addr}{R:Addr->Prop}(X:K.In h)(G:h.Ns mainGlobals mg)(a:CA K x C)(r:R C):∃C,aTf K mg x C/\R C:=⟨C,bEz X G a,r⟩
end My
open PySem PySem.W PyProof.Rows
namespace PySem.W.Fast
def tw1689562490529244928:=Nat
def tw6856807916777255034:=Nat
def tw17932466874234396337:=Nat
def tw10386662196867603394:=Nat
def tw16792343181888874252:=Nat
def tw6334565748367766792:=Nat
def tw520775479688429151:=Nat
def tw1267709536424441311:=Nat
def tw15393418789842067247:=Nat
def tw5712469915284683666:=Nat
def tw6423332726369352366:=Nat
def tw6795936351423246071:=Nat
def tw12612262415135148142:=Nat
def tw14584743511603477970:=Nat
def tw5707958768766812528:=Nat
def tw15439537230389377355:=Nat
def tw15048911617786569411:=Nat
def tw639416061329527738:=Nat
def tw17815355049762271131:=Nat
def tw10649881812538388458:=Nat
def tw10040477382511995214:=Nat
def tw13115672947734709263:=Nat
def tw7058492853107559572:=Nat
def tw13882830776785202903:=Nat
def tw8113655511206624820:=Nat
def tw16690921271615087512:=Nat
def tw589720158010009201:=Nat
def tw4922307256493471080:=Nat
def tw15917449664138623310:=Nat
def tw11388425129514580951:=Nat
def tw11461257363338632346:=Nat
def tw17375961136308859692:=Nat
def tw9611915247782376807:=Nat
def tw5865356259912125338:=Nat
def tw13256149582093840407:=Nat
def tw8819251593350805402:=Nat
def tw6503200525845272997:=Nat
def tw2001481551135338592:=Nat
def tw10170629234893197071:=Nat
def tw17598594590968331208:=Nat
def tw11262794249568976167:=Nat
def tw8205227881794039845:=Nat
def tw1852346487757025305:=Nat
def tw16785403235352857093:=Nat
def tw5312440056125397249:=Nat
def tw9314070512988797039:=Nat
def tw5032388515912110351:=Nat
def tw7786269834383440475:=Nat
def tw5347794926552197263:=Nat
def tw5096231539324912785:=Nat
def tw13894789514205883347:=Nat
def tw10005382182527896157:=Nat
def tw1049838585821675816:=Nat
def tw6867878462458415889:=Nat
def tw17812967866908383233:=Nat
def tw1813812469258965373:=Nat
def tw700483926047110922:=Nat
def tw11165031752003744837:=Nat
def tw1484545976200374953:=Nat
def tw5946760049938765502:=Nat
def tw12842959782693996576:=Nat
def tw11223689439095619025:=Nat
def tw6172589256811032142:=Nat
def tw5795438643799278865:=Nat
def tw9954743177606370369:=Nat
def tw6751258800316457359:=Nat
def tw4676774709192530046:=Nat
def tw17636015907058776568:=Nat
def tw9293117143044717681:=Nat
def tw3157936988131445780:=Nat
def tw8117952626457212727:=Nat
def tw3966693061286982481:=Nat
def tw12253806272702533304:=Nat
def tw389139742326487611:=Nat
def tw15777044538379523848:=Nat
def tw7994128586937652613:=Nat
def tw5624722887297608462:=Nat
def tw9854365266139695320:=Nat
def tw12806608327293303691:=Nat
def tw11045734416494428753:=Nat
def tw422203594731607801:=Nat
def tw14217446268829565755:=Nat
def tw7880318863230549007:=Nat
def tw12993208234897446390:=Nat
def tw8094374009610715173:=Nat
def tw12021851533889755855:=Nat
def tw8137989969956800009:=Nat
def tw6052063114896172519:=Nat
def tw16298204028288741877:=Nat
def tw8128912604719119954:=Nat
def tw7272725117506203976:=Nat
def tw504731683596866678:=Nat
def tw15144663548766981130:=Nat
def tw10765443139972879352:=Nat
def tw9677531950351284147:=Nat
def tw1736227531395617835:=Nat
def tw16696556997959631352:=Nat
def tw2945607967251203557:=Nat
def tw12413477184412936870:=Nat
def tw20347587870745690:=Nat
def tw5696950113886814572:=Nat
def tw6437842579851596700:=Nat
def tw10754206956148156705:=Nat
def tw17369368988837202696:=Nat
def tw4965090918812924121:=Nat
def tw8304932750158108603:=Nat
def tw17831107846828762483:=Nat
def tw16510178821197609151:=Nat
def tw12801816485604768158:=Nat
def tw1950649703321475447:=Nat
def tw13077984378093258342:=Nat
def tw13856791970119534695:=Nat
def tw2157292418262602624:=Nat
def tw15511556564300659091:=Nat
def tw8391538798637483208:=Nat
def tw10366461023638533717:=Nat
def tw18366634199143833522:=Nat
def tw10024420798458600782:=Nat
def tw10574388012403732165:=Nat
def tw5024190060751814918:=Nat
def tw14081745565768541611:=Nat
def tw12423211238553317910:=Nat
def tw12583998376362689077:=Nat
def tw15457815218604296217:=Nat
def tw5674175421504995027:=Nat
def tw10423328734638740507:=Nat
def tw779272604471106687:=Nat
def tw17015251289734089343:=Nat
def tw12029690740899221636:=Nat
def tw18316593330262462042:=Nat
def tw995100685041053172:=Nat
def tw392837966892304966:=Nat
def tw12252930226004648239:=Nat
def tw4139357220706684089:=Nat
def tw16572998259098285217:=Nat
def tw14345060488781721583:=Nat
def tw9672926620374624081:=Nat
def tw10146690443764040796:=Nat
def tw15202082326199861422:=Nat
def tw12033454301642239999:=Nat
def tw10873855570245344938:=Nat
def tw6033154924623235992:=Nat
def tw2267328291904640074:=Nat
def tw364825872907477926:=Nat
def tw2109906987392077601:=Nat
def tw11381333831326291194:=Nat
def tw5490855957301100459:=Nat
def tw7664886805164075158:=Nat
def tw6388999686031461699:=Nat
def tw7408786772983214693:=Nat
def tw3175617895459353898:=Nat
def tw1035470373224509370:=Nat
def tw9810989542190188845:=Nat
def tw13251617551005279634:=Nat
def tw10689784077880359697:=Nat
def tw6222536908838296384:=Nat
def tw13061540169028887357:=Nat
def tw449781273669842580:=Nat
def tw9560856061660912913:=Nat
def tw5985358351513215738:=Nat
def tw16955171195843721589:=Nat
def tw12692740546405382398:=Nat
def tw8753358086643737166:=Nat
def tw10074998356743378671:=Nat
def tw9198068918999037846:=Nat
def tw10660766974092200442:=Nat
def tw2866400602395252901:=Nat
def tw17749960108261631179:=Nat
def tw17763072472931932143:=Nat
def tw16188216784589619441:=Nat
def tw7957549361958665127:=Nat
def tw15135604031051085199:=Nat
def tw205056387237426501:=Nat
def tw4361958365335258123:=Nat
def tw14293615607797608587:=Nat
def tw1322989708177729478:=Nat
def tw11338045625334819171:=Nat
def tw7866897593774928282:=Nat
def tw12021998160961000917:=Nat
def tw8873679404812922239:=Nat
def tw16659322520760059038:=Nat
def tw6141039783600660206:=Nat
def tw10871329464774208834:=Nat
def tw12650427444050312800:=Nat
def tw800389772902133365:=Nat
def tw10253163718854250618:=Nat
def tw12537972165875605116:=Nat
def tw17777728467991745128:=Nat
def tw12430962431646049175:=Nat
def tw4943369450060790516:=Nat
def tw6528962917414323672:=Nat
def tw7728533993038889911:=Nat
def tw2238551467251888780:=Nat
def tw8364312025272197475:=Nat
def tw12410985578571115552:=Nat
def tw6267362489741587160:=Nat
def tw13961596123254455059:=Nat
def tw17262308365809718554:=Nat
def tw13845216199490602493:=Nat
def tw8727070222044076815:=Nat
def tw2765589523333678404:=Nat
def tw2070646823570961146:=Nat
def tw6941702592310106093:=Nat
def tw18076407421268524530:=Nat
def tw4662677466692752898:=Nat
def tw11189394169509370192:=Nat
def tw7148935564909567320:=Nat
def tw5534463945513742461:=Nat
def tw6700108769648166555:=Nat
def tw483457685549002507:=Nat
def tw10653913254067411528:=Nat
def tw11870600000133307994:=Nat
def tw4507765778980067574:=Nat
def tw3165469168118702657:=Nat
def tw10617200355439897337:=Nat
def tw16571533611755055554:=Nat
def tw8859919994698887861:=Nat
def tw13092422376692065750:=Nat
def tw5494864531022405440:=Nat
def tw11060903087485306313:=Nat
def tw9427480596291862604:=Nat
def tw13137303389959266368:=Nat
def tw6961850108709158585:=Nat
def tw7413579953624345916:=Nat
def tw1941937898902597704:=Nat
def tw12449659290475833688:=Nat
def tw9182930069886878211:=Nat
def tw12910950754692427684:=Nat
def tw9963456361693703224:=Nat
def tw7264460094094165308:=Nat
def tw11707497531069906297:=Nat
def tw10031703758043191459:=Nat
def tw4644496103314215877:=Nat
def tw6283971058636813024:=Nat
def tw14203554982887157500:=Nat
def tw5258557339685668124:=Nat
def tw10642514339185612563:=Nat
def tw8611266326204052442:=Nat
def tw16104587962577204634:=Nat
def tw8537591718636836046:=Nat
def tw14333737987624421806:=Nat
def tw1238848679030027286:=Nat
def tw8042342223193322452:=Nat
def tw9523881881772489652:=Nat
def tw10588233322526384856:=Nat
def tw3553581915202164725:=Nat
def tw18253653362816858053:=Nat
def tw16495633367389697169:=Nat
def tw14598223652726041219:=Nat
def tw12242300807893914867:=Nat
def tw4180849624624129180:=Nat
def tw5059569850310101881:=Nat
def tw4573980626818605890:=Nat
def tw11598722106066837375:=Nat
def tw6558189977403551683:=Nat
def tw8050805512525505022:=Nat
def tw4801118565729774595:=Nat
def tw3652503544929516137:=Nat
def tw18291199225887384151:=Nat
def tw17921944037020986952:=Nat
def tw1456808628481504823:=Nat
def tw13118016853037632026:=Nat
def tw8278487010324650699:=Nat
def tw12559695080230033554:=Nat
def tw6245623504095915718:=Nat
def tw8579688228422590792:=Nat
def tw8604371116509895460:=Nat
def tw17078426886215506185:=Nat
def tw14321197020527106839:=Nat
def tw8011731072013366770:=Nat
def tw15663918129842268774:=Nat
def tw15589267553313178601:=Nat
def tw15650583642046893406:=Nat
def tw7245380821061390902:=Nat
def tw6086312633102279017:=Nat
def tw12103206106706945014:=Nat
def tw13350095866942316342:=Nat
def tw7552398607683781191:=Nat
def tw13750578333859409610:=Nat
def tw9795503769808723945:=Nat
def tw3069273031093609632:=Nat
def tw9153962536474833559:=Nat
def tw8813895446535905205:=Nat
def tw8387684749141252079:=Nat
def tw8676089600202367240:=Nat
def tw2216159845607316954:=Nat
def tw16822630352256593474:=Nat
def tw15529815243254665439:=Nat
def tw3273136780634089349:=Nat
def tw3337549457721724328:=Nat
def tw15913377142493418791:=Nat
def tw15028732854082898342:=Nat
def tw7848401208604233272:=Nat
def tw17410428383831606877:=Nat
def tw9587234559362226382:=Nat
def tw4060254734275425610:=Nat
def tw14298809781366143385:=Nat
def tw13021106089148506876:=Nat
def tw9026642283882774756:=Nat
def tw17331032596623104906:=Nat
def tw5875137182422277883:=Nat
def tw4966971641350278893:=Nat
def tw3373203716148020938:=Nat
def tw1536277207272769436:=Nat
def tw18358951140623888399:=Nat
def tw1830046686786699546:=Nat
def tw15135908603953946697:=Nat
def tw16462349519886126398:=Nat
def tw13717524598496081730:=Nat
def tw8625087335473074047:=Nat
def tw7133472314387573071:=Nat
def tw3272118409410904920:=Nat
def tw15501747227914257484:=Nat
def tw14077829114447870044:=Nat
def tw10512150215313640860:=Nat
def tw2409165915811520454:=Nat
def tw2317116189267110605:=Nat
def tw17997670031036840825:=Nat
def tw13222499447601104596:=Nat
def tw17118366381399872594:=Nat
def tw6539785833119508195:=Nat
def tw18027284899987298034:=Nat
def tw7165641882733356227:=Nat
def tw6804163359415721093:=Nat
def tw6764935251899537038:=Nat
def tw4242095955185018538:=Nat
def tw15281555820757528768:=Nat
def tw9759556790999160702:=Nat
def tw9122967455050137254:=Nat
def tw16528233240221974637:=Nat
def tw15945748841322058837:=Nat
def tw11309247143757373393:=Nat
def tw1782331792301329549:=Nat
def tw11934714592254867776:=Nat
def tw4814618644205866822:=Nat
def tw12137484589368952283:=Nat
def tw11180290704993999791:=Nat
def tw7535283215827474734:=Nat
def tw6269903354998445947:=Nat
def tw6052376155872271501:=Nat
def tw3041299408768489828:=Nat
def tw16392272264436236432:=Nat
def tw10956282438282518653:=Nat
def tw7264801229234843367:=Nat
def tw5127351226617826348:=Nat
def tw4317931191541871835:=Nat
def tw1583498958019331249:=Nat
def tw1483892824777817801:=Nat
def tw10389354453914643224:=Nat
def tw10708870433081692388:=Nat
def tw1842334914234515582:=Nat
def tw18153806344967589596:=Nat
def tw5991490027075191135:=Nat
def tw3186573506683634038:=Nat
def tw15422409083607110823:=Nat
def tw15356274848911906782:=Nat
def tw15008643597721429856:=Nat
def tw12329170986692149729:=Nat
def tw1945504468766887824:=Nat
def tw18213689110479145635:=Nat
def tw15485199014946891819:=Nat
def tw15297244292003194775:=Nat
def tw17263372661236554895:=Nat
def tw14880297454840960086:=Nat
def tw13180462116998979286:=Nat
def tw10473295217883104775:=Nat
def tw1049372115782833555:=Nat
def tw17530590274141824458:=Nat
def tw10288806269254347791:=Nat
def tw2340036204953553209:=Nat
def tw7177643769343790846:=Nat
def tw6434248943403528670:=Nat
def tw9672614200423349173:=Nat
def tw5815506814293133394:=Nat
def tw3076860786329782157:=Nat
def tw650165076289582144:=Nat
def tw12978683744170358414:=Nat
def tw4505799831742875137:=Nat
def tw3997032095715324689:=Nat
def tw2952018869945745436:=Nat
def tw16330712507421365702:=Nat
def tw16059229131502722120:=Nat
def tw12616727717243098900:=Nat
def tw12386982310394092957:=Nat
def tw10838647583011535947:=Nat
def tw12653666952569067547:=Nat
def tw7874753870539231228:=Nat
def tw12347719286815746008:=Nat
def tw12727645302706994979:=Nat
def tw14460174440321122486:=Nat
def tw11774360494700378560:=Nat
def tw13546869617405278045:=Nat
def tw9799030907485866397:=Nat
def tw13376838694536160327:=Nat
def tw1073654770644569227:=Nat
def tw156482114383859613:=Nat
def tw15016604294178081629:=Nat
def tw17164003604771349101:=Nat
def tw4744918995775997070:=Nat
def tw7304590359605825420:=Nat
def tw11489131912993710564:=Nat
def tw10847787278533201530:=Nat
def tw3054058464565480204:=Nat
def tw14536647301536635958:=Nat
def tw9300494616049949528:=Nat
def tw13942378872779072450:=Nat
def tw10566947166526684071:=Nat
def tw3488675530139352935:=Nat
def tw6024391488721195859:=Nat
def tw18183370327896175311:=Nat
def tw7369518622985008077:=Nat
def tw4915034248679579565:=Nat
def tw7954897889668285975:=Nat
def tw16768046432031323314:=Nat
def tw16356917798345080674:=Nat
def tw2203600435086039745:=Nat
def tw10655719099655865647:=Nat
def tw9583163446480684303:=Nat
def tw8049396443573660508:=Nat
def tw4114499458950710384:=Nat
def tw16726643958168074787:=Nat
def tw13355666566672824069:=Nat
def tw945320662170732012:=Nat
def tw9343212330609606855:=Nat
def tw8804599400776772283:=Nat
def tw16190051884547469896:=Nat
def tw5789261969551224261:=Nat
def tw16601279219201757397:=Nat
def tw2603922335515508701:=Nat
def tw3322348039652706066:=Nat
def tw3031585810670514487:=Nat
def tw18254863187792030534:=Nat
def tw15830502577124350746:=Nat
def tw16340326503666476529:=Nat
def tw4093898572103750672:=Nat
def tw7758592700991615306:=Nat
def tw6013720364760936799:=Nat
def tw10213407386397198131:=Nat
def tw8039379289427724721:=Nat
def tw16048348569408792314:=Nat
def tw15215006019401190169:=Nat
def tw16415667282555510272:=Nat
def tw7359262054571941207:=Nat
def tw4568233675406071588:=Nat
def tw14658414759864256655:=Nat
def tw6455867969568909623:=Nat
def tw4938042116438587694:=Nat
def tw2069514892200790978:=Nat
def tw13148508195100621614:=Nat
def tw11222267047229290921:=Nat
end PySem.W.Fast
set_option maxRecDepth 100000 in
set_option maxHeartbeats 0 in
theorem PySem.Challenge.cw_shardask_k67_whole_moves_holds : PySem.Challenge.rw_shardask_k67_whole_moves.Holds := by
 w_on;o_law;k_head;(case hw=>w_witness2)
 k_fill
 refine My.aRp (l:=PySem.Challenge.rw_shardask_k67_whole_moves) (n:=63) (k:=15) (x:="_law_script") (CX:=L2.CX0) (sp:=fun K=>My.aQj K 278) rfl (by decide) rfl ⟨rfl,by decide,by decide⟩ [(278,My.qC)] (by decide) (fun w h Y=>⟨PySem.W.km_in_of Y,My.aXi (PySem.W.km_tabs_of Y)⟩) ?C ?F (fun K H a ns hl hO hS=>My.aV3 hl hO hS) (fun _ _ _ _ z=>z)
 case C=>
  intro w
  refine' My.aYq ?a ?l ?e1 ?e2 ?h ?n
  (case a=>k_is)
  (case l=>k_is)
  (case e1=>rfl)
  (case e2=>rfl)
  (case h=>first|k_is|kernel_rfl|decide +kernel)
  (case n=>first|k_is|kernel_rfl|decide +kernel)
 case F=>
  intro w mg fa h KX G hmg
  have T:My.Txt w (L2.KOf KX) mg:=by
   dsimp only [L2.KOf]
   apply My.Txt.mk
   iterate 19 (refine' mg_none_of KX G ?_;k_is)
   (refine' My.bAa KX G ?gq ?gr ?gt ?gy ?gu ?gv ?gs;(case gq=>k_is);(case gr=>k_is);(case gt=>rfl);(case gy=>rfl);(case gu=>rfl);(case gv=>repeat (first|exact L2.aDs|refine L2.mK rfl ?_|refine L2.mK ⟨_,rfl⟩ ?_));(case gs=>decide))
   (refine' My.bAg KX G ?gq ?gr;(case gq=>k_is);(case gr=>exact ⟨_,rfl⟩))
   (refine' My.bAa KX G ?gq ?gr ?gt ?gy ?gu ?gv ?gs;(case gq=>k_is);(case gr=>k_is);(case gt=>rfl);(case gy=>rfl);(case gu=>rfl);(case gv=>repeat (first|exact L2.aDs|refine L2.mK rfl ?_|refine L2.mK ⟨_,rfl⟩ ?_));(case gs=>decide))
   iterate 5 (refine' My.bAg KX G ?gq ?gr;(case gq=>k_is);(case gr=>exact ⟨_,rfl⟩))
   (refine' My.bDk KX G (s:=My.rE) (My.FA.mk ?vj ?vl ?vc ?vk);(case vj=>k_is);(case vl=>k_is);(case vc=>k_is);(case vk=>k_is))
   iterate 58 (refine' My.bE3 KX G (My.FA.mk ?fj ?fl ?fc ?fk) ?fb;(case fj=>k_is);(case fl=>k_is);(case fc=>k_is);(case fk=>k_is);(case fb=>first|exact fun _ _ _ _ _ _=>My.ln1 fun _=>rfl|exact fun _ _ _ _ _ _=>My.ln2 fun _ _=>rfl|exact fun _ _ _ _ _ _=>My.ln3 fun _ _ _=>rfl|exact fun _ _ _ _ _ _=>My.ln4 fun _ _ _ _=>rfl|exact fun _ _ _ _ _ _=>My.ln5 fun _ _ _ _ _=>rfl|exact fun _ _ _ _ _ _=>My.ln6 fun _ _ _ _ _ _=>rfl|exact fun _ _ _ _ _ _=>My.ln0 rfl))
   iterate 2 (refine' My.bEp KX G (My.CA.mk ?cj ?c1 ?c2 ?c3 ?c4 ?c5 ?c6) ?cr;(case cj=>k_is);(case c1=>first|k_is|kernel_rfl|decide +kernel);(case c2=>first|k_is|kernel_rfl|decide +kernel);(case c3=>first|k_is|kernel_rfl|decide +kernel);(case c4=>first|k_is|kernel_rfl|decide +kernel);(case c5=>first|k_is|kernel_rfl|decide +kernel);(case c6=>first|k_is|kernel_rfl|decide +kernel);(case cr=>(repeat (refine' ⟨My.bDp (My.MA.mk ?mj ?mi ?ml ?mc ?mk) ?mb,?_⟩;(case mj=>k_is);(case mi=>first|k_is|kernel_rfl|decide +kernel);(case ml=>k_is);(case mc=>k_is);(case mk=>k_is);(case mb=>first|exact fun _ _ _ _ _ _=>My.ln1 fun _=>rfl|exact fun _ _ _ _ _ _=>My.ln2 fun _ _=>rfl|exact fun _ _ _ _ _ _=>My.ln3 fun _ _ _=>rfl|exact fun _ _ _ _ _ _=>My.ln4 fun _ _ _ _=>rfl|exact fun _ _ _ _ _ _=>My.ln5 fun _ _ _ _ _=>rfl|exact fun _ _ _ _ _ _=>My.ln6 fun _ _ _ _ _ _=>rfl|exact fun _ _ _ _ _ _=>My.ln0 rfl)));unfold L2.bU;(repeat (refine' ⟨?ma,?_⟩;(case ma=>k_is)));k_is))
  have C:L2.aTq (L2.KOf KX) mg "are_cuts" 278:=by
   dsimp only [L2.KOf]
   refine' My.bBk KX G ?a ?l ?e1 ?e2 ?h
   (case a=>k_is)
   (case l=>k_is)
   (case e1=>rfl)
   (case e2=>rfl)
   (case h=>first|k_is|kernel_rfl|decide +kernel)
  exact My.bBb (P:=PySem.Challenge.rw_shardask_k67_whole_moves.prog) T C hmg
