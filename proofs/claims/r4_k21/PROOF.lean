import PyProof.Rows.All
import Wide.All
import OpenK.AllK
import Wide.FinOn
import Lean
import PyProof.EqAt
import PyProof.EqKinds
import PyProof.TupleCall
import PyProof.CallType
import PyProof.WalkLemmas
import PyProof.StrOps
import PyProof.ForAny
import PyProof.IsInstanceH
import PyProof.IsiFacts
import PyProof.IsiFacts2
import PyProof.FactsAll.object
import PyProof.ListMulRoad
import PyProof.FactsAll.tuple_2
import PyProof.StrLawsIdx
import KE.KDictList
import PyProof.Rows.Range3
import PyProof.EnumMake
import PyProof.EnumFor
import PyProof.CompUse
import PyProof.ExcClass3
import PyProof.ExcBaseAll.ValueError
import PyProof.InstStoreFacts
import PyProof.ExcArgsOwn
import PyProof.ExcAttrAll.ValueError
import PyProof.ListStr
import PyProof.NeKinds
import PyProof.IsInstanceT
import PyProof.FString5
import PyProof.Rows.SeqMore2
import PyProof.IsiPairs
import KE.KDictOf
import KE.KEqDict
import KE.KDictSum
import PyProof.AttrMissHeap
import PyProof.DictWalks
import PyProof.Rows.TupTab
import PyProof.DictItems
import PyProof.StrCalls3
import KE.KSortTup
import KE.KSortKey
import PyProof.Rows.SortStr
import KE.KLam
import PyProof.FactsAll.set_1
import KE.KRevIter
import PySem.Challenge.RW_shardask_k21_town_refused
set_option Elab.async false
set_option linter.all false
set_option compiler.extract_closed false
set_option maxRecDepth 100000
set_option maxHeartbeats 6400000
local macro_rules|`(tactic|trivial)=>`(tactic|(intro a b c d h;first|(cases h;subst_vars;rfl)|(repeat (first|(obtain ⟨e,_⟩:=h;subst e;rfl)|(obtain ⟨_,h⟩:=h)|fail))))
abbrev n6:List PySem.Str:=["_law_state","_law_many"]
abbrev n7:List PySem.Str:=["thing"]
abbrev n8:List PySem.Str:=["self","houses","tables"]
abbrev o4:List PySem.Str:=["_law_state","_law_head_here","_law_houses","_law_names_here"]
abbrev o5:List PySem.Str:=["_law_state","_law_houses","_law_tables","_law_names_here"]
abbrev o6:List PySem.Str:=["thing","least","most","is_part"]
abbrev o7:List PySem.Str:=["_law_town_here","_law_way","_law_name","_law_house"]
abbrev o8:List PySem.Str:=["houses","tables"]
abbrev o9:List PySem.Str:=["thing","houses"]
abbrev q7:List PySem.Str:=["_law_script"]
abbrev t8:List PySem.Str:=["_law_state","_law_head_here","_law_houses"]
abbrev u5:List PySem.Str:=["_law_state","_law_names_here","_law_most"]
abbrev u6:List PySem.Str:=["self","name"]
abbrev u9:List PySem.Str:=["head","placing","row","house","houses"]
abbrev z8:List PySem.Str:=["head","thing"]
abbrev bQA:List PySem.Str:=["_law_way","_law_houses","_law_tables"]
abbrev bQB:List PySem.Str:=["_law_state","_law_head_here"]
abbrev bQC:List PySem.Str:=["head","name"]
abbrev bQD:List PySem.Str:=["table","house","houses"]
abbrev bQE:List PySem.Str:=["_law_state","_law_kind"]
abbrev bQF:List PySem.Str:=["_law_state","_law_names_here"]
abbrev bQG:List PySem.Str:=["thing","head","houses"]
abbrev bQH:List PySem.Str:=["placed","name"]
abbrev bQI:List PySem.Str:=["self","name","house"]
abbrev bQJ:List PySem.Str:=["_law_state","_law_table"]
abbrev bQK:List PySem.Str:=["thing","texts"]
abbrev bQL:List PySem.Str:=["thing","kind","houses"]
abbrev bQM:List PySem.Str:=["self","act"]
abbrev bQN:List PySem.Str:=["thing","many"]
abbrev bQO:List PySem.Str:=["thing","kind"]
abbrev bQP:List PySem.Str:=["thing","head"]
abbrev bQQ:List PySem.Str:=["value","houses"]
section
open PySem PySem.Spec PySem.Calls PyProof.Rows
def b7:=@wpAny_bind
def b8:=@List.getElem?_eq_getElem
def d7:=@Heap.get?_push_of_some
def d8:=@wpAny_pure
def d9:=@Nat.le_of_ble_eq_true
def j0:=@List.length_map
def j4:=@Heap.get?_push_size
def j5:=@Nat.le_refl
def j6:=@List.size_toArray
def j7:=@Heap.lt_size
def j8:=@List.length_cons
def j9:=@List.mem_cons_of_mem
def m5:=@List.getElem?_map
def m7:=@Bool.false_ne_true
def m8:=@decide_eq_true
def m9:=@decide_eq_false
def v4:=@List.mem_cons_self
def v5:=@Array.getElem?_eq_getElem
def v6:=@Nat.ne_of_lt
def v7:=@List.getD_eq_getElem?_getD
def v8:=@List.not_mem_nil
def v9:=@Array.length_toList
def z9:=@Nat.lt_of_lt_of_le
def bAA:=@List.mem_of_getElem?
def bAB:=@Bool.and_eq_true
def bAC:=@List.map_cons
def bAD:=@List.length_append
def bAE:=@List.mem_cons
def bAF:=@wpAny_newObj_type
def bAG:=@Bool.false_and
def bAH:=@wpAny_call_entry
def bAI:=@wpAny_callSpecial?_slot
def bAJ:=@Nat.le_trans
def bAK:=@Array.getD_eq_getD_getElem?
def bAL:=@List.length_range
def bAM:=@wpAny_field
def bAN:=@Int.toNat_natCast
def bAO:=@List.getElem?_eq_none
def bAP:=@wpAny_holding
def bAQ:=@Option.some.inj
def bAR:=@wpAny_setField_rec
def bAS:=@Nat.zero_le
def bAT:=@List.length_take
def bAU:=@Heap.get?_update_self
def bAV:=@Bool.and_false
def bAW:=@Bool.true_and
def bAX:=@Option.bind_some
def bAY:=@wpAny_mono
def bAZ:=@Bool.false_eq_true
def bBA:=@List.mem_append_right
def bBB:=@List.append_nil
def bBC:=@List.length_drop
def bBD:=@wpAny_truthy_bool
def bBE:=@Heap.get?_update_other
def bBF:=@List.take_of_length_le
def bBG:=@wpAny_Call_Name_kw
def bBH:=@List.getElem_mem
def bBI:=@Around.under_plainId
def bBJ:=@List.contains_cons
def bBK:=@Array.getElem?_eq_none
def bBL:=@Heap.size_push
def bBM:=@wpAny_seqItems
def bBN:=@List.length_nil
def bBO:=@Nat.lt_irrefl
def bBP:=@Option.getD_some
def bBQ:=@Heap.SameBut.update
def bBR:=@List.take_add_one
def bBS:=@List.all_cons
def bBT:=@codeAny_builtin
def bBU:=@List.map_append
def bBV:=@List.map_map
def bBW:=@wpAny_loadPart_at
def bBX:=@Array.getElem?_toList
def bBY:=@wpAny_setField
def bBZ:=@wpAny_attempt
def bCA:=@codeAny_mono
def bCB:=@List.find?_cons
def bCC:=@codeAny_call_builtin
def bCD:=@PyProof.Rows.callWith_type1
def bCE:=@List.getElem?_append_right
def bCF:=@Nat.lt_succ_of_lt
def bCG:=@Bool.eq_iff_iff
def bCH:=@PyProof.Rows.slot_tuple_getitem
def bCI:=@List.getElem?_append_left
def bCJ:=@Calls.spliced_cons
def bCK:=@wpAny_call
def bCL:=@Nat.lt_of_le_of_lt
def bCM:=@List.all_eq_true
def bCN:=@List.mem_singleton
def bCO:=@wpAny_typeNameOfWhole_itemiter
def bCP:=@Nat.ne_of_gt
def bCQ:=@List.set_set
def bCR:=@List.eq_nil_of_length_eq_zero
def bCS:=@wpAny_pyIter_list
def bCT:=@List.ext_getElem?
def bCU:=@wpAny_rule
def bCV:=@List.getElem_of_mem
def bCW:=@PyProof.Rows.F.plain_set_update_loop
def bCX:=@Nat.le_succ
def bCY:=@plainId_quiet
def bCZ:=@Nat.lt_succ_self
def bC0:=@List.lookup_cons
def bC1:=@SeqAt.EqAt.same
def bC2:=@wpAny_setState_of
def bC3:=@List.getElem?_take_of_lt
def bC4:=@List.filterMap_cons
def bC5:=@List.getElem?_range
def bC6:=@Array.toList_append
def bC7:=@wpAny_isSubtype_exc
def bC8:=@List.mem_map_of_mem
def bC9:=@wpAny_setEntries_of
def bDA:=@wpAny_isInstance
def bDB:=@Nat.le_add_right
def bDC:=@wpAny_askSetting
def bDD:=@Nat.le_of_lt
def bDE:=@List.getElem?_set_self
def bDF:=@Calls.callWith_builtin
def bDG:=@Bool.or_true
def bDH:=@Obj.data_mapFields
def bDI:=@List.all_map
def bDJ:=@List.forIn_cons
def bDK:=@List.nil_append
def bDL:=@List.nodup_cons
def bDM:=@PySem.W.mg_of
def bDN:=@Obj.isFreed_of_fields
def bDO:=@List.append_assoc
def bDP:=@Heap.get?_none_of_le
def bDQ:=@List.mem_append_left
def bDR:=@Calls.Name_function_global
def bDS:=@List.getElem_toArray
def bDT:=@wpAny_fieldsOf
def bDU:=@List.take_length
def bDV:=@List.any_eq_true
def bDW:=@PyProof.Rows.F.entry_set_update_loop
def bDX:=@Heap.get?_update_ne
def bDY:=@wpAny_onRaise
def bDZ:=@wpAny_passesOwn
def bD0:=@wpAny_pyIter_tuple
def bD1:=@SeqAt.EqAt.str_str
def bD2:=@wpAny_Call_method0_late
def bD3:=@Nat.lt_trans
def bD4:=@Nat.zero_add
def bD5:=@wpAny_isOneOf_itemiter
def bD6:=@wpAny_pyIter_slot
def bD7:=@Heap.get?_push_ne
def bD8:=@List.length_singleton
def bD9:=@List.getElem?_toArray
def bEA:=@PyProof.Rows.callWith_builtin1
def bEB:=@List.cons_append
def bEC:=@wpAny_standAt
def bED:=@List.any_cons
def bEE:=@wpAny_handled
def bEF:=@Bool.and_true
def bEG:=@List.getElem?_set_ne
def bEH:=@wpAny_of_eq
def bEI:=@List.getElem?_of_mem
def bEJ:=@wpAny_execs_nil
def bEK:=@Nat.not_lt_zero
def bEL:=@List.mem_append
def bEM:=@wpAny_ite_split
def bEN:=@wpAny_typeOf
def bEO:=@Int.fdiv_eq_ediv_of_nonneg
def bEP:=@Int.fmod_eq_emod_of_nonneg
def bEQ:=@SeqAt.EqAt.int_int
def bER:=@List.forIn_nil
def bES:=@wpAny_newTuple
def bET:=@List.getElem?_drop
def bEU:=@Int.emod_lt_of_pos
def bEV:=@List.length_eraseIdx_of_lt
def bEW:=@List.exists_cons_of_ne_nil
def bEX:=@List.getElem?_zip_eq_some
def bEY:=@Calls.spliced_nil
def bEZ:=@List.take_sublist
def bE0:=@wpAny_throw
def bE1:=@wpAny_letGo
def bE2:=@Array.toList_push
def bE3:=@wpAny_dictEntries
abbrev bE4:=PySem.W.Frag
abbrev bE5:=Value->Shared->Prop
abbrev bE6:=List (Addr × Obj)
abbrev bE7:=Str->Option Value
end
local macro_rules
  | `(tactic| trivial) => `(tactic| first | exact Or.inl rfl | exact Or.inr rfl | exact Or.inr (Or.inl rfl) | exact Or.inr (Or.inr rfl) | exact⟨rfl, rfl, rfl, by decide +kernel, rfl, by decide +kernel, by decide +kernel⟩ | exact⟨by decide +kernel, rfl, by decide +kernel, by decide +kernel⟩ | decide +kernel | fail)
namespace L2
open PySem PySem.Spec PyProof.Rows
abbrev Key:=Sum Int Str
def mD:Key->Value->Bool
 |.inl k,v=>Value.isInt k v
 |.inr x,v=>Value.isStrOf x v
def bB2 (w:World):Key->Int
 |.inl k=>hashInt k
 |.inr x=>hashStr w x
theorem cH:∀{k:Key} {v:Value},mD k v=true->(∃i t,k=Sum.inl i/\v=Value.int i t)\/(∃x t,k=Sum.inr x/\v=Value.str x t)
 |.inl i,v,h=>by obtain⟨t,e⟩:=Value.isInt_shape (k:=i) (v:=v) h;exact .inl ⟨i,t,rfl,e⟩
 |.inr x,v,h=>by obtain⟨t,e⟩:=Value.isStrOf_shape (x:=x) (v:=v) h;exact .inr ⟨x,t,rfl,e⟩
def aB6 (i:Int)(t:Tok):mD (.inl i) (.int i t)=true:=by simp[mD,Value.isInt]
def aDd (x:Str)(t:Tok):mD (.inr x) (.str x t)=true:=by simp[mD,Value.isStrOf]
def aYy (a b:Int):decide ((Sum.inl a:Key)=Sum.inl b)=(a == b):=by
 by_cases e:a=b
 ·subst e;simp
 ·have h:¬ (Sum.inl a:Key)=Sum.inl b:=λq=>e (Sum.inl.inj q);rw[m9 h];exact (beq_eq_false_iff_ne.mpr e).symm
def aZk (a b:Str):decide ((Sum.inr a:Key)=Sum.inr b)=decide (a=b):=by
 by_cases e:a=b
 ·subst e;simp
 ·have h:¬ (Sum.inr a:Key)=Sum.inr b:=λq=>e (Sum.inr.inj q);rw[m9 h,m9 e]
def aXk (a:Int)(b:Str):decide ((Sum.inl a:Key)=Sum.inr b)=false:=m9 (λq=>nomatch q)
def aYe (a:Str)(b:Int):decide ((Sum.inr a:Key)=Sum.inl b)=false:=m9 (λq=>nomatch q)
def bH (prog:Program)(w:World):PySem.KeyKind prog w Key where
 is:=mD
 hash:=bB2 w
 inj:=λv a b ha hb=>by
  rcases cH ha with⟨i,t,rfl,rfl⟩|⟨x,t,rfl,rfl⟩
  ·rcases cH hb with⟨j,u,rfl,e⟩|⟨y,u,rfl,e⟩
   ·injection e with e1 _;rw[e1]
   ·exact nomatch e
  ·rcases cH hb with⟨j,u,rfl,e⟩|⟨y,u,rfl,e⟩
   ·exact nomatch e
   ·injection e with e1 _;rw[e1]
 byValue:=λk v h=>by rcases cH h with⟨i,t,rfl,rfl⟩|⟨x,t,rfl,rfl⟩ <;> rfl
 pyHash:=λhv h=>by
  rcases cH hv with⟨i,t,rfl,rfl⟩|⟨x,t,rfl,rfl⟩
  ·exact wpAny_pyHash_int h
  ·exact wpAny_pyHash_str h
 eqBool:=λhu hv h=>by
  rcases cH hu with⟨i,t,rfl,rfl⟩|⟨x,t,rfl,rfl⟩
  ·rcases cH hv with⟨j,u,rfl,rfl⟩|⟨y,u,rfl,rfl⟩
   ·rw[aYy] at h;exact wpAny_eqBool_int h
   ·rw[aXk] at h;exact SeqAt.EqAt.int_str i t y u _ _ _ _ h
  ·rcases cH hv with⟨j,u,rfl,rfl⟩|⟨y,u,rfl,rfl⟩
   ·rw[aYe] at h;exact SeqAt.EqAt.str_int x t j u _ _ _ _ h
   ·rw[aZk] at h;exact wpAny_eqBool_str h
 «strs»:=λk x t v h=>by
  rcases cH h with⟨i,u,rfl,e⟩|⟨y,u,rfl,e⟩
  ·exact nomatch e
  ·injection e with e1 _;subst e1;cases v <;> rfl
def aIz (prog:Program)(w:World)(i:Int)(t:Tok):(bH prog w).is (.inl i) (.int i t)=true:=aB6 i t
def aF9 (prog:Program)(w:World)(x:Str)(t:Tok):(bH prog w).is (.inr x) (.str x t)=true:=aDd x t
inductive V where
 |non|bl (b:Bool)|int (i:Int)|str (x:Str)|byt (b:Array UInt8)|flt (b:UInt64)|ref (a:Addr)|ty (n:String)
 deriving DecidableEq
def RelV:V->Value->Prop
 |.non,u=>u=Value.none
 |.bl b,u=>u=Value.bool b
 |.int i,u=>∃t,u=Value.int i t
 |.str x,u=>∃t,u=Value.str x t
 |.byt b,u=>∃t,u=Value.bytes b t
 |.flt b,u=>∃t,u=Value.float b t
 |.ref a,u=>u=Value.ref a
 |.ty n,u=>u=Value.type n
abbrev Vals:List V->List Value->Prop:=Paired RelV
def Vals.length {xs:List V}{us:List Value}(r:Vals xs us):xs.length=us.length:=Paired.length r
theorem Vals.get:∀{xs:List V} {us:List Value} {i:Nat} {x:V},Vals xs us->xs[i]?=some x->∃u,us[i]?=some u/\RelV x u
 |_,_,_,_,.nil,e=>by simp at e
 |_,_,0,_,.cons r _,e=>by simp at e;subst e;exact⟨_,rfl,r⟩
 |_,_,i+1,x,.cons _ t,e=>by obtain⟨u,b,a⟩:=Vals.get (i:=i) (x:=x) t (by simpa using e);exact⟨u,by simpa using b,a⟩
theorem Vals.set {x:V}{u:Value}(r:RelV x u):∀{xs:List V} {us:List Value} (i:Nat),Vals xs us->Vals (xs.set i x) (us.set i u)
 |_,_,_,.nil=>.nil
 |_,_,0,.cons _ t=>.cons r t
 |_,_,i+1,.cons q t=>.cons q (Vals.set r i t)
theorem Vals.append:∀{xs ys:List V} {us ws:List Value},Vals xs us->Vals ys ws->Vals (xs++ys) (us++ws)
 |_,_,_,_,.nil,s=>s
 |_,_,_,_,.cons r t,s=>.cons r (Vals.append t s)
theorem Vals.take:∀{xs:List V} {us:List Value} (n:Nat),Vals xs us->Vals (xs.take n) (us.take n)
 |_,_,0,_=>.nil
 |_,_,_+1,.nil=>.nil
 |_,_,n+1,.cons r t=>.cons r (Vals.take n t)
theorem Vals.drop:∀{xs:List V} {us:List Value} (n:Nat),Vals xs us->Vals (xs.drop n) (us.drop n)
 |_,_,0,r=>r
 |_,_,_+1,.nil=>.nil
 |_,_,n+1,.cons _ t=>Vals.drop n t
def mO:Option V->Option Value->Prop
 |some v,some u=>RelV v u
 |none,none=>True
 |_,_=>False
def KV {κ:Type}:List (κ × V)->List (κ × Value)->Prop:=Paired λ(p:κ × V) (q:κ × Value)=>p.1=q.1/\RelV p.2 q.2
def kV:Key->V
 |.inl i=>.int i
 |.inr x=>.str x
inductive HO where
  |lst (xs:List V)
  |tup (xs:List V)
  |dK (kvs:List (Key × V))|dT (kvs:List (List Key × V))
  |set (S:Int->Bool) (n:Nat)
  |ins (C dx:Addr) (fs:List (Str × V))
  |own (x:Addr)
  |xd (fs:List (Str × V))
  |met (f x:Addr)
  |rng (lo hi:Int)
  |frz (o:Obj) (u:HO)
  |tbl (ps:Array Value)
  |tab (q:Str)
  |ext (φ:Heap->Prop)
abbrev Hp:=Addr->Option HO
def upd (H:Hp)(a:Addr)(o:HO):Hp:=λb=>if b=a then some o else H b
def aH {H:Hp}{a:Addr}{o:HO}:upd H a o a=some o:=by unfold upd;rw[if_pos rfl]
def aJ {H:Hp}{a b:Addr}{o:HO}(h:b≠a):upd H a o b=H b:=by unfold upd;rw[if_neg h]
def aMu {H:Hp}{a:Addr}{o u:HO}:upd (upd H a o) a u=upd H a u:=by funext b;unfold upd;split <;> rfl
def pN {H:Hp}{a b:Addr}{o u:HO}(h:H a=some o)(h':H b=some u)(d:o≠u):a≠b:=by intro e;subst e;rw[h] at h';exact d (bAQ h')
def aV {H:Hp}{a b:Addr}{o:HO}(h:H a=some o)(h':H b=none):a≠b:=by intro e;subst e;rw[h] at h';cases h'
def wZ (h:Heap)(a:Addr)(items:Array Value):Prop:=IsTup h a items/\∀o,h.get? a=some o->o.dict=none
def wZ.of {h:Heap}{a:Addr}{items:Array Value}{o:Obj}(e:h.get? a=some o)(d:o.dict=none)(x:IsTup h a items):wZ h a items:=⟨x,λc b=>by rw[e] at b;cases b;exact d⟩
def wZ.new (h:Heap)(items:Array Value):wZ (h.push { cls:=.type "tuple",data:=.seq items }) h.objs.size items:=.of (j4 _ rfl) rfl (IsTup.new _ _)
def wZ.keep {h h':Heap}{a:Addr}{items:Array Value}(x:wZ h a items)(k:∀o,h.get? a=some o->h'.get? a=some o):wZ h' a items:=by obtain⟨⟨o,e,c⟩,d⟩:=x;exact .of (k o e) (d o e) ⟨o,k o e,c⟩
section
variable (P:Program)(w:World)
def cM (H:Hp)(h:Heap)(a:Addr):HO->Prop
 |.lst xs=>xs.length<=sizeLine/\∃(its:List Value) (n:Nat),Vals xs its/\h.get? a=some { cls:=.type "list",data:=.seq its.toArray n }
 |.tup xs=>xs.length<=sizeLine/\∃its:List Value,Vals xs its/\wZ h a its.toArray
 |.dK kvs=>kvs.length<=sizeLine/\(a == sysModules)=false/\∃vs,KV kvs vs/\h.DictOf (bH P w) a vs
 |.dT kvs=>kvs.length<=sizeLine/\(a == sysModules)=false/\∃xs:List (List Key × Addr × Value),
   Paired (λ(p:List Key × V) (q:List Key × Addr × Value)=>p.1=q.1/\H q.2.1=some (.tup (p.1.map kV))/\RelV p.2 q.2.2) kvs xs /\
   ∃o es ep,h.get? a=some o/\o.ExactDict/\o.data=.dict es ep/\es.toList=xs.map (entryOfKey (tupleKind (bH P w)))/\(xs.map (·.1)).Nodup
 |.set S n=>h.SetOf (intKind P w) a S n
 |.ins C dx fs=>H dx=some (.own a)/\fs.length<=1000/\dx≠a/\h.get? a=some (PySem.W.instObj C dx) /\
   ∃mA,h.Ns1 dx mA/\(∀f,mO (fs.lookup f) (mA f))/\PySem.Within mA (fs.map (·.1))
 |.own _=>∃o,h.get? a=some o
 |.xd fs=>∃mA,h.Ns1 a mA/\∀f,mO (fs.lookup f) (mA f)
 |.rng lo hi=>∃t u v,h.get? a=some { cls:=.type "range",data:=.fields #[.int lo t,.int hi u,.int 1 v] }
 |.frz o u=>h.get? a=some o/\cM H h a u
 |.tbl ps=>h.get? a=some { cls:=.none,data:=.fields ps }
 |.tab q=>∃ps:Array Value,h.get? a=some { cls:=.none,data:=.fields ps }/\TriplesOk ps.toList/\∀(pos:Pos) (cv:Value),codeAmong pos ps.toList=some cv->∃(c:Addr) (oc:Obj) (vs:Array Value) (t:Tok),cv=.ref c/\H c=some (.own a)/\h.get? c=some oc/\oc.data=.fields vs/\vs[1]?=some (.str q t)
 |.met f x=>h.get? a=some (PySem.W.methodObj (.ref f) (.ref x))
 |.ext φ=>φ h/\(∃o,h.get? a=some o)/\∀h1 h2:Heap,φ h1->(∀o,h1.get? a=some o->h2.get? a=some o)->φ h2
def HOk (H:Hp)(h:Heap):Prop:=∀a o,H a=some o->cM P w H h a o
end
section
variable {P:Program}{w:World}{H H':Hp}{h h':Heap}{a:Addr}{o:HO}
def cM.lt (x:cM P w H h a o):a<h.objs.size:=by
 cases o with
 |lst xs=>obtain⟨_,_,_,_,e⟩:=x;exact j7 e
 |tup xs=>obtain⟨_,_,_,p⟩:=x;exact p.1.lt
 |dK kvs=>obtain⟨_,_,_,_,o,_,_,e,_⟩:=x;exact j7 e
 |dT kvs=>obtain⟨_,_,_,_,o,_,_,e,_⟩:=x;exact j7 e
 |set S n=>obtain⟨o,_,_,_,e,_⟩:=x;exact j7 e
 |ins C dx fs=>obtain⟨_,_,_,e,_⟩:=x;exact j7 e
 |own y=>obtain⟨_,e⟩:=x;exact j7 e
 |xd fs=>obtain⟨_,⟨_,_,_,e,_⟩,_⟩:=x;exact j7 e
 |rng lo hi=>obtain⟨_,_,_,e⟩:=x;exact j7 e
 |frz ob u=>obtain⟨e,_⟩:=x;exact j7 e
 |tbl ps=>exact j7 (show h.get? a=some _ from x)
 |tab q=>obtain⟨_,e,_⟩:=x;exact j7 e
 |met f y=>exact j7 (show h.get? a=some _ from x)
 |ext φ=>obtain⟨_,⟨_,e⟩,_⟩:=x;exact j7 e
theorem Paired.aZu {α β:Type}{F G:α->β->Prop}:∀{l₁:List α} {l₂:List β},Paired F l₁ l₂->(∀a b,F a b->G a b)->Paired G l₁ l₂
 |_,_,.nil,_=>.nil
 |_,_,.cons r t,f=>.cons (f _ _ r) (Paired.aZu t f)
def cM.stay (x:cM P w H h a o)(k:∀b u,(b=a\/H b=some (.own a))->h.get? b=some u->h'.get? b=some u)
  (G:∀b,H b=some (.own a)->H' b=some (.own a)) (K:∀b xs,H b=some (.tup xs)->H' b=some (.tup xs)):cM P w H' h' a o:=by
 induction o with
 |lst xs=>obtain⟨z,l,n,r,e⟩:=x;exact⟨z,l,n,r,k _ _ (.inl rfl) e⟩
 |tup xs=>obtain⟨z,l,r,p⟩:=x;exact⟨z,l,r,p.keep λo e=>k _ _ (.inl rfl) e⟩
 |dK kvs=>obtain⟨z,y,D,r,j,i,g,e,c⟩:=x;exact⟨z,y,D,r,j,i,g,k _ _ (.inl rfl) e,c⟩
 |dT kvs=>obtain⟨z,y,xs,r,j,i,g,e,c⟩:=x;exact⟨z,y,xs,Paired.aZu r λp q z=>⟨z.1,K _ _ z.2.1,z.2.2⟩,j,i,g,k _ _ (.inl rfl) e,c⟩
 |set S n=>obtain⟨j,i,g,t,e,c⟩:=x;exact⟨j,i,g,t,k _ _ (.inl rfl) e,c⟩
 |ins C dx fs=>obtain⟨d,z,F,e,s,⟨B,i,g,I,c⟩,r⟩:=x;exact⟨G _ d,z,F,k _ _ (.inl rfl) e,s,⟨B,i,g,k _ _ (.inr d) I,c⟩,r⟩
 |own y=>obtain⟨j,e⟩:=x;exact⟨j,k _ _ (.inl rfl) e⟩
 |xd fs=>obtain⟨s,⟨B,i,g,e,c⟩,r⟩:=x;exact⟨s,⟨B,i,g,k _ _ (.inl rfl) e,c⟩,r⟩
 |rng lo hi=>obtain⟨t,u,v,e⟩:=x;exact⟨t,u,v,k _ _ (.inl rfl) e⟩
 |frz j u ih=>obtain⟨e,q⟩:=x;exact⟨k _ _ (.inl rfl) e,ih q⟩
 |tab q=>obtain⟨m,e,t,c⟩:=x;exact⟨m,k _ _ (.inl rfl) e,t,λA J q=>let ⟨c',oc,D,tk,a1,a2,a3,a4⟩:=c A J q;⟨c',oc,D,tk,a1,G _ a2,k _ _ (.inr a2) a3,a4⟩⟩
 |tbl m=>have e:h.get? a=some { cls:=.none,data:=.fields m }:=x;show h'.get? a=some { cls:=.none,data:=.fields m };exact k a _ (.inl rfl) e
 |met f y=>have e:h.get? a=some (PySem.W.methodObj (.ref f) (.ref y)):=x;show h'.get? a=some (PySem.W.methodObj (.ref f) (.ref y));exact k a _ (.inl rfl) e
 |ext φ=>obtain⟨p,⟨o,e⟩,E⟩:=x;exact⟨E _ _ p λo q=>k _ _ (.inl rfl) q,⟨o,k _ _ (.inl rfl) e⟩,E⟩
def HOk.lt (x:HOk P w H h)(e:H a=some o):a<h.objs.size:=(x a o e).lt
def HOk.fresh (x:HOk P w H h)(e:h.objs.size<=a):H a=none:=by
 cases q:H a with
 |none=>rfl
 |some u=>exact absurd (z9 (x.lt q) e) (bBO _)
def HOk.kept (x:HOk P w H h)(k:∀b u,h.get? b=some u->h'.get? b=some u):HOk P w H h':=λa o e=>
 (x a o e).stay (λb u _ q=>k b u q) (λ_ q=>q) λ_ _ q=>q
def HOk.laid (x:HOk P w H h)(k:∀b u,h.get? b=some u->h'.get? b=some u)(i:h.objs.size<=a)(g:cM P w (upd H a o) h' a o):HOk P w (upd H a o) h':=λb u e=>by
 have d:=x.fresh i;by_cases f:b=a
 ·subst f;rw[aH] at e;cases e;exact g
 ·rw[aJ f] at e;exact (x b u e).stay (λc v _ q=>k c v q) (λc q=>by rw[aJ (aV q d)];exact q) λc j q=>by rw[aJ (aV q d)];exact q
end
def Rd (H:Hp)(a:Addr)(u:HO):Prop:=H a=some u\/∃o,H a=some (.frz o u)
def Rd.ok {P:Program}{w:World}{H:Hp}{h:Heap}{a:Addr}{u:HO}(r:Rd H a u)(x:HOk P w H h):cM P w H h a u:=by
 rcases r with r|⟨o,r⟩
 ·exact x a u r
 ·obtain⟨_,q⟩:=x a _ r;exact q
def Mut:Option HO->Prop
 |some (.lst _)=>True
 |some (.dK _)=>True
 |some (.dT _)=>True
 |some (.set _ _)=>True
 |some (.ins _ _ _)=>True
 |some (.ext _)=>True
 |some (.tab _)=>True
 |_=>False
section
variable {P:Program}{w:World}{H:Hp}{h h':Heap}{x e:Addr}{o':HO}
def HOk.write (s:HOk P w H h)(j:Mut (H x))(p:e=x\/H e=some (.own x))(k:∀b u,b≠e->h.get? b=some u->h'.get? b=some u)(m:∃u,h'.get? e=some u)
  (n:cM P w (upd H x o') h' x o'):HOk P w (upd H x o') h':=λb u q=>by
 have d:∀c y,H c=some (.own y)->c≠x:=λc y r z=>by subst z;rw[r] at j;exact j
 have f:∀c i,H c=some (.tup i)->c≠x:=λc i r z=>by subst z;rw[r] at j;exact j
 by_cases g:b=x
 ·subst g;rw[aH] at q;cases q;exact n
 ·rw[aJ g] at q;by_cases a:b=e
  ·have l:H b=some (.own x):=by
    rcases p with z|z
    ·exact absurd (a.trans z) g
    ·rw[a];exact z
   rw[q] at l;cases l;obtain⟨v,o⟩:=m;exact⟨v,by rw[a];exact o⟩
  ·refine (s b u q).stay (λc v hc r=>k c v ?_ r) (λc r=>by rw[aJ (d c b r)];exact r) λc i r=>by rw[aJ (f c i r)];exact r
   rcases hc with rfl|hc
   ·exact a
   ·rintro rfl;rcases p with z|z
    ·exact d c b hc z
    ·rw[hc] at z;cases z;exact g rfl
end
structure Un (fs ex:List Addr)(H H':Hp)(h h':Heap):Prop where
 keep:∀b o,h.get? b=some o->H b=none->b∉fs->b∉ex->h'.get? b=some o
 slot:∀b o,h.get? b=some o->H b=none->b∈fs->b∉ex->∃sl,h'.get? b=some { o with slots:=sl }
 free:∀b o,h.get? b=some o->H b=none->b∉ex->H' b=none
 there:∀b o,h.get? b=some o->b∉ex->∃o',h'.get? b=some o'
 tups:∀b xs,H b=some (.tup xs)->H' b=some (.tup xs)
 frzs:∀b o u,H b=some (.frz o u)->H' b=some (.frz o u)
 tbls:∀b ps,H b=some (.tbl ps)->∃more,H' b=some (.tbl (ps++more))
section
variable {fs fs' ex ex':List Addr}{H H1 H2:Hp}{h h1 h2 h':Heap}{a x e:Addr}{o:HO}
def Un.any (u:Un fs ex H H1 h h1){b:Addr}{c:Obj}(q:h.get? b=some c)(n:H b=none)(d:b∉ex):∃sl,h1.get? b=some { c with slots:=sl }:=by
 by_cases a:b∈fs
 ·exact u.slot b c q n a d
 ·exact⟨c.slots,u.keep b c q n a d⟩
def Un.kept (k:∀b u,h.get? b=some u->h'.get? b=some u):Un fs ex H H h h':=
 ⟨λb a q _ _ _=>k b a q,λb a q _ _ _=>⟨a.slots,k b a q⟩,λ_ _ _ n _=>n,λb a q _=>⟨a,k b a q⟩,λ_ _ q=>q,λ_ _ _ q=>q,λ_ c q=>⟨#[],by rw[q];simp⟩⟩
def Un.refl:Un fs ex H H h h:=Un.kept λ_ _ q=>q
def Un.laid (k:∀b u,h.get? b=some u->h'.get? b=some u)(f:h.objs.size<=a)(c:H a=none):Un fs ex H (upd H a o) h h' where
 keep:=λb u q _ _ _=>k b u q
 slot:=λb u q _ _ _=>⟨u.slots,k b u q⟩
 free:=λb u q n _=>by rw[aJ (v6 (z9 (j7 q) f))];exact n
 there:=λb u q _=>⟨u,k b u q⟩
 tups:=λb d q=>by rw[aJ (aV q c)];exact q
 frzs:=λb u d q=>by rw[aJ (aV q c)];exact q
 tbls:=λb e q=>⟨#[],by rw[aJ (aV q c),q];simp⟩
def Un.write (c:Mut (H x))(l:e=x\/H e=some (.own x))(k:∀b u,b≠e->h.get? b=some u->h'.get? b=some u)(i:∃u,h'.get? e=some u):Un fs ex H (upd H x o) h h':=by
 have g:∀b,H b=none->b≠x:=λb n z=>by subst z;rw[n] at c;exact c
 have f:∀b,H b=none->b≠e:=λb n z=>by
  subst z;rcases l with r|r
  ·exact g b n r
  ·rw[n] at r;cases r
 have d:∀b u,H b=some u->¬ Mut (some u)->b≠x:=λb u q nm z=>by subst z;rw[q] at c;exact nm c
 refine⟨λb u q n _ _=>k b u (f b n) q,λb u q n _ _=>⟨u.slots,k b u (f b n) q⟩,λb u q n _=>by rw[aJ (g b n)];exact n,λb u q _=>?_,
  λb j q=>by rw[aJ (d b _ q λz=>z)];exact q,λb u j q=>by rw[aJ (d b _ q λz=>z)];exact q,λb m q=>⟨#[],by rw[aJ (d b _ q λz=>z),q];simp⟩⟩
 by_cases a:b=e
 ·subst a;exact i
 ·exact⟨u,k b u a q⟩
end
def trk (h:Heap)(H:Hp):List Addr:=(List.range h.objs.size).filter λa=>(H a).isSome
def aBw (h:Heap)(H:Hp):Heap:=PySem.W.hideAll h (trk h H)
def aN2 (h:Heap)(H:Hp):(aBw h H).objs.size=h.objs.size:=PySem.W.hideAll_size _ _
def aRq {h:Heap}{H:Hp}{b:Addr}{o:Obj}(e:h.get? b=some o)(n:H b=none):(aBw h H).get? b=some o:=
 PySem.W.hideAll_get _ e λa=>by have q:(H b).isSome=true:=(List.mem_filter.mp a).2;rw[n] at q;simp at q
def aUb {h:Heap}{H:Hp}{b:Addr}{o:Obj}(e:(aBw h H).get? b=some o):h.get? b=some o/\H b=none:=by
 have a:h.get? b=some o:=PySem.W.of_hideAll (trk h H) e;refine⟨a,?_⟩;cases q:H b with
 |none=>rfl
 |some x=>have c:b∈trk h H:=List.mem_filter.mpr ⟨List.mem_range.mpr (j7 a),by simp[q]⟩;have z:(aBw h H).get? b=none:=PySem.W.hideAll_none (trk h H) c;rw[z] at e;cases e
structure Mod (K:bE4)(mg:bE7)(base:Heap):Prop where
 kin:K.In base
 glob:base.Ns mainGlobals mg
 blt:∃mb,base.Ns builtinsNs mb/\∀x:Str,x≠"__name__"->mb x=bootBuiltins x
 nolimit:base.NoLimit
structure Cx where
 prog:Program
 w:World
 K:bE4
 mg:bE7
 base:Heap
 A:Around
 N:List Str
 s₀:Shared
 H₀:Hp
 env:Env
 outer:List Env
 stack:List Env
 ex:List Addr
 fn:Str->Bool
 calm:Bool
 pn:bE6
 xe:bE5
def frs (l:List Env):List Addr:=l.filterMap (·.frame)
abbrev Cx.fs (X:Cx):List Addr:=frs X.outer
def Vis (sc:Scope)(x:Str):Prop:=sc.names.lookup x=some .local\/sc.names.lookup x=some .cell\/sc.names.lookup x=some .free
def Loc (sc:Scope)(x:Str):Prop:=sc.names.lookup x=some .local\/sc.names.lookup x=some .cell
def Look (env:Env)(h:Heap)(m:bE7)(x:Str)(u:Value):Prop:=
 (env.kindOf x=some .local/\m x=some u)\/((env.kindOf x=some .cell\/env.kindOf x=some .free)/\∃c,env.cells.lookup x=some c/\h.IsCell c (some u))
structure Cx.Ok (X:Cx):Prop where
 mod:Mod X.K X.mg X.base
 kind:X.env.scope.kind=.function
 glob:X.env.globals=mainGlobals
 blt:X.env.builtins=builtinsNs
 above:X.s₀.heap.objs.size<=X.env.locals
 inj:∀x y c,X.env.cells.lookup x=some c->X.env.cells.lookup y=some c->x=y
 has:∀x,(X.env.kindOf x=some .cell\/X.env.kindOf x=some .free)->∃c,X.env.cells.lookup x=some c
 cab:∀x c,X.fn x=true->X.env.cells.lookup x=some c->X.s₀.heap.objs.size<=c
 hd:X.calm=true->X.A.handled=none
 frames:X.A.frames=some X.stack
 stk:X.stack=X.outer\/(X.stack=X.env::X.outer/\X.env.frame=some X.env.locals)
 exf:∀b∈X.ex,b≠X.env.locals/\∀x c,X.env.cells.lookup x=some c->c≠b
 bs:∀b o,X.base.get? b=some o->X.s₀.heap.get? b=some o/\X.H₀ b=none
 bsz:X.base.objs.size<=X.s₀.heap.objs.size
 noex:∀b o,X.base.get? b=some o->b∉X.ex
 exfs:∀b∈X.ex,b∉X.fs
 funs:X.s₀.heap.FunFrames X.base X.outer
 frf:∀b∈X.fs,X.H₀ b=none
structure Inv (X:Cx)(bE8:bE6)(σ:List (Option V))(H:Hp)(s:Shared):Prop where
 ok:X.Ok
 os:s.os=X.s₀.os
 bare:AllBare s.gens
 base:Un X.fs X.ex X.H₀ H X.s₀.heap s.heap
 loc:∃m,s.heap.Ns X.env.locals m/\∀(i:Nat) (x:Str) (v:V),X.N[i]?=some x->σ[i]?=some (some v)->Vis X.env.scope x->∃u,RelV v u/\Look X.env s.heap m x u
 cell:∀x c,X.env.cells.lookup x=some c->∃v,s.heap.IsCell c v
 free:H X.env.locals=none
 freeC:∀x c,X.env.cells.lookup x=some c->H c=none
 pin:∀p∈X.pn++bE8,s.heap.get? p.1=some p.2/\H p.1=none/\p.1≠X.env.locals/\p.1∉X.fs/\∀v,p.2.data≠.cell v
 hok:HOk X.prog X.w H s.heap
 len:σ.length=X.N.length
section
variable {X:Cx}{bE8:bE6}{σ:List (Option V)}{H H':Hp}{s:Shared}{h':Heap}
def Cx.Ok.nofr (c:X.Ok){b:Addr}{o:Obj}(e:X.base.get? b=some o):b∉X.fs:=λa=>by have:=(c.funs.mem a).1;rw[e] at this;cases this
def Inv.bs (I:Inv X bE8 σ H s):∀b o,X.base.get? b=some o->s.heap.get? b=some o/\H b=none:=λb o e=>
 ⟨I.base.keep b o (I.ok.bs b o e).1 (I.ok.bs b o e).2 (I.ok.nofr e) (I.ok.noex b o e),I.base.free b o (I.ok.bs b o e).1 (I.ok.bs b o e).2 (I.ok.noex b o e)⟩
def Inv.bk (I:Inv X bE8 σ H s):∀b o,X.base.get? b=some o->s.heap.get? b=some o:=λb o e=>(I.bs b o e).1
def Inv.mod (I:Inv X bE8 σ H s):Mod X.K X.mg X.base:=I.ok.mod
def Inv.kIn (I:Inv X bE8 σ H s):X.K.In s.heap:=I.ok.mod.kin.keeps I.bk
def Inv.nolimit (I:Inv X bE8 σ H s):s.heap.NoLimit:=I.ok.mod.nolimit.keeps I.bk
def Inv.fr (I:Inv X bE8 σ H s):∃m,Fr X.base X.env.locals s.heap m:=
 let ⟨m,hn,_⟩:=I.loc
 ⟨m,hn,I.bk,bAJ I.ok.bsz I.ok.above⟩
def Inv.lt (I:Inv X bE8 σ H s):X.env.locals<s.heap.objs.size:=let ⟨_,hn,_⟩:=I.loc;hn.lt
def Inv.sz (I:Inv X bE8 σ H s):X.s₀.heap.objs.size<=s.heap.objs.size:=bAJ I.ok.above (bDD I.lt)
def Inv.nofs (I:Inv X bE8 σ H s){a:Addr}(h:s.heap.objs.size<=a):a∉X.fs:=λc=>by obtain⟨_,o,b,_⟩:=I.ok.funs.mem c;exact absurd (z9 (j7 b) (bAJ I.sz h)) (bBO _)
def Inv.cne (I:Inv X bE8 σ H s):∀x c,X.env.cells.lookup x=some c->c≠X.env.locals:=λx c e z=>by obtain⟨v,o,f,d⟩:=I.cell x c e;obtain⟨m,⟨h,i,g,b,a,_⟩,_⟩:=I.loc;rw[z,b] at f;cases f;rw[a] at d;cases d
def Inv.funs (I:Inv X bE8 σ H s):s.heap.FunFrames X.base X.outer:=by
 have d:∀(l:List Env),(∀b∈frs l,b∈X.fs)->X.s₀.heap.FunFrames X.base l->s.heap.FunFrames X.base l:=by
  intro l
  induction l with
  |nil=>intro _ _;trivial
  |cons env r ih=>intro g h;obtain⟨j,⟨L,o,c,n,k,m⟩,i⟩:=h;have f:L∈X.fs:=g L (by unfold frs;rw[bC4,c];exact v4);obtain⟨p,e⟩:=I.base.slot L o k (I.ok.frf L f) f λz=>I.ok.exfs L z f;exact⟨j,⟨L,_,c,n,e,m⟩,ih (λb a=>g b (by unfold frs;rw[bC4,c];exact j9 _ a)) i⟩
 exact d X.outer (λ_ a=>a) I.ok.funs
def Inv.stack (I:Inv X bE8 σ H s):s.heap.FunFrames X.base X.stack:=by
 rcases I.ok.stk with e|⟨e,b⟩
 ·rw[e];exact I.funs
 ·rw[e];obtain⟨m,a,_⟩:=I.loc;refine .cons (by rw[I.ok.kind];decide) b a ?_ I.funs;exact bDP (bAJ I.ok.bsz I.ok.above)
def Inv.aD6 (I:Inv X bE8 σ H s):∀b∈frs X.stack,b∈X.env.locals::X.fs:=λb a=>by
 rcases I.ok.stk with e|⟨e,c⟩
 ·rw[e] at a;exact j9 _ a
 ·rw[e] at a;unfold frs at a;rw[bC4,c] at a;exact a
def Inv.oN (I:Inv X bE8 σ H s):∀b∈frs X.stack,H b=none:=λb hb=>by
 rcases List.mem_cons.mp (I.aD6 b hb) with e|hb
 ·rw[e];exact I.free
 ·obtain⟨_,o,a,_⟩:=I.ok.funs.mem hb;exact I.base.free b o a (I.ok.frf b hb) λz=>I.ok.exfs b z hb
def Inv.step {g':Array GenState}{t':Nat}{d':Drawn}{ch:List Addr}(I:Inv X bE8 σ H s)
  (j:∀b∈ch,(b∈X.ex\/X.s₀.heap.objs.size<=b)/\b≠X.env.locals/\(∀x c,X.env.cells.lookup x=some c->c≠b)/\∀p∈X.pn++bE8,p.1≠b)
  (A:∀b o,b≠X.env.locals->b∉X.fs->b∉ch->s.heap.get? b=some o->H b=none->h'.get? b=some o)
  (slot:∀b o,b≠X.env.locals->b∈X.fs->b∉ch->s.heap.get? b=some o->H b=none->∃sl,h'.get? b=some { o with slots:=sl }) (g:∀b o,b∉ch->s.heap.get? b=some o->H b=none->H' b=none)
  (G:∀b o,b∉ch->s.heap.get? b=some o->∃o',h'.get? b=some o')
  (O:∀b xs,H b=some (.tup xs)->H' b=some (.tup xs)) (L:∀b o u,H b=some (.frz o u)->H' b=some (.frz o u)) (K:∀b ps,H b=some (.tbl ps)->∃more,H' b=some (.tbl (ps++more)))
  (Z:∀m,s.heap.Ns X.env.locals m->h'.Ns X.env.locals m) (W:HOk X.prog X.w H' h') (Y:AllBare g') :
  Inv X bE8 σ H' { s with heap:=h',gens:=g',drawn:=d',toks:=t' }:=by
 have D:∀b o,X.s₀.heap.get? b=some o->b≠X.env.locals:=λb o e=>v6 (z9 (j7 e) I.ok.above);have t:∀b o,X.s₀.heap.get? b=some o->b∉X.ex->b∉ch:=λb o e a B=>by
  rcases (j b B).1 with z|z
  ·exact a z
  ·exact absurd (z9 (j7 e) z) (bBO _)
 have f:∀x c,X.env.cells.lookup x=some c->∀v,s.heap.IsCell c v->h'.IsCell c v:=λx c e v ⟨o,C,J⟩=>by
  have h:c∉ch:=λz=>(j c z).2.2.1 x c e rfl;by_cases N:c∈X.fs
  ·obtain⟨sl,q⟩:=slot c o (I.cne x c e) N h C (I.freeC x c e);exact⟨_,q,J⟩
  ·exact⟨o,A c o (I.cne x c e) N h C (I.freeC x c e),J⟩
 refine⟨I.ok,I.os,Y,⟨λb o e n B a=>?_,λb o e n B a=>?_,λb o e n a=>?_,λb o e a=>?_,λb xs e=>O b xs (I.base.tups b xs e),λb o xs e=>L b o xs (I.base.frzs b o xs e),λb ps e=>?_⟩,?_,λx c e=>?_,?_,λx c e=>?_,λp Q=>?_,W,I.len⟩
 ·exact A b o (D b o e) B (t b o e a) (I.base.keep b o e n B a) (I.base.free b o e n a)
 ·obtain⟨sl,y⟩:=I.base.slot b o e n B a;obtain⟨F,E⟩:=slot b _ (D b o e) B (t b o e a) y (I.base.free b o e n a);exact⟨F,E⟩
 ·obtain⟨o',y⟩:=I.base.there b o e a;exact g b o' (t b o e a) y (I.base.free b o e n a)
 ·obtain⟨o',y⟩:=I.base.there b o e a;exact G b o' (t b o e a) y
 ·obtain⟨U,y⟩:=I.base.tbls b ps e;obtain⟨R,E⟩:=K b _ y;exact⟨U++R,by rw[E,Array.append_assoc]⟩
 ·obtain⟨m,V,S⟩:=I.loc;refine⟨m,Z m V,λi x v y E T=>?_⟩;obtain⟨u,r,l⟩:=S i x v y E T;refine⟨u,r,?_⟩;rcases l with l|⟨k,c,e,z⟩
  ·exact .inl l
  ·exact .inr ⟨k,c,e,f x c e _ z⟩
 ·obtain⟨v,z⟩:=I.cell x c e;exact⟨v,f x c e v z⟩
 ·obtain⟨m,⟨o,_,_,C,_⟩,_⟩:=I.loc;exact g _ o (λz=>(j _ z).2.1 rfl) C I.free
 ·obtain⟨v,o,C,J⟩:=I.cell x c e;exact g c o (λz=>(j c z).2.2.1 x c e rfl) C (I.freeC x c e)
 ·obtain⟨e,n,M,P,d⟩:=I.pin p Q;have h:p.1∉ch:=λz=>(j p.1 z).2.2.2 p Q rfl;exact⟨A p.1 p.2 M P h e n,g p.1 p.2 h e n,M,P,d⟩
def Inv.un {t':Nat}(I:Inv X bE8 σ H s)(u:Un X.fs [] H H' s.heap h')(j:HOk X.prog X.w H' h'):Inv X bE8 σ H' { s with heap:=h',toks:=t' }:=by
 obtain⟨m,⟨o,t,l,g,r⟩,_⟩:=id I.loc;obtain⟨v,k⟩:=u.any g I.free (by simp);exact I.step (g':=s.gens) (d':=s.drawn) (ch:=[]) (λ_ z=>nomatch z) (λb o _ c _ e n=>u.keep b o e n c (by simp)) (λb o _ c _ e n=>u.slot b o e n c (by simp)) (λb o _ e n=>u.free b o e n (by simp)) (λb o _ e=>u.there b o e (by simp)) u.tups u.frzs u.tbls (λp i=>by obtain⟨q,d,f,a,h⟩:=i;rw[g] at a;cases a;exact⟨_,d,f,k,h⟩) j I.bare
def Inv.call {g':Array GenState}{t':Nat}{d':Drawn}{ch:List Addr}(I:Inv X bE8 σ H s)(u:Un (frs X.stack) ch H H' s.heap h')(t:HOk X.prog X.w H' h')(v:AllBare g')
  (f:∀b∈ch,(b∈X.ex\/X.s₀.heap.objs.size<=b)/\b≠X.env.locals/\(∀x c,X.env.cells.lookup x=some c->c≠b)/\∀p∈X.pn++bE8,p.1≠b) :
  Inv X bE8 σ H' { s with heap:=h',gens:=g',drawn:=d',toks:=t' }:=by
 obtain⟨m,⟨o,C,y,j,r⟩,_⟩:=id I.loc;obtain⟨D,i⟩:=u.any j I.free λz=>(f _ z).2.1 rfl;exact I.step (ch:=ch) f (λb o i l a e n=>u.keep b o e n (λz=>(List.mem_cons.mp (I.aD6 b z)).elim i l) a) (λb o _ _ a e n=>u.any e n a) (λb o a e n=>u.free b o e n a) (λb o a e=>u.there b o e a) u.tups u.frzs u.tbls (λA q=>by obtain⟨B,g,h,d,k⟩:=q;rw[j] at d;cases d;exact⟨_,g,h,i,k⟩) t v
def Inv.turned {t':Nat}{it:Addr}(I:Inv X bE8 σ H s)(k:∀b o,b≠it->s.heap.get? b=some o->h'.get? b=some o)(A:H it=none)(l:it≠X.env.locals)
  (B:it∈X.ex\/X.s₀.heap.objs.size<=it) (w:∀x c,X.env.cells.lookup x=some c->c≠it) (y:∀p∈X.pn++bE8,p.1≠it):Inv X bE8 σ H { s with heap:=h',toks:=t' }:=by
 have d:∀b u,H b=some u->b≠it:=λb u e z=>by rw[z,A] at e;cases e
 refine I.step (g':=s.gens) (d':=s.drawn) (ch:=[it]) (λb h=>?_) (λb o _ _ a e _=>k b o (λz=>a (by simp[z])) e) (λb o _ _ a e _=>⟨o.slots,k b o (λz=>a (by simp[z])) e⟩) (λ_ _ _ _ n=>n)
  (λb o a e=>⟨o,k b o (λz=>a (by simp[z])) e⟩) (λ_ _ e=>e) (λ_ _ _ e=>e) (λb t e=>⟨#[],by rw[e];simp⟩) (λm j=>?_) (λb u e=>?_) I.bare
 ·have e:b=it:=by simpa using h
  subst e;exact⟨B,l,w,y⟩
 ·obtain⟨o,i,f,g,r⟩:=j;exact⟨o,i,f,k _ o (Ne.symm l) g,r⟩
 ·refine (I.hok b u e).stay (λc v a q=>k c v ?_ q) (λ_ q=>q) λ_ _ q=>q;rcases a with z|z
  ·rw[z];exact d b u e
  ·exact d c _ z
def Inv.tok (I:Inv X bE8 σ H s)(t:Nat):Inv X bE8 σ H { s with toks:=t }:=I.un (h':=s.heap) (t':=t) Un.refl I.hok
def Inv.kept {t':Nat}(I:Inv X bE8 σ H s)(k:∀b u,s.heap.get? b=some u->h'.get? b=some u):Inv X bE8 σ H { s with heap:=h',toks:=t' }:=I.un (Un.kept k) (I.hok.kept k)
def Inv.laid {a:Addr}{o:HO}{t':Nat}(I:Inv X bE8 σ H s)(k:∀b u,s.heap.get? b=some u->h'.get? b=some u)(c:s.heap.objs.size<=a)(d:cM X.prog X.w (upd H a o) h' a o) :
  Inv X bE8 σ (upd H a o) { s with heap:=h',toks:=t' }:=I.un (Un.laid k c (I.hok.fresh c)) (I.hok.laid k c d)
def Inv.write {x e:Addr}{o:HO}{t':Nat}(I:Inv X bE8 σ H s)(f:Mut (H x))(c:e=x\/H e=some (.own x))(k:∀b u,b≠e->s.heap.get? b=some u->h'.get? b=some u)(a:∃u,h'.get? e=some u)
  (d:cM X.prog X.w (upd H x o) h' x o):Inv X bE8 σ (upd H x o) { s with heap:=h',toks:=t' }:=I.un (Un.write f c k a) (I.hok.write f c k a d)
def Inv.aLx {pins':bE6}(I:Inv X bE8 σ H s)(h:∀p∈pins',s.heap.get? p.1=some p.2/\H p.1=none/\p.1≠X.env.locals/\p.1∉X.fs/\∀v,p.2.data≠.cell v):Inv X pins' σ H s:=
 ⟨I.ok,I.os,I.bare,I.base,I.loc,I.cell,I.free,I.freeC,λp a=>(List.mem_append.mp a).elim (λz=>I.pin p (bDQ _ z)) (h p),I.hok,I.len⟩
def aA2 {N:List Str}(f:N.Nodup){i j:Nat}{x:Str}(a:N[i]?=some x)(b:N[j]?=some x):i=j:=by obtain⟨e,d⟩:=List.getElem?_eq_some_iff.mp a;obtain⟨g,c⟩:=List.getElem?_eq_some_iff.mp b;exact (List.getElem_inj f).mp (d.trans c.symm)
def aBz {M:Model}{A:Around}{E:bE5}{i:Nat}{x:Str}{v:V}{u:Value}{Q:Unit->Shared->Prop}(I:Inv X bE8 σ H s)(hN:X.N.Nodup)(Y:X.N[i]?=some x)(t:Loc X.env.scope x)(r:RelV v u)
  (h:∀s',Inv X bE8 (σ.set i (some v)) H s'->(∃a,Heap.SameBut a s.heap s'.heap/\(a=X.env.locals\/X.env.cells.lookup x=some a))->Q () s') (hf:X.fn x=true\/X.env.scope.names.lookup x=some .local:=by first|exact .inl rfl|exact .inr rfl|assumption):wpAny M A (storeName X.env x u) Q E s:=by
 obtain⟨m,hn,hl⟩:=id I.loc;have T:(X.env.scope.kind == .class || (X.env.scope.kind == .module && X.env.locals != X.env.globals))=false:=by rw[I.ok.kind];rfl
 have O:i<σ.length:=by rw[I.len];exact (List.getElem?_eq_some_iff.mp Y).1
 have J:=I.cne;have g:∀{a:Addr} {K:Heap},(∃o,s.heap.get? a=some o/\H a=none)->Heap.SameBut a s.heap K->HOk X.prog X.w H K:=λ{a K} ha f b ob e=>by
  obtain⟨_,_,B⟩:=ha;refine (I.hok b ob e).stay (λc Z hc q=>(f.2 c ?_).trans q) (λ_ q=>q) λ_ _ q=>q;rintro rfl;rcases hc with rfl|hc
  ·rw[B] at e;cases e
  ·rw[B] at hc;cases hc
 rcases t with hk|hk
 ·refine wpAny_storeName_local hk hn (λK a1 f=>?_) T;obtain⟨oL,_,_,a0,_⟩:=id hn;refine h _ ⟨I.ok,I.os,I.bare,⟨λb o e n D t=>?_,λb o e n D t=>?_,I.base.free,λb o e t=>?_,I.base.tups,I.base.frzs,I.base.tbls⟩,⟨_,a1,λj y v' l C e3=>?_⟩,λy c e=>?_,I.free,I.freeC,λp hp=>?_,g ⟨oL,a0,I.free⟩ f,by simpa using I.len⟩ ⟨_,f,.inl rfl⟩
  ·exact (f.2 b (v6 (z9 (j7 e) I.ok.above))).trans (I.base.keep b o e n D t)
  ·obtain⟨sl,l⟩:=I.base.slot b o e n D t;exact⟨sl,(f.2 b (v6 (z9 (j7 e) I.ok.above))).trans l⟩
  ·obtain⟨o',l⟩:=I.base.there b o e t;exact⟨o',(f.2 b (v6 (z9 (j7 e) I.ok.above))).trans l⟩
  ·by_cases G:j=i
   ·subst G;rw[Y] at l;cases l;rw[bDE O] at C;cases C;exact⟨u,r,.inl ⟨hk,by simp⟩⟩
   ·rw[bEG (Ne.symm G)] at C;obtain⟨u',r',q⟩:=hl j y v' l C e3;refine⟨u',r',?_⟩;rcases q with⟨k,e⟩|⟨k,c,e,z⟩
    ·refine .inl ⟨k,?_⟩;have:y≠x:=λe=>G (aA2 hN l (e ▸ Y));simp[this,e]
    ·exact .inr ⟨k,c,e,z.sameBut f (J y c e)⟩
  ·obtain⟨Z,z⟩:=I.cell y c e;exact⟨Z,z.sameBut f (J y c e)⟩
  ·obtain⟨e,n,U,nf,d⟩:=I.pin p hp;exact⟨(f.2 p.1 U).trans e,n,U,nf,d⟩
 ·have F:X.fn x=true:=by
   rcases hf with z|z
   ·exact z
   ·rw[z] at hk;cases hk
  obtain⟨c,hc⟩:=I.ok.has x (.inl hk);obtain⟨Z,z⟩:=I.cell x c hc;refine wpAny_storeName_cell I.ok.kind hk hc z (λK P f=>?_);obtain⟨oc,R,S⟩:=id z;refine h { s with heap:=K } ⟨I.ok,I.os,I.bare,⟨λb o e n D t=>?_,λb o e n D t=>?_,I.base.free,λb o e t=>?_,I.base.tups,I.base.frzs,I.base.tbls⟩,⟨m,hn.sameBut f (Ne.symm (J x c hc)),λj y v' l C e3=>?_⟩,λy W e=>?_,I.free,I.freeC,λp hp=>?_,g ⟨oc,R,I.freeC x c hc⟩ f,by simpa using I.len⟩ ⟨c,f,.inr hc⟩
  ·exact (f.2 b (v6 (z9 (j7 e) (I.ok.cab x c F hc)))).trans (I.base.keep b o e n D t)
  ·obtain⟨sl,l⟩:=I.base.slot b o e n D t;exact⟨sl,(f.2 b (v6 (z9 (j7 e) (I.ok.cab x c F hc)))).trans l⟩
  ·obtain⟨o',l⟩:=I.base.there b o e t;exact⟨o',(f.2 b (v6 (z9 (j7 e) (I.ok.cab x c F hc)))).trans l⟩
  ·by_cases G:j=i
   ·subst G;rw[Y] at l;cases l;rw[bDE O] at C;cases C;exact⟨u,r,.inr ⟨.inl hk,c,hc,P⟩⟩
   ·rw[bEG (Ne.symm G)] at C;obtain⟨u',r',q⟩:=hl j y v' l C e3;refine⟨u',r',?_⟩;rcases q with q|⟨k,W,e,z'⟩
    ·exact .inl q
    ·refine .inr ⟨k,W,e,z'.sameBut f ?_⟩;rintro rfl;exact G (aA2 hN l (I.ok.inj _ _ _ e hc ▸ Y))
  ·by_cases L:W=c
   ·subst L;exact⟨_,P⟩
   ·obtain⟨w2,z2⟩:=I.cell y W e;exact⟨w2,z2.sameBut f L⟩
  ·obtain⟨e,n,U,nf,d⟩:=I.pin p hp;refine⟨(f.2 p.1 ?_).trans e,n,U,nf,d⟩;intro q;rw[q,R] at e;have q':oc=p.2:=bAQ e;exact d Z (by rw[<-q'];exact S)
def aAb {M:Model}{A:Around}{E:bE5}{i:Nat}{x:Str}{v:V}{u:Value}{Q:Unit->Shared->Prop}(I:Inv X bE8 σ H s)(e:X.N.Nodup)(c:X.N[i]?=some x)(d:Loc X.env.scope x)(r:RelV v u)
  (h:∀s',Inv X bE8 (σ.set i (some v)) H s'->Q () s') (b:X.fn x=true\/X.env.scope.names.lookup x=some .local:=by first|exact .inl rfl|exact .inr rfl|assumption):wpAny M A (storeName X.env x u) Q E s:=
 aBz I e c d r (λs' a _=>h s' a) b
def Inv.call' {s':Shared}{ch:List Addr}(I:Inv X bE8 σ H s)(h:s'.os=s.os)(u:Un (frs X.stack) ch H H' s.heap s'.heap)(f:HOk X.prog X.w H' s'.heap)(g:AllBare s'.gens)
  (a:∀b∈ch,(b∈X.ex\/X.s₀.heap.objs.size<=b)/\b≠X.env.locals/\(∀x c,X.env.cells.lookup x=some c->c≠b)/\∀p∈X.pn++bE8,p.1≠b):Inv X bE8 σ H' s':=by
 obtain⟨i,g',d',t',d⟩:=s';have e:d=s.os:=h;subst e;exact I.call (g':=g') (t':=t') (d':=d') u f g a
end
abbrev XK:=Value->Option Addr->Hp->Prop
abbrev St:=List (Option V)
abbrev VK:=V->Hp->Prop
abbrev TE:=St->Hp->VK->Prop
abbrev TT:=St->Hp->(Bool->Hp->Prop)->Prop
abbrev TA:=St->Hp->(List V->Hp->Prop)->Prop
structure Ends where
 nx:St->Hp->Prop
 rt:VK
 bk:St->Hp->Prop:=λ_ _=>False
 ct:St->Hp->Prop:=λ_ _=>False
abbrev TS:=Ends->St->Hp->Prop
def EP (X:Cx)(bE8:bE6)(σ:St)(Q:VK)(u:Value)(s':Shared):Prop:=∃v H',Inv X bE8 σ H' s'/\RelV v u/\Q v H'
def TP (X:Cx)(bE8:bE6)(σ:St)(Q:Bool->Hp->Prop)(b:Bool)(s':Shared):Prop:=∃H',Inv X bE8 σ H' s'/\Q b H'
def AP (X:Cx)(bE8:bE6)(σ:St)(Q:List V->Hp->Prop)(us:List Value)(s':Shared):Prop:=∃vs H',Inv X bE8 σ H' s'/\Vals vs us/\Q vs H'
def SP (X:Cx)(bE8:bE6)(D:Ends)(f:Flow)(s':Shared):Prop:=
 match f with
 |.next=>∃σ' H',Inv X bE8 σ' H' s'/\D.nx σ' H'
 |.brk=>∃σ' H',Inv X bE8 σ' H' s'/\D.bk σ' H'
 |.cont=>∃σ' H',Inv X bE8 σ' H' s'/\D.ct σ' H'
 |.ret u=>∃v σ' H',Inv X bE8 σ' H' s'/\RelV v u/\D.rt v H'
def PE (X:Cx)(e:Expr)(t:TE):Prop:=
 ∀(bE8:bE6) (s:Shared) (σ:St) (H:Hp) (Q:VK),Inv X bE8 σ H s->t σ H Q->wpAny (model X.prog X.w) X.A (eval e X.env) (EP X bE8 σ Q) X.xe s
def PT (X:Cx)(e:Expr)(t:TT):Prop:=
 ∀(bE8:bE6) (s:Shared) (σ:St) (H:Hp) (Q:Bool->Hp->Prop),Inv X bE8 σ H s->t σ H Q->wpAny (model X.prog X.w) X.A (isTrue e X.env (eval e X.env)) (TP X bE8 σ Q) X.xe s
def PW (X:Cx)(e:Expr)(t:TT):Prop:=
 ∀(whole:Sem Value) (bE8:bE6) (s:Shared) (σ:St) (H:Hp) (Q:Bool->Hp->Prop),Inv X bE8 σ H s->t σ H Q->wpAny (model X.prog X.w) X.A (isTrue e X.env whole) (TP X bE8 σ Q) X.xe s
def PW.pt {X:Cx}{e:Expr}{t:TT}(h:PW X e t):PT X e t:=h _
def PA (X:Cx)(es:List Expr)(t:TA):Prop:=
 ∀(pos:Pos) (bE8:bE6) (s:Shared) (σ:St) (H:Hp) (Q:List V->Hp->Prop),Inv X bE8 σ H s->t σ H Q->wpAny (model X.prog X.w) X.A (spliced (backTo pos (starEach es X.env))) (AP X bE8 σ Q) X.xe s
def PS (X:Cx)(st:Stmt)(t:TS):Prop:=
 ∀(bE8:bE6) (s:Shared) (σ:St) (H:Hp) (D:Ends),Inv X bE8 σ H s->t D σ H->wpAny (model X.prog X.w) X.A (exec st X.env) (SP X bE8 D) X.xe s
def PSs (X:Cx)(st:List Stmt)(t:TS):Prop:=
 ∀(bE8:bE6) (s:Shared) (σ:St) (H:Hp) (D:Ends),Inv X bE8 σ H s->t D σ H->wpAny (model X.prog X.w) X.A (execs st X.env) (SP X bE8 D) X.xe s
def thn {α:Type}{t:Sem α}{Q Q':α->Shared->Prop}{M:Model}{A:Around}{E:bE5}{s:Shared}(h:wpAny M A t Q E s)(b:∀a s,Q a s->Q' a s):wpAny M A t Q' E s:=bAY h b λ_ _ x=>x
section
variable {X:Cx}
def eX (i:Nat):TE:=fun σ H Q=>∃v,σ[i]?=some (some v)/\Q v H
def tC (v:V):TE:=λ_ H Q=>Q v H
def aYt {i:Nat}{x:Str}{pos:Pos}(n:X.N[i]?=some x)(k:Vis X.env.scope x)(hd:(x == ("__debug__":Str))=false:=by decide)(g:(x == ("__classdict__":Str))=false:=by decide):PE X (.Name x pos) (eX i):=by
 intro b s σ H Q I h;obtain⟨v,e,h⟩:=h;obtain⟨m,f,d⟩:=I.loc;obtain⟨u,r,l⟩:=d i x v n e k;have a:EP X b σ Q u s:=⟨v,H,I,r,h⟩;rcases l with⟨hk,j⟩|⟨hk,c,hc,hcell⟩
 ·exact wpAny_Name (wpAny_loadName_local I.ok.kind hk f j a) hd
 ·rcases hk with hk|hk
  ·exact wpAny_Name (wpAny_loadName_cell I.ok.kind hk hc hcell a) hd
  ·exact wpAny_Name (wpAny_loadName_free I.ok.kind hk hc hcell a g) hd
def aXf {i j pos}:PE X (.Constant (.int i) j pos) (tC (.int i)):=λ_ _ _ H _ I h=>wpAny_Constant_int ⟨.int i,H,I.tok _,⟨_,rfl⟩,h⟩
def bBi {b j pos}:PE X (.Constant (.bool b) j pos) (tC (.bl b)):=λ_ _ _ H _ I h=>Constant_bool ⟨.bl b,H,I,rfl,h⟩
def aY9 {j pos}:PE X (.Constant .none j pos) (tC .non):=λ_ _ _ H _ I h=>Constant_none ⟨.non,H,I,rfl,h⟩
def aYn {x j pos}:PE X (.Constant (.str x) j pos) (tC (.str x)):=λ_ _ _ H _ I h=>Calls.Constant_str ⟨.str x,H,I.tok _,⟨_,rfl⟩,h⟩
def Gl (X:Cx)(x:Str):Prop:=X.env.kindOf x=some .globalImplicit
def jF {E:bE5}{bE8:bE6}{s:Shared}{σ:St}{H:Hp}{x:Str}{u:Value}{pos:Pos}{Q:bE5}(I:Inv X bE8 σ H s)(b:Gl X x)(a:X.mg x=some u)(h:Q u s)
  (hd:(x == ("__debug__":Str))=false:=by decide):wpAny (model X.prog X.w) X.A (eval (.Name x pos) X.env) Q E s:=
 bDR I.ok.kind b (Calls.loadGlobal_global (by rw[I.ok.glob];exact I.mod.glob.keeps I.bk) a h) hd
def nC {E:bE5}{bE8:bE6}{s:Shared}{σ:St}{H:Hp}{x:Str}{u:Value}{pos:Pos}{Q:bE5}(I:Inv X bE8 σ H s)(e:Gl X x)(g:X.mg x=none)(f:bootBuiltins x=some u)(h:Q u s)
  (d:x≠"__name__":=by decide) (hd:(x == ("__debug__":Str))=false:=by decide):wpAny (model X.prog X.w) X.A (eval (.Name x pos) X.env) Q E s:=by
 obtain⟨c,a,b⟩:=I.mod.blt;exact bDR I.ok.kind e (Calls.loadGlobal_builtin (by rw[I.ok.glob];exact I.mod.glob.keeps I.bk) g (by rw[I.ok.blt];exact a.keeps I.bk) ((b x d).trans f) h) hd
def aT1 {x:Str}{v:V}{u:Value}{pos:Pos}(a:Gl X x)(b:X.mg x=some u)(r:RelV v u)(hd:(x == ("__debug__":Str))=false:=by decide):PE X (.Name x pos) (tC v):=
 λ_ _ _ H _ I h=>jF I a b ⟨v,H,I,r,h⟩ hd
def aU6 {x:Str}{v:V}{u:Value}{pos:Pos}(b:Gl X x)(d:X.mg x=none)(c:bootBuiltins x=some u)(r:RelV v u)(a:x≠"__name__":=by decide)(hd:(x == ("__debug__":Str))=false:=by decide):PE X (.Name x pos) (tC v):=
 λ_ _ _ H _ I h=>nC I b d c ⟨v,H,I,r,h⟩ a hd
variable {a b:Expr}{ta tb:TE}{pos:Pos}
def PC (X:Cx)(op:CmpOp)(a b:Expr)(t:TE):Prop:=
 ∀(bE8:bE6) (s:Shared) (σ:St) (H:Hp) (Q:VK),Inv X bE8 σ H s->t σ H Q ->
  wpAny (model X.prog X.w) X.A (eval a X.env) (λv s₁=>wpAny (model X.prog X.w) X.A (eval b X.env) (λu s₂=>wpAny (model X.prog X.w) X.A (compareOp op v u) (EP X bE8 σ Q) X.xe s₂) X.xe s₁) X.xe s
def tB (t:TE):TT:=fun σ H Q=>t σ H λx H1=>∃c,x=.bl c/\Q c H1
def aYv {op:CmpOp}{t:TE}(h:PC X op a b t)(f:behindInMarks op b=false:=by first|exact nobehind _ (by decide) (by decide)|rfl):PT X (.Compare a [op] [b] pos) (tB t):=by intro e s σ H Q I m;refine wpAny_isTrue_Compare1 (thn (h e s σ H _ I m) λv o f=>thn f λu p i=>thn i λc n ⟨x,k,j,l,g⟩=>?_) f;obtain⟨d,rfl,q⟩:=g;cases l;exact bBD ⟨k,j,q⟩
def aYg {e:Expr}{t:TE}(h:PE X e t)(k:∀whole,isTrue e X.env whole=(do let v <-whole;standAt e.pos;holding [v] (truthy v)):=by intro _;rfl):PT X e (tB t):=by intro a s σ H Q I i;refine isTrue_plain (thn (h a s σ H _ I i) λv j ⟨x,f,c,g,b⟩=>?_) (k _);obtain⟨d,rfl,q⟩:=b;cases g;exact bBD ⟨f,c,q⟩
variable {tA tB':TT}{rest:List Expr}
def bAl (t u:TT):TT:=fun σ H Q=>t σ H λc H1=>if c=true then u σ H1 Q else Q false H1
def tOr (t u:TT):TT:=fun σ H Q=>t σ H λc H1=>if c=true then Q true H1 else u σ H1 Q
def aXs (t:TT):TT:=fun σ H Q=>t σ H λc H1=>Q (!c) H1
def aWh (d:PT X a tA):PW X (.BoolOp .And [a] pos) tA:=by
 intro f b s σ H Q I h;refine isTrue_and (thn (d b s σ H Q I h) λc g e=>?_);cases c with
 |true=>exact isTrue_and_nil e
 |false=>exact e
def aY7 (d:PT X a tA):PW X (.BoolOp .Or [a] pos) tA:=by
 intro f b s σ H Q I h;refine isTrue_or (thn (d b s σ H Q I h) λc g e=>?_);cases c with
 |false=>exact isTrue_or_nil e
 |true=>exact e
def aXn (k:PT X a tA)(l:PW X (.BoolOp .And (b::rest) pos) tB'):PW X (.BoolOp .And (a::b::rest) pos) (bAl tA tB'):=by
 intro i d s σ H Q I h;refine isTrue_and (thn (k d s σ H _ I h) λc j ⟨g,f,e⟩=>?_);cases c with
 |true=>exact l i d j σ g Q f e
 |false=>exact⟨g,f,e⟩
def bAe (k:PT X a tA)(l:PW X (.BoolOp .Or (b::rest) pos) tB'):PW X (.BoolOp .Or (a::b::rest) pos) (tOr tA tB'):=by
 intro i d s σ H Q I h;refine isTrue_or (thn (k d s σ H _ I h) λc j ⟨g,f,e⟩=>?_);cases c with
 |true=>exact⟨g,f,e⟩
 |false=>exact l i d j σ g Q f e
def aX7 (e:PT X a tA):PT X (.UnaryOp .Not a pos) (aXs tA):=by intro b s σ H Q I h;exact isTrue_not (e b s σ H (λc d=>Q (!c) d) I h)
def aWt (ta tb:TE):TE:=fun σ H Q=>ta σ H λx H1=>∃c,x=.bl c/\if c=true then tb σ H1 Q else Q (.bl false) H1
def bA1 (ta tb:TE):TE:=fun σ H Q=>ta σ H λx H1=>∃c,x=.bl c/\if c=true then Q (.bl true) H1 else tb σ H1 Q
def aWz (ta:TE):TE:=fun σ H Q=>ta σ H λx H1=>∃c,x=.bl c/\Q (.bl (!c)) H1
def aY2 {op}{t:TE}(h:PE X a t):PE X (.BoolOp op [a] pos) t:=λb s σ H Q I c=>BoolOp_one (h b s σ H Q I c)
def aZ3 (l:PE X a ta)(k:PE X (.BoolOp .And (b::rest) pos) tb):PE X (.BoolOp .And (a::b::rest) pos) (aWt ta tb):=by
 intro d s σ H Q I h;refine BoolOp_and (thn (l d s σ H _ I h) λv i ⟨x,g,f,j,e⟩=>?_);obtain⟨c,rfl,e⟩:=e;cases j;refine bBD ?_;cases c with
 |true=>exact k d i σ g Q f e
 |false=>exact⟨.bl false,g,f,rfl,e⟩
def bBp (l:PE X a ta)(k:PE X (.BoolOp .Or (b::rest) pos) tb):PE X (.BoolOp .Or (a::b::rest) pos) (bA1 ta tb):=by
 intro d s σ H Q I h;refine BoolOp_or (thn (l d s σ H _ I h) λv i ⟨x,g,f,j,e⟩=>?_);obtain⟨c,rfl,e⟩:=e;cases j;refine bBD ?_;cases c with
 |false=>exact k d i σ g Q f e
 |true=>exact⟨.bl true,g,f,rfl,e⟩
def aZg (j:PE X a ta):PE X (.UnaryOp .Not a pos) (aWz ta):=by intro d s σ H Q I h;refine UnaryOp_ (thn (j d s σ H _ I h) λv i ⟨x,f,e,g,b⟩=>?_);obtain⟨c,rfl,b⟩:=b;cases g;exact not_of (bBD ⟨.bl (!c),f,e,rfl,b⟩)
def tIf (t:TT)(ta tb:TE):TE:=fun σ H Q=>t σ H λc H1=>if c=true then ta σ H1 Q else tb σ H1 Q
def aR1 {c:Expr}(m:PT X c tA)(k:PE X a ta)(l:PE X b tb):PE X (.IfExp c a b pos) (tIf tA ta tb):=by
 intro e s σ H Q I h;refine wpAny_IfExp (thn (m e s σ H _ I h) λd g ⟨j,i,f⟩=>?_);cases d with
 |true=>exact k e g σ j Q i f
 |false=>exact l e g σ j Q i f
end
def SqL (K:bE4)(H:Hp)(a:Addr)(xs:List V):Prop:=
 Rd H a (.lst xs) \/
  ∃(o:Obj) (its:Array Value) (n:Nat),K.lookup a=some o/\o.cls=.type "list"/\o.dict=none/\o.data=.seq its n/\its.size<=sizeLine/\Vals xs its.toList
def SqT (K:bE4)(H:Hp)(a:Addr)(xs:List V):Prop:=
 Rd H a (.tup xs) \/
  ∃(o:Obj) (its:Array Value) (n:Nat),K.lookup a=some o/\o.cls=.type "tuple"/\o.dict=none/\o.data=.seq its n/\its.size<=sizeLine/\Vals xs its.toList
def bCc:Value->Option V
 |.none=>some .non
 |.bool b=>some (.bl b)
 |.int i _=>some (.int i)
 |.str x _=>some (.str x)
 |.bytes b _=>some (.byt b)
 |.float b _=>some (.flt b)
 |.ref a=>some (.ref a)
 |.type n=>some (.ty n)
 |_=>none
def RelV.abs {x:V}{u:Value}(r:RelV x u):bCc u=some x:=by
 cases x with
 |non=>cases r;rfl
 |bl _=>cases r;rfl
 |int _=>obtain⟨t,rfl⟩:=r;rfl
 |str _=>obtain⟨t,rfl⟩:=r;rfl
 |byt _=>obtain⟨t,rfl⟩:=r;rfl
 |flt _=>obtain⟨t,rfl⟩:=r;rfl
 |ref _=>cases r;rfl
 |ty _=>cases r;rfl
def RelV.inj {x y:V}{u:Value}(r:RelV x u)(q:RelV y u):x=y:=bAQ (r.abs.symm.trans q.abs)
theorem Vals.inj:∀{xs ys:List V} {us:List Value},Vals xs us->Vals ys us->xs=ys
 |_,_,_,.nil,.nil=>rfl
 |_,_,_,.cons r t,.cons r' t'=>by rw[r.inj r',Vals.inj t t']
section
variable {X:Cx}{bE8:bE6}{σ:St}{H:Hp}{s:Shared}{a:Addr}{xs ys:List V}
def SqL.of {K:bE4}(h:H a=some (.lst xs)):SqL K H a xs:=.inl (.inl h)
def SqT.of {K:bE4}(h:H a=some (.tup xs)):SqT K H a xs:=.inl (.inl h)
def Inv.list (I:Inv X bE8 σ H s)(h:SqL X.K H a xs):∃its:List Value,Vals xs its/\PlainL s.heap a its.toArray/\xs.length<=sizeLine:=by
 rcases h with h|⟨o,its,n,c,f,b,d,g,r⟩
 ·obtain⟨z,its,n,r,e⟩:=h.ok I.hok;exact⟨its,r,⟨_,n,e,rfl,rfl,rfl⟩,z⟩
 ·refine⟨its.toList,r,⟨o,n,I.kIn a o c,f,b,by simpa using d⟩,?_⟩;have e:=r.length;simp only[v9] at e;lia
def Inv.tuple (I:Inv X bE8 σ H s)(h:SqT X.K H a xs):∃its:List Value,Vals xs its/\IsTup s.heap a its.toArray/\xs.length<=sizeLine:=by
 rcases h with h|⟨o,its,n,b,d,f,c,g,r⟩
 ·obtain⟨z,its,r,p⟩:=h.ok I.hok;exact⟨its,r,p.1,z⟩
 ·refine⟨its.toList,r,⟨o,I.kIn a o b,d,n,by simpa using c⟩,?_⟩;have e:=r.length;simp only[v9] at e;lia
def Inv.aR4 (I:Inv X bE8 σ H s)(h:SqL X.K H a xs)(h':SqL X.K H a ys):xs=ys:=by
 obtain⟨c,r,⟨o,n,e,_,_,d⟩,_⟩:=I.list h;obtain⟨b,i,⟨k,j,g,_,_,f⟩,_⟩:=I.list h';rw[e] at g;cases g;rw[d] at f;injection f with d1 _;have:c=b:=by simpa using congrArg Array.toList d1
 subst this;exact r.inj i
def Inv.aOd (I:Inv X bE8 σ H s)(h:SqT X.K H a xs)(h':SqT X.K H a ys):xs=ys:=by
 obtain⟨c,r,⟨o,e,_,n,d⟩,_⟩:=I.tuple h;obtain⟨b,i,⟨k,g,_,j,f⟩,_⟩:=I.tuple h';rw[e] at g;cases g;rw[d] at f;injection f with d1 _;have:c=b:=by simpa using congrArg Array.toList d1
 subst this;exact r.inj i
end
abbrev Cx.wish (X:Cx)(E:bE5):Cx:={ X with xe:=E }
abbrev Cx.nox (X:Cx):Cx:=X.wish λ_ _=>False
def Cx.Ok.wish {X:Cx}(a:X.Ok)(E:bE5):(X.wish E).Ok:=
 ⟨a.mod,a.kind,a.glob,a.blt,a.above,a.inj,a.has,a.cab,a.hd,a.frames,a.stk,a.exf,a.bs,a.bsz,a.noex,a.exfs,a.funs,a.frf⟩
def Cx.Ok.oF {X:Cx}{E:bE5}(a:(X.wish E).Ok):X.Ok:=
 ⟨a.mod,a.kind,a.glob,a.blt,a.above,a.inj,a.has,a.cab,a.hd,a.frames,a.stk,a.exf,a.bs,a.bsz,a.noex,a.exfs,a.funs,a.frf⟩
section
variable {X:Cx}{bE8:bE6}{σ:St}{H:Hp}{s:Shared}{E:bE5}
def Inv.wish (I:Inv X bE8 σ H s)(E:bE5):Inv (X.wish E) bE8 σ H s:=⟨I.ok.wish E,I.os,I.bare,I.base,I.loc,I.cell,I.free,I.freeC,I.pin,I.hok,I.len⟩
def Inv.oF (I:Inv (X.wish E) bE8 σ H s):Inv X bE8 σ H s:=⟨I.ok.oF,I.os,I.bare,I.base,I.loc,I.cell,I.free,I.freeC,I.pin,I.hok,I.len⟩
def SP.oF {D:Ends}{f:Flow}{s':Shared}(h:SP (X.wish E) bE8 D f s'):SP X bE8 D f s':=by
 cases f with
 |next=>obtain⟨a,b,I,q⟩:=h;exact⟨a,b,I.oF,q⟩
 |brk=>obtain⟨a,b,I,q⟩:=h;exact⟨a,b,I.oF,q⟩
 |cont=>obtain⟨a,b,I,q⟩:=h;exact⟨a,b,I.oF,q⟩
 |ret u=>obtain⟨v,a,b,I,r,q⟩:=h;exact⟨v,a,b,I.oF,r,q⟩
def PSs.nox {st:List Stmt}{t:TS}(h:PSs X.nox st t):PSs X st t:=λa s σ H D I b=>
 bAY (h a s σ H D (I.wish _) b) (λ_ _ q=>q.oF) λ_ _ z=>False.elim z
end
section
variable {X:Cx}{st:Stmt}{rest:List Stmt}{t u:TS}{e:Expr}{te:TE}{pos:Pos}
def rR:TS:=λD σ H=>D.nx σ H
def aAg (t u:TS):TS:=λD σ H=>t { D with nx:=u D } σ H
def aUp:PSs X [] rR:=λ_ _ σ H _ I h=>bEJ ⟨σ,H,I,h⟩
def aS8 (g:PS X st t)(i:PSs X rest u):PSs X (st::rest) (aAg t u):=by
 intro a s σ H D I h;refine wpAny_execs_cons (thn (g a s σ H { D with nx:=u D } I h) λf d q=>?_);cases f with
 |next=>obtain⟨c,e,b,q⟩:=q;exact i a d c e D b q
 |ret v=>exact q
 |brk=>exact q
 |cont=>exact q
def aU8 (b:PS X st t):PSs X [st] t:=by
 intro a s σ H D I h;refine wpAny_execs_cons (thn (b a s σ H D I h) λf c q=>?_);cases f with
 |next=>exact bEJ q
 |ret v=>exact q
 |brk=>exact q
 |cont=>exact q
def Inv.quiet {bE8:bE6}{σ:St}{H:Hp}{s:Shared}(I:Inv X bE8 σ H s):interactive X.env=false:=by simp[interactive,I.ok.kind]
def aM7 (te:TE):TS:=λD σ H=>te σ H λ_ H1=>D.nx σ H1
def aL4 (i:PE X e te)(g:swapsWith e none pos.line X.env=pure false:=by rfl):PS X (.Expr e pos) (aM7 te):=by intro a s σ H D I h;exact wpAny_Expr_any (thn (i a s σ H _ I h) λv j ⟨x,d,c,f,b⟩=>⟨σ,d,c,b⟩) I.quiet g
def uH (te:TE):TS:=λD σ H=>te σ H D.rt
def aZo (g:PE X e te):PS X (.Return (some e) pos) (uH te):=by intro a s σ H D I h;exact wpAny_Return_some (thn (g a s σ H _ I h) λv i ⟨x,f,d,c,b⟩=>⟨x,σ,f,d,c,b⟩)
def aVu (c:TT)(t u:TS):TS:=λD σ H=>c σ H λb H1=>if b=true then t D σ H1 else u D σ H1
def bA0 {c:Expr}{a b:List Stmt}{tc:TT}(m:PT X c tc)(k:PSs X a t)(l:PSs X b u):PS X (.If c a b pos) (aVu tc t u):=by
 intro e s σ H D I h;refine wpAny_If (thn (m e s σ H _ I h) λd g ⟨j,i,f⟩=>?_);cases d with
 |true=>exact k e g σ j D i f
 |false=>exact l e g σ j D i f
def aRw:TS:=λ_ _ _=>False
def aS2:PS X st aRw:=λ_ _ _ _ _ _ h=>h.elim
end
abbrev TG:=V->St->Hp->(St->Hp->Prop)->Prop
abbrev TGs:=List V->St->Hp->(St->Hp->Prop)->Prop
def PG (X:Cx)(target:Expr)(t:TG):Prop:=
 ∀(bE8:bE6) (s:Shared) (σ:St) (H:Hp) (v:V) (u:Value) (Q:St->Hp->Prop),Inv X bE8 σ H s->RelV v u->t v σ H Q ->
  wpAny (model X.prog X.w) X.A (assign target X.env u) (λ_ s'=>∃σ' H',Inv X bE8 σ' H' s'/\Q σ' H') X.xe s
def PGs (X:Cx)(ts:List Expr)(t:TGs):Prop:=
 ∀(bE8:bE6) (s:Shared) (σ:St) (H:Hp) (vs:List V) (us:List Value) (Q:St->Hp->Prop),Inv X bE8 σ H s->Vals vs us->t vs σ H Q ->
  wpAny (model X.prog X.w) X.A (assignInOrder ((assignEach ts X.env).map (·.2)) us) (λ_ s'=>∃σ' H',Inv X bE8 σ' H' s'/\Q σ' H') X.xe s
abbrev aWp:=V->V->V->Hp->(Hp->Prop)->Prop
def aYl (X:Cx)(t:aWp):Prop:=
 ∀(bE8:bE6) (s:Shared) (σ:St) (H:Hp) (o i v:V) (ov iv u:Value) (Q:Hp->Prop),Inv X bE8 σ H s->RelV o ov->RelV i iv->RelV v u->t o i v H Q ->
  wpAny (model X.prog X.w) X.A (setItem ov iv u) (λ_ s'=>∃H',Inv X bE8 σ H' s'/\Q H') X.xe s
section
variable {X:Cx}{pos:Pos}
def bU (i:Nat):TG:=λv σ H Q=>Q (σ.set i (some v)) H
def aVm {i:Nat}{x:Str}(g:X.N.Nodup)(e:X.N[i]?=some x)(f:Loc X.env.scope x)(c:X.fn x=true\/X.env.scope.names.lookup x=some .local:=by first|exact .inl rfl|exact .inr rfl|assumption):PG X (.Name x pos) (bU i):=by intro b s σ H v u Q I r h;exact wpAny_assign_Name (aAb I g e f r (λd a=>⟨_,H,a,h⟩) c)
def aKk:TGs:=λvs σ H Q=>vs=[]/\Q σ H
def mF (t:TG)(u:TGs):TGs:=λvs σ H Q=>∃v r,vs=v::r/\t v σ H fun σ' H'=>u r σ' H' Q
def aWe:PGs X [] aKk:=by intro a s σ H b c Q I r h;obtain⟨e,h⟩:=h;subst e;cases r;exact assignInOrder_nil ⟨σ,H,I,h⟩
def aRc {e:Expr}{es:List Expr}{t:TG}{u:TGs}(l:PG X e t)(k:PGs X es u)
  (o:(assignEach (e::es) X.env).map (·.2)=assign e X.env::(assignEach es X.env).map (·.2):=by rfl):PGs X (e::es) (mF t u):=by
 intro a s σ H m n Q I r h;obtain⟨v,j,d,h⟩:=h;subst d;cases r with
 |cons r rr=>rw[o];refine assignInOrder_cons (thn (l a s σ H _ _ _ I r h) λ_ f ⟨c,i,g,b⟩=>?_);exact k a f c i _ _ Q g rr b
def aFv (K:bE4)(n:Nat)(t:TGs):TG:=λv σ H Q=>∃a xs,v=.ref a/\SqT K H a xs/\xs.length=n/\t xs σ H Q
def aY5 {es:List Expr}{k:Nat}{t:TGs}{n:Nat}(z:X.calm=true)(h:PGs X es t)
  (A:(assignEach es X.env).length=n:=by rfl) (w:(assignEach es X.env).findIdx? (·.1)=none:=by rfl):PG X (.Tuple es k pos) (aFv X.K n t):=by
 intro c s σ H v u Q I r d;obtain⟨a,x,i,p,g,d⟩:=d;subst i;cases r;obtain⟨y,f,q,B⟩:=I.tuple p;refine assign_Tuple_tuple (I.ok.hd z) q (by simp[A,<-g,f.length]) w λl m=>?_;have j:Inv X c σ H { s with heap:=l }:=I.kept (t':=s.toks) λb o e=>m b o (v6 (j7 e)) e;exact h c _ σ H x _ Q j (by simpa using f) d
def bBr (to ti:TE)(t:aWp):TG:=λv σ H Q=>to σ H λo H1=>ti σ H1 λi H2=>t o i v H2 λH3=>Q σ H3
def aYu {o i:Expr}{to ti:TE}{t:aWp}(z:PE X o to)(A:PE X i ti)(C:aYl X t)
  (B:∀v,assign (.Subscript o i pos) X.env v=(do
   let ov <-holding [v] (eval o X.env)
   let iv <-holding [v,ov] (eval i X.env)
   standAt pos
   holding [v,ov,iv] (setItem ov iv v)
   release [v,ov,iv] []):=by intro _;rfl):PG X (.Subscript o i pos) (bBr to ti t):=by
 intro a s σ H v u Q I r h;rw[B];refine b7 (bAP (thn (z a s σ H _ I h) λov e ⟨x,g,f,k,b⟩=>?_));refine b7 (bAP (thn (A a e σ g _ f b) λiv l ⟨y,c,n,d,q⟩=>?_));refine b7 (bEC (b7 (bAP (thn (C a l σ c x y v ov iv u _ n k d r q) λ_ w ⟨j,p,m⟩=>?_))));exact wpAny_release ⟨σ,j,p,m⟩
def wY (te:TE)(g:TG):TS:=λD σ H=>te σ H λx H1=>g x σ H1 D.nx
def aZ8 {tg e:Expr}{te:TE}{g:TG}(o:PE X e te)(j:PG X tg g)(n:swapsWithSole [tg] e pos.line X.env=pure false:=by rfl)(m:swappedStores [tg] e X.env=pure none:=by rfl)
  (l:(assignEach [tg] X.env).map (·.2)=[assign tg X.env]:=by rfl):PS X (.Assign [tg] e pos) (wY te g):=by
 intro a s σ H D I h;refine wpAny_Assign_stores (thn (o a s σ H _ I h) λv c ⟨x,f,d,i,b⟩=>?_) n m;rw[l];exact thn (j a c σ f x v _ d i b) λ_ k q=>q
def aZn {i:Nat}{x:Str}{e:Expr}{te:TE}{pos':Pos}(q:X.N.Nodup)(k:X.N[i]?=some x)(l:Loc X.env.scope x)(p:PE X e te)(o:swapsWith e (some (.Name x pos')) pos.line X.env=pure false:=by rfl)(n:X.fn x=true\/X.env.scope.names.lookup x=some .local:=by first|exact .inl rfl|exact .inr rfl|assumption) :
  PS X (.Assign [.Name x pos'] e pos) (wY te (bU i)):=by
 intro a s σ H D I h;refine wpAny_Assign_Name (thn (p a s σ H _ I h) λv j ⟨y,d,c,f,b⟩=>?_) o;exact aAb c q k l f (λm g=>⟨_,d,g,b⟩) n
end
structure It where
 go:Nat->Hp->Prop
 yld:Nat->Hp->V->Hp->Prop
 stop:Nat->Hp->Prop
def pF (X:Cx)(bE8:bE6)(H:Hp)(b:Addr):Prop:=
 H b=none/\b≠X.env.locals/\b∉X.fs/\(b∈X.ex\/X.s₀.heap.objs.size<=b)/\(∀x c,X.env.cells.lookup x=some c->c≠b)/\∀p∈X.pn++bE8,p.1≠b
def Inv.aEx {X:Cx}{bE8:bE6}{σ:St}{H H':Hp}{s:Shared}{b:Addr}(I:Inv X bE8 σ H s)(a:s.heap.objs.size<=b)(f:H' b=none):pF X bE8 H' b:=by
 refine⟨f,bCP (z9 I.lt a),I.nofs a,.inr (bAJ I.sz a),λx c e z=>?_,λp d z=>?_⟩
 ·obtain⟨v,q⟩:=I.cell x c e;exact absurd (z9 q.lt (by rw[z];exact a)) (bBO _)
 ·exact absurd (z9 (j7 (I.pin p d).1) (by rw[z];exact a)) (bBO _)
structure Turn (P:Program)(w:World)(K:bE4)(tg:Expr)(J:It)(fp:List Addr)(it:Addr)(tn:Nat->Heap->Prop):Prop where
 mem:it∈fp
 obj:∀i h,tn i h->∀b∈fp,∃o,h.get? b=some o/\∀v,o.data≠.cell v
 keep:∀i h h',tn i h->(∀b∈fp,∀o,h.get? b=some o->h'.get? b=some o)->tn i h'
 item:∀(X:Cx),X.prog=P->X.w=w->X.K=K->X.calm=true->∀(i:Nat) (bE8:bE6) (s:Shared) (σ:St) (H:Hp) (E:bE5),Inv X bE8 σ H s->(∀b∈fp,pF X bE8 H b)->tn i s.heap->J.go i H ->
  wpAny (model P w) X.A (pyNext (.ref it)) (λr s1=>∃u,r=some u /\
   wpAny (model P w) X.A (letOwnedTupleGo tg (.ref it) u) (λ_ s2=>∃x H',Inv X bE8 σ H' s2/\RelV x u/\J.yld i H x H'/\tn (i+1) s2.heap/\∀b∈fp,H' b=none) E s1) E s
 done:∀(X:Cx),X.prog=P->X.w=w->X.K=K->X.calm=true->∀(i:Nat) (bE8:bE6) (s:Shared) (σ:St) (H:Hp) (E:bE5),Inv X bE8 σ H s->(∀b∈fp,pF X bE8 H b)->tn i s.heap->J.stop i H ->
  wpAny (model P w) X.A (pyNext (.ref it)) (λr s1=>r=none/\Inv X bE8 σ H s1) E s
 self:∀(A:Around) (i:Nat) (s:Shared) (Q:bE5) (E:bE5),tn i s.heap->Q (.ref it) s->wpAny (model P w) A (pyIter (.ref it)) Q E s
abbrev TI:=St->Hp->(It->Hp->Prop)->Prop
def PIE (X:Cx)(bE8:bE6)(σ:St)(tg:Expr)(R:It->Hp->Prop)(itv:Value)(s2:Shared):Prop:=
 ∃(it:Addr) (fp:List Addr) (tn:Nat->Heap->Prop) (J:It) (H':Hp),itv=.ref it/\Inv X bE8 σ H' s2/\Turn X.prog X.w X.K tg J fp it tn/\tn 0 s2.heap/\(∀b∈fp,pF X bE8 H' b)/\R J H'
def PI (X:Cx)(tg iter:Expr)(wi:TI):Prop:=
 ∀(bE8:bE6) (s:Shared) (σ:St) (H:Hp) (R:It->Hp->Prop),Inv X bE8 σ H s->wi σ H R ->
  wpAny (model X.prog X.w) X.A (eval iter X.env) (λv s1=>wpAny (model X.prog X.w) X.A (pyIter v) (PIE X bE8 σ tg R) X.xe s1) X.xe s
def aIh {M:Model}{A:Around}{E:bE5}{s:Shared}{e:Expr}{it:Addr}{u:Value}{o:Obj}{n:String}{vs:Array Value}{Q:Unit->Shared->Prop}(b:s.heap.get? it=some o)(d:o.cls=.type n)(hd:o.data=.fields vs)
  (c:["enumerate","zip","dict_itemiterator","dict_reverseitemiterator","odict_iterator","itertools.zip_longest","itertools.pairwise"].contains n=false) (a:Q () s):wpAny M A (letOwnedTupleGo e (.ref it) u) Q E s:=by
 unfold letOwnedTupleGo;cases e <;> first
  |exact d8 a
  |(cases u <;> first
    |exact d8 a
    |(refine b7 (wpAny_load b ?_);rw[d,hd];show wpAny M A (if (["enumerate","zip","dict_itemiterator","dict_reverseitemiterator","odict_iterator","itertools.zip_longest","itertools.pairwise"].contains n && vs[0]? == some (rawInt _))=true then _ else _) Q E s;rw[if_neg (by intro h;rw[c,bAG] at h;cases h)];exact d8 a))
def Itl (K:bE4)(a:Addr):It:=
 ⟨λi H=>∃xs x,SqL K H a xs/\xs[i]?=some x,λi H x H'=>H'=H/\∀xs,SqL K H a xs->xs[i]?=some x,λi H=>∃xs,SqL K H a xs/\xs.length<=i⟩
def Itt (K:bE4)(a:Addr):It:=
 ⟨λi H=>∃xs x,SqT K H a xs/\xs[i]?=some x,λi H x H'=>H'=H/\∀xs,SqT K H a xs->xs[i]?=some x,λi H=>∃xs,SqT K H a xs/\xs.length<=i⟩
def Itr (lo:Int)(n:Nat):It:=⟨λi _=>i<n,λi H x H'=>H'=H/\x=.int (lo+i),λi _=>n<=i⟩
def aNo {P:Program}{w:World}{K:bE4}{tg:Expr}(a it:Addr):Turn P w K tg (Itl K a) [it] it (λi h=>h.IsListIter it a i) where
 mem:=by simp
 obj:=λi h f b g=>by
  have e:b=it:=by simpa using g
  subst e;obtain⟨o,e,c,d⟩:=f;exact⟨o,e,λv z=>by rw[d] at z;cases z⟩
 keep:=λi h m f k=>f.at λo e=>k it (by simp) o e
 item:=by intro X B L F N i j s σ H E I q f t;subst B L F;obtain⟨Y,x,n,G⟩:=t;obtain⟨M,r,p,W⟩:=I.list n;obtain⟨u,S,Q⟩:=r.get G;obtain⟨y,D,T,A,J,C⟩:=q it (by simp);refine wpAny_pyNext_list_item f p.isList (x:=u) (by simpa using S) λm l R=>?_;have U:Inv X j σ H { s with heap:=m }:=I.turned (t':=s.toks) (λb o g e=>(R.2 b g).trans e) y D A J C;obtain⟨o,e,c,d⟩:=id l;exact⟨u,rfl,aIh (s:={ s with heap:=m }) e c d (by decide) ⟨x,H,U,Q,⟨rfl,λys V=>by rw[I.aR4 V n];exact G⟩,l,λb g=>(q b g).1⟩⟩
 done:=by intro X B L F N i j s σ H E I q f t;subst B L F;obtain⟨Y,n,G⟩:=t;obtain⟨M,r,p,W⟩:=I.list n;obtain⟨y,D,T,A,J,C⟩:=q it (by simp);have Z:=r.length;exact wpAny_pyNext_list_end (I.ok.hd N) f p.isList (by simp;lia) λm O=>⟨rfl,I.turned (t':=s.toks) (λb o g e=>O b o g e) y D A J C⟩
 self:=λ_ _ _ _ _ f h=>wpAny_pyIter_listiter f h
def aKt {P:Program}{w:World}{K:bE4}{tg:Expr}(a it:Addr):Turn P w K tg (Itt K a) [it] it (λi h=>h.IsTupleIter it a i) where
 mem:=by simp
 obj:=λi h f b g=>by
  have e:b=it:=by simpa using g
  subst e;obtain⟨o,e,c,d⟩:=f;exact⟨o,e,λv z=>by rw[d] at z;cases z⟩
 keep:=λi h n f k=>f.at λo e=>k it (by simp) o e
 item:=by intro X C M G N i l s σ H E I r f y;subst C M G;obtain⟨Y,x,q,J⟩:=y;obtain⟨j,t,p,W⟩:=I.tuple q;obtain⟨u,S,Q⟩:=t.get J;obtain⟨A,F,T,B,L,D⟩:=r it (by simp);refine wpAny_pyNext_tuple_item f (show s.heap.IsTuple a j.toArray from p) (x:=u) (by simpa using S) λn m R=>?_;have U:Inv X l σ H { s with heap:=n }:=I.turned (t':=s.toks) (λb o g e=>(R.2 b g).trans e) A F B L D;obtain⟨o,e,c,d⟩:=id m;exact⟨u,rfl,aIh (s:={ s with heap:=n }) e c d (by decide) ⟨x,H,U,Q,⟨rfl,λys V=>by rw[I.aOd V q];exact J⟩,m,λb g=>(r b g).1⟩⟩
 done:=by intro X C M G N i l s σ H E I r f y;subst C M G;obtain⟨Y,q,J⟩:=y;obtain⟨j,t,p,W⟩:=I.tuple q;obtain⟨A,F,T,B,L,D⟩:=r it (by simp);have Z:=t.length;exact wpAny_pyNext_tuple_end (I.ok.hd N) f (show s.heap.IsTuple a j.toArray from p) (by simp;lia) λn O=>⟨rfl,I.turned (t':=s.toks) (λb o g e=>O b o g e) A F B L D⟩
 self:=λ_ _ _ _ _ f h=>wpAny_pyIter_tupleiter f h
def aK8 {P:Program}{w:World}{K:bE4}{tg:Expr}(it:Addr)(G:Int)(n:Nat):Turn P w K tg (Itr G n) [it] it (λi h=>IsRangeIter h it (G+(i:Nat) * 1) ((n:Int) - (i:Nat)) 1) where
 mem:=by simp
 obj:=λi h a b c=>by
  have e:b=it:=by simpa using c
  subst e;exact⟨_,a,λv z=>by have J:Data.fields _=Data.cell v:=z;cases J⟩
 keep:=λi h g a k=>k it (by simp) _ a
 item:=by intro X r B y p i d s σ H E I j a l;subst r B y;obtain⟨m,x,N,q,A,u⟩:=j it (by simp);have W:=Walks.range (prog:=X.prog) (w:=X.w) (I.ok.hd p) it G 1 n;refine W.item i s _ _ l a λv g C L f D=>?_;obtain⟨t,rfl⟩:=L;have M:Inv X d σ H { s with heap:=g,toks:=C }:=I.turned (λb o c e=>D b o (by simpa using c) e) m x q A u;refine⟨_,rfl,aIh (s:={ s with heap:=g,toks:=C }) (n:="range_iterator") f rfl rfl (by decide) ⟨.int (G+i),H,M,⟨t,?_⟩,⟨rfl,rfl⟩,f,λb c=>(j b c).1⟩⟩;rw[Int.mul_one]
 done:=by intro X r B y p i d s σ H E I j a l;subst r B y;obtain⟨m,x,N,q,A,u⟩:=j it (by simp);exact wpAny_pyNext_range_end (I.ok.hd p) a (by have:n<=i:=l;lia) λg F=>⟨rfl,I.turned (t':=s.toks) (λb o c e=>F b o c e) m x q A u⟩
 self:=λ_ _ _ _ _ a h=>wpAny_pyIter_rangeiter a h
section
variable {X:Cx}{tg:Expr}
def aCj (K:bE4)(tl:TE):TI:=fun σ H R=>tl σ H λx H1=>∃a,x=.ref a/\(∃xs,SqL K H1 a xs)/\R (Itl K a) H1
def aN0 (K:bE4)(tl:TE):TI:=fun σ H R=>tl σ H λx H1=>∃a,x=.ref a/\(∃xs,SqT K H1 a xs)/\R (Itt K a) H1
def aUm {l:Expr}{tl:TE}(t:PE X l tl):PI X tg l (aCj X.K tl):=by
 intro f s σ H R I h;refine thn (t f s σ H _ I h) λv c ⟨x,i,d,m,g⟩=>?_;obtain⟨a,e,⟨w,k⟩,q⟩:=g;subst e;cases m;obtain⟨n,r,p,u⟩:=d.list k;refine bCS p.isList ?_;refine⟨c.heap.objs.size,[c.heap.objs.size],_,_,i,rfl,d.kept (t':=c.toks) λb o e=>d7 _ e,aNo a _,⟨_,j4 _ rfl,rfl,rfl⟩,λb j=>?_,q⟩;have e:b=c.heap.objs.size:=by simpa using j
 subst e;exact d.aEx (j5 _) (d.hok.fresh (j5 _))
def aZf {l:Expr}{tl:TE}(t:PE X l tl):PI X tg l (aN0 X.K tl):=by
 intro f s σ H R I h;refine thn (t f s σ H _ I h) λv c ⟨x,j,d,n,i⟩=>?_;obtain⟨a,e,⟨w,m⟩,q⟩:=i;subst e;cases n;obtain⟨g,r,p,u⟩:=d.tuple m;refine bD0 (show c.heap.IsTuple a g.toArray from p) ?_;refine⟨c.heap.objs.size,[c.heap.objs.size],_,_,j,rfl,d.kept (t':=c.toks) λb o e=>d7 _ e,aKt a _,⟨_,j4 _ rfl,rfl,rfl⟩,λb k=>?_,q⟩;have e:b=c.heap.objs.size:=by simpa using k
 subst e;exact d.aEx (j5 _) (d.hok.fresh (j5 _))
def aHm {g:bE6}{σ:St}{H:Hp}{s:Shared}{R:It->Hp->Prop}{E:bE5}{a c:Int}{t u v:Tok}{tk:Nat}(I:Inv X g σ H s)(l:-(2 ^ 62)<=a)(j:a<2 ^ 62)(k:-(2 ^ 62)<=c)(m:c<2 ^ 62)
  (q:R (Itr a (c - a).toNat) H):wpAny (model X.prog X.w) X.A (pyIter (.ref s.heap.objs.size)) (PIE X g σ tg R) E { s with heap:=s.heap.push { cls:=.type "range",data:=.fields #[.int a t,.int c u,.int 1 v] },toks:=tk }:=by
 refine wpAny_pyIter_range (IsRange.new ..) (small_one l j k m) ?_;have d:Inv X g σ H { s with heap:=s.heap.push { cls:=.type "range",data:=.fields #[.int a t,.int c u,.int 1 v] },toks:=tk }:=I.kept λb o e=>d7 _ e;refine⟨(s.heap.push { cls:=.type "range",data:=.fields #[.int a t,.int c u,.int 1 v] }).objs.size,[(s.heap.push { cls:=.type "range",data:=.fields #[.int a t,.int c u,.int 1 v] }).objs.size],_,_,H,rfl,
  d.kept (t':=tk) λb o e=>d7 _ e,aK8 _ a (c - a).toNat,?_,λb i=>?_,q⟩
 ·have f:a+((0:Nat):Int) * 1=a:=by simp
  have h:(((c - a).toNat:Nat):Int) - ((0:Nat):Int)=Builtin.Range.rangeSize a c 1:=by rw[rangeSize_one];split <;> lia
  show IsRangeIter _ _ (a+((0:Nat):Int) * 1) ((((c - a).toNat:Nat):Int) - ((0:Nat):Int)) 1;rw[f,h];exact j4 _ rfl
 ·have e:b=(s.heap.push { cls:=.type "range",data:=.fields #[.int a t,.int c u,.int 1 v] }).objs.size:=by simpa using i
  subst e;exact d.aEx (j5 _) (d.hok.fresh (j5 _))
def aQy (ta:TA):TI:=fun σ H R=>ta σ H λvs H1=>∃j:Int,vs=[.int j]/\-(2 ^ 62)<=j/\j<2 ^ 62/\R (Itr 0 j.toNat) H1
def aXe (ta:TA):TI:=fun σ H R=>ta σ H λvs H1=>∃i j:Int,vs=[.int i,.int j]/\(-(2 ^ 62)<=i/\i<2 ^ 62/\-(2 ^ 62)<=j/\j<2 ^ 62)/\R (Itr i (j - i).toNat) H1
def aNx {a:Expr}{ta:TA}{p pos:Pos}(i:Gl X "range")(v:X.mg "range"=none)(m:PA X [a] ta)(u:starEach [a] X.env=[(false,eval a X.env)]:=by rfl):PI X tg (.Call (.Name "range" p) [a] [] pos) (aQy ta):=by
 intro c s σ H R I h;refine Call_ (nC I i v boot_range (bCD (thn (m pos c s σ H _ I h) λo k ⟨n,l,d,f,b⟩=>?_) u rfl));obtain⟨j,e,b,g,q⟩:=b;subst e;cases f with
 |cons r rr=>cases rr;obtain⟨t,rfl⟩:=r;exact call_range_1 (aHm d (by lia) (by lia) b g (by simpa using q))
def aNr {a b:Expr}{ta:TA}{p pos:Pos}(o:Gl X "range")(A:X.mg "range"=none)(w:PA X [a,b] ta)(z:starEach [a,b] X.env=[(false,eval a X.env),(false,eval b X.env)]:=by rfl)(f:starEach [b] X.env=[(false,eval b X.env)]:=by rfl) :
  PI X tg (.Call (.Name "range" p) [a,b] [] pos) (aXe ta):=by
 intro d s σ H R I h;refine Call_ (nC I o A boot_range (bCD (thn (w pos d s σ H _ I h) λy u ⟨x,v,g,l,c⟩=>?_) (by rw[z,f]) (by rw[f];rfl)));obtain⟨i,j,e,⟨c,n,k,m⟩,q⟩:=c;subst e;cases l with
 |cons r rr=>
  cases rr with
  |cons r' rr=>cases rr;obtain⟨t,rfl⟩:=r;obtain⟨B,rfl⟩:=r';exact call_range_2 (aHm g c n k m q)
def bAh (wi:TI)(g:TG)(tb:TS):TS:=λD σ H=>wi σ H λJ H1=>∃W:Nat->Nat->St->Hp->Prop,(∃m,W 0 m σ H1)/\∀i m σ H,W i m σ H ->
 (J.stop i H/\D.nx σ H)\/(J.go i H/\∃N:St->Hp->Prop,(∀σ' H',N σ' H'->∃m',m'<m/\W (i+1) m' σ' H')/\∀x H',J.yld i H x H'->g x σ H' fun σ2 H2=>tb { D with nx:=N,ct:=N,bk:=D.nx } σ2 H2)
def aAx (fp:List Addr)(h:Heap):bE6:=fp.filterMap λb=>(h.get? b).map λo=>(b,o)
def lF {fp:List Addr}{h:Heap}{b:Addr}{o:Obj}(a:b∈fp)(e:h.get? b=some o):(b,o)∈aAx fp h:=List.mem_filterMap.mpr ⟨b,a,by rw[e];rfl⟩
def aO8 {fp:List Addr}{h:Heap}{p:Addr × Obj}(d:p∈aAx fp h):p.1∈fp/\h.get? p.1=some p.2:=by
 obtain⟨b,c,e⟩:=List.mem_filterMap.mp d;cases q:h.get? b with
 |none=>rw[q] at e;cases e
 |some o=>rw[q] at e;have a:(b,o)=p:=bAQ e;subst a;exact⟨c,q⟩
def Inv.pinned {bE8:bE6}{σ:St}{H:Hp}{s:Shared}{fp:List Addr}(I:Inv X bE8 σ H s)(j:∀b∈fp,pF X bE8 H b)(k:∀b∈fp,∃o,s.heap.get? b=some o/\∀v,o.data≠.cell v):Inv X (bE8++aAx fp s.heap) σ H s:=
 I.aLx λp h=>(List.mem_append.mp h).elim (λz=>I.pin p (bBA _ z)) λz=>by obtain⟨c,e⟩:=aO8 z;obtain⟨f,g,i,_⟩:=j p.1 c;obtain⟨o,a,d⟩:=k p.1 c;rw[e] at a;cases a;exact⟨e,f,g,i,d⟩
def Inv.nR {bE8 pl:bE6}{σ:St}{H:Hp}{s:Shared}(I:Inv X (bE8++pl) σ H s):Inv X bE8 σ H s:=I.aLx λp a=>I.pin p (bBA _ (bDQ _ a))
theorem aXu {iter:Expr}{body:List Stmt}{wi:TI}{g:TG}{tb:TS}{pos:Pos}(F:PassesOwn (model X.prog X.w) X.A X.env X.xe)(V:X.calm=true)(hi:PI X tg iter wi)(hg:PG X tg g)(q:PSs X body tb)
  (hs:∀x,foldedSetIterable iter X.env x=pure x:=by intro _;rfl):PS X (.For tg iter body [] pos) (bAh wi g tb):=by
 intro a s σ H D I h;refine wpAny_For (thn (hi a s σ H _ I h) λv s1 h1=>thn h1 λa0 s2 h2=>?_) hs;obtain⟨it,B,S,J,H2,e,Y,T,G,U,W,⟨m0,w0⟩,C⟩:=h2;subst e;have l:∀{H':Hp},(∀b∈B,H' b=none)->∀b∈B,pF X a H' b:=λhn b q=>⟨hn b q,(U b q).2⟩;refine codeAny_forLoop_any (λn Q=>∃i σ' H',Inv X a σ' H' Q/\S i Q.heap/\(∀b∈B,H' b=none)/\W i n σ' H') ?_ m0 ⟨0,σ,H2,Y,G,λb q=>(U b q).1,w0⟩;rintro n s3 ⟨i,σ3,H3,I3,st3,fr3,w3⟩;rcases C i n σ3 H3 w3 with⟨E,qn⟩|⟨go,N,hN,step⟩
 ·refine bDZ F (thn (T.done X rfl rfl rfl V i a s3 σ3 H3 X.xe I3 (l fr3) st3 E) λr Z ⟨O,I4⟩=>?_);subst O;exact bEJ ⟨σ3,H3,I4,qn⟩
 ·refine bDZ F (thn (T.item X rfl rfl rfl V i a s3 σ3 H3 X.xe I3 (l fr3) st3 go) λr Z ⟨u,O,h4⟩=>?_);subst O;refine bDZ F (thn h4 λ_ P ⟨x,R,I5,r5,y5,y,L⟩=>?_);have K:=I5.pinned (l L) (T.obj _ _ y);refine bDZ F (thn (hg _ P σ3 R x u _ K r5 (step x R y5)) λ_ s6 ⟨σ6,H6,I6,q6⟩=>?_);refine bDZ F (thn (q _ s6 σ6 H6 _ I6 q6) λf M t=>?_);have c:∀{k:St} {j:Hp},Inv X (a++aAx B P.heap) k j M->N k j->∃m,m<n/\∃i σ' H',Inv X a σ' H' M/\S i M.heap/\(∀b∈B,H' b=none)/\W i m σ' H':=λ{k j} p z=>by obtain⟨m',hm,w7⟩:=hN k j z;refine⟨m',hm,i+1,k,j,p.nR,T.keep _ _ _ y λb q o e=>(p.pin (b,o) (bBA _ (bBA _ (lF q e)))).1,λb q=>?_,w7⟩;obtain⟨o,e,d⟩:=T.obj _ _ y b q;exact (p.pin (b,o) (bBA _ (bBA _ (lF q e)))).2.1
  cases f with
  |next=>obtain⟨k,j,p,z⟩:=t;exact c p z
  |cont=>obtain⟨k,j,p,z⟩:=t;exact c p z
  |brk=>obtain⟨k,j,p,t⟩:=t;exact⟨k,j,p.nR,t⟩
  |ret v=>obtain⟨x7,k,j,p,r7,t⟩:=t;exact⟨x7,k,j,p.nR,r7,t⟩
end
def aTa {K:bE4}{a:Addr}{xs:List V}{g:TG}{tb:TS}{D:Ends}{σ:St}{H:Hp}(c:Nat->St->Hp->Prop)(j:c 0 σ H)(f:∀i σ H,i<=xs.length->c i σ H->SqL K H a xs)
  (h:∀i x σ H,xs[i]?=some x->c i σ H->g x σ H fun σ2 H2=>tb { D with nx:=c (i+1),ct:=c (i+1),bk:=D.nx } σ2 H2) (hd:∀σ H,c xs.length σ H->D.nx σ H) :
  ∃W:Nat->Nat->St->Hp->Prop,(∃m,W 0 m σ H)/\∀i m σ H,W i m σ H ->
   ((Itl K a).stop i H/\D.nx σ H)\/((Itl K a).go i H/\∃N:St->Hp->Prop,(∀σ' H',N σ' H'->∃m',m'<m/\W (i+1) m' σ' H')/\∀x H',(Itl K a).yld i H x H'->g x σ H' fun σ2 H2=>tb { D with nx:=N,ct:=N,bk:=D.nx } σ2 H2):=by
 refine⟨λi m σ H=>m=xs.length - i/\i<=xs.length/\c i σ H,⟨xs.length,by simp,bAS _,j⟩,?_⟩;rintro i m σ H ⟨rfl,hi,p⟩;have q:=f i σ H hi p;by_cases b:i<xs.length
 ·refine .inr ⟨⟨xs,xs[i],q,by simp[b]⟩,c (i+1),fun σ' H' d=>⟨xs.length - (i+1),by lia,rfl,b,d⟩,λx H' y=>?_⟩;obtain⟨e,y⟩:=y;subst e;exact h i x σ _ (y xs q) p
 ·have e:i=xs.length:=by lia
  subst e;exact .inl ⟨⟨xs,q,j5 _⟩,hd σ H p⟩
def aWj {K:bE4}{a:Addr}{xs:List V}{g:TG}{tb:TS}{D:Ends}{σ:St}{H:Hp}(c:Nat->St->Hp->Prop)(j:c 0 σ H)(f:∀i σ H,i<=xs.length->c i σ H->SqT K H a xs)
  (h:∀i x σ H,xs[i]?=some x->c i σ H->g x σ H fun σ2 H2=>tb { D with nx:=c (i+1),ct:=c (i+1),bk:=D.nx } σ2 H2) (hd:∀σ H,c xs.length σ H->D.nx σ H) :
  ∃W:Nat->Nat->St->Hp->Prop,(∃m,W 0 m σ H)/\∀i m σ H,W i m σ H ->
   ((Itt K a).stop i H/\D.nx σ H)\/((Itt K a).go i H/\∃N:St->Hp->Prop,(∀σ' H',N σ' H'->∃m',m'<m/\W (i+1) m' σ' H')/\∀x H',(Itt K a).yld i H x H'->g x σ H' fun σ2 H2=>tb { D with nx:=N,ct:=N,bk:=D.nx } σ2 H2):=by
 refine⟨λi m σ H=>m=xs.length - i/\i<=xs.length/\c i σ H,⟨xs.length,by simp,bAS _,j⟩,?_⟩;rintro i m σ H ⟨rfl,hi,p⟩;have q:=f i σ H hi p;by_cases b:i<xs.length
 ·refine .inr ⟨⟨xs,xs[i],q,by simp[b]⟩,c (i+1),fun σ' H' d=>⟨xs.length - (i+1),by lia,rfl,b,d⟩,λx H' y=>?_⟩;obtain⟨e,y⟩:=y;subst e;exact h i x σ _ (y xs q) p
 ·have e:i=xs.length:=by lia
  subst e;exact .inl ⟨⟨xs,q,j5 _⟩,hd σ H p⟩
def dH {lo:Int}{n:Nat}{g:TG}{tb:TS}{D:Ends}{σ:St}{H:Hp}(b:Nat->St->Hp->Prop)(f:b 0 σ H)
  (d:∀i σ H,i<n->b i σ H->g (.int (lo+i)) σ H fun σ2 H2=>tb { D with nx:=b (i+1),ct:=b (i+1),bk:=D.nx } σ2 H2) (hd:∀σ H,b n σ H->D.nx σ H) :
  ∃W:Nat->Nat->St->Hp->Prop,(∃m,W 0 m σ H)/\∀i m σ H,W i m σ H ->
   ((Itr lo n).stop i H/\D.nx σ H)\/((Itr lo n).go i H/\∃N:St->Hp->Prop,(∀σ' H',N σ' H'->∃m',m'<m/\W (i+1) m' σ' H')/\∀x H',(Itr lo n).yld i H x H'->g x σ H' fun σ2 H2=>tb { D with nx:=N,ct:=N,bk:=D.nx } σ2 H2):=by
 refine⟨λi m σ H=>m=n - i/\i<=n/\b i σ H,⟨n,by simp,bAS _,f⟩,?_⟩;rintro i m σ H ⟨rfl,hi,p⟩;by_cases a:i<n
 ·refine .inr ⟨a,b (i+1),fun σ' H' c=>⟨n - (i+1),by lia,rfl,a,c⟩,λx H' y=>?_⟩;obtain⟨e,y⟩:=y;subst e y;exact d i σ _ a p
 ·have e:i=n:=by lia
  subst e;exact .inl ⟨j5 _,hd σ H p⟩
abbrev R2:=V->V->Hp->VK->Prop
def OpR (X:Cx)(f:Value->Value->Sem Value)(r:R2):Prop:=
 ∀(bE8:bE6) (s:Shared) (σ:St) (H:Hp) (x y:V) (v u:Value) (Q:VK),Inv X bE8 σ H s->RelV x v->RelV y u->r x y H Q ->
  wpAny (model X.prog X.w) X.A (f v u) (EP X bE8 σ Q) X.xe s
def UnR (X:Cx)(f:Value->Sem Value)(r:V->Hp->VK->Prop):Prop:=
 ∀(bE8:bE6) (s:Shared) (σ:St) (H:Hp) (x:V) (v:Value) (Q:VK),Inv X bE8 σ H s->RelV x v->r x H Q ->
  wpAny (model X.prog X.w) X.A (f v) (EP X bE8 σ Q) X.xe s
def bR (X:Cx)(f:Value)(r:List V->Hp->VK->Prop):Prop:=
 ∀(bE8:bE6) (s:Shared) (σ:St) (H:Hp) (xs:List V) (us:List Value) (Q:VK),Inv X bE8 σ H s->Vals xs us->r xs H Q ->
  wpAny (model X.prog X.w) X.A (call f us) (EP X bE8 σ Q) X.xe s
def tOp (r:R2)(ta tb:TE):TE:=fun σ H Q=>ta σ H λx H1=>tb σ H1 λy H2=>r x y H2 Q
def tUn (r:V->Hp->VK->Prop)(ta:TE):TE:=fun σ H Q=>ta σ H λx H1=>r x H1 Q
def rI (C:Int->Int->Prop)(g:Int->Int->V):R2:=λx y H Q=>∃i j,x=.int i/\y=.int j/\C i j/\Q (g i j) H
def rI0 (g:Int->Int->V):R2:=λx y H Q=>∃i j,x=.int i/\y=.int j/\Q (g i j) H
def rU (g:Int->V):V->Hp->VK->Prop:=λx H Q=>∃i,x=.int i/\Q (g i) H
section
variable {X:Cx}{a b c:Expr}{ta tb tc:TE}{pos:Pos}
def aUq (n:PE X a ta)(m:PE X b tb){c:bE6}{s:Shared}{σ:St}{H:Hp}{R:V->V->Hp->Prop}(I:Inv X c σ H s)
  (h:ta σ H λx H1=>tb σ H1 λy H2=>R x y H2) {Q:bE5} {f:Value->Value->Sem Value}
  (o:∀v u s2 x y H2,Inv X c σ H2 s2->RelV x v->RelV y u->R x y H2->wpAny (model X.prog X.w) X.A (f v u) Q X.xe s2) :
  wpAny (model X.prog X.w) X.A (eval a X.env) (λv s₁=>wpAny (model X.prog X.w) X.A (eval b X.env) (λu s₂=>wpAny (model X.prog X.w) X.A (f v u) Q X.xe s₂) X.xe s₁) X.xe s:=by
 refine thn (n c s σ H _ I h) λv g ⟨x,H1,i,j,d⟩=>?_;refine thn (m c g σ H1 _ i d) λu s2 ⟨y,H2,k,e,l⟩=>?_;exact o v u s2 x y H2 k j e l
def bAv {op:Operator}{r:R2}(j:OpR X (binaryOp op) r)(l:PE X a ta)(k:PE X b tb):PE X (.BinOp a op b pos) (tOp r ta tb):=by intro c s σ H Q I h;exact wpAny_BinOp (aUq l k I h λv u f x y e g i d q=>j c f σ e x y v u Q g i d q)
def bAz {op:UnaryOp}{r:V->Hp->VK->Prop}(j:UnR X (unaryOp op) r)(i:PE X a ta):PE X (.UnaryOp op a pos) (tUn r ta):=by intro b s σ H Q I h;exact UnaryOp_ (thn (i b s σ H _ I h) λv e ⟨x,g,f,d,c⟩=>j b e σ g x v Q f d c)
def opI {f:Value->Value->Sem Value}{C:Int->Int->Prop}{g:Int->Int->Int}
  (a:∀(i j:Int) (t u:Tok) (s:Shared) (Q:bE5) (E:bE5),C i j->Q (.int (g i j) s.toks) { s with toks:=s.toks+1 }->wpAny (model X.prog X.w) X.A (f (.int i t) (.int j u)) Q E s) :
  OpR X f (rI C λi j=>.int (g i j)):=by
 intro c s σ H x y v u Q I e b h;obtain⟨i,j,rfl,rfl,d,q⟩:=h;obtain⟨t,rfl⟩:=e;obtain⟨k,rfl⟩:=b;exact a i j t k s _ _ d ⟨.int (g i j),H,I.tok _,⟨_,rfl⟩,q⟩
def bAs {f:Value->Value->Sem Value}{g:Int->Int->Int}
  (a:∀(i j:Int) (t u:Tok) (s:Shared) (Q:bE5) (E:bE5),Q (.int (g i j) s.toks) { s with toks:=s.toks+1 }->wpAny (model X.prog X.w) X.A (f (.int i t) (.int j u)) Q E s) :
  OpR X f (rI0 λi j=>.int (g i j)):=by
 intro c s σ H x y v u Q I d b h;obtain⟨i,j,rfl,rfl,q⟩:=h;obtain⟨t,rfl⟩:=d;obtain⟨e,rfl⟩:=b;exact a i j t e s _ _ ⟨.int (g i j),H,I.tok _,⟨_,rfl⟩,q⟩
def aYr {f:Value->Value->Sem Value}{g:Int->Int->Bool}
  (a:∀(i j:Int) (t u:Tok) (s:Shared) (Q:bE5) (E:bE5),Q (.bool (g i j)) s->wpAny (model X.prog X.w) X.A (f (.int i t) (.int j u)) Q E s) :
  OpR X f (rI0 λi j=>.bl (g i j)):=by
 intro c s σ H x y v u Q I d b h;obtain⟨i,j,rfl,rfl,q⟩:=h;obtain⟨t,rfl⟩:=d;obtain⟨e,rfl⟩:=b;exact a i j t e s _ _ ⟨.bl (g i j),H,I,rfl,q⟩
def bCd (i j:Int):Prop:=0<j/\j<1073741824
def bA7 (i j:Int):Prop:=0<=j/\j<=1000000/\i.natAbs<2 ^ 64
def aZs (i j:Int):Prop:=(-(2 ^ 64)<i/\i<2 ^ 64)\/(-(2 ^ 64)<j/\j<2 ^ 64)
def aZs.ok {i j:Int}(h:aZs i j):IntMulOk i j:=by
 rcases h with⟨b,a⟩|⟨b,a⟩
 ·exact .of_left (intBits_le_64 b a)
 ·exact .of_right (intBits_le_64 b a)
def dO:OpR X (binaryOp .Add) (rI0 λi j=>.int (i+j)):=bAs λ_ _ _ _ _ _ _ q=>add_int q
def aK3:OpR X (binaryOp .Sub) (rI0 λi j=>.int (i - j)):=bAs λ_ _ _ _ _ _ _ q=>sub_int q
def vB:OpR X (binaryOp .Mult) (rI aZs λi j=>.int (i * j)):=opI λ_ _ _ _ _ _ _ a q=>mul_int q a.ok
def aMz:OpR X (binaryOp .FloorDiv) (rI bCd λi j=>.int (i / j)):=opI λi j _ _ _ _ _ a q=>by have b:(0:Int)<j:=a.1;have c:j<1073741824:=a.2;exact floordiv_int (by lia) (by rw[bEO i (by lia)];exact q) (.inl (PyProof.noPylong_small (by lia)))
def nJ:OpR X (binaryOp .Mod) (rI (λ_ j=>0<j) λi j=>.int (i % j)):=opI λi j _ _ _ _ _ a q=>by have b:(0:Int)<j:=a;exact mod_int' (by lia) (by rw[bEP i (by lia)];exact q)
def zY:OpR X (binaryOp .Pow) (rI bA7 λi j=>.int (i ^ j.toNat)):=opI λ_ _ _ _ _ _ _ a q=>pow_int_small a.1 a.2.1 a.2.2 q
def unI {f:Value->Sem Value}{g:Int->Int}
  (a:∀(i:Int) (t:Tok) (s:Shared) (Q:bE5) (E:bE5),Q (.int (g i) s.toks) { s with toks:=s.toks+1 }->wpAny (model X.prog X.w) X.A (f (.int i t)) Q E s) :
  UnR X f (rU λi=>.int (g i)):=by
 intro b s σ H x v Q I c h;obtain⟨i,rfl,q⟩:=h;obtain⟨t,rfl⟩:=c;exact a i t s _ _ ⟨.int (g i),H,I.tok _,⟨_,rfl⟩,q⟩
def aRk:UnR X (unaryOp .USub) (rU λi=>.int (-i)):=unI λ_ _ _ _ _ q=>neg_int q
end
def scal:V->V->Bool
 |.non,.non=>true|.non,.int _=>true|.int _,.non=>true|.non,.bl _=>true|.bl _,.non=>true|.non,.str _=>true|.str _,.non=>true
 |.int _,.int _=>true|.bl _,.bl _=>true|.str _,.str _=>true|.byt _,.byt _=>true
 |.int _,.str _=>true|.str _,.int _=>true|.bl _,.str _=>true|.str _,.bl _=>true
 |_,_=>false
def rEq:R2:=λx y H Q=>scal x y=true/\Q (.bl (decide (x=y))) H
def rNe:R2:=λx y H Q=>scal x y=true/\Q (.bl (!decide (x=y))) H
def aMj {i j:Int}:decide (V.int i=V.int j)=(i == j):=by rw[bCG];simp
def aRh {i j:Bool}:decide (V.bl i=V.bl j)=(i == j):=by rw[bCG];simp
def aMp {i j:Str}:decide (V.str i=V.str j)=(i == j):=by rw[bCG];simp
def aMf {i j:Array UInt8}:decide (V.byt i=V.byt j)=(i.toList == j.toList):=by rw[bCG];cases i;cases j;simp
section
variable {X:Cx}{a b c:Expr}{ta tb tc:TE}{pos:Pos}
def bY {bE8:bE6}{σ:St}{H:Hp}{s:Shared}{Q:VK}{k k':Bool}(I:Inv X bE8 σ H s)(q:Q (.bl k) H)(e:k=k'):EP X bE8 σ Q (.bool k') s:=by subst e;exact⟨.bl k,H,I,rfl,q⟩
def cV:OpR X (compareOp .Eq) rEq:=by
 intro e s σ H x y v u Q I d a h;obtain⟨c,q⟩:=h;cases x with
 |non=>
  cases d;cases y with
  |non=>cases a;exact PySem.EqNone.eq_none_none (bY I q (by simp))
  |bl j=>cases a;exact PySem.EqNone.eq_none_bool (bY I q (by simp))
  |int j=>obtain⟨b,rfl⟩:=a;exact PySem.EqNone.eq_none_int (bY I q (by simp))
  |str j=>obtain⟨b,rfl⟩:=a;exact PySem.EqNone.eq_none_str (bY I q (by simp))
  |_=>exact absurd (show false=true from c) m7
 |bl i=>
  cases d;cases y with
  |non=>cases a;exact PySem.EqNone.eq_bool_none (bY I q (by simp))
  |bl j=>cases a;exact eq_bool (bY I q aRh)
  |str j=>obtain⟨b,rfl⟩:=a;exact PySem.EqMixed.eq_bool_str (bY I q (by simp))
  |_=>exact absurd (show false=true from c) m7
 |int i=>
  obtain⟨t,rfl⟩:=d;cases y with
  |non=>cases a;exact PySem.EqNone.eq_int_none (bY I q (by simp))
  |int j=>obtain⟨b,rfl⟩:=a;exact eq_int (bY I q aMj)
  |str j=>obtain⟨b,rfl⟩:=a;exact PySem.EqMixed.eq_int_str (bY I q (by simp))
  |_=>exact absurd (show false=true from c) m7
 |str i=>
  obtain⟨t,rfl⟩:=d;cases y with
  |non=>cases a;exact PySem.EqNone.eq_str_none (bY I q (by simp))
  |bl j=>cases a;exact PySem.EqMixed.eq_str_bool (bY I q (by simp))
  |int j=>obtain⟨b,rfl⟩:=a;exact PySem.EqMixed.eq_str_int (bY I q (by simp))
  |str j=>obtain⟨b,rfl⟩:=a;exact eq_str (bY I q aMp)
  |_=>exact absurd (show false=true from c) m7
 |byt i=>
  obtain⟨t,rfl⟩:=d;cases y with
  |byt j=>obtain⟨b,rfl⟩:=a;exact PySem.W.eq_bytes (bY I q aMf)
  |_=>exact absurd (show false=true from c) m7
 |_=>cases y <;> exact absurd (show false=true from c) m7
def aG7:OpR X (compareOp .NotEq) rNe:=by
 intro e s σ H x y v u Q I d a h;obtain⟨c,q⟩:=h;cases x with
 |non=>
  cases d;cases y with
  |non=>cases a;exact PySem.EqNone.ne_none_none (bY I q (by simp))
  |bl j=>cases a;exact PySem.EqNone.ne_none_bool (bY I q (by simp))
  |int j=>obtain⟨b,rfl⟩:=a;exact PySem.EqNone.ne_none_int (bY I q (by simp))
  |str j=>obtain⟨b,rfl⟩:=a;exact PySem.EqNone.ne_none_str (bY I q (by simp))
  |_=>exact absurd (show false=true from c) m7
 |bl i=>
  cases d;cases y with
  |non=>cases a;exact PySem.EqNone.ne_bool_none (bY I q (by simp))
  |bl j=>cases a;exact ne_bool (bY I q (congrArg not aRh))
  |str j=>obtain⟨b,rfl⟩:=a;exact PySem.EqMixed.ne_bool_str (bY I q (by simp))
  |_=>exact absurd (show false=true from c) m7
 |int i=>
  obtain⟨t,rfl⟩:=d;cases y with
  |non=>cases a;exact PySem.EqNone.ne_int_none (bY I q (by simp))
  |int j=>obtain⟨b,rfl⟩:=a;exact ne_int (bY I q (congrArg not aMj))
  |str j=>obtain⟨b,rfl⟩:=a;exact PySem.EqMixed.ne_int_str (bY I q (by simp))
  |_=>exact absurd (show false=true from c) m7
 |str i=>
  obtain⟨t,rfl⟩:=d;cases y with
  |non=>cases a;exact PySem.EqNone.ne_str_none (bY I q (by simp))
  |bl j=>cases a;exact PySem.EqMixed.ne_str_bool (bY I q (by simp))
  |int j=>obtain⟨b,rfl⟩:=a;exact PySem.EqMixed.ne_str_int (bY I q (by simp))
  |str j=>obtain⟨b,rfl⟩:=a;exact ne_str (bY I q (congrArg not aMp))
  |_=>exact absurd (show false=true from c) m7
 |byt i=>
  obtain⟨t,rfl⟩:=d;cases y with
  |byt j=>obtain⟨b,rfl⟩:=a;exact PySem.W.ne_bytes (bY I q (congrArg not aMf))
  |_=>exact absurd (show false=true from c) m7
 |_=>cases y <;> exact absurd (show false=true from c) m7
def aP2:OpR X (compareOp .Lt) (rI0 λi j=>.bl (decide (i<j))):=aYr λ_ _ _ _ _ _ _ q=>lt_int q
def aAq:OpR X (compareOp .LtE) (rI0 λi j=>.bl (decide (i<=j))):=aYr λ_ _ _ _ _ _ _ q=>le_int q
def aRj:OpR X (compareOp .Gt) (rI0 λi j=>.bl (decide (j<i))):=aYr λ_ _ _ _ _ _ _ q=>gt_int q
def aNh:OpR X (compareOp .In) (λx y H Q=>∃i j,x=.str i/\y=.str j/\Q (.bl (!(Builtin.Str.occurrences j i 0 j.length 1).isEmpty)) H):=by intro b s σ H x y v u Q I c a h;obtain⟨i,j,rfl,rfl,q⟩:=h;obtain⟨t,rfl⟩:=c;obtain⟨d,rfl⟩:=a;exact in_str (bY I q rfl)
def aQq:OpR X (compareOp .Is) (λx y H Q=>y=.non/\Q (.bl (decide (x=.non))) H):=by
 intro c s σ H x y v u Q I a b h;obtain⟨rfl,q⟩:=h;cases b;refine is_none_gen (bY I q ?_);cases x <;> first
  |(cases a;rfl)
  |(obtain⟨t,rfl⟩:=a;rfl)
def aUi:OpR X (compareOp .IsNot) (λx y H Q=>y=.non/\Q (.bl (!decide (x=.non))) H):=by
 intro c s σ H x y v u Q I a b h;obtain⟨rfl,q⟩:=h;cases b;refine isnot_none_gen (bY I q ?_);cases x <;> first
  |(cases a;rfl)
  |(obtain⟨t,rfl⟩:=a;rfl)
def OpR.or {f:Value->Value->Sem Value}{r r':R2}(h:OpR X f r)(h':OpR X f r'):OpR X f (λx y H Q=>r x y H Q\/r' x y H Q):=by
 intro a s σ H x y v u Q I c b q;rcases q with q|q
 ·exact h a s σ H x y v u Q I c b q
 ·exact h' a s σ H x y v u Q I c b q
def aRr (b:Expr){op:CmpOp}(h:op≠.In:=by decide)(d:op≠.NotIn:=by decide):behindInMarks op b=false:=by
 have c:(op == CmpOp.In)=false:=by cases op <;> first|rfl|exact absurd rfl h
 have a:(op == CmpOp.NotIn)=false:=by cases op <;> first|rfl|exact absurd rfl d
 cases b <;> simp[behindInMarks,c,a]
def aWc {op:CmpOp}{r:R2}(j:OpR X (compareOp op) r)(l:PE X a ta)(k:PE X b tb)(m:behindInMarks op b=false):PE X (.Compare a [op] [b] pos) (tOp r ta tb):=by intro c s σ H Q I h;exact wpAny_Compare1 (aUq l k I h λv u f x y e g i d q=>j c f σ e x y v u Q g i d q) m
def aFz (t:TE):TT:=fun σ H Q=>t σ H λx H'=>∃k,x=.bl k/\Q k H'
def aTm {op:CmpOp}{r:R2}(D:OpR X (compareOp op) r)(F:PE X a ta)(E:PE X b tb)(G:behindInMarks op b=false):PT X (.Compare a [op] [b] pos) (aFz (tOp r ta tb)):=by
 intro d s σ H Q I h;refine wpAny_isTrue_Compare1 (thn (F d s σ H _ I h) λv j ⟨x,m,l,o,f⟩=>thn (E d j σ m _ l f) λu p ⟨y,g,t,i,B⟩=>
  thn (D d p σ g x y v u _ t o i B) λc C ⟨z,n,w,A,k,e,q⟩=>?_) G
 subst e;cases A;exact bBD ⟨n,w,q⟩
def aEt (r r':R2)(ta tb tc:TE):TE:=fun σ H Q=>ta σ H λx H1=>tb σ H1 λy H2=>r x y H2 λz H3=>∃k,z=.bl k /\
 (if k=true then tc σ H3 λw' H4=>r' y w' H4 Q else Q (.bl false) H3)
def aSu {op op':CmpOp}{r r':R2}(O:OpR X (compareOp op) r)(J:OpR X (compareOp op') r')(S:PE X a ta)(R:PE X b tb)(P:PE X c tc)
  (T:lastMarks [op,op'] [b,c]=false:=by with_unfolding_all rfl):PE X (.Compare a [op,op'] [b,c] pos) (aEt r r' ta tb tc):=by
 intro f s σ H Q I h;refine Compare_chain (thn (S f s σ H _ I h) λv E ⟨x,G,F,K,m⟩=>chain_link (thn (R f E σ G _ F m) λu L ⟨y,o,q,i,C⟩=>
  thn (O f L σ o x y v u _ q K i C) λd n ⟨z,j,l,w,k,e,g⟩=>?_)) T
 subst e;cases w;refine bBD ?_;cases k with
 |false=>exact ite_ff ⟨.bl false,j,l,rfl,g⟩
 |true=>exact ite_tt (chain_last (thn (P f n σ j _ l g) λN t ⟨A,D,M,p,B⟩=>J f t σ D y A u N Q M i p B))
def aRn {op op':CmpOp}{r r':R2}(W:OpR X (compareOp op) r)(O:OpR X (compareOp op') r')(ha:PE X a ta)(hb:PE X b tb)(Y:PE X c tc)
  (hm:lastMarks [op,op'] [b,c]=false:=by with_unfolding_all rfl):PT X (.Compare a [op,op'] [b,c] pos) (aFz (aEt r r' ta tb tc)):=by
 intro f s σ H Q I h;refine isTrue_chain (thn (ha f s σ H _ I h) λv K ⟨x,M,L,P,m⟩=>test_link (thn (hb f K σ M _ L m) λu R ⟨y,p,w,i,F⟩=>
  thn (W f R σ p x y v u _ w P i F) λd n ⟨z,j,l,C,k,e,g⟩=>?_)) hm
 subst e;cases C;refine bBD ?_;cases k with
 |false=>obtain⟨k',B,q⟩:=g;cases B;exact ite_ff ⟨j,l,q⟩
 |true=>refine ite_tt (test_last (thn (Y f n σ j _ l g) λV A ⟨D,G,U,t,E⟩=>thn (O f A σ G y D u V _ U i t E) λd' s5 ⟨z2,N,T,S,Z,J,o⟩=>?_));subst J;cases S;exact bBD ⟨N,T,o⟩
def yC:(sizeLine:Nat)<2 ^ 63:=by rw[sizeLine_eq];decide
def lQ:OpR X (binaryOp .Add) (λx y H Q=>∃i j,x=.str i/\y=.str j/\i.length+j.length<=sizeLine/\Q (.str (i++j)) H):=by intro b s σ H x y v u Q I d a h;obtain⟨i,j,rfl,rfl,c,q⟩:=h;obtain⟨t,rfl⟩:=d;obtain⟨e,rfl⟩:=a;exact add_str (λe f=>⟨.str (i++j),H,I.tok _,⟨_,rfl⟩,q⟩) c
def aH5 (b:Expr):Prop:=∀o i,subscripted b false o i=operate [o,i] (getItem o i)
def aGf (B:PE X a ta)(A:PE X b tb)(C:aH5 b) :
  PE X (.Subscript a b pos) (tOp (λx y H Q=>∃z i c,x=.str z/\y=.int i/\0<=i/\i<2 ^ 63/\i<z.length/\z.cps[i.toNat]?=some c/\Q (.str ⟨#[c]⟩) H) ta tb):=by
 intro g s σ H Q I h;refine Subscript_ (aUq B A I h λv u n x y m p w f q=>?_);obtain⟨z,i,c,rfl,rfl,r,k,o,j,q⟩:=q;obtain⟨t,rfl⟩:=w;obtain⟨D,rfl⟩:=f;have e:seqIndex? i z.length=some i.toNat:=PySem.StrLaws.seqIndex_nonneg r o;exact tail_any (typeIs_str n z t) slot_str_getitem.lookup (getItem_str (c:=c) (by have d:decide (i < -(2 ^ 63:Int))=false:=m9 (by lia);have l:decide (i ≥ 2 ^ 63)=false:=m9 (by lia);rw[d,l] <;> rfl) (by rw[e];exact j) ⟨.str ⟨#[c]⟩,m,p.tok _,⟨_,rfl⟩,q⟩) (C _ _)
def vals1 {x:V}{us:List Value}(r:Vals [x] us):∃u,us=[u]/\RelV x u:=by
 cases r with
 |cons r1 r2=>cases r2;exact⟨_,rfl,r1⟩
def vals2 {x y:V}{us:List Value}(r:Vals [x,y] us):∃u w',us=[u,w']/\RelV x u/\RelV y w':=by
 cases r with
 |cons r1 r2=>
  cases r2 with
  |cons r3 r4=>cases r4;exact⟨_,_,rfl,r1,r3⟩
def aSq:bR X (.builtin "abs") (λxs H Q=>∃i,xs=[.int i]/\Q (.int (if i<0 then -i else i)) H):=by intro a s σ H xs c Q I r h;obtain⟨i,rfl,q⟩:=h;obtain⟨u,rfl,t,rfl⟩:=vals1 r;exact call_abs_int λu b=>⟨.int (if i<0 then -i else i),H,I.tok _,⟨_,rfl⟩,q⟩
def iJ:bR X (.type "int") (λxs H Q=>(∃i,xs=[.int i]/\Q (.int i) H)\/∃k,xs=[.bl k]/\Q (.int (if k then 1 else 0)) H):=by
 intro a s σ H xs c Q I r h;rcases h with⟨i,rfl,q⟩|⟨k,rfl,q⟩
 ·obtain⟨u,rfl,t,rfl⟩:=vals1 r;exact call_int_int ⟨.int i,H,I,⟨_,rfl⟩,q⟩
 ·obtain⟨u,rfl,b⟩:=vals1 r;cases b;exact call_int_bool ⟨.int (if k then 1 else 0),H,I.tok _,⟨_,rfl⟩,q⟩
end
structure aI3 (h:Heap)(x dx C:Addr)(mA:bE7):Prop where
 obj:h.get? x=some (PySem.W.instObj C dx)
 ns:h.Ns1 dx mA
 ne:dx≠x
def aPg {h:Heap}{dx:Addr}{mA:bE7}(n:h.Ns1 dx mA):∃od,h.get? dx=some od/\∀name,PySem.W.lookIn name od=some (mA name):=by
 obtain⟨o,c,l,f,g,d,_,k⟩:=n;refine⟨o,f,λname=>?_⟩;have e:=k name;unfold nsFind findBy at e;rw[<-Array.find?_toList] at e;unfold PySem.W.lookIn;rw[g];dsimp only
 split
 ·rename_i y q;rw[q] at e;exact congrArg some e
 ·rename_i q;rw[q] at e;have a:c.toList.any (·.refKey)=false:=by rw[List.any_eq_false];intro y j;obtain⟨z,t,b⟩:=d y (Array.mem_toList_iff.mp j);simp[DictEntry.refKey,b]
  have i:¬ c.toList.any (·.refKey)=true:=by rw[a];exact m7
  rw[if_neg i];exact congrArg some e
def aI3.look {h:Heap}{x dx C:Addr}{mA:bE7}(I:aI3 h x dx C mA):∃od,PySem.W.InstAt h x (PySem.W.instObj C dx) C (some od)/\∀name,PySem.W.lookIn name od=some (mA name):=
 let ⟨od,ho,hl⟩:=aPg I.ns
 ⟨od,⟨I.obj,rfl,rfl,ho⟩,hl⟩
section
variable {prog:Program}{w:World}{A:Around}{E:bE5}{s:Shared}{K:bE4}{x dx C f:Addr}{mA:bE7}{name:Str}{v:Value}
def aWd {expr:Bool}{Q:bE5}(X:K.In s.heap)(I:aI3 s.heap x dx C mA)(d:PySem.W.plainGet K C name=true)(e:PySem.W.hasDictIn K C=true)
  (c:PySem.W.findIn K (.ref C) name=some none) (g:mA name=some v) (b:PySem.W.handedIn v=true) (h:Q v { s with toks:=s.toks+1 }) :
  wpAny (model prog w) A (getAttr (.ref x) name expr) Q E s:=by
 obtain⟨f,J,a⟩:=I.look;exact PySem.W.get_value X J (PySem.W.plainGet_of d).1 (PySem.W.findObj_own e c rfl (by rw[a,g])) b h
def aSw {pl:Sem Bool}{Q:Value × List Value->Shared->Prop}(X:K.In s.heap)(I:aI3 s.heap x dx C mA)(a:PySem.W.plainGet K C name=true)
  (d:PySem.W.findIn K (.ref C) name=some (some (.ref f))) (e:PySem.W.isFn K (.ref f)=true) (g:mA name=none) (h:Q (.ref f,[.ref x]) s) :
  wpAny (model prog w) A (getMethod (.ref x) name pl) Q E s:=by
 obtain⟨c,J,b⟩:=I.look;exact PySem.W.method_fn X J (PySem.W.plainGet_of a).1 (PySem.W.plainGet_of a).2 d (beq_iff_eq.mp e) (by show (PySem.W.lookIn name c).map (·.isSome)=some false;rw[b,g];rfl) h
def aV6 {ns:List Str}{Q:Unit->Shared->Prop}(X:K.In s.heap)(I:aI3 s.heap x dx C mA)
  (z:PySem.W.findIn K (.ref C) "__setattr__"=some (some (.builtin "object.__setattr__"))) (D:PySem.W.plainOver K C=true) (u:PySem.W.takerIn K C name=some none) (n:PySem.W.hasDictIn K C=true)
  (t:PySem.Within mA ns) (hsz:ns.length<=sizeLine)
  (h:∀h',aI3 h' x dx C (λy=>if y=name then some v else mA y)->Heap.SameBut dx s.heap h'->Q () { s with heap:=h',toks:=s.toks+2 }) :
  wpAny (model prog w) A (setAttr (.ref x) name v) Q E s:=by
 obtain⟨p,J,o⟩:=I.look;refine PySem.W.set_plain X J z (PySem.W.osa_open (s:={ s with toks:=s.toks+1 }) (r:=none) X J D u λb=>?_);obtain⟨q,k,g⟩:=PySem.W.any_some n;have l:s.heap.get? x=some ⟨.ref C,some dx,.plain,#[]⟩:=I.obj;refine b7 (d8 (b7 (b7 (wpAny_loadPart l (b7 (PySem.W.Looks.here (s:={ s with toks:=s.toks+1 }) (PySem.W.looks_clsIn X k) ?_))))));rw[g];refine d8 (a:=some dx) (b7 (d8 (b7 ?_)));refine wpAny_nsSet1 (s:={ s with toks:=s.toks+1 }) I.ns λh' d c=>?_;obtain⟨B,m,j,e,i,f⟩:=d.count (PySem.Within.cons name v t);refine b7 (wpAny_lookBehind e (by rw[i];exact pastItsLine_dict (bAJ f (by rw[j8];lia))) ?_);exact d8 (h _ ⟨(c.2 _ (Ne.symm I.ne)).trans I.obj,d,I.ne⟩ c)
def aH1 {R:Result->Shared->Prop}{vs:List Value}{kw:List (Str × Value)}(X:K.In s.heap)(j:PySem.W.makesIn K C=true)
  (i:PySem.W.findIn K (.ref C) "__init__"=some (some (.ref f))) (b:PySem.W.typeIn K (.ref f)=some (.type "function"))
  (h:codeAny (model prog w) (A.under (.builtin "type.__call__" ⟨.ref C::vs,kw⟩)) (.call (.ref f) ⟨.ref (s.heap.objs.size+1)::vs,kw⟩) (PySem.W.InitBack (s.heap.objs.size+1) R)
   { s with heap:=(s.heap.push PySem.W.emptyDict).push (PySem.W.instObj C s.heap.objs.size) }) :
  codeAny (model prog w) A (.call (.ref C) ⟨vs,kw⟩) R s:=by
 obtain⟨c,g,d,t,e⟩:=s;exact PySem.W.make_core (PySem.W.makes_of X j) (PySem.W.looks_findIn X i) (λa=>PySem.W.bind_fn X a b) (.inl rfl) h
end
def fP (f:Str)(v:V):List (Str × V)->List (Str × V)
 |[]=>[(f,v)]
 |(g,x)::r=>if g=f then (g,v)::r else (g,x)::fP f v r
theorem vX (f g:Str)(v:V):∀fs:List (Str × V),(fP f v fs).lookup g=if g=f then some v else fs.lookup g
 |[]=>by
  show List.lookup g [(f,v)]=_;by_cases h:g=f
  ·have a:(g == f)=true:=beq_iff_eq.mpr h;simp only[List.lookup,a,if_pos h]
  ·have a:(g == f)=false:=beq_eq_false_iff_ne.mpr h;simp only[List.lookup,a,if_neg h]
 |(k,x)::r=>by
  have c:=vX f g v r;rw[show fP f v ((k,x)::r)=(if k=f then (k,v)::r else (k,x)::fP f v r) from rfl];by_cases b:k=f
  ·rw[if_pos b];by_cases h:g=k
   ·have a:(g == k)=true:=beq_iff_eq.mpr h;simp only[List.lookup,a,if_pos (h.trans b)]
   ·have a:(g == k)=false:=beq_eq_false_iff_ne.mpr h;simp only[List.lookup,a,if_neg (λe:g=f=>h (e.trans b.symm))]
  ·rw[if_neg b];by_cases h:g=k
   ·have a:(g == k)=true:=beq_iff_eq.mpr h;simp only[List.lookup,a,if_neg (λe:g=f=>b (h.symm.trans e))]
   ·have a:(g == k)=false:=beq_eq_false_iff_ne.mpr h;simp only[List.lookup,a];exact c
theorem uP (f:Str)(v:V):∀fs:List (Str × V),f∈(fP f v fs).map (·.1)/\∀g,g∈fs.map (·.1)->g∈(fP f v fs).map (·.1)
 |[]=>⟨by simp[fP],λg h=>by simp at h⟩
 |(k,x)::r=>by
  obtain⟨b,c⟩:=uP f v r;rw[show fP f v ((k,x)::r)=(if k=f then (k,v)::r else (k,x)::fP f v r) from rfl];by_cases a:k=f
  ·rw[if_pos a];subst a;exact⟨by simp,λg h=>by simpa using h⟩
  ·rw[if_neg a];refine⟨?_,λg h=>?_⟩
   ·rw[bAC];exact j9 _ b
   ·rw[bAC] at h ⊢;rcases List.mem_cons.mp h with e|e
    ·exact List.mem_cons.mpr (.inl e)
    ·exact j9 _ (c g e)
theorem vY (f:Str)(v:V):∀fs:List (Str × V),(fP f v fs).length<=fs.length+1
 |[]=>by simp[fP]
 |(k,x)::r=>by
  have b:=vY f v r;rw[show fP f v ((k,x)::r)=(if k=f then (k,v)::r else (k,x)::fP f v r) from rfl];by_cases a:k=f
  ·rw[if_pos a,j8,j8];lia
  ·rw[if_neg a,j8,j8];lia
def mO.some_of {v:V}{o:Option Value}(r:mO (some v) o):∃u,o=some u/\RelV v u:=by
 cases o with
 |none=>exact (show False from r).elim
 |some u=>exact⟨u,rfl,r⟩
def mO.none_of {o:Option Value}(r:mO none o):o=none:=by
 cases o with
 |none=>rfl
 |some u=>exact (show False from r).elim
def aNz {v:V}{u:Value}(r:RelV v u):PySem.W.handedIn u=true:=by
 cases v with
 |non=>cases (show u=Value.none from r);rfl
 |bl b=>cases (show u=Value.bool b from r);rfl
 |int i=>obtain⟨t,e⟩:=(show ∃t,u=Value.int i t from r);cases e;rfl
 |str x=>obtain⟨t,e⟩:=(show ∃t,u=Value.str x t from r);cases e;rfl
 |byt b=>obtain⟨t,e⟩:=(show ∃t,u=Value.bytes b t from r);cases e;rfl
 |flt b=>obtain⟨t,e⟩:=(show ∃t,u=Value.float b t from r);cases e;rfl
 |ref a=>cases (show u=Value.ref a from r);rfl
 |ty n=>cases (show u=Value.type n from r);rfl
section
variable {P:Program}{w:World}{H H':Hp}{h h':Heap}{a C dx:Addr}{fs fs':List (Str × V)}
def aEq (b:HOk P w H h)(e:H a=some (.ins C dx fs)):∃mA,aI3 h a dx C mA/\(∀f,mO (fs.lookup f) (mA f))/\PySem.Within mA (fs.map (·.1))/\fs.length<=1000/\H dx=some (.own a):=by obtain⟨d,z,g,c,mA,n,r,q⟩:=(show cM P w H h a (.ins C dx fs) from b a _ e);exact⟨mA,⟨c,n,g⟩,r,q,z,d⟩
end
structure Cls (K:bE4)(C:Addr):Prop where
 pg:PySem.W.plainGet K C Str.empty=true
 hd:PySem.W.hasDictIn K C=true
 po:PySem.W.plainOver K C=true
 sa:PySem.W.findIn K (.ref C) "__setattr__"=some (some (.builtin "object.__setattr__"))
def Cls.get {K:bE4}{C:Addr}(c:Cls K C)(f:Str):PySem.W.plainGet K C f=true:=c.pg
def cT (K:bE4)(C:Addr)(f:Str):Prop:=PySem.W.findIn K (.ref C) f=some none
def cT.taker {K:bE4}{C:Addr}{f:Str}(n:cT K C f):PySem.W.takerIn K C f=some none:=by unfold PySem.W.takerIn;rw[show PySem.W.findIn K (.ref C) f=some none from n];rfl
structure Meth (K:bE4)(C:Addr)(m:Str)(f:Addr):Prop where
 at_:PySem.W.findIn K (.ref C) m=some (some (.ref f))
 fn:PySem.W.isFn K (.ref f)=true
 kp:PySem.W.keepIn K (.ref f)=true
section
variable {X:Cx}{bE8:bE6}{σ:St}{H:Hp}{s:Shared}{a C dx:Addr}{fs:List (Str × V)}{f:Str}{v:V}{A:Around}{E:bE5}
def aK4 {b:Bool}{Q:bE5}(I:Inv X bE8 σ H s)(e:H a=some (.ins C dx fs))(c:Cls X.K C)(n:cT X.K C f)(l:fs.lookup f=some v)
  (h:∀u s',Inv X bE8 σ H s'->RelV v u->Q u s'):wpAny (model X.prog X.w) A (getAttr (.ref a) f b) Q E s:=by
 obtain⟨g,O,r,_,_,_⟩:=aEq I.hok e;obtain⟨u,i,d⟩:=mO.some_of (v:=v) (o:=g f) (by rw[<-l];exact r f);exact aWd I.kIn O (c.get f) c.hd n i (aNz d) (h u _ (I.tok _) d)
def zR {m:Str}{g:Addr}{pl:Sem Bool}{Q:Value × List Value->Shared->Prop}(I:Inv X bE8 σ H s)(e:H a=some (.ins C dx fs))(c:Cls X.K C)(k:Meth X.K C m g)(l:fs.lookup m=none)
  (h:Q (.ref g,[.ref a]) s):wpAny (model X.prog X.w) A (getMethod (.ref a) m pl) Q E s:=by
 obtain⟨b,O,r,_,_,_⟩:=aEq I.hok e;have d:b m=none:=mO.none_of (by rw[<-l];exact r m);exact aSw I.kIn O (c.get m) k.at_ k.fn d h
def aJr {y:V}{u:Value}{Q:Unit->Shared->Prop}(I:Inv X bE8 σ H s)(e:H a=some (.ins C dx fs))(c:Cls X.K C)(n:cT X.K C f)(hl:fs.length<1000)(D:RelV y u)
  (h:∀s',Inv X bE8 σ (upd H a (.ins C dx (fP f y fs))) s'->Q () s'):wpAny (model X.prog X.w) A (setAttr (.ref a) f u) Q E s:=by
 obtain⟨i,O,r,k,_,j⟩:=aEq I.hok e;have v:(fs.map (·.1)).length<=sizeLine:=by rw[j0,sizeLine_eq];lia
 refine aV6 I.kIn O c.sa c.po n.taker c.hd k v λp d B=>h _ ?_;have t:∃o,p.get? dx=some o:=let ⟨o,_,_,e',_⟩:=d.ns;⟨o,e'⟩
 refine I.write (x:=a) (e:=dx) (by rw[e];exact True.intro) (.inr j) (λb q m z=>(B.2 b m).trans z) t ?_;refine⟨by rw[aJ O.ne];exact j,?_,O.ne,d.obj,_,d.ns,λg=>?_,λg l=>?_⟩
 ·have:=vY f y fs;lia
 ·show mO ((fP f y fs).lookup g) (if g=f then some u else i g);rw[vX];by_cases q:g=f
  ·rw[if_pos q,if_pos q];exact D
  ·rw[if_neg q,if_neg q];exact r g
 ·by_cases q:g=f
  ·rw[q];exact (uP f y fs).1
  ·refine (uP f y fs).2 g (k g λz=>l ?_);show (if g=f then some u else i g)=none;rw[if_neg q];exact z
def Inv.made (I:Inv X bE8 σ H s):Inv X bE8 σ (upd (upd H s.heap.objs.size (.own (s.heap.objs.size+1))) (s.heap.objs.size+1) (.ins C s.heap.objs.size []))
  { s with heap:=(s.heap.push PySem.W.emptyDict).push (PySem.W.instObj C s.heap.objs.size) }:=by
 have d:(s.heap.push PySem.W.emptyDict).get? s.heap.objs.size=some PySem.W.emptyDict:=j4 s.heap rfl;have h:((s.heap.push PySem.W.emptyDict).push (PySem.W.instObj C s.heap.objs.size)).get? (s.heap.objs.size+1)=some (PySem.W.instObj C s.heap.objs.size):=by
  have:=j4 (s.heap.push PySem.W.emptyDict) (o:=PySem.W.instObj C s.heap.objs.size) rfl
  rwa [bBL] at this
 have i:(s.heap.push PySem.W.emptyDict).Ns s.heap.objs.size (λ_=>none):=⟨PySem.W.emptyDict,#[],_,d,rfl,(λe g=>absurd g (by simp)),λ_=>rfl⟩;have j:=I.laid (a:=s.heap.objs.size) (o:=.own (s.heap.objs.size+1)) (h':=s.heap.push PySem.W.emptyDict) (t':=s.toks) (λb u q=>d7 _ q) (j5 _) ⟨_,d⟩;refine j.laid (a:=s.heap.objs.size+1) (o:=.ins C s.heap.objs.size []) (t':=s.toks) (λb u q=>d7 _ q) (Nat.le_of_eq (bBL _ _)) ?_;have c:s.heap.objs.size≠s.heap.objs.size+1:=v6 (bCZ _);refine⟨by rw[aJ c,aH],bAS _,c,h,λ_=>none,(Heap.Ns1.of_empty i).at λo q=>d7 _ q,λ_=>True.intro,λy f=>absurd rfl f⟩
def aMc {prog:Program}{w:World}{env:Env}{e:Expr}{f:Str}{pos:Pos}{s:Shared}{Q:bE5}(a:attributeBase e f env (eval e env)=eval e env)
  (h:wpAny (model prog w) A (eval e env) (λo s₁=>wpAny (model prog w) A (getAttr o f true) Q E s₁) E s):wpAny (model prog w) A (eval (.Attribute e f pos) env) Q E s:=
 Attribute_any_ h (by rw[arm_eval_Attribute,a])
end
def bAu (K:bE4)(ta:TE)(f:Str):TE:=fun σ H Q=>ta σ H λx H1=>∃a C dx fs v,x=.ref a/\H1 a=some (.ins C dx fs)/\Cls K C/\cT K C f/\fs.lookup f=some v/\Q v H1
def bBk (K:bE4)(ta tv:TE)(f:Str):TS:=λD σ H=>tv σ H λy H1=>ta σ H1 λx H2=>∃a C dx fs,x=.ref a/\H2 a=some (.ins C dx fs)/\Cls K C/\cT K C f/\fs.length<1000 /\
 D.nx σ (upd H2 a (.ins C dx (fP f y fs)))
section
variable {X:Cx}{o e value:Expr}{f:Str}{pos pos' tpos:Pos}{ta tv:TE}
def aY8 (z:PE X e ta)(w:attributeBase e f X.env (eval e X.env)=eval e X.env):PE X (.Attribute e f pos) (bAu X.K ta f):=by intro b s σ H Q I h;refine aMc w (thn (z b s σ H _ I h) λu r ⟨x,i,g,o,a,C,t,A,v,d,m,c,n,l,q⟩=>?_);subst d;obtain rfl:u=Value.ref a:=o;exact aK4 g m c n l λp y k j=>⟨v,i,k,j,q⟩
def aZ5 (B:PE X o ta)(G:PE X value tv)(E:swapsWith value (some (.Attribute o f pos')) pos.line X.env=pure false):PS X (.Assign [.Attribute o f pos'] value pos) (bBk X.K ta tv f):=by intro b s σ H D I h;refine plainObj_wpAny_Assign_Attribute (thn (G b s σ H _ I h) λu m ⟨y,r,p,d,q⟩=>thn (B b m σ r _ p q) λg J ⟨x,z,e,v,a,C,A,F,k,i,c,n,l,j⟩=>?_) E;subst k;obtain rfl:g=Value.ref a:=v;exact aJr e i c n l d λw t=>⟨σ,_,t,j⟩
end
section
variable {X:Cx}{bE8:bE6}{σ:St}{H:Hp}{s:Shared}{A:Around}{E:bE5}{Q:bE5}{c:Value}{b:Bool}
end
structure Room (k:Nat)(A:Around):Prop where
 hd:A.handled=none
 dp:A.depth+3 * k+5<recursionLimit
 un:A.units+16 * k+200<cLine
def Room.mono {j k:Nat}{A:Around}(r:Room k A)(h:j<=k):Room j A:=⟨r.hd,by have:=r.dp;lia,by have:=r.un;lia⟩
def Room.deeper {k:Nat}{A:Around}(r:Room (k+1) A)(env:Env):Room k (A.deeper env):=
 ⟨r.hd,by have:=r.dp;show A.depth+1+3 * k+5<_;lia,by have:=r.un;show A.units+3+16 * k+200<_;lia⟩
def aI5 {A:Around}{C:Addr}{us:List Value}{kw:List (Str × Value)}:(A.under (.builtin "type.__call__" ⟨.ref C::us,kw⟩)).depth=A.depth+1:=by
 first|rfl|simp[Around.under,Code.weight,Code.isCreation,Code.isGuard,Code.isCaller,Code.frames,Code.isFrame,guardIds]
def aKy {A:Around}{C:Addr}{us:List Value}{kw:List (Str × Value)}:(A.under (.builtin "type.__call__" ⟨.ref C::us,kw⟩)).units=A.units+1:=by
 first|rfl|simp[Around.under,Code.cUnits,Code.frames,Code.isFrame]
def Room.make {k:Nat}{A:Around}(r:Room (k+1) A)(C:Addr)(us:List Value)(kw:List (Str × Value)):Room k (A.under (.builtin "type.__call__" ⟨.ref C::us,kw⟩)):=
 ⟨r.hd,by have:=r.dp;rw[aI5];lia,by have:=r.un;rw[aKy];lia⟩
def Room.depth {k:Nat}{A:Around}(r:Room k A):A.depth<recursionLimit:=by have:=r.dp;lia
def Room.units {k:Nat}{A:Around}(r:Room k A):A.units+64<cLine:=by have:=r.un;lia
def qZ:TA:=λ_ H Q=>Q [] H
def cO (ta:TE)(tr:TA):TA:=fun σ H Q=>ta σ H λx H1=>tr σ H1 λxs H2=>Q (x::xs) H2
section
variable {X:Cx}{e:Expr}{es:List Expr}{te:TE}{t:TA}{pos:Pos}
def aRm:PA X [] qZ:=λ_ _ _ _ H Q I h=>bEY ⟨[],H,I,.nil,h⟩
def aWo (q:PE X e te)(o:PA X es t)(v:starEach (e::es) X.env=(false,eval e X.env)::starEach es X.env:=by rfl):PA X (e::es) (cO te t):=by intro a b s σ H Q I h;rw[v];show wpAny _ _ (spliced ((false,eval e X.env)::backTo a (starEach es X.env))) _ _ s;refine bCJ (thn (q b s σ H _ I h) λu g ⟨x,j,i,k,c⟩=>?_);exact thn (o a b g σ j _ i c) λr p ⟨m,d,l,f,n⟩=>⟨x::m,d,l,.cons k f,n⟩
end
abbrev Sp:=List V->Hp->VK->XK->Prop
abbrev CXT:=List Env->Hp->Shared->XK->Value->Shared->Prop
structure aFc (P:Program)(w:World)(K:bE4)(mg:bE7)(base:Heap)(A:Around)(outer:List Env)(s:Shared)(H:Hp):Prop where
 frames:A.frames=some outer
 mod:Mod K mg base
 bs:∀b o,base.get? b=some o->s.heap.get? b=some o/\H b=none
 bsz:base.objs.size<=s.heap.objs.size
 funs:s.heap.FunFrames base outer
 frf:∀b∈frs outer,H b=none
 hok:HOk P w H s.heap
 bare:AllBare s.gens
def CE (outer:List Env)(P:Program)(w:World)(H:Hp)(s:Shared)(Q:VK)(u:Value)(s':Shared):Prop:=
 ∃v H',s'.os=s.os/\AllBare s'.gens/\Un (frs outer) [] H H' s.heap s'.heap/\HOk P w H' s'.heap/\RelV v u/\Q v H'
def CR (CX:CXT)(outer:List Env)(P:Program)(w:World)(H:Hp)(s:Shared)(Q:VK)(E:XK)(r:Result)(s':Shared):Prop:=
 match r with
 |.ok (.ret u)=>CE outer P w H s Q u s'
 |.ok _=>False
 |.error e=>CX outer H s E e s'
structure dW (P:Program)(w:World)(K:bE4)(mg:bE7)(base:Heap)(CX:CXT)(k:Nat)(f:Addr)(fd:FuncData)(ps:List Str)(sp:Sp):Prop where
 len:∀vs H Q E,sp vs H Q E->vs.length=ps.length
 run:∀(A:Around) (outer:List Env) (s:Shared) (H:Hp) (args:Args) (us:List Value) (vs:List V) (Q:VK) (E:XK),Room k A->aFc P w K mg base A outer s H->BindsTo s fd args (ps.zip us)->Vals vs us->sp vs H Q E ->
  codeAny (model P w) A (.call (.ref f) args) (CR CX outer P w H s Q E) s
def dW.mono {P:Program}{w:World}{K:bE4}{mg:bE7}{base:Heap}{CX:CXT}{j k:Nat}{f:Addr}{fd:FuncData}{ps:List Str}{sp:Sp}(F:dW P w K mg base CX j f fd ps sp)(h:j<=k) :
  dW P w K mg base CX k f fd ps sp:=⟨F.len,λA a s H b d e Q E c=>F.run A a s H b d e Q E (c.mono h)⟩
def aFc.make {P:Program}{w:World}{K:bE4}{mg:bE7}{base:Heap}{A:Around}{outer:List Env}{s:Shared}{H:Hp}(e:aFc P w K mg base A outer s H)(C:Addr)(us:List Value)(kw:List (Str × Value)) :
  aFc P w K mg base (A.under (.builtin "type.__call__" ⟨.ref C::us,kw⟩)) outer s H:=⟨by first|exact e.frames|(simpa [Around.under,Code.envs,Code.isFrame,pushEnvs] using e.frames),e.mod,e.bs,e.bsz,e.funs,e.frf,e.hok,e.bare⟩
section
variable {X:Cx}{bE8:bE6}{σ:St}{H:Hp}{s s':Shared}
def Inv.env0 (I:Inv X bE8 σ H s):aFc X.prog X.w X.K X.mg X.base X.A X.stack s H:=
 ⟨I.ok.frames,I.ok.mod,I.bs,bAJ I.ok.bsz I.sz,I.stack,I.oN,I.hok,I.bare⟩
def Inv.after {Q:VK}{u:Value}(I:Inv X bE8 σ H s)(h:CE X.stack X.prog X.w H s Q u s'):EP X bE8 σ Q u s':=by obtain⟨v,k,i,a,j,e,r,q⟩:=h;obtain⟨f,g,d,t,c⟩:=s';obtain rfl:c=s.os:=i;exact⟨v,k,I.call (h':=f) (g':=g) (d':=d) (t':=t) (ch:=[]) j e a (λb z=>absurd z (by simp)),r,q⟩
end
def rG (sp:Sp)(dvs:List V)(E:XK)(t:TA):TE:=fun σ H Q=>t σ H λvs H1=>sp (vs++dvs) H1 Q E
def aSt (C:Addr)(m:Str)(sp:Sp)(dvs:List V)(E:XK)(ta:TE)(t:TA):TE:=fun σ H Q=>ta σ H λx H1=>∃a dx fs,x=.ref a/\H1 a=some (.ins C dx fs)/\fs.lookup m=none /\
 t σ H1 λvs H2=>sp (x::(vs++dvs)) H2 Q E
def aW9 (C:Addr)(sp:Sp)(dvs:List V)(E:XK)(t:TA):TE:=fun σ H Q=>t σ H λvs H1=>∀x dx,H1 x=none->H1 dx=none->dx≠x ->
 sp (.ref x::(vs++dvs)) (upd (upd H1 dx (.own x)) x (.ins C dx [])) (λv H2=>v=.non/\Q (.ref x) H2) E
def Binds (K:bE4)(fd:FuncData)(ps:List Str)(ds:List Value):Prop:=
 ∀(s:Shared) (us:List Value),K.In s.heap->(us++ds).length=ps.length->BindsTo s fd ⟨us,[]⟩ (ps.zip (us++ds))
def Binds.all {K:bE4}{fd:FuncData}{ps:List Str}(h:∀us:List Value,us.length=ps.length->bindArgs fd ⟨us,[]⟩=pure (ps.zip us)):Binds K fd ps []:=λs us _ a=>by rw[bBB] at a ⊢;exact .of_eq (h us a)
def jV (CX:CXT)(X:Cx)(E:XK):Prop:=∀(bE8:bE6) (σ:St) (H:Hp) (s:Shared) (e:Value) (s':Shared),Inv X bE8 σ H s->CX X.stack H s E e s'->X.xe e s'
section
variable {X:Cx}{CX:CXT}{k:Nat}{f C:Addr}{fd:FuncData}{ps:List Str}{sp:Sp}{dvs:List V}{ds:List Value}{E:XK}{x m:Str}{p pos apos:Pos}{e o:Expr}{es:List Expr}{ta:TE}{t:TA}
def aFq {g:bE6}{σ:St}{H:Hp}{s:Shared}{Q:VK}{us:List Value}{vs:List V}(F:dW X.prog X.w X.K X.mg X.base CX k f fd ps sp)(i:Room k X.A)(j:Binds X.K fd ps ds)(hd:Vals dvs ds)(l:jV CX X E)
  (I:Inv X g σ H s) (r:Vals vs us) (h:sp (vs++dvs) H Q E):wpAny (model X.prog X.w) X.A (call (.ref f) us) (EP X g σ Q) X.xe s:=by
 have b:Vals (vs++dvs) (us++ds):=r.append hd;have c:(us++ds).length=ps.length:=by rw[<-b.length];exact F.len _ _ _ _ h
 refine bCK (bCA (F.run X.A X.stack s H ⟨us,[]⟩ (us++ds) (vs++dvs) Q E i I.env0 (j s us I.kIn c) b h) λr d a=>?_);cases r with
 |error e=>exact l g σ H s e d I a
 |ok fl=>
  cases fl with
  |ret u=>exact I.after a
  |next=>exact False.elim a
  |brk=>exact False.elim a
  |cont=>exact False.elim a
def aMg (F:dW X.prog X.w X.K X.mg X.base CX k f fd ps sp)(z:Room k X.A)(g:Gl X x)(B:X.mg x=some (.ref f))(i:PySem.W.keepIn X.K (.ref f)=true)(m:Binds X.K fd ps ds)(hd:Vals dvs ds)(n:jV CX X E)
  (o:PA X (e::es) t) (d:(x == ("__debug__":Str))=false:=by decide) (y:starEach (e::es) X.env=(false,eval e X.env)::starEach es X.env:=by rfl) (c:(backTo pos (starEach es X.env)).any (·.1)=false:=by rfl) :
  PE X (.Call (.Name x p) (e::es) [] pos) (rG sp dvs E t):=by
 intro a s σ H Q I h;refine bBG (jF I g B ?_ d);refine PySem.W.callWith_K (h₀:=X.base) I.ok.mod.kin i (thn (o pos a s σ H _ I h) λv j ⟨u,l,b,r,q⟩=>⟨b.kIn,?_⟩) y c;exact aFq F z m hd n b r q
def aTf (F:dW X.prog X.w X.K X.mg X.base CX k f fd ps sp)(d:Room k X.A)(c:Gl X x)(j:X.mg x=some (.ref f))(e:PySem.W.keepIn X.K (.ref f)=true)(i:Binds X.K fd ps ds)(hd:Vals dvs ds)(g:jV CX X E)
  (b:(x == ("__debug__":Str))=false:=by decide):PE X (.Call (.Name x p) [] [] pos) (rG sp dvs E qZ):=by
 intro a s σ H Q I h;refine bBG (jF I c j ?_ b);exact PySem.W.callWith_K0 I.kIn e (aFq (us:=[]) F d i hd g I .nil h)
def aVc {pl:Sem Bool}(R:PE X o ta)(c:Cls X.K C)(B:Meth X.K C m f)(F:dW X.prog X.w X.K X.mg X.base CX k f fd ps sp)(T:Room k X.A)(L:Binds X.K fd ps ds)(hd:Vals dvs ds)(M:jV CX X E)(O:PA X (e::es) t)
  (n:starEach (e::es) X.env=(false,eval e X.env)::starEach es X.env:=by rfl) (j:(backTo pos (starEach es X.env)).any (·.1)=false:=by rfl)
  (P:eval (.Call (.Attribute o m apos) (e::es) [] pos) X.env=(do
   let ov <-eval o X.env
   standAt apos.atName
   let (f,first) <-holding [ov] (getMethod ov m pl)
   callWith pos f first (backTo pos (starEach (e::es) X.env)) (backToKw pos (keywordEach [] X.env))):=by rfl) :
  PE X (.Call (.Attribute o m apos) (e::es) [] pos) (aSt C m sp dvs E ta t):=by
 intro b s σ H Q I h;refine PySem.W.methodCall_KW (pl:=pl) (thn (R b s σ H _ I h) λu p ⟨x,v,d,D,a,J,S,i,y,l,q⟩=>?_) P;subst i;obtain rfl:u=Value.ref a:=D;refine zR d y c B l ?_;refine PySem.W.callWith_K (first:=[.ref a]) (h₀:=X.base) I.ok.mod.kin B.kp (thn (O pos b p σ v _ d q) λus N ⟨vs,G,g,r,z⟩=>⟨g.kIn,?_⟩) n j;exact aFq (us:=.ref a::us) (vs:=.ref a::vs) F T L hd M g (.cons rfl r) z
structure Mk (K:bE4)(C f:Addr):Prop where
 makes:PySem.W.makesIn K C=true
 init:PySem.W.findIn K (.ref C) "__init__"=some (some (.ref f))
 fn:PySem.W.isFn K (.ref f)=true
 kp:PySem.W.keepIn K (.ref C)=true
def aP3 {m:bE6}{σ:St}{H:Hp}{s:Shared}{Q:VK}{us:List Value}{vs:List V}(M:Mk X.K C f)(F:dW X.prog X.w X.K X.mg X.base CX k f fd ps sp)(y:Room (k+1) X.A)(q:Binds X.K fd ps ds)(hd:Vals dvs ds)
  (t:jV CX X E) (I:Inv X m σ H s) (r:Vals vs us)
  (h:∀x dx,H x=none->H dx=none->dx≠x->sp (.ref x::(vs++dvs)) (upd (upd H dx (.own x)) x (.ins C dx [])) (λv H2=>v=.non/\Q (.ref x) H2) E) :
  wpAny (model X.prog X.w) X.A (call (.ref C) us) (EP X m σ Q) X.xe s:=by
 have d:=h (s.heap.objs.size+1) s.heap.objs.size (I.hok.fresh (bCX _)) (I.hok.fresh (j5 _)) (v6 (bCZ _));have b:=Inv.made (C:=C) I;have c:Vals (V.ref (s.heap.objs.size+1)::(vs++dvs)) (Value.ref (s.heap.objs.size+1)::(us++ds)):=.cons rfl (r.append hd);have j:(Value.ref (s.heap.objs.size+1)::us++ds).length=ps.length:=by have e:=c.length;rw[F.len _ _ _ _ d] at e;exact e.symm
 refine bCK (aH1 (f:=f) I.kIn M.makes M.init (beq_iff_eq.mp M.fn) (bCA (F.run _ X.stack _ _ ⟨Value.ref (s.heap.objs.size+1)::us,[]⟩ (Value.ref (s.heap.objs.size+1)::(us++ds)) _ _ E (y.make C us [])
  (b.env0.make C us []) (q _ (Value.ref (s.heap.objs.size+1)::us) b.kIn j) c d) λr l a=>?_))
 cases r with
 |error e=>exact t m σ _ _ e l b a
 |ok fl=>
  cases fl with
  |ret u=>obtain⟨v,p,o,g,i,n⟩:=b.after a;subst i;exact⟨g,⟨V.ref (s.heap.objs.size+1),p,o,rfl,n⟩⟩
  |next=>exact False.elim a
  |brk=>exact False.elim a
  |cont=>exact False.elim a
def aVx (M:Mk X.K C f)(F:dW X.prog X.w X.K X.mg X.base CX k f fd ps sp)(y:Room (k+1) X.A)(g:Gl X x)(z:X.mg x=some (.ref C))(l:Binds X.K fd ps ds)(hd:Vals dvs ds)(m:jV CX X E)
  (n:PA X (e::es) t) (d:(x == ("__debug__":Str))=false:=by decide) (v:starEach (e::es) X.env=(false,eval e X.env)::starEach es X.env:=by rfl) (c:(backTo pos (starEach es X.env)).any (·.1)=false:=by rfl) :
  PE X (.Call (.Name x p) (e::es) [] pos) (aW9 C sp dvs E t):=by
 intro a s σ H Q I h;refine bBG (jF I g z ?_ d);refine PySem.W.callWith_K (h₀:=X.base) I.ok.mod.kin M.kp (thn (n pos a s σ H _ I h) λu i ⟨o,j,b,r,q⟩=>⟨b.kIn,?_⟩) v c;exact aP3 M F y l hd m b r q
end
section
variable {X:Cx}{CX:CXT}{k:Nat}{f C:Addr}{fd:FuncData}{ps ks:List Str}{sp:Sp}{E:XK}{x m:Str}{p pos apos kpos:Pos}{e o:Expr}{es:List Expr}{kws:List Keyword}{te ta:TE}{t tk:TA}{nm:Option Str}
variable {g:List Value->List Value->List Value}{gV:List V->List V->List V}
end
structure aN (N P:List Str)(sc:Scope):Prop where
 kind:sc.kind=.function
 co:sc.isCoroutine=false
 gen:sc.isGenerator=false
 nd:N.Nodup
 pre:N.take P.length=P
 par:∀x∈P,sc.names.lookup x=some .local\/sc.names.lookup x=some .cell
 nofree:∀y∈sc.names,y.2≠.free
theorem aCt {kindOf:Str->Option NameKind}{x:Str}:∀{binds:List (Str × Value)} {m:bE7},(∀v,(x,v)∉binds)->bindL kindOf binds m x=m x
 |[],_,_=>rfl
 |(n,v)::r,m,h=>by
  unfold bindL;rw[aCt λw a=>h w (j9 _ a)]
  split
  ·have:x≠n:=by rintro rfl;exact h v v4
   simp[this]
  ·rfl
theorem aC6 {kindOf:Str->Option NameKind}{x:Str}:∀{binds:List (Str × Value)} {m:bE7},(∀v,(x,v)∉binds)->bindC kindOf binds m x=m x
 |[],_,_=>rfl
 |(n,v)::r,m,h=>by
  unfold bindC;rw[aC6 λw a=>h w (j9 _ a)]
  split
  ·rfl
  ·have:x≠n:=by rintro rfl;exact h v v4
   simp[this]
theorem aC9 {a:Str->Option NameKind}{x:Str}{v:Value}:∀{P:List Str} {vs:List Value} {i:Nat} {m:bE7},P.Nodup->P[i]?=some x->vs[i]?=some v->a x=some .local ->
  bindL a (P.zip vs) m x=some v
 |[],_,_,_,_,h,_,_=>by simp at h
 |_::_,[],_,_,_,_,h,_=>by simp at h
 |p::P,w::vs,0,m,nd,h1,h2,hk=>by simp at h1 h2;subst h1;subst h2;show bindL a ((p,w)::P.zip vs) m p=_;unfold bindL;rw[aCt λv b=>(List.nodup_cons.mp nd).1 (List.of_mem_zip b).1,if_pos hk];simp
 |p::P,w::vs,i+1,m,nd,h1,h2,hk=>by show bindL a ((p,w)::P.zip vs) m x=_;unfold bindL;exact aC9 (i:=i) (List.nodup_cons.mp nd).2 (by simpa using h1) (by simpa using h2) hk
theorem aC5 {a:Str->Option NameKind}{x:Str}{v:Value}:∀{P:List Str} {vs:List Value} {i:Nat} {m:bE7},P.Nodup->P[i]?=some x->vs[i]?=some v->a x≠some .local ->
  bindC a (P.zip vs) m x=some v
 |[],_,_,_,_,h,_,_=>by simp at h
 |_::_,[],_,_,_,_,h,_=>by simp at h
 |p::P,w::vs,0,m,nd,h1,h2,hk=>by simp at h1 h2;subst h1;subst h2;show bindC a ((p,w)::P.zip vs) m p=_;unfold bindC;rw[aC6 λv b=>(List.nodup_cons.mp nd).1 (List.of_mem_zip b).1,if_neg hk];simp
 |p::P,w::vs,i+1,m,nd,h1,h2,hk=>by show bindC a ((p,w)::P.zip vs) m x=_;unfold bindC;exact aC5 (i:=i) (List.nodup_cons.mp nd).2 (by simpa using h1) (by simpa using h2) hk
def start (N:List Str)(vs:List V):St:=vs.map some++List.replicate (N.length - vs.length) none
def qK (CX:CXT)(P:Program)(w:World)(K:bE4)(mg:bE7)(base:Heap)(N:List Str)(qual:Str)(scope:Scope)(f:Addr)(cd:Value)(A:Around)(outer:List Env)(s:Shared)(H:Hp)(E:XK):Cx where
 prog:=P
 w:=w
 K:=K
 mg:=mg
 base:=base
 A:=A.deeper (envOfC qual scope s.heap.objs.size f cd)
 N:=N
 s₀:=s
 H₀:=H
 env:=envOfC qual scope s.heap.objs.size f cd
 outer:=outer
 stack:=envOfC qual scope s.heap.objs.size f cd::outer
 ex:=[]
 calm:=true
 fn:=λ_=>true
 pn:=[]
 xe:=λe s'=>wpAny (model P w) (A.deeper (envOfC qual scope s.heap.objs.size f cd)) (leaving (envOfC qual scope s.heap.objs.size f cd) e) (λ_ s''=>CX outer H s E e s'') (λe' s''=>CX outer H s E e' s'') s'
def aIl {a:Scope}{n:Nat}{x:Str}(h:a.names.lookup x=some .cell):∃c,(cellsFrom n a.names []).lookup x=some c:=by have q:=PySem.W.cellsFrom_some a.names n [] (.inl h);exact Option.isSome_iff_exists.mp q
def aOw {CX:CXT}{P:Program}{w:World}{K:bE4}{mg:bE7}{base:Heap}{N F:List Str}{B:Str}{scope:Scope}{f:Addr}{M:Value}{A:Around}{outer:List Env}{s s1:Shared}{H:Hp}{E:XK}{us:List Value}{vs:List V}
  (S:aN N F scope) (hd:A.handled=none) (g:aFc P w K mg base A outer s H) (hl:vs.length=F.length) (r:Vals vs us)
  (x:InCallC s s.heap.objs.size (bindL (envOfC B scope s.heap.objs.size f M).kindOf (F.zip us) λ_=>none) (cellsFrom (s.heap.objs.size+1) scope.names []) (bindC (envOfC B scope s.heap.objs.size f M).kindOf (F.zip us) λ_=>none) s1) :
  Inv (qK CX P w K mg base N B scope f M A outer s H E) [] (start N vs) H s1:=by
 have I:F.length<=N.length:=by have:=congrArg List.length S.pre;rw[bAT] at this;lia
 obtain⟨t,L,rfl,D⟩:=x.done;have j:∀b:Addr,b∉(qK CX P w K mg base N B scope f M A outer s H E).ex:=λb z=>absurd (show b∈([]:List Addr) from z) (by simp);refine⟨⟨g.mod,S.kind,rfl,rfl,j5 _,λy z c t d=>?_,λy hy=>?_,λy c _ h=>?_,λ_=>hd,Around.frames_deeper g.frames,.inr ⟨rfl,rfl⟩,λb z=>absurd z (j b),g.bs,g.bsz,λb _ _=>j b,λb z=>absurd z (j b),g.funs,g.frf⟩,
  rfl,g.bare,Un.kept D,⟨_,x.toInCall.ns,λi y v t d O=>?_⟩,λy c h=>⟨_,x.cell y c h⟩,g.hok.fresh (j5 _),λy c h=>?_,λp m=>absurd (show p∈([]:bE6) from m) (by simp),g.hok.kept D,?_⟩
 ·exact name_of_addr x.apart (PySem.mem_of_lookup t) (PySem.mem_of_lookup d)
 ·have hy:scope.names.lookup y=some .cell\/scope.names.lookup y=some .free:=hy;rcases hy with hy|hy
  ·exact aIl hy
  ·exact absurd rfl (S.nofree _ (PySem.mem_of_lookup hy))
 ·exact bDD (x.above y c (PySem.mem_of_lookup h))
 ·have o:i<vs.length:=by
   unfold start at d;by_cases o:i<vs.length
   ·exact o
   ·rw[bCE (by simpa using o)] at d;rw[List.getElem?_replicate] at d
    split at d <;> cases d
  have J:vs[i]?=some v:=by
   unfold start at d;rw[bCI (by simpa using o),m5] at d;cases e:vs[i]? with
   |none=>rw[e] at d;cases d
   |some a=>rw[e] at d;cases d;rfl
  obtain⟨u,C,G⟩:=r.get J;have m:F[i]?=some y:=by rw[<-S.pre,bC3 (by lia)];exact t
  have l:F.Nodup:=by rw[<-S.pre];exact S.nd.sublist (bEZ _ _)
  refine⟨u,G,?_⟩;rcases S.par y (bAA m) with k|k
  ·exact .inl ⟨k,aC9 l m C k⟩
  ·obtain⟨c,e⟩:=aIl (n:=s.heap.objs.size+1) k;refine .inr ⟨.inl k,c,e,?_⟩;have q:=x.cell y c e;rw[aC5 l m C (by show scope.names.lookup y≠_;rw[k];decide)] at q;exact q
 ·exact g.hok.fresh (bDD (x.above y c (PySem.mem_of_lookup h)))
 ·unfold start;show _=N.length;rw[bAD,j0,List.length_replicate];lia
def aLo {CX:CXT}{P:Program}{w:World}{K:bE4}{mg:bE7}{base:Heap}{k:Nat}{f:Addr}{name d:Str}{params:Arguments}{body:List Stmt}{scope:Scope}{dV kV doc pm D ct oc:Value}{an od:Option Addr}
  {osl:Array (Option Value)} {N ps:List Str} {sp:Sp} (lk:K.lookup f=some ⟨oc,od,.func (PySem.W.fnOf name d params body scope dV kV doc pm an D ct),osl⟩) (Z:PySem.W.codeIn K D d=true) (S:aN N ps scope)
  (z:∀vs H Q E,sp vs H Q E->vs.length=ps.length)
  (m:∀(A:Around) (outer:List Env) (s:Shared) (H:Hp) (vs:List V) (Q:VK) (E:XK),Room k (A.deeper (envOfC d scope s.heap.objs.size f D))->sp vs H Q E ->
   ∃t,PSs (qK CX P w K mg base N d scope f D A outer s H E) body t/\t { nx:=λ_ H'=>Q .non H',rt:=Q } (start N vs) H) :
  dW P w K mg base CX (k+1) f (PySem.W.fnOf name d params body scope dV kV doc pm an D ct) ps sp:=by
 refine⟨z,λA outer s H G U vs Q E C h O r g=>?_⟩;have M:=z _ _ _ _ g;have F:K.In s.heap:=h.mod.kin.keeps λb o e=>(h.bs b o e).1;have p:s.heap.NoLimit:=h.mod.nolimit.keeps λb o e=>(h.bs b o e).1;have a:∀y∈ps.zip U,scope.names.lookup y.1=some .local\/(scope.names.lookup y.1=some .cell/\((cellsFrom (s.heap.objs.size+1) scope.names []).lookup y.1).isSome=true):=λ⟨n,v⟩ hy=>by
  rcases S.par n (List.of_mem_zip hy).1 with q|q
  ·exact .inl q
  ·exact .inr ⟨q,PySem.W.cellsFrom_some _ _ _ (.inl q)⟩
 refine codeAny_call_function C.depth (F _ _ lk) rfl S.co S.gen rfl (PySem.W.codeRec_of F Z) (O _ _ _ _ ?_);refine wpAny_newFunctionEnv_cells S.kind a λT he L x=>?_;subst he;refine⟨p.keeps x.toInCall.keep,codeAny_func ?_⟩;obtain⟨t,X,R⟩:=m A outer s H vs Q E (C.deeper _) g;have I:Inv (qK CX P w K mg base N d scope f D A outer s H E) [] (start N vs) H L:=aOw S C.hd h M r x;refine bAY (X [] L (start N vs) H _ I R) (λY B c=>?_) λe B c=>c;have i:∀{j:St} {H':Hp} {v:V} {u:Value},Inv (qK CX P w K mg base N d scope f D A outer s H E) [] j H' B->RelV v u->Q v H'->CE outer P w H s Q u B:=
  λ{j H' v u} J l q=>⟨v,H',J.os,J.bare,J.base,J.hok,l,q⟩
 cases Y with
 |ret u=>obtain⟨v,j,H',J,l,q⟩:=c;exact i J l q
 |next=>obtain⟨j,H',J,q⟩:=c;exact i (v:=V.non) (u:=Value.none) J rfl q
 |brk=>obtain⟨_,_,_,q⟩:=c;exact False.elim q
 |cont=>obtain⟨_,_,_,q⟩:=c;exact False.elim q
section
variable {X:Cx}{x:Str}{p pos:Pos}{e:Expr}{es:List Expr}{t:TA}{id T:String}{r:List V->Hp->VK->Prop}
def tCB (r:List V->Hp->VK->Prop)(t:TA):TE:=fun σ H Q=>t σ H λvs H1=>r vs H1 Q
def aSg (n:bR X (.builtin id) r)(m:Gl X x)(w:X.mg x=none)(v:bootBuiltins x=some (.builtin id))(q:PA X (e::es) t)(o:x≠"__name__":=by decide)(i:(x == ("__debug__":Str))=false:=by decide)
  (u:starEach (e::es) X.env=(false,eval e X.env)::starEach es X.env:=by rfl) (c:(backTo pos (starEach es X.env)).any (·.1)=false:=by rfl):PE X (.Call (.Name x p) (e::es) [] pos) (tCB r t):=by
 intro a s σ H Q I h;refine bBG (nC I m w v ?_ o i);exact bEA (thn (q pos a s σ H _ I h) λl d ⟨k,g,f,j,b⟩=>n a d σ g k l Q f j b) u c
def aOb (n:bR X (.type T) r)(m:Gl X x)(w:X.mg x=none)(v:bootBuiltins x=some (.type T))(q:PA X (e::es) t)(o:x≠"__name__":=by decide)(i:(x == ("__debug__":Str))=false:=by decide)
  (u:starEach (e::es) X.env=(false,eval e X.env)::starEach es X.env:=by rfl) (c:(backTo pos (starEach es X.env)).any (·.1)=false:=by rfl):PE X (.Call (.Name x p) (e::es) [] pos) (tCB r t):=by
 intro a s σ H Q I h;refine bBG (nC I m w v ?_ o i);exact bCD (thn (q pos a s σ H _ I h) λl d ⟨k,g,f,j,b⟩=>n a d σ g k l Q f j b) u c
end
end L2
namespace HT
open PySem PyProof.Rows
section
open PySem.SeqAt
open PySem.AutoSeq1 (wpAny_loadPart')
open PySem.MeetsSeq PySem.MeetsSeq2 PySem.MeetsSeq3
end
section
variable {prog:Program}{w:World}{A:Around}{E:bE5}{s:Shared}
def aU9 {t b:Addr}{vs j:List Value}{Q:bE5}(z:IsTup s.heap t vs.toArray)(x:IsTup s.heap b j.toArray)(u:vs≠[])
  (y:j=[]->Q (.ref t) s) (v:j≠[]->Q (.ref s.heap.objs.size) { s with heap:=s.heap.push { cls:=.type "tuple",data:=.seq (vs++j).toArray } })
  (hsz:vs.length+j.length<=sizeLine):wpAny (model prog w) A (binaryOp .Add (.ref t) (.ref b)) Q E s:=by
 obtain⟨⟨cls,o,data,q⟩,h,m,n,p⟩:=id z;obtain⟨⟨l,d,k,c⟩,a,f,r,g⟩:=id x;simp only at m p f g;subst m p f g;have e:vs.toArray++j.toArray=(vs++j).toArray:=by simp
 by_cases i:j=[]
 ·exact concat_meets ⟨_,h,rfl⟩ ⟨_,a,rfl⟩ noFill_tuple_add seq_tuple_add PySem.F.slot_tuple_add PySem.F.entry_tuple_add (PySem.F.args_tuple_add_2 _ _)
   (tuple_addW1 t b vs.toArray j.toArray n r o d q c (by simpa using u) (by simp[i])) ⟨h,a,y i⟩
 ·refine concat_meets ⟨_,h,rfl⟩ ⟨_,a,rfl⟩ noFill_tuple_add seq_tuple_add PySem.F.slot_tuple_add PySem.F.entry_tuple_add (PySem.F.args_tuple_add_2 _ _)
   (tuple_addW2 t b vs.toArray j.toArray n r o d q c (by simpa using u) (by simpa using i) (by rw[j6,j6];exact hsz)) ⟨h,a,?_⟩
  rw[e];exact v i
def sIx (n d:Nat):Option Int->Nat
 |none=>d
 |some v=>if v<0 then (v+(n:Int)).toNat else min v.toNat n
def aPt (n d:Nat):sIx n d none=d:=rfl
def aUv (n d k:Nat):sIx n d (some (k:Int))=min k n:=by show (if (k:Int)<0 then ((k:Int)+(n:Int)).toNat else min (k:Int).toNat n)=min k n;rw[if_neg (by lia),bAN]
def aYd (n d:Nat)(hd:d<=n)(o:Option Int):sIx n d o<=n:=by
 cases o with
 |none=>exact hd
 |some v=>
  show (if v<0 then (v+(n:Int)).toNat else min v.toNat n)<=n;by_cases a:v<0
  ·rw[if_pos a];lia
  ·rw[if_neg a];exact Nat.min_le_right _ _
def aMx (v:Int)(n d:Nat):(if v<0 then max (v+(n:Int)) 0 else min v (n:Int))=((sIx n d (some v):Nat):Int):=by
 show (if v<0 then max (v+(n:Int)) 0 else min v (n:Int))=(((if v<0 then (v+(n:Int)).toNat else min v.toNat n):Nat):Int);by_cases a:v<0
 ·simp only[if_pos a];lia
 ·simp only[if_neg a];lia
def aLi (c b:Option Int)(n:Nat):Builtin.Slice.sliceAdjust c b 1 (n:Int)=(((sIx n 0 c:Nat):Int),((sIx n n b:Nat):Int)):=by
 have a:¬ ((1:Int)<0):=by lia
 unfold Builtin.Slice.sliceAdjust;simp only[a,if_false];refine Prod.ext ?_ ?_
 ·cases c with
  |none=>rfl
  |some v=>exact aMx v n 0
 ·cases b with
  |none=>rfl
  |some v=>exact aMx v n n
def aI1 (i j:Nat):Builtin.Slice.slicePlaces (i:Int) (j:Int) 1=j - i:=by
 unfold Builtin.Slice.slicePlaces;have a:(1:Int) > 0:=by lia
 simp only[a,if_true,Int.ediv_one]
 split <;> lia
def xZ {v:Value}{o:Option Int}{Q:Option Int->Shared->Prop}(p:IsPart v o)(h:Q o s):wpAny (model prog w) A (Builtin.Slice.slicePartIndex v) Q E s:=by
 cases p with
 |none=>exact slicePart_none h
 |int i t=>exact slicePart_int h
def kI {sl:Addr}{f g:Value}{c d:Option Int}{n:Nat}{Q:Int × Int × Nat->Shared->Prop}(k:s.heap.IsSliceOf sl f g .none)(pl:IsPart f c)(j:IsPart g d)
  (h:Q (((sIx n 0 c:Nat):Int),1,sIx n n d - sIx n 0 c) s):wpAny (model prog w) A (Builtin.Slice.sliceApplied (.ref sl) (pure (n:Int))) Q E s:=by
 obtain⟨i,a,e,b⟩:=id k;unfold Builtin.Slice.sliceApplied Builtin.Slice.sliceFields;refine b7 (b7 (bAM a b (x:=f) rfl (b7 (bAM a b (x:=g) rfl (b7 (bAM a b (x:=.none) rfl (d8 ?_)))))));refine b7 (slicePart_none ?_);show wpAny _ _ (if ((1:Int) == 0)=true then _ else _) _ _ s;rw[if_neg (by decide)];refine b7 (xZ pl (b7 (xZ j (b7 (d8 ?_)))));show wpAny _ _ (match Builtin.Slice.sliceAdjust c d 1 (n:Int) with|(c,d)=>pure (c,(1:Int),Builtin.Slice.slicePlaces c d 1)) _ _ s;rw[aLi c d n];show wpAny _ _ (pure (((sIx n 0 c:Nat):Int),(1:Int),Builtin.Slice.slicePlaces ((sIx n 0 c:Nat):Int) ((sIx n n d:Nat):Int) 1)) _ _ s;rw[aI1];exact d8 h
def aSa (xs:Array Value)(i k:Nat):((List.range k).filterMap λ(m:Nat)=>xs[((i:Int)+(m:Int) * 1).toNat]?).toArray=((xs.toList.drop i).take k).toArray:=by
 have e:(λ(m:Nat)=>xs[((i:Int)+(m:Int) * 1).toNat]?)=λm=>xs[i+m]?:=by
  funext m;have:((i:Int)+(m:Int) * 1).toNat=i+m:=by lia
  rw[this]
 rw[e];have:=pick_run xs i k;rw[List.filterMap_map] at this;have a:((λx=>xs[x]?) ∘ λx=>i+x)=λm=>xs[i+m]?:=rfl;rw[a] at this;rw[this]
def rW {t v:Addr}{a:Array Value}{vl vu:Value}{c d:Option Int}{Q:bE5}(j:IsTup s.heap t a)(n:s.heap.IsSliceOf v vl vu .none)(pl:IsPart vl c)(r:IsPart vu d)
  (u:¬ (sIx a.size 0 c=0/\sIx a.size a.size d=a.size))
  (h:Q (.ref s.heap.objs.size) { s with heap:=s.heap.push { cls:=.type "tuple",data:=.seq ((a.toList.drop (sIx a.size 0 c)).take (sIx a.size a.size d - sIx a.size 0 c)).toArray } })
  (hsz:a.size<=sizeLine):wpAny (model prog w) A (getItem (.ref t) (.ref v)) Q E s:=by
 have b:sizeOk (.seq ((a.toList.drop (sIx a.size 0 c)).take (sIx a.size a.size d - sIx a.size 0 c)).toArray):=by show ((a.toList.drop (sIx a.size 0 c)).take (sIx a.size a.size d - sIx a.size 0 c)).toArray.size<=sizeLine;rw[j6,bAT,bBC,v9];lia
 have p:sIx a.size a.size d<=a.size:=aYd _ _ (j5 _) d;obtain⟨k,f,g,l⟩:=id n;have i:s.TypeIs (.ref v) "slice":=⟨k,f,g⟩;unfold getItem
 try with_reducible refine bAP ?_
 first|refine b7 (d8 ?_)|skip
 refine b7 (wpAny_sequenceKey j.typeIs (by decide) ?_);refine b7 (bAI (name:=Str.ofString "__getitem__") j.typeIs bCH
  (bAH bCH j.typeIs entry_tuple_getitem ?_ (args_tuple_getitem _ _)))
 show wpAny _ _ (Builtin.Tuple.tupleItemsOf (.ref t) >>= _) _ _ s;refine b7 (tupleItemsOf_ j ?_);refine b7 (bEN i ?_);rw[if_pos (by decide)];refine b7 (kI n pl r ?_);have e:¬ ((((sIx a.size 0 c:Nat):Int) == 0 && (1:Int) == 1 && (sIx a.size a.size d - sIx a.size 0 c) == a.size)=true):=by intro q;rw[bAB,bAB] at q;have o:((sIx a.size 0 c:Nat):Int)=0:=eq_of_beq q.1.1;have x:sIx a.size a.size d - sIx a.size 0 c=a.size:=eq_of_beq q.2;exact u ⟨by lia,by lia⟩
 show wpAny _ _ (if (((sIx a.size 0 c:Nat):Int) == 0 && (1:Int) == 1 && (sIx a.size a.size d - sIx a.size 0 c) == a.size)=true then _ else _) _ _ s;rw[if_neg e,aSa];first
  |exact b7 (m:=Builtin.Tuple.tupleExact _) (bAF (d8 ⟨_,rfl,d8 h⟩) b)
  |exact b7 (m:=Builtin.Tuple.tupleExact _) (bAF (b7 (d8 (d8 ⟨_,rfl,d8 h⟩))) b)
  |exact b7 (b7 (m:=Builtin.Tuple.tupleExact _) (bAF (d8 (d8 ⟨_,rfl,d8 h⟩)) b))
  |exact b7 (b7 (m:=Builtin.Tuple.tupleExact _) (bAF (d8 ⟨_,rfl,d8 h⟩) b))
end
end HT
namespace L2
open PySem PySem.Spec PyProof.Rows
abbrev TO:=St->Hp->(Option Int->Hp->Prop)->Prop
def PO (X:Cx)(e:Option Expr)(t:TO):Prop:=
 ∀(bE8:bE6) (s:Shared) (σ:St) (H:Hp) (Q:Option Int->Hp->Prop),Inv X bE8 σ H s->t σ H Q ->
  wpAny (model X.prog X.w) X.A (evalPart e X.env) (λu s'=>∃o H',Inv X bE8 σ H' s'/\IsPart u o/\Q o H') X.xe s
def aMo:TO:=λ_ H Q=>Q none H
def aWu (t:TE):TO:=fun σ H Q=>t σ H λx H1=>∃i,x=.int i/\Q (some i) H1
section
variable {X:Cx}{e:Expr}{te:TE}{lo hi:Option Expr}{tl th:TO}{pos p2:Pos}
def aVn:PO X none aMo:=by intro a s σ H Q I h;rw[evalPart_none];exact d8 ⟨none,H,I,.none,h⟩
def aT4 (h:PE X e te):PO X (some e) (aWu te):=by intro a s σ H Q I g;rw[evalPart_some];refine thn (h a s σ H _ I g) λu j ⟨x,d,c,f,b⟩=>?_;obtain⟨i,rfl,q⟩:=b;obtain⟨t,rfl⟩:=f;exact⟨some i,d,c,.int i t,q⟩
def SlR (X:Cx)(r:V->Option Int->Option Int->Hp->VK->Prop):Prop:=
 ∀(bE8:bE6) (s:Shared) (σ:St) (H:Hp) (x:V) (v vl vu:Value) (lo hi:Option Int) (sl:Addr) (Q:VK),Inv X bE8 σ H s->RelV x v->s.heap.IsSliceOf sl vl vu .none->IsPart vl lo->IsPart vu hi->r x lo hi H Q ->
  ∃T id,typeLookup (.type T) "__getitem__"=pure (some (.builtin id))/\s.TypeIs v T/\wpAny (model X.prog X.w) X.A (getItem v (.ref sl)) (EP X bE8 σ Q) X.xe s
def tSl (r:V->Option Int->Option Int->Hp->VK->Prop)(te:TE)(tl th:TO):TE:=fun σ H Q=>te σ H λx H1=>tl σ H1 λl H2=>th σ H2 λu H3=>r x l u H3 Q
def aR6 {r:V->Option Int->Option Int->Hp->VK->Prop}(P:SlR X r)(O:PE X e te)(K:PO X lo tl)(M:PO X hi th):PE X (.Subscript e (.Slice lo hi none p2) pos) (tSl r te tl th):=by intro a s σ H Q I h;refine Subscript_ (thn (O a s σ H _ I h) λv z ⟨x,C,B,D,i⟩=>?_);refine wpAny_Slice (thn (K a z σ C _ B i) λd E ⟨l,k,n,y,t⟩=>thn (M a E σ k _ n t) λf c ⟨u,g,F,o,m⟩=>?_);rw[evalPart_none];refine d8 ?_;have J:Inv X a σ g { c with heap:=c.heap.push { cls:=.type "slice",data:=.fields #[d,f,.none] } }:=F.kept (t':=c.toks) λb N q=>d7 _ q;obtain⟨T,L,G,p,j⟩:=P a { c with heap:=c.heap.push { cls:=.type "slice",data:=.fields #[d,f,.none] } } σ g x v d f l u c.heap.objs.size Q J D (Heap.IsSliceOf.new ..) y o m;show wpAny (model X.prog X.w) X.A (subscriptTail e (.Slice lo hi none p2) v (.ref c.heap.objs.size)) (EP X a σ Q) X.xe { c with heap:=c.heap.push { cls:=.type "slice",data:=.fields #[d,f,.none] } };exact tail_any (ops:=[.ref c.heap.objs.size,v]) p G j (by with_unfolding_all rfl)
def uZ (xs:List V)(lo hi:Option Int):List V:=(xs.drop (HT.sIx xs.length 0 lo)).take (HT.sIx xs.length xs.length hi - HT.sIx xs.length 0 lo)
def wB (xs:List V)(lo hi:Option Int):(uZ xs lo hi).length<=xs.length:=by unfold uZ;rw[bAT,bBC];lia
def bCe (K:bE4):V->Option Int->Option Int->Hp->VK->Prop:=λx lo hi H Q=>∃a xs,x=.ref a/\SqT K H a xs /\
 ¬ (HT.sIx xs.length 0 lo=0/\HT.sIx xs.length xs.length hi=xs.length)/\∀p,H p=none->Q (.ref p) (upd H p (.tup (uZ xs lo hi)))
def aX6:SlR X (bCe X.K):=by
 intro m s σ H x v w y e f A Q I l u k p h;obtain⟨a,d,rfl,n,t,q⟩:=h;cases l;obtain⟨g,r,i,j⟩:=I.tuple n;have c:g.toArray.size=d.length:=by rw[j6];exact r.length.symm
 refine⟨"tuple",_,PyProof.Rows.slot_tuple_getitem.lookup,i.typeIs,?_⟩;refine HT.rW i u k p (by rw[c];exact t) ?_ (by rw[c];exact j);rw[c];refine⟨.ref s.heap.objs.size,_,I.laid (t':=s.toks) (o:=.tup (uZ d e f)) (λb z q=>d7 _ q) (j5 _) ?_,rfl,q _ (I.hok.fresh (j5 _))⟩;exact⟨bAJ (wB d e f) j,_,(r.drop (HT.sIx d.length 0 e)).take (HT.sIx d.length d.length f - HT.sIx d.length 0 e),wZ.new _ _⟩
def bBl (K:bE4):R2:=λx y H Q=>∃a b xs ys,x=.ref a/\y=.ref b/\SqT K H a xs/\SqT K H b ys/\xs≠[]/\xs.length+ys.length<=sizeLine /\
 (ys=[]->Q (.ref a) H)/\(ys≠[]->∀p,H p=none->Q (.ref p) (upd H p (.tup (xs++ys))))
def Vals.aDf {xs:List V}{us:List Value}(r:Vals xs us):us=[]↔xs=[]:=by
 cases r with
 |nil=>simp
 |cons _ _=>simp
def aU5:OpR X (binaryOp .Add) (bBl X.K):=by intro k s σ H x y v u Q I C j h;obtain⟨a,b,B,p,rfl,rfl,m,l,A,f,g,r⟩:=h;cases C;cases j;obtain⟨t,d,i,_⟩:=I.tuple m;obtain⟨e,c,n,_⟩:=I.tuple l;refine HT.aU9 i n (λz=>A (d.aDf.mp z)) (λz=>⟨.ref a,H,I,rfl,g (c.aDf.mp z)⟩) (λz=>?_) (by rw[<-d.length,<-c.length];exact f);refine⟨.ref s.heap.objs.size,_,I.laid (t':=s.toks) (o:=.tup (B++p)) (λb D q=>d7 _ q) (j5 _) ?_,rfl,r (λw=>z (c.aDf.mpr w)) _ (I.hok.fresh (j5 _))⟩;exact⟨by rw[bAD];exact f,_,d.append c,wZ.new _ _⟩
end
def ixN (n:Nat)(i:Int):Option Nat:=if 0<=i then (if i<n then some i.toNat else none) else if -(n:Int)<=i then some (i+n).toNat else none
def atI {α:Type}(xs:List α)(i:Int):Option α:=(ixN xs.length i).bind λj=>xs[j]?
def aL5 {n:Nat}{i:Int}{j:Nat}(h:ixN n i=some j):seqIndex? i n=some j/\j<n/\-(n:Int)<=i/\i<n:=by
 unfold ixN at h;by_cases b:0<=i
 ·rw[if_pos b] at h;by_cases a:i<n
  ·rw[if_pos a] at h;have e:i.toNat=j:=bAQ h;exact⟨by rw[seqIndex_of b a,e],by lia,by lia,a⟩
  ·rw[if_neg a] at h;cases h
 ·rw[if_neg b] at h;by_cases a:-(n:Int)<=i
  ·rw[if_pos a] at h;have e:(i+n).toNat=j:=bAQ h;exact⟨by rw[seqIndex_neg (by lia) a,e],by lia,a,by lia⟩
  ·rw[if_neg a] at h;cases h
def aMe {α:Type}{xs:List α}{i:Int}{v:α}(h:atI xs i=some v):∃j,seqIndex? i xs.length=some j/\xs[j]?=some v/\j<xs.length/\-(xs.length:Int)<=i/\i<xs.length:=by
 unfold atI at h;cases e:ixN xs.length i with
 |none=>rw[e] at h;cases h
 |some j=>rw[e] at h;obtain⟨a,c,d,b⟩:=aL5 e;exact⟨j,a,h,c,d,b⟩
def bV {α:Type}{xs:List α}{j:Nat}{v:α}(h:xs[j]?=some v):atI xs (j:Int)=some v:=by
 have a:j<xs.length:=(List.getElem?_eq_some_iff.mp h).1;have e:ixN xs.length (j:Int)=some j:=by unfold ixN;rw[if_pos (by lia),if_pos (by lia)];simp
 unfold atI;rw[e];exact h
def aDe (b:Expr):Prop:=∀o i,subscripted b false o i=operate [o,i] (getItem o i)
def IxR (X:Cx)(r:R2):Prop:=
 ∀(value slice:Expr) (bE8:bE6) (s:Shared) (σ:St) (H:Hp) (x y:V) (v u:Value) (Q:VK),Inv X bE8 σ H s->RelV x v->RelV y u->r x y H Q ->
  subscripted slice false v u=operate [v,u] (getItem v u)->wpAny (model X.prog X.w) X.A (subscriptTail value slice v u) (EP X bE8 σ Q) X.xe s
def MtR (X:Cx)(id:String)(r:V->List V->Hp->VK->Prop):Prop:=
 ∀(bE8:bE6) (s:Shared) (σ:St) (H:Hp) (x:V) (xs:List V) (v:Value) (us:List Value) (Q:VK),Inv X bE8 σ H s->RelV x v->Vals xs us->r x xs H Q ->
  wpAny (model X.prog X.w) X.A (call (.builtin id) (v::us)) (EP X bE8 σ Q) X.xe s
section
variable {X:Cx}{a b:Expr}{ta tb:TE}{pos:Pos}
def bAk {r:R2}(m:IxR X r)(k:PE X a ta)(j:PE X b tb)(l:aDe b):PE X (.Subscript a b pos) (tOp r ta tb):=by intro c s σ H Q I h;exact Subscript_ (aUq k j I h λv u f x y e g i d q=>m a b c f σ e x y v u Q g i d q (l _ _))
def aX9 (K:bE4):R2:=λx y H Q=>∃p xs i v,x=.ref p/\y=.int i/\SqL K H p xs/\atI xs i=some v/\Q v H
def bA2 (K:bE4):R2:=λx y H Q=>∃p xs i v,x=.ref p/\y=.int i/\SqT K H p xs/\atI xs i=some v/\Q v H
def bN:IxR X (aX9 X.K):=by
 intro d k a s σ H x y v u Q I E B h m;obtain⟨p,P,i,z,rfl,rfl,C,L,q⟩:=h;cases E;obtain⟨t,rfl⟩:=B;obtain⟨l,r,e,O⟩:=I.list C;obtain⟨j,c,G,M,J,D⟩:=aMe L;obtain⟨w,o,g⟩:=r.get G;have A:=r.length;have N:=yC;have b:EP X a σ Q w s:=⟨z,H,I,g,q⟩;by_cases n:0<=i
 ·have f:i.toNat=j:=by rw[seqIndex_of n D] at c;exact bAQ c
  exact item_listR e.isList n (by lia) (by rw[f];simpa using o) b m
 ·have f:(i+(l.toArray.size:Int)).toNat=j:=by rw[seqIndex_neg (by lia) J] at c;rw[j6,<-A];exact bAQ c
  exact subscriptTail_builtinR (x:=w) e.isList.typeIs slot_list_getitem.lookup
   (wpAny_getItem_list_neg (Q:=λr F=>r=w/\EP X a σ Q r F) e.isList (by lia) (by rw[j6] <;> lia) (by lia) (by rw[f];simpa using o) ⟨rfl,b⟩) m
def cD:IxR X (bA2 X.K):=by
 intro b e a s σ H x y v u Q I n k h m;obtain⟨p,N,i,z,rfl,rfl,l,D,q⟩:=h;cases n;obtain⟨t,rfl⟩:=k;obtain⟨E,r,f,M⟩:=I.tuple l;obtain⟨j,B,A,G,L,F⟩:=aMe D;obtain⟨w,C,c⟩:=r.get A;have g:=r.length;have J:=yC;have d:EP X a σ Q w s:=⟨z,H,I,c,q⟩;exact subscriptTail_builtinR (x:=w) f.typeIs slot_tuple_getitem.lookup
  (getItem_tuple (j:=j) (Q:=λr o=>r=w/\EP X a σ Q r o) f (by lia) (by lia) (by rw[j6,<-g];exact B) (by simpa using C) ⟨rfl,d⟩) m
def aJ9 (its:List Value)(n j:Nat)(u:Value):Obj.mapSeq (·.setIfInBounds j u) { cls:=.type "list",data:=.seq its.toArray n }={ cls:=.type "list",data:=.seq (its.set j u).toArray n }:=by simp[Obj.mapSeq]
def Inv.lst {bE8:bE6}{σ:St}{H:Hp}{s:Shared}{p:Addr}{xs:List V}(I:Inv X bE8 σ H s)(h:H p=some (.lst xs)) :
  ∃(its:List Value) (n:Nat),Vals xs its/\s.heap.get? p=some { cls:=.type "list",data:=.seq its.toArray n }/\xs.length<=sizeLine:=by
 obtain⟨z,its,n,r,e⟩:=I.hok p _ h;exact⟨its,n,r,e,z⟩
def Inv.aXx {bE8:bE6}{σ:St}{H:Hp}{s:Shared}{p:Addr}{xs ys:List V}{its its':List Value}{n a:Nat}{f:Obj->Obj}(I:Inv X bE8 σ H s)(h:H p=some (.lst xs))
  (g:s.heap.get? p=some { cls:=.type "list",data:=.seq its.toArray n }) (c:f { cls:=.type "list",data:=.seq its.toArray n }={ cls:=.type "list",data:=.seq its'.toArray a }) (r:Vals ys its') (hz:ys.length<=sizeLine) (t:Nat) :
  Inv X bE8 σ (upd H p (.lst ys)) { s with heap:=s.heap.update p f,toks:=t }:=by
 have e:(s.heap.update p f).get? p=some { cls:=.type "list",data:=.seq its'.toArray a }:=by rw[bAU f g (by rw[c] <;> rfl),c]
 refine I.write (x:=p) (e:=p) (by rw[h];trivial) (.inl rfl) (λb u d q=>(bBE _ _ (Ne.symm d)).trans q) ⟨_,e⟩ ?_;exact⟨hz,its',a,r,e⟩
def bAd:V->V->V->Hp->(Hp->Prop)->Prop:=λo i v H Q=>∃p xs k j,o=.ref p/\i=.int k/\H p=some (.lst xs)/\ixN xs.length k=some j/\Q (upd H p (.lst (xs.set j v)))
def set_list:aYl X bAd:=by
 intro f s σ H o i v E F u Q I B z y h;obtain⟨p,D,k,j,rfl,rfl,x,A,q⟩:=h;cases B;obtain⟨t,rfl⟩:=z;obtain⟨a,n,r,e,C⟩:=I.lst x;obtain⟨b,G,l,w⟩:=aL5 A;have c:=r.length;have J:=yC;have m:Inv X f σ (upd H p (.lst (D.set j v))) { s with heap:=s.heap.update p (Obj.mapSeq (·.setIfInBounds j u)) }:=
  I.aXx x e (aJ9 a n j u) (r.set y j) (by rw[List.length_set];exact C) s.toks
 by_cases g:0<=k
 ·have d:k.toNat=j:=by rw[seqIndex_of g w] at b;exact bAQ b
  exact PySem.W.ki_setAt e g (by lia) (by rw[j6,<-c];exact w) (by rw[d];exact⟨_,m,q⟩)
 ·have d:(k+(a.toArray.size:Int)).toNat=j:=by rw[seqIndex_neg (by lia) l] at b;rw[j6,<-c];exact bAQ b
  exact PySem.W.ki_setBack e (by lia) (by rw[j6,<-c];exact l) (by lia) (by rw[d];exact⟨_,m,q⟩)
def aFd (b a:Option Int)(n:Nat):(sliceBounds b a none n).1=((HT.sIx n 0 b:Nat):Int)/\(sliceBounds b a none n).2.1=((HT.sIx n n a:Nat):Int)/\(sliceBounds b a none n).2.2=1:=by
 refine⟨?_,?_,rfl⟩
 ·cases b with
  |none=>simp[sliceBounds,HT.sIx]
  |some i=>
   simp only[sliceBounds,HT.sIx,Option.getD_none,show (1:Int) > 0 by decide,if_true];by_cases h:i<0
   ·simp only[h,if_true] <;> lia
   ·simp only[h,if_false] <;> lia
 ·cases a with
  |none=>simp[sliceBounds,HT.sIx]
  |some i=>
   simp only[sliceBounds,HT.sIx,Option.getD_none,show (1:Int) > 0 by decide,if_true];by_cases h:i<0
   ·simp only[h,if_true] <;> lia
   ·simp only[h,if_false] <;> lia
def aBd (its:List Value)(e d:Option Int):slicePick its.toArray e d none=((its.drop (HT.sIx its.length 0 e)).take (HT.sIx its.length its.length d - HT.sIx its.length 0 e)).toArray:=by obtain⟨a,b,c⟩:=aFd e d its.toArray.size;unfold slicePick;rw[a,b,c];simp only[sliceRange_one,pick_run,j6] <;> rfl
def bBy (K:bE4):V->Option Int->Option Int->Hp->VK->Prop:=λx lo hi H Q=>∃a xs,x=.ref a/\SqL K H a xs/\∀p,H p=none->Q (.ref p) (upd H p (.lst (uZ xs lo hi)))
def aTp:SlR X (bBy X.K):=by intro k s σ H x v u w e f z Q I j n i m h;obtain⟨a,c,rfl,l,q⟩:=h;cases j;obtain⟨t,r,g,p⟩:=I.list l;have d:=r.length;refine⟨"list",_,slot_list_getitem.lookup,g.isList.typeIs,?_⟩;refine wpAny_getItem_list_slice g.isList n i m .none (by simp) ?_ (by rw[j6] <;> lia);rw[aBd,<-d];refine⟨.ref s.heap.objs.size,_,I.laid (t':=s.toks) (o:=.lst (uZ c e f)) (λb y q=>d7 _ q) (j5 _) ?_,rfl,q _ (I.hok.fresh (j5 _))⟩;exact⟨bAJ (wB c e f) p,_,0,(r.drop (HT.sIx c.length 0 e)).take (HT.sIx c.length c.length f - HT.sIx c.length 0 e),j4 _ rfl⟩
def iH:V->Bool
 |.non=>true
 |.bl _=>true
 |.int _=>true
 |.str _=>true
 |_=>false
def eqV:V->V->Bool
 |.non,.non=>true
 |.bl a,.bl b=>a == b
 |.bl a,.int b=>(if a then 1 else 0) == b
 |.int a,.bl b=>a == (if b then 1 else 0)
 |.int a,.int b=>a == b
 |.str a,.str b=>a == b
 |_,_=>false
def aYa {A:Around}{s:Shared}{y x:V}{u v:Value}(f:RelV y u)(c:RelV x v)(g:iH y=true)(e:iH x=true):SeqAt.EqAt A s u v (eqV y x):=by
 cases y with
 |non=>
  cases f;cases x with
  |non=>cases c;exact bC1 _
  |bl b=>cases c;exact SeqAt.EqAt.none_bool b
  |int b=>obtain⟨t,rfl⟩:=c;exact SeqAt.EqAt.none_int b t
  |str b=>obtain⟨t,rfl⟩:=c;exact SeqAt.EqAt.none_str b t
  |_=>exact absurd (show false=true from e) m7
 |bl a=>
  cases f;cases x with
  |non=>cases c;exact SeqAt.EqAt.bool_none a
  |bl b=>cases c;exact SeqAt.EqAt.bool_bool a b
  |int b=>obtain⟨t,rfl⟩:=c;exact SeqAt.EqAt.bool_int a b t
  |str b=>obtain⟨t,rfl⟩:=c;exact SeqAt.EqAt.bool_str a b t
  |_=>exact absurd (show false=true from e) m7
 |int a=>
  obtain⟨d,rfl⟩:=f;cases x with
  |non=>cases c;exact SeqAt.EqAt.int_none a d
  |bl b=>cases c;exact SeqAt.EqAt.int_bool a d b
  |int b=>obtain⟨t,rfl⟩:=c;exact bEQ a d b t
  |str b=>obtain⟨t,rfl⟩:=c;exact SeqAt.EqAt.int_str a d b t
  |_=>exact absurd (show false=true from e) m7
 |str a=>
  obtain⟨d,rfl⟩:=f;cases x with
  |non=>cases c;exact SeqAt.EqAt.str_none a d
  |bl b=>cases c;exact SeqAt.EqAt.str_bool a d b
  |int b=>obtain⟨t,rfl⟩:=c;exact SeqAt.EqAt.str_int a d b t
  |str b=>obtain⟨t,rfl⟩:=c;exact bD1 a d b t
  |_=>exact absurd (show false=true from e) m7
 |_=>exact absurd (show false=true from g) m7
def eqU (x:V)(u:Value):Bool:=match u with
 |.none=>eqV .non x
 |.bool b=>eqV (.bl b) x
 |.int i _=>eqV (.int i) x
 |.str z _=>eqV (.str z) x
 |_=>false
def aSr {x y:V}{u:Value}(r:RelV y u)(f:iH y=true):eqU x u=eqV y x:=by
 cases y with
 |non=>cases r;rfl
 |bl b=>cases r;rfl
 |int i=>obtain⟨t,rfl⟩:=r;rfl
 |str z=>obtain⟨t,rfl⟩:=r;rfl
 |_=>exact absurd (show false=true from f) m7
theorem tY {x:V}:∀{xs:List V} {us:List Value},Vals xs us->xs.all iH=true->us.any (eqU x)=xs.any λy=>eqV y x
 |_,_,.nil,_=>rfl
 |y::xs,u::us,.cons r t,f=>by rw[bBS,bAB] at f;rw[bED,bED,aSr r f.1,tY t f.2]
theorem mU {A:Around}{s:Shared}{x:V}{v:Value}(c:RelV x v)(b:iH x=true):∀{xs:List V} {us:List Value},Vals xs us->xs.all iH=true->∀u∈us,SeqAt.EqAt A s u v (eqU x u)
 |_,_,.nil,_=>λu hu=>by cases hu
 |y::xs,u::us,.cons r t,f=>λa hu=>by
  rw[bBS,bAB] at f;rcases List.mem_cons.mp hu with rfl|hu
  ·rw[aSr r f.1];exact aYa r c f.1 b
  ·exact mU c b t f.2 a hu
def inV (x:V)(xs:List V):Bool:=xs.any λy=>eqV y x
def rIn (K:bE4)(neg:Bool):R2:=λx y H Q=>∃p xs,y=.ref p/\(SqL K H p xs\/SqT K H p xs)/\iH x=true/\xs.all iH=true/\Q (.bl (if neg then !inV x xs else inV x xs)) H
def vJ:OpR X (compareOp .In) (rIn X.K false):=by
 intro i s σ H x y v u Q I f g h;obtain⟨p,k,rfl,hq,e,b,q⟩:=h;cases g;rcases hq with hq|hq
 ·obtain⟨a,r,c,j⟩:=I.list hq;refine SeqAt.in_listAt (eqU x) c.isList (λw d=>mU f e r b w (by simpa using d)) ⟨.bl _,H,I,rfl,?_⟩;rw[show a.toArray.any (eqU x)=a.any (eqU x) by simp,tY r b];exact q
 ·obtain⟨a,r,c,j⟩:=I.tuple hq;refine SeqAt.in_tupleAt (eqU x) c (λw d=>mU f e r b w (by simpa using d)) ⟨.bl _,H,I,rfl,?_⟩;rw[show a.toArray.any (eqU x)=a.any (eqU x) by simp,tY r b];exact q
def rY:OpR X (compareOp .NotIn) (rIn X.K true):=by
 intro i s σ H x y v u Q I f g h;obtain⟨p,k,rfl,hq,e,b,q⟩:=h;cases g;rcases hq with hq|hq
 ·obtain⟨a,r,c,j⟩:=I.list hq;refine SeqAt.notIn_listAt (eqU x) c.isList (λw d=>mU f e r b w (by simpa using d)) ⟨.bl _,H,I,rfl,?_⟩;rw[show a.toArray.any (eqU x)=a.any (eqU x) by simp,tY r b];exact q
 ·obtain⟨a,r,c,j⟩:=I.tuple hq;refine SeqAt.notIn_tupleAt (eqU x) c (λw d=>mU f e r b w (by simpa using d)) ⟨.bl _,H,I,rfl,?_⟩;rw[show a.toArray.any (eqU x)=a.any (eqU x) by simp,tY r b];exact q
def bM:bR X (.builtin "len") (λxs H Q=>∃p ys,xs=[.ref p]/\(SqL X.K H p ys\/SqT X.K H p ys)/\Q (.int ys.length) H):=by
 intro f s σ H xs j Q I r h;obtain⟨p,ys,rfl,hq,q⟩:=h;obtain⟨u,rfl,e⟩:=vals1 r;cases e;have i:=yC;rcases hq with hq|hq
 ·obtain⟨d,c,b,g⟩:=I.list hq;have a:=c.length;exact Calls.call_len_list b.isList (by simp only[j6] <;> lia) ⟨.int ys.length,H,I.tok _,⟨s.toks+1,by rw[j6,a]⟩,q⟩
 ·obtain⟨d,c,b,g⟩:=I.tuple hq;have a:=c.length;exact len_tuple b (by simp only[j6] <;> lia) ⟨.int ys.length,H,I.tok _,⟨s.toks+1,by rw[j6,a]⟩,q⟩
def sV:bR X (.builtin "len") (λxs H Q=>∃z,xs=[.str z]/\z.length<=sizeLine/\Q (.int z.length) H):=by intro a s σ H xs c Q I r h;obtain⟨z,rfl,d,q⟩:=h;obtain⟨u,rfl,t,rfl⟩:=vals1 r;have b:=yC;exact len_str (by lia) ⟨.int z.length,H,I.tok _,⟨_,rfl⟩,q⟩
def bR.or {f:Value}{r r':List V->Hp->VK->Prop}(h:bR X f r)(h':bR X f r'):bR X f (λxs H Q=>r xs H Q\/r' xs H Q):=by
 intro a s σ H xs b Q I c q;rcases q with q|q
 ·exact h a s σ H xs b Q I c q
 ·exact h' a s σ H xs b Q I c q
def aE8:bR X (.type "list") (λxs H Q=>∃p ys,xs=[.ref p]/\(SqL X.K H p ys\/SqT X.K H p ys)/\∀l,H l=none->Q (.ref l) (upd H l (.lst ys))):=by
 intro t s σ H xs A Q I r h;obtain⟨p,ys,rfl,hq,q⟩:=h;obtain⟨u,rfl,z⟩:=vals1 r;cases z;have j:∀(a:List Value),Vals ys a->ys.length<=sizeLine->∀(c:Heap) (d:Nat),(∀b o',s.heap.get? b=some o'->c.get? b=some o') ->
   c.get? s.heap.objs.size=some { cls:=.type "list",dict:=none,data:=.seq a.toArray d,slots:=#[] }->EP X t σ Q (.ref s.heap.objs.size) { s with heap:=c }:=λa f k c d i e=>
  ⟨.ref s.heap.objs.size,_,I.laid (t':=s.toks) i (j5 _) (show cM X.prog X.w _ c _ (.lst ys) from ⟨k,a,d,f,e⟩),rfl,q _ (I.hok.fresh (j5 _))⟩
 rcases hq with hq|hq
 ·obtain⟨a,f,x,k⟩:=I.list hq;have g:=f.length;obtain⟨o,m,v,n,y⟩:=x.isList;exact call_list_seq p (.inl rfl) m v y (λc d i e=>j a f k c d i e) (by simp only[j6] <;> lia)
 ·obtain⟨a,f,x,k⟩:=I.tuple hq;have g:=f.length;obtain⟨o,m,v,n,y⟩:=x;exact call_list_seq p (.inr rfl) m v y (λc d i e=>j a f k c d i e) (by simp only[j6] <;> lia)
def aBg:bR X (.type "tuple") (λxs H Q=>∃p ys,xs=[.ref p]/\((SqL X.K H p ys/\∀l,H l=none->Q (.ref l) (upd H l (.tup ys)))\/(SqT X.K H p ys/\Q (.ref p) H))):=by
 intro c s σ H xs x Q I r h;obtain⟨p,ys,rfl,h⟩:=h;obtain⟨u,rfl,n⟩:=vals1 r;cases n;rcases h with⟨i,q⟩|⟨i,q⟩
 ·obtain⟨a,g,f,m⟩:=I.list i;have j:=g.length;refine call_tuple_list f.isList (λd v=>?_) (by simp only[j6] <;> lia);have k:Inv X c σ H { s with heap:=d }:=I.kept (t':=s.toks) v;have t:Inv X c σ (upd H d.objs.size (.tup ys)) { s with heap:=d.push { cls:=.type "tuple",data:=.seq a.toArray } }:=
   k.laid (t':=s.toks) (λb o e=>d7 _ e) (j5 _) (show cM X.prog X.w _ _ _ (.tup ys) from ⟨m,a,g,wZ.new _ _⟩)
  exact⟨.ref d.objs.size,_,t,rfl,q _ (k.hok.fresh (j5 _))⟩
 ·obtain⟨a,g,f,m⟩:=I.tuple i;exact call_tuple_same f ⟨.ref p,H,I,rfl,q⟩
def tyV (K:bE4)(T:String)(x:V)(H:Hp):Prop:=match x with
 |.str _=>T = "str"
 |.int _=>T = "int"
 |.ref p=>(T = "list"/\∃xs,SqL K H p xs)\/(T = "tuple"/\∃o,K.lookup p=some o/\o.cls=.type "tuple"/\o.dict=none) \/
   (T = "dict"/\((∃kvs,H p=some (.dK kvs))\/∃kvs,H p=some (.dT kvs)))\/(T = "set"/\∃S n,H p=some (.set S n))
 |_=>False
def aEw {bE8:bE6}{σ:St}{H:Hp}{s:Shared}{T:String}{x:V}{v:Value}(I:Inv X bE8 σ H s)(r:RelV x v)(h:tyV X.K T x H) :
  s.TypeIs v T/\∀a,v=.ref a->∃ob,s.heap.get? a=some ob/\ob.dict=none:=by
 cases x with
 |str z=>obtain⟨t,rfl⟩:=r;cases (show T = "str" from h);exact⟨typeIs_str s z t,λ_ e=>nomatch e⟩
 |int i=>obtain⟨t,rfl⟩:=r;cases (show T = "int" from h);exact⟨typeIs_int s i t,λ_ e=>nomatch e⟩
 |ref p=>
  cases r;rcases h with⟨rfl,q,l⟩|⟨rfl,o,b,hc,g⟩|⟨rfl,b⟩|⟨rfl,S,n,b⟩
  ·obtain⟨m,_,k,_⟩:=I.list l;refine⟨k.isList.typeIs,λa e=>?_⟩;cases e;obtain⟨o,n,e,c,g,_⟩:=k;exact⟨o,e,g⟩
  ·refine⟨⟨o,I.kIn p o b,hc⟩,λa e=>?_⟩;cases e;exact⟨o,I.kIn _ o b,g⟩
  ·have z:∃o,s.heap.get? p=some o/\o.ExactDict:=by
    rcases b with⟨j,b⟩|⟨j,b⟩
    ·obtain⟨_,_,_,_,o,_,_,e,d,_⟩:=I.hok p _ b;exact⟨o,e,d⟩
    ·obtain⟨_,_,_,_,o,_,_,e,d,_⟩:=I.hok p _ b;exact⟨o,e,d⟩
   obtain⟨o,e,d⟩:=z;refine⟨⟨o,e,d.1⟩,λa f=>?_⟩;cases f;exact⟨o,e,d.2.1⟩
  ·obtain⟨o,_,_,_,e,d,_⟩:=I.hok p _ b;refine⟨⟨o,e,d.1⟩,λa f=>?_⟩;cases f;exact⟨o,e,d.2.1⟩
 |_=>exact False.elim h
def bBm (K:bE4)(T:String)(r:V->List V->Hp->VK->Prop)(to:TE):TE:=fun σ H Q=>to σ H λx H1=>tyV K T x H1/\r x [] H1 Q
def tBM (K:bE4)(T:String)(r:V->List V->Hp->VK->Prop)(to:TE)(t:TA):TE:=fun σ H Q=>to σ H λx H1=>tyV K T x H1/\t σ H1 λxs H2=>r x xs H2 Q
variable {o e:Expr}{es:List Expr}{to:TE}{t:TA}{name:Str}{apos cpos:Pos}{T id:String}{r:V->List V->Hp->VK->Prop}
def aZy (n:PlainAttrs T)(slot:Slot T name id)(k:typeOf (.builtin id)=pure (.type "method_descriptor"))(q:MtR X id r)(p:PE X o to)
  (b:attributeBase o name X.env (eval o X.env)=eval o X.env:=by rfl) (c:(apos.endLine == cpos.line)=true:=by rfl):PE X (.Call (.Attribute o name apos) [] [] cpos) (bBm X.K T r to):=by
 intro a s σ H Q I h;refine bD2 b c (thn (p a s σ H _ I h) λv g ⟨x,i,d,e,l,f⟩=>?_);obtain⟨m,j⟩:=aEw d e l;exact⟨T,id,n,slot,k,m,j,bDF rfl (PySem.evalArgs_none (q a g σ i x [] v [] Q d e .nil f))⟩
def bBj (E:PlainAttrs T)(slot:Slot T name id)(u:typeOf (.builtin id)=pure (.type "method_descriptor"))(L:MtR X id r)(F:PE X o to)(G:PA X (e::es) t)
  (c:attributeBase o name X.env (eval o X.env)=eval o X.env:=by rfl)
  (i:((backTo cpos (starEach (e::es) X.env)).all (λx=>!x.1) && (backToKw cpos (keywordEach [] X.env)).all (λx=>x.1.isSome)
   && decide ((e::es).length+([]:List Keyword).length+(if ([]:List Keyword).isEmpty then 0 else 1)<30))=true:=by rfl)
  (d:(apos.endLine == cpos.line)=true:=by rfl) (J:starEach (e::es) X.env=(false,eval e X.env)::starEach es X.env:=by rfl) (b:(backTo cpos (starEach es X.env)).any (·.1)=false:=by rfl) :
  PE X (.Call (.Attribute o name apos) (e::es) [] cpos) (tBM X.K T r to t):=by
 intro a s σ H Q I h;refine wpAny_Call_method_late c i d rfl (thn (F a s σ H _ I h) λv n ⟨x,p,f,g,w,k⟩=>?_);obtain⟨z,q⟩:=aEw f g w;refine⟨T,id,E,slot,u,z,q,?_⟩;have j:=G cpos a n σ p _ f k;rw[J] at j ⊢;refine bDF (by show (false || (backTo cpos (starEach es X.env)).any (·.1))=false;rw[b] <;> rfl) (Calls.evalArgs_plain ?_);exact thn j λC y ⟨B,l,A,m,D⟩=>L a y σ l x B v C Q A g m D
end
def MtM (X:Cx)(id:String)(r:V->List V->Hp->VK->Prop):Prop:=
 ∀(bE8:bE6) (s:Shared) (σ:St) (H:Hp) (x:V) (xs:List V) (v:Value) (us:List Value) (Q:VK),Inv X bE8 σ H s->RelV x v->Vals xs us->r x xs H Q ->
  wpAny (model X.prog X.w) X.A (call (.builtin id) (v::us)) (EP X bE8 σ Q) X.xe s
theorem Vals.one:∀{x:V} {us:List Value},Vals [x] us->∃u,us=[u]/\RelV x u
 |_,_,.cons r .nil=>⟨_,rfl,r⟩
theorem Vals.two:∀{x y:V} {us:List Value},Vals [x,y] us->∃u v,us=[u,v]/\RelV x u/\RelV y v
 |_,_,_,.cons r t=>let ⟨_,e,q⟩:=Vals.one t;⟨_,_,e ▸ rfl,r,q⟩
theorem Vals.zero:∀{us:List Value},Vals [] us->us=[]
 |_,.nil=>rfl
def Vals.reverse {xs:List V}{us:List Value}(h:Vals xs us):Vals xs.reverse us.reverse:=by
 induction h with
 |nil=>exact .nil
 |cons r t ih=>rw[List.reverse_cons,List.reverse_cons];exact Vals.append ih (.cons r .nil)
section
variable {X:Cx}{bE8:bE6}{σ:St}{H:Hp}{s:Shared}{l b:Addr}{xs ys zs:List V}
def Inv.lset {its its':List Value}{n:Nat}{f:Array Value->Array Value}{t':Nat}(I:Inv X bE8 σ H s)(c:H l=some (.lst xs))
  (e:s.heap.get? l=some { cls:=.type "list",data:=.seq its.toArray n }) (d:f its.toArray=its'.toArray) (h:Vals ys its') (hz:ys.length<=sizeLine) :
  Inv X bE8 σ (upd H l (.lst ys)) { s with heap:=s.heap.update l (Obj.mapSeq f),toks:=t' }:=by
 have q:=PySem.IsL.update e f;rw[d] at q;refine I.write (x:=l) (e:=l) (by rw[c];exact trivial) (.inl rfl) (λg u b a=>(bBE s.heap (Obj.mapSeq f) (Ne.symm b)).trans a) ⟨_,q⟩ ?_;exact⟨hz,its',_,h,q⟩
def Inv.lnew {its:List Value}{t':Nat}(I:Inv X bE8 σ H s)(a:Vals ys its)(hz:ys.length<=sizeLine) :
  Inv X bE8 σ (upd H s.heap.objs.size (.lst ys)) { s with heap:=s.heap.push { cls:=.type "list",data:=.seq its.toArray },toks:=t' }:=
 I.laid (λ_ _ q=>d7 _ q) (j5 _) ⟨hz,its,0,a,j4 _ rfl⟩
def Inv.fresh (I:Inv X bE8 σ H s):H s.heap.objs.size=none:=I.hok.fresh (j5 _)
def Inv.aUo (I:Inv X bE8 σ H s)(a:H l=some (.lst xs)):xs.length<=sizeLine/\∃(its:List Value) (n:Nat),Vals xs its/\xs.length=its.length/\s.heap.get? l=some { cls:=.type "list",data:=.seq its.toArray n }:=by obtain⟨z,its,n,r,e⟩:=I.hok l _ a;exact⟨z,its,n,r,r.length,e⟩
end
section
variable {X:Cx}
def aMq:V->List V->Hp->VK->Prop:=λx vs H Q=>∃l xs y,x=.ref l/\vs=[y]/\H l=some (.lst xs)/\xs.length<sizeLine/\Q .non (upd H l (.lst (xs++[y])))
def aCc:MtM X "list.append" aMq:=by intro f s σ H x j v k Q I d c h;obtain⟨l,o,y,rfl,rfl,b,m,q⟩:=h;cases d;obtain⟨u,rfl,g⟩:=c.one;obtain⟨z,a,n,r,i,e⟩:=I.aUo b;refine call_meets F.slot_list_append ⟨_,e,rfl⟩ F.entry_list_append (F.args_list_append_2 _ _) (PySem.list_append l a.toArray n u (by rw[j6];lia)) ⟨e,?_⟩;refine⟨.non,_,I.lset (its':=a++[u]) b e (by simp) (r.append (.cons g .nil)) ?_,rfl,q⟩;rw[bAD,bD8];lia
def aH4:V->List V->Hp->VK->Prop:=λx vs H Q=>∃l xs,x=.ref l/\vs=[]/\H l=some (.lst xs)/\Q .non (upd H l (.lst xs.reverse))
def aK9:MtM X "list.reverse" aH4:=by intro g s σ H x j v k Q I f d h;obtain⟨l,m,rfl,rfl,c,q⟩:=h;cases f;have b:=d.zero;subst b;obtain⟨z,a,n,r,i,e⟩:=I.aUo c;refine call_meets F.slot_list_reverse ⟨_,e,rfl⟩ F.entry_list_reverse (F.args_list_reverse_1 _) (AutoSeq1.list_reverse_list_0 l a.toArray n (by rw[j6];lia)) ⟨e,?_⟩;refine⟨.non,_,I.lset (its':=a.reverse) c e (by simp) r.reverse ?_,rfl,q⟩;rw[List.length_reverse];lia
def bCb:R2:=λx y H Q=>∃l b xs zs,x=.ref l/\y=.ref b/\H l=some (.lst xs)/\H b=some (.lst zs)/\xs.length+zs.length<=sizeLine/\∀p,H p=none->Q (.ref p) (upd H p (.lst (xs++zs)))
def aYz:OpR X (binaryOp .Add) bCb:=by
 intro g s σ H x y v u Q I p f h;obtain⟨l,b,w,B,rfl,rfl,d,i,C,q⟩:=h;cases p;cases f;obtain⟨z,c,n,r,t,e⟩:=I.aUo d;obtain⟨A,a,D,k,o,m⟩:=I.aUo i;refine PySem.P.add_list e m ?_ (by rw[j6,j6];lia);have j:c.toArray++a.toArray=(c++a).toArray:=by simp
 rw[j];exact⟨.ref _,_,I.lnew (t':=s.toks) (r.append k) (by rw[bAD];lia),rfl,q _ I.fresh⟩
end
section
variable {prog:Program}{w:World}{A:Around}{E:bE5}{s:Shared}
end
section
variable {X:Cx}
end
end L2
namespace Att
open PySem PySem.W PySem.Calls PyProof.Rows
def xM {P:Params}{h:Heap}:∀(ns:List Int) (vs:List Value),WellAll P h vs (ns.map WData.int)->IntsAre vs ns:=by
 intro ns
 induction ns with
 |nil=>intro vs w;rw[List.map_nil] at w;cases w;exact .nil
 |cons n ns ih=>
  intro vs w;rw[bAC] at w;cases w with
  |cons a b=>cases a;exact .cons _ _ (ih _ b)
def aOp {l:OpenLaw}{n:Nat}(s:l.most=some n){P:Params}{h:Heap}{args:List WData}{vals:List Value}
  (c:l.row.toRowW.claim.pre args=true) (j:WellAll P h vals args) :
  ∃a vs ns,vals=[Value.ref a]/\args=[WData.list (ns.map WData.int)]/\h.get? a=some { cls:=.type "list",data:=.seq vs.toArray }/\IntsAre vs ns/\ns.length<=n:=by
 have g:WShape.hasAll [] args [.list .int]=true:=(pre_splitW c).1;have i:l.pre.holds [] { args:=args }=true:=(pre_splitW c).2;obtain⟨d,r,rfl,p,k⟩:=hasAllW_cons g;obtain rfl:=hasAllW_nil k;obtain⟨t,rfl,m⟩:=hasW_list p;obtain⟨ns,rfl⟩:=items_int m;have b:ns.length<=n:=by
  unfold OpenLaw.pre at i;have e:(WTm.not (.lt (.lit (.int (n:Int))) (.len (.arg 0)))).holds [] { args:=[.list (ns.map .int)] }=true:=by have e:=(holds_andW i).1;rw[s] at e;exact e
  have f:=condW_of e (w_not (w_lt w_lit (w_len_list (w_arg rfl))));rw[j0] at f;refine Nat.le_of_not_lt λq=>?_;have o:(n:Int)<((ns.length:Nat):Int):=by lia
  first
   |(rw[m8 o] at f;exact absurd f (by decide))
   |(simp at f;lia)
 cases j with
 |cons w1 w2=>
  cases w2;cases w1 with
  |list ho hall=>exact⟨_,_,ns,rfl,rfl,ho,xM ns _ hall,b⟩
def aOe (l:OpenLaw)(args:List WData):l.row.toRowW.claim.post args (.bool true) args=true:=
 postW_of (r:=l.row.toRowW) (X:=(true == true))
  (show WShape.has [] (.bool true) .bool=true by first|rfl|decide|simp[WShape.has,WShape.arms,WShape.armsAll])
  (show (WTm.eq .res (.lit (.bool true))).value [] { args:=args,res:=some (.bool true),after:=args }=some (.bool (true == true)) from w_eq_bool (w_res rfl) w_lit) rfl
def aGa {l:OpenLaw}{n:Nat}{q:Program}{loose:List Str}{XP:(bE7)->Heap->Prop}{YP:World->Heap->Prop}{d:DefRec}
  (J:l.most=some n) (y:d.params.defaults=[])
  (p:∀(w:World) (s₀ s₁:Shared) (mg mb:bE7) (fa:Addr) (o:Obj) (pm cd doc:Value) (a:Addr) (vs:List Value) (ns:List Int),
   Ground q loose [] XP w s₀ mg mb s₁.heap->YP w s₁.heap ->
   s₁.heap.get? fa=some o->o.data=.func (docDef d.name d.params d.body d.scope pm cd doc)->s₁.heap.CodeRec cd d.name->mg d.name=some (.ref fa) ->
   s₁.heap.get? a=some { cls:=.type "list",data:=.seq vs.toArray }->IntsAre vs ns->ns.length<=n->s₁.gens=#[] ->
   codeAny (model l.prog w) callerA (.call (.ref fa) ⟨[.ref a],[]⟩) (λr s'=>r=.ok (.ret (.bool true))/\OldK s₁.heap s'.heap/\s'.os=s₁.os/\AllBare s'.gens) s₁) :
  WalkO q loose XP YP l.row.toRowW d [] (λf vs=>PySem.call f vs):=by
 intro w s₀ s₁ mg mb G Y fa o pm cd doc H kV v E j k h u m t I e s B i A;obtain rfl:H=.none:=Dflts.none k y;obtain rfl:kV=.none:=Dflts.noKw k;obtain⟨a,vs,ns,rfl,rfl,g,b,c⟩:=aOp J e i;refine enter_call (bCA (p w s₀ s₁ mg mb fa o pm cd doc a vs ns G Y v (fd_plain E) j h g b c u) λr s' x=>?_);obtain⟨rfl,C,D,F⟩:=x;exact⟨.inl ⟨.bool true,.bool true,[],rfl,λ_=>rfl,.bool true,aOe l _,λ_=>⟨List.Pairwise.nil,λ_ z=>(nomatch z)⟩⟩,C,D,F⟩
section
variable {prog:Program}{w:World}{A:Around}{E:bE5}{s:Shared}{K:Frag}
end
end Att
namespace L2
open PySem PySem.Spec PyProof.Rows
theorem aCe:∀{vs:List Value} {ns:List Int},IntsAre vs ns->Vals (ns.map V.int) vs
 |_,_,.nil=>.nil
 |_,_,.cons n t h=>.cons ⟨t,rfl⟩ (aCe h)
abbrev KOf {K:bE4}{h:Heap}(_:K.In h):bE4:=K
def iI (s:Stmt):Arguments:=match s with
 |.FunctionDef _ a _ _ _ _ _ _ _ _=>a
 |_=>{ posonlyargs:=[],args:=[],vararg:=none,kwonlyargs:=[],kw_defaults:=[],kwarg:=none,defaults:=[] }
def cQ (s:Stmt):List Stmt:=match s with
 |.FunctionDef _ _ b _ _ _ _ _ _ _=>b
 |_=>[]
def aD (s:Stmt):Scope:=match s with
 |.FunctionDef _ _ _ _ _ _ sc _ _ _=>sc
 |_=>{ kind:=.function,names:=[],isGenerator:=false,isCoroutine:=false }
abbrev CX0:CXT:=λ_ _ _ _ _ _=>False
abbrev E0:XK:=λ_ _ _=>False
def aB7 {X:Cx}:jV CX0 X E0:=λ_ _ _ _ _ _ _ h=>h.elim
structure Fun (K:bE4)(x qual:Str)(st:Stmt)(f:Addr)(fd:FuncData):Prop where
 ex:∃(oc:Value) (od:Option Addr) (kV doc pm:Value) (an:Option Addr) (cdv ct:Value) (osl:Array (Option Value)),
  fd=PySem.W.fnOf x qual (iI st) (cQ st) (aD st) .none kV doc pm an cdv ct/\K.lookup f=some ⟨oc,od,.func fd,osl⟩/\PySem.W.codeIn K cdv qual=true
 kp:PySem.W.keepIn K (.ref f)=true
section
variable {P:Program}{w:World}{K:bE4}{mg:bE7}{base:Heap}
def Fun.ok {x qual:Str}{st:Stmt}{f:Addr}{fd:FuncData}{N ps:List Str}{k:Nat}{sp:Sp}(F:Fun K x qual st f fd)(S:aN N ps (aD st))(d:∀vs H Q E,sp vs H Q E->vs.length=ps.length)
  (a:∀(cdv:Value) (A:Around) (outer:List Env) (s:Shared) (H:Hp) (vs:List V) (Q:VK) (E:XK),Room k (A.deeper (envOfC qual (aD st) s.heap.objs.size f cdv))->sp vs H Q E ->
   ∃t,PSs (qK CX0 P w K mg base N qual (aD st) f cdv A outer s H E).nox (cQ st) t/\t { nx:=λ_ H'=>Q .non H',rt:=Q } (start N vs) H):dW P w K mg base CX0 (k+1) f fd ps sp:=by
 obtain⟨n,m,kV,e,o,l,cdv,p,j,rfl,g,c⟩:=F.ex;refine aLo g c S d λA outer s H vs Q E i b=>?_;obtain⟨t,h,q⟩:=a cdv A outer s H vs Q E i b;exact⟨t,h.nox,q⟩
def Fun.binds {x qual:Str}{st:Stmt}{f:Addr}{fd:FuncData}{ps:List Str}(F:Fun K x qual st f fd)
  (h:∀(kV doc pm:Value) (an:Option Addr) (cdv ct:Value) (us:List Value),us.length=ps.length->bindArgs (PySem.W.fnOf x qual (iI st) (cQ st) (aD st) .none kV doc pm an cdv ct) ⟨us,[]⟩=pure (ps.zip us)):Binds K fd ps []:=by
 obtain⟨e,d,kV,doc,pm,an,cdv,ct,a,rfl,c,b⟩:=F.ex;exact .all (h kV doc pm an cdv ct)
def vI {x qual:Str}{st:Stmt}{f:Addr}{e:Value}{h g:Option Addr}{d:Array (Option Value)}{kV b i a ct:Value}(l:K.lookup f=some ⟨e,h,.func (PySem.W.fnOf x qual (iI st) (cQ st) (aD st) .none kV b i g a ct),d⟩)
  (c:PySem.W.codeIn K a qual=true) (k:PySem.W.keepIn K (.ref f)=true):Fun K x qual st f (PySem.W.fnOf x qual (iI st) (cQ st) (aD st) .none kV b i g a ct):=⟨⟨e,h,kV,b,i,g,a,ct,d,rfl,l,c⟩,k⟩
end
def aF4 {A:Around}{k:Nat}(a:Room k A):A.units+1<cLine:=bCL (Nat.add_le_add_left (by decide:1<=64) _) a.units
def oM {n:Nat}(h:n<=1000):n<sizeLine:=bCL h (by decide)
section
variable {X:Cx}
def pv (i:Nat){x:Str}{pos:Pos}(c:X.N[i]?=some x:=by rfl)(b:Vis X.env.scope x:=by trivial)(hd:(x == ("__debug__":Str))=false:=by decide)
  (a:(x == ("__classdict__":Str))=false:=by decide):PE X (.Name x pos) (eX i):=aYt c b hd a
end
def cA {A B:Prop}(h:B):if false=true then A else B:=by rw[if_neg m7];exact h
def bZ {A B:Prop}(h:A):if true=true then A else B:=by rw[if_pos rfl];exact h
def aHi {c A B:Prop}[Decidable c](b:c->A)(a:¬ c->B):if c then A else B:=by
 by_cases h:c
 ·rw[if_pos h];exact b h
 ·rw[if_neg h];exact a h
def Same (H H':Hp):Prop:=∀b o,H b=some o->H' b=some o
def Same.refl (H:Hp):Same H H:=λ_ _ h=>h
def Same.trans {H H1 H2:Hp}(a:Same H H1)(b:Same H1 H2):Same H H2:=λc o h=>b c o (a c o h)
def Same.free {H H':Hp}(e:Same H H'){l:Addr}(h:H' l=Option.none):H l=Option.none:=by
 cases q:H l with
 |none=>rfl
 |some o=>rw[e l o q] at h;cases h
def Same.seq {K:bE4}{H H':Hp}{a:Addr}{xs:List V}(e:Same H H')(h:SqL K H a xs):SqL K H' a xs:=by
 rcases h with (h|⟨o,h⟩)|h
 ·exact .inl (.inl (e _ _ h))
 ·exact .inl (.inr ⟨o,e _ _ h⟩)
 ·exact .inr h
end L2
namespace PySem
namespace RvF
end RvF
section
variable {prog:Program}{w:World}{A:Around}{E:bE5}{s:Shared}
end
end PySem
namespace L2
open PySem PySem.Spec PyProof.Rows
def qM:bootBuiltins "int"=some (.type "int"):=by trivial
def aT6:bootBuiltins "bool"=some (.type "bool"):=by trivial
def aPu:bootBuiltins "str"=some (.type "str"):=by trivial
def tG:bootBuiltins "list"=some (.type "list"):=by trivial
def dG:bootBuiltins "tuple"=some (.type "tuple"):=by trivial
def aDk:bootBuiltins "dict"=some (.type "dict"):=by trivial
def aPz:bootBuiltins "set"=some (.type "set"):=by trivial
def aYh:bootBuiltins "zip"=some (.type "zip"):=by trivial
def aDm:bootBuiltins "enumerate"=some (.type "enumerate"):=by trivial
def aW:bootBuiltins "isinstance"=some (.builtin "isinstance"):=by trivial
def dI:bootBuiltins "len"=some (.builtin "len"):=by trivial
def qQ:bootBuiltins "all"=some (.builtin "all"):=by trivial
def aZr:bootBuiltins "any"=some (.builtin "any"):=by trivial
def uL:bootBuiltins "sorted"=some (.builtin "sorted"):=by trivial
def aZx:bootBuiltins "abs"=some (.builtin "abs"):=by trivial
def aUd {J:It}{n:Nat}{item:Nat->V}{g:TG}{tb:TS}{D:Ends}{σ:St}{H:Hp}(b:Nat->St->Hp->Prop)
  (f:∀i H,i<n->J.go i H) (j:∀H,J.stop n H) (k:∀i H x H',i<n->J.yld i H x H'->H'=H/\x=item i) (o:b 0 σ H)
  (l:∀i σ H,i<n->b i σ H->g (item i) σ H fun σ2 H2=>tb { D with nx:=b (i+1),ct:=b (i+1),bk:=D.nx } σ2 H2) (hd:∀σ H,b n σ H->D.nx σ H) :
  ∃W:Nat->Nat->St->Hp->Prop,(∃m,W 0 m σ H)/\∀i m σ H,W i m σ H ->
   (J.stop i H/\D.nx σ H)\/(J.go i H/\∃N:St->Hp->Prop,(∀σ' H',N σ' H'->∃m',m'<m/\W (i+1) m' σ' H')/\∀x H',J.yld i H x H'->g x σ H' fun σ2 H2=>tb { D with nx:=N,ct:=N,bk:=D.nx } σ2 H2):=by
 refine⟨λi m σ H=>m=n - i/\i<=n/\b i σ H,⟨n,by simp,bAS _,o⟩,?_⟩;rintro i m σ H ⟨rfl,hi,p⟩;by_cases a:i<n
 ·refine .inr ⟨f i H a,b (i+1),fun σ' H' h=>⟨n - (i+1),by lia,rfl,a,h⟩,λx H' y=>?_⟩;obtain⟨c,d⟩:=k i H x H' a y;subst c d;exact l i σ _ a p
 ·have e:i=n:=by lia
  subst e;exact .inl ⟨j H,hd σ H p⟩
def sgn (x:Str)(i:Nat):Str:=⟨#[x.cps.getD i 0]⟩
def aRp {x:Str}{i c:Nat}(h:x.cps[i]?=some c):(⟨#[c]⟩:Str)=sgn x i:=by unfold sgn;rw[bAK,h];rfl
def Its (x:Str):It:=⟨λi _=>i<x.cps.size,λi H v H'=>H'=H/\v=.str (sgn x i),λi _=>x.cps.size<=i⟩
def aO1 {P:Program}{w:World}{K:bE4}{tg:Expr}(it:Addr)(x:Str)(t:Tok):Turn P w K tg (Its x) [it] it (λi h=>h.IsStrIter it "str_ascii_iterator" x t i) where
 mem:=by simp
 obj:=λi h a b f=>by
  have e:b=it:=by simpa using f
  subst e;obtain⟨o,e,c,d⟩:=a;exact⟨o,e,λv z=>by rw[d] at z;cases z⟩
 keep:=λi h l a k=>let ⟨o,ho,r⟩:=a;⟨o,k it (by simp) o ho,r⟩
 item:=by intro X A J F q i g s σ H E I m a n;subst A J F;obtain⟨p,C,R,y,G,B⟩:=m it (by simp);refine (Walks.strAscii (prog:=X.prog) (w:=X.w) (I.ok.hd q) it x t).item i s _ _ n a λv l L Q j M=>?_;obtain⟨c,u,D,rfl⟩:=Q;have S:Inv X g σ H { s with heap:=l,toks:=L }:=I.turned (λb o f e=>M b o (by simpa using f) e) p C y G B;obtain⟨o,e,O,d⟩:=id j;exact⟨_,rfl,aIh (s:={ s with heap:=l,toks:=L }) e O d (by decide) ⟨.str ⟨#[c]⟩,H,S,⟨u,rfl⟩,⟨rfl,by rw[aRp D]⟩,j,λb f=>(m b f).1⟩⟩
 done:=by intro X A J F q i g s σ H E I m a n;subst A J F;obtain⟨p,C,R,y,G,B⟩:=m it (by simp);exact wpAny_pyNext_ascii_end (I.ok.hd q) a (Array.getElem?_eq_none_iff.mpr n) λl N=>⟨rfl,I.turned (t':=s.toks) (λb o f e=>N b o f e) p C y G B⟩
 self:=λ_ _ _ _ _ a h=>wpAny_pyIter_striter_ascii a h
def aN5 {P:Program}{w:World}{K:bE4}{tg:Expr}(it:Addr)(x:Str)(t:Tok):Turn P w K tg (Its x) [it] it (λi h=>h.IsStrIter it "str_iterator" x t i) where
 mem:=by simp
 obj:=λi h a b f=>by
  have e:b=it:=by simpa using f
  subst e;obtain⟨o,e,c,d⟩:=a;exact⟨o,e,λv z=>by rw[d] at z;cases z⟩
 keep:=λi h l a k=>let ⟨o,ho,r⟩:=a;⟨o,k it (by simp) o ho,r⟩
 item:=by intro X A J F q i g s σ H E I m a n;subst A J F;obtain⟨p,C,R,y,G,B⟩:=m it (by simp);refine (Walks.strWide (prog:=X.prog) (w:=X.w) (I.ok.hd q) it x t).item i s _ _ n a λv l L Q j M=>?_;obtain⟨c,u,D,rfl⟩:=Q;have S:Inv X g σ H { s with heap:=l,toks:=L }:=I.turned (λb o f e=>M b o (by simpa using f) e) p C y G B;obtain⟨o,e,O,d⟩:=id j;exact⟨_,rfl,aIh (s:={ s with heap:=l,toks:=L }) e O d (by decide) ⟨.str ⟨#[c]⟩,H,S,⟨u,rfl⟩,⟨rfl,by rw[aRp D]⟩,j,λb f=>(m b f).1⟩⟩
 done:=by intro X A J F q i g s σ H E I m a n;subst A J F;obtain⟨p,C,R,y,G,B⟩:=m it (by simp);exact wpAny_pyNext_wide_end (I.ok.hd q) a (Array.getElem?_eq_none_iff.mpr n) λl N=>⟨rfl,I.turned (t':=s.toks) (λb o f e=>N b o f e) p C y G B⟩
 self:=λ_ _ _ _ _ a h=>wpAny_pyIter_striter_wide a h
section
variable {X:Cx}{tg:Expr}
def aZ6 (tl:TE):TI:=fun σ H R=>tl σ H λx H1=>∃z,x=.str z/\R (Its z) H1
def aZa {l:Expr}{tl:TE}(n:PE X l tl):PI X tg l (aZ6 tl):=by
 intro c s σ H R I h;refine thn (n c s σ H _ I h) λv a ⟨x,f,d,m,j⟩=>?_;obtain⟨z,e,q⟩:=j;subst e;obtain⟨t,rfl⟩:=m;have g:∀b∈[a.heap.objs.size],pF X c f b:=λb k=>by
  have e:b=a.heap.objs.size:=by simpa using k
  subst e;exact d.aEx (j5 _) (d.hok.fresh (j5 _))
 cases i:z.cps.all (·<128)
 ·exact wpAny_pyIter_wide i ⟨a.heap.objs.size,[a.heap.objs.size],_,_,f,rfl,d.kept (t':=a.toks) λb o e=>d7 _ e,aN5 _ z t,⟨_,j4 _ rfl,rfl,rfl⟩,g,q⟩
 ·exact wpAny_pyIter_ascii i ⟨a.heap.objs.size,[a.heap.objs.size],_,_,f,rfl,d.kept (t':=a.toks) λb o e=>d7 _ e,aO1 _ z t,⟨_,j4 _ rfl,rfl,rfl⟩,g,q⟩
def aWi {x:Str}{g:TG}{tb:TS}{D:Ends}{σ:St}{H:Hp}(a:Nat->St->Hp->Prop)(c:a 0 σ H)
  (b:∀i σ H,i<x.cps.size->a i σ H->g (.str (sgn x i)) σ H fun σ2 H2=>tb { D with nx:=a (i+1),ct:=a (i+1),bk:=D.nx } σ2 H2) (hd:∀σ H,a x.cps.size σ H->D.nx σ H) :
  ∃W:Nat->Nat->St->Hp->Prop,(∃m,W 0 m σ H)/\∀i m σ H,W i m σ H ->
   ((Its x).stop i H/\D.nx σ H)\/((Its x).go i H/\∃N:St->Hp->Prop,(∀σ' H',N σ' H'->∃m',m'<m/\W (i+1) m' σ' H')/\∀v H',(Its x).yld i H v H'->g v σ H' fun σ2 H2=>tb { D with nx:=N,ct:=N,bk:=D.nx } σ2 H2):=
 aUd (item:=λi=>.str (sgn x i)) a (λi H h=>h) (λH=>j5 _) (λi H v H' _ y=>y) c b hd
def aZw:V->List V->Hp->VK->Prop:=λx vs H Q=>∃a b i rest,x=.str a/\vs=[.str b]/\Builtin.Str.occurrences a b 0 a.length 1=i::rest/\Q (.int (i:Nat)) H
def aPk:MtR X "str.index" aZw:=by intro f s σ H x j v k Q I g d h;obtain⟨a,b,i,c,rfl,rfl,e,q⟩:=h;obtain⟨t,rfl⟩:=g;obtain⟨u,rfl,l,rfl⟩:=d.one;exact SC.index e ⟨.int (i:Nat),H,I.tok _,⟨_,rfl⟩,q⟩
def aJy (x:V)(T:String):Option Bool:=match x with
 |.int _=>if T = "int" then some true else if T = "bool" then some false else if T = "str" then some false else none
 |.str _=>if T = "int" then some false else if T = "bool" then some false else if T = "str" then some true else none
 |.bl _=>if T = "int" then some true else if T = "bool" then some true else if T = "str" then some false else none
 |_=>none
def bBg:List V->Hp->VK->Prop:=λxs H Q=>∃x T b,xs=[x,.ty T]/\aJy x T=some b/\Q (.bl b) H
def rZ:bR X (.builtin "isinstance") bBg:=by
 intro d s σ H l m Q I r h;obtain⟨x,T,b,rfl,e,q⟩:=h;obtain⟨u,v,rfl,g,j⟩:=r.two;cases j;have f:∀{k:Bool},some k=some b->EP X d σ Q (.bool k) s:=λe=>by cases e;exact⟨.bl _,H,I,rfl,q⟩
 have c:∀{k:Bool},some k=some b->EP X d σ Q (.bool k) { s with toks:=s.toks+1 }:=λe=>by cases e;exact⟨.bl _,H,I.tok _,rfl,q⟩
 cases x with
 |int i=>
  obtain⟨t,rfl⟩:=g;unfold aJy at e;dsimp only at e
  split at e
  ·rename_i a;subst a;exact IsiPair.int_int (f e)
  split at e
  ·rename_i a;subst a;exact IsiPair.int_bool (c e)
  split at e
  ·rename_i a;subst a;exact IsiPair.int_str (c e)
  ·cases e
 |str z=>
  obtain⟨t,rfl⟩:=g;unfold aJy at e;dsimp only at e
  split at e
  ·rename_i a;subst a;exact IsiPair.str_int (c e)
  split at e
  ·rename_i a;subst a;exact IsiPair.str_bool (c e)
  split at e
  ·rename_i a;subst a;exact IsiPair.str_str (f e)
  ·cases e
 |bl z=>
  cases g;unfold aJy at e;dsimp only at e
  split at e
  ·rename_i a;subst a;exact IsiPair.bool_int (f e)
  split at e
  ·rename_i a;subst a;exact IsiPair.bool_bool (f e)
  split at e
  ·rename_i a;subst a;exact IsiPair.bool_str (c e)
  ·cases e
 |_=>cases (show (none:Option Bool)=some b from e)
end
def small {n:Nat}(h:n<=1000):n<=sizeLine:=bDD (oM h)
def yW:Vals [] []:=.nil
def jJ {x:V}{u:Value}{xs:List V}{us:List Value}(r:RelV x u)(t:Vals xs us):Vals (x::xs) (u::us):=.cons r t
def cC:Expr->Bool
 |.Starred ..=>false
 |_=>true
def aL {e:Expr}{es:List Expr}{env:Env}(h:cC e=true):starEach (e::es) env=(false,eval e env)::starEach es env:=by cases e <;> first|rfl|cases h
def aY1 {X:Cx}{e:Expr}{es:List Expr}{te:TE}{t:TA}(b:PE X e te)(c:PA X es t)(a:cC e=true:=by rfl) :
  PA X (e::es) (cO te t):=aWo b c (aL a)
def bAi {X:Cx}{x:Str}{v:V}{pos:Pos}(b:Gl X x)(a:∃u,X.mg x=some u/\RelV v u)(hd:(x == ("__debug__":Str))=false:=by decide):PE X (.Name x pos) (tC v):=by obtain⟨u,a,r⟩:=a;exact aT1 b a r hd
section
variable {P:Program}{w:World}{K:bE4}{mg:bE7}{base:Heap}
def Dn (K:bE4)(mg:bE7)(x:Str)(st:Stmt)(ps:List Str):Prop:=∃f fd,Fun K x x st f fd/\Binds K fd ps []/\mg x=some (.ref f)
def Ok (P:Program)(w:World)(K:bE4)(mg:bE7)(base:Heap)(k:Nat)(x:Str)(ps:List Str)(sp:Sp):Prop:=
 ∃f fd,mg x=some (.ref f)/\PySem.W.keepIn K (.ref f)=true/\Binds K fd ps []/\dW P w K mg base CX0 k f fd ps sp
def Ok.mono {j k:Nat}{x:Str}{ps:List Str}{sp:Sp}(h:Ok P w K mg base j x ps sp)(g:j<=k):Ok P w K mg base k x ps sp:=by obtain⟨f,a,b,d,e,c⟩:=h;exact⟨f,a,b,d,e,c.mono g⟩
def Ok.of {x:Str}{st:Stmt}{N ps:List Str}{k:Nat}{sp:Sp}(D:Dn K mg x st ps)(S:aN N ps (aD st))(b:∀vs H Q E,sp vs H Q E->vs.length=ps.length)
  (a:∀(f:Addr) (cdv:Value) (A:Around) (outer:List Env) (s:Shared) (H:Hp) (vs:List V) (Q:VK) (E:XK),Room k (A.deeper (envOfC x (aD st) s.heap.objs.size f cdv))->sp vs H Q E ->
   ∃t,PSs (qK CX0 P w K mg base N x (aD st) f cdv A outer s H E).nox (cQ st) t/\t { nx:=λ_ H'=>Q .non H',rt:=Q } (start N vs) H):Ok P w K mg base (k+1) x ps sp:=by
 obtain⟨f,c,F,B,m⟩:=D;exact⟨f,c,m,F.kp,B,F.ok S b λcdv A outer s H vs Q E d h=>a f cdv A outer s H vs Q E d h⟩
end
section
variable {X:Cx}{k:Nat}{ps:List Str}{sp:Sp}{x:Str}{p pos:Pos}{e:Expr}{es:List Expr}{t:TA}
def bAc (G:Ok X.prog X.w X.K X.mg X.base k x ps sp)(n:Room k X.A)(l:Gl X x)(i:PA X (e::es) t)(h:(x == ("__debug__":Str))=false:=by decide)
  (m:starEach (e::es) X.env=(false,eval e X.env)::starEach es X.env:=by rfl) (c:(backTo pos (starEach es X.env)).any (·.1)=false:=by rfl) :
  PE X (.Call (.Name x p) (e::es) [] pos) (rG sp [] E0 t):=by
 obtain⟨f,j,a,d,g,b⟩:=G;exact aMg b n l a d g .nil aB7 i h m c
def aYm (G:Ok X.prog X.w X.K X.mg X.base k x ps sp)(i:Room k X.A)(h:Gl X x)(e:(x == ("__debug__":Str))=false:=by decide) :
  PE X (.Call (.Name x p) [] [] pos) (rG sp [] E0 qZ):=by
 obtain⟨f,g,a,c,d,b⟩:=G;exact aTf b i h a c d .nil aB7 e
end
theorem rD {env:Env}(f:Str × NameKind->List (Str × Addr)->Sem (ForInStep (List (Str × Addr))))
  (l:∀n r,f (n,.free) r=(cellOf env n >>= λa=>pure (.yield ((n,a)::r)))) (j:∀n k r,k≠.free->f (n,k) r=pure (.yield r)) :
  ∀(names:List (Str × NameKind)) (acc:List (Str × Addr)),(∀y∈names,y.2=.free->∃c,env.cells.lookup y.1=some c) ->
  ∃cl,forIn names acc f=(pure (cl++acc):Sem _)/\(∀p∈cl,env.cells.lookup p.1=some p.2/\(p.1,NameKind.free)∈names)/\∀y,(y,NameKind.free)∈names->∃c,(y,c)∈cl
 |[],acc,_=>⟨[],by simp,λ_ h=>(nomatch h),λ_ h=>(nomatch h)⟩
 |(n,k)::r,acc,h=>by
  by_cases d:k=.free
  ·subst d;obtain⟨c,i⟩:=h (n,.free) v4 rfl;obtain⟨cl,e,b,g⟩:=rD f l j r ((n,c)::acc) λy hy=>h y (j9 _ hy);refine⟨cl++[(n,c)],?_,λp hp=>?_,λy hy=>?_⟩
   ·rw[bDJ,l];have o:cellOf env n=pure c:=by unfold cellOf;rw[i]
    rw[o,pure_bind,pure_bind];show forIn r ((n,c)::acc) f=_;rw[e,bDO];rfl
   ·rcases List.mem_append.mp hp with hp|hp
    ·exact⟨(b p hp).1,j9 _ (b p hp).2⟩
    ·obtain rfl:=List.mem_singleton.mp hp;exact⟨i,v4⟩
   ·rcases List.mem_cons.mp hy with e|hy
    ·cases e;exact⟨c,by simp⟩
    ·obtain⟨m,q⟩:=g y hy;exact⟨m,bDQ _ q⟩
  ·obtain⟨cl,e,b,g⟩:=rD f l j r acc λy hy=>h y (j9 _ hy);refine⟨cl,?_,λp hp=>⟨(b p hp).1,j9 _ (b p hp).2⟩,λy hy=>?_⟩
   ·rw[bDJ,j n k acc d,pure_bind];exact e
   ·rcases List.mem_cons.mp hy with e|hy
    ·cases e;exact absurd rfl d
    ·exact g y hy
def aJ8 {scope:Scope}{env:Env}(h:∀y∈scope.names,y.2=.free->∃c,env.cells.lookup y.1=some c) :
  ∃cl,closureFor scope env=pure cl/\(∀p∈cl,env.cells.lookup p.1=some p.2/\(p.1,NameKind.free)∈scope.names)/\∀y,(y,NameKind.free)∈scope.names->∃c,(y,c)∈cl:=by
 unfold closureFor;obtain⟨cl,e,b,f⟩:=rD (env:=env) (λx r=>match x with|(name,kind)=>if (kind == NameKind.free)=true then do let a <-cellOf env name;pure (.yield ((name,a)::r)) else pure (.yield r))
  (λn r=>rfl) (λn k r d=>by
   have:(k == NameKind.free)=false:=by simpa using d
   simp only[this,bAZ,if_false]) scope.names [] h
 refine⟨cl,?_,b,f⟩;rw[bBB] at e;refine Eq.trans ?_ e;first
 |rfl
 |simp
theorem lookup_mem {α β:Type}[BEq α][LawfulBEq α]{a:α}{b:β}:∀{l:List (α × β)},(a,b)∈l->∃b',l.lookup a=some b'
 |(x,y)::r,h=>by
  rw[bC0];by_cases e:(a == x)=true
  ·exact⟨y,by rw[e]⟩
  ·have c:(a == x)=false:=by simpa using e
   rw[c];rcases List.mem_cons.mp h with z|z
   ·cases z;simp at e
   ·exact lookup_mem z
theorem rK {env:Env}{y:Str}{k:NameKind}:∀{names:List (Str × NameKind)},names.lookup y=some .free ->
  (names.map λ(x:Str × NameKind)=>match x with|(n,k)=>if (k == NameKind.free && env.scope.kind == ScopeKind.function && env.kindOf n == some NameKind.cell) then (n,NameKind.cell) else (n,k)).lookup y=some .cell \/
  (names.map λ(x:Str × NameKind)=>match x with|(n,k)=>if (k == NameKind.free && env.scope.kind == ScopeKind.function && env.kindOf n == some NameKind.cell) then (n,NameKind.cell) else (n,k)).lookup y=some .free
 |[],h=>by simp at h
 |(n,k')::r,h=>by
  rw[bAC];rw[bC0] at h;by_cases e:(y == n)=true
  ·rw[e] at h;cases h;by_cases q:((NameKind.free == NameKind.free) && env.scope.kind == ScopeKind.function && env.kindOf n == some NameKind.cell)=true
   ·left;simp only[q,if_true,bC0,e]
   ·right;have c:=Bool.eq_false_iff.mpr q;simp only[c,bAZ,if_false,bC0,e]
  ·have b:(y == n)=false:=by simpa using e
   rw[b] at h;have d:=rK (env:=env) (k:=k) h;have a:∀z:Str × NameKind,z.1=n->(List.lookup y (z::(r.map λ(x:Str × NameKind)=>match x with|(n,k)=>if (k == NameKind.free && env.scope.kind == ScopeKind.function && env.kindOf n == some NameKind.cell) then (n,NameKind.cell) else (n,k)))) =
     List.lookup y (r.map λ(x:Str × NameKind)=>match x with|(n,k)=>if (k == NameKind.free && env.scope.kind == ScopeKind.function && env.kindOf n == some NameKind.cell) then (n,NameKind.cell) else (n,k)):=λz g=>by
    obtain⟨j,i⟩:=z;cases g;rw[bC0,b]
   have f:(match ((n,k'):Str × NameKind) with|(n,k)=>if (k == NameKind.free && env.scope.kind == ScopeKind.function && env.kindOf n == some NameKind.cell) then (n,NameKind.cell) else (n,k)).1=n:=by
    dsimp only
    split <;> rfl
   rw[a _ f];exact d
theorem rJ {env:Env}{y:Str}:∀{names:List (Str × NameKind)},(∀z∈names,z.2≠.cell) ->
  ((names.map λ(x:Str × NameKind)=>match x with|(n,k)=>if (k == NameKind.free && env.scope.kind == ScopeKind.function && env.kindOf n == some NameKind.cell) then (n,NameKind.cell) else (n,k)).lookup y=some .cell \/
  (names.map λ(x:Str × NameKind)=>match x with|(n,k)=>if (k == NameKind.free && env.scope.kind == ScopeKind.function && env.kindOf n == some NameKind.cell) then (n,NameKind.cell) else (n,k)).lookup y=some .free)->(y,NameKind.free)∈names
 |[],_,h=>by simp at h
 |(n,k')::r,hc,h=>by
  rw[bAC] at h;by_cases e:(y == n)=true
  ·have i:y=n:=by simpa using e
   subst i;have f:k'=.free:=by
    by_cases q:((k' == NameKind.free) && env.scope.kind == ScopeKind.function && env.kindOf y == some NameKind.cell)=true
    ·rw[bAB,bAB] at q;simpa using q.1.1
    ·have c:=Bool.eq_false_iff.mpr q;simp only[c,bAZ,if_false,bC0,e] at h;rcases h with h|h
     ·cases h;exact absurd rfl (hc (y,.cell) v4)
     ·cases h;rfl
   subst f;exact v4
  ·have g:(y == n)=false:=by simpa using e
   have a:∀z:Str × NameKind,z.1=n->(List.lookup y (z::(r.map λ(x:Str × NameKind)=>match x with|(n,k)=>if (k == NameKind.free && env.scope.kind == ScopeKind.function && env.kindOf n == some NameKind.cell) then (n,NameKind.cell) else (n,k)))) =
     List.lookup y (r.map λ(x:Str × NameKind)=>match x with|(n,k)=>if (k == NameKind.free && env.scope.kind == ScopeKind.function && env.kindOf n == some NameKind.cell) then (n,NameKind.cell) else (n,k)):=λz b=>by
    obtain⟨l,j⟩:=z;cases b;rw[bC0,g]
   have d:(match ((n,k'):Str × NameKind) with|(n,k)=>if (k == NameKind.free && env.scope.kind == ScopeKind.function && env.kindOf n == some NameKind.cell) then (n,NameKind.cell) else (n,k)).1=n:=by
    dsimp only
    split <;> rfl
   rw[a _ d] at h;exact j9 _ (rJ (λz b=>hc z (j9 _ b)) h)
section
variable {prog:Program}{w:World}{A:Around}{E:bE5}{R:Result->Shared->Prop}{s:Shared}
def aOl {p b i:Expr}{q:List Expr}{scope:Scope}{pos:Pos}{it t:Value}{env:Env}(I:Nat->Shared->Prop)
  (f:∀n s,I n s->wpAny (model prog w) A (pyNext it) (λr s₁=>match r with
   |none=>R (.ok .next) s₁
   |some v=>wpAny (model prog w) A (letOwnedTupleGo b it v) (λ_ s'=>wpAny (model prog w) A (assign b env v) (λ_ s₂=>
     wpAny (model prog w) A (forIn q true λc r=>if r=true then do let ok <-isTrue c env (eval c env);pure (ForInStep.yield ok) else pure (ForInStep.yield r)) (λok s₃=>
      if ok=true then wpAny (model prog w) A (eval p env) (λx s₄=>
       wpAny (model prog w) A (call (.builtin "list.append") [t,x]) (λ_ s₅=>∃m,m<n/\I m s₅) (notedBy (model prog w) A env λe s'=>R (.error e) s') s₄) (notedBy (model prog w) A env λe s'=>R (.error e) s') s₃
      else ∃m,m<n/\I m s₃) (notedBy (model prog w) A env λe s'=>R (.error e) s') s₂) (notedBy (model prog w) A env λe s'=>R (.error e) s') s') (notedBy (model prog w) A env λe s'=>R (.error e) s') s₁)
   (notedBy (model prog w) A env λe s'=>R (.error e) s') s)
  (n:Nat) (h:I n s):codeAny (model prog w) A (.compLoop (.ListComp p [⟨b,i,q,0⟩] scope pos) 0 it t env) R s:=by
 refine codeAny_loop rfl I (λn s o=>?_) n h;show wpAny _ A ((compTurn (.ListComp p [⟨b,i,q,0⟩] scope pos) 0 it t env).onRaise (λx=>do noteFrame x env;theTreesLotGoes x)) _ _ s;refine wpAny_noted ?_;rw[compTurn_list];refine b7 (bEC (b7 (bAY (f n s o) (λr s₁ j=>?_) λ_ _ a=>a)));cases r with
 |none=>exact d8 j
 |some v=>
  refine b7 (bAY j (λ_ s' d=>b7 (bAY d (λ_ s₂ l=>b7 (bAY l (λok s₃ g=>?_) λ_ _ a=>a)) λ_ _ a=>a)) λ_ _ a=>a);cases ok with
  |false=>exact d8 ⟨rfl,g⟩
  |true=>exact b7 (b7 (bAY g (λx s₄ k=>b7 (bAY k (λ_ s₅ u=>d8 (d8 ⟨rfl,u⟩)) λ_ _ a=>a)) λ_ _ a=>a))
end
def cxC (X:Cx)(N:List Str)(scope:Scope)(cl:List (Str × Addr))(s:Shared)(H:Hp)(fp:List Addr):Cx:=
 { X with N:=N,s₀:=s,H₀:=H,env:=compEnvC scope cl s.heap.objs.size X.env,outer:=X.stack,stack:=X.stack,ex:=fp,fn:=λ_=>false,pn:=[],xe:=λ_ _=>False }
def aOk (X:Cx)(ifs:List Expr)(tt:TT):Prop:=
 ∀(bE8:bE6) (s:Shared) (σ:St) (H:Hp) (Q:Bool->Hp->Prop),Inv X bE8 σ H s->tt σ H Q ->
  wpAny (model X.prog X.w) X.A (forIn ifs true λc r=>if r=true then do let ok <-isTrue c X.env (eval c X.env);pure (ForInStep.yield ok) else pure (ForInStep.yield r)) (TP X bE8 σ Q) X.xe s
def lJ:TT:=λ_ H Q=>Q true H
def aZ7 {X:Cx}:aOk X [] lJ:=λ_ _ _ H _ I h=>wpAny_tests_nil ⟨H,I,h⟩
def aZi {X:Cx}{c:Expr}{tc:TT}(h:PT X c tc):aOk X [c] tc:=λa s σ H Q I q=>wpAny_tests_one (h a s σ H Q I q)
structure nM (scope:Scope)(N:List Str):Prop where
 cell:∀y∈scope.names,y.2≠.cell
 kind:scope.kind=.function
 names:∀y∈scope.names,y.2=.local->scope.names.lookup y.1=some .local
 free:∀y∈scope.names,y.2=.free->scope.names.lookup y.1=some .free
def Cap (X:Cx)(scope:Scope)(N:List Str)(σ σ':St):Prop:=
 σ'.length=N.length/\∀(i:Nat) (y:Str) (v:V),N[i]?=some y->σ'[i]?=some (some v)->(y,NameKind.free)∈scope.names/\∃j:Nat,X.N[j]?=some y/\σ[j]?=some (some v)/\Vis X.env.scope y
def aTd {X:Cx}{bE8:bE6}{σ σ':St}{H:Hp}{s:Shared}{scope:Scope}{N:List Str}{cl:List (Str × Addr)}{fp:List Addr}{h1:Heap}{tk:Nat}{m1:bE7}
  (I:Inv X bE8 σ H s) (C:nM scope N) (a0:∀y,(y,NameKind.free)∈scope.names->X.env.kindOf y=some .cell\/X.env.kindOf y=some .free)
  (p1:∀p∈cl,X.env.cells.lookup p.1=some p.2/\(p.1,NameKind.free)∈scope.names) (p2:∀y,(y,NameKind.free)∈scope.names->∃c,(y,c)∈cl)
  (K:Cap X scope N σ σ') (M:∀b∈fp,pF X bE8 H b) (U:∀b∈fp,b<s.heap.objs.size)
  (hn:h1.Ns s.heap.objs.size m1) (A:∀b o,s.heap.get? b=some o->h1.get? b=some o) :
  Inv (cxC X N scope cl s H fp) [] σ' H { s with heap:=h1,toks:=tk }:=by
 have a:=I.ok;have f:∀y c,cl.lookup y=some c->X.env.cells.lookup y=some c:=λy c e=>(p1 _ (PySem.mem_of_lookup e)).1;have t:∀y,(y,NameKind.free)∈scope.names->∃c,cl.lookup y=some c/\X.env.cells.lookup y=some c:=λy d=>by obtain⟨c,S⟩:=p2 y d;obtain⟨D,e⟩:=lookup_mem S;exact⟨D,e,f y D e⟩
 have w:∀b∈fp,b∉frs X.stack:=λb g z=>by
  obtain⟨L,F,G,_⟩:=M b g;rcases List.mem_cons.mp (I.aD6 b z) with e|e
  ·exact F e
  ·exact G e
 have E:(cxC X N scope cl s H fp).Ok:=by
  refine⟨a.mod,C.kind,a.glob,a.blt,j5 _,λx y c h1 h2=>a.inj x y c (f x c h1) (f y c h2),λy d=>?_,λy c h _=>?_,a.hd,a.frames,.inl rfl,λb g=>?_,I.bs,bAJ a.bsz I.sz,
   λb o e g=>?_,w,I.stack,I.oN⟩
  ·obtain⟨c,e,_⟩:=t y (rJ (env:=X.env) C.cell d);exact⟨c,e⟩
  ·exact absurd (show false=true from h) m7
  ·obtain⟨L,F,G,O,P,Z⟩:=M b g;exact⟨v6 (U b g),λx c e=>P x c (f x c e)⟩
  ·obtain⟨L,F,G,O,P,Z⟩:=M b g;rcases O with z|z
   ·exact a.noex b o e z
   ·exact absurd (z9 (j7 e) (bAJ a.bsz z)) (bBO _)
 refine⟨E,rfl,I.bare,Un.kept A,⟨m1,hn,λi y v e1 e2 e3=>?_⟩,λy c e=>?_,I.hok.fresh (j5 _),λy c e=>I.freeC y c (f y c e),λp hp=>absurd (show p∈([]:bE6) from hp) (by simp),I.hok.kept A,K.1⟩
 ·obtain⟨d,j,V,T,Q⟩:=K.2 i y v e1 e2;obtain⟨m,_,R⟩:=I.loc;obtain⟨u,r,l⟩:=R j y v V T Q;refine⟨u,r,.inr ?_⟩;rcases l with⟨k,_⟩|⟨k,c,e,z⟩
  ·rcases a0 y d with q|q <;> (rw[k] at q;cases q)
  ·obtain⟨D,W,n⟩:=t y d;rw[e] at n;cases n;have Y:=rK (env:=X.env) (k:=.free) (C.free (y,.free) d rfl);refine⟨Y,c,W,?_⟩;obtain⟨o,B,J⟩:=z;exact⟨o,A _ _ B,J⟩
 ·obtain⟨v,o,B,J⟩:=I.cell y c (f y c e);exact⟨v,o,A _ _ B,J⟩
def gK (X:Cx)(scope:Scope)(N:List Str)(wi:TI)(g:TG)(tt:TT)(te:TE):TE:=fun σ H Q=>∃σ0,Cap X scope N σ σ0/\wi σ H λJ H1=>∀D,H1 D=none->∃W:Nat->Nat->St->Hp->List V->Prop,(∃m,W 0 m σ0 (upd H1 D (.lst [])) []) /\
 ∀i m σ' H' ys,W i m σ' H' ys->H' D=some (.lst ys)/\((J.stop i H'/\Q (.ref D) H')\/(J.go i H'/\∀x H2,J.yld i H' x H2->g x σ' H2 fun σ3 H3=>tt σ3 H3 λb H4=>
  if b=true then te σ3 H4 λy H5=>H5 D=some (.lst ys)/\ys.length<sizeLine/\∃m',m'<m/\W (i+1) m' σ3 (upd H5 D (.lst (ys++[y]))) (ys++[y]) else H4 D=some (.lst ys)/\∃m',m'<m/\W (i+1) m' σ3 H4 ys))
theorem aCo {X:Cx}{av aa ar:Expr}{ax:List Expr}{scope:Scope}{pos p9:Pos}{N:List Str}{wi:TI}{g:TG}{tt:TT}{te:TE}{use:Option (Value->Sem Unit)}{QQ:bE5}{a5:bE6}{s:Shared}{σ:St}{H:Hp}{Qv:VK}
  (C:nM scope N) (ai:∀y,(y,NameKind.free)∈scope.names->X.env.kindOf y=some .cell\/X.env.kindOf y=some .free) (hc:X.calm=true)
  (hi:PI X aa ar wi)
  (a:∀cl s H fp,PG (cxC X N scope cl s H fp) aa g/\aOk (cxC X N scope cl s H fp) ax tt/\PE (cxC X N scope cl s H fp) av te)
  (hs:∀x,foldedSetIterable ar X.env x=pure x) (I:Inv X a5 σ H s) (hq:gK X scope N wi g tt te σ H Qv)
  (a4:∀(D fr:Addr) (H5:Hp) (s6:Shared),(∃m6,s6.heap.Ns fr m6)->(∀h',(∀b o,b≠fr->s6.heap.get? b=some o->h'.get? b=some o)->Inv X a5 σ H5 { s6 with heap:=h' })->pF X a5 H5 fr->Qv (.ref D) H5->compPost (model X.prog X.w) X.A X.xe use QQ (.ref D) fr (.ok .next) s6) :
  wpAny (model X.prog X.w) X.A (comprehension (.ListComp av [⟨aa,ar,ax,0⟩] scope pos) scope X.env p9 (newList []) false (eval ar X.env) use) QQ X.xe s:=by
 obtain⟨σ0,ag,hq⟩:=hq;obtain⟨cl,ao,p1,p2⟩:=aJ8 (scope:=scope) (env:=X.env) (λy hy hk=>by obtain⟨n,k⟩:=y;cases hk;exact I.ok.has n (ai n hy))
 refine wpAny_comprehension_free (use:=use) rfl hs ao C.kind C.names (thn (hi a5 s σ H _ I hq) λxv s1 h1=>thn h1 λas f h2=>?_);obtain⟨it,fp,tn,J,G,rfl,I2,T,Z,f2,q2⟩:=h2;refine bAF (wpAny_newFunctionEnv C.cell (by intro y hy;simp at hy) (λY F B=>?_) C.kind);dsimp only at F B ⊢;have hD:G f.heap.objs.size=none:=I2.hok.fresh (j5 _);have I3:Inv X a5 σ (upd G f.heap.objs.size (.lst [])) { f with heap:=f.heap.push { cls:=.type "list",dict:=none,data:=.seq ([]:List Value).toArray } }:=
  I2.laid (t':=f.toks) (λb u e=>d7 _ e) (j5 _) ⟨bAS _,[],0,.nil,j4 _ rfl⟩
 generalize a6:({ f with heap:=f.heap.push { cls:=.type "list",dict:=none,data:=.seq ([]:List Value).toArray } }:Shared)=s3 at I3;have O:f.heap.push { cls:=.type "list",dict:=none,data:=.seq ([]:List Value).toArray }=s3.heap:=by rw[<-a6]
 rw[O] at F B;have a0:∀b∈fp,b<f.heap.objs.size:=λb a=>by obtain⟨o,e,_⟩:=T.obj _ _ Z b a;exact j7 e
 have al:∀b∈fp,b<s3.heap.objs.size:=λb a=>by rw[<-O,bBL];exact bCF (a0 b a)
 have f3:∀b∈fp,pF X a5 (upd G f.heap.objs.size (.lst [])) b:=λb a=>by obtain⟨f0,fr⟩:=f2 b a;exact⟨by rw[aJ (v6 (a0 b a))];exact f0,fr⟩
 have E:∀b o,s3.heap.get? b=some o->Y.get? b=some o:=λb o e=>B.extBut b o (v6 (j7 e)) (d7 _ e);have I4:=aTd (tk:=s3.toks) I3 C ai p1 p2 ag f3 al F E;have a7:tn 0 Y:=T.keep _ _ _ Z λb a o e=>E b o (by rw[<-O];exact d7 _ e);obtain⟨W,⟨m0,w0⟩,a9⟩:=q2 f.heap.objs.size hD;have S:∀{V:Hp},(∀b∈fp,V b=none)->∀b∈fp,pF (cxC X N scope cl s3 (upd G f.heap.objs.size (.lst [])) fp) [] V b:=λ{V} hn b a=>by obtain⟨e1,e2⟩:=I4.ok.exf b a;exact⟨hn b a,e1,I4.ok.exfs b a,.inl a,e2,λp hp=>absurd (show p∈([]:bE6) from hp) (by simp)⟩
 have M:∀s4:Shared,s4={ s3 with heap:=Y,toks:=s3.toks } ->
   codeAny (model X.prog X.w) X.A (.compLoop (.ListComp av [⟨aa,ar,ax,0⟩] scope pos) 0 (.ref it) (.ref f.heap.objs.size) (compEnvC scope cl s3.heap.objs.size X.env))
    (compPost (model X.prog X.w) X.A X.xe use QQ (.ref f.heap.objs.size) s3.heap.objs.size) s4:=by
  rintro s4 rfl;refine aOl (λn s'=>∃i σ' V ys,Inv (cxC X N scope cl s3 (upd G f.heap.objs.size (.lst [])) fp) [] σ' V s'/\tn i s'.heap/\(∀b∈fp,V b=none)/\W i n σ' V ys) ?_ m0 ⟨0,σ0,_,[],I4,a7,λb a=>(f3 b a).1,w0⟩;rintro n s5 ⟨i,σ5,H5,ys,I5,st5,fr5,w5⟩;obtain⟨aq,w5⟩:=a9 i n σ5 H5 ys w5;have l:∀{α:Type} {t:Sem α} {Q':α->Shared->Prop} {E':bE5} {s':Shared},wpAny (model X.prog X.w) X.A t Q' (λ_ _=>False) s'->wpAny (model X.prog X.w) X.A t Q' E' s':=λh=>bAY h (λ_ _ q=>q) λ_ _ z=>z.elim;rcases w5 with⟨a3,qn⟩|⟨go,step⟩
  ·refine l (thn (T.done (cxC X N scope cl s3 (upd G f.heap.objs.size (.lst [])) fp) rfl rfl rfl hc i [] s5 σ5 H5 _ I5 (S fr5) st5 a3) λr s6 ⟨hr,P⟩=>?_);subst hr;obtain⟨m6,ah,_⟩:=P.loc;refine a4 _ _ H5 s6 ⟨m6,ah⟩ (λh' kp=>?_) (I3.aEx (j5 _) P.free) qn;have U:∀b o,s3.heap.get? b=some o->b≠s3.heap.objs.size:=λb o e=>v6 (j7 e);have un:Un (frs X.stack) fp (upd G f.heap.objs.size (.lst [])) H5 s3.heap h':=by
    have u:=P.base;exact⟨λb o e n a hx=>kp b o (U b o e) (u.keep b o e n a hx),λb o e n a hx=>by
     obtain⟨sl,e1⟩:=u.slot b o e n a hx;exact⟨sl,kp b _ (U b o e) e1⟩,u.free,λb o e hx=>by
     obtain⟨o',e1⟩:=u.there b o e hx;exact⟨o',kp b _ (U b o e) e1⟩,u.tups,u.frzs,u.tbls⟩
   have aj:HOk X.prog X.w H5 h':=λb u e=>by
    refine (P.hok b u e).stay (λc v ad q=>kp c v ?_ q) (λ_ q=>q) λ_ _ q=>q;have j:H5 s3.heap.objs.size=none:=P.free;rintro rfl;rcases ad with z|z
    ·rw[z] at j;rw[j] at e;cases e
    ·rw[j] at z;cases z
   refine I3.call' (s':={ s6 with heap:=h' }) P.os un aj P.bare λb a=>?_;obtain⟨f0,f1,au,ak,f4,f5⟩:=f3 b a;exact⟨ak,f1,f4,f5⟩
  ·refine l (thn (T.item (cxC X N scope cl s3 (upd G f.heap.objs.size (.lst [])) fp) rfl rfl rfl hc i [] s5 σ5 H5 (λ_ _=>False) I5 (S fr5) st5 go) λr s6 ⟨u,hr,h6⟩=>?_);subst hr;refine l (thn h6 λ_ s7 ⟨x,H7,I7,r7,y7,Q,am⟩=>?_);obtain⟨hg,ht,he⟩:=a cl s3 (upd G f.heap.objs.size (.lst [])) fp;have ab:=I7.pinned (S am) (T.obj _ _ Q);have m:∀{L:St} {H8:Hp} {s8:Shared},Inv (cxC X N scope cl s3 (upd G f.heap.objs.size (.lst [])) fp) ([]++aAx fp s7.heap) L H8 s8->tn (i+1) s8.heap/\∀b∈fp,H8 b=none:=λ{L H8 s8} I8=>
    ⟨T.keep _ _ _ Q λb a o e=>(I8.pin (b,o) (bBA _ (bBA _ (lF a e)))).1,λb a=>by obtain⟨o,e,d⟩:=T.obj _ _ Q b a;exact (I8.pin (b,o) (bBA _ (bBA _ (lF a e)))).2.1⟩
   refine l (thn (hg _ s7 σ5 H7 x u _ ab r7 (step x H7 y7)) λ_ s8 ⟨L,H8,I8,q8⟩=>?_);refine l (thn (ht _ s8 L H8 _ I8 q8) λb s9 ⟨H9,I9,q9⟩=>?_);cases b with
   |false=>rw[if_neg m7] at q9 ⊢;obtain⟨_,m',hm,w9⟩:=q9;exact⟨m',hm,i+1,L,H9,ys,I9.nR,(m I9).1,(m I9).2,w9⟩
   |true=>rw[if_pos rfl] at q9 ⊢;refine l (thn (he _ s9 L H9 _ I9 q9) λyv ac ⟨y,a8,af,ap,K,a1,m',hm,an⟩=>?_);refine l (thn (aCc _ ac L a8 (.ref f.heap.objs.size) [y] (.ref f.heap.objs.size) [yv] (λ_ a2=>a2=upd a8 f.heap.objs.size (.lst (ys++[y]))) af rfl (.cons ap .nil) ⟨_,_,_,rfl,rfl,K,a1,rfl⟩) λ_ aw ⟨z,a2,R,_,ae⟩=>?_);subst ae;exact⟨m',hm,i+1,L,_,ys++[y],R.nR,(m R).1,(m R).2,an⟩
 have a4:=codeAny_compStart_list (M { s3 with heap:=Y,toks:=s3.toks } rfl) (T.self _ _ _ _ _ a7 (M { s3 with heap:=Y,toks:=s3.toks } rfl));subst a6;exact a4
def aV2 {X:Cx}{elt target iter:Expr}{ifs:List Expr}{scope:Scope}{pos:Pos}{N:List Str}{wi:TI}{g:TG}{tt:TT}{te:TE}
  (C:nM scope N) (m:∀y,(y,NameKind.free)∈scope.names->X.env.kindOf y=some .cell\/X.env.kindOf y=some .free) (r:X.calm=true)
  (t:PI X target iter wi)
  (d:∀cl s H fp,PG (cxC X N scope cl s H fp) target g/\aOk (cxC X N scope cl s H fp) ifs tt/\PE (cxC X N scope cl s H fp) elt te)
  (u:∀x,foldedSetIterable iter X.env x=pure x:=by intro _;rfl) :
  PE X (.ListComp elt [⟨target,iter,ifs,0⟩] scope pos) (gK X scope N wi g tt te):=by
 intro f s σ H Q I k;rw[eval_ListComp];exact aCo C m r t d u I k λD q h p ⟨j,c⟩ a _ l=>⟨j,c,λi n=>⟨.ref D,h,a i λb o d e=>n.extBut b o d e,rfl,l⟩⟩
end L2
namespace PySem
open Sem (wp)
namespace IfF
def aS9:typeLookup (.type "function") "__class__"=pure (some (.builtin "object.__class__")):=by rw[typeLookup_type,builtinLookup_eq_fast];kernel_rfl
def xV:Slot "function" "__getattribute__" "object.__getattribute__":=
 .of (owner:="object") (n:="__getattribute__") (by rw[typeLookup_type,builtinLookup_eq_fast];kernel_rfl) (by trivial) (by trivial) (by trivial)
  (by first|exact .inl (by trivial)|exact .inr (by trivial)) (by rw[isSubtype_type];kernel_rfl)
def aR7:entryFor table "object.__getattribute__"=some Builtin.«object.__getattribute__»:=entryFor_of_tree (by kernel_rfl)
def wW:isSubtype (.type "function") (.type (".".intercalate ("object.__class__".cutAt '.').dropLast))=pure true:=by rw[F.owner_object_class,isSubtype_type];kernel_rfl
def sub_int:isSubtype (.type "function") (.type "int")=pure false:=by rw[isSubtype_type];kernel_rfl
def sub_bool:isSubtype (.type "function") (.type "bool")=pure false:=by rw[isSubtype_type];kernel_rfl
def aWf:isSubtype (.type "function") (.type "str")=pure false:=by rw[isSubtype_type];kernel_rfl
end IfF
section
variable {prog:Program}{w:World}{A:Around}{E:bE5}{h:Heap}{g:Array GenState}{d:Drawn}{t:Nat}{os:OsState}{a:Addr}{o:Obj}
def aEp {R:Result->Shared->Prop}(i:h.get? a=some o)(e:o.cls=.type "function")(hq:R (.ok (.ret (.type "function"))) ⟨h,g,d,t,os⟩) :
  codeAny (model prog w) A (.call (.builtin "getset_descriptor.__get__") ⟨[.builtin "object.__class__",.ref a,.type "function"],[]⟩) R ⟨h,g,d,t,os⟩:=by
 have f:(⟨h,g,d,t,os⟩:Shared).TypeIs (.ref a) "function":=⟨_,i,e⟩;have b:(⟨h,g,d,t,os⟩:Shared).TypeIs (.builtin "object.__class__") "getset_descriptor":=F.typeOf_object_class;have c:=IfF.wW;refine bCC F.slot_gs_get.plain F.entry_gs_get (F.slot_gs_get.check _ _ _ _ _ _ _ _ b (F.args_gs_get _ _ _) ?_)
 repeat (any_goals (first|assumption|wp_step))
 refine⟨Code.quiet_builtin _ (by trivial),bBT F.entry_object_class ?_⟩
 repeat (any_goals (first|assumption|wp_step))
def aAl {tk:Tok}{Q:Fin->Shared->Prop}(e:h.get? a=some o)(c:o.cls=.type "function")(hq:Q (.done (.ret (.type "function"))) ⟨h,g,d,t,os⟩) :
  wpAny (model prog w) A (Builtin.«object.__getattribute__» ⟨[.ref a,.str "__class__" tk],[]⟩) Q E ⟨h,g,d,t,os⟩:=by
 have k:(⟨h,g,d,t,os⟩:Shared).TypeIs (.ref a) "function":=⟨_,e,c⟩;have b:(⟨h,g,d,t,os⟩:Shared).TypeIs (.builtin "object.__class__") "getset_descriptor":=F.typeOf_object_class;have j:=IfF.aS9;have f:=F.typeOf_object_class;have l:=F.slot_gs_get.lookup;have i:=F.slot_gs_set.lookup
 repeat (any_goals (first|assumption|wp_step))
 refine aEp e c ?_
 repeat (any_goals (first|assumption|wp_step))
def aGq {tk:Tok}{Q:bE5}(e:h.get? a=some o)(b:o.cls=.type "function")(hq:Q (.type "function") ⟨h,g,d,t,os⟩):wpAny (model prog w) A (getAttrBy (.ref a) (.str "__class__" tk) false) Q E ⟨h,g,d,t,os⟩:=by
 have c:(⟨h,g,d,t,os⟩:Shared).TypeIs (.ref a) "function":=⟨_,e,b⟩;have i:=IfF.xV.lookup;have f:=IfF.xV.bind (.ref a)
 repeat (any_goals (first|assumption|wp_step))
 refine bCC IfF.xV.plain IfF.aR7 (IfF.xV.check _ _ _ _ _ _ _ _ c (F.args_object_getattribute_2 _ _) (aAl e b ?_))
 repeat (any_goals (first|assumption|wp_step))
def aBj {Q:Option Value->Shared->Prop}(c:h.get? a=some o)(b:o.cls=.type "function")(hq:Q (some (.type "function")) ⟨h,g,d,t+1,os⟩):wpAny (model prog w) A (getAttr? (.ref a) "__class__") Q E ⟨h,g,d,t,os⟩:=by
 unfold getAttr? getAttrBy?
 repeat (any_goals (first|assumption|with_reducible apply aGq c b|wp_step))
def aBt {T:String}{dep:Int}{tk:Tok}{Q:Fin->Shared->Prop}(c:h.get? a=some o)(b:o.cls=.type "function")(hne:(Value.type "function" == Value.type T)=false)(hty:typeOf (.type T)=pure (.type "type"))
  (hsub:isSubtype (.type "function") (.type T)=pure false) (hq:Q (.done (.ret (.bool false))) ⟨h,g,d,t+1,os⟩) :
  wpAny (model prog w) A (Builtin.«isinstance.nested» ⟨[.ref a,.type T,.int dep tk],[]⟩) Q E ⟨h,g,d,t,os⟩:=by
 have e:(⟨h,g,d,t,os⟩:Shared).TypeIs (.ref a) "function":=⟨_,c,b⟩
 repeat (any_goals (first|assumption|with_reducible apply aBj c b|wp_step))
end
def lN {a:Addr}{T:String}(e:(Value.type "function" == Value.type T)=false)(i:typeOf (.type T)=pure (.type "type"))(b:isSubtype (.type "function") (.type T)=pure false) :
  Meets (Builtin.«isinstance» ⟨[.ref a,.type T],[]⟩) (λ_ R s=>(∃o,s.heap.get? a=some o/\o.cls=.type "function")/\R (.ok (.ret (.bool false))) { s with toks:=s.toks+1 }):=
 λ_ _ _ _ s c=>by obtain⟨h,g,d,t,l⟩:=s;obtain⟨⟨o,j,f⟩,k⟩:=c;exact isinstance_outer (aBt j f e i b k)
section
variable {prog:Program}{w:World}{A:Around}{E:bE5}{s:Shared}{Q:bE5}{a:Addr}{o:Obj}
def aJq (c:s.heap.get? a=some o)(b:o.cls=.type "function")(h:Q (.bool false) { s with toks:=s.toks+1 }):wpAny (model prog w) A (call (.builtin "isinstance") [.ref a,.type "int"]) Q E s:=
 call_isinstance (lN (by decide) F.isi_meta_int IfF.sub_int) ⟨⟨o,c,b⟩,h⟩
def aIf (c:s.heap.get? a=some o)(b:o.cls=.type "function")(h:Q (.bool false) { s with toks:=s.toks+1 }):wpAny (model prog w) A (call (.builtin "isinstance") [.ref a,.type "bool"]) Q E s:=
 call_isinstance (lN (by decide) F.isi_meta_bool IfF.sub_bool) ⟨⟨o,c,b⟩,h⟩
def aJ3 (c:s.heap.get? a=some o)(b:o.cls=.type "function")(h:Q (.bool false) { s with toks:=s.toks+1 }):wpAny (model prog w) A (call (.builtin "isinstance") [.ref a,.type "str"]) Q E s:=
 call_isinstance (lN (by decide) F.isi_meta_str IfF.aWf) ⟨⟨o,c,b⟩,h⟩
end
end PySem
namespace L2
open PySem PySem.Spec PyProof.Rows
section
variable {X:Cx}
def PE.imp {e:Expr}{t t':TE}(h:PE X e t)(k:∀σ H Q,t' σ H Q->t σ H Q):PE X e t':=λa s σ H Q I q=>h a s σ H Q I (k σ H Q q)
def bBw (K:bE4):List V->Hp->VK->Prop:=λxs H Q=>∃(p:Addr) (bs:List Bool),xs=[.ref p]/\SqL K H p (bs.map V.bl)/\Q (.bl (bs.all id)) H
def all_range (bs:List Bool):(List.range bs.length).all (λi=>bs.getD i false)=bs.all id:=by
 rw[bCG,bCM,bCM];constructor
 ·intro h b c;obtain⟨i,a,e⟩:=List.mem_iff_getElem.mp c;have:=h i (List.mem_range.mpr a);rw[v7,b8 a] at this;rw[<-e];exact this
 ·intro h i a;have a:=List.mem_range.mp a;rw[v7,b8 a];exact h _ (bBH a)
def iM (M:X.calm=true):bR X (.builtin "all") (bBw X.K):=by
 intro B s σ H S O Q I r h;obtain⟨p,a,rfl,C,q⟩:=h;obtain⟨u,rfl,G⟩:=r.one;cases G;obtain⟨d,m,k,R⟩:=I.list C;have g:=m.length;rw[j0] at g;have j:p≠s.heap.objs.size:=by obtain⟨o,w,_⟩:=k.isList;exact v6 (j7 w)
 refine call_all_walk (bCS k.isList ?_);refine⟨s.heap.objs.size,_,_,_,_,_,λi=>a.getD i false,rfl,Walks.list (show X.A.in1.handled=none from I.ok.hd M) _ p j d.toArray,⟨⟨_,j4 _ rfl,rfl,rfl⟩,?_⟩,?_,λN L E=>?_⟩
 ·exact k.isList.at λo e=>d7 _ e
 ·intro i v J y P F c;have f:d[i]?=some v:=by simpa using F
  have t:i<a.length:=by rw[g];exact (List.getElem?_eq_some_iff.mp f).1
  obtain⟨u,n,D⟩:=m.get (i:=i) (x:=.bl a[i]) (by rw[m5,b8 t];rfl);rw[f] at n;cases n;cases D;have e:a.getD i false=a[i]:=by rw[v7,b8 t];rfl
  replace c:y (a.getD i false) J:=c;rw[e] at c;exact bBD c
 ·have e:(List.range d.toArray.size).all (λi=>a.getD i false)=a.all id:=by rw[j6,<-g];exact all_range a
  rw[e];refine⟨.bl (a.all id),H,?_,rfl,q⟩;exact I.kept λb o l=>E b o (by
   intro z;have:b=s.heap.objs.size:=by simpa using z
   rw[this] at l;exact absurd (j7 l) (bBO _)) (d7 _ l)
inductive Rk (K:bE4)(H:Hp):V->String->Prop
 |non:Rk K H .non "NoneType"
 |lst {a xs}:SqL K H a xs->Rk K H (.ref a) "list"
 |tup {a xs}:SqT K H a xs->Rk K H (.ref a) "tuple"
 |dct {a kvs}:H a=some (.dK kvs)->Rk K H (.ref a) "dict"
 |fn {a o}:K.lookup a=some o->o.cls=.type "function"->Rk K H (.ref a) "function"
def aWx (K:bE4):List V->Hp->VK->Prop:=λxs H Q=>∃x k T,xs=[x,.ty T]/\Rk K H x k/\(T = "int"\/T = "bool"\/T = "str")/\Q (.bl false) H
def oV:bR X (.builtin "isinstance") (aWx X.K):=by
 intro i s σ H t w Q I r h;obtain⟨x,k,T,rfl,l,b,q⟩:=h;obtain⟨u,v,rfl,d,p⟩:=r.two;cases p;have a:EP X i σ Q (.bool false) { s with toks:=s.toks+1 }:=⟨.bl _,H,I.tok _,rfl,q⟩;cases l with
 |non=>
  cases d;rcases b with rfl|rfl|rfl
  ·exact IsiPair.NoneType_int a
  ·exact IsiPair.NoneType_bool a
  ·exact IsiPair.NoneType_str a
 |lst hq=>
  cases d;obtain⟨g,j,⟨o,n,e,c,_⟩,m⟩:=I.list hq;rcases b with rfl|rfl|rfl
  ·exact IsiPair.list_int e c a
  ·exact IsiPair.list_bool e c a
  ·exact IsiPair.list_str e c a
 |tup hq=>
  cases d;obtain⟨g,j,⟨o,e,c,_⟩,m⟩:=I.tuple hq;rcases b with rfl|rfl|rfl
  ·exact IsiPair.tuple_int e c a
  ·exact IsiPair.tuple_bool e c a
  ·exact IsiPair.tuple_str e c a
 |dct hq=>
  cases d;obtain⟨_,_,_,_,o,_,_,e,f,_⟩:=I.hok _ _ hq;rcases b with rfl|rfl|rfl
  ·exact IsiPair.dict_int e f.1 a
  ·exact IsiPair.dict_bool e f.1 a
  ·exact IsiPair.dict_str e f.1 a
 |fn hk hc=>
  cases d;have e:=I.kIn _ _ hk;rcases b with rfl|rfl|rfl
  ·exact aJq e hc a
  ·exact aIf e hc a
  ·exact aJ3 e hc a
end
def gR {X:Cx}{scope:Scope}(h:∀z∈scope.names,z.2≠.free:=by trivial):∀y,(y,NameKind.free)∈scope.names->X.env.kindOf y=some .cell\/X.env.kindOf y=some .free:=λy a=>absurd rfl (h _ a)
def jP {X:Cx}{scope:Scope}(sc:Scope)(e:X.env.scope=sc:=by rfl)(h:∀z∈scope.names,z.2=.free->sc.names.lookup z.1=some .cell\/sc.names.lookup z.1=some .free:=by trivial) :
  ∀y,(y,NameKind.free)∈scope.names->X.env.kindOf y=some .cell\/X.env.kindOf y=some .free:=λy a=>by
 show X.env.scope.names.lookup y=some .cell\/X.env.scope.names.lookup y=some .free;rw[e];exact h _ a rfl
def Same.bA {K:bE4}{H H':Hp}{a:Addr}{xs:List V}(e:Same H H')(h:SqT K H a xs):SqT K H' a xs:=by
 rcases h with (h|⟨o,h⟩)|h
 ·exact .inl (.inl (e _ _ h))
 ·exact .inl (.inr ⟨o,e _ _ h⟩)
 ·exact .inr h
def aR {H:Hp}{p:Addr}(h:H p=none)(o:HO):Same H (upd H p o):=λb u q=>by rw[aJ (aV q h)];exact q
def Rk.same {K:bE4}{H H':Hp}{v:V}{k:String}(e:Same H H')(h:Rk K H v k):Rk K H' v k:=by
 cases h with
 |non=>exact .non
 |lst q=>exact .lst (e.seq q)
 |tup q=>exact .tup (e.bA q)
 |dct q=>exact .dct (e _ _ q)
 |fn q c=>exact .fn q c
def uX {X:Cx}{scope:Scope}{x:Str}{σ:St}:Cap X scope [x] σ [none]:=⟨rfl,λi y v _ a=>by
 cases i with
 |zero=>cases a
 |succ i=>cases a⟩
def aPe {X:Cx}{scope:Scope}{N:List Str}{wi:TI}{te:TE}{σ:St}{H:Hp}{Q:VK}(xs:List V)(f:V->V)(s:St)(t:Cap X scope N σ s)(hsz:xs.length<=sizeLine)
  (u:∀R:It->Hp->Prop,(∀J:It,(∀H' i x,Same H H'->xs[i]?=some x->J.go i H'/\∀y H2,J.yld i H' y H2->H2=H'/\y=x)->(∀H',Same H H'->J.stop xs.length H')->R J H)->wi σ H R)
  (v:∀x∈xs,∀H' R l,Same H H'->R (f x) H'->te ((s.set 0 l).set 0 (some x)) H' R) (w:s[0]?=some none)
  (q:∀D,H D=none->Q (.ref D) (upd H D (.lst (xs.map f)))) :
  gK X scope N wi (bU 0) lJ te σ H Q:=by
 refine⟨s,t,u _ λJ go stop D g=>?_⟩;have d:∀c:List V,Same H (upd H D (.lst c)):=λc b o e=>by rw[aJ (aV e g)];exact e
 refine⟨λi m h H' c=>i<=xs.length/\m=xs.length - i/\(∃l,h=s.set 0 l)/\H'=upd H D (.lst c)/\c=(xs.take i).map f,⟨xs.length,bAS _,rfl,⟨none,?_⟩,rfl,rfl⟩,?_⟩
 ·refine (bCT λj=>?_);rw[List.getElem?_set]
  split
  ·rename_i n;subst n
   split
   ·exact w
   ·rename_i a;exact List.getElem?_eq_none_iff.mpr (by lia)
  ·rfl
 ·rintro i m h H' c ⟨hi,rfl,⟨l,rfl⟩,rfl,rfl⟩;refine⟨aH,?_⟩;by_cases a:i<xs.length
  ·right;obtain⟨p,k⟩:=go (upd H D (.lst ((xs.take i).map f))) i xs[i] (d _) (b8 a);refine⟨p,λx H2 r=>?_⟩;obtain⟨rfl,rfl⟩:=k x H2 r;unfold bU lJ;dsimp only;rw[if_pos rfl];refine v xs[i] (bBH a) _ _ l (d _) ⟨aH,?_,xs.length - (i+1),by lia,a,rfl,⟨some xs[i],?_⟩,?_,?_⟩
   ·rw[j0,bAT];lia
   ·rw[bCQ]
   ·rw[aMu]
   ·rw[bBR,b8 a,bBU];rfl
  ·left;have e:i=xs.length:=by lia
   subst e;refine⟨stop _ (d _),?_⟩;rw[bDU];exact q D g
def aXo {z:Str}{tl:TE}{σ:St}{H:Hp}(h:∀R:VK,R (.str z) H->tl σ H R)(R:It->Hp->Prop)
  (q:∀J:It,(∀H' i x,Same H H'->((List.range z.cps.size).map λi=>V.str (sgn z i))[i]?=some x->J.go i H'/\∀y H2,J.yld i H' y H2->H2=H'/\y=x) ->
   (∀H',Same H H'->J.stop ((List.range z.cps.size).map λi=>V.str (sgn z i)).length H')->R J H):aZ6 tl σ H R:=by
 refine h _ ⟨z,rfl,q _ (λH' i x _ e=>?_) λH' _=>?_⟩
 ·rw[m5] at e;have b:i<z.cps.size:=by
   cases a:(List.range z.cps.size)[i]? with
   |none=>rw[a] at e;cases e
   |some j=>have:=(List.getElem?_eq_some_iff.mp a).1;rwa [bAL] at this
  rw[bC5 b] at e;cases e;exact⟨b,λy H2 c=>c⟩
 ·rw[j0,bAL];exact j5 _
def aWg {K:bE4}{a:Addr}{xs:List V}{tl:TE}{σ:St}{H:Hp}(b:∀H',Same H H'->SqL K H' a xs)(h:∀R:VK,R (.ref a) H->tl σ H R)(R:It->Hp->Prop)
  (q:∀J:It,(∀H' i x,Same H H'->xs[i]?=some x->J.go i H'/\∀y H2,J.yld i H' y H2->H2=H'/\y=x)->(∀H',Same H H'->J.stop xs.length H')->R J H):aCj K tl σ H R:=by
 refine h _ ⟨a,rfl,⟨xs,b H (Same.refl H)⟩,q _ (λH' i x s e=>⟨⟨xs,x,b H' s,e⟩,λy H2 d=>?_⟩) λH' s=>⟨xs,b H' s,j5 _⟩⟩;obtain⟨f,g⟩:=d;have c:=g xs (b H' s);rw[e] at c;cases c;exact⟨f,rfl⟩
end L2
namespace PySem
abbrev aUz (t:Addr)(i:Nat):Obj:={ cls:=.type "tuple_iterator",data:=.fields #[.ref t,.int (i:Int) 0] }
abbrev aVs (t:Addr)(i:Nat):Obj:={ cls:=.type "list_iterator",data:=.fields #[.ref t,.int (i:Int) 0] }
abbrev pG (f0:Value)(TI TO:Addr):Obj:={ cls:=.type "zip",dict:=none,data:=.fields #[f0,.bool false,.bool false,.ref TI,.ref TO],slots:=#[] }
abbrev jA (a b:Value):Obj:={ cls:=.type "tuple",data:=.seq #[a,b] }
section
variable {prog:Program}{w:World}{A:Around}{E:bE5}{s:Shared}
def aJs {it t:Addr}{i:Nat}{its:Array Value}{x:Value}{Q:bE5}(a:s.heap.get? it=some (aUz t i))(f:s.heap.IsTuple t its)(g:its[i]?=some x)
  (q:∀h',h'.get? it=some (aUz t (i+1))->Heap.SameBut it s.heap h'->Q x { s with heap:=h' }):wpAny (model prog w) A (Builtin.SmallTypes.nextOf (.ref it)) Q E s:=by
 have d:s.TypeIs (.ref it) "tuple_iterator":=⟨_,a,rfl⟩;obtain⟨e,c,_,h,b⟩:=f;unfold Builtin.SmallTypes.nextOf;refine b7 (bAI (name:=Str.ofString "__next__") d F.slot_tuple_iterator_next (bAH F.slot_tuple_iterator_next d F.entry_tuple_iterator_next ?_ (F.args_tuple_iterator_next_1 _)));refine b7 (m:=field (.ref it) 0) (bAM a rfl (x:=.ref t) rfl ?_);refine (if_neg (show ¬ ((Value.ref t == Value.none)=true) from m7)).symm ▸ ?_;refine b7 (m:=field (.ref it) 1) (bAM a rfl (x:=.int i 0) rfl ?_);refine b7 (m:=seqItems? (.ref t)) (bBM c b ?_);simp only[bAN,g];refine b7 (bBY a rfl (by simp) (d8 ⟨x,rfl,d8 (q _ ?_ (bBQ ..))⟩));exact bAU _ a rfl
def aAk {it t:Addr}{i:Nat}{its:Array Value}{Q:bE5}(g:A.handled=none)(c:s.heap.get? it=some (aUz t i))(j:s.heap.IsTuple t its)(k:its[i]?=none)
  (q:∀h' e,Heap.ExtBut it s.heap h'->(∃o,h'.get? e=some o/\o.cls=.type "StopIteration")->E (.ref e) { s with heap:=h' }):wpAny (model prog w) A (Builtin.SmallTypes.nextOf (.ref it)) Q E s:=by
 have f:s.TypeIs (.ref it) "tuple_iterator":=⟨_,c,rfl⟩;obtain⟨h,d,_,l,b⟩:=j;unfold Builtin.SmallTypes.nextOf;refine b7 (bAI (name:=Str.ofString "__next__") f F.slot_tuple_iterator_next (bAH F.slot_tuple_iterator_next f F.entry_tuple_iterator_next ?_ (F.args_tuple_iterator_next_1 _)));refine b7 (m:=field (.ref it) 0) (bAM c rfl (x:=.ref t) rfl ?_);refine (if_neg (show ¬ ((Value.ref t == Value.none)=true) from m7)).symm ▸ ?_;refine b7 (m:=field (.ref it) 1) (bAM c rfl (x:=.int i 0) rfl ?_);refine b7 (m:=seqItems? (.ref t)) (bBM d b ?_);simp only[bAN,k];refine b7 (bCU (b7 (bBY c rfl (by simp) ?_)));unfold Builtin.SmallTypes.stopIteration;refine b7 ?_;simp only[newExc,newTuple];refine b7 (bAF ?_ (by size_fits));refine b7 (m:=firstArgMember _ _) (bEH (a:=Value.none) (by first|rfl|(simp only[firstArgMember];rfl)) ?_);refine bAF ?_ (by size_fits);simp only[raiseNew];refine b7 (bEE ?_);first|rw[show A.in1.handled=none from g]|rw[g]
 refine b7 (d8 (bE0 ?_));exact q _ _ (((bBQ ..).extBut.push _).push _) ⟨_,j4 _ rfl,rfl⟩
def aJn {it t:Addr}{i:Nat}{its:Array Value}{x:Value}{Q:bE5}(a:s.heap.get? it=some (aVs t i))(f:s.heap.IsList t its)(g:its[i]?=some x)
  (q:∀h',h'.get? it=some (aVs t (i+1))->Heap.SameBut it s.heap h'->Q x { s with heap:=h' }):wpAny (model prog w) A (Builtin.SmallTypes.nextOf (.ref it)) Q E s:=by
 have d:s.TypeIs (.ref it) "list_iterator":=⟨_,a,rfl⟩;obtain⟨e,c,_,h,b⟩:=f;unfold Builtin.SmallTypes.nextOf;refine b7 (bAI (name:=Str.ofString "__next__") d slot_listiter_next (bAH slot_listiter_next d entry_listiter_next ?_ (args_listiter_next _)));refine b7 (m:=field (.ref it) 0) (bAM a rfl (x:=.ref t) rfl ?_);refine (if_neg (show ¬ ((Value.ref t == Value.none)=true) from m7)).symm ▸ ?_;refine b7 (m:=field (.ref it) 1) (bAM a rfl (x:=.int i 0) rfl ?_);refine b7 (m:=seqItems? (.ref t)) (bBM c b ?_);simp only[bAN,g];refine b7 (bBY a rfl (by simp) (d8 ⟨x,rfl,d8 (q _ ?_ (bBQ ..))⟩));exact bAU _ a rfl
def zE {it t:Addr}{i:Nat}{its:Array Value}{Q:bE5}(g:A.handled=none)(c:s.heap.get? it=some (aVs t i))(j:s.heap.IsList t its)(k:its[i]?=none)
  (q:∀h' e,Heap.ExtBut it s.heap h'->(∃o,h'.get? e=some o/\o.cls=.type "StopIteration")->E (.ref e) { s with heap:=h' }):wpAny (model prog w) A (Builtin.SmallTypes.nextOf (.ref it)) Q E s:=by
 have f:s.TypeIs (.ref it) "list_iterator":=⟨_,c,rfl⟩;obtain⟨h,d,_,l,b⟩:=j;unfold Builtin.SmallTypes.nextOf;refine b7 (bAI (name:=Str.ofString "__next__") f slot_listiter_next (bAH slot_listiter_next f entry_listiter_next ?_ (args_listiter_next _)));refine b7 (m:=field (.ref it) 0) (bAM c rfl (x:=.ref t) rfl ?_);refine (if_neg (show ¬ ((Value.ref t == Value.none)=true) from m7)).symm ▸ ?_;refine b7 (m:=field (.ref it) 1) (bAM c rfl (x:=.int i 0) rfl ?_);refine b7 (m:=seqItems? (.ref t)) (bBM d b ?_);simp only[bAN,k];refine b7 (bCU (b7 (bBY c rfl (by simp) ?_)));unfold Builtin.SmallTypes.stopIteration;refine b7 ?_;simp only[newExc,newTuple];refine b7 (bAF ?_ (by size_fits));refine b7 (m:=firstArgMember _ _) (bEH (a:=Value.none) (by first|rfl|(simp only[firstArgMember];rfl)) ?_);refine bAF ?_ (by size_fits);simp only[raiseNew];refine b7 (bEE ?_);first|rw[show A.in1.handled=none from g]|rw[g]
 refine b7 (d8 (bE0 ?_));exact q _ _ (((bBQ ..).extBut.push _).push _) ⟨_,j4 _ rfl,rfl⟩
def itO:Bool->Addr->Nat->Obj
 |true=>aVs
 |false=>aUz
def Heap.rC (h:Heap):Bool->Addr->Array Value->Prop
 |true=>h.IsList
 |false=>h.IsTuple
def Heap.rC.extBut {b:Bool}{h h':Heap}{x t:Addr}{its:Array Value}(p:h.rC b t its)(e:Heap.ExtBut x h h')(n:t≠x):h'.rC b t its:=by
 cases b
 ·exact Heap.IsTuple.extBut p e n
 ·exact Heap.IsList.extBut p e n
def uT {L:Bool}{it t:Addr}{i:Nat}{its:Array Value}{x:Value}{Q:bE5}(a:s.heap.get? it=some (itO L t i))(c:s.heap.rC L t its)(b:its[i]?=some x)
  (q:∀h',h'.get? it=some (itO L t (i+1))->Heap.SameBut it s.heap h'->Q x { s with heap:=h' }):wpAny (model prog w) A (Builtin.SmallTypes.nextOf (.ref it)) Q E s:=by
 cases L
 ·exact aJs a c b q
 ·exact aJn a c b q
def pY {L:Bool}{it t:Addr}{i:Nat}{its:Array Value}{Q:bE5}(b:A.handled=none)(a:s.heap.get? it=some (itO L t i))(d:s.heap.rC L t its)(c:its[i]?=none)
  (q:∀h' e,Heap.ExtBut it s.heap h'->(∃o,h'.get? e=some o/\o.cls=.type "StopIteration")->E (.ref e) { s with heap:=h' }):wpAny (model prog w) A (Builtin.SmallTypes.nextOf (.ref it)) Q E s:=by
 cases L
 ·exact aAk b a d c q
 ·exact zE b a d c q
structure uW (z TI TO a b:Addr):Prop where
 h1:TI≠z
 h2:TO≠z
 h3:a≠z
 h4:b≠z
 h5:TI≠TO
 h6:TI≠a
 h7:TI≠b
 h8:TO≠a
 h9:TO≠b
 h10:a≠b
def aDy {T:Addr}{a b x:Value}{k:Nat}{Q:Unit->Shared->Prop}(c:s.heap.get? T=some (jA a b))
  (q:∀h',h'.get? T=some { cls:=.type "tuple",data:=.seq ((#[a,b]:Array Value).setIfInBounds k x) }->Heap.SameBut T s.heap h'->Q () { s with heap:=h' }) :
  wpAny (model prog w) A (updateSeq T (·.setIfInBounds k x)) Q E s:=by
 refine wpAny_updateSeq c rfl (q _ ?_ (bBQ ..));rw[bAU _ c rfl];simp[Obj.mapSeq]
def aOv {L:Bool}{z TI TO i1 i2 t u:Addr}{k:Nat}{xs ys:Array Value}{x y a b:Value}{Q:Option Value->Shared->Prop}(D:uW z TI TO i1 i2)
  (hz:s.heap.get? z=some (pG .none TI TO)) (a0:s.heap.get? TI=some (jA (.ref i1) (.ref i2))) (a1:s.heap.get? TO=some (jA a b))
  (g1:s.heap.get? i1=some (itO L t k)) (g2:s.heap.get? i2=some (itO L u k)) (ht:s.heap.rC L t xs) (hu:s.heap.rC L u ys) (hx:xs[k]?=some x) (hy:ys[k]?=some y)
  (t1:t≠z) (t2:t≠TO) (t3:t≠i1) (t4:t≠i2) (u1:u≠z) (u2:u≠TO) (u3:u≠i1) (u4:u≠i2)
  (q:∀h',h'.get? z=some (pG (rawInt s.heap.objs.size) TI TO)->h'.get? TO=some (jA x y)->h'.get? i1=some (itO L t (k+1))->h'.get? i2=some (itO L u (k+1))->h'.get? s.heap.objs.size=some (jA x y) ->
   (∀c o,c≠z->c≠TO->c≠i1->c≠i2->s.heap.get? c=some o->h'.get? c=some o)->Q (some (.ref s.heap.objs.size)) { s with heap:=h' }) :
  wpAny (model prog w) A (pyNext (.ref z)) Q E s:=by
 have hT:s.TypeIs (.ref z) "zip":=⟨_,hz,rfl⟩;unfold pyNext;refine b7 (bBZ (bAI (name:=Str.ofString "__next__") hT F.slot_zip_next (bAH F.slot_zip_next hT F.entry_zip_next ?_ (F.args_zip_next_1 _))));refine b7 (m:=field (.ref z) 2) (bAM hz rfl (x:=.bool false) rfl ?_);refine b7 (m:=field (.ref z) 3) (bAM hz rfl (x:=.ref TI) rfl (b7 (bBM a0 rfl ?_)));refine b7 (m:=Builtin.SmallTypes.ownedTupleIsFree (.ref z)) ?_;unfold Builtin.SmallTypes.ownedTupleIsFree;refine b7 (bAM hz rfl (x:=.none) rfl (d8 ?_));simp only[if_true];refine b7 (bCU (b7 (bAM hz rfl (x:=.ref TO) rfl (b7 (bAR hz (by simp) λh1 K g=>?_)))));replace K:h1.get? z=some (pG .ellipsis TI TO):=K;refine b7 ?_;simp only[List.zipIdx_cons,List.zipIdx_nil,bDJ,bER];refine b7 (b7 (bDY ?_));refine b7 (m:=Builtin.SmallTypes.nextOf (.ref i1)) (uT (s:={ s with heap:=h1 }) (g.extBut _ _ D.h3 g1) (ht.extBut g.extBut t1) hx λY R l=>d8 ?_);have v:Y.get? TO=some (jA a b):=l.extBut _ _ D.h8 (g.extBut _ _ D.h2 a1);refine b7 (bBM v rfl (b7 (aDy (s:={ s with heap:=Y }) v λZ i j=>b7 (bE1 (d8 ?_)))));replace i:Z.get? TO=some (jA x b):=i;refine b7 (b7 (bDY ?_));refine b7 (m:=Builtin.SmallTypes.nextOf (.ref i2)) (uT (s:={ s with heap:=Z }) (j.extBut _ _ D.h9.symm (l.extBut _ _ D.h10.symm (g.extBut _ _ D.h4 g2))) (((hu.extBut g.extBut u1).extBut l.extBut u3).extBut j.extBut u2) hy λh4 P n=>d8 ?_);have B:h4.get? TO=some (jA x b):=n.extBut _ _ D.h9 i;refine b7 (bBM B rfl (b7 (aDy (s:={ s with heap:=h4 }) B λd f r=>b7 (bE1 (d8 (d8 ?_))))));replace f:d.get? TO=some (jA x y):=f;refine b7 (bBM f rfl (b7 (bES ?_)));have p:d.objs.size=s.heap.objs.size:=by rw[r.1,n.1,j.1,l.1,g.1]
 have W:d.get? z=some (pG .ellipsis TI TO):=r.extBut _ _ D.h2.symm (n.extBut _ _ D.h4.symm (j.extBut _ _ D.h2.symm (l.extBut _ _ D.h3.symm K)));have kp:∀c o,c≠z->c≠TO->c≠i1->c≠i2->s.heap.get? c=some o->d.get? c=some o:=λc o h C J N e=>r.extBut _ _ C (n.extBut _ _ N (j.extBut _ _ C (l.extBut _ _ J (g.extBut _ _ h e))));have O:d.get? i1=some (itO L t (k+1)):=r.extBut _ _ D.h8.symm (n.extBut _ _ D.h10 (j.extBut _ _ D.h8.symm R));have S:d.get? i2=some (itO L u (k+1)):=r.extBut _ _ D.h9.symm P;refine b7 (m:=Builtin.SmallTypes.ownedTupleHandOut (.ref z) (.ref d.objs.size)) ?_;unfold Builtin.SmallTypes.ownedTupleHandOut;have z6:(d.push (jA x y)).get? z=some (pG .ellipsis TI TO):=d7 _ W;refine b7 (bAR z6 (by simp) λh7 M X=>?_);replace M:h7.get? z=some (pG (rawInt d.objs.size) TI TO):=M;refine bAR M (by simp) λI H T=>?_;replace H:I.get? z=some (pG (rawInt d.objs.size) TI TO):=H;have G:∀c o,c≠z->d.get? c=some o->I.get? c=some o:=λc o h e=>T.extBut _ _ h (X.extBut _ _ h (d7 _ e));have U:d.objs.size≠z:=bCP (j7 W);have V:I.get? d.objs.size=some (jA x y):=T.extBut _ _ U (X.extBut _ _ U (j4 _ rfl));rw[p] at H V;refine d8 ⟨_,rfl,d8 ?_⟩;show Q (some (.ref d.objs.size)) _;rw[p];exact q I H (G _ _ D.h2 f) (G _ _ D.h3 O) (G _ _ D.h4 S) V λc o h C J N e=>G c o h (kp c o h C J N e)
def aQ0 {L:Bool}{z TI TO i1 i2 t u:Addr}{k:Nat}{xs ys:Array Value}{x a b:Value}{Q:Option Value->Shared->Prop}(V:A.handled=none)(D:uW z TI TO i1 i2)
  (hz:s.heap.get? z=some (pG .none TI TO)) (P:s.heap.get? TI=some (jA (.ref i1) (.ref i2))) (U:s.heap.get? TO=some (jA a b))
  (X:s.heap.get? i1=some (itO L t k)) (W:s.heap.get? i2=some (itO L u k)) (Z:s.heap.rC L t xs) (hu:s.heap.rC L u ys) (hx:xs[k]?=some x) (hy:ys[k]?=none) (Y:t≠z) (u1:u≠z) (u2:u≠TO) (u3:u≠i1)
  (q:∀h',(∀c o,c≠z->c≠TO->c≠i1->c≠i2->s.heap.get? c=some o->h'.get? c=some o)->Q none { s with heap:=h' }) :
  wpAny (model prog w) A (pyNext (.ref z)) Q E s:=by
 have I:s.TypeIs (.ref z) "zip":=⟨_,hz,rfl⟩;unfold pyNext;refine b7 (bBZ (bAI (name:=Str.ofString "__next__") I F.slot_zip_next (bAH F.slot_zip_next I F.entry_zip_next ?_ (F.args_zip_next_1 _))));refine b7 (m:=field (.ref z) 2) (bAM hz rfl (x:=.bool false) rfl ?_);refine b7 (m:=field (.ref z) 3) (bAM hz rfl (x:=.ref TI) rfl (b7 (bBM P rfl ?_)));refine b7 (m:=Builtin.SmallTypes.ownedTupleIsFree (.ref z)) ?_;unfold Builtin.SmallTypes.ownedTupleIsFree;refine b7 (bAM hz rfl (x:=.none) rfl (d8 ?_));simp only[if_true];refine b7 (bCU (b7 (bAM hz rfl (x:=.ref TO) rfl (b7 (bAR hz (by simp) λH p f=>?_)))));replace p:H.get? z=some (pG .ellipsis TI TO):=p;refine b7 ?_;simp only[List.zipIdx_cons,List.zipIdx_nil,bDJ,bER];refine b7 (b7 (bDY ?_));refine b7 (m:=Builtin.SmallTypes.nextOf (.ref i1)) (uT (s:={ s with heap:=H }) (f.extBut _ _ D.h3 X) (Z.extBut f.extBut Y) hx λB R i=>d8 ?_);have h:B.get? TO=some (jA a b):=i.extBut _ _ D.h8 (f.extBut _ _ D.h2 U);refine b7 (bBM h rfl (b7 (aDy (s:={ s with heap:=B }) h λC j l=>b7 (bE1 (d8 ?_)))));replace j:C.get? TO=some (jA x b):=j;refine b7 (b7 (bDY ?_));refine b7 (m:=Builtin.SmallTypes.nextOf (.ref i2)) (pY (s:={ s with heap:=C }) V (l.extBut _ _ D.h9.symm (i.extBut _ _ D.h10.symm (f.extBut _ _ D.h4 W))) (((hu.extBut f.extBut u1).extBut i.extBut u3).extBut l.extBut u2) hy λO e r S=>?_);obtain⟨K,d,g⟩:=S;have y:O.get? z=some (pG .ellipsis TI TO):=r _ _ D.h4.symm (l.extBut _ _ D.h2.symm (i.extBut _ _ D.h3.symm p));have n:e≠z:=λx=>by subst x;rw[y] at d;cases d;simp at g
 refine bAR y (by simp) λh5 _ v=>?_;refine b7 (bDA (T:="StopIteration") (b:=true) ⟨K,v.extBut _ _ n d,g⟩ isSubtype_stop ?_);exact d8 (q _ λc o G J M N x=>v.extBut _ _ G (r _ _ N (l.extBut _ _ J (i.extBut _ _ M (f.extBut _ _ G x)))))
def aCk {L:Bool}{z TI TO M i2 t:Addr}{k:Nat}{xs:Array Value}{a b:Value}{Q:Option Value->Shared->Prop}(H:A.handled=none)(D:uW z TI TO M i2)
  (hz:s.heap.get? z=some (pG .none TI TO)) (C:s.heap.get? TI=some (jA (.ref M) (.ref i2))) (hTO:s.heap.get? TO=some (jA a b))
  (K:s.heap.get? M=some (itO L t k)) (O:s.heap.rC L t xs) (J:xs[k]?=none) (N:t≠z)
  (q:∀h',(∀c o,c≠z->c≠TO->c≠M->c≠i2->s.heap.get? c=some o->h'.get? c=some o)->Q none { s with heap:=h' }) :
  wpAny (model prog w) A (pyNext (.ref z)) Q E s:=by
 have u:s.TypeIs (.ref z) "zip":=⟨_,hz,rfl⟩;unfold pyNext;refine b7 (bBZ (bAI (name:=Str.ofString "__next__") u F.slot_zip_next (bAH F.slot_zip_next u F.entry_zip_next ?_ (F.args_zip_next_1 _))));refine b7 (m:=field (.ref z) 2) (bAM hz rfl (x:=.bool false) rfl ?_);refine b7 (m:=field (.ref z) 3) (bAM hz rfl (x:=.ref TI) rfl (b7 (bBM C rfl ?_)));refine b7 (m:=Builtin.SmallTypes.ownedTupleIsFree (.ref z)) ?_;unfold Builtin.SmallTypes.ownedTupleIsFree;refine b7 (bAM hz rfl (x:=.none) rfl (d8 ?_));simp only[if_true];refine b7 (bCU (b7 (bAM hz rfl (x:=.ref TO) rfl (b7 (bAR hz (by simp) λr i g=>?_)))));replace i:r.get? z=some (pG .ellipsis TI TO):=i;refine b7 ?_;simp only[List.zipIdx_cons,List.zipIdx_nil,bDJ,bER];refine b7 (b7 (bDY ?_));refine b7 (m:=Builtin.SmallTypes.nextOf (.ref M)) (pY (s:={ s with heap:=r }) H (g.extBut _ _ D.h3 K) (O.extBut g.extBut N) J λy e n G=>?_);obtain⟨v,d,f⟩:=G;have j:y.get? z=some (pG .ellipsis TI TO):=n _ _ D.h3.symm i;have h:e≠z:=λx=>by subst x;rw[j] at d;cases d;simp at f
 refine bAR j (by simp) λI _ l=>?_;refine b7 (bDA (T:="StopIteration") (b:=true) ⟨v,l.extBut _ _ h d,f⟩ isSubtype_stop ?_);exact d8 (q _ λc o p _ B _ x=>l.extBut _ _ p (n _ _ B (g.extBut _ _ p x)))
abbrev zT1 (L:Bool)(h:Heap)(t:Addr):Heap:=h.push (itO L t 0)
abbrev zT2 (L:Bool)(h:Heap)(t u:Addr):Heap:=(zT1 L h t).push (itO L u 0)
abbrev zT3 (L:Bool)(h:Heap)(t u:Addr):Heap:=(zT2 L h t u).push (jA (.ref h.objs.size) (.ref (zT1 L h t).objs.size))
abbrev zT4 (L:Bool)(h:Heap)(t u:Addr):Heap:=(zT3 L h t u).push (jA .none .none)
abbrev zT5 (L:Bool)(h:Heap)(t u:Addr):Heap:=(zT4 L h t u).push (pG .none (zT2 L h t u).objs.size (zT3 L h t u).objs.size)
def aJb (L:Bool)(t u:Addr)(xs ys:Array Value):Meets (Builtin.«zip.__new__» ⟨[.type "zip",.ref t,.ref u],[]⟩)
  (λ_ R s=>s.heap.rC L t xs/\s.heap.rC L u ys/\R (.ok (.ret (.ref (zT4 L s.heap t u).objs.size))) { s with heap:=zT5 L s.heap t u }):=
 .of_wp λk w A R s h=>by
  obtain⟨c,g,d,b,a⟩:=s;obtain⟨m,j,h⟩:=h;have l:=sub_zip;cases L
  ·have i:Heap.IsTuple (Shared.heap ⟨c,g,d,b,a⟩) t xs:=m;have e:Heap.IsTuple (Shared.heap ⟨c.push { cls:=.type "tuple_iterator",data:=.fields #[.ref t,.int 0 0] },g,d,b,a⟩) u ys:=by obtain⟨o,f,r⟩:=j;exact⟨o,d7 _ f,r⟩
   wp_walk using bD0 i,bD0 e;exact⟨_,rfl,h⟩
  ·have i:Heap.IsList (Shared.heap ⟨c,g,d,b,a⟩) t xs:=m;have e:Heap.IsList (Shared.heap ⟨c.push { cls:=.type "list_iterator",data:=.fields #[.ref t,.int 0 0] },g,d,b,a⟩) u ys:=by obtain⟨o,f,r⟩:=j;exact⟨o,d7 _ f,r⟩
   wp_walk using bCS i,bCS e;exact⟨_,rfl,h⟩
def aN4 {L:Bool}{t u:Addr}{xs ys:Array Value}{Q:bE5}(c:s.heap.rC L t xs)(b:s.heap.rC L u ys)(q:Q (.ref (zT4 L s.heap t u).objs.size) { s with heap:=zT5 L s.heap t u }) :
  wpAny (model prog w) A (call (.type "zip") [.ref t,.ref u]) Q E s:=by
 refine callType_new F.called_zip (by decide) (F.typeCall_zip_2 _ _) (F.newCall_zip_2 _ _) (λa=>F.args_object_init_3 a _ _) F.entry_zip_new (aJb L t u xs ys) ⟨c,b,?_⟩;exact⟨⟨_,j4 _ rfl,rfl⟩,q⟩
end
end PySem
namespace L2
open PySem PySem.Spec PyProof.Rows
section
variable {X:Cx}{bE8:bE6}{σ:St}{H:Hp}{s:Shared}
def Inv.tup_ne {t b:Addr}{xs:List V}(I:Inv X bE8 σ H s)(h:SqT X.K H t xs)(f:pF X bE8 H b):t≠b:=by
 rintro rfl;obtain⟨a,i,j,c,_⟩:=f;rcases h with (h|⟨o,h⟩)|⟨o,g,n,d,_⟩
 ·rw[a] at h;cases h
 ·rw[a] at h;cases h
 ·have e:=I.ok.mod.kin t o d;rcases c with z|z
  ·exact I.ok.noex t o e z
  ·exact absurd (z9 (j7 e) (bAJ I.ok.bsz z)) (bBO _)
def Inv.aYq {t b:Addr}{xs:List V}(I:Inv X bE8 σ H s)(h:SqL X.K H t xs)(f:pF X bE8 H b):t≠b:=by
 rintro rfl;obtain⟨a,i,j,c,_⟩:=f;rcases h with (h|⟨o,h⟩)|⟨o,g,n,d,_⟩
 ·rw[a] at h;cases h
 ·rw[a] at h;cases h
 ·have e:=I.ok.mod.kin t o d;rcases c with z|z
  ·exact I.ok.noex t o e z
  ·exact absurd (z9 (j7 e) (bAJ I.ok.bsz z)) (bBO _)
def SqB (K:bE4):Bool->Hp->Addr->List V->Prop
 |true=>SqL K
 |false=>SqT K
def Inv.sq {L:Bool}{t:Addr}{xs:List V}(I:Inv X bE8 σ H s)(h:SqB X.K L H t xs):∃its:List Value,Vals xs its/\s.heap.rC L t its.toArray:=by
 cases L
 ·obtain⟨its,a,b,_⟩:=I.tuple h;exact⟨its,a,b⟩
 ·obtain⟨its,a,b,_⟩:=I.list h;exact⟨its,a,b.isList⟩
def Inv.jK {L:Bool}{t b:Addr}{xs:List V}(I:Inv X bE8 σ H s)(h:SqB X.K L H t xs)(f:pF X bE8 H b):t≠b:=by
 cases L
 ·exact I.tup_ne h f
 ·exact I.aYq h f
def Inv.drawn {ch:List Addr}{h':Heap}{vs:List V}{its:List Value}{T:Addr}(I:Inv X bE8 σ H s)(g:∀b∈ch,pF X bE8 H b)(i:∀b o,b∉ch->s.heap.get? b=some o->h'.get? b=some o)
  (A:s.heap.objs.size<=T) (F:Vals vs its) (hz:vs.length<=sizeLine) (E:wZ h' T its.toArray) (hth:∀b∈ch,∃o,h'.get? b=some o):Inv X bE8 σ (upd H T (.tup vs)) { s with heap:=h' }:=by
 have d:H T=none:=I.hok.fresh A;have l:∀b o,s.heap.get? b=some o->b≠T:=λb o e=>v6 (z9 (j7 e) A);have f:∀b u,H b=some u->b∉ch:=λb u e z=>by rw[(g b z).1] at e;cases e
 refine I.step (g':=s.gens) (d':=s.drawn) (t':=s.toks) (ch:=ch) (λb h=>?_) (λb o _ _ a e _=>i b o a e) (λb o _ _ a e _=>⟨o.slots,i b o a e⟩) (λb o a e n=>by rw[aJ (l b o e)];exact n)
  (λb o a e=>⟨o,i b o a e⟩) (λb C e=>by rw[aJ (aV e d)];exact e) (λb o u e=>by rw[aJ (aV e d)];exact e) (λb G e=>⟨#[],by rw[aJ (aV e d),e];simp⟩) (λm D=>?_) (λb u e=>?_) I.bare
 ·obtain⟨_,w,_,x,y,p⟩:=g b h;exact⟨x,w,y,p⟩
 ·obtain⟨o,B,t,j,r⟩:=D;exact⟨o,B,t,i _ o (λz=>(g _ z).2.1 rfl) j,r⟩
 ·by_cases h:b=T
  ·subst h;rw[aH] at e;cases e;exact⟨hz,its,F,E⟩
  ·rw[aJ h] at e;refine (I.hok b u e).stay (λc v k q=>i c v ?_ q) (λc q=>by rw[aJ (aV q d)];exact q) λc C q=>by rw[aJ (aV q d)];exact q
   rcases k with z|z
   ·rw[z];exact f b u e
   ·exact f c _ z
def Inv.aMv {ch:List Addr}{h':Heap}(I:Inv X bE8 σ H s)(f:∀b∈ch,pF X bE8 H b)(g:∀b o,b∉ch->s.heap.get? b=some o->h'.get? b=some o):Inv X bE8 σ H { s with heap:=h' }:=by
 have d:∀b u,H b=some u->b∉ch:=λb u e z=>by rw[(f b z).1] at e;cases e
 refine I.step (g':=s.gens) (d':=s.drawn) (t':=s.toks) (ch:=ch) (λb p=>?_) (λb o _ _ a e _=>g b o a e) (λb o _ _ a e _=>⟨o.slots,g b o a e⟩) (λ_ _ _ _ n=>n)
  (λb o a e=>⟨o,g b o a e⟩) (λ_ _ e=>e) (λ_ _ _ e=>e) (λb A e=>⟨#[],by rw[e];simp⟩) (λm y=>?_) (λb u e=>?_) I.bare
 ·obtain⟨_,l,_,t,w,j⟩:=f b p;exact⟨t,l,w,j⟩
 ·obtain⟨o,x,k,h,r⟩:=y;exact⟨o,x,k,g _ o (λz=>(f _ z).2.1 rfl) h,r⟩
 ·refine (I.hok b u e).stay (λc v i q=>g c v ?_ q) (λ_ q=>q) λ_ _ q=>q;rcases i with z|z
  ·rw[z];exact d b u e
  ·exact d c _ z
end
def ItB (K:bE4)(L:Bool)(t u:Addr)(xs ys:List V):It:=
 ⟨λi H=>SqB K L H t xs/\SqB K L H u ys/\i<xs.length/\i<ys.length,λi H v H'=>∃T a b,H T=none/\v=.ref T/\H'=upd H T (.tup [a,b])/\xs[i]?=some a/\ys[i]?=some b,λi H=>(SqB K L H t xs/\xs.length<=i)\/(SqB K L H t xs/\SqB K L H u ys/\i=ys.length/\ys.length<=xs.length)⟩
def ztn (L:Bool)(z TI TO i1 i2 t u:Addr)(i:Nat)(h:Heap):Prop:=
 h.get? z=some (pG .none TI TO)/\h.get? TI=some (jA (.ref i1) (.ref i2))/\(∃a b,h.get? TO=some (jA a b))/\h.get? i1=some (itO L t i)/\h.get? i2=some (itO L u i)
def Itz (K:bE4)(t u:Addr)(xs ys:List V):It:=
 ⟨λi H=>SqT K H t xs/\SqT K H u ys/\i<xs.length/\i<ys.length,λi H v H'=>∃T a b,H T=none/\v=.ref T/\H'=upd H T (.tup [a,b])/\xs[i]?=some a/\ys[i]?=some b,λi H=>SqT K H t xs/\xs.length<=i⟩
def aCn {P:Program}{w:World}{K:bE4}{elts:List Expr}{kt:Nat}{pos:Pos}{L:Bool}{z TI TO M R t u:Addr}{xs ys:List V}(D:uW z TI TO M R) :
  Turn P w K (.Tuple elts kt pos) (ItB K L t u xs ys) [z,TI,TO,M,R] z (ztn L z TI TO M R t u) where
 mem:=by simp
 obj:=λi h B b d=>by
  obtain⟨p,l,⟨a,c,m⟩,q,F⟩:=B;simp only[bAE,v8,or_false] at d;rcases d with rfl|rfl|rfl|rfl|rfl
  ·exact⟨_,p,λv z=>by cases (show Data.fields _=Data.cell v from z)⟩
  ·exact⟨_,l,λv z=>by cases (show Data.seq _ _=Data.cell v from z)⟩
  ·exact⟨_,m,λv z=>by cases (show Data.seq _ _=Data.cell v from z)⟩
  ·exact⟨_,q,λv z=>by cases L <;> cases (show Data.fields _=Data.cell v from z)⟩
  ·exact⟨_,F,λv z=>by cases L <;> cases (show Data.fields _=Data.cell v from z)⟩
 keep:=λi h f B k=>by obtain⟨p,l,⟨a,c,m⟩,q,F⟩:=B;exact⟨k z (by simp) _ p,k TI (by simp) _ l,⟨a,c,k TO (by simp) _ m⟩,k M (by simp) _ q,k R (by simp) _ F⟩
 item:=by
  intro X Z hw hK T i A s σ H E I j B hg;subst Z hw hK;obtain⟨p,l,⟨a0,c0,m⟩,q,F⟩:=B;obtain⟨g,n,l1,l2⟩:=hg;obtain⟨its,N,J⟩:=I.sq g;obtain⟨a7,G,Y⟩:=I.sq n;obtain⟨x,U,rx⟩:=N.get (b8 l1);obtain⟨y,hy,ry⟩:=G.get (b8 l2);have C:=j z (by simp);have S:=j TO (by simp);have W:=j M (by simp);have f2:=j R (by simp);refine aOv D p l m q F J Y (by simpa using U) (by simpa using hy) (I.jK g C) (I.jK g S) (I.jK g W) (I.jK g f2)
   (I.jK n C) (I.jK n S) (I.jK n W) (I.jK n f2) λf a1 a2 a3 a4 a5 r=>?_
  refine⟨_,rfl,?_⟩;have fT:H s.heap.objs.size=none:=I.hok.fresh (j5 _);have I1:Inv X A σ (upd H s.heap.objs.size (.tup [xs[i],ys[i]])) { s with heap:=f }:=by
   refine I.drawn (ch:=[z,TO,M,R]) (its:=[x,y]) (λb d=>?_) (λb o d e=>?_) (j5 _) (.cons rx (.cons ry .nil)) (small (by simp)) (.of a5 rfl ⟨_,a5,rfl,_,rfl⟩) (λb d=>?_)
   ·refine j b ?_;simp only[bAE,v8,or_false] at d ⊢;rcases d with h|h|h|h <;> simp[h]
   ·simp only[bAE,v8,or_false,not_or] at d;exact r b o d.1 d.2.1 d.2.2.1 d.2.2.2 e
   ·simp only[bAE,v8,or_false] at d;rcases d with rfl|rfl|rfl|rfl
    ·exact⟨_,a1⟩
    ·exact⟨_,a2⟩
    ·exact⟨_,a3⟩
    ·exact⟨_,a4⟩
  have nT:∀b∈[z,TI,TO,M,R],b≠s.heap.objs.size:=λb d=>by
   have e:∃o,s.heap.get? b=some o:=by
    simp only[bAE,v8,or_false] at d;rcases d with rfl|rfl|rfl|rfl|rfl
    ·exact⟨_,p⟩
    ·exact⟨_,l⟩
    ·exact⟨_,m⟩
    ·exact⟨_,q⟩
    ·exact⟨_,F⟩
   obtain⟨o,e⟩:=e;exact v6 (j7 e)
  refine wpAny_letOwnedTupleGo_zip (s:={ s with heap:=f }) a1 λh2 z2 Q=>?_;obtain⟨g0,g1,g2,g3,g4,g5⟩:=C;have I2:Inv X A σ (upd H s.heap.objs.size (.tup [xs[i],ys[i]])) { s with heap:=h2 }:=Inv.turned (s:={ s with heap:=f }) I1 (t':=s.toks) (it:=z) (λb o d e=>(Q.2 b d).trans e) (by rw[aJ (nT z (by simp))];exact g0) g1 g3 g4 g5;refine⟨.ref s.heap.objs.size,_,I2,rfl,⟨_,_,_,fT,rfl,rfl,b8 l1,b8 l2⟩,?_,λb d=>by rw[aJ (nT b d)];exact (j b d).1⟩;exact⟨z2,Q.extBut _ _ D.h1 (r TI _ D.h1 D.h5 D.h6 D.h7 l),⟨_,_,Q.extBut _ _ D.h2 a2⟩,Q.extBut _ _ D.h3 a3,Q.extBut _ _ D.h4 a4⟩
 done:=by
  intro X Z hw hK T i A s σ H E I j B hg;subst Z hw hK;obtain⟨p,l,⟨a0,c0,m⟩,q,F⟩:=B;have C:=j z (by simp);have S:=j TO (by simp);have W:=j M (by simp);refine (λ(go:∀f,(∀c o,c≠z->c≠TO->c≠M->c≠R->s.heap.get? c=some o->f.get? c=some o)->_)=>?_:_->_) (λf r=>(⟨rfl,?_⟩:(none:Option Value)=none/\Inv X A σ H { s with heap:=f }))
  ·rcases hg with⟨g,hl⟩|⟨g,n,hl,hle⟩
   ·obtain⟨its,N,J⟩:=I.sq g;have O:=N.length;exact aCk (I.ok.hd T) D p l m q J (by simp;lia) (I.jK g C) λf r=>go f r
   ·obtain⟨its,N,J⟩:=I.sq g;obtain⟨a7,G,Y⟩:=I.sq n;have O:=N.length;have a6:=G.length;cases U:its[i]? with
    |none=>exact aCk (I.ok.hd T) D p l m q J (by simpa using U) (I.jK g C) λf r=>go f r
    |some x=>exact aQ0 (I.ok.hd T) D p l m q F J Y (by simpa using U) (by simp;lia) (I.jK g C) (I.jK n C) (I.jK n S) (I.jK n W) λf r=>go f r
  refine Inv.aMv (ch:=[z,TO,M,R]) I (λb d=>j b ?_) λb o d e=>?_
  ·simp only[bAE,v8,or_false] at d ⊢;rcases d with h|h|h|h <;> simp[h]
  ·simp only[bAE,v8,or_false,not_or] at d;exact r b o d.1 d.2.1 d.2.2.1 d.2.2.2 e
 self:=λ_ _ _ _ _ B h=>wpAny_pyIter_zip B.1 h
section
variable {X:Cx}
def aPr (K:bE4)(ta:TA):TI:=fun σ H R=>ta σ H λvs H1=>∃t u xs ys,vs=[.ref t,.ref u]/\SqT K H1 t xs/\SqT K H1 u ys/\R (Itz K t u xs ys) H1
def aL9 (L:Bool){J:Addr->Addr->List V->List V->It}{elts:List Expr}{kt:Nat}{tp:Pos}{a b:Expr}{ta:TA}{p pos:Pos}(hT:∀{z TI TO i1 i2 t u xs ys},uW z TI TO i1 i2->Turn X.prog X.w X.K (.Tuple elts kt tp) (J t u xs ys) [z,TI,TO,i1,i2] z (ztn L z TI TO i1 i2 t u))(U:Gl X "zip")(hm:X.mg "zip"=none)(W:PA X [a,b] ta)(Z:starEach [a,b] X.env=(false,eval a X.env)::starEach [b] X.env:=by rfl)
  (G:starEach [b] X.env=[(false,eval b X.env)]:=by rfl):PI X (.Tuple elts kt tp) (.Call (.Name "zip" p) [a,b] [] pos) (fun σ H R=>ta σ H λvs H1=>∃t u xs ys,vs=[.ref t,.ref u]/\SqB X.K L H1 t xs/\SqB X.K L H1 u ys/\R (J t u xs ys) H1):=by
 intro d s σ H R I h;refine Call_ (nC I U hm aYh (bCD (thn (W pos d s σ H _ I h) λY c ⟨vs,H1,g,O,v⟩=>?_) Z (by rw[G];rfl)));obtain⟨t,u,xs,ys,e,C,F,q⟩:=v;subst e;obtain⟨S,T,P⟩:=g.sq C;obtain⟨Q,M,B⟩:=g.sq F;cases O with
 |cons r rr=>
  cases rr with
  |cons r' rr'=>
   cases rr';cases r;cases r';refine aN4 P B ?_;have i:(zT1 L c.heap t).objs.size=c.heap.objs.size+1:=bBL ..;have k:(zT2 L c.heap t u).objs.size=c.heap.objs.size+2:=by rw[bBL,i]
   have j:(zT3 L c.heap t u).objs.size=c.heap.objs.size+3:=by rw[bBL,k]
   have m:(zT4 L c.heap t u).objs.size=c.heap.objs.size+4:=by rw[bBL,j]
   have D:uW (zT4 L c.heap t u).objs.size (zT2 L c.heap t u).objs.size (zT3 L c.heap t u).objs.size c.heap.objs.size (zT1 L c.heap t).objs.size:=by constructor <;> (show (_:Nat)≠(_:Nat);rw[Ne];intro h;simp only[i,k,j,m] at h;lia)
   have n:(zT5 L c.heap t u).get? (zT4 L c.heap t u).objs.size=some (pG .none (zT2 L c.heap t u).objs.size (zT3 L c.heap t u).objs.size):=j4 _ rfl;have E:(zT5 L c.heap t u).get? (zT3 L c.heap t u).objs.size=some (jA .none .none):=d7 _ (j4 _ rfl);have N:(zT5 L c.heap t u).get? (zT2 L c.heap t u).objs.size=some (jA (.ref c.heap.objs.size) (.ref (zT1 L c.heap t).objs.size)):=d7 _ (d7 _ (j4 _ rfl));have x:(zT5 L c.heap t u).get? (zT1 L c.heap t).objs.size=some (itO L u 0):=d7 _ (d7 _ (d7 _ (j4 _ (by cases L <;> rfl))));have y:(zT5 L c.heap t u).get? c.heap.objs.size=some (itO L t 0):=d7 _ (d7 _ (d7 _ (d7 _ (j4 _ (by cases L <;> rfl)))));have A:Inv X d σ H1 { c with heap:=zT5 L c.heap t u }:=g.kept (t':=c.toks) λb o e=>d7 _ (d7 _ (d7 _ (d7 _ (d7 _ e))));refine wpAny_pyIter_zip (s:={ c with heap:=zT5 L c.heap t u }) n ⟨_,_,_,_,H1,rfl,A,hT D,⟨n,N,⟨_,_,E⟩,y,x⟩,λb l=>?_,q⟩;have f:c.heap.objs.size<=b:=by
    simp only[bAE,v8,or_false] at l;rcases l with rfl|rfl|rfl|rfl|rfl
    ·rw[m];exact bDB ..
    ·rw[k];exact bDB ..
    ·rw[j];exact bDB ..
    ·exact j5 _
    ·rw[i];exact bDB ..
   exact g.aEx f (g.hok.fresh f)
def aVw {elts:List Expr}{kt:Nat}{tp:Pos}{a b:Expr}{ta:TA}{p pos:Pos}(d:Gl X "zip")(o:X.mg "zip"=none)(m:PA X [a,b] ta)(n:starEach [a,b] X.env=(false,eval a X.env)::starEach [b] X.env:=by rfl)
  (e:starEach [b] X.env=[(false,eval b X.env)]:=by rfl):PI X (.Tuple elts kt tp) (.Call (.Name "zip" p) [a,b] [] pos) (aPr X.K ta):=
 aL9 false (J:=Itz X.K) (λD=>let T:=aCn (L:=false) D;⟨T.mem,T.obj,T.keep,T.item,λX j f g k i c s σ H E I h l d=>T.done X j f g k i c s σ H E I h l (.inl d),T.self⟩) d o m n e
inductive Tk (K:bE4)(H:Hp):V->Bool->Prop
 |int {i}:Tk K H (.int i) false
 |str {x}:Tk K H (.str x) false
 |bl {b}:Tk K H (.bl b) false
 |non:Tk K H .non false
 |lst {a xs}:SqL K H a xs->Tk K H (.ref a) false
 |dct {a kvs}:H a=some (.dK kvs)->Tk K H (.ref a) false
 |tup {a xs}:SqT K H a xs->Tk K H (.ref a) true
def bBo (K:bE4):List V->Hp->VK->Prop:=λxs H Q=>∃x b,xs=[x,.ty "tuple"]/\Tk K H x b/\Q (.bl b) H
def fW:bR X (.builtin "isinstance") (bBo X.K):=by
 intro f s σ H w y Q I r h;obtain⟨x,b,rfl,l,q⟩:=h;obtain⟨u,v,rfl,a,p⟩:=r.two;cases p;have k:EP X f σ Q (.bool b) s:=⟨.bl _,H,I,rfl,q⟩;have d:EP X f σ Q (.bool b) { s with toks:=s.toks+1 }:=⟨.bl _,H,I.tok _,rfl,q⟩;cases l with
 |int=>obtain⟨t,rfl⟩:=a;exact IsiPair.int_tuple d
 |str=>obtain⟨t,rfl⟩:=a;exact IsiPair.str_tuple d
 |bl=>cases a;exact IsiPair.bool_tuple d
 |non=>cases a;exact IsiPair.NoneType_tuple d
 |lst hq=>cases a;obtain⟨g,i,⟨o,n,e,c,_⟩,m⟩:=I.list hq;exact IsiPair.list_tuple e c d
 |dct hq=>cases a;obtain⟨_,_,_,_,o,_,_,e,j,_⟩:=I.hok _ _ hq;exact IsiPair.dict_tuple e j.1 d
 |tup hq=>cases a;obtain⟨g,i,⟨o,e,c,_⟩,m⟩:=I.tuple hq;exact IsiPair.tuple_tuple e c k
end
section
variable {X:Cx}{scope:Scope}{N:List Str}{wi:TI}{te:TE}{σ:St}{H:Hp}{Q:VK}
def jX {σ0:St}{j:Nat}(c:σ0[j]?=some none):σ0=σ0.set j none:=by
 refine (bCT λi=>?_);rw[List.getElem?_set]
 split
 ·rename_i a;subst a
  split
  ·exact c
  ·rename_i b;exact List.getElem?_eq_none_iff.mpr (by lia)
 ·rfl
def aXh {K:bE4}{a:Addr}{xs:List V}{tl:TE}(b:SqT K H a xs)(h:∀R:VK,R (.ref a) H->tl σ H R)(R:It->Hp->Prop)
  (q:∀J:It,(∀H' i x,Same H H'->xs[i]?=some x->J.go i H'/\∀y H2,J.yld i H' y H2->H2=H'/\y=x)->(∀H',Same H H'->J.stop xs.length H')->R J H):aN0 K tl σ H R:=by
 refine h _ ⟨a,rfl,⟨xs,b⟩,q _ (λH' i x s e=>⟨⟨xs,x,s.bA b,e⟩,λy H2 d=>?_⟩) λH' s=>⟨xs,s.bA b,j5 _⟩⟩;obtain⟨f,g⟩:=d;have c:=g xs (s.bA b);rw[e] at c;cases c;exact⟨f,rfl⟩
end
section
variable {κ:Type}[DecidableEq κ]
def jY (kvs:List (κ × V))(k:κ):Option V:=(kvs.find? λkv=>decide (kv.1=k)).map (·.2)
def putK (kvs:List (κ × V))(k:κ)(v:V):List (κ × V):=
 if (kvs.any λkv=>decide (kv.1=k))=true then kvs.map (λkv=>if kv.1=k then (kv.1,v) else kv) else kvs++[(k,v)]
def tL {p:κ × V}{r:List (κ × V)}{k:κ}(e:p.1=k):jY (p::r) k=some p.2:=by simp[jY,bCB,e]
def mV {p:κ × V}{r:List (κ × V)}{k:κ}(e:¬ p.1=k):jY (p::r) k=jY r k:=by simp[jY,bCB,e]
theorem tW (k:κ):∀kvs:List (κ × V),(kvs.any λkv=>decide (kv.1=k))=(jY kvs k).isSome
 |[]=>rfl
 |p::r=>by
  rw[bED];by_cases e:p.1=k
  ·simp only[tL e,m8 e,Bool.true_or,Option.isSome_some]
  ·rw[mV e,m9 e,Bool.false_or];exact tW k r
def nD (kvs:List (κ × V))(k:κ)(v:V):(putK kvs k v).length<=kvs.length+1:=by
 unfold putK
 split
 ·rw[j0];lia
 ·rw[bAD,j8,bBN];lia
def yX {kvs:List (κ × V)}{k:κ}(v:V)(h:jY kvs k=none):putK kvs k v=kvs++[(k,v)]:=by unfold putK;rw[tW,h];exact if_neg (by decide)
def mO.vA {o:Option V}{u:Option Value}(r:mO o u):o.isSome=u.isSome:=by
 cases o with
 |none=>cases u with
  |none=>rfl
  |some _=>exact (show False from r).elim
 |some _=>cases u with
  |none=>exact (show False from r).elim
  |some _=>rfl
def KV.val {kvs:List (κ × V)}{vs:List (κ × Value)}(r:KV kvs vs)(k:κ):mO (jY kvs k) (valueAt vs k):=by
 unfold KV at r
 induction r with
 |nil=>exact True.intro
 |@cons p q ps qs h t ih=>
  obtain⟨c,d⟩:=h;by_cases e:p.1=k
  ·have a:q.1=k:=c.symm.trans e;have b:valueAt (q::qs) k=some q.2:=by simp[valueAt,bCB,a]
   rw[tL e,b];exact d
  ·have a:¬ q.1=k:=λz=>e (c.trans z);have b:valueAt (q::qs) k=valueAt qs k:=by simp[valueAt,bCB,a]
   rw[mV e,b];exact ih
def KV.any {kvs:List (κ × V)}{vs:List (κ × Value)}(r:KV kvs vs)(k:κ):(kvs.any λkv=>decide (kv.1=k))=vs.any λkv=>decide (kv.1=k):=by
 unfold KV at r
 induction r with
 |nil=>rfl
 |cons h t ih=>rw[bED,bED,ih,h.1]
def KV.repl {kvs:List (κ × V)}{vs:List (κ × Value)}(r:KV kvs vs)(k:κ){y:V}{u:Value}(c:RelV y u) :
  KV (kvs.map λkv=>if kv.1=k then (kv.1,y) else kv) (vs.map λkv=>if kv.1=k then (kv.1,u) else kv):=by
 unfold KV at r ⊢
 induction r with
 |nil=>exact .nil
 |@cons p q ps qs h t ih=>
  rw[bAC,bAC];refine .cons ?_ ih;obtain⟨a,b⟩:=h;by_cases e:p.1=k
  ·rw[if_pos e,if_pos (a.symm.trans e)];exact⟨a,c⟩
  ·rw[if_neg e,if_neg (λz=>e (a.trans z))];exact⟨a,b⟩
def KV.put {kvs:List (κ × V)}{vs:List (κ × Value)}(r:KV kvs vs)(k:κ){y:V}{u:Value}(b:RelV y u):KV (putK kvs k y) (stored vs k u):=by
 unfold putK stored;rw[r.any k];by_cases e:(vs.any λa=>decide (a.1=k))=true
 ·rw[if_pos e,if_pos e];exact r.repl k b
 ·rw[if_neg e,if_neg e];exact Paired.snoc r ⟨rfl,b⟩
def KV.keys {kvs:List (κ × V)}{vs:List (κ × Value)}(r:KV kvs vs):kvs.map (·.1)=vs.map (·.1):=by
 unfold KV at r
 induction r with
 |nil=>rfl
 |cons h t ih=>rw[bAC,bAC,ih,h.1]
def KV.length {kvs:List (κ × V)}{vs:List (κ × Value)}(r:KV kvs vs):kvs.length=vs.length:=Paired.length r
end
def aC3 {P:Program}{w:World}{k:Key}{u:Value}(r:RelV (kV k) u):(bH P w).is k u=true:=by
 cases k with
 |inl i=>obtain⟨t,e⟩:=(show ∃t,u=Value.int i t from r);subst e;exact aIz P w i t
 |inr x=>obtain⟨t,e⟩:=(show ∃t,u=Value.str x t from r);subst e;exact aF9 P w x t
theorem aC4 {P:Program}{w:World}:∀{ks:List Key} {us:List Value},Vals (ks.map kV) us->ItemsAre (bH P w) ks us
 |[],_,r=>by rw[List.map_nil] at r;cases r;exact .nil
 |k::ks,_,r=>by
  rw[bAC] at r;cases r with
  |cons h t=>exact .cons (aC3 h) (aC4 t)
abbrev KT (H:Hp):List (List Key × V)->List (List Key × Addr × Value)->Prop:=Paired λp q=>p.1=q.1/\H q.2.1=some (.tup (p.1.map kV))/\RelV p.2 q.2.2
def KT.val {H:Hp}{kvs:List (List Key × V)}{xs:List (List Key × Addr × Value)}(r:KT H kvs xs)(k:List Key):mO (jY kvs k) ((atKey xs k).map (·.2)):=by
 induction r with
 |nil=>exact True.intro
 |@cons p q ps qs h t ih=>
  obtain⟨c,_,d⟩:=h;by_cases e:p.1=k
  ·have a:q.1=k:=c.symm.trans e;have b:atKey (q::qs) k=some q.2:=by simp[atKey,bCB,a]
   rw[tL e,b];exact d
  ·have a:¬ q.1=k:=λz=>e (c.trans z);have b:atKey (q::qs) k=atKey qs k:=by simp[atKey,bCB,a]
   rw[mV e,b];exact ih
def KT.repl {H:Hp}{kvs:List (List Key × V)}{xs:List (List Key × Addr × Value)}(r:KT H kvs xs)(k:List Key){y:V}{u:Value}(d:RelV y u) :
  KT H (kvs.map λkv=>if kv.1=k then (kv.1,y) else kv) (xs.map (putAt k u)):=by
 induction r with
 |nil=>exact .nil
 |@cons p q ps qs h t ih=>
  rw[bAC,bAC];refine .cons ?_ ih;obtain⟨a,b,c⟩:=h;unfold putAt;by_cases e:p.1=k
  ·rw[if_pos e,if_pos (a.symm.trans e)];exact⟨a,b,d⟩
  ·rw[if_neg e,if_neg (λz=>e (a.trans z))];exact⟨a,b,c⟩
def KT.put {H:Hp}{kvs:List (List Key × V)}{xs:List (List Key × Addr × Value)}(r:KT H kvs xs)(k:List Key){b:Addr}{y:V}{u:Value}(d:H b=some (.tup (k.map kV)))(c:RelV y u) :
  KT H (putK kvs k y) (storedH xs k b u):=by
 have e:(kvs.any λa=>decide (a.1=k))=(atKey xs k).isSome:=by rw[tW,(r.val k).vA,Option.isSome_map]
 unfold putK storedH;rw[e];by_cases q:(atKey xs k).isSome=true
 ·rw[if_pos q,if_pos q];exact r.repl k c
 ·rw[if_neg q,if_neg q];exact Paired.snoc r ⟨rfl,d,c⟩
def KT.keeps {H H':Hp}{kvs:List (List Key × V)}{xs:List (List Key × Addr × Value)}(r:KT H kvs xs)(a:∀b ys,H b=some (.tup ys)->H' b=some (.tup ys)):KT H' kvs xs:=
 Paired.aZu r λ_ _ z=>⟨z.1,a _ _ z.2.1,z.2.2⟩
section
variable {P:Program}{w:World}{H:Hp}{h:Heap}{a:Addr}
def aW2 {u:HO}(b:HOk P w H h)(e:Rd H a u):cM P w H h a u:=e.ok b
def aMl {kvs:List (Key × V)}(b:HOk P w H h)(e:Rd H a (.dK kvs)):kvs.length<=sizeLine/\(a == sysModules)=false/\∃vs,KV kvs vs/\h.DictOf (bH P w) a vs:=
 show cM P w H h a (.dK kvs) from aW2 b e
def vU {kvs:List (Key × V)}(b:HOk P w H h)(e:H a=some (.dK kvs)):kvs.length<=sizeLine/\(a == sysModules)=false/\∃vs,KV kvs vs/\h.DictOf (bH P w) a vs:=aMl b (.inl e)
def aFf {ks:List Key}(g:HOk P w H h)(e:H a=some (.tup (ks.map kV))):(tupleKind (bH P w)).is h ks a:=by obtain⟨_,b,r,⟨o,c,d,n,f⟩,_⟩:=(show cM P w H h a (.tup (ks.map kV)) from g a _ e);exact⟨o,b.toArray,n,c,d,f,by simpa using aC4 r⟩
def aMi {kvs:List (List Key × V)}(n:HOk P w H h)(e:Rd H a (.dT kvs)):kvs.length<=sizeLine/\(a == sysModules)=false /\
  ∃xs,KT H kvs xs/\h.DictOfH (tupleKind (bH P w)) a xs:=by
 obtain⟨z,y,xs,r,o,j,c,g,d,f,i,k⟩:=(show cM P w H h a (.dT kvs) from aW2 n e);refine⟨z,y,xs,r,o,j,c,g,d,f,i,λx hx=>?_,k⟩;have b:∀{l:List (List Key × V)} {m:List (List Key × Addr × Value)},KT H l m->∀x∈m,(tupleKind (bH P w)).is h x.1 x.2.1:=by
  intro l m q
  induction q with
  |nil=>intro x hx;exact nomatch hx
  |@cons p q ps qs hq t ih=>
   intro x hx;rcases List.mem_cons.mp hx with e|hx
   ·subst e;exact aFf n (by rw[<-hq.1];exact hq.2.1)
   ·exact ih x hx
 exact b r x hx
def bA6 {kvs:List (List Key × V)}(b:HOk P w H h)(e:H a=some (.dT kvs)):kvs.length<=sizeLine/\(a == sysModules)=false /\
  ∃xs,KT H kvs xs/\h.DictOfH (tupleKind (bH P w)) a xs:=aMi b (.inl e)
end
def aBl (H:Hp)(a:Addr)(y:V)(r:Option V):Prop:=
 (∃kvs k,Rd H a (.dK kvs)/\y=kV k/\r=jY kvs k)\/∃kvs k b,Rd H a (.dT kvs)/\y=.ref b/\H b=some (.tup (k.map kV))/\r=jY kvs k
def aJj (H:Hp)(a:Addr)(y v:V)(H':Hp):Prop:=
 (∃kvs k,H a=some (.dK kvs)/\y=kV k/\kvs.length<sizeLine/\H'=upd H a (.dK (putK kvs k v))) \/
 ∃kvs k b,H a=some (.dT kvs)/\y=.ref b/\H b=some (.tup (k.map kV))/\kvs.length<sizeLine/\H'=upd H a (.dT (putK kvs k v))
theorem aBl.k {H:Hp}{a:Addr}{kvs:List (Key × V)}{k:Key}(e:H a=some (.dK kvs)):aBl H a (kV k) (jY kvs k):=.inl ⟨kvs,k,.inl e,rfl,rfl⟩
theorem aJj.k {H:Hp}{a:Addr}{kvs:List (Key × V)}{k:Key}{v:V}(e:H a=some (.dK kvs))(b:kvs.length<sizeLine):aJj H a (kV k) v (upd H a (.dK (putK kvs k v))):=.inl ⟨kvs,k,e,rfl,b,rfl⟩
section
variable {X:Cx}{bE8:bE6}{σ:St}{H:Hp}{s:Shared}{a:Addr}{y v:V}{u r:Value}{o:Option V}{A:Around}{E:bE5}
def Inv.big (I:Inv X bE8 σ H s):sysModules<s.heap.objs.size:=by have h:mainGlobals<s.heap.objs.size:=(I.mod.glob.keeps I.bk).lt;exact bD3 (by decide) h
def aN7 {Q:bE5}(C:A.units+1<cLine)(I:Inv X bE8 σ H s)(g:aBl H a y (some v))(q:RelV y u)(h:∀w' s',Inv X bE8 σ H s'->RelV v w'->Q w' s') :
  wpAny (model X.prog X.w) A (getItem (.ref a) u) Q E s:=by
 rcases g with⟨n,k,e,i,l⟩|⟨n,k,b,e,i,eb,l⟩
 ·subst i;obtain⟨z,r,t,c,j⟩:=aMl I.hok e;obtain⟨w',m,d⟩:=mO.some_of (v:=v) (o:=valueAt t k) (by rw[l];exact c.val k);exact wpAny_getItem_of (aC3 q) j.mapOf m (h w' _ (I.tok _) d)
 ·subst i;cases (show u=Value.ref b from q);obtain⟨z,r,x,c,j⟩:=aMi I.hok e;obtain⟨w',m,d⟩:=mO.some_of (v:=v) (o:=(atKey x k).map (·.2)) (by rw[l];exact c.val k);obtain⟨p,B,f⟩:=Option.map_eq_some_iff.mp m;refine wpAny_getItem_heap (tupleKind_room_in1 C) (aFf I.hok eb) j B ?_;rw[f];exact h w' _ (I.tok _) d
def aT3 {Q:bE5}(p:A.units+1<cLine)(I:Inv X bE8 σ H s)(g:aBl H a y o)(m:RelV y u)(h:∀s',Inv X bE8 σ H s'->Q (.bool (!o.isSome)) s') :
  wpAny (model X.prog X.w) A (compareOp .NotIn u (.ref a)) Q E s:=by
 rcases g with⟨f,k,e,i,l⟩|⟨f,k,b,e,i,eb,l⟩
 ·subst i;obtain⟨z,d,r,c,j⟩:=aMl I.hok e;refine wpAny_notIn_of (aC3 m) d j.mapOf ?_;rw[<-(c.val k).vA,<-l];exact h _ (I.tok _)
 ·subst i;cases (show u=Value.ref b from m);obtain⟨z,d,n,c,j⟩:=aMi I.hok e;refine wpAny_notIn_heap (tupleKind_room_in1 p) (aFf I.hok eb) d j ?_;have q:=(c.val k).vA;rw[Option.isSome_map] at q;rw[<-q,<-l];exact h _ (I.tok _)
def aDp {h':Heap}{t':Nat}{ob:HO}(I:Inv X bE8 σ H s)(h:Mut (H a))(f:Heap.SameBut a s.heap h')(g:∃q,h'.get? a=some q)(c:cM X.prog X.w (upd H a ob) h' a ob) :
  Inv X bE8 σ (upd H a ob) { s with heap:=h',toks:=t' }:=
 I.write (x:=a) (e:=a) h (.inl rfl) (λb q d z=>(f.2 b d).trans z) g c
def aQr {P:Program}{w:World}{H':Hp}{h':Heap}{kvs:List (Key × V)}{vs:List (Key × Value)}(z:kvs.length<=sizeLine)(hd:(a == sysModules)=false)(b:KV kvs vs)(c:h'.DictOf (bH P w) a vs) :
  cM P w H' h' a (.dK kvs):=⟨z,hd,vs,b,c⟩
def aNv {H':Hp}{Q:Unit->Shared->Prop}(T:A.units+1<cLine)(I:Inv X bE8 σ H s)(g:aJj H a y v H')(J:RelV y u)(F:RelV v r)(h:∀s',Inv X bE8 σ H' s'->Q () s') :
  wpAny (model X.prog X.w) A (setItem (.ref a) u r) Q E s:=by
 rcases g with⟨f,k,e,o,l,m⟩|⟨f,k,b,e,o,eb,l,m⟩
 ·subst o m;obtain⟨z,t,N,d,p⟩:=vU I.hok e;have B:N.length<=sizeLine:=by rw[<-d.length];exact z
  have n:(putK f k v).length<=sizeLine:=by have:=nD f k v;lia
  refine wpAny_setItem_pairs (hsz:=B) (aC3 J) p λD i x=>h _ ?_;have O:∃q,D.get? a=some q:=let ⟨q,_,_,j,_⟩:=i;⟨q,j⟩
  exact aDp I (by rw[e];exact True.intro) x O (aQr n t (d.put k F) i)
 ·subst o m;cases (show u=Value.ref b from J);obtain⟨z,t,R,d,p⟩:=bA6 I.hok e;have B:R.length<=sizeLine:=by rw[<-Paired.length d];exact z
  have n:(putK f k v).length<=sizeLine:=by have:=nD f k v;lia
  refine wpAny_setItem_heap (hsz:=B) (tupleKind_room_in1 T) (aFf I.hok eb) p λD i x=>h _ ?_;obtain⟨q,P,G,j,K,L,M,_,S⟩:=i;refine aDp I (by rw[e];exact True.intro) x ⟨q,j⟩ ⟨n,t,_,(d.put k eb F).keeps λc U C=>?_,q,P,G,j,K,L,M,S⟩;rw[aJ (pN C e (λz=>nomatch z))];exact C
end
section
variable {X:Cx}{bE8:bE6}{σ:St}{H:Hp}{s:Shared}{a:Addr}{kvs:List (Key × V)}{k:Key}{u:Value}{A:Around}{E:bE5}
end
def aX8 (i:Expr):Prop:=∀ov iv,subscripted i false ov iv=operate [ov,iv] (getItem ov iv)
def aV9 {prog:Program}{w:World}{A:Around}{E:bE5}{s:Shared}{env:Env}{b d:Expr}{pos:Pos}{T id:String}{Q:bE5}
  (k:typeLookup (.type T) "__getitem__"=pure (some (.builtin id))) (l:aX8 d)
  (h:wpAny (model prog w) A (eval b env) (λo s₁=>wpAny (model prog w) A (eval d env) (λi s₂=>s₂.TypeIs o T/\wpAny (model prog w) A (getItem o i) Q E s₂) E s₁) E s) :
  wpAny (model prog w) A (eval (.Subscript b d pos) env) Q E s:=by
 refine Subscript_ (bAY h (λo s₁ g=>bAY g (λi s₂ c=>?_) λ_ _ x=>x) λ_ _ x=>x);obtain⟨e,c⟩:=c;unfold subscriptTail;refine b7 ?_;rw[getitemInPython_of_ne e.not_modules];refine b7 (wpAny_specialOf e k ?_);have a:wpAny (model prog w) A (subscripted d false o i) (λr f=>wpAny (model prog w) A (letTemporaryGo b o r >>= λ_=>pure r) Q E f) E s₂:=by rw[l o i];exact wpAny_operating (bAY c (λr f j=>b7 (wpAny_letTemporaryGo (d8 j))) λ_ _ x=>x)
 first
  |exact d8 (b7 a)
  |exact b7 (d8 (b7 a))
  |exact b7 a
def aGy {X:Cx}{bE8:bE6}{σ:St}{H:Hp}{s:Shared}{a:Addr}{y:V}{o:Option V}(I:Inv X bE8 σ H s)(g:aBl H a y o):s.TypeIs (.ref a) "dict":=by
 rcases g with⟨c,k,e,_,_⟩|⟨c,k,b,e,_,_,_⟩
 ·obtain⟨_,_,f,_,d⟩:=aMl I.hok e;exact d.typeIs
 ·obtain⟨_,_,h,_,d⟩:=aMi I.hok e;exact d.typeIs
def aQo (td ty:TE):TE:=fun σ H Q=>td σ H λx H1=>ty σ H1 λy H2=>∃a v,x=.ref a/\aBl H2 a y (some v)/\Q v H2
def aMm (ty td:TE):TE:=fun σ H Q=>ty σ H λy H1=>td σ H1 λx H2=>∃a o,x=.ref a/\aBl H2 a y o/\Q (.bl (!o.isSome)) H2
def aXa (td ty tv:TE):TS:=λD σ H=>tv σ H λv H1=>td σ H1 λx H2=>ty σ H2 λy H3=>∃a H4,x=.ref a/\aJj H3 a y v H4/\D.nx σ H4
section
variable {X:Cx}{o i e value:Expr}{pos pos' tpos:Pos}{td ty tv:TE}
def aUr (w:X.A.units+1<cLine)(B:PE X o td)(C:PE X i ty)(E:aX8 i):PE X (.Subscript o i pos) (aQo td ty):=by intro b s σ H Q I h;refine aV9 PySem.F.slot_dict_getitem.lookup E (thn (B b s σ H _ I h) λu l ⟨x,n,m,r,e⟩=>thn (C b l σ n _ m e) λt D ⟨y,k,d,j,a,v,f,g,q⟩=>?_);subst f;obtain rfl:u=Value.ref a:=r;exact⟨aGy d g,aN7 w d g j λG z p c=>⟨v,k,p,c,q⟩⟩
def aNg (v:X.A.units+1<cLine)(B:PE X i ty)(z:PE X o td):PC X .NotIn i o (aMm ty td):=by intro b s σ H Q I h;refine thn (B b s σ H _ I h) λt j ⟨y,l,k,e,c⟩=>thn (z b j σ l _ k c) λu C ⟨x,f,m,r,a,p,d,g,q⟩=>?_;subst d;obtain rfl:u=Value.ref a:=r;exact aT3 v m g e λw n=>⟨.bl (!p.isSome),f,n,rfl,q⟩
def aWb (M:X.A.units+1<cLine)(F:PE X o td)(N:PE X i ty)(K:PE X value tv)(J:swapsWith value (some (.Subscript o i pos')) pos.line X.env=pure false) :
  PS X (.Assign [.Subscript o i pos'] value pos) (aXa td ty tv):=by
 intro b s σ H D I h;refine wpAny_Assign_Subscript (thn (K b s σ H _ I h) λr p ⟨v,t,q,d,c⟩=>thn (F b p σ t _ q c) λu w ⟨x,f,k,C,l⟩=>thn (N b w σ f _ k l) λL E ⟨y,O,z,e,a,n,m,g,j⟩=>?_) J;subst m;obtain rfl:u=Value.ref a:=C;exact aNv M z g e d λG B=>⟨σ,n,B,j⟩
end
def aIq {P:Program}{w:World}{H:Hp}(h:Heap)(a:sysModules<h.objs.size):cM P w H (h.push { cls:=.type "dict",data:=.dict #[] }) h.objs.size (.dK []):=
 ⟨bAS _,beq_eq_false_iff_ne.mpr (Ne.symm (v6 a)),[],.nil,Heap.DictOf.new h⟩
def aSp:TE:=λ_ H Q=>∀p,H p=none->Q (.ref p) (upd H p (.dK []))
section
variable {X:Cx}{pos:Pos}
def aTe:PE X (.Dict [] [] pos) aSp:=λb s σ H Q I h=>
 wpAny_Dict_empty ⟨.ref s.heap.objs.size,_,I.laid (a:=s.heap.objs.size) (o:=.dK []) (t':=s.toks) (λ_ _ q=>d7 _ q) (j5 _) (aIq s.heap I.big),rfl,h _ (I.hok.fresh (j5 _))⟩
end
def aJx:List (TE × TE)->St->Hp->(List (V × V)->Hp->Prop)->Prop
 |[],_,H,Q=>Q [] H
 |(tk,tv)::r,σ,H,Q=>tk σ H λx H1=>tv σ H1 λy H2=>aJx r σ H2 λps H3=>Q ((x,y)::ps) H3
abbrev VV:List (V × V)->List (Value × Value)->Prop:=Paired λp q=>RelV p.1 q.1/\RelV p.2 q.2
def PPs (X:Cx)(pos:Pos)(keys:List (Option Expr))(values:List Expr)(trs:List (TE × TE)):Prop:=
 ∀(bE8:bE6) (s:Shared) (σ:St) (H:Hp) (Q:List (V × V)->Hp->Prop),Inv X bE8 σ H s->aJx trs σ H Q ->
  wpAny (model X.prog X.w) X.A (evalPairs (pairTrees keys values X.env pos)) (λvs s'=>∃ps H',Inv X bE8 σ H' s'/\VV ps vs/\Q ps H') X.xe s
def aT9 {X:Cx}{pos:Pos}:PPs X pos [] [] []:=λa s σ H Q I h=>pairTrees_nil_walk ⟨[],H,I,.nil,h⟩
def aRo {X:Cx}{pos:Pos}{k v:Expr}{ks:List (Option Expr)}{vs:List Expr}{tk tv:TE}{trs:List (TE × TE)}(w:PE X k tk)(z:PE X v tv)(C:PPs X pos ks vs trs) :
  PPs X pos (some k::ks) (v::vs) ((tk,tv)::trs):=λa s σ H Q I h=>
 pairTrees_cons_walk (thn (w a s σ H _ I h) λu f ⟨x,i,g,r,c⟩=>thn (z a f σ i _ g c) λA m ⟨y,e,o,d,q⟩=>
  thn (C a m σ e _ o q) λB t ⟨j,l,p,b,n⟩=>⟨(x,y)::j,l,p,.cons ⟨r,d⟩ b,n⟩)
def jO (kvs more:List (Key × V)):List (Key × V):=more.foldl (λacc kv=>putK acc kv.1 kv.2) kvs
def KV.merge:∀{more:List (Key × V)} {rs:List (Key × Value)} {kvs:List (Key × V)} {vs:List (Key × Value)},KV more rs->KV kvs vs->KV (jO kvs more) (merged vs rs):=by
 intro more rs kvs vs r;unfold KV at r
 induction r generalizing kvs vs with
 |nil=>intro q;exact q
 |@cons p q ps qs h t ih=>
  intro a;have e:KV (putK kvs p.1 p.2) (stored vs q.1 q.2):=by have:=a.put p.1 h.2;rw[<-h.1];exact this
  exact ih e
theorem jQ:∀(more kvs:List (Key × V)),(jO kvs more).length<=kvs.length+more.length
 |[],kvs=>by show kvs.length<=kvs.length+0;lia
 |p::r,kvs=>by have b:=jQ r (putK kvs p.1 p.2);have a:=nD kvs p.1 p.2;show (jO (putK kvs p.1 p.2) r).length<=_;rw[j8];lia
theorem aAv {P:Program}{w:World}:∀{kvs:List (Key × V)} {ws:List (Value × Value)},VV (kvs.map λkv=>(kV kv.1,kv.2)) ws->∃rs,Carries (bH P w) ws rs/\KV kvs rs
 |[],_,r=>by rw[List.map_nil] at r;cases r;exact⟨[],True.intro,.nil⟩
 |p::kvs,_,r=>by
  rw[bAC] at r;cases r with
  |@cons a b as bs h t=>obtain⟨rs,c,q⟩:=aAv (P:=P) (w:=w) t;obtain⟨e,d⟩:=b;exact⟨(p.1,d)::rs,⟨aC3 h.1,rfl,c⟩,.cons ⟨rfl,h.2⟩ q⟩
def aS6 (trs:List (TE × TE)):TE:=fun σ H Q=>∀p,H p=none->aJx trs σ (upd H p (.dK [])) λps H2=>H2 p=some (.dK [])/\∃kvs:List (Key × V),ps=kvs.map (λkv=>(kV kv.1,kv.2))/\kvs.length<=15/\Q (.ref p) (upd H2 p (.dK (jO [] kvs)))
def aVy {X:Cx}{pos:Pos}{keys:List (Option Expr)}{values:List Expr}{trs:List (TE × TE)}(h:PPs X pos keys values trs)(i:keys.all (·.isSome)=true)(E:keys.length=values.length)(K:keys≠[])
  (r:keys.length<=15):PE X (.Dict keys values pos) (aS6 trs):=by
 intro f s σ H Q I q;have x:=I.hok.fresh (j5 s.heap.objs.size);have t:=I.laid (a:=s.heap.objs.size) (o:=.dK []) (h':=s.heap.push { cls:=.type "dict",data:=.dict #[] }) (t':=s.toks) (λ_ _ q=>d7 _ q) (j5 _) (aIq s.heap I.big);refine wpAny_Dict_walk (knd:=bH X.prog X.w) i E K r (thn (h f _ σ _ _ t (q _ x)) λJ M ⟨L,G,j,g,e,d,p,F,n⟩=>?_);subst p;obtain⟨k,c,D⟩:=aAv (P:=X.prog) (w:=X.w) g;obtain⟨z,v,l,A,u⟩:=vU j.hok e;cases A;refine⟨k,c,u,λh' b m=>⟨.ref s.heap.objs.size,_,?_,rfl,n⟩⟩;have B:(jO [] d).length<=sizeLine:=by have y:=jQ d [];rw[bBN] at y;rw[sizeLine_eq];lia
 have C:∃q,h'.get? s.heap.objs.size=some q:=let ⟨q,_,_,hq,_⟩:=b;⟨q,hq⟩
 exact aDp j (by rw[e];exact True.intro) m C (aQr B v (D.merge .nil) b)
section
variable {X:Cx}{bE8:bE6}{σ:St}{H:Hp}{s:Shared}{a:Addr}{y d:V}{u r:Value}{o:Option V}{A:Around}{E:bE5}
end
section
variable {X:Cx}{o e f:Expr}{apos cpos:Pos}{td ty tx:TE}
end
section
variable {X:Cx}{bE8:bE6}{σ:St}{H:Hp}{s:Shared}{a:Addr}{kvs:List (Key × V)}{A:Around}{E:bE5}
end
section
variable {X:Cx}{bE8:bE6}{σ:St}{H:Hp}{s:Shared}{a:Addr}{y:V}{u:Value}{A:Around}{E:bE5}
end
section
variable {X:Cx}
end
section
variable {κ:Type}[DecidableEq κ]
def aUl {kvs:List (κ × V)}{k:κ}{v:V}(h:jY kvs k=some v):k∈kvs.map (·.1):=by
 have q:(kvs.any λa=>decide (a.1=k))=true:=by rw[tW,h];all_goals rfl
 obtain⟨p,b,e⟩:=List.any_eq_true.mp q;exact List.mem_map.mpr ⟨p,b,of_decide_eq_true e⟩
end
structure VE (X:Cx)(e:Expr)(t:TE):Prop where
 out:PE X e t
structure VT (X:Cx)(e:Expr)(t:TT):Prop where
 out:PT X e t
structure VW (X:Cx)(e:Expr)(t:TT):Prop where
 out:PW X e t
structure VA (X:Cx)(es:List Expr)(t:TA):Prop where
 out:PA X es t
structure VS (X:Cx)(st:Stmt)(t:TS):Prop where
 out:PS X st t
structure VSs (X:Cx)(st:List Stmt)(t:TS):Prop where
 out:PSs X st t
structure VI (X:Cx)(tg iter:Expr)(t:TI):Prop where
 out:PI X tg iter t
structure VG (X:Cx)(tg:Expr)(t:TG):Prop where
 out:PG X tg t
structure VGs (X:Cx)(tg:List Expr)(t:TGs):Prop where
 out:PGs X tg t
structure VO (X:Cx)(e:Option Expr)(t:TO):Prop where
 out:PO X e t
structure VF (X:Cx)(ifs:List Expr)(t:TT):Prop where
 out:aOk X ifs t
structure VP (X:Cx)(pos:Pos)(keys:List (Option Expr))(values:List Expr)(trs:List (TE × TE)):Prop where
 out:PPs X pos keys values trs
section
variable {X:Cx}{a b c e:Expr}{es:List Expr}{ta tb tc te:TE}{t:TA}{tA tB':TT}{pos p:Pos}{x:Str}
def vv (i:Nat){x:Str}{pos:Pos}(c:X.N[i]?=some x:=by rfl)(b:Vis X.env.scope x:=by trivial)(hd:(x == ("__debug__":Str))=false:=by decide)
  (a:(x == ("__classdict__":Str))=false:=by decide):VE X (.Name x pos) (eX i):=⟨pv i c b hd a⟩
def iG {v:V}(b:Gl X x)(a:∃u,X.mg x=some u/\RelV v u)(hd:(x == ("__debug__":Str))=false:=by decide):VE X (.Name x pos) (tC v):=⟨bAi b a hd⟩
def dB {v:V}{u:Value}(d:Gl X x)(c:X.mg x=none)(a:bootBuiltins x=some u)(r:RelV v u)(b:x≠"__name__":=by decide)(hd:(x == ("__debug__":Str))=false:=by decide):VE X (.Name x pos) (tC v):=⟨aU6 d c a r b hd⟩
def aB {i j}:VE X (.Constant (.int i) j pos) (tC (.int i)):=⟨aXf⟩
def cN {b j}:VE X (.Constant (.bool b) j pos) (tC (.bl b)):=⟨bBi⟩
def cY {j}:VE X (.Constant .none j pos) (tC .non):=⟨aY9⟩
def aQ {x j}:VE X (.Constant (.str x) j pos) (tC (.str x)):=⟨aYn⟩
def bK {op:Operator}{r:R2}(c:OpR X (binaryOp op) r)(e:VE X a ta)(d:VE X b tb):VE X (.BinOp a op b pos) (tOp r ta tb):=⟨bAv c e.1 d.1⟩
def aWv {op:UnaryOp}{r:V->Hp->VK->Prop}(b:UnR X (unaryOp op) r)(c:VE X a ta):VE X (.UnaryOp op a pos) (tUn r ta):=⟨bAz b c.1⟩
def oZ {op:CmpOp}{r:R2}(c:OpR X (compareOp op) r)(e:VE X a ta)(d:VE X b tb)(f:behindInMarks op b=false):VE X (.Compare a [op] [b] pos) (tOp r ta tb):=⟨aWc c e.1 d.1 f⟩
def aLk {op:CmpOp}{r:R2}(c:OpR X (compareOp op) r)(e:VE X a ta)(d:VE X b tb)(f:behindInMarks op b=false):VT X (.Compare a [op] [b] pos) (aFz (tOp r ta tb)):=⟨aTm c e.1 d.1 f⟩
def aSl {op op':CmpOp}{r r':R2}(f:OpR X (compareOp op) r)(d:OpR X (compareOp op') r')(e:VE X a ta)(h:VE X b tb)(g:VE X c tc)
  (i:lastMarks [op,op'] [b,c]=false:=by with_unfolding_all rfl):VE X (.Compare a [op,op'] [b,c] pos) (aEt r r' ta tb tc):=⟨aSu f d e.1 h.1 g.1 i⟩
def zN {op op':CmpOp}{r r':R2}(f:OpR X (compareOp op) r)(d:OpR X (compareOp op') r')(e:VE X a ta)(h:VE X b tb)(g:VE X c tc)
  (i:lastMarks [op,op'] [b,c]=false:=by with_unfolding_all rfl):VT X (.Compare a [op,op'] [b,c] pos) (aFz (aEt r r' ta tb tc)):=⟨aRn f d e.1 h.1 g.1 i⟩
def fJ {op}(h:VE X a te):VE X (.BoolOp op [a] pos) te:=⟨aY2 h.1⟩
def eQ {rest:List Expr}(c:VE X a ta)(d:VE X (.BoolOp .And (b::rest) pos) tb):VE X (.BoolOp .And (a::b::rest) pos) (aWt ta tb):=⟨aZ3 c.1 d.1⟩
def bAr {rest:List Expr}(c:VE X a ta)(d:VE X (.BoolOp .Or (b::rest) pos) tb):VE X (.BoolOp .Or (a::b::rest) pos) (bA1 ta tb):=⟨bBp c.1 d.1⟩
def aY0 (b:VE X a ta):VE X (.UnaryOp .Not a pos) (aWz ta):=⟨aZg b.1⟩
def aHc (f:VT X c tA)(e:VE X a ta)(d:VE X b tb):VE X (.IfExp c a b pos) (tIf tA ta tb):=⟨aR1 f.1 e.1 d.1⟩
def fC:VA X [] qZ:=⟨aRm⟩
def aG (c:VE X e te)(a:VA X es t)(b:cC e=true:=by rfl):VA X (e::es) (cO te t):=⟨aY1 c.1 a.1 b⟩
def bBu {k:Nat}{ps:List Str}{sp:Sp}(G:Ok X.prog X.w X.K X.mg X.base k x ps sp)(f:Room k X.A)(d:Gl X x)(c:VA X (e::es) t)(b:(x == ("__debug__":Str))=false:=by decide)
  (g:cC e=true:=by rfl) (a:(backTo pos (starEach es X.env)).any (·.1)=false:=by rfl) :
  VE X (.Call (.Name x p) (e::es) [] pos) (rG sp [] E0 t):=⟨bAc G f d c.1 b (aL g) a⟩
def aYo {k:Nat}{ps:List Str}{sp:Sp}(G:Ok X.prog X.w X.K X.mg X.base k x ps sp)(c:Room k X.A)(b:Gl X x)(a:(x == ("__debug__":Str))=false:=by decide) :
  VE X (.Call (.Name x p) [] [] pos) (rG sp [] E0 qZ):=⟨aYm G c b a⟩
def aO {id:String}{r:List V->Hp->VK->Prop}(g:bR X (.builtin id) r)(f:Gl X x)(j:X.mg x=none)(h:bootBuiltins x=some (.builtin id))(d:VA X (e::es) t)(c:x≠"__name__":=by decide)(b:(x == ("__debug__":Str))=false:=by decide)
  (i:cC e=true:=by rfl) (a:(backTo pos (starEach es X.env)).any (·.1)=false:=by rfl):VE X (.Call (.Name x p) (e::es) [] pos) (tCB r t):=⟨aSg g f j h d.1 c b (aL i) a⟩
def bW {T:String}{r:List V->Hp->VK->Prop}(g:bR X (.type T) r)(f:Gl X x)(j:X.mg x=none)(h:bootBuiltins x=some (.type T))(d:VA X (e::es) t)(c:x≠"__name__":=by decide)(b:(x == ("__debug__":Str))=false:=by decide)
  (i:cC e=true:=by rfl) (a:(backTo pos (starEach es X.env)).any (·.1)=false:=by rfl):VE X (.Call (.Name x p) (e::es) [] pos) (tCB r t):=⟨aOb g f j h d.1 c b (aL i) a⟩
def vN {o:Expr}{to:TE}{name:Str}{apos cpos:Pos}{T id:String}{r:V->List V->Hp->VK->Prop}(h:PlainAttrs T)(slot:Slot T name id)(f:typeOf (.builtin id)=pure (.type "method_descriptor"))(k:MtR X id r)(i:VE X o to)(g:VA X (e::es) t)
  (c:attributeBase o name X.env (eval o X.env)=eval o X.env:=by rfl)
  (d:((backTo cpos (starEach (e::es) X.env)).all (λx=>!x.1) && (backToKw cpos (keywordEach [] X.env)).all (λx=>x.1.isSome)
   && decide ((e::es).length+([]:List Keyword).length+(if ([]:List Keyword).isEmpty then 0 else 1)<30))=true:=by rfl)
  (b:(apos.endLine == cpos.line)=true:=by rfl) (j:cC e=true:=by rfl) (a:(backTo cpos (starEach es X.env)).any (·.1)=false:=by rfl) :
  VE X (.Call (.Attribute o name apos) (e::es) [] cpos) (tBM X.K T r to t):=⟨bBj h slot f k i.1 g.1 c d b (aL j) a⟩
def nY (f:VE X a ta)(e:VE X b tb)(d:aH5 b) :
  VE X (.Subscript a b pos) (tOp (λx y H Q=>∃z i c,x=.str z/\y=.int i/\0<=i/\i<2 ^ 63/\i<z.length/\z.cps[i.toNat]?=some c/\Q (.str ⟨#[c]⟩) H) ta tb):=⟨aGf f.1 e.1 d⟩
def rN:VO X none aMo:=⟨aVn⟩
def lM (h:VE X e te):VO X (some e) (aWu te):=⟨aT4 h.1⟩
def kE {r:V->Option Int->Option Int->Hp->VK->Prop}{lo hi:Option Expr}{tl th:TO}{p2:Pos}(d:SlR X r)(c:VE X e te)(a:VO X lo tl)(b:VO X hi th):VE X (.Subscript e (.Slice lo hi none p2) pos) (tSl r te tl th):=⟨aR6 d c.1 a.1 b.1⟩
def bAf {r:R2}(f:IxR X r)(e:VE X a ta)(d:VE X b tb)(c:aDe b):VE X (.Subscript a b pos) (tOp r ta tb):=⟨bAk f e.1 d.1 c⟩
def aTg:VE X (.Dict [] [] pos) aSp:=⟨aTe⟩
def xR:VP X pos [] [] []:=⟨aT9⟩
def tX {k v:Expr}{ks:List (Option Expr)}{vs:List Expr}{tk tv:TE}{trs:List (TE × TE)}(c:VE X k tk)(a:VE X v tv)(b:VP X pos ks vs trs):VP X pos (some k::ks) (v::vs) ((tk,tv)::trs):=⟨aRo c.1 a.1 b.1⟩
def xU {keys:List (Option Expr)}{values:List Expr}{trs:List (TE × TE)}(h:VP X pos keys values trs)(a:keys.all (·.isSome)=true)(d:keys.length=values.length)(c:keys≠[])(b:keys.length<=15):VE X (.Dict keys values pos) (aS6 trs):=⟨aVy h.1 a d c b⟩
def VE.imp {t t':TE}(h:VE X e t)(k:∀σ H Q,t' σ H Q->t σ H Q):VE X e t':=⟨PE.imp h.1 k⟩
def aVi (b:VT X a tA):VW X (.BoolOp .And [a] pos) tA:=⟨aWh b.1⟩
def gU (b:VT X a tA):VW X (.BoolOp .Or [a] pos) tA:=⟨aY7 b.1⟩
def aXr {rest:List Expr}(c:VT X a tA)(d:VW X (.BoolOp .And (b::rest) pos) tB'):VW X (.BoolOp .And (a::b::rest) pos) (bAl tA tB'):=⟨aXn c.1 d.1⟩
def iY {rest:List Expr}(c:VT X a tA)(d:VW X (.BoolOp .Or (b::rest) pos) tB'):VW X (.BoolOp .Or (a::b::rest) pos) (tOr tA tB'):=⟨bAe c.1 d.1⟩
def VW.pt (h:VW X e tA):VT X e tA:=⟨h.1.pt⟩
def cR (b:VT X a tA):VT X (.UnaryOp .Not a pos) (aXs tA):=⟨aX7 b.1⟩
def cJ (h:VE X e te)(a:∀whole,isTrue e X.env whole=(do let v <-whole;standAt e.pos;holding [v] (truthy v)):=by intro _;rfl):VT X e (tB te):=⟨aYg h.1 a⟩
variable {st:Stmt}{rest:List Stmt}{u w':TS}
def bB:VSs X [] rR:=⟨aUp⟩
def aC (b:VS X st u)(a:VSs X rest w'):VSs X (st::rest) (aAg u w'):=⟨aS8 b.1 a.1⟩
def aF (a:VS X st u):VSs X [st] u:=⟨aU8 a.1⟩
def aP (a:VE X e te):VS X (.Return (some e) pos) (uH te):=⟨aZo a.1⟩
def cF {a b:List Stmt}(f:VT X c tA)(e:VSs X a u)(d:VSs X b w'):VS X (.If c a b pos) (aVu tA u w'):=⟨bA0 f.1 e.1 d.1⟩
def aX5 {i:Nat}{pos':Pos}(g:X.N.Nodup)(d:X.N[i]?=some x)(f:Loc X.env.scope x)(b:VE X e te)(a:swapsWith e (some (.Name x pos')) pos.line X.env=pure false:=by rfl)(c:X.fn x=true\/X.env.scope.names.lookup x=some .local:=by first|exact .inl rfl|exact .inr rfl|assumption) :
  VS X (.Assign [.Name x pos'] e pos) (wY te (bU i)):=⟨aZn g d f b.1 a c⟩
def dR (b:VE X e te)(a:swapsWith e none pos.line X.env=pure false:=by rfl):VS X (.Expr e pos) (aM7 te):=⟨aL4 b.1 a⟩
def eO {tg iter:Expr}{body:List Stmt}{wi:TI}{g:TG}{tb:TS}(e:PassesOwn (model X.prog X.w) X.A X.env X.xe)(d:X.calm=true)(f:VI X tg iter wi)(a:VG X tg g)(b:VSs X body tb)
  (c:∀x,foldedSetIterable iter X.env x=pure x:=by intro _;rfl):VS X (.For tg iter body [] pos) (bAh wi g tb):=⟨aXu e d f.1 a.1 b.1 c⟩
def xQ {i:Nat}(a:X.N.Nodup)(b:X.N[i]?=some x)(c:Loc X.env.scope x)(d:X.fn x=true\/X.env.scope.names.lookup x=some .local:=by first|exact .inl rfl|exact .inr rfl|assumption):VG X (.Name x pos) (bU i):=⟨aVm a b c d⟩
def dC:VGs X [] aKk:=⟨aWe⟩
def aZ {t:TG}{u:TGs}(c:VG X e t)(b:VGs X es u)(a:(assignEach (e::es) X.env).map (·.2)=assign e X.env::(assignEach es X.env).map (·.2):=by rfl):VGs X (e::es) (mF t u):=⟨aRc c.1 b.1 a⟩
def jT {k:Nat}{t:TGs}{n:Nat}(c:X.calm=true)(h:VGs X es t)(b:(assignEach es X.env).length=n:=by rfl)(a:(assignEach es X.env).findIdx? (·.1)=none:=by rfl):VG X (.Tuple es k pos) (aFv X.K n t):=⟨aY5 c h.1 b a⟩
variable {tg:Expr}
def oO (h:VE X e te):VI X tg e (aCj X.K te):=⟨aUm h.1⟩
def oH (h:VE X e te):VI X tg e (aN0 X.K te):=⟨aZf h.1⟩
def aP6 (h:VE X e te):VI X tg e (aZ6 te):=⟨aZa h.1⟩
def cZ (e:Gl X "range")(d:X.mg "range"=none)(c:VA X [a] t)(b:cC a=true:=by rfl):VI X tg (.Call (.Name "range" p) [a] [] pos) (aQy t):=⟨aNx e d c.1 (aL (es:=[]) b)⟩
def dX:VF X [] lJ:=⟨aZ7⟩
def aQd (h:VT X c tA):VF X [c] tA:=⟨aZi h.1⟩
def dF {elt target iter:Expr}{ifs:List Expr}{scope:Scope}{N:List Str}{wi:TI}{g:TG}{tt:TT}
  (C:nM scope N) (b:∀y,(y,NameKind.free)∈scope.names->X.env.kindOf y=some .cell\/X.env.kindOf y=some .free) (c:X.calm=true)
  (d:VI X target iter wi)
  (a:∀cl s H fp,VG (cxC X N scope cl s H fp) target g/\VF (cxC X N scope cl s H fp) ifs tt/\VE (cxC X N scope cl s H fp) elt te)
  (e:∀x,foldedSetIterable iter X.env x=pure x:=by intro _;rfl) :
  VE X (.ListComp elt [⟨target,iter,ifs,0⟩] scope pos) (gK X scope N wi g tt te):=
 ⟨aV2 C b c d.1 (λcl s H fp=>⟨(a cl s H fp).1.1,(a cl s H fp).2.1.1,(a cl s H fp).2.2.1⟩) e⟩
end
section
variable {P:Program}{w:World}{K:bE4}{mg:bE7}{base:Heap}
def Fun.okV {x qual:Str}{st:Stmt}{f:Addr}{fd:FuncData}{N ps:List Str}{k:Nat}{sp:Sp}(F:Fun K x qual st f fd)(S:aN N ps (aD st))(b:∀vs H Q E,sp vs H Q E->vs.length=ps.length)
  (a:∀(cdv:Value) (A:Around) (outer:List Env) (s:Shared) (H:Hp) (vs:List V) (Q:VK) (E:XK),Room k (A.deeper (envOfC qual (aD st) s.heap.objs.size f cdv))->sp vs H Q E ->
   ∃t,VSs (qK CX0 P w K mg base N qual (aD st) f cdv A outer s H E).nox (cQ st) t/\t { nx:=λ_ H'=>Q .non H',rt:=Q } (start N vs) H):dW P w K mg base CX0 (k+1) f fd ps sp:=
 F.ok S b λcdv A outer s H vs Q E c h=>let ⟨t,h1,h2⟩:=a cdv A outer s H vs Q E c h;⟨t,h1.1,h2⟩
def Ok.ofV {x:Str}{st:Stmt}{N ps:List Str}{k:Nat}{sp:Sp}(D:Dn K mg x st ps)(S:aN N ps (aD st))(b:∀vs H Q E,sp vs H Q E->vs.length=ps.length)
  (a:∀(f:Addr) (cdv:Value) (A:Around) (outer:List Env) (s:Shared) (H:Hp) (vs:List V) (Q:VK) (E:XK),Room k (A.deeper (envOfC x (aD st) s.heap.objs.size f cdv))->sp vs H Q E ->
   ∃t,VSs (qK CX0 P w K mg base N x (aD st) f cdv A outer s H E).nox (cQ st) t/\t { nx:=λ_ H'=>Q .non H',rt:=Q } (start N vs) H):Ok P w K mg base (k+1) x ps sp:=
 Ok.of D S b λf cdv A outer s H vs Q E c h=>let ⟨t,h1,h2⟩:=a f cdv A outer s H vs Q E c h;⟨t,h1.1,h2⟩
end
def Held (P:Program)(w:World)(K:bE4)(mg:bE7)(base:Heap)(k:Nat)(f:Addr)(ps:List Str)(sp:Sp):Prop:=
 ∃fd,PySem.W.keepIn K (.ref f)=true/\Binds K fd ps []/\dW P w K mg base CX0 k f fd ps sp
def Ok.held {P:Program}{w:World}{K:bE4}{mg:bE7}{base:Heap}{k:Nat}{x:Str}{ps:List Str}{sp:Sp}(G:Ok P w K mg base k x ps sp):∃f,mg x=some (.ref f)/\Held P w K mg base k f ps sp:=by obtain⟨f,a,b,d,e,c⟩:=G;exact⟨f,b,a,d,e,c⟩
section
variable {X:Cx}{x:Str}{p pos:Pos}{e:Expr}{es:List Expr}{te:TE}{t:TA}
def aQx (P:Program)(w:World)(K:bE4)(mg:bE7)(base:Heap)(k:Nat)(te:TE)(t:TA):TE:=fun σ H Q=>te σ H λv H1=>∃f ps sp,v=.ref f/\Held P w K mg base k f ps sp/\t σ H1 λvs H2=>sp vs H2 Q E0
def aTl {k:Nat}(N:Room k X.A)(D:PE X (.Name x p) te)(C:PA X (e::es) t)
  (M:starEach (e::es) X.env=(false,eval e X.env)::starEach es X.env:=by rfl) (i:(backTo pos (starEach es X.env)).any (·.1)=false:=by rfl) :
  PE X (.Call (.Name x p) (e::es) [] pos) (aQx X.prog X.w X.K X.mg X.base k te t):=by
 intro a s σ H Q I h;refine bBG (thn (D a s σ H _ I h) λu l ⟨v,m,b,n,d⟩=>?_);obtain⟨f,z,G,rfl,⟨E,g,j,F⟩,q⟩:=d;obtain rfl:u=Value.ref f:=n;refine PySem.W.callWith_K (h₀:=X.base) b.ok.mod.kin g (thn (C pos a l σ m _ b q) λL B ⟨J,y,c,r,o⟩=>⟨c.kIn,?_⟩) M i;exact aFq F N j .nil aB7 c r (by simpa using o)
end
end L2
namespace PySem
end PySem
namespace L2
open PySem PySem.Spec PyProof.Rows
section
variable {X:Cx}
def aTr:OpR X (binaryOp .Add) (λx y H Q=>∃a b ys,x=.ref a/\y=.ref b/\SqT X.K H a []/\SqT X.K H b ys/\Q (.ref b) H):=by
 intro w s σ H x y v u Q I D t h;obtain⟨a,b,ys,rfl,rfl,A,z,q⟩:=h;cases D;cases t;obtain⟨G,L,r,_⟩:=I.tuple A;obtain⟨d,N,B,_⟩:=I.tuple z;cases L;obtain⟨⟨E,J,o,C⟩,l,m,n,p⟩:=id r;obtain⟨⟨k,i,j,g⟩,c,e,M,f⟩:=id B;simp only at m p e f;subst m p e f;exact concat_meets ⟨_,l,rfl⟩ ⟨_,c,rfl⟩ noFill_tuple_add seq_tuple_add PySem.F.slot_tuple_add PySem.F.entry_tuple_add (PySem.F.args_tuple_add_2 _ _)
  (tuple_addW0 a b #[] d.toArray n M J i C g rfl) ⟨l,c,⟨.ref b,H,I,rfl,q⟩⟩
end
end L2
namespace PySem
section
variable {prog:Program}{w:World}
variable {A:Around}{E:bE5}{s:Shared}
abbrev cG (led:Bool):Obj:={ cls:=.type "set",dict:=none,data:=.set #[] 0 (.fresh 0 0 led) }
end
end PySem
namespace L2
open PySem PySem.Spec PyProof.Rows
section
variable {X:Cx}
end
def oU {X:Cx}{scope:Scope}{x y:Str}{σ:St}{v:V}(j:Nat)(c:(y,NameKind.free)∈scope.names)(e:X.N[j]?=some y)(d:σ[j]?=some (some v))(f:Vis X.env.scope y):Cap X scope [x,y] σ [none,some v]:=
 ⟨rfl,λi z u a b=>by
  match i,a,b with
  |0,_,b=>cases b
  |1,a,b=>cases a;cases b;exact⟨c,j,e,d,f⟩
  |i+2,a,_=>cases a⟩
def oY {X:Cx}{scope:Scope}{x y:Str}{σ:St}:Cap X scope [x,y] σ [none,none]:=⟨rfl,λi z u b a=>by
  match i,b,a with
  |0,_,a=>cases a
  |1,_,a=>cases a
  |i+2,b,_=>cases b⟩
section
variable {X:Cx}{a b e:Expr}{es:List Expr}{te:TE}{t:TA}{pos p:Pos}{x:Str}
def aVa {k:Nat}(d:Room k X.A)(c:VE X (.Name x p) te)(b:VA X (e::es) t)(f:cC e=true:=by rfl)(a:(backTo pos (starEach es X.env)).any (·.1)=false:=by rfl) :
  VE X (.Call (.Name x p) (e::es) [] pos) (aQx X.prog X.w X.K X.mg X.base k te t):=⟨aTl d c.1 b.1 (aL f) a⟩
def aPp {P:Program}{w:World}{K:bE4}{mg:bE7}{base:Heap}{k:Nat}(h:Room k X.A)(c:VE X (.Name x p) te)(b:VA X (e::es) t)(i:cC e=true:=by rfl)(a:(backTo pos (starEach es X.env)).any (·.1)=false:=by rfl)
  (f:X.prog=P:=by rfl) (d:X.w=w:=by rfl) (j:X.K=K:=by rfl) (g:X.mg=mg:=by rfl) (l:X.base=base:=by rfl) :
  VE X (.Call (.Name x p) (e::es) [] pos) (aQx P w K mg base k te t):=by
 subst f d j g l;exact aVa h c b i a
def dU {K:bE4}(h:X.K=K:=by rfl):IxR X (bA2 K):=by subst h;exact cD
def oR {K:bE4}{k:Nat}{u:TGs}{n:Nat}(d:X.calm=true)(h:VGs X es u)(b:(assignEach es X.env).length=n:=by rfl)(a:(assignEach es X.env).findIdx? (·.1)=none:=by rfl)(c:X.K=K:=by rfl):VG X (.Tuple es k pos) (aFv K n u):=by subst c;exact jT d h b a
def aUw {elts:List Expr}{kt:Nat}{tp:Pos}(e:Gl X "zip")(g:X.mg "zip"=none)(d:VA X [a,b] t)(f:cC a=true:=by rfl)(c:cC b=true:=by rfl) :
  VI X (.Tuple elts kt tp) (.Call (.Name "zip" p) [a,b] [] pos) (aPr X.K t):=⟨aVw e g d.1 (aL f) (aL (es:=[]) c)⟩
def oG {tg:Expr}{g:TG}(c:VE X e te)(a:VG X tg g)(b:swapsWithSole [tg] e pos.line X.env=pure false:=by rfl)(f:swappedStores [tg] e X.env=pure none:=by rfl)
  (d:(assignEach [tg] X.env).map (·.2)=[assign tg X.env]:=by rfl):VS X (.Assign [tg] e pos) (wY te g):=⟨aZ8 c.1 a.1 b f d⟩
end
section
variable {X:Cx}
def bB7:V->Option Int->Option Int->Hp->VK->Prop:=λx lo hi H Q=>∃z,x=.str z/\z.length<=sizeLine/\Q (.str (Txt.slice z lo hi)) H
def aE9:SlR X bB7:=by
 intro e s σ H x v J K p D n Q I G r y m h;obtain⟨z,rfl,E,q⟩:=h;obtain⟨t,rfl⟩:=G;have a:∀l u:Option (Int × Tok),l.map (·.1)=p->u.map (·.1)=D->s.heap.IsSlice n l u none->wpAny (model X.prog X.w) X.A (getItem (.str z t) (.ref n)) (EP X e σ Q) X.xe s:=λl u B C f=>by subst B C;refine wpAny_getItem_str_slice (st:=none) f rfl ?_;unfold sliceMade;have g:=Txt.slice_le z (l.map (·.1)) (u.map (·.1));exact post_val_or_str ⟨bAJ g E,λL k=>⟨.str (Txt.slice z (l.map (·.1)) (u.map (·.1))),H,I.tok _,⟨_,rfl⟩,q⟩⟩
 refine⟨"str",_,F.slot_str_getitem.lookup,typeIs_str _ _ _,?_⟩;obtain⟨o,b,c,d⟩:=r;cases y with
 |none=>
  cases m with
  |none=>exact a none none rfl rfl ⟨o,b,c,d⟩
  |int j u=>exact a none (some (j,u)) rfl rfl ⟨o,b,c,d⟩
 |int i t=>
  cases m with
  |none=>exact a (some (i,t)) none rfl rfl ⟨o,b,c,d⟩
  |int j u=>exact a (some (i,t)) (some (j,u)) rfl rfl ⟨o,b,c,d⟩
end
def aQb {x:Str}{j:Nat}(h:j<=x.length):(Txt.slice x none (some (j:Int))).cps.toList=x.cps.toList.take j:=by have e:=StrLaws.sliceText_to (x:=x) (j:=(j:Int)) ⟨by lia,by rw[v9];exact Int.ofNat_le.mpr h⟩;show (StrLaws.sliceText x none (some (j:Int))).cps.toList=_;rw[e];simp
def aK0 {x:Str}{j:Nat}(h:j<=x.length):(Txt.slice x (some (j:Int)) none).cps.toList=x.cps.toList.drop j:=by have e:=StrLaws.sliceText_from (x:=x) (i:=(j:Int)) ⟨by lia,by rw[v9];exact Int.ofNat_le.mpr h⟩;show (StrLaws.sliceText x (some (j:Int)) none).cps.toList=_;rw[e];simp only[bAN];refine bBF ?_;rw[bBC];lia
def put (x:Str)(a:Nat)(c:Nat):Str:=Txt.slice x none (some (a:Int))++⟨#[c]⟩++Txt.slice x (some (a:Int)) none
def aDt {x:Str}{a c:Nat}(h:a<=x.length):(put x a c).cps.toList=x.cps.toList.take a++c::x.cps.toList.drop a:=by show ((Txt.slice x none (some (a:Int))).cps++#[c]++(Txt.slice x (some (a:Int)) none).cps).toList=_;rw[bC6,bC6,aQb h,aK0 h];simp
def aTv {x:Str}{a c d:Nat}(h:a<=x.length)(e:put x a c=put x a d):c=d:=by have b:=congrArg (λy:Str=>y.cps.toList) e;simp only[aDt h] at b;have f:=List.append_cancel_left b;exact (List.cons.inj f).1
def aTx {x:Str}{a c:Nat}(h:a<=x.length):(put x a c).length=x.length+1:=by
 have e:=congrArg List.length (aDt (c:=c) h);have l:x.length=x.cps.toList.length:=by rw[v9];rfl
 rw[v9,bAD,j8,bAT,bBC] at e;show (put x a c).cps.size=_;lia
def aUa {x:Str}{a c d:Nat}(h:a<=x.length)(m:d∈(put x a c).cps):d=c\/d∈x.cps:=by
 have b:d∈(put x a c).cps.toList:=Array.mem_toList_iff.mpr m;rw[aDt h] at b;rcases List.mem_append.mp b with z|z
 ·exact .inr (Array.mem_toList_iff.mp (List.mem_of_mem_take z))
 ·rcases List.mem_cons.mp z with z|z
  ·exact .inl z
  ·exact .inr (Array.mem_toList_iff.mp (List.mem_of_mem_drop z))
section
variable {X:Cx}{scope:Scope}{N:List Str}{wi:TI}{te:TE}{σ:St}{H:Hp}{Q:VK}
def aSc {K:bE4}(h:X.K=K:=by rfl):IxR X (aX9 K):=by subst h;exact bN
end
section
variable {X:Cx}{e:Expr}{es:List Expr}{t:TA}{pos:Pos}
def aR0 (t:TA):TE:=fun σ H Q=>t σ H λxs H1=>xs.length<=sizeLine/\∀p H',H1 p=none->Same H1 H'->H' p=some (.tup xs)->Q (.ref p) H'
def aMs (t:TA):TE:=fun σ H Q=>t σ H λxs H1=>xs.length<=sizeLine/\∀p H',H1 p=none->Same H1 H'->H' p=some (.lst xs)->Q (.ref p) H'
def aXp:TE:=λ_ H Q=>∀p H',H p=none->Same H H'->H' p=some (.dK [])->Q (.ref p) H'
def aM {x1}(h:VA X es t):VE X (.Tuple es x1 pos) (aR0 t):=⟨by intro c s σ H Q I i;refine wpAny_Tuple_spliced (thn (h.1 pos c s σ H _ I i) λj a ⟨k,f,d,r,z,q⟩=>⟨by rw[<-r.length];exact z,?_⟩);have g:f a.heap.objs.size=none:=d.hok.fresh (j5 _);refine⟨.ref a.heap.objs.size,upd f a.heap.objs.size (.tup k),d.laid (t':=a.toks) (λb u e=>d7 _ e) (j5 _) ?_,rfl,q _ _ g (aR g _) aH⟩;exact⟨z,j,r,.of (j4 _ rfl) rfl ⟨_,j4 _ rfl,rfl,_,rfl⟩⟩⟩
def aX (h:VA X es t):VE X (.List es pos) (aMs t):=⟨by intro c s σ H Q I i;refine wpAny_List_spliced (thn (h.1 pos c s σ H _ I i) λj a ⟨k,f,d,r,z,q⟩=>⟨by rw[<-r.length];exact z,?_⟩);have g:f a.heap.objs.size=none:=d.hok.fresh (j5 _);refine⟨.ref a.heap.objs.size,upd f a.heap.objs.size (.lst k),d.laid (t':=a.toks) (λb u e=>d7 _ e) (j5 _) ?_,rfl,q _ _ g (aR g _) aH⟩;exact⟨z,j,0,r,j4 _ rfl⟩⟩
def aGi:VE X (.Dict [] [] pos) aXp:=VE.imp aTg fun σ H Q h p a=>h p _ a (aR a _) aH
def OpR.imp {f:Value->Value->Sem Value}{r r':R2}(h:OpR X f r)(k:∀x y H Q,r' x y H Q->r x y H Q):OpR X f r':=λa s σ H x y v u Q I c b q=>h a s σ H x y v u Q I c b (k _ _ _ _ q)
def bR.imp {f:Value}{r r':List V->Hp->VK->Prop}(h:bR X f r)(k:∀xs H Q,r' xs H Q->r xs H Q):bR X f r':=λa s σ H xs c Q I b q=>h a s σ H xs c Q I b (k _ _ _ q)
def aW0 (K:bE4):R2:=λx y H Q=>∃a b xs ys,x=.ref a/\y=.ref b/\SqT K H a xs/\SqT K H b ys/\xs.length+ys.length<=sizeLine/\∀r H',Same H H'->SqT K H' r (xs++ys)->Q (.ref r) H'
def aV3:OpR X (binaryOp .Add) (aW0 X.K):=OpR.imp (aU5.or aTr) λx y H Q ⟨a,b,i,g,e,f,d,c,j,q⟩=>by
 by_cases h:i=[]
 ·subst h;exact .inr ⟨a,b,g,e,f,d,c,q b H (Same.refl H) c⟩
 ·refine .inl ⟨a,b,i,g,e,f,d,c,h,j,λz=>?_,λ_ p k=>q p _ (aR k _) (SqT.of aH)⟩;subst z;exact q a H (Same.refl H) (by rw[bBB];exact d)
def bB3 (K:bE4):V->Option Int->Option Int->Hp->VK->Prop:=λx lo hi H Q=>∃a xs,x=.ref a/\SqT K H a xs /\
 ¬ (HT.sIx xs.length 0 lo=0/\HT.sIx xs.length xs.length hi=xs.length)/\∀p H',Same H H'->H' p=some (.tup (uZ xs lo hi))->Q (.ref p) H'
def aVd:SlR X (bB3 X.K):=λb s σ H x v f i l d n Q I r m c j ⟨a,k,e,h,g,q⟩=>
 aX6 b s σ H x v f i l d n Q I r m c j ⟨a,k,e,h,g,λp o=>q p _ (aR o _) aH⟩
def aQi:R2:=λx y H Q=>∃l b xs zs,x=.ref l/\y=.ref b/\H l=some (.lst xs)/\H b=some (.lst zs)/\xs.length+zs.length<=sizeLine/\∀p H',H p=none->Same H H'->H' p=some (.lst (xs++zs))->Q (.ref p) H'
def fG:OpR X (binaryOp .Add) aQi:=OpR.imp aYz λx y H Q ⟨l,b,i,e,d,f,c,g,h,q⟩=>⟨l,b,i,e,d,f,c,g,h,λp a=>q p _ a (aR a _) aH⟩
def aR5 (K:bE4):List V->Hp->VK->Prop:=λxs H Q=>∃p ys,xs=[.ref p]/\(SqL K H p ys\/SqT K H p ys)/\∀l H',H l=none->Same H H'->H' l=some (.lst ys)->Q (.ref l) H'
def zT:bR X (.type "list") (aR5 X.K):=bR.imp aE8 λc H Q ⟨p,b,e,h,q⟩=>⟨p,b,e,h,λl a=>q l _ a (aR a _) aH⟩
def aL2 (K:bE4):List V->Hp->VK->Prop:=λxs H Q=>∃p ys,xs=[.ref p]/\SqL K H p ys/\∀l H',H l=none->Same H H'->H' l=some (.tup ys)->Q (.ref l) H'
def gJ:bR X (.type "tuple") (aL2 X.K):=bR.imp aBg λc H Q ⟨p,b,e,h,q⟩=>⟨p,b,e,.inl ⟨h,λl a=>q l _ a (aR a _) aH⟩⟩
def fX:MtR X "list.append" aMq:=aCc
def dN {H H':Hp}{D:Addr}{o:HO}(f:H D=none)(s:Same H H'):Same H (upd H' D o):=λb u e=>by rw[aJ (aV e f)];exact s _ _ e
end
end L2
namespace PySem
section
variable {prog:Program}{w:World}{A:Around}{E:bE5}{s:Shared}{T:String}{r d:Addr}{n:Nat}{P:Nat->Value->Prop}{OK:Heap->Prop}
end
end PySem
namespace L2
open PySem PySem.Spec PyProof.Rows
section
variable {X:Cx}
end
section
variable {X:Cx}{bE8:bE6}{σ:St}{H:Hp}{s:Shared}
end
def Ite (K:bE4)(l:Addr)(xs:List V):It:=
 ⟨λi H=>SqL K H l xs/\i<xs.length,λi H v H'=>∃T a,H T=none/\v=.ref T/\H'=upd H T (.tup [.int (i:Nat),a])/\xs[i]?=some a,λi H=>SqL K H l xs/\xs.length<=i⟩
def etn (e it l:Addr)(i:Nat)(h:Heap):Prop:=(∃old,IsEnum h e it (i:Int) old)/\h.IsListIter it l i
def aNl {P:Program}{w:World}{K:bE4}{elts:List Expr}{kt:Nat}{pos:Pos}{e it l:Addr}{xs:List V}(F:e≠it) :
  Turn P w K (.Tuple elts kt pos) (Ite K l xs) [e,it] e (etn e it l) where
 mem:=by simp
 obj:=λi h g b a=>by
  obtain⟨⟨c,d⟩,o,j,c2,d2⟩:=g;simp only[bAE,v8,or_false] at a;rcases a with rfl|rfl
  ·exact⟨_,d,λv z=>by cases (show Data.fields _=Data.cell v from z)⟩
  ·exact⟨_,j,λv z=>by rw[d2] at z;cases z⟩
 keep:=λi h m g k=>by obtain⟨⟨c,d⟩,o,j,r⟩:=g;exact⟨⟨c,k e (by simp) _ d⟩,o,k it (by simp) _ j,r⟩
 item:=by
  intro X q u J M i f s σ H E I n g C;subst q u J;obtain⟨⟨c,d⟩,j⟩:=g;obtain⟨p,O⟩:=C;obtain⟨its,B,t,hz⟩:=I.list p;obtain⟨x,hx,rx⟩:=B.get (b8 O);have fe:=n e (by simp);have fi:=n it (by simp);refine wpAny_pyNext_enum_item d j t.isList (by simpa using hx) F λm Q S L a4 D=>?_;refine⟨_,rfl,?_⟩;have fT:H s.heap.objs.size=none:=I.hok.fresh (j5 _);obtain⟨oi,A,_⟩:=id j;obtain⟨a0,G,_⟩:=id S;have I1:Inv X f σ (upd H s.heap.objs.size (.tup [.int (i:Nat),xs[i]])) { s with heap:=m }:=by
   refine I.drawn (ch:=[e,it]) (its:=[.int i s.toks,x]) (λb a=>n b a) (λb o a z=>?_) (j5 _) (.cons ⟨_,rfl⟩ (.cons rx .nil)) (small (by simp)) (.of L rfl ⟨_,L,rfl,_,rfl⟩) (λb a=>?_)
   ·simp only[bAE,v8,or_false,not_or] at a;exact D b o a.1 a.2 z
   ·simp only[bAE,v8,or_false] at a;rcases a with rfl|rfl
    ·exact⟨_,Q⟩
    ·exact⟨_,G⟩
  have y:Inv X f σ (upd H s.heap.objs.size (.tup [.int (i:Nat),xs[i]])) { s with heap:=m,toks:=s.toks+1 }:=I1.tok _;have R:∀b∈[e,it],b≠s.heap.objs.size:=λb a=>by
   simp only[bAE,v8,or_false] at a;rcases a with rfl|rfl
   ·exact v6 (j7 d)
   ·exact v6 (j7 A)
  refine wpAny_letOwnedTupleGo_enum (s:={ s with heap:=m,toks:=s.toks+1 }) Q λh2 Z T=>?_;obtain⟨U,W,g2,g3,g4,g5⟩:=fe;have Y:Inv X f σ (upd H s.heap.objs.size (.tup [.int (i:Nat),xs[i]])) { s with heap:=h2,toks:=s.toks+1 }:=Inv.turned (s:={ s with heap:=m,toks:=s.toks+1 }) y (t':=s.toks+1) (it:=e) (λb o a z=>(T.2 b a).trans z) (by rw[aJ (R e (by simp))];exact U) W g3 g4 g5;refine⟨.ref s.heap.objs.size,_,Y,rfl,⟨_,_,fT,rfl,rfl,b8 O⟩,⟨⟨x,?_⟩,?_⟩,λb a=>by rw[aJ (R b a)];exact (n b a).1⟩
  ·rw[show ((i+1:Nat):Int)=(i:Int)+1 from by lia];exact Z
  ·obtain⟨o,ho,r⟩:=S;exact⟨o,(T.2 it (Ne.symm F)).trans ho,r⟩
 done:=by intro X q u J M i f s σ H E I n g C;subst q u J;obtain⟨⟨c,d⟩,j⟩:=g;obtain⟨p,hi⟩:=C;obtain⟨its,B,t,hz⟩:=I.list p;have N:=B.length;refine wpAny_pyNext_enum_end (I.ok.hd M) d j t.isList (by simp;lia) λm D=>⟨rfl,?_⟩;refine Inv.aMv (ch:=[it]) I (λb a=>n b (j9 _ a)) λb o a z=>D b o (by simpa using a) z
 self:=λ_ _ _ _ _ g h=>by obtain⟨⟨c,d⟩,_⟩:=g;exact wpAny_pyIter_enum d h
section
variable {X:Cx}
def aW3 (K:bE4)(ta:TA):TI:=fun σ H R=>ta σ H λvs H1=>∃l xs,vs=[.ref l]/\SqL K H1 l xs/\R (Ite K l xs) H1
def aUj {elts:List Expr}{kt:Nat}{tp:Pos}{a:Expr}{ta:TA}{p pos:Pos}(C:Gl X "enumerate")(J:X.mg "enumerate"=none)(D:PA X [a] ta)(G:starEach [a] X.env=[(false,eval a X.env)]:=by rfl) :
  PI X (.Tuple elts kt tp) (.Call (.Name "enumerate" p) [a] [] pos) (aW3 X.K ta):=by
 intro c s σ H R I h;refine Call_ (nC I C J aDm (bCD (thn (D pos c s σ H _ I h) λF f ⟨E,k,g,z,n⟩=>?_) G (by rfl)));obtain⟨l,xs,e,o,q⟩:=n;subst e;obtain⟨y,A,w,L⟩:=g.list o;obtain⟨u,rfl,r⟩:=vals1 z;cases r;refine call_enumerate_list w.isList λi m x B v=>?_;have t:Inv X c σ k { f with heap:=i }:=g.kept (t':=f.toks) v;refine wpAny_pyIter_enum (s:={ f with heap:=i }) m ⟨_,_,_,_,k,rfl,t,aNl (xs:=xs) (l:=l) (bCP (bCZ _)),⟨⟨_,m⟩,x⟩,λb j=>?_,q⟩;have d:f.heap.objs.size<=b:=by
  simp only[bAE,v8,or_false] at j;rcases j with rfl|rfl
  ·exact bCX _
  ·exact j5 _
 exact g.aEx d (g.hok.fresh d)
def aS7 {K:bE4}{l:Addr}{xs:List V}{g:TG}{tb:TS}{D:Ends}{σ:St}{H:Hp}(c:Nat->St->Hp->Prop)(n:c 0 σ H)(d:∀i σ H,i<=xs.length->c i σ H->SqL K H l xs)
  (k:∀i σ H a T H',xs[i]?=some a->c i σ H->H T=none->H'=upd H T (.tup [.int (i:Nat),a])->g (.ref T) σ H' fun σ2 H2=>tb { D with nx:=c (i+1),ct:=c (i+1),bk:=D.nx } σ2 H2) (hd:∀σ H,c xs.length σ H->D.nx σ H) :
  ∃W:Nat->Nat->St->Hp->Prop,(∃m,W 0 m σ H)/\∀i m σ H,W i m σ H ->
   ((Ite K l xs).stop i H/\D.nx σ H)\/((Ite K l xs).go i H/\∃N:St->Hp->Prop,(∀σ' H',N σ' H'->∃m',m'<m/\W (i+1) m' σ' H')/\∀x H',(Ite K l xs).yld i H x H'->g x σ H' fun σ2 H2=>tb { D with nx:=N,ct:=N,bk:=D.nx } σ2 H2):=by
 refine⟨λi m σ H=>m=xs.length - i/\i<=xs.length/\c i σ H,⟨xs.length,by simp,bAS _,n⟩,?_⟩;rintro i m σ H ⟨rfl,hi,p⟩;by_cases b:i<xs.length
 ·refine .inr ⟨⟨d i σ H hi p,b⟩,c (i+1),fun σ' H' j=>⟨xs.length - (i+1),by lia,rfl,b,j⟩,λx H' y=>?_⟩;obtain⟨T,a,h,rfl,e,f⟩:=y;exact k i σ H a T H' f p h e
 ·have e:i=xs.length:=by lia
  subst e;exact .inl ⟨⟨d _ σ H hi p,j5 _⟩,hd σ H p⟩
end
section
variable {X:Cx}{a c e:Expr}{st:Stmt}{body:List Stmt}{tc:TT}{tb:TS}{t:TA}{te:TE}{pos p:Pos}
def aRu:VS X st aRw:=⟨aS2⟩
def aUg {elts:List Expr}{kt:Nat}{tp:Pos}(c:Gl X "enumerate")(e:X.mg "enumerate"=none)(b:VA X [a] t)(d:cC a=true:=by rfl) :
  VI X (.Tuple elts kt tp) (.Call (.Name "enumerate" p) [a] [] pos) (aW3 X.K t):=⟨aUj c e b.1 (aL (es:=[]) d)⟩
def aXl {o:Expr}{to:TE}{name:Str}{apos cpos:Pos}{T id:String}{r:V->List V->Hp->VK->Prop}(d:PlainAttrs T)(slot:Slot T name id)(c:typeOf (.builtin id)=pure (.type "method_descriptor"))(f:MtR X id r)(e:VE X o to)
  (b:attributeBase o name X.env (eval o X.env)=eval o X.env:=by rfl) (a:(apos.endLine == cpos.line)=true:=by rfl):VE X (.Call (.Attribute o name apos) [] [] cpos) (bBm X.K T r to):=⟨aZy d slot c f e.1 b a⟩
end
section
variable {P:Program}{w:World}{K:bE4}{mg:bE7}{base:Heap}
end
section
variable {X:Cx}{scope:Scope}{N:List Str}{wi:TI}{te:TE}{σ:St}{H:Hp}{Q:VK}
def aOt (xs:List V)(Rel:Nat->Hp->V->Prop)(st:∀{i H1 H2 y},Same H1 H2->Rel i H1 y->Rel i H2 y)(B:∀{i H1 D ys zs y},H1 D=some (.lst ys)->Rel i H1 y->Rel i (upd H1 D (.lst zs)) y)
  (r:St) (w:Cap X scope N σ r) (hsz:xs.length<=sizeLine)
  (E:∀R:It->Hp->Prop,(∀J:It,(∀H' i x,Same H H'->xs[i]?=some x->J.go i H'/\∀y H2,J.yld i H' y H2->H2=H'/\y=x)->(∀H',Same H H'->J.stop xs.length H')->R J H)->wi σ H R)
  (F:∀(i:Nat) (x:V),xs[i]?=some x->∀H' R l,Same H H'->(∀y H2,Same H' H2->Rel i H2 y->R y H2)->te ((r.set 0 l).set 0 (some x)) H' R) (A:r[0]?=some none)
  (q:∀D H' ys,Same H H'->H' D=some (.lst ys)->ys.length=xs.length->(∀(i:Nat) (y:V),ys[i]?=some y->Rel i H' y)->Q (.ref D) H') :
  gK X scope N wi (bU 0) lJ te σ H Q:=by
 refine⟨r,w,E _ λJ go stop D h=>?_⟩;refine⟨λi m k H' ys=>i<=xs.length/\m=xs.length - i/\(∃l,k=r.set 0 l)/\Same H H'/\H' D=some (.lst ys)/\ys.length=i/\∀(j:Nat) (y:V),ys[j]?=some y->Rel j H' y,⟨xs.length,bAS _,rfl,⟨none,jX A⟩,aR h _,aH,rfl,λj y e=>by simp at e⟩,?_⟩;rintro i m k H' ys ⟨hi,rfl,⟨l,rfl⟩,sm,hL,hl,hR⟩;refine⟨hL,?_⟩;by_cases a:i<xs.length
 ·right;obtain⟨p,n⟩:=go H' i xs[i] sm (b8 a);refine⟨p,λx H2 v=>?_⟩;obtain⟨rfl,rfl⟩:=n x H2 v;unfold bU lJ;dsimp only;rw[if_pos rfl];refine F i xs[i] (b8 a) _ _ l sm λy C d s=>⟨d _ _ hL,by lia,xs.length - (i+1),by lia,a,rfl,⟨some xs[i],?_⟩,?_,aH,?_,?_⟩
  ·rw[bCQ]
  ·intro b o e;rw[aJ (aV e h)];exact d _ _ (sm _ _ e)
  ·rw[bAD,bD8,hl]
  ·intro j z c;refine B (d _ _ hL) ?_;by_cases u:j<ys.length
   ·rw[bCI u] at c;exact st d (hR j z c)
   ·rw[bCE (by lia)] at c;have f:j - ys.length=0:=by
     by_cases t:j - ys.length=0
     ·exact t
     ·rw[bAO (by simp;lia)] at c;cases c
    have g:j=i:=by lia
    subst g;rw[f] at c;cases c;exact s
 ·left;have e:i=xs.length:=by lia
  subst e;exact⟨stop _ sm,q D _ ys sm hL hl hR⟩
def aVo (xs ys:List V)(g:ys.length=xs.length)(p:St)(m:Cap X scope N σ p)(hsz:xs.length<=sizeLine)
  (o:∀R:It->Hp->Prop,(∀J:It,(∀H' i x,Same H H'->xs[i]?=some x->J.go i H'/\∀y H2,J.yld i H' y H2->H2=H'/\y=x)->(∀H',Same H H'->J.stop xs.length H')->R J H)->wi σ H R)
  (s:∀(i:Nat) (x y:V),xs[i]?=some x->ys[i]?=some y->∀H' R l,Same H H'->(∀H2,Same H' H2->R y H2)->te ((p.set 0 l).set 0 (some x)) H' R) (t:p[0]?=some none)
  (q:∀D H',Same H H'->H' D=some (.lst ys)->Q (.ref D) H') :
  gK X scope N wi (bU 0) lJ te σ H Q:=by
 refine aOt xs (λi _ y=>ys[i]?=some y) (λ_ h=>h) (λ_ h=>h) p m hsz o (λi x d H' R l c r=>?_) t λD H' b c f n j=>?_
 ·have a:i<ys.length:=by rw[g];exact (List.getElem?_eq_some_iff.mp d).1
  exact s i x ys[i] d (b8 a) H' R l c λH2 k=>r _ H2 k (b8 a)
 ·have e:b=ys:=by
   refine bCT λi=>?_;by_cases a:i<b.length
   ·rw[j i b[i] (b8 a),b8 a]
   ·rw[bAO (by lia),bAO (by lia)]
  subst e;exact q D H' c f
end
section
variable {X:Cx}{tg e o i:Expr}{te td ty:TE}{pos:Pos}
def jH (c:X.A.units+1<cLine)(a:VE X o td)(d:VE X i ty)(b:aX8 i):VE X (.Subscript o i pos) (aQo td ty):=⟨aUr c a.1 d.1 b⟩
end
def aOa {X:Cx}{i o:Expr}{td ty:TE}{pos:Pos}(d:X.A.units+1<cLine)(b:VE X i ty)(a:VE X o td)(c:behindInMarks .NotIn o=false:=by first|exact nobehind _ (by decide) (by decide)|rfl):VT X (.Compare i [.NotIn] [o] pos) (tB (aMm ty td)):=⟨aYv (aNg d b.1 a.1) c⟩
def aBp {X:Cx}{K:bE4}(h:X.K=K:=by rfl):OpR X (compareOp .NotIn) (rIn K true):=by subst h;exact rY
def sel {α:Type}(p:Nat->Bool):Nat->List α->List α
 |_,[]=>[]
 |i,x::r=>if p i then x::sel p (i+1) r else sel p (i+1) r
theorem xY {α:Type}(p:Nat->Bool)(x:α):∀(k:Nat) (xs:List α),sel p k (xs++[x])=sel p k xs++(if p (k+xs.length) then [x] else [])
 |k,[]=>by show (if p k then x::sel p (k+1) [] else sel p (k+1) [])=[]++(if p (k+0) then [x] else []);rw[Nat.add_zero,bDK];rfl
 |k,y::r=>by
  show (if p k then y::sel p (k+1) (r++[x]) else sel p (k+1) (r++[x]))=(if p k then y::sel p (k+1) r else sel p (k+1) r)++_;rw[xY p x (k+1) r,j8,show k+1+r.length=k+(r.length+1) by lia]
  split <;> rfl
theorem aFe {α:Type}(p:Nat->Bool):∀(k:Nat) (xs:List α),(sel p k xs).length<=xs.length
 |_,[]=>j5 _
 |k,y::r=>by
  have:=aFe p (k+1) r;show (if p k then y::sel p (k+1) r else sel p (k+1) r).length<=r.length+1
  split
  ·rw[j8];lia
  ·lia
section
variable {X:Cx}{scope:Scope}{N:List Str}{wi:TI}{te:TE}{σ:L2.St}{H:Hp}{Q:VK}
end
def aTs {X:Cx}{i0:Nat}{k:Str}{c spos:Pos}{Y h f:Expr}{O:List Expr}{scope:Scope}{pos:Pos}{N:List Str}{wi:TI}{g:TG}{tt:TT}{te:TE}
  (hN:X.N.Nodup) (P:X.N[i0]?=some k) (M:Loc X.env.scope k) (C:nM scope N) (W:∀y,(y,NameKind.free)∈scope.names->X.env.kindOf y=some .cell\/X.env.kindOf y=some .free) (hc:X.calm=true)
  (hi:PI X h f wi)
  (q:∀cl s H fp,PG (cxC X N scope cl s H fp) h g/\aOk (cxC X N scope cl s H fp) O tt/\PE (cxC X N scope cl s H fp) Y te)
  (hs:∀x,foldedSetIterable f X.env x=pure x:=by intro _;rfl) (T:swapsWith (.ListComp Y [⟨h,f,O,0⟩] scope pos) (some (.Name k c)) spos.line X.env=pure true:=by rfl)
  (hf:X.fn k=true\/X.env.scope.names.lookup k=some .local:=by first|exact .inl rfl|exact .inr rfl|assumption) :
  PS X (.Assign [.Name k c] (.ListComp Y [⟨h,f,O,0⟩] scope pos) spos) (wY (gK X scope N wi g tt te) (bU i0)):=by
 intro d s σ H Dn I i;rw[exec_Assign_Name_used _ _ _ _ T];refine b7 (bEC (b7 ?_));show wpAny _ X.A (do let _ <-comprehension (.ListComp Y [⟨h,f,O,0⟩] scope pos) scope X.env _ (newList []) false (eval f X.env) (some (assign (.Name k c) X.env))) _ _ s;refine b7 (bAY (aCo (use:=some (assign (.Name k c) X.env)) (QQ:=λ_ u=>SP X d Dn .next u) C W hc hi q hs I i λD B E m ⟨J,p⟩ j fp L=>?_)
  (λ_ u i=>d8 (d8 i)) λ_ _ e=>e)
 have Q:Inv X d σ E m:=j m.heap λ_ _ _ e=>e;obtain⟨G,r,Z,U,t,V⟩:=fp;show wpAny (model X.prog X.w) X.A (assign (.Name k c) X.env (.ref D)) _ _ m;refine wpAny_assign_Name (aBz Q hN P M (v:=.ref D) rfl (λF S ⟨a,R,K⟩=>?_) hf);have n:B≠a:=by
  rcases K with z|z
  ·rw[z];exact r
  ·exact λe=>t k a z e.symm
 refine⟨J,p.sameBut R n,λh' l=>?_⟩;exact⟨_,E,Inv.turned S (t':=F.toks) (it:=B) (λb o q e=>l.extBut b o q e) G r U t V,L⟩
def aEd {X:Cx}{i0:Nat}{x0:Str}{pos' spos:Pos}{elt target iter:Expr}{ifs:List Expr}{scope:Scope}{pos:Pos}{N:List Str}{wi:TI}{g:TG}{tt:TT}{te:TE}
  (k:X.N.Nodup) (e:X.N[i0]?=some x0) (d:Loc X.env.scope x0) (C:nM scope N) (c:∀y,(y,NameKind.free)∈scope.names->X.env.kindOf y=some .cell\/X.env.kindOf y=some .free) (f:X.calm=true)
  (h:VI X target iter wi)
  (a:∀cl s H fp,VG (cxC X N scope cl s H fp) target g/\VF (cxC X N scope cl s H fp) ifs tt/\VE (cxC X N scope cl s H fp) elt te)
  (j:∀x,foldedSetIterable iter X.env x=pure x:=by intro _;rfl) (b:swapsWith (.ListComp elt [⟨target,iter,ifs,0⟩] scope pos) (some (.Name x0 pos')) spos.line X.env=pure true:=by rfl)
  (i:X.fn x0=true\/X.env.scope.names.lookup x0=some .local:=by first|exact .inl rfl|exact .inr rfl|assumption) :
  VS X (.Assign [.Name x0 pos'] (.ListComp elt [⟨target,iter,ifs,0⟩] scope pos) spos) (wY (gK X scope N wi g tt te) (bU i0)):=
 ⟨aTs k e d C c f h.1 (λcl s H fp=>⟨(a cl s H fp).1.1,(a cl s H fp).2.1.1,(a cl s H fp).2.2.1⟩) j b i⟩
section
variable {te:TE}{H:Hp}{Q:VK}
def aJw (xs:List V)(Rel:Nat->Hp->V->Prop)(st:∀{i H1 H2 y},Same H1 H2->Rel i H1 y->Rel i H2 y)(v:∀{i H1 D ys zs y},H1 D=some (.lst ys)->Rel i H1 y->Rel i (upd H1 D (.lst zs)) y)
  (A:St) (hsz:xs.length<=sizeLine)
  (J:It) (w:∀H' i x,Same H H'->xs[i]?=some x->J.go i H'/\∀y H2,J.yld i H' y H2->H2=H'/\y=x) (k:∀H',Same H H'->J.stop xs.length H')
  (B:∀(i:Nat) (x:V),xs[i]?=some x->∀H' R l,Same H H'->(∀y H2,Same H' H2->Rel i H2 y->R y H2)->te ((A.set 0 l).set 0 (some x)) H' R) (C:A[0]?=some none)
  (q:∀D H' ys,Same H H'->H' D=some (.lst ys)->ys.length=xs.length->(∀(i:Nat) (y:V),ys[i]?=some y->Rel i H' y)->Q (.ref D) H') :
  ∀D,H D=none->∃W:Nat->Nat->St->Hp->List V->Prop,(∃m,W 0 m A (upd H D (.lst [])) []) /\
   ∀i m σ' H' ys,W i m σ' H' ys->H' D=some (.lst ys)/\((J.stop i H'/\Q (.ref D) H')\/(J.go i H'/\∀x H2,J.yld i H' x H2->bU 0 x σ' H2 fun σ3 H3=>lJ σ3 H3 λb H4=>
    if b=true then te σ3 H4 λy H5=>H5 D=some (.lst ys)/\ys.length<sizeLine/\∃m',m'<m/\W (i+1) m' σ3 (upd H5 D (.lst (ys++[y]))) (ys++[y]) else H4 D=some (.lst ys)/\∃m',m'<m/\W (i+1) m' σ3 H4 ys)):=by
 intro D h;refine⟨λi m σ' H' ys=>i<=xs.length/\m=xs.length - i/\(∃l,σ'=A.set 0 l)/\Same H H'/\H' D=some (.lst ys)/\ys.length=i/\∀(j:Nat) (y:V),ys[j]?=some y->Rel j H' y,⟨xs.length,bAS _,rfl,⟨none,jX C⟩,aR h _,aH,rfl,λj y e=>by simp at e⟩,?_⟩;rintro i m σ' H' ys ⟨hi,rfl,⟨l,rfl⟩,sm,hL,hl,hR⟩;refine⟨hL,?_⟩;by_cases a:i<xs.length
 ·right;obtain⟨s,p⟩:=w H' i xs[i] sm (b8 a);refine⟨s,λx H2 t=>?_⟩;obtain⟨rfl,rfl⟩:=p x H2 t;unfold bU lJ;dsimp only;rw[if_pos rfl];refine B i xs[i] (b8 a) _ _ l sm λy H3 d u=>⟨d _ _ hL,by lia,xs.length - (i+1),by lia,a,rfl,⟨some xs[i],?_⟩,?_,aH,?_,?_⟩
  ·rw[bCQ]
  ·intro b o e;rw[aJ (aV e h)];exact d _ _ (sm _ _ e)
  ·rw[bAD,bD8,hl]
  ·intro j z c;refine v (d _ _ hL) ?_;by_cases r:j<ys.length
   ·rw[bCI r] at c;exact st d (hR j z c)
   ·rw[bCE (by lia)] at c;have g:j - ys.length=0:=by
     by_cases n:j - ys.length=0
     ·exact n
     ·rw[bAO (by simp;lia)] at c;cases c
    have f:j=i:=by lia
    subst f;rw[g] at c;cases c;exact u
 ·left;have e:i=xs.length:=by lia
  subst e;exact⟨k _ sm,q D _ ys sm hL hl hR⟩
end
section
variable {K:bE4}
def aJ2 {a:Addr}{xs:List V}{H:Hp}(g:∀H',Same H H'->SqL K H' a xs):∀H' i x,Same H H'->xs[i]?=some x->(Itl K a).go i H'/\∀y H2,(Itl K a).yld i H' y H2->H2=H'/\y=x:=λH' i x s e=>
 ⟨⟨xs,x,g H' s,e⟩,λy H2 c=>by obtain⟨d,f⟩:=c;have b:=f xs (g H' s);rw[e] at b;cases b;exact⟨d,rfl⟩⟩
def aAn {a:Addr}{xs:List V}{H:Hp}(b:∀H',Same H H'->SqL K H' a xs):∀H',Same H H'->(Itl K a).stop xs.length H':=λH' s=>⟨xs,b H' s,j5 _⟩
end
section
variable {X:Cx}{K:bE4}{scope:Scope}{N:List Str}{tl te:TE}{σ:L2.St}{H:Hp}{Q:VK}
def aOj (Pr:List V->Prop)(Rel:Nat->Hp->V->Prop)(st:∀{i H1 H2 y},Same H1 H2->Rel i H1 y->Rel i H2 y)(h:∀{i H1 D ys zs y},H1 D=some (.lst ys)->Rel i H1 y->Rel i (upd H1 D (.lst zs)) y)
  (f:L2.St) (g:Cap X scope N σ f) (m:f[0]?=some none)
  (j:∀R:VK,(∀D H1 us,Same H H1->H1 D=some (.lst us)->Pr us->R (.ref D) H1)->tl σ H R)
  (hsz:∀us,Pr us->us.length<=sizeLine)
  (k:∀us,Pr us->∀(i:Nat) (x:V),us[i]?=some x->∀H' R l,Same H H'->(∀y H2,Same H' H2->Rel i H2 y->R y H2)->te ((f.set 0 l).set 0 (some x)) H' R)
  (q:∀us,Pr us->∀D H' ys,Same H H'->H' D=some (.lst ys)->ys.length=us.length->(∀(i:Nat) (y:V),ys[i]?=some y->Rel i H' y)->Q (.ref D) H') :
  gK X scope N (aCj K tl) (bU 0) lJ te σ H Q:=
 ⟨f,g,j _ λD H1 us c b p=>⟨D,rfl,⟨us,SqL.of b⟩,aJw us Rel st h f (hsz us p) (Itl K D) (aJ2 λH' a=>SqL.of (a _ _ b)) (aAn λH' a=>SqL.of (a _ _ b))
  (λi x d H' R l a r=>k us p i x d H' R l (c.trans a) r) m λe H' ys a=>q us p e H' ys (c.trans a)⟩⟩
end
def SqT.qG {K:bE4}{H:Hp}{a D:Addr}{xs ys zs:List V}(b:H D=some (.lst ys))(h:SqT K H a xs):SqT K (upd H D (.lst zs)) a xs:=by
 rcases h with (h|⟨o,h⟩)|h
 ·exact .inl (.inl (by rw[aJ (pN h b (by intro z;cases z))];exact h))
 ·exact .inl (.inr ⟨o,by rw[aJ (pN h b (by intro z;cases z))];exact h⟩)
 ·exact .inr h
end L2
namespace PySem
end PySem
namespace L2
open PySem PySem.Spec PyProof.Rows
def classAt:Stmt->Nat->Stmt
 |.ClassDef _ _ _ body _ _ _ _ _ _ _,j=>body.getD j (.Pass ⟨0,0,0,0⟩)
 |st,_=>st
structure aR8 (K:bE4)(mg:bE7)(x:Str)(C:Addr):Prop where
 at_:mg x=some (.ref C)
 cls:Cls K C
 mks:PySem.W.makesIn K C=true
 kp:PySem.W.keepIn K (.ref C)=true
def xK (K:bE4)(C:Addr)(m qual:Str)(st:Stmt)(ps:List Str):Prop:=∃f fd,Meth K C m f/\Fun K m qual st f fd/\Binds K fd ps []
section
variable {P:Program}{w:World}{K:bE4}{mg:bE7}{base:Heap}
def OkM (P:Program)(w:World)(K:bE4)(mg:bE7)(base:Heap)(C:Addr)(k:Nat)(m:Str)(ps:List Str)(sp:Sp):Prop:=
 ∃f fd,Cls K C/\Meth K C m f/\Binds K fd ps []/\dW P w K mg base CX0 k f fd ps sp
def OkM.mono {C:Addr}{j k:Nat}{m:Str}{ps:List Str}{sp:Sp}(h:OkM P w K mg base C j m ps sp)(g:j<=k):OkM P w K mg base C k m ps sp:=by obtain⟨f,a,b,d,e,c⟩:=h;exact⟨f,a,b,d,e,c.mono g⟩
def OkC (P:Program)(w:World)(K:bE4)(mg:bE7)(base:Heap)(C:Addr)(k:Nat)(x:Str)(ps:List Str)(sp:Sp):Prop:=
 ∃f fd,mg x=some (.ref C)/\Mk K C f/\Binds K fd ps []/\dW P w K mg base CX0 k f fd ps sp
def OkC.mono {C:Addr}{j k:Nat}{x:Str}{ps:List Str}{sp:Sp}(h:OkC P w K mg base C j x ps sp)(g:j<=k):OkC P w K mg base C k x ps sp:=by obtain⟨f,a,b,d,e,c⟩:=h;exact⟨f,a,b,d,e,c.mono g⟩
end
section
variable {X:Cx}{e o value:Expr}{es:List Expr}{f m x:Str}{p pos pos' apos:Pos}{ta tv:TE}{t:TA}{C:Addr}{k:Nat}{ps:List Str}{sp:Sp}
def aD1 {K:bE4}(a:VE X e ta)(b:attributeBase e f X.env (eval e X.env)=eval e X.env:=by rfl)(h:X.K=K:=by rfl):VE X (.Attribute e f pos) (bAu K ta f):=by subst h;exact⟨aY8 a.1 b⟩
def aAi {K:bE4}(b:VE X o ta)(c:VE X value tv)(a:swapsWith value (some (.Attribute o f pos')) pos.line X.env=pure false:=by rfl)(h:X.K=K:=by rfl):VS X (.Assign [.Attribute o f pos'] value pos) (bBk K ta tv f):=by subst h;exact⟨aZ5 b.1 c.1 a⟩
def aUe {pl:Sem Bool}(G:OkM X.prog X.w X.K X.mg X.base C k m ps sp)(p:Room k X.A)(l:VE X o ta)(h:VA X (e::es) t)
  (n:cC e=true:=by rfl) (c:(backTo pos (starEach es X.env)).any (·.1)=false:=by rfl)
  (j:eval (.Call (.Attribute o m apos) (e::es) [] pos) X.env=(do
   let ov <-eval o X.env
   standAt apos.atName
   let (f,first) <-holding [ov] (getMethod ov m pl)
   callWith pos f first (backTo pos (starEach (e::es) X.env)) (backToKw pos (keywordEach [] X.env))):=by rfl):VE X (.Call (.Attribute o m apos) (e::es) [] pos) (aSt C m sp [] E0 ta t):=by
 obtain⟨f,i,a,d,g,b⟩:=G;exact⟨aVc l.1 a d b p g .nil aB7 h.1 (aL n) c j⟩
def aU4 (G:OkC X.prog X.w X.K X.mg X.base C k x ps sp)(n:Room (k+1) X.A)(l:Gl X x)(i:VA X (e::es) t)(h:(x == ("__debug__":Str))=false:=by decide)(m:cC e=true:=by rfl)(c:(backTo pos (starEach es X.env)).any (·.1)=false:=by rfl) :
  VE X (.Call (.Name x p) (e::es) [] pos) (aW9 C sp [] E0 t):=by
 obtain⟨f,j,a,d,g,b⟩:=G;exact⟨aVx d b n l a g .nil aB7 i.1 h (aL m) c⟩
end
end L2
namespace PySem
def Ris (xs:Array Nat):Prop:=∀a b (ha:a<xs.size) (hb:b<xs.size),a<b->xs[a]<xs[b]
theorem xX {xs:Array Nat}{j:Nat}(d:Ris xs):∀(fuel lo hi:Nat),hi - lo<=fuel->lo<=hi->hi<=xs.size->(∀k (h:k<xs.size),k<lo->xs[k]<j)->(∀k (h:k<xs.size),hi<=k->j<=xs[k]) ->
  SetTable.below.go xs j fuel lo hi<=xs.size/\(∀k (h:k<xs.size),k<SetTable.below.go xs j fuel lo hi->xs[k]<j)/\∀k (h:k<xs.size),SetTable.below.go xs j fuel lo hi<=k->j<=xs[k]
 |0,lo,hi,hf,h1,h2,h3,h4=>by
  have e:lo=hi:=by lia
  subst e;exact⟨h2,h3,h4⟩
 |fuel+1,lo,hi,hf,h1,h2,h3,h4=>by
  unfold SetTable.below.go
  split
  ·rename_i g;have m:(lo+hi) / 2<hi:=by lia
   have i:lo<=(lo+hi) / 2:=by lia
   have a:(lo+hi) / 2<xs.size:=by lia
   dsimp only;rw[bAK,v5 a,bBP]
   split
   ·rename_i b;refine xX d fuel _ _ (by lia) (by lia) h2 (λk c f=>?_) h4;by_cases e:k=(lo+hi) / 2
    ·subst e;exact b
    ·exact bD3 (d k _ c a (by lia)) b
   ·rename_i b;refine xX d fuel _ _ (by lia) (by lia) (by lia) h3 λk c l=>?_;by_cases e:k=(lo+hi) / 2
    ·subst e;lia
    ·exact bAJ (Nat.le_of_not_lt b) (bDD (d _ k a c (by lia)))
  ·have e:lo=hi:=by lia
   subst e;exact⟨h2,h3,h4⟩
def rH {xs:Array Nat}(c:Ris xs)(j:Nat):SetTable.below xs j<=xs.size/\(∀k (h:k<xs.size),k<SetTable.below xs j->xs[k]<j)/\∀k (h:k<xs.size),SetTable.below xs j<=k->j<=xs[k]:=
 xX c xs.size 0 xs.size (by lia) (bAS _) (j5 _) (λk _ h=>absurd h (bEK _)) (λk a b=>absurd a (by lia))
def aBk {α:Type}(xs:Array α)(p:Nat)(x:α)(hp:p<=xs.size):(SetTable.insertAt xs p x).toList=xs.toList.take p++x::xs.toList.drop p:=by unfold SetTable.insertAt;rw[bC6,bE2,Array.toList_extract,Array.toList_extract];simp only[List.extract_eq_drop_take,List.drop_zero,Nat.sub_zero,bDO,List.singleton_append];have e:(xs.toList.drop p).take (xs.size - p)=xs.toList.drop p:=bBF (by rw[bBC,v9];exact j5 _);rw[e]
def aF2 {xs:Array Nat}:Ris xs↔xs.toList.Pairwise (·<·):=by
 rw[List.pairwise_iff_getElem];unfold Ris;constructor
 ·intro h i j k f c;exact h i j (by simpa using k) (by simpa using f) c
 ·intro h a b e g d;exact h a b (by simpa using e) (by simpa using g) d
def aAo {xs:Array Nat}{j:Nat}(n:Ris xs)(t:xs[SetTable.below xs j]?≠some j):Ris (SetTable.insertAt xs (SetTable.below xs j) j):=by
 obtain⟨q,o,l⟩:=rH n j;rw[aF2,aBk _ _ _ q,List.pairwise_append,List.pairwise_cons];have m:=aF2.mp n;have below:∀a∈xs.toList.take (SetTable.below xs j),a<j:=λa d=>by
  obtain⟨i,g,rfl⟩:=bCV d;rw[List.getElem_take];rw[bAT] at g;have f:i<xs.toList.length:=by lia
  exact o i (by simpa using f) (by lia)
 have c:∀a∈xs.toList.drop (SetTable.below xs j),j<a:=λa d=>by
  obtain⟨i,g,rfl⟩:=bCV d;rw[List.getElem_drop];rw[bBC] at g;have e:SetTable.below xs j+i<xs.toList.length:=by lia
  have k:SetTable.below xs j+i<xs.size:=by simpa using e
  have p:=l _ k (bDB _ _);rw[Array.getElem_toList];rcases Nat.lt_or_eq_of_le p with h|h
  ·exact h
  ·exfalso;cases i with
   |zero=>exact t ((v5 k).trans (congrArg some h.symm))
   |succ i=>
    have hb:SetTable.below xs j<xs.size:=by lia
    have r:=l _ hb (j5 _);have s:=n _ _ hb k (by lia);lia
 refine⟨m.sublist (bEZ _ _),⟨c,m.sublist (List.drop_sublist _ _)⟩,λa d b hb=>?_⟩;rcases List.mem_cons.mp hb with rfl|hb
 ·exact below a d
 ·exact bD3 (below a d) (c b hb)
def aKs {t:SetTable}{j:Nat}(h:t.slot j=.empty):t.place[SetTable.below t.place j]?≠some j:=by unfold SetTable.slot at h;intro e;simp[e] at h
def aFh {t:SetTable}(hd:t.dummies=#[])(j:Nat):t.slot j≠.dummy:=by
 unfold SetTable.slot;rw[hd];dsimp only
 split
 ·intro z;cases z
 ·have:SetTable.has #[] j=false:=by unfold SetTable.has;simp
  rw[this];intro z;cases z
theorem aIm {t:SetTable}{g:Nat->Int}{h:Int}(hd:t.dummies=#[]):∀(fuel:Nat) (p:SetTable.Probe) (j:Nat) (dm:Option Nat),p.dummy=none->SetTable.probe.go t g h fuel p=some (.empty j dm)->dm=none/\t.slot j=.empty
 |0,p,j,dm,_,e=>by cases e
 |fuel+1,p,j,dm,hp,e=>by
  unfold SetTable.probe.go at e;have b:∀q:SetTable.Probe,q.dummy=none->(t.advance q).dummy=none:=λq c=>by
   unfold SetTable.advance
   split
   ·exact c
   ·exact c
  split at e
  ·rename_i a;cases e;exact⟨hp,a⟩
  ·rename_i a;exact absurd a (aFh hd _)
  ·split at e
   ·cases e
   ·exact aIm hd fuel _ j dm (b p hp) e
def aIo {t:SetTable}{h:Int}{j:Nat}{b:Bool}(hd:t.dummies=#[])(e:t.freeSlot h=some (j,b)):t.place[SetTable.below t.place j]?≠some j:=by
 unfold SetTable.freeSlot at e
 split at e
 ·rename_i d f a;unfold SetTable.probe at a;obtain⟨rfl,c⟩:=aIm hd _ _ _ _ rfl a;cases e;exact aKs c
 ·cases e
def TabOk (b:Bool)(t:SetTable):Prop:=(b=false->t.led=true)/\t.dummies=#[]/\7<=t.mask/\(t.plain=true->Ris t.place)
def TabOk.stand {b:Bool}{t:SetTable}{n:Nat}(h:TabOk b t)(hn:1<=n):TabOk b (t.standIn n):=⟨h.1,rfl,by show 7<=4 * n+4;lia,λz=>by cases z⟩
def TabOk.off {b:Bool}{t:SetTable}(h:TabOk b t):TabOk b { t with plain:=false }:=⟨h.1,h.2.1,h.2.2.1,λz=>by cases z⟩
def TabOk.new {b:Bool}{t:SetTable}{es:Array (Int × Value)}{h:Int}{x:Value}(c:TabOk b t):TabOk b (layNew t es h x).2.1:=by
 unfold layNew
 split
 ·rename_i a g e;have f:=aIo c.2.1 e;dsimp only[SetTable.put];have d:(if SetTable.has t.dummies a=true then SetTable.eraseAt t.dummies (SetTable.below t.dummies a) else t.dummies)=#[]:=by
   rw[c.2.1];have:SetTable.has #[] a=false:=by unfold SetTable.has;simp
   rw[this];rfl
  rw[d];unfold SetTable.orStandIn
  split
  ·exact⟨c.1,rfl,c.2.2.1,λz=>aAo (c.2.2.2 z) f⟩
  ·refine TabOk.stand (t:={ t with place:=_,dummies:=#[] }) ⟨c.1,rfl,c.2.2.1,λz=>aAo (c.2.2.2 z) f⟩ ?_;unfold SetTable.insertAt;simp only[Array.size_append,Array.size_push,Array.size_extract];lia
 ·exact c.stand (Nat.succ_le_succ (bAS _))
def TabOk.room {b:Bool}{t:SetTable}{n:Nat}(c:TabOk b t)(a:t.fits n=true)(hn:n<=4):t.tooFull=false:=by unfold SetTable.fits at a;rw[bAB,beq_iff_eq] at a;unfold SetTable.tooFull SetTable.fill;rw[a.1,c.2.1];have:=c.2.2.1;simp only[Array.size_empty,Nat.add_zero,decide_eq_false_iff_not];lia
def vO {α β:Type}{R:α->β->Prop}{bs' bs:List β}(p:bs'.Perm bs):∀{as:List α},Paired R as bs->∃as',Paired R as' bs'/\as'.Perm as:=by
 induction p with
 |nil=>intro as h;exact⟨as,h,.refl _⟩
 |cons x _ ih=>
  intro as h;cases h with
  |cons r t=>obtain⟨as',a,b⟩:=ih t;exact⟨_,.cons r a,b.cons _⟩
 |swap x y l=>
  intro as h;cases h with
  |cons r t=>
   cases t with
   |cons r2 t2=>exact⟨_,.cons r2 (.cons r t2),.swap ..⟩
 |trans _ _ ih1 ih2=>intro as h;obtain⟨f,a,b⟩:=ih2 h;obtain⟨c,e,d⟩:=ih1 a;exact⟨c,e,d.trans b⟩
def aIg {α β:Type}{R:α->β->Prop}{as:List α}{bs:List β}{a:α}{b:β}(h:Paired R as bs)(r:R a b):Paired R (as++[a]) (bs++[b]):=by
 induction h with
 |nil=>exact .cons r .nil
 |cons q _ ih=>exact .cons q ih
def aHe {α β:Type}{R:α->β->Prop}{as:List α}{bs:List β}(h:Paired R as bs):∀a∈as,∃b∈bs,R a b:=by
 induction h with
 |nil=>intro a ha;cases ha
 |cons q _ ih=>
  intro a ha;rcases List.mem_cons.mp ha with rfl|ha
  ·exact⟨_,v4,q⟩
  ·obtain⟨b,c,r⟩:=ih a ha;exact⟨b,j9 _ c,r⟩
def wD {α β:Type}{R:α->β->Prop}{as:List α}{bs:List β}(h:Paired R as bs):∀b∈bs,∃a∈as,R a b:=by
 induction h with
 |nil=>intro a c;cases c
 |cons q _ ih=>
  intro b hb;rcases List.mem_cons.mp hb with rfl|hb
  ·exact⟨_,v4,q⟩
  ·obtain⟨a,c,r⟩:=ih b hb;exact⟨a,j9 _ c,r⟩
section
variable {prog:Program}{w:World}{κ:Type}[DecidableEq κ]{knd:KeyKind prog w κ}{A:Around}{E:bE5}{s:Shared}
def byT (w:World):Bool:=w.params.followText "set-order"
abbrev ElK (knd:KeyKind prog w κ):κ->Int × Value->Prop:=λk e=>knd.is k e.2=true/\e.1=knd.hash k/\e.2.scannable=true
def qI (knd:KeyKind prog w κ)(h:Heap)(D:Addr)(kl:List κ):Prop:=∃o es ep t,h.get? D=some o/\o.ExactSet/\o.data=.set es ep t/\t.fits es.size=true/\TabOk (byT w) t/\Paired (ElK knd) kl es.toList
def qI.at {h h':Heap}{D:Addr}{kl:List κ}(x:qI knd h D kl)(e:∀o,h.get? D=some o->h'.get? D=some o):qI knd h' D kl:=by obtain⟨o,b,c,t,a,r⟩:=x;exact⟨o,b,c,t,e o a,r⟩
def aTi {D:Addr}{O:List κ}{k:κ}{x:Value}{Q:Bool->Shared->Prop}(G:knd.is k x=true)(K:x.scannable=true)(hS:qI knd s.heap D O)(hroom:O.length<4)
  (h:∀h' kl' b,Heap.SameBut D s.heap h'->qI knd h' D kl'->kl'.Perm (if k∈O then O else O++[k])->Q b { s with heap:=h' }):wpAny (model prog w) A (setAddHashed D x (knd.hash k)) Q E s:=by
 obtain⟨o,i,ep,t,v,H,u,N,J,n⟩:=hS;have hn:O.length=i.size:=by rw[Paired.length n,v9]
 have B:ElemsOf knd i.toList:=λe Y=>by obtain⟨X,_,F,r2,r3⟩:=wD n e Y;exact⟨⟨X,F,r2⟩,r3⟩
 have hb:i.size<scanBound:=by unfold scanBound;lia
 unfold setAddHashed setAddHashedIn;refine bAP (b7 (bC2 v u N ?_));dsimp only;rw[byScan_of K hb B];simp only[↓reduceIte];unfold setAddByScan;refine b7 (b7 (bCU (b7 (wpAny_setScan_of G v u N B ?_))));cases hr:List.findIdx? (λe=>knd.is k e.2) i.toList with
 |some j=>
  dsimp only;obtain⟨hj,U,_⟩:=List.findIdx?_eq_some_iff_getElem.mp hr;obtain⟨X,W,F,_⟩:=wD n _ (bBH hj);have Z:k∈O:=by rw[knd.inj _ k X U F];exact W
  refine d8 (d8 ?_);have e:s={ s with heap:=s.heap }:=by cases s;rfl
  rw[e];exact h s.heap O _ (Heap.SameBut.refl D s.heap) ⟨o,i,ep,t,v,H,u,N,J,n⟩ (by rw[if_pos Z])
 |none=>
  dsimp only;have C:k∉O:=λz=>by obtain⟨e,Y,F,_⟩:=aHe n k z;have:=List.findIdx?_eq_none_iff.mp hr e Y;rw[F] at this;cases this
  have S:∀(b:Bool) {g:Shared} {M:Unit->Shared->Prop},M () g->wpAny (model prog w) A (match b with|true=>rule "set.scan.the-table-gave-way"|false=>pure ()) M E g:=λb g M hq=>match b with
   |true=>bCU hq
   |false=>d8 hq
  have a:=layNew_perm t i (knd.hash k) x;have c:=layNew_fits t i (knd.hash k) x;have d:TabOk (byT w) (layNew t i (knd.hash k) x).2.1:=J.new;generalize hL:layNew t i (knd.hash k) x=L at a c d ⊢;obtain⟨f,P,p,a0⟩:=L;dsimp only at a c d ⊢;rw[bE2] at a;obtain⟨kl',T,pm⟩:=vO a (aIg n (show ElK knd k (knd.hash k,x) from ⟨G,rfl,K⟩));have a1:f.size=i.size+1:=by rw[<-v9,a.length_eq,bAD,v9];rfl
  refine b7 (S _ ?_);have I:∀l:SetTable,TabOk (byT w) l->l.fits f.size=true->∀(R:Option Bool->Shared->Prop),(∀h',Heap.SameBut D s.heap h'->qI knd h' D kl'->R (some true) { s with heap:=h' }) ->
    wpAny (model prog w) A (storeSet D f l) (λ_ g=>l.tooFull=false/\R (some true) g) E s:=λl h2 f2 R hR=>by
   refine wpAny_storeSet_of v u ⟨h2.room f2 (by lia),?_⟩ (fits_of_scanBound (by unfold scanBound;lia));have hg:=bAU (Obj.putSet f l) v (by rw[putSet_of f l u];rfl);rw[putSet_of f l u] at hg;exact hR _ (bBQ s.heap D (Obj.putSet f l)) ⟨_,f,ep+1,l,hg,H,rfl,f2,h2,T⟩
  have m:∀h',Heap.SameBut D s.heap h'->qI knd h' D kl'->Q true { s with heap:=h' }:=λh' y q=>h h' kl' true y q (by rw[if_neg C];exact pm)
  split
  ·refine b7 ?_;rw[hashByValue_scannable 8 K];refine d8 ?_;refine b7 (bAY (I (if plainKind x=true then P else { P with plain:=false }) (by split;exact d;exact d.off) (by split;exact c;exact SetTable.fits_plain_off c) (λr g=>wpAny (model prog w) A (match r with|some b=>pure b|none=>unsupported "x") Q E g) λh' y q=>d8 (m h' y q)) (λ_ g ⟨V,q⟩=>?_) λ_ _ z=>z);rw[V];simp only[bAV,bAZ,↓reduceIte];exact d8 q
  ·refine b7 (d8 ?_);simp only[↓reduceIte];refine b7 (bAY (I P d c (λr g=>wpAny (model prog w) A (match r with|some b=>pure b|none=>unsupported "x") Q E g) λh' y q=>d8 (m h' y q)) (λ_ g ⟨V,q⟩=>?_) λ_ _ z=>z);rw[V];simp only[bAV,bAZ,↓reduceIte];exact d8 q
def Ded (kl xs:List κ):Prop:=kl.Nodup/\(∀k,k∈kl↔k∈xs)/\kl.length<=xs.length
def Ded.more {l kl' xs:List κ}{k:κ}(h:Ded l xs)(p:kl'.Perm (if k∈l then l else l++[k])):Ded kl' (xs++[k]):=by
 obtain⟨f,d,j⟩:=h;by_cases c:k∈l
 ·rw[if_pos c] at p;refine⟨p.nodup_iff.mpr f,λy=>?_,by rw[p.length_eq,bAD];lia⟩;rw[p.mem_iff,d,bEL,bCN];exact⟨.inl,λz=>z.elim id λe=>e ▸ (d k).mp c⟩
 ·rw[if_neg c] at p;refine⟨p.nodup_iff.mpr (List.nodup_append.mpr ⟨f,by simp,λa i b g e=>?_⟩),λy=>?_,by rw[p.length_eq,bAD,bAD];exact Nat.add_le_add_right j _⟩
  ·rw[bCN] at g;exact c (g ▸ e ▸ i)
  ·rw[p.mem_iff,bEL,bEL,d]
def aP7 {h:Heap}{D:Addr}(d:h.get? D=some (cG (!byT w))):qI knd h D []:=by refine⟨_,#[],0,_,d,⟨rfl,rfl,rfl⟩,rfl,rfl,⟨λe=>?_,rfl,j5 _,λ_=>λa b c=>absurd c (by show ¬ (a<0);lia)⟩,.nil⟩;show (!byT w)=true;rw[e];rfl
def aIs (a:Value){Q₁:bE5}(h:Q₁ (.ref s.heap.objs.size) { s with heap:=s.heap.push (cG (!byT w)) }):codeAny (model prog w) A (.call (.builtin "set.__new__") ⟨[.type "set",a],[]⟩) (wants Q₁ E) s:=by have b:=sub_set_self;refine codeAny_of_tree (show wpAny _ A.in1 (do checkBuiltinCall "set.__new__" ⟨[.type "set",a],[]⟩;again (.builtin "set.__new__" ⟨[.type "set",a],[]⟩)) _ _ s from b7 (bEH (F.newCall_set_1 a) (d8 ⟨bCY F.plain_set_new _,bBT F.entry_set_new ?_⟩)));rw[bBI F.plain_set_new _];unfold Builtin.«set.__new__» Builtin.Frozenset.newClass;obtain⟨e,g,d,f,c⟩:=s;dsimp only;wp_walk;refine bDC (d8 ?_);dsimp only;simp only[newObj];exact b7 (wpAny_alloc (d8 (d8 h)))
def Ex (h0 h:Heap):Prop:=∀b o,h0.get? b=some o->h.get? b=some o
structure Kset (prog:Program)(w:World)(κ:Type)[DecidableEq κ](A:Around)(h0:Heap)(D:Addr)(S:Heap->List κ->Prop)(V:κ->Value->Prop)(m:Nat):Prop where
 at_:∀{h h':Heap} {kl:List κ},S h kl->(∀o,h.get? D=some o->h'.get? D=some o)->S h' kl
 add:∀{A':Around} {E:bE5} {s:Shared} {kl:List κ} {k:κ} {v:Value} {Q:Bool->Shared->Prop},A'.units<=A.units+9->Ex h0 s.heap->V k v->S s.heap kl->kl.length<m->(∀h' tk kl' b,Heap.SameBut D s.heap h'->S h' kl'->kl'.Perm (if k∈kl then kl else kl++[k])->Q b { s with heap:=h',toks:=tk })->wpAny (model prog w) A' (setAdd D v) Q E s
 new:∀{h:Heap},h.get? D=some (cG (!byT w))->S h []
variable {S:Heap->List κ->Prop}{V:κ->Value->Prop}{m:Nat}{h0:Heap}{A0:Around}
def aNy {A:Around}{R:Result->Shared->Prop}{I:Addr}{fp wr:List Addr}{n:Nat}{P:Nat->Value->Prop}{St:Nat->Heap->Prop}(W:Walks prog w A.in1 I fp wr n P St){D:Addr}(J:D∉fp)(Z:Kset prog w κ A0 h0 D S V m)(hA:A.units+1<=A0.units+9)(Q:∀b∈D::wr,h0.get? b=none)
  (ks:List κ) (a0:ks.length=n) (F:∀i v,P i v->∃k,ks[i]?=some k/\V k v) (K:n<=m) :
  ∀(k i:Nat) (s:Shared) (kl:List κ),i+k=n->St i s.heap->Ex h0 s.heap->S s.heap kl->Ded kl (ks.take i) ->
   (∀h' tk kl',(∀b o,b∉D::wr->s.heap.get? b=some o->h'.get? b=some o)->S h' kl'->Ded kl' ks->R (.ok (.ret .none)) { s with heap:=h',toks:=tk }) ->
   codeAny (model prog w) A (.builtin "set.update.loop" ⟨[.ref D,.ref I],[]⟩) R s:=by
 have h:D∉wr:=λq=>J (W.sub _ q);have d:∀{b:Addr} {o:Obj},h0.get? b=some o->b∉D::wr:=λe z=>by rw[Q _ z] at e;cases e
 intro k
 induction k with
 |zero=>
  intro i s kl T C y x j q;obtain rfl:i=n:=by lia
  refine bBT bDW ?_;rw[bBI bCW _];show wpAny _ A.in1 (pyNext (.ref I) >>= _) _ _ _;refine b7 (W.done s _ _ C λh' tk l=>?_);rw[bBF (Nat.le_of_eq a0)] at j;exact d8 (q h' tk kl (λb o a e=>l b o (λz=>a (j9 _ z)) e) (Z.at_ x λo e=>l D o h e) j)
 |succ k ih=>
  intro i s kl T C y x j q;refine bBT bDW ?_;rw[bBI bCW _];show wpAny _ A.in1 (pyNext (.ref I) >>= _) _ _ _;refine b7 (W.item i s _ _ (by lia) C λv U N L r c=>?_);obtain⟨G,H,t⟩:=F i v L;have B:Ex h0 U:=λb o e=>c b o (λz=>d e (j9 _ z)) (y b o e);show wpAny _ A.in1 (holding [v] (setAdd D v) >>= _) _ _ _;refine b7 (bAP ?_);have lt:(ks.take i).length=i:=by rw[bAT];lia
  refine Z.add hA B t (Z.at_ x λo e=>c D o h e) (by have:=j.2.2;lia) λO X p b2 g E pm=>?_;have M:ks.take (i+1)=ks.take i++[G]:=by rw[bBR,H];rfl
  have f:∀b o,b∉D::wr->s.heap.get? b=some o->O.get? b=some o:=λb o a e=>by rw[g.2 b (λz=>a (by rw[z];exact v4))];exact c b o (λz=>a (j9 _ z)) e
  refine d8 ⟨bCY bCW _,ih (i+1) _ p (by lia) (W.frame _ _ _ r λb K o e=>?_) (λb o e=>f b o (d e) (y b o e)) E (by rw[M];exact j.more pm) λh' tk kl' l u Y=>q h' tk kl' (λb o a e=>l b o a (f b o a e)) u Y⟩;rw[g.2 b (λz=>J (by rw[<-z];exact K))];exact e
def aOn {A:Around}{R:Fin->Shared->Prop}{E:bE5}{s:Shared}{l:Addr}{its:Array Value}{ks:List κ}(I:A.handled=none)(Z:Kset prog w κ A0 s.heap s.heap.objs.size S V m)(W:A.units+1<=A0.units+9)(M:s.heap.IsList l its)(z:ks.length=its.size)
  (C:∀(i:Nat) (v:Value),its[i]?=some v->∃k,ks[i]?=some k/\V k v) (a:its.size<=m)
  (q:∀h' tk kl,S h' kl->Ded kl ks->(∀b o,b<s.heap.objs.size->s.heap.get? b=some o->h'.get? b=some o)->R (.done (.ret .none)) { s with heap:=h',toks:=tk }) :
  wpAny (model prog w) A (Builtin.«set.__init__» ⟨[.ref s.heap.objs.size,.ref l],[]⟩) R E { s with heap:=s.heap.push (cG (!byT w)) }:=by
 obtain⟨⟨O,J,N,t⟩,n,f,B,c⟩:=id M;simp only at f c;subst f c;have D:(s.heap.push (cG (!byT w))).get? s.heap.objs.size=some (cG (!byT w)):=j4 _ rfl;have U:Shared.TypeIs { s with heap:=s.heap.push (cG (!byT w)) } (.ref s.heap.objs.size) "set":=⟨_,D,rfl⟩;have h:(s.heap.push (cG (!byT w))).get? l=some { cls:=.type "list",dict:=J,data:=.seq its B,slots:=t }:=d7 _ n;have Q:=F.sub_list_set;have T:=F.sub_list_frozenset;have P:(Value.type "list" == Value.type "dict")=false:=by decide
 have d:(s.heap.push (cG (!byT w))).IsList l its:=⟨_,h,rfl,B,rfl⟩;have j:l<s.heap.objs.size:=j7 n;unfold Builtin.«set.__init__» noKeywords Builtin.Frozenset.updateFrom;generalize y:pyIter=PI;wp_walk;subst y;refine bCS d ?_;refine b7 (wpAny_runValue ?_);have p:(s.heap.push (cG (!byT w))).objs.size=s.heap.objs.size+1:=bBL ..;have u:l≠(s.heap.push (cG (!byT w))).objs.size:=by rw[p];exact v6 (bCF j)
 have r:s.heap.objs.size∉[(s.heap.push (cG (!byT w))).objs.size,l]:=by rw[p];simp only[bAE,v8,or_false,not_or];exact⟨v6 (bCZ _),bCP j⟩
 have G:∀b,s.heap.objs.size<=b->s.heap.get? b=none:=λb a=>by
  cases e:s.heap.get? b with
  |none=>rfl
  |some o=>exact absurd (j7 e) (Nat.not_lt.mpr a)
 refine aNy (Walks.list (by first|exact I|simp[I]) _ l u its) r Z W (λb a=>?_) ks z C a its.size 0 _ [] (by lia) ⟨⟨_,j4 _ rfl,rfl,rfl⟩,d.push _⟩ (λb o e=>d7 _ (d7 _ e)) ?_ ⟨List.nodup_nil,λk=>by simp,bAS _⟩ λh' tk kl K x L=>?_
 ·rw[p] at a;simp only[bAE,v8,or_false] at a;rcases a with rfl|rfl
  ·exact G _ (j5 _)
  ·exact G _ (bCX _)
 ·have H:((s.heap.push (cG (!byT w))).push { cls:=.type "list_iterator",data:=.fields #[.ref l,.int 0 0] }).get? s.heap.objs.size=some (cG (!byT w)):=d7 _ D;exact Z.new H
 ·refine d8 (d8 (q h' tk kl x L λb o g e=>K b o ?_ (d7 _ (d7 _ e))));rw[p];simp only[bAE,v8,or_false,not_or];exact⟨v6 g,v6 (bCF g)⟩
def aCs {l:Addr}{its:Array Value}{ks:List κ}{Q:bE5}(y:A.handled=none)(Z:Kset prog w κ A s.heap s.heap.objs.size S V m)(D:s.heap.IsList l its)(n:ks.length=its.size)
  (u:∀(i:Nat) (v:Value),its[i]?=some v->∃k,ks[i]?=some k/\V k v) (I:its.size<=m)
  (q:∀h' tk kl,S h' kl->Ded kl ks->(∀b o,b<s.heap.objs.size->s.heap.get? b=some o->h'.get? b=some o)->Q (.ref s.heap.objs.size) { s with heap:=h',toks:=tk }) :
  wpAny (model prog w) A (call (.type "set") [.ref l]) Q E s:=by
 have d:=F.called_set;obtain⟨c,N,j⟩:=d.mro;have J:=d.made;have G:=d.sub;have K:=d.notType;have M:=d.canCreate;have L:=F.typeCall_set_1 (.ref l);refine bCK (codeAny_of_tree (show wpAny _ _ (callAny (.type "set") _) _ _ _ from d8 ⟨Code.quiet_builtin _ (by trivial),bBT F.entry_type_call ?_⟩));rw[Around.under_plain (weight_type_call_type "set" [.ref l] []) (by rfl)]
 repeat (any_goals (first|assumption|wp_step))
 refine bCA (aIs (.ref l) (Q₁:=λobj p=>obj=.ref s.heap.objs.size/\p={ s with heap:=s.heap.push (cG (!byT w)) }) (E:=E) ⟨rfl,rfl⟩) λr p f=>?_;rcases r with e|fl
 ·exact f
 rcases fl with _|_|_|obj
 ·exact f.elim
 ·exact f.elim
 ·exact f.elim
 obtain⟨rfl,rfl⟩:=f;have B:Shared.TypeIs { s with heap:=s.heap.push (cG (!byT w)) } (.ref s.heap.objs.size) "set":=⟨_,j4 _ rfl,rfl⟩;have H:=d.init.lookup;have C:=d.init.bind (.ref s.heap.objs.size)
 repeat (any_goals (first|assumption|wp_step))
 refine bCA (bCC (R:=wants (λr t=>r=.none/\∃h' tk kl,t={ s with heap:=h',toks:=tk }/\S h' kl/\Ded kl ks/\∀b o,b<s.heap.objs.size->s.heap.get? b=some o->h'.get? b=some o) E)
  d.init.plain F.entry_set_init (check_set_init_1 B (aOn (by first|exact y|simp[y]) Z (by simp only[Around.in1_units];lia) D n u I λh' tk kl x g h=>⟨rfl,h',tk,kl,rfl,x,g,h⟩))) λz t a=>?_
 rcases z with e|fl
 ·exact a
 rcases fl with _|_|_|v
 ·exact a.elim
 ·exact a.elim
 ·exact a.elim
 obtain⟨rfl,h',tk,kl,rfl,x,g,h⟩:=a
 repeat (any_goals (first|assumption|wp_step))
 exact q h' tk kl x g h
def aXy (A:Around)(h0:Heap)(D:Addr):Kset prog w κ A h0 D (λh kl=>qI knd h D kl) (λk v=>knd.is k v=true/\v.scannable=true) 4:=⟨λx e=>x.at e,λ_ _ c i f q=>by unfold setAdd;exact bAP (b7 (knd.pyHash c.1 (aTi c.1 c.2 i f λj a g d b l=>q j _ a g d b l))),aP7⟩
def aNs {l:Addr}{its:Array Value}{ks:List κ}{Q:bE5}(e:A.handled=none)(f:s.heap.IsList l its)(a:ks.length=its.size)
  (c:∀(i:Nat) (v:Value),its[i]?=some v->∃k,ks[i]?=some k/\knd.is k v=true/\v.scannable=true) (d:its.size<=4)
  (q:∀h' tk kl,qI knd h' s.heap.objs.size kl->Ded kl ks->(∀b o,b<s.heap.objs.size->s.heap.get? b=some o->h'.get? b=some o)->Q (.ref s.heap.objs.size) { s with heap:=h',toks:=tk }) :
  wpAny (model prog w) A (call (.type "set") [.ref l]) Q E s:=aCs e (aXy A s.heap s.heap.objs.size) f a c d q
end
open PySem.Spec PyProof.Rows
section
variable {prog:Program}{w:World}
def TxS (prog:Program)(w:World)(h:Heap)(D:Addr)(kl:List Str):Prop:=h.SetOf (strKind prog w) D (λy=>decide (y∈kl)) kl.length
def TxS.at {h h':Heap}{D:Addr}{kl:List Str}(x:TxS prog w h D kl)(e:∀o,h.get? D=some o->h'.get? D=some o):TxS prog w h' D kl:=by obtain⟨o,b,c,t,a,r⟩:=x;exact⟨o,b,c,t,e o a,r⟩
def aXi (A:Around)(h0:Heap)(D:Addr):Kset prog w Str A h0 D (λh kl=>TxS prog w h D kl) (λk v=>∃t,v=.str k t) 1000:=⟨λx e=>x.at e,λ{j E s kl k v Q} _ _ f g l q=>by
 obtain⟨t,rfl⟩:=f;unfold setAdd;refine bAP (b7 ((strKind prog w).pyHash (k:=k) (strKind_is _ _ _ _) ?_));refine wpAny_setAddHashed_of (knd:=strKind prog w) (strKind_is _ _ _ _) rfl g (by unfold scanBound;lia) λi b a=>q i _ (if k∈kl then kl else kl++[k]) _ b ?_ (.refl _);have d:(λy=>decide (y∈if k∈kl then kl else kl++[k]))=λy=>(decide (y∈kl) || decide (y=k)):=funext λy=>by
  by_cases z:k∈kl
  ·rw[if_pos z,bCG];simp only[Bool.or_eq_true,decide_eq_true_eq];exact⟨.inl,λh=>h.elim id λe=>e ▸ z⟩
  ·rw[if_neg z,bCG];simp only[Bool.or_eq_true,decide_eq_true_eq,bEL,bCN]
 show Heap.SetOf _ _ _ _ _;rw[d];by_cases z:k∈kl
 ·rw[if_pos (m8 z)] at a;rw[if_pos z];exact a
 ·rw[if_neg (by rw[m9 z];exact m7)] at a;rw[if_neg z,bAD];exact a,λc=>(PyProof.Rows.setObjOf_fresh (knd:=strKind prog w) (!byT w)).setOf c (by decide)⟩
theorem yP:∀(ss kl:List Str),kl.Nodup->(∀x∈kl,x∈ss)->kl.length<=ss.length/\(kl.length=ss.length->ss.Nodup)
 |[],kl,_,h=>by
  cases kl with
  |nil=>exact⟨j5 _,λ_=>List.nodup_nil⟩
  |cons a l=>exact absurd (h a v4) v8
 |a::r,kl,nd,h=>by
  by_cases z:a∈kl
  ·have m:=List.length_erase_of_mem z;have g:∀x∈kl.erase a,x∈r:=λx b=>by obtain⟨c,j⟩:=(nd.mem_erase_iff).mp b;exact (List.mem_cons.mp (h x j)).resolve_left c
   obtain⟨k,i⟩:=yP r _ (nd.erase a) g;have f:=List.length_pos_of_mem z;refine⟨by rw[j8];lia,λe=>?_⟩;rw[j8] at e;refine List.nodup_cons.mpr ⟨λd=>?_,i (by lia)⟩;have:=(yP r kl nd λx b=>(List.mem_cons.mp (h x b)).elim (λe=>e ▸ d) id).1;lia
  ·have:=(yP r kl nd λx b=>(List.mem_cons.mp (h x b)).resolve_left λe=>z (e ▸ b)).1;exact⟨by rw[j8];lia,λe=>by rw[j8] at e;lia⟩
def aGh {c b:List Str}(d:Ded c b):c.length=b.length↔b.Nodup:=
 ⟨(yP b c d.1 λx a=>(d.2.1 x).mp a).2,λe=>Nat.le_antisymm d.2.2 (yP c b e λx a=>(d.2.1 x).mpr a).1⟩
end
end PySem
namespace L2
open PySem PySem.Spec PyProof.Rows
def aQj (P:Program)(w:World)(D:Addr)(kl:List Str):HO:=.ext λh=>TxS P w h D kl
section
variable {X:Cx}
def aZp (P:Program)(w:World)(K:bE4):List V->Hp->VK->Prop:=λxs H Q=>∃(p:Addr) (ss:List Str),xs=[.ref p]/\SqL K H p (ss.map V.str)/\ss.length<=1000/\∀D kl,H D=none->Ded kl ss->Q (.ref D) (upd H D (aQj P w D kl))
def aJi (N:X.calm=true):bR X (.type "set") (aZp X.prog X.w X.K):=by
 intro C s σ H T O Q I r h;obtain⟨p,z,rfl,D,A,q⟩:=h;obtain⟨u,rfl,J⟩:=r.one;cases J;obtain⟨d,f,G,S⟩:=I.list D;have a:=f.length;rw[j0] at a;refine aCs (I.ok.hd N) (aXi _ _ _) G.isList (by rw[j6];exact a) (λi v F=>?_) (by rw[j6,<-a];exact A) λg M j x L E=>?_
 ·have c:d[i]?=some v:=by simpa using F
  have n:i<z.length:=by rw[a];exact (List.getElem?_eq_some_iff.mp c).1
  obtain⟨u,l,t,rfl⟩:=f.get (i:=i) (x:=.str z[i]) (by rw[m5,b8 n];rfl);rw[c] at l;cases l;exact⟨_,b8 n,t,rfl⟩
 ·have e:∃o,g.get? s.heap.objs.size=some o:=by obtain⟨o,_,_,_,B,_⟩:=x;exact⟨o,B⟩
  exact⟨.ref s.heap.objs.size,_,I.laid (o:=aQj X.prog X.w s.heap.objs.size j) (λb o m=>E b o (j7 m) m) (j5 _) (show TxS X.prog X.w g s.heap.objs.size j/\_/\_ from ⟨x,e,λR P y k=>y.at k⟩),rfl,q _ _ (I.hok.fresh (j5 _)) L⟩
def aI9:bR X (.builtin "len") (λxs H Q=>∃(D:Addr) (kl:List Str),xs=[.ref D]/\H D=some (aQj X.prog X.w D kl)/\Q (.int (kl.length:Nat)) H):=by intro f s σ H xs p Q I r h;obtain⟨D,l,rfl,d,q⟩:=h;obtain⟨u,rfl,m⟩:=r.one;cases m;obtain⟨⟨o,v,n,t,e,a,i,c,b,g,k,j⟩,_⟩:=I.hok D _ d;refine call_len_set e a i k (by unfold scanBound at g;lia) ?_;rw[j];exact⟨.int (l.length:Nat),H,I.tok _,⟨_,rfl⟩,q⟩
end
end L2
namespace PySem
open Sem (wp)
section
variable {M:Model}{prog:Program}{w:World}{A:Around}{E:bE5}{R:Result->Shared->Prop}{h:Heap}{g:Array GenState}{d:Drawn}{t:Nat}{os:OsState}
variable {nm q:Str}{C N:Addr}{bs bm bmN:List Value}{hdct:Bool}{sn:List Str}{sub:List Value}{ab:Bool}{col:Option Bool}{dd:Option Addr}{k0 k1 k2 k3 k5:Option Value}{Bn newId inN:String}
def aHx (c:ExcBaseFacts Bn newId inN bmN)(f:bm.contains (.type Bn)=true){rest:List Value}{Q:Unit->Shared->Prop}(b:h.get? C=some (excClassObj nm q C N bs bm hdct sn sub ab col dd k0 k1 k2 k3 k5 newId))
  (i:Q () ⟨h,g,d,t,os⟩):wpAny M A (checkBuiltinCall newId ⟨.ref C::rest,[]⟩) Q E ⟨h,g,d,t,os⟩:=by
 have a:(Value.ref C::bm).contains (.type Bn)=true:=by rw[bBJ,f,bDG]
 have e:=c.noStar;simp only[checkBuiltinCall,c.newKind,c.newSplit,c.newRow]
 repeat (first|refine bBW b ?_|(refine bC7 b ?_;rw[a])|refine wpAny_staticBase_exc b ?_|refine wpAny_madeBy_exc b ?_|simp only[bne_self_eq_false,bAZ,if_false]|wp_step)
 exact i
def bAy (i:ExcBaseFacts Bn newId inN bmN)(k:bm.contains (.type Bn)=true)(m:bm.contains (.type "AttributeError")=false)(l:bm.contains (.type "NameError")=false){rest:List Value}(j:h.get? C=some (excClassObj nm q C N bs bm hdct sn sub ab col dd k0 k1 k2 k3 k5 newId))
  (n:R (.ok (.ret (.ref (h.objs.size+1)))) ⟨(h.push { cls:=.type "tuple",data:=.seq rest.toArray }).push
   { cls:=.ref C,data:=.fields #[.ref h.objs.size,.none,.none,.none,.bool false,.none] },g,d,t,os⟩) (hrest:rest.length<=sizeLine:=by size_fits) :
  codeAny (model prog w) A (.builtin newId ⟨.ref C::rest,[]⟩) R ⟨h,g,d,t,os⟩:=by
 have f:=i.ends;have e:(Value.ref C::bm).contains (.type Bn)=true:=by rw[bBJ,k,bDG]
 have a:(Value.ref C::bm).contains (.type "AttributeError")=false:=by rw[bBJ,m];rfl
 have c:(Value.ref C::bm).contains (.type "NameError")=false:=by rw[bBJ,l];rfl
 refine codeAny_builtinAt i.entry ?_;unfold Builtin.«BaseException.__new__»;refine wpAt_bind ?_;show wpAt _ _ _ (stack >>= _) _ _ _;refine wpAt_bind (wpAt_stack λp b=>wpAt_of_wpAny ?_);wp_walk;refine wpAt_of_wpAny ?_;rw[i.owner]
 repeat (first|with_reducible refine wpAny_madeHere_exc i.canon j ?_|with_reducible refine bBW j ?_|(with_reducible refine bC7 j ?_;first|rw[e]|rw[a]|rw[c])|wp_step)
 show R _ _;rw[bBL];exact n
end
end PySem
namespace L2
open PySem PySem.Spec PyProof.Rows
def zJ:List Value->Bool
 |.ref _::r=>zJ r
 |l=>l == [.type "ValueError",.type "Exception",.type "BaseException",.type "object"]
theorem sY (a:Value):∀{l:List Value},zJ l=true->refuseLoop a "__setattr__" l=pure ()
 |[],e=>absurd e (by decide)
 |.ref c::r,e=>by rw[refuseLoop_ref];exact sY a e
 |.none::r,e|.bool _::r,e|.int _ _::r,e|.str _ _::r,e|.float _ _::r,e|.bytes _ _::r,e|.builtin _::r,e|.type _::r,e=>by have q:=beq_iff_eq.mp e;rw[q];exact PySem.F.store_ValueError.passes a
structure XC (K:bE4)(C fI:Addr):Prop where
 at_:∃nm q N bs bm sn sub ab col dd k0 k1 k2 k3 k5,K.lookup C=some (excClassObj nm q C N bs bm true sn sub ab col dd k0 k1 k2 k3 k5 "ValueError.__new__")/\bm.contains (.type "ValueError")=true /\
  bm.contains (.type "AttributeError")=false/\bm.contains (.type "NameError")=false/\bm.contains (.type "BaseException")=true
 init:PySem.W.findIn K (.ref C) "__init__"=some (some (.ref fI))
 fn:PySem.W.typeIn K (.ref fI)=some (.type "function")
 row:(PySem.W.clsIn K C).any (λcd=>zJ cd.mro && cd.hasDict)=true
 sa:PySem.W.findIn K (.ref C) "__setattr__"=some (some (.builtin "object.__setattr__"))
 ga:PySem.W.findIn K (.ref C) "__getattribute__"=some (some (.builtin "BaseException.__getattribute__"))
 hook:PySem.W.findIn K (.ref C) "__getattr__"=some none
 act:PySem.W.findIn K (.ref C) "act"=some none
 cls:PySem.W.findIn K (.ref C) "__class__"=some (some (.builtin "object.__class__"))
section
variable {prog:Program}{w:World}{A:Around}{E:bE5}{h:Heap}{g:Array GenState}{d:Drawn}{t:Nat}{os:OsState}{K:bE4}{C fI:Addr}
def aG9 (X:K.In h)(c:XC K C fI){a:List Value}{Q:Fin->Shared->Prop}
  (S:∀h' e,Heap.MadeExcOf h h' e (.ref C) a->e=h.objs.size+1->h'.get? h.objs.size=some { cls:=.type "tuple",data:=.seq a.toArray } ->
   wpAny (model prog w) A (call (.ref fI) (.ref e::a)) (λr s'=>r=.none/\Q (.done (.ret (.ref e))) s') E ⟨h',g,d,t,os⟩) (m:a.length<=sizeLine) :
  wpAny (model prog w) A (Builtin.«type.__call__» ⟨.ref C::a,[]⟩) Q E ⟨h,g,d,t,os⟩:=by
 obtain⟨⟨nm,q,N,Z,v,U,y,L,D,Y,M,R,P,V,T,u,p,J,B,O⟩,H,z,_⟩:=c;have j:=X _ _ u;have F:=PySem.F.excBase_ValueError
 repeat (first|with_reducible refine bBW j ?_|with_reducible refine wpAny_madeBy_exc j ?_|wp_step)
 refine codeAny_call_builtin_code (Code.quiet_builtin _ F.quiet) (aHx F p j ?_);refine bAy F p J B j ?_ m;show wpAny _ _ _ _ _ _;have l:∀b o,h.get? b=some o->((h.push { cls:=.type "tuple",data:=.seq a.toArray }).push { cls:=.ref C,data:=.fields #[.ref h.objs.size,.none,.none,.none,.bool false,.none] }).get? b=some o:=
  λb o e=>d7 _ (d7 _ e)
 have n:=l _ _ j;have s:=X.keeps l;have i:((h.push { cls:=.type "tuple",data:=.seq a.toArray }).push
   { cls:=.ref C,data:=.fields #[.ref h.objs.size,.none,.none,.none,.bool false,.none] }).get? (h.objs.size+1)=some
   { cls:=.ref C,data:=.fields #[.ref h.objs.size,.none,.none,.none,.bool false,.none] }:=by heap_get
 have f:((h.push { cls:=.type "tuple",data:=.seq a.toArray }).push
   { cls:=.ref C,data:=.fields #[.ref h.objs.size,.none,.none,.none,.bool false,.none] }).get? h.objs.size=some { cls:=.type "tuple",data:=.seq a.toArray }:=d7 _ (Heap.get?_push_at rfl rfl)
 have k:(Value.ref C::v).contains (.ref C)=true:=by simp
 unfold isInstance
 repeat (first|with_reducible refine bBW i ?_|(with_reducible refine bC7 n ?_;rw[k])|wp_step)
 show wpAny _ _ (typeLookup (.ref C) _) _ _ _;refine (PySem.W.looks_findIn s H).at ?_;refine bAP (b7 ?_);unfold bindSpecial;refine b7 ((PySem.W.looks_typeIn s z).at ?_);rw[if_pos (by decide)];refine d8 (b7 (bAY (S _ (h.objs.size+1) ⟨l,bDP (bCX _),h.objs.size,i,bDP (j5 _),f⟩ rfl f) (λr s' I=>?_) λ_ _ x=>x));obtain⟨rfl,G⟩:=I;wp_walk;exact G
def x_call (X:K.In h)(c:XC K C fI){rest:List Value}{Q:bE5}
  (F:∀h' e,Heap.MadeExcOf h h' e (.ref C) rest->e=h.objs.size+1->h'.get? h.objs.size=some { cls:=.type "tuple",data:=.seq rest.toArray } ->
   wpAny (model prog w) (A.under (.builtin "type.__call__" ⟨.ref C::rest,[]⟩)) (call (.ref fI) (.ref e::rest)) (λr s'=>r=.none/\Q (.ref e) s') E ⟨h',g,d,t,os⟩) (b:rest.length<=sizeLine) :
  wpAny (model prog w) A (call (.ref C) rest) Q E ⟨h,g,d,t,os⟩:=by
 obtain⟨nm,q,N,J,x,n,k,o,f,D,u,z,y,p,H,i,G,L,M,v⟩:=c.at_;have a:=X _ _ i;have s:=tc_lookup;have B:=tc_bind (.ref C);have I:(⟨h,g,d,t,os⟩:Shared).TypeIs (.ref C) "type":=⟨_,a,rfl⟩;refine bCK (codeAny_of_tree ?_);show wpAny _ _ (callAny (.ref C) _) _ _ _
 repeat (any_goals (first|assumption|with_reducible refine bBW a ?_|wp_step))
 refine⟨rfl,?_⟩;refine codeAny_call_builtin_at (Code.quiet_builtin _ (by trivial)) entry_typeCall (wpAny_check_type_call_sub a (aG9 X c (λh' e m l j=>?_) b));exact F h' e m l j
end
def XO (e C:Addr)(d:Option Addr):HO:=.ext λh=>∃vs:Array Value,h.get? e=some { cls:=.ref C,dict:=d,data:=.fields vs }/\vs.size=6/\vs[1]?=some .none
def XO.at {P:Program}{w:World}{H:Hp}{h:Heap}{e C:Addr}{d:Option Addr}(x:HOk P w H h)(q:H e=some (XO e C d)):∃vs:Array Value,h.get? e=some { cls:=.ref C,dict:=d,data:=.fields vs }/\vs.size=6/\vs[1]?=some .none:=(x e _ q).1
def XO.ok {P:Program}{w:World}{H:Hp}{h:Heap}{e C:Addr}{d:Option Addr}{vs:Array Value}(q:h.get? e=some { cls:=.ref C,dict:=d,data:=.fields vs })(z:vs.size=6)(n:vs[1]?=some .none):cM P w H h e (XO e C d):=
 ⟨⟨vs,q,z,n⟩,⟨_,q⟩,λg i ⟨f,a,b,c⟩ k=>⟨f,k _ a,b,c⟩⟩
def aTo (K:bE4):PySem.W.findCls K (.type "ValueError") (.type "type") "__init__"=some (.val (.builtin "ValueError.__init__")):=
 show PySem.W.findCls [] (.type "ValueError") (.type "type") "__init__"=some (.val (.builtin "ValueError.__init__")) by kernel_rfl
section
variable {prog:Program}{w:World}{A:Around}{E:bE5}{s:Shared}{K:bE4}{C fI e:Addr}
def aZ1 (X:K.In s.heap)(c:XC K C fI){dx:Option Addr}{vs:Array Value}{sl:Array (Option Value)}{f:List Value}{Q:bE5}(v:s.heap.get? e=some { cls:=.ref C,dict:=dx,data:=.fields vs,slots:=sl })(hz:0<vs.size){u0:Value}(L:vs[0]?=some u0)(U:f.length<=sizeLine)
  (h:Q .none { s with heap:=(s.heap.push { cls:=.type "tuple",data:=.seq f.toArray }).update e (Obj.mapFields (·.setIfInBounds 0 (.ref s.heap.objs.size))) }) :
  wpAny (model prog w) A (call (.builtin "ValueError.__init__") (.ref e::f)) Q E s:=by
 obtain⟨nm,q,N,T,o,O,p,z,u,S,B,H,G,P,J,m,r,I,M,D⟩:=c.at_;have l:=X _ _ m;have F:=PySem.F.excBase_ValueError;obtain⟨y,g,d,t,R⟩:=s;have k:(Value.ref C::o).contains (.type "ValueError")=true:=by rw[bBJ,r,bDG]
 refine bCK (bCC F.init.plain F.initEntry ?_);have j:=F.noStar;simp only[checkBuiltinCall,F.initKind,F.initSplit,F.initRow]
 repeat (first|with_reducible refine bBW v ?_|with_reducible refine bBW l ?_|(with_reducible refine bC7 l ?_;rw[k])|wp_step)
 refine bDY ?_;rw[show ∀(a b:String) (n:Nat),Bind.check ⟨.positional,"*","ValueError",.self,[⟨"args",.varPos,false⟩]⟩ a b n (List.map (λx=>x.fst) ({ pos:=Value.ref e::f }:Args).kw)=pure () from
  λa b n=>check_star_args _ _ _ _ _ _]
 refine d8 ?_;unfold Builtin.«BaseException.__init__» newTuple;refine b7 (bAF ?_ (by show f.toArray.size<=sizeLine;rw[j6];exact U));have i:=d7 (h:=y) { cls:=.type "tuple",data:=.seq f.toArray } v;refine b7 ?_;unfold Builtin.BaseException.bexcPut;refine b7 (bAM i rfl L ?_);refine b7 (bBY i rfl hz ?_)
 split
 ·exact bE1 (d8 h)
 ·exact d8 (d8 h)
end
open PySem PySem.Spec PyProof.Rows Builtin Builtin.ObjectAttr
section
variable {prog:Program}{w:World}{A:Around}{E:bE5}{s:Shared}{K:bE4}{C fI e:Addr}
def aWl (X:K.In s.heap)(c:XC K C fI){vs:Array Value}{v:Value}{Q:Unit->Shared->Prop}(n:s.heap.get? e=some { cls:=.ref C,data:=.fields vs })
  (Y:∀h' t',h'.get? e=some { cls:=.ref C,dict:=some s.heap.objs.size,data:=.fields vs }->h'.Ns1 s.heap.objs.size (λy=>if y = "act" then some v else none) ->
   (∀b o,b≠e->s.heap.get? b=some o->h'.get? b=some o)->Q () { s with heap:=h',toks:=t' }) :
  wpAny (model prog w) A (setAttr (.ref e) "act" v) Q E s:=by
 have I:PySem.W.InstAt s.heap e { cls:=.ref C,data:=.fields vs } C none:=⟨n,rfl,rfl,trivial⟩;refine PySem.W.set_plain X I c.sa ?_;obtain⟨R,B,H⟩:=PySem.W.any_some c.row;obtain⟨p,V⟩:=Bool.and_eq_true_iff.mp H;have i:=PySem.F.store_object;have SV:=PySem.F.store_ValueError;have S:PySem.W.Looks (model prog w) s.heap (mroOf (.ref C)) R.mro:=(PySem.W.looks_clsIn X B).andThen .now;have f:∀{l:List Value},zJ l=true->l.contains (.type "object")=true/\l.isEmpty=false:=by
  intro l
  induction l with
  |nil=>intro z;exact absurd z (by decide)
  |cons a r ih=>
   intro z;refine⟨?_,rfl⟩;cases a with
   |ref x=>rw[bBJ,(ih z).1,bDG]
   |_=>have q:=beq_iff_eq.mp z;rw[q];decide +kernel
 have D:PySem.W.Looks (model prog w) s.heap (isInstance (.ref e) (.type "object")) true:=I.type.andThen (PySem.W.looks_mroIn X (by unfold PySem.W.mroIn;rw[B,bAX,if_neg (by rw[(f p).2];decide),(f p).1]));refine bCC i.slot.plain i.entry (@PySem.W.check_slot (model prog w) _ _ { s with toks:=s.toks+1 } "object.__setattr__" "object" "__setattr__" (.ref e) [.str "act" s.toks,v] [] _ i.kind i.split D (i.args (.ref e) (.str "act" s.toks) v) ?_);rw[PySem.W.osa_eq,refuse_eq];refine b7 (b7 (I.type _ _ _ _ (λ_ _ e=>e) (b7 (S _ _ _ _ (λ_ _ e=>e) ?_))));rw[sY _ p];refine d8 (b7 (I.type _ _ _ _ (λ_ _ e=>e) (b7 (PySem.W.looks_findIn X c.act _ _ _ _ (λ_ _ e=>e) (b7 ?_)))));refine d8 ?_;dsimp only;obtain⟨h,g,d,t,Z⟩:=s;dsimp only at *;unfold storeInOwnDict;have m:e≠h.objs.size:=v6 (j7 n);have k:(h.push { cls:=.type "dict",data:=.dict #[] }).get? e=some { cls:=.ref C,data:=.fields vs }:=d7 _ n;refine b7 (d8 (b7 ?_));unfold ownDictForStores instanceDict;refine b7 (wpAny_loadPart n ?_);dsimp only;refine b7 ((PySem.W.looks_clsIn X B) _ _ _ _ (λ_ _ e=>e) ?_);rw[V,if_neg (by decide),if_neg (by simp[typeHasDict])];refine b7 (wpAny_alloc' ?_);refine b7 (wpAny_update' k ?_);refine d8 ?_;have J:((h.push { cls:=.type "dict",data:=.dict #[] }).update e λo=>{ cls:=o.cls,dict:=some h.objs.size,data:=o.data,slots:=o.slots }).get? h.objs.size
   = some { cls:=.type "dict",data:=.dict #[] }:=
  (bDX _ _ _ _ m.symm).trans (Heap.get?_push_at rfl rfl)
 have N:((h.push { cls:=.type "dict",data:=.dict #[] }).update e λo=>{ cls:=o.cls,dict:=some h.objs.size,data:=o.data,slots:=o.slots }).Ns h.objs.size (λ_=>none):=
  ⟨_,#[],_,J,rfl,λe n=>absurd n (by simp),λ_=>rfl⟩
 show wpAny _ _ (storeInDict h.objs.size (.str "act" _) "act" v) _ _ _;unfold storeInDict newKeyGuard;refine b7 (d8 (b7 (wpAny_nsSet1 (Heap.Ns1.of_empty N) λh' j P=>?_)));obtain⟨oD,T,U,u,G,M⟩:=j.count (Within.cons "act" v Within.nil);refine b7 (wpAny_lookBehind u (by rw[G];exact pastItsLine_dict (bAJ M (by rw[j8,bBN,sizeLine_eq];lia))) ?_);refine d8 ?_;refine Y h' _ ?_ j λb ob L O=>(P.2 b (v6 (j7 O))).trans ((bDX _ _ _ _ L).trans (d7 _ O));exact (P.2 e m).trans (bAU _ k rfl)
def x_load (X:K.In s.heap)(c:XC K C fI){vs:Array Value}{dx:Addr}{v:Value}{mA:bE7}{o:Bool}{Q:bE5}(O:s.heap.get? e=some { cls:=.ref C,dict:=some dx,data:=.fields vs })
  (hn:s.heap.Ns1 dx mA) (hv:mA "act"=some v) (R:PySem.W.handedIn v=true) (Z:Q v { s with toks:=s.toks+1 }) :
  wpAny (model prog w) A (getAttr (.ref e) "act" o) Q E s:=by
 obtain⟨u,a,k⟩:=PySem.W.any_some c.row;obtain⟨S,M⟩:=Bool.and_eq_true_iff.mp k;obtain⟨h,g,d,t,H⟩:=s;have j:(Value.builtin "BaseException.__getattribute__" == Value.builtin "object.__getattribute__")=false:=by trivial
 have T:PySem.W.Looks (model prog w) h (typeOf (.ref e)) (.ref C):=(PySem.W.Looks.ld O).andThen .now;unfold getAttr;refine b7 (wpAny_mkText ?_);unfold getAttrBy;refine bAP (b7 (T.at (b7 ((PySem.W.looks_findIn X c.ga).at ?_))));dsimp only;rw[show (onTheHeap (Value.ref C) && Value.builtin "BaseException.__getattribute__" == Value.builtin "object.__getattribute__")=false by rw[j];rfl,if_neg (by decide)];unfold getAttrByItsOwn hookBefore;rw[if_pos (show onTheHeap (Value.ref C)=true from rfl)];refine b7 ((PySem.W.looks_findIn X c.hook).at (b7 (bBZ (bAP ?_))));unfold callGetattribute;rw[show (o && onTheHeap (Value.builtin "BaseException.__getattribute__"))=false from bAV _,if_neg (by decide)];unfold boundAndCalled;have n:=PySem.F.attr_ValueError.ga;rw[n.bind];refine b7 (d8 ?_);show wpAny _ _ (call (.builtin "BaseException.__getattribute__") [.ref e,.str "act" t]) _ _ _;obtain⟨nm,q,N,bs,y,sn,z,P,G,dd,U,Y,V,k3,k5,r,hB,hA,hN,x⟩:=c.at_;have i:u.mro=.ref C::y:=by unfold PySem.W.clsIn at a;rw[r] at a;cases a;rfl
 have D:PySem.W.Looks (model prog w) h (isInstance (.ref e) (.type "BaseException")) true:=T.andThen (PySem.W.looks_mroIn X (by unfold PySem.W.mroIn;rw[a,bAX,i,if_neg (by simp),bBJ,x,bDG]));refine bCK (bCC n.plain PySem.F.entry_bexc_ga (@PySem.W.check_slot (model prog w) _ _ ⟨h,g,d,t+1,H⟩ "BaseException.__getattribute__" "BaseException" "__getattribute__" (.ref e) [.str "act" t] [] _ (by trivial) (by trivial) D (PySem.F.args_bexc_ga (.ref e) (.str "act" t)) ?_));obtain⟨f,es,ep,l,b,-,-,B⟩:=hn;have I:PySem.W.InstAt h e { cls:=.ref C,dict:=some dx,data:=.fields vs } C (some f):=⟨O,rfl,rfl,l⟩;have p:PySem.W.lookIn "act" f=some (some v):=by have q:=(B "act").trans hv;unfold nsFind findBy at q;rw[<-Array.find?_toList] at q;unfold PySem.W.lookIn;rw[b];dsimp only;obtain⟨en,J,L⟩:=Option.map_eq_some_iff.mp q;rw[J];dsimp only;rw[L]
 have m:PySem.W.findObj K C (some f) "act"=some (.value v):=by unfold PySem.W.findObj;rw[a,bAX,c.act,bAX];dsimp only;rw[bAX,bAX];unfold PySem.W.ownOf;rw[M,if_pos rfl];dsimp only;rw[p];rfl
 refine b7 (d8 (b7 (d8 (b7 (T.at (b7 ((PySem.W.looks_find X I m).at ?_)))))));refine d8 ?_;show wpAny _ _ (handedOut v) _ _ _;rw[PySem.W.handedOut_of R];exact d8 Z
def aSo (c:XC K C fI):∃cd bm,PySem.W.clsIn K C=some cd/\cd.mro=.ref C::bm/\bm.contains (.type "BaseException")=true/\zJ cd.mro=true/\cd.hasDict=true/\bm.contains (.type "AttributeError")=false:=by obtain⟨cd,a,b⟩:=PySem.W.any_some c.row;obtain⟨f,h⟩:=Bool.and_eq_true_iff.mp b;obtain⟨nm,q,N,u,bm,k,i,l,d,r,n,p,o,m,t,e,s,j,v,g⟩:=c.at_;refine⟨cd,bm,a,?_,g,f,h,j⟩;unfold PySem.W.clsIn at a;rw[e] at a;cases a;rfl
theorem aB3:∀{l:List Value},zJ l=true->l.contains (.type "object")=true
 |[],e=>absurd e (by decide)
 |.ref c::r,e=>by rw[bBJ,aB3 (l:=r) e,bDG]
 |.none::r,e|.bool _::r,e|.int _ _::r,e|.str _ _::r,e|.float _ _::r,e|.bytes _ _::r,e|.builtin _::r,e|.type _::r,e=>by have q:=beq_iff_eq.mp e;rw[q];decide +kernel
def aLv (X:K.In s.heap)(c:XC K C fI){vs:Array Value}{dx:Option Addr}{Q:Option Value->Shared->Prop}(m:s.heap.get? e=some { cls:=.ref C,dict:=dx,data:=.fields vs })(hd:∀a,dx=some a->∃o,s.heap.get? a=some o)
  (B:Q (some (.ref C)) { s with toks:=s.toks+1 }):wpAny (model prog w) A (getAttr? (.ref e) "__class__") Q E s:=by
 obtain⟨y,z,f,p,v,r,u,D⟩:=aSo c;obtain⟨h,g,d,t,l⟩:=s;have b:(Value.builtin "BaseException.__getattribute__" == Value.builtin "object.__getattribute__")=false:=by trivial
 have T:PySem.W.Looks (model prog w) h (typeOf (.ref e)) (.ref C):=(PySem.W.Looks.ld m).andThen .now;unfold getAttr? getAttrBy?;refine b7 (wpAny_mkText (b7 (bBZ ?_)));unfold getAttrBy;refine bAP (b7 (T.at (b7 ((PySem.W.looks_findIn X c.ga).at ?_))));dsimp only;rw[show (onTheHeap (Value.ref C) && Value.builtin "BaseException.__getattribute__" == Value.builtin "object.__getattribute__")=false by rw[b];rfl,if_neg (by decide)];unfold getAttrByItsOwn hookBefore;rw[if_pos (show onTheHeap (Value.ref C)=true from rfl)];refine b7 ((PySem.W.looks_findIn X c.hook).at (b7 (bBZ (bAP ?_))));unfold callGetattribute;rw[show (false && onTheHeap (Value.builtin "BaseException.__getattribute__"))=false from rfl,if_neg (by decide)];unfold boundAndCalled;have n:=PySem.F.attr_ValueError.ga;rw[n.bind];refine b7 (d8 ?_);show wpAny _ _ (call (.builtin "BaseException.__getattribute__") [.ref e,.str "__class__" t]) _ _ _;have x:PySem.W.Looks (model prog w) h (isInstance (.ref e) (.type "BaseException")) true:=T.andThen (PySem.W.looks_mroIn X (by unfold PySem.W.mroIn;rw[f,bAX,p,if_neg (by simp),bBJ,v,bDG]));refine bCK (bCC n.plain PySem.F.entry_bexc_ga (@PySem.W.check_slot (model prog w) _ _ ⟨h,g,d,t+1,l⟩ "BaseException.__getattribute__" "BaseException" "__getattribute__" (.ref e) [.str "__class__" t] [] _ (by trivial) (by trivial) x (PySem.F.args_bexc_ga (.ref e) (.str "__class__" t)) ?_));have I:∃i,PySem.W.InstAt h e { cls:=.ref C,dict:=dx,data:=.fields vs } C i:=by
  cases dx with
  |none=>exact⟨none,m,rfl,rfl,trivial⟩
  |some a=>obtain⟨o,q⟩:=hd a rfl;exact⟨some o,m,rfl,rfl,q⟩
 obtain⟨i,I⟩:=I;have k:PySem.W.findObj K C i "__class__"=some (.bind (.builtin "getset_descriptor.__get__") (.builtin "object.__class__")):=by unfold PySem.W.findObj;rw[f,bAX,c.cls,bAX];dsimp only;rw[show PySem.W.specialIn K (.builtin "object.__class__") "__get__"=some (some (.builtin "getset_descriptor.__get__")) from show PySem.W.specialIn [] (.builtin "object.__class__") "__get__"=some (some (.builtin "getset_descriptor.__get__")) by trivial,bAX];dsimp only;rw[show PySem.W.takesIn K (.builtin "object.__class__")=some true from show PySem.W.takesIn [] (.builtin "object.__class__")=some true by trivial,bAX]
 refine b7 (d8 (b7 (d8 (b7 (T.at (b7 ((PySem.W.looks_find X I k).at ?_)))))));have j:PySem.W.mroIn K C (.type "object")=some true:=by unfold PySem.W.mroIn;rw[f,bAX,if_neg (by rw[p];simp),aB3 r]
 refine b7 (bAP (bCK (PySem.W.class_get (s:=⟨h,g,d,t+1,l⟩) X I j ?_)));exact d8 (d8 (d8 B))
def aEa (X:K.In s.heap)(c:XC K C fI){vs:Array Value}{dx:Option Addr}{D:Value}{b:Bool}{Q:Fin->Shared->Prop}(I:s.heap.get? e=some { cls:=.ref C,dict:=dx,data:=.fields vs })(hd:∀a,dx=some a->∃o,s.heap.get? a=some o)
  (R:PySem.W.Looks (model prog w) s.heap (typeOf D) (.type "type")) (hT:PySem.W.Looks (model prog w) s.heap (isType D) true) (l:PySem.W.mroIn K C D=some b) (z:∀t,Q (.done (.ret (.bool b))) { s with toks:=t }) :
  wpAny (model prog w) A (Builtin.«isinstance.nested» ⟨[.ref e,D,rawInt 0],[]⟩) Q E s:=by
 obtain⟨S,y,x,m,U,L,v,hA⟩:=aSo c;have j:PySem.W.mroIn K C (.ref C)=some true:=by unfold PySem.W.mroIn;rw[x,bAX,if_neg (by rw[m];simp),m];simp
 obtain⟨h,g,d,t,n⟩:=s;have T:PySem.W.Looks (model prog w) h (typeOf (.ref e)) (.ref C):=(PySem.W.Looks.ld I).andThen .now;have k:=PySem.W.looks_mroIn (M:=model prog w) X l;have H:PySem.W.Looks (model prog w) h (isInstance (.ref e) D) b:=T.andThen k;unfold Builtin.«isinstance.nested»;refine b7 (T.at ?_);by_cases q:(Value.ref C == D)=true
 ·rw[if_pos q];have F:=beq_iff_eq.mp q;subst F;rw[j] at l;cases l;exact b7 (bCU (b7 (d8 (d8 (z t)))))
 ·rw[if_neg q];refine b7 (R.at ?_);rw[if_pos (by decide)];have P:∀{i:Bool->Shared->Prop} {p:bE5} {r:Around},(∀t,i b ⟨h,g,d,t,n⟩)->wpAny (model prog w) r (do
    if !(<-isType D) then
     if <-Builtins.hasBases D then unsupported "isinstance:class-by-__bases__"
     rule "isinstance.not-a-class";raiseError "TypeError" "isinstance() arg 2 must be a type, a tuple of types, or a union"
    if <-isInstance (.ref e) D then return true
    let some c <-getAttr? (.ref e) "__class__"|return false
    if !(<-isType c) then return false
    rule "isinstance.by-__class__";isSubtype c D) i p ⟨h,g,d,t,n⟩:=by
   intro i p r f;refine b7 (hT.at ?_);rw[if_neg (by decide)];refine b7 (H.at ?_);cases b with
   |true=>rw[if_pos rfl];exact d8 (f t)
   |false=>
    rw[if_neg (by decide)];refine b7 (aLv X c I hd ?_);dsimp only;have tC:PySem.W.Looks (model prog w) h (isType (.ref C)) true:=by obtain⟨nm,q,N,bs,y,sn,B,J,G,dd,O,Y,V,k3,Z,u,-⟩:=c.at_;exact (PySem.W.Looks.ld (X _ _ u)).andThen .now
    refine b7 (tC _ _ _ _ (λ_ _ e=>e) ?_);rw[if_neg (by decide)];exact b7 (bCU (k _ _ _ _ (λ_ _ e=>e) (f _)))
  exact b7 (P λt=>d8 (z t))
end
section
variable {M:Model}{A:Around}{E:bE5}{s:Shared}{base:Heap}{env:Env}{outer:List Env}{L e:Addr}
def aLq {D:Obj}{vs:Array Value}{g:Value}{hadNext:Bool}{Q:Unit->Shared->Prop}(y:A.frames=some (env::outer))(x:s.heap.FunFrames base (env::outer))(F:env.frame=some L)
  (B:s.heap.get? e=some D) (hd:D.data=.fields vs) (hsz:1<vs.size)
  (h:∀h',(∀b o,b≠e->b∉frs (env::outer)->s.heap.get? b=some o->h'.get? b=some o)->(∀b o,b≠e->s.heap.get? b=some o->∃sl,h'.get? b=some { o with slots:=sl }) ->
   h'.get? e=some (D.mapFields (·.setIfInBounds 1 (.ref s.heap.objs.size)))->(∃oT ts,h'.get? s.heap.objs.size=some oT/\oT.data=.fields ts/\3<ts.size)->Q () { s with heap:=h' }) :
  wpAny M A (do let a <-frameOf env;let pl <-entryPlaceOf L hadNext;let b <-EntryCells.newEntry g a .none (rawInt L) .none pl;setField (.ref e) 1 b) Q E s:=by
 have j:e∉(env::outer).filterMap (·.frame):=λC=>by obtain⟨_,o,n,v⟩:=x.mem C;rw[B] at n;injection n with n;subst n;exact v vs hd
 refine b7 (wpAny_frameOf_fun y x F λf c=>?_);refine b7 (wpAny_entryPlaceOf λpl r=>?_);unfold EntryCells.newEntry newFields;refine b7 (bAF ?_ (r.sizeOk5 _ _ _ _ _));have k:f.get? e=some D:=(c.2.1 e j).trans B;have m:=d7 (h:=f) { cls:=.type "traceback",dict:=none,data:=.fields ([g,.ref L,.none,rawInt L,.none]++(if pl.isEmpty then List.replicate 6 Value.none else pl)).toArray } k;have p:f.objs.size≠e:=bCP (j7 k);have u:=bDH hd (·.setIfInBounds 1 (Value.ref f.objs.size));have w:=bAU (Obj.mapFields (·.setIfInBounds 1 (Value.ref f.objs.size))) m (bDN u);have q:=(bBE (f.push { cls:=.type "traceback",dict:=none,data:=.fields ([g,.ref L,.none,rawInt L,.none]++(if pl.isEmpty then List.replicate 6 Value.none else pl)).toArray })
  (Obj.mapFields (·.setIfInBounds 1 (Value.ref f.objs.size))) (Ne.symm p)).trans (j4 f rfl)
 have i:∀b o,b≠e->f.get? b=some o ->
   ((f.push { cls:=.type "traceback",dict:=none,data:=.fields ([g,.ref L,.none,rawInt L,.none]++(if pl.isEmpty then List.replicate 6 Value.none else pl)).toArray }).update e (Obj.mapFields (·.setIfInBounds 1 (Value.ref f.objs.size)))).get? b=some o:=λb o d l=>by
  rw[bBE _ _ (Ne.symm d)];exact d7 _ l
 refine bBY m hd hsz (h _ (λb o d t l=>i b o d ((c.2.1 b t).trans l)) (λb o d l=>?_) ?_ ?_)
 ·obtain⟨sl,z⟩:=c.2.2 b o l;exact⟨sl,i b _ d z⟩
 ·rw[<-c.1];exact w
 ·rw[<-c.1];exact⟨_,_,q,rfl,by simp only[j6,bAD,j8,bBN] <;> lia⟩
def aZ0 {C:Obj}{vs:Array Value}{Q:Unit->Shared->Prop}(T:Option Addr)(K:A.frames=some (env::outer))(R:s.heap.FunFrames base (env::outer))(B:env.frame=some L)
  (N:s.heap.get? e=some C) (hd:C.data=.fields vs) (G:vs[1]?=some (T.elim .none .ref)) (V:∀a,T=some a->a≠e/\∃oT ts,s.heap.get? a=some oT/\oT.data=.fields ts/\3<ts.size)
  (h:∀h' T',(∀b o,b≠e->T≠some b->b∉frs (env::outer)->s.heap.get? b=some o->h'.get? b=some o)->(∀b o,b≠e->T≠some b->s.heap.get? b=some o->∃sl,h'.get? b=some { o with slots:=sl })->(∀b o,s.heap.get? b=some o->∃o',h'.get? b=some o') ->
   (∃vs':Array Value,h'.get? e=some { C with data:=.fields vs' }/\vs'.size=vs.size/\vs'[1]?=some (.ref T'))->(∃oT ts,h'.get? T'=some oT/\oT.data=.fields ts/\3<ts.size)->(T=some T'\/T'=s.heap.objs.size)->Q () { s with heap:=h' }) :
  wpAny M A (noteFrame (.ref e) env) Q E s:=by
 unfold noteFrame;simp only[B];obtain⟨u,P,G⟩:∃u:Value,u=T.elim .none .ref/\vs[1]?=some u:=⟨_,rfl,G⟩;refine b7 (bAM N hd G ?_);have x:1<vs.size:=(Array.getElem?_eq_some_iff.mp G).1;have U:∀n:Addr,C.mapFields (·.setIfInBounds 1 (.ref n))={ C with data:=.fields (vs.setIfInBounds 1 (.ref n)) }:=λn=>by obtain⟨c,d,S,sl⟩:=C;cases hd;rfl
 have l:∀{h':Heap} {n:Addr},h'.get? e=some (C.mapFields (·.setIfInBounds 1 (.ref n)))->∃vs':Array Value,h'.get? e=some { C with data:=.fields vs' }/\vs'.size=vs.size/\vs'[1]?=some (.ref n):=λ{h' n} q=>
  ⟨_,by rw[q,U n],by simp,by simp[x]⟩
 cases T with
 |none=>
  obtain rfl:u=.none:=P;rw[if_neg (by decide)];refine aLq K R B N hd x λh' F m w D=>h h' _ (λb o g _ B q=>F b o g B q) (λb o g _ q=>m b o g q) (λb o q=>?_) (l w) D (.inr rfl);by_cases z:b=e
  ·subst z;exact⟨_,w⟩
  ·obtain⟨sl,r⟩:=m b o z q;exact⟨_,r⟩
 |some a=>
  obtain⟨I,oT,ts,k,j,J⟩:=V a rfl;obtain rfl:u=.ref a:=P;rw[if_pos (show (Value.ref a != Value.none)=true from by simp)];refine b7 (bAM k j (v5 J) ?_);by_cases O:(ts[3] == rawInt L)=true
  ·rw[if_pos O];refine d8 (h s.heap a (λb o _ _ _ q=>q) (λb o _ _ q=>⟨o.slots,q⟩) (λb o q=>⟨o,q⟩) ⟨vs,?_,rfl,G⟩ ⟨oT,ts,k,j,J⟩ (.inl rfl));rw[N];obtain⟨c,d,S,sl⟩:=C;cases hd;rfl
  rw[if_neg O];refine b7 (bBY k j J ?_);have f:∀b,b≠a->(s.heap.update a (Obj.mapFields (·.setIfInBounds 3 Value.none))).get? b=s.heap.get? b:=λb g=>bBE _ _ (Ne.symm g);have i:∀b o,s.heap.get? b=some o->(∀vs,o.data≠.fields vs)->b≠a:=λb o g v q=>by rw[q,k] at g;injection g with g;subst g;exact v ts j
  have H:(s.heap.update a (Obj.mapFields (·.setIfInBounds 3 Value.none))).objs.size=s.heap.objs.size:=Heap.size_after_update ..;have t:=bAU (h:=s.heap) (Obj.mapFields (·.setIfInBounds 3 Value.none)) k (bDN (bDH j _));refine aLq (s:={ s with heap:=s.heap.update a (Obj.mapFields (·.setIfInBounds 3 Value.none)) }) K (R.of_keeps λb o g v=>⟨o,(f b (i b o g v)).trans g,rfl⟩) B ((f e (Ne.symm I)).trans N) hd x λh' F m w D=>?_;dsimp only at F m w D;rw[H] at w D;refine h h' _ (λb o g p B q=>F b o g B ((f b λz=>p (by rw[z])).trans q)) (λb o g p q=>m b o g ((f b λz=>p (by rw[z])).trans q)) (λb o q=>?_) (l w) D (.inr rfl);by_cases z:b=e
  ·subst z;exact⟨_,w⟩
  ·by_cases y:b=a
   ·subst y;obtain⟨sl,r⟩:=m b _ z t;exact⟨_,r⟩
   ·obtain⟨sl,r⟩:=m b o z ((f b y).trans q);exact⟨_,r⟩
end
def wU (e T C dx:Addr):HO:=.ext λh=>∃vs:Array Value,h.get? e=some { cls:=.ref C,dict:=some dx,data:=.fields vs }/\vs.size=6/\vs[1]?=some (.ref T)
def TbO (T:Addr):HO:=.ext λh=>∃oT ts,h.get? T=some oT/\oT.data=.fields ts/\3<ts.size
def up2 (H:Hp)(e T C dx:Addr):Hp:=upd (upd H T (TbO T)) e (wU e T C dx)
abbrev xdA:HO:=.xd [(("act":Str),V.non)]
def wU.ok {P:Program}{w:World}{H:Hp}{h:Heap}{e T C dx:Addr}{vs:Array Value}(q:h.get? e=some { cls:=.ref C,dict:=some dx,data:=.fields vs })(z:vs.size=6)(n:vs[1]?=some (.ref T)):cM P w H h e (wU e T C dx):=
 ⟨⟨vs,q,z,n⟩,⟨_,q⟩,λf g ⟨d,a,b,c⟩ k=>⟨d,k _ a,b,c⟩⟩
def TbO.ok {P:Program}{w:World}{H:Hp}{h:Heap}{T:Addr}(q:∃oT ts,h.get? T=some oT/\oT.data=.fields ts/\3<ts.size):cM P w H h T (TbO T):=by obtain⟨o,ts,a,b,c⟩:=q;exact⟨⟨o,ts,a,b,c⟩,⟨_,a⟩,λe f ⟨u,d,a,b,c⟩ k=>⟨u,d,k _ a,b,c⟩⟩
def aVz {H:Hp}{a:Addr}{o:HO}(h:H a=some o):upd H a o=H:=by
 funext b;unfold upd;split
 ·rename_i e;rw[e,h]
 ·rfl
def Xt:HO->Prop
 |.ext _=>True
 |_=>False
section
variable {X:Cx}{bE8:bE6}{σ:St}{H H₁:Hp}{s:Shared}{e C dx:Addr}{M:Model}{E:bE5}{Q:Unit->Shared->Prop}
def aCf (I:Inv X bE8 σ H s)(v:X.stack=X.env::X.outer)(Y:X.env.frame=some X.env.locals)(T:Option Addr){vs:Array Value}
  (he:s.heap.get? e=some { cls:=.ref C,dict:=some dx,data:=.fields vs }) (z:vs.size=6) (h1:vs[1]?=some (T.elim .none .ref))
  (B:∀a,T=some a->a≠e/\(∃oT ts,s.heap.get? a=some oT/\oT.data=.fields ts/\3<ts.size)/\∃o,H a=some o/\Xt o)
  (hx:∃o,H e=some o/\Xt o) (tr:∀b o,H₁ b=some o->b≠e/\T≠some b/\H b=some o) (a0:∀b o,H b=some o->b≠e->T≠some b->H₁ b=some o)
  (q:∀T' s',Inv X bE8 σ (up2 H₁ e T' C dx) s'->H₁ T'=none->T'≠e->Q () s') :
  wpAny M X.A (noteFrame (.ref e) X.env) Q E s:=by
 have x:s.heap.FunFrames X.base (X.env::X.outer):=v ▸ I.stack;obtain⟨oE,D,N⟩:=hx;refine aZ0 T (by rw[<-v];exact I.ok.frames) x Y he rfl h1 (λa V=>⟨(B a V).1,(B a V).2.1⟩) λF T' S k2 k3 k4 k5 g=>?_;have J:∀b∈frs (X.env::X.outer),H b=none:=λb j=>I.oN b (by rw[v];exact j);have W:∀b,H b=none->H₁ b=none:=λb n=>by
  cases r:H₁ b with
  |none=>rfl
  |some o=>rw[(tr b o r).2.2] at n;cases n
 have L:H₁ T'=none:=by
  rcases g with g|rfl
  ·cases r:H₁ T' with
   |none=>rfl
   |some o=>exact absurd g (tr _ o r).2.1
  ·exact W _ (I.hok.fresh (j5 _))
 have O:T'≠e:=by
  rcases g with g|rfl
  ·exact (B _ g).1
  ·exact bCP (j7 he)
 have h:∀b,b≠e->b≠T'->up2 H₁ e T' C dx b=H₁ b:=λb k t=>by unfold up2;rw[aJ k,aJ t]
 have trk:∀b o,H b=some o->T≠some b->b≠T':=λb o r n=>by
  rcases g with g|rfl
  ·exact λf=>n (by rw[f];exact g)
  ·exact v6 (I.hok.lt r)
 have K:∀b,H b=none->(∃o,s.heap.get? b=some o)->b≠T':=λb n ⟨o,r⟩=>by
  rcases g with g|rfl
  ·intro f;obtain⟨Z,l,_⟩:=(B _ g).2.2;rw[f,l] at n;cases n
  ·exact v6 (j7 r)
 have p:∀b o,H b=some o->¬ Xt o->b≠e/\T≠some b:=λb o r n=>by
  refine⟨λf=>?_,λf=>?_⟩
  ·subst f;rw[D] at r;cases r;exact n N
  ·obtain⟨Z,l,x'⟩:=(B b f).2.2;rw[l] at r;cases r;exact n x'
 have i:∀b o u,H b=some o->b≠e->T≠some b->s.heap.get? b=some u->F.get? b=some u:=λb o u r k t m=>
  S b u k t (λj=>by rw[J b j] at r;cases r) m
 have d:∀b o,H b=some o->¬ Xt o->up2 H₁ e T' C dx b=some o:=λb o r n=>by obtain⟨k,t⟩:=p b o r n;rw[h b k (trk b o r t)];exact a0 b o r k t
 have R:HOk X.prog X.w (up2 H₁ e T' C dx) F:=λb o r=>by
  by_cases G:b=e
  ·subst G;unfold up2 at r;rw[aH] at r;cases r;obtain⟨P,e1,e2,e3⟩:=k4;exact wU.ok (vs:=P) e1 (e2.trans z) e3
  ·by_cases bT:b=T'
   ·subst bT;unfold up2 at r;rw[aJ G,aH] at r;cases r;exact TbO.ok k5
   ·rw[h b G bT] at r;obtain⟨k,t,l⟩:=tr b o r;refine (I.hok b o l).stay (λc u hc m=>?_) (λc m=>d c _ m λz=>z) λc xs m=>d c _ m λz=>z;rcases hc with rfl|hc
    ·exact i c o u l k t m
    ·obtain⟨m1,m2⟩:=p c _ hc λz=>z;exact i c _ u hc m1 m2 m
 have y:∀b,T=some b->H b≠none:=λb j n=>by obtain⟨Z,l,_⟩:=(B b j).2.2;rw[l] at n;cases n
 have U:Un (frs X.stack) [] H (up2 H₁ e T' C dx) s.heap F:=by
  refine⟨λb o r n j _=>?_,λb o r n j _=>?_,λb o r n _=>?_,λb o r _=>k3 b o r,λb xs r=>d b _ r λz=>z,λb o u r=>d b _ r λz=>z,λb ps r=>⟨#[],by rw[d b _ r λz=>z];simp⟩⟩
  ·exact S b o (λf=>by subst f;rw[D] at n;cases n) (λf=>y b f n) (by rw[<-v];exact j) r
  ·exact k2 b o (λf=>by subst f;rw[D] at n;cases n) (λf=>y b f n) r
  ·rw[h b (λf=>by subst f;rw[D] at n;cases n) (K b n ⟨o,r⟩)];exact W b n
 exact q T' _ (I.call' (s':={ s with heap:=F }) (ch:=[]) rfl U R I.bare λb z=>absurd z (by simp)) L O
def lY {T:Addr}{A:Around}{p:Option Addr}(I:Inv X bE8 σ (up2 H₁ e T C dx) s)(l:T≠e)(q:∀s',Inv X bE8 σ (up2 H₁ e T C dx) s'->Q () s'):wpAny M A (setFlight (.ref e) p) Q E s:=by
 have n:up2 H₁ e T C dx e=some (wU e T C dx):=aH;have j:up2 H₁ e T C dx T=some (TbO T):=by unfold up2;rw[aJ l,aH]
 obtain⟨v,g,w,i⟩:=(I.hok e _ n).1;obtain⟨r,t,c,a,d⟩:=(I.hok T _ j).1;unfold setFlight;refine b7 (bAM g rfl i ?_);rw[if_pos (show (Value.ref T != Value.none)=true from by simp)];refine bBY c a d (q _ ?_);have k:=bAU (h:=s.heap) (Obj.mapFields (·.setIfInBounds 3 (p.elim Value.none λf=>rawInt f))) c (bDN (bDH a _));have W:=I.write (x:=T) (e:=T) (o:=TbO T) (h':=s.heap.update T (Obj.mapFields (·.setIfInBounds 3 (p.elim Value.none λf=>rawInt f)))) (t':=s.toks) (by rw[j];trivial) (.inl rfl) (λb u m q=>(bBE _ _ (Ne.symm m)).trans q) ⟨_,k⟩
  (TbO.ok ⟨_,_,k,bDH a _,by simpa using d⟩)
 rw[aVz j] at W;exact W
def aOr (I:Inv X bE8 σ (upd H₁ e (XO e C (some dx))) s)(k:X.stack=X.env::X.outer)(f:X.env.frame=some X.env.locals)(n:H₁ e=none)
  (q:∀T' s',Inv X bE8 σ (up2 H₁ e T' C dx) s'->H₁ T'=none->T'≠e->Q () s') :
  wpAny M X.A (noteFrame (.ref e) X.env) Q E s:=by
 obtain⟨l,j,z,i⟩:=XO.at (d:=some dx) I.hok aH;refine aCf I k f none j z i (λa g=>nomatch g) ⟨_,aH,trivial⟩ (λb o r=>?_) (λb o r c _=>by rw[aJ c] at r;exact r) q;have c:b≠e:=λh=>by subst h;rw[n] at r;cases r
 exact⟨c,(nomatch ·),by rw[aJ c];exact r⟩
def aC1 {T:Addr}(I:Inv X bE8 σ (up2 H₁ e T C dx) s)(p:X.stack=X.env::X.outer)(j:X.env.frame=some X.env.locals)(n:H₁ e=none)(t:H₁ T=none)(g:T≠e)
  (q:∀T' s',Inv X bE8 σ (up2 H₁ e T' C dx) s'->H₁ T'=none->T'≠e->Q () s') :
  wpAny M X.A (noteFrame (.ref e) X.env) Q E s:=by
 have h:up2 H₁ e T C dx e=some (wU e T C dx):=aH;have i:up2 H₁ e T C dx T=some (TbO T):=by unfold up2;rw[aJ g,aH]
 obtain⟨u,m,z,l⟩:=(I.hok e _ h).1;refine aCf I p j (some T) m z l (λa k=>?_) ⟨_,h,trivial⟩ (λb o r=>?_) (λb o r f d=>?_) q
 ·cases k;exact⟨g,(I.hok T _ i).1,_,i,trivial⟩
 ·have f:b≠e:=λc=>by subst c;rw[n] at r;cases r
  have d:b≠T:=λc=>by subst c;rw[t] at r;cases r
  exact⟨f,λc=>d (bAQ c).symm,by unfold up2;rw[aJ f,aJ d];exact r⟩
 ·unfold up2 at r;rw[aJ f,aJ (λc=>d (by rw[c]))] at r;exact r
end
def CXR (P:Program)(w:World):CXT:=λouter H s E v s'=>∃e T dx C H₁,v=.ref e/\s'.os=s.os/\AllBare s'.gens/\H₁ e=none/\H₁ T=none/\T≠e/\H₁ dx=some xdA /\
 Un (frs outer) [] H (up2 H₁ e T C dx) s.heap s'.heap/\HOk P w (up2 H₁ e T C dx) s'.heap/\E (.ref C) (some e) H₁
def Raises (X:Cx)(E:XK):Prop:=∀(bE8:bE6) (σ:St) (H₁:Hp) (s:Shared) (e C dx:Addr),Inv X bE8 σ (upd H₁ e (XO e C (some dx))) s->H₁ e=none->H₁ dx=some xdA->E (.ref C) (some e) H₁->X.xe (.ref e) s
section
variable {P:Program}{w:World}{K:bE4}{mg:bE7}{base:Heap}{N:List Str}{qual:Str}{scope:Scope}{f:Addr}{cd:Value}{A:Around}{outer:List Env}{s₀:Shared}{H₀:Hp}{E:XK}
def aB5 {bE8:bE6}{σ:St}{c:Hp}{s:Shared}{e T C dx:Addr}(I:Inv (qK (CXR P w) P w K mg base N qual scope f cd A outer s₀ H₀ E) bE8 σ (up2 c e T C dx) s)(n:c e=none)(b:c T=none)(a:T≠e)(hd:c dx=some xdA)(q:E (.ref C) (some e) c) :
  CXR P w outer H₀ s₀ E (.ref e) s:=⟨e,T,dx,C,c,rfl,I.os,I.bare,n,b,a,hd,I.base,I.hok,q⟩
def oK:Raises (qK (CXR P w) P w K mg base N qual scope f cd A outer s₀ H₀ E) E:=by intro c σ j s e C l I n d q;show wpAny _ _ (leaving _ (.ref e)) _ _ s;unfold leaving;exact b7 (aOr I rfl rfl n λi k g b a=>lY g a λm h=>aB5 h n b a d q)
def Thr (X:Cx)(E:XK):Prop:=∀(bE8:bE6) (σ:St) (H₁:Hp) (s:Shared) (e T C dx:Addr),Inv X bE8 σ (up2 H₁ e T C dx) s->H₁ e=none->H₁ T=none->T≠e->H₁ dx=some xdA->E (.ref C) (some e) H₁->X.xe (.ref e) s
def Thr.passes {X:Cx}{E:XK}(h:Thr X E):jV (CXR X.prog X.w) X E:=by intro d σ H s v s' I k;obtain⟨e,T,l,C,j,rfl,i,a,n,g,c,m,o,f,q⟩:=k;exact h d σ j s' e T C l (I.call' (s':=s') (ch:=[]) i o f a λb z=>absurd z (by simp)) n g c m q
def qH:Thr (qK (CXR P w) P w K mg base N qual scope f cd A outer s₀ H₀ E) E:=by intro g σ l s e T C o I n d b h q;show wpAny _ _ (leaving _ (.ref e)) _ _ s;unfold leaving;exact b7 (aC1 I rfl rfl n d b λk m i c a=>lY i a λp j=>aB5 j n c a h q)
end
def aX2 {H:Hp}{a:Addr}{o:HO}(h:H a=some o):upd H a o=H:=by
 funext b;unfold upd;split
 ·rename_i e;rw[e,h]
 ·rfl
def aSn {H:Hp}{a b:Addr}{o u:HO}(h:a≠b):upd (upd H a o) b u=upd (upd H b u) a o:=by
 funext c;unfold upd;by_cases e:c=b
 ·by_cases d:c=a
  ·exact absurd (d.symm.trans e) h
  ·simp[e,d,Ne.symm h]
 ·by_cases d:c=a
  ·simp[d,h]
  ·simp[e,d]
def tVI (K:bE4)(fI:Addr)(t:TA):TE:=fun σ H Q=>t σ H λvs H1=>∃e C v,vs=[.ref e,v]/\H1 e=some (XO e C none)/\XC K C fI/\Q .non H1
def aRy (K:bE4)(fI:Addr)(ta tv:TE):TS:=λD σ H=>tv σ H λy H1=>ta σ H1 λx H2=>∃e C,y=.non/\x=.ref e/\H2 e=some (XO e C none)/\XC K C fI /\
 ∀dx,H2 dx=none->dx≠e->D.nx σ (upd (upd H2 dx xdA) e (XO e C (some dx)))
section
variable {X:Cx}{o value e1:Expr}{es:List Expr}{p ap pos pos' cpos:Pos}{ta tv:TE}{t:TA}{fI:Addr}{pl:Sem Bool}
def aE2:bootBuiltins "ValueError"=some (.type "ValueError"):=by trivial
def aW7:typeOf (.type "ValueError")=pure (.type "type"):=by first|rfl|kernel_rfl
def aTk:PySem.W.handedIn (.builtin "ValueError.__init__")=true:=by trivial
def aVv:Manifest.isStub "ValueError"=false:=by trivial
def aSh (J:Gl X "ValueError")(O:X.mg "ValueError"=none)(L:PA X (e1::es) t)
  (z:starEach (e1::es) X.env=(false,eval e1 X.env)::starEach es X.env:=by rfl) (B:(backTo cpos (starEach es X.env)).any (·.1)=false:=by rfl)
  (N:eval (.Call (.Attribute (.Name "ValueError" p) "__init__" ap) (e1::es) [] cpos) X.env=(do
   let ov <-eval (.Name "ValueError" p) X.env
   standAt ap.atName
   let (f,first) <-holding [ov] (getMethod ov "__init__" pl)
   callWith cpos f first (backTo cpos (starEach (e1::es) X.env)) (backToKw cpos (keywordEach [] X.env))):=by rfl) :
  PE X (.Call (.Attribute (.Name "ValueError" p) "__init__" ap) (e1::es) [] cpos) (tVI X.K fI t):=by
 intro g s σ H Q I h;refine PySem.W.methodCall_KW (pl:=pl) (nC I J O aE2 ?_) N;obtain⟨m,F⟩:=I.fr;refine PySem.W.method_type (T:="ValueError") (name:="__init__") (v:=.builtin "ValueError.__init__") F I.ok.mod.kin aW7 aVv (aTo X.K) aTk ?_;refine bEA (thn (L cpos g _ σ H _ (I.tok _) h) λM a ⟨vs,D,i,r,e,C,v,A,j,c,q⟩=>?_) z B;subst A;cases r with
 |cons r0 r1=>
  cases r1 with
  |@cons _ u2 _ _ r2 r3=>
   cases r3;obtain rfl:=r0;obtain⟨k,d,G,E⟩:=XO.at i.hok j;have l:0<k.size:=by lia
   refine aZ1 i.kIn c d l (v5 l) (by rw[sizeLine_eq,j8,bBN];lia) ?_;refine⟨.non,D,?_,rfl,q⟩;have y:=i.kept (h':=a.heap.push { cls:=.type "tuple",data:=.seq [u2].toArray }) (t':=a.toks) (λb u e=>d7 _ e);have hg2:=d7 (h:=a.heap) { cls:=.type "tuple",data:=.seq [u2].toArray } d;have n:=bAU (Obj.mapFields (·.setIfInBounds 0 (Value.ref a.heap.objs.size))) hg2 (bDN (bDH rfl _));have W:=y.write (x:=e) (e:=e) (o:=XO e C none) (t':=a.toks) (by rw[j];trivial) (.inl rfl) (λb u w q=>(bBE _ _ (Ne.symm w)).trans q) ⟨_,n⟩
    (XO.ok (vs:=k.setIfInBounds 0 (.ref a.heap.objs.size)) n (by simp[G]) (by rw[Array.getElem?_setIfInBounds_ne (by decide)];exact E))
   rw[aX2 j] at W;exact W
def aZd (Y:PE X o ta)(hv:PE X value tv)(hs:swapsWith value (some (.Attribute o "act" pos')) pos.line X.env=pure false:=by rfl):PS X (.Assign [.Attribute o "act" pos'] value pos) (aRy X.K fI ta tv):=by
 intro j s σ H D I h;refine plainObj_wpAny_Assign_Attribute (thn (hv j s σ H _ I h) λu Q ⟨y,S,R,F,q⟩=>thn (Y j Q σ S _ R q) λZ g ⟨x,G,m,W,e,C,J,P,A,c,t⟩=>?_) hs;subst P J;obtain rfl:=W;obtain rfl:=F;obtain⟨ws,i,V,T⟩:=XO.at m.hok A;have v:G g.heap.objs.size=none:=m.hok.fresh (j5 _);have k:g.heap.objs.size≠e:=bCP (j7 i);refine aWl m.kIn c i λh' t' z L N=>⟨σ,_,?_,t _ v k⟩;obtain⟨w,M,O,d,p,r⟩:=id L;have U:=m.laid (a:=g.heap.objs.size) (o:=xdA) (h':=g.heap.push w) (t':=t') (λb u e=>d7 _ e) (j5 _)
  ⟨_,⟨w,M,O,j4 _ (Heap.get?_some_iff.mp d).2,p,r⟩,λf=>by
   by_cases e:f = "act"
   ·subst e;simp[mO,RelV]
   ·have n:(f == ("act":Str))=false:=by simpa using e
    simp[List.lookup,n,e,mO]⟩
 refine U.write (x:=e) (e:=e) (o:=XO e C (some g.heap.objs.size)) (h':=h') (t':=t') (by rw[aJ (Ne.symm k),A];trivial) (.inl rfl) (λb u E q=>?_) ⟨_,z⟩ (XO.ok z V T);by_cases l:b=g.heap.objs.size
 ·subst l;rw[j4 _ (Heap.get?_some_iff.mp d).2] at q;cases q;exact d
 ·refine N b u E ?_;obtain⟨B,t⟩:=Heap.get?_some_iff.mp q;refine Heap.get?_some_iff.mpr ⟨?_,t⟩;rw[<-B];generalize g.heap=hh at l ⊢;cases hh;simp only at l;simp[Heap.push,Array.getElem?_push,l]
end
def aAu (K:bE4)(fI:Addr):Sp:=λvs H Q _=>∃e C,vs=[.ref e,.non]/\H e=some (XO e C none)/\XC K C fI/\∀dx,H dx=none->dx≠e->Q .non (upd (upd H dx xdA) e (XO e C (some dx)))
def aQ2 (C:Addr)(E:XK)(t:TA):TS:=λ_ σ H=>t σ H λvs H1=>vs=[.non]/\∀e dx,H1 e=none->H1 dx=none->dx≠e->E (.ref C) (some e) (upd H1 dx xdA)
section
variable {M:Model}{A:Around}{E:bE5}{env:Env}{K:bE4}{C fI:Addr}
def aHd {s:Shared}{x:Sem Value}{Q:Flow->Shared->Prop}(c:XC K C fI)(t:A.handled=none)
  (h:wpAny M A x (λv s₁=>∃e d vs,v=.ref e/\K.In s₁.heap/\s₁.heap.get? e=some { cls:=.ref C,dict:=d,data:=.fields vs }/\vs[1]?=some .none/\E (.ref e) s₁) E s) :
  wpAny M A (raiseStmt env (some x) none) Q E s:=by
 obtain⟨nm,q,N,P,l,I,m,r,o,O,w,z,y,J,F,j,D,B,H,k⟩:=c.at_;have b:(Value.ref C::l).contains (.type "BaseException")=true:=by rw[bBJ,k,bDG]
 unfold raiseStmt;refine b7 (bAY h (λv s₁ n=>?_) λ_ _ x=>x);obtain⟨e,G,vs,rfl,X,i,p,a⟩:=n;have f:=X _ _ j;obtain⟨R,g,d,u,L⟩:=s₁
 repeat (first|with_reducible refine bBW i ?_|with_reducible refine bBW f ?_|(with_reducible refine bC7 f ?_;rw[b])|with_reducible refine bAM i rfl p ?_|wp_step)
 exact wpAny_raiseNew_none t a
end
section
variable {X:Cx}{CX:CXT}{k:Nat}{C fI:Addr}{fd:FuncData}{ps:List Str}{E:XK}{x:Str}{np cpos pos:Pos}{a:Expr}{t:TA}
def aUy {m:bE6}{σ:St}{H:Hp}{s:Shared}{Q:VK}{u:Value}(c:XC X.K C fI)(F:dW X.prog X.w X.K X.mg X.base CX k fI fd ps (aAu X.K fI))(T:Room (k+1) X.A)(P:Binds X.K fd ps [])(U:jV CX X E0)
  (I:Inv X m σ H s) (r:RelV .non u) (h:∀e dx,H e=none->H dx=none->dx≠e->Q (.ref e) (upd (upd H dx xdA) e (XO e C (some dx)))) :
  wpAny (model X.prog X.w) X.A (call (.ref C) [u]) (EP X m σ Q) X.xe s:=by
 obtain⟨W,g,d,j,y⟩:=s;refine x_call I.kIn c (λh' e x t S=>?_) (by rw[sizeLine_eq,j8,bBN];lia);obtain⟨R,O,-,-⟩:=x.there;have o:H e=none:=I.hok.fresh (by rw[t];exact bCX _);have i:Inv X m σ (upd H e (XO e C none)) ⟨h',g,d,j,y⟩:=I.laid (a:=e) (h':=h') (t':=j) x.keeps (by rw[t];exact bCX _) (XO.ok O rfl rfl);have p:aAu X.K fI [.ref e,.non] (upd H e (XO e C none)) (λv D=>v=.non/\Q (.ref e) D) E0:=by refine⟨e,C,rfl,aH,c,λdx n l=>⟨rfl,?_⟩⟩;rw[aJ l] at n;have q:=h e dx o n l;rw[aSn (Ne.symm l),aMu];exact q
 have M:Vals [V.ref e,V.non] [Value.ref e,u]:=.cons rfl (.cons r .nil);have B:([Value.ref e,u]++[]).length=ps.length:=by have q:=F.len _ _ _ _ p;rw[bBB];exact q
 have f:=P ⟨h',g,d,j,y⟩ [Value.ref e,u] i.kIn B;rw[bBB] at f;refine bCK (bCA (F.run _ X.stack _ _ ⟨[Value.ref e,u],[]⟩ [Value.ref e,u] _ _ E0 (T.make C [u] []) (i.env0.make C [u] []) f M p) λr L b=>?_);cases r with
 |error v=>exact U m σ _ _ v L i b
 |ok fl=>
  cases fl with
  |ret w=>obtain⟨v,G,N,z,J,E⟩:=i.after b;subst J;exact⟨z,⟨V.ref e,G,N,rfl,E⟩⟩
  |next=>exact False.elim b
  |brk=>exact False.elim b
  |cont=>exact False.elim b
def aSd (c:XC X.K C fI)(F:dW X.prog X.w X.K X.mg X.base CX k fI fd ps (aAu X.K fI))(hr:Room (k+1) X.A)(Y:Binds X.K fd ps [])(hx:jV CX X E0)(Z:Raises X E)(V:X.calm=true)(U:PySem.W.keepIn X.K (.ref C)=true)
  (T:Gl X x) (hm:X.mg x=some (.ref C)) (ha:PA X [a] t) (L:(x == ("__debug__":Str))=false:=by decide) (he:starEach [a] X.env=(false,eval a X.env)::starEach [] X.env:=by rfl) :
  PS X (.Raise (some (.Call (.Name x np) [a] [] cpos)) none pos) (aQ2 C E t):=by
 intro f s σ H D I h;rw[arm_exec_Raise];refine b7 (bEC (aHd c (I.ok.hd V) ?_));refine b7 (bAY (Q:=EP X f σ λv p=>∃e b g,v=.ref e/\p=upd g e (XO e C (some b))/\g e=none/\g b=some xdA/\E (.ref C) (some e) g) (E:=X.xe) ?_ (λv u ⟨y,p,j,G,e,b,g,J,M,n,O,q⟩=>?_) λ_ _ z=>z)
 ·refine bBG (jF I T hm ?_ L);refine PySem.W.callWith_K (h₀:=X.base) I.ok.mod.kin U (thn (ha cpos f s σ H _ I h) λus u ⟨m,P,B,r,N,q⟩=>⟨B.kIn,?_⟩) he rfl;subst N;cases r with
  |cons r0 r1=>cases r1;exact aUy c F hr Y hx B r0 λe b o S l=>⟨e,b,upd P b xdA,rfl,rfl,by rw[aJ (Ne.symm l)];exact o,aH,q e b o S l⟩
 ·subst J M;obtain rfl:=G;refine b7 (bEC (d8 ?_));obtain⟨m,i,hz,R⟩:=XO.at (d:=some b) j.hok aH;exact⟨e,_,m,rfl,j.kIn,i,R,Z f σ g u e C b j n O q⟩
end
section
variable {X:Cx}{bE8:bE6}{σ:St}{H:Hp}{s:Shared}{M:Model}{A:Around}{E:bE5}{i:Nat}{n:Str}{pos:Pos}{Q:Unit->Shared->Prop}
def name_goes (I:Inv X bE8 σ H s)(hN:X.N.Nodup)(V:X.N[i]?=some n)(hk:X.env.scope.names.lookup n=some .local)(h:∀s',Inv X bE8 (σ.set i none) H s'->Q () s') :
  wpAny M A (do bindName X.env n .none;unbindBehindTheSuite X.env n pos) Q E s:=by
 obtain⟨m,J,L⟩:=id I.loc;have r:(X.env.scope.kind == .class || (X.env.scope.kind == .module && X.env.locals != X.env.globals))=false:=by rw[I.ok.kind];rfl
 have C:i<σ.length:=by rw[I.len];exact (List.getElem?_eq_some_iff.mp V).1
 have l:=I.cne;obtain⟨oL,_,_,S,_⟩:=id J;refine wpAny_nameGoes_keeps hk J r λP v B a=>?_;have u:∀b o,X.s₀.heap.get? b=some o->b≠X.env.locals:=λb o e=>v6 (z9 (j7 e) I.ok.above);have F:HOk X.prog X.w H P:=λb W e=>by
  refine (I.hok b W e).stay (λc K hc q=>(a.2 c ?_).trans q) (λ_ q=>q) λ_ _ q=>q;rintro rfl;rcases hc with rfl|hc
  ·rw[I.free] at e;cases e
  ·rw[I.free] at hc;cases hc
 refine h _ ⟨I.ok,I.os,I.bare,⟨λb o e n x g=>?_,λb o e n x g=>?_,I.base.free,λb o e g=>?_,I.base.tups,I.base.frzs,I.base.tbls⟩,⟨_,B,λj y v' f t O=>?_⟩,λy c e=>?_,I.free,I.freeC,λp hp=>?_,F,by simpa using I.len⟩
 ·exact (a.2 b (u b o e)).trans (I.base.keep b o e n x g)
 ·obtain⟨R,f⟩:=I.base.slot b o e n x g;exact⟨R,(a.2 b (u b o e)).trans f⟩
 ·obtain⟨Z,f⟩:=I.base.there b o e g;exact⟨Z,(a.2 b (u b o e)).trans f⟩
 ·by_cases D:j=i
  ·subst D;rw[bDE C] at t;cases t
  ·rw[bEG (Ne.symm D)] at t;obtain⟨T,U,q⟩:=L j y v' f t O;refine⟨T,U,?_⟩;rcases q with⟨k,e⟩|⟨k,c,e,z⟩
   ·refine .inl ⟨k,?_⟩;have:y≠n:=λe=>D (aA2 hN f (e ▸ V));simp[this,e]
   ·exact .inr ⟨k,c,e,z.sameBut a (l y c e)⟩
 ·obtain⟨K,z⟩:=I.cell y c e;exact⟨K,z.sameBut a (l y c e)⟩
 ·obtain⟨e,n,G,Y,d⟩:=I.pin p hp;exact⟨(a.2 p.1 G).trans e,n,G,Y,d⟩
end
def nQ (X:Cx)(bE8:bE6)(σ₀:St)(E:XK):Cx:={ X with pn:=X.pn++bE8,xe:=λv s'=>∃e T dx C H₁,v=.ref e/\Inv X bE8 σ₀ (up2 H₁ e T C dx) s'/\H₁ e=none/\H₁ T=none/\T≠e/\H₁ dx=some xdA/\E (.ref C) (some e) H₁ }
def qJ (X:Cx)(e:Addr):Cx:={ X with A:=X.A.mark (some (.ref e)),calm:=false,xe:=λ_ _=>False }
section
variable {X:Cx}{bE8:bE6}{σ σ₀:St}{H:Hp}{s:Shared}{E:XK}{e:Addr}
def aYs (a:X.Ok):(nQ X bE8 σ₀ E).Ok:=⟨a.mod,a.kind,a.glob,a.blt,a.above,a.inj,a.has,a.cab,a.hd,a.frames,a.stk,a.exf,a.bs,a.bsz,a.noex,a.exfs,a.funs,a.frf⟩
def aWa (a:X.Ok):(qJ X e).Ok:=⟨a.mod,a.kind,a.glob,a.blt,a.above,a.inj,a.has,a.cab,(λz=>nomatch z),a.frames,a.stk,a.exf,a.bs,a.bsz,a.noex,a.exfs,a.funs,a.frf⟩
def Inv.bBs (I:Inv X bE8 σ H s):Inv (nQ X bE8 σ₀ E) [] σ H s:=⟨aYs I.ok,I.os,I.bare,I.base,I.loc,I.cell,I.free,I.freeC,λp a=>I.pin p (by rw[bBB] at a;exact a),I.hok,I.len⟩
def Inv.aCg {pins':bE6}(b:X.Ok)(I:Inv (nQ X bE8 σ₀ E) pins' σ H s):Inv X bE8 σ H s:=⟨b,I.os,I.bare,I.base,I.loc,I.cell,I.free,I.freeC,λp a=>I.pin p (bDQ _ a),I.hok,I.len⟩
def Inv.aRz (I:Inv X bE8 σ H s):Inv (qJ X e) bE8 σ H s:=⟨aWa I.ok,I.os,I.bare,I.base,I.loc,I.cell,I.free,I.freeC,I.pin,I.hok,I.len⟩
def Inv.aEc (a:X.Ok)(I:Inv (qJ X e) bE8 σ H s):Inv X bE8 σ H s:=⟨a,I.os,I.bare,I.base,I.loc,I.cell,I.free,I.freeC,I.pin,I.hok,I.len⟩
end
section
variable {X:Cx}{bE8₀:bE6}{σ₀:St}{k:Nat}{f:Addr}{fd:FuncData}{ps:List Str}{sp:Sp}{dvs:List V}{ds:List Value}{E:XK}{x:Str}{p pos:Pos}{e:Expr}{es:List Expr}{t:TA}
end
structure XS (K:bE4)(S:Addr):Prop where
 ty:PySem.W.typeIn K (.ref S)=some (.type "type")
 cls:(PySem.W.clsIn K S).isSome=true
 base:PySem.W.mroIn K S (.type "BaseException")=some true
def aOm {M:Model}{A:Around}{E:bE5}{s:Shared}{K:bE4}{S C e:Addr}{oe:Obj}{Q:Bool->Shared->Prop}(X:K.In s.heap)(b:XS K S)(u:s.heap.get? e=some oe)(p:oe.cls=.ref C)(v:PySem.W.mroIn K C (.ref S)=some true)
  (r:Q true s):wpAny M A (excMatches (.ref e) (.ref S)) Q E s:=by
 obtain⟨h,g,d,t,n⟩:=s;have T:PySem.W.Looks M h (typeOf (.ref S)) (.type "type"):=PySem.W.looks_typeIn X b.ty;have l:PySem.W.Looks M h (isInstance (.ref S) (.type "tuple")) false:=T.andThen (PySem.W.Looks.of_pure tc_notTuple);have i:PySem.W.Looks M h (isType (.ref S)) true:=by
  obtain⟨o,q⟩:=Option.isSome_iff_exists.mp b.cls;unfold PySem.W.clsIn at q
  split at q
  ·rename_i f;exact (PySem.W.Looks.ld (X _ _ f)).andThen .now
  ·cases q
 have m:PySem.W.Looks M h (typeOf (.ref e)) (.ref C):=p ▸ (PySem.W.Looks.ld u).andThen .now;have c:=PySem.W.looks_mroIn (M:=M) X b.base;have k:=PySem.W.looks_mroIn (M:=M) X v;have j:PySem.W.Looks M h (isExcClass (.ref S)) true:=i.andThen c;unfold excMatches;refine b7 (l.at ?_);rw[if_neg (by decide)];refine b7 (d8 (a:=[Value.ref S]) ?_);simp only[bDJ,bER];refine b7 (b7 (b7 (j.at ?_)));simp only[Bool.not_true,bAZ,if_false];refine d8 (d8 (b7 (m.at (b7 (b7 (b7 (k.at ?_)))))));simp only[if_true];exact d8 (d8 (d8 r))
def bAx (D:Ends)(i:Nat):Ends:={ nx:=fun σ H=>D.nx (σ.set i none) H,rt:=D.rt,bk:=fun σ H=>D.bk (σ.set i none) H,ct:=fun σ H=>D.ct (σ.set i none) H }
def exE (K:bE4)(S:Addr)(i:Nat)(th:TS)(D:Ends)(σ:St):XK:=λv o H₁=>∃C e fI,v=.ref C/\o=some e/\XC K C fI/\PySem.W.mroIn K C (.ref S)=some true /\
 ∀T dx,H₁ e=none->H₁ T=none->T≠e->H₁ dx=some xdA->th (bAx D i) (σ.set i (some (.ref e))) (up2 H₁ e T C dx)
def aP8 (K:bE4)(S:Addr)(i:Nat)(tb:St->XK->TS)(th:TS):TS:=λD σ H=>tb σ (exE K S i th D σ) D σ H
section
variable {X:Cx}{S:Addr}{i:Nat}{x n:Str}{np hpos pos:Pos}{body suite:List Stmt}{b₀:Stmt}{tb:St->XK->TS}{th:TS}
def aZt (a0:X.stack=X.env::X.outer)(R:X.env.frame=some X.env.locals)(w:X.N.Nodup)(y:X.N[i]?=some n)(m:X.env.scope.names.lookup n=some .local)
  (hg:Gl X x) (hm:X.mg x=some (.ref S)) (hS:XS X.K S) (hb:∀bE8 σ₀ E,X.Ok->PSs (nQ X bE8 σ₀ E) body (tb σ₀ E)) (hh:∀e,PSs (qJ X e) (b₀::suite) th) (W:(x == ("__debug__":Str))=false:=by decide) :
  PS X (.Try body [.ExceptHandler (some (.Name x np)) (some n) (b₀::suite) hpos] [] [] pos) (aP8 X.K S i tb th):=by
 intro bE8 s σ H D I h;refine wpAny_Try_except (bAY (hb bE8 σ (exE X.K S i th D σ) I.ok [] s σ H D I.bBs h) (λf s1 l=>?_) λv s1 l=>?_)
 ·cases f with
  |next=>obtain⟨g,a,b,q⟩:=l;exact bEJ ⟨g,a,Inv.aCg I.ok b,q⟩
  |brk=>obtain⟨g,a,b,q⟩:=l;exact⟨g,a,Inv.aCg I.ok b,q⟩
  |cont=>obtain⟨g,a,b,q⟩:=l;exact⟨g,a,Inv.aCg I.ok b,q⟩
  |ret u=>obtain⟨v,g,a,b,r,q⟩:=l;exact⟨v,g,a,Inv.aCg I.ok b,r,q⟩
 ·obtain⟨e,T,p,C,Q,rfl,I1,P,nT,B,hd,C',e',fI,Y,Z,c,G,q⟩:=l;cases Y;cases Z;refine aC1 I1 a0 R P nT B λo a1 O J d=>lY O d λs2 t=>?_;have F:Inv (qJ X e) bE8 σ (up2 Q e o C p) s2:=t.aRz;refine wpAny_handleBy_cons (codeAny_handlers_test ?_) (by intro q;cases q);refine jF (X:=qJ X e) F hg hm ?_ W;have e1:up2 Q e o C p e=some (wU e o C p):=aH;obtain⟨vs,M,hz,V⟩:=(t.hok e _ e1).1;refine aOm t.kIn hS M rfl G ?_;rw[if_pos rfl];refine codeAny_handlers_suite_as ?_;refine lY t d λa2 I3=>?_;refine aAb I3 w y (.inl m) (v:=.ref e) rfl (λU I4=>?_) (.inr m);refine bAY (hh e bE8 U _ _ _ I4.aRz (q o p P J d hd)) (λf s4 A=>?_) λ_ _ z=>z.elim;cases f with
  |next=>obtain⟨g,a,b,j⟩:=A;exact name_goes (Inv.aEc I.ok b) w y m λL k=>⟨_,a,k,j⟩
  |brk=>obtain⟨g,a,b,j⟩:=A;exact name_goes (Inv.aEc I.ok b) w y m λL k=>⟨_,a,k,j⟩
  |cont=>obtain⟨g,a,b,j⟩:=A;exact name_goes (Inv.aEc I.ok b) w y m λL k=>⟨_,a,k,j⟩
  |ret u=>obtain⟨v,g,a,b,r,j⟩:=A;exact name_goes (Inv.aEc I.ok b) w y m λL k=>⟨v,_,a,k,r,j⟩
end
section
variable {X:Cx}{o:Expr}{pos:Pos}{ta:TE}
def bA3 (K:bE4)(ta:TE):TE:=fun σ H Q=>ta σ H λx H1=>∃e T C dx fI,x=.ref e/\H1 e=some (wU e T C dx)/\XC K C fI/\H1 dx=some xdA/\Q .non H1
def aX4 (E:PE X o ta)(w:attributeBase o "act" X.env (eval o X.env)=eval o X.env:=by rfl):PE X (.Attribute o "act" pos) (bA3 X.K ta):=by
 intro d s σ H Q I h;refine aMc w (thn (E d s σ H _ I h) λu D ⟨x,r,b,v,e,T,C,j,B,p,m,c,l,q⟩=>?_);subst p;obtain rfl:u=Value.ref e:=v;obtain⟨A,f,F,i⟩:=(b.hok e _ m).1;obtain⟨g,t,k⟩:=b.hok j _ l;have a:=k "act";have n:g "act"=some .none:=by
  cases z:g "act" with
  |none=>rw[z] at a;exact False.elim a
  |some y=>rw[z] at a;exact congrArg some a
 exact x_load b.kIn c f t n rfl ⟨.non,r,b.tok _,rfl,q⟩
def aS1 (K:bE4)(D:V)(Du:Value)(b:Bool->Prop):List V->Hp->VK->Prop:=λxs H Q=>∃e T C dx fI bb,xs=[.ref e,D]/\H e=some (wU e T C dx)/\XC K C fI/\H dx=some xdA/\PySem.W.mroIn K C Du=some bb/\b bb/\Q (.bl bb) H
def aGz {D:V}{n:Value}(B:∀u,RelV D u->u=n)(v:∀(M:Model) (h:Heap),X.K.In h->PySem.W.Looks M h (typeOf n) (.type "type"))(x:∀(M:Model) (h:Heap),X.K.In h->PySem.W.Looks M h (isType n) true) :
  bR X (.builtin "isinstance") (aS1 X.K D n λ_=>True):=by
 rintro bE8 s σ H xs us Q I r ⟨e,T,C,dx,fI,bb,rfl,he,c,hd,hm,-,q⟩;cases r with
 |cons r0 r1=>
  cases r1 with
  |@cons _ u2 _ _ r2 r3=>
   cases r3;obtain rfl:=r0;have j:n=u2:=(B _ r2).symm;subst j;obtain⟨m,d,y,l⟩:=(I.hok e _ he).1;have f:∃o,s.heap.get? dx=some o:=by obtain⟨p,⟨o,_,_,k,_⟩,_⟩:=I.hok dx _ hd;exact⟨o,k⟩
   have g:Meets (Builtin.«isinstance» ⟨[.ref e,n],[]⟩) (λ_ R s=>X.K.In s.heap/\s.heap.get? e=some { cls:=.ref C,dict:=some dx,data:=.fields m }/\(∃o,s.heap.get? dx=some o)/\∀t,R (.ok (.ret (.bool bb))) { s with toks:=t }):=
    λi w A R s b=>isinstance_outer (aEa b.1 c b.2.1 (λa z=>by cases z;exact b.2.2.1) (v _ _ b.1) (x _ _ b.1) hm λt=>b.2.2.2 t) (by intro z;cases z)
   exact call_isinstance g ⟨I.kIn,d,f,λt=>⟨.bl bb,H,I.tok t,rfl,q⟩⟩
def aWm {D:Addr}(b:XS X.K D):bR X (.builtin "isinstance") (aS1 X.K (.ref D) (.ref D) λ_=>True):=by
 refine aGz (λu r=>r) (λM h k=>PySem.W.looks_typeIn k b.ty) λM h k=>?_;obtain⟨c,q⟩:=Option.isSome_iff_exists.mp b.cls;unfold PySem.W.clsIn at q
 split at q
 ·rename_i a;exact (PySem.W.Looks.ld (k _ _ a)).andThen .now
 ·cases q
def aZz:bR X (.builtin "isinstance") (aS1 X.K (.ty "ValueError") (.type "ValueError") λ_=>True):=
 aGz (λu r=>r) (λM h k=>PySem.W.Looks.of_pure aW7) λM h k=>.now
end
section
variable {P:Program}{w:World}{K:bE4}{mg:bE7}{base:Heap}
def OkX (P:Program)(w:World)(K:bE4)(mg:bE7)(base:Heap)(k:Nat)(x:Str)(ps:List Str)(sp:Sp):Prop:=
 ∃f fd,mg x=some (.ref f)/\PySem.W.keepIn K (.ref f)=true/\Binds K fd ps []/\dW P w K mg base (CXR P w) k f fd ps sp
def OkX.mono {j k:Nat}{x:Str}{ps:List Str}{sp:Sp}(h:OkX P w K mg base j x ps sp)(g:j<=k):OkX P w K mg base k x ps sp:=by obtain⟨f,a,b,d,e,c⟩:=h;exact⟨f,a,b,d,e,c.mono g⟩
def OkX.ofV {x:Str}{st:Stmt}{N ps:List Str}{k:Nat}{sp:Sp}(D:Dn K mg x st ps)(S:aN N ps (aD st))(d:∀vs H Q E,sp vs H Q E->vs.length=ps.length)
  (a:∀(f:Addr) (cdv:Value) (A:Around) (outer:List Env) (s:Shared) (H:Hp) (vs:List V) (Q:VK) (E:XK),Room k (A.deeper (envOfC x (aD st) s.heap.objs.size f cdv))->sp vs H Q E ->
   ∃t,VSs (qK (CXR P w) P w K mg base N x (aD st) f cdv A outer s H E) (cQ st) t/\t { nx:=λ_ H'=>Q .non H',rt:=Q } (start N vs) H):OkX P w K mg base (k+1) x ps sp:=by
 obtain⟨f,o,F,B,m⟩:=D;obtain⟨n,l,kV,e,p,j,cdv,q,i,rfl,g,c⟩:=F.ex;exact⟨f,_,m,F.kp,B,aLo g c S d λA outer s H vs Q E h b=>let ⟨t,h1,h2⟩:=a f cdv A outer s H vs Q E h b;⟨t,h1.1,h2⟩⟩
def dW.calm {k:Nat}{f:Addr}{fd:FuncData}{ps:List Str}{sp sp':Sp}(F:dW P w K mg base (CXR P w) k f fd ps sp)(h:∀vs H Q E,sp' vs H Q E->sp vs H Q E0):dW P w K mg base CX0 k f fd ps sp':=
 ⟨λvs H Q E q=>F.len vs H Q E0 (h _ _ _ _ q),λA a s H b g vs Q E l j e d i=>bCA (F.run A a s H b g vs Q E0 l j e d (h _ _ _ _ i)) λr m c=>by
  cases r with
  |error v=>obtain⟨_,_,_,_,_,_,_,_,_,_,_,_,_,_,z⟩:=c;exact z.elim
  |ok fl=>cases fl <;> exact c⟩
structure ExT (K:bE4)(mg:bE7)(st:Stmt)(x y:Str)(C S:Addr):Prop where
 at_:∃fI fd,XC K C fI/\Fun K "__init__" y st fI fd/\Binds K fd bQM []
 mg:mg x=some (.ref C)
 kp:PySem.W.keepIn K (.ref C)=true
 cls:XS K C
 over:PySem.W.mroIn K C (.ref S)=some true
def xO {k:Nat}{y:Str}{st:Stmt}{fI:Addr}{fd:FuncData}(F:Fun K "__init__" y st fI fd)(j:aN bQM bQM (aD st))
  (l:∀(X:Cx),X.N=(["self","act"]:List Str)->X.env.scope=aD st->X.mg=mg->VSs X (cQ st) (aAg (aM7 (tVI X.K fI (cO (eX 0) (cO (eX 1) qZ)))) (aRy X.K fI (eX 0) (eX 1)))) :
  dW P w K mg base CX0 (k+1) fI fd bQM (aAu K fI):=by
 refine F.okV j (λh H Q E ⟨e,C,z,_⟩=>by rw[z];rfl) λi A a s H h Q E m ⟨e,C,d,b,c,q⟩=>⟨_,l _ rfl rfl rfl,?_⟩;subst d;refine⟨_,rfl,_,rfl,e,C,.non,rfl,b,c,?_⟩;exact⟨_,rfl,_,rfl,e,C,rfl,rfl,b,c,λg n f=>q g n f⟩
end
section
variable {X:Cx}{k j:Nat}{C S:Addr}{E:XK}{x y:Str}{np cpos pos:Pos}{a:Expr}{t:TA}{st:Stmt}
def sJ (i:ExT X.K X.mg st x y C S)(h:∀fI fd,Fun X.K "__init__" y st fI fd->dW X.prog X.w X.K X.mg X.base CX0 k fI fd bQM (aAu X.K fI))(j:Room (k+1) X.A)(e:Raises X E)(l:X.calm=true)
  (g:Gl X x) (f:VA X [a] t) (d:(x == ("__debug__":Str))=false:=by decide) (n:cC a=true:=by rfl) :
  VS X (.Raise (some (.Call (.Name x np) [a] [] cpos)) none pos) (aQ2 C E t):=by
 obtain⟨⟨fI,fd,c,F,B⟩,m,b,_,_⟩:=i;exact⟨aSd c (h fI fd F) j B aB7 e l b g m f.1 d (aL (es:=[]) n)⟩
def aPo {K:bE4}{o:Expr}{ta:TE}{f:Str}(a:VE X o ta)(b:X.K=K:=by rfl)(c:f = "act":=by first|rfl|decide)(d:attributeBase o f X.env (eval o X.env)=eval o X.env:=by rfl):VE X (.Attribute o f pos) (bA3 K ta):=by subst c b;exact⟨aX4 a.1 d⟩
def sS {K:bE4}{D:Addr}(b:XS K D)(a:X.K=K:=by rfl):bR X (.builtin "isinstance") (aS1 K (.ref D) (.ref D) λ_=>True):=by subst a;exact aWm b
def aL3 {K:bE4}(a:X.K=K:=by rfl):bR X (.builtin "isinstance") (aS1 K (.ty "ValueError") (.type "ValueError") λ_=>True):=by subst a;exact aZz
def aP4 {i:Nat}{n:Str}{hpos:Pos}{body suite:List Stmt}{b₀:Stmt}{tb:St->XK->TS}{th:TS}(c:X.stack=X.env::X.outer)(a:X.env.frame=some X.env.locals)(m:X.N.Nodup)(l:X.N[i]?=some n)(h:X.env.scope.names.lookup n=some .local)
  (f:Gl X x) (o:X.mg x=some (.ref S)) (j:XS X.K S) (k:∀bE8 σ₀ E,X.Ok->VSs (nQ X bE8 σ₀ E) body (tb σ₀ E)) (g:∀e,VSs (qJ X e) (b₀::suite) th) (b:(x == ("__debug__":Str))=false:=by decide) :
  VS X (.Try body [.ExceptHandler (some (.Name x np)) (some n) (b₀::suite) hpos] [] [] pos) (aP8 X.K S i tb th):=
 ⟨aZt c a m l h f o j (λbE8 σ₀ E d=>(k bE8 σ₀ E d).1) (λe=>(g e).1) b⟩
end
section
variable {P:Program}{w:World}{K:bE4}{mg:bE7}{base:Heap}
def gQ (P:Program)(w:World)(K:bE4)(mg:bE7)(base:Heap)(C:Addr)(k:Nat)(m:Str)(ps:List Str)(sp:Sp):Prop:=
 ∃f fd,Cls K C/\Meth K C m f/\Binds K fd ps []/\dW P w K mg base (CXR P w) k f fd ps sp
def gQ.mono {C:Addr}{j k:Nat}{m:Str}{ps:List Str}{sp:Sp}(h:gQ P w K mg base C j m ps sp)(g:j<=k):gQ P w K mg base C k m ps sp:=by obtain⟨f,a,b,d,e,c⟩:=h;exact⟨f,a,b,d,e,c.mono g⟩
def gQ.ofV {C:Addr}{m qual:Str}{st:Stmt}{N ps:List Str}{k:Nat}{sp:Sp}(c:Cls K C)(D:xK K C m qual st ps)(S:aN N ps (aD st))(e:∀vs H Q E,sp vs H Q E->vs.length=ps.length)
  (a:∀(f:Addr) (cdv:Value) (A:Around) (outer:List Env) (s:Shared) (H:Hp) (vs:List V) (Q:VK) (E:XK),Room k (A.deeper (envOfC qual (aD st) s.heap.objs.size f cdv))->sp vs H Q E ->
   ∃t,VSs (qK (CXR P w) P w K mg base N qual (aD st) f cdv A outer s H E) (cQ st) t/\t { nx:=λ_ H'=>Q .non H',rt:=Q } (start N vs) H):gQ P w K mg base C (k+1) m ps sp:=by
 obtain⟨f,q,j,F,B⟩:=D;obtain⟨p,o,kV,g,r,n,cdv,u,l,rfl,h,d⟩:=F.ex;exact⟨f,_,c,j,B,aLo h d S e λA outer s H vs Q E i b=>let ⟨t,h1,h2⟩:=a f cdv A outer s H vs Q E i b;⟨t,h1.1,h2⟩⟩
def gQ.calm {C:Addr}{k:Nat}{m:Str}{ps:List Str}{sp sp':Sp}(G:gQ P w K mg base C k m ps sp)(h:∀vs H Q E,sp' vs H Q E->sp vs H Q E0):OkM P w K mg base C k m ps sp':=by obtain⟨f,a,b,d,e,c⟩:=G;exact⟨f,a,b,d,e,c.calm h⟩
end
def aU3 (σ₀:St)(C:Addr)(m:Str)(sp:Sp)(E:XK)(ta:TE)(t:TA):TE:=fun σ H Q=>σ=σ₀/\ta σ H λx H1=>∃a dx fs,x=.ref a/\H1 a=some (.ins C dx fs)/\fs.lookup m=none/\t σ H1 λvs H2=>sp (x::vs) H2 Q E
section
variable {X:Cx}{bE8₀:bE6}{σ₀:St}{k:Nat}{C:Addr}{ps:List Str}{sp:Sp}{E:XK}{m:Str}{apos pos:Pos}{o e:Expr}{es:List Expr}{ta:TE}{t:TA}
def uG {pl:Sem Bool}(ok:X.Ok)(G:gQ X.prog X.w X.K X.mg X.base C k m ps sp)(hr:Room k X.A)(he:VE (nQ X bE8₀ σ₀ E) o ta)(ha:VA (nQ X bE8₀ σ₀ E) (e::es) t)
  (hp:cC e=true:=by rfl) (a0:(backTo pos (starEach es X.env)).any (·.1)=false:=by rfl)
  (ht:eval (.Call (.Attribute o m apos) (e::es) [] pos) X.env=(do
   let ov <-eval o X.env
   standAt apos.atName
   let (f,first) <-holding [ov] (getMethod ov m pl)
   callWith pos f first (backTo pos (starEach (e::es) X.env)) (backToKw pos (keywordEach [] X.env))):=by rfl):VE (nQ X bE8₀ σ₀ E) (.Call (.Attribute o m apos) (e::es) [] pos) (aU3 σ₀ C m sp E ta t):=by
 obtain⟨f,fd,c,N,V,F⟩:=G;refine⟨?_⟩;rintro bE8 s σ H Q I ⟨rfl,h⟩;refine PySem.W.methodCall_KW (pl:=pl) (thn (he.1 bE8 s σ H _ I h) λu s1 ⟨x,H1,P,rx,a,J,fs,ex,ea,l,q⟩=>?_) ht;subst ex;obtain rfl:u=Value.ref a:=rx;refine zR P ea c N l ?_;refine PySem.W.callWith_K (first:=[.ref a]) (h₀:=X.base) I.ok.mod.kin N.kp (thn (ha.1 pos bE8 s1 σ H1 _ P q) λj R ⟨L,U,i,r,M⟩=>⟨i.kIn,?_⟩) (aL hp) a0;have O:Vals (.ref a::L) (.ref a::j):=.cons rfl r;have S:(Value.ref a::j).length=ps.length:=by rw[<-O.length];exact F.len _ _ _ _ M
 have g:=V R (Value.ref a::j) i.kIn (by rw[bBB];exact S);rw[bBB] at g;refine bCK (bCA (F.run X.A X.stack R U ⟨.ref a::j,[]⟩ (.ref a::j) (.ref a::L) Q E hr i.env0 g O M) λr s' d=>?_);cases r with
 |error v=>obtain⟨a,T,J,C,H₁,rfl,os,p,n,nT,y,B,Z,D,Y⟩:=d;exact⟨a,T,J,C,H₁,rfl,(Inv.aCg ok i).call' (s':=s') (ch:=[]) os Z D p (λb z=>absurd z (by simp)),n,nT,y,B,Y⟩
 |ok fl=>
  cases fl with
  |ret u=>exact i.after d
  |next=>exact False.elim d
  |brk=>exact False.elim d
  |cont=>exact False.elim d
end
section
variable {X:Cx}{S:Addr}{x:Str}{np hpos pos:Pos}{body suite:List Stmt}{b₀:Stmt}{tb:St->XK->TS}{th:TS}
end
section
variable {X:Cx}
def bB4 (K:bE4):List V->Hp->VK->Prop:=λxs H Q=>∃(p:Addr) (bs:List Bool),xs=[.ref p]/\SqL K H p (bs.map V.bl)/\Q (.bl (bs.any id)) H
def any_range (d:List Bool):(List.range d.length).any (λi=>d.getD i false)=d.any id:=by
 rw[bCG,bDV,bDV];constructor
 ·rintro⟨i,a,h⟩;have a:=List.mem_range.mp a;rw[v7,b8 a] at h;exact⟨_,bBH a,h⟩
 ·rintro⟨b,c,h⟩;obtain⟨i,a,e⟩:=List.mem_iff_getElem.mp c;refine⟨i,List.mem_range.mpr a,?_⟩;rw[v7,b8 a];show d[i]=true;rw[e];exact h
def aQn (M:X.calm=true):bR X (.builtin "any") (bB4 X.K):=by
 intro B s σ H S O Q I r h;obtain⟨p,a,rfl,C,q⟩:=h;obtain⟨u,rfl,G⟩:=r.one;cases G;obtain⟨d,m,k,R⟩:=I.list C;have g:=m.length;rw[j0] at g;have j:p≠s.heap.objs.size:=by obtain⟨o,w,_⟩:=k.isList;exact v6 (j7 w)
 refine call_any_walk (bCS k.isList ?_);refine⟨s.heap.objs.size,_,_,_,_,_,λi=>a.getD i false,rfl,Walks.list (show X.A.in1.handled=none from I.ok.hd M) _ p j d.toArray,⟨⟨_,j4 _ rfl,rfl,rfl⟩,?_⟩,?_,λN L E=>?_⟩
 ·exact k.isList.at λo e=>d7 _ e
 ·intro i v J y P F c;have f:d[i]?=some v:=by simpa using F
  have t:i<a.length:=by rw[g];exact (List.getElem?_eq_some_iff.mp f).1
  obtain⟨u,n,D⟩:=m.get (i:=i) (x:=.bl a[i]) (by rw[m5,b8 t];rfl);rw[f] at n;cases n;cases D;have e:a.getD i false=a[i]:=by rw[v7,b8 t];rfl
  replace c:y (a.getD i false) J:=c;rw[e] at c;exact bBD c
 ·have e:(List.range d.toArray.size).any (λi=>a.getD i false)=a.any id:=by rw[j6,<-g];exact any_range a
  rw[e];refine⟨.bl (a.any id),H,?_,rfl,q⟩;exact I.kept λb o l=>E b o (by
   intro z;have:b=s.heap.objs.size:=by simpa using z
   rw[this] at l;exact absurd (j7 l) (bBO _)) (d7 _ l)
def aXw:List V->Hp->VK->Prop:=λxs H Q=>∃z:Str,xs=[.str z]/\z.length<=1000/\∀l H',H l=none->Same H H'->H' l=some (.lst ((List.range z.cps.size).map λi=>V.str (sgn z i)))->Q (.ref l) H'
def aI2 (z:Str)(n:Nat):∀(k:Nat) (vs:List Value),vs.length=n->(∀(j:Nat) (v:Value),vs[j]?=some v->∃t,v=.str (sgn z (k+j)) t)->Vals ((List.range' k n).map λi=>V.str (sgn z i)) vs:=by
 induction n with
 |zero=>intro k vs a _;cases bCR a;exact .nil
 |succ n ih=>
  intro k vs a h;cases vs with
  |nil=>cases a
  |cons v vs=>obtain⟨t,rfl⟩:=h 0 v rfl;rw[List.range'_succ,bAC];refine .cons ⟨t,rfl⟩ (ih (k+1) vs (by simpa using a) λj u e=>?_);obtain⟨c,b⟩:=h (j+1) u e;exact⟨c,by rw[b,show k+(j+1)=k+1+j by lia]⟩
def aLa (B:X.calm=true):bR X (.type "list") aXw:=by
 intro l s σ H E D Q I r h;obtain⟨z,rfl,d,q⟩:=h;obtain⟨u,rfl,t,rfl⟩:=vals1 r;refine call_list_str (I.ok.hd B) z t (λC k a m p A b=>?_) (small d);have g:=aI2 z z.cps.size 0 a.toList (by rw[v9];exact b.1) λj v e=>by have x:=b.2 j v (by rw[<-bBX];exact e);obtain⟨c,t',w,y⟩:=x;refine⟨t',?_⟩;rw[y];unfold sgn;rw[bD4,bAK,w];rfl
 rw[<-List.range_eq_range'] at g;have n:a.toList.toArray=a:=by simp
 have f:H s.heap.objs.size=none:=I.hok.fresh (j5 _);refine⟨.ref s.heap.objs.size,_,I.laid (t':=k) (o:=.lst ((List.range z.cps.size).map λi=>V.str (sgn z i))) p (j5 _) ?_,rfl,q _ _ f (aR f _) aH⟩;refine⟨by rw[j0,bAL];exact small d,a.toList,m,g,?_⟩;rw[n];exact A
end
def aKe {X:Cx}{K:bE4}(h:X.K=K:=by rfl):OpR X (compareOp .In) (rIn K false):=by subst h;exact vJ
structure aY6 (E:Hp->Hp->Prop)(H:Hp):Prop where
 new:∀D o,H D=none->E H (upd H D o)
 trans:∀{H1 H2},E H H1->E H1 H2->E H H2
 upd:∀D o H',H D=none->E H H'->E H (upd H' D o)
 keep:∀D H1 H2 xs,H D=none->E H H1->H1 D=some (.lst xs)->E H1 H2->H2 D=some (.lst xs)
def aDu (H:Hp):aY6 Same H:=⟨λD o h=>aR h o,λa b=>a.trans b,λD o f h s=>dN h s,λD e c d _ _ h s=>s _ _ h⟩
def oA (J:It)(H1:Hp)(σ0:L2.St)(g:TG)(tt:TT)(te:TE)(Q:VK):Prop:=∀D,H1 D=none->∃W:Nat->Nat->L2.St->Hp->List V->Prop,(∃m,W 0 m σ0 (L2.upd H1 D (.lst [])) []) /\
 ∀i m σ' H' ys,W i m σ' H' ys->H' D=some (.lst ys)/\((J.stop i H'/\Q (.ref D) H')\/(J.go i H'/\∀x H2,J.yld i H' x H2->g x σ' H2 fun σ3 H3=>tt σ3 H3 λb H4=>
  if b=true then te σ3 H4 λy H5=>H5 D=some (.lst ys)/\ys.length<sizeLine/\∃m',m'<m/\W (i+1) m' σ3 (L2.upd H5 D (.lst (ys++[y]))) (ys++[y]) else H4 D=some (.lst ys)/\∃m',m'<m/\W (i+1) m' σ3 H4 ys))
section
variable {X:Cx}{K:bE4}{scope:Scope}{N:List Str}{tl te:TE}{tt:TT}{g:TG}{σ:L2.St}{H:Hp}{Q:VK}
def zB (c:L2.St)(b:Cap X scope N σ c)(h:tl σ H λv H1=>∃a,v=.ref a/\(∃xs,SqL K H1 a xs)/\oA (Itl K a) H1 c g tt te Q):gK X scope N (aCj K tl) g tt te σ H Q:=⟨c,b,h⟩
def nF (c:L2.St)(b:Cap X scope N σ c)(h:tl σ H λv H1=>∃a,v=.ref a/\(∃xs,SqT K H1 a xs)/\oA (Itt K a) H1 c g tt te Q):gK X scope N (aN0 K tl) g tt te σ H Q:=⟨c,b,h⟩
def uM {a:Addr}{xs:List V}{E:Hp->Hp->Prop}(g:∀H',E H H'->SqT K H' a xs):∀H' i x,E H H'->xs[i]?=some x->(Itt K a).go i H'/\∀y H2,(Itt K a).yld i H' y H2->H2=H'/\y=x:=λH' i x s e=>
 ⟨⟨xs,x,g H' s,e⟩,λy H2 c=>by obtain⟨d,f⟩:=c;have b:=f xs (g H' s);rw[e] at b;cases b;exact⟨d,rfl⟩⟩
def kW {a:Addr}{xs:List V}{E:Hp->Hp->Prop}(b:∀H',E H H'->SqT K H' a xs):∀H',E H H'->(Itt K a).stop xs.length H':=λH' s=>⟨xs,b H' s,j5 _⟩
def aUf {a:Addr}{xs:List V}{E:Hp->Hp->Prop}(g:∀H',E H H'->SqL K H' a xs):∀H' i x,E H H'->xs[i]?=some x->(Itl K a).go i H'/\∀y H2,(Itl K a).yld i H' y H2->H2=H'/\y=x:=λH' i x s e=>
 ⟨⟨xs,x,g H' s,e⟩,λy H2 c=>by obtain⟨d,f⟩:=c;have b:=f xs (g H' s);rw[e] at b;cases b;exact⟨d,rfl⟩⟩
def aO3 {a:Addr}{xs:List V}{E:Hp->Hp->Prop}(b:∀H',E H H'->SqL K H' a xs):∀H',E H H'->(Itl K a).stop xs.length H':=λH' s=>⟨xs,b H' s,j5 _⟩
inductive lX (R:Nat->V->Prop):List Nat->List V->Prop
 |nil:lX R [] []
 |cons {i y is ys}:R i y->lX R is ys->lX R (i::is) (y::ys)
def lX.snoc {R:Nat->V->Prop}{is:List Nat}{ys:List V}{i:Nat}{y:V}(h:lX R is ys)(r:R i y):lX R (is++[i]) (ys++[y]):=by
 induction h with
 |nil=>exact .cons r .nil
 |cons r' _ ih=>exact .cons r' ih
def lX.imp {R S:Nat->V->Prop}{is:List Nat}{ys:List V}(h:lX R is ys)(k:∀i y,R i y->S i y):lX S is ys:=by
 induction h with
 |nil=>exact .nil
 |cons r _ ih=>exact .cons (k _ _ r) ih
def lX.len {R:Nat->V->Prop}{is:List Nat}{ys:List V}(h:lX R is ys):is.length=ys.length:=by
 induction h with
 |nil=>rfl
 |cons _ _ ih=>rw[j8,j8,ih]
def aB1 {σ0:L2.St}(E:Hp->Hp->Prop)(l:aY6 E H)(xs:List V)(p:Nat->Bool)(Rel:Nat->Hp->V->Prop)
  (st:∀{i H1 H2 y},E H H1->E H1 H2->Rel i H1 y->Rel i H2 y) (G:∀{i H1 D ys zs y},H D=none->E H H1->H1 D=some (.lst ys)->Rel i H1 y->Rel i (L2.upd H1 D (.lst zs)) y)
  (At:Nat->L2.St->Prop) (O:L2.St->Prop) (P:O σ0) (hsz:xs.length<=sizeLine)
  (J:It) (L:∀H' i x,E H H'->xs[i]?=some x->J.go i H'/\∀y H2,J.yld i H' y H2->H2=H'/\y=x) (w:∀H',E H H'->J.stop xs.length H')
  (K:∀(i:Nat) (x:V) σ' H' Q',xs[i]?=some x->O σ'->E H H'->(∀σ2,O σ2->At i σ2->Q' σ2 H')->g x σ' H' Q')
  (M:∀(i:Nat) (x:V) σ2,xs[i]?=some x->At i σ2->∀H' R,E H H'->(∀H2,E H' H2->R (p i) H2)->tt σ2 H' R)
  (U:∀(i:Nat) (x:V) σ2,xs[i]?=some x->At i σ2->p i=true->∀H' R,E H H'->(∀y H2,E H' H2->Rel i H2 y->R y H2)->te σ2 H' R)
  (q:∀D H' ys,E H H'->H D=none->H' D=some (.lst ys)->lX (λi y=>Rel i H' y) (sel p 0 (List.range xs.length)) ys->Q (.ref D) H'):oA J H σ0 g tt te Q:=by
 intro D b;refine⟨λi m σ' H' ys=>i<=xs.length/\m=xs.length - i/\O σ'/\E H H'/\H' D=some (.lst ys)/\lX (λi y=>Rel i H' y) (sel p 0 (List.range i)) ys,⟨xs.length,bAS _,rfl,P,l.new _ _ b,aH,.nil⟩,?_⟩;rintro i m σ' H' ys ⟨hi,rfl,hps,sm,hL,hR⟩;refine⟨hL,?_⟩;by_cases h:i<xs.length
 ·right;have s:=b8 h;obtain⟨C,B⟩:=L H' i xs[i] sm s;refine⟨C,λx H2 I=>?_⟩;obtain⟨rfl,rfl⟩:=B x H2 I;have v:sel p 0 (List.range (i+1))=sel p 0 (List.range i)++(if p i then [i] else []):=by rw[List.range_succ,xY,bAL,bD4]
  have N:=hR.len;have A:=aFe p 0 (List.range i);rw[bAL] at A;refine K i xs[i] σ' _ _ s hps sm fun σ2 k n=>?_;refine M i xs[i] σ2 s n _ _ sm λT o=>?_;have a:=l.trans sm o;have f:=l.keep D _ _ _ b sm hL o;cases u:p i with
  |true=>rw[if_pos rfl];refine U i xs[i] σ2 s n u _ _ a λy S t F=>?_;have d:=l.trans a t;have c:=l.keep D _ _ _ b a f t;refine⟨c,by lia,xs.length - (i+1),by lia,h,rfl,k,l.upd D _ _ b d,aH,?_⟩;rw[v,u];exact lX.snoc (hR.imp λj z r=>G b d c (st a t (st sm o r))) (G b d c F)
  |false=>rw[if_neg (by simp)];refine⟨f,xs.length - (i+1),by lia,h,rfl,k,a,f,?_⟩;rw[v,u];simp only[bAZ,if_false,bBB];exact hR.imp λj z r=>st sm o r
 ·left;have e:i=xs.length:=by lia
  subst e;exact⟨w _ sm,q D _ ys sm b hL hR⟩
end
def At1 (σ0:L2.St)(v:V)(σ:L2.St):Prop:=∃l,σ=(σ0.set 0 l).set 0 (some v)
def Ps1 (σ0:L2.St)(σ:L2.St):Prop:=∃l,σ=σ0.set 0 l
def At2 (σ0:L2.St)(a b:V)(σ:L2.St):Prop:=σ=(σ0.set 0 (some a)).set 1 (some b)
def Ps2 (σ0:L2.St)(σ:L2.St):Prop:=∃l m,σ=(σ0.set 0 l).set 1 m
def hg1 {σ0:L2.St}{i:Nat}{x:V}{σ':L2.St}{H':Hp}{Q':L2.St->Hp->Prop}(h:Ps1 σ0 σ')(q:∀σ2,Ps1 σ0 σ2->At1 σ0 x σ2->Q' σ2 H'):bU 0 x σ' H' Q':=by obtain⟨l,rfl⟩:=h;exact q _ ⟨some x,by rw[bCQ]⟩ ⟨l,rfl⟩
def hg2 {K:bE4}{c:L2.St}{p:Addr}{a b:V}{σ':L2.St}{g:Hp}{d:L2.St->Hp->Prop}(f:SqT K g p [a,b])(h:Ps2 c σ')(q:∀σ2,Ps2 c σ2->At2 c a b σ2->d σ2 g):aFv K 2 (mF (bU 0) (mF (bU 1) aKk)) (.ref p) σ' g d:=by
 obtain⟨l,m,rfl⟩:=h;have e:(((c.set 0 l).set 1 m).set 0 (some a)).set 1 (some b)=(c.set 0 (some a)).set 1 (some b):=by rw[List.set_comm _ _ (show (1:Nat)≠0 by decide),bCQ,bCQ]
 refine⟨p,_,rfl,f,rfl,_,_,rfl,_,_,rfl,rfl,?_⟩;show d ((((c.set 0 l).set 1 m).set 0 (some a)).set 1 (some b)) g;rw[e];exact q _ ⟨some a,some b,rfl⟩ rfl
def uE (xs:List V)(n:Nat):uZ xs (some (n:Int)) none=xs.drop n:=by
 unfold uZ;rw[HT.aPt,HT.aUv];by_cases h:n<=xs.length
 ·rw[Nat.min_eq_left h];exact bBF (by rw[bBC];lia)
 ·rw[Nat.min_eq_right (by lia),List.drop_length,List.drop_of_length_le (by lia),List.take_nil]
def bAp (K:bE4):V->Option Int->Option Int->Hp->VK->Prop:=λx lo hi H Q=>∃a xs,x=.ref a/\SqL K H a xs/\∀p H',H p=none->Same H H'->H' p=some (.lst (uZ xs lo hi))->Q (.ref p) H'
def aHg {X:Cx}:SlR X (bAp X.K):=λb s σ H x v g i l f n Q I o m d j ⟨a,k,e,h,q⟩=>
 aTp b s σ H x v g i l f n Q I o m d j ⟨a,k,e,h,λp c=>q p _ c (aR c _) aH⟩
inductive Al2 {α β:Type}(R:α->β->Prop):List α->List β->Prop
 |nil:Al2 R [] []
 |cons {a b as bs}:R a b->Al2 R as bs->Al2 R (a::as) (b::bs)
def Al2.len {α β:Type}{R:α->β->Prop}{as:List α}{bs:List β}(h:Al2 R as bs):as.length=bs.length:=by
 induction h with
 |nil=>rfl
 |cons _ _ ih=>rw[j8,j8,ih]
theorem Al2.at {α β:Type}{R:α->β->Prop}{as:List α}{bs:List β}(h:Al2 R as bs):∀{j:Nat} {a:α},as[j]?=some a->∃b,bs[j]?=some b/\R a b:=by
 induction h with
 |nil=>intro j a e;simp at e
 |cons r _ ih=>
  intro j a e;cases j with
  |zero=>cases e;exact⟨_,rfl,r⟩
  |succ j=>exact ih (by simpa using e)
def DEq (K:bE4)(H:Hp):Nat->V->V->Prop
 |0,x,y=>iH x=true/\x=y
 |n+1,x,y=>(iH x=true/\x=y)\/∃a b xs ys,x=.ref a/\y=.ref b/\SqT K H a xs/\SqT K H b ys/\Al2 (DEq K H n) xs ys
def aCi {A:Around}{s:Shared}{x:V}{v u:Value}(h:iH x=true)(a:RelV x v)(c:RelV x u):SeqAt.EqAt A s v u true:=by
 cases x with
 |non=>cases a;cases c;exact bC1 _
 |bl b=>cases a;cases c;exact bC1 _
 |int i=>obtain⟨t,rfl⟩:=a;obtain⟨d,rfl⟩:=c;have z:=bEQ (A:=A) (s:=s) i t i d;simpa using z
 |str y=>obtain⟨t,rfl⟩:=a;obtain⟨d,rfl⟩:=c;have z:=bD1 (A:=A) (s:=s) y t y d;simpa using z
 |_=>cases h
section
variable {X:Cx}{bE8:bE6}{σ:L2.St}{H:Hp}{s:Shared}
def aKl (I:Inv X bE8 σ H s){n:Nat}{A:Around}{xs ys:List V}{its jts:List Value}(e:Vals xs its)(k:Vals ys jts)(h:Al2 (DEq X.K H n) xs ys)
  (q:∀{x y v u},DEq X.K H n x y->RelV x v->RelV y u->SeqAt.EqAt A s v u true):∀(j:Nat) (h1:j<its.toArray.size) (h2:j<jts.toArray.size),SeqAt.EqAt A s its.toArray[j] jts.toArray[j] ((λ_=>true) j):=λj h1 h2=>by
 have r:=e.length;have a:j<xs.length:=by rw[j6] at h1;lia
 obtain⟨y,o,d⟩:=h.at (b8 a);obtain⟨p,c,m⟩:=e.get (b8 a);obtain⟨i,b,g⟩:=k.get o;have l:its.toArray[j]=p:=by rw[bDS];exact (List.getElem?_eq_some_iff.mp c).2
 have f:jts.toArray[j]=i:=by rw[bDS];exact (List.getElem?_eq_some_iff.mp b).2
 rw[l,f];exact q d m g
def tE (n:Nat):(List.range n).all (λ_=>true)=true:=by rw[bCM];intro _ _;rfl
theorem aC8 (I:Inv X bE8 σ H s):∀(n:Nat) {A:Around} {x y:V} {v u:Value},DEq X.K H n x y->RelV x v->RelV y u->A.units+n<cLine->SeqAt.EqAt A s v u true
 |0,A,x,y,v,u,h,rv,ru,_=>by obtain⟨h,rfl⟩:=h;exact aCi h rv ru
 |n+1,A,x,y,v,u,h,rv,ru,hu=>by
  rcases h with⟨h,rfl⟩|⟨a,b,xs,ys,rfl,rfl,ha,hb,h⟩
  ·exact aCi h rv ru
  cases rv;cases ru;by_cases e:a=b
  ·subst e;exact bC1 _
  obtain⟨f,i,k,q⟩:=I.tuple ha;obtain⟨c,g,o,p⟩:=I.tuple hb;refine SeqAt.EqAt.of_refs e ?_;have z:=SeqAt.RcAt.tuples (A:=A) (e:=λ_=>true) (show s.heap.IsTuple a f.toArray from k) (show s.heap.IsTuple b c.toArray from o) (by lia) (aKl I i g h λd j m=>aC8 I n d j m (by show A.units+1+n<cLine;lia));have l:(f.toArray.size == c.toArray.size)=true:=by rw[j6,j6];have:=i.length;have:=g.length;have:=h.len;simp;lia
  rw[tE,l] at z;exact z
end
section
variable {X:Cx}
def bAg:R2:=λx y H Q=>(∃a b,x=.int a/\y=.int b/\Q (.bl (decide (a<b))) H)\/∃a b:Str,x=.str a/\y=.str b/\Q (.bl (decide (a.cps.toList<b.cps.toList))) H
def aY4:OpR X (compareOp .Lt) bAg:=by
 intro e s σ H x y v u Q I d c h;rcases h with⟨a,b,rfl,rfl,q⟩|⟨a,b,rfl,rfl,q⟩
 ·obtain⟨t,rfl⟩:=d;obtain⟨f,rfl⟩:=c;exact lt_int ⟨.bl _,H,I,rfl,q⟩
 ·obtain⟨t,rfl⟩:=d;obtain⟨f,rfl⟩:=c;exact lt_str ⟨.bl _,H,I,rfl,q⟩
def aV8 (K:bE4):V->List V->Hp->VK->Prop:=λx vs H Q=>∃(l:Addr) (ss:List Str) (n:Str) (i:Nat),x=.ref l/\vs=[.str n]/\SqL K H l (ss.map V.str)/\ss.length<=1000/\ss[i]?=some n/\(∀(j:Nat) (m:Str),j<i->ss[j]?=some m->m≠n)/\Q (.int (i:Nat)) H
def aJp (n:Str):Value->Bool
 |.str x _=>x == n
 |_=>false
def aNn:MtR X "list.index" (aV8 X.K):=by
 intro N s σ H x vs v us Q I S L h;obtain⟨l,k,n,i,rfl,rfl,M,p,G,o,q⟩:=h;cases S;obtain⟨u,rfl,O⟩:=L.one;obtain⟨t,rfl⟩:=O;obtain⟨a,r,R,hz⟩:=I.list M;have W:=r.length;rw[j0] at W;obtain⟨⟨T,Y,E,P⟩,C,D,U,J⟩:=id R.isList;simp only at D J;subst D J;have a0:=(List.getElem?_eq_some_iff.mp G).1;have c:∀{j:Nat} (e:j<a.length),∃m b,k[j]?=some m/\a[j]=.str m b:=λ{j} e=>by
  have d:j<k.length:=by lia
  obtain⟨w,Z,z⟩:=r.get (show (k.map V.str)[j]?=some (.str k[j]) by rw[m5,b8 d];rfl);obtain⟨b,rfl⟩:=z;exact⟨k[j],b,b8 d,(List.getElem?_eq_some_iff.mp Z).2⟩
 refine call_meets PySem.F.slot_list_index ⟨_,C,rfl⟩ PySem.F.entry_list_index (PySem.F.args_list_index_2 _ _)
  (SeqAt.list_indexAt l a.toArray U Y P (.str n t) (aJp n) i (by rw[j6];lia) (by lia) ?_ ?_) ⟨C,λy A=>?_,⟨.int _,H,I.tok _,⟨_,rfl⟩,q⟩⟩
 ·obtain⟨m,b,g,f⟩:=c (j:=i) (by lia);rw[G] at g;cases g;show aJp n a[i]=true;rw[f];show (n == n)=true;simp
 ·intro j e B;obtain⟨m,b,g,f⟩:=c (j:=j) (by simpa using e);show aJp n a[j]=false;rw[f];have:=o j m B g;show (m == n)=false;simpa using this
 ·have A:y∈a:=by simpa using A
  obtain⟨j,e,rfl⟩:=bCV A;obtain⟨m,b,g,f⟩:=c (j:=j) e;rw[f];exact bD1 m b n t
end
section
variable {prog:Program}{w:World}{A:Around}{E:bE5}{s:Shared}
end
section
variable {X:Cx}
end
end L2
namespace HT
open PySem PySem.Spec PyProof.Rows L2
section
variable {prog:Program}{w:World}{A:Around}{E:bE5}{s:Shared}
def pI {t F:Addr}{a:Array Value}{vl vu:Value}{j v:Option Int}{Q:bE5}(c:IsTup s.heap t a)(z:s.heap.IsSliceOf F vl vu .none)(pl:IsPart vl j)(D:IsPart vu v)
  (x:sIx a.size 0 j=0/\sIx a.size a.size v=a.size) (h:Q (.ref t) s):wpAny (model prog w) A (getItem (.ref t) (.ref F)) Q E s:=by
 obtain⟨o,e,f,y⟩:=id z;have i:s.TypeIs (.ref F) "slice":=⟨o,e,f⟩;obtain⟨⟨p,C,l,u⟩,q,k,n,m⟩:=id c;simp only at k m;subst k m;unfold getItem
 try with_reducible refine bAP ?_
 first|refine b7 (d8 ?_)|skip
 refine b7 (wpAny_sequenceKey c.typeIs (by decide) ?_);refine b7 (bAI (name:=Str.ofString "__getitem__") c.typeIs bCH
  (bAH bCH c.typeIs entry_tuple_getitem ?_ (args_tuple_getitem _ _)))
 show wpAny _ _ (Builtin.Tuple.tupleItemsOf (.ref t) >>= _) _ _ s;refine b7 (tupleItemsOf_ c ?_);refine b7 (bEN i ?_);rw[if_pos (by decide)];refine b7 (kI z pl D ?_);have b:((((sIx a.size 0 j:Nat):Int) == 0 && (1:Int) == 1 && (sIx a.size a.size v - sIx a.size 0 j) == a.size)=true):=by rw[x.1,x.2];simp
 show wpAny _ _ (if (((sIx a.size 0 j:Nat):Int) == 0 && (1:Int) == 1 && (sIx a.size a.size v - sIx a.size 0 j) == a.size)=true then _ else _) _ _ s;rw[if_pos b];obtain⟨G,g,d,B,r⟩:=s;wp_walk using AutoSeq1.wpAny_loadPart' q;exact⟨_,rfl,d8 h⟩
end
end HT
namespace L2
open PySem PySem.Spec PyProof.Rows
def bB9 (K:bE4):V->Option Int->Option Int->Hp->VK->Prop:=λx lo hi H Q=>∃a xs,x=.ref a/\SqT K H a xs/\∀p H',Same H H'->SqT K H' p (uZ xs lo hi)->Q (.ref p) H'
def aVr {X:Cx}:SlR X (bB9 X.K):=by
 intro f s σ H x v u w g j y Q I t n o l h;obtain⟨a,b,rfl,k,q⟩:=h;by_cases d:HT.sIx b.length 0 g=0/\HT.sIx b.length b.length j=b.length
 ·cases t;obtain⟨i,r,m,C⟩:=I.tuple k;have c:i.toArray.size=b.length:=by rw[j6];exact r.length.symm
  refine⟨"tuple",_,PyProof.Rows.slot_tuple_getitem.lookup,m.typeIs,?_⟩;refine HT.pI m n o l (by rw[c];exact d) ⟨.ref a,H,I,rfl,q a H (Same.refl H) ?_⟩;have e:uZ b g j=b:=by unfold uZ;rw[d.1,d.2,List.drop_zero,Nat.sub_zero,bDU]
  rw[e];exact k
 ·exact aVd f s σ H _ v u w g j y Q I t n o l ⟨a,b,rfl,k,d,λp z A B=>q p z A (SqT.of B)⟩
section
variable {X:Cx}
def aX3:List V->Hp->VK->Prop:=λxs H Q=>∃d kvs,xs=[.ref d]/\H d=some (.dK kvs)/\∀p H',H p=none->Same H H'->H' p=some (.dK kvs)->Q (.ref p) H'
def aJc:bR X (.type "dict") aX3:=by
 intro l s σ H x w Q I r h;obtain⟨d,f,rfl,n,q⟩:=h;obtain⟨u,rfl,p⟩:=vals1 r;cases p;obtain⟨z,t,j,a,m⟩:=vU I.hok n;have k:j.length<=sizeLine:=by have:=Paired.length a;lia
 refine kt_call_dict t m k λv g c=>?_;have i:H s.heap.objs.size=none:=I.hok.fresh (j5 _);refine⟨.ref s.heap.objs.size,_,I.laid (t':=s.toks) (o:=.dK f) (λb o e=>c.extBut b o (v6 (j7 e)) (d7 _ e)) (j5 _) ?_,rfl,q _ _ i (aR i _) aH⟩;exact⟨z,beq_eq_false_iff_ne.mpr (Ne.symm (v6 I.big)),j,a,g⟩
def aHr {κ:Type}[DecidableEq κ]{c:List (κ × Value)}(a:(c.map (·.1)).Nodup){k:κ}{v:Value}(h:(k,v)∈c):valueAt c k=some v:=by
 induction c with
 |nil=>cases h
 |cons x r ih=>
  rw[bAC,bDL] at a;unfold valueAt;rw[bCB];rcases List.mem_cons.mp h with e|h
  ·subst e;rw[m8 rfl];rfl
  ·have b:¬ x.1=k:=λz=>a.1 (by rw[z];exact List.mem_map.mpr ⟨_,h,rfl⟩);rw[m9 b];exact ih a.2 h
end
inductive PH (P:Program)(w:World):List DictEntry->List (Str × Value)->Prop
 |nil:PH P w [] []
 |cons {e:DictEntry} {kv:Str × Value} {es:List DictEntry} {kvs:List (Str × Value)}:(strKind P w).is kv.1 e.key=true->e.hash=(strKind P w).hash kv.1->e.val=kv.2->PH P w es kvs->PH P w (e::es) (kv::kvs)
end L2
namespace PySem
def xJ:typeLookup (.type "tuple") "keys"=pure none:=am_miss_of_fast (by trivial)
def zH:typeLookup (.type "list") "keys"=pure none:=am_miss_of_fast (by trivial)
def sqN:Bool->String
 |true=>"list"
 |false=>"tuple"
section
variable {prog:Program}{w:World}{A:Around}{E:bE5}{s:Shared}
def aE0 {a:Addr}{o:Obj}{xs:Array Value}{k:Nat}{Q:Option Value->Shared->Prop}(q:s.heap.get? a=some o)(p:o.cls=.type "tuple")(j:o.data=.seq xs k)(hd:o.dict=none)(B:A.handled=none)
  (h:∀h' tk,(∀b u,s.heap.get? b=some u->h'.get? b=some u)->Q none { s with heap:=h',toks:=tk }):wpAny (model prog w) A (getAttr? (.ref a) "keys") Q E s:=by
 obtain⟨c,n,r,t⟩:=o;simp only at p j hd;subst p j hd;obtain⟨v,g,d,tk,m⟩:=s;have l:∀i,(⟨v,g,d,i,m⟩:Shared).TypeIs (.ref a) "tuple":=λ_=>⟨_,q,rfl⟩;have z:=sub_AttributeError;have C:=F.slot_tuple_getattribute.lookup;have D:=F.slot_tuple_getattribute.bind (.ref a);have y:=am_tuple_getattr_none;unfold getAttr? getAttrBy? getAttrBy
 repeat (any_goals (first|assumption|exact l _|((with_reducible show wpAny _ _ (call (Value.builtin "tuple.__getattribute__") _ _) _ _ _);refine call_meets F.slot_tuple_getattribute (l _) am_entry_tuple_getattribute (F.args_tuple_getattribute_2 _ _) (meets_getattribute_miss_tuple a xs k t "keys" _ xJ (by trivial) (by size_fits)) ⟨q,B,λh' i e f=>?_⟩)|wp_step))
 obtain⟨H,x,G⟩:=f.there;show wpAny _ _ (getattributeRaised _ _ _ _ _ _ _) _ _ _;unfold getattributeRaised
 repeat (any_goals (first|assumption|wp_step))
 exact h _ _ f.keeps
def aGd {a:Addr}{o:Obj}{xs:Array Value}{k:Nat}{Q:Option Value->Shared->Prop}(q:s.heap.get? a=some o)(p:o.cls=.type "list")(j:o.data=.seq xs k)(hd:o.dict=none)(B:A.handled=none)
  (h:∀h' tk,(∀b u,s.heap.get? b=some u->h'.get? b=some u)->Q none { s with heap:=h',toks:=tk }):wpAny (model prog w) A (getAttr? (.ref a) "keys") Q E s:=by
 obtain⟨c,n,r,t⟩:=o;simp only at p j hd;subst p j hd;obtain⟨v,g,d,tk,m⟩:=s;have l:∀i,(⟨v,g,d,i,m⟩:Shared).TypeIs (.ref a) "list":=λ_=>⟨_,q,rfl⟩;have z:=sub_AttributeError;have C:=F.slot_list_getattribute.lookup;have D:=F.slot_list_getattribute.bind (.ref a);have y:=am_list_getattr_none;unfold getAttr? getAttrBy? getAttrBy
 repeat (any_goals (first|assumption|exact l _|((with_reducible show wpAny _ _ (call (Value.builtin "list.__getattribute__") _ _) _ _ _);refine call_meets F.slot_list_getattribute (l _) am_entry_list_getattribute (F.args_list_getattribute_2 _ _) (meets_getattribute_miss_list a xs k t "keys" _ zH (by trivial) (by size_fits)) ⟨q,B,λh' i e f=>?_⟩)|wp_step))
 obtain⟨H,x,G⟩:=f.there;show wpAny _ _ (getattributeRaised _ _ _ _ _ _ _) _ _ _;unfold getattributeRaised
 repeat (any_goals (first|assumption|wp_step))
 exact h _ _ f.keeps
def aO7 {L:Bool}{a:Addr}{o:Obj}{xs:Array Value}{k:Nat}{Q:Option Value->Shared->Prop}(f:s.heap.get? a=some o)(e:o.cls=.type (sqN L))(c:o.data=.seq xs k)(hd:o.dict=none)(d:A.handled=none)
  (h:∀h' tk,(∀b u,s.heap.get? b=some u->h'.get? b=some u)->Q none { s with heap:=h',toks:=tk }):wpAny (model prog w) A (getAttr? (.ref a) "keys") Q E s:=by
 cases L
 ·exact aE0 f e c hd d h
 ·exact aGd f e c hd d h
end
def fM:entryFor table "dict.update.loop"=some Builtin.«dict.update.loop»:=entryFor_of_tree (by kernel_rfl)
def cI:plainId "dict.update.loop"=true:=by trivial
section
variable {prog:Program}{w:World}{κ:Type}[DecidableEq κ]{knd:KeyKind prog w κ}
def rE (knd:KeyKind prog w κ)(h:Heap)(v:Value)(kv:κ × Value):Prop:=∃p key,v=.ref p/\PyProof.Rows.IsTup h p #[key,kv.2]/\knd.is kv.1 key=true
def rE.at {h h':Heap}{v:Value}{kv:κ × Value}(x:rE knd h v kv)(k:∀p,v=.ref p->∀o,h.get? p=some o->h'.get? p=some o):rE knd h' v kv:=by obtain⟨p,a,rfl,⟨o,b,r⟩,c⟩:=x;exact⟨p,a,rfl,⟨o,k p rfl o b,r⟩,c⟩
def xG {A:Around}{R:Result->Shared->Prop}{I:Addr}{fp wr:List Addr}{n:Nat}{P:Nat->Value->Prop}{St:Nat->Heap->Prop}(W:Walks prog w A.in1 I fp wr n P St)(D:Addr)(hD:D∉fp)
  (kvs:List (κ × Value)) (a0:kvs.length=n) (hb:n<=1000) (hP:∀i v,P i v->∀p,v=.ref p->p∉D::wr) :
  ∀(k i:Nat) (s:Shared) (t:Tok),i+k=n->St i s.heap->s.heap.DictOf knd D (merged [] (kvs.take i))->(∀j v kv,P j v->kvs[j]?=some kv->rE knd s.heap v kv) ->
   (∀h' tk,(∀b o,b∉D::wr->s.heap.get? b=some o->h'.get? b=some o)->h'.DictOf knd D (merged [] kvs)->R (.ok (.ret .none)) { s with heap:=h',toks:=tk }) ->
   codeAny (model prog w) A (.builtin "dict.update.loop" ⟨[.ref D,.ref I,.int (i:Nat) t,.none],[]⟩) R s:=by
 have F:D∉wr:=λq=>hD (W.sub _ q);intro k
 induction k with
 |zero=>
  intro i s t hi Z J hp q;obtain rfl:i=n:=by lia
  refine bBT fM ?_;rw[bBI cI _];show wpAny _ A.in1 (pyNext (.ref I) >>= _) _ _ _;refine b7 (W.done s _ _ Z λh' tk H=>?_);show wpAny _ _ (Builtin.Dict.addKeywords D [] >>= _) _ _ _;refine b7 (d8 (d8 (q h' tk (λb o l e=>H b o (λz=>l (j9 _ z)) e) ?_)));rw[bBF (Nat.le_of_eq a0)] at J;exact J.at λo e=>H D o F e
 |succ k ih=>
  intro i s t hi Z J hp q;refine bBT fM ?_;rw[bBI cI _];show wpAny _ A.in1 (pyNext (.ref I) >>= _) _ _ _;refine b7 (W.item i s _ _ (by lia) Z λv c a hv X u=>?_);have T:i<kvs.length:=by lia
  have C:=b8 T;have V:c.DictOf knd D (merged [] (kvs.take i)):=J.at λo e=>u D o F e;have B:∀j v kv,P j v->kvs[j]?=some kv->rE knd c v kv:=λj v kv y e=>(hp j v kv y e).at λp O o Y=>u p o (λz=>hP j v y p O (j9 _ z)) Y;obtain⟨p,r,rfl,⟨⟨oc,od,ox,a1⟩,ho,hc,m,hx⟩,hk⟩:=B i v _ hv C;simp only at hc hx;subst hc hx;have N:(merged [] (kvs.take i)).length<=i:=by have:=merged_length_le [] (kvs.take i);rw[bAT] at this;simp only[bBN] at this;lia
  obtain⟨U,g,d,tk,x⟩:=s;have hT:(⟨c,g,d,a,x⟩:Shared).TypeIs (.ref p) "tuple":=⟨_,ho,rfl⟩;have S:∀(Q:List Value->Shared->Prop) (E:bE5),Q [r,kvs[i].2] ⟨c,g,d,a,x⟩->wpAny (model prog w) A.in1 (Builtin.Dict.pairItems (.ref p)) Q E ⟨c,g,d,a,x⟩:=by intro Q E h;unfold Builtin.Dict.pairItems;wp_walk;exact h
  show wpAny _ A.in1 (holding [.ref p] _ >>= _) _ _ ⟨c,g,d,a,x⟩;refine b7 (bAP (b7 (wpAny_tryCatch (S _ _ ?_))));show wpAny _ A.in1 (holding [r,kvs[i].2] (dictSet D r kvs[i].2)) _ _ ⟨c,g,d,a,x⟩;refine bAP (wpAny_dictSet_pairs (s:=⟨c,g,d,a,x⟩) hk V (λh2 G f=>?_) (bAJ N (bAJ (by lia) (show 1000<=sizeLine by decide))));have e1:merged [] (kvs.take (i+1))=stored (merged [] (kvs.take i)) kvs[i].1 kvs[i].2:=merged_take_succ [] kvs i _ C;rw[<-e1] at G;refine d8 ⟨bCY cI _,?_⟩;have L:∀b o,b∉D::wr->U.get? b=some o->h2.get? b=some o:=λb o l e=>by rw[f.2 b (λz=>l (by rw[z];exact v4))];exact u b o (λz=>l (j9 _ z)) e
  refine ih (i+1) _ _ (by lia) (W.frame _ _ _ X λb hb o e=>?_) G (λj v kv y e=>(B j v kv y e).at λp' O o Y=>?_) λh' K H M=>q h' K (λb o l e=>H b o l (L b o l e)) M
  ·rw[f.2 b (λz=>hD (by rw[<-z];exact hb))];exact e
  ·rw[f.2 p' (λz=>hP j v y p' O (by rw[z];exact v4))];exact Y
end
section
variable {prog:Program}{w:World}{κ:Type}[DecidableEq κ]{knd:KeyKind prog w κ}{A:Around}{E:bE5}{s:Shared}
def aUu (L:Bool){g:Heap}{t n:Nat}{o:Obj}{its:Array Value}(d:g.get? t=some o)(f:o.cls=.type (sqN L))(h:o.data=.seq its n)(c:A.handled=none)(b:t≠g.objs.size) :
  ∃(io:Obj) (St:Nat->Heap->Prop),Walks prog w A g.objs.size [g.objs.size,t] [g.objs.size] its.size (λi v=>its[i]?=some v) St/\St 0 (g.push io)/\∀s:Shared,s.heap=g->∀(Q:bE5) (E:bE5),Q (.ref g.objs.size) { s with heap:=g.push io }->wpAny (model prog w) A (pyIter (.ref t)) Q E s:=by
 cases L
 ·have a:g.IsTuple t its:=⟨o,d,f,n,h⟩;exact⟨_,_,Walks.tuple c _ t b its,⟨⟨_,j4 _ rfl,rfl,rfl⟩,a.push _⟩,λs e Q E q=>by subst e;exact bD0 a q⟩
 ·have a:g.IsList t its:=⟨o,d,f,n,h⟩;exact⟨_,_,Walks.list c _ t b its,⟨⟨_,j4 _ rfl,rfl,rfl⟩,a.push _⟩,λs e Q E q=>by subst e;exact bCS a q⟩
def aFb (L:Bool){t n:Nat}{its:Array Value}{kvs:List (κ × Value)}{o:Obj}{Q:bE5}(l:A.handled=none)(I:s.heap.get? t=some o)(C:o.cls=.type (sqN L))(P:o.data=.seq its n)(R:o.dict=none)(g:kvs.length=its.size)(Y:its.size<=1000)
  (V:∀(j:Nat) (v:Value) (kv:κ × Value),its[j]?=some v->kvs[j]?=some kv->rE knd s.heap v kv)
  (q:∀h' tk,h'.DictOf knd s.heap.objs.size (merged [] kvs)->(∀b o,s.heap.get? b=some o->h'.get? b=some o)->Q (.ref s.heap.objs.size) { s with heap:=h',toks:=tk }) :
  wpAny (model prog w) A (call (.type "dict") [.ref t]) Q E s:=by
 refine callType_codes (Q₁:=λh B=>h=.ref s.heap.objs.size/\B={ s with heap:=s.heap.push { cls:=.type "dict",data:=.dict #[] } }) F.kt_called_dict (F.kt_typeCall_dict_1 _) F.entry_dict_init (kt_code_dict_new _ ⟨rfl,rfl⟩) ?_;rintro h B ⟨rfl,rfl⟩;have a:(s.heap.push { cls:=.type "dict",data:=.dict #[] }).DictOf knd s.heap.objs.size []:=Heap.DictOf.new s.heap;have f:(s.heap.push { cls:=.type "dict",data:=.dict #[] }).get? t=some o:=d7 _ I;have U:Shared.TypeIs { s with heap:=s.heap.push { cls:=.type "dict",data:=.dict #[] } } (.ref t) (sqN L):=⟨o,f,C⟩;have k:t<s.heap.objs.size:=j7 I;refine⟨a.typeIs,F.args_dict_init_2 _ _,?_⟩;unfold Builtin.«dict.__init__»;refine b7 ?_;unfold Builtin.Dict.selfAndRest;refine b7 (wpAny_notOrdered_dict a.typeIs ?_);show wpAny _ _ (pure (s.heap.objs.size,[Value.ref t])) _ _ _;refine d8 ?_;show wpAny _ _ (Builtin.Dict.updateFrom "dict.__init__" s.heap.objs.size (.ref t) [] .none) _ _ _;unfold Builtin.Dict.updateFrom;refine b7 (bEN U ?_);rw[if_pos (by cases L <;> decide)];refine b7 (aO7 (L:=L) f C P R (by first|exact l|simp[l]) λy T c=>?_);rw[if_pos (show (none:Option Value).isNone=true from rfl)];have m:y.get? t=some o:=c _ _ f;have S:(s.heap.push { cls:=.type "dict",data:=.dict #[] }).objs.size=s.heap.objs.size+1:=bBL ..;have d:s.heap.objs.size<y.objs.size:=by obtain⟨X,_,_,G,_⟩:=id a;exact j7 (c _ _ G)
 have u:t≠y.objs.size:=v6 (bD3 k d);obtain⟨Z,St,W,z,J⟩:=aUu (prog:=prog) (w:=w) (A:=A.in1.in1) L m C P (by first|exact l|simp[l]) u;refine b7 (bCU (b7 (J _ rfl _ _ ?_)));refine d8 ⟨bCY cI _,?_⟩;refine xG (knd:=knd) W s.heap.objs.size ?_ kvs g Y ?_ its.size 0 _ _ (by lia) z ?_ ?_ λh' tk K r=>?_
 ·simp only[bAE,v8,or_false,not_or];exact⟨v6 d,bCP k⟩
 ·intro j v e p M;have O:j<kvs.length:=by rw[g];exact (Array.getElem?_eq_some_iff.mp e).1
  obtain⟨p',H,i,⟨o',x,_⟩,_⟩:=V j v _ e (b8 O);rw[M] at i;cases i;have:=j7 x;simp only[bAE,v8,or_false,not_or];exact⟨v6 this,v6 (bD3 this d)⟩
 ·exact (a.at λo e=>c _ _ e).at λo e=>d7 _ e
 ·intro j v kv e D;exact (V j v kv e D).at λp _ o N=>d7 _ (c _ _ (d7 _ N))
 ·refine⟨rfl,q h' tk r λb o e=>K b o ?_ (d7 _ (c _ _ (d7 _ e)))⟩;have:=j7 e;simp only[bAE,v8,or_false,not_or];exact⟨v6 this,v6 (bD3 this d)⟩
end
open PySem.Calls PyProof.Rows
section
variable {prog:Program}{w:World}{κ:Type}[DecidableEq κ]{knd:PySem.KeyKind prog w κ}{A:Around}{E:bE5}{s:Shared}
end
end PySem
namespace L2
open PySem PySem.Spec PyProof.Rows
section
variable {X:Cx}
abbrev aTj (K:bE4)(H:Hp):List V->List (Key × V)->Prop:=Paired λu kv=>∃p,u=.ref p/\SqT K H p [kV kv.1,kv.2]
def aZl {bE8:bE6}{σ:L2.St}{H:Hp}{s:Shared}(I:Inv X bE8 σ H s){us:List V}{kvs:List (Key × V)}(h:aTj X.K H us kvs):∀{its:List Value},Vals us its ->
  ∃vs:List (Key × Value),KV kvs vs/\vs.length=its.length/\∀(j:Nat) (v:Value) (kv:Key × Value),its[j]?=some v->vs[j]?=some kv->rE (bH X.prog X.w) s.heap v kv:=by
 induction h with
 |nil=>intro its c;cases c;exact⟨[],.nil,rfl,λj v kv e _=>by simp at e⟩
 |@cons u kv us kvs r t ih=>
  intro its c;cases c with
  |cons q z=>
   obtain⟨p,rfl,o⟩:=r;cases q;obtain⟨x,f,g,y⟩:=I.tuple o;obtain⟨vs,n,k,l⟩:=ih z;obtain⟨b,val,rfl,m,i⟩:=vals2 f;refine⟨(kv.1,val)::vs,.cons ⟨rfl,i⟩ n,by rw[j8,j8,k],λj v a e d=>?_⟩;cases j with
   |zero=>cases e;cases d;exact⟨p,b,rfl,g,aC3 m⟩
   |succ j=>exact l j v a (by simpa using e) (by simpa using d)
theorem aAr:∀(kvs acc:List (Key × V)),((acc++kvs).map (·.1)).Nodup->jO acc kvs=acc++kvs
 |[],acc,_=>by simp[jO]
 |kv::r,acc,h=>by
  have a:jY acc kv.1=none:=by
   cases e:jY acc kv.1 with
   |none=>rfl
   |some v=>exfalso;have:=aUl e;rw[bBU,List.nodup_append] at h;exact h.2.2 _ this _ (by rw[bAC];exact v4 ..) rfl
  show jO (putK acc kv.1 kv.2) r=_;rw[yX _ a,aAr r _ (by rw[bDO];exact h),bDO];rfl
end
section
variable {X:Cx}{bE8:bE6}{σ:L2.St}{H:Hp}{s:Shared}{d:Addr}{o:Obj}{kvs:List (Key × V)}
def aV5 {u i:HO}(k:HOk X.prog X.w H s.heap)(hd:H d=some u)(j:∀xs,u≠.tup xs)(l:∀a,u≠.own a)(h:cM X.prog X.w H s.heap d i):HOk X.prog X.w (upd H d i) s.heap:=by
 have f:∀{b v},cM X.prog X.w H s.heap b v->cM X.prog X.w (upd H d i) s.heap b v:=λ{b v} z=>z.stay (λ_ _ _ q=>q) (λc q=>by
  rw[aJ (λe=>by subst e;rw[hd] at q;exact l _ (bAQ q))];exact q) λc xs q=>by
  rw[aJ (λe=>by subst e;rw[hd] at q;exact j _ (bAQ q))];exact q
 intro b v e;by_cases g:b=d
 ·subst g;rw[aH] at e;cases e;exact f h
 ·rw[aJ g] at e;exact f (k b v e)
def Inv.setd {u r:HO}(I:Inv X bE8 σ H s)(hd:H d=some u)(i:∀xs,u≠.tup xs)(A:∀a,u≠.own a)(t:∀ps,u≠.tbl ps)(y:∀ob v,X.H₀ d≠some (.frz ob v))(h:cM X.prog X.w H s.heap d r):Inv X bE8 σ (upd H d r) s:=by
 have g:∀{b},H b=none->upd H d r b=none:=λ{b} e=>by rw[aJ (λz=>by subst z;rw[hd] at e;cases e)];exact e
 refine⟨I.ok,I.os,I.bare,⟨I.base.keep,I.base.slot,λb ob e n l=>g (I.base.free b ob e n l),I.base.there,λb xs e=>?_,λb ob v e=>?_,λb ps e=>?_⟩,I.loc,I.cell,g I.free,λx c e=>g (I.freeC x c e),λp o=>?_,aV5 I.hok hd i A h,I.len⟩
 ·have q:=I.base.tups b xs e;rw[aJ (λz=>by subst z;rw[hd] at q;exact i _ (bAQ q))];exact q
 ·have q:=I.base.frzs b ob v e;rw[aJ (λz=>by subst z;exact y _ _ e)];exact q
 ·obtain⟨f,q⟩:=I.base.tbls b ps e;refine⟨f,?_⟩;rw[aJ (λz=>by subst z;rw[hd] at q;exact t _ (bAQ q))];exact q
 ·obtain⟨m,j,k⟩:=I.pin p o;exact⟨m,g j,k⟩
end
def aNb {P:Program}{w:World}{H:Hp}{h:Heap}{d:Addr}{o:Obj}{kvs:List (Key × V)}{es:Array DictEntry}{ep:Nat}(a:o.data=.dict es ep)(m:cM P w H h d (.frz o (.dK kvs))):∃vs,KV kvs vs/\h.DictAt (bH P w) d vs ep:=by obtain⟨e,_,_,vs,b,⟨l,g,j,c,k,f,i⟩⟩:=m;rw[e] at c;cases c;rw[a] at f;cases f;exact⟨vs,b,o,es,e,k,a,i⟩
section
variable {X:Cx}{tg:Expr}
def bBn (d:Addr)(kvs:List (Key × V))(D:Ends):Ends:={ nx:=fun σ H=>(∃o,H d=some (.frz o (.dK kvs)))/\D.nx σ (upd H d (.dK kvs)),rt:=λv H=>(∃o,H d=some (.frz o (.dK kvs)))/\D.rt v (upd H d (.dK kvs)) }
def bA4 (X:Cx)(t:TS):TS:=λD σ H=>∃d kvs,H d=some (.dK kvs)/\((∀ob u,X.H₀ d≠some (.frz ob u))->t (bBn d kvs D) σ H)
def aUx {st:Stmt}{t:TS}(h:VS X st t):VS X st (bA4 X t):=⟨by
 intro b s σ H D I ⟨d,k,x,q⟩;have w:∀p u,X.H₀ d≠some (.frz p u):=λp u e=>by have:=I.base.frzs d p u e;rw[x] at this;cases this
 have a:∀{c j l o},Inv X b c j l->j d=some (.frz o (.dK k))->Inv X b c (upd j d (.dK k)) l:=λ{c j l o} i g=>i.setd g (λ_ z=>by cases z) (λ_ z=>by cases z) (λ_ z=>by cases z) w (i.hok d _ g).2;refine thn (h.1 b s σ H _ I (q w)) λf l m=>?_;cases f with
 |next=>obtain⟨c,j,i,⟨o,g⟩,n⟩:=m;exact⟨c,_,a i g,n⟩
 |brk=>obtain⟨_,_,_,z⟩:=m;exact z.elim
 |cont=>obtain⟨_,_,_,z⟩:=m;exact z.elim
 |ret u=>obtain⟨v,c,j,i,r,⟨o,g⟩,n⟩:=m;exact⟨v,c,_,a i g,r,n⟩⟩
end
section
variable {X:Cx}{e st:Expr}{te ts:TE}{pos p2:Pos}
end
section
variable {X:Cx}{o i value:Expr}{td ty tv:TE}{pos pos':Pos}
def aFk (d:X.A.units+1<cLine)(a:VE X o td)(e:VE X i ty)(c:VE X value tv)(b:swapsWith value (some (.Subscript o i pos')) pos.line X.env=pure false:=by rfl):VS X (.Assign [.Subscript o i pos'] value pos) (aXa td ty tv):=⟨aWb d a.1 e.1 c.1 b⟩
end
def aRb {X:Cx}{pos:Pos}{o i:Expr}{to ti:TE}{t:aWp}(a:VE X o to)(d:VE X i ti)(b:aYl X t)
  (c:∀v,assign (.Subscript o i pos) X.env v=(do
   let ov <-holding [v] (eval o X.env)
   let iv <-holding [v,ov] (eval i X.env)
   standAt pos
   holding [v,ov,iv] (setItem ov iv v)
   release [v,ov,iv] []):=by intro _;rfl):VG X (.Subscript o i pos) (bBr to ti t):=⟨aYu a.1 d.1 b c⟩
def aG6 {X:Cx}:MtR X "list.reverse" aH4:=aK9
end L2
namespace PySem
section
variable {prog:Program}{w:World}{K:Type}[DecidableEq K]{knd:HeapKind prog w K}{A:Around}{E:bE5}{s:Shared}
end
end PySem
namespace L2
open PySem PySem.Spec PyProof.Rows
section
variable {X:Cx}
end
end L2
namespace PySem
section
variable {prog:Program}{w:World}{A:Around}{E:bE5}{s:Shared}
end
end PySem
namespace L2
open PySem PySem.Spec PyProof.Rows
section
variable {X:Cx}{tg:Expr}
end
end L2
namespace PySem
section
variable {prog:Program}{w:World}{A:Around}{E:bE5}{s:Shared}
def aVq {it d:Addr}{i ep:Nat}{od:Obj}{es:Array DictEntry}{y n:Value}{Q:Option Value->Shared->Prop}(r:IsItemIter s.heap it d i es.size ep y n)(N:s.heap.get? d=some od)(X:od.data=.dict es ep)(lt:i<es.size)
  (q:∀h',IsItemIterOut h' it d (i+1) es.size ep es[i].key es[i].val s.heap.objs.size->h'.get? s.heap.objs.size=some { cls:=.type "tuple",data:=.seq #[es[i].key,es[i].val] }->h'.objs.size=s.heap.objs.size+1 ->
   (∀b o,b≠it->s.heap.get? b=some o->h'.get? b=some o)->Q (some (.ref s.heap.objs.size)) { s with heap:=h' }):wpAny (model prog w) A (pyNext (.ref it)) Q E s:=by
 have k:s.TypeIs (.ref it) "dict_itemiterator":=⟨_,r,rfl⟩;have T:it<s.heap.objs.size:=j7 r;unfold pyNext;refine b7 (bBZ (bAI (name:="__next__") k F.slot_dict_itemiterator_next (bAH F.slot_dict_itemiterator_next k F.entry_dict_itemiterator_next (b7 (d8 (b7 (b7 ?_)))) (F.args_dict_itemiterator_next_1 _))));refine b7 (bCO k (d8 (b7 (bDT r rfl ?_))));rw[show Builtin.Dict_items.ownsTuple "dict_itemiterator"=true from by decide];simp only[if_true];have O:¬ ((Value.ref d == Value.none)=true):=m7;show wpAny _ _ (ite ((Value.ref d == Value.none)=true) _ _) _ _ _;rw[if_neg O];refine b7 (d8 (b7 (bE3 N X ?_)));rw[if_neg (by simp)];refine b7 (d8 (b7 (wpAny_dictEpoch N X ?_)));rw[if_neg (by simp)];have L:¬ ((i:Int)<0):=by lia
 refine d8 ?_;simp only[L,if_false,bAN,v5 lt];refine b7 (b7 (bCO k (d8 (b7 (bD5 k ?_)))));show wpAny _ _ (setField (.ref it) 3 (rawInt ((i:Int)+1)) >>= _) _ _ s;refine b7 (bAR r (by simp) λa W J=>?_);have I:IsItemIter a it d (i+1) es.size ep y n:=by
  have z:((i+1:Nat):Int)=(i:Int)+1:=by lia
  unfold IsItemIter;rw[z];simpa [rawInt] using W
 have g:Shared.TypeIs { s with heap:=a } (.ref it) "dict_itemiterator":=⟨_,I,rfl⟩;refine b7 (bAP (b7 (bD5 g (b7 (bD5 g ?_)))));have f:a.objs.size=s.heap.objs.size:=J.1;show wpAny _ _ (Builtin.Dict_items.pairFromOwner (.ref it) 6 es[i].key es[i].val) _ _ { s with heap:=a };unfold Builtin.Dict_items.pairFromOwner;refine b7 (bES ?_);have j:IsItemIter (a.push { cls:=.type "tuple",data:=.seq #[es[i].key,es[i].val] }) it d (i+1) es.size ep y n:=d7 _ I;have K:(a.push { cls:=.type "tuple",data:=.seq #[es[i].key,es[i].val] }).get? s.heap.objs.size=some { cls:=.type "tuple",data:=.seq #[es[i].key,es[i].val] }:=by rw[<-f];exact j4 _ rfl
 have m:(a.push { cls:=.type "tuple",data:=.seq #[es[i].key,es[i].val] }).objs.size=s.heap.objs.size+1:=by rw[bBL,f]
 have B:∀b o,b≠it->s.heap.get? b=some o->(a.push { cls:=.type "tuple",data:=.seq #[es[i].key,es[i].val] }).get? b=some o:=λb o c e=>d7 _ (J.extBut b o c e);rw[show ({ s with heap:=a }:Shared).heap.objs.size=s.heap.objs.size from f];show wpAny _ _ (Builtin.Dict_items.ownedTupleIsFree (.ref it) >>= _) _ _ { s with heap:=a.push { cls:=.type "tuple",data:=.seq #[es[i].key,es[i].val] } };generalize a.push { cls:=.type "tuple",data:=.seq #[es[i].key,es[i].val] }=h2 at j K m B ⊢;unfold Builtin.Dict_items.ownedTupleIsFree;refine b7 (b7 (bAM j rfl (x:=.none) rfl (d8 ?_)));simp only[if_true];refine b7 (bAM j rfl (x:=y) rfl (b7 (bAM j rfl (x:=n) rfl (b7 (bAR j (by simp) λt P v=>?_)))));have S:IsItemIter t it d (i+1) es.size ep es[i].key n:=P;refine b7 (bAR S (by simp) λu U C=>?_);have Y:IsItemIter u it d (i+1) es.size ep es[i].key es[i].val:=U;refine b7 (bAR Y (by simp) λp R G=>?_);have V:IsItemIterOut p it d (i+1) es.size ep es[i].key es[i].val s.heap.objs.size:=R;refine b7 (bAR V (by simp) λh M H=>?_);have Z:IsItemIterOut h it d (i+1) es.size ep es[i].key es[i].val s.heap.objs.size:=M;have D:∀b o,b≠it->h2.get? b=some o->h.get? b=some o:=λb o c e=>H.extBut b o c (G.extBut b o c (C.extBut b o c (v.extBut b o c e)));have l:h.objs.size=s.heap.objs.size+1:=by have a3:t.objs.size=h2.objs.size:=v.1;have a4:u.objs.size=t.objs.size:=C.1;have a5:p.objs.size=u.objs.size:=G.1;have a6:h.objs.size=p.objs.size:=H.1;lia
 exact b7 (bE1 (d8 (d8 ⟨_,rfl,d8 (q h Z (D _ _ (bCP T) K) l λb o c e=>D b o c (B b o c e))⟩)))
def aLd {it d:Addr}{ep:Nat}{od:Obj}{es:Array DictEntry}{k0 v0:Value}{Q:Option Value->Shared->Prop}(j:A.handled=none)(e:IsItemIter s.heap it d es.size es.size ep k0 v0)(g:s.heap.get? d=some od)(i:od.data=.dict es ep)
  (q:∀h',Heap.ExtBut it s.heap h'->Q none { s with heap:=h' }):wpAny (model prog w) A (pyNext (.ref it)) Q E s:=by
 have c:s.TypeIs (.ref it) "dict_itemiterator":=⟨_,e,rfl⟩;unfold pyNext;refine b7 (bBZ (bAI (name:="__next__") c F.slot_dict_itemiterator_next (bAH F.slot_dict_itemiterator_next c F.entry_dict_itemiterator_next (b7 (d8 (b7 (b7 ?_)))) (F.args_dict_itemiterator_next_1 _))));refine b7 (bCO c (d8 (b7 (bDT e rfl ?_))));rw[show Builtin.Dict_items.ownsTuple "dict_itemiterator"=true from by decide];simp only[if_true];have h:¬ ((Value.ref d == Value.none)=true):=m7;show wpAny _ _ (ite ((Value.ref d == Value.none)=true) _ _) _ _ _;rw[if_neg h];refine b7 (d8 (b7 (bE3 g i ?_)));rw[if_neg (by simp)];refine b7 (d8 (b7 (wpAny_dictEpoch g i ?_)));rw[if_neg (by simp)];have f:¬ ((es.size:Int)<0):=by lia
 refine d8 ?_;simp only[f,if_false,bAN,bBK (j5 es.size)];refine b7 (b7 (bCO c (d8 ?_)));show wpAny _ _ (setField (.ref it) 2 .none >>= _) _ _ s;refine b7 (bBY e rfl (by simp) ?_);show wpAny _ _ (newExc (.type "StopIteration") [] >>= _) _ _ _;refine b7 ?_;simp only[newExc,newTuple,raiseNew];refine b7 (bAF ?_ (by size_fits));refine b7 (m:=firstArgMember _ _) (bEH (a:=Value.none) (by simp only[firstArgMember];rfl) ?_);refine bAF (b7 (bEE ?_)) (by size_fits);rw[show A.in1.handled=none from j];refine b7 (d8 (bE0 ?_));refine b7 (bDA (T:="StopIteration") (b:=true) ⟨_,j4 _ rfl,rfl⟩ isSubtype_stop ?_);exact d8 (q _ (((bBQ ..).extBut.push _).push _))
def aI0 {d:Addr}{Q:bE5}(b:(d == sysModules)=false)(a:s.TypeIs (.ref d) "dict")
  (q:Q (.ref s.heap.objs.size) { s with heap:=s.heap.push { cls:=.type "dict_items",data:=.fields #[.ref d] } }):wpAny (model prog w) A (call (.builtin "dict.items") [.ref d]) Q E s:=by
 refine bAH F.slot_dict_items a F.entry_dict_items ?_ (F.args_dict_items_1 _);unfold Builtin.«dict.items» Builtin.Dict.noArgs;refine b7 (b7 (wpAny_notOrdered_dict a ?_));show wpAny _ _ (pure d) _ _ s;refine d8 ?_;show wpAny _ _ (Builtin.Dict.showsAll d >>= _) _ _ _;unfold Builtin.Dict.showsAll;rw[if_neg (show ¬ (d == sysModules)=true by rw[b];exact m7)];exact b7 (d8 (b7 (bAF (d8 ⟨_,rfl,q⟩))))
def wC {v d:Addr}{ep:Nat}{od:Obj}{es:Array DictEntry}{Q:bE5}(a:s.heap.IsItemsView v d)(c:s.heap.get? d=some od)(e:od.data=.dict es ep)
  (q:Q (.ref s.heap.objs.size) { s with heap:=s.heap.push { cls:=.type "dict_itemiterator",data:=.fields #[.none,.bool false,.ref d,.int 0 0,.int es.size 0,.int ep 0,.none,.none] } }):wpAny (model prog w) A (pyIter (.ref v)) Q E s:=by
 obtain⟨g,f,h,b⟩:=id a;refine bD6 a.typeIs F.slot_dict_items_iter (bAH F.slot_dict_items_iter a.typeIs F.entry_dict_items_iter ?_ (F.args_dict_items_iter_1 _));unfold Builtin.«dict_items.__iter__» Builtin.Dict_items.dictOf;refine b7 (d8 (b7 (b7 (bAM f b (x:=.ref d) rfl (d8 ?_)))));refine b7 ?_;unfold Builtin.Dict_items.newIterator;refine b7 (bE3 c e (b7 (wpAny_dictEpoch c e ?_)));rw[show Builtin.Dict_items.ownsTuple "dict_itemiterator"=true from by decide];simp only[if_true];refine bAF (d8 ⟨_,rfl,"dict_itemiterator",_,⟨_,j4 _ rfl,rfl⟩,F.slot_dict_itemiterator_next.lookup,?_⟩) (by simp only[sizeOk,Builtin.Dict_items.ownedTupleFields,j6,bAD,j8,bBN,sizeLine_eq];lia);simpa [rawInt,Builtin.Dict_items.ownedTupleFields] using q
end
open Builtin in
def yS:entryFor table "dict_itemiterator.__iter__"=some Builtin.«dict_keyiterator.__iter__»:=entryFor_alias (id':="dict_keyiterator.__iter__") (by kernel_rfl) rfl (by trivial) (by kernel_rfl)
end PySem
namespace L2
open PySem PySem.Spec PyProof.Rows
section
variable {X:Cx}
end
def aHj (d:Addr)(o:Obj)(kvs:List (Key × V)):It:=
 ⟨λi H=>H d=some (.frz o (.dK kvs))/\i<kvs.length,λi H x H'=>∃T kv,H T=none/\x=.ref T/\kvs[i]?=some kv/\H'=upd H T (.tup [kV kv.1,kv.2]),λi H=>H d=some (.frz o (.dK kvs))/\i=kvs.length⟩
def bBh {kvs:List (Key × V)}{vs:List (Key × Value)}(r:KV kvs vs):∀{i:Nat} {kv:Key × V},kvs[i]?=some kv->∃q,vs[i]?=some q/\kv.1=q.1/\RelV kv.2 q.2:=by
 unfold KV at r
 induction r with
 |nil=>intro i kv h;cases h
 |cons a _ ih=>
  intro i kv h;cases i with
  |zero=>cases h;exact⟨_,rfl,a⟩
  |succ i=>exact ih h
def aTn {P:Program}{w:World}{n:Str}{a:Value}(h:(bH P w).is (Sum.inr n) a=true):∃t,a=.str n t:=by
 cases a with
 |str x t=>
  have e:x=n:=by simpa [bH,mD,Value.isStrOf] using h
  exact⟨t,by rw[e]⟩
 |_=>exact absurd (show false=true from h) m7
def aUh {P:Program}{w:World}{k:Key}{a:Value}(h:(bH P w).is k a=true):RelV (kV k) a:=by
 cases k with
 |inr n=>exact aTn h
 |inl i=>
  cases a with
  |int j t=>
   have e:j=i:=by simpa [bH,mD,Value.isInt] using h
   exact⟨t,by rw[e]⟩
  |_=>exact absurd (show false=true from h) m7
def wG {P:Program}{w:World}{K:bE4}{elts:List Expr}{kt:Nat}{pos:Pos}(d it:Addr)(o:Obj)(kvs:List (Key × V))(es:Array DictEntry)(ep:Nat)(g:o.data=.dict es ep) :
  Turn P w K (.Tuple elts kt pos) (aHj d o kvs) [it] it (λi h=>∃k0 v0,IsItemIter h it d i kvs.length ep k0 v0) where
 mem:=by simp
 obj:=λi h a b f=>by
  have e:b=it:=by simpa using f
  subst e;obtain⟨k0,v0,N⟩:=a;exact⟨_,N,λv z=>by cases (show Data.fields _=Data.cell v from z)⟩
 keep:=λi h q a k=>by obtain⟨k0,v0,N⟩:=a;exact⟨k0,v0,k it (by simp) _ N⟩
 item:=by
  intro X G O U hc i m s σ H E I S a R;subst G O U;obtain⟨k0,v0,a⟩:=a;obtain⟨B,J⟩:=R;obtain⟨vs,l,od,M,p,_,c,_,j,_⟩:=aNb g (I.hok d _ B);have u:s.heap.get? d=some o:=(I.hok d _ B).1;rw[u] at p;cases p;rw[g] at c;cases c;have D:es.size=kvs.length:=by rw[KV.length l,<-j.length,v9]
  have y:kvs[i]?=some kvs[i]:=b8 J;obtain⟨x,hx,e1,e3⟩:=bBh l y;have t:i<es.size:=by lia
  obtain⟨C,W⟩:=j.get? (i:=i) (e:=es[i]) (k:=x.1) (v:=x.2) (by rw[bBX];exact v5 t) hx;rw[<-e1] at C;have rk:=aUh C;have n:=S it (by simp);rw[<-D] at a;refine aVq a u g t λq Y T a3 kp=>?_;rw[W] at Y T;refine⟨_,rfl,?_⟩;have fT:H s.heap.objs.size=none:=I.hok.fresh (j5 _);have r:it≠s.heap.objs.size:=v6 (j7 a);have I1:Inv X m σ (upd H s.heap.objs.size (.tup [kV kvs[i].1,kvs[i].2])) { s with heap:=q }:=by
   refine I.drawn (ch:=[it]) (its:=[_,x.2]) (λb f=>?_) (λb o f e=>kp b o (by simpa using f) e) (j5 _) (.cons rk (.cons e3 .nil)) (small (by simp)) (.of T rfl ⟨_,T,rfl,_,rfl⟩) (λb f=>?_)
   ·have:b=it:=by simpa using f
    rw[this];exact n
   ·have:b=it:=by simpa using f
    rw[this];exact⟨_,Y⟩
  refine wpAny_letOwnedTupleGo_items (s:={ s with heap:=q }) Y λh2 z2 s2=>?_;obtain⟨Z,g1,g2,g3,g4,g5⟩:=n;have I2:Inv X m σ (upd H s.heap.objs.size (.tup [kV kvs[i].1,kvs[i].2])) { s with heap:=h2 }:=Inv.turned (s:={ s with heap:=q }) I1 (t':=s.toks) (it:=it) (λb o f e=>(s2.2 b f).trans e) (by rw[aJ r];exact Z) g1 g3 g4 g5;refine⟨.ref s.heap.objs.size,_,I2,rfl,⟨_,kvs[i],fT,rfl,y,rfl⟩,⟨_,_,by rw[<-D];exact z2⟩,λb f=>?_⟩;have:b=it:=by simpa using f
  rw[this,aJ r];exact Z
 done:=by
  intro X G O U hc i m s σ H E I S a R;subst G O U;obtain⟨k0,v0,a⟩:=a;obtain⟨f0,f1,f2,f3,f4,f5⟩:=S it (by simp);obtain⟨B,J⟩:=R;obtain⟨vs,l,od,M,p,_,c,_,j,_⟩:=aNb g (I.hok d _ B);have u:s.heap.get? d=some o:=(I.hok d _ B).1;rw[u] at p;cases p;rw[g] at c;cases c;have D:es.size=kvs.length:=by rw[KV.length l,<-j.length,v9]
  rw[J,<-D] at a;exact aLd (I.ok.hd hc) a u g λq eb=>⟨rfl,I.turned (t':=s.toks) (λb o f e=>eb b o f e) f0 f1 f3 f4 f5⟩
 self:=λA i s Q E a h=>by obtain⟨k0,v0,a⟩:=a;have L:s.TypeIs (.ref it) "dict_itemiterator":=⟨_,a,rfl⟩;refine bD6 L PySem.F.slot_dict_itemiterator_iter (bAH PySem.F.slot_dict_itemiterator_iter L PySem.yS ?_ (PySem.F.args_dict_itemiterator_iter_1 _));show wpAny _ _ (ret (.ref it)) _ _ s;exact d8 ⟨_,rfl,"dict_itemiterator",_,L,PySem.F.slot_dict_itemiterator_next.lookup,h⟩
section
variable {X:Cx}
def aM5 (te:TE):TI:=fun σ H R=>te σ H λv H1=>∃d kvs,v=.ref d/\H1 d=some (.dK kvs)/\(∀kv∈kvs,∃n,kv.1=Sum.inr n)/\(∀ob u,X.H₀ d≠some (.frz ob u))/\∀o,R (aHj d o kvs) (upd H1 d (.frz o (.dK kvs)))
def aNm {elts:List Expr}{kt:Nat}{tp apos cpos:Pos}{e:Expr}{te:TE}(h:VE X e te)(p:attributeBase e "items" X.env (eval e X.env)=eval e X.env:=by rfl)(r:(apos.endLine == cpos.line)=true:=by rfl) :
  VI X (.Tuple elts kt tp) (.Call (.Attribute e "items" apos) [] [] cpos) (aM5 (X:=X) te):=⟨by
 intro f s σ H R I D;refine bD2 p r (thn (h.1 f s σ H _ I D) λv a ⟨x,A,i,S,C⟩=>?_);obtain⟨d,c,e,j,W,U,q⟩:=C;subst e;cases S;obtain⟨z,O,L,m,⟨o,l,y,t,P,n,V,g,M⟩⟩:=vU i.hok j;have E:l.size=c.length:=by rw[KV.length m,<-g.length,v9]
 have Q:a.TypeIs (.ref d) "dict":=(show a.heap.DictOf (bH X.prog X.w) d L from ⟨o,l,y,t,P,n,V,g,M⟩).typeIs;obtain⟨J,N⟩:=aEw (T:="dict") i (show RelV (.ref d) (.ref d) from rfl) (.inr (.inr (.inl ⟨rfl,.inl ⟨c,j⟩⟩)));refine⟨"dict","dict.items",PySem.F.plainAttrs_dict,PySem.F.slot_dict_items,PySem.F.type_dict_items,J,N,bDF rfl (PySem.evalArgs_none ?_)⟩;refine aI0 O Q ?_;have K:Inv X f σ (upd A d (.frz o (.dK c))) a:=i.setd j (λ_ z=>by cases z) (λ_ z=>by cases z) (λ_ z=>by cases z) U ⟨t,i.hok d _ j⟩;have k:Inv X f σ (upd A d (.frz o (.dK c))) { a with heap:=a.heap.push { cls:=.type "dict_items",data:=.fields #[.ref d] } }:=K.kept (t':=a.toks) λb o e=>d7 _ e;have B:(a.heap.push { cls:=.type "dict_items",data:=.fields #[.ref d] }).IsItemsView a.heap.objs.size d:=⟨_,j4 _ rfl,rfl,rfl⟩;have u:(a.heap.push { cls:=.type "dict_items",data:=.fields #[.ref d] }).get? d=some o:=d7 _ t;generalize a.heap.push { cls:=.type "dict_items",data:=.fields #[.ref d] }=hp at k B u ⊢;refine wC (s:={ a with heap:=hp }) B u n ?_;refine⟨hp.objs.size,[hp.objs.size],_,_,_,rfl,k.kept (t':=a.toks) λb o e=>d7 _ e,wG d _ o c l y n,?_,λb G=>?_,q o⟩
 ·rw[<-E];exact⟨_,_,j4 _ rfl⟩
 ·have e:b=hp.objs.size:=by simpa using G
  subst e;exact k.aEx (j5 _) (k.hok.fresh (j5 _))⟩
end
def aKa {d:Addr}{o:Obj}{kvs:List (Key × V)}{g:TG}{tb:TS}{D:Ends}{σ:L2.St}{H:Hp}(b:Nat->L2.St->Hp->Prop)(j:b 0 σ H)(c:∀i σ H,i<=kvs.length->b i σ H->H d=some (.frz o (.dK kvs)))
  (f:∀i kv T σ H,kvs[i]?=some kv->b i σ H->H T=none->g (.ref T) σ (upd H T (.tup [kV kv.1,kv.2])) fun σ2 H2=>tb { D with nx:=b (i+1),ct:=b (i+1),bk:=D.nx } σ2 H2) (hd:∀σ H,b kvs.length σ H->D.nx σ H) :
  ∃W:Nat->Nat->L2.St->Hp->Prop,(∃m,W 0 m σ H)/\∀i m σ H,W i m σ H ->
   ((aHj d o kvs).stop i H/\D.nx σ H)\/((aHj d o kvs).go i H/\∃N:L2.St->Hp->Prop,(∀σ' H',N σ' H'->∃m',m'<m/\W (i+1) m' σ' H')/\∀x H',(aHj d o kvs).yld i H x H'->g x σ H' fun σ2 H2=>tb { D with nx:=N,ct:=N,bk:=D.nx } σ2 H2):=by
 refine⟨λi m σ H=>m=kvs.length - i/\i<=kvs.length/\b i σ H,⟨kvs.length,by simp,bAS _,j⟩,?_⟩;rintro i m σ H ⟨rfl,hi,p⟩;have q:=c i σ H hi p;by_cases a:i<kvs.length
 ·right;refine⟨⟨q,a⟩,b (i+1),fun σ' H' h=>⟨kvs.length - (i+1),by lia,rfl,by lia,h⟩,?_⟩;rintro x H' ⟨T,kv,hT,rfl,hkv,rfl⟩;exact f i kv T σ H hkv p hT
 ·left;have e:i=kvs.length:=by lia
  subst e;exact⟨⟨q,rfl⟩,hd σ H p⟩
section
variable {X:Cx}
def aZ9 (X:Cx)(t:TE):TE:=fun σ H Q=>∃d kvs,H d=some (.dK kvs)/\((∀ob u,X.H₀ d≠some (.frz ob u))->t σ H λv H'=>(∃o,H' d=some (.frz o (.dK kvs)))/\Q v (upd H' d (.dK kvs)))
def aTz {e:Expr}{t:TE}(h:VE X e t):VE X e (aZ9 X t):=⟨by
 intro a s σ H Q I ⟨d,k,i,q⟩;have g:∀b u,X.H₀ d≠some (.frz b u):=λb u e=>by have:=I.base.frzs d b u e;rw[i] at this;cases this
 refine thn (h.1 a s σ H _ I (q g)) λu l ⟨v,m,f,r,⟨o,c⟩,j⟩=>?_;exact⟨v,_,f.setd c (λ_ z=>by cases z) (λ_ z=>by cases z) (λ_ z=>by cases z) g (f.hok d _ c).2,r,j⟩⟩
end
def aG3 {K:bE4}{d:Addr}{o:Obj}{kvs:List (Key × V)}{H:Hp}{B:L2.St}{te:TE}{Q:VK}(hd:H d=some (.frz o (.dK kvs)))(A:Ps2 B B)(hsz:kvs.length<=1000)
  (Rel:Addr->Nat->Hp->V->Prop) (st:∀{D i H1 H2 y},Same H1 H2->Rel D i H1 y->Rel D i H2 y) (r:∀{D i H1 ys zs y},H1 D=some (.lst ys)->Rel D i H1 y->Rel D i (L2.upd H1 D (.lst zs)) y)
  (C:∀(i:Nat) (kv:Key × V),kvs[i]?=some kv->∀H' R D ys,Same H H'->H D=none->H' D=some (.lst ys)->(∀y H2,Same H' H2->Rel D i H2 y->R y H2)->te ((B.set 0 (some (kV kv.1))).set 1 (some kv.2)) H' R)
  (q:∀D H' ys,Same H H'->H D=none->H' D=some (.lst ys)->ys.length=kvs.length->(∀i y,ys[i]?=some y->Rel D i H' y)->Q (.ref D) H'):oA (aHj d o kvs) H B (aFv K 2 (mF (bU 0) (mF (bU 1) aKk))) lJ te Q:=by
 intro D g;refine⟨λi m p H' ys=>m=kvs.length - i/\i<=kvs.length/\Same H H'/\H' D=some (.lst ys)/\ys.length=i/\Ps2 B p/\∀j y,ys[j]?=some y->Rel D j H' y,⟨kvs.length,by simp,bAS _,aR g _,aH,rfl,A,λj y e=>by cases e⟩,?_⟩;rintro i m p H' ys ⟨rfl,hi,sm,gD,ly,hps,hr⟩;refine⟨gD,?_⟩;by_cases l:i<kvs.length
 ·right;refine⟨⟨sm _ _ hd,l⟩,?_⟩;rintro x H2 ⟨T,kv,hT,rfl,hkv,rfl⟩;have b:Same H' (L2.upd H' T (.tup [kV kv.1,kv.2])):=aR hT _;refine hg2 (SqT.of aH) hps fun t f n=>?_;have c:t=_:=n;subst c;dsimp only[lJ];rw[if_pos rfl];refine C i kv hkv _ _ D ys (sm.trans b) g (b _ _ gD) λy v h w=>?_;have a:v D=some (.lst ys):=h _ _ (b _ _ gD);have k:=sm.trans (b.trans h);refine⟨a,bCL (show ys.length<=1000 by lia) (by decide),kvs.length - (i+1),by lia,rfl,by lia,dN g k,aH,by rw[bAD,ly];rfl,f,λj z e=>?_⟩;by_cases u:j<ys.length
  ·rw[bCI u] at e;exact r a (st (b.trans h) (hr j z e))
  ·rw[bCE (by lia)] at e;have s:j - ys.length=0:=by have:=(List.getElem?_eq_some_iff.mp e).1;simpa using this
   rw[s] at e;cases e;have:j=i:=by lia
   rw[this];exact r a w
 ·left;have e:i=kvs.length:=by lia
  subst e;exact⟨⟨sm _ _ hd,rfl⟩,q D H' ys sm g gD ly hr⟩
def aQ8 {X:Cx}{scope:Scope}{N:List Str}{tl:TE}{te:TE}{tt:TT}{g:TG}{σ:L2.St}{H:Hp}{Q:VK}(b:L2.St)(a:Cap X scope N σ b)(h:tl σ H λv H1=>∃d kvs,v=.ref d/\H1 d=some (.dK kvs)/\(∀kv∈kvs,∃n,kv.1=Sum.inr n)/\(∀ob u,X.H₀ d≠some (.frz ob u))/\∀o,oA (aHj d o kvs) (upd H1 d (.frz o (.dK kvs))) b g tt te Q):gK X scope N (aM5 (X:=X) tl) g tt te σ H Q:=⟨b,a,h⟩
section
variable {X:Cx}
end
section
variable {P:Program}{w:World}{K:bE4}{mg:bE7}{base:Heap}
def aEz (P:Program)(w:World)(K:bE4)(mg:bE7)(base:Heap)(C:Addr)(k:Nat)(x:Str)(ps:List Str)(sp:Sp):Prop:=
 ∃f fd,mg x=some (.ref C)/\Mk K C f/\Binds K fd ps []/\dW P w K mg base (CXR P w) k f fd ps sp
def aEz.mono {C:Addr}{j k:Nat}{x:Str}{ps:List Str}{sp:Sp}(h:aEz P w K mg base C j x ps sp)(g:j<=k):aEz P w K mg base C k x ps sp:=by obtain⟨f,a,b,d,e,c⟩:=h;exact⟨f,a,b,d,e,c.mono g⟩
def gQ.make {C:Addr}{k:Nat}{x:Str}{ps:List Str}{sp:Sp}(c:aR8 K mg x C)(h:gQ P w K mg base C k "__init__" ps sp):aEz P w K mg base C k x ps sp:=by obtain⟨f,b,g,a,e,d⟩:=h;exact⟨f,b,c.at_,⟨c.mks,a.at_,a.fn,c.kp⟩,e,d⟩
def aEz.calm {C:Addr}{k:Nat}{x:Str}{ps:List Str}{sp sp':Sp}(G:aEz P w K mg base C k x ps sp)(h:∀vs H Q E,sp' vs H Q E->sp vs H Q E0):OkC P w K mg base C k x ps sp':=by obtain⟨f,a,b,d,e,c⟩:=G;exact⟨f,a,b,d,e,c.calm h⟩
end
def aVb (σ₀:St)(C:Addr)(sp:Sp)(E:XK)(t:TA):TE:=fun σ H Q=>σ=σ₀/\t σ H λvs H1=>∀x dx,H1 x=none->H1 dx=none->dx≠x->sp (.ref x::vs) (upd (upd H1 dx (.own x)) x (.ins C dx [])) (λv H2=>v=.non/\Q (.ref x) H2) E
section
variable {X:Cx}{bE8₀:bE6}{σ₀:St}{k:Nat}{C:Addr}{ps:List Str}{sp:Sp}{E:XK}{x:Str}{p pos:Pos}{e:Expr}{es:List Expr}{t:TA}
def aCp (ok:X.Ok)(G:aEz X.prog X.w X.K X.mg X.base C k x ps sp)(hr:Room (k+1) X.A)(hg:Gl X x)(ha:VA (nQ X bE8₀ σ₀ E) (e::es) t)(R:(x == ("__debug__":Str))=false:=by decide)(hp:cC e=true:=by rfl)(a0:(backTo pos (starEach es X.env)).any (·.1)=false:=by rfl) :
  VE (nQ X bE8₀ σ₀ E) (.Call (.Name x p) (e::es) [] pos) (aVb σ₀ C sp E t):=by
 obtain⟨f,fd,h1,M,P,F⟩:=G;refine⟨?_⟩;rintro bE8 s σ H Q I ⟨rfl,h⟩;refine bBG (jF (X:=nQ X bE8₀ σ E) I hg h1 ?_ R);refine PySem.W.callWith_K (h₀:=X.base) I.ok.mod.kin M.kp (thn (ha.1 pos bE8 s σ H _ I h) λg d ⟨Y,H1,l,r,q⟩=>⟨l.kIn,?_⟩) (aL hp) a0;have D:=q (d.heap.objs.size+1) d.heap.objs.size (l.hok.fresh (bCX _)) (l.hok.fresh (j5 _)) (v6 (bCZ _));have m:=Inv.made (C:=C) l;have J:Vals (V.ref (d.heap.objs.size+1)::Y) (Value.ref (d.heap.objs.size+1)::g):=.cons rfl r;have N:(Value.ref (d.heap.objs.size+1)::g).length=ps.length:=by rw[<-J.length];exact F.len _ _ _ _ D
 have i:=P _ (Value.ref (d.heap.objs.size+1)::g) m.kIn (by rw[bBB];exact N);rw[bBB] at i;refine bCK (aH1 (f:=f) l.kIn M.makes M.init (beq_iff_eq.mp M.fn) (bCA (F.run _ X.stack _ _ ⟨Value.ref (d.heap.objs.size+1)::g,[]⟩ (Value.ref (d.heap.objs.size+1)::g) _ _ E (hr.make C g [])
  (m.env0.make C g []) i J D) λr s' c=>?_))
 cases r with
 |error v=>obtain⟨a,T,O,C',H₁,rfl,os,j,n,nT,o,y,Z,B,U⟩:=c;exact⟨a,T,O,C',H₁,rfl,(Inv.aCg ok m).call' (s':=s') (ch:=[]) os Z B j (λb z=>absurd z (by simp)),n,nT,o,y,U⟩
 |ok fl=>
  cases fl with
  |ret u=>obtain⟨v,H',I3,L,ev,S⟩:=m.after c;subst ev;exact⟨L,⟨V.ref (d.heap.objs.size+1),H',I3,rfl,S⟩⟩
  |next=>exact False.elim c
  |brk=>exact False.elim c
  |cont=>exact False.elim c
end
def bA8 (X:Cx)(t:TS):TS:=λD σ H=>t D σ H\/∃d o kvs,H d=some (.frz o (.dK kvs))/\(∀ob u,X.H₀ d≠some (.frz ob u))/\t D σ (upd H d (.dK kvs))
def aLu {X:Cx}{st:Stmt}{t:TS}(h:VS X st t):VS X st (bA8 X t):=⟨by
 rintro bE8 s σ H D I (q|⟨d,o,kvs,ho,nf,q⟩)
 ·exact h.1 bE8 s σ _ D I q
 ·exact h.1 bE8 s σ _ D (I.setd ho (λ_ z=>by cases z) (λ_ z=>by cases z) (λ_ z=>by cases z) nf (I.hok d _ ho).2) q⟩
section
variable {X:Cx}{N:List Str}{scope:Scope}{cl:List (Str × Addr)}{s₁:Shared}{H₀:Hp}{fp:List Addr}{E:XK}{bE8:bE6}{σ:St}{H:Hp}{s:Shared}
end
section
variable {X:Cx}{k:Nat}{x:Str}{ps:List Str}{sp:Sp}{E:XK}{p pos:Pos}{e:Expr}{es:List Expr}{t:TA}{te:TE}
def iR (G:OkX X.prog X.w X.K X.mg X.base k x ps sp)(o:Room k X.A)(m:Thr X E)(l:Gl X x)
  (i:VA X (e::es) t) (h:(x == ("__debug__":Str))=false:=by decide) (n:cC e=true:=by rfl) (c:(backTo pos (starEach es X.env)).any (·.1)=false:=by rfl) :
  VE X (.Call (.Name x p) (e::es) [] pos) (rG sp [] E t):=by
 obtain⟨f,j,a,d,g,b⟩:=G;exact⟨aMg b o l a d g .nil m.passes i.1 h (aL n) c⟩
end
inductive Tg where
 |non
 |int (i:Int)
 |bl (b:Bool)
 |str (x:Str)
 |tup (ts:List Tg)
 |lst (ts:List Tg)
 |dct
mutual
inductive bF (K:bE4)(H:Hp):V->Tg->Prop
 |non:bF K H .non .non
 |int {i}:bF K H (.int i) (.int i)
 |bl {b}:bF K H (.bl b) (.bl b)
 |str {x:Str}:x.length<=1000->bF K H (.str x) (.str x)
 |tup {a vs ts}:SqT K H a vs->vs.length<=1000->cB K H vs ts->bF K H (.ref a) (.tup ts)
 |lst {a vs ts}:H a=some (.lst vs)->vs.length<=1000->cB K H vs ts->(∀i j,vs≠[.int i,.int j])->bF K H (.ref a) (.lst ts)
 |dct {a}:H a=some (.dK [])->bF K H (.ref a) .dct
inductive cB (K:bE4)(H:Hp):List V->List Tg->Prop
 |nil:cB K H [] []
 |cons {v t vs ts}:bF K H v t->cB K H vs ts->cB K H (v::vs) (t::ts)
end
structure Tst (K:bE4)(H H':Hp):Prop where
 tk:∀a xs,SqT K H a xs->SqT K H' a xs
 lk:∀a xs,H a=some (.lst xs)->(∀i j,xs≠[.int i,.int j])->H' a=some (.lst xs)
 dk:∀a,H a=some (.dK [])->H' a=some (.dK [])
mutual
theorem bF.st {K:bE4}{H H':Hp}(e:Tst K H H'):∀{v:V} {t:Tg},bF K H v t->bF K H' v t
 |_,_,.non=>.non
 |_,_,.int=>.int
 |_,_,.bl=>.bl
 |_,_,.str h=>.str h
 |_,_,.tup g l h=>.tup (e.tk _ _ g) l (cB.st e h)
 |_,_,.lst g l h n=>.lst (e.lk _ _ g n) l (cB.st e h) n
 |_,_,.dct g=>.dct (e.dk _ g)
theorem cB.st {K:bE4}{H H':Hp}(e:Tst K H H'):∀{vs:List V} {ts:List Tg},cB K H vs ts->cB K H' vs ts
 |_,_,.nil=>.nil
 |_,_,.cons h t=>.cons (bF.st e h) (cB.st e t)
end
def Tst.same {K:bE4}{H H':Hp}(e:Same H H'):Tst K H H':=⟨λ_ _=>e.bA,λ_ _ g _=>e _ _ g,λ_ g=>e _ _ g⟩
def bF.same {K:bE4}{H H':Hp}{v:V}{t:Tg}(e:Same H H')(h:bF K H v t):bF K H' v t:=h.st (.same e)
def cB.same {K:bE4}{H H':Hp}{vs:List V}{ts:List Tg}(e:Same H H')(h:cB K H vs ts):cB K H' vs ts:=h.st (.same e)
def Tst.lam {K:bE4}{H H':Hp}(e:∀b o,H b=some o->(∀q,o≠.tab q)->(∀a,o≠.own a)->H' b=some o):Tst K H H':=
 ⟨λa d h=>by
  rcases h with (h|⟨c,h⟩)|h
  ·exact .inl (.inl (e _ _ h (λ_ z=>by cases z) (λ_ z=>by cases z)))
  ·exact .inl (.inr ⟨c,e _ _ h (λ_ z=>by cases z) (λ_ z=>by cases z)⟩)
  ·exact .inr h,λa d h _=>e _ _ h (λ_ z=>by cases z) (λ_ z=>by cases z),λa h=>e _ _ h (λ_ z=>by cases z) (λ_ z=>by cases z)⟩
theorem cB.len {K:bE4}{H:Hp}:∀{vs:List V} {ts:List Tg},cB K H vs ts->vs.length=ts.length
 |_,_,.nil=>rfl
 |_,_,.cons _ t=>by rw[j8,j8,cB.len t]
theorem cB.at {K:bE4}{H:Hp}:∀{vs:List V} {ts:List Tg},cB K H vs ts->∀{i:Nat} {v:V},vs[i]?=some v->∃t,ts[i]?=some t/\bF K H v t
 |_,_,.cons h t,0,v,e=>by cases e;exact⟨_,rfl,h⟩
 |_,_,.cons h t,i+1,v,e=>by obtain⟨c,a,b⟩:=cB.at t (i:=i) (v:=v) (by simpa using e);exact⟨c,by simpa using a,b⟩
variable {X:Cx}
section
variable {X:Cx}{a b e:Expr}{es:List Expr}{ta tb te:TE}{t:TA}{pos p pos' apos:Pos}{x m:Str}{k k0:Nat}{ps:List Str}{sp:Sp}{C:Addr}{o:Expr}
def bJ (i:Nat)(b:VE X e te)(g:X.N.Nodup:=by assumption)(d:X.N[i]?=some x:=by rfl)(f:Loc X.env.scope x:=by first|exact Or.inl rfl|exact Or.inr rfl)(a:swapsWith e (some (.Name x pos')) pos.line X.env=pure false:=by rfl)(c:X.fn x=true\/X.env.scope.names.lookup x=some .local:=by first|exact .inl rfl|exact .inr rfl|assumption):VS X (.Assign [.Name x pos'] e pos) (wY te (bU i)):=aX5 g d f b a c
def cL (i:Nat)(a:X.N.Nodup:=by assumption)(b:X.N[i]?=some x:=by rfl)(c:Loc X.env.scope x:=by first|exact Or.inl rfl|exact Or.inr rfl)(d:X.fn x=true\/X.env.scope.names.lookup x=some .local:=by first|exact .inl rfl|exact .inr rfl|assumption):VG X (.Name x pos) (bU i):=xQ a b c d
def bI (G:Ok X.prog X.w X.K X.mg X.base k0 x ps sp)(c:VA X (e::es) t)(g:Room k X.A:=by assumption)(f:k0<=k:=by decide)(d:Gl X x:=by rfl)(b:(x == ("__debug__":Str))=false:=by decide)(h:cC e=true:=by rfl)(a:(backTo pos (starEach es X.env)).any (·.1)=false:=by rfl):VE X (.Call (.Name x p) (e::es) [] pos) (rG sp [] E0 t):=bBu (G.mono f) g d c b h a
def bAq {pl:Sem Bool}(G:OkM X.prog X.w X.K X.mg X.base C k0 m ps sp)(g:VE X o ta)(b:VA X (e::es) t)(h:Room k X.A:=by assumption)(c:k0<=k:=by decide)(i:cC e=true:=by rfl)(a:(backTo pos (starEach es X.env)).any (·.1)=false:=by rfl)
  (d:eval (.Call (.Attribute o m apos) (e::es) [] pos) X.env=(do
   let ov <-eval o X.env
   standAt apos.atName
   let (f,first) <-holding [ov] (getMethod ov m pl)
   callWith pos f first (backTo pos (starEach (e::es) X.env)) (backToKw pos (keywordEach [] X.env))):=by rfl):VE X (.Call (.Attribute o m apos) (e::es) [] pos) (aSt C m sp [] E0 ta t):=aUe (G.mono c) h g b i a d
def bO {r:R2}(f:IxR X r)(e:VE X a ta)(d:VE X b tb)(c:aDe b:=by exact λ_ _=>rfl):VE X (.Subscript a b pos) (tOp r ta tb):=bAf f e d c
def eY {op:CmpOp}{r:R2}(c:OpR X (compareOp op) r)(e:VE X a ta)(d:VE X b tb)(f:behindInMarks op b=false:=by exact aRr _):VT X (.Compare a [op] [b] pos) (aFz (tOp r ta tb)):=aLk c e d f
def lH {op:CmpOp}{r:R2}(c:OpR X (compareOp op) r)(e:VE X a ta)(d:VE X b tb)(f:behindInMarks op b=false:=by exact aRr _):VE X (.Compare a [op] [b] pos) (tOp r ta tb):=oZ c e d f
def va1 (b:VE X e te)(a:cC e=true:=by rfl):VA X [e] (cO te qZ):=aG b fC a
end
def bL {N ps:List Str}{sc:Scope}(b:sc.kind=.function:=by rfl)(d:sc.isCoroutine=false:=by rfl)(e:sc.isGenerator=false:=by rfl)(c:N.Nodup:=by trivial)(f:N.take ps.length=ps:=by rfl)(a:∀x∈ps,sc.names.lookup x=some .local\/sc.names.lookup x=some .cell:=by trivial)(g:∀y∈sc.names,y.2≠.free:=by trivial):aN N ps sc:=⟨b,d,e,c,f,a,g⟩
section
variable {X:Cx}{scope:Scope}{N:List Str}{pos:Pos}{x:Str}{cl:List (Str × Addr)}{s:Shared}{H:Hp}{fp:List Addr}
def jB (i:Nat)(a:N.Nodup:=by trivial)(b:N[i]?=some x:=by rfl)(c:Loc (cxC X N scope cl s H fp).env.scope x:=by exact Or.inl rfl)(d:(cxC X N scope cl s H fp).fn x=true\/(cxC X N scope cl s H fp).env.scope.names.lookup x=some .local:=by first|exact .inl rfl|exact .inr rfl|assumption):VG (cxC X N scope cl s H fp) (.Name x pos) (bU i):=xQ a b c d
def ck (d:∀y∈scope.names,y.2≠.cell:=by trivial)(b:scope.kind=.function:=by rfl)(c:∀y∈scope.names,y.2=.local->scope.names.lookup y.1=some .local:=by trivial)(a:∀y∈scope.names,y.2=.free->scope.names.lookup y.1=some .free:=by trivial):nM scope N:=⟨d,b,c,a⟩
end
end L2
namespace My
open PySem PySem.Spec PyProof.Rows L2
def top (i:Nat):Stmt:=PySem.Challenge.pw_shardask_k21_town_refused.main.body.getD i (.Pass ⟨0,0,0,0⟩)
abbrev aAh:Stmt:=top 14
abbrev jN:Stmt:=top 15
abbrev aB8:Stmt:=top 16
abbrev wF:Stmt:=top 17
abbrev gG:Stmt:=top 18
abbrev tH:Stmt:=top 19
abbrev aA1:Stmt:=top 20
abbrev aCx:Stmt:=top 21
abbrev zA:Stmt:=top 22
abbrev aCu:Stmt:=top 23
abbrev pK:Stmt:=top 24
abbrev nW:Stmt:=top 25
abbrev aC7:Stmt:=top 26
abbrev aH3:Stmt:=top 27
abbrev pQ:Stmt:=top 28
abbrev aQp:Stmt:=top 29
abbrev aC2:Stmt:=top 31
abbrev yG:Stmt:=top 33
abbrev aHo:Stmt:=top 37
abbrev qU:Stmt:=top 38
abbrev mQ:Stmt:=top 39
abbrev tK:Stmt:=top 40
abbrev rB:Stmt:=top 41
abbrev aAs:Stmt:=top 42
abbrev vQ:Stmt:=top 43
abbrev mK:Stmt:=top 44
abbrev yM:Stmt:=top 45
abbrev aF8:Stmt:=top 46
abbrev wI:Stmt:=top 47
abbrev uF:Stmt:=top 48
abbrev iC:Stmt:=classAt (top 49) 0
abbrev iZ:Stmt:=classAt (top 49) 3
abbrev lU:Stmt:=classAt (top 49) 4
abbrev nO:Stmt:=classAt (top 49) 6
abbrev gA:Stmt:=classAt (top 51) 0
abbrev vP:Stmt:=top 53
abbrev tQ:Stmt:=top 54
abbrev vR:Stmt:=top 55
abbrev sZ:Stmt:=top 56
abbrev mC:Stmt:=top 57
abbrev sH:Stmt:=top 58
abbrev tR:Stmt:=top 59
abbrev wH:Stmt:=top 60
abbrev qW:Stmt:=top 61
abbrev iU:Stmt:=top 62
abbrev nP:Stmt:=top 63
abbrev vW:Stmt:=top 64
abbrev uA:Stmt:=top 65
abbrev eN:Stmt:=top 66
abbrev lD:Stmt:=top 67
abbrev pX:Stmt:=top 68
abbrev aPq:Stmt:=top 69
abbrev fY:Stmt:=classAt (top 2) 0
inductive Exn where
 |bad|tab|house
 deriving DecidableEq
def Exn.nm:Exn->Str
 |.bad=>"BadTown"
 |.tab=>"NoTable"
 |.house=>"NoHouse"
structure Txt (w:World)(K:bE4)(mg:bE7):Prop where
 lL:mg "ValueError"=none
 bAm:mg "abs"=none
 aAf:mg "all"=none
 bBq:mg "any"=none
 aZv:mg "bool"=none
 aJf:mg "dict"=none
 aSz:mg "divmod"=none
 aHs:mg "enumerate"=none
 yL:mg "int"=none
 aY:mg "isinstance"=none
 fQ:mg "len"=none
 zX:mg "list"=none
 eE:mg "range"=none
 aXd:mg "set"=none
 aAj:mg "sorted"=none
 aXc:mg "str"=none
 eF:mg "tuple"=none
 aWy:mg "zip"=none
 fU:∃a,mg "QUESTION_WORDS"=some (.ref a)/\∀H,SqT K H a [.str "and",.str "by",.str "count",.str "down",.str "first",.str "group",.str "join",.str "keep",.str "least",.str "most",.str "named",.str "on",.str "sum",.str "table",.str "up",.str "where",.str "with"]
 aCm:∃u,mg "LETTERS"=some u/\RelV (.str "abcdefghijklmnopqrstuvwxyz") u
 aFs:∃a,mg "KINDS"=some (.ref a)/\∀H,SqT K H a [.str "number",.str "word"]
 yD:∃u,mg "MOST_LETTERS"=some u/\RelV (.int 8) u
 zL:∃u,mg "MOST_COLUMNS"=some u/\RelV (.int 8) u
 aGs:∃u,mg "WORD_BASE"=some u/\RelV (.int 27) u
 aA5:∃u,mg "MOST_HOUSES"=some u/\RelV (.int 6) u
 aHa:∃u,mg "MOST_CUTS"=some u/\RelV (.int 8) u
 vM:∃f o,(∃u,mg "is_column"=some u/\RelV (.ref f) u)/\K.lookup f=some o/\o.cls=.type "function"
 aJe:Dn K mg "is_whole" aAh n7
 tZ:Dn K mg "is_number_below" jN bQN
 aN1:Dn K mg "is_word" aB8 n7
 aGm:Dn K mg "is_one_of" wF bQK
 pL:Dn K mg "is_tuple_of" gG o6
 aEi:Dn K mg "are_unlike" tH ["names"]
 aJk:Dn K mg "names_of" aA1 ["head"]
 aPa:Dn K mg "is_name" aCx n7
 aJ6:Dn K mg "is_value" zA n7
 aNw:Dn K mg "kind_of" aCu ["value"]
 aBr:Dn K mg "is_value_of" pK bQO
 aG0:Dn K mg "is_column" nW n7
 aPc:Dn K mg "is_head" aC7 n7
 aPx:Dn K mg "is_row" aH3 z8
 aBq:Dn K mg "word_number" pQ ["word"]
 aYp:Dn K mg "home" aQp bQQ
 aOu:Dn K mg "kind_in" aC2 bQC
 aJg:Dn K mg "place_of" yG bQC
 aRt:Dn K mg "is_cut" aHo o9
 aK1:Dn K mg "are_cuts" qU bQL
 zV:Dn K mg "is_column_in" mQ z8
 aFn:Dn K mg "is_placing" tK bQG
 aKb:Dn K mg "are_rows" rB bQP
 aKx:Dn K mg "is_table" aAs o9
 aG8:Dn K mg "need_town" vQ o8
 wM:Dn K mg "placed_tables" mK o8
 aKu:Dn K mg "table_in" yM bQH
 aQw:Dn K mg "cut_of" aF8 ["cuts","value"]
 aGr:Dn K mg "stands_at" wI u9
 aNp:Dn K mg "rows_at" uF bQD
 aG4:Dn K mg "_law_seed" vP q7
 aFt:Dn K mg "_law_begin" tQ q7
 aH6:Dn K mg "_law_next" vR n6
 aEn:Dn K mg "_law_words" sZ []
 aEf:Dn K mg "_law_names" mC n6
 aDo:Dn K mg "_law_great" sH ["_law_state"]
 aDh:Dn K mg "_law_value" tR bQE
 aHn:Dn K mg "_law_head" wH bQF
 aLc:Dn K mg "_law_row" qW bQB
 aAa:Dn K mg "_law_placing" iU t8
 aHt:Dn K mg "_law_town" nP u5
 aHp:Dn K mg "_law_made" vW bQA
 aD5:Dn K mg "_law_asked" uA o7
 qD:Dn K mg "_law_bad_placing" eN o4
 uY:Dn K mg "_law_bad_table" lD bQJ
 aBc:Dn K mg "_law_spoilt" pX o5
 bA5:Dn K mg "law" aPq q7
 aZj:∃C,aR8 K mg "Town" C/\xK K C "__init__" "Town.__init__" iC ["self","houses","tables"]/\xK K C "placing" "Town.placing" iZ ["self","name"]/\xK K C "whole" "Town.whole" lU ["self","name"]/\xK K C "part" "Town.part" nO ["self","name","house"]/\cT K C "placed"/\cT K C "house_count"
 aVh:∃C,aR8 K mg "Store" C/\xK K C "__init__" "Store.__init__" gA ["self","houses","tables"]/\cT K C "placed"/\cT K C "house_count"/\cT K C "moves"
 bBx:∃(S:Addr) (ad:Exn->Addr),mg "ShardError"=some (.ref S)/\XS K S/\(∀c,ExT K mg fY c.nm "ShardError.__init__" (ad c) S)/\(∀c d,PySem.W.mroIn K (ad c) (.ref (ad d))=some (decide (c=d)))/\∀c,PySem.W.mroIn K (ad c) (.type "ValueError")=some true
abbrev abc:Str:="abcdefghijklmnopqrstuvwxyz"
abbrev words:List V:=[.str "and",.str "by",.str "count",.str "down",.str "first",.str "group",.str "join",.str "keep",.str "least",.str "most",.str "named",.str "on",.str "sum",.str "table",.str "up",.str "where",.str "with"]
def Th (K:bE4)(H:Hp)(v:V):Prop:=(∃x,v=.str x/\x.length<=1000)\/(∃i,v=.int i)\/(∃b,v=.bl b)\/∃k,Rk K H v k
def Th.same {K:bE4}{H H':Hp}{v:V}(e:Same H H')(h:Th K H v):Th K H' v:=by
 rcases h with h|h|h|⟨k,h⟩
 ·exact .inl h
 ·exact .inr (.inl h)
 ·exact .inr (.inr (.inl h))
 ·exact .inr (.inr (.inr ⟨k,h.same e⟩))
def aTu:V->String->Bool
 |.int _,T=>T == "int"
 |.str _,T=>T == "str"
 |.bl _,T=>T == "int" || T == "bool"
 |_,_=>false
def isS:V->Bool
 |.str _=>true
 |_=>false
def whole:V->Bool
 |.int _=>true
 |_=>false
def sO {K:bE4}{H:Hp}{v:V}{T:String}{Q:VK}(c:Th K H v)(a:T = "int"\/T = "bool"\/T = "str")(q:Q (.bl (aTu v T)) H):bBg [v,.ty T] H Q\/aWx K [v,.ty T] H Q:=by
 rcases c with⟨x,rfl,_⟩|⟨i,rfl⟩|⟨b,rfl⟩|⟨k,h⟩
 ·refine .inl ⟨_,_,_,rfl,?_,q⟩;rcases a with rfl|rfl|rfl <;> simp[aJy,aTu]
 ·refine .inl ⟨_,_,_,rfl,?_,q⟩;rcases a with rfl|rfl|rfl <;> simp[aJy,aTu]
 ·refine .inl ⟨_,_,_,rfl,?_,q⟩;rcases a with rfl|rfl|rfl <;> simp[aJy,aTu]
 ·refine .inr ⟨_,_,_,rfl,h,a,?_⟩;cases h <;> exact q
def inA (y:Str):Bool:=!(Builtin.Str.occurrences abc y 0 abc.length 1).isEmpty
def allIn (x:Str):Bool:=((List.range x.cps.size).map λi=>inA (sgn x i)).all id
def pH (l:Nat):V->Bool
 |.str x=>decide (l<=x.length) && (decide (x.length<=8) && allIn x)
 |_=>false
def nameB (v:V):Bool:=pH 1 v && !inV v words
def yU (v:V):Bool:=whole v || pH 0 v
def kO (K:bE4):Sp:=λvs H Q _=>∃v,vs=[v]/\Th K H v/\Q (.bl (whole v)) H
def aA9 (K:bE4)(f:V->Bool):Sp:=λvs H Q _=>∃v,vs=[v]/\Th K H v/\∀H',Same H H'->Q (.bl (f v)) H'
def aNe (K:bE4):Sp:=λvs H Q _=>∃v,vs=[v]/\Th K H v/\Q (.str (if whole v then "number" else "word")) H
inductive aYi (K:bE4)(vs:List V)(H:Hp)(Q:VK)(E_:XK):Prop
 |mk (a:Addr) (ns:List Int) (_:vs=[.ref a]) (_:SqL K H a (ns.map V.int)) (_:ns.length<=63) (_:∀H',Q (.bl true) H')
def bAb {K:bE4}{H:Hp}{a:Addr}{b:List Int}(h:b.length<=63)(c:SqL K H a (b.map V.int)):aYi K [.ref a] H (λv _=>v=.bl true) λ_ _ _=>False:=
 ⟨a,b,rfl,c,h,λ_=>rfl⟩
def aGe:aN n7 n7 (aD aAh):=bL
def qN:aN bQN bQN (aD jN):=bL
def aKq:aN n7 n7 (aD aB8):=bL
def aDj:aN bQK bQK (aD wF):=bL
def nG:aN o6 o6 (aD gG):=bL
def aA4:aN ["names"] ["names"] (aD tH):=bL
def aF6:aN ["head"] ["head"] (aD aA1):=bL
def aJ7:aN n7 n7 (aD aCx):=bL
def aG2:aN n7 n7 (aD zA):=bL
def aJu:aN ["value"] ["value"] (aD aCu):=bL
def yQ:aN bQO bQO (aD pK):=bL
def aEh:aN n7 n7 (aD nW):=bL
def aKo:aN n7 n7 (aD aC7):=bL
def aNq:aN z8 z8 (aD aH3):=bL
def mZ:aN ["word","number","letter"] ["word"] (aD pQ):=bL
def aMh:aN ["value","houses","number"] bQQ (aD aQp):=bL
def yH:aN ["head","name","column"] bQC (aD aC2):=bL
def aIp:aN bQC bQC (aD yG):=bL
def aPd:aN o9 o9 (aD aHo):=bL
def vV:aN ["thing","kind","houses","lows"] bQL (aD qU):=bL
def wL:aN z8 z8 (aD mQ):=bL
def aBu:aN bQG bQG (aD tK):=bL
def aFw:aN bQP bQP (aD rB):=bL
def aHv:aN o9 o9 (aD aAs):=bL
def uD:aN ["houses","tables","name","table"] o8 (aD vQ):=bL
def vD:aN o8 o8 (aD mK):=bL
def aIc:aN bQH bQH (aD yM):=bL
def aB0:aN ["cuts","value","number","place"] ["cuts","value"] (aD aF8):=bL
def rP:aN ["head","placing","row","house","houses","value","cuts"] u9 (aD wI):=bL
def aKv:aN bQD bQD (aD uF):=bL
def vC:aN n8 n8 (aD iC):=bL
def xH:aN u6 u6 (aD iZ):=bL
def aA3:aN u6 u6 (aD lU):=bL
def aFo:aN bQI bQI (aD nO):=bL
def tV:aN n8 n8 (aD gA):=bL
def rQ:aN ["_law_script","_law_seed_here","_law_k","_law_cell"] q7 (aD vP):=bL
def pR:aN ["_law_script","_law_digits"] q7 (aD tQ):=bL
def sU:aN ["_law_state","_law_many","_law_digit"] n6 (aD vR):=bL
def pJ:aN ["_law_words_here"] [] (aD sZ):=bL
def pP:aN ["_law_state","_law_many","_law_small","_law_odd","_law_base","_law_k","_law_at","_law_names_here"] n6 (aD mC):=bL
def pZ:aN ["_law_state","_law_number","_law_k"] ["_law_state"] (aD sH):=bL
def pU:aN ["_law_state","_law_kind","_law_way","_law_word","_law_k"] bQE (aD tR):=bL
def tU:aN ["_law_state","_law_names_here","_law_start","_law_head_here","_law_k","_law_kind"] bQF (aD wH):=bL
def aIb:aN bQB bQB (aD qW):=bL
def gW:aN ["_law_state","_law_head_here","_law_houses","_law_way","_law_name","_law_kind","_law_lows","_law_cuts","_law_low"] t8 (aD iU):=bL
def lZ:aN ["_law_state","_law_names_here","_law_most","_law_houses","_law_tables","_law_k","_law_head_here","_law_placing_here","_law_rows"] u5 (aD nP):=bL
def lV:aN ["_law_way","_law_houses","_law_tables","_law_kinds","e"] bQA (aD vW):=bL
def jU:aN ["_law_town_here","_law_way","_law_name","_law_house","_law_kinds","e"] o7 (aD uA):=bL
def iD:aN ["_law_state","_law_head_here","_law_houses","_law_names_here","_law_gone","_law_name","_law_kind","_law_value_here","_law_other","_law_greater","_law_bad"] o4 (aD eN):=bL
def jM:aN ["_law_state","_law_table","_law_head_here","_law_placing_here","_law_rows","_law_way","_law_bad"] bQJ (aD lD):=bL
def nH:aN ["_law_state","_law_houses","_law_tables","_law_names_here","_law_way","_law_name","_law_spoilt_here","_law_odd","_law_head_here","_law_placing_here","_law_rows"] o5 (aD pX):=bL
def aPl:aN ["_law_script","_law_state","_law_names_here","_law_houses","_law_tables","_law_k","_law_many","_law_spoilt_here","_law_way","_law_town_here","_law_odd","_law_house"] q7 (aD aPq):=bL
def xW:aN bQM bQM (aD fY):=bL
section
variable {P:Program}{w:World}{K:bE4}{mg:bE7}{base:Heap}
def aFx (T:Txt w K mg):Ok P w K mg base 1 "is_whole" n7 (kO K):=by
 refine Ok.ofV T.aJe aGe (by trivial) (λf d A c s H g Q E e h=>?_)
 obtain⟨v,rfl,a,q⟩:=h;refine⟨_,(aF (aP (eQ (aO (rZ.or oV) (by rfl) T.aY aW (aG (vv 0) (va1 (dB (v:=.ty "int") (by rfl) T.yL qM rfl)))) (fJ (aY0 (aO (rZ.or oV) (by rfl) T.aY aW (aG (vv 0) (va1 (dB (v:=.ty "bool") (by rfl) T.aZv aT6 rfl))))))))),?_⟩;refine⟨_,rfl,sO a (.inl rfl) ⟨_,rfl,?_⟩⟩;rcases id a with⟨x,rfl,_⟩|⟨i,rfl⟩|⟨b,rfl⟩|⟨k,h⟩
 ·exact cA q
 ·exact bZ ⟨_,rfl,sO a (.inr (.inl rfl)) ⟨_,rfl,q⟩⟩
 ·exact bZ ⟨_,rfl,sO a (.inr (.inl rfl)) ⟨_,rfl,q⟩⟩
 ·cases h <;> exact cA q
def aQf (x:Str):(((List.range x.cps.size).map λi=>V.str (sgn x i)).map λv=>match v with|.str y=>V.bl (inA y)|_=>.bl false)=(((List.range x.cps.size).map λi=>inA (sgn x i)).map V.bl):=by rw[bBV,bBV];rfl
def aKh (T:Txt w K mg):Ok P w K mg base 1 "is_word" n7 (aA9 K (pH 0)):=by
 refine Ok.ofV T.aN1 aKq (by trivial) (λf B A a s H G Q E M h=>?_)
 obtain⟨v,rfl,j,q⟩:=h;refine⟨_,(aC (cF (VW.pt (iY (cR (cJ (aO (rZ.or oV) (by rfl) T.aY aW (aG (vv 0) (va1 (dB (v:=.ty "str") (by rfl) T.aXc aPu rfl)))))) (gU (eY aRj (aO sV (by rfl) T.fQ dI (va1 (vv 0))) (iG (by rfl) T.yD))))) (aF (aP cN)) bB) (aF (aP (aO (iM rfl) (by rfl) T.aAf qQ (va1 (dF (N:=["sign"]) ck gR rfl (aP6 (vv 0)) (λC J t I=>⟨(jB 0),dX,(oZ aNh (vv 0) (iG (by rfl) T.aCm) (by with_unfolding_all rfl))⟩))))))),?_⟩;refine⟨_,rfl,sO j (.inr (.inr rfl)) ⟨_,rfl,?_⟩⟩;have g:isS v=false->Q (.bl false) H:=λe=>by
  have z:pH 0 v=false:=by cases v <;> first|rfl|cases e
  rw[<-z];exact q H (Same.refl H)
 rcases id j with⟨x,rfl,m⟩|⟨i,rfl⟩|⟨b,rfl⟩|⟨k,h⟩
 ·refine cA ⟨_,rfl,_,rfl,small m,_,_,rfl,rfl,_,rfl,?_⟩;refine aHi (λc=>?_) (λc=>?_)
  ·have o:(8:Int)<x.length:=of_decide_eq_true c;have z:pH 0 (.str x)=false:=by show (decide (0<=x.length) && (decide (x.length<=8) && allIn x))=false;rw[m9 (p:=x.length<=8) (by lia)];simp
   rw[<-z];exact q H (Same.refl H)
  ·have o:¬ (8:Int)<x.length:=of_decide_eq_false (Bool.eq_false_iff.mpr c);dsimp only[rR,uH,tCB,cO];refine aPe ((List.range x.cps.size).map λi=>V.str (sgn x i)) (λv=>match v with|.str y=>V.bl (inA y)|_=>.bl false) [none] uX ?_
    (λR r=>aXo (z:=x) (λL u=>⟨_,rfl,u⟩) R r) (λv d t R l F r=>?_) rfl λD n=>?_
   ·rw[j0,bAL];exact small m
   ·obtain⟨i,_,rfl⟩:=List.mem_map.mp d;exact⟨_,rfl,_,_,rfl,rfl,r⟩
   ·refine⟨D,(List.range x.cps.size).map λi=>inA (sgn x i),rfl,SqL.of (by rw[aH,aQf]),?_⟩;have z:pH 0 (.str x)=allIn x:=by show (decide (0<=x.length) && (decide (x.length<=8) && allIn x))=allIn x;rw[m8 (p:=x.length<=8) (by lia)];simp
    show Q (.bl (allIn x)) _;rw[<-z];exact q _ (aR n _)
 ·exact bZ (g rfl)
 ·exact bZ (g rfl)
 ·cases h <;> exact bZ (g rfl)
def aEo {v:V}{l:Nat}(h:pH l v=true):∃x,v=.str x/\l<=x.length/\x.length<=8/\allIn x=true:=by
 cases v with
 |str x=>have h:(decide (l<=x.length) && (decide (x.length<=8) && allIn x))=true:=h;rw[bAB,bAB] at h;exact⟨x,rfl,of_decide_eq_true h.1,of_decide_eq_true h.2.1,h.2.2⟩
 |_=>cases h
def aB4 {x:Str}:x=("":Str)↔x.length=0:=by
 constructor
 ·rintro rfl;decide +kernel
 ·intro h;obtain⟨a⟩:=x;have h:a.size=0:=h;rw[Array.size_eq_zero_iff] at h;subst h;decide +kernel
def aAt:words.all iH=true:=rfl
def aLb (T:Txt w K mg)(D:Ok P w K mg base 1 "is_word" n7 (aA9 K (pH 0))):Ok P w K mg base 2 "is_name" n7 (aA9 K nameB):=by
 refine Ok.ofV T.aPa aJ7 (by trivial) (λf B A b s H C Q E G h=>?_)
 obtain⟨v,rfl,r,q⟩:=h;obtain⟨l,n,j⟩:=T.fU;have o:∃u,mg "QUESTION_WORDS"=some u/\RelV (.ref l) u:=⟨_,n,rfl⟩;refine⟨_,(aF (aP (eQ (bI D (va1 (vv 0))) (eQ (lH aG7 (vv 0) aQ) (fJ (oZ rY (vv 0) (iG (by rfl) o) (by with_unfolding_all rfl))))))),?_⟩;refine⟨_,rfl,_,rfl,r,λa i=>⟨_,rfl,?_⟩⟩;refine aHi (λc=>?_) (λc=>?_)
 ·obtain⟨x,rfl,_,k,g⟩:=aEo c;refine⟨_,rfl,rfl,_,rfl,?_⟩;by_cases e:x.length=0
  ·have t:=aB4.mpr e;subst t;refine cA ?_;have z:nameB (.str "")=false:=by trivial
   rw[<-z];exact q a i
  ·have m:¬ (V.str x=V.str ""):=λz=>e (aB4.mp (V.str.inj z));have y:(!decide (V.str x=V.str ""))=true:=by rw[m9 m];rfl
   rw[y];refine bZ ⟨_,rfl,l,words,rfl,.inr (j _),rfl,aAt,?_⟩;have z:nameB (.str x)=!inV (.str x) words:=by show ((decide (1<=x.length) && (decide (x.length<=8) && allIn x)) && !inV (.str x) words)=!inV (.str x) words;rw[m8 (p:=1<=x.length) (by lia),m8 k,g];rfl
   show Q (.bl (!inV (.str x) words)) a;rw[<-z];exact q a i
 ·have z:nameB v=false:=by
   show (pH 1 v && !inV v words)=false;cases d:pH 1 v with
   |false=>rfl
   |true=>obtain⟨x,rfl,F,k,g⟩:=aEo d;refine absurd ?_ c;show (decide (0<=x.length) && (decide (x.length<=8) && allIn x))=true;rw[m8 k,g,m8 (bAS _)];rfl
  rw[<-z];exact q a i
def aHq (T:Txt w K mg)(k:Ok P w K mg base 1 "is_whole" n7 (kO K))(j:Ok P w K mg base 1 "is_word" n7 (aA9 K (pH 0))) :
  Ok P w K mg base 2 "is_value" n7 (aA9 K yU):=by
 refine Ok.ofV T.aJ6 aG2 (by trivial) (λf g A a s H l Q E i h=>?_)
 obtain⟨v,rfl,c,q⟩:=h;refine⟨_,(aF (aP (bAr (bI k (va1 (vv 0))) (fJ (bI j (va1 (vv 0))))))),?_⟩;refine⟨_,rfl,_,rfl,c,_,rfl,?_⟩;cases b:whole v with
 |true=>
  refine bZ ?_;have z:yU v=true:=by show (whole v || pH 0 v)=true;rw[b];rfl
  rw[<-z];exact q H (Same.refl H)
 |false=>
  refine cA ⟨_,rfl,_,rfl,c,λe d=>?_⟩;have z:yU v=pH 0 v:=by show (whole v || pH 0 v)=pH 0 v;rw[b];rfl
  rw[<-z];exact q e d
def aJa (T:Txt w K mg)(e:Ok P w K mg base 1 "is_whole" n7 (kO K)):Ok P w K mg base 2 "kind_of" ["value"] (aNe K):=by
 refine Ok.ofV T.aNw aJu (by trivial) (λf d A a s H g Q E i h=>?_)
 obtain⟨v,rfl,c,q⟩:=h;refine⟨_,(aF (aP (aHc (cJ (bI e (va1 (vv 0)))) aQ aQ))),?_⟩;refine⟨_,rfl,_,rfl,c,_,rfl,?_⟩;cases b:whole v with
 |true=>rw[b] at q;exact bZ q
 |false=>rw[b] at q;exact cA q
def at0 (x:V)(r:List V):atI (x::r) 0=some x:=by unfold atI ixN;simp
def at1 (x y:V)(r:List V):atI (x::y::r) 1=some y:=by unfold atI ixN;simp only[j8];rw[if_pos (by lia),if_pos (by lia)];rfl
def bAn (R:Hp->V->Bool->Prop):Sp:=λvs H Q _=>∃v b,vs=[v]/\R H v b/\∀H',Same H H'->Q (.bl b) H'
def aJl (K:bE4):Sp:=λvs H Q _=>∃v a xs,vs=[v,.ref a]/\Th K H v/\SqT K H a xs/\xs.all iH=true/\Q (.bl (isS v && inV v xs)) H
inductive aB9 (K:bE4)(vs:List V)(H:Hp)(Q:VK)(E_:XK):Prop
 |mk (a:Addr) (ss:List Str) (_:vs=[.ref a]) (_:SqL K H a (ss.map V.str)) (_:ss.length<=1000) (_:∀H',Same H H'->Q (.bl (decide ss.Nodup)) H')
def aFl (T:Txt w K mg):Ok P w K mg base 1 "is_one_of" bQK (aJl K):=by
 refine Ok.ofV T.aGm aDj (by trivial) (λf l A c s H n Q E m h=>?_)
 obtain⟨v,a,j,rfl,d,e,g,q⟩:=h;refine⟨_,(aF (aP (eQ (aO (rZ.or oV) (by rfl) T.aY aW (aG (vv 0) (va1 (dB (v:=.ty "str") (by rfl) T.aXc aPu rfl)))) (fJ (oZ vJ (vv 0) (vv 1) (by with_unfolding_all rfl)))))),?_⟩;refine⟨_,rfl,sO d (.inr (.inr rfl)) ⟨_,rfl,?_⟩⟩;rcases id d with⟨x,rfl,_⟩|⟨i,rfl⟩|⟨b,rfl⟩|⟨k,h⟩
 ·exact bZ ⟨_,rfl,_,rfl,a,j,rfl,.inr e,rfl,g,q⟩
 ·exact cA q
 ·exact cA q
 ·cases h <;> exact cA q
def aBs (T:Txt w K mg):Ok P w K mg base 1 "are_unlike" ["names"] (aB9 K):=by
 refine Ok.ofV T.aEi aA4 (by trivial) (λf l A b s H m Q E n h=>?_)
 obtain⟨a,c,rfl,i,k,q⟩:=h;refine⟨_,(aF (aP (lH cV (aO aI9 (by rfl) T.fQ dI (va1 (bW (aJi rfl) (by rfl) T.aXd aPz (va1 (vv 0))))) (aO bM (by rfl) T.fQ dI (va1 (vv 0)))))),?_⟩;refine⟨_,rfl,a,c,rfl,i,k,λD j d g=>⟨D,j,rfl,aH,_,rfl,a,_,rfl,.inl ((aR d _).seq i),rfl,?_⟩⟩;have e:decide (V.int (j.length:Nat)=V.int (c.map V.str).length)=decide c.Nodup:=by rw[j0];exact decide_eq_decide.mpr ⟨λz=>(aGh g).mp (by have:=V.int.inj z;lia),λz=>by rw[(aGh g).mpr z]⟩
 rw[e];exact q _ (aR d _)
abbrev kinds:List V:=[.str "number",.str "word"]
inductive aNi (K:bE4)(H:Hp):V->Bool->Prop
 |no {v}:Tk K H v false->aNi K H v false
 |len {a xs}:SqT K H a xs->xs.length≠2->aNi K H (.ref a) false
 |two {a x y}:SqT K H a [x,y]->Th K H x->Th K H y->aNi K H (.ref a) (nameB x && (isS y && inV y kinds))
def aD7 (T:Txt w K mg)(r:Ok P w K mg base 2 "is_name" n7 (aA9 K nameB))(z:Ok P w K mg base 1 "is_one_of" bQK (aJl K)):Ok P w K mg base 3 "is_column" n7 (bAn (aNi K)):=by
 refine Ok.ofV T.aG0 aEh (by trivial) (λf m A g s H t Q E p h=>?_)
 obtain⟨v,b,rfl,o,q⟩:=h;obtain⟨l,n,j⟩:=T.aFs;have i:∃u,mg "KINDS"=some u/\RelV (.ref l) u:=⟨_,n,rfl⟩;refine⟨_,(aC (cF (VW.pt (iY (cR (cJ (aO fW (by rfl) T.aY aW (aG (vv 0) (va1 (dB (v:=.ty "tuple") (by rfl) T.eF dG rfl)))))) (gU (eY aG7 (aO bM (by rfl) T.fQ dI (va1 (vv 0))) aB)))) (aF (aP cN)) bB) (aF (aP (eQ (bI r (va1 (bO cD (vv 0) aB))) (fJ (bI z (aG (bO cD (vv 0) aB) (va1 (iG (by rfl) i))))))))),?_⟩;cases o with
 |no h=>exact⟨_,rfl,_,_,rfl,h,_,rfl,bZ (q H (Same.refl H))⟩
 |@len a xs ha d=>
  refine⟨_,rfl,_,_,rfl,.tup ha,_,rfl,cA ?_⟩;refine⟨_,rfl,_,_,rfl,.inr ha,rfl,_,rfl,?_⟩;have e:(!decide (V.int (xs.length:Nat)=V.int 2))=true:=by rw[m9 (by intro y;apply d;have:=V.int.inj y;lia)];rfl
  rw[e];exact bZ (q H (Same.refl H))
 |@two a x y ha hx hy=>
  refine⟨_,rfl,_,_,rfl,.tup ha,_,rfl,cA ?_⟩;refine⟨_,rfl,_,_,rfl,.inr ha,rfl,_,rfl,cA ?_⟩;refine⟨_,rfl,a,_,0,_,rfl,rfl,ha,at0 _ _,x,rfl,hx,λk c=>⟨_,rfl,?_⟩⟩;cases d:nameB x with
  |false=>rw[d] at q;exact cA (q k c)
  |true=>rw[d] at q;refine bZ ⟨_,rfl,a,_,1,_,rfl,rfl,c.bA ha,at1 _ _ _,y,l,kinds,rfl,hy.same c,j _,rfl,q k c⟩
def kindS (v:V):Str:=if whole v then "number" else "word"
def aJ4 (K:bE4):Sp:=λvs H Q _=>∃v k,vs=[v,.str k]/\Th K H v/\∀H',Same H H'->Q (.bl (yU v && decide (kindS v=k))) H'
def zM (T:Txt w K mg)(g:Ok P w K mg base 2 "is_value" n7 (aA9 K yU))(i:Ok P w K mg base 2 "kind_of" ["value"] (aNe K)):Ok P w K mg base 3 "is_value_of" bQO (aJ4 K):=by
 refine Ok.ofV T.aBr yQ (by trivial) (λf j A b s H m Q E l h=>?_)
 obtain⟨v,k,rfl,e,q⟩:=h;refine⟨_,(aF (aP (eQ (bI g (va1 (vv 0))) (fJ (lH cV (bI i (va1 (vv 0))) (vv 1)))))),?_⟩;refine⟨_,rfl,v,rfl,e,λd c=>⟨_,rfl,?_⟩⟩;cases a:yU v with
 |false=>rw[a] at q;exact cA (q d c)
 |true=>rw[a] at q;refine bZ ⟨_,rfl,v,rfl,e.same c,_,rfl,rfl,?_⟩;have z:decide (V.str (if whole v then "number" else "word")=V.str k)=decide (kindS v=k):=decide_eq_decide.mpr ⟨λy=>V.str.inj y,λy=>congrArg V.str y⟩;rw[z];exact q d c
def at2 (x y z:V)(r:List V):atI (x::y::z::r) 2=some z:=by unfold atI ixN;simp only[j8];rw[if_pos (by lia),if_pos (by lia)];rfl
def aFp {K:bE4}{H:Hp}{x:Str}(h:x.length<=8):Th K H (.str x):=.inl ⟨x,rfl,by lia⟩
def Nm (x:Str):Prop:=nameB (.str x)=true
def gO {x:Str}(h:nameB (.str x)=true):x.length<=8:=by have h:(pH 1 (.str x) && !inV (.str x) words)=true:=h;rw[bAB] at h;obtain⟨y,e,_,a,_⟩:=aEo h.1;cases e;exact a
def Nm.th {K:bE4}{H:Hp}{x:Str}(h:Nm x):Th K H (.str x):=aFp (gO h)
inductive cP {α β:Type}(R:α->β->Prop):List α->List β->Prop
 |nil:cP R [] []
 |cons {a b as bs}:R a b->cP R as bs->cP R (a::as) (b::bs)
def cP.len {α β:Type}{R:α->β->Prop}{as:List α}{bs:List β}(h:cP R as bs):as.length=bs.length:=by
 induction h with
 |nil=>rfl
 |cons _ _ ih=>rw[j8,j8,ih]
def cP.imp {α β:Type}{R S:α->β->Prop}{as:List α}{bs:List β}(h:cP R as bs)(k:∀a b,R a b->S a b):cP S as bs:=by
 induction h with
 |nil=>exact .nil
 |cons r _ ih=>exact .cons (k _ _ r) ih
def cP.app {α β:Type}{R:α->β->Prop}{as cs:List α}{bs ds:List β}(h:cP R as bs)(k:cP R cs ds):cP R (as++cs) (bs++ds):=by
 induction h with
 |nil=>exact k
 |cons r _ ih=>exact .cons r ih
def wR {α:Type}(K:bE4)(H:Hp)(R:V->α->Prop)(v:V)(xs:List α):Prop:=∃a vs,v=.ref a/\SqT K H a vs/\cP R vs xs
def wR.same {α:Type}{K:bE4}{H H':Hp}{R S:V->α->Prop}{v:V}{xs:List α}(e:Same H H')(k:∀a b,R a b->S a b)(h:wR K H R v xs):wR K H' S v xs:=by obtain⟨a,f,rfl,c,d⟩:=h;exact⟨a,f,rfl,e.bA c,d.imp k⟩
abbrev Hdr:=List (Str × Str)
def IsC (K:bE4)(H:Hp)(v:V)(c:Str × Str):Prop:=∃p,v=.ref p/\SqT K H p [.str c.1,.str c.2]
def IsC.same {K:bE4}{H H':Hp}{v:V}{c:Str × Str}(e:Same H H')(h:IsC K H v c):IsC K H' v c:=by obtain⟨p,rfl,a⟩:=h;exact⟨p,rfl,e.bA a⟩
def gY (K:bE4)(H:Hp)(v:V)(hd:Hdr):Prop:=wR K H (IsC K H) v hd
def gY.same {K:bE4}{H H':Hp}{v:V}{hd:Hdr}(e:Same H H')(h:gY K H v hd):gY K H' v hd:=wR.same e (λ_ _ q=>q.same e) h
def look (hd:Hdr)(n:Str):Option Str:=(hd.find? λc=>decide (c.1=n)).map (·.2)
theorem aFm {n k:Str}:∀{hd:Hdr},look hd n=some k->∃i,hd[i]?=some (n,k)/\∀(j:Nat) (c:Str × Str),j<i->hd[j]?=some c->c.1≠n
 |[],h=>by cases h
 |(m,j)::r,h=>by
  unfold look at h;rw[bCB] at h;by_cases e:m=n
  ·rw[m8 (p:=(m,j).1=n) e] at h;have l:j=k:=bAQ h;subst e l;exact⟨0,rfl,λj c b=>absurd b (bEK _)⟩
  ·rw[m9 (p:=(m,j).1=n) e] at h;obtain⟨i,g,f⟩:=aFm (hd:=r) h;refine⟨i+1,by simpa using g,λa c b d=>?_⟩;cases a with
   |zero=>cases d;exact e
   |succ a=>exact f a c (by lia) (by simpa using d)
theorem cW {α β:Type}{R:α->β->Prop}:∀{as:List α} {bs:List β},cP R as bs->∀{i:Nat} {a:α},as[i]?=some a->∃b,bs[i]?=some b/\R a b
 |_,_,.cons r t,0,_,h1=>by cases h1;exact⟨_,rfl,r⟩
 |_,_,.cons r t,i+1,a,h1=>by obtain⟨b,e,q⟩:=cW t (i:=i) (a:=a) (by simpa using h1);exact⟨b,by simpa using e,q⟩
def aSb (K:bE4):Sp:=λvs H Q _=>∃vh n hd k,vs=[vh,.str n]/\gY K H vh hd/\look hd n=some k/\Q (.str k) H
def aLf (T:Txt w K mg):Ok P w K mg base 1 "kind_in" bQC (aSb K):=by
 refine Ok.ofV T.aOu yH (by trivial) (λf D A d s H G Q E L h=>?_)
 obtain⟨F,n,J,k,rfl,⟨a,o,rfl,m,t⟩,v,q⟩:=h;have I:=yH.nd;refine⟨_,(aC (eO PassesOwn.never rfl (oH (vv 0)) (cL 2) (aF (cF (eY cV (bO (dU (K:=K)) (vv 2) aB) (vv 1)) (aF (aP (bO (dU (K:=K)) (vv 2) aB))) bB))) (aF aRu)),?_⟩;obtain⟨j,r,y⟩:=aFm v;have B:j<o.length:=by rw[t.len];exact (List.getElem?_eq_some_iff.mp r).1
 refine⟨_,rfl,a,rfl,⟨_,m⟩,aWj (xs:=o) (λi σ b=>b=H/\i<=j/\∃l,σ=[some (.ref a),some (.str n),l]) ⟨rfl,bAS _,_,rfl⟩ (λi σ b _ ⟨e,_⟩=>by rw[e];exact m) ?_ ?_⟩
 ·rintro i x σ b hx ⟨rfl,hi,l,rfl⟩;obtain⟨c,g,p,rfl,u⟩:=cW t hx;refine⟨_,rfl,p,_,0,_,rfl,rfl,u,at0 _ _,_,rfl,rfl,_,rfl,?_⟩;by_cases e:i=j
  ·subst e;rw[r] at g;cases g;rw[m8 rfl];exact bZ ⟨_,rfl,p,_,1,_,rfl,rfl,u,at1 _ _ _,q⟩
  ·have C:=y i c (by lia) g;rw[m9 (by intro z;exact C (V.str.inj z))];exact cA ⟨rfl,by lia,_,rfl⟩
 ·rintro σ b ⟨rfl,hi,_⟩;lia
def aJz {α:Type}{f:α->V}{xs:List α}{i:Nat}{y:V}(h:(xs.map f)[i]?=some y):∃x,xs[i]?=some x/\y=f x:=by
 rw[m5] at h;cases e:xs[i]? with
 |none=>rw[e] at h;cases h
 |some x=>rw[e] at h;cases h;exact⟨x,rfl,rfl⟩
def Good (hd:Hdr):Prop:=(hd.map (·.1)).Nodup/\1<=hd.length/\hd.length<=8
def aD3 (K:bE4):Sp:=λvs H Q _=>∃v hd,vs=[v]/\gY K H v hd/\hd.length<=1000/\∀D H',Same H H'->H' D=some (.lst ((hd.map (·.1)).map V.str))->Q (.ref D) H'
def aDv (T:Txt w K mg):Ok P w K mg base 1 "names_of" ["head"] (aD3 K):=by
 refine Ok.ofV T.aJk aF6 (by trivial) (λf G A d s H L Q E W h=>?_)
 obtain⟨v,C,rfl,⟨a,u,rfl,t,g⟩,I,q⟩:=h;refine⟨_,(aF (aP (dF (N:=["column"]) ck gR rfl (oH (vv 0)) (λJ O b M=>⟨(jB 0),dX,(bO (dU (K:=K)) (vv 0) aB)⟩)))),?_⟩;have S:=g.len;refine aVo u ((C.map (·.1)).map V.str) (by rw[j0,j0];lia) [none] uX (small (by lia)) (λR r=>aXh t (λU B=>⟨_,rfl,B⟩) R r) (λi x y z o b R l e r=>?_) rfl λD b e k=>q D b e k;obtain⟨c,m,p,rfl,F⟩:=cW g z;obtain⟨n,j,rfl⟩:=aJz o;rw[m5,m] at j;cases j;exact⟨_,rfl,p,_,0,_,rfl,rfl,e.bA F,at0 _ _,r b (Same.refl b)⟩
def plc:Hdr->Str->Nat
 |[],_=>0
 |c::r,n=>if c.1=n then 0 else plc r n+1
theorem aKi {n k:Str}:∀{hd:Hdr},look hd n=some k->hd[plc hd n]?=some (n,k)/\∀(j:Nat) (c:Str × Str),j<plc hd n->hd[j]?=some c->c.1≠n
 |[],h=>by cases h
 |(m,q)::r,h=>by
  unfold look at h;rw[bCB] at h;by_cases e:m=n
  ·rw[m8 (p:=(m,q).1=n) e] at h;have g:q=k:=bAQ h;subst e g;have z:plc ((m,q)::r) m=0:=if_pos rfl;rw[z];exact⟨rfl,λj c a=>absurd a (bEK _)⟩
  ·rw[m9 (p:=(m,q).1=n) e] at h;obtain⟨f,d⟩:=aKi (hd:=r) h;have z:plc ((m,q)::r) n=plc r n+1:=if_neg e;rw[z];refine⟨by simpa using f,λj c a b=>?_⟩;cases j with
   |zero=>cases b;exact e
   |succ j=>exact d j c (by lia) (by simpa using b)
def aIe (K:bE4):Sp:=λvs H Q _=>∃vh n hd k,vs=[vh,.str n]/\gY K H vh hd/\hd.length<=1000/\look hd n=some k/\∀H',Same H H'->Q (.int (plc hd n:Nat)) H'
def aHz (T:Txt w K mg)(z:Ok P w K mg base 1 "names_of" ["head"] (aD3 K)):Ok P w K mg base 2 "place_of" bQC (aIe K):=by
 refine Ok.ofV T.aJg aIp (by trivial) (λf y A a s H B Q E C h=>?_)
 obtain⟨p,n,b,k,rfl,o,d,i,q⟩:=h;obtain⟨x,u⟩:=aKi i;refine⟨_,(aF (aP (vN PySem.F.plainAttrs_list PySem.F.slot_list_index PySem.F.type_list_index aNn (bI z (va1 (vv 0))) (va1 (vv 1))))),?_⟩;refine⟨_,rfl,p,b,rfl,o,d,λD v t e=>?_⟩;refine⟨.inl ⟨rfl,_,SqL.of e⟩,_,rfl,D,b.map (·.1),n,plc b n,rfl,rfl,SqL.of e,by rw[j0];exact d,by rw[m5,x];rfl,λj m r g=>?_,q v t⟩;rw[m5] at g;obtain⟨c,l,rfl⟩:=Option.map_eq_some_iff.mp g;exact u j c r l
def oX {n:Str}{ss:List Str}:inV (.str n) (ss.map V.str)=decide (n∈ss):=by
 unfold inV;rw[bCG,bDV,decide_eq_true_eq];constructor
 ·rintro⟨v,d,e⟩;obtain⟨z,a,rfl⟩:=List.mem_map.mp d;have b:(z == n)=true:=e;have c:z=n:=by simpa using b
  rw[<-c];exact a
 ·intro h;refine⟨.str n,List.mem_map.mpr ⟨n,h,rfl⟩,?_⟩;show (n == n)=true;simp
def yE {ss:List Str}:(ss.map V.str).all iH=true:=by rw[bCM];intro v a;obtain⟨z,_,rfl⟩:=List.mem_map.mp a;rfl
def aMb {z:Str}{j:Int}(h0:0<=j)(h1:j<z.length):∃c,z.cps[j.toNat]?=some c:=
 ⟨_,v5 (by show j.toNat<z.length;lia)⟩
def aD8 (x y:Str):(x++y).length=x.length+y.length:=by show (x.cps++y.cps).size=_;rw[Array.size_append];rfl
def at_of {xs:List V}{j:Int}(h0:0<=j)(h1:j<xs.length):∃v,atI xs j=some v/\v∈xs:=by
 have a:j.toNat<xs.length:=by lia
 refine⟨xs[j.toNat],?_,bBH a⟩;have b:atI xs ((j.toNat:Nat):Int)=some xs[j.toNat]:=bV (b8 a);rw[show ((j.toNat:Nat):Int)=j by lia] at b;exact b
def Lets (x:Str):Prop:=∀c∈x.cps,97<=c/\c<=122
def aWn:∀k:_root_.Fin 26,inA ⟨#[97+k.val]⟩=true:=by trivial
def aX0 {c:Nat}(h1:97<=c)(h2:c<=122):inA ⟨#[c]⟩=true:=by have:=aWn ⟨c - 97,by lia⟩;simp only at this;rw[show 97+(c - 97)=c by lia] at this;exact this
def allIn_of {x:Str}(h:Lets x):allIn x=true:=by
 unfold allIn;rw[bCM];intro b d;obtain⟨i,g,rfl⟩:=List.mem_map.mp d;have a:i<x.cps.size:=List.mem_range.mp g;have e:x.cps.getD i 0=x.cps[i]:=by rw[bAK,v5 a];rfl
 obtain⟨c,f⟩:=h _ (Array.getElem_mem a);show inA (sgn x i)=true;unfold sgn;rw[e];exact aX0 c f
def Lets.add {x y:Str}(d:Lets x)(b:Lets y):Lets (x++y):=λc a=>by
 have a:c∈x.cps++y.cps:=a;rcases Array.mem_append.mp a with h|h
 ·exact d c h
 ·exact b c h
def Lets.one {z:Str}{i c:Nat}(hz:Lets z)(h:z.cps[i]?=some c):Lets ⟨#[c]⟩:=λd a=>by
 have a:d∈#[c]:=a;have e:d=c:=by simpa using a
 subst e;exact hz _ (Array.mem_of_getElem? h)
def aH7:Lets abc:=by
 have h:(abc.cps.all λc=>decide (97<=c) && decide (c<=122))=true:=by trivial
 intro c a;have:=(Array.all_eq_true_iff_forall_mem.mp h) c a;rw[bAB] at this;exact⟨of_decide_eq_true this.1,of_decide_eq_true this.2⟩
inductive cU:Str->V->Prop
 |num {i}:cU "number" (.int i)
 |wrd {x}:Lets x->x.length<=8->cU "word" (.str x)
def val (c:Nat):Int:=(c:Int) - 96
def num (x:Str):Nat->Int
 |0=>0
 |n+1=>num x n * 27+val (x.cps.getD n 0)
def aU1:∀k:_root_.Fin 26,Builtin.Str.occurrences abc ⟨#[97+k.val]⟩ 0 abc.length 1=[k.val]:=by trivial
def occ {c:Nat}(h1:97<=c)(h2:c<=122):Builtin.Str.occurrences abc ⟨#[c]⟩ 0 abc.length 1=[c - 97]:=by
 have h:=aU1 ⟨c - 97,by lia⟩;have e:97+(c - 97)=c:=by lia
 simpa [e] using h
def Vl (v:V):Prop:=(∃i,v=.int i)\/∃x,v=.str x/\Lets x/\x.length<=8
def nm:V->Int
 |.int i=>i
 |.str x=>num x x.cps.size
 |_=>0
def Lets.at {x:Str}(h:Lets x){i:Nat}(a:i<x.cps.size):97<=x.cps.getD i 0/\x.cps.getD i 0<=122:=by rw[bAK,v5 a];exact h _ (Array.getElem_mem a)
def Vl.th {K:bE4}{H:Hp}{v:V}(h:Vl v):Th K H v:=by
 rcases h with⟨i,rfl⟩|⟨x,rfl,_,h8⟩
 ·exact .inr (.inl ⟨i,rfl⟩)
 ·exact .inl ⟨x,rfl,by lia⟩
def aL1:Sp:=λvs H Q _=>∃x,vs=[.str x]/\Lets x/\Q (.int (num x x.cps.size)) H
def aMw:Sp:=λvs H Q _=>∃v h,vs=[v,.int h]/\Vl v/\0<h/\Q (.int (nm v % h)) H
def zU (T:Txt w K mg):Ok P w K mg base 1 "word_number" ["word"] aL1:=by
 refine Ok.ofV T.aBq mZ (by trivial) (λf j A a s H m Q E o h=>?_)
 obtain⟨x,rfl,d,q⟩:=h;have k:=mZ.nd;refine⟨_,(aC (bJ 1 aB) (aC (eO PassesOwn.never rfl (aP6 (vv 0)) (cL 2) (aF (bJ 1 (bK dO (bK dO (bK vB (vv 1) (iG (by rfl) T.aGs)) (vN PySem.F.plainAttrs_str PySem.F.slot_str_index PySem.F.type_str_index aPk (iG (by rfl) T.aCm) (va1 (vv 2)))) aB)))) (aF (aP (vv 1))))),?_⟩;refine⟨_,rfl,_,rfl,aWi (x:=x) (λi σ b=>b=H/\∃l,σ=[some (.str x),some (.int (num x i)),l]) ⟨rfl,_,rfl⟩ ?_ ?_⟩
 ·rintro i σ b hi ⟨rfl,l,rfl⟩;obtain⟨g,c⟩:=d.at hi;refine⟨_,rfl,_,_,rfl,rfl,.inr ⟨by decide,by decide⟩,rfl,_,rfl,_,_,_,_,rfl,rfl,occ g c,_,_,rfl,rfl,_,_,rfl,rfl,rfl,some (.str (sgn x i)),?_⟩;have e:num x i * 27+((x.cps.getD i 0 - 97:Nat):Int)+1=num x (i+1):=by show num x i * 27+((x.cps.getD i 0 - 97:Nat):Int)+1=num x i * 27+((x.cps.getD i 0:Int) - 96);lia
  exact congrArg (λn=>[some (V.str x),some (V.int n),some (V.str (sgn x i))]) e
 ·rintro σ b ⟨rfl,l,rfl⟩;exact⟨_,rfl,q⟩
def aUs (T:Txt w K mg)(k:Ok P w K mg base 1 "is_whole" n7 (kO K))(e:Ok P w K mg base 1 "word_number" ["word"] aL1):Ok P w K mg base 2 "home" bQQ aMw:=by
 refine Ok.ofV T.aYp aMh (by trivial) (λf g A a s H m Q E j h=>?_)
 obtain⟨v,h,rfl,c,d,q⟩:=h;have l:=aMh.nd;refine⟨_,(aC (bJ 2 (aHc (cJ (bI k (va1 (vv 0)))) (vv 0) (bI e (va1 (vv 0))))) (aF (aP (bK nJ (vv 2) (vv 1))))),?_⟩;have b:=c.th (K:=K) (H:=H);rcases c with⟨i,rfl⟩|⟨x,rfl,hx,h8⟩
 ·exact⟨_,rfl,_,rfl,b,_,rfl,bZ ⟨_,rfl,_,rfl,_,rfl,_,_,rfl,rfl,d,q⟩⟩
 ·exact⟨_,rfl,_,rfl,b,_,rfl,cA ⟨_,rfl,_,rfl,hx,_,rfl,_,rfl,_,_,rfl,rfl,d,q⟩⟩
end
end My
namespace PySem.W
open PySem PySem.Calls PyProof.Rows
def KasT.ev {α:Type}(f:Nat->Nat->Bool):KasT α->α
 |.ret a=>a
 |.ask i j k=>(k (f i j)).ev f
inductive KasT.Low {α:Type}(n:Nat)(P:α->Prop):KasT α->Prop
 |ret {a}:P a->KasT.Low n P (.ret a)
 |ask {i j k}:i<n->j<n->(∀b,KasT.Low n P (k b))->KasT.Low n P (.ask i j k)
def KasT.Low.bind {α β:Type}{n:Nat}{P:α->Prop}{R:β->Prop}{t:KasT α}{f:α->KasT β}(h:t.Low n P)(c:∀a,P a->(f a).Low n R):(t.bind f).Low n R:=by
 induction h with
 |ret h=>exact c _ h
 |ask a b _ ih=>exact .ask a b ih
def KasT.Low.of {α:Type}{n:Nat}{P:α->Prop}{t:KasT α}(h:t.Low n P)(f:Nat->Nat->Bool):P (t.ev f):=by
 induction h with
 |ret h=>exact h
 |@ask i j k a b _ ih=>exact ih (f i j)
def aXg {α:Type}{n:Nat}{P:α->Prop}{f:Nat->Nat->Bool}{cmp:Nat->Nat->(Bool->Shared->Prop)->Shared->Prop}{s:Shared}(c:∀i j C,i<n->j<n->C (f i j) s->cmp i j C s){t:KasT α}(h:t.Low n P){Q:α->Shared->Prop}(q:Q (t.ev f) s):t.kasWp cmp Q s:=by
 induction h with
 |ret h=>exact q
 |@ask i j k a b _ ih=>exact c i j _ a b (ih (f i j) q)
def Pl (n:Nat)(p:Array Nat):Prop:=p.size=n/\∀k,p.getD k 0<n
def Pl.perm {n:Nat}{p q:Array Nat}(h:Pl n p)(e:q.Perm p)(g:0<n):Pl n q:=by
 refine⟨e.size_eq.trans h.1,λk=>?_⟩;by_cases b:k<q.size
 ·have f:q[k]∈p.toList:=(Array.perm_iff_toList_perm.mp e).mem_iff.mp (by simp);obtain⟨j,c,d⟩:=bCV f;have a:j<p.size:=by simpa using c
  have:=h.2 j;rw[bAK,v5 a,bBP] at this;rw[bAK,v5 b,bBP,<-d];simpa using this
 ·rw[bAK,bBK (by lia)];exact g
theorem aFg {n:Nat}{p:Array Nat}(h:Pl n p):∀f m,(kas_asc p f m).Low n (λr=>m<=r/\r<=m+f)
 |0,m=>.ret ⟨j5 _,j5 _⟩
 |f+1,m=>by
  refine .ask (h.2 _) (h.2 _) λc=>?_;by_cases e:c=true
  ·rw[if_pos e];exact .ret ⟨j5 _,by lia⟩
  ·rw[if_neg e];have z:=aFg h f (m+1);generalize kas_asc p f (m+1)=t at z
   induction z with
   |ret q=>exact .ret ⟨by lia,by lia⟩
   |ask a b _ ih=>exact .ask a b ih
theorem rO {n:Nat}(a:0<n):∀(f:Nat) (p:Array Nat) (m q:Nat),Pl n p->(kas_desc f p m q).Low n (λr=>Pl n r.1)
 |0,p,m,q,h=>.ret h
 |f+1,p,m,q,h=>by
  refine .ask (h.2 _) (h.2 _) λc=>?_;by_cases e:c=true
  ·rw[if_pos e];by_cases b:q > 0
   ·rw[if_pos b];exact rO a f _ _ _ (h.perm (mirror_perm _ _ _ _) a)
   ·rw[if_neg b];exact rO a f _ _ _ h
  ·rw[if_neg e];refine .ask (h.2 _) (h.2 _) λd=>?_;by_cases g:d=true
   ·rw[if_pos g];exact .ret h
   ·rw[if_neg g];exact rO a f _ _ _ h
def aDc {n:Nat}(b:0<n){p:Array Nat}(h:Pl n p)(m nrem:Nat):(kas_tail3 m nrem p).Low n (λr=>Pl n r.2):=by have a:Pl n (kas_rev p 0 m):=h.perm (mirror_perm _ _ _ _) b;exact (aFg a _ _).bind λ_ _=>.ret a
def sE {n:Nat}(a:0<n){p:Array Nat}(h:Pl n p)(m nrem:Nat):(kas_descPart m nrem p).Low n (λr=>Pl n r.2):=by
 refine (rO a _ _ _ _ h).bind λr b=>?_;by_cases e:r.2.2 > 0
 ·rw[if_pos e];exact aDc a (b.perm (mirror_perm _ _ _ _) a) _ _
 ·rw[if_neg e];exact aDc a b _ _
def aPi {n:Nat}(d:0<n){p:Array Nat}(h:Pl n p)(f:Nat):(kas_count f p).Low n (λr=>Pl n r.2):=by
 refine (aFg h _ _).bind λm _=>?_;by_cases e:(m == f)=true
 ·rw[if_pos e];exact .ret h
 ·rw[if_neg e];by_cases a:m > 1
  ·rw[if_pos a];refine .ask (h.2 _) (h.2 _) λc=>?_;by_cases b:c=true
   ·rw[if_pos b];exact .ret h
   ·rw[if_neg b];exact sE d (h.perm (mirror_perm _ _ _ _) d) _ _
  ·rw[if_neg a];exact sE d h _ _
theorem vH {n:Nat}{p:Array Nat}(h:Pl n p)(k:Nat):∀f l r,(kas_place p k f l r).Low n (λ_=>True)
 |0,l,r=>.ret trivial
 |f+1,l,r=>by
  unfold kas_place;by_cases e:l ≥ r
  ·rw[if_pos e];exact .ret trivial
  ·rw[if_neg e];refine .ask (h.2 _) (h.2 _) λc=>?_;by_cases a:c=true
   ·rw[if_pos a];exact vH h k f _ _
   ·rw[if_neg a];exact vH h k f _ _
theorem aLw {n:Nat}(a:0<n):∀(f:Nat) (p:Array Nat) (k:Nat),Pl n p->(kas_bin f p k).Low n (Pl n)
 |0,p,k,h=>.ret h
 |f+1,p,k,h=>(vH h k k 0 k).bind λl _=>aLw a f _ _ (h.perm (bubble_perm _ _ _) a)
def aSy {n:Nat}(a:0<n):Pl n (List.toArray (List.range n)):=by
 refine⟨by simp,λk=>?_⟩;rw[bAK,bD9];by_cases h:k<n
 ·rw[bC5 h];exact h
 ·rw[bAO (by simpa using h)];exact a
def aA0 {n:Nat}(b:0<n):(kas_sort n).Low n (Pl n):=by
 refine (aPi b (aSy b) n).bind λr a=>?_;by_cases e:r.1<n
 ·rw[if_pos e];exact aLw b _ _ _ a
 ·rw[if_neg e];exact .ret a
def lC (n:Nat)(f:Nat->Nat->Bool):List Nat:=if n<2 then List.range n else ((kas_sort n).ev f).toList
def aCl (n:Nat)(f:Nat->Nat->Bool):(lC n f).length=n:=by
 unfold lC;by_cases h:n<2
 ·rw[if_pos h,bAL]
 ·rw[if_neg h,v9];exact ((aA0 (by lia)).of f).1
def vG {n:Nat}{f:Nat->Nat->Bool}{i:Nat}(h:i∈lC n f):i<n:=by
 unfold lC at h;by_cases b:n<2
 ·rw[if_pos b] at h;exact List.mem_range.mp h
 ·rw[if_neg b] at h;have z:=(aA0 (n:=n) (by lia)).of f;obtain⟨j,c,e⟩:=bCV h;have a:j<((kas_sort n).ev f).size:=by simpa using c
  have:=z.2 j;rw[bAK,v5 a,bBP] at this;rw[<-e];simpa using this
section
variable {prog:Program}{w:World}{A:Around}{E:bE5}{s:Shared}{f:Nat->Nat->Bool}
def wV {a:Addr}{vs:List Value}{n:Nat}{P:PySem.Fin->Shared->Prop}(B:s.heap.get? a=some (seqObj "list" vs.toArray n))(N:vs.length<64)
  (F:2<=vs.length->∀h',(∀b o,b≠a->s.heap.get? b=some o->h'.get? b=some o)->∃κ,(∀(Q:SortKind->Shared->Prop),Q κ { s with heap:=h' }->wpAny (model prog w) A (keyKind' vs.toArray) Q (λ_ _=>False) { s with heap:=h' })/\∀i j (C:Bool->Shared->Prop),i<vs.length->j<vs.length->C (f i j) { s with heap:=h' }->kas_ask prog w A κ vs i j C { s with heap:=h' })
  (h:P (.done (.ret .none)) { s with heap:=sortedHeap s.heap a vs (List.toArray ((lC vs.length f).map λi=>vs.getD i Value.none)) }) :
  wpAny (model prog w) A (Builtin.«list.sort» ⟨[.ref a],[]⟩) P E s:=by
 rw[list_sort_plain];have G:a<s.heap.objs.size:=j7 B;refine b7 (listItems_at B rfl ?_);refine b7 (listUpdate_at B rfl ?_ (by rw[j6,sizeLine_eq];lia) (bAS _));obtain⟨z,m⟩:∃z,(s.heap.update a (Obj.mapSeq λ_=>#[])).get? a=some (seqObj "list" #[] z):=⟨_,get?_update_seq B (λ_=>#[])⟩;refine b7 (seqEpoch_at m rfl ?_);refine b7 (bES ?_ (by show vs.length<=_;rw[sizeLine_eq];lia));refine b7 (wpAny_newList ?_ (bAS _));refine bAP ?_;have g:(((s.heap.update a (Obj.mapSeq λ_=>#[])).push (seqObj "tuple" vs.toArray 0)).push (seqObj "list" #[] 0)).get? a=some (seqObj "list" #[] z):=by rw[bD7 _ _ _ (by rw[size_push',Heap.size_update];exact v6 (bCF G)),bD7 _ _ _ (by rw[Heap.size_update];exact v6 G)];exact m
 have v:∀b o,b≠a->s.heap.get? b=some o->(((s.heap.update a (Obj.mapSeq λ_=>(#[]:Array Value))).push (seqObj "tuple" vs.toArray 0)).push (seqObj "list" #[] 0)).get? b=some o:=λb o L q=>by refine d7 _ (d7 _ ?_);rw[bDX _ _ _ _ L];exact q
 show wpAny (model prog w) A _ P E { s with heap:=((s.heap.update a (Obj.mapSeq λ_=>#[])).push (seqObj "tuple" vs.toArray 0)).push (seqObj "list" #[] 0) };dsimp only;have l:vs.toArray.size=vs.length:=by simp
 by_cases k:vs.toArray.size<2
 ·rw[if_pos k,if_pos k];refine b7 (d8 ?_);rw[StateT.run_pure];refine b7 (d8 ?_);dsimp only;refine b7 (seqEpoch_at g rfl ?_);refine b7 (listUpdate_at g rfl ?_ (hsz2:=by rw[Array.size_map];show (pairsOf vs).size<=_;rw[pairsOf_size,sizeLine_eq];lia));simp only[bne_self_eq_false,bAZ,if_false];refine d8 ?_;have e:((arrOf (SortSt.mk' general' (vs.toArray.zip vs.toArray) #[] 7 none)).map (·.2))=List.toArray ((lC vs.length f).map λi=>vs.getD i Value.none):=by
   show ((vs.toArray.zip vs.toArray).map (·.2))=_;unfold lC;rw[if_pos (by lia)]
   match vs,l,k with
   |[],_,_=>simp
   |[x],_,_=>simp[List.range,List.range.loop]
   |_::_::_,l,k=>rw[l,j8,j8] at k;lia
  rw[e];exact h
 ·rw[if_neg k,if_neg k];have u:2<=vs.length:=by lia
  obtain⟨κ,y,D⟩:=F u _ v;refine b7 (bAY (y (fun H c=>(kas_sort vs.length).kasWp (kas_ask prog w A H vs) (λp c=>c={ s with heap:=((s.heap.update a (Obj.mapSeq λ_=>#[])).push (seqObj "tuple" vs.toArray 0)).push (seqObj "list" #[] 0) }/\p=(kas_sort vs.length).ev f) c) (aXg (n:=vs.length) (P:=Pl vs.length) (f:=f) (cmp:=kas_ask prog w A κ vs) (t:=kas_sort vs.length) D (aA0 (by lia)) (Q:=λp c=>c={ s with heap:=((s.heap.update a (Obj.mapSeq λ_=>#[])).push (seqObj "tuple" vs.toArray 0)).push (seqObj "list" #[] 0) }/\p=(kas_sort vs.length).ev f) ⟨rfl,rfl⟩)) (fun H R F=>?_) λ_ _ x=>x.elim);refine b7 (bAY (kat_run (Q:=λd c=>∃p:Array Nat,p.size=vs.length/\arrOf d=p.map (kas_item (vs.toArray.zip vs.toArray))/\failedOf d=none/\c={ s with heap:=((s.heap.update a (Obj.mapSeq λ_=>#[])).push (seqObj "tuple" vs.toArray 0)).push (seqObj "list" #[] 0) }/\p=(kas_sort vs.length).ev f)
   rfl u N (λM d c O I J K=>⟨M,O,I,J,K⟩) F) ?_ λ_ _ e=>e)
  rintro⟨⟨⟩,d⟩ c ⟨p,hp,har,hf,rfl,rfl⟩;dsimp only;have r:=kat_snds rfl har;rw[r];refine b7 (seqEpoch_at g rfl ?_);refine b7 (listUpdate_at g rfl ?_ (bAS _) (by rw[j6,j0,v9,hp,sizeLine_eq];lia));rw[hf];simp only[bne_self_eq_false,bAZ,if_false];refine d8 ?_;have e:lC vs.length f=((kas_sort vs.length).ev f).toList:=by unfold lC;rw[if_neg (by lia)]
  rw[e] at h;exact h
def aEy {l:Addr}{vs:List Value}{Q:bE5}(p:s.heap.IsList l vs.toArray)(n:vs.length<64)
  (r:2<=vs.length->∀h',(∀b o,s.heap.get? b=some o->h'.get? b=some o)->∃κ,(∀(Q:SortKind->Shared->Prop),Q κ { s with heap:=h' }->wpAny (model prog w) A.in1.in1 (keyKind' vs.toArray) Q (λ_ _=>False) { s with heap:=h' })/\∀i j (C:Bool->Shared->Prop),i<vs.length->j<vs.length->C (f i j) { s with heap:=h' }->kas_ask prog w A.in1.in1 κ vs i j C { s with heap:=h' })
  (h:Q (.ref (s.heap.objs.size+1)) { s with heap:=sortedAll s.heap vs (List.toArray ((lC vs.length f).map λi=>vs.getD i Value.none)) }) :
  wpAny (model prog w) A (call (.builtin "sorted") [.ref l]) Q E s:=by
 refine Calls.call_function_entry kind_sorted plain_sorted entry_sorted (args_sorted1 _) ?_;unfold Builtin.«sorted»;refine b7 (m:=checkCount "sorted" 1 1 _) (d8 ?_);refine b7 (collect_list p ?_ (by rw[sizeLine_eq];lia));refine b7 (wpAny_newList ?_ (by rw[sizeLine_eq];lia));have c:((s.heap.push (seqObj "list" #[] 0)).update s.heap.objs.size (Obj.mapSeq (·++vs.toArray))).objs.size=s.heap.objs.size+1:=by rw[Heap.size_update,size_push']
 have d:(((s.heap.push (seqObj "list" #[] 0)).update s.heap.objs.size (Obj.mapSeq (·++vs.toArray))).push (seqObj "list" vs.toArray 0)).get? (s.heap.objs.size+1)=some (seqObj "list" vs.toArray 0):=by rw[<-c];exact j4 _ rfl
 have e:∀b o,s.heap.get? b=some o->(((s.heap.push (seqObj "list" #[] 0)).update s.heap.objs.size (Obj.mapSeq (·++vs.toArray))).push (seqObj "list" vs.toArray 0)).get? b=some o:=λb o q=>by have a:b<s.heap.objs.size:=j7 q;rw[bD7 _ _ _ (by rw[c];exact v6 (bCF a)),bDX _ _ _ _ (v6 a),bD7 _ _ _ (v6 a)];exact q
 show wpAny _ _ _ _ _ { s with heap:=((s.heap.push (seqObj "list" #[] 0)).update s.heap.objs.size (Obj.mapSeq (·++vs.toArray))).push (seqObj "list" vs.toArray 0) };rw[c];refine b7 (bAP (bAH slot_list_sort ⟨_,d,rfl⟩ entry_list_sort (wV (f:=f) (s:={ s with heap:=((s.heap.push (seqObj "list" #[] 0)).update s.heap.objs.size (Obj.mapSeq (·++vs.toArray))).push (seqObj "list" vs.toArray 0) }) d n (λk h' g=>r k h' λb o q=>g b o (v6 (bCF (j7 q))) (e b o q)) ⟨_,rfl,?_⟩) (args_list_sort _)));exact d8 ⟨_,rfl,h⟩
end
section
variable {f:Nat->Nat->Bool}
end
section
variable {prog:Program}{w:World}{A:Around}{E:bE5}{s:Shared}{f:Nat->Nat->Bool}
end
def aAp {pos:Pos}{a b:Int}{c cv:Value}(l:List Value)(h:TriplesOk l)(d:codeAmong pos (l++[rawInt a,rawInt b,c])=some cv):codeAmong pos l=some cv\/cv=c:=by
 fun_induction TriplesOk l with
 |case1=>
  simp only[bDK,codeAmong,rawInt] at d
  split at d
  ·exact .inr (bAQ d).symm
  ·cases d
 |case2 a' t b' u x rest ih=>
  simp only[bEB,codeAmong] at d ⊢
  split at d
  ·rename_i e;rw[if_pos e];exact .inl d
  ·rename_i e;rw[if_neg e];exact ih h d
 |case3 l h1 h2=>exact h.elim
section
variable {prog:Program}{w:World}{A:Around}{E:bE5}{s:Shared}
end
end PySem.W
namespace L2
open PySem PySem.Spec PyProof.Rows
def BM (mg:bE7)(base:Heap):Prop:=∃bm ob,mg "__builtins__"=some (.ref bm)/\bm≠builtinsNs/\base.get? bm=some ob/\ob.cls=.type "module"/\ob.dict=some builtinsNs/\ob.data=.plain
section
variable {X:Cx}{bE8:bE6}{σ:List (Option V)}{H:Hp}{s:Shared}
end
def ExO (a:Addr)(o:Obj):HO:=.ext λh=>h.get? a=some o
def aX1 {P:Program}{w:World}{H:Hp}{h:Heap}{a:Addr}{o:Obj}(e:h.get? a=some o):cM P w H h a (ExO a o):=⟨e,⟨o,e⟩,λ_ _ b k=>k o b⟩
def bB0 (g x y:Str)(p0 p1 p2 p3:Pos):Expr:=.Call (.Name g p0) [.Name x p1,.Name y p2] [] p3
structure aYj (qual g x y:Str)(params:Arguments)(bd:Expr)(scope:Scope):Prop where
 body:∃p0 p1 p2 p3,bd=bB0 g x y p0 p1 p2 p3
 bind:∀(cp c':Addr) (pm ctv v:Value),bindArgs (PySem.W.kla_fn "<lambda>" qual params bd scope [(y,cp)] pm (.ref c') ctv) ⟨[v],[]⟩=pure [(x,v)]
 co:scope.isCoroutine=false
 gen:scope.isGenerator=false
 kind:scope.kind=.function
 cell:∀z∈scope.names,z.2≠.cell
 hx:scope.names.lookup x=some .local
 hy:scope.names.lookup y=some .free
 hg:scope.names.lookup g=some .globalImplicit
 dx:(x == ("__debug__":Str))=false
 dy:(y == ("__debug__":Str))=false
 dg:(g == ("__debug__":Str))=false
 cy:(y == ("__classdict__":Str))=false
 xy:(y == x)=false
def tO (H:Hp)(f:Addr)(qual g x y:Str)(v:V):Prop:=∃(params:Arguments) (body:Expr) (scope:Scope) (cp c':Addr) (pm ctv:Value) (oc ol:Obj) (u:Value) (vs:Array Value) (t:Tok),
 aYj qual g x y params body scope/\H f=some (ExO f (PySem.W.kla_obj "<lambda>" qual params body scope [(y,cp)] pm c' ctv))/\H cp=some (ExO cp ol)/\(∀h:Heap,h.get? cp=some ol->h.IsCell cp (some u))/\RelV v u/\H c'=some (ExO c' oc)/\oc.data=.fields vs/\vs[1]?=some (.str qual t)
def tO.same {H H':Hp}{f:Addr}{qual g x y:Str}{v:V}(L:tO H f qual g x y v)(s:Same H H'):tO H' f qual g x y v:=by obtain⟨b,k,j,q,d,r,a,i,n,u,o,t,S,l,e,h,m,w,p,c⟩:=L;exact⟨b,k,j,q,d,r,a,i,n,u,o,t,S,s _ _ l,s _ _ e,h,m,s _ _ w,p,c⟩
section
variable {X:Cx}
def aTt {bE8:bE6}{σ:St}{H:Hp}{s:Shared}{Q:VK}{f ga:Addr}{qual g x y:Str}{v a:V}{E:Value}{k:Nat}{fd:FuncData}{ps:List Str}{sp:Sp}
  (L:tO H f qual g x y v) (hr:Room (k+1) X.A) (hm:X.mg g=some (.ref ga)) (hk:PySem.W.keepIn X.K (.ref ga)=true) (hb:Binds X.K fd ps []) (F:dW X.prog X.w X.K X.mg X.base CX0 k ga fd ps sp)
  (I:Inv X bE8 σ H s) (r:RelV a E) (h:sp [a,v] H Q E0):wpAny (model X.prog X.w) X.A (call (.ref f) [E]) (EP X bE8 σ Q) X.xe s:=by
 obtain⟨pa,bo,sc,T,P,pm,a0,oc,ol,u,vs,t,S,h1,h2,h3,h4,h5,h6,h7⟩:=L;have e1:s.heap.get? f=some _:=(I.hok f _ h1).1;have e2:s.heap.get? T=some ol:=(I.hok T _ h2).1;have e5:s.heap.get? P=some oc:=(I.hok P _ h5).1;refine bCK (PySem.W.kla_callFunE hr.depth e1 rfl S.co S.gen rfl ⟨P,oc,vs,t,rfl,e5,h6,h7⟩ ?_);rw[S.bind];refine d8 (wpAny_newFunctionEnv S.cell (λz hz=>?_) (λm M C=>⟨I.nolimit.fresh _ C,?_⟩) S.kind)
 ·have e:z=(x,E):=by simpa using hz
  rw[e];exact S.hx
 have d:∀b o,s.heap.get? b=some o->m.get? b=some o:=λb o e=>C.extBut b o (v6 (j7 e)) (d7 _ e);have Z:s.heap.objs.size<=m.objs.size:=by have:=C.1;rw[bBL] at this;lia
 refine PySem.W.kla_codeExpr ?_;obtain⟨p0,p1,p2,p3,rfl⟩:=S.body;have hG:m.Ns mainGlobals X.mg:=(I.mod.glob.keeps I.bk).keeps d;refine bBG (bDR S.kind S.hg (Calls.loadGlobal_global hG hm ?_) S.dg);refine PySem.W.callWith_K (h₀:=X.base) I.ok.mod.kin hk (bCJ (wpAny_Name (wpAny_loadName_local S.kind S.hx M (v:=E) (by simp) ?_) S.dx)) rfl rfl;refine bCJ (wpAny_Name (wpAny_loadName_free S.kind S.hy (c:=T) (by simp[newEnv,PySem.W.kla_fn]) (v:=u) (h3 m (d _ _ e2)) ?_ S.cy) S.dy);have J:X.K.In m:=I.kIn.keeps d;refine bEY ⟨J,?_⟩;generalize l:newEnv _ s.heap.objs.size _ _ _ _ _ _ _=env;have B:env.frame=some s.heap.objs.size:=by rw[<-l];rfl
 have O:env.scope.kind≠.module:=by rw[<-l];show sc.kind≠_;rw[S.kind];decide
 have D:X.base.get? s.heap.objs.size=none:=bDP (bAJ I.ok.bsz I.sz);have i:H s.heap.objs.size=none:=I.hok.fresh (j5 _);have E1:aFc X.prog X.w X.K X.mg X.base (X.A.deeper env) (env::X.stack) { s with heap:=m,toks:=s.toks+1 } H:=by
  refine⟨Around.frames_deeper I.ok.frames,I.ok.mod,λb o e=>⟨d _ _ (I.bs b o e).1,(I.bs b o e).2⟩,bAJ (bAJ I.ok.bsz I.sz) Z,.cons O B M D ?_,?_,I.hok.kept d,I.bare⟩
  ·exact I.stack.of_keeps λb o e _=>⟨o,d _ _ e,rfl⟩
  ·intro b hb;unfold frs at hb;rw[bC4,B] at hb;rcases List.mem_cons.mp hb with e|hb
   ·rw[e];exact i
   ·exact I.oN b hb
 have r2:Vals [a,v] [E,u]:=.cons r (.cons h4 .nil);have hl:([E,u]++([]:List Value)).length=ps.length:=by rw[bBB,<-r2.length];exact F.len _ _ _ _ h
 refine bCK (bCA (F.run (X.A.deeper env) (env::X.stack) _ H ⟨[E,u],[]⟩ [E,u] [a,v] Q E0 (hr.deeper env) E1 (by simpa using hb { s with heap:=m,toks:=s.toks+1 } [E,u] J hl) r2 h) λrr s' G=>?_);cases rr with
 |error e=>exact G.elim
 |ok fl=>
  cases fl with
  |next=>exact False.elim G
  |brk=>exact False.elim G
  |cont=>exact False.elim G
  |ret uu=>
   obtain⟨v',H',os,N,j,U,Y,q⟩:=G;refine I.after (Q:=Q) (u:=uu) (s':=s') ⟨v',H',os,N,?_,U,Y,q⟩;have R:∀b o,s.heap.get? b=some o->b≠s.heap.objs.size:=λb o e=>v6 (j7 e);have fe:frs (env::X.stack)=s.heap.objs.size::frs X.stack:=by unfold frs;rw[bC4,B]
   rw[fe] at j;exact⟨λb o e n hb p=>j.keep b o (d b o e) n (λz=>(List.mem_cons.mp z).elim (R b o e) hb) p,λb o e n hb p=>j.slot b o (d b o e) n (j9 _ hb) p,λb o e n p=>j.free b o (d b o e) n p,λb o e p=>j.there b o (d b o e) p,j.tups,j.frzs,j.tbls⟩
def aR9 (P:Program)(w:World)(K:bE4)(mg:bE7)(base:Heap)(k:Nat)(te:TE)(t:TA):TE:=fun σ H Q=>te σ H λv H1=>∃(f:Addr) (qual g x y:Str) (z:V) (ps:List Str) (sp:Sp),v=.ref f/\tO H1 f qual g x y z/\Ok P w K mg base k g ps sp /\
 t σ H1 λvs H2=>∃a,vs=[a]/\tO H2 f qual g x y z/\sp [a,z] H2 Q E0
def aP5 {n:Str}{p pos:Pos}{e:Expr}{es:List Expr}{te:TE}{t:TA}{k:Nat}(hr:Room (k+1) X.A)(hf:PE X (.Name n p) te)(ha:PA X (e::es) t)
  (he:starEach (e::es) X.env=(false,eval e X.env)::starEach es X.env:=by rfl) (Y:(backTo pos (starEach es X.env)).any (·.1)=false:=by rfl) :
  PE X (.Call (.Name n p) (e::es) [] pos) (aR9 X.prog X.w X.K X.mg X.base k te t):=by
 intro d s σ H Q I h;refine bBG (thn (hf d s σ H _ I h) λu Z ⟨v,H1,I1,r1,J⟩=>?_);obtain⟨f,c,g,x,y,z,ps,sp,rfl,L,G,q⟩:=J;obtain rfl:u=Value.ref f:=r1;obtain⟨ga,fd,V,M,N,F⟩:=G;have B:=ha pos d Z σ H1 _ I1 q;rw[he] at B ⊢;refine PySem.W.callWith_of (P:=λh=>∃i m l D o j b,h.get? f=some (PySem.W.kla_obj "<lambda>" c i m l D o j b)) (by show ((false || (backTo pos (starEach es X.env)).any (·.1)) || false)=false;rw[Y];rfl) (λh ⟨i,m,l,D,o,j,b,T⟩=>⟨.frame,.inl rfl,(PySem.W.Looks.ld (part:=none) T).andThen .now⟩) (Calls.evalArgs_plain (thn B λus s2 ⟨R,H2,E,r,U⟩=>?_));obtain⟨a,rfl,C,O⟩:=U;cases r with
 |cons r rn=>cases rn;refine⟨?_,aTt C hr V M N F E r O⟩;obtain⟨i,m,l,cp,j,o,b,oc,ol,u,R,t,S,h1,_⟩:=C;exact⟨i,m,l,_,o,j,b,(E.hok f _ h1).1⟩
end
section
variable {X:Cx}{bE8:bE6}{σ:List (Option V)}{H:Hp}{s:Shared}
def aNf {i:Arguments}{K:Expr}{scope:Scope}{pos:Pos}{c P:Addr}{D:List (Str × Addr)}{Q:bE5}{E:bE5}
  (I:Inv X bE8 σ H s) (B:X.env.code=.ref c) (CH:PySem.W.CodeHd X.base c P) (j:H P=some (.tab (X.env.qual++"<lambda>"))) (aa:BM X.mg X.base) (a6:closureFor scope X.env=pure D) (a8:defaultsOf i X.env=([],[]))
  (q:∀f c' pm ctv H' h' tk,Inv X bE8 σ H' { s with heap:=h',toks:=tk }->Same H H'->s.heap.objs.size<=f->H' f=none->H' c'=some (.own P)->H' P=some (.tab (X.env.qual++"<lambda>"))->h'.get? f=some (PySem.W.kla_obj "<lambda>" (X.env.qual++"<lambda>") i K scope D pm c' ctv)->h'.CodeRec (.ref c') (X.env.qual++"<lambda>")->Q (.ref f) { s with heap:=h',toks:=tk }) :
  wpAny (model X.prog X.w) X.A (eval (.Lambda i K scope pos) X.env) Q E s:=by
 obtain⟨ps,hp,U,g⟩:=I.hok P _ j;have hg:s.heap.Ns mainGlobals X.mg:=I.mod.glob.keeps I.bk;obtain⟨O,ob,b1,b2,R,b4,b5,V⟩:=aa;have bG:O≠mainGlobals:=λz=>by obtain⟨o,es,ep,e,d,_⟩:=I.mod.glob;rw[z,e] at R;cases R;rw[d] at V;cases V
 have bP:O≠P:=λz=>by have:=(I.bs O ob R).2;rw[z,j] at this;cases this
 have gP:mainGlobals≠P:=λz=>by obtain⟨o,es,ep,e,d,_⟩:=I.mod.glob;have:=(I.bs _ o e).2;rw[z,j] at this;cases this
 have hB:s.heap.BuiltinsAt X.mg P:=⟨O,ob,b1,b2,bG,bP,I.bk _ _ R,b4,b5,V⟩;refine PySem.W.kla_eval a8 ?_;cases k:codeAmong pos ps.toList with
 |some cv=>obtain⟨c',G,T,t,rfl,N,Y,a4,a5⟩:=g pos cv k;refine PySem.W.kla_makeFunctionHit (mg:=X.mg) a6 I.ok.glob hg B (CH.keeps I.bk) hp U k hB λctv h' tk hk M=>?_;exact q _ c' _ ctv H _ tk (I.kept (t':=tk) λb o e=>d7 _ (hk b o e)) (λ_ _ e=>e) M (I.hok.fresh M) N j (j4 _ rfl) ⟨c',G,T,t,rfl,d7 _ (hk _ _ Y),a4,a5⟩
 |none=>
  refine PySem.W.kla_makeFunction (mg:=X.mg) a6 I.ok.glob hg B (CH.keeps I.bk) hp U k gP hB λc' ctv h' tk hx h p J L=>?_;obtain⟨c2,G,T,t,e2,l,hd,hv⟩:=J;cases e2;have nc:H c'=none:=I.hok.fresh h;have a9:∀b u,b≠P->H b=some u->∀o,s.heap.get? b=some o->(h'.push (PySem.W.kla_obj "<lambda>" (X.env.qual++"<lambda>") i K scope D ((X.mg "__name__").getD .none) c' ctv)).get? b=some o:=λb u hb _ o e=>d7 _ (hx b o hb e);have C:∀b o,b≠P->s.heap.get? b=some o->(h'.push (PySem.W.kla_obj "<lambda>" (X.env.qual++"<lambda>") i K scope D ((X.mg "__name__").getD .none) c' ctv)).get? b=some o:=λb o hb e=>d7 _ (hx b o hb e);have x:∀b,H b=none->b≠P:=λb e z=>by rw[z,j] at e;cases e
  have a:∀{b u},H b=some u->upd H c' (.own P) b=some u:=λ{b u} e=>by rw[aJ (aV e nc)];exact e
  refine q _ c' _ ctv (upd H c' (.own P)) _ tk (I.step (g':=s.gens) (d':=s.drawn) (ch:=[]) (λ_ z=>nomatch z) (λb o _ _ _ e n=>C b o (x b n) e) (λb o _ _ _ e n=>⟨o.slots,C b o (x b n) e⟩) (λb o _ e n=>?_) (λb o _ e=>?_)
   (λb xs e=>a e) (λb o u e=>a e) (λb qs e=>⟨#[],by rw[a e];simp⟩) (λm hm=>?_) (λb u e=>?_) I.bare) (λb o e=>a e) (bDD (bCL h p)) (by rw[aJ (bCP p)];exact I.hok.fresh (bDD (bCL h p))) aH (a j) (j4 _ rfl) ⟨c',G,T,t,rfl,d7 _ l,hd,hv⟩
  ·rw[aJ (v6 (z9 (j7 e) h))];exact n
  ·by_cases z:b=P
   ·subst z;exact⟨_,d7 _ L⟩
   ·exact⟨o,C b o z e⟩
  ·obtain⟨o,es,ep,e,r⟩:=hm;exact⟨o,es,ep,C _ o (x _ I.free) e,r⟩
  ·by_cases z:b=c'
   ·subst z;rw[aH] at e;cases e;exact⟨G,d7 _ l⟩
   ·rw[aJ z] at e;by_cases y:b=P
    ·subst y;rw[j] at e;cases e;refine⟨_,d7 _ L,by rw[bC6];exact TriplesOk_snoc _ _ _ _ U,λF a7 S=>?_⟩;rw[bC6] at S;rcases PySem.W.aAp _ U S with S|rfl
     ·obtain⟨c2,a1,a0,t2,rfl,N,Y,a4,a5⟩:=g F a7 S;exact⟨c2,a1,a0,t2,rfl,a N,C _ _ (λz=>by rw[z,j] at N;cases N) Y,a4,a5⟩
     ·exact⟨c',G,T,t,rfl,aH,d7 _ l,hd,hv⟩
    ·refine (I.hok b u e).stay (λd v Z r=>C d v ?_ r) (λd r=>a r) λd xs r=>a r;rcases Z with rfl|r'
     ·exact y
     ·intro z;rw[z,j] at r';cases r'
open Classical in
noncomputable def aBn (S:Addr->Prop) (h:Heap) (H:Hp):Hp:=λb=>if S b then (h.get? b).map (ExO b) else H b
open Classical in
noncomputable def aCv (S:Addr->Prop) (H Z:Hp):Hp:=λb=>if S b then H b else Z b
def lK {S:Addr->Prop}{h:Heap}{b:Addr}{o:Obj}(a:S b)(e:h.get? b=some o):aBn S h H b=some (ExO b o):=by unfold aBn;rw[if_pos a,e];rfl
def cX {S:Addr->Prop}{h:Heap}{b:Addr}(a:¬ S b):aBn S h H b=H b:=by unfold aBn;rw[if_neg a]
def aAc {S:Addr->Prop}{Z:Hp}{b:Addr}(a:S b):aCv S H Z b=H b:=by unfold aCv;rw[if_pos a]
def eU {S:Addr->Prop}{Z:Hp}{b:Addr}(a:¬ S b):aCv S H Z b=Z b:=by unfold aCv;rw[if_neg a]
structure zK (X:Cx)(H:Hp)(h:Heap)(S:Addr->Prop):Prop where
 there:∀b,S b->∃o,h.get? b=some o
 own:∀d a o,¬ S a->H a=some o->H d=some (.own a)->¬ S d
 own2:∀d a o,S a->H a=some o->(∃e,o=.own e)\/(H d=some (.own a)->S d)
 tup:∀d xs,H d=some (.tup xs)->¬ S d
 frz:∀d o u,H d=some (.frz o u)->¬ S d
 tbl:∀d ps,H d=some (.tbl ps)->¬ S d
 base:∀b o,X.base.get? b=some o->¬ S b
 frs:∀b∈frs X.stack,¬ S b
def zK.hok {S:Addr->Prop}(p:zK X H s.heap S)(I:Inv X bE8 σ H s):HOk X.prog X.w (aBn S s.heap H) s.heap:=by
 intro b o e;by_cases a:S b
 ·obtain⟨g,c⟩:=p.there b a;rw[lK a c] at e;cases e;exact aX1 c
 ·rw[cX a] at e;refine (I.hok b o e).stay (λ_ _ _ q=>q) (λd q=>?_) λd f q=>?_
  ·rw[cX (p.own d b o a e q)];exact q
  ·rw[cX (p.tup d f q)];exact q
def zK.env0 {S:Addr->Prop}(p:zK X H s.heap S)(I:Inv X bE8 σ H s):aFc X.prog X.w X.K X.mg X.base X.A X.stack s (aBn S s.heap H):=
 ⟨I.ok.frames,I.ok.mod,λb o e=>⟨(I.bs b o e).1,by rw[cX (p.base b o e)];exact (I.bs b o e).2⟩,bAJ I.ok.bsz I.sz,I.stack,λb a=>by rw[cX (p.frs b a)];exact I.oN b a,p.hok I,I.bare⟩
def zK.after {S:Addr->Prop}{Q:VK}{u:Value}{s':Shared}(p:zK X H s.heap S)(I:Inv X bE8 σ H s)(h:CE X.stack X.prog X.w (aBn S s.heap H) s (λv Z=>Same (aBn S s.heap H) Z/\∀H4,Same H H4->Q v H4) u s'):EP X bE8 σ Q u s':=by
 obtain⟨v,Z,G,m,i,A,C,B,q⟩:=h;have r:∀b o,S b->s.heap.get? b=some o->s'.heap.get? b=some o:=λb o g e=>(A b _ (B _ _ (lK g e))).1;have f:Same H (aCv S H Z):=λb o e=>by
  by_cases g:S b
  ·rw[aAc g];exact e
  ·rw[eU g];exact B _ _ (by rw[cX g];exact e)
 refine I.after (Q:=Q) ⟨v,aCv S H Z,G,m,⟨λb o e n g t=>?_,λb o e n g t=>?_,λb o e n t=>?_,i.there,λb y e=>?_,λb o u e=>?_,λb D e=>?_⟩,λb o e=>?_,C,q _ f⟩
 ·by_cases a:S b
  ·exact r b o a e
  ·exact i.keep b o e (by rw[cX a];exact n) g t
 ·exact i.slot b o e (by rw[cX (p.frs b g)];exact n) g t
 ·by_cases a:S b
  ·rw[aAc a];exact n
  ·rw[eU a];exact i.free b o e (by rw[cX a];exact n) t
 ·rw[eU (p.tup b y e)];exact i.tups b y (by rw[cX (p.tup b y e)];exact e)
 ·rw[eU (p.frz b o u e)];exact i.frzs b o u (by rw[cX (p.frz b o u e)];exact e)
 ·rw[eU (p.tbl b D e)];exact i.tbls b D (by rw[cX (p.tbl b D e)];exact e)
 ·by_cases a:S b
  ·rw[aAc a] at e;rcases p.own2 b b o a e with⟨x,rfl⟩|_
   ·obtain⟨l,j⟩:=p.there b a;exact⟨l,r b l a j⟩
   ·by_cases E:∃x,o=.own x
    ·obtain⟨x,rfl⟩:=E;obtain⟨l,j⟩:=p.there b a;exact⟨l,r b l a j⟩
    ·refine (I.hok b o e).stay (λc u hc F=>?_) (λd q=>f _ _ q) λd y q=>f _ _ q;rcases hc with rfl|hc
     ·exact r _ _ a F
     ·rcases p.own2 c b o a e with z|z
      ·exact absurd z E
      ·exact r _ _ (z hc) F
  ·rw[eU a] at e;refine (A b o e).stay (λ_ _ _ q=>q) (λd q=>?_) λd y q=>?_
   ·by_cases k:S d
    ·obtain⟨l,j⟩:=p.there d k;rw[B _ _ (lK k j)] at q;cases q
    ·rw[eU k];exact q
   ·by_cases k:S d
    ·obtain⟨l,j⟩:=p.there d k;rw[B _ _ (lK k j)] at q;cases q
    ·rw[eU k];exact q
end
section
variable {X:Cx}
def aS5 (X:Cx)(iy:Nat)(P:Addr)(g x y:Str)(sp:Sp)(t:TA):TE:=fun σ H Q=>t σ H λvs H1=>∃z,σ[iy]?=some (some z)/\H1 P=some (.tab (X.env.qual++"<lambda>")) /\
 ∀f H2,tO H2 f (X.env.qual++"<lambda>") g x y z->(∀b o,H1 b=some o->(∀q,o≠.tab q)->(∀a,o≠.own a)->H2 b=some o)->sp (vs++[.ref f]) H2 (λr H3=>Same H2 H3/\∀H4,Same H1 H4->Q r H4) E0
def aLh {fn g x y:Str}{p pos lpos:Pos}{e1 e2 e3:Expr}{te1 te2 te3:TE}{a2:Arguments}{ah:Expr}{scope:Scope}{iy k:Nat}{c P E fa:Addr}{fd:FuncData}{ps:List Str}{sp:Sp}
  (F:dW X.prog X.w X.K X.mg X.base CX0 k fa fd ps sp) (hr:Room k X.A) (ak:Gl X fn) (hm:X.mg fn=some (.ref fa)) (hk:PySem.W.keepIn X.K (.ref fa)=true) (hb:Binds X.K fd ps [])
  (h1:PE X e1 te1) (h2:PE X e2 te2) (h3:PE X e3 te3)
  (ae:X.env.code=.ref c) (CH:PySem.W.CodeHd X.base c P) (al:BM X.mg X.base) (S:aYj (X.env.qual++"<lambda>") g x y a2 ah scope) (hN:X.N[iy]?=some y) (a8:X.env.kindOf y=some .cell) (D:X.env.cells.lookup y=some E) (a4:X.fn y=true) (an:closureFor scope X.env=pure [(y,E)]) (ai:defaultsOf a2 X.env=([],[]))
  (am:(fn == ("__debug__":Str))=false:=by decide)
  (ab:starEach [e1,e2,e3,.Lambda a2 ah scope lpos] X.env=[(false,eval e1 X.env),(false,eval e2 X.env),(false,eval e3 X.env),(false,eval (.Lambda a2 ah scope lpos) X.env)]:=by rfl)
  (a9:starEach [e2,e3,.Lambda a2 ah scope lpos] X.env=[(false,eval e2 X.env),(false,eval e3 X.env),(false,eval (.Lambda a2 ah scope lpos) X.env)]:=by rfl) :
  PE X (.Call (.Name fn p) [e1,e2,e3,.Lambda a2 ah scope lpos] [] pos) (aS5 X iy P g x y sp (cO te1 (cO te2 (cO te3 qZ)))):=by
 intro G s σ H Q I h;refine bBG (jF I ak hm ?_ am);refine PySem.W.callWith_K (h₀:=X.base) I.ok.mod.kin hk ?_ (by rw[ab,a9]) (by rw[a9];rfl);rw[ab];refine bCJ (thn (h1 G s σ H _ I h) λU s1 ⟨v1,H1,I1,r1,q1⟩=>?_);refine bCJ (thn (h2 G s1 σ H1 _ I1 q1) λu2 s2 ⟨v2,H2,I2,r2,q2⟩=>?_);refine bCJ (thn (h3 G s2 σ H2 _ I2 q2) λu3 s3 ⟨v3,H3,I3,r3,q3⟩=>?_);obtain⟨z,hz,hP,q⟩:=q3;refine bCJ (aNf I3 ae CH hP al an ai λf c' pm a7 O h' tk v s4 M R a5 l ef T=>bEY ⟨v.kIn,?_⟩);generalize a6:({ s3 with heap:=h',toks:=tk }:Shared)=s4' at v;have hh:s4'.heap=h':=by rw[<-a6]
 rw[<-hh] at ef T;obtain⟨m,hn,hl⟩:=v.loc;obtain⟨u,ru,lk⟩:=hl iy y z hN hz (.inr (.inl a8));have J:s4'.heap.IsCell E (some u):=by
  rcases lk with⟨k',_⟩|⟨_,c2,e,hc⟩
  ·rw[a8] at k';cases k'
  ·rw[D] at e;cases e;exact hc
 obtain⟨ol,L,V⟩:=id J;obtain⟨c2,oc,vs,t,ag,ac,a3,hv⟩:=T;cases ag;have i:O E=none:=v.freeC y E D;obtain⟨v0,ov,af,_⟩:=I3.cell y E D;have aj:E<f:=z9 (j7 af) M;have PO:zK X O s4'.heap (λb=>b=f\/b=E\/b=P\/O b=some (.own P)):=by
  refine⟨λb hb=>?_,λd a o ha n C hd=>?_,λd a o ha n=>?_,λd xs e hd=>?_,λd o u e hd=>?_,λd ps e hd=>?_,λb o e hd=>?_,λb hb hd=>?_⟩
  ·rcases hb with rfl|rfl|rfl|hb
   ·exact⟨_,ef⟩
   ·exact⟨_,L⟩
   ·obtain⟨ps,e,_⟩:=v.hok _ _ l;exact⟨_,e⟩
   ·exact v.hok _ _ hb
  ·rcases hd with rfl|rfl|rfl|hd
   ·rw[R] at C;cases C
   ·rw[i] at C;cases C
   ·rw[l] at C;cases C
   ·rw[hd] at C;cases C;exact ha (.inr (.inr (.inl rfl)))
  ·rcases ha with rfl|rfl|rfl|ha
   ·rw[R] at n;cases n
   ·rw[i] at n;cases n
   ·exact .inr λq=>.inr (.inr (.inr q))
   ·rw[ha] at n;cases n;exact .inl ⟨_,rfl⟩
  ·rcases hd with rfl|rfl|rfl|hd
   ·rw[R] at e;cases e
   ·rw[i] at e;cases e
   ·rw[l] at e;cases e
   ·rw[hd] at e;cases e
  ·rcases hd with rfl|rfl|rfl|hd
   ·rw[R] at e;cases e
   ·rw[i] at e;cases e
   ·rw[l] at e;cases e
   ·rw[hd] at e;cases e
  ·rcases hd with rfl|rfl|rfl|hd
   ·rw[R] at e;cases e
   ·rw[i] at e;cases e
   ·rw[l] at e;cases e
   ·rw[hd] at e;cases e
  ·have j:=(v.bs b o e).2;have Y:b<X.s₀.heap.objs.size:=z9 (j7 e) I.ok.bsz;rcases hd with rfl|rfl|rfl|hd
   ·exact absurd (z9 Y (bAJ I3.sz M)) (bBO _)
   ·exact absurd (z9 Y (I.ok.cab y _ a4 D)) (bBO _)
   ·rw[l] at j;cases j
   ·rw[hd] at j;cases j
  ·have j:=v.oN b hb;rcases hd with rfl|rfl|rfl|hd
   ·obtain⟨_,o,n,_⟩:=I3.stack.mem hb;exact absurd (z9 (j7 n) M) (bBO _)
   ·rcases List.mem_cons.mp (v.aD6 _ hb) with e|hb'
    ·obtain⟨o,es,ep,n,C,_⟩:=hn;rw[<-e,L] at n;cases n;rw[V] at C;cases C
    ·obtain⟨_,o,n,_⟩:=I.ok.funs.mem hb';exact absurd (z9 (j7 n) (I.ok.cab y _ a4 D)) (bBO _)
   ·rw[l] at j;cases j
   ·rw[hd] at j;cases j
 have LA:tO (aBn (λb=>b=f\/b=E\/b=P\/O b=some (.own P)) s4'.heap O) f (X.env.qual++"<lambda>") g x y z:=
  ⟨a2,ah,scope,E,c',pm,a7,oc,ol,u,vs,t,S,lK (.inl rfl) ef,lK (.inr (.inl rfl)) L,λh e=>⟨ol,e,V⟩,ru,lK (.inr (.inr (.inr a5))) ac,a3,hv⟩
 have hq:=q f _ LA λb o e n1 n2=>by
  have e:=s4 _ _ e;rw[cX]
  ·exact e
  ·rintro (rfl|rfl|rfl|hd)
   ·rw[R] at e;cases e
   ·rw[i] at e;cases e
   ·rw[l] at e;cases e;exact n1 _ rfl
   ·rw[hd] at e;cases e;exact n2 _ rfl
 have r:Vals [v1,v2,v3,.ref f] [U,u2,u3,.ref f]:=.cons r1 (.cons r2 (.cons r3 (.cons rfl .nil)));have a0:([U,u2,u3,Value.ref f]++([]:List Value)).length=ps.length:=by rw[bBB,<-r.length];exact F.len _ _ _ _ hq
 refine bCK (bCA (F.run X.A X.stack s4' (aBn (λb=>b=f\/b=E\/b=P\/O b=some (.own P)) s4'.heap O) ⟨[U,u2,u3,.ref f],[]⟩ [U,u2,u3,.ref f] [v1,v2,v3,.ref f] _ E0 hr (PO.env0 v) (by simpa using hb s4' [U,u2,u3,.ref f] v.kIn a0) r hq) λrr s' B=>?_);cases rr with
 |error e=>exact B.elim
 |ok fl=>
  cases fl with
  |next=>exact False.elim B
  |brk=>exact False.elim B
  |cont=>exact False.elim B
  |ret uu=>obtain⟨v',Z,os,a1,un,aa,ad,sm,qq⟩:=B;exact PO.after v ⟨v',Z,os,a1,un,aa,ad,sm,λH4 s5=>qq H4 (s4.trans s5)⟩
def aOz {n:Str}{p pos:Pos}{e:Expr}{es:List Expr}{te:TE}{t:TA}{P:Program}{w:World}{K:bE4}{mg:bE7}{base:Heap}{k:Nat}(h:Room (k+1) X.A)(c:VE X (.Name n p) te)(b:VA X (e::es) t)(i:cC e=true:=by rfl)(a:(backTo pos (starEach es X.env)).any (·.1)=false:=by rfl)
  (f:X.prog=P:=by rfl) (d:X.w=w:=by rfl) (j:X.K=K:=by rfl) (g:X.mg=mg:=by rfl) (l:X.base=base:=by rfl) :
  VE X (.Call (.Name n p) (e::es) [] pos) (aR9 P w K mg base k te t):=by
 subst f d j g l;exact⟨aP5 h c.1 b.1 (aL i) a⟩
def aJ0 {fn g x y:Str}{p pos lpos:Pos}{e1 e2 e3:Expr}{te1 te2 te3:TE}{params:Arguments}{body:Expr}{scope:Scope}{iy k:Nat}{c P cp:Addr}{ps:List Str}{sp:Sp}
  (G:Ok X.prog X.w X.K X.mg X.base k fn ps sp) (H:Room k X.A) (m:Gl X fn) (E:VE X e1 te1) (C:VE X e2 te2) (D:VE X e3 te3)
  (d:X.env.code=.ref c) (F:PySem.W.CodeHd X.base c P) (t:BM X.mg X.base) (S:aYj (X.env.qual++"<lambda>") g x y params body scope) (B:X.N[iy]?=some y) (u:X.env.kindOf y=some .cell) (f:X.env.cells.lookup y=some cp) (o:X.fn y=true) (r:closureFor scope X.env=pure [(y,cp)]) (e:defaultsOf params X.env=([],[]))
  (q:cC e1=true:=by rfl) (a:cC e2=true:=by rfl) (b:cC e3=true:=by rfl) (j:(fn == ("__debug__":Str))=false:=by decide)
  (h:starEach [.Lambda params body scope lpos] X.env=[(false,eval (.Lambda params body scope lpos) X.env)]:=by rfl) :
  VE X (.Call (.Name fn p) [e1,e2,e3,.Lambda params body scope lpos] [] pos) (aS5 X iy P g x y sp (cO te1 (cO te2 (cO te3 qZ)))):=by
 obtain⟨z,v,l,i,s,n⟩:=G;refine⟨aLh n H m l i s E.1 C.1 D.1 d F t S B u f o r e j ?_ ?_⟩
 ·rw[aL q,aL a,aL b,h]
 ·rw[aL a,aL b,h]
end
end L2
namespace PySem
section
variable {prog:Program}{w:World}{A:Around}{E:bE5}{s:Shared}
end
section
variable {prog:Program}{w:World}{κ:Type}[DecidableEq κ]{knd:KeyKind prog w κ}
end
section
variable {prog:Program}{w:World}{A:Around}{E:bE5}{s:Shared}
end
section
variable {prog:Program}{w:World}{κ:Type}[DecidableEq κ]{knd:KeyKind prog w κ}{A:Around}{E:bE5}{s:Shared}
end
end PySem
namespace L2
open PySem PySem.Spec PyProof.Rows
section
variable {X:Cx}{a b:Expr}{ta:TA}{pos p pos2 p2:Pos}
end
def Itw (K:bE4)(t u:Addr)(xs ys:List V):It:=
 ⟨λi H=>SqL K H t xs/\SqL K H u ys/\i<xs.length/\i<ys.length,λi H v H'=>∃T a b,H T=none/\v=.ref T/\H'=upd H T (.tup [a,b])/\xs[i]?=some a/\ys[i]?=some b,λi H=>SqL K H t xs/\SqL K H u ys/\i=ys.length/\ys.length<=xs.length⟩
section
variable {X:Cx}
def aI7 (K:bE4)(ta:TA):TI:=fun σ H R=>ta σ H λvs H1=>∃t u xs ys,vs=[.ref t,.ref u]/\SqL K H1 t xs/\SqL K H1 u ys/\R (Itw K t u xs ys) H1
def aQe {elts:List Expr}{kt:Nat}{tp:Pos}{a b:Expr}{ta:TA}{p pos:Pos}(d:Gl X "zip")(o:X.mg "zip"=none)(m:PA X [a,b] ta)(n:starEach [a,b] X.env=(false,eval a X.env)::starEach [b] X.env:=by rfl)
  (e:starEach [b] X.env=[(false,eval b X.env)]:=by rfl):PI X (.Tuple elts kt tp) (.Call (.Name "zip" p) [a,b] [] pos) (aI7 X.K ta):=
 aL9 true (J:=Itw X.K) (λD=>let T:=aCn (L:=true) D;⟨T.mem,T.obj,T.keep,T.item,λX j f g k i c s σ H E I h l d=>T.done X j f g k i c s σ H E I h l (.inr d),T.self⟩) d o m n e
def aSx {elts:List Expr}{kt:Nat}{tp:Pos}{a b:Expr}{t:TA}{p pos:Pos}(e:Gl X "zip")(g:X.mg "zip"=none)(d:VA X [a,b] t)(f:cC a=true:=by rfl)(c:cC b=true:=by rfl) :
  VI X (.Tuple elts kt tp) (.Call (.Name "zip" p) [a,b] [] pos) (aI7 X.K t):=⟨aQe e g d.1 (aL f) (aL (es:=[]) c)⟩
end
def aGj {K:bE4}{t u:Addr}{xs ys:List V}{H:Hp}{F:L2.St}{te:TE}{Q:VK}(C:SqL K H t xs)(s:SqL K H u ys)(B:ys.length<=xs.length)(E:Ps2 F F)(hsz:ys.length<=1000)(g:List V)(hzl:g.length=ys.length)
  (G:∀(i:Nat) (x y z:V),xs[i]?=some x->ys[i]?=some y->g[i]?=some z->∀H' R,Same H H'->(∀H2,Same H' H2->R z H2)->te ((F.set 0 (some x)).set 1 (some y)) H' R)
  (q:∀D H',Same H H'->H' D=some (.lst g)->Q (.ref D) H'):oA (Itw K t u xs ys) H F (aFv K 2 (mF (bU 0) (mF (bU 1) aKk))) lJ te Q:=by
 intro D p;refine⟨λi m r H' k=>m=ys.length - i/\i<=ys.length/\Same H H'/\H' D=some (.lst k)/\k=g.take i/\Ps2 F r,⟨ys.length,by simp,bAS _,aR p _,aH,rfl,E⟩,?_⟩;rintro i m r H' k ⟨rfl,hi,sm,gD,rfl,hps⟩;refine⟨gD,?_⟩;by_cases j:i<ys.length
 ·right;refine⟨⟨sm.seq C,sm.seq s,by lia,j⟩,?_⟩;rintro v H2 ⟨T,a,b,hT,rfl,rfl,ha,hb⟩;have h:Same H' (L2.upd H' T (.tup [a,b])):=aR hT _;refine hg2 (SqT.of aH) hps fun w f l=>?_;have d:w=_:=l;subst d;dsimp only[lJ];rw[if_pos rfl];have c:i<g.length:=by lia
  refine G i a b g[i] ha hb (b8 c) _ _ (sm.trans h) λA o=>?_;have n:A D=some (.lst (g.take i)):=o _ _ (h _ _ gD);refine⟨n,bCL (show (g.take i).length<=1000 by rw[bAT];lia) (by decide),ys.length - (i+1),by lia,rfl,by lia,dN p (sm.trans (h.trans o)),aH,?_,f⟩;rw[bBR,b8 c];rfl
 ·left;have e:i=ys.length:=by lia
  subst e;rw[bBF (by lia)] at gD;exact⟨⟨sm.seq C,sm.seq s,rfl,B⟩,q D H' sm gD⟩
def zO {J:It}{H:Hp}{xs:List V}{A:L2.St}{te:TE}{Q:VK}(w:∀H' i x,Same H H'->xs[i]?=some x->J.go i H'/\∀y H2,J.yld i H' y H2->H2=H'/\y=x)(n:∀H',Same H H'->J.stop xs.length H')(u:Ps1 A A)(hsz:xs.length<=1000)
  (d:List V) (hzl:d.length=xs.length) (B:∀(i:Nat) (x z:V),xs[i]?=some x->d[i]?=some z->∀H' R l,Same H H'->(∀H2,Same H' H2->R z H2)->te ((A.set 0 l).set 0 (some x)) H' R)
  (q:∀D H',Same H H'->H D=none->H' D=some (.lst d)->Q (.ref D) H'):oA J H A (bU 0) lJ te Q:=by
 intro D f;refine⟨λi m k H' g=>m=xs.length - i/\i<=xs.length/\Same H H'/\H' D=some (.lst g)/\g=d.take i/\Ps1 A k,⟨xs.length,by simp,bAS _,aR f _,aH,rfl,u⟩,?_⟩;rintro i m k H' g ⟨rfl,hi,sm,gD,rfl,hps⟩;refine⟨gD,?_⟩;by_cases c:i<xs.length
 ·right;obtain⟨p,o⟩:=w H' i xs[i] sm (b8 c);refine⟨p,λv H2 r=>?_⟩;obtain⟨rfl,rfl⟩:=o v H2 r;refine hg1 (i:=i) hps fun s b h=>?_;obtain⟨l,rfl⟩:=h;dsimp only[lJ];rw[if_pos rfl];have a:i<d.length:=by lia
  refine B i _ d[i] (b8 c) (b8 a) _ _ l sm λt j=>?_;refine⟨j _ _ gD,bCL (show (d.take i).length<=1000 by rw[bAT];lia) (by decide),xs.length - (i+1),by lia,rfl,by lia,dN f (sm.trans j),aH,?_,b⟩;rw[bBR,b8 a];rfl
 ·left;have e:i=xs.length:=by lia
  subst e;rw[bBF (by lia)] at gD;exact⟨n H' sm,q D H' sm f gD⟩
def aSm {X:Cx}{K:bE4}{scope:Scope}{N:List Str}{tl:TA}{te:TE}{tt:TT}{g:TG}{σ:L2.St}{H:Hp}{Q:VK}(b:L2.St)(a:Cap X scope N σ b)(h:tl σ H λvs H1=>∃t u xs ys,vs=[.ref t,.ref u]/\SqL K H1 t xs/\SqL K H1 u ys/\oA (Itw K t u xs ys) H1 b g tt te Q):gK X scope N (aI7 K tl) g tt te σ H Q:=⟨b,a,h⟩
def pO (ts:List (Addr × Str))(H:Hp):Prop:=∀p∈ts,H p.1=some (.tab p.2)
def jC:List (Addr × Str)->Addr->Option Str
 |[],_=>none
 |p::r,b=>if b=p.1 then some p.2 else jC r b
theorem aCq {b:Addr}:∀{ts:List (Addr × Str)},(∀p∈ts,b≠p.1)->jC ts b=none
 |[],_=>rfl
 |p::r,h=>by unfold jC;rw[if_neg (h p v4)];exact aCq λq a=>h q (j9 _ a)
theorem mW {b:Addr}{q:Str}:∀{ts:List (Addr × Str)},jC ts b=some q->∃p∈ts,p.1=b/\p.2=q
 |p::r,h=>by
  unfold jC at h;by_cases e:b=p.1
  ·rw[if_pos e] at h;exact⟨p,v4,e.symm,bAQ h⟩
  ·rw[if_neg e] at h;obtain⟨a,c,d⟩:=mW h;exact⟨a,j9 _ c,d⟩
theorem aM4:∀{ts:List (Addr × Str)},(ts.map (·.1)).Nodup->∀{p:Addr × Str},p∈ts->jC ts p.1=some p.2
 |p::r,nd,q,hq=>by
  rw[bAC,bDL] at nd;unfold jC;rcases List.mem_cons.mp hq with rfl|hq
  ·rw[if_pos rfl]
  ·rw[if_neg λz=>nd.1 (by rw[<-z];exact List.mem_map.mpr ⟨q,hq,rfl⟩)];exact aM4 nd.2 hq
def aNj {P:Program}{w:World}{K:bE4}{mg mb:bE7}{CX:CXT}{k:Nat}{fa a:Addr}{fd:FuncData}{x:Str}{sp:Sp}{i:Shared}{vs:List Value}{ns:List Int}
  (KX:K.In i.heap) (a1:i.heap.Ns mainGlobals mg) (g:i.heap.Ns builtinsNs mb) (a8:∀x:Str,x≠"__name__"->mb x=bootBuiltins x) (a2:i.heap.NoLimit) (hg:i.gens=#[])
  (O:i.heap.get? a=some { cls:=.type "list",data:=.seq vs.toArray }) (hi:IntsAre vs ns) (hl:ns.length<=sizeLine) (hr:Room k callerA)
  (ts:List (Addr × Str)) (l:∀p∈ts,i.heap.get? p.1=some { cls:=.none,data:=.fields #[] }/\isCodeTable i.heap p.1/\K.lookup p.1=none) (a5:(ts.map (·.1)).Nodup) (a4:BM mg i.heap)
  (F:∀base:Heap,K.In base->base.Ns mainGlobals mg->BM mg base->dW P w K mg base CX k fa fd [x] sp) (Y:∀(s:Shared) (u:Value),BindsTo s fd ⟨[u],[]⟩ [(x,u)])
  (a7:∀H:Hp,pO ts H->SqL K H a (ns.map V.int)->sp [.ref a] H (λv H'=>v=.bl true/\pO ts H') λ_ _ _=>False)
  (a3:∀H e s',CX [] H i (λ_ _ _=>False) e s'->False) :
  codeAny (model P w) callerA (.call (.ref fa) ⟨[.ref a],[]⟩) (λr s'=>r=.ok (.ret (.bool true))/\OldK i.heap s'.heap/\s'.os=i.os/\AllBare s'.gens) i:=by
 have rv:=aCe hi;have M:=hi.length;have B:∀H:Hp,pO ts H->(∀b,(∀p∈ts,b≠p.1)->H b=none\/∃o xs,H b=some (.frz o (.lst xs)))->SqL K H a (ns.map V.int)->HOk P w H i.heap->(∀b,H b≠none->b=a\/∃p∈ts,b=p.1)->(H a≠none->K.lookup a=none) ->
   codeAny (model P w) callerA (.call (.ref fa) ⟨[.ref a],[]⟩) (λr s'=>r=.ok (.ret (.bool true))/\OldK i.heap s'.heap/\s'.os=i.os/\AllBare s'.gens) i:=by
  intro H hT hO hS N hA hK;have f:∀{b:Addr} {o:Obj},i.heap.get? b=some o->H b=none->(aBw i.heap H).get? b=some o:=λe n=>aRq e n;have a0:∀{b:Addr} {o:Obj} {E:Array DictEntry} {D:Nat},i.heap.get? b=some o->o.data=.dict E D->H b=none:=λ{b o E D} e d=>by
   cases q:H b with
   |none=>rfl
   |some u=>
    rcases hA b (by rw[q];simp) with e'|⟨p,c,e'⟩
    ·subst e';rw[O] at e;cases e;have Z:Data.seq vs.toArray _=Data.dict E D:=d;cases Z
    ·subst e';rw[(l p c).1] at e;cases e;have Z:Data.fields _=Data.dict E D:=d;cases Z
  have A:∀{b:Addr} {m:bE7},i.heap.Ns b m->(aBw i.heap H).Ns b m:=λ{b m} ⟨o,E,D,e,d,r⟩=>⟨o,E,D,f e (a0 e d),d,r⟩;have G:K.In (aBw i.heap H):=λb o e=>f (KX b o e) (by
   cases q:H b with
   |none=>rfl
   |some u=>
    rcases hA b (by rw[q];simp) with e'|⟨p,c,e'⟩
    ·subst e';rw[hK (by rw[q];simp)] at e;cases e
    ·subst e';rw[(l p c).2.2] at e;cases e)
  have I:BM mg (aBw i.heap H):=by
   obtain⟨W,ob,b1,b2,L,b4,b5,T⟩:=a4;refine⟨W,ob,b1,b2,f L ?_,b4,b5,T⟩;cases q:H W with
   |none=>rfl
   |some u=>
    rcases hA W (by rw[q];simp) with e'|⟨p,c,e'⟩
    ·rw[e',O] at L;cases L;cases (show Data.seq vs.toArray _=Data.plain from T)
    ·rw[e',(l p c).1] at L;cases L;cases (show Data.fields _=Data.plain from T)
  have hM:Mod K mg (aBw i.heap H):=⟨G,A a1,⟨mb,A g,a8⟩,let ⟨mc,h1,h2⟩:=a2;⟨mc,A h1,h2⟩⟩;have e0:aFc P w K mg (aBw i.heap H) callerA [] i H:=⟨rfl,hM,λb o e=>aUb e,Nat.le_of_eq (aN2 _ _),trivial,λb g=>absurd (show b∈([]:List Addr) from g) (by simp),N,.of_eq hg⟩;refine bCA ((F _ G (A a1) I).run callerA [] i H ⟨[.ref a],[]⟩ [.ref a] [.ref a] _ _ hr e0 (Y i (.ref a)) (.cons rfl .nil) (a7 H hT hS)) λr s' h=>?_;cases r with
  |error e=>exact (a3 H e s' h).elim
  |ok fl=>
   cases fl with
   |next=>exact False.elim h
   |brk=>exact False.elim h
   |cont=>exact False.elim h
   |ret u=>
    obtain⟨v,H',os,Q,un,t,r',q⟩:=h;obtain⟨q',qT⟩:=(show v=.bl true/\pO ts H' from q);subst q';obtain rfl:u=Value.bool true:=r';have kp:∀b o,i.heap.get? b=some o->(∀p∈ts,b≠p.1)->s'.heap.get? b=some o:=λb o e g=>by
     cases q:H b with
     |none=>exact un.keep b o e q (by intro z;exact absurd (show b∈([]:List Addr) from z) (by simp)) (by simp)
     |some u=>
      rcases hO b g with z|⟨ob,xs,z⟩
      ·rw[q] at z;cases z
      ·have z2:=un.frzs b ob _ z;obtain⟨j,_⟩:=N b _ z;obtain⟨R,_⟩:=t b _ z2;rw[e] at j;cases j;exact R
    refine⟨rfl,⟨λb o e=>?_,λb o e=>?_⟩,os,Q⟩
    ·by_cases g:∃p∈ts,b=p.1
     ·obtain⟨p,c,rfl⟩:=g;obtain⟨ps,j,_⟩:=t p.1 _ (qT p c);rw[(l p c).1] at e;cases e;exact .inr (.inl ⟨(l p c).2.1,rfl,#[],ps,rfl,by rw[j];simp⟩)
     ·exact .inl (kp b o e λp c z=>g ⟨p,c,z⟩)
    ·by_cases g:∃p∈ts,b=p.1
     ·obtain⟨p,c,rfl⟩:=g;obtain⟨ps,j,_⟩:=t p.1 _ (qT p c);exact⟨_,j⟩
     ·exact⟨o,kp b o e λp c z=>g ⟨p,c,z⟩⟩
 have aT:∀p∈ts,p.1≠a:=λp c z=>by have:=(l p c).1;rw[z,O] at this;cases this
 have S:∀p∈ts,jC ts p.1=some p.2:=λp c=>aM4 a5 c;have C:∀b,(∀p∈ts,b≠p.1)->jC ts b=none:=λb g=>aCq g;have J:∀(H:Hp) (p:Addr × Str),p∈ts->cM P w H i.heap p.1 (.tab p.2):=λH p c=>⟨#[],(l p c).1,trivial,λa6 cv z=>by cases z⟩;cases U:K.lookup a with
 |some o=>
  have e:=KX a o U;rw[O] at e;cases e;refine B (λb=>(jC ts b).map .tab) (λp c=>by show (jC ts p.1).map _=_;rw[S p c];rfl) (λb g=>.inl (by show (jC ts b).map _=_;rw[C b g];rfl)) (.inr ⟨_,vs.toArray,_,U,rfl,rfl,rfl,by rw[j6,M];exact hl,by simpa using rv⟩) (λb u z=>?_) (λb z=>?_) λz=>?_
  ·obtain⟨X,y,rfl⟩:=Option.map_eq_some_iff.mp (show (jC ts b).map .tab=some u from z);obtain⟨p,c,j,R⟩:=mW y;subst j R;exact J _ p c
  ·refine .inr ?_;cases y:jC ts b with
   |none=>exact absurd (show (jC ts b).map HO.tab=none by rw[y];rfl) z
   |some X=>obtain⟨p,c,j,_⟩:=mW y;exact⟨p,c,j.symm⟩
  ·exact absurd (show (jC ts a).map HO.tab=none by rw[C a λp c z=>aT p c z.symm];rfl) z
 |none=>
  refine B (λb=>if b=a then some (.frz { cls:=.type "list",data:=.seq vs.toArray } (.lst (ns.map V.int))) else (jC ts b).map .tab) (λp c=>by show (if p.1=a then _ else (jC ts p.1).map HO.tab)=_;rw[if_neg (aT p c),S p c];rfl) (λb g=>?_) (.inl (.inr ⟨{ cls:=.type "list",data:=.seq vs.toArray },if_pos rfl⟩)) (λb u z=>?_) (λb z=>?_) λ_=>U
  ·by_cases h:b=a
   ·exact .inr ⟨_,_,if_pos h⟩
   ·exact .inl (by show (if b=a then _ else (jC ts b).map HO.tab)=_;rw[if_neg h,C b g];rfl)
  ·by_cases g:b=a
   ·have z':=(if_pos g).symm.trans z;cases z';subst g;exact⟨O,by rw[j0];exact hl,vs,_,rv,O⟩
   ·have z':(jC ts b).map HO.tab=some u:=(if_neg g).symm.trans z;obtain⟨X,y,rfl⟩:=Option.map_eq_some_iff.mp z';obtain⟨p,c,j,R⟩:=mW y;subst j R;exact J _ p c
  ·by_cases g:b=a
   ·exact .inl g
   ·refine .inr ?_;cases y:jC ts b with
    |none=>exact absurd (show (if b=a then _ else (jC ts b).map HO.tab)=none by rw[if_neg g,y];rfl) z
    |some X=>obtain⟨p,c,j,_⟩:=mW y;exact⟨p,c,j.symm⟩
def aQ5 {l:PySem.W.OpenLaw}{n k:Nat}{q:Program}{loose:List Str}{XP:(bE7)->Heap->Prop}{YP:World->Heap->Prop}{d:DefRec}{K:Params->bE4}{CX:World->CXT}{sp:World->Sp}{x:Str}
  (hn:l.most=some n) (P:n<=sizeLine) (L:d.params.defaults=[]) (hr:Room k callerA)
  (ts:List (Addr × Str)) (S:(ts.map (·.1)).Nodup)
  (hY:∀(w:World) (h:Heap),YP w h->(K w.params).In h/\∀p∈ts,h.get? p.1=some { cls:=.none,data:=.fields #[] })
  (Q:∀(w:World),∀p∈ts,(∃c,PySem.W.codeHdIn (K w.params) c p.1=true)/\(K w.params).lookup p.1=none)
  (F:∀(w:World) (mg:bE7) (fa:Addr) (h:Heap),(K w.params).In h->h.Ns mainGlobals mg->mg d.name=some (.ref fa) ->
   ∃fd:FuncData,(∀(s:Shared) (u:Value),BindsTo s fd ⟨[u],[]⟩ [(x,u)]) /\
    ∀base:Heap,(K w.params).In base->base.Ns mainGlobals mg->BM mg base->dW l.prog w (K w.params) mg base (CX w) k fa fd [x] (sp w))
  (R:∀(w:World) (H:Hp) (a:Addr) (ns:List Int),ns.length<=n->pO ts H->SqL (K w.params) H a (ns.map V.int)->sp w [.ref a] H (λv H'=>v=.bl true/\pO ts H') λ_ _ _=>False)
  (I:∀(w:World) (H:Hp) (s:Shared) (e:Value) (s':Shared),CX w [] H s (λ_ _ _=>False) e s'->False) :
  PySem.W.WalkO q loose XP YP l.row.toRowW d [] (λf vs=>PySem.call f vs):=by
 refine Att.aGa hn L λw s₀ C mg Z fa o pm X B a vs ns G Y U hd N y r m i A=>?_;obtain⟨z,j⟩:=hY w _ Y;obtain⟨fd,J,M⟩:=F w mg fa _ z G.T.g y;refine aNj z G.T.g G.T.b G.T.builtins G.T.nolimit A r m (bAJ i P) hr ts (λp t=>⟨j p t,?_,(Q w p t).2⟩) S G.T.bmain M J (λH D O=>R w H a ns i D O) λH e s'=>I w H C e s';obtain⟨c,E⟩:=(Q w p t).1;exact Heap.TableAt.isCodeTable ((PySem.W.codeHd_of_K z E).tab (j p t))
def mL (K:bE4)(H:Hp)(u:V)(r:List V):Prop:=∃a,u=.ref a/\SqT K H a r
def mL.same {K:bE4}{H H':Hp}{u:V}{r:List V}(e:Same H H')(h:mL K H u r):mL K H' u r:=by obtain⟨a,rfl,b⟩:=h;exact⟨a,rfl,e.bA b⟩
def KdV:Bool->V->Prop
 |true,x=>∃i,x=.int i
 |false,x=>∃z,x=.str z
def KdR (ks:List Bool)(r:List V):Prop:=Al2 KdV ks r
def rlt:List V->List V->Bool
 |.int a::xs,.int b::ys=>if (a == b)=true then rlt xs ys else decide (a<b)
 |.str a::xs,.str b::ys=>if (a == b)=true then rlt xs ys else decide (a.cps.toList<b.cps.toList)
 |_,_=>false
def srt (rs:List (List V)):List (List V):=(PySem.W.lC rs.length λi j=>rlt (rs.getD i []) (rs.getD j [])).map λi=>rs.getD i []
def aUc (rs:List (List V)):(srt rs).length=rs.length:=by unfold srt;rw[j0,PySem.W.aCl]
def aVf {b:List (List V)}{r:List V}(h:r∈srt b):r∈b:=by
 obtain⟨i,a,rfl⟩:=List.mem_map.mp h;have:=PySem.W.vG a;have e:b.getD i []=b[i]:=by simp[this]
 rw[e];exact bBH this
def Al2.get {α β:Type}{R:α->β->Prop}{as:List α}{bs:List β}(h:Al2 R as bs){i:Nat}{a:α}{b:β}(c:as[i]?=some a)(f:bs[i]?=some b):R a b:=by obtain⟨d,e,r⟩:=h.at c;rw[f] at e;cases e;exact r
theorem Al2.of {α β:Type}{R:α->β->Prop}:∀{as:List α} {bs:List β},as.length=bs.length->(∀(i:Nat) (a:α) (b:β),as[i]?=some a->bs[i]?=some b->R a b)->Al2 R as bs
 |[],[],_,_=>.nil
 |a::as,b::bs,hl,h=>.cons (h 0 a b rfl rfl) (Al2.of (by simpa using hl) λi x y d c=>h (i+1) x y (by simpa using d) (by simpa using c))
section
variable {prog:Program}{w:World}{A:Around}{s:Shared}{b:Bool}{Q:Bool->Shared->Prop}
def aUt (ks:List Bool):∀{r1 r2:List V} {i1 i2:List Value},KdR ks r1->KdR ks r2->Vals r1 i1->Vals r2 i2->∀i:Nat,Q (rlt r1 r2) s->PySem.W.KatLex prog w A b false Q (i1.zip i2) i s:=by
 induction ks with
 |nil=>intro r1 r2 i1 i2 d a c f i q;cases d;cases a;cases c;cases f;exact q
 |cons k ks ih=>
  intro r1 r2 i1 i2 d a c f i q;cases d with
  |cons a1 t1=>
   cases a with
   |cons a2 t2=>
    cases c with
    |cons p1 w1=>
     cases f with
     |cons p2 w2=>
      cases k with
      |true=>
       obtain⟨x,rfl⟩:=a1;obtain⟨y,rfl⟩:=a2;obtain⟨t,rfl⟩:=p1;obtain⟨u,rfl⟩:=p2;refine (bEQ x t y u) prog w _ _ ?_;unfold rlt at q;by_cases e:(x == y)=true
       ·rw[e,if_pos rfl];rw[if_pos e] at q;exact ih t1 t2 w1 w2 (i+1) q
       ·rw[if_neg e] at q;rw[Bool.not_eq_true] at e;rw[e,if_neg (by decide)];cases g:(b && i == 0) with
        |true=>exact oneLt_int q
        |false=>exact PySem.W.kat_one _ _ (lt_int q)
      |false=>
       obtain⟨x,rfl⟩:=a1;obtain⟨y,rfl⟩:=a2;obtain⟨t,rfl⟩:=p1;obtain⟨u,rfl⟩:=p2;refine (bD1 x t y u) prog w _ _ ?_;unfold rlt at q;by_cases e:(x == y)=true
       ·rw[e,if_pos rfl];rw[if_pos e] at q;exact ih t1 t2 w1 w2 (i+1) q
       ·rw[if_neg e] at q;rw[Bool.not_eq_true] at e;rw[e,if_neg (by decide)];cases g:(b && i == 0) with
        |true=>exact oneLt_str q
        |false=>exact PySem.W.kat_one _ _ (lt_str q)
end
section
variable {X:Cx}
def aPn (K:bE4):List V->Hp->VK->Prop:=λxs H Q=>∃(l:Addr) (us:List V) (rs:List (List V)) (ks:List Bool),xs=[.ref l]/\SqL K H l us/\Al2 (mL K H) us rs/\us.length<64/\ks≠[]/\(∀r∈rs,KdR ks r) /\
 ∀D H' us',H D=none->Same H H'->H' D=some (.lst us')->Al2 (mL K H) us' (srt rs)->Q (.ref D) H'
theorem aMt {bE8:bE6}{σ:L2.St}{H:Hp}{s:Shared}{h':Heap}{k:Bool}{ks:List Bool}(I:Inv X bE8 σ H s)(A:∀b o,s.heap.get? b=some o->h'.get? b=some o):∀{us:List V} {rs:List (List V)} {its:List Value},Al2 (mL X.K H) us rs->Vals us its->(∀r∈rs,KdR (k::ks) r) ->
  ∃fs,PySem.W.KatTups h' its fs/\fs.length=its.length/\∀f∈fs,∀M:Model,PySem.W.Looks M h' (typeOf f) (.type (if k=true then "int" else "str"))
 |_,_,_,.nil,.nil,_=>⟨[],.nil,rfl,λf h=>by cases h⟩
 |_,_,_,.cons (b:=r) hr t,.cons q z,hk=>by
  obtain⟨fs,y,u,v⟩:=aMt I A t z λr m=>hk r (j9 _ m);obtain⟨a,rfl,x⟩:=hr;cases q;obtain⟨l,d,⟨o,j,p,n,w⟩,_⟩:=I.tuple x;have c:=hk r (v4 ..);cases c with
  |cons hx _=>
   cases d with
   |@cons _ f _ fr rx _=>
    refine⟨f::fs,.cons (A _ _ j) p w (by simp) y,by rw[j8,j8,u],λg hg M=>?_⟩;rcases List.mem_cons.mp hg with rfl|hg
    ·cases k with
     |true=>obtain⟨i,rfl⟩:=hx;obtain⟨e,rfl⟩:=rx;exact .now
     |false=>obtain⟨i,rfl⟩:=hx;obtain⟨e,rfl⟩:=rx;exact .now
    ·exact v g hg M
def aR2 {bE8:bE6}{σ:L2.St}{H:Hp}{s:Shared}{us:List V}{rs:List (List V)}{ks:List Bool}{its:List Value}(I:Inv X bE8 σ H s)(y:Vals us its)(D:Al2 (mL X.K H) us rs)(a0:ks≠[])(M:∀r∈rs,KdR ks r)(A:Around)(h2:2<=its.length)(h':Heap)(Y:∀b o,s.heap.get? b=some o->h'.get? b=some o) :
  ∃κ,(∀(Q:SortKind->Shared->Prop),Q κ { s with heap:=h' }->wpAny (model X.prog X.w) A (keyKind' its.toArray) Q (λ_ _=>False) { s with heap:=h' })/\∀i j (C:Bool->Shared->Prop),i<its.length->j<its.length->C (rlt (rs.getD i []) (rs.getD j [])) { s with heap:=h' }->PySem.W.kas_ask X.prog X.w A κ its i j C { s with heap:=h' }:=by
 have e1:=y.length;have e2:=D.len;obtain⟨k,c,rfl⟩:∃k c,ks=k::c:=by
  cases ks with
  |nil=>exact absurd rfl a0
  |cons k c=>exact⟨k,c,rfl⟩
 obtain⟨fs,S,t2,t3⟩:=aMt I Y D y M;refine⟨_,λQ O=>PySem.W.kat_kind (s:={ s with heap:=h' }) (T:=.type (if k=true then "int" else "str")) S (by lia) (λv q=>t3 v q _) (by simp) O,λi j C F hj E=>?_⟩;have f:∀{i:Nat},i<its.length->∃a o r l n,its.getD i Value.none=.ref a/\h'.get? a=some o/\o.data=.seq (List.toArray l) n/\Vals r l/\rs.getD i []=r/\KdR (k::c) r:=λ{i} F=>by
  have g:i<us.length:=by lia
  have d:i<rs.length:=by lia
  obtain⟨a,U,P⟩:=D.get (b8 g) (b8 d);obtain⟨v,q,G⟩:=y.get (b8 g);rw[U] at G;cases G;obtain⟨l,R,⟨o,L,hc,n,hd⟩,_⟩:=I.tuple P;refine⟨a,o,rs[i],l,n,?_,Y _ _ L,hd,R,by simp[d],M _ (bBH d)⟩;rw[v7,q];rfl
 obtain⟨a,o,r1,Z,n1,N,J,g3,B,g5,z⟩:=f F;obtain⟨b,o',r2,x2,n2,u,x,m,h,t,e⟩:=f hj;show wpAny _ _ (keyLt' _ (its.getD i Value.none) (its.getD j Value.none)) C _ _;rw[N,u];refine PySem.W.kat_lt (s:={ s with heap:=h' }) J g3 x m ?_;have p:decide ((List.toArray Z).size<(List.toArray x2).size)=false:=by rw[j6,j6];have:=B.length;have:=h.length;have:=Al2.len z;have:=Al2.len e;exact m9 (by lia)
 rw[p];refine aUt (k::c) z e B h 0 ?_;rw[g5,t] at E;exact E
def aOq {us:List V}{its:List Value}(f:Vals us its):∀L:List Nat,(∀i∈L,i<us.length)->Vals (L.map λi=>us.getD i .non) (L.map λi=>its.getD i Value.none):=by
 intro L
 induction L with
 |nil=>intro _;exact .nil
 |cons i L ih=>intro b;have a:=b i (v4 ..);obtain⟨v,e,c⟩:=f.get (b8 a);refine .cons ?_ (ih λj d=>b j (j9 _ d));show RelV (us.getD i .non) (its.getD i Value.none);rw[v7,b8 a,v7,e];exact c
def aPj {K:bE4}{H:Hp}{us:List V}{f:List (List V)}(e:Al2 (mL K H) us f):∀L:List Nat,(∀i∈L,i<us.length)->Al2 (mL K H) (L.map λi=>us.getD i .non) (L.map λi=>f.getD i []):=by
 intro L
 induction L with
 |nil=>intro _;exact .nil
 |cons i L ih=>
  intro c;have b:=c i (v4 ..);have a:i<f.length:=by have:=e.len;lia
  refine .cons ?_ (ih λj d=>c j (j9 _ d));show mL K H (us.getD i .non) (f.getD i []);rw[v7,b8 b,v7,b8 a];exact e.get (b8 b) (b8 a)
def yV:bR X (.builtin "sorted") (aPn X.K):=by
 intro w s σ H J t Q I r h;obtain⟨l,y,c,D,rfl,p,k,C,g,v,q⟩:=h;obtain⟨u,rfl,x⟩:=vals1 r;cases x;obtain⟨a,d,z,G⟩:=I.list p;have E:=d.length;have F:=k.len;refine PySem.W.aEy (f:=λi j=>rlt (c.getD i []) (c.getD j [])) z.isList (by lia) (aR2 I d k g v _) ?_;obtain⟨e,B⟩:=sortedAll_at s.heap a (List.toArray ((PySem.W.lC a.length λi j=>rlt (c.getD i []) (c.getD j [])).map λi=>a.getD i Value.none));have n:H (s.heap.objs.size+1)=none:=I.hok.fresh (bCX _);have A:a.length=c.length:=by lia
 refine⟨.ref (s.heap.objs.size+1),_,I.laid (t':=s.toks) (o:=.lst ((PySem.W.lC c.length λi j=>rlt (c.getD i []) (c.getD j [])).map λi=>y.getD i .non)) (λb o q=>sortedAll_old q) (bCX _) ?_,rfl,q _ _ _ n (aR n _) aH (aPj k _ λi m=>by have:=PySem.W.vG m;lia)⟩;refine⟨small (by rw[j0,PySem.W.aCl];lia),_,e,?_,B⟩;rw[A];exact aOq d _ λi m=>by have:=PySem.W.vG m;lia
end
section
variable {X:Cx}{bE8:bE6}{σ:List (Option V)}{H:Hp}{s:Shared}
end
section
variable {X:Cx}
end
section
variable {P:Program}{w:World}{K:bE4}{mg:bE7}{base:Heap}
def aQu (K:bE4)(mg:bE7)(x:Str)(Pt:Addr):Prop:=∃f o fd c,mg x=some (.ref f)/\K.lookup f=some o/\o.data=.func fd/\fd.code=.ref c/\PySem.W.codeHdIn K c Pt=true
def Ok.bB8 {x:Str}{st:Stmt}{N ps:List Str}{k:Nat}{sp:Sp}{Pt:Addr}(D:Dn K mg x st ps)(C:aQu K mg x Pt)(O:K.In base)(S:aN N ps (aD st))(y:∀vs H Q E,sp vs H Q E->vs.length=ps.length)
  (b:∀(f c:Addr) (A:Around) (outer:List Env) (s:Shared) (H:Hp) (vs:List V) (Q:VK) (E:XK),PySem.W.CodeHd base c Pt->Room k (A.deeper (envOfC x (aD st) s.heap.objs.size f (.ref c)))->sp vs H Q E ->
   ∃t,VSs (qK CX0 P w K mg base N x (aD st) f (.ref c) A outer s H E).nox (cQ st) t/\t { nx:=λ_ H'=>Q .non H',rt:=Q } (start N vs) H):Ok P w K mg base (k+1) x ps sp:=by
 obtain⟨f,u,F,B,m⟩:=D;obtain⟨R,T,z,c,o,a,g,i,p⟩:=C;rw[m] at o;cases o;refine⟨f,u,m,F.kp,B,?_⟩;obtain⟨L,J,kV,r,M,I,l,U,v,rfl,n,d⟩:=F.ex;rw[n] at a;cases a;cases g;have e:l=.ref c:=i;subst e;refine aLo n d S y λA outer s H vs Q E G j=>?_;obtain⟨t,h,q⟩:=b f c A outer s H vs Q E (PySem.W.codeHd_of_K O p) G j;exact⟨t,h.1.nox,q⟩
end
section
variable {X:Cx}
end
end L2
namespace My
open PySem PySem.Spec PyProof.Rows L2
section
variable {P:Program}{w:World}{K:bE4}{mg:bE7}{base:Heap}
def vlt:V->V->Bool
 |.int a,.int b=>decide (a<b)
 |.str a,.str b=>decide (a.cps.toList<b.cps.toList)
 |_,_=>false
def wQ (k:Str):Prop:=k = "number"\/k = "word"
def isTup:Tg->Bool
 |.tup _=>true
 |_=>false
def aC0 {H:Hp}{v:V}{t:Tg}(h:bF K H v t):Tk K H v (isTup t):=by
 cases h with
 |non=>exact .non
 |int=>exact .int
 |bl=>exact .bl
 |str _=>exact .str
 |tup g _ _=>exact .tup g
 |lst g _ _ _=>exact .lst (SqL.of g)
 |dct g=>exact .dct g
def mY {H:Hp}{v:V}{t:Tg}(h:bF K H v t):Th K H v:=by
 cases h with
 |non=>exact .inr (.inr (.inr ⟨_,.non⟩))
 |int=>exact .inr (.inl ⟨_,rfl⟩)
 |bl=>exact .inr (.inr (.inl ⟨_,rfl⟩))
 |str h=>exact .inl ⟨_,rfl,h⟩
 |tup g _ _=>exact .inr (.inr (.inr ⟨_,.tup g⟩))
 |lst g _ _ _=>exact .inr (.inr (.inr ⟨_,.lst (SqL.of g)⟩))
 |dct g=>exact .inr (.inr (.inr ⟨_,.dct g⟩))
def flat:Tg->V
 |.int i=>.int i
 |.bl b=>.bl b
 |.str x=>.str x
 |_=>.non
def oJ (t:Tg):Bool:=nameB (flat t)
def bBz (t:Tg):Bool:=yU (flat t)
def jD (t:Tg)(xs:List V):Bool:=isS (flat t) && inV (flat t) xs
def aEs {H:Hp}{v:V}{t:Tg}(h:bF K H v t):nameB v=oJ t:=by cases h <;> rfl
def aEk {H:Hp}{v:V}{t:Tg}{xs:List V}(h:bF K H v t):(isS v && inV v xs)=jD t xs:=by cases h <;> rfl
def aEg {H:Hp}{v:V}{t:Tg}(h:bF K H v t)(b:∀ts,t≠.tup ts)(a:∀ts,t≠.lst ts)(hd:t≠.dct):v=flat t:=by
 cases h with
 |tup _ _ _=>exact absurd rfl (b _)
 |lst _ _ _ _=>exact absurd rfl (a _)
 |dct _=>exact absurd rfl hd
 |_=>rfl
def aWk {H:Hp}{vs:List V}{ts:List Tg}(h:cB K H vs ts)(l:vs.length=2):∃v u a b,vs=[v,u]/\ts=[a,b]/\bF K H v a/\bF K H u b:=by
 match vs,h,l with
 |[v,u],.cons h1 (.cons h2 .nil),_=>exact⟨v,u,_,_,rfl,rfl,h1,h2⟩
def iB (m:Int):Tg->Bool
 |.int i=>decide (0<=i) && decide (i<m)
 |_=>false
inductive uI (K:bE4)(vs:List V)(H:Hp)(Q:VK)(E_:XK):Prop
 |mk (v:V) (t:Tg) (m:Int) (_:vs=[v,.int m]) (_:bF K H v t) (_:Q (.bl (iB m t)) H)
def aEr (T:Txt w K mg)(e:Ok P w K mg base 1 "is_whole" n7 (kO K)):Ok P w K mg base 2 "is_number_below" bQN (uI K):=by
 refine Ok.ofV T.tZ qN (by trivial) (λf d A a s H g Q E j h=>?_)
 obtain⟨v,t,m,rfl,b,q⟩:=h;refine⟨_,(aF (aP (eQ (bI e (va1 (vv 0))) (fJ (aSl aAq aP2 aB (vv 0) (vv 1)))))),?_⟩;refine⟨_,rfl,_,rfl,mY b,_,rfl,?_⟩;cases b with
 |@int i=>
  have q:Q (.bl (decide (0<=i) && decide (i<m))) H:=q;refine bZ ⟨_,rfl,_,_,rfl,rfl,_,rfl,?_⟩;cases c:decide (0<=i) with
  |false=>rw[c] at q;exact cA q
  |true=>rw[c] at q;exact bZ ⟨_,rfl,_,_,rfl,rfl,q⟩
 |_=>exact cA q
def aAy (m:Int):Tg->Bool
 |.tup [_,b]=>iB m b
 |_=>false
def aIj {m:Int}{a:List Tg}(h:a.length≠2):aAy m (.tup a)=false:=by
 match a,h with
 |[],_=>rfl
 |[_],_=>rfl
 |[_,_],h=>exact absurd rfl h
 |_::_::_::_,_=>rfl
inductive aQv (K:bE4)(vs:List V)(H:Hp)(Q:VK)(E_:XK):Prop
 |mk (v:V) (t:Tg) (m:Int) (_:vs=[v,.int m]) (_:bF K H v t) (_:∀H',Same H H'->Q (.bl (aAy m t)) H')
def aNu (T:Txt w K mg)(p:Ok P w K mg base 2 "is_number_below" bQN (uI K)):Ok P w K mg base 3 "is_cut" o9 (aQv K):=by
 refine Ok.ofV T.aRt aPd (by trivial) (λf j A b s H c Q E o h=>?_)
 obtain⟨v,t,m,rfl,d,q⟩:=h;refine⟨_,(aF (aP (eQ (aO fW (by rfl) T.aY aW (aG (vv 0) (va1 (dB (v:=.ty "tuple") (by rfl) T.eF dG rfl)))) (eQ (lH cV (aO bM (by rfl) T.fQ dI (va1 (vv 0))) aB) (fJ (bI p (aG (bO cD (vv 0) aB) (va1 (vv 1))))))))),?_⟩;refine⟨_,rfl,_,_,rfl,aC0 d,_,rfl,?_⟩;cases d with
 |@tup a c ts ha hl hts=>
  refine bZ ⟨_,rfl,_,_,rfl,.inr ha,rfl,_,rfl,?_⟩;have n:=hts.len;by_cases i:c.length=2
  ·obtain⟨v,u,k,e,rfl,rfl,l,g⟩:=aWk hts i;exact bZ ⟨_,rfl,a,_,1,_,rfl,rfl,ha,at1 _ _ _,_,rfl,u,e,m,rfl,g,q H (Same.refl H)⟩
  ·rw[aIj (by lia)] at q;rw[m9 (by intro z;injection z with z;lia)];exact cA (q H (Same.refl H))
 |_=>exact cA (q H (Same.refl H))
def aKc (lo hi:Nat)(p:Tg->Bool):Tg->Bool
 |.tup ts=>decide (lo<=ts.length) && (decide (ts.length<=hi) && ts.all p)
 |_=>false
inductive aM3 (P:Program)(w:World)(K:bE4)(mg:bE7)(base:Heap)(k:Nat)(vs:List V)(H:Hp)(Q:VK)(E_:XK):Prop
 |mk (v:V) (t:Tg) (lo hi:Nat) (f:Addr) (qual g x y:Str) (z:V) (ps:List Str) (sp:Sp) (p:Tg->Bool) (_:vs=[v,.int (lo:Nat),.int (hi:Nat),.ref f]) (_:bF K H v t) (_:hi<=1000) (_:tO H f qual g x y z) (_:Ok P w K mg base k g ps sp) (_:(∀(u:V) (tu:Tg) (H':Hp) (R:VK),Same H H'->bF K H' u tu->(∀H2,Same H' H2->R (.bl (p tu)) H2)->sp [u,z] H' R E0)) (_:∀H',Same H H'->Q (.bl (aKc lo hi p t)) H')
def wJ {k:Nat}(T:Txt w K mg):Ok P w K mg base (k+2) "is_tuple_of" o6 (aM3 P w K mg base k):=by
 refine Ok.ofV T.pL nG (by trivial) (λf a0 A o s H vs Q E hr h=>?_)
 obtain⟨v,t,e,n,g,c,S,x,y,z,X,M,p,rfl,j,u,J,O,B,q⟩:=h;refine⟨_,(aC (cF (VW.pt (iY (cR (cJ (aO fW (by rfl) T.aY aW (aG (vv 0) (va1 (dB (v:=.ty "tuple") (by rfl) T.eF dG rfl)))))) (gU (cR (zN aAq aAq (vv 1) (aO bM (by rfl) T.fQ dI (va1 (vv 0))) (vv 2)))))) (aF (aP cN)) bB) (aF (aP (aO (iM rfl) (by rfl) T.aAf qQ (va1 (dF (N:=["part","is_part"]) ck (jP (aD gG)) rfl (oH (vv 0)) (λcl m b fp=>⟨(jB 0),dX,(aOz (P:=P) (w:=w) (K:=K) (mg:=mg) (base:=base) hr (vv 1) (va1 (vv 0)))⟩))))))),?_⟩;refine⟨_,rfl,_,_,rfl,aC0 j,_,rfl,?_⟩;cases j with
 |@tup a xs ts ha hl hts=>
  have ll:=hts.len;refine cA ⟨_,rfl,_,rfl,_,_,rfl,.inr ha,_,_,rfl,rfl,_,rfl,?_⟩;have q:∀b,Same H b->Q (.bl (decide (e<=ts.length) && (decide (ts.length<=n) && ts.all p))) b:=q;by_cases F:e<=ts.length
  ·rw[m8 (show (e:Int)<=(xs.length:Int) by lia)];rw[m8 F,bAW] at q;refine bZ ⟨_,rfl,_,_,rfl,rfl,_,rfl,?_⟩;by_cases G:ts.length<=n
   ·rw[m8 (show (xs.length:Int)<=(n:Int) by lia)];rw[m8 G,bAW] at q;refine cA ?_;dsimp only[rR,uH,tCB,cO];refine nF [none,some (.ref g)] (oU 3 (by trivial) rfl rfl (by trivial)) ⟨_,rfl,a,rfl,⟨_,ha⟩,zO (uM λb m=>m.bA ha) (kW λb m=>m.bA ha) ⟨none,rfl⟩ hl (ts.map λt=>V.bl (p t)) (by rw[j0];exact ll.symm) (λi C z' W I b R l d r=>?_) λD Z U _ L=>?_⟩
    ·obtain⟨t,j,Y⟩:=hts.at W;rw[m5,j] at I;cases I;exact⟨_,rfl,g,c,S,x,y,z,X,M,rfl,J.same d,O,_,rfl,C,rfl,J.same d,B C t b R d (Y.same d) r⟩
    ·refine⟨D,ts.map p,rfl,SqL.of (by rw[L,bBV];rfl),?_⟩;rw[bDI];exact q Z U
   ·rw[m9 (show ¬ (xs.length:Int)<=(n:Int) by lia)];rw[m9 G,bAG] at q;exact bZ (q H (Same.refl H))
  ·rw[m9 (show ¬ (e:Int)<=(xs.length:Int) by lia)];rw[m9 F,bAG] at q;exact cA ⟨_,rfl,bZ (q H (Same.refl H))⟩
 |_=>exact bZ (q H (Same.refl H))
def aS4 {x g y:Str}{env:Env}{b:Addr}(h:env.cells.lookup y=some b):closureFor { kind:=.function,names:=[(x,.local),(y,.free),(g,.globalImplicit)],isGenerator:=false,isCoroutine:=false,more:=[] } env=pure [(y,b)]:=by
 have a:cellOf env y=pure b:=by unfold cellOf;rw[h]
 simp[closureFor,a]
def qC:Str:="are_cuts.<locals>.<lambda>"
def aCy {α β:Type}{R:α->β->Prop}{as:List α}{bs:List β}(h:cP R as bs){b:β}(hb:b∈bs):∃a∈as,R a b:=by
 induction h with
 |nil=>cases hb
 |cons r _ ih=>
  rcases List.mem_cons.mp hb with rfl|hb
  ·exact⟨_,v4,r⟩
  ·obtain⟨a,d,c⟩:=ih hb;exact⟨a,j9 _ d,c⟩
def aBa:Tg->Tg
 |.tup (a::_)=>a
 |_=>.non
def aFy:Tg->Bool
 |.non=>true
 |_=>false
def aS3 {H:Hp}{v:V}{t:Tg}(h:bF K H v t):decide (v=.non)=aFy t:=by
 cases h with
 |non=>rfl
 |_=>exact m9 λz=>by cases z
def iW (kd:Str)(t:Tg):Bool:=bBz t && decide (kindS (flat t)=kd)
def aSi {H:Hp}{v:V}{t:Tg}{kd:Str}(h:bF K H v t):(yU v && decide (kindS v=kd))=iW kd t:=by cases h <;> rfl
def aB2 (ls:List Tg):Bool:=(ls.zip (ls.drop 1)).all λp=>vlt (flat p.1) (flat p.2)
def wA (kd:Str):Tg->Bool
 |.tup (c::cs)=>aFy (aBa c) && ((cs.map aBa).all (iW kd) && aB2 (cs.map aBa))
 |_=>false
def jE (kd:Str)(m:Int)(t:Tg):Bool:=aKc 1 8 (aAy m) t && wA kd t
abbrev aYc (K:bE4)(H:Hp):V->V × Tg->Prop:=λu c=>∃p y,u=.ref p/\SqT K H p [c.1,y]/\bF K H c.1 c.2
theorem aLt {H:Hp}{m:Int}:∀{us:List V} {ts:List Tg},cB K H us ts->ts.all (aAy m)=true->∃cs:List (V × Tg),cP (aYc K H) us cs/\cs.map (·.2)=ts.map aBa
 |_,_,.nil,_=>⟨[],.nil,rfl⟩
 |_,_,.cons h t,e=>by
  rw[bBS,bAB] at e;obtain⟨cs,b,c⟩:=aLt t e.2;cases h with
  |@tup a vs ts' ha hl hts=>
   by_cases d:vs.length=2
   ·obtain⟨v,u,x,y,rfl,rfl,f,g⟩:=aWk hts d;exact⟨(v,x)::cs,.cons ⟨a,u,rfl,ha,f⟩ b,by rw[bAC,bAC,c];rfl⟩
   ·rw[aIj (by have:=hts.len;lia)] at e;cases e.1
  |_=>cases e.1
def aVg {kd:Str}{a b:V}{x y:Tg}{H:Hp}{Q:VK}(h:bF K H a x)(g:bF K H b y)(e:iW kd x=true)(c:iW kd y=true)(q:Q (.bl (vlt (flat x) (flat y))) H):bAg a b H Q:=by
 unfold iW at e c;rw[bAB] at e c;have d:=of_decide_eq_true e.2;have f:=of_decide_eq_true c.2;cases h with
 |int=>
  cases g with
  |int=>exact .inl ⟨_,_,rfl,rfl,q⟩
  |str _=>rw[<-f] at d;exact absurd d (by show (Str.ofString "number")≠Str.ofString "word";decide +kernel)
  |_=>cases c.1
 |str _=>
  cases g with
  |str _=>exact .inr ⟨_,_,rfl,rfl,q⟩
  |int=>rw[<-f] at d;exact absurd d (by show (Str.ofString "word")≠Str.ofString "number";decide +kernel)
  |_=>cases c.1
 |_=>cases e.1
inductive aMa (K:bE4)(Pt:Addr)(vs:List V)(H:Hp)(Q:VK)(E_:XK):Prop
 |mk (v:V) (t:Tg) (kd:Str) (m:Int) (_:vs=[v,.str kd,.int m]) (_:bF K H v t) (_:H Pt=some (.tab qC)) (_:∀H',Same H H'->Q (.bl (jE kd m t)) H')
def aF1 (T:Txt w K mg){Pt:Addr}(C:aQu K mg "are_cuts" Pt)(hK:K.In base)(a9:BM mg base)(jW:Ok P w K mg base 5 "is_tuple_of" o6 (aM3 P w K mg base 3))(a8:Ok P w K mg base 3 "is_cut" o9 (aQv K))
  (jR:Ok P w K mg base 3 "is_value_of" bQO (aJ4 K)):Ok P w K mg base 6 "are_cuts" bQL (aMa K Pt):=by
 refine Ok.bB8 T.aK1 C hK vV (λvs H Q E h=>?_) (λf c A a2 s H vs Q E CH hr h=>?_)
 ·obtain⟨v,t,k,m,rfl,_⟩:=h;rfl
 obtain⟨v,t,k,m,rfl,ht,hP,q⟩:=h;have a7:=aF4 hr;refine⟨_,(aC (cF (VW.pt (iY (cR (cJ (aJ0 (iy:=2) jW hr (by rfl) (vv 0) aB (iG (by rfl) T.aHa) rfl CH a9 ⟨⟨_,_,_,_,rfl⟩,λ_ _ _ _ _=>rfl,rfl,rfl,rfl,by trivial,rfl,rfl,rfl,by trivial,by trivial,by trivial,by trivial,by trivial⟩ rfl rfl rfl rfl (aS4 rfl) rfl))) (gU (eY aUi (bO cD (bO cD (vv 0) aB) aB) cY)))) (aF (aP cN)) bB) (aC (aEd (i0:=3) vV.nd rfl (by trivial) (N:=["cut"]) ck gR rfl (oH (kE aVr (vv 0) (lM aB) rN)) (λcl g b fp=>⟨(jB 0),dX,(bO (dU (K:=K)) (vv 0) aB)⟩)) (aC (cF (cR (cJ (aO (iM rfl) (by rfl) T.aAf qQ (va1 (dF (N:=["low","kind"]) ck (jP (aD qU)) rfl (oO (vv 3)) (λcl g b fp=>⟨(jB 0),dX,(bI jR (aG (vv 0) (va1 (vv 1))))⟩)))))) (aF (aP cN)) bB) (aF (aP (aO (iM rfl) (by rfl) T.aAf qQ (va1 (dF (N:=["low","after"]) ck gR rfl (aSx (by rfl) T.aWy (aG (vv 3) (va1 (kE aHg (vv 3) (lM aB) rN)))) (λcl g b fp=>⟨(oR (K:=K) (n:=2) rfl (aZ (jB 0) (aZ (jB 1) dC))),dX,(lH aY4 (vv 0) (vv 1))⟩))))))))),?_⟩;unfold jE at q;refine⟨_,rfl,.int m,rfl,hP,λlf H2 hL hT=>⟨v,t,1,8,lf,_,_,_,_,_,_,_,aAy m,rfl,ht.st (.lam hT),by decide,hL,a8,λu tu b R B hu r=>⟨u,tu,m,rfl,hu,r⟩,λH3 s3=>⟨s3,λH4 M=>⟨_,rfl,?_⟩⟩⟩⟩;cases S:aKc 1 8 (aAy m) t with
 |false=>rw[S,bAG] at q;exact bZ (q H4 M)
 |true=>
 rw[S,bAW] at q;cases ht with
 |@tup a us ts ha hl hts=>
  have S:(decide (1<=ts.length) && (decide (ts.length<=8) && ts.all (aAy m)))=true:=S;rw[bAB,bAB] at S;obtain⟨l1,l8,a0⟩:=S;have l1:=of_decide_eq_true l1;have l8:=of_decide_eq_true l8;obtain⟨d,a3,e⟩:=aLt hts a0;obtain⟨c0,d,rfl⟩:∃c0 cs',d=c0::cs':=by
   cases d with
   |nil=>have:=congrArg List.length e;rw[j0,j0,bBN] at this;lia
   |cons c r=>exact⟨c,r,rfl⟩
  obtain⟨t0,Z,rfl⟩:∃t0 Z,ts=t0::Z:=by
   cases ts with
   |nil=>cases l1
   |cons c r=>exact⟨c,r,rfl⟩
  rw[bAC,bAC] at e;injection e with ec0 e;have q:∀b,Same H b->Q (.bl (aFy (aBa t0) && ((Z.map aBa).all (iW k) && aB2 (Z.map aBa)))) b:=q;rw[<-ec0,<-e] at q;obtain⟨u0,ut,rfl,⟨p0,y0,rfl,a5,h0⟩,X⟩:∃u0 ut,us=u0::ut/\aYc K H u0 c0/\cP (aYc K H) ut d:=by
   cases a3 with
   |cons r t=>exact⟨_,_,rfl,r,t⟩
  have lt:=X.len;have aa:d.length=Z.length:=by have:=congrArg List.length e;rw[j0,j0] at this;exact this
  rw[j8] at l8;refine cA ⟨_,rfl,a,_,0,_,rfl,rfl,M.bA ha,at0 _ _,p0,_,0,_,rfl,rfl,M.bA a5,at0 _ _,rfl,_,rfl,?_⟩;rw[aS3 h0];cases e2:aFy c0.2 with
  |false=>rw[e2,bAG] at q;exact bZ (q H4 M)
  |true=>
  rw[e2,bAW] at q;refine cA ?_;dsimp only[rR,bU,aAg,wY];refine nF [none] uX ⟨_,rfl,_,rfl,a,_,rfl,M.bA ha,λtS H5 s5 g5=>?_⟩;rw[show (1:Int)=((1:Nat):Int) from rfl,uE,List.drop_one,List.tail_cons] at g5;refine⟨tS,rfl,⟨_,g5⟩,zO (uM λb g=>g.bA g5) (kW λb g=>g.bA g5) ⟨none,rfl⟩ (by lia) (d.map (·.1)) (by rw[j0];lia) (λi x z O F b R l B r=>?_) λL H6 s6 nL gL=>?_⟩
  ·obtain⟨c',j,p',y',rfl,a4,_⟩:=cW X O;rw[m5,j] at F;cases F;exact⟨_,rfl,p',_,0,_,rfl,rfl,(M.trans (s5.trans B)).bA a4,at0 _ _,r b (Same.refl _)⟩
  have G:∀(i:Nat) (c:V × Tg),d[i]?=some c->∀b,Same H b->bF K b c.1 c.2:=λi c hc b B=>by obtain⟨_,_,_,_,_,_,hh⟩:=aCy X (bAA hc);exact hh.same B
  have Y:=M.trans (s5.trans s6);dsimp only[aVu,aXs,tB,tCB,cO,List.set];refine zB [none,some (.str k)] (oU 1 (by trivial) rfl rfl (by trivial)) ⟨_,rfl,L,rfl,⟨_,SqL.of gL⟩,zO (aJ2 λb g=>SqL.of (g _ _ gL)) (aAn λb g=>SqL.of (g _ _ gL)) ⟨none,rfl⟩ (by rw[j0];lia) (d.map λc=>V.bl (iW k c.2)) (by rw[j0,j0]) (λi x z O F b R l B r=>?_) λD H7 s7 _ g7=>?_⟩
  ·rw[m5] at O;obtain⟨c',j,rfl⟩:=Option.map_eq_some_iff.mp O;rw[m5,j] at F;cases F;have a1:=G i c' j b (Y.trans B);refine⟨_,rfl,_,rfl,c'.1,k,rfl,mY a1,λH2 s2=>?_⟩;rw[aSi a1];exact r H2 s2
  refine⟨D,d.map λc=>iW k c.2,rfl,SqL.of (by rw[g7,bBV];rfl),⟨_,rfl,?_⟩⟩;have U:=Y.trans s7;rw[bDI] at q;rw[bDI,show (id ∘ λc:V × Tg=>iW k c.2)=(iW k ∘ λc:V × Tg=>c.2) from rfl];cases e3:d.all (iW k ∘ λc:V × Tg=>c.2) with
  |false=>rw[e3,bAG] at q;exact bZ (q H7 U)
  |true=>
  rw[e3,bAW] at q;refine cA ?_;dsimp only[rR,uH,tCB,cO];have W:=s7 _ _ gL;refine aSm [none,none] oY ⟨_,rfl,_,rfl,_,rfl,L,_,rfl,SqL.of W,λa6 H8 _ s8 g8=>?_⟩;rw[show (1:Int)=((1:Nat):Int) from rfl,uE] at g8;refine⟨L,a6,_,_,rfl,SqL.of (s8 _ _ W),SqL.of g8,aGj (SqL.of (s8 _ _ W)) (SqL.of g8) (by rw[bBC];lia) ⟨none,none,rfl⟩ (by rw[bBC,j0];lia) ((d.zip (d.drop 1)).map λp=>V.bl (vlt (flat p.1.2) (flat p.2.2))) (by rw[j0,List.length_zip,bBC,bBC,j0];lia) (λi x y z O ey F b R B r=>?_) λD2 H9 s9 g9=>?_⟩
  ·rw[m5] at O;rw[bET,m5] at ey;obtain⟨ca,I,rfl⟩:=Option.map_eq_some_iff.mp O;obtain⟨cb,J,rfl⟩:=Option.map_eq_some_iff.mp ey;rw[m5,(bEX (z:=(ca,cb))).mpr ⟨I,by rw[bET];exact J⟩] at F;cases F;have o:=List.all_eq_true.mp e3;have sX:=U.trans (s8.trans B);exact⟨_,rfl,_,rfl,aVg (G i ca I b sX) (G _ cb J b sX) (o _ (bAA I)) (o _ (bAA J)) (r b (Same.refl _))⟩
  ·refine⟨D2,(d.zip (d.drop 1)).map λp=>vlt (flat p.1.2) (flat p.2.2),rfl,SqL.of (by rw[g9,bBV];rfl),?_⟩;have er:((d.zip (d.drop 1)).map λp=>vlt (flat p.1.2) (flat p.2.2)).all id=aB2 (d.map (·.2)):=by unfold aB2;rw[<-List.map_drop,List.zip_map,bDI,bDI];rfl
   rw[er];exact q H9 (U.trans (s8.trans s9))
 |_=>cases S
end
end My
namespace L2
open PySem PySem.Spec PyProof.Rows
section
variable {X:Cx}{scope:Scope}{N:List Str}{wi:TI}{te:TE}{σ:St}{H:Hp}{Q:VK}
def aO9 {K:bE4}{tl:TA}{t u:Addr}(xs ys j:List V)(hz:j.length=xs.length)(C:St)(E:Cap X scope N σ C)(hsz:xs.length<=sizeLine)(hl:xs.length=ys.length)
  (p:SqT K H t xs) (r:SqT K H u ys) (J:∀R:List V->Hp->Prop,R [.ref t,.ref u] H->tl σ H R)
  (L:∀(i:Nat) (x y z:V),xs[i]?=some x->ys[i]?=some y->j[i]?=some z->∀H' R l1 l2,Same H H'->(∀H2,Same H' H2->R z H2)->te ((((C.set 0 l1).set 1 l2).set 0 (some x)).set 1 (some y)) H' R) (F:C[0]?=some none) (I:C[1]?=some none)
  (q:∀D H',Same H H'->H' D=some (.lst j)->Q (.ref D) H') :
  gK X scope N (aPr K tl) (aFv K 2 (mF (bU 0) (mF (bU 1) aKk))) lJ te σ H Q:=by
 refine⟨C,E,J _ ⟨t,u,xs,ys,rfl,p,r,λD l=>?_⟩⟩;refine⟨λi m n H' g=>i<=xs.length/\m=xs.length - i/\(∃l1 l2,n=(C.set 0 l1).set 1 l2)/\Same H H'/\H' D=some (.lst g)/\g=j.take i,⟨xs.length,bAS _,rfl,⟨none,none,?_⟩,aR l _,aH,rfl⟩,?_⟩
 ·rw[<-jX F];exact jX I
 rintro i m n H' g ⟨hi,rfl,⟨l1,l2,rfl⟩,sm,hL,rfl⟩;refine⟨hL,?_⟩;by_cases d:i<xs.length
 ·right;refine⟨⟨sm.bA p,sm.bA r,d,by lia⟩,λv H2 A=>?_⟩;obtain⟨T,a,b,B,rfl,rfl,w,s⟩:=A;have h:Same H' (upd H' T (.tup [a,b])):=aR B _;refine⟨T,[a,b],rfl,.inl (.inl aH),rfl,a,[b],rfl,b,[],rfl,rfl,?_⟩;unfold lJ;dsimp only;rw[if_pos rfl];have f:i<j.length:=by lia
  refine L i a b _ w s (b8 f) _ _ l1 l2 (λb o e=>h _ _ (sm _ _ e)) λG k=>⟨k _ _ (h _ _ hL),?_,xs.length - (i+1),by lia,d,rfl,⟨some a,some b,?_⟩,?_,aH,?_⟩
  ·rw[bAT];lia
  ·rw[List.set_comm _ _ (show (1:Nat)≠0 by decide),bCQ,bCQ]
  ·intro c o e;rw[aJ (aV e l)];exact k _ _ (h _ _ (sm _ _ e))
  ·rw[bBR,b8 f];rfl
 ·left;have e:i=xs.length:=by lia
  subst e;refine⟨⟨sm.bA p,j5 _⟩,?_⟩;rw[bBF (by lia)] at hL;exact q D _ sm hL
end
end L2
namespace My
open PySem PySem.Spec PyProof.Rows L2
section
variable {P:Program}{w:World}{K:bE4}{mg:bE7}{base:Heap}
def aCz {c:Bool}{p q:Prop}(h:c=true)(a:p):if c=true then p else q:=by rw[if_pos h];exact a
def sI {c:Bool}{p q:Prop}(h:c=false)(a:q):if c=true then p else q:=by rw[if_neg (by rw[h];exact m7)];exact a
def mR (hd:Hdr)(t:Tg):Bool:=oJ t && inV (flat t) ((hd.map (·.1)).map V.str)
def oW {t:Tg}(h:oJ t=true):∃n,t=.str n:=by
 cases t with
 |str n=>exact⟨n,rfl⟩
 |int i=>cases (show false=true from h)
 |_=>cases h
inductive aGw (K:bE4)(vs:List V)(H:Hp)(Q:VK)(E_:XK):Prop
 |mk (vh v:V) (hd:Hdr) (t:Tg) (_:vs=[vh,v]) (_:gY K H vh hd) (_:hd.length<=1000) (_:bF K H v t) (_:∀H',Same H H'->Q (.bl (mR hd t)) H')
def xF (T:Txt w K mg)(r:Ok P w K mg base 2 "is_name" n7 (aA9 K nameB))(u:Ok P w K mg base 1 "names_of" ["head"] (aD3 K)):Ok P w K mg base 3 "is_column_in" z8 (aGw K):=by
 refine Ok.ofV T.zV wL (by trivial) (λf p A a s H x Q E y h=>?_)
 obtain⟨l,v,m,t,rfl,j,d,c,q⟩:=h;refine⟨_,(aF (aP (eQ (bI r (va1 (vv 1))) (fJ (oZ vJ (vv 1) (bI u (va1 (vv 0))) (by with_unfolding_all rfl)))))),?_⟩;refine⟨_,rfl,_,rfl,mY c,λk b=>⟨_,rfl,?_⟩⟩;unfold mR at q;rw[aEs c];cases e:oJ t with
 |false=>rw[e,bAG] at q;exact cA (q k b)
 |true=>
  rw[e,bAW] at q;obtain⟨n,rfl⟩:=oW e;cases c with
  |str _=>refine bZ ⟨_,rfl,_,rfl,l,m,rfl,j.same b,d,λD i o g=>?_⟩;exact⟨D,_,rfl,.inl (SqL.of g),rfl,yE,q i (b.trans o)⟩
def kdOf (hd:Hdr):Tg->Str
 |.str n=>(look hd n).getD ""
 |_=>""
def mG (hd:Hdr)(m:Int):Tg->Bool
 |.tup (w::r)=>if jD w [.str "copies"] then decide (r.length=0) else if jD w [.str "keys"] then decide (r.length=1) && mR hd (r.getD 0 .non) else jD w [.str "spans"] && (decide (r.length=2) && (mR hd (r.getD 0 .non) && jE (kdOf hd (r.getD 0 .non)) m (r.getD 1 .non)))
 |_=>false
theorem aMr {n:Str}:∀{hd:Hdr},n∈hd.map (·.1)->∃k,look hd n=some k
 |[],h=>by cases h
 |c::r,h=>by
  by_cases e:c.1=n
  ·exact⟨c.2,by unfold look;rw[List.find?_cons_of_pos (by simpa using e)];rfl⟩
  ·rcases List.mem_cons.mp h with h|h
   ·exact absurd h.symm e
   ·obtain⟨k,a⟩:=aMr (hd:=r) h;exact⟨k,by unfold look at a ⊢;rw[List.find?_cons_of_neg (by simpa using e)];exact a⟩
def aNt {hd:Hdr}{t:Tg}(h:mR hd t=true):∃n k,t=.str n/\look hd n=some k:=by unfold mR at h;rw[bAB] at h;obtain⟨n,rfl⟩:=oW h.1;have a:=h.2;rw[show flat (.str n)=V.str n from rfl,oX] at a;obtain⟨k,b⟩:=aMr (of_decide_eq_true a);exact⟨n,k,rfl,b⟩
def aE6 {n k:Nat}:decide (V.int (n:Nat)=V.int (k:Nat))=decide (n=k):=decide_eq_decide.mpr ⟨λz=>by have:=V.int.inj z;lia,λz=>by rw[z]⟩
def xP {v:V}{vs:List V}{i:Nat}{x:V}(h:vs[i]?=some x):atI (v::vs) ((i+1:Nat):Int)=some x:=bV (by simpa using h)
inductive aW5 (K:bE4)(Pt:Addr)(vs:List V)(H:Hp)(Q:VK)(E_:XK):Prop
 |mk (v vh:V) (m:Int) (hd:Hdr) (t:Tg) (_:vs=[v,vh,.int m]) (_:bF K H v t) (_:gY K H vh hd) (_:hd.length<=1000) (_:H Pt=some (.tab qC)) (_:∀H',Same H H'->Q (.bl (mG hd m t)) H')
def aBb (T:Txt w K mg){Pt:Addr}(S:Ok P w K mg base 1 "is_one_of" bQK (aJl K))(mX:Ok P w K mg base 3 "is_column_in" z8 (aGw K))(a0:Ok P w K mg base 1 "kind_in" bQC (aSb K))(a1:Ok P w K mg base 6 "are_cuts" bQL (aMa K Pt)):Ok P w K mg base 7 "is_placing" bQG (aW5 K Pt):=by
 refine Ok.ofV T.aFn aBu (by trivial) (λf a2 A C s H vs Q E hr h=>?_)
 obtain⟨v,I,m,e,t,rfl,U,G,M,hP,q⟩:=h;refine⟨_,(aC (cF (VW.pt (iY (cR (cJ (aO fW (by rfl) T.aY aW (aG (vv 0) (va1 (dB (v:=.ty "tuple") (by rfl) T.eF dG rfl)))))) (gU (eY cV (aO bM (by rfl) T.fQ dI (va1 (vv 0))) aB)))) (aF (aP cN)) bB) (aC (cF (cJ (bI S (aG (bO cD (vv 0) aB) (va1 (aM (va1 aQ)))))) (aF (aP (lH cV (aO bM (by rfl) T.fQ dI (va1 (vv 0))) aB))) bB) (aC (cF (cJ (bI S (aG (bO cD (vv 0) aB) (va1 (aM (va1 aQ)))))) (aF (aP (eQ (lH cV (aO bM (by rfl) T.fQ dI (va1 (vv 0))) aB) (fJ (bI mX (aG (vv 1) (va1 (bO cD (vv 0) aB)))))))) bB) (aC (cF (VW.pt (iY (cR (cJ (bI S (aG (bO cD (vv 0) aB) (va1 (aM (va1 aQ))))))) (iY (eY aG7 (aO bM (by rfl) T.fQ dI (va1 (vv 0))) aB) (gU (cR (cJ (bI mX (aG (vv 1) (va1 (bO cD (vv 0) aB)))))))))) (aF (aP cN)) bB) (aF (aP (bI a1 (aG (bO cD (vv 0) aB) (aG (bI a0 (aG (vv 1) (va1 (bO cD (vv 0) aB)))) (va1 (vv 2))))))))))),?_⟩;refine⟨_,rfl,_,_,rfl,aC0 U,_,rfl,?_⟩;cases U with
 |@tup a vs ts ha hl' hts=>
  refine cA ⟨_,rfl,_,_,rfl,.inr ha,rfl,_,rfl,?_⟩;cases hts with
  |nil=>exact bZ (q H (Same.refl H))
  |@cons v0 w0 vr r h0 hr'=>
   have ll:=hr'.len;have q:∀u,Same H u->Q (.bl (if jD w0 [.str "copies"] then decide (r.length=0) else if jD w0 [.str "keys"] then decide (r.length=1) && mR e (r.getD 0 .non) else jD w0 [.str "spans"] && (decide (r.length=2) && (mR e (r.getD 0 .non) && jE (kdOf e (r.getD 0 .non)) m (r.getD 1 .non))))) u:=q;have g:∀n:Nat,decide (V.int (((v0::vr).length:Nat):Int)=V.int ((n+1:Nat):Int))=decide (r.length=n):=λn=>by rw[aE6,j8,ll];exact decide_eq_decide.mpr ⟨λz=>by lia,λz=>by lia⟩
   refine sI (m9 λz=>by have:=V.int.inj z;rw[j8] at this;lia) ?_;refine⟨_,rfl,a,_,0,_,rfl,rfl,ha,at0 _ _,by show 1<=sizeLine;decide,λt1 H1 _ o g1=>⟨_,t1,_,rfl,mY (h0.same o),SqT.of g1,rfl,_,rfl,?_⟩⟩;rw[aEk h0];cases R:jD w0 [.str "copies"] with
   |true=>rw[R,if_pos rfl] at q;refine bZ ⟨_,rfl,_,_,rfl,.inr (o.bA ha),rfl,?_⟩;have:=g 0;rw[show ((0+1:Nat):Int)=1 from rfl] at this;rw[this];exact q H1 o
   |false=>
   rw[R,if_neg (by decide)] at q;refine cA ⟨_,rfl,a,_,0,_,rfl,rfl,o.bA ha,at0 _ _,by show 1<=sizeLine;decide,λt2 H2 _ X Z=>⟨_,t2,_,rfl,mY ((h0.same o).same X),SqT.of Z,rfl,_,rfl,?_⟩⟩;have b:=o.trans X;rw[aEk h0];cases W:jD w0 [.str "keys"] with
   |true=>
    rw[W,if_pos rfl] at q;refine bZ ⟨_,rfl,_,_,rfl,.inr (b.bA ha),rfl,_,rfl,?_⟩;have:=g 1;rw[show ((1+1:Nat):Int)=2 from rfl] at this;rw[this];cases l:decide (r.length=1) with
    |false=>rw[l,bAG] at q;exact cA (q H2 b)
    |true=>rw[l,bAW] at q;have l1:=of_decide_eq_true l;have p:vr[0]?=some vr[0]:=b8 (by lia);obtain⟨y,j,B⟩:=hr'.at p;rw[v7,j,bBP] at q;exact bZ ⟨_,rfl,_,rfl,a,_,1,_,rfl,rfl,b.bA ha,xP p,I,_,e,y,rfl,G.same b,M,B.same b,λu F=>q u (b.trans F)⟩
   |false=>
   rw[W,if_neg (by decide)] at q;refine cA ⟨_,rfl,a,_,0,_,rfl,rfl,b.bA ha,at0 _ _,by show 1<=sizeLine;decide,λt3 Y _ N g3=>⟨_,t3,_,rfl,mY ((h0.same b).same N),SqT.of g3,rfl,_,rfl,?_⟩⟩;have d:=b.trans N;rw[aEk h0];cases l:jD w0 [.str "spans"] with
   |false=>rw[l,bAG] at q;exact bZ (q Y d)
   |true=>
   rw[l,bAW] at q;refine cA ⟨_,rfl,_,_,rfl,.inr (d.bA ha),rfl,_,rfl,?_⟩;have:=g 2;rw[show ((2+1:Nat):Int)=3 from rfl] at this;rw[this];cases L:decide (r.length=2) with
   |false=>rw[L,bAG] at q;exact bZ (q Y d)
   |true=>
   rw[L,bAW] at q;have l2:=of_decide_eq_true L;have p:vr[0]?=some vr[0]:=b8 (by lia);have x:vr[1]?=some vr[1]:=b8 (by lia);obtain⟨y,j,B⟩:=hr'.at p;obtain⟨tc,D,hc⟩:=hr'.at x;rw[v7,j,bBP,v7,D,bBP] at q;refine cA ⟨_,rfl,_,rfl,a,_,1,_,rfl,rfl,d.bA ha,xP p,I,_,e,y,rfl,G.same d,M,B.same d,λH4 s4=>⟨_,rfl,?_⟩⟩;have c:=d.trans s4;cases J:mR e y with
   |false=>rw[J,bAG] at q;exact bZ (q H4 c)
   |true=>
   rw[J,bAW] at q;obtain⟨n,k,rfl,O⟩:=aNt J;rw[show kdOf e (.str n)=k by show (look e n).getD ""=k;rw[O];rfl] at q;have en:vr[0]=.str n:=aEg B (λ_ z=>by cases z) (λ_ z=>by cases z) (λz=>by cases z);refine cA ⟨_,rfl,a,_,2,_,rfl,rfl,c.bA ha,xP (i:=1) x,_,rfl,_,rfl,a,_,1,_,rfl,rfl,c.bA ha,xP p,I,n,e,k,by rw[en];rfl,G.same c,O,_,rfl,?_⟩;exact⟨_,tc,k,m,rfl,hc.same c,c _ _ hP,λu F=>q u (c.trans F)⟩
 |_=>exact bZ (q H (Same.refl H))
end
end My
namespace L2
open PySem PySem.Spec PyProof.Rows
section
variable {X:Cx}
inductive Lk (D:Bool)(K:bE4)(H:Hp):V->Bool->Prop
 |int {i}:Lk D K H (.int i) false
 |str {x}:Lk D K H (.str x) false
 |bl {b}:Lk D K H (.bl b) false
 |non:Lk D K H .non false
 |lst {a xs}:SqL K H a xs->Lk D K H (.ref a) (!D)
 |dct {a kvs}:H a=some (.dK kvs)->Lk D K H (.ref a) D
 |tup {a xs}:SqT K H a xs->Lk D K H (.ref a) false
def aQs (D:Bool)(T:String)(K:bE4):List V->Hp->VK->Prop:=λxs H Q=>∃x b,xs=[x,.ty T]/\Lk D K H x b/\Q (.bl b) H
def aKg:bR X (.builtin "isinstance") (aQs false "list" X.K):=by
 intro f s σ H w y Q I r h;obtain⟨x,b,rfl,l,q⟩:=h;obtain⟨u,v,rfl,a,p⟩:=r.two;cases p;have k:EP X f σ Q (.bool b) s:=⟨.bl _,H,I,rfl,q⟩;have d:EP X f σ Q (.bool b) { s with toks:=s.toks+1 }:=⟨.bl _,H,I.tok _,rfl,q⟩;cases l with
 |int=>obtain⟨t,rfl⟩:=a;exact IsiPair.int_list d
 |str=>obtain⟨t,rfl⟩:=a;exact IsiPair.str_list d
 |bl=>cases a;exact IsiPair.bool_list d
 |non=>cases a;exact IsiPair.NoneType_list d
 |lst hq=>cases a;obtain⟨g,i,⟨o,n,e,c,_⟩,m⟩:=I.list hq;exact IsiPair.list_list e c k
 |dct hq=>cases a;obtain⟨_,_,_,_,o,_,_,e,j,_⟩:=I.hok _ _ hq;exact IsiPair.dict_list e j.1 d
 |tup hq=>cases a;obtain⟨g,i,⟨o,e,c,_⟩,m⟩:=I.tuple hq;exact IsiPair.tuple_list e c d
def aI6:bR X (.builtin "isinstance") (aQs true "dict" X.K):=by
 intro f s σ H w y Q I r h;obtain⟨x,b,rfl,l,q⟩:=h;obtain⟨u,v,rfl,a,p⟩:=r.two;cases p;have k:EP X f σ Q (.bool b) s:=⟨.bl _,H,I,rfl,q⟩;have d:EP X f σ Q (.bool b) { s with toks:=s.toks+1 }:=⟨.bl _,H,I.tok _,rfl,q⟩;cases l with
 |int=>obtain⟨t,rfl⟩:=a;exact IsiPair.int_dict d
 |str=>obtain⟨t,rfl⟩:=a;exact IsiPair.str_dict d
 |bl=>cases a;exact IsiPair.bool_dict d
 |non=>cases a;exact IsiPair.NoneType_dict d
 |lst hq=>cases a;obtain⟨g,i,⟨o,n,e,c,_⟩,m⟩:=I.list hq;exact IsiPair.list_dict e c d
 |dct hq=>cases a;obtain⟨_,_,_,_,o,_,_,e,j,_⟩:=I.hok _ _ hq;exact IsiPair.dict_dict e j.1 k
 |tup hq=>cases a;obtain⟨g,i,⟨o,e,c,_⟩,m⟩:=I.tuple hq;exact IsiPair.tuple_dict e c d
end
end L2
namespace My
open PySem PySem.Spec PyProof.Rows L2
section
variable {P:Program}{w:World}{K:bE4}{mg:bE7}{base:Heap}
def aGl (hd:Hdr):Prop:=Good hd/\∀c∈hd,Nm c.1/\wQ c.2
def lkT (D:Bool):Tg->Bool
 |.lst _=>!D
 |.dct=>D
 |_=>false
def aWw {H:Hp}{v:V}{t:Tg}(D:Bool)(h:bF K H v t):Lk D K H v (lkT D t):=by
 cases h with
 |non=>exact .non
 |int=>exact .int
 |bl=>exact .bl
 |str _=>exact .str
 |tup g _ _=>exact .tup g
 |lst g _ _ _=>exact .lst (SqL.of g)
 |dct g=>exact .dct g
def aJv (hd:Hdr):Tg->Bool
 |.tup ts=>decide (ts.length=hd.length) && (ts.zip hd).all λp=>iW p.2.2 p.1
 |_=>false
inductive aNc (K:bE4)(vs:List V)(H:Hp)(Q:VK)(E_:XK):Prop
 |mk (vh v:V) (hd:Hdr) (t:Tg) (_:vs=[vh,v]) (_:gY K H vh hd) (_:hd.length<=1000) (_:bF K H v t) (_:∀H',Same H H'->Q (.bl (aJv hd t)) H')
def aJt (T:Txt w K mg)(jR:Ok P w K mg base 3 "is_value_of" bQO (aJ4 K)):Ok P w K mg base 4 "is_row" z8 (aNc K):=by
 refine Ok.ofV T.aPx aNq (by trivial) (λf Y A l s H k Q E hr h=>?_)
 obtain⟨vh,v,g,t,rfl,⟨b,m,rfl,C,y⟩,hl,F,q⟩:=h;have Z:=y.len;refine⟨_,(aC (cF (VW.pt (iY (cR (cJ (aO fW (by rfl) T.aY aW (aG (vv 1) (va1 (dB (v:=.ty "tuple") (by rfl) T.eF dG rfl)))))) (gU (eY aG7 (aO bM (by rfl) T.fQ dI (va1 (vv 1))) (aO bM (by rfl) T.fQ dI (va1 (vv 0))))))) (aF (aP cN)) bB) (aF (aP (aO (iM rfl) (by rfl) T.aAf qQ (va1 (dF (N:=["value","column"]) ck gR rfl (aUw (by rfl) T.aWy (aG (vv 1) (va1 (vv 0)))) (λcl s' d fp=>⟨(oR (K:=K) (n:=2) rfl (aZ (jB 0) (aZ (jB 1) dC))),dX,(bI jR (aG (vv 0) (va1 (bO (dU (K:=K)) (vv 1) aB))))⟩))))))),?_⟩;refine⟨_,rfl,_,_,rfl,aC0 F,_,rfl,?_⟩;cases F with
 |@tup a k ts ha hl' hts=>
  have ll:=hts.len;have q:∀d,Same H d->Q (.bl (decide (ts.length=g.length) && (ts.zip g).all λp=>iW p.2.2 p.1)) d:=q;refine cA ⟨_,rfl,_,_,rfl,.inr ha,_,rfl,_,_,rfl,.inr C,rfl,_,rfl,?_⟩;rw[aE6];by_cases e:ts.length=g.length
  ·rw[m8 e,bAW] at q;rw[m8 (show k.length=m.length by lia)];refine cA ?_;dsimp only[rR,uH,tCB,cO];refine aO9 k m ((ts.zip g).map λp=>V.bl (iW p.2.2 p.1)) (by rw[j0,List.length_zip];lia) [none,none] oY (small (by lia)) (by lia) ha C (λR r=>⟨_,rfl,_,rfl,r⟩) (λi x c z O M I d R l1 l2 j S=>?_) rfl rfl λD d j J=>?_
   ·obtain⟨B,o,p,rfl,X⟩:=cW y M;obtain⟨L,u,G⟩:=hts.at O;rw[m5,(bEX (z:=(L,B))).mpr ⟨u,o⟩] at I;cases I;refine⟨_,rfl,_,rfl,p,_,1,_,rfl,rfl,j.bA X,at1 _ _ _,x,B.2,rfl,mY (G.same j),λW U=>?_⟩;rw[aSi G];exact S W U
   ·refine⟨D,(ts.zip g).map λp=>iW p.2.2 p.1,rfl,SqL.of (by rw[J,bBV];rfl),?_⟩;rw[bDI];exact q d j
  ·rw[m9 e,bAG] at q;rw[m9 (show ¬ k.length=m.length by lia)];exact bZ (q H (Same.refl H))
 |_=>exact bZ (q H (Same.refl H))
def yR (hd:Hdr):Tg->Bool
 |.lst ts=>ts.all (aJv hd)
 |_=>false
inductive aGn (K:bE4)(vs:List V)(H:Hp)(Q:VK)(E_:XK):Prop
 |mk (v vh:V) (hd:Hdr) (t:Tg) (_:vs=[v,vh]) (_:gY K H vh hd) (_:hd.length<=1000) (_:bF K H v t) (_:∀H',Same H H'->Q (.bl (yR hd t)) H')
def aGb (T:Txt w K mg)(y:Ok P w K mg base 4 "is_row" z8 (aNc K)):Ok P w K mg base 5 "are_rows" bQP (aGn K):=by
 refine Ok.ofV T.aKb aFw (by trivial) (λf O A b s H U Q E X h=>?_)
 obtain⟨v,g,d,t,rfl,u,n,k,q⟩:=h;refine⟨_,(aF (aP (eQ (aO aKg (by rfl) T.aY aW (aG (vv 0) (va1 (dB (v:=.ty "list") (by rfl) T.zX tG rfl)))) (fJ (aO (iM rfl) (by rfl) T.aAf qQ (va1 (dF (N:=["row","head"]) ck (jP (aD rB)) rfl (oO (vv 0)) (λS a c W=>⟨(jB 0),dX,(bI y (aG (vv 1) (va1 (vv 0))))⟩)))))))),?_⟩;refine⟨_,rfl,_,_,rfl,aWw false k,_,rfl,?_⟩;cases k with
 |@lst L us ts gL hn hts nn=>
  have M:=hts.len;refine bZ ?_;dsimp only[uH,tCB,cO];refine zB [none,some g] (oU 1 (by trivial) rfl rfl (by trivial)) ⟨_,rfl,L,rfl,⟨_,SqL.of gL⟩,zO (aJ2 λc a=>SqL.of (a _ _ gL)) (aAn λc a=>SqL.of (a _ _ gL)) ⟨none,rfl⟩ hn (ts.map λt=>V.bl (aJv d t)) (by rw[j0];exact M.symm) (λi x z F m c R l j r=>?_) λD I C _ o=>?_⟩
  ·obtain⟨B,e,G⟩:=hts.at F;rw[m5,e] at m;cases m;exact⟨_,rfl,_,rfl,g,x,d,B,rfl,u.same j,n,G.same j,λp J=>r p J⟩
  ·refine⟨D,ts.map (aJv d),rfl,SqL.of (by rw[o,bBV];rfl),?_⟩;rw[bDI];exact q I C
 |_=>exact cA (q H (Same.refl H))
def zQ:Tg->Bool
 |.tup [a,b]=>oJ a && jD b kinds
 |_=>false
def nmT:Tg->Str
 |.tup (.str n::_)=>n
 |_=>""
def kdT:Tg->Str
 |.tup [_,.str k]=>k
 |_=>""
def hdH:Tg->Hdr
 |.tup ts=>ts.map λt=>(nmT t,kdT t)
 |_=>[]
def kY (t:Tg):Bool:=aKc 1 8 zQ t && decide ((hdH t).map (·.1)).Nodup
def aGu {a:List Tg}(h:a.length≠2):zQ (.tup a)=false:=by
 match a,h with
 |[],_=>rfl
 |[_],_=>rfl
 |[_,_],h=>exact absurd rfl h
 |_::_::_::_,_=>rfl
def aXj {H:Hp}{v:V}{t:Tg}(h:bF K H v t):aNi K H v (zQ t):=by
 cases h with
 |@tup a vs ts ha hl hts=>
  have j:=hts.len;by_cases i:vs.length=2
  ·obtain⟨v,u,d,b,rfl,rfl,c,f⟩:=aWk hts i;have e:zQ (.tup [d,b])=(nameB v && (isS u && inV u kinds)):=by show (oJ d && jD b kinds)=_;rw[aEs c,aEk f]
   rw[e];exact .two ha (mY c) (mY f)
  ·rw[aGu (by lia)];exact .len ha i
 |non=>exact .no .non
 |int=>exact .no .int
 |bl=>exact .no .bl
 |str _=>exact .no .str
 |lst g _ _ _=>exact .no (.lst (SqL.of g))
 |dct g=>exact .no (.dct g)
def aSe {t:Tg}{xs:List V}(h:jD t xs=true):∃n,t=.str n:=by
 cases t with
 |str n=>exact⟨n,rfl⟩
 |_=>cases h
theorem aEv {H:Hp}:∀{us:List V} {ts:List Tg},cB K H us ts->ts.all zQ=true->cP (IsC K H) us (ts.map λt=>(nmT t,kdT t))/\∀c∈ts.map λt=>(nmT t,kdT t),Nm c.1/\wQ c.2
 |_,_,.nil,_=>⟨.nil,λc h=>by cases h⟩
 |_,_,.cons h t,e=>by
  rw[bBS,bAB] at e;obtain⟨o,j⟩:=aEv t e.2;cases h with
  |@tup a vs ts' ha hl hts=>
   by_cases l:vs.length=2
   ·obtain⟨v,u,x,y,rfl,rfl,m,g⟩:=aWk hts l;have b:(oJ x && jD y kinds)=true:=e.1;rw[bAB] at b;obtain⟨n,rfl⟩:=oW b.1;obtain⟨k,rfl⟩:=aSe b.2;have f:v=.str n:=aEg m (λ_ z=>by cases z) (λ_ z=>by cases z) (λz=>by cases z);have p:u=.str k:=aEg g (λ_ z=>by cases z) (λ_ z=>by cases z) (λz=>by cases z);subst f p;have i:wQ k:=by
     have d:=b.2;rw[show jD (.str k) kinds=inV (.str k) ((["number","word"]:List Str).map V.str) from rfl,oX] at d;have:=of_decide_eq_true d;rcases List.mem_cons.mp this with z|z
     ·exact .inl z
     ·exact .inr (List.mem_singleton.mp z)
    refine⟨.cons ⟨a,rfl,ha⟩ o,λc hc=>?_⟩;rcases List.mem_cons.mp hc with rfl|hc
    ·exact⟨b.1,i⟩
    ·exact j c hc
   ·rw[aGu (by have:=hts.len;lia)] at e;cases e.1
  |_=>cases e.1
def aU2 {H:Hp}{v:V}{t:Tg}(h:bF K H v t)(e:kY t=true):gY K H v (hdH t)/\aGl (hdH t):=by
 unfold kY at e;rw[bAB] at e;cases h with
 |@tup a vs ts ha hl hts=>
  have b:(decide (1<=ts.length) && (decide (ts.length<=8) && ts.all zQ))=true:=e.1;rw[bAB,bAB] at b;obtain⟨d,g⟩:=aEv hts b.2.2;have c:=of_decide_eq_true b.1;have f:=of_decide_eq_true b.2.1;refine⟨⟨a,vs,rfl,ha,d⟩,⟨of_decide_eq_true e.2,?_,?_⟩,g⟩
  ·show 1<=(ts.map _).length;rw[j0];exact c
  ·show (ts.map _).length<=8;rw[j0];exact f
 |_=>cases e.1
inductive aLz (P:Program)(w:World)(K:bE4)(mg:bE7)(base:Heap)(k:Nat)(vs:List V)(H:Hp)(Q:VK)(E_:XK):Prop
 |mk (v:V) (t:Tg) (lo hi:Nat) (f:Addr) (ps:List Str) (sp:Sp) (p:Tg->Bool) (_:vs=[v,.int (lo:Nat),.int (hi:Nat),.ref f]) (_:bF K H v t) (_:hi<=1000) (_:Held P w K mg base k f ps sp) (_:(∀(u:V) (tu:Tg) (H':Hp) (R:VK),Same H H'->bF K H' u tu->(∀H2,Same H' H2->R (.bl (p tu)) H2)->sp [u] H' R E0)) (_:∀H',Same H H'->Q (.bl (aKc lo hi p t)) H')
def wX {k:Nat}(T:Txt w K mg):Ok P w K mg base (k+1) "is_tuple_of" o6 (aLz P w K mg base k):=by
 refine Ok.ofV T.pL nG (by trivial) (λf W A m s H Y Q E U h=>?_)
 obtain⟨v,t,c,j,g,L,F,p,rfl,d,n,B,o,q⟩:=h;refine⟨_,(aC (cF (VW.pt (iY (cR (cJ (aO fW (by rfl) T.aY aW (aG (vv 0) (va1 (dB (v:=.ty "tuple") (by rfl) T.eF dG rfl)))))) (gU (cR (zN aAq aAq (vv 1) (aO bM (by rfl) T.fQ dI (va1 (vv 0))) (vv 2)))))) (aF (aP cN)) bB) (aF (aP (aO (iM rfl) (by rfl) T.aAf qQ (va1 (dF (N:=["part","is_part"]) ck (jP (aD gG)) rfl (oH (vv 0)) (λX e b fp=>⟨(jB 0),dX,(aPp (P:=P) (w:=w) (K:=K) (mg:=mg) (base:=base) U (vv 1) (va1 (vv 0)))⟩))))))),?_⟩;refine⟨_,rfl,_,_,rfl,aC0 d,_,rfl,?_⟩;cases d with
 |@tup a xs ts ha hl hts=>
  have S:=hts.len;refine cA ⟨_,rfl,_,rfl,_,_,rfl,.inr ha,_,_,rfl,rfl,_,rfl,?_⟩;have q:∀b,Same H b->Q (.bl (decide (c<=ts.length) && (decide (ts.length<=j) && ts.all p))) b:=q;by_cases x:c<=ts.length
  ·rw[m8 (show (c:Int)<=(xs.length:Int) by lia)];rw[m8 x,bAW] at q;refine bZ ⟨_,rfl,_,_,rfl,rfl,_,rfl,?_⟩;by_cases y:ts.length<=j
   ·rw[m8 (show (xs.length:Int)<=(j:Int) by lia)];rw[m8 y,bAW] at q;refine cA ?_;dsimp only[rR,uH,tCB,cO];refine nF [none,some (.ref g)] (oU 3 (by trivial) rfl rfl (by trivial)) ⟨_,rfl,a,rfl,⟨_,ha⟩,zO (uM λb e=>e.bA ha) (kW λb e=>e.bA ha) ⟨none,rfl⟩ hl (ts.map λt=>V.bl (p t)) (by rw[j0];exact S.symm) (λi G Z J z b R l u r=>?_) λD O I _ C=>?_⟩
    ·obtain⟨t,d,M⟩:=hts.at J;rw[m5,d] at z;cases z;exact⟨_,rfl,g,L,F,rfl,B,_,rfl,o G t b R u (M.same u) r⟩
    ·refine⟨D,ts.map p,rfl,SqL.of (by rw[C,bBV];rfl),?_⟩;rw[bDI];exact q O I
   ·rw[m9 (show ¬ (xs.length:Int)<=(j:Int) by lia)];rw[m9 y,bAG] at q;exact bZ (q H (Same.refl H))
  ·rw[m9 (show ¬ (c:Int)<=(xs.length:Int) by lia)];rw[m9 x,bAG] at q;exact cA ⟨_,rfl,bZ (q H (Same.refl H))⟩
 |_=>exact bZ (q H (Same.refl H))
inductive aGp (K:bE4)(vs:List V)(H:Hp)(Q:VK)(E_:XK):Prop
 |mk (v:V) (t:Tg) (_:vs=[v]) (_:bF K H v t) (_:∀H',Same H H'->Q (.bl (kY t)) H')
def aHf (T:Txt w K mg)(y:Ok P w K mg base 3 "is_column" n7 (bAn (aNi K)))(M:Ok P w K mg base 4 "is_tuple_of" o6 (aLz P w K mg base 3))
  (n:Ok P w K mg base 1 "are_unlike" ["names"] (aB9 K)) (J:Ok P w K mg base 1 "names_of" ["head"] (aD3 K)):Ok P w K mg base 5 "is_head" n7 (aGp K):=by
 refine Ok.ofV T.aPc aKo (by trivial) (λf G A c s H g Q E S h=>?_)
 obtain⟨v,t,rfl,i,q⟩:=h;obtain⟨j,z,m⟩:=y.held;have o:∃u,mg "is_column"=some u/\RelV (.ref j) u:=⟨_,z,rfl⟩;refine⟨_,(aF (aP (eQ (bI M (aG (vv 0) (aG aB (aG (iG (by rfl) T.zL) (va1 (iG (by rfl) o)))))) (fJ (bI n (va1 (bI J (va1 (vv 0))))))))),?_⟩;refine⟨_,rfl,v,t,1,8,j,_,_,zQ,rfl,i,by decide,m,λu O N R L p r=>⟨u,_,rfl,aXj p,r⟩,λx e=>⟨_,rfl,?_⟩⟩;unfold kY at q;cases b:aKc 1 8 zQ t with
 |false=>rw[b,bAG] at q;exact cA (q x e)
 |true=>
  rw[b,bAW] at q;cases i with
  |@tup a g ts ha hl hts=>have d:(decide (1<=ts.length) && (decide (ts.length<=8) && ts.all zQ))=true:=b;rw[bAB,bAB] at d;obtain⟨F,_⟩:=aEv hts d.2.2;have U:=of_decide_eq_true d.2.1;refine bZ ⟨_,rfl,.ref a,hdH (.tup ts),rfl,gY.same e ⟨a,g,rfl,ha,F⟩,by show (ts.map _).length<=1000;rw[j0];lia,λD I B l=>?_⟩;refine⟨D,(hdH (.tup ts)).map (·.1),rfl,SqL.of l,by rw[j0];show (ts.map _).length<=1000;rw[j0];lia,λC k=>q C ((e.trans B).trans k)⟩
  |_=>cases b
def fV (K:bE4)(H:Hp)(D:Addr)(rs:List (List V)):Prop:=∃us,H D=some (.lst us)/\cP (mL K H) us rs
def fV.same {H H':Hp}{D:Addr}{rs:List (List V)}(e:Same H H')(h:fV K H D rs):fV K H' D rs:=by obtain⟨c,a,b⟩:=h;exact⟨c,e _ _ a,b.imp λ_ _ r=>r.same e⟩
def mH (K:bE4)(H:Hp)(v:V)(c:V × Int):Prop:=∃p,v=.ref p/\SqT K H p [c.1,.int c.2]
def mH.same {K:bE4}{H H':Hp}{v:V}{c:V × Int}(e:Same H H')(h:mH K H v c):mH K H' v c:=by obtain⟨p,rfl,a⟩:=h;exact⟨p,rfl,e.bA a⟩
structure aQ3 (kd:Str)(m:Int)(h0:Int)(cs:List (V × Int)):Prop where
 first:0<=h0/\h0<m
 each:∀c∈cs,cU kd c.1/\0<=c.2/\c.2<m
 up:(cs.map (·.1)).Pairwise λa b=>vlt a b=true
 few:cs.length<=7
def aLe {kd:Str}{v:V}(h:cU kd v):yU v=true/\kindS v=kd:=by
 cases h with
 |num=>exact⟨rfl,rfl⟩
 |@wrd x hx h8=>refine⟨?_,rfl⟩;show (false || (decide (0<=x.length) && (decide (x.length<=8) && allIn x)))=true;rw[allIn_of hx,m8 h8];rfl
def aOs {kd:Str}{v:V}(h:cU kd v):Vl v:=by
 cases h with
 |num=>exact .inl ⟨_,rfl⟩
 |wrd hx h8=>exact .inr ⟨_,rfl,hx,h8⟩
def yK (hd:Hdr)(r:List V):Prop:=cP (λc v=>cU c.2 v) hd r
inductive Plc where
 |copies
 |keys (n:Str)
 |spans (n:Str) (h0:Int) (cs:List (V × Int))
def wK (K:bE4)(H:Hp)(v:V):Plc->Prop
 |.copies=>∃a,v=.ref a/\SqT K H a [.str "copies"]
 |.keys n=>∃a,v=.ref a/\SqT K H a [.str "keys",.str n]
 |.spans n h0 cs=>∃a vc,v=.ref a/\SqT K H a [.str "spans",.str n,vc]/\wR K H (mH K H) vc ((.non,h0)::cs)
def wK.same {K:bE4}{H H':Hp}{v:V}{pl:Plc}(e:Same H H')(h:wK K H v pl):wK K H' v pl:=by
 cases pl with
 |copies=>obtain⟨a,rfl,b⟩:=h;exact⟨a,rfl,e.bA b⟩
 |keys n=>obtain⟨a,rfl,b⟩:=h;exact⟨a,rfl,e.bA b⟩
 |spans n h0 cs=>obtain⟨a,c,rfl,b,d⟩:=h;exact⟨a,c,rfl,e.bA b,wR.same e (λ_ _ q=>q.same e) d⟩
def aV1 (hd:Hdr)(m:Int):Plc->Prop
 |.copies=>True
 |.keys n=>Nm n/\∃k,look hd n=some k
 |.spans n h0 cs=>Nm n/\∃k,look hd n=some k/\wQ k/\aQ3 k m h0 cs
def aJo {hd:Hdr}{n k:Str}(h:look hd n=some k):n∈hd.map (·.1):=by obtain⟨i,a,_⟩:=aFm h;exact List.mem_map.mpr ⟨_,bAA a,rfl⟩
structure Tb where
 hd:Hdr
 pl:Plc
 rows:List (List V)
def pA (K:bE4)(H:Hp)(v:V)(vh vp:V)(L:Addr)(t:Tb):Prop:=∃a,v=.ref a/\SqT K H a [vh,vp,.ref L]/\gY K H vh t.hd/\wK K H vp t.pl/\fV K H L t.rows
structure iV (m:Int)(t:Tb):Prop where
 hd:aGl t.hd
 pl:aV1 t.hd m t.pl
 few:t.rows.length<=60
 rows:∀r∈t.rows,yK t.hd r
def uU (m:Int):Tg->Bool
 |.tup ts=>decide (ts.length=3) && (kY (ts.getD 0 .non) && (mG (hdH (ts.getD 0 .non)) m (ts.getD 1 .non) && yR (hdH (ts.getD 0 .non)) (ts.getD 2 .non)))
 |_=>false
inductive aWq (K:bE4)(Pt:Addr)(vs:List V)(H:Hp)(Q:VK)(E_:XK):Prop
 |mk (v:V) (t:Tg) (m:Int) (_:vs=[v,.int m]) (_:bF K H v t) (_:H Pt=some (.tab qC)) (_:∀H',Same H H'->Q (.bl (uU m t)) H')
def aF0 (T:Txt w K mg){Pt:Addr}(Y:Ok P w K mg base 5 "is_head" n7 (aGp K))(L:Ok P w K mg base 7 "is_placing" bQG (aW5 K Pt))(I:Ok P w K mg base 5 "are_rows" bQP (aGn K)):Ok P w K mg base 8 "is_table" o9 (aWq K Pt):=by
 refine Ok.ofV T.aKx aHv (by trivial) (λf a0 A l s H c Q E hr h=>?_)
 obtain⟨v,t,m,rfl,u,J,q⟩:=h;refine⟨_,(aC (cF (VW.pt (iY (cR (cJ (aO fW (by rfl) T.aY aW (aG (vv 0) (va1 (dB (v:=.ty "tuple") (by rfl) T.eF dG rfl)))))) (iY (eY aG7 (aO bM (by rfl) T.fQ dI (va1 (vv 0))) aB) (gU (cR (cJ (bI Y (va1 (bO cD (vv 0) aB))))))))) (aF (aP cN)) bB) (aF (aP (eQ (bI L (aG (bO cD (vv 0) aB) (aG (bO cD (vv 0) aB) (va1 (vv 1))))) (fJ (bI I (aG (bO cD (vv 0) aB) (va1 (bO cD (vv 0) aB))))))))),?_⟩;refine⟨_,rfl,_,_,rfl,aC0 u,_,rfl,?_⟩;cases u with
 |@tup a c ts ha hl hts=>
  have Z:=hts.len;have q:∀H',Same H H'->Q (.bl (decide (ts.length=3) && (kY (ts.getD 0 .non) && (mG (hdH (ts.getD 0 .non)) m (ts.getD 1 .non) && yR (hdH (ts.getD 0 .non)) (ts.getD 2 .non))))) H':=q;refine cA ⟨_,rfl,_,_,rfl,.inr ha,rfl,_,rfl,?_⟩;have G:decide (V.int ((c.length:Nat):Int)=V.int 3)=decide (ts.length=3):=by rw[<-Z];exact aE6 (k:=3)
  rw[G];cases e:decide (ts.length=3) with
  |false=>rw[e,bAG] at q;exact bZ (q H (Same.refl H))
  |true=>
  rw[e,bAW] at q;have l3:=of_decide_eq_true e;have i:c[0]?=some c[0]:=b8 (by lia);have z:c[1]?=some c[1]:=b8 (by lia);have y:c[2]?=some c[2]:=b8 (by lia);obtain⟨g,R,B⟩:=hts.at i;obtain⟨r,M,S⟩:=hts.at z;obtain⟨X,N,C⟩:=hts.at y;rw[v7,R,bBP,v7,M,bBP,v7,N,bBP] at q;refine cA ⟨_,rfl,a,_,0,_,rfl,rfl,ha,bV (j:=0) i,_,g,rfl,B,λO d=>⟨_,rfl,?_⟩⟩;cases n:kY g with
  |false=>rw[n,bAG] at q;exact bZ (q O d)
  |true=>
  rw[n,bAW] at q;obtain⟨p,o⟩:=aU2 B n;have l8:=o.1.2.2;refine cA ⟨_,rfl,a,_,1,_,rfl,rfl,d.bA ha,bV (j:=1) z,_,rfl,a,_,0,_,rfl,rfl,d.bA ha,bV (j:=0) i,_,rfl,_,_,m,hdH g,r,rfl,S.same d,p.same d,by lia,d _ _ J,λF U=>⟨_,rfl,?_⟩⟩;have b:=d.trans U;cases x:mG (hdH g) m r with
  |false=>rw[x,bAG] at q;exact cA (q F b)
  |true=>
  rw[x,bAW] at q;exact bZ ⟨_,rfl,a,_,2,_,rfl,rfl,b.bA ha,bV (j:=2) y,_,rfl,a,_,0,_,rfl,rfl,b.bA ha,bV (j:=0) i,_,_,hdH g,X,rfl,p.same b,by lia,C.same b,λW D=>q W (b.trans D)⟩
 |_=>exact bZ (q H (Same.refl H))
def aYb {H:Hp}{us:List V}{hd:Hdr}(h:cP (IsC K H) us hd):(∀c∈hd,Nm c.1/\wQ c.2)->∃ts,cB K H us ts/\ts.all zQ=true/\ts.map (λt=>(nmT t,kdT t))=hd:=by
 induction h with
 |nil=>exact λ_=>⟨[],.nil,rfl,rfl⟩
 |@cons u c us hd r _ ih=>
  intro d;obtain⟨ts,j,g,i⟩:=ih λc f=>d c (j9 _ f);obtain⟨p,rfl,k⟩:=r;obtain⟨b,a⟩:=d c v4;have l:=gO b;have m:c.2.length<=8:=by rcases a with e|e <;> rw[e] <;> decide +kernel
  refine⟨.tup [.str c.1,.str c.2]::ts,.cons (.tup k (by show 2<=1000;decide) (.cons (.str (by lia)) (.cons (.str (by lia)) .nil))) j,?_,?_⟩
  ·rw[bBS,g,bEF];show (oJ (.str c.1) && jD (.str c.2) kinds)=true;rw[show oJ (.str c.1)=true from b];rcases a with e|e <;> rw[e] <;> decide +kernel
  ·rw[bAC,i];rfl
def aP0 {H:Hp}{v:V}{hd:Hdr}(h:gY K H v hd)(j:aGl hd):∃t,bF K H v t/\kY t=true/\hdH t=hd:=by obtain⟨a,n,rfl,i,c⟩:=h;obtain⟨b,e,g,d⟩:=aYb c j.2;have m:=c.len;have k:=e.len;obtain⟨⟨f,l,o⟩,_⟩:=j;refine⟨.tup b,.tup i (by lia) e,?_,d⟩;show (decide (1<=b.length) && (decide (b.length<=8) && b.all zQ) && decide ((b.map λt=>(nmT t,kdT t)).map (·.1)).Nodup)=true;rw[d,m8 f,g,m8 (show 1<=b.length by lia),m8 (show b.length<=8 by lia)];rfl
def vTg:V->Tg
 |.int i=>.int i
 |.str x=>.str x
 |_=>.non
def kJ {H:Hp}{kd:Str}{v:V}(h:cU kd v):bF K H v (vTg v)/\iW kd (vTg v)=true/\flat (vTg v)=v:=by
 have a:=aLe h;cases h with
 |@num i=>exact⟨.int,(by show (yU (.int i) && decide (kindS (.int i)=_))=true;rw[a.1,a.2,m8 rfl];rfl),rfl⟩
 |@wrd x hx h8=>exact⟨.str (by lia),(by show (yU (.str x) && decide (kindS (.str x)=_))=true;rw[a.1,a.2,m8 rfl];rfl),rfl⟩
def aVe {H:Hp}{hd:Hdr}{r:List V}(h:yK hd r):∃ts,cB K H r ts/\ts.length=hd.length/\((ts.zip hd).all λp=>iW p.2.2 p.1)=true:=by
 unfold yK at h
 induction h with
 |nil=>exact⟨[],.nil,rfl,rfl⟩
 |@cons c v hd r k _ ih=>obtain⟨ts,b,d,e⟩:=ih;obtain⟨f,a,_⟩:=kJ (K:=K) (H:=H) k;exact⟨vTg v::ts,.cons f b,by rw[j8,j8,d],by rw[List.zip_cons_cons,bBS,e,bEF];exact a⟩
def aPv {H:Hp}{hd:Hdr}(l8:hd.length<=8){us:List V}{rows:List (List V)}(h:cP (mL K H) us rows):(∀r∈rows,yK hd r)->∃ts,cB K H us ts/\ts.all (aJv hd)=true/\∀u∈us,∃a,u=.ref a:=by
 induction h with
 |nil=>exact λ_=>⟨[],.nil,rfl,λu h=>by cases h⟩
 |@cons u r us rows k _ ih=>
  intro d;obtain⟨ts,l,f,g⟩:=ih λr m=>d r (j9 _ m);obtain⟨a,rfl,j⟩:=k;obtain⟨b,c,e,i⟩:=aVe (K:=K) (H:=H) (d r v4);have n:=c.len;refine⟨.tup b::ts,.cons (.tup j (by lia) c) l,?_,λu hu=>?_⟩
  ·rw[bBS,f,bEF];show (decide (b.length=hd.length) && (b.zip hd).all λp=>iW p.2.2 p.1)=true;rw[m8 e,i];rfl
  ·rcases List.mem_cons.mp hu with rfl|hu
   ·exact⟨a,rfl⟩
   ·exact g u hu
def aDg {H:Hp}{hd:Hdr}(n:hd.length<=8){L:Addr}{rows:List (List V)}(h:fV K H L rows)(few:rows.length<=60)(o:∀r∈rows,yK hd r):∃t,bF K H (.ref L) t/\yR hd t=true:=by obtain⟨m,g,b⟩:=h;obtain⟨k,c,d,f⟩:=aPv n b o;have l:=b.len;exact⟨.lst k,.lst g (by lia) c (λi j z=>by obtain⟨a,e⟩:=f (.int i) (by rw[z];exact v4);cases e),d⟩
def aVl {H:Hp}{J:Str}{m d:Int}{b:List (V × Int)}{v:V}(h:wR K H (mH K H) v ((.non,d)::b))(f:aQ3 J m d b):∃t,bF K H v t/\jE J m t=true:=by
 obtain⟨a,C,rfl,B,F⟩:=h;have G:=F.len;have o:=f.few;rw[j8] at G;have k:∀x:Int,0<=x/\x<m->iB m (.int x)=true:=λx z=>by show (decide _ && decide _)=true;rw[m8 z.1,m8 z.2];rfl
 obtain⟨s,n,rfl,⟨L,rfl,g⟩,y⟩:∃s n,C=s::n/\mH K H s (.non,d)/\cP (mH K H) n b:=by
  cases F with
  |cons r t=>exact⟨_,_,rfl,r,t⟩
 have l:cB K H n (b.map λc=>.tup [vTg c.1,.int c.2])/\(b.map λc=>Tg.tup [vTg c.1,.int c.2]).all (aAy m)=true:=by
  have e:=f.each;clear o G f B
  induction y with
  |nil=>exact⟨.nil,rfl⟩
  |@cons u c C b r _ ih=>obtain⟨W,N⟩:=ih (.cons ⟨L,rfl,g⟩ ‹_›) λc q=>e c (j9 _ q);obtain⟨p,rfl,A⟩:=r;obtain⟨T,U⟩:=e c v4;exact⟨.cons (.tup A (by show 2<=1000;decide) (.cons (kJ T).1 (.cons .int .nil))) W,by rw[bAC,bBS,N,bEF];exact k _ U⟩
 have j:(b.map λc=>Tg.tup [vTg c.1,.int c.2]).map aBa=b.map λc=>vTg c.1:=by rw[bBV];rfl
 refine⟨.tup (.tup [.non,.int d]::b.map λc=>.tup [vTg c.1,.int c.2]),.tup B (by lia) (.cons (.tup g (by show 2<=1000;decide) (.cons .non (.cons .int .nil))) l.1),?_⟩;have e1:(b.map λc=>vTg c.1).all (iW J)=true:=List.all_eq_true.mpr λt X=>by obtain⟨c,q,rfl⟩:=List.mem_map.mp X;exact (kJ (K:=K) (H:=H) (f.each c q).1).2.1
 have e2:aB2 (b.map λc=>vTg c.1)=true:=List.all_eq_true.mpr λp A=>by obtain⟨i,hi⟩:=List.mem_iff_getElem?.mp A;obtain⟨I,w⟩:=List.getElem?_zip_eq_some.mp hi;rw[bET] at w;rw[m5] at I w;obtain⟨ca,D,Y⟩:=Option.map_eq_some_iff.mp I;obtain⟨R,E,P⟩:=Option.map_eq_some_iff.mp w;rw[<-Y,<-P,(kJ (K:=K) (H:=H) (f.each ca (bAA D)).1).2.2,(kJ (K:=K) (H:=H) (f.each R (bAA E)).1).2.2];have Z:=List.pairwise_iff_getElem.mp f.up;obtain⟨la,O⟩:=List.getElem?_eq_some_iff.mp D;obtain⟨Q,S⟩:=List.getElem?_eq_some_iff.mp E;have:=Z i (1+i) (by rw[j0];exact la) (by rw[j0];exact Q) (by lia);rw[List.getElem_map,List.getElem_map,O,S] at this;exact this
 have M:(Tg.tup [.non,.int d]::b.map λc=>Tg.tup [vTg c.1,.int c.2]).length=b.length+1:=by rw[j8,j0]
 have a1:aKc 1 8 (aAy m) (.tup (Tg.tup [.non,.int d]::b.map λc=>Tg.tup [vTg c.1,.int c.2]))=true:=by show (decide (1<=(Tg.tup [.non,.int d]::b.map λc=>Tg.tup [vTg c.1,.int c.2]).length) && (decide ((Tg.tup [.non,.int d]::b.map λc=>Tg.tup [vTg c.1,.int c.2]).length<=8) && (Tg.tup [.non,.int d]::b.map λc=>Tg.tup [vTg c.1,.int c.2]).all (aAy m)))=true;rw[M,m8 (show 1<=b.length+1 by lia),m8 (show b.length+1<=8 by lia),bBS,l.2,show aAy m (.tup [.non,.int d])=true from k _ f.first];rfl
 have a2:wA J (.tup (Tg.tup [.non,.int d]::b.map λc=>Tg.tup [vTg c.1,.int c.2]))=true:=by show (aFy .non && (((b.map λc=>Tg.tup [vTg c.1,.int c.2]).map aBa).all (iW J) && aB2 ((b.map λc=>Tg.tup [vTg c.1,.int c.2]).map aBa)))=true;rw[j,e1,e2];rfl
 unfold jE;rw[a1,a2];rfl
def eG {hd:Hdr}{m:Int}{w:Tg}{r:List Tg}:mG hd m (.tup (w::r))=if jD w [.str "copies"] then decide (r.length=0) else if jD w [.str "keys"] then decide (r.length=1) && mR hd (r.getD 0 .non) else jD w [.str "spans"] && (decide (r.length=2) && (mR hd (r.getD 0 .non) && jE (kdOf hd (r.getD 0 .non)) m (r.getD 1 .non))):=rfl
def aWs {H:Hp}{hd:Hdr}{m:Int}{v:V}{pl:Plc}(h:wK K H v pl)(p:aV1 hd m pl):∃t,bF K H v t/\mG hd m t=true:=by
 have e:∀x:Str,x.length<=8->bF K H (.str x) (.str x):=λx h=>.str (by lia);have d:∀{n k:Str},Nm n->look hd n=some k->mR hd (.str n)=true:=λ{n k} b c=>by unfold mR;rw[show oJ (.str n)=true from b,show flat (.str n)=V.str n from rfl,oX,m8 (aJo c)];rfl
 cases pl with
 |copies=>obtain⟨a,rfl,f⟩:=h;exact⟨_,.tup f (by decide) (.cons (e _ (by trivial)) .nil),by rw[eG,if_pos (by trivial)];rfl⟩
 |keys n=>obtain⟨a,rfl,f⟩:=h;obtain⟨b,k,c⟩:=p;refine⟨_,.tup f (by show 2<=1000;decide) (.cons (e _ (by trivial)) (.cons (e _ (gO b)) .nil)),?_⟩;rw[eG,if_neg (by trivial),if_pos (by trivial)];exact d b c
 |spans n h0 cs=>obtain⟨a,q,rfl,f,i⟩:=h;obtain⟨b,k,c,_,g⟩:=p;obtain⟨j,o,l⟩:=aVl i g;refine⟨_,.tup f (by show 3<=1000;decide) (.cons (e _ (by trivial)) (.cons (e _ (gO b)) (.cons o .nil))),?_⟩;rw[eG,if_neg (by trivial),if_neg (by trivial)];show (jD (.str "spans") [.str "spans"] && (decide (2=2) && (mR hd (.str n) && jE (kdOf hd (.str n)) m j)))=true;rw[d b c,show kdOf hd (.str n)=k by show (look hd n).getD ""=k;rw[c];rfl,l,show jD (.str "spans") [.str "spans"]=true by trivial];rfl
def aW8 {H:Hp}{m:Int}{v vh vp:V}{L:Addr}{t:Tb}(h:pA K H v vh vp L t)(c:iV m t):∃tg,bF K H v tg/\uU m tg=true:=by obtain⟨a,rfl,p,q,k,l⟩:=h;obtain⟨b,o,f,i⟩:=aP0 q c.hd;obtain⟨e,g,j⟩:=aWs k c.pl;obtain⟨d,n,r⟩:=aDg c.hd.1.2.2 l c.few c.rows;refine⟨.tup [b,e,d],.tup p (by show 3<=1000;decide) (.cons o (.cons g (.cons n .nil))),?_⟩;show (decide (3=3) && (kY b && (mG (hdH b) m e && yR (hdH b) d)))=true;rw[f,i,j,r];rfl
end
end My
namespace L2
open PySem PySem.Spec PyProof.Rows
section
variable {X:Cx}
def aV4 (te:TE):TI:=fun σ H R=>te σ H λv H1=>∃d kvs,v=.ref d/\H1 d=some (.dK kvs)/\(∀ob u,X.H₀ d≠some (.frz ob u))/\∀o,R (aHj d o kvs) (upd H1 d (.frz o (.dK kvs)))
def aOf {elts:List Expr}{kt:Nat}{tp apos cpos:Pos}{e:Expr}{te:TE}(h:VE X e te)(p:attributeBase e "items" X.env (eval e X.env)=eval e X.env:=by rfl)(r:(apos.endLine == cpos.line)=true:=by rfl) :
  VI X (.Tuple elts kt tp) (.Call (.Attribute e "items" apos) [] [] cpos) (aV4 (X:=X) te):=⟨by
 intro f s σ H R I D;refine bD2 p r (thn (h.1 f s σ H _ I D) λv a ⟨x,A,i,S,C⟩=>?_);obtain⟨d,c,e,j,U,q⟩:=C;subst e;cases S;obtain⟨z,O,L,m,⟨o,l,y,t,P,n,V,g,M⟩⟩:=vU i.hok j;have E:l.size=c.length:=by rw[KV.length m,<-g.length,v9]
 have Q:a.TypeIs (.ref d) "dict":=(show a.heap.DictOf (bH X.prog X.w) d L from ⟨o,l,y,t,P,n,V,g,M⟩).typeIs;obtain⟨J,N⟩:=aEw (T:="dict") i (show RelV (.ref d) (.ref d) from rfl) (.inr (.inr (.inl ⟨rfl,.inl ⟨c,j⟩⟩)));refine⟨"dict","dict.items",PySem.F.plainAttrs_dict,PySem.F.slot_dict_items,PySem.F.type_dict_items,J,N,bDF rfl (PySem.evalArgs_none ?_)⟩;refine aI0 O Q ?_;have K:Inv X f σ (upd A d (.frz o (.dK c))) a:=i.setd j (λ_ z=>by cases z) (λ_ z=>by cases z) (λ_ z=>by cases z) U ⟨t,i.hok d _ j⟩;have k:Inv X f σ (upd A d (.frz o (.dK c))) { a with heap:=a.heap.push { cls:=.type "dict_items",data:=.fields #[.ref d] } }:=K.kept (t':=a.toks) λb o e=>d7 _ e;have B:(a.heap.push { cls:=.type "dict_items",data:=.fields #[.ref d] }).IsItemsView a.heap.objs.size d:=⟨_,j4 _ rfl,rfl,rfl⟩;have u:(a.heap.push { cls:=.type "dict_items",data:=.fields #[.ref d] }).get? d=some o:=d7 _ t;generalize a.heap.push { cls:=.type "dict_items",data:=.fields #[.ref d] }=hp at k B u ⊢;refine wC (s:={ a with heap:=hp }) B u n ?_;refine⟨hp.objs.size,[hp.objs.size],_,_,_,rfl,k.kept (t':=a.toks) λb o e=>d7 _ e,wG d _ o c l y n,?_,λb G=>?_,q o⟩
 ·rw[<-E];exact⟨_,_,j4 _ rfl⟩
 ·have e:b=hp.objs.size:=by simpa using G
  subst e;exact k.aEx (j5 _) (k.hok.fresh (j5 _))⟩
def aXm (K:bE4):List V->Hp->VK->Prop:=λxs H Q=>∃t us kvs,xs=[.ref t]/\H t=some (.lst us)/\aTj K H us kvs/\us.length<=1000/\∀p H',H p=none->Same H H'->H' p=some (.dK (jO [] kvs))->Q (.ref p) H'
def aJh (J:X.calm=true):bR X (.type "dict") (aXm X.K):=by intro g s σ H O m Q I r h;obtain⟨t,m,kvs,rfl,p,D,F,q⟩:=h;obtain⟨u,rfl,l⟩:=vals1 r;cases l;obtain⟨N,E,n,a,f⟩:=I.hok t _ p;have M:=a.length;obtain⟨x,c,A,B⟩:=aZl I D a;have G:=KV.length c;refine aFb true (knd:=bH X.prog X.w) (kvs:=x) (I.ok.hd J) f rfl rfl rfl (by rw[j6];exact A) (by rw[j6];lia) (λj v k e y=>B j v k (by simpa using e) y) λL d C z=>?_;have b:H s.heap.objs.size=none:=I.hok.fresh (j5 _);refine⟨.ref s.heap.objs.size,_,I.laid (t':=d) (o:=.dK (jO [] kvs)) z (j5 _) ?_,rfl,q _ _ b (aR b _) aH⟩;have i:=jQ kvs [];simp only[bBN] at i;exact⟨small (by lia),beq_eq_false_iff_ne.mpr (Ne.symm (v6 I.big)),_,KV.merge c .nil,C⟩
end
end L2
namespace My
open PySem PySem.Spec PyProof.Rows L2
section
variable {P:Program}{w:World}{K:bE4}{mg:bE7}{base:Heap}
def aW1 (k:Str):Bool:=decide (k = "number")
def knds (hd:Hdr):List Bool:=hd.map λc=>aW1 c.2
def aGk {X:Cx}{K:bE4}(h:X.K=K:=by rfl):bR X (.builtin "sorted") (aPn K):=by subst h;exact yV
def aGx {X:Cx}{K:bE4}(h:X.K=K:=by rfl):bR X (.type "list") (aR5 K):=by subst h;exact zT
def none_of {H H':Hp}{D:Addr}(e:Same H H')(h:H' D=none):H D=none:=by
 cases g:H D with
 |none=>rfl
 |some o=>rw[e _ _ g] at h;cases h
def But (d:Addr)(H H':Hp):Prop:=∀b o,b≠d->H b=some o->H' b=some o
section
variable {K:bE4}{H H':Hp}{d:Addr}{kvs:List (Key × V)}
def dY (H:Hp)(d:Addr):Prop:=(∀xs,H d≠some (.tup xs))/\(∀ob xs,H d≠some (.frz ob (.tup xs)))/\∀xs,H d≠some (.lst xs)
def dY.dK (h:H d=some (.dK kvs)):dY H d:=⟨λ_ z=>(by rw[h] at z;cases z),λ_ _ z=>(by rw[h] at z;cases z),λ_ z=>(by rw[h] at z;cases z)⟩
def dY.fz {o:Obj}(h:H d=some (.frz o (.dK kvs))):dY H d:=⟨λ_ z=>(by rw[h] at z;cases z),λ_ _ z=>(by rw[h] at z;cases z),λ_ z=>(by rw[h] at z;cases z)⟩
def But.bA {a:Addr}{xs:List V}(b:But d H H')(hd:dY H d)(h:SqT K H a xs):SqT K H' a xs:=by
 rcases h with (h|⟨o,h⟩)|h
 ·exact .inl (.inl (b _ _ (λz=>hd.1 _ (z ▸ h)) h))
 ·exact .inl (.inr ⟨o,b _ _ (λz=>hd.2.1 _ _ (z ▸ h)) h⟩)
 ·exact .inr h
def But.lst {a:Addr}{xs:List V}(b:But d H H')(hd:dY H d)(h:H a=some (.lst xs)):H' a=some (.lst xs):=b _ _ (λz=>hd.2.2 _ (z ▸ h)) h
def But.hdr {v:V}{hr:Hdr}(b:But d H H')(hd:dY H d)(h:gY K H v hr):gY K H' v hr:=by obtain⟨a,g,rfl,c,f⟩:=h;exact⟨a,g,rfl,b.bA hd c,f.imp λ_ _ ⟨p,e,i⟩=>⟨p,e,b.bA hd i⟩⟩
theorem But.pl {v:V}{pl:Plc}(b:But d H H')(hd:dY H d)(h:wK K H v pl):wK K H' v pl:=by
 cases pl with
 |copies=>obtain⟨a,rfl,f⟩:=h;exact⟨a,rfl,b.bA hd f⟩
 |keys n=>obtain⟨a,rfl,f⟩:=h;exact⟨a,rfl,b.bA hd f⟩
 |spans n h0 cs=>obtain⟨a,l,rfl,f,⟨c,i,rfl,j,g⟩⟩:=h;exact⟨a,_,rfl,b.bA hd f,c,i,rfl,b.bA hd j,g.imp λ_ _ ⟨p,e,k⟩=>⟨p,e,b.bA hd k⟩⟩
def But.rows {L:Addr}{rs:List (List V)}(b:But d H H')(hd:dY H d)(h:fV K H L rs):fV K H' L rs:=by obtain⟨g,c,f⟩:=h;exact⟨g,b.lst hd c,f.imp λ_ _ ⟨p,e,a⟩=>⟨p,e,b.bA hd a⟩⟩
def But.tb {v vh vp:V}{L:Addr}{t:Tb}(b:But d H H')(hd:dY H d)(h:pA K H v vh vp L t):pA K H' v vh vp L t:=by obtain⟨a,rfl,c,e,f,g⟩:=h;exact⟨a,rfl,b.bA hd c,b.hdr hd e,b.pl hd f,b.rows hd g⟩
def But.upd {u:HO}:But d H (L2.upd H d u):=λb o a h=>by rw[aJ a];exact h
def But.same {H2:Hp}(b:But d H H')(s:Same H' H2):But d H H2:=λc o a h=>s _ _ (b c o a h)
def But.thaw {H2:Hp}(b:But d H H2)(hd:H d=some (.dK kvs)):Same H (L2.upd H2 d (.dK kvs)):=λc o h=>by
 by_cases e:c=d
 ·rw[e,aH,<-hd,<-e];exact h
 ·rw[aJ e];exact b c o e h
end
structure En where
 n:Str
 v:V
 vh:V
 vp:V
 L:Addr
 t:Tb
def enK (es:List En):List (Key × V):=es.map λe=>(Sum.inr e.n,e.v)
structure dJ (K:bE4)(H:Hp)(d:Addr)(es:List En):Prop where
 at_:H d=some (.dK (enK es))
 nd:(es.map (·.n)).Nodup
 few:es.length<=60
 nm:∀e∈es,Nm e.n
 tb:∀e∈es,pA K H e.v e.vh e.vp e.L e.t
def pA.same {K:bE4}{H H':Hp}{v vh vp:V}{L:Addr}{t:Tb}(s:Same H H')(h:pA K H v vh vp L t):pA K H' v vh vp L t:=by obtain⟨a,rfl,b,c,d,e⟩:=h;exact⟨a,rfl,s.bA b,c.same s,d.same s,e.same s⟩
def dJ.same {K:bE4}{H H':Hp}{d:Addr}{es:List En}(s:Same H H')(h:dJ K H d es):dJ K H' d es:=⟨s _ _ h.at_,h.nd,h.few,h.nm,λe a=>(h.tb e a).same s⟩
def aXt {es:List En}{i:Nat}{kv:Key × V}(h:(enK es)[i]?=some kv):∃e,es[i]?=some e/\kv=(Sum.inr e.n,e.v):=by unfold enK at h;rw[m5] at h;obtain⟨e,a,rfl⟩:=Option.map_eq_some_iff.mp h;exact⟨e,a,rfl⟩
def aVt {es:List En}:∀kv∈enK es,∃n,kv.1=Sum.inr n:=λkv h=>by unfold enK at h;obtain⟨e,_,rfl⟩:=List.mem_map.mp h;exact⟨_,rfl⟩
def jL {es:List En}:(enK es).length=es.length:=j0 _
def hinit (T:Txt w K mg)(fI:Addr):∀(X:Cx),X.N=(["self","act"]:List Str)->X.env.scope=aD fY->X.mg=mg->VSs X (cQ fY) (aAg (aM7 (tVI X.K fI (cO (eX 0) (cO (eX 1) qZ)))) (aRy X.K fI (eX 0) (eX 1))):=by
 intro X e b f;have d:∀{a:Pos},VE X (.Name "self" a) (eX 0):=λ{a}=>vv 0 (by rw[e];rfl) (by left;rw[b];rfl);have c:∀{a:Pos},VE X (.Name "act" a) (eX 1):=λ{a}=>vv 1 (by rw[e];rfl) (by left;rw[b];rfl);have g:Gl X "ValueError":=by show X.env.scope.names.lookup _=_;rw[b];rfl
 exact aC ⟨aL4 (aSh (fI:=fI) g (by rw[f];exact T.lL) (aY1 d.1 (aY1 c.1 aRm)))⟩ (aF ⟨aZd d.1 c.1⟩)
def Tbs (K:bE4)(H:Hp)(vd:V):Option (List (Key × Tg))->Prop
 |none=>∃t,bF K H vd t/\t≠.dct
 |some kts=>∃d kvs,vd=.ref d/\H d=some (.dK kvs)/\kvs.length<=1000/\cP (λ(kv:Key × V) (kt:Key × Tg)=>kt.1=kv.1/\(∀H2,Th K H2 (kV kv.1))/\bF K H kv.2 kt.2) kvs kts
def nU (m:Int)(kt:Key × Tg):Bool:=nameB (kV kt.1) && uU m kt.2
def pW:Tg->Option (List (Key × Tg))->Bool
 |.int m,some kts=>decide (1<=m) && (decide (m<=6) && kts.all (nU m))
 |_,_=>false
inductive aM9 (K:bE4)(Pt CB:Addr)(vs:List V)(H:Hp)(Q:VK)(E:XK):Prop
 |mk (vm vd:V) (tm:Tg) (o:Option (List (Key × Tg))) (_:vs=[vm,vd]) (_:bF K H vm tm) (_:Tbs K H vd o) (_:H Pt=some (.tab qC)) (_:(pW tm o=true->∀H',Same H H'->Q .non H')) (_:(pW tm o=false->∀a H',Same H H'->E (.ref CB) (some a) H'))
def aE1 (T:Txt w K mg){Pt CB S:Addr}(g:ExT K mg fY "BadTown" "ShardError.__init__" CB S)(dD:Ok P w K mg base 1 "is_whole" n7 (kO K))(fZ:Ok P w K mg base 2 "is_name" n7 (aA9 K nameB))(a5:Ok P w K mg base 8 "is_table" o9 (aWq K Pt)):OkX P w K mg base 9 "need_town" o8 (aM9 K Pt CB):=by
 refine OkX.ofV T.aG8 uD (by trivial) (λf a6 A Z s H vs Q E hr h=>?_)
 obtain⟨vm,vd,tm,o,rfl,hm,hd,hP,qT,x⟩:=h;have hinit:=λ{fI:Addr}=>hinit T fI;have nd:=uD.nd;refine⟨_,(aC (cF (VW.pt (iY (cR (cJ (bI dD (va1 (vv 0))))) (iY (cR (zN aAq aAq aB (vv 0) (iG (by rfl) T.aA5))) (gU (cR (cJ (aO aI6 (by rfl) T.aY aW (aG (vv 1) (va1 (dB (v:=.ty "dict") (by rfl) T.aJf aDk rfl)))))))))) (aF (aLu (sJ g (λfI fd F=>xO (k:=0) F xW hinit) (hr.mono (by decide)) oK rfl (by rfl) (va1 cY)))) bB) (aF (aUx (eO PassesOwn.leaving rfl (aOf (vv 1)) (jT rfl (aZ (cL 2) (aZ (cL 3) dC))) (aF (cF (VW.pt (iY (cR (cJ (bI fZ (va1 (vv 2))))) (gU (cR (cJ (bI a5 (aG (vv 3) (va1 (vv 0))))))))) (aF (aLu (sJ g (λfI fd F=>xO (k:=0) F xW hinit) (hr.mono (by decide)) oK rfl (by rfl) (va1 cY)))) bB)))))),?_⟩;refine⟨_,rfl,_,rfl,mY hm,_,rfl,?_⟩;cases hm with
 |@int m=>
  refine cA ⟨_,rfl,_,_,rfl,rfl,_,rfl,?_⟩;by_cases W:1<=m
  ·rw[m8 W];refine bZ ⟨_,_,rfl,rfl,_,rfl,?_⟩;by_cases N:m<=6
   ·rw[m8 N];refine cA ?_;cases o with
    |none=>
     obtain⟨t,ht,a3⟩:=hd;have lk:=aWw true ht;have e:lkT true t=false:=by
      cases t with
      |dct=>exact absurd rfl a3
      |_=>rfl
     rw[e] at lk;exact⟨_,rfl,_,false,rfl,lk,_,rfl,bZ (.inl ⟨rfl,λa r L u G=>x rfl a _ (aR u _)⟩)⟩
    |some kts=>
     obtain⟨d,j,rfl,c,hl,M⟩:=hd;have qT:kts.all (nU m)=true->∀q,Same H q->Q .non q:=λz=>qT (by show (decide (1<=m) && (decide (m<=6) && kts.all (nU m)))=true;rw[m8 W,m8 N,z];rfl);have x:kts.all (nU m)=false->∀a q,Same H q->E (.ref CB) (some a) q:=λz=>x (by show (decide (1<=m) && (decide (m<=6) && kts.all (nU m)))=false;rw[z,bAV,bAV]);refine⟨_,rfl,_,true,rfl,.dct c,_,rfl,cA ?_⟩;refine⟨d,j,c,λnf=>⟨_,rfl,d,_,rfl,c,nf,λo=>?_⟩⟩;have a2:Pt≠d:=λz=>by rw[z,c] at hP;cases hP
     have Y:But d H (L2.upd H d (.frz o (.dK j))):=But.upd;have D:L2.upd H d (.frz o (.dK j)) d=some (.frz o (.dK j)):=aH;generalize L2.upd H d (.frz o (.dK j))=B at Y D ⊢;refine aKa (λi σ q=>Same B q/\(kts.take i).all (nU m)=true/\∃l1 l2,σ=[some (.int m),some (.ref d),l1,l2]) ⟨Same.refl B,rfl,_,_,rfl⟩ (λi σ q _ p=>p.1 _ _ D) (λi C Tp σ q ek p hT=>?_) fun σ q p=>?_
     ·obtain⟨y,l,l1,l2,rfl⟩:=p;obtain⟨J,I,e1,a0,a1⟩:=cW M ek;have R:Same q (L2.upd q Tp (.tup [kV C.1,C.2])):=aR hT _;have bT:But d H (L2.upd q Tp (.tup [kV C.1,C.2])):=(Y.same y).same R;have a4:∀{U:Hp},But d H U->Tst K H U:=λ{U} b=>⟨λa xs z=>b.bA (dY.dK c) z,λa xs z _=>b.lst (dY.dK c) z,λa z=>b _ _ (λe=>by rw[e,c] at z;cases z;cases ek) z⟩;have n:nU m J=false->kts.all (nU m)=false:=λz=>by
       cases e:kts.all (nU m) with
       |false=>rfl
       |true=>rw[List.all_eq_true.mp e J (bAA I)] at z;cases z
      refine⟨Tp,_,rfl,SqT.of aH,rfl,_,_,rfl,_,_,rfl,rfl,?_⟩;refine⟨_,rfl,_,rfl,a0 _,λU V=>⟨_,rfl,?_⟩⟩;have O:=bT.same V;unfold nU at n;rw[e1] at n;cases en:nameB (kV C.1) with
      |false=>rw[en,bAG] at n;exact bZ (.inr ⟨d,o,j,V _ _ (R _ _ (y _ _ D)),nf,rfl,λa r L u G=>x (n rfl) a _ ((O.thaw c).trans (aR u _))⟩)
      |true=>
      rw[en,bAW] at n;refine cA ⟨_,rfl,_,rfl,C.2,J.2,m,rfl,a1.st (a4 O),O _ _ a2 hP,λH3 X=>⟨_,rfl,?_⟩⟩;cases et:uU m J.2 with
      |false=>exact bZ (.inr ⟨d,o,j,X _ _ (V _ _ (R _ _ (y _ _ D))),nf,rfl,λa r L u G=>x (n et) a _ (((O.same X).thaw c).trans (aR u _))⟩)
      |true=>refine cA ⟨y.trans (R.trans (V.trans X)),?_,_,_,rfl⟩;rw[bBR,I,List.all_append,l];show (nU m J && true)=true;unfold nU;rw[e1,en,et];rfl
     ·obtain⟨y,l,l1,l2,rfl⟩:=p;rw[M.len,bDU] at l;exact⟨⟨o,y _ _ D⟩,qT l _ ((Y.same y).thaw c)⟩
   ·rw[m9 N];exact bZ (.inl ⟨rfl,λa r L u G=>x (by cases o <;> first|rfl|(show (decide (1<=m) && (decide (m<=6) && _))=false;rw[m9 N,bAG,bAV])) a _ (aR u _)⟩)
  ·rw[m9 W];exact cA ⟨_,rfl,bZ (.inl ⟨rfl,λa r L u G=>x (by cases o <;> first|rfl|(show (decide (1<=m) && _)=false;rw[m9 W,bAG])) a _ (aR u _)⟩)⟩
 |_=>exact bZ (.inl ⟨rfl,λa r L u G=>x rfl a _ (aR u _)⟩)
def aMn {H:Hp}{m:Int}{es:List En}:(∀e∈es,pA K H e.v e.vh e.vp e.L e.t/\iV m e.t/\Nm e.n)->∃kts,cP (λ(kv:Key × V) (kt:Key × Tg)=>kt.1=kv.1/\(∀H2,Th K H2 (kV kv.1))/\bF K H kv.2 kt.2) (enK es) kts/\kts.all (nU m)=true:=by
 induction es with
 |nil=>exact λ_=>⟨[],.nil,rfl⟩
 |cons e es ih=>intro h;obtain⟨kts,d,k⟩:=ih λg i=>h g (j9 _ i);obtain⟨l,f,a⟩:=h e v4;obtain⟨b,c,j⟩:=aW8 l f;refine⟨(Sum.inr e.n,b)::kts,.cons ⟨rfl,λH2=>a.th,c⟩ d,?_⟩;rw[bBS,k,bEF];show (nameB (.str e.n) && uU m b)=true;rw[show nameB (.str e.n)=true from a,j];rfl
def aL0 {H:Hp}{d:Addr}{m:Int}{es:List En}(h:dJ K H d es)(j:∀e∈es,iV m e.t)(i:1<=m)(k:m<=6):∃o,Tbs K H (.ref d) o/\pW (.int m) o=true:=by obtain⟨a,f,g⟩:=aMn (m:=m) λe b=>⟨h.tb e b,j e b,h.nm e b⟩;have c:=h.few;refine⟨some a,⟨d,_,rfl,h.at_,by rw[jL];lia,f⟩,?_⟩;show (decide (1<=m) && (decide (m<=6) && a.all (nU m)))=true;rw[m8 i,m8 k,g];rfl
def aF5 (e:En)(v:V)(L:Addr):En:={ e with v:=v,L:=L,t:={ e.t with rows:=srt e.t.rows } }
def aK5 (K:bE4)(Pt CB:Addr)(E:XK)(H:Hp)(vm vd:V):Prop:=∃(tm:Tg) (o:Option (List (Key × Tg))),bF K H vm tm/\Tbs K H vd o/\H Pt=some (.tab qC)/\pW tm o=false/\∀a H',Same H H'->E (.ref CB) (some a) H'
def vK (K:bE4)(Pt CB:Addr):Sp:=λvs H Q E=>(∃(d:Addr) (m:Int) (es:List En),vs=[.int m,.ref d]/\1<=m/\m<=6/\dJ K H d es/\(∀e∈es,iV m e.t)/\H Pt=some (.tab qC) /\
 ∀d' H' es',H d'=none->Same H H'->dJ K H' d' es'->cP (λe e'=>∃v L,e'=aF5 e v L/\H L=none) es es'->Q (.ref d') H')\/∃vm vd,vs=[vm,vd]/\aK5 K Pt CB E H vm vd
def bAo {kd:Str}{v:V}(h:cU kd v):KdV (aW1 kd) v:=by
 cases h with
 |num=>exact⟨_,rfl⟩
 |wrd _ _=>exact⟨_,rfl⟩
def aQm {hd:Hdr}{r:List V}(h:yK hd r):KdR (knds hd) r:=by
 unfold yK at h;unfold KdR knds
 induction h with
 |nil=>exact .nil
 |cons a _ ih=>exact .cons (bAo a) ih
def aMd {hd:Hdr}(h:Good hd):knds hd≠[]:=λz=>by have e:=congrArg List.length z;unfold knds at e;rw[j0] at e;have:=h.2.1;rw[e] at this;exact absurd this (by decide)
def yI {α β:Type}{R:α->β->Prop}{as:List α}{bs:List β}(h:cP R as bs):Al2 R as bs:=by
 induction h with
 |nil=>exact .nil
 |cons r _ ih=>exact .cons r ih
def aP1 {α β:Type}{R:α->β->Prop}{as:List α}{bs:List β}(h:Al2 R as bs):cP R as bs:=by
 induction h with
 |nil=>exact .nil
 |cons r _ ih=>exact .cons r ih
def PlR (K:bE4)(H0:Hp)(es:List En)(D:Addr)(i:Nat)(H:Hp)(y:V):Prop:=∃e v L tp,es[i]?=some e/\y=.ref tp/\SqT K H tp [.str e.n,v]/\pA K H v e.vh e.vp L { e.t with rows:=srt e.t.rows }/\L≠D/\H0 L=none
def pA.qG {K:bE4}{H:Hp}{D L:Addr}{ys zs:List V}{v vh vp:V}{t:Tb}(f:H D=some (.lst ys))(x:L≠D)(h:pA K H v vh vp L t):pA K (L2.upd H D (.lst zs)) v vh vp L t:=by
 obtain⟨a,rfl,s,⟨b,m,rfl,q,l⟩,i,⟨w,r,u⟩⟩:=h;refine⟨a,rfl,SqT.qG f s,⟨b,m,rfl,SqT.qG f q,l.imp λ_ _ ⟨p,e,k⟩=>⟨p,e,SqT.qG f k⟩⟩,?_,⟨w,by rw[aJ x];exact r,u.imp λ_ _ ⟨p,e,k⟩=>⟨p,e,SqT.qG f k⟩⟩⟩;cases g:t.pl with
 |copies=>rw[g] at i;obtain⟨j,rfl,d⟩:=i;exact⟨j,rfl,SqT.qG f d⟩
 |keys n=>rw[g] at i;obtain⟨j,rfl,d⟩:=i;exact⟨j,rfl,SqT.qG f d⟩
 |spans n h0 cs=>rw[g] at i;obtain⟨j,y,rfl,d,⟨c,m,rfl,o,l⟩⟩:=i;exact⟨j,_,rfl,SqT.qG f d,c,m,rfl,SqT.qG f o,l.imp λ_ _ ⟨p,e,k⟩=>⟨p,e,SqT.qG f k⟩⟩
def aT8 {K:bE4}{H0 H:Hp}{D:Addr}{es:List En}:∀{ys:List V},ys.length=es.length->(∀(i:Nat) (y:V),ys[i]?=some y->PlR K H0 es D i H y) ->
  ∃es',cP (λe e'=>∃v L,e'=aF5 e v L/\H0 L=none) es es'/\cP (λy (e':En)=>∃tp,y=.ref tp/\SqT K H tp [.str e'.n,e'.v]) ys es'/\∀e'∈es',pA K H e'.v e'.vh e'.vp e'.L e'.t:=by
 induction es with
 |nil=>intro ys a _;cases bCR a;exact⟨[],.nil,.nil,λe h=>by cases h⟩
 |cons en es ih=>
  intro ys a h;cases ys with
  |nil=>cases a
  |cons y ys=>
   obtain⟨es',l,c,d⟩:=ih (ys:=ys) (Nat.succ.inj a) λi y g=>by obtain⟨e,v,L,tp,b,r⟩:=h (i+1) y (by simpa using g);exact⟨e,v,L,tp,by simpa using b,r⟩
   obtain⟨e,v,L,tp,b,rfl,j,f,_,k⟩:=h 0 y rfl;cases b;refine⟨aF5 en v L::es',.cons ⟨v,L,rfl,k⟩ l,.cons ⟨tp,rfl,j⟩ c,λe' h'=>?_⟩;rcases List.mem_cons.mp h' with rfl|h'
   ·exact f
   ·exact d e' h'
def aYf {K:bE4}{H:Hp}{ys:List V}{es':List En}(h:cP (λy (e':En)=>∃tp,y=.ref tp/\SqT K H tp [.str e'.n,e'.v]) ys es'):aTj K H ys (enK es'):=by
 unfold enK
 induction h with
 |nil=>exact .nil
 |cons r _ ih=>exact .cons r ih
def aIy {H0:Hp}{es es':List En}(h:cP (λe e'=>∃v L,e'=aF5 e v L/\H0 L=none) es es'):es'.map (·.n)=es.map (·.n):=by
 induction h with
 |nil=>rfl
 |cons r _ ih=>obtain⟨v,L,rfl,_⟩:=r;rw[bAC,bAC,ih];rfl
def uJ (T:Txt w K mg){Pt CB:Addr}(l:OkX P w K mg base 9 "need_town" o8 (aM9 K Pt CB)):OkX P w K mg base 10 "placed_tables" o8 (vK K Pt CB):=by
 refine OkX.ofV T.wM vD (λvs H Q E h=>?_) (λf a9 A a5 s H vs Q E hr h=>?_)
 ·rcases h with⟨d,m,c,rfl,_⟩|⟨vm,vd,rfl,_⟩ <;> rfl
 refine⟨_,(aC (dR (iR (l.mono (by decide)) hr qH (by rfl) (aG (vv 0) (va1 (vv 1))))) (aF (aP (bW (aJh rfl) (by rfl) T.aJf aDk (va1 (aTz (dF (N:=["name","table"]) ck gR rfl (aNm (vv 1)) (λcl s' x fp=>⟨(oR (K:=K) (n:=2) rfl (aZ (jB 0) (aZ (jB 1) dC))),dX,(aM (aG (vv 0) (va1 (aM (aG (bO (dU (K:=K)) (vv 1) aB) (aG (bO (dU (K:=K)) (vv 1) aB) (va1 (aO (aGk (K:=K)) (by rfl) T.aAj uL (va1 (bO (dU (K:=K)) (vv 1) aB))))))))))⟩)))))))),?_⟩;rcases h with⟨d,m,c,rfl,m1,m6,S,X,hP,q⟩|⟨vm,vd,rfl,tm,o,h1,h2,hP,hT,qF⟩
 ·obtain⟨o,ho,hT⟩:=aL0 S X m1 m6;refine⟨_,rfl,_,rfl,.int m,.ref d,.int m,o,rfl,.int,ho,hP,λ_ F W=>?_,λz=>by rw[hT] at z;cases z⟩;have g:=S.same W;dsimp only[uH,tCB,cO];refine⟨d,enK c,g.at_,λnf=>aQ8 [none,none] oY ⟨_,rfl,d,_,rfl,g.at_,aVt,nf,λo=>?_⟩⟩;have b0:But d F (L2.upd F d (.frz o (.dK (enK c)))):=But.upd;have g0:L2.upd F d (.frz o (.dK (enK c))) d=some (.frz o (.dK (enK c))):=aH;have n0:∀b,L2.upd F d (.frz o (.dK (enK c))) b=none->F b=none:=λb h=>by
   by_cases e:b=d
   ·rw[e,aH] at h;cases h
   ·rw[aJ e] at h;exact h
  generalize L2.upd F d (.frz o (.dK (enK c)))=B at b0 g0 n0 ⊢;refine aG3 g0 ⟨none,none,rfl⟩ (by rw[jL];have:=S.few;lia) (PlR K H c) ?_ ?_ (λi kv ek x R D ys J hD O r=>?_) λD x ys J hD O ly hy=>?_
  ·rintro D i H2 H3 y s2 ⟨e,v,L,u,U,rfl,Z,hb,hne⟩;exact⟨e,v,L,u,U,rfl,s2.bA Z,hb.same s2,hne⟩
  ·rintro D i H2 ys zs y O ⟨e,v,L,u,U,rfl,Z,hb,hne,h0⟩;exact⟨e,v,L,u,U,rfl,SqT.qG O Z,hb.qG O hne,hne,h0⟩
  ·obtain⟨M,U,rfl⟩:=aXt ek;have hm:=bAA U;have j:=X M hm;obtain⟨a,ev,ha,h1,h2,⟨us,h3,h4⟩⟩:=(b0.same J).tb (dY.dK g.at_) (g.tb M hm);have lu:=h4.len;have aa:=j.few;refine⟨_,rfl,_,rfl,a,_,0,_,ev,rfl,ha,at0 _ _,_,rfl,a,_,1,_,ev,rfl,ha,at1 _ _ _,_,rfl,a,_,2,_,ev,rfl,ha,at2 _ _ _ _,M.L,us,M.t.rows,knds M.t.hd,rfl,SqL.of h3,yI h4,by lia,aMd j.hd.1,λr a7=>aQm (j.rows r a7),λL' H2 a4 hN s2 g2 h5=>?_⟩;refine⟨by show 3<=sizeLine;decide,λt1 H3 _ s3 g3=>⟨by show 2<=sizeLine;decide,λt2 H4 _ s4 g4=>r _ H4 (s2.trans (s3.trans s4)) ?_⟩⟩;have C:=s2.trans (s3.trans s4);refine⟨M,.ref t1,L',t2,U,rfl,SqT.of g4,⟨t1,rfl,s4.bA (SqT.of g3),h1.same C,h2.same C,⟨a4,(s3.trans s4) _ _ g2,(aP1 h5).imp λ_ _ z=>z.same C⟩⟩,λz=>?_,none_of W (n0 _ (none_of J hN))⟩;rw[z,O] at hN;cases hN
  ·rw[jL] at ly;obtain⟨k,a1,a2,a3⟩:=aT8 ly hy;have bD:=b0.same J;refine⟨⟨o,J _ _ g0⟩,?_⟩;have nz:dY x d:=dY.fz (J _ _ g0);have bz:But d x (L2.upd x d (.dK (enK c))):=But.upd;have I:Same F (L2.upd x d (.dK (enK c))):=bD.thaw g.at_;have V:=bz.lst nz O;have a0:cP (λy (G:En)=>∃u,y=.ref u/\SqT K (L2.upd x d (.dK (enK c))) u [.str G.n,G.v]) ys k:=a2.imp λy G ⟨u,ey,Z⟩=>⟨u,ey,bz.bA nz Z⟩;have ab:H D=none:=none_of W (n0 _ hD);generalize L2.upd x d (.dK (enK c))=H5 at bz I V a0;have le:=a2.len;have la:=a1.len;have fw:=S.few;refine⟨D,ys,enK k,rfl,V,aYf a0,by lia,λp H6 hN s6 g6=>?_⟩;have Y:(k.map (·.n)).Nodup:=by rw[aIy a1];exact S.nd
   have a6:((enK k).map (·.1)).Nodup:=by unfold enK;rw[bBV];exact List.pairwise_map.mpr ((List.pairwise_map.mp Y).imp λ{a b} a8 z=>a8 (Sum.inr.inj z))
   rw[aAr _ [] (by rw[bDK];exact a6),bDK] at g6;refine q p H6 k (none_of W (none_of I hN)) (W.trans (I.trans s6)) ⟨g6,Y,by lia,λG h'=>?_,λG h'=>(bz.tb nz (a3 G h')).same s6⟩ a1;have:G.n∈c.map (·.n):=by rw[<-aIy a1];exact bC8 h'
   obtain⟨e0,h0,e1⟩:=List.mem_map.mp this;rw[<-e1];exact S.nm e0 h0
 ·exact⟨_,rfl,_,rfl,vm,vd,tm,o,rfl,h1,h2,hP,(λz=>by rw[hT] at z;cases z),λ_=>qF⟩
end
end My
namespace L2
open PySem PySem.Spec PyProof.Rows
section
variable {X:Cx}{scope:Scope}{N:List Str}{wi:TI}{te:TE}{σ:L2.St}{H:Hp}{Q:VK}
def aI8 {tt:TT}(xs:List V)(p:Nat->Bool)(k:L2.St)(hsz:xs.length<=sizeLine){J:It}(A:∀H' i x,Same H H'->xs[i]?=some x->J.go i H'/\∀y H2,J.yld i H' y H2->H2=H'/\y=x)(n:∀H',Same H H'->J.stop xs.length H')
  (B:∀(i:Nat) (x:V),xs[i]?=some x->∀H' R l,Same H H'->(∀H2,Same H' H2->R (p i) H2)->tt ((k.set 0 l).set 0 (some x)) H' R) (g:k[0]?=some none)
  (q:∀D H',H D=none->Same H H'->H' D=some (.lst (sel p 0 xs))->Q (.ref D) H'):oA J H k (bU 0) tt (eX 0) Q:=by
 intro D d;refine⟨λi m j H' f=>i<=xs.length/\m=xs.length - i/\(∃l,j=k.set 0 l)/\Same H H'/\H' D=some (.lst f)/\f=sel p 0 (xs.take i),⟨xs.length,bAS _,rfl,⟨none,jX g⟩,aR d _,aH,rfl⟩,?_⟩;rintro i m j H' f ⟨hi,rfl,⟨l,rfl⟩,sm,hL,rfl⟩;refine⟨hL,?_⟩;by_cases a:i<xs.length
 ·right;obtain⟨u,s⟩:=A H' i xs[i] sm (b8 a);refine⟨u,λx H2 v=>?_⟩;obtain⟨rfl,rfl⟩:=s x H2 v;unfold bU;dsimp only;have t:0<k.length:=by
   by_cases z:0<k.length
   ·exact z
   ·rw[bAO (by lia)] at g;cases g
  have h:sel p 0 (xs.take (i+1))=sel p 0 (xs.take i)++(if p i then [xs[i]] else []):=by rw[bBR,b8 a];show sel p 0 (xs.take i++[xs[i]])=_;rw[xY,bAT,bD4,Nat.min_eq_left (bDD a)]
  refine B i xs[i] (b8 a) _ _ l sm λw c=>?_;cases r:p i with
  |true=>
   rw[if_pos rfl];refine⟨xs[i],by rw[bCQ,bDE t],c _ _ hL,?_,xs.length - (i+1),by lia,a,rfl,⟨some xs[i],by rw[bCQ]⟩,?_,aH,?_⟩
   ·have:=aFe p 0 (xs.take i);rw[bAT] at this;lia
   ·intro b o e;rw[aJ (aV e d)];exact c _ _ (sm _ _ e)
   ·rw[h,r];rfl
  |false=>rw[if_neg (by simp)];refine⟨c _ _ hL,xs.length - (i+1),by lia,a,rfl,⟨some xs[i],by rw[bCQ]⟩,sm.trans c,c _ _ hL,?_⟩;rw[h,r];simp
 ·left;have e:i=xs.length:=by lia
  subst e;refine⟨n _ sm,?_⟩;rw[bDU] at hL;exact q D _ d sm hL
def aO2 {tt:TT}(xs:List V)(p:Nat->Bool)(a:L2.St)(b:Cap X scope N σ a)(hsz:xs.length<=sizeLine)
  (c:∀R:It->Hp->Prop,(∀J:It,(∀H' i x,Same H H'->xs[i]?=some x->J.go i H'/\∀y H2,J.yld i H' y H2->H2=H'/\y=x)->(∀H',Same H H'->J.stop xs.length H')->R J H)->wi σ H R)
  (d:∀(i:Nat) (x:V),xs[i]?=some x->∀H' R l,Same H H'->(∀H2,Same H' H2->R (p i) H2)->tt ((a.set 0 l).set 0 (some x)) H' R) (e:a[0]?=some none)
  (q:∀D H',H D=none->Same H H'->H' D=some (.lst (sel p 0 xs))->Q (.ref D) H') :
  gK X scope N wi (bU 0) tt (eX 0) σ H Q:=
 ⟨a,b,c _ λJ go stop=>aI8 xs p a hsz go stop d e q⟩
end
end L2
namespace My
open PySem PySem.Spec PyProof.Rows L2
section
variable {P:Program}{w:World}{K:bE4}{mg:bE7}{base:Heap}
section
variable {X:Cx}
def bBf:R2:=λx y H Q=>(∃a b,x=.int a/\y=.int b/\Q (.bl (!decide (b<a))) H)\/∃a b:Str,x=.str a/\y=.str b/\Q (.bl (!decide (b.cps.toList<a.cps.toList))) H
theorem aZc:OpR X (compareOp .LtE) bBf:=by
 intro e s σ H x y v u Q I d c h;rcases h with⟨a,b,rfl,rfl,q⟩|⟨a,b,rfl,rfl,q⟩
 ·obtain⟨t,rfl⟩:=d;obtain⟨f,rfl⟩:=c;refine PyProof.Rows.le_int ?_;rw[show decide (a<=b)=!decide (b<a) by by_cases h:b<a <;> simp[h] <;> lia];exact⟨.bl _,H,I,rfl,q⟩
 ·obtain⟨t,rfl⟩:=d;obtain⟨f,rfl⟩:=c;exact P.le_str ⟨.bl _,H,I,rfl,q⟩
end
def aN6 {X:Cx}{tg a b:Expr}{t:TA}{p pos:Pos}(e:Gl X "range")(g:X.mg "range"=none)(d:VA X [a,b] t)(f:cC a=true:=by rfl)(c:cC b=true:=by rfl):VI X tg (.Call (.Name "range" p) [a,b] [] pos) (aXe t):=⟨aNr e g d.1 (by rw[aL f,aL (es:=[]) c];rfl) (by rw[aL (es:=[]) c];rfl)⟩
def aGg (K:bE4)(CT:Addr)(E:XK)(H:Hp)(es:List En)(v:V):Prop:=∃t,bF K H v t/\(∀e∈es,t≠.str e.n)/\∀a H',Same H H'->E (.ref CT) (some a) H'
inductive aDi (K:bE4)(CT:Addr)(vs:List V)(H:Hp)(Q:VK)(E:XK):Prop
 |mk (d:Addr) (es:List En) (v:V) (_:vs=[.ref d,v]) (_:dJ K H d es) (_:((∃e∈es,v=.str e.n/\∀H',Same H H'->Q e.v H')\/aGg K CT E H es v))
theorem xN:∀{es:List En} {e:En},(es.map (·.n)).Nodup->e∈es->jY (enK es) (Sum.inr e.n)=some e.v
 |[],e,nd,h=>by cases h
 |a::es,e,nd,h=>by
  rw[bAC,bDL] at nd;rcases List.mem_cons.mp h with rfl|h
  ·exact tL rfl
  ·have:a.n≠e.n:=λz=>nd.1 (z ▸ bC8 h);show jY ((Sum.inr a.n,a.v)::enK es) (Sum.inr e.n)=_;rw[mV (λz=>this (Sum.inr.inj z))];exact xN nd.2 h
def aTq {n:Str}{es:List En}:(∀e∈es,e.n≠n)->jY (enK es) (Sum.inr n)=none:=by
 induction es with
 |nil=>exact λ_=>rfl
 |cons e es ih=>intro h;show jY ((Sum.inr e.n,e.v)::enK es) (Sum.inr n)=_;rw[mV (λz=>h e v4 (Sum.inr.inj z))];exact ih λa b=>h a (j9 _ b)
def aIw (T:Txt w K mg){CT S:Addr}(b:ExT K mg fY "NoTable" "ShardError.__init__" CT S)(I:Ok P w K mg base 2 "is_name" n7 (aA9 K nameB)):OkX P w K mg base 3 "table_in" bQH (aDi K CT):=by
 refine OkX.ofV T.aKu aIc (by trivial) (λf G A j s H L Q E x h=>?_)
 obtain⟨d,M,v,rfl,g,h⟩:=h;have r:=aF4 x;have hinit:=λ{o:Addr}=>hinit T o;refine⟨_,(aC (cF (VW.pt (iY (cR (cJ (bI I (va1 (vv 1))))) (gU (aOa r (vv 1) (vv 0))))) (aF (sJ b (λo J F=>xO (k:=0) F xW hinit) (x.mono (by decide)) oK rfl (by rfl) (va1 cY))) bB) (aF (aP (jH r (vv 0) (vv 1) (λ_ _=>rfl))))),?_⟩;rcases h with⟨e,i,rfl,q⟩|⟨t,ht,hn,qF⟩
 ·refine⟨_,rfl,_,rfl,(g.nm e i).th,λu c=>⟨_,rfl,?_⟩⟩;rw[show nameB (.str e.n)=true from g.nm e i];refine cA ?_;have p:=xN g.nd i;refine⟨_,rfl,_,rfl,d,_,rfl,.inl ⟨_,Sum.inr e.n,.inl (c _ _ g.at_),rfl,rfl⟩,_,rfl,?_⟩;rw[p];refine cA ?_;exact⟨_,rfl,_,rfl,d,e.v,rfl,.inl ⟨_,Sum.inr e.n,.inl (c _ _ g.at_),rfl,p.symm⟩,q u c⟩
 ·refine⟨_,rfl,_,rfl,mY ht,λu c=>⟨_,rfl,?_⟩⟩;rw[aEs ht];cases B:oJ t with
  |false=>exact bZ ⟨rfl,λa l C m y=>qF a _ (c.trans (aR m _))⟩
  |true=>obtain⟨n,rfl⟩:=oW B;have D:v=.str n:=aEg ht (λ_ z=>by cases z) (λ_ z=>by cases z) (λz=>by cases z);subst D;refine cA ⟨_,rfl,_,rfl,d,_,rfl,.inl ⟨_,Sum.inr n,.inl (c _ _ g.at_),rfl,rfl⟩,_,rfl,?_⟩;rw[aTq λe i z=>hn e i (by rw[z])];exact bZ ⟨rfl,λa l C m y=>qF a _ (c.trans (aR m _))⟩
def aY3 {kd:Str}{a b:V}{H:Hp}{Q:VK}(d:cU kd a)(c:cU kd b)(q:Q (.bl (!vlt b a)) H):bBf a b H Q:=by
 cases d with
 |num=>cases c;exact .inl ⟨_,_,rfl,rfl,q⟩
 |wrd _ _=>cases c;exact .inr ⟨_,_,rfl,rfl,q⟩
def pC (v:V):List (V × Int)->Nat->Nat->Nat
 |[],_,n=>n
 |c::t,p,n=>pC v t (p+1) (if vlt v c.1=true then n else p)
theorem aDa (v:V):∀(l:List (V × Int)) (c:V × Int) (p n:Nat),pC v (l++[c]) p n=if vlt v c.1=true then pC v l p n else p+l.length
 |[],c,p,n=>by show (if _ then _ else _)=_;rfl
 |a::l,c,p,n=>by
  show pC v (l++[c]) (p+1) _=_;rw[aDa v l c];show (if _ then pC v l (p+1) _ else p+1+l.length)=if _ then pC v l (p+1) _ else p+(l.length+1)
  rw[show p+1+l.length=p+(l.length+1) by lia]
def aTy (v:V)(l:List (V × Int)):pC v l 1 0<=l.length:=by
 suffices ∀(l:List (V × Int)) (p n:Nat),n<=p+l.length - 1\/n=0->pC v l p n<=p+l.length - 1\/pC v l p n=0 by rcases this l 1 0 (.inr rfl) with h|h <;> lia
 intro l
 induction l with
 |nil=>intro p n h;exact h
 |cons c t ih=>
  intro p n h;have:=ih (p+1) (if vlt v c.1=true then n else p) (by
   rw[j8] at h
   split
   ·rcases h with h|h
    ·left;lia
    ·right;exact h
   ·left;lia)
  rw[j8];rcases this with h|h
  ·left;show pC v t (p+1) _<=_;lia
  ·right;exact h
inductive aIi (K:bE4)(vs:List V)(H:Hp)(Q:VK)(E_:XK):Prop
 |mk (vc v:V) (kd:Str) (h0:Int) (cs:List (V × Int)) (_:vs=[vc,v]) (_:wR K H (mH K H) vc ((.non,h0)::cs)) (_:cs.length<=7) (_:cU kd v) (_:(∀c∈cs,cU kd c.1)) (_:Q (.int (pC v cs 1 0:Nat)) H)
def aOh (T:Txt w K mg):Ok P w K mg base 1 "cut_of" ["cuts","value"] (aIi K):=by
 refine Ok.ofV T.aQw aB0 (by trivial) (λf I A k s H N Q E V h=>?_)
 obtain⟨L,v,U,O,b,rfl,⟨a,d,rfl,y,B⟩,M,F,x,q⟩:=h;have R:=aB0.nd;refine⟨_,(aC (bJ 2 aB) (aC (eO PassesOwn.never rfl (aN6 (by rfl) T.eE (aG aB (va1 (aO bM (by rfl) T.fQ dI (va1 (vv 0)))))) (cL 3) (aF (cF (eY aZc (bO cD (bO cD (vv 0) (vv 3)) aB) (vv 1)) (aF (bJ 2 (vv 3))) bB))) (aF (aP (vv 2))))),?_⟩;have G:=B.len;rw[j8] at G;have J:d.length<=8:=by lia
 refine⟨_,rfl,_,_,rfl,.inr y,1,d.length,rfl,⟨by decide,by decide,by lia,by lia⟩,?_⟩;rw[show ((d.length:Int) - 1).toNat=b.length by lia];refine dH (λi σ r=>r=H/\∃l,σ=[some (.ref a),some v,some (.int (pC v (b.take i) 1 0:Nat)),l]) ⟨rfl,_,rfl⟩ (λi σ r S p=>?_) fun σ r p=>?_
 ·obtain⟨rfl,l,rfl⟩:=p;have j:i+1<d.length:=by lia
  obtain⟨c,m,C,n,t⟩:=cW B (b8 j);rw[List.getElem?_cons_succ] at m;have e:atI d (1+(i:Int))=some (.ref C):=by rw[show (1+(i:Int))=((i+1:Nat):Int) by lia,<-n];exact bV (b8 j)
  have o:=x c (bAA m);have D:b.take (i+1)=b.take i++[c]:=by rw[bBR,m];rfl
  have u:(b.take i).length=i:=by rw[bAT];lia
  refine⟨_,rfl,_,rfl,a,d,_,_,rfl,rfl,y,e,C,_,0,_,rfl,rfl,t,at0 _ _,_,rfl,aY3 o F ⟨_,rfl,?_⟩⟩;have g:=aDa v (b.take i) c 1 0;rw[<-D,u] at g;cases z:vlt v c.1 with
  |true=>rw[z,if_pos rfl] at g;exact cA ⟨rfl,some (.int (1+(i:Int))),by rw[g];rfl⟩
  |false=>rw[z,if_neg m7] at g;refine bZ ⟨_,rfl,rfl,some (.int (1+(i:Int))),?_⟩;rw[g,show (((1+i:Nat)):Int)=1+(i:Int) by lia];rfl
 ·obtain⟨rfl,l,rfl⟩:=p;rw[bBF (j5 _)];exact⟨_,rfl,q⟩
def lO (hd:Hdr)(m:Int)(r:List V)(house:Int):Plc->Bool
 |.copies=>true
 |.keys n=>decide (nm (r.getD (plc hd n) .non) % m=house)
 |.spans n h0 cs=>decide ((((.non,h0)::cs).map (·.2)).getD (pC (r.getD (plc hd n) .non) cs 1 0) 0=house)
inductive aBy (K:bE4)(vs:List V)(H:Hp)(Q:VK)(E_:XK):Prop
 |mk (vh vp vr:V) (house m:Int) (hd:Hdr) (pl:Plc) (r:List V) (_:vs=[vh,vp,vr,.int house,.int m]) (_:gY K H vh hd) (_:aGl hd) (_:wK K H vp pl) (_:aV1 hd m pl) (_:mL K H vr r) (_:yK hd r) (_:0<m) (_:∀H',Same H H'->Q (.bl (lO hd m r house pl)) H')
def aW4 {hd:Hdr}{r:List V}(h:yK hd r){n k:Str}(d:look hd n=some k):∃v,r[plc hd n]?=some v/\r.getD (plc hd n) .non=v/\cU k v:=by obtain⟨b,_⟩:=aKi d;obtain⟨v,a,c⟩:=cW h b;exact⟨v,a,by rw[v7,a];rfl,c⟩
def aDz (T:Txt w K mg)(a0:Ok P w K mg base 2 "place_of" bQC (aIe K))(a2:Ok P w K mg base 2 "home" bQQ aMw)(a3:Ok P w K mg base 1 "cut_of" ["cuts","value"] (aIi K)):Ok P w K mg base 3 "stands_at" u9 (aBy K):=by
 refine Ok.ofV T.aGr rP (by trivial) (λf a4 A D s H vs Q E hr h=>?_)
 obtain⟨U,vp,vr,b,m,o,pl,r,rfl,S,R,l,i,⟨Y,rfl,t⟩,u,m0,q⟩:=h;have l8:=R.1.2.2;have nd:=rP.nd;refine⟨_,(aC (cF (eY cV (bO cD (vv 1) aB) aQ) (aF (aP cN)) bB) (aC (bJ 5 (bO cD (vv 2) (bI a0 (aG (vv 0) (va1 (bO cD (vv 1) aB)))))) (aC (cF (eY cV (bO cD (vv 1) aB) aQ) (aF (aP (lH cV (bI a2 (aG (vv 5) (va1 (vv 4)))) (vv 3)))) bB) (aC (bJ 6 (bO cD (vv 1) aB)) (aF (aP (lH cV (bO cD (bO cD (vv 6) (bI a3 (aG (vv 6) (va1 (vv 5))))) aB) (vv 3)))))))),?_⟩;cases pl with
 |copies=>obtain⟨a,rfl,d⟩:=l;exact⟨_,rfl,a,_,0,_,rfl,rfl,d,at0 _ _,rfl,_,rfl,bZ (q H (Same.refl H))⟩
 |keys n=>
  obtain⟨a,rfl,d⟩:=l;obtain⟨hn,k,p⟩:=i;obtain⟨v,M,C,j⟩:=aW4 u p;refine⟨_,rfl,a,_,0,_,rfl,rfl,d,at0 _ _,rfl,_,rfl,sI (by trivial) ?_⟩;refine⟨_,rfl,_,rfl,_,rfl,a,_,1,_,rfl,rfl,d,at1 _ _ _,U,n,o,k,rfl,S,by lia,p,λO g=>?_⟩;refine⟨Y,r,_,v,rfl,rfl,g.bA t,bV M,?_⟩;refine⟨_,rfl,a,_,0,_,rfl,rfl,g.bA d,at0 _ _,rfl,_,rfl,aCz (by trivial) ?_⟩;refine⟨_,rfl,_,rfl,v,m,rfl,aOs j,m0,_,rfl,rfl,?_⟩;have e:decide (V.int (nm v % m)=V.int b)=lO o m r b (.keys n):=by show _=decide (nm (r.getD (plc o n) .non) % m=b);rw[C];exact decide_eq_decide.mpr ⟨λz=>V.int.inj z,λz=>congrArg V.int z⟩
  rw[e];exact q O g
 |spans n h0 cs=>
  obtain⟨a,vc,rfl,d,F⟩:=l;obtain⟨hn,k,p,Z,B⟩:=i;obtain⟨v,M,C,j⟩:=aW4 u p;refine⟨_,rfl,a,_,0,_,rfl,rfl,d,at0 _ _,rfl,_,rfl,sI (by trivial) ?_⟩;refine⟨_,rfl,_,rfl,_,rfl,a,_,1,_,rfl,rfl,d,at1 _ _ _,U,n,o,k,rfl,S,by lia,p,λO g=>?_⟩;refine⟨Y,r,_,v,rfl,rfl,g.bA t,bV M,?_⟩;refine⟨_,rfl,a,_,0,_,rfl,rfl,g.bA d,at0 _ _,rfl,_,rfl,sI (by trivial) ?_⟩;refine⟨_,rfl,a,_,2,_,rfl,rfl,g.bA d,at2 _ _ _ _,?_⟩;have x:=wR.same g (λ_ _ z=>z.same g) F;obtain⟨W,J,ec,G,y⟩:=id x;subst ec;have lu:=y.len;rw[j8] at lu;have a1:=aTy v cs;obtain⟨c,L,X,I,N⟩:=cW y (b8 (show pC v cs 1 0<J.length by lia));refine⟨_,rfl,_,rfl,_,rfl,.ref W,v,k,h0,cs,rfl,x,B.few,j,λc F=>(B.each c F).1,W,J,_,.ref X,rfl,rfl,G,bV (by rw[b8 (show pC v cs 1 0<J.length by lia),I]),X,_,1,_,rfl,rfl,N,at1 _ _ _,_,rfl,rfl,?_⟩;have e:decide (V.int c.2=V.int b)=lO o m r b (.spans n h0 cs):=by show _=decide ((((.non,h0)::cs).map (·.2)).getD (pC (r.getD (plc o n) .non) cs 1 0) 0=b);rw[C,v7,m5,L];exact decide_eq_decide.mpr ⟨λz=>V.int.inj z,λz=>congrArg V.int z⟩
  rw[e];exact q O g
theorem qX {α:Type}{p:Nat->Bool}{p':α->Bool}:∀{k:Nat} {xs:List α},(∀(i:Nat) (x:α),xs[i]?=some x->p (k+i)=p' x)->sel p k xs=xs.filter p'
 |_,[],_=>rfl
 |k,x::r,h=>by have a:=h 0 x rfl;rw[Nat.add_zero] at a;show (if p k then x::sel p (k+1) r else sel p (k+1) r)=_;rw[List.filter_cons,a,qX (k:=k+1) (xs:=r) λi y e=>by rw[show k+1+i=k+(i+1) by lia];exact h (i+1) y (by simpa using e)]
def aSj {α β:Type}{R:α->β->Prop}{p:Nat->Bool}{c:List α}{d:List β}(h:cP R c d):∀k,cP R (sel p k c) (sel p k d):=by
 induction h with
 |nil=>exact λ_=>.nil
 |@cons a b c d r _ ih=>
  intro k;show cP R (if p k then a::sel p (k+1) c else sel p (k+1) c) (if p k then b::sel p (k+1) d else sel p (k+1) d)
  split
  ·exact .cons r (ih _)
  ·exact ih _
def aU7 {X:Cx}{scope:Scope}{x y z y3:Str}{σ:L2.St}{u v u3:V}(i j k:Nat)(m:(y,NameKind.free)∈scope.names)(f:(z,NameKind.free)∈scope.names)(d:(y3,NameKind.free)∈scope.names)(l:X.N[i]?=some y)(h:X.N[j]?=some z)(g:X.N[k]?=some y3)(s:σ[i]?=some (some u))(p:σ[j]?=some (some v))(c:σ[k]?=some (some u3))(t:Vis X.env.scope y)(o:Vis X.env.scope z)(e:Vis X.env.scope y3):Cap X scope [x,y,z,y3] σ [none,some u,some v,some u3]:=
 ⟨rfl,λn q r b a=>by
  match n,b,a with
  |0,_,a=>cases a
  |1,b,a=>cases b;cases a;exact⟨m,i,l,s,t⟩
  |2,b,a=>cases b;cases a;exact⟨f,j,h,p,o⟩
  |3,b,a=>cases b;cases a;exact⟨d,k,g,c,e⟩
  |n+4,b,_=>cases b⟩
def aCr (K:bE4)(CH:Addr):Sp:=λvs H Q E=>(∃(v vh vp:V) (L:Addr) (t:Tb) (house m:Int),vs=[v,.int house,.int m]/\pA K H v vh vp L t/\iV m t/\0<=house/\house<m /\
 ∀D' H',H D'=none->Same H H'->fV K H' D' (t.rows.filter λr=>lO t.hd m r house t.pl)->Q (.ref D') H')\/∃(v vo:V) (t:Tg) (m:Int),vs=[v,vo,.int m]/\bF K H vo t/\iB m t=false/\∀a H',Same H H'->E (.ref CH) (some a) H'
def aJd (T:Txt w K mg){CH S:Addr}(d:ExT K mg fY "NoHouse" "ShardError.__init__" CH S)(fB:Ok P w K mg base 2 "is_number_below" bQN (uI K))(X:Ok P w K mg base 3 "stands_at" u9 (aBy K)):OkX P w K mg base 4 "rows_at" bQD (aCr K CH):=by
 refine OkX.ofV T.aNp aKv (λvs H Q E h=>?_) (λf Z A o s H vs Q E V h=>?_)
 ·rcases h with⟨v,J,G,L,t,b,m,rfl,_⟩|⟨v,I,t,m,rfl,_⟩ <;> rfl
 have hinit:=λ{M:Addr}=>hinit T M;refine⟨_,(aC (cF (cR (cJ (bI fB (aG (vv 1) (va1 (vv 2)))))) (aF (sJ d (λM fd F=>xO (k:=0) F xW hinit) (V.mono (by decide)) oK rfl (by rfl) (va1 cY))) bB) (aF (aP (dF (N:=["row","house","houses","table"]) ck (jP (aD uF)) rfl (oO (bO (dU (K:=K)) (vv 0) aB)) (λcl s' j fp=>⟨(jB 0),(aQd (cJ (bI X (aG (bO (dU (K:=K)) (vv 3) aB) (aG (bO (dU (K:=K)) (vv 3) aB) (aG (vv 0) (aG (vv 1) (va1 (vv 2))))))))),(vv 0)⟩))))),?_⟩;cases h with
 |inr h=>obtain⟨v,I,t,m,rfl,ht,hb,qF⟩:=h;refine⟨_,rfl,_,rfl,I,t,m,rfl,ht,_,rfl,?_⟩;rw[hb];exact bZ ⟨rfl,λa a0 n1 n2 ne=>qF a _ (aR n2 _)⟩
 |inl h=>
 obtain⟨v,J,G,L,t,b,m,rfl,Y,n,h0,hm,q⟩:=h;refine⟨_,rfl,_,rfl,.int b,.int b,m,rfl,.int,_,rfl,?_⟩;rw[show iB m (.int b)=true by show (decide _ && decide _)=true;rw[m8 h0,m8 hm];rfl];refine cA ?_;obtain⟨a,rfl,B,hI,z,⟨us,hL,y⟩⟩:=Y;have lu:=y.len;have fw:=n.few;have m0:0<m:=by lia
 refine aO2 us (λi=>lO t.hd m (t.rows.getD i []) b t.pl) [none,some (.int b),some (.int m),some (.ref a)] ?_ (small (by lia)) (λR r=>aWg (λj c=>SqL.of (c _ _ hL)) (λR' W=>⟨_,rfl,a,_,2,_,rfl,rfl,B,at2 _ _ _ _,W⟩) R r) (λi u U j R l c D=>?_) rfl λO j hN c C=>?_
 ·exact aU7 1 2 0 (by trivial) (by trivial) (by trivial) rfl rfl rfl rfl rfl rfl (by trivial) (by trivial) (by trivial)
 ·obtain⟨r,g,p⟩:=cW y U;have x:=n.rows r (bAA g);have eg:t.rows.getD i []=r:=by rw[v7,g];rfl
  rw[eg] at D;refine⟨_,rfl,a,_,0,_,rfl,rfl,c.bA B,at0 _ _,_,rfl,a,_,1,_,rfl,rfl,c.bA B,at1 _ _ _,_,rfl,_,rfl,_,rfl,J,G,u,b,m,t.hd,t.pl,r,rfl,hI.same c,n.hd,z.same c,n.pl,p.same c,x,m0,λH2 s2=>⟨_,rfl,D H2 s2⟩⟩
 ·refine q O j hN c ⟨_,C,?_⟩;have e:(t.rows.filter λr=>lO t.hd m r b t.pl)=sel (λi=>lO t.hd m (t.rows.getD i []) b t.pl) 0 t.rows:=(qX λi r g=>by rw[bD4,v7,g];rfl).symm;rw[e];exact (aSj y 0).imp λ_ _ r=>r.same c
def gZ (K:bE4)(H:Hp)(C x:Addr)(m:Int)(d:Addr)(es:List En):Prop:=(∃dx,H x=some (.ins C dx [("placed",.ref d),("house_count",.int m)]))/\dJ K H d es/\∀e∈es,iV m e.t
def gZ.same {H H':Hp}{C x d:Addr}{m:Int}{es:List En}(s:Same H H')(h:gZ K H C x m d es):gZ K H' C x m d es:=by obtain⟨⟨b,a⟩,c,e⟩:=h;exact⟨⟨b,s _ _ a⟩,c.same s,e⟩
def dY.ins {H:Hp}{x C dx:Addr}{fs:List (Str × V)}(h:H x=some (.ins C dx fs)):dY H x:=⟨λ_ z=>(by rw[h] at z;cases z),λ_ _ z=>(by rw[h] at z;cases z),λ_ z=>(by rw[h] at z;cases z)⟩
def iV.sorted {m:Int}{t:Tb}(h:iV m t):iV m { t with rows:=srt t.rows }:=⟨h.hd,h.pl,by show (srt t.rows).length<=60;rw[aUc];exact h.few,λr a=>h.rows r (aVf a)⟩
def aLn (K:bE4)(C Pt CB:Addr):Sp:=λvs H Q E=>(∃(H0:Hp) (x dx d:Addr) (m:Int) (es:List En),vs=[.ref x,.int m,.ref d]/\H x=some (.ins C dx [])/\H0 x=none/\Same H0 H/\1<=m/\m<=6/\dJ K H0 d es/\(∀e∈es,iV m e.t)/\H0 Pt=some (.tab qC) /\
 ∀d' H' es',H0 d'=none->Same H0 H'->gZ K H' C x m d' es'->cP (λe e'=>∃v L,e'=aF5 e v L/\H0 L=none) es es'->Q .non H')\/∃x vm vd,vs=[.ref x,vm,vd]/\aK5 K Pt CB E H vm vd
def aS0 (T:Txt w K mg){C Pt CB:Addr}(c:Cls K C)(D:xK K C "__init__" "Town.__init__" iC n8)(n1:cT K C "placed")(n2:cT K C "house_count")(a:OkX P w K mg base 10 "placed_tables" o8 (vK K Pt CB)):gQ P w K mg base C 11 "__init__" n8 (aLn K C Pt CB):=by
 refine gQ.ofV c D vC (λW H Q E h=>?_) (λf a0 A r s H W Q E hr h=>?_)
 ·rcases h with⟨_,x,i,d,m,M,rfl,_⟩|⟨x,F,G,rfl,_⟩ <;> rfl
 refine⟨_,(aC (aAi (K:=K) (vv 0) (iR (a.mono (by decide)) hr qH (by rfl) (aG (vv 1) (va1 (vv 2))))) (aF (aAi (K:=K) (vv 0) (vv 1)))),?_⟩;cases h with
 |inr h=>obtain⟨x,F,G,rfl,h⟩:=h;exact⟨_,rfl,_,rfl,.inr ⟨F,G,rfl,h⟩⟩
 |inl h=>
 obtain⟨Y,x,i,d,m,M,rfl,O,hN,l,Z,V,U,R,X,q⟩:=h;refine⟨_,rfl,_,rfl,.inl ⟨d,m,M,rfl,Z,V,U.same l,R,l _ _ X,λk p u j N g J=>?_⟩⟩;have n:=N _ _ O;refine⟨_,rfl,x,C,i,[],rfl,n,c,n1,by decide,?_⟩;refine⟨_,rfl,_,rfl,x,C,i,_,rfl,aH,c,n2,by show 1<1000;decide,?_⟩;have S:dY p x:=dY.ins n;have t:k≠x:=λz=>by rw[z,O] at j;cases j
 have B:But x p (L2.upd (L2.upd p x (.ins C i [("placed",.ref k)])) x (.ins C i [("placed",.ref k),("house_count",.int m)])):=λb o I h=>by rw[aJ I,aJ I];exact h
 have s2:Same Y (L2.upd (L2.upd p x (.ins C i [("placed",.ref k)])) x (.ins C i [("placed",.ref k),("house_count",.int m)])):=λb o h=>B _ _ (λz=>by rw[z,hN] at h;cases h) (N _ _ (l _ _ h));refine q k _ u (none_of l j) s2 ⟨⟨i,aH⟩,⟨B _ _ t g.at_,g.nd,g.few,g.nm,λe y=>B.tb S (g.tb e y)⟩,λe y=>?_⟩ (J.imp λe e' ⟨v,L,e1,e2⟩=>⟨v,L,e1,none_of l e2⟩);obtain⟨e0,h0,v,L,rfl,_⟩:=aCy J y;exact (R e0 h0).sorted
inductive zG (K:bE4)(C CT:Addr)(vs:List V)(H:Hp)(Q:VK)(E:XK):Prop
 |mk (x d:Addr) (m:Int) (es:List En) (v:V) (_:vs=[.ref x,v]) (_:gZ K H C x m d es) (_:((∃e∈es,v=.str e.n/\∀H',Same H H'->Q e.vp H')\/aGg K CT E H es v))
def aF3 (T:Txt w K mg){C CT:Addr}(c:Cls K C)(D:xK K C "placing" "Town.placing" iZ u6)(r:cT K C "placed")(b:OkX P w K mg base 3 "table_in" bQH (aDi K CT)):gQ P w K mg base C 4 "placing" u6 (zG K C CT):=by
 refine gQ.ofV c D xH (by trivial) (λf z A g s H B Q E y h=>?_)
 obtain⟨x,d,m,k,v,rfl,⟨⟨j,n⟩,i,J⟩,h⟩:=h;refine⟨_,(aF (aP (bO (dU (K:=K)) (iR (b.mono (by decide)) y qH (by rfl) (aG (aD1 (K:=K) (vv 0)) (va1 (vv 1)))) aB))),?_⟩;cases h with
 |inr h=>exact⟨_,rfl,x,C,j,_,_,rfl,n,c,r,rfl,_,rfl,d,k,v,rfl,i,.inr h⟩
 |inl h=>
 obtain⟨e,o,rfl,q⟩:=h;obtain⟨a,t,p,I,F,G⟩:=i.tb e o;exact⟨_,rfl,x,C,j,_,_,rfl,n,c,r,rfl,_,rfl,d,k,_,rfl,i,.inl ⟨e,o,rfl,λu l=>⟨a,_,1,_,t,rfl,l.bA p,at1 _ _ _,q u l⟩⟩⟩
inductive sG (K:bE4)(C CT:Addr)(vs:List V)(H:Hp)(Q:VK)(E:XK):Prop
 |mk (x d:Addr) (m:Int) (es:List En) (v:V) (_:vs=[.ref x,v]) (_:gZ K H C x m d es) (_:((∃e∈es,v=.str e.n/\∀L H',H L=none->Same H H'->fV K H' L e.t.rows->Q (.ref L) H')\/aGg K CT E H es v))
def aOg (T:Txt w K mg){C CT:Addr}(c:Cls K C)(D:xK K C "whole" "Town.whole" lU u6)(F:cT K C "placed")(b:OkX P w K mg base 3 "table_in" bQH (aDi K CT)):gQ P w K mg base C 4 "whole" u6 (sG K C CT):=by
 refine gQ.ofV c D aA3 (by trivial) (λf O A i s H R Q E N h=>?_)
 obtain⟨x,d,m,o,v,rfl,⟨⟨l,p⟩,j,J⟩,h⟩:=h;refine⟨_,(aF (aP (bW (aGx (K:=K)) (by rfl) T.zX tG (va1 (bO (dU (K:=K)) (iR (b.mono (by decide)) N qH (by rfl) (aG (aD1 (K:=K) (vv 0)) (va1 (vv 1)))) aB))))),?_⟩;cases h with
 |inr h=>exact⟨_,rfl,x,C,l,_,_,rfl,p,c,F,rfl,_,rfl,d,o,v,rfl,j,.inr h⟩
 |inl h=>
 obtain⟨e,k,rfl,q⟩:=h;obtain⟨a,I,B,W,S,⟨n,M,u⟩⟩:=j.tb e k;have V:=u.len;have X:=(J e k).few;refine⟨_,rfl,x,C,l,_,_,rfl,p,c,F,rfl,_,rfl,d,o,_,rfl,j,.inl ⟨e,k,rfl,λU g=>⟨a,_,2,_,I,rfl,g.bA B,at2 _ _ _ _,e.L,n,rfl,.inl (SqL.of (g _ _ M)),λL z G t y=>q L z (none_of g G) (g.trans t) ⟨n,y,u.imp λ_ _ r=>r.same (g.trans t)⟩⟩⟩⟩
inductive aLs (K:bE4)(C CT CH:Addr)(vs:List V)(H:Hp)(Q:VK)(E:XK):Prop
 |mk (x d:Addr) (m:Int) (es:List En) (v vo:V) (_:vs=[.ref x,v,vo]) (_:gZ K H C x m d es) (_:((∃e∈es,v=.str e.n/\((∃house,vo=.int house/\0<=house/\house<m/\∀L H',Same H H'->Q (.ref L) H')\/∃t,bF K H vo t/\iB m t=false/\∀a H',Same H H'->E (.ref CH) (some a) H'))\/aGg K CT E H es v))
def aRf (T:Txt w K mg){C CT CH:Addr}(c:Cls K C)(D:xK K C "part" "Town.part" nO bQI)(B:cT K C "placed")(W:cT K C "house_count")(b:OkX P w K mg base 3 "table_in" bQH (aDi K CT))(g:OkX P w K mg base 4 "rows_at" bQD (aCr K CH)):gQ P w K mg base C 5 "part" bQI (aLs K C CT CH):=by
 refine gQ.ofV c D aFo (by trivial) (λf N A k s H S Q E u h=>?_)
 obtain⟨x,d,m,r,v,M,rfl,⟨⟨n,o⟩,l,O⟩,h⟩:=h;refine⟨_,(aF (aP (iR (g.mono (by decide)) u qH (by rfl) (aG (iR (b.mono (by decide)) u qH (by rfl) (aG (aD1 (K:=K) (vv 0)) (va1 (vv 1)))) (aG (vv 2) (va1 (aD1 (K:=K) (vv 0)))))))),?_⟩;cases h with
 |inr h=>exact⟨_,rfl,x,C,n,_,_,rfl,o,c,B,rfl,_,rfl,d,r,v,rfl,l,.inr h⟩
 |inl h=>
 obtain⟨e,p,rfl,h⟩:=h;refine⟨_,rfl,x,C,n,_,_,rfl,o,c,B,rfl,_,rfl,d,r,_,rfl,l,.inl ⟨e,p,rfl,λV j=>?_⟩⟩;refine⟨_,rfl,_,rfl,x,C,n,_,_,rfl,j _ _ o,c,W,rfl,?_⟩;rcases h with⟨i,rfl,z,F,q⟩|⟨t,ht,hb,qF⟩
 ·exact .inl ⟨e.v,e.vh,e.vp,e.L,e.t,i,m,rfl,(l.tb e p).same j,O e p,z,F,λL y U J R=>q L y (j.trans J)⟩
 ·exact .inr ⟨e.v,M,t,m,rfl,ht.same j,hb,λa G I=>qF a G (j.trans I)⟩
def aGc (K:bE4)(C Pt CB:Addr):Sp:=λvs H Q E=>(∃(H0:Hp) (x dx d:Addr) (m:Int) (es:List En),vs=[.ref x,.int m,.ref d]/\H x=some (.ins C dx [])/\H0 x=none/\Same H0 H/\1<=m/\m<=6/\dJ K H0 d es/\(∀e∈es,iV m e.t)/\H0 Pt=some (.tab qC)/\∀H',Same H0 H'->Q .non H')\/∃x vm vd,vs=[.ref x,vm,vd]/\aK5 K Pt CB E H vm vd
def aO4 (T:Txt w K mg){C Pt CB:Addr}(c:Cls K C)(D:xK K C "__init__" "Store.__init__" gA n8)(n1:cT K C "placed")(n2:cT K C "house_count")(n3:cT K C "moves")(e:OkX P w K mg base 10 "placed_tables" o8 (vK K Pt CB)):gQ P w K mg base C 11 "__init__" n8 (aGc K C Pt CB):=by
 refine gQ.ofV c D tV (λM H Q E h=>?_) (λf a0 A k s H M Q E hr h=>?_)
 ·rcases h with⟨_,x,a,d,m,y,rfl,_⟩|⟨x,p,r,rfl,_⟩ <;> rfl
 refine⟨_,(aC (aAi (K:=K) (vv 0) (iR (e.mono (by decide)) hr qH (by rfl) (aG (vv 1) (va1 (vv 2))))) (aC (aAi (K:=K) (vv 0) (vv 1)) (aF (aAi (K:=K) (vv 0) aGi)))),?_⟩;cases h with
 |inr h=>obtain⟨x,p,r,rfl,h⟩:=h;exact⟨_,rfl,_,rfl,.inr ⟨p,r,rfl,h⟩⟩
 |inl h=>
 obtain⟨R,x,a,d,m,y,rfl,X,U,l,S,J,I,ok,N,q⟩:=h;refine⟨_,rfl,_,rfl,.inl ⟨d,m,y,rfl,S,J,I.same l,ok,l _ _ N,λg i Z O B L a1=>?_⟩⟩;have n:=B _ _ X;refine⟨_,rfl,x,C,a,[],rfl,n,c,n1,by decide,?_⟩;refine⟨_,rfl,_,rfl,x,C,a,_,rfl,aH,c,n2,by show 1<1000;decide,?_⟩;have G:But x i (L2.upd (L2.upd i x (.ins C a (fP "placed" (.ref g) []))) x (.ins C a (fP "house_count" (.int m) (fP "placed" (.ref g) [])))):=λb o j h=>by rw[aJ j,aJ j];exact h
 have v:L2.upd (L2.upd i x (.ins C a (fP "placed" (.ref g) []))) x (.ins C a (fP "house_count" (.int m) (fP "placed" (.ref g) []))) x=some (.ins C a [("placed",.ref g),("house_count",.int m)]):=aH;have W:∀{b},L2.upd (L2.upd i x (.ins C a (fP "placed" (.ref g) []))) x (.ins C a (fP "house_count" (.int m) (fP "placed" (.ref g) []))) b=none->i b=none:=λ{b} h=>by
  by_cases z:b=x
  ·rw[z,aH] at h;cases h
  ·rw[aJ z,aJ z] at h;exact h
 generalize L2.upd (L2.upd i x (.ins C a (fP "placed" (.ref g) []))) x (.ins C a (fP "house_count" (.int m) (fP "placed" (.ref g) [])))=H2 at G v W ⊢;refine λu F V t g3=>?_;refine⟨_,rfl,x,C,a,_,rfl,t _ _ v,c,n3,by show 2<1000;decide,?_⟩;have b3:But x i (L2.upd F x (.ins C a [("placed",.ref g),("house_count",.int m),("moves",.ref u)])):=λb o j h=>by rw[aJ j];exact t _ _ (G _ _ j h)
 have Y:Same R (L2.upd F x (.ins C a [("placed",.ref g),("house_count",.int m),("moves",.ref u)])):=λb o h=>b3 _ _ (λz=>by rw[z,U] at h;cases h) (B _ _ (l _ _ h));exact q _ Y
end
end My
namespace L2
open PySem PySem.Spec PyProof.Rows
abbrev M61:Int:=2305843009213693951
def gH (H:Hp)(a:Addr):Prop:=∃s d:Int,H a=some (.lst [.int s,.int d])/\True/\0<=d
structure Fx (a:Addr)(H H':Hp):Prop where
 same:∀b o,b≠a->H b=some o->H' b=some o
 st:gH H' a
def Fx.trans {a:Addr}{H H1 H2:Hp}(f:Fx a H H1)(g:Fx a H1 H2):Fx a H H2:=⟨λb o n e=>g.same b o n (f.same b o n e),g.st⟩
def gH.same {a:Addr}{H H':Hp}(h:gH H a)(e:Same H H'):gH H' a:=by obtain⟨s,d,b,c⟩:=h;exact⟨s,d,e _ _ b,c⟩
def Fx.of {a:Addr}{H H':Hp}(h:gH H a)(e:Same H H'):Fx a H H':=⟨λb o _ q=>e b o q,h.same e⟩
def Fx.refl {a:Addr}{H:Hp}(h:gH H a):Fx a H H:=.of h (Same.refl H)
def Fx.sm {a:Addr}{H H1 H2:Hp}(f:Fx a H H1)(e:Same H1 H2):Fx a H H2:=f.trans (.of f.st e)
def gH.ne {a p:Addr}{H:Hp}(h:gH H a)(f:H p=none):p≠a:=by obtain⟨s,d,b,_⟩:=h;exact (aV b f).symm
def Fx.bA {K:bE4}{a p:Addr}{H H':Hp}{xs:List V}(f:Fx a H H')(h:gH H a)(e:SqT K H p xs):SqT K H' p xs:=by
 obtain⟨s,d,b,_⟩:=h;rcases e with (e|⟨o,e⟩)|e
 ·exact .inl (.inl (f.same p _ (pN e b (by intro z;cases z)) e))
 ·exact .inl (.inr ⟨o,f.same p _ (pN e b (by intro z;cases z)) e⟩)
 ·exact .inr e
def Fx.upd {a D:Addr}{H H':Hp}{o:HO}(f:Fx a H H')(h:H D=none)(i:D≠a):Fx a H (L2.upd H' D o):=⟨λb u n e=>by rw[aJ (aV e h)];exact f.same b u n e,by obtain⟨s,d,c,g⟩:=f.st;exact⟨s,d,by rw[aJ i.symm];exact c,g⟩⟩
def Fx.free {a p:Addr}{H H':Hp}(f:Fx a H H')(h:H' p=none):H p=none:=by
 cases e:H p with
 |none=>rfl
 |some o=>
  by_cases z:p=a
  ·subst z;obtain⟨s,d,b,_⟩:=f.st;rw[b] at h;cases h
  ·rw[f.same p o z e] at h;cases h
def aPs {a:Addr}{H:Hp}(h:gH H a):aY6 (Fx a) H:=⟨λD o c=>.of h (aR c o),λa b=>a.trans b,λD o j c f=>f.upd c (h.ne c),λD i d g c _ e f=>f.same _ _ (h.ne c) e⟩
def aPh:bootBuiltins "divmod"=some (.builtin "divmod"):=by trivial
def bAt:List V->Hp->VK->Prop:=λxs H Q=>∃i j,xs=[.int i,.int j]/\(0<j/\j<2 ^ 64)/\∀p H',H p=none->Same H H'->H' p=some (.tup [.int (i / j),.int (i % j)])->Q (.ref p) H'
def aOc {X:Cx}:bR X (.builtin "divmod") bAt:=by
 intro f s σ H n l Q I r h;obtain⟨i,j,rfl,⟨k,g⟩,q⟩:=h;obtain⟨u,m,rfl,⟨t,rfl⟩,⟨p,rfl⟩⟩:=vals2 r;have c:j.natAbs<2 ^ 64:=by lia
 have a:j.natAbs.log2<9000:=by have:=(Nat.log2_lt (show j.natAbs≠0 by lia)).mpr c;lia
 refine divmod_int (by lia) ?_ (.inl (PyProof.noPylong_of_log2 a));rw[bEO i (by lia),bEP i (by lia)];have d:H s.heap.objs.size=none:=I.hok.fresh (j5 _);refine⟨.ref s.heap.objs.size,upd H s.heap.objs.size (.tup [.int (i / j),.int (i % j)]),?_,rfl,q _ _ d (aR d _) aH⟩;refine I.laid (λb o e=>d7 _ e) (j5 _) ⟨by simp only[j8,bBN];rw[sizeLine_eq];decide,[.int (i / j) s.toks,.int (i % j) (s.toks+1)],.cons ⟨_,rfl⟩ (.cons ⟨_,rfl⟩ .nil),?_⟩;exact .of (j4 s.heap rfl) rfl ⟨_,j4 s.heap rfl,rfl,0,rfl⟩
end L2
namespace My
open PySem PySem.Spec PyProof.Rows L2
section
variable {P:Program}{w:World}{K:bE4}{mg:bE7}{base:Heap}
inductive aE4 (K:bE4)(vs:List V)(H:Hp)(Q:VK)(E_:XK):Prop
 |mk (a:Addr) (ns:List Int) (_:vs=[.ref a]) (_:SqL K H a (ns.map V.int)) (_:ns.length<=63) (_:∀c H',Same H H'->0<=c->c<M61->Q (.int c) H')
def aEu (T:Txt w K mg):Ok P w K mg base 1 "_law_seed" q7 (aE4 K):=by
 refine Ok.ofV T.aG4 rQ (by trivial) (λf l A d s H n Q E p h=>?_)
 obtain⟨a,k,rfl,g,j,q⟩:=h;have m:=rQ.nd;refine⟨_,(aC (bJ 1 aB) (aC (eO PassesOwn.never rfl (aUg (by rfl) T.aHs (va1 (vv 0))) (jT rfl (aZ (cL 2) (aZ (cL 3) dC))) (aF (bJ 1 (bK nJ (bK dO (bK dO (bK dO (bK vB (vv 1) aB) (bK nJ (vv 3) (bK zY aB aB))) (bK vB aB (vv 2))) aB) aB)))) (aF (aP (vv 1))))),?_⟩;refine⟨_,rfl,a,k.map V.int,rfl,g,aS7 (λi σ b=>Same H b/\∃(c:Int) (l2 l3:Option V),0<=c/\c<M61/\σ=[some (.ref a),some (.int c),l2,l3]) ⟨Same.refl H,7,_,_,by decide,by decide,rfl⟩ (λi σ b _ ⟨e,_⟩=>e.seq g) ?_ ?_⟩
 ·rintro i σ b x Tp H'' ex ⟨sm,c,l2,l3,c0,c1,rfl⟩ hT rfl;obtain⟨z,o,rfl⟩:=aJz ex;refine⟨Tp,_,rfl,SqT.of aH,rfl,_,_,rfl,_,_,rfl,rfl,?_⟩;refine⟨_,rfl,_,_,rfl,rfl,.inr ⟨by decide,by decide⟩,_,rfl,_,_,rfl,rfl,⟨by decide,by decide,by decide⟩,_,_,rfl,rfl,(by show (0:Int)<10 ^ 30;decide),_,_,rfl,rfl,_,rfl,_,_,rfl,rfl,.inl ⟨by decide,by decide⟩,_,_,rfl,rfl,_,_,rfl,rfl,_,_,rfl,rfl,(by show (0:Int)<2305843009213693951;decide),?_⟩;exact⟨sm.trans (aR hT _),_,_,_,Int.emod_nonneg _ (by decide),bEU _ (by decide),rfl⟩
 ·rintro σ b ⟨sm,c,l2,l3,c0,c1,rfl⟩;exact⟨_,rfl,q c b sm c0 c1⟩
inductive fK (vs:List V)(H:Hp)(Q:VK)(E_:XK):Prop
 |mk (a:Addr) (m:Int) (_:vs=[.ref a,.int m]) (_:gH H a) (_:(0<m/\m<2 ^ 64)) (_:∀c H',Fx a H H'->0<=c->c<m->Q (.int c) H')
def aEj (T:Txt w K mg):Ok P w K mg base 1 "_law_next" n6 fK:=by
 refine Ok.ofV T.aH6 sU (by trivial) (λf v A i s H x Q E C h=>?_)
 obtain⟨a,m,rfl,⟨j,g,d,u,r⟩,⟨e,k⟩,q⟩:=h;have z:=sU.nd;refine⟨_,(aC (cF (eY aRj (bO bN (vv 0) aB) aB) (aC (oG (aO aOc (by rfl) T.aSz aPh (aG (bO bN (vv 0) aB) (va1 (vv 1)))) (jT rfl (aZ (aRb (vv 0) aB set_list) (aZ (cL 2) dC)))) (aF (aP (vv 2)))) bB) (aC (oG (bK nJ (bK dO (bK vB (bO bN (vv 0) aB) aB) aB) aB) (aRb (vv 0) aB set_list)) (aF (aP (bK nJ (bK aMz (bO bN (vv 0) aB) aB) (vv 1)))))),?_⟩;refine⟨_,rfl,a,_,1,_,rfl,rfl,SqL.of d,at1 _ _ _,_,_,rfl,rfl,_,rfl,aHi (λc=>?_) λc=>?_⟩
 ·refine⟨_,rfl,a,_,1,_,rfl,rfl,SqL.of d,at1 _ _ _,_,rfl,_,_,rfl,⟨e,k⟩,λp B y l t=>?_⟩;refine⟨p,_,rfl,SqT.of t,rfl,_,_,rfl,⟨_,rfl,a,_,1,1,rfl,rfl,l _ _ d,rfl,?_⟩⟩;refine⟨_,_,rfl,rfl,_,rfl,?_⟩;exact q _ _ ⟨λb o n h=>by rw[aJ n];exact l _ _ h,j,g / m,aH,u,Int.ediv_nonneg r (by lia)⟩ (Int.emod_nonneg _ (by lia)) (bEU _ e)
 ·refine⟨_,rfl,a,_,0,_,rfl,rfl,SqL.of d,at0 _ _,_,_,rfl,rfl,.inr ⟨by decide,by decide⟩,_,_,rfl,rfl,_,_,rfl,rfl,(by show (0:Int)<2305843009213693951;decide),?_⟩;refine⟨_,rfl,a,_,0,0,rfl,rfl,d,rfl,?_⟩;refine⟨_,rfl,a,[.int ((j * 1181783497276652981+12345678910987) % 2305843009213693951),.int g],0,_,rfl,rfl,SqL.of aH,at0 _ _,_,_,rfl,rfl,⟨by decide,by decide⟩,_,rfl,_,_,rfl,rfl,e,?_⟩;exact q _ _ ⟨λb o n h=>by rw[aJ n];exact h,(j * 1181783497276652981+12345678910987) % 2305843009213693951,g,aH,trivial,r⟩ (Int.emod_nonneg _ (by lia)) (bEU _ e)
inductive aIa (K:bE4)(vs:List V)(H:Hp)(Q:VK)(E_:XK):Prop
 |mk (a:Addr) (ns:List Int) (_:vs=[.ref a]) (_:SqL K H a (ns.map V.int)) (_:ns.length<=63) (_:∀p H',H p=none->Same H H'->gH H' p->Q (.ref p) H')
def aBo (T:Txt w K mg)(l:Ok P w K mg base 1 "_law_seed" q7 (aE4 K)):Ok P w K mg base 2 "_law_begin" q7 (aIa K):=by
 refine Ok.ofV T.aFt pR (by trivial) (λf x A e s H z Q E F h=>?_)
 obtain⟨a,i,rfl,d,g,q⟩:=h;have B:=pR.nd;refine⟨_,(aC (bJ 1 aB) (aC (cF (VW.pt (aXr (eY aRj (aO bM (by rfl) T.fQ dI (va1 (vv 0))) aB) (aVi (eY cV (bK nJ (bO bN (vv 0) aB) aB) aB)))) (aF (bJ 1 (bK aMz (aO aSq (by rfl) T.bAm aZx (va1 (bO bN (vv 0) aB))) aB))) bB) (aF (aP (aX (aG (bI l (va1 (vv 0))) (va1 (vv 1)))))))),?_⟩;have b:∀dg:Int,0<=dg->∀(σ:L2.St),σ=[some (.ref a),some (.int dg)]->(uH (aMs (cO (rG (aE4 K) [] E0 (cO (eX 0) qZ)) (cO (eX 1) qZ)))) { nx:=λ_ o=>Q V.non o,rt:=Q } σ H:=by rintro dg d0 σ rfl;exact⟨_,rfl,a,i,rfl,d,g,λc C j y D=>⟨_,rfl,(by show 2<=sizeLine;decide),λp m t v k=>q p m (j.free t) (j.trans v) ⟨c,dg,k,trivial,d0⟩⟩⟩
 refine⟨_,rfl,a,_,rfl,.inl d,_,_,rfl,rfl,_,rfl,?_⟩;cases i with
 |nil=>exact cA (b 0 (by decide) _ rfl)
 |cons n r=>
  have u:decide ((0:Int)<((n::r).map V.int).length)=true:=m8 (by simp);rw[show (decide (((((n::r).map V.int).length:Nat):Int) > 0))=true from u];refine bZ ⟨_,rfl,a,_,0,.int n,rfl,rfl,d,at0 _ _,_,_,rfl,rfl,(by show (0:Int)<2;decide),rfl,_,rfl,aHi (λc=>?_) λc=>?_⟩
  ·exact⟨_,rfl,a,_,0,.int n,rfl,rfl,d,at0 _ _,_,rfl,_,_,rfl,rfl,⟨by decide,by decide⟩,b _ (Int.ediv_nonneg (by split <;> lia) (by decide)) _ rfl⟩
  ·exact b 0 (by decide) _ rfl
def aGo:Sp:=λvs H Q _=>∃a:Addr,vs=[.ref a]/\gH H a/\∀i H',Fx a H H'->Q (.int i) H'
def aBv (T:Txt w K mg)(y:Ok P w K mg base 1 "_law_next" n6 fK):Ok P w K mg base 2 "_law_great" ["_law_state"] aGo:=by
 refine Ok.ofV T.aDo pZ (by trivial) (λf z A b s H C Q E F h=>?_)
 obtain⟨a,rfl,m,q⟩:=h;have D:=pZ.nd;refine⟨_,(aC (bJ 1 aB) (aC (eO PassesOwn.never rfl (cZ (by rfl) T.eE (va1 aB)) (cL 2) (aF (bJ 1 (bK dO (bK vB (vv 1) (bK zY aB aB)) (bI y (aG (vv 0) (va1 (bK zY aB aB)))))))) (aF (aP (bO bN (aX (aG (vv 1) (va1 (bK aK3 aB (vv 1))))) (bI y (aG (vv 0) (va1 aB)))))))),?_⟩;refine⟨_,rfl,by decide,by decide,dH (n:=4) (λi σ e=>Fx a H e/\∃(c:Int) (l2:Option V),σ=[some (.ref a),some (.int c),l2]) ⟨.refl m,0,_,rfl⟩ ?_ ?_⟩
 ·rintro i σ e hi ⟨fx,c,l2,rfl⟩;refine⟨_,rfl,_,_,rfl,rfl,⟨by decide,by decide,by decide⟩,_,_,rfl,rfl,.inr ⟨by decide,by decide⟩,_,rfl,_,_,rfl,rfl,⟨by decide,by decide,by decide⟩,a,_,rfl,fx.st,(by show (0:Int)<10 ^ 15/\(10:Int) ^ 15<2 ^ 64;decide),λd u t _ _=>?_⟩;exact⟨_,_,rfl,rfl,fx.trans t,_,_,rfl⟩
 ·rintro σ e ⟨fx,c,l2,rfl⟩;refine⟨_,rfl,_,rfl,_,_,rfl,rfl,(by show 2<=sizeLine;decide),λp u r g l=>?_⟩;refine⟨_,rfl,a,2,rfl,fx.st.same g,by decide,λd B j x G=>?_⟩;obtain⟨v,o,k⟩:=at_of (xs:=[.int c,.int (0 - c)]) x (by show d<2;lia);refine⟨p,_,_,v,rfl,rfl,SqL.of (j.same _ _ (fx.st.ne r) l),o,?_⟩;simp only[bAE,v8,or_false] at k;rcases k with rfl|rfl
  ·exact q _ _ ((fx.sm g).trans j)
  ·exact q _ _ ((fx.sm g).trans j)
abbrev aLj:List V:=[.str "",.str "a",.str "b",.str "ab"]
inductive aE7 (vs:List V)(H:Hp)(Q:VK)(E_:XK):Prop
 |mk (a:Addr) (kd:Str) (_:vs=[.ref a,.str kd]) (_:gH H a) (_:wQ kd) (_:∀v H',Fx a H H'->cU kd v->Q v H')
def aJ1 {v:V}(h:v∈aLj):cU "word" v:=by
 simp only[aLj,bAE,v8,or_false] at h;have a:∀x:Str,(x.cps.all λc=>decide (97<=c) && decide (c<=122))=true->Lets x:=λx d c b=>by have:=(Array.all_eq_true_iff_forall_mem.mp d) c b;rw[bAB] at this;exact⟨of_decide_eq_true this.1,of_decide_eq_true this.2⟩
 rcases h with rfl|rfl|rfl|rfl
 ·exact .wrd (a _ (by trivial)) (by trivial)
 ·exact .wrd (a _ (by trivial)) (by trivial)
 ·exact .wrd (a _ (by trivial)) (by trivial)
 ·exact .wrd (a _ (by trivial)) (by trivial)
def aA7 (T:Txt w K mg)(C:Ok P w K mg base 1 "_law_next" n6 fK)(G:Ok P w K mg base 2 "_law_great" ["_law_state"] aGo):Ok P w K mg base 3 "_law_value" bQE aE7:=by
 refine Ok.ofV T.aDh pU (by trivial) (λf U A r s H Y Q E hr h=>?_)
 obtain⟨a,kd,rfl,L,I,q⟩:=h;have nd:=pU.nd;refine⟨_,(aC (bJ 2 (bI C (aG (vv 0) (va1 aB)))) (aC (cF (eY cV (vv 1) aQ) (aF (aP (bO bN (aX (aG (bK aK3 (bI C (aG (vv 0) (va1 aB))) aB) (va1 (bI G (va1 (vv 0)))))) (bW iJ (by rfl) T.yL qM (va1 (lH cV (vv 2) aB)))))) bB) (aC (cF (eY aP2 (vv 2) aB) (aF (aP (bO bN (aX (aG aQ (aG aQ (aG aQ (va1 aQ))))) (bK nJ (vv 2) aB)))) bB) (aC (bJ 3 aQ) (aC (eO PassesOwn.never rfl (cZ (by rfl) T.eE (va1 (bI C (aG (vv 0) (va1 aB))))) (cL 4) (aF (bJ 3 (bK lQ (vv 3) (nY aQ (bI C (aG (vv 0) (va1 aB))) (λ_ _=>rfl)))))) (aF (aP (vv 3)))))))),?_⟩;refine⟨_,rfl,a,10,rfl,L,by decide,λb H1 l w0 W=>?_⟩;rcases I with rfl|rfl
 ·refine⟨_,rfl,rfl,_,rfl,bZ ?_⟩;refine⟨_,rfl,a,4,rfl,l.st,by decide,λd J o B D=>?_⟩;refine⟨_,_,rfl,rfl,_,rfl,a,rfl,o.st,λg R t=>?_⟩;refine⟨(by show 2<=sizeLine;decide),λp O _ u m=>?_⟩;have c:=(l.trans (o.trans t)).sm u;refine⟨_,rfl,rfl,.inr ⟨_,rfl,?_⟩⟩;by_cases e:b=9
  ·rw[m8 (congrArg V.int e)];exact⟨p,_,_,_,rfl,rfl,SqL.of m,bV (j:=1) rfl,q _ _ c .num⟩
  ·rw[m9 (by intro z;exact e (V.int.inj z))];exact⟨p,_,_,_,rfl,rfl,SqL.of m,bV (j:=0) rfl,q _ _ c .num⟩
 ·refine⟨_,rfl,rfl,_,rfl,cA ?_⟩;refine⟨_,rfl,_,_,rfl,rfl,_,rfl,aHi (λ_=>?_) (λ_=>?_)⟩
  ·refine⟨(by show 4<=sizeLine;decide),λp O _ u m=>?_⟩;obtain⟨v,M,N⟩:=at_of (xs:=aLj) (j:=b % 4) (by lia) (by show b % 4<4;lia);exact⟨_,rfl,_,_,rfl,rfl,(by show (0:Int)<4;decide),p,_,_,v,rfl,rfl,SqL.of m,M,q _ _ (l.sm u) (aJ1 N)⟩
  ·refine⟨_,rfl,a,9,rfl,l.st,by decide,λn J o X Z=>?_⟩;refine⟨_,rfl,by lia,by lia,dH (n:=n.toNat) (λi σ y=>Fx a H y/\∃(x:Str) (l4:Option V),σ=[some (.ref a),some (.str "word"),some (.int b),some (.str x),l4]/\x.length<=i/\Lets x) ⟨l.trans o,_,_,rfl,by trivial,λd S=>by simp[show (("":Str).cps)=#[] from rfl] at S⟩ ?_ ?_⟩
   ·rintro i σ y hi ⟨c,x,l4,rfl,hl,hx⟩;have F:abc.length=26:=by trivial
    refine⟨_,rfl,_,rfl,a,26,rfl,c.st,by decide,λd R t B D=>?_⟩;obtain⟨ch,k⟩:=aMb (z:=abc) B (by rw[F];exact D);refine⟨_,_,_,rfl,rfl,B,(by lia),(by rw[F];exact D),k,_,_,rfl,rfl,?_,c.trans t,_,_,rfl,?_,hx.add (aH7.one k)⟩
    ·show x.length+1<=sizeLine;exact small (by lia)
    ·rw[aD8];show x.length+1<=i+1;lia
   ·rintro σ y ⟨c,x,l4,rfl,hl,hx⟩;exact⟨_,rfl,q _ _ c (.wrd hx (by lia))⟩
def aDb:Sp:=λvs H Q _=>vs=[]/\∀p H',H p=none->Same H H'->H' p=some (.lst words)->Q (.ref p) H'
def aBe (T:Txt w K mg):Ok P w K mg base 1 "_law_words" [] aDb:=by
 refine Ok.ofV T.aEn pJ (by trivial) (λf n A a s H u Q E v h=>?_)
 obtain⟨rfl,q⟩:=h;have r:=pJ.nd;refine⟨_,(aC (bJ 0 (aX (aG aQ (aG aQ (aG aQ (aG aQ (aG aQ (aG aQ (aG aQ (aG aQ (va1 aQ))))))))))) (aF (aP (bK fG (vv 0) (aX (aG aQ (aG aQ (aG aQ (aG aQ (aG aQ (aG aQ (aG aQ (va1 aQ))))))))))))),?_⟩;refine⟨(by show 9<=sizeLine;decide),λd t _ c i=>?_⟩;refine⟨_,rfl,(by show 8<=sizeLine;decide),λm o _ b g=>?_⟩;exact⟨d,m,_,_,rfl,rfl,b _ _ i,g,(by show 9+8<=sizeLine;decide),λp j l e k=>q p j ((c.trans b).free l) (c.trans (b.trans e)) k⟩
def jZ (ns:List Str):Prop:=ns.length=17/\(∀n∈ns,Nm n)/\ns.Nodup
def jZ.rev {ns:List Str}(h:jZ ns):jZ ns.reverse:=⟨by rw[List.length_reverse];exact h.1,λn a=>h.2.1 n (List.mem_reverse.mp a),List.pairwise_reverse.mpr (h.2.2.imp λq=>Ne.symm q)⟩
def aZq:∀j:_root_.Fin 26,abc.cps[j.val]?=some (97+j.val):=by trivial
def aT0 {j:Nat}(h:j<26):abc.cps[j]?=some (97+j):=aZq ⟨j,h⟩
def sgl (o:Nat):List Str:=(List.range 17).map λk=>⟨#[97+(o+k)]⟩
def aM2:∀o:_root_.Fin 10,((sgl o.val).all λn=>nameB (.str n))=true/\(Txt.slice abc (some (o.val:Int)) (some ((o.val:Int)+17))).cps.size=17/\((List.range 17).all λi=>decide (sgn (Txt.slice abc (some (o.val:Int)) (some ((o.val:Int)+17))) i=⟨#[97+(o.val+i)]⟩))=true:=by trivial
def aQl {a b:Nat}(h:(⟨#[a]⟩:Str)=⟨#[b]⟩):a=b:=by have:=congrArg (λx:Str=>x.cps.toList) h;simpa using this
def aQ1 {o:Nat}(h:o<10):jZ (sgl o):=by
 refine⟨by simp[sgl],λn a=>?_,?_⟩
 ·have:=(aM2 ⟨o,h⟩).1;rw[bCM] at this;exact this n a
 ·refine List.pairwise_map.mpr (List.Pairwise.imp_of_mem ?_ List.nodup_range);intro k l _ _ b e;have:=aQl e;exact b (by lia)
def aUn {o:Nat}(h:o<10):((List.range (Txt.slice abc (some (o:Int)) (some ((o:Int)+17))).cps.size).map λi=>V.str (sgn (Txt.slice abc (some (o:Int)) (some ((o:Int)+17))) i))=(sgl o).map V.str:=by obtain⟨_,a,b⟩:=aM2 ⟨o,h⟩;have a:(Txt.slice abc (some (o:Int)) (some ((o:Int)+17))).cps.size=17:=a;rw[a];unfold sgl;rw[bBV];refine List.map_congr_left λi c=>?_;rw[bCM] at b;have:=of_decide_eq_true (b i c);show V.str _=V.str _;exact congrArg V.str this
def stm (b:Str)(a o:Nat):Nat->List Str:=λi=>(List.range i).map λk=>put b a (97+(o+k))
def aXv {b:Str}{a o:Nat}(x:Lets b)(hl:b.length<=7)(j:a<=b.length)(ho:o<10)(y:∀w∈words,inV w ((stm b a o 17).map V.str)=false):jZ (stm b a o 17):=by
 refine⟨by simp[stm],λn i=>?_,?_⟩
 ·obtain⟨k,h,rfl⟩:=List.mem_map.mp i;have h:=List.mem_range.mp h;have f:inV (.str (put b a (97+(o+k)))) words=false:=by
   cases e:inV (.str (put b a (97+(o+k)))) words with
   |false=>rfl
   |true=>
    exfalso;unfold inV at e;rw[bDV] at e;obtain⟨v,d,m⟩:=e;have g:∃z:Str,v=.str z:=by simp only[words,bAE,v8,or_false] at d;rcases d with rfl|rfl|rfl|rfl|rfl|rfl|rfl|rfl|rfl|rfl|rfl|rfl|rfl|rfl|rfl|rfl|rfl <;> exact⟨_,rfl⟩
    obtain⟨z,rfl⟩:=g;have r:(z == put b a (97+(o+k)))=true:=m;have s:z=put b a (97+(o+k)):=by simpa using r
    have:=y _ d;rw[oX,decide_eq_false_iff_not] at this;exact this (by rw[s];exact i)
  show ((decide (1<=(put b a (97+(o+k))).length) && (decide ((put b a (97+(o+k))).length<=8) && allIn (put b a (97+(o+k))))) && !inV (.str (put b a (97+(o+k)))) words)=true;have u:Lets (put b a (97+(o+k))):=λc t=>by
   rcases aUa j t with rfl|z
   ·lia
   ·exact x c z
  rw[aTx j,m8 (p:=1<=b.length+1) (by lia),m8 (p:=b.length+1<=8) (by lia),allIn_of u,f];rfl
 ·refine List.pairwise_map.mpr (List.Pairwise.imp_of_mem ?_ List.nodup_range);intro k l _ _ q e;have:=aTv j e;exact q (by lia)
def aPy:Sp:=λvs H Q _=>∃a:Addr,vs=[.ref a,.int 17]/\gH H a/\∀p H' ns,Fx a H H'->H p=none->H' p=some (.lst (ns.map V.str))->jZ ns->Q (.ref p) H'
def aA8 (T:Txt w K mg)(aK:Ok P w K mg base 1 "_law_next" n6 fK)(a7:Ok P w K mg base 1 "_law_words" [] aDb):Ok P w K mg base 2 "_law_names" n6 aPy:=by
 refine Ok.ofV T.aEf pP (by trivial) (λf a9 A a2 s H vs Q E hr h=>?_)
 obtain⟨a,rfl,O,q⟩:=h;have nd:=pP.nd;refine⟨_,(aC (bJ 2 aQ) (aC (bJ 3 (bI aK (aG (vv 0) (va1 (bK aK3 aB (vv 1)))))) (aC (bJ 4 aQ) (aC (eO PassesOwn.never rfl (cZ (by rfl) T.eE (va1 (bI aK (aG (vv 0) (va1 aB))))) (cL 5) (aF (bJ 4 (bK lQ (vv 4) (nY (vv 2) (bI aK (aG (vv 0) (va1 aB))) (λ_ _=>rfl)))))) (aC (bJ 6 (bI aK (aG (vv 0) (va1 (bK dO (aO sV (by rfl) T.fQ dI (va1 (vv 4))) aB))))) (aC (bJ 7 (aX fC)) (aC (eO PassesOwn.never rfl (cZ (by rfl) T.eE (va1 (vv 1))) (cL 5) (aF (dR (vN PySem.F.plainAttrs_list PySem.F.slot_list_append PySem.F.type_list_append fX (vv 7) (va1 (bK lQ (bK lQ (kE aE9 (vv 4) rN (lM (vv 6))) (nY (vv 2) (bK dO (vv 3) (vv 5)) (λ_ _=>rfl))) (kE aE9 (vv 4) (lM (vv 6)) rN))))))) (aC (cF (cJ (aO (aQn rfl) (by rfl) T.bBq aZr (va1 (dF (N:=["_law_word","_law_names_here"]) ck (jP (aD mC)) rfl (oO (aYo (a7.mono (by decide)) hr (by rfl))) (λcl s' u fp=>⟨(jB 0),dX,(oZ (aKe (K:=K)) (vv 0) (vv 1) (by with_unfolding_all rfl))⟩))))) (aF (bJ 7 (bW (aLa rfl) (by rfl) T.zX tG (va1 (kE aE9 (vv 2) (lM (vv 3)) (lM (bK dO (vv 3) (vv 1)))))))) bB) (aC (cF (eY cV (bI aK (aG (vv 0) (va1 aB))) aB) (aF (dR (aXl PySem.F.plainAttrs_list PySem.F.slot_list_reverse PySem.F.type_list_reverse aG6 (vv 7)))) bB) (aF (aP (vv 7)))))))))))),?_⟩;have I:abc.length=26:=by trivial
 refine⟨_,rfl,_,rfl,_,_,rfl,rfl,a,10,rfl,O,by decide,λod H1 f1 o0 o1=>?_⟩;obtain⟨o,rfl⟩:∃o:Nat,od=o:=⟨od.toNat,by lia⟩;have X:o<10:=by lia
 refine⟨_,rfl,a,8,rfl,f1.st,by decide,λn H2 f2 n0 n1=>?_⟩;refine⟨_,rfl,by lia,by lia,dH (n:=n.toNat) (λi σ u=>Fx a H u/\∃(x:Str) (l5:Option V),σ=[some (.ref a),some (.int 17),some (.str abc),some (.int (o:Nat)),some (.str x),l5,none,none]/\x.length<=i/\Lets x) ⟨f1.trans f2,_,_,rfl,by trivial,λd hd=>by simp[show (("":Str).cps)=#[] from rfl] at hd⟩ ?_ ?_⟩
 ·rintro i σ u S ⟨fx,x,l5,rfl,hl,hx⟩;refine⟨_,rfl,_,rfl,_,rfl,a,26,rfl,fx.st,by decide,λd H3 Y d0 U=>?_⟩;obtain⟨ch,t⟩:=aMb (z:=abc) d0 (by rw[I];exact U);refine⟨_,_,_,rfl,rfl,d0,(by lia),(by rw[I];exact U),t,_,_,rfl,rfl,?_,fx.trans Y,_,_,rfl,?_,hx.add (aH7.one t)⟩
  ·show x.length+1<=sizeLine;exact small (by lia)
  ·rw[aD8];show x.length+1<=i+1;lia
 rintro σ H3 ⟨Y,b,l5,rfl,hl,hb⟩;have a4:b.length<=7:=by lia
 refine⟨_,rfl,_,rfl,_,rfl,small (by lia),_,_,rfl,rfl,a,_,rfl,Y.st,(by show (0:Int)<(b.length:Int)+1/\(b.length:Int)+1<2 ^ 64;lia),λai H4 f4 a0 a1=>?_⟩;obtain⟨g,rfl⟩:∃g:Nat,ai=g:=⟨ai.toNat,by lia⟩;have ha:g<=b.length:=by have:(g:Int)<(b.length:Int)+1:=a1;lia
 have G:=Y.trans f4;refine⟨(by show 0<=sizeLine;decide),λp H5 fp s5 g5=>?_⟩;have k:H p=none:=G.free fp;have v:p≠a:=O.ne k;refine⟨_,rfl,_,rfl,by decide,by decide,dH (n:=17) (λi σ u=>Fx a H u/\u p=some (.lst ((stm b g o i).map V.str))/\∃l5,σ=[some (.ref a),some (.int 17),some (.str abc),some (.int (o:Nat)),some (.str b),l5,some (.int (g:Nat)),some (.ref p)]) ⟨G.sm s5,g5,_,rfl⟩ ?_ ?_⟩
 ·rintro i σ u S ⟨fx,gp,l5,rfl⟩;have s1:=Txt.slice_le b none (some ((g:Nat):Int));have s2:=Txt.slice_le b (some ((g:Nat):Int)) none;have ej:((o:Int)+(0+(i:Int))).toNat=o+i:=by lia
  have t:abc.cps[((o:Int)+(0+(i:Int))).toNat]?=some (97+(o+i)):=by rw[ej];exact aT0 (by lia)
  refine⟨_,rfl,.inl ⟨rfl,_,SqL.of gp⟩,_,rfl,_,rfl,_,rfl,_,rfl,small (by lia),_,rfl,_,rfl,_,rfl,_,_,rfl,rfl,_,_,_,rfl,rfl,(by show 0<=(o:Int)+(0+(i:Int));lia),(by show (o:Int)+(0+(i:Int))<2 ^ 63;lia),(by rw[I];show (o:Int)+(0+(i:Int))<26;lia),t,_,_,rfl,rfl,?_,_,rfl,_,rfl,_,rfl,_,rfl,small (by lia),_,_,rfl,rfl,?_,?_⟩
  ·show (Txt.slice b none (some ((g:Nat):Int))).length+1<=sizeLine;exact small (by lia)
  ·rw[aD8];show (Txt.slice b none (some ((g:Nat):Int))).length+1+_<=sizeLine;exact small (by lia)
  refine⟨p,_,_,rfl,rfl,gp,?_,fx.upd k v,?_,_,rfl⟩
  ·rw[j0];exact oM (by simp[stm];lia)
  ·rw[aH];unfold stm;rw[List.range_succ,bBU,bBU];rfl
 rintro σ H6 ⟨f6,g6,l5',rfl⟩;dsimp only[aAg,aVu,tB,tCB,cO];refine aOj (K:=K) (λZ=>Z=words) (λi _ y=>∃m,words[i]?=some m/\y=.bl (inV m ((stm b g o 17).map V.str))) (λ_ h=>h) (λ_ h=>h) [none,some (.ref p)] ?_ rfl (λR r=>⟨rfl,λW H7 _ s7 M=>r W H7 _ s7 M rfl⟩) (λZ e=>by subst e;exact small (by decide)) (λZ e i x ex u R l sm r=>?_) λZ e D H7 ys s7 M a8 hR=>?_
 ·exact oU 7 (by trivial) rfl rfl (by trivial)
 ·subst e;have fl:iH x=true:=by have:=aAt;rw[bCM] at this;exact this x (bAA ex)
  exact⟨_,rfl,_,rfl,p,_,rfl,.inl (SqL.of (sm _ _ g6)),fl,yE,r _ _ (Same.refl _) ⟨x,ex,rfl⟩⟩
 subst e;have ey:ys=(words.map λm=>inV m ((stm b g o 17).map V.str)).map V.bl:=by
  rw[bBV];refine bCT λi=>?_;by_cases S:i<ys.length
  ·obtain⟨m,h1,h2⟩:=hR i ys[i] (b8 S);rw[b8 S,m5,h1,h2];rfl
  ·rw[bAO (by lia),bAO (by rw[j0];lia)]
 rw[ey] at M;refine⟨D,_,rfl,SqL.of M,_,rfl,?_⟩;have L:=f6.sm s7;refine aHi (λc=>?_) (λc=>?_)
 ·refine⟨_,rfl,_,rfl,_,rfl,_,rfl,_,rfl,_,_,rfl,rfl,_,rfl,abc,rfl,small (by rw[I];decide),?_⟩;refine⟨_,rfl,?_,λJ H8 a6 s8 g8=>?_⟩
  ·have:=Txt.slice_le abc (some (o:Int)) (some ((o:Int)+17));rw[I] at this;exact bAJ this (by decide)
  have a3:H8 J=some (.lst ((sgl o).map V.str)):=by rw[g8];exact congrArg (λz=>some (HO.lst z)) (aUn X)
  have f8:=L.sm s8;have j:H J=none:=L.free a6;refine⟨_,rfl,a,2,rfl,f8.st,by decide,λd H9 B d0 U=>?_⟩;have C:=B.same _ _ (O.ne j) a3;refine⟨rfl,_,rfl,aHi (λ_=>?_) (λ_=>?_)⟩
  ·refine⟨_,rfl,.inl ⟨rfl,_,SqL.of C⟩,J,_,rfl,rfl,C,?_⟩;refine⟨_,rfl,q J _ (sgl o).reverse ((f8.trans B).upd j (O.ne j)) j ?_ (aQ1 X).rev⟩;rw[aH,List.map_reverse]
  ·exact⟨_,rfl,q J _ (sgl o) (f8.trans B) j C (aQ1 X)⟩
 ·have hw:∀m∈words,inV m ((stm b g o 17).map V.str)=false:=λm a5=>by
   cases e:inV m ((stm b g o 17).map V.str) with
   |false=>rfl
   |true=>exfalso;apply c;rw[bDV];exact⟨true,List.mem_map.mpr ⟨m,a5,e⟩,rfl⟩
  have hn:=aXv hb a4 ha X hw;refine⟨_,rfl,a,2,rfl,L.st,by decide,λd H9 B d0 U=>?_⟩;have C:=B.same _ _ v (s7 _ _ g6);refine⟨rfl,_,rfl,aHi (λ_=>?_) (λ_=>?_)⟩
  ·refine⟨_,rfl,.inl ⟨rfl,_,SqL.of C⟩,p,_,rfl,rfl,C,?_⟩;refine⟨_,rfl,q p _ (stm b g o 17).reverse ((L.trans B).upd k v) k ?_ hn.rev⟩;rw[aH,List.map_reverse]
  ·exact⟨_,rfl,q p _ (stm b g o 17) (L.trans B) k C hn⟩
inductive aHw (K:bE4)(vs:List V)(H:Hp)(Q:VK)(E_:XK):Prop
 |mk (a N:Addr) (ns:List Str) (_:vs=[.ref a,.ref N]) (_:gH H a) (_:H N=some (.lst (ns.map V.str))) (_:N≠a) (_:jZ ns) (_:∀v H' hd,Fx a H H'->gY K H' v hd->aGl hd->hd.length<=7->Q v H')
def aRv {α:Type}{l:List α}(h:l.Nodup){i j:Nat}{x:α}(g:l[i]?=some x)(f:l[j]?=some x):i=j:=by
 have d:=List.pairwise_iff_getElem.mp h;obtain⟨e,a⟩:=List.getElem?_eq_some_iff.mp g;obtain⟨b,c⟩:=List.getElem?_eq_some_iff.mp f;rcases Nat.lt_trichotomy i j with q|q|q
 ·exact absurd (a.trans c.symm) (d i j e b q)
 ·exact q
 ·exact absurd (c.trans a.symm) (d j i b e q)
def bAw {α:Type}{l:List α}(h:∀(i j:Nat) (x:α),l[i]?=some x->l[j]?=some x->i=j):l.Nodup:=by refine List.pairwise_iff_getElem.mpr λi j c a b e=>?_;have:=h i j l[i] (b8 c) (by rw[b8 a,e]);lia
def aPw {n:List Str}(m:jZ n){st:Nat}{hd:Hdr}(hl:hd.length<=8)(h:∀(j:Nat) (c:Str × Str),hd[j]?=some c->n[3+(st+j) % 8]?=some c.1):(hd.map (·.1)).Nodup:=by
 refine bAw λi j x b f=>?_;have g:∀k,(hd.map (·.1))[k]?=some x->k<hd.length/\n[3+(st+k) % 8]?=some x:=λk a=>by
  rw[m5] at a;cases e:hd[k]? with
  |none=>rw[e] at a;cases a
  |some c=>rw[e] at a;cases a;exact⟨(List.getElem?_eq_some_iff.mp e).1,h k c e⟩
 obtain⟨o,l⟩:=g i b;obtain⟨p,d⟩:=g j f;have:=aRv m.2.2 l d;lia
def aE5 (T:Txt w K mg)(aK:Ok P w K mg base 1 "_law_next" n6 fK):Ok P w K mg base 2 "_law_head" bQF (aHw K):=by
 refine Ok.ofV T.aHn tU (by trivial) (λf a4 A L s H vs Q E hr h=>?_)
 obtain⟨a,N,x,rfl,hs,hN,nN,hn,q⟩:=h;have nd:=tU.nd;refine⟨_,(aC (bJ 2 (bI aK (aG (vv 0) (va1 aB)))) (aC (bJ 3 (aX fC)) (aC (eO PassesOwn.never rfl (cZ (by rfl) T.eE (va1 (bK dO aB (bK vB (bI aK (aG (vv 0) (va1 aB))) (bK dO aB (bW iJ (by rfl) T.yL qM (va1 (lH cV (bI aK (aG (vv 0) (va1 aB))) aB)))))))) (cL 4) (aC (bJ 5 (bO bN (aX (aG aQ (aG aQ (va1 aQ)))) (bI aK (aG (vv 0) (va1 aB))))) (aF (dR (vN PySem.F.plainAttrs_list PySem.F.slot_list_append PySem.F.type_list_append fX (vv 3) (va1 (aM (aG (bO bN (vv 1) (bK dO aB (bK nJ (bK dO (vv 2) (vv 4)) aB))) (va1 (vv 5)))))))))) (aF (aP (bW gJ (by rfl) T.eF dG (va1 (vv 3)))))))),?_⟩;have a5:=hn.1;refine⟨_,rfl,a,8,rfl,hs,by decide,λu H1 f1 a2 a3=>?_⟩;obtain⟨b,rfl⟩:∃b:Nat,u=b:=⟨u.toNat,by lia⟩;refine⟨(by show 0<=sizeLine;decide),λp H2 fp s2 g2=>?_⟩;have f2:=f1.sm s2;have v:H p=none:=f1.free fp;have g:p≠a:=hs.ne v;refine⟨_,rfl,a,4,rfl,f2.st,by decide,λm H3 f3 m0 m1=>?_⟩;refine⟨_,rfl,a,8,rfl,f3.st,by decide,λe H4 f4 e0 e1=>?_⟩;have a1:=f2.trans (f3.trans f4);have g4:=f4.same _ _ g (f3.same _ _ g g2);refine⟨rfl,.inr ⟨_,rfl,?_⟩⟩;have Z:∃z:Nat,1+m * (1+(if decide (V.int e=V.int 0) then 1 else 0))=(z:Int)/\1<=z/\z<=7:=by
  cases decide (V.int e=V.int 0)
  ·exact⟨(1+m).toNat,by simp;lia,by lia,by lia⟩
  ·exact⟨(1+m * 2).toNat,by simp;lia,by lia,by lia⟩
 obtain⟨z,ez,z1,z7⟩:=Z;refine⟨_,_,rfl,rfl,_,_,rfl,rfl,.inl ⟨by lia,by lia⟩,_,_,rfl,rfl,?_⟩;refine⟨(z:Int),?_,by lia,by lia,?_⟩
 ·show [V.int (1+m * (1+(if decide (V.int e=V.int 0) then 1 else 0)))]=_;rw[ez]
 rw[bAN];refine dH (n:=z) (λi σ y=>Fx a H y/\∃(us:List V) (hd:Hdr) (l4 l5:Option V),y p=some (.lst us)/\hd.length=i/\cP (IsC K y) us hd/\(∀(j:Nat) (c:Str × Str),hd[j]?=some c->x[3+(b+j) % 8]?=some c.1/\wQ c.2)/\σ=[some (.ref a),some (.ref N),some (.int (b:Nat)),some (.ref p),l4,l5]) ⟨a1,[],[],_,_,g4,rfl,.nil,λj c h=>by simp at h,rfl⟩ ?_ ?_
 ·rintro i σ y hi ⟨fx,us,hd,l4,l5,gp,hl,hu,hc,rfl⟩;have lu:=hu.len;refine⟨(by show 3<=sizeLine;decide),λp1 H5 Y l U=>?_⟩;refine⟨_,rfl,a,3,rfl,fx.st.same l,by decide,λd H6 C d0 d1=>?_⟩;obtain⟨kv,a0,B⟩:=at_of (xs:=[.str "number",.str "number",.str "word"]) d0 (by show d<3;lia);obtain⟨G,rfl,J⟩:∃G:Str,kv=.str G/\wQ G:=by
   simp only[bAE,v8,or_false] at B;rcases B with rfl|rfl|rfl
   ·exact⟨_,rfl,.inl rfl⟩
   ·exact⟨_,rfl,.inl rfl⟩
   ·exact⟨_,rfl,.inr rfl⟩
  have r:=(fx.sm l).trans C;refine⟨p1,_,_,_,rfl,rfl,SqL.of (C.same _ _ (fx.st.ne Y) U),a0,?_⟩;have k:=C.same _ _ g (l _ _ gp);have S:=r.same _ _ nN hN;have O:cP (IsC K H6) us hd:=hu.imp λ_ _ ⟨p',R,W⟩=>⟨p',R,C.bA (fx.st.same l) (l.bA W)⟩;have o:3+(b+i) % 8<x.length:=by lia
  refine⟨_,rfl,.inl ⟨rfl,_,SqL.of k⟩,?_⟩;refine⟨_,rfl,_,rfl,_,rfl,_,_,rfl,rfl,_,_,rfl,rfl,(by show (0:Int)<8;decide),_,_,rfl,rfl,N,_,_,.str x[3+(b+i) % 8],rfl,rfl,SqL.of S,?_,_,rfl,(by show 2<=sizeLine;decide),λt H7 ft D g7=>?_⟩
  ·have e8:(3:Int)+((b:Int)+(0+(i:Int))) % 8=((3+(b+i) % 8:Nat):Int):=by lia
   show atI (x.map V.str) ((3:Int)+((b:Int)+(0+(i:Int))) % 8)=_;rw[e8];exact bV (by rw[m5,b8 o];rfl)
  refine⟨p,_,_,rfl,rfl,D _ _ k,oM (by lia),?_⟩;have M:t≠p:=(aV k ft).symm;refine⟨(r.sm D).upd v g,us++[.ref t],hd++[(x[3+(b+i) % 8],G)],_,_,aH,by rw[bAD,hl];rfl,?_,λj c h=>?_,rfl⟩
  ·refine (O.imp λ_ _ ⟨p',R,W⟩=>⟨p',R,(D.bA W).qG (D _ _ k)⟩).app (.cons ⟨t,rfl,SqT.of (by rw[aJ M];exact g7)⟩ .nil)
  ·by_cases hj:j<hd.length
   ·rw[bCI hj] at h;exact hc j c h
   ·rw[bCE (by lia)] at h;have I:j - hd.length=0:=by
     by_cases z0:j - hd.length=0
     ·exact z0
     ·rw[bAO (by simp;lia)] at h;cases h
    rw[I] at h;cases h;have:j=i:=by lia
    subst this;exact⟨b8 o,J⟩
 ·rintro σ y ⟨fx,us,hd,l4,l5,gp,hl,hu,hc,rfl⟩;refine⟨_,rfl,p,us,rfl,SqL.of gp,λt H5 _ l U=>q _ _ hd (fx.sm l) ⟨t,us,rfl,SqT.of U,hu.imp λ_ _ h=>h.same l⟩ ⟨⟨aPw hn (by lia) λj c h=>(hc j c h).1,by lia,by lia⟩,λc X=>?_⟩ (by lia)⟩;obtain⟨j,hj,e⟩:=bCV X;have h2:=hc j c (by rw[b8 hj,e]);exact⟨hn.2.1 _ (bAA h2.1),h2.2⟩
def TK (K:bE4)(H H':Hp):Prop:=∀p xs,SqT K H p xs->SqT K H' p xs
def _root_.L2.Fx.tk {K:bE4}{a:Addr}{H H':Hp}(f:Fx a H H')(h:gH H a):TK K H H':=λ_ _ e=>f.bA h e
def IsC.tk {K:bE4}{H H':Hp}{v:V}{c:Str × Str}(e:TK K H H')(h:IsC K H v c):IsC K H' v c:=by obtain⟨p,rfl,a⟩:=h;exact⟨p,rfl,e _ _ a⟩
def aLl {α:Type}{K:bE4}{H H':Hp}{R S:V->α->Prop}{v:V}{xs:List α}(e:TK K H H')(k:∀a b,R a b->S a b)(h:wR K H R v xs):wR K H' S v xs:=by obtain⟨a,f,rfl,c,d⟩:=h;exact⟨a,f,rfl,e _ _ c,d.imp k⟩
def gY.tk {K:bE4}{H H':Hp}{v:V}{hd:Hdr}(e:TK K H H')(h:gY K H v hd):gY K H' v hd:=aLl e (λ_ _ q=>q.tk e) h
def aSf {hd:Hdr}(a:(hd.map (·.1)).Nodup){c:Str × Str}(h:c∈hd):look hd c.1=some c.2:=by
 induction hd with
 |nil=>cases h
 |cons x r ih=>
  rw[bAC,bDL] at a;unfold look;rw[bCB];rcases List.mem_cons.mp h with rfl|h
  ·rw[m8 rfl];rfl
  ·have b:¬ x.1=c.1:=λz=>a.1 (by rw[z];exact List.mem_map.mpr ⟨c,h,rfl⟩);rw[m9 b];exact ih a.2 h
theorem zP {α β:Type}{R:α->β->Prop}:∀{as:List α} {bs:List β},as.length=bs.length->(∀(i:Nat) (a:α) (b:β),as[i]?=some a->bs[i]?=some b->R a b)->cP R as bs
 |[],[],_,_=>.nil
 |[],_::_,h,_=>by cases h
 |_::_,[],h,_=>by cases h
 |a::as,b::bs,h,k=>.cons (k 0 a b rfl rfl) (zP (by simpa using h) λi x y d c=>k (i+1) x y (by simpa using d) (by simpa using c))
theorem kZ {α:Type}:∀(k:Nat) (xs:List α),sel (λ_=>true) k xs=xs
 |_,[]=>rfl
 |k,x::r=>by show (if true=true then x::sel (λ_=>true) (k+1) r else _)=_;rw[if_pos rfl,kZ (k+1) r]
def iT {R:Nat->V->Prop}{n:Nat}{ys:List V}(h:lX R (List.range n) ys):ys.length=n/\∀(i:Nat) (y:V),ys[i]?=some y->R i y:=by
 have d:∀{c:List Nat} {ys:List V},lX R c ys->∀(i:Nat) (y:V),ys[i]?=some y->∃j,c[i]?=some j/\R j y:=by
  intro c ys h
  induction h with
  |nil=>intro i y e;simp at e
  |cons r _ ih=>
   intro i y e;cases i with
   |zero=>cases e;exact⟨_,rfl,r⟩
   |succ i=>obtain⟨j,a,b⟩:=ih i y (by simpa using e);exact⟨j,by simpa using a,b⟩
 have l:=h.len;rw[bAL] at l;refine⟨l.symm,λi y e=>?_⟩;obtain⟨j,a,b⟩:=d h i y e;have f:i<n:=by have:=(List.getElem?_eq_some_iff.mp e).1;lia
 rw[bC5 f] at a;cases a;exact b
def bBv {ks:List Bool}{r:List V}(h:KdR ks r):∀x∈r,(∃i,x=.int i)\/∃z,x=.str z:=by
 unfold KdR at h
 induction h with
 |nil=>intro x hx;cases hx
 |@cons b y _ _ h _ ih=>
  intro x hx;rcases List.mem_cons.mp hx with rfl|hx
  ·cases b with
   |true=>exact .inl h
   |false=>exact .inr h
  ·exact ih x hx
inductive aLy (K:bE4)(vs:List V)(H:Hp)(Q:VK)(E_:XK):Prop
 |mk (a:Addr) (vh:V) (hd:Hdr) (_:vs=[.ref a,vh]) (_:gH H a) (_:gY K H vh hd) (_:aGl hd) (_:∀t H' r,Fx a H H'->H' t=some (.tup r)->yK hd r->Q (.ref t) H')
def aIt (T:Txt w K mg)(lG:Ok P w K mg base 3 "_law_value" bQE aE7):Ok P w K mg base 4 "_law_row" bQB (aLy K):=by
 refine Ok.ofV T.aLc aIb (by trivial) (λf a0 A p s H vs Q E hr h=>?_)
 obtain⟨a,vh,O,rfl,o,⟨b,us,rfl,G,M⟩,⟨B,F⟩,q⟩:=h;refine⟨_,(aF (aP (bW gJ (by rfl) T.eF dG (va1 (dF (N:=["_law_name","_law_kind","_law_state"]) ck (jP (aD qW)) rfl (oH (vv 1)) (λcl s' l fp=>⟨(oR (K:=K) (n:=2) rfl (aZ (jB 0) (aZ (jB 1) dC))),dX,(bI lG (aG (vv 2) (va1 (vv 1))))⟩)))))),?_⟩;have lu:=M.len;have l8:=B.2.2;dsimp only[uH,tCB,cO];refine nF [none,none,some (.ref a)] ?_ ⟨_,rfl,b,rfl,⟨_,G⟩,aB1 (Fx a) (aPs o) us (λ_=>true) (λi _ y=>∃c,O[i]?=some c/\cU c.2 y) (λ_ _ h=>h) (λ_ _ _ h=>h) (λi σ=>∃c,O[i]?=some c/\At2 [none,none,some (.ref a)] (.str c.1) (.str c.2) σ) (Ps2 [none,none,some (.ref a)]) ⟨none,none,rfl⟩ (small (by lia)) _ (uM λl g=>g.bA o G) (kW λl g=>g.bA o G) (λi x σ' l Q' z J g qq=>?_) (λi x u z S l R g r=>r l (Fx.refl g.st)) (λi x u z S hp l R g r=>?_) λD H6 X Z fD V m=>?_⟩
 ·refine⟨rfl,λi y v j e=>?_⟩
  match i,j,e with
  |0,_,e=>cases e
  |1,_,e=>cases e
  |2,j,e=>cases j;cases e;exact⟨by trivial,0,rfl,rfl,by trivial⟩
  |i+3,j,_=>cases j
 ·obtain⟨c,d,p',rfl,C⟩:=cW M z;exact hg2 (g.bA o C) J fun u j e=>qq u j ⟨c,d,e⟩
 ·obtain⟨c,d,rfl⟩:=S;exact⟨_,rfl,_,rfl,a,c.2,rfl,g.st,(F c (bAA d)).2,λv H2 f2 I=>r v H2 f2 ⟨c,d,I⟩⟩
 ·rw[kZ] at m;obtain⟨l1,Y⟩:=iT m;refine⟨D,_,rfl,SqL.of V,λt H3 _ U g3=>q t H3 X (Z.sm U) g3 (zP (by lia) λi k y L W=>?_)⟩;obtain⟨c,d,I⟩:=Y i y W;rw[d] at L;cases L;exact I
end
end My
namespace PySem
section
variable {prog:Program}{w:World}{A:Around}{E:bE5}{s:Shared}
theorem qO {α:Type}:∀(l:List α) (i:Nat) (h:i<l.length),(l[i]::l.eraseIdx i).Perm l
 |x::l,0,_=>.refl _
 |x::l,i+1,h=>by have a:=qO l i (Nat.lt_of_succ_lt_succ h);exact (List.Perm.swap x _ (l.eraseIdx i)).trans (a.cons x)
def aFj {src:Source}{n:Nat}{Q:Nat->Shared->Prop}(a:n≠0)(h:∀i dr,i<n->Q i { s with drawn:=dr }):wpAny (model prog w) A (choose src n) Q E s:=
 λ_ _ _=>⟨a,h _ _ (Nat.mod_lt _ (Nat.pos_of_ne_zero a))⟩
theorem mJ {α:Type}:∀(n:Nat) (xs:List α) (s:Shared) (Q:List α->Shared->Prop),xs.length=n->(∀ys dr,ys.Perm xs->Q ys { s with drawn:=dr })->wpAny (model prog w) A (drawOrder n xs) Q E s
 |0,xs,s,Q,hl,h=>by have e:xs=[]:=bCR hl;subst e;unfold drawOrder;exact d8 (h [] s.drawn (.refl _))
 |n+1,xs,s,Q,hl,h=>by
  cases xs with
  |nil=>cases hl
  |cons x xs=>unfold drawOrder;refine b7 (aFj (by rw[hl];lia) λi dr b=>?_);rw[b8 b];dsimp only;refine b7 (mJ n _ _ _ (by rw[bEV b,hl];rfl) λys a p=>d8 ?_);refine h _ a ?_;have e:=qO _ _ b;exact (p.cons _).trans e
theorem aL7 {α:Type}(b:Nat->Nat):∀(fuel k:Nat) (left:List α) (out:Array α),left.length=fuel->(pickOrder.go b fuel k left out).toList.Perm (out.toList++left)
 |0,k,left,out,h=>by have e:left=[]:=bCR h;subst e;unfold pickOrder.go;rw[bBB]
 |fuel+1,k,left,out,h=>by have a:b k % left.length<left.length:=Nat.mod_lt _ (by lia);unfold pickOrder.go;rw[b8 a];dsimp only;refine (aL7 b fuel (k+1) _ _ (by rw[bEV a,h];rfl)).trans ?_;rw[bE2,bDO];exact List.Perm.append_left _ (qO _ _ a)
def uN {α:Type}(a:Nat->Nat)(xs:Array α):(pickOrder a xs).toList.Perm xs.toList:=by unfold pickOrder;exact aL7 a xs.size 0 xs.toList #[] (by rw[v9])
end
def bQ:Slot "set_iterator" "__next__" "set_iterator.__next__":=.of (owner:="set_iterator") (n:="__next__") (by rw[typeLookup_type,builtinLookup_eq_fast];kernel_rfl) (by trivial) (by trivial) (by trivial) (by first|exact .inl (by trivial)|exact .inr (by trivial)) (by rw[isSubtype_type];kernel_rfl)
def nZ:Slot "set_iterator" "__iter__" "set_iterator.__iter__":=.of (owner:="set_iterator") (n:="__iter__") (by rw[typeLookup_type,builtinLookup_eq_fast];kernel_rfl) (by trivial) (by trivial) (by trivial) (by first|exact .inl (by trivial)|exact .inr (by trivial)) (by rw[isSubtype_type];kernel_rfl)
def dZ:entryFor table "set_iterator.__next__"=some Builtin.«set_iterator.__next__»:=entryFor_of_tree (by kernel_rfl)
def wN:entryFor table "set_iterator.__iter__"=some Builtin.«dict_keyiterator.__iter__»:=entryFor_alias (id':="dict_keyiterator.__iter__") (by kernel_rfl) rfl (by trivial) (by kernel_rfl)
def zZ:entryFor table "set.__iter__"=some Builtin.«frozenset.__iter__»:=entryFor_alias (id':="frozenset.__iter__") (by kernel_rfl) rfl (by trivial) (by kernel_rfl)
def zF:Manifest.owners.lookup (String.ofList ['r','o','t','a','r','e','t','i','_','t','e','s'].reverse)=some Manifest.sig_set_iterator:=by kernel_rfl
def fH (a:Value):argsOk "set_iterator.__next__" ⟨[a],[]⟩:=by unfold argsOk;rw[signature?_of (id:="set_iterator.__next__") (n:=['_','_','t','x','e','n','_','_']) (o:=['r','o','t','a','r','e','t','i','_','t','e','s']) (by kernel_rfl) zF];kernel_rfl
def aAz (a:Value):argsOk "set_iterator.__iter__" ⟨[a],[]⟩:=by unfold argsOk;rw[signature?_of (id:="set_iterator.__iter__") (n:=['_','_','r','e','t','i','_','_']) (o:=['r','o','t','a','r','e','t','i','_','t','e','s']) (by kernel_rfl) zF];kernel_rfl
section
variable {prog:Program}{w:World}{A:Around}{E:bE5}{s:Shared}
def dM (h:Heap)(I:Addr)(first:Value)(i:Nat)(D:Addr)(n ep:Nat):Prop:=h.get? I=some { cls:=.type "set_iterator",data:=.fields #[first,.int i 0,.ref D,.int n 0,.int ep 0] }
def rA (h:Heap)(D:Addr)(es:Array (Int × Value))(ep:Nat)(t:SetTable):Prop:=∃o,h.get? D=some o/\o.ExactSet/\o.data=.set es ep t/\t.fits es.size=true
def aE3 (prog:Program)(w:World)(D:Addr)(es:Array (Int × Value))(ep:Nat)(t:SetTable)(slot i:Nat)(r:Option (Value × Nat)):Prop:=
 ∀(A:Around) (E:bE5) (s:Shared) (Q:Option (Value × Nat)->Shared->Prop),rA s.heap D es ep t->Q r s->wpAny (model prog w) A (setNext D slot i ep) Q E s
def aCd {I D:Addr}{es:Array (Int × Value)}{ep slot i a:Nat}{t:SetTable}{x:Value}{Q:Option Value->Shared->Prop}(f:dM s.heap I (.int slot 0) i D es.size ep)(p:rA s.heap D es ep t)(hne:D≠I)
  (nx:aE3 prog w D es ep t slot i (some (x,a)))
  (q:∀h',dM h' I (.int a 0) (i+1) D es.size ep->(∀b o,b≠I->s.heap.get? b=some o->h'.get? b=some o)->Q (some x) { s with heap:=h' }):wpAny (model prog w) A (pyNext (.ref I)) Q E s:=by
 have g:s.TypeIs (.ref I) "set_iterator":=⟨_,f,rfl⟩;obtain⟨o,j,B,r,v⟩:=id p;unfold pyNext;refine b7 (bBZ (bAI (name:="__next__") g bQ (bAH bQ g dZ (b7 (d8 (b7 (bDT f rfl ?_)))) (fH _))));show wpAny _ _ (setEntries D >>= _) _ _ s;refine b7 (bC9 j r v ?_);dsimp only;rw[if_neg (by simp)];simp only[bAN];refine b7 (nx _ _ _ _ p ?_);dsimp only;refine b7 (bAR f (by simp) λy k m=>?_);have h:dM y I (.int a 0) i D es.size ep:=by simpa [rawInt,dM] using k
 refine b7 (bAR h (by simp) λc l u=>?_);have n:dM c I (.int a 0) (i+1) D es.size ep:=by
  have z:((i+1:Nat):Int)=(i:Int)+1:=by lia
  unfold dM;rw[z];simpa [rawInt] using l
 exact d8 ⟨_,rfl,d8 (q c n λb o d e=>u.extBut b o d (m.extBut b o d e))⟩
def aCa {I D:Addr}{es:Array (Int × Value)}{ep slot i:Nat}{t:SetTable}{Q:Option Value->Shared->Prop}(k:A.handled=none)(c:dM s.heap I (.int slot 0) i D es.size ep)(j:rA s.heap D es ep t)
  (nx:aE3 prog w D es ep t slot i none) (q:∀h',(∀b o,b≠I->s.heap.get? b=some o->h'.get? b=some o)->Q none { s with heap:=h' }):wpAny (model prog w) A (pyNext (.ref I)) Q E s:=by
 have d:s.TypeIs (.ref I) "set_iterator":=⟨_,c,rfl⟩;obtain⟨o,h,g,e,f⟩:=id j;unfold pyNext;refine b7 (bBZ (bAI (name:="__next__") d bQ (bAH bQ d dZ (b7 (d8 (b7 (bDT c rfl ?_)))) (fH _))));show wpAny _ _ (setEntries D >>= _) _ _ s;refine b7 (bC9 h e f ?_);dsimp only;rw[if_neg (by simp)];simp only[bAN];refine b7 (nx _ _ _ _ j ?_);dsimp only;refine b7 (bBY c rfl (by simp) ?_);refine b7 ?_;simp only[newExc,newTuple,raiseNew];refine b7 (bAF ?_ (by size_fits));refine b7 (m:=firstArgMember _ _) (bEH (a:=Value.none) (by simp only[firstArgMember];rfl) ?_);refine bAF (b7 (bEE ?_)) (by size_fits);rw[show A.in1.handled=none from k];refine b7 (d8 (bE0 ?_));refine b7 (bDA (T:="StopIteration") (b:=true) ⟨_,j4 _ rfl,rfl⟩ isSubtype_stop ?_);exact d8 (q _ (((bBQ ..).extBut.push _).push _))
def aLg {I D T:Addr}{es:Array (Int × Value)}{ep i j:Nat}{t:SetTable}{pl:Array Value}{e:Int × Value}{Q:Option Value->Shared->Prop}(d:dM s.heap I (.ref T) i D es.size ep)(u:rA s.heap D es ep t)(x:s.heap.get? T=some { cls:=.type "tuple",data:=.seq pl })
  (r:pl[i]?=some (.int j 0)) (v:es[j]?=some e)
  (q:∀h',dM h' I (.ref T) (i+1) D es.size ep->(∀b o,b≠I->s.heap.get? b=some o->h'.get? b=some o)->Q (some e.2) { s with heap:=h' }):wpAny (model prog w) A (pyNext (.ref I)) Q E s:=by
 have f:s.TypeIs (.ref I) "set_iterator":=⟨_,d,rfl⟩;obtain⟨o,a,p,g,h⟩:=id u;unfold pyNext;refine b7 (bBZ (bAI (name:="__next__") f bQ (bAH bQ f dZ (b7 (d8 (b7 (bDT d rfl ?_)))) (fH _))));show wpAny _ _ (setEntries D >>= _) _ _ s;refine b7 (bC9 a g h ?_);dsimp only;rw[if_neg (by simp)];simp only[bAN];refine b7 (bBM x rfl ?_);dsimp only;rw[r];dsimp only;unfold setNextDrawn;refine b7 (b7 (bC2 a g h ?_));dsimp only;rw[if_neg (by simp)];refine b7 (d8 ?_);simp only[bAN,v];refine d8 (b7 (bAR d (by simp) λc k n=>?_));have l:dM c I (.ref T) (i+1) D es.size ep:=by
  have z:((i+1:Nat):Int)=(i:Int)+1:=by lia
  unfold dM;rw[z];simpa [rawInt] using k
 exact d8 ⟨_,rfl,d8 (q c l λb o m e=>n.extBut b o m e)⟩
def aKj {I D T:Addr}{es:Array (Int × Value)}{ep i:Nat}{t:SetTable}{pl:Array Value}{Q:Option Value->Shared->Prop}(p:A.handled=none)(d:dM s.heap I (.ref T) i D es.size ep)(v:rA s.heap D es ep t)(x:s.heap.get? T=some { cls:=.type "tuple",data:=.seq pl })
  (r:pl[i]?=none) (q:∀h',(∀b o,b≠I->s.heap.get? b=some o->h'.get? b=some o)->Q none { s with heap:=h' }):wpAny (model prog w) A (pyNext (.ref I)) Q E s:=by
 have f:s.TypeIs (.ref I) "set_iterator":=⟨_,d,rfl⟩;obtain⟨o,g,n,j,l⟩:=id v;unfold pyNext;refine b7 (bBZ (bAI (name:="__next__") f bQ (bAH bQ f dZ (b7 (d8 (b7 (bDT d rfl ?_)))) (fH _))));show wpAny _ _ (setEntries D >>= _) _ _ s;refine b7 (bC9 g j l ?_);dsimp only;rw[if_neg (by simp)];simp only[bAN];refine b7 (bBM x rfl ?_);dsimp only;rw[r];dsimp only;refine b7 (bAR d (by simp) λu h k=>?_);refine b7 (bBY h rfl (by simp) ?_);refine b7 ?_;simp only[newExc,newTuple,raiseNew];refine b7 (bAF ?_ (by size_fits));refine b7 (m:=firstArgMember _ _) (bEH (a:=Value.none) (by simp only[firstArgMember];rfl) ?_);refine bAF (b7 (bEE ?_)) (by size_fits);rw[show A.in1.handled=none from p];refine b7 (d8 (bE0 ?_));refine b7 (bDA (T:="StopIteration") (b:=true) ⟨_,j4 _ rfl,rfl⟩ isSubtype_stop ?_);refine d8 (q _ λb o c e=>((((bBQ ..).extBut.push _).push _)) b o c (k.extBut b o c e))
def aCh {D:Addr}{es:Array (Int × Value)}{ep slot i:Nat}{t:SetTable}(h:byT w=true):aE3 prog w D es ep t slot i (((pickOrder (w.params.setOrder D ep) es)[i]?).map λe=>(e.2,slot)):=by intro A E s Q g q;obtain⟨o,d,f,b,c⟩:=g;have a:(⟨(model prog w).prog,(model prog w).w.params⟩:Setting).params.followText "set-order"=true:=h;unfold setNext setsByText setWalk;refine b7 (bC2 d b c ?_);dsimp only;refine b7 (b7 (bDC (d8 ?_)));rw[if_pos a,if_neg (by simp)];refine b7 (b7 (bC2 d b c ?_));dsimp only;unfold setsByText;refine b7 (b7 (bDC (d8 ?_)));rw[if_pos a];exact b7 (bDC (d8 (d8 q)))
def aAm {D:Addr}{es:Array (Int × Value)}{ep slot i:Nat}{t:SetTable}(k:byT w=false)(l:t.led=true)(m:t.plain=true\/es.size<=1) :
  aE3 prog w D es ep t slot i (match es[SetTable.below t.place slot]?,t.place[SetTable.below t.place slot]? with|some (_,x),some j=>some (x,j+1)|_,_=>none):=by
 intro A E s Q g q;obtain⟨o,f,e,c,d⟩:=g;have b:(⟨(model prog w).prog,(model prog w).w.params⟩:Setting).params.followText "set-order"=false:=k;unfold setNext setsByText;refine b7 (bC2 f c d ?_);dsimp only;refine b7 (b7 (bDC (d8 ?_)));rw[if_neg (by rw[b];exact m7)]
 split
 ·rename_i a;have z:(!t.plain && decide (es.size > 1))=true:=a;rw[bAB,decide_eq_true_eq] at z;rcases m with h|h
  ·rw[h] at z;cases z.1
  ·lia
 ·refine b7 (show wpAny _ _ (if (!t.led && !es.isEmpty)=true then unsupported "set:maker-not-led" else pure ()) _ _ _ from ?_);rw[if_neg (by rw[l];exact m7)];exact d8 (d8 q)
def uR {I D:Addr}{first:Value}{n ep i:Nat}{Q:bE5}(b:dM s.heap I first i D n ep)(h:Q (.ref I) s):wpAny (model prog w) A (pyIter (.ref I)) Q E s:=by have a:s.TypeIs (.ref I) "set_iterator":=⟨_,b,rfl⟩;refine bD6 a nZ (bAH nZ a wN ?_ (aAz _));show wpAny _ _ (ret (.ref I)) _ _ s;exact d8 ⟨_,rfl,"set_iterator",_,a,bQ.lookup,h⟩
def rA.at {h h':Heap}{D:Addr}{es:Array (Int × Value)}{ep:Nat}{t:SetTable}(x:rA h D es ep t)(e:∀o,h.get? D=some o->h'.get? D=some o):rA h' D es ep t:=by obtain⟨o,a,r⟩:=x;exact⟨o,e o a,r⟩
def aKz {I D:Addr}{es:Array (Int × Value)}{ep:Nat}{t:SetTable}(c:byT w=true)(q:A.handled=none)(l:D≠I) :
  Walks prog w A I [I,D] [I] es.size (λi v=>((pickOrder (w.params.setOrder D ep) es).toList.map (·.2))[i]?=some v) (λi h=>dM h I (.int (0:Nat) 0) i D es.size ep/\rA h D es ep t) where
 sub:=λb c=>by simp at c;simp[c]
 frame:=λ_ _ _ a m=>⟨m I (by simp) _ a.1,a.2.at λo e=>m D (by simp) o e⟩
 item:=λi s Q E r a g=>by
  have n:(pickOrder (w.params.setOrder D ep) es).size=es.size:=by rw[<-v9,(uN _ es).length_eq,v9]
  have f:i<(pickOrder (w.params.setOrder D ep) es).size:=by lia
  have d:=aCh (prog:=prog) (D:=D) (es:=es) (ep:=ep) (slot:=0) (i:=i) (t:=t) c;rw[v5 f] at d;refine aCd a.1 a.2 l d λk p j=>?_;exact g _ k s.toks (by rw[m5,bBX,v5 f];rfl) ⟨p,a.2.at λo e=>j D o l e⟩ λb o c e=>j b o (λz=>c (by simp[z])) e
 done:=λs Q E a g=>by
  have n:(pickOrder (w.params.setOrder D ep) es).size=es.size:=by rw[<-v9,(uN _ es).length_eq,v9]
  have d:=aCh (prog:=prog) (D:=D) (es:=es) (ep:=ep) (slot:=0) (i:=es.size) (t:=t) c;rw[bBK (by lia)] at d;exact aCa q a.1 a.2 d λk j=>g k s.toks λb o c e=>j b o (λz=>c (by simp[z])) e
 self:=λ_ _ _ _ a g=>uR a.1 g
def aG1 {I D:Addr}{es:Array (Int × Value)}{ep:Nat}{t:SetTable}(a:byT w=false)(x:t.led=true)(G:t.plain=true\/es.size<=1)(y:Ris t.place)(hsz:t.place.size=es.size)(H:A.handled=none)(q:D≠I) :
  Walks prog w A I [I,D] [I] es.size (λi v=>(es.toList.map (·.2))[i]?=some v) (λi h=>∃slot,dM h I (.int (slot:Nat) 0) i D es.size ep/\rA h D es ep t/\SetTable.below t.place slot=i) where
 sub:=λb a=>by simp at a;simp[a]
 frame:=λ_ _ _ ⟨m,d,f,g⟩ k=>⟨m,k I (by simp) _ d,f.at λo e=>k D (by simp) o e,g⟩
 item:=λi s Q E r ⟨m,d,f,g⟩ l=>by
  have j:=aAm (prog:=prog) (D:=D) (es:=es) (ep:=ep) (slot:=m) (i:=i) (t:=t) a x G;have c:i<t.place.size:=by lia
  rw[g,v5 r,v5 c] at j;refine aCd d f q j λp F n=>?_;refine l _ p s.toks (by rw[m5,bBX,v5 r];rfl) ⟨_,F,f.at λo e=>n D o q e,?_⟩ λb o a e=>n b o (λz=>a (by simp[z])) e;obtain⟨L,u,C⟩:=rH y (t.place[i]+1);have B:i<SetTable.below t.place (t.place[i]+1):=Nat.lt_of_not_le λz=>by have:=C i c z;lia
  rcases Nat.lt_or_eq_of_le (Nat.succ_le_of_lt B) with h2|h2
  ·exfalso;have k:i+1<t.place.size:=by lia
   have J:=u (i+1) k h2;have K:=y i (i+1) c k (bCZ _);lia
  ·exact h2.symm
 done:=λs Q E ⟨m,d,f,g⟩ l=>by have j:=aAm (prog:=prog) (D:=D) (es:=es) (ep:=ep) (slot:=m) (i:=es.size) (t:=t) a x G;rw[g,bBK (j5 _)] at j;exact aCa H d f j λp n=>l p s.toks λb o a e=>n b o (λz=>a (by simp[z])) e
 self:=λ_ _ _ _ ⟨_,d,_⟩ l=>uR d l
def aGv {I D T:Addr}{es:Array (Int × Value)}{ep:Nat}{t:SetTable}{ys:List Nat}(p:ys.Perm (List.range es.size))(x:A.handled=none)(u:D≠I)(q:T≠I) :
  Walks prog w A I [I,D,T] [I] es.size (λi v=>((ys.map λj=>es.getD j (0,.none)).map (·.2))[i]?=some v) (λi h=>dM h I (.ref T) i D es.size ep/\rA h D es ep t/\h.get? T=some { cls:=.type "tuple",data:=.seq (ys.map λj=>rawInt (j:Nat)).toArray }) where
 sub:=λb d=>by simp at d;simp[d]
 frame:=λ_ _ _ a l=>⟨l I (by simp) _ a.1,a.2.1.at λo e=>l D (by simp) o e,l T (by simp) _ a.2.2⟩
 item:=λi s Q E y a f=>by
  have k:ys.length=es.size:=by rw[p.length_eq,bAL]
  have c:i<ys.length:=by lia
  have n:ys[i]<es.size:=List.mem_range.mp (p.mem_iff.mp (bBH c));refine aLg (j:=ys[i]) a.1 a.2.1 a.2.2 (by rw[bD9,m5,b8 c];rfl) (v5 n) λm r g=>?_;refine f _ m s.toks ?_ ⟨r,a.2.1.at λo e=>g D o u e,g T _ q a.2.2⟩ λb o d e=>g b o (λz=>d (by simp[z])) e;rw[m5,m5,b8 c];show some (es.getD ys[i] (0,.none)).2=some es[ys[i]].2;rw[bAK,v5 n];rfl
 done:=λs Q E a f=>by
  have k:ys.length=es.size:=by rw[p.length_eq,bAL]
  exact aKj x a.1 a.2.1 a.2.2 (by rw[bD9,m5,bAO (by lia)];rfl) λm g=>f m s.toks λb o d e=>g b o (λz=>d (by simp[z])) e
 self:=λ_ _ _ _ a f=>uR a.1 f
theorem aQ9 {D:Addr}{es:Array (Int × Value)}{ep:Nat}{t:SetTable}{Q:bE5}(H:A.handled=none)(P:rA s.heap D es ep t)(u:TabOk (byT w) t)(V:es.size<=1000)
  (h:∀I fp (order:List (Int × Value)) St h1 dr,(∀b o,s.heap.get? b=some o->h1.get? b=some o)->Walks prog w A I fp [I] es.size (λi v=>(order.map (·.2))[i]?=some v) St->St 0 h1->(∀b∈fp,b=D\/s.heap.objs.size<=b)->s.heap.objs.size<=I->order.Perm es.toList ->
   Q (.ref I) { s with heap:=h1,drawn:=dr }):wpAny (model prog w) A (pyIter (.ref D)) Q E s:=by
 obtain⟨o,g,p,n,d⟩:=id P;have L:s.TypeIs (.ref D) "set":=⟨o,g,p.1⟩;refine bD6 L F.slot_set_iter (bAH F.slot_set_iter L zZ ?_ (F.args_set_iter_1 _));unfold Builtin.«frozenset.__iter__» Builtin.Frozenset.slot0 slotArgs;simp only[List.isEmpty_nil,Bool.not_true,bAZ,↓reduceIte,bind_assoc,bBN,bne_self_eq_false];unfold Builtin.Frozenset.addrOf Builtin.Frozenset.sizeOf setDrawn setsByText;refine b7 (d8 ?_)
 try dsimp only
 refine b7 (d8 ?_);refine b7 (b7 (bC9 g n d (d8 ?_)));refine b7 (b7 (bC2 g n d ?_));dsimp only;refine b7 (b7 (bDC (d8 (d8 ?_))));have f:D<s.heap.objs.size:=j7 g;have W:((0:Nat):Int)=0:=rfl
 split
 ·rename_i J;refine b7 (mJ _ _ _ _ (bAL ..) λx dr C=>?_);refine b7 (bES ?_ (by rw[j0,C.length_eq,bAL];exact bAJ V (by decide)));have k:({ s with drawn:=dr,heap:=s.heap.push { cls:=.type "tuple",data:=.seq (x.map λi=>rawInt (i:Nat)).toArray } }:Shared).heap.get? D=some o:=d7 _ g;refine b7 (wpAny_setEpoch_of k n d ?_);refine b7 ?_;unfold newFields;refine bAF (d8 ⟨_,rfl,"set_iterator",_,⟨_,j4 _ rfl,rfl⟩,bQ.lookup,?_⟩);have q:(s.heap.push { cls:=.type "tuple",data:=.seq (x.map λi=>rawInt (i:Nat)).toArray }).objs.size=s.heap.objs.size+1:=bBL ..;refine h _ [_,D,s.heap.objs.size] (x.map λj=>es.getD j (0,.none)) _ _ dr (λb o e=>d7 _ (d7 _ e)) (aGv (t:=t) (ep:=ep) C H ?_ ?_) ⟨?_,?_,?_⟩ (λb c=>?_) ?_ ?_
  ·show D≠Array.size _;rw[q];exact v6 (bCF f)
  ·show s.heap.objs.size≠Array.size _;rw[q];exact v6 (bCZ _)
  ·exact j4 _ rfl
  ·exact⟨o,d7 _ k,p,n,d⟩
  ·exact d7 _ (j4 _ rfl)
  ·simp only[bAE,v8,or_false] at c;rcases c with rfl|rfl|rfl
   ·right;rw[q];exact bCX _
   ·left;rfl
   ·right;exact j5 _
  ·rw[q];exact bCX _
  ·have e:(List.range es.size).map (λj=>es.getD j (0,.none))=es.toList:=by
    refine bCT λj=>?_;rw[m5,show es.toList[j]?=es[j]? from bBX];by_cases B:j<es.size
    ·rw[bC5 B,v5 B];show some (es.getD j (0,.none))=_;rw[bAK,v5 B];rfl
    ·rw[bAO (by rw[bAL];lia),bBK (by lia)];rfl
   exact (C.map _).trans (by rw[e])
 ·rename_i J;refine b7 (d8 (b7 (wpAny_setEpoch_of g n d (b7 ?_))));unfold newFields;refine bAF (d8 ⟨_,rfl,"set_iterator",_,⟨_,j4 _ rfl,rfl⟩,bQ.lookup,?_⟩);have K:dM (s.heap.push { cls:=.type "set_iterator",data:=.fields [rawInt 0,rawInt 0,Value.ref D,rawInt (es.size:Nat),rawInt (ep:Nat)].toArray }) s.heap.objs.size (.int (0:Nat) 0) 0 D es.size ep:=j4 _ rfl;have l:rA (s.heap.push { cls:=.type "set_iterator",data:=.fields [rawInt 0,rawInt 0,Value.ref D,rawInt (es.size:Nat),rawInt (ep:Nat)].toArray }) D es ep t:=P.at λo e=>d7 _ e;have m:∀b∈[s.heap.objs.size,D],b=D\/s.heap.objs.size<=b:=λb c=>by
   simp only[bAE,v8,or_false] at c;rcases c with rfl|rfl
   ·right;exact j5 _
   ·left;rfl
  cases c:byT w with
  |true=>exact h _ [s.heap.objs.size,D] _ _ _ s.drawn (λb o e=>d7 _ e) (aKz (t:=t) (ep:=ep) c H (v6 f)) ⟨K,l⟩ m (j5 _) (uN _ es)
  |false=>
   have N:t.led=true:=u.1 c;have r:t.place.size=es.size:=by unfold SetTable.fits at d;rw[bAB,beq_iff_eq] at d;exact d.1
   have M:t.plain=true\/es.size<=1:=by
    have z:¬ (!byT w && (!t.plain && decide (es.size > 1)))=true:=J;rw[c] at z;cases y:t.plain with
    |true=>exact .inl rfl
    |false=>rw[y] at z;right;simpa using z
   have G:Ris t.place:=by
    rcases M with z|z
    ·exact u.2.2.2 z
    ·intro a b U T R;lia
   refine h _ [s.heap.objs.size,D] es.toList _ _ s.drawn (λb o e=>d7 _ e) (aG1 (t:=t) (ep:=ep) c N M G r H (v6 f)) ⟨0,K,l,?_⟩ m (j5 _) (.refl _);obtain⟨_,O,_⟩:=rH G 0;rcases Nat.eq_zero_or_pos (SetTable.below t.place 0) with z|z
   ·exact z
   ·by_cases S:0<t.place.size
    ·exact absurd (O 0 S z) (bEK _)
    ·have:=(rH G 0).1;lia
def aQg {D:Addr}{Q:Bool->Shared->Prop}(d:s.TypeIs (.ref D) "set")(h:Q false s):wpAny (model prog w) A (Builtin.List.listLengthHint (.ref D)) Q E s:=by unfold Builtin.List.listLengthHint;refine b7 (wpAny_specialOf d F.slot_set_len.lookup ?_);generalize c:("set.__len__":String)=id0;wp_delta;rw[show splitId id0=some ("set","__len__") from by subst c;decide +kernel];subst c;refine b7 (bDA (T:="set") (b:=true) d sub_set_self (bEM (λa=>absurd a (by decide)) (λ_=>bEM (λ_=>?_) (λa=>absurd (by trivial) a))));exact b7 (bEN d (d8 h))
def aKd {D:Addr}{es:Array (Int × Value)}{ep:Nat}{t:SetTable}{R:Result->Shared->Prop}(hh:A.handled=none)(P:rA s.heap D es ep t)(a0:TabOk (byT w) t)(Z:es.size<=1000)(S:Addr)(J:S≠D)(res:Value)(X:s.heap.get? S=some { cls:=.type "list",data:=.seq #[] })
  (hR:∀h' tk dr acc c (order:List (Int × Value)),(∀b o,b≠S->s.heap.get? b=some o->h'.get? b=some o)->h'.get? S=some { cls:=.type "list",dict:=none,data:=.seq acc c,slots:=#[] }->order.Perm es.toList->acc.toList=order.map (·.2)->R (.ok (.ret res)) { s with heap:=h',toks:=tk,drawn:=dr }) :
  wpAny (model prog w) A.in1 (Builtin.List.listExtendWith (.ref S) (.ref D) res) (λfin s'=>match fin with|.done f=>R (.ok f) s'|.again c'=>c'.quiet=true/\codeAny (model prog w) A c' R s') (λe s'=>R (.error e) s') s:=by
 obtain⟨o,K,u,hd,hf⟩:=id P;have Y:s.TypeIs (.ref D) "set":=⟨o,K,u.1⟩;have q:=j7 X;unfold Builtin.List.listExtendWith;refine b7 (bEN (T:="set") Y ?_);have h1:Builtin.List.listSameRef (.ref S) (.ref D)=false:=by simp[Builtin.List.listSameRef,J]
 simp only[h1,show (Value.type "set" == Value.type "list")=false by decide,show (Value.type "set" == Value.type "tuple")=false by decide,Bool.or_false,bAZ,if_false];refine b7 (aQ9 (A:=A.in1) hh P a0 Z λI V order St p dr g W N E B a=>?_);have n:S∉V:=λz=>(E S z).elim J λz=>absurd q (Nat.not_lt.mpr z);have l:p.get? S=some { cls:=.type "list",data:=.seq #[] }:=g _ _ X;have m:∀(h:Heap) (y tk:Nat),St 0 h->(∀b o,b≠S->s.heap.get? b=some o->h.get? b=some o)->h.get? S=some { cls:=.type "list",data:=.seq #[] y } ->
   codeAny (model prog w) A (.builtin "list.extend.loop" ⟨[.ref S,.ref I,res],[]⟩) R { s with heap:=h,toks:=tk,drawn:=dr }:=λh y tk C O H=>by
  refine codeAny_extend_loopS W.toS (bAJ Z (by decide)) S n res es.size 0 _ #[] y rfl (bAS _) C H (ItemsOf.nil _) λs' k c' L G i=>?_;rw[Moved.eq_with L];refine hR s'.heap s'.toks dr k c' order (λb o d e=>L.heap b o (λhmem=>?_) (O b o d e)) G a ?_
  ·rcases List.mem_cons.mp hmem with U|hmem
   ·exact d U
   ·rw[List.mem_singleton.mp hmem] at e;exact absurd (j7 e) (Nat.not_lt.mpr B)
  ·have Q:order.length=es.size:=by rw[a.length_eq,v9]
   refine bCT λj=>?_;rw[bBX];by_cases M:j<k.size
   ·rw[v5 M];exact (i.2 j _ (v5 M)).symm
   ·rw[bBK (by lia),bAO (by rw[j0,Q,<-i.1];lia)]
 refine b7 (bAP (aQg (s:={ s with heap:=p,drawn:=dr }) ⟨o,g _ _ K,u.1⟩ ?_));refine bEM (λ_=>?_) (λ_=>d8 ⟨bCY F.plain_extend_loop _,m p _ _ N (λb o _ e=>g b o e) l⟩);refine b7 (bCU (b7 ?_));show wpAny _ _ (updateSeq S (·.push .none) >>= λ_=>updateSeq S (·.pop)) _ _ _;refine b7 (wpAny_updateSeq l rfl ?_);have r:=bAU (Obj.mapSeq (·.push Value.none)) l rfl;refine wpAny_updateSeq (hz:=by seq_fits) r rfl ?_;have x:=bAU (Obj.mapSeq (·.pop)) r rfl;have v:∀b o,b≠S->p.get? b=some o->((p.update S (Obj.mapSeq (·.push Value.none))).update S (Obj.mapSeq (·.pop))).get? b=some o:=λb o d e=>(bBE _ _ (Ne.symm d)).trans ((bBE _ _ (Ne.symm d)).trans e);exact d8 ⟨bCY F.plain_extend_loop _,m _ _ _ (W.frame 0 _ _ N λb d o e=>v b o (λz=>n (z ▸ d)) e) (λb o d e=>v b o d (g b o e)) x⟩
end
open PySem.Calls PyProof.Rows
section
variable {prog:Program}{w:World}{κ:Type}[DecidableEq κ]{knd:PySem.KeyKind prog w κ}{A:Around}{E:bE5}{s:Shared}
def aFi {D:Addr}{es:Array (Int × Value)}{ep:Nat}{t:SetTable}{R:List Value->Shared->Prop}(I:A.handled=none)(J:rA s.heap D es ep t)(H:TabOk (byT w) t)(hsz:es.size<=1000)
  (h:∀h' tk dr (order:List (Int × Value)),(∀b o,s.heap.get? b=some o->h'.get? b=some o)->order.Perm es.toList->R (order.map (·.2)) { s with heap:=h',toks:=tk,drawn:=dr }):wpAny (model prog w) A (collect (.ref D)) R E s:=by
 obtain⟨o,v,u,z,C⟩:=J;have p:=j7 v;unfold collect;refine b7 (wpAny_runValue (bBT entry_proto_collect' ?_));rw[bBI PySem.F.plain_proto_collect _];show wpAny _ A.in1 (newList [] >>= λl=>again (.builtin "list.__iadd__" ⟨[l,.ref D],[]⟩)) _ _ s;refine b7 (bAF (d8 ⟨bCY PySem.F.plain_list_iadd _,bBT entry_list_iadd' ?_⟩));rw[bBI PySem.F.plain_list_iadd _];have r:(s.heap.push { cls:=.type "list",data:=.seq ([]:List Value).toArray }).get? s.heap.objs.size=some { cls:=.type "list",data:=.seq #[] }:=j4 _ rfl;show wpAny _ A.in1 (Builtin.List.listExtendWith (.ref s.heap.objs.size) (.ref D) (.ref s.heap.objs.size)) _ _ _;have m:=aKd (prog:=prog) (w:=w) (A:=A) (s:={ s with heap:=s.heap.push { cls:=.type "list",data:=.seq ([]:List Value).toArray } })
  (R:=λ(q:Result) (n:Shared)=>∃(h':Heap) (tk:Nat) (dr:Drawn) (a:Array Value) (c:Nat) (order:List (Int × Value)),q=.ok (.ret (.ref s.heap.objs.size))/\n={ s with heap:=h',toks:=tk,drawn:=dr }/\(∀b o,s.heap.get? b=some o->h'.get? b=some o)/\h'.get? s.heap.objs.size=some { cls:=.type "list",dict:=none,data:=.seq a c,slots:=#[] }/\order.Perm es.toList/\a.toList=order.map (·.2))
  I ⟨o,d7 _ v,u,z,C⟩ H hsz s.heap.objs.size (bCP p) (.ref s.heap.objs.size) r
  (λh' tk dr a c order g d j i=>⟨h',tk,dr,a,c,order,rfl,rfl,λb o e=>g b o (v6 (j7 e)) (d7 _ e),d,j,i⟩)
 have k:∀(h':Heap) (tk:Nat) (dr:Drawn) (a:Array Value) (c:Nat) (order:List (Int × Value)),(∀b o,s.heap.get? b=some o->h'.get? b=some o)->h'.get? s.heap.objs.size=some { cls:=.type "list",dict:=none,data:=.seq a c,slots:=#[] }->order.Perm es.toList->a.toList=order.map (·.2) ->
   wpAny (model prog w) A (load s.heap.objs.size >>= λo=>match o.data with|.seq xs _=>pure xs.toList|_=>unsupported "internal:collect") R E { s with heap:=h',toks:=tk,drawn:=dr }:=λh' tk dr a c order g d j i=>by
  refine b7 (wpAny_load d (d8 ?_));show R a.toList _;rw[i];exact h h' tk dr order g j
 refine bAY m (λB n x=>?_) λe n x=>?_
 ·cases B with
  |done f=>obtain⟨h',tk,dr,a,c,order,e,rfl,g,d,j,i⟩:=x;cases e;exact k h' tk dr a c order g d j i
  |again c₁=>refine⟨x.1,bCA x.2 λq K y=>?_⟩;obtain⟨h',tk,dr,a,c,order,rfl,rfl,g,d,j,i⟩:=y;exact k h' tk dr a c order g d j i
 ·obtain⟨_,_,_,_,_,_,G,_⟩:=x;cases G
def aIu {D:Addr}{kl:List κ}{R:List Value->Shared->Prop}(p:A.handled=none)(u:qI knd s.heap D kl)(x:kl.length<=1000)
  (h:∀h' tk dr acc kl',(∀b o,s.heap.get? b=some o->h'.get? b=some o)->kl'.Perm kl->Paired (λk v=>knd.is k v=true) kl' acc->R acc { s with heap:=h',toks:=tk,drawn:=dr }):wpAny (model prog w) A (collect (.ref D)) R E s:=by
 obtain⟨o,y,q,t,l,a,m,n,d,f⟩:=u;refine aFi p ⟨o,l,a,m,n⟩ d (by rw[<-v9,<-Paired.length f];exact x) λh' tk dr c j g=>?_;obtain⟨kl',e,i⟩:=vO g f;refine h h' tk dr _ kl' j i ?_;clear g i
 induction e with
 |nil=>exact .nil
 |cons r _ ih=>exact .cons r.1 ih
end
end PySem
namespace L2
open PySem PySem.Spec PyProof.Rows PySem.Calls
section
variable {prog:Program}{w:World}{A:Around}{E:bE5}{s:Shared}
def aN8 {kl:List Key}{b:List Value}(h:Paired (λk v=>(bH prog w).is k v=true) kl b)(d:∀k∈kl,∃n,k=Sum.inl n):∃ns:List Int,kl=ns.map Sum.inl/\IntsAre b ns:=by
 induction h with
 |nil=>exact⟨[],rfl,.nil⟩
 |@cons k v kl b r _ ih=>
  obtain⟨ns,rfl,c⟩:=ih λk a=>d k (j9 _ a);obtain⟨n,rfl⟩:=d k v4;rcases cH (show mD (Sum.inl n) v=true from r) with⟨i,t,e,rfl⟩|⟨x,t,e,_⟩
  ·cases e;exact⟨n::ns,rfl,.cons n t c⟩
  ·cases e
def aN3 {kl:List Key}{b:List Value}(h:Paired (λk v=>(bH prog w).is k v=true) kl b)(d:∀k∈kl,∃n,k=Sum.inr n):∃ns:List Str,kl=ns.map Sum.inr/\StrsAre b ns:=by
 induction h with
 |nil=>exact⟨[],rfl,.nil⟩
 |@cons k v kl b r _ ih=>
  obtain⟨ns,rfl,c⟩:=ih λk a=>d k (j9 _ a);obtain⟨n,rfl⟩:=d k v4;rcases cH (show mD (Sum.inr n) v=true from r) with⟨i,t,e,_⟩|⟨x,t,e,rfl⟩
  ·cases e
  ·cases e;exact⟨n::ns,rfl,.cons n t c⟩
def ltK:Key->Key->Prop
 |.inl a,.inl b=>a<b
 |.inr a,.inr b=>a.cps.toList<b.cps.toList
 |_,_=>False
theorem aBx:∀(l:List Str) (p:Str),risingS p l=true->∀x∈l,¬ x.cps.toList<p.cps.toList
 |[],_,_,x,hx=>by cases hx
 |y::r,p,h,x,hx=>by
  unfold risingS at h;rw[bAB,ltCps_eq,Bool.not_eq_true',decide_eq_false_iff_not] at h;rcases List.mem_cons.mp hx with rfl|hx
  ·exact h.1
  ·intro z;have a:=aBx r y h.2 x hx;exact h.1 (List.lt_of_le_of_lt (show y.cps.toList<=x.cps.toList from a) z)
theorem sW:∀(l:List Str) (p:Str),risingS p l=true->l.Nodup->l.Pairwise λa b=>a.cps.toList<b.cps.toList
 |[],_,_,_=>.nil
 |y::r,p,h,nd=>by
  unfold risingS at h;rw[bAB] at h;rw[bDL] at nd;refine .cons (λx c=>?_) (sW r y h.2 nd.2);have d:=aBx r y h.2 x c;rcases Classical.em (y.cps.toList<x.cps.toList) with z|z
  ·exact z
  ·exfalso;have e:y.cps.toList=x.cps.toList:=List.le_antisymm d z;have:y=x:=by cases y;cases x;exact congrArg Str.mk (Array.toList_inj.mp e)
   exact nd.1 (this ▸ c)
def aAd {vs:List Value}{ns:List Int}(h:IntsAre vs ns):Vals ((ns.map Sum.inl).map kV) vs:=by
 induction h with
 |nil=>exact .nil
 |cons n t _ ih=>exact .cons ⟨t,rfl⟩ ih
def yO {vs:List Value}{ns:List Str}(h:StrsAre vs ns):Vals ((ns.map Sum.inr).map kV) vs:=by
 induction h with
 |nil=>exact .nil
 |cons n t _ ih=>exact .cons ⟨t,rfl⟩ ih
def rM {α β:Type}{f:α->β}{l:List α}(h:(l.map f).Nodup):l.Nodup:=List.Pairwise.imp (λa e=>a (congrArg f e)) (List.pairwise_map.mp h)
def aJm {D:Addr}{kl:List Key}{Q:bE5}(U:A.handled=none)(X:qI (bH prog w) s.heap D kl)(hn:kl.length<=60)(Y:kl.Nodup)(hi:(∀k∈kl,∃n,k=Sum.inl n)\/∀k∈kl,∃n,k=Sum.inr n)
  (q:∀(h1 h':Heap) (tk:Nat) (dr:Drawn) (B:Addr) (vs:List Value) (ks:List Key) (e:Nat),Vals (ks.map kV) vs->ks.Perm kl->ks.Pairwise ltK->h'.get? B=some (seqObj "list" vs.toArray e)->(∀b o,s.heap.get? b=some o->h1.get? b=some o)->(∀b o,h1.get? b=some o->h'.get? b=some o)->h1.objs.size<=B->Q (.ref B) { s with heap:=h',toks:=tk,drawn:=dr }) :
  wpAny (model prog w) A (call (.builtin "sorted") [.ref D]) Q E s:=by
 refine call_function_entry kind_sorted plain_sorted entry_sorted (args_sorted1 _) ?_;unfold Builtin.«sorted»;refine b7 (m:=checkCount "sorted" 1 1 _) (d8 (b7 (aIu (A:=A.in1) U X (by lia) λh' tk dr c g h x F=>?_)));have V:c.length=kl.length:=by rw[<-Paired.length F,x.length_eq]
 have l:g.Nodup:=x.nodup_iff.mpr Y;have v:c.length<64:=by lia
 refine b7 (wpAny_newList ?_ (by rw[sizeLine_eq];lia));have d:(h'.push (seqObj "list" c.toArray 0)).get? h'.objs.size=some (seqObj "list" c.toArray 0):=j4 _ rfl;have u:∀(out:Array Value) (ks:List Key),Vals (ks.map kV) out.toList->ks.Perm g->ks.Pairwise ltK->Q (.ref h'.objs.size) { s with heap:=sortedHeap (h'.push (seqObj "list" c.toArray 0)) h'.objs.size c out,toks:=tk,drawn:=dr }:=λout ks L N R=>by obtain⟨e,P⟩:=sortedHeap_at (out:=out) d;refine q h' _ tk dr h'.objs.size out.toList ks e L (N.trans x) R (by rw[Array.toArray_toList];exact P) h (λb o p=>?_) (j5 _);have t:=j7 p;rw[sortedHeap_old (v6 t) (by rw[size_push'];exact bCF t)];exact d7 _ p
 rcases hi with hi|hi
 ·obtain⟨K,rfl,i⟩:=aN8 F λk h=>hi k (x.mem_iff.mp h);refine b7 (bAP (bAH slot_list_sort ⟨_,d,rfl⟩ entry_list_sort (list_sort_tree d i v λout j G z J=>⟨_,rfl,d8 ⟨_,rfl,u out (j.map Sum.inl) (aAd G) (z.map _) ?_⟩⟩) (args_list_sort _)));rw[List.pairwise_map];have C:j.Nodup:=z.nodup_iff.mpr (rM l);refine (List.pairwise_and_iff.mpr ⟨J,C⟩).imp λ{a b} ⟨h1,Z⟩=>?_;show a<b;lia
 ·obtain⟨K,rfl,i⟩:=aN3 F λk h=>hi k (x.mem_iff.mp h);refine b7 (bAP (bAH slot_list_sort ⟨_,d,rfl⟩ entry_list_sort (list_sort_treeK strKind_oneLt d i.keysOf (λW T I e=>keyKind_strs (by rw[<-e];exact i)) v λM G z=>⟨_,rfl,d8 ⟨_,rfl,?_⟩⟩) (args_list_sort _)));obtain⟨f,S,H,O⟩:=sorted_out_str i G z;refine u _ (f.map Sum.inr) (yO S) (H.map _) ?_;rw[List.pairwise_map];have C:f.Nodup:=H.nodup_iff.mpr (rM l);cases f with
  |nil=>exact .nil
  |cons y r=>have:=sW (y::r) y (by unfold risingS;rw[bAB,ltCps_eq];exact⟨by simpa using List.lt_irrefl _,O⟩) C;exact this
end
def aQk (P:Program)(w:World)(D:Addr)(kl:List Key):HO:=.ext λh=>qI (bH P w) h D kl
section
variable {X:Cx}{bE8:bE6}{σ:L2.St}{H:Hp}{s:Shared}
def Inv.drew (I:Inv X bE8 σ H s)(dr:Drawn):Inv X bE8 σ H { s with drawn:=dr }:=⟨I.ok,I.os,I.bare,I.base,I.loc,I.cell,I.free,I.freeC,I.pin,I.hok,I.len⟩
def bA9 (P:Program)(w:World)(K:bE4):List V->Hp->VK->Prop:=λxs H Q=>∃(p:Addr) (ks:List Key),xs=[.ref p]/\SqL K H p (ks.map kV)/\ks.length<=4/\∀D H' kl,H D=none->Same H H'->H' D=some (aQk P w D kl)->Ded kl ks->Q (.ref D) H'
def aV7 {k:Key}{v:Value}(h:RelV (kV k) v):(bH X.prog X.w).is k v=true/\v.scannable=true:=by
 cases k with
 |inl n=>obtain⟨t,rfl⟩:=h;exact⟨aB6 n t,rfl⟩
 |inr n=>obtain⟨t,rfl⟩:=h;exact⟨aDd n t,rfl⟩
def aPb (N:X.calm=true):bR X (.type "set") (bA9 X.prog X.w X.K):=by
 intro C s σ H T O Q I r h;obtain⟨p,ks,rfl,D,z,q⟩:=h;obtain⟨u,rfl,L⟩:=r.one;cases L;obtain⟨f,g,J,S⟩:=I.list D;have a:=g.length;rw[j0] at a;refine aNs (knd:=bH X.prog X.w) (ks:=ks) (I.ok.hd N) J.isList (by rw[j6];exact a) (λi v G=>?_) (by rw[j6,<-a];exact z) λj A d x M F=>?_
 ·have c:f[i]?=some v:=by simpa using G
  have t:i<ks.length:=by rw[a];exact (List.getElem?_eq_some_iff.mp c).1
  obtain⟨u,m,E⟩:=g.get (i:=i) (x:=kV ks[i]) (by rw[m5,b8 t];rfl);rw[c] at m;cases m;exact⟨ks[i],b8 t,aV7 E⟩
 ·have e:∃o,j.get? s.heap.objs.size=some o:=by obtain⟨o,_,_,_,B,_⟩:=x;exact⟨o,B⟩
  have l:H s.heap.objs.size=none:=I.hok.fresh (j5 _);exact⟨.ref s.heap.objs.size,_,I.laid (t':=A) (o:=aQk X.prog X.w s.heap.objs.size d) (λb o n=>F b o (j7 n) n) (j5 _) (show qI (bH X.prog X.w) j s.heap.objs.size d/\_/\_ from ⟨x,e,λR P y k=>y.at k⟩),rfl,q _ _ d l (aR l _) aH M⟩
def aRg (P:Program)(w:World):List V->Hp->VK->Prop:=λxs H Q=>∃(D:Addr) (kl:List Key),xs=[.ref D]/\H D=some (aQk P w D kl)/\kl.length<=60/\kl.Nodup/\((∀k∈kl,∃n,k=Sum.inl n)\/∀k∈kl,∃n,k=Sum.inr n) /\
 ∀(B:Addr) (H':Hp) (ks:List Key),H B=none->Same H H'->H' B=some (.lst (ks.map kV))->ks.Perm kl->ks.Pairwise ltK->Q (.ref B) H'
def aEe (K:X.calm=true):bR X (.builtin "sorted") (aRg X.prog X.w):=by
 intro b s σ H N M Q I r h;obtain⟨D,t,rfl,k,d,A,C,q⟩:=h;obtain⟨u,rfl,G⟩:=r.one;cases G;have x:qI (bH X.prog X.w) s.heap D t:=(I.hok D _ k).1;refine aJm (I.ok.hd K) x d A C λE L a m B v c e y j F l n p g=>?_;have z:Inv X b σ H { s with heap:=E,toks:=a }:=I.kept (t':=a) n;have i:=z.drew m;have f:H B=none:=i.hok.fresh g;have J:c.length<=60:=by rw[j.length_eq];exact d
 exact⟨.ref B,_,i.laid (t':=a) (o:=.lst (c.map kV)) p g ⟨small (by rw[j0];lia),v,e,y,l⟩,rfl,q B _ c f (aR f _) aH j F⟩
end
end L2
namespace My
open PySem PySem.Spec PyProof.Rows L2
section
variable {P:Program}{w:World}{K:bE4}{mg:bE7}{base:Heap}
def aLp {X:Cx}{scope:Scope}{x y z:Str}{σ:L2.St}{u v:V}(i j:Nat)(c:(y,NameKind.free)∈scope.names)(d:(z,NameKind.free)∈scope.names)(l:X.N[i]?=some y)(h:X.N[j]?=some z)(g:σ[i]?=some (some u))(f:σ[j]?=some (some v))(k:Vis X.env.scope y)(e:Vis X.env.scope z):Cap X scope [x,y,z] σ [none,some u,some v]:=
 ⟨rfl,λn q r a b=>by
  match n,a,b with
  |0,_,b=>cases b
  |1,a,b=>cases a;cases b;exact⟨c,i,l,g,k⟩
  |2,a,b=>cases a;cases b;exact⟨d,j,h,f,e⟩
  |n+3,a,_=>cases a⟩
def fV.fx {a:Addr}{H H':Hp}{D:Addr}{rs:List (List V)}(f:Fx a H H')(h:gH H a)(i:D≠a)(r:fV K H D rs):fV K H' D rs:=by obtain⟨d,c,b⟩:=r;exact⟨d,f.same _ _ i c,b.imp λ_ _ ⟨p,e,g⟩=>⟨p,e,f.bA h g⟩⟩
def aRa {n i:Nat}{x:V}(e:((List.range n).map λi:Nat=>V.int (0+(i:Int)))[i]?=some x):i<n/\x=.int (0+(i:Int)):=by
 have a:i<n:=by have:=(List.getElem?_eq_some_iff.mp e).1;rw[j0,bAL] at this;exact this
 rw[m5,bC5 a] at e;exact⟨a,(bAQ e).symm⟩
def aIv {X:Cx}{scope:Scope}{N:List Str}{ta:TA}{te:TE}{tt:TT}{g:TG}{σ:L2.St}{H:Hp}{Q:VK}(b:L2.St)(a:Cap X scope N σ b)(h:ta σ H λvs H1=>∃j:Int,vs=[.int j]/\-(2 ^ 62)<=j/\j<2 ^ 62/\oA (Itr 0 j.toNat) H1 b g tt te Q):gK X scope N (aQy ta) g tt te σ H Q:=⟨b,a,h⟩
theorem aM6 {K:bE4}{H:Hp}{Pr:List V->Prop}:∀{ys:List V},(∀y∈ys,∃r,mL K H y r/\Pr r)->∃rs,cP (mL K H) ys rs/\∀r∈rs,Pr r
 |[],_=>⟨[],.nil,λr h=>by cases h⟩
 |y::ys,h=>by
  obtain⟨r,b,a⟩:=h y v4;obtain⟨rs,e,c⟩:=aM6 (ys:=ys) λz d=>h z (j9 _ d);refine⟨r::rs,.cons b e,λx hx=>?_⟩;rcases List.mem_cons.mp hx with rfl|hx
  ·exact a
  ·exact c x hx
def mH.tk {H H':Hp}{v:V}{c:V × Int}(e:TK K H H')(h:mH K H v c):mH K H' v c:=by obtain⟨p,rfl,a⟩:=h;exact⟨p,rfl,e _ _ a⟩
def wK.tk {H H':Hp}{v:V}{pl:Plc}(e:TK K H H')(h:wK K H v pl):wK K H' v pl:=by
 cases pl with
 |copies=>obtain⟨a,rfl,b⟩:=h;exact⟨a,rfl,e _ _ b⟩
 |keys n=>obtain⟨a,rfl,b⟩:=h;exact⟨a,rfl,e _ _ b⟩
 |spans n h0 cs=>obtain⟨a,c,rfl,b,d⟩:=h;exact⟨a,c,rfl,e _ _ b,aLl e (λ_ _ z=>z.tk e) d⟩
def qY {n:Nat}(h:n<1000):n<sizeLine:=z9 h (by decide)
theorem aM0 {k:Str}:∀{ys:List V},(∀y∈ys,cU k y)->∃ks:List Key,ys=ks.map kV/\∀x∈ks,cU k (kV x)
 |[],_=>⟨[],rfl,λx h=>by cases h⟩
 |y::ys,h=>by
  obtain⟨ks,e,b⟩:=aM0 (ys:=ys) λz hz=>h z (j9 _ hz);have a:=h y v4;obtain⟨x,rfl⟩:∃x,y=kV x:=by
   cases a with
   |num=>exact⟨.inl _,rfl⟩
   |wrd _ _=>exact⟨.inr _,rfl⟩
  refine⟨x::ks,by rw[e];rfl,λz hz=>?_⟩;rcases List.mem_cons.mp hz with rfl|hz
  ·exact a
  ·exact b z hz
def aOi {k:Str}{ks:List Key}(h:∀x∈ks,cU k (kV x)):(∀x∈ks,∃n,x=Sum.inl n)\/∀x∈ks,∃n,x=Sum.inr n:=by
 by_cases d:k = "number"
 ·refine .inl λx c=>?_;cases x with
  |inl n=>exact⟨n,rfl⟩
  |inr n=>
   have:=h _ c;rw[d] at this;generalize b:kV (Sum.inr n)=v at this;generalize a:("number":Str)=k0 at this;cases this with
   |num=>cases b
   |wrd _ _=>exact absurd a (by decide)
 ·refine .inr λx c=>?_;cases x with
  |inr n=>exact⟨n,rfl⟩
  |inl n=>
   have:=h _ c;generalize b:kV (Sum.inl n)=v at this;cases this with
   |num=>exact absurd rfl d
   |wrd _ _=>cases b
def aYx {a b:Key}(h:ltK a b):vlt (kV a) (kV b)=true:=by cases a <;> cases b <;> first|exact m8 h|exact absurd h id
inductive vL (K:bE4)(vs:List V)(H:Hp)(Q:VK)(E_:XK):Prop
 |mk (a:Addr) (vh:V) (hd:Hdr) (m:Int) (_:vs=[.ref a,vh,.int m]) (_:gH H a) (_:gY K H vh hd) (_:aGl hd) (_:1<=m) (_:m<=6) (_:∀vp H' pl,Fx a H H'->wK K H' vp pl->aV1 hd m pl->Q vp H')
def wO (T:Txt w K mg)(aK:Ok P w K mg base 1 "_law_next" n6 fK)(lG:Ok P w K mg base 3 "_law_value" bQE aE7):Ok P w K mg base 4 "_law_placing" t8 (vL K):=by
 refine Ok.ofV T.aAa gW (by trivial) (λf bf A am s H vs Q E hr h=>?_)
 obtain⟨a,vh,hd,m,rfl,hs,hI,M,m1,m6,q⟩:=h;have l8:=M.1.2.2;have nd:=gW.nd;refine⟨_,(aC (bJ 3 (bI aK (aG (vv 0) (va1 aB)))) (aC (cF (eY cV (vv 3) aB) (aF (aP (aM (va1 aQ)))) bB) (aC (oG (bO cD (vv 1) (bI aK (aG (vv 0) (va1 (aO bM (by rfl) T.fQ dI (va1 (vv 1))))))) (jT rfl (aZ (cL 4) (aZ (cL 5) dC)))) (aC (cF (eY cV (vv 3) aB) (aF (aP (aM (aG aQ (va1 (vv 4)))))) bB) (aC (aEd (i0:=6) gW.nd rfl (by trivial) (N:=["_law_k","_law_state","_law_kind"]) ck (jP (aD iU)) rfl (cZ (by rfl) T.eE (va1 (bI aK (aG (vv 0) (va1 aB))))) (λcl s' n fp=>⟨(jB 0),dX,(bI lG (aG (vv 1) (va1 (vv 2))))⟩)) (aC (bJ 7 (aX (va1 (aM (aG cY (va1 (bI aK (aG (vv 0) (va1 (vv 2)))))))))) (aC (eO PassesOwn.never rfl (oO (aO (aEe rfl) (by rfl) T.aAj uL (va1 (bW (aPb rfl) (by rfl) T.aXd aPz (va1 (vv 6)))))) (cL 8) (aF (dR (vN PySem.F.plainAttrs_list PySem.F.slot_list_append PySem.F.type_list_append fX (vv 7) (va1 (aM (aG (vv 8) (va1 (bI aK (aG (vv 0) (va1 (vv 2)))))))))))) (aF (aP (aM (aG aQ (aG (vv 4) (va1 (bW gJ (by rfl) T.eF dG (va1 (vv 7)))))))))))))))),?_⟩;refine⟨_,rfl,a,3,rfl,hs,by decide,λa3 H1 f1 w0 w1=>?_⟩;refine⟨_,rfl,rfl,_,rfl,?_⟩;cases decide (V.int a3=V.int 0) with
 |true=>exact bZ ⟨by show 1<=sizeLine;decide,λt H2 _ s2 g2=>q _ H2 .copies (f1.sm s2) ⟨t,rfl,SqT.of g2⟩ trivial⟩
 |false=>
 refine cA ?_;have ap:=hI.tk (f1.tk (K:=K) hs);obtain⟨b,us,rfl,hb,hu⟩:=id ap;have lu:=hu.len;have l1:=M.1.2.1;refine⟨_,rfl,_,rfl,_,rfl,b,us,rfl,.inr hb,a,_,rfl,f1.st,⟨by lia,by lia⟩,λz H2 f2 z0 z1=>?_⟩;have ac:=f1.trans f2;obtain⟨zi,rfl⟩:∃zi:Nat,z=zi:=⟨z.toNat,by lia⟩;have hz:zi<us.length:=by lia
 obtain⟨c,hc,pc,b1,b4⟩:=cW hu (b8 hz);refine⟨b,us,_,.ref pc,rfl,rfl,f2.bA f1.st hb,bV (by rw[b8 hz,b1]),?_⟩;have a8:=bAA hc;have lk:=aSf M.1.1 a8;obtain⟨ag,a5⟩:=M.2 c a8;refine⟨pc,_,rfl,f2.bA f1.st b4,rfl,_,_,rfl,_,_,rfl,rfl,?_⟩;refine⟨_,rfl,rfl,_,rfl,?_⟩;cases decide (V.int a3=V.int 1) with
 |true=>exact bZ ⟨_,rfl,by show 2<=sizeLine;decide,λt H3 _ s3 g3=>q _ H3 (.keys c.1) (ac.sm s3) ⟨t,rfl,SqT.of g3⟩ ⟨ag,c.2,lk⟩⟩
 |false=>
 refine cA ?_;dsimp only[rR,aAg,wY];refine aIv [none,some (.ref a),some (.str c.2)] (aLp 0 5 (by trivial) (by trivial) rfl rfl rfl rfl (by trivial) (by trivial)) ?_;refine⟨_,rfl,a,5,rfl,f2.st,by decide,λz H5 f5 z0 z1=>?_⟩;refine⟨z,rfl,by lia,by lia,?_⟩;refine aB1 (Fx a) (aPs f5.st) ((List.range z.toNat).map λi:Nat=>V.int (0+(i:Int))) (λ_=>true) (λ_ _ y=>cU c.2 y) (λ_ _ h=>h) (λ_ _ _ h=>h) (λi σ=>∃x,σ=[some x,some (.ref a),some (.str c.2)]) (fun σ=>∃l,σ=[l,some (.ref a),some (.str c.2)]) ⟨none,rfl⟩ (small (by rw[j0,bAL];lia)) (Itr 0 z.toNat) (λn i x _ Z=>?_) (λn _=>?_) (λi x σ' n Q' Z ps f' r=>?_) (λi x σ2 Z at2 n R f' r=>r n (Fx.refl f'.st)) (λi x σ2 Z at2 _ n R f' r=>?_) λL H6 ys f6 fL gL aa=>?_
 ·obtain⟨hi,rfl⟩:=aRa Z;exact⟨hi,λy H2 hy=>hy⟩
 ·show z.toNat<=_;rw[j0,bAL];exact j5 _
 ·obtain⟨l,rfl⟩:=ps;exact r _ ⟨some x,rfl⟩ ⟨x,rfl⟩
 ·obtain⟨x',rfl⟩:=at2;exact⟨_,rfl,_,rfl,a,c.2,rfl,f'.st,a5,λv H2 f2 hv=>r v H2 f2 hv⟩
 rw[kZ,j0,bAL] at aa;obtain⟨ly,hy⟩:=iT aa;have an:=ac.trans (f5.trans f6);obtain⟨ks,rfl,aw⟩:=aM0 (k:=c.2) (ys:=ys) λy hm=>by obtain⟨i,hi⟩:=List.mem_iff_getElem?.mp hm;exact hy i y hi
 rw[j0] at ly;have au:L≠a:=f5.st.ne fL;refine⟨_,rfl,_,rfl,a,m,rfl,f6.st,⟨by lia,by lia⟩,λh0 H7 f7 b0 as=>?_⟩;refine⟨by show 2<=sizeLine;decide,λt1 H8 _ s8 g8=>⟨by show 1<=sizeLine;decide,λC H9 hC s9 g9=>?_⟩⟩;have a7:=an.trans f7;have aj:=(a7.sm s8).sm s9;have ba:=s9 _ _ (s8 _ _ (f7.same _ _ au gL));refine⟨_,rfl,L,ks,rfl,SqL.of ba,by lia,λD bg kl bd o gD a4=>?_⟩;have ab:∀x∈kl,cU c.2 (kV x):=λx hx=>aw x ((a4.2.1 x).mp hx);have be:=a4.2.2;refine⟨D,kl,rfl,gD,by lia,a4.1,aOi ab,λB b2 J a2 a1 gB S pw=>?_⟩;have bc:=S.length_eq;have ak:H C=none:=a7.free (none_of s8 hC);have a0:C≠a:=hs.ne ak;have ae:=(aj.sm o).sm a1;have ad:=a1 _ _ (o _ _ g9);have b9:H B=none:=aj.free (none_of o a2);have b6:B≠a:=hs.ne b9;have aq:B≠C:=λz=>by rw[z,o _ _ g9] at a2;cases a2
 have ao:SqT K b2 t1 [.non,.int h0]:=a1.bA (o.bA (s9.bA (SqT.of g8)));refine⟨B,rfl,⟨_,SqL.of gB⟩,aTa (xs:=J.map kV) (λi σ n=>Fx a H n/\n B=some (.lst (J.map kV))/\∃g G l,n C=some (.lst g)/\cP (mH K n) g ((.non,h0)::G)/\G.map (·.1)=(J.take i).map kV/\(∀x∈G,0<=x.2/\x.2<m)/\σ=[some (.ref a),some (.ref b),some (.int m),some (.int a3),some (.str c.1),some (.str c.2),some (.ref L),some (.ref C),l]) ⟨ae,gB,_,[],none,ad,.cons ⟨t1,rfl,ao⟩ .nil,rfl,λx hx=>(by cases hx),rfl⟩ (λi σ n _ p=>SqL.of p.2.1) (λi x σ n Z p=>?_) fun σ n p=>?_⟩
 ·obtain⟨fx,a9,g,G,l,u,I,j,X,rfl⟩:=p;rw[m5] at Z;obtain⟨O,ah,rfl⟩:=Option.map_eq_some_iff.mp Z;have b3:=I.len;have b5:G.length<=4:=by have:=congrArg List.length j;rw[j0,j0,bAT] at this;lia
  rw[j8] at b3;refine⟨_,rfl,.inl ⟨rfl,_,SqL.of u⟩,_,rfl,_,rfl,_,rfl,a,m,rfl,fx.st,⟨by lia,by lia⟩,λhh al d az ay=>?_⟩;refine⟨by show 2<=sizeLine;decide,λt2 a6 W e Y=>?_⟩;have U:=e _ _ (d.same _ _ a0 u);have ai:=e _ _ (d.same _ _ b6 a9);have ar:t2≠C:=λz=>by rw[z,d.same _ _ a0 u] at W;cases W
  refine⟨C,_,_,rfl,rfl,U,oM (by lia),?_⟩;refine⟨((fx.trans d).sm e).upd ak a0,by rw[aJ aq];exact ai,g++[.ref t2],G++[(kV O,hh)],some (kV O),aH,?_,?_,λx hx=>?_,rfl⟩
  ·rw[<-bEB];exact (I.imp λ_ _ ⟨p',ep,hp⟩=>⟨p',ep,(e.bA (d.bA fx.st hp)).qG U⟩).app (.cons ⟨t2,rfl,SqT.of (by rw[aJ ar];exact Y)⟩ .nil)
  ·rw[bBU,j,bBR,ah,bBU];rfl
  ·rcases List.mem_append.mp hx with hx|hx
   ·exact X x hx
   ·rw[bCN] at hx;subst hx;exact⟨az,ay⟩
 ·obtain⟨fx,a9,g,G,l,u,I,j,X,rfl⟩:=p;rw[j0,bDU] at j;have b5:G.length=J.length:=by have:=congrArg List.length j;rw[j0,j0] at this;exact this
  refine⟨_,rfl,_,rfl,C,g,rfl,SqL.of u,λt3 al _ af bb=>⟨by show 3<=sizeLine;decide,λt4 a6 _ e Y=>?_⟩⟩;refine q _ a6 (.spans c.1 h0 G) ((fx.sm af).sm e) ⟨t4,.ref t3,rfl,SqT.of Y,t3,g,rfl,e.bA (SqT.of bb),I.imp λ_ _ z=>z.same (af.trans e)⟩ ⟨ag,c.2,lk,a5,⟨b0,as⟩,λx hx=>⟨?_,X x hx⟩,?_,by lia⟩
  ·have:x.1∈G.map (·.1):=bC8 hx;rw[j] at this;obtain⟨O,ax,av⟩:=List.mem_map.mp this;rw[<-av];exact ab O (S.mem_iff.mp ax)
  ·rw[j];exact List.pairwise_map.mpr (pw.imp λh=>aYx h)
def dJ.fx {a:Addr}{H H':Hp}{d:Addr}{es:List En}(f:Fx a H H')(h:gH H a)(hd:d≠a)(m:∀e∈es,e.L≠a)(b:dJ K H d es):dJ K H' d es:=by refine⟨f.same _ _ hd b.at_,b.nd,b.few,b.nm,λe c=>?_⟩;obtain⟨t,i,j,g,k,l⟩:=b.tb e c;exact⟨t,i,f.bA h j,g.tk (f.tk h),k.tk (f.tk h),l.fx f h (m e c)⟩
def yX {κ:Type}[DecidableEq κ]{kvs:List (κ × V)}{k:κ}{v:V}(h:∀kv∈kvs,kv.1≠k):putK kvs k v=kvs++[(k,v)]:=by unfold putK;rw[if_neg];intro z;obtain⟨kv,b,a⟩:=List.any_eq_true.mp z;exact h kv b (of_decide_eq_true a)
inductive aHu (K:bE4)(vs:List V)(H:Hp)(Q:VK)(E_:XK):Prop
 |mk (a N:Addr) (ns:List Str) (_:vs=[.ref a,.ref N,.int 6]) (_:gH H a) (_:H N=some (.lst (ns.map V.str))) (_:N≠a) (_:jZ ns) (_:∀t d (m:Int) es H',Fx a H H'->SqT K H' t [.int m,.ref d]->H d=none->1<=m->m<=6->dJ K H' d es->(∀e∈es,iV m e.t/\e.t.rows.length<=6/\H e.L=none)->2<=es.length->es.length<=3->es.map (·.n)=ns.take es.length->Q (.ref t) H')
def aD4 (T:Txt w K mg)(aK:Ok P w K mg base 1 "_law_next" n6 fK)(ai:Ok P w K mg base 2 "_law_head" bQF (aHw K))(zW:Ok P w K mg base 4 "_law_placing" t8 (vL K))(aj:Ok P w K mg base 4 "_law_row" bQB (aLy K)):Ok P w K mg base 5 "_law_town" u5 (aHu K):=by
 refine Ok.ofV T.aHt lZ (by trivial) (λf ak A a5 s H vs Q E hr h=>?_)
 obtain⟨a,N,j,rfl,hs,hN,nN,hn,q⟩:=h;have hu:=aF4 hr;have nd:=lZ.nd;refine⟨_,(aC (bJ 3 (bK dO aB (bI aK (aG (vv 0) (va1 aB))))) (aC (bJ 4 aGi) (aC (eO PassesOwn.never rfl (cZ (by rfl) T.eE (va1 (bK dO aB (bI aK (aG (vv 0) (va1 aB)))))) (cL 5) (aC (bJ 6 (bI ai (aG (vv 0) (va1 (vv 1))))) (aC (bJ 7 (bI zW (aG (vv 0) (aG (vv 6) (va1 (vv 3)))))) (aC (aEd (i0:=8) lZ.nd rfl (by trivial) (N:=["_law_j","_law_state","_law_head_here"]) ck (jP (aD nP)) rfl (cZ (by rfl) T.eE (va1 (bI aK (aG (vv 0) (va1 (bK dO (vv 2) aB)))))) (λcl s' o fp=>⟨(jB 0),dX,(bI aj (aG (vv 1) (va1 (vv 2))))⟩)) (aF (aFk hu (vv 4) (bO bN (vv 1) (vv 5)) (aM (aG (vv 6) (aG (vv 7) (va1 (vv 8))))))))))) (aF (aP (aM (aG (vv 3) (va1 (vv 4))))))))),?_⟩;have ah:=hn.1;refine⟨_,rfl,a,4,rfl,hs,by decide,λz H1 f1 z0 z1=>⟨_,_,rfl,rfl,λd H2 ae s2 g2=>?_⟩⟩;have Y:=f1.sm s2;have B:H d=none:=f1.free ae;have U:d≠a:=hs.ne B;refine⟨_,rfl,a,2,rfl,Y.st,by decide,λz2 H3 f3 al am=>⟨_,_,rfl,rfl,?_⟩⟩;have ad:=Y.trans f3;have g3:=f3.same _ _ U g2;have m1:1<=1+z:=by lia
 have m6:1+z<=6:=by lia
 refine⟨2+z2,rfl,by lia,by lia,?_⟩;obtain⟨n,en⟩:∃n:Nat,(2+z2).toNat=n:=⟨_,rfl⟩;rw[en];refine dH (n:=n) (λi σ o=>Fx a H o/\∃g l5 l6 l7 l8,dJ K o d g/\(∀e∈g,iV (1+z) e.t/\e.t.rows.length<=6/\H e.L=none)/\g.map (·.n)=j.take i/\σ=[some (.ref a),some (.ref N),some (.int 6),some (.int (1+z)),some (.ref d),l5,l6,l7,l8]) ⟨ad,[],none,none,none,none,⟨g3,List.nodup_nil,bAS _,λe h=>(by cases h),λe h=>(by cases h)⟩,λe h=>(by cases h),rfl,rfl⟩ (λi σ o hi p=>?_) fun σ o p=>?_
 ·obtain⟨M,g,l5,l6,l7,l8,hE,D,c,rfl⟩:=p;have a6:=M.same _ _ nN hN;refine⟨_,rfl,_,rfl,a,N,j,rfl,M.st,a6,nN,hn,λX H5 hd f5 hI W _=>?_⟩;refine⟨_,rfl,_,rfl,_,rfl,a,X,hd,1+z,rfl,f5.st,hI,W,m1,m6,λvp H6 pl I ab a3=>?_⟩;have Z:=hI.tk (I.tk (K:=K) f5.st);dsimp only[bU,aAg,wY];refine aIv [none,some (.ref a),some X] (aLp 0 6 (by trivial) (by trivial) rfl rfl rfl rfl (by trivial) (by trivial)) ?_;refine⟨_,rfl,_,rfl,_,_,rfl,rfl,a,_,rfl,I.st,(by show (0:Int)<6+1/\(6:Int)+1<2 ^ 64;decide),λy H7 f7 y0 y1=>?_⟩;have y1:y<6+1:=y1;refine⟨y,rfl,by lia,by lia,?_⟩;have aa:=Z.tk (f7.tk (K:=K) I.st);refine aB1 (Fx a) (aPs f7.st) ((List.range y.toNat).map λi:Nat=>V.int (0+(i:Int))) (λ_=>true) (λ_ o y=>∃r,mL K o y r/\yK hd r) (λf1 Y ⟨r,⟨p,e,hp⟩,h⟩=>⟨r,⟨p,e,Y.bA f1.st hp⟩,h⟩) (λ_ _ gD ⟨r,⟨p,e,hp⟩,h⟩=>⟨r,⟨p,e,SqT.qG gD hp⟩,h⟩) (λi σ=>∃x,σ=[some x,some (.ref a),some X]) (fun σ=>∃l,σ=[l,some (.ref a),some X]) ⟨none,rfl⟩ (small (by rw[j0,bAL];lia)) (Itr 0 y.toNat) (λo i x _ ex=>?_) (λo _=>?_) (λi x σ' o Q' ex ps f' r=>?_) (λi x σ2 ex at2 o R f' r=>r o (Fx.refl f'.st)) (λi x σ2 ex at2 _ o R f' r=>?_) λL H8 ys f8 fL gL a2=>?_
  ·obtain⟨hi,rfl⟩:=aRa ex;exact⟨hi,λy H2 hy=>hy⟩
  ·show y.toNat<=_;rw[j0,bAL];exact j5 _
  ·obtain⟨l,rfl⟩:=ps;exact r _ ⟨some x,rfl⟩ ⟨x,rfl⟩
  ·obtain⟨x',rfl⟩:=at2;exact⟨_,rfl,_,rfl,a,X,hd,rfl,f'.st,aa.tk (f'.tk f7.st),W,λt H2 r' Y g2 hk=>r _ H2 Y ⟨r',⟨t,rfl,SqT.of g2⟩,hk⟩⟩
  rw[kZ,j0,bAL] at a2;obtain⟨ly,hy⟩:=iT a2;obtain⟨u,G,a8⟩:=aM6 (ys:=ys) λy hm=>by obtain⟨i,hi⟩:=List.mem_iff_getElem?.mp hm;exact hy i y hi
  have ag:=G.len;have F:=f7.trans f8;have a0:=(M.trans f5).trans (I.trans F);have a4:H L=none:=(M.trans f5).free (I.free (f7.free fL));refine⟨_,rfl,_,rfl,_,rfl,by show 3<=sizeLine;decide,λt H9 an S g9=>?_⟩;have J:i<j.length:=by lia
  have a7:=S _ _ (a0.same _ _ nN hN);have af:dJ K H8 d g:=hE.fx ((f5.trans I).trans F) M.st U λe he=>hs.ne (D e he).2.2;have C:=af.same S;have lE:g.length=i:=by have:=congrArg List.length c;rw[j0,bAT] at this;lia
  refine⟨_,rfl,_,rfl,_,rfl,N,_,_,.str j[i],rfl,rfl,SqL.of a7,?_,d,_,rfl,aJj.k (k:=Sum.inr j[i]) C.at_ (by rw[jL];exact qY (by lia)),?_⟩
  ·rw[Int.zero_add];exact bV (by rw[m5,b8 J];rfl)
  have tk:j.take (i+1)=j.take i++[j[i]]:=by rw[bBR,b8 J];rfl
  have O:(j.take (i+1)).Nodup:=hn.2.2.sublist (bEZ _ _);have a9:∀e∈g,e.n≠j[i]:=λe he z=>by rw[tk,<-c] at O;exact (List.nodup_append.mp O).2.2 _ (bC8 he) _ v4 z
  obtain⟨b,m⟩:∃b:En,(⟨j[i],.ref t,X,vp,L,⟨hd,pl,u⟩⟩:En)=b:=⟨_,rfl⟩;have ek:putK (enK g) (Sum.inr j[i]) (.ref t)=enK (g++[b]):=by
   rw[yX λkv a1=>by unfold enK at a1;obtain⟨e,he,rfl⟩:=List.mem_map.mp a1;exact λz=>a9 e he (Sum.inr.inj z)]
   unfold enK;rw[bBU,<-m];rfl
  rw[ek];have nz:dY H9 d:=dY.dK C.at_;have bz:But d H9 (L2.upd H9 d (.dK (enK (g++[b])))):=But.upd;have ac:pA K H9 b.v b.vh b.vp b.L b.t:=by rw[<-m];exact⟨t,rfl,SqT.of g9,(Z.tk (F.tk I.st)).same S,(ab.tk (F.tk I.st)).same S,ys,S _ _ gL,G.imp λ_ _ z=>z.same S⟩
  refine⟨(a0.sm S).upd B U,g++[b],_,_,_,_,⟨aH,?_,?_,λe he=>?_,λe he=>?_⟩,λe he=>?_,?_,rfl⟩
  ·rw[bBU,c,<-m];show (j.take i++[j[i]]).Nodup;rw[<-tk];exact O
  ·rw[bAD];show g.length+1<=60;lia
  ·rcases List.mem_append.mp he with he|he
   ·exact C.nm e he
   ·rw[bCN] at he;rw[he,<-m];exact hn.2.1 _ (bBH J)
  ·rcases List.mem_append.mp he with he|he
   ·exact bz.tb nz (C.tb e he)
   ·rw[bCN] at he;rw[he];exact bz.tb nz ac
  ·rcases List.mem_append.mp he with he|he
   ·exact D e he
   ·rw[bCN] at he;rw[he,<-m];exact⟨⟨W,a3,by show u.length<=60;lia,a8⟩,by show u.length<=6;lia,a4⟩
  ·rw[bBU,c,tk,<-m];rfl
 ·obtain⟨M,g,l5,l6,l7,l8,hE,D,c,rfl⟩:=p;have lE:g.length=n:=by have:=congrArg List.length c;rw[j0,bAT] at this;lia
  exact⟨_,rfl,_,rfl,by show 2<=sizeLine;decide,λt H5 _ s5 g5=>q t d (1+z) g H5 (M.sm s5) (SqT.of g5) B m1 m6 (hE.same s5) D (by lia) (by lia) (by rw[lE];exact c)⟩
end
end My
namespace L2
open PySem PySem.Spec PyProof.Rows Builtin Builtin.ObjectAttr
section
variable {prog:Program}{w:World}{A:Around}{E:bE5}{s:Shared}{K:bE4}{C fI e:Addr}
def aBh (X:K.In s.heap)(c:XC K C fI){vs:Array Value}{dx:Option Addr}{D:Value}{b:Bool}{dep:Int}{tk:Tok}{Q:Fin->Shared->Prop}(I:s.heap.get? e=some { cls:=.ref C,dict:=dx,data:=.fields vs })(hd:∀a,dx=some a->∃o,s.heap.get? a=some o)
  (R:PySem.W.Looks (model prog w) s.heap (typeOf D) (.type "type")) (hT:PySem.W.Looks (model prog w) s.heap (isType D) true) (l:PySem.W.mroIn K C D=some b) (z:∀t,Q (.done (.ret (.bool b))) { s with toks:=t }) :
  wpAny (model prog w) A (Builtin.«isinstance.nested» ⟨[.ref e,D,.int dep tk],[]⟩) Q E s:=by
 obtain⟨S,y,x,m,U,L,v,hA⟩:=aSo c;have j:PySem.W.mroIn K C (.ref C)=some true:=by unfold PySem.W.mroIn;rw[x,bAX,if_neg (by rw[m];simp),m];simp
 obtain⟨h,g,d,t,n⟩:=s;have T:PySem.W.Looks (model prog w) h (typeOf (.ref e)) (.ref C):=(PySem.W.Looks.ld I).andThen .now;have k:=PySem.W.looks_mroIn (M:=model prog w) X l;have H:PySem.W.Looks (model prog w) h (isInstance (.ref e) D) b:=T.andThen k;unfold Builtin.«isinstance.nested»;refine b7 (T.at ?_);by_cases q:(Value.ref C == D)=true
 ·rw[if_pos q];have F:=beq_iff_eq.mp q;subst F;rw[j] at l;cases l;exact b7 (bCU (b7 (d8 (d8 (z t)))))
 ·rw[if_neg q];refine b7 (R.at ?_);rw[if_pos (by decide)];have P:∀{i:Bool->Shared->Prop} {p:bE5} {r:Around},(∀t,i b ⟨h,g,d,t,n⟩)->wpAny (model prog w) r (do
    if !(<-isType D) then
     if <-Builtins.hasBases D then unsupported "isinstance:class-by-__bases__"
     rule "isinstance.not-a-class";raiseError "TypeError" "isinstance() arg 2 must be a type, a tuple of types, or a union"
    if <-isInstance (.ref e) D then return true
    let some c <-getAttr? (.ref e) "__class__"|return false
    if !(<-isType c) then return false
    rule "isinstance.by-__class__";isSubtype c D) i p ⟨h,g,d,t,n⟩:=by
   intro i p r f;refine b7 (hT.at ?_);rw[if_neg (by decide)];refine b7 (H.at ?_);cases b with
   |true=>rw[if_pos rfl];exact d8 (f t)
   |false=>
    rw[if_neg (by decide)];refine b7 (aLv X c I hd ?_);dsimp only;have tC:PySem.W.Looks (model prog w) h (isType (.ref C)) true:=by obtain⟨nm,q,N,bs,y,sn,B,J,G,dd,O,Y,V,k3,Z,u,-⟩:=c.at_;exact (PySem.W.Looks.ld (X _ _ u)).andThen .now
    refine b7 (tC _ _ _ _ (λ_ _ e=>e) ?_);rw[if_neg (by decide)];exact b7 (bCU (k _ _ _ _ (λ_ _ e=>e) (f _)))
  exact b7 (P λt=>d8 (z t))
def aUk {M:Model}{h:Heap}{D:Addr}(k:K.In h)(c:XS K D):PySem.W.Looks M h (isType (.ref D)) true:=by
 obtain⟨b,q⟩:=Option.isSome_iff_exists.mp c.cls;unfold PySem.W.clsIn at q
 split at q
 ·rename_i a;exact (PySem.W.Looks.ld (k _ _ a)).andThen .now
 ·cases q
def XP (K:bE4)(e C dx:Addr)(vs:Array Value)(s:Shared):Prop:=K.In s.heap/\s.heap.get? e=some { cls:=.ref C,dict:=some dx,data:=.fields vs }/\∃o,s.heap.get? dx=some o
def aOy (c:XC K C fI){D dx:Addr}{vs:Array Value}{b:Bool}(h:XS K D)(j:PySem.W.mroIn K C (.ref D)=some b):Answers (XP K e C dx vs) (.ref e) (.ref D) b:=
 λg i f w A R s d=>aBh d.1.1 c d.1.2.1 (λa z=>by cases z;exact d.1.2.2) (PySem.W.looks_typeIn d.1.1 h.ty) (aUk d.1.1 h) j λt=>d.2 t
theorem tD (c:XC K C fI){dx:Addr}{vs:Array Value}:∀{Ds:List Addr},(∀D∈Ds,XS K D/\PySem.W.mroIn K C (.ref D)=some false)->AnswersAll (XP K e C dx vs) (.ref e) (Ds.map Value.ref) (Ds.map λ_=>false)
 |[],_=>trivial
 |D::Ds,h=>⟨aOy c (h D (v4 ..)).1 (h D (v4 ..)).2,tD c λa m=>h a (j9 _ m)⟩
def aHh (c:XC K C fI){vs:Array Value}{dx i:Addr}{o:Obj}{n:Nat}{tk:Tok}{Ds:List Addr}{Q:Fin->Shared->Prop}(l:XP K e C dx vs s)
  (j:s.heap.get? i=some o) (r:o.cls=.type "tuple") (hd:o.data=.seq (Ds.map Value.ref).toArray n) (J:∀D∈Ds,XS K D/\PySem.W.mroIn K C (.ref D)=some false)
  (R:∀t,Q (.done (.ret (.bool false))) { s with toks:=t }) :
  wpAny (model prog w) A (Builtin.«isinstance.nested» ⟨[.ref e,.ref i,.int 0 tk],[]⟩) Q E s:=by
 obtain⟨h,g,d,t,Y⟩:=s;have X:K.In h:=l.1;have T:PySem.W.Looks (model prog w) h (typeOf (.ref e)) (.ref C):=(PySem.W.Looks.ld l.2.1).andThen .now;have f:PySem.W.Looks (model prog w) h (typeOf (.ref i)) (.type "tuple"):=r ▸ (PySem.W.Looks.ld j).andThen .now;have p:¬ (Value.ref C == Value.ref i)=true:=by intro z;have z:=beq_iff_eq.mp z;cases z;obtain⟨nm,q,N,bs,L,U,u,H,y,Z,I,O,M,V,S,m,-⟩:=c.at_;have k:=X _ _ m;rw[show h.get? C=some o from j] at k;cases k;exact absurd r (by intro z;injection z with z;exact absurd z (by decide))
 unfold Builtin.«isinstance.nested»;refine b7 (T.at ?_);rw[if_neg p];refine b7 (f.at ?_);rw[if_neg (by decide)];unfold Builtins.unionMembers;refine b7 (b7 (f.at ?_));rw[if_neg (by decide)];refine d8 ?_;have B:PySem.W.Looks (model prog w) h (isInstance (.ref i) (.type "tuple")) true:=f.andThen (PySem.W.Looks.of_pure F.isi_sub_tuple);have x:PySem.W.Looks (model prog w) h (seqItems? (.ref i)) (some (Ds.map Value.ref).toArray):=(PySem.W.Looks.ld j).andThen (by rw[hd];exact .now);refine b7 (B.at ?_);rw[if_pos rfl];dsimp only;rw[if_neg (by decide)];refine b7 (x.at (b7 ?_));rw[bBP];have G:∀{F:Value->Option Fin × Unit->Sem (ForInStep (Option Fin × Unit))} {b:Option Fin × Unit},forIn (Ds.map Value.ref).toArray b F=forIn (Ds.map Value.ref) b F:=by intros;simp
 rw[G];refine isinstance_items (dep:=0) (P:=XP K e C dx vs) (λs tk h=>h) (Ds.map Value.ref) (Ds.map λ_=>false) _ _ (tD c J) l λa=>?_;have v:((Ds.map λ_=>false).any id)=false:=by rw[List.any_map];simp
 rw[v,if_neg (by decide)];exact d8 (R a)
end
section
variable {X:Cx}{K:bE4}
def bB5 (K:bE4):List V->Hp->VK->Prop:=λxs H Q=>∃(e T C dx fI t:Addr) (Ds:List Addr),xs=[.ref e,.ref t]/\H e=some (wU e T C dx)/\XC K C fI/\H dx=some xdA/\SqT K H t (Ds.map V.ref)/\(∀D∈Ds,XS K D/\PySem.W.mroIn K C (.ref D)=some false)/\Q (.bl false) H
def aRi {a:List Addr}{us:List Value}(h:Vals (a.map V.ref) us):us=a.map Value.ref:=by
 induction a generalizing us with
 |nil=>cases h;rfl
 |cons D a ih=>
  cases h with
  |cons r t=>rw[bAC,ih t];exact congrArg (·::_) r
def aT2 (v:X.K=K:=by rfl):bR X (.builtin "isinstance") (bB5 K):=by
 subst v;rintro bE8 s σ H xs us Q I r ⟨e,T,C,dx,fI,tp,Ds,rfl,he,c,hd,ht,hD,q⟩;cases r with
 |cons r0 r1=>
  cases r1 with
  |@cons _ u2 _ _ r2 r3=>
   cases r3;obtain rfl:=r0;obtain rfl:u2=Value.ref tp:=r2;obtain⟨m,a,x,l⟩:=(I.hok e _ he).1;have d:∃o,s.heap.get? dx=some o:=by obtain⟨u,⟨o,_,_,b,_⟩,_⟩:=I.hok dx _ hd;exact⟨o,b⟩
   obtain⟨p,k,⟨o,b,f,n,h⟩,_⟩:=I.tuple ht;obtain rfl:=aRi k;have g:Meets (Builtin.«isinstance» ⟨[.ref e,.ref tp],[]⟩) (λ_ R s=>XP X.K e C dx m s/\s.heap.get? tp=some o/\∀t,R (.ok (.ret (.bool false))) { s with toks:=t }):=
    λj w A R s i=>isinstance_outer (aHh c i.1 i.2.1 f h hD λt=>i.2.2 t) (by intro z;cases z)
   exact call_isinstance g ⟨⟨I.kIn,a,d⟩,b,λt=>⟨.bl false,H,I.tok t,rfl,q⟩⟩
end
end L2
namespace My
open PySem PySem.Spec PyProof.Rows L2
section
variable {P:Program}{w:World}{K:bE4}{mg:bE7}{base:Heap}
def aMy {S R:TS}{D:Ends}{σ:L2.St}{H:Hp}(J:L2.St->Hp->Prop)(b:∀N:L2.St->Hp->Prop,(∀σ' H',J σ' H'->N σ' H')->S { D with nx:=N } σ H)(a:∀σ' H',J σ' H'->R D σ' H'):aAg S R D σ H:=b _ a
def aRe {S:Addr}{i:Nat}{tb:L2.St->XK->TS}{th:TS}{D:Ends}{σ:L2.St}{H:Hp}(EX:XK)(b:∀E:XK,(∀v o H₁,EX v o H₁->E v o H₁)->tb σ E D σ H)(a:∀v o H₁,EX v o H₁->exE K S i th D σ v o H₁):aP8 K S i tb th D σ H:=b _ a
def aF7 {H:Hp}{e T C dx:Addr}(n:H e=none)(a:H T=none):Same H (up2 H e T C dx):=λb o h=>by unfold up2;rw[aJ (aV h n),aJ (aV h a)];exact h
def Tbs.same {H H':Hp}{v:V}{o:Option (List (Key × Tg))}(s:Same H H')(h:Tbs K H v o):Tbs K H' v o:=by
 cases o with
 |none=>obtain⟨t,a,c⟩:=h;exact⟨t,a.same s,c⟩
 |some kts=>obtain⟨d,b,e,a,c,f⟩:=h;exact⟨d,b,e,s _ _ a,c,f.imp λ_ _ z=>⟨z.1,z.2.1,z.2.2.same s⟩⟩
structure aSs (K:bE4)(mg:bE7)(S:Addr)(ad:Exn->Addr):Prop where
 sm:mg "ShardError"=some (.ref S)
 ss:XS K S
 ex:∀c,ExT K mg fY c.nm "ShardError.__init__" (ad c) S
 mro:∀c d,PySem.W.mroIn K (ad c) (.ref (ad d))=some (decide (c=d))
 ve:∀c,PySem.W.mroIn K (ad c) (.type "ValueError")=some true
inductive aM1 (K:bE4)(Pt:Addr)(vs:List V)(H:Hp)(Q:VK)(E_:XK):Prop
 |mk (way:Int) (vm vd:V) (_:vs=[.int way,vm,vd]) (_:H Pt=some (.tab qC)) (_:((∃d m es,vm=.int m/\vd=.ref d/\1<=m/\m<=6/\dJ K H d es/\(∀e∈es,iV m e.t)/\∀l H',Same H H'->H' l=some (.lst [])->Q (.ref l) H') \/
 ∃tm o,bF K H vm tm/\Tbs K H vd o/\pW tm o=false/\∀l H',Same H H'->H' l=some (.lst [.bl true,.bl true,.bl false,.bl true])->Q (.ref l) H'))
def aDl (T:Txt w K mg){C CS Pt S:Addr}{j:Exn->Addr}(N:aSs K mg S j)(a0:aEz P w K mg base C 11 "Town" n8 (aLn K C Pt (j .bad)))(Z:aEz P w K mg base CS 11 "Store" n8 (aGc K CS Pt (j .bad))):Ok P w K mg base 13 "_law_made" bQA (aM1 K Pt):=by
 refine Ok.ofV T.aHp lV (by trivial) (λf af A aa s H vs Q E hr h=>?_)
 obtain⟨a8,vm,vd,rfl,hP,h⟩:=h;have c:=N.sm;have g:=N.ss;have k:∃u,mg "BadTown"=some u/\RelV (.ref (j .bad)) u:=⟨_,(N.ex .bad).mg,rfl⟩;have r:∃u,mg "NoTable"=some u/\RelV (.ref (j .tab)) u:=⟨_,(N.ex .tab).mg,rfl⟩;have p:∃u,mg "NoHouse"=some u/\RelV (.ref (j .house)) u:=⟨_,(N.ex .house).mg,rfl⟩;have y:=(N.ex .bad).cls;have b:=aE2;have nd:=lV.nd;refine⟨_,(aC (bJ 3 (aX fC)) (aC (aP4 (i:=4) rfl rfl lV.nd rfl rfl (by rfl) c g (λac σ₀ E ok=>(aF (cF (eY cV (vv 0) aB) (aF (dR (aCp ok (a0.mono (by decide)) hr (by rfl) (aG (vv 1) (va1 (vv 2)))))) (aF (dR (aCp ok (Z.mono (by decide)) hr (by rfl) (aG (vv 1) (va1 (vv 2))))))))) (λe=>(aF (bJ 3 (aX (aG (aO (sS (K:=K) y) (by rfl) T.aY aW (aG (vv 4) (va1 (iG (by rfl) k)))) (aG (aO (aL3 (K:=K)) (by rfl) T.aY aW (aG (vv 4) (va1 (dB (v:=.ty "ValueError") (by rfl) T.lL b rfl)))) (aG (aO (aT2 (K:=K)) (by rfl) T.aY aW (aG (vv 4) (va1 (aM (aG (iG (by rfl) p) (va1 (iG (by rfl) r))))))) (va1 (lH aQq (aPo (K:=K) (vv 4)) cY)))))))))) (aF (aP (vv 3))))),?_⟩;obtain⟨R,qR,h⟩:∃R,(∀l G,Same H G->G l=some (.lst R)->Q (.ref l) G)/\((R=[]/\∃d m X,vm=.int m/\vd=.ref d/\1<=m/\m<=6/\dJ K H d X/\∀e∈X,iV m e.t)\/(R=[.bl true,.bl true,.bl false,.bl true]/\∃tm o,bF K H vm tm/\Tbs K H vd o/\pW tm o=false)):=by
  rcases h with⟨d,m,X,a1,a2,a3,a4,a5,a6,q⟩|⟨tm,o,a1,a2,a3,q⟩
  ·exact⟨_,q,.inl ⟨rfl,d,m,X,a1,a2,a3,a4,a5,a6⟩⟩
  ·exact⟨_,q,.inr ⟨rfl,tm,o,a1,a2,a3⟩⟩
 refine⟨(by show 0<=sizeLine;decide),λl H1 fl z g1=>?_⟩;dsimp only[bU,List.set];refine aMy (S:=aP8 _ _ _ _ _) (fun σ G=>∃l',σ=[some (.int a8),some vm,some vd,some (.ref l'),none]/\Same H G/\G l'=some (.lst R)) (λNX hN=>aRe (λv o H₁=>R=[.bl true,.bl true,.bl false,.bl true]/\∃e,v=.ref (j .bad)/\o=some e/\Same H1 H₁) (λE hE=>?_) λv o H₁ hv=>?_) fun σ' G hJ=>?_
 ·refine⟨_,rfl,rfl,_,rfl,?_⟩;cases decide (V.int a8=V.int 0) with
  |true=>
   refine bZ ⟨rfl,_,rfl,_,rfl,λx dx L M ab=>?_⟩;have I:=λo=>dN (o:=o) L (aR M (.own x));rcases h with⟨O,d,m,X,rfl,rfl,m1,m6,Y,ok⟩|⟨O,tm,o,h1,h2,hT⟩
   ·exact .inl ⟨H1,x,dx,d,m,X,rfl,aH,L,I _,m1,m6,Y.same z,ok,z _ _ hP,λd' G ae _ J _ _=>⟨rfl,hN _ _ ⟨l,rfl,z.trans J,by rw[O];exact J _ _ g1⟩⟩⟩
   ·exact .inr ⟨x,vm,vd,rfl,tm,o,(h1.same z).same (I _),(h2.same z).same (I _),I _ _ _ (z _ _ hP),hT,λa G J=>hE _ _ _ ⟨O,a,rfl,rfl,(I _).trans J⟩⟩
  |false=>
   refine cA ⟨rfl,_,rfl,_,rfl,λx dx L M ab=>?_⟩;have I:=λo=>dN (o:=o) L (aR M (.own x));rcases h with⟨O,d,m,X,rfl,rfl,m1,m6,Y,ok⟩|⟨O,tm,o,h1,h2,hT⟩
   ·exact .inl ⟨H1,x,dx,d,m,X,rfl,aH,L,I _,m1,m6,Y.same z,ok,z _ _ hP,λG J=>⟨rfl,hN _ _ ⟨l,rfl,z.trans J,by rw[O];exact J _ _ g1⟩⟩⟩
   ·exact .inr ⟨x,vm,vd,rfl,tm,o,(h1.same z).same (I _),(h2.same z).same (I _),I _ _ _ (z _ _ hP),hT,λa G J=>hE _ _ _ ⟨O,a,rfl,rfl,(I _).trans J⟩⟩
 ·obtain⟨O,e,rfl,rfl,s2⟩:=hv;obtain⟨⟨fI,fd,xc,F,B⟩,mc,kp,hc,a7⟩:=N.ex .bad;refine⟨j .bad,e,fI,rfl,rfl,xc,a7,λTb dx n nT ag hd=>?_⟩;have su:=aF7 (C:=j .bad) (dx:=dx) n nT;have he:up2 H₁ e Tb (j .bad) dx e=some (wU e Tb (j .bad) dx):=aH;have U:up2 H₁ e Tb (j .bad) dx dx=some xdA:=su _ _ hd;have sa:Same H1 (up2 H₁ e Tb (j .bad) dx):=s2.trans su;generalize up2 H₁ e Tb (j .bad) dx=H2 at he U sa ⊢;refine⟨_,rfl,e,Tb,j .bad,dx,fI,_,rfl,he,xc,U,N.mro .bad .bad,trivial,?_⟩;refine⟨_,rfl,e,Tb,j .bad,dx,fI,_,rfl,he,xc,U,N.ve .bad,trivial,?_⟩;refine⟨_,rfl,(by show 2<=sizeLine;decide),λp3 H3 f3 s3 g3=>?_⟩;have a9:=s3 _ _ he;have W:=s3 _ _ U;refine⟨e,Tb,j .bad,dx,fI,p3,[j .house,j .tab],rfl,a9,xc,W,SqT.of g3,?_,?_⟩
  ·intro D hD;simp only[bAE,v8,or_false] at hD;rcases hD with rfl|rfl <;> exact⟨(N.ex _).cls,N.mro _ _⟩
  refine⟨_,rfl,e,Tb,j .bad,dx,fI,rfl,a9,xc,W,rfl,(by show 4<=sizeLine;decide),λl4 H4 f4 s4 g4=>?_⟩;exact hN _ _ ⟨l4,rfl,z.trans (sa.trans (s3.trans s4)),by rw[O];exact g4⟩
 ·obtain⟨l',rfl,J,g'⟩:=hJ;exact⟨_,rfl,qR l' G J g'⟩
def aYw {X:Cx}{K:bE4}{o e:Expr}{es:List Expr}{to:TE}{t:TA}{name:Str}{apos cpos:Pos}{T id:String}{r:V->List V->Hp->VK->Prop}(h:PlainAttrs T)(slot:Slot T name id)(f:typeOf (.builtin id)=pure (.type "method_descriptor"))(l:MtR X id r)(i:VE X o to)(g:VA X (e::es) t)
  (c:attributeBase o name X.env (eval o X.env)=eval o X.env:=by rfl)
  (d:((backTo cpos (starEach (e::es) X.env)).all (λx=>!x.1) && (backToKw cpos (keywordEach [] X.env)).all (λx=>x.1.isSome)
   && decide ((e::es).length+([]:List Keyword).length+(if ([]:List Keyword).isEmpty then 0 else 1)<30))=true:=by rfl)
  (b:(apos.endLine == cpos.line)=true:=by rfl) (k:cC e=true:=by rfl) (a:(backTo cpos (starEach es X.env)).any (·.1)=false:=by rfl) (j:X.K=K:=by rfl) :
  VE X (.Call (.Attribute o name apos) (e::es) [] cpos) (tBM K T r to t):=by subst j;exact vN h slot f l i g c d b k a
def Rc (c:Exn):List V:=[.bl (decide (c=.tab)),.bl (decide (c=.house)),.bl true,.bl (decide (c=.bad)),.bl true]
inductive aH8 (K:bE4)(C:Addr)(vs:List V)(H:Hp)(Q:VK)(E_:XK):Prop
 |mk (x d:Addr) (m way:Int) (es:List En) (v vo:V) (R:List V) (_:vs=[.ref x,.int way,v,vo]) (_:gZ K H C x m d es) (_:(∀l H',Same H H'->H' l=some (.lst R)->Q (.ref l) H')) (_:((R=[]/\∃e∈es,v=.str e.n/\∃house,vo=.int house/\0<=house/\house<m)\/(R=Rc .tab/\∃t,bF K H v t/\∀e∈es,t≠.str e.n)\/(R=Rc .house/\way=0/\∃e∈es,v=.str e.n/\∃t,bF K H vo t/\iB m t=false)))
def aBm (T:Txt w K mg){C S:Addr}{k:Exn->Addr}(W:aSs K mg S k)(Y:gQ P w K mg base C 5 "part" bQI (aLs K C (k .tab) (k .house)))(X:gQ P w K mg base C 4 "whole" u6 (sG K C (k .tab)))(N:gQ P w K mg base C 4 "placing" u6 (zG K C (k .tab))):Ok P w K mg base 6 "_law_asked" o7 (aH8 K C):=by
 refine Ok.ofV T.aD5 jU (by trivial) (λf a8 A a6 s H vs Q E hr h=>?_)
 obtain⟨x,d,m,a1,es,v,vo,R,rfl,hT,qR,h⟩:=h;have g:=W.sm;have j:=W.ss;have r:∃u,mg "BadTown"=some u/\RelV (.ref (k .bad)) u:=⟨_,(W.ex .bad).mg,rfl⟩;have G:∃u,mg "NoTable"=some u/\RelV (.ref (k .tab)) u:=⟨_,(W.ex .tab).mg,rfl⟩;have y:∃u,mg "NoHouse"=some u/\RelV (.ref (k .house)) u:=⟨_,(W.ex .house).mg,rfl⟩;have J:=(W.ex .bad).cls;have I:=(W.ex .tab).cls;have M:=(W.ex .house).cls;have b:=aE2;have nd:=jU.nd;refine⟨_,(aC (bJ 4 (aX fC)) (aC (aP4 (i:=5) rfl rfl jU.nd rfl rfl (by rfl) g j (λa7 σ₀ E ok=>(aF (cF (eY cV (vv 1) aB) (aF (dR (uG ok (Y.mono (by decide)) hr (vv 0) (aG (vv 2) (va1 (vv 3)))))) (aF (cF (eY cV (vv 1) aB) (aF (dR (uG ok (X.mono (by decide)) hr (vv 0) (va1 (vv 2))))) (aF (dR (uG ok (N.mono (by decide)) hr (vv 0) (va1 (vv 2)))))))))) (λe=>(aC (bJ 4 (aX (aG (aO (sS (K:=K) I) (by rfl) T.aY aW (aG (vv 5) (va1 (iG (by rfl) G)))) (aG (aO (sS (K:=K) M) (by rfl) T.aY aW (aG (vv 5) (va1 (iG (by rfl) y)))) (aG (aO (aL3 (K:=K)) (by rfl) T.aY aW (aG (vv 5) (va1 (dB (v:=.ty "ValueError") (by rfl) T.lL b rfl)))) (va1 (aO (sS (K:=K) J) (by rfl) T.aY aW (aG (vv 5) (va1 (iG (by rfl) r)))))))))) (aF (dR (aYw (K:=K) PySem.F.plainAttrs_list PySem.F.slot_list_append PySem.F.type_list_append fX (vv 4) (va1 (lH aQq (aPo (K:=K) (vv 5)) cY)))))))) (aF (aP (vv 4))))),?_⟩;refine⟨(by show 0<=sizeLine;decide),λl H1 fl s1 g1=>?_⟩;dsimp only[bU,List.set];refine aMy (S:=aP8 _ _ _ _ _) (fun σ p=>∃l',σ=[some (.ref x),some (.int a1),some v,some vo,some (.ref l'),none]/\Same H p/\p l'=some (.lst R)) (λNX hN=>aRe (λv o H₁=>∃c,R=Rc c/\∃e,v=.ref (k c)/\o=some e/\Same H1 H₁) (λE hE=>?_) λv o H₁ hv=>?_) fun σ' p hJ=>?_
 ·have a0:=hT.same s1;obtain⟨dx,a3⟩:=id a0.1;have a4:∀p,R=[]->Same H1 p->NX [some (.ref x),some (.int a1),some v,some vo,some (.ref l),none] p:=λp D O=>hN _ _ ⟨l,rfl,s1.trans O,by rw[D];exact O _ _ g1⟩;have a2:(R=Rc .tab/\∃t,bF K H v t/\∀e∈es,t≠.str e.n)->aGg K (k .tab) E H1 es v:=λ⟨D,t,h1,h2⟩=>⟨t,h1.same s1,h2,λa p O=>hE _ _ _ ⟨.tab,D,a,rfl,rfl,O⟩⟩;refine⟨_,rfl,rfl,_,rfl,?_⟩;by_cases w0:a1=0
  ·refine aCz (by rw[w0];rfl) ⟨rfl,_,rfl,x,dx,_,rfl,a3,rfl,_,rfl,_,rfl,x,d,m,es,v,vo,rfl,a0,?_⟩;rcases h with⟨D,e,q,Z,house,eo,h0,hm⟩|h|⟨D,_,e,q,Z,t,ht,hb⟩
   ·exact .inl ⟨e,q,Z,.inl ⟨house,eo,h0,hm,λL p O=>a4 p D O⟩⟩
   ·exact .inr (a2 h)
   ·exact .inl ⟨e,q,Z,.inr ⟨t,ht.same s1,hb,λa p O=>hE _ _ _ ⟨.house,D,a,rfl,rfl,O⟩⟩⟩
  ·refine sI (m9 λz=>w0 (V.int.inj z)) ⟨_,rfl,rfl,_,rfl,?_⟩;have h':(R=[]/\∃e∈es,v=.str e.n)\/(R=Rc .tab/\∃t,bF K H v t/\∀e∈es,t≠.str e.n):=by
    rcases h with⟨D,e,q,Z,_⟩|h|⟨_,z,_⟩
    ·exact .inl ⟨D,e,q,Z⟩
    ·exact .inr h
    ·exact absurd z w0
   cases decide (V.int a1=V.int 1) with
   |true=>
    refine bZ ⟨rfl,_,rfl,x,dx,_,rfl,a3,rfl,_,rfl,x,d,m,es,v,rfl,a0,?_⟩;rcases h' with⟨D,e,q,Z⟩|h
    ·exact .inl ⟨e,q,Z,λL p _ O _=>a4 p D O⟩
    ·exact .inr (a2 h)
   |false=>
    refine cA ⟨rfl,_,rfl,x,dx,_,rfl,a3,rfl,_,rfl,x,d,m,es,v,rfl,a0,?_⟩;rcases h' with⟨D,e,q,Z⟩|h
    ·exact .inl ⟨e,q,Z,λp O=>a4 p D O⟩
    ·exact .inr (a2 h)
 ·obtain⟨c,D,e,rfl,rfl,s2⟩:=hv;obtain⟨⟨fI,fd,xc,F,B⟩,mc,kp,hc,a5⟩:=W.ex c;refine⟨k c,e,fI,rfl,rfl,xc,a5,λTb dx n nT a9 hd=>?_⟩;have su:=aF7 (C:=k c) (dx:=dx) n nT;have q:up2 H₁ e Tb (k c) dx e=some (wU e Tb (k c) dx):=aH;have U:up2 H₁ e Tb (k c) dx dx=some xdA:=su _ _ hd;have sa:Same H1 (up2 H₁ e Tb (k c) dx):=s2.trans su;generalize up2 H₁ e Tb (k c) dx=H2 at q U sa ⊢;refine⟨_,rfl,e,Tb,k c,dx,fI,_,rfl,q,xc,U,W.mro c .tab,trivial,?_⟩;refine⟨_,rfl,e,Tb,k c,dx,fI,_,rfl,q,xc,U,W.mro c .house,trivial,?_⟩;refine⟨_,rfl,e,Tb,k c,dx,fI,_,rfl,q,xc,U,W.ve c,trivial,?_⟩;refine⟨_,rfl,e,Tb,k c,dx,fI,_,rfl,q,xc,U,W.mro c .bad,trivial,(by show 4<=sizeLine;decide),λl4 H4 f4 s4 g4=>?_⟩;refine⟨_,rfl,.inl ⟨rfl,_,SqL.of g4⟩,_,rfl,e,Tb,k c,dx,fI,rfl,s4 _ _ q,xc,s4 _ _ U,rfl,l4,_,_,rfl,rfl,g4,(by show 4<sizeLine;decide),?_⟩;exact hN _ _ ⟨l4,rfl,s1.trans (sa.trans (dN f4 s4)),by rw[D];exact aH⟩
 ·obtain⟨l',rfl,O,g'⟩:=hJ;exact⟨_,rfl,qR l' p O g'⟩
def rF {a:Addr}{H H':Hp}(h:gH H a)(f:Fx a H H'):Tst K H H':=by obtain⟨s,d,e,_⟩:=id h;refine⟨λb c g=>f.bA h g,λb c g n=>f.same b _ (λz=>?_) g,λb g=>f.same b _ (pN g e (by intro z;cases z)) g⟩;subst z;rw[e] at g;cases g;exact n _ _ rfl
def aKr {H:Hp}{v:V}{ts:List Tg}(h:bF K H v (.tup ts)):∃a vs,v=.ref a/\SqT K H a vs/\vs.length<=1000/\cB K H vs ts:=by
 cases h with
 |tup g l h=>exact⟨_,_,rfl,g,l,h⟩
def aRd {H:Hp}{v:V}{ts:List Tg}(h:bF K H v (.lst ts)):∃a vs,v=.ref a/\H a=some (.lst vs)/\vs.length<=1000/\cB K H vs ts/\∀i j,vs≠[.int i,.int j]:=by
 cases h with
 |lst g l h n=>exact⟨_,_,rfl,g,l,h,n⟩
def xT {H:Hp}{vs us:List V}{c rs:List Tg}(h:cB K H vs c)(k:cB K H us rs):cB K H (vs++us) (c++rs):=by
 induction c generalizing vs with
 |nil=>cases h;exact k
 |cons t c ih=>cases h with|cons a b=>exact .cons a (ih b)
def aQt {H:Hp}{vs:List V}{d:List Tg}(a:vs.length=d.length)(h:∀(i:Nat) (v:V) (t:Tg),vs[i]?=some v->d[i]?=some t->bF K H v t):cB K H vs d:=by
 induction d generalizing vs with
 |nil=>
  cases vs with
  |nil=>exact .nil
  |cons v vs=>cases a
 |cons t d ih=>
  cases vs with
  |nil=>cases a
  |cons v vs=>exact .cons (h 0 v t rfl rfl) (ih (by simpa using a) λi x y c b=>h (i+1) x y (by simpa using c) (by simpa using b))
def No2 (xs:List Tg):Prop:=∀i j,xs≠[.int i,.int j]
def aVk {H:Hp}{vs:List V}{ts:List Tg}(h:cB K H vs ts)(n:No2 ts):∀i j,vs≠[.int i,.int j]:=λi j z=>by
 subst z;cases h with
 |cons a b=>cases b with|cons c d=>cases d;cases a;cases c;exact n _ _ rfl
def aDq {H:Hp}{a:Addr}{vs:List V}{ts:List Tg}(g:H a=some (.lst vs))(h:cB K H vs ts)(n:No2 ts)(l:ts.length<=1000):bF K H (.ref a) (.lst ts):=.lst g (by rw[h.len];exact l) h (aVk h n)
def uK {H:Hp}{a:Addr}{vs:List V}{ts:List Tg}(g:SqT K H a vs)(h:cB K H vs ts)(l:ts.length<=1000):bF K H (.ref a) (.tup ts):=.tup g (by rw[h.len];exact l) h
section
variable {σ:L2.St}{H0:Hp}
abbrev RV:=Hp->V->Prop
def Bd (σ:L2.St)(H0:Hp)(t:TE)(R:RV):Prop:=∀(H:Hp) (Q:VK),Same H0 H->(∀v H',Same H H'->R H' v->Q v H')->t σ H Q
def BdA (σ:L2.St)(H0:Hp)(t:TA)(R:Hp->List V->Prop):Prop:=∀(H:Hp) (Q:List V->Hp->Prop),Same H0 H->(∀vs H',Same H H'->R H' vs->Q vs H')->t σ H Q
def TR (K:bE4)(t:Tg):RV:=λH v=>bF K H v t
def TRs (K:bE4)(ts:List Tg):Hp->List V->Prop:=λH vs=>cB K H vs ts
def Bd.at0 {t:TE}{R:RV}{Q:VK}(h:Bd σ H0 t R)(q:∀v H',Same H0 H'->R H' v->Q v H'):t σ H0 Q:=h H0 Q (Same.refl _) q
def eZ {x:V}{t:Tg}(h:∀H,bF K H x t):Bd σ H0 (tC x) (TR K t):=λH Q s q=>q x H (Same.refl H) (h H)
def lB {x:Str}(a:x.length<=1000):Bd σ H0 (tC (.str x)) (TR K (.str x)):=eZ λH=>.str a
def pB {i:Nat}{v:V}{t:Tg}(h:σ[i]?=some (some v))(r:bF K H0 v t):Bd σ H0 (eX i) (TR K t):=λH Q s q=>⟨v,h,q v H (Same.refl H) (r.same s)⟩
def aU:BdA σ H0 qZ (TRs K []):=λH Q s q=>q [] H (Same.refl H) .nil
def aA {t:TE}{ts:TA}{x:Tg}{xs:List Tg}(h:Bd σ H0 t (TR K x))(f:BdA σ H0 ts (TRs K xs)):BdA σ H0 (cO t ts) (TRs K (x::xs)):=
 λH Q s q=>h H _ s λv d b r=>f d _ (s.trans b) λe g a c=>q _ _ (b.trans a) (.cons (bF.same a r) c)
def bC {ts:TA}{xs:List Tg}(h:BdA σ H0 ts (TRs K xs))(b:xs.length<=1000):Bd σ H0 (aR0 ts) (TR K (.tup xs)):=
 λH Q s q=>h H _ s λe g d r=>⟨small (by rw[cB.len r];exact b),λp f _ a c=>q _ _ (d.trans a) (uK (SqT.of c) (cB.same a r) b)⟩
def LP (K:bE4)(H0:Hp)(xs:List Tg):RV:=λH v=>∃p vs H1,v=.ref p/\H1 p=none/\Same H0 H1/\Same H1 H/\H p=some (.lst vs)/\cB K H1 vs xs
def jG {ts:TA}{xs:List Tg}(h:BdA σ H0 ts (TRs K xs))(g:xs.length<=1000):Bd σ H0 (aMs ts) (LP K H0 xs):=
 λH Q s q=>h H _ s λd f b r=>⟨small (by rw[cB.len r];exact g),λp i c a e=>q _ _ (b.trans a) ⟨p,d,f,rfl,c,s.trans b,a,e,r⟩⟩
def aM8 {t:TE}{xs:List Tg}(h:Bd σ H0 t (LP K H0 xs))(n:No2 xs)(d:xs.length<=1000):Bd σ H0 t (TR K (.lst xs)):=λH Q s q=>h H Q s λv c a ⟨p,f,i,e,_,_,b,g,r⟩=>q v c a (by rw[e];exact aDq g (r.same b) n d)
def qP {ts:TA}{xs:List Tg}(h:BdA σ H0 ts (TRs K xs))(n:No2 xs)(a:xs.length<=1000):Bd σ H0 (aMs ts) (TR K (.lst xs)):=aM8 (jG h a) n a
def LQ (K:bE4)(xs:List Tg):RV:=λH v=>∃p vs,v=.ref p/\H p=some (.lst vs)/\cB K H vs xs
def LQ.same {H H':Hp}{v:V}{xs:List Tg}(s:Same H H')(h:LQ K xs H v):LQ K xs H' v:=by obtain⟨p,a,e,g,r⟩:=h;exact⟨p,a,e,s _ _ g,r.same s⟩
def iQ {t:TE}{xs:List Tg}(h:Bd σ H0 t (LP K H0 xs)):Bd σ H0 t (LQ K xs):=λH Q s q=>h H Q s λv d a ⟨p,b,f,e,_,_,c,g,r⟩=>q v d a ⟨p,b,e,g,r.same c⟩
def aPm {i:Nat}{v:V}{xs:List Tg}(h:σ[i]?=some (some v))(r:LQ K xs H0 v):Bd σ H0 (eX i) (LQ K xs):=λH Q s q=>⟨v,h,q v H (Same.refl H) (r.same s)⟩
def aTw {t:TE}{xs:List Tg}(h:Bd σ H0 t (TR K (.lst xs))):Bd σ H0 t (LQ K xs):=λH Q s q=>h H Q s λv d c r=>q v d c (by obtain⟨a,b,e,g,_,r,_⟩:=aRd r;exact⟨a,b,e,g,r⟩)
def nA {t1 t2:TE}{xs ys:List Tg}(A:Bd σ H0 t1 (LQ K xs))(y:Bd σ H0 t2 (LQ K ys))(hl:xs.length+ys.length<=1000):Bd σ H0 (tOp aQi t1 t2) (LP K H0 (xs++ys)):=
 λH Q s q=>A H _ s λv j a l=>y j _ (s.trans a) λu k b i=>by obtain⟨p,f,rfl,o,d⟩:=l.same b;obtain⟨t,g,rfl,h,e⟩:=i;have w:=d.len;have x:=e.len;exact⟨p,t,f,g,rfl,rfl,o,h,small (by lia),λr z n c m=>q _ _ (a.trans (b.trans c)) ⟨r,f++g,k,rfl,n,s.trans (a.trans b),c,m,xT d e⟩⟩
def aZb {t1 t2:TE}{xs ys:List Tg}(A:Bd σ H0 t1 (TR K (.tup xs)))(y:Bd σ H0 t2 (TR K (.tup ys)))(o:xs.length+ys.length<=1000):Bd σ H0 (tOp (aW0 K) t1 t2) (TR K (.tup (xs++ys))):=
 λH Q s q=>A H _ s λv h b i=>y h _ (s.trans b) λu x c g=>by obtain⟨p,k,rfl,m,_,d⟩:=aKr (i.same c);obtain⟨n,l,rfl,f,_,e⟩:=aKr g;have t:=d.len;have w:=e.len;exact⟨p,n,k,l,rfl,rfl,m,f,small (by lia),λr z a j=>q _ _ (b.trans (c.trans a)) (uK j ((xT d e).same a) (by rw[bAD];exact o))⟩
def aIk {t:TE}{xs:List Tg}(h:Bd σ H0 t (LQ K xs))(f:xs.length<=1000):Bd σ H0 (tCB (aL2 K) (cO t qZ)) (TR K (.tup xs)):=
 λH Q s q=>h H _ s λv j c ⟨p,d,e,g,r⟩=>⟨p,d,by rw[e],SqL.of g,λl i _ a b=>q _ _ (c.trans a) (uK (SqT.of b) (r.same a) f)⟩
def uV {rest:L2.TS}{D:Ends}{H:Hp}{t:TE}{R:RV}{i:Nat}(h:Bd σ H t R)(k:∀v H',Same H H'->R H' v->rest D (σ.set i (some v)) H'):aAg (wY t (bU i)) rest D σ H:=h H _ (Same.refl H) λv H' s r=>k v H' s r
end
def aHl {a:List Tg}(h:a≠[]):kY (.tup (a++a))=false:=by
 cases a with
 |nil=>exact absurd rfl h
 |cons t ts=>unfold kY;rw[Bool.and_eq_false_iff];refine .inr (m9 λz=>?_);have e:hdH (.tup ((t::ts)++(t::ts)))=((t::ts)++(t::ts)).map λt=>(nmT t,kdT t):=rfl;rw[e,bBU,bBU] at z;exact (List.nodup_append.mp z).2.2 (nmT t) v4 (nmT t) v4 rfl
def pM {α:Type}{p:α->Bool}{x:α}{xs ys:List α}(h:p x=false):(xs++x::ys).all p=false:=by rw[List.all_append,bBS,h,bAG,bAV]
def aG5 {xs ys:List Tg}:No2 (xs++[.tup ys]):=λi j z=>by have e:=congrArg List.getLast? z;rw[List.getLast?_append] at e;cases e
def aRs {xs ys:List Tg}:No2 ([.lst xs]++ys):=λi j z=>by cases z
def aRl {m:Int}{a b c:Tg}:uU m (.tup [a,b,c])=(kY a && (mG (hdH a) m b && yR (hdH a) c)):=rfl
def yF {m:Int}{a b c:Tg}(h:kY a=false):uU m (.tup [a,b,c])=false:=by rw[aRl,h,bAG]
def aOo {m:Int}{a b c:Tg}(h:mG (hdH a) m b=false):uU m (.tup [a,b,c])=false:=by rw[aRl,h,bAG,bAV]
def uB {m:Int}{a b c:Tg}(h:yR (hdH a) c=false):uU m (.tup [a,b,c])=false:=by rw[aRl,h,bAV,bAV]
def aA6 (kd:Str):Tg:=if kd = "number" then .str "a" else .int 0
def aT7 {kd:Str}(h:wQ kd):iW kd (aA6 kd)=false:=by rcases h with rfl|rfl <;> decide +kernel
def aQa (kd:Str):V:=if kd = "number" then .str "a" else .int 0
def aZe {H:Hp}{a:Str}:bF K H (aQa a) (aA6 a):=by
 unfold aQa aA6;by_cases e:a = "number"
 ·rw[if_pos e,if_pos e];exact .str (by trivial)
 ·rw[if_neg e,if_neg e];exact .int
def aZ4 {a:Str}:atI [.int 0,.str "a"] (if decide (V.str a=V.str "number")=true then 1 else 0)=some (aQa a):=by
 unfold aQa;by_cases e:a = "number"
 ·rw[if_pos e,if_pos (m8 (by rw[e]))];rfl
 ·rw[if_neg e,if_neg (by rw[m9 λz=>e (V.str.inj z)];exact m7)];rfl
def aVj {hd:Hdr}(h:1<=hd.length)(a:∀c∈hd,Nm c.1/\wQ c.2):aJv hd (.tup (hd.map λc=>aA6 c.2))=false:=by
 cases hd with
 |nil=>cases h
 |cons c r=>have e:aJv (c::r) (.tup ((c::r).map λc=>aA6 c.2))=(decide (((c::r).map λc=>aA6 c.2).length=(c::r).length) && (iW c.2 (aA6 c.2) && ((r.map λc=>aA6 c.2).zip r).all λp=>iW p.2.2 p.1)):=rfl;rw[e,aT7 (a c v4).2,bAG,bAV]
inductive aIr (K:bE4)(vs:List V)(H:Hp)(Q:VK)(E_:XK):Prop
 |mk (a:Addr) (m:Int) (v vh vp:V) (L:Addr) (t:Tb) (_:vs=[.ref a,v]) (_:gH H a) (_:pA K H v vh vp L t) (_:iV m t) (_:∀u H' tg,Fx a H H'->bF K H' u tg->uU m tg=false->Q u H')
def tM (T:Txt w K mg)(aK:Ok P w K mg base 1 "_law_next" n6 fK):Ok P w K mg base 2 "_law_bad_table" bQJ (aIr K):=by
 refine Ok.ofV T.uY jM (by trivial) (λf ah A ab s H I Q E hr h=>?_)
 obtain⟨a,m,v,vh,e,L,t,rfl,hs,⟨x,rfl,gx,hI,hP,hR⟩,ok,q⟩:=h;obtain⟨th,k,e1,eh⟩:=aP0 hI ok.hd;obtain⟨tp,p1,_⟩:=aWs hP ok.pl;obtain⟨tr,r1,er⟩:=aDg ok.hd.1.2.2 hR ok.few ok.rows;obtain⟨hd,pl,ag⟩:=t;obtain⟨hH,_,ai,_⟩:=ok;dsimp only at *;obtain⟨B,rfl⟩:∃B,th=.tup B:=by cases th <;> first|exact⟨_,rfl⟩|cases e1
 obtain⟨M,rfl⟩:∃M,tr=.lst M:=by cases tr <;> first|exact⟨_,rfl⟩|cases er
 have lh:B.length=hd.length:=by rw[<-eh];exact (j0 _).symm
 obtain⟨⟨_,l1,l8⟩,hk⟩:=hH;have lr:M.length<=60:=by obtain⟨a',I,ea,g,_,z,_⟩:=aRd r1;cases ea;obtain⟨ys,g',al⟩:=hR;rw[g'] at g;cases g;have:=al.len;have:=z.len;lia
 have nd:=jM.nd;refine⟨_,(aC (oG (vv 1) (jT rfl (aZ (cL 2) (aZ (cL 3) (aZ (cL 4) dC))))) (aC (bJ 5 (bI aK (aG (vv 0) (va1 aB)))) (aC (bJ 6 (aX (aG (aM (aG (vv 2) (va1 (vv 3)))) (aG (aX (aG (vv 2) (aG (vv 3) (va1 (vv 4))))) (aG (aM (aG (aM fC) (aG (aM (va1 aQ)) (va1 (aX fC))))) (va1 (aM (aG (bK aV3 (vv 2) (vv 2)) (aG (vv 3) (va1 (aX fC))))))))))) (aC (dR (vN PySem.F.plainAttrs_list PySem.F.slot_list_append PySem.F.type_list_append fX (vv 6) (va1 (aM (aG (bW zT (by rfl) T.zX tG (va1 (vv 2))) (aG (vv 3) (va1 (aX fC)))))))) (aC (bJ 6 (bK fG (vv 6) (aX (aG (aM (aG (vv 2) (aG (vv 3) (va1 (bW gJ (by rfl) T.eF dG (va1 (vv 4))))))) (aG (aM (aG (vv 2) (aG (vv 3) (va1 (bK fG (vv 4) (aX (va1 (aM fC)))))))) (va1 (aM (aG (vv 2) (aG (vv 3) (va1 (bK fG (aX (va1 (vv 4))) (vv 4)))))))))))) (aC (cF (eY aP2 (vv 5) aB) (aF (aP (bO bN (vv 6) (vv 5)))) bB) (aF (aP (aM (aG (vv 2) (aG (vv 3) (va1 (bK fG (vv 4) (aX (va1 (bW gJ (by rfl) T.eF dG (va1 (dF (N:=["_law_name","_law_kind"]) ck gR rfl (oH (vv 2)) (λcl s' H' fp=>⟨(oR (K:=K) (n:=2) rfl (aZ (jB 0) (aZ (jB 1) dC))),dX,(bO (aSc (K:=K)) (aX (aG aB (va1 aQ))) (bW iJ (by rfl) T.yL qM (va1 (lH cV (vv 1) aQ))))⟩))))))))))))))))))),?_⟩;refine⟨_,rfl,x,_,rfl,gx,rfl,vh,_,rfl,e,_,rfl,.ref L,_,rfl,rfl,?_⟩;dsimp only[bU,List.set];refine⟨_,rfl,a,9,rfl,hs,⟨by decide,by decide⟩,λc H1 f1 c0 c9=>?_⟩;dsimp only[bU,List.set];have X:Tst K H H1:=rF hs f1;have k:=k.st X;have p1:=p1.st X;have r1:=r1.st X;have no:∀x y,No2 [x,y]->No2 [x,y]:=λ_ _ h=>h;have hl:B.length<=1000:=by lia
 have n0:No2 []:=λi j z=>by cases z
 have ae:=hI.tk (f1.tk hs);obtain⟨b,us,rfl,hb,hu⟩:=ae;obtain⟨b',a1,eb,gb,_,a0⟩:=aKr k;cases eb;have J:=pB (σ:=[some (.ref a),some (.ref x),some (.ref b),some e,some (.ref L),some (.int c),none]) (i:=2) rfl k;have O:=pB (σ:=[some (.ref a),some (.ref x),some (.ref b),some e,some (.ref L),some (.int c),none]) (i:=3) rfl p1;have V:=pB (σ:=[some (.ref a),some (.ref x),some (.ref b),some e,some (.ref L),some (.int c),none]) (i:=4) rfl r1;have B1:=bC (aA J (aA O aU)) (d9 rfl);have B2:=qP (aA J (aA O (aA V aU))) (λi j z=>by cases z) (d9 rfl);have B3:=bC (K:=K) (σ:=[some (.ref a),some (.ref x),some (.ref b),some e,some (.ref L),some (.int c),none]) (H0:=H1) (aA (bC aU (d9 rfl)) (aA (bC (aA (lB (x:="copies") (by trivial)) aU) (d9 rfl)) (aA (qP aU n0 (d9 rfl)) aU))) (d9 rfl);have B4:=bC (aA (aZb J J (by lia)) (aA O (aA (qP aU n0 (d9 rfl)) aU))) (d9 rfl);refine uV (jG (aA B1 (aA B2 (aA B3 (aA B4 aU)))) (d9 rfl)) λu H2 s2 ⟨p,I,ac,eu,fp,a6,a7,gp,a3⟩=>?_;subst eu;have a9:=a6.trans a7;refine⟨_,rfl,.inl ⟨rfl,_,SqL.of gp⟩,_,rfl,b,a1,rfl,.inr (a9.bA gb),λl H3 fl s3 gl=>⟨e,rfl,(by show 0<=sizeLine;decide),λl2 H4 f4 s4 g4=>⟨(by show 3<=sizeLine;decide),λS H5 f5 s5 g5=>⟨p,I,_,rfl,rfl,s5 _ _ (s4 _ _ (s3 _ _ gp)),(by rw[a3.len];show 4<sizeLine;decide),?_⟩⟩⟩⟩;have S6:Same ac (L2.upd H5 p (.lst (I++[.ref S]))):=dN fp (a7.trans (s3.trans (s4.trans s5)));have a8:L2.upd H5 p (.lst (I++[.ref S])) l=some (.lst a1):=by rw[aJ (aV gp fl).symm];exact s5 _ _ (s4 _ _ gl)
 have a5:L2.upd H5 p (.lst (I++[.ref S])) l2=some (.lst []):=by rw[aJ (aV (s3 _ _ gp) f4).symm];exact s5 _ _ g4
 have a2:L2.upd H5 p (.lst (I++[.ref S])) S=some (.tup [.ref l,e,.ref l2]):=by rw[aJ (aV (s4 _ _ (s3 _ _ gp)) f5).symm];exact g5
 have g6:L2.upd H5 p (.lst (I++[.ref S])) p=some (.lst (I++[.ref S])):=aH;generalize L2.upd H5 p (.lst (I++[.ref S]))=H6 at S6 a8 a5 a2 g6 ⊢;have d:Same H1 H6:=a6.trans S6;have nh:No2 B:=λi j z=>by rw[z] at e1;exact m7 e1
 have aa:LQ K _ H6 (.ref p):=⟨p,_,rfl,g6,xT (a3.same S6) (.cons (uK (SqT.of a2) (.cons (aDq a8 (a0.same d) nh hl) (.cons (p1.same d) (.cons (aDq a5 .nil n0 (d9 rfl)) .nil))) (d9 rfl)) .nil)⟩;have J:=pB (σ:=[some (.ref a),some (.ref x),some (.ref b),some e,some (.ref L),some (.int c),some (.ref p)]) (i:=2) rfl (k.same d);have O:=pB (σ:=[some (.ref a),some (.ref x),some (.ref b),some e,some (.ref L),some (.int c),some (.ref p)]) (i:=3) rfl (p1.same d);have V:=pB (σ:=[some (.ref a),some (.ref x),some (.ref b),some e,some (.ref L),some (.int c),some (.ref p)]) (i:=4) rfl (r1.same d);have C1:=bC (aA J (aA O (aA (aIk (aTw V) (by lia)) aU))) (d9 rfl);have C2:=bC (aA J (aA O (aA (aM8 (nA (aTw V) (iQ (jG (aA (bC aU (d9 rfl)) aU) (d9 rfl))) (show M.length+1<=1000 by lia)) aG5 (by rw[bAD];show M.length+1<=1000;lia)) aU))) (d9 rfl);have C3:=bC (aA J (aA O (aA (aM8 (nA (iQ (jG (aA V aU) (d9 rfl))) (aTw V) (show 1+M.length<=1000 by lia)) aRs (by rw[bAD];show 1+M.length<=1000;lia)) aU))) (d9 rfl);refine uV (iQ (nA (aPm rfl aa) (iQ (jG (aA C1 (aA C2 (aA C3 aU))) (d9 rfl))) (d9 rfl))) λu H7 s7 ⟨p7,Z,eu,g7,U⟩=>?_;subst eu;have F7:Fx a H H7:=(f1.sm (d.trans s7));refine⟨_,rfl,c,8,rfl,rfl,_,rfl,?_⟩;by_cases c8:c<8
 ·refine aCz (m8 c8) ?_;obtain⟨n,rfl⟩:∃n:Nat,c=n:=⟨c.toNat,by lia⟩;have hn:n<Z.length:=by rw[U.len];show n<8;lia
  obtain⟨t,e1,e2⟩:=U.at (b8 hn);refine⟨_,rfl,_,rfl,p7,Z,_,Z[n],rfl,rfl,SqL.of g7,bV (b8 hn),q _ H7 t F7 e2 ?_⟩;have ht:=bAA e1;simp only[bEB,bDK,bAE,v8,or_false] at ht;rcases ht with rfl|rfl|rfl|rfl|rfl|rfl|rfl|rfl
  ·rfl
  ·rfl
  ·exact yF rfl
  ·exact yF (aHl λz=>by rw[z] at lh;change 0=_ at lh;lia)
  ·exact yF rfl
  ·exact uB rfl
  ·exact uB (pM (by rw[eh];exact (Bool.and_eq_false_iff.mpr (.inl (m9 λz=>by change 0=_ at z;lia)))))
  ·exact uB rfl
 ·refine sI (m9 c8) ?_;have G:=d.trans s7;have J:=pB (σ:=[some (.ref a),some (.ref x),some (.ref b),some e,some (.ref L),some (.int c),some (.ref p7)]) (i:=2) rfl (k.same G);have O:=pB (σ:=[some (.ref a),some (.ref x),some (.ref b),some e,some (.ref L),some (.int c),some (.ref p7)]) (i:=3) rfl (p1.same G);have V:=pB (σ:=[some (.ref a),some (.ref x),some (.ref b),some e,some (.ref L),some (.int c),some (.ref p7)]) (i:=4) rfl (r1.same G);have lo:(hd.map λc:Str × Str=>aA6 c.2).length<=1000:=by rw[j0];lia
  refine Bd.at0 (bC (aA J (aA O (aA (aM8 (nA (aTw V) (iQ (jG (aA (aIk (xs:=hd.map λc=>aA6 c.2) ?_ lo) aU) (d9 rfl))) (show M.length+1<=1000 by lia)) aG5 (by rw[bAD];show M.length+1<=1000;lia)) aU))) (d9 rfl)) λu H8 s8 r8=>q u H8 _ (F7.sm s8) r8 (uB (pM ?_))
  ·intro H8 Q8 s8 q8;have Y:=(G.trans s8).bA hb;have lu:=hu.len;refine nF [none,none] ?_ ⟨_,rfl,b,rfl,⟨_,Y⟩,aB1 Same (aDu _) us (λ_=>true) (λi _ y=>∃C,hd[i]?=some C/\y=aQa C.2) (λ_ _ h=>h) (λ_ _ _ h=>h) (λi σ=>∃C,hd[i]?=some C/\At2 [none,none] (.str C.1) (.str C.2) σ) (Ps2 [none,none]) ⟨none,none,rfl⟩ (small (by lia)) _ (uM λH' f'=>f'.bA Y) (kW λH' f'=>f'.bA Y) (λi x σ' H' Q' ex af f' qq=>?_) (λi x σ2 ex hA H' R f' r=>r H' (Same.refl H')) (λi x σ2 ex hA hp H' R f' r=>?_) λD H9 ys f9 fD g9 a4=>?_⟩
   ·refine⟨rfl,λi y v k W=>?_⟩
    match i,k,W with
    |0,_,W=>cases W
    |1,_,W=>cases W
    |i+2,k,_=>cases k
   ·obtain⟨C,o,p',rfl,ad⟩:=cW hu ex;exact hg2 ((G.trans (s8.trans f')).bA ad) af fun σ2 k W=>qq σ2 k ⟨C,o,W⟩
   ·obtain⟨C,o,rfl⟩:=hA;exact⟨(by show 2<=sizeLine;decide),λl9 H9 _ s9 g9=>⟨_,rfl,rfl,.inr ⟨_,rfl,l9,_,_,_,rfl,rfl,SqL.of g9,aZ4,r _ H9 s9 ⟨C,o,rfl⟩⟩⟩⟩
   ·rw[kZ] at a4;obtain⟨l1,l2⟩:=iT a4;refine q8 _ H9 f9 ⟨D,ys,rfl,g9,aQt (by rw[j0];lia) λi v t hv ht=>?_⟩;obtain⟨C,o,rfl⟩:=l2 i v hv;rw[m5,o] at ht;cases ht;exact aZe
  ·rw[eh];exact aVj l1 hk
theorem aMk {n:Str}:∀{l:List Str},l.Nodup->l.length<=(l.filter λx=>!decide (x=n)).length+1
 |[],_=>by simp
 |x::r,h=>by
  rw[bDL] at h;rw[List.filter_cons,j8];by_cases e:x=n
  ·subst e;rw[m8 rfl];have:r.filter (λy=>!decide (y=x))=r:=List.filter_eq_self.mpr λy a=>by rw[m9 (λz=>h.1 (by rw[<-z];exact a))];rfl
   simp[this]
  ·rw[m9 e];have:=aMk (n:=n) h.2;simp only[Bool.not_false,if_true,j8];lia
theorem aH0 {l:List Str}(h:l.Nodup):∀S:List Str,l.length<=(l.filter λx=>!decide (x∈S)).length+S.length
 |[]=>by have e:(l.filter λx=>!decide (x∈([]:List Str)))=l:=List.filter_eq_self.mpr (by intro x _;simp);rw[e];exact bDB _ _
 |s::S=>by
  have e:(l.filter λx=>!decide (x∈s::S))=(l.filter λx=>!decide (x∈S)).filter λx=>!decide (x=s):=by rw[List.filter_filter];refine List.filter_congr λx _=>?_;by_cases a:x=s <;> by_cases b:x∈S <;> simp[a,b]
  have c:=aH0 h S;have d:=aMk (n:=s) (h.sublist (List.filter_sublist (p:=λx=>!decide (x∈S))));rw[e,j8];lia
theorem aHk {p:Nat->Bool}{R:Nat->V->Prop}:∀{k:Nat} {l:List Str} {ys:List V},(∀(j:Nat) (n:Str),l[j]?=some n->∀y,R (k+j) y->y=.str n)->lX R (sel p k (List.range' k l.length)) ys->ys=(sel p k l).map V.str
 |k,[],ys,_,h=>by cases h;rfl
 |k,n::r,ys,hR,h=>by
  rw[j8,List.range'_succ] at h;have h:lX R (if p k then k::sel p (k+1) (List.range' (k+1) r.length) else sel p (k+1) (List.range' (k+1) r.length)) ys:=h;have c:∀{a:List V},lX R (sel p (k+1) (List.range' (k+1) r.length)) a->a=(sel p (k+1) r).map V.str:=λ{a} e=>
   aHk (k:=k+1) (l:=r) (λj m f y d=>hR (j+1) m (by simpa using f) y (by rw[show k+(j+1)=k+1+j by lia];exact d)) e
  show ys=(if p k then n::sel p (k+1) r else sel p (k+1) r).map V.str
  split at h
  ·rename_i b;rw[if_pos b];cases h with
   |cons r' t=>rw[bAC,<-c t,hR 0 n rfl _ r']
  ·rename_i b;rw[if_neg b];exact c h
def aRx {ys:List V}{cs:Hdr}(hl:ys.length=cs.length)(h:∀(i:Nat) (y:V),ys[i]?=some y->∃c,cs[i]?=some c/\y=.str c.1):ys=(cs.map (·.1)).map V.str:=by
 rw[bBV];refine bCT λi=>?_;by_cases a:i<ys.length
 ·obtain⟨c,d,b⟩:=h i ys[i] (b8 a);rw[b8 a,m5,d,b];rfl
 ·rw[bAO (by lia),bAO (by rw[j0];lia)]
def frP (l used:List Str)(i:Nat):Bool:=match l[i]? with
 |some n=>!decide (n∈used)
 |none=>false
def gC (ns used:List Str):List Str:=(ns.drop 3).filter λn=>!decide (n∈used)
def aTc {ns used:List Str}(h:jZ ns):(gC ns used).Nodup/\(∀n∈gC ns used,Nm n/\n∉used)/\14<=(gC ns used).length+used.length/\(gC ns used).length<=14:=by
 have a:(ns.drop 3).Nodup:=h.2.2.sublist (List.drop_sublist 3 ns);have e:(ns.drop 3).length=14:=by rw[bBC,h.1]
 refine⟨a.sublist List.filter_sublist,λn b=>?_,?_,?_⟩
 ·obtain⟨c,d⟩:=List.mem_filter.mp b;exact⟨h.2.1 n (List.mem_of_mem_drop c),by simpa using d⟩
 ·have:=aH0 a used;unfold gC;lia
 ·have:=List.length_filter_le (λn=>!decide (n∈used)) (ns.drop 3);unfold gC;lia
def aK2 {X:Cx}{scope:Scope}{Nn:List Str}{tl:TE}{tt:TT}{σ:L2.St}{H:Hp}{Q:VK}{U:V}{b used:List Str}(W:jZ b)(J:Cap X scope Nn σ [none,some U])(Y:∀R:VK,(∀p H1,H p=none->Same H H1->H1 p=some (.lst ((b.drop 3).map V.str))->R (.ref p) H1)->tl σ H R)
  (O:∀(n:Str) l H' R,Same H H'->(∀H2,Same H' H2->R (!decide (n∈used)) H2)->tt (([none,some U].set 0 l).set 0 (some (.str n))) H' R)
  (q:∀D H',H D=none->Same H H'->H' D=some (.lst ((gC b used).map V.str))->Q (.ref D) H'):gK X scope Nn (aCj K tl) (bU 0) tt (eX 0) σ H Q:=by
 have M:(b.drop 3).length=14:=by rw[bBC,W.1]
 refine zB [none,some U] J (Y _ λp H1 S t o=>⟨p,rfl,⟨_,SqL.of o⟩,aB1 Same (aDu H1) ((b.drop 3).map V.str) (frP (b.drop 3) used) (λi _ y=>∃n,(b.drop 3)[i]?=some n/\y=.str n) (λ_ _ h=>h) (λ_ _ _ h=>h) (λi σ=>∃n,(b.drop 3)[i]?=some n/\At1 [none,some U] (.str n) σ) (Ps1 [none,some U]) ⟨none,rfl⟩ (small (by rw[j0];lia)) _ (aUf λH' c=>SqL.of (c _ _ o)) (aO3 λH' c=>SqL.of (c _ _ o)) (λi x T H' N d s c L=>?_) (λi x g d v H' R c r=>?_) (λi x g d v _ H' R c r=>?_) λD H2 P u A w f=>?_⟩)
 ·obtain⟨n,a,rfl⟩:=aJz d;exact hg1 (i:=i) s fun g I F=>L g I ⟨n,a,F⟩
 ·obtain⟨n,a,l,rfl⟩:=v;refine O n l H' _ (t.trans c) λH2 u=>?_;have e:frP (b.drop 3) used i=!decide (n∈used):=by unfold frP;rw[a]
  rw[<-e];exact r H2 u
 ·obtain⟨n,a,l,rfl⟩:=v;exact⟨_,by cases l <;> rfl,r _ _ (Same.refl H') ⟨n,a,rfl⟩⟩
 ·rw[j0,List.range_eq_range'] at f;have B:=aHk (k:=0) (l:=b.drop 3) (λj n E y G=>by obtain⟨m,z,e⟩:=G;rw[bD4,E] at z;cases z;exact e) f
  have C:sel (frP (b.drop 3) used) 0 (b.drop 3)=gC b used:=qX λi x d=>by unfold frP;rw[bD4,d]
  rw[B,C] at w;exact q D H2 (t.free A) (t.trans u) w
def aQ7 (wi:TI)(g:TG)(tt:TT)(te:TE):TE:=fun σ H Q=>wi σ H λJ H1=>oA J H1 [none,none] g tt te Q
def aQ4 {X:Cx}{pos:Pos}{elt target iter:Expr}{ifs:List Expr}{scope:Scope}{x y:Str}{wi:TI}{g:TG}{tt:TT}{te:TE}
  (C:nM scope [x,y]) (a:∀z,(z,NameKind.free)∈scope.names->X.env.kindOf z=some .cell\/X.env.kindOf z=some .free) (b:X.calm=true)
  (d:VI X target iter wi)
  (c:∀cl s H fp,VG (cxC X [x,y] scope cl s H fp) target g/\VF (cxC X [x,y] scope cl s H fp) ifs tt/\VE (cxC X [x,y] scope cl s H fp) elt te)
  (e:∀x,foldedSetIterable iter X.env x=pure x:=by intro _;rfl) :
  VE X (.ListComp elt [⟨target,iter,ifs,0⟩] scope pos) (aQ7 wi g tt te):=VE.imp (dF C a b d c e) fun σ H Q h=>⟨[none,none],oY,h⟩
def aVp {X:Cx}{tg e:Expr}{te:TE}(h:VE X e te)(a:X.K=K:=by rfl):VI X tg e (aN0 K te):=by subst a;exact oH h
def aHy {tl:TE}{σ:L2.St}{H:Hp}{Q:VK}{b:Addr}{us:List V}{t:Hdr}(k:SqT K H b us)(v:cP (IsC K H) us t)(h8:t.length<=100)(J:∀R:VK,R (.ref b) H->tl σ H R)
  (q:∀D H',H D=none->Same H H'->H' D=some (.lst ((t.map (·.1)).map V.str))->Q (.ref D) H'):aQ7 (aN0 K tl) (aFv K 2 (mF (bU 0) (mF (bU 1) aKk))) lJ (eX 0) σ H Q:=by
 have I:=v.len;refine (J _ ⟨b,rfl,⟨_,k⟩,aB1 Same (aDu H) us (λ_=>true) (λi _ y=>∃c,t[i]?=some c/\y=.str c.1) (λ_ _ h=>h) (λ_ _ _ h=>h) (λi σ=>∃c,t[i]?=some c/\At2 [none,none] (.str c.1) (.str c.2) σ) (Ps2 [none,none]) ⟨none,none,rfl⟩ (small (by lia)) _ (uM λH' a=>a.bA k) (kW λH' a=>a.bA k) (λi x G H' E g j a C=>?_) (λi x e g n H' R a r=>r _ (Same.refl _)) (λi x e g n _ H' R a r=>?_) λD z F w s m d=>?_⟩)
 ·obtain⟨c,f,p,rfl,u⟩:=cW v g;exact hg2 (a.bA u) j fun e B A=>C e B ⟨c,f,A⟩
 ·obtain⟨c,f,rfl⟩:=n;exact⟨_,rfl,r _ _ (Same.refl H') ⟨c,f,rfl⟩⟩
 ·rw[kZ] at d;obtain⟨l,o⟩:=iT d;rw[aRx (by lia) o] at m;exact q D z s w m
def aD9 {x y:V}{k j:Str}:atI [x,y] (if decide (V.str k=V.str j)=true then 1 else 0)=some (if k=j then y else x):=by
 by_cases e:k=j
 ·rw[if_pos e,if_pos (m8 (by rw[e]))];rfl
 ·rw[if_neg e,if_neg (by rw[m9 λz=>e (V.str.inj z)];exact m7)];rfl
def aV0 {k0:Str}(h:wQ k0):∃t1 t2 t3,(∀H,bF K H (if k0 = "word" then .str "a" else .int 1) t1)/\(∀H,bF K H (if k0 = "number" then .str "a" else .int 1) t2)/\(∀H,bF K H (if k0 = "word" then .str "b" else .int 2) t3)/\wA k0 (.tup [.tup [t1,.int 0]])=false /\
  wA k0 (.tup [.tup [.non,.int 0],.tup [t2,.int 0]])=false/\wA k0 (.tup [.tup [.non,.int 0],.tup [t1,.int 0],.tup [t1,.int 0]])=false/\wA k0 (.tup [.tup [.non,.int 0],.tup [t3,.int 0],.tup [t1,.int 0]])=false:=by
 rcases h with rfl|rfl
 ·exact⟨.int 1,.str "a",.int 2,λH=>by rw[if_neg (by trivial)];exact .int,λH=>by rw[if_pos rfl];exact .str (by trivial),λH=>by rw[if_neg (by trivial)];exact .int,by trivial,by trivial,by trivial,by trivial⟩
 ·exact⟨.str "a",.int 1,.str "b",λH=>by rw[if_pos rfl];exact .str (by trivial),λH=>by rw[if_neg (by trivial)];exact .int,λH=>by rw[if_pos rfl];exact .str (by trivial),by trivial,by trivial,by trivial,by trivial⟩
def aDn {kd:Str}{m:Int}{t:Tg}(h:wA kd t=false):jE kd m t=false:=by unfold jE;rw[h,bAV]
def yJ {hd:Hdr}{m:Int}{a b:Tg}:mG hd m (.tup [.str "spans",a,b])=(mR hd a && jE (kdOf hd a) m b):=by
 rw[eG,if_neg (by trivial),if_neg (by trivial)];have e:jD (.str "spans") [.str "spans"]=true:=by trivial
 rw[e];rfl
def eV {hd:Hdr}{m:Int}{a b:Tg}(h:jE (kdOf hd a) m b=false):mG hd m (.tup [.str "spans",a,b])=false:=by rw[yJ,h,bAV]
def aO0 {n k:Str}{r:Hdr}:kdOf ((n,k)::r) (.str n)=k:=by have e:kdOf ((n,k)::r) (.str n)=((((n,k)::r).find? λc=>decide (c.1=n)).map (·.2)).getD ("":Str):=rfl;rw[e,List.find?_cons_of_pos (by simp)];rfl
def aIn {a:Str}{m:Int}{b:Tg}(h:iB m b=false):jE a m (.tup [.tup [.non,b]])=false:=by have e:jE a m (.tup [.tup [.non,b]])=((iB m b && true) && wA a (.tup [.tup [.non,b]])):=rfl;rw[e,h];rfl
def aKp {r:R2}{t u:TE}{i:Nat}{rest:L2.TS}{D:Ends}{σ:L2.St}{H:Hp}(h:t σ H λx H1=>u σ H1 λy H2=>r x y H2 λv H3=>rest D (σ.set i (some v)) H3):aAg (wY (tOp r t u) (bU i)) rest D σ H:=h
def aZm {r:R2}{t u:TE}{D:Ends}{σ:L2.St}{H:Hp}(h:t σ H λx H1=>u σ H1 λy H2=>r x y H2 D.rt):uH (tOp r t u) D σ H:=h
inductive aH9 (K:bE4)(vs:List V)(H:Hp)(Q:VK)(E_:XK):Prop
 |mk (a N:Addr) (m:Int) (vh:V) (hd:Hdr) (ns:List Str) (_:vs=[.ref a,vh,.int m,.ref N]) (_:gH H a) (_:gY K H vh hd) (_:aGl hd) (_:H N=some (.lst (ns.map V.str))) (_:jZ ns) (_:∀u H' tg,Fx a H H'->bF K H' u tg->mG hd m tg=false->Q u H')
def pD (T:Txt w K mg)(aK:Ok P w K mg base 1 "_law_next" n6 fK):Ok P w K mg base 2 "_law_bad_placing" o4 (aH9 K):=by
 refine Ok.ofV T.qD iD (by trivial) (λf b5 A aa s H vs Q E hr h=>?_)
 obtain⟨a,N,m,vh,L,ns,rfl,hs,hI,hH,hN,hn,q⟩:=h;obtain⟨b,us,rfl,hb,hu⟩:=id hI;have lu:=hu.len;obtain⟨⟨nd,l1,l8⟩,hk⟩:=id hH;obtain⟨b4,Y,v,_⟩:=aTc (used:=L.map (·.1)) hn;rw[j0] at v;have nd:=iD.nd;refine⟨_,(aC (bJ 4 (bO bN (dF (N:=["_law_name","_law_head_here"]) ck (jP (aD eN)) rfl (oO (kE aHg (vv 3) (lM aB) rN)) (λcl X H' fp=>⟨(jB 0),(aQd (aLk (aBp (K:=K)) (vv 0) (aQ4 ck gR rfl (aVp (K:=K) (vv 1)) (λcl X H' fp=>⟨(oR (K:=K) (n:=2) rfl (aZ (xQ (i:=0) (show (["_law_column","_law_kind"]:List Str).Nodup from by trivial) rfl (Or.inl rfl)) (aZ (xQ (i:=1) (show (["_law_column","_law_kind"]:List Str).Nodup from by trivial) rfl (Or.inl rfl)) dC))),dX,(vv 0)⟩)) (by with_unfolding_all rfl))),(vv 0)⟩)) aB)) (aC (oG (bO cD (vv 1) aB) (jT rfl (aZ (cL 5) (aZ (cL 6) dC)))) (aC (bJ 7 (bO bN (aX (aG aB (va1 aQ))) (bW iJ (by rfl) T.yL qM (va1 (lH cV (vv 6) aQ))))) (aC (bJ 8 (bO bN (aX (aG aB (va1 aQ))) (bW iJ (by rfl) T.yL qM (va1 (lH cV (vv 6) aQ))))) (aC (bJ 9 (bO bN (aX (aG aB (va1 aQ))) (bW iJ (by rfl) T.yL qM (va1 (lH cV (vv 6) aQ))))) (aC (bJ 10 (aX (aG (aM (aG aQ (va1 (vv 4)))) (aG (aM (va1 aQ)) (aG (aM (aG aQ (va1 (vv 5)))) (aG (aM (aG aQ (va1 (vv 5)))) (aG (aM (aG aQ (aG (vv 4) (va1 (aM (va1 (aM (aG cY (va1 aB))))))))) (va1 (aX (va1 aQ)))))))))) (aC (bJ 10 (bK fG (vv 10) (aX (aG (aM (aG aQ (aG (vv 5) (va1 (aM fC))))) (aG (aM (aG aQ (aG (vv 5) (va1 (aM (va1 (aM (aG (vv 7) (va1 aB))))))))) (va1 (aM (aG aQ (aG (vv 5) (va1 (aM (va1 (aM (aG cY (va1 (vv 2)))))))))))))))) (aC (dR (vN PySem.F.plainAttrs_list PySem.F.slot_list_append PySem.F.type_list_append fX (vv 10) (va1 (aM (aG aQ (va1 (vv 5))))))) (aC (bJ 10 (bK fG (vv 10) (aX (aG (aM (aG aQ (aG (vv 5) (va1 (aM (aG (aM (aG cY (va1 aB))) (va1 (aM (aG (vv 8) (va1 aB)))))))))) (va1 (aM (aG aQ (aG (vv 5) (va1 (aM (aG (aM (aG cY (va1 aB))) (aG (aM (aG (vv 7) (va1 aB))) (va1 (aM (aG (vv 7) (va1 aB)))))))))))))))) (aC (bJ 10 (bK fG (vv 10) (aX (aG (aM (aG aQ (aG (vv 5) (va1 (aM (aG (aM (aG cY (va1 aB))) (aG (aM (aG (vv 9) (va1 aB))) (va1 (aM (aG (vv 7) (va1 aB))))))))))) (va1 (aM (aG aQ (aG (vv 5) (va1 (aX (va1 (aM (aG cY (va1 aB)))))))))))))) (aF (aP (bO bN (bK fG (vv 10) (aX (aG (aM (aG aQ (aG (vv 5) (va1 (aM (va1 (aM (aG cY (va1 cN))))))))) (va1 cY)))) (bI aK (aG (vv 0) (va1 aB)))))))))))))))),?_⟩;refine aKp ?_;refine aK2 (K:=K) (U:=.ref b) (used:=L.map (·.1)) hn ?_ (λR r=>?_) (λn l H' R X r=>?_) λF H2 fF s2 gF=>?_
 ·exact oU 1 (by trivial) rfl rfl (by trivial)
 ·refine⟨_,rfl,_,rfl,N,_,rfl,SqL.of hN,λp' H' ak X g'=>r p' H' ak X ?_⟩;rw[g',show (3:Int)=((3:Nat):Int) from rfl,uE,List.map_drop]
 ·refine⟨_,rfl,?_⟩;refine aHy (X.bA hb) (hu.imp λ_ _ h=>h.same X) (by lia) (λR r=>⟨_,rfl,r⟩) λD H3 f3 s3 g3=>⟨D,_,rfl,.inl (SqL.of g3),rfl,yE,_,rfl,?_⟩;rw[oX];exact r _ s3
 obtain⟨g,fr,aw⟩:∃g fr,gC ns (L.map (·.1))=g::fr:=by
  cases e:gC ns (L.map (·.1)) with
  |nil=>rw[e] at v;change 14<=0+_ at v;lia
  |cons g fr=>exact⟨g,fr,rfl⟩
 rw[aw] at gF Y;obtain⟨aq,ad⟩:=Y g v4;obtain⟨⟨k,o⟩,b2,O⟩:∃c r,L=c::r:=by
  cases L with
  |nil=>cases l1
  |cons c r=>exact⟨c,r,rfl⟩
 rw[O] at hu;obtain⟨u0,b1,aj,⟨p0,ag,ah⟩⟩:∃u r,us=u::r/\IsC K H u (k,o):=by
  cases hu with
  |cons x y=>exact⟨_,_,rfl,x⟩
 subst ag;obtain⟨ao,av⟩:Nm k/\wQ o:=hk (k,o) (by rw[O];exact v4);refine⟨F,_,_,.str g,rfl,rfl,SqL.of gF,bV (j:=0) rfl,?_⟩;refine⟨_,rfl,b,_,0,.ref p0,rfl,rfl,s2.bA hb,bV (j:=0) (by rw[aj];rfl),p0,_,rfl,s2.bA ah,rfl,.str k,_,rfl,.str o,_,rfl,rfl,?_⟩;refine⟨(by show 2<=sizeLine;decide),λl3 H3 _ s3 g3=>⟨_,rfl,rfl,.inr ⟨_,rfl,l3,_,_,_,rfl,rfl,SqL.of g3,aD9,?_⟩⟩⟩;refine⟨(by show 2<=sizeLine;decide),λl4 H4 _ s4 g4=>⟨_,rfl,rfl,.inr ⟨_,rfl,l4,_,_,_,rfl,rfl,SqL.of g4,aD9,?_⟩⟩⟩;refine⟨(by show 2<=sizeLine;decide),λl5 H5 _ s5 g5=>⟨_,rfl,rfl,.inr ⟨_,rfl,l5,_,_,_,rfl,rfl,SqL.of g5,aD9,?_⟩⟩⟩;dsimp only[bU,List.set];have lg:g.length<=1000:=bAJ (gO aq) (by decide);have l0:k.length<=1000:=bAJ (gO ao) (by decide);obtain⟨t1,t2,t3,i1,i2,i3,c8,ai,af,a8⟩:=aV0 (K:=K) av;generalize (if o = "word" then V.str "a" else V.int 1)=w1 at i1 ⊢;generalize (if o = "number" then V.str "a" else V.int 1)=w2 at i2 ⊢;generalize (if o = "word" then V.str "b" else V.int 2)=w3 at i3 ⊢;have V2:∀(z:Option V) (d:Hp),Bd [some (.ref a),some (.ref b),some (.int m),some (.ref N),some (.str g),some (.str k),some (.str o),some w1,some w2,some w3,z] d (eX 2) (TR K (.int m)):=λz d=>pB rfl (.int);have V4:∀(z:Option V) (d:Hp),Bd [some (.ref a),some (.ref b),some (.int m),some (.ref N),some (.str g),some (.str k),some (.str o),some w1,some w2,some w3,z] d (eX 4) (TR K (.str g)):=λz d=>pB rfl (.str lg);have I:∀(z:Option V) (d:Hp),Bd [some (.ref a),some (.ref b),some (.int m),some (.ref N),some (.str g),some (.str k),some (.str o),some w1,some w2,some w3,z] d (eX 5) (TR K (.str k)):=λz d=>pB rfl (.str l0);have V7:∀(z:Option V) (d:Hp),Bd [some (.ref a),some (.ref b),some (.int m),some (.ref N),some (.str g),some (.str k),some (.str o),some w1,some w2,some w3,z] d (eX 7) (TR K (t1)):=λz d=>pB rfl (i1 _);have V8:∀(z:Option V) (d:Hp),Bd [some (.ref a),some (.ref b),some (.int m),some (.ref N),some (.str g),some (.str k),some (.str o),some w1,some w2,some w3,z] d (eX 8) (TR K (t2)):=λz d=>pB rfl (i2 _);have V9:∀(z:Option V) (d:Hp),Bd [some (.ref a),some (.ref b),some (.int m),some (.ref N),some (.str g),some (.str k),some (.str o),some w1,some w2,some w3,z] d (eX 9) (TR K (t3)):=λz d=>pB rfl (i3 _);refine uV (jG (aA (bC (aA (lB (x:="keys") (by trivial)) (aA (V4 _ _) aU)) (d9 rfl)) (aA (bC (aA (lB (x:="keys") (by trivial)) aU) (d9 rfl)) (aA (bC (aA (lB (x:="copies") (by trivial)) (aA (I _ _) aU)) (d9 rfl)) (aA (bC (aA (lB (x:="spans") (by trivial)) (aA (I _ _) aU)) (d9 rfl)) (aA (bC (aA (lB (x:="spans") (by trivial)) (aA (V4 _ _) (aA (bC (aA (bC (aA (eZ λ_=>.non) (aA (eZ λ_=>.int) aU)) (d9 rfl)) aU) (d9 rfl)) aU))) (d9 rfl)) (aA (qP (aA (lB (x:="copies") (by trivial)) aU) (λ_ _ z=>by cases z) (d9 rfl)) aU)))))) (d9 rfl)) λu H6 s6 ⟨p6,b3,b0,eu,ax,al,a5,g6,ae⟩=>?_;subst eu;refine uV (nA (aPm (K:=K) rfl ⟨p6,_,rfl,g6,ae.same a5⟩) (iQ (jG (aA (bC (aA (lB (x:="spans") (by trivial)) (aA (I _ _) (aA (bC aU (d9 rfl)) aU))) (d9 rfl)) (aA (bC (aA (lB (x:="spans") (by trivial)) (aA (I _ _) (aA (bC (aA (bC (aA (V7 _ _) (aA (eZ λ_=>.int) aU)) (d9 rfl)) aU) (d9 rfl)) aU))) (d9 rfl)) (aA (bC (aA (lB (x:="spans") (by trivial)) (aA (I _ _) (aA (bC (aA (bC (aA (eZ λ_=>.non) (aA (V2 _ _) aU)) (d9 rfl)) aU) (d9 rfl)) aU))) (d9 rfl)) aU))) (d9 rfl))) (d9 rfl)) λu H7 s7 ⟨J,p,a7,eu,ap,ar,au,g7,a0⟩=>?_;subst eu;refine⟨_,rfl,.inl ⟨rfl,_,SqL.of g7⟩,_,rfl,(by show 2<=sizeLine;decide),λW H8 f8 s8 g8=>⟨J,p,_,rfl,rfl,s8 _ _ g7,(by rw[a0.len];show 9<sizeLine;decide),?_⟩⟩;have S9:Same a7 (L2.upd H8 J (.lst (p++[.ref W]))):=dN ap (au.trans s8);have a3:L2.upd H8 J (.lst (p++[.ref W])) W=some (.tup [.str "rows",.str k]):=by rw[aJ (aV g7 f8).symm];exact g8
 have g9:L2.upd H8 J (.lst (p++[.ref W])) J=some (.lst (p++[.ref W])):=aH;generalize L2.upd H8 J (.lst (p++[.ref W]))=H9 at S9 a3 g9 ⊢;have am:LQ K _ H9 (.ref J):=⟨J,_,rfl,g9,xT (a0.same S9) (.cons (uK (SqT.of a3) (.cons (.str (by trivial)) (.cons (.str l0) .nil)) (d9 rfl)) .nil)⟩;refine uV (iQ (nA (aPm (K:=K) rfl am) (iQ (jG (aA (bC (aA (lB (x:="spans") (by trivial)) (aA (I _ _) (aA (bC (aA (bC (aA (eZ λ_=>.non) (aA (eZ λ_=>.int) aU)) (d9 rfl)) (aA (bC (aA (V8 _ _) (aA (eZ λ_=>.int) aU)) (d9 rfl)) aU)) (d9 rfl)) aU))) (d9 rfl)) (aA (bC (aA (lB (x:="spans") (by trivial)) (aA (I _ _) (aA (bC (aA (bC (aA (eZ λ_=>.non) (aA (eZ λ_=>.int) aU)) (d9 rfl)) (aA (bC (aA (V7 _ _) (aA (eZ λ_=>.int) aU)) (d9 rfl)) (aA (bC (aA (V7 _ _) (aA (eZ λ_=>.int) aU)) (d9 rfl)) aU))) (d9 rfl)) aU))) (d9 rfl)) aU)) (d9 rfl))) (d9 rfl))) λu b6 ab a1=>?_;refine uV (iQ (nA (aPm (K:=K) rfl a1) (iQ (jG (aA (bC (aA (lB (x:="spans") (by trivial)) (aA (I _ _) (aA (bC (aA (bC (aA (eZ λ_=>.non) (aA (eZ λ_=>.int) aU)) (d9 rfl)) (aA (bC (aA (V9 _ _) (aA (eZ λ_=>.int) aU)) (d9 rfl)) (aA (bC (aA (V7 _ _) (aA (eZ λ_=>.int) aU)) (d9 rfl)) aU))) (d9 rfl)) aU))) (d9 rfl)) (aA (bC (aA (lB (x:="spans") (by trivial)) (aA (I _ _) (aA (qP (aA (bC (aA (eZ λ_=>.non) (aA (eZ λ_=>.int) aU)) (d9 rfl)) aU) (λ_ _ z=>by cases z) (d9 rfl)) aU))) (d9 rfl)) aU)) (d9 rfl))) (d9 rfl))) λu az as a4=>?_;refine aZm ?_;refine Bd.at0 (iQ (nA (aPm (K:=K) (i:=10) rfl a4) (iQ (jG (aA (bC (aA (lB (x:="spans") (by trivial)) (aA (I _ _) (aA (bC (aA (bC (aA (eZ λ_=>.non) (aA (eZ λ_=>.bl) aU)) (d9 rfl)) aU) (d9 rfl)) aU))) (d9 rfl)) (aA (eZ λ_=>.non) aU)) (d9 rfl))) (d9 rfl))) λu a9 an ⟨a6,G,eu,S,C⟩=>?_;subst eu;have a2:Same H a9:=s2.trans (s3.trans (s4.trans (s5.trans (al.trans (a5.trans (ar.trans (S9.trans (ab.trans (as.trans an)))))))));have B:=hs.same a2;refine⟨_,rfl,a,16,rfl,B,⟨by decide,by decide⟩,λc ac M c0 ay=>?_⟩;have np:a6≠a:=λz=>by obtain⟨x,y,e,_⟩:=B;rw[z,e] at S;cases S;exact absurd (show 2=16 from C.len) (by decide)
 obtain⟨n,rfl⟩:∃n:Nat,c=n:=⟨c.toNat,by lia⟩;have Z:n<G.length:=by rw[C.len];show n<16;lia
 obtain⟨t,e1,e2⟩:=C.at (b8 Z);refine⟨a6,G,_,G[n],rfl,rfl,SqL.of (M.same _ _ np S),bV (b8 Z),q _ ac t ((Fx.of hs a2).trans M) (e2.st (rF B M)) ?_⟩;have ht:=bAA e1;simp only[bEB,bDK,bAE,v8,or_false] at ht;have cg:mR L (.str g)=false:=by unfold mR;rw[Bool.and_eq_false_iff];refine .inr ?_;show inV (.str g) _=false;rw[oX];exact m9 ad
 have ek:kdOf L (.str k)=o:=by rw[O];exact aO0
 rcases ht with rfl|rfl|rfl|rfl|rfl|rfl|rfl|rfl|rfl|rfl|rfl|rfl|rfl|rfl|rfl|rfl
 ·rw[eG,if_neg (by trivial),if_pos (by trivial)];exact Bool.and_eq_false_iff.mpr (.inr cg)
 ·rfl
 ·rfl
 ·rw[eG,if_neg (by trivial),if_neg (by trivial)];exact Bool.and_eq_false_iff.mpr (.inr rfl)
 ·rw[yJ,cg,bAG]
 ·rfl
 ·exact eV rfl
 ·exact eV (aDn (by rw[ek];exact c8))
 ·exact eV (aIn (by unfold iB;exact Bool.and_eq_false_iff.mpr (.inr (m9 (by lia)))))
 ·rw[eG,if_neg (by trivial),if_neg (by trivial)];exact Bool.and_eq_false_iff.mpr (.inl (by trivial))
 ·exact eV (aDn (by rw[ek];exact ai))
 ·exact eV (aDn (by rw[ek];exact af))
 ·exact eV (aDn (by rw[ek];exact a8))
 ·exact eV rfl
 ·exact eV (aIn rfl)
 ·rfl
end
end My
namespace L2
open PySem PySem.Spec PyProof.Rows
end L2
namespace PySem.SeqAt
open PySem PySem.Spec
end PySem.SeqAt
namespace L2
open PySem PySem.Spec PyProof.Rows
section
variable {X:Cx}
theorem aNa {K:bE4}{H:Hp}:∀{r:List V},(∀x∈r,(∃i,x=.int i)\/∃z,x=.str z)->∀n,Al2 (DEq K H n) r r
 |[],_,_=>.nil
 |x::r,h,n=>.cons (by rcases h x v4 with⟨i,rfl⟩|⟨z,rfl⟩ <;> cases n <;> first|exact⟨rfl,rfl⟩|exact .inl ⟨rfl,rfl⟩) (aNa (λy a=>h y (j9 _ a)) n)
def aQ6 {K:bE4}{H:Hp}{us ws:List V}{rs:List (List V)}(g:Al2 (mL K H) us rs)(f:Al2 (mL K H) ws rs)(l:∀r∈rs,∀x∈r,(∃i,x=.int i)\/∃z,x=.str z):Al2 (DEq K H 40) us ws:=by refine Al2.of (g.len.trans f.len.symm) λi u w h j=>?_;obtain⟨r,d,a,rfl,e⟩:=g.at h;obtain⟨m,c,b,rfl,k⟩:=f.at j;rw[d] at c;cases c;exact .inr ⟨a,b,r,r,rfl,rfl,e,k,aNa (l r (bAA d)) 39⟩
end
end L2
namespace PySem
section
variable {prog:Program}{w:World}{κ:Type}[DecidableEq κ]{knd:KeyKind prog w κ}{A:Around}{E:bE5}{s:Shared}
open PySem.Spec PySem.Calls PyProof.Rows L2
end
end PySem
namespace L2
open PySem PySem.Spec PyProof.Rows
section
variable {X:Cx}
end
def EqW (P:Program)(w:World)(A:Around)(s:Shared)(y x:Value):Prop:=∀E Q,Q true s->wpAny (model P w) A (eqBool y x) Q E s
def EqW.of {P:Program}{w:World}{A:Around}{s:Shared}{y x:Value}(h:SeqAt.EqAt A s y x true):EqW P w A s y x:=λE Q q=>h P w E Q q
def EqW.refs {P:Program}{w:World}{A:Around}{s:Shared}{a b:Addr}(c:a≠b)(h:∀E Q,Q (.bool true) s->wpAny (model P w) A (richCompare .Eq (.ref a) (.ref b)) Q E s):EqW P w A s (.ref a) (.ref b):=λE Q q=>by unfold eqBool;refine bAP (bEM (λz=>?_) λ_=>b7 (h E _ (bBD q)));exact absurd (by have:=eq_of_beq z;injection this) c
section
variable {P:Program}{w:World}
open AutoSeq1 (wpAny_loadPart')
open MeetsSeq MeetsSeq2 MeetsSeq3
def aSk {a b:Addr}{xs ys:Array Value}{na nb:Nat}{da db:Option Addr}{sa sb:Array (Option Value)}(m:xs.size=ys.size)(k:Nat):∀i:Nat,xs.size - i=k->MeetsIn P w (Builtin.«list.__eq__.loop» ⟨[.ref a,.ref b,rawInt i,rawInt 3],[]⟩)
  (λA R s=>s.heap.get? a=some ⟨.type "list",da,.seq xs na,sa⟩/\s.heap.get? b=some ⟨.type "list",db,.seq ys nb,sb⟩/\(∀j (h1:j<xs.size) (h2:j<ys.size),EqW P w A.in1 s xs[j] ys[j])/\R (.ok (.ret (.bool false))) s):=by
 induction k with
 |zero=>
  rintro i hk A R ⟨hp,g,d,tk,os⟩ ⟨ha,hb,he,r⟩;wp_walk using wpAny_loadPart' ha,wpAny_loadPart' hb;have c:xs[((i:Nat):Int).toNat]?=none:=by rw[bAN];exact bBK (by lia)
  have e:ys[((i:Nat):Int).toNat]?=none:=by rw[bAN];exact bBK (by lia)
  rw[c,e];wp_walk using wpAny_loadPart' ha,wpAny_loadPart' hb;show R (.ok (.ret (.bool (xs.size != ys.size)))) _;have l:(xs.size != ys.size)=false:=by rw[m];exact bne_self_eq_false _
  rw[l];exact r
 |succ k ih=>
  rintro i hk A R ⟨hp,g,d,tk,os⟩ ⟨ha,hb,he,r⟩;wp_walk using wpAny_loadPart' ha,wpAny_loadPart' hb;have f:i<xs.size:=by lia
  have h:i<ys.size:=by lia
  have c:xs[((i:Nat):Int).toNat]?=some xs[i]:=by rw[bAN];exact v5 f
  have e:ys[((i:Nat):Int).toNat]?=some ys[i]:=by rw[bAN];exact v5 h
  rw[c,e];refine b7 (he i f h _ _ ?_);wp_walk;rw[show (i:Int)+1=((i+1:Nat):Int) from rfl];refine⟨bCY plain_eq_loop _,bBT entry_eq_loop ?_⟩;rw[bBI plain_eq_loop _];exact ih (i+1) (by lia) A R _ ⟨ha,hb,he,r⟩
def aR3 {a b:Addr}{xs ys:Array Value}{na nb:Nat}{da db:Option Addr}{sa sb:Array (Option Value)}(c:xs.size=ys.size):MeetsIn P w (Builtin.«list.__ne__» ⟨[.ref a,.ref b],[]⟩)
  (λA R s=>s.heap.get? a=some ⟨.type "list",da,.seq xs na,sa⟩/\s.heap.get? b=some ⟨.type "list",db,.seq ys nb,sb⟩/\(∀j (h1:j<xs.size) (h2:j<ys.size),EqW P w A.in1 s xs[j] ys[j])/\R (.ok (.ret (.bool false))) s):=by
 rintro A R ⟨hp,g,d,tk,os⟩ ⟨ha,hb,he,r⟩;have e:=AutoSeq1.sub_list_list;have f:¬ (xs.size != ys.size)=true:=by rw[c,bne_self_eq_false];exact m7
 wp_walk using wpAny_loadPart' ha,wpAny_loadPart' hb;refine⟨bCY plain_eq_loop _,bBT entry_eq_loop ?_⟩;rw[bBI plain_eq_loop _];exact aSk c _ 0 rfl A R _ ⟨ha,hb,he,r⟩
def neW {A:Around}{E:bE5}{Q:bE5}{s:Shared}{a b:Addr}{xs ys:Array Value}(p:s.heap.IsList a xs)(m:s.heap.IsList b ys)(x:xs.size=ys.size)(i:A.units<cLine)(v:∀j (h1:j<xs.size) (h2:j<ys.size),EqW P w A.in1 s xs[j] ys[j])(q:Q (.bool false) s):wpAny (model P w) A (compareOp .NotEq (.ref a) (.ref b)) Q E s:=by obtain⟨⟨o,B,u,l⟩,c,h,C,d⟩:=p;obtain⟨⟨k,r,t,n⟩,e,g,y,f⟩:=m;dsimp only at h d g f;subst h d g f;exact wpAny_richCompare_same_room (op:=.NotEq) ⟨_,c,rfl⟩ ⟨_,e,rfl⟩ F.slot_list_ne (call_meetsIn F.slot_list_ne ⟨_,c,rfl⟩ F.entry_list_ne (F.args_list_ne_2 _ _) (aR3 x) ⟨c,e,v,(⟨(λz=>nomatch z),q⟩:Value.bool false≠.notImplemented/\Q (.bool false) s)⟩) i
end
def DL (K:bE4)(H:Hp):Nat->V->V->Prop
 |0,x,y=>(∃a,x=.ref a/\y=.ref a)\/DEq K H 40 x y
 |n+1,x,y=>DL K H n x y\/∃a b xs ys,x=.ref a/\y=.ref b/\SqL K H a xs/\SqL K H b ys/\Al2 (DL K H n) xs ys
section
variable {X:Cx}{bE8:bE6}{σ:L2.St}{H:Hp}{s:Shared}
def yN {R:V->V->Prop}{T:Value->Value->Prop}{xs ys:List V}{its jts:List Value}(e:Vals xs its)(k:Vals ys jts)(h:Al2 R xs ys)(p:∀{x y v u},R x y->RelV x v->RelV y u->T v u):∀(j:Nat) (h1:j<its.toArray.size) (h2:j<jts.toArray.size),T its.toArray[j] jts.toArray[j]:=λj h1 h2=>by
 have q:=e.length;have a:j<xs.length:=by rw[j6] at h1;lia
 obtain⟨y,n,d⟩:=h.at (b8 a);obtain⟨o,c,m⟩:=e.get (b8 a);obtain⟨i,b,g⟩:=k.get n;have l:its.toArray[j]=o:=by rw[bDS];exact (List.getElem?_eq_some_iff.mp c).2
 have f:jts.toArray[j]=i:=by rw[bDS];exact (List.getElem?_eq_some_iff.mp b).2
 rw[l,f];exact p d m g
theorem uC (I:Inv X bE8 σ H s):∀(n:Nat) {A:Around} {x y:V} {v u:Value},DL X.K H n x y->RelV x v->RelV y u->A.units+42+n<cLine->SeqAt.EqAt A s v u true
 |0,A,x,y,v,u,h,rv,ru,hu=>by
  rcases h with⟨a,rfl,rfl⟩|h
  ·cases rv;cases ru;exact bC1 _
  ·exact aC8 I 40 h rv ru (by lia)
 |n+1,A,x,y,v,u,h,rv,ru,hu=>by
  rcases h with h|⟨a,b,B,z,rfl,rfl,m,k,h⟩
  ·exact uC I n h rv ru (by lia)
  cases rv;cases ru;by_cases e:a=b
  ·subst e;exact bC1 _
  obtain⟨r,g,j,_⟩:=I.list m;obtain⟨q,f,o,_⟩:=I.list k;have l:=h.len;have t:=g.length;have w:=f.length;refine SeqAt.EqAt.of_refs e ?_;have c:=SeqAt.RcAt.lists (A:=A) (e:=λ_=>true) j.isList o.isList (by rw[j6,j6];lia) (by lia) (yN g f h λd i p=>uC I n d i p (by show A.units+1+42+n<cLine;lia));rw[tE] at c;exact c
def bBd (K:bE4)(H:Hp)(p q:Key × V):Prop:=p.1=q.1/\DL K H 1 p.2 q.2
theorem aLm (I:Inv X bE8 σ H s){A:Around}(o:A.units+43<cLine){kb:List (Key × Value)}(f:(kb.map (·.1)).Nodup):∀{kvs kws:List (Key × V)} {ka kc:List (Key × Value)},Al2 (bBd X.K H) kvs kws->KV kvs ka->KV kws kc->(∀p∈kc,p∈kb)->PySem.W.KeqHits A s kb ka true
 |[],[],ka,_,_,r,_,_=>by cases r;exact .nil
 |p::kvs,q::kws,ka,kc,.cons h t,r,r',hm=>by
  cases r with
  |cons r1 rt=>
   rename_i x v;cases r' with
   |cons r1' rt'=>rename_i y B;obtain⟨a,k⟩:=h;obtain⟨g,l⟩:=r1;obtain⟨i,m⟩:=r1';obtain⟨u,w⟩:=x;obtain⟨j,C⟩:=y;have c:u=p.1:=g.symm;have d:j=p.1:=i.symm.trans a.symm;subst c d;exact PySem.W.KeqHits.hit (e:=true) (b:=true) (aHr f (hm _ v4)) (uC I 1 k l m o) (aLm I o f t rt rt' λz n=>hm z (j9 _ n))
def DW (K:bE4)(H:Hp)(x y:V):Prop:=DL K H 2 x y\/∃d e kvs kws,x=.ref d/\y=.ref e/\H d=some (.dK kvs)/\H e=some (.dK kws)/\Al2 (bBd K H) kvs kws
def bAa (I:Inv X bE8 σ H s){A:Around}{x y:V}{v u:Value}(h:DW X.K H x y)(k:RelV x v)(t:RelV y u)(hA:A.units+45<cLine):EqW X.prog X.w A s v u:=by
 rcases h with h|⟨d,e,D,l,rfl,rfl,o,C,j⟩
 ·exact .of (uC I 2 h k t (by lia))
 cases k;cases t;by_cases z:d=e
 ·subst z;exact .of (bC1 _)
 refine .refs z λE Q q=>?_;obtain⟨z,G,i,b,n⟩:=vU I.hok o;obtain⟨N,c,f,a,g⟩:=vU I.hok C;have m:(f.map (·.1)).Nodup:=let ⟨_,_,_,_,_,_,_,_,hn⟩:=g;hn
 have L:=KV.length b;have M:=KV.length a;have J:=j.len;refine PySem.W.keq_eq (r:=true) G c n g (by lia) (λ_=>aLm I (show A.units+1+43<cLine by lia) m j b a λp F=>F) ?_;have B:(i.length == f.length && true)=true:=by rw[show i.length=f.length by lia];simp
 rw[B];exact q
end
def bB1 (K:bE4):R2:=λx y H Q=>∃(a b:Addr) (us ws:List V),x=.ref a/\y=.ref b/\SqL K H a us/\SqL K H b ws/\Al2 (DW K H) us ws/\Q (.bl false) H
def aDr {X:Cx}(hu:X.A.units+64<cLine):OpR X (compareOp .NotEq) (bB1 X.K):=by intro j s σ H x y v u Q I r i h;obtain⟨a,b,B,C,rfl,rfl,m,k,e,q⟩:=h;cases r;cases i;obtain⟨w,f,o,F⟩:=I.list m;obtain⟨p,c,t,E⟩:=I.list k;have l:=e.len;have z:=f.length;have D:=c.length;refine neW o.isList t.isList (by rw[j6,j6];lia) (by lia) (yN f c e λd g n=>bAa I d g n (by show X.A.units+1+45<cLine;lia)) ?_;exact⟨.bl _,H,I,rfl,q⟩
def bB6 (K:bE4):R2:=λx y H Q=>∃(a b:Addr) (us ws:List V),x=.ref a/\y=.ref b/\SqL K H a us/\SqL K H b ws/\Al2 (DL K H 2) us ws/\Q (.bl true) H
def aP9 {X:Cx}(hu:X.A.units+64<cLine):OpR X (compareOp .Eq) (bB6 X.K):=by
 intro k s σ H x y v u Q I t j h;obtain⟨a,b,C,D,rfl,rfl,n,m,f,q⟩:=h;cases t;cases j;obtain⟨z,g,p,G⟩:=I.list n;obtain⟨r,c,w,F⟩:=I.list m;have l:=f.len;have B:=g.length;have E:=c.length;refine SeqAt.RcAt.lists (e:=λ_=>true) p.isList w.isList (by rw[j6,j6];lia) (by lia) (yN g c f λd i o=>uC I 2 d i o (by show X.A.units+1+42+2<cLine;lia)) _ _ _ _ ?_;first
  |(rw[tE];exact⟨.bl _,H,I,rfl,q⟩)
  |(simp only[tE];exact⟨.bl _,H,I,rfl,q⟩)
end L2
namespace PySem
namespace LR
end LR
section
variable {prog:Program}{w:World}{A:Around}{E:bE5}{s:Shared}
open PySem.Calls PyProof.Rows
end
end PySem
namespace L2
open PySem PySem.Spec PyProof.Rows
section
variable {X:Cx}
theorem yZ:∀{us:List V} {vs:List Value},us.length=vs.length->(∀(i:Nat) (u:V) (v:Value),us[i]?=some u->vs[i]?=some v->RelV u v)->Vals us vs
 |[],[],_,_=>.nil
 |u::us,v::vs,hl,h=>.cons (h 0 u v rfl rfl) (yZ (Nat.succ.inj hl) λi u v b a=>h (i+1) u v (by simpa using b) (by simpa using a))
def aZh:List V->Hp->VK->Prop:=λxs H Q=>∃(d:Addr) (kvs:List (Key × V)),xs=[.ref d]/\H d=some (.dK kvs)/\kvs.length<=1000/\∀(p:Addr) (H':Hp),H p=none->Same H H'->H' p=some (.lst (kvs.map λkv=>kV kv.1))->Q (.ref p) H'
theorem aK7 (T:X.calm=true):bR X (.type "list") aZh:=by
 intro G s σ H xs Z Q I r h;obtain⟨d,kvs,rfl,R,V,q⟩:=h;obtain⟨u,rfl,K⟩:=vals1 r;cases K;obtain⟨z,M,B,j,P⟩:=vU I.hok R;obtain⟨ep,y⟩:=P.dictAt;have S:=KV.length j;refine PySem.W.kdl_call (PySem.W.kdl_dict (knd:=bH X.prog X.w) (kvs:=B) (ep:=ep) M) (I.ok.hd T) y (small (by lia)) λY E f c L g a=>?_;have A:H s.heap.objs.size=none:=I.hok.fresh (j5 _);refine⟨.ref _,_,I.laid (t':=E) (o:=.lst (kvs.map λl=>kV l.1)) L (j5 _) ?_,rfl,q _ _ A (aR A _) aH⟩;have N:f.toList.length=B.length:=Array.length_toList.trans a.1;refine⟨small (by rw[j0];lia),f.toList,c,yZ (by rw[j0,N];lia) λi u v C O=>?_,by rw[Array.toArray_toList];exact g⟩;obtain⟨k,x,J,p⟩:=a.2 i v (by rw[<-bBX];exact O);rw[m5] at C;obtain⟨l,D,rfl⟩:=Option.map_eq_some_iff.mp C;have b:(kvs.map (·.1))[i]?=some l.1:=by rw[m5,D];rfl
 rw[KV.keys j,m5,J] at b;cases b;obtain⟨F,U⟩:=l;cases F with
 |inl n=>
  cases v with
  |int m t=>
   have e:m=n:=by simpa [bH,mD,Value.isInt] using p
   exact⟨t,by rw[e]⟩
  |_=>exact absurd (show false=true from p) m7
 |inr n=>
  cases v with
  |str m t=>
   have e:m=n:=by simpa [bH,mD,Value.isStrOf] using p
   exact⟨t,by rw[e]⟩
  |_=>exact absurd (show false=true from p) m7
end
end L2
namespace My
open PySem PySem.Spec PyProof.Rows L2
section
variable {P:Program}{w:World}{K:bE4}{mg:bE7}{base:Heap}
def aL8 {H:Hp}{p:Addr}{x:Key × V}{xs:List (Key × V)}{o:HO}(g:H p=some (.dK (x::xs))):Tst K H (L2.upd H p o):=by
 refine⟨λb c h=>?_,λb c h _=>?_,λb h=>?_⟩
 ·rcases h with (h|⟨a,h⟩)|h
  ·exact .inl (.inl (by rw[aJ (pN h g (by intro z;cases z))];exact h))
  ·exact .inl (.inr ⟨a,by rw[aJ (pN h g (by intro z;cases z))];exact h⟩)
  ·exact .inr h
 ·rw[aJ (pN h g (by intro z;cases z))];exact h
 ·rw[aJ (pN h g (by intro z;cases z))];exact h
abbrev KtR (K:bE4)(H:Hp):Key × V->Key × Tg->Prop:=λkv kt=>kt.1=kv.1/\(∀H2,Th K H2 (kV kv.1))/\bF K H kv.2 kt.2
def aEb {k:Key}{u v:V}{kvs:List (Key × V)}(h:(k,v)∈kvs):putK kvs k u=kvs.map λkv=>if kv.1=k then (kv.1,u) else kv:=by unfold putK;rw[if_pos (List.any_eq_true.mpr ⟨(k,v),h,m8 rfl⟩)]
def aLr {H:Hp}{m:Int}{k:Key}{u v:V}{i:Tg}{kvs:List (Key × V)}{j:List (Key × Tg)}(h:cP (KtR K H) kvs j)(d:(k,v)∈kvs)(n:bF K H u i)(o:uU m i=false):∃kts',cP (KtR K H) (putK kvs k u) kts'/\kts'.all (nU m)=false/\(k,u)∈putK kvs k u:=by
 rw[aEb d];refine⟨j.map λf=>if f.1=k then (f.1,i) else f,?_,?_,List.mem_map.mpr ⟨_,d,if_pos rfl⟩⟩
 ·clear d
  induction h with
  |nil=>exact .nil
  |@cons a b as bs r t ih=>
   refine .cons ?_ ih;obtain⟨c,g,l⟩:=r;show KtR K H (if a.1=k then (a.1,u) else a) (if b.1=k then (b.1,i) else b);by_cases e:a.1=k
   ·rw[if_pos e,if_pos (by rw[c];exact e)];exact⟨c,g,n⟩
   ·rw[if_neg e,if_neg (by rw[c];exact e)];exact⟨c,g,l⟩
 ·induction h with
  |nil=>cases d
  |@cons a b as bs r t ih=>
   rw[bAC,bBS];rcases List.mem_cons.mp d with z|z
   ·have e:b.1=k:=by rw[r.1,<-z]
    rw[if_pos e];show ((nameB (kV b.1) && uU m i) && _)=false;rw[o,bAV,bAG]
   ·rw[ih z,bAV]
def aAw {m:Int}{a:List (Key × Tg)}(h:a.all (nU m)=false):pW (.int m) (some a)=false:=by show (decide (1<=m) && (decide (m<=6) && a.all (nU m)))=false;rw[h,bAV,bAV]
def aL6 {σ:L2.St}{H:Hp}{Q:VK}{d:Addr}{n:Str}{v:V}{k:Key}{x:V}{kvs:List (Key × V)}(c:x=kV k)(e:σ[2]?=some (some (.ref d)))(h:σ[5]?=some (some (.str n)))(hd:H d=some (.dK kvs))(f:jY kvs (Sum.inr n)=some v)
  (q:∀p H',H p=none->Same H H'->H' p=some (.dK [(k,v)])->Q (.ref p) H'):aS6 [(tC x,aQo (eX 2) (eX 5))] σ H Q:=by
 intro p a;subst c;have b:Same H (L2.upd H p (.dK [])):=aR a _;have g:=aBl.k (k:=(Sum.inr n:Key)) (b _ _ hd);rw[f] at g;exact⟨_,e,_,h,d,v,rfl,g,aH,[(k,v)],rfl,d9 rfl,q p _ a (dN a b) aH⟩
def aKw {r:R2}{t u:TE}{ts:TA}{D:Ends}{σ:L2.St}{H:Hp}(h:t σ H λx H1=>u σ H1 λy H2=>r x y H2 λv H3=>ts σ H3 λvs H4=>(v::vs).length<=sizeLine/\∀p H5,H4 p=none->Same H4 H5->H5 p=some (.tup (v::vs))->D.rt (.ref p) H5):uH (aR0 (cO (tOp r t u) ts)) D σ H:=h
inductive aCb (K:bE4)(vs:List V)(H:Hp)(Q:VK)(E_:XK):Prop
 |mk (a N d:Addr) (m:Int) (ns:List Str) (es:List En) (_:vs=[.ref a,.int m,.ref d,.ref N]) (_:gH H a) (_:H N=some (.lst (ns.map V.str))) (_:N≠a) (_:jZ ns) (_:1<=m) (_:m<=6) (_:dJ K H d es) (_:d≠a) (_:(∀e∈es,iV m e.t/\e.L≠a)) (_:2<=es.length) (_:es.map (·.n)=ns.take es.length) (_:∀t H' vm vd tm o,Fx a H H'->SqT K H' t [vm,vd]->bF K H' vm tm->Tbs K H' vd o->pW tm o=false->Q (.ref t) H')
def aAe (T:Txt w K mg)(aK:Ok P w K mg base 1 "_law_next" n6 fK)(uO:Ok P w K mg base 2 "_law_bad_table" bQJ (aIr K))(qL:Ok P w K mg base 2 "_law_bad_placing" o4 (aH9 K)):Ok P w K mg base 3 "_law_spoilt" o5 (aCb K):=by
 refine Ok.ofV T.aBc nH (by trivial) (λf bc A ar s H vs Q E hr h=>?_)
 obtain⟨a,N,d,m,ns,l,rfl,hs,hN,nN,hn,m1,m6,hE,af,a7,l2,ay,q⟩:=h;have O:=aF4 hr;have nd:=nH.nd;refine⟨_,(aC (bJ 4 (bI aK (aG (vv 0) (va1 aB)))) (aC (bJ 5 (bO bN (vv 3) (bI aK (aG (vv 0) (va1 aB))))) (aC (bJ 6 (bW aJc (by rfl) T.aJf aDk (va1 (vv 2)))) (aC (cF (eY cV (vv 4) aB) (aF (aP (aM (aG (bO bN (aX (aG aB (aG aB (aG cN (aG cY (aG aQ (aG (aWv aRk aB) (va1 (bK zY aB aB))))))))) (bI aK (aG (vv 0) (va1 aB)))) (va1 (vv 2)))))) bB) (aC (cF (eY cV (vv 4) aB) (aC (bJ 7 (aX (aG (bW (aK7 rfl) (by rfl) T.zX tG (va1 (vv 2))) (aG cY (aG (xU (tX aQ (jH O (vv 2) (vv 5) (λ_ _=>rfl)) xR) rfl rfl (by simp) (by decide)) (aG (xU (tX aQ (jH O (vv 2) (vv 5) (λ_ _=>rfl)) xR) rfl rfl (by simp) (by decide)) (aG (xU (tX aB (jH O (vv 2) (vv 5) (λ_ _=>rfl)) xR) rfl rfl (by simp) (by decide)) (va1 (xU (tX aQ (jH O (vv 2) (vv 5) (λ_ _=>rfl)) xR) rfl rfl (by simp) (by decide)))))))))) (aF (aP (aM (aG (vv 1) (va1 (bO bN (vv 7) (bI aK (aG (vv 0) (va1 aB)))))))))) bB) (aC (oG (jH O (vv 2) (vv 5) (λ_ _=>rfl)) (jT rfl (aZ (cL 8) (aZ (cL 9) (aZ (cL 10) dC))))) (aC (aFk O (vv 6) (vv 5) (bI uO (aG (vv 0) (va1 (jH O (vv 2) (vv 5) (λ_ _=>rfl)))))) (aC (cF (eY cV (vv 4) aB) (aF (aFk O (vv 6) (vv 5) (aM (aG (vv 8) (aG (bI qL (aG (vv 0) (aG (vv 8) (aG (vv 1) (va1 (vv 3)))))) (va1 (vv 10))))))) bB) (aF (aP (aM (aG (vv 1) (va1 (vv 6)))))))))))))),?_⟩;refine⟨_,rfl,a,4,rfl,hs,⟨by decide,by decide⟩,λwy H1 f1 w0 w4=>?_⟩;refine⟨_,rfl,_,rfl,a,2,rfl,f1.st,⟨by decide,by decide⟩,λc H2 f2 c0 c2=>?_⟩;obtain⟨k,rfl⟩:∃k:Nat,c=k:=⟨c.toNat,by lia⟩;have F2:=f1.trans f2;have kl:k<l.length:=by lia
 obtain⟨e,ee,r⟩:∃e,l[k]?=some e/\e∈l:=⟨l[k],b8 kl,bBH kl⟩;have en:ns[k]?=some e.n:=by
  have z:(l.map (·.n))[k]?=some e.n:=by rw[m5,ee];rfl
  rw[ay,bC3 kl] at z;exact z
 have a8:=F2.same _ _ nN hN;have aq:dJ K H2 d l:=hE.fx F2 hs af λe r=>(a7 e r).2;have hv:=xN hE.nd r;refine⟨N,_,_,.str e.n,rfl,rfl,SqL.of a8,bV (by rw[m5,en];rfl),?_⟩;refine⟨_,rfl,d,_,rfl,aq.at_,λp H3 fp s3 gp=>?_⟩;dsimp only[bU,List.set];have M:=F2.sm s3;have b:=aq.same s3;have pa:p≠a:=F2.st.ne fp;have C:∀e∈l,iV m e.t:=λe r=>(a7 e r).1;have Y:∀H',Fx a H3 H'->dJ K H' d l:=λH' f'=>b.fx f' M.st af λe r=>(a7 e r).2;refine⟨_,rfl,rfl,_,rfl,?_⟩;by_cases z0:wy=0
 ·refine aCz (m8 (by rw[z0])) ?_;have un:Bd [some (.ref a),some (.int m),some (.ref d),some (.ref N),some (.int wy),some (.str e.n),some (.ref p),none,none,none,none] H3 (tUn (rU λi=>.int (-i)) (tC (.int 1))) (TR K (.int (-1))):=λH Q s q=>⟨1,rfl,q _ H (Same.refl H) .int⟩;have pw:Bd [some (.ref a),some (.int m),some (.ref d),some (.ref N),some (.int wy),some (.str e.n),some (.ref p),none,none,none,none] H3 (tOp (rI bA7 λi j=>.int (i ^ j.toNat)) (tC (.int 10)) (tC (.int 30))) (TR K (.int (10 ^ 30))):=λH Q s q=>⟨10,30,rfl,rfl,⟨by decide,by decide,by decide⟩,q _ H (Same.refl H) .int⟩;have B:=iQ (jG (aA (eZ (x:=.int 0) λ_=>.int) (aA (eZ (x:=.int 7) λ_=>.int) (aA (eZ (x:=.bl true) λ_=>.bl) (aA (eZ (x:=.non) λ_=>.non) (aA (lB (x:="2") (by trivial)) (aA un (aA pw aU))))))) (d9 rfl));refine aKw ?_;refine Bd.at0 B λu F Z ⟨p4,a9,eu,g4,a6⟩=>?_;subst eu;have F4:=M.sm Z;refine⟨_,rfl,a,7,rfl,F4.st,⟨by decide,by decide⟩,λc' H5 f5 ax b9=>?_⟩;have np:p4≠a:=λz=>by obtain⟨x,y,e,_⟩:=F4.st;rw[z,e] at g4;cases g4;exact absurd (show 2=7 from a6.len) (by decide)
  obtain⟨j,rfl⟩:∃j:Nat,c'=j:=⟨c'.toNat,by lia⟩;have jl:j<a9.length:=by rw[a6.len];show j<7;lia
  obtain⟨t,e1,e2⟩:=a6.at (b8 jl);refine⟨p4,a9,_,a9[j],rfl,rfl,SqL.of (f5.same _ _ np g4),bV (b8 jl),_,rfl,(by show 2<=sizeLine;decide),λt6 H6 _ s6 g6=>?_⟩;obtain⟨o,o1,_⟩:=aL0 (Y H6 (((Fx.of M.st Z).trans f5).sm s6)) C m1 m6;refine q t6 H6 _ _ t o ((F4.trans f5).sm s6) (SqT.of g6) ((e2.st (rF F4.st f5)).same s6) o1 ?_;have ht:=bAA e1;simp only[bAE,v8,or_false] at ht;rcases ht with rfl|rfl|rfl|rfl|rfl|rfl|rfl <;> cases o <;> rfl
 refine sI (m9 λz=>z0 (V.int.inj z)) ?_;refine⟨_,rfl,rfl,_,rfl,?_⟩;by_cases z1:wy=1
 ·refine aCz (m8 (by rw[z1])) ?_;refine⟨_,rfl,d,_,rfl,b.at_,(by rw[jL];have:=b.few;lia),λl4 F W Z g4=>?_⟩;dsimp only[cO,tC,qZ];refine aL6 (k:=Sum.inr "where") rfl rfl rfl (Z _ _ b.at_) hv λp5 H5 f5 s5 g5=>?_;refine aL6 (k:=Sum.inr "") rfl rfl rfl (s5 _ _ (Z _ _ b.at_)) hv λp6 H6 f6 s6 g6=>?_;refine aL6 (k:=Sum.inl 3) rfl rfl rfl (s6 _ _ (s5 _ _ (Z _ _ b.at_))) hv λp7 U f7 s7 g7=>?_;refine aL6 (k:=Sum.inr "A") rfl rfl rfl (s7 _ _ (s6 _ _ (s5 _ _ (Z _ _ b.at_)))) hv λp8 H8 f8 s8 g8=>?_;refine⟨(by show 6<=sizeLine;decide),λl9 H9 f9 S g9=>?_⟩;have ab:=s8.trans S;have ao:=s7.trans ab;have aa:=s6.trans ao;have ap:=s5.trans aa;have F9:Fx a H3 H9:=Fx.of M.st (Z.trans ap);have n9:l9≠a:=((M.st.same Z).same (s5.trans (s6.trans (s7.trans s8)))).ne f9;refine⟨_,rfl,_,rfl,_,rfl,a,6,rfl,F9.st,⟨by decide,by decide⟩,λc' be aj ax bf=>?_⟩;obtain⟨j,rfl⟩:∃j:Nat,c'=j:=⟨c'.toNat,by lia⟩;have jl:j<[V.ref l4,.non,.ref p5,.ref p6,.ref p7,.ref p8].length:=by show j<6;lia
  refine⟨l9,_,_,_,rfl,rfl,SqL.of (aj.same _ _ n9 g9),bV (b8 jl),(by show 2<=sizeLine;decide),λt J _ b1 av=>?_⟩;have F11:Fx a H9 J:=aj.sm b1;have ak:=Y J (F9.trans F11);obtain⟨tg,i1,_⟩:=aW8 (ak.tb e r) (C e r);have a0:∀(k:Key) (p:Addr),H9 p=some (.dK [(k,e.v)])->(∀H2,Th K H2 (kV k))->nameB (kV k)=false->∃o,Tbs K J (.ref p) o/\pW (.int m) o=false:=λk p g th nb=>by
   have np:p≠a:=λz=>by obtain⟨x,y,e,_⟩:=F9.st;rw[z,e] at g;cases g
   exact⟨some [(k,tg)],⟨p,_,rfl,F11.same _ _ np g,d9 rfl,.cons ⟨rfl,th,i1⟩ .nil⟩,aAw (by show ((nameB (kV k) && uU m tg) && true)=false;rw[nb];rfl)⟩
  have aw:∀u∈[V.ref l4,.non,.ref p5,.ref p6,.ref p7,.ref p8],∃o,Tbs K J u o/\pW (.int m) o=false:=by
   intro u O;simp only[bAE,v8,or_false] at O;rcases O with rfl|rfl|rfl|rfl|rfl|rfl
   ·have g:=F11.same _ _ (M.st.ne W) (ap _ _ g4);refine⟨none,⟨.lst (l.map λe=>.str e.n),aDq g (aQt ?_ λi v t h1 h2=>?_) (λi j z=>?_) (by rw[j0];have:=b.few;lia),λz=>by cases z⟩,rfl⟩
    ·rw[j0,j0,jL]
    ·unfold enK at h1;rw[bBV,m5] at h1;rw[m5] at h2;cases e9:l[i]? with
     |none=>rw[e9] at h1;cases h1
     |some e'=>rw[e9] at h1 h2;cases h1;cases h2;exact .str (bAJ (gO (b.nm e' (bAA e9))) (by decide))
    ·have z':=congrArg List.head? z;rw[List.head?_map] at z';cases e9:l.head? with
     |none=>rw[e9] at z';cases z'
     |some e'=>rw[e9] at z';cases z'
   ·exact⟨none,⟨.non,.non,λz=>by cases z⟩,rfl⟩
   ·exact a0 (Sum.inr "where") p5 (aa _ _ g5) (λH2=>aFp (by trivial)) (by trivial)
   ·exact a0 (Sum.inr "") p6 (ao _ _ g6) (λH2=>aFp (by trivial)) (by trivial)
   ·exact a0 (Sum.inl 3) p7 (ab _ _ g7) (λH2=>.inr (.inl ⟨3,rfl⟩)) (by trivial)
   ·exact a0 (Sum.inr "A") p8 (S _ _ g8) (λH2=>aFp (by trivial)) (by trivial)
  obtain⟨o,o1,o2⟩:=aw _ (bBH jl);exact q t J _ _ (.int m) o (M.trans (F9.trans F11)) (SqT.of av) .int o1 o2
 refine sI (m9 λz=>z1 (V.int.inj z)) ?_;have hg:=aBl.k (k:=(Sum.inr e.n:Key)) b.at_;rw[hv] at hg;have an:=b.tb e r;obtain⟨x,ex,gx,hI,ba,as⟩:=id an;have D:=C e r;obtain⟨th,h1,_,eh⟩:=aP0 hI D.hd;obtain⟨tr,r1,_⟩:=aDg D.hd.1.2.2 as D.few D.rows;have ae:(enK l).length<sizeLine:=by rw[jL];exact qY (by have:=b.few;lia)
 have R:((Sum.inr e.n:Key),e.v)∈enK l:=List.mem_map.mpr ⟨e,r,rfl⟩;obtain⟨y,ys,ey⟩:∃y ys,enK l=y::ys:=bEW (List.ne_nil_of_mem R);refine⟨_,rfl,_,rfl,d,e.v,rfl,hg,x,_,ex,gx,rfl,e.vh,_,rfl,e.vp,_,rfl,.ref e.L,_,rfl,rfl,?_⟩;dsimp only[bU,List.set];refine⟨_,rfl,_,rfl,_,rfl,d,e.v,rfl,hg,a,m,e.v,e.vh,e.vp,e.L,e.t,rfl,M.st,an,D,λu F tg W i4 b4=>?_⟩;have am:F p=some (.dK (enK l)):=W.same _ _ pa gp;refine⟨_,rfl,_,rfl,p,_,rfl,aJj.k (k:=Sum.inr e.n) am ae,?_⟩;have I:Tst K F (L2.upd F p (.dK (putK (enK l) (Sum.inr e.n) u))):=aL8 (by rw[<-ey];exact am);have F5:Fx a H (L2.upd F p (.dK (putK (enK l) (Sum.inr e.n) u))):=(M.trans W).upd (F2.free fp) pa;have X:L2.upd F p (.dK (putK (enK l) (Sum.inr e.n) u)) p=some (.dK (putK (enK l) (Sum.inr e.n) u)):=aH;have ai:L2.upd F p (.dK (putK (enK l) (Sum.inr e.n) u)) N=some (.lst (ns.map V.str)):=by rw[aJ (aV a8 fp)];exact W.same _ _ nN (s3 _ _ a8)
 generalize L2.upd F p (.dK (putK (enK l) (Sum.inr e.n) u))=H5 at I F5 X ai ⊢;obtain⟨bd,k1,_⟩:=aMn (K:=K) (H:=F) (m:=m) λe r=>⟨(Y F W).tb e r,C e r,(Y F W).nm e r⟩;obtain⟨ad,a1,a2,a3⟩:=aLr (m:=m) (k:=Sum.inr e.n) (k1.imp λ_ _ z=>(⟨z.1,z.2.1,z.2.2.st I⟩:KtR K H5 _ _)) R (i4.st I) b4;have a5:(putK (enK l) (Sum.inr e.n) u).length=(enK l).length:=by rw[aEb R,j0]
 generalize putK (enK l) (Sum.inr e.n) u=kvs1 at X a1 a3 a5 ⊢;have b3:=b.few;have bb:kvs1.length<=60:=by rw[a5,jL];exact b3
 refine⟨_,rfl,rfl,_,rfl,?_⟩;by_cases z2:wy=2
 ·refine aCz (m8 (by rw[z2])) ?_;have au:gY K H5 e.vh e.t.hd:=(hI.tk (W.tk M.st)).tk I.tk;refine⟨_,rfl,_,rfl,_,rfl,_,rfl,_,rfl,a,N,m,e.vh,e.t.hd,ns,rfl,F5.st,au,D.hd,ai,hn,λu' H6 b0 f6 i6 b6=>?_⟩;refine⟨_,rfl,(by show 3<=sizeLine;decide),λt7 U f7 s7 g7=>?_⟩;have ag:U p=some (.dK kvs1):=s7 _ _ (f6.same _ _ pa X);refine⟨_,rfl,_,rfl,p,_,rfl,aJj.k (k:=Sum.inr e.n) ag (qY (by lia)),?_⟩;obtain⟨y1,b5,az⟩:∃y ys,kvs1=y::ys:=bEW (List.ne_nil_of_mem a3);have a4:∀v t,bF K H5 v t->bF K U v t:=λv t h=>(h.st (rF F5.st f6)).same s7;have up:∀v t,bF K H3 v t->bF K U v t:=λv t h=>a4 _ _ ((h.st (rF M.st W)).st I);have al:bF K U (.ref t7) (.tup [th,b0,tr]):=uK (SqT.of g7) (.cons (up _ _ h1) (.cons (i6.same s7) (.cons (up _ _ r1) .nil))) (d9 rfl);have G:Tst K U (L2.upd U p (.dK (putK kvs1 (Sum.inr e.n) (.ref t7)))):=aL8 (by rw[<-az];exact ag);have F8:Fx a H (L2.upd U p (.dK (putK kvs1 (Sum.inr e.n) (.ref t7)))):=((F5.trans f6).sm s7).upd (F2.free fp) pa;have ac:L2.upd U p (.dK (putK kvs1 (Sum.inr e.n) (.ref t7))) p=some (.dK (putK kvs1 (Sum.inr e.n) (.ref t7))):=aH;generalize L2.upd U p (.dK (putK kvs1 (Sum.inr e.n) (.ref t7)))=H8 at G F8 ac ⊢;obtain⟨ah,c1,c2,_⟩:=aLr (m:=m) (k:=Sum.inr e.n) (a1.imp λ_ _ z=>(⟨z.1,z.2.1,(a4 _ _ z.2.2).st G⟩:KtR K H8 _ _)) a3 (al.st G) (aOo (by rw[eh];exact b6));have b2:(putK kvs1 (Sum.inr e.n) (.ref t7)).length=kvs1.length:=by rw[aEb a3,j0]
  exact⟨_,rfl,_,rfl,(by show 2<=sizeLine;decide),λt9 H9 _ S g9=>q t9 H9 _ _ (.int m) (some ah) (F8.sm S) (SqT.of g9) .int ⟨p,_,rfl,S _ _ ac,by lia,c1.imp λ_ _ z=>⟨z.1,z.2.1,z.2.2.same S⟩⟩ (aAw c2)⟩
 ·refine sI (m9 λz=>z2 (V.int.inj z)) ?_;exact⟨_,rfl,_,rfl,(by show 2<=sizeLine;decide),λt9 H9 _ S g9=>q t9 H9 _ _ (.int m) (some ad) (F5.sm S) (SqT.of g9) .int ⟨p,_,rfl,S _ _ X,by lia,a1.imp λ_ _ z=>⟨z.1,z.2.1,z.2.2.same S⟩⟩ (aAw a2)⟩
inductive aNd (K:bE4)(Pt:Addr)(vs:List V)(H:Hp)(Q:VK)(E_:XK):Prop
 |mk (a:Addr) (ns:List Int) (_:vs=[.ref a]) (_:SqL K H a (ns.map V.int)) (_:ns.length<=63) (_:H Pt=some (.tab qC)) (_:∀H',H' Pt=some (.tab qC)->Q (.bl true) H')
def FlR (rs:List (List V)):Prop:=∀r∈rs,∀x∈r,(∃i,x=.int i)\/∃z,x=.str z
def iV.flat {m:Int}{t:Tb}(h:iV m t):FlR t.rows:=λr a x b=>bBv (aQm (h.rows r a)) x b
theorem aQh {H:Hp}:∀{n:Nat} {x y:V},DEq K H 40 x y->DL K H n x y
 |0,_,_,h=>.inr h
 |_+1,_,_,h=>.inl (aQh h)
def aEm {α β:Type}{R S:α->β->Prop}(k:∀a b,R a b->S a b){as:List α}{bs:List β}(h:Al2 R as bs):Al2 S as bs:=by
 induction h with
 |nil=>exact .nil
 |cons r _ ih=>exact .cons (k _ _ r) ih
inductive aSv (K:bE4)(C Pt:Addr)(vs:List V)(H:Hp)(Q:VK)(E:XK):Prop
 |mk (H0:Hp) (x dx d:Addr) (m:Int) (es:List En) (_:vs=[.ref x,.int m,.ref d]) (_:H x=some (.ins C dx [])) (_:H0 x=none) (_:Same H0 H) (_:1<=m) (_:m<=6) (_:dJ K H0 d es) (_:(∀e∈es,iV m e.t)) (_:H0 Pt=some (.tab qC)) (_:∀d' H' es',H0 d'=none->Same H0 H'->gZ K H' C x m d' es'->cP (λe e'=>∃v L,e'=aF5 e v L/\H0 L=none) es es'->Q .non H')
inductive aO5 (K:bE4)(C:Addr)(vs:List V)(H:Hp)(Q:VK)(E:XK):Prop
 |mk (x d:Addr) (m:Int) (es:List En) (v:V) (_:vs=[.ref x,v]) (_:gZ K H C x m d es) (_:∃e∈es,v=.str e.n/\∀L H',H L=none->Same H H'->fV K H' L e.t.rows->Q (.ref L) H')
def aOx {H:Hp}{es es':List En}(h:cP (λe e'=>∃v L,e'=aF5 e v L/\H L=none) es es'):es'.map (·.n)=es.map (·.n):=by
 induction h with
 |nil=>rfl
 |cons r _ ih=>obtain⟨v,L,rfl,_⟩:=r;rw[bAC,bAC,ih];rfl
def aFa {H:Hp}{xs:List V}(h:xs.all iH=true):Al2 (DW K H) xs xs:=by
 induction xs with
 |nil=>exact .nil
 |cons x xs ih=>rw[bBS,bAB] at h;exact .cons (.inl (aQh (.inl ⟨h.1,rfl⟩))) (ih h.2)
def aZ2 {f:Addr}{fd:FuncData}(F:Fun K "law" "law" aPq f fd)(T:Txt w K mg){C Pt:Addr}(dg:Ok P w K mg base 2 "_law_begin" q7 (aIa K))(d5:Ok P w K mg base 2 "_law_names" n6 aPy)(aK:Ok P w K mg base 1 "_law_next" n6 fK)(dc:Ok P w K mg base 5 "_law_town" u5 (aHu K))(dd:Ok P w K mg base 3 "_law_spoilt" o5 (aCb K))(c1:OkC P w K mg base C 11 "Town" n8 (aSv K C Pt))(a0:OkM P w K mg base C 4 "whole" u6 (aO5 K C))(vZ:Ok P w K mg base 13 "_law_made" bQA (aM1 K Pt))(lW:Ok P w K mg base 6 "_law_asked" o7 (aH8 K C)):dW P w K mg base CX0 14 f fd q7 (aNd K Pt):=by
 refine Fun.okV F aPl (λvs H Q E h=>?_) (λde A c5 s H vs Q E hr h=>?_)
 ·obtain⟨a,ns,rfl,_⟩:=h;rfl
 obtain⟨a,ns,rfl,ha,hn,bi,q⟩:=h;have hU:=hr.units;have hu:=aF4 hr;have nd:=aPl.nd;refine⟨_,(aC (bJ 1 (bI dg (va1 (vv 0)))) (aC (bJ 2 (bI d5 (aG (vv 1) (va1 aB)))) (aC (oG (bI dc (aG (vv 1) (aG (vv 2) (va1 aB)))) (jT rfl (aZ (cL 3) (aZ (cL 4) dC)))) (aC (eO PassesOwn.never rfl (cZ (by rfl) T.eE (va1 aB)) (cL 5) (aC (oG (bI dd (aG (vv 1) (aG (vv 3) (aG (vv 4) (va1 (vv 2)))))) (jT rfl (aZ (cL 6) (aZ (cL 7) dC)))) (aF (eO PassesOwn.never rfl (cZ (by rfl) T.eE (va1 aB)) (cL 8) (aF (cF (eY (aDr hU) (bI vZ (aG (vv 8) (aG (vv 6) (va1 (vv 7))))) (aX (aG cN (aG cN (aG cN (va1 cN)))))) (aF (aP cN)) bB)))))) (aC (bJ 9 (aU4 (c1.mono (by decide)) hr (by rfl) (aG (vv 3) (va1 (vv 4))))) (aC (bJ 10 (bO bN (aX (aG (bO bN (vv 2) aB) (aG aQ (aG aQ (aG cY (aG aB (aG (aX (va1 (bO bN (vv 2) aB))) (aG (aM fC) (va1 aQ))))))))) (bI aK (aG (vv 1) (va1 aB))))) (aC (eO PassesOwn.never rfl (cZ (by rfl) T.eE (va1 aB)) (cL 8) (aC (cF (eY (aDr hU) (bI lW (aG (vv 9) (aG (vv 8) (aG (vv 10) (va1 aB))))) (aX (aG cN (aG cN (aG cN (aG cN (va1 cN))))))) (aF (aP cN)) bB) (aF (cF (eY (aDr hU) (bI lW (aG (vv 9) (aG (vv 8) (aG (bO bN (vv 2) aB) (va1 aB))))) (aX fC)) (aF (aP cN)) bB)))) (aC (bJ 11 (bO bN (aX (aG (vv 3) (aG (aWv aRk aB) (aG cN (aG cY (aG aQ (aG (bK zY aB aB) (va1 (aX (va1 aB)))))))))) (bI aK (aG (vv 1) (va1 aB))))) (aC (cF (eY (aDr hU) (bI lW (aG (vv 9) (aG aB (aG (bO bN (vv 2) aB) (va1 (vv 11)))))) (aX (aG cN (aG cN (aG cN (aG cN (va1 cN))))))) (aF (aP cN)) bB) (aF (aP (eQ (lH (aP9 hU) (bAq a0 (vv 9) (va1 (bO bN (vv 2) aB))) (aO yV (by rfl) T.aAj uL (va1 (bO cD (jH hu (vv 4) (bO bN (vv 2) aB) (λ_ _=>rfl)) aB)))) (fJ (lH (aP9 hU) (bI vZ (aG aB (aG (vv 3) (va1 (vv 4))))) (aX fC))))))))))))))),?_⟩;refine⟨_,rfl,a,ns,rfl,ha,hn,λG H2 ct s2 b1=>?_⟩;refine⟨_,rfl,G,rfl,b1,λN H3 g f3 bw gN Y=>?_⟩;refine⟨_,rfl,_,rfl,G,N,g,rfl,f3.st,gN,b1.ne bw,Y,λt d m es H4 f4 ht cs m1 m6 hE as l2 l3 av=>?_⟩;refine⟨t,_,rfl,ht,rfl,_,_,rfl,_,_,rfl,rfl,?_⟩;dsimp only[bU,List.set];have M:=b1.ne bw;have b4:=f4.same _ _ M gN;have bg:d≠G:=f3.st.ne cs;have cm:=f3.trans f4;have cq:=s2 _ _ bi;have ad:Pt≠G:=aV bi ct;have b5:=cm.same _ _ ad cq;have ak:∀e∈es,iV m e.t/\e.L≠G:=λe B=>⟨(as e B).1,f3.st.ne (as e B).2.2⟩;have J:∀e∈es,iV m e.t:=λe B=>(as e B).1;have b9:∀H',Fx G H4 H'->dJ K H' d es:=λH' f'=>hE.fx f' f4.st bg λe B=>(ak e B).2;refine⟨3,rfl,by decide,by decide,?_⟩;refine dH (n:=3) (λi σ H'=>Fx G H4 H'/\∃l5 l6 l7 l8,σ=[some (.ref a),some (.ref G),some (.ref N),some (.int m),some (.ref d),l5,l6,l7,l8,none,none,none]) ⟨.refl f4.st,_,_,_,_,rfl⟩ (λi σ H5 hi p=>?_) fun σ H5 p=>?_
 ·obtain⟨f5,l5,l6,l7,l8,rfl⟩:=p;refine⟨_,rfl,_,rfl,_,rfl,_,rfl,G,N,d,m,g,es,rfl,f5.st,f5.same _ _ M b4,M,Y,m1,m6,b9 H5 f5,bg,ak,l2,av,λt6 H6 vm vd tm o f6 cl i6 b6 w6=>?_⟩;refine⟨t6,_,rfl,cl,rfl,_,_,rfl,_,_,rfl,rfl,?_⟩;have d1:=(f5.trans f6).same _ _ ad b5;refine⟨2,rfl,by decide,by decide,?_⟩;refine dH (n:=2) (λj σ H'=>Same H6 H'/\∃l8,σ=[some (.ref a),some (.ref G),some (.ref N),some (.int m),some (.ref d),some (.int (0+i)),some vm,some vd,l8,none,none,none]) ⟨Same.refl _,_,rfl⟩ (λj σ H7 hj p=>?_) fun σ H7 p=>?_
  ·obtain⟨s7,au,rfl⟩:=p;refine⟨_,rfl,_,rfl,_,rfl,_,vm,vd,rfl,s7 _ _ d1,.inr ⟨tm,o,i6.same s7,b6.same s7,w6,λl H8 s8 g8=>?_⟩⟩;refine⟨(by show 4<=sizeLine;decide),λl9 H9 _ Z g9=>⟨l,l9,_,_,rfl,rfl,SqL.of (Z _ _ g8),SqL.of g9,aFa (by trivial),_,rfl,cA ⟨s7.trans (s8.trans Z),_,rfl⟩⟩⟩
  ·obtain⟨s7,au,rfl⟩:=p;exact⟨(f5.trans f6).sm s7,_,_,_,_,rfl⟩
 obtain⟨f5,l5,l6,l7,l8,rfl⟩:=p;have c6:=b9 H5 f5;have cw:=f5.same _ _ ad b5;refine⟨_,rfl,_,rfl,λx dx bj bq d6=>?_⟩;refine⟨H5,x,dx,d,m,es,rfl,aH,bj,dN bj (aR bq _),m1,m6,c6,J,cw,λd' H6 b bs s6 hT hA=>⟨rfl,?_⟩⟩;dsimp only[bU,List.set];have f6:=f5.sm s6;have c2:=f6.st;have bf:=s6 _ _ (f5.same _ _ M b4);have lA:=hA.len;have an:b.map (·.n)=es.map (·.n):=aOx hA;obtain⟨cp,bd⟩:∃n,g[16]?=some n:=⟨g[16]'(by rw[Y.1];decide),b8 _⟩;obtain⟨n0,e0⟩:∃n,g[0]?=some n:=⟨g[0]'(by rw[Y.1];decide),b8 _⟩;have cx:∀{i:Nat} {n:Str},g[i]?=some n->n.length<=1000:=λh=>bAJ (gO (Y.2.1 _ (bAA h))) (by decide);have bn:∀(i:Nat) (n:Str),g[i]?=some n->Bd [some (.ref a),some (.ref G),some (.ref N),some (.int m),some (.ref d),l5,l6,l7,l8,some (.ref x),none,none] H6 (tOp (aX9 K) (eX 2) (tC (.int (i:Nat)))) (TR K (.str n)):=λi n h H Q s q=>⟨_,rfl,N,_,_,.str n,rfl,rfl,SqL.of (s _ _ bf),bV (by rw[m5,h];rfl),q _ H (Same.refl H) (.str (cx h))⟩;refine aKp ?_;refine Bd.at0 (iQ (jG (aA (bn 16 cp bd) (aA (lB (x:="where") (by trivial)) (aA (lB (x:="") (by trivial)) (aA (eZ (x:=.non) λ_=>.non) (aA (eZ (x:=.int 5) λ_=>.int) (aA (qP (aA (bn 0 n0 e0) aU) (λ_ _ z=>by cases z) (d9 rfl)) (aA (bC aU (d9 rfl)) (aA (lB (x:="Aa") (by trivial)) aU)))))))) (d9 rfl))) λu H7 s7 ⟨p7,af,eu,g7,ax⟩=>?_;subst eu;have ae:=c2.same s7;refine⟨_,rfl,G,8,rfl,ae,⟨by decide,by decide⟩,λc H8 f8 c0 c8=>?_⟩;have ca:p7≠G:=λz=>by obtain⟨x,y,e,_⟩:=ae;rw[z,e] at g7;cases g7;exact absurd (show 2=8 from ax.len) (by decide)
 obtain⟨j,rfl⟩:∃j:Nat,c=j:=⟨c.toNat,by lia⟩;have jl:j<af.length:=by rw[ax.len];show j<8;lia
 obtain⟨to,eo,d2⟩:=ax.at (b8 jl);have io:=d2.st (rF ae f8);refine⟨p7,af,_,af[j],rfl,rfl,SqL.of (f8.same _ _ ca g7),bV (b8 jl),?_⟩;dsimp only[List.set];have co:∀e∈b,to≠.str e.n:=λe B z=>by
  have hm:=bAA eo;have U:=hT.2.1.nm e B;subst z;simp only[bAE,v8,or_false,Tg.str.injEq,reduceCtorEq,false_or] at hm;rcases hm with hm|hm|hm|hm
  ·have h1:e.n∈g.take es.length:=by rw[<-av,<-an];exact bC8 B
   obtain⟨k,hk⟩:=bEI h1;have kl:k<es.length:=by have:=(List.getElem?_eq_some_iff.mp hk).1;rw[bAT] at this;lia
   rw[bC3 kl] at hk;have:=aRv Y.2.2 hk (by rw[hm];exact bd);lia
  ·rw[hm] at U;exact absurd U (by unfold Nm;decide +kernel)
  ·rw[hm] at U;exact absurd U (by unfold Nm;decide +kernel)
  ·rw[hm] at U;exact absurd U (by unfold Nm;decide +kernel)
 have az:=f5.st;have bp:∀e∈b,e.L≠G:=λe B=>by
  obtain⟨k,hk⟩:=bEI B;have kl:k<es.length:=by rw[lA];exact (List.getElem?_eq_some_iff.mp hk).1
  obtain⟨e2,h2,v,L,hL,h3⟩:=cW hA (b8 kl);rw[hk] at h2;cases h2;rw[hL];exact az.ne h3
 have aw:gZ K H8 C x m d' b:=by obtain⟨⟨b2,O⟩,ay,a7⟩:=hT;refine⟨⟨b2,f8.same _ _ (λz=>?_) (s7 _ _ O)⟩,(ay.same s7).fx f8 ae (az.ne bs) bp,a7⟩;obtain⟨y1,y2,e,_⟩:=c2;rw[z,e] at O;cases O
 have bx:=f8.same _ _ M (s7 _ _ bf);have S:∀H',Same H8 H'->atI (g.map V.str) 0=some (.str n0):=λ_ _=>bV (j:=0) (by rw[m5,e0];rfl);obtain⟨e1,a8,ab⟩:∃e∈b,e.n=n0:=by
  have z:n0∈b.map (·.n):=by rw[an,av];exact bAA (i:=0) (by rw[bC3 (by lia)];exact e0)
  obtain⟨e,B,h⟩:=List.mem_map.mp z;exact⟨e,B,h⟩
 refine⟨3,rfl,by decide,by decide,?_⟩;refine dH (n:=3) (λi σ H'=>Same H8 H'/\∃l8,σ=[some (.ref a),some (.ref G),some (.ref N),some (.int m),some (.ref d),l5,l6,l7,l8,some (.ref x),some af[j],none]) ⟨Same.refl _,_,rfl⟩ (λi σ H9 hi p=>?_) fun σ H9 p=>?_
 ·obtain⟨Z,au,rfl⟩:=p;refine⟨_,rfl,_,rfl,_,rfl,x,d',m,_,b,_,_,Rc .tab,rfl,aw.same Z,λl cv ac a6=>?_,.inr (.inl ⟨rfl,to,io.same Z,co⟩)⟩;refine⟨(by show 5<=sizeLine;decide),λcb bk _ bv c9=>⟨l,cb,_,_,rfl,rfl,SqL.of (bv _ _ a6),SqL.of c9,aFa (xs:=[.bl true,.bl false,.bl true,.bl false,.bl true]) (by trivial),_,rfl,cA ?_⟩⟩;have R:=Z.trans (ac.trans bv);refine⟨_,rfl,_,rfl,_,rfl,N,_,0,.str n0,rfl,rfl,SqL.of (R _ _ bx),S _ R,x,d',m,_,b,_,_,[],rfl,aw.same R,λl c4 b0 ba=>?_,.inl ⟨rfl,e1,a8,by rw[ab],0,rfl,by decide,by lia⟩⟩;exact⟨(by show 0<=sizeLine;decide),λap ar _ aa aq=>⟨l,ap,_,_,rfl,rfl,SqL.of (aa _ _ ba),SqL.of aq,.nil,_,rfl,cA ⟨R.trans (b0.trans aa),_,rfl⟩⟩⟩
 obtain⟨Z,au,rfl⟩:=p;have cr:=f8.st.same Z;dsimp only;refine aKp ?_;refine Bd.at0 (iQ (K:=K) (jG (aA (pB rfl .int) (aA (λH Q s q=>⟨1,rfl,q _ H (Same.refl H) (.int:bF K H (.int (-1)) (.int (-1)))⟩) (aA (eZ (x:=.bl true) λ_=>.bl) (aA (eZ (x:=.non) λ_=>.non) (aA (lB (x:="0") (by trivial)) (aA (λH Q s q=>⟨10,40,rfl,rfl,⟨by decide,by decide,by decide⟩,q _ H (Same.refl H) (.int:bF K H (.int (10 ^ 40)) (.int (10 ^ 40)))⟩) (aA (qP (aA (eZ (x:=.int 0) λ_=>.int) aU) (λ_ _ z=>by cases z) (d9 rfl)) aU))))))) (d9 rfl))) λu cv ac ⟨bb,a9,eu,a6,a3⟩=>?_;subst eu;have I:=cr.same ac;refine⟨_,rfl,G,7,rfl,I,⟨by decide,by decide⟩,λc bk X d4 c7=>?_⟩;have bh:bb≠G:=λz=>by obtain⟨x,y,e,_⟩:=I;rw[z,e] at a6;cases a6;exact absurd (show 2=7 from a3.len) (by decide)
 obtain⟨k,rfl⟩:∃k:Nat,c=k:=⟨c.toNat,by lia⟩;have kl:k<a9.length:=by rw[a3.len];show k<7;lia
 obtain⟨th,eh,bc⟩:=a3.at (b8 kl);have ih:=bc.st (rF I X);refine⟨bb,a9,_,a9[k],rfl,rfl,SqL.of (X.same _ _ bh a6),bV (b8 kl),?_⟩;dsimp only[List.set];have bm:iB m th=false:=by
  have hm:=bAA eh;simp only[bAE,v8,or_false] at hm;rcases hm with rfl|rfl|rfl|rfl|rfl|rfl|rfl
  ·exact Bool.and_eq_false_iff.mpr (.inr (m9 (by lia)))
  ·rfl
  ·rfl
  ·rfl
  ·rfl
  ·have e:iB m (.int (10 ^ 40))=(decide ((0:Int)<=10 ^ 40) && decide ((10:Int) ^ 40<m)):=rfl;rw[e];exact Bool.and_eq_false_iff.mpr (.inr (m9 (by lia)))
  ·rfl
 have a5:=Z.trans ac;have ao:gZ K bk C x m d' b:=by obtain⟨⟨b2,O⟩,ay,a7⟩:=aw.same a5;refine⟨⟨b2,X.same _ _ (λz=>?_) O⟩,ay.fx X I (az.ne bs) bp,a7⟩;obtain⟨y1,y2,e,_⟩:=I;rw[z,e] at O;cases O
 have bu:=X.same _ _ M (a5 _ _ bx);refine⟨_,rfl,_,rfl,N,_,0,.str n0,rfl,rfl,SqL.of bu,S _ Z,_,rfl,x,d',m,0,b,_,_,Rc .house,rfl,ao,λl c4 b0 ba=>?_,.inr (.inr ⟨rfl,rfl,e1,a8,by rw[ab],th,ih,bm⟩)⟩;refine⟨(by show 5<=sizeLine;decide),λap ar _ aa aq=>⟨l,ap,_,_,rfl,rfl,SqL.of (aa _ _ ba),SqL.of aq,aFa (xs:=[.bl false,.bl true,.bl true,.bl false,.bl true]) (by trivial),_,rfl,cA ?_⟩⟩;have a2:=b0.trans aa;have ai:=ao.same a2;obtain⟨⟨bz,br⟩,_,b3⟩:=id ai;obtain⟨e,B,v',L',bt⟩:∃e∈es,∃v L,e1=aF5 e v L:=by
  obtain⟨k,hk⟩:=bEI a8;have kl:k<es.length:=by rw[lA];exact (List.getElem?_eq_some_iff.mp hk).1
  obtain⟨e2,h2,v,L,hL,_⟩:=cW hA (b8 kl);rw[hk] at h2;cases h2;exact⟨_,bBH kl,v,L,hL⟩
 have cn:e.n=n0:=by rw[<-ab,bt];rfl
 have a1:Fx G H4 ar:=((((f6.sm s7).trans f8).sm a5).trans X).sm a2;have be:=b9 ar a1;have am:=a1.same _ _ M b4;have ah:=a1.same _ _ ad b5;refine⟨_,rfl,x,bz,_,rfl,br,rfl,_,rfl,N,_,0,.str n0,rfl,rfl,SqL.of am,S _ Z,x,d',m,b,_,rfl,ai,e1,a8,by rw[ab],λL1 d3 _ ag cf=>?_⟩;have a4:=be.same ag;have hg:=aBl.k (k:=(Sum.inr e.n:Key)) a4.at_;rw[xN hE.nd B,cn] at hg;obtain⟨x2,cd,ch,_,_,us,gL,al⟩:=a4.tb e B;have df:=(J e B).few;have ll:=al.len;refine⟨_,rfl,_,rfl,N,_,0,.str n0,rfl,rfl,SqL.of (ag _ _ am),S _ Z,d,e.v,rfl,hg,x2,_,2,.ref e.L,cd,rfl,ch,rfl,e.L,us,e.t.rows,knds e.t.hd,rfl,SqL.of gL,yI al,by lia,aMd (J e B).hd.1,λr hr=>aQm ((J e B).rows r hr),λD db cj hD W cy cu=>?_⟩;obtain⟨bo,d0,aj⟩:=cf;have fl:=(b3 e1 a8).flat;rw[bt] at aj fl;refine⟨L1,D,bo,cj,rfl,rfl,SqL.of (W _ _ d0),SqL.of cy,aEm (λ_ _ z=>aQh z) (aQ6 (aEm (λ_ _ z=>z.same W) (yI aj)) (aEm (λ_ _ z=>z.same W) cu) fl),_,rfl,bZ ?_⟩;refine⟨_,rfl,_,rfl,1,.int m,.ref d,rfl,W _ _ (ag _ _ ah),.inl ⟨d,m,es,rfl,rfl,m1,m6,a4.same W,J,λl da cg cz=>?_⟩⟩;exact⟨(by show 0<=sizeLine;decide),λcc ce _ c3 ci=>⟨l,cc,_,_,rfl,rfl,SqL.of (c3 _ _ cz),SqL.of ci,.nil,q ce (c3 _ _ (cg _ _ (W _ _ (ag _ _ ah))))⟩⟩
def aXq {fa Pt:Addr}(T:Txt w K mg)(CT:aQu K mg "are_cuts" Pt)(A:mg "law"=some (.ref fa)) :
  ∃fd:FuncData,(∀(s:Shared) (u:Value),BindsTo s fd ⟨[u],[]⟩ [("_law_script",u)])/\∀base:Heap,K.In base->base.Ns mainGlobals mg->BM mg base->dW P w K mg base CX0 14 fa fd q7 (aNd K Pt):=by
 obtain⟨f,fd,F,B,m⟩:=T.bA5;have e:fa=f:=by rw[m] at A;injection A with e;injection e with e;exact e.symm
 subst e;refine⟨fd,?_,λbase hK _ G=>?_⟩
 ·obtain⟨⟨oc,od,kV,X,pm,an,ac,ct,ab,rfl,lk,aa⟩,kp⟩:=F;exact λs u=>.of_eq rfl
 ·obtain⟨Tc,D,m0,m1,m2,m3,k,t⟩:=T.aZj;obtain⟨Sc,U,q0,b1,Y,b3⟩:=T.aVh;obtain⟨S,Z,x1,x2,z,x4,x5⟩:=T.bBx;have M:aSs K mg S Z:=⟨x1,x2,z,x4,x5⟩;have c:=D.cls;have cs:=U.cls;have l:=aFx (P:=P) (base:=base) T;have J:=aKh (P:=P) (base:=base) T;have y:=aLb T J;have g4:=aHq T l J;have g5:=aJa T l;have L:=aFl (P:=P) (base:=base) T;have R:=aEr T l;have i:=aDv (P:=P) (base:=base) T;have N:=zM T g4 g5;have I:=aLf (P:=P) (base:=base) T;have n:=aF1 T CT hK G (wJ T) (aNu T R) N;have pl:=aBb T L (xF T y i) I n;have C:=aHf T (aD7 T y L) (wX T) (aBs T) i;have W:=aF0 T C pl (aGb T (aJt T N));have nt:=aE1 T (z .bad) l y W;have O:=uJ T nt;have j:=aIw T (z .tab) y;have sa:=aDz T (aHz T i) (aUs T l (zU T)) (aOh T);have ra:=aJd T (z .house) R sa;have q:=aS0 T c m0 k t O;have r:=aOg T c m2 k j;have g:=aEj (P:=P) (base:=base) T;have V:=aA7 T g (aBv T g);have o:=aDl T M (gQ.make D q) (gQ.make U (aO4 T cs q0 b1 Y b3 O));have p:=aBm T M (aRf T c m3 k t j ra) r (aF3 T c m1 k j);exact aZ2 F T (aBo T (aEu T)) (aA8 T g (aBe T)) g (aD4 T g (aE5 T g) (wO T g V) (aIt T V)) (aAe T g (tM T g) (pD T g)) ((gQ.make D q).calm λvs H Q E h=>let ⟨a0,k,t,a3,a4,a5,a6,a7,a8,a9,a10,a11,a12,a13,a14,a15⟩:=h;.inl ⟨a0,k,t,a3,a4,a5,a6,a7,a8,a9,a10,a11,a12,a13,a14,a15⟩) (r.calm λvs H Q E h=>by obtain⟨x,d,m,es,v,a,b,h⟩:=h;exact⟨x,d,m,es,v,a,b,.inl h⟩) o p
def aTh {Pt:Addr}{H:Hp}{a:Addr}{e:List Int}{E:XK}(c:e.length<=63)(d:pO [(Pt,qC)] H)(f:SqL K H a (e.map V.int)):aNd K Pt [.ref a] H (λv H'=>v=.bl true/\pO [(Pt,qC)] H') E:=
 ⟨a,e,rfl,f,c,d _ (List.mem_singleton.mpr rfl),λH' h=>⟨rfl,λp b=>by rcases List.mem_singleton.mp b with rfl;exact h⟩⟩
def aYk {h:Heap}{Pt f c:Addr}{o:Obj}{d:FuncData}(X:K.In h)(G:h.Ns mainGlobals mg)(a:PySem.W.nsIn K mainGlobals "are_cuts"=some (some (.ref f)))(l:K.lookup f=some o)(g:o.data=.func d)(b:d.code=.ref c)(e:PySem.W.codeHdIn K c Pt=true):aQu K mg "are_cuts" Pt:=
 ⟨f,o,d,c,bDM X G a,l,g,b,e⟩
def aT5 {Pt f c:Addr}{o:Obj}{fd:FuncData}(a:PySem.W.nsIn K mainGlobals "are_cuts"=some (some (.ref f)))(l:K.lookup f=some o)(e1:o.data=.func fd)(e2:fd.code=.ref c)(d:PySem.W.codeHdIn K c Pt=true)(n:K.lookup Pt=none) :
  ∀p∈[(Pt,qC)],(∃c,PySem.W.codeHdIn K c p.1=true)/\K.lookup p.1=none:=λp b=>by
 rcases List.mem_singleton.mp b with rfl;exact⟨⟨c,d⟩,n⟩
def aU0 {Pt:Addr}{h:Heap}(x:∀P∈[Pt],h.get? P=some (PySem.W.tabObj #[])):∀p∈[(Pt,qC)],h.get? p.1=some { cls:=.none,data:=.fields #[] }:=λp a=>by rcases List.mem_singleton.mp a with rfl;exact x _ (List.mem_singleton.mpr rfl)
def aN9 {l:PySem.W.OpenLaw}{n k:Nat}{q:Program}{loose:List Str}{XP:(bE7)->Heap->Prop}{YP:World->Heap->Prop}{d:DefRec}{K:Params->bE4}{CX:CXT}{sp:bE4->Sp}{x:Str}
  (A:l.most=some n) (i:n<=sizeLine) (o:d.params.defaults=[]) (B:Room k callerA)
  (ts:List (Addr × Str)) (t:(ts.map (·.1)).Nodup)
  (z:∀(w:World) (h:Heap),YP w h->(K w.params).In h/\∀p∈ts,h.get? p.1=some { cls:=.none,data:=.fields #[] })
  (y:∀(w:World),∀p∈ts,(∃c,PySem.W.codeHdIn (K w.params) c p.1=true)/\(K w.params).lookup p.1=none)
  (F:∀(w:World) (mg:bE7) (fa:Addr) (h:Heap),(K w.params).In h->h.Ns mainGlobals mg->mg d.name=some (.ref fa) ->
   ∃fd:FuncData,(∀(s:Shared) (u:Value),BindsTo s fd ⟨[u],[]⟩ [(x,u)]) /\
    ∀base:Heap,(K w.params).In base->base.Ns mainGlobals mg->BM mg base->dW l.prog w (K w.params) mg base CX k fa fd [x] (sp (K w.params)))
  (m:∀(K:bE4) (H:Hp) (a:Addr) (ns:List Int),ns.length<=n->pO ts H->SqL K H a (ns.map V.int)->sp K [.ref a] H (λv H'=>v=.bl true/\pO ts H') λ_ _ _=>False)
  (b:∀(H:Hp) (s:Shared) (e:Value) (s':Shared),CX [] H s (λ_ _ _=>False) e s'->False) :
  PySem.W.WalkO q loose XP YP l.row.toRowW d [] (λf vs=>PySem.call f vs):=
 aQ5 (K:=K) (CX:=λ_=>CX) (sp:=λw=>sp (K w.params)) A i o B ts t z y F (λw H a ns r g j=>m (K w.params) H a ns r g j) λ_ H s e s'=>b H s e s'
end
inductive FA (K:bE4)(n:Str)(s:Stmt)(f:Addr):Prop
 |mk {od an:Option Addr} {sl:Array (Option Value)} {kV dc pm cd ct:Value}:PySem.W.nsIn K mainGlobals n=some (some (.ref f))->K.lookup f=some ⟨.type "function",od,.func (PySem.W.fnOf n n (iI s) (cQ s) (aD s) .none kV dc pm an cd ct),sl⟩->PySem.W.codeIn K cd n=true->PySem.W.keepIn K (.ref f)=true->FA K n s f
section
variable {K:bE4}{h:Heap}{mg:bE7}{n:Str}{s:Stmt}{f:Addr}{ps:List Str}
def aWr (X:K.In h)(G:h.Ns mainGlobals mg)(a:FA K n s f):mg n=some (.ref f):=by obtain⟨a,_,_,_⟩:=a;exact bDM X G a
def bBc (X:K.In h)(G:h.Ns mainGlobals mg)(a:FA K n s f)(b:∀(kV doc pm:Value) (an:Option Addr) (cdv ct:Value) (us:List Value),us.length=ps.length->bindArgs (PySem.W.fnOf n n (iI s) (cQ s) (aD s) .none kV doc pm an cdv ct) ⟨us,[]⟩=pure (ps.zip us)):Dn K mg n s ps:=by have m:=aWr X G a;obtain⟨_,l,c,k⟩:=a;exact⟨f,_,vI l c k,(vI l c k).binds b,m⟩
def bBb (X:K.In h)(G:h.Ns mainGlobals mg)(a:FA K n s f):∃f o,(∃u,mg n=some u/\RelV (.ref f) u)/\K.lookup f=some o/\o.cls=.type "function":=by have m:=aWr X G a;obtain⟨_,l,c,k⟩:=a;exact⟨f,_,⟨_,m,rfl⟩,l,rfl⟩
end
inductive CA (K:bE4)(x:Str)(C:Addr):Prop
 |mk:PySem.W.nsIn K mainGlobals x=some (some (.ref C))->PySem.W.plainGet K C Str.empty=true->PySem.W.hasDictIn K C=true->PySem.W.plainOver K C=true->PySem.W.findIn K (.ref C) "__setattr__"=some (some (.builtin "object.__setattr__"))->PySem.W.makesIn K C=true->PySem.W.keepIn K (.ref C)=true->CA K x C
def bBa {K:bE4}{h:Heap}{mg:bE7}{x:Str}{C:Addr}(X:K.In h)(G:h.Ns mainGlobals mg)(a:CA K x C):aR8 K mg x C:=by obtain⟨a,b,c,g,e,d,f⟩:=a;exact⟨bDM X G a,⟨b,c,g,e⟩,d,f⟩
inductive MA (K:bE4)(C:Addr)(m qual:Str)(s:Stmt)(f:Addr):Prop
 |mk {od an:Option Addr} {sl:Array (Option Value)} {kV dc pm cd ct:Value}:PySem.W.findIn K (.ref C) m=some (some (.ref f))->PySem.W.isFn K (.ref f)=true->K.lookup f=some ⟨.type "function",od,.func (PySem.W.fnOf m qual (iI s) (cQ s) (aD s) .none kV dc pm an cd ct),sl⟩->PySem.W.codeIn K cd qual=true->PySem.W.keepIn K (.ref f)=true->MA K C m qual s f
def bBe {K:bE4}{C:Addr}{m qual:Str}{s:Stmt}{f:Addr}{ps:List Str}(a:MA K C m qual s f)(b:∀(kV doc pm:Value) (an:Option Addr) (cdv ct:Value) (us:List Value),us.length=ps.length->bindArgs (PySem.W.fnOf m qual (iI s) (cQ s) (aD s) .none kV doc pm an cdv ct) ⟨us,[]⟩=pure (ps.zip us)):xK K C m qual s ps:=by obtain⟨a,i,l,c,k⟩:=a;exact⟨f,_,⟨a,i,k⟩,vI l c k,(vI l c k).binds b⟩
theorem ln0 {P:List Value->Prop}(h:P []):∀us:List Value,us.length=0->P us
 |[],_=>h
theorem lnS {P:List Value->Prop}{n:Nat}(h:∀a us,us.length=n->P (a::us)):∀us:List Value,us.length=n+1->P us
 |[],e=>by cases e
 |a::us,e=>h a us (Nat.succ.inj e)
def ln1 {P:List Value->Prop}(h:∀a0,P [a0]):∀us:List Value,us.length=1->P us:=lnS λa0=>ln0 (h a0)
def ln2 {P:List Value->Prop}(h:∀a0 a1,P [a0,a1]):∀us:List Value,us.length=2->P us:=lnS λa0=>lnS λa1=>ln0 (h a0 a1)
def ln3 {P:List Value->Prop}(h:∀a0 a1 a2,P [a0,a1,a2]):∀us:List Value,us.length=3->P us:=lnS λa0=>lnS λa1=>lnS λa2=>ln0 (h a0 a1 a2)
def ln4 {P:List Value->Prop}(h:∀a0 a1 a2 a3,P [a0,a1,a2,a3]):∀us:List Value,us.length=4->P us:=lnS λa0=>lnS λa1=>lnS λa2=>lnS λa3=>ln0 (h a0 a1 a2 a3)
def ln5 {P:List Value->Prop}(h:∀a0 a1 a2 a3 a4,P [a0,a1,a2,a3,a4]):∀us:List Value,us.length=5->P us:=lnS λa0=>lnS λa1=>lnS λa2=>lnS λa3=>lnS λa4=>ln0 (h a0 a1 a2 a3 a4)
def ln6 {P:List Value->Prop}(h:∀a0 a1 a2 a3 a4 a5,P [a0,a1,a2,a3,a4,a5]):∀us:List Value,us.length=6->P us:=lnS λa0=>lnS λa1=>lnS λa2=>lnS λa3=>lnS λa4=>lnS λa5=>ln0 (h a0 a1 a2 a3 a4 a5)
inductive X1 (K:bE4)(S fI:Addr)(n:Str)(C:Addr):Prop
 |mk {nm q:Str} {N:Addr} {bs bm:List Value} {sn:List Str} {sub:List Value} {ab:Bool} {col:Option Bool} {dd:Option Addr} {k0 k1 k2 k3 k5:Option Value} {cd:ClassData} :
  PySem.W.nsIn K mainGlobals n=some (some (.ref C)) ->
  K.lookup C=some (excClassObj nm q C N bs bm true sn sub ab col dd k0 k1 k2 k3 k5 "ValueError.__new__") ->
  bm.contains (.type "ValueError")=true ->
  bm.contains (.type "AttributeError")=false ->
  bm.contains (.type "NameError")=false ->
  bm.contains (.type "BaseException")=true ->
  PySem.W.clsIn K C=some cd ->
  (zJ cd.mro && cd.hasDict)=true ->
  PySem.W.findIn K (.ref C) "__init__"=some (some (.ref fI)) ->
  PySem.W.typeIn K (.ref fI)=some (.type "function") ->
  PySem.W.findIn K (.ref C) "__setattr__"=some (some (.builtin "object.__setattr__")) ->
  PySem.W.findIn K (.ref C) "__getattribute__"=some (some (.builtin "BaseException.__getattribute__")) ->
  PySem.W.findIn K (.ref C) "__getattr__"=some none ->
  PySem.W.findIn K (.ref C) "act"=some none ->
  PySem.W.findIn K (.ref C) "__class__"=some (some (.builtin "object.__class__")) ->
  PySem.W.keepIn K (.ref C)=true ->
  PySem.W.typeIn K (.ref C)=some (.type "type") ->
  PySem.W.mroIn K C (.type "BaseException")=some true ->
  PySem.W.mroIn K C (.ref S)=some true ->
  PySem.W.mroIn K C (.type "ValueError")=some true->X1 K S fI n C
inductive X0 (K:bE4)(S fI:Addr):Prop
 |mk {cS:ClassData} {od an:Option Addr} {sl:Array (Option Value)} {kV dc pm cdv ct:Value} :
  K.lookup fI=some ⟨.type "function",od,.func (PySem.W.fnOf "__init__" "ShardError.__init__" (iI fY) (cQ fY) (aD fY) .none kV dc pm an cdv ct),sl⟩ ->
  PySem.W.codeIn K cdv "ShardError.__init__"=true ->
  PySem.W.keepIn K (.ref fI)=true ->
  PySem.W.typeIn K (.ref S)=some (.type "type") ->
  PySem.W.clsIn K S=some cS ->
  PySem.W.mroIn K S (.type "BaseException")=some true->X0 K S fI
def aCw {K:bE4}{h:Heap}{mg:bE7}{S fI C:Addr}{n:Str}(X:K.In h)(G:h.Ns mainGlobals mg)(a:X1 K S fI n C)(b:X0 K S fI):ExT K mg fY n "ShardError.__init__" C S/\PySem.W.mroIn K C (.type "ValueError")=some true:=by obtain⟨r,p,w,t,q,x,o,v,A,y,s,z,u,j,f,l,m,i,g,k⟩:=a;obtain⟨c,e,d,_,_,_⟩:=b;exact⟨⟨⟨fI,_,⟨⟨_,_,_,_,_,_,_,_,_,_,_,_,_,_,_,p,w,t,q,x⟩,A,y,by rw[o];exact v,s,z,u,j,f⟩,vI c e d,(vI c e d).binds λ_ _ _ _ _ _=>ln2 λ_ _=>rfl⟩,bDM X G r,l,⟨m,by rw[o];rfl,i⟩,g⟩,k⟩
def bCa (c0 c1 c2:Addr):Exn->Addr
 |.bad=>c0
 |.tab=>c1
 |.house=>c2
inductive XM (K:bE4)(c0 c1 c2:Addr):Prop
 |mk:PySem.W.mroIn K c0 (.ref c0)=some true->PySem.W.mroIn K c0 (.ref c1)=some false->PySem.W.mroIn K c0 (.ref c2)=some false->PySem.W.mroIn K c1 (.ref c0)=some false->PySem.W.mroIn K c1 (.ref c1)=some true->PySem.W.mroIn K c1 (.ref c2)=some false->PySem.W.mroIn K c2 (.ref c0)=some false->PySem.W.mroIn K c2 (.ref c1)=some false->PySem.W.mroIn K c2 (.ref c2)=some true->XM K c0 c1 c2
def bBt {K:bE4}{h:Heap}{mg:bE7}{S fI w x v:Addr}(X:K.In h)(G:h.Ns mainGlobals mg)(s:PySem.W.nsIn K mainGlobals "ShardError"=some (some (.ref S)))(r:X1 K S fI "BadTown" w)(u:X1 K S fI "NoTable" x)(o:X1 K S fI "NoHouse" v)(b:X0 K S fI)(m:XM K w x v) :
  ∃(S:Addr) (ad:Exn->Addr),mg "ShardError"=some (.ref S)/\XS K S/\(∀c,ExT K mg fY c.nm "ShardError.__init__" (ad c) S)/\(∀c d,PySem.W.mroIn K (ad c) (.ref (ad d))=some (decide (c=d)))/\∀c,PySem.W.mroIn K (ad c) (.type "ValueError")=some true:=by
 refine⟨S,bCa w x v,bDM X G s,?_,λc=>?_,λc d=>?_,λc=>?_⟩
 ·obtain⟨_,_,_,q,t,p⟩:=b;exact⟨q,by rw[t];rfl,p⟩
 ·cases c
  ·exact (aCw X G r b).1
  ·exact (aCw X G u b).1
  ·exact (aCw X G o b).1
 ·obtain⟨l,g,a,i,n,j,e,k,f⟩:=m;cases c
  ·cases d
   ·exact l
   ·exact g
   ·exact a
  ·cases d
   ·exact i
   ·exact n
   ·exact j
  ·cases d
   ·exact e
   ·exact k
   ·exact f
 ·cases c
  ·exact (aCw X G r b).2
  ·exact (aCw X G u b).2
  ·exact (aCw X G o b).2
def aW6 {K:bE4}{h:Heap}{mg:bE7}{n:Str}{l:List V}{a:Addr}{o:Obj}{vs:Array Value}{m:Nat}(X:K.In h)(G:h.Ns mainGlobals mg)(q:PySem.W.nsIn K mainGlobals n=some (some (.ref a)))(r:K.lookup a=some o)(t:o.cls=.type "tuple")(y:o.dict=none)(u:o.data=.seq vs m)(v:Vals l vs.toList)(s:l.length<=1000):∃a,mg n=some (.ref a)/\∀H,SqT K H a l:=
 ⟨_,bDM X G q,λH=>.inr ⟨_,_,_,r,t,y,u,by have e:=v.length;simp only[v9] at e;rw[<-e];exact small s,v⟩⟩
def aXb {K:bE4}{h:Heap}{mg:bE7}{n:Str}{v:V}{u:Value}(X:K.In h)(G:h.Ns mainGlobals mg)(q:PySem.W.nsIn K mainGlobals n=some (some u))(r:RelV v u):∃u,mg n=some u/\RelV v u:=⟨u,bDM X G q,r⟩
def bAj {K:bE4}{h:Heap}{mg:bE7}{x:Str}{C:Addr}{R:Addr->Prop}(X:K.In h)(G:h.Ns mainGlobals mg)(a:CA K x C)(r:R C):∃C,aR8 K mg x C/\R C:=⟨C,bBa X G a,r⟩
end My
open PySem PySem.W PyProof.Rows
namespace PySem.W.Fast
def tw2235389824667549728:=Nat
def tw15856553569287796087:=Nat
def tw6123258300836527095:=Nat
def tw3771257595091894718:=Nat
def tw1035287680408621630:=Nat
def tw17349105095892382258:=Nat
def tw10173737012366457275:=Nat
def tw7181158406309907888:=Nat
def tw2651943002068074769:=Nat
def tw4941075311636007936:=Nat
def tw15904658327788620396:=Nat
def tw4799787179019991944:=Nat
def tw6283009557150139237:=Nat
def tw10275275699306839683:=Nat
def tw6601204773983749240:=Nat
def tw10197353048243721203:=Nat
def tw16415719087491153342:=Nat
def tw6302870001643699964:=Nat
def tw3629846236623673314:=Nat
def tw7582135643682045571:=Nat
def tw6434307796472121548:=Nat
def tw9828222275914344800:=Nat
def tw13970654297314447250:=Nat
def tw17181472545522865371:=Nat
def tw12169696924580528387:=Nat
def tw933803233285848466:=Nat
def tw16868846787835348529:=Nat
def tw1962654202904558477:=Nat
def tw11237424693716443591:=Nat
def tw9135381108390965772:=Nat
def tw6252703147610645544:=Nat
def tw3110502032475060170:=Nat
def tw9894450884821019418:=Nat
def tw2085893042902459504:=Nat
def tw3063878830389112870:=Nat
def tw640136695095989918:=Nat
def tw10466186653348016051:=Nat
def tw6636064655640263529:=Nat
def tw9081564988355180991:=Nat
def tw6410778839402004819:=Nat
def tw10532176855568053908:=Nat
def tw3540127087099351203:=Nat
def tw11201583331509854998:=Nat
def tw15756725034152972256:=Nat
def tw12784744937361939633:=Nat
def tw7118058080760838473:=Nat
def tw388775143885374119:=Nat
def tw459024333012382211:=Nat
def tw8186468165495281108:=Nat
def tw10816260206081320343:=Nat
def tw6192269869363374390:=Nat
def tw13316121261127299436:=Nat
def tw1156918513613532153:=Nat
def tw17948868322099075487:=Nat
def tw15968984550659856668:=Nat
def tw9831302502944087545:=Nat
def tw8474685871053299277:=Nat
def tw14262785543389500199:=Nat
def tw18209165886204406789:=Nat
def tw11390917413651428330:=Nat
def tw3795724588486136256:=Nat
def tw15584573475846280447:=Nat
def tw7627963570734773409:=Nat
def tw15820320811196719361:=Nat
def tw5739427100473204346:=Nat
def tw14832096281863957314:=Nat
def tw11868656800480401433:=Nat
def tw5737220736779632400:=Nat
def tw4124112114393546983:=Nat
def tw9073262834939265826:=Nat
def tw15557591965555235577:=Nat
def tw11930932231578222376:=Nat
def tw7704895325277567221:=Nat
def tw859619346899277559:=Nat
def tw15561668538652714449:=Nat
def tw8332922950171631771:=Nat
def tw11853457549763492066:=Nat
def tw3263982249175783902:=Nat
def tw13483082723372507660:=Nat
def tw13898500284375269012:=Nat
def tw6867852047508856970:=Nat
def tw8427000112714352881:=Nat
def tw10783124434653224245:=Nat
def tw13063430686762871298:=Nat
def tw14455347083080640014:=Nat
def tw7509035241560956300:=Nat
def tw15711715015454734278:=Nat
def tw200423887063452785:=Nat
def tw382535640283817771:=Nat
def tw10976782184391941621:=Nat
def tw9977595958600484549:=Nat
def tw576674935080378027:=Nat
def tw5458041692775526911:=Nat
def tw17529379345861751031:=Nat
def tw15572529566896252208:=Nat
def tw11655253710438437954:=Nat
def tw9387566543091827574:=Nat
def tw4296902122840282584:=Nat
def tw16345797101290478965:=Nat
def tw5852378119325164732:=Nat
def tw6393679574115039557:=Nat
def tw2733861954428710671:=Nat
def tw5774064407610908772:=Nat
def tw12398049490054648957:=Nat
def tw7243989403617912162:=Nat
def tw11126670358740418299:=Nat
def tw10123295097616237046:=Nat
def tw16952542159326189756:=Nat
def tw6960303736921272890:=Nat
def tw10917262841630008285:=Nat
def tw604965672212392011:=Nat
def tw17052815540886563543:=Nat
def tw18052248909320668809:=Nat
def tw16066662523890119185:=Nat
def tw10088205902796636541:=Nat
def tw2072402163297712795:=Nat
def tw4277734317367601593:=Nat
def tw14601491267059527990:=Nat
def tw10160967451562165566:=Nat
def tw16696613134949754529:=Nat
def tw1222543352342310927:=Nat
def tw4059640245552385195:=Nat
def tw1239327979098974611:=Nat
def tw15991969911027240840:=Nat
def tw5295308712532118593:=Nat
def tw16144026448052188266:=Nat
def tw5632696000832258415:=Nat
def tw542265188034505958:=Nat
def tw13566707219988584226:=Nat
def tw15539404346525317048:=Nat
def tw15423061875553496740:=Nat
def tw892626041983529379:=Nat
def tw746230665300617686:=Nat
def tw18090319776986215009:=Nat
def tw3181390710044874174:=Nat
def tw3487067626521284463:=Nat
def tw9482146625918789496:=Nat
def tw9359763384147553828:=Nat
def tw11490159585520790375:=Nat
def tw14201626179533791970:=Nat
def tw17802182155453607056:=Nat
def tw5829590224880131345:=Nat
def tw896599778568164145:=Nat
def tw4989966835986050215:=Nat
def tw15626375836880963984:=Nat
def tw2456113400866405378:=Nat
def tw12610083518841638212:=Nat
def tw11707382165028382710:=Nat
def tw7076697719150778111:=Nat
def tw469029115563270965:=Nat
def tw5212233222447677124:=Nat
def tw2109473575238981046:=Nat
def tw1047916403772855418:=Nat
def tw17135938187188985021:=Nat
def tw16891703947057701749:=Nat
def tw9095541073141982629:=Nat
def tw4428668050964959026:=Nat
def tw12426429552319552169:=Nat
def tw11968064925741961985:=Nat
def tw2613891376698920267:=Nat
def tw7039931565774779350:=Nat
def tw16917364011069215000:=Nat
def tw5230168600144190740:=Nat
def tw2918563001895365420:=Nat
def tw18121758634321264794:=Nat
def tw9806521153896977783:=Nat
def tw16866771613753665125:=Nat
def tw3375252467434147360:=Nat
def tw18413981127776996465:=Nat
def tw16450182121105243335:=Nat
def tw16291893271728035662:=Nat
def tw5286009951539829117:=Nat
def tw2029169051884311136:=Nat
def tw13019807545044821097:=Nat
def tw15583281283438106013:=Nat
def tw4051877845769360746:=Nat
def tw16494231382853721605:=Nat
def tw9267852793286959587:=Nat
def tw11872029344896270213:=Nat
def tw16148079653821061397:=Nat
def tw16604092471938432683:=Nat
def tw7542080805707995268:=Nat
def tw5974254780431403027:=Nat
def tw2982219556552469138:=Nat
def tw17188717566515743246:=Nat
def tw2183439975089765806:=Nat
def tw17948235767841641804:=Nat
def tw896519271079600997:=Nat
def tw6584678908846268189:=Nat
def tw12121117090657218789:=Nat
def tw16807444482180966092:=Nat
def tw10582223289063224882:=Nat
def tw11469742349983659288:=Nat
def tw674534370198908362:=Nat
def tw14413542595151191978:=Nat
def tw5346518703303213639:=Nat
def tw16432068669704129492:=Nat
def tw17401913500455226284:=Nat
def tw9022923438143161803:=Nat
def tw14943407833854854699:=Nat
def tw6222374790757573425:=Nat
def tw16020450199968520709:=Nat
def tw837761705569268613:=Nat
def tw1018222011079281967:=Nat
def tw3996476973591132514:=Nat
def tw2133444123088113958:=Nat
def tw14399967202489250964:=Nat
def tw12366949537791620484:=Nat
def tw11016301236369296259:=Nat
def tw6294282638753594203:=Nat
def tw11799924998376588206:=Nat
def tw3036295970244240501:=Nat
def tw10832748186684703207:=Nat
def tw7612291149557225276:=Nat
def tw6222064249349348341:=Nat
def tw3389648864947228890:=Nat
def tw11214933435525451706:=Nat
def tw7457387923962370912:=Nat
def tw6192299545186272122:=Nat
def tw10138950277273182879:=Nat
def tw11022458211687484819:=Nat
def tw4323550625399879100:=Nat
def tw9737009061911044195:=Nat
def tw13991446604129304636:=Nat
def tw4725207701274994339:=Nat
def tw9356645908534258531:=Nat
def tw9856072324628751946:=Nat
def tw16077508900109371847:=Nat
def tw9899620816894648187:=Nat
def tw9153146285641222354:=Nat
def tw10231748299163023756:=Nat
def tw1305101213743784446:=Nat
def tw10512051094535660646:=Nat
def tw12427242837093551658:=Nat
def tw13335123811584423507:=Nat
def tw613940484924573819:=Nat
def tw6129684322597446278:=Nat
def tw16354248814246530813:=Nat
def tw1125271175908585454:=Nat
def tw5814051097016471640:=Nat
def tw17712263974618920805:=Nat
def tw13194834047089413801:=Nat
def tw12740796174276919419:=Nat
def tw16706570513769109016:=Nat
def tw13081258215603142273:=Nat
def tw7314767189484941926:=Nat
def tw2027589237721801609:=Nat
def tw10444450035192482784:=Nat
def tw4004758866674351209:=Nat
def tw16007297874186195011:=Nat
def tw10876519729667012588:=Nat
def tw6242359154240131373:=Nat
def tw4248983783386032969:=Nat
def tw17759964017408360404:=Nat
def tw16592981007757517206:=Nat
def tw11689816666275122429:=Nat
def tw11088512506297687411:=Nat
def tw14360693321571142416:=Nat
def tw161631619615049054:=Nat
def tw13905572020016349888:=Nat
def tw11663215011479688952:=Nat
def tw8780886675360113236:=Nat
def tw13123020600919961593:=Nat
def tw9463219801317990059:=Nat
def tw9653096821198073018:=Nat
def tw7615478279962874768:=Nat
def tw11821098008958518198:=Nat
def tw11791838385335678849:=Nat
def tw4582891773112769537:=Nat
def tw9068774085161553087:=Nat
def tw17612894755046320870:=Nat
def tw1765631448395760663:=Nat
def tw4298884043702168475:=Nat
def tw2460686147257932990:=Nat
def tw1473490068574537111:=Nat
def tw13267516686325469841:=Nat
def tw2616976677274348340:=Nat
def tw15614356110793524899:=Nat
def tw12910910657358047260:=Nat
def tw4719665512942600263:=Nat
def tw203991253639327090:=Nat
def tw6089797078651387305:=Nat
def tw15353356410860153221:=Nat
def tw15301390827794636309:=Nat
def tw15057341419437679351:=Nat
def tw358193102467441647:=Nat
def tw17144527483016815632:=Nat
def tw17296580973580044120:=Nat
def tw12388132291043156477:=Nat
def tw9275526444651482027:=Nat
def tw5910493925794305506:=Nat
def tw1664893022977492082:=Nat
def tw11777330539131493997:=Nat
def tw16755434609565660941:=Nat
def tw15373222326614687743:=Nat
def tw10229766863233812833:=Nat
def tw6416284578615150007:=Nat
def tw18074951465339891896:=Nat
def tw17227602865495222412:=Nat
def tw12258306390445533921:=Nat
def tw17601112560365665040:=Nat
def tw7733532447595427966:=Nat
def tw6949722668872291718:=Nat
def tw14301123953882900588:=Nat
def tw88516362820726356:=Nat
def tw40825185783998606:=Nat
def tw15613245005742780732:=Nat
def tw9349830932899468902:=Nat
def tw9550412360754220011:=Nat
def tw4213800182494560288:=Nat
def tw3860997698894063947:=Nat
def tw15897745077257403921:=Nat
def tw1316805335981521991:=Nat
def tw11771238160325998042:=Nat
def tw10694825952165018678:=Nat
def tw17643181846193171877:=Nat
def tw11009754944259766583:=Nat
def tw9483923036182601151:=Nat
def tw829691582801618827:=Nat
def tw9115029216483090445:=Nat
def tw11103090355032345405:=Nat
def tw424737086961384160:=Nat
def tw6558860874540321075:=Nat
def tw361442840854586887:=Nat
def tw1914141661205236384:=Nat
def tw8482666559622237920:=Nat
def tw9843874726316733040:=Nat
def tw14504210661816260107:=Nat
def tw18404765037498850489:=Nat
def tw9040476615672176648:=Nat
def tw7766055099373379228:=Nat
def tw13307343818142634870:=Nat
def tw8004585612349203623:=Nat
def tw257409966752625252:=Nat
def tw6950079751506294639:=Nat
def tw14351821097827279633:=Nat
def tw14850424450722111118:=Nat
def tw11091424269055030927:=Nat
def tw10298375351805142515:=Nat
def tw636240041023510204:=Nat
def tw16263103769057220185:=Nat
def tw9985482873729716170:=Nat
def tw5919347835852539977:=Nat
def tw15536214224780621602:=Nat
def tw15413412553197123580:=Nat
def tw14371090113931275114:=Nat
def tw104722798401399455:=Nat
def tw7669823079538447826:=Nat
def tw5703499825723903983:=Nat
def tw13315874046272302343:=Nat
def tw1083359235288082181:=Nat
def tw8683508020625791468:=Nat
def tw1908495857440041518:=Nat
def tw7744275218226978805:=Nat
def tw5898897211901953860:=Nat
def tw12847158783923350513:=Nat
def tw14154121806842025752:=Nat
def tw9651651620129248319:=Nat
def tw5115581903514678458:=Nat
def tw1228189726033995270:=Nat
def tw15029840471374302084:=Nat
def tw7558339799367749241:=Nat
def tw8062586771612016749:=Nat
def tw14240434092462637915:=Nat
def tw1993482532984131896:=Nat
def tw1086753580643763645:=Nat
def tw7812070371046695685:=Nat
def tw8055754078440508288:=Nat
def tw13384622045577635985:=Nat
def tw1180887811572193090:=Nat
def tw6181977300529877104:=Nat
def tw12741217911454418842:=Nat
def tw12164243285687612677:=Nat
def tw10565647946464377535:=Nat
def tw8596584594714285834:=Nat
def tw7477013244027246148:=Nat
def tw3968218253028652867:=Nat
def tw2264974638436864473:=Nat
def tw15931714082712712487:=Nat
def tw11748846441364494588:=Nat
def tw5739260877241952124:=Nat
def tw16746053764889723445:=Nat
def tw15882571898761221687:=Nat
def tw8506412308980387354:=Nat
def tw6791067407040921201:=Nat
def tw6063538991638815475:=Nat
def tw3783447146401245489:=Nat
def tw2953676819783348681:=Nat
def tw18352323474531632343:=Nat
def tw16968555362065005559:=Nat
def tw15735028551530236134:=Nat
def tw15346597887825797841:=Nat
def tw1485331496433495379:=Nat
def tw14554753062996030538:=Nat
def tw12900769255614974580:=Nat
def tw13911110094691244459:=Nat
def tw5047915112846194134:=Nat
def tw18263058875119745142:=Nat
def tw8446212661584346999:=Nat
def tw6768233116109627693:=Nat
def tw9936338000097876693:=Nat
def tw848325419863081754:=Nat
def tw3842677103553581468:=Nat
def tw17206108387427324183:=Nat
def tw156132477207344630:=Nat
def tw13950390031089527247:=Nat
def tw1169659414756895210:=Nat
def tw8642472663331065346:=Nat
def tw8303870303399006857:=Nat
def tw3739216486206059691:=Nat
def tw7050457863518830832:=Nat
def tw16044355592932881995:=Nat
def tw7409427889817636522:=Nat
def tw5873711388542921636:=Nat
def tw3826726300249895697:=Nat
def tw3366368121436874410:=Nat
def tw17695617422958496428:=Nat
def tw17541752705567680762:=Nat
def tw10278871949788215268:=Nat
def tw10065450725220861050:=Nat
def tw10659689938401120153:=Nat
def tw5793278628360663739:=Nat
def tw4993501090683186305:=Nat
def tw1999175760780857285:=Nat
def tw18324821024252606513:=Nat
def tw18256036915332007777:=Nat
def tw17517854502544979914:=Nat
def tw16057559690454295539:=Nat
def tw6009277965252809207:=Nat
def tw17961643833046919166:=Nat
def tw1536307663217688257:=Nat
def tw14574382862889078542:=Nat
def tw14563723818641925244:=Nat
def tw9647764118396228738:=Nat
def tw6671296054991068515:=Nat
def tw3575630631494211046:=Nat
def tw2484608731286762050:=Nat
def tw1853382158150903284:=Nat
def tw18076540540401469607:=Nat
def tw10464402952111478677:=Nat
def tw9969309358632489326:=Nat
def tw9854740004140132226:=Nat
def tw9790516620268110957:=Nat
def tw9754342211397484767:=Nat
def tw9700244318429604916:=Nat
def tw9583791094375357181:=Nat
def tw9433554740095944024:=Nat
def tw9361835949868414398:=Nat
def tw9105625871877838707:=Nat
def tw9070536784767142971:=Nat
end PySem.W.Fast
set_option maxRecDepth 100000 in
set_option maxHeartbeats 0 in
theorem PySem.Challenge.cw_shardask_k21_town_refused_holds : PySem.Challenge.rw_shardask_k21_town_refused.Holds := by
 w_on;o_law;k_head;(case hw=>w_witness2)
 k_fill
 refine My.aN9 (l:=PySem.Challenge.rw_shardask_k21_town_refused) (n:=63) (k:=14) (x:="_law_script") (CX:=L2.CX0) (sp:=fun K=>My.aNd K 218) rfl (by decide) rfl ⟨rfl,by decide,by decide⟩ [(218,My.qC)] (by decide) (fun w h Y=>⟨PySem.W.km_in_of Y,My.aU0 (PySem.W.km_tabs_of Y)⟩) ?C ?F (fun K H a ns hl hO hS=>My.aTh hl hO hS) (fun _ _ _ _ z=>z)
 case C=>
  intro w
  refine' My.aT5 ?a ?l ?e1 ?e2 ?h ?n
  (case a=>k_is)
  (case l=>k_is)
  (case e1=>rfl)
  (case e2=>rfl)
  (case h=>first|k_is|kernel_rfl|decide +kernel)
  (case n=>first|k_is|kernel_rfl|decide +kernel)
 case F=>
  intro w mg fa h KX G hmg
  have T:My.Txt w (L2.KOf KX) mg:=by
   dsimp only [L2.KOf]
   apply My.Txt.mk
   iterate 18 (refine' mg_none_of KX G ?_;k_is)
   (refine' My.aW6 KX G ?gq ?gr ?gt ?gy ?gu ?gv ?gs;(case gq=>k_is);(case gr=>k_is);(case gt=>rfl);(case gy=>rfl);(case gu=>rfl);(case gv=>repeat (first|exact L2.yW|refine L2.jJ rfl ?_|refine L2.jJ ⟨_,rfl⟩ ?_));(case gs=>decide))
   (refine' My.aXb KX G ?gq ?gr;(case gq=>k_is);(case gr=>exact ⟨_,rfl⟩))
   (refine' My.aW6 KX G ?gq ?gr ?gt ?gy ?gu ?gv ?gs;(case gq=>k_is);(case gr=>k_is);(case gt=>rfl);(case gy=>rfl);(case gu=>rfl);(case gv=>repeat (first|exact L2.yW|refine L2.jJ rfl ?_|refine L2.jJ ⟨_,rfl⟩ ?_));(case gs=>decide))
   iterate 5 (refine' My.aXb KX G ?gq ?gr;(case gq=>k_is);(case gr=>exact ⟨_,rfl⟩))
   (refine' My.bBb KX G (s:=My.nW) (My.FA.mk ?vj ?vl ?vc ?vk);(case vj=>k_is);(case vl=>k_is);(case vc=>k_is);(case vk=>k_is))
   iterate 47 (refine' My.bBc KX G (My.FA.mk ?fj ?fl ?fc ?fk) ?fb;(case fj=>k_is);(case fl=>k_is);(case fc=>k_is);(case fk=>k_is);(case fb=>first|exact fun _ _ _ _ _ _=>My.ln1 fun _=>rfl|exact fun _ _ _ _ _ _=>My.ln2 fun _ _=>rfl|exact fun _ _ _ _ _ _=>My.ln3 fun _ _ _=>rfl|exact fun _ _ _ _ _ _=>My.ln4 fun _ _ _ _=>rfl|exact fun _ _ _ _ _ _=>My.ln5 fun _ _ _ _ _=>rfl|exact fun _ _ _ _ _ _=>My.ln6 fun _ _ _ _ _ _=>rfl|exact fun _ _ _ _ _ _=>My.ln0 rfl))
   iterate 2 (refine' My.bAj KX G (My.CA.mk ?cj ?c1 ?c2 ?c3 ?c4 ?c5 ?c6) ?cr;(case cj=>k_is);(case c1=>first|k_is|kernel_rfl|decide +kernel);(case c2=>first|k_is|kernel_rfl|decide +kernel);(case c3=>first|k_is|kernel_rfl|decide +kernel);(case c4=>first|k_is|kernel_rfl|decide +kernel);(case c5=>first|k_is|kernel_rfl|decide +kernel);(case c6=>first|k_is|kernel_rfl|decide +kernel);(case cr=>(repeat (refine' ⟨My.bBe (My.MA.mk ?mj ?mi ?ml ?mc ?mk) ?mb,?_⟩;(case mj=>k_is);(case mi=>first|k_is|kernel_rfl|decide +kernel);(case ml=>k_is);(case mc=>k_is);(case mk=>k_is);(case mb=>first|exact fun _ _ _ _ _ _=>My.ln1 fun _=>rfl|exact fun _ _ _ _ _ _=>My.ln2 fun _ _=>rfl|exact fun _ _ _ _ _ _=>My.ln3 fun _ _ _=>rfl|exact fun _ _ _ _ _ _=>My.ln4 fun _ _ _ _=>rfl|exact fun _ _ _ _ _ _=>My.ln5 fun _ _ _ _ _=>rfl|exact fun _ _ _ _ _ _=>My.ln6 fun _ _ _ _ _ _=>rfl|exact fun _ _ _ _ _ _=>My.ln0 rfl)));unfold L2.cT;(repeat (refine' ⟨?ma,?_⟩;(case ma=>k_is)));k_is))
   (refine' My.bBt KX G ?xs ?xc0 ?xc1 ?xc2 ?xb ?xm;(case xs=>k_is);(case xc0=>refine' My.X1.mk ?zy0 ?zy1 ?zr0 ?zr1 ?zr2 ?zr3 ?zy2 ?zr4 ?zy3 ?zy4 ?zy5 ?zy6 ?zy7 ?zy8 ?zy9 ?zy10 ?zy11 ?zy12 ?zy13 ?zy14;(case zy0=>k_is);(case zy1=>k_is);(case zr0=>first|rfl|decide +kernel);(case zr1=>first|rfl|decide +kernel);(case zr2=>first|rfl|decide +kernel);(case zr3=>first|rfl|decide +kernel);(case zy2=>k_is);(case zr4=>first|rfl|decide +kernel);(case zy3=>k_is);(case zy4=>k_is);(case zy5=>k_is);(case zy6=>k_is);(case zy7=>k_is);(case zy8=>k_is);(case zy9=>k_is);(case zy10=>k_is);(case zy11=>k_is);(case zy12=>k_is);(case zy13=>k_is);(case zy14=>k_is));(case xc1=>refine' My.X1.mk ?zy0 ?zy1 ?zr0 ?zr1 ?zr2 ?zr3 ?zy2 ?zr4 ?zy3 ?zy4 ?zy5 ?zy6 ?zy7 ?zy8 ?zy9 ?zy10 ?zy11 ?zy12 ?zy13 ?zy14;(case zy0=>k_is);(case zy1=>k_is);(case zr0=>first|rfl|decide +kernel);(case zr1=>first|rfl|decide +kernel);(case zr2=>first|rfl|decide +kernel);(case zr3=>first|rfl|decide +kernel);(case zy2=>k_is);(case zr4=>first|rfl|decide +kernel);(case zy3=>k_is);(case zy4=>k_is);(case zy5=>k_is);(case zy6=>k_is);(case zy7=>k_is);(case zy8=>k_is);(case zy9=>k_is);(case zy10=>k_is);(case zy11=>k_is);(case zy12=>k_is);(case zy13=>k_is);(case zy14=>k_is));(case xc2=>refine' My.X1.mk ?zy0 ?zy1 ?zr0 ?zr1 ?zr2 ?zr3 ?zy2 ?zr4 ?zy3 ?zy4 ?zy5 ?zy6 ?zy7 ?zy8 ?zy9 ?zy10 ?zy11 ?zy12 ?zy13 ?zy14;(case zy0=>k_is);(case zy1=>k_is);(case zr0=>first|rfl|decide +kernel);(case zr1=>first|rfl|decide +kernel);(case zr2=>first|rfl|decide +kernel);(case zr3=>first|rfl|decide +kernel);(case zy2=>k_is);(case zr4=>first|rfl|decide +kernel);(case zy3=>k_is);(case zy4=>k_is);(case zy5=>k_is);(case zy6=>k_is);(case zy7=>k_is);(case zy8=>k_is);(case zy9=>k_is);(case zy10=>k_is);(case zy11=>k_is);(case zy12=>k_is);(case zy13=>k_is);(case zy14=>k_is));(case xb=>refine' My.X0.mk ?zy0 ?zy1 ?zy2 ?zy3 ?zy4 ?zy5;(case zy0=>k_is);(case zy1=>k_is);(case zy2=>k_is);(case zy3=>k_is);(case zy4=>k_is);(case zy5=>k_is));(case xm=>refine' My.XM.mk ?zy0_0 ?zy0_1 ?zy0_2 ?zy1_0 ?zy1_1 ?zy1_2 ?zy2_0 ?zy2_1 ?zy2_2;(case zy0_0=>k_is);(case zy0_1=>k_is);(case zy0_2=>k_is);(case zy1_0=>k_is);(case zy1_1=>k_is);(case zy1_2=>k_is);(case zy2_0=>k_is);(case zy2_1=>k_is);(case zy2_2=>k_is)))
  have C:L2.aQu (L2.KOf KX) mg "are_cuts" 218:=by
   dsimp only [L2.KOf]
   refine' My.aYk KX G ?a ?l ?e1 ?e2 ?h
   (case a=>k_is)
   (case l=>k_is)
   (case e1=>rfl)
   (case e2=>rfl)
   (case h=>first|k_is|kernel_rfl|decide +kernel)
  exact My.aXq (P:=PySem.Challenge.rw_shardask_k21_town_refused.prog) T C hmg
