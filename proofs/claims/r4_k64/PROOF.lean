import PyProof.Rows.All
import Wide.All
import OpenK.AllK
import Wide.FinOn
import Lean
import PyProof.EqAt
import PyProof.EqKinds
import PyProof.TupleCall
import PyProof.CallType
import PyProof.WalkLemmas
import PyProof.StrOps
import PyProof.ForAny
import PyProof.IsInstanceH
import PyProof.IsiFacts
import PyProof.IsiFacts2
import PyProof.FactsAll.object
import PyProof.ListMulRoad
import PyProof.FactsAll.tuple_2
import PyProof.StrLawsIdx
import KE.KDictList
import PyProof.Rows.Range3
import PyProof.EnumMake
import PyProof.EnumFor
import PyProof.CompUse
import PyProof.ExcClass3
import PyProof.ExcBaseAll.ValueError
import PyProof.InstStoreFacts
import PyProof.ExcArgsOwn
import PyProof.ExcAttrAll.ValueError
import PyProof.ListStr
import PyProof.NeKinds
import PyProof.IsInstanceT
import PyProof.FString5
import PyProof.Rows.SeqMore2
import PyProof.IsiPairs
import PyProof.StrCalls3
import KE.KSortTup
import KE.KSortKey
import PyProof.Rows.SortStr
import KE.KLam
import KE.KDictOf
import KE.KEqDict
import KE.KDictSum
import PyProof.AttrMissHeap
import PyProof.DictWalks
import PyProof.Rows.TupTab
import PyProof.DictItems
import PyProof.FactsAll.set_1
import KE.KRevIter
import PySem.Challenge.RW_shardask_k64_settle
set_option Elab.async false
set_option linter.all false
set_option maxRecDepth 100000
set_option maxHeartbeats 6400000
local macro_rules|`(tactic|trivial)=>`(tactic|(intro a b c d h;first|(cases h;subst_vars;rfl)|(repeat (first|(obtain ⟨e,_⟩:=h;subst e;rfl)|(obtain ⟨_,h⟩:=h)|fail))))
abbrev n6:List PySem.Str:=["self","name"]
abbrev n7:List PySem.Str:=["_law_state","_law_many"]
abbrev n8:List PySem.Str:=["_law_table","_law_houses","_law_house"]
abbrev o4:List PySem.Str:=["thing"]
abbrev o5:List PySem.Str:=["placed","name"]
abbrev o6:List PySem.Str:=["thing","least","most","is_part"]
abbrev o7:List PySem.Str:=["_law_store","_law_name","_law_table","_law_houses"]
abbrev o8:List PySem.Str:=["self","houses","tables"]
abbrev o9:List PySem.Str:=["_law_state","_law_store","_law_name","_law_table"]
abbrev u5:List PySem.Str:=["head","thing"]
abbrev u6:List PySem.Str:=["houses","tables"]
abbrev bQA:List PySem.Str:=["_law_state","_law_head_here"]
abbrev bQB:List PySem.Str:=["_law_cuts","_law_value_here"]
abbrev bQC:List PySem.Str:=["self","name","house"]
abbrev bQD:List PySem.Str:=["_law_head_here","_law_name"]
abbrev bQE:List PySem.Str:=["_law_state","_law_names_here","_law_most"]
abbrev bQF:List PySem.Str:=["self","name","row"]
abbrev bQG:List PySem.Str:=["_law_table"]
abbrev bQH:List PySem.Str:=["table","house","houses"]
abbrev bQI:List PySem.Str:=["_law_state","_law_kind"]
abbrev bQJ:List PySem.Str:=["head","name"]
abbrev bQK:List PySem.Str:=["thing","houses"]
section
open PySem PySem.Spec PySem.Calls PyProof.Rows
def b7:=@wpAny_bind
def b8:=@List.getElem?_eq_getElem
def c7:=@Heap.get?_push_of_some
def d7:=@wpAny_pure
def d8:=@Nat.le_refl
def d9:=@List.size_toArray
def j0:=@List.mem_cons_self
def j4:=@List.getD_eq_getElem?_getD
def j5:=@List.mem_cons_of_mem
def j6:=@List.length_map
def j7:=@Array.getElem?_eq_getElem
def j8:=@Heap.get?_push_size
def j9:=@Heap.lt_size
def m8:=@List.length_cons
def m9:=@decide_eq_true
def t8:=@List.mem_of_getElem?
def v4:=@Array.length_toList
def v5:=@Bool.false_ne_true
def v6:=@Array.getD_eq_getD_getElem?
def v7:=@List.getElem?_map
def v8:=@Nat.ne_of_lt
def v9:=@decide_eq_false
def w6:=@List.length_append
def z9:=@Nat.lt_of_lt_of_le
def bAA:=@List.getElem?_eq_none
def bAB:=@List.not_mem_nil
def bAC:=@Nat.zero_le
def bAD:=@wpAny_call_entry
def bAE:=@Nat.le_trans
def bAF:=@wpAny_newObj_type
def bAG:=@wpAny_callSpecial?_slot
def bAH:=@List.length_range
def bAI:=@List.length_take
def bAJ:=@wpAny_field
def bAK:=@Option.some.inj
def bAL:=@List.map_cons
def bAM:=@List.mem_append_right
def bAN:=@List.mem_cons
def bAO:=@Heap.get?_update_self
def bAP:=@wpAny_setField_rec
def bAQ:=@Int.toNat_natCast
def bAR:=@wpAny_holding
def bAS:=@Bool.and_eq_true
def bAT:=@List.getElem_mem
def bAU:=@Bool.false_eq_true
def bAV:=@Heap.SameBut.update
def bAW:=@List.take_of_length_le
def bAX:=@wpAny_mono
def bAY:=@List.length_filter_le
def bAZ:=@List.eq_nil_of_length_eq_zero
def bBA:=@List.getElem_of_mem
def bBB:=@List.append_nil
def bBC:=@wpAny_truthy_bool
def bBD:=@Heap.get?_update_other
def bBE:=@wpAny_seqItems
def bBF:=@List.map_append
def bBG:=@List.getElem?_append_right
def bBH:=@wpAny_setState_of
def bBI:=@Around.under_plainId
def bBJ:=@List.getElem?_append_left
def bBK:=@wpAny_Call_Name_kw
def bBL:=@Heap.size_push
def bBM:=@Nat.lt_irrefl
def bBN:=@Option.getD_some
def bBO:=@Array.getElem?_toList
def bBP:=@List.take_add_one
def bBQ:=@List.mem_append_left
def bBR:=@codeAny_builtin
def bBS:=@List.length_nil
def bBT:=@List.length_drop
def bBU:=@Nat.lt_succ_of_lt
def bBV:=@wpAny_loadPart_at
def bBW:=@wpAny_setField
def bBX:=@List.eq_of_mem_replicate
def bBY:=@Calls.spliced_cons
def bBZ:=@List.all_eq_true
def bCA:=@List.getElem_toArray
def bCB:=@PyProof.Rows.callWith_type1
def bCC:=@List.ext_getElem?
def bCD:=@List.set_set
def bCE:=@Array.getElem?_eq_none
def bCF:=@List.filterMap_cons
def bCG:=@Bool.eq_iff_iff
def bCH:=@List.find?_cons
def bCI:=@PyProof.Rows.slot_tuple_getitem
def bCJ:=@Nat.lt_of_le_of_lt
def bCK:=@List.contains_cons
def bCL:=@wpAny_typeNameOfWhole_itemiter
def bCM:=@Nat.ne_of_gt
def bCN:=@codeAny_mono
def bCO:=@wpAny_pyIter_list
def bCP:=@List.getElem?_range
def bCQ:=@PyProof.Rows.F.plain_set_update_loop
def bCR:=@Nat.le_succ
def bCS:=@wpAny_attempt
def bCT:=@plainId_quiet
def bCU:=@Nat.lt_succ_self
def bCV:=@List.lookup_cons
def bCW:=@List.take_length
def bCX:=@Nat.not_lt_zero
def bCY:=@List.append_assoc
def bCZ:=@codeAny_call_builtin
def bDA:=@Array.toList_append
def bDB:=@wpAny_isSubtype_exc
def bDC:=@List.mem_map_of_mem
def bDD:=@wpAny_setEntries_of
def bDE:=@wpAny_isInstance
def bDF:=@Nat.le_add_right
def bDG:=@List.filter_cons
def bDH:=@wpAny_askSetting
def bDI:=@Nat.le_of_lt
def bDJ:=@wpAny_call
def bDK:=@SeqAt.EqAt.str_str
def bDL:=@Calls.callWith_builtin
def bDM:=@Obj.data_mapFields
def bDN:=@Nat.zero_add
def bDO:=@List.forIn_cons
def bDP:=@List.length_replicate
def bDQ:=@Obj.isFreed_of_fields
def bDR:=@Array.mem_of_getElem?
def bDS:=@Heap.get?_none_of_le
def bDT:=@Calls.Name_function_global
def bDU:=@wpAny_rule
def bDV:=@List.mem_of_mem_take
def bDW:=@wpAny_fieldsOf
def bDX:=@List.any_eq_true
def bDY:=@List.map_map
def bDZ:=@List.drop_eq_getElem_cons
def bEA:=@Heap.get?_update_ne
def bEB:=@PyProof.Rows.F.entry_set_update_loop
def bEC:=@wpAny_standAt
def bED:=@wpAny_onRaise
def bEE:=@List.take_nil
def bEF:=@List.Pairwise.imp_of_mem
def bEG:=@PySem.W.mg_of
def bEH:=@wpAny_passesOwn
def bEI:=@SeqAt.EqAt.same
def bEJ:=@List.nil_append
def bEK:=@List.filterMap_map
def bEL:=@SeqAt.EqAt.int_int
def bEM:=@List.mem_singleton
def bEN:=@List.map_replicate
def bEO:=@Int.emod_lt_of_pos
def bEP:=@List.filter_filter
def bEQ:=@wpAny_of_eq
def bER:=@List.length_eraseIdx_le
def bES:=@List.getElem?_set_self
def bET:=@Calls.spliced_nil
def bEU:=@wpAny_typeOf
def bEV:=@Nat.lt_trans
def bEW:=@List.drop_of_length_le
def bEX:=@Array.getElem_mem
def bEY:=@Heap.get?_push_ne
def bEZ:=@wpAny_isOneOf_itemiter
def bFA:=@wpAny_pyIter_slot
def bFB:=@Nat.lt_trichotomy
def bFC:=@List.eraseIdxIfInBounds_toArray
def bFD:=@Array.getElem?_setIfInBounds_ne
def bFE:=@List.length_singleton
def bFF:=@List.getElem?_toArray
def bFG:=@PyProof.Rows.callWith_builtin1
def bFH:=@wpAny_forIn_list
def bFI:=@List.any_cons
def bFJ:=@wpAny_handled
def bFK:=@Calls.evalArgs_plain
def bFL:=@wpAny_execs_nil
def bFM:=@List.mem_append
def bFN:=@List.nodup_cons
def bFO:=@Int.emod_nonneg
def bFP:=@List.length_zipWith
def bFQ:=@Bool.or_true
def bFR:=@wpAny_pyIter_tuple
def bFS:=@List.forIn_nil
def bFT:=@wpAny_newTuple
def bFU:=@Nat.lt_or_eq_of_le
def bFV:=@Bool.and_false
def bFW:=@List.length_eraseIdx_of_lt
def bFX:=@List.perm_ext_iff_of_nodup
def bFY:=@wpAny_throw
def bFZ:=@wpAny_letGo
def bF0:=@Option.isSome_map
def bF1:=@Array.toList_push
def bF2:=@wpAny_storeSet_of
def bF3:=@wpAny_dictEntries
abbrev bF4:=PySem.W.Frag
abbrev bF5:=Value->Shared->Prop
abbrev bF6:=List (Addr × Obj)
abbrev bF7:=Str->Option Value
end
local macro_rules
  | `(tactic| trivial) => `(tactic| first | exact Or.inl rfl | exact Or.inr rfl | exact Or.inr (Or.inl rfl) | exact Or.inr (Or.inr rfl) | exact⟨rfl, rfl, rfl, by decide +kernel, rfl, by decide +kernel, by decide +kernel⟩ | exact⟨by decide +kernel, rfl, by decide +kernel, by decide +kernel⟩ | fail)
namespace L2
open PySem PySem.Spec PyProof.Rows
abbrev Key:=Sum Int Str
def vX:Key->Value->Bool
 |.inl k,v=>Value.isInt k v
 |.inr x,v=>Value.isStrOf x v
def bE8 (w:World):Key->Int
 |.inl k=>hashInt k
 |.inr x=>hashStr w x
theorem cO:∀{k:Key} {v:Value},vX k v=true->(∃i t,k=Sum.inl i/\v=Value.int i t)\/(∃x t,k=Sum.inr x/\v=Value.str x t)
 |.inl i,v,h=>by obtain⟨t,e⟩:=Value.isInt_shape h;exact .inl ⟨i,t,rfl,e⟩
 |.inr x,v,h=>by obtain⟨t,e⟩:=Value.isStrOf_shape h;exact .inr ⟨x,t,rfl,e⟩
def aE9 (i:Int)(t:Tok):vX (.inl i) (.int i t)=true:=by simp[vX,Value.isInt]
def aFh (x:Str)(t:Tok):vX (.inr x) (.str x t)=true:=by simp[vX,Value.isStrOf]
def bAz (a b:Int):decide ((Sum.inl a:Key)=Sum.inl b)=(a == b):=by
 by_cases e:a=b
 ·subst e;simp
 ·have h:¬ (Sum.inl a:Key)=Sum.inl b:=λq=>e (Sum.inl.inj q);rw[v9 h];exact (beq_eq_false_iff_ne.mpr e).symm
def bCd (a b:Str):decide ((Sum.inr a:Key)=Sum.inr b)=decide (a=b):=by
 by_cases e:a=b
 ·subst e;simp
 ·have h:¬ (Sum.inr a:Key)=Sum.inr b:=λq=>e (Sum.inr.inj q);rw[v9 h,v9 e]
def bCa (a:Int)(b:Str):decide ((Sum.inl a:Key)=Sum.inr b)=false:=v9 (λq=>nomatch q)
def bA8 (a:Str)(b:Int):decide ((Sum.inr a:Key)=Sum.inl b)=false:=v9 (λq=>nomatch q)
def bI (prog:Program)(w:World):PySem.KeyKind prog w Key where
 is:=vX
 hash:=bE8 w
 inj:=λv a b ha hb=>by
  rcases cO ha with⟨i,t,rfl,rfl⟩|⟨x,t,rfl,rfl⟩
  ·rcases cO hb with⟨j,u,rfl,e⟩|⟨y,u,rfl,e⟩
   ·injection e with e1 _;rw[e1]
   ·exact nomatch e
  ·rcases cO hb with⟨j,u,rfl,e⟩|⟨y,u,rfl,e⟩
   ·exact nomatch e
   ·injection e with e1 _;rw[e1]
 byValue:=λk v h=>by rcases cO h with⟨i,t,rfl,rfl⟩|⟨x,t,rfl,rfl⟩ <;> rfl
 pyHash:=λhv h=>by
  rcases cO hv with⟨i,t,rfl,rfl⟩|⟨x,t,rfl,rfl⟩
  ·exact wpAny_pyHash_int h
  ·exact wpAny_pyHash_str h
 eqBool:=λhu hv h=>by
  rcases cO hu with⟨i,t,rfl,rfl⟩|⟨x,t,rfl,rfl⟩
  ·rcases cO hv with⟨j,u,rfl,rfl⟩|⟨y,u,rfl,rfl⟩
   ·rw[bAz] at h;exact wpAny_eqBool_int h
   ·rw[bCa] at h;exact SeqAt.EqAt.int_str i t y u _ _ _ _ h
  ·rcases cO hv with⟨j,u,rfl,rfl⟩|⟨y,u,rfl,rfl⟩
   ·rw[bA8] at h;exact SeqAt.EqAt.str_int x t j u _ _ _ _ h
   ·rw[bCd] at h;exact wpAny_eqBool_str h
 «strs»:=λk x t v h=>by
  rcases cO h with⟨i,u,rfl,e⟩|⟨y,u,rfl,e⟩
  ·exact nomatch e
  ·injection e with e1 _;subst e1;cases v <;> rfl
def aIt (prog:Program)(w:World)(i:Int)(t:Tok):(bI prog w).is (.inl i) (.int i t)=true:=aE9 i t
def aK9 (prog:Program)(w:World)(x:Str)(t:Tok):(bI prog w).is (.inr x) (.str x t)=true:=aFh x t
inductive V where
 |non|bl (b:Bool)|int (i:Int)|str (x:Str)|byt (b:Array UInt8)|flt (b:UInt64)|ref (a:Addr)|ty (n:String)
 deriving DecidableEq
def RelV:V->Value->Prop
 |.non,u=>u=Value.none
 |.bl b,u=>u=Value.bool b
 |.int i,u=>∃t,u=Value.int i t
 |.str x,u=>∃t,u=Value.str x t
 |.byt b,u=>∃t,u=Value.bytes b t
 |.flt b,u=>∃t,u=Value.float b t
 |.ref a,u=>u=Value.ref a
 |.ty n,u=>u=Value.type n
abbrev Vals:List V->List Value->Prop:=Paired RelV
theorem Vals.length (r:Vals xs us):xs.length=us.length:=Paired.length r
theorem Vals.get:∀{xs:List V} {us:List Value} {i:Nat} {x:V},Vals xs us->xs[i]?=some x->∃u,us[i]?=some u/\RelV x u
 |_,_,_,_,.nil,e=>by simp at e
 |_,_,0,_,.cons r _,e=>by simp at e;subst e;exact⟨_,rfl,r⟩
 |_,_,i+1,x,.cons _ t,e=>by obtain⟨u,b,a⟩:=Vals.get t (by simpa using e);exact⟨u,by simpa using b,a⟩
theorem Vals.set (r:RelV x u):∀{xs:List V} {us:List Value} (i:Nat),Vals xs us->Vals (xs.set i x) (us.set i u)
 |_,_,_,.nil=>.nil
 |_,_,0,.cons _ t=>.cons r t
 |_,_,i+1,.cons q t=>.cons q (Vals.set r i t)
theorem Vals.append:∀{xs ys:List V} {us ws:List Value},Vals xs us->Vals ys ws->Vals (xs++ys) (us++ws)
 |_,_,_,_,.nil,s=>s
 |_,_,_,_,.cons r t,s=>.cons r (Vals.append t s)
theorem Vals.take:∀{xs:List V} {us:List Value} (n:Nat),Vals xs us->Vals (xs.take n) (us.take n)
 |_,_,0,_=>.nil
 |_,_,_+1,.nil=>.nil
 |_,_,n+1,.cons r t=>.cons r (Vals.take n t)
theorem Vals.drop:∀{xs:List V} {us:List Value} (n:Nat),Vals xs us->Vals (xs.drop n) (us.drop n)
 |_,_,0,r=>r
 |_,_,_+1,.nil=>.nil
 |_,_,n+1,.cons _ t=>Vals.drop n t
def lN:Option V->Option Value->Prop
 |some v,some u=>RelV v u
 |none,none=>True
 |_,_=>False
def KV {κ:Type}:List (κ × V)->List (κ × Value)->Prop:=Paired λp q=>p.1=q.1/\RelV p.2 q.2
def kV:Key->V
 |.inl i=>.int i
 |.inr x=>.str x
inductive HO where
  |lst (xs:List V)
  |tup (xs:List V)
  |dK (kvs:List (Key × V))|dT (kvs:List (List Key × V))
  |set (S:Int->Bool) (n:Nat)
  |ins (C dx:Addr) (fs:List (Str × V))
  |own (x:Addr)
  |xd (fs:List (Str × V))
  |met (f x:Addr)
  |rng (lo hi:Int)
  |frz (o:Obj) (u:HO)
  |tbl (ps:Array Value)
  |tab (q:Str)
  |ext (φ:Heap->Prop)
abbrev Hp:=Addr->Option HO
def upd (H:Hp)(a:Addr)(o:HO):Hp:=λb=>if b=a then some o else H b
def aF:upd H a o a=some o:=by unfold upd;rw[if_pos rfl]
def aK (h:b≠a):upd H a o b=H b:=by unfold upd;rw[if_neg h]
def aOs:upd (upd H a o) a u=upd H a u:=by funext b;unfold upd;split <;> rfl
def aKy {H:Hp}{a b:Addr}{o u:HO}(h:H a=some o)(h':H b=some u)(d:o≠u):a≠b:=by intro e;subst e;rw[h] at h';exact d (bAK h')
def aQ {H:Hp}{a b:Addr}{o:HO}(h:H a=some o)(h':H b=none):a≠b:=by intro e;subst e;rw[h] at h';cases h'
def aAg (h:Heap)(a:Addr)(items:Array Value):Prop:=IsTup h a items/\∀o,h.get? a=some o->o.dict=none
def aAg.of (e:h.get? a=some o)(d:o.dict=none)(x:IsTup h a items):aAg h a items:=⟨x,λc b=>by rw[e] at b;cases b;exact d⟩
theorem aAg.new (h:Heap)(items:Array Value):aAg (h.push { cls:=.type "tuple",data:=.seq items }) h.objs.size items:=.of (j8 _ rfl) rfl (IsTup.new _ _)
def aAg.keep (x:aAg h a items)(k:∀o,h.get? a=some o->h'.get? a=some o):aAg h' a items:=by obtain⟨⟨o,e,c⟩,d⟩:=x;exact .of (k o e) (d o e) ⟨o,k o e,c⟩
section
variable (P:Program)(w:World)
def cV (H:Hp)(h:Heap)(a:Addr):HO->Prop
 |.lst xs=>xs.length<=sizeLine/\∃its n,Vals xs its/\h.get? a=some { cls:=.type "list",data:=.seq its.toArray n }
 |.tup xs=>xs.length<=sizeLine/\∃its:List Value,Vals xs its/\aAg h a its.toArray
 |.dK kvs=>kvs.length<=sizeLine/\(a == sysModules)=false/\∃vs,KV kvs vs/\h.DictOf (bI P w) a vs
 |.dT kvs=>kvs.length<=sizeLine/\(a == sysModules)=false/\∃xs:List (List Key × Addr × Value),
   Paired (λp q=>p.1=q.1/\H q.2.1=some (.tup (p.1.map kV))/\RelV p.2 q.2.2) kvs xs /\
   ∃o es ep,h.get? a=some o/\o.ExactDict/\o.data=.dict es ep/\es.toList=xs.map (entryOfKey (tupleKind (bI P w)))/\(xs.map (·.1)).Nodup
 |.set S n=>h.SetOf (intKind P w) a S n
 |.ins C dx fs=>H dx=some (.own a)/\fs.length<=1000/\dx≠a/\h.get? a=some (PySem.W.instObj C dx) /\
   ∃mA,h.Ns1 dx mA/\(∀f,lN (fs.lookup f) (mA f))/\PySem.Within mA (fs.map (·.1))
 |.own _=>∃o,h.get? a=some o
 |.xd fs=>∃mA,h.Ns1 a mA/\∀f,lN (fs.lookup f) (mA f)
 |.rng lo hi=>∃t u v,h.get? a=some { cls:=.type "range",data:=.fields #[.int lo t,.int hi u,.int 1 v] }
 |.frz o u=>h.get? a=some o/\cV H h a u
 |.tbl ps=>h.get? a=some { cls:=.none,data:=.fields ps }
 |.tab q=>∃ps:Array Value,h.get? a=some { cls:=.none,data:=.fields ps }/\TriplesOk ps.toList/\∀pos cv,codeAmong pos ps.toList=some cv->∃c oc vs t,cv=.ref c/\H c=some (.own a)/\h.get? c=some oc/\oc.data=.fields vs/\vs[1]?=some (.str q t)
 |.met f x=>h.get? a=some (PySem.W.methodObj (.ref f) (.ref x))
 |.ext φ=>φ h/\(∃o,h.get? a=some o)/\∀h1 h2:Heap,φ h1->(∀o,h1.get? a=some o->h2.get? a=some o)->φ h2
def HOk (H:Hp)(h:Heap):Prop:=∀a o,H a=some o->cV P w H h a o
end
section
variable {P:Program}{w:World}{H H':Hp}{h h':Heap}{a:Addr}{o:HO}
theorem cV.lt (x:cV P w H h a o):a<h.objs.size:=by
 cases o with
 |lst xs=>obtain⟨_,_,_,_,e⟩:=x;exact j9 e
 |tup xs=>obtain⟨_,_,_,p⟩:=x;exact p.1.lt
 |dK kvs=>obtain⟨_,_,_,_,o,_,_,e,_⟩:=x;exact j9 e
 |dT kvs=>obtain⟨_,_,_,_,o,_,_,e,_⟩:=x;exact j9 e
 |set S n=>obtain⟨o,_,_,_,e,_⟩:=x;exact j9 e
 |ins C dx fs=>obtain⟨_,_,_,e,_⟩:=x;exact j9 e
 |own y=>obtain⟨_,e⟩:=x;exact j9 e
 |xd fs=>obtain⟨_,⟨_,_,_,e,_⟩,_⟩:=x;exact j9 e
 |rng lo hi=>obtain⟨_,_,_,e⟩:=x;exact j9 e
 |frz ob u=>obtain⟨e,_⟩:=x;exact j9 e
 |tbl ps=>exact j9 (show h.get? a=some _ from x)
 |tab q=>obtain⟨_,e,_⟩:=x;exact j9 e
 |met f y=>exact j9 (show h.get? a=some _ from x)
 |ext φ=>obtain⟨_,⟨_,e⟩,_⟩:=x;exact j9 e
theorem Paired.bCe {α β:Type}{F G:α->β->Prop}:∀{l₁:List α} {l₂:List β},Paired F l₁ l₂->(∀a b,F a b->G a b)->Paired G l₁ l₂
 |_,_,.nil,_=>.nil
 |_,_,.cons r t,f=>.cons (f _ _ r) (Paired.bCe t f)
theorem cV.stay (x:cV P w H h a o)(k:∀b u,(b=a\/H b=some (.own a))->h.get? b=some u->h'.get? b=some u)
  (ho:∀b,H b=some (.own a)->H' b=some (.own a)) (J:∀b xs,H b=some (.tup xs)->H' b=some (.tup xs)):cV P w H' h' a o:=by
 induction o with
 |lst xs=>obtain⟨z,l,n,r,e⟩:=x;exact⟨z,l,n,r,k _ _ (.inl rfl) e⟩
 |tup xs=>obtain⟨z,l,r,p⟩:=x;exact⟨z,l,r,p.keep λo e=>k _ _ (.inl rfl) e⟩
 |dK kvs=>obtain⟨z,y,B,r,j,g,i,e,c⟩:=x;exact⟨z,y,B,r,j,g,i,k _ _ (.inl rfl) e,c⟩
 |dT kvs=>obtain⟨z,y,xs,r,j,g,i,e,c⟩:=x;exact⟨z,y,xs,Paired.bCe r λp q z=>⟨z.1,J _ _ z.2.1,z.2.2⟩,j,g,i,k _ _ (.inl rfl) e,c⟩
 |set S n=>obtain⟨j,g,i,t,e,c⟩:=x;exact⟨j,g,i,t,k _ _ (.inl rfl) e,c⟩
 |ins C dx fs=>obtain⟨d,z,G,e,s,⟨A,g,i,F,c⟩,r⟩:=x;exact⟨ho _ d,z,G,k _ _ (.inl rfl) e,s,⟨A,g,i,k _ _ (.inr d) F,c⟩,r⟩
 |own y=>obtain⟨j,e⟩:=x;exact⟨j,k _ _ (.inl rfl) e⟩
 |xd fs=>obtain⟨s,⟨A,g,i,e,c⟩,r⟩:=x;exact⟨s,⟨A,g,i,k _ _ (.inl rfl) e,c⟩,r⟩
 |rng lo hi=>obtain⟨t,u,v,e⟩:=x;exact⟨t,u,v,k _ _ (.inl rfl) e⟩
 |frz j u ih=>obtain⟨e,q⟩:=x;exact⟨k _ _ (.inl rfl) e,ih q⟩
 |tab q=>obtain⟨m,e,t,c⟩:=x;exact⟨m,k _ _ (.inl rfl) e,t,λD I q=>let ⟨c',oc,B,tk,a1,a2,a3,a4⟩:=c D I q;⟨c',oc,B,tk,a1,ho _ a2,k _ _ (.inr a2) a3,a4⟩⟩
 |tbl m=>have e:h.get? a=some { cls:=.none,data:=.fields m }:=x;show h'.get? a=some { cls:=.none,data:=.fields m };exact k a _ (.inl rfl) e
 |met f y=>have e:h.get? a=some (PySem.W.methodObj (.ref f) (.ref y)):=x;show h'.get? a=some (PySem.W.methodObj (.ref f) (.ref y));exact k a _ (.inl rfl) e
 |ext φ=>obtain⟨p,⟨o,e⟩,E⟩:=x;exact⟨E _ _ p λo q=>k _ _ (.inl rfl) q,⟨o,k _ _ (.inl rfl) e⟩,E⟩
theorem HOk.lt (x:HOk P w H h)(e:H a=some o):a<h.objs.size:=(x a o e).lt
theorem HOk.fresh (x:HOk P w H h)(e:h.objs.size<=a):H a=none:=by
 cases q:H a with
 |none=>rfl
 |some u=>exact absurd (z9 (x.lt q) e) (bBM _)
def HOk.kept (x:HOk P w H h)(k:∀b u,h.get? b=some u->h'.get? b=some u):HOk P w H h':=λa o e=>
 (x a o e).stay (λb u _ q=>k b u q) (λ_ q=>q) λ_ _ q=>q
def HOk.laid (x:HOk P w H h)(k:∀b u,h.get? b=some u->h'.get? b=some u)(i:h.objs.size<=a)(g:cV P w (upd H a o) h' a o):HOk P w (upd H a o) h':=λb u e=>by
 have f:=x.fresh i;by_cases d:b=a
 ·subst d;rw[aF] at e;cases e;exact g
 ·rw[aK d] at e;exact (x b u e).stay (λc v _ q=>k c v q) (λc q=>by rw[aK (aQ q f)];exact q) λc j q=>by rw[aK (aQ q f)];exact q
end
def Rd (H:Hp)(a:Addr)(u:HO):Prop:=H a=some u\/∃o,H a=some (.frz o u)
def Rd.ok (r:Rd H a u)(x:HOk P w H h):cV P w H h a u:=by
 rcases r with r|⟨o,r⟩
 ·exact x a u r
 ·obtain⟨_,q⟩:=x a _ r;exact q
def Mut:Option HO->Prop
 |some (.lst _)=>True
 |some (.dK _)=>True
 |some (.dT _)=>True
 |some (.set _ _)=>True
 |some (.ins _ _ _)=>True
 |some (.ext _)=>True
 |some (.tab _)=>True
 |_=>False
section
variable {P:Program}{w:World}{H:Hp}{h h':Heap}{x e:Addr}{o':HO}
def HOk.write (s:HOk P w H h)(j:Mut (H x))(n:e=x\/H e=some (.own x))(k:∀b u,b≠e->h.get? b=some u->h'.get? b=some u)(p:∃u,h'.get? e=some u)
  (m:cV P w (upd H x o') h' x o'):HOk P w (upd H x o') h':=λb u q=>by
 have d:∀c y,H c=some (.own y)->c≠x:=λc y r z=>by subst z;rw[r] at j;exact j
 have f:∀c i,H c=some (.tup i)->c≠x:=λc i r z=>by subst z;rw[r] at j;exact j
 by_cases g:b=x
 ·subst g;rw[aF] at q;cases q;exact m
 ·rw[aK g] at q;by_cases a:b=e
  ·have l:H b=some (.own x):=by
    rcases n with z|z
    ·exact absurd (a.trans z) g
    ·rw[a];exact z
   rw[q] at l;cases l;obtain⟨v,o⟩:=p;exact⟨v,by rw[a];exact o⟩
  ·refine (s b u q).stay (λc v hc r=>k c v ?_ r) (λc r=>by rw[aK (d c b r)];exact r) λc i r=>by rw[aK (f c i r)];exact r
   rcases hc with rfl|hc
   ·exact a
   ·rintro rfl;rcases n with z|z
    ·exact d c b hc z
    ·rw[hc] at z;cases z;exact g rfl
end
structure Un (fs ex:List Addr)(H H':Hp)(h h':Heap):Prop where
 keep:∀b o,h.get? b=some o->H b=none->b∉fs->b∉ex->h'.get? b=some o
 slot:∀b o,h.get? b=some o->H b=none->b∈fs->b∉ex->∃sl,h'.get? b=some { o with slots:=sl }
 free:∀b o,h.get? b=some o->H b=none->b∉ex->H' b=none
 there:∀b o,h.get? b=some o->b∉ex->∃o',h'.get? b=some o'
 tups:∀b xs,H b=some (.tup xs)->H' b=some (.tup xs)
 frzs:∀b o u,H b=some (.frz o u)->H' b=some (.frz o u)
 tbls:∀b ps,H b=some (.tbl ps)->∃more,H' b=some (.tbl (ps++more))
section
variable {fs fs' ex ex':List Addr}{H H1 H2:Hp}{h h1 h2 h':Heap}{a x e:Addr}{o:HO}
def Un.any (u:Un fs ex H H1 h h1)(q:h.get? b=some ob)(n:H b=none)(c:b∉ex):∃sl,h1.get? b=some { ob with slots:=sl }:=by
 by_cases a:b∈fs
 ·exact u.slot b ob q n a c
 ·exact⟨ob.slots,u.keep b ob q n a c⟩
def Un.kept (k:∀b u,h.get? b=some u->h'.get? b=some u):Un fs ex H H h h':=
 ⟨λb a q _ _ _=>k b a q,λb a q _ _ _=>⟨a.slots,k b a q⟩,λ_ _ _ n _=>n,λb a q _=>⟨a,k b a q⟩,λ_ _ q=>q,λ_ _ _ q=>q,λ_ c q=>⟨#[],by rw[q];simp⟩⟩
def Un.refl:Un fs ex H H h h:=Un.kept λ_ _ q=>q
def Un.laid (k:∀b u,h.get? b=some u->h'.get? b=some u)(e:h.objs.size<=a)(c:H a=none):Un fs ex H (upd H a o) h h' where
 keep:=λb u q _ _ _=>k b u q
 slot:=λb u q _ _ _=>⟨u.slots,k b u q⟩
 free:=λb u q n _=>by rw[aK (v8 (z9 (j9 q) e))];exact n
 there:=λb u q _=>⟨u,k b u q⟩
 tups:=λb d q=>by rw[aK (aQ q c)];exact q
 frzs:=λb u d q=>by rw[aK (aQ q c)];exact q
 tbls:=λb f q=>⟨#[],by rw[aK (aQ q c),q];simp⟩
def Un.write (c:Mut (H x))(m:e=x\/H e=some (.own x))(k:∀b u,b≠e->h.get? b=some u->h'.get? b=some u)(j:∃u,h'.get? e=some u):Un fs ex H (upd H x o) h h':=by
 have g:∀b,H b=none->b≠x:=λb n z=>by subst z;rw[n] at c;exact c
 have f:∀b,H b=none->b≠e:=λb n z=>by
  subst z;rcases m with r|r
  ·exact g b n r
  ·rw[n] at r;cases r
 have d:∀b u,H b=some u->¬ Mut (some u)->b≠x:=λb u q nm z=>by subst z;rw[q] at c;exact nm c
 refine⟨λb u q n _ _=>k b u (f b n) q,λb u q n _ _=>⟨u.slots,k b u (f b n) q⟩,λb u q n _=>by rw[aK (g b n)];exact n,λb u q _=>?_,
  λb i q=>by rw[aK (d b _ q λz=>z)];exact q,λb u i q=>by rw[aK (d b _ q λz=>z)];exact q,λb l q=>⟨#[],by rw[aK (d b _ q λz=>z),q];simp⟩⟩
 by_cases a:b=e
 ·subst a;exact j
 ·exact⟨u,k b u a q⟩
end
def trk (h:Heap)(H:Hp):List Addr:=(List.range h.objs.size).filter λa=>(H a).isSome
def aD2 (h:Heap)(H:Hp):Heap:=PySem.W.hideAll h (trk h H)
def aRw (h:Heap)(H:Hp):(aD2 h H).objs.size=h.objs.size:=PySem.W.hideAll_size _ _
def aUt (e:h.get? b=some o)(n:H b=none):(aD2 h H).get? b=some o:=
 PySem.W.hideAll_get _ e λa=>by have q:=(List.mem_filter.mp a).2;rw[n] at q;simp at q
theorem aXf (e:(aD2 h H).get? b=some o):h.get? b=some o/\H b=none:=by
 have a:=PySem.W.of_hideAll (trk h H) e;refine⟨a,?_⟩;cases q:H b with
 |none=>rfl
 |some x=>have c:b∈trk h H:=List.mem_filter.mpr ⟨List.mem_range.mpr (j9 a),by simp[q]⟩;have z:(aD2 h H).get? b=none:=PySem.W.hideAll_none (trk h H) c;rw[z] at e;cases e
structure Mod (K:bF4)(mg:bF7)(base:Heap):Prop where
 kin:K.In base
 glob:base.Ns mainGlobals mg
 blt:∃mb,base.Ns builtinsNs mb/\∀x:Str,x≠"__name__"->mb x=bootBuiltins x
 nolimit:base.NoLimit
structure Cx where
 prog:Program
 w:World
 K:bF4
 mg:bF7
 base:Heap
 A:Around
 N:List Str
 s₀:Shared
 H₀:Hp
 env:Env
 outer:List Env
 stack:List Env
 ex:List Addr
 fn:Str->Bool
 calm:Bool
 pn:bF6
 xe:bF5
def frs (l:List Env):List Addr:=l.filterMap (·.frame)
abbrev Cx.fs (X:Cx):List Addr:=frs X.outer
def Vis (sc:Scope)(x:Str):Prop:=sc.names.lookup x=some .local\/sc.names.lookup x=some .cell\/sc.names.lookup x=some .free
def Loc (sc:Scope)(x:Str):Prop:=sc.names.lookup x=some .local\/sc.names.lookup x=some .cell
def Look (env:Env)(h:Heap)(m:bF7)(x:Str)(u:Value):Prop:=
 (env.kindOf x=some .local/\m x=some u)\/((env.kindOf x=some .cell\/env.kindOf x=some .free)/\∃c,env.cells.lookup x=some c/\h.IsCell c (some u))
structure Cx.Ok (X:Cx):Prop where
 mod:Mod X.K X.mg X.base
 kind:X.env.scope.kind=.function
 glob:X.env.globals=mainGlobals
 blt:X.env.builtins=builtinsNs
 above:X.s₀.heap.objs.size<=X.env.locals
 inj:∀x y c,X.env.cells.lookup x=some c->X.env.cells.lookup y=some c->x=y
 has:∀x,(X.env.kindOf x=some .cell\/X.env.kindOf x=some .free)->∃c,X.env.cells.lookup x=some c
 cab:∀x c,X.fn x=true->X.env.cells.lookup x=some c->X.s₀.heap.objs.size<=c
 hd:X.calm=true->X.A.handled=none
 frames:X.A.frames=some X.stack
 stk:X.stack=X.outer\/(X.stack=X.env::X.outer/\X.env.frame=some X.env.locals)
 exf:∀b∈X.ex,b≠X.env.locals/\∀x c,X.env.cells.lookup x=some c->c≠b
 bs:∀b o,X.base.get? b=some o->X.s₀.heap.get? b=some o/\X.H₀ b=none
 bsz:X.base.objs.size<=X.s₀.heap.objs.size
 noex:∀b o,X.base.get? b=some o->b∉X.ex
 exfs:∀b∈X.ex,b∉X.fs
 funs:X.s₀.heap.FunFrames X.base X.outer
 frf:∀b∈X.fs,X.H₀ b=none
structure Inv (X:Cx)(bF8:bF6)(σ:List (Option V))(H:Hp)(s:Shared):Prop where
 ok:X.Ok
 os:s.os=X.s₀.os
 bare:AllBare s.gens
 base:Un X.fs X.ex X.H₀ H X.s₀.heap s.heap
 loc:∃m,s.heap.Ns X.env.locals m/\∀(i:Nat) (x:Str) (v:V),X.N[i]?=some x->σ[i]?=some (some v)->Vis X.env.scope x->∃u,RelV v u/\Look X.env s.heap m x u
 cell:∀x c,X.env.cells.lookup x=some c->∃v,s.heap.IsCell c v
 free:H X.env.locals=none
 freeC:∀x c,X.env.cells.lookup x=some c->H c=none
 pin:∀p∈X.pn++bF8,s.heap.get? p.1=some p.2/\H p.1=none/\p.1≠X.env.locals/\p.1∉X.fs/\∀v,p.2.data≠.cell v
 hok:HOk X.prog X.w H s.heap
 len:σ.length=X.N.length
section
variable {X:Cx}{bF8:bF6}{σ:List (Option V)}{H H':Hp}{s:Shared}{h':Heap}
def Cx.Ok.nofr (c:X.Ok)(e:X.base.get? b=some o):b∉X.fs:=λa=>by have:=(c.funs.mem a).1;rw[e] at this;cases this
theorem Inv.bs (I:Inv X bF8 σ H s):∀b o,X.base.get? b=some o->s.heap.get? b=some o/\H b=none:=λb o e=>
 ⟨I.base.keep b o (I.ok.bs b o e).1 (I.ok.bs b o e).2 (I.ok.nofr e) (I.ok.noex b o e),I.base.free b o (I.ok.bs b o e).1 (I.ok.bs b o e).2 (I.ok.noex b o e)⟩
def Inv.bk (I:Inv X bF8 σ H s):∀b o,X.base.get? b=some o->s.heap.get? b=some o:=λb o e=>(I.bs b o e).1
theorem Inv.mod (I:Inv X bF8 σ H s):Mod X.K X.mg X.base:=I.ok.mod
def Inv.kIn (I:Inv X bF8 σ H s):X.K.In s.heap:=I.ok.mod.kin.keeps I.bk
theorem Inv.nolimit (I:Inv X bF8 σ H s):s.heap.NoLimit:=I.ok.mod.nolimit.keeps I.bk
def Inv.fr (I:Inv X bF8 σ H s):∃m,Fr X.base X.env.locals s.heap m:=
 let ⟨m,hn,_⟩:=I.loc
 ⟨m,hn,I.bk,bAE I.ok.bsz I.ok.above⟩
theorem Inv.lt (I:Inv X bF8 σ H s):X.env.locals<s.heap.objs.size:=let ⟨_,hn,_⟩:=I.loc;hn.lt
def Inv.sz (I:Inv X bF8 σ H s):X.s₀.heap.objs.size<=s.heap.objs.size:=bAE I.ok.above (bDI I.lt)
def Inv.nofs (I:Inv X bF8 σ H s)(h:s.heap.objs.size<=a):a∉X.fs:=λb=>by obtain⟨_,o,c,_⟩:=I.ok.funs.mem b;exact absurd (z9 (j9 c) (bAE I.sz h)) (bBM _)
def Inv.cne (I:Inv X bF8 σ H s):∀x c,X.env.cells.lookup x=some c->c≠X.env.locals:=λx c e z=>by obtain⟨v,o,d,hd⟩:=I.cell x c e;obtain⟨m,⟨h,f,g,b,a,_⟩,_⟩:=I.loc;rw[z,b] at d;cases d;rw[a] at hd;cases hd
theorem Inv.funs (I:Inv X bF8 σ H s):s.heap.FunFrames X.base X.outer:=by
 have a:∀l,(∀b∈frs l,b∈X.fs)->X.s₀.heap.FunFrames X.base l->s.heap.FunFrames X.base l:=by
  intro l
  induction l with
  |nil=>intro _ _;trivial
  |cons env r ih=>intro g m;obtain⟨i,⟨L,o,c,k,j,hd⟩,h⟩:=m;have d:=g L (by unfold frs;rw[bCF,c];exact j0);obtain⟨n,e⟩:=I.base.slot L o j (I.ok.frf L d) d λz=>I.ok.exfs L z d;exact⟨i,⟨L,_,c,k,e,hd⟩,ih (λb f=>g b (by unfold frs;rw[bCF,c];exact j5 _ f)) h⟩
 exact a X.outer (λ_ f=>f) I.ok.funs
theorem Inv.stack (I:Inv X bF8 σ H s):s.heap.FunFrames X.base X.stack:=by
 rcases I.ok.stk with e|⟨e,a⟩
 ·rw[e];exact I.funs
 ·rw[e];obtain⟨m,b,_⟩:=I.loc;refine .cons (by rw[I.ok.kind];decide) a b ?_ I.funs;exact bDS (bAE I.ok.bsz I.ok.above)
def Inv.aHv (I:Inv X bF8 σ H s):∀b∈frs X.stack,b∈X.env.locals::X.fs:=λb a=>by
 rcases I.ok.stk with e|⟨e,c⟩
 ·rw[e] at a;exact j5 _ a
 ·rw[e] at a;unfold frs at a;rw[bCF,c] at a;exact a
def Inv.rC (I:Inv X bF8 σ H s):∀b∈frs X.stack,H b=none:=λb hb=>by
 rcases List.mem_cons.mp (I.aHv b hb) with e|hb
 ·rw[e];exact I.free
 ·obtain⟨_,o,a,_⟩:=I.ok.funs.mem hb;exact I.base.free b o a (I.ok.frf b hb) λz=>I.ok.exfs b z hb
def Inv.step {g':Array GenState}{t':Nat}{d':Drawn}{ch:List Addr}(I:Inv X bF8 σ H s)
  (t:∀b∈ch,(b∈X.ex\/X.s₀.heap.objs.size<=b)/\b≠X.env.locals/\(∀x c,X.env.cells.lookup x=some c->c≠b)/\∀p∈X.pn++bF8,p.1≠b)
  (A:∀b o,b≠X.env.locals->b∉X.fs->b∉ch->s.heap.get? b=some o->H b=none->h'.get? b=some o)
  (slot:∀b o,b≠X.env.locals->b∈X.fs->b∉ch->s.heap.get? b=some o->H b=none->∃sl,h'.get? b=some { o with slots:=sl }) (g:∀b o,b∉ch->s.heap.get? b=some o->H b=none->H' b=none)
  (G:∀b o,b∉ch->s.heap.get? b=some o->∃o',h'.get? b=some o')
  (M:∀b xs,H b=some (.tup xs)->H' b=some (.tup xs)) (L:∀b o u,H b=some (.frz o u)->H' b=some (.frz o u)) (J:∀b ps,H b=some (.tbl ps)->∃more,H' b=some (.tbl (ps++more)))
  (W:∀m,s.heap.Ns X.env.locals m->h'.Ns X.env.locals m) (R:HOk X.prog X.w H' h') (Y:AllBare g') :
  Inv X bF8 σ H' { s with heap:=h',gens:=g',drawn:=d',toks:=t' }:=by
 have E:∀b o,X.s₀.heap.get? b=some o->b≠X.env.locals:=λb o e=>v8 (z9 (j9 e) I.ok.above);have j:∀b o,X.s₀.heap.get? b=some o->b∉X.ex->b∉ch:=λb o e a B=>by
  rcases (t b B).1 with z|z
  ·exact a z
  ·exact absurd (z9 (j9 e) z) (bBM _)
 have h:∀x c,X.env.cells.lookup x=some c->∀v,s.heap.IsCell c v->h'.IsCell c v:=λx c e v ⟨o,C,hd⟩=>by
  have f:c∉ch:=λz=>(t c z).2.2.1 x c e rfl;by_cases P:c∈X.fs
  ·obtain⟨sl,q⟩:=slot c o (I.cne x c e) P f C (I.freeC x c e);exact⟨_,q,hd⟩
  ·exact⟨o,A c o (I.cne x c e) P f C (I.freeC x c e),hd⟩
 refine⟨I.ok,I.os,Y,⟨λb o e n B a=>?_,λb o e n B a=>?_,λb o e n a=>?_,λb o e a=>?_,λb xs e=>M b xs (I.base.tups b xs e),λb o xs e=>L b o xs (I.base.frzs b o xs e),λb ps e=>?_⟩,?_,λx c e=>?_,?_,λx c e=>?_,λp N=>?_,R,I.len⟩
 ·exact A b o (E b o e) B (j b o e a) (I.base.keep b o e n B a) (I.base.free b o e n a)
 ·obtain⟨sl,y⟩:=I.base.slot b o e n B a;obtain⟨F,D⟩:=slot b _ (E b o e) B (j b o e a) y (I.base.free b o e n a);exact⟨F,D⟩
 ·obtain⟨o',y⟩:=I.base.there b o e a;exact g b o' (j b o e a) y (I.base.free b o e n a)
 ·obtain⟨o',y⟩:=I.base.there b o e a;exact G b o' (j b o e a) y
 ·obtain⟨V,y⟩:=I.base.tbls b ps e;obtain⟨U,D⟩:=J b _ y;exact⟨V++U,by rw[D,Array.append_assoc]⟩
 ·obtain⟨m,S,T⟩:=I.loc;refine⟨m,W m S,λi x v y D Q=>?_⟩;obtain⟨u,r,l⟩:=T i x v y D Q;refine⟨u,r,?_⟩;rcases l with l|⟨k,c,e,z⟩
  ·exact .inl l
  ·exact .inr ⟨k,c,e,h x c e _ z⟩
 ·obtain⟨v,z⟩:=I.cell x c e;exact⟨v,h x c e v z⟩
 ·obtain⟨m,⟨o,_,_,C,_⟩,_⟩:=I.loc;exact g _ o (λz=>(t _ z).2.1 rfl) C I.free
 ·obtain⟨v,o,C,hd⟩:=I.cell x c e;exact g c o (λz=>(t c z).2.2.1 x c e rfl) C (I.freeC x c e)
 ·obtain⟨e,n,K,O,d⟩:=I.pin p N;have f:p.1∉ch:=λz=>(t p.1 z).2.2.2 p N rfl;exact⟨A p.1 p.2 K O f e n,g p.1 p.2 f e n,K,O,d⟩
def Inv.un (I:Inv X bF8 σ H s)(u:Un X.fs [] H H' s.heap h')(h:HOk X.prog X.w H' h'):Inv X bF8 σ H' { s with heap:=h',toks:=t' }:=by
 obtain⟨m,⟨o,q,t,g,r⟩,_⟩:=id I.loc;obtain⟨l,i⟩:=u.any g I.free (by simp);exact I.step (g':=s.gens) (d':=s.drawn) (ch:=[]) (λ_ z=>nomatch z) (λb o _ f _ e n=>u.keep b o e n f (by simp)) (λb o _ f _ e n=>u.slot b o e n f (by simp)) (λb o _ e n=>u.free b o e n (by simp)) (λb o _ e=>u.there b o e (by simp)) u.tups u.frzs u.tbls (λp j=>by obtain⟨v,d,c,a,k⟩:=j;rw[g] at a;cases a;exact⟨_,d,c,i,k⟩) h I.bare
def Inv.call (I:Inv X bF8 σ H s)(u:Un (frs X.stack) ch H H' s.heap h')(k:HOk X.prog X.w H' h')(D:AllBare g')
  (i:∀b∈ch,(b∈X.ex\/X.s₀.heap.objs.size<=b)/\b≠X.env.locals/\(∀x c,X.env.cells.lookup x=some c->c≠b)/\∀p∈X.pn++bF8,p.1≠b) :
  Inv X bF8 σ H' { s with heap:=h',gens:=g',drawn:=d',toks:=t' }:=by
 obtain⟨m,⟨o,A,B,j,r⟩,_⟩:=id I.loc;obtain⟨v,h⟩:=u.any j I.free λz=>(i _ z).2.1 rfl;exact I.step (ch:=ch) i (λb o h l a e n=>u.keep b o e n (λz=>(List.mem_cons.mp (I.aHv b z)).elim h l) a) (λb o _ _ a e n=>u.any e n a) (λb o a e n=>u.free b o e n a) (λb o a e=>u.there b o e a) u.tups u.frzs u.tbls (λy q=>by obtain⟨C,g,f,d,t⟩:=q;rw[j] at d;cases d;exact⟨_,g,f,h,t⟩) k D
def Inv.turned (I:Inv X bF8 σ H s)(k:∀b o,b≠it->s.heap.get? b=some o->h'.get? b=some o)(y:H it=none)(j:it≠X.env.locals)
  (B:it∈X.ex\/X.s₀.heap.objs.size<=it) (w:∀x c,X.env.cells.lookup x=some c->c≠it) (A:∀p∈X.pn++bF8,p.1≠it):Inv X bF8 σ H { s with heap:=h',toks:=t' }:=by
 have d:∀b u,H b=some u->b≠it:=λb u e z=>by rw[z,y] at e;cases e
 refine I.step (g':=s.gens) (d':=s.drawn) (ch:=[it]) (λb g=>?_) (λb o _ _ a e _=>k b o (λz=>a (by simp[z])) e) (λb o _ _ a e _=>⟨o.slots,k b o (λz=>a (by simp[z])) e⟩) (λ_ _ _ _ n=>n)
  (λb o a e=>⟨o,k b o (λz=>a (by simp[z])) e⟩) (λ_ _ e=>e) (λ_ _ _ e=>e) (λb t e=>⟨#[],by rw[e];simp⟩) (λm i=>?_) (λb u e=>?_) I.bare
 ·have e:b=it:=by simpa using g
  subst e;exact⟨B,j,w,A⟩
 ·obtain⟨o,f,h,l,r⟩:=i;exact⟨o,f,h,k _ o (Ne.symm j) l,r⟩
 ·refine (I.hok b u e).stay (λc v a q=>k c v ?_ q) (λ_ q=>q) λ_ _ q=>q;rcases a with z|z
  ·rw[z];exact d b u e
  ·exact d c _ z
def Inv.tok (I:Inv X bF8 σ H s)(t:Nat):Inv X bF8 σ H { s with toks:=t }:=I.un (h':=s.heap) (t':=t) Un.refl I.hok
theorem Inv.kept (I:Inv X bF8 σ H s)(k:∀b u,s.heap.get? b=some u->h'.get? b=some u):Inv X bF8 σ H { s with heap:=h',toks:=t' }:=I.un (Un.kept k) (I.hok.kept k)
theorem Inv.laid (I:Inv X bF8 σ H s)(k:∀b u,s.heap.get? b=some u->h'.get? b=some u)(c:s.heap.objs.size<=a)(d:cV X.prog X.w (upd H a o) h' a o) :
  Inv X bF8 σ (upd H a o) { s with heap:=h',toks:=t' }:=I.un (Un.laid k c (I.hok.fresh c)) (I.hok.laid k c d)
theorem Inv.write (I:Inv X bF8 σ H s)(f:Mut (H x))(c:e=x\/H e=some (.own x))(k:∀b u,b≠e->s.heap.get? b=some u->h'.get? b=some u)(a:∃u,h'.get? e=some u)
  (d:cV X.prog X.w (upd H x o) h' x o):Inv X bF8 σ (upd H x o) { s with heap:=h',toks:=t' }:=I.un (Un.write f c k a) (I.hok.write f c k a d)
def Inv.aPw (I:Inv X bF8 σ H s)(h:∀p∈pins',s.heap.get? p.1=some p.2/\H p.1=none/\p.1≠X.env.locals/\p.1∉X.fs/\∀v,p.2.data≠.cell v):Inv X pins' σ H s:=
 ⟨I.ok,I.os,I.bare,I.base,I.loc,I.cell,I.free,I.freeC,λp a=>(List.mem_append.mp a).elim (λz=>I.pin p (bBQ _ z)) (h p),I.hok,I.len⟩
def aIv {N:List Str}(f:N.Nodup){i j:Nat}{x:Str}(a:N[i]?=some x)(b:N[j]?=some x):i=j:=by obtain⟨g,c⟩:=List.getElem?_eq_some_iff.mp a;obtain⟨e,d⟩:=List.getElem?_eq_some_iff.mp b;exact (List.getElem_inj f).mp (c.trans d.symm)
def aEw {M:Model}{A:Around}{E:bF5}{i:Nat}{x:Str}{v:V}{u:Value}{Q:Unit->Shared->Prop}(I:Inv X bF8 σ H s)(hN:X.N.Nodup)(hi:X.N[i]?=some x)(t:Loc X.env.scope x)(r:RelV v u)
  (h:∀s',Inv X bF8 (σ.set i (some v)) H s'->(∃a,Heap.SameBut a s.heap s'.heap/\(a=X.env.locals\/X.env.cells.lookup x=some a))->Q () s') (hf:X.fn x=true\/X.env.scope.names.lookup x=some .local:=by first|exact .inl rfl|exact .inr rfl|assumption):wpAny M A (storeName X.env x u) Q E s:=by
 obtain⟨m,hn,hl⟩:=id I.loc;have L:(X.env.scope.kind == .class || (X.env.scope.kind == .module && X.env.locals != X.env.globals))=false:=by rw[I.ok.kind];rfl
 have R:i<σ.length:=by rw[I.len];exact (List.getElem?_eq_some_iff.mp hi).1
 have G:=I.cne;have g:∀{a:Addr} {K:Heap},(∃o,s.heap.get? a=some o/\H a=none)->Heap.SameBut a s.heap K->HOk X.prog X.w H K:=λ{a K} ha f b ob e=>by
  obtain⟨_,_,B⟩:=ha;refine (I.hok b ob e).stay (λc W hc q=>(f.2 c ?_).trans q) (λ_ q=>q) λ_ _ q=>q;rintro rfl;rcases hc with rfl|hc
  ·rw[B] at e;cases e
  ·rw[B] at hc;cases hc
 rcases t with hk|hk
 ·refine wpAny_storeName_local hk hn (λK a0 f=>?_) L;obtain⟨oL,_,_,a1,_⟩:=id hn;refine h _ ⟨I.ok,I.os,I.bare,⟨λb o e n F t=>?_,λb o e n F t=>?_,I.base.free,λb o e t=>?_,I.base.tups,I.base.frzs,I.base.tbls⟩,⟨_,a0,λj y v' l C Z=>?_⟩,λy c e=>?_,I.free,I.freeC,λp hp=>?_,g ⟨oL,a1,I.free⟩ f,by simpa using I.len⟩ ⟨_,f,.inl rfl⟩
  ·exact (f.2 b (v8 (z9 (j9 e) I.ok.above))).trans (I.base.keep b o e n F t)
  ·obtain⟨sl,l⟩:=I.base.slot b o e n F t;exact⟨sl,(f.2 b (v8 (z9 (j9 e) I.ok.above))).trans l⟩
  ·obtain⟨o',l⟩:=I.base.there b o e t;exact⟨o',(f.2 b (v8 (z9 (j9 e) I.ok.above))).trans l⟩
  ·by_cases J:j=i
   ·subst J;rw[hi] at l;cases l;rw[bES R] at C;cases C;exact⟨u,r,.inl ⟨hk,by simp⟩⟩
   ·rw[List.getElem?_set_ne (Ne.symm J)] at C;obtain⟨u',r',q⟩:=hl j y v' l C Z;refine⟨u',r',?_⟩;rcases q with⟨k,e⟩|⟨k,c,e,z⟩
    ·refine .inl ⟨k,?_⟩;have:y≠x:=λe=>J (aIv hN l (e ▸ hi));simp[this,e]
    ·exact .inr ⟨k,c,e,z.sameBut f (G y c e)⟩
  ·obtain⟨W,z⟩:=I.cell y c e;exact⟨W,z.sameBut f (G y c e)⟩
  ·obtain⟨e,n,U,nf,d⟩:=I.pin p hp;exact⟨(f.2 p.1 U).trans e,n,U,nf,d⟩
 ·have D:X.fn x=true:=by
   rcases hf with z|z
   ·exact z
   ·rw[z] at hk;cases hk
  obtain⟨c,hc⟩:=I.ok.has x (.inl hk);obtain⟨W,z⟩:=I.cell x c hc;refine wpAny_storeName_cell I.ok.kind hk hc z (λK P f=>?_);obtain⟨oc,O,S⟩:=id z;refine h { s with heap:=K } ⟨I.ok,I.os,I.bare,⟨λb o e n F t=>?_,λb o e n F t=>?_,I.base.free,λb o e t=>?_,I.base.tups,I.base.frzs,I.base.tbls⟩,⟨m,hn.sameBut f (Ne.symm (G x c hc)),λj y v' l C Z=>?_⟩,λy Y e=>?_,I.free,I.freeC,λp hp=>?_,g ⟨oc,O,I.freeC x c hc⟩ f,by simpa using I.len⟩ ⟨c,f,.inr hc⟩
  ·exact (f.2 b (v8 (z9 (j9 e) (I.ok.cab x c D hc)))).trans (I.base.keep b o e n F t)
  ·obtain⟨sl,l⟩:=I.base.slot b o e n F t;exact⟨sl,(f.2 b (v8 (z9 (j9 e) (I.ok.cab x c D hc)))).trans l⟩
  ·obtain⟨o',l⟩:=I.base.there b o e t;exact⟨o',(f.2 b (v8 (z9 (j9 e) (I.ok.cab x c D hc)))).trans l⟩
  ·by_cases J:j=i
   ·subst J;rw[hi] at l;cases l;rw[bES R] at C;cases C;exact⟨u,r,.inr ⟨.inl hk,c,hc,P⟩⟩
   ·rw[List.getElem?_set_ne (Ne.symm J)] at C;obtain⟨u',r',q⟩:=hl j y v' l C Z;refine⟨u',r',?_⟩;rcases q with q|⟨k,Y,e,z'⟩
    ·exact .inl q
    ·refine .inr ⟨k,Y,e,z'.sameBut f ?_⟩;rintro rfl;exact J (aIv hN l (I.ok.inj _ _ _ e hc ▸ hi))
  ·by_cases T:Y=c
   ·subst T;exact⟨_,P⟩
   ·obtain⟨w2,z2⟩:=I.cell y Y e;exact⟨w2,z2.sameBut f T⟩
  ·obtain⟨e,n,U,nf,d⟩:=I.pin p hp;refine⟨(f.2 p.1 ?_).trans e,n,U,nf,d⟩;intro q;rw[q,O] at e;have q':=bAK e;exact d W (by rw[<-q'];exact S)
def aLv (I:Inv X bF8 σ H s)(c:X.N.Nodup)(hi:X.N[i]?=some x)(d:Loc X.env.scope x)(r:RelV v u)
  (h:∀s',Inv X bF8 (σ.set i (some v)) H s'->Q () s') (b:X.fn x=true\/X.env.scope.names.lookup x=some .local:=by first|exact .inl rfl|exact .inr rfl|assumption):wpAny M A (storeName X.env x u) Q E s:=
 aEw I c hi d r (λs' a _=>h s' a) b
def Inv.call' (I:Inv X bF8 σ H s)(ho:s'.os=s.os)(u:Un (frs X.stack) ch H H' s.heap s'.heap)(a:HOk X.prog X.w H' s'.heap)(g:AllBare s'.gens)
  (d:∀b∈ch,(b∈X.ex\/X.s₀.heap.objs.size<=b)/\b≠X.env.locals/\(∀x c,X.env.cells.lookup x=some c->c≠b)/\∀p∈X.pn++bF8,p.1≠b):Inv X bF8 σ H' s':=by
 obtain⟨f,g',d',t',h⟩:=s';have e:=ho;subst e;exact I.call (g':=g') (t':=t') (d':=d') u a g d
end
abbrev XK:=Value->Option Addr->Hp->Prop
abbrev St:=List (Option V)
abbrev VK:=V->Hp->Prop
abbrev TE:=St->Hp->VK->Prop
abbrev TT:=St->Hp->(Bool->Hp->Prop)->Prop
abbrev TA:=St->Hp->(List V->Hp->Prop)->Prop
structure Ends where
 nx:St->Hp->Prop
 rt:VK
 bk:St->Hp->Prop:=λ_ _=>False
 ct:St->Hp->Prop:=λ_ _=>False
abbrev TS:=Ends->St->Hp->Prop
def EP (X:Cx)(bF8:bF6)(σ:St)(Q:VK)(u:Value)(s':Shared):Prop:=∃v H',Inv X bF8 σ H' s'/\RelV v u/\Q v H'
def TP (X:Cx)(bF8:bF6)(σ:St)(Q:Bool->Hp->Prop)(b:Bool)(s':Shared):Prop:=∃H',Inv X bF8 σ H' s'/\Q b H'
def AP (X:Cx)(bF8:bF6)(σ:St)(Q:List V->Hp->Prop)(us:List Value)(s':Shared):Prop:=∃vs H',Inv X bF8 σ H' s'/\Vals vs us/\Q vs H'
def SP (X:Cx)(bF8:bF6)(D:Ends)(f:Flow)(s':Shared):Prop:=
 match f with
 |.next=>∃σ' H',Inv X bF8 σ' H' s'/\D.nx σ' H'
 |.brk=>∃σ' H',Inv X bF8 σ' H' s'/\D.bk σ' H'
 |.cont=>∃σ' H',Inv X bF8 σ' H' s'/\D.ct σ' H'
 |.ret u=>∃v σ' H',Inv X bF8 σ' H' s'/\RelV v u/\D.rt v H'
def PE (X:Cx)(e:Expr)(t:TE):Prop:=
 ∀bF8 s σ H Q,Inv X bF8 σ H s->t σ H Q->wpAny (model X.prog X.w) X.A (eval e X.env) (EP X bF8 σ Q) X.xe s
def PT (X:Cx)(e:Expr)(t:TT):Prop:=
 ∀bF8 s σ H Q,Inv X bF8 σ H s->t σ H Q->wpAny (model X.prog X.w) X.A (isTrue e X.env (eval e X.env)) (TP X bF8 σ Q) X.xe s
def PW (X:Cx)(e:Expr)(t:TT):Prop:=
 ∀whole bF8 s σ H Q,Inv X bF8 σ H s->t σ H Q->wpAny (model X.prog X.w) X.A (isTrue e X.env whole) (TP X bF8 σ Q) X.xe s
def PW.pt (h:PW X e t):PT X e t:=h _
def PA (X:Cx)(es:List Expr)(t:TA):Prop:=
 ∀pos bF8 s σ H Q,Inv X bF8 σ H s->t σ H Q->wpAny (model X.prog X.w) X.A (spliced (backTo pos (starEach es X.env))) (AP X bF8 σ Q) X.xe s
def PS (X:Cx)(st:Stmt)(t:TS):Prop:=
 ∀bF8 s σ H D,Inv X bF8 σ H s->t D σ H->wpAny (model X.prog X.w) X.A (exec st X.env) (SP X bF8 D) X.xe s
def PSs (X:Cx)(st:List Stmt)(t:TS):Prop:=
 ∀bF8 s σ H D,Inv X bF8 σ H s->t D σ H->wpAny (model X.prog X.w) X.A (execs st X.env) (SP X bF8 D) X.xe s
def thn {α:Type}{t:Sem α}{Q Q':α->Shared->Prop}{M:Model}{A:Around}{E:bF5}{s:Shared}(h:wpAny M A t Q E s)(b:∀a s,Q a s->Q' a s):wpAny M A t Q' E s:=bAX h b λ_ _ x=>x
section
variable {X:Cx}
def rR (i:Nat):TE:=fun σ H Q=>∃v,σ[i]?=some (some v)/\Q v H
def tC (v:V):TE:=λ_ H Q=>Q v H
def bB4 (k:X.N[i]?=some x)(n:Vis X.env.scope x)(hd:(x == ("__debug__":Str))=false:=by decide)(g:(x == ("__classdict__":Str))=false:=by decide):PE X (.Name x pos) (rR i):=by
 intro b s σ H Q I h;obtain⟨v,e,h⟩:=h;obtain⟨m,d,j⟩:=I.loc;obtain⟨u,r,l⟩:=j i x v k e n;have a:EP X b σ Q u s:=⟨v,H,I,r,h⟩;rcases l with⟨hk,f⟩|⟨hk,c,hc,hcell⟩
 ·exact wpAny_Name (wpAny_loadName_local I.ok.kind hk d f a) hd
 ·rcases hk with hk|hk
  ·exact wpAny_Name (wpAny_loadName_cell I.ok.kind hk hc hcell a) hd
  ·exact wpAny_Name (wpAny_loadName_free I.ok.kind hk hc hcell a g) hd
def bAm {i j pos}:PE X (.Constant (.int i) j pos) (tC (.int i)):=λ_ _ _ H _ I h=>wpAny_Constant_int ⟨.int i,H,I.tok _,⟨_,rfl⟩,h⟩
def bD4 {b j pos}:PE X (.Constant (.bool b) j pos) (tC (.bl b)):=λ_ _ _ H _ I h=>Constant_bool ⟨.bl b,H,I,rfl,h⟩
def bAw {j pos}:PE X (.Constant .none j pos) (tC .non):=λ_ _ _ H _ I h=>Constant_none ⟨.non,H,I,rfl,h⟩
def bB2 {x j pos}:PE X (.Constant (.str x) j pos) (tC (.str x)):=λ_ _ _ H _ I h=>Calls.Constant_str ⟨.str x,H,I.tok _,⟨_,rfl⟩,h⟩
def Gl (X:Cx)(x:Str):Prop:=X.env.kindOf x=some .globalImplicit
def oM (I:Inv X bF8 σ H s)(a:Gl X x)(b:X.mg x=some u)(h:Q u s)
  (hd:(x == ("__debug__":Str))=false:=by decide):wpAny (model X.prog X.w) X.A (eval (.Name x pos) X.env) Q E s:=
 bDT I.ok.kind a (Calls.loadGlobal_global (by rw[I.ok.glob];exact I.mod.glob.keeps I.bk) b h) hd
def qZ (I:Inv X bF8 σ H s)(e:Gl X x)(f:X.mg x=none)(d:bootBuiltins x=some u)(h:Q u s)
  (g:x≠"__name__":=by decide) (hd:(x == ("__debug__":Str))=false:=by decide):wpAny (model X.prog X.w) X.A (eval (.Name x pos) X.env) Q E s:=by
 obtain⟨c,a,b⟩:=I.mod.blt;exact bDT I.ok.kind e (Calls.loadGlobal_builtin (by rw[I.ok.glob];exact I.mod.glob.keeps I.bk) f (by rw[I.ok.blt];exact a.keeps I.bk) ((b x g).trans d) h) hd
def aWi (a:Gl X x)(b:X.mg x=some u)(r:RelV v u)(hd:(x == ("__debug__":Str))=false:=by decide):PE X (.Name x pos) (tC v):=
 λ_ _ _ H _ I h=>oM I a b ⟨v,H,I,r,h⟩ hd
def aXp (b:Gl X x)(c:X.mg x=none)(a:bootBuiltins x=some u)(r:RelV v u)(d:x≠"__name__":=by decide)(hd:(x == ("__debug__":Str))=false:=by decide):PE X (.Name x pos) (tC v):=
 λ_ _ _ H _ I h=>qZ I b c a ⟨v,H,I,r,h⟩ d hd
variable {a b:Expr}{ta tb:TE}{pos:Pos}
def PC (X:Cx)(op:CmpOp)(a b:Expr)(t:TE):Prop:=
 ∀bF8 s σ H Q,Inv X bF8 σ H s->t σ H Q ->
  wpAny (model X.prog X.w) X.A (eval a X.env) (λv s₁=>wpAny (model X.prog X.w) X.A (eval b X.env) (λu s₂=>wpAny (model X.prog X.w) X.A (compareOp op v u) (EP X bF8 σ Q) X.xe s₂) X.xe s₁) X.xe s
def tB (t:TE):TT:=fun σ H Q=>t σ H λx H1=>∃c,x=.bl c/\Q c H1
def aSw {op:CmpOp}{t:TE}(h:PC X op a b t)(f:behindInMarks op b=false:=by first|exact nobehind _ (by decide) (by decide)|rfl):PT X (.Compare a [op] [b] pos) (tB t):=by intro e s σ H Q I k;refine wpAny_isTrue_Compare1 (thn (h e s σ H _ I k) λv o f=>thn f λu p i=>thn i λc n ⟨x,m,g,l,j⟩=>?_) f;obtain⟨d,rfl,q⟩:=j;cases l;exact bBC ⟨m,g,q⟩
def bCj {e:Expr}{t:TE}(h:PE X e t)(k:∀whole,isTrue e X.env whole=(do let v <-whole;standAt e.pos;holding [v] (truthy v)):=by intro _;rfl):PT X e (tB t):=by intro a s σ H Q I f;refine isTrue_plain (thn (h a s σ H _ I f) λv j ⟨x,i,b,g,c⟩=>?_) (k _);obtain⟨d,rfl,q⟩:=c;cases g;exact bBC ⟨i,b,q⟩
variable {tA tB':TT}{rest:List Expr}
def bDl (t u:TT):TT:=fun σ H Q=>t σ H λc H1=>if c=true then u σ H1 Q else Q false H1
def tOr (t u:TT):TT:=fun σ H Q=>t σ H λc H1=>if c=true then Q true H1 else u σ H1 Q
def bBr (t:TT):TT:=fun σ H Q=>t σ H λc H1=>Q (!c) H1
theorem aX1 (g:PT X a tA):PW X (.BoolOp .And [a] pos) tA:=by
 intro f b s σ H Q I h;refine isTrue_and (thn (g b s σ H Q I h) λc d e=>?_);cases c with
 |true=>exact isTrue_and_nil e
 |false=>exact e
theorem bAs (g:PT X a tA):PW X (.BoolOp .Or [a] pos) tA:=by
 intro f b s σ H Q I h;refine isTrue_or (thn (g b s σ H Q I h) λc d e=>?_);cases c with
 |false=>exact isTrue_or_nil e
 |true=>exact e
theorem bA2 (k:PT X a tA)(l:PW X (.BoolOp .And (b::rest) pos) tB'):PW X (.BoolOp .And (a::b::rest) pos) (bDl tA tB'):=by
 intro j d s σ H Q I h;refine isTrue_and (thn (k d s σ H _ I h) λc i ⟨f,e,g⟩=>?_);cases c with
 |true=>exact l j d i σ f Q e g
 |false=>exact⟨f,e,g⟩
theorem bEi (k:PT X a tA)(l:PW X (.BoolOp .Or (b::rest) pos) tB'):PW X (.BoolOp .Or (a::b::rest) pos) (tOr tA tB'):=by
 intro j d s σ H Q I h;refine isTrue_or (thn (k d s σ H _ I h) λc i ⟨f,e,g⟩=>?_);cases c with
 |true=>exact⟨f,e,g⟩
 |false=>exact l j d i σ f Q e g
def bCf (e:PT X a tA):PT X (.UnaryOp .Not a pos) (bBr tA):=by intro b s σ H Q I h;exact isTrue_not (e b s σ H (λc d=>Q (!c) d) I h)
def aZw (ta tb:TE):TE:=fun σ H Q=>ta σ H λx H1=>∃c,x=.bl c/\if c=true then tb σ H1 Q else Q (.bl false) H1
def bEn (ta tb:TE):TE:=fun σ H Q=>ta σ H λx H1=>∃c,x=.bl c/\if c=true then Q (.bl true) H1 else tb σ H1 Q
def aZr (ta:TE):TE:=fun σ H Q=>ta σ H λx H1=>∃c,x=.bl c/\Q (.bl (!c)) H1
def aZ9 {op}(h:PE X a t):PE X (.BoolOp op [a] pos) t:=λb s σ H Q I c=>BoolOp_one (h b s σ H Q I c)
theorem aZ4 (k:PE X a ta)(l:PE X (.BoolOp .And (b::rest) pos) tb):PE X (.BoolOp .And (a::b::rest) pos) (aZw ta tb):=by
 intro d s σ H Q I h;refine BoolOp_and (thn (k d s σ H _ I h) λv i ⟨x,g,f,j,e⟩=>?_);obtain⟨c,rfl,e⟩:=e;cases j;refine bBC ?_;cases c with
 |true=>exact l d i σ g Q f e
 |false=>exact⟨.bl false,g,f,rfl,e⟩
theorem bDh (k:PE X a ta)(l:PE X (.BoolOp .Or (b::rest) pos) tb):PE X (.BoolOp .Or (a::b::rest) pos) (bEn ta tb):=by
 intro d s σ H Q I h;refine BoolOp_or (thn (k d s σ H _ I h) λv i ⟨x,g,f,j,e⟩=>?_);obtain⟨c,rfl,e⟩:=e;cases j;refine bBC ?_;cases c with
 |false=>exact l d i σ g Q f e
 |true=>exact⟨.bl true,g,f,rfl,e⟩
def bCu (j:PE X a ta):PE X (.UnaryOp .Not a pos) (aZr ta):=by intro b s σ H Q I h;refine UnaryOp_ (thn (j b s σ H _ I h) λv i ⟨x,g,e,f,d⟩=>?_);obtain⟨c,rfl,d⟩:=d;cases f;exact not_of (bBC ⟨.bl (!c),g,e,rfl,d⟩)
def tIf (t:TT)(ta tb:TE):TE:=fun σ H Q=>t σ H λc H1=>if c=true then ta σ H1 Q else tb σ H1 Q
theorem aVu {c:Expr}(l:PT X c tA)(k:PE X a ta)(m:PE X b tb):PE X (.IfExp c a b pos) (tIf tA ta tb):=by
 intro e s σ H Q I h;refine wpAny_IfExp (thn (l e s σ H _ I h) λd f ⟨i,g,j⟩=>?_);cases d with
 |true=>exact k e f σ i Q g j
 |false=>exact m e f σ i Q g j
end
def SqL (K:bF4)(H:Hp)(a:Addr)(xs:List V):Prop:=
 Rd H a (.lst xs) \/
  ∃o its n,K.lookup a=some o/\o.cls=.type "list"/\o.dict=none/\o.data=.seq its n/\its.size<=sizeLine/\Vals xs its.toList
def SqT (K:bF4)(H:Hp)(a:Addr)(xs:List V):Prop:=
 Rd H a (.tup xs) \/
  ∃o its n,K.lookup a=some o/\o.cls=.type "tuple"/\o.dict=none/\o.data=.seq its n/\its.size<=sizeLine/\Vals xs its.toList
def bEy:Value->Option V
 |.none=>some .non
 |.bool b=>some (.bl b)
 |.int i _=>some (.int i)
 |.str x _=>some (.str x)
 |.bytes b _=>some (.byt b)
 |.float b _=>some (.flt b)
 |.ref a=>some (.ref a)
 |.type n=>some (.ty n)
 |_=>none
theorem RelV.abs (r:RelV x u):bEy u=some x:=by
 cases x with
 |non=>cases r;rfl
 |bl _=>cases r;rfl
 |int _=>obtain⟨t,rfl⟩:=r;rfl
 |str _=>obtain⟨t,rfl⟩:=r;rfl
 |byt _=>obtain⟨t,rfl⟩:=r;rfl
 |flt _=>obtain⟨t,rfl⟩:=r;rfl
 |ref _=>cases r;rfl
 |ty _=>cases r;rfl
def RelV.inj (r:RelV x u)(q:RelV y u):x=y:=bAK (r.abs.symm.trans q.abs)
theorem Vals.inj:∀{xs ys:List V} {us:List Value},Vals xs us->Vals ys us->xs=ys
 |_,_,_,.nil,.nil=>rfl
 |_,_,_,.cons r t,.cons r' t'=>by rw[r.inj r',Vals.inj t t']
section
variable {X:Cx}{bF8:bF6}{σ:St}{H:Hp}{s:Shared}{a:Addr}{xs ys:List V}
def SqL.of {K:bF4}(h:H a=some (.lst xs)):SqL K H a xs:=.inl (.inl h)
def SqT.of {K:bF4}(h:H a=some (.tup xs)):SqT K H a xs:=.inl (.inl h)
def Inv.list (I:Inv X bF8 σ H s)(h:SqL X.K H a xs):∃its:List Value,Vals xs its/\PlainL s.heap a its.toArray/\xs.length<=sizeLine:=by
 rcases h with h|⟨o,its,n,b,c,hd,d,f,r⟩
 ·obtain⟨z,its,n,r,e⟩:=h.ok I.hok;exact⟨its,r,⟨_,n,e,rfl,rfl,rfl⟩,z⟩
 ·refine⟨its.toList,r,⟨o,n,I.kIn a o b,c,hd,by simpa using d⟩,?_⟩;have e:=r.length;simp only[v4] at e;lia
def Inv.tuple (I:Inv X bF8 σ H s)(h:SqT X.K H a xs):∃its:List Value,Vals xs its/\IsTup s.heap a its.toArray/\xs.length<=sizeLine:=by
 rcases h with h|⟨o,its,n,b,c,hd,d,f,r⟩
 ·obtain⟨z,its,r,p⟩:=h.ok I.hok;exact⟨its,r,p.1,z⟩
 ·refine⟨its.toList,r,⟨o,I.kIn a o b,c,n,by simpa using d⟩,?_⟩;have e:=r.length;simp only[v4] at e;lia
def Inv.aWa (I:Inv X bF8 σ H s)(h:SqL X.K H a xs)(h':SqL X.K H a ys):xs=ys:=by
 obtain⟨c,r,⟨o,n,e,_,_,d⟩,_⟩:=I.list h;obtain⟨b,i,⟨k,j,f,_,_,g⟩,_⟩:=I.list h';rw[e] at f;cases f;rw[d] at g;injection g with d1 _;have:c=b:=by simpa using congrArg Array.toList d1
 subst this;exact r.inj i
def Inv.aQh (I:Inv X bF8 σ H s)(h:SqT X.K H a xs)(h':SqT X.K H a ys):xs=ys:=by
 obtain⟨c,r,⟨o,e,_,n,d⟩,_⟩:=I.tuple h;obtain⟨b,i,⟨k,f,_,j,g⟩,_⟩:=I.tuple h';rw[e] at f;cases f;rw[d] at g;injection g with d1 _;have:c=b:=by simpa using congrArg Array.toList d1
 subst this;exact r.inj i
end
abbrev Cx.wish (X:Cx)(E:bF5):Cx:={ X with xe:=E }
abbrev Cx.nox (X:Cx):Cx:=X.wish λ_ _=>False
theorem Cx.Ok.wish {X:Cx}(a:X.Ok)(E:bF5):(X.wish E).Ok:=
 ⟨a.mod,a.kind,a.glob,a.blt,a.above,a.inj,a.has,a.cab,a.hd,a.frames,a.stk,a.exf,a.bs,a.bsz,a.noex,a.exfs,a.funs,a.frf⟩
def Cx.Ok.qH {X:Cx}{E:bF5}(a:(X.wish E).Ok):X.Ok:=
 ⟨a.mod,a.kind,a.glob,a.blt,a.above,a.inj,a.has,a.cab,a.hd,a.frames,a.stk,a.exf,a.bs,a.bsz,a.noex,a.exfs,a.funs,a.frf⟩
section
variable {X:Cx}{bF8:bF6}{σ:St}{H:Hp}{s:Shared}{E:bF5}
theorem Inv.wish (I:Inv X bF8 σ H s)(E:bF5):Inv (X.wish E) bF8 σ H s:=⟨I.ok.wish E,I.os,I.bare,I.base,I.loc,I.cell,I.free,I.freeC,I.pin,I.hok,I.len⟩
theorem Inv.qH (I:Inv (X.wish E) bF8 σ H s):Inv X bF8 σ H s:=⟨I.ok.qH,I.os,I.bare,I.base,I.loc,I.cell,I.free,I.freeC,I.pin,I.hok,I.len⟩
theorem SP.qH (h:SP (X.wish E) bF8 D f s'):SP X bF8 D f s':=by
 cases f with
 |next=>obtain⟨b,a,I,q⟩:=h;exact⟨b,a,I.qH,q⟩
 |brk=>obtain⟨b,a,I,q⟩:=h;exact⟨b,a,I.qH,q⟩
 |cont=>obtain⟨b,a,I,q⟩:=h;exact⟨b,a,I.qH,q⟩
 |ret u=>obtain⟨v,b,a,I,r,q⟩:=h;exact⟨v,b,a,I.qH,r,q⟩
theorem PSs.nox {st:List Stmt}{t:TS}(h:PSs X.nox st t):PSs X st t:=λa s σ H D I b=>
 bAX (h a s σ H D (I.wish _) b) (λ_ _ q=>q.qH) λ_ _ z=>False.elim z
end
section
variable {X:Cx}{st:Stmt}{rest:List Stmt}{t u:TS}{e:Expr}{te:TE}{pos:Pos}
def sY:TS:=λD σ H=>D.nx σ H
def aDy (t u:TS):TS:=λD σ H=>t { D with nx:=u D } σ H
def aXz:PSs X [] sY:=λ_ _ σ H _ I h=>bFL ⟨σ,H,I,h⟩
theorem aVj (g:PS X st t)(i:PSs X rest u):PSs X (st::rest) (aDy t u):=by
 intro a s σ H D I h;refine wpAny_execs_cons (thn (g a s σ H { D with nx:=u D } I h) λf c q=>?_);cases f with
 |next=>obtain⟨e,b,d,q⟩:=q;exact i a c e b D d q
 |ret v=>exact q
 |brk=>exact q
 |cont=>exact q
theorem aYu (b:PS X st t):PSs X [st] t:=by
 intro a s σ H D I h;refine wpAny_execs_cons (thn (b a s σ H D I h) λf c q=>?_);cases f with
 |next=>exact bFL q
 |ret v=>exact q
 |brk=>exact q
 |cont=>exact q
def Inv.quiet (I:Inv X bF8 σ H s):interactive X.env=false:=by simp[interactive,I.ok.kind]
def aJp (te:TE):TS:=λD σ H=>te σ H λ_ H1=>D.nx σ H1
def aP4 (j:PE X e te)(g:swapsWith e none pos.line X.env=pure false:=by rfl):PS X (.Expr e pos) (aJp te):=by intro a s σ H D I h;exact wpAny_Expr_any (thn (j a s σ H _ I h) λv f ⟨x,c,b,i,d⟩=>⟨σ,c,b,d⟩) I.quiet g
def rA (te:TE):TS:=λD σ H=>te σ H D.rt
def bBv (i:PE X e te):PS X (.Return (some e) pos) (rA te):=by intro a s σ H D I h;exact wpAny_Return_some (thn (i a s σ H _ I h) λv g ⟨x,d,b,c,f⟩=>⟨x,σ,d,b,c,f⟩)
def aFx (c:TT)(t u:TS):TS:=λD σ H=>c σ H λb H1=>if b=true then t D σ H1 else u D σ H1
theorem bD9 {c:Expr}{a b:List Stmt}{tc:TT}(l:PT X c tc)(k:PSs X a t)(m:PSs X b u):PS X (.If c a b pos) (aFx tc t u):=by
 intro e s σ H D I h;refine wpAny_If (thn (l e s σ H _ I h) λd f ⟨i,g,j⟩=>?_);cases d with
 |true=>exact k e f σ i D g j
 |false=>exact m e f σ i D g j
def aVp:TS:=λ_ _ _=>False
def aU0:PS X st aVp:=λ_ _ _ _ _ _ h=>h.elim
end
abbrev TG:=V->St->Hp->(St->Hp->Prop)->Prop
abbrev TGs:=List V->St->Hp->(St->Hp->Prop)->Prop
def PG (X:Cx)(target:Expr)(t:TG):Prop:=
 ∀bF8 s σ H v u Q,Inv X bF8 σ H s->RelV v u->t v σ H Q ->
  wpAny (model X.prog X.w) X.A (assign target X.env u) (λ_ s'=>∃σ' H',Inv X bF8 σ' H' s'/\Q σ' H') X.xe s
def PGs (X:Cx)(ts:List Expr)(t:TGs):Prop:=
 ∀bF8 s σ H vs us Q,Inv X bF8 σ H s->Vals vs us->t vs σ H Q ->
  wpAny (model X.prog X.w) X.A (assignInOrder ((assignEach ts X.env).map (·.2)) us) (λ_ s'=>∃σ' H',Inv X bF8 σ' H' s'/\Q σ' H') X.xe s
abbrev bB3:=V->V->V->Hp->(Hp->Prop)->Prop
def bAk (X:Cx)(t:bB3):Prop:=
 ∀bF8 s σ H o i v ov iv u Q,Inv X bF8 σ H s->RelV o ov->RelV i iv->RelV v u->t o i v H Q ->
  wpAny (model X.prog X.w) X.A (setItem ov iv u) (λ_ s'=>∃H',Inv X bF8 σ H' s'/\Q H') X.xe s
section
variable {X:Cx}{pos:Pos}
def bO (i:Nat):TG:=λv σ H Q=>Q (σ.set i (some v)) H
def aY2 (e:X.N.Nodup)(hi:X.N[i]?=some x)(f:Loc X.env.scope x)(c:X.fn x=true\/X.env.scope.names.lookup x=some .local:=by first|exact .inl rfl|exact .inr rfl|assumption):PG X (.Name x pos) (bO i):=by intro b s σ H v u Q I r h;exact wpAny_assign_Name (aLv I e hi f r (λd a=>⟨_,H,a,h⟩) c)
def aQ3:TGs:=λvs σ H Q=>vs=[]/\Q σ H
def tG (t:TG)(u:TGs):TGs:=λvs σ H Q=>∃v r,vs=v::r/\t v σ H fun σ' H'=>u r σ' H' Q
def aYe:PGs X [] aQ3:=by intro a s σ H b c Q I r h;obtain⟨e,h⟩:=h;subst e;cases r;exact assignInOrder_nil ⟨σ,H,I,h⟩
theorem aSt {e:Expr}{es:List Expr}{t:TG}{u:TGs}(n:PG X e t)(k:PGs X es u)
  (o:(assignEach (e::es) X.env).map (·.2)=assign e X.env::(assignEach es X.env).map (·.2):=by rfl):PGs X (e::es) (tG t u):=by
 intro a s σ H m j Q I r h;obtain⟨v,l,g,h⟩:=h;subst g;cases r with
 |cons r rr=>rw[o];refine assignInOrder_cons (thn (n a s σ H _ _ _ I r h) λ_ b ⟨d,i,c,f⟩=>?_);exact k a b d i _ _ Q c rr f
def aL4 (K:bF4)(n:Nat)(t:TGs):TG:=λv σ H Q=>∃a xs,v=.ref a/\SqT K H a xs/\xs.length=n/\t xs σ H Q
def bBq (B:X.calm=true)(h:PGs X es t)
  (z:(assignEach es X.env).length=n:=by rfl) (l:(assignEach es X.env).findIdx? (·.1)=none:=by rfl):PG X (.Tuple es k pos) (aL4 X.K n t):=by
 intro c s σ H v u Q I r d;obtain⟨a,w,q,i,x,d⟩:=d;subst q;cases r;obtain⟨p,f,g,A⟩:=I.tuple i;refine assign_Tuple_tuple (I.ok.hd B) g (by simp[z,<-x,f.length]) l λy m=>?_;have j:=I.kept (t':=s.toks) λb o e=>m b o (v8 (j9 e)) e;exact h c _ σ H w _ Q j (by simpa using f) d
def bDb (to ti:TE)(t:bB3):TG:=λv σ H Q=>to σ H λo H1=>ti σ H1 λi H2=>t o i v H2 λH3=>Q σ H3
def bBl {o i:Expr}{to ti:TE}{t:bB3}(ho:PE X o to)(hi:PE X i ti)(A:bAk X t)
  (z:∀v,assign (.Subscript o i pos) X.env v=(do
   let ov <-holding [v] (eval o X.env)
   let iv <-holding [v,ov] (eval i X.env)
   standAt pos
   holding [v,ov,iv] (setItem ov iv v)
   release [v,ov,iv] []):=by intro _;rfl):PG X (.Subscript o i pos) (bDb to ti t):=by
 intro a s σ H v u Q I r h;rw[z];refine b7 (bAR (thn (ho a s σ H _ I h) λov c ⟨x,q,d,m,g⟩=>?_));refine b7 (bAR (thn (hi a c σ q _ d g) λiv l ⟨y,n,f,k,b⟩=>?_));refine b7 (bEC (b7 (bAR (thn (A a l σ n x y v ov iv u _ f m k r b) λ_ w ⟨e,p,j⟩=>?_))));exact wpAny_release ⟨σ,e,p,j⟩
def aB2 (te:TE)(g:TG):TS:=λD σ H=>te σ H λx H1=>g x σ H1 D.nx
def bBp {tg e:Expr}{te:TE}{g:TG}(o:PE X e te)(m:PG X tg g)(n:swapsWithSole [tg] e pos.line X.env=pure false:=by rfl)(k:swappedStores [tg] e X.env=pure none:=by rfl)
  (j:(assignEach [tg] X.env).map (·.2)=[assign tg X.env]:=by rfl):PS X (.Assign [tg] e pos) (aB2 te g):=by
 intro a s σ H D I h;refine wpAny_Assign_stores (thn (o a s σ H _ I h) λv b ⟨x,i,c,f,d⟩=>?_) n k;rw[j];exact thn (m a b σ i x v _ c f d) λ_ l q=>q
def bA6 {i:Nat}{x:Str}{e:Expr}{te:TE}{pos':Pos}(k:X.N.Nodup)(hi:X.N[i]?=some x)(l:Loc X.env.scope x)(p:PE X e te)(o:swapsWith e (some (.Name x pos')) pos.line X.env=pure false:=by rfl)(m:X.fn x=true\/X.env.scope.names.lookup x=some .local:=by first|exact .inl rfl|exact .inr rfl|assumption) :
  PS X (.Assign [.Name x pos'] e pos) (aB2 te (bO i)):=by
 intro a s σ H D I h;refine wpAny_Assign_Name (thn (p a s σ H _ I h) λv j ⟨y,g,b,f,d⟩=>?_) o;exact aLv b k hi l f (λn c=>⟨_,g,c,d⟩) m
end
structure It where
 go:Nat->Hp->Prop
 yld:Nat->Hp->V->Hp->Prop
 stop:Nat->Hp->Prop
def rY (X:Cx)(bF8:bF6)(H:Hp)(b:Addr):Prop:=
 H b=none/\b≠X.env.locals/\b∉X.fs/\(b∈X.ex\/X.s₀.heap.objs.size<=b)/\(∀x c,X.env.cells.lookup x=some c->c≠b)/\∀p∈X.pn++bF8,p.1≠b
def Inv.aLi (I:Inv X bF8 σ H s)(a:s.heap.objs.size<=b)(f:H' b=none):rY X bF8 H' b:=by
 refine⟨f,bCM (z9 I.lt a),I.nofs a,.inr (bAE I.sz a),λx c e z=>?_,λp d z=>?_⟩
 ·obtain⟨v,q⟩:=I.cell x c e;exact absurd (z9 q.lt (by rw[z];exact a)) (bBM _)
 ·exact absurd (z9 (j9 (I.pin p d).1) (by rw[z];exact a)) (bBM _)
structure Turn (P:Program)(w:World)(K:bF4)(tg:Expr)(J:It)(fp:List Addr)(it:Addr)(tn:Nat->Heap->Prop):Prop where
 mem:it∈fp
 obj:∀i h,tn i h->∀b∈fp,∃o,h.get? b=some o/\∀v,o.data≠.cell v
 keep:∀i h h',tn i h->(∀b∈fp,∀o,h.get? b=some o->h'.get? b=some o)->tn i h'
 item:∀(X:Cx),X.prog=P->X.w=w->X.K=K->X.calm=true->∀(i:Nat) (bF8:bF6) (s:Shared) (σ:St) (H:Hp) (E:bF5),Inv X bF8 σ H s->(∀b∈fp,rY X bF8 H b)->tn i s.heap->J.go i H ->
  wpAny (model P w) X.A (pyNext (.ref it)) (λr s1=>∃u,r=some u /\
   wpAny (model P w) X.A (letOwnedTupleGo tg (.ref it) u) (λ_ s2=>∃x H',Inv X bF8 σ H' s2/\RelV x u/\J.yld i H x H'/\tn (i+1) s2.heap/\∀b∈fp,H' b=none) E s1) E s
 done:∀(X:Cx),X.prog=P->X.w=w->X.K=K->X.calm=true->∀(i:Nat) (bF8:bF6) (s:Shared) (σ:St) (H:Hp) (E:bF5),Inv X bF8 σ H s->(∀b∈fp,rY X bF8 H b)->tn i s.heap->J.stop i H ->
  wpAny (model P w) X.A (pyNext (.ref it)) (λr s1=>r=none/\Inv X bF8 σ H s1) E s
 self:∀(A:Around) (i:Nat) (s:Shared) (Q:bF5) (E:bF5),tn i s.heap->Q (.ref it) s->wpAny (model P w) A (pyIter (.ref it)) Q E s
abbrev TI:=St->Hp->(It->Hp->Prop)->Prop
def PIE (X:Cx)(bF8:bF6)(σ:St)(tg:Expr)(R:It->Hp->Prop)(itv:Value)(s2:Shared):Prop:=
 ∃it fp tn J H',itv=.ref it/\Inv X bF8 σ H' s2/\Turn X.prog X.w X.K tg J fp it tn/\tn 0 s2.heap/\(∀b∈fp,rY X bF8 H' b)/\R J H'
def PI (X:Cx)(tg iter:Expr)(wi:TI):Prop:=
 ∀bF8 s σ H R,Inv X bF8 σ H s->wi σ H R ->
  wpAny (model X.prog X.w) X.A (eval iter X.env) (λv s1=>wpAny (model X.prog X.w) X.A (pyIter v) (PIE X bF8 σ tg R) X.xe s1) X.xe s
def aJk (ho:s.heap.get? it=some o)(b:o.cls=.type n)(hd:o.data=.fields vs)
  (c:["enumerate","zip","dict_itemiterator","dict_reverseitemiterator","odict_iterator","itertools.zip_longest","itertools.pairwise"].contains n=false) (a:Q () s):wpAny M A (letOwnedTupleGo tg (.ref it) u) Q E s:=by
 unfold letOwnedTupleGo;cases tg <;> first
  |exact d7 a
  |(cases u <;> first
    |exact d7 a
    |(refine b7 (wpAny_load ho ?_);rw[b,hd];show wpAny M A (if (["enumerate","zip","dict_itemiterator","dict_reverseitemiterator","odict_iterator","itertools.zip_longest","itertools.pairwise"].contains n && vs[0]? == some (rawInt _))=true then _ else _) Q E s;rw[if_neg (by intro h;rw[c,Bool.false_and] at h;cases h)];exact d7 a))
def Itl (K:bF4)(a:Addr):It:=
 ⟨λi H=>∃xs x,SqL K H a xs/\xs[i]?=some x,λi H x H'=>H'=H/\∀xs,SqL K H a xs->xs[i]?=some x,λi H=>∃xs,SqL K H a xs/\xs.length<=i⟩
def Itt (K:bF4)(a:Addr):It:=
 ⟨λi H=>∃xs x,SqT K H a xs/\xs[i]?=some x,λi H x H'=>H'=H/\∀xs,SqT K H a xs->xs[i]?=some x,λi H=>∃xs,SqT K H a xs/\xs.length<=i⟩
def Itr (lo:Int)(n:Nat):It:=⟨λi _=>i<n,λi H x H'=>H'=H/\x=.int (lo+i),λi _=>n<=i⟩
def aQm {P:Program}{w:World}{K:bF4}{tg:Expr}(a it:Addr):Turn P w K tg (Itl K a) [it] it (λi h=>h.IsListIter it a i) where
 mem:=by simp
 obj:=λi h f b g=>by
  have e:b=it:=by simpa using g
  subst e;obtain⟨o,e,c,d⟩:=f;exact⟨o,e,λv z=>by rw[d] at z;cases z⟩
 keep:=λi h M f k=>f.at λo e=>k it (by simp) o e
 item:=by intro X F t q N i n s σ H E I m f y;subst F t q;obtain⟨V,x,l,D⟩:=y;obtain⟨r,L,p,T⟩:=I.list l;obtain⟨u,W,R⟩:=L.get D;obtain⟨G,J,U,B,C,A⟩:=m it (by simp);refine wpAny_pyNext_list_item f p.isList (by simpa using W) λM j Q=>?_;have O:=I.turned (t':=s.toks) (λb o g e=>(Q.2 b g).trans e) G J B C A;obtain⟨o,e,c,d⟩:=id j;exact⟨u,rfl,aJk e c d (by decide) ⟨x,H,O,R,⟨rfl,λZ Y=>by rw[I.aWa Y l];exact D⟩,j,λb g=>(m b g).1⟩⟩
 done:=by intro X F t q N i n s σ H E I m f y;subst F t q;obtain⟨V,l,D⟩:=y;obtain⟨r,L,p,T⟩:=I.list l;obtain⟨G,J,U,B,C,A⟩:=m it (by simp);have hl:=L.length;exact wpAny_pyNext_list_end (I.ok.hd N) f p.isList (by simp;lia) λM S=>⟨rfl,I.turned (t':=s.toks) (λb o g e=>S b o g e) G J B C A⟩
 self:=λ_ _ _ _ _ f h=>wpAny_pyIter_listiter f h
def aMs {P:Program}{w:World}{K:bF4}{tg:Expr}(a it:Addr):Turn P w K tg (Itt K a) [it] it (λi h=>h.IsTupleIter it a i) where
 mem:=by simp
 obj:=λi h f b j=>by
  have e:b=it:=by simpa using j
  subst e;obtain⟨o,e,c,d⟩:=f;exact⟨o,e,λv z=>by rw[d] at z;cases z⟩
 keep:=λi h M f k=>f.at λo e=>k it (by simp) o e
 item:=by intro X F t r N i q s σ H E I n f y;subst F t r;obtain⟨V,x,m,D⟩:=y;obtain⟨g,L,p,T⟩:=I.tuple m;obtain⟨u,W,R⟩:=L.get D;obtain⟨G,J,U,B,C,A⟩:=n it (by simp);refine wpAny_pyNext_tuple_item f (show s.heap.IsTuple a g.toArray from p) (by simpa using W) λM l Q=>?_;have O:=I.turned (t':=s.toks) (λb o j e=>(Q.2 b j).trans e) G J B C A;obtain⟨o,e,c,d⟩:=id l;exact⟨u,rfl,aJk e c d (by decide) ⟨x,H,O,R,⟨rfl,λZ Y=>by rw[I.aQh Y m];exact D⟩,l,λb j=>(n b j).1⟩⟩
 done:=by intro X F t r N i q s σ H E I n f y;subst F t r;obtain⟨V,m,D⟩:=y;obtain⟨g,L,p,T⟩:=I.tuple m;obtain⟨G,J,U,B,C,A⟩:=n it (by simp);have hl:=L.length;exact wpAny_pyNext_tuple_end (I.ok.hd N) f (show s.heap.IsTuple a g.toArray from p) (by simp;lia) λM S=>⟨rfl,I.turned (t':=s.toks) (λb o j e=>S b o j e) G J B C A⟩
 self:=λ_ _ _ _ _ f h=>wpAny_pyIter_tupleiter f h
def aLw {P:Program}{w:World}{K:bF4}{tg:Expr}(it:Addr)(lo:Int)(n:Nat):Turn P w K tg (Itr lo n) [it] it (λi h=>IsRangeIter h it (lo+(i:Nat) * 1) ((n:Int) - (i:Nat)) 1) where
 mem:=by simp
 obj:=λi h a b c=>by
  have e:b=it:=by simpa using c
  subst e;exact⟨_,a,λv z=>by have F:Data.fields _=Data.cell v:=z;cases F⟩
 keep:=λi h g a k=>k it (by simp) _ a
 item:=by intro X x m l B i d s σ H E I j a p;subst x m l;obtain⟨y,A,M,r,u,q⟩:=j it (by simp);have W:=Walks.range (prog:=X.prog) (w:=X.w) (I.ok.hd B) it lo 1 n;refine W.item i s _ _ p a λv g C L f G=>?_;obtain⟨t,rfl⟩:=L;have D:Inv X d σ H { s with heap:=g,toks:=C }:=I.turned (λb o c e=>G b o (by simpa using c) e) y A r u q;refine⟨_,rfl,aJk (s:={ s with heap:=g,toks:=C }) (n:="range_iterator") f rfl rfl (by decide) ⟨.int (lo+i),H,D,⟨t,?_⟩,⟨rfl,rfl⟩,f,λb c=>(j b c).1⟩⟩;rw[Int.mul_one]
 done:=by intro X x m l B i d s σ H E I j a p;subst x m l;obtain⟨y,A,M,r,u,q⟩:=j it (by simp);exact wpAny_pyNext_range_end (I.ok.hd B) a (by have:n<=i:=p;lia) λg J=>⟨rfl,I.turned (t':=s.toks) (λb o c e=>J b o c e) y A r u q⟩
 self:=λ_ _ _ _ _ a h=>wpAny_pyIter_rangeiter a h
section
variable {X:Cx}{tg:Expr}
def aFu (K:bF4)(tl:TE):TI:=fun σ H R=>tl σ H λx H1=>∃a,x=.ref a/\(∃xs,SqL K H1 a xs)/\R (Itl K a) H1
def aYx (K:bF4)(tl:TE):TI:=fun σ H R=>tl σ H λx H1=>∃a,x=.ref a/\(∃xs,SqT K H1 a xs)/\R (Itt K a) H1
def aYa {l:Expr}{tl:TE}(w:PE X l tl):PI X tg l (aFu X.K tl):=by
 intro f s σ H R I h;refine thn (w f s σ H _ I h) λv c ⟨x,n,d,m,j⟩=>?_;obtain⟨a,e,⟨u,g⟩,q⟩:=j;subst e;cases m;obtain⟨i,r,p,t⟩:=d.list g;refine bCO p.isList ?_;refine⟨c.heap.objs.size,[c.heap.objs.size],_,_,n,rfl,d.kept (t':=c.toks) λb o e=>c7 _ e,aQm a _,⟨_,j8 _ rfl,rfl,rfl⟩,λb k=>?_,q⟩;have e:b=c.heap.objs.size:=by simpa using k
 subst e;exact d.aLi (d8 _) (d.hok.fresh (d8 _))
def bAp {l:Expr}{tl:TE}(w:PE X l tl):PI X tg l (aYx X.K tl):=by
 intro f s σ H R I h;refine thn (w f s σ H _ I h) λv c ⟨x,n,d,m,j⟩=>?_;obtain⟨a,e,⟨u,i⟩,q⟩:=j;subst e;cases m;obtain⟨g,r,p,t⟩:=d.tuple i;refine bFR (show c.heap.IsTuple a g.toArray from p) ?_;refine⟨c.heap.objs.size,[c.heap.objs.size],_,_,n,rfl,d.kept (t':=c.toks) λb o e=>c7 _ e,aMs a _,⟨_,j8 _ rfl,rfl,rfl⟩,λb k=>?_,q⟩;have e:b=c.heap.objs.size:=by simpa using k
 subst e;exact d.aLi (d8 _) (d.hok.fresh (d8 _))
def aIi {f:bF6}{σ:St}{H:Hp}{s:Shared}{R:It->Hp->Prop}{E:bF5}{lo hi:Int}{t u v:Tok}{tk:Nat}(I:Inv X f σ H s)(i:-(2 ^ 62)<=lo)(j:lo<2 ^ 62)(h:-(2 ^ 62)<=hi)(k:hi<2 ^ 62)
  (q:R (Itr lo (hi - lo).toNat) H):wpAny (model X.prog X.w) X.A (pyIter (.ref s.heap.objs.size)) (PIE X f σ tg R) E { s with heap:=s.heap.push { cls:=.type "range",data:=.fields #[.int lo t,.int hi u,.int 1 v] },toks:=tk }:=by
 refine wpAny_pyIter_range (IsRange.new ..) (small_one i j h k) ?_;have a:Inv X f σ H { s with heap:=s.heap.push { cls:=.type "range",data:=.fields #[.int lo t,.int hi u,.int 1 v] },toks:=tk }:=I.kept λb o e=>c7 _ e;refine⟨(s.heap.push { cls:=.type "range",data:=.fields #[.int lo t,.int hi u,.int 1 v] }).objs.size,[(s.heap.push { cls:=.type "range",data:=.fields #[.int lo t,.int hi u,.int 1 v] }).objs.size],_,_,H,rfl,
  a.kept (t':=tk) λb o e=>c7 _ e,aLw _ lo (hi - lo).toNat,?_,λb g=>?_,q⟩
 ·have c:lo+((0:Nat):Int) * 1=lo:=by simp
  have d:(((hi - lo).toNat:Nat):Int) - ((0:Nat):Int)=Builtin.Range.rangeSize lo hi 1:=by rw[rangeSize_one];split <;> lia
  show IsRangeIter _ _ (lo+((0:Nat):Int) * 1) ((((hi - lo).toNat:Nat):Int) - ((0:Nat):Int)) 1;rw[c,d];exact j8 _ rfl
 ·have e:b=(s.heap.push { cls:=.type "range",data:=.fields #[.int lo t,.int hi u,.int 1 v] }).objs.size:=by simpa using g
  subst e;exact a.aLi (d8 _) (a.hok.fresh (d8 _))
def aT7 (ta:TA):TI:=fun σ H R=>ta σ H λvs H1=>∃j:Int,vs=[.int j]/\-(2 ^ 62)<=j/\j<2 ^ 62/\R (Itr 0 j.toNat) H1
def aZu (ta:TA):TI:=fun σ H R=>ta σ H λvs H1=>∃i j:Int,vs=[.int i,.int j]/\(-(2 ^ 62)<=i/\i<2 ^ 62/\-(2 ^ 62)<=j/\j<2 ^ 62)/\R (Itr i (j - i).toNat) H1
theorem aR5 {a:Expr}{ta:TA}{p pos:Pos}(o:Gl X "range")(u:X.mg "range"=none)(l:PA X [a] ta)(m:starEach [a] X.env=[(false,eval a X.env)]:=by rfl):PI X tg (.Call (.Name "range" p) [a] [] pos) (aT7 ta):=by
 intro b s σ H R I h;refine Call_ (qZ I o u boot_range (bCB (thn (l pos b s σ H _ I h) λi k ⟨n,v,f,g,c⟩=>?_) m rfl));obtain⟨j,e,c,d,q⟩:=c;subst e;cases g with
 |cons r rr=>cases rr;obtain⟨t,rfl⟩:=r;exact call_range_1 (aIi f (by lia) (by lia) c d (by simpa using q))
theorem aQg {a b:Expr}{ta:TA}{p pos:Pos}(z:Gl X "range")(A:X.mg "range"=none)(w:PA X [a,b] ta)(x:starEach [a,b] X.env=[(false,eval a X.env),(false,eval b X.env)]:=by rfl)(f:starEach [b] X.env=[(false,eval b X.env)]:=by rfl) :
  PI X tg (.Call (.Name "range" p) [a,b] [] pos) (aZu ta):=by
 intro c s σ H R I h;refine Call_ (qZ I z A boot_range (bCB (thn (w pos c s σ H _ I h) λu v ⟨y,B,k,n,d⟩=>?_) (by rw[x,f]) (by rw[f];rfl)));obtain⟨i,j,e,⟨d,g,l,m⟩,q⟩:=d;subst e;cases n with
 |cons r rr=>
  cases rr with
  |cons r' rr=>cases rr;obtain⟨t,rfl⟩:=r;obtain⟨o,rfl⟩:=r';exact call_range_2 (aIi k d g l m q)
def bCx (wi:TI)(g:TG)(tb:TS):TS:=λD σ H=>wi σ H λJ H1=>∃W:Nat->Nat->St->Hp->Prop,(∃m,W 0 m σ H1)/\∀i m σ H,W i m σ H ->
 (J.stop i H/\D.nx σ H)\/(J.go i H/\∃N:St->Hp->Prop,(∀σ' H',N σ' H'->∃m',m'<m/\W (i+1) m' σ' H')/\∀x H',J.yld i H x H'->g x σ H' fun σ2 H2=>tb { D with nx:=N,ct:=N,bk:=D.nx } σ2 H2)
def aCz (fp:List Addr)(h:Heap):bF6:=fp.filterMap λb=>(h.get? b).map λo=>(b,o)
def oH (a:b∈fp)(e:h.get? b=some o):(b,o)∈aCz fp h:=List.mem_filterMap.mpr ⟨b,a,by rw[e];rfl⟩
theorem aQy (d:p∈aCz fp h):p.1∈fp/\h.get? p.1=some p.2:=by
 obtain⟨b,c,e⟩:=List.mem_filterMap.mp d;cases q:h.get? b with
 |none=>rw[q] at e;cases e
 |some o=>rw[q] at e;have a:=bAK e;subst a;exact⟨c,q⟩
def Inv.pinned (I:Inv X bF8 σ H s)(j:∀b∈fp,rY X bF8 H b)(ho:∀b∈fp,∃o,s.heap.get? b=some o/\∀v,o.data≠.cell v):Inv X (bF8++aCz fp s.heap) σ H s:=
 I.aPw λp f=>(List.mem_append.mp f).elim (λz=>I.pin p (bAM _ z)) λz=>by obtain⟨c,e⟩:=aQy z;obtain⟨g,i,h,_⟩:=j p.1 c;obtain⟨o,a,d⟩:=ho p.1 c;rw[e] at a;cases a;exact⟨e,g,i,h,d⟩
def Inv.qD (I:Inv X (bF8++pl) σ H s):Inv X bF8 σ H s:=I.aPw λp a=>I.pin p (bAM _ (bBQ _ a))
theorem bBa {iter:Expr}{body:List Stmt}{wi:TI}{g:TG}{tb:TS}{pos:Pos}(F:PassesOwn (model X.prog X.w) X.A X.env X.xe)(hc:X.calm=true)(hi:PI X tg iter wi)(hg:PG X tg g)(q:PSs X body tb)
  (hs:∀x,foldedSetIterable iter X.env x=pure x:=by intro _;rfl):PS X (.For tg iter body [] pos) (bCx wi g tb):=by
 intro a s σ H D I h;refine wpAny_For (thn (hi a s σ H _ I h) λv s1 h1=>thn h1 λa0 s2 h2=>?_) hs;obtain⟨it,C,Q,J,H2,e,I2,T,G,U,W,⟨m0,w0⟩,B⟩:=h2;subst e;have p:∀{H':Hp},(∀b∈C,H' b=none)->∀b∈C,rY X a H' b:=λhn b q=>⟨hn b q,(U b q).2⟩;refine codeAny_forLoop_any (λn P=>∃i σ' H',Inv X a σ' H' P/\Q i P.heap/\(∀b∈C,H' b=none)/\W i n σ' H') ?_ m0 ⟨0,σ,H2,I2,G,λb q=>(U b q).1,w0⟩;rintro n s3 ⟨i,σ3,H3,I3,st3,fr3,w3⟩;rcases B i n σ3 H3 w3 with⟨z,qn⟩|⟨go,N,hN,step⟩
 ·refine bEH F (thn (T.done X rfl rfl rfl hc i a s3 σ3 H3 X.xe I3 (p fr3) st3 z) λr s4 ⟨K,I4⟩=>?_);subst K;exact bFL ⟨σ3,H3,I4,qn⟩
 ·refine bEH F (thn (T.item X rfl rfl rfl hc i a s3 σ3 H3 X.xe I3 (p fr3) st3 go) λr s4 ⟨u,K,V⟩=>?_);subst K;refine bEH F (thn V λ_ S ⟨x,R,Z,r5,Y,y,L⟩=>?_);have O:=Z.pinned (p L) (T.obj _ _ y);refine bEH F (thn (hg _ S σ3 R x u _ O r5 (step x R Y)) λ_ s6 ⟨σ6,H6,I6,q6⟩=>?_);refine bEH F (thn (q _ s6 σ6 H6 _ I6 q6) λf M t=>?_);have j:∀{l:St} {c:Hp},Inv X (a++aCz C S.heap) l c M->N l c->∃m,m<n/\∃i σ' H',Inv X a σ' H' M/\Q i M.heap/\(∀b∈C,H' b=none)/\W i m σ' H':=λ{l c} k E=>by obtain⟨m',hm,w7⟩:=hN l c E;refine⟨m',hm,i+1,l,c,k.qD,T.keep _ _ _ y λb q o e=>(k.pin (b,o) (bAM _ (bAM _ (oH q e)))).1,λb q=>?_,w7⟩;obtain⟨o,e,d⟩:=T.obj _ _ y b q;exact (k.pin (b,o) (bAM _ (bAM _ (oH q e)))).2.1
  cases f with
  |next=>obtain⟨l,c,k,E⟩:=t;exact j k E
  |cont=>obtain⟨l,c,k,E⟩:=t;exact j k E
  |brk=>obtain⟨l,c,k,t⟩:=t;exact⟨l,c,k.qD,t⟩
  |ret v=>obtain⟨x7,l,c,k,r7,t⟩:=t;exact⟨x7,l,c,k.qD,r7,t⟩
end
def aI8 {K:bF4}{a:Addr}{xs:List V}{g:TG}{tb:TS}{D:Ends}{σ:St}{H:Hp}(d:Nat->St->Hp->Prop)(f:d 0 σ H)(j:∀i σ H,i<=xs.length->d i σ H->SqL K H a xs)
  (h:∀i x σ H,xs[i]?=some x->d i σ H->g x σ H fun σ2 H2=>tb { D with nx:=d (i+1),ct:=d (i+1),bk:=D.nx } σ2 H2) (hd:∀σ H,d xs.length σ H->D.nx σ H) :
  ∃W:Nat->Nat->St->Hp->Prop,(∃m,W 0 m σ H)/\∀i m σ H,W i m σ H ->
   ((Itl K a).stop i H/\D.nx σ H)\/((Itl K a).go i H/\∃N:St->Hp->Prop,(∀σ' H',N σ' H'->∃m',m'<m/\W (i+1) m' σ' H')/\∀x H',(Itl K a).yld i H x H'->g x σ H' fun σ2 H2=>tb { D with nx:=N,ct:=N,bk:=D.nx } σ2 H2):=by
 refine⟨λi m σ H=>m=xs.length - i/\i<=xs.length/\d i σ H,⟨xs.length,by simp,bAC _,f⟩,?_⟩;rintro i m σ H ⟨rfl,hi,p⟩;have q:=j i σ H hi p;by_cases b:i<xs.length
 ·refine .inr ⟨⟨xs,xs[i],q,by simp[b]⟩,d (i+1),fun σ' H' c=>⟨xs.length - (i+1),by lia,rfl,b,c⟩,λx H' y=>?_⟩;obtain⟨e,y⟩:=y;subst e;exact h i x σ _ (y xs q) p
 ·have e:i=xs.length:=by lia
  subst e;exact .inl ⟨⟨xs,q,d8 _⟩,hd σ H p⟩
def aWp {K:bF4}{a:Addr}{xs:List V}{g:TG}{tb:TS}{D:Ends}{σ:St}{H:Hp}(d:Nat->St->Hp->Prop)(f:d 0 σ H)(j:∀i σ H,i<=xs.length->d i σ H->SqT K H a xs)
  (h:∀i x σ H,xs[i]?=some x->d i σ H->g x σ H fun σ2 H2=>tb { D with nx:=d (i+1),ct:=d (i+1),bk:=D.nx } σ2 H2) (hd:∀σ H,d xs.length σ H->D.nx σ H) :
  ∃W:Nat->Nat->St->Hp->Prop,(∃m,W 0 m σ H)/\∀i m σ H,W i m σ H ->
   ((Itt K a).stop i H/\D.nx σ H)\/((Itt K a).go i H/\∃N:St->Hp->Prop,(∀σ' H',N σ' H'->∃m',m'<m/\W (i+1) m' σ' H')/\∀x H',(Itt K a).yld i H x H'->g x σ H' fun σ2 H2=>tb { D with nx:=N,ct:=N,bk:=D.nx } σ2 H2):=by
 refine⟨λi m σ H=>m=xs.length - i/\i<=xs.length/\d i σ H,⟨xs.length,by simp,bAC _,f⟩,?_⟩;rintro i m σ H ⟨rfl,hi,p⟩;have q:=j i σ H hi p;by_cases b:i<xs.length
 ·refine .inr ⟨⟨xs,xs[i],q,by simp[b]⟩,d (i+1),fun σ' H' c=>⟨xs.length - (i+1),by lia,rfl,b,c⟩,λx H' y=>?_⟩;obtain⟨e,y⟩:=y;subst e;exact h i x σ _ (y xs q) p
 ·have e:i=xs.length:=by lia
  subst e;exact .inl ⟨⟨xs,q,d8 _⟩,hd σ H p⟩
def iR {lo:Int}{n:Nat}{g:TG}{tb:TS}{D:Ends}{σ:St}{H:Hp}(c:Nat->St->Hp->Prop)(d:c 0 σ H)
  (f:∀i σ H,i<n->c i σ H->g (.int (lo+i)) σ H fun σ2 H2=>tb { D with nx:=c (i+1),ct:=c (i+1),bk:=D.nx } σ2 H2) (hd:∀σ H,c n σ H->D.nx σ H) :
  ∃W:Nat->Nat->St->Hp->Prop,(∃m,W 0 m σ H)/\∀i m σ H,W i m σ H ->
   ((Itr lo n).stop i H/\D.nx σ H)\/((Itr lo n).go i H/\∃N:St->Hp->Prop,(∀σ' H',N σ' H'->∃m',m'<m/\W (i+1) m' σ' H')/\∀x H',(Itr lo n).yld i H x H'->g x σ H' fun σ2 H2=>tb { D with nx:=N,ct:=N,bk:=D.nx } σ2 H2):=by
 refine⟨λi m σ H=>m=n - i/\i<=n/\c i σ H,⟨n,by simp,bAC _,d⟩,?_⟩;rintro i m σ H ⟨rfl,hi,p⟩;by_cases a:i<n
 ·refine .inr ⟨a,c (i+1),fun σ' H' b=>⟨n - (i+1),by lia,rfl,a,b⟩,λx H' y=>?_⟩;obtain⟨e,y⟩:=y;subst e y;exact f i σ _ a p
 ·have e:i=n:=by lia
  subst e;exact .inl ⟨d8 _,hd σ H p⟩
abbrev R2:=V->V->Hp->VK->Prop
def OpR (X:Cx)(f:Value->Value->Sem Value)(r:R2):Prop:=
 ∀bF8 s σ H x y v u Q,Inv X bF8 σ H s->RelV x v->RelV y u->r x y H Q ->
  wpAny (model X.prog X.w) X.A (f v u) (EP X bF8 σ Q) X.xe s
def UnR (X:Cx)(f:Value->Sem Value)(r:V->Hp->VK->Prop):Prop:=
 ∀bF8 s σ H x v Q,Inv X bF8 σ H s->RelV x v->r x H Q ->
  wpAny (model X.prog X.w) X.A (f v) (EP X bF8 σ Q) X.xe s
def cH (X:Cx)(f:Value)(r:List V->Hp->VK->Prop):Prop:=
 ∀bF8 s σ H xs us Q,Inv X bF8 σ H s->Vals xs us->r xs H Q ->
  wpAny (model X.prog X.w) X.A (call f us) (EP X bF8 σ Q) X.xe s
def bFa (X:Cx)(r:V->Hp->(Bool->Hp->Prop)->Prop):Prop:=
 ∀bF8 s σ H x v Q,Inv X bF8 σ H s->RelV x v->r x H Q ->
  wpAny (model X.prog X.w) X.A (truthy v) (TP X bF8 σ Q) X.xe s
def tOp (r:R2)(ta tb:TE):TE:=fun σ H Q=>ta σ H λx H1=>tb σ H1 λy H2=>r x y H2 Q
def tUn (r:V->Hp->VK->Prop)(ta:TE):TE:=fun σ H Q=>ta σ H λx H1=>r x H1 Q
def rI (C:Int->Int->Prop)(g:Int->Int->V):R2:=λx y H Q=>∃i j,x=.int i/\y=.int j/\C i j/\Q (g i j) H
def rI0 (g:Int->Int->V):R2:=λx y H Q=>∃i j,x=.int i/\y=.int j/\Q (g i j) H
def rU (g:Int->V):V->Hp->VK->Prop:=λx H Q=>∃i,x=.int i/\Q (g i) H
section
variable {X:Cx}{a b c:Expr}{ta tb tc:TE}{pos:Pos}
def aWc (m:PE X a ta)(o:PE X b tb){c:bF6}{s:Shared}{σ:St}{H:Hp}{R:V->V->Hp->Prop}(I:Inv X c σ H s)
  (h:ta σ H λx H1=>tb σ H1 λy H2=>R x y H2) {Q:bF5} {f:Value->Value->Sem Value}
  (n:∀v u s2 x y H2,Inv X c σ H2 s2->RelV x v->RelV y u->R x y H2->wpAny (model X.prog X.w) X.A (f v u) Q X.xe s2) :
  wpAny (model X.prog X.w) X.A (eval a X.env) (λv s₁=>wpAny (model X.prog X.w) X.A (eval b X.env) (λu s₂=>wpAny (model X.prog X.w) X.A (f v u) Q X.xe s₂) X.xe s₁) X.xe s:=by
 refine thn (m c s σ H _ I h) λv e ⟨x,H1,g,l,j⟩=>?_;refine thn (o c e σ H1 _ g j) λu s2 ⟨y,H2,i,k,d⟩=>?_;exact n v u s2 x y H2 i l k d
def bDp {op:Operator}{r:R2}(ho:OpR X (binaryOp op) r)(j:PE X a ta)(k:PE X b tb):PE X (.BinOp a op b pos) (tOp r ta tb):=by intro c s σ H Q I h;exact wpAny_BinOp (aWc j k I h λv u f x y g d e i q=>ho c f σ g x y v u Q d e i q)
def bDa {op:UnaryOp}{r:V->Hp->VK->Prop}(ho:UnR X (unaryOp op) r)(i:PE X a ta):PE X (.UnaryOp op a pos) (tUn r ta):=by intro b s σ H Q I h;exact UnaryOp_ (thn (i b s σ H _ I h) λv c ⟨x,f,d,e,g⟩=>ho b c σ f x v Q d e g)
def opI {f:Value->Value->Sem Value}{C:Int->Int->Prop}{g:Int->Int->Int}
  (a:∀(i j:Int) (t u:Tok) (s:Shared) (Q:bF5) (E:bF5),C i j->Q (.int (g i j) s.toks) { s with toks:=s.toks+1 }->wpAny (model X.prog X.w) X.A (f (.int i t) (.int j u)) Q E s) :
  OpR X f (rI C λi j=>.int (g i j)):=by
 intro c s σ H x y v u Q I d k h;obtain⟨i,j,rfl,rfl,e,q⟩:=h;obtain⟨t,rfl⟩:=d;obtain⟨b,rfl⟩:=k;exact a i j t b s _ _ e ⟨.int (g i j),H,I.tok _,⟨_,rfl⟩,q⟩
def bDs {f:Value->Value->Sem Value}{g:Int->Int->Int}
  (a:∀(i j:Int) (t u:Tok) (s:Shared) (Q:bF5) (E:bF5),Q (.int (g i j) s.toks) { s with toks:=s.toks+1 }->wpAny (model X.prog X.w) X.A (f (.int i t) (.int j u)) Q E s) :
  OpR X f (rI0 λi j=>.int (g i j)):=by
 intro c s σ H x y v u Q I d e h;obtain⟨i,j,rfl,rfl,q⟩:=h;obtain⟨t,rfl⟩:=d;obtain⟨b,rfl⟩:=e;exact a i j t b s _ _ ⟨.int (g i j),H,I.tok _,⟨_,rfl⟩,q⟩
def bBm {f:Value->Value->Sem Value}{g:Int->Int->Bool}
  (a:∀(i j:Int) (t u:Tok) (s:Shared) (Q:bF5) (E:bF5),Q (.bool (g i j)) s->wpAny (model X.prog X.w) X.A (f (.int i t) (.int j u)) Q E s) :
  OpR X f (rI0 λi j=>.bl (g i j)):=by
 intro c s σ H x y v u Q I d e h;obtain⟨i,j,rfl,rfl,q⟩:=h;obtain⟨t,rfl⟩:=d;obtain⟨b,rfl⟩:=e;exact a i j t b s _ _ ⟨.bl (g i j),H,I,rfl,q⟩
def bE1 (i j:Int):Prop:=0<j/\j<1073741824
def bEx (i j:Int):Prop:=0<=j/\j<=1000000/\i.natAbs<2 ^ 64
def bBx (i j:Int):Prop:=(-(2 ^ 64)<i/\i<2 ^ 64)\/(-(2 ^ 64)<j/\j<2 ^ 64)
def bBx.ok (h:bBx i j):IntMulOk i j:=by
 rcases h with⟨b,a⟩|⟨b,a⟩
 ·exact .of_left (intBits_le_64 b a)
 ·exact .of_right (intBits_le_64 b a)
def dG:OpR X (binaryOp .Add) (rI0 λi j=>.int (i+j)):=bDs λ_ _ _ _ _ _ _ q=>add_int q
def aCs:OpR X (binaryOp .Sub) (rI0 λi j=>.int (i - j)):=bDs λ_ _ _ _ _ _ _ q=>sub_int q
def yU:OpR X (binaryOp .Mult) (rI bBx λi j=>.int (i * j)):=opI λ_ _ _ _ _ _ _ a q=>mul_int q a.ok
def aY0:OpR X (binaryOp .FloorDiv) (rI bE1 λi j=>.int (i / j)):=opI λi j _ _ _ _ _ a q=>by have c:=a.1;have b:=a.2;exact floordiv_int (by lia) (by rw[Int.fdiv_eq_ediv_of_nonneg i (by lia)];exact q) (.inl (PyProof.noPylong_small (by lia)))
def jX:OpR X (binaryOp .Mod) (rI (λ_ j=>0<j) λi j=>.int (i % j)):=opI λi j _ _ _ _ _ a q=>by have b:=a;exact mod_int' (by lia) (by rw[Int.fmod_eq_emod_of_nonneg i (by lia)];exact q)
def aFw:OpR X (binaryOp .Pow) (rI bEx λi j=>.int (i ^ j.toNat)):=opI λ_ _ _ _ _ _ _ a q=>pow_int_small a.1 a.2.1 a.2.2 q
def unI {f:Value->Sem Value}{g:Int->Int}
  (a:∀(i:Int) (t:Tok) (s:Shared) (Q:bF5) (E:bF5),Q (.int (g i) s.toks) { s with toks:=s.toks+1 }->wpAny (model X.prog X.w) X.A (f (.int i t)) Q E s) :
  UnR X f (rU λi=>.int (g i)):=by
 intro c s σ H x v Q I b h;obtain⟨i,rfl,q⟩:=h;obtain⟨t,rfl⟩:=b;exact a i t s _ _ ⟨.int (g i),H,I.tok _,⟨_,rfl⟩,q⟩
def aU7:UnR X (unaryOp .USub) (rU λi=>.int (-i)):=unI λ_ _ _ _ _ q=>neg_int q
end
def scal:V->V->Bool
 |.non,.non=>true|.non,.int _=>true|.int _,.non=>true|.non,.bl _=>true|.bl _,.non=>true|.non,.str _=>true|.str _,.non=>true
 |.int _,.int _=>true|.bl _,.bl _=>true|.str _,.str _=>true|.byt _,.byt _=>true
 |.int _,.str _=>true|.str _,.int _=>true|.bl _,.str _=>true|.str _,.bl _=>true
 |_,_=>false
def rEq:R2:=λx y H Q=>scal x y=true/\Q (.bl (decide (x=y))) H
def rNe:R2:=λx y H Q=>scal x y=true/\Q (.bl (!decide (x=y))) H
def aPv:decide (V.int i=V.int j)=(i == j):=by rw[bCG];simp
def aUo:decide (V.bl i=V.bl j)=(i == j):=by rw[bCG];simp
def aOg:decide (V.str i=V.str j)=(i == j):=by rw[bCG];simp
def aPz:decide (V.byt i=V.byt j)=(i.toList == j.toList):=by rw[bCG];cases i;cases j;simp
section
variable {X:Cx}{a b c:Expr}{ta tb tc:TE}{pos:Pos}
def bV (I:Inv X bF8 σ H s)(q:Q (.bl k) H)(e:k=k'):EP X bF8 σ Q (.bool k') s:=by subst e;exact⟨.bl k,H,I,rfl,q⟩
theorem dN:OpR X (compareOp .Eq) rEq:=by
 intro e s σ H x y v u Q I d a h;obtain⟨c,q⟩:=h;cases x with
 |non=>
  cases d;cases y with
  |non=>cases a;exact PySem.EqNone.eq_none_none (bV I q (by simp))
  |bl j=>cases a;exact PySem.EqNone.eq_none_bool (bV I q (by simp))
  |int j=>obtain⟨b,rfl⟩:=a;exact PySem.EqNone.eq_none_int (bV I q (by simp))
  |str j=>obtain⟨b,rfl⟩:=a;exact PySem.EqNone.eq_none_str (bV I q (by simp))
  |_=>exact absurd (show false=true from c) v5
 |bl i=>
  cases d;cases y with
  |non=>cases a;exact PySem.EqNone.eq_bool_none (bV I q (by simp))
  |bl j=>cases a;exact eq_bool (bV I q aUo)
  |str j=>obtain⟨b,rfl⟩:=a;exact PySem.EqMixed.eq_bool_str (bV I q (by simp))
  |_=>exact absurd (show false=true from c) v5
 |int i=>
  obtain⟨t,rfl⟩:=d;cases y with
  |non=>cases a;exact PySem.EqNone.eq_int_none (bV I q (by simp))
  |int j=>obtain⟨b,rfl⟩:=a;exact eq_int (bV I q aPv)
  |str j=>obtain⟨b,rfl⟩:=a;exact PySem.EqMixed.eq_int_str (bV I q (by simp))
  |_=>exact absurd (show false=true from c) v5
 |str i=>
  obtain⟨t,rfl⟩:=d;cases y with
  |non=>cases a;exact PySem.EqNone.eq_str_none (bV I q (by simp))
  |bl j=>cases a;exact PySem.EqMixed.eq_str_bool (bV I q (by simp))
  |int j=>obtain⟨b,rfl⟩:=a;exact PySem.EqMixed.eq_str_int (bV I q (by simp))
  |str j=>obtain⟨b,rfl⟩:=a;exact eq_str (bV I q aOg)
  |_=>exact absurd (show false=true from c) v5
 |byt i=>
  obtain⟨t,rfl⟩:=d;cases y with
  |byt j=>obtain⟨b,rfl⟩:=a;exact PySem.W.eq_bytes (bV I q aPz)
  |_=>exact absurd (show false=true from c) v5
 |_=>cases y <;> exact absurd (show false=true from c) v5
theorem vV:OpR X (compareOp .NotEq) rNe:=by
 intro e s σ H x y v u Q I d a h;obtain⟨c,q⟩:=h;cases x with
 |non=>
  cases d;cases y with
  |non=>cases a;exact PySem.EqNone.ne_none_none (bV I q (by simp))
  |bl j=>cases a;exact PySem.EqNone.ne_none_bool (bV I q (by simp))
  |int j=>obtain⟨b,rfl⟩:=a;exact PySem.EqNone.ne_none_int (bV I q (by simp))
  |str j=>obtain⟨b,rfl⟩:=a;exact PySem.EqNone.ne_none_str (bV I q (by simp))
  |_=>exact absurd (show false=true from c) v5
 |bl i=>
  cases d;cases y with
  |non=>cases a;exact PySem.EqNone.ne_bool_none (bV I q (by simp))
  |bl j=>cases a;exact ne_bool (bV I q (congrArg not aUo))
  |str j=>obtain⟨b,rfl⟩:=a;exact PySem.EqMixed.ne_bool_str (bV I q (by simp))
  |_=>exact absurd (show false=true from c) v5
 |int i=>
  obtain⟨t,rfl⟩:=d;cases y with
  |non=>cases a;exact PySem.EqNone.ne_int_none (bV I q (by simp))
  |int j=>obtain⟨b,rfl⟩:=a;exact ne_int (bV I q (congrArg not aPv))
  |str j=>obtain⟨b,rfl⟩:=a;exact PySem.EqMixed.ne_int_str (bV I q (by simp))
  |_=>exact absurd (show false=true from c) v5
 |str i=>
  obtain⟨t,rfl⟩:=d;cases y with
  |non=>cases a;exact PySem.EqNone.ne_str_none (bV I q (by simp))
  |bl j=>cases a;exact PySem.EqMixed.ne_str_bool (bV I q (by simp))
  |int j=>obtain⟨b,rfl⟩:=a;exact PySem.EqMixed.ne_str_int (bV I q (by simp))
  |str j=>obtain⟨b,rfl⟩:=a;exact ne_str (bV I q (congrArg not aOg))
  |_=>exact absurd (show false=true from c) v5
 |byt i=>
  obtain⟨t,rfl⟩:=d;cases y with
  |byt j=>obtain⟨b,rfl⟩:=a;exact PySem.W.ne_bytes (bV I q (congrArg not aPz))
  |_=>exact absurd (show false=true from c) v5
 |_=>cases y <;> exact absurd (show false=true from c) v5
def aSg:OpR X (compareOp .Lt) (rI0 λi j=>.bl (decide (i<j))):=bBm λ_ _ _ _ _ _ _ q=>lt_int q
def aB1:OpR X (compareOp .LtE) (rI0 λi j=>.bl (decide (i<=j))):=bBm λ_ _ _ _ _ _ _ q=>le_int q
def bEq:OpR X (compareOp .Gt) (rI0 λi j=>.bl (decide (j<i))):=bBm λ_ _ _ _ _ _ _ q=>gt_int q
def aRx:OpR X (compareOp .In) (λx y H Q=>∃i j,x=.str i/\y=.str j/\Q (.bl (!(Builtin.Str.occurrences j i 0 j.length 1).isEmpty)) H):=by intro a s σ H x y v u Q I b c h;obtain⟨i,j,rfl,rfl,q⟩:=h;obtain⟨t,rfl⟩:=b;obtain⟨d,rfl⟩:=c;exact in_str (bV I q rfl)
def aF0:OpR X (compareOp .Is) (λx y H Q=>y=.non/\Q (.bl (decide (x=.non))) H):=by
 intro b s σ H x y v u Q I a c h;obtain⟨rfl,q⟩:=h;cases c;refine is_none_gen (bV I q ?_);cases x <;> first
  |(cases a;rfl)
  |(obtain⟨t,rfl⟩:=a;rfl)
def wJ:OpR X (compareOp .IsNot) (λx y H Q=>y=.non/\Q (.bl (!decide (x=.non))) H):=by
 intro b s σ H x y v u Q I a c h;obtain⟨rfl,q⟩:=h;cases c;refine isnot_none_gen (bV I q ?_);cases x <;> first
  |(cases a;rfl)
  |(obtain⟨t,rfl⟩:=a;rfl)
def OpR.or (h:OpR X f r)(h':OpR X f r'):OpR X f (λx y H Q=>r x y H Q\/r' x y H Q):=by
 intro a s σ H x y v u Q I b c q;rcases q with q|q
 ·exact h a s σ H x y v u Q I b c q
 ·exact h' a s σ H x y v u Q I b c q
def aUx (b:Expr)(h:op≠.In:=by decide)(d:op≠.NotIn:=by decide):behindInMarks op b=false:=by
 have c:(op == CmpOp.In)=false:=by cases op <;> first|rfl|exact absurd rfl h
 have a:(op == CmpOp.NotIn)=false:=by cases op <;> first|rfl|exact absurd rfl d
 cases b <;> simp[behindInMarks,c,a]
def aXk (ho:OpR X (compareOp op) r)(j:PE X a ta)(k:PE X b tb)(l:behindInMarks op b=false):PE X (.Compare a [op] [b] pos) (tOp r ta tb):=by intro c s σ H Q I h;exact wpAny_Compare1 (aWc j k I h λv u f x y g d e i q=>ho c f σ g x y v u Q d e i q) l
def aKw (t:TE):TT:=fun σ H Q=>t σ H λx H'=>∃k,x=.bl k/\Q k H'
def aX6 {op:CmpOp}{r:R2}(ho:OpR X (compareOp op) r)(D:PE X a ta)(E:PE X b tb)(F:behindInMarks op b=false):PT X (.Compare a [op] [b] pos) (aKw (tOp r ta tb)):=by
 intro d s σ H Q I h;refine wpAny_isTrue_Compare1 (thn (D d s σ H _ I h) λv g ⟨x,B,i,t,m⟩=>thn (E d g σ B _ i m) λu q ⟨y,w,l,o,f⟩=>
  thn (ho d q σ w x y v u _ l t o f) λc C ⟨z,j,A,p,k,e,n⟩=>?_) F
 subst e;cases p;exact bBC ⟨j,A,n⟩
def aGx (r r':R2)(ta tb tc:TE):TE:=fun σ H Q=>ta σ H λx H1=>tb σ H1 λy H2=>r x y H2 λz H3=>∃k,z=.bl k /\
 (if k=true then tc σ H3 λw' H4=>r' y w' H4 Q else Q (.bl false) H3)
theorem aTy {op op':CmpOp}{r r':R2}(ho:OpR X (compareOp op) r)(w:OpR X (compareOp op') r')(O:PE X a ta)(R:PE X b tb)(S:PE X c tc)
  (P:lastMarks [op,op'] [b,c]=false:=by with_unfolding_all rfl):PE X (.Compare a [op,op'] [b,c] pos) (aGx r r' ta tb tc):=by
 intro f s σ H Q I h;refine Compare_chain (thn (O f s σ H _ I h) λv n ⟨x,M,o,L,q⟩=>chain_link (thn (R f n σ M _ o q) λu A ⟨y,B,G,i,m⟩=>
  thn (ho f A σ B x y v u _ G L i m) λd C ⟨z,g,l,t,k,e,j⟩=>?_)) P
 subst e;cases t;refine bBC ?_;cases k with
 |false=>exact ite_ff ⟨.bl false,g,l,rfl,j⟩
 |true=>exact ite_tt (chain_last (thn (S f C σ g _ l j) λD J ⟨F,E,N,p,K⟩=>w f J σ E y F u D Q N i p K))
theorem aU5 {op op':CmpOp}{r r':R2}(ho:OpR X (compareOp op) r)(B:OpR X (compareOp op') r')(Y:PE X a ta)(hb:PE X b tb)(hc:PE X c tc)
  (hm:lastMarks [op,op'] [b,c]=false:=by with_unfolding_all rfl):PT X (.Compare a [op,op'] [b,c] pos) (aKw (aGx r r' ta tb tc)):=by
 intro f s σ H Q I h;refine isTrue_chain (thn (Y f s σ H _ I h) λv n ⟨x,U,o,T,t⟩=>test_link (thn (hb f n σ U _ o t) λu C ⟨y,F,P,i,m⟩=>
  thn (ho f C σ F x y v u _ P T i m) λd K ⟨z,g,l,w,k,e,j⟩=>?_)) hm
 subst e;cases w;refine bBC ?_;cases k with
 |false=>obtain⟨W,L,J⟩:=j;cases L;exact ite_ff ⟨g,l,J⟩
 |true=>refine ite_tt (test_last (thn (hc f K σ g _ l j) λM R ⟨O,N,V,p,S⟩=>thn (B f R σ N y O u M _ V i p S) λd' s5 ⟨Z,E,A,G,k2,q,D⟩=>?_));subst q;cases G;exact bBC ⟨E,A,D⟩
def bCm (K:bF4)(x:V)(H:Hp)(k:Bool):Prop:=
 match x with
 |.non=>k=false
 |.bl b=>k=b
 |.int i=>k=(i != 0)
 |.str y=>y.length<=sizeLine/\k=((y.length:Int) != 0)
 |.byt y=>y.size<=sizeLine/\k=((y.size:Int) != 0)
 |.ref p=>(∃xs,SqL K H p xs/\k=!xs.isEmpty)\/(∃xs,SqT K H p xs/\k=!xs.isEmpty)\/∃kvs,H p=some (.dK kvs)/\k=!kvs.isEmpty
 |_=>False
def aOc {κ:Type}{kvs:List (κ × V)}{vs:List (κ × Value)}(r:KV kvs vs):(!vs.isEmpty)=!kvs.isEmpty:=by cases r <;> rfl
def aDa (r:Vals xs its):(!its.toArray.isEmpty)=!xs.isEmpty:=by cases r <;> simp
def yC:(sizeLine:Nat)<2 ^ 63:=by rw[sizeLine_eq];decide
theorem bB8:bFa X (λx H Q=>∃k,bCm X.K x H k/\Q k H):=by
 intro z s σ H x v Q I f h;obtain⟨k,e,q⟩:=h;have C:=yC;have B:sizeLine=16777216:=sizeLine_eq;cases x with
 |non=>cases f;have a:k=false:=e;subst a;exact truthy_none ⟨H,I,q⟩
 |bl b=>cases f;have a:k=b:=e;subst a;exact bBC ⟨H,I,q⟩
 |int i=>obtain⟨t,rfl⟩:=f;have a:k=(i != 0):=e;subst a;exact PySem.P.truthy_int ⟨H,I,q⟩
 |str y=>obtain⟨t,rfl⟩:=f;obtain⟨A,a⟩:y.length<=sizeLine/\k=((y.length:Int) != 0):=e;subst a;exact PySem.P.truthy_str (by lia) ⟨H,I.tok _,q⟩
 |byt y=>obtain⟨t,rfl⟩:=f;obtain⟨A,a⟩:y.size<=sizeLine/\k=((y.size:Int) != 0):=e;subst a;exact PySem.W.truthy_bytes (by lia) ⟨H,I.tok _,q⟩
 |ref p=>
  cases f;have a:(∃d,SqL X.K H p d/\k=!d.isEmpty)\/(∃d,SqT X.K H p d/\k=!d.isEmpty)\/∃kvs,H p=some (.dK kvs)/\k=!kvs.isEmpty:=e;rcases a with⟨d,g,a⟩|⟨d,g,a⟩|⟨kvs,g,a⟩
  ·subst a;obtain⟨l,r,n,o⟩:=I.list g;have c:=r.length;exact wpAny_truthy_list n.isList (by simp only[d9];lia) ⟨H,I.tok _,by rw[aDa r];exact q⟩
  ·subst a;obtain⟨l,r,n,o⟩:=I.tuple g;have c:=r.length;exact truthy_tuple n (by simp only[d9];lia) ⟨H,I.tok _,by rw[aDa r];exact q⟩
  ·subst a;obtain⟨o,u,j,r,m⟩:kvs.length<=sizeLine/\(p == sysModules)=false/\∃j,KV kvs j/\s.heap.DictOf (bI X.prog X.w) p j:=I.hok p _ g;have c:kvs.length=j.length:=Paired.length r;exact wpAny_truthy_dict u m (by lia) ⟨H,I.tok _,by rw[aOc r];exact q⟩
 |_=>exact (show False from e).elim
def aVa (i:PE X a ta)(j:∀whole,isTrue a X.env whole=(do let v <-whole;standAt a.pos;holding [v] (truthy v))) :
  PT X a (fun σ H Q=>ta σ H λx H'=>∃k,bCm X.K x H' k/\Q k H'):=by
 intro b s σ H Q I h;exact isTrue_plain (thn (i b s σ H _ I h) λv c ⟨x,f,d,e,g⟩=>bB8 b c σ f x v Q d e g) (j _)
def oA:OpR X (binaryOp .Add) (λx y H Q=>∃i j,x=.str i/\y=.str j/\i.length+j.length<=sizeLine/\Q (.str (i++j)) H):=by intro b s σ H x y v u Q I d e h;obtain⟨i,j,rfl,rfl,c,q⟩:=h;obtain⟨t,rfl⟩:=d;obtain⟨a,rfl⟩:=e;exact add_str (λa f=>⟨.str (i++j),H,I.tok _,⟨_,rfl⟩,q⟩) c
def aIe (b:Expr):Prop:=∀o i,subscripted b false o i=operate [o,i] (getItem o i)
def aIf (B:PE X a ta)(C:PE X b tb)(D:aIe b) :
  PE X (.Subscript a b pos) (tOp (λx y H Q=>∃z i c,x=.str z/\y=.int i/\0<=i/\i<2 ^ 63/\i<z.length/\z.cps[i.toNat]?=some c/\Q (.str ⟨#[c]⟩) H) ta tb):=by
 intro g s σ H Q I h;refine Subscript_ (aWc B C I h λv u o x y r j m w q=>?_);obtain⟨z,i,c,rfl,rfl,d,n,k,p,q⟩:=q;obtain⟨t,rfl⟩:=m;obtain⟨A,rfl⟩:=w;have e:seqIndex? i z.length=some i.toNat:=PySem.StrLaws.seqIndex_nonneg d k;exact tail_any (typeIs_str o z t) slot_str_getitem.lookup (getItem_str (c:=c) (by have l:decide (i < -(2 ^ 63:Int))=false:=v9 (by lia);have f:decide (i ≥ 2 ^ 63)=false:=v9 (by lia);rw[l,f] <;> rfl) (by rw[e];exact p) ⟨.str ⟨#[c]⟩,r,j.tok _,⟨_,rfl⟩,q⟩) (D _ _)
theorem vals1 (r:Vals [x] us):∃u,us=[u]/\RelV x u:=by
 cases r with
 |cons r1 r2=>cases r2;exact⟨_,rfl,r1⟩
theorem vals2 (r:Vals [x,y] us):∃u w',us=[u,w']/\RelV x u/\RelV y w':=by
 cases r with
 |cons r1 r2=>
  cases r2 with
  |cons r3 r4=>cases r4;exact⟨_,_,rfl,r1,r3⟩
def aRs (l:X.calm=true):cH X (.builtin "max") (λxs H Q=>∃i j,xs=[.int i,.int j]/\Q (.int (if j > i then j else i)) H):=by
 intro b s σ H xs f Q I r h;obtain⟨i,j,rfl,q⟩:=h;obtain⟨u,e,rfl,⟨t,rfl⟩,⟨d,rfl⟩⟩:=vals2 r;refine max_two_ints (I.ok.hd l) λg c k=>⟨_,H,I.kept k,?_,q⟩;by_cases a:j > i
 ·rw[if_pos a,if_pos a];exact⟨_,rfl⟩
 ·rw[if_neg a,if_neg a];exact⟨_,rfl⟩
def yI:cH X (.type "int") (λxs H Q=>(∃i,xs=[.int i]/\Q (.int i) H)\/∃k,xs=[.bl k]/\Q (.int (if k then 1 else 0)) H):=by
 intro a s σ H xs c Q I r h;rcases h with⟨i,rfl,q⟩|⟨k,rfl,q⟩
 ·obtain⟨u,rfl,t,rfl⟩:=vals1 r;exact call_int_int ⟨.int i,H,I,⟨_,rfl⟩,q⟩
 ·obtain⟨u,rfl,b⟩:=vals1 r;cases b;exact call_int_bool ⟨.int (if k then 1 else 0),H,I.tok _,⟨_,rfl⟩,q⟩
end
structure aOe (h:Heap)(x dx C:Addr)(mA:bF7):Prop where
 obj:h.get? x=some (PySem.W.instObj C dx)
 ns:h.Ns1 dx mA
 ne:dx≠x
def aRv {h:Heap}{dx:Addr}{mA:bF7}(n:h.Ns1 dx mA):∃od,h.get? dx=some od/\∀name,PySem.W.lookIn name od=some (mA name):=by
 obtain⟨o,c,k,j,hd,d,_,g⟩:=n;refine⟨o,j,λname=>?_⟩;have e:=g name;unfold nsFind findBy at e;rw[<-Array.find?_toList] at e;unfold PySem.W.lookIn;rw[hd];dsimp only
 split
 ·rename_i y q;rw[q] at e;exact congrArg some e
 ·rename_i q;rw[q] at e;have a:c.toList.any (·.refKey)=false:=by rw[List.any_eq_false];intro y i;obtain⟨z,t,b⟩:=d y (Array.mem_toList_iff.mp i);simp[DictEntry.refKey,b]
  have f:¬ c.toList.any (·.refKey)=true:=by rw[a];exact v5
  rw[if_neg f];exact congrArg some e
def aOe.look (I:aOe h x dx C mA):∃od,PySem.W.InstAt h x (PySem.W.instObj C dx) C (some od)/\∀name,PySem.W.lookIn name od=some (mA name):=
 let ⟨od,ho,hl⟩:=aRv I.ns
 ⟨od,⟨I.obj,rfl,rfl,ho⟩,hl⟩
section
variable {prog:Program}{w:World}{A:Around}{E:bF5}{s:Shared}{K:bF4}{x dx C f:Addr}{mA:bF7}{name:Str}{v:Value}
def aXb (X:K.In s.heap)(I:aOe s.heap x dx C mA)(e:PySem.W.plainGet K C name=true)(f:PySem.W.hasDictIn K C=true)
  (c:PySem.W.findIn K (.ref C) name=some none) (d:mA name=some v) (a:PySem.W.handedIn v=true) (h:Q v { s with toks:=s.toks+1 }) :
  wpAny (model prog w) A (getAttr (.ref x) name expr) Q E s:=by
 obtain⟨g,J,b⟩:=I.look;exact PySem.W.get_value X J (PySem.W.plainGet_of e).1 (PySem.W.findObj_own f c rfl (by rw[b,d])) a h
def aT1 (X:K.In s.heap)(I:aOe s.heap x dx C mA)(a:PySem.W.plainGet K C name=true)
  (e:PySem.W.findIn K (.ref C) name=some (some (.ref f))) (d:PySem.W.isFn K (.ref f)=true) (g:mA name=none) (h:Q (.ref f,[.ref x]) s) :
  wpAny (model prog w) A (getMethod (.ref x) name pl) Q E s:=by
 obtain⟨b,J,c⟩:=I.look;exact PySem.W.method_fn X J (PySem.W.plainGet_of a).1 (PySem.W.plainGet_of a).2 e (beq_iff_eq.mp d) (by show (PySem.W.lookIn name b).map (·.isSome)=some false;rw[c,g];rfl) h
def aXn (X:K.In s.heap)(I:aOe s.heap x dx C mA)
  (u:PySem.W.findIn K (.ref C) "__setattr__"=some (some (.builtin "object.__setattr__"))) (o:PySem.W.plainOver K C=true) (m:PySem.W.takerIn K C name=some none) (t:PySem.W.hasDictIn K C=true)
  (r:PySem.Within mA ns) (hsz:ns.length<=sizeLine)
  (h:∀h',aOe h' x dx C (λy=>if y=name then some v else mA y)->Heap.SameBut dx s.heap h'->Q () { s with heap:=h',toks:=s.toks+2 }) :
  wpAny (model prog w) A (setAttr (.ref x) name v) Q E s:=by
 obtain⟨q,J,z⟩:=I.look;refine PySem.W.set_plain X J u (PySem.W.osa_open X J o m λb=>?_);obtain⟨n,l,f⟩:=PySem.W.any_some t;have k:=I.obj;refine b7 (d7 (b7 (b7 (wpAny_loadPart k (b7 (PySem.W.Looks.here (PySem.W.looks_clsIn X l) ?_))))));rw[f];refine d7 (b7 (d7 (b7 ?_)));refine wpAny_nsSet1 I.ns λh' a c=>?_;obtain⟨p,j,i,g,d,e⟩:=a.count (PySem.Within.cons name v r);refine b7 (wpAny_lookBehind g (by rw[d];exact pastItsLine_dict (bAE e (by rw[m8];lia))) ?_);exact d7 (h _ ⟨(c.2 _ (Ne.symm I.ne)).trans I.obj,a,I.ne⟩ c)
def aUk (X:K.In s.heap)(c:PySem.W.makesIn K C=true)
  (hi:PySem.W.findIn K (.ref C) "__init__"=some (some (.ref f))) (e:PySem.W.typeIn K (.ref f)=some (.type "function"))
  (h:codeAny (model prog w) (A.under (.builtin "type.__call__" ⟨.ref C::vs,kw⟩)) (.call (.ref f) ⟨.ref (s.heap.objs.size+1)::vs,kw⟩) (PySem.W.InitBack (s.heap.objs.size+1) R)
   { s with heap:=(s.heap.push PySem.W.emptyDict).push (PySem.W.instObj C s.heap.objs.size) }) :
  codeAny (model prog w) A (.call (.ref C) ⟨vs,kw⟩) R s:=by
 obtain⟨i,g,d,t,b⟩:=s;exact PySem.W.make_core (PySem.W.makes_of X c) (PySem.W.looks_findIn X hi) (λa=>PySem.W.bind_fn X a e) (.inl rfl) h
end
def iG (f:Str)(v:V):List (Str × V)->List (Str × V)
 |[]=>[(f,v)]
 |(g,x)::r=>if g=f then (g,v)::r else (g,x)::iG f v r
theorem zR (f g:Str)(v:V):∀fs:List (Str × V),(iG f v fs).lookup g=if g=f then some v else fs.lookup g
 |[]=>by
  show List.lookup g [(f,v)]=_;by_cases h:g=f
  ·have a:(g == f)=true:=beq_iff_eq.mpr h;simp only[List.lookup,a,if_pos h]
  ·have a:=beq_eq_false_iff_ne.mpr h;simp only[List.lookup,a,if_neg h]
 |(k,x)::r=>by
  have c:=zR f g v r;rw[show iG f v ((k,x)::r)=(if k=f then (k,v)::r else (k,x)::iG f v r) from rfl];by_cases b:k=f
  ·rw[if_pos b];by_cases h:g=k
   ·have a:=beq_iff_eq.mpr h;simp only[List.lookup,a,if_pos (h.trans b)]
   ·have a:=beq_eq_false_iff_ne.mpr h;simp only[List.lookup,a,if_neg (λe:g=f=>h (e.trans b.symm))]
  ·rw[if_neg b];by_cases h:g=k
   ·have a:=beq_iff_eq.mpr h;simp only[List.lookup,a,if_neg (λe:g=f=>b (h.symm.trans e))]
   ·have a:=beq_eq_false_iff_ne.mpr h;simp only[List.lookup,a];exact c
theorem yF (f:Str)(v:V):∀fs:List (Str × V),f∈(iG f v fs).map (·.1)/\∀g,g∈fs.map (·.1)->g∈(iG f v fs).map (·.1)
 |[]=>⟨by simp[iG],λg h=>by simp at h⟩
 |(k,x)::r=>by
  obtain⟨c,b⟩:=yF f v r;rw[show iG f v ((k,x)::r)=(if k=f then (k,v)::r else (k,x)::iG f v r) from rfl];by_cases a:k=f
  ·rw[if_pos a];subst a;exact⟨by simp,λg h=>by simpa using h⟩
  ·rw[if_neg a];refine⟨?_,λg h=>?_⟩
   ·rw[bAL];exact j5 _ c
   ·rw[bAL] at h ⊢;rcases List.mem_cons.mp h with e|e
    ·exact List.mem_cons.mpr (.inl e)
    ·exact j5 _ (b g e)
theorem zN (f:Str)(v:V):∀fs:List (Str × V),(iG f v fs).length<=fs.length+1
 |[]=>by simp[iG]
 |(k,x)::r=>by
  have b:=zN f v r;rw[show iG f v ((k,x)::r)=(if k=f then (k,v)::r else (k,x)::iG f v r) from rfl];by_cases a:k=f
  ·rw[if_pos a,m8,m8];lia
  ·rw[if_neg a,m8,m8];lia
theorem lN.some_of (r:lN (some v) o):∃u,o=some u/\RelV v u:=by
 cases o with
 |none=>exact (show False from r).elim
 |some u=>exact⟨u,rfl,r⟩
theorem lN.none_of (r:lN none o):o=none:=by
 cases o with
 |none=>rfl
 |some u=>exact (show False from r).elim
theorem aQ9 (r:RelV v u):PySem.W.handedIn u=true:=by
 cases v with
 |non=>cases (show u=Value.none from r);rfl
 |bl b=>cases (show u=Value.bool b from r);rfl
 |int i=>obtain⟨t,e⟩:=(show ∃t,u=Value.int i t from r);cases e;rfl
 |str x=>obtain⟨t,e⟩:=(show ∃t,u=Value.str x t from r);cases e;rfl
 |byt b=>obtain⟨t,e⟩:=(show ∃t,u=Value.bytes b t from r);cases e;rfl
 |flt b=>obtain⟨t,e⟩:=(show ∃t,u=Value.float b t from r);cases e;rfl
 |ref a=>cases (show u=Value.ref a from r);rfl
 |ty n=>cases (show u=Value.type n from r);rfl
section
variable {P:Program}{w:World}{H H':Hp}{h h':Heap}{a C dx:Addr}{fs fs':List (Str × V)}
def aGp (g:HOk P w H h)(e:H a=some (.ins C dx fs)):∃mA,aOe h a dx C mA/\(∀f,lN (fs.lookup f) (mA f))/\PySem.Within mA (fs.map (·.1))/\fs.length<=1000/\H dx=some (.own a):=by obtain⟨d,z,c,b,mA,n,r,q⟩:=(show cV P w H h a (.ins C dx fs) from g a _ e);exact⟨mA,⟨b,n,c⟩,r,q,z,d⟩
end
structure Cls (K:bF4)(C:Addr):Prop where
 pg:PySem.W.plainGet K C Str.empty=true
 hd:PySem.W.hasDictIn K C=true
 po:PySem.W.plainOver K C=true
 sa:PySem.W.findIn K (.ref C) "__setattr__"=some (some (.builtin "object.__setattr__"))
def Cls.get {K:bF4}{C:Addr}(c:Cls K C)(f:Str):PySem.W.plainGet K C f=true:=c.pg
def bK (K:bF4)(C:Addr)(f:Str):Prop:=PySem.W.findIn K (.ref C) f=some none
def bK.taker {K:bF4}{C:Addr}{f:Str}(n:bK K C f):PySem.W.takerIn K C f=some none:=by unfold PySem.W.takerIn;rw[show PySem.W.findIn K (.ref C) f=some none from n];rfl
structure Meth (K:bF4)(C:Addr)(m:Str)(f:Addr):Prop where
 at_:PySem.W.findIn K (.ref C) m=some (some (.ref f))
 fn:PySem.W.isFn K (.ref f)=true
 kp:PySem.W.keepIn K (.ref f)=true
section
variable {X:Cx}{bF8:bF6}{σ:St}{H:Hp}{s:Shared}{a C dx:Addr}{fs:List (Str × V)}{f:Str}{v:V}{A:Around}{E:bF5}
def aNr (I:Inv X bF8 σ H s)(e:H a=some (.ins C dx fs))(c:Cls X.K C)(n:bK X.K C f)(l:fs.lookup f=some v)
  (h:∀u s',Inv X bF8 σ H s'->RelV v u->Q u s'):wpAny (model X.prog X.w) A (getAttr (.ref a) f b) Q E s:=by
 obtain⟨i,O,r,_,_,_⟩:=aGp I.hok e;obtain⟨u,g,d⟩:=lN.some_of (by rw[<-l];exact r f);exact aXb I.kIn O (c.get f) c.hd n g (aQ9 d) (h u _ (I.tok _) d)
def uK (I:Inv X bF8 σ H s)(e:H a=some (.ins C dx fs))(c:Cls X.K C)(k:Meth X.K C m g)(l:fs.lookup m=none)
  (h:Q (.ref g,[.ref a]) s):wpAny (model X.prog X.w) A (getMethod (.ref a) m pl) Q E s:=by
 obtain⟨d,O,r,_,_,_⟩:=aGp I.hok e;have b:=lN.none_of (by rw[<-l];exact r m);exact aT1 I.kIn O (c.get m) k.at_ k.fn b h
def aMl {y:V}{u:Value}{Q:Unit->Shared->Prop}(I:Inv X bF8 σ H s)(e:H a=some (.ins C dx fs))(c:Cls X.K C)(n:bK X.K C f)(hl:fs.length<1000)(B:RelV y u)
  (h:∀s',Inv X bF8 σ (upd H a (.ins C dx (iG f y fs))) s'->Q () s'):wpAny (model X.prog X.w) A (setAttr (.ref a) f u) Q E s:=by
 obtain⟨i,O,r,j,_,k⟩:=aGp I.hok e;have p:(fs.map (·.1)).length<=sizeLine:=by rw[j6,sizeLine_eq];lia
 refine aXn I.kIn O c.sa c.po n.taker c.hd j p λl d v=>h _ ?_;have hd:∃o,l.get? dx=some o:=let ⟨o,_,_,e',_⟩:=d.ns;⟨o,e'⟩
 refine I.write (x:=a) (e:=dx) (by rw[e];exact True.intro) (.inr k) (λb q m z=>(v.2 b m).trans z) hd ?_;refine⟨by rw[aK O.ne];exact k,?_,O.ne,d.obj,_,d.ns,λg=>?_,λg t=>?_⟩
 ·have:=zN f y fs;lia
 ·show lN ((iG f y fs).lookup g) (if g=f then some u else i g);rw[zR];by_cases q:g=f
  ·rw[if_pos q,if_pos q];exact B
  ·rw[if_neg q,if_neg q];exact r g
 ·by_cases q:g=f
  ·rw[q];exact (yF f y fs).1
  ·refine (yF f y fs).2 g (j g λz=>t ?_);show (if g=f then some u else i g)=none;rw[if_neg q];exact z
def Inv.made (I:Inv X bF8 σ H s):Inv X bF8 σ (upd (upd H s.heap.objs.size (.own (s.heap.objs.size+1))) (s.heap.objs.size+1) (.ins C s.heap.objs.size []))
  { s with heap:=(s.heap.push PySem.W.emptyDict).push (PySem.W.instObj C s.heap.objs.size) }:=by
 have c:(s.heap.push PySem.W.emptyDict).get? s.heap.objs.size=some PySem.W.emptyDict:=j8 s.heap rfl;have h:((s.heap.push PySem.W.emptyDict).push (PySem.W.instObj C s.heap.objs.size)).get? (s.heap.objs.size+1)=some (PySem.W.instObj C s.heap.objs.size):=by
  have:=j8 (s.heap.push PySem.W.emptyDict) (o:=PySem.W.instObj C s.heap.objs.size) rfl
  rwa [bBL] at this
 have f:(s.heap.push PySem.W.emptyDict).Ns s.heap.objs.size (λ_=>none):=⟨PySem.W.emptyDict,#[],_,c,rfl,(λe j=>absurd j (by simp)),λ_=>rfl⟩;have g:=I.laid (a:=s.heap.objs.size) (o:=.own (s.heap.objs.size+1)) (h':=s.heap.push PySem.W.emptyDict) (t':=s.toks) (λb u q=>c7 _ q) (d8 _) ⟨_,c⟩;refine g.laid (a:=s.heap.objs.size+1) (o:=.ins C s.heap.objs.size []) (t':=s.toks) (λb u q=>c7 _ q) (Nat.le_of_eq (bBL _ _)) ?_;have d:s.heap.objs.size≠s.heap.objs.size+1:=v8 (bCU _);refine⟨by rw[aK d,aF],bAC _,d,h,λ_=>none,(Heap.Ns1.of_empty f).at λo q=>c7 _ q,λ_=>True.intro,λy i=>absurd rfl i⟩
def aYl (a:attributeBase e f env (eval e env)=eval e env)
  (h:wpAny (model prog w) A (eval e env) (λo s₁=>wpAny (model prog w) A (getAttr o f true) Q E s₁) E s):wpAny (model prog w) A (eval (.Attribute e f pos) env) Q E s:=
 Attribute_any_ h (by rw[arm_eval_Attribute,a])
end
def bEk (K:bF4)(ta:TE)(f:Str):TE:=fun σ H Q=>ta σ H λx H1=>∃a C dx fs v,x=.ref a/\H1 a=some (.ins C dx fs)/\Cls K C/\bK K C f/\fs.lookup f=some v/\Q v H1
def bD2 (K:bF4)(ta tv:TE)(f:Str):TS:=λD σ H=>tv σ H λy H1=>ta σ H1 λx H2=>∃a C dx fs,x=.ref a/\H2 a=some (.ins C dx fs)/\Cls K C/\bK K C f/\fs.length<1000 /\
 D.nx σ (upd H2 a (.ins C dx (iG f y fs)))
section
variable {X:Cx}{o e value:Expr}{f:Str}{pos pos' tpos:Pos}{ta tv:TE}
def bCh (w:PE X e ta)(y:attributeBase e f X.env (eval e X.env)=eval e X.env):PE X (.Attribute e f pos) (bEk X.K ta f):=by intro b s σ H Q I h;refine aYl y (thn (w b s σ H _ I h) λu r ⟨x,m,g,j,a,C,t,A,v,o,d,c,n,l,q⟩=>?_);subst o;obtain rfl:u=Value.ref a:=j;exact aNr g d c n l λp z i k=>⟨v,m,i,k,q⟩
def bBo (w:PE X o ta)(J:PE X value tv)(E:swapsWith value (some (.Attribute o f pos')) pos.line X.env=pure false):PS X (.Assign [.Attribute o f pos'] value pos) (bD2 X.K ta tv f):=by intro b s σ H D I h;refine plainObj_wpAny_Assign_Attribute (thn (J b s σ H _ I h) λu e ⟨y,j,g,t,q⟩=>thn (w b e σ j _ g q) λm A ⟨x,B,p,i,a,C,z,F,v,k,c,n,l,d⟩=>?_) E;subst v;obtain rfl:m=Value.ref a:=i;exact aMl p k c n l t λG r=>⟨σ,_,r,d⟩
end
section
variable {X:Cx}{bF8:bF6}{σ:St}{H:Hp}{s:Shared}{A:Around}{E:bF5}{Q:bF5}{c:Value}{b:Bool}
end
structure Room (k:Nat)(A:Around):Prop where
 hd:A.handled=none
 dp:A.depth+3 * k+5<recursionLimit
 un:A.units+16 * k+200<cLine
def Room.mono (r:Room k A)(h:j<=k):Room j A:=⟨r.hd,by have:=r.dp;lia,by have:=r.un;lia⟩
theorem Room.deeper (r:Room (k+1) A)(env:Env):Room k (A.deeper env):=
 ⟨r.hd,by have:=r.dp;show A.depth+1+3 * k+5<_;lia,by have:=r.un;show A.units+3+16 * k+200<_;lia⟩
def aNt {A:Around}{C:Addr}{us:List Value}{kw:List (Str × Value)}:(A.under (.builtin "type.__call__" ⟨.ref C::us,kw⟩)).depth=A.depth+1:=by
 first|rfl|simp[Around.under,Code.weight,Code.isCreation,Code.isGuard,Code.isCaller,Code.frames,Code.isFrame,guardIds]
def aNo {A:Around}{C:Addr}{us:List Value}{kw:List (Str × Value)}:(A.under (.builtin "type.__call__" ⟨.ref C::us,kw⟩)).units=A.units+1:=by
 first|rfl|simp[Around.under,Code.cUnits,Code.frames,Code.isFrame]
def Room.make (r:Room (k+1) A)(C:Addr)(us:List Value)(kw:List (Str × Value)):Room k (A.under (.builtin "type.__call__" ⟨.ref C::us,kw⟩)):=
 ⟨r.hd,by have:=r.dp;rw[aNt];lia,by have:=r.un;rw[aNo];lia⟩
theorem Room.depth (r:Room k A):A.depth<recursionLimit:=by have:=r.dp;lia
theorem Room.units (r:Room k A):A.units+64<cLine:=by have:=r.un;lia
def aAq:TA:=λ_ H Q=>Q [] H
def dH (ta:TE)(tr:TA):TA:=fun σ H Q=>ta σ H λx H1=>tr σ H1 λxs H2=>Q (x::xs) H2
section
variable {X:Cx}{e:Expr}{es:List Expr}{te:TE}{t:TA}{pos:Pos}
def aS4:PA X [] aAq:=λ_ _ _ _ H Q I h=>bET ⟨[],H,I,.nil,h⟩
def aY9 (q:PE X e te)(p:PA X es t)(v:starEach (e::es) X.env=(false,eval e X.env)::starEach es X.env:=by rfl):PA X (e::es) (dH te t):=by intro b a s σ H Q I h;rw[v];show wpAny _ _ (spliced ((false,eval e X.env)::backTo b (starEach es X.env))) _ _ s;refine bBY (thn (q a s σ H _ I h) λu d ⟨x,n,f,l,i⟩=>?_);exact thn (p b a d σ n _ f i) λo r ⟨k,m,g,j,c⟩=>⟨x::k,m,g,.cons l j,c⟩
end
abbrev Sp:=List V->Hp->VK->XK->Prop
abbrev CXT:=List Env->Hp->Shared->XK->Value->Shared->Prop
structure aGe (P:Program)(w:World)(K:bF4)(mg:bF7)(base:Heap)(A:Around)(outer:List Env)(s:Shared)(H:Hp):Prop where
 frames:A.frames=some outer
 mod:Mod K mg base
 bs:∀b o,base.get? b=some o->s.heap.get? b=some o/\H b=none
 bsz:base.objs.size<=s.heap.objs.size
 funs:s.heap.FunFrames base outer
 frf:∀b∈frs outer,H b=none
 hok:HOk P w H s.heap
 bare:AllBare s.gens
def CE (outer:List Env)(P:Program)(w:World)(H:Hp)(s:Shared)(Q:VK)(u:Value)(s':Shared):Prop:=
 ∃v H',s'.os=s.os/\AllBare s'.gens/\Un (frs outer) [] H H' s.heap s'.heap/\HOk P w H' s'.heap/\RelV v u/\Q v H'
def CR (CX:CXT)(outer:List Env)(P:Program)(w:World)(H:Hp)(s:Shared)(Q:VK)(E:XK)(r:Result)(s':Shared):Prop:=
 match r with
 |.ok (.ret u)=>CE outer P w H s Q u s'
 |.ok _=>False
 |.error e=>CX outer H s E e s'
structure gK (P:Program)(w:World)(K:bF4)(mg:bF7)(base:Heap)(CX:CXT)(k:Nat)(f:Addr)(fd:FuncData)(ps:List Str)(sp:Sp):Prop where
 len:∀vs H Q E,sp vs H Q E->vs.length=ps.length
 run:∀(A:Around) (outer:List Env) (s:Shared) (H:Hp) (args:Args) (us:List Value) (vs:List V) (Q:VK) (E:XK),Room k A->aGe P w K mg base A outer s H->BindsTo s fd args (ps.zip us)->Vals vs us->sp vs H Q E ->
  codeAny (model P w) A (.call (.ref f) args) (CR CX outer P w H s Q E) s
theorem gK.mono {P:Program}{w:World}{K:bF4}{mg:bF7}{base:Heap}{CX:CXT}{j k:Nat}{f:Addr}{fd:FuncData}{ps:List Str}{sp:Sp}(F:gK P w K mg base CX j f fd ps sp)(h:j<=k) :
  gK P w K mg base CX k f fd ps sp:=⟨F.len,λA a s H b d c Q E e=>F.run A a s H b d c Q E (e.mono h)⟩
def aGe.make {P:Program}{w:World}{K:bF4}{mg:bF7}{base:Heap}{A:Around}{outer:List Env}{s:Shared}{H:Hp}(e:aGe P w K mg base A outer s H)(C:Addr)(us:List Value)(kw:List (Str × Value)) :
  aGe P w K mg base (A.under (.builtin "type.__call__" ⟨.ref C::us,kw⟩)) outer s H:=⟨by first|exact e.frames|(simpa [Around.under,Code.envs,Code.isFrame,pushEnvs] using e.frames),e.mod,e.bs,e.bsz,e.funs,e.frf,e.hok,e.bare⟩
section
variable {X:Cx}{bF8:bF6}{σ:St}{H:Hp}{s s':Shared}
def Inv.env0 (I:Inv X bF8 σ H s):aGe X.prog X.w X.K X.mg X.base X.A X.stack s H:=
 ⟨I.ok.frames,I.ok.mod,I.bs,bAE I.ok.bsz I.sz,I.stack,I.rC,I.hok,I.bare⟩
def Inv.after (I:Inv X bF8 σ H s)(h:CE X.stack X.prog X.w H s Q u s'):EP X bF8 σ Q u s':=by obtain⟨v,i,j,a,f,e,r,q⟩:=h;obtain⟨k,g,d,t,c⟩:=s';obtain rfl:c=s.os:=j;exact⟨v,i,I.call (h':=k) (g':=g) (d':=d) (t':=t) f e a (λb z=>absurd z (by simp)),r,q⟩
end
def aBc (sp:Sp)(dvs:List V)(E:XK)(t:TA):TE:=fun σ H Q=>t σ H λvs H1=>sp (vs++dvs) H1 Q E
def aI3 (C:Addr)(m:Str)(sp:Sp)(dvs:List V)(E:XK)(ta:TE)(t:TA):TE:=fun σ H Q=>ta σ H λx H1=>∃a dx fs,x=.ref a/\H1 a=some (.ins C dx fs)/\fs.lookup m=none /\
 t σ H1 λvs H2=>sp (x::(vs++dvs)) H2 Q E
def aZh (C:Addr)(sp:Sp)(dvs:List V)(E:XK)(t:TA):TE:=fun σ H Q=>t σ H λvs H1=>∀x dx,H1 x=none->H1 dx=none->dx≠x ->
 sp (.ref x::(vs++dvs)) (upd (upd H1 dx (.own x)) x (.ins C dx [])) (λv H2=>v=.non/\Q (.ref x) H2) E
def Binds (K:bF4)(fd:FuncData)(ps:List Str)(ds:List Value):Prop:=
 ∀s us,K.In s.heap->(us++ds).length=ps.length->BindsTo s fd ⟨us,[]⟩ (ps.zip (us++ds))
def Binds.all {K:bF4}{fd:FuncData}{ps:List Str}(h:∀us:List Value,us.length=ps.length->bindArgs fd ⟨us,[]⟩=pure (ps.zip us)):Binds K fd ps []:=λs us _ a=>by rw[bBB] at a ⊢;exact .of_eq (h us a)
def lM (CX:CXT)(X:Cx)(E:XK):Prop:=∀bF8 σ H s e s',Inv X bF8 σ H s->CX X.stack H s E e s'->X.xe e s'
section
variable {X:Cx}{CX:CXT}{k:Nat}{f C:Addr}{fd:FuncData}{ps:List Str}{sp:Sp}{dvs:List V}{ds:List Value}{E:XK}{x m:Str}{p pos apos:Pos}{e o:Expr}{es:List Expr}{ta:TE}{t:TA}
theorem aC1 (F:gK X.prog X.w X.K X.mg X.base CX k f fd ps sp)(g:Room k X.A)(i:Binds X.K fd ps ds)(hd:Vals dvs ds)(j:lM CX X E)
  (I:Inv X bF8 σ H s) (r:Vals vs us) (h:sp (vs++dvs) H Q E):wpAny (model X.prog X.w) X.A (call (.ref f) us) (EP X bF8 σ Q) X.xe s:=by
 have b:=r.append hd;have d:(us++ds).length=ps.length:=by rw[<-b.length];exact F.len _ _ _ _ h
 refine bDJ (bCN (F.run X.A X.stack s H ⟨us,[]⟩ (us++ds) (vs++dvs) Q E g I.env0 (i s us I.kIn d) b h) λr c a=>?_);cases r with
 |error e=>exact j bF8 σ H s e c I a
 |ok fl=>
  cases fl with
  |ret u=>exact I.after a
  |next=>exact False.elim a
  |brk=>exact False.elim a
  |cont=>exact False.elim a
def aWh (F:gK X.prog X.w X.K X.mg X.base CX k f fd ps sp)(j:Room k X.A)(v:Gl X x)(y:X.mg x=some (.ref f))(m:PySem.W.keepIn X.K (.ref f)=true)(u:Binds X.K fd ps ds)(hd:Vals dvs ds)(n:lM CX X E)
  (l:PA X (e::es) t) (d:(x == ("__debug__":Str))=false:=by decide) (B:starEach (e::es) X.env=(false,eval e X.env)::starEach es X.env:=by rfl) (c:(backTo pos (starEach es X.env)).any (·.1)=false:=by rfl) :
  PE X (.Call (.Name x p) (e::es) [] pos) (aBc sp dvs E t):=by
 intro a s σ H Q I h;refine bBK (oM I v y ?_ d);refine PySem.W.callWith_K (h₀:=X.base) I.ok.mod.kin m (thn (l pos a s σ H _ I h) λg i ⟨o,z,b,r,q⟩=>⟨b.kIn,?_⟩) B c;exact aC1 F j u hd n b r q
def aVd (F:gK X.prog X.w X.K X.mg X.base CX k f fd ps sp)(c:Room k X.A)(g:Gl X x)(i:X.mg x=some (.ref f))(d:PySem.W.keepIn X.K (.ref f)=true)(j:Binds X.K fd ps ds)(hd:Vals dvs ds)(e:lM CX X E)
  (b:(x == ("__debug__":Str))=false:=by decide):PE X (.Call (.Name x p) [] [] pos) (aBc sp dvs E aAq):=by
 intro a s σ H Q I h;refine bBK (oM I g i ?_ b);exact PySem.W.callWith_K0 I.kIn d (aC1 F c j hd e I .nil h)
def aXl {pl:Sem Bool}(S:PE X o ta)(c:Cls X.K C)(v:Meth X.K C m f)(F:gK X.prog X.w X.K X.mg X.base CX k f fd ps sp)(J:Room k X.A)(P:Binds X.K fd ps ds)(hd:Vals dvs ds)(T:lM CX X E)(L:PA X (e::es) t)
  (n:starEach (e::es) X.env=(false,eval e X.env)::starEach es X.env:=by rfl) (y:(backTo pos (starEach es X.env)).any (·.1)=false:=by rfl)
  (G:eval (.Call (.Attribute o m apos) (e::es) [] pos) X.env=(do
   let ov <-eval o X.env
   standAt apos.atName
   let (f,first) <-holding [ov] (getMethod ov m pl)
   callWith pos f first (backTo pos (starEach (e::es) X.env)) (backToKw pos (keywordEach [] X.env))):=by rfl) :
  PE X (.Call (.Attribute o m apos) (e::es) [] pos) (aI3 C m sp dvs E ta t):=by
 intro b s σ H Q I h;refine PySem.W.methodCall_KW (pl:=pl) (thn (S b s σ H _ I h) λu j ⟨x,B,d,p,a,M,R,D,z,l,q⟩=>?_) G;subst D;obtain rfl:u=Value.ref a:=p;refine uK d z c v l ?_;refine PySem.W.callWith_K (first:=[.ref a]) (h₀:=X.base) I.ok.mod.kin v.kp (thn (L pos b j σ B _ d q) λus N ⟨vs,O,g,r,i⟩=>⟨g.kIn,?_⟩) n y;exact aC1 (us:=.ref a::us) (vs:=.ref a::vs) F J P hd T g (.cons rfl r) i
def aTr {pl:Sem Bool}(y:PE X o ta)(c:Cls X.K C)(i:Meth X.K C m f)(F:gK X.prog X.w X.K X.mg X.base CX k f fd ps sp)(r:Room k X.A)(z:Binds X.K fd ps ds)(hd:Vals dvs ds)(v:lM CX X E)
  (n:eval (.Call (.Attribute o m apos) [] [] pos) X.env=(do
   let ov <-eval o X.env
   standAt apos.atName
   let (f,first) <-holding [ov] (getMethod ov m pl)
   callWith pos f first (backTo pos (starEach [] X.env)) (backToKw pos (keywordEach [] X.env))):=by rfl) :
  PE X (.Call (.Attribute o m apos) [] [] pos) (aI3 C m sp dvs E ta aAq):=by
 intro d s σ H Q I h;refine PySem.W.methodCall_KW (pl:=pl) (thn (y d s σ H _ I h) λu p ⟨x,B,b,g,a,t,D,j,e,l,q⟩=>?_) n;subst j;obtain rfl:u=Value.ref a:=g;refine uK b e c i l ?_;exact PySem.W.callWith_K0 (first:=[.ref a]) b.kIn i.kp (aC1 (us:=[.ref a]) (vs:=[.ref a]) F r z hd v b (.cons rfl .nil) q)
structure Mk (K:bF4)(C f:Addr):Prop where
 makes:PySem.W.makesIn K C=true
 init:PySem.W.findIn K (.ref C) "__init__"=some (some (.ref f))
 fn:PySem.W.isFn K (.ref f)=true
 kp:PySem.W.keepIn K (.ref C)=true
theorem aS9 {i:bF6}{σ:St}{H:Hp}{s:Shared}{Q:VK}{us:List Value}{vs:List V}(M:Mk X.K C f)(F:gK X.prog X.w X.K X.mg X.base CX k f fd ps sp)(q:Room (k+1) X.A)(y:Binds X.K fd ps ds)(hd:Vals dvs ds)
  (t:lM CX X E) (I:Inv X i σ H s) (r:Vals vs us)
  (h:∀x dx,H x=none->H dx=none->dx≠x->sp (.ref x::(vs++dvs)) (upd (upd H dx (.own x)) x (.ins C dx [])) (λv H2=>v=.non/\Q (.ref x) H2) E) :
  wpAny (model X.prog X.w) X.A (call (.ref C) us) (EP X i σ Q) X.xe s:=by
 have c:=h (s.heap.objs.size+1) s.heap.objs.size (I.hok.fresh (bCR _)) (I.hok.fresh (d8 _)) (v8 (bCU _));have b:=Inv.made (C:=C) I;have d:Vals (V.ref (s.heap.objs.size+1)::(vs++dvs)) (Value.ref (s.heap.objs.size+1)::(us++ds)):=.cons rfl (r.append hd);have p:(Value.ref (s.heap.objs.size+1)::us++ds).length=ps.length:=by have e:=d.length;rw[F.len _ _ _ _ c] at e;exact e.symm
 refine bDJ (aUk (f:=f) I.kIn M.makes M.init (beq_iff_eq.mp M.fn) (bCN (F.run _ X.stack _ _ ⟨Value.ref (s.heap.objs.size+1)::us,[]⟩ (Value.ref (s.heap.objs.size+1)::(us++ds)) _ _ E (q.make C us [])
  (b.env0.make C us []) (y _ (Value.ref (s.heap.objs.size+1)::us) b.kIn p) d c) λr j a=>?_))
 cases r with
 |error e=>exact t i σ _ _ e j b a
 |ok fl=>
  cases fl with
  |ret u=>obtain⟨v,g,m,n,o,l⟩:=b.after a;subst o;exact⟨n,⟨V.ref (s.heap.objs.size+1),g,m,rfl,l⟩⟩
  |next=>exact False.elim a
  |brk=>exact False.elim a
  |cont=>exact False.elim a
def aY1 (M:Mk X.K C f)(F:gK X.prog X.w X.K X.mg X.base CX k f fd ps sp)(j:Room (k+1) X.A)(u:Gl X x)(v:X.mg x=some (.ref C))(o:Binds X.K fd ps ds)(hd:Vals dvs ds)(m:lM CX X E)
  (l:PA X (e::es) t) (d:(x == ("__debug__":Str))=false:=by decide) (z:starEach (e::es) X.env=(false,eval e X.env)::starEach es X.env:=by rfl) (c:(backTo pos (starEach es X.env)).any (·.1)=false:=by rfl) :
  PE X (.Call (.Name x p) (e::es) [] pos) (aZh C sp dvs E t):=by
 intro a s σ H Q I h;refine bBK (oM I u v ?_ d);refine PySem.W.callWith_K (h₀:=X.base) I.ok.mod.kin M.kp (thn (l pos a s σ H _ I h) λg i ⟨n,y,b,r,q⟩=>⟨b.kIn,?_⟩) z c;exact aS9 M F j o hd m b r q
end
section
variable {X:Cx}{CX:CXT}{k:Nat}{f C:Addr}{fd:FuncData}{ps ks:List Str}{sp:Sp}{E:XK}{x m:Str}{p pos apos kpos:Pos}{e o:Expr}{es:List Expr}{kws:List Keyword}{te ta:TE}{t tk:TA}{nm:Option Str}
variable {g:List Value->List Value->List Value}{gV:List V->List V->List V}
end
structure aG (N P:List Str)(sc:Scope):Prop where
 kind:sc.kind=.function
 co:sc.isCoroutine=false
 gen:sc.isGenerator=false
 nd:N.Nodup
 pre:N.take P.length=P
 par:∀x∈P,sc.names.lookup x=some .local\/sc.names.lookup x=some .cell
 nofree:∀y∈sc.names,y.2≠.free
theorem aFb {kindOf:Str->Option NameKind}{x:Str}:∀{binds:List (Str × Value)} {m:bF7},(∀v,(x,v)∉binds)->bindL kindOf binds m x=m x
 |[],_,_=>rfl
 |(n,v)::r,m,h=>by
  unfold bindL;rw[aFb λw a=>h w (j5 _ a)]
  split
  ·have:x≠n:=by rintro rfl;exact h v j0
   simp[this]
  ·rfl
theorem aFk {kindOf:Str->Option NameKind}{x:Str}:∀{binds:List (Str × Value)} {m:bF7},(∀v,(x,v)∉binds)->bindC kindOf binds m x=m x
 |[],_,_=>rfl
 |(n,v)::r,m,h=>by
  unfold bindC;rw[aFk λw a=>h w (j5 _ a)]
  split
  ·rfl
  ·have:x≠n:=by rintro rfl;exact h v j0
   simp[this]
theorem aEy {a:Str->Option NameKind}{x:Str}{v:Value}:∀{P:List Str} {vs:List Value} {i:Nat} {m:bF7},P.Nodup->P[i]?=some x->vs[i]?=some v->a x=some .local ->
  bindL a (P.zip vs) m x=some v
 |[],_,_,_,_,h,_,_=>by simp at h
 |_::_,[],_,_,_,_,h,_=>by simp at h
 |p::P,w::vs,0,m,nd,h1,h2,hk=>by simp at h1 h2;subst h1;subst h2;show bindL a ((p,w)::P.zip vs) m p=_;unfold bindL;rw[aFb λv b=>(List.nodup_cons.mp nd).1 (List.of_mem_zip b).1,if_pos hk];simp
 |p::P,w::vs,i+1,m,nd,h1,h2,hk=>by show bindL a ((p,w)::P.zip vs) m x=_;unfold bindL;exact aEy (i:=i) (List.nodup_cons.mp nd).2 (by simpa using h1) (by simpa using h2) hk
theorem aFm {a:Str->Option NameKind}{x:Str}{v:Value}:∀{P:List Str} {vs:List Value} {i:Nat} {m:bF7},P.Nodup->P[i]?=some x->vs[i]?=some v->a x≠some .local ->
  bindC a (P.zip vs) m x=some v
 |[],_,_,_,_,h,_,_=>by simp at h
 |_::_,[],_,_,_,_,h,_=>by simp at h
 |p::P,w::vs,0,m,nd,h1,h2,hk=>by simp at h1 h2;subst h1;subst h2;show bindC a ((p,w)::P.zip vs) m p=_;unfold bindC;rw[aFk λv b=>(List.nodup_cons.mp nd).1 (List.of_mem_zip b).1,if_neg hk];simp
 |p::P,w::vs,i+1,m,nd,h1,h2,hk=>by show bindC a ((p,w)::P.zip vs) m x=_;unfold bindC;exact aFm (i:=i) (List.nodup_cons.mp nd).2 (by simpa using h1) (by simpa using h2) hk
def start (N:List Str)(vs:List V):St:=vs.map some++List.replicate (N.length - vs.length) none
def wY (CX:CXT)(P:Program)(w:World)(K:bF4)(mg:bF7)(base:Heap)(N:List Str)(qual:Str)(scope:Scope)(f:Addr)(cd:Value)(A:Around)(outer:List Env)(s:Shared)(H:Hp)(E:XK):Cx where
 prog:=P
 w:=w
 K:=K
 mg:=mg
 base:=base
 A:=A.deeper (envOfC qual scope s.heap.objs.size f cd)
 N:=N
 s₀:=s
 H₀:=H
 env:=envOfC qual scope s.heap.objs.size f cd
 outer:=outer
 stack:=envOfC qual scope s.heap.objs.size f cd::outer
 ex:=[]
 calm:=true
 fn:=λ_=>true
 pn:=[]
 xe:=λe s'=>wpAny (model P w) (A.deeper (envOfC qual scope s.heap.objs.size f cd)) (leaving (envOfC qual scope s.heap.objs.size f cd) e) (λ_ s''=>CX outer H s E e s'') (λe' s''=>CX outer H s E e' s'') s'
def aJs {a:Scope}{n:Nat}{x:Str}(h:a.names.lookup x=some .cell):∃c,(cellsFrom n a.names []).lookup x=some c:=by have q:=PySem.W.cellsFrom_some a.names n [] (.inl h);exact Option.isSome_iff_exists.mp q
def aQ1 {CX:CXT}{P:Program}{w:World}{K:bF4}{mg:bF7}{base:Heap}{N B:List Str}{D:Str}{scope:Scope}{f:Addr}{M:Value}{A:Around}{outer:List Env}{s s1:Shared}{H:Hp}{E:XK}{us:List Value}{vs:List V}
  (S:aG N B scope) (hd:A.handled=none) (g:aGe P w K mg base A outer s H) (hl:vs.length=B.length) (r:Vals vs us)
  (x:InCallC s s.heap.objs.size (bindL (envOfC D scope s.heap.objs.size f M).kindOf (B.zip us) λ_=>none) (cellsFrom (s.heap.objs.size+1) scope.names []) (bindC (envOfC D scope s.heap.objs.size f M).kindOf (B.zip us) λ_=>none) s1) :
  Inv (wY CX P w K mg base N D scope f M A outer s H E) [] (start N vs) H s1:=by
 have J:B.length<=N.length:=by have:=congrArg List.length S.pre;rw[bAI] at this;lia
 obtain⟨t,L,rfl,C⟩:=x.done;have j:∀b:Addr,b∉(wY CX P w K mg base N D scope f M A outer s H E).ex:=λb z=>absurd (show b∈([]:List Addr) from z) (by simp);refine⟨⟨g.mod,S.kind,rfl,rfl,d8 _,λy z c t d=>?_,λy hy=>?_,λy c _ h=>?_,λ_=>hd,Around.frames_deeper g.frames,.inr ⟨rfl,rfl⟩,λb z=>absurd z (j b),g.bs,g.bsz,λb _ _=>j b,λb z=>absurd z (j b),g.funs,g.frf⟩,
  rfl,g.bare,Un.kept C,⟨_,x.toInCall.ns,λi y v t d O=>?_⟩,λy c h=>⟨_,x.cell y c h⟩,g.hok.fresh (d8 _),λy c h=>?_,λp l=>absurd (show p∈([]:bF6) from l) (by simp),g.hok.kept C,?_⟩
 ·exact name_of_addr x.apart (PySem.mem_of_lookup t) (PySem.mem_of_lookup d)
 ·have hy:scope.names.lookup y=some .cell\/scope.names.lookup y=some .free:=hy;rcases hy with hy|hy
  ·exact aJs hy
  ·exact absurd rfl (S.nofree _ (PySem.mem_of_lookup hy))
 ·exact bDI (x.above y c (PySem.mem_of_lookup h))
 ·have o:i<vs.length:=by
   unfold start at d;by_cases o:i<vs.length
   ·exact o
   ·rw[bBG (by simpa using o)] at d;rw[List.getElem?_replicate] at d
    split at d <;> cases d
  have G:vs[i]?=some v:=by
   unfold start at d;rw[bBJ (by simpa using o),v7] at d;cases e:vs[i]? with
   |none=>rw[e] at d;cases d
   |some a=>rw[e] at d;cases d;rfl
  obtain⟨u,F,I⟩:=r.get G;have l:B[i]?=some y:=by rw[<-S.pre,List.getElem?_take_of_lt (by lia)];exact t
  have m:B.Nodup:=by rw[<-S.pre];exact S.nd.sublist (List.take_sublist _ _)
  refine⟨u,I,?_⟩;rcases S.par y (t8 l) with k|k
  ·exact .inl ⟨k,aEy m l F k⟩
  ·obtain⟨c,e⟩:=aJs (n:=s.heap.objs.size+1) k;refine .inr ⟨.inl k,c,e,?_⟩;have q:=x.cell y c e;rw[aFm m l F (by show scope.names.lookup y≠_;rw[k];decide)] at q;exact q
 ·exact g.hok.fresh (bDI (x.above y c (PySem.mem_of_lookup h)))
 ·unfold start;show _=N.length;rw[w6,j6,bDP];lia
theorem aUn {CX:CXT}{P:Program}{w:World}{K:bF4}{mg:bF7}{base:Heap}{k:Nat}{f:Addr}{name i:Str}{params:Arguments}{body:List Stmt}{scope:Scope}{dV kV doc pm m ct oc:Value}{an od:Option Addr}
  {osl:Array (Option Value)} {N ps:List Str} {sp:Sp} (lk:K.lookup f=some ⟨oc,od,.func (PySem.W.fnOf name i params body scope dV kV doc pm an m ct),osl⟩) (a0:PySem.W.codeIn K m i=true) (S:aG N ps scope)
  (B:∀vs H Q E,sp vs H Q E->vs.length=ps.length)
  (D:∀(A:Around) (outer:List Env) (s:Shared) (H:Hp) (vs:List V) (Q:VK) (E:XK),Room k (A.deeper (envOfC i scope s.heap.objs.size f m))->sp vs H Q E ->
   ∃t,PSs (wY CX P w K mg base N i scope f m A outer s H E) body t/\t { nx:=λ_ H'=>Q .non H',rt:=Q } (start N vs) H) :
  gK P w K mg base CX (k+1) f (PySem.W.fnOf name i params body scope dV kV doc pm an m ct) ps sp:=by
 refine⟨B,λA outer s H L R vs Q E l d U r h=>?_⟩;have Y:=B _ _ _ _ h;have G:K.In s.heap:=d.mod.kin.keeps λb o e=>(d.bs b o e).1;have z:s.heap.NoLimit:=d.mod.nolimit.keeps λb o e=>(d.bs b o e).1;have a:∀y∈ps.zip R,scope.names.lookup y.1=some .local\/(scope.names.lookup y.1=some .cell/\((cellsFrom (s.heap.objs.size+1) scope.names []).lookup y.1).isSome=true):=λ⟨n,v⟩ hy=>by
  rcases S.par n (List.of_mem_zip hy).1 with q|q
  ·exact .inl q
  ·exact .inr ⟨q,PySem.W.cellsFrom_some _ _ _ (.inl q)⟩
 refine codeAny_call_function l.depth (G _ _ lk) rfl S.co S.gen rfl (PySem.W.codeRec_of G a0) (U _ _ _ _ ?_);refine wpAny_newFunctionEnv_cells S.kind a λT X F x=>?_;subst X;refine⟨z.keeps x.toInCall.keep,codeAny_func ?_⟩;obtain⟨t,M,O⟩:=D A outer s H vs Q E (l.deeper _) h;have I:Inv (wY CX P w K mg base N i scope f m A outer s H E) [] (start N vs) H F:=aQ1 S l.hd d Y r x;refine bAX (M [] F (start N vs) H _ I O) (λZ p c=>?_) λe p c=>c;have g:∀{j:St} {H':Hp} {v:V} {u:Value},Inv (wY CX P w K mg base N i scope f m A outer s H E) [] j H' p->RelV v u->Q v H'->CE outer P w H s Q u p:=
  λ{j H' v u} J C q=>⟨v,H',J.os,J.bare,J.base,J.hok,C,q⟩
 cases Z with
 |ret u=>obtain⟨v,j,H',J,C,q⟩:=c;exact g J C q
 |next=>obtain⟨j,H',J,q⟩:=c;exact g (v:=V.non) (u:=Value.none) J rfl q
 |brk=>obtain⟨_,_,_,q⟩:=c;exact False.elim q
 |cont=>obtain⟨_,_,_,q⟩:=c;exact False.elim q
section
variable {X:Cx}{x:Str}{p pos:Pos}{e:Expr}{es:List Expr}{t:TA}{id T:String}{r:List V->Hp->VK->Prop}
def tCB (r:List V->Hp->VK->Prop)(t:TA):TE:=fun σ H Q=>t σ H λvs H1=>r vs H1 Q
def aUw (u:cH X (.builtin id) r)(q:Gl X x)(v:X.mg x=none)(o:bootBuiltins x=some (.builtin id))(m:PA X (e::es) t)(n:x≠"__name__":=by decide)(k:(x == ("__debug__":Str))=false:=by decide)
  (w:starEach (e::es) X.env=(false,eval e X.env)::starEach es X.env:=by rfl) (b:(backTo pos (starEach es X.env)).any (·.1)=false:=by rfl):PE X (.Call (.Name x p) (e::es) [] pos) (tCB r t):=by
 intro a s σ H Q I h;refine bBK (qZ I q v o ?_ n k);exact bFG (thn (m pos a s σ H _ I h) λc d ⟨i,l,f,j,g⟩=>u a d σ l i c Q f j g) w b
def aRf (u:cH X (.type T) r)(q:Gl X x)(v:X.mg x=none)(o:bootBuiltins x=some (.type T))(m:PA X (e::es) t)(n:x≠"__name__":=by decide)(k:(x == ("__debug__":Str))=false:=by decide)
  (w:starEach (e::es) X.env=(false,eval e X.env)::starEach es X.env:=by rfl) (b:(backTo pos (starEach es X.env)).any (·.1)=false:=by rfl):PE X (.Call (.Name x p) (e::es) [] pos) (tCB r t):=by
 intro a s σ H Q I h;refine bBK (qZ I q v o ?_ n k);exact bCB (thn (m pos a s σ H _ I h) λc d ⟨i,l,f,j,g⟩=>u a d σ l i c Q f j g) w b
end
end L2
namespace HT
open PySem PyProof.Rows
section
open PySem.SeqAt
open PySem.AutoSeq1 (wpAny_loadPart')
open PySem.MeetsSeq PySem.MeetsSeq2 PySem.MeetsSeq3
end
section
variable {prog:Program}{w:World}{A:Around}{E:bF5}{s:Shared}
def aYi (u:IsTup s.heap t vs.toArray)(y:IsTup s.heap b ws.toArray)(q:vs≠[])
  (x:ws=[]->Q (.ref t) s) (v:ws≠[]->Q (.ref s.heap.objs.size) { s with heap:=s.heap.push { cls:=.type "tuple",data:=.seq (vs++ws).toArray } })
  (r:vs.length+ws.length<=sizeLine):wpAny (model prog w) A (binaryOp .Add (.ref t) (.ref b)) Q E s:=by
 obtain⟨⟨cls,m,data,k⟩,i,o,n,hd⟩:=id u;obtain⟨⟨l,g,j,d⟩,a,f,p,c⟩:=id y;simp only at o hd f c;subst o hd f c;have e:vs.toArray++ws.toArray=(vs++ws).toArray:=by simp
 by_cases h:ws=[]
 ·exact concat_meets ⟨_,i,rfl⟩ ⟨_,a,rfl⟩ noFill_tuple_add seq_tuple_add PySem.F.slot_tuple_add PySem.F.entry_tuple_add (PySem.F.args_tuple_add_2 _ _)
   (tuple_addW1 t b vs.toArray ws.toArray n p m g k d (by simpa using q) (by simp[h])) ⟨i,a,x h⟩
 ·refine concat_meets ⟨_,i,rfl⟩ ⟨_,a,rfl⟩ noFill_tuple_add seq_tuple_add PySem.F.slot_tuple_add PySem.F.entry_tuple_add (PySem.F.args_tuple_add_2 _ _)
   (tuple_addW2 t b vs.toArray ws.toArray n p m g k d (by simpa using q) (by simpa using h) (by rw[d9,d9];exact r)) ⟨i,a,?_⟩
  rw[e];exact v h
def sIx (n d:Nat):Option Int->Nat
 |none=>d
 |some v=>if v<0 then (v+(n:Int)).toNat else min v.toNat n
def aKt (n d:Nat):sIx n d none=d:=rfl
def aPo (n d k:Nat):sIx n d (some (k:Int))=min k n:=by show (if (k:Int)<0 then ((k:Int)+(n:Int)).toNat else min (k:Int).toNat n)=min k n;rw[if_neg (by lia),bAQ]
theorem bAq (n d:Nat)(hd:d<=n)(o:Option Int):sIx n d o<=n:=by
 cases o with
 |none=>exact hd
 |some v=>
  show (if v<0 then (v+(n:Int)).toNat else min v.toNat n)<=n;by_cases a:v<0
  ·rw[if_pos a];lia
  ·rw[if_neg a];exact Nat.min_le_right _ _
def aO2 (v:Int)(n d:Nat):(if v<0 then max (v+(n:Int)) 0 else min v (n:Int))=((sIx n d (some v):Nat):Int):=by
 show (if v<0 then max (v+(n:Int)) 0 else min v (n:Int))=(((if v<0 then (v+(n:Int)).toNat else min v.toNat n):Nat):Int);by_cases a:v<0
 ·simp only[if_pos a];lia
 ·simp only[if_neg a];lia
def aNh (lo hi:Option Int)(n:Nat):Builtin.Slice.sliceAdjust lo hi 1 (n:Int)=(((sIx n 0 lo:Nat):Int),((sIx n n hi:Nat):Int)):=by
 have a:¬ ((1:Int)<0):=by lia
 unfold Builtin.Slice.sliceAdjust;simp only[a,if_false];refine Prod.ext ?_ ?_
 ·cases lo with
  |none=>rfl
  |some v=>exact aO2 v n 0
 ·cases hi with
  |none=>rfl
  |some v=>exact aO2 v n n
def aN8 (i j:Nat):Builtin.Slice.slicePlaces (i:Int) (j:Int) 1=j - i:=by
 unfold Builtin.Slice.slicePlaces;have a:(1:Int) > 0:=by lia
 simp only[a,if_true,Int.ediv_one]
 split <;> lia
theorem aCm (p:IsPart v o)(h:Q o s):wpAny (model prog w) A (Builtin.Slice.slicePartIndex v) Q E s:=by
 cases p with
 |none=>exact slicePart_none h
 |int i t=>exact slicePart_int h
def mR {sl:Addr}{e d:Value}{lo hi:Option Int}{n:Nat}{Q:Int × Int × Nat->Shared->Prop}(i:s.heap.IsSliceOf sl e d .none)(pl:IsPart e lo)(f:IsPart d hi)
  (h:Q (((sIx n 0 lo:Nat):Int),1,sIx n n hi - sIx n 0 lo) s):wpAny (model prog w) A (Builtin.Slice.sliceApplied (.ref sl) (pure (n:Int))) Q E s:=by
 obtain⟨g,b,c,a⟩:=id i;unfold Builtin.Slice.sliceApplied Builtin.Slice.sliceFields;refine b7 (b7 (bAJ b a (x:=e) rfl (b7 (bAJ b a (x:=d) rfl (b7 (bAJ b a (x:=.none) rfl (d7 ?_)))))));refine b7 (slicePart_none ?_);show wpAny _ _ (if ((1:Int) == 0)=true then _ else _) _ _ s;rw[if_neg (by decide)];refine b7 (aCm pl (b7 (aCm f (b7 (d7 ?_)))));show wpAny _ _ (match Builtin.Slice.sliceAdjust lo hi 1 (n:Int) with|(lo,hi)=>pure (lo,(1:Int),Builtin.Slice.slicePlaces lo hi 1)) _ _ s;rw[aNh lo hi n];show wpAny _ _ (pure (((sIx n 0 lo:Nat):Int),(1:Int),Builtin.Slice.slicePlaces ((sIx n 0 lo:Nat):Int) ((sIx n n hi:Nat):Int) 1)) _ _ s;rw[aN8];exact d7 h
def aTv (xs:Array Value)(i k:Nat):((List.range k).filterMap λ(m:Nat)=>xs[((i:Int)+(m:Int) * 1).toNat]?).toArray=((xs.toList.drop i).take k).toArray:=by
 have e:(λ(m:Nat)=>xs[((i:Int)+(m:Int) * 1).toNat]?)=λm=>xs[i+m]?:=by
  funext m;have:((i:Int)+(m:Int) * 1).toNat=i+m:=by lia
  rw[this]
 rw[e];have:=pick_run xs i k;rw[bEK] at this;have a:((λx=>xs[x]?) ∘ λx=>i+x)=λm=>xs[i+m]?:=rfl;rw[a] at this;rw[this]
def wV {t n:Addr}{a:Array Value}{vl vu:Value}{lo hi:Option Int}{Q:bF5}(c:IsTup s.heap t a)(k:s.heap.IsSliceOf n vl vu .none)(pl:IsPart vl lo)(u:IsPart vu hi)
  (r:¬ (sIx a.size 0 lo=0/\sIx a.size a.size hi=a.size))
  (h:Q (.ref s.heap.objs.size) { s with heap:=s.heap.push { cls:=.type "tuple",data:=.seq ((a.toList.drop (sIx a.size 0 lo)).take (sIx a.size a.size hi - sIx a.size 0 lo)).toArray } })
  (hsz:a.size<=sizeLine):wpAny (model prog w) A (getItem (.ref t) (.ref n)) Q E s:=by
 have b:sizeOk (.seq ((a.toList.drop (sIx a.size 0 lo)).take (sIx a.size a.size hi - sIx a.size 0 lo)).toArray):=by show ((a.toList.drop (sIx a.size 0 lo)).take (sIx a.size a.size hi - sIx a.size 0 lo)).toArray.size<=sizeLine;rw[d9,bAI,bBT,v4];lia
 have o:sIx a.size a.size hi<=a.size:=bAq _ _ (d8 _) hi;obtain⟨j,g,f,i⟩:=id k;have e:s.TypeIs (.ref n) "slice":=⟨j,g,f⟩;unfold getItem
 try with_reducible refine bAR ?_
 first|refine b7 (d7 ?_)|skip
 refine b7 (wpAny_sequenceKey c.typeIs (by decide) ?_);refine b7 (bAG (name:=Str.ofString "__getitem__") c.typeIs bCI
  (bAD bCI c.typeIs entry_tuple_getitem ?_ (args_tuple_getitem _ _)))
 show wpAny _ _ (Builtin.Tuple.tupleItemsOf (.ref t) >>= _) _ _ s;refine b7 (tupleItemsOf_ c ?_);refine b7 (bEU e ?_);rw[if_pos (by decide)];refine b7 (mR k pl u ?_);have d:¬ ((((sIx a.size 0 lo:Nat):Int) == 0 && (1:Int) == 1 && (sIx a.size a.size hi - sIx a.size 0 lo) == a.size)=true):=by intro q;rw[bAS,bAS] at q;have p:((sIx a.size 0 lo:Nat):Int)=0:=eq_of_beq q.1.1;have l:sIx a.size a.size hi - sIx a.size 0 lo=a.size:=eq_of_beq q.2;exact r ⟨by lia,by lia⟩
 show wpAny _ _ (if (((sIx a.size 0 lo:Nat):Int) == 0 && (1:Int) == 1 && (sIx a.size a.size hi - sIx a.size 0 lo) == a.size)=true then _ else _) _ _ s;rw[if_neg d,aTv];first
  |exact b7 (m:=Builtin.Tuple.tupleExact _) (bAF (d7 ⟨_,rfl,d7 h⟩) b)
  |exact b7 (m:=Builtin.Tuple.tupleExact _) (bAF (b7 (d7 (d7 ⟨_,rfl,d7 h⟩))) b)
  |exact b7 (b7 (m:=Builtin.Tuple.tupleExact _) (bAF (d7 (d7 ⟨_,rfl,d7 h⟩)) b))
  |exact b7 (b7 (m:=Builtin.Tuple.tupleExact _) (bAF (d7 ⟨_,rfl,d7 h⟩) b))
end
end HT
namespace L2
open PySem PySem.Spec PyProof.Rows
abbrev TO:=St->Hp->(Option Int->Hp->Prop)->Prop
def PO (X:Cx)(e:Option Expr)(t:TO):Prop:=
 ∀bF8 s σ H Q,Inv X bF8 σ H s->t σ H Q ->
  wpAny (model X.prog X.w) X.A (evalPart e X.env) (λu s'=>∃o H',Inv X bF8 σ H' s'/\IsPart u o/\Q o H') X.xe s
def aOx:TO:=λ_ H Q=>Q none H
def aZf (t:TE):TO:=fun σ H Q=>t σ H λx H1=>∃i,x=.int i/\Q (some i) H1
section
variable {X:Cx}{e:Expr}{te:TE}{lo hi:Option Expr}{tl th:TO}{pos p2:Pos}
def aYq:PO X none aOx:=by intro a s σ H Q I h;rw[evalPart_none];exact d7 ⟨none,H,I,.none,h⟩
def aZb (h:PE X e te):PO X (some e) (aZf te):=by intro a s σ H Q I d;rw[evalPart_some];refine thn (h a s σ H _ I d) λu j ⟨x,g,b,f,c⟩=>?_;obtain⟨i,rfl,q⟩:=c;obtain⟨t,rfl⟩:=f;exact⟨some i,g,b,.int i t,q⟩
def SlR (X:Cx)(r:V->Option Int->Option Int->Hp->VK->Prop):Prop:=
 ∀bF8 s σ H x v vl vu lo hi sl Q,Inv X bF8 σ H s->RelV x v->s.heap.IsSliceOf sl vl vu .none->IsPart vl lo->IsPart vu hi->r x lo hi H Q ->
  ∃T id,typeLookup (.type T) "__getitem__"=pure (some (.builtin id))/\s.TypeIs v T/\wpAny (model X.prog X.w) X.A (getItem v (.ref sl)) (EP X bF8 σ Q) X.xe s
def tSl (r:V->Option Int->Option Int->Hp->VK->Prop)(te:TE)(tl th:TO):TE:=fun σ H Q=>te σ H λx H1=>tl σ H1 λl H2=>th σ H2 λu H3=>r x l u H3 Q
def aU3 {r:V->Option Int->Option Int->Hp->VK->Prop}(K:SlR X r)(L:PE X e te)(M:PO X lo tl)(O:PO X hi th):PE X (.Subscript e (.Slice lo hi none p2) pos) (tSl r te tl th):=by intro a s σ H Q I h;refine Subscript_ (thn (L a s σ H _ I h) λv k ⟨x,G,m,E,o⟩=>?_);refine wpAny_Slice (thn (M a k σ G _ m o) λd t ⟨l,z,B,p,j⟩=>thn (O a t σ z _ B j) λf c ⟨u,g,F,D,C⟩=>?_);rw[evalPart_none];refine d7 ?_;have J:Inv X a σ g { c with heap:=c.heap.push { cls:=.type "slice",data:=.fields #[d,f,.none] } }:=F.kept (t':=c.toks) λb N q=>c7 _ q;obtain⟨T,P,n,i,y⟩:=K a { c with heap:=c.heap.push { cls:=.type "slice",data:=.fields #[d,f,.none] } } σ g x v d f l u c.heap.objs.size Q J E (Heap.IsSliceOf.new ..) p D C;show wpAny (model X.prog X.w) X.A (subscriptTail e (.Slice lo hi none p2) v (.ref c.heap.objs.size)) (EP X a σ Q) X.xe { c with heap:=c.heap.push { cls:=.type "slice",data:=.fields #[d,f,.none] } };exact tail_any (ops:=[.ref c.heap.objs.size,v]) i n y (by with_unfolding_all rfl)
def mY (xs:List V)(lo hi:Option Int):List V:=(xs.drop (HT.sIx xs.length 0 lo)).take (HT.sIx xs.length xs.length hi - HT.sIx xs.length 0 lo)
def zQ (xs:List V)(lo hi:Option Int):(mY xs lo hi).length<=xs.length:=by unfold mY;rw[bAI,bBT];lia
def bEv (K:bF4):V->Option Int->Option Int->Hp->VK->Prop:=λx lo hi H Q=>∃a xs,x=.ref a/\SqT K H a xs /\
 ¬ (HT.sIx xs.length 0 lo=0/\HT.sIx xs.length xs.length hi=xs.length)/\∀p,H p=none->Q (.ref p) (upd H p (.tup (mY xs lo hi)))
def bB6:SlR X (bEv X.K):=by
 intro k s σ H x v y w f i u Q I n t o p h;obtain⟨a,d,rfl,l,m,q⟩:=h;cases n;obtain⟨e,r,g,j⟩:=I.tuple l;have c:e.toArray.size=d.length:=by rw[d9];exact r.length.symm
 refine⟨"tuple",_,PyProof.Rows.slot_tuple_getitem.lookup,g.typeIs,?_⟩;refine HT.wV g t o p (by rw[c];exact m) ?_ (by rw[c];exact j);rw[c];refine⟨.ref s.heap.objs.size,_,I.laid (t':=s.toks) (λb z q=>c7 _ q) (d8 _) ?_,rfl,q _ (I.hok.fresh (d8 _))⟩;exact⟨bAE (zQ d f i) j,_,(r.drop (HT.sIx d.length 0 f)).take (HT.sIx d.length d.length i - HT.sIx d.length 0 f),aAg.new _ _⟩
def bDw (K:bF4):R2:=λx y H Q=>∃a b xs ys,x=.ref a/\y=.ref b/\SqT K H a xs/\SqT K H b ys/\xs≠[]/\xs.length+ys.length<=sizeLine /\
 (ys=[]->Q (.ref a) H)/\(ys≠[]->∀p,H p=none->Q (.ref p) (upd H p (.tup (xs++ys))))
theorem Vals.aHl (r:Vals xs us):us=[]↔xs=[]:=by
 cases r with
 |nil=>simp
 |cons _ _=>simp
def aWl:OpR X (binaryOp .Add) (bDw X.K):=by intro k s σ H x y v u Q I n t h;obtain⟨a,b,C,A,rfl,rfl,j,o,p,f,m,i⟩:=h;cases n;cases t;obtain⟨l,d,r,_⟩:=I.tuple j;obtain⟨e,c,g,_⟩:=I.tuple o;refine HT.aYi r g (λz=>p (d.aHl.mp z)) (λz=>⟨.ref a,H,I,rfl,m (c.aHl.mp z)⟩) (λz=>?_) (by rw[<-d.length,<-c.length];exact f);refine⟨.ref s.heap.objs.size,_,I.laid (t':=s.toks) (λb B q=>c7 _ q) (d8 _) ?_,rfl,i (λw=>z (c.aHl.mpr w)) _ (I.hok.fresh (d8 _))⟩;exact⟨by rw[w6];exact f,_,d.append c,aAg.new _ _⟩
end
def ixN (n:Nat)(i:Int):Option Nat:=if 0<=i then (if i<n then some i.toNat else none) else if -(n:Int)<=i then some (i+n).toNat else none
def atI {α:Type}(xs:List α)(i:Int):Option α:=(ixN xs.length i).bind λj=>xs[j]?
def aP0 (h:ixN n i=some j):seqIndex? i n=some j/\j<n/\-(n:Int)<=i/\i<n:=by
 unfold ixN at h;by_cases b:0<=i
 ·rw[if_pos b] at h;by_cases a:i<n
  ·rw[if_pos a] at h;have e:=bAK h;exact⟨by rw[seqIndex_of b a,e],by lia,by lia,a⟩
  ·rw[if_neg a] at h;cases h
 ·rw[if_neg b] at h;by_cases a:-(n:Int)<=i
  ·rw[if_pos a] at h;have e:=bAK h;exact⟨by rw[seqIndex_neg (by lia) a,e],by lia,a,by lia⟩
  ·rw[if_neg a] at h;cases h
theorem aO5 {α:Type}{xs:List α}{i:Int}{v:α}(h:atI xs i=some v):∃j,seqIndex? i xs.length=some j/\xs[j]?=some v/\j<xs.length/\-(xs.length:Int)<=i/\i<xs.length:=by
 unfold atI at h;cases e:ixN xs.length i with
 |none=>rw[e] at h;cases h
 |some j=>rw[e] at h;obtain⟨c,a,b,d⟩:=aP0 e;exact⟨j,c,h,a,b,d⟩
def bH {α:Type}{xs:List α}{j:Nat}{v:α}(h:xs[j]?=some v):atI xs (j:Int)=some v:=by
 have a:j<xs.length:=(List.getElem?_eq_some_iff.mp h).1;have e:ixN xs.length (j:Int)=some j:=by unfold ixN;rw[if_pos (by lia),if_pos (by lia)];simp
 unfold atI;rw[e];exact h
def aGy (b:Expr):Prop:=∀o i,subscripted b false o i=operate [o,i] (getItem o i)
def IxR (X:Cx)(r:R2):Prop:=
 ∀value slice bF8 s σ H x y v u Q,Inv X bF8 σ H s->RelV x v->RelV y u->r x y H Q ->
  subscripted slice false v u=operate [v,u] (getItem v u)->wpAny (model X.prog X.w) X.A (subscriptTail value slice v u) (EP X bF8 σ Q) X.xe s
def MtR (X:Cx)(id:String)(r:V->List V->Hp->VK->Prop):Prop:=
 ∀bF8 s σ H x xs v us Q,Inv X bF8 σ H s->RelV x v->Vals xs us->r x xs H Q ->
  wpAny (model X.prog X.w) X.A (call (.builtin id) (v::us)) (EP X bF8 σ Q) X.xe s
section
variable {X:Cx}{a b:Expr}{ta tb:TE}{pos:Pos}
def bEe (j:IxR X r)(k:PE X a ta)(l:PE X b tb)(m:aGy b):PE X (.Subscript a b pos) (tOp r ta tb):=by intro c s σ H Q I h;exact Subscript_ (aWc k l I h λv u f x y g d e i q=>j a b c f σ g x y v u Q d e i q (m _ _))
def bE6 (K:bF4):R2:=λx y H Q=>∃p xs i v,x=.ref p/\y=.int i/\SqL K H p xs/\atI xs i=some v/\Q v H
def bEj (K:bF4):R2:=λx y H Q=>∃p xs i v,x=.ref p/\y=.int i/\SqT K H p xs/\atI xs i=some v/\Q v H
def bA:IxR X (bE6 X.K):=by
 intro d g a s σ H x y v u Q I D L h m;obtain⟨p,P,i,z,rfl,rfl,A,E,q⟩:=h;cases D;obtain⟨t,rfl⟩:=L;obtain⟨e,r,k,O⟩:=I.list A;obtain⟨j,c,B,N,C,G⟩:=aO5 E;obtain⟨w,o,f⟩:=r.get B;have F:=r.length;have M:=yC;have b:EP X a σ Q w s:=⟨z,H,I,f,q⟩;by_cases n:0<=i
 ·have l:i.toNat=j:=by rw[seqIndex_of n G] at c;exact bAK c
  exact item_listR k.isList n (by lia) (by rw[l];simpa using o) b m
 ·have l:(i+(e.toArray.size:Int)).toNat=j:=by rw[seqIndex_neg (by lia) C] at c;rw[d9,<-F];exact bAK c
  exact subscriptTail_builtinR (x:=w) k.isList.typeIs slot_list_getitem.lookup
   (wpAny_getItem_list_neg (Q:=λr J=>r=w/\EP X a σ Q r J) k.isList (by lia) (by rw[d9] <;> lia) (by lia) (by rw[l];simpa using o) ⟨rfl,b⟩) m
def aP:IxR X (bEj X.K):=by
 intro b d a s σ H x y v u Q I m E h n;obtain⟨p,N,i,z,rfl,rfl,g,o,q⟩:=h;cases m;obtain⟨t,rfl⟩:=E;obtain⟨l,r,f,M⟩:=I.tuple g;obtain⟨j,D,k,J,F,L⟩:=aO5 o;obtain⟨w,B,c⟩:=r.get k;have A:=r.length;have G:=yC;have e:EP X a σ Q w s:=⟨z,H,I,c,q⟩;exact subscriptTail_builtinR (x:=w) f.typeIs slot_tuple_getitem.lookup
  (getItem_tuple (j:=j) (Q:=λr C=>r=w/\EP X a σ Q r C) f (by lia) (by lia) (by rw[d9,<-A];exact D) (by simpa using B) ⟨rfl,e⟩) n
def aMc (its:List Value)(n j:Nat)(u:Value):Obj.mapSeq (·.setIfInBounds j u) { cls:=.type "list",data:=.seq its.toArray n }={ cls:=.type "list",data:=.seq (its.set j u).toArray n }:=by simp[Obj.mapSeq]
theorem Inv.lst (I:Inv X bF8 σ H s)(h:H p=some (.lst xs)) :
  ∃its n,Vals xs its/\s.heap.get? p=some { cls:=.type "list",data:=.seq its.toArray n }/\xs.length<=sizeLine:=by
 obtain⟨z,its,n,r,e⟩:=I.hok p _ h;exact⟨its,n,r,e,z⟩
def Inv.bCq {bF8:bF6}{σ:St}{H:Hp}{s:Shared}{p:Addr}{xs ys:List V}{its its':List Value}{n c:Nat}{f:Obj->Obj}(I:Inv X bF8 σ H s)(h:H p=some (.lst xs))
  (ho:s.heap.get? p=some { cls:=.type "list",data:=.seq its.toArray n }) (a:f { cls:=.type "list",data:=.seq its.toArray n }={ cls:=.type "list",data:=.seq its'.toArray c }) (r:Vals ys its') (g:ys.length<=sizeLine) (t:Nat) :
  Inv X bF8 σ (upd H p (.lst ys)) { s with heap:=s.heap.update p f,toks:=t }:=by
 have e:(s.heap.update p f).get? p=some { cls:=.type "list",data:=.seq its'.toArray c }:=by rw[bAO f ho (by rw[a] <;> rfl),a]
 refine I.write (x:=p) (e:=p) (by rw[h];trivial) (.inl rfl) (λb u d q=>(bBD _ _ (Ne.symm d)).trans q) ⟨_,e⟩ ?_;exact⟨g,its',c,r,e⟩
def bDy:V->V->V->Hp->(Hp->Prop)->Prop:=λo i v H Q=>∃p xs k j,o=.ref p/\i=.int k/\H p=some (.lst xs)/\ixN xs.length k=some j/\Q (upd H p (.lst (xs.set j v)))
def set_list:bAk X bDy:=by
 intro d s σ H o i v J E u Q I y C D h;obtain⟨p,B,k,j,rfl,rfl,x,z,q⟩:=h;cases y;obtain⟨t,rfl⟩:=C;obtain⟨a,n,r,e,A⟩:=I.lst x;obtain⟨b,F,l,g⟩:=aP0 z;have f:=r.length;have G:=yC;have m:Inv X d σ (upd H p (.lst (B.set j v))) { s with heap:=s.heap.update p (Obj.mapSeq (·.setIfInBounds j u)) }:=
  I.bCq x e (aMc a n j u) (r.set D j) (by rw[List.length_set];exact A) s.toks
 by_cases w:0<=k
 ·have c:k.toNat=j:=by rw[seqIndex_of w g] at b;exact bAK b
  exact PySem.W.ki_setAt e w (by lia) (by rw[d9,<-f];exact g) (by rw[c];exact⟨_,m,q⟩)
 ·have c:(k+(a.toArray.size:Int)).toNat=j:=by rw[seqIndex_neg (by lia) l] at b;rw[d9,<-f];exact bAK b
  exact PySem.W.ki_setBack e (by lia) (by rw[d9,<-f];exact l) (by lia) (by rw[c];exact⟨_,m,q⟩)
def aHz (lo hi:Option Int)(n:Nat):(sliceBounds lo hi none n).1=((HT.sIx n 0 lo:Nat):Int)/\(sliceBounds lo hi none n).2.1=((HT.sIx n n hi:Nat):Int)/\(sliceBounds lo hi none n).2.2=1:=by
 refine⟨?_,?_,rfl⟩
 ·cases lo with
  |none=>simp[sliceBounds,HT.sIx]
  |some i=>
   simp only[sliceBounds,HT.sIx,Option.getD_none,show (1:Int) > 0 by decide,if_true];by_cases h:i<0
   ·simp only[h,if_true] <;> lia
   ·simp only[h,if_false] <;> lia
 ·cases hi with
  |none=>simp[sliceBounds,HT.sIx]
  |some i=>
   simp only[sliceBounds,HT.sIx,Option.getD_none,show (1:Int) > 0 by decide,if_true];by_cases h:i<0
   ·simp only[h,if_true] <;> lia
   ·simp only[h,if_false] <;> lia
def aEd (its:List Value)(lo hi:Option Int):slicePick its.toArray lo hi none=((its.drop (HT.sIx its.length 0 lo)).take (HT.sIx its.length its.length hi - HT.sIx its.length 0 lo)).toArray:=by obtain⟨c,a,b⟩:=aHz lo hi its.toArray.size;unfold slicePick;rw[c,a,b];simp only[sliceRange_one,pick_run,d9] <;> rfl
def bE0 (K:bF4):V->Option Int->Option Int->Hp->VK->Prop:=λx lo hi H Q=>∃a xs,x=.ref a/\SqL K H a xs/\∀p,H p=none->Q (.ref p) (upd H p (.lst (mY xs lo hi)))
def aYr:SlR X (bE0 X.K):=by intro i s σ H x v w u e g t Q I m p n o h;obtain⟨a,c,rfl,j,q⟩:=h;cases m;obtain⟨k,r,f,l⟩:=I.list j;have d:=r.length;refine⟨"list",_,slot_list_getitem.lookup,f.isList.typeIs,?_⟩;refine wpAny_getItem_list_slice f.isList p n o .none (by simp) ?_ (by rw[d9] <;> lia);rw[aEd,<-d];refine⟨.ref s.heap.objs.size,_,I.laid (t':=s.toks) (λb y q=>c7 _ q) (d8 _) ?_,rfl,q _ (I.hok.fresh (d8 _))⟩;exact⟨bAE (zQ c e g) l,_,0,(r.drop (HT.sIx c.length 0 e)).take (HT.sIx c.length c.length g - HT.sIx c.length 0 e),j8 _ rfl⟩
def jB:V->Bool
 |.non=>true
 |.bl _=>true
 |.int _=>true
 |.str _=>true
 |_=>false
def eqV:V->V->Bool
 |.non,.non=>true
 |.bl a,.bl b=>a == b
 |.bl a,.int b=>(if a then 1 else 0) == b
 |.int a,.bl b=>a == (if b then 1 else 0)
 |.int a,.int b=>a == b
 |.str a,.str b=>a == b
 |_,_=>false
theorem aVr (f:RelV y u)(c:RelV x v)(g:jB y=true)(e:jB x=true):SeqAt.EqAt A s u v (eqV y x):=by
 cases y with
 |non=>
  cases f;cases x with
  |non=>cases c;exact bEI _
  |bl b=>cases c;exact SeqAt.EqAt.none_bool b
  |int b=>obtain⟨t,rfl⟩:=c;exact SeqAt.EqAt.none_int b t
  |str b=>obtain⟨t,rfl⟩:=c;exact SeqAt.EqAt.none_str b t
  |_=>exact absurd (show false=true from e) v5
 |bl a=>
  cases f;cases x with
  |non=>cases c;exact SeqAt.EqAt.bool_none a
  |bl b=>cases c;exact SeqAt.EqAt.bool_bool a b
  |int b=>obtain⟨t,rfl⟩:=c;exact SeqAt.EqAt.bool_int a b t
  |str b=>obtain⟨t,rfl⟩:=c;exact SeqAt.EqAt.bool_str a b t
  |_=>exact absurd (show false=true from e) v5
 |int a=>
  obtain⟨d,rfl⟩:=f;cases x with
  |non=>cases c;exact SeqAt.EqAt.int_none a d
  |bl b=>cases c;exact SeqAt.EqAt.int_bool a d b
  |int b=>obtain⟨t,rfl⟩:=c;exact bEL a d b t
  |str b=>obtain⟨t,rfl⟩:=c;exact SeqAt.EqAt.int_str a d b t
  |_=>exact absurd (show false=true from e) v5
 |str a=>
  obtain⟨d,rfl⟩:=f;cases x with
  |non=>cases c;exact SeqAt.EqAt.str_none a d
  |bl b=>cases c;exact SeqAt.EqAt.str_bool a d b
  |int b=>obtain⟨t,rfl⟩:=c;exact SeqAt.EqAt.str_int a d b t
  |str b=>obtain⟨t,rfl⟩:=c;exact bDK a d b t
  |_=>exact absurd (show false=true from e) v5
 |_=>exact absurd (show false=true from g) v5
def eqU (x:V)(u:Value):Bool:=match u with
 |.none=>eqV .non x
 |.bool b=>eqV (.bl b) x
 |.int i _=>eqV (.int i) x
 |.str z _=>eqV (.str z) x
 |_=>false
theorem aTb (r:RelV y u)(f:jB y=true):eqU x u=eqV y x:=by
 cases y with
 |non=>cases r;rfl
 |bl b=>cases r;rfl
 |int i=>obtain⟨t,rfl⟩:=r;rfl
 |str z=>obtain⟨t,rfl⟩:=r;rfl
 |_=>exact absurd (show false=true from f) v5
theorem wD:∀{xs:List V} {us:List Value},Vals xs us->xs.all jB=true->us.any (eqU x)=xs.any λy=>eqV y x
 |_,_,.nil,_=>rfl
 |y::xs,u::us,.cons r t,f=>by rw[List.all_cons,bAS] at f;rw[bFI,bFI,aTb r f.1,wD t f.2]
theorem qP (c:RelV x v)(b:jB x=true):∀{xs:List V} {us:List Value},Vals xs us->xs.all jB=true->∀u∈us,SeqAt.EqAt A s u v (eqU x u)
 |_,_,.nil,_=>λu hu=>by cases hu
 |y::xs,u::us,.cons r t,f=>λa hu=>by
  rw[List.all_cons,bAS] at f;rcases List.mem_cons.mp hu with rfl|hu
  ·rw[aTb r f.1];exact aVr r c f.1 b
  ·exact qP c b t f.2 a hu
def inV (x:V)(xs:List V):Bool:=xs.any λy=>eqV y x
def rIn (K:bF4)(neg:Bool):R2:=λx y H Q=>∃p xs,y=.ref p/\(SqL K H p xs\/SqT K H p xs)/\jB x=true/\xs.all jB=true/\Q (.bl (if neg then !inV x xs else inV x xs)) H
def xH:OpR X (compareOp .In) (rIn X.K false):=by
 intro g s σ H x y v u Q I f j h;obtain⟨p,k,rfl,hq,e,b,q⟩:=h;cases j;rcases hq with hq|hq
 ·obtain⟨a,r,c,i⟩:=I.list hq;refine SeqAt.in_listAt (eqU x) c.isList (λw d=>qP f e r b w (by simpa using d)) ⟨.bl _,H,I,rfl,?_⟩;rw[show a.toArray.any (eqU x)=a.any (eqU x) by simp,wD r b];exact q
 ·obtain⟨a,r,c,i⟩:=I.tuple hq;refine SeqAt.in_tupleAt (eqU x) c (λw d=>qP f e r b w (by simpa using d)) ⟨.bl _,H,I,rfl,?_⟩;rw[show a.toArray.any (eqU x)=a.any (eqU x) by simp,wD r b];exact q
def aHt:OpR X (compareOp .NotIn) (rIn X.K true):=by
 intro g s σ H x y v u Q I f j h;obtain⟨p,k,rfl,hq,e,b,q⟩:=h;cases j;rcases hq with hq|hq
 ·obtain⟨a,r,c,i⟩:=I.list hq;refine SeqAt.notIn_listAt (eqU x) c.isList (λw d=>qP f e r b w (by simpa using d)) ⟨.bl _,H,I,rfl,?_⟩;rw[show a.toArray.any (eqU x)=a.any (eqU x) by simp,wD r b];exact q
 ·obtain⟨a,r,c,i⟩:=I.tuple hq;refine SeqAt.notIn_tupleAt (eqU x) c (λw d=>qP f e r b w (by simpa using d)) ⟨.bl _,H,I,rfl,?_⟩;rw[show a.toArray.any (eqU x)=a.any (eqU x) by simp,wD r b];exact q
def aY:cH X (.builtin "len") (λxs H Q=>∃p ys,xs=[.ref p]/\(SqL X.K H p ys\/SqT X.K H p ys)/\Q (.int ys.length) H):=by
 intro e s σ H xs i Q I r h;obtain⟨p,ys,rfl,hq,q⟩:=h;obtain⟨u,rfl,f⟩:=vals1 r;cases f;have j:=yC;rcases hq with hq|hq
 ·obtain⟨b,d,c,g⟩:=I.list hq;have a:=d.length;exact Calls.call_len_list c.isList (by simp only[d9] <;> lia) ⟨.int ys.length,H,I.tok _,⟨s.toks+1,by rw[d9,a]⟩,q⟩
 ·obtain⟨b,d,c,g⟩:=I.tuple hq;have a:=d.length;exact len_tuple c (by simp only[d9] <;> lia) ⟨.int ys.length,H,I.tok _,⟨s.toks+1,by rw[d9,a]⟩,q⟩
def vA:cH X (.builtin "len") (λxs H Q=>∃z,xs=[.str z]/\z.length<=sizeLine/\Q (.int z.length) H):=by intro a s σ H xs b Q I r h;obtain⟨z,rfl,d,q⟩:=h;obtain⟨u,rfl,t,rfl⟩:=vals1 r;have c:=yC;exact len_str (by lia) ⟨.int z.length,H,I.tok _,⟨_,rfl⟩,q⟩
def cH.or (h:cH X f r)(h':cH X f r'):cH X f (λxs H Q=>r xs H Q\/r' xs H Q):=by
 intro a s σ H xs b Q I c q;rcases q with q|q
 ·exact h a s σ H xs b Q I c q
 ·exact h' a s σ H xs b Q I c q
def aHc:cH X (.type "list") (λxs H Q=>∃p ys,xs=[.ref p]/\(SqL X.K H p ys\/SqT X.K H p ys)/\∀l,H l=none->Q (.ref l) (upd H l (.lst ys))):=by
 intro m s σ H xs z Q I r h;obtain⟨p,ys,rfl,hq,q⟩:=h;obtain⟨u,rfl,y⟩:=vals1 r;cases y;have i:∀a,Vals ys a->ys.length<=sizeLine->∀c f,(∀b o',s.heap.get? b=some o'->c.get? b=some o') ->
   c.get? s.heap.objs.size=some { cls:=.type "list",dict:=none,data:=.seq a.toArray f,slots:=#[] }->EP X m σ Q (.ref s.heap.objs.size) { s with heap:=c }:=λa d j c f k e=>
  ⟨.ref s.heap.objs.size,_,I.laid (t':=s.toks) k (d8 _) (show cV X.prog X.w _ c _ (.lst ys) from ⟨j,a,f,d,e⟩),rfl,q _ (I.hok.fresh (d8 _))⟩
 rcases hq with hq|hq
 ·obtain⟨a,d,t,j⟩:=I.list hq;have g:=d.length;obtain⟨o,v,x,n,hd⟩:=t.isList;exact call_list_seq p (.inl rfl) v x hd (λc f k e=>i a d j c f k e) (by simp only[d9] <;> lia)
 ·obtain⟨a,d,t,j⟩:=I.tuple hq;have g:=d.length;obtain⟨o,v,x,n,hd⟩:=t;exact call_list_seq p (.inr rfl) v x hd (λc f k e=>i a d j c f k e) (by simp only[d9] <;> lia)
def aD5:cH X (.type "tuple") (λxs H Q=>∃p ys,xs=[.ref p]/\((SqL X.K H p ys/\∀l,H l=none->Q (.ref l) (upd H l (.tup ys)))\/(SqT X.K H p ys/\Q (.ref p) H))):=by
 intro f s σ H xs x Q I r h;obtain⟨p,ys,rfl,h⟩:=h;obtain⟨u,rfl,t⟩:=vals1 r;cases t;rcases h with⟨c,q⟩|⟨c,q⟩
 ·obtain⟨a,i,g,k⟩:=I.list c;have m:=i.length;refine call_tuple_list g.isList (λd v=>?_) (by simp only[d9] <;> lia);have j:=I.kept (t':=s.toks) v;have n:Inv X f σ (upd H d.objs.size (.tup ys)) { s with heap:=d.push { cls:=.type "tuple",data:=.seq a.toArray } }:=
   j.laid (t':=s.toks) (λb o e=>c7 _ e) (d8 _) (show cV X.prog X.w _ _ _ (.tup ys) from ⟨k,a,i,aAg.new _ _⟩)
  exact⟨.ref d.objs.size,_,n,rfl,q _ (j.hok.fresh (d8 _))⟩
 ·obtain⟨a,i,g,k⟩:=I.tuple c;exact call_tuple_same g ⟨.ref p,H,I,rfl,q⟩
def tyV (K:bF4)(T:String)(x:V)(H:Hp):Prop:=match x with
 |.str _=>T = "str"
 |.int _=>T = "int"
 |.ref p=>(T = "list"/\∃xs,SqL K H p xs)\/(T = "tuple"/\∃o,K.lookup p=some o/\o.cls=.type "tuple"/\o.dict=none) \/
   (T = "dict"/\((∃kvs,H p=some (.dK kvs))\/∃kvs,H p=some (.dT kvs)))\/(T = "set"/\∃S n,H p=some (.set S n))
 |_=>False
theorem aM8 (I:Inv X bF8 σ H s)(r:RelV x v)(h:tyV X.K T x H) :
  s.TypeIs v T/\∀a,v=.ref a->∃ob,s.heap.get? a=some ob/\ob.dict=none:=by
 cases x with
 |str z=>obtain⟨t,rfl⟩:=r;cases (show T = "str" from h);exact⟨typeIs_str s z t,λ_ e=>nomatch e⟩
 |int i=>obtain⟨t,rfl⟩:=r;cases (show T = "int" from h);exact⟨typeIs_int s i t,λ_ e=>nomatch e⟩
 |ref p=>
  cases r;rcases h with⟨rfl,m,k⟩|⟨rfl,o,b,hc,hd⟩|⟨rfl,b⟩|⟨rfl,S,n,b⟩
  ·obtain⟨l,_,j,_⟩:=I.list k;refine⟨j.isList.typeIs,λa e=>?_⟩;cases e;obtain⟨o,n,e,c,hd,_⟩:=j;exact⟨o,e,hd⟩
  ·refine⟨⟨o,I.kIn p o b,hc⟩,λa e=>?_⟩;cases e;exact⟨o,I.kIn _ o b,hd⟩
  ·have z:∃o,s.heap.get? p=some o/\o.ExactDict:=by
    rcases b with⟨g,b⟩|⟨g,b⟩
    ·obtain⟨_,_,_,_,o,_,_,e,d,_⟩:=I.hok p _ b;exact⟨o,e,d⟩
    ·obtain⟨_,_,_,_,o,_,_,e,d,_⟩:=I.hok p _ b;exact⟨o,e,d⟩
   obtain⟨o,e,d⟩:=z;refine⟨⟨o,e,d.1⟩,λa f=>?_⟩;cases f;exact⟨o,e,d.2.1⟩
  ·obtain⟨o,_,_,_,e,d,_⟩:=I.hok p _ b;refine⟨⟨o,e,d.1⟩,λa f=>?_⟩;cases f;exact⟨o,e,d.2.1⟩
 |_=>exact False.elim h
def bEu (K:bF4)(T:String)(r:V->List V->Hp->VK->Prop)(to:TE):TE:=fun σ H Q=>to σ H λx H1=>tyV K T x H1/\r x [] H1 Q
def tBM (K:bF4)(T:String)(r:V->List V->Hp->VK->Prop)(to:TE)(t:TA):TE:=fun σ H Q=>to σ H λx H1=>tyV K T x H1/\t σ H1 λxs H2=>r x xs H2 Q
variable {o e:Expr}{es:List Expr}{to:TE}{t:TA}{name:Str}{apos cpos:Pos}{T id:String}{r:V->List V->Hp->VK->Prop}
def bA0 (n:PlainAttrs T)(slot:Slot T name id)(i:typeOf (.builtin id)=pure (.type "method_descriptor"))(p:MtR X id r)(ho:PE X o to)
  (b:attributeBase o name X.env (eval o X.env)=eval o X.env:=by rfl) (c:(apos.endLine == cpos.line)=true:=by rfl):PE X (.Call (.Attribute o name apos) [] [] cpos) (bEu X.K T r to):=by
 intro a s σ H Q I h;refine wpAny_Call_method0_late b c (thn (ho a s σ H _ I h) λv f ⟨x,m,d,e,l,j⟩=>?_);obtain⟨k,g⟩:=aM8 d e l;exact⟨T,id,n,slot,i,k,g,bDL rfl (PySem.evalArgs_none (p a f σ m x [] v [] Q d e .nil j))⟩
def bEs (G:PlainAttrs T)(slot:Slot T name id)(u:typeOf (.builtin id)=pure (.type "method_descriptor"))(J:MtR X id r)(ho:PE X o to)(E:PA X (e::es) t)
  (c:attributeBase o name X.env (eval o X.env)=eval o X.env:=by rfl)
  (f:((backTo cpos (starEach (e::es) X.env)).all (λx=>!x.1) && (backToKw cpos (keywordEach [] X.env)).all (λx=>x.1.isSome)
   && decide ((e::es).length+([]:List Keyword).length+(if ([]:List Keyword).isEmpty then 0 else 1)<30))=true:=by rfl)
  (d:(apos.endLine == cpos.line)=true:=by rfl) (F:starEach (e::es) X.env=(false,eval e X.env)::starEach es X.env:=by rfl) (b:(backTo cpos (starEach es X.env)).any (·.1)=false:=by rfl) :
  PE X (.Call (.Attribute o name apos) (e::es) [] cpos) (tBM X.K T r to t):=by
 intro a s σ H Q I h;refine wpAny_Call_method_late c f d rfl (thn (ho a s σ H _ I h) λv m ⟨x,D,g,j,B,q⟩=>?_);obtain⟨z,n⟩:=aM8 g j B;refine⟨T,id,G,slot,u,z,n,?_⟩;have i:=E cpos a m σ D _ g q;rw[F] at i ⊢;refine bDL (by show (false || (backTo cpos (starEach es X.env)).any (·.1))=false;rw[b] <;> rfl) (bFK ?_);exact thn i λl A ⟨y,C,p,w,k⟩=>J a A σ C x y v l Q p j w k
end
def MtM (X:Cx)(id:String)(r:V->List V->Hp->VK->Prop):Prop:=
 ∀bF8 s σ H x xs v us Q,Inv X bF8 σ H s->RelV x v->Vals xs us->r x xs H Q ->
  wpAny (model X.prog X.w) X.A (call (.builtin id) (v::us)) (EP X bF8 σ Q) X.xe s
theorem Vals.one:∀{x:V} {us:List Value},Vals [x] us->∃u,us=[u]/\RelV x u
 |_,_,.cons r .nil=>⟨_,rfl,r⟩
theorem Vals.two:∀{x y:V} {us:List Value},Vals [x,y] us->∃u v,us=[u,v]/\RelV x u/\RelV y v
 |_,_,_,.cons r (.cons q .nil)=>⟨_,_,rfl,r,q⟩
theorem Vals.zero:∀{us:List Value},Vals [] us->us=[]
 |_,.nil=>rfl
theorem Vals.eraseIdx:∀{xs:List V} {us:List Value} (i:Nat),Vals xs us->Vals (xs.eraseIdx i) (us.eraseIdx i)
 |_,_,_,.nil=>.nil
 |_,_,0,.cons _ t=>t
 |_,_,i+1,.cons r t=>.cons r (Vals.eraseIdx i t)
theorem Vals.reverse (h:Vals xs us):Vals xs.reverse us.reverse:=by
 induction h with
 |nil=>exact .nil
 |cons r t ih=>rw[List.reverse_cons,List.reverse_cons];exact Vals.append ih (.cons r .nil)
theorem aFt {α:Type}:∀(l:List α) (i:Nat),(l.eraseIdx i).length<=l.length
 |[],_=>d8 _
 |_::_,0=>bCR _
 |_::r,i+1=>Nat.succ_le_succ (aFt r i)
section
variable {X:Cx}{bF8:bF6}{σ:St}{H:Hp}{s:Shared}{l b:Addr}{xs ys zs:List V}
def Inv.lset {its its':List Value}{n:Nat}{f:Array Value->Array Value}{t':Nat}(I:Inv X bF8 σ H s)(i:H l=some (.lst xs))
  (e:s.heap.get? l=some { cls:=.type "list",data:=.seq its.toArray n }) (d:f its.toArray=its'.toArray) (h:Vals ys its') (g:ys.length<=sizeLine) :
  Inv X bF8 σ (upd H l (.lst ys)) { s with heap:=s.heap.update l (Obj.mapSeq f),toks:=t' }:=by
 have q:=PySem.IsL.update e f;rw[d] at q;refine I.write (x:=l) (e:=l) (by rw[i];exact trivial) (.inl rfl) (λc u a b=>(bBD s.heap (Obj.mapSeq f) (Ne.symm a)).trans b) ⟨_,q⟩ ?_;exact⟨g,its',_,h,q⟩
def Inv.lnew (I:Inv X bF8 σ H s)(b:Vals ys its)(a:ys.length<=sizeLine) :
  Inv X bF8 σ (upd H s.heap.objs.size (.lst ys)) { s with heap:=s.heap.push { cls:=.type "list",data:=.seq its.toArray },toks:=t' }:=
 I.laid (λ_ _ q=>c7 _ q) (d8 _) ⟨a,its,0,b,j8 _ rfl⟩
theorem Inv.fresh (I:Inv X bF8 σ H s):H s.heap.objs.size=none:=I.hok.fresh (d8 _)
def Inv.aQq (I:Inv X bF8 σ H s)(a:H l=some (.lst xs)):xs.length<=sizeLine/\∃its n,Vals xs its/\xs.length=its.length/\s.heap.get? l=some { cls:=.type "list",data:=.seq its.toArray n }:=by obtain⟨z,its,n,r,e⟩:=I.hok l _ a;exact⟨z,its,n,r,r.length,e⟩
end
section
variable {X:Cx}
def aPt:V->List V->Hp->VK->Prop:=λx vs H Q=>∃l xs y,x=.ref l/\vs=[y]/\H l=some (.lst xs)/\xs.length<sizeLine/\Q .non (upd H l (.lst (xs++[y])))
def aE6:MtM X "list.append" aPt:=by intro c s σ H x j v i Q I f d h;obtain⟨l,m,y,rfl,rfl,b,k,q⟩:=h;cases f;obtain⟨u,rfl,g⟩:=d.one;obtain⟨z,a,n,r,o,e⟩:=I.aQq b;refine call_meets F.slot_list_append ⟨_,e,rfl⟩ F.entry_list_append (F.args_list_append_2 _ _) (PySem.list_append l a.toArray n u (by rw[d9];lia)) ⟨e,?_⟩;refine⟨.non,_,I.lset (its':=a++[u]) b e (by simp) (r.append (.cons g .nil)) ?_,rfl,q⟩;rw[w6,bFE];lia
def aUy:V->List V->Hp->VK->Prop:=λx vs H Q=>∃l xs i k y,x=.ref l/\vs=[.int i]/\H l=some (.lst xs)/\-(2 ^ 63)<=i/\i<2 ^ 63/\seqIndex? i xs.length=some k/\xs[k]?=some y/\Q y (upd H l (.lst (xs.eraseIdx k)))
def aTs:MtM X "list.pop" aUy:=by
 intro g s σ H x G v E Q I m D h;obtain⟨l,B,i,k,y,rfl,rfl,c,A,f,d,C,q⟩:=h;cases m;obtain⟨u,rfl,o⟩:=D.one;obtain⟨t,rfl⟩:=o;obtain⟨z,a,n,r,p,e⟩:=I.aQq c;obtain⟨w,j,b⟩:=r.get C;refine call_meets F.slot_list_pop ⟨_,e,rfl⟩ F.entry_list_pop (F.args_list_pop_2 _ _)
  (MeetsSeq.list_pop_at l a.toArray n i t k w (fitsIndex_both A f) (by rw[d9,<-p];exact d) (by rw[<-bBO];exact j) (by rw[d9];lia)) ⟨e,?_⟩
 refine⟨y,_,I.lset (its':=a.eraseIdx k) c e ?_ (r.eraseIdx k) ?_,b,q⟩
 ·show a.toArray.eraseIdxIfInBounds k=(a.eraseIdx k).toArray;rw[bFC]
 ·have:=aFt B k;lia
def aKi:V->List V->Hp->VK->Prop:=λx vs H Q=>∃l xs,x=.ref l/\vs=[]/\H l=some (.lst xs)/\Q .non (upd H l (.lst xs.reverse))
def aMe:MtM X "list.reverse" aKi:=by intro d s σ H x j v i Q I g f h;obtain⟨l,k,rfl,rfl,c,q⟩:=h;cases g;have b:=f.zero;subst b;obtain⟨z,a,n,r,m,e⟩:=I.aQq c;refine call_meets F.slot_list_reverse ⟨_,e,rfl⟩ F.entry_list_reverse (F.args_list_reverse_1 _) (AutoSeq1.list_reverse_list_0 l a.toArray n (by rw[d9];lia)) ⟨e,?_⟩;refine⟨.non,_,I.lset (its':=a.reverse) c e (by simp) r.reverse ?_,rfl,q⟩;rw[List.length_reverse];lia
def bFb:R2:=λx y H Q=>∃l b xs zs,x=.ref l/\y=.ref b/\H l=some (.lst xs)/\H b=some (.lst zs)/\xs.length+zs.length<=sizeLine/\∀p,H p=none->Q (.ref p) (upd H p (.lst (xs++zs)))
def aZ7:OpR X (binaryOp .Add) bFb:=by
 intro f s σ H x y v u Q I i o h;obtain⟨l,b,C,t,rfl,rfl,p,k,B,q⟩:=h;cases i;cases o;obtain⟨z,c,n,r,A,e⟩:=I.aQq p;obtain⟨w,a,D,g,j,d⟩:=I.aQq k;refine PySem.P.add_list e d ?_ (by rw[d9,d9];lia);have m:c.toArray++a.toArray=(c++a).toArray:=by simp
 rw[m];exact⟨.ref _,_,I.lnew (t':=s.toks) (r.append g) (by rw[w6];lia),rfl,q _ I.fresh⟩
end
section
variable {prog:Program}{w:World}{A:Around}{E:bF5}{s:Shared}
end
section
variable {X:Cx}
end
end L2
namespace Att
open PySem PySem.W PySem.Calls PyProof.Rows
theorem aAp:∀ns vs,WellAll P h vs (ns.map WData.int)->IntsAre vs ns:=by
 intro ns
 induction ns with
 |nil=>intro vs w;rw[List.map_nil] at w;cases w;exact .nil
 |cons n ns ih=>
  intro vs w;rw[bAL] at w;cases w with
  |cons a b=>cases a;exact .cons _ _ (ih _ b)
theorem aQ0 {l:OpenLaw}{n:Nat}(s:l.most=some n){P:Params}{h:Heap}{args:List WData}{vals:List Value}
  (b:l.row.toRowW.claim.pre args=true) (j:WellAll P h vals args) :
  ∃a vs ns,vals=[Value.ref a]/\args=[WData.list (ns.map WData.int)]/\h.get? a=some { cls:=.type "list",data:=.seq vs.toArray }/\IntsAre vs ns/\ns.length<=n:=by
 have g:WShape.hasAll [] args [.list .int]=true:=(pre_splitW b).1;have i:l.pre.holds [] { args:=args }=true:=(pre_splitW b).2;obtain⟨d,r,rfl,o,k⟩:=hasAllW_cons g;obtain rfl:=hasAllW_nil k;obtain⟨t,rfl,m⟩:=hasW_list o;obtain⟨ns,rfl⟩:=items_int m;have c:ns.length<=n:=by
  unfold OpenLaw.pre at i;have f:(WTm.not (.lt (.lit (.int (n:Int))) (.len (.arg 0)))).holds [] { args:=[.list (ns.map .int)] }=true:=by have f:=(holds_andW i).1;rw[s] at f;exact f
  have e:=condW_of f (w_not (w_lt w_lit (w_len_list (w_arg rfl))));rw[j6] at e;refine Nat.le_of_not_lt λq=>?_;have p:(n:Int)<((ns.length:Nat):Int):=by lia
  first
   |(rw[m9 p] at e;exact absurd e (by decide))
   |(simp at e;lia)
 cases j with
 |cons w1 w2=>
  cases w2;cases w1 with
  |list ho hall=>exact⟨_,_,ns,rfl,rfl,ho,aAp ns _ hall,c⟩
def aR6 (l:OpenLaw)(args:List WData):l.row.toRowW.claim.post args (.bool true) args=true:=
 postW_of
  (show WShape.has [] (.bool true) .bool=true by first|rfl|decide|simp[WShape.has,WShape.arms,WShape.armsAll])
  (show (WTm.eq .res (.lit (.bool true))).value [] { args:=args,res:=some (.bool true),after:=args }=some (.bool (true == true)) from w_eq_bool (w_res rfl) w_lit) rfl
def aIn {l:OpenLaw}{n:Nat}{q:Program}{loose:List Str}{XP:(bF7)->Heap->Prop}{YP:World->Heap->Prop}{d:DefRec}
  (H:l.most=some n) (E:d.params.defaults=[])
  (k:∀(w:World) (s₀ s₁:Shared) (mg mb:bF7) (fa:Addr) (o:Obj) (pm cd doc:Value) (a:Addr) (vs:List Value) (ns:List Int),
   Ground q loose [] XP w s₀ mg mb s₁.heap->YP w s₁.heap ->
   s₁.heap.get? fa=some o->o.data=.func (docDef d.name d.params d.body d.scope pm cd doc)->s₁.heap.CodeRec cd d.name->mg d.name=some (.ref fa) ->
   s₁.heap.get? a=some { cls:=.type "list",data:=.seq vs.toArray }->IntsAre vs ns->ns.length<=n->s₁.gens=#[] ->
   codeAny (model l.prog w) callerA (.call (.ref fa) ⟨[.ref a],[]⟩) (λr s'=>r=.ok (.ret (.bool true))/\OldK s₁.heap s'.heap/\s'.os=s₁.os/\AllBare s'.gens) s₁) :
  WalkO q loose XP YP l.row.toRowW d [] (λf vs=>PySem.call f vs):=by
 intro w s₀ s₁ mg mb G Y fa o pm cd doc z kV D hd i t j B s m I e p F h A;obtain rfl:z=.none:=Dflts.none t E;obtain rfl:kV=.none:=Dflts.noKw t;obtain⟨a,vs,ns,rfl,rfl,g,b,c⟩:=aQ0 H e h;refine enter_call (bCN (k w s₀ s₁ mg mb fa o pm cd doc a vs ns G Y D (fd_plain hd) i j g b c B) λr s' u=>?_);obtain⟨rfl,v,y,x⟩:=u;exact⟨.inl ⟨.bool true,.bool true,[],rfl,λ_=>rfl,.bool true,aR6 l _,λ_=>⟨List.Pairwise.nil,λ_ C=>(nomatch C)⟩⟩,v,y,x⟩
section
variable {prog:Program}{w:World}{A:Around}{E:bF5}{s:Shared}{K:Frag}
end
end Att
namespace L2
open PySem PySem.Spec PyProof.Rows
theorem aFa:∀{vs:List Value} {ns:List Int},IntsAre vs ns->Vals (ns.map V.int) vs
 |_,_,.nil=>.nil
 |_,_,.cons n t h=>.cons ⟨t,rfl⟩ (aFa h)
abbrev KOf {K:bF4}{h:Heap}(_:K.In h):bF4:=K
def jL (s:Stmt):Arguments:=match s with
 |.FunctionDef _ a _ _ _ _ _ _ _ _=>a
 |_=>{ posonlyargs:=[],args:=[],vararg:=none,kwonlyargs:=[],kw_defaults:=[],kwarg:=none,defaults:=[] }
def cY (s:Stmt):List Stmt:=match s with
 |.FunctionDef _ _ b _ _ _ _ _ _ _=>b
 |_=>[]
def aC (s:Stmt):Scope:=match s with
 |.FunctionDef _ _ _ _ _ _ sc _ _ _=>sc
 |_=>{ kind:=.function,names:=[],isGenerator:=false,isCoroutine:=false }
abbrev CX0:CXT:=λ_ _ _ _ _ _=>False
abbrev E0:XK:=λ_ _ _=>False
def aCb:lM CX0 X E0:=λ_ _ _ _ _ _ _ h=>h.elim
structure Fun (K:bF4)(x qual:Str)(st:Stmt)(f:Addr)(fd:FuncData):Prop where
 ex:∃(oc:Value) (od:Option Addr) (kV doc pm:Value) (an:Option Addr) (cdv ct:Value) (osl:Array (Option Value)),
  fd=PySem.W.fnOf x qual (jL st) (cY st) (aC st) .none kV doc pm an cdv ct/\K.lookup f=some ⟨oc,od,.func fd,osl⟩/\PySem.W.codeIn K cdv qual=true
 kp:PySem.W.keepIn K (.ref f)=true
section
variable {P:Program}{w:World}{K:bF4}{mg:bF7}{base:Heap}
def Fun.ok {x qual:Str}{st:Stmt}{f:Addr}{fd:FuncData}{N ps:List Str}{k:Nat}{sp:Sp}(F:Fun K x qual st f fd)(S:aG N ps (aC st))(j:∀vs H Q E,sp vs H Q E->vs.length=ps.length)
  (b:∀(cdv:Value) (A:Around) (outer:List Env) (s:Shared) (H:Hp) (vs:List V) (Q:VK) (E:XK),Room k (A.deeper (envOfC qual (aC st) s.heap.objs.size f cdv))->sp vs H Q E ->
   ∃t,PSs (wY CX0 P w K mg base N qual (aC st) f cdv A outer s H E).nox (cY st) t/\t { nx:=λ_ H'=>Q .non H',rt:=Q } (start N vs) H):gK P w K mg base CX0 (k+1) f fd ps sp:=by
 obtain⟨l,o,kV,g,n,p,cdv,m,e,rfl,i,c⟩:=F.ex;refine aUn i c S j λA outer s H vs Q E d a=>?_;obtain⟨t,h,q⟩:=b cdv A outer s H vs Q E d a;exact⟨t,h.nox,q⟩
def Fun.binds {x qual:Str}{st:Stmt}{f:Addr}{fd:FuncData}{ps:List Str}(F:Fun K x qual st f fd)
  (h:∀(kV doc pm:Value) (an:Option Addr) (cdv ct:Value) (us:List Value),us.length=ps.length->bindArgs (PySem.W.fnOf x qual (jL st) (cY st) (aC st) .none kV doc pm an cdv ct) ⟨us,[]⟩=pure (ps.zip us)):Binds K fd ps []:=by
 obtain⟨c,e,kV,doc,pm,an,cdv,ct,a,rfl,d,b⟩:=F.ex;exact .all (h kV doc pm an cdv ct)
def xQ {x qual:Str}{st:Stmt}{f:Addr}{e:Value}{h i:Option Addr}{d:Array (Option Value)}{kV a g b ct:Value}(l:K.lookup f=some ⟨e,h,.func (PySem.W.fnOf x qual (jL st) (cY st) (aC st) .none kV a g i b ct),d⟩)
  (c:PySem.W.codeIn K b qual=true) (k:PySem.W.keepIn K (.ref f)=true):Fun K x qual st f (PySem.W.fnOf x qual (jL st) (cY st) (aC st) .none kV a g i b ct):=⟨⟨e,h,kV,a,g,i,b,ct,d,rfl,l,c⟩,k⟩
end
def pA (a:Room k A):A.units+1<cLine:=bCJ (Nat.add_le_add_left (by decide:1<=64) _) a.units
def mL (h:n<=1000):n<sizeLine:=bCJ h (by decide)
section
variable {X:Cx}
def pv (i:Nat)(b:X.N[i]?=some x:=by rfl)(c:Vis X.env.scope x:=by trivial)(hd:(x == ("__debug__":Str))=false:=by decide)
  (a:(x == ("__classdict__":Str))=false:=by decide):PE X (.Name x pos) (rR i):=bB4 b c hd a
end
def bY {A B:Prop}(h:B):if false=true then A else B:=by rw[if_neg v5];exact h
def eX {A B:Prop}(h:A):if true=true then A else B:=by rw[if_pos rfl];exact h
def aLz {c A B:Prop}[Decidable c](b:c->A)(a:¬ c->B):if c then A else B:=by
 by_cases h:c
 ·rw[if_pos h];exact b h
 ·rw[if_neg h];exact a h
def Same (H H':Hp):Prop:=∀b o,H b=some o->H' b=some o
def Same.refl (H:Hp):Same H H:=λ_ _ h=>h
def Same.trans (a:Same H H1)(b:Same H1 H2):Same H H2:=λc o h=>b c o (a c o h)
theorem Same.free (e:Same H H')(h:H' l=Option.none):H l=Option.none:=by
 cases q:H l with
 |none=>rfl
 |some o=>rw[e l o q] at h;cases h
def Same.seq {K:bF4}{H H':Hp}{a:Addr}{xs:List V}(e:Same H H')(h:SqL K H a xs):SqL K H' a xs:=by
 rcases h with (h|⟨o,h⟩)|h
 ·exact .inl (.inl (e _ _ h))
 ·exact .inl (.inr ⟨o,e _ _ h⟩)
 ·exact .inr h
end L2
namespace PySem
namespace RvF
end RvF
section
variable {prog:Program}{w:World}{A:Around}{E:bF5}{s:Shared}
end
end PySem
namespace L2
open PySem PySem.Spec PyProof.Rows
def aHk:bootBuiltins "int"=some (.type "int"):=by decide +kernel
def aXj:bootBuiltins "bool"=some (.type "bool"):=by decide +kernel
def aV2:bootBuiltins "str"=some (.type "str"):=by decide +kernel
def rE:bootBuiltins "list"=some (.type "list"):=by decide +kernel
def eY:bootBuiltins "tuple"=some (.type "tuple"):=by decide +kernel
def aP7:bootBuiltins "dict"=some (.type "dict"):=by decide +kernel
def aHf:bootBuiltins "set"=some (.type "set"):=by decide +kernel
def bBy:bootBuiltins "zip"=some (.type "zip"):=by decide +kernel
def aH3:bootBuiltins "enumerate"=some (.type "enumerate"):=by decide +kernel
def bN:bootBuiltins "isinstance"=some (.builtin "isinstance"):=by decide +kernel
def cW:bootBuiltins "len"=some (.builtin "len"):=by decide +kernel
def tX:bootBuiltins "all"=some (.builtin "all"):=by decide +kernel
def bB5:bootBuiltins "any"=some (.builtin "any"):=by decide +kernel
def bAh:bootBuiltins "max"=some (.builtin "max"):=by decide +kernel
def dB:bootBuiltins "sorted"=some (.builtin "sorted"):=by decide +kernel
def aXh {J:It}{n:Nat}{item:Nat->V}{g:TG}{tb:TS}{D:Ends}{σ:St}{H:Hp}(j:Nat->St->Hp->Prop)
  (c:∀i H,i<n->J.go i H) (f:∀H,J.stop n H) (l:∀i H x H',i<n->J.yld i H x H'->H'=H/\x=item i) (k:j 0 σ H)
  (o:∀i σ H,i<n->j i σ H->g (item i) σ H fun σ2 H2=>tb { D with nx:=j (i+1),ct:=j (i+1),bk:=D.nx } σ2 H2) (hd:∀σ H,j n σ H->D.nx σ H) :
  ∃W:Nat->Nat->St->Hp->Prop,(∃m,W 0 m σ H)/\∀i m σ H,W i m σ H ->
   (J.stop i H/\D.nx σ H)\/(J.go i H/\∃N:St->Hp->Prop,(∀σ' H',N σ' H'->∃m',m'<m/\W (i+1) m' σ' H')/\∀x H',J.yld i H x H'->g x σ H' fun σ2 H2=>tb { D with nx:=N,ct:=N,bk:=D.nx } σ2 H2):=by
 refine⟨λi m σ H=>m=n - i/\i<=n/\j i σ H,⟨n,by simp,bAC _,k⟩,?_⟩;rintro i m σ H ⟨rfl,hi,p⟩;by_cases a:i<n
 ·refine .inr ⟨c i H a,j (i+1),fun σ' H' d=>⟨n - (i+1),by lia,rfl,a,d⟩,λx H' y=>?_⟩;obtain⟨h,b⟩:=l i H x H' a y;subst h b;exact o i σ _ a p
 ·have e:i=n:=by lia
  subst e;exact .inl ⟨f H,hd σ H p⟩
def sgn (x:Str)(i:Nat):Str:=⟨#[x.cps.getD i 0]⟩
def aUg (h:x.cps[i]?=some c):(⟨#[c]⟩:Str)=sgn x i:=by unfold sgn;rw[v6,h];rfl
def Its (x:Str):It:=⟨λi _=>i<x.cps.size,λi H v H'=>H'=H/\v=.str (sgn x i),λi _=>x.cps.size<=i⟩
def aQu {P:Program}{w:World}{K:bF4}{tg:Expr}(it:Addr)(x:Str)(t:Tok):Turn P w K tg (Its x) [it] it (λi h=>h.IsStrIter it "str_ascii_iterator" x t i) where
 mem:=by simp
 obj:=λi h a b f=>by
  have e:b=it:=by simpa using f
  subst e;obtain⟨o,e,c,d⟩:=a;exact⟨o,e,λv z=>by rw[d] at z;cases z⟩
 keep:=λi h l a k=>let ⟨o,ho,r⟩:=a;⟨o,k it (by simp) o ho,r⟩
 item:=by intro X D p n J i g s σ H E I m a q;subst D p n;obtain⟨F,G,S,A,B,y⟩:=m it (by simp);refine (Walks.strAscii (prog:=X.prog) (w:=X.w) (I.ok.hd J) it x t).item i s _ _ q a λv l L R j N=>?_;obtain⟨c,u,C,rfl⟩:=R;have M:Inv X g σ H { s with heap:=l,toks:=L }:=I.turned (λb o f e=>N b o (by simpa using f) e) F G A B y;obtain⟨o,e,Q,d⟩:=id j;exact⟨_,rfl,aJk (s:={ s with heap:=l,toks:=L }) e Q d (by decide) ⟨.str ⟨#[c]⟩,H,M,⟨u,rfl⟩,⟨rfl,by rw[aUg C]⟩,j,λb f=>(m b f).1⟩⟩
 done:=by intro X D p n J i g s σ H E I m a q;subst D p n;obtain⟨F,G,S,A,B,y⟩:=m it (by simp);exact wpAny_pyNext_ascii_end (I.ok.hd J) a (Array.getElem?_eq_none_iff.mpr q) λl O=>⟨rfl,I.turned (t':=s.toks) (λb o f e=>O b o f e) F G A B y⟩
 self:=λ_ _ _ _ _ a h=>wpAny_pyIter_striter_ascii a h
def aR3 {P:Program}{w:World}{K:bF4}{tg:Expr}(it:Addr)(x:Str)(t:Tok):Turn P w K tg (Its x) [it] it (λi h=>h.IsStrIter it "str_iterator" x t i) where
 mem:=by simp
 obj:=λi h a b f=>by
  have e:b=it:=by simpa using f
  subst e;obtain⟨o,e,c,d⟩:=a;exact⟨o,e,λv z=>by rw[d] at z;cases z⟩
 keep:=λi h l a k=>let ⟨o,ho,r⟩:=a;⟨o,k it (by simp) o ho,r⟩
 item:=by intro X D p n J i g s σ H E I m a q;subst D p n;obtain⟨F,G,S,A,B,y⟩:=m it (by simp);refine (Walks.strWide (prog:=X.prog) (w:=X.w) (I.ok.hd J) it x t).item i s _ _ q a λv l L R j N=>?_;obtain⟨c,u,C,rfl⟩:=R;have M:Inv X g σ H { s with heap:=l,toks:=L }:=I.turned (λb o f e=>N b o (by simpa using f) e) F G A B y;obtain⟨o,e,Q,d⟩:=id j;exact⟨_,rfl,aJk (s:={ s with heap:=l,toks:=L }) e Q d (by decide) ⟨.str ⟨#[c]⟩,H,M,⟨u,rfl⟩,⟨rfl,by rw[aUg C]⟩,j,λb f=>(m b f).1⟩⟩
 done:=by intro X D p n J i g s σ H E I m a q;subst D p n;obtain⟨F,G,S,A,B,y⟩:=m it (by simp);exact wpAny_pyNext_wide_end (I.ok.hd J) a (Array.getElem?_eq_none_iff.mpr q) λl O=>⟨rfl,I.turned (t':=s.toks) (λb o f e=>O b o f e) F G A B y⟩
 self:=λ_ _ _ _ _ a h=>wpAny_pyIter_striter_wide a h
section
variable {X:Cx}{tg:Expr}
def bBf (tl:TE):TI:=fun σ H R=>tl σ H λx H1=>∃z,x=.str z/\R (Its z) H1
def bAu (n:PE X l tl):PI X tg l (bBf tl):=by
 intro c s σ H R I h;refine thn (n c s σ H _ I h) λv a ⟨x,f,d,m,j⟩=>?_;obtain⟨z,e,q⟩:=j;subst e;obtain⟨t,rfl⟩:=m;have i:∀b∈[a.heap.objs.size],rY X c f b:=λb k=>by
  have e:b=a.heap.objs.size:=by simpa using k
  subst e;exact d.aLi (d8 _) (d.hok.fresh (d8 _))
 cases g:z.cps.all (·<128)
 ·exact wpAny_pyIter_wide g ⟨a.heap.objs.size,[a.heap.objs.size],_,_,f,rfl,d.kept (t':=a.toks) λb o e=>c7 _ e,aR3 _ z t,⟨_,j8 _ rfl,rfl,rfl⟩,i,q⟩
 ·exact wpAny_pyIter_ascii g ⟨a.heap.objs.size,[a.heap.objs.size],_,_,f,rfl,d.kept (t':=a.toks) λb o e=>c7 _ e,aQu _ z t,⟨_,j8 _ rfl,rfl,rfl⟩,i,q⟩
def aYw {x:Str}{g:TG}{tb:TS}{D:Ends}{σ:St}{H:Hp}(c:Nat->St->Hp->Prop)(a:c 0 σ H)
  (b:∀i σ H,i<x.cps.size->c i σ H->g (.str (sgn x i)) σ H fun σ2 H2=>tb { D with nx:=c (i+1),ct:=c (i+1),bk:=D.nx } σ2 H2) (hd:∀σ H,c x.cps.size σ H->D.nx σ H) :
  ∃W:Nat->Nat->St->Hp->Prop,(∃m,W 0 m σ H)/\∀i m σ H,W i m σ H ->
   ((Its x).stop i H/\D.nx σ H)\/((Its x).go i H/\∃N:St->Hp->Prop,(∀σ' H',N σ' H'->∃m',m'<m/\W (i+1) m' σ' H')/\∀v H',(Its x).yld i H v H'->g v σ H' fun σ2 H2=>tb { D with nx:=N,ct:=N,bk:=D.nx } σ2 H2):=
 aXh (item:=λi=>.str (sgn x i)) c (λi H h=>h) (λH=>d8 _) (λi H v H' _ y=>y) a b hd
def bCc:V->List V->Hp->VK->Prop:=λx vs H Q=>∃a b i rest,x=.str a/\vs=[.str b]/\Builtin.Str.occurrences a b 0 a.length 1=i::rest/\Q (.int (i:Nat)) H
def aTx:MtR X "str.index" bCc:=by intro d s σ H x l v k Q I f e h;obtain⟨a,b,i,c,rfl,rfl,g,q⟩:=h;obtain⟨t,rfl⟩:=f;obtain⟨u,rfl,j,rfl⟩:=e.one;exact SC.index g ⟨.int (i:Nat),H,I.tok _,⟨_,rfl⟩,q⟩
def aM7 (x:V)(T:String):Option Bool:=match x with
 |.int _=>if T = "int" then some true else if T = "bool" then some false else if T = "str" then some false else none
 |.str _=>if T = "int" then some false else if T = "bool" then some false else if T = "str" then some true else none
 |.bl _=>if T = "int" then some true else if T = "bool" then some true else if T = "str" then some false else none
 |_=>none
def bDx:List V->Hp->VK->Prop:=λxs H Q=>∃x T b,xs=[x,.ty T]/\aM7 x T=some b/\Q (.bl b) H
theorem wL:cH X (.builtin "isinstance") bDx:=by
 intro c s σ H m l Q I r h;obtain⟨x,T,b,rfl,e,q⟩:=h;obtain⟨u,v,rfl,g,j⟩:=r.two;cases j;have f:∀{k:Bool},some k=some b->EP X c σ Q (.bool k) s:=λe=>by cases e;exact⟨.bl _,H,I,rfl,q⟩
 have d:∀{k:Bool},some k=some b->EP X c σ Q (.bool k) { s with toks:=s.toks+1 }:=λe=>by cases e;exact⟨.bl _,H,I.tok _,rfl,q⟩
 cases x with
 |int i=>
  obtain⟨t,rfl⟩:=g;unfold aM7 at e;dsimp only at e
  split at e
  ·rename_i a;subst a;exact IsiPair.int_int (f e)
  split at e
  ·rename_i a;subst a;exact IsiPair.int_bool (d e)
  split at e
  ·rename_i a;subst a;exact IsiPair.int_str (d e)
  ·cases e
 |str z=>
  obtain⟨t,rfl⟩:=g;unfold aM7 at e;dsimp only at e
  split at e
  ·rename_i a;subst a;exact IsiPair.str_int (d e)
  split at e
  ·rename_i a;subst a;exact IsiPair.str_bool (d e)
  split at e
  ·rename_i a;subst a;exact IsiPair.str_str (f e)
  ·cases e
 |bl z=>
  cases g;unfold aM7 at e;dsimp only at e
  split at e
  ·rename_i a;subst a;exact IsiPair.bool_int (f e)
  split at e
  ·rename_i a;subst a;exact IsiPair.bool_bool (f e)
  split at e
  ·rename_i a;subst a;exact IsiPair.bool_str (d e)
  ·cases e
 |_=>cases (show (none:Option Bool)=some b from e)
end
def small (h:n<=1000):n<=sizeLine:=bDI (mL h)
def aCc:Vals [] []:=.nil
def lK (r:RelV x u)(t:Vals xs us):Vals (x::xs) (u::us):=.cons r t
def cL:Expr->Bool
 |.Starred ..=>false
 |_=>true
def aM (h:cL e=true):starEach (e::es) env=(false,eval e env)::starEach es env:=by cases e <;> first|rfl|cases h
def bCp (b:PE X e te)(a:PA X es t)(c:cL e=true:=by rfl) :
  PA X (e::es) (dH te t):=aY9 b a (aM c)
def bDc (b:Gl X x)(a:∃u,X.mg x=some u/\RelV v u)(hd:(x == ("__debug__":Str))=false:=by decide):PE X (.Name x pos) (tC v):=by obtain⟨u,a,r⟩:=a;exact aWi b a r hd
section
variable {P:Program}{w:World}{K:bF4}{mg:bF7}{base:Heap}
def Dn (K:bF4)(mg:bF7)(x:Str)(st:Stmt)(ps:List Str):Prop:=∃f fd,Fun K x x st f fd/\Binds K fd ps []/\mg x=some (.ref f)
def Ok (P:Program)(w:World)(K:bF4)(mg:bF7)(base:Heap)(k:Nat)(x:Str)(ps:List Str)(sp:Sp):Prop:=
 ∃f fd,mg x=some (.ref f)/\PySem.W.keepIn K (.ref f)=true/\Binds K fd ps []/\gK P w K mg base CX0 k f fd ps sp
theorem Ok.mono (h:Ok P w K mg base j x ps sp)(g:j<=k):Ok P w K mg base k x ps sp:=by obtain⟨f,e,c,a,b,d⟩:=h;exact⟨f,e,c,a,b,d.mono g⟩
def Ok.of {x:Str}{st:Stmt}{N ps:List Str}{k:Nat}{sp:Sp}(D:Dn K mg x st ps)(S:aG N ps (aC st))(c:∀vs H Q E,sp vs H Q E->vs.length=ps.length)
  (a:∀(f:Addr) (cdv:Value) (A:Around) (outer:List Env) (s:Shared) (H:Hp) (vs:List V) (Q:VK) (E:XK),Room k (A.deeper (envOfC x (aC st) s.heap.objs.size f cdv))->sp vs H Q E ->
   ∃t,PSs (wY CX0 P w K mg base N x (aC st) f cdv A outer s H E).nox (cY st) t/\t { nx:=λ_ H'=>Q .non H',rt:=Q } (start N vs) H):Ok P w K mg base (k+1) x ps sp:=by
 obtain⟨f,d,F,B,m⟩:=D;exact⟨f,d,m,F.kp,B,F.ok S c λcdv A outer s H vs Q E b h=>a f cdv A outer s H vs Q E b h⟩
end
section
variable {X:Cx}{k:Nat}{ps:List Str}{sp:Sp}{x:Str}{p pos:Pos}{e:Expr}{es:List Expr}{t:TA}
def bDd (G:Ok X.prog X.w X.K X.mg X.base k x ps sp)(i:Room k X.A)(l:Gl X x)(j:PA X (e::es) t)(g:(x == ("__debug__":Str))=false:=by decide)
  (m:starEach (e::es) X.env=(false,eval e X.env)::starEach es X.env:=by rfl) (b:(backTo pos (starEach es X.env)).any (·.1)=false:=by rfl) :
  PE X (.Call (.Name x p) (e::es) [] pos) (aBc sp [] E0 t):=by
 obtain⟨f,n,c,d,a,h⟩:=G;exact aWh h i l c d a .nil aCb j g m b
def bAf (G:Ok X.prog X.w X.K X.mg X.base k x ps sp)(g:Room k X.A)(h:Gl X x)(d:(x == ("__debug__":Str))=false:=by decide) :
  PE X (.Call (.Name x p) [] [] pos) (aBc sp [] E0 aAq):=by
 obtain⟨f,i,b,c,a,e⟩:=G;exact aVd e g h b c a .nil aCb d
end
theorem tZ (f:Str × NameKind->List (Str × Addr)->Sem (ForInStep (List (Str × Addr))))
  (j:∀n r,f (n,.free) r=(cellOf env n >>= λa=>pure (.yield ((n,a)::r)))) (i:∀n k r,k≠.free->f (n,k) r=pure (.yield r)) :
  ∀(names:List (Str × NameKind)) (acc:List (Str × Addr)),(∀y∈names,y.2=.free->∃c,env.cells.lookup y.1=some c) ->
  ∃cl,forIn names acc f=(pure (cl++acc):Sem _)/\(∀p∈cl,env.cells.lookup p.1=some p.2/\(p.1,NameKind.free)∈names)/\∀y,(y,NameKind.free)∈names->∃c,(y,c)∈cl
 |[],acc,_=>⟨[],by simp,λ_ h=>(nomatch h),λ_ h=>(nomatch h)⟩
 |(n,k)::r,acc,h=>by
  by_cases g:k=.free
  ·subst g;obtain⟨c,l⟩:=h (n,.free) j0 rfl;obtain⟨cl,e,b,d⟩:=tZ f j i r ((n,c)::acc) λy hy=>h y (j5 _ hy);refine⟨cl++[(n,c)],?_,λp hp=>?_,λy hy=>?_⟩
   ·rw[bDO,j];have m:cellOf env n=pure c:=by unfold cellOf;rw[l]
    rw[m,pure_bind,pure_bind];show forIn r ((n,c)::acc) f=_;rw[e,bCY];rfl
   ·rcases List.mem_append.mp hp with hp|hp
    ·exact⟨(b p hp).1,j5 _ (b p hp).2⟩
    ·obtain rfl:=List.mem_singleton.mp hp;exact⟨l,j0⟩
   ·rcases List.mem_cons.mp hy with e|hy
    ·cases e;exact⟨c,by simp⟩
    ·obtain⟨o,q⟩:=d y hy;exact⟨o,bBQ _ q⟩
  ·obtain⟨cl,e,b,d⟩:=tZ f j i r acc λy hy=>h y (j5 _ hy);refine⟨cl,?_,λp hp=>⟨(b p hp).1,j5 _ (b p hp).2⟩,λy hy=>?_⟩
   ·rw[bDO,i n k acc g,pure_bind];exact e
   ·rcases List.mem_cons.mp hy with e|hy
    ·cases e;exact absurd rfl g
    ·exact d y hy
theorem aMd (h:∀y∈scope.names,y.2=.free->∃c,env.cells.lookup y.1=some c) :
  ∃cl,closureFor scope env=pure cl/\(∀p∈cl,env.cells.lookup p.1=some p.2/\(p.1,NameKind.free)∈scope.names)/\∀y,(y,NameKind.free)∈scope.names->∃c,(y,c)∈cl:=by
 unfold closureFor;obtain⟨cl,e,d,b⟩:=tZ (env:=env) (λx r=>match x with|(name,kind)=>if (kind == NameKind.free)=true then do let a <-cellOf env name;pure (.yield ((name,a)::r)) else pure (.yield r))
  (λn r=>rfl) (λn k r f=>by
   have:(k == NameKind.free)=false:=by simpa using f
   simp only[this,bAU,if_false]) scope.names [] h
 refine⟨cl,?_,d,b⟩;rw[bBB] at e;refine Eq.trans ?_ e;first
 |rfl
 |simp
theorem lookup_mem {α β:Type}[BEq α][LawfulBEq α]{a:α}{b:β}:∀{l:List (α × β)},(a,b)∈l->∃b',l.lookup a=some b'
 |(x,y)::r,h=>by
  rw[bCV];by_cases e:(a == x)=true
  ·exact⟨y,by rw[e]⟩
  ·have c:(a == x)=false:=by simpa using e
   rw[c];rcases List.mem_cons.mp h with z|z
   ·cases z;simp at e
   ·exact lookup_mem z
theorem uX {env:Env}{y:Str}{k:NameKind}:∀{names:List (Str × NameKind)},names.lookup y=some .free ->
  (names.map λx=>match x with|(n,k)=>if (k == NameKind.free && env.scope.kind == ScopeKind.function && env.kindOf n == some NameKind.cell) then (n,NameKind.cell) else (n,k)).lookup y=some .cell \/
  (names.map λx=>match x with|(n,k)=>if (k == NameKind.free && env.scope.kind == ScopeKind.function && env.kindOf n == some NameKind.cell) then (n,NameKind.cell) else (n,k)).lookup y=some .free
 |[],h=>by simp at h
 |(n,k')::r,h=>by
  rw[bAL];rw[bCV] at h;by_cases e:(y == n)=true
  ·rw[e] at h;cases h;by_cases q:((NameKind.free == NameKind.free) && env.scope.kind == ScopeKind.function && env.kindOf n == some NameKind.cell)=true
   ·left;simp only[q,if_true,bCV,e]
   ·right;have g:=Bool.eq_false_iff.mpr q;simp only[g,bAU,if_false,bCV,e]
  ·have b:(y == n)=false:=by simpa using e
   rw[b] at h;have d:=uX (env:=env) (k:=k) h;have a:∀z:Str × NameKind,z.1=n->(List.lookup y (z::(r.map λx=>match x with|(n,k)=>if (k == NameKind.free && env.scope.kind == ScopeKind.function && env.kindOf n == some NameKind.cell) then (n,NameKind.cell) else (n,k)))) =
     List.lookup y (r.map λx=>match x with|(n,k)=>if (k == NameKind.free && env.scope.kind == ScopeKind.function && env.kindOf n == some NameKind.cell) then (n,NameKind.cell) else (n,k)):=λz c=>by
    obtain⟨j,i⟩:=z;cases c;rw[bCV,b]
   have f:(match ((n,k'):Str × NameKind) with|(n,k)=>if (k == NameKind.free && env.scope.kind == ScopeKind.function && env.kindOf n == some NameKind.cell) then (n,NameKind.cell) else (n,k)).1=n:=by
    dsimp only
    split <;> rfl
   rw[a _ f];exact d
theorem wC {env:Env}{y:Str}:∀{names:List (Str × NameKind)},(∀z∈names,z.2≠.cell) ->
  ((names.map λx=>match x with|(n,k)=>if (k == NameKind.free && env.scope.kind == ScopeKind.function && env.kindOf n == some NameKind.cell) then (n,NameKind.cell) else (n,k)).lookup y=some .cell \/
  (names.map λx=>match x with|(n,k)=>if (k == NameKind.free && env.scope.kind == ScopeKind.function && env.kindOf n == some NameKind.cell) then (n,NameKind.cell) else (n,k)).lookup y=some .free)->(y,NameKind.free)∈names
 |[],_,h=>by simp at h
 |(n,k')::r,hc,h=>by
  rw[bAL] at h;by_cases e:(y == n)=true
  ·have d:y=n:=by simpa using e
   subst d;have f:k'=.free:=by
    by_cases q:((k' == NameKind.free) && env.scope.kind == ScopeKind.function && env.kindOf y == some NameKind.cell)=true
    ·rw[bAS,bAS] at q;simpa using q.1.1
    ·have i:=Bool.eq_false_iff.mpr q;simp only[i,bAU,if_false,bCV,e] at h;rcases h with h|h
     ·cases h;exact absurd rfl (hc (y,.cell) j0)
     ·cases h;rfl
   subst f;exact j0
  ·have c:(y == n)=false:=by simpa using e
   have a:∀z:Str × NameKind,z.1=n->(List.lookup y (z::(r.map λx=>match x with|(n,k)=>if (k == NameKind.free && env.scope.kind == ScopeKind.function && env.kindOf n == some NameKind.cell) then (n,NameKind.cell) else (n,k)))) =
     List.lookup y (r.map λx=>match x with|(n,k)=>if (k == NameKind.free && env.scope.kind == ScopeKind.function && env.kindOf n == some NameKind.cell) then (n,NameKind.cell) else (n,k)):=λz b=>by
    obtain⟨l,j⟩:=z;cases b;rw[bCV,c]
   have g:(match ((n,k'):Str × NameKind) with|(n,k)=>if (k == NameKind.free && env.scope.kind == ScopeKind.function && env.kindOf n == some NameKind.cell) then (n,NameKind.cell) else (n,k)).1=n:=by
    dsimp only
    split <;> rfl
   rw[a _ g] at h;exact j5 _ (wC (λz b=>hc z (j5 _ b)) h)
section
variable {prog:Program}{w:World}{A:Around}{E:bF5}{R:Result->Shared->Prop}{s:Shared}
theorem aQ7 (I:Nat->Shared->Prop)
  (f:∀n s,I n s->wpAny (model prog w) A (pyNext it) (λr s₁=>match r with
   |none=>R (.ok .next) s₁
   |some v=>wpAny (model prog w) A (letOwnedTupleGo target it v) (λ_ s'=>wpAny (model prog w) A (assign target env v) (λ_ s₂=>
     wpAny (model prog w) A (forIn ifs true λc r=>if r=true then do let ok <-isTrue c env (eval c env);pure (ForInStep.yield ok) else pure (ForInStep.yield r)) (λok s₃=>
      if ok=true then wpAny (model prog w) A (eval elt env) (λx s₄=>
       wpAny (model prog w) A (call (.builtin "list.append") [acc,x]) (λ_ s₅=>∃m,m<n/\I m s₅) (notedBy (model prog w) A env λe s'=>R (.error e) s') s₄) (notedBy (model prog w) A env λe s'=>R (.error e) s') s₃
      else ∃m,m<n/\I m s₃) (notedBy (model prog w) A env λe s'=>R (.error e) s') s₂) (notedBy (model prog w) A env λe s'=>R (.error e) s') s') (notedBy (model prog w) A env λe s'=>R (.error e) s') s₁)
   (notedBy (model prog w) A env λe s'=>R (.error e) s') s)
  (n:Nat) (h:I n s):codeAny (model prog w) A (.compLoop (.ListComp elt [⟨target,iter,ifs,0⟩] scope pos) 0 it acc env) R s:=by
 refine codeAny_loop rfl I (λn s i=>?_) n h;show wpAny _ A ((compTurn (.ListComp elt [⟨target,iter,ifs,0⟩] scope pos) 0 it acc env).onRaise (λx=>do noteFrame x env;theTreesLotGoes x)) _ _ s;refine wpAny_noted ?_;rw[compTurn_list];refine b7 (bEC (b7 (bAX (f n s i) (λr s₁ g=>?_) λ_ _ a=>a)));cases r with
 |none=>exact d7 g
 |some v=>
  refine b7 (bAX g (λ_ s' b=>b7 (bAX b (λ_ s₂ k=>b7 (bAX k (λok s₃ d=>?_) λ_ _ a=>a)) λ_ _ a=>a)) λ_ _ a=>a);cases ok with
  |false=>exact d7 ⟨rfl,d⟩
  |true=>exact b7 (b7 (bAX d (λx s₄ j=>b7 (bAX j (λ_ s₅ l=>d7 (d7 ⟨rfl,l⟩)) λ_ _ a=>a)) λ_ _ a=>a))
end
def cxC (X:Cx)(N:List Str)(scope:Scope)(cl:List (Str × Addr))(s:Shared)(H:Hp)(fp:List Addr):Cx:=
 { X with N:=N,s₀:=s,H₀:=H,env:=compEnvC scope cl s.heap.objs.size X.env,outer:=X.stack,stack:=X.stack,ex:=fp,fn:=λ_=>false,pn:=[],xe:=λ_ _=>False }
def aSc (X:Cx)(ifs:List Expr)(tt:TT):Prop:=
 ∀bF8 s σ H Q,Inv X bF8 σ H s->tt σ H Q ->
  wpAny (model X.prog X.w) X.A (forIn ifs true λc r=>if r=true then do let ok <-isTrue c X.env (eval c X.env);pure (ForInStep.yield ok) else pure (ForInStep.yield r)) (TP X bF8 σ Q) X.xe s
def mW:TT:=λ_ H Q=>Q true H
def bCi:aSc X [] mW:=λ_ _ _ H _ I h=>wpAny_tests_nil ⟨H,I,h⟩
def bBt (h:PT X c tc):aSc X [c] tc:=λa s σ H Q I q=>wpAny_tests_one (h a s σ H Q I q)
structure xY (scope:Scope)(N:List Str):Prop where
 cell:∀y∈scope.names,y.2≠.cell
 kind:scope.kind=.function
 names:∀y∈scope.names,y.2=.local->scope.names.lookup y.1=some .local
 free:∀y∈scope.names,y.2=.free->scope.names.lookup y.1=some .free
def Cap (X:Cx)(scope:Scope)(N:List Str)(σ σ':St):Prop:=
 σ'.length=N.length/\∀(i:Nat) (y:Str) (v:V),N[i]?=some y->σ'[i]?=some (some v)->(y,NameKind.free)∈scope.names/\∃j:Nat,X.N[j]?=some y/\σ[j]?=some (some v)/\Vis X.env.scope y
def aUu {X:Cx}{bF8:bF6}{σ σ':St}{H:Hp}{s:Shared}{scope:Scope}{N:List Str}{cl:List (Str × Addr)}{fp:List Addr}{h1:Heap}{tk:Nat}{m1:bF7}
  (I:Inv X bF8 σ H s) (C:xY scope N) (W:∀y,(y,NameKind.free)∈scope.names->X.env.kindOf y=some .cell\/X.env.kindOf y=some .free)
  (p1:∀p∈cl,X.env.cells.lookup p.1=some p.2/\(p.1,NameKind.free)∈scope.names) (p2:∀y,(y,NameKind.free)∈scope.names->∃c,(y,c)∈cl)
  (J:Cap X scope N σ σ') (K:∀b∈fp,rY X bF8 H b) (S:∀b∈fp,b<s.heap.objs.size)
  (hn:h1.Ns s.heap.objs.size m1) (A:∀b o,s.heap.get? b=some o->h1.get? b=some o) :
  Inv (cxC X N scope cl s H fp) [] σ' H { s with heap:=h1,toks:=tk }:=by
 have a:=I.ok;have f:∀y c,cl.lookup y=some c->X.env.cells.lookup y=some c:=λy c e=>(p1 _ (PySem.mem_of_lookup e)).1;have w:∀y,(y,NameKind.free)∈scope.names->∃c,cl.lookup y=some c/\X.env.cells.lookup y=some c:=λy d=>by obtain⟨c,hc⟩:=p2 y d;obtain⟨E,e⟩:=lookup_mem hc;exact⟨E,e,f y E e⟩
 have t:∀b∈fp,b∉frs X.stack:=λb g z=>by
  obtain⟨O,G,F,_⟩:=K b g;rcases List.mem_cons.mp (I.aHv b z) with e|e
  ·exact G e
  ·exact F e
 have D:(cxC X N scope cl s H fp).Ok:=by
  refine⟨a.mod,C.kind,a.glob,a.blt,d8 _,λx y c h1 R=>a.inj x y c (f x c h1) (f y c R),λy d=>?_,λy c h _=>?_,a.hd,a.frames,.inl rfl,λb g=>?_,I.bs,bAE a.bsz I.sz,
   λb o e g=>?_,t,I.stack,I.rC⟩
  ·obtain⟨c,e,_⟩:=w y (wC C.cell d);exact⟨c,e⟩
  ·exact absurd (show false=true from h) v5
  ·obtain⟨O,G,F,L,M,U⟩:=K b g;exact⟨v8 (S b g),λx c e=>M x c (f x c e)⟩
  ·obtain⟨O,G,F,L,M,U⟩:=K b g;rcases L with z|z
   ·exact a.noex b o e z
   ·exact absurd (z9 (j9 e) (bAE a.bsz z)) (bBM _)
 refine⟨D,rfl,I.bare,Un.kept A,⟨m1,hn,λi y v e1 P e3=>?_⟩,λy c e=>?_,I.hok.fresh (d8 _),λy c e=>I.freeC y c (f y c e),λp hp=>absurd (show p∈([]:bF6) from hp) (by simp),I.hok.kept A,J.1⟩
 ·obtain⟨d,j,e4,Y,Z⟩:=J.2 i y v e1 P;obtain⟨m,_,T⟩:=I.loc;obtain⟨u,r,l⟩:=T j y v e4 Y Z;refine⟨u,r,.inr ?_⟩;rcases l with⟨k,_⟩|⟨k,c,e,z⟩
  ·rcases W y d with q|q <;> (rw[k] at q;cases q)
  ·obtain⟨E,V,n⟩:=w y d;rw[e] at n;cases n;have Q:=uX (env:=X.env) (k:=.free) (C.free (y,.free) d rfl);refine⟨Q,c,V,?_⟩;obtain⟨o,B,hd⟩:=z;exact⟨o,A _ _ B,hd⟩
 ·obtain⟨v,o,B,hd⟩:=I.cell y c (f y c e);exact⟨v,o,A _ _ B,hd⟩
def jA (X:Cx)(scope:Scope)(N:List Str)(wi:TI)(g:TG)(tt:TT)(te:TE):TE:=fun σ H Q=>∃σ0,Cap X scope N σ σ0/\wi σ H λJ H1=>∀D,H1 D=none->∃W:Nat->Nat->St->Hp->List V->Prop,(∃m,W 0 m σ0 (upd H1 D (.lst [])) []) /\
 ∀i m σ' H' ys,W i m σ' H' ys->H' D=some (.lst ys)/\((J.stop i H'/\Q (.ref D) H')\/(J.go i H'/\∀x H2,J.yld i H' x H2->g x σ' H2 fun σ3 H3=>tt σ3 H3 λb H4=>
  if b=true then te σ3 H4 λy H5=>H5 D=some (.lst ys)/\ys.length<sizeLine/\∃m',m'<m/\W (i+1) m' σ3 (upd H5 D (.lst (ys++[y]))) (ys++[y]) else H4 D=some (.lst ys)/\∃m',m'<m/\W (i+1) m' σ3 H4 ys))
theorem aE5 {X:Cx}{av a9 aq:Expr}{as:List Expr}{scope:Scope}{pos p9:Pos}{N:List Str}{wi:TI}{g:TG}{tt:TT}{te:TE}{use:Option (Value->Sem Unit)}{QQ:bF5}{a7:bF6}{s:Shared}{σ:St}{H:Hp}{Qv:VK}
  (C:xY scope N) (ao:∀y,(y,NameKind.free)∈scope.names->X.env.kindOf y=some .cell\/X.env.kindOf y=some .free) (hc:X.calm=true)
  (hi:PI X a9 aq wi)
  (a:∀cl s H fp,PG (cxC X N scope cl s H fp) a9 g/\aSc (cxC X N scope cl s H fp) as tt/\PE (cxC X N scope cl s H fp) av te)
  (hs:∀x,foldedSetIterable aq X.env x=pure x) (I:Inv X a7 σ H s) (hq:jA X scope N wi g tt te σ H Qv)
  (a4:∀(D fr:Addr) (H5:Hp) (s6:Shared),(∃m6,s6.heap.Ns fr m6)->(∀h',(∀b o,b≠fr->s6.heap.get? b=some o->h'.get? b=some o)->Inv X a7 σ H5 { s6 with heap:=h' })->rY X a7 H5 fr->Qv (.ref D) H5->compPost (model X.prog X.w) X.A X.xe use QQ (.ref D) fr (.ok .next) s6) :
  wpAny (model X.prog X.w) X.A (comprehension (.ListComp av [⟨a9,aq,as,0⟩] scope pos) scope X.env p9 (newList []) false (eval aq X.env) use) QQ X.xe s:=by
 obtain⟨σ0,am,hq⟩:=hq;obtain⟨cl,aj,p1,p2⟩:=aMd (scope:=scope) (env:=X.env) (λy hy hk=>by obtain⟨n,k⟩:=y;cases hk;exact I.ok.has n (ao n hy))
 refine wpAny_comprehension_free (use:=use) rfl hs aj C.kind C.names (thn (hi a7 s σ H _ I hq) λxv s1 h1=>thn h1 λaw f h2=>?_);obtain⟨it,fp,tn,J,G,rfl,I2,T,a0,f2,q2⟩:=h2;refine bAF (wpAny_newFunctionEnv C.cell (by intro y hy;simp at hy) (λh₁ E F=>?_) C.kind);dsimp only at E F ⊢;have hD:G f.heap.objs.size=none:=I2.hok.fresh (d8 _);have I3:Inv X a7 σ (upd G f.heap.objs.size (.lst [])) { f with heap:=f.heap.push { cls:=.type "list",dict:=none,data:=.seq ([]:List Value).toArray } }:=
  I2.laid (t':=f.toks) (λb u e=>c7 _ e) (d8 _) ⟨bAC _,[],0,.nil,j8 _ rfl⟩
 generalize a8:({ f with heap:=f.heap.push { cls:=.type "list",dict:=none,data:=.seq ([]:List Value).toArray } }:Shared)=s3 at I3;have S:f.heap.push { cls:=.type "list",dict:=none,data:=.seq ([]:List Value).toArray }=s3.heap:=by rw[<-a8]
 rw[S] at E F;have a1:∀b∈fp,b<f.heap.objs.size:=λb a=>by obtain⟨o,e,_⟩:=T.obj _ _ a0 b a;exact j9 e
 have ak:∀b∈fp,b<s3.heap.objs.size:=λb a=>by rw[<-S,bBL];exact bBU (a1 b a)
 have f3:∀b∈fp,rY X a7 (upd G f.heap.objs.size (.lst [])) b:=λb a=>by obtain⟨f0,fr⟩:=f2 b a;exact⟨by rw[aK (v8 (a1 b a))];exact f0,fr⟩
 have B:∀b o,s3.heap.get? b=some o->h₁.get? b=some o:=λb o e=>F.extBut b o (v8 (j9 e)) (c7 _ e);have I4:=aUu (tk:=s3.toks) I3 C ao p1 p2 am f3 ak E B;have a6:tn 0 h₁:=T.keep _ _ _ a0 λb a o e=>B b o (by rw[<-S];exact c7 _ e);obtain⟨W,⟨m0,w0⟩,a5⟩:=q2 f.heap.objs.size hD;have V:∀{U:Hp},(∀b∈fp,U b=none)->∀b∈fp,rY (cxC X N scope cl s3 (upd G f.heap.objs.size (.lst [])) fp) [] U b:=λ{U} hn b a=>by obtain⟨e1,e2⟩:=I4.ok.exf b a;exact⟨hn b a,e1,I4.ok.exfs b a,.inl a,e2,λp hp=>absurd (show p∈([]:bF6) from hp) (by simp)⟩
 have M:∀s4:Shared,s4={ s3 with heap:=h₁,toks:=s3.toks } ->
   codeAny (model X.prog X.w) X.A (.compLoop (.ListComp av [⟨a9,aq,as,0⟩] scope pos) 0 (.ref it) (.ref f.heap.objs.size) (compEnvC scope cl s3.heap.objs.size X.env))
    (compPost (model X.prog X.w) X.A X.xe use QQ (.ref f.heap.objs.size) s3.heap.objs.size) s4:=by
  rintro s4 rfl;refine aQ7 (λn s'=>∃i σ' U ys,Inv (cxC X N scope cl s3 (upd G f.heap.objs.size (.lst [])) fp) [] σ' U s'/\tn i s'.heap/\(∀b∈fp,U b=none)/\W i n σ' U ys) ?_ m0 ⟨0,σ0,_,[],I4,a6,λb a=>(f3 b a).1,w0⟩;rintro n s5 ⟨i,σ5,H5,ys,I5,st5,fr5,w5⟩;obtain⟨ap,w5⟩:=a5 i n σ5 H5 ys w5;have j:∀{α:Type} {t:Sem α} {Q':α->Shared->Prop} {E':bF5} {s':Shared},wpAny (model X.prog X.w) X.A t Q' (λ_ _=>False) s'->wpAny (model X.prog X.w) X.A t Q' E' s':=λh=>bAX h (λ_ _ q=>q) λ_ _ z=>z.elim;rcases w5 with⟨Y,qn⟩|⟨go,step⟩
  ·refine j (thn (T.done (cxC X N scope cl s3 (upd G f.heap.objs.size (.lst [])) fp) rfl rfl rfl hc i [] s5 σ5 H5 _ I5 (V fr5) st5 Y) λr s6 ⟨hr,P⟩=>?_);subst hr;obtain⟨m6,ag,_⟩:=P.loc;refine a4 _ _ H5 s6 ⟨m6,ag⟩ (λh' kp=>?_) (I3.aLi (d8 _) P.free) qn;have O:∀b o,s3.heap.get? b=some o->b≠s3.heap.objs.size:=λb o e=>v8 (j9 e);have un:Un (frs X.stack) fp (upd G f.heap.objs.size (.lst [])) H5 s3.heap h':=by
    have u:=P.base;exact⟨λb o e n a hx=>kp b o (O b o e) (u.keep b o e n a hx),λb o e n a hx=>by
     obtain⟨sl,e1⟩:=u.slot b o e n a hx;exact⟨sl,kp b _ (O b o e) e1⟩,u.free,λb o e hx=>by
     obtain⟨o',e1⟩:=u.there b o e hx;exact⟨o',kp b _ (O b o e) e1⟩,u.tups,u.frzs,u.tbls⟩
   have ac:HOk X.prog X.w H5 h':=λb u e=>by
    refine (P.hok b u e).stay (λc v ai q=>kp c v ?_ q) (λ_ q=>q) λ_ _ q=>q;have l:H5 s3.heap.objs.size=none:=P.free;rintro rfl;rcases ai with z|z
    ·rw[z] at l;rw[l] at e;cases e
    ·rw[l] at z;cases z
   refine I3.call' (s':={ s6 with heap:=h' }) P.os un ac P.bare λb a=>?_;obtain⟨f0,f1,au,ab,f4,f5⟩:=f3 b a;exact⟨ab,f1,f4,f5⟩
  ·refine j (thn (T.item (cxC X N scope cl s3 (upd G f.heap.objs.size (.lst [])) fp) rfl rfl rfl hc i [] s5 σ5 H5 (λ_ _=>False) I5 (V fr5) st5 go) λr s6 ⟨u,hr,h6⟩=>?_);subst hr;refine j (thn h6 λ_ s7 ⟨x,H7,I7,r7,y7,Q,al⟩=>?_);obtain⟨hg,ht,he⟩:=a cl s3 (upd G f.heap.objs.size (.lst [])) fp;have aa:=I7.pinned (V al) (T.obj _ _ Q);have m:∀{L:St} {H8:Hp} {s8:Shared},Inv (cxC X N scope cl s3 (upd G f.heap.objs.size (.lst [])) fp) ([]++aCz fp s7.heap) L H8 s8->tn (i+1) s8.heap/\∀b∈fp,H8 b=none:=λ{L H8 s8} I8=>
    ⟨T.keep _ _ _ Q λb a o e=>(I8.pin (b,o) (bAM _ (bAM _ (oH a e)))).1,λb a=>by obtain⟨o,e,d⟩:=T.obj _ _ Q b a;exact (I8.pin (b,o) (bAM _ (bAM _ (oH a e)))).2.1⟩
   refine j (thn (hg _ s7 σ5 H7 x u _ aa r7 (step x H7 y7)) λ_ s8 ⟨L,H8,I8,q8⟩=>?_);refine j (thn (ht _ s8 L H8 _ I8 q8) λb s9 ⟨H9,I9,q9⟩=>?_);cases b with
   |false=>rw[if_neg v5] at q9 ⊢;obtain⟨_,m',hm,w9⟩:=q9;exact⟨m',hm,i+1,L,H9,ys,I9.qD,(m I9).1,(m I9).2,w9⟩
   |true=>rw[if_pos rfl] at q9 ⊢;refine j (thn (he _ s9 L H9 _ I9 q9) λyv ae ⟨y,Z,ad,ah,K,a3,m',hm,af⟩=>?_);refine j (thn (aE6 _ ae L Z (.ref f.heap.objs.size) [y] (.ref f.heap.objs.size) [yv] (λ_ a2=>a2=upd Z f.heap.objs.size (.lst (ys++[y]))) ad rfl (.cons ah .nil) ⟨_,_,_,rfl,rfl,K,a3,rfl⟩) λ_ ar ⟨z,a2,R,_,an⟩=>?_);subst an;exact⟨m',hm,i+1,L,_,ys++[y],R.qD,(m R).1,(m R).2,af⟩
 have a4:=codeAny_compStart_list (M { s3 with heap:=h₁,toks:=s3.toks } rfl) (T.self _ _ _ _ _ a6 (M { s3 with heap:=h₁,toks:=s3.toks } rfl));subst a8;exact a4
def aWt
  (C:xY scope N) (h:∀y,(y,NameKind.free)∈scope.names->X.env.kindOf y=some .cell\/X.env.kindOf y=some .free) (r:X.calm=true)
  (hi:PI X target iter wi)
  (d:∀cl s H fp,PG (cxC X N scope cl s H fp) target g/\aSc (cxC X N scope cl s H fp) ifs tt/\PE (cxC X N scope cl s H fp) elt te)
  (t:∀x,foldedSetIterable iter X.env x=pure x:=by intro _;rfl) :
  PE X (.ListComp elt [⟨target,iter,ifs,0⟩] scope pos) (jA X scope N wi g tt te):=by
 intro j s σ H Q I f;rw[eval_ListComp];exact aE5 C h r hi d t I f λD p m q ⟨k,a⟩ c _ l=>⟨k,a,λi n=>⟨.ref D,m,c i λb o d e=>n.extBut b o d e,rfl,l⟩⟩
end L2
namespace PySem
open Sem (wp)
namespace IfF
def aS6:typeLookup (.type "function") "__class__"=pure (some (.builtin "object.__class__")):=by rw[typeLookup_type,builtinLookup_eq_fast];kernel_rfl
def aA2:Slot "function" "__getattribute__" "object.__getattribute__":=
 .of (owner:="object") (n:="__getattribute__") (by rw[typeLookup_type,builtinLookup_eq_fast];kernel_rfl) (by decide +kernel) (by decide +kernel) (by decide +kernel)
  (by first|exact .inl (by decide +kernel)|exact .inr (by decide +kernel)) (by rw[isSubtype_type];kernel_rfl)
def aS3:entryFor table "object.__getattribute__"=some Builtin.«object.__getattribute__»:=entryFor_of_tree (by kernel_rfl)
def aAo:isSubtype (.type "function") (.type (".".intercalate ("object.__class__".cutAt '.').dropLast))=pure true:=by rw[F.owner_object_class,isSubtype_type];kernel_rfl
def sub_int:isSubtype (.type "function") (.type "int")=pure false:=by rw[isSubtype_type];kernel_rfl
def sub_bool:isSubtype (.type "function") (.type "bool")=pure false:=by rw[isSubtype_type];kernel_rfl
def aXa:isSubtype (.type "function") (.type "str")=pure false:=by rw[isSubtype_type];kernel_rfl
end IfF
section
variable {prog:Program}{w:World}{A:Around}{E:bF5}{h:Heap}{g:Array GenState}{d:Drawn}{t:Nat}{os:OsState}{a:Addr}{o:Obj}
def aH0 (i:h.get? a=some o)(c:o.cls=.type "function")(hq:R (.ok (.ret (.type "function"))) ⟨h,g,d,t,os⟩) :
  codeAny (model prog w) A (.call (.builtin "getset_descriptor.__get__") ⟨[.builtin "object.__class__",.ref a,.type "function"],[]⟩) R ⟨h,g,d,t,os⟩:=by
 have f:(⟨h,g,d,t,os⟩:Shared).TypeIs (.ref a) "function":=⟨_,i,c⟩;have b:=F.typeOf_object_class;have e:=IfF.aAo;refine bCZ F.slot_gs_get.plain F.entry_gs_get (F.slot_gs_get.check _ _ _ _ _ _ _ _ b (F.args_gs_get _ _ _) ?_)
 repeat (any_goals (first|assumption|wp_step))
 refine⟨Code.quiet_builtin _ (by decide +kernel),bBR F.entry_object_class ?_⟩
 repeat (any_goals (first|assumption|wp_step))
def aC3 (e:h.get? a=some o)(c:o.cls=.type "function")(hq:Q (.done (.ret (.type "function"))) ⟨h,g,d,t,os⟩) :
  wpAny (model prog w) A (Builtin.«object.__getattribute__» ⟨[.ref a,.str "__class__" tk],[]⟩) Q E ⟨h,g,d,t,os⟩:=by
 have i:(⟨h,g,d,t,os⟩:Shared).TypeIs (.ref a) "function":=⟨_,e,c⟩;have b:=F.typeOf_object_class;have f:=IfF.aS6;have l:=F.typeOf_object_class;have k:=F.slot_gs_get.lookup;have j:=F.slot_gs_set.lookup
 repeat (any_goals (first|assumption|wp_step))
 refine aH0 e c ?_
 repeat (any_goals (first|assumption|wp_step))
def aKr (e:h.get? a=some o)(b:o.cls=.type "function")(hq:Q (.type "function") ⟨h,g,d,t,os⟩):wpAny (model prog w) A (getAttrBy (.ref a) (.str "__class__" tk) false) Q E ⟨h,g,d,t,os⟩:=by
 have c:(⟨h,g,d,t,os⟩:Shared).TypeIs (.ref a) "function":=⟨_,e,b⟩;have i:=IfF.aA2.lookup;have f:=IfF.aA2.bind (.ref a)
 repeat (any_goals (first|assumption|wp_step))
 refine bCZ IfF.aA2.plain IfF.aS3 (IfF.aA2.check _ _ _ _ _ _ _ _ c (F.args_object_getattribute_2 _ _) (aC3 e b ?_))
 repeat (any_goals (first|assumption|wp_step))
def aEa (c:h.get? a=some o)(b:o.cls=.type "function")(hq:Q (some (.type "function")) ⟨h,g,d,t+1,os⟩):wpAny (model prog w) A (getAttr? (.ref a) "__class__") Q E ⟨h,g,d,t,os⟩:=by
 unfold getAttr? getAttrBy?
 repeat (any_goals (first|assumption|with_reducible apply aKr c b|wp_step))
def aEc (c:h.get? a=some o)(b:o.cls=.type "function")(hne:(Value.type "function" == Value.type T)=false)(hty:typeOf (.type T)=pure (.type "type"))
  (hsub:isSubtype (.type "function") (.type T)=pure false) (hq:Q (.done (.ret (.bool false))) ⟨h,g,d,t+1,os⟩) :
  wpAny (model prog w) A (Builtin.«isinstance.nested» ⟨[.ref a,.type T,.int dep tk],[]⟩) Q E ⟨h,g,d,t,os⟩:=by
 have e:(⟨h,g,d,t,os⟩:Shared).TypeIs (.ref a) "function":=⟨_,c,b⟩
 repeat (any_goals (first|assumption|with_reducible apply aEa c b|wp_step))
end
def oR (c:(Value.type "function" == Value.type T)=false)(i:typeOf (.type T)=pure (.type "type"))(b:isSubtype (.type "function") (.type T)=pure false) :
  Meets (Builtin.«isinstance» ⟨[.ref a,.type T],[]⟩) (λ_ R s=>(∃o,s.heap.get? a=some o/\o.cls=.type "function")/\R (.ok (.ret (.bool false))) { s with toks:=s.toks+1 }):=
 λ_ _ _ _ s j=>by obtain⟨h,g,d,t,l⟩:=s;obtain⟨⟨o,k,f⟩,e⟩:=j;exact isinstance_outer (aEc k f c i b e)
section
variable {prog:Program}{w:World}{A:Around}{E:bF5}{s:Shared}{Q:bF5}{a:Addr}{o:Obj}
def aN5 (c:s.heap.get? a=some o)(b:o.cls=.type "function")(h:Q (.bool false) { s with toks:=s.toks+1 }):wpAny (model prog w) A (call (.builtin "isinstance") [.ref a,.type "int"]) Q E s:=
 call_isinstance (oR (by decide) F.isi_meta_int IfF.sub_int) ⟨⟨o,c,b⟩,h⟩
def aJz (c:s.heap.get? a=some o)(b:o.cls=.type "function")(h:Q (.bool false) { s with toks:=s.toks+1 }):wpAny (model prog w) A (call (.builtin "isinstance") [.ref a,.type "bool"]) Q E s:=
 call_isinstance (oR (by decide) F.isi_meta_bool IfF.sub_bool) ⟨⟨o,c,b⟩,h⟩
def aMi (c:s.heap.get? a=some o)(b:o.cls=.type "function")(h:Q (.bool false) { s with toks:=s.toks+1 }):wpAny (model prog w) A (call (.builtin "isinstance") [.ref a,.type "str"]) Q E s:=
 call_isinstance (oR (by decide) F.isi_meta_str IfF.aXa) ⟨⟨o,c,b⟩,h⟩
end
end PySem
namespace L2
open PySem PySem.Spec PyProof.Rows
section
variable {X:Cx}
def PE.imp (h:PE X e t)(k:∀σ H Q,t' σ H Q->t σ H Q):PE X e t':=λa s σ H Q I q=>h a s σ H Q I (k σ H Q q)
def bE7 (K:bF4):List V->Hp->VK->Prop:=λxs H Q=>∃(p:Addr) (bs:List Bool),xs=[.ref p]/\SqL K H p (bs.map V.bl)/\Q (.bl (bs.all id)) H
def all_range (bs:List Bool):(List.range bs.length).all (λi=>bs.getD i false)=bs.all id:=by
 rw[bCG,bBZ,bBZ];constructor
 ·intro h b c;obtain⟨i,a,e⟩:=List.mem_iff_getElem.mp c;have:=h i (List.mem_range.mpr a);rw[j4,b8 a] at this;rw[<-e];exact this
 ·intro h i a;have a:=List.mem_range.mp a;rw[j4,b8 a];exact h _ (bAT a)
def jT (R:X.calm=true):cH X (.builtin "all") (bE7 X.K):=by
 intro x s σ H P J Q I r h;obtain⟨p,c,rfl,w,q⟩:=h;obtain⟨u,rfl,y⟩:=r.one;cases y;obtain⟨d,t,g,N⟩:=I.list w;have k:=t.length;rw[j6] at k;have l:p≠s.heap.objs.size:=by obtain⟨o,C,_⟩:=g.isList;exact v8 (j9 C)
 refine call_all_walk (bCO g.isList ?_);refine⟨s.heap.objs.size,_,_,_,_,_,λi=>c.getD i false,rfl,Walks.list (show X.A.in1.handled=none from I.ok.hd R) _ p l d.toArray,⟨⟨_,j8 _ rfl,rfl,rfl⟩,?_⟩,?_,λL M G=>?_⟩
 ·exact g.isList.at λo e=>c7 _ e
 ·intro i v D E O F a;have f:d[i]?=some v:=by simpa using F
  have m:i<c.length:=by rw[k];exact (List.getElem?_eq_some_iff.mp f).1
  obtain⟨u,n,B⟩:=t.get (by rw[v7,b8 m];rfl);rw[f] at n;cases n;cases B;have e:c.getD i false=c[i]:=by rw[j4,b8 m];rfl
  replace a:E (c.getD i false) D:=a;rw[e] at a;exact bBC a
 ·have e:(List.range d.toArray.size).all (λi=>c.getD i false)=c.all id:=by rw[d9,<-k];exact all_range c
  rw[e];refine⟨.bl (c.all id),H,?_,rfl,q⟩;exact I.kept λb o j=>G b o (by
   intro z;have:b=s.heap.objs.size:=by simpa using z
   rw[this] at j;exact absurd (j9 j) (bBM _)) (c7 _ j)
inductive Rk (K:bF4)(H:Hp):V->String->Prop
 |non:Rk K H .non "NoneType"
 |lst {a xs}:SqL K H a xs->Rk K H (.ref a) "list"
 |tup {a xs}:SqT K H a xs->Rk K H (.ref a) "tuple"
 |dct {a kvs}:H a=some (.dK kvs)->Rk K H (.ref a) "dict"
 |fn {a o}:K.lookup a=some o->o.cls=.type "function"->Rk K H (.ref a) "function"
def aZ0 (K:bF4):List V->Hp->VK->Prop:=λxs H Q=>∃x k T,xs=[x,.ty T]/\Rk K H x k/\(T = "int"\/T = "bool"\/T = "str")/\Q (.bl false) H
theorem rG:cH X (.builtin "isinstance") (aZ0 X.K):=by
 intro f s σ H w t Q I r h;obtain⟨x,k,T,rfl,l,b,q⟩:=h;obtain⟨u,v,rfl,d,j⟩:=r.two;cases j;have a:EP X f σ Q (.bool false) { s with toks:=s.toks+1 }:=⟨.bl _,H,I.tok _,rfl,q⟩;cases l with
 |non=>
  cases d;rcases b with rfl|rfl|rfl
  ·exact IsiPair.NoneType_int a
  ·exact IsiPair.NoneType_bool a
  ·exact IsiPair.NoneType_str a
 |lst hq=>
  cases d;obtain⟨g,m,⟨o,n,e,c,_⟩,p⟩:=I.list hq;rcases b with rfl|rfl|rfl
  ·exact IsiPair.list_int e c a
  ·exact IsiPair.list_bool e c a
  ·exact IsiPair.list_str e c a
 |tup hq=>
  cases d;obtain⟨g,m,⟨o,e,c,_⟩,p⟩:=I.tuple hq;rcases b with rfl|rfl|rfl
  ·exact IsiPair.tuple_int e c a
  ·exact IsiPair.tuple_bool e c a
  ·exact IsiPair.tuple_str e c a
 |dct hq=>
  cases d;obtain⟨_,_,_,_,o,_,_,e,i,_⟩:=I.hok _ _ hq;rcases b with rfl|rfl|rfl
  ·exact IsiPair.dict_int e i.1 a
  ·exact IsiPair.dict_bool e i.1 a
  ·exact IsiPair.dict_str e i.1 a
 |fn hk hc=>
  cases d;have e:=I.kIn _ _ hk;rcases b with rfl|rfl|rfl
  ·exact aN5 e hc a
  ·exact aJz e hc a
  ·exact aMi e hc a
end
def jV {X:Cx}{scope:Scope}(h:∀z∈scope.names,z.2≠.free):∀y,(y,NameKind.free)∈scope.names->X.env.kindOf y=some .cell\/X.env.kindOf y=some .free:=λy a=>absurd rfl (h _ a)
def eE {X:Cx}{scope:Scope}(sc:Scope)(e:X.env.scope=sc)(h:∀z∈scope.names,z.2=.free->sc.names.lookup z.1=some .cell\/sc.names.lookup z.1=some .free) :
  ∀y,(y,NameKind.free)∈scope.names->X.env.kindOf y=some .cell\/X.env.kindOf y=some .free:=λy a=>by
 show X.env.scope.names.lookup y=some .cell\/X.env.scope.names.lookup y=some .free;rw[e];exact h _ a rfl
def Same.aR {K:bF4}{H H':Hp}{a:Addr}{xs:List V}(e:Same H H')(h:SqT K H a xs):SqT K H' a xs:=by
 rcases h with (h|⟨o,h⟩)|h
 ·exact .inl (.inl (e _ _ h))
 ·exact .inl (.inr ⟨o,e _ _ h⟩)
 ·exact .inr h
def aW (h:H p=none)(o:HO):Same H (upd H p o):=λb u q=>by rw[aK (aQ q h)];exact q
theorem Rk.same {K:bF4}{H H':Hp}{v:V}{k:String}(e:Same H H')(h:Rk K H v k):Rk K H' v k:=by
 cases h with
 |non=>exact .non
 |lst q=>exact .lst (e.seq q)
 |tup q=>exact .tup (e.aR q)
 |dct q=>exact .dct (e _ _ q)
 |fn q c=>exact .fn q c
theorem yM:Cap X scope [x] σ [none]:=⟨rfl,λi y v _ a=>by
 cases i with
 |zero=>cases a
 |succ i=>cases a⟩
section
def aQf (xs:List V)(f:V->V)(n:St)(t:Cap X scope N σ n)(hsz:xs.length<=sizeLine)
  (v:∀R:It->Hp->Prop,(∀J:It,(∀H' i x,Same H H'->xs[i]?=some x->J.go i H'/\∀y H2,J.yld i H' y H2->H2=H'/\y=x)->(∀H',Same H H'->J.stop xs.length H')->R J H)->wi σ H R)
  (w:∀x∈xs,∀H' R l,Same H H'->R (f x) H'->te ((n.set 0 l).set 0 (some x)) H' R) (u:n[0]?=some none)
  (q:∀D,H D=none->Q (.ref D) (upd H D (.lst (xs.map f)))) :
  jA X scope N wi (bO 0) mW te σ H Q:=by
 refine⟨n,t,v _ λJ go stop D h=>?_⟩;have d:∀c:List V,Same H (upd H D (.lst c)):=λc b o e=>by rw[aK (aQ e h)];exact e
 refine⟨λi m g H' c=>i<=xs.length/\m=xs.length - i/\(∃l,g=n.set 0 l)/\H'=upd H D (.lst c)/\c=(xs.take i).map f,⟨xs.length,bAC _,rfl,⟨none,?_⟩,rfl,rfl⟩,?_⟩
 ·refine (bCC λj=>?_);rw[List.getElem?_set]
  split
  ·rename_i p;subst p
   split
   ·exact u
   ·rename_i a;exact List.getElem?_eq_none_iff.mpr (by lia)
  ·rfl
 ·rintro i m g H' c ⟨hi,rfl,⟨l,rfl⟩,rfl,rfl⟩;refine⟨aF,?_⟩;by_cases a:i<xs.length
  ·right;obtain⟨r,k⟩:=go (upd H D (.lst ((xs.take i).map f))) i xs[i] (d _) (b8 a);refine⟨r,λx H2 s=>?_⟩;obtain⟨rfl,rfl⟩:=k x H2 s;unfold bO mW;dsimp only;rw[if_pos rfl];refine w xs[i] (bAT a) _ _ l (d _) ⟨aF,?_,xs.length - (i+1),by lia,a,rfl,⟨some xs[i],?_⟩,?_,?_⟩
   ·rw[j6,bAI];lia
   ·rw[bCD]
   ·rw[aOs]
   ·rw[bBP,b8 a,bBF];rfl
  ·left;have e:i=xs.length:=by lia
   subst e;refine⟨stop _ (d _),?_⟩;rw[bCW];exact q D h
def bCy (h:∀R:VK,R (.str z) H->tl σ H R)(R:It->Hp->Prop)
  (q:∀J:It,(∀H' i x,Same H H'->((List.range z.cps.size).map λi=>V.str (sgn z i))[i]?=some x->J.go i H'/\∀y H2,J.yld i H' y H2->H2=H'/\y=x) ->
   (∀H',Same H H'->J.stop ((List.range z.cps.size).map λi=>V.str (sgn z i)).length H')->R J H):bBf tl σ H R:=by
 refine h _ ⟨z,rfl,q _ (λH' i x _ e=>?_) λH' _=>?_⟩
 ·rw[v7] at e;have b:i<z.cps.size:=by
   cases a:(List.range z.cps.size)[i]? with
   |none=>rw[a] at e;cases e
   |some j=>have:=(List.getElem?_eq_some_iff.mp a).1;rwa [bAH] at this
  rw[bCP b] at e;cases e;exact⟨b,λy H2 c=>c⟩
 ·rw[j6,bAH];exact d8 _
def aOh {K:bF4}{a:Addr}{xs:List V}{tl:TE}{σ:St}{H:Hp}(b:∀H',Same H H'->SqL K H' a xs)(h:∀R:VK,R (.ref a) H->tl σ H R)(R:It->Hp->Prop)
  (q:∀J:It,(∀H' i x,Same H H'->xs[i]?=some x->J.go i H'/\∀y H2,J.yld i H' y H2->H2=H'/\y=x)->(∀H',Same H H'->J.stop xs.length H')->R J H):aFu K tl σ H R:=by
 refine h _ ⟨a,rfl,⟨xs,b H (Same.refl H)⟩,q _ (λH' i x s e=>⟨⟨xs,x,b H' s,e⟩,λy H2 g=>?_⟩) λH' s=>⟨xs,b H' s,d8 _⟩⟩;obtain⟨d,f⟩:=g;have c:=f xs (b H' s);rw[e] at c;cases c;exact⟨d,rfl⟩
end
end L2
namespace PySem
abbrev aWn (t:Addr)(i:Nat):Obj:={ cls:=.type "tuple_iterator",data:=.fields #[.ref t,.int (i:Int) 0] }
abbrev aXg (t:Addr)(i:Nat):Obj:={ cls:=.type "list_iterator",data:=.fields #[.ref t,.int (i:Int) 0] }
abbrev wA (f0:Value)(TI TO:Addr):Obj:={ cls:=.type "zip",dict:=none,data:=.fields #[f0,.bool false,.bool false,.ref TI,.ref TO],slots:=#[] }
abbrev lB (a b:Value):Obj:={ cls:=.type "tuple",data:=.seq #[a,b] }
section
variable {prog:Program}{w:World}{A:Around}{E:bF5}{s:Shared}
def aN4 (ho:s.heap.get? it=some (aWn t i))(d:s.heap.IsTuple t its)(f:its[i]?=some x)
  (q:∀h',h'.get? it=some (aWn t (i+1))->Heap.SameBut it s.heap h'->Q x { s with heap:=h' }):wpAny (model prog w) A (Builtin.SmallTypes.nextOf (.ref it)) Q E s:=by
 have c:s.TypeIs (.ref it) "tuple_iterator":=⟨_,ho,rfl⟩;obtain⟨g,a,_,e,b⟩:=d;unfold Builtin.SmallTypes.nextOf;refine b7 (bAG c F.slot_tuple_iterator_next (bAD F.slot_tuple_iterator_next c F.entry_tuple_iterator_next ?_ (F.args_tuple_iterator_next_1 _)));refine b7 (m:=field (.ref it) 0) (bAJ ho rfl (x:=.ref t) rfl ?_);refine (if_neg (show ¬ ((Value.ref t == Value.none)=true) from v5)).symm ▸ ?_;refine b7 (bAJ ho rfl rfl ?_);refine b7 (bBE a b ?_);simp only[bAQ,f];refine b7 (bBW ho rfl (by simp) (d7 ⟨x,rfl,d7 (q _ ?_ (bAV ..))⟩));exact bAO _ ho rfl
def aC0 (d:A.handled=none)(ho:s.heap.get? it=some (aWn t i))(f:s.heap.IsTuple t its)(h:its[i]?=none)
  (q:∀h' e,Heap.ExtBut it s.heap h'->(∃o,h'.get? e=some o/\o.cls=.type "StopIteration")->E (.ref e) { s with heap:=h' }):wpAny (model prog w) A (Builtin.SmallTypes.nextOf (.ref it)) Q E s:=by
 have c:s.TypeIs (.ref it) "tuple_iterator":=⟨_,ho,rfl⟩;obtain⟨j,a,_,g,b⟩:=f;unfold Builtin.SmallTypes.nextOf;refine b7 (bAG c F.slot_tuple_iterator_next (bAD F.slot_tuple_iterator_next c F.entry_tuple_iterator_next ?_ (F.args_tuple_iterator_next_1 _)));refine b7 (m:=field (.ref it) 0) (bAJ ho rfl (x:=.ref t) rfl ?_);refine (if_neg (show ¬ ((Value.ref t == Value.none)=true) from v5)).symm ▸ ?_;refine b7 (bAJ ho rfl rfl ?_);refine b7 (bBE a b ?_);simp only[bAQ,h];refine b7 (bDU (b7 (bBW ho rfl (by simp) ?_)));unfold Builtin.SmallTypes.stopIteration;refine b7 ?_;simp only[newExc,newTuple];refine b7 (bAF ?_ (by size_fits));refine b7 (bEQ (by first|rfl|(simp only[firstArgMember];rfl)) ?_);refine bAF ?_ (by size_fits);simp only[raiseNew];refine b7 (bFJ ?_);first|rw[show A.in1.handled=none from d]|rw[d]
 refine b7 (d7 (bFY ?_));exact q _ _ (((bAV ..).extBut.push _).push _) ⟨_,j8 _ rfl,rfl⟩
def aNc (ho:s.heap.get? it=some (aXg t i))(d:s.heap.IsList t its)(f:its[i]?=some x)
  (q:∀h',h'.get? it=some (aXg t (i+1))->Heap.SameBut it s.heap h'->Q x { s with heap:=h' }):wpAny (model prog w) A (Builtin.SmallTypes.nextOf (.ref it)) Q E s:=by
 have c:s.TypeIs (.ref it) "list_iterator":=⟨_,ho,rfl⟩;obtain⟨g,a,_,e,b⟩:=d;unfold Builtin.SmallTypes.nextOf;refine b7 (bAG c slot_listiter_next (bAD slot_listiter_next c entry_listiter_next ?_ (args_listiter_next _)));refine b7 (m:=field (.ref it) 0) (bAJ ho rfl (x:=.ref t) rfl ?_);refine (if_neg (show ¬ ((Value.ref t == Value.none)=true) from v5)).symm ▸ ?_;refine b7 (bAJ ho rfl rfl ?_);refine b7 (bBE a b ?_);simp only[bAQ,f];refine b7 (bBW ho rfl (by simp) (d7 ⟨x,rfl,d7 (q _ ?_ (bAV ..))⟩));exact bAO _ ho rfl
def aBi (d:A.handled=none)(ho:s.heap.get? it=some (aXg t i))(f:s.heap.IsList t its)(h:its[i]?=none)
  (q:∀h' e,Heap.ExtBut it s.heap h'->(∃o,h'.get? e=some o/\o.cls=.type "StopIteration")->E (.ref e) { s with heap:=h' }):wpAny (model prog w) A (Builtin.SmallTypes.nextOf (.ref it)) Q E s:=by
 have c:s.TypeIs (.ref it) "list_iterator":=⟨_,ho,rfl⟩;obtain⟨j,a,_,g,b⟩:=f;unfold Builtin.SmallTypes.nextOf;refine b7 (bAG c slot_listiter_next (bAD slot_listiter_next c entry_listiter_next ?_ (args_listiter_next _)));refine b7 (m:=field (.ref it) 0) (bAJ ho rfl (x:=.ref t) rfl ?_);refine (if_neg (show ¬ ((Value.ref t == Value.none)=true) from v5)).symm ▸ ?_;refine b7 (bAJ ho rfl rfl ?_);refine b7 (bBE a b ?_);simp only[bAQ,h];refine b7 (bDU (b7 (bBW ho rfl (by simp) ?_)));unfold Builtin.SmallTypes.stopIteration;refine b7 ?_;simp only[newExc,newTuple];refine b7 (bAF ?_ (by size_fits));refine b7 (bEQ (by first|rfl|(simp only[firstArgMember];rfl)) ?_);refine bAF ?_ (by size_fits);simp only[raiseNew];refine b7 (bFJ ?_);first|rw[show A.in1.handled=none from d]|rw[d]
 refine b7 (d7 (bFY ?_));exact q _ _ (((bAV ..).extBut.push _).push _) ⟨_,j8 _ rfl,rfl⟩
def itO:Bool->Addr->Nat->Obj
 |true=>aXg
 |false=>aWn
def Heap.tW (h:Heap):Bool->Addr->Array Value->Prop
 |true=>h.IsList
 |false=>h.IsTuple
theorem Heap.tW.extBut (p:h.tW b t its)(e:Heap.ExtBut x h h')(n:t≠x):h'.tW b t its:=by
 cases b
 ·exact Heap.IsTuple.extBut p e n
 ·exact Heap.IsList.extBut p e n
def xR (ho:s.heap.get? it=some (itO L t i))(a:s.heap.tW L t its)(b:its[i]?=some x)
  (q:∀h',h'.get? it=some (itO L t (i+1))->Heap.SameBut it s.heap h'->Q x { s with heap:=h' }):wpAny (model prog w) A (Builtin.SmallTypes.nextOf (.ref it)) Q E s:=by
 cases L
 ·exact aN4 ho a b q
 ·exact aNc ho a b q
def sZ (b:A.handled=none)(ho:s.heap.get? it=some (itO L t i))(a:s.heap.tW L t its)(c:its[i]?=none)
  (q:∀h' e,Heap.ExtBut it s.heap h'->(∃o,h'.get? e=some o/\o.cls=.type "StopIteration")->E (.ref e) { s with heap:=h' }):wpAny (model prog w) A (Builtin.SmallTypes.nextOf (.ref it)) Q E s:=by
 cases L
 ·exact aC0 b ho a c q
 ·exact aBi b ho a c q
structure xT (z TI TO a b:Addr):Prop where
 h1:TI≠z
 h2:TO≠z
 h3:a≠z
 h4:b≠z
 h5:TI≠TO
 h6:TI≠a
 h7:TI≠b
 h8:TO≠a
 h9:TO≠b
 h10:a≠b
def aHe (c:s.heap.get? T=some (lB a b))
  (q:∀h',h'.get? T=some { cls:=.type "tuple",data:=.seq ((#[a,b]:Array Value).setIfInBounds k x) }->Heap.SameBut T s.heap h'->Q () { s with heap:=h' }) :
  wpAny (model prog w) A (updateSeq T (·.setIfInBounds k x)) Q E s:=by
 refine wpAny_updateSeq c rfl (q _ ?_ (bAV ..));rw[bAO _ c rfl];simp[Obj.mapSeq]
def aQd {L:Bool}{z TI TO V i2 t u:Addr}{k:Nat}{xs ys:Array Value}{x y a b:Value}{Q:Option Value->Shared->Prop}(D:xT z TI TO V i2)
  (C:s.heap.get? z=some (wA .none TI TO)) (a1:s.heap.get? TI=some (lB (.ref V) (.ref i2))) (a0:s.heap.get? TO=some (lB a b))
  (g1:s.heap.get? V=some (itO L t k)) (g2:s.heap.get? i2=some (itO L u k)) (ht:s.heap.tW L t xs) (hu:s.heap.tW L u ys) (hx:xs[k]?=some x) (hy:ys[k]?=some y)
  (t1:t≠z) (t2:t≠TO) (t3:t≠V) (t4:t≠i2) (u1:u≠z) (u2:u≠TO) (u3:u≠V) (u4:u≠i2)
  (q:∀h',h'.get? z=some (wA (rawInt s.heap.objs.size) TI TO)->h'.get? TO=some (lB x y)->h'.get? V=some (itO L t (k+1))->h'.get? i2=some (itO L u (k+1))->h'.get? s.heap.objs.size=some (lB x y) ->
   (∀c o,c≠z->c≠TO->c≠V->c≠i2->s.heap.get? c=some o->h'.get? c=some o)->Q (some (.ref s.heap.objs.size)) { s with heap:=h' }) :
  wpAny (model prog w) A (pyNext (.ref z)) Q E s:=by
 have U:s.TypeIs (.ref z) "zip":=⟨_,C,rfl⟩;unfold pyNext;refine b7 (bCS (bAG (name:=Str.ofString "__next__") U F.slot_zip_next (bAD F.slot_zip_next U F.entry_zip_next ?_ (F.args_zip_next_1 _))));refine b7 (m:=field (.ref z) 2) (bAJ C rfl (x:=.bool false) rfl ?_);refine b7 (m:=field (.ref z) 3) (bAJ C rfl (x:=.ref TI) rfl (b7 (bBE a1 rfl ?_)));refine b7 (m:=Builtin.SmallTypes.ownedTupleIsFree (.ref z)) ?_;unfold Builtin.SmallTypes.ownedTupleIsFree;refine b7 (bAJ C rfl (x:=.none) rfl (d7 ?_));simp only[if_true];refine b7 (bDU (b7 (bAJ C rfl (x:=.ref TO) rfl (b7 (bAP C (by simp) λh1 N g=>?_)))));replace N:h1.get? z=some (wA .ellipsis TI TO):=N;refine b7 ?_;simp only[List.zipIdx_cons,List.zipIdx_nil,bDO,bFS];refine b7 (b7 (bED ?_));refine b7 (m:=Builtin.SmallTypes.nextOf (.ref V)) (xR (s:={ s with heap:=h1 }) (g.extBut _ _ D.h3 g1) (ht.extBut g.extBut t1) hx λW K j=>d7 ?_);have p:W.get? TO=some (lB a b):=j.extBut _ _ D.h8 (g.extBut _ _ D.h2 a0);refine b7 (bBE p rfl (b7 (aHe (s:={ s with heap:=W }) p λY h l=>b7 (bFZ (d7 ?_)))));replace h:Y.get? TO=some (lB x b):=h;refine b7 (b7 (bED ?_));refine b7 (m:=Builtin.SmallTypes.nextOf (.ref i2)) (xR (s:={ s with heap:=Y }) (l.extBut _ _ D.h9.symm (j.extBut _ _ D.h10.symm (g.extBut _ _ D.h4 g2))) (((hu.extBut g.extBut u1).extBut j.extBut u3).extBut l.extBut u2) hy λX S B=>d7 ?_);have n:X.get? TO=some (lB x b):=B.extBut _ _ D.h9 h;refine b7 (bBE n rfl (b7 (aHe (s:={ s with heap:=X }) n λd f v=>b7 (bFZ (d7 (d7 ?_))))));replace f:d.get? TO=some (lB x y):=f;refine b7 (bBE f rfl (b7 (bFT ?_)));have r:d.objs.size=s.heap.objs.size:=by rw[v.1,B.1,l.1,j.1,g.1]
 have z5:d.get? z=some (wA .ellipsis TI TO):=v.extBut _ _ D.h2.symm (B.extBut _ _ D.h4.symm (l.extBut _ _ D.h2.symm (j.extBut _ _ D.h3.symm N)));have kp:∀c o,c≠z->c≠TO->c≠V->c≠i2->s.heap.get? c=some o->d.get? c=some o:=λc o i G P M e=>v.extBut _ _ G (B.extBut _ _ M (l.extBut _ _ G (j.extBut _ _ P (g.extBut _ _ i e))));have O:d.get? V=some (itO L t (k+1)):=v.extBut _ _ D.h8.symm (B.extBut _ _ D.h10 (l.extBut _ _ D.h8.symm K));have T:d.get? i2=some (itO L u (k+1)):=v.extBut _ _ D.h9.symm S;refine b7 (m:=Builtin.SmallTypes.ownedTupleHandOut (.ref z) (.ref d.objs.size)) ?_;unfold Builtin.SmallTypes.ownedTupleHandOut;have z6:(d.push (lB x y)).get? z=some (wA .ellipsis TI TO):=c7 _ z5;refine b7 (bAP z6 (by simp) λh7 R s7=>?_);replace R:h7.get? z=some (wA (rawInt d.objs.size) TI TO):=R;refine bAP R (by simp) λH I s8=>?_;replace I:H.get? z=some (wA (rawInt d.objs.size) TI TO):=I;have J:∀c o,c≠z->d.get? c=some o->H.get? c=some o:=λc o i e=>s8.extBut _ _ i (s7.extBut _ _ i (c7 _ e));have Z:d.objs.size≠z:=bCM (j9 z5);have T8:H.get? d.objs.size=some (lB x y):=s8.extBut _ _ Z (s7.extBut _ _ Z (j8 _ rfl));rw[r] at I T8;refine d7 ⟨_,rfl,d7 ?_⟩;show Q (some (.ref d.objs.size)) _;rw[r];exact q H I (J _ _ D.h2 f) (J _ _ D.h3 O) (J _ _ D.h4 T) T8 λc o i G P M e=>J c o i (kp c o i G P M e)
def aVn (Z:A.handled=none)(D:xT z TI TO i1 i2)
  (l:s.heap.get? z=some (wA .none TI TO)) (S:s.heap.get? TI=some (lB (.ref i1) (.ref i2))) (J:s.heap.get? TO=some (lB a b))
  (Y:s.heap.get? i1=some (itO L t k)) (g2:s.heap.get? i2=some (itO L u k)) (T:s.heap.tW L t xs) (hu:s.heap.tW L u ys) (hx:xs[k]?=some x) (hy:ys[k]?=none) (t1:t≠z) (u1:u≠z) (V:u≠TO) (U:u≠i1)
  (q:∀h',(∀c o,c≠z->c≠TO->c≠i1->c≠i2->s.heap.get? c=some o->h'.get? c=some o)->Q none { s with heap:=h' }) :
  wpAny (model prog w) A (pyNext (.ref z)) Q E s:=by
 have y:s.TypeIs (.ref z) "zip":=⟨_,l,rfl⟩;unfold pyNext;refine b7 (bCS (bAG y F.slot_zip_next (bAD F.slot_zip_next y F.entry_zip_next ?_ (F.args_zip_next_1 _))));refine b7 (m:=field (.ref z) 2) (bAJ l rfl (x:=.bool false) rfl ?_);refine b7 (bAJ l rfl rfl (b7 (bBE S rfl ?_)));refine b7 ?_;unfold Builtin.SmallTypes.ownedTupleIsFree;refine b7 (bAJ l rfl rfl (d7 ?_));simp only[if_true];refine b7 (bDU (b7 (bAJ l rfl rfl (b7 (bAP l (by simp) λR p f=>?_)))));replace p:R.get? z=some (wA .ellipsis TI TO):=p;refine b7 ?_;simp only[List.zipIdx_cons,List.zipIdx_nil,bDO,bFS];refine b7 (b7 (bED ?_));refine b7 (xR (f.extBut _ _ D.h3 Y) (T.extBut f.extBut t1) hx λW H h=>d7 ?_);have g:=h.extBut _ _ D.h8 (f.extBut _ _ D.h2 J);refine b7 (bBE g rfl (b7 (aHe g λK i n=>b7 (bFZ (d7 ?_)))));replace i:K.get? TO=some (lB x b):=i;refine b7 (b7 (bED ?_));refine b7 (sZ Z (n.extBut _ _ D.h9.symm (h.extBut _ _ D.h10.symm (f.extBut _ _ D.h4 g2))) (((hu.extBut f.extBut u1).extBut h.extBut U).extBut n.extBut V) hy λX e C N=>?_);obtain⟨P,d,j⟩:=N;have v:=C _ _ D.h4.symm (n.extBut _ _ D.h2.symm (h.extBut _ _ D.h3.symm p));have r:e≠z:=λx=>by subst x;rw[v] at d;cases d;simp at j
 refine bAP v (by simp) λh5 _ B=>?_;refine b7 (bDE ⟨P,B.extBut _ _ r d,j⟩ isSubtype_stop ?_);exact d7 (q _ λc o G M O I x=>B.extBut _ _ G (C _ _ I (n.extBut _ _ M (h.extBut _ _ O (f.extBut _ _ G x)))))
def aEg (O:A.handled=none)(D:xT z TI TO i1 i2)
  (g:s.heap.get? z=some (wA .none TI TO)) (C:s.heap.get? TI=some (lB (.ref i1) (.ref i2))) (hTO:s.heap.get? TO=some (lB a b))
  (J:s.heap.get? i1=some (itO L t k)) (H:s.heap.tW L t xs) (K:xs[k]?=none) (N:t≠z)
  (q:∀h',(∀c o,c≠z->c≠TO->c≠i1->c≠i2->s.heap.get? c=some o->h'.get? c=some o)->Q none { s with heap:=h' }) :
  wpAny (model prog w) A (pyNext (.ref z)) Q E s:=by
 have n:s.TypeIs (.ref z) "zip":=⟨_,g,rfl⟩;unfold pyNext;refine b7 (bCS (bAG n F.slot_zip_next (bAD F.slot_zip_next n F.entry_zip_next ?_ (F.args_zip_next_1 _))));refine b7 (m:=field (.ref z) 2) (bAJ g rfl (x:=.bool false) rfl ?_);refine b7 (bAJ g rfl rfl (b7 (bBE C rfl ?_)));refine b7 ?_;unfold Builtin.SmallTypes.ownedTupleIsFree;refine b7 (bAJ g rfl rfl (d7 ?_));simp only[if_true];refine b7 (bDU (b7 (bAJ g rfl rfl (b7 (bAP g (by simp) λB i h=>?_)))));replace i:B.get? z=some (wA .ellipsis TI TO):=i;refine b7 ?_;simp only[List.zipIdx_cons,List.zipIdx_nil,bDO,bFS];refine b7 (b7 (bED ?_));refine b7 (sZ O (h.extBut _ _ D.h3 J) (H.extBut h.extBut N) K λI e r G=>?_);obtain⟨y,d,f⟩:=G;have p:=r _ _ D.h3.symm i;have j:e≠z:=λx=>by subst x;rw[p] at d;cases d;simp at f
 refine bAP p (by simp) λM _ l=>?_;refine b7 (bDE ⟨y,l.extBut _ _ j d,f⟩ isSubtype_stop ?_);exact d7 (q _ λc o u _ v _ x=>l.extBut _ _ u (r _ _ v (h.extBut _ _ u x)))
end
end PySem
namespace PySem
section
variable {prog:Program}{w:World}{A:Around}{E:bF5}{s:Shared}
abbrev zT1 (L:Bool)(h:Heap)(t:Addr):Heap:=h.push (itO L t 0)
abbrev zT2 (L:Bool)(h:Heap)(t u:Addr):Heap:=(zT1 L h t).push (itO L u 0)
abbrev zT3 (L:Bool)(h:Heap)(t u:Addr):Heap:=(zT2 L h t u).push (lB (.ref h.objs.size) (.ref (zT1 L h t).objs.size))
abbrev zT4 (L:Bool)(h:Heap)(t u:Addr):Heap:=(zT3 L h t u).push (lB .none .none)
abbrev zT5 (L:Bool)(h:Heap)(t u:Addr):Heap:=(zT4 L h t u).push (wA .none (zT2 L h t u).objs.size (zT3 L h t u).objs.size)
def aNm (L:Bool)(t u:Addr)(xs ys:Array Value):Meets (Builtin.«zip.__new__» ⟨[.type "zip",.ref t,.ref u],[]⟩)
  (λ_ R s=>s.heap.tW L t xs/\s.heap.tW L u ys/\R (.ok (.ret (.ref (zT4 L s.heap t u).objs.size))) { s with heap:=zT5 L s.heap t u }):=
 .of_wp λj w A R s h=>by
  obtain⟨b,g,d,a,c⟩:=s;obtain⟨k,m,h⟩:=h;have l:=sub_zip;cases L
  ·have e:Heap.IsTuple (Shared.heap ⟨b,g,d,a,c⟩) t xs:=k;have f:Heap.IsTuple (Shared.heap ⟨b.push { cls:=.type "tuple_iterator",data:=.fields #[.ref t,.int 0 0] },g,d,a,c⟩) u ys:=by obtain⟨o,i,r⟩:=m;exact⟨o,c7 _ i,r⟩
   wp_walk using bFR e,bFR f;exact⟨_,rfl,h⟩
  ·have e:Heap.IsList (Shared.heap ⟨b,g,d,a,c⟩) t xs:=k;have f:Heap.IsList (Shared.heap ⟨b.push { cls:=.type "list_iterator",data:=.fields #[.ref t,.int 0 0] },g,d,a,c⟩) u ys:=by obtain⟨o,i,r⟩:=m;exact⟨o,c7 _ i,r⟩
   wp_walk using bCO e,bCO f;exact⟨_,rfl,h⟩
def aQl (b:s.heap.tW L t xs)(c:s.heap.tW L u ys)(q:Q (.ref (zT4 L s.heap t u).objs.size) { s with heap:=zT5 L s.heap t u }) :
  wpAny (model prog w) A (call (.type "zip") [.ref t,.ref u]) Q E s:=by
 refine callType_new F.called_zip (by decide) (F.typeCall_zip_2 _ _) (F.newCall_zip_2 _ _) (λa=>F.args_object_init_3 a _ _) F.entry_zip_new (aNm L t u xs ys) ⟨b,c,?_⟩;exact⟨⟨_,j8 _ rfl,rfl⟩,q⟩
end
end PySem
namespace L2
open PySem PySem.Spec PyProof.Rows
section
variable {X:Cx}{bF8:bF6}{σ:St}{H:Hp}{s:Shared}
def Inv.tup_ne (I:Inv X bF8 σ H s)(h:SqT X.K H t xs)(f:rY X bF8 H b):t≠b:=by
 rintro rfl;obtain⟨a,j,i,c,_⟩:=f;rcases h with (h|⟨o,h⟩)|⟨o,g,n,d,_⟩
 ·rw[a] at h;cases h
 ·rw[a] at h;cases h
 ·have e:=I.ok.mod.kin t o d;rcases c with z|z
  ·exact I.ok.noex t o e z
  ·exact absurd (z9 (j9 e) (bAE I.ok.bsz z)) (bBM _)
def Inv.bCk (I:Inv X bF8 σ H s)(h:SqL X.K H t xs)(f:rY X bF8 H b):t≠b:=by
 rintro rfl;obtain⟨a,j,i,c,_⟩:=f;rcases h with (h|⟨o,h⟩)|⟨o,g,n,d,_⟩
 ·rw[a] at h;cases h
 ·rw[a] at h;cases h
 ·have e:=I.ok.mod.kin t o d;rcases c with z|z
  ·exact I.ok.noex t o e z
  ·exact absurd (z9 (j9 e) (bAE I.ok.bsz z)) (bBM _)
def SqB (K:bF4):Bool->Hp->Addr->List V->Prop
 |true=>SqL K
 |false=>SqT K
def Inv.sq (I:Inv X bF8 σ H s)(h:SqB X.K L H t xs):∃its:List Value,Vals xs its/\s.heap.tW L t its.toArray:=by
 cases L
 ·obtain⟨its,a,b,_⟩:=I.tuple h;exact⟨its,a,b⟩
 ·obtain⟨its,a,b,_⟩:=I.list h;exact⟨its,a,b.isList⟩
def Inv.lG (I:Inv X bF8 σ H s)(h:SqB X.K L H t xs)(f:rY X bF8 H b):t≠b:=by
 cases L
 ·exact I.tup_ne h f
 ·exact I.bCk h f
theorem Inv.drawn {ch:List Addr}{h':Heap}{vs:List V}{its:List Value}{T:Addr}(I:Inv X bF8 σ H s)(g:∀b∈ch,rY X bF8 H b)(i:∀b o,b∉ch->s.heap.get? b=some o->h'.get? b=some o)
  (t:s.heap.objs.size<=T) (F:Vals vs its) (G:vs.length<=sizeLine) (ho:aAg h' T its.toArray) (hth:∀b∈ch,∃o,h'.get? b=some o):Inv X bF8 σ (upd H T (.tup vs)) { s with heap:=h' }:=by
 have d:=I.hok.fresh t;have w:∀b o,s.heap.get? b=some o->b≠T:=λb o e=>v8 (z9 (j9 e) t);have f:∀b u,H b=some u->b∉ch:=λb u e z=>by rw[(g b z).1] at e;cases e
 refine I.step (g':=s.gens) (d':=s.drawn) (t':=s.toks) (λb h=>?_) (λb o _ _ a e _=>i b o a e) (λb o _ _ a e _=>⟨o.slots,i b o a e⟩) (λb o a e n=>by rw[aK (w b o e)];exact n)
  (λb o a e=>⟨o,i b o a e⟩) (λb A e=>by rw[aK (aQ e d)];exact e) (λb o u e=>by rw[aK (aQ e d)];exact e) (λb E e=>⟨#[],by rw[aK (aQ e d),e];simp⟩) (λm C=>?_) (λb u e=>?_) I.bare
 ·obtain⟨_,B,_,l,p,D⟩:=g b h;exact⟨l,B,p,D⟩
 ·obtain⟨o,x,y,k,r⟩:=C;exact⟨o,x,y,i _ o (λz=>(g _ z).2.1 rfl) k,r⟩
 ·by_cases h:b=T
  ·subst h;rw[aF] at e;cases e;exact⟨G,its,F,ho⟩
  ·rw[aK h] at e;refine (I.hok b u e).stay (λc v j q=>i c v ?_ q) (λc q=>by rw[aK (aQ q d)];exact q) λc A q=>by rw[aK (aQ q d)];exact q
   rcases j with z|z
   ·rw[z];exact f b u e
   ·exact f c _ z
def Inv.aOz {ch:List Addr}{h':Heap}(I:Inv X bF8 σ H s)(f:∀b∈ch,rY X bF8 H b)(g:∀b o,b∉ch->s.heap.get? b=some o->h'.get? b=some o):Inv X bF8 σ H { s with heap:=h' }:=by
 have a:∀b u,H b=some u->b∉ch:=λb u e z=>by rw[(f b z).1] at e;cases e
 refine I.step (g':=s.gens) (d':=s.drawn) (t':=s.toks) (λb x=>?_) (λb o _ _ d e _=>g b o d e) (λb o _ _ d e _=>⟨o.slots,g b o d e⟩) (λ_ _ _ _ n=>n)
  (λb o d e=>⟨o,g b o d e⟩) (λ_ _ e=>e) (λ_ _ _ e=>e) (λb A e=>⟨#[],by rw[e];simp⟩) (λm w=>?_) (λb u e=>?_) I.bare
 ·obtain⟨_,t,_,j,k,y⟩:=f b x;exact⟨j,t,k,y⟩
 ·obtain⟨o,l,p,i,r⟩:=w;exact⟨o,l,p,g _ o (λz=>(f _ z).2.1 rfl) i,r⟩
 ·refine (I.hok b u e).stay (λc v h q=>g c v ?_ q) (λ_ q=>q) λ_ _ q=>q;rcases h with z|z
  ·rw[z];exact a b u e
  ·exact a c _ z
end
def ItB (K:bF4)(L:Bool)(t u:Addr)(xs ys:List V):It:=
 ⟨λi H=>SqB K L H t xs/\SqB K L H u ys/\i<xs.length/\i<ys.length,λi H v H'=>∃T a b,H T=none/\v=.ref T/\H'=upd H T (.tup [a,b])/\xs[i]?=some a/\ys[i]?=some b,λi H=>(SqB K L H t xs/\xs.length<=i)\/(SqB K L H t xs/\SqB K L H u ys/\i=ys.length/\ys.length<=xs.length)⟩
def ztn (L:Bool)(z TI TO i1 i2 t u:Addr)(i:Nat)(h:Heap):Prop:=
 h.get? z=some (wA .none TI TO)/\h.get? TI=some (lB (.ref i1) (.ref i2))/\(∃a b,h.get? TO=some (lB a b))/\h.get? i1=some (itO L t i)/\h.get? i2=some (itO L u i)
def Itz (K:bF4)(t u:Addr)(xs ys:List V):It:=
 ⟨λi H=>SqT K H t xs/\SqT K H u ys/\i<xs.length/\i<ys.length,λi H v H'=>∃T a b,H T=none/\v=.ref T/\H'=upd H T (.tup [a,b])/\xs[i]?=some a/\ys[i]?=some b,λi H=>SqT K H t xs/\xs.length<=i⟩
def aE4 {P:Program}{w:World}{K:bF4}{elts:List Expr}{kt:Nat}{pos:Pos}{L:Bool}{z TI TO M Q t u:Addr}{xs ys:List V}(D:xT z TI TO M Q) :
  Turn P w K (.Tuple elts kt pos) (ItB K L t u xs ys) [z,TI,TO,M,Q] z (ztn L z TI TO M Q t u) where
 mem:=by simp
 obj:=λi h B b d=>by
  obtain⟨q,j,⟨a,c,m⟩,p,C⟩:=B;simp only[bAN,bAB,or_false] at d;rcases d with rfl|rfl|rfl|rfl|rfl
  ·exact⟨_,q,λv z=>by cases (show Data.fields _=Data.cell v from z)⟩
  ·exact⟨_,j,λv z=>by cases (show Data.seq _ _=Data.cell v from z)⟩
  ·exact⟨_,m,λv z=>by cases (show Data.seq _ _=Data.cell v from z)⟩
  ·exact⟨_,p,λv z=>by cases L <;> cases (show Data.fields _=Data.cell v from z)⟩
  ·exact⟨_,C,λv z=>by cases L <;> cases (show Data.fields _=Data.cell v from z)⟩
 keep:=λi h f B k=>by obtain⟨q,j,⟨a,c,m⟩,p,C⟩:=B;exact⟨k z (by simp) _ q,k TI (by simp) _ j,⟨a,c,k TO (by simp) _ m⟩,k M (by simp) _ p,k Q (by simp) _ C⟩
 item:=by
  intro X hP hw hK W i A s σ H E I l B Y;subst hP hw hK;obtain⟨q,j,⟨a0,c0,m⟩,p,C⟩:=B;obtain⟨g,r,l1,l2⟩:=Y;obtain⟨its,R,J⟩:=I.sq g;obtain⟨Z,G,pu⟩:=I.sq r;obtain⟨x,S,rx⟩:=R.get (b8 l1);obtain⟨y,hy,ry⟩:=G.get (b8 l2);have F:=l z (by simp);have T:=l TO (by simp);have U:=l M (by simp);have f2:=l Q (by simp);refine aQd D q j m p C J pu (by simpa using S) (by simpa using hy) (I.lG g F) (I.lG g T) (I.lG g U) (I.lG g f2)
   (I.lG r F) (I.lG r T) (I.lG r U) (I.lG r f2) λf a1 a2 a3 a4 a5 n=>?_
  refine⟨_,rfl,?_⟩;have fT:H s.heap.objs.size=none:=I.hok.fresh (d8 _);have I1:Inv X A σ (upd H s.heap.objs.size (.tup [xs[i],ys[i]])) { s with heap:=f }:=by
   refine I.drawn (ch:=[z,TO,M,Q]) (its:=[x,y]) (λb d=>?_) (λb o d e=>?_) (d8 _) (.cons rx (.cons ry .nil)) (small (by simp)) (.of a5 rfl ⟨_,a5,rfl,_,rfl⟩) (λb d=>?_)
   ·refine l b ?_;simp only[bAN,bAB,or_false] at d ⊢;rcases d with h|h|h|h <;> simp[h]
   ·simp only[bAN,bAB,or_false,not_or] at d;exact n b o d.1 d.2.1 d.2.2.1 d.2.2.2 e
   ·simp only[bAN,bAB,or_false] at d;rcases d with rfl|rfl|rfl|rfl
    ·exact⟨_,a1⟩
    ·exact⟨_,a2⟩
    ·exact⟨_,a3⟩
    ·exact⟨_,a4⟩
  have nT:∀b∈[z,TI,TO,M,Q],b≠s.heap.objs.size:=λb d=>by
   have e:∃o,s.heap.get? b=some o:=by
    simp only[bAN,bAB,or_false] at d;rcases d with rfl|rfl|rfl|rfl|rfl
    ·exact⟨_,q⟩
    ·exact⟨_,j⟩
    ·exact⟨_,m⟩
    ·exact⟨_,p⟩
    ·exact⟨_,C⟩
   obtain⟨o,e⟩:=e;exact v8 (j9 e)
  refine wpAny_letOwnedTupleGo_zip (s:={ s with heap:=f }) a1 λh2 z2 N=>?_;obtain⟨g0,g1,g2,g3,g4,g5⟩:=F;have I2:Inv X A σ (upd H s.heap.objs.size (.tup [xs[i],ys[i]])) { s with heap:=h2 }:=Inv.turned (s:={ s with heap:=f }) I1 (t':=s.toks) (it:=z) (λb o d e=>(N.2 b d).trans e) (by rw[aK (nT z (by simp))];exact g0) g1 g3 g4 g5;refine⟨.ref s.heap.objs.size,_,I2,rfl,⟨_,_,_,fT,rfl,rfl,b8 l1,b8 l2⟩,?_,λb d=>by rw[aK (nT b d)];exact (l b d).1⟩;exact⟨z2,N.extBut _ _ D.h1 (n TI _ D.h1 D.h5 D.h6 D.h7 j),⟨_,_,N.extBut _ _ D.h2 a2⟩,N.extBut _ _ D.h3 a3,N.extBut _ _ D.h4 a4⟩
 done:=by
  intro X hP hw hK W i A s σ H E I l B Y;subst hP hw hK;obtain⟨q,j,⟨a0,c0,m⟩,p,C⟩:=B;have F:=l z (by simp);have T:=l TO (by simp);have U:=l M (by simp);refine (λ(go:∀f,(∀c o,c≠z->c≠TO->c≠M->c≠Q->s.heap.get? c=some o->f.get? c=some o)->_)=>?_:_->_) (λf n=>(⟨rfl,?_⟩:(none:Option Value)=none/\Inv X A σ H { s with heap:=f }))
  ·rcases Y with⟨g,hl⟩|⟨g,r,hl,hle⟩
   ·obtain⟨its,R,J⟩:=I.sq g;have O:=R.length;exact aEg (I.ok.hd W) D q j m p J (by simp;lia) (I.lG g F) λf n=>go f n
   ·obtain⟨its,R,J⟩:=I.sq g;obtain⟨Z,G,pu⟩:=I.sq r;have O:=R.length;have a6:=G.length;cases S:its[i]? with
    |none=>exact aEg (I.ok.hd W) D q j m p J (by simpa using S) (I.lG g F) λf n=>go f n
    |some x=>exact aVn (I.ok.hd W) D q j m p C J pu (by simpa using S) (by simp;lia) (I.lG g F) (I.lG r F) (I.lG r T) (I.lG r U) λf n=>go f n
  refine Inv.aOz (ch:=[z,TO,M,Q]) I (λb d=>l b ?_) λb o d e=>?_
  ·simp only[bAN,bAB,or_false] at d ⊢;rcases d with h|h|h|h <;> simp[h]
  ·simp only[bAN,bAB,or_false,not_or] at d;exact n b o d.1 d.2.1 d.2.2.1 d.2.2.2 e
 self:=λ_ _ _ _ _ B h=>wpAny_pyIter_zip B.1 h
section
variable {X:Cx}
def aV0 (K:bF4)(ta:TA):TI:=fun σ H R=>ta σ H λvs H1=>∃t u xs ys,vs=[.ref t,.ref u]/\SqT K H1 t xs/\SqT K H1 u ys/\R (Itz K t u xs ys) H1
theorem aPs (L:Bool){J:Addr->Addr->List V->List V->It}{elts:List Expr}{kt:Nat}{tp:Pos}{a b:Expr}{ta:TA}{p pos:Pos}(W:∀{z TI TO i1 i2 t u xs ys},xT z TI TO i1 i2->Turn X.prog X.w X.K (.Tuple elts kt tp) (J t u xs ys) [z,TI,TO,i1,i2] z (ztn L z TI TO i1 i2 t u))(Y:Gl X "zip")(Z:X.mg "zip"=none)(U:PA X [a,b] ta)(hs:starEach [a,b] X.env=(false,eval a X.env)::starEach [b] X.env:=by rfl)
  (E:starEach [b] X.env=[(false,eval b X.env)]:=by rfl):PI X (.Tuple elts kt tp) (.Call (.Name "zip" p) [a,b] [] pos) (fun σ H R=>ta σ H λvs H1=>∃t u xs ys,vs=[.ref t,.ref u]/\SqB X.K L H1 t xs/\SqB X.K L H1 u ys/\R (J t u xs ys) H1):=by
 intro f s σ H R I h;refine Call_ (qZ I Y Z bBy (bCB (thn (U pos f s σ H _ I h) λT c ⟨vs,H1,d,Q,B⟩=>?_) hs (by rw[E];rfl)));obtain⟨t,u,xs,ys,e,v,S,q⟩:=B;subst e;obtain⟨A,rv,O⟩:=d.sq v;obtain⟨G,C,P⟩:=d.sq S;cases Q with
 |cons r rr=>
  cases rr with
  |cons r' rr'=>
   cases rr';cases r;cases r';refine aQl O P ?_;have i:(zT1 L c.heap t).objs.size=c.heap.objs.size+1:=bBL ..;have j:(zT2 L c.heap t u).objs.size=c.heap.objs.size+2:=by rw[bBL,i]
   have k:(zT3 L c.heap t u).objs.size=c.heap.objs.size+3:=by rw[bBL,j]
   have l:(zT4 L c.heap t u).objs.size=c.heap.objs.size+4:=by rw[bBL,k]
   have D:xT (zT4 L c.heap t u).objs.size (zT2 L c.heap t u).objs.size (zT3 L c.heap t u).objs.size c.heap.objs.size (zT1 L c.heap t).objs.size:=by constructor <;> (show (_:Nat)≠(_:Nat);rw[Ne];intro h;simp only[i,j,k,l] at h;lia)
   have m:(zT5 L c.heap t u).get? (zT4 L c.heap t u).objs.size=some (wA .none (zT2 L c.heap t u).objs.size (zT3 L c.heap t u).objs.size):=j8 _ rfl;have x:(zT5 L c.heap t u).get? (zT3 L c.heap t u).objs.size=some (lB .none .none):=c7 _ (j8 _ rfl);have F:(zT5 L c.heap t u).get? (zT2 L c.heap t u).objs.size=some (lB (.ref c.heap.objs.size) (.ref (zT1 L c.heap t).objs.size)):=c7 _ (c7 _ (j8 _ rfl));have M:(zT5 L c.heap t u).get? (zT1 L c.heap t).objs.size=some (itO L u 0):=c7 _ (c7 _ (c7 _ (j8 _ (by cases L <;> rfl))));have y:(zT5 L c.heap t u).get? c.heap.objs.size=some (itO L t 0):=c7 _ (c7 _ (c7 _ (c7 _ (j8 _ (by cases L <;> rfl)))));have N:Inv X f σ H1 { c with heap:=zT5 L c.heap t u }:=d.kept (t':=c.toks) λb o e=>c7 _ (c7 _ (c7 _ (c7 _ (c7 _ e))));refine wpAny_pyIter_zip (s:={ c with heap:=zT5 L c.heap t u }) m ⟨_,_,_,_,H1,rfl,N,W D,⟨m,F,⟨_,_,x⟩,y,M⟩,λb n=>?_,q⟩;have g:c.heap.objs.size<=b:=by
    simp only[bAN,bAB,or_false] at n;rcases n with rfl|rfl|rfl|rfl|rfl
    ·rw[l];exact bDF ..
    ·rw[j];exact bDF ..
    ·rw[k];exact bDF ..
    ·exact d8 _
    ·rw[i];exact bDF ..
   exact d.aLi g (d.hok.fresh g)
def aY8 (d:Gl X "zip")(n:X.mg "zip"=none)(m:PA X [a,b] ta)(o:starEach [a,b] X.env=(false,eval a X.env)::starEach [b] X.env:=by rfl)
  (j:starEach [b] X.env=[(false,eval b X.env)]:=by rfl):PI X (.Tuple elts kt tp) (.Call (.Name "zip" p) [a,b] [] pos) (aV0 X.K ta):=
 aPs false (J:=Itz X.K) (λD=>let T:=aE4 (L:=false) D;⟨T.mem,T.obj,T.keep,T.item,λX l e g f i c s σ H E I k h d=>T.done X l e g f i c s σ H E I k h (.inl d),T.self⟩) d n m o j
inductive Tk (K:bF4)(H:Hp):V->Bool->Prop
 |int {i}:Tk K H (.int i) false
 |str {x}:Tk K H (.str x) false
 |bl {b}:Tk K H (.bl b) false
 |non:Tk K H .non false
 |lst {a xs}:SqL K H a xs->Tk K H (.ref a) false
 |dct {a kvs}:H a=some (.dK kvs)->Tk K H (.ref a) false
 |tup {a xs}:SqT K H a xs->Tk K H (.ref a) true
def bEg (K:bF4):List V->Hp->VK->Prop:=λxs H Q=>∃x b,xs=[x,.ty "tuple"]/\Tk K H x b/\Q (.bl b) H
theorem iQ:cH X (.builtin "isinstance") (bEg X.K):=by
 intro f s σ H y w Q I r h;obtain⟨x,b,rfl,j,q⟩:=h;obtain⟨u,v,rfl,a,i⟩:=r.two;cases i;have l:EP X f σ Q (.bool b) s:=⟨.bl _,H,I,rfl,q⟩;have d:EP X f σ Q (.bool b) { s with toks:=s.toks+1 }:=⟨.bl _,H,I.tok _,rfl,q⟩;cases j with
 |int=>obtain⟨t,rfl⟩:=a;exact IsiPair.int_tuple d
 |str=>obtain⟨t,rfl⟩:=a;exact IsiPair.str_tuple d
 |bl=>cases a;exact IsiPair.bool_tuple d
 |non=>cases a;exact IsiPair.NoneType_tuple d
 |lst hq=>cases a;obtain⟨g,k,⟨o,n,e,c,_⟩,m⟩:=I.list hq;exact IsiPair.list_tuple e c d
 |dct hq=>cases a;obtain⟨_,_,_,_,o,_,_,e,p,_⟩:=I.hok _ _ hq;exact IsiPair.dict_tuple e p.1 d
 |tup hq=>cases a;obtain⟨g,k,⟨o,e,c,_⟩,m⟩:=I.tuple hq;exact IsiPair.tuple_tuple e c l
end
section
variable {X:Cx}{scope:Scope}{N:List Str}{wi:TI}{te:TE}{σ:St}{H:Hp}{Q:VK}
def jQ {σ0:St}{j:Nat}(c:σ0[j]?=some none):σ0=σ0.set j none:=by
 refine (bCC λi=>?_);rw[List.getElem?_set]
 split
 ·rename_i a;subst a
  split
  ·exact c
  ·rename_i b;exact List.getElem?_eq_none_iff.mpr (by lia)
 ·rfl
def aE0 (xs:List V)(f:V->V)(k:St)(r:Cap X scope N σ k)(hsz:xs.length<=sizeLine)
  (u:∀R:It->Hp->Prop,(∀J:It,(∀H' i x,Same H H'->xs[i]?=some x->J.go i H'/\∀y H2,J.yld i H' y H2->H2=H'/\y=x)->(∀H',Same H H'->J.stop xs.length H')->R J H)->wi σ H R)
  (v:∀x∈xs,∀H' R l,Same H H'->(∀H2,Same H' H2->R (f x) H2)->te ((k.set 0 l).set 0 (some x)) H' R) (s:k[0]?=some none)
  (q:∀D H',Same H H'->H' D=some (.lst (xs.map f))->Q (.ref D) H') :
  jA X scope N wi (bO 0) mW te σ H Q:=by
 refine⟨k,r,u _ λJ go stop D h=>?_⟩;refine⟨λi m g H' c=>i<=xs.length/\m=xs.length - i/\(∃l,g=k.set 0 l)/\Same H H'/\H' D=some (.lst c)/\c=(xs.take i).map f,⟨xs.length,bAC _,rfl,⟨none,jQ s⟩,aW h _,aF,rfl⟩,?_⟩;rintro i m g H' c ⟨hi,rfl,⟨l,rfl⟩,sm,hL,rfl⟩;refine⟨hL,?_⟩;by_cases a:i<xs.length
 ·right;obtain⟨n,j⟩:=go H' i xs[i] sm (b8 a);refine⟨n,λx H2 p=>?_⟩;obtain⟨rfl,rfl⟩:=j x H2 p;unfold bO mW;dsimp only;rw[if_pos rfl];refine v xs[i] (bAT a) _ _ l sm λt d=>⟨d _ _ hL,?_,xs.length - (i+1),by lia,a,rfl,⟨some xs[i],?_⟩,?_,aF,?_⟩
  ·rw[j6,bAI];lia
  ·rw[bCD]
  ·intro b o e;rw[aK (aQ e h)];exact d _ _ (sm _ _ e)
  ·rw[bBP,b8 a,bBF];rfl
 ·left;have e:i=xs.length:=by lia
  subst e;refine⟨stop _ sm,?_⟩;rw[bCW] at hL;exact q D _ sm hL
def aSq {K:bF4}{tl:TA}{t u:Addr}(xs ys:List V)(f:V->V->V)(w:St)(z:Cap X scope N σ w)(hsz:xs.length<=sizeLine)(hl:xs.length=ys.length)
  (k:SqT K H t xs) (A:SqT K H u ys) (G:∀R:List V->Hp->Prop,R [.ref t,.ref u] H->tl σ H R)
  (I:∀(i:Nat) (x y:V),xs[i]?=some x->ys[i]?=some y->∀H' R l1 l2,Same H H'->(∀H2,Same H' H2->R (f x y) H2)->te ((((w.set 0 l1).set 1 l2).set 0 (some x)).set 1 (some y)) H' R) (C:w[0]?=some none) (F:w[1]?=some none)
  (q:∀D H',Same H H'->H' D=some (.lst (List.zipWith f xs ys))->Q (.ref D) H') :
  jA X scope N (aV0 K tl) (aL4 K 2 (tG (bO 0) (tG (bO 1) aQ3))) mW te σ H Q:=by
 refine⟨w,z,G _ ⟨t,u,xs,ys,rfl,k,A,λD r=>?_⟩⟩;refine⟨λi m n H' g=>i<=xs.length/\m=xs.length - i/\(∃l1 l2,n=(w.set 0 l1).set 1 l2)/\Same H H'/\H' D=some (.lst g)/\g=(List.zipWith f xs ys).take i,⟨xs.length,bAC _,rfl,⟨none,none,?_⟩,aW r _,aF,rfl⟩,?_⟩
 ·rw[<-jQ C];exact jQ F
 rintro i m n H' g ⟨hi,rfl,⟨l1,l2,rfl⟩,sm,hL,rfl⟩;refine⟨hL,?_⟩;by_cases d:i<xs.length
 ·right;refine⟨⟨sm.aR k,sm.aR A,d,by lia⟩,λv H2 B=>?_⟩;obtain⟨T,a,b,s,rfl,rfl,l,p⟩:=B;have h:Same H' (upd H' T (.tup [a,b])):=aW s _;refine⟨T,[a,b],rfl,.inl (.inl aF),rfl,a,[b],rfl,b,[],rfl,rfl,?_⟩;unfold mW;dsimp only;rw[if_pos rfl];refine I i a b l p _ _ l1 l2 (λb o e=>h _ _ (sm _ _ e)) λE j=>⟨j _ _ (h _ _ hL),?_,xs.length - (i+1),by lia,d,rfl,⟨some a,some b,?_⟩,?_,aF,?_⟩
  ·rw[bAI,bFP];lia
  ·rw[List.set_comm _ _ (show (1:Nat)≠0 by decide),bCD,bCD]
  ·intro c o e;rw[aK (aQ e r)];exact j _ _ (h _ _ (sm _ _ e))
  ·rw[bBP,List.getElem?_zipWith,l,p];rfl
 ·left;have e:i=xs.length:=by lia
  subst e;refine⟨⟨sm.aR k,d8 _⟩,?_⟩;rw[bAW (by rw[bFP];lia)] at hL;exact q D _ sm hL
def aNg {K:bF4}{a:Addr}{xs:List V}{tl:TE}(b:SqT K H a xs)(h:∀R:VK,R (.ref a) H->tl σ H R)(R:It->Hp->Prop)
  (q:∀J:It,(∀H' i x,Same H H'->xs[i]?=some x->J.go i H'/\∀y H2,J.yld i H' y H2->H2=H'/\y=x)->(∀H',Same H H'->J.stop xs.length H')->R J H):aYx K tl σ H R:=by
 refine h _ ⟨a,rfl,⟨xs,b⟩,q _ (λH' i x s e=>⟨⟨xs,x,s.aR b,e⟩,λy H2 g=>?_⟩) λH' s=>⟨xs,s.aR b,d8 _⟩⟩;obtain⟨d,f⟩:=g;have c:=f xs (s.aR b);rw[e] at c;cases c;exact⟨d,rfl⟩
end
section
variable {κ:Type}[DecidableEq κ]
def nO (kvs:List (κ × V))(k:κ):Option V:=(kvs.find? λkv=>decide (kv.1=k)).map (·.2)
def putK (kvs:List (κ × V))(k:κ)(v:V):List (κ × V):=
 if (kvs.any λkv=>decide (kv.1=k))=true then kvs.map (λkv=>if kv.1=k then (kv.1,v) else kv) else kvs++[(k,v)]
def zX (kvs:List (κ × V))(k:κ):List (κ × V):=kvs.filter λkv=>decide (kv.1≠k)
def mK {p:κ × V}{r:List (κ × V)}{k:κ}(e:p.1=k):nO (p::r) k=some p.2:=by simp[nO,bCH,e]
def xF {p:κ × V}{r:List (κ × V)}{k:κ}(e:¬ p.1=k):nO (p::r) k=nO r k:=by simp[nO,bCH,e]
theorem uZ (k:κ):∀kvs:List (κ × V),(kvs.any λkv=>decide (kv.1=k))=(nO kvs k).isSome
 |[]=>rfl
 |p::r=>by
  rw[bFI];by_cases e:p.1=k
  ·simp only[mK e,m9 e,Bool.true_or,Option.isSome_some]
  ·rw[xF e,v9 e,Bool.false_or];exact uZ k r
def qI (kvs:List (κ × V))(k:κ)(v:V):(putK kvs k v).length<=kvs.length+1:=by
 unfold putK
 split
 ·rw[j6];lia
 ·rw[w6,m8,bBS];lia
def aTh {kvs:List (κ × V)}{k:κ}(v:V)(h:nO kvs k=none):putK kvs k v=kvs++[(k,v)]:=by unfold putK;rw[uZ,h];exact if_neg (by decide)
theorem lN.mU (r:lN o u):o.isSome=u.isSome:=by
 cases o with
 |none=>cases u with
  |none=>rfl
  |some _=>exact (show False from r).elim
 |some _=>cases u with
  |none=>exact (show False from r).elim
  |some _=>rfl
theorem lN.getD (r:lN o u)(a:RelV d d'):RelV (o.getD d) (u.getD d'):=by
 cases o with
 |none=>cases u with
  |none=>exact a
  |some _=>exact (show False from r).elim
 |some _=>cases u with
  |none=>exact (show False from r).elim
  |some _=>exact r
theorem KV.val (r:KV kvs vs)(k:κ):lN (nO kvs k) (valueAt vs k):=by
 unfold KV at r
 induction r with
 |nil=>exact True.intro
 |@cons p q ps qs h t ih=>
  obtain⟨c,d⟩:=h;by_cases e:p.1=k
  ·have a:q.1=k:=c.symm.trans e;have b:valueAt (q::qs) k=some q.2:=by simp[valueAt,bCH,a]
   rw[mK e,b];exact d
  ·have a:¬ q.1=k:=λz=>e (c.trans z);have b:valueAt (q::qs) k=valueAt qs k:=by simp[valueAt,bCH,a]
   rw[xF e,b];exact ih
theorem KV.any (r:KV kvs vs)(k:κ):(kvs.any λkv=>decide (kv.1=k))=vs.any λkv=>decide (kv.1=k):=by
 unfold KV at r
 induction r with
 |nil=>rfl
 |cons h t ih=>rw[bFI,bFI,ih,h.1]
theorem KV.repl (r:KV kvs vs)(k:κ)(c:RelV y u) :
  KV (kvs.map λkv=>if kv.1=k then (kv.1,y) else kv) (vs.map λkv=>if kv.1=k then (kv.1,u) else kv):=by
 unfold KV at r ⊢
 induction r with
 |nil=>exact .nil
 |@cons p q ps qs h t ih=>
  rw[bAL,bAL];refine .cons ?_ ih;obtain⟨a,b⟩:=h;by_cases e:p.1=k
  ·rw[if_pos e,if_pos (a.symm.trans e)];exact⟨a,c⟩
  ·rw[if_neg e,if_neg (λz=>e (a.trans z))];exact⟨a,b⟩
def KV.put (r:KV kvs vs)(k:κ)(a:RelV y u):KV (putK kvs k y) (stored vs k u):=by
 unfold putK stored;rw[r.any k];by_cases e:(vs.any λb=>decide (b.1=k))=true
 ·rw[if_pos e,if_pos e];exact r.repl k a
 ·rw[if_neg e,if_neg e];exact Paired.snoc r ⟨rfl,a⟩
theorem KV.drop (r:KV kvs vs)(k:κ):KV (zX kvs k) (without vs k):=by
 unfold KV at r ⊢;unfold zX without
 induction r with
 |nil=>exact .nil
 |@cons p q ps qs h t ih=>
  obtain⟨c,d⟩:=h;rw[bDG,bDG];by_cases e:p.1=k
  ·have a:¬ decide (p.1≠k)=true:=by simp[e]
   have b:¬ decide (q.1≠k)=true:=by simp[c.symm.trans e]
   rw[if_neg a,if_neg b];exact ih
  ·have f:¬ q.1=k:=λz=>e (c.trans z);have a:decide (p.1≠k)=true:=by simp[e]
   have b:decide (q.1≠k)=true:=by simp[f]
   rw[if_pos a,if_pos b];exact .cons ⟨c,d⟩ ih
theorem KV.length {kvs:List (κ × V)}{vs:List (κ × Value)}(r:KV kvs vs):kvs.length=vs.length:=Paired.length r
def aTw (kvs:List (κ × V))(k:κ):(zX kvs k).length<=kvs.length:=bAY _ _
end
theorem uW (r:RelV (kV k) u):(bI P w).is k u=true:=by
 cases k with
 |inl i=>obtain⟨t,e⟩:=(show ∃t,u=Value.int i t from r);subst e;exact aIt P w i t
 |inr x=>obtain⟨t,e⟩:=(show ∃t,u=Value.str x t from r);subst e;exact aK9 P w x t
theorem bAr (e:kV a=kV b):a=b:=by
 cases a with
 |inl i=>cases b with
  |inl j=>have c:=e;injection c with c;rw[c]
  |inr y=>exact nomatch (show V.int i=V.str y from e)
 |inr x=>cases b with
  |inl j=>exact nomatch (show V.str x=V.int j from e)
  |inr y=>have c:=e;injection c with c;rw[c]
theorem aFd:∀{ks:List Key} {us:List Value},Vals (ks.map kV) us->ItemsAre (bI P w) ks us
 |[],_,r=>by rw[List.map_nil] at r;cases r;exact .nil
 |k::ks,_,r=>by
  rw[bAL] at r;cases r with
  |cons h t=>exact .cons (uW h) (aFd t)
abbrev KT (H:Hp):List (List Key × V)->List (List Key × Addr × Value)->Prop:=Paired λp q=>p.1=q.1/\H q.2.1=some (.tup (p.1.map kV))/\RelV p.2 q.2.2
theorem KT.val (r:KT H kvs xs)(k:List Key):lN (nO kvs k) ((atKey xs k).map (·.2)):=by
 induction r with
 |nil=>exact True.intro
 |@cons p q ps qs h t ih=>
  obtain⟨c,_,d⟩:=h;by_cases e:p.1=k
  ·have a:q.1=k:=c.symm.trans e;have b:atKey (q::qs) k=some q.2:=by simp[atKey,bCH,a]
   rw[mK e,b];exact d
  ·have a:¬ q.1=k:=λz=>e (c.trans z);have b:atKey (q::qs) k=atKey qs k:=by simp[atKey,bCH,a]
   rw[xF e,b];exact ih
theorem KT.repl (r:KT H kvs xs)(k:List Key)(d:RelV y u) :
  KT H (kvs.map λkv=>if kv.1=k then (kv.1,y) else kv) (xs.map (putAt k u)):=by
 induction r with
 |nil=>exact .nil
 |@cons p q ps qs h t ih=>
  rw[bAL,bAL];refine .cons ?_ ih;obtain⟨a,b,c⟩:=h;unfold putAt;by_cases e:p.1=k
  ·rw[if_pos e,if_pos (a.symm.trans e)];exact⟨a,b,d⟩
  ·rw[if_neg e,if_neg (λz=>e (a.trans z))];exact⟨a,b,c⟩
def KT.put (r:KT H kvs xs)(k:List Key)(d:H b=some (.tup (k.map kV)))(a:RelV y u) :
  KT H (putK kvs k y) (storedH xs k b u):=by
 have e:(kvs.any λc=>decide (c.1=k))=(atKey xs k).isSome:=by rw[uZ,(r.val k).mU,bF0]
 unfold putK storedH;rw[e];by_cases q:(atKey xs k).isSome=true
 ·rw[if_pos q,if_pos q];exact r.repl k a
 ·rw[if_neg q,if_neg q];exact Paired.snoc r ⟨rfl,d,a⟩
def KT.keeps (r:KT H kvs xs)(a:∀b ys,H b=some (.tup ys)->H' b=some (.tup ys)):KT H' kvs xs:=
 Paired.bCe r λ_ _ z=>⟨z.1,a _ _ z.2.1,z.2.2⟩
section
variable {P:Program}{w:World}{H:Hp}{h:Heap}{a:Addr}
def aZo (b:HOk P w H h)(e:Rd H a u):cV P w H h a u:=e.ok b
def aCj (b:HOk P w H h)(e:Rd H a (.dK kvs)):kvs.length<=sizeLine/\(a == sysModules)=false/\∃vs,KV kvs vs/\h.DictOf (bI P w) a vs:=
 show cV P w H h a (.dK kvs) from aZo b e
def aLq (b:HOk P w H h)(e:H a=some (.dK kvs)):kvs.length<=sizeLine/\(a == sysModules)=false/\∃vs,KV kvs vs/\h.DictOf (bI P w) a vs:=aCj b (.inl e)
def yL (g:HOk P w H h)(e:H a=some (.tup (ks.map kV))):(tupleKind (bI P w)).is h ks a:=by obtain⟨_,b,r,⟨o,d,f,n,c⟩,_⟩:=(show cV P w H h a (.tup (ks.map kV)) from g a _ e);exact⟨o,b.toArray,n,d,f,c,by simpa using aFd r⟩
def aBw (d:HOk P w H h)(e:Rd H a (.dT kvs)):kvs.length<=sizeLine/\(a == sysModules)=false /\
  ∃xs,KT H kvs xs/\h.DictOfH (tupleKind (bI P w)) a xs:=by
 obtain⟨z,y,xs,r,o,j,n,k,f,i,g,c⟩:=(show cV P w H h a (.dT kvs) from aZo d e);refine⟨z,y,xs,r,o,j,n,k,f,i,g,λx hx=>?_,c⟩;have b:∀{l:List (List Key × V)} {m:List (List Key × Addr × Value)},KT H l m->∀x∈m,(tupleKind (bI P w)).is h x.1 x.2.1:=by
  intro l m q
  induction q with
  |nil=>intro x hx;exact nomatch hx
  |@cons p q ps qs hq t ih=>
   intro x hx;rcases List.mem_cons.mp hx with e|hx
   ·subst e;exact yL d (by rw[<-hq.1];exact hq.2.1)
   ·exact ih x hx
 exact b r x hx
def bC6 (b:HOk P w H h)(e:H a=some (.dT kvs)):kvs.length<=sizeLine/\(a == sysModules)=false /\
  ∃xs,KT H kvs xs/\h.DictOfH (tupleKind (bI P w)) a xs:=aBw b (.inl e)
end
def aHq (H:Hp)(a:Addr)(y:V)(r:Option V):Prop:=
 (∃kvs k,Rd H a (.dK kvs)/\y=kV k/\r=nO kvs k)\/∃kvs k b,Rd H a (.dT kvs)/\y=.ref b/\H b=some (.tup (k.map kV))/\r=nO kvs k
def aHb (H:Hp)(a:Addr)(y v:V)(H':Hp):Prop:=
 (∃kvs k,H a=some (.dK kvs)/\y=kV k/\kvs.length<sizeLine/\H'=upd H a (.dK (putK kvs k v))) \/
 ∃kvs k b,H a=some (.dT kvs)/\y=.ref b/\H b=some (.tup (k.map kV))/\kvs.length<sizeLine/\H'=upd H a (.dT (putK kvs k v))
theorem aHb.k {H:Hp}{a:Addr}{b:List (Key × V)}{k:Key}{v:V}(e:H a=some (.dK b))(c:b.length<sizeLine):aHb H a (kV k) v (upd H a (.dK (putK b k v))):=.inl ⟨b,k,e,rfl,c,rfl⟩
section
variable {X:Cx}{bF8:bF6}{σ:St}{H:Hp}{s:Shared}{a:Addr}{y v:V}{u r:Value}{o:Option V}{A:Around}{E:bF5}
def Inv.big (I:Inv X bF8 σ H s):sysModules<s.heap.objs.size:=by have h:=(I.mod.glob.keeps I.bk).lt;exact bEV (by decide) h
def aQe (x:A.units+1<cLine)(I:Inv X bF8 σ H s)(g:aHq H a y (some v))(q:RelV y u)(h:∀w' s',Inv X bF8 σ H s'->RelV v w'->Q w' s') :
  wpAny (model X.prog X.w) A (getItem (.ref a) u) Q E s:=by
 rcases g with⟨f,k,e,j,l⟩|⟨f,k,b,e,j,eb,l⟩
 ·subst j;obtain⟨z,hd,r,d,i⟩:=aCj I.hok e;obtain⟨w',n,c⟩:=lN.some_of (by rw[l];exact d.val k);exact wpAny_getItem_of (uW q) i.mapOf n (h w' _ (I.tok _) c)
 ·subst j;cases (show u=Value.ref b from q);obtain⟨z,hd,t,d,i⟩:=aBw I.hok e;obtain⟨w',n,c⟩:=lN.some_of (by rw[l];exact d.val k);obtain⟨p,o,m⟩:=Option.map_eq_some_iff.mp n;refine wpAny_getItem_heap (tupleKind_room_in1 x) (yL I.hok eb) i o ?_;rw[m];exact h w' _ (I.tok _) c
def bE5 (p:A.units+1<cLine)(I:Inv X bF8 σ H s)(g:aHq H a y o)(j:RelV y u)(h:∀s',Inv X bF8 σ H s'->Q (.bool o.isSome) s') :
  wpAny (model X.prog X.w) A (compareOp .In u (.ref a)) Q E s:=by
 rcases g with⟨i,k,e,f,l⟩|⟨i,k,b,e,f,eb,l⟩
 ·subst f;obtain⟨z,hd,m,c,d⟩:=aCj I.hok e;refine wpAny_in_of (uW j) hd d.mapOf ?_;rw[<-(c.val k).mU,<-l];exact h _ (I.tok _)
 ·subst f;cases (show u=Value.ref b from j);obtain⟨z,hd,n,c,d⟩:=aBw I.hok e;refine wpAny_in_heap (tupleKind_room_in1 p) (yL I.hok eb) hd d ?_;have q:=(c.val k).mU;rw[bF0] at q;rw[<-q,<-l];exact h _ (I.tok _)
def aWg (p:A.units+1<cLine)(I:Inv X bF8 σ H s)(g:aHq H a y o)(j:RelV y u)(h:∀s',Inv X bF8 σ H s'->Q (.bool (!o.isSome)) s') :
  wpAny (model X.prog X.w) A (compareOp .NotIn u (.ref a)) Q E s:=by
 rcases g with⟨i,k,e,f,l⟩|⟨i,k,b,e,f,eb,l⟩
 ·subst f;obtain⟨z,hd,m,c,d⟩:=aCj I.hok e;refine wpAny_notIn_of (uW j) hd d.mapOf ?_;rw[<-(c.val k).mU,<-l];exact h _ (I.tok _)
 ·subst f;cases (show u=Value.ref b from j);obtain⟨z,hd,n,c,d⟩:=aBw I.hok e;refine wpAny_notIn_heap (tupleKind_room_in1 p) (yL I.hok eb) hd d ?_;have q:=(c.val k).mU;rw[bF0] at q;rw[<-q,<-l];exact h _ (I.tok _)
def aAw (I:Inv X bF8 σ H s)(f:Mut (H a))(e:Heap.SameBut a s.heap h')(g:∃q,h'.get? a=some q)(c:cV X.prog X.w (upd H a ob) h' a ob) :
  Inv X bF8 σ (upd H a ob) { s with heap:=h',toks:=t' }:=
 I.write f (.inl rfl) (λb q d z=>(e.2 b d).trans z) g c
def aL2 (z:kvs.length<=sizeLine)(hd:(a == sysModules)=false)(b:KV kvs vs)(c:h'.DictOf (bI P w) a vs) :
  cV P w H' h' a (.dK kvs):=⟨z,hd,vs,b,c⟩
def aRa (T:A.units+1<cLine)(I:Inv X bF8 σ H s)(g:aHb H a y v H')(P:RelV y u)(G:RelV v r)(h:∀s',Inv X bF8 σ H' s'->Q () s') :
  wpAny (model X.prog X.w) A (setItem (.ref a) u r) Q E s:=by
 rcases g with⟨d,k,e,o,l,m⟩|⟨d,k,b,e,o,eb,l,m⟩
 ·subst o m;obtain⟨z,hd,K,f,n⟩:=aLq I.hok e;have M:K.length<=sizeLine:=by rw[<-f.length];exact z
  have t:(putK d k v).length<=sizeLine:=by have:=qI d k v;lia
  refine wpAny_setItem_pairs (uW P) n λx i p=>h _ ?_;have R:∃q,x.get? a=some q:=let ⟨q,_,_,j,_⟩:=i;⟨q,j⟩
  exact aAw I (by rw[e];exact True.intro) p R (aL2 t hd (f.put k G) i)
 ·subst o m;cases (show u=Value.ref b from P);obtain⟨z,hd,N,f,n⟩:=bC6 I.hok e;have M:N.length<=sizeLine:=by rw[<-Paired.length f];exact z
  have t:(putK d k v).length<=sizeLine:=by have:=qI d k v;lia
  refine wpAny_setItem_heap (tupleKind_room_in1 T) (yL I.hok eb) n λx i p=>h _ ?_;obtain⟨q,L,O,j,D,J,F,_,C⟩:=i;refine aAw I (by rw[e];exact True.intro) p ⟨q,j⟩ ⟨t,hd,_,(f.put k eb G).keeps λc S B=>?_,q,L,O,j,D,J,F,C⟩;rw[aK (aKy B e (λz=>nomatch z))];exact B
end
section
variable {X:Cx}{bF8:bF6}{σ:St}{H:Hp}{s:Shared}{a:Addr}{kvs:List (Key × V)}{k:Key}{u:Value}{A:Around}{E:bF5}
def bEl {v:V}{more:List Value}{Q:bF5}(I:Inv X bF8 σ H s)(e:H a=some (.dK kvs))(j:RelV (kV k) u)(l:nO kvs k=some v)(y:more=[]\/∃x,more=[x])
  (h:∀w' s',Inv X bF8 σ (upd H a (.dK (zX kvs k))) s'->RelV v w'->Q w' s'):wpAny (model X.prog X.w) A (call (.builtin "dict.pop") (.ref a::u::more)) Q E s:=by
 obtain⟨z,hd,g,b,f⟩:=aLq I.hok e;obtain⟨w',r,d⟩:=lN.some_of (v:=v) (o:=valueAt g k) (by rw[<-l];exact b.val k);have p:(keyPart u).isSome=true:=by
  cases k with
  |inl i=>obtain⟨t,q⟩:=(show ∃t,u=Value.int i t from j);subst q;rfl
  |inr x=>obtain⟨t,q⟩:=(show ∃t,u=Value.str x t from j);subst q;rfl
 have m:argsOk "dict.pop" ⟨.ref a::u::more,[]⟩:=by
  rcases y with q|⟨x,q⟩
  ·subst q;exact PySem.F.args_dict_pop_2 _ _
  ·subst q;exact PySem.F.args_dict_pop_3 _ _ _
 refine call_meetsIn PySem.F.slot_dict_pop f.typeIs PySem.F.entry_dict_pop m (meets_dict_pop_there (bI X.prog X.w) a (uW j) more y p)
  ⟨g,w',f,by rw[<-b.length];exact z,r,λn c B=>h w' _ ?_ d⟩
 have C:∃q,n.get? a=some q:=let ⟨q,_,_,hq,_⟩:=c;⟨q,hq⟩
 exact aAw I (by rw[e];exact True.intro) B C (aL2 (bAE (aTw kvs k) z) hd (b.drop k) c)
end
def bBg (i:Expr):Prop:=∀ov iv,subscripted i false ov iv=operate [ov,iv] (getItem ov iv)
def aX2 {prog:Program}{w:World}{A:Around}{E:bF5}{s:Shared}{env:Env}{c b:Expr}{pos:Pos}{T id:String}{Q:bF5}
  (l:typeLookup (.type T) "__getitem__"=pure (some (.builtin id))) (k:bBg b)
  (h:wpAny (model prog w) A (eval c env) (λo s₁=>wpAny (model prog w) A (eval b env) (λi s₂=>s₂.TypeIs o T/\wpAny (model prog w) A (getItem o i) Q E s₂) E s₁) E s) :
  wpAny (model prog w) A (eval (.Subscript c b pos) env) Q E s:=by
 refine Subscript_ (bAX h (λo s₁ j=>bAX j (λi s₂ d=>?_) λ_ _ x=>x) λ_ _ x=>x);obtain⟨f,d⟩:=d;unfold subscriptTail;refine b7 ?_;rw[getitemInPython_of_ne f.not_modules];refine b7 (wpAny_specialOf f l ?_);have a:wpAny (model prog w) A (subscripted b false o i) (λr e=>wpAny (model prog w) A (letTemporaryGo c o r >>= λ_=>pure r) Q E e) E s₂:=by rw[k o i];exact wpAny_operating (bAX d (λr e g=>b7 (wpAny_letTemporaryGo (d7 g))) λ_ _ x=>x)
 first
  |exact d7 (b7 a)
  |exact b7 (d7 (b7 a))
  |exact b7 a
def aJy (I:Inv X bF8 σ H s)(g:aHq H a y o):s.TypeIs (.ref a) "dict":=by
 rcases g with⟨d,k,e,_,_⟩|⟨d,k,b,e,_,_,_⟩
 ·obtain⟨_,_,f,_,c⟩:=aCj I.hok e;exact c.typeIs
 ·obtain⟨_,_,h,_,c⟩:=aBw I.hok e;exact c.typeIs
def aZp (td ty:TE):TE:=fun σ H Q=>td σ H λx H1=>ty σ H1 λy H2=>∃a v,x=.ref a/\aHq H2 a y (some v)/\Q v H2
def bDu (ty td:TE):TE:=fun σ H Q=>ty σ H λy H1=>td σ H1 λx H2=>∃a o,x=.ref a/\aHq H2 a y o/\Q (.bl o.isSome) H2
def aOi (ty td:TE):TE:=fun σ H Q=>ty σ H λy H1=>td σ H1 λx H2=>∃a o,x=.ref a/\aHq H2 a y o/\Q (.bl (!o.isSome)) H2
def aZt (td ty tv:TE):TS:=λD σ H=>tv σ H λv H1=>td σ H1 λx H2=>ty σ H2 λy H3=>∃a H4,x=.ref a/\aHb H3 a y v H4/\D.nx σ H4
section
variable {X:Cx}{o i e value:Expr}{pos pos' tpos:Pos}{td ty tv:TE}
def aWm (C:X.A.units+1<cLine)(ho:PE X o td)(hi:PE X i ty)(D:bBg i):PE X (.Subscript o i pos) (aZp td ty):=by intro b s σ H Q I h;refine aX2 PySem.F.slot_dict_getitem.lookup D (thn (ho b s σ H _ I h) λu j ⟨x,q,k,m,l⟩=>thn (hi b j σ q _ k l) λw B ⟨y,n,d,e,a,v,r,g,f⟩=>?_);subst r;obtain rfl:u=Value.ref a:=m;exact⟨aJy d g,aQe C d g e λz t p c=>⟨v,n,p,c,f⟩⟩
def aZ3 (z:X.A.units+1<cLine)(hi:PE X i ty)(ho:PE X o td):PC X .In i o (bDu ty td):=by intro b s σ H Q I h;refine thn (hi b s σ H _ I h) λv e ⟨y,r,f,p,k⟩=>thn (ho b e σ r _ f k) λu w ⟨x,m,j,l,a,c,q,g,d⟩=>?_;subst q;obtain rfl:u=Value.ref a:=l;exact bE5 z j g p λt n=>⟨.bl c.isSome,m,n,rfl,d⟩
def aQw (z:X.A.units+1<cLine)(hi:PE X i ty)(ho:PE X o td):PC X .NotIn i o (aOi ty td):=by intro b s σ H Q I h;refine thn (hi b s σ H _ I h) λv e ⟨y,r,f,p,k⟩=>thn (ho b e σ r _ f k) λu w ⟨x,m,j,l,a,c,q,g,d⟩=>?_;subst q;obtain rfl:u=Value.ref a:=l;exact aWg z j g p λt n=>⟨.bl (!c.isSome),m,n,rfl,d⟩
def aXs (M:X.A.units+1<cLine)(ho:PE X o td)(hi:PE X i ty)(L:PE X value tv)(G:swapsWith value (some (.Subscript o i pos')) pos.line X.env=pure false) :
  PS X (.Assign [.Subscript o i pos'] value pos) (aZt td ty tv):=by
 intro b s σ H D I h;refine wpAny_Assign_Subscript (thn (L b s σ H _ I h) λr d ⟨v,m,e,w,f⟩=>thn (ho b d σ m _ e f) λu k ⟨x,l,p,j,c⟩=>thn (hi b k σ l _ p c) λE J ⟨y,F,t,z,a,n,B,g,q⟩=>?_) G;subst B;obtain rfl:u=Value.ref a:=j;exact aRa M t g z w λK C=>⟨σ,n,C,q⟩
end
def aLp (h:Heap)(a:sysModules<h.objs.size):cV P w H (h.push { cls:=.type "dict",data:=.dict #[] }) h.objs.size (.dK []):=
 ⟨bAC _,beq_eq_false_iff_ne.mpr (Ne.symm (v8 a)),[],.nil,Heap.DictOf.new h⟩
def aS8:TE:=λ_ H Q=>∀p,H p=none->Q (.ref p) (upd H p (.dK []))
section
variable {X:Cx}{pos:Pos}
def aSl:PE X (.Dict [] [] pos) aS8:=λa s σ H Q I h=>
 wpAny_Dict_empty ⟨.ref s.heap.objs.size,_,I.laid (t':=s.toks) (λ_ _ q=>c7 _ q) (d8 _) (aLp s.heap I.big),rfl,h _ (I.hok.fresh (d8 _))⟩
end
def aL0:List (TE × TE)->St->Hp->(List (V × V)->Hp->Prop)->Prop
 |[],_,H,Q=>Q [] H
 |(tk,tv)::r,σ,H,Q=>tk σ H λx H1=>tv σ H1 λy H2=>aL0 r σ H2 λps H3=>Q ((x,y)::ps) H3
abbrev VV:List (V × V)->List (Value × Value)->Prop:=Paired λp q=>RelV p.1 q.1/\RelV p.2 q.2
def PPs (X:Cx)(pos:Pos)(keys:List (Option Expr))(values:List Expr)(trs:List (TE × TE)):Prop:=
 ∀bF8 s σ H Q,Inv X bF8 σ H s->aL0 trs σ H Q ->
  wpAny (model X.prog X.w) X.A (evalPairs (pairTrees keys values X.env pos)) (λvs s'=>∃ps H',Inv X bF8 σ H' s'/\VV ps vs/\Q ps H') X.xe s
def aWj:PPs X pos [] [] []:=λa s σ H Q I h=>pairTrees_nil_walk ⟨[],H,I,.nil,h⟩
def aSh (A:PE X k tk)(B:PE X v tv)(z:PPs X pos ks vs trs) :
  PPs X pos (some k::ks) (v::vs) ((tk,tv)::trs):=λa s σ H Q I h=>
 pairTrees_cons_walk (thn (A a s σ H _ I h) λu f ⟨x,r,g,n,l⟩=>thn (B a f σ r _ g l) λC o ⟨y,p,j,c,d⟩=>
  thn (z a o σ p _ j d) λw t ⟨e,i,q,b,m⟩=>⟨(x,y)::e,i,q,.cons ⟨n,c⟩ b,m⟩)
def lU (kvs more:List (Key × V)):List (Key × V):=more.foldl (λacc kv=>putK acc kv.1 kv.2) kvs
theorem KV.merge:∀{more:List (Key × V)} {rs:List (Key × Value)} {kvs:List (Key × V)} {vs:List (Key × Value)},KV more rs->KV kvs vs->KV (lU kvs more) (merged vs rs):=by
 intro more rs kvs vs r;unfold KV at r
 induction r generalizing kvs vs with
 |nil=>intro q;exact q
 |@cons p q ps qs h t ih=>
  intro a;have e:KV (putK kvs p.1 p.2) (stored vs q.1 q.2):=by have:=a.put p.1 h.2;rw[<-h.1];exact this
  exact ih e
theorem lQ:∀more kvs,(lU kvs more).length<=kvs.length+more.length
 |[],kvs=>by show kvs.length<=kvs.length+0;lia
 |p::r,kvs=>by have b:=lQ r (putK kvs p.1 p.2);have a:=qI kvs p.1 p.2;show (lU (putK kvs p.1 p.2) r).length<=_;rw[m8];lia
theorem aC2:∀{kvs:List (Key × V)} {ws:List (Value × Value)},VV (kvs.map λkv=>(kV kv.1,kv.2)) ws->∃rs,Carries (bI P w) ws rs/\KV kvs rs
 |[],_,r=>by rw[List.map_nil] at r;cases r;exact⟨[],True.intro,.nil⟩
 |p::kvs,_,r=>by
  rw[bAL] at r;cases r with
  |@cons a b as bs h t=>obtain⟨rs,c,q⟩:=aC2 t;obtain⟨e,d⟩:=b;exact⟨(p.1,d)::rs,⟨uW h.1,rfl,c⟩,.cons ⟨rfl,h.2⟩ q⟩
def aZi (trs:List (TE × TE)):TE:=fun σ H Q=>∀p,H p=none->aL0 trs σ (upd H p (.dK [])) λps H2=>H2 p=some (.dK [])/\∃kvs:List (Key × V),ps=kvs.map (λkv=>(kV kv.1,kv.2))/\kvs.length<=15/\Q (.ref p) (upd H2 p (.dK (lU [] kvs)))
def aY7 {X:Cx}{pos:Pos}{keys:List (Option Expr)}{values:List Expr}{trs:List (TE × TE)}(h:PPs X pos keys values trs)(i:keys.all (·.isSome)=true)(G:keys.length=values.length)(L:keys≠[])
  (r:keys.length<=15):PE X (.Dict keys values pos) (aZi trs):=by
 intro f s σ H Q I q;have n:=I.hok.fresh (d8 s.heap.objs.size);have l:=I.laid (a:=s.heap.objs.size) (o:=.dK []) (h':=s.heap.push { cls:=.type "dict",data:=.dict #[] }) (t':=s.toks) (λ_ _ q=>c7 _ q) (d8 _) (aLp s.heap I.big);refine wpAny_Dict_walk (knd:=bI X.prog X.w) i G L r (thn (h f _ σ _ _ l (q _ n)) λJ E ⟨K,F,j,g,e,b,C,D,k⟩=>?_);subst C;obtain⟨t,c,x⟩:=aC2 (P:=X.prog) (w:=X.w) g;obtain⟨z,hd,m,A,p⟩:=aLq j.hok e;cases A;refine⟨t,c,p,λh' d u=>⟨.ref s.heap.objs.size,_,?_,rfl,k⟩⟩;have B:(lU [] b).length<=sizeLine:=by have y:=lQ b [];rw[bBS] at y;rw[sizeLine_eq];lia
 have v:∃q,h'.get? s.heap.objs.size=some q:=let ⟨q,_,_,hq,_⟩:=d;⟨q,hq⟩
 exact aAw j (by rw[e];exact True.intro) u v (aL2 B hd (x.merge .nil) d)
structure M1 (X:Cx)(o:Expr)(m:Str)(apos:Pos)(e:Expr)(cpos:Pos):Prop where
 base:attributeBase o m X.env (eval o X.env)=eval o X.env
 few:((backTo cpos (starEach [e] X.env)).all (λx=>!x.1) && (backToKw cpos (keywordEach [] X.env)).all (λx=>x.1.isSome)
  && decide (([e]:List Expr).length+([]:List Keyword).length+(if ([]:List Keyword).isEmpty then 0 else 1)<30))=true
 line:(apos.endLine == cpos.line)=true
 trees:backTo cpos (starEach [e] X.env)=[(false,eval e X.env)]
def IsD (H:Hp)(a:Addr):Prop:=(∃kvs,Rd H a (.dK kvs))\/∃kvs,Rd H a (.dT kvs)
def bCz (I:Inv X bF8 σ H s)(d:IsD H a) :
  s.TypeIs (.ref a) "dict"/\(∀b,Value.ref a=.ref b->∃ob,s.heap.get? b=some ob/\ob.dict=none)/\(a == sysModules)=false:=by
 rcases d with⟨h,e⟩|⟨h,e⟩
 ·obtain⟨_,hd,i,_,c⟩:=aCj I.hok e;refine⟨c.typeIs,λb q=>?_,hd⟩;cases q;obtain⟨ob,_,_,f,g,_⟩:=c;exact⟨ob,f,g.2.1⟩
 ·obtain⟨_,hd,j,_,c⟩:=aBw I.hok e;refine⟨c.typeIs,λb q=>?_,hd⟩;cases q;obtain⟨ob,_,_,f,g,_⟩:=c;exact⟨ob,f,g.2.1⟩
section
variable {X:Cx}{bF8:bF6}{σ:St}{H:Hp}{s:Shared}{a:Addr}{y d:V}{u r:Value}{o:Option V}{A:Around}{E:bF5}
def bAd (p:A.units+1<cLine)(I:Inv X bF8 σ H s)(g:aHq H a y o)(m:RelV y u)(h:∀w' s',Inv X bF8 σ H s'->RelV (o.getD .non) w'->Q w' s') :
  wpAny (model X.prog X.w) A (call (.builtin "dict.get") [.ref a,u]) Q E s:=by
 rcases g with⟨i,k,e,f,l⟩|⟨i,k,b,e,f,eb,l⟩
 ·subst f;obtain⟨z,hd,n,c,d⟩:=aCj I.hok e;refine call_meetsIn PySem.F.slot_dict_get d.typeIs PySem.F.entry_dict_get (PySem.F.args_dict_get_2 _ _) (meets_dict_get (bI X.prog X.w) a (uW m) hd) ⟨_,d.mapOf,h _ _ (I.tok _) ?_⟩;rw[l];exact (c.val k).getD rfl
 ·subst f;cases (show u=Value.ref b from m);obtain⟨z,hd,j,c,d⟩:=aBw I.hok e;refine call_meetsIn PySem.F.slot_dict_get d.typeIs PySem.F.entry_dict_get (PySem.F.args_dict_get_2 _ _) (meetsH_dict_get (tupleKind (bI X.prog X.w)) a b hd) ⟨tupleKind_room_in1 p,k,j,yL I.hok eb,d,h _ _ (I.tok _) ?_⟩;rw[l];exact (c.val k).getD rfl
end
def aTm (td ty:TE):TE:=fun σ H Q=>td σ H λx H1=>∃a,x=.ref a/\IsD H1 a/\ty σ H1 λy H2=>∃o,aHq H2 a y o/\Q (o.getD .non) H2
section
variable {X:Cx}{o e f:Expr}{apos cpos:Pos}{td ty tx:TE}
def aU8 (K:X.A.units+1<cLine)(ho:PE X o td)(D:PE X e ty)(m:M1 X o "get" apos e cpos):PE X (.Call (.Attribute o "get" apos) [e] [] cpos) (aTm td ty):=by intro b s σ H Q I h;refine wpAny_Call_method m.base m.few m.line PySem.F.plainAttrs_dict PySem.F.slot_dict_get PySem.F.type_dict_get (thn (ho b s σ H _ I h) λu j ⟨x,q,f,l,a,z,d,k⟩=>?_);subst z;obtain rfl:u=Value.ref a:=l;obtain⟨t,n,_⟩:=bCz f d;refine⟨t,n,?_⟩;rw[m.trees];refine bDL rfl (bFK (bBY (thn (D b j σ q _ f k) λB C ⟨y,p,r,w,E,g,i⟩=>bET ?_)));exact bAd K r g w λJ G v c=>⟨_,p,v,c,i⟩
end
section
variable {X:Cx}{bF8:bF6}{σ:St}{H:Hp}{s:Shared}{a:Addr}{kvs:List (Key × V)}{A:Around}{E:bF5}
end
section
variable {X:Cx}{bF8:bF6}{σ:St}{H:Hp}{s:Shared}{a:Addr}{y:V}{u:Value}{A:Around}{E:bF5}
end
section
variable {X:Cx}
end
section
variable {κ:Type}[DecidableEq κ]
def aWe {b:List (κ × V)}{k:κ}{v:V}(h:nO b k=some v):k∈b.map (·.1):=by
 have q:(b.any λc=>decide (c.1=k))=true:=by rw[uZ,h];all_goals rfl
 obtain⟨p,a,e⟩:=List.any_eq_true.mp q;exact List.mem_map.mpr ⟨p,a,of_decide_eq_true e⟩
end
structure VE (X:Cx)(e:Expr)(t:TE):Prop where
 out:PE X e t
structure VT (X:Cx)(e:Expr)(t:TT):Prop where
 out:PT X e t
structure VW (X:Cx)(e:Expr)(t:TT):Prop where
 out:PW X e t
structure VA (X:Cx)(es:List Expr)(t:TA):Prop where
 out:PA X es t
structure VS (X:Cx)(st:Stmt)(t:TS):Prop where
 out:PS X st t
structure VSs (X:Cx)(st:List Stmt)(t:TS):Prop where
 out:PSs X st t
structure VI (X:Cx)(tg iter:Expr)(t:TI):Prop where
 out:PI X tg iter t
structure VG (X:Cx)(tg:Expr)(t:TG):Prop where
 out:PG X tg t
structure VGs (X:Cx)(tg:List Expr)(t:TGs):Prop where
 out:PGs X tg t
structure VO (X:Cx)(e:Option Expr)(t:TO):Prop where
 out:PO X e t
structure VF (X:Cx)(ifs:List Expr)(t:TT):Prop where
 out:aSc X ifs t
structure VP (X:Cx)(pos:Pos)(keys:List (Option Expr))(values:List Expr)(trs:List (TE × TE)):Prop where
 out:PPs X pos keys values trs
section
variable {X:Cx}{a b c e:Expr}{es:List Expr}{ta tb tc te:TE}{t:TA}{tA tB':TT}{pos p:Pos}{x:Str}
def vv (i:Nat)(b:X.N[i]?=some x:=by rfl)(c:Vis X.env.scope x:=by trivial)(hd:(x == ("__debug__":Str))=false:=by decide)
  (a:(x == ("__classdict__":Str))=false:=by decide):VE X (.Name x pos) (rR i):=⟨pv i b c hd a⟩
def tD (a:Gl X x)(b:∃u,X.mg x=some u/\RelV v u)(hd:(x == ("__debug__":Str))=false:=by decide):VE X (.Name x pos) (tC v):=⟨bDc a b hd⟩
def fG (a:Gl X x)(b:X.mg x=none)(d:bootBuiltins x=some u)(r:RelV v u)(c:x≠"__name__":=by decide)(hd:(x == ("__debug__":Str))=false:=by decide):VE X (.Name x pos) (tC v):=⟨aXp a b d r c hd⟩
def aA {i j}:VE X (.Constant (.int i) j pos) (tC (.int i)):=⟨bAm⟩
def fP {b j}:VE X (.Constant (.bool b) j pos) (tC (.bl b)):=⟨bD4⟩
def fU {j}:VE X (.Constant .none j pos) (tC .non):=⟨bAw⟩
def bB {x j}:VE X (.Constant (.str x) j pos) (tC (.str x)):=⟨bB2⟩
def bF (ho:OpR X (binaryOp op) r)(c:VE X a ta)(d:VE X b tb):VE X (.BinOp a op b pos) (tOp r ta tb):=⟨bDp ho c.1 d.1⟩
def aZx (ho:UnR X (unaryOp op) r)(b:VE X a ta):VE X (.UnaryOp op a pos) (tUn r ta):=⟨bDa ho b.1⟩
def rN (ho:OpR X (compareOp op) r)(c:VE X a ta)(e:VE X b tb)(d:behindInMarks op b=false):VE X (.Compare a [op] [b] pos) (tOp r ta tb):=⟨aXk ho c.1 e.1 d⟩
def aOo (ho:OpR X (compareOp op) r)(c:VE X a ta)(e:VE X b tb)(d:behindInMarks op b=false):VT X (.Compare a [op] [b] pos) (aKw (tOp r ta tb)):=⟨aX6 ho c.1 e.1 d⟩
def aSv (ho:OpR X (compareOp op) r)(d:OpR X (compareOp op') r')(h:VE X a ta)(g:VE X b tb)(e:VE X c tc)
  (f:lastMarks [op,op'] [b,c]=false:=by with_unfolding_all rfl):VE X (.Compare a [op,op'] [b,c] pos) (aGx r r' ta tb tc):=⟨aTy ho d h.1 g.1 e.1 f⟩
def aA5 (ho:OpR X (compareOp op) r)(d:OpR X (compareOp op') r')(h:VE X a ta)(g:VE X b tb)(e:VE X c tc)
  (f:lastMarks [op,op'] [b,c]=false:=by with_unfolding_all rfl):VT X (.Compare a [op,op'] [b,c] pos) (aKw (aGx r r' ta tb tc)):=⟨aU5 ho d h.1 g.1 e.1 f⟩
def gY {op}(h:VE X a te):VE X (.BoolOp op [a] pos) te:=⟨aZ9 h.1⟩
def gU (c:VE X a ta)(d:VE X (.BoolOp .And (b::rest) pos) tb):VE X (.BoolOp .And (a::b::rest) pos) (aZw ta tb):=⟨aZ4 c.1 d.1⟩
def aZ1 (c:VE X a ta)(d:VE X (.BoolOp .Or (b::rest) pos) tb):VE X (.BoolOp .Or (a::b::rest) pos) (bEn ta tb):=⟨bDh c.1 d.1⟩
def aZ8 (b:VE X a ta):VE X (.UnaryOp .Not a pos) (aZr ta):=⟨bCu b.1⟩
def aJ7 (e:VT X c tA)(d:VE X a ta)(f:VE X b tb):VE X (.IfExp c a b pos) (tIf tA ta tb):=⟨aVu e.1 d.1 f.1⟩
def zA:VA X [] aAq:=⟨aS4⟩
def aH (b:VE X e te)(a:VA X es t)(c:cL e=true:=by rfl):VA X (e::es) (dH te t):=⟨bCp b.1 a.1 c⟩
def bDk (G:Ok X.prog X.w X.K X.mg X.base k x ps sp)(f:Room k X.A)(c:Gl X x)(g:VA X (e::es) t)(a:(x == ("__debug__":Str))=false:=by decide)
  (d:cL e=true:=by rfl) (b:(backTo pos (starEach es X.env)).any (·.1)=false:=by rfl) :
  VE X (.Call (.Name x p) (e::es) [] pos) (aBc sp [] E0 t):=⟨bDd G f c g.1 a (aM d) b⟩
def bBc (G:Ok X.prog X.w X.K X.mg X.base k x ps sp)(b:Room k X.A)(c:Gl X x)(a:(x == ("__debug__":Str))=false:=by decide) :
  VE X (.Call (.Name x p) [] [] pos) (aBc sp [] E0 aAq):=⟨bAf G b c a⟩
def aL {id:String}{r:List V->Hp->VK->Prop}(g:cH X (.builtin id) r)(f:Gl X x)(h:X.mg x=none)(d:bootBuiltins x=some (.builtin id))(c:VA X (e::es) t)(j:x≠"__name__":=by decide)(a:(x == ("__debug__":Str))=false:=by decide)
  (i:cL e=true:=by rfl) (b:(backTo pos (starEach es X.env)).any (·.1)=false:=by rfl):VE X (.Call (.Name x p) (e::es) [] pos) (tCB r t):=⟨aUw g f h d c.1 j a (aM i) b⟩
def cC (g:cH X (.type T) r)(f:Gl X x)(h:X.mg x=none)(d:bootBuiltins x=some (.type T))(c:VA X (e::es) t)(j:x≠"__name__":=by decide)(a:(x == ("__debug__":Str))=false:=by decide)
  (i:cL e=true:=by rfl) (b:(backTo pos (starEach es X.env)).any (·.1)=false:=by rfl):VE X (.Call (.Name x p) (e::es) [] pos) (tCB r t):=⟨aRf g f h d c.1 j a (aM i) b⟩
def sX {o:Expr}{to:TE}{name:Str}{apos cpos:Pos}{T id:String}{r:V->List V->Hp->VK->Prop}(h:PlainAttrs T)(slot:Slot T name id)(f:typeOf (.builtin id)=pure (.type "method_descriptor"))(i:MtR X id r)(ho:VE X o to)(g:VA X (e::es) t)
  (b:attributeBase o name X.env (eval o X.env)=eval o X.env:=by rfl)
  (d:((backTo cpos (starEach (e::es) X.env)).all (λx=>!x.1) && (backToKw cpos (keywordEach [] X.env)).all (λx=>x.1.isSome)
   && decide ((e::es).length+([]:List Keyword).length+(if ([]:List Keyword).isEmpty then 0 else 1)<30))=true:=by rfl)
  (c:(apos.endLine == cpos.line)=true:=by rfl) (j:cL e=true:=by rfl) (a:(backTo cpos (starEach es X.env)).any (·.1)=false:=by rfl) :
  VE X (.Call (.Attribute o name apos) (e::es) [] cpos) (tBM X.K T r to t):=⟨bEs h slot f i ho.1 g.1 b d c (aM j) a⟩
def pK (d:VE X a ta)(f:VE X b tb)(e:aIe b) :
  VE X (.Subscript a b pos) (tOp (λx y H Q=>∃z i c,x=.str z/\y=.int i/\0<=i/\i<2 ^ 63/\i<z.length/\z.cps[i.toNat]?=some c/\Q (.str ⟨#[c]⟩) H) ta tb):=⟨aIf d.1 f.1 e⟩
def fC:VO X none aOx:=⟨aYq⟩
def dR (h:VE X e te):VO X (some e) (aZf te):=⟨aZb h.1⟩
def dD {r:V->Option Int->Option Int->Hp->VK->Prop}{lo hi:Option Expr}{tl th:TO}{p2:Pos}(a:SlR X r)(c:VE X e te)(d:VO X lo tl)(b:VO X hi th):VE X (.Subscript e (.Slice lo hi none p2) pos) (tSl r te tl th):=⟨aU3 a c.1 d.1 b.1⟩
def bEh (c:IxR X r)(d:VE X a ta)(f:VE X b tb)(e:aGy b):VE X (.Subscript a b pos) (tOp r ta tb):=⟨bEe c d.1 f.1 e⟩
def aVs:VE X (.Dict [] [] pos) aS8:=⟨aSl⟩
def aYp:VP X pos [] [] []:=⟨aWj⟩
def aVw (c:VE X k tk)(b:VE X v tv)(a:VP X pos ks vs trs):VP X pos (some k::ks) (v::vs) ((tk,tv)::trs):=⟨aSh c.1 b.1 a.1⟩
def aYc (h:VP X pos keys values trs)(a:keys.all (·.isSome)=true)(d:keys.length=values.length)(c:keys≠[])(b:keys.length<=15):VE X (.Dict keys values pos) (aZi trs):=⟨aY7 h.1 a d c b⟩
theorem VE.imp {t t':TE}(h:VE X e t)(k:∀σ H Q,t' σ H Q->t σ H Q):VE X e t':=⟨PE.imp h.1 k⟩
def aG7 (b:VT X a tA):VW X (.BoolOp .And [a] pos) tA:=⟨aX1 b.1⟩
def eG (b:VT X a tA):VW X (.BoolOp .Or [a] pos) tA:=⟨bAs b.1⟩
def aIa (c:VT X a tA)(d:VW X (.BoolOp .And (b::rest) pos) tB'):VW X (.BoolOp .And (a::b::rest) pos) (bDl tA tB'):=⟨bA2 c.1 d.1⟩
def fJ (c:VT X a tA)(d:VW X (.BoolOp .Or (b::rest) pos) tB'):VW X (.BoolOp .Or (a::b::rest) pos) (tOr tA tB'):=⟨bEi c.1 d.1⟩
theorem VW.pt (h:VW X e tA):VT X e tA:=⟨h.1.pt⟩
def cD (b:VT X a tA):VT X (.UnaryOp .Not a pos) (bBr tA):=⟨bCf b.1⟩
def bU (h:VE X e te)(a:∀whole,isTrue e X.env whole=(do let v <-whole;standAt e.pos;holding [v] (truthy v)):=by intro _;rfl):VT X e (tB te):=⟨bCj h.1 a⟩
def aK4 (b:VE X a ta)(c:∀whole,isTrue a X.env whole=(do let v <-whole;standAt a.pos;holding [v] (truthy v)):=by intro _;rfl) :
  VT X a (fun σ H Q=>ta σ H λx H'=>∃k,bCm X.K x H' k/\Q k H'):=⟨aVa b.1 c⟩
variable {st:Stmt}{rest:List Stmt}{u w':TS}
def aU:VSs X [] sY:=⟨aXz⟩
def aB (b:VS X st u)(a:VSs X rest w'):VSs X (st::rest) (aDy u w'):=⟨aVj b.1 a.1⟩
def aD (a:VS X st u):VSs X [st] u:=⟨aYu a.1⟩
def aJ (a:VE X e te):VS X (.Return (some e) pos) (rA te):=⟨bBv a.1⟩
def bM {a b:List Stmt}(e:VT X c tA)(d:VSs X a u)(f:VSs X b w'):VS X (.If c a b pos) (aFx tA u w'):=⟨bD9 e.1 d.1 f.1⟩
def bBb (c:X.N.Nodup)(hi:X.N[i]?=some x)(d:Loc X.env.scope x)(f:VE X e te)(a:swapsWith e (some (.Name x pos')) pos.line X.env=pure false:=by rfl)(b:X.fn x=true\/X.env.scope.names.lookup x=some .local:=by first|exact .inl rfl|exact .inr rfl|assumption) :
  VS X (.Assign [.Name x pos'] e pos) (aB2 te (bO i)):=⟨bA6 c hi d f.1 a b⟩
def dJ (b:VE X e te)(a:swapsWith e none pos.line X.env=pure false:=by rfl):VS X (.Expr e pos) (aJp te):=⟨aP4 b.1 a⟩
def iT {tg iter:Expr}{body:List Stmt}{wi:TI}{g:TG}{tb:TS}(d:PassesOwn (model X.prog X.w) X.A X.env X.xe)(c:X.calm=true)(hi:VI X tg iter wi)(b:VG X tg g)(a:VSs X body tb)
  (e:∀x,foldedSetIterable iter X.env x=pure x:=by intro _;rfl):VS X (.For tg iter body [] pos) (bCx wi g tb):=⟨bBa d c hi.1 b.1 a.1 e⟩
def bJ (a:X.N.Nodup)(hi:X.N[i]?=some x)(b:Loc X.env.scope x)(c:X.fn x=true\/X.env.scope.names.lookup x=some .local:=by first|exact .inl rfl|exact .inr rfl|assumption):VG X (.Name x pos) (bO i):=⟨aY2 a hi b c⟩
def eO:VGs X [] aQ3:=⟨aYe⟩
def aX {t:TG}{u:TGs}(c:VG X e t)(a:VGs X es u)(b:(assignEach (e::es) X.env).map (·.2)=assign e X.env::(assignEach es X.env).map (·.2):=by rfl):VGs X (e::es) (tG t u):=⟨aSt c.1 a.1 b⟩
def uB {k:Nat}{t:TGs}{n:Nat}(b:X.calm=true)(h:VGs X es t)(c:(assignEach es X.env).length=n:=by rfl)(a:(assignEach es X.env).findIdx? (·.1)=none:=by rfl):VG X (.Tuple es k pos) (aL4 X.K n t):=⟨bBq b h.1 c a⟩
variable {tg:Expr}
def eQ (h:VE X e te):VI X tg e (aFu X.K te):=⟨aYa h.1⟩
def pO (h:VE X e te):VI X tg e (aYx X.K te):=⟨bAp h.1⟩
def aVi (h:VE X e te):VI X tg e (bBf te):=⟨bAu h.1⟩
def gA (b:Gl X "range")(d:X.mg "range"=none)(c:VA X [a] t)(e:cL a=true:=by rfl):VI X tg (.Call (.Name "range" p) [a] [] pos) (aT7 t):=⟨aR5 b d c.1 (aM e)⟩
def fW:VF X [] mW:=⟨bCi⟩
def lZ (h:VT X c tA):VF X [c] tA:=⟨bBt h.1⟩
def cI
  (C:xY scope N) (b:∀y,(y,NameKind.free)∈scope.names->X.env.kindOf y=some .cell\/X.env.kindOf y=some .free) (c:X.calm=true)
  (hi:VI X target iter wi)
  (a:∀cl s H fp,VG (cxC X N scope cl s H fp) target g/\VF (cxC X N scope cl s H fp) ifs tt/\VE (cxC X N scope cl s H fp) elt te)
  (d:∀x,foldedSetIterable iter X.env x=pure x:=by intro _;rfl) :
  VE X (.ListComp elt [⟨target,iter,ifs,0⟩] scope pos) (jA X scope N wi g tt te):=
 ⟨aWt C b c hi.1 (λcl s H fp=>⟨(a cl s H fp).1.1,(a cl s H fp).2.1.1,(a cl s H fp).2.2.1⟩) d⟩
end
section
variable {P:Program}{w:World}{K:bF4}{mg:bF7}{base:Heap}
def Fun.okV {x qual:Str}{st:Stmt}{f:Addr}{fd:FuncData}{N ps:List Str}{k:Nat}{sp:Sp}(F:Fun K x qual st f fd)(S:aG N ps (aC st))(c:∀vs H Q E,sp vs H Q E->vs.length=ps.length)
  (a:∀(cdv:Value) (A:Around) (outer:List Env) (s:Shared) (H:Hp) (vs:List V) (Q:VK) (E:XK),Room k (A.deeper (envOfC qual (aC st) s.heap.objs.size f cdv))->sp vs H Q E ->
   ∃t,VSs (wY CX0 P w K mg base N qual (aC st) f cdv A outer s H E).nox (cY st) t/\t { nx:=λ_ H'=>Q .non H',rt:=Q } (start N vs) H):gK P w K mg base CX0 (k+1) f fd ps sp:=
 F.ok S c λcdv A outer s H vs Q E b h=>let ⟨t,h1,h2⟩:=a cdv A outer s H vs Q E b h;⟨t,h1.1,h2⟩
def Ok.ofV {x:Str}{st:Stmt}{N ps:List Str}{k:Nat}{sp:Sp}(D:Dn K mg x st ps)(S:aG N ps (aC st))(c:∀vs H Q E,sp vs H Q E->vs.length=ps.length)
  (a:∀(f:Addr) (cdv:Value) (A:Around) (outer:List Env) (s:Shared) (H:Hp) (vs:List V) (Q:VK) (E:XK),Room k (A.deeper (envOfC x (aC st) s.heap.objs.size f cdv))->sp vs H Q E ->
   ∃t,VSs (wY CX0 P w K mg base N x (aC st) f cdv A outer s H E).nox (cY st) t/\t { nx:=λ_ H'=>Q .non H',rt:=Q } (start N vs) H):Ok P w K mg base (k+1) x ps sp:=
 Ok.of D S c λf cdv A outer s H vs Q E b h=>let ⟨t,h1,h2⟩:=a f cdv A outer s H vs Q E b h;⟨t,h1.1,h2⟩
end
def Held (P:Program)(w:World)(K:bF4)(mg:bF7)(base:Heap)(k:Nat)(f:Addr)(ps:List Str)(sp:Sp):Prop:=
 ∃fd,PySem.W.keepIn K (.ref f)=true/\Binds K fd ps []/\gK P w K mg base CX0 k f fd ps sp
def Ok.held {P:Program}{w:World}{K:bF4}{mg:bF7}{base:Heap}{k:Nat}{x:Str}{ps:List Str}{sp:Sp}(G:Ok P w K mg base k x ps sp):∃f,mg x=some (.ref f)/\Held P w K mg base k f ps sp:=by obtain⟨f,e,c,a,b,d⟩:=G;exact⟨f,c,e,a,b,d⟩
section
variable {X:Cx}{x:Str}{p pos:Pos}{e:Expr}{es:List Expr}{te:TE}{t:TA}
def aS5 (P:Program)(w:World)(K:bF4)(mg:bF7)(base:Heap)(k:Nat)(te:TE)(t:TA):TE:=fun σ H Q=>te σ H λv H1=>∃f ps sp,v=.ref f/\Held P w K mg base k f ps sp/\t σ H1 λvs H2=>sp vs H2 Q E0
def aXw (C:Room k X.A)(G:PE X (.Name x p) te)(D:PA X (e::es) t)
  (E:starEach (e::es) X.env=(false,eval e X.env)::starEach es X.env:=by rfl) (g:(backTo pos (starEach es X.env)).any (·.1)=false:=by rfl) :
  PE X (.Call (.Name x p) (e::es) [] pos) (aS5 X.prog X.w X.K X.mg X.base k te t):=by
 intro a s σ H Q I h;refine bBK (thn (G a s σ H _ I h) λu i ⟨v,o,b,n,l⟩=>?_);obtain⟨f,y,B,rfl,⟨N,j,m,F⟩,q⟩:=l;obtain rfl:u=Value.ref f:=n;refine PySem.W.callWith_K b.ok.mod.kin j (thn (D pos a i σ o _ b q) λz L ⟨J,M,c,r,d⟩=>⟨c.kIn,?_⟩) E g;exact aC1 F C m .nil aCb c r (by simpa using d)
end
end L2
namespace PySem
end PySem
namespace L2
open PySem PySem.Spec PyProof.Rows
section
variable {X:Cx}
def aZc:OpR X (binaryOp .Add) (λx y H Q=>∃a b ys,x=.ref a/\y=.ref b/\SqT X.K H a []/\SqT X.K H b ys/\Q (.ref b) H):=by
 intro t s σ H x y v u Q I A J h;obtain⟨a,b,ys,rfl,rfl,r,B,q⟩:=h;cases A;cases J;obtain⟨w,G,E,_⟩:=I.tuple r;obtain⟨c,M,p,_⟩:=I.tuple B;cases G;obtain⟨⟨C,z,m,D⟩,l,o,n,hd⟩:=id E;obtain⟨⟨k,j,g,i⟩,e,f,L,d⟩:=id p;simp only at o hd f d;subst o hd f d;exact concat_meets ⟨_,l,rfl⟩ ⟨_,e,rfl⟩ noFill_tuple_add seq_tuple_add PySem.F.slot_tuple_add PySem.F.entry_tuple_add (PySem.F.args_tuple_add_2 _ _)
  (tuple_addW0 a b #[] c.toArray n L z j D i rfl) ⟨l,e,⟨.ref b,H,I,rfl,q⟩⟩
end
end L2
namespace PySem
section
variable {prog:Program}{w:World}
variable {A:Around}{E:bF5}{s:Shared}
abbrev cJ (led:Bool):Obj:={ cls:=.type "set",dict:=none,data:=.set #[] 0 (.fresh 0 0 led) }
end
end PySem
namespace L2
open PySem PySem.Spec PyProof.Rows
section
variable {X:Cx}
end
def jN (j:Nat)(c:(y,NameKind.free)∈scope.names)(e:X.N[j]?=some y)(f:σ[j]?=some (some v))(d:Vis X.env.scope y):Cap X scope [x,y] σ [none,some v]:=
 ⟨rfl,λi z u a b=>by
  match i,a,b with
  |0,_,b=>cases b
  |1,a,b=>cases a;cases b;exact⟨c,j,e,f,d⟩
  |i+2,a,_=>cases a⟩
def rF:Cap X scope [x,y] σ [none,none]:=⟨rfl,λi z u b a=>by
  match i,b,a with
  |0,_,a=>cases a
  |1,_,a=>cases a
  |i+2,b,_=>cases b⟩
section
variable {X:Cx}{a b e:Expr}{es:List Expr}{te:TE}{t:TA}{pos p:Pos}{x:Str}
def aZd (d:Room k X.A)(b:VE X (.Name x p) te)(f:VA X (e::es) t)(c:cL e=true:=by rfl)(a:(backTo pos (starEach es X.env)).any (·.1)=false:=by rfl) :
  VE X (.Call (.Name x p) (e::es) [] pos) (aS5 X.prog X.w X.K X.mg X.base k te t):=⟨aXw d b.1 f.1 (aM c) a⟩
def aTe {P:Program}{w:World}{K:bF4}{mg:bF7}{base:Heap}{k:Nat}(g:Room k X.A)(c:VE X (.Name x p) te)(h:VA X (e::es) t)(l:cL e=true:=by rfl)(a:(backTo pos (starEach es X.env)).any (·.1)=false:=by rfl)
  (f:X.prog=P:=by rfl) (i:X.w=w:=by rfl) (b:X.K=K:=by rfl) (j:X.mg=mg:=by rfl) (d:X.base=base:=by rfl) :
  VE X (.Call (.Name x p) (e::es) [] pos) (aS5 P w K mg base k te t):=by
 subst f i b j d;exact aZd g c h l a
def bL {K:bF4}(h:X.K=K:=by rfl):IxR X (bEj K):=by subst h;exact aP
def rK {K:bF4}{k:Nat}{u:TGs}{n:Nat}(b:X.calm=true)(h:VGs X es u)(c:(assignEach es X.env).length=n:=by rfl)(a:(assignEach es X.env).findIdx? (·.1)=none:=by rfl)(d:X.K=K:=by rfl):VG X (.Tuple es k pos) (aL4 K n u):=by subst d;exact uB b h c a
def aYm (d:Gl X "zip")(f:X.mg "zip"=none)(g:VA X [a,b] t)(e:cL a=true:=by rfl)(c:cL b=true:=by rfl) :
  VI X (.Tuple elts kt tp) (.Call (.Name "zip" p) [a,b] [] pos) (aV0 X.K t):=⟨aY8 d f g.1 (aM e) (aM c)⟩
def jG (f:VE X e te)(a:VG X tg g)(c:swapsWithSole [tg] e pos.line X.env=pure false:=by rfl)(d:swappedStores [tg] e X.env=pure none:=by rfl)
  (b:(assignEach [tg] X.env).map (·.2)=[assign tg X.env]:=by rfl):VS X (.Assign [tg] e pos) (aB2 te g):=⟨bBp f.1 a.1 c d b⟩
end
section
variable {X:Cx}
def bEz:V->Option Int->Option Int->Hp->VK->Prop:=λx lo hi H Q=>∃z,x=.str z/\z.length<=sizeLine/\Q (.str (Txt.slice z lo hi)) H
theorem aGz:SlR X bEz:=by
 intro d s σ H x v J K E B g Q I r y p m h;obtain⟨z,rfl,D,q⟩:=h;obtain⟨t,rfl⟩:=r;have a:∀l u:Option (Int × Tok),l.map (·.1)=E->u.map (·.1)=B->s.heap.IsSlice g l u none->wpAny (model X.prog X.w) X.A (getItem (.str z t) (.ref g)) (EP X d σ Q) X.xe s:=λl u C n f=>by subst C n;refine wpAny_getItem_str_slice f rfl ?_;unfold sliceMade;have e:=Txt.slice_le z (l.map (·.1)) (u.map (·.1));exact post_val_or_str ⟨bAE e D,λG k=>⟨.str (Txt.slice z (l.map (·.1)) (u.map (·.1))),H,I.tok _,⟨_,rfl⟩,q⟩⟩
 refine⟨"str",_,F.slot_str_getitem.lookup,typeIs_str _ _ _,?_⟩;obtain⟨o,b,c,hd⟩:=y;cases p with
 |none=>
  cases m with
  |none=>exact a none none rfl rfl ⟨o,b,c,hd⟩
  |int j u=>exact a none (some (j,u)) rfl rfl ⟨o,b,c,hd⟩
 |int i t=>
  cases m with
  |none=>exact a (some (i,t)) none rfl rfl ⟨o,b,c,hd⟩
  |int j u=>exact a (some (i,t)) (some (j,u)) rfl rfl ⟨o,b,c,hd⟩
end
def aUb {x:Str}{j:Nat}(h:j<=x.length):(Txt.slice x none (some (j:Int))).cps.toList=x.cps.toList.take j:=by have e:=StrLaws.sliceText_to (x:=x) (j:=(j:Int)) ⟨by lia,by rw[v4];exact Int.ofNat_le.mpr h⟩;show (StrLaws.sliceText x none (some (j:Int))).cps.toList=_;rw[e];simp
def aM4 {x:Str}{j:Nat}(h:j<=x.length):(Txt.slice x (some (j:Int)) none).cps.toList=x.cps.toList.drop j:=by have e:=StrLaws.sliceText_from (x:=x) (i:=(j:Int)) ⟨by lia,by rw[v4];exact Int.ofNat_le.mpr h⟩;show (StrLaws.sliceText x (some (j:Int)) none).cps.toList=_;rw[e];simp only[bAQ];refine bAW ?_;rw[bBT];lia
def put (x:Str)(a:Nat)(c:Nat):Str:=Txt.slice x none (some (a:Int))++⟨#[c]⟩++Txt.slice x (some (a:Int)) none
def aHi (h:a<=x.length):(put x a c).cps.toList=x.cps.toList.take a++c::x.cps.toList.drop a:=by show ((Txt.slice x none (some (a:Int))).cps++#[c]++(Txt.slice x (some (a:Int)) none).cps).toList=_;rw[bDA,bDA,aUb h,aM4 h];simp
def aYs (h:a<=x.length)(e:put x a c=put x a d):c=d:=by have b:=congrArg (λy:Str=>y.cps.toList) e;simp only[aHi h] at b;have f:=List.append_cancel_left b;exact (List.cons.inj f).1
def aW0 {x:Str}{a c:Nat}(h:a<=x.length):(put x a c).length=x.length+1:=by
 have e:=congrArg List.length (aHi (c:=c) h);have l:x.length=x.cps.toList.length:=by rw[v4];rfl
 rw[v4,w6,m8,bAI,bBT] at e;show (put x a c).cps.size=_;lia
def aW2 (h:a<=x.length)(m:d∈(put x a c).cps):d=c\/d∈x.cps:=by
 have b:=Array.mem_toList_iff.mpr m;rw[aHi h] at b;rcases List.mem_append.mp b with z|z
 ·exact .inr (Array.mem_toList_iff.mp (bDV z))
 ·rcases List.mem_cons.mp z with z|z
  ·exact .inl z
  ·exact .inr (Array.mem_toList_iff.mp (List.mem_of_mem_drop z))
section
variable {X:Cx}{scope:Scope}{N:List Str}{wi:TI}{te:TE}{σ:St}{H:Hp}{Q:VK}
end
section
variable {X:Cx}{e:Expr}{es:List Expr}{t:TA}{pos:Pos}
def bDv (t:TA):TE:=fun σ H Q=>t σ H λxs H1=>xs.length<=sizeLine/\∀p H',H1 p=none->Same H1 H'->H' p=some (.tup xs)->Q (.ref p) H'
def bD0 (t:TA):TE:=fun σ H Q=>t σ H λxs H1=>xs.length<=sizeLine/\∀p H',H1 p=none->Same H1 H'->H' p=some (.lst xs)->Q (.ref p) H'
def bBj:TE:=λ_ H Q=>∀p H',H p=none->Same H H'->H' p=some (.dK [])->Q (.ref p) H'
def cN {x1}(h:VA X es t):VE X (.Tuple es x1 pos) (bDv t):=⟨by intro c s σ H Q I g;refine wpAny_Tuple_spliced (thn (h.1 pos c s σ H _ I g) λi a ⟨j,k,d,r,z,q⟩=>⟨by rw[<-r.length];exact z,?_⟩);have f:=d.hok.fresh (d8 _);refine⟨.ref a.heap.objs.size,upd k a.heap.objs.size (.tup j),d.laid (t':=a.toks) (λb u e=>c7 _ e) (d8 _) ?_,rfl,q _ _ f (aW f _) aF⟩;exact⟨z,i,r,.of (j8 _ rfl) rfl ⟨_,j8 _ rfl,rfl,_,rfl⟩⟩⟩
def cX (h:VA X es t):VE X (.List es pos) (bD0 t):=⟨by intro c s σ H Q I g;refine wpAny_List_spliced (thn (h.1 pos c s σ H _ I g) λi a ⟨j,k,d,r,z,q⟩=>⟨by rw[<-r.length];exact z,?_⟩);have f:=d.hok.fresh (d8 _);refine⟨.ref a.heap.objs.size,upd k a.heap.objs.size (.lst j),d.laid (t':=a.toks) (λb u e=>c7 _ e) (d8 _) ?_,rfl,q _ _ f (aW f _) aF⟩;exact⟨z,i,0,r,j8 _ rfl⟩⟩
def aUj:VE X (.Dict [] [] pos) bBj:=VE.imp aVs fun σ H Q h p a=>h p _ a (aW a _) aF
def OpR.imp (h:OpR X f r)(k:∀x y H Q,r' x y H Q->r x y H Q):OpR X f r':=λa s σ H x y v u Q I b c q=>h a s σ H x y v u Q I b c (k _ _ _ _ q)
def cH.imp (h:cH X f r)(k:∀xs H Q,r' xs H Q->r xs H Q):cH X f r':=λa s σ H xs b Q I c q=>h a s σ H xs b Q I c (k _ _ _ q)
def bEf (K:bF4):R2:=λx y H Q=>∃a b xs ys,x=.ref a/\y=.ref b/\SqT K H a xs/\SqT K H b ys/\xs.length+ys.length<=sizeLine/\∀r H',Same H H'->SqT K H' r (xs++ys)->Q (.ref r) H'
def wR:OpR X (binaryOp .Add) (bEf X.K):=OpR.imp (aWl.or aZc) λx y H Q ⟨a,b,g,e,i,f,c,d,k,q⟩=>by
 by_cases h:g=[]
 ·subst h;exact .inr ⟨a,b,e,i,f,c,d,q b H (Same.refl H) d⟩
 ·refine .inl ⟨a,b,g,e,i,f,c,d,h,k,λz=>?_,λ_ p j=>q p _ (aW j _) (SqT.of aF)⟩;subst z;exact q a H (Same.refl H) (by rw[bBB];exact c)
def bFd (K:bF4):V->Option Int->Option Int->Hp->VK->Prop:=λx lo hi H Q=>∃a xs,x=.ref a/\SqT K H a xs /\
 ¬ (HT.sIx xs.length 0 lo=0/\HT.sIx xs.length xs.length hi=xs.length)/\∀p H',Same H H'->H' p=some (.tup (mY xs lo hi))->Q (.ref p) H'
def aAy:SlR X (bFd X.K):=λb s σ H x v j i o g d Q I l r k m ⟨a,n,e,c,h,q⟩=>
 bB6 b s σ H x v j i o g d Q I l r k m ⟨a,n,e,c,h,λp f=>q p _ (aW f _) aF⟩
def bCw:R2:=λx y H Q=>∃l b xs zs,x=.ref l/\y=.ref b/\H l=some (.lst xs)/\H b=some (.lst zs)/\xs.length+zs.length<=sizeLine/\∀p H',H p=none->Same H H'->H' p=some (.lst (xs++zs))->Q (.ref p) H'
def pQ:OpR X (binaryOp .Add) bCw:=OpR.imp aZ7 λx y H Q ⟨l,b,g,c,h,d,i,e,f,q⟩=>⟨l,b,g,c,h,d,i,e,f,λp a=>q p _ a (aW a _) aF⟩
def aTk (K:bF4):List V->Hp->VK->Prop:=λxs H Q=>∃p ys,xs=[.ref p]/\(SqL K H p ys\/SqT K H p ys)/\∀l H',H l=none->Same H H'->H' l=some (.lst ys)->Q (.ref l) H'
def oV:cH X (.type "list") (aTk X.K):=cH.imp aHc λc H Q ⟨p,b,e,h,q⟩=>⟨p,b,e,h,λl a=>q l _ a (aW a _) aF⟩
def aW5 (K:bF4):List V->Hp->VK->Prop:=λxs H Q=>∃p ys,xs=[.ref p]/\SqL K H p ys/\∀l H',H l=none->Same H H'->H' l=some (.tup ys)->Q (.ref l) H'
def lJ:cH X (.type "tuple") (aW5 X.K):=cH.imp aD5 λc H Q ⟨p,b,e,h,q⟩=>⟨p,b,e,.inl ⟨h,λl a=>q l _ a (aW a _) aF⟩⟩
def nU:MtR X "list.append" aPt:=aE6
def gH (f:H D=none)(s:Same H H'):Same H (upd H' D o):=λb u e=>by rw[aK (aQ e f)];exact s _ _ e
end
end L2
namespace PySem
section
variable {prog:Program}{w:World}{A:Around}{E:bF5}{s:Shared}{T:String}{r d:Addr}{n:Nat}{P:Nat->Value->Prop}{OK:Heap->Prop}
end
end PySem
namespace L2
open PySem PySem.Spec PyProof.Rows
section
variable {X:Cx}
end
section
variable {X:Cx}{bF8:bF6}{σ:St}{H:Hp}{s:Shared}
end
def Ite (K:bF4)(l:Addr)(xs:List V):It:=
 ⟨λi H=>SqL K H l xs/\i<xs.length,λi H v H'=>∃T a,H T=none/\v=.ref T/\H'=upd H T (.tup [.int (i:Nat),a])/\xs[i]?=some a,λi H=>SqL K H l xs/\xs.length<=i⟩
def etn (e it l:Addr)(i:Nat)(h:Heap):Prop:=(∃old,IsEnum h e it (i:Int) old)/\h.IsListIter it l i
def aRc {P:Program}{w:World}{K:bF4}{elts:List Expr}{kt:Nat}{pos:Pos}{e it l:Addr}{xs:List V}(y:e≠it) :
  Turn P w K (.Tuple elts kt pos) (Ite K l xs) [e,it] e (etn e it l) where
 mem:=by simp
 obj:=λi h g b a=>by
  obtain⟨⟨c,d⟩,o,j,c2,U⟩:=g;simp only[bAN,bAB,or_false] at a;rcases a with rfl|rfl
  ·exact⟨_,d,λv z=>by cases (show Data.fields _=Data.cell v from z)⟩
  ·exact⟨_,j,λv z=>by rw[U] at z;cases z⟩
 keep:=λi h m g k=>by obtain⟨⟨c,d⟩,o,j,r⟩:=g;exact⟨⟨c,k e (by simp) _ d⟩,o,k it (by simp) _ j,r⟩
 item:=by
  intro X A F C T i f s σ H E I n g t;subst A F C;obtain⟨⟨c,d⟩,j⟩:=g;obtain⟨G,Q⟩:=t;obtain⟨its,J,D,hz⟩:=I.list G;obtain⟨x,hx,rx⟩:=J.get (b8 Q);have Y:=n e (by simp);have fi:=n it (by simp);refine wpAny_pyNext_enum_item d j D.isList (by simpa using hx) y λm R M L a4 B=>?_;refine⟨_,rfl,?_⟩;have fT:H s.heap.objs.size=none:=I.hok.fresh (d8 _);obtain⟨oi,p,_⟩:=id j;obtain⟨a0,q,_⟩:=id M;have Z:Inv X f σ (upd H s.heap.objs.size (.tup [.int (i:Nat),xs[i]])) { s with heap:=m }:=by
   refine I.drawn (ch:=[e,it]) (its:=[.int i s.toks,x]) (λb a=>n b a) (λb o a z=>?_) (d8 _) (.cons ⟨_,rfl⟩ (.cons rx .nil)) (small (by simp)) (.of L rfl ⟨_,L,rfl,_,rfl⟩) (λb a=>?_)
   ·simp only[bAN,bAB,or_false,not_or] at a;exact B b o a.1 a.2 z
   ·simp only[bAN,bAB,or_false] at a;rcases a with rfl|rfl
    ·exact⟨_,R⟩
    ·exact⟨_,q⟩
  have u:Inv X f σ (upd H s.heap.objs.size (.tup [.int (i:Nat),xs[i]])) { s with heap:=m,toks:=s.toks+1 }:=Z.tok _;have S:∀b∈[e,it],b≠s.heap.objs.size:=λb a=>by
   simp only[bAN,bAB,or_false] at a;rcases a with rfl|rfl
   ·exact v8 (j9 d)
   ·exact v8 (j9 p)
  refine wpAny_letOwnedTupleGo_enum (s:={ s with heap:=m,toks:=s.toks+1 }) R λh2 z2 N=>?_;obtain⟨g0,g1,g2,g3,W,g5⟩:=Y;have I2:Inv X f σ (upd H s.heap.objs.size (.tup [.int (i:Nat),xs[i]])) { s with heap:=h2,toks:=s.toks+1 }:=Inv.turned (s:={ s with heap:=m,toks:=s.toks+1 }) u (t':=s.toks+1) (it:=e) (λb o a z=>(N.2 b a).trans z) (by rw[aK (S e (by simp))];exact g0) g1 g3 W g5;refine⟨.ref s.heap.objs.size,_,I2,rfl,⟨_,_,fT,rfl,rfl,b8 Q⟩,⟨⟨x,?_⟩,?_⟩,λb a=>by rw[aK (S b a)];exact (n b a).1⟩
  ·rw[show ((i+1:Nat):Int)=(i:Int)+1 from by lia];exact z2
  ·obtain⟨o,ho,r⟩:=M;exact⟨o,(N.2 it (Ne.symm y)).trans ho,r⟩
 done:=by intro X A F C T i f s σ H E I n g t;subst A F C;obtain⟨⟨c,d⟩,j⟩:=g;obtain⟨G,hi⟩:=t;obtain⟨its,J,D,hz⟩:=I.list G;have O:=J.length;refine wpAny_pyNext_enum_end (I.ok.hd T) d j D.isList (by simp;lia) λm B=>⟨rfl,?_⟩;refine Inv.aOz (ch:=[it]) I (λb a=>n b (j5 _ a)) λb o a z=>B b o (by simpa using a) z
 self:=λ_ _ _ _ _ g h=>by obtain⟨⟨c,d⟩,_⟩:=g;exact wpAny_pyIter_enum d h
section
variable {X:Cx}
def aZg (K:bF4)(ta:TA):TI:=fun σ H R=>ta σ H λvs H1=>∃l xs,vs=[.ref l]/\SqL K H1 l xs/\R (Ite K l xs) H1
def aX9 (D:Gl X "enumerate")(E:X.mg "enumerate"=none)(B:PA X [a] ta)(F:starEach [a] X.env=[(false,eval a X.env)]:=by rfl) :
  PI X (.Tuple elts kt tp) (.Call (.Name "enumerate" p) [a] [] pos) (aZg X.K ta):=by
 intro f s σ H R I h;refine Call_ (qZ I D E aH3 (bCB (thn (B pos f s σ H _ I h) λz g ⟨G,x,d,w,m⟩=>?_) F (by rfl)));obtain⟨l,L,e,t,q⟩:=m;subst e;obtain⟨k,M,n,J⟩:=d.list t;obtain⟨u,rfl,r⟩:=vals1 w;cases r;refine call_enumerate_list n.isList λC j o A y=>?_;have v:=d.kept (t':=g.toks) y;refine wpAny_pyIter_enum j ⟨_,_,_,_,x,rfl,v,aRc (bCM (bCU _)),⟨⟨_,j⟩,o⟩,λb i=>?_,q⟩;have c:g.heap.objs.size<=b:=by
  simp only[bAN,bAB,or_false] at i;rcases i with rfl|rfl
  ·exact bCR _
  ·exact d8 _
 exact d.aLi c (d.hok.fresh c)
def aSm {K:bF4}{l:Addr}{xs:List V}{g:TG}{tb:TS}{D:Ends}{σ:St}{H:Hp}(h:Nat->St->Hp->Prop)(k:h 0 σ H)(j:∀i σ H,i<=xs.length->h i σ H->SqL K H l xs)
  (n:∀i σ H a T H',xs[i]?=some a->h i σ H->H T=none->H'=upd H T (.tup [.int (i:Nat),a])->g (.ref T) σ H' fun σ2 H2=>tb { D with nx:=h (i+1),ct:=h (i+1),bk:=D.nx } σ2 H2) (hd:∀σ H,h xs.length σ H->D.nx σ H) :
  ∃W:Nat->Nat->St->Hp->Prop,(∃m,W 0 m σ H)/\∀i m σ H,W i m σ H ->
   ((Ite K l xs).stop i H/\D.nx σ H)\/((Ite K l xs).go i H/\∃N:St->Hp->Prop,(∀σ' H',N σ' H'->∃m',m'<m/\W (i+1) m' σ' H')/\∀x H',(Ite K l xs).yld i H x H'->g x σ H' fun σ2 H2=>tb { D with nx:=N,ct:=N,bk:=D.nx } σ2 H2):=by
 refine⟨λi m σ H=>m=xs.length - i/\i<=xs.length/\h i σ H,⟨xs.length,by simp,bAC _,k⟩,?_⟩;rintro i m σ H ⟨rfl,hi,p⟩;by_cases b:i<xs.length
 ·refine .inr ⟨⟨j i σ H hi p,b⟩,h (i+1),fun σ' H' f=>⟨xs.length - (i+1),by lia,rfl,b,f⟩,λx H' y=>?_⟩;obtain⟨T,a,d,rfl,e,c⟩:=y;exact n i σ H a T H' c p d e
 ·have e:i=xs.length:=by lia
  subst e;exact .inl ⟨⟨j _ σ H hi p,d8 _⟩,hd σ H p⟩
end
section
variable {X:Cx}{a c e:Expr}{st:Stmt}{body:List Stmt}{tc:TT}{tb:TS}{t:TA}{te:TE}{pos p:Pos}
def dX:VS X st aVp:=⟨aU0⟩
def aWx (b:Gl X "enumerate")(d:X.mg "enumerate"=none)(c:VA X [a] t)(e:cL a=true:=by rfl) :
  VI X (.Tuple elts kt tp) (.Call (.Name "enumerate" p) [a] [] pos) (aZg X.K t):=⟨aX9 b d c.1 (aM e)⟩
def bCl {o:Expr}{to:TE}{name:Str}{apos cpos:Pos}{T id:String}{r:V->List V->Hp->VK->Prop}(d:PlainAttrs T)(slot:Slot T name id)(c:typeOf (.builtin id)=pure (.type "method_descriptor"))(e:MtR X id r)(ho:VE X o to)
  (a:attributeBase o name X.env (eval o X.env)=eval o X.env:=by rfl) (b:(apos.endLine == cpos.line)=true:=by rfl):VE X (.Call (.Attribute o name apos) [] [] cpos) (bEu X.K T r to):=⟨bA0 d slot c e ho.1 a b⟩
end
section
variable {P:Program}{w:World}{K:bF4}{mg:bF7}{base:Heap}
end
section
variable {X:Cx}{scope:Scope}{N:List Str}{wi:TI}{te:TE}{σ:St}{H:Hp}{Q:VK}
def aRp (xs:List V)(Rel:Nat->Hp->V->Prop)(C:∀{i H1 H2 y},Same H1 H2->Rel i H1 y->Rel i H2 y)(A:∀{i H1 D ys zs y},H1 D=some (.lst ys)->Rel i H1 y->Rel i (upd H1 D (.lst zs)) y)
  (t:St) (v:Cap X scope N σ t) (hsz:xs.length<=sizeLine)
  (E:∀R:It->Hp->Prop,(∀J:It,(∀H' i x,Same H H'->xs[i]?=some x->J.go i H'/\∀y H2,J.yld i H' y H2->H2=H'/\y=x)->(∀H',Same H H'->J.stop xs.length H')->R J H)->wi σ H R)
  (F:∀(i:Nat) (x:V),xs[i]?=some x->∀H' R l,Same H H'->(∀y H2,Same H' H2->Rel i H2 y->R y H2)->te ((t.set 0 l).set 0 (some x)) H' R) (G:t[0]?=some none)
  (q:∀D H' ys,Same H H'->H' D=some (.lst ys)->ys.length=xs.length->(∀(i:Nat) (y:V),ys[i]?=some y->Rel i H' y)->Q (.ref D) H') :
  jA X scope N wi (bO 0) mW te σ H Q:=by
 refine⟨t,v,E _ λJ go stop D k=>?_⟩;refine⟨λi m h H' ys=>i<=xs.length/\m=xs.length - i/\(∃l,h=t.set 0 l)/\Same H H'/\H' D=some (.lst ys)/\ys.length=i/\∀j y,ys[j]?=some y->Rel j H' y,⟨xs.length,bAC _,rfl,⟨none,jQ G⟩,aW k _,aF,rfl,λj y e=>by simp at e⟩,?_⟩;rintro i m h H' ys ⟨hi,rfl,⟨l,rfl⟩,sm,hL,hl,hR⟩;refine⟨hL,?_⟩;by_cases a:i<xs.length
 ·right;obtain⟨p,s⟩:=go H' i xs[i] sm (b8 a);refine⟨p,λx H2 w=>?_⟩;obtain⟨rfl,rfl⟩:=s x H2 w;unfold bO mW;dsimp only;rw[if_pos rfl];refine F i xs[i] (b8 a) _ _ l sm λy B d r=>⟨d _ _ hL,by lia,xs.length - (i+1),by lia,a,rfl,⟨some xs[i],?_⟩,?_,aF,?_,?_⟩
  ·rw[bCD]
  ·intro b o e;rw[aK (aQ e k)];exact d _ _ (sm _ _ e)
  ·rw[w6,bFE,hl]
  ·intro j z c;refine A (d _ _ hL) ?_;by_cases u:j<ys.length
   ·rw[bBJ u] at c;exact C d (hR j z c)
   ·rw[bBG (by lia)] at c;have f:j - ys.length=0:=by
     by_cases n:j - ys.length=0
     ·exact n
     ·rw[bAA (by simp;lia)] at c;cases c
    have g:j=i:=by lia
    subst g;rw[f] at c;cases c;exact r
 ·left;have e:i=xs.length:=by lia
  subst e;exact⟨stop _ sm,q D _ ys sm hL hl hR⟩
def aW6 (xs ys:List V)(g:ys.length=xs.length)(p:St)(j:Cap X scope N σ p)(m:xs.length<=sizeLine)
  (s:∀R:It->Hp->Prop,(∀J:It,(∀H' i x,Same H H'->xs[i]?=some x->J.go i H'/\∀y H2,J.yld i H' y H2->H2=H'/\y=x)->(∀H',Same H H'->J.stop xs.length H')->R J H)->wi σ H R)
  (t:∀(i:Nat) (x y:V),xs[i]?=some x->ys[i]?=some y->∀H' R l,Same H H'->(∀H2,Same H' H2->R y H2)->te ((p.set 0 l).set 0 (some x)) H' R) (o:p[0]?=some none)
  (q:∀D H',Same H H'->H' D=some (.lst ys)->Q (.ref D) H') :
  jA X scope N wi (bO 0) mW te σ H Q:=by
 refine aRp xs (λi _ y=>ys[i]?=some y) (λ_ h=>h) (λ_ h=>h) p j m s (λi x d H' R l c r=>?_) o λD H' b c n u f=>?_
 ·have a:i<ys.length:=by rw[g];exact (List.getElem?_eq_some_iff.mp d).1
  exact t i x ys[i] d (b8 a) H' R l c λH2 k=>r _ H2 k (b8 a)
 ·have e:b=ys:=by
   refine bCC λi=>?_;by_cases a:i<b.length
   ·rw[f i b[i] (b8 a),b8 a]
   ·rw[bAA (by lia),bAA (by lia)]
  subst e;exact q D H' c n
end
section
variable {X:Cx}{tg e o i:Expr}{te td ty:TE}{pos:Pos}
def aAv (b:X.A.units+1<cLine)(ho:VE X o td)(hi:VE X i ty)(a:bBg i):VE X (.Subscript o i pos) (aZp td ty):=⟨aWm b ho.1 hi.1 a⟩
end
def aE8 (a:X.A.units+1<cLine)(hi:VE X i ty)(ho:VE X o td)(b:behindInMarks .NotIn o=false:=by first|exact nobehind _ (by decide) (by decide)|rfl):VT X (.Compare i [.NotIn] [o] pos) (tB (aOi ty td)):=⟨aSw (aQw a hi.1 ho.1) b⟩
end L2
namespace L2
open PySem PySem.Spec PyProof.Rows
def sel {α:Type}(p:Nat->Bool):Nat->List α->List α
 |_,[]=>[]
 |i,x::r=>if p i then x::sel p (i+1) r else sel p (i+1) r
theorem aCy {α:Type}(p:Nat->Bool)(x:α):∀k xs,sel p k (xs++[x])=sel p k xs++(if p (k+xs.length) then [x] else [])
 |k,[]=>by show (if p k then x::sel p (k+1) [] else sel p (k+1) [])=[]++(if p (k+0) then [x] else []);rw[Nat.add_zero,bEJ];rfl
 |k,y::r=>by
  show (if p k then y::sel p (k+1) (r++[x]) else sel p (k+1) (r++[x]))=(if p k then y::sel p (k+1) r else sel p (k+1) r)++_;rw[aCy p x (k+1) r,m8,show k+1+r.length=k+(r.length+1) by lia]
  split <;> rfl
theorem aGu {α:Type}(p:Nat->Bool):∀(k:Nat) (xs:List α),(sel p k xs).length<=xs.length
 |_,[]=>d8 _
 |k,y::r=>by
  have:=aGu p (k+1) r;show (if p k then y::sel p (k+1) r else sel p (k+1) r).length<=r.length+1
  split
  ·rw[m8];lia
  ·lia
section
variable {X:Cx}{scope:Scope}{N:List Str}{wi:TI}{te:TE}{σ:L2.St}{H:Hp}{Q:VK}
end
def aWr {X:Cx}{i0:Nat}{x0:Str}{c spos:Pos}{V h f:Expr}{R:List Expr}{scope:Scope}{pos:Pos}{N:List Str}{wi:TI}{g:TG}{tt:TT}{te:TE}
  (Z:X.N.Nodup) (J:X.N[i0]?=some x0) (Q:Loc X.env.scope x0) (C:xY scope N) (P:∀y,(y,NameKind.free)∈scope.names->X.env.kindOf y=some .cell\/X.env.kindOf y=some .free) (hc:X.calm=true)
  (hi:PI X h f wi)
  (u:∀cl s H fp,PG (cxC X N scope cl s H fp) h g/\aSc (cxC X N scope cl s H fp) R tt/\PE (cxC X N scope cl s H fp) V te)
  (hs:∀x,foldedSetIterable f X.env x=pure x:=by intro _;rfl) (W:swapsWith (.ListComp V [⟨h,f,R,0⟩] scope pos) (some (.Name x0 c)) spos.line X.env=pure true:=by rfl)
  (hf:X.fn x0=true\/X.env.scope.names.lookup x0=some .local:=by first|exact .inl rfl|exact .inr rfl|assumption) :
  PS X (.Assign [.Name x0 c] (.ListComp V [⟨h,f,R,0⟩] scope pos) spos) (aB2 (jA X scope N wi g tt te) (bO i0)):=by
 intro d s σ H Dn I i;rw[exec_Assign_Name_used _ _ _ _ W];refine b7 (bEC (b7 ?_));show wpAny _ X.A (do let _ <-comprehension (.ListComp V [⟨h,f,R,0⟩] scope pos) scope X.env _ (newList []) false (eval f X.env) (some (assign (.Name x0 c) X.env))) _ _ s;refine b7 (bAX (aE5 (use:=some (assign (.Name x0 c) X.env)) (QQ:=λ_ B=>SP X d Dn .next B) C P hc hi u hs I i λD q t n ⟨G,j⟩ m fp T=>?_)
  (λ_ B i=>d7 (d7 i)) λ_ _ e=>e)
 have E:Inv X d σ t n:=m n.heap λ_ _ _ e=>e;obtain⟨M,r,g2,O,p,L⟩:=fp;show wpAny (model X.prog X.w) X.A (assign (.Name x0 c) X.env (.ref D)) _ _ n;refine wpAny_assign_Name (aEw E Z J Q (v:=.ref D) rfl (λU S ⟨a,K,F⟩=>?_) hf);have l:q≠a:=by
  rcases F with z|z
  ·rw[z];exact r
  ·exact λe=>p x0 a z e.symm
 refine⟨G,j.sameBut K l,λY k=>?_⟩;exact⟨_,t,Inv.turned S (t':=U.toks) (it:=q) (λb o u e=>k.extBut b o u e) M r O p L,T⟩
def aOm
  (f:X.N.Nodup) (c:X.N[i0]?=some x0) (e:Loc X.env.scope x0) (C:xY scope N) (b:∀y,(y,NameKind.free)∈scope.names->X.env.kindOf y=some .cell\/X.env.kindOf y=some .free) (i:X.calm=true)
  (hi:VI X target iter wi)
  (a:∀cl s H fp,VG (cxC X N scope cl s H fp) target g/\VF (cxC X N scope cl s H fp) ifs tt/\VE (cxC X N scope cl s H fp) elt te)
  (j:∀x,foldedSetIterable iter X.env x=pure x:=by intro _;rfl) (d:swapsWith (.ListComp elt [⟨target,iter,ifs,0⟩] scope pos) (some (.Name x0 pos')) spos.line X.env=pure true:=by rfl)
  (h:X.fn x0=true\/X.env.scope.names.lookup x0=some .local:=by first|exact .inl rfl|exact .inr rfl|assumption) :
  VS X (.Assign [.Name x0 pos'] (.ListComp elt [⟨target,iter,ifs,0⟩] scope pos) spos) (aB2 (jA X scope N wi g tt te) (bO i0)):=
 ⟨aWr f c e C b i hi.1 (λcl s H fp=>⟨(a cl s H fp).1.1,(a cl s H fp).2.1.1,(a cl s H fp).2.2.1⟩) j d h⟩
section
variable {te:TE}{H:Hp}{Q:VK}
def aMb (xs:List V)(Rel:Nat->Hp->V->Prop)(w:∀{i H1 H2 y},Same H1 H2->Rel i H1 y->Rel i H2 y)(v:∀{i H1 D ys zs y},H1 D=some (.lst ys)->Rel i H1 y->Rel i (upd H1 D (.lst zs)) y)
  (C:St) (hsz:xs.length<=sizeLine)
  (J:It) (E:∀H' i x,Same H H'->xs[i]?=some x->J.go i H'/\∀y H2,J.yld i H' y H2->H2=H'/\y=x) (h:∀H',Same H H'->J.stop xs.length H')
  (A:∀(i:Nat) (x:V),xs[i]?=some x->∀H' R l,Same H H'->(∀y H2,Same H' H2->Rel i H2 y->R y H2)->te ((C.set 0 l).set 0 (some x)) H' R) (B:C[0]?=some none)
  (q:∀D H' ys,Same H H'->H' D=some (.lst ys)->ys.length=xs.length->(∀(i:Nat) (y:V),ys[i]?=some y->Rel i H' y)->Q (.ref D) H') :
  ∀D,H D=none->∃W:Nat->Nat->St->Hp->List V->Prop,(∃m,W 0 m C (upd H D (.lst [])) []) /\
   ∀i m σ' H' ys,W i m σ' H' ys->H' D=some (.lst ys)/\((J.stop i H'/\Q (.ref D) H')\/(J.go i H'/\∀x H2,J.yld i H' x H2->bO 0 x σ' H2 fun σ3 H3=>mW σ3 H3 λb H4=>
    if b=true then te σ3 H4 λy H5=>H5 D=some (.lst ys)/\ys.length<sizeLine/\∃m',m'<m/\W (i+1) m' σ3 (upd H5 D (.lst (ys++[y]))) (ys++[y]) else H4 D=some (.lst ys)/\∃m',m'<m/\W (i+1) m' σ3 H4 ys)):=by
 intro D k;refine⟨λi m σ' H' ys=>i<=xs.length/\m=xs.length - i/\(∃l,σ'=C.set 0 l)/\Same H H'/\H' D=some (.lst ys)/\ys.length=i/\∀j y,ys[j]?=some y->Rel j H' y,⟨xs.length,bAC _,rfl,⟨none,jQ B⟩,aW k _,aF,rfl,λj y e=>by simp at e⟩,?_⟩;rintro i m σ' H' ys ⟨hi,rfl,⟨l,rfl⟩,sm,hL,hl,hR⟩;refine⟨hL,?_⟩;by_cases a:i<xs.length
 ·right;obtain⟨p,s⟩:=E H' i xs[i] sm (b8 a);refine⟨p,λx H2 u=>?_⟩;obtain⟨rfl,rfl⟩:=s x H2 u;unfold bO mW;dsimp only;rw[if_pos rfl];refine A i xs[i] (b8 a) _ _ l sm λy H3 d r=>⟨d _ _ hL,by lia,xs.length - (i+1),by lia,a,rfl,⟨some xs[i],?_⟩,?_,aF,?_,?_⟩
  ·rw[bCD]
  ·intro b o e;rw[aK (aQ e k)];exact d _ _ (sm _ _ e)
  ·rw[w6,bFE,hl]
  ·intro j z c;refine v (d _ _ hL) ?_;by_cases t:j<ys.length
   ·rw[bBJ t] at c;exact w d (hR j z c)
   ·rw[bBG (by lia)] at c;have f:j - ys.length=0:=by
     by_cases n:j - ys.length=0
     ·exact n
     ·rw[bAA (by simp;lia)] at c;cases c
    have g:j=i:=by lia
    subst g;rw[f] at c;cases c;exact r
 ·left;have e:i=xs.length:=by lia
  subst e;exact⟨h _ sm,q D _ ys sm hL hl hR⟩
end
section
variable {K:bF4}
def aNq (f:∀H',Same H H'->SqL K H' a xs):∀H' i x,Same H H'->xs[i]?=some x->(Itl K a).go i H'/\∀y H2,(Itl K a).yld i H' y H2->H2=H'/\y=x:=λH' i x s e=>
 ⟨⟨xs,x,f H' s,e⟩,λy H2 g=>by obtain⟨c,d⟩:=g;have b:=d xs (f H' s);rw[e] at b;cases b;exact⟨c,rfl⟩⟩
def aCd (b:∀H',Same H H'->SqL K H' a xs):∀H',Same H H'->(Itl K a).stop xs.length H':=λH' s=>⟨xs,b H' s,d8 _⟩
end
section
variable {X:Cx}{K:bF4}{scope:Scope}{N:List Str}{tl te:TE}{σ:L2.St}{H:Hp}{Q:VK}
def aR9 (Pr:List V->Prop)(Rel:Nat->Hp->V->Prop)(m:∀{i H1 H2 y},Same H1 H2->Rel i H1 y->Rel i H2 y)(j:∀{i H1 D ys zs y},H1 D=some (.lst ys)->Rel i H1 y->Rel i (upd H1 D (.lst zs)) y)
  (d:L2.St) (e:Cap X scope N σ d) (k:d[0]?=some none)
  (n:∀R:VK,(∀D H1 us,Same H H1->H1 D=some (.lst us)->Pr us->R (.ref D) H1)->tl σ H R)
  (g:∀us,Pr us->us.length<=sizeLine)
  (o:∀us,Pr us->∀(i:Nat) (x:V),us[i]?=some x->∀H' R l,Same H H'->(∀y H2,Same H' H2->Rel i H2 y->R y H2)->te ((d.set 0 l).set 0 (some x)) H' R)
  (q:∀us,Pr us->∀D H' ys,Same H H'->H' D=some (.lst ys)->ys.length=us.length->(∀(i:Nat) (y:V),ys[i]?=some y->Rel i H' y)->Q (.ref D) H') :
  jA X scope N (aFu K tl) (bO 0) mW te σ H Q:=
 ⟨d,e,n _ λD H1 us c b p=>⟨D,rfl,⟨us,SqL.of b⟩,aMb us Rel m j d (g us p) (Itl K D) (aNq λH' a=>SqL.of (a _ _ b)) (aCd λH' a=>SqL.of (a _ _ b))
  (λi x h H' R l a r=>o us p i x h H' R l (c.trans a) r) k λf H' ys a=>q us p f H' ys (c.trans a)⟩⟩
end
def SqT.iW {K:bF4}{H:Hp}{a D:Addr}{xs ys zs:List V}(b:H D=some (.lst ys))(h:SqT K H a xs):SqT K (upd H D (.lst zs)) a xs:=by
 rcases h with (h|⟨o,h⟩)|h
 ·exact .inl (.inl (by rw[aK (aKy h b (by intro z;cases z))];exact h))
 ·exact .inl (.inr ⟨o,by rw[aK (aKy h b (by intro z;cases z))];exact h⟩)
 ·exact .inr h
end L2
namespace PySem
end PySem
namespace L2
open PySem PySem.Spec PyProof.Rows
def classAt:Stmt->Nat->Stmt
 |.ClassDef _ _ _ body _ _ _ _ _ _ _,j=>body.getD j (.Pass ⟨0,0,0,0⟩)
 |st,_=>st
structure aTt (K:bF4)(mg:bF7)(x:Str)(C:Addr):Prop where
 at_:mg x=some (.ref C)
 cls:Cls K C
 mks:PySem.W.makesIn K C=true
 kp:PySem.W.keepIn K (.ref C)=true
def dZ (K:bF4)(C:Addr)(m qual:Str)(st:Stmt)(ps:List Str):Prop:=∃f fd,Meth K C m f/\Fun K m qual st f fd/\Binds K fd ps []
section
variable {P:Program}{w:World}{K:bF4}{mg:bF7}{base:Heap}
def OkM (P:Program)(w:World)(K:bF4)(mg:bF7)(base:Heap)(C:Addr)(k:Nat)(m:Str)(ps:List Str)(sp:Sp):Prop:=
 ∃f fd,Cls K C/\Meth K C m f/\Binds K fd ps []/\gK P w K mg base CX0 k f fd ps sp
theorem OkM.mono (h:OkM P w K mg base C j m ps sp)(g:j<=k):OkM P w K mg base C k m ps sp:=by obtain⟨f,e,c,a,b,d⟩:=h;exact⟨f,e,c,a,b,d.mono g⟩
def OkM.ofV {C:Addr}{m qual:Str}{st:Stmt}{N ps:List Str}{k:Nat}{sp:Sp}(c:Cls K C)(D:dZ K C m qual st ps)(S:aG N ps (aC st))(d:∀vs H Q E,sp vs H Q E->vs.length=ps.length)
  (a:∀(f:Addr) (cdv:Value) (A:Around) (outer:List Env) (s:Shared) (H:Hp) (vs:List V) (Q:VK) (E:XK),Room k (A.deeper (envOfC qual (aC st) s.heap.objs.size f cdv))->sp vs H Q E ->
   ∃t,VSs (wY CX0 P w K mg base N qual (aC st) f cdv A outer s H E).nox (cY st) t/\t { nx:=λ_ H'=>Q .non H',rt:=Q } (start N vs) H):OkM P w K mg base C (k+1) m ps sp:=by
 obtain⟨f,g,e,F,B⟩:=D;exact⟨f,g,c,e,B,Fun.okV F S d λcdv A outer s H vs Q E b h=>a f cdv A outer s H vs Q E b h⟩
def OkC (P:Program)(w:World)(K:bF4)(mg:bF7)(base:Heap)(C:Addr)(k:Nat)(x:Str)(ps:List Str)(sp:Sp):Prop:=
 ∃f fd,mg x=some (.ref C)/\Mk K C f/\Binds K fd ps []/\gK P w K mg base CX0 k f fd ps sp
theorem OkC.mono (h:OkC P w K mg base C j x ps sp)(g:j<=k):OkC P w K mg base C k x ps sp:=by obtain⟨f,e,c,a,b,d⟩:=h;exact⟨f,e,c,a,b,d.mono g⟩
def OkM.make (c:aTt K mg x C)(h:OkM P w K mg base C k "__init__" ps sp):OkC P w K mg base C k x ps sp:=by obtain⟨f,e,g,a,b,d⟩:=h;exact⟨f,e,c.at_,⟨c.mks,a.at_,a.fn,c.kp⟩,b,d⟩
end
section
variable {X:Cx}{e o value:Expr}{es:List Expr}{f m x:Str}{p pos pos' apos:Pos}{ta tv:TE}{t:TA}{C:Addr}{k:Nat}{ps:List Str}{sp:Sp}
def cT {K:bF4}(a:VE X e ta)(b:attributeBase e f X.env (eval e X.env)=eval e X.env:=by rfl)(h:X.K=K:=by rfl):VE X (.Attribute e f pos) (bEk K ta f):=by subst h;exact⟨bCh a.1 b⟩
def aBz {K:bF4}(a:VE X o ta)(c:VE X value tv)(b:swapsWith value (some (.Attribute o f pos')) pos.line X.env=pure false:=by rfl)(h:X.K=K:=by rfl):VS X (.Assign [.Attribute o f pos'] value pos) (bD2 K ta tv f):=by subst h;exact⟨bBo a.1 c.1 b⟩
def aXx (G:OkM X.prog X.w X.K X.mg X.base C k m ps sp)(i:Room k X.A)(n:VE X o ta)(j:VA X (e::es) t)
  (l:cL e=true:=by rfl) (b:(backTo pos (starEach es X.env)).any (·.1)=false:=by rfl)
  (h:eval (.Call (.Attribute o m apos) (e::es) [] pos) X.env=(do
   let ov <-eval o X.env
   standAt apos.atName
   let (f,first) <-holding [ov] (getMethod ov m pl)
   callWith pos f first (backTo pos (starEach (e::es) X.env)) (backToKw pos (keywordEach [] X.env))):=by rfl):VE X (.Call (.Attribute o m apos) (e::es) [] pos) (aI3 C m sp [] E0 ta t):=by
 obtain⟨f,p,c,d,a,g⟩:=G;exact⟨aXl n.1 c d g i a .nil aCb j.1 (aM l) b h⟩
def aWb (G:OkM X.prog X.w X.K X.mg X.base C k m ps sp)(g:Room k X.A)(h:VE X o ta)
  (e:eval (.Call (.Attribute o m apos) [] [] pos) X.env=(do
   let ov <-eval o X.env
   standAt apos.atName
   let (f,first) <-holding [ov] (getMethod ov m pl)
   callWith pos f first (backTo pos (starEach [] X.env)) (backToKw pos (keywordEach [] X.env))):=by rfl):VE X (.Call (.Attribute o m apos) [] [] pos) (aI3 C m sp [] E0 ta aAq):=by
 obtain⟨f,i,b,c,a,d⟩:=G;exact⟨aTr h.1 b c d g a .nil aCb e⟩
def aPd (G:OkC X.prog X.w X.K X.mg X.base C k x ps sp)(i:Room (k+1) X.A)(l:Gl X x)(j:VA X (e::es) t)(g:(x == ("__debug__":Str))=false:=by decide)(m:cL e=true:=by rfl)(b:(backTo pos (starEach es X.env)).any (·.1)=false:=by rfl) :
  VE X (.Call (.Name x p) (e::es) [] pos) (aZh C sp [] E0 t):=by
 obtain⟨f,n,c,d,a,h⟩:=G;exact⟨aY1 d h i l c a .nil aCb j.1 g (aM m) b⟩
end
end L2
namespace PySem
open Sem (wp)
section
variable {M:Model}{prog:Program}{w:World}{A:Around}{E:bF5}{R:Result->Shared->Prop}{h:Heap}{g:Array GenState}{d:Drawn}{t:Nat}{os:OsState}
variable {nm q:Str}{C N:Addr}{bs bm bmN:List Value}{hdct:Bool}{sn:List Str}{sub:List Value}{ab:Bool}{col:Option Bool}{dd:Option Addr}{k0 k1 k2 k3 k5:Option Value}{Bn newId inN:String}
def aJx (c:ExcBaseFacts Bn newId inN bmN)(f:bm.contains (.type Bn)=true){rest:List Value}{Q:Unit->Shared->Prop}(e:h.get? C=some (excClassObj nm q C N bs bm hdct sn sub ab col dd k0 k1 k2 k3 k5 newId))
  (i:Q () ⟨h,g,d,t,os⟩):wpAny M A (checkBuiltinCall newId ⟨.ref C::rest,[]⟩) Q E ⟨h,g,d,t,os⟩:=by
 have a:(Value.ref C::bm).contains (.type Bn)=true:=by rw[bCK,f,bFQ]
 have b:=c.noStar;simp only[checkBuiltinCall,c.newKind,c.newSplit,c.newRow]
 repeat (first|refine bBV e ?_|(refine bDB e ?_;rw[a])|refine wpAny_staticBase_exc e ?_|refine wpAny_madeBy_exc e ?_|simp only[bne_self_eq_false,bAU,if_false]|wp_step)
 exact i
def bC8 (f:ExcBaseFacts Bn newId inN bmN)(k:bm.contains (.type Bn)=true)(m:bm.contains (.type "AttributeError")=false)(n:bm.contains (.type "NameError")=false){rest:List Value}(j:h.get? C=some (excClassObj nm q C N bs bm hdct sn sub ab col dd k0 k1 k2 k3 k5 newId))
  (l:R (.ok (.ret (.ref (h.objs.size+1)))) ⟨(h.push { cls:=.type "tuple",data:=.seq rest.toArray }).push
   { cls:=.ref C,data:=.fields #[.ref h.objs.size,.none,.none,.none,.bool false,.none] },g,d,t,os⟩) (hrest:rest.length<=sizeLine:=by size_fits) :
  codeAny (model prog w) A (.builtin newId ⟨.ref C::rest,[]⟩) R ⟨h,g,d,t,os⟩:=by
 have b:=f.ends;have a:(Value.ref C::bm).contains (.type Bn)=true:=by rw[bCK,k,bFQ]
 have c:(Value.ref C::bm).contains (.type "AttributeError")=false:=by rw[bCK,m];rfl
 have e:(Value.ref C::bm).contains (.type "NameError")=false:=by rw[bCK,n];rfl
 refine codeAny_builtinAt f.entry ?_;unfold Builtin.«BaseException.__new__»;refine wpAt_bind ?_;refine wpAt_bind (wpAt_stack λp i=>wpAt_of_wpAny ?_);wp_walk;refine wpAt_of_wpAny ?_;rw[f.owner]
 repeat (first|with_reducible refine wpAny_madeHere_exc f.canon j ?_|with_reducible refine bBV j ?_|(with_reducible refine bDB j ?_;first|rw[a]|rw[c]|rw[e])|wp_step)
 rw[bBL];exact l
end
end PySem
namespace L2
open PySem PySem.Spec PyProof.Rows
def aI4:List Value->Bool
 |.ref _::r=>aI4 r
 |l=>l == [.type "ValueError",.type "Exception",.type "BaseException",.type "object"]
theorem vQ (a:Value):∀{l:List Value},aI4 l=true->refuseLoop a "__setattr__" l=pure ()
 |[],e=>absurd e (by decide)
 |.ref c::r,e=>by rw[refuseLoop_ref];exact vQ a e
 |.none::r,e|.bool _::r,e|.int _ _::r,e|.str _ _::r,e|.float _ _::r,e|.bytes _ _::r,e|.builtin _::r,e|.type _::r,e=>by have q:=beq_iff_eq.mp e;rw[q];exact PySem.F.store_ValueError.passes a
structure XC (K:bF4)(C fI:Addr):Prop where
 at_:∃nm q N bs bm sn sub ab col dd k0 k1 k2 k3 k5,K.lookup C=some (excClassObj nm q C N bs bm true sn sub ab col dd k0 k1 k2 k3 k5 "ValueError.__new__")/\bm.contains (.type "ValueError")=true /\
  bm.contains (.type "AttributeError")=false/\bm.contains (.type "NameError")=false/\bm.contains (.type "BaseException")=true
 init:PySem.W.findIn K (.ref C) "__init__"=some (some (.ref fI))
 fn:PySem.W.typeIn K (.ref fI)=some (.type "function")
 row:(PySem.W.clsIn K C).any (λcd=>aI4 cd.mro && cd.hasDict)=true
 sa:PySem.W.findIn K (.ref C) "__setattr__"=some (some (.builtin "object.__setattr__"))
 ga:PySem.W.findIn K (.ref C) "__getattribute__"=some (some (.builtin "BaseException.__getattribute__"))
 hook:PySem.W.findIn K (.ref C) "__getattr__"=some none
 act:PySem.W.findIn K (.ref C) "act"=some none
 cls:PySem.W.findIn K (.ref C) "__class__"=some (some (.builtin "object.__class__"))
section
variable {prog:Program}{w:World}{A:Around}{E:bF5}{h:Heap}{g:Array GenState}{d:Drawn}{t:Nat}{os:OsState}{K:bF4}{C fI:Addr}
def aJ9 (X:K.In h)(c:XC K C fI){a:List Value}{Q:Fin->Shared->Prop}
  (M:∀h' e,Heap.MadeExcOf h h' e (.ref C) a->e=h.objs.size+1->h'.get? h.objs.size=some { cls:=.type "tuple",data:=.seq a.toArray } ->
   wpAny (model prog w) A (call (.ref fI) (.ref e::a)) (λr s'=>r=.none/\Q (.done (.ret (.ref e))) s') E ⟨h',g,d,t,os⟩) (l:a.length<=sizeLine) :
  wpAny (model prog w) A (Builtin.«type.__call__» ⟨.ref C::a,[]⟩) Q E ⟨h,g,d,t,os⟩:=by
 obtain⟨⟨nm,q,N,V,I,Y,u,L,D,R,P,Z,S,O,U,B,s,J,y,T⟩,H,z,_⟩:=c;have j:=X _ _ B;have F:=PySem.F.excBase_ValueError
 repeat (first|with_reducible refine bBV j ?_|with_reducible refine wpAny_madeBy_exc j ?_|wp_step)
 refine codeAny_call_builtin_code (Code.quiet_builtin _ F.quiet) (aJx F s j ?_);refine bC8 F s J y j ?_ l;show wpAny _ _ _ _ _ _;have n:∀b o,h.get? b=some o->((h.push { cls:=.type "tuple",data:=.seq a.toArray }).push { cls:=.ref C,data:=.fields #[.ref h.objs.size,.none,.none,.none,.bool false,.none] }).get? b=some o:=
  λb o e=>c7 _ (c7 _ e)
 have k:=n _ _ j;have p:=X.keeps n;have i:((h.push { cls:=.type "tuple",data:=.seq a.toArray }).push
   { cls:=.ref C,data:=.fields #[.ref h.objs.size,.none,.none,.none,.bool false,.none] }).get? (h.objs.size+1)=some
   { cls:=.ref C,data:=.fields #[.ref h.objs.size,.none,.none,.none,.bool false,.none] }:=by heap_get
 have f:((h.push { cls:=.type "tuple",data:=.seq a.toArray }).push
   { cls:=.ref C,data:=.fields #[.ref h.objs.size,.none,.none,.none,.bool false,.none] }).get? h.objs.size=some { cls:=.type "tuple",data:=.seq a.toArray }:=c7 _ (Heap.get?_push_at rfl rfl)
 have m:(Value.ref C::I).contains (.ref C)=true:=by simp
 unfold isInstance
 repeat (first|with_reducible refine bBV i ?_|(with_reducible refine bDB k ?_;rw[m])|wp_step)
 show wpAny _ _ (typeLookup (.ref C) _) _ _ _;refine (PySem.W.looks_findIn p H).at ?_;refine bAR (b7 ?_);unfold bindSpecial;refine b7 ((PySem.W.looks_typeIn p z).at ?_);rw[if_pos (by decide)];refine d7 (b7 (bAX (M _ (h.objs.size+1) ⟨n,bDS (bCR _),h.objs.size,i,bDS (d8 _),f⟩ rfl f) (λr s' v=>?_) λ_ _ x=>x));obtain⟨rfl,G⟩:=v;wp_walk;exact G
def x_call (X:K.In h)(c:XC K C fI)
  (o:∀h' e,Heap.MadeExcOf h h' e (.ref C) rest->e=h.objs.size+1->h'.get? h.objs.size=some { cls:=.type "tuple",data:=.seq rest.toArray } ->
   wpAny (model prog w) (A.under (.builtin "type.__call__" ⟨.ref C::rest,[]⟩)) (call (.ref fI) (.ref e::rest)) (λr s'=>r=.none/\Q (.ref e) s') E ⟨h',g,d,t,os⟩) (a:rest.length<=sizeLine) :
  wpAny (model prog w) A (call (.ref C) rest) Q E ⟨h,g,d,t,os⟩:=by
 obtain⟨nm,q,N,G,B,I,f,n,i,z,y,s,L,u,D,l,M,F,v,x⟩:=c.at_;have b:=X _ _ l;have J:=tc_lookup;have H:=tc_bind (.ref C);have p:(⟨h,g,d,t,os⟩:Shared).TypeIs (.ref C) "type":=⟨_,b,rfl⟩;refine bDJ (codeAny_of_tree ?_)
 repeat (any_goals (first|assumption|with_reducible refine bBV b ?_|wp_step))
 refine⟨rfl,?_⟩;refine codeAny_call_builtin_at (Code.quiet_builtin _ (by decide +kernel)) entry_typeCall (wpAny_check_type_call_sub b (aJ9 X c (λh' e m k j=>?_) a));exact o h' e m k j
end
def XO (e C:Addr)(d:Option Addr):HO:=.ext λh=>∃vs:Array Value,h.get? e=some { cls:=.ref C,dict:=d,data:=.fields vs }/\vs.size=6/\vs[1]?=some .none
def XO.at (x:HOk P w H h)(q:H e=some (XO e C d)):∃vs:Array Value,h.get? e=some { cls:=.ref C,dict:=d,data:=.fields vs }/\vs.size=6/\vs[1]?=some .none:=(x e _ q).1
def XO.ok (q:h.get? e=some { cls:=.ref C,dict:=d,data:=.fields vs })(z:vs.size=6)(n:vs[1]?=some .none):cV P w H h e (XO e C d):=
 ⟨⟨vs,q,z,n⟩,⟨_,q⟩,λi g ⟨f,a,b,c⟩ k=>⟨f,k _ a,b,c⟩⟩
def aWz (K:bF4):PySem.W.findCls K (.type "ValueError") (.type "type") "__init__"=some (.val (.builtin "ValueError.__init__")):=
 show PySem.W.findCls [] (.type "ValueError") (.type "type") "__init__"=some (.val (.builtin "ValueError.__init__")) by kernel_rfl
section
variable {prog:Program}{w:World}{A:Around}{E:bF5}{s:Shared}{K:bF4}{C fI e:Addr}
def bA7 (X:K.In s.heap)(c:XC K C fI)(o:s.heap.get? e=some { cls:=.ref C,dict:=dx,data:=.fields vs,slots:=sl })(S:0<vs.size)(J:vs[0]?=some u0)(y:rest.length<=sizeLine)
  (h:Q .none { s with heap:=(s.heap.push { cls:=.type "tuple",data:=.seq rest.toArray }).update e (Obj.mapFields (·.setIfInBounds 0 (.ref s.heap.objs.size))) }) :
  wpAny (model prog w) A (call (.builtin "ValueError.__init__") (.ref e::rest)) Q E s:=by
 obtain⟨nm,q,N,R,r,T,l,v,p,G,D,U,I,z,O,m,u,P,B,M⟩:=c.at_;have k:=X _ _ m;have F:=PySem.F.excBase_ValueError;obtain⟨L,g,d,t,H⟩:=s;have j:(Value.ref C::r).contains (.type "ValueError")=true:=by rw[bCK,u,bFQ]
 refine bDJ (bCZ F.init.plain F.initEntry ?_);have i:=F.noStar;simp only[checkBuiltinCall,F.initKind,F.initSplit,F.initRow]
 repeat (first|with_reducible refine bBV o ?_|with_reducible refine bBV k ?_|(with_reducible refine bDB k ?_;rw[j])|wp_step)
 refine bED ?_;rw[show ∀a b n,Bind.check ⟨.positional,"*","ValueError",.self,[⟨"args",.varPos,false⟩]⟩ a b n (List.map (λx=>x.fst) ({ pos:=Value.ref e::rest }:Args).kw)=pure () from
  λa b n=>check_star_args _ _ _ _ _ _]
 refine d7 ?_;unfold Builtin.«BaseException.__init__» newTuple;refine b7 (bAF ?_ (by show rest.toArray.size<=sizeLine;rw[d9];exact y));have f:=c7 { cls:=.type "tuple",data:=.seq rest.toArray } o;refine b7 ?_;unfold Builtin.BaseException.bexcPut;refine b7 (bAJ f rfl J ?_);refine b7 (bBW f rfl S ?_)
 split
 ·exact bFZ (d7 h)
 ·exact d7 (d7 h)
end
end L2
namespace L2
open PySem PySem.Spec PyProof.Rows Builtin Builtin.ObjectAttr
section
variable {prog:Program}{w:World}{A:Around}{E:bF5}{s:Shared}{K:bF4}{C fI e:Addr}
def aX3 (X:K.In s.heap)(c:XC K C fI){vs:Array Value}{v:Value}{Q:Unit->Shared->Prop}(j:s.heap.get? e=some { cls:=.ref C,data:=.fields vs })
  (V:∀h' t',h'.get? e=some { cls:=.ref C,dict:=some s.heap.objs.size,data:=.fields vs }->h'.Ns1 s.heap.objs.size (λy=>if y = "act" then some v else none) ->
   (∀b o,b≠e->s.heap.get? b=some o->h'.get? b=some o)->Q () { s with heap:=h',toks:=t' }) :
  wpAny (model prog w) A (setAttr (.ref e) "act" v) Q E s:=by
 have I:PySem.W.InstAt s.heap e { cls:=.ref C,data:=.fields vs } C none:=⟨j,rfl,rfl,trivial⟩;refine PySem.W.set_plain X I c.sa ?_;obtain⟨R,M,B⟩:=PySem.W.any_some c.row;obtain⟨H,hd⟩:=Bool.and_eq_true_iff.mp B;have m:=PySem.F.store_object;have SV:=PySem.F.store_ValueError;have S:PySem.W.Looks (model prog w) s.heap (mroOf (.ref C)) R.mro:=(PySem.W.looks_clsIn X M).andThen .now;have f:∀{l:List Value},aI4 l=true->l.contains (.type "object")=true/\l.isEmpty=false:=by
  intro l
  induction l with
  |nil=>intro z;exact absurd z (by decide)
  |cons a r ih=>
   intro z;refine⟨?_,rfl⟩;cases a with
   |ref x=>rw[bCK,(ih z).1,bFQ]
   |_=>have q:=beq_iff_eq.mp z;rw[q];decide +kernel
 have p:PySem.W.Looks (model prog w) s.heap (isInstance (.ref e) (.type "object")) true:=I.type.andThen (PySem.W.looks_mroIn X (by unfold PySem.W.mroIn;rw[M,Option.bind_some,if_neg (by rw[(f H).2];decide),(f H).1]));refine bCZ m.slot.plain m.entry (@PySem.W.check_slot (model prog w) _ _ { s with toks:=s.toks+1 } "object.__setattr__" "object" "__setattr__" (.ref e) [.str "act" s.toks,v] [] _ m.kind m.split p (m.args (.ref e) (.str "act" s.toks) v) ?_);rw[PySem.W.osa_eq,refuse_eq];refine b7 (b7 (I.type _ _ _ _ (λ_ _ e=>e) (b7 (S _ _ _ _ (λ_ _ e=>e) ?_))));rw[vQ _ H];refine d7 (b7 (I.type _ _ _ _ (λ_ _ e=>e) (b7 (PySem.W.looks_findIn X c.act _ _ _ _ (λ_ _ e=>e) (b7 ?_)))));refine d7 ?_;dsimp only;obtain⟨h,g,d,t,Z⟩:=s;dsimp only at *;unfold storeInOwnDict;have k:e≠h.objs.size:=v8 (j9 j);have n:(h.push { cls:=.type "dict",data:=.dict #[] }).get? e=some { cls:=.ref C,data:=.fields vs }:=c7 _ j;refine b7 (d7 (b7 ?_));unfold ownDictForStores instanceDict;refine b7 (wpAny_loadPart j ?_);dsimp only;refine b7 ((PySem.W.looks_clsIn X M) _ _ _ _ (λ_ _ e=>e) ?_);rw[hd,if_neg (by decide),if_neg (by simp[typeHasDict])];refine b7 (wpAny_alloc' ?_);refine b7 (wpAny_update' n ?_);refine d7 ?_;have G:((h.push { cls:=.type "dict",data:=.dict #[] }).update e λo=>{ cls:=o.cls,dict:=some h.objs.size,data:=o.data,slots:=o.slots }).get? h.objs.size
   = some { cls:=.type "dict",data:=.dict #[] }:=
  (bEA _ _ _ _ k.symm).trans (Heap.get?_push_at rfl rfl)
 have N:((h.push { cls:=.type "dict",data:=.dict #[] }).update e λo=>{ cls:=o.cls,dict:=some h.objs.size,data:=o.data,slots:=o.slots }).Ns h.objs.size (λ_=>none):=
  ⟨_,#[],_,G,rfl,λe j=>absurd j (by simp),λ_=>rfl⟩
 show wpAny _ _ (storeInDict h.objs.size (.str "act" _) "act" v) _ _ _;unfold storeInDict newKeyGuard;refine b7 (d7 (b7 (wpAny_nsSet1 (Heap.Ns1.of_empty N) λh' i O=>?_)));obtain⟨Y,U,T,D,J,u⟩:=i.count (Within.cons "act" v Within.nil);refine b7 (wpAny_lookBehind D (by rw[J];exact pastItsLine_dict (bAE u (by rw[m8,bBS,sizeLine_eq];lia))) ?_);refine d7 ?_;refine V h' _ ?_ i λb ob L P=>(O.2 b (v8 (j9 P))).trans ((bEA _ _ _ _ L).trans (c7 _ P));exact (O.2 e k).trans (bAO _ n rfl)
end
end L2
namespace L2
open PySem PySem.Spec PyProof.Rows Builtin Builtin.ObjectAttr
section
variable {prog:Program}{w:World}{A:Around}{E:bF5}{s:Shared}{K:bF4}{C fI e:Addr}
end
section
variable {M:Model}{A:Around}{E:bF5}{s:Shared}{base:Heap}{env:Env}{outer:List Env}{L e:Addr}
def aP8 (w:A.frames=some (env::outer))(C:s.heap.FunFrames base (env::outer))(D:env.frame=some L)
  (B:s.heap.get? e=some oe) (hd:oe.data=.fields vs) (x:1<vs.size)
  (h:∀h',(∀b o,b≠e->b∉frs (env::outer)->s.heap.get? b=some o->h'.get? b=some o)->(∀b o,b≠e->s.heap.get? b=some o->∃sl,h'.get? b=some { o with slots:=sl }) ->
   h'.get? e=some (oe.mapFields (·.setIfInBounds 1 (.ref s.heap.objs.size)))->(∃oT ts,h'.get? s.heap.objs.size=some oT/\oT.data=.fields ts/\3<ts.size)->Q () { s with heap:=h' }) :
  wpAny M A (do let a <-frameOf env;let pl <-entryPlaceOf L hadNext;let b <-EntryCells.newEntry head a .none (rawInt L) .none pl;setField (.ref e) 1 b) Q E s:=by
 have j:e∉(env::outer).filterMap (·.frame):=λy=>by obtain⟨_,o,m,n⟩:=C.mem y;rw[B] at m;injection m with m;subst m;exact n vs hd
 refine b7 (wpAny_frameOf_fun w C D λg d=>?_);refine b7 (wpAny_entryPlaceOf λpl v=>?_);unfold EntryCells.newEntry newFields;refine b7 (bAF ?_ (v.sizeOk5 _ _ _ _ _));have i:=(d.2.1 e j).trans B;have k:=c7 { cls:=.type "traceback",dict:=none,data:=.fields ([head,.ref L,.none,rawInt L,.none]++(if pl.isEmpty then List.replicate 6 Value.none else pl)).toArray } i;have r:=bCM (j9 i);have u:=bDM hd (·.setIfInBounds 1 (Value.ref g.objs.size));have q:=bAO (Obj.mapFields (·.setIfInBounds 1 (Value.ref g.objs.size))) k (bDQ u);have p:=(bBD (g.push { cls:=.type "traceback",dict:=none,data:=.fields ([head,.ref L,.none,rawInt L,.none]++(if pl.isEmpty then List.replicate 6 Value.none else pl)).toArray })
  (Obj.mapFields (·.setIfInBounds 1 (Value.ref g.objs.size))) (Ne.symm r)).trans (j8 g rfl)
 have f:∀b o,b≠e->g.get? b=some o ->
   ((g.push { cls:=.type "traceback",dict:=none,data:=.fields ([head,.ref L,.none,rawInt L,.none]++(if pl.isEmpty then List.replicate 6 Value.none else pl)).toArray }).update e (Obj.mapFields (·.setIfInBounds 1 (Value.ref g.objs.size)))).get? b=some o:=λb o c l=>by
  rw[bBD _ _ (Ne.symm c)];exact c7 _ l
 refine bBW k hd x (h _ (λb o c t l=>f b o c ((d.2.1 b t).trans l)) (λb o c l=>?_) ?_ ?_)
 ·obtain⟨sl,z⟩:=d.2.2 b o l;exact⟨sl,f b _ c z⟩
 ·rw[<-d.1];exact q
 ·rw[<-d.1];exact⟨_,_,p,rfl,by simp only[d9,w6,m8,bBS] <;> lia⟩
theorem bCv (T:Option Addr)(K:A.frames=some (env::outer))(S:s.heap.FunFrames base (env::outer))(B:env.frame=some L)
  (J:s.heap.get? e=some oe) (hd:oe.data=.fields vs) (D:vs[1]?=some (T.elim .none .ref)) (U:∀a,T=some a->a≠e/\∃oT ts,s.heap.get? a=some oT/\oT.data=.fields ts/\3<ts.size)
  (h:∀h' T',(∀b o,b≠e->T≠some b->b∉frs (env::outer)->s.heap.get? b=some o->h'.get? b=some o)->(∀b o,b≠e->T≠some b->s.heap.get? b=some o->∃sl,h'.get? b=some { o with slots:=sl })->(∀b o,s.heap.get? b=some o->∃o',h'.get? b=some o') ->
   (∃vs':Array Value,h'.get? e=some { oe with data:=.fields vs' }/\vs'.size=vs.size/\vs'[1]?=some (.ref T'))->(∃oT ts,h'.get? T'=some oT/\oT.data=.fields ts/\3<ts.size)->(T=some T'\/T'=s.heap.objs.size)->Q () { s with heap:=h' }) :
  wpAny M A (noteFrame (.ref e) env) Q E s:=by
 unfold noteFrame;simp only[B];obtain⟨u,O,D⟩:∃u:Value,u=T.elim .none .ref/\vs[1]?=some u:=⟨_,rfl,D⟩;refine b7 (bAJ J hd D ?_);have v:=(Array.getElem?_eq_some_iff.mp D).1;have R:∀n:Addr,oe.mapFields (·.setIfInBounds 1 (.ref n))={ oe with data:=.fields (vs.setIfInBounds 1 (.ref n)) }:=λn=>by obtain⟨c,d,P,sl⟩:=oe;cases hd;rfl
 have l:∀{h':Heap} {n:Addr},h'.get? e=some (oe.mapFields (·.setIfInBounds 1 (.ref n)))->∃vs':Array Value,h'.get? e=some { oe with data:=.fields vs' }/\vs'.size=vs.size/\vs'[1]?=some (.ref n):=λ{h' n} q=>
  ⟨_,by rw[q,R n],by simp,by simp[v]⟩
 cases T with
 |none=>
  obtain rfl:u=.none:=O;rw[if_neg (by decide)];refine aP8 K S B J hd v λh' F p m C=>h h' _ (λb o g _ B q=>F b o g B q) (λb o g _ q=>p b o g q) (λb o q=>?_) (l m) C (.inr rfl);by_cases z:b=e
  ·subst z;exact⟨_,m⟩
  ·obtain⟨sl,r⟩:=p b o z q;exact⟨_,r⟩
 |some a=>
  obtain⟨G,oT,ts,k,j,H⟩:=U a rfl;obtain rfl:u=.ref a:=O;rw[if_pos (show (Value.ref a != Value.none)=true from by simp)];refine b7 (bAJ k j (j7 H) ?_);by_cases N:(ts[3] == rawInt L)=true
  ·rw[if_pos N];refine d7 (h s.heap a (λb o _ _ _ q=>q) (λb o _ _ q=>⟨o.slots,q⟩) (λb o q=>⟨o,q⟩) ⟨vs,?_,rfl,D⟩ ⟨oT,ts,k,j,H⟩ (.inl rfl));rw[J];obtain⟨c,d,P,sl⟩:=oe;cases hd;rfl
  rw[if_neg N];refine b7 (bBW k j H ?_);have f:∀b,b≠a->(s.heap.update a (Obj.mapFields (·.setIfInBounds 3 Value.none))).get? b=s.heap.get? b:=λb g=>bBD _ _ (Ne.symm g);have i:∀b o,s.heap.get? b=some o->(∀vs,o.data≠.fields vs)->b≠a:=λb o g t q=>by rw[q,k] at g;injection g with g;subst g;exact t ts j
  have I:(s.heap.update a (Obj.mapFields (·.setIfInBounds 3 Value.none))).objs.size=s.heap.objs.size:=Heap.size_after_update ..;have x:=bAO (Obj.mapFields (·.setIfInBounds 3 Value.none)) k (bDQ (bDM j _));refine aP8 K (S.of_keeps λb o g t=>⟨o,(f b (i b o g t)).trans g,rfl⟩) B ((f e (Ne.symm G)).trans J) hd v λh' F p m C=>?_;dsimp only at F p m C;rw[I] at m C;refine h h' _ (λb o g w B q=>F b o g B ((f b λz=>w (by rw[z])).trans q)) (λb o g w q=>p b o g ((f b λz=>w (by rw[z])).trans q)) (λb o q=>?_) (l m) C (.inr rfl);by_cases z:b=e
  ·subst z;exact⟨_,m⟩
  ·by_cases y:b=a
   ·subst y;obtain⟨sl,r⟩:=p b _ z x;exact⟨_,r⟩
   ·obtain⟨sl,r⟩:=p b o z ((f b y).trans q);exact⟨_,r⟩
end
def aMk (e T C dx:Addr):HO:=.ext λh=>∃vs:Array Value,h.get? e=some { cls:=.ref C,dict:=some dx,data:=.fields vs }/\vs.size=6/\vs[1]?=some (.ref T)
def TbO (T:Addr):HO:=.ext λh=>∃oT ts,h.get? T=some oT/\oT.data=.fields ts/\3<ts.size
def up2 (H:Hp)(e T C dx:Addr):Hp:=upd (upd H T (TbO T)) e (aMk e T C dx)
abbrev xdA:HO:=.xd [(("act":Str),V.non)]
def aMk.ok (q:h.get? e=some { cls:=.ref C,dict:=some dx,data:=.fields vs })(z:vs.size=6)(n:vs[1]?=some (.ref T)):cV P w H h e (aMk e T C dx):=
 ⟨⟨vs,q,z,n⟩,⟨_,q⟩,λg f ⟨d,a,b,c⟩ k=>⟨d,k _ a,b,c⟩⟩
def TbO.ok (q:∃oT ts,h.get? T=some oT/\oT.data=.fields ts/\3<ts.size):cV P w H h T (TbO T):=by obtain⟨o,ts,a,b,c⟩:=q;exact⟨⟨o,ts,a,b,c⟩,⟨_,a⟩,λe f ⟨u,d,a,b,c⟩ k=>⟨u,d,k _ a,b,c⟩⟩
def aXt (h:H a=some o):upd H a o=H:=by
 funext b;unfold upd;split
 ·rename_i e;rw[e,h]
 ·rfl
def Xt:HO->Prop
 |.ext _=>True
 |_=>False
section
variable {X:Cx}{bF8:bF6}{σ:St}{H H₁:Hp}{s:Shared}{e C dx:Addr}{M:Model}{E:bF5}{Q:Unit->Shared->Prop}
def aFo (I:Inv X bF8 σ H s)(v:X.stack=X.env::X.outer)(Z:X.env.frame=some X.env.locals)(T:Option Addr)
  (he:s.heap.get? e=some { cls:=.ref C,dict:=some dx,data:=.fields vs }) (z:vs.size=6) (h1:vs[1]?=some (T.elim .none .ref))
  (x:∀a,T=some a->a≠e/\(∃oT ts,s.heap.get? a=some oT/\oT.data=.fields ts/\3<ts.size)/\∃o,H a=some o/\Xt o)
  (hx:∃o,H e=some o/\Xt o) (V:∀b o,H₁ b=some o->b≠e/\T≠some b/\H b=some o) (a1:∀b o,H b=some o->b≠e->T≠some b->H₁ b=some o)
  (q:∀T' s',Inv X bF8 σ (up2 H₁ e T' C dx) s'->H₁ T'=none->T'≠e->Q () s') :
  wpAny M X.A (noteFrame (.ref e) X.env) Q E s:=by
 have y:=v ▸ I.stack;obtain⟨oE,F,N⟩:=hx;refine bCv T (by rw[<-v];exact I.ok.frames) y Z he rfl h1 (λa S=>⟨(x a S).1,(x a S).2.1⟩) λD T' k1 k2 k3 k4 k5 g=>?_;have K:∀b∈frs (X.env::X.outer),H b=none:=λb k=>I.rC b (by rw[v];exact k);have R:∀b,H b=none->H₁ b=none:=λb n=>by
  cases r:H₁ b with
  |none=>rfl
  |some o=>rw[(V b o r).2.2] at n;cases n
 have J:H₁ T'=none:=by
  rcases g with g|rfl
  ·cases r:H₁ T' with
   |none=>rfl
   |some o=>exact absurd g (V _ o r).2.1
  ·exact R _ (I.hok.fresh (d8 _))
 have G:T'≠e:=by
  rcases g with g|rfl
  ·exact (x _ g).1
  ·exact bCM (j9 he)
 have h:∀b,b≠e->b≠T'->up2 H₁ e T' C dx b=H₁ b:=λb m t=>by unfold up2;rw[aK m,aK t]
 have trk:∀b o,H b=some o->T≠some b->b≠T':=λb o r n=>by
  rcases g with g|rfl
  ·exact λf=>n (by rw[f];exact g)
  ·exact v8 (I.hok.lt r)
 have O:∀b,H b=none->(∃o,s.heap.get? b=some o)->b≠T':=λb n ⟨o,r⟩=>by
  rcases g with g|rfl
  ·intro f;obtain⟨Y,l,_⟩:=(x _ g).2.2;rw[f,l] at n;cases n
  ·exact v8 (j9 r)
 have p:∀b o,H b=some o->¬ Xt o->b≠e/\T≠some b:=λb o r n=>by
  refine⟨λf=>?_,λf=>?_⟩
  ·subst f;rw[F] at r;cases r;exact n N
  ·obtain⟨Y,l,x'⟩:=(x b f).2.2;rw[l] at r;cases r;exact n x'
 have i:∀b o u,H b=some o->b≠e->T≠some b->s.heap.get? b=some u->D.get? b=some u:=λb o u r m t j=>
  k1 b u m t (λk=>by rw[K b k] at r;cases r) j
 have d:∀b o,H b=some o->¬ Xt o->up2 H₁ e T' C dx b=some o:=λb o r n=>by obtain⟨m,t⟩:=p b o r n;rw[h b m (trk b o r t)];exact a1 b o r m t
 have L:HOk X.prog X.w (up2 H₁ e T' C dx) D:=λb o r=>by
  by_cases P:b=e
  ·subst P;unfold up2 at r;rw[aF] at r;cases r;obtain⟨a0,e1,e2,e3⟩:=k4;exact aMk.ok e1 (e2.trans z) e3
  ·by_cases W:b=T'
   ·subst W;unfold up2 at r;rw[aK P,aF] at r;cases r;exact TbO.ok k5
   ·rw[h b P W] at r;obtain⟨m,t,l⟩:=V b o r;refine (I.hok b o l).stay (λc u hc j=>?_) (λc j=>d c _ j λz=>z) λc xs j=>d c _ j λz=>z;rcases hc with rfl|hc
    ·exact i c o u l m t j
    ·obtain⟨m1,m2⟩:=p c _ hc λz=>z;exact i c _ u hc m1 m2 j
 have B:∀b,T=some b->H b≠none:=λb k n=>by obtain⟨Y,l,_⟩:=(x b k).2.2;rw[l] at n;cases n
 have U:Un (frs X.stack) [] H (up2 H₁ e T' C dx) s.heap D:=by
  refine⟨λb o r n k _=>?_,λb o r n k _=>?_,λb o r n _=>?_,λb o r _=>k3 b o r,λb xs r=>d b _ r λz=>z,λb o u r=>d b _ r λz=>z,λb ps r=>⟨#[],by rw[d b _ r λz=>z];simp⟩⟩
  ·exact k1 b o (λf=>by subst f;rw[F] at n;cases n) (λf=>B b f n) (by rw[<-v];exact k) r
  ·exact k2 b o (λf=>by subst f;rw[F] at n;cases n) (λf=>B b f n) r
  ·rw[h b (λf=>by subst f;rw[F] at n;cases n) (O b n ⟨o,r⟩)];exact R b n
 exact q T' _ (I.call' (s':={ s with heap:=D }) rfl U L I.bare λb z=>absurd z (by simp)) J G
def uF {T:Addr}{A:Around}{l:Option Addr}(I:Inv X bF8 σ (up2 H₁ e T C dx) s)(n:T≠e)(q:∀s',Inv X bF8 σ (up2 H₁ e T C dx) s'->Q () s'):wpAny M A (setFlight (.ref e) l) Q E s:=by
 have m:up2 H₁ e T C dx e=some (aMk e T C dx):=aF;have g:up2 H₁ e T C dx T=some (TbO T):=by unfold up2;rw[aK n,aF]
 obtain⟨t,i,v,j⟩:=(I.hok e _ m).1;obtain⟨w,r,d,a,c⟩:=(I.hok T _ g).1;unfold setFlight;refine b7 (bAJ i rfl j ?_);rw[if_pos (show (Value.ref T != Value.none)=true from by simp)];refine bBW d a c (q _ ?_);have k:=bAO (h:=s.heap) (Obj.mapFields (·.setIfInBounds 3 (l.elim Value.none λf=>rawInt f))) d (bDQ (bDM a _));have W:=I.write (x:=T) (e:=T) (o:=TbO T) (h':=s.heap.update T (Obj.mapFields (·.setIfInBounds 3 (l.elim Value.none λf=>rawInt f)))) (t':=s.toks) (by rw[g];trivial) (.inl rfl) (λb u p q=>(bBD _ _ (Ne.symm p)).trans q) ⟨_,k⟩
  (TbO.ok ⟨_,_,k,bDM a _,by simpa using c⟩)
 rw[aXt g] at W;exact W
def aR4 (I:Inv X bF8 σ (upd H₁ e (XO e C (some dx))) s)(i:X.stack=X.env::X.outer)(d:X.env.frame=some X.env.locals)(n:H₁ e=none)
  (q:∀T' s',Inv X bF8 σ (up2 H₁ e T' C dx) s'->H₁ T'=none->T'≠e->Q () s') :
  wpAny M X.A (noteFrame (.ref e) X.env) Q E s:=by
 obtain⟨k,j,z,f⟩:=XO.at I.hok aF;refine aFo I i d none j z f (λa g=>nomatch g) ⟨_,aF,trivial⟩ (λb o r=>?_) (λb o r c _=>by rw[aK c] at r;exact r) q;have c:b≠e:=λh=>by subst h;rw[n] at r;cases r
 exact⟨c,(nomatch ·),by rw[aK c];exact r⟩
def aRh {T:Addr}(I:Inv X bF8 σ (up2 H₁ e T C dx) s)(l:X.stack=X.env::X.outer)(i:X.env.frame=some X.env.locals)(n:H₁ e=none)(t:H₁ T=none)(g:T≠e)
  (q:∀T' s',Inv X bF8 σ (up2 H₁ e T' C dx) s'->H₁ T'=none->T'≠e->Q () s') :
  wpAny M X.A (noteFrame (.ref e) X.env) Q E s:=by
 have j:up2 H₁ e T C dx e=some (aMk e T C dx):=aF;have h:up2 H₁ e T C dx T=some (TbO T):=by unfold up2;rw[aK g,aF]
 obtain⟨u,p,z,m⟩:=(I.hok e _ j).1;refine aFo I l i (some T) p z m (λa k=>?_) ⟨_,j,trivial⟩ (λb o r=>?_) (λb o r f d=>?_) q
 ·cases k;exact⟨g,(I.hok T _ h).1,_,h,trivial⟩
 ·have f:b≠e:=λc=>by subst c;rw[n] at r;cases r
  have d:b≠T:=λc=>by subst c;rw[t] at r;cases r
  exact⟨f,λc=>d (bAK c).symm,by unfold up2;rw[aK f,aK d];exact r⟩
 ·unfold up2 at r;rw[aK f,aK (λc=>d (by rw[c]))] at r;exact r
end
def CXR (P:Program)(w:World):CXT:=λouter H s E v s'=>∃e T dx C H₁,v=.ref e/\s'.os=s.os/\AllBare s'.gens/\H₁ e=none/\H₁ T=none/\T≠e/\H₁ dx=some xdA /\
 Un (frs outer) [] H (up2 H₁ e T C dx) s.heap s'.heap/\HOk P w (up2 H₁ e T C dx) s'.heap/\E (.ref C) (some e) H₁
def Raises (X:Cx)(E:XK):Prop:=∀bF8 σ H₁ s e C dx,Inv X bF8 σ (upd H₁ e (XO e C (some dx))) s->H₁ e=none->H₁ dx=some xdA->E (.ref C) (some e) H₁->X.xe (.ref e) s
section
variable {P:Program}{w:World}{K:bF4}{mg:bF7}{base:Heap}{N:List Str}{qual:Str}{scope:Scope}{f:Addr}{cd:Value}{A:Around}{outer:List Env}{s₀:Shared}{H₀:Hp}{E:XK}
def aQ5 (I:Inv (wY (CXR P w) P w K mg base N qual scope f cd A outer s₀ H₀ E) bF8 σ (up2 H₁ e T C dx) s)(n:H₁ e=none)(b:H₁ T=none)(a:T≠e)(hd:H₁ dx=some xdA)(q:E (.ref C) (some e) H₁) :
  CXR P w outer H₀ s₀ E (.ref e) s:=⟨e,T,dx,C,H₁,rfl,I.os,I.bare,n,b,a,hd,I.base,I.hok,q⟩
def aQz:Raises (wY (CXR P w) P w K mg base N qual scope f cd A outer s₀ H₀ E) E:=by intro b σ h s e C i I n hd q;show wpAny _ _ (leaving _ (.ref e)) _ _ s;unfold leaving;exact b7 (aR4 I rfl rfl n λk j g d a=>uF g a λl c=>aQ5 c n d a hd q)
end
def bAn (h:H a=some o):upd H a o=H:=by
 funext b;unfold upd;split
 ·rename_i e;rw[e,h]
 ·rfl
def aTf (h:a≠b):upd (upd H a o) b u=upd (upd H b u) a o:=by
 funext c;unfold upd;by_cases e:c=b
 ·by_cases d:c=a
  ·exact absurd (d.symm.trans e) h
  ·simp[e,d,Ne.symm h]
 ·by_cases d:c=a
  ·simp[d,h]
  ·simp[e,d]
def tVI (K:bF4)(fI:Addr)(t:TA):TE:=fun σ H Q=>t σ H λvs H1=>∃e C v,vs=[.ref e,v]/\H1 e=some (XO e C none)/\XC K C fI/\Q .non H1
def aUa (K:bF4)(fI:Addr)(ta tv:TE):TS:=λD σ H=>tv σ H λy H1=>ta σ H1 λx H2=>∃e C,y=.non/\x=.ref e/\H2 e=some (XO e C none)/\XC K C fI /\
 ∀dx,H2 dx=none->dx≠e->D.nx σ (upd (upd H2 dx xdA) e (XO e C (some dx)))
section
variable {X:Cx}{o value e1:Expr}{es:List Expr}{p ap pos pos' cpos:Pos}{ta tv:TE}{t:TA}{fI:Addr}{pl:Sem Bool}
def aWw:bootBuiltins "ValueError"=some (.type "ValueError"):=by decide +kernel
def bDi:typeOf (.type "ValueError")=pure (.type "type"):=by first|rfl|kernel_rfl
def aYo:PySem.W.handedIn (.builtin "ValueError.__init__")=true:=by decide +kernel
def aW7:Manifest.isStub "ValueError"=false:=by decide +kernel
theorem aSu (N:Gl X "ValueError")(O:X.mg "ValueError"=none)(M:PA X (e1::es) t)
  (w:starEach (e1::es) X.env=(false,eval e1 X.env)::starEach es X.env:=by rfl) (z:(backTo cpos (starEach es X.env)).any (·.1)=false:=by rfl)
  (J:eval (.Call (.Attribute (.Name "ValueError" p) "__init__" ap) (e1::es) [] cpos) X.env=(do
   let ov <-eval (.Name "ValueError" p) X.env
   standAt ap.atName
   let (f,first) <-holding [ov] (getMethod ov "__init__" pl)
   callWith cpos f first (backTo cpos (starEach (e1::es) X.env)) (backToKw cpos (keywordEach [] X.env))):=by rfl) :
  PE X (.Call (.Attribute (.Name "ValueError" p) "__init__" ap) (e1::es) [] cpos) (tVI X.K fI t):=by
 intro i s σ H Q I h;refine PySem.W.methodCall_KW (pl:=pl) (qZ I N O aWw ?_) J;obtain⟨m,F⟩:=I.fr;refine PySem.W.method_type (T:="ValueError") (name:="__init__") (v:=.builtin "ValueError.__init__") F I.ok.mod.kin bDi aW7 (aWz X.K) aYo ?_;refine bFG (thn (M cpos i _ σ H _ (I.tok _) h) λL a ⟨vs,E,g,r,e,C,v,G,j,c,q⟩=>?_) w z;subst G;cases r with
 |cons r0 r1=>
  cases r1 with
  |@cons _ u2 _ _ r2 r3=>
   cases r3;obtain rfl:=r0;obtain⟨k,d,D,B⟩:=XO.at g.hok j;have l:0<k.size:=by lia
   refine bA7 g.kIn c d l (j7 l) (by rw[sizeLine_eq,m8,bBS];lia) ?_;refine⟨.non,E,?_,rfl,q⟩;have A:=g.kept (h':=a.heap.push { cls:=.type "tuple",data:=.seq [u2].toArray }) (t':=a.toks) (λb u e=>c7 _ e);have hg2:=c7 (h:=a.heap) { cls:=.type "tuple",data:=.seq [u2].toArray } d;have n:=bAO (Obj.mapFields (·.setIfInBounds 0 (Value.ref a.heap.objs.size))) hg2 (bDQ (bDM rfl _));have W:=A.write (x:=e) (e:=e) (o:=XO e C none) (t':=a.toks) (by rw[j];trivial) (.inl rfl) (λb u y q=>(bBD _ _ (Ne.symm y)).trans q) ⟨_,n⟩
    (XO.ok (vs:=k.setIfInBounds 0 (.ref a.heap.objs.size)) n (by simp[D]) (by rw[bFD (by decide)];exact B))
   rw[bAn j] at W;exact W
def bAl (Y:PE X o ta)(hv:PE X value tv)(Z:swapsWith value (some (.Attribute o "act" pos')) pos.line X.env=pure false:=by rfl):PS X (.Assign [.Attribute o "act" pos'] value pos) (aUa X.K fI ta tv):=by
 intro i s σ H D I h;refine plainObj_wpAny_Assign_Attribute (thn (hv i s σ H _ I h) λu B ⟨y,O,E,V,q⟩=>thn (Y i B σ O _ E q) λov g ⟨x,L,l,J,e,C,P,W,z,c,p⟩=>?_) Z;subst W P;obtain rfl:=J;obtain rfl:=V;obtain⟨ws,j,S,Q⟩:=XO.at l.hok z;have v:L g.heap.objs.size=none:=l.hok.fresh (d8 _);have k:g.heap.objs.size≠e:=bCM (j9 j);refine aX3 l.kIn c j λh' t' A N F=>⟨σ,_,?_,p _ v k⟩;obtain⟨w,R,T,d,t,r⟩:=id N;have U:=l.laid (a:=g.heap.objs.size) (o:=xdA) (h':=g.heap.push w) (t':=t') (λb u e=>c7 _ e) (d8 _)
  ⟨_,⟨w,R,T,j8 _ (Heap.get?_some_iff.mp d).2,t,r⟩,λf=>by
   by_cases e:f = "act"
   ·subst e;simp[lN,RelV]
   ·have n:(f == ("act":Str))=false:=by simpa using e
    simp[List.lookup,n,e,lN]⟩
 refine U.write (x:=e) (e:=e) (o:=XO e C (some g.heap.objs.size)) (h':=h') (t':=t') (by rw[aK (Ne.symm k),z];trivial) (.inl rfl) (λb u M q=>?_) ⟨_,A⟩ (XO.ok A S Q);by_cases m:b=g.heap.objs.size
 ·subst m;rw[j8 _ (Heap.get?_some_iff.mp d).2] at q;cases q;exact d
 ·refine F b u M ?_;obtain⟨G,p⟩:=Heap.get?_some_iff.mp q;refine Heap.get?_some_iff.mpr ⟨?_,p⟩;rw[<-G];generalize g.heap=hh at m ⊢;cases hh;simp only at m;simp[Heap.push,Array.getElem?_push,m]
end
def aCk (K:bF4)(fI:Addr):Sp:=λvs H Q _=>∃e C,vs=[.ref e,.non]/\H e=some (XO e C none)/\XC K C fI/\∀dx,H dx=none->dx≠e->Q .non (upd (upd H dx xdA) e (XO e C (some dx)))
def aT3 (C:Addr)(E:XK)(t:TA):TS:=λ_ σ H=>t σ H λvs H1=>vs=[.non]/\∀e dx,H1 e=none->H1 dx=none->dx≠e->E (.ref C) (some e) (upd H1 dx xdA)
section
variable {M:Model}{A:Around}{E:bF5}{env:Env}{K:bF4}{C fI:Addr}
def aK5 (c:XC K C fI)(F:A.handled=none)
  (h:wpAny M A x (λv s₁=>∃e d vs,v=.ref e/\K.In s₁.heap/\s₁.heap.get? e=some { cls:=.ref C,dict:=d,data:=.fields vs }/\vs[1]?=some .none/\E (.ref e) s₁) E s) :
  wpAny M A (raiseStmt env (some x) none) Q E s:=by
 obtain⟨nm,q,N,L,o,O,j,r,l,z,y,P,D,u,I,k,R,J,w,m⟩:=c.at_;have a:(Value.ref C::o).contains (.type "BaseException")=true:=by rw[bCK,m,bFQ]
 unfold raiseStmt;refine b7 (bAX h (λv s₁ p=>?_) λ_ _ x=>x);obtain⟨e,t,vs,rfl,X,f,n,b⟩:=p;have i:=X _ _ k;obtain⟨H,g,d,G,B⟩:=s₁
 repeat (first|with_reducible refine bBV f ?_|with_reducible refine bBV i ?_|(with_reducible refine bDB i ?_;rw[a])|with_reducible refine bAJ f rfl n ?_|wp_step)
 exact wpAny_raiseNew_none F b
end
section
variable {X:Cx}{CX:CXT}{k:Nat}{C fI:Addr}{fd:FuncData}{ps:List Str}{E:XK}{x:Str}{np cpos pos:Pos}{a:Expr}{t:TA}
theorem aZa {j:bF6}{σ:St}{H:Hp}{s:Shared}{Q:VK}{u:Value}(c:XC X.K C fI)(F:gK X.prog X.w X.K X.mg X.base CX k fI fd ps (aCk X.K fI))(R:Room (k+1) X.A)(S:Binds X.K fd ps [])(W:lM CX X E0)
  (I:Inv X j σ H s) (r:RelV .non u) (h:∀e dx,H e=none->H dx=none->dx≠e->Q (.ref e) (upd (upd H dx xdA) e (XO e C (some dx)))) :
  wpAny (model X.prog X.w) X.A (call (.ref C) [u]) (EP X j σ Q) X.xe s:=by
 obtain⟨U,g,d,m,x⟩:=s;refine x_call I.kIn c (λh' e t y P=>?_) (by rw[sizeLine_eq,m8,bBS];lia);obtain⟨T,G,-,-⟩:=t.there;have o:H e=none:=I.hok.fresh (by rw[y];exact bCR _);have i:Inv X j σ (upd H e (XO e C none)) ⟨h',g,d,m,x⟩:=I.laid (a:=e) (h':=h') (t':=m) t.keeps (by rw[y];exact bCR _) (XO.ok G rfl rfl);have p:aCk X.K fI [.ref e,.non] (upd H e (XO e C none)) (λv D=>v=.non/\Q (.ref e) D) E0:=by refine⟨e,C,rfl,aF,c,λdx n l=>⟨rfl,?_⟩⟩;rw[aK l] at n;have q:=h e dx o n l;rw[aTf (Ne.symm l),aOs];exact q
 have B:Vals [V.ref e,V.non] [Value.ref e,u]:=.cons rfl (.cons r .nil);have E:([Value.ref e,u]++[]).length=ps.length:=by have q:=F.len _ _ _ _ p;rw[bBB];exact q
 have f:=S ⟨h',g,d,m,x⟩ [Value.ref e,u] i.kIn E;rw[bBB] at f;refine bDJ (bCN (F.run _ X.stack _ _ ⟨[Value.ref e,u],[]⟩ [Value.ref e,u] _ _ E0 (R.make C [u] []) (i.env0.make C [u] []) f B p) λr J b=>?_);cases r with
 |error v=>exact W j σ _ _ v J i b
 |ok fl=>
  cases fl with
  |ret w=>obtain⟨v,z,M,N,O,L⟩:=i.after b;subst O;exact⟨N,⟨V.ref e,z,M,rfl,L⟩⟩
  |next=>exact False.elim b
  |brk=>exact False.elim b
  |cont=>exact False.elim b
def aU4 (c:XC X.K C fI)(F:gK X.prog X.w X.K X.mg X.base CX k fI fd ps (aCk X.K fI))(U:Room (k+1) X.A)(hb:Binds X.K fd ps [])(hx:lM CX X E0)(Z:Raises X E)(hc:X.calm=true)(Y:PySem.W.keepIn X.K (.ref C)=true)
  (hg:Gl X x) (hm:X.mg x=some (.ref C)) (V:PA X [a] t) (O:(x == ("__debug__":Str))=false:=by decide) (he:starEach [a] X.env=(false,eval a X.env)::starEach [] X.env:=by rfl) :
  PS X (.Raise (some (.Call (.Name x np) [a] [] cpos)) none pos) (aT3 C E t):=by
 intro f s σ H D I h;rw[arm_exec_Raise];refine b7 (bEC (aK5 c (I.ok.hd hc) ?_));refine b7 (bAX (Q:=EP X f σ λv l=>∃e b g,v=.ref e/\l=upd g e (XO e C (some b))/\g e=none/\g b=some xdA/\E (.ref C) (some e) g) (E:=X.xe) ?_ (λv m ⟨y,l,j,P,e,b,g,N,L,n,G,q⟩=>?_) λ_ _ z=>z)
 ·refine bBK (oM I hg hm ?_ O);refine PySem.W.callWith_K (h₀:=X.base) I.ok.mod.kin Y (thn (V cpos f s σ H _ I h) λT m ⟨B,J,o,r,S,q⟩=>⟨o.kIn,?_⟩) he rfl;subst S;cases r with
  |cons r0 r1=>cases r1;exact aZa c F U hb hx o r0 λe b u R p=>⟨e,b,upd J b xdA,rfl,rfl,by rw[aK (Ne.symm p)];exact u,aF,q e b u R p⟩
 ·subst N L;obtain rfl:=P;refine b7 (bEC (d7 ?_));obtain⟨B,i,hz,M⟩:=XO.at (d:=some b) j.hok aF;exact⟨e,_,B,rfl,j.kIn,i,M,Z f σ g m e C b j n G q⟩
end
section
variable {X:Cx}{bF8:bF6}{σ:St}{H:Hp}{s:Shared}{M:Model}{A:Around}{E:bF5}{i:Nat}{n:Str}{pos:Pos}{Q:Unit->Shared->Prop}
end
def aBm (X:Cx)(bF8:bF6)(σ₀:St)(E:XK):Cx:={ X with pn:=X.pn++bF8,xe:=λv s'=>∃e T dx C H₁,v=.ref e/\Inv X bF8 σ₀ (up2 H₁ e T C dx) s'/\H₁ e=none/\H₁ T=none/\T≠e/\H₁ dx=some xdA/\E (.ref C) (some e) H₁ }
def aCr (X:Cx)(e:Addr):Cx:={ X with A:=X.A.mark (some (.ref e)),calm:=false,xe:=λ_ _=>False }
section
variable {X:Cx}{bF8:bF6}{σ σ₀:St}{H:Hp}{s:Shared}{E:XK}{e:Addr}
def bAy (a:X.Ok):(aBm X bF8 σ₀ E).Ok:=⟨a.mod,a.kind,a.glob,a.blt,a.above,a.inj,a.has,a.cab,a.hd,a.frames,a.stk,a.exf,a.bs,a.bsz,a.noex,a.exfs,a.funs,a.frf⟩
def aXi (a:X.Ok):(aCr X e).Ok:=⟨a.mod,a.kind,a.glob,a.blt,a.above,a.inj,a.has,a.cab,(λz=>nomatch z),a.frames,a.stk,a.exf,a.bs,a.bsz,a.noex,a.exfs,a.funs,a.frf⟩
def Inv.bDn (I:Inv X bF8 σ H s):Inv (aBm X bF8 σ₀ E) [] σ H s:=⟨bAy I.ok,I.os,I.bare,I.base,I.loc,I.cell,I.free,I.freeC,λp a=>I.pin p (by rw[bBB] at a;exact a),I.hok,I.len⟩
def Inv.aIy (b:X.Ok)(I:Inv (aBm X bF8 σ₀ E) pins' σ H s):Inv X bF8 σ H s:=⟨b,I.os,I.bare,I.base,I.loc,I.cell,I.free,I.freeC,λp a=>I.pin p (bBQ _ a),I.hok,I.len⟩
def Inv.aVm (I:Inv X bF8 σ H s):Inv (aCr X e) bF8 σ H s:=⟨aXi I.ok,I.os,I.bare,I.base,I.loc,I.cell,I.free,I.freeC,I.pin,I.hok,I.len⟩
def Inv.aGa (a:X.Ok)(I:Inv (aCr X e) bF8 σ H s):Inv X bF8 σ H s:=⟨a,I.os,I.bare,I.base,I.loc,I.cell,I.free,I.freeC,I.pin,I.hok,I.len⟩
end
section
variable {X:Cx}{bF8₀:bF6}{σ₀:St}{k:Nat}{f:Addr}{fd:FuncData}{ps:List Str}{sp:Sp}{dvs:List V}{ds:List Value}{E:XK}{x:Str}{p pos:Pos}{e:Expr}{es:List Expr}{t:TA}
end
structure XS (K:bF4)(S:Addr):Prop where
 ty:PySem.W.typeIn K (.ref S)=some (.type "type")
 cls:(PySem.W.clsIn K S).isSome=true
 base:PySem.W.mroIn K S (.type "BaseException")=some true
def aRj {M:Model}{A:Around}{E:bF5}{s:Shared}{K:bF4}{S C e:Addr}{oe:Obj}{Q:Bool->Shared->Prop}(X:K.In s.heap)(b:XS K S)(v:s.heap.get? e=some oe)(r:oe.cls=.ref C)(u:PySem.W.mroIn K C (.ref S)=some true)
  (o:Q true s):wpAny M A (excMatches (.ref e) (.ref S)) Q E s:=by
 obtain⟨h,g,d,t,p⟩:=s;have T:PySem.W.Looks M h (typeOf (.ref S)) (.type "type"):=PySem.W.looks_typeIn X b.ty;have m:PySem.W.Looks M h (isInstance (.ref S) (.type "tuple")) false:=T.andThen (PySem.W.Looks.of_pure tc_notTuple);have j:PySem.W.Looks M h (isType (.ref S)) true:=by
  obtain⟨n,q⟩:=Option.isSome_iff_exists.mp b.cls;unfold PySem.W.clsIn at q
  split at q
  ·rename_i i;exact (PySem.W.Looks.ld (X _ _ i)).andThen .now
  ·cases q
 have f:PySem.W.Looks M h (typeOf (.ref e)) (.ref C):=r ▸ (PySem.W.Looks.ld v).andThen .now;have l:=PySem.W.looks_mroIn (M:=M) X b.base;have c:=PySem.W.looks_mroIn (M:=M) X u;have k:PySem.W.Looks M h (isExcClass (.ref S)) true:=j.andThen l;unfold excMatches;refine b7 (m.at ?_);rw[if_neg (by decide)];refine b7 (d7 (a:=[Value.ref S]) ?_);simp only[bDO,bFS];refine b7 (b7 (b7 (k.at ?_)));simp only[Bool.not_true,bAU,if_false];refine d7 (d7 (b7 (f.at (b7 (b7 (b7 (c.at ?_)))))));simp only[if_true];exact d7 (d7 (d7 o))
section
variable {X:Cx}{S:Addr}{i:Nat}{x n:Str}{np hpos pos:Pos}{body suite:List Stmt}{b₀:Stmt}{tb:St->XK->TS}{th:TS}
end
section
variable {X:Cx}{o:Expr}{pos:Pos}{ta:TE}
end
section
variable {P:Program}{w:World}{K:bF4}{mg:bF7}{base:Heap}
structure ExT (K:bF4)(mg:bF7)(st:Stmt)(x y:Str)(C S:Addr):Prop where
 at_:∃fI fd,XC K C fI/\Fun K "__init__" y st fI fd/\Binds K fd ["self","act"] []
 mg:mg x=some (.ref C)
 kp:PySem.W.keepIn K (.ref C)=true
 cls:XS K C
 over:PySem.W.mroIn K C (.ref S)=some true
def aWs {k:Nat}{y:Str}{st:Stmt}{fI:Addr}{fd:FuncData}(F:Fun K "__init__" y st fI fd)(m:aG ["self","act"] ["self","act"] (aC st))
  (l:∀(X:Cx),X.N=(["self","act"]:List Str)->X.env.scope=aC st->X.mg=mg->VSs X (cY st) (aDy (aJp (tVI X.K fI (dH (rR 0) (dH (rR 1) aAq)))) (aUa X.K fI (rR 0) (rR 1)))) :
  gK P w K mg base CX0 (k+1) fI fd ["self","act"] (aCk K fI):=by
 refine F.okV m (λg H Q E ⟨e,C,z,_⟩=>by rw[z];rfl) λf A a s H g Q E j ⟨e,C,i,b,c,q⟩=>⟨_,l _ rfl rfl rfl,?_⟩;subst i;refine⟨_,rfl,_,rfl,e,C,.non,rfl,b,c,?_⟩;exact⟨_,rfl,_,rfl,e,C,rfl,rfl,b,c,λd n h=>q d n h⟩
end
section
variable {X:Cx}{k j:Nat}{C S:Addr}{E:XK}{x y:Str}{np cpos pos:Pos}{a:Expr}{t:TA}{st:Stmt}
def aVz (i:ExT X.K X.mg st x y C S)(f:∀fI fd,Fun X.K "__init__" y st fI fd->gK X.prog X.w X.K X.mg X.base CX0 k fI fd ["self","act"] (aCk X.K fI))(g:Room (k+1) X.A)(j:Raises X E)(n:X.calm=true)
  (l:Gl X x) (h:VA X [a] t) (d:(x == ("__debug__":Str))=false:=by decide) (e:cL a=true:=by rfl) :
  VS X (.Raise (some (.Call (.Name x np) [a] [] cpos)) none pos) (aT3 C E t):=by
 obtain⟨⟨fI,fd,c,F,B⟩,m,b,_,_⟩:=i;exact⟨aU4 c (f fI fd F) g B aCb j n b l m h.1 d (aM e)⟩
end
section
variable {P:Program}{w:World}{K:bF4}{mg:bF7}{base:Heap}
def aGw (P:Program)(w:World)(K:bF4)(mg:bF7)(base:Heap)(C:Addr)(k:Nat)(m:Str)(ps:List Str)(sp:Sp):Prop:=
 ∃f fd,Cls K C/\Meth K C m f/\Binds K fd ps []/\gK P w K mg base (CXR P w) k f fd ps sp
theorem aGw.mono (h:aGw P w K mg base C j m ps sp)(g:j<=k):aGw P w K mg base C k m ps sp:=by obtain⟨f,e,c,a,b,d⟩:=h;exact⟨f,e,c,a,b,d.mono g⟩
def aGw.ofV {C:Addr}{m qual:Str}{st:Stmt}{N ps:List Str}{k:Nat}{sp:Sp}(c:Cls K C)(D:dZ K C m qual st ps)(S:aG N ps (aC st))(i:∀vs H Q E,sp vs H Q E->vs.length=ps.length)
  (b:∀(f:Addr) (cdv:Value) (A:Around) (outer:List Env) (s:Shared) (H:Hp) (vs:List V) (Q:VK) (E:XK),Room k (A.deeper (envOfC qual (aC st) s.heap.objs.size f cdv))->sp vs H Q E ->
   ∃t,VSs (wY (CXR P w) P w K mg base N qual (aC st) f cdv A outer s H E) (cY st) t/\t { nx:=λ_ H'=>Q .non H',rt:=Q } (start N vs) H):aGw P w K mg base C (k+1) m ps sp:=by
 obtain⟨f,u,j,F,B⟩:=D;obtain⟨n,q,kV,g,p,r,cdv,o,l,rfl,h,d⟩:=F.ex;exact⟨f,_,c,j,B,aUn h d S i λA outer s H vs Q E e a=>let ⟨t,h1,h2⟩:=b f cdv A outer s H vs Q E e a;⟨t,h1.1,h2⟩⟩
end
def aX7 (σ₀:St)(C:Addr)(m:Str)(sp:Sp)(E:XK)(ta:TE)(t:TA):TE:=fun σ H Q=>σ=σ₀/\ta σ H λx H1=>∃a dx fs,x=.ref a/\H1 a=some (.ins C dx fs)/\fs.lookup m=none/\t σ H1 λvs H2=>sp (x::vs) H2 Q E
section
variable {X:Cx}{bF8₀:bF6}{σ₀:St}{k:Nat}{C:Addr}{ps:List Str}{sp:Sp}{E:XK}{m:Str}{apos pos:Pos}{o e:Expr}{es:List Expr}{ta:TE}{t:TA}
theorem aQj (ok:X.Ok)(G:aGw X.prog X.w X.K X.mg X.base C k m ps sp)(hr:Room k X.A)(he:VE (aBm X bF8₀ σ₀ E) o ta)(ha:VA (aBm X bF8₀ σ₀ E) (e::es) t)
  (hp:cL e=true:=by rfl) (a0:(backTo pos (starEach es X.env)).any (·.1)=false:=by rfl)
  (ht:eval (.Call (.Attribute o m apos) (e::es) [] pos) X.env=(do
   let ov <-eval o X.env
   standAt apos.atName
   let (f,first) <-holding [ov] (getMethod ov m pl)
   callWith pos f first (backTo pos (starEach (e::es) X.env)) (backToKw pos (keywordEach [] X.env))):=by rfl):VE (aBm X bF8₀ σ₀ E) (.Call (.Attribute o m apos) (e::es) [] pos) (aX7 σ₀ C m sp E ta t):=by
 obtain⟨f,fd,c,P,hb,F⟩:=G;refine⟨?_⟩;rintro bF8 s σ H Q I ⟨rfl,h⟩;refine PySem.W.methodCall_KW (thn (he.1 bF8 s σ H _ I h) λu U ⟨x,H1,L,V,a,M,fs,ex,ea,l,q⟩=>?_) ht;subst ex;obtain rfl:u=Value.ref a:=V;refine uK L ea c P l ?_;refine PySem.W.callWith_K I.ok.mod.kin P.kp (thn (ha.1 pos bF8 U σ H1 _ L q) λd O ⟨R,Z,p,r,J⟩=>⟨p.kIn,?_⟩) (aM hp) a0;have N:Vals (.ref a::R) (.ref a::d):=.cons rfl r;have hl:(Value.ref a::d).length=ps.length:=by rw[<-N.length];exact F.len _ _ _ _ J
 have j:=hb O (Value.ref a::d) p.kIn (by rw[bBB];exact hl);rw[bBB] at j;refine bDJ (bCN (F.run X.A X.stack O Z ⟨.ref a::d,[]⟩ (.ref a::d) (.ref a::R) Q E hr p.env0 j N J) λr s' g=>?_);cases r with
 |error v=>obtain⟨a,T,M,C,H₁,rfl,Y,i,n,nT,B,D,S,y,q'⟩:=g;exact⟨a,T,M,C,H₁,rfl,(Inv.aIy ok p).call' (s':=s') Y S y i (λb z=>absurd z (by simp)),n,nT,B,D,q'⟩
 |ok fl=>
  cases fl with
  |ret u=>exact p.after g
  |next=>exact False.elim g
  |brk=>exact False.elim g
  |cont=>exact False.elim g
end
def exN (K:bF4)(S:Addr)(th:TS)(D:Ends)(σ:St):XK:=λv o H₁=>∃C e fI,v=.ref C/\o=some e/\XC K C fI/\PySem.W.mroIn K C (.ref S)=some true /\
 ∀T dx,H₁ e=none->H₁ T=none->T≠e->H₁ dx=some xdA->th D σ (up2 H₁ e T C dx)
def bEo (K:bF4)(S:Addr)(tb:St->XK->TS)(th:TS):TS:=λD σ H=>tb σ (exN K S th D σ) D σ H
section
variable {X:Cx}{S:Addr}{x:Str}{np hpos pos:Pos}{body suite:List Stmt}{b₀:Stmt}{tb:St->XK->TS}{th:TS}
def aY6 (N:X.stack=X.env::X.outer)(G:X.env.frame=some X.env.locals)
  (hg:Gl X x) (hm:X.mg x=some (.ref S)) (hS:XS X.K S) (hb:∀bF8 σ₀ E,X.Ok->VSs (aBm X bF8 σ₀ E) body (tb σ₀ E)) (hh:∀e,VSs (aCr X e) (b₀::suite) th) (Z:(x == ("__debug__":Str))=false:=by decide) :
  VS X (.Try body [.ExceptHandler (some (.Name x np)) none (b₀::suite) hpos] [] [] pos) (bEo X.K S tb th):=⟨by
 intro bF8 s σ H D I h;refine wpAny_Try_except (bAX ((hb bF8 σ (exN X.K S th D σ) I.ok).1 [] s σ H D I.bDn h) (λf M j=>?_) λv M j=>?_)
 ·cases f with
  |next=>obtain⟨d,a,b,q⟩:=j;exact bFL ⟨d,a,Inv.aIy I.ok b,q⟩
  |brk=>obtain⟨d,a,b,q⟩:=j;exact⟨d,a,Inv.aIy I.ok b,q⟩
  |cont=>obtain⟨d,a,b,q⟩:=j;exact⟨d,a,Inv.aIy I.ok b,q⟩
  |ret u=>obtain⟨v,d,a,b,r,q⟩:=j;exact⟨v,d,a,Inv.aIy I.ok b,r,q⟩
 ·obtain⟨e,T,k,C,F,rfl,L,J,Q,p,hd,C',e',fI,P,W,c,y,q⟩:=j;cases P;cases W;refine aRh L N G J Q p λl V t B g=>uF t g λO n=>?_;have o:Inv (aCr X e) bF8 σ (up2 F e l C k) O:=n.aVm;refine wpAny_handleBy_cons (codeAny_handlers_test ?_) (by intro q;cases q);refine oM o hg hm ?_ Z;have U:up2 F e l C k e=some (aMk e l C k):=aF;obtain⟨vs,A,hz,R⟩:=(n.hok e _ U).1;refine aRj n.kIn hS A rfl y ?_;rw[if_pos rfl];refine codeAny_handlers_suite ?_;refine uF n g λw Y=>?_;refine bAX ((hh e).1 bF8 w _ _ _ Y.aVm (q l k J B g hd)) (λf s4 m=>?_) λ_ _ z=>z.elim;cases f with
  |next=>obtain⟨d,a,b,i⟩:=m;exact⟨d,a,Inv.aGa I.ok b,i⟩
  |brk=>obtain⟨d,a,b,i⟩:=m;exact⟨d,a,Inv.aGa I.ok b,i⟩
  |cont=>obtain⟨d,a,b,i⟩:=m;exact⟨d,a,Inv.aGa I.ok b,i⟩
  |ret u=>obtain⟨v,d,a,b,r,i⟩:=m;exact⟨v,d,a,Inv.aGa I.ok b,r,i⟩⟩
end
end L2
namespace PySem
def Ris (xs:Array Nat):Prop:=∀a b (ha:a<xs.size) (hb:b<xs.size),a<b->xs[a]<xs[b]
theorem aBs (c:Ris xs):∀fuel lo hi,hi - lo<=fuel->lo<=hi->hi<=xs.size->(∀k h,k<lo->xs[k]<j)->(∀k h,hi<=k->j<=xs[k]) ->
  SetTable.below.go xs j fuel lo hi<=xs.size/\(∀k (h:k<xs.size),k<SetTable.below.go xs j fuel lo hi->xs[k]<j)/\∀k (h:k<xs.size),SetTable.below.go xs j fuel lo hi<=k->j<=xs[k]
 |0,lo,hi,hf,h1,h2,h3,h4=>by
  have e:lo=hi:=by lia
  subst e;exact⟨h2,h3,h4⟩
 |fuel+1,lo,hi,hf,h1,h2,h3,h4=>by
  unfold SetTable.below.go
  split
  ·rename_i g;have m:(lo+hi) / 2<hi:=by lia
   have l:lo<=(lo+hi) / 2:=by lia
   have a:(lo+hi) / 2<xs.size:=by lia
   dsimp only;rw[v6,j7 a,bBN]
   split
   ·rename_i b;refine aBs c fuel _ _ (by lia) (by lia) h2 (λk d f=>?_) h4;by_cases e:k=(lo+hi) / 2
    ·subst e;exact b
    ·exact bEV (c k _ d a (by lia)) b
   ·rename_i b;refine aBs c fuel _ _ (by lia) (by lia) (by lia) h3 λk d i=>?_;by_cases e:k=(lo+hi) / 2
    ·subst e;lia
    ·exact bAE (Nat.le_of_not_lt b) (bDI (c _ k a d (by lia)))
  ·have e:lo=hi:=by lia
   subst e;exact⟨h2,h3,h4⟩
def mX (c:Ris xs)(j:Nat):SetTable.below xs j<=xs.size/\(∀k h,k<SetTable.below xs j->xs[k]<j)/\∀k h,SetTable.below xs j<=k->j<=xs[k]:=
 aBs c xs.size 0 xs.size (by lia) (bAC _) (d8 _) (λk _ h=>absurd h (bCX _)) (λk a b=>absurd a (by lia))
def lV {α:Type}(xs:Array α)(p:Nat)(x:α)(hp:p<=xs.size):(SetTable.insertAt xs p x).toList=xs.toList.take p++x::xs.toList.drop p:=by unfold SetTable.insertAt;rw[bDA,bF1,Array.toList_extract,Array.toList_extract];simp only[List.extract_eq_drop_take,List.drop_zero,Nat.sub_zero,bCY,List.singleton_append];have e:(xs.toList.drop p).take (xs.size - p)=xs.toList.drop p:=bAW (by rw[bBT,v4];exact d8 _);rw[e]
def aBe {xs:Array Nat}:Ris xs↔xs.toList.Pairwise (·<·):=by
 rw[List.pairwise_iff_getElem];unfold Ris;constructor
 ·intro h i j k f d;exact h i j (by simpa using k) (by simpa using f) d
 ·intro h a b e g c;exact h a b (by simpa using e) (by simpa using g) c
def uJ {xs:Array Nat}{j:Nat}(n:Ris xs)(s:xs[SetTable.below xs j]?≠some j):Ris (SetTable.insertAt xs (SetTable.below xs j) j):=by
 obtain⟨p,q,m⟩:=mX n j;rw[aBe,lV _ _ _ p,List.pairwise_append,List.pairwise_cons];have l:=aBe.mp n;have below:∀a∈xs.toList.take (SetTable.below xs j),a<j:=λa d=>by
  obtain⟨i,f,rfl⟩:=bBA d;rw[List.getElem_take];rw[bAI] at f;have g:i<xs.toList.length:=by lia
  exact q i (by simpa using g) (by lia)
 have c:∀a∈xs.toList.drop (SetTable.below xs j),j<a:=λa d=>by
  obtain⟨i,f,rfl⟩:=bBA d;rw[List.getElem_drop];rw[bBT] at f;have e:SetTable.below xs j+i<xs.toList.length:=by lia
  have k:SetTable.below xs j+i<xs.size:=by simpa using e
  have o:=m _ k (bDF _ _);rw[Array.getElem_toList];rcases bFU o with h|h
  ·exact h
  ·exfalso;cases i with
   |zero=>exact s ((j7 k).trans (congrArg some h.symm))
   |succ i=>
    have hb:SetTable.below xs j<xs.size:=by lia
    have r:=m _ hb (d8 _);have t:=n _ _ hb k (by lia);lia
 refine⟨l.sublist (List.take_sublist _ _),⟨c,l.sublist (List.drop_sublist _ _)⟩,λa d b hb=>?_⟩;rcases List.mem_cons.mp hb with rfl|hb
 ·exact below a d
 ·exact bEV (below a d) (c b hb)
def aMa {t:SetTable}{j:Nat}(h:t.slot j=.empty):t.place[SetTable.below t.place j]?≠some j:=by unfold SetTable.slot at h;intro e;simp[e] at h
def aG1 {t:SetTable}(hd:t.dummies=#[])(j:Nat):t.slot j≠.dummy:=by
 unfold SetTable.slot;rw[hd];dsimp only
 split
 ·intro z;cases z
 ·have:SetTable.has #[] j=false:=by unfold SetTable.has;simp
  rw[this];intro z;cases z
theorem aJt {t:SetTable}{g:Nat->Int}{h:Int}(hd:t.dummies=#[]):∀(fuel:Nat) (p:SetTable.Probe) (j:Nat) (dm:Option Nat),p.dummy=none->SetTable.probe.go t g h fuel p=some (.empty j dm)->dm=none/\t.slot j=.empty
 |0,p,j,dm,_,e=>by cases e
 |fuel+1,p,j,dm,hp,e=>by
  unfold SetTable.probe.go at e;have a:∀q:SetTable.Probe,q.dummy=none->(t.advance q).dummy=none:=λq c=>by
   unfold SetTable.advance
   split
   ·exact c
   ·exact c
  split at e
  ·rename_i b;cases e;exact⟨hp,b⟩
  ·rename_i b;exact absurd b (aG1 hd _)
  ·split at e
   ·cases e
   ·exact aJt hd fuel _ j dm (a p hp) e
def aJu {t:SetTable}{h:Int}{j:Nat}{b:Bool}(hd:t.dummies=#[])(e:t.freeSlot h=some (j,b)):t.place[SetTable.below t.place j]?≠some j:=by
 unfold SetTable.freeSlot at e
 split at e
 ·rename_i d f a;unfold SetTable.probe at a;obtain⟨rfl,c⟩:=aJt hd _ _ _ _ rfl a;cases e;exact aMa c
 ·cases e
def TabOk (b:Bool)(t:SetTable):Prop:=(b=false->t.led=true)/\t.dummies=#[]/\7<=t.mask/\(t.plain=true->Ris t.place)
def TabOk.stand {b:Bool}{t:SetTable}{n:Nat}(h:TabOk b t)(hn:1<=n):TabOk b (t.standIn n):=⟨h.1,rfl,by show 7<=4 * n+4;lia,λz=>by cases z⟩
def TabOk.off (h:TabOk b t):TabOk b { t with plain:=false }:=⟨h.1,h.2.1,h.2.2.1,λz=>by cases z⟩
def TabOk.new {b:Bool}{t:SetTable}{es:Array (Int × Value)}{h:Int}{x:Value}(c:TabOk b t):TabOk b (layNew t es h x).2.1:=by
 unfold layNew
 split
 ·rename_i a g e;have f:=aJu c.2.1 e;dsimp only[SetTable.put];have d:(if SetTable.has t.dummies a=true then SetTable.eraseAt t.dummies (SetTable.below t.dummies a) else t.dummies)=#[]:=by
   rw[c.2.1];have:SetTable.has #[] a=false:=by unfold SetTable.has;simp
   rw[this];rfl
  rw[d];unfold SetTable.orStandIn
  split
  ·exact⟨c.1,rfl,c.2.2.1,λz=>uJ (c.2.2.2 z) f⟩
  ·refine TabOk.stand ⟨c.1,rfl,c.2.2.1,λz=>uJ (c.2.2.2 z) f⟩ ?_;unfold SetTable.insertAt;simp only[Array.size_append,Array.size_push,Array.size_extract];lia
 ·exact c.stand (Nat.succ_le_succ (bAC _))
def TabOk.room (c:TabOk b t)(a:t.fits n=true)(hn:n<=4):t.tooFull=false:=by unfold SetTable.fits at a;rw[bAS,beq_iff_eq] at a;unfold SetTable.tooFull SetTable.fill;rw[a.1,c.2.1];have:=c.2.2.1;simp only[Array.size_empty,Nat.add_zero,decide_eq_false_iff_not];lia
theorem lD {α β:Type}{R:α->β->Prop}{bs' bs:List β}(p:bs'.Perm bs):∀{as:List α},Paired R as bs->∃as',Paired R as' bs'/\as'.Perm as:=by
 induction p with
 |nil=>intro as h;exact⟨as,h,.refl _⟩
 |cons x _ ih=>
  intro as h;cases h with
  |cons r t=>obtain⟨as',a,b⟩:=ih t;exact⟨_,.cons r a,b.cons _⟩
 |swap x y l=>
  intro as h;cases h with
  |cons r t=>
   cases t with
   |cons r2 t2=>exact⟨_,.cons r2 (.cons r t2),.swap ..⟩
 |trans _ _ ih1 ih2=>intro as h;obtain⟨f,a,b⟩:=ih2 h;obtain⟨d,c,e⟩:=ih1 a;exact⟨d,c,e.trans b⟩
theorem pJ {α β:Type}{R:α->β->Prop}{as:List α}{bs:List β}{a:α}{b:β}(h:Paired R as bs)(r:R a b):Paired R (as++[a]) (bs++[b]):=by
 induction h with
 |nil=>exact .cons r .nil
 |cons q _ ih=>exact .cons q ih
theorem aAe {α β:Type}{R:α->β->Prop}{as:List α}{bs:List β}(h:Paired R as bs):∀a∈as,∃b∈bs,R a b:=by
 induction h with
 |nil=>intro a ha;cases ha
 |cons q _ ih=>
  intro a ha;rcases List.mem_cons.mp ha with rfl|ha
  ·exact⟨_,j0,q⟩
  ·obtain⟨b,c,r⟩:=ih a ha;exact⟨b,j5 _ c,r⟩
theorem lH {α β:Type}{R:α->β->Prop}{as:List α}{bs:List β}(h:Paired R as bs):∀b∈bs,∃a∈as,R a b:=by
 induction h with
 |nil=>intro a c;cases c
 |cons q _ ih=>
  intro b hb;rcases List.mem_cons.mp hb with rfl|hb
  ·exact⟨_,j0,q⟩
  ·obtain⟨a,c,r⟩:=ih b hb;exact⟨a,j5 _ c,r⟩
section
variable {prog:Program}{w:World}{κ:Type}[DecidableEq κ]{knd:KeyKind prog w κ}{A:Around}{E:bF5}{s:Shared}
def byT (w:World):Bool:=w.params.followText "set-order"
abbrev ElK (knd:KeyKind prog w κ):κ->Int × Value->Prop:=λk e=>knd.is k e.2=true/\e.1=knd.hash k/\e.2.scannable=true
def wF (knd:KeyKind prog w κ)(h:Heap)(D:Addr)(kl:List κ):Prop:=∃o es ep t,h.get? D=some o/\o.ExactSet/\o.data=.set es ep t/\t.fits es.size=true/\TabOk (byT w) t/\Paired (ElK knd) kl es.toList
def wF.at (x:wF knd h D kl)(e:∀o,h.get? D=some o->h'.get? D=some o):wF knd h' D kl:=by obtain⟨o,b,c,t,a,r⟩:=x;exact⟨o,b,c,t,e o a,r⟩
theorem aVl (J:knd.is k x=true)(u:x.scannable=true)(hS:wF knd s.heap D kl)(hroom:kl.length<4)
  (h:∀h' kl' b,Heap.SameBut D s.heap h'->wF knd h' D kl'->kl'.Perm (if k∈kl then kl else kl++[k])->Q b { s with heap:=h' }):wpAny (model prog w) A (setAddHashed D x (knd.hash k)) Q E s:=by
 obtain⟨o,l,ep,t,B,G,hd,O,F,n⟩:=hS;have hn:kl.length=l.size:=by rw[Paired.length n,v4]
 have v:ElemsOf knd l.toList:=λe S=>by obtain⟨M,_,I,r2,r3⟩:=lH n e S;exact⟨⟨M,I,r2⟩,r3⟩
 have hb:l.size<scanBound:=by unfold scanBound;lia
 unfold setAddHashed setAddHashedIn;refine bAR (b7 (bBH B hd O ?_));dsimp only;rw[byScan_of u hb v];simp only[↓reduceIte];unfold setAddByScan;refine b7 (b7 (bDU (b7 (wpAny_setScan_of J B hd O v ?_))));cases Z:List.findIdx? (λe=>knd.is k e.2) l.toList with
 |some j=>
  dsimp only;obtain⟨hj,V,_⟩:=List.findIdx?_eq_some_iff_getElem.mp Z;obtain⟨M,P,I,_⟩:=lH n _ (bAT hj);have K:k∈kl:=by rw[knd.inj _ k M V I];exact P
  refine d7 (d7 ?_);have e:s={ s with heap:=s.heap }:=by cases s;rfl
  rw[e];exact h s.heap kl _ (Heap.SameBut.refl D s.heap) ⟨o,l,ep,t,B,G,hd,O,F,n⟩ (by rw[if_pos K])
 |none=>
  dsimp only;have H:k∉kl:=λz=>by obtain⟨e,S,I,_⟩:=aAe n k z;have:=List.findIdx?_eq_none_iff.mp Z e S;rw[I] at this;cases this
  have T:∀b {g:Shared} {U:Unit->Shared->Prop},U () g->wpAny (model prog w) A (match b with|true=>rule "set.scan.the-table-gave-way"|false=>pure ()) U E g:=λb g U Y=>match b with
   |true=>bDU Y
   |false=>d7 Y
  have a:=layNew_perm t l (knd.hash k) x;have c:=layNew_fits t l (knd.hash k) x;have f:TabOk (byT w) (layNew t l (knd.hash k) x).2.1:=F.new;generalize hL:layNew t l (knd.hash k) x=L at a c f ⊢;obtain⟨d,X,p,a0⟩:=L;dsimp only at a c f ⊢;rw[bF1] at a;obtain⟨kl',N,pm⟩:=lD a (pJ n (show ElK knd k (knd.hash k,x) from ⟨J,rfl,u⟩));have a1:d.size=l.size+1:=by rw[<-v4,a.length_eq,w6,v4];rfl
  refine b7 (T _ ?_);have C:∀i:SetTable,TabOk (byT w) i->i.fits d.size=true->∀(R:Option Bool->Shared->Prop),(∀h',Heap.SameBut D s.heap h'->wF knd h' D kl'->R (some true) { s with heap:=h' }) ->
    wpAny (model prog w) A (storeSet D d i) (λ_ g=>i.tooFull=false/\R (some true) g) E s:=λi h2 f2 R hR=>by
   refine bF2 B hd ⟨h2.room f2 (by lia),?_⟩ (fits_of_scanBound (by unfold scanBound;lia));have hg:=bAO (Obj.putSet d i) B (by rw[putSet_of d i hd];rfl);rw[putSet_of d i hd] at hg;exact hR _ (bAV s.heap D (Obj.putSet d i)) ⟨_,d,ep+1,i,hg,G,rfl,f2,h2,N⟩
  have m:∀h',Heap.SameBut D s.heap h'->wF knd h' D kl'->Q true { s with heap:=h' }:=λh' y q=>h h' kl' true y q (by rw[if_neg H];exact pm)
  split
  ·refine b7 ?_;rw[hashByValue_scannable 8 u];refine d7 ?_;refine b7 (bAX (C (if plainKind x=true then X else { X with plain:=false }) (by split;exact f;exact f.off) (by split;exact c;exact SetTable.fits_plain_off c) (λr g=>wpAny (model prog w) A (match r with|some b=>pure b|none=>unsupported "x") Q E g) λh' y q=>d7 (m h' y q)) (λ_ g ⟨W,q⟩=>?_) λ_ _ z=>z);rw[W];simp only[bFV,bAU,↓reduceIte];exact d7 q
  ·refine b7 (d7 ?_);simp only[↓reduceIte];refine b7 (bAX (C X f c (λr g=>wpAny (model prog w) A (match r with|some b=>pure b|none=>unsupported "x") Q E g) λh' y q=>d7 (m h' y q)) (λ_ g ⟨W,q⟩=>?_) λ_ _ z=>z);rw[W];simp only[bFV,bAU,↓reduceIte];exact d7 q
def Ded (kl xs:List κ):Prop:=kl.Nodup/\(∀k,k∈kl↔k∈xs)/\kl.length<=xs.length
def Ded.more {l kl' xs:List κ}{k:κ}(h:Ded l xs)(p:kl'.Perm (if k∈l then l else l++[k])):Ded kl' (xs++[k]):=by
 obtain⟨f,d,i⟩:=h;by_cases c:k∈l
 ·rw[if_pos c] at p;refine⟨p.nodup_iff.mpr f,λy=>?_,by rw[p.length_eq,w6];lia⟩;rw[p.mem_iff,d,bFM,bEM];exact⟨.inl,λz=>z.elim id λe=>e ▸ (d k).mp c⟩
 ·rw[if_neg c] at p;refine⟨p.nodup_iff.mpr (List.nodup_append.mpr ⟨f,by simp,λa j b g e=>?_⟩),λy=>?_,by rw[p.length_eq,w6,w6];exact Nat.add_le_add_right i _⟩
  ·rw[bEM] at g;exact c (g ▸ e ▸ j)
  ·rw[p.mem_iff,bFM,bFM,d]
def aVk (d:h.get? D=some (cJ (!byT w))):wF knd h D []:=by refine⟨_,#[],0,_,d,⟨rfl,rfl,rfl⟩,rfl,rfl,⟨λe=>?_,rfl,d8 _,λ_=>λa b c=>absurd c (by show ¬ (a<0);lia)⟩,.nil⟩;rw[e];rfl
def aJl (a:Value)(h:Q₁ (.ref s.heap.objs.size) { s with heap:=s.heap.push (cJ (!byT w)) }):codeAny (model prog w) A (.call (.builtin "set.__new__") ⟨[.type "set",a],[]⟩) (wants Q₁ E) s:=by have b:=sub_set_self;refine codeAny_of_tree (show wpAny _ A.in1 (do checkBuiltinCall "set.__new__" ⟨[.type "set",a],[]⟩;again (.builtin "set.__new__" ⟨[.type "set",a],[]⟩)) _ _ s from b7 (bEQ (F.newCall_set_1 a) (d7 ⟨bCT F.plain_set_new _,bBR F.entry_set_new ?_⟩)));rw[bBI F.plain_set_new _];unfold Builtin.«set.__new__» Builtin.Frozenset.newClass;obtain⟨f,g,d,c,e⟩:=s;dsimp only;wp_walk;refine bDH (d7 ?_);dsimp only;simp only[newObj];exact b7 (wpAny_alloc (d7 (d7 h)))
def Ex (h0 h:Heap):Prop:=∀b o,h0.get? b=some o->h.get? b=some o
structure Kset (prog:Program)(w:World)(κ:Type)[DecidableEq κ](A:Around)(h0:Heap)(D:Addr)(S:Heap->List κ->Prop)(V:κ->Value->Prop)(m:Nat):Prop where
 at_:∀{h h':Heap} {kl:List κ},S h kl->(∀o,h.get? D=some o->h'.get? D=some o)->S h' kl
 add:∀{A':Around} {E:bF5} {s:Shared} {kl:List κ} {k:κ} {v:Value} {Q:Bool->Shared->Prop},A'.units<=A.units+9->Ex h0 s.heap->V k v->S s.heap kl->kl.length<m->(∀h' tk kl' b,Heap.SameBut D s.heap h'->S h' kl'->kl'.Perm (if k∈kl then kl else kl++[k])->Q b { s with heap:=h',toks:=tk })->wpAny (model prog w) A' (setAdd D v) Q E s
 new:∀{h:Heap},h.get? D=some (cJ (!byT w))->S h []
variable {S:Heap->List κ->Prop}{V:κ->Value->Prop}{m:Nat}{h0:Heap}{A0:Around}
theorem aRy (W:Walks prog w A.in1 I fp wr n P St)(hD:D∉fp)(Z:Kset prog w κ A0 h0 D S V m)(hA:A.units+1<=A0.units+9)(H:∀b∈D::wr,h0.get? b=none)
  (ks:List κ) (Y:ks.length=n) (F:∀i v,P i v->∃k,ks[i]?=some k/\V k v) (L:n<=m) :
  ∀k i s kl,i+k=n->St i s.heap->Ex h0 s.heap->S s.heap kl->Ded kl (ks.take i) ->
   (∀h' tk kl',(∀b o,b∉D::wr->s.heap.get? b=some o->h'.get? b=some o)->S h' kl'->Ded kl' ks->R (.ok (.ret .none)) { s with heap:=h',toks:=tk }) ->
   codeAny (model prog w) A (.builtin "set.update.loop" ⟨[.ref D,.ref I],[]⟩) R s:=by
 have g:D∉wr:=λq=>hD (W.sub _ q);have d:∀{b:Addr} {o:Obj},h0.get? b=some o->b∉D::wr:=λe z=>by rw[H _ z] at e;cases e
 intro k
 induction k with
 |zero=>
  intro i s kl O p E B f q;obtain rfl:i=n:=by lia
  refine bBR bEB ?_;rw[bBI bCQ _];refine b7 (W.done s _ _ p λh' tk l=>?_);rw[bAW (Nat.le_of_eq Y)] at f;exact d7 (q h' tk kl (λb o a e=>l b o (λz=>a (j5 _ z)) e) (Z.at_ B λo e=>l D o g e) f)
 |succ k ih=>
  intro i s kl O p E B f q;refine bBR bEB ?_;rw[bBI bCQ _];refine b7 (W.item i s _ _ (by lia) p λv X Q T r c=>?_);obtain⟨U,M,y⟩:=F i v T;have u:Ex h0 X:=λb o e=>c b o (λz=>d e (j5 _ z)) (E b o e);show wpAny _ A.in1 (holding [v] (setAdd D v) >>= _) _ _ _;refine b7 (bAR ?_);have lt:(ks.take i).length=i:=by rw[bAI];lia
  refine Z.add hA u y (Z.at_ B λo e=>c D o g e) (by have:=f.2.2;lia) λG J t b2 h C N=>?_;have K:ks.take (i+1)=ks.take i++[U]:=by rw[bBP,M];rfl
  have j:∀b o,b∉D::wr->s.heap.get? b=some o->G.get? b=some o:=λb o a e=>by rw[h.2 b (λz=>a (by rw[z];exact j0))];exact c b o (λz=>a (j5 _ z)) e
  refine d7 ⟨bCT bCQ _,ih (i+1) _ t (by lia) (W.frame _ _ _ r λb L o e=>?_) (λb o e=>j b o (d e) (E b o e)) C (by rw[K];exact f.more N) λh' tk kl' l x d'=>q h' tk kl' (λb o a e=>l b o a (j b o a e)) x d'⟩;rw[h.2 b (λz=>hD (by rw[<-z];exact L))];exact e
def aQv {A:Around}{R:Fin->Shared->Prop}{E:bF5}{s:Shared}{l:Addr}{its:Array Value}{ks:List κ}(K:A.handled=none)(Z:Kset prog w κ A0 s.heap s.heap.objs.size S V m)(U:A.units+1<=A0.units+9)(P:s.heap.IsList l its)(C:ks.length=its.size)
  (D:∀(i:Nat) (v:Value),its[i]?=some v->∃k,ks[i]?=some k/\V k v) (a:its.size<=m)
  (q:∀h' tk kl,S h' kl->Ded kl ks->(∀b o,b<s.heap.objs.size->s.heap.get? b=some o->h'.get? b=some o)->R (.done (.ret .none)) { s with heap:=h',toks:=tk }) :
  wpAny (model prog w) A (Builtin.«set.__init__» ⟨[.ref s.heap.objs.size,.ref l],[]⟩) R E { s with heap:=s.heap.push (cJ (!byT w)) }:=by
 obtain⟨⟨M,H,O,u⟩,d,h,B,g⟩:=id P;simp only at h g;subst h g;have G:(s.heap.push (cJ (!byT w))).get? s.heap.objs.size=some (cJ (!byT w)):=j8 _ rfl;have N:Shared.TypeIs { s with heap:=s.heap.push (cJ (!byT w)) } (.ref s.heap.objs.size) "set":=⟨_,G,rfl⟩;have c:(s.heap.push (cJ (!byT w))).get? l=some { cls:=.type "list",dict:=H,data:=.seq its B,slots:=u }:=c7 _ d;have W:=F.sub_list_set;have T:=F.sub_list_frozenset;have Q:(Value.type "list" == Value.type "dict")=false:=by decide
 have f:(s.heap.push (cJ (!byT w))).IsList l its:=⟨_,c,rfl,B,rfl⟩;have j:l<s.heap.objs.size:=j9 d;unfold Builtin.«set.__init__» noKeywords Builtin.Frozenset.updateFrom;generalize r:pyIter=PI;wp_walk;subst r;refine bCO f ?_;refine b7 (wpAny_runValue ?_);have p:(s.heap.push (cJ (!byT w))).objs.size=s.heap.objs.size+1:=bBL ..;have x:l≠(s.heap.push (cJ (!byT w))).objs.size:=by rw[p];exact v8 (bBU j)
 have y:s.heap.objs.size∉[(s.heap.push (cJ (!byT w))).objs.size,l]:=by rw[p];simp only[bAN,bAB,or_false,not_or];exact⟨v8 (bCU _),bCM j⟩
 have z:∀b,s.heap.objs.size<=b->s.heap.get? b=none:=λb a=>by
  cases e:s.heap.get? b with
  |none=>rfl
  |some o=>exact absurd (j9 e) (Nat.not_lt.mpr a)
 refine aRy (Walks.list (by first|exact K|simp[K]) _ l x its) y Z U (λb a=>?_) ks C D a its.size 0 _ [] (by lia) ⟨⟨_,j8 _ rfl,rfl,rfl⟩,f.push _⟩ (λb o e=>c7 _ (c7 _ e)) ?_ ⟨List.nodup_nil,λk=>by simp,bAC _⟩ λh' tk kl L t I=>?_
 ·rw[p] at a;simp only[bAN,bAB,or_false] at a;rcases a with rfl|rfl
  ·exact z _ (d8 _)
  ·exact z _ (bCR _)
 ·have J:((s.heap.push (cJ (!byT w))).push { cls:=.type "list_iterator",data:=.fields #[.ref l,.int 0 0] }).get? s.heap.objs.size=some (cJ (!byT w)):=c7 _ G;exact Z.new J
 ·refine d7 (d7 (q h' tk kl t I λb o n e=>L b o ?_ (c7 _ (c7 _ e))));rw[p];simp only[bAN,bAB,or_false,not_or];exact⟨v8 n,v8 (bBU n)⟩
def yR {l:Addr}{its:Array Value}{ks:List κ}{Q:bF5}(B:A.handled=none)(Z:Kset prog w κ A s.heap s.heap.objs.size S V m)(I:s.heap.IsList l its)(u:ks.length=its.size)
  (p:∀(i:Nat) (v:Value),its[i]?=some v->∃k,ks[i]?=some k/\V k v) (J:its.size<=m)
  (q:∀h' tk kl,S h' kl->Ded kl ks->(∀b o,b<s.heap.objs.size->s.heap.get? b=some o->h'.get? b=some o)->Q (.ref s.heap.objs.size) { s with heap:=h',toks:=tk }) :
  wpAny (model prog w) A (call (.type "set") [.ref l]) Q E s:=by
 have d:=F.called_set;obtain⟨c,K,j⟩:=d.mro;have H:=d.made;have D:=d.sub;have G:=d.notType;have C:=d.canCreate;have M:=F.typeCall_set_1 (.ref l);refine bDJ (codeAny_of_tree (show wpAny _ _ (callAny (.type "set") _) _ _ _ from d7 ⟨Code.quiet_builtin _ (by decide +kernel),bBR F.entry_type_call ?_⟩));rw[Around.under_plain (weight_type_call_type "set" [.ref l] []) (by rfl)]
 repeat (any_goals (first|assumption|wp_step))
 refine bCN (aJl (.ref l) (Q₁:=λobj n=>obj=.ref s.heap.objs.size/\n={ s with heap:=s.heap.push (cJ (!byT w)) }) (E:=E) ⟨rfl,rfl⟩) λr n f=>?_;rcases r with e|fl
 ·exact f
 rcases fl with _|_|_|obj
 ·exact f.elim
 ·exact f.elim
 ·exact f.elim
 obtain⟨rfl,rfl⟩:=f;have y:Shared.TypeIs { s with heap:=s.heap.push (cJ (!byT w)) } (.ref s.heap.objs.size) "set":=⟨_,j8 _ rfl,rfl⟩;have N:=d.init.lookup;have L:=d.init.bind (.ref s.heap.objs.size)
 repeat (any_goals (first|assumption|wp_step))
 refine bCN (bCZ (R:=wants (λr t=>r=.none/\∃h' tk kl,t={ s with heap:=h',toks:=tk }/\S h' kl/\Ded kl ks/\∀b o,b<s.heap.objs.size->s.heap.get? b=some o->h'.get? b=some o) E)
  d.init.plain F.entry_set_init (check_set_init_1 y (aQv (by first|exact B|simp[B]) Z (by simp only[Around.in1_units];lia) I u p J λh' tk kl x g h=>⟨rfl,h',tk,kl,rfl,x,g,h⟩))) λz t a=>?_
 rcases z with e|fl
 ·exact a
 rcases fl with _|_|_|v
 ·exact a.elim
 ·exact a.elim
 ·exact a.elim
 obtain⟨rfl,h',tk,kl,rfl,x,g,h⟩:=a
 repeat (any_goals (first|assumption|wp_step))
 exact q h' tk kl x g h
def bA4 (A:Around)(h0:Heap)(D:Addr):Kset prog w κ A h0 D (λh kl=>wF knd h D kl) (λk v=>knd.is k v=true/\v.scannable=true) 4:=⟨λx e=>x.at e,λ_ _ c g f q=>by unfold setAdd;exact bAR (b7 (knd.pyHash c.1 (aVl c.1 c.2 g f λj b l a d i=>q j _ b l a d i))),aVk⟩
def aR2 (e:A.handled=none)(f:s.heap.IsList l its)(a:ks.length=its.size)
  (c:∀(i:Nat) (v:Value),its[i]?=some v->∃k,ks[i]?=some k/\knd.is k v=true/\v.scannable=true) (d:its.size<=4)
  (q:∀h' tk kl,wF knd h' s.heap.objs.size kl->Ded kl ks->(∀b o,b<s.heap.objs.size->s.heap.get? b=some o->h'.get? b=some o)->Q (.ref s.heap.objs.size) { s with heap:=h',toks:=tk }) :
  wpAny (model prog w) A (call (.type "set") [.ref l]) Q E s:=yR e (bA4 A s.heap s.heap.objs.size) f a c d q
end
end PySem
namespace PySem
open PySem.Spec PyProof.Rows
section
variable {prog:Program}{w:World}
def TxS (prog:Program)(w:World)(h:Heap)(D:Addr)(kl:List Str):Prop:=h.SetOf (strKind prog w) D (λy=>decide (y∈kl)) kl.length
def TxS.at (x:TxS prog w h D kl)(e:∀o,h.get? D=some o->h'.get? D=some o):TxS prog w h' D kl:=by obtain⟨o,b,c,t,a,r⟩:=x;exact⟨o,b,c,t,e o a,r⟩
def bCt (A:Around)(h0:Heap)(D:Addr):Kset prog w Str A h0 D (λh kl=>TxS prog w h D kl) (λk v=>∃t,v=.str k t) 1000:=⟨λx e=>x.at e,λ{l E s kl k v Q} _ _ g c j q=>by
 obtain⟨t,rfl⟩:=g;unfold setAdd;refine bAR (b7 ((strKind prog w).pyHash (k:=k) (strKind_is _ _ _ _) ?_));refine wpAny_setAddHashed_of (knd:=strKind prog w) (strKind_is _ _ _ _) rfl c (by unfold scanBound;lia) λd b a=>q d _ (if k∈kl then kl else kl++[k]) _ b ?_ (.refl _);have f:(λy=>decide (y∈if k∈kl then kl else kl++[k]))=λy=>(decide (y∈kl) || decide (y=k)):=funext λy=>by
  by_cases z:k∈kl
  ·rw[if_pos z,bCG];simp only[Bool.or_eq_true,decide_eq_true_eq];exact⟨.inl,λh=>h.elim id λe=>e ▸ z⟩
  ·rw[if_neg z,bCG];simp only[Bool.or_eq_true,decide_eq_true_eq,bFM,bEM]
 show Heap.SetOf _ _ _ _ _;rw[f];by_cases z:k∈kl
 ·rw[if_pos (m9 z)] at a;rw[if_pos z];exact a
 ·rw[if_neg (by rw[v9 z];exact v5)] at a;rw[if_neg z,w6];exact a,λi=>(PyProof.Rows.setObjOf_fresh (knd:=strKind prog w) (!byT w)).setOf i (by decide)⟩
theorem aC4:∀(ss kl:List Str),kl.Nodup->(∀x∈kl,x∈ss)->kl.length<=ss.length/\(kl.length=ss.length->ss.Nodup)
 |[],kl,_,h=>by
  cases kl with
  |nil=>exact⟨d8 _,λ_=>List.nodup_nil⟩
  |cons a l=>exact absurd (h a j0) bAB
 |a::r,kl,nd,h=>by
  by_cases z:a∈kl
  ·have m:=List.length_erase_of_mem z;have f:∀x∈kl.erase a,x∈r:=λx b=>by obtain⟨c,j⟩:=(nd.mem_erase_iff).mp b;exact (List.mem_cons.mp (h x j)).resolve_left c
   obtain⟨k,d⟩:=aC4 r _ (nd.erase a) f;have i:=List.length_pos_of_mem z;refine⟨by rw[m8];lia,λe=>?_⟩;rw[m8] at e;refine List.nodup_cons.mpr ⟨λg=>?_,d (by lia)⟩;have:=(aC4 r kl nd λx b=>(List.mem_cons.mp (h x b)).elim (λe=>e ▸ g) id).1;lia
  ·have:=(aC4 r kl nd λx b=>(List.mem_cons.mp (h x b)).resolve_left λe=>z (e ▸ b)).1;exact⟨by rw[m8];lia,λe=>by rw[m8] at e;lia⟩
def aIg {c b:List Str}(d:Ded c b):c.length=b.length↔b.Nodup:=
 ⟨(aC4 b c d.1 λx a=>(d.2.1 x).mp a).2,λe=>Nat.le_antisymm d.2.2 (aC4 c b e λx a=>(d.2.1 x).mpr a).1⟩
end
end PySem
namespace L2
open PySem PySem.Spec PyProof.Rows
def aTa (P:Program)(w:World)(D:Addr)(kl:List Str):HO:=.ext λh=>TxS P w h D kl
section
variable {X:Cx}
def bBn (P:Program)(w:World)(K:bF4):List V->Hp->VK->Prop:=λxs H Q=>∃p ss,xs=[.ref p]/\SqL K H p (ss.map V.str)/\ss.length<=1000/\∀D kl,H D=none->Ded kl ss->Q (.ref D) (upd H D (aTa P w D kl))
def aNl (T:X.calm=true):cH X (.type "set") (bBn X.prog X.w X.K):=by
 intro A s σ H S M Q I r h;obtain⟨p,C,rfl,z,G,q⟩:=h;obtain⟨u,rfl,D⟩:=r.one;cases D;obtain⟨d,n,E,R⟩:=I.list z;have a:=n.length;rw[j6] at a;refine yR (I.ok.hd T) (bCt _ _ _) E.isList (by rw[d9];exact a) (λi v J=>?_) (by rw[d9,<-a];exact G) λf O g x B L=>?_
 ·have c:d[i]?=some v:=by simpa using J
  have l:i<C.length:=by rw[a];exact (List.getElem?_eq_some_iff.mp c).1
  obtain⟨u,m,t,rfl⟩:=n.get (by rw[v7,b8 l];rfl);rw[c] at m;cases m;exact⟨_,b8 l,t,rfl⟩
 ·have e:∃o,f.get? s.heap.objs.size=some o:=by obtain⟨o,_,_,_,F,_⟩:=x;exact⟨o,F⟩
  exact⟨.ref s.heap.objs.size,_,I.laid (o:=aTa X.prog X.w s.heap.objs.size g) (λb o j=>L b o (j9 j) j) (d8 _) (show TxS X.prog X.w f s.heap.objs.size g/\_/\_ from ⟨x,e,λP N y k=>y.at k⟩),rfl,q _ _ (I.hok.fresh (d8 _)) B⟩
def aNz:cH X (.builtin "len") (λxs H Q=>∃D kl,xs=[.ref D]/\H D=some (aTa X.prog X.w D kl)/\Q (.int (kl.length:Nat)) H):=by intro c s σ H xs m Q I r h;obtain⟨D,g,rfl,l,q⟩:=h;obtain⟨u,rfl,i⟩:=r.one;cases i;obtain⟨⟨o,n,p,t,k,a,hd,f,b,j,e,d⟩,_⟩:=I.hok D _ l;refine call_len_set k a hd e (by unfold scanBound at j;lia) ?_;rw[d];exact⟨.int (g.length:Nat),H,I.tok _,⟨_,rfl⟩,q⟩
def bFc (K:bF4):List V->Hp->VK->Prop:=λxs H Q=>∃(p:Addr) (bs:List Bool),xs=[.ref p]/\SqL K H p (bs.map V.bl)/\Q (.bl (bs.any id)) H
def any_range (bs:List Bool):(List.range bs.length).any (λi=>bs.getD i false)=bs.any id:=by
 rw[bCG,bDX,bDX];constructor
 ·rintro⟨i,a,h⟩;have a:=List.mem_range.mp a;rw[j4,b8 a] at h;exact⟨_,bAT a,h⟩
 ·rintro⟨b,c,h⟩;obtain⟨i,a,e⟩:=List.mem_iff_getElem.mp c;refine⟨i,List.mem_range.mpr a,?_⟩;rw[j4,b8 a];rw[e];exact h
def aUs (R:X.calm=true):cH X (.builtin "any") (bFc X.K):=by
 intro x s σ H P J Q I r h;obtain⟨p,c,rfl,w,q⟩:=h;obtain⟨u,rfl,y⟩:=r.one;cases y;obtain⟨d,t,g,N⟩:=I.list w;have k:=t.length;rw[j6] at k;have l:p≠s.heap.objs.size:=by obtain⟨o,C,_⟩:=g.isList;exact v8 (j9 C)
 refine call_any_walk (bCO g.isList ?_);refine⟨s.heap.objs.size,_,_,_,_,_,λi=>c.getD i false,rfl,Walks.list (show X.A.in1.handled=none from I.ok.hd R) _ p l d.toArray,⟨⟨_,j8 _ rfl,rfl,rfl⟩,?_⟩,?_,λL M G=>?_⟩
 ·exact g.isList.at λo e=>c7 _ e
 ·intro i v D E O F a;have f:d[i]?=some v:=by simpa using F
  have m:i<c.length:=by rw[k];exact (List.getElem?_eq_some_iff.mp f).1
  obtain⟨u,n,B⟩:=t.get (by rw[v7,b8 m];rfl);rw[f] at n;cases n;cases B;have e:c.getD i false=c[i]:=by rw[j4,b8 m];rfl
  replace a:E (c.getD i false) D:=a;rw[e] at a;exact bBC a
 ·have e:(List.range d.toArray.size).any (λi=>c.getD i false)=c.any id:=by rw[d9,<-k];exact any_range c
  rw[e];refine⟨.bl (c.any id),H,?_,rfl,q⟩;exact I.kept λb o j=>G b o (by
   intro z;have:b=s.heap.objs.size:=by simpa using z
   rw[this] at j;exact absurd (j9 j) (bBM _)) (c7 _ j)
def bBs:List V->Hp->VK->Prop:=λxs H Q=>∃z:Str,xs=[.str z]/\z.length<=1000/\∀l H',H l=none->Same H H'->H' l=some (.lst ((List.range z.cps.size).map λi=>V.str (sgn z i)))->Q (.ref l) H'
theorem aB4 (z:Str):∀(n k:Nat) (vs:List Value),vs.length=n->(∀(j:Nat) (v:Value),vs[j]?=some v->∃t,v=.str (sgn z (k+j)) t)->Vals ((List.range' k n).map λi=>V.str (sgn z i)) vs
 |0,k,[],_,_=>.nil
 |n+1,k,v::vs,hl,h=>by obtain⟨t,rfl⟩:=h 0 v rfl;rw[List.range'_succ,bAL];refine .cons ⟨t,rfl⟩ (aB4 z n (k+1) vs (by simpa using hl) λj u e=>?_);obtain⟨a,b⟩:=h (j+1) u e;exact⟨a,by rw[b,show k+(j+1)=k+1+j by lia]⟩
def aL5 (E:X.calm=true):cH X (.type "list") bBs:=by
 intro l s σ H D B Q I r h;obtain⟨z,rfl,f,q⟩:=h;obtain⟨u,rfl,t,rfl⟩:=vals1 r;refine call_list_str (I.ok.hd E) z t (λC n a y A p b=>?_) (small f);have g:=aB4 z z.cps.size 0 a.toList (by rw[v4];exact b.1) λj v e=>by have w:=b.2 j v (by rw[<-bBO];exact e);obtain⟨c,t',x,k⟩:=w;refine⟨t',?_⟩;rw[k];unfold sgn;rw[bDN,v6,x];rfl
 rw[<-List.range_eq_range'] at g;have m:a.toList.toArray=a:=by simp
 have d:H s.heap.objs.size=none:=I.hok.fresh (d8 _);refine⟨.ref s.heap.objs.size,_,I.laid (t':=n) (o:=.lst ((List.range z.cps.size).map λi=>V.str (sgn z i))) A (d8 _) ?_,rfl,q _ _ d (aW d _) aF⟩;refine⟨by rw[j6,bAH];exact small f,a.toList,y,g,?_⟩;rw[m];exact p
end
def aN6 {X:Cx}{K:bF4}(h:X.K=K:=by rfl):OpR X (compareOp .In) (rIn K false):=by subst h;exact xH
structure bA5 (E:Hp->Hp->Prop)(H:Hp):Prop where
 new:∀D o,H D=none->E H (upd H D o)
 trans:∀{H1 H2},E H H1->E H1 H2->E H H2
 upd:∀D o H',H D=none->E H H'->E H (upd H' D o)
 keep:∀D H1 H2 xs,H D=none->E H H1->H1 D=some (.lst xs)->E H1 H2->H2 D=some (.lst xs)
def aPx (H:Hp):bA5 Same H:=⟨λD o h=>aW h o,λa b=>a.trans b,λD o c h s=>gH h s,λD f e d _ _ h s=>s _ _ h⟩
def qN (J:It)(H1:Hp)(σ0:L2.St)(g:TG)(tt:TT)(te:TE)(Q:VK):Prop:=∀D,H1 D=none->∃W:Nat->Nat->L2.St->Hp->List V->Prop,(∃m,W 0 m σ0 (L2.upd H1 D (.lst [])) []) /\
 ∀i m σ' H' ys,W i m σ' H' ys->H' D=some (.lst ys)/\((J.stop i H'/\Q (.ref D) H')\/(J.go i H'/\∀x H2,J.yld i H' x H2->g x σ' H2 fun σ3 H3=>tt σ3 H3 λb H4=>
  if b=true then te σ3 H4 λy H5=>H5 D=some (.lst ys)/\ys.length<sizeLine/\∃m',m'<m/\W (i+1) m' σ3 (L2.upd H5 D (.lst (ys++[y]))) (ys++[y]) else H4 D=some (.lst ys)/\∃m',m'<m/\W (i+1) m' σ3 H4 ys))
section
variable {X:Cx}{K:bF4}{scope:Scope}{N:List Str}{tl te:TE}{tt:TT}{g:TG}{σ:L2.St}{H:Hp}{Q:VK}
def iY (c:L2.St)(b:Cap X scope N σ c)(h:tl σ H λv H1=>∃a,v=.ref a/\(∃xs,SqL K H1 a xs)/\qN (Itl K a) H1 c g tt te Q):jA X scope N (aFu K tl) g tt te σ H Q:=⟨c,b,h⟩
def wU (c:L2.St)(b:Cap X scope N σ c)(h:tl σ H λv H1=>∃a,v=.ref a/\(∃xs,SqT K H1 a xs)/\qN (Itt K a) H1 c g tt te Q):jA X scope N (aYx K tl) g tt te σ H Q:=⟨c,b,h⟩
def aH8 {a:Addr}{xs:List V}{E:Hp->Hp->Prop}(f:∀H',E H H'->SqT K H' a xs):∀H' i x,E H H'->xs[i]?=some x->(Itt K a).go i H'/\∀y H2,(Itt K a).yld i H' y H2->H2=H'/\y=x:=λH' i x s e=>
 ⟨⟨xs,x,f H' s,e⟩,λy H2 g=>by obtain⟨c,d⟩:=g;have b:=d xs (f H' s);rw[e] at b;cases b;exact⟨c,rfl⟩⟩
def uV {a:Addr}{xs:List V}{E:Hp->Hp->Prop}(b:∀H',E H H'->SqT K H' a xs):∀H',E H H'->(Itt K a).stop xs.length H':=λH' s=>⟨xs,b H' s,d8 _⟩
def aX8 {a:Addr}{xs:List V}{E:Hp->Hp->Prop}(f:∀H',E H H'->SqL K H' a xs):∀H' i x,E H H'->xs[i]?=some x->(Itl K a).go i H'/\∀y H2,(Itl K a).yld i H' y H2->H2=H'/\y=x:=λH' i x s e=>
 ⟨⟨xs,x,f H' s,e⟩,λy H2 g=>by obtain⟨c,d⟩:=g;have b:=d xs (f H' s);rw[e] at b;cases b;exact⟨c,rfl⟩⟩
def aR1 {a:Addr}{xs:List V}{E:Hp->Hp->Prop}(b:∀H',E H H'->SqL K H' a xs):∀H',E H H'->(Itl K a).stop xs.length H':=λH' s=>⟨xs,b H' s,d8 _⟩
inductive rZ (R:Nat->V->Prop):List Nat->List V->Prop
 |nil:rZ R [] []
 |cons {i y is ys}:R i y->rZ R is ys->rZ R (i::is) (y::ys)
theorem rZ.snoc (h:rZ R is ys)(r:R i y):rZ R (is++[i]) (ys++[y]):=by
 induction h with
 |nil=>exact .cons r .nil
 |cons r' _ ih=>exact .cons r' ih
theorem rZ.imp (h:rZ R is ys)(k:∀i y,R i y->S i y):rZ S is ys:=by
 induction h with
 |nil=>exact .nil
 |cons r _ ih=>exact .cons (k _ _ r) ih
theorem rZ.len {R:Nat->V->Prop}{is:List Nat}{ys:List V}(h:rZ R is ys):is.length=ys.length:=by
 induction h with
 |nil=>rfl
 |cons _ _ ih=>rw[m8,m8,ih]
def aKm (E:Hp->Hp->Prop)(l:bA5 E H)(xs:List V)(p:Nat->Bool)(Rel:Nat->Hp->V->Prop)
  (v:∀{i H1 H2 y},E H H1->E H1 H2->Rel i H1 y->Rel i H2 y) (B:∀{i H1 D ys zs y},H D=none->E H H1->H1 D=some (.lst ys)->Rel i H1 y->Rel i (L2.upd H1 D (.lst zs)) y)
  (At:Nat->L2.St->Prop) (U:L2.St->Prop) (S:U σ0) (hsz:xs.length<=sizeLine)
  (J:It) (W:∀H' i x,E H H'->xs[i]?=some x->J.go i H'/\∀y H2,J.yld i H' y H2->H2=H'/\y=x) (w:∀H',E H H'->J.stop xs.length H')
  (N:∀(i:Nat) (x:V) σ' H' Q',xs[i]?=some x->U σ'->E H H'->(∀σ2,U σ2->At i σ2->Q' σ2 H')->g x σ' H' Q')
  (L:∀(i:Nat) (x:V) σ2,xs[i]?=some x->At i σ2->∀H' R,E H H'->(∀H2,E H' H2->R (p i) H2)->tt σ2 H' R)
  (P:∀(i:Nat) (x:V) σ2,xs[i]?=some x->At i σ2->p i=true->∀H' R,E H H'->(∀y H2,E H' H2->Rel i H2 y->R y H2)->te σ2 H' R)
  (q:∀D H' ys,E H H'->H D=none->H' D=some (.lst ys)->rZ (λi y=>Rel i H' y) (sel p 0 (List.range xs.length)) ys->Q (.ref D) H'):qN J H σ0 g tt te Q:=by
 intro D h;refine⟨λi m σ' H' ys=>i<=xs.length/\m=xs.length - i/\U σ'/\E H H'/\H' D=some (.lst ys)/\rZ (λi y=>Rel i H' y) (sel p 0 (List.range i)) ys,⟨xs.length,bAC _,rfl,S,l.new _ _ h,aF,.nil⟩,?_⟩;rintro i m σ' H' ys ⟨hi,rfl,hps,sm,hL,hR⟩;refine⟨hL,?_⟩;by_cases d:i<xs.length
 ·right;have s:=b8 d;obtain⟨G,I⟩:=W H' i xs[i] sm s;refine⟨G,λx H2 K=>?_⟩;obtain⟨rfl,rfl⟩:=I x H2 K;have A:sel p 0 (List.range (i+1))=sel p 0 (List.range i)++(if p i then [i] else []):=by rw[List.range_succ,aCy,bAH,bDN]
  have O:=hR.len;have F:=aGu p 0 (List.range i);rw[bAH] at F;refine N i xs[i] σ' _ _ s hps sm fun σ2 k n=>?_;refine L i xs[i] σ2 s n _ _ sm λM o=>?_;have a:=l.trans sm o;have c:=l.keep D _ _ _ h sm hL o;cases t:p i with
  |true=>rw[if_pos rfl];refine P i xs[i] σ2 s n t _ _ a λy T u C=>?_;have f:=l.trans a u;have b:=l.keep D _ _ _ h a c u;refine⟨b,by lia,xs.length - (i+1),by lia,d,rfl,k,l.upd D _ _ h f,aF,?_⟩;rw[A,t];exact rZ.snoc (hR.imp λj z r=>B h f b (v a u (v sm o r))) (B h f b C)
  |false=>rw[if_neg (by simp)];refine⟨c,xs.length - (i+1),by lia,d,rfl,k,a,c,?_⟩;rw[A,t];simp only[bAU,if_false,bBB];exact hR.imp λj z r=>v sm o r
 ·left;have e:i=xs.length:=by lia
  subst e;exact⟨w _ sm,q D _ ys sm h hL hR⟩
end
def At1 (σ0:L2.St)(v:V)(σ:L2.St):Prop:=∃l,σ=(σ0.set 0 l).set 0 (some v)
def Ps1 (σ0:L2.St)(σ:L2.St):Prop:=∃l,σ=σ0.set 0 l
def At2 (σ0:L2.St)(a b:V)(σ:L2.St):Prop:=σ=(σ0.set 0 (some a)).set 1 (some b)
def Ps2 (σ0:L2.St)(σ:L2.St):Prop:=∃l m,σ=(σ0.set 0 l).set 1 m
def hg1 {σ0:L2.St}{i:Nat}{x:V}{σ':L2.St}{H':Hp}{Q':L2.St->Hp->Prop}(h:Ps1 σ0 σ')(q:∀σ2,Ps1 σ0 σ2->At1 σ0 x σ2->Q' σ2 H'):bO 0 x σ' H' Q':=by obtain⟨l,rfl⟩:=h;exact q _ ⟨some x,by rw[bCD]⟩ ⟨l,rfl⟩
def hg2 {K:bF4}{c:L2.St}{p:Addr}{a b:V}{σ':L2.St}{H':Hp}{Q':L2.St->Hp->Prop}(d:SqT K H' p [a,b])(h:Ps2 c σ')(q:∀σ2,Ps2 c σ2->At2 c a b σ2->Q' σ2 H'):aL4 K 2 (tG (bO 0) (tG (bO 1) aQ3)) (.ref p) σ' H' Q':=by
 obtain⟨l,m,rfl⟩:=h;have e:(((c.set 0 l).set 1 m).set 0 (some a)).set 1 (some b)=(c.set 0 (some a)).set 1 (some b):=by rw[List.set_comm _ _ (show (1:Nat)≠0 by decide),bCD,bCD]
 refine⟨p,_,rfl,d,rfl,_,_,rfl,_,_,rfl,rfl,?_⟩;rw[e];exact q _ ⟨some a,some b,rfl⟩ rfl
def oK (xs:List V)(n:Nat):mY xs none (some (n:Int))=xs.take n:=by
 unfold mY;rw[HT.aKt,HT.aPo,List.drop_zero,Nat.sub_zero];by_cases h:n<=xs.length
 ·rw[Nat.min_eq_left h]
 ·rw[Nat.min_eq_right (by lia),bCW,bAW (by lia)]
def rJ (xs:List V)(n:Nat):mY xs (some (n:Int)) none=xs.drop n:=by
 unfold mY;rw[HT.aKt,HT.aPo];by_cases h:n<=xs.length
 ·rw[Nat.min_eq_left h];exact bAW (by rw[bBT];lia)
 ·rw[Nat.min_eq_right (by lia),List.drop_length,bEW (by lia),bEE]
def bD3 (K:bF4):V->Option Int->Option Int->Hp->VK->Prop:=λx lo hi H Q=>∃a xs,x=.ref a/\SqL K H a xs/\∀p H',H p=none->Same H H'->H' p=some (.lst (mY xs lo hi))->Q (.ref p) H'
def wO:SlR X (bD3 X.K):=λb s σ H x v i h n g f Q I k o j l ⟨a,m,e,d,q⟩=>
 aYr b s σ H x v i h n g f Q I k o j l ⟨a,m,e,d,λp c=>q p _ c (aW c _) aF⟩
end L2
namespace L2
open PySem PySem.Spec PyProof.Rows
inductive Al2 {α β:Type}(R:α->β->Prop):List α->List β->Prop
 |nil:Al2 R [] []
 |cons {a b as bs}:R a b->Al2 R as bs->Al2 R (a::as) (b::bs)
theorem Al2.len {α β:Type}{R:α->β->Prop}{as:List α}{bs:List β}(h:Al2 R as bs):as.length=bs.length:=by
 induction h with
 |nil=>rfl
 |cons _ _ ih=>rw[m8,m8,ih]
theorem Al2.at {α β:Type}{R:α->β->Prop}{as:List α}{bs:List β}(h:Al2 R as bs):∀{j:Nat} {a:α},as[j]?=some a->∃b,bs[j]?=some b/\R a b:=by
 induction h with
 |nil=>intro j a e;simp at e
 |cons r _ ih=>
  intro j a e;cases j with
  |zero=>cases e;exact⟨_,rfl,r⟩
  |succ j=>exact ih (by simpa using e)
def DEq (K:bF4)(H:Hp):Nat->V->V->Prop
 |0,x,y=>jB x=true/\x=y
 |n+1,x,y=>(jB x=true/\x=y)\/∃a b xs ys,x=.ref a/\y=.ref b/\SqT K H a xs/\SqT K H b ys/\Al2 (DEq K H n) xs ys
theorem aEs (h:jB x=true)(d:RelV x v)(c:RelV x u):SeqAt.EqAt A s v u true:=by
 cases x with
 |non=>cases d;cases c;exact bEI _
 |bl b=>cases d;cases c;exact bEI _
 |int i=>obtain⟨t,rfl⟩:=d;obtain⟨a,rfl⟩:=c;have z:=bEL (A:=A) (s:=s) i t i a;simpa using z
 |str y=>obtain⟨t,rfl⟩:=d;obtain⟨a,rfl⟩:=c;have z:=bDK (A:=A) (s:=s) y t y a;simpa using z
 |_=>cases h
section
variable {X:Cx}{bF8:bF6}{σ:L2.St}{H:Hp}{s:Shared}
def uM (I:Inv X bF8 σ H s)(p:Vals xs its)(k:Vals ys jts)(h:Al2 (DEq X.K H n) xs ys)
  (r:∀{x y v u},DEq X.K H n x y->RelV x v->RelV y u->SeqAt.EqAt A s v u true):∀(j:Nat) (h1:j<its.toArray.size) (h2:j<jts.toArray.size),SeqAt.EqAt A s its.toArray[j] jts.toArray[j] ((λ_=>true) j):=λj h1 h2=>by
 have q:=p.length;have a:j<xs.length:=by rw[d9] at h1;lia
 obtain⟨y,o,d⟩:=h.at (b8 a);obtain⟨e,b,m⟩:=p.get (b8 a);obtain⟨g,c,l⟩:=k.get o;have i:its.toArray[j]=e:=by rw[bCA];exact (List.getElem?_eq_some_iff.mp b).2
 have f:jts.toArray[j]=g:=by rw[bCA];exact (List.getElem?_eq_some_iff.mp c).2
 rw[i,f];exact r d m l
def vN (n:Nat):(List.range n).all (λ_=>true)=true:=by rw[bBZ];intro _ _;rfl
theorem yK (I:Inv X bF8 σ H s):∀(n:Nat) {A:Around} {x y:V} {v u:Value},DEq X.K H n x y->RelV x v->RelV y u->A.units+n<cLine->SeqAt.EqAt A s v u true
 |0,A,x,y,v,u,h,rv,ru,_=>by obtain⟨h,rfl⟩:=h;exact aEs h rv ru
 |n+1,A,x,y,v,u,h,rv,ru,hu=>by
  rcases h with⟨h,rfl⟩|⟨a,b,xs,ys,rfl,rfl,ha,hb,h⟩
  ·exact aEs h rv ru
  cases rv;cases ru;by_cases e:a=b
  ·subst e;exact bEI _
  obtain⟨f,i,m,p⟩:=I.tuple ha;obtain⟨c,g,k,q⟩:=I.tuple hb;refine SeqAt.EqAt.of_refs e ?_;have z:=SeqAt.RcAt.tuples (A:=A) (e:=λ_=>true) (show s.heap.IsTuple a f.toArray from m) (show s.heap.IsTuple b c.toArray from k) (by lia) (uM I i g h λd l j=>yK I n d l j (by show A.units+1+n<cLine;lia));have o:(f.toArray.size == c.toArray.size)=true:=by rw[d9,d9];have:=i.length;have:=g.length;have:=h.len;simp;lia
  rw[vN,o] at z;exact z
end
def bDm (K:bF4)(r:Bool):R2:=λx y H Q=>∃a b xs ys,x=.ref a/\y=.ref b/\SqT K H a xs/\SqT K H b ys/\Al2 (DEq K H 40) xs ys/\Q (.bl r) H
def aTd (hu:X.A.units+64<cLine):OpR X (compareOp .NotEq) (bDm X.K false):=by
 intro l s σ H x y v u Q I o w h;obtain⟨a,b,D,z,rfl,rfl,k,r,h,q⟩:=h;cases o;cases w;obtain⟨c,i,n,C⟩:=I.tuple k;obtain⟨f,g,t,B⟩:=I.tuple r;refine SeqAt.RcNeAt.tuples (e:=λ_=>true) (show s.heap.IsTuple a c.toArray from n) (show s.heap.IsTuple b f.toArray from t) (by lia) (uM I i g h λd m j=>yK I 40 d m j (by show X.A.units+1+40<cLine;lia)) _ _ _ _ ?_;have p:(c.toArray.size == f.toArray.size)=true:=by rw[d9,d9];have:=i.length;have:=g.length;have:=h.len;simp;lia
 rw[vN,p];exact⟨.bl _,H,I,rfl,q⟩
section
variable {X:Cx}
def bDz:R2:=λx y H Q=>(∃a b,x=.int a/\y=.int b/\Q (.bl (decide (a<b))) H)\/∃a b:Str,x=.str a/\y=.str b/\Q (.bl (decide (a.cps.toList<b.cps.toList))) H
def bCg:OpR X (compareOp .Lt) bDz:=by
 intro f s σ H x y v u Q I c d h;rcases h with⟨a,b,rfl,rfl,q⟩|⟨a,b,rfl,rfl,q⟩
 ·obtain⟨t,rfl⟩:=c;obtain⟨e,rfl⟩:=d;exact lt_int ⟨.bl _,H,I,rfl,q⟩
 ·obtain⟨t,rfl⟩:=c;obtain⟨e,rfl⟩:=d;exact lt_str ⟨.bl _,H,I,rfl,q⟩
def aXu (K:bF4):V->List V->Hp->VK->Prop:=λx vs H Q=>∃(l:Addr) (ss:List Str) (n:Str) (i:Nat),x=.ref l/\vs=[.str n]/\SqL K H l (ss.map V.str)/\ss.length<=1000/\ss[i]?=some n/\(∀(j:Nat) (m:Str),j<i->ss[j]?=some m->m≠n)/\Q (.int (i:Nat)) H
def aM2 (n:Str):Value->Bool
 |.str x _=>x == n
 |_=>false
def aFv:MtR X "list.index" (aXu X.K):=by
 intro M s σ H x vs v us Q I R Z h;obtain⟨l,e,n,i,rfl,rfl,J,p,E,z,q⟩:=h;cases R;obtain⟨u,rfl,T⟩:=Z.one;obtain⟨t,rfl⟩:=T;obtain⟨a,r,O,hz⟩:=I.list J;have Y:=r.length;rw[j6] at Y;obtain⟨⟨U,N,D,W⟩,C,G,L,hd⟩:=id O.isList;simp only at G hd;subst G hd;have S:=(List.getElem?_eq_some_iff.mp E).1;have c:∀{j:Nat} (f:j<a.length),∃m b,e[j]?=some m/\a[j]=.str m b:=λ{j} f=>by
  have k:j<e.length:=by lia
  obtain⟨w,P,o⟩:=r.get (show (e.map V.str)[j]?=some (.str e[j]) by rw[v7,b8 k];rfl);obtain⟨b,rfl⟩:=o;exact⟨e[j],b,b8 k,(List.getElem?_eq_some_iff.mp P).2⟩
 refine call_meets PySem.F.slot_list_index ⟨_,C,rfl⟩ PySem.F.entry_list_index (PySem.F.args_list_index_2 _ _)
  (SeqAt.list_indexAt l a.toArray L N W (.str n t) (aM2 n) i (by rw[d9];lia) (by lia) ?_ ?_) ⟨C,λy B=>?_,⟨.int _,H,I.tok _,⟨_,rfl⟩,q⟩⟩
 ·obtain⟨m,b,g,d⟩:=c (j:=i) (by lia);rw[E] at g;cases g;show aM2 n a[i]=true;rw[d];show (n == n)=true;simp
 ·intro j f A;obtain⟨m,b,g,d⟩:=c (j:=j) (by simpa using f);show aM2 n a[j]=false;rw[d];have:=z j m A g;show (m == n)=false;simpa using this
 ·have B:y∈a:=by simpa using B
  obtain⟨j,f,rfl⟩:=bBA B;obtain⟨m,b,g,d⟩:=c (j:=j) f;rw[d];exact bDK m b n t
end
end L2
namespace L2
open PySem PySem.Spec PyProof.Rows Builtin
section
variable {prog:Program}{w:World}{A:Around}{E:bF5}{s:Shared}
end
section
variable {X:Cx}
def bEd (K:bF4):List V->Hp->VK->Prop:=λxs H Q=>∃l us,xs=[.ref l,.ty "list"]/\SqL K H l us/\Q (.bl true) H
def aQo:cH X (.builtin "isinstance") (bEd X.K):=by intro b s σ H m j Q I r h;obtain⟨l,k,rfl,i,q⟩:=h;obtain⟨u,v,rfl,e,a⟩:=r.two;obtain rfl:v=Value.type "list":=a;obtain rfl:u=Value.ref l:=e;obtain⟨c,n,d,_⟩:=I.list i;obtain⟨o,g,f,_⟩:=id d.isList;exact call_isinstance (isinstance_true F.isi_meta_list F.isi_self_list) ⟨⟨o,g,f⟩,⟨.bl true,H,I,rfl,q⟩⟩
end
variable {X:Cx}
section
variable {X:Cx}{a b e:Expr}{es:List Expr}{ta tb te:TE}{t:TA}{pos p pos' apos:Pos}{x m:Str}{k k0:Nat}{ps:List Str}{sp:Sp}{C:Addr}{o:Expr}
def aZ (i:Nat)(f:VE X e te)(c:X.N.Nodup:=by assumption)(hi:X.N[i]?=some x:=by rfl)(d:Loc X.env.scope x:=by first|exact Or.inl rfl|exact Or.inr rfl)(a:swapsWith e (some (.Name x pos')) pos.line X.env=pure false:=by rfl)(b:X.fn x=true\/X.env.scope.names.lookup x=some .local:=by first|exact .inl rfl|exact .inr rfl|assumption):VS X (.Assign [.Name x pos'] e pos) (aB2 te (bO i)):=bBb c hi d f a b
def cQ (i:Nat)(a:X.N.Nodup:=by assumption)(hi:X.N[i]?=some x:=by rfl)(b:Loc X.env.scope x:=by first|exact Or.inl rfl|exact Or.inr rfl)(c:X.fn x=true\/X.env.scope.names.lookup x=some .local:=by first|exact .inl rfl|exact .inr rfl|assumption):VG X (.Name x pos) (bO i):=bJ a hi b c
def aV (G:Ok X.prog X.w X.K X.mg X.base k0 x ps sp)(d:VA X (e::es) t)(c:Room k X.A:=by assumption)(f:k0<=k:=by decide)(g:Gl X x:=by rfl)(a:(x == ("__debug__":Str))=false:=by decide)(h:cL e=true:=by rfl)(b:(backTo pos (starEach es X.env)).any (·.1)=false:=by rfl):VE X (.Call (.Name x p) (e::es) [] pos) (aBc sp [] E0 t):=bDk (G.mono f) c g d a h b
def iB (G:OkM X.prog X.w X.K X.mg X.base C k0 m ps sp)(i:VE X o ta)(d:VA X (e::es) t)(c:Room k X.A:=by assumption)(g:k0<=k:=by decide)(h:cL e=true:=by rfl)(a:(backTo pos (starEach es X.env)).any (·.1)=false:=by rfl)
  (b:eval (.Call (.Attribute o m apos) (e::es) [] pos) X.env=(do
   let ov <-eval o X.env
   standAt apos.atName
   let (f,first) <-holding [ov] (getMethod ov m pl)
   callWith pos f first (backTo pos (starEach (e::es) X.env)) (backToKw pos (keywordEach [] X.env))):=by rfl):VE X (.Call (.Attribute o m apos) (e::es) [] pos) (aI3 C m sp [] E0 ta t):=aXx (G.mono g) c i d h a b
def aO (c:IxR X r)(d:VE X a ta)(f:VE X b tb)(e:aGy b:=by exact λ_ _=>rfl):VE X (.Subscript a b pos) (tOp r ta tb):=bEh c d f e
def cZ (ho:OpR X (compareOp op) r)(c:VE X a ta)(e:VE X b tb)(d:behindInMarks op b=false:=by exact aUx _):VT X (.Compare a [op] [b] pos) (aKw (tOp r ta tb)):=aOo ho c e d
def vL (ho:OpR X (compareOp op) r)(c:VE X a ta)(e:VE X b tb)(d:behindInMarks op b=false:=by exact aUx _):VE X (.Compare a [op] [b] pos) (tOp r ta tb):=rN ho c e d
def va1 (a:VE X e te)(b:cL e=true:=by rfl):VA X [e] (dH te aAq):=aH a zA b
end
end L2
namespace My
open PySem PySem.Spec PyProof.Rows L2
def top (i:Nat):Stmt:=PySem.Challenge.pw_shardask_k64_settle.main.body.getD i (.Pass ⟨0,0,0,0⟩)
abbrev aB5:Stmt:=top 19
abbrev lE:Stmt:=top 20
abbrev aEk:Stmt:=top 21
abbrev aAc:Stmt:=top 22
abbrev iU:Stmt:=top 23
abbrev xG:Stmt:=top 24
abbrev aC5:Stmt:=top 25
abbrev aEe:Stmt:=top 26
abbrev aBx:Stmt:=top 27
abbrev aE3:Stmt:=top 28
abbrev sU:Stmt:=top 29
abbrev pR:Stmt:=top 30
abbrev aFc:Stmt:=top 31
abbrev aKd:Stmt:=top 32
abbrev sJ:Stmt:=top 33
abbrev aUz:Stmt:=top 34
abbrev aEt:Stmt:=top 36
abbrev aBy:Stmt:=top 38
abbrev aJ4:Stmt:=top 42
abbrev tV:Stmt:=top 43
abbrev qK:Stmt:=top 44
abbrev uU:Stmt:=top 45
abbrev uD:Stmt:=top 46
abbrev aB0:Stmt:=top 47
abbrev aAd:Stmt:=top 48
abbrev pC:Stmt:=top 49
abbrev aBn:Stmt:=top 50
abbrev aIm:Stmt:=top 51
abbrev zO:Stmt:=top 52
abbrev yW:Stmt:=top 53
abbrev jJ:Stmt:=classAt (top 54) 0
abbrev jY:Stmt:=classAt (top 54) 3
abbrev oO:Stmt:=classAt (top 54) 4
abbrev rB:Stmt:=classAt (top 54) 6
abbrev aAb:Stmt:=top 56
abbrev zU:Stmt:=top 57
abbrev pP:Stmt:=top 58
abbrev aDc:Stmt:=top 59
abbrev iM:Stmt:=classAt (top 60) 0
abbrev gJ:Stmt:=classAt (top 60) 2
abbrev fV:Stmt:=classAt (top 60) 3
abbrev jF:Stmt:=classAt (top 60) 4
abbrev pH:Stmt:=classAt (top 60) 5
abbrev oU:Stmt:=classAt (top 60) 6
abbrev mZ:Stmt:=classAt (top 60) 8
abbrev dF:Stmt:=classAt (top 60) 9
abbrev mF:Stmt:=classAt (top 60) 10
abbrev jU:Stmt:=classAt (top 60) 11
abbrev kE:Stmt:=classAt (top 60) 12
abbrev gO:Stmt:=classAt (top 60) 13
abbrev nG:Stmt:=classAt (top 60) 14
abbrev zT:Stmt:=top 62
abbrev zJ:Stmt:=top 63
abbrev uY:Stmt:=top 64
abbrev nC:Stmt:=top 65
abbrev wH:Stmt:=top 66
abbrev vP:Stmt:=top 67
abbrev aAa:Stmt:=top 68
abbrev uN:Stmt:=top 69
abbrev zV:Stmt:=top 70
abbrev pL:Stmt:=top 71
abbrev zH:Stmt:=top 72
abbrev jK:Stmt:=top 73
abbrev jW:Stmt:=top 74
abbrev mD:Stmt:=top 75
abbrev dW:Stmt:=top 76
abbrev zL:Stmt:=top 77
abbrev nF:Stmt:=top 78
abbrev wW:Stmt:=top 79
abbrev qY:Stmt:=top 80
abbrev aCu:Stmt:=top 81
abbrev pW:Stmt:=top 82
abbrev aV8:Stmt:=top 83
abbrev lX:Stmt:=classAt (top 2) 0
structure Txt (w:World)(K:bF4)(mg:bF7):Prop where
 aGn:mg "ValueError"=none
 aBj:mg "all"=none
 bC4:mg "any"=none
 bBu:mg "bool"=none
 aT6:mg "dict"=none
 aJc:mg "enumerate"=none
 aOv:mg "int"=none
 bR:mg "isinstance"=none
 eZ:mg "len"=none
 yQ:mg "list"=none
 bC3:mg "max"=none
 jM:mg "range"=none
 aO0:mg "set"=none
 dY:mg "sorted"=none
 aZe:mg "str"=none
 gZ:mg "tuple"=none
 aZj:mg "zip"=none
 iJ:∃a,mg "QUESTION_WORDS"=some (.ref a)/\∀H,SqT K H a [.str "and",.str "by",.str "count",.str "down",.str "first",.str "group",.str "join",.str "keep",.str "least",.str "most",.str "named",.str "on",.str "sum",.str "table",.str "up",.str "where",.str "with"]
 aFn:∃u,mg "LETTERS"=some u/\RelV (.str "abcdefghijklmnopqrstuvwxyz") u
 aHw:∃a,mg "KINDS"=some (.ref a)/\∀H,SqT K H a [.str "number",.str "word"]
 aCf:∃u,mg "MOST_LETTERS"=some u/\RelV (.int 8) u
 aCx:∃u,mg "MOST_COLUMNS"=some u/\RelV (.int 8) u
 aJd:∃u,mg "WORD_BASE"=some u/\RelV (.int 27) u
 aDw:∃u,mg "MOST_HOUSES"=some u/\RelV (.int 6) u
 aLo:∃u,mg "MOST_CUTS"=some u/\RelV (.int 8) u
 zY:∃f o,(∃u,mg "is_column"=some u/\RelV (.ref f) u)/\K.lookup f=some o/\o.cls=.type "function"
 aMp:Dn K mg "is_whole" aB5 ["thing"]
 wZ:Dn K mg "is_number_below" lE ["thing","many"]
 aQs:Dn K mg "is_word" aEk ["thing"]
 aKp:Dn K mg "is_one_of" aAc ["thing","texts"]
 tM:Dn K mg "is_tuple_of" iU ["thing","least","most","is_part"]
 aGm:Dn K mg "are_unlike" xG ["names"]
 aNu:Dn K mg "names_of" aC5 ["head"]
 aRi:Dn K mg "is_name" aEe ["thing"]
 aMz:Dn K mg "is_value" aBx ["thing"]
 aQr:Dn K mg "kind_of" aE3 ["value"]
 aD1:Dn K mg "is_value_of" sU ["thing","kind"]
 aKg:Dn K mg "is_column" pR ["thing"]
 aRd:Dn K mg "is_head" aFc ["thing"]
 aVb:Dn K mg "is_row" aKd ["head","thing"]
 aD3:Dn K mg "word_number" sJ ["word"]
 bAe:Dn K mg "home" aUz ["value","houses"]
 aQb:Dn K mg "kind_in" aEt ["head","name"]
 aM0:Dn K mg "place_of" aBy ["head","name"]
 aU6:Dn K mg "is_cut" aJ4 ["thing","houses"]
 aMw:Dn K mg "are_cuts" tV ["thing","kind","houses"]
 aCh:Dn K mg "is_column_in" qK ["head","thing"]
 aGb:Dn K mg "is_placing" uU ["thing","head","houses"]
 aOb:Dn K mg "are_rows" uD ["thing","head"]
 aLy:Dn K mg "is_table" aB0 ["thing","houses"]
 aK0:Dn K mg "need_town" aAd ["houses","tables"]
 aAm:Dn K mg "placed_tables" pC ["houses","tables"]
 aN9:Dn K mg "table_in" aBn ["placed","name"]
 aT8:Dn K mg "cut_of" aIm ["cuts","value"]
 aLs:Dn K mg "stands_at" zO ["head","placing","row","house","houses"]
 aR8:Dn K mg "rows_at" yW ["table","house","houses"]
 aJf:Dn K mg "with_rows" aAb ["table","rows"]
 aLb:Dn K mg "with_cuts" zU ["table","cuts"]
 aJj:Dn K mg "span_rows" pP ["table","number"]
 aMh:Dn K mg "is_above" aDc ["row","mark"]
 aI9:Dn K mg "_law_seed" zT ["_law_script"]
 aLh:Dn K mg "_law_next" zJ ["_law_state","_law_many"]
 aH9:Dn K mg "_law_words" uY []
 aHr:Dn K mg "_law_names" nC ["_law_state","_law_many"]
 aGh:Dn K mg "_law_great" wH ["_law_state"]
 aH6:Dn K mg "_law_value" vP ["_law_state","_law_kind"]
 aK1:Dn K mg "_law_head" aAa ["_law_state","_law_names_here"]
 aNs:Dn K mg "_law_row" uN ["_law_state","_law_head_here"]
 aK2:Dn K mg "_law_home" zV ["_law_value_here","_law_houses"]
 aJn:Dn K mg "_law_span" pL ["_law_cuts","_law_value_here"]
 aLd:Dn K mg "_law_spot" zH ["_law_head_here","_law_name"]
 aHo:Dn K mg "_law_stood" jK ["_law_table","_law_houses","_law_house"]
 aCn:Dn K mg "_law_of_span" jW ["_law_table"]
 aDk:Dn K mg "_law_stands" mD ["_law_table","_law_houses","_law_house"]
 uP:Dn K mg "_law_spans_begun" dW ["_law_state","_law_names_here","_law_most"]
 aKc:Dn K mg "_law_lent" zL ["_law_state","_law_table","_law_houses"]
 aGl:Dn K mg "_law_above" nF ["_law_table"]
 aF8:Dn K mg "_law_right" wW ["_law_store","_law_name","_law_table","_law_houses"]
 aC6:Dn K mg "_law_settled" qY ["_law_store","_law_name"]
 aN1:Dn K mg "_law_try" aCu ["_law_store","_law_name","_law_table"]
 aDe:Dn K mg "_law_changed" pW ["_law_state","_law_store","_law_name","_law_table"]
 bDg:Dn K mg "law" aV8 ["_law_script"]
 bAo:∃C,aTt K mg "Town" C/\dZ K C "__init__" "Town.__init__" jJ ["self","houses","tables"]/\dZ K C "placing" "Town.placing" jY ["self","name"]/\dZ K C "whole" "Town.whole" oO ["self","name"]/\dZ K C "part" "Town.part" rB ["self","name","house"]/\bK K C "placed"/\bK K C "house_count"
 aWk:∃C,aTt K mg "Store" C/\dZ K C "__init__" "Store.__init__" iM ["self","houses","tables"]/\dZ K C "cut_table" "Store.cut_table" gJ ["self","name"]/\dZ K C "need_still" "Store.need_still" fV ["self","name"]/\dZ K C "move_of" "Store.move_of" jF ["self","name"]/\dZ K C "put" "Store.put" pH ["self","name","row"]/\dZ K C "drop" "Store.drop" oU ["self","name","row"]/\dZ K C "lend" "Store.lend" mZ ["self","name","number","house"]/\dZ K C "rows_to_come" "Store.rows_to_come" dF ["self","name"]/\dZ K C "carry" "Store.carry" mF ["self","name","many"]/\dZ K C "settle" "Store.settle" jU ["self","name"]/\dZ K C "moving" "Store.moving" kE ["self","name"]/\dZ K C "stands" "Store.stands" gO ["self","name","house"]/\dZ K C "town" "Store.town" nG ["self"]/\bK K C "placed"/\bK K C "house_count"/\bK K C "moves"
 bE4:∃C S,ExT K mg lX "NotYet" "ShardError.__init__" C S/\PySem.W.mroIn K C (.ref C)=some true
abbrev abc:Str:="abcdefghijklmnopqrstuvwxyz"
abbrev words:List V:=[.str "and",.str "by",.str "count",.str "down",.str "first",.str "group",.str "join",.str "keep",.str "least",.str "most",.str "named",.str "on",.str "sum",.str "table",.str "up",.str "where",.str "with"]
def Th (K:bF4)(H:Hp)(v:V):Prop:=(∃x,v=.str x/\x.length<=1000)\/(∃i,v=.int i)\/(∃b,v=.bl b)\/∃k,Rk K H v k
theorem Th.same {K:bF4}{H H':Hp}{v:V}(e:Same H H')(h:Th K H v):Th K H' v:=by
 rcases h with h|h|h|⟨k,h⟩
 ·exact .inl h
 ·exact .inr (.inl h)
 ·exact .inr (.inr (.inl h))
 ·exact .inr (.inr (.inr ⟨k,h.same e⟩))
def aYh:V->String->Bool
 |.int _,T=>T == "int"
 |.str _,T=>T == "str"
 |.bl _,T=>T == "int" || T == "bool"
 |_,_=>false
def isS:V->Bool
 |.str _=>true
 |_=>false
def whole:V->Bool
 |.int _=>true
 |_=>false
def wG {K:bF4}{H:Hp}{v:V}{T:String}{Q:VK}(c:Th K H v)(a:T = "int"\/T = "bool"\/T = "str")(q:Q (.bl (aYh v T)) H):bDx [v,.ty T] H Q\/aZ0 K [v,.ty T] H Q:=by
 rcases c with⟨x,rfl,_⟩|⟨i,rfl⟩|⟨b,rfl⟩|⟨k,h⟩
 ·refine .inl ⟨_,_,_,rfl,?_,q⟩;rcases a with rfl|rfl|rfl <;> simp[aM7,aYh]
 ·refine .inl ⟨_,_,_,rfl,?_,q⟩;rcases a with rfl|rfl|rfl <;> simp[aM7,aYh]
 ·refine .inl ⟨_,_,_,rfl,?_,q⟩;rcases a with rfl|rfl|rfl <;> simp[aM7,aYh]
 ·refine .inr ⟨_,_,_,rfl,h,a,?_⟩;cases h <;> exact q
def inA (y:Str):Bool:=!(Builtin.Str.occurrences abc y 0 abc.length 1).isEmpty
def allIn (x:Str):Bool:=((List.range x.cps.size).map λi=>inA (sgn x i)).all id
def sG (l:Nat):V->Bool
 |.str x=>decide (l<=x.length) && (decide (x.length<=8) && allIn x)
 |_=>false
def nameB (v:V):Bool:=sG 1 v && !inV v words
def aNf (v:V):Bool:=whole v || sG 0 v
def mO (K:bF4):Sp:=λvs H Q _=>∃v,vs=[v]/\Th K H v/\Q (.bl (whole v)) H
def aD8 (K:bF4)(f:V->Bool):Sp:=λvs H Q _=>∃v,vs=[v]/\Th K H v/\∀H',Same H H'->Q (.bl (f v)) H'
def aO9 (K:bF4):Sp:=λvs H Q _=>∃v,vs=[v]/\Th K H v/\Q (.str (if whole v then "number" else "word")) H
inductive bBw (K:bF4)(vs:List V)(H:Hp)(Q:VK)(E_:XK):Prop
 |mk (a:Addr) (ns:List Int) (_:vs=[.ref a]) (_:SqL K H a (ns.map V.int)) (_:ns.length<=63) (_:∀H',Q (.bl true) H')
def bC1 {K:bF4}{H:Hp}{a:Addr}{b:List Int}(h:b.length<=63)(c:SqL K H a (b.map V.int)):bBw K [.ref a] H (λv _=>v=.bl true) λ_ _ _=>False:=
 ⟨a,b,rfl,c,h,λ_=>rfl⟩
def aJa:aG ["thing"] ["thing"] (aC aB5):=by trivial
def uE:aG ["thing","many"] ["thing","many"] (aC lE):=by trivial
def aNy:aG ["thing"] ["thing"] (aC aEk):=by trivial
def aF4:aG ["thing","texts"] ["thing","texts"] (aC aAc):=by trivial
def qX:aG ["thing","least","most","is_part"] ["thing","least","most","is_part"] (aC iU):=by trivial
def aDv:aG ["names"] ["names"] (aC xG):=by trivial
def aLa:aG ["head"] ["head"] (aC aC5):=by trivial
def aNe:aG ["thing"] ["thing"] (aC aEe):=by trivial
def aIl:aG ["thing"] ["thing"] (aC aBx):=by trivial
def aMf:aG ["value"] ["value"] (aC aE3):=by trivial
def aCa:aG ["thing","kind"] ["thing","kind"] (aC sU):=by trivial
def aGq:aG ["thing"] ["thing"] (aC pR):=by trivial
def aMg:aG ["thing"] ["thing"] (aC aFc):=by trivial
def aSd:aG ["head","thing"] ["head","thing"] (aC aKd):=by trivial
def pZ:aG ["word","number","letter"] ["word"] (aC sJ):=by trivial
def aPg:aG ["value","houses","number"] ["value","houses"] (aC aUz):=by trivial
def aA9:aG ["head","name","column"] ["head","name"] (aC aEt):=by trivial
def aI7:aG ["head","name"] ["head","name"] (aC aBy):=by trivial
def aQ2:aG ["thing","houses"] ["thing","houses"] (aC aJ4):=by trivial
def zM:aG ["thing","kind","houses","lows"] ["thing","kind","houses"] (aC tV):=by trivial
def aAk:aG ["head","thing"] ["head","thing"] (aC qK):=by trivial
def aEb:aG ["thing","head","houses"] ["thing","head","houses"] (aC uU):=by trivial
def aJg:aG ["thing","head"] ["thing","head"] (aC uD):=by trivial
def aKn:aG ["thing","houses"] ["thing","houses"] (aC aB0):=by trivial
def uT:aG ["houses","tables","name","table"] ["houses","tables"] (aC aAd):=by trivial
def yV:aG ["houses","tables"] ["houses","tables"] (aC pC):=by trivial
def aJr:aG ["placed","name"] ["placed","name"] (aC aBn):=by trivial
def aEu:aG ["cuts","value","number","place"] ["cuts","value"] (aC aIm):=by trivial
def vH:aG ["head","placing","row","house","houses","value","cuts"] ["head","placing","row","house","houses"] (aC zO):=by trivial
def aNi:aG ["table","house","houses"] ["table","house","houses"] (aC yW):=by trivial
def xV:aG ["self","houses","tables"] ["self","houses","tables"] (aC jJ):=by trivial
def aAf:aG ["self","name"] ["self","name"] (aC jY):=by trivial
def aD0:aG ["self","name"] ["self","name"] (aC oO):=by trivial
def aF6:aG ["self","name","house"] ["self","name","house"] (aC rB):=by trivial
def aGo:aG ["table","rows"] ["table","rows"] (aC aAb):=by trivial
def aGv:aG ["table","cuts"] ["table","cuts"] (aC zU):=by trivial
def wI:aG ["table","number","place"] ["table","number"] (aC pP):=by trivial
def aLm:aG ["row","mark"] ["row","mark"] (aC aDc):=by trivial
def vD:aG ["self","houses","tables"] ["self","houses","tables"] (aC iM):=by trivial
def kZ:aG ["self","name","table"] ["self","name"] (aC gJ):=by trivial
def rW:aG ["self","name"] ["self","name"] (aC fV):=by trivial
def xK:aG ["self","name"] ["self","name"] (aC jF):=by trivial
def wK:aG ["self","name","row","table"] ["self","name","row"] (aC pH):=by trivial
def sO:aG ["self","name","row","table","rows"] ["self","name","row"] (aC oU):=by trivial
def tH:aG ["self","name","number","house","cuts"] ["self","name","number","house"] (aC mZ):=by trivial
def iI:aG ["self","name","move"] ["self","name"] (aC dF):=by trivial
def qL:aG ["self","name","many","move","waiting","unlike"] ["self","name","many"] (aC mF):=by trivial
def pF:aG ["self","name","table","move","number","cuts"] ["self","name"] (aC jU):=by trivial
def aAn:aG ["self","name"] ["self","name"] (aC kE):=by trivial
def oW:aG ["self","name","house","table","rows","move"] ["self","name","house"] (aC gO):=by trivial
def aDz:aG ["self"] ["self"] (aC nG):=by trivial
def wN:aG ["_law_script","_law_seed_here","_law_k","_law_cell"] ["_law_script"] (aC zT):=by trivial
def aGg:aG ["_law_state","_law_many"] ["_law_state","_law_many"] (aC zJ):=by trivial
def sI:aG ["_law_words_here"] [] (aC uY):=by trivial
def sH:aG ["_law_state","_law_many","_law_small","_law_odd","_law_base","_law_k","_law_at","_law_names_here"] ["_law_state","_law_many"] (aC nC):=by trivial
def tL:aG ["_law_state","_law_number","_law_k"] ["_law_state"] (aC wH):=by trivial
def tE:aG ["_law_state","_law_kind","_law_way","_law_word","_law_k"] ["_law_state","_law_kind"] (aC vP):=by trivial
def vO:aG ["_law_state","_law_names_here","_law_start","_law_head_here","_law_k","_law_kind"] ["_law_state","_law_names_here"] (aC aAa):=by trivial
def aLl:aG ["_law_state","_law_head_here"] ["_law_state","_law_head_here"] (aC uN):=by trivial
def aGc:aG ["_law_value_here","_law_houses","_law_number","_law_letter"] ["_law_value_here","_law_houses"] (aC zV):=by trivial
def aHj:aG ["_law_cuts","_law_value_here"] ["_law_cuts","_law_value_here"] (aC pL):=by trivial
def aF9:aG ["_law_head_here","_law_name"] ["_law_head_here","_law_name"] (aC zH):=by trivial
def sW:aG ["_law_table","_law_houses","_law_house","_law_head_here","_law_placing","_law_rows","_law_move","_law_spot_here"] ["_law_table","_law_houses","_law_house"] (aC jK):=by trivial
def oX:aG ["_law_table","_law_head_here","_law_placing","_law_rows","_law_move","_law_spot_here"] ["_law_table"] (aC jW):=by trivial
def qJ:aG ["_law_table","_law_houses","_law_house","_law_found","_law_move"] ["_law_table","_law_houses","_law_house"] (aC mD):=by trivial
def fH:aG ["_law_state","_law_names_here","_law_most","_law_houses","_law_head_here","_law_column","_law_kind","_law_cuts","_law_low","_law_placing","_law_rows","_law_store"] ["_law_state","_law_names_here","_law_most"] (aC dW):=by trivial
def vR:aG ["_law_state","_law_table","_law_houses","_law_number","_law_house"] ["_law_state","_law_table","_law_houses"] (aC zL):=by trivial
def sS:aG ["_law_table","_law_number","_law_house","_law_mark"] ["_law_table"] (aC nF):=by trivial
def tO:aG ["_law_store","_law_name","_law_table","_law_houses","_law_town","_law_house"] ["_law_store","_law_name","_law_table","_law_houses"] (aC wW):=by trivial
def oZ:aG ["_law_store","_law_name","_law_word"] ["_law_store","_law_name"] (aC qY):=by trivial
def zK:aG ["_law_store","_law_name","_law_table","_law_due","_law_number","_law_house","_law_mark","_law_cuts"] ["_law_store","_law_name","_law_table"] (aC aCu):=by trivial
def oY:aG ["_law_state","_law_store","_law_name","_law_table","_law_row_here"] ["_law_state","_law_store","_law_name","_law_table"] (aC pW):=by trivial
def aT9:aG ["_law_script","_law_state","_law_names_here","_law_store","_law_table","_law_houses","_law_moves","_law_cell","_law_some"] ["_law_script"] (aC aV8):=by trivial
def aYj:aG ["self","act"] ["self","act"] (aC lX):=by trivial
section
variable {P:Program}{w:World}{K:bF4}{mg:bF7}{base:Heap}
def aK6 (T:Txt w K mg):Ok P w K mg base 1 "is_whole" o4 (mO K):=by
 refine Ok.ofV T.aMp aJa (by trivial) (λf d A c s H g Q E e h=>?_)
 obtain⟨v,rfl,a,q⟩:=h;refine⟨_,(aD (aJ (gU (aL (wL.or rG) (by rfl) T.bR bN (aH (vv 0) (va1 (fG (v:=.ty "int") (by rfl) T.aOv aHk rfl)))) (gY (aZ8 (aL (wL.or rG) (by rfl) T.bR bN (aH (vv 0) (va1 (fG (v:=.ty "bool") (by rfl) T.bBu aXj rfl))))))))),?_⟩;refine⟨_,rfl,wG a (.inl rfl) ⟨_,rfl,?_⟩⟩;rcases id a with⟨x,rfl,_⟩|⟨i,rfl⟩|⟨b,rfl⟩|⟨k,h⟩
 ·exact bY q
 ·exact eX ⟨_,rfl,wG a (.inr (.inl rfl)) ⟨_,rfl,q⟩⟩
 ·exact eX ⟨_,rfl,wG a (.inr (.inl rfl)) ⟨_,rfl,q⟩⟩
 ·cases h <;> exact bY q
def aTj (x:Str):(((List.range x.cps.size).map λi=>V.str (sgn x i)).map λv=>match v with|.str y=>V.bl (inA y)|_=>.bl false)=(((List.range x.cps.size).map λi=>inA (sgn x i)).map V.bl):=by rw[bDY,bDY];rfl
def aNx (T:Txt w K mg):Ok P w K mg base 1 "is_word" o4 (aD8 K (sG 0)):=by
 refine Ok.ofV T.aQs aNy (by trivial) (λf o A g s H M Q E F h=>?_)
 obtain⟨v,rfl,m,q⟩:=h;refine⟨_,(aB (bM (VW.pt (fJ (cD (bU (aL (wL.or rG) (by rfl) T.bR bN (aH (vv 0) (va1 (fG (v:=.ty "str") (by rfl) T.aZe aV2 rfl)))))) (eG (cZ bEq (aL vA (by rfl) T.eZ cW (va1 (vv 0))) (tD (by rfl) T.aCf))))) (aD (aJ fP)) aU) (aD (aJ (aL (jT rfl) (by rfl) T.aBj tX (va1 (cI (N:=["sign"]) (by trivial) (jV (by decide +kernel)) rfl (aVi (vv 0)) (λC L n G=>⟨(bJ (i:=0) (show (["sign"]:List Str).Nodup from by decide +kernel) rfl (Or.inl rfl)),fW,(rN aRx (vv 0) (tD (by rfl) T.aFn) (by with_unfolding_all rfl))⟩))))))),?_⟩;refine⟨_,rfl,wG m (.inr (.inr rfl)) ⟨_,rfl,?_⟩⟩;have d:isS v=false->Q (.bl false) H:=λe=>by
  have z:sG 0 v=false:=by cases v <;> first|rfl|cases e
  rw[<-z];exact q H (Same.refl H)
 rcases id m with⟨x,rfl,j⟩|⟨i,rfl⟩|⟨b,rfl⟩|⟨k,h⟩
 ·refine bY ⟨_,rfl,_,rfl,small j,_,_,rfl,rfl,_,rfl,?_⟩;refine aLz (λc=>?_) (λc=>?_)
  ·have u:(8:Int)<x.length:=of_decide_eq_true c;have z:sG 0 (.str x)=false:=by show (decide (0<=x.length) && (decide (x.length<=8) && allIn x))=false;rw[v9 (p:=x.length<=8) (by lia)];simp
   rw[<-z];exact q H (Same.refl H)
  ·have u:¬ (8:Int)<x.length:=of_decide_eq_false (Bool.eq_false_iff.mpr c);dsimp only[sY,rA,tCB,dH];refine aQf ((List.range x.cps.size).map λi=>V.str (sgn x i)) (λv=>match v with|.str y=>V.bl (inA y)|_=>.bl false) [none] yM ?_
    (λR r=>bCy (z:=x) (λI t=>⟨_,rfl,t⟩) R r) (λv a n R l J r=>?_) rfl λD B=>?_
   ·rw[j6,bAH];exact small j
   ·obtain⟨i,_,rfl⟩:=List.mem_map.mp a;exact⟨_,rfl,_,_,rfl,rfl,r⟩
   ·refine⟨D,(List.range x.cps.size).map λi=>inA (sgn x i),rfl,SqL.of (by rw[aF,aTj]),?_⟩;have z:sG 0 (.str x)=allIn x:=by show (decide (0<=x.length) && (decide (x.length<=8) && allIn x))=allIn x;rw[m9 (p:=x.length<=8) (by lia)];simp
    show Q (.bl (allIn x)) _;rw[<-z];exact q _ (aW B _)
 ·exact eX (d rfl)
 ·exact eX (d rfl)
 ·cases h <;> exact eX (d rfl)
theorem aG8 (h:sG l v=true):∃x,v=.str x/\l<=x.length/\x.length<=8/\allIn x=true:=by
 cases v with
 |str x=>have h:(decide (l<=x.length) && (decide (x.length<=8) && allIn x))=true:=h;rw[bAS,bAS] at h;exact⟨x,rfl,of_decide_eq_true h.1,of_decide_eq_true h.2.1,h.2.2⟩
 |_=>cases h
def aEo:x=("":Str)↔x.length=0:=by
 constructor
 ·rintro rfl;decide +kernel
 ·intro h;obtain⟨a⟩:=x;have h:a.size=0:=h;rw[Array.size_eq_zero_iff] at h;subst h;decide +kernel
def aB3:words.all jB=true:=rfl
def aNj (T:Txt w K mg)(D:Ok P w K mg base 1 "is_word" o4 (aD8 K (sG 0))):Ok P w K mg base 2 "is_name" o4 (aD8 K nameB):=by
 refine Ok.ofV T.aRi aNe (by trivial) (λf n A k s H F Q E C h=>?_)
 obtain⟨v,rfl,y,q⟩:=h;obtain⟨l,t,g⟩:=T.iJ;have r:∃u,mg "QUESTION_WORDS"=some u/\RelV (.ref l) u:=⟨_,t,rfl⟩;refine⟨_,(aD (aJ (gU (aV D (va1 (vv 0))) (gU (vL vV (vv 0) bB) (gY (rN aHt (vv 0) (tD (by rfl) r) (by with_unfolding_all rfl))))))),?_⟩;refine⟨_,rfl,_,rfl,y,λa d=>⟨_,rfl,?_⟩⟩;refine aLz (λc=>?_) (λc=>?_)
 ·obtain⟨x,rfl,_,i,b⟩:=aG8 c;refine⟨_,rfl,rfl,_,rfl,?_⟩;by_cases e:x.length=0
  ·have B:=aEo.mpr e;subst B;refine bY ?_;have z:nameB (.str "")=false:=by decide +kernel
   rw[<-z];exact q a d
  ·have o:¬ (V.str x=V.str ""):=λz=>e (aEo.mp (V.str.inj z));have m:(!decide (V.str x=V.str ""))=true:=by rw[v9 o];rfl
   rw[m];refine eX ⟨_,rfl,l,words,rfl,.inr (g _),rfl,aB3,?_⟩;have z:nameB (.str x)=!inV (.str x) words:=by show ((decide (1<=x.length) && (decide (x.length<=8) && allIn x)) && !inV (.str x) words)=!inV (.str x) words;rw[m9 (p:=1<=x.length) (by lia),m9 i,b];rfl
   show Q (.bl (!inV (.str x) words)) a;rw[<-z];exact q a d
 ·have z:nameB v=false:=by
   show (sG 1 v && !inV v words)=false;cases j:sG 1 v with
   |false=>rfl
   |true=>obtain⟨x,rfl,G,i,b⟩:=aG8 j;refine absurd ?_ c;show (decide (0<=x.length) && (decide (x.length<=8) && allIn x))=true;rw[m9 i,b,m9 (bAC _)];rfl
  rw[<-z];exact q a d
theorem aKu (T:Txt w K mg)(k:Ok P w K mg base 1 "is_whole" o4 (mO K))(j:Ok P w K mg base 1 "is_word" o4 (aD8 K (sG 0))) :
  Ok P w K mg base 2 "is_value" o4 (aD8 K aNf):=by
 refine Ok.ofV T.aMz aIl (by trivial) (λf e A a s H l Q E i h=>?_)
 obtain⟨v,rfl,c,q⟩:=h;refine⟨_,(aD (aJ (aZ1 (aV k (va1 (vv 0))) (gY (aV j (va1 (vv 0))))))),?_⟩;refine⟨_,rfl,_,rfl,c,_,rfl,?_⟩;cases b:whole v with
 |true=>
  refine eX ?_;have z:aNf v=true:=by show (whole v || sG 0 v)=true;rw[b];rfl
  rw[<-z];exact q H (Same.refl H)
 |false=>
  refine bY ⟨_,rfl,_,rfl,c,λg d=>?_⟩;have z:aNf v=sG 0 v:=by show (whole v || sG 0 v)=sG 0 v;rw[b];rfl
  rw[<-z];exact q g d
theorem aN7 (T:Txt w K mg)(g:Ok P w K mg base 1 "is_whole" o4 (mO K)):Ok P w K mg base 2 "kind_of" ["value"] (aO9 K):=by
 refine Ok.ofV T.aQr aMf (by trivial) (λf c A a s H i Q E e h=>?_)
 obtain⟨v,rfl,d,q⟩:=h;refine⟨_,(aD (aJ (aJ7 (bU (aV g (va1 (vv 0)))) bB bB))),?_⟩;refine⟨_,rfl,_,rfl,d,_,rfl,?_⟩;cases b:whole v with
 |true=>rw[b] at q;exact eX q
 |false=>rw[b] at q;exact bY q
def at0 (x:V)(r:List V):atI (x::r) 0=some x:=by unfold atI ixN;simp
def at1 (x y:V)(r:List V):atI (x::y::r) 1=some y:=by unfold atI ixN;simp only[m8];rw[if_pos (by lia),if_pos (by lia)];rfl
theorem Tk.same (e:Same H H')(h:Tk K H v b):Tk K H' v b:=by
 cases h with
 |int=>exact .int
 |str=>exact .str
 |bl=>exact .bl
 |non=>exact .non
 |lst q=>exact .lst (e.seq q)
 |dct q=>exact .dct (e _ _ q)
 |tup q=>exact .tup (e.aR q)
structure Tells (R:Hp->V->Bool->Prop):Prop where
 same:∀{H H' v b},Same H H'->R H v b->R H' v b
def bBd (R:Hp->V->Bool->Prop):Sp:=λvs H Q _=>∃v b,vs=[v]/\R H v b/\∀H',Same H H'->Q (.bl b) H'
inductive aEn (K:bF4)(R:Hp->V->Bool->Prop)(lo hi:Nat)(H:Hp):V->Bool->Prop
 |no {v}:Tk K H v false->aEn K R lo hi H v false
 |len {a xs}:SqT K H a xs->¬ (lo<=xs.length/\xs.length<=hi)->aEn K R lo hi H (.ref a) false
 |yes {a xs} (f:V->Bool):SqT K H a xs->lo<=xs.length->xs.length<=hi->(∀x∈xs,R H x (f x))->aEn K R lo hi H (.ref a) (xs.all f)
def aM6 (K:bF4):Sp:=λvs H Q _=>∃v a xs,vs=[v,.ref a]/\Th K H v/\SqT K H a xs/\xs.all jB=true/\Q (.bl (isS v && inV v xs)) H
def aKf (P:Program)(w:World)(K:bF4)(mg:bF7)(base:Heap)(k:Nat):Sp:=λvs H Q _=>∃v lo hi f ps R b,vs=[v,.int (lo:Nat),.int (hi:Nat),.ref f]/\hi<=1000/\Held P w K mg base k f ps (bBd R)/\Tells R/\aEn K R lo hi H v b/\∀H',Same H H'->Q (.bl b) H'
inductive aEj (K:bF4)(vs:List V)(H:Hp)(Q:VK)(E_:XK):Prop
 |mk (a:Addr) (ss:List Str) (_:vs=[.ref a]) (_:SqL K H a (ss.map V.str)) (_:ss.length<=1000) (_:∀H',Same H H'->Q (.bl (decide ss.Nodup)) H')
def aGt (T:Txt w K mg):Ok P w K mg base 1 "is_one_of" ["thing","texts"] (aM6 K):=by
 refine Ok.ofV T.aKp aF4 (by trivial) (λf g A c s H n Q E m h=>?_)
 obtain⟨v,a,l,rfl,d,e,j,q⟩:=h;refine⟨_,(aD (aJ (gU (aL (wL.or rG) (by rfl) T.bR bN (aH (vv 0) (va1 (fG (v:=.ty "str") (by rfl) T.aZe aV2 rfl)))) (gY (rN xH (vv 0) (vv 1) (by with_unfolding_all rfl)))))),?_⟩;refine⟨_,rfl,wG d (.inr (.inr rfl)) ⟨_,rfl,?_⟩⟩;rcases id d with⟨x,rfl,_⟩|⟨i,rfl⟩|⟨b,rfl⟩|⟨k,h⟩
 ·exact eX ⟨_,rfl,_,rfl,a,l,rfl,.inr e,rfl,j,q⟩
 ·exact bY q
 ·exact bY q
 ·cases h <;> exact bY q
theorem aA8 (T:Txt w K mg):Ok P w K mg base (k+1) "is_tuple_of" o6 (aKf P w K mg base k):=by
 refine Ok.ofV T.tM qX (by trivial) (λf F A o s H X Q E y h=>?_)
 obtain⟨v,u,p,g,J,R,b,rfl,j,G,C,M,q⟩:=h;refine⟨_,(aB (bM (VW.pt (fJ (cD (bU (aL iQ (by rfl) T.bR bN (aH (vv 0) (va1 (fG (v:=.ty "tuple") (by rfl) T.gZ eY rfl)))))) (eG (cD (aA5 aB1 aB1 (vv 1) (aL aY (by rfl) T.eZ cW (va1 (vv 0))) (vv 2)))))) (aD (aJ fP)) aU) (aD (aJ (aL (jT rfl) (by rfl) T.aBj tX (va1 (cI (N:=["part","is_part"]) (by trivial) (eE (aC iU) rfl (by decide +kernel)) rfl (pO (vv 0)) (λS W d U=>⟨(bJ (i:=0) (show (["part","is_part"]:List Str).Nodup from by decide +kernel) rfl (Or.inl rfl)),fW,(aTe (P:=P) (w:=w) (K:=K) (mg:=mg) (base:=base) y (vv 1) (va1 (vv 0)))⟩))))))),?_⟩;cases M with
 |no h=>exact⟨_,rfl,_,_,rfl,h,_,rfl,eX (q H (Same.refl H))⟩
 |@len a xs ha hn=>refine⟨_,rfl,_,_,rfl,.tup ha,_,rfl,bY ?_⟩;refine⟨_,rfl,_,rfl,_,_,rfl,.inr ha,_,_,rfl,rfl,_,rfl,?_⟩;refine aLz (λc=>⟨_,rfl,_,_,rfl,rfl,_,rfl,?_⟩) (λc=>⟨_,rfl,eX (q H (Same.refl H))⟩);have Y:(u:Int)<=xs.length:=of_decide_eq_true c;have e:decide ((xs.length:Int)<=(p:Int))=false:=v9 λz=>hn ⟨by lia,by lia⟩;rw[e];exact eX (q H (Same.refl H))
 |@yes a xs t ha h1 h2 hx=>
  refine⟨_,rfl,_,_,rfl,.tup ha,_,rfl,bY ?_⟩;refine⟨_,rfl,_,rfl,_,_,rfl,.inr ha,_,_,rfl,rfl,_,rfl,?_⟩;have L:decide ((u:Int)<=(xs.length:Int))=true:=m9 (by lia);have B:decide ((xs.length:Int)<=(p:Int))=true:=m9 (by lia);rw[L];refine eX ⟨_,rfl,_,_,rfl,rfl,_,rfl,?_⟩;rw[B];refine bY ?_;dsimp only[sY,rA,tCB,dH];refine aE0 xs (λx=>.bl (t x)) [none,some (.ref g)] ?_ (small (by lia)) (λR r=>aNg ha (λV I=>⟨_,rfl,I⟩) R r) (λx n d R l m r=>?_) rfl λD d m O=>?_
  ·exact jN 3 (by decide +kernel) rfl rfl (by trivial)
  ·exact⟨_,rfl,g,J,_,rfl,G,_,rfl,x,t x,rfl,C.same m (hx x n),r⟩
  ·refine⟨D,xs.map t,rfl,SqL.of (by rw[O,bDY];rfl),?_⟩;rw[List.all_map];exact q d m
def aDn (T:Txt w K mg):Ok P w K mg base 1 "are_unlike" ["names"] (aEj K):=by
 refine Ok.ofV T.aGm aDv (by trivial) (λf k A c s H n Q E m h=>?_)
 obtain⟨a,b,rfl,d,l,q⟩:=h;refine⟨_,(aD (aJ (vL dN (aL aNz (by rfl) T.eZ cW (va1 (cC (aNl rfl) (by rfl) T.aO0 aHf (va1 (vv 0))))) (aL aY (by rfl) T.eZ cW (va1 (vv 0)))))),?_⟩;refine⟨_,rfl,a,b,rfl,d,l,λD i j g=>⟨D,i,rfl,aF,_,rfl,a,_,rfl,.inl ((aW j _).seq d),rfl,?_⟩⟩;have e:decide (V.int (i.length:Nat)=V.int (b.map V.str).length)=decide b.Nodup:=by rw[j6];exact decide_eq_decide.mpr ⟨λz=>(aIg g).mp (by have:=V.int.inj z;lia),λz=>by rw[(aIg g).mpr z]⟩
 rw[e];exact q _ (aW j _)
abbrev kinds:List V:=[.str "number",.str "word"]
inductive aG6 (K:bF4)(H:Hp):V->Bool->Prop
 |no {v}:Tk K H v false->aG6 K H v false
 |len {a xs}:SqT K H a xs->xs.length≠2->aG6 K H (.ref a) false
 |two {a x y}:SqT K H a [x,y]->Th K H x->Th K H y->aG6 K H (.ref a) (nameB x && (isS y && inV y kinds))
theorem aRn (K:bF4):Tells (aG6 K):=⟨λe h=>by
 cases h with
 |no q=>exact .no (Tk.same e q)
 |len q n=>exact .len (e.aR q) n
 |two q x y=>exact .two (e.aR q) (x.same e) (y.same e)⟩
theorem aF5 (T:Txt w K mg)(r:Ok P w K mg base 2 "is_name" o4 (aD8 K nameB))(t:Ok P w K mg base 1 "is_one_of" ["thing","texts"] (aM6 K)):Ok P w K mg base 3 "is_column" o4 (bBd (aG6 K)):=by
 refine Ok.ofV T.aKg aGq (by trivial) (λf m A j s H z Q E p h=>?_)
 obtain⟨v,b,rfl,o,q⟩:=h;obtain⟨k,n,g⟩:=T.aHw;have i:∃u,mg "KINDS"=some u/\RelV (.ref k) u:=⟨_,n,rfl⟩;refine⟨_,(aB (bM (VW.pt (fJ (cD (bU (aL iQ (by rfl) T.bR bN (aH (vv 0) (va1 (fG (v:=.ty "tuple") (by rfl) T.gZ eY rfl)))))) (eG (cZ vV (aL aY (by rfl) T.eZ cW (va1 (vv 0))) aA)))) (aD (aJ fP)) aU) (aD (aJ (gU (aV r (va1 (aO aP (vv 0) aA))) (gY (aV t (aH (aO aP (vv 0) aA) (va1 (tD (by rfl) i))))))))),?_⟩;cases o with
 |no h=>exact⟨_,rfl,_,_,rfl,h,_,rfl,eX (q H (Same.refl H))⟩
 |@len a xs ha d=>
  refine⟨_,rfl,_,_,rfl,.tup ha,_,rfl,bY ?_⟩;refine⟨_,rfl,_,_,rfl,.inr ha,rfl,_,rfl,?_⟩;have e:(!decide (V.int (xs.length:Nat)=V.int 2))=true:=by rw[v9 (by intro y;apply d;have:=V.int.inj y;lia)];rfl
  rw[e];exact eX (q H (Same.refl H))
 |@two a x y ha hx hy=>
  refine⟨_,rfl,_,_,rfl,.tup ha,_,rfl,bY ?_⟩;refine⟨_,rfl,_,_,rfl,.inr ha,rfl,_,rfl,bY ?_⟩;refine⟨_,rfl,a,_,0,_,rfl,rfl,ha,at0 _ _,x,rfl,hx,λl c=>⟨_,rfl,?_⟩⟩;cases d:nameB x with
  |false=>rw[d] at q;exact bY (q l c)
  |true=>rw[d] at q;refine eX ⟨_,rfl,a,_,1,_,rfl,rfl,c.aR ha,at1 _ _ _,y,k,kinds,rfl,hy.same c,g _,rfl,q l c⟩
def kindS (v:V):Str:=if whole v then "number" else "word"
def aOd (K:bF4):Sp:=λvs H Q _=>∃v k,vs=[v,.str k]/\Th K H v/\∀H',Same H H'->Q (.bl (aNf v && decide (kindS v=k))) H'
theorem aA3 (T:Txt w K mg)(g:Ok P w K mg base 2 "is_value" o4 (aD8 K aNf))(j:Ok P w K mg base 2 "kind_of" ["value"] (aO9 K)):Ok P w K mg base 3 "is_value_of" ["thing","kind"] (aOd K):=by
 refine Ok.ofV T.aD1 aCa (by trivial) (λf i A c s H m Q E l h=>?_)
 obtain⟨v,k,rfl,d,q⟩:=h;refine⟨_,(aD (aJ (gU (aV g (va1 (vv 0))) (gY (vL dN (aV j (va1 (vv 0))) (vv 1)))))),?_⟩;refine⟨_,rfl,v,rfl,d,λe b=>⟨_,rfl,?_⟩⟩;cases a:aNf v with
 |false=>rw[a] at q;exact bY (q e b)
 |true=>rw[a] at q;refine eX ⟨_,rfl,v,rfl,d.same b,_,rfl,rfl,?_⟩;have z:decide (V.str (if whole v then "number" else "word")=V.str k)=decide (kindS v=k):=decide_eq_decide.mpr ⟨λy=>V.str.inj y,λy=>congrArg V.str y⟩;rw[z];exact q e b
def at2 (x y z:V)(r:List V):atI (x::y::z::r) 2=some z:=by unfold atI ixN;simp only[m8];rw[if_pos (by lia),if_pos (by lia)];rfl
def aL3 (h:x.length<=8):Th K H (.str x):=.inl ⟨x,rfl,by lia⟩
def Nm (x:Str):Prop:=nameB (.str x)=true
def aSj (h:nameB (.str x)=true):x.length<=8:=by have h:(sG 1 (.str x) && !inV (.str x) words)=true:=h;rw[bAS] at h;obtain⟨y,e,_,a,_⟩:=aG8 h.1;cases e;exact a
def Nm.th (h:Nm x):Th K H (.str x):=aL3 (aSj h)
inductive cG {α β:Type}(R:α->β->Prop):List α->List β->Prop
 |nil:cG R [] []
 |cons {a b as bs}:R a b->cG R as bs->cG R (a::as) (b::bs)
theorem cG.len {α β:Type}{R:α->β->Prop}{as:List α}{bs:List β}(h:cG R as bs):as.length=bs.length:=by
 induction h with
 |nil=>rfl
 |cons _ _ ih=>rw[m8,m8,ih]
theorem cG.imp {α β:Type}{R S:α->β->Prop}{as:List α}{bs:List β}(h:cG R as bs)(k:∀a b,R a b->S a b):cG S as bs:=by
 induction h with
 |nil=>exact .nil
 |cons r _ ih=>exact .cons (k _ _ r) ih
theorem cG.mem {α β:Type}{R:α->β->Prop}{as:List α}{bs:List β}(h:cG R as bs){a:α}(m:a∈as):∃b,b∈bs/\R a b:=by
 induction h with
 |nil=>cases m
 |cons r _ ih=>
  rcases List.mem_cons.mp m with rfl|m
  ·exact⟨_,j0 ..,r⟩
  ·obtain⟨b,c,q⟩:=ih m;exact⟨b,j5 _ c,q⟩
theorem cG.app {α β:Type}{R:α->β->Prop}{as cs:List α}{bs ds:List β}(h:cG R as bs)(k:cG R cs ds):cG R (as++cs) (bs++ds):=by
 induction h with
 |nil=>exact k
 |cons r _ ih=>exact .cons r ih
def lY {α:Type}(K:bF4)(H:Hp)(R:V->α->Prop)(v:V)(xs:List α):Prop:=∃a vs,v=.ref a/\SqT K H a vs/\cG R vs xs
def lY.same {α:Type}{K:bF4}{H H':Hp}{R S:V->α->Prop}{v:V}{xs:List α}(e:Same H H')(k:∀a b,R a b->S a b)(h:lY K H R v xs):lY K H' S v xs:=by obtain⟨a,c,rfl,f,d⟩:=h;exact⟨a,c,rfl,e.aR f,d.imp k⟩
abbrev Hdr:=List (Str × Str)
def IsC (K:bF4)(H:Hp)(v:V)(c:Str × Str):Prop:=∃p,v=.ref p/\SqT K H p [.str c.1,.str c.2]
def IsC.same (e:Same H H')(h:IsC K H v c):IsC K H' v c:=by obtain⟨p,rfl,a⟩:=h;exact⟨p,rfl,e.aR a⟩
def jH (K:bF4)(H:Hp)(v:V)(hd:Hdr):Prop:=lY K H (IsC K H) v hd
theorem jH.same (e:Same H H')(h:jH K H v hd):jH K H' v hd:=lY.same e (λ_ _ q=>q.same e) h
def look (hd:Hdr)(n:Str):Option Str:=(hd.find? λc=>decide (c.1=n)).map (·.2)
theorem aHg {n k:Str}:∀{hd:Hdr},look hd n=some k->∃i,hd[i]?=some (n,k)/\∀(j:Nat) (c:Str × Str),j<i->hd[j]?=some c->c.1≠n
 |[],h=>by cases h
 |(m,j)::r,h=>by
  unfold look at h;rw[bCH] at h;by_cases e:m=n
  ·rw[m9 e] at h;have l:=bAK h;subst e l;exact⟨0,rfl,λj c d=>absurd d (bCX _)⟩
  ·rw[v9 e] at h;obtain⟨i,f,g⟩:=aHg h;refine⟨i+1,by simpa using f,λa c d b=>?_⟩;cases a with
   |zero=>cases b;exact e
   |succ a=>exact g a c (by lia) (by simpa using b)
theorem cA {α β:Type}{R:α->β->Prop}:∀{as:List α} {bs:List β},cG R as bs->∀{i:Nat} {a:α},as[i]?=some a->∃b,bs[i]?=some b/\R a b
 |_,_,.cons r t,0,_,h1=>by cases h1;exact⟨_,rfl,r⟩
 |_,_,.cons r t,i+1,a,h1=>by obtain⟨b,e,q⟩:=cA t (by simpa using h1);exact⟨b,by simpa using e,q⟩
def aVg (K:bF4):Sp:=λvs H Q _=>∃vh n hd k,vs=[vh,.str n]/\jH K H vh hd/\look hd n=some k/\Q (.str k) H
def aN3 (T:Txt w K mg):Ok P w K mg base 1 "kind_in" bQJ (aVg K):=by
 refine Ok.ofV T.aQb aA9 (by trivial) (λf y A j s H J Q E G h=>?_)
 obtain⟨I,n,hd,k,rfl,⟨a,u,rfl,m,t⟩,v,q⟩:=h;have F:=aA9.nd;refine⟨_,(aB (iT PassesOwn.never rfl (pO (vv 0)) (cQ 2) (aD (bM (cZ dN (aO (bL (K:=K)) (vv 2) aA) (vv 1)) (aD (aJ (aO (bL (K:=K)) (vv 2) aA))) aU))) (aD dX)),?_⟩;obtain⟨d,o,C⟩:=aHg v;have D:d<u.length:=by rw[t.len];exact (List.getElem?_eq_some_iff.mp o).1
 refine⟨_,rfl,a,rfl,⟨_,m⟩,aWp (λi σ b=>b=H/\i<=d/\∃l,σ=[some (.ref a),some (.str n),l]) ⟨rfl,bAC _,_,rfl⟩ (λi σ b _ ⟨e,_⟩=>by rw[e];exact m) ?_ ?_⟩
 ·rintro i x σ b hx ⟨rfl,hi,l,rfl⟩;obtain⟨c,g,p,rfl,r⟩:=cA t hx;refine⟨_,rfl,p,_,0,_,rfl,rfl,r,at0 _ _,_,rfl,rfl,_,rfl,?_⟩;by_cases e:i=d
  ·subst e;rw[o] at g;cases g;rw[m9 rfl];exact eX ⟨_,rfl,p,_,1,_,rfl,rfl,r,at1 _ _ _,q⟩
  ·have B:=C i c (by lia) g;rw[v9 (by intro z;exact B (V.str.inj z))];exact bY ⟨rfl,by lia,_,rfl⟩
 ·rintro σ b ⟨rfl,hi,_⟩;lia
theorem aUh {α:Type}{f:α->V}{xs:List α}{i:Nat}{y:V}(h:(xs.map f)[i]?=some y):∃x,xs[i]?=some x/\y=f x:=by
 rw[v7] at h;cases e:xs[i]? with
 |none=>rw[e] at h;cases h
 |some x=>rw[e] at h;cases h;exact⟨x,rfl,rfl⟩
def Good (hd:Hdr):Prop:=(hd.map (·.1)).Nodup/\1<=hd.length/\hd.length<=8
def aF3 (K:bF4):Sp:=λvs H Q _=>∃v hd,vs=[v]/\jH K H v hd/\hd.length<=1000/\∀D H',Same H H'->H' D=some (.lst ((hd.map (·.1)).map V.str))->Q (.ref D) H'
def aFy (T:Txt w K mg):Ok P w K mg base 1 "names_of" ["head"] (aF3 K):=by
 refine Ok.ofV T.aNu aLa (by trivial) (λf o A e s H S Q E I h=>?_)
 obtain⟨v,hd,rfl,⟨a,k,rfl,m,j⟩,M,q⟩:=h;refine⟨_,(aD (aJ (cI (N:=["column"]) (by trivial) (jV (by decide +kernel)) rfl (pO (vv 0)) (λG O b J=>⟨(bJ (i:=0) (show (["column"]:List Str).Nodup from by decide +kernel) rfl (Or.inl rfl)),fW,(aO (bL (K:=K)) (vv 0) aA)⟩)))),?_⟩;have U:=j.len;refine aW6 k ((hd.map (·.1)).map V.str) (by rw[j6,j6];lia) [none] yM (small (by lia)) (λR r=>aNg m (λL t=>⟨_,rfl,t⟩) R r) (λi x y C z b R l d r=>?_) rfl λD b d F=>q D b d F;obtain⟨c,B,p,rfl,u⟩:=cA j C;obtain⟨n,g,rfl⟩:=aUh z;rw[v7,B] at g;cases g;exact⟨_,rfl,p,_,0,_,rfl,rfl,d.aR u,at0 _ _,r b (Same.refl b)⟩
def plc:Hdr->Str->Nat
 |[],_=>0
 |c::r,n=>if c.1=n then 0 else plc r n+1
theorem aHs:∀{hd:Hdr},look hd n=some k->hd[plc hd n]?=some (n,k)/\∀j c,j<plc hd n->hd[j]?=some c->c.1≠n
 |[],h=>by cases h
 |(m,q)::r,h=>by
  unfold look at h;rw[bCH] at h;by_cases e:m=n
  ·rw[m9 e] at h;have f:=bAK h;subst e f;have z:plc ((m,q)::r) m=0:=if_pos rfl;rw[z];exact⟨rfl,λj c b=>absurd b (bCX _)⟩
  ·rw[v9 e] at h;obtain⟨d,g⟩:=aHs h;have z:plc ((m,q)::r) n=plc r n+1:=if_neg e;rw[z];refine⟨by simpa using d,λj c b a=>?_⟩;cases j with
   |zero=>cases a;exact e
   |succ j=>exact g j c (by lia) (by simpa using a)
def mG (K:bF4):Sp:=λvs H Q _=>∃vh n hd k,vs=[vh,.str n]/\jH K H vh hd/\hd.length<=1000/\look hd n=some k/\∀H',Same H H'->Q (.int (plc hd n:Nat)) H'
def zW (T:Txt w K mg)(z:Ok P w K mg base 1 "names_of" ["head"] (aF3 K)):Ok P w K mg base 2 "place_of" bQJ (mG K):=by
 refine Ok.ofV T.aM0 aI7 (by trivial) (λf o A a s H B Q E y h=>?_)
 obtain⟨p,n,hd,k,rfl,t,e,i,q⟩:=h;obtain⟨u,l⟩:=aHs i;refine⟨_,(aD (aJ (sX PySem.F.plainAttrs_list PySem.F.slot_list_index PySem.F.type_list_index aFv (aV z (va1 (vv 0))) (va1 (vv 1))))),?_⟩;refine⟨_,rfl,p,hd,rfl,t,e,λD x g b=>?_⟩;refine⟨.inl ⟨rfl,_,SqL.of b⟩,_,rfl,D,hd.map (·.1),n,plc hd n,rfl,rfl,SqL.of b,by rw[j6];exact e,by rw[v7,u];rfl,λj m r d=>?_,q x g⟩;rw[v7] at d;obtain⟨c,v,rfl⟩:=Option.map_eq_some_iff.mp d;exact l j c r v
def aOf {n:Str}{ss:List Str}:inV (.str n) (ss.map V.str)=decide (n∈ss):=by
 unfold inV;rw[bCG,bDX,decide_eq_true_eq];constructor
 ·rintro⟨v,d,e⟩;obtain⟨z,c,rfl⟩:=List.mem_map.mp d;have b:(z == n)=true:=e;have a:z=n:=by simpa using b
  rw[<-a];exact c
 ·intro h;refine⟨.str n,List.mem_map.mpr ⟨n,h,rfl⟩,?_⟩;show (n == n)=true;simp
def aIz {ss:List Str}:(ss.map V.str).all jB=true:=by rw[bBZ];intro v a;obtain⟨z,_,rfl⟩:=List.mem_map.mp a;rfl
def aO8 {z:Str}{j:Int}(h0:0<=j)(h1:j<z.length):∃c,z.cps[j.toNat]?=some c:=
 ⟨_,j7 (by show j.toNat<z.length;lia)⟩
def aF1 (x y:Str):(x++y).length=x.length+y.length:=by show (x.cps++y.cps).size=_;rw[Array.size_append];rfl
def at_of {xs:List V}{j:Int}(h0:0<=j)(h1:j<xs.length):∃v,atI xs j=some v/\v∈xs:=by
 have b:j.toNat<xs.length:=by lia
 refine⟨xs[j.toNat],?_,bAT b⟩;have a:=bH (b8 b);rw[show ((j.toNat:Nat):Int)=j by lia] at a;exact a
def Lets (x:Str):Prop:=∀c∈x.cps,97<=c/\c<=122
def aY3:∀k:_root_.Fin 26,inA ⟨#[97+k.val]⟩=true:=by decide +kernel
def bB7 (h1:97<=c)(h2:c<=122):inA ⟨#[c]⟩=true:=by have:=aY3 ⟨c - 97,by lia⟩;simp only at this;rw[show 97+(c - 97)=c by lia] at this;exact this
def allIn_of (h:Lets x):allIn x=true:=by
 unfold allIn;rw[bBZ];intro b f;obtain⟨i,g,rfl⟩:=List.mem_map.mp f;have a:=List.mem_range.mp g;have e:x.cps.getD i 0=x.cps[i]:=by rw[v6,j7 a];rfl
 obtain⟨c,d⟩:=h _ (bEX a);unfold sgn;rw[e];exact bB7 c d
def Lets.add (d:Lets x)(b:Lets y):Lets (x++y):=λc a=>by
 have a:=a;rcases Array.mem_append.mp a with h|h
 ·exact d c h
 ·exact b c h
def Lets.one {z:Str}{i c:Nat}(a:Lets z)(h:z.cps[i]?=some c):Lets ⟨#[c]⟩:=λd hd=>by
 have hd:=hd;have e:d=c:=by simpa using hd
 subst e;exact a _ (bDR h)
def aJw:Lets abc:=by
 have h:(abc.cps.all λc=>decide (97<=c) && decide (c<=122))=true:=by decide +kernel
 intro c a;have:=(Array.all_eq_true_iff_forall_mem.mp h) c a;rw[bAS] at this;exact⟨of_decide_eq_true this.1,of_decide_eq_true this.2⟩
inductive cF:Str->V->Prop
 |num {i}:cF "number" (.int i)
 |wrd {x}:Lets x->x.length<=8->cF "word" (.str x)
def val (c:Nat):Int:=(c:Int) - 96
def num (x:Str):Nat->Int
 |0=>0
 |n+1=>num x n * 27+val (x.cps.getD n 0)
def aWv:∀k:_root_.Fin 26,Builtin.Str.occurrences abc ⟨#[97+k.val]⟩ 0 abc.length 1=[k.val]:=by decide +kernel
def occ (h1:97<=c)(h2:c<=122):Builtin.Str.occurrences abc ⟨#[c]⟩ 0 abc.length 1=[c - 97]:=by
 have h:=aWv ⟨c - 97,by lia⟩;have e:97+(c - 97)=c:=by lia
 simpa [e] using h
def Vl (v:V):Prop:=(∃i,v=.int i)\/∃x,v=.str x/\Lets x/\x.length<=8
def nm:V->Int
 |.int i=>i
 |.str x=>num x x.cps.size
 |_=>0
def Lets.at (h:Lets x)(hi:i<x.cps.size):97<=x.cps.getD i 0/\x.cps.getD i 0<=122:=by rw[v6,j7 hi];exact h _ (bEX hi)
def Vl.th (h:Vl v):Th K H v:=by
 rcases h with⟨i,rfl⟩|⟨x,rfl,_,h8⟩
 ·exact .inr (.inl ⟨i,rfl⟩)
 ·exact .inl ⟨x,rfl,by lia⟩
def aO4:Sp:=λvs H Q _=>∃x,vs=[.str x]/\Lets x/\Q (.int (num x x.cps.size)) H
def aPf:Sp:=λvs H Q _=>∃v h,vs=[v,.int h]/\Vl v/\0<h/\Q (.int (nm v % h)) H
def aA4 (T:Txt w K mg):Ok P w K mg base 1 "word_number" ["word"] aO4:=by
 refine Ok.ofV T.aD3 pZ (by trivial) (λf d A b s H o Q E m h=>?_)
 obtain⟨x,rfl,g,q⟩:=h;have k:=pZ.nd;refine⟨_,(aB (aZ 1 aA) (aB (iT PassesOwn.never rfl (aVi (vv 0)) (cQ 2) (aD (aZ 1 (bF dG (bF dG (bF yU (vv 1) (tD (by rfl) T.aJd)) (sX PySem.F.plainAttrs_str PySem.F.slot_str_index PySem.F.type_str_index aTx (tD (by rfl) T.aFn) (va1 (vv 2)))) aA)))) (aD (aJ (vv 1))))),?_⟩;refine⟨_,rfl,_,rfl,aYw (λi σ a=>a=H/\∃l,σ=[some (.str x),some (.int (num x i)),l]) ⟨rfl,_,rfl⟩ ?_ ?_⟩
 ·rintro i σ a hi ⟨rfl,l,rfl⟩;obtain⟨j,c⟩:=g.at hi;refine⟨_,rfl,_,_,rfl,rfl,.inr ⟨by decide,by decide⟩,rfl,_,rfl,_,_,_,_,rfl,rfl,occ j c,_,_,rfl,rfl,_,_,rfl,rfl,rfl,some (.str (sgn x i)),?_⟩;have e:num x i * 27+((x.cps.getD i 0 - 97:Nat):Int)+1=num x (i+1):=by show num x i * 27+((x.cps.getD i 0 - 97:Nat):Int)+1=num x i * 27+((x.cps.getD i 0:Int) - 96);lia
  exact congrArg (λn=>[some (V.str x),some (V.int n),some (V.str (sgn x i))]) e
 ·rintro σ a ⟨rfl,l,rfl⟩;exact⟨_,rfl,q⟩
def aXd (T:Txt w K mg)(l:Ok P w K mg base 1 "is_whole" o4 (mO K))(e:Ok P w K mg base 1 "word_number" ["word"] aO4):Ok P w K mg base 2 "home" ["value","houses"] aPf:=by
 refine Ok.ofV T.bAe aPg (by trivial) (λf g A a s H m Q E k h=>?_)
 obtain⟨v,h,rfl,d,c,q⟩:=h;have j:=aPg.nd;refine⟨_,(aB (aZ 2 (aJ7 (bU (aV l (va1 (vv 0)))) (vv 0) (aV e (va1 (vv 0))))) (aD (aJ (bF jX (vv 2) (vv 1))))),?_⟩;have b:=d.th (K:=K) (H:=H);rcases d with⟨i,rfl⟩|⟨x,rfl,hx,h8⟩
 ·exact⟨_,rfl,_,rfl,b,_,rfl,eX ⟨_,rfl,_,rfl,_,rfl,_,_,rfl,rfl,c,q⟩⟩
 ·exact⟨_,rfl,_,rfl,b,_,rfl,bY ⟨_,rfl,_,rfl,hx,_,rfl,_,rfl,_,_,rfl,rfl,c,q⟩⟩
inductive wB (vs:List V)(H:Hp)(Q:VK)(E_:XK):Prop
 |mk (i m:Int) (_:vs=[.int i,.int m]) (_:Q (.bl (decide (0<=i) && decide (i<m))) H)
theorem uA (T:Txt w K mg)(e:Ok P w K mg base 1 "is_whole" o4 (mO K)):Ok P w K mg base 2 "is_number_below" ["thing","many"] wB:=by
 refine Ok.ofV T.wZ uE (by trivial) (λf c A a s H g Q E d h=>?_)
 obtain⟨i,m,rfl,q⟩:=h;refine⟨_,(aD (aJ (gU (aV e (va1 (vv 0))) (gY (aSv aB1 aSg aA (vv 0) (vv 1)))))),?_⟩;refine⟨_,rfl,_,rfl,.inr (.inl ⟨i,rfl⟩),_,rfl,eX ?_⟩;refine⟨_,rfl,_,_,rfl,rfl,_,rfl,?_⟩;cases b:decide (0<=i) with
 |false=>rw[b] at q;exact bY q
 |true=>rw[b] at q;exact eX ⟨_,rfl,_,_,rfl,rfl,q⟩
end
end My
namespace PySem.W
open PySem PySem.Calls PyProof.Rows
def KasT.ev {α:Type}(f:Nat->Nat->Bool):KasT α->α
 |.ret a=>a
 |.ask i j k=>(k (f i j)).ev f
inductive KasT.Low {α:Type}(n:Nat)(P:α->Prop):KasT α->Prop
 |ret {a}:P a->KasT.Low n P (.ret a)
 |ask {i j k}:i<n->j<n->(∀b,KasT.Low n P (k b))->KasT.Low n P (.ask i j k)
theorem KasT.Low.bind {α β:Type}{n:Nat}{P:α->Prop}{R:β->Prop}{t:KasT α}{f:α->KasT β}(h:t.Low n P)(c:∀a,P a->(f a).Low n R):(t.bind f).Low n R:=by
 induction h with
 |ret h=>exact c _ h
 |ask a b _ ih=>exact .ask a b ih
theorem KasT.Low.of {α:Type}{n:Nat}{P:α->Prop}{t:KasT α}(h:t.Low n P)(f:Nat->Nat->Bool):P (t.ev f):=by
 induction h with
 |ret h=>exact h
 |@ask i j k a b _ ih=>exact ih (f i j)
theorem bC0 {α:Type}{n:Nat}{P:α->Prop}{f:Nat->Nat->Bool}{cmp:Nat->Nat->(Bool->Shared->Prop)->Shared->Prop}{s:Shared}(c:∀i j C,i<n->j<n->C (f i j) s->cmp i j C s){t:KasT α}(h:t.Low n P){Q:α->Shared->Prop}(q:Q (t.ev f) s):t.kasWp cmp Q s:=by
 induction h with
 |ret h=>exact q
 |@ask i j k a b _ ih=>exact c i j _ a b (ih (f i j) q)
def Pl (n:Nat)(p:Array Nat):Prop:=p.size=n/\∀k,p.getD k 0<n
def Pl.perm (h:Pl n p)(e:q.Perm p)(g:0<n):Pl n q:=by
 refine⟨e.size_eq.trans h.1,λk=>?_⟩;by_cases b:k<q.size
 ·have c:q[k]∈p.toList:=(Array.perm_iff_toList_perm.mp e).mem_iff.mp (by simp);obtain⟨j,d,f⟩:=bBA c;have a:j<p.size:=by simpa using d
  have:=h.2 j;rw[v6,j7 a,bBN] at this;rw[v6,j7 b,bBN,<-f];simpa using this
 ·rw[v6,bCE (by lia)];exact g
theorem aH2 (h:Pl n p):∀f m,(kas_asc p f m).Low n (λr=>m<=r/\r<=m+f)
 |0,m=>.ret ⟨d8 _,d8 _⟩
 |f+1,m=>by
  refine .ask (h.2 _) (h.2 _) λc=>?_;by_cases e:c=true
  ·rw[if_pos e];exact .ret ⟨d8 _,by lia⟩
  ·rw[if_neg e];have z:=aH2 h f (m+1);generalize kas_asc p f (m+1)=t at z
   induction z with
   |ret q=>exact .ret ⟨by lia,by lia⟩
   |ask a b _ ih=>exact .ask a b ih
theorem wX (a:0<n):∀f p m q,Pl n p->(kas_desc f p m q).Low n (λr=>Pl n r.1)
 |0,p,m,q,h=>.ret h
 |f+1,p,m,q,h=>by
  refine .ask (h.2 _) (h.2 _) λc=>?_;by_cases e:c=true
  ·rw[if_pos e];by_cases g:q > 0
   ·rw[if_pos g];exact wX a f _ _ _ (h.perm (mirror_perm _ _ _ _) a)
   ·rw[if_neg g];exact wX a f _ _ _ h
  ·rw[if_neg e];refine .ask (h.2 _) (h.2 _) λd=>?_;by_cases b:d=true
   ·rw[if_pos b];exact .ret h
   ·rw[if_neg b];exact wX a f _ _ _ h
def aEf {n:Nat}(b:0<n){p:Array Nat}(h:Pl n p)(m nrem:Nat):(kas_tail3 m nrem p).Low n (λr=>Pl n r.2):=by have a:Pl n (kas_rev p 0 m):=h.perm (mirror_perm _ _ _ _) b;exact (aH2 a _ _).bind λ_ _=>.ret a
def vY {n:Nat}(a:0<n){p:Array Nat}(h:Pl n p)(m nrem:Nat):(kas_descPart m nrem p).Low n (λr=>Pl n r.2):=by
 refine (wX a _ _ _ _ h).bind λr b=>?_;by_cases e:r.2.2 > 0
 ·rw[if_pos e];exact aEf a (b.perm (mirror_perm _ _ _ _) a) _ _
 ·rw[if_neg e];exact aEf a b _ _
def aRe {n:Nat}(b:0<n){p:Array Nat}(h:Pl n p)(f:Nat):(kas_count f p).Low n (λr=>Pl n r.2):=by
 refine (aH2 h _ _).bind λm _=>?_;by_cases e:(m == f)=true
 ·rw[if_pos e];exact .ret h
 ·rw[if_neg e];by_cases d:m > 1
  ·rw[if_pos d];refine .ask (h.2 _) (h.2 _) λc=>?_;by_cases a:c=true
   ·rw[if_pos a];exact .ret h
   ·rw[if_neg a];exact vY b (h.perm (mirror_perm _ _ _ _) b) _ _
  ·rw[if_neg d];exact vY b h _ _
theorem yX (h:Pl n p)(k:Nat):∀f l r,(kas_place p k f l r).Low n (λ_=>True)
 |0,l,r=>.ret trivial
 |f+1,l,r=>by
  unfold kas_place;by_cases e:l ≥ r
  ·rw[if_pos e];exact .ret trivial
  ·rw[if_neg e];refine .ask (h.2 _) (h.2 _) λc=>?_;by_cases a:c=true
   ·rw[if_pos a];exact yX h k f _ _
   ·rw[if_neg a];exact yX h k f _ _
theorem aPa {n:Nat}(a:0<n):∀(f:Nat) (p:Array Nat) (k:Nat),Pl n p->(kas_bin f p k).Low n (Pl n)
 |0,p,k,h=>.ret h
 |f+1,p,k,h=>(yX h k k 0 k).bind λl _=>aPa a f _ _ (h.perm (bubble_perm _ _ _) a)
def aV4 (a:0<n):Pl n (List.toArray (List.range n)):=by
 refine⟨by simp,λk=>?_⟩;rw[v6,bFF];by_cases h:k<n
 ·rw[bCP h];exact h
 ·rw[bAA (by simpa using h)];exact a
def vI {n:Nat}(b:0<n):(kas_sort n).Low n (Pl n):=by
 refine (aRe b (aV4 b) n).bind λr a=>?_;by_cases e:r.1<n
 ·rw[if_pos e];exact aPa b _ _ _ a
 ·rw[if_neg e];exact .ret a
def dM (n:Nat)(f:Nat->Nat->Bool):List Nat:=if n<2 then List.range n else ((kas_sort n).ev f).toList
def rM (n:Nat)(f:Nat->Nat->Bool):(dM n f).length=n:=by
 unfold dM;by_cases h:n<2
 ·rw[if_pos h,bAH]
 ·rw[if_neg h,v4];exact ((vI (by lia)).of f).1
def mJ (h:i∈dM n f):i<n:=by
 unfold dM at h;by_cases b:n<2
 ·rw[if_pos b] at h;exact List.mem_range.mp h
 ·rw[if_neg b] at h;have z:=(vI (n:=n) (by lia)).of f;obtain⟨j,c,e⟩:=bBA h;have a:j<((kas_sort n).ev f).size:=by simpa using c
  have:=z.2 j;rw[v6,j7 a,bBN] at this;rw[<-e];simpa using this
section
variable {prog:Program}{w:World}{A:Around}{E:bF5}{s:Shared}{f:Nat->Nat->Bool}
def pD (ho:s.heap.get? a=some (seqObj "list" vs.toArray n))(K:vs.length<64)
  (F:2<=vs.length->∀h',(∀b o,b≠a->s.heap.get? b=some o->h'.get? b=some o)->∃κ,(∀(Q:SortKind->Shared->Prop),Q κ { s with heap:=h' }->wpAny (model prog w) A (keyKind' vs.toArray) Q (λ_ _=>False) { s with heap:=h' })/\∀i j (C:Bool->Shared->Prop),i<vs.length->j<vs.length->C (f i j) { s with heap:=h' }->kas_ask prog w A κ vs i j C { s with heap:=h' })
  (h:P (.done (.ret .none)) { s with heap:=sortedHeap s.heap a vs (List.toArray ((dM vs.length f).map λi=>vs.getD i Value.none)) }) :
  wpAny (model prog w) A (Builtin.«list.sort» ⟨[.ref a],[]⟩) P E s:=by
 rw[list_sort_plain];have D:a<s.heap.objs.size:=j9 ho;refine b7 (listItems_at ho rfl ?_);refine b7 (listUpdate_at ho rfl ?_ (by rw[d9,sizeLine_eq];lia) (bAC _));obtain⟨y,r⟩:∃y,(s.heap.update a (Obj.mapSeq λ_=>#[])).get? a=some (seqObj "list" #[] y):=⟨_,get?_update_seq ho (λ_=>#[])⟩;refine b7 (seqEpoch_at r rfl ?_);refine b7 (bFT ?_ (by show vs.length<=_;rw[sizeLine_eq];lia));refine b7 (wpAny_newList ?_ (bAC _));refine bAR ?_;have c:(((s.heap.update a (Obj.mapSeq λ_=>#[])).push (seqObj "tuple" vs.toArray 0)).push (seqObj "list" #[] 0)).get? a=some (seqObj "list" #[] y):=by rw[bEY _ _ _ (by rw[size_push',Heap.size_update];exact v8 (bBU D)),bEY _ _ _ (by rw[Heap.size_update];exact v8 D)];exact r
 have m:∀b o,b≠a->s.heap.get? b=some o->(((s.heap.update a (Obj.mapSeq λ_=>(#[]:Array Value))).push (seqObj "tuple" vs.toArray 0)).push (seqObj "list" #[] 0)).get? b=some o:=λb o L q=>by refine c7 _ (c7 _ ?_);rw[bEA _ _ _ _ L];exact q
 show wpAny (model prog w) A _ P E { s with heap:=((s.heap.update a (Obj.mapSeq λ_=>#[])).push (seqObj "tuple" vs.toArray 0)).push (seqObj "list" #[] 0) };dsimp only;have l:vs.toArray.size=vs.length:=by simp
 by_cases k:vs.toArray.size<2
 ·rw[if_pos k,if_pos k];refine b7 (d7 ?_);rw[StateT.run_pure];refine b7 (d7 ?_);dsimp only;refine b7 (seqEpoch_at c rfl ?_);refine b7 (listUpdate_at c rfl ?_ (hsz2:=by rw[Array.size_map];show (pairsOf vs).size<=_;rw[pairsOf_size,sizeLine_eq];lia));simp only[bne_self_eq_false,bAU,if_false];refine d7 ?_;have e:((arrOf (SortSt.mk' general' (vs.toArray.zip vs.toArray) #[] 7 none)).map (·.2))=List.toArray ((dM vs.length f).map λi=>vs.getD i Value.none):=by
   show ((vs.toArray.zip vs.toArray).map (·.2))=_;unfold dM;rw[if_pos (by lia)]
   match vs,l,k with
   |[],_,_=>simp
   |[x],_,_=>simp[List.range,List.range.loop]
   |_::_::_,l,k=>rw[l,m8,m8] at k;lia
  rw[e];exact h
 ·rw[if_neg k,if_neg k];have u:2<=vs.length:=by lia
  obtain⟨κ,B,z⟩:=F u _ m;refine b7 (bAX (B (fun G d=>(kas_sort vs.length).kasWp (kas_ask prog w A G vs) (λp d=>d={ s with heap:=((s.heap.update a (Obj.mapSeq λ_=>#[])).push (seqObj "tuple" vs.toArray 0)).push (seqObj "list" #[] 0) }/\p=(kas_sort vs.length).ev f) d) (bC0 (n:=vs.length) (P:=Pl vs.length) (f:=f) (cmp:=kas_ask prog w A κ vs) (t:=kas_sort vs.length) z (vI (by lia)) (Q:=λp d=>d={ s with heap:=((s.heap.update a (Obj.mapSeq λ_=>#[])).push (seqObj "tuple" vs.toArray 0)).push (seqObj "list" #[] 0) }/\p=(kas_sort vs.length).ev f) ⟨rfl,rfl⟩)) (fun G O F=>?_) λ_ _ x=>x.elim);refine b7 (bAX (kat_run (Q:=λg d=>∃p:Array Nat,p.size=vs.length/\arrOf g=p.map (kas_item (vs.toArray.zip vs.toArray))/\failedOf g=none/\d={ s with heap:=((s.heap.update a (Obj.mapSeq λ_=>#[])).push (seqObj "tuple" vs.toArray 0)).push (seqObj "list" #[] 0) }/\p=(kas_sort vs.length).ev f)
   rfl u K (λI g d J N H M=>⟨I,J,N,H,M⟩) F) ?_ λ_ _ e=>e)
  rintro⟨⟨⟩,g⟩ d ⟨p,hp,har,hf,rfl,rfl⟩;dsimp only;have v:=kat_snds rfl har;rw[v];refine b7 (seqEpoch_at c rfl ?_);refine b7 (listUpdate_at c rfl ?_ (bAC _) (by rw[d9,j6,v4,hp,sizeLine_eq];lia));rw[hf];simp only[bne_self_eq_false,bAU,if_false];refine d7 ?_;have e:dM vs.length f=((kas_sort vs.length).ev f).toList:=by unfold dM;rw[if_neg (by lia)]
  rw[e] at h;exact h
def aHp (p:s.heap.IsList l vs.toArray)(m:vs.length<64)
  (n:2<=vs.length->∀h',(∀b o,s.heap.get? b=some o->h'.get? b=some o)->∃κ,(∀(Q:SortKind->Shared->Prop),Q κ { s with heap:=h' }->wpAny (model prog w) A.in1.in1 (keyKind' vs.toArray) Q (λ_ _=>False) { s with heap:=h' })/\∀i j (C:Bool->Shared->Prop),i<vs.length->j<vs.length->C (f i j) { s with heap:=h' }->kas_ask prog w A.in1.in1 κ vs i j C { s with heap:=h' })
  (h:Q (.ref (s.heap.objs.size+1)) { s with heap:=sortedAll s.heap vs (List.toArray ((dM vs.length f).map λi=>vs.getD i Value.none)) }) :
  wpAny (model prog w) A (call (.builtin "sorted") [.ref l]) Q E s:=by
 refine Calls.call_function_entry kind_sorted plain_sorted entry_sorted (args_sorted1 _) ?_;unfold Builtin.«sorted»;refine b7 (d7 ?_);refine b7 (collect_list p ?_ (by rw[sizeLine_eq];lia));refine b7 (wpAny_newList ?_ (by rw[sizeLine_eq];lia));have a:((s.heap.push (seqObj "list" #[] 0)).update s.heap.objs.size (Obj.mapSeq (·++vs.toArray))).objs.size=s.heap.objs.size+1:=by rw[Heap.size_update,size_push']
 have e:(((s.heap.push (seqObj "list" #[] 0)).update s.heap.objs.size (Obj.mapSeq (·++vs.toArray))).push (seqObj "list" vs.toArray 0)).get? (s.heap.objs.size+1)=some (seqObj "list" vs.toArray 0):=by rw[<-a];exact j8 _ rfl
 have d:∀b o,s.heap.get? b=some o->(((s.heap.push (seqObj "list" #[] 0)).update s.heap.objs.size (Obj.mapSeq (·++vs.toArray))).push (seqObj "list" vs.toArray 0)).get? b=some o:=λb o q=>by have c:=j9 q;rw[bEY _ _ _ (by rw[a];exact v8 (bBU c)),bEA _ _ _ _ (v8 c),bEY _ _ _ (v8 c)];exact q
 rw[a];refine b7 (bAR (bAD slot_list_sort ⟨_,e,rfl⟩ entry_list_sort (pD e m (λg h' k=>n g h' λb o q=>k b o (v8 (bBU (j9 q))) (d b o q)) ⟨_,rfl,?_⟩) (args_list_sort _)));exact d7 ⟨_,rfl,h⟩
end
end PySem.W
namespace PySem.W.N4
open PySem PySem.Calls PyProof.Rows PySem.W
structure Swo (f:Nat->Nat->Bool):Prop where
 asym:∀{i j},f i j=true->f j i=false
 tr:∀{i j k},f j i=false->f k j=false->f k i=false
section
variable {f:Nat->Nat->Bool}
theorem Swo.lt1 (S:Swo f)(b:f i j=true)(a:f k j=false):f i k=true:=by
 cases e:f i k with
 |true=>rfl
 |false=>have:=S.tr a e;rw[b] at this;cases this
theorem rD {α β:Type}{f:Nat->Nat->Bool}{g:α->KasT β}:∀t:KasT α,(t.bind g).ev f=(g (t.ev f)).ev f
 |.ret a=>rfl
 |.ask i j k=>rD (k (f i j))
def tY (a:j<=p.size)(k:Nat):(kas_rev p i j).getD k 0=if i<=k/\k<j then p.getD (i+j - 1 - k) 0 else p.getD k 0:=by
 unfold kas_rev;rw[v6,getElem?_mirror_all a]
 split <;> rw[v6]
def bCs (c:k<p.size)(hd:d<=k)(x:Nat):(bubble p k d).getD x 0=if x=k - d then p.getD k 0 else if k - d<x/\x<=k then p.getD (x - 1) 0 else p.getD x 0:=by
 rw[v6,getElem?_bubble c d hd,v6,v6,v6];by_cases a:x=k - d
 ·rw[if_pos a,if_pos a]
 ·rw[if_neg a,if_neg a];by_cases b:k - d<x/\x<=k
  ·rw[if_pos b,if_pos b]
  ·rw[if_neg b,if_neg b]
structure Ld (N:Nat)(p:Array Nat):Prop where
 sz:p.size=N
 pm:p.Perm (List.range N).toArray
def Asc (f:Nat->Nat->Bool)(p:Array Nat)(m:Nat):Prop:=∀i j,i<j->j<m->f (p.getD j 0) (p.getD i 0)=false
def Fds (f:Nat->Nat->Bool)(p:Array Nat)(m:Nat):Prop:=∀i j,i<j->j<m->f (p.getD i 0) (p.getD j 0)=false
def Ld.rev (L:Ld N p):Ld N (kas_rev p i j):=⟨by unfold kas_rev;rw[mirror_size];exact L.sz,(mirror_perm _ _ _ _).trans L.pm⟩
theorem aM5 (p:Array Nat):∀fu m,m<=(kas_asc p fu m).ev f/\(kas_asc p fu m).ev f<=m+fu/\(∀k,m<=k->k<(kas_asc p fu m).ev f->f (p.getD k 0) (p.getD (k - 1) 0)=false)/\((kas_asc p fu m).ev f<m+fu->f (p.getD ((kas_asc p fu m).ev f) 0) (p.getD ((kas_asc p fu m).ev f - 1) 0)=true)
 |0,m=>⟨d8 _,d8 _,λk b a=>absurd (show k<m from a) (by lia),λh=>absurd (show m<m+0 from h) (by lia)⟩
 |fu+1,m=>by
  show m<=(if f (p.getD m 0) (p.getD (m - 1) 0)=true then KasT.ret m else kas_asc p fu (m+1)).ev f/\(if f (p.getD m 0) (p.getD (m - 1) 0)=true then KasT.ret m else kas_asc p fu (m+1)).ev f<=m+(fu+1)/\(∀k,m<=k->k<(if f (p.getD m 0) (p.getD (m - 1) 0)=true then KasT.ret m else kas_asc p fu (m+1)).ev f->f (p.getD k 0) (p.getD (k - 1) 0)=false)/\((if f (p.getD m 0) (p.getD (m - 1) 0)=true then KasT.ret m else kas_asc p fu (m+1)).ev f<m+(fu+1)->f (p.getD ((if f (p.getD m 0) (p.getD (m - 1) 0)=true then KasT.ret m else kas_asc p fu (m+1)).ev f) 0) (p.getD ((if f (p.getD m 0) (p.getD (m - 1) 0)=true then KasT.ret m else kas_asc p fu (m+1)).ev f - 1) 0)=true);by_cases e:f (p.getD m 0) (p.getD (m - 1) 0)=true
  ·simp only[if_pos e];exact⟨d8 _,bDF _ _,λk b a=>absurd (show k<m from a) (by lia),λ_=>e⟩
  ·simp only[if_neg e];obtain⟨b,a,c,g⟩:=aM5 p fu (m+1);refine⟨by lia,by lia,λk i d=>?_,λh=>g (by lia)⟩;by_cases z:k=m
   ·subst z;simpa using e
   ·exact c k (by lia) d
theorem aFz (S:Swo f)(l:Asc f p m)(n:1<=m):∀d,(∀k,m<=k->k<m+d->f (p.getD k 0) (p.getD (k - 1) 0)=false)->Asc f p (m+d)
 |0,_=>l
 |d+1,h=>λi j c o=>by
  have e:=aFz S l n d λk a b=>h k a (by lia);by_cases z:j=m+d
  ·subst z;have g:=h (m+d) (by lia) (by lia);by_cases y:i=m+d - 1
   ·subst y;exact g
   ·exact S.tr (e i (m+d - 1) (by lia) (by lia)) g
  ·exact e i j c (by lia)
structure Dsc (f:Nat->Nat->Bool)(N:Nat)(p:Array Nat)(n q:Nat):Prop where
 ld:Ld N p
 hq:q+1<=n
 hn:n<=N
 a:Fds f p n
 b:∀i j,n - (q+1)<=i->i<j->j<n->f (p.getD j 0) (p.getD i 0)=false
def qR (p:Array Nat)(n q:Nat):Array Nat:=if q > 0 then kas_rev p (n - (q+1)) n else p
def Dsc.close (D:Dsc f N p n q):Ld N (qR p n q)/\Fds f (qR p n q) n/\(∀k,k<n->∃k',k'<n/\(qR p n q).getD k 0=p.getD k' 0)/\(qR p n q).getD n 0=p.getD n 0:=by
 have l:=D.hq;have c:n<=p.size:=by rw[D.ld.sz];exact D.hn
 unfold qR;by_cases h:q > 0
 ·rw[if_pos h];refine⟨D.ld.rev,λi j d g=>?_,λk e=>?_,by rw[tY c,if_neg (by lia)]⟩
  ·rw[tY c,tY c];by_cases a:n - (q+1)<=i
   ·rw[if_pos ⟨a,by lia⟩,if_pos ⟨by lia,g⟩];exact D.b _ _ (by lia) (by lia) (by lia)
   ·rw[if_neg (show ¬ (n - (q+1)<=i/\i<n) by lia)]
    split
    ·exact D.a _ _ (by lia) (by lia)
    ·exact D.a i j d g
  ·rw[tY c]
   split
   ·exact⟨_,by lia,rfl⟩
   ·exact⟨k,e,rfl⟩
 ·rw[if_neg h];exact⟨D.ld,D.a,λk e=>⟨k,e,rfl⟩,rfl⟩
def Dsc.down (S:Swo f)(D:Dsc f N p n q)(r:n<N)(h:f (p.getD n 0) (p.getD (n - 1) 0)=true):Dsc f N (qR p n q) (n+1) 0:=by
 obtain⟨L,F,R,e⟩:=D.close;have m:=D.hq;refine⟨L,by lia,r,λi j d o=>?_,λi j a b c=>by lia⟩;by_cases z:j=n
 ·subst z;obtain⟨g,l,k⟩:=R i d;rw[e,k];by_cases y:g=j - 1
  ·subst y;exact S.asym h
  ·exact S.asym (S.lt1 h (D.a g (j - 1) (by lia) (by lia)))
 ·exact F i j d (by lia)
def Dsc.flat (S:Swo f)(D:Dsc f N p n q)(l:n<N)(e:f (p.getD n 0) (p.getD (n - 1) 0)=false)(g:f (p.getD (n - 1) 0) (p.getD n 0)=false):Dsc f N p (n+1) (q+1):=by
 have h:=D.hq;refine⟨D.ld,by lia,l,λi j d k=>?_,λi j a b c=>?_⟩
 ·by_cases z:j=n
  ·subst z;by_cases y:i=j - 1
   ·subst y;exact g
   ·exact S.tr g (D.a i (j - 1) (by lia) (by lia))
  ·exact D.a i j d (by lia)
 ·by_cases z:j=n
  ·subst z;by_cases y:i=j - 1
   ·subst y;exact e
   ·exact S.tr (D.b i (j - 1) (by lia) (by lia) (by lia)) e
  ·exact D.b i j (by lia) b (by lia)
theorem aA1 (S:Swo f):∀fu p n q,Dsc f N p n q->n+fu<=N->Dsc f N ((kas_desc fu p n q).ev f).1 ((kas_desc fu p n q).ev f).2.1 ((kas_desc fu p n q).ev f).2.2
 |0,p,n,q,D,_=>D
 |fu+1,p,n,q,D,h=>by
  show Dsc f N ((if f (p.getD n 0) (p.getD (n - 1) 0)=true then (if q > 0 then kas_desc fu (kas_rev p (n - (q+1)) n) (n+1) 0 else kas_desc fu p (n+1) 0) else .ask (p.getD (n - 1) 0) (p.getD n 0) λd=>if d=true then .ret (p,n,q) else kas_desc fu p (n+1) (q+1)).ev f).1 ((if f (p.getD n 0) (p.getD (n - 1) 0)=true then (if q > 0 then kas_desc fu (kas_rev p (n - (q+1)) n) (n+1) 0 else kas_desc fu p (n+1) 0) else .ask (p.getD (n - 1) 0) (p.getD n 0) λd=>if d=true then .ret (p,n,q) else kas_desc fu p (n+1) (q+1)).ev f).2.1 ((if f (p.getD n 0) (p.getD (n - 1) 0)=true then (if q > 0 then kas_desc fu (kas_rev p (n - (q+1)) n) (n+1) 0 else kas_desc fu p (n+1) 0) else .ask (p.getD (n - 1) 0) (p.getD n 0) λd=>if d=true then .ret (p,n,q) else kas_desc fu p (n+1) (q+1)).ev f).2.2;by_cases e:f (p.getD n 0) (p.getD (n - 1) 0)=true
  ·have a:=D.down S (by lia) e;unfold qR at a;simp only[if_pos e];by_cases c:q > 0
   ·simp only[if_pos c] at a ⊢;exact aA1 S fu _ _ _ a (by lia)
   ·simp only[if_neg c] at a ⊢;exact aA1 S fu _ _ _ a (by lia)
  ·simp only[if_neg e];show Dsc f N ((if f (p.getD (n - 1) 0) (p.getD n 0)=true then KasT.ret (p,n,q) else kas_desc fu p (n+1) (q+1)).ev f).1 ((if f (p.getD (n - 1) 0) (p.getD n 0)=true then KasT.ret (p,n,q) else kas_desc fu p (n+1) (q+1)).ev f).2.1 ((if f (p.getD (n - 1) 0) (p.getD n 0)=true then KasT.ret (p,n,q) else kas_desc fu p (n+1) (q+1)).ev f).2.2;by_cases b:f (p.getD (n - 1) 0) (p.getD n 0)=true
   ·simp only[if_pos b];exact D
   ·simp only[if_neg b];exact aA1 S fu _ _ _ (D.flat S (by lia) (by simpa using e) (by simpa using b)) (by lia)
def aJv (f:Nat->Nat->Bool)(N:Nat)(r:Nat × Array Nat):Prop:=1<=r.1/\r.1<=N/\Ld N r.2/\Asc f r.2 r.1
def aJi (S:Swo f){N n:Nat}{p:Array Nat}(L:Ld N p)(F:Fds f p n)(l:1<=n)(k:n<=N):aJv f N ((kas_tail3 n N p).ev f):=by
 unfold kas_tail3;rw[rD];have b:n<=p.size:=by rw[L.sz];exact k
 have g:Asc f (kas_rev p 0 n) n:=λi j e h=>by rw[tY b,tY b,if_pos ⟨bAC _,h⟩,if_pos ⟨bAC _,by lia⟩];exact F _ _ (by lia) (by lia)
 obtain⟨m,c,a,_⟩:=aM5 (f:=f) (kas_rev p 0 n) (N - n) n;obtain⟨d,hd⟩:∃d,(kas_asc (kas_rev p 0 n) (N - n) n).ev f=n+d:=⟨(kas_asc (kas_rev p 0 n) (N - n) n).ev f - n,by lia⟩;show aJv f N ((kas_asc (kas_rev p 0 n) (N - n) n).ev f,kas_rev p 0 n);rw[hd] at c a ⊢;exact⟨by show 1<=n+d;lia,by show n+d<=N;lia,L.rev,aFz S g l d a⟩
def zP (S:Swo f){N n:Nat}{p:Array Nat}(D:Dsc f N p (n+1) 0):aJv f N ((kas_descPart n N p).ev f):=by
 unfold kas_descPart;rw[rD];have a:=aA1 S (N - (n+1)) p (n+1) 0 D (by have:=D.hn;lia);generalize (kas_desc (N - (n+1)) p (n+1) 0).ev f=r at a;obtain⟨L,F,_⟩:=a.close;have b:=a.hq;unfold qR at L F;by_cases h:r.2.2 > 0
 ·simp only[if_pos h] at L F ⊢;exact aJi S L F (by lia) a.hn
 ·simp only[if_neg h] at L F ⊢;exact aJi S L F (by lia) a.hn
def aT5 (S:Swo f){N:Nat}(h1:1<=N){p:Array Nat}(L:Ld N p):aJv f N ((kas_count N p).ev f):=by
 unfold kas_count;rw[rD];obtain⟨l,t,n,o⟩:=aM5 (f:=f) p (N - 1) 1;generalize w:(kas_asc p (N - 1) 1).ev f=m at l t n o;obtain⟨d,rfl⟩:∃d,m=1+d:=⟨m - 1,by lia⟩;have A:Asc f p (1+d):=aFz S (λi j h q=>by lia) (d8 _) d n;have B:N<=p.size:=by rw[L.sz];exact d8 _
 by_cases e:(1+d == N)=true
 ·simp only[if_pos e];exact⟨l,by show 1+d<=N;lia,L,A⟩
 ·simp only[if_neg e];have u:1+d<N:=by
   have:1+d≠N:=by simpa using e
   lia
  have hd:=o (by lia);by_cases r:1+d > 1
  ·simp only[if_pos r];show aJv f N ((if f (p.getD 0 0) (p.getD (1+d - 1) 0)=true then KasT.ret (1+d,p) else kas_descPart (1+d) N (kas_rev p 0 (1+d))).ev f);by_cases g:f (p.getD 0 0) (p.getD (1+d - 1) 0)=true
   ·simp only[if_pos g];exact⟨l,by show 1+d<=N;lia,L,A⟩
   ·simp only[if_neg g];have g:f (p.getD 0 0) (p.getD (1+d - 1) 0)=false:=by simpa using g
    have s:=λk=>tY (i:=0) (j:=1+d) (p:=p) (by lia) k;refine zP S ⟨L.rev,by lia,by lia,λi j h q=>?_,λi j a b c=>by lia⟩;rw[s i,s j,if_pos ⟨bAC _,by lia⟩];by_cases z:j=1+d
    ·subst z;rw[if_neg (by lia)];refine S.asym ?_;generalize v:0+(1+d) - 1 - i=k;by_cases y:k=1+d - 1
     ·rw[y];exact hd
     ·refine S.lt1 hd ?_;by_cases x:k=0
      ·rw[x];exact g
      ·exact S.tr g (A 0 k (by lia) (by lia))
    ·rw[if_pos ⟨bAC _,by lia⟩];exact A _ _ (by lia) (by lia)
  ·have z:d=0:=by lia
   subst z;simp only[if_neg r];refine zP S ⟨L,by lia,by lia,λi j h q=>?_,λi j a b c=>by lia⟩;have z:j=1:=by lia
   have y:i=0:=by lia
   subst z y;exact S.asym hd
theorem aCt (S:Swo f)(A:Asc f p k):∀fu l r,l<=r->r<=k->r - l<=fu->(∀i,i<l->f (p.getD k 0) (p.getD i 0)=false)->(∀i,r<=i->i<k->f (p.getD k 0) (p.getD i 0)=true) ->
  (kas_place p k fu l r).ev f<=k/\(∀i,i<(kas_place p k fu l r).ev f->f (p.getD k 0) (p.getD i 0)=false)/\∀i,(kas_place p k fu l r).ev f<=i->i<k->f (p.getD k 0) (p.getD i 0)=true
 |0,l,r,g,d,h3,a,b=>by
  have z:l=r:=by lia
  subst z;exact⟨d,a,b⟩
 |fu+1,l,r,g,d,h3,a,b=>by
  unfold kas_place;by_cases e:l ≥ r
  ·have z:l=r:=by lia
   subst z;simp only[if_pos e];exact⟨d,a,b⟩
  ·simp only[if_neg e];by_cases c:f (p.getD k 0) (p.getD ((l+r) / 2) 0)=true
   ·have n:∀i,(l+r) / 2<=i->i<k->f (p.getD k 0) (p.getD i 0)=true:=λi g d=>by
     by_cases z:i=(l+r) / 2
     ·subst z;exact c
     ·exact S.lt1 c (A _ i (by lia) d)
    have:=aCt S A fu l ((l+r) / 2) (by lia) (by lia) (by lia) a n;simpa only [KasT.ev,if_pos c] using this
   ·have j:f (p.getD k 0) (p.getD ((l+r) / 2) 0)=false:=by simpa using c
    have m:∀i,i<(l+r) / 2+1->f (p.getD k 0) (p.getD i 0)=false:=λi h=>by
     by_cases z:i=(l+r) / 2
     ·subst z;exact j
     ·exact S.tr (A i _ (by lia) (by lia)) j
    have:=aCt S A fu ((l+r) / 2+1) r (by lia) d (by lia) m b;simpa only [KasT.ev,if_neg c] using this
theorem aT2 (S:Swo f){N:Nat}:∀(fu:Nat) (p:Array Nat) (k:Nat),Ld N p->Asc f p k->1<=k->k+fu=N->Ld N ((kas_bin fu p k).ev f)/\Asc f ((kas_bin fu p k).ev f) N
 |0,p,k,L,A,_,e=>by
  have z:k=N:=by lia
  subst z;exact⟨L,A⟩
 |fu+1,p,k,L,A,h1,e=>by
  unfold kas_bin;rw[rD];obtain⟨r,g,c⟩:=aCt S A k 0 k (bAC _) (d8 _) (by lia) (λi h=>by lia) (λi h u=>by lia);generalize (kas_place p k k 0 k).ev f=l at r g c;have t:k<p.size:=by rw[L.sz];lia
  have b:=λx=>bCs (p:=p) (k:=k) (d:=k - l) t (by lia) x;have s:k - (k - l)=l:=by lia
  rw[s] at b;refine aT2 S fu _ (k+1) ⟨by rw[bubble_size];exact L.sz,(bubble_perm _ _ _).trans L.pm⟩ (λi j a v=>?_) (by lia) (by lia);rw[b i,b j];by_cases m:i=l
  ·rw[if_pos m,if_neg (by lia),if_pos (by lia)];exact S.asym (c _ (by lia) (by lia))
  ·rw[if_neg m];by_cases q:l<i/\i<=k
   ·rw[if_pos q,if_neg (by lia),if_pos (by lia)];exact A _ _ (by lia) (by lia)
   ·rw[if_neg q];by_cases n:j=l
    ·rw[if_pos n];exact g i (by lia)
    ·rw[if_neg n];by_cases o:l<j/\j<=k
     ·rw[if_pos o];exact A _ _ (by lia) (by lia)
     ·rw[if_neg o];exact A _ _ a (by lia)
def aYb (S:Swo f){N:Nat}(c:1<=N):Ld N ((kas_sort N).ev f)/\Asc f ((kas_sort N).ev f) N:=by
 unfold kas_sort;rw[rD];have R:=aT5 S c ⟨by simp,.refl _⟩;generalize (kas_count N (List.range N).toArray).ev f=r at R;obtain⟨a,b,L,A⟩:=R;by_cases e:r.1<N
 ·simp only[if_pos e];have z:max r.1 1=r.1:=by lia
  rw[z];exact aT2 S _ _ _ L A a (by lia)
 ·simp only[if_neg e];have z:r.1=N:=by lia
  rw[z] at A;exact⟨L,A⟩
end
theorem aSp {α:Type}{n:Nat}{P:α->Prop}{t:KasT α}(h:t.Low n P){f g:Nat->Nat->Bool}(e:∀i j,i<n->j<n->f i j=g i j):t.ev f=t.ev g:=by
 induction h with
 |ret h=>rfl
 |@ask i j k a b _ ih=>show (k (f i j)).ev f=(k (g i j)).ev g;rw[e i j a b];exact ih (g i j)
def aM3 {n:Nat}{f g:Nat->Nat->Bool}(e:∀i j,i<n->j<n->f i j=g i j):dM n f=dM n g:=by
 unfold dM;by_cases h:n<2
 ·rw[if_pos h,if_pos h]
 ·rw[if_neg h,if_neg h,aSp (vI (by lia)) e]
def aI2 (S:Swo f):(dM n f).Perm (List.range n)/\(dM n f).Pairwise λi j=>f j i=false:=by
 unfold dM;by_cases h:n<2
 ·rw[if_pos h];refine⟨.refl _,?_⟩
  match n,h with
  |0,_=>exact .nil
  |1,_=>exact List.pairwise_singleton _ _
 ·rw[if_neg h];obtain⟨L,A⟩:=aYb S (show 1<=n by lia);generalize (kas_sort n).ev f=p at L A;refine⟨?_,List.pairwise_iff_getElem.mpr λi j d e b=>?_⟩
  ·have:=Array.perm_iff_toList_perm.mp L.pm;simpa using this
  ·have c:i<p.size:=by simpa using d
   have a:j<p.size:=by simpa using e
   have:=A i j b (by rw[<-L.sz];exact a);rw[v6,v6,j7 c,j7 a] at this;simpa using this
end PySem.W.N4
namespace PySem.W
open PySem PySem.Calls PyProof.Rows
section
variable {prog:Program}{w:World}{A:Around}{E:bF5}{s:Shared}{f:Nat->Nat->Bool}
end
end PySem.W
namespace PySem.W
open PySem PySem.Calls PyProof.Rows
theorem aBl (l:List Value)(h:TriplesOk l)(d:codeAmong pos (l++[rawInt a,rawInt b,c])=some cv):codeAmong pos l=some cv\/cv=c:=by
 fun_induction TriplesOk l with
 |case1=>
  simp only[bEJ,codeAmong,rawInt] at d
  split at d
  ·exact .inr (bAK d).symm
  ·cases d
 |case2 a' t b' u x rest ih=>
  simp only[List.cons_append,codeAmong] at d ⊢
  split at d
  ·rename_i e;rw[if_pos e];exact .inl d
  ·rename_i e;rw[if_neg e];exact ih h d
 |case3 l h1 h2=>exact h.elim
section
variable {prog:Program}{w:World}{A:Around}{E:bF5}{s:Shared}
end
end PySem.W
namespace L2
open PySem PySem.Spec PyProof.Rows
def BM (mg:bF7)(base:Heap):Prop:=∃bm ob,mg "__builtins__"=some (.ref bm)/\bm≠builtinsNs/\base.get? bm=some ob/\ob.cls=.type "module"/\ob.dict=some builtinsNs/\ob.data=.plain
section
variable {X:Cx}{bF8:bF6}{σ:List (Option V)}{H:Hp}{s:Shared}
end
def ExO (a:Addr)(o:Obj):HO:=.ext λh=>h.get? a=some o
def bBz (e:h.get? a=some o):cV P w H h a (ExO a o):=⟨e,⟨o,e⟩,λ_ _ b k=>k o b⟩
def bE9 (g x y:Str)(p0 p1 p2 p3:Pos):Expr:=.Call (.Name g p0) [.Name x p1,.Name y p2] [] p3
structure bAj (qual g x y:Str)(params:Arguments)(bd:Expr)(scope:Scope):Prop where
 body:∃p0 p1 p2 p3,bd=bE9 g x y p0 p1 p2 p3
 bind:∀(cp c':Addr) (pm ctv v:Value),bindArgs (PySem.W.kla_fn "<lambda>" qual params bd scope [(y,cp)] pm (.ref c') ctv) ⟨[v],[]⟩=pure [(x,v)]
 co:scope.isCoroutine=false
 gen:scope.isGenerator=false
 kind:scope.kind=.function
 cell:∀z∈scope.names,z.2≠.cell
 hx:scope.names.lookup x=some .local
 hy:scope.names.lookup y=some .free
 hg:scope.names.lookup g=some .globalImplicit
 dx:(x == ("__debug__":Str))=false
 dy:(y == ("__debug__":Str))=false
 dg:(g == ("__debug__":Str))=false
 cy:(y == ("__classdict__":Str))=false
 xy:(y == x)=false
def vG (H:Hp)(f:Addr)(qual g x y:Str)(v:V):Prop:=∃params body scope cp c' pm ctv oc ol u vs t,
 bAj qual g x y params body scope/\H f=some (ExO f (PySem.W.kla_obj "<lambda>" qual params body scope [(y,cp)] pm c' ctv))/\H cp=some (ExO cp ol)/\(∀h:Heap,h.get? cp=some ol->h.IsCell cp (some u))/\RelV v u/\H c'=some (ExO c' oc)/\oc.data=.fields vs/\vs[1]?=some (.str qual t)
def vG.same (L:vG H f qual g x y v)(s:Same H H'):vG H' f qual g x y v:=by obtain⟨r,p,q,n,o,e,a,b,w,u,l,t,S,m,h,k,j,d,i,c⟩:=L;exact⟨r,p,q,n,o,e,a,b,w,u,l,t,S,s _ _ m,s _ _ h,k,j,s _ _ d,i,c⟩
section
variable {X:Cx}
theorem aYd {bF8:bF6}{σ:St}{H:Hp}{s:Shared}{Q:VK}{f ga:Addr}{qual g x y:Str}{v a:V}{E:Value}{k:Nat}{fd:FuncData}{ps:List Str}{sp:Sp}
  (L:vG H f qual g x y v) (hr:Room (k+1) X.A) (hm:X.mg g=some (.ref ga)) (hk:PySem.W.keepIn X.K (.ref ga)=true) (hb:Binds X.K fd ps []) (F:gK X.prog X.w X.K X.mg X.base CX0 k ga fd ps sp)
  (I:Inv X bF8 σ H s) (r:RelV a E) (h:sp [a,v] H Q E0):wpAny (model X.prog X.w) X.A (call (.ref f) [E]) (EP X bF8 σ Q) X.xe s:=by
 obtain⟨pa,bo,sc,Y,O,pm,a0,oc,ol,u,vs,t,S,h1,h2,h3,h4,h5,h6,h7⟩:=L;have e1:s.heap.get? f=some _:=(I.hok f _ h1).1;have e2:s.heap.get? Y=some ol:=(I.hok Y _ h2).1;have e5:s.heap.get? O=some oc:=(I.hok O _ h5).1;refine bDJ (PySem.W.kla_callFunE hr.depth e1 rfl S.co S.gen rfl ⟨O,oc,vs,t,rfl,e5,h6,h7⟩ ?_);rw[S.bind];refine d7 (wpAny_newFunctionEnv S.cell (λz hz=>?_) (λB J C=>⟨I.nolimit.fresh _ C,?_⟩) S.kind)
 ·have e:z=(x,E):=by simpa using hz
  rw[e];exact S.hx
 have d:∀b o,s.heap.get? b=some o->B.get? b=some o:=λb o e=>C.extBut b o (v8 (j9 e)) (c7 _ e);have P:s.heap.objs.size<=B.objs.size:=by have:=C.1;rw[bBL] at this;lia
 refine PySem.W.kla_codeExpr ?_;obtain⟨p0,p1,p2,p3,rfl⟩:=S.body;have hG:B.Ns mainGlobals X.mg:=(I.mod.glob.keeps I.bk).keeps d;refine bBK (bDT S.kind S.hg (Calls.loadGlobal_global hG hm ?_) S.dg);refine PySem.W.callWith_K (h₀:=X.base) I.ok.mod.kin hk (bBY (wpAny_Name (wpAny_loadName_local S.kind S.hx J (v:=E) (by simp) ?_) S.dx)) rfl rfl;refine bBY (wpAny_Name (wpAny_loadName_free S.kind S.hy (c:=Y) (by simp[newEnv,PySem.W.kla_fn]) (v:=u) (h3 B (d _ _ e2)) ?_ S.cy) S.dy);have N:X.K.In B:=I.kIn.keeps d;refine bET ⟨N,?_⟩;generalize l:newEnv _ s.heap.objs.size _ _ _ _ _ _ _=env;have D:env.frame=some s.heap.objs.size:=by rw[<-l];rfl
 have Z:env.scope.kind≠.module:=by rw[<-l];show sc.kind≠_;rw[S.kind];decide
 have m:X.base.get? s.heap.objs.size=none:=bDS (bAE I.ok.bsz I.sz);have i:H s.heap.objs.size=none:=I.hok.fresh (d8 _);have E1:aGe X.prog X.w X.K X.mg X.base (X.A.deeper env) (env::X.stack) { s with heap:=B,toks:=s.toks+1 } H:=by
  refine⟨Around.frames_deeper I.ok.frames,I.ok.mod,λb o e=>⟨d _ _ (I.bs b o e).1,(I.bs b o e).2⟩,bAE (bAE I.ok.bsz I.sz) P,.cons Z D J m ?_,?_,I.hok.kept d,I.bare⟩
  ·exact I.stack.of_keeps λb o e _=>⟨o,d _ _ e,rfl⟩
  ·intro b hb;unfold frs at hb;rw[bCF,D] at hb;rcases List.mem_cons.mp hb with e|hb
   ·rw[e];exact i
   ·exact I.rC b hb
 have r2:Vals [a,v] [E,u]:=.cons r (.cons h4 .nil);have hl:([E,u]++([]:List Value)).length=ps.length:=by rw[bBB,<-r2.length];exact F.len _ _ _ _ h
 refine bDJ (bCN (F.run (X.A.deeper env) (env::X.stack) _ H ⟨[E,u],[]⟩ [E,u] [a,v] Q E0 (hr.deeper env) E1 (by simpa using hb { s with heap:=B,toks:=s.toks+1 } [E,u] N hl) r2 h) λrr s' G=>?_);cases rr with
 |error e=>exact G.elim
 |ok fl=>
  cases fl with
  |next=>exact False.elim G
  |brk=>exact False.elim G
  |cont=>exact False.elim G
  |ret uu=>
   obtain⟨v',H',os,M,j,T,U,q⟩:=G;refine I.after (Q:=Q) (u:=uu) (s':=s') ⟨v',H',os,M,?_,T,U,q⟩;have R:∀b o,s.heap.get? b=some o->b≠s.heap.objs.size:=λb o e=>v8 (j9 e);have fe:frs (env::X.stack)=s.heap.objs.size::frs X.stack:=by unfold frs;rw[bCF,D]
   rw[fe] at j;exact⟨λb o e n hb p=>j.keep b o (d b o e) n (λz=>(List.mem_cons.mp z).elim (R b o e) hb) p,λb o e n hb p=>j.slot b o (d b o e) n (j5 _ hb) p,λb o e n p=>j.free b o (d b o e) n p,λb o e p=>j.there b o (d b o e) p,j.tups,j.frzs,j.tbls⟩
def aVy (P:Program)(w:World)(K:bF4)(mg:bF7)(base:Heap)(k:Nat)(te:TE)(t:TA):TE:=fun σ H Q=>te σ H λv H1=>∃f qual g x y z ps sp,v=.ref f/\vG H1 f qual g x y z/\Ok P w K mg base k g ps sp /\
 t σ H1 λvs H2=>∃a,vs=[a]/\vG H2 f qual g x y z/\sp [a,z] H2 Q E0
theorem aV6 {n:Str}{p pos:Pos}{e:Expr}{es:List Expr}{te:TE}{t:TA}{k:Nat}(hr:Room (k+1) X.A)(hf:PE X (.Name n p) te)(ha:PA X (e::es) t)
  (he:starEach (e::es) X.env=(false,eval e X.env)::starEach es X.env:=by rfl) (V:(backTo pos (starEach es X.env)).any (·.1)=false:=by rfl) :
  PE X (.Call (.Name n p) (e::es) [] pos) (aVy X.prog X.w X.K X.mg X.base k te t):=by
 intro c s σ H Q I h;refine bBK (thn (hf c s σ H _ I h) λu M ⟨v,H1,N,r1,R⟩=>?_);obtain⟨f,d,g,x,y,z,ps,sp,rfl,L,G,q⟩:=R;obtain rfl:u=Value.ref f:=r1;obtain⟨ga,fd,T,O,U,F⟩:=G;have D:=ha pos c M σ H1 _ N q;rw[he] at D ⊢;refine PySem.W.callWith_of (P:=λh=>∃o m i B j l b,h.get? f=some (PySem.W.kla_obj "<lambda>" d o m i B j l b)) (by show ((false || (backTo pos (starEach es X.env)).any (·.1)) || false)=false;rw[V];rfl) (λh ⟨o,m,i,B,j,l,b,eh⟩=>⟨.frame,.inl rfl,(PySem.W.Looks.ld (part:=none) eh).andThen .now⟩) (bFK (thn D λus s2 ⟨Z,H2,E,r,J⟩=>?_));obtain⟨a,rfl,C,Y⟩:=J;cases r with
 |cons r rn=>cases rn;refine⟨?_,aYd C hr T O U F E r Y⟩;obtain⟨o,m,i,cp,l,j,b,oc,ol,u,Z,t,S,h1,_⟩:=C;exact⟨o,m,i,_,j,l,b,(E.hok f _ h1).1⟩
end
section
variable {X:Cx}{bF8:bF6}{σ:List (Option V)}{H:Hp}{s:Shared}
theorem aQc
  (I:Inv X bF8 σ H s) (k:X.env.code=.ref c) (CH:PySem.W.CodeHd X.base c P) (i:H P=some (.tab (X.env.qual++"<lambda>"))) (a7:BM X.mg X.base) (U:closureFor scope X.env=pure clos) (a6:defaultsOf params X.env=([],[]))
  (q:∀f c' pm ctv H' h' tk,Inv X bF8 σ H' { s with heap:=h',toks:=tk }->Same H H'->s.heap.objs.size<=f->H' f=none->H' c'=some (.own P)->H' P=some (.tab (X.env.qual++"<lambda>"))->h'.get? f=some (PySem.W.kla_obj "<lambda>" (X.env.qual++"<lambda>") params body scope clos pm c' ctv)->h'.CodeRec (.ref c') (X.env.qual++"<lambda>")->Q (.ref f) { s with heap:=h',toks:=tk }) :
  wpAny (model X.prog X.w) X.A (eval (.Lambda params body scope pos) X.env) Q E s:=by
 obtain⟨ps,hp,L,g⟩:=I.hok P _ i;have hg:=I.mod.glob.keeps I.bk;obtain⟨R,ob,b1,b2,M,b4,b5,Z⟩:=a7;have bG:R≠mainGlobals:=λz=>by obtain⟨o,es,Y,e,d,_⟩:=I.mod.glob;rw[z,e] at M;cases M;rw[d] at Z;cases Z
 have bP:R≠P:=λz=>by have:=(I.bs R ob M).2;rw[z,i] at this;cases this
 have gP:mainGlobals≠P:=λz=>by obtain⟨o,es,Y,e,d,_⟩:=I.mod.glob;have:=(I.bs _ o e).2;rw[z,i] at this;cases this
 have hB:s.heap.BuiltinsAt X.mg P:=⟨R,ob,b1,b2,bG,bP,I.bk _ _ M,b4,b5,Z⟩;refine PySem.W.kla_eval a6 ?_;cases p:codeAmong pos ps.toList with
 |some cv=>obtain⟨c',C,O,t,rfl,F,S,a4,a5⟩:=g pos cv p;refine PySem.W.kla_makeFunctionHit U I.ok.glob hg k (CH.keeps I.bk) hp L p hB λctv h' tk hk G=>?_;exact q _ c' _ ctv H _ tk (I.kept (t':=tk) λb o e=>c7 _ (hk b o e)) (λ_ _ e=>e) G (I.hok.fresh G) F i (j8 _ rfl) ⟨c',C,O,t,rfl,c7 _ (hk _ _ S),a4,a5⟩
 |none=>
  refine PySem.W.kla_makeFunction U I.ok.glob hg k (CH.keeps I.bk) hp L p gP hB λc' ctv h' tk hx h l D J=>?_;obtain⟨c2,C,O,t,e2,j,hd,hv⟩:=D;cases e2;have nc:=I.hok.fresh h;have a8:∀b u,b≠P->H b=some u->∀o,s.heap.get? b=some o->(h'.push (PySem.W.kla_obj "<lambda>" (X.env.qual++"<lambda>") params body scope clos ((X.mg "__name__").getD .none) c' ctv)).get? b=some o:=λb u hb _ o e=>c7 _ (hx b o hb e);have B:∀b o,b≠P->s.heap.get? b=some o->(h'.push (PySem.W.kla_obj "<lambda>" (X.env.qual++"<lambda>") params body scope clos ((X.mg "__name__").getD .none) c' ctv)).get? b=some o:=λb o hb e=>c7 _ (hx b o hb e);have x:∀b,H b=none->b≠P:=λb e z=>by rw[z,i] at e;cases e
  have a:∀{b u},H b=some u->upd H c' (.own P) b=some u:=λ{b u} e=>by rw[aK (aQ e nc)];exact e
  refine q _ c' _ ctv (upd H c' (.own P)) _ tk (I.step (g':=s.gens) (d':=s.drawn) (ch:=[]) (λ_ z=>nomatch z) (λb o _ _ _ e n=>B b o (x b n) e) (λb o _ _ _ e n=>⟨o.slots,B b o (x b n) e⟩) (λb o _ e n=>?_) (λb o _ e=>?_)
   (λb xs e=>a e) (λb o u e=>a e) (λb qs e=>⟨#[],by rw[a e];simp⟩) (λm hm=>?_) (λb u e=>?_) I.bare) (λb o e=>a e) (bDI (bCJ h l)) (by rw[aK (bCM l)];exact I.hok.fresh (bDI (bCJ h l))) aF (a i) (j8 _ rfl) ⟨c',C,O,t,rfl,c7 _ j,hd,hv⟩
  ·rw[aK (v8 (z9 (j9 e) h))];exact n
  ·by_cases z:b=P
   ·subst z;exact⟨_,c7 _ J⟩
   ·exact⟨o,B b o z e⟩
  ·obtain⟨o,es,Y,e,r⟩:=hm;exact⟨o,es,Y,B _ o (x _ I.free) e,r⟩
  ·by_cases z:b=c'
   ·subst z;rw[aF] at e;cases e;exact⟨C,c7 _ j⟩
   ·rw[aK z] at e;by_cases y:b=P
    ·subst y;rw[i] at e;cases e;refine⟨_,c7 _ J,by rw[bDA];exact TriplesOk_snoc _ _ _ _ L,λK a0 N=>?_⟩;rw[bDA] at N;rcases PySem.W.aBl _ L N with N|rfl
     ·obtain⟨c2,T,a1,t2,rfl,F,S,a4,a5⟩:=g K a0 N;exact⟨c2,T,a1,t2,rfl,a F,B _ _ (λz=>by rw[z,i] at F;cases F) S,a4,a5⟩
     ·exact⟨c',C,O,t,rfl,aF,c7 _ j,hd,hv⟩
    ·refine (I.hok b u e).stay (λd v V r=>B d v ?_ r) (λd r=>a r) λd xs r=>a r;rcases V with rfl|r'
     ·exact y
     ·intro z;rw[z,i] at r';cases r'
open Classical in
noncomputable def aD4 (S:Addr->Prop) (h:Heap) (H:Hp):Hp:=λb=>if S b then (h.get? b).map (ExO b) else H b
open Classical in
noncomputable def aEr (S:Addr->Prop) (H Z:Hp):Hp:=λb=>if S b then H b else Z b
def oG (a:S b)(e:h.get? b=some o):aD4 S h H b=some (ExO b o):=by unfold aD4;rw[if_pos a,e];rfl
def dC (a:¬ S b):aD4 S h H b=H b:=by unfold aD4;rw[if_neg a]
def aCw (a:S b):aEr S H Z b=H b:=by unfold aEr;rw[if_pos a]
def fY (a:¬ S b):aEr S H Z b=Z b:=by unfold aEr;rw[if_neg a]
structure aBa (X:Cx)(H:Hp)(h:Heap)(S:Addr->Prop):Prop where
 there:∀b,S b->∃o,h.get? b=some o
 own:∀d a o,¬ S a->H a=some o->H d=some (.own a)->¬ S d
 own2:∀d a o,S a->H a=some o->(∃e,o=.own e)\/(H d=some (.own a)->S d)
 tup:∀d xs,H d=some (.tup xs)->¬ S d
 frz:∀d o u,H d=some (.frz o u)->¬ S d
 tbl:∀d ps,H d=some (.tbl ps)->¬ S d
 base:∀b o,X.base.get? b=some o->¬ S b
 frs:∀b∈frs X.stack,¬ S b
theorem aBa.hok (p:aBa X H s.heap S)(I:Inv X bF8 σ H s):HOk X.prog X.w (aD4 S s.heap H) s.heap:=by
 intro b o e;by_cases a:S b
 ·obtain⟨g,c⟩:=p.there b a;rw[oG a c] at e;cases e;exact bBz c
 ·rw[dC a] at e;refine (I.hok b o e).stay (λ_ _ _ q=>q) (λd q=>?_) λd f q=>?_
  ·rw[dC (p.own d b o a e q)];exact q
  ·rw[dC (p.tup d f q)];exact q
def aBa.env0 (p:aBa X H s.heap S)(I:Inv X bF8 σ H s):aGe X.prog X.w X.K X.mg X.base X.A X.stack s (aD4 S s.heap H):=
 ⟨I.ok.frames,I.ok.mod,λb o e=>⟨(I.bs b o e).1,by rw[dC (p.base b o e)];exact (I.bs b o e).2⟩,bAE I.ok.bsz I.sz,I.stack,λb a=>by rw[dC (p.frs b a)];exact I.rC b a,p.hok I,I.bare⟩
theorem aBa.after (p:aBa X H s.heap S)(I:Inv X bF8 σ H s)(h:CE X.stack X.prog X.w (aD4 S s.heap H) s (λv Z=>Same (aD4 S s.heap H) Z/\∀H4,Same H H4->Q v H4) u s'):EP X bF8 σ Q u s':=by
 obtain⟨v,Z,F,m,i,l,B,A,q⟩:=h;have r:∀b o,S b->s.heap.get? b=some o->s'.heap.get? b=some o:=λb o g e=>(l b _ (A _ _ (oG g e))).1;have f:Same H (aEr S H Z):=λb o e=>by
  by_cases g:S b
  ·rw[aCw g];exact e
  ·rw[fY g];exact A _ _ (by rw[dC g];exact e)
 refine I.after ⟨v,aEr S H Z,F,m,⟨λb o e n g t=>?_,λb o e n g t=>?_,λb o e n t=>?_,i.there,λb y e=>?_,λb o u e=>?_,λb C e=>?_⟩,λb o e=>?_,B,q _ f⟩
 ·by_cases a:S b
  ·exact r b o a e
  ·exact i.keep b o e (by rw[dC a];exact n) g t
 ·exact i.slot b o e (by rw[dC (p.frs b g)];exact n) g t
 ·by_cases a:S b
  ·rw[aCw a];exact n
  ·rw[fY a];exact i.free b o e (by rw[dC a];exact n) t
 ·rw[fY (p.tup b y e)];exact i.tups b y (by rw[dC (p.tup b y e)];exact e)
 ·rw[fY (p.frz b o u e)];exact i.frzs b o u (by rw[dC (p.frz b o u e)];exact e)
 ·rw[fY (p.tbl b C e)];exact i.tbls b C (by rw[dC (p.tbl b C e)];exact e)
 ·by_cases a:S b
  ·rw[aCw a] at e;rcases p.own2 b b o a e with⟨x,rfl⟩|_
   ·obtain⟨k,j⟩:=p.there b a;exact⟨k,r b k a j⟩
   ·by_cases E:∃x,o=.own x
    ·obtain⟨x,rfl⟩:=E;obtain⟨k,j⟩:=p.there b a;exact⟨k,r b k a j⟩
    ·refine (I.hok b o e).stay (λc u hc D=>?_) (λd q=>f _ _ q) λd y q=>f _ _ q;rcases hc with rfl|hc
     ·exact r _ _ a D
     ·rcases p.own2 c b o a e with z|z
      ·exact absurd z E
      ·exact r _ _ (z hc) D
  ·rw[fY a] at e;refine (l b o e).stay (λ_ _ _ q=>q) (λd q=>?_) λd y q=>?_
   ·by_cases hd:S d
    ·obtain⟨k,j⟩:=p.there d hd;rw[A _ _ (oG hd j)] at q;cases q
    ·rw[fY hd];exact q
   ·by_cases hd:S d
    ·obtain⟨k,j⟩:=p.there d hd;rw[A _ _ (oG hd j)] at q;cases q
    ·rw[fY hd];exact q
end
section
variable {X:Cx}
def aTc (X:Cx)(iy:Nat)(P:Addr)(g x y:Str)(sp:Sp)(t:TA):TE:=fun σ H Q=>t σ H λvs H1=>∃z,σ[iy]?=some (some z)/\H1 P=some (.tab (X.env.qual++"<lambda>")) /\
 ∀f H2,vG H2 f (X.env.qual++"<lambda>") g x y z->(∀a xs,SqT X.K H1 a xs->SqT X.K H2 a xs)->sp (vs++[.ref f]) H2 (λr H3=>Same H2 H3/\∀H4,Same H1 H4->Q r H4) E0
theorem aOa
  (F:gK X.prog X.w X.K X.mg X.base CX0 k fa fd ps sp) (hr:Room k X.A) (al:Gl X fn) (hm:X.mg fn=some (.ref fa)) (hk:PySem.W.keepIn X.K (.ref fa)=true) (hb:Binds X.K fd ps [])
  (h1:PE X e1 te1) (h2:PE X e2 te2) (h3:PE X e3 te3)
  (a5:X.env.code=.ref c) (CH:PySem.W.CodeHd X.base c P) (ah:BM X.mg X.base) (S:bAj (X.env.qual++"<lambda>") g x y params body scope) (hN:X.N[iy]?=some y) (ab:X.env.kindOf y=some .cell) (D:X.env.cells.lookup y=some cp) (a3:X.fn y=true) (ai:closureFor scope X.env=pure [(y,cp)]) (ag:defaultsOf params X.env=([],[]))
  (aj:(fn == ("__debug__":Str))=false:=by decide)
  (a7:starEach [e1,e2,e3,.Lambda params body scope lpos] X.env=[(false,eval e1 X.env),(false,eval e2 X.env),(false,eval e3 X.env),(false,eval (.Lambda params body scope lpos) X.env)]:=by rfl)
  (af:starEach [e2,e3,.Lambda params body scope lpos] X.env=[(false,eval e2 X.env),(false,eval e3 X.env),(false,eval (.Lambda params body scope lpos) X.env)]:=by rfl) :
  PE X (.Call (.Name fn p) [e1,e2,e3,.Lambda params body scope lpos] [] pos) (aTc X iy P g x y sp (dH te1 (dH te2 (dH te3 aAq)))):=by
 intro E s σ H Q I h;refine bBK (oM I al hm ?_ aj);refine PySem.W.callWith_K I.ok.mod.kin hk ?_ (by rw[a7,af]) (by rw[af];rfl);rw[a7];refine bBY (thn (h1 E s σ H _ I h) λu1 s1 ⟨v1,H1,I1,r1,q1⟩=>?_);refine bBY (thn (h2 E s1 σ H1 _ I1 q1) λV s2 ⟨v2,H2,I2,r2,q2⟩=>?_);refine bBY (thn (h3 E s2 σ H2 _ I2 q2) λO s3 ⟨v3,H3,I3,r3,q3⟩=>?_);obtain⟨z,hz,hP,q⟩:=q3;refine bBY (aQc I3 a5 CH hP ah ai ag λf c' pm a6 M h' tk v s4 J Y a2 l ef U=>bET ⟨v.kIn,?_⟩);generalize a4:({ s3 with heap:=h',toks:=tk }:Shared)=s4' at v;have hh:s4'.heap=h':=by rw[<-a4]
 rw[<-hh] at ef U;obtain⟨m,hn,hl⟩:=v.loc;obtain⟨u,ru,lk⟩:=hl iy y z hN hz (.inr (.inl ab));have G:s4'.heap.IsCell cp (some u):=by
  rcases lk with⟨k',_⟩|⟨_,c2,e,hc⟩
  ·rw[ab] at k';cases k'
  ·rw[D] at e;cases e;exact hc
 obtain⟨ol,L,a1⟩:=id G;obtain⟨c2,oc,vs,t,ae,ad,a8,hv⟩:=U;cases ae;have j:=v.freeC y cp D;obtain⟨v0,ov,aa,_⟩:=I3.cell y cp D;have ak:=z9 (j9 aa) J;have PO:aBa X M s4'.heap (λb=>b=f\/b=cp\/b=P\/M b=some (.own P)):=by
  refine⟨λb hb=>?_,λd a o ha n C hd=>?_,λd a o ha n=>?_,λd xs e hd=>?_,λd o u e hd=>?_,λd ps e hd=>?_,λb o e hd=>?_,λb hb hd=>?_⟩
  ·rcases hb with rfl|rfl|rfl|hb
   ·exact⟨_,ef⟩
   ·exact⟨_,L⟩
   ·obtain⟨ps,e,_⟩:=v.hok _ _ l;exact⟨_,e⟩
   ·exact v.hok _ _ hb
  ·rcases hd with rfl|rfl|rfl|hd
   ·rw[Y] at C;cases C
   ·rw[j] at C;cases C
   ·rw[l] at C;cases C
   ·rw[hd] at C;cases C;exact ha (.inr (.inr (.inl rfl)))
  ·rcases ha with rfl|rfl|rfl|ha
   ·rw[Y] at n;cases n
   ·rw[j] at n;cases n
   ·exact .inr λq=>.inr (.inr (.inr q))
   ·rw[ha] at n;cases n;exact .inl ⟨_,rfl⟩
  ·rcases hd with rfl|rfl|rfl|hd
   ·rw[Y] at e;cases e
   ·rw[j] at e;cases e
   ·rw[l] at e;cases e
   ·rw[hd] at e;cases e
  ·rcases hd with rfl|rfl|rfl|hd
   ·rw[Y] at e;cases e
   ·rw[j] at e;cases e
   ·rw[l] at e;cases e
   ·rw[hd] at e;cases e
  ·rcases hd with rfl|rfl|rfl|hd
   ·rw[Y] at e;cases e
   ·rw[j] at e;cases e
   ·rw[l] at e;cases e
   ·rw[hd] at e;cases e
  ·have i:=(v.bs b o e).2;have T:=z9 (j9 e) I.ok.bsz;rcases hd with rfl|rfl|rfl|hd
   ·exact absurd (z9 T (bAE I3.sz J)) (bBM _)
   ·exact absurd (z9 T (I.ok.cab y _ a3 D)) (bBM _)
   ·rw[l] at i;cases i
   ·rw[hd] at i;cases i
  ·have i:=v.rC b hb;rcases hd with rfl|rfl|rfl|hd
   ·obtain⟨_,o,n,_⟩:=I3.stack.mem hb;exact absurd (z9 (j9 n) J) (bBM _)
   ·rcases List.mem_cons.mp (v.aHv _ hb) with e|hb'
    ·obtain⟨o,es,ep,n,C,_⟩:=hn;rw[<-e,L] at n;cases n;rw[a1] at C;cases C
    ·obtain⟨_,o,n,_⟩:=I.ok.funs.mem hb';exact absurd (z9 (j9 n) (I.ok.cab y _ a3 D)) (bBM _)
   ·rw[l] at i;cases i
   ·rw[hd] at i;cases i
 have LA:vG (aD4 (λb=>b=f\/b=cp\/b=P\/M b=some (.own P)) s4'.heap M) f (X.env.qual++"<lambda>") g x y z:=
  ⟨params,body,scope,cp,c',pm,a6,oc,ol,u,vs,t,S,oG (.inl rfl) ef,oG (.inr (.inl rfl)) L,λh e=>⟨ol,e,a1⟩,ru,oG (.inr (.inr (.inr a2))) ad,a8,hv⟩
 have hq:=q f _ LA λb xs e=>by
  rcases s4.aR e with (e|⟨ob,e⟩)|e
  ·exact .inl (.inl (by rw[dC (PO.tup b xs e)];exact e))
  ·exact .inl (.inr ⟨ob,by rw[dC (PO.frz b ob _ e)];exact e⟩)
  ·exact .inr e
 have r:Vals [v1,v2,v3,.ref f] [u1,V,O,.ref f]:=.cons r1 (.cons r2 (.cons r3 (.cons rfl .nil)));have R:([u1,V,O,Value.ref f]++([]:List Value)).length=ps.length:=by rw[bBB,<-r.length];exact F.len _ _ _ _ hq
 refine bDJ (bCN (F.run X.A X.stack s4' (aD4 (λb=>b=f\/b=cp\/b=P\/M b=some (.own P)) s4'.heap M) ⟨[u1,V,O,.ref f],[]⟩ [u1,V,O,.ref f] [v1,v2,v3,.ref f] _ E0 hr (PO.env0 v) (by simpa using hb s4' [u1,V,O,.ref f] v.kIn R) r hq) λrr s' B=>?_);cases rr with
 |error e=>exact B.elim
 |ok fl=>
  cases fl with
  |next=>exact False.elim B
  |brk=>exact False.elim B
  |cont=>exact False.elim B
  |ret uu=>obtain⟨v',Z,os,a0,un,a9,ac,sm,qq⟩:=B;exact PO.after v ⟨v',Z,os,a0,un,a9,ac,sm,λH4 s5=>qq H4 (s4.trans s5)⟩
def aQ4 {n:Str}{p pos:Pos}{e:Expr}{es:List Expr}{te:TE}{t:TA}{P:Program}{w:World}{K:bF4}{mg:bF7}{base:Heap}{k:Nat}(f:Room (k+1) X.A)(c:VE X (.Name n p) te)(g:VA X (e::es) t)(l:cL e=true:=by rfl)(a:(backTo pos (starEach es X.env)).any (·.1)=false:=by rfl)
  (h:X.prog=P:=by rfl) (i:X.w=w:=by rfl) (b:X.K=K:=by rfl) (j:X.mg=mg:=by rfl) (d:X.base=base:=by rfl) :
  VE X (.Call (.Name n p) (e::es) [] pos) (aVy P w K mg base k te t):=by
 subst h i b j d;exact⟨aV6 f c.1 g.1 (aM l) a⟩
def aL6
  (G:Ok X.prog X.w X.K X.mg X.base k fn ps sp) (v:Room k X.A) (q:Gl X fn) (D:VE X e1 te1) (z:VE X e2 te2) (C:VE X e3 te3)
  (a:X.env.code=.ref c) (E:PySem.W.CodeHd X.base c P) (o:BM X.mg X.base) (S:bAj (X.env.qual++"<lambda>") g x y params body scope) (B:X.N[iy]?=some y) (u:X.env.kindOf y=some .cell) (r:X.env.cells.lookup y=some cp) (s:X.fn y=true) (j:closureFor scope X.env=pure [(y,cp)]) (e:defaultsOf params X.env=([],[]))
  (n:cL e1=true:=by rfl) (b:cL e2=true:=by rfl) (d:cL e3=true:=by rfl) (t:(fn == ("__debug__":Str))=false:=by decide)
  (m:starEach [.Lambda params body scope lpos] X.env=[(false,eval (.Lambda params body scope lpos) X.env)]:=by rfl) :
  VE X (.Call (.Name fn p) [e1,e2,e3,.Lambda params body scope lpos] [] pos) (aTc X iy P g x y sp (dH te1 (dH te2 (dH te3 aAq)))):=by
 obtain⟨H,F,l,h,f,i⟩:=G;refine⟨aOa i v q l h f D.1 z.1 C.1 a E o S B u r s j e t ?_ ?_⟩
 ·rw[aM n,aM b,aM d,m]
 ·rw[aM b,aM d,m]
end
end L2
namespace HT
open PySem PySem.Spec PyProof.Rows L2
section
variable {prog:Program}{w:World}{A:Around}{E:bF5}{s:Shared}
def rO {t y:Addr}{a:Array Value}{vl vu:Value}{lo hi:Option Int}{Q:bF5}(c:IsTup s.heap t a)(l:s.heap.IsSliceOf y vl vu .none)(pl:IsPart vl lo)(C:IsPart vu hi)
  (q:sIx a.size 0 lo=0/\sIx a.size a.size hi=a.size) (h:Q (.ref t) s):wpAny (model prog w) A (getItem (.ref t) (.ref y)) Q E s:=by
 obtain⟨r,i,e,p⟩:=id l;have f:s.TypeIs (.ref y) "slice":=⟨r,i,e⟩;obtain⟨⟨v,B,j,m⟩,u,k,n,hd⟩:=id c;simp only at k hd;subst k hd;unfold getItem
 try with_reducible refine bAR ?_
 first|refine b7 (d7 ?_)|skip
 refine b7 (wpAny_sequenceKey c.typeIs (by decide) ?_);refine b7 (bAG c.typeIs bCI
  (bAD bCI c.typeIs entry_tuple_getitem ?_ (args_tuple_getitem _ _)))
 show wpAny _ _ (Builtin.Tuple.tupleItemsOf (.ref t) >>= _) _ _ s;refine b7 (tupleItemsOf_ c ?_);refine b7 (bEU f ?_);rw[if_pos (by decide)];refine b7 (mR l pl C ?_);have b:((((sIx a.size 0 lo:Nat):Int) == 0 && (1:Int) == 1 && (sIx a.size a.size hi - sIx a.size 0 lo) == a.size)=true):=by rw[q.1,q.2];simp
 show wpAny _ _ (if (((sIx a.size 0 lo:Nat):Int) == 0 && (1:Int) == 1 && (sIx a.size a.size hi - sIx a.size 0 lo) == a.size)=true then _ else _) _ _ s;rw[if_pos b];obtain⟨z,g,d,x,o⟩:=s;wp_walk using AutoSeq1.wpAny_loadPart' u;exact⟨_,rfl,d7 h⟩
end
end HT
namespace L2
open PySem PySem.Spec PyProof.Rows
def bEw (K:bF4):V->Option Int->Option Int->Hp->VK->Prop:=λx lo hi H Q=>∃a xs,x=.ref a/\SqT K H a xs/\∀p H',Same H H'->SqT K H' p (mY xs lo hi)->Q (.ref p) H'
def aA0:SlR X (bEw X.K):=by
 intro f s σ H x v w A k i y Q I n o m t h;obtain⟨a,b,rfl,j,q⟩:=h;by_cases d:HT.sIx b.length 0 k=0/\HT.sIx b.length b.length i=b.length
 ·cases n;obtain⟨g,r,l,C⟩:=I.tuple j;have c:g.toArray.size=b.length:=by rw[d9];exact r.length.symm
  refine⟨"tuple",_,PyProof.Rows.slot_tuple_getitem.lookup,l.typeIs,?_⟩;refine HT.rO l o m t (by rw[c];exact d) ⟨.ref a,H,I,rfl,q a H (Same.refl H) ?_⟩;have e:mY b k i=b:=by unfold mY;rw[d.1,d.2,List.drop_zero,Nat.sub_zero,bCW]
  rw[e];exact j
 ·exact aAy f s σ H _ v w A k i y Q I n o m t ⟨a,b,rfl,j,d,λp u z B=>q p u z (SqT.of B)⟩
end L2
namespace L2
open PySem PySem.Spec PyProof.Rows
section
variable {X:Cx}
end
inductive PH (P:Program)(w:World):List DictEntry->List (Str × Value)->Prop
 |nil:PH P w [] []
 |cons {e:DictEntry} {kv:Str × Value} {es:List DictEntry} {kvs:List (Str × Value)}:(strKind P w).is kv.1 e.key=true->e.hash=(strKind P w).hash kv.1->e.val=kv.2->PH P w es kvs->PH P w (e::es) (kv::kvs)
end L2
namespace PySem
def aCi:typeLookup (.type "list") "keys"=pure none:=am_miss_of_fast (by decide +kernel)
section
variable {prog:Program}{w:World}{A:Around}{E:bF5}{s:Shared}
end
end PySem
namespace PySem
def gQ:entryFor table "dict.update.loop"=some Builtin.«dict.update.loop»:=entryFor_of_tree (by kernel_rfl)
def cU:plainId "dict.update.loop"=true:=by decide +kernel
section
variable {prog:Program}{w:World}{κ:Type}[DecidableEq κ]{knd:KeyKind prog w κ}
def tR (knd:KeyKind prog w κ)(h:Heap)(v:Value)(kv:κ × Value):Prop:=∃p key,v=.ref p/\PyProof.Rows.IsTup h p #[key,kv.2]/\knd.is kv.1 key=true
def tR.at (x:tR knd h v kv)(k:∀p,v=.ref p->∀o,h.get? p=some o->h'.get? p=some o):tR knd h' v kv:=by obtain⟨p,a,rfl,⟨o,b,r⟩,c⟩:=x;exact⟨p,a,rfl,⟨o,k p rfl o b,r⟩,c⟩
theorem aAl (W:Walks prog w A.in1 I fp wr n P St)(D:Addr)(hD:D∉fp)
  (a:List (κ × Value)) (Z:a.length=n) (hb:n<=1000) (hP:∀i v,P i v->∀p,v=.ref p->p∉D::wr) :
  ∀k i s t,i+k=n->St i s.heap->s.heap.DictOf knd D (merged [] (a.take i))->(∀j v kv,P j v->a[j]?=some kv->tR knd s.heap v kv) ->
   (∀h' tk,(∀b o,b∉D::wr->s.heap.get? b=some o->h'.get? b=some o)->h'.DictOf knd D (merged [] a)->R (.ok (.ret .none)) { s with heap:=h',toks:=tk }) ->
   codeAny (model prog w) A (.builtin "dict.update.loop" ⟨[.ref D,.ref I,.int (i:Nat) t,.none],[]⟩) R s:=by
 have x:D∉wr:=λq=>hD (W.sub _ q);intro k
 induction k with
 |zero=>
  intro i s t hi T hd hp q;obtain rfl:i=n:=by lia
  refine bBR gQ ?_;rw[bBI cU _];refine b7 (W.done s _ _ T λh' tk F=>?_);refine b7 (d7 (d7 (q h' tk (λb o f e=>F b o (λz=>f (j5 _ z)) e) ?_)));rw[bAW (Nat.le_of_eq Z)] at hd;exact hd.at λo e=>F D o x e
 |succ k ih=>
  intro i s t hi T hd hp q;refine bBR gQ ?_;rw[bBI cU _];refine b7 (W.item i s _ _ (by lia) T λv C c hv U r=>?_);have K:i<a.length:=by lia
  have y:=b8 K;have G:=hd.at λo e=>r D o x e;have u:∀j v kv,P j v->a[j]?=some kv->tR knd C v kv:=λj v kv pj e=>(hp j v kv pj e).at λp Y o V=>r p o (λz=>hP j v pj p Y (j5 _ z)) V;obtain⟨p,S,rfl,⟨⟨oc,od,ox,a0⟩,ho,hc,m,hx⟩,hk⟩:=u i v _ hv y;simp only at hc hx;subst hc hx;have H:(merged [] (a.take i)).length<=i:=by have:=merged_length_le [] (a.take i);rw[bAI] at this;simp only[bBS] at this;lia
  obtain⟨N,g,d,tk,J⟩:=s;have hT:(⟨C,g,d,c,J⟩:Shared).TypeIs (.ref p) "tuple":=⟨_,ho,rfl⟩;have X:∀Q E,Q [S,a[i].2] ⟨C,g,d,c,J⟩->wpAny (model prog w) A.in1 (Builtin.Dict.pairItems (.ref p)) Q E ⟨C,g,d,c,J⟩:=by intro Q E h;unfold Builtin.Dict.pairItems;wp_walk;exact h
  refine b7 (bAR (b7 (wpAny_tryCatch (X _ _ ?_))));refine bAR (wpAny_dictSet_pairs hk G (λh2 B l=>?_) (bAE H (bAE (by lia) (show 1000<=sizeLine by decide))));have e1:=merged_take_succ [] a i _ y;rw[<-e1] at B;refine d7 ⟨bCT cU _,?_⟩;have O:∀b o,b∉D::wr->N.get? b=some o->h2.get? b=some o:=λb o f e=>by rw[l.2 b (λz=>f (by rw[z];exact j0))];exact r b o (λz=>f (j5 _ z)) e
  refine ih (i+1) _ _ (by lia) (W.frame _ _ _ U λb hb o e=>?_) B (λj v kv pj e=>(u j v kv pj e).at λp' Y o V=>?_) λh' M F L=>q h' M (λb o f e=>F b o f (O b o f e)) L
  ·rw[l.2 b (λz=>hD (by rw[<-z];exact hb))];exact e
  ·rw[l.2 p' (λz=>hP j v pj p' Y (by rw[z];exact j0))];exact V
end
end PySem
namespace PySem
section
variable {prog:Program}{w:World}{κ:Type}[DecidableEq κ]{knd:KeyKind prog w κ}{A:Around}{E:bF5}{s:Shared}
end
end PySem
namespace PySem
open PySem.Calls PyProof.Rows
section
variable {prog:Program}{w:World}{κ:Type}[DecidableEq κ]{knd:PySem.KeyKind prog w κ}{A:Around}{E:bF5}{s:Shared}
end
end PySem
namespace L2
open PySem PySem.Spec PyProof.Rows
section
variable {X:Cx}
abbrev aSy (K:bF4)(H:Hp):List V->List (Key × V)->Prop:=Paired λu kv=>∃p,u=.ref p/\SqT K H p [kV kv.1,kv.2]
theorem aZ5 (I:Inv X bF8 σ H s)(h:aSy X.K H us kvs):∀{its:List Value},Vals us its ->
  ∃vs:List (Key × Value),KV kvs vs/\vs.length=its.length/\∀(j:Nat) (v:Value) (kv:Key × Value),its[j]?=some v->vs[j]?=some kv->tR (bI X.prog X.w) s.heap v kv:=by
 induction h with
 |nil=>intro its c;cases c;exact⟨[],.nil,rfl,λj v kv e _=>by simp at e⟩
 |@cons u kv us kvs r t ih=>
  intro its c;cases c with
  |cons q z=>
   obtain⟨p,rfl,i⟩:=r;cases q;obtain⟨y,o,m,x⟩:=I.tuple i;obtain⟨vs,l,f,k⟩:=ih z;obtain⟨a,val,rfl,g,n⟩:=vals2 o;refine⟨(kv.1,val)::vs,.cons ⟨rfl,n⟩ l,by rw[m8,m8,f],λj v b e d=>?_⟩;cases j with
   |zero=>cases e;cases d;exact⟨p,a,rfl,m,uW g⟩
   |succ j=>exact k j v b (by simpa using e) (by simpa using d)
theorem aC7:∀kvs acc,((acc++kvs).map (·.1)).Nodup->lU acc kvs=acc++kvs
 |[],acc,_=>by simp[lU]
 |kv::r,acc,h=>by
  have a:nO acc kv.1=none:=by
   cases e:nO acc kv.1 with
   |none=>rfl
   |some v=>exfalso;have:=aWe e;rw[bBF,List.nodup_append] at h;exact h.2.2 _ this _ (by rw[bAL];exact j0 ..) rfl
  show lU (putK acc kv.1 kv.2) r=_;rw[aTh _ a,aC7 r _ (by rw[bCY];exact h),bCY];rfl
end
section
variable {X:Cx}{e st:Expr}{te ts:TE}{pos p2:Pos}
end
section
variable {X:Cx}{o i value:Expr}{td ty tv:TE}{pos pos':Pos}
def vM (b:X.A.units+1<cLine)(ho:VE X o td)(hi:VE X i ty)(c:VE X value tv)(a:swapsWith value (some (.Subscript o i pos')) pos.line X.env=pure false:=by rfl):VS X (.Assign [.Subscript o i pos'] value pos) (aZt td ty tv):=⟨aXs b ho.1 hi.1 c.1 a⟩
end
def xP (ho:VE X o to)(hi:VE X i ti)(b:bAk X t)
  (a:∀v,assign (.Subscript o i pos) X.env v=(do
   let ov <-holding [v] (eval o X.env)
   let iv <-holding [v,ov] (eval i X.env)
   standAt pos
   holding [v,ov,iv] (setItem ov iv v)
   release [v,ov,iv] []):=by intro _;rfl):VG X (.Subscript o i pos) (bDb to ti t):=⟨bBl ho.1 hi.1 b a⟩
def aLg:MtR X "list.reverse" aKi:=aMe
end L2
namespace PySem
section
variable {prog:Program}{w:World}{A:Around}{E:bF5}{s:Shared}
end
section
variable {prog:Program}{w:World}{κ:Type}[DecidableEq κ]{knd:KeyKind prog w κ}
end
end PySem
namespace PySem
section
variable {prog:Program}{w:World}{A:Around}{E:bF5}{s:Shared}
end
section
variable {prog:Program}{w:World}{κ:Type}[DecidableEq κ]{knd:KeyKind prog w κ}{A:Around}{E:bF5}{s:Shared}
end
end PySem
namespace L2
open PySem PySem.Spec PyProof.Rows
section
variable {X:Cx}{a b:Expr}{ta:TA}{pos p pos2 p2:Pos}
end
def Itw (K:bF4)(t u:Addr)(xs ys:List V):It:=
 ⟨λi H=>SqL K H t xs/\SqL K H u ys/\i<xs.length/\i<ys.length,λi H v H'=>∃T a b,H T=none/\v=.ref T/\H'=upd H T (.tup [a,b])/\xs[i]?=some a/\ys[i]?=some b,λi H=>SqL K H t xs/\SqL K H u ys/\i=ys.length/\ys.length<=xs.length⟩
section
variable {X:Cx}
def aNk (K:bF4)(ta:TA):TI:=fun σ H R=>ta σ H λvs H1=>∃t u xs ys,vs=[.ref t,.ref u]/\SqL K H1 t xs/\SqL K H1 u ys/\R (Itw K t u xs ys) H1
def aU1 (d:Gl X "zip")(n:X.mg "zip"=none)(m:PA X [a,b] ta)(o:starEach [a,b] X.env=(false,eval a X.env)::starEach [b] X.env:=by rfl)
  (j:starEach [b] X.env=[(false,eval b X.env)]:=by rfl):PI X (.Tuple elts kt tp) (.Call (.Name "zip" p) [a,b] [] pos) (aNk X.K ta):=
 aPs true (λD=>let T:=aE4 D;⟨T.mem,T.obj,T.keep,T.item,λX l e g f i c s σ H E I k h d=>T.done X l e g f i c s σ H E I k h (.inr d),T.self⟩) d n m o j
def aVf (d:Gl X "zip")(f:X.mg "zip"=none)(g:VA X [a,b] t)(e:cL a=true:=by rfl)(c:cL b=true:=by rfl) :
  VI X (.Tuple elts kt tp) (.Call (.Name "zip" p) [a,b] [] pos) (aNk X.K t):=⟨aU1 d f g.1 (aM e) (aM c)⟩
end
def aJ3 {K:bF4}{t u:Addr}{xs ys:List V}{H:Hp}{E:L2.St}{te:TE}{Q:VK}(s:SqL K H t xs)(A:SqL K H u ys)(w:ys.length<=xs.length)(C:Ps2 E E)(hsz:ys.length<=1000)(j:List V)(hzl:j.length=ys.length)
  (G:∀(i:Nat) (x y z:V),xs[i]?=some x->ys[i]?=some y->j[i]?=some z->∀H' R,Same H H'->(∀H2,Same H' H2->R z H2)->te ((E.set 0 (some x)).set 1 (some y)) H' R)
  (q:∀D H',Same H H'->H' D=some (.lst j)->Q (.ref D) H'):qN (Itw K t u xs ys) H E (aL4 K 2 (tG (bO 0) (tG (bO 1) aQ3))) mW te Q:=by
 intro D r;refine⟨λi m p H' l=>m=ys.length - i/\i<=ys.length/\Same H H'/\H' D=some (.lst l)/\l=j.take i/\Ps2 E p,⟨ys.length,by simp,bAC _,aW r _,aF,rfl,C⟩,?_⟩;rintro i m p H' l ⟨rfl,hi,sm,gD,rfl,hps⟩;refine⟨gD,?_⟩;by_cases h:i<ys.length
 ·right;refine⟨⟨sm.seq s,sm.seq A,by lia,h⟩,?_⟩;rintro v H2 ⟨T,a,b,hT,rfl,rfl,ha,hb⟩;have n:Same H' (L2.upd H' T (.tup [a,b])):=aW hT _;refine hg2 (SqT.of aF) hps fun F c k=>?_;have d:=k;subst d;dsimp only[mW];rw[if_pos rfl];have f:i<j.length:=by lia
  refine G i a b j[i] ha hb (b8 f) _ _ (sm.trans n) λB o=>?_;have g:=o _ _ (n _ _ gD);refine⟨g,bCJ (show (j.take i).length<=1000 by rw[bAI];lia) (by decide),ys.length - (i+1),by lia,rfl,by lia,gH r (sm.trans (n.trans o)),aF,?_,c⟩;rw[bBP,b8 f];rfl
 ·left;have e:i=ys.length:=by lia
  subst e;rw[bAW (by lia)] at gD;exact⟨⟨sm.seq s,sm.seq A,rfl,w⟩,q D H' sm gD⟩
def aMt {J:It}{H:Hp}{xs:List V}{t:L2.St}{te:TE}{Q:VK}(u:∀H' i x,Same H H'->xs[i]?=some x->J.go i H'/\∀y H2,J.yld i H' y H2->H2=H'/\y=x)(k:∀H',Same H H'->J.stop xs.length H')(w:Ps1 t t)(hsz:xs.length<=1000)
  (d:List V) (hzl:d.length=xs.length) (B:∀(i:Nat) (x z:V),xs[i]?=some x->d[i]?=some z->∀H' R l,Same H H'->(∀H2,Same H' H2->R z H2)->te ((t.set 0 l).set 0 (some x)) H' R)
  (q:∀D H',Same H H'->H D=none->H' D=some (.lst d)->Q (.ref D) H'):qN J H t (bO 0) mW te Q:=by
 intro D h;refine⟨λi m n H' g=>m=xs.length - i/\i<=xs.length/\Same H H'/\H' D=some (.lst g)/\g=d.take i/\Ps1 t n,⟨xs.length,by simp,bAC _,aW h _,aF,rfl,w⟩,?_⟩;rintro i m n H' g ⟨rfl,hi,sm,gD,rfl,hps⟩;refine⟨gD,?_⟩;by_cases a:i<xs.length
 ·right;obtain⟨p,o⟩:=u H' i xs[i] sm (b8 a);refine⟨p,λv H2 r=>?_⟩;obtain⟨rfl,rfl⟩:=o v H2 r;refine hg1 (i:=i) hps fun A b f=>?_;obtain⟨l,rfl⟩:=f;dsimp only[mW];rw[if_pos rfl];have c:i<d.length:=by lia
  refine B i _ d[i] (b8 a) (b8 c) _ _ l sm λs j=>?_;refine⟨j _ _ gD,bCJ (show (d.take i).length<=1000 by rw[bAI];lia) (by decide),xs.length - (i+1),by lia,rfl,by lia,gH h (sm.trans j),aF,?_,b⟩;rw[bBP,b8 c];rfl
 ·left;have e:i=xs.length:=by lia
  subst e;rw[bAW (by lia)] at gD;exact⟨k H' sm,q D H' sm h gD⟩
def aU2 {X:Cx}{K:bF4}{scope:Scope}{N:List Str}{tl:TA}{te:TE}{tt:TT}{g:TG}{σ:L2.St}{H:Hp}{Q:VK}(b:L2.St)(a:Cap X scope N σ b)(h:tl σ H λvs H1=>∃t u xs ys,vs=[.ref t,.ref u]/\SqL K H1 t xs/\SqL K H1 u ys/\qN (Itw K t u xs ys) H1 b g tt te Q):jA X scope N (aNk K tl) g tt te σ H Q:=⟨b,a,h⟩
def tK (ts:List (Addr × Str))(H:Hp):Prop:=∀p∈ts,H p.1=some (.tab p.2)
def mQ:List (Addr × Str)->Addr->Option Str
 |[],_=>none
 |p::r,b=>if b=p.1 then some p.2 else mQ r b
theorem aE1:∀{ts:List (Addr × Str)},(∀p∈ts,b≠p.1)->mQ ts b=none
 |[],_=>rfl
 |p::r,h=>by unfold mQ;rw[if_neg (h p j0)];exact aE1 λq a=>h q (j5 _ a)
theorem pX:∀{ts:List (Addr × Str)},mQ ts b=some q->∃p∈ts,p.1=b/\p.2=q
 |p::r,h=>by
  unfold mQ at h;by_cases e:b=p.1
  ·rw[if_pos e] at h;exact⟨p,j0,e.symm,bAK h⟩
  ·rw[if_neg e] at h;obtain⟨c,d,a⟩:=pX h;exact⟨c,j5 _ d,a⟩
theorem aOl:∀{ts:List (Addr × Str)},(ts.map (·.1)).Nodup->∀{p:Addr × Str},p∈ts->mQ ts p.1=some p.2
 |p::r,nd,q,hq=>by
  rw[bAL,bFN] at nd;unfold mQ;rcases List.mem_cons.mp hq with rfl|hq
  ·rw[if_pos rfl]
  ·rw[if_neg λz=>nd.1 (by rw[<-z];exact List.mem_map.mpr ⟨q,hq,rfl⟩)];exact aOl nd.2 hq
theorem aQt {P:Program}{w:World}{K:bF4}{mg mb:bF7}{CX:CXT}{k:Nat}{fa a:Addr}{fd:FuncData}{x:Str}{sp:Sp}{i:Shared}{vs:List Value}{ns:List Int}
  (KX:K.In i.heap) (Z:i.heap.Ns mainGlobals mg) (g:i.heap.Ns builtinsNs mb) (a5:∀x:Str,x≠"__name__"->mb x=bootBuiltins x) (a1:i.heap.NoLimit) (hg:i.gens=#[])
  (N:i.heap.get? a=some { cls:=.type "list",data:=.seq vs.toArray }) (hi:IntsAre vs ns) (hl:ns.length<=sizeLine) (hr:Room k callerA)
  (ts:List (Addr × Str)) (l:∀p∈ts,i.heap.get? p.1=some { cls:=.none,data:=.fields #[] }/\isCodeTable i.heap p.1/\K.lookup p.1=none) (a4:(ts.map (·.1)).Nodup) (a2:BM mg i.heap)
  (F:∀base:Heap,K.In base->base.Ns mainGlobals mg->BM mg base->gK P w K mg base CX k fa fd [x] sp) (T:∀(s:Shared) (u:Value),BindsTo s fd ⟨[u],[]⟩ [(x,u)])
  (a3:∀H:Hp,tK ts H->SqL K H a (ns.map V.int)->sp [.ref a] H (λv H'=>v=.bl true/\tK ts H') λ_ _ _=>False)
  (a6:∀H e s',CX [] H i (λ_ _ _=>False) e s'->False) :
  codeAny (model P w) callerA (.call (.ref fa) ⟨[.ref a],[]⟩) (λr s'=>r=.ok (.ret (.bool true))/\OldK i.heap s'.heap/\s'.os=i.os/\AllBare s'.gens) i:=by
 have rv:=aFa hi;have S:=hi.length;have B:∀H:Hp,tK ts H->(∀b,(∀p∈ts,b≠p.1)->H b=none\/∃o xs,H b=some (.frz o (.lst xs)))->SqL K H a (ns.map V.int)->HOk P w H i.heap->(∀b,H b≠none->b=a\/∃p∈ts,b=p.1)->(H a≠none->K.lookup a=none) ->
   codeAny (model P w) callerA (.call (.ref fa) ⟨[.ref a],[]⟩) (λr s'=>r=.ok (.ret (.bool true))/\OldK i.heap s'.heap/\s'.os=i.os/\AllBare s'.gens) i:=by
  intro H hT hO hS Q W hK;have f:∀{b:Addr} {o:Obj},i.heap.get? b=some o->H b=none->(aD2 i.heap H).get? b=some o:=λe n=>aUt e n;have a0:∀{b:Addr} {o:Obj} {E:Array DictEntry} {D:Nat},i.heap.get? b=some o->o.data=.dict E D->H b=none:=λ{b o E D} e d=>by
   cases q:H b with
   |none=>rfl
   |some u=>
    rcases W b (by rw[q];simp) with e'|⟨p,c,e'⟩
    ·subst e';rw[N] at e;cases e;have Y:Data.seq vs.toArray _=Data.dict E D:=d;cases Y
    ·subst e';rw[(l p c).1] at e;cases e;have Y:Data.fields _=Data.dict E D:=d;cases Y
  have A:∀{b:Addr} {m:bF7},i.heap.Ns b m->(aD2 i.heap H).Ns b m:=λ{b m} ⟨o,E,D,e,d,r⟩=>⟨o,E,D,f e (a0 e d),d,r⟩;have I:K.In (aD2 i.heap H):=λb o e=>f (KX b o e) (by
   cases q:H b with
   |none=>rfl
   |some u=>
    rcases W b (by rw[q];simp) with e'|⟨p,c,e'⟩
    ·subst e';rw[hK (by rw[q];simp)] at e;cases e
    ·subst e';rw[(l p c).2.2] at e;cases e)
  have J:BM mg (aD2 i.heap H):=by
   obtain⟨bm,ob,b1,b2,G,b4,b5,X⟩:=a2;refine⟨bm,ob,b1,b2,f G ?_,b4,b5,X⟩;cases q:H bm with
   |none=>rfl
   |some u=>
    rcases W bm (by rw[q];simp) with e'|⟨p,c,e'⟩
    ·rw[e',N] at G;cases G;cases (show Data.seq vs.toArray _=Data.plain from X)
    ·rw[e',(l p c).1] at G;cases G;cases (show Data.fields _=Data.plain from X)
  have hM:Mod K mg (aD2 i.heap H):=⟨I,A Z,⟨mb,A g,a5⟩,let ⟨mc,h1,h2⟩:=a1;⟨mc,A h1,h2⟩⟩;have e0:aGe P w K mg (aD2 i.heap H) callerA [] i H:=⟨rfl,hM,λb o e=>aXf e,Nat.le_of_eq (aRw _ _),trivial,λb g=>absurd (show b∈([]:List Addr) from g) (by simp),Q,.of_eq hg⟩;refine bCN ((F _ I (A Z) J).run callerA [] i H ⟨[.ref a],[]⟩ [.ref a] [.ref a] _ _ hr e0 (T i (.ref a)) (.cons rfl .nil) (a3 H hT hS)) λr s' h=>?_;cases r with
  |error e=>exact (a6 H e s' h).elim
  |ok fl=>
   cases fl with
   |next=>exact False.elim h
   |brk=>exact False.elim h
   |cont=>exact False.elim h
   |ret u=>
    obtain⟨v,H',os,R,un,t,r',q⟩:=h;obtain⟨q',qT⟩:=(show v=.bl true/\tK ts H' from q);subst q';obtain rfl:u=Value.bool true:=r';have kp:∀b o,i.heap.get? b=some o->(∀p∈ts,b≠p.1)->s'.heap.get? b=some o:=λb o e g=>by
     cases q:H b with
     |none=>exact un.keep b o e q (by intro z;exact absurd (show b∈([]:List Addr) from z) (by simp)) (by simp)
     |some u=>
      rcases hO b g with z|⟨ob,xs,z⟩
      ·rw[q] at z;cases z
      ·have z2:=un.frzs b ob _ z;obtain⟨j,_⟩:=Q b _ z;obtain⟨O,_⟩:=t b _ z2;rw[e] at j;cases j;exact O
    refine⟨rfl,⟨λb o e=>?_,λb o e=>?_⟩,os,R⟩
    ·by_cases g:∃p∈ts,b=p.1
     ·obtain⟨p,c,rfl⟩:=g;obtain⟨ps,j,_⟩:=t p.1 _ (qT p c);rw[(l p c).1] at e;cases e;exact .inr (.inl ⟨(l p c).2.1,rfl,#[],ps,rfl,by rw[j];simp⟩)
     ·exact .inl (kp b o e λp c z=>g ⟨p,c,z⟩)
    ·by_cases g:∃p∈ts,b=p.1
     ·obtain⟨p,c,rfl⟩:=g;obtain⟨ps,j,_⟩:=t p.1 _ (qT p c);exact⟨_,j⟩
     ·exact⟨o,kp b o e λp c z=>g ⟨p,c,z⟩⟩
 have aT:∀p∈ts,p.1≠a:=λp c z=>by have:=(l p c).1;rw[z,N] at this;cases this
 have M:∀p∈ts,mQ ts p.1=some p.2:=λp c=>aOl a4 c;have C:∀b,(∀p∈ts,b≠p.1)->mQ ts b=none:=λb g=>aE1 g;have L:∀(H:Hp) (p:Addr × Str),p∈ts->cV P w H i.heap p.1 (.tab p.2):=λH p c=>⟨#[],(l p c).1,trivial,λa7 cv z=>by cases z⟩;cases hk:K.lookup a with
 |some o=>
  have e:=KX a o hk;rw[N] at e;cases e;refine B (λb=>(mQ ts b).map .tab) (λp c=>by show (mQ ts p.1).map _=_;rw[M p c];rfl) (λb g=>.inl (by show (mQ ts b).map _=_;rw[C b g];rfl)) (.inr ⟨_,vs.toArray,_,hk,rfl,rfl,rfl,by rw[d9,S];exact hl,by simpa using rv⟩) (λb u z=>?_) (λb z=>?_) λz=>?_
  ·obtain⟨qn,y,rfl⟩:=Option.map_eq_some_iff.mp (show (mQ ts b).map .tab=some u from z);obtain⟨p,c,j,O⟩:=pX y;subst j O;exact L _ p c
  ·refine .inr ?_;cases y:mQ ts b with
   |none=>exact absurd (show (mQ ts b).map HO.tab=none by rw[y];rfl) z
   |some qn=>obtain⟨p,c,j,_⟩:=pX y;exact⟨p,c,j.symm⟩
  ·exact absurd (show (mQ ts a).map HO.tab=none by rw[C a λp c z=>aT p c z.symm];rfl) z
 |none=>
  refine B (λb=>if b=a then some (.frz { cls:=.type "list",data:=.seq vs.toArray } (.lst (ns.map V.int))) else (mQ ts b).map .tab) (λp c=>by show (if p.1=a then _ else (mQ ts p.1).map HO.tab)=_;rw[if_neg (aT p c),M p c];rfl) (λb g=>?_) (.inl (.inr ⟨{ cls:=.type "list",data:=.seq vs.toArray },if_pos rfl⟩)) (λb u z=>?_) (λb z=>?_) λ_=>hk
  ·by_cases h:b=a
   ·exact .inr ⟨_,_,if_pos h⟩
   ·exact .inl (by rw[if_neg h,C b g];rfl)
  ·by_cases g:b=a
   ·have U:=(if_pos g).symm.trans z;cases U;subst g;exact⟨N,by rw[j6];exact hl,vs,_,rv,N⟩
   ·have U:=(if_neg g).symm.trans z;obtain⟨qn,y,rfl⟩:=Option.map_eq_some_iff.mp U;obtain⟨p,c,j,O⟩:=pX y;subst j O;exact L _ p c
  ·by_cases g:b=a
   ·exact .inl g
   ·refine .inr ?_;cases y:mQ ts b with
    |none=>exact absurd (show (if b=a then _ else (mQ ts b).map HO.tab)=none by rw[if_neg g,y];rfl) z
    |some qn=>obtain⟨p,c,j,_⟩:=pX y;exact⟨p,c,j.symm⟩
def aS0 {l:PySem.W.OpenLaw}{n k:Nat}{q:Program}{loose:List Str}{XP:(bF7)->Heap->Prop}{YP:World->Heap->Prop}{d:DefRec}{K:Params->bF4}{CX:World->CXT}{sp:World->Sp}{x:Str}
  (hn:l.most=some n) (A:n<=sizeLine) (L:d.params.defaults=[]) (X:Room k callerA)
  (ts:List (Addr × Str)) (C:(ts.map (·.1)).Nodup)
  (hY:∀(w:World) (h:Heap),YP w h->(K w.params).In h/\∀p∈ts,h.get? p.1=some { cls:=.none,data:=.fields #[] })
  (M:∀(w:World),∀p∈ts,(∃c,PySem.W.codeHdIn (K w.params) c p.1=true)/\(K w.params).lookup p.1=none)
  (F:∀(w:World) (mg:bF7) (fa:Addr) (h:Heap),(K w.params).In h->h.Ns mainGlobals mg->mg d.name=some (.ref fa) ->
   ∃fd:FuncData,(∀(s:Shared) (u:Value),BindsTo s fd ⟨[u],[]⟩ [(x,u)]) /\
    ∀base:Heap,(K w.params).In base->base.Ns mainGlobals mg->BM mg base->gK l.prog w (K w.params) mg base (CX w) k fa fd [x] (sp w))
  (O:∀(w:World) (H:Hp) (a:Addr) (ns:List Int),ns.length<=n->tK ts H->SqL (K w.params) H a (ns.map V.int)->sp w [.ref a] H (λv H'=>v=.bl true/\tK ts H') λ_ _ _=>False)
  (R:∀(w:World) (H:Hp) (s:Shared) (e:Value) (s':Shared),CX w [] H s (λ_ _ _=>False) e s'->False) :
  PySem.W.WalkO q loose XP YP l.row.toRowW d [] (λf vs=>PySem.call f vs):=by
 refine Att.aIn hn L λw Z E mg mb fa o pm U P a vs ns G Y ho hd S z r m i D=>?_;obtain⟨y,j⟩:=hY w _ Y;obtain⟨fd,I,J⟩:=F w mg fa _ y G.T.g z;refine aQt y G.T.g G.T.b G.T.builtins G.T.nolimit D r m (bAE i A) X ts (λp t=>⟨j p t,?_,(M w p t).2⟩) C G.T.bmain J I (λH B N=>O w H a ns i B N) λH e s'=>R w H E e s';obtain⟨c,Q⟩:=(M w p t).1;exact Heap.TableAt.isCodeTable ((PySem.W.codeHd_of_K y Q).tab (j p t))
def cM (K:bF4)(H:Hp)(u:V)(r:List V):Prop:=∃a,u=.ref a/\SqT K H a r
def cM.same {K:bF4}{H H':Hp}{u:V}{r:List V}(e:Same H H')(h:cM K H u r):cM K H' u r:=by obtain⟨a,rfl,b⟩:=h;exact⟨a,rfl,e.aR b⟩
def KdV:Bool->V->Prop
 |true,x=>∃i,x=.int i
 |false,x=>∃z,x=.str z
def KdR (ks:List Bool)(r:List V):Prop:=Al2 KdV ks r
def rlt:List V->List V->Bool
 |.int a::xs,.int b::ys=>if (a == b)=true then rlt xs ys else decide (a<b)
 |.str a::xs,.str b::ys=>if (a == b)=true then rlt xs ys else decide (a.cps.toList<b.cps.toList)
 |_,_=>false
def srt (rs:List (List V)):List (List V):=(PySem.W.dM rs.length λi j=>rlt (rs.getD i []) (rs.getD j [])).map λi=>rs.getD i []
def nY (rs:List (List V)):(srt rs).length=rs.length:=by unfold srt;rw[j6,PySem.W.rM]
def fB (h:r∈srt rs):r∈rs:=by
 obtain⟨i,a,rfl⟩:=List.mem_map.mp h;have:=PySem.W.mJ a;have e:rs.getD i []=rs[i]:=by simp[this]
 rw[e];exact bAT this
def Al2.get {α β:Type}{R:α->β->Prop}{as:List α}{bs:List β}(h:Al2 R as bs){i:Nat}{a:α}{b:β}(d:as[i]?=some a)(f:bs[i]?=some b):R a b:=by obtain⟨c,e,r⟩:=h.at d;rw[f] at e;cases e;exact r
theorem Al2.of {α β:Type}{R:α->β->Prop}:∀{as:List α} {bs:List β},as.length=bs.length->(∀(i:Nat) (a:α) (b:β),as[i]?=some a->bs[i]?=some b->R a b)->Al2 R as bs
 |[],[],_,_=>.nil
 |a::as,b::bs,hl,h=>.cons (h 0 a b rfl rfl) (Al2.of (by simpa using hl) λi x y d c=>h (i+1) x y (by simpa using d) (by simpa using c))
theorem Al2.imp {α β:Type}{R S:α->β->Prop}{as:List α}{bs:List β}(h:Al2 R as bs)(k:∀a b,R a b->S a b):Al2 S as bs:=by
 induction h with
 |nil=>exact .nil
 |cons r _ ih=>exact .cons (k _ _ r) ih
section
variable {prog:Program}{w:World}{A:Around}{s:Shared}{b:Bool}{Q:Bool->Shared->Prop}
theorem aYy (ks:List Bool):∀{r1 r2:List V} {i1 i2:List Value},KdR ks r1->KdR ks r2->Vals r1 i1->Vals r2 i2->∀i:Nat,Q (rlt r1 r2) s->PySem.W.KatLex prog w A b false Q (i1.zip i2) i s:=by
 induction ks with
 |nil=>intro r1 r2 i1 i2 f a d c i q;cases f;cases a;cases d;cases c;exact q
 |cons k ks ih=>
  intro r1 r2 i1 i2 f a d c i q;cases f with
  |cons a1 t1=>
   cases a with
   |cons a2 t2=>
    cases d with
    |cons p1 w1=>
     cases c with
     |cons p2 w2=>
      cases k with
      |true=>
       obtain⟨x,rfl⟩:=a1;obtain⟨y,rfl⟩:=a2;obtain⟨t,rfl⟩:=p1;obtain⟨u,rfl⟩:=p2;refine (bEL x t y u) prog w _ _ ?_;unfold rlt at q;by_cases e:(x == y)=true
       ·rw[e,if_pos rfl];rw[if_pos e] at q;exact ih t1 t2 w1 w2 (i+1) q
       ·rw[if_neg e] at q;rw[Bool.not_eq_true] at e;rw[e,if_neg (by decide)];cases g:(b && i == 0) with
        |true=>exact oneLt_int q
        |false=>exact PySem.W.kat_one _ _ (lt_int q)
      |false=>
       obtain⟨x,rfl⟩:=a1;obtain⟨y,rfl⟩:=a2;obtain⟨t,rfl⟩:=p1;obtain⟨u,rfl⟩:=p2;refine (bDK x t y u) prog w _ _ ?_;unfold rlt at q;by_cases e:(x == y)=true
       ·rw[e,if_pos rfl];rw[if_pos e] at q;exact ih t1 t2 w1 w2 (i+1) q
       ·rw[if_neg e] at q;rw[Bool.not_eq_true] at e;rw[e,if_neg (by decide)];cases g:(b && i == 0) with
        |true=>exact oneLt_str q
        |false=>exact PySem.W.kat_one _ _ (lt_str q)
end
section
variable {X:Cx}
def aL8 (K:bF4):List V->Hp->VK->Prop:=λxs H Q=>∃l us rs ks,xs=[.ref l]/\SqL K H l us/\Al2 (cM K H) us rs/\us.length<64/\ks≠[]/\(∀r∈rs,KdR ks r) /\
 ∀D H' us',H D=none->Same H H'->H' D=some (.lst us')->Al2 (cM K H) us' (srt rs)->Q (.ref D) H'
theorem aOk (I:Inv X bF8 σ H s)(x:∀b o,s.heap.get? b=some o->h'.get? b=some o):∀{us:List V} {rs:List (List V)} {its:List Value},Al2 (cM X.K H) us rs->Vals us its->(∀r∈rs,KdR (k::ks) r) ->
  ∃fs,PySem.W.KatTups h' its fs/\fs.length=its.length/\∀f∈fs,∀M:Model,PySem.W.Looks M h' (typeOf f) (.type (if k=true then "int" else "str"))
 |_,_,_,.nil,.nil,_=>⟨[],.nil,rfl,λf h=>by cases h⟩
 |_,_,_,.cons (b:=r) hr t,.cons q z,hk=>by
  obtain⟨fs,u,j,p⟩:=aOk I x t z λr m=>hk r (j5 _ m);obtain⟨a,rfl,e⟩:=hr;cases q;obtain⟨v,l,⟨o,y,w,n,hd⟩,_⟩:=I.tuple e;have c:=hk r (j0 ..);cases c with
  |cons hx _=>
   cases l with
   |@cons _ f _ fr rx _=>
    refine⟨f::fs,.cons (x _ _ y) w hd (by simp) u,by rw[m8,m8,j],λg hg M=>?_⟩;rcases List.mem_cons.mp hg with rfl|hg
    ·cases k with
     |true=>obtain⟨i,rfl⟩:=hx;obtain⟨d,rfl⟩:=rx;exact .now
     |false=>obtain⟨i,rfl⟩:=hx;obtain⟨d,rfl⟩:=rx;exact .now
    ·exact p g hg M
def aLj (I:Inv X bF8 σ H s)(G:Vals us its)(z:Al2 (cM X.K H) us rs)(Y:ks≠[])(N:∀r∈rs,KdR ks r)(A:Around)(h2:2<=its.length)(h':Heap)(kp:∀b o,s.heap.get? b=some o->h'.get? b=some o) :
  ∃κ,(∀Q,Q κ { s with heap:=h' }->wpAny (model X.prog X.w) A (keyKind' its.toArray) Q (λ_ _=>False) { s with heap:=h' })/\∀i j C,i<its.length->j<its.length->C (rlt (rs.getD i []) (rs.getD j [])) { s with heap:=h' }->PySem.W.kas_ask X.prog X.w A κ its i j C { s with heap:=h' }:=by
 have e1:=G.length;have e2:=z.len;obtain⟨k,c,rfl⟩:∃k c,ks=k::c:=by
  cases ks with
  |nil=>exact absurd rfl Y
  |cons k c=>exact⟨k,c,rfl⟩
 obtain⟨fs,t1,t2,U⟩:=aOk I kp z G N;refine⟨_,λQ M=>PySem.W.kat_kind (s:={ s with heap:=h' }) (T:=.type (if k=true then "int" else "str")) t1 (by lia) (λv u=>U v u _) (by simp) M,λi j C F hj E=>?_⟩;have g:∀{i:Nat},i<its.length->∃a o r l n,its.getD i Value.none=.ref a/\h'.get? a=some o/\o.data=.seq (List.toArray l) n/\Vals r l/\rs.getD i []=r/\KdR (k::c) r:=λ{i} F=>by
  have f:i<us.length:=by lia
  have d:i<rs.length:=by lia
  obtain⟨a,V,L⟩:=z.get (b8 f) (b8 d);obtain⟨v,u,B⟩:=G.get (b8 f);rw[V] at B;cases B;obtain⟨l,rr,⟨o,S,hc,n,hd⟩,_⟩:=I.tuple L;refine⟨a,o,rs[i],l,n,?_,kp _ _ S,hd,rr,by simp[d],N _ (bAT d)⟩;rw[j4,u];rfl
 obtain⟨a,o,r1,P,n1,O,Z,g3,y,R,D⟩:=g F;obtain⟨b,o',r2,J,n2,t,x,q,h,m,e⟩:=g hj;show wpAny _ _ (keyLt' _ (its.getD i Value.none) (its.getD j Value.none)) C _ _;rw[O,t];refine PySem.W.kat_lt Z g3 x q ?_;have p:decide ((List.toArray P).size<(List.toArray J).size)=false:=by rw[d9,d9];have:=y.length;have:=h.length;have:=Al2.len D;have:=Al2.len e;exact v9 (by lia)
 rw[p];refine aYy (k::c) D e y h 0 ?_;rw[R,m] at E;exact E
theorem aEv (f:Vals us its):∀L:List Nat,(∀i∈L,i<us.length)->Vals (L.map λi=>us.getD i .non) (L.map λi=>its.getD i Value.none):=by
 intro L
 induction L with
 |nil=>intro _;exact .nil
 |cons i L ih=>intro a;have b:=a i (j0 ..);obtain⟨v,d,c⟩:=f.get (b8 b);refine .cons ?_ (ih λj e=>a j (j5 _ e));show RelV (us.getD i .non) (its.getD i Value.none);rw[j4,b8 b,j4,d];exact c
theorem aFs {K:bF4}{H:Hp}{us:List V}{e:List (List V)}(d:Al2 (cM K H) us e):∀L:List Nat,(∀i∈L,i<us.length)->Al2 (cM K H) (L.map λi=>us.getD i .non) (L.map λi=>e.getD i []):=by
 intro L
 induction L with
 |nil=>intro _;exact .nil
 |cons i L ih=>
  intro c;have b:=c i (j0 ..);have a:i<e.length:=by have:=d.len;lia
  refine .cons ?_ (ih λj f=>c j (j5 _ f));show cM K H (us.getD i .non) (e.getD i []);rw[j4,b8 b,j4,b8 a];exact d.get (b8 b) (b8 a)
def dU:cH X (.builtin "sorted") (aL8 X.K):=by
 intro p s σ H G v Q I r h;obtain⟨l,B,d,D,rfl,z,c,x,f,n,q⟩:=h;obtain⟨u,rfl,w⟩:=vals1 r;cases w;obtain⟨a,k,t,F⟩:=I.list z;have E:=k.length;have C:=c.len;refine PySem.W.aHp t.isList (by lia) (aLj I k c f n _) ?_;obtain⟨e,y⟩:=sortedAll_at s.heap a (List.toArray ((PySem.W.dM a.length λi j=>rlt (d.getD i []) (d.getD j [])).map λi=>a.getD i Value.none));have m:=I.hok.fresh (bCR _);have A:a.length=d.length:=by lia
 refine⟨.ref (s.heap.objs.size+1),_,I.laid (t':=s.toks) (λb o q=>sortedAll_old q) (bCR _) ?_,rfl,q _ _ _ m (aW m _) aF (aFs c _ λi g=>by have:=PySem.W.mJ g;lia)⟩;refine⟨small (by rw[j6,PySem.W.rM];lia),_,e,?_,y⟩;rw[A];exact aEv k _ λi g=>by have:=PySem.W.mJ g;lia
end
def kvlt:V->V->Bool
 |.int a,.int b=>decide (a<b)
 |.str a,.str b=>decide (a.cps.toList<b.cps.toList)
 |_,_=>false
section
variable {X:Cx}{bF8:bF6}{σ:List (Option V)}{H:Hp}{s:Shared}
end
section
variable {X:Cx}
end
section
variable {P:Program}{w:World}{K:bF4}{mg:bF7}{base:Heap}
def aTi (K:bF4)(mg:bF7)(x:Str)(Pt:Addr):Prop:=∃f o fd c,mg x=some (.ref f)/\K.lookup f=some o/\o.data=.func fd/\fd.code=.ref c/\PySem.W.codeHdIn K c Pt=true
def Ok.bE2 {x:Str}{st:Stmt}{N ps:List Str}{k:Nat}{sp:Sp}{Pt:Addr}(D:Dn K mg x st ps)(C:aTi K mg x Pt)(M:K.In base)(S:aG N ps (aC st))(y:∀vs H Q E,sp vs H Q E->vs.length=ps.length)
  (i:∀(f c:Addr) (A:Around) (outer:List Env) (s:Shared) (H:Hp) (vs:List V) (Q:VK) (E:XK),PySem.W.CodeHd base c Pt->Room k (A.deeper (envOfC x (aC st) s.heap.objs.size f (.ref c)))->sp vs H Q E ->
   ∃t,VSs (wY CX0 P w K mg base N x (aC st) f (.ref c) A outer s H E).nox (cY st) t/\t { nx:=λ_ H'=>Q .non H',rt:=Q } (start N vs) H):Ok P w K mg base (k+1) x ps sp:=by
 obtain⟨f,G,F,B,m⟩:=D;obtain⟨J,T,z,c,n,a,g,b,u⟩:=C;rw[m] at n;cases n;refine⟨f,G,m,F.kp,B,?_⟩;obtain⟨I,O,kV,v,U,R,p,L,r,rfl,l,j⟩:=F.ex;rw[l] at a;cases a;cases g;have e:=b;subst e;refine aUn l j S y λA outer s H vs Q E o d=>?_;obtain⟨t,h,q⟩:=i f c A outer s H vs Q E (PySem.W.codeHd_of_K M u) o d;exact⟨t,h.1.nox,q⟩
end
section
variable {X:Cx}
end
end L2
namespace My
open PySem PySem.Spec PyProof.Rows L2
section
variable {P:Program}{w:World}{K:bF4}{mg:bF7}{base:Heap}
def vlt:V->V->Bool
 |.int a,.int b=>decide (a<b)
 |.str a,.str b=>decide (a.cps.toList<b.cps.toList)
 |_,_=>false
def aRt (k:Str):Prop:=k = "number"\/k = "word"
def qC:Str:="are_cuts.<locals>.<lambda>"
inductive aOt (P:Program)(w:World)(K:bF4)(mg:bF7)(base:Heap)(k:Nat)(vs:List V)(H:Hp)(Q:VK)(E_:XK):Prop
 |mk (a:Addr) (lo hi:Nat) (f:Addr) (xs:List V) (qual g x y:Str) (z:V) (ps:List Str) (sp:Sp) (_:vs=[.ref a,.int (lo:Nat),.int (hi:Nat),.ref f]) (_:SqT K H a xs) (_:lo<=xs.length) (_:xs.length<=hi) (_:hi<=1000) (_:vG H f qual g x y z) (_:Ok P w K mg base k g ps sp) (_:(∀v∈xs,∀(H':Hp) (R:VK),Same H H'->(∀H2,Same H' H2->R (.bl true) H2)->sp [v,z] H' R E0)) (_:∀H',Same H H'->Q (.bl true) H')
def aAr (T:Txt w K mg):Ok P w K mg base (k+2) "is_tuple_of" o6 (aOt P w K mg base k):=by
 refine Ok.ofV T.tM qX (by trivial) (λf C A o s H vs Q E t h=>?_)
 obtain⟨a,S,I,g,d,c,J,x,y,z,G,B,rfl,j,h1,X,m,p,O,n,q⟩:=h;refine⟨_,(aB (bM (VW.pt (fJ (cD (bU (aL iQ (by rfl) T.bR bN (aH (vv 0) (va1 (fG (v:=.ty "tuple") (by rfl) T.gZ eY rfl)))))) (eG (cD (aA5 aB1 aB1 (vv 1) (aL aY (by rfl) T.eZ cW (va1 (vv 0))) (vv 2)))))) (aD (aJ fP)) aU) (aD (aJ (aL (jT rfl) (by rfl) T.aBj tX (va1 (cI (N:=["part","is_part"]) (by trivial) (eE (aC iU) rfl (by decide +kernel)) rfl (pO (vv 0)) (λV Z e W=>⟨(bJ (i:=0) (show (["part","is_part"]:List Str).Nodup from by decide +kernel) rfl (Or.inl rfl)),fW,(aQ4 (P:=P) (w:=w) (K:=K) (mg:=mg) (base:=base) t (vv 1) (va1 (vv 0)))⟩))))))),?_⟩;refine⟨_,rfl,_,_,rfl,.tup j,_,rfl,bY ?_⟩;refine⟨_,rfl,_,rfl,_,_,rfl,.inr j,_,_,rfl,rfl,_,rfl,?_⟩;have L:decide ((S:Int)<=(d.length:Int))=true:=m9 (by lia);have u:decide ((d.length:Int)<=(I:Int))=true:=m9 (by lia);rw[L];refine eX ⟨_,rfl,_,_,rfl,rfl,_,rfl,?_⟩;rw[u];refine bY ?_;dsimp only[sY,rA,tCB,dH];refine aE0 d (λ_=>.bl true) [none,some (.ref g)] ?_ (small (by lia)) (λR r=>aNg j (λY F=>⟨_,rfl,F⟩) R r) (λv M e R l b r=>?_) rfl λD e b U=>?_
 ·exact jN 3 (by decide +kernel) rfl rfl (by trivial)
 ·exact⟨_,rfl,g,c,J,x,y,z,G,B,rfl,p.same b,O,_,rfl,v,rfl,p.same b,n v M e R b r⟩
 ·refine⟨D,d.map λ_=>true,rfl,SqL.of (by rw[U,bDY];rfl),?_⟩;rw[show (d.map λ_=>true).all id=true by rw[List.all_map];exact List.all_eq_true.mpr λ_ _=>rfl];exact q e b
inductive aSs (K:bF4)(vs:List V)(H:Hp)(Q:VK)(E_:XK):Prop
 |mk (p:Addr) (v:V) (h m:Int) (_:vs=[.ref p,.int m]) (_:SqT K H p [v,.int h]) (_:0<=h) (_:h<m) (_:∀H',Same H H'->Q (.bl true) H')
def aQx (T:Txt w K mg)(i:Ok P w K mg base 2 "is_number_below" ["thing","many"] wB):Ok P w K mg base 3 "is_cut" bQK (aSs K):=by
 refine Ok.ofV T.aU6 aQ2 (by trivial) (λf d A b s H j Q E g h=>?_)
 obtain⟨p,v,h,m,rfl,a,c,e,q⟩:=h;refine⟨_,(aD (aJ (gU (aL iQ (by rfl) T.bR bN (aH (vv 0) (va1 (fG (v:=.ty "tuple") (by rfl) T.gZ eY rfl)))) (gU (vL dN (aL aY (by rfl) T.eZ cW (va1 (vv 0))) aA) (gY (aV i (aH (aO aP (vv 0) aA) (va1 (vv 1))))))))),?_⟩;refine⟨_,rfl,_,_,rfl,.tup a,_,rfl,eX ⟨_,rfl,_,_,rfl,.inr a,rfl,_,rfl,?_⟩⟩;refine eX ⟨_,rfl,p,_,1,_,rfl,rfl,a,at1 _ _ _,_,rfl,h,m,rfl,?_⟩;rw[m9 c,m9 e];exact q H (Same.refl H)
def aV7 (h:env.cells.lookup y=some cp):closureFor { kind:=.function,names:=[(x,.local),(y,.free),(g,.globalImplicit)],isGenerator:=false,isCoroutine:=false,more:=[] } env=pure [(y,cp)]:=by
 have a:cellOf env y=pure cp:=by unfold cellOf;rw[h]
 simp[closureFor,a]
def fM (K:bF4)(H:Hp)(v:V)(c:V × Int):Prop:=∃p,v=.ref p/\SqT K H p [c.1,.int c.2]
def fM.same (e:Same H H')(h:fM K H v c):fM K H' v c:=by obtain⟨p,rfl,a⟩:=h;exact⟨p,rfl,e.aR a⟩
structure yO (kd:Str)(m:Int)(h0:Int)(cs:List (V × Int)):Prop where
 first:0<=h0/\h0<m
 each:∀c∈cs,cF kd c.1/\0<=c.2/\c.2<m
 up:(cs.map (·.1)).Pairwise λa b=>vlt a b=true
 few:cs.length<=7
theorem aC8 (h:cF kd v):aNf v=true/\kindS v=kd:=by
 cases h with
 |num=>exact⟨rfl,rfl⟩
 |@wrd x hx h8=>refine⟨?_,rfl⟩;show (false || (decide (0<=x.length) && (decide (x.length<=8) && allIn x)))=true;rw[allIn_of hx,m9 h8];rfl
theorem zB (h:cF kd v):Vl v:=by
 cases h with
 |num=>exact .inl ⟨_,rfl⟩
 |wrd hx h8=>exact .inr ⟨_,rfl,hx,h8⟩
def bA1 (h:vlt a b=true)(q:Q (.bl true) H):bDz a b H Q:=by
 unfold vlt at h
 split at h
 ·exact .inl ⟨_,_,rfl,rfl,by rw[h];exact q⟩
 ·exact .inr ⟨_,_,rfl,rfl,by rw[h];exact q⟩
 ·cases h
inductive aO3 (K:bF4)(Pt:Addr)(vs:List V)(H:Hp)(Q:VK)(E_:XK):Prop
 |mk (v:V) (kd:Str) (m h0:Int) (cs:List (V × Int)) (_:vs=[v,.str kd,.int m]) (_:lY K H (fM K H) v ((.non,h0)::cs)) (_:aRt kd) (_:yO kd m h0 cs) (_:H Pt=some (.tab qC)) (_:∀H',Same H H'->Q (.bl true) H')
def aKl (T:Txt w K mg)(C:aTi K mg "are_cuts" Pt)(hK:K.In base)(a2:BM mg base)(mC:Ok P w K mg base 5 "is_tuple_of" o6 (aOt P w K mg base 3))(a6:Ok P w K mg base 3 "is_cut" bQK (aSs K))
  (lO:Ok P w K mg base 3 "is_value_of" ["thing","kind"] (aOd K)):Ok P w K mg base 6 "are_cuts" ["thing","kind","houses"] (aO3 K Pt):=by
 refine Ok.bE2 T.aMw C hK zM (λvs H Q E h=>?_) (λf c A a1 s H vs Q E CH hr h=>?_)
 ·obtain⟨v,W,m,h0,o,rfl,_⟩:=h;rfl
 obtain⟨v,W,m,h0,o,rfl,⟨a,us,rfl,ha,hu⟩,a5,M,hP,q⟩:=h;have a3:=pA hr;refine⟨_,(aB (bM (VW.pt (fJ (cD (bU (aL6 (iy:=2) mC hr (by rfl) (vv 0) aA (tD (by rfl) T.aLo) rfl CH a2 ⟨⟨_,_,_,_,rfl⟩,λ_ _ _ _ _=>rfl,rfl,rfl,rfl,by decide +kernel,rfl,rfl,rfl,by decide +kernel,by decide +kernel,by decide +kernel,by decide +kernel,by decide +kernel⟩ rfl rfl rfl rfl (aV7 rfl) rfl))) (eG (cZ wJ (aO aP (aO aP (vv 0) aA) aA) fU)))) (aD (aJ fP)) aU) (aB (aOm (i0:=3) zM.nd rfl (by trivial) (N:=["cut"]) (by trivial) (jV (by decide +kernel)) rfl (pO (dD aA0 (vv 0) (dR aA) fC)) (λcl e d fp=>⟨(bJ (i:=0) (show (["cut"]:List Str).Nodup from by decide +kernel) rfl (Or.inl rfl)),fW,(aO (bL (K:=K)) (vv 0) aA)⟩)) (aB (bM (cD (bU (aL (jT rfl) (by rfl) T.aBj tX (va1 (cI (N:=["low","kind"]) (by trivial) (eE (aC tV) rfl (by decide +kernel)) rfl (eQ (vv 3)) (λcl e d fp=>⟨(bJ (i:=0) (show (["low","kind"]:List Str).Nodup from by decide +kernel) rfl (Or.inl rfl)),fW,(aV lO (aH (vv 0) (va1 (vv 1))))⟩)))))) (aD (aJ fP)) aU) (aD (aJ (aL (jT rfl) (by rfl) T.aBj tX (va1 (cI (N:=["low","after"]) (by trivial) (jV (by decide +kernel)) rfl (aVf (by rfl) T.aZj (aH (vv 3) (va1 (dD wO (vv 3) (dR aA) fC)))) (λcl e d fp=>⟨(rK (K:=K) (n:=2) rfl (aX (bJ (i:=0) (show (["low","after"]:List Str).Nodup from by decide +kernel) rfl (Or.inl rfl)) (aX (bJ (i:=1) (show (["low","after"]:List Str).Nodup from by decide +kernel) rfl (Or.inl rfl)) eO))),fW,(vL bCg (vv 0) (vv 1))⟩))))))))),?_⟩;have lu:=hu.len;have a4:=M.few;rw[m8] at lu;refine⟨_,rfl,.int m,rfl,hP,λlf U hL hT=>⟨a,1,8,lf,us,_,_,_,_,_,_,_,rfl,hT _ _ ha,by lia,by lia,by decide,hL,a6,λv hv d R J r=>?_,λH3 s3=>⟨s3,λH4 G=>?_⟩⟩⟩
 ·obtain⟨c,hc,p,rfl,hp⟩:=hu.mem hv;have V:0<=c.2/\c.2<m:=by
   rcases List.mem_cons.mp hc with rfl|hc
   ·exact M.first
   ·exact (M.each c hc).2
  exact⟨p,c.1,c.2,m,rfl,J.aR (hT _ _ hp),V.1,V.2,λU s2=>r U s2⟩
 obtain⟨u0,ut,rfl,⟨p0,rfl,a0⟩,I⟩:∃u0 ut,us=u0::ut/\fM K H u0 (.non,h0)/\cG (fM K H) ut o:=by
  cases hu with
  |cons r t=>exact⟨_,_,rfl,r,t⟩
 refine⟨_,rfl,bY ?_⟩;refine⟨_,rfl,a,_,0,_,rfl,rfl,G.aR ha,at0 _ _,p0,_,0,_,rfl,rfl,G.aR a0,at0 _ _,rfl,_,rfl,bY ?_⟩;dsimp only[sY,bO,aDy,aB2];have lt:=I.len;refine wU [none] yM ⟨_,rfl,_,rfl,a,_,rfl,G.aR ha,λts H5 s5 O=>?_⟩;rw[show (1:Int)=((1:Nat):Int) from rfl,rJ,List.drop_one,List.tail_cons] at O;refine⟨ts,rfl,⟨_,O⟩,aMt (aH8 λd e=>e.aR O) (uV λd e=>e.aR O) ⟨none,rfl⟩ (by lia) (o.map (·.1)) (by rw[j6];lia) (λi x z F B d R l J r=>?_) λL H6 s6 nL S=>?_⟩
 ·obtain⟨c',j,p',rfl,X⟩:=cA I F;rw[v7,j] at B;cases B;exact⟨_,rfl,p',_,0,_,rfl,rfl,(G.trans (s5.trans J)).aR X,at0 _ _,r d (Same.refl _)⟩
 have g:∀n:Nat,(List.replicate n true).all id=true:=λn=>List.all_eq_true.mpr λb V=>(bBX V);dsimp only[aFx,bBr,tB,tCB,dH,List.set];refine iY [none,some (.str W)] (jN 1 (by decide +kernel) rfl rfl (by trivial)) ⟨_,rfl,L,rfl,⟨_,SqL.of S⟩,aMt (aNq λd e=>SqL.of (e _ _ S)) (aCd λd e=>SqL.of (e _ _ S)) ⟨none,rfl⟩ (by rw[j6];lia) (List.replicate o.length (.bl true)) (by rw[bDP,j6]) (λi x z F B d R l J r=>?_) λD H7 s7 _ g7=>?_⟩
 ·rw[v7] at F;obtain⟨c',j,rfl⟩:=Option.map_eq_some_iff.mp F;have k:=bBX (t8 B);subst k;have hk:=(M.each c' (t8 j)).1;obtain⟨v1,v2⟩:=aC8 hk;refine⟨_,rfl,_,rfl,c'.1,W,rfl,(zB hk).th,λU s2=>?_⟩;rw[v1,v2,m9 rfl];exact r U s2
 refine⟨D,List.replicate o.length true,rfl,SqL.of (by rw[g7,bEN]),?_⟩;rw[g];refine⟨_,rfl,bY ?_⟩;dsimp only[sY,rA,tCB,dH];have u:=s7 _ _ S;refine aU2 [none,none] rF ⟨_,rfl,_,rfl,_,rfl,L,_,rfl,SqL.of u,λZ H8 _ s8 Y=>?_⟩;rw[show (1:Int)=((1:Nat):Int) from rfl,rJ] at Y;refine⟨L,Z,_,_,rfl,SqL.of (s8 _ _ u),SqL.of Y,aJ3 (SqL.of (s8 _ _ u)) (SqL.of Y) (by rw[bBT];lia) ⟨none,none,rfl⟩ (by rw[bBT,j6];lia) (List.replicate ((o.map (·.1)).drop 1).length (.bl true)) (by rw[bDP]) (λi x y z F ey B d R J r=>?_) λD2 H9 s9 g9=>?_⟩
 ·have k:=bBX (t8 B);subst k;rw[List.getElem?_drop] at ey;obtain⟨hi,rfl⟩:=List.getElem?_eq_some_iff.mp F;obtain⟨hj,rfl⟩:=List.getElem?_eq_some_iff.mp ey;exact⟨_,rfl,_,rfl,bA1 ((List.pairwise_iff_getElem.mp M.up) i (1+i) hi hj (by lia)) (r d (Same.refl _))⟩
 ·refine⟨D2,List.replicate ((o.map (·.1)).drop 1).length true,rfl,SqL.of (by rw[g9,bEN]),?_⟩;rw[g];exact q H9 (G.trans (s5.trans (s6.trans (s7.trans (s8.trans s9)))))
def aRl (hd:Hdr):Prop:=Good hd/\∀c∈hd,Nm c.1/\aRt c.2
inductive aI5 (K:bF4)(vs:List V)(H:Hp)(Q:VK)(E_:XK):Prop
 |mk (v:V) (hd:Hdr) (_:vs=[v]) (_:jH K H v hd) (_:aRl hd) (_:∀H',Same H H'->Q (.bl true) H')
def bW (K:bF4)(H:Hp)(D:Addr)(rs:List (List V)):Prop:=∃us,H D=some (.lst us)/\cG (cM K H) us rs
theorem bW.same (e:Same H H')(h:bW K H D rs):bW K H' D rs:=by obtain⟨c,b,a⟩:=h;exact⟨c,e _ _ b,a.imp λ_ _ r=>r.same e⟩
def aKo (T:Txt w K mg)(S:Ok P w K mg base 3 "is_column" o4 (bBd (aG6 K)))(Z:Ok P w K mg base 4 "is_tuple_of" o6 (aKf P w K mg base 3))
  (C:Ok P w K mg base 1 "are_unlike" ["names"] (aEj K)) (Y:Ok P w K mg base 1 "names_of" ["head"] (aF3 K)):Ok P w K mg base 5 "is_head" o4 (aI5 K):=by
 refine Ok.ofV T.aRd aMg (by trivial) (λf y A g s H vs Q E W h=>?_)
 obtain⟨v,hd,rfl,⟨a,k,rfl,l,i⟩,b,q⟩:=h;obtain⟨r,G,F⟩:=S.held;have L:∃u,mg "is_column"=some u/\RelV (.ref r) u:=⟨_,G,rfl⟩;refine⟨_,(aD (aJ (gU (aV Z (aH (vv 0) (aH aA (aH (tD (by rfl) T.aCx) (va1 (tD (by rfl) L)))))) (gY (aV C (va1 (aV Y (va1 (vv 0))))))))),?_⟩;have lu:=i.len;have l1:=b.1.2.1;have V:=b.1.2.2;have d:k.all (λ_=>true)=true:=List.all_eq_true.mpr λ_ _=>rfl;have t:aEn K (aG6 K) 1 8 H (.ref a) true:=by
  have:=aEn.yes (K:=K) (R:=aG6 K) (lo:=1) (hi:=8) (H:=H) (λ_=>true) l (by lia) (by lia) (λx N=>by
   obtain⟨c,U,p,rfl,M⟩:=i.mem N;obtain⟨o,m⟩:=b.2 c U;have j:Th K H (.str c.2):=aL3 (by rcases m with e|e <;> rw[e] <;> decide +kernel);have z:=aG6.two (K:=K) (H:=H) M o.th j;have e:(nameB (.str c.1) && (isS (.str c.2) && inV (.str c.2) kinds))=true:=by rw[show nameB (.str c.1)=true from o];rcases m with e|e <;> rw[e] <;> decide +kernel
   rw[e] at z;exact z)
  rw[d] at this;exact this
 refine⟨_,rfl,_,1,8,r,_,_,_,rfl,by decide,F,aRn K,t,λH1 n=>⟨_,rfl,eX ?_⟩⟩;refine⟨_,rfl,.ref a,hd,rfl,jH.same n ⟨a,k,rfl,l,i⟩,by lia,λD X I B=>?_⟩;refine⟨D,hd.map (·.1),rfl,SqL.of B,by rw[j6];lia,λO J=>?_⟩;rw[m9 b.1.1];exact q O ((n.trans I).trans J)
def gC (hd:Hdr)(r:List V):Prop:=cG (λc v=>cF c.2 v) hd r
inductive aAu (K:bF4)(vs:List V)(H:Hp)(Q:VK)(E_:XK):Prop
 |mk (vh v:V) (hd:Hdr) (r:List V) (_:vs=[vh,v]) (_:jH K H vh hd) (_:hd.length<=1000) (_:cM K H v r) (_:gC hd r) (_:∀H',Same H H'->Q (.bl true) H')
def aMm (T:Txt w K mg)(lO:Ok P w K mg base 3 "is_value_of" ["thing","kind"] (aOd K)):Ok P w K mg base 4 "is_row" u5 (aAu K):=by
 refine Ok.ofV T.aVb aSd (by trivial) (λf F A u s H vs Q E Z h=>?_)
 obtain⟨vh,v,hd,r,rfl,⟨b,k,rfl,z,B⟩,hl,⟨a,rfl,m⟩,g,q⟩:=h;have lc:=B.len;have lr:=g.len;refine⟨_,(aB (bM (VW.pt (fJ (cD (bU (aL iQ (by rfl) T.bR bN (aH (vv 1) (va1 (fG (v:=.ty "tuple") (by rfl) T.gZ eY rfl)))))) (eG (cZ vV (aL aY (by rfl) T.eZ cW (va1 (vv 1))) (aL aY (by rfl) T.eZ cW (va1 (vv 0))))))) (aD (aJ fP)) aU) (aD (aJ (aL (jT rfl) (by rfl) T.aBj tX (va1 (cI (N:=["value","column"]) (by trivial) (jV (by decide +kernel)) rfl (aYm (by rfl) T.aZj (aH (vv 1) (va1 (vv 0)))) (λY s' l fp=>⟨(rK (K:=K) (n:=2) rfl (aX (bJ (i:=0) (show (["value","column"]:List Str).Nodup from by decide +kernel) rfl (Or.inl rfl)) (aX (bJ (i:=1) (show (["value","column"]:List Str).Nodup from by decide +kernel) rfl (Or.inl rfl)) eO))),fW,(aV lO (aH (vv 0) (va1 (aO (bL (K:=K)) (vv 1) aA))))⟩))))))),?_⟩;refine⟨_,rfl,_,_,rfl,.tup m,_,rfl,bY ?_⟩;refine⟨_,rfl,_,_,rfl,.inr m,_,rfl,_,_,rfl,.inr z,rfl,_,rfl,?_⟩;have e:(!decide (V.int (r.length:Nat)=V.int (k.length:Nat)))=false:=by rw[show r.length=k.length by lia];simp
 rw[e];refine bY ?_;dsimp only[sY,rA,tCB,dH];refine aSq r k (λ_ _=>.bl true) [none,none] rF (small (by lia)) (by lia) m z (λR r=>⟨_,rfl,_,rfl,r⟩) (λi x c G M l R l1 l2 t I=>?_) rfl rfl λD l t X=>?_
 ·obtain⟨S,o,p,rfl,J⟩:=cA B M;obtain⟨x',j,y⟩:=cA g o;rw[G] at j;cases j;obtain⟨O,L⟩:=aC8 y;refine⟨_,rfl,_,rfl,p,_,1,_,rfl,rfl,t.aR J,at1 _ _ _,x,S.2,rfl,(zB y).th,λW C=>?_⟩;rw[O,L,m9 rfl];exact I W C
 ·have U:List.zipWith (λ_ _:V=>V.bl true) r k=(List.replicate r.length true).map V.bl:=by rw[bEN];refine List.eq_replicate_iff.mpr ⟨by rw[bFP];lia,λb d=>?_⟩;obtain⟨i,hi,rfl⟩:=bBA d;rw[List.getElem_zipWith]
  refine⟨D,List.replicate r.length true,rfl,SqL.of (by rw[X,U]),?_⟩;rw[show (List.replicate r.length true).all id=true from List.all_eq_true.mpr λb d=>bBX d];exact q l t
inductive aJh (K:bF4)(vs:List V)(H:Hp)(Q:VK)(E_:XK):Prop
 |mk (vh:V) (hd:Hdr) (n:Str) (_:vs=[vh,.str n]) (_:jH K H vh hd) (_:hd.length<=1000) (_:Nm n) (_:n∈hd.map (·.1)) (_:∀H',Same H H'->Q (.bl true) H')
def aAi (T:Txt w K mg)(r:Ok P w K mg base 2 "is_name" o4 (aD8 K nameB))(p:Ok P w K mg base 1 "names_of" ["head"] (aF3 K)):Ok P w K mg base 3 "is_column_in" u5 (aJh K):=by
 refine Ok.ofV T.aCh aAk (by trivial) (λf d A a s H t Q E o h=>?_)
 obtain⟨k,hd,n,rfl,e,m,c,j,q⟩:=h;refine⟨_,(aD (aJ (gU (aV r (va1 (vv 1))) (gY (rN xH (vv 1) (aV p (va1 (vv 0))) (by with_unfolding_all rfl)))))),?_⟩;refine⟨_,rfl,_,rfl,c.th,λu b=>⟨_,rfl,?_⟩⟩;rw[show nameB (.str n)=true from c];refine eX ⟨_,rfl,_,rfl,k,hd,rfl,e.same b,m,λD i g l=>?_⟩;refine⟨D,_,rfl,.inl (SqL.of l),rfl,aIz,?_⟩;rw[aOf,m9 j];exact q i (b.trans g)
inductive Plc where
 |copies
 |keys (n:Str)
 |spans (n:Str) (h0:Int) (cs:List (V × Int))
def nA (K:bF4)(H:Hp)(v:V):Plc->Prop
 |.copies=>∃a,v=.ref a/\SqT K H a [.str "copies"]
 |.keys n=>∃a,v=.ref a/\SqT K H a [.str "keys",.str n]
 |.spans n h0 cs=>∃a vc,v=.ref a/\SqT K H a [.str "spans",.str n,vc]/\lY K H (fM K H) vc ((.non,h0)::cs)
theorem nA.same (e:Same H H')(h:nA K H v pl):nA K H' v pl:=by
 cases pl with
 |copies=>obtain⟨a,rfl,b⟩:=h;exact⟨a,rfl,e.aR b⟩
 |keys n=>obtain⟨a,rfl,b⟩:=h;exact⟨a,rfl,e.aR b⟩
 |spans n h0 cs=>obtain⟨a,d,rfl,b,c⟩:=h;exact⟨a,d,rfl,e.aR b,lY.same e (λ_ _ q=>q.same e) c⟩
def aX0 (hd:Hdr)(m:Int):Plc->Prop
 |.copies=>True
 |.keys n=>Nm n/\∃k,look hd n=some k
 |.spans n h0 cs=>Nm n/\∃k,look hd n=some k/\aRt k/\yO k m h0 cs
def aBf (h:look hd n=some k):n∈hd.map (·.1):=by obtain⟨i,a,_⟩:=aHg h;exact List.mem_map.mpr ⟨_,t8 a,rfl⟩
def iZ {p q:Prop}(h:c=true)(a:p):if c=true then p else q:=by rw[if_pos h];exact a
def dI {p q:Prop}(h:c=false)(a:q):if c=true then p else q:=by rw[if_neg (by rw[h];exact v5)];exact a
inductive aZk (K:bF4)(Pt:Addr)(vs:List V)(H:Hp)(Q:VK)(E_:XK):Prop
 |mk (v vh:V) (m:Int) (hd:Hdr) (pl:Plc) (_:vs=[v,vh,.int m]) (_:nA K H v pl) (_:jH K H vh hd) (_:hd.length<=1000) (_:aX0 hd m pl) (_:H Pt=some (.tab qC)) (_:∀H',Same H H'->Q (.bl true) H')
def th8 (h:x.length<=8):Th K H (.str x):=aL3 h
theorem aDx (T:Txt w K mg)(L:Ok P w K mg base 1 "is_one_of" ["thing","texts"] (aM6 K))(N:Ok P w K mg base 3 "is_column_in" u5 (aJh K))(Y:Ok P w K mg base 1 "kind_in" bQJ (aVg K))(X:Ok P w K mg base 6 "are_cuts" ["thing","kind","houses"] (aO3 K Pt)):Ok P w K mg base 7 "is_placing" ["thing","head","houses"] (aZk K Pt):=by
 refine Ok.ofV T.aGb aEb (by trivial) (λf O A I s H vs Q E hr h=>?_)
 obtain⟨v,B,m,hd,R,rfl,i,F,M,j,Z,q⟩:=h;refine⟨_,(aB (bM (VW.pt (fJ (cD (bU (aL iQ (by rfl) T.bR bN (aH (vv 0) (va1 (fG (v:=.ty "tuple") (by rfl) T.gZ eY rfl)))))) (eG (cZ dN (aL aY (by rfl) T.eZ cW (va1 (vv 0))) aA)))) (aD (aJ fP)) aU) (aB (bM (bU (aV L (aH (aO aP (vv 0) aA) (va1 (cN (va1 bB)))))) (aD (aJ (vL dN (aL aY (by rfl) T.eZ cW (va1 (vv 0))) aA))) aU) (aB (bM (bU (aV L (aH (aO aP (vv 0) aA) (va1 (cN (va1 bB)))))) (aD (aJ (gU (vL dN (aL aY (by rfl) T.eZ cW (va1 (vv 0))) aA) (gY (aV N (aH (vv 1) (va1 (aO aP (vv 0) aA)))))))) aU) (aB (bM (VW.pt (fJ (cD (bU (aV L (aH (aO aP (vv 0) aA) (va1 (cN (va1 bB))))))) (fJ (cZ vV (aL aY (by rfl) T.eZ cW (va1 (vv 0))) aA) (eG (cD (bU (aV N (aH (vv 1) (va1 (aO aP (vv 0) aA)))))))))) (aD (aJ fP)) aU) (aD (aJ (aV X (aH (aO aP (vv 0) aA) (aH (aV Y (aH (vv 1) (va1 (aO aP (vv 0) aA)))) (va1 (vv 2))))))))))),?_⟩;cases R with
 |copies=>obtain⟨a,rfl,b⟩:=i;refine⟨_,rfl,_,_,rfl,.tup b,_,rfl,bY ⟨_,rfl,_,_,rfl,.inr b,rfl,_,rfl,bY ?_⟩⟩;refine⟨_,rfl,a,_,0,_,rfl,rfl,b,at0 _ _,by decide,λo J _ g l=>⟨_,o,_,rfl,th8 (by decide +kernel),SqT.of l,rfl,_,rfl,iZ (by decide +kernel) ?_⟩⟩;refine⟨_,rfl,_,_,rfl,.inr (g.aR b),rfl,?_⟩;exact q J g
 |keys n=>obtain⟨a,rfl,b⟩:=i;obtain⟨t,k,p⟩:=j;refine⟨_,rfl,_,_,rfl,.tup b,_,rfl,bY ⟨_,rfl,_,_,rfl,.inr b,rfl,_,rfl,bY ?_⟩⟩;refine⟨_,rfl,a,_,0,_,rfl,rfl,b,at0 _ _,by decide,λo J _ g l=>⟨_,o,_,rfl,th8 (by decide +kernel),SqT.of l,rfl,_,rfl,dI (by decide +kernel) ?_⟩⟩;refine⟨_,rfl,a,_,0,_,rfl,rfl,g.aR b,at0 _ _,by decide,λy S _ x C=>⟨_,y,_,rfl,th8 (by decide +kernel),SqT.of C,rfl,_,rfl,iZ (by decide +kernel) ?_⟩⟩;have c:=g.trans x;refine⟨_,rfl,_,_,rfl,.inr (c.aR b),rfl,_,rfl,eX ?_⟩;exact⟨_,rfl,_,rfl,a,_,1,_,rfl,rfl,c.aR b,at1 _ _ _,B,hd,n,rfl,F.same c,M,t,aBf p,λr D=>q r (c.trans D)⟩
 |spans n h0 cs=>obtain⟨a,vc,rfl,b,hc⟩:=i;obtain⟨t,k,p,G,u⟩:=j;refine⟨_,rfl,_,_,rfl,.tup b,_,rfl,bY ⟨_,rfl,_,_,rfl,.inr b,rfl,_,rfl,bY ?_⟩⟩;refine⟨_,rfl,a,_,0,_,rfl,rfl,b,at0 _ _,by decide,λo J _ g l=>⟨_,o,_,rfl,th8 (by decide +kernel),SqT.of l,rfl,_,rfl,dI (by decide +kernel) ?_⟩⟩;refine⟨_,rfl,a,_,0,_,rfl,rfl,g.aR b,at0 _ _,by decide,λy S _ x C=>⟨_,y,_,rfl,th8 (by decide +kernel),SqT.of C,rfl,_,rfl,dI (by decide +kernel) ?_⟩⟩;have c:=g.trans x;refine⟨_,rfl,a,_,0,_,rfl,rfl,c.aR b,at0 _ _,by decide,λU H3 _ V W=>⟨_,U,_,rfl,th8 (by decide +kernel),SqT.of W,rfl,_,rfl,dI (by decide +kernel) ?_⟩⟩;have e:=c.trans V;refine⟨_,rfl,_,_,rfl,.inr (e.aR b),rfl,_,rfl,bY ?_⟩;refine⟨_,rfl,_,rfl,a,_,1,_,rfl,rfl,e.aR b,at1 _ _ _,B,hd,n,rfl,F.same e,M,t,aBf p,λH4 s4=>⟨_,rfl,bY ?_⟩⟩;have d:=e.trans s4;refine⟨_,rfl,a,_,2,_,rfl,rfl,d.aR b,at2 _ _ _ _,_,rfl,_,rfl,a,_,1,_,rfl,rfl,d.aR b,at1 _ _ _,B,n,hd,k,rfl,F.same d,p,_,rfl,?_⟩;exact⟨vc,k,m,h0,cs,rfl,lY.same d (λ_ _ z=>z.same d) hc,G,u,d _ _ Z,λr D=>q r (d.trans D)⟩
inductive aIo (K:bF4)(vs:List V)(H:Hp)(Q:VK)(E_:XK):Prop
 |mk (L:Addr) (vh:V) (hd:Hdr) (rows:List (List V)) (_:vs=[.ref L,vh]) (_:jH K H vh hd) (_:hd.length<=1000) (_:bW K H L rows) (_:rows.length<=1000) (_:(∀r∈rows,gC hd r)) (_:∀H',Same H H'->Q (.bl true) H')
def aK7 (T:Txt w K mg)(qQ:Ok P w K mg base 4 "is_row" u5 (aAu K)):Ok P w K mg base 5 "are_rows" ["thing","head"] (aIo K):=by
 refine Ok.ofV T.aOb aJg (by trivial) (λf C A m s H vs Q E X h=>?_)
 obtain⟨L,p,hd,t,rfl,O,I,⟨a,c,y⟩,Z,g,q⟩:=h;refine⟨_,(aD (aJ (gU (aL aQo (by rfl) T.bR bN (aH (vv 0) (va1 (fG (v:=.ty "list") (by rfl) T.yQ rE rfl)))) (gY (aL (jT rfl) (by rfl) T.aBj tX (va1 (cI (N:=["row","head"]) (by trivial) (eE (aC uD) rfl (by decide +kernel)) rfl (eQ (vv 0)) (λW d e Y=>⟨(bJ (i:=0) (show (["row","head"]:List Str).Nodup from by decide +kernel) rfl (Or.inl rfl)),fW,(aV qQ (aH (vv 1) (va1 (vv 0))))⟩)))))))),?_⟩;have lu:=y.len;refine⟨_,rfl,L,a,rfl,SqL.of c,_,rfl,eX ?_⟩;dsimp only[rA,tCB,dH];refine iY [none,some p] (jN 1 (by decide +kernel) rfl rfl (by trivial)) ⟨_,rfl,L,rfl,⟨_,SqL.of c⟩,aMt (aNq λe d=>SqL.of (d _ _ c)) (aCd λe d=>SqL.of (d _ _ c)) ⟨none,rfl⟩ (by lia) (List.replicate a.length (.bl true)) (by rw[bDP]) (λi x z V U e R l o r=>?_) λD B J _ S=>?_⟩
 ·have n:=bBX (t8 U);subst n;obtain⟨u,j,M⟩:=cA y V;exact⟨_,rfl,_,rfl,p,x,hd,u,rfl,O.same o,I,M.same o,g u (t8 j),λG F=>r G F⟩
 ·refine⟨D,List.replicate a.length true,rfl,SqL.of (by rw[S,bEN]),?_⟩;rw[show (List.replicate a.length true).all id=true from List.all_eq_true.mpr λb k=>bBX k];exact q B J
structure Tb where
 hd:Hdr
 pl:Plc
 rows:List (List V)
def lC (K:bF4)(H:Hp)(v:V)(vh vp:V)(L:Addr)(t:Tb):Prop:=∃a,v=.ref a/\SqT K H a [vh,vp,.ref L]/\jH K H vh t.hd/\nA K H vp t.pl/\bW K H L t.rows
structure jC (m:Int)(t:Tb):Prop where
 hd:aRl t.hd
 pl:aX0 t.hd m t.pl
 few:t.rows.length<=60
 rows:∀r∈t.rows,gC t.hd r
inductive aZs (K:bF4)(Pt:Addr)(vs:List V)(H:Hp)(Q:VK)(E_:XK):Prop
 |mk (v vh vp:V) (L:Addr) (m:Int) (t:Tb) (_:vs=[v,.int m]) (_:lC K H v vh vp L t) (_:jC m t) (_:H Pt=some (.tab qC)) (_:∀H',Same H H'->Q (.bl true) H')
def aLe (T:Txt w K mg)(y:Ok P w K mg base 5 "is_head" o4 (aI5 K))(B:Ok P w K mg base 7 "is_placing" ["thing","head","houses"] (aZk K Pt))(r:Ok P w K mg base 5 "are_rows" ["thing","head"] (aIo K)):Ok P w K mg base 8 "is_table" bQK (aZs K Pt):=by
 refine Ok.ofV T.aLy aKn (by trivial) (λf o A k s H I Q E D h=>?_)
 obtain⟨v,i,C,L,m,t,rfl,⟨a,rfl,c,j,g,n⟩,e,z,q⟩:=h;have J:=e.hd.1.2.2;have u:=e.few;refine⟨_,(aB (bM (VW.pt (fJ (cD (bU (aL iQ (by rfl) T.bR bN (aH (vv 0) (va1 (fG (v:=.ty "tuple") (by rfl) T.gZ eY rfl)))))) (fJ (cZ vV (aL aY (by rfl) T.eZ cW (va1 (vv 0))) aA) (eG (cD (bU (aV y (va1 (aO aP (vv 0) aA))))))))) (aD (aJ fP)) aU) (aD (aJ (gU (aV B (aH (aO aP (vv 0) aA) (aH (aO aP (vv 0) aA) (va1 (vv 1))))) (gY (aV r (aH (aO aP (vv 0) aA) (va1 (aO aP (vv 0) aA))))))))),?_⟩;refine⟨_,rfl,_,_,rfl,.tup c,_,rfl,bY ⟨_,rfl,_,_,rfl,.inr c,rfl,_,rfl,bY ?_⟩⟩;refine⟨_,rfl,a,_,0,_,rfl,rfl,c,at0 _ _,i,t.hd,rfl,j,e.hd,λG d=>⟨_,rfl,bY ?_⟩⟩;refine⟨_,rfl,a,_,1,_,rfl,rfl,d.aR c,at1 _ _ _,_,rfl,a,_,0,_,rfl,rfl,d.aR c,at0 _ _,_,rfl,C,i,m,t.hd,t.pl,rfl,g.same d,j.same d,by lia,e.pl,d _ _ z,λF p=>⟨_,rfl,eX ?_⟩⟩;have b:=d.trans p;exact⟨_,rfl,a,_,2,_,rfl,rfl,b.aR c,at2 _ _ _ _,_,rfl,a,_,0,_,rfl,rfl,b.aR c,at0 _ _,L,i,t.hd,t.rows,rfl,j.same b,by lia,n.same b,by lia,e.rows,λl x=>q l (b.trans x)⟩
end
end My
namespace L2
open PySem PySem.Spec PyProof.Rows
section
variable {X:Cx}{bF8:bF6}{σ:L2.St}{H:Hp}{s:Shared}{d:Addr}{o:Obj}{kvs:List (Key × V)}
def aYz (k:HOk X.prog X.w H s.heap)(hd:H d=some u)(j:∀xs,u≠.tup xs)(i:∀a,u≠.own a)(h:cV X.prog X.w H s.heap d u'):HOk X.prog X.w (upd H d u') s.heap:=by
 have f:∀{b v},cV X.prog X.w H s.heap b v->cV X.prog X.w (upd H d u') s.heap b v:=λ{b v} z=>z.stay (λ_ _ _ q=>q) (λc q=>by
  rw[aK (λe=>by subst e;rw[hd] at q;exact i _ (bAK q))];exact q) λc xs q=>by
  rw[aK (λe=>by subst e;rw[hd] at q;exact j _ (bAK q))];exact q
 intro b v e;by_cases g:b=d
 ·subst g;rw[aF] at e;cases e;exact f h
 ·rw[aK g] at e;exact f (k b v e)
def Inv.setd (I:Inv X bF8 σ H s)(hd:H d=some u)(m:∀xs,u≠.tup xs)(t:∀a,u≠.own a)(y:∀ps,u≠.tbl ps)(r:∀ob v,X.H₀ d≠some (.frz ob v))(h:cV X.prog X.w H s.heap d u'):Inv X bF8 σ (upd H d u') s:=by
 have g:∀{b},H b=none->upd H d u' b=none:=λ{b} e=>by rw[aK (λz=>by subst z;rw[hd] at e;cases e)];exact e
 refine⟨I.ok,I.os,I.bare,⟨I.base.keep,I.base.slot,λb ob e n k=>g (I.base.free b ob e n k),I.base.there,λb xs e=>?_,λb ob v e=>?_,λb ps e=>?_⟩,I.loc,I.cell,g I.free,λx c e=>g (I.freeC x c e),λp j=>?_,aYz I.hok hd m t h,I.len⟩
 ·have q:=I.base.tups b xs e;rw[aK (λz=>by subst z;rw[hd] at q;exact m _ (bAK q))];exact q
 ·have q:=I.base.frzs b ob v e;rw[aK (λz=>by subst z;exact r _ _ e)];exact q
 ·obtain⟨f,q⟩:=I.base.tbls b ps e;refine⟨f,?_⟩;rw[aK (λz=>by subst z;rw[hd] at q;exact y _ (bAK q))];exact q
 ·obtain⟨o,i,l⟩:=I.pin p j;exact⟨o,g i,l⟩
end
def aPi (b:o.data=.dict es ep)(l:cV P w H h d (.frz o (.dK kvs))):∃vs,KV kvs vs/\h.DictAt (bI P w) d vs ep:=by obtain⟨f,_,_,vs,a,⟨m,g,j,e,i,c,k⟩⟩:=l;rw[f] at e;cases e;rw[b] at c;cases c;exact⟨vs,a,o,es,f,i,b,k⟩
section
variable {X:Cx}{tg:Expr}
def bDf (d:Addr)(kvs:List (Key × V))(D:Ends):Ends:={ nx:=fun σ H=>(∃o,H d=some (.frz o (.dK kvs)))/\D.nx σ (upd H d (.dK kvs)),rt:=λv H=>(∃o,H d=some (.frz o (.dK kvs)))/\D.rt v (upd H d (.dK kvs)) }
def bEp (X:Cx)(t:TS):TS:=λD σ H=>∃d kvs,H d=some (.dK kvs)/\((∀ob u,X.H₀ d≠some (.frz ob u))->t (bDf d kvs D) σ H)
theorem aXv {st:Stmt}{t:TS}(h:VS X st t):VS X st (bEp X t):=⟨by
 intro b s σ H D I ⟨d,k,hd,q⟩;have w:∀n u,X.H₀ d≠some (.frz n u):=λn u e=>by have:=I.base.frzs d n u e;rw[hd] at this;cases this
 have a:∀{c g l o},Inv X b c g l->g d=some (.frz o (.dK k))->Inv X b c (upd g d (.dK k)) l:=λ{c g l o} i j=>i.setd j (λ_ z=>by cases z) (λ_ z=>by cases z) (λ_ z=>by cases z) w (i.hok d _ j).2;refine thn (h.1 b s σ H _ I (q w)) λf l m=>?_;cases f with
 |next=>obtain⟨c,g,i,⟨o,j⟩,p⟩:=m;exact⟨c,_,a i j,p⟩
 |brk=>obtain⟨_,_,_,z⟩:=m;exact z.elim
 |cont=>obtain⟨_,_,_,z⟩:=m;exact z.elim
 |ret u=>obtain⟨v,c,g,i,r,⟨o,j⟩,p⟩:=m;exact⟨v,c,_,a i j,r,p⟩⟩
end
end L2
namespace PySem
section
variable {prog:Program}{w:World}{K:Type}[DecidableEq K]{knd:HeapKind prog w K}{A:Around}{E:bF5}{s:Shared}
end
end PySem
namespace L2
open PySem PySem.Spec PyProof.Rows
section
variable {X:Cx}
end
end L2
namespace PySem
section
variable {prog:Program}{w:World}{A:Around}{E:bF5}{s:Shared}
end
end PySem
namespace L2
open PySem PySem.Spec PyProof.Rows
section
variable {X:Cx}{tg:Expr}
end
end L2
namespace PySem
section
variable {prog:Program}{w:World}{A:Around}{E:bF5}{s:Shared}
def aW9 {it d:Addr}{i ep:Nat}{od:Obj}{es:Array DictEntry}{y u:Value}{Q:Option Value->Shared->Prop}(r:IsItemIter s.heap it d i es.size ep y u)(Y:s.heap.get? d=some od)(P:od.data=.dict es ep)(lt:i<es.size)
  (q:∀h',IsItemIterOut h' it d (i+1) es.size ep es[i].key es[i].val s.heap.objs.size->h'.get? s.heap.objs.size=some { cls:=.type "tuple",data:=.seq #[es[i].key,es[i].val] }->h'.objs.size=s.heap.objs.size+1 ->
   (∀b o,b≠it->s.heap.get? b=some o->h'.get? b=some o)->Q (some (.ref s.heap.objs.size)) { s with heap:=h' }):wpAny (model prog w) A (pyNext (.ref it)) Q E s:=by
 have j:s.TypeIs (.ref it) "dict_itemiterator":=⟨_,r,rfl⟩;have Z:it<s.heap.objs.size:=j9 r;unfold pyNext;refine b7 (bCS (bAG (name:="__next__") j F.slot_dict_itemiterator_next (bAD F.slot_dict_itemiterator_next j F.entry_dict_itemiterator_next (b7 (d7 (b7 (b7 ?_)))) (F.args_dict_itemiterator_next_1 _))));refine b7 (bCL j (d7 (b7 (bDW r rfl ?_))));rw[show Builtin.Dict_items.ownsTuple "dict_itemiterator"=true from by decide];simp only[if_true];have S:¬ ((Value.ref d == Value.none)=true):=v5;show wpAny _ _ (ite ((Value.ref d == Value.none)=true) _ _) _ _ _;rw[if_neg S];refine b7 (d7 (b7 (bF3 Y P ?_)));rw[if_neg (by simp)];refine b7 (d7 (b7 (wpAny_dictEpoch Y P ?_)));rw[if_neg (by simp)];have O:¬ ((i:Int)<0):=by lia
 refine d7 ?_;simp only[O,if_false,bAQ,j7 lt];refine b7 (b7 (bCL j (d7 (b7 (bEZ j ?_)))));show wpAny _ _ (setField (.ref it) 3 (rawInt ((i:Int)+1)) >>= _) _ _ s;refine b7 (bAP r (by simp) λa X v=>?_);have K:IsItemIter a it d (i+1) es.size ep y u:=by
  have z:((i+1:Nat):Int)=(i:Int)+1:=by lia
  unfold IsItemIter;rw[z];simpa [rawInt] using X
 have h:Shared.TypeIs { s with heap:=a } (.ref it) "dict_itemiterator":=⟨_,K,rfl⟩;refine b7 (bAR (b7 (bEZ h (b7 (bEZ h ?_)))));have f:a.objs.size=s.heap.objs.size:=v.1;show wpAny _ _ (Builtin.Dict_items.pairFromOwner (.ref it) 6 es[i].key es[i].val) _ _ { s with heap:=a };unfold Builtin.Dict_items.pairFromOwner;refine b7 (bFT ?_);have k:IsItemIter (a.push { cls:=.type "tuple",data:=.seq #[es[i].key,es[i].val] }) it d (i+1) es.size ep y u:=c7 _ K;have B:(a.push { cls:=.type "tuple",data:=.seq #[es[i].key,es[i].val] }).get? s.heap.objs.size=some { cls:=.type "tuple",data:=.seq #[es[i].key,es[i].val] }:=by rw[<-f];exact j8 _ rfl
 have n:(a.push { cls:=.type "tuple",data:=.seq #[es[i].key,es[i].val] }).objs.size=s.heap.objs.size+1:=by rw[bBL,f]
 have C:∀b o,b≠it->s.heap.get? b=some o->(a.push { cls:=.type "tuple",data:=.seq #[es[i].key,es[i].val] }).get? b=some o:=λb o c e=>c7 _ (v.extBut b o c e);rw[show ({ s with heap:=a }:Shared).heap.objs.size=s.heap.objs.size from f];show wpAny _ _ (Builtin.Dict_items.ownedTupleIsFree (.ref it) >>= _) _ _ { s with heap:=a.push { cls:=.type "tuple",data:=.seq #[es[i].key,es[i].val] } };generalize a.push { cls:=.type "tuple",data:=.seq #[es[i].key,es[i].val] }=h2 at k B n C ⊢;unfold Builtin.Dict_items.ownedTupleIsFree;refine b7 (b7 (bAJ k rfl (x:=.none) rfl (d7 ?_)));simp only[if_true];refine b7 (bAJ k rfl (x:=y) rfl (b7 (bAJ k rfl (x:=u) rfl (b7 (bAP k (by simp) λm M G=>?_)))));have T:IsItemIter m it d (i+1) es.size ep es[i].key u:=M;refine b7 (bAP T (by simp) λl L I=>?_);have U:IsItemIter l it d (i+1) es.size ep es[i].key es[i].val:=L;refine b7 (bAP U (by simp) λp V D=>?_);have R:IsItemIterOut p it d (i+1) es.size ep es[i].key es[i].val s.heap.objs.size:=V;refine b7 (bAP R (by simp) λg W J=>?_);have N:IsItemIterOut g it d (i+1) es.size ep es[i].key es[i].val s.heap.objs.size:=W;have H:∀b o,b≠it->h2.get? b=some o->g.get? b=some o:=λb o c e=>J.extBut b o c (D.extBut b o c (I.extBut b o c (G.extBut b o c e)));have t:g.objs.size=s.heap.objs.size+1:=by have a3:m.objs.size=h2.objs.size:=G.1;have a4:l.objs.size=m.objs.size:=I.1;have a5:p.objs.size=l.objs.size:=D.1;have a6:g.objs.size=p.objs.size:=J.1;lia
 exact b7 (bFZ (d7 (d7 ⟨_,rfl,d7 (q g N (H _ _ (bCM Z) B) t λb o c e=>H b o c (C b o c e))⟩)))
def aLx (h:A.handled=none)(b:IsItemIter s.heap it d es.size es.size ep k0 v0)(g:s.heap.get? d=some od)(f:od.data=.dict es ep)
  (q:∀h',Heap.ExtBut it s.heap h'->Q none { s with heap:=h' }):wpAny (model prog w) A (pyNext (.ref it)) Q E s:=by
 have a:s.TypeIs (.ref it) "dict_itemiterator":=⟨_,b,rfl⟩;unfold pyNext;refine b7 (bCS (bAG (name:="__next__") a F.slot_dict_itemiterator_next (bAD F.slot_dict_itemiterator_next a F.entry_dict_itemiterator_next (b7 (d7 (b7 (b7 ?_)))) (F.args_dict_itemiterator_next_1 _))));refine b7 (bCL a (d7 (b7 (bDW b rfl ?_))));rw[show Builtin.Dict_items.ownsTuple "dict_itemiterator"=true from by decide];simp only[if_true];have c:¬ ((Value.ref d == Value.none)=true):=v5;show wpAny _ _ (ite ((Value.ref d == Value.none)=true) _ _) _ _ _;rw[if_neg c];refine b7 (d7 (b7 (bF3 g f ?_)));rw[if_neg (by simp)];refine b7 (d7 (b7 (wpAny_dictEpoch g f ?_)));rw[if_neg (by simp)];have e:¬ ((es.size:Int)<0):=by lia
 refine d7 ?_;simp only[e,if_false,bAQ,bCE (d8 es.size)];refine b7 (b7 (bCL a (d7 ?_)));show wpAny _ _ (setField (.ref it) 2 .none >>= _) _ _ s;refine b7 (bBW b rfl (by simp) ?_);refine b7 ?_;simp only[newExc,newTuple,raiseNew];refine b7 (bAF ?_ (by size_fits));refine b7 (bEQ (by simp only[firstArgMember];rfl) ?_);refine bAF (b7 (bFJ ?_)) (by size_fits);rw[show A.in1.handled=none from h];refine b7 (d7 (bFY ?_));refine b7 (bDE ⟨_,j8 _ rfl,rfl⟩ isSubtype_stop ?_);exact d7 (q _ (((bAV ..).extBut.push _).push _))
def aV5 (b:(d == sysModules)=false)(a:s.TypeIs (.ref d) "dict")
  (q:Q (.ref s.heap.objs.size) { s with heap:=s.heap.push { cls:=.type "dict_items",data:=.fields #[.ref d] } }):wpAny (model prog w) A (call (.builtin "dict.items") [.ref d]) Q E s:=by
 refine bAD F.slot_dict_items a F.entry_dict_items ?_ (F.args_dict_items_1 _);unfold Builtin.«dict.items» Builtin.Dict.noArgs;refine b7 (b7 (wpAny_notOrdered_dict a ?_));show wpAny _ _ (pure d) _ _ s;refine d7 ?_;show wpAny _ _ (Builtin.Dict.showsAll d >>= _) _ _ _;unfold Builtin.Dict.showsAll;rw[if_neg (show ¬ (d == sysModules)=true by rw[b];exact v5)];exact b7 (d7 (b7 (bAF (d7 ⟨_,rfl,q⟩))))
def aK3 (a:s.heap.IsItemsView v d)(e:s.heap.get? d=some od)(b:od.data=.dict es ep)
  (q:Q (.ref s.heap.objs.size) { s with heap:=s.heap.push { cls:=.type "dict_itemiterator",data:=.fields #[.none,.bool false,.ref d,.int 0 0,.int es.size 0,.int ep 0,.none,.none] } }):wpAny (model prog w) A (pyIter (.ref v)) Q E s:=by
 obtain⟨g,f,h,c⟩:=id a;refine bFA a.typeIs F.slot_dict_items_iter (bAD F.slot_dict_items_iter a.typeIs F.entry_dict_items_iter ?_ (F.args_dict_items_iter_1 _));unfold Builtin.«dict_items.__iter__» Builtin.Dict_items.dictOf;refine b7 (d7 (b7 (b7 (bAJ f c rfl (d7 ?_)))));refine b7 ?_;unfold Builtin.Dict_items.newIterator;refine b7 (bF3 e b (b7 (wpAny_dictEpoch e b ?_)));rw[show Builtin.Dict_items.ownsTuple "dict_itemiterator"=true from by decide];simp only[if_true];refine bAF (d7 ⟨_,rfl,"dict_itemiterator",_,⟨_,j8 _ rfl,rfl⟩,F.slot_dict_itemiterator_next.lookup,?_⟩) (by simp only[sizeOk,Builtin.Dict_items.ownedTupleFields,d9,w6,m8,bBS,sizeLine_eq];lia);simpa [rawInt,Builtin.Dict_items.ownedTupleFields] using q
end
end PySem
namespace PySem
open Builtin in
def aDb:entryFor table "dict_itemiterator.__iter__"=some Builtin.«dict_keyiterator.__iter__»:=entryFor_alias (id':="dict_keyiterator.__iter__") (by kernel_rfl) rfl (by decide +kernel) (by kernel_rfl)
end PySem
namespace L2
open PySem PySem.Spec PyProof.Rows
section
variable {X:Cx}
end
def aL9 (d:Addr)(o:Obj)(kvs:List (Key × V)):It:=
 ⟨λi H=>H d=some (.frz o (.dK kvs))/\i<kvs.length,λi H x H'=>∃T kv,H T=none/\x=.ref T/\kvs[i]?=some kv/\H'=upd H T (.tup [kV kv.1,kv.2]),λi H=>H d=some (.frz o (.dK kvs))/\i=kvs.length⟩
theorem bEm (r:KV kvs vs):∀{i:Nat} {kv:Key × V},kvs[i]?=some kv->∃q,vs[i]?=some q/\kv.1=q.1/\RelV kv.2 q.2:=by
 unfold KV at r
 induction r with
 |nil=>intro i kv h;cases h
 |cons a _ ih=>
  intro i kv h;cases i with
  |zero=>cases h;exact⟨_,rfl,a⟩
  |succ i=>exact ih h
theorem aWq (h:(bI P w).is (Sum.inr n) key=true):∃t,key=.str n t:=by
 cases key with
 |str x t=>
  have e:x=n:=by simpa [bI,vX,Value.isStrOf] using h
  exact⟨t,by rw[e]⟩
 |_=>exact absurd (show false=true from h) v5
def aI6 {P:Program}{w:World}{K:bF4}{elts:List Expr}{kt:Nat}{pos:Pos}(d it:Addr)(o:Obj)(kvs:List (Key × V))(es:Array DictEntry)(ep:Nat)(g:o.data=.dict es ep)(hk:∀kv∈kvs,∃n,kv.1=Sum.inr n) :
  Turn P w K (.Tuple elts kt pos) (aL9 d o kvs) [it] it (λi h=>∃k0 v0,IsItemIter h it d i kvs.length ep k0 v0) where
 mem:=by simp
 obj:=λi h a b f=>by
  have e:b=it:=by simpa using f
  subst e;obtain⟨k0,v0,R⟩:=a;exact⟨_,R,λv z=>by cases (show Data.fields _=Data.cell v from z)⟩
 keep:=λi h J a k=>by obtain⟨k0,v0,R⟩:=a;exact⟨k0,v0,k it (by simp) _ R⟩
 item:=by
  intro X O U S hc i C s σ H E I T a N;subst O U S;obtain⟨k0,v0,a⟩:=a;obtain⟨hd,G⟩:=N;obtain⟨vs,l,od,Z,B,_,c,_,m,_⟩:=aPi g (I.hok d _ hd);have r:=(I.hok d _ hd).1;rw[r] at B;cases B;rw[g] at c;cases c;have D:es.size=kvs.length:=by rw[KV.length l,<-m.length,v4]
  have q:=b8 G;obtain⟨x,hx,e1,e3⟩:=bEm l q;have u:i<es.size:=by lia
  obtain⟨j,L⟩:=m.get? (by rw[bBO];exact j7 u) hx;obtain⟨n,en⟩:=hk _ (bAT G);rw[<-e1,en] at j;obtain⟨t,j⟩:=aWq j;have y:=T it (by simp);rw[<-D] at a;refine aW9 a r g u λJ Y M a3 kp=>?_;rw[j,L] at Y M;refine⟨_,rfl,?_⟩;have fT:=I.hok.fresh (d8 _);have p:=v8 (j9 a);have a0:kV kvs[i].1=.str n:=by rw[en];rfl
  have I1:Inv X C σ (upd H s.heap.objs.size (.tup [kV kvs[i].1,kvs[i].2])) { s with heap:=J }:=by
   rw[a0];refine I.drawn (ch:=[it]) (its:=[.str n t,x.2]) (λb f=>?_) (λb o f e=>kp b o (by simpa using f) e) (d8 _) (.cons ⟨t,rfl⟩ (.cons e3 .nil)) (small (by simp)) (.of M rfl ⟨_,M,rfl,_,rfl⟩) (λb f=>?_)
   ·have:b=it:=by simpa using f
    rw[this];exact y
   ·have:b=it:=by simpa using f
    rw[this];exact⟨_,Y⟩
  refine wpAny_letOwnedTupleGo_items Y λh2 z2 s2=>?_;obtain⟨g0,g1,g2,g3,g4,g5⟩:=y;have I2:=Inv.turned I1 (t':=s.toks) (λb o f e=>(s2.2 b f).trans e) (by rw[aK p];exact g0) g1 g3 g4 g5;refine⟨.ref s.heap.objs.size,_,I2,rfl,⟨_,kvs[i],fT,rfl,q,rfl⟩,⟨_,_,by rw[<-D];exact z2⟩,λb f=>?_⟩;have:b=it:=by simpa using f
  rw[this,aK p];exact g0
 done:=by
  intro X O U S hc i C s σ H E I T a N;subst O U S;obtain⟨k0,v0,a⟩:=a;obtain⟨f0,f1,f2,f3,f4,f5⟩:=T it (by simp);obtain⟨hd,G⟩:=N;obtain⟨vs,l,od,Z,B,_,c,_,m,_⟩:=aPi g (I.hok d _ hd);have r:=(I.hok d _ hd).1;rw[r] at B;cases B;rw[g] at c;cases c;have D:es.size=kvs.length:=by rw[KV.length l,<-m.length,v4]
  rw[G,<-D] at a;exact aLx (I.ok.hd hc) a r g λJ eb=>⟨rfl,I.turned (t':=s.toks) (λb o f e=>eb b o f e) f0 f1 f3 f4 f5⟩
 self:=λA i s Q E a h=>by obtain⟨k0,v0,a⟩:=a;have W:s.TypeIs (.ref it) "dict_itemiterator":=⟨_,a,rfl⟩;refine bFA W PySem.F.slot_dict_itemiterator_iter (bAD PySem.F.slot_dict_itemiterator_iter W PySem.aDb ?_ (PySem.F.args_dict_itemiterator_iter_1 _));exact d7 ⟨_,rfl,"dict_itemiterator",_,W,PySem.F.slot_dict_itemiterator_next.lookup,h⟩
section
variable {X:Cx}
def aOw (te:TE):TI:=fun σ H R=>te σ H λv H1=>∃d kvs,v=.ref d/\H1 d=some (.dK kvs)/\(∀kv∈kvs,∃n,kv.1=Sum.inr n)/\(∀ob u,X.H₀ d≠some (.frz ob u))/\∀o,R (aL9 d o kvs) (upd H1 d (.frz o (.dK kvs)))
def aEp {elts:List Expr}{kt:Nat}{tp apos cpos:Pos}{e:Expr}{te:TE}(h:VE X e te)(k:attributeBase e "items" X.env (eval e X.env)=eval e X.env:=by rfl)(r:(apos.endLine == cpos.line)=true:=by rfl) :
  VI X (.Tuple elts kt tp) (.Call (.Attribute e "items" apos) [] [] cpos) (aOw (X:=X) te):=⟨by
 intro f s σ H R I P;refine wpAny_Call_method0_late k r (thn (h.1 f s σ H _ I P) λv a ⟨x,A,i,V,J⟩=>?_);obtain⟨d,c,e,hd,C,Q,q⟩:=J;subst e;cases V;obtain⟨z,N,U,m,⟨o,n,y,p,D,l,G,g,E⟩⟩:=aLq i.hok hd;have L:n.size=c.length:=by rw[KV.length m,<-g.length,v4]
 have M:a.TypeIs (.ref d) "dict":=(show a.heap.DictOf (bI X.prog X.w) d U from ⟨o,n,y,p,D,l,G,g,E⟩).typeIs;obtain⟨K,B⟩:=aM8 (T:="dict") i (show RelV (.ref d) (.ref d) from rfl) (.inr (.inr (.inl ⟨rfl,.inl ⟨c,hd⟩⟩)));refine⟨"dict","dict.items",PySem.F.plainAttrs_dict,PySem.F.slot_dict_items,PySem.F.type_dict_items,K,B,bDL rfl (PySem.evalArgs_none ?_)⟩;refine aV5 N M ?_;have S:Inv X f σ (upd A d (.frz o (.dK c))) a:=i.setd hd (λ_ z=>by cases z) (λ_ z=>by cases z) (λ_ z=>by cases z) Q ⟨p,i.hok d _ hd⟩;have j:Inv X f σ (upd A d (.frz o (.dK c))) { a with heap:=a.heap.push { cls:=.type "dict_items",data:=.fields #[.ref d] } }:=S.kept (t':=a.toks) λb o e=>c7 _ e;have t:(a.heap.push { cls:=.type "dict_items",data:=.fields #[.ref d] }).IsItemsView a.heap.objs.size d:=⟨_,j8 _ rfl,rfl,rfl⟩;have u:(a.heap.push { cls:=.type "dict_items",data:=.fields #[.ref d] }).get? d=some o:=c7 _ p;generalize a.heap.push { cls:=.type "dict_items",data:=.fields #[.ref d] }=hp at j t u ⊢;refine aK3 (s:={ a with heap:=hp }) t u l ?_;refine⟨hp.objs.size,[hp.objs.size],_,_,_,rfl,j.kept (t':=a.toks) λb o e=>c7 _ e,aI6 d _ o c n y l C,?_,λb O=>?_,q o⟩
 ·rw[<-L];exact⟨_,_,j8 _ rfl⟩
 ·have e:b=hp.objs.size:=by simpa using O
  subst e;exact j.aLi (d8 _) (j.hok.fresh (d8 _))⟩
end
def aM9 {d:Addr}{o:Obj}{a:List (Key × V)}{g:TG}{tb:TS}{D:Ends}{σ:L2.St}{H:Hp}(c:Nat->L2.St->Hp->Prop)(f:c 0 σ H)(k:∀i σ H,i<=a.length->c i σ H->H d=some (.frz o (.dK a)))
  (j:∀i kv T σ H,a[i]?=some kv->c i σ H->H T=none->g (.ref T) σ (upd H T (.tup [kV kv.1,kv.2])) fun σ2 H2=>tb { D with nx:=c (i+1),ct:=c (i+1),bk:=D.nx } σ2 H2) (hd:∀σ H,c a.length σ H->D.nx σ H) :
  ∃W:Nat->Nat->L2.St->Hp->Prop,(∃m,W 0 m σ H)/\∀i m σ H,W i m σ H ->
   ((aL9 d o a).stop i H/\D.nx σ H)\/((aL9 d o a).go i H/\∃N:L2.St->Hp->Prop,(∀σ' H',N σ' H'->∃m',m'<m/\W (i+1) m' σ' H')/\∀x H',(aL9 d o a).yld i H x H'->g x σ H' fun σ2 H2=>tb { D with nx:=N,ct:=N,bk:=D.nx } σ2 H2):=by
 refine⟨λi m σ H=>m=a.length - i/\i<=a.length/\c i σ H,⟨a.length,by simp,bAC _,f⟩,?_⟩;rintro i m σ H ⟨rfl,hi,p⟩;have q:=k i σ H hi p;by_cases b:i<a.length
 ·right;refine⟨⟨q,b⟩,c (i+1),fun σ' H' h=>⟨a.length - (i+1),by lia,rfl,by lia,h⟩,?_⟩;rintro x H' ⟨T,kv,hT,rfl,hkv,rfl⟩;exact j i kv T σ H hkv p hT
 ·left;have e:i=a.length:=by lia
  subst e;exact⟨⟨q,rfl⟩,hd σ H p⟩
section
variable {X:Cx}
def bCo (X:Cx)(t:TE):TE:=fun σ H Q=>∃d kvs,H d=some (.dK kvs)/\((∀ob u,X.H₀ d≠some (.frz ob u))->t σ H λv H'=>(∃o,H' d=some (.frz o (.dK kvs)))/\Q v (upd H' d (.dK kvs)))
def aX4 (h:VE X e t):VE X e (bCo X t):=⟨by
 intro a s σ H Q I ⟨d,i,hd,q⟩;have c:∀b u,X.H₀ d≠some (.frz b u):=λb u e=>by have:=I.base.frzs d b u e;rw[hd] at this;cases this
 refine thn (h.1 a s σ H _ I (q c)) λu l ⟨v,k,f,r,⟨o,g⟩,j⟩=>?_;exact⟨v,_,f.setd g (λ_ z=>by cases z) (λ_ z=>by cases z) (λ_ z=>by cases z) c (f.hok d _ g).2,r,j⟩⟩
end
def aJe {K:bF4}{d:Addr}{o:Obj}{a:List (Key × V)}{H:Hp}{B:L2.St}{te:TE}{Q:VK}(hd:H d=some (.frz o (.dK a)))(A:Ps2 B B)(hsz:a.length<=1000)
  (Rel:Addr->Nat->Hp->V->Prop) (C:∀{D i H1 H2 y},Same H1 H2->Rel D i H1 y->Rel D i H2 y) (s:∀{D i H1 ys zs y},H1 D=some (.lst ys)->Rel D i H1 y->Rel D i (L2.upd H1 D (.lst zs)) y)
  (F:∀(i:Nat) (kv:Key × V),a[i]?=some kv->∀H' R D ys,Same H H'->H D=none->H' D=some (.lst ys)->(∀y H2,Same H' H2->Rel D i H2 y->R y H2)->te ((B.set 0 (some (kV kv.1))).set 1 (some kv.2)) H' R)
  (q:∀D H' ys,Same H H'->H D=none->H' D=some (.lst ys)->ys.length=a.length->(∀i y,ys[i]?=some y->Rel D i H' y)->Q (.ref D) H'):qN (aL9 d o a) H B (aL4 K 2 (tG (bO 0) (tG (bO 1) aQ3))) mW te Q:=by
 intro D h;refine⟨λi m r H' ys=>m=a.length - i/\i<=a.length/\Same H H'/\H' D=some (.lst ys)/\ys.length=i/\Ps2 B r/\∀j y,ys[j]?=some y->Rel D j H' y,⟨a.length,by simp,bAC _,aW h _,aF,rfl,A,λj y e=>by cases e⟩,?_⟩;rintro i m r H' ys ⟨rfl,hi,sm,gD,ly,hps,hr⟩;refine⟨gD,?_⟩;by_cases l:i<a.length
 ·right;refine⟨⟨sm _ _ hd,l⟩,?_⟩;rintro x H2 ⟨T,kv,hT,rfl,hkv,rfl⟩;have g:Same H' (L2.upd H' T (.tup [kV kv.1,kv.2])):=aW hT _;refine hg2 (SqT.of aF) hps fun E c p=>?_;have f:=p;subst f;dsimp only[mW];rw[if_pos rfl];refine F i kv hkv _ _ D ys (sm.trans g) h (g _ _ gD) λy w k v=>?_;have b:=k _ _ (g _ _ gD);have n:=sm.trans (g.trans k);refine⟨b,bCJ (show ys.length<=1000 by lia) (by decide),a.length - (i+1),by lia,rfl,by lia,gH h n,aF,by rw[w6,ly];rfl,c,λj z e=>?_⟩;by_cases t:j<ys.length
  ·rw[bBJ t] at e;exact s b (C (g.trans k) (hr j z e))
  ·rw[bBG (by lia)] at e;have u:j - ys.length=0:=by have:=(List.getElem?_eq_some_iff.mp e).1;simpa using this
   rw[u] at e;cases e;have:j=i:=by lia
   rw[this];exact s b v
 ·left;have e:i=a.length:=by lia
  subst e;exact⟨⟨sm _ _ hd,rfl⟩,q D H' ys sm h gD ly hr⟩
def aS7 {X:Cx}{scope:Scope}{N:List Str}{tl:TE}{te:TE}{tt:TT}{g:TG}{σ:L2.St}{H:Hp}{Q:VK}(b:L2.St)(a:Cap X scope N σ b)(h:tl σ H λv H1=>∃d kvs,v=.ref d/\H1 d=some (.dK kvs)/\(∀kv∈kvs,∃n,kv.1=Sum.inr n)/\(∀ob u,X.H₀ d≠some (.frz ob u))/\∀o,qN (aL9 d o kvs) (upd H1 d (.frz o (.dK kvs))) b g tt te Q):jA X scope N (aOw (X:=X) tl) g tt te σ H Q:=⟨b,a,h⟩
section
variable {X:Cx}
def aY4:List V->Hp->VK->Prop:=λxs H Q=>∃d kvs,xs=[.ref d,.ty "dict"]/\H d=some (.dK kvs)/\Q (.bl true) H
def aKj:cH X (.builtin "isinstance") aY4:=by intro c s σ H m k Q I r h;obtain⟨d,e,rfl,hd,q⟩:=h;obtain⟨u,v,rfl,f,b⟩:=r.two;obtain rfl:v=Value.type "dict":=b;obtain rfl:u=Value.ref d:=f;obtain⟨z,n,l,j,a⟩:=aLq I.hok hd;obtain⟨o,i,g⟩:=(show s.TypeIs (.ref d) "dict" from a.typeIs);exact call_isinstance (isinstance_true F.isi_meta_dict F.isi_self_dict) ⟨⟨o,i,g⟩,⟨.bl true,H,I,rfl,q⟩⟩
end
end L2
namespace PySem
section
variable {prog:Program}{w:World}{A:Around}{E:bF5}{s:Shared}
def aKe (q:s.heap.get? a=some o)(v:o.cls=.type "list")(j:o.data=.seq xs k)(hd:o.dict=none)(C:A.handled=none)
  (h:∀h' tk,(∀b u,s.heap.get? b=some u->h'.get? b=some u)->Q none { s with heap:=h',toks:=tk }):wpAny (model prog w) A (getAttr? (.ref a) "keys") Q E s:=by
 obtain⟨c,r,n,m⟩:=o;simp only at v j hd;subst v j hd;obtain⟨p,g,d,tk,t⟩:=s;have l:∀i,(⟨p,g,d,i,t⟩:Shared).TypeIs (.ref a) "list":=λ_=>⟨_,q,rfl⟩;have D:=sub_AttributeError;have y:=F.slot_list_getattribute.lookup;have B:=F.slot_list_getattribute.bind (.ref a);have H:=am_list_getattr_none;unfold getAttr? getAttrBy? getAttrBy
 repeat (any_goals (first|assumption|exact l _|((with_reducible show wpAny _ _ (call (Value.builtin "list.__getattribute__") _ _) _ _ _);refine call_meets F.slot_list_getattribute (l _) am_entry_list_getattribute (F.args_list_getattribute_2 _ _) (meets_getattribute_miss_list a xs k m "keys" _ aCi (by decide +kernel) (by size_fits)) ⟨q,C,λh' i e f=>?_⟩)|wp_step))
 obtain⟨x,z,G⟩:=f.there;unfold getattributeRaised
 repeat (any_goals (first|assumption|wp_step))
 exact h _ _ f.keeps
end
section
variable {prog:Program}{w:World}{κ:Type}[DecidableEq κ]{knd:KeyKind prog w κ}{A:Around}{E:bF5}{s:Shared}
def xM {t:Addr}{its:Array Value}{y:List (κ × Value)}{Q:bF5}(u:A.handled=none){o:Obj}{n:Nat}(ho:s.heap.get? t=some o)(D:o.cls=.type "list")(R:o.data=.seq its n)(I:o.dict=none)(h:y.length=its.size)(V:its.size<=1000)
  (P:∀(j:Nat) (v:Value) (kv:κ × Value),its[j]?=some v->y[j]?=some kv->tR knd s.heap v kv)
  (q:∀h' tk,h'.DictOf knd s.heap.objs.size (merged [] y)->(∀b o,s.heap.get? b=some o->h'.get? b=some o)->Q (.ref s.heap.objs.size) { s with heap:=h',toks:=tk }) :
  wpAny (model prog w) A (call (.type "dict") [.ref t]) Q E s:=by
 refine callType_codes (Q₁:=λk C=>k=.ref s.heap.objs.size/\C={ s with heap:=s.heap.push { cls:=.type "dict",data:=.dict #[] } }) F.kt_called_dict (F.kt_typeCall_dict_1 _) F.entry_dict_init (kt_code_dict_new _ ⟨rfl,rfl⟩) ?_;rintro k C ⟨rfl,rfl⟩;have a:(s.heap.push { cls:=.type "dict",data:=.dict #[] }).DictOf knd s.heap.objs.size []:=Heap.DictOf.new s.heap;have f:(s.heap.push { cls:=.type "dict",data:=.dict #[] }).get? t=some o:=c7 _ ho;have H:Shared.TypeIs { s with heap:=s.heap.push { cls:=.type "dict",data:=.dict #[] } } (.ref t) "list":=⟨o,f,D⟩;have i:t<s.heap.objs.size:=j9 ho;refine⟨a.typeIs,F.args_dict_init_2 _ _,?_⟩;unfold Builtin.«dict.__init__»;refine b7 ?_;unfold Builtin.Dict.selfAndRest;refine b7 (wpAny_notOrdered_dict a.typeIs ?_);show wpAny _ _ (pure (s.heap.objs.size,[Value.ref t])) _ _ _;refine d7 ?_;show wpAny _ _ (Builtin.Dict.updateFrom "dict.__init__" s.heap.objs.size (.ref t) [] .none) _ _ _;unfold Builtin.Dict.updateFrom;refine b7 (bEU H ?_);rw[if_pos (by decide)];refine b7 (aKe f D R I (by first|exact u|simp[u]) λm K c=>?_);rw[if_pos (show (none:Option Value).isNone=true from rfl)];have B:m.get? t=some o:=c _ _ f;have g:m.IsList t its:=⟨o,B,D,n,R⟩;refine b7 (bDU (b7 (bCO g ?_)));have N:(s.heap.push { cls:=.type "dict",data:=.dict #[] }).objs.size=s.heap.objs.size+1:=bBL ..;have d:s.heap.objs.size<m.objs.size:=by obtain⟨U,_,_,J,_⟩:=id a;exact j9 (c _ _ J)
 refine d7 ⟨bCT cU _,?_⟩;have x:t≠m.objs.size:=v8 (bEV i d);refine aAl (knd:=knd) (Walks.list (by first|exact u|simp[u]) _ t x its) s.heap.objs.size ?_ y h V ?_ its.size 0 _ _ (by lia) ⟨⟨_,j8 _ rfl,rfl,rfl⟩,g.push _⟩ ?_ ?_ λh' tk S z=>?_
 ·simp only[bAN,bAB,or_false,not_or];exact⟨v8 d,bCM i⟩
 ·intro j v e p T;have O:j<y.length:=by rw[h];exact (Array.getElem?_eq_some_iff.mp e).1
  obtain⟨X,G,l,⟨W,r,_⟩,_⟩:=P j v _ e (b8 O);rw[T] at l;cases l;have:=j9 r;simp only[bAN,bAB,or_false,not_or];exact⟨v8 this,v8 (bEV this d)⟩
 ·exact (a.at λo e=>c _ _ e).at λo e=>c7 _ e
 ·intro j v kv e M;exact (P j v kv e M).at λp _ o L=>c7 _ (c _ _ (c7 _ L))
 ·refine⟨rfl,q h' tk z λb o e=>S b o ?_ (c7 _ (c _ _ (c7 _ e)))⟩;have:=j9 e;simp only[bAN,bAB,or_false,not_or];exact⟨v8 this,v8 (bEV this d)⟩
end
end PySem
namespace L2
open PySem PySem.Spec PyProof.Rows
section
variable {X:Cx}
def bCb (K:bF4):List V->Hp->VK->Prop:=λxs H Q=>∃t us kvs,xs=[.ref t]/\H t=some (.lst us)/\aSy K H us kvs/\us.length<=1000/\∀p H',H p=none->Same H H'->H' p=some (.dK (lU [] kvs))->Q (.ref p) H'
def aMo (M:X.calm=true):cH X (.type "dict") (bCb X.K):=by intro l s σ H L g Q I r h;obtain⟨t,g,a,rfl,f,z,E,q⟩:=h;obtain⟨u,rfl,p⟩:=vals1 r;cases p;obtain⟨J,m,n,d,w⟩:=I.hok t _ f;have G:=d.length;obtain⟨F,c,k,o⟩:=aZ5 I z d;have D:=KV.length c;refine xM (I.ok.hd M) w rfl rfl rfl (by rw[d9];exact k) (by rw[d9];lia) (λj v A e y=>o j v A (by simpa using e) y) λC x hd B=>?_;have b:=I.hok.fresh (d8 _);refine⟨.ref s.heap.objs.size,_,I.laid (t':=x) B (d8 _) ?_,rfl,q _ _ b (aW b _) aF⟩;have i:=lQ a [];simp only[bBS] at i;exact⟨small (by lia),beq_eq_false_iff_ne.mpr (Ne.symm (v8 I.big)),_,KV.merge c .nil,hd⟩
end
end L2
namespace My
open PySem PySem.Spec PyProof.Rows L2
section
variable {P:Program}{w:World}{K:bF4}{mg:bF7}{base:Heap}
def aZl (k:Str):Bool:=decide (k = "number")
def knds (hd:Hdr):List Bool:=hd.map λc=>aZl c.2
def aKv (h:X.K=K:=by rfl):cH X (.builtin "sorted") (aL8 K):=by subst h;exact dU
def aIk (h:X.K=K:=by rfl):cH X (.type "list") (aTk K):=by subst h;exact oV
theorem none_of (e:Same H H')(h:H' D=none):H D=none:=by
 cases g:H D with
 |none=>rfl
 |some o=>rw[e _ _ g] at h;cases h
def But (d:Addr)(H H':Hp):Prop:=∀b o,b≠d->H b=some o->H' b=some o
section
variable {K:bF4}{H H':Hp}{d:Addr}{kvs:List (Key × V)}
def eU (H:Hp)(d:Addr):Prop:=(∀xs,H d≠some (.tup xs))/\(∀ob xs,H d≠some (.frz ob (.tup xs)))/\∀xs,H d≠some (.lst xs)
theorem eU.dK (h:H d=some (.dK kvs)):eU H d:=⟨λ_ z=>(by rw[h] at z;cases z),λ_ _ z=>(by rw[h] at z;cases z),λ_ z=>(by rw[h] at z;cases z)⟩
def eU.fz (h:H d=some (.frz o (.dK kvs))):eU H d:=⟨λ_ z=>(by rw[h] at z;cases z),λ_ _ z=>(by rw[h] at z;cases z),λ_ z=>(by rw[h] at z;cases z)⟩
def But.aR (b:But d H H')(hd:eU H d)(h:SqT K H a xs):SqT K H' a xs:=by
 rcases h with (h|⟨o,h⟩)|h
 ·exact .inl (.inl (b _ _ (λz=>hd.1 _ (z ▸ h)) h))
 ·exact .inl (.inr ⟨o,b _ _ (λz=>hd.2.1 _ _ (z ▸ h)) h⟩)
 ·exact .inr h
theorem But.lst (b:But d H H')(hd:eU H d)(h:H a=some (.lst xs)):H' a=some (.lst xs):=b _ _ (λz=>hd.2.2 _ (z ▸ h)) h
def But.hdr (b:But d H H')(hd:eU H d)(h:jH K H v hr):jH K H' v hr:=by obtain⟨a,c,rfl,f,g⟩:=h;exact⟨a,c,rfl,b.aR hd f,g.imp λ_ _ ⟨p,e,i⟩=>⟨p,e,b.aR hd i⟩⟩
theorem But.pl {v:V}{pl:Plc}(b:But d H H')(hd:eU H d)(h:nA K H v pl):nA K H' v pl:=by
 cases pl with
 |copies=>obtain⟨a,rfl,f⟩:=h;exact⟨a,rfl,b.aR hd f⟩
 |keys n=>obtain⟨a,rfl,f⟩:=h;exact⟨a,rfl,b.aR hd f⟩
 |spans n h0 cs=>obtain⟨a,l,rfl,f,⟨c,g,rfl,i,j⟩⟩:=h;exact⟨a,_,rfl,b.aR hd f,c,g,rfl,b.aR hd i,j.imp λ_ _ ⟨p,e,k⟩=>⟨p,e,b.aR hd k⟩⟩
def But.rows (b:But d H H')(hd:eU H d)(h:bW K H L rs):bW K H' L rs:=by obtain⟨g,f,a⟩:=h;exact⟨g,b.lst hd f,a.imp λ_ _ ⟨p,e,c⟩=>⟨p,e,b.aR hd c⟩⟩
def But.tb (b:But d H H')(hd:eU H d)(h:lC K H v vh vp L t):lC K H' v vh vp L t:=by obtain⟨a,rfl,g,f,c,e⟩:=h;exact⟨a,rfl,b.aR hd g,b.hdr hd f,b.pl hd c,b.rows hd e⟩
theorem But.upd:But d H (L2.upd H d u):=λb o a h=>by rw[aK a];exact h
def But.same (b:But d H H')(s:Same H' H2):But d H H2:=λc o a h=>s _ _ (b c o a h)
def But.thaw (b:But d H H2)(hd:H d=some (.dK kvs)):Same H (L2.upd H2 d (.dK kvs)):=λc o h=>by
 by_cases e:c=d
 ·rw[e,aF,<-hd,<-e];exact h
 ·rw[aK e];exact b c o e h
end
structure En where
 n:Str
 v:V
 vh:V
 vp:V
 L:Addr
 t:Tb
def enK (es:List En):List (Key × V):=es.map λe=>(Sum.inr e.n,e.v)
structure jZ (K:bF4)(H:Hp)(d:Addr)(es:List En):Prop where
 at_:H d=some (.dK (enK es))
 nd:(es.map (·.n)).Nodup
 few:es.length<=60
 nm:∀e∈es,Nm e.n
 tb:∀e∈es,lC K H e.v e.vh e.vp e.L e.t
theorem lC.same (s:Same H H')(h:lC K H v vh vp L t):lC K H' v vh vp L t:=by obtain⟨a,rfl,e,d,b,c⟩:=h;exact⟨a,rfl,s.aR e,d.same s,b.same s,c.same s⟩
theorem jZ.same (s:Same H H')(h:jZ K H d es):jZ K H' d es:=⟨s _ _ h.at_,h.nd,h.few,h.nm,λe a=>(h.tb e a).same s⟩
def aT0 {es:List En}{i:Nat}{kv:Key × V}(h:(enK es)[i]?=some kv):∃e,es[i]?=some e/\kv=(Sum.inr e.n,e.v):=by unfold enK at h;rw[v7] at h;obtain⟨e,a,rfl⟩:=Option.map_eq_some_iff.mp h;exact⟨e,a,rfl⟩
def aPe:∀kv∈enK es,∃n,kv.1=Sum.inr n:=λkv h=>by unfold enK at h;obtain⟨e,_,rfl⟩:=List.mem_map.mp h;exact⟨_,rfl⟩
def vK:(enK es).length=es.length:=j6 _
inductive aPl (K:bF4)(Pt:Addr)(vs:List V)(H:Hp)(Q:VK)(E_:XK):Prop
 |mk (d:Addr) (m:Int) (es:List En) (_:vs=[.int m,.ref d]) (_:1<=m) (_:m<=6) (_:jZ K H d es) (_:(∀e∈es,jC m e.t)) (_:H Pt=some (.tab qC)) (_:∀H',Same H H'->Q .non H')
def aG4 (T:Txt w K mg){Pt:Addr}(dO:Ok P w K mg base 1 "is_whole" o4 (mO K))(iK:Ok P w K mg base 2 "is_name" o4 (aD8 K nameB))(W:Ok P w K mg base 8 "is_table" bQK (aZs K Pt)):Ok P w K mg base 9 "need_town" u6 (aPl K Pt):=by
 refine Ok.ofV T.aK0 uT (by trivial) (λf N A C s H vs Q E hr h=>?_)
 obtain⟨d,m,g,rfl,Y,O,b,r,y,q⟩:=h;have Z:=uT.nd;refine⟨_,(aB (bM (VW.pt (fJ (cD (bU (aV dO (va1 (vv 0))))) (fJ (cD (aA5 aB1 aB1 aA (vv 0) (tD (by rfl) T.aDw))) (eG (cD (bU (aL aKj (by rfl) T.bR bN (aH (vv 1) (va1 (fG (v:=.ty "dict") (by rfl) T.aT6 aP7 rfl)))))))))) (aD dX) aU) (aD (aXv (iT PassesOwn.never rfl (aEp (vv 1)) (uB rfl (aX (cQ 2) (aX (cQ 3) eO))) (aD (bM (VW.pt (fJ (cD (bU (aV iK (va1 (vv 2))))) (eG (cD (bU (aV W (aH (vv 3) (va1 (vv 0))))))))) (aD dX) aU)))))),?_⟩;refine⟨_,rfl,_,rfl,.inr (.inl ⟨m,rfl⟩),_,rfl,bY ?_⟩;refine⟨_,rfl,_,_,rfl,rfl,_,rfl,?_⟩;rw[m9 Y];refine eX ⟨_,_,rfl,rfl,_,rfl,?_⟩;rw[m9 O];refine bY ⟨_,rfl,d,_,rfl,b.at_,_,rfl,bY ?_⟩;refine⟨d,enK g,b.at_,λX=>⟨_,rfl,d,_,rfl,b.at_,aPe,X,λo=>?_⟩⟩;have x:Pt≠d:=λz=>by rw[z,b.at_] at y;cases y
 have l:But d H (L2.upd H d (.frz o (.dK (enK g)))):=But.upd;have u:L2.upd H d (.frz o (.dK (enK g))) d=some (.frz o (.dK (enK g))):=aF;generalize L2.upd H d (.frz o (.dK (enK g)))=B at l u ⊢;refine aM9 (λi σ c=>Same B c/\∃D k,σ=[some (.int m),some (.ref d),D,k]) ⟨Same.refl B,_,_,rfl⟩ (λi σ c _ p=>p.1 _ _ u) (λi kv F σ c V p M=>?_) fun σ c p=>?_
 ·obtain⟨e,D,k,rfl⟩:=p;obtain⟨a,S,rfl⟩:=aT0 V;have j:=t8 S;have I:Same c (L2.upd c F (.tup [kV (Sum.inr a.n),a.v])):=aW M _;have R:But d H (L2.upd c F (.tup [kV (Sum.inr a.n),a.v])):=(l.same e).same I;refine⟨F,_,rfl,SqT.of aF,rfl,_,_,rfl,_,_,rfl,rfl,?_⟩;refine⟨_,rfl,_,rfl,(b.nm a j).th,λH2 G=>⟨_,rfl,?_⟩⟩;rw[show nameB (kV (Sum.inr a.n,a.v).fst)=true from b.nm a j];refine bY ?_;have J:=R.same G;refine⟨_,rfl,_,rfl,a.v,a.vh,a.vp,a.L,m,a.t,rfl,J.tb (eU.dK b.at_) (b.tb a j),r a j,J _ _ x y,λH3 U=>⟨_,rfl,bY ?_⟩⟩;exact⟨e.trans (I.trans (G.trans U)),_,_,rfl⟩
 ·obtain⟨e,D,k,rfl⟩:=p;exact⟨⟨o,e _ _ u⟩,q _ ((l.same e).thaw b.at_)⟩
def aBr (e:En)(v:V)(L:Addr):En:={ e with v:=v,L:=L,t:={ e.t with rows:=srt e.t.rows } }
inductive yZ (K:bF4)(Pt:Addr)(vs:List V)(H:Hp)(Q:VK)(E_:XK):Prop
 |mk (d:Addr) (m:Int) (es:List En) (_:vs=[.int m,.ref d]) (_:1<=m) (_:m<=6) (_:jZ K H d es) (_:(∀e∈es,jC m e.t)) (_:H Pt=some (.tab qC)) (_:∀d' H' es',H d'=none->Same H H'->jZ K H' d' es'->cG (λe e'=>∃v L,e'=aBr e v L/\H L=none) es es'->Q (.ref d') H')
theorem bD5 (h:cF kd v):KdV (aZl kd) v:=by
 cases h with
 |num=>exact⟨_,rfl⟩
 |wrd _ _=>exact⟨_,rfl⟩
theorem fK (h:gC hd r):KdR (knds hd) r:=by
 unfold gC at h;unfold KdR knds
 induction h with
 |nil=>exact .nil
 |cons a _ ih=>exact .cons (bD5 a) ih
def jO (h:Good hd):knds hd≠[]:=λz=>by have e:=congrArg List.length z;unfold knds at e;rw[j6] at e;have:=h.2.1;rw[e] at this;exact absurd this (by decide)
theorem cP {α β:Type}{R:α->β->Prop}{as:List α}{bs:List β}(h:cG R as bs):Al2 R as bs:=by
 induction h with
 |nil=>exact .nil
 |cons r _ ih=>exact .cons r ih
theorem iC {α β:Type}{R:α->β->Prop}{as:List α}{bs:List β}(h:Al2 R as bs):cG R as bs:=by
 induction h with
 |nil=>exact .nil
 |cons r _ ih=>exact .cons r ih
def PlR (K:bF4)(H0:Hp)(es:List En)(D:Addr)(i:Nat)(H:Hp)(y:V):Prop:=∃e v L tp,es[i]?=some e/\y=.ref tp/\SqT K H tp [.str e.n,v]/\lC K H v e.vh e.vp L { e.t with rows:=srt e.t.rows }/\L≠D/\H0 L=none
theorem lC.iW (f:H D=some (.lst ys))(q:L≠D)(h:lC K H v vh vp L t):lC K (L2.upd H D (.lst zs)) v vh vp L t:=by
 obtain⟨a,rfl,r,⟨b,l,rfl,x,m⟩,i,⟨o,u,s⟩⟩:=h;refine⟨a,rfl,SqT.iW f r,⟨b,l,rfl,SqT.iW f x,m.imp λ_ _ ⟨p,e,j⟩=>⟨p,e,SqT.iW f j⟩⟩,?_,⟨o,by rw[aK q];exact u,s.imp λ_ _ ⟨p,e,j⟩=>⟨p,e,SqT.iW f j⟩⟩⟩;cases g:t.pl with
 |copies=>rw[g] at i;obtain⟨k,rfl,d⟩:=i;exact⟨k,rfl,SqT.iW f d⟩
 |keys n=>rw[g] at i;obtain⟨k,rfl,d⟩:=i;exact⟨k,rfl,SqT.iW f d⟩
 |spans n h0 cs=>rw[g] at i;obtain⟨k,y,rfl,d,⟨c,l,rfl,w,m⟩⟩:=i;exact⟨k,_,rfl,SqT.iW f d,c,l,rfl,SqT.iW f w,m.imp λ_ _ ⟨p,e,j⟩=>⟨p,e,SqT.iW f j⟩⟩
theorem aOp:∀{es:List En} {ys:List V},ys.length=es.length->(∀i y,ys[i]?=some y->PlR K H0 es D i H y) ->
  ∃es',cG (λe e'=>∃v L,e'=aBr e v L/\H0 L=none) es es'/\cG (λy e'=>∃tp,y=.ref tp/\SqT K H tp [.str e'.n,e'.v]) ys es'/\∀e'∈es',lC K H e'.v e'.vh e'.vp e'.L e'.t
 |[],[],_,_=>⟨[],.nil,.nil,λe h=>by cases h⟩
 |en::es,y::ys,hl,h=>by
  obtain⟨es',d,f,c⟩:=aOp (Nat.succ.inj hl) λi y k=>by obtain⟨e,v,L,tp,a,r⟩:=h (i+1) y (by simpa using k);exact⟨e,v,L,tp,by simpa using a,r⟩
  obtain⟨e,v,L,tp,a,rfl,b,j,_,g⟩:=h 0 y rfl;cases a;refine⟨aBr en v L::es',.cons ⟨v,L,rfl,g⟩ d,.cons ⟨tp,rfl,b⟩ f,λe' h'=>?_⟩;rcases List.mem_cons.mp h' with rfl|h'
  ·exact j
  ·exact c e' h'
theorem bB9 (h:cG (λy (e':En)=>∃tp,y=.ref tp/\SqT K H tp [.str e'.n,e'.v]) ys es'):aSy K H ys (enK es'):=by
 unfold enK
 induction h with
 |nil=>exact .nil
 |cons r _ ih=>exact .cons r ih
theorem aJb {H0:Hp}{es es':List En}(h:cG (λe e'=>∃v L,e'=aBr e v L/\H0 L=none) es es'):es'.map (·.n)=es.map (·.n):=by
 induction h with
 |nil=>rfl
 |cons r _ ih=>obtain⟨v,L,rfl,_⟩:=r;rw[bAL,bAL,ih];rfl
def xX (T:Txt w K mg){Pt:Addr}(ab:Ok P w K mg base 9 "need_town" u6 (aPl K Pt)):Ok P w K mg base 10 "placed_tables" u6 (yZ K Pt):=by
 refine Ok.ofV T.aAm yV (by trivial) (λf ac A a9 s H vs Q E hr h=>?_)
 obtain⟨d,m,c,rfl,m1,m6,J,Z,hP,q⟩:=h;refine⟨_,(aB (dJ (aV ab (aH (vv 0) (va1 (vv 1))))) (aD (aJ (cC (aMo rfl) (by rfl) T.aT6 aP7 (va1 (aX4 (cI (N:=["name","table"]) (by trivial) (jV (by decide +kernel)) rfl (aEp (vv 1)) (λcl s' l fp=>⟨(rK (K:=K) (n:=2) rfl (aX (bJ (i:=0) (show (["name","table"]:List Str).Nodup from by decide +kernel) rfl (Or.inl rfl)) (aX (bJ (i:=1) (show (["name","table"]:List Str).Nodup from by decide +kernel) rfl (Or.inl rfl)) eO))),fW,(cN (aH (vv 0) (va1 (cN (aH (aO (bL (K:=K)) (vv 1) aA) (aH (aO (bL (K:=K)) (vv 1) aA) (va1 (aL (aKv (K:=K)) (by rfl) T.dY dB (va1 (aO (bL (K:=K)) (vv 1) aA))))))))))⟩)))))))),?_⟩;refine⟨_,rfl,_,rfl,d,m,c,rfl,m1,m6,J,Z,hP,λC V=>?_⟩;have g:=J.same V;dsimp only[rA,tCB,dH];refine⟨d,enK c,g.at_,λnf=>aS7 [none,none] rF ⟨_,rfl,d,_,rfl,g.at_,aPe,nf,λo=>?_⟩⟩;have b0:But d C (L2.upd C d (.frz o (.dK (enK c)))):=But.upd;have g0:L2.upd C d (.frz o (.dK (enK c))) d=some (.frz o (.dK (enK c))):=aF;have n0:∀b,L2.upd C d (.frz o (.dK (enK c))) b=none->C b=none:=λb h=>by
  by_cases e:b=d
  ·rw[e,aF] at h;cases h
  ·rw[aK e] at h;exact h
 generalize L2.upd C d (.frz o (.dK (enK c)))=B at b0 g0 n0 ⊢;refine aJe g0 ⟨none,none,rfl⟩ (by rw[vK];have:=J.few;lia) (PlR K H c) ?_ ?_ (λi kv ek l R D ys S hD O r=>?_) λD l ys S hD O ly hy=>?_
 ·rintro D i H2 H3 y Y ⟨e,v,L,u,I,rfl,U,hb,hne⟩;exact⟨e,v,L,u,I,rfl,Y.aR U,hb.same Y,hne⟩
 ·rintro D i H2 ys zs y O ⟨e,v,L,u,I,rfl,U,hb,hne,h0⟩;exact⟨e,v,L,u,I,rfl,SqT.iW O U,hb.iW O hne,hne,h0⟩
 ·obtain⟨M,I,rfl⟩:=aT0 ek;have hm:=t8 I;have j:=Z M hm;obtain⟨a,ev,ha,h1,h2,⟨us,h3,h4⟩⟩:=(b0.same S).tb (eU.dK g.at_) (g.tb M hm);have lu:=h4.len;have ad:=j.few;refine⟨_,rfl,_,rfl,a,_,0,_,ev,rfl,ha,at0 _ _,_,rfl,a,_,1,_,ev,rfl,ha,at1 _ _ _,_,rfl,a,_,2,_,ev,rfl,ha,at2 _ _ _ _,M.L,us,M.t.rows,knds M.t.hd,rfl,SqL.of h3,cP h4,by lia,jO j.hd.1,λr a5=>fK (j.rows r a5),λL' H2 a7 W Y g2 h5=>?_⟩;refine⟨by show 3<=sizeLine;decide,λt1 H3 _ s3 g3=>⟨by show 2<=sizeLine;decide,λt2 H4 _ s4 g4=>r _ H4 (Y.trans (s3.trans s4)) ?_⟩⟩;have G:=Y.trans (s3.trans s4);refine⟨M,.ref t1,L',t2,I,rfl,SqT.of g4,⟨t1,rfl,s4.aR (SqT.of g3),h1.same G,h2.same G,⟨a7,(s3.trans s4) _ _ g2,(iC h5).imp λ_ _ z=>z.same G⟩⟩,λz=>?_,none_of V (n0 _ (none_of S W))⟩;rw[z,O] at W;cases W
 ·rw[vK] at ly;obtain⟨k,a1,a2,a3⟩:=aOp ly hy;have bD:=b0.same S;refine⟨⟨o,S _ _ g0⟩,?_⟩;have nz:eU l d:=eU.fz (S _ _ g0);have bz:But d l (L2.upd l d (.dK (enK c))):=But.upd;have F:Same C (L2.upd l d (.dK (enK c))):=bD.thaw g.at_;have a0:=bz.lst nz O;have X:cG (λy (x:En)=>∃u,y=.ref u/\SqT K (L2.upd l d (.dK (enK c))) u [.str x.n,x.v]) ys k:=a2.imp λy x ⟨u,ey,U⟩=>⟨u,ey,bz.aR nz U⟩;have aa:H D=none:=none_of V (n0 _ hD);generalize L2.upd l d (.dK (enK c))=H5 at bz F a0 X;have le:=a2.len;have la:=a1.len;have fw:=J.few;refine⟨D,ys,enK k,rfl,a0,bB9 X,by lia,λp H6 W s6 g6=>?_⟩;have a4:(k.map (·.n)).Nodup:=by rw[aJb a1];exact J.nd
  have a6:((enK k).map (·.1)).Nodup:=by unfold enK;rw[bDY];exact List.pairwise_map.mpr ((List.pairwise_map.mp a4).imp λ{a b} a8 z=>a8 (Sum.inr.inj z))
  rw[aC7 _ [] (by rw[bEJ];exact a6),bEJ] at g6;refine q p H6 k (none_of V (none_of F W)) (V.trans (F.trans s6)) ⟨g6,a4,by lia,λx h'=>?_,λx h'=>(bz.tb nz (a3 x h')).same s6⟩ a1;have:x.n∈c.map (·.n):=by rw[<-aJb a1];exact bDC h'
  obtain⟨e0,h0,e1⟩:=List.mem_map.mp this;rw[<-e1];exact J.nm e0 h0
end
end My
namespace L2
open PySem PySem.Spec PyProof.Rows
section
variable {X:Cx}{scope:Scope}{N:List Str}{wi:TI}{te:TE}{σ:L2.St}{H:Hp}{Q:VK}
def aC9 (xs:List V)(p:Nat->Bool)(j:L2.St)(hsz:xs.length<=sizeLine)(B:∀H' i x,Same H H'->xs[i]?=some x->J.go i H'/\∀y H2,J.yld i H' y H2->H2=H'/\y=x)(n:∀H',Same H H'->J.stop xs.length H')
  (w:∀(i:Nat) (x:V),xs[i]?=some x->∀H' R l,Same H H'->(∀H2,Same H' H2->R (p i) H2)->tt ((j.set 0 l).set 0 (some x)) H' R) (h:j[0]?=some none)
  (q:∀D H',H D=none->Same H H'->H' D=some (.lst (sel p 0 xs))->Q (.ref D) H'):qN J H j (bO 0) tt (rR 0) Q:=by
 intro D f;refine⟨λi m r H' d=>i<=xs.length/\m=xs.length - i/\(∃l,r=j.set 0 l)/\Same H H'/\H' D=some (.lst d)/\d=sel p 0 (xs.take i),⟨xs.length,bAC _,rfl,⟨none,jQ h⟩,aW f _,aF,rfl⟩,?_⟩;rintro i m r H' d ⟨hi,rfl,⟨l,rfl⟩,sm,hL,rfl⟩;refine⟨hL,?_⟩;by_cases a:i<xs.length
 ·right;obtain⟨u,s⟩:=B H' i xs[i] sm (b8 a);refine⟨u,λx H2 v=>?_⟩;obtain⟨rfl,rfl⟩:=s x H2 v;unfold bO;dsimp only;have t:0<j.length:=by
   by_cases z:0<j.length
   ·exact z
   ·rw[bAA (by lia)] at h;cases h
  have g:sel p 0 (xs.take (i+1))=sel p 0 (xs.take i)++(if p i then [xs[i]] else []):=by rw[bBP,b8 a];show sel p 0 (xs.take i++[xs[i]])=_;rw[aCy,bAI,bDN,Nat.min_eq_left (bDI a)]
  refine w i xs[i] (b8 a) _ _ l sm λA c=>?_;cases k:p i with
  |true=>
   rw[if_pos rfl];refine⟨xs[i],by rw[bCD,bES t],c _ _ hL,?_,xs.length - (i+1),by lia,a,rfl,⟨some xs[i],by rw[bCD]⟩,?_,aF,?_⟩
   ·have:=aGu p 0 (xs.take i);rw[bAI] at this;lia
   ·intro b o e;rw[aK (aQ e f)];exact c _ _ (sm _ _ e)
   ·rw[g,k];rfl
  |false=>rw[if_neg (by simp)];refine⟨c _ _ hL,xs.length - (i+1),by lia,a,rfl,⟨some xs[i],by rw[bCD]⟩,sm.trans c,c _ _ hL,?_⟩;rw[g,k];simp
 ·left;have e:i=xs.length:=by lia
  subst e;refine⟨n _ sm,?_⟩;rw[bCW] at hL;exact q D _ f sm hL
def aEm (xs:List V)(p:Nat->Bool)(b:L2.St)(c:Cap X scope N σ b)(a:xs.length<=sizeLine)
  (f:∀R:It->Hp->Prop,(∀J:It,(∀H' i x,Same H H'->xs[i]?=some x->J.go i H'/\∀y H2,J.yld i H' y H2->H2=H'/\y=x)->(∀H',Same H H'->J.stop xs.length H')->R J H)->wi σ H R)
  (d:∀(i:Nat) (x:V),xs[i]?=some x->∀H' R l,Same H H'->(∀H2,Same H' H2->R (p i) H2)->tt ((b.set 0 l).set 0 (some x)) H' R) (e:b[0]?=some none)
  (q:∀D H',H D=none->Same H H'->H' D=some (.lst (sel p 0 xs))->Q (.ref D) H') :
  jA X scope N wi (bO 0) tt (rR 0) σ H Q:=
 ⟨b,c,f _ λJ go stop=>aC9 xs p b a go stop d e q⟩
end
end L2
namespace My
open PySem PySem.Spec PyProof.Rows L2
section
variable {P:Program}{w:World}{K:bF4}{mg:bF7}{base:Heap}
section
variable {X:Cx}
def bA9:R2:=λx y H Q=>(∃a b,x=.int a/\y=.int b/\Q (.bl (!decide (b<a))) H)\/∃a b:Str,x=.str a/\y=.str b/\Q (.bl (!decide (b.cps.toList<a.cps.toList))) H
theorem aV3:OpR X (compareOp .LtE) bA9:=by
 intro f s σ H x y v u Q I c d h;rcases h with⟨a,b,rfl,rfl,q⟩|⟨a,b,rfl,rfl,q⟩
 ·obtain⟨t,rfl⟩:=c;obtain⟨e,rfl⟩:=d;refine PyProof.Rows.le_int ?_;rw[show decide (a<=b)=!decide (b<a) by by_cases h:b<a <;> simp[h] <;> lia];exact⟨.bl _,H,I,rfl,q⟩
 ·obtain⟨t,rfl⟩:=c;obtain⟨e,rfl⟩:=d;exact P.le_str ⟨.bl _,H,I,rfl,q⟩
end
def aRk (d:Gl X "range")(f:X.mg "range"=none)(g:VA X [a,b] t)(e:cL a=true:=by rfl)(c:cL b=true:=by rfl):VI X tg (.Call (.Name "range" p) [a,b] [] pos) (aZu t):=⟨aQg d f g.1 (by rw[aM e,aM c];rfl) (by rw[aM c];rfl)⟩
inductive nJ (K:bF4)(vs:List V)(H:Hp)(Q:VK)(E_:XK):Prop
 |mk (d:Addr) (es:List En) (e:En) (_:vs=[.ref d,.str e.n]) (_:jZ K H d es) (_:e∈es) (_:∀H',Same H H'->Q e.v H')
theorem aGf:∀{es:List En} {e:En},(es.map (·.n)).Nodup->e∈es->nO (enK es) (Sum.inr e.n)=some e.v
 |[],e,nd,h=>by cases h
 |a::es,e,nd,h=>by
  rw[bAL,bFN] at nd;rcases List.mem_cons.mp h with rfl|h
  ·exact mK rfl
  ·have:a.n≠e.n:=λz=>nd.1 (z ▸ bDC h);show nO ((Sum.inr a.n,a.v)::enK es) (Sum.inr e.n)=_;rw[xF (λz=>this (Sum.inr.inj z))];exact aGf nd.2 h
def aIs (T:Txt w K mg)(o:Ok P w K mg base 2 "is_name" o4 (aD8 K nameB)):Ok P w K mg base 3 "table_in" o5 (nJ K):=by
 refine Ok.ofV T.aN9 aJr (by trivial) (λf l A c s H p Q E k h=>?_)
 obtain⟨d,r,e,rfl,a,g,q⟩:=h;have j:=pA k;refine⟨_,(aB (bM (VW.pt (fJ (cD (bU (aV o (va1 (vv 1))))) (eG (aE8 j (vv 1) (vv 0))))) (aD dX) aU) (aD (aJ (aAv j (vv 0) (vv 1) (λ_ _=>rfl))))),?_⟩;refine⟨_,rfl,_,rfl,(a.nm e g).th,λm b=>⟨_,rfl,?_⟩⟩;rw[show nameB (.str e.n)=true from a.nm e g];refine bY ?_;have i:=aGf a.nd g;refine⟨_,rfl,_,rfl,d,_,rfl,.inl ⟨_,Sum.inr e.n,.inl (b _ _ a.at_),rfl,rfl⟩,_,rfl,?_⟩;rw[i];refine bY ?_;exact⟨_,rfl,_,rfl,d,e.v,rfl,.inl ⟨_,Sum.inr e.n,.inl (b _ _ a.at_),rfl,i.symm⟩,q m b⟩
theorem bA3 (d:cF kd a)(c:cF kd b)(q:Q (.bl (!vlt b a)) H):bA9 a b H Q:=by
 cases d with
 |num=>cases c;exact .inl ⟨_,_,rfl,rfl,q⟩
 |wrd _ _=>cases c;exact .inr ⟨_,_,rfl,rfl,q⟩
def iH (v:V):List (V × Int)->Nat->Nat->Nat
 |[],_,n=>n
 |c::t,p,n=>iH v t (p+1) (if vlt v c.1=true then n else p)
theorem yG (v:V):∀(l:List (V × Int)) (c:V × Int) (p n:Nat),iH v (l++[c]) p n=if vlt v c.1=true then iH v l p n else p+l.length
 |[],c,p,n=>by show (if _ then _ else _)=_;rfl
 |a::l,c,p,n=>by
  show iH v (l++[c]) (p+1) _=_;rw[yG v l c];show (if _ then iH v l (p+1) _ else p+1+l.length)=if _ then iH v l (p+1) _ else p+(l.length+1)
  rw[show p+1+l.length=p+(l.length+1) by lia]
theorem aPq (v:V)(l:List (V × Int)):iH v l 1 0<=l.length:=by
 suffices ∀l p n,n<=p+l.length - 1\/n=0->iH v l p n<=p+l.length - 1\/iH v l p n=0 by rcases this l 1 0 (.inr rfl) with h|h <;> lia
 intro l
 induction l with
 |nil=>intro p n h;exact h
 |cons c t ih=>
  intro p n h;have:=ih (p+1) (if vlt v c.1=true then n else p) (by
   rw[m8] at h
   split
   ·rcases h with h|h
    ·left;lia
    ·right;exact h
   ·left;lia)
  rw[m8];rcases this with h|h
  ·left;show iH v t (p+1) _<=_;lia
  ·right;exact h
inductive aBd (K:bF4)(vs:List V)(H:Hp)(Q:VK)(E_:XK):Prop
 |mk (vc v:V) (kd:Str) (h0:Int) (cs:List (V × Int)) (_:vs=[vc,v]) (_:lY K H (fM K H) vc ((.non,h0)::cs)) (_:cs.length<=7) (_:cF kd v) (_:(∀c∈cs,cF kd c.1)) (_:Q (.int (iH v cs 1 0:Nat)) H)
def aRq (T:Txt w K mg):Ok P w K mg base 1 "cut_of" ["cuts","value"] (aBd K):=by
 refine Ok.ofV T.aT8 aEu (by trivial) (λf F A x s H U Q E M h=>?_)
 obtain⟨V,v,J,O,d,rfl,⟨a,b,rfl,y,C⟩,R,D,t,q⟩:=h;have L:=aEu.nd;refine⟨_,(aB (aZ 2 aA) (aB (iT PassesOwn.never rfl (aRk (by rfl) T.jM (aH aA (va1 (aL aY (by rfl) T.eZ cW (va1 (vv 0)))))) (cQ 3) (aD (bM (cZ aV3 (aO aP (aO aP (vv 0) (vv 3)) aA) (vv 1)) (aD (aZ 2 (vv 3))) aU))) (aD (aJ (vv 2))))),?_⟩;have I:=C.len;rw[m8] at I;have N:b.length<=8:=by lia
 refine⟨_,rfl,_,_,rfl,.inr y,1,b.length,rfl,⟨by decide,by decide,by lia,by lia⟩,?_⟩;rw[show ((b.length:Int) - 1).toNat=d.length by lia];refine iR (λi σ k=>k=H/\∃l,σ=[some (.ref a),some v,some (.int (iH v (d.take i) 1 0:Nat)),l]) ⟨rfl,_,rfl⟩ (λi σ k S p=>?_) fun σ k p=>?_
 ·obtain⟨rfl,l,rfl⟩:=p;have g:i+1<b.length:=by lia
  obtain⟨c,u,z,m,n⟩:=cA C (b8 g);rw[List.getElem?_cons_succ] at u;have e:atI b (1+(i:Int))=some (.ref z):=by rw[show (1+(i:Int))=((i+1:Nat):Int) by lia,<-m];exact bH (b8 g)
  have r:=t c (t8 u);have G:d.take (i+1)=d.take i++[c]:=by rw[bBP,u];rfl
  have o:(d.take i).length=i:=by rw[bAI];lia
  refine⟨_,rfl,_,rfl,a,b,_,_,rfl,rfl,y,e,z,_,0,_,rfl,rfl,n,at0 _ _,_,rfl,bA3 r D ⟨_,rfl,?_⟩⟩;have j:=yG v (d.take i) c 1 0;rw[<-G,o] at j;cases B:vlt v c.1 with
  |true=>rw[B,if_pos rfl] at j;exact bY ⟨rfl,some (.int (1+(i:Int))),by rw[j];rfl⟩
  |false=>rw[B,if_neg v5] at j;refine eX ⟨_,rfl,rfl,some (.int (1+(i:Int))),?_⟩;rw[j,show (((1+i:Nat)):Int)=1+(i:Int) by lia];rfl
 ·obtain⟨rfl,l,rfl⟩:=p;rw[bAW (d8 _)];exact⟨_,rfl,q⟩
def bZ (hd:Hdr)(m:Int)(r:List V)(house:Int):Plc->Bool
 |.copies=>true
 |.keys n=>decide (nm (r.getD (plc hd n) .non) % m=house)
 |.spans n h0 cs=>decide ((((.non,h0)::cs).map (·.2)).getD (iH (r.getD (plc hd n) .non) cs 1 0) 0=house)
inductive aFq (K:bF4)(vs:List V)(H:Hp)(Q:VK)(E_:XK):Prop
 |mk (vh vp vr:V) (house m:Int) (hd:Hdr) (pl:Plc) (r:List V) (_:vs=[vh,vp,vr,.int house,.int m]) (_:jH K H vh hd) (_:aRl hd) (_:nA K H vp pl) (_:aX0 hd m pl) (_:cM K H vr r) (_:gC hd r) (_:0<m) (_:∀H',Same H H'->Q (.bl (bZ hd m r house pl)) H')
def aJ6 (h:gC hd r)(d:look hd n=some k):∃v,r[plc hd n]?=some v/\r.getD (plc hd n) .non=v/\cF k v:=by obtain⟨b,_⟩:=aHs d;obtain⟨v,a,c⟩:=cA h b;exact⟨v,a,by rw[j4,a];rfl,c⟩
theorem aHd (T:Txt w K mg)(tU:Ok P w K mg base 2 "place_of" bQJ (mG K))(a1:Ok P w K mg base 2 "home" ["value","houses"] aPf)(a0:Ok P w K mg base 1 "cut_of" ["cuts","value"] (aBd K)):Ok P w K mg base 3 "stands_at" ["head","placing","row","house","houses"] (aFq K):=by
 refine Ok.ofV T.aLs vH (by trivial) (λf Z A N s H vs Q E hr h=>?_)
 obtain⟨S,vp,vr,b,m,hd,pl,r,rfl,U,C,j,i,⟨R,rfl,u⟩,p,m0,q⟩:=h;have l8:=C.1.2.2;have nd:=vH.nd;refine⟨_,(aB (bM (cZ dN (aO aP (vv 1) aA) bB) (aD (aJ fP)) aU) (aB (aZ 5 (aO aP (vv 2) (aV tU (aH (vv 0) (va1 (aO aP (vv 1) aA)))))) (aB (bM (cZ dN (aO aP (vv 1) aA) bB) (aD (aJ (vL dN (aV a1 (aH (vv 5) (va1 (vv 4)))) (vv 3)))) aU) (aB (aZ 6 (aO aP (vv 1) aA)) (aD (aJ (vL dN (aO aP (aO aP (vv 6) (aV a0 (aH (vv 6) (va1 (vv 5))))) aA) (vv 3)))))))),?_⟩;cases pl with
 |copies=>obtain⟨a,rfl,d⟩:=j;exact⟨_,rfl,a,_,0,_,rfl,rfl,d,at0 _ _,rfl,_,rfl,eX (q H (Same.refl H))⟩
 |keys n=>
  obtain⟨a,rfl,d⟩:=j;obtain⟨hn,k,o⟩:=i;obtain⟨v,L,I,l⟩:=aJ6 p o;refine⟨_,rfl,a,_,0,_,rfl,rfl,d,at0 _ _,rfl,_,rfl,dI (by decide +kernel) ?_⟩;refine⟨_,rfl,_,rfl,_,rfl,a,_,1,_,rfl,rfl,d,at1 _ _ _,S,n,hd,k,rfl,U,by lia,o,λJ g=>?_⟩;refine⟨R,r,_,v,rfl,rfl,g.aR u,bH L,?_⟩;refine⟨_,rfl,a,_,0,_,rfl,rfl,g.aR d,at0 _ _,rfl,_,rfl,iZ (by decide +kernel) ?_⟩;refine⟨_,rfl,_,rfl,v,m,rfl,zB l,m0,_,rfl,rfl,?_⟩;have e:decide (V.int (nm v % m)=V.int b)=bZ hd m r b (.keys n):=by show _=decide (nm (r.getD (plc hd n) .non) % m=b);rw[I];exact decide_eq_decide.mpr ⟨λz=>V.int.inj z,λz=>congrArg V.int z⟩
  rw[e];exact q J g
 |spans n h0 cs=>
  obtain⟨a,vc,rfl,d,M⟩:=j;obtain⟨hn,k,o,a2,t⟩:=i;obtain⟨v,L,I,l⟩:=aJ6 p o;refine⟨_,rfl,a,_,0,_,rfl,rfl,d,at0 _ _,rfl,_,rfl,dI (by decide +kernel) ?_⟩;refine⟨_,rfl,_,rfl,_,rfl,a,_,1,_,rfl,rfl,d,at1 _ _ _,S,n,hd,k,rfl,U,by lia,o,λJ g=>?_⟩;refine⟨R,r,_,v,rfl,rfl,g.aR u,bH L,?_⟩;refine⟨_,rfl,a,_,0,_,rfl,rfl,g.aR d,at0 _ _,rfl,_,rfl,dI (by decide +kernel) ?_⟩;refine⟨_,rfl,a,_,2,_,rfl,rfl,g.aR d,at2 _ _ _ _,?_⟩;have y:=lY.same g (λ_ _ z=>z.same g) M;obtain⟨W,B,ec,D,x⟩:=id y;subst ec;have lu:=x.len;rw[m8] at lu;have Y:=aPq v cs;obtain⟨c,O,X,F,G⟩:=cA x (b8 (show iH v cs 1 0<B.length by lia));refine⟨_,rfl,_,rfl,_,rfl,.ref W,v,k,h0,cs,rfl,y,t.few,l,λc M=>(t.each c M).1,W,B,_,.ref X,rfl,rfl,D,bH (by rw[b8 (show iH v cs 1 0<B.length by lia),F]),X,_,1,_,rfl,rfl,G,at1 _ _ _,_,rfl,rfl,?_⟩;have e:decide (V.int c.2=V.int b)=bZ hd m r b (.spans n h0 cs):=by show _=decide ((((.non,h0)::cs).map (·.2)).getD (iH (r.getD (plc hd n) .non) cs 1 0) 0=b);rw[I,j4,v7,O];exact decide_eq_decide.mpr ⟨λz=>V.int.inj z,λz=>congrArg V.int z⟩
  rw[e];exact q J g
theorem kY {α:Type}{p:Nat->Bool}{p':α->Bool}:∀{k:Nat} {xs:List α},(∀(i:Nat) (x:α),xs[i]?=some x->p (k+i)=p' x)->sel p k xs=xs.filter p'
 |_,[],_=>rfl
 |k,x::r,h=>by have a:=h 0 x rfl;rw[Nat.add_zero] at a;show (if p k then x::sel p (k+1) r else sel p (k+1) r)=_;rw[bDG,a,kY (k:=k+1) (xs:=r) λi y e=>by rw[show k+1+i=k+(i+1) by lia];exact h (i+1) y (by simpa using e)]
theorem aCo {α β:Type}{R:α->β->Prop}{p:Nat->Bool}{as:List α}{c:List β}(h:cG R as c):∀k,cG R (sel p k as) (sel p k c):=by
 induction h with
 |nil=>exact λ_=>.nil
 |@cons a b as c r _ ih=>
  intro k;show cG R (if p k then a::sel p (k+1) as else sel p (k+1) as) (if p k then b::sel p (k+1) c else sel p (k+1) c)
  split
  ·exact .cons r (ih _)
  ·exact ih _
def aAx (i j k:Nat)(l:(y,NameKind.free)∈scope.names)(p:(z,NameKind.free)∈scope.names)(d:(y3,NameKind.free)∈scope.names)(hi:X.N[i]?=some y)(h:X.N[j]?=some z)(g:X.N[k]?=some y3)(s:σ[i]?=some (some u))(f:σ[j]?=some (some v))(c:σ[k]?=some (some u3))(o:Vis X.env.scope y)(m:Vis X.env.scope z)(e:Vis X.env.scope y3):Cap X scope [x,y,z,y3] σ [none,some u,some v,some u3]:=
 ⟨rfl,λn q r b a=>by
  match n,b,a with
  |0,_,a=>cases a
  |1,b,a=>cases b;cases a;exact⟨l,i,hi,s,o⟩
  |2,b,a=>cases b;cases a;exact⟨p,j,h,f,m⟩
  |3,b,a=>cases b;cases a;exact⟨d,k,g,c,e⟩
  |n+4,b,_=>cases b⟩
inductive xJ (K:bF4)(vs:List V)(H:Hp)(Q:VK)(E_:XK):Prop
 |mk (v vh vp:V) (L:Addr) (t:Tb) (house m:Int) (_:vs=[v,.int house,.int m]) (_:lC K H v vh vp L t) (_:jC m t) (_:0<=house) (_:house<m) (_:∀D' H',H D'=none->Same H H'->bW K H' D' (t.rows.filter λr=>bZ t.hd m r house t.pl)->Q (.ref D') H')
def aMx (T:Txt w K mg)(cR:Ok P w K mg base 2 "is_number_below" ["thing","many"] wB)(V:Ok P w K mg base 3 "stands_at" ["head","placing","row","house","houses"] (aFq K)):Ok P w K mg base 4 "rows_at" bQH (xJ K):=by
 refine Ok.ofV T.aR8 aNi (by trivial) (λf G A y s H vs Q E hr h=>?_)
 obtain⟨v,W,vp,L,t,b,m,rfl,F,j,Y,S,q⟩:=h;refine⟨_,(aB (bM (cD (bU (aV cR (aH (vv 1) (va1 (vv 2)))))) (aD dX) aU) (aD (aJ (cI (N:=["row","house","houses","table"]) (by trivial) (eE (aC yW) rfl (by decide +kernel)) rfl (eQ (aO (bL (K:=K)) (vv 0) aA)) (λcl s' g fp=>⟨(bJ (i:=0) (show (["row","house","houses","table"]:List Str).Nodup from by decide +kernel) rfl (Or.inl rfl)),(lZ (bU (aV V (aH (aO (bL (K:=K)) (vv 3) aA) (aH (aO (bL (K:=K)) (vv 3) aA) (aH (vv 0) (aH (vv 1) (va1 (vv 2))))))))),(vv 0)⟩))))),?_⟩;refine⟨_,rfl,_,rfl,b,m,rfl,_,rfl,?_⟩;rw[m9 Y,m9 S];refine bY ?_;obtain⟨a,rfl,k,hI,p,⟨D,U,z⟩⟩:=F;have lu:=z.len;have fw:=j.few;have Z:0<m:=by lia
 refine aEm D (λi=>bZ t.hd m (t.rows.getD i []) b t.pl) [none,some (.int b),some (.int m),some (.ref a)] ?_ (small (by lia)) (λR r=>aOh (λg c=>SqL.of (c _ _ U)) (λR' X=>⟨_,rfl,a,_,2,_,rfl,rfl,k,at2 _ _ _ _,X⟩) R r) (λi u ex g R l c B=>?_) rfl λJ g I c o=>?_
 ·exact aAx 1 2 0 (by decide +kernel) (by decide +kernel) (by decide +kernel) rfl rfl rfl rfl rfl rfl (by trivial) (by trivial) (by trivial)
 ·obtain⟨r,d,n⟩:=cA z ex;have x:=j.rows r (t8 d);have C:t.rows.getD i []=r:=by rw[j4,d];rfl
  rw[C] at B;refine⟨_,rfl,a,_,0,_,rfl,rfl,c.aR k,at0 _ _,_,rfl,a,_,1,_,rfl,rfl,c.aR k,at1 _ _ _,_,rfl,_,rfl,_,rfl,W,vp,u,b,m,t.hd,t.pl,r,rfl,hI.same c,j.hd,p.same c,j.pl,n.same c,x,Z,λO M=>⟨_,rfl,B O M⟩⟩
 ·refine q J g I c ⟨_,o,?_⟩;have e:(t.rows.filter λr=>bZ t.hd m r b t.pl)=sel (λi=>bZ t.hd m (t.rows.getD i []) b t.pl) 0 t.rows:=(kY λi r d=>by rw[bDN,j4,d];rfl).symm;rw[e];exact (aCo z 0).imp λ_ _ r=>r.same c
def qW (K:bF4)(H:Hp)(C x:Addr)(m:Int)(d:Addr)(es:List En):Prop:=(∃dx,H x=some (.ins C dx [("placed",.ref d),("house_count",.int m)]))/\jZ K H d es/\∀e∈es,jC m e.t
theorem qW.same (s:Same H H')(h:qW K H C x m d es):qW K H' C x m d es:=by obtain⟨⟨e,c⟩,a,b⟩:=h;exact⟨⟨e,s _ _ c⟩,a.same s,b⟩
theorem eU.ins (h:H x=some (.ins C dx fs)):eU H x:=⟨λ_ z=>(by rw[h] at z;cases z),λ_ _ z=>(by rw[h] at z;cases z),λ_ z=>(by rw[h] at z;cases z)⟩
theorem aEi {α β:Type}{R:α->β->Prop}{as:List α}{bs:List β}(h:cG R as bs){b:β}(hb:b∈bs):∃a∈as,R a b:=by
 induction h with
 |nil=>cases hb
 |cons r _ ih=>
  rcases List.mem_cons.mp hb with rfl|hb
  ·exact⟨_,j0,r⟩
  ·obtain⟨a,c,d⟩:=ih hb;exact⟨a,j5 _ c,d⟩
def jC.sorted (h:jC m t):jC m { t with rows:=srt t.rows }:=⟨h.hd,h.pl,by rw[nY];exact h.few,λr a=>h.rows r (fB a)⟩
inductive aPm (K:bF4)(C Pt:Addr)(vs:List V)(H:Hp)(Q:VK)(E_:XK):Prop
 |mk (H0:Hp) (x dx d:Addr) (m:Int) (es:List En) (_:vs=[.ref x,.int m,.ref d]) (_:H x=some (.ins C dx [])) (_:H0 x=none) (_:Same H0 H) (_:1<=m) (_:m<=6) (_:jZ K H0 d es) (_:(∀e∈es,jC m e.t)) (_:H0 Pt=some (.tab qC)) (_:∀d' H' es',H0 d'=none->Same H0 H'->qW K H' C x m d' es'->cG (λe e'=>∃v L,e'=aBr e v L/\H0 L=none) es es'->Q .non H')
def aSn (T:Txt w K mg)(c:Cls K C)(D:dZ K C "__init__" "Town.__init__" jJ ["self","houses","tables"])(n1:bK K C "placed")(n2:bK K C "house_count")(jE:Ok P w K mg base 10 "placed_tables" u6 (yZ K Pt)):OkM P w K mg base C 11 "__init__" o8 (aPm K C Pt):=by
 refine OkM.ofV c D xV (by trivial) (λf O A y s H vs Q E hr h=>?_)
 obtain⟨X,x,g,d,m,es,rfl,J,R,l,m1,S,Y,G,Z,q⟩:=h;refine⟨_,(aB (aBz (K:=K) (vv 0) (aV jE (aH (vv 1) (va1 (vv 2))))) (aD (aBz (K:=K) (vv 0) (vv 1)))),?_⟩;refine⟨_,rfl,_,rfl,d,m,es,rfl,m1,S,Y.same l,G,l _ _ Z,λj n t i B a I=>?_⟩;have k:=B _ _ J;refine⟨_,rfl,x,C,g,[],rfl,k,c,n1,by decide,?_⟩;refine⟨_,rfl,_,rfl,x,C,g,_,rfl,aF,c,n2,by show 1<1000;decide,?_⟩;have W:=eU.ins k;have r:j≠x:=λz=>by rw[z,J] at i;cases i
 have u:But x n (L2.upd (L2.upd n x (.ins C g [("placed",.ref j)])) x (.ins C g [("placed",.ref j),("house_count",.int m)])):=λb o F h=>by rw[aK F,aK F];exact h
 have U:Same X (L2.upd (L2.upd n x (.ins C g [("placed",.ref j)])) x (.ins C g [("placed",.ref j),("house_count",.int m)])):=λb o h=>u _ _ (λz=>by rw[z,R] at h;cases h) (B _ _ (l _ _ h));refine q j _ t (none_of l i) U ⟨⟨g,aF⟩,⟨u _ _ r a.at_,a.nd,a.few,a.nm,λe p=>u.tb W (a.tb e p)⟩,λe p=>?_⟩ (I.imp λe e' ⟨v,L,e1,M⟩=>⟨v,L,e1,none_of l M⟩);obtain⟨N,V,v,L,rfl,_⟩:=aEi I p;exact (G N V).sorted
inductive aDj (K:bF4)(C:Addr)(vs:List V)(H:Hp)(Q:VK)(E_:XK):Prop
 |mk (x d:Addr) (m:Int) (es:List En) (e:En) (_:vs=[.ref x,.str e.n]) (_:qW K H C x m d es) (_:e∈es) (_:∀H',Same H H'->Q e.vp H')
def aJ1 (T:Txt w K mg)(c:Cls K C)(D:dZ K C "placing" "Town.placing" jY ["self","name"])(z:bK K C "placed")(I:Ok P w K mg base 3 "table_in" o5 (nJ K)):OkM P w K mg base C 4 "placing" n6 (aDj K C):=by
 refine OkM.ofV c D aAf (by trivial) (λf n A b s H F Q E u h=>?_)
 obtain⟨x,d,m,p,e,rfl,⟨⟨l,o⟩,i,v⟩,j,q⟩:=h;refine⟨_,(aD (aJ (aO (bL (K:=K)) (aV I (aH (cT (K:=K) (vv 0)) (va1 (vv 1)))) aA))),?_⟩;obtain⟨a,t,k,G,y,B⟩:=i.tb e j;exact⟨_,rfl,x,C,l,_,_,rfl,o,c,z,rfl,_,rfl,d,p,e,rfl,i,j,λr g=>⟨a,_,1,_,t,rfl,g.aR k,at1 _ _ _,q r g⟩⟩
inductive uQ (K:bF4)(C:Addr)(vs:List V)(H:Hp)(Q:VK)(E_:XK):Prop
 |mk (x d:Addr) (m:Int) (es:List En) (e:En) (_:vs=[.ref x,.str e.n]) (_:qW K H C x m d es) (_:e∈es) (_:∀L H',H L=none->Same H H'->bW K H' L e.t.rows->Q (.ref L) H')
def aRg (T:Txt w K mg)(c:Cls K C)(D:dZ K C "whole" "Town.whole" oO ["self","name"])(O:bK K C "placed")(W:Ok P w K mg base 3 "table_in" o5 (nJ K)):OkM P w K mg base C 4 "whole" n6 (uQ K C):=by
 refine OkM.ofV c D aD0 (by trivial) (λf t A i s H R Q E J h=>?_)
 obtain⟨x,d,m,G,e,rfl,⟨⟨p,F⟩,n,B⟩,g,q⟩:=h;refine⟨_,(aD (aJ (cC (aIk (K:=K)) (by rfl) T.yQ rE (va1 (aO (bL (K:=K)) (aV W (aH (cT (K:=K) (vv 0)) (va1 (vv 1)))) aA))))),?_⟩;obtain⟨a,I,o,S,M,⟨j,v,k⟩⟩:=n.tb e g;have U:=k.len;have N:=(B e g).few;refine⟨_,rfl,x,C,p,_,_,rfl,F,c,O,rfl,_,rfl,d,G,e,rfl,n,g,λV b=>⟨a,_,2,_,I,rfl,b.aR o,at2 _ _ _ _,e.L,j,rfl,.inl (SqL.of (b _ _ v)),λL y u l z=>q L y (none_of b u) (b.trans l) ⟨j,z,k.imp λ_ _ r=>r.same (b.trans l)⟩⟩⟩
inductive aPn (K:bF4)(C:Addr)(vs:List V)(H:Hp)(Q:VK)(E_:XK):Prop
 |mk (x d:Addr) (m house:Int) (es:List En) (e:En) (_:vs=[.ref x,.str e.n,.int house]) (_:qW K H C x m d es) (_:e∈es) (_:0<=house) (_:house<m) (_:∀L H',H L=none->Same H H'->bW K H' L (e.t.rows.filter λr=>bZ e.t.hd m r house e.t.pl)->Q (.ref L) H')
def aSi (T:Txt w K mg)(c:Cls K C)(D:dZ K C "part" "Town.part" rB ["self","name","house"])(M:bK K C "placed")(I:bK K C "house_count")(R:Ok P w K mg base 3 "table_in" o5 (nJ K))(J:Ok P w K mg base 4 "rows_at" bQH (xJ K)):OkM P w K mg base C 5 "part" bQC (aPn K C):=by
 refine OkM.ofV c D aF6 (by trivial) (λf o A i s H N Q E G h=>?_)
 obtain⟨x,d,m,a,F,e,rfl,⟨⟨j,l⟩,k,B⟩,g,z,y,q⟩:=h;refine⟨_,(aD (aJ (aV J (aH (aV R (aH (cT (K:=K) (vv 0)) (va1 (vv 1)))) (aH (vv 2) (va1 (cT (K:=K) (vv 0)))))))),?_⟩;refine⟨_,rfl,x,C,j,_,_,rfl,l,c,M,rfl,_,rfl,d,F,e,rfl,k,g,λO b=>?_⟩;refine⟨_,rfl,_,rfl,x,C,j,_,_,rfl,b _ _ l,c,I,rfl,e.v,e.vh,e.vp,e.L,e.t,a,m,rfl,(k.tb e g).same b,B e g,z,y,λL u p r n=>q L u (none_of b p) (b.trans r) n⟩
end
end My
namespace L2
open PySem PySem.Spec PyProof.Rows
abbrev M61:Int:=2305843009213693951
def iD (H:Hp)(a:Addr):Prop:=∃s:Int,H a=some (.lst [.int s])/\True
structure Fx (a:Addr)(H H':Hp):Prop where
 same:∀b o,b≠a->H b=some o->H' b=some o
 st:iD H' a
def Fx.trans (f:Fx a H H1)(g:Fx a H1 H2):Fx a H H2:=⟨λb o n e=>g.same b o n (f.same b o n e),g.st⟩
def iD.same (h:iD H a)(e:Same H H'):iD H' a:=by obtain⟨s,c,b⟩:=h;exact⟨s,e _ _ c,b⟩
def Fx.of (h:iD H a)(e:Same H H'):Fx a H H':=⟨λb o _ q=>e b o q,h.same e⟩
theorem Fx.refl (h:iD H a):Fx a H H:=.of h (Same.refl H)
def Fx.sm (f:Fx a H H1)(e:Same H1 H2):Fx a H H2:=f.trans (.of f.st e)
def iD.ne (h:iD H a)(f:H p=none):p≠a:=by obtain⟨s,b,_⟩:=h;exact (aQ b f).symm
def Fx.aR {K:bF4}{a p:Addr}{H H':Hp}{xs:List V}(f:Fx a H H')(h:iD H a)(e:SqT K H p xs):SqT K H' p xs:=by
 obtain⟨s,b,_⟩:=h;rcases e with (e|⟨o,e⟩)|e
 ·exact .inl (.inl (f.same p _ (aKy e b (by intro z;cases z)) e))
 ·exact .inl (.inr ⟨o,f.same p _ (aKy e b (by intro z;cases z)) e⟩)
 ·exact .inr e
theorem Fx.upd (f:Fx a H H')(h:H D=none)(g:D≠a):Fx a H (L2.upd H' D o):=⟨λb u n e=>by rw[aK (aQ e h)];exact f.same b u n e,by obtain⟨s,c,d⟩:=f.st;exact⟨s,by rw[aK g.symm];exact c,d⟩⟩
theorem Fx.free (f:Fx a H H')(h:H' p=none):H p=none:=by
 cases e:H p with
 |none=>rfl
 |some o=>
  by_cases z:p=a
  ·subst z;obtain⟨s,b,_⟩:=f.st;rw[b] at h;cases h
  ·rw[f.same p o z e] at h;cases h
def aTz (h:iD H a):bA5 (Fx a) H:=⟨λD o c=>.of h (aW c o),λa b=>a.trans b,λD o d c f=>f.upd c (h.ne c),λD j i g c _ e f=>f.same _ _ (h.ne c) e⟩
end L2
namespace My
open PySem PySem.Spec PyProof.Rows L2
section
variable {P:Program}{w:World}{K:bF4}{mg:bF7}{base:Heap}
inductive aPy (K:bF4)(vs:List V)(H:Hp)(Q:VK)(E_:XK):Prop
 |mk (a:Addr) (ns:List Int) (_:vs=[.ref a]) (_:SqL K H a (ns.map V.int)) (_:ns.length<=63) (_:∀c H',Same H H'->0<=c->c<M61->Q (.int c) H')
def aIb (T:Txt w K mg):Ok P w K mg base 1 "_law_seed" ["_law_script"] (aPy K):=by
 refine Ok.ofV T.aI9 wN (by trivial) (λf j A d s H o Q E n h=>?_)
 obtain⟨a,k,rfl,g,l,q⟩:=h;have m:=wN.nd;refine⟨_,(aB (aZ 1 aA) (aB (iT PassesOwn.never rfl (aWx (by rfl) T.aJc (va1 (vv 0))) (uB rfl (aX (cQ 2) (aX (cQ 3) eO))) (aD (aZ 1 (bF jX (bF dG (bF dG (bF dG (bF yU (vv 1) aA) (bF jX (vv 3) (bF aFw aA aA))) (bF yU aA (vv 2))) aA) aA)))) (aD (aJ (vv 1))))),?_⟩;refine⟨_,rfl,a,k.map V.int,rfl,g,aSm (λi σ b=>Same H b/\∃c l2 l3,0<=c/\c<M61/\σ=[some (.ref a),some (.int c),l2,l3]) ⟨Same.refl H,7,_,_,by decide,by decide,rfl⟩ (λi σ b _ ⟨e,_⟩=>e.seq g) ?_ ?_⟩
 ·rintro i σ b x Tp H'' ex ⟨sm,c,l2,l3,c0,c1,rfl⟩ hT rfl;obtain⟨z,p,rfl⟩:=aUh ex;refine⟨Tp,_,rfl,SqT.of aF,rfl,_,_,rfl,_,_,rfl,rfl,?_⟩;refine⟨_,rfl,_,_,rfl,rfl,.inr ⟨by decide,by decide⟩,_,rfl,_,_,rfl,rfl,⟨by decide,by decide,by decide⟩,_,_,rfl,rfl,(by show (0:Int)<10 ^ 30;decide),_,_,rfl,rfl,_,rfl,_,_,rfl,rfl,.inl ⟨by decide,by decide⟩,_,_,rfl,rfl,_,_,rfl,rfl,_,_,rfl,rfl,(by show (0:Int)<2305843009213693951;decide),?_⟩;exact⟨sm.trans (aW hT _),_,_,_,bFO _ (by decide),bEO _ (by decide),rfl⟩
 ·rintro σ b ⟨sm,c,l2,l3,c0,c1,rfl⟩;exact⟨_,rfl,q c b sm c0 c1⟩
inductive jP (vs:List V)(H:Hp)(Q:VK)(E_:XK):Prop
 |mk (a:Addr) (m:Int) (_:vs=[.ref a,.int m]) (_:iD H a) (_:(0<m/\m<2 ^ 64)) (_:∀c H',Fx a H H'->0<=c->c<m->Q (.int c) H')
def aGk (T:Txt w K mg):Ok P w K mg base 1 "_law_next" n7 jP:=by
 refine Ok.ofV T.aLh aGg (by trivial) (λf j A c s H l Q E k h=>?_)
 obtain⟨a,m,rfl,⟨e,d,p⟩,⟨g,i⟩,q⟩:=h;refine⟨_,(aB (jG (bF jX (bF dG (bF yU (aO bA (vv 0) aA) aA) aA) aA) (xP (vv 0) aA set_list)) (aD (aJ (bF jX (bF aY0 (aO bA (vv 0) aA) aA) (vv 1))))),?_⟩;refine⟨_,rfl,a,_,0,_,rfl,rfl,SqL.of d,at0 _ _,_,_,rfl,rfl,.inr ⟨by decide,by decide⟩,_,_,rfl,rfl,_,_,rfl,rfl,(by show (0:Int)<2305843009213693951;decide),?_⟩;refine⟨_,rfl,a,_,0,0,rfl,rfl,d,rfl,?_⟩;refine⟨_,rfl,a,[.int ((e * 1181783497276652981+12345678910987) % 2305843009213693951)],0,_,rfl,rfl,SqL.of aF,at0 _ _,_,_,rfl,rfl,⟨by decide,by decide⟩,_,rfl,_,_,rfl,rfl,g,?_⟩;exact q _ _ ⟨λb o n h=>by rw[aK n];exact h,(e * 1181783497276652981+12345678910987) % 2305843009213693951,aF,trivial⟩ (bFO _ (by lia)) (bEO _ g)
inductive aLt (vs:List V)(H:Hp)(Q:VK)(E_:XK):Prop
 |mk (a:Addr) (_:vs=[.ref a]) (_:iD H a) (_:∀i H',Fx a H H'->Q (.int i) H')
def aDm (T:Txt w K mg)(t:Ok P w K mg base 1 "_law_next" n7 jP):Ok P w K mg base 2 "_law_great" ["_law_state"] aLt:=by
 refine Ok.ofV T.aGh tL (by trivial) (λf m A j s H D Q E B h=>?_)
 obtain⟨a,rfl,o,q⟩:=h;have z:=tL.nd;refine⟨_,(aB (aZ 1 aA) (aB (iT PassesOwn.never rfl (gA (by rfl) T.jM (va1 aA)) (cQ 2) (aD (aZ 1 (bF dG (bF yU (vv 1) (bF aFw aA aA)) (aV t (aH (vv 0) (va1 (bF aFw aA aA)))))))) (aD (aJ (aO bA (cX (aH (vv 1) (va1 (bF aCs aA (vv 1))))) (aV t (aH (vv 0) (va1 aA)))))))),?_⟩;refine⟨_,rfl,by decide,by decide,iR (λi σ b=>Fx a H b/\∃c l2,σ=[some (.ref a),some (.int c),l2]) ⟨.refl o,0,_,rfl⟩ ?_ ?_⟩
 ·rintro i σ b hi ⟨fx,c,l2,rfl⟩;refine⟨_,rfl,_,_,rfl,rfl,⟨by decide,by decide,by decide⟩,_,_,rfl,rfl,.inr ⟨by decide,by decide⟩,_,rfl,_,_,rfl,rfl,⟨by decide,by decide,by decide⟩,a,_,rfl,fx.st,(by decide),λd y x _ _=>?_⟩;exact⟨_,_,rfl,rfl,fx.trans x,_,_,rfl⟩
 ·rintro σ b ⟨fx,c,l2,rfl⟩;refine⟨_,rfl,_,rfl,_,_,rfl,rfl,(by show 2<=sizeLine;decide),λp y l e n=>?_⟩;refine⟨_,rfl,a,2,rfl,fx.st.same e,by decide,λd C g r F=>?_⟩;obtain⟨v,u,k⟩:=at_of (xs:=[.int c,.int (0 - c)]) r (by show d<2;lia);refine⟨p,_,_,v,rfl,rfl,SqL.of (g.same _ _ (fx.st.ne l) n),u,?_⟩;simp only[bAN,bAB,or_false] at k;rcases k with rfl|rfl
  ·exact q _ _ ((fx.sm e).trans g)
  ·exact q _ _ ((fx.sm e).trans g)
abbrev aMy:List V:=[.str "",.str "a",.str "b",.str "ab"]
inductive aF2 (vs:List V)(H:Hp)(Q:VK)(E_:XK):Prop
 |mk (a:Addr) (kd:Str) (_:vs=[.ref a,.str kd]) (_:iD H a) (_:aRt kd) (_:∀v H',Fx a H H'->cF kd v->Q v H')
def aMn (h:v∈aMy):cF "word" v:=by
 simp only[aMy,bAN,bAB,or_false] at h;have a:∀x:Str,(x.cps.all λc=>decide (97<=c) && decide (c<=122))=true->Lets x:=λx d c b=>by have:=(Array.all_eq_true_iff_forall_mem.mp d) c b;rw[bAS] at this;exact⟨of_decide_eq_true this.1,of_decide_eq_true this.2⟩
 rcases h with rfl|rfl|rfl|rfl
 ·exact .wrd (a _ (by decide +kernel)) (by decide +kernel)
 ·exact .wrd (a _ (by decide +kernel)) (by decide +kernel)
 ·exact .wrd (a _ (by decide +kernel)) (by decide +kernel)
 ·exact .wrd (a _ (by decide +kernel)) (by decide +kernel)
def aDq (T:Txt w K mg)(y:Ok P w K mg base 1 "_law_next" n7 jP)(I:Ok P w K mg base 2 "_law_great" ["_law_state"] aLt):Ok P w K mg base 3 "_law_value" bQI aF2:=by
 refine Ok.ofV T.aH6 tE (by trivial) (λf L A C s H vs Q E X h=>?_)
 obtain⟨a,U,rfl,O,J,q⟩:=h;have W:=tE.nd;refine⟨_,(aB (aZ 2 (aV y (aH (vv 0) (va1 aA)))) (aB (bM (cZ dN (vv 1) bB) (aD (aJ (aO bA (cX (aH (bF aCs (aV y (aH (vv 0) (va1 aA))) aA) (va1 (aV I (va1 (vv 0)))))) (cC yI (by rfl) T.aOv aHk (va1 (vL dN (vv 2) aA)))))) aU) (aB (bM (cZ aSg (vv 2) aA) (aD (aJ (aO bA (cX (aH bB (aH bB (aH bB (va1 bB))))) (bF jX (vv 2) aA)))) aU) (aB (aZ 3 bB) (aB (iT PassesOwn.never rfl (gA (by rfl) T.jM (va1 (aV y (aH (vv 0) (va1 aA))))) (cQ 4) (aD (aZ 3 (bF oA (vv 3) (pK bB (aV y (aH (vv 0) (va1 aA))) (λ_ _=>rfl)))))) (aD (aJ (vv 3)))))))),?_⟩;refine⟨_,rfl,a,10,rfl,O,by decide,λb H1 l Z w1=>?_⟩;rcases J with rfl|rfl
 ·refine⟨_,rfl,rfl,_,rfl,eX ?_⟩;refine⟨_,rfl,a,4,rfl,l.st,by decide,λd N o u D=>?_⟩;refine⟨_,_,rfl,rfl,_,rfl,a,rfl,o.st,λg G t=>?_⟩;refine⟨(by show 2<=sizeLine;decide),λp R _ B m=>?_⟩;have c:=(l.trans (o.trans t)).sm B;refine⟨_,rfl,rfl,.inr ⟨_,rfl,?_⟩⟩;by_cases e:b=9
  ·rw[m9 (congrArg V.int e)];exact⟨p,_,_,_,rfl,rfl,SqL.of m,bH (j:=1) rfl,q _ _ c .num⟩
  ·rw[v9 (by intro z;exact e (V.int.inj z))];exact⟨p,_,_,_,rfl,rfl,SqL.of m,bH (j:=0) rfl,q _ _ c .num⟩
 ·refine⟨_,rfl,rfl,_,rfl,bY ?_⟩;refine⟨_,rfl,_,_,rfl,rfl,_,rfl,aLz (λ_=>?_) (λ_=>?_)⟩
  ·refine⟨(by show 4<=sizeLine;decide),λp R _ B m=>?_⟩;obtain⟨v,S,M⟩:=at_of (xs:=aMy) (j:=b % 4) (by lia) (by show b % 4<4;lia);exact⟨_,rfl,_,_,rfl,rfl,(by show (0:Int)<4;decide),p,_,_,v,rfl,rfl,SqL.of m,S,q _ _ (l.sm B) (aMn M)⟩
  ·refine⟨_,rfl,a,9,rfl,l.st,by decide,λn N o n0 n1=>?_⟩;refine⟨_,rfl,by lia,by lia,iR (n:=n.toNat) (λi σ r=>Fx a H r/\∃(x:Str) (l4:Option V),σ=[some (.ref a),some (.str "word"),some (.int b),some (.str x),l4]/\x.length<=i/\Lets x) ⟨l.trans o,_,_,rfl,by decide +kernel,λd hd=>by simp[show (("":Str).cps)=#[] from rfl] at hd⟩ ?_ ?_⟩
   ·rintro i σ r hi ⟨c,x,l4,rfl,hl,hx⟩;have F:abc.length=26:=by decide +kernel
    refine⟨_,rfl,_,rfl,a,26,rfl,c.st,by decide,λd G t u D=>?_⟩;obtain⟨Y,k⟩:=aO8 (z:=abc) u (by rw[F];exact D);refine⟨_,_,_,rfl,rfl,u,(by lia),(by rw[F];exact D),k,_,_,rfl,rfl,?_,c.trans t,_,_,rfl,?_,hx.add (aJw.one k)⟩
    ·show x.length+1<=sizeLine;exact small (by lia)
    ·rw[aF1];show x.length+1<=i+1;lia
   ·rintro σ r ⟨c,x,l4,rfl,hl,hx⟩;exact⟨_,rfl,q _ _ c (.wrd hx (by lia))⟩
def aFl:Sp:=λvs H Q _=>vs=[]/\∀p H',H p=none->Same H H'->H' p=some (.lst words)->Q (.ref p) H'
def aD7 (T:Txt w K mg):Ok P w K mg base 1 "_law_words" [] aFl:=by
 refine Ok.ofV T.aH9 sI (by trivial) (λf l A b s H t Q E r h=>?_)
 obtain⟨rfl,q⟩:=h;have o:=sI.nd;refine⟨_,(aB (aZ 0 (cX (aH bB (aH bB (aH bB (aH bB (aH bB (aH bB (aH bB (aH bB (va1 bB))))))))))) (aD (aJ (bF pQ (vv 0) (cX (aH bB (aH bB (aH bB (aH bB (aH bB (aH bB (aH bB (va1 bB))))))))))))),?_⟩;refine⟨(by decide),λn v _ c m=>?_⟩;refine⟨_,rfl,(by decide),λd u _ a i=>?_⟩;exact⟨n,d,_,_,rfl,rfl,a _ _ m,i,(by decide),λp k g e j=>q p k ((c.trans a).free g) (c.trans (a.trans e)) j⟩
def vW (ns:List Str):Prop:=ns.length=17/\(∀n∈ns,Nm n)/\ns.Nodup
def vW.rev (h:vW ns):vW ns.reverse:=⟨by rw[List.length_reverse];exact h.1,λn a=>h.2.1 n (List.mem_reverse.mp a),List.pairwise_reverse.mpr (h.2.2.imp λq=>Ne.symm q)⟩
def bBk:∀j:_root_.Fin 26,abc.cps[j.val]?=some (97+j.val):=by decide +kernel
def aW1 (h:j<26):abc.cps[j]?=some (97+j):=bBk ⟨j,h⟩
def sgl (o:Nat):List Str:=(List.range 17).map λk=>⟨#[97+(o+k)]⟩
def aPp:∀o:_root_.Fin 10,((sgl o.val).all λn=>nameB (.str n))=true/\(Txt.slice abc (some (o.val:Int)) (some ((o.val:Int)+17))).cps.size=17/\((List.range 17).all λi=>decide (sgn (Txt.slice abc (some (o.val:Int)) (some ((o.val:Int)+17))) i=⟨#[97+(o.val+i)]⟩))=true:=by decide +kernel
def aSf (h:(⟨#[a]⟩:Str)=⟨#[b]⟩):a=b:=by have:=congrArg (λx:Str=>x.cps.toList) h;simpa using this
def aS2 (h:o<10):vW (sgl o):=by
 refine⟨by simp[sgl],λn b=>?_,?_⟩
 ·have:=(aPp ⟨o,h⟩).1;rw[bBZ] at this;exact this n b
 ·refine List.pairwise_map.mpr (bEF ?_ List.nodup_range);intro k l _ _ a e;have:=aSf e;exact a (by lia)
def aYk {o:Nat}(h:o<10):((List.range (Txt.slice abc (some (o:Int)) (some ((o:Int)+17))).cps.size).map λi=>V.str (sgn (Txt.slice abc (some (o:Int)) (some ((o:Int)+17))) i))=(sgl o).map V.str:=by obtain⟨_,a,b⟩:=aPp ⟨o,h⟩;have a:=a;rw[a];unfold sgl;rw[bDY];refine List.map_congr_left λi c=>?_;rw[bBZ] at b;have:=of_decide_eq_true (b i c);exact congrArg V.str this
def stm (b:Str)(a o:Nat):Nat->List Str:=λi=>(List.range i).map λk=>put b a (97+(o+k))
def bAi (x:Lets b)(hl:b.length<=7)(h:a<=b.length)(ho:o<10)(y:∀w∈words,inV w ((stm b a o 17).map V.str)=false):vW (stm b a o 17):=by
 refine⟨by simp[stm],λn j=>?_,?_⟩
 ·obtain⟨k,i,rfl⟩:=List.mem_map.mp j;have i:=List.mem_range.mp i;have d:inV (.str (put b a (97+(o+k)))) words=false:=by
   cases e:inV (.str (put b a (97+(o+k)))) words with
   |false=>rfl
   |true=>
    exfalso;unfold inV at e;rw[bDX] at e;obtain⟨v,f,s⟩:=e;have g:∃z:Str,v=.str z:=by simp only[words,bAN,bAB,or_false] at f;rcases f with rfl|rfl|rfl|rfl|rfl|rfl|rfl|rfl|rfl|rfl|rfl|rfl|rfl|rfl|rfl|rfl|rfl <;> exact⟨_,rfl⟩
    obtain⟨z,rfl⟩:=g;have q:(z == put b a (97+(o+k)))=true:=s;have m:z=put b a (97+(o+k)):=by simpa using q
    have:=y _ f;rw[aOf,decide_eq_false_iff_not] at this;exact this (by rw[m];exact j)
  show ((decide (1<=(put b a (97+(o+k))).length) && (decide ((put b a (97+(o+k))).length<=8) && allIn (put b a (97+(o+k))))) && !inV (.str (put b a (97+(o+k)))) words)=true;have u:Lets (put b a (97+(o+k))):=λc t=>by
   rcases aW2 h t with rfl|z
   ·lia
   ·exact x c z
  rw[aW0 h,m9 (p:=1<=b.length+1) (by lia),m9 (p:=b.length+1<=8) (by lia),allIn_of u,d];rfl
 ·refine List.pairwise_map.mpr (bEF ?_ List.nodup_range);intro k l _ _ r e;have:=aYs h e;exact r (by lia)
inductive aVh (vs:List V)(H:Hp)(Q:VK)(E_:XK):Prop
 |mk (a:Addr) (_:vs=[.ref a,.int 17]) (_:iD H a) (_:∀p H' ns,Fx a H H'->H p=none->H' p=some (.lst (ns.map V.str))->vW ns->Q (.ref p) H')
def aDo (T:Txt w K mg)(aN:Ok P w K mg base 1 "_law_next" n7 jP)(a8:Ok P w K mg base 1 "_law_words" [] aFl):Ok P w K mg base 2 "_law_names" n7 aVh:=by
 refine Ok.ofV T.aHr sH (by trivial) (λf a9 A a6 s H vs Q E hr h=>?_)
 obtain⟨a,rfl,X,q⟩:=h;have nd:=sH.nd;refine⟨_,(aB (aZ 2 bB) (aB (aZ 3 (aV aN (aH (vv 0) (va1 (bF aCs aA (vv 1)))))) (aB (aZ 4 bB) (aB (iT PassesOwn.never rfl (gA (by rfl) T.jM (va1 (aV aN (aH (vv 0) (va1 aA))))) (cQ 5) (aD (aZ 4 (bF oA (vv 4) (pK (vv 2) (aV aN (aH (vv 0) (va1 aA))) (λ_ _=>rfl)))))) (aB (aZ 6 (aV aN (aH (vv 0) (va1 (bF dG (aL vA (by rfl) T.eZ cW (va1 (vv 4))) aA))))) (aB (aZ 7 (cX zA)) (aB (iT PassesOwn.never rfl (gA (by rfl) T.jM (va1 (vv 1))) (cQ 5) (aD (dJ (sX PySem.F.plainAttrs_list PySem.F.slot_list_append PySem.F.type_list_append nU (vv 7) (va1 (bF oA (bF oA (dD aGz (vv 4) fC (dR (vv 6))) (pK (vv 2) (bF dG (vv 3) (vv 5)) (λ_ _=>rfl))) (dD aGz (vv 4) (dR (vv 6)) fC))))))) (aB (bM (bU (aL (aUs rfl) (by rfl) T.bC4 bB5 (va1 (cI (N:=["_law_word","_law_names_here"]) (by trivial) (eE (aC nC) rfl (by decide +kernel)) rfl (eQ (bBc (a8.mono (by decide)) hr (by rfl))) (λcl s' u fp=>⟨(bJ (i:=0) (show (["_law_word","_law_names_here"]:List Str).Nodup from by decide +kernel) rfl (Or.inl rfl)),fW,(rN (aN6 (K:=K)) (vv 0) (vv 1) (by with_unfolding_all rfl))⟩))))) (aD (aZ 7 (cC (aL5 rfl) (by rfl) T.yQ rE (va1 (dD aGz (vv 2) (dR (vv 3)) (dR (bF dG (vv 3) (vv 1)))))))) aU) (aB (bM (cZ dN (aV aN (aH (vv 0) (va1 aA))) aA) (aD (dJ (bCl PySem.F.plainAttrs_list PySem.F.slot_list_reverse PySem.F.type_list_reverse aLg (vv 7)))) aU) (aD (aJ (vv 7)))))))))))),?_⟩;have I:abc.length=26:=by decide +kernel
 refine⟨_,rfl,_,rfl,_,_,rfl,rfl,a,10,rfl,X,by decide,λod H1 f1 o0 o1=>?_⟩;obtain⟨o,rfl⟩:∃o:Nat,od=o:=⟨od.toNat,by lia⟩;have M:o<10:=by lia
 refine⟨_,rfl,a,8,rfl,f1.st,by decide,λn H2 f2 n0 n1=>?_⟩;refine⟨_,rfl,by lia,by lia,iR (n:=n.toNat) (λi σ u=>Fx a H u/\∃(x:Str) (l5:Option V),σ=[some (.ref a),some (.int 17),some (.str abc),some (.int (o:Nat)),some (.str x),l5,none,none]/\x.length<=i/\Lets x) ⟨f1.trans f2,_,_,rfl,by decide +kernel,λd hd=>by simp[show (("":Str).cps)=#[] from rfl] at hd⟩ ?_ ?_⟩
 ·rintro i σ u hi ⟨fx,x,l5,rfl,hl,hx⟩;refine⟨_,rfl,_,rfl,_,rfl,a,26,rfl,fx.st,by decide,λd H3 O Z S=>?_⟩;obtain⟨ch,t⟩:=aO8 (z:=abc) Z (by rw[I];exact S);refine⟨_,_,_,rfl,rfl,Z,(by lia),(by rw[I];exact S),t,_,_,rfl,rfl,?_,fx.trans O,_,_,rfl,?_,hx.add (aJw.one t)⟩
  ·show x.length+1<=sizeLine;exact small (by lia)
  ·rw[aF1];show x.length+1<=i+1;lia
 rintro σ H3 ⟨O,b,l5,rfl,hl,hb⟩;have a2:b.length<=7:=by lia
 refine⟨_,rfl,_,rfl,_,rfl,small (by lia),_,_,rfl,rfl,a,_,rfl,O.st,(by show (0:Int)<(b.length:Int)+1/\(b.length:Int)+1<2 ^ 64;lia),λai H4 f4 a0 a1=>?_⟩;obtain⟨g,rfl⟩:∃g:Nat,ai=g:=⟨ai.toNat,by lia⟩;have ha:g<=b.length:=by have:(g:Int)<(b.length:Int)+1:=a1;lia
 have J:=O.trans f4;refine⟨(by show 0<=sizeLine;decide),λp H5 fp s5 g5=>?_⟩;have k:H p=none:=J.free fp;have v:p≠a:=X.ne k;refine⟨_,rfl,_,rfl,by decide,by decide,iR (n:=17) (λi σ u=>Fx a H u/\u p=some (.lst ((stm b g o i).map V.str))/\∃l5,σ=[some (.ref a),some (.int 17),some (.str abc),some (.int (o:Nat)),some (.str b),l5,some (.int (g:Nat)),some (.ref p)]) ⟨J.sm s5,g5,_,rfl⟩ ?_ ?_⟩
 ·rintro i σ u hi ⟨fx,gp,l5,rfl⟩;have s1:=Txt.slice_le b none (some ((g:Nat):Int));have s2:=Txt.slice_le b (some ((g:Nat):Int)) none;have ej:((o:Int)+(0+(i:Int))).toNat=o+i:=by lia
  have t:abc.cps[((o:Int)+(0+(i:Int))).toNat]?=some (97+(o+i)):=by rw[ej];exact aW1 (by lia)
  refine⟨_,rfl,.inl ⟨rfl,_,SqL.of gp⟩,_,rfl,_,rfl,_,rfl,_,rfl,small (by lia),_,rfl,_,rfl,_,rfl,_,_,rfl,rfl,_,_,_,rfl,rfl,(by show 0<=(o:Int)+(0+(i:Int));lia),(by show (o:Int)+(0+(i:Int))<2 ^ 63;lia),(by rw[I];show (o:Int)+(0+(i:Int))<26;lia),t,_,_,rfl,rfl,?_,_,rfl,_,rfl,_,rfl,_,rfl,small (by lia),_,_,rfl,rfl,?_,?_⟩
  ·show (Txt.slice b none (some ((g:Nat):Int))).length+1<=sizeLine;exact small (by lia)
  ·rw[aF1];show (Txt.slice b none (some ((g:Nat):Int))).length+1+_<=sizeLine;exact small (by lia)
  refine⟨p,_,_,rfl,rfl,gp,?_,fx.upd k v,?_,_,rfl⟩
  ·rw[j6];exact mL (by simp[stm];lia)
  ·rw[aF];unfold stm;rw[List.range_succ,bBF,bBF];rfl
 rintro σ H6 ⟨f6,g6,l5',rfl⟩;dsimp only[aDy,aFx,tB,tCB,dH];refine aR9 (λU=>U=words) (λi _ y=>∃m,words[i]?=some m/\y=.bl (inV m ((stm b g o 17).map V.str))) (λ_ h=>h) (λ_ h=>h) [none,some (.ref p)] ?_ rfl (λR r=>⟨rfl,λW H7 _ Y g7=>r W H7 _ Y g7 rfl⟩) (λU e=>by subst e;exact small (by decide)) (λU e i x ex u R l sm r=>?_) λU e D H7 ys Y g7 a7 hR=>?_
 ·exact jN 7 (by decide +kernel) rfl rfl (by trivial)
 ·subst e;have fl:jB x=true:=by have:=aB3;rw[bBZ] at this;exact this x (t8 ex)
  exact⟨_,rfl,_,rfl,p,_,rfl,.inl (SqL.of (sm _ _ g6)),fl,aIz,r _ _ (Same.refl _) ⟨x,ex,rfl⟩⟩
 subst e;have ey:ys=(words.map λm=>inV m ((stm b g o 17).map V.str)).map V.bl:=by
  rw[bDY];refine bCC λi=>?_;by_cases hi:i<ys.length
  ·obtain⟨m,h1,h2⟩:=hR i ys[i] (b8 hi);rw[b8 hi,v7,h1,h2];rfl
  ·rw[bAA (by lia),bAA (by rw[j6];lia)]
 rw[ey] at g7;refine⟨D,_,rfl,SqL.of g7,_,rfl,?_⟩;have G:=f6.sm Y;refine aLz (λc=>?_) (λc=>?_)
 ·refine⟨_,rfl,_,rfl,_,rfl,_,rfl,_,rfl,_,_,rfl,rfl,_,rfl,abc,rfl,small (by rw[I];decide),?_⟩;refine⟨_,rfl,?_,λL H8 a4 s8 g8=>?_⟩
  ·have:=Txt.slice_le abc (some (o:Int)) (some ((o:Int)+17));rw[I] at this;exact bAE this (by decide)
  have a3:H8 L=some (.lst ((sgl o).map V.str)):=by rw[g8];exact congrArg (λz=>some (HO.lst z)) (aYk M)
  have f8:=G.sm s8;have j:=G.free a4;refine⟨_,rfl,a,2,rfl,f8.st,by decide,λd H9 B Z S=>?_⟩;have C:=B.same _ _ (X.ne j) a3;refine⟨rfl,_,rfl,aLz (λ_=>?_) (λ_=>?_)⟩
  ·refine⟨_,rfl,.inl ⟨rfl,_,SqL.of C⟩,L,_,rfl,rfl,C,?_⟩;refine⟨_,rfl,q L _ (sgl o).reverse ((f8.trans B).upd j (X.ne j)) j ?_ (aS2 M).rev⟩;rw[aF,List.map_reverse]
  ·exact⟨_,rfl,q L _ (sgl o) (f8.trans B) j C (aS2 M)⟩
 ·have hw:∀m∈words,inV m ((stm b g o 17).map V.str)=false:=λm a5=>by
   cases e:inV m ((stm b g o 17).map V.str) with
   |false=>rfl
   |true=>exfalso;apply c;rw[bDX];exact⟨true,List.mem_map.mpr ⟨m,a5,e⟩,rfl⟩
  have hn:=bAi hb a2 ha M hw;refine⟨_,rfl,a,2,rfl,G.st,by decide,λd H9 B Z S=>?_⟩;have C:=B.same _ _ v (Y _ _ g6);refine⟨rfl,_,rfl,aLz (λ_=>?_) (λ_=>?_)⟩
  ·refine⟨_,rfl,.inl ⟨rfl,_,SqL.of C⟩,p,_,rfl,rfl,C,?_⟩;refine⟨_,rfl,q p _ (stm b g o 17).reverse ((G.trans B).upd k v) k ?_ hn.rev⟩;rw[aF,List.map_reverse]
  ·exact⟨_,rfl,q p _ (stm b g o 17) (G.trans B) k C hn⟩
inductive aLf (K:bF4)(vs:List V)(H:Hp)(Q:VK)(E_:XK):Prop
 |mk (a N:Addr) (ns:List Str) (_:vs=[.ref a,.ref N]) (_:iD H a) (_:H N=some (.lst (ns.map V.str))) (_:N≠a) (_:vW ns) (_:∀v H' hd,Fx a H H'->jH K H' v hd->aRl hd->hd.length<=7->Q v H')
def bAv {α:Type}{l:List α}(h:l.Nodup){i j:Nat}{x:α}(f:l[i]?=some x)(g:l[j]?=some x):i=j:=by
 have a:=List.pairwise_iff_getElem.mp h;obtain⟨e,b⟩:=List.getElem?_eq_some_iff.mp f;obtain⟨d,c⟩:=List.getElem?_eq_some_iff.mp g;rcases bFB i j with q|q|q
 ·exact absurd (b.trans c.symm) (a i j e d q)
 ·exact q
 ·exact absurd (c.trans b.symm) (a j i d e q)
def bEr {α:Type}{l:List α}(h:∀(i j:Nat) (x:α),l[i]?=some x->l[j]?=some x->i=j):l.Nodup:=by refine List.pairwise_iff_getElem.mpr λi j a b c e=>?_;have:=h i j l[i] (b8 a) (by rw[b8 b,e]);lia
def aS1 {p:List Str}(q:vW p){m:Nat}{hd:Hdr}(hl:hd.length<=8)(h:∀(j:Nat) (c:Str × Str),hd[j]?=some c->p[3+(m+j) % 8]?=some c.1):(hd.map (·.1)).Nodup:=by
 refine bEr λi j x d f=>?_;have g:∀k,(hd.map (·.1))[k]?=some x->k<hd.length/\p[3+(m+k) % 8]?=some x:=λk a=>by
  rw[v7] at a;cases e:hd[k]? with
  |none=>rw[e] at a;cases a
  |some c=>rw[e] at a;cases a;exact⟨(List.getElem?_eq_some_iff.mp e).1,h k c e⟩
 obtain⟨o,l⟩:=g i d;obtain⟨n,b⟩:=g j f;have:=bAv q.2.2 l b;lia
def aG0 (T:Txt w K mg)(aN:Ok P w K mg base 1 "_law_next" n7 jP):Ok P w K mg base 2 "_law_head" ["_law_state","_law_names_here"] (aLf K):=by
 refine Ok.ofV T.aK1 vO (by trivial) (λf a6 A a3 s H vs Q E hr h=>?_)
 obtain⟨a,N,C,rfl,hs,hN,nN,W,q⟩:=h;have nd:=vO.nd;refine⟨_,(aB (aZ 2 (aV aN (aH (vv 0) (va1 aA)))) (aB (aZ 3 (cX zA)) (aB (iT PassesOwn.never rfl (gA (by rfl) T.jM (va1 (bF dG aA (bF yU (aV aN (aH (vv 0) (va1 aA))) (bF dG aA (cC yI (by rfl) T.aOv aHk (va1 (vL dN (aV aN (aH (vv 0) (va1 aA))) aA)))))))) (cQ 4) (aB (aZ 5 (aO bA (cX (aH bB (aH bB (va1 bB)))) (aV aN (aH (vv 0) (va1 aA))))) (aD (dJ (sX PySem.F.plainAttrs_list PySem.F.slot_list_append PySem.F.type_list_append nU (vv 3) (va1 (cN (aH (aO bA (vv 1) (bF dG aA (bF jX (bF dG (vv 2) (vv 4)) aA))) (va1 (vv 5)))))))))) (aD (aJ (cC lJ (by rfl) T.gZ eY (va1 (vv 3)))))))),?_⟩;have a7:=W.1;refine⟨_,rfl,a,8,rfl,hs,by decide,λy H1 f1 a5 a4=>?_⟩;obtain⟨g,rfl⟩:∃g:Nat,y=g:=⟨y.toNat,by lia⟩;refine⟨(by show 0<=sizeLine;decide),λp H2 fp s2 g2=>?_⟩;have f2:=f1.sm s2;have v:H p=none:=f1.free fp;have b:p≠a:=hs.ne v;refine⟨_,rfl,a,4,rfl,f2.st,by decide,λm H3 O m0 m1=>?_⟩;refine⟨_,rfl,a,8,rfl,O.st,by decide,λe H4 f4 e0 e1=>?_⟩;have Z:=f2.trans (O.trans f4);have g4:=f4.same _ _ b (O.same _ _ b g2);refine⟨rfl,.inr ⟨_,rfl,?_⟩⟩;have U:∃z:Nat,1+m * (1+(if decide (V.int e=V.int 0) then 1 else 0))=(z:Int)/\1<=z/\z<=7:=by
  cases decide (V.int e=V.int 0)
  ·exact⟨(1+m).toNat,by simp;lia,by lia,by lia⟩
  ·exact⟨(1+m * 2).toNat,by simp;lia,by lia,by lia⟩
 obtain⟨z,ez,z1,z7⟩:=U;refine⟨_,_,rfl,rfl,_,_,rfl,rfl,.inl ⟨by lia,by lia⟩,_,_,rfl,rfl,?_⟩;refine⟨(z:Int),?_,by lia,by lia,?_⟩
 ·show [V.int (1+m * (1+(if decide (V.int e=V.int 0) then 1 else 0)))]=_;rw[ez]
 rw[bAQ];refine iR (n:=z) (λi σ r=>Fx a H r/\∃(us:List V) (hd:Hdr) (l4 l5:Option V),r p=some (.lst us)/\hd.length=i/\cG (IsC K r) us hd/\(∀(j:Nat) (c:Str × Str),hd[j]?=some c->C[3+(g+j) % 8]?=some c.1/\aRt c.2)/\σ=[some (.ref a),some (.ref N),some (.int (g:Nat)),some (.ref p),l4,l5]) ⟨Z,[],[],_,_,g4,rfl,.nil,λj c h=>by simp at h,rfl⟩ ?_ ?_
 ·rintro i σ r hi ⟨fx,us,hd,l4,l5,gp,hl,hu,hc,rfl⟩;have lu:=hu.len;refine⟨(by show 3<=sizeLine;decide),λp1 H5 J l L=>?_⟩;refine⟨_,rfl,a,3,rfl,fx.st.same l,by decide,λd H6 D d0 d1=>?_⟩;obtain⟨kv,M,o⟩:=at_of (xs:=[.str "number",.str "number",.str "word"]) d0 (by show d<3;lia);obtain⟨B,rfl,a1⟩:∃B:Str,kv=.str B/\aRt B:=by
   simp only[bAN,bAB,or_false] at o;rcases o with rfl|rfl|rfl
   ·exact⟨_,rfl,.inl rfl⟩
   ·exact⟨_,rfl,.inl rfl⟩
   ·exact⟨_,rfl,.inr rfl⟩
  have x:=(fx.sm l).trans D;refine⟨p1,_,_,_,rfl,rfl,SqL.of (D.same _ _ (fx.st.ne J) L),M,?_⟩;have k:=D.same _ _ b (l _ _ gp);have X:=x.same _ _ nN hN;have a2:cG (IsC K H6) us hd:=hu.imp λ_ _ ⟨R,S,hp⟩=>⟨R,S,D.aR (fx.st.same l) (l.aR hp)⟩;have u:3+(g+i) % 8<C.length:=by lia
  refine⟨_,rfl,.inl ⟨rfl,_,SqL.of k⟩,?_⟩;refine⟨_,rfl,_,rfl,_,rfl,_,_,rfl,rfl,_,_,rfl,rfl,(by show (0:Int)<8;decide),_,_,rfl,rfl,N,_,_,.str C[3+(g+i) % 8],rfl,rfl,SqL.of X,?_,_,rfl,(by show 2<=sizeLine;decide),λt H7 ft G g7=>?_⟩
  ·have e8:(3:Int)+((g:Int)+(0+(i:Int))) % 8=((3+(g+i) % 8:Nat):Int):=by lia
   rw[e8];exact bH (by rw[v7,b8 u];rfl)
  refine⟨p,_,_,rfl,rfl,G _ _ k,mL (by lia),?_⟩;have a0:=(aQ k ft).symm;refine⟨(x.sm G).upd v b,us++[.ref t],hd++[(C[3+(g+i) % 8],B)],_,_,aF,by rw[w6,hl];rfl,?_,λj c h=>?_,rfl⟩
  ·refine (a2.imp λ_ _ ⟨R,S,hp⟩=>⟨R,S,(G.aR hp).iW (G _ _ k)⟩).app (.cons ⟨t,rfl,SqT.of (by rw[aK a0];exact g7)⟩ .nil)
  ·by_cases hj:j<hd.length
   ·rw[bBJ hj] at h;exact hc j c h
   ·rw[bBG (by lia)] at h;have I:j - hd.length=0:=by
     by_cases z0:j - hd.length=0
     ·exact z0
     ·rw[bAA (by simp;lia)] at h;cases h
    rw[I] at h;cases h;have:j=i:=by lia
    subst this;exact⟨b8 u,a1⟩
 ·rintro σ r ⟨fx,us,hd,l4,l5,gp,hl,hu,hc,rfl⟩;refine⟨_,rfl,p,us,rfl,SqL.of gp,λt H5 _ l L=>q _ _ hd (fx.sm l) ⟨t,us,rfl,SqT.of L,hu.imp λ_ _ h=>h.same l⟩ ⟨⟨aS1 W (by lia) λj c h=>(hc j c h).1,by lia,by lia⟩,λc Y=>?_⟩ (by lia)⟩;obtain⟨j,hj,e⟩:=bBA Y;have h2:=hc j c (by rw[b8 hj,e]);exact⟨W.2.1 _ (t8 h2.1),h2.2⟩
def TK (K:bF4)(H H':Hp):Prop:=∀p xs,SqT K H p xs->SqT K H' p xs
def _root_.L2.Fx.tk (f:Fx a H H')(h:iD H a):TK K H H':=λ_ _ e=>f.aR h e
def TK.of (s:Same H H'):TK K H H':=λ_ _ e=>s.aR e
def IsC.tk (e:TK K H H')(h:IsC K H v c):IsC K H' v c:=by obtain⟨p,rfl,a⟩:=h;exact⟨p,rfl,e _ _ a⟩
def aOj {α:Type}{K:bF4}{H H':Hp}{R S:V->α->Prop}{v:V}{xs:List α}(e:TK K H H')(k:∀a b,R a b->S a b)(h:lY K H R v xs):lY K H' S v xs:=by obtain⟨a,c,rfl,f,d⟩:=h;exact⟨a,c,rfl,e _ _ f,d.imp k⟩
theorem jH.tk (e:TK K H H')(h:jH K H v hd):jH K H' v hd:=aOj e (λ_ _ q=>q.tk e) h
theorem aUq (a:(hd.map (·.1)).Nodup)(h:c∈hd):look hd c.1=some c.2:=by
 induction hd with
 |nil=>cases h
 |cons x r ih=>
  rw[bAL,bFN] at a;unfold look;rw[bCH];rcases List.mem_cons.mp h with rfl|h
  ·rw[m9 rfl];rfl
  ·have b:¬ x.1=c.1:=λz=>a.1 (by rw[z];exact List.mem_map.mpr ⟨c,h,rfl⟩);rw[v9 b];exact ih a.2 h
theorem aB9 {α β:Type}{R:α->β->Prop}:∀{as:List α} {bs:List β},as.length=bs.length->(∀(i:Nat) (a:α) (b:β),as[i]?=some a->bs[i]?=some b->R a b)->cG R as bs
 |[],[],_,_=>.nil
 |[],_::_,h,_=>by cases h
 |_::_,[],h,_=>by cases h
 |a::as,b::bs,h,k=>.cons (k 0 a b rfl rfl) (aB9 (by simpa using h) λi x y c d=>k (i+1) x y (by simpa using c) (by simpa using d))
theorem pU {α:Type}:∀(k:Nat) (xs:List α),sel (λ_=>true) k xs=xs
 |_,[]=>rfl
 |k,x::r=>by show (if true=true then x::sel (λ_=>true) (k+1) r else _)=_;rw[if_pos rfl,pU (k+1) r]
def oJ (h:rZ R (List.range n) ys):ys.length=n/\∀i y,ys[i]?=some y->R i y:=by
 have d:∀{b:List Nat} {ys:List V},rZ R b ys->∀(i:Nat) (y:V),ys[i]?=some y->∃j,b[i]?=some j/\R j y:=by
  intro b ys h
  induction h with
  |nil=>intro i y e;simp at e
  |cons r _ ih=>
   intro i y e;cases i with
   |zero=>cases e;exact⟨_,rfl,r⟩
   |succ i=>obtain⟨j,a,c⟩:=ih i y (by simpa using e);exact⟨j,by simpa using a,c⟩
 have l:=h.len;rw[bAH] at l;refine⟨l.symm,λi y e=>?_⟩;obtain⟨j,a,c⟩:=d h i y e;have f:i<n:=by have:=(List.getElem?_eq_some_iff.mp e).1;lia
 rw[bCP f] at a;cases a;exact c
theorem aSo (h:KdR ks r):∀x∈r,(∃i,x=.int i)\/∃z,x=.str z:=by
 unfold KdR at h
 induction h with
 |nil=>intro x hx;cases hx
 |@cons b y _ _ h _ ih=>
  intro x hx;rcases List.mem_cons.mp hx with rfl|hx
  ·cases b with
   |true=>exact .inl h
   |false=>exact .inr h
  ·exact ih x hx
inductive aG3 (K:bF4)(vs:List V)(H:Hp)(Q:VK)(E_:XK):Prop
 |mk (a:Addr) (vh:V) (hd:Hdr) (_:vs=[.ref a,vh]) (_:iD H a) (_:jH K H vh hd) (_:aRl hd) (_:∀t H' r,Fx a H H'->H' t=some (.tup r)->gC hd r->Q (.ref t) H')
def aLn (T:Txt w K mg)(nZ:Ok P w K mg base 3 "_law_value" bQI aF2):Ok P w K mg base 4 "_law_row" bQA (aG3 K):=by
 refine Ok.ofV T.aNs aLl (by trivial) (λf Z A I s H vs Q E hr h=>?_)
 obtain⟨a,vh,hd,rfl,o,⟨b,X,rfl,F,O⟩,⟨u,C⟩,q⟩:=h;refine⟨_,(aD (aJ (cC lJ (by rfl) T.gZ eY (va1 (cI (N:=["_law_name","_law_kind","_law_state"]) (by trivial) (eE (aC uN) rfl (by decide +kernel)) rfl (pO (vv 1)) (λcl s' l fp=>⟨(rK (K:=K) (n:=2) rfl (aX (bJ (i:=0) (show (["_law_name","_law_kind","_law_state"]:List Str).Nodup from by decide +kernel) rfl (Or.inl rfl)) (aX (bJ (i:=1) (show (["_law_name","_law_kind","_law_state"]:List Str).Nodup from by decide +kernel) rfl (Or.inl rfl)) eO))),fW,(aV nZ (aH (vv 2) (va1 (vv 1))))⟩)))))),?_⟩;have lu:=O.len;have l8:=u.2.2;dsimp only[rA,tCB,dH];refine wU [none,none,some (.ref a)] ?_ ⟨_,rfl,b,rfl,⟨_,F⟩,aKm (Fx a) (aTz o) X (λ_=>true) (λi _ y=>∃d,hd[i]?=some d/\cF d.2 y) (λ_ _ h=>h) (λ_ _ _ h=>h) (λi σ=>∃d,hd[i]?=some d/\At2 [none,none,some (.ref a)] (.str d.1) (.str d.2) σ) (Ps2 [none,none,some (.ref a)]) ⟨none,none,rfl⟩ (small (by lia)) _ (aH8 λl e=>e.aR o F) (uV λl e=>e.aR o F) (λi x σ' l Q' B z e U=>?_) (λi x J B M l R e r=>r l (Fx.refl e.st)) (λi x J B M hp l R e r=>?_) λD H6 V f6 fD g6 m=>?_⟩
 ·refine⟨rfl,λi y v j g=>?_⟩
  match i,j,g with
  |0,_,g=>cases g
  |1,_,g=>cases g
  |2,j,g=>cases j;cases g;exact⟨by decide +kernel,0,rfl,rfl,by trivial⟩
  |i+3,j,_=>cases j
 ·obtain⟨d,c,p',rfl,p⟩:=cA O B;exact hg2 (e.aR o p) z fun J j g=>U J j ⟨d,c,g⟩
 ·obtain⟨d,c,rfl⟩:=M;exact⟨_,rfl,_,rfl,a,d.2,rfl,e.st,(C d (t8 c)).2,λv H2 f2 G=>r v H2 f2 ⟨d,c,G⟩⟩
 ·rw[pU] at m;obtain⟨l1,S⟩:=oJ m;refine⟨D,_,rfl,SqL.of g6,λt Y _ s3 W=>q t Y V (f6.sm s3) W (aB9 (by lia) λi k y L ey=>?_)⟩;obtain⟨d,c,G⟩:=S i y ey;rw[c] at L;cases L;exact G
end
end My
namespace L2
open PySem PySem.Spec PyProof.Rows
theorem aUd (d:KdV k a)(c:KdV k b)(h:kvlt a b=true):kvlt b a=false:=by
 cases k with
 |true=>obtain⟨x,rfl⟩:=d;obtain⟨y,rfl⟩:=c;have:=of_decide_eq_true (show decide (x<y)=true from h);exact v9 (by lia)
 |false=>obtain⟨x,rfl⟩:=d;obtain⟨y,rfl⟩:=c;have:=of_decide_eq_true (show decide (x.cps.toList<y.cps.toList)=true from h);exact v9 (List.lt_asymm this)
theorem bAx (f:KdV k a)(j:KdV k b)(i:KdV k c)(e:kvlt b a=false)(h:kvlt c b=false):kvlt c a=false:=by
 cases k with
 |true=>obtain⟨x,rfl⟩:=f;obtain⟨y,rfl⟩:=j;obtain⟨z,rfl⟩:=i;have:=of_decide_eq_false (show decide (y<x)=false from e);have:=of_decide_eq_false (show decide (z<y)=false from h);exact v9 (by lia)
 |false=>obtain⟨x,rfl⟩:=f;obtain⟨y,rfl⟩:=j;obtain⟨z,rfl⟩:=i;have d:=of_decide_eq_false (show decide (y.cps.toList<x.cps.toList)=false from e);have g:=of_decide_eq_false (show decide (z.cps.toList<y.cps.toList)=false from h);exact v9 (List.not_lt.mpr (List.le_trans (List.not_lt.mp d) (List.not_lt.mp g)))
theorem aSk (f:KdV k a)(l:KdV k b)(d:kvlt a b=false)(i:kvlt b a=false):a=b:=by
 cases k with
 |true=>obtain⟨x,rfl⟩:=f;obtain⟨y,rfl⟩:=l;have:=of_decide_eq_false (show decide (x<y)=false from d);have:=of_decide_eq_false (show decide (y<x)=false from i);rw[show x=y by lia]
 |false=>obtain⟨x,rfl⟩:=f;obtain⟨y,rfl⟩:=l;have c:=of_decide_eq_false (show decide (x.cps.toList<y.cps.toList)=false from d);have g:=of_decide_eq_false (show decide (y.cps.toList<x.cps.toList)=false from i);have e:=List.le_antisymm (List.not_lt.mp g) (List.not_lt.mp c);obtain⟨⟨h⟩⟩:=x;obtain⟨⟨j⟩⟩:=y;have:h=j:=e;rw[this]
theorem iV {k:Bool}{ks:List Bool}{a b:V}{r q:List V}(c:KdV k a)(d:KdV k b):rlt (a::r) (b::q)=if a=b then rlt r q else kvlt a b:=by
 cases k with
 |true=>
  obtain⟨x,rfl⟩:=c;obtain⟨y,rfl⟩:=d;show (if (x == y)=true then rlt r q else decide (x<y))=_;by_cases e:x=y
  ·subst e;rw[if_pos (by simp),if_pos rfl]
  ·rw[if_neg (by simpa using e),if_neg (by intro z;exact e (V.int.inj z))];rfl
 |false=>
  obtain⟨x,rfl⟩:=c;obtain⟨y,rfl⟩:=d;show (if (x == y)=true then rlt r q else decide (x.cps.toList<y.cps.toList))=_;by_cases e:x=y
  ·subst e;rw[if_pos (by simp),if_pos rfl]
  ·rw[if_neg (by simpa using e),if_neg (by intro z;exact e (V.str.inj z))];rfl
theorem aLr:∀{ks:List Bool} {a b:List V},KdR ks a->KdR ks b->rlt a b=true->rlt b a=false
 |_,_,_,.nil,.nil,h=>by cases (show false=true from h)
 |_,x::a,y::b,.cons (as:=ks) ha ta,.cons hb tb,h=>by
  rw[iV (ks:=ks) ha hb] at h;rw[iV (ks:=ks) hb ha];by_cases e:x=y
  ·rw[if_pos e] at h;rw[if_pos e.symm];exact aLr ta tb h
  ·rw[if_neg e] at h;rw[if_neg (Ne.symm e)];exact aUd ha hb h
theorem aTn:∀{ks:List Bool} {a b c:List V},KdR ks a->KdR ks b->KdR ks c->rlt b a=false->rlt c b=false->rlt c a=false
 |_,_,_,_,.nil,.nil,.nil,_,_=>rfl
 |_,x::a,y::b,z::c,.cons (as:=ks) ha ta,.cons hb tb,.cons hc tc,h1,h2=>by
  rw[iV (ks:=ks) hb ha] at h1;rw[iV (ks:=ks) hc hb] at h2;rw[iV (ks:=ks) hc ha];by_cases e:y=x
  ·subst e;rw[if_pos rfl] at h1;by_cases d:z=y
   ·subst d;rw[if_pos rfl] at h2 ⊢;exact aTn ta tb tc h1 h2
   ·rw[if_neg d] at h2 ⊢;exact h2
  ·rw[if_neg e] at h1;by_cases d:z=y
   ·subst d;rw[if_neg e];exact h1
   ·rw[if_neg d] at h2;by_cases f:z=x
    ·subst f;exact absurd (aSk hc hb h2 h1) d
    ·rw[if_neg f];exact bAx ha hb hc h1 h2
theorem aNb:∀{ks:List Bool} {a b:List V},KdR ks a->KdR ks b->rlt a b=false->rlt b a=false->a=b
 |_,_,_,.nil,.nil,_,_=>rfl
 |_,x::a,y::b,.cons (as:=ks) ha ta,.cons hb tb,h1,h2=>by
  rw[iV (ks:=ks) ha hb] at h1;rw[iV (ks:=ks) hb ha] at h2;by_cases e:x=y
  ·subst e;rw[if_pos rfl] at h1 h2;rw[aNb ta tb h1 h2]
  ·rw[if_neg e] at h1;rw[if_neg (Ne.symm e)] at h2;exact absurd (aSk ha hb h1 h2) e
def getD_mem {α:Type}{l:List α}{d:α}(hd:d∈l)(i:Nat):l.getD i d∈l:=by
 by_cases h:i<l.length
 ·rw[j4,b8 h];exact bAT h
 ·rw[j4,bAA (by lia)];exact hd
def range_getD {α:Type}(l:List α)(d:α):(List.range l.length).map (λi=>l.getD i d)=l:=by
 refine bCC λi=>?_;by_cases h:i<l.length
 ·rw[v7,bCP h,b8 h,Option.map_some,j4,b8 h];rfl
 ·rw[bAA (by simpa using h),bAA (by lia)]
theorem bEt {α:Type}{o:α->α->Bool}(l:List α)(d:α){n:Nat}(C:n=l.length)(f:∀a∈l,∀b∈l,o a b=true->o b a=false)(v:∀a∈l,∀b∈l,∀c∈l,o b a=false->o c b=false->o c a=false) :
  ((PySem.W.dM n λi j=>o (l.getD i d) (l.getD j d)).map λi=>l.getD i d).Perm l/\((PySem.W.dM n λi j=>o (l.getD i d) (l.getD j d)).map λi=>l.getD i d).Pairwise λa b=>o b a=false:=by
 subst C;cases l with
 |nil=>
  have e:PySem.W.dM ([]:List α).length (λi j=>o (([]:List α).getD i d) (([]:List α).getD j d))=[]:=by have:=PySem.W.rM ([]:List α).length (λi j=>o (([]:List α).getD i d) (([]:List α).getD j d));exact List.length_eq_zero_iff.mp this
  rw[e];exact⟨.nil,.nil⟩
 |cons x0 l0=>
  generalize B:x0::l0=l at f v;have m:x0∈l:=by rw[<-B];exact j0
  have p:PySem.W.dM l.length (λi j=>o (l.getD i d) (l.getD j d))=PySem.W.dM l.length (λi j=>o (l.getD i x0) (l.getD j x0)):=PySem.W.N4.aM3 λi j g s=>by rw[j4,j4,j4,j4,b8 g,b8 s];rfl
  have S:PySem.W.N4.Swo λi j=>o (l.getD i x0) (l.getD j x0):=⟨λ{i j} h=>f _ (getD_mem m i) _ (getD_mem m j) h,λ{i j k} r w=>v _ (getD_mem m i) _ (getD_mem m j) _ (getD_mem m k) r w⟩;obtain⟨u,t⟩:=PySem.W.N4.aI2 S;rw[<-p] at u t;have q:∀i∈PySem.W.dM l.length (λi j=>o (l.getD i d) (l.getD j d)),i<l.length:=λi g=>PySem.W.mJ g;refine⟨?_,?_⟩
  ·have:=u.map λi=>l.getD i d;rw[range_getD] at this;exact this
  ·refine List.pairwise_map.mpr (bEF ?_ t);intro i j g s r;have A:=q i g;have x:=q j s;have z:l.getD i x0=l.getD i d:=by rw[j4,j4,b8 A];rfl
   have y:l.getD j x0=l.getD j d:=by rw[j4,j4,b8 x];rfl
   rw[z,y] at r;exact r
def jR (h:∀r∈rs,KdR ks r):(srt rs).Perm rs/\(srt rs).Pairwise λa b=>rlt b a=false:=by obtain⟨f,g⟩:=bEt rs [] rfl (λa d b e=>aLr (h a d) (h b e)) (λa d b e c i=>aTn (h a d) (h b e) (h c i));exact⟨f,g⟩
theorem xU {α:Type}{lt:α->α->Bool}:∀{l m:List α},l.Perm m->(∀a∈l,∀b∈l,lt a b=false->lt b a=false->a=b)->l.Pairwise (λa b=>lt b a=false)->m.Pairwise (λa b=>lt b a=false)->l=m
 |[],m,p,_,_,_=>(List.perm_nil.mp p.symm).symm
 |a::l,[],p,_,_,_=>absurd (List.perm_nil.mp p) (by simp)
 |a::l,b::m,p,anti,hl,hm=>by
  rw[List.pairwise_cons] at hl hm;have d:=p.subset j0;have c:=p.symm.subset j0;have e:a=b:=by
   rcases List.mem_cons.mp d with z|z
   ·exact z
   ·rcases List.mem_cons.mp c with y|y
    ·exact y.symm
    ·exact anti a j0 b c (hm.1 a z) (hl.1 b y)
  subst e;rw[xU (List.Perm.cons_inv p) (λx g y f=>anti x (j5 _ g) y (j5 _ f)) hl.2 hm.2]
def qU (h:∀r∈rs,KdR ks r)(p:rs.Perm qs):srt rs=srt qs:=by have f:∀r∈qs,KdR ks r:=λr c=>h r (p.symm.subset c);obtain⟨d,j⟩:=jR h;obtain⟨g,k⟩:=jR f;have e:∀r∈srt rs,KdR ks r:=λr c=>h r (d.subset c);exact xU (d.trans (p.trans g.symm)) (λa i b l=>aNb (e a i) (e b l)) j k
end L2
namespace PySem.SeqAt
open PySem PySem.Spec
abbrev opG:Bool->CmpOp
 |true=>.Gt
 |false=>.LtE
def aZz (g:Bool)(A:Around)(s:Shared)(y x:Value)(b:Bool):Prop:=
 ∀prog w E Q,Q (.bool b) s->wpAny (model prog w) A (richCompare (opG g) y x) Q E s
def fnG:Bool->Args->Sem Fin
 |true=>Builtin.«tuple.__gt__»
 |false=>Builtin.«tuple.__le__»
def leW (e c:Nat->Bool)(l:List Nat)(z:Bool):Bool:=l.foldr (λj acc=>if e j then acc else c j) z
def aIc (g z:Bool)(I:z=!g)(l b:Addr)(items items2:Array Value)(n n2:Nat)(dd dd2:Option Addr)(sl sl2:Array (Option Value))(e c:Nat->Bool)(m:items.size=items2.size) :
  Meets (fnG g ⟨[.ref l,.ref b],[]⟩)
   (λA R s=>s.heap.get? l=some { cls:=.type "tuple",dict:=dd,data:=.seq items n,slots:=sl }/\s.heap.get? b=some { cls:=.type "tuple",dict:=dd2,data:=.seq items2 n2,slots:=sl2 } /\
    (∀j (h1:j<items.size) (h2:j<items2.size),EqAt A.in1 s items[j] items2[j] (e j))/\(∀j (h1:j<items.size) (h2:j<items2.size),aZz g A.in1 s items[j] items2[j] (c j)) /\
    R (.ok (.ret (.bool (leW e c (List.range items.size) z)))) s):=
 .of_wp λa w A R s h=>by
  cases g;all_goals
   unfold fnG;obtain⟨t,r,d,p,o⟩:=s;obtain⟨H,F,G,K,h⟩:=h;have M:=AutoSeq1.sub_tuple_tuple;have C:(items.toList.zip items2.toList).length=items.size:=by simp[m]
   wp_walk using wpAny_loadPart' H,wpAny_loadPart' F,bFH _ (λk b B=>b.1=none/\B=⟨t,r,d,p,o⟩/\∃i,k=(items.toList.zip items2.toList).drop i /\
    R (.ok (.ret (.bool (leW e c ((List.range items.size).drop i) z)))) ⟨t,r,d,p,o⟩) _
   case turn=>
    rintro⟨y,x⟩ k b B ⟨hb',rfl,i,hz,hR⟩;have q:i<(items.toList.zip items2.toList).length:=by
     rcases Nat.lt_or_ge i (items.toList.zip items2.toList).length with h'|h'
     ·exact h'
     ·rw[bEW h'] at hz;cases hz
    have h1:i<items.size:=C ▸ q;have h2:i<items2.size:=m ▸ h1;rw[bDZ q] at hz;injection hz with hyx hrest;have u:y=items[i]:=by have:=congrArg Prod.fst hyx;simpa using this
    have J:x=items2[i]:=by have:=congrArg Prod.snd hyx;simpa using this
    subst u J;have hd:(List.range items.size).drop i=i::(List.range items.size).drop (i+1):=by simp[bDZ,h1]
    rw[hd] at hR;have f:R (.ok (.ret (.bool (if e i then leW e c ((List.range items.size).drop (i+1)) z else c i)))) ⟨t,r,d,p,o⟩:=hR;refine b7 (G i h1 h2 a w _ _ ?_);cases u:e i with
    |true=>rw[u] at f;wp_walk;exact⟨rfl,rfl,i+1,hrest,by simpa using f⟩
    |false=>rw[u] at f;have D:∀{E:bF5} {Q:bF5},Q (.bool (c i)) ⟨t,r,d,p,o⟩->wpAny (model a w) A.in1 (richCompare _ items[i] items2[i]) Q E ⟨t,r,d,p,o⟩:=λ{E Q} h=>K i h1 h2 a w E Q h;wp_walk using D;exact⟨_,rfl,by simpa using f⟩
   case fin=>
    rintro⟨L,N⟩ B ⟨hb',rfl,i,hz,hR⟩;simp only at hb';subst hb';have v:items.size<=i:=by
     rcases Nat.lt_or_ge i (items.toList.zip items2.toList).length with h'|h'
     ·rw[bDZ h'] at hz;cases hz
     ·exact C ▸ h'
    rw[bEW (by simpa using v)] at hR;wp_walk;exact⟨_,rfl,by simpa [Builtin.Tuple.tupleCompareSizes,m,leW,I] using hR⟩
   case h=>exact⟨rfl,rfl,0,rfl,by simpa using h⟩
end PySem.SeqAt
namespace L2
open PySem PySem.Spec PyProof.Rows
theorem aKz (g:Bool):∀{ks:List Bool} {a b:List V},KdR ks a->KdR ks b->SeqAt.leW (λj=>decide (a.getD j .non=b.getD j .non)) (λj=>kvlt (b.getD j .non) (a.getD j .non) == g) (List.range a.length) (!g)=(rlt b a == g)
 |_,_,_,.nil,.nil=>by cases g <;> rfl
 |_,x::a,y::b,.cons (as:=ks) ha ta,.cons hb tb=>by
  have c:=aKz g ta tb;rw[iV (ks:=ks) hb ha,m8,List.range_succ_eq_map];show (if decide (x=y)=true then SeqAt.leW (λj=>decide ((x::a).getD j .non=(y::b).getD j .non)) (λj=>kvlt ((y::b).getD j .non) ((x::a).getD j .non) == g) ((List.range a.length).map Nat.succ) (!g) else (kvlt y x == g))=_;by_cases e:x=y
  ·rw[if_pos (m9 e),if_pos e.symm,<-c];unfold SeqAt.leW;rw[List.foldr_map];rfl
  ·rw[if_neg (by rw[v9 e];exact v5),if_neg (Ne.symm e)]
section
variable {X:Cx}
def bDr (g:Bool)(K:bF4):R2:=λx y H Q=>∃ks r q,cM K H x r/\cM K H y q/\KdR ks r/\KdR ks q/\Q (.bl (rlt q r == g)) H
theorem aOu (g:Bool)(hu:X.A.units+64<cLine):OpR X (compareOp (SeqAt.opG g)) (bDr g X.K):=by
 intro a5 s σ H x y v u Q I rx ry h;obtain⟨ks,r,q,⟨a,rfl,ha⟩,⟨b,rfl,hb⟩,hr,Y,J⟩:=h;cases rx;cases ry;obtain⟨f,r1,⟨⟨a4,dd,a3,sl⟩,W,hc,n,hd⟩,hz⟩:=I.tuple ha;obtain⟨i,r2,⟨⟨a2,a1,Z,a0⟩,o,O,n2,T⟩,hw⟩:=I.tuple hb;simp only at hc hd O T;subst hc hd O T;have l1:=r1.length;have l2:=r2.length;have G:=Al2.len hr;have p:=Al2.len Y;have D:∀j (t:j<f.toArray.size) (C:j<i.toArray.size),∃k,KdV k (r.getD j .non)/\KdV k (q.getD j .non)/\RelV (r.getD j .non) f.toArray[j]/\RelV (q.getD j .non) i.toArray[j]:=λj t C=>by
  rw[d9] at t C;have hj:j<ks.length:=by lia
  have M:j<r.length:=by lia
  have L:j<q.length:=by lia
  have er:r.getD j .non=r[j]:=by simp[M]
  have eq:q.getD j .non=q[j]:=by simp[L]
  obtain⟨w1,g1,g2⟩:=r1.get (b8 M);obtain⟨w2,g3,g4⟩:=r2.get (b8 L);rw[er,eq];refine⟨ks[j],hr.get (b8 hj) (b8 M),Y.get (b8 hj) (b8 L),?_,?_⟩
  ·rw[bCA,(List.getElem?_eq_some_iff.mp g1).2];exact g2
  ·rw[bCA,(List.getElem?_eq_some_iff.mp g3).2];exact g4
 have sz:f.toArray.size=r.length:=by rw[d9];lia
 have sj:f.toArray.size=i.toArray.size:=by rw[d9,d9];lia
 have tc:=SeqAt.aIc g (!g) rfl a b f.toArray i.toArray n n2 dd a1 sl a0 (λj=>decide (r.getD j .non=q.getD j .non)) (λj=>kvlt (q.getD j .non) (r.getD j .non) == g) sj;have B:=aKz g hr Y;have m:∀j (t:j<f.toArray.size) (C:j<i.toArray.size),SeqAt.EqAt X.A.in1 s f.toArray[j] i.toArray[j] (decide (r.getD j .non=q.getD j .non)):=λj t C=>by
  obtain⟨k,G,p,m,l⟩:=D j t C;generalize r.getD j .non=y1 at G m;generalize q.getD j .non=y2 at p l;generalize f.toArray[j]=w1 at m;generalize i.toArray[j]=w2 at l;cases k with
  |true=>
   obtain⟨c,rfl⟩:=G;obtain⟨d,rfl⟩:=p;obtain⟨R,rfl⟩:=m;obtain⟨S,rfl⟩:=l;have z:=bEL (A:=X.A.in1) (s:=s) c R d S;have e:(c == d)=decide (V.int c=V.int d):=by by_cases e:c=d <;> simp[e]
   rw[<-e];exact z
  |false=>
   obtain⟨c,rfl⟩:=G;obtain⟨d,rfl⟩:=p;obtain⟨R,rfl⟩:=m;obtain⟨S,rfl⟩:=l;have z:=bDK (A:=X.A.in1) (s:=s) c R d S;have e:(c == d)=decide (V.str c=V.str d):=by by_cases e:c=d <;> simp[e]
   rw[<-e];exact z
 have l:∀j (t:j<f.toArray.size) (C:j<i.toArray.size),SeqAt.aZz g X.A.in1 s f.toArray[j] i.toArray[j] (kvlt (q.getD j .non) (r.getD j .non) == g):=λj t C=>by
  obtain⟨k,G,p,m,l⟩:=D j t C;generalize r.getD j .non=y1 at G m;generalize q.getD j .non=y2 at p l;generalize f.toArray[j]=w1 at m;generalize i.toArray[j]=w2 at l;cases k with
  |true=>
   obtain⟨c,rfl⟩:=G;obtain⟨d,rfl⟩:=p;obtain⟨R,rfl⟩:=m;obtain⟨S,rfl⟩:=l;intro N w E Q U;cases g
   ·refine le_int ?_;have e:decide (c<=d)=(kvlt (.int d) (.int c) == false):=by show decide (c<=d)=(decide (d<c) == false);by_cases z:c<=d <;> simp[z] <;> lia
    rw[e];exact U
   ·refine gt_int ?_;rw[show decide (d<c)=(kvlt (.int d) (.int c) == true) by show _=(decide (d<c) == true);simp];exact U
  |false=>
   obtain⟨c,rfl⟩:=G;obtain⟨d,rfl⟩:=p;obtain⟨R,rfl⟩:=m;obtain⟨S,rfl⟩:=l;intro N w E Q U;cases g
   ·refine P.le_str ?_;rw[show (!decide (d.cps.toList<c.cps.toList))=(kvlt (.str d) (.str c) == false) by show _=(decide (d.cps.toList<c.cps.toList) == false);simp];exact U
   ·refine P.gt_str ?_;rw[show decide (d.cps.toList<c.cps.toList)=(kvlt (.str d) (.str c) == true) by show _=(decide (d.cps.toList<c.cps.toList) == true);simp];exact U
 rw[<-sz] at B;rw[<-B] at J;cases g
 ·exact richCompare_meets_room (op:=.LtE) ⟨_,W,rfl⟩ ⟨_,o,rfl⟩ F.slot_tuple_le F.entry_tuple_le (F.args_tuple_le_2 _ _) tc ⟨W,o,m,l,(λz=>nomatch z),⟨.bl _,H,I,rfl,J⟩⟩ (by lia)
 ·exact richCompare_meets_room (op:=.Gt) ⟨_,W,rfl⟩ ⟨_,o,rfl⟩ F.slot_tuple_gt F.entry_tuple_gt (F.args_tuple_gt_2 _ _) tc ⟨W,o,m,l,(λz=>nomatch z),⟨.bl _,H,I,rfl,J⟩⟩ (by lia)
def bDj (K:bF4):R2:=λx y H Q=>∃ks r q,cM K H x r/\cM K H y q/\KdR ks r/\KdR ks q/\Q (.bl (!rlt q r)) H
def bEa (K:bF4):R2:=λx y H Q=>∃ks r q,cM K H x r/\cM K H y q/\KdR ks r/\KdR ks q/\Q (.bl (rlt q r)) H
def bAc (j:X.A.units+64<cLine):OpR X (compareOp .LtE) (bDj X.K):=λa s σ H x y v u Q I f i ⟨g,r,q,e,b,d,c,h⟩=>aOu false j a s σ H x y v u Q I f i ⟨g,r,q,e,b,d,c,by rw[show (rlt q r == false)=!rlt q r by simp];exact h⟩
def aUr (j:X.A.units+64<cLine):OpR X (compareOp .Gt) (bEa X.K):=λa s σ H x y v u Q I f i ⟨g,r,q,e,b,d,c,h⟩=>aOu true j a s σ H x y v u Q I f i ⟨g,r,q,e,b,d,c,by rw[show (rlt q r == true)=rlt q r by simp];exact h⟩
theorem aHn {K:bF4}{H:Hp}:∀{r:List V},(∀x∈r,(∃i,x=.int i)\/∃z,x=.str z)->∀n,Al2 (DEq K H n) r r
 |[],_,_=>.nil
 |x::r,h,n=>.cons (by rcases h x j0 with⟨i,rfl⟩|⟨z,rfl⟩ <;> cases n <;> first|exact⟨rfl,rfl⟩|exact .inl ⟨rfl,rfl⟩) (aHn (λy a=>h y (j5 _ a)) n)
def aUv {K:bF4}{H:Hp}{us ws:List V}{rs:List (List V)}(f:Al2 (cM K H) us rs)(j:Al2 (cM K H) ws rs)(l:∀r∈rs,∀x∈r,(∃i,x=.int i)\/∃z,x=.str z):Al2 (DEq K H 40) us ws:=by refine Al2.of (f.len.trans j.len.symm) λi u w e h=>?_;obtain⟨r,d,a,rfl,g⟩:=f.at e;obtain⟨m,c,b,rfl,k⟩:=j.at h;rw[d] at c;cases c;exact .inr ⟨a,b,r,r,rfl,rfl,g,k,aHn (l r (t8 d)) 39⟩
def aYv (K:bF4):R2:=λx y H Q=>∃a b us ws rs,x=.ref a/\y=.ref b/\SqL K H a us/\SqL K H b ws/\Al2 (cM K H) us rs/\Al2 (cM K H) ws rs/\(∀r∈rs,∀x∈r,(∃i,x=.int i)\/∃z,x=.str z)/\Q (.bl false) H
def yH (hu:X.A.units+64<cLine):OpR X (compareOp .NotEq) (aYv X.K):=by
 intro k s σ H x y v u Q I r C h;obtain⟨a,b,D,J,G,rfl,rfl,i,t,B,j,o,q⟩:=h;cases r;cases C;obtain⟨m,f,p,L⟩:=I.list i;obtain⟨w,c,z,F⟩:=I.list t;have d:=aUv B j o;have l:=d.len;have M:=f.length;have E:=c.length;refine SeqAt.RcNeAt.lists (e:=λ_=>true) p.isList z.isList (by rw[d9,d9];lia) (by lia) (uM I f c d λd n g=>yK I 40 d n g (by show X.A.units+1+40<cLine;lia)) _ _ _ _ ?_;first
  |(rw[vN];exact⟨.bl _,H,I,rfl,q⟩)
  |(simp only[vN];exact⟨.bl _,H,I,rfl,q⟩)
end
end L2
namespace My
open PySem PySem.Spec PyProof.Rows L2
section
variable {P:Program}{w:World}{K:bF4}{mg:bF7}{base:Heap}
def aUm (a:X.A.units+1<cLine)(ho:VE X o td)(b:VE X e ty)(m:M1 X o "get" apos e cpos:=by exact⟨rfl,rfl,rfl,rfl⟩):VE X (.Call (.Attribute o "get" apos) [e] [] cpos) (aTm td ty):=⟨aU8 a ho.1 b.1 m⟩
def bB0 (a:X.A.units+1<cLine)(hi:VE X i ty)(ho:VE X o td)(b:behindInMarks .In o=false:=by first|exact nobehind _ (by decide) (by decide)|rfl):VT X (.Compare i [.In] [o] pos) (tB (bDu ty td)):=⟨aSw (aZ3 a hi.1 ho.1) b⟩
def aZm:Sp:=λ_ _ _ _=>False
structure bC (K:bF4)(H:Hp)(C x:Addr)(m:Int)(d dm:Addr)(es:List En):Prop where
 at_:∃dx,H x=some (.ins C dx [("placed",.ref d),("house_count",.int m),("moves",.ref dm)])
 ens:jZ K H d es
 ok:∀e∈es,jC m e.t
 ne:d≠dm
theorem bC.same (s:Same H H')(h:bC K H C x m d dm es):bC K H' C x m d dm es:=
 ⟨let ⟨dx,h1⟩:=h.at_;⟨dx,s _ _ h1⟩,h.ens.same s,h.ok,h.ne⟩
structure Mv where
 num:Nat
 house:Int
 mark:Option (List V)
def aHh (K:bF4)(H:Hp)(v:V):Option (List V)->Prop
 |none=>v=.non
 |some r=>cM K H v r
def mH (K:bF4)(H:Hp)(v:V)(q:Mv):Prop:=∃a vm,v=.ref a/\SqT K H a [.int q.num,.int q.house,vm]/\aHh K H vm q.mark
theorem aHh.tk (k:∀p xs,SqT K H p xs->SqT K H' p xs)(h:aHh K H v o):aHh K H' v o:=by
 cases o with
 |none=>exact h
 |some r=>obtain⟨a,e,b⟩:=h;exact⟨a,e,k _ _ b⟩
theorem mH.tk (k:∀p xs,SqT K H p xs->SqT K H' p xs)(h:mH K H v q):mH K H' v q:=
 let ⟨a,vm,e,ha,hm⟩:=h;⟨a,vm,e,k _ _ ha,hm.tk k⟩
def mH.same (s:Same H H')(h:mH K H v q):mH K H' v q:=h.tk λ_ _=>s.aR
def aHh.same (s:Same H H')(h:aHh K H v o):aHh K H' v o:=h.tk λ_ _=>s.aR
def MvV (K:bF4)(H:Hp)(v:V):Option Mv->Prop
 |none=>v=.non
 |some q=>mH K H v q
def MvD (K:bF4)(H:Hp)(dm:Addr)(nm:Str)(o:Option Mv):Prop:=∃v,MvV K H v o/\H dm=some (.dK (match o with|none=>[]|some _=>[(Sum.inr nm,v)]))
theorem MvD.same {H H':Hp}{dm:Addr}{nm:Str}{o:Option Mv}(s:Same H H')(h:MvD K H dm nm o):MvD K H' dm nm o:=by
 obtain⟨v,a,b⟩:=h;refine⟨v,?_,s _ _ b⟩;cases o with
 |none=>exact a
 |some q=>exact mH.same s a
inductive aLc (K:bF4)(C Pt:Addr)(vs:List V)(H:Hp)(Q:VK)(E_:XK):Prop
 |mk (H0:Hp) (x dx d:Addr) (m:Int) (es:List En) (_:vs=[.ref x,.int m,.ref d]) (_:H x=some (.ins C dx [])) (_:H0 x=none) (_:Same H0 H) (_:1<=m) (_:m<=6) (_:jZ K H0 d es) (_:(∀e∈es,jC m e.t)) (_:H0 Pt=some (.tab qC)) (_:∀d' dm H' es',H0 d'=none->H0 dm=none->Same H0 H'->bC K H' C x m d' dm es'->H' dm=some (.dK [])->cG (λe e'=>∃v L,e'=aBr e v L/\H0 L=none) es es'->Q .non H')
def aSe (T:Txt w K mg){C Pt:Addr}(c:Cls K C)(D:dZ K C "__init__" "Store.__init__" iM ["self","houses","tables"])(n1:bK K C "placed")(n2:bK K C "house_count")(n3:bK K C "moves")(jE:Ok P w K mg base 10 "placed_tables" u6 (yZ K Pt)):OkM P w K mg base C 11 "__init__" o8 (aLc K C Pt):=by
 refine OkM.ofV c D vD (by trivial) (λf Y A N s H vs Q E hr h=>?_)
 obtain⟨H0,x,a,d,m,es,rfl,W,hN,n,m1,m6,hE,U,hP,q⟩:=h;refine⟨_,(aB (aBz (K:=K) (vv 0) (aV jE (aH (vv 1) (va1 (vv 2))))) (aB (aBz (K:=K) (vv 0) (vv 1)) (aD (aBz (K:=K) (vv 0) aUj)))),?_⟩;refine⟨_,rfl,_,rfl,d,m,es,rfl,m1,m6,hE.same n,U,n _ _ hP,λi k J l B g V=>?_⟩;have p:=B _ _ W;refine⟨_,rfl,x,C,a,[],rfl,p,c,n1,by decide,?_⟩;refine⟨_,rfl,_,rfl,x,C,a,_,rfl,aF,c,n2,by show 1<1000;decide,?_⟩;have nx:eU k x:=eU.ins p;have t:i≠x:=λz=>by rw[z,W] at l;cases l
 have M:But x k (L2.upd (L2.upd k x (.ins C a (iG "placed" (.ref i) []))) x (.ins C a (iG "house_count" (.int m) (iG "placed" (.ref i) [])))):=λb o r h=>by rw[aK r,aK r];exact h
 have F:L2.upd (L2.upd k x (.ins C a (iG "placed" (.ref i) []))) x (.ins C a (iG "house_count" (.int m) (iG "placed" (.ref i) []))) x=some (.ins C a [("placed",.ref i),("house_count",.int m)]):=aF;have O:∀{b},L2.upd (L2.upd k x (.ins C a (iG "placed" (.ref i) []))) x (.ins C a (iG "house_count" (.int m) (iG "placed" (.ref i) []))) b=none->k b=none:=λ{b} h=>by
  by_cases z:b=x
  ·rw[z,aF] at h;cases h
  ·rw[aK z,aK z] at h;exact h
 generalize L2.upd (L2.upd k x (.ins C a (iG "placed" (.ref i) []))) x (.ins C a (iG "house_count" (.int m) (iG "placed" (.ref i) [])))=H2 at M F O ⊢;refine λu R j S g3=>?_;refine⟨_,rfl,x,C,a,_,rfl,S _ _ F,c,n3,by show 2<1000;decide,?_⟩;have y:But x k (L2.upd R x (.ins C a [("placed",.ref i),("house_count",.int m),("moves",.ref u)])):=λb o r h=>by rw[aK r];exact S _ _ (M _ _ r h)
 have G:u≠x:=λz=>by rw[z,F] at j;cases j
 have s2:Same H0 (L2.upd R x (.ins C a [("placed",.ref i),("house_count",.int m),("moves",.ref u)])):=λb o h=>y _ _ (λz=>by rw[z,hN] at h;cases h) (B _ _ (n _ _ h));refine q i u _ J (none_of n l) (none_of (n.trans B) (O j)) s2 ⟨⟨a,aF⟩,⟨y _ _ t g.at_,g.nd,g.few,g.nm,λe I=>y.tb nx (g.tb e I)⟩,λe I=>?_,λz=>?_⟩ (by rw[aK G];exact g3) (V.imp λe e' ⟨v,L,e1,Z⟩=>⟨v,L,e1,none_of n Z⟩)
 ·obtain⟨X,h0,v,L,rfl,_⟩:=aEi V I;exact (U X h0).sorted
 ·have:=M _ _ t g.at_;rw[z,j] at this;cases this
inductive aPc (K:bF4)(C Ct Pt:Addr)(vs:List V)(H:Hp)(Q:VK)(E_:XK):Prop
 |mk (x d dm:Addr) (m:Int) (es:List En) (_:vs=[.ref x]) (_:bC K H C x m d dm es) (_:1<=m) (_:m<=6) (_:H Pt=some (.tab qC)) (_:∀y d' H' es',H y=none->H d'=none->Same H H'->qW K H' Ct y m d' es'->cG (λe e'=>∃v L,e'=aBr e v L/\H L=none) es es'->Q (.ref y) H')
def aVc (T:Txt w K mg)(c:Cls K C)(D:dZ K C "town" "Store.town" nG ["self"])(O:bK K C "placed")(M:bK K C "house_count")(a:OkC P w K mg base Ct 11 "Town" o8 (aPm K Ct Pt)):OkM P w K mg base C 13 "town" ["self"] (aPc K C Ct Pt):=by
 refine OkM.ofV c D aDz (by trivial) (λf t A j s H R Q E o h=>?_)
 obtain⟨x,d,N,m,I,rfl,b,L,u,G,q⟩:=h;refine⟨_,(aD (aJ (aPd (a.mono (by decide)) o (by rfl) (aH (cT (K:=K) (vv 0)) (va1 (cT (K:=K) (vv 0))))))),?_⟩;obtain⟨l,n⟩:=b.at_;refine⟨_,rfl,x,C,l,_,_,rfl,n,c,M,rfl,_,rfl,x,C,l,_,_,rfl,n,c,O,rfl,λy z k e B=>?_⟩;refine⟨H,y,z,d,m,I,rfl,aF,k,gH k (aW e _),L,u,b.ens,b.ok,G,λJ v g i p r F=>⟨rfl,?_⟩⟩;exact q y J v g k i p r F
inductive aAz (K:bF4)(C:Addr)(vs:List V)(H:Hp)(Q:VK)(E_:XK):Prop
 |mk (x d dm:Addr) (m:Int) (es:List En) (e:En) (n:Str) (h0:Int) (cs:List (V × Int)) (_:vs=[.ref x,.str e.n]) (_:bC K H C x m d dm es) (_:e∈es) (_:e.t.pl=.spans n h0 cs) (_:∀H',Same H H'->Q e.v H')
def aSx (T:Txt w K mg)(c:Cls K C)(D:dZ K C "cut_table" "Store.cut_table" gJ ["self","name"])(R:bK K C "placed")(W:Ok P w K mg base 3 "table_in" o5 (nJ K)):OkM P w K mg base C 4 "cut_table" n6 (aAz K C):=by
 refine OkM.ofV c D kZ (by trivial) (λf t A j s H S Q E I h=>?_)
 obtain⟨x,d,N,m,z,e,n,M,J,rfl,i,o,g,q⟩:=h;have G:=kZ.nd;refine⟨_,(aB (aZ 2 (aV W (aH (cT (K:=K) (vv 0)) (va1 (vv 1))))) (aB (bM (cZ vV (aO aP (aO aP (vv 2) aA) aA) bB) (aD dX) aU) (aD (aJ (vv 2))))),?_⟩;obtain⟨r,v⟩:=i.at_;refine⟨_,rfl,x,C,r,_,_,rfl,v,c,R,rfl,_,rfl,d,z,e,rfl,i.ens,o,λB k=>?_⟩;obtain⟨a,F,p,U,l,L⟩:=(i.ens.tb e o).same k;rw[g] at l;obtain⟨b,O,y,u,V⟩:=l;refine⟨_,rfl,a,_,1,_,F,rfl,p,at1 _ _ _,b,_,0,_,y,rfl,u,at0 _ _,rfl,_,rfl,dI (by decide) ?_⟩;exact⟨_,rfl,q B k⟩
inductive aLu (K:bF4)(C:Addr)(vs:List V)(H:Hp)(Q:VK)(E_:XK):Prop
 |mk (x d dm:Addr) (m:Int) (es:List En) (n:Str) (_:vs=[.ref x,.str n]) (_:bC K H C x m d dm es) (_:H dm=some (.dK [])) (_:Q .non H)
def aRb (T:Txt w K mg)(c:Cls K C)(D:dZ K C "need_still" "Store.need_still" fV ["self","name"])(t:bK K C "moves"):OkM P w K mg base C 1 "need_still" n6 (aLu K C):=by
 refine OkM.ofV c D rW (by trivial) (λf j A a s H p Q E b h=>?_)
 obtain⟨x,d,g,m,r,n,rfl,e,l,q⟩:=h;have o:=pA b;refine⟨_,(aD (bM (bB0 o (vv 1) (cT (K:=K) (vv 0))) (aD dX) aU)),?_⟩;obtain⟨i,k⟩:=e.at_;exact⟨_,rfl,_,rfl,x,C,i,_,_,rfl,k,c,t,rfl,g,none,rfl,.inl ⟨_,Sum.inr n,.inl l,rfl,rfl⟩,_,rfl,bY q⟩
inductive zF (K:bF4)(C:Addr)(vs:List V)(H:Hp)(Q:VK)(E_:XK):Prop
 |mk (x d dm:Addr) (m:Int) (es:List En) (n:Str) (v:V) (_:vs=[.ref x,.str n]) (_:bC K H C x m d dm es) (_:H dm=some (.dK [(Sum.inr n,v)])) (_:Q v H)
def vZ (n:Str)(v:V):nO [((Sum.inr n:Key),v)] (Sum.inr n)=some v:=mK rfl
def aNn (T:Txt w K mg)(c:Cls K C)(D:dZ K C "move_of" "Store.move_of" jF ["self","name"])(p:bK K C "moves"):OkM P w K mg base C 1 "move_of" n6 (zF K C):=by
 refine OkM.ofV c D xK (by trivial) (λf o A a s H r Q E k h=>?_)
 obtain⟨x,d,b,m,t,n,v,rfl,l,i,q⟩:=h;have j:=pA k;refine⟨_,(aB (bM (aE8 j (vv 1) (cT (K:=K) (vv 0))) (aD dX) aU) (aD (aJ (aAv j (cT (K:=K) (vv 0)) (vv 1) (λ_ _=>rfl))))),?_⟩;obtain⟨e,g⟩:=l.at_;refine⟨_,rfl,_,rfl,x,C,e,_,_,rfl,g,c,p,rfl,b,some v,rfl,.inl ⟨_,Sum.inr n,.inl i,rfl,(vZ n v).symm⟩,_,rfl,bY ?_⟩;exact⟨_,rfl,x,C,e,_,_,rfl,g,c,p,rfl,_,rfl,b,v,rfl,.inl ⟨_,Sum.inr n,.inl i,rfl,(vZ n v).symm⟩,q⟩
inductive yJ (K:bF4)(C:Addr)(vs:List V)(H:Hp)(Q:VK)(E_:XK):Prop
 |mk (x d dm:Addr) (m:Int) (es:List En) (e:En) (o:Option Mv) (_:vs=[.ref x,.str e.n]) (_:bC K H C x m d dm es) (_:e∈es) (_:MvD K H dm e.n o) (_:∀v H',Same H H'->MvV K H' v o->Q v H')
theorem aNw (T:Txt w K mg)(c:Cls K C)(D:dZ K C "moving" "Store.moving" kE ["self","name"])(G:bK K C "placed")(y:bK K C "moves")(J:Ok P w K mg base 3 "table_in" o5 (nJ K)):OkM P w K mg base C 4 "moving" n6 (yJ K C):=by
 refine OkM.ofV c D aAn (by trivial) (λf r A i s H I Q E p h=>?_)
 obtain⟨x,d,k,m,t,e,o,rfl,j,F,z,q⟩:=h;have B:=pA p;refine⟨_,(aB (dJ (aV J (aH (cT (K:=K) (vv 0)) (va1 (vv 1))))) (aD (aJ (aUm B (cT (K:=K) (vv 0)) (vv 1))))),?_⟩;obtain⟨b,g⟩:=j.at_;refine⟨_,rfl,x,C,b,_,_,rfl,g,c,G,rfl,_,rfl,d,t,e,rfl,j.ens,F,λl a=>?_⟩;obtain⟨v,u,hd⟩:=z.same a;cases o with
 |none=>exact⟨_,rfl,x,C,b,_,_,rfl,a _ _ g,c,y,rfl,k,rfl,.inl ⟨_,.inl hd⟩,_,rfl,none,.inl ⟨_,Sum.inr e.n,.inl hd,rfl,rfl⟩,q .non l a rfl⟩
 |some mq=>exact⟨_,rfl,x,C,b,_,_,rfl,a _ _ g,c,y,rfl,k,rfl,.inl ⟨_,.inl hd⟩,_,rfl,some v,.inl ⟨_,Sum.inr e.n,.inl hd,rfl,(vZ e.n v).symm⟩,q v l a u⟩
def rH (t:bW K H a rs)(hl:rs.length<=1000)(p:List V->Bool)(o:σ0[0]?=some none)
  (n:∀(u:V) (r:List V),r∈rs->∀H' R l,Same H H'->cM K H' u r->(∀H2,Same H' H2->R (p r) H2)->tt ((σ0.set 0 l).set 0 (some u)) H' R)
  (q:∀D H',H D=none->Same H H'->bW K H' D (rs.filter p)->Q (.ref D) H'):qN (Itl K a) H σ0 (bO 0) tt (rR 0) Q:=by
 obtain⟨f,g,b⟩:=t;have v:=b.len;refine aC9 f (λi=>p (rs.getD i [])) σ0 (small (by lia)) (aX8 λH' s=>SqL.of (s _ _ g)) (aR1 λH' s=>SqL.of (s _ _ g)) (λi u k H' R l c e=>?_) o λD H' j c m=>?_
 ·obtain⟨r,d,h⟩:=cA b k;rw[j4,d,bBN] at e;exact n u r (t8 d) H' R l c (h.same c) e
 ·refine q D H' j c ⟨_,m,?_⟩;rw[<-kY (p:=λi=>p (rs.getD i [])) (p':=p) λi r d=>by rw[bDN,j4,d];rfl];exact (aCo b 0).imp λ_ _ r=>r.same c
def fX (hd:Hdr)(n:Str)(cs:List (V × Int))(num:Nat)(r:List V):Bool:=decide (iH (r.getD (plc hd n) .non) cs 1 0=num)
def xW:Option (List V)->List V->Bool
 |none,_=>true
 |some q,r=>rlt q r
inductive aCv (K:bF4)(vs:List V)(H:Hp)(Q:VK)(E_:XK):Prop
 |mk (vr vm:V) (r:List V) (o:Option (List V)) (ks:List Bool) (_:vs=[vr,vm]) (_:cM K H vr r) (_:aHh K H vm o) (_:KdR ks r) (_:(∀q,o=some q->KdR ks q)) (_:Q (.bl (xW o r)) H)
theorem aKa (T:Txt w K mg):Ok P w K mg base 1 "is_above" ["row","mark"] (aCv K):=by
 refine Ok.ofV T.aMh aLm (by trivial) (λf k A c s H t Q E i h=>?_)
 obtain⟨n,p,r,o,m,rfl,a,d,j,g,q⟩:=h;have l:=i.units;refine⟨_,(aD (aJ (aZ1 (vL aF0 (vv 1) fU) (gY (vL (aUr l) (vv 0) (vv 1)))))),?_⟩;cases o with
 |none=>cases d;exact⟨_,rfl,rfl,_,rfl,iZ (m9 rfl) q⟩
 |some b=>obtain⟨u,rfl,e⟩:=id d;exact⟨_,rfl,rfl,_,rfl,dI (v9 λz=>by cases z) ⟨_,rfl,_,rfl,m,r,b,a,d,j,g b rfl,q⟩⟩
inductive aBt (K:bF4)(vs:List V)(H:Hp)(Q:VK)(E_:XK):Prop
 |mk (v vh vp:V) (L:Addr) (t:Tb) (m:Int) (num:Nat) (n:Str) (h0:Int) (cs:List (V × Int)) (_:vs=[v,.int num]) (_:lC K H v vh vp L t) (_:jC m t) (_:t.pl=.spans n h0 cs) (_:∀D' H',H D'=none->Same H H'->bW K H' D' (t.rows.filter (fX t.hd n cs num))->Q (.ref D') H')
def aG2 (T:Txt w K mg)(tU:Ok P w K mg base 2 "place_of" bQJ (mG K))(a0:Ok P w K mg base 1 "cut_of" ["cuts","value"] (aBd K)):Ok P w K mg base 3 "span_rows" ["table","number"] (aBt K):=by
 refine Ok.ofV T.aJj wI (by trivial) (λf a2 A U s H vs Q E hr h=>?_)
 obtain⟨v,vh,vp,L,t,m,num,n,h0,C,rfl,⟨a,rfl,B,hI,x,d⟩,F,k,q⟩:=h;rw[k] at x;obtain⟨b,vc,rfl,Y,S⟩:=x;have p:=F.pl;rw[k] at p;obtain⟨hn,W,X,a3,j⟩:=p;have l8:=F.hd.1.2.2;have nd:=wI.nd;refine⟨_,(aB (aZ 2 (aV tU (aH (aO aP (vv 0) aA) (va1 (aO aP (aO (bL (K:=K)) (vv 0) aA) aA))))) (aD (aJ (cI (N:=["row","number","place","table"]) (by trivial) (eE (aC pP) rfl (by decide +kernel)) rfl (eQ (aO (bL (K:=K)) (vv 0) aA)) (λcl o y fp=>⟨(bJ (i:=0) (show (["row","number","place","table"]:List Str).Nodup from by decide +kernel) rfl (Or.inl rfl)),(lZ (cZ dN (aV a0 (aH (aO (bL (K:=K)) (aO (bL (K:=K)) (vv 3) aA) aA) (va1 (aO (bL (K:=K)) (vv 0) (vv 2))))) (vv 1))),(vv 0)⟩))))),?_⟩;refine⟨_,rfl,a,_,0,_,rfl,rfl,B,at0 _ _,_,rfl,a,_,1,_,rfl,rfl,B,at1 _ _ _,b,_,1,_,rfl,rfl,Y,at1 _ _ _,vh,n,t.hd,W,rfl,hI,by lia,X,λH1 g=>?_⟩;dsimp only[bO,rA,List.set];obtain⟨us,gL,a1⟩:=id d;refine iY [none,some (.int num),some (.int (plc t.hd n:Nat)),some (.ref a)] (aAx 1 2 0 (by decide +kernel) (by decide +kernel) (by decide +kernel) rfl rfl rfl rfl rfl rfl (by trivial) (by trivial) (by trivial)) ?_;refine⟨_,rfl,a,_,2,_,rfl,rfl,g.aR B,at2 _ _ _ _,L,rfl,⟨_,SqL.of (g _ _ gL)⟩,rH (d.same g) (by have:=F.few;lia) (fX t.hd n C num) rfl (λu r G y R l J M rr=>?_) λD y Z J hD=>q D y (none_of g Z) (g.trans J) hD⟩;obtain⟨ra,rfl,I⟩:=M;obtain⟨v,hv,hg,O⟩:=aJ6 (F.rows r G) X;have o:=g.trans J;refine⟨_,rfl,a,_,1,_,rfl,rfl,o.aR B,at1 _ _ _,b,_,2,_,rfl,rfl,o.aR Y,at2 _ _ _ _,_,rfl,_,rfl,ra,r,_,v,rfl,rfl,I,bH hv,vc,v,W,h0,C,rfl,lY.same o (λ_ _ z=>z.same o) S,j.few,O,λc S=>(j.each c S).1,_,rfl,rfl,_,rfl,?_⟩;have e:decide (V.int (iH v C 1 0:Nat)=V.int num)=fX t.hd n C num r:=by unfold fX;rw[hg];exact decide_eq_decide.mpr ⟨λz=>by have:=V.int.inj z;lia,λz=>by rw[z]⟩
 rw[e];exact rr y (Same.refl _)
inductive aMq (K:bF4)(C:Addr)(vs:List V)(H:Hp)(Q:VK)(E_:XK):Prop
 |mk (x d dm:Addr) (m:Int) (es:List En) (e:En) (mq:Mv) (n:Str) (h0:Int) (cs:List (V × Int)) (_:vs=[.ref x,.str e.n]) (_:bC K H C x m d dm es) (_:e∈es) (_:MvD K H dm e.n (some mq)) (_:e.t.pl=.spans n h0 cs) (_:(∀q,mq.mark=some q->gC e.t.hd q)) (_:∀D' H',H D'=none->Same H H'->bW K H' D' (e.t.rows.filter λr=>xW mq.mark r && fX e.t.hd n cs mq.num r)->Q (.ref D') H')
def aX5 (T:Txt w K mg)(c:Cls K C)(D:dZ K C "rows_to_come" "Store.rows_to_come" dF ["self","name"])(n1:bK K C "placed")(n3:bK K C "moves")(pN:Ok P w K mg base 3 "span_rows" ["table","number"] (aBt K))(uI:Ok P w K mg base 1 "is_above" ["row","mark"] (aCv K)):OkM P w K mg base C 4 "rows_to_come" n6 (aMq K C):=by
 refine OkM.ofV c D iI (by trivial) (λf a2 A I s H vs Q E hr h=>?_)
 obtain⟨x,d,dm,m,es,e,G,n,h0,cs,rfl,b,z,⟨v,hv,hm⟩,y,W,q⟩:=h;have V:=pA hr;have nd:=iI.nd;refine⟨_,(aB (aZ 2 (aAv V (cT (K:=K) (vv 0)) (vv 1) (λ_ _=>rfl))) (aD (aJ (cI (N:=["row","move"]) (by trivial) (eE (aC dF) rfl (by decide +kernel)) rfl (eQ (aV pN (aH (aAv V (cT (K:=K) (vv 0)) (vv 1) (λ_ _=>rfl)) (va1 (aO aP (vv 2) aA))))) (λcl s' j fp=>⟨(bJ (i:=0) (show (["row","move"]:List Str).Nodup from by decide +kernel) rfl (Or.inl rfl)),(lZ (bU (aV uI (aH (vv 0) (va1 (aO (bL (K:=K)) (vv 1) aA)))))),(vv 0)⟩))))),?_⟩;obtain⟨J,O⟩:=b.at_;obtain⟨a,vm,rfl,U,p⟩:=hv;have B:=b.ok e z;refine⟨_,rfl,x,C,J,_,_,rfl,O,c,n3,rfl,_,rfl,dm,_,rfl,.inl ⟨_,Sum.inr e.n,.inl hm,rfl,(vZ e.n _).symm⟩,?_⟩;dsimp only[bO,rA,List.set];refine iY [none,some (.ref a)] (jN 2 (by decide +kernel) rfl rfl (by trivial)) ?_;refine⟨_,rfl,x,C,J,_,_,rfl,O,c,n1,rfl,_,rfl,d,e.v,rfl,.inl ⟨_,Sum.inr e.n,.inl b.ens.at_,rfl,(aGf b.ens.nd z).symm⟩,?_⟩;refine⟨_,rfl,a,_,0,_,rfl,rfl,U,at0 _ _,e.v,e.vh,e.vp,e.L,e.t,m,G.num,n,h0,cs,rfl,b.ens.tb e z,B,y,λD1 H1 a0 g M=>?_⟩;obtain⟨us,gD,a1⟩:=id M;refine⟨D1,rfl,⟨_,SqL.of gD⟩,rH M (bAE (bAY _ _) (by have:=B.few;lia)) (xW G.mark) rfl (λu r o j R l k F rr=>?_) λY j X k S=>q Y j (none_of g X) (g.trans k) (by rw[bEP] at S;exact S)⟩;refine⟨_,rfl,_,rfl,a,_,2,_,rfl,rfl,(g.trans k).aR U,at2 _ _ _ _,u,vm,r,G.mark,knds e.t.hd,rfl,F,p.same (g.trans k),fK (B.rows r (List.mem_filter.mp o).1),λq' Z=>fK (W q' Z),_,rfl,rr j (Same.refl _)⟩
end
end My
namespace PySem
section
variable {prog:Program}{w:World}{A:Around}{E:bF5}{s:Shared}
theorem tQ {α:Type}:∀(l:List α) (i:Nat) (h:i<l.length),(l[i]::l.eraseIdx i).Perm l
 |x::l,0,_=>.refl _
 |x::l,i+1,h=>by have a:=tQ l i (Nat.lt_of_succ_lt_succ h);exact (List.Perm.swap x _ (l.eraseIdx i)).trans (a.cons x)
def aHa (a:n≠0)(h:∀i dr,i<n->Q i { s with drawn:=dr }):wpAny (model prog w) A (choose src n) Q E s:=
 λ_ _ _=>⟨a,h _ _ (Nat.mod_lt _ (Nat.pos_of_ne_zero a))⟩
theorem pB {α:Type}:∀(n:Nat) (xs:List α) (s:Shared) (Q:List α->Shared->Prop),xs.length=n->(∀ys dr,ys.Perm xs->Q ys { s with drawn:=dr })->wpAny (model prog w) A (drawOrder n xs) Q E s
 |0,xs,s,Q,hl,h=>by have e:=bAZ hl;subst e;unfold drawOrder;exact d7 (h [] s.drawn (.refl _))
 |n+1,xs,s,Q,hl,h=>by
  cases xs with
  |nil=>cases hl
  |cons x xs=>unfold drawOrder;refine b7 (aHa (by rw[hl];lia) λi dr b=>?_);rw[b8 b];dsimp only;refine b7 (pB n _ _ _ (by rw[bFW b,hl];rfl) λys a p=>d7 ?_);refine h _ a ?_;have e:=tQ _ _ b;exact (p.cons _).trans e
theorem aP1 {α:Type}(b:Nat->Nat):∀(fuel k:Nat) (left:List α) (out:Array α),left.length=fuel->(pickOrder.go b fuel k left out).toList.Perm (out.toList++left)
 |0,k,left,out,h=>by have e:left=[]:=bAZ h;subst e;unfold pickOrder.go;rw[bBB]
 |fuel+1,k,left,out,h=>by have a:b k % left.length<left.length:=Nat.mod_lt _ (by lia);unfold pickOrder.go;rw[b8 a];dsimp only;refine (aP1 b fuel (k+1) _ _ (by rw[bFW a,h];rfl)).trans ?_;rw[bF1,bCY];exact List.Perm.append_left _ (tQ _ _ a)
def yN {α:Type}(a:Nat->Nat)(xs:Array α):(pickOrder a xs).toList.Perm xs.toList:=by unfold pickOrder;exact aP1 a xs.size 0 xs.toList #[] (by rw[v4])
end
def bQ:Slot "set_iterator" "__next__" "set_iterator.__next__":=.of (owner:="set_iterator") (n:="__next__") (by rw[typeLookup_type,builtinLookup_eq_fast];kernel_rfl) (by decide +kernel) (by decide +kernel) (by decide +kernel) (by first|exact .inl (by decide +kernel)|exact .inr (by decide +kernel)) (by rw[isSubtype_type];kernel_rfl)
def qG:Slot "set_iterator" "__iter__" "set_iterator.__iter__":=.of (owner:="set_iterator") (n:="__iter__") (by rw[typeLookup_type,builtinLookup_eq_fast];kernel_rfl) (by decide +kernel) (by decide +kernel) (by decide +kernel) (by first|exact .inl (by decide +kernel)|exact .inr (by decide +kernel)) (by rw[isSubtype_type];kernel_rfl)
def fQ:entryFor table "set_iterator.__next__"=some Builtin.«set_iterator.__next__»:=entryFor_of_tree (by kernel_rfl)
def aAt:entryFor table "set_iterator.__iter__"=some Builtin.«dict_keyiterator.__iter__»:=entryFor_alias (id':="dict_keyiterator.__iter__") (by kernel_rfl) rfl (by decide +kernel) (by kernel_rfl)
def aCq:entryFor table "set.__iter__"=some Builtin.«frozenset.__iter__»:=entryFor_alias (id':="frozenset.__iter__") (by kernel_rfl) rfl (by decide +kernel) (by kernel_rfl)
def aBp:Manifest.owners.lookup (String.ofList ['r','o','t','a','r','e','t','i','_','t','e','s'].reverse)=some Manifest.sig_set_iterator:=by kernel_rfl
def gG (a:Value):argsOk "set_iterator.__next__" ⟨[a],[]⟩:=by unfold argsOk;rw[signature?_of (id:="set_iterator.__next__") (n:=['_','_','t','x','e','n','_','_']) (o:=['r','o','t','a','r','e','t','i','_','t','e','s']) (by kernel_rfl) aBp];kernel_rfl
def aA7 (a:Value):argsOk "set_iterator.__iter__" ⟨[a],[]⟩:=by unfold argsOk;rw[signature?_of (id:="set_iterator.__iter__") (n:=['_','_','r','e','t','i','_','_']) (o:=['r','o','t','a','r','e','t','i','_','t','e','s']) (by kernel_rfl) aBp];kernel_rfl
section
variable {prog:Program}{w:World}{A:Around}{E:bF5}{s:Shared}
def eV (h:Heap)(I:Addr)(first:Value)(i:Nat)(D:Addr)(n ep:Nat):Prop:=h.get? I=some { cls:=.type "set_iterator",data:=.fields #[first,.int i 0,.ref D,.int n 0,.int ep 0] }
def uG (h:Heap)(D:Addr)(es:Array (Int × Value))(ep:Nat)(t:SetTable):Prop:=∃o,h.get? D=some o/\o.ExactSet/\o.data=.set es ep t/\t.fits es.size=true
def aF7 (prog:Program)(w:World)(D:Addr)(es:Array (Int × Value))(ep:Nat)(t:SetTable)(slot i:Nat)(r:Option (Value × Nat)):Prop:=
 ∀A E s Q,uG s.heap D es ep t->Q r s->wpAny (model prog w) A (setNext D slot i ep) Q E s
def aFf {I D:Addr}{es:Array (Int × Value)}{ep slot i a:Nat}{t:SetTable}{x:Value}{Q:Option Value->Shared->Prop}(c:eV s.heap I (.int slot 0) i D es.size ep)(h:uG s.heap D es ep t)(hne:D≠I)
  (nx:aF7 prog w D es ep t slot i (some (x,a)))
  (q:∀h',eV h' I (.int a 0) (i+1) D es.size ep->(∀b o,b≠I->s.heap.get? b=some o->h'.get? b=some o)->Q (some x) { s with heap:=h' }):wpAny (model prog w) A (pyNext (.ref I)) Q E s:=by
 have f:s.TypeIs (.ref I) "set_iterator":=⟨_,c,rfl⟩;obtain⟨o,y,l,hd,m⟩:=id h;unfold pyNext;refine b7 (bCS (bAG f bQ (bAD bQ f fQ (b7 (d7 (b7 (bDW c rfl ?_)))) (gG _))));refine b7 (bDD y hd m ?_);dsimp only;rw[if_neg (by simp)];simp only[bAQ];refine b7 (nx _ _ _ _ h ?_);dsimp only;refine b7 (bAP c (by simp) λp n j=>?_);have v:eV p I (.int a 0) i D es.size ep:=by simpa [rawInt,eV] using n
 refine b7 (bAP v (by simp) λd k u=>?_);have r:eV d I (.int a 0) (i+1) D es.size ep:=by
  have z:((i+1:Nat):Int)=(i:Int)+1:=by lia
  unfold eV;rw[z];simpa [rawInt] using k
 exact d7 ⟨_,rfl,d7 (q d r λb o g e=>u.extBut b o g (j.extBut b o g e))⟩
def aEq {I D:Addr}{es:Array (Int × Value)}{ep slot i:Nat}{t:SetTable}{Q:Option Value->Shared->Prop}(h:A.handled=none)(a:eV s.heap I (.int slot 0) i D es.size ep)(e:uG s.heap D es ep t)
  (nx:aF7 prog w D es ep t slot i none) (q:∀h',(∀b o,b≠I->s.heap.get? b=some o->h'.get? b=some o)->Q none { s with heap:=h' }):wpAny (model prog w) A (pyNext (.ref I)) Q E s:=by
 have c:s.TypeIs (.ref I) "set_iterator":=⟨_,a,rfl⟩;obtain⟨o,g,f,hd,d⟩:=id e;unfold pyNext;refine b7 (bCS (bAG c bQ (bAD bQ c fQ (b7 (d7 (b7 (bDW a rfl ?_)))) (gG _))));refine b7 (bDD g hd d ?_);dsimp only;rw[if_neg (by simp)];simp only[bAQ];refine b7 (nx _ _ _ _ e ?_);dsimp only;refine b7 (bBW a rfl (by simp) ?_);refine b7 ?_;simp only[newExc,newTuple,raiseNew];refine b7 (bAF ?_ (by size_fits));refine b7 (bEQ (by simp only[firstArgMember];rfl) ?_);refine bAF (b7 (bFJ ?_)) (by size_fits);rw[show A.in1.handled=none from h];refine b7 (d7 (bFY ?_));refine b7 (bDE ⟨_,j8 _ rfl,rfl⟩ isSubtype_stop ?_);exact d7 (q _ (((bAV ..).extBut.push _).push _))
def aL7 {I D T:Addr}{es:Array (Int × Value)}{ep i j:Nat}{t:SetTable}{pl:Array Value}{e:Int × Value}{Q:Option Value->Shared->Prop}(a:eV s.heap I (.ref T) i D es.size ep)(r:uG s.heap D es ep t)(p:s.heap.get? T=some { cls:=.type "tuple",data:=.seq pl })
  (u:pl[i]?=some (.int j 0)) (v:es[j]?=some e)
  (q:∀h',eV h' I (.ref T) (i+1) D es.size ep->(∀b o,b≠I->s.heap.get? b=some o->h'.get? b=some o)->Q (some e.2) { s with heap:=h' }):wpAny (model prog w) A (pyNext (.ref I)) Q E s:=by
 have f:s.TypeIs (.ref I) "set_iterator":=⟨_,a,rfl⟩;obtain⟨o,g,k,hd,d⟩:=id r;unfold pyNext;refine b7 (bCS (bAG f bQ (bAD bQ f fQ (b7 (d7 (b7 (bDW a rfl ?_)))) (gG _))));refine b7 (bDD g hd d ?_);dsimp only;rw[if_neg (by simp)];simp only[bAQ];refine b7 (bBE p rfl ?_);dsimp only;rw[u];dsimp only;unfold setNextDrawn;refine b7 (b7 (bBH g hd d ?_));dsimp only;rw[if_neg (by simp)];refine b7 (d7 ?_);simp only[bAQ,v];refine d7 (b7 (bAP a (by simp) λc h m=>?_));have l:eV c I (.ref T) (i+1) D es.size ep:=by
  have z:((i+1:Nat):Int)=(i:Int)+1:=by lia
  unfold eV;rw[z];simpa [rawInt] using h
 exact d7 ⟨_,rfl,d7 (q c l λb o n e=>m.extBut b o n e)⟩
def aM1 (r:A.handled=none)(a:eV s.heap I (.ref T) i D es.size ep)(m:uG s.heap D es ep t)(l:s.heap.get? T=some { cls:=.type "tuple",data:=.seq pl })
  (p:pl[i]?=none) (q:∀h',(∀b o,b≠I->s.heap.get? b=some o->h'.get? b=some o)->Q none { s with heap:=h' }):wpAny (model prog w) A (pyNext (.ref I)) Q E s:=by
 have c:s.TypeIs (.ref I) "set_iterator":=⟨_,a,rfl⟩;obtain⟨o,k,h,hd,f⟩:=id m;unfold pyNext;refine b7 (bCS (bAG c bQ (bAD bQ c fQ (b7 (d7 (b7 (bDW a rfl ?_)))) (gG _))));refine b7 (bDD k hd f ?_);dsimp only;rw[if_neg (by simp)];simp only[bAQ];refine b7 (bBE l rfl ?_);dsimp only;rw[p];dsimp only;refine b7 (bAP a (by simp) λn g j=>?_);refine b7 (bBW g rfl (by simp) ?_);refine b7 ?_;simp only[newExc,newTuple,raiseNew];refine b7 (bAF ?_ (by size_fits));refine b7 (bEQ (by simp only[firstArgMember];rfl) ?_);refine bAF (b7 (bFJ ?_)) (by size_fits);rw[show A.in1.handled=none from r];refine b7 (d7 (bFY ?_));refine b7 (bDE ⟨_,j8 _ rfl,rfl⟩ isSubtype_stop ?_);refine d7 (q _ λb o d e=>((((bAV ..).extBut.push _).push _)) b o d (j.extBut b o d e))
def aFi (g:byT w=true):aF7 prog w D es ep t slot i (((pickOrder (w.params.setOrder D ep) es)[i]?).map λe=>(e.2,slot)):=by intro A E s Q d q;obtain⟨o,c,f,hd,b⟩:=d;have a:(⟨(model prog w).prog,(model prog w).w.params⟩:Setting).params.followText "set-order"=true:=g;unfold setNext setsByText setWalk;refine b7 (bBH c hd b ?_);dsimp only;refine b7 (b7 (bDH (d7 ?_)));rw[if_pos a,if_neg (by simp)];refine b7 (b7 (bBH c hd b ?_));dsimp only;unfold setsByText;refine b7 (b7 (bDH (d7 ?_)));rw[if_pos a];exact b7 (bDH (d7 (d7 q)))
def aDh (k:byT w=false)(l:t.led=true)(g:t.plain=true\/es.size<=1) :
  aF7 prog w D es ep t slot i (match es[SetTable.below t.place slot]?,t.place[SetTable.below t.place slot]? with|some (_,x),some j=>some (x,j+1)|_,_=>none):=by
 intro A E s Q d q;obtain⟨o,f,e,hd,c⟩:=d;have b:(⟨(model prog w).prog,(model prog w).w.params⟩:Setting).params.followText "set-order"=false:=k;unfold setNext setsByText;refine b7 (bBH f hd c ?_);dsimp only;refine b7 (b7 (bDH (d7 ?_)));rw[if_neg (by rw[b];exact v5)]
 split
 ·rename_i a;have z:(!t.plain && decide (es.size > 1))=true:=a;rw[bAS,decide_eq_true_eq] at z;rcases g with h|h
  ·rw[h] at z;cases z.1
  ·lia
 ·refine b7 (show wpAny _ _ (if (!t.led && !es.isEmpty)=true then unsupported "set:maker-not-led" else pure ()) _ _ _ from ?_);rw[if_neg (by rw[l];exact v5)];exact d7 (d7 q)
def xN (b:eV s.heap I first i D n ep)(h:Q (.ref I) s):wpAny (model prog w) A (pyIter (.ref I)) Q E s:=by have a:s.TypeIs (.ref I) "set_iterator":=⟨_,b,rfl⟩;refine bFA a qG (bAD qG a aAt ?_ (aA7 _));exact d7 ⟨_,rfl,"set_iterator",_,a,bQ.lookup,h⟩
def uG.at (x:uG h D es ep t)(e:∀o,h.get? D=some o->h'.get? D=some o):uG h' D es ep t:=by obtain⟨o,a,r⟩:=x;exact⟨o,e o a,r⟩
def aN0 {I D:Addr}{es:Array (Int × Value)}{ep:Nat}{t:SetTable}(c:byT w=true)(r:A.handled=none)(k:D≠I) :
  Walks prog w A I [I,D] [I] es.size (λi v=>((pickOrder (w.params.setOrder D ep) es).toList.map (·.2))[i]?=some v) (λi h=>eV h I (.int (0:Nat) 0) i D es.size ep/\uG h D es ep t) where
 sub:=λb c=>by simp at c;simp[c]
 frame:=λ_ _ _ a m=>⟨m I (by simp) _ a.1,a.2.at λo e=>m D (by simp) o e⟩
 item:=λi s Q E q a f=>by
  have p:(pickOrder (w.params.setOrder D ep) es).size=es.size:=by rw[<-v4,(yN _ es).length_eq,v4]
  have g:i<(pickOrder (w.params.setOrder D ep) es).size:=by lia
  have d:=aFi (prog:=prog) (D:=D) (es:=es) (ep:=ep) (slot:=0) (i:=i) (t:=t) c;rw[j7 g] at d;refine aFf a.1 a.2 k d λl n j=>?_;exact f _ l s.toks (by rw[v7,bBO,j7 g];rfl) ⟨n,a.2.at λo e=>j D o k e⟩ λb o c e=>j b o (λz=>c (by simp[z])) e
 done:=λs Q E a f=>by
  have p:(pickOrder (w.params.setOrder D ep) es).size=es.size:=by rw[<-v4,(yN _ es).length_eq,v4]
  have d:=aFi (prog:=prog) (D:=D) (es:=es) (ep:=ep) (slot:=0) (i:=es.size) (t:=t) c;rw[bCE (by lia)] at d;exact aEq r a.1 a.2 d λl j=>f l s.toks λb o c e=>j b o (λz=>c (by simp[z])) e
 self:=λ_ _ _ _ a f=>xN a.1 f
def aI1 {I D:Addr}{es:Array (Int × Value)}{ep:Nat}{t:SetTable}(a:byT w=false)(G:t.led=true)(y:t.plain=true\/es.size<=1)(F:Ris t.place)(hsz:t.place.size=es.size)(L:A.handled=none)(p:D≠I) :
  Walks prog w A I [I,D] [I] es.size (λi v=>(es.toList.map (·.2))[i]?=some v) (λi h=>∃slot,eV h I (.int (slot:Nat) 0) i D es.size ep/\uG h D es ep t/\SetTable.below t.place slot=i) where
 sub:=λb a=>by simp at a;simp[a]
 frame:=λ_ _ _ ⟨k,c,f,g⟩ l=>⟨k,l I (by simp) _ c,f.at λo e=>l D (by simp) o e,g⟩
 item:=λi s Q E r ⟨k,c,f,g⟩ m=>by
  have j:=aDh (prog:=prog) (D:=D) (es:=es) (ep:=ep) (slot:=k) (i:=i) (t:=t) a G y;have d:i<t.place.size:=by lia
  rw[g,j7 r,j7 d] at j;refine aFf c f p j λq x n=>?_;refine m _ q s.toks (by rw[v7,bBO,j7 r];rfl) ⟨_,x,f.at λo e=>n D o p e,?_⟩ λb o a e=>n b o (λz=>a (by simp[z])) e;obtain⟨K,C,u⟩:=mX F (t.place[i]+1);have B:i<SetTable.below t.place (t.place[i]+1):=Nat.lt_of_not_le λz=>by have:=u i d z;lia
  rcases bFU (Nat.succ_le_of_lt B) with h2|h2
  ·exfalso;have l:i+1<t.place.size:=by lia
   have J:=C (i+1) l h2;have H:=F i (i+1) d l (bCU _);lia
  ·exact h2.symm
 done:=λs Q E ⟨k,c,f,g⟩ m=>by have j:=aDh (prog:=prog) (D:=D) (es:=es) (ep:=ep) (slot:=k) (i:=es.size) (t:=t) a G y;rw[g,bCE (d8 _)] at j;exact aEq L c f j λq n=>m q s.toks λb o a e=>n b o (λz=>a (by simp[z])) e
 self:=λ_ _ _ _ ⟨_,c,_⟩ m=>xN c m
def aIw {I D T:Addr}{es:Array (Int × Value)}{ep:Nat}{t:SetTable}{ys:List Nat}(p:ys.Perm (List.range es.size))(y:A.handled=none)(q:D≠I)(u:T≠I) :
  Walks prog w A I [I,D,T] [I] es.size (λi v=>((ys.map λj=>es.getD j (0,.none)).map (·.2))[i]?=some v) (λi h=>eV h I (.ref T) i D es.size ep/\uG h D es ep t/\h.get? T=some { cls:=.type "tuple",data:=.seq (ys.map λj=>rawInt (j:Nat)).toArray }) where
 sub:=λb d=>by simp at d;simp[d]
 frame:=λ_ _ _ a k=>⟨k I (by simp) _ a.1,a.2.1.at λo e=>k D (by simp) o e,k T (by simp) _ a.2.2⟩
 item:=λi s Q E x a f=>by
  have l:ys.length=es.size:=by rw[p.length_eq,bAH]
  have c:i<ys.length:=by lia
  have n:=List.mem_range.mp (p.mem_iff.mp (bAT c));refine aL7 a.1 a.2.1 a.2.2 (by rw[bFF,v7,b8 c];rfl) (j7 n) λm r g=>?_;refine f _ m s.toks ?_ ⟨r,a.2.1.at λo e=>g D o q e,g T _ u a.2.2⟩ λb o d e=>g b o (λz=>d (by simp[z])) e;rw[v7,v7,b8 c];show some (es.getD ys[i] (0,.none)).2=some es[ys[i]].2;rw[v6,j7 n];rfl
 done:=λs Q E a f=>by
  have l:ys.length=es.size:=by rw[p.length_eq,bAH]
  exact aM1 y a.1 a.2.1 a.2.2 (by rw[bFF,v7,bAA (by lia)];rfl) λm g=>f m s.toks λb o d e=>g b o (λz=>d (by simp[z])) e
 self:=λ_ _ _ _ a f=>xN a.1 f
def aV9 {D:Addr}{es:Array (Int × Value)}{ep:Nat}{t:SetTable}{Q:bF5}(H:A.handled=none)(M:uG s.heap D es ep t)(y:TabOk (byT w) t)(V:es.size<=1000)
  (h:∀I fp (order:List (Int × Value)) St h1 dr,(∀b o,s.heap.get? b=some o->h1.get? b=some o)->Walks prog w A I fp [I] es.size (λi v=>(order.map (·.2))[i]?=some v) St->St 0 h1->(∀b∈fp,b=D\/s.heap.objs.size<=b)->s.heap.objs.size<=I->order.Perm es.toList ->
   Q (.ref I) { s with heap:=h1,drawn:=dr }):wpAny (model prog w) A (pyIter (.ref D)) Q E s:=by
 obtain⟨o,g,l,hd,d⟩:=id M;have G:s.TypeIs (.ref D) "set":=⟨o,g,l.1⟩;refine bFA G F.slot_set_iter (bAD F.slot_set_iter G aCq ?_ (F.args_set_iter_1 _));unfold Builtin.«frozenset.__iter__» Builtin.Frozenset.slot0 slotArgs;simp only[List.isEmpty_nil,Bool.not_true,bAU,↓reduceIte,bind_assoc,bBS,bne_self_eq_false];unfold Builtin.Frozenset.addrOf Builtin.Frozenset.sizeOf setDrawn setsByText;refine b7 (d7 ?_)
 try dsimp only
 refine b7 (d7 ?_);refine b7 (b7 (bDD g hd d (d7 ?_)));refine b7 (b7 (bBH g hd d ?_));dsimp only;refine b7 (b7 (bDH (d7 (d7 ?_))));have f:D<s.heap.objs.size:=j9 g;have U:((0:Nat):Int)=0:=rfl
 split
 ·rename_i L;refine b7 (pB _ _ _ _ (bAH ..) λr dr C=>?_);refine b7 (bFT ?_ (by rw[j6,C.length_eq,bAH];exact bAE V (by decide)));have n:({ s with drawn:=dr,heap:=s.heap.push { cls:=.type "tuple",data:=.seq (r.map λi=>rawInt (i:Nat)).toArray } }:Shared).heap.get? D=some o:=c7 _ g;refine b7 (wpAny_setEpoch_of n hd d ?_);refine b7 ?_;unfold newFields;refine bAF (d7 ⟨_,rfl,"set_iterator",_,⟨_,j8 _ rfl,rfl⟩,bQ.lookup,?_⟩);have p:(s.heap.push { cls:=.type "tuple",data:=.seq (r.map λi=>rawInt (i:Nat)).toArray }).objs.size=s.heap.objs.size+1:=bBL ..;refine h _ [_,D,s.heap.objs.size] (r.map λj=>es.getD j (0,.none)) _ _ dr (λb o e=>c7 _ (c7 _ e)) (aIw (t:=t) (ep:=ep) C H ?_ ?_) ⟨?_,?_,?_⟩ (λb c=>?_) ?_ ?_
  ·show D≠Array.size _;rw[p];exact v8 (bBU f)
  ·show s.heap.objs.size≠Array.size _;rw[p];exact v8 (bCU _)
  ·exact j8 _ rfl
  ·exact⟨o,c7 _ n,l,hd,d⟩
  ·exact c7 _ (j8 _ rfl)
  ·simp only[bAN,bAB,or_false] at c;rcases c with rfl|rfl|rfl
   ·right;rw[p];exact bCR _
   ·left;rfl
   ·right;exact d8 _
  ·rw[p];exact bCR _
  ·have e:(List.range es.size).map (λj=>es.getD j (0,.none))=es.toList:=by
    refine bCC λj=>?_;rw[v7,show es.toList[j]?=es[j]? from bBO];by_cases B:j<es.size
    ·rw[bCP B,j7 B];show some (es.getD j (0,.none))=_;rw[v6,j7 B];rfl
    ·rw[bAA (by rw[bAH];lia),bCE (by lia)];rfl
   exact (C.map _).trans (by rw[e])
 ·rename_i L;refine b7 (d7 (b7 (wpAny_setEpoch_of g hd d (b7 ?_))));unfold newFields;refine bAF (d7 ⟨_,rfl,"set_iterator",_,⟨_,j8 _ rfl,rfl⟩,bQ.lookup,?_⟩);have J:eV (s.heap.push { cls:=.type "set_iterator",data:=.fields [rawInt 0,rawInt 0,Value.ref D,rawInt (es.size:Nat),rawInt (ep:Nat)].toArray }) s.heap.objs.size (.int (0:Nat) 0) 0 D es.size ep:=j8 _ rfl;have k:uG (s.heap.push { cls:=.type "set_iterator",data:=.fields [rawInt 0,rawInt 0,Value.ref D,rawInt (es.size:Nat),rawInt (ep:Nat)].toArray }) D es ep t:=M.at λo e=>c7 _ e;have m:∀b∈[s.heap.objs.size,D],b=D\/s.heap.objs.size<=b:=λb c=>by
   simp only[bAN,bAB,or_false] at c;rcases c with rfl|rfl
   ·right;exact d8 _
   ·left;rfl
  cases c:byT w with
  |true=>exact h _ [s.heap.objs.size,D] _ _ _ s.drawn (λb o e=>c7 _ e) (aN0 (t:=t) (ep:=ep) c H (v8 f)) ⟨J,k⟩ m (d8 _) (yN _ es)
  |false=>
   have N:t.led=true:=y.1 c;have u:t.place.size=es.size:=by unfold SetTable.fits at d;rw[bAS,beq_iff_eq] at d;exact d.1
   have K:t.plain=true\/es.size<=1:=by
    have z:¬ (!byT w && (!t.plain && decide (es.size > 1)))=true:=L;rw[c] at z;cases x:t.plain with
    |true=>exact .inl rfl
    |false=>rw[x] at z;right;simpa using z
   have q:Ris t.place:=by
    rcases K with z|z
    ·exact y.2.2.2 z
    ·intro a b T P R;lia
   refine h _ [s.heap.objs.size,D] es.toList _ _ s.drawn (λb o e=>c7 _ e) (aI1 (t:=t) (ep:=ep) c N K q u H (v8 f)) ⟨0,J,k,?_⟩ m (d8 _) (.refl _);obtain⟨_,S,_⟩:=mX q 0;rcases Nat.eq_zero_or_pos (SetTable.below t.place 0) with z|z
   ·exact z
   ·by_cases O:0<t.place.size
    ·exact absurd (S 0 O z) (bCX _)
    ·have:=(mX q 0).1;lia
def aTp (c:s.TypeIs (.ref D) "set")(h:Q false s):wpAny (model prog w) A (Builtin.List.listLengthHint (.ref D)) Q E s:=by unfold Builtin.List.listLengthHint;refine b7 (wpAny_specialOf c F.slot_set_len.lookup ?_);generalize b:("set.__len__":String)=id0;wp_delta;rw[show splitId id0=some ("set","__len__") from by subst b;decide +kernel];subst b;refine b7 (bDE c sub_set_self (wpAny_ite_split (λa=>absurd a (by decide)) (λ_=>wpAny_ite_split (λ_=>?_) (λa=>absurd (by decide +kernel) a))));exact b7 (bEU c (d7 h))
def aMv (hh:A.handled=none)(O:uG s.heap D es ep t)(X:TabOk (byT w) t)(T:es.size<=1000)(S:Addr)(E:S≠D)(res:Value)(Y:s.heap.get? S=some { cls:=.type "list",data:=.seq #[] })
  (hR:∀h' tk dr acc c (order:List (Int × Value)),(∀b o,b≠S->s.heap.get? b=some o->h'.get? b=some o)->h'.get? S=some { cls:=.type "list",dict:=none,data:=.seq acc c,slots:=#[] }->order.Perm es.toList->acc.toList=order.map (·.2)->R (.ok (.ret res)) { s with heap:=h',toks:=tk,drawn:=dr }) :
  wpAny (model prog w) A.in1 (Builtin.List.listExtendWith (.ref S) (.ref D) res) (λfin s'=>match fin with|.done f=>R (.ok f) s'|.again c'=>c'.quiet=true/\codeAny (model prog w) A c' R s') (λe s'=>R (.error e) s') s:=by
 obtain⟨o,M,p,hd,hf⟩:=id O;have U:s.TypeIs (.ref D) "set":=⟨o,M,p.1⟩;have n:=j9 Y;unfold Builtin.List.listExtendWith;refine b7 (bEU U ?_);have Z:Builtin.List.listSameRef (.ref S) (.ref D)=false:=by simp[Builtin.List.listSameRef,E]
 simp only[Z,show (Value.type "set" == Value.type "list")=false by decide,show (Value.type "set" == Value.type "tuple")=false by decide,Bool.or_false,bAU,if_false];refine b7 (aV9 hh O X T λI Q order St H dr d W K G C a=>?_);have q:S∉Q:=λz=>(G S z).elim E λz=>absurd n (Nat.not_lt.mpr z);have l:=d _ _ Y;have m:∀h J tk,St 0 h->(∀b o,b≠S->s.heap.get? b=some o->h.get? b=some o)->h.get? S=some { cls:=.type "list",data:=.seq #[] J } ->
   codeAny (model prog w) A (.builtin "list.extend.loop" ⟨[.ref S,.ref I,res],[]⟩) R { s with heap:=h,toks:=tk,drawn:=dr }:=λh J tk y P v=>by
  refine codeAny_extend_loopS W.toS (bAE T (by decide)) S q res es.size 0 _ #[] J rfl (bAC _) y v (ItemsOf.nil _) λs' k c' L B i=>?_;rw[Moved.eq_with L];refine hR s'.heap s'.toks dr k c' order (λb o g e=>L.heap b o (λhmem=>?_) (P b o g e)) B a ?_
  ·rcases List.mem_cons.mp hmem with V|hmem
   ·exact g V
   ·rw[List.mem_singleton.mp hmem] at e;exact absurd (j9 e) (Nat.not_lt.mpr C)
  ·have ol:order.length=es.size:=by rw[a.length_eq,v4]
   refine bCC λj=>?_;rw[bBO];by_cases N:j<k.size
   ·rw[j7 N];exact (i.2 j _ (j7 N)).symm
   ·rw[bCE (by lia),bAA (by rw[j6,ol,<-i.1];lia)]
 refine b7 (bAR (aTp ⟨o,d _ _ M,p.1⟩ ?_));refine wpAny_ite_split (λ_=>?_) (λ_=>d7 ⟨bCT F.plain_extend_loop _,m H _ _ K (λb o _ e=>d b o e) l⟩);refine b7 (bDU (b7 ?_));refine b7 (wpAny_updateSeq l rfl ?_);have r:=bAO (Obj.mapSeq (·.push Value.none)) l rfl;refine wpAny_updateSeq r rfl ?_;have x:=bAO (Obj.mapSeq (·.pop)) r rfl;have u:∀b o,b≠S->H.get? b=some o->((H.update S (Obj.mapSeq (·.push Value.none))).update S (Obj.mapSeq (·.pop))).get? b=some o:=λb o g e=>(bBD _ _ (Ne.symm g)).trans ((bBD _ _ (Ne.symm g)).trans e);exact d7 ⟨bCT F.plain_extend_loop _,m _ _ _ (W.frame 0 _ _ K λb g o e=>u b o (λz=>q (z ▸ g)) e) (λb o g e=>u b o g (d b o e)) x⟩
end
end PySem
namespace PySem
open PySem.Calls PyProof.Rows
section
variable {prog:Program}{w:World}{κ:Type}[DecidableEq κ]{knd:PySem.KeyKind prog w κ}{A:Around}{E:bF5}{s:Shared}
def wM (K:A.handled=none)(I:uG s.heap D es ep t)(B:TabOk (byT w) t)(G:es.size<=1000)
  (h:∀h' tk dr (order:List (Int × Value)),(∀b o,s.heap.get? b=some o->h'.get? b=some o)->order.Perm es.toList->R (order.map (·.2)) { s with heap:=h',toks:=tk,drawn:=dr }):wpAny (model prog w) A (collect (.ref D)) R E s:=by
 obtain⟨o,v,p,hd,C⟩:=I;have r:=j9 v;unfold collect;refine b7 (wpAny_runValue (bBR entry_proto_collect' ?_));rw[bBI PySem.F.plain_proto_collect _];show wpAny _ A.in1 (newList [] >>= λl=>again (.builtin "list.__iadd__" ⟨[l,.ref D],[]⟩)) _ _ s;refine b7 (bAF (d7 ⟨bCT PySem.F.plain_list_iadd _,bBR entry_list_iadd' ?_⟩));rw[bBI PySem.F.plain_list_iadd _];have m:(s.heap.push { cls:=.type "list",data:=.seq ([]:List Value).toArray }).get? s.heap.objs.size=some { cls:=.type "list",data:=.seq #[] }:=j8 _ rfl;show wpAny _ A.in1 (Builtin.List.listExtendWith (.ref s.heap.objs.size) (.ref D) (.ref s.heap.objs.size)) _ _ _;have n:=aMv (prog:=prog) (w:=w) (A:=A) (s:={ s with heap:=s.heap.push { cls:=.type "list",data:=.seq ([]:List Value).toArray } })
  (R:=λ(q:Result) (u:Shared)=>∃(h':Heap) (tk:Nat) (dr:Drawn) (a:Array Value) (c:Nat) (order:List (Int × Value)),q=.ok (.ret (.ref s.heap.objs.size))/\u={ s with heap:=h',toks:=tk,drawn:=dr }/\(∀b o,s.heap.get? b=some o->h'.get? b=some o)/\h'.get? s.heap.objs.size=some { cls:=.type "list",dict:=none,data:=.seq a c,slots:=#[] }/\order.Perm es.toList/\a.toList=order.map (·.2))
  K ⟨o,c7 _ v,p,hd,C⟩ B G s.heap.objs.size (bCM r) (.ref s.heap.objs.size) m
  (λh' tk dr a c order i d j g=>⟨h',tk,dr,a,c,order,rfl,rfl,λb o e=>i b o (v8 (j9 e)) (c7 _ e),d,j,g⟩)
 have k:∀(h':Heap) (tk:Nat) (dr:Drawn) (a:Array Value) (c:Nat) (order:List (Int × Value)),(∀b o,s.heap.get? b=some o->h'.get? b=some o)->h'.get? s.heap.objs.size=some { cls:=.type "list",dict:=none,data:=.seq a c,slots:=#[] }->order.Perm es.toList->a.toList=order.map (·.2) ->
   wpAny (model prog w) A (load s.heap.objs.size >>= λo=>match o.data with|.seq xs _=>pure xs.toList|_=>unsupported "internal:collect") R E { s with heap:=h',toks:=tk,drawn:=dr }:=λh' tk dr a c order i d j g=>by
  refine b7 (wpAny_load d (d7 ?_));rw[g];exact h h' tk dr order i j
 refine bAX n (λH u x=>?_) λe u x=>?_
 ·cases H with
  |done f=>obtain⟨h',tk,dr,a,c,order,e,rfl,i,d,j,g⟩:=x;cases e;exact k h' tk dr a c order i d j g
  |again c₁=>refine⟨x.1,bCN x.2 λq J y=>?_⟩;obtain⟨h',tk,dr,a,c,order,rfl,rfl,i,d,j,g⟩:=y;exact k h' tk dr a c order i d j g
 ·obtain⟨_,_,_,_,_,_,z,_⟩:=x;cases z
theorem aJ0 (x:A.handled=none)(n:wF knd s.heap D kl)(p:kl.length<=1000)
  (h:∀h' tk dr acc kl',(∀b o,s.heap.get? b=some o->h'.get? b=some o)->kl'.Perm kl->Paired (λk v=>knd.is k v=true) kl' acc->R acc { s with heap:=h',toks:=tk,drawn:=dr }):wpAny (model prog w) A (collect (.ref D)) R E s:=by
 obtain⟨o,q,u,t,m,c,hd,l,a,i⟩:=n;refine wM x ⟨o,m,c,hd,l⟩ a (by rw[<-v4,<-Paired.length i];exact p) λh' tk dr e j g=>?_;obtain⟨kl',d,f⟩:=lD g i;refine h h' tk dr _ kl' j f ?_;clear g f
 induction d with
 |nil=>exact .nil
 |cons r _ ih=>exact .cons r.1 ih
end
end PySem
namespace L2
open PySem PySem.Spec PyProof.Rows PySem.Calls
section
variable {prog:Program}{w:World}{A:Around}{E:bF5}{s:Shared}
theorem aRo (h:Paired (λk v=>(bI prog w).is k v=true) kl acc)(hi:∀k∈kl,∃n,k=Sum.inl n):∃ns:List Int,kl=ns.map Sum.inl/\IntsAre acc ns:=by
 induction h with
 |nil=>exact⟨[],rfl,.nil⟩
 |@cons k v kl acc r _ ih=>
  obtain⟨ns,rfl,b⟩:=ih λk a=>hi k (j5 _ a);obtain⟨n,rfl⟩:=hi k j0;rcases cO (show vX (Sum.inl n) v=true from r) with⟨i,t,e,rfl⟩|⟨x,t,e,_⟩
  ·cases e;exact⟨n::ns,rfl,.cons n t b⟩
  ·cases e
theorem aQk (h:Paired (λk v=>(bI prog w).is k v=true) kl acc)(hi:∀k∈kl,∃n,k=Sum.inr n):∃ns:List Str,kl=ns.map Sum.inr/\StrsAre acc ns:=by
 induction h with
 |nil=>exact⟨[],rfl,.nil⟩
 |@cons k v kl acc r _ ih=>
  obtain⟨ns,rfl,a⟩:=ih λk b=>hi k (j5 _ b);obtain⟨n,rfl⟩:=hi k j0;rcases cO (show vX (Sum.inr n) v=true from r) with⟨i,t,e,_⟩|⟨x,t,e,rfl⟩
  ·cases e
  ·cases e;exact⟨n::ns,rfl,.cons n t a⟩
def ltK:Key->Key->Prop
 |.inl a,.inl b=>a<b
 |.inr a,.inr b=>a.cps.toList<b.cps.toList
 |_,_=>False
theorem aFr:∀l p,risingS p l=true->∀x∈l,¬ x.cps.toList<p.cps.toList
 |[],_,_,x,hx=>by cases hx
 |y::r,p,h,x,hx=>by
  unfold risingS at h;rw[bAS,ltCps_eq,Bool.not_eq_true',decide_eq_false_iff_not] at h;rcases List.mem_cons.mp hx with rfl|hx
  ·exact h.1
  ·intro z;have a:=aFr r y h.2 x hx;exact h.1 (List.lt_of_le_of_lt (show y.cps.toList<=x.cps.toList from a) z)
theorem wQ:∀l p,risingS p l=true->l.Nodup->l.Pairwise λa b=>a.cps.toList<b.cps.toList
 |[],_,_,_=>.nil
 |y::r,p,h,nd=>by
  unfold risingS at h;rw[bAS] at h;rw[bFN] at nd;refine .cons (λx c=>?_) (wQ r y h.2 nd.2);have d:=aFr r y h.2 x c;rcases Classical.em (y.cps.toList<x.cps.toList) with z|z
  ·exact z
  ·exfalso;have e:=List.le_antisymm d z;have:y=x:=by cases y;cases x;exact congrArg Str.mk (Array.toList_inj.mp e)
   exact nd.1 (this ▸ c)
theorem aBq (h:IntsAre vs ns):Vals ((ns.map Sum.inl).map kV) vs:=by
 induction h with
 |nil=>exact .nil
 |cons n t _ ih=>exact .cons ⟨t,rfl⟩ ih
theorem aBu (h:StrsAre vs ns):Vals ((ns.map Sum.inr).map kV) vs:=by
 induction h with
 |nil=>exact .nil
 |cons n t _ ih=>exact .cons ⟨t,rfl⟩ ih
def vC {α β:Type}{f:α->β}{l:List α}(h:(l.map f).Nodup):l.Nodup:=List.Pairwise.imp (λa e=>a (congrArg f e)) (List.pairwise_map.mp h)
def aL1 (W:A.handled=none)(Y:wF (bI prog w) s.heap D kl)(hn:kl.length<=60)(U:kl.Nodup)(hi:(∀k∈kl,∃n,k=Sum.inl n)\/∀k∈kl,∃n,k=Sum.inr n)
  (q:∀(h1 h':Heap) (tk:Nat) (dr:Drawn) (B:Addr) (vs:List Value) (ks:List Key) (e:Nat),Vals (ks.map kV) vs->ks.Perm kl->ks.Pairwise ltK->h'.get? B=some (seqObj "list" vs.toArray e)->(∀b o,s.heap.get? b=some o->h1.get? b=some o)->(∀b o,h1.get? b=some o->h'.get? b=some o)->h1.objs.size<=B->Q (.ref B) { s with heap:=h',toks:=tk,drawn:=dr }) :
  wpAny (model prog w) A (call (.builtin "sorted") [.ref D]) Q E s:=by
 refine call_function_entry kind_sorted plain_sorted entry_sorted (args_sorted1 _) ?_;unfold Builtin.«sorted»;refine b7 (m:=checkCount "sorted" 1 1 _) (d7 (b7 (aJ0 (A:=A.in1) W Y (by lia) λh' tk dr c g f p F=>?_)));have X:c.length=kl.length:=by rw[<-Paired.length F,p.length_eq]
 have x:g.Nodup:=p.nodup_iff.mpr U;have h:c.length<64:=by lia
 refine b7 (wpAny_newList ?_ (by rw[sizeLine_eq];lia));have d:(h'.push (seqObj "list" c.toArray 0)).get? h'.objs.size=some (seqObj "list" c.toArray 0):=j8 _ rfl;have j:∀(out:Array Value) (ks:List Key),Vals (ks.map kV) out.toList->ks.Perm g->ks.Pairwise ltK->Q (.ref h'.objs.size) { s with heap:=sortedHeap (h'.push (seqObj "list" c.toArray 0)) h'.objs.size c out,toks:=tk,drawn:=dr }:=λout ks S N J=>by obtain⟨e,O⟩:=sortedHeap_at (out:=out) d;refine q h' _ tk dr h'.objs.size out.toList ks e S (N.trans p) J (by rw[Array.toArray_toList];exact O) f (λb o t=>?_) (d8 _);have l:=j9 t;rw[sortedHeap_old (v8 l) (by rw[size_push'];exact bBU l)];exact c7 _ t
 rcases hi with hi|hi
 ·obtain⟨M,rfl,u⟩:=aRo F λk f=>hi k (p.mem_iff.mp f);refine b7 (bAR (bAD slot_list_sort ⟨_,d,rfl⟩ entry_list_sort (list_sort_tree d u h λout v C z L=>⟨_,rfl,d7 ⟨_,rfl,j out (v.map Sum.inl) (aBq C) (z.map _) ?_⟩⟩) (args_list_sort _)));rw[List.pairwise_map];have G:v.Nodup:=z.nodup_iff.mpr (vC x);refine (List.pairwise_and_iff.mpr ⟨L,G⟩).imp λ{a b} ⟨h1,V⟩=>?_;show a<b;lia
 ·obtain⟨M,rfl,u⟩:=aQk F λk f=>hi k (p.mem_iff.mp f);refine b7 (bAR (bAD slot_list_sort ⟨_,d,rfl⟩ entry_list_sort (list_sort_treeK strKind_oneLt d u.keysOf (λZ T H e=>keyKind_strs (by rw[<-e];exact u)) h λP C z=>⟨_,rfl,d7 ⟨_,rfl,?_⟩⟩) (args_list_sort _)));obtain⟨i,R,I,K⟩:=sorted_out_str u C z;refine j _ (i.map Sum.inr) (aBu R) (I.map _) ?_;rw[List.pairwise_map];have G:=I.nodup_iff.mpr (vC x);cases i with
  |nil=>exact .nil
  |cons y r=>have:=wQ (y::r) y (by unfold risingS;rw[bAS,ltCps_eq];exact⟨by simpa using List.lt_irrefl _,K⟩) G;exact this
end
def aTg (P:Program)(w:World)(D:Addr)(kl:List Key):HO:=.ext λh=>wF (bI P w) h D kl
section
variable {X:Cx}{bF8:bF6}{σ:L2.St}{H:Hp}{s:Shared}
def Inv.drew (I:Inv X bF8 σ H s)(dr:Drawn):Inv X bF8 σ H { s with drawn:=dr }:=⟨I.ok,I.os,I.bare,I.base,I.loc,I.cell,I.free,I.freeC,I.pin,I.hok,I.len⟩
def bD7 (P:Program)(w:World)(K:bF4):List V->Hp->VK->Prop:=λxs H Q=>∃p ks,xs=[.ref p]/\SqL K H p (ks.map kV)/\ks.length<=4/\∀D H' kl,H D=none->Same H H'->H' D=some (aTg P w D kl)->Ded kl ks->Q (.ref D) H'
theorem aOq (h:RelV (kV k) v):(bI X.prog X.w).is k v=true/\v.scannable=true:=by
 cases k with
 |inl n=>obtain⟨t,rfl⟩:=h;exact⟨aE9 n t,rfl⟩
 |inr n=>obtain⟨t,rfl⟩:=h;exact⟨aFh n t,rfl⟩
def aRm (T:X.calm=true):cH X (.type "set") (bD7 X.prog X.w X.K):=by
 intro A s σ H S N Q I r h;obtain⟨p,ks,rfl,z,G,q⟩:=h;obtain⟨u,rfl,D⟩:=r.one;cases D;obtain⟨d,t,C,R⟩:=I.list z;have a:=t.length;rw[j6] at a;refine aR2 (knd:=bI X.prog X.w) (ks:=ks) (I.ok.hd T) C.isList (by rw[d9];exact a) (λi v L=>?_) (by rw[d9,<-a];exact G) λg J f x B M=>?_
 ·have c:d[i]?=some v:=by simpa using L
  have m:i<ks.length:=by rw[a];exact (List.getElem?_eq_some_iff.mp c).1
  obtain⟨u,n,E⟩:=t.get (i:=i) (x:=kV ks[i]) (by rw[v7,b8 m];rfl);rw[c] at n;cases n;exact⟨ks[i],b8 m,aOq E⟩
 ·have e:∃o,g.get? s.heap.objs.size=some o:=by obtain⟨o,_,_,_,F,_⟩:=x;exact⟨o,F⟩
  have j:H s.heap.objs.size=none:=I.hok.fresh (d8 _);exact⟨.ref s.heap.objs.size,_,I.laid (t':=J) (o:=aTg X.prog X.w s.heap.objs.size f) (λb o l=>M b o (j9 l) l) (d8 _) (show wF (bI X.prog X.w) g s.heap.objs.size f/\_/\_ from ⟨x,e,λP O y k=>y.at k⟩),rfl,q _ _ f j (aW j _) aF B⟩
def aUf (P:Program)(w:World):List V->Hp->VK->Prop:=λxs H Q=>∃D kl,xs=[.ref D]/\H D=some (aTg P w D kl)/\kl.length<=60/\kl.Nodup/\((∀k∈kl,∃n,k=Sum.inl n)\/∀k∈kl,∃n,k=Sum.inr n) /\
 ∀(B:Addr) (H':Hp) (ks:List Key),H B=none->Same H H'->H' B=some (.lst (ks.map kV))->ks.Perm kl->ks.Pairwise ltK->Q (.ref B) H'
def aG9 (N:X.calm=true):cH X (.builtin "sorted") (aUf X.prog X.w):=by
 intro n s σ H M F Q I r h;obtain⟨D,J,rfl,E,c,j,y,q⟩:=h;obtain⟨u,rfl,p⟩:=r.one;cases p;have x:=(I.hok D _ E).1;refine aL1 (I.ok.hd N) x c j y λL G d m B z a e A f l v C t i=>?_;have k:=I.kept (t':=d) C;have g:=k.drew m;have b:=g.hok.fresh i;have K:a.length<=60:=by rw[f.length_eq];exact c
 exact⟨.ref B,_,g.laid (t':=d) (o:=.lst (a.map kV)) t i ⟨small (by rw[j6];lia),z,e,A,v⟩,rfl,q B _ a b (aW b _) aF f l⟩
end
end L2
namespace PySem
open SetTable (Probe bits runEnd leap)
def tmk (m:Nat):SetTable:=⟨m,#[],#[],0,true,0,true⟩
def sq (m:Nat)(p:Probe):Nat->Probe
 |0=>p
 |n+1=>(tmk m).advance (sq m p n)
def hd (m:Nat)(x:Nat × Nat):Probe:=⟨x.1,runEnd m x.1 - x.1,x.1,x.2,none⟩
def x0 (m:Nat)(h:Int):Nat × Nat:=(bits h % (m+1),bits h)
def pj (m:Nat)(h:Int)(n:Nat):Nat:=(sq m (hd m (x0 m h)) n).j
def lp (m:Nat)(x:Nat × Nat):Nat->Nat × Nat
 |0=>x
 |k+1=>leap m (lp m x k).1 (lp m x k).2
theorem aHx (m:Nat)(p:Probe)(a:Nat):∀b,sq m p (a+b)=sq m (sq m p a) b
 |0=>rfl
 |b+1=>congrArg (tmk m).advance (aHx m p a b)
theorem aH1 (m:Nat)(x:Nat × Nat):∀k,k<=runEnd m x.1 - x.1->sq m (hd m x) k=⟨x.1+k,runEnd m x.1 - x.1 - k,x.1,x.2,none⟩
 |0,_=>rfl
 |k+1,h=>by unfold sq;rw[aH1 m x k (by lia)];unfold SetTable.advance;rw[if_pos (by show runEnd m x.1 - x.1 - k > 0;lia)];rfl
def aGd (m:Nat)(x:Nat × Nat):sq m (hd m x) (runEnd m x.1 - x.1+1)=hd m (leap m x.1 x.2):=by unfold sq;rw[aH1 m x _ (d8 _)];unfold SetTable.advance;rw[if_neg (by show ¬ (runEnd m x.1 - x.1 - (runEnd m x.1 - x.1) > 0);lia)];rfl
def bBe (m i:Nat):runEnd m i - i<=9:=by unfold runEnd;split <;> lia
def aCe (hi:i<=m)(a:k<=runEnd m i - i):i+k<=m:=by unfold runEnd at a;split at a <;> lia
theorem heads (m:Nat)(x:Nat × Nat):∀k,∃n,n<=10 * k/\sq m (hd m x) n=hd m (lp m x k)
 |0=>⟨0,d8 _,rfl⟩
 |k+1=>by obtain⟨n,b,a⟩:=heads m x k;refine⟨n+(runEnd m (lp m x k).1 - (lp m x k).1+1),by have:=bBe m (lp m x k).1;lia,?_⟩;rw[aHx,a,aGd];rfl
theorem aUp (m:Nat)(x:Nat × Nat):∀k,(lp m x k).2=x.2 / 32 ^ k
 |0=>by simp[lp]
 |k+1=>by show (lp m x k).2 / 32=_;rw[aUp m x k,Nat.div_div_eq_div_mul,Nat.pow_succ]
theorem aUl (m:Nat)(x:Nat × Nat)(h:x.1<=m):∀k,(lp m x k).1<=m
 |0=>h
 |k+1=>by exact Nat.le_of_lt_succ (Nat.mod_lt _ (Nat.succ_pos m))
def fI (m:Nat):Nat->Nat->Nat
 |0,i=>i
 |k+1,i=>(fI m k i * 5+1) % (m+1)
theorem aDi (m a i:Nat):∀b,fI m (b+a) i=fI m b (fI m a i)
 |0=>by rw[bDN];rfl
 |b+1=>by rw[show b+1+a=(b+a)+1 by lia];show (fI m (b+a) i * 5+1) % (m+1)=_;rw[aDi m a i b];rfl
def orb (m:Nat):Nat->Nat->List Nat
 |0,_=>[]
 |k+1,i=>i::orb m k ((i * 5+1) % (m+1))
theorem aVo:∀{n i j:Nat},j∈orb m n i->∃k,k<n/\fI m k i=j
 |n+1,i,j,h=>by
  rcases List.mem_cons.mp h with rfl|h
  ·exact⟨0,Nat.succ_pos _,rfl⟩
  ·obtain⟨k,b,a⟩:=aVo h;exact⟨k+1,Nat.succ_lt_succ b,by rw[aDi m 1 i k];exact a⟩
def Msk (m:Nat):Prop:=m=7\/m=31\/m=127
def aXe (h:Msk m):(List.range (m+1)).all (λj=>(orb m (m+1) 0).contains j)=true/\fI m (m+1) 0=0:=by rcases h with rfl|rfl|rfl <;> exact⟨by decide +kernel,by decide +kernel⟩
def cyc (h:Msk m)(hi:i<=m)(f:j<=m):∃k,k<=m/\fI m k i=j:=by
 obtain⟨d,e⟩:=aXe h;have at0:∀j,j<=m->∃k,k<m+1/\fI m k 0=j:=λj f=>aVo (by simpa using List.all_eq_true.mp d j (List.mem_range.mpr (by lia)));obtain⟨a,g,rfl⟩:=at0 i hi;obtain⟨b,l,rfl⟩:=at0 j f;by_cases c:a<=b
 ·exact⟨b - a,by lia,by rw[<-aDi,show b - a+a=b by lia]⟩
 ·exact⟨b+(m+1) - a,by lia,by rw[<-aDi,show b+(m+1) - a+a=b+(m+1) by lia,aDi,e]⟩
def aV1 (m:Nat)(h:Int):(x0 m h).1<=m/\(x0 m h).2<2 ^ 64:=by refine⟨Nat.le_of_lt_succ (Nat.mod_lt _ (Nat.succ_pos m)),?_⟩;show (h % 2 ^ 64).toNat<2 ^ 64;have a:=bEO h (show (0:Int)<2 ^ 64 by decide);have b:=bFO h (show (2 ^ 64:Int)≠0 by decide);lia
theorem aP3 (h:x.2<2 ^ 64):∀k,(lp m x (12+k)).1=fI m k (lp m x 12).1
 |0=>rfl
 |k+1=>by
  show ((lp m x (12+k)).1 * 5+1+(lp m x (12+k)).2 / 32) % (m+1)=(fI m k _ * 5+1) % (m+1);rw[aP3 h k,aUp,Nat.div_div_eq_div_mul,<-Nat.pow_succ];have:x.2 / 32 ^ (12+k+1)=0:=by refine Nat.div_eq_of_lt (z9 h ?_);exact bAE (by decide:2 ^ 64<=32 ^ 13) (Nat.pow_le_pow_right (by decide) (by lia))
  rw[this]
def aPr (d:Msk m)(h:Int)(e:j<=m):∃k,k<=12+m/\(lp m (x0 m h) k).1=j:=by obtain⟨a,b⟩:=aV1 m h;obtain⟨k,f,c⟩:=cyc d (aUl m _ a 12) e;exact⟨12+k,by lia,(aP3 b k).trans c⟩
theorem least {P:Nat->Prop}:∀n,P n->∃k,k<=n/\P k/\∀i,i<k->¬ P i:=by
 intro n
 induction n using Nat.strongRecOn with
 |ind n ih=>
  intro g;by_cases c:∃i,i<n/\P i
  ·obtain⟨i,d,e⟩:=c;obtain⟨k,a,b⟩:=ih i d e;exact⟨k,by lia,b⟩
  ·exact⟨n,d8 _,g,λi f q=>c ⟨i,f,q⟩⟩
theorem pig:∀(n:Nat) (l:List Nat),(∀j,j<n->j∈l)->n<=l.length
 |0,_,_=>bAC _
 |n+1,l,h=>by have a:=h n (bCU _);have:=pig n (l.erase n) λj b=>(List.mem_erase_of_ne (by lia)).mpr (h j (by lia));rw[List.length_erase_of_mem a] at this;have:=List.length_pos_of_mem a;lia
def first {m:Nat}(v:Msk m){l:List Nat}(hl:l.length<=m)(h:Int):∃N,N<10 * (m+15)/\pj m h N∉l/\pj m h N<=m/\∀n,n<N->pj m h n∈l:=by
 obtain⟨j,g,s⟩:∃j,j<=m/\j∉l:=Classical.byContradiction λz=>by have:=pig (m+1) l λj g=>Classical.byContradiction λq=>z ⟨j,by lia,q⟩;lia
 obtain⟨k,u,o⟩:=aPr v h g;obtain⟨n,t,p⟩:=heads m (x0 m h) k;have e:pj m h n=j:=by unfold pj;rw[p];exact o
 obtain⟨N,a,b,c⟩:=least (P:=λn=>pj m h n∉l) n (by rw[e];exact s);refine⟨N,by lia,b,?_,λi r=>Classical.byContradiction (c i r)⟩;refine (?_:∀N,pj m h N<=m) N;intro N;have f:∀N,∃x k,x.1<=m/\k<=runEnd m x.1 - x.1/\sq m (hd m (x0 m h)) N=sq m (hd m x) k:=by
  intro N
  induction N with
  |zero=>exact⟨x0 m h,0,(aV1 m h).1,bAC _,rfl⟩
  |succ N ih=>
   obtain⟨x,k,a,b,c⟩:=ih;by_cases d:k+1<=runEnd m x.1 - x.1
   ·exact⟨x,k+1,a,d,congrArg (tmk m).advance c⟩
   ·obtain rfl:k=runEnd m x.1 - x.1:=by lia
    refine⟨leap m x.1 x.2,0,?_,bAC _,(congrArg (tmk m).advance c).trans (aGd m x)⟩;exact aUl m x a 1
 obtain⟨x,k,a,b,c⟩:=f N;unfold pj;rw[c,aH1 m x k b];exact aCe a b
def Rch (m:Nat)(l:List Nat)(h:Int)(j:Nat):Prop:=∃n,pj m h n=j/\∀i,i<n->pj m h i∈l
def Rch.mono (r:Rch m l h j)(s:∀x∈l,x∈l'):Rch m l' h j:=
 let ⟨n,a,b⟩:=r;⟨n,a,λi c=>s _ (b i c)⟩
def below_at (a:Ris xs)(hi:i<xs.size):SetTable.below xs xs[i]=i:=by
 obtain⟨f,b,c⟩:=mX a xs[i];rcases bFB (SetTable.below xs xs[i]) i with h|h|h
 ·have e:=c _ (by lia) (d8 _);have d:=a _ i (by lia) hi h;lia
 ·exact h
 ·have:=b i hi h;lia
def aBk {t:SetTable}(hd:t.dummies=#[])(f:Ris t.place)(j:Nat):(j∉t.place.toList/\t.slot j=.empty)\/∃i,t.place[i]?=some j/\t.slot j=.live i:=by
 by_cases h:j∈t.place.toList
 ·right;obtain⟨i,d,e⟩:=bBA h;have a:i<t.place.size:=by simpa using d
  have b:t.place[i]=j:=by simpa using e
  subst b;refine⟨i,j7 a,?_⟩;unfold SetTable.slot;dsimp only;rw[below_at f a,j7 a];simp
 ·left;refine⟨h,?_⟩;unfold SetTable.slot;dsimp only;rw[if_neg,hd]
  ·have:SetTable.has #[] j=false:=by unfold SetTable.has;simp
   rw[this];rfl
  ·intro z;have c:=eq_of_beq z;exact h (by simpa using bDR c)
theorem aE2 (l:t.dummies=#[])(f:Ris t.place)(v:pj t.mask h N∉t.place.toList)(C:∀n,n<N->pj t.mask h n∈t.place.toList) :
  ∀(fuel n:Nat),n<=N->N - n<fuel->∃n',n<=n'/\n'<=N/\(∀k i,n<=k->k<n'->t.place[i]?=some (pj t.mask h k)->g i≠h) /\
   ((n'=N/\SetTable.probe.go t g h fuel (sq t.mask (hd t.mask (x0 t.mask h)) n)=some (.empty (pj t.mask h N) none)) \/
   (n'<N/\∃i,t.place[i]?=some (pj t.mask h n')/\g i=h/\SetTable.probe.go t g h fuel (sq t.mask (hd t.mask (x0 t.mask h)) n)=some (.candidate (pj t.mask h n') i (sq t.mask (hd t.mask (x0 t.mask h)) (n'+1)))))
 |0,n,_,hf=>by lia
 |fuel+1,n,hn,hf=>by
  have s:(sq t.mask (hd t.mask (x0 t.mask h)) n).dummy=none:=by
   clear hn hf
   induction n with
   |zero=>rfl
   |succ n ih=>
    unfold sq SetTable.advance
    split
    ·exact ih
    ·exact ih
  unfold SetTable.probe.go;rcases aBk l f (pj t.mask h n) with⟨a,b⟩|⟨i,a,b⟩
  ·have e:=Nat.le_antisymm hn (Nat.le_of_not_lt λz=>a (C n z));subst e;refine⟨n,d8 _,d8 _,λk i p m=>by lia,.inl ⟨rfl,?_⟩⟩;rw[show t.slot (sq t.mask (hd t.mask (x0 t.mask h)) n).j=.empty from b];dsimp only;rw[s];rfl
  ·have d:=Nat.lt_of_le_of_ne hn λz=>v (by rw[<-z];simpa using bDR a);rw[show t.slot (sq t.mask (hd t.mask (x0 t.mask h)) n).j=.live i from b];dsimp only;by_cases c:g i=h
   ·refine⟨n,d8 _,hn,λk i p m=>by lia,.inr ⟨d,i,a,c,?_⟩⟩;rw[if_pos (beq_iff_eq.mpr c)];rfl
   ·rw[if_neg (by simpa using c)];obtain⟨n',p,m,y,u⟩:=aE2 l f v C fuel (n+1) d (by lia);refine⟨n',by lia,m,λk q D x o=>?_,u⟩;by_cases e:k=n
    ·subst e;have:q=i:=by obtain⟨w,r⟩:=Array.getElem?_eq_some_iff.mp o;obtain⟨A,B⟩:=Array.getElem?_eq_some_iff.mp a;rw[<-below_at f w,<-below_at f A,r,B]
     rw[this];exact c
    ·exact y k q (by lia) x o
theorem aEh {α β:Type}{R:α->β->Prop}{as:List α}{bs:List β}(h:Paired R as bs):∀{i:Nat} {a:α},as[i]?=some a->∃b,bs[i]?=some b/\R a b:=by
 induction h with
 |nil=>intro i a q;cases q
 |cons r _ ih=>
  intro i a q;cases i with
  |zero=>cases q;exact⟨_,rfl,r⟩
  |succ i=>exact ih q
def aYg {m:Nat}(H:Msk m){B:Array (Option Nat)}{f:List Nat}(ch:∀j,j<=m->((B.getD j (some 0)).isNone=true↔j∉f))(hl:f.length<=m)(h:Int) :
  ∃j,SetTable.layClean.free m B (SetTable.turns m) (bits h % (m+1)) (bits h)=some j/\j<=m/\j∉f/\Rch m f h j:=by
 obtain⟨j,t,y⟩:∃j,j<=m/\j∉f:=Classical.byContradiction λz=>by have:=pig (m+1) f λj t=>Classical.byContradiction λq=>z ⟨j,by lia,q⟩;lia
 obtain⟨K,I,w⟩:=aPr H h t;have r:∀a k,k<=K->K - k<a->(∃n,sq m (hd m (x0 m h)) n=hd m (lp m (x0 m h) k)/\∀i,i<n->pj m h i∈f)->∃j,SetTable.layClean.free m B a (lp m (x0 m h) k).1 (lp m (x0 m h) k).2=some j/\j<=m/\j∉f/\Rch m f h j:=by
  intro a
  induction a with
  |zero=>intro k _ z;lia
  |succ a ih=>
   intro k E F ⟨n,e,s⟩;have b:=aUl m _ (aV1 m h).1 k;have g:∀c,c<=runEnd m (lp m (x0 m h) k).1 - (lp m (x0 m h) k).1->pj m h (n+c)=(lp m (x0 m h) k).1+c:=λc l=>by unfold pj;rw[aHx,e,aH1 _ _ _ l]
   have A:∀c,c<=runEnd m (lp m (x0 m h) k).1 - (lp m (x0 m h) k).1->(∀d,d<c->(lp m (x0 m h) k).1+d∈f)->∀i,i<n+c->pj m h i∈f:=λc l hd i u=>by
    by_cases z:i<n
    ·exact s i z
    ·have:=hd (i - n) (by lia);rw[<-g (i - n) (by lia),show n+(i - n)=i by lia] at this;exact this
   have D:(lp m (x0 m h) k).1<=runEnd m (lp m (x0 m h) k).1:=by unfold runEnd;split <;> lia
   unfold SetTable.layClean.free;cases p:(List.range (runEnd m (lp m (x0 m h) k).1+1 - (lp m (x0 m h) k).1)).find? λc=>(B.getD ((lp m (x0 m h) k).1+c) (some 0)).isNone with
   |some c=>
    rw[List.find?_range_eq_some] at p;obtain⟨x,v,C⟩:=p;rw[List.mem_range] at v;have l:c<=runEnd m (lp m (x0 m h) k).1 - (lp m (x0 m h) k).1:=by lia
    refine⟨_,rfl,aCe b l,(ch _ (aCe b l)).mp x,n+c,g c l,A c l λd hd=>Classical.byContradiction λz=>?_⟩;have:=C d hd;rw[(ch _ (aCe b (by lia))).mpr z] at this;cases this
   |none=>
    rw[List.find?_range_eq_none] at p;have o:∀d,d<runEnd m (lp m (x0 m h) k).1+1 - (lp m (x0 m h) k).1->(lp m (x0 m h) k).1+d∈f:=λd hd=>Classical.byContradiction λz=>by have:=p d hd;rw[(ch _ (aCe b (by lia))).mpr z] at this;cases this
    have G:k≠K:=λz=>y (by rw[<-w,<-z];exact o 0 (by lia));refine ih (k+1) (by lia) (by lia) ⟨n+(runEnd m (lp m (x0 m h) k).1 - (lp m (x0 m h) k).1+1),by rw[aHx,e,aGd];rfl,λi u=>?_⟩;by_cases z:i<n
    ·exact s i z
    ·have:=o (i - n) (by lia);rw[<-g (i - n) (by lia),show n+(i - n)=i by lia] at this;exact this
 exact r _ 0 (bAC _) (by unfold SetTable.turns;lia) ⟨0,rfl,λi u=>by lia⟩
structure LI (m:Nat)(done:List Int)(js:List Nat)(ow:Array (Option Nat)):Prop where
 sz:ow.size=m+1
 at_:∀j k:Nat,ow[j]?=some (some k)↔js[k]?=some j
 le:∀j∈js,j<=m
 pr:Paired (Rch m js) done js
theorem LI.ch (L:LI m done js ow)(j:Nat)(hj:j<=m):(ow.getD j (some 0)).isNone=true↔j∉js:=by
 have a:j<ow.size:=by rw[L.sz];lia
 rw[v6,j7 a,bBN];cases e:ow[j] with
 |none=>refine⟨λ_ z=>?_,λ_=>rfl⟩;obtain⟨k,b,q⟩:=bBA z;have:=(L.at_ j k).mpr (by rw[b8 b,q]);rw[j7 a,e] at this;cases this
 |some k=>exact⟨λz=>(by cases z),λz=>absurd (t8 ((L.at_ j k).mp (by rw[j7 a,e]))) z⟩
def LI.more (L:LI m done js ow)(i:j<=m)(l:j∉js)(r:Rch m js h j):LI m (done++[h]) (js++[j]) (ow.setIfInBounds j (some js.length)):=by
 have g:j<ow.size:=by rw[L.sz];lia
 refine⟨by rw[Array.size_setIfInBounds,L.sz],λf k=>?_,λx d=>?_,?_⟩
 ·by_cases e:j=f
  ·subst e;rw[Array.getElem?_setIfInBounds_self_of_lt g];constructor
   ·intro z;cases z;rw[bBG (d8 _),Nat.sub_self];rfl
   ·intro z;rcases bFB k js.length with c|c|c
    ·rw[bBJ c] at z;exact absurd (t8 z) l
    ·rw[c]
    ·rw[bAA (by rw[w6];show js.length+1<=k;lia)] at z;cases z
  ·rw[bFD e,L.at_];rcases bFB k js.length with c|c|c
   ·rw[bBJ c]
   ·rw[c,bBG (d8 _),Nat.sub_self,bAA (d8 _)];exact⟨λz=>(by cases z),λz=>absurd (bAK z) e⟩
   ·rw[bAA (by lia),bAA (by rw[w6];show js.length+1<=k;lia)]
 ·rcases List.mem_append.mp d with z|z
  ·exact L.le x z
  ·rw[List.mem_singleton.mp z];exact i
 ·exact pJ (L.pr.mono λa b q=>q.mono λx d=>bBQ _ d) (r.mono λx d=>bBQ _ d)
theorem aOn (i:Msk m)(c:∀o k h j,SetTable.layClean.free m o (SetTable.turns m) (bits h % (m+1)) (bits h)=some j->f (some (o,k)) h=some (o.setIfInBounds j (some k),k+1)) :
  ∀hs done js ow,LI m done js ow->js.length+hs.length<=m->∃js' ow' k,hs.foldl f (some (ow,js.length))=some (ow',k)/\LI m (done++hs) js' ow'
 |[],done,js,ow,L,_=>⟨js,ow,_,rfl,by rw[bBB];exact L⟩
 |h::hs,done,js,ow,L,hl=>by rw[m8] at hl;obtain⟨j,e,d,g,b⟩:=aYg i L.ch (by lia) h;obtain⟨js',ow',k,q,a⟩:=aOn i c hs (done++[h]) (js++[j]) _ (L.more d g b) (by rw[w6];show js.length+1+hs.length<=m;lia);refine⟨js',ow',k,?_,by rw[bCY] at a;exact a⟩;rw[List.foldl_cons,c _ _ _ _ e];rw[w6] at q;exact q
theorem aKh {α:Type}:∀l:List α,(List.range l.length).filterMap (λi=>l[i]?)=l
 |[]=>rfl
 |x::l=>by rw[m8,List.range_succ_eq_map,bCF];simp only[List.getElem?_cons_zero,bEK,Function.comp_def,Nat.succ_eq_add_one,List.getElem?_cons_succ];rw[aKh l]
def aXr {m:Nat}(R:Msk m)(es:Array (Int × Value))(S:es.size<=m)(fi mv:Nat)(ld pl:Bool):∃place order,SetTable.laid m fi mv ld pl (es.map (·.1))=some (⟨m,place,#[],fi,ld,mv,pl⟩,order)/\Ris place/\(∀j∈place.toList,j<=m) /\
  (order.filterMap (es[·]?)).toList.Perm es.toList/\Paired (λj e=>Rch m place.toList e.1 j) place.toList (order.filterMap (es[·]?)).toList:=by
 have O:LI m [] [] (Array.replicate (m+1) none):=⟨Array.size_replicate,λj k=>⟨λz=>(by
  rw[Array.getElem?_replicate] at z
  split at z <;> cases z),λz=>(by cases z)⟩,λj u=>(by cases u),.nil⟩
 have B:([]:List Nat).length+(es.map (·.1)).toList.length<=m:=by simpa using S
 obtain⟨p,t,k,e,L⟩:=aOn R (f:=λH h=>do
  let (owner,k) <-H
  let j <-SetTable.layClean.free m owner (SetTable.turns m) (bits h % (m+1)) (bits h)
  pure (owner.setIfInBounds j (some k),k+1)) (λo k h j q=>by show (SetTable.layClean.free m o _ _ _).bind _=_;rw[q];rfl) (es.map (·.1)).toList [] [] _ O B
 rw[bEJ] at L;have M:p.length=es.size:=by rw[<-L.pr.length];simp
 have P:SetTable.layClean m (es.map (·.1))=some t:=by unfold SetTable.layClean;rw[<-Array.foldl_toList];exact congrArg (Option.map (·.1)) e
 have c:∀x:Nat × Nat,x∈(List.range (m+1)).filterMap (λj=>(t.getD j none).map (j,·))↔p[x.2]?=some x.1:=λx=>by
  rw[List.mem_filterMap,<-L.at_];constructor
  ·rintro⟨j,u,q⟩;have n:j<t.size:=by rw[L.sz];exact List.mem_range.mp u
   rw[v6,j7 n,bBN] at q;obtain⟨k,g,rfl⟩:=Option.map_eq_some_iff.mp q;rw[j7 n,g]
  ·intro q;obtain⟨n,g⟩:=Array.getElem?_eq_some_iff.mp q;refine⟨x.1,List.mem_range.mpr (by rw[L.sz] at n;exact n),?_⟩;rw[v6,q];rfl
 generalize G:(List.range (m+1)).filterMap (λj=>(t.getD j none).map (j,·))=live at c;have s:∀j b,(t.getD j none).map (j,·)=some b->b.1=j:=λj b q=>by obtain⟨_,_,rfl⟩:=Option.map_eq_some_iff.mp q;rfl
 have C:live.Pairwise λa b=>a.1<b.1:=by rw[<-G,List.pairwise_filterMap];exact List.pairwise_lt_range.imp λ{a b} F x l y w=>by rw[s a x l,s b y w];exact F
 have I:(live.map (·.2)).Nodup:=by refine List.pairwise_map.mpr ((List.pairwise_and_iff.mpr ⟨C,List.pairwise_iff_forall_sublist.mpr λ{a b} q=>(⟨(c a).mp (q.subset j0),(c b).mp (q.subset (j5 _ j0))⟩:p[a.2]?=some a.1/\p[b.2]?=some b.1)⟩).imp λ{a b} ⟨T,J,N⟩ z=>?_);rw[z,N] at J;have:=bAK J;lia
 have K:(live.map (·.2)).Perm (List.range es.size):=(bFX I List.nodup_range).mpr λk=>by
  rw[List.mem_map,List.mem_range];constructor
  ·rintro⟨x,l,rfl⟩;rw[<-M];exact (List.getElem?_eq_some_iff.mp ((c x).mp l)).1
  ·intro D;exact⟨(p[k]'(by lia),k),(c _).mpr (b8 _),rfl⟩
 have v:((live.map (·.2)).toArray.filterMap (es[·]?)).toList=live.filterMap λx=>es[x.2]?:=by rw[Array.toList_filterMap];simp only[bEK,Function.comp_def]
 refine⟨(live.map (·.1)).toArray,(live.map (·.2)).toArray,?_,?_,λj u=>?_,?_,?_⟩
 ·unfold SetTable.laid;rw[P];show some _=_;rw[<-G]
 ·rw[aBe];exact List.pairwise_map.mpr C
 ·obtain⟨x,l,rfl⟩:=List.mem_map.mp u;exact L.le _ (t8 ((c x).mp l))
 ·rw[Array.toList_filterMap];refine (K.filterMap _).trans ?_;have:=aKh es.toList;rw[v4] at this;simp only[bBO] at this;rw[this]
 ·rw[v];have d:∀x∈live,∃e:Int × Value,es[x.2]?=some e/\Rch m (live.map (·.1)) e.1 x.1:=λx l=>by
   have q:=(c x).mp l;have D:x.2<es.size:=by rw[<-M];exact (List.getElem?_eq_some_iff.mp q).1
   refine⟨es[x.2],j7 D,?_⟩;obtain⟨b,g,A⟩:=aEh L.pr (i:=x.2) (a:=es[x.2].1) (by simp[D]);rw[q] at g;cases g;exact A.mono λy w=>by obtain⟨i,Q,z⟩:=bBA w;exact List.mem_map.mpr ⟨(y,i),(c _).mpr (by rw[b8 Q,z]),rfl⟩
  refine (?_:∀E,(∀x∈live,∃e:Int × Value,es[x.2]?=some e/\Rch m E e.1 x.1)->Paired (λj (e:Int × Value)=>Rch m E e.1 j) (live.map (·.1)) (live.filterMap λx=>es[x.2]?)) _ d;clear d v K I C G c;intro E d
  induction live with
  |nil=>exact .nil
  |cons x r ih=>obtain⟨e,g,A⟩:=d x j0;rw[bCF,g];exact .cons A (ih λy w=>d y (j5 _ w))
end PySem
namespace PySem
open SetTable (Probe bits)
section
variable {prog:Program}{w:World}{κ:Type}[DecidableEq κ]{knd:KeyKind prog w κ}{A:Around}{E:bF5}{s:Shared}
structure TI (b:Bool)(t:SetTable)(es:Array (Int × Value)):Prop where
 led:b=false->t.led=true
 dm:t.dummies=#[]
 msk:Msk t.mask
 ris:Ris t.place
 pr:Paired (λj (e:Int × Value)=>Rch t.mask t.place.toList e.1 j) t.place.toList es.toList
 room:5 * es.size<3 * t.mask
def TI.len {b:Bool}{t:SetTable}{es:Array (Int × Value)}(x:TI b t es):t.place.size=es.size:=by have:=x.pr.length;simpa using this
theorem TI.fits (x:TI b t es):t.fits es.size=true:=by unfold SetTable.fits SetTable.fill;rw[x.len,x.dm];have:=x.room;simp;lia
def TI.tab (x:TI b t es):TabOk b t:=⟨x.led,x.dm,by rcases x.msk with e|e|e <;> lia,λ_=>x.ris⟩
def aFj (e:Ex h0 h)(x:IsTupleKey knd h0 k a):IsTupleKey knd h k a:=let ⟨o,i,n,ho,r⟩:=x;⟨o,i,n,e _ _ ho,r⟩
variable {T:List κ->Addr->Prop}
def ElT (knd:KeyKind prog w κ)(T:List κ->Addr->Prop)(h0:Heap)(k:List κ)(e:Int × Value):Prop:=∃a,e.2=.ref a/\(IsTupleKey knd h0 k a/\T k a)/\e.1=tupleKeyHash knd k
theorem ElT.inj (x:ElT knd T h0 k e)(y:ElT knd T h0 k' e):k=k':=by obtain⟨a,g,d,_⟩:=x;obtain⟨b,c,f,_⟩:=y;rw[g] at c;cases c;exact d.1.inj f.1
theorem cls_val (n:Nat)(h:carriedByValue v=true):ofAClassStatement n v=pure false:=by
 cases v with
 |ref a=>simp[carriedByValue] at h
 |_=>first|rfl|simp[ofAClassStatement]|(unfold ofAClassStatement;rfl)
def aP5 (g:IsTupleKey knd s.heap k a)(h:Q false s):wpAny (model prog w) A (ofAClassStatement 8 (.ref a)) Q E s:=by
 have f:=g.typeIs;obtain⟨o,d,n,j,_,hd,i⟩:=g;unfold ofAClassStatement;refine b7 (bEU f ?_);dsimp only;rw[if_pos (by rfl)];refine b7 (d7 ?_);simp only[Bool.not_true,bAU,if_false];refine b7 (bBE j hd (b7 ?_));rw[<-Array.forIn_toList];refine bFH _ (λb r e=>r.1=none/\e=s/\∀v∈b,carriedByValue v=true) _ ?_ ?_ _ _ ⟨rfl,rfl,i.byValue⟩
 ·rintro v b r e ⟨hr,rfl,hall⟩;rw[cls_val _ (hall v j0)];refine b7 (d7 ?_);simp only[bAU,if_false];exact d7 ⟨rfl,rfl,λu c=>hall u (j5 _ c)⟩
 ·rintro⟨m,l⟩ e ⟨hr,rfl,_⟩;simp only at hr;subst hr;exact d7 h
def aTq (i:IsTupleKey knd s.heap k a)(h:Q false s)(n:∀v∈l,∃b k',v=.ref b/\IsTupleKey knd s.heap k' b):wpAny (model prog w) A (searchCouldBeSeen (.ref a) l) Q E s:=by
 unfold searchCouldBeSeen;refine b7 (bFH _ (λc r d=>r.1=none/\d=s/\∀v∈c,∃b k',v=.ref b/\IsTupleKey knd s.heap k' b) _ ?_ ?_ _ _ ⟨rfl,rfl,n⟩)
 ·rintro v c r d ⟨hr,rfl,hall⟩;have g:∀v∈c,∃b k',v=.ref b/\IsTupleKey knd d.heap k' b:=λu e=>hall u (j5 _ e);obtain⟨b,k',rfl,f⟩:=hall v j0;dsimp only
  split
  ·exact d7 ⟨rfl,rfl,g⟩
  ·refine b7 (wpAny_eqIsQuiet_tuple i ?_);refine b7 (wpAny_eqIsQuiet_tuple f ?_);refine b7 (aP5 i ?_);exact b7 (aP5 f (d7 ⟨rfl,rfl,g⟩))
 ·rintro⟨m,j⟩ d ⟨hr,rfl,_⟩;simp only at hr;subst hr;exact d7 h
theorem aWo (n:Nat)(h:carriedByValue v=true):∃b,hashByValue n v=pure b:=by
 cases v with
 |ref a=>simp[carriedByValue] at h
 |_=>first|exact⟨_,rfl⟩|exact⟨_,by unfold hashByValue;rfl⟩
def aY5 (j:IsTupleKey knd s.heap k a)(h:∀b,Q b s):wpAny (model prog w) A (hashByValue 8 (.ref a)) Q E s:=by
 have i:=j.typeIs;obtain⟨o,d,n,p,_,hd,l⟩:=j;unfold hashByValue;refine b7 (wpAny_specialOf i F.slot_tuple_hash.lookup ?_);dsimp only;refine b7 (bBE p hd (b7 ?_));simp only[bBN];rw[<-Array.forIn_toList];refine bFH _ (λc r f=>f=s/\∀v∈c,carriedByValue v=true) _ ?_ ?_ _ _ ⟨rfl,l.byValue⟩
 ·rintro v c r f ⟨rfl,hall⟩;obtain⟨b,e⟩:=aWo 7 (hall v j0);rw[e];refine b7 (d7 ?_);cases b with
  |true=>exact d7 ⟨rfl,λu g=>hall u (j5 _ g)⟩
  |false=>exact d7 (d7 (h _))
 ·rintro⟨m,q⟩ f ⟨rfl,_⟩;cases m with
  |none=>exact d7 (h _)
  |some r=>exact d7 (h _)
def aFp {xs:Array Nat}(e:Ris xs){i j p:Nat}(a:xs[i]?=some p)(b:xs[j]?=some p):i=j:=by obtain⟨f,d⟩:=Array.getElem?_eq_some_iff.mp a;obtain⟨c,g⟩:=Array.getElem?_eq_some_iff.mp b;rw[<-below_at e f,<-below_at e c,d,g]
def aQn (ho:s.heap.get? D=some o)(V:o.data=.set es ep t)(h:TI (byT w) t es)(G:Ex h0 s.heap)(hu:A.units<cLine)(ka:IsTupleKey knd h0 k a)(pr:Paired (ElT knd T h0) kl es.toList)
  (a1:k∈kl->Q (.there none) s) (a0:k∉kl->∀j,j∉t.place.toList->Rch t.mask t.place.toList (tupleKeyHash knd k) j->Q (.free j false) s) :
  wpAny (model prog w) A (setSearch D (.ref a) (tupleKeyHash knd k) true) Q E s:=by
 have X:=h.fits;have ll:t.place.toList.length<=t.mask:=by rw[v4,h.len];have:=h.room;lia
 obtain⟨N,n1,J,_,U⟩:=first h.msk ll (tupleKeyHash knd k)
 have S:∀(f n:Nat) (K:Option Probe),n<=N->N - n<f->K.getD (t.probeStart (tupleKeyHash knd k))=sq t.mask (hd t.mask (x0 t.mask (tupleKeyHash knd k))) n->(∀(l i:Nat) (e:Int × Value),l<n->t.place[i]?=some (pj t.mask (tupleKeyHash knd k) l)->es[i]?=some e->¬ ElT knd T h0 k e) ->
   wpAny (model prog w) A (setSearchFrom D (.ref a) (tupleKeyHash knd k) true f K) Q E s:=by
  intro f
  induction f with
  |zero=>intro n K _ z;lia
  |succ f ih=>
   intro n K hn a3 L P;unfold setSearchFrom;refine b7 (bBH ho V X ?_);dsimp only;rw[if_neg (by unfold SetTable.gaveWay;rcases h.msk with e|e|e <;> rw[e] <;> decide),L];generalize hp:t.probe _ (tupleKeyHash knd k) (sq t.mask (hd t.mask (x0 t.mask (tupleKeyHash knd k))) n)=pm;have u:SetTable.probe.go t (λi=>(es[i]?.map (·.1)).getD 0) (tupleKeyHash knd k) (10 * SetTable.turns t.mask) (sq t.mask (hd t.mask (x0 t.mask (tupleKeyHash knd k))) n)=pm:=hp;obtain⟨l,m1,m2,m3,H⟩:=aE2 (g:=λi=>(es[i]?.map (·.1)).getD 0) h.dm h.ris J U (10 * SetTable.turns t.mask) n hn (by unfold SetTable.turns;lia);have I:∀(d i:Nat) (e:Int × Value),d<l->t.place[i]?=some (pj t.mask (tupleKeyHash knd k) d)->es[i]?=some e->¬ ElT knd T h0 k e:=λd i e F r p C=>by
    by_cases z:d<n
    ·exact P d i e z r p C
    ·refine m3 d i (by lia) F r ?_;rw[p];obtain⟨_,_,_,e'⟩:=C;exact e'
   rcases H with⟨rfl,H⟩|⟨m5,i,m6,m7,H⟩
   ·rw[H] at u;subst u;dsimp only;refine d7 (a0 (λz=>?_) _ J ⟨_,rfl,U⟩);obtain⟨e,F,r⟩:=aAe pr k z;obtain⟨i,hi,rfl⟩:=bBA F;have B:i<es.size:=by simpa using hi
    have x:i<t.place.size:=by rw[h.len];exact B
    obtain⟨b,p,m,C,Z⟩:=aEh h.pr (i:=i) (a:=t.place[i]) (by simp[x]);rw[b8 hi] at p;cases p;obtain⟨_,_,_,q6⟩:=id r;rw[q6] at C Z;refine I m i _ (Nat.lt_of_not_le λz=>?_) (by rw[C,j7 x]) (by simp[B]) r;rcases bFU z with z|z
    ·exact J (Z _ z)
    ·rw[z,C] at J;exact J (by simp[bEX])
   ·rw[H] at u;subst u;dsimp only;have x:=(Array.getElem?_eq_some_iff.mp m6).1;have B:i<es.size:=by rw[<-h.len];exact x
    have O:=j7 B;obtain⟨k',M,a',e1,kb,e2⟩:=lH pr es[i] (by simp[bEX]);have sl:t.slot (pj t.mask (tupleKeyHash knd k) l)=.live i:=by
     rcases aBk h.dm h.ris (pj t.mask (tupleKeyHash knd k) l) with⟨q,_⟩|⟨Y,q,q'⟩
     ·exact absurd (U l m5) q
     ·rw[q',aFp h.ris q m6]
    have W:∀{R:Bool->Shared->Prop},R false s->wpAny (model prog w) A (searchCouldBeSeen (.ref a) ((es.filter (·.1 == tupleKeyHash knd k)).toList.map (·.2))) R E s:=λhR=>aTq (aFj G ka) hR λv hv=>by obtain⟨e,F,rfl⟩:=List.mem_map.mp hv;rw[Array.toList_filter] at F;obtain⟨k2,_,a2,r,p,_⟩:=lH pr e (List.mem_filter.mp F).1;exact⟨a2,k2,r,aFj G p.1⟩
    generalize es[i]=ee at *;obtain⟨hh,y⟩:=ee;dsimp only at e1;subst e1;cases hl:t.led;all_goals
     first
      |(rw[if_pos (by rfl)];refine b7 (W ?_);rw[if_neg (by decide)])
      |rw[if_neg (by decide)]
     rw[O];dsimp only;refine b7 (bAR (wpAny_eqBool_tuple hu (aFj G kb.1) (aFj G ka) ?_));refine b7 (bBH ho V X ?_);by_cases c:k'=k
     ·rw[m9 c,if_pos (by rfl)];exact d7 (a1 (c ▸ M))
     ·rw[v9 c,if_neg (by decide)];dsimp only;rw[show t.sameMemory t.moves t.mask=some true by unfold SetTable.sameMemory;rw[if_pos (by simp)]];dsimp only;rw[if_pos rfl,sl];dsimp only;rw[O];dsimp only;refine b7 (wpAny_isSame_ref_self ?_);refine b7 (d7 ?_);rw[if_pos rfl];dsimp only;rw[if_neg (by decide)];refine ih (l+1) (some _) m5 (by lia) rfl λd Y e F r p C=>?_;by_cases z:d<l
      ·exact I d Y e z r p C
      ·obtain rfl:d=l:=by lia
       rw[aFp h.ris r m6,O] at p;cases p;exact c ((ElT.inj ⟨a',rfl,kb,e2⟩ C))
 exact S _ 0 none (bAC _) (by rcases h.msk with e|e|e <;> rw[e] at n1 <;> lia) rfl λl i e z=>by lia
theorem aBg {α β:Type}{R:α->β->Prop}{a:α}{b:β}(r:R a b):∀{as:List α} {bs:List β},Paired R as bs->∀p,Paired R (as.take p++a::as.drop p) (bs.take p++b::bs.drop p)
 |_,_,.nil,p=>by rw[bEE,bEE,List.drop_nil,List.drop_nil];exact .cons r .nil
 |_,_,.cons q t,0=>.cons r (.cons q t)
 |_,_,.cons q t,p+1=>.cons q (aBg r t p)
def aJm {α:Type}(l:List α)(x:α)(p:Nat):(l.take p++x::l.drop p).Perm (l++[x]):=
 List.perm_middle.trans (by rw[List.take_append_drop];exact (List.perm_append_singleton x l).symm)
def SetT (knd:KeyKind prog w κ)(T:List κ->Addr->Prop)(h0 h:Heap)(D:Addr)(kl:List (List κ)):Prop:=∃o es ep t,h.get? D=some o/\o.ExactSet/\o.data=.set es ep t/\TI (byT w) t es/\Paired (ElT knd T h0) kl es.toList
def aVv (ho:s.heap.get? D=some o)(hd:o.data=.set es ep t)(r:t.fits es.size=true)(d:Msk m)(k:SetTable.sizeAbove n=m+1)(u:5 * es.size<3 * m)(l:byT w=false->t.led=true)
  (h:∀es' t',es'.toList.Perm es.toList->TI (byT w) t' es'->Q () { s with heap:=s.heap.update D (Obj.putSet es' t') }):wpAny (model prog w) A (setRelay D n) Q E s:=by
 unfold setRelay;refine b7 (bBH ho hd r ?_);dsimp only;have p:es.size<=m:=by lia
 obtain⟨g,b,i,j,_,f,q⟩:=aXr d es p t.finger (t.movedTo m) t.led t.plain;have c:(b.filterMap (es[·]?)).size=es.size:=by rw[<-v4,f.length_eq,v4]
 rw[if_neg (by rw[k,sizeLine_eq];rcases d with e|e|e <;> lia)];refine b7 (bEQ (a:=(b.filterMap (es[·]?),⟨m,g,#[],t.finger,t.led,t.movedTo m,t.plain⟩)) ?_ (bF2 ho hd (h _ _ f ⟨l,rfl,d,j,q,by rw[c];exact u⟩) (by rw[c,sizeLine_eq];rcases d with e|e|e <;> lia)));rw[show t.relaid (es.map (·.1)) n=some (⟨m,g,#[],t.finger,t.led,t.movedTo m,t.plain⟩,b) by unfold SetTable.relaid;rw[k];exact i];exact if_neg (by simp[c])
def aSr {D a:Addr}{H:List (List κ)}{k:List κ}{h0:Heap}{Q:Bool->Shared->Prop}(hu:A.units<cLine)(F:Ex h0 s.heap)(W:IsTupleKey knd h0 k a)(hT:T k a)(hS:SetT knd T h0 s.heap D H)(hroom:H.length<76)
  (h:∀h' tk kl' b,Heap.SameBut D s.heap h'->SetT knd T h0 h' D kl'->kl'.Perm (if k∈H then H else H++[k])->Q b { s with heap:=h',toks:=tk }):wpAny (model prog w) A (setAdd D (.ref a)) Q E s:=by
 obtain⟨o,f,ep,t,B,C,hd,g,X⟩:=id hS;have hn:H.length=f.size:=by rw[Paired.length X,v4]
 unfold setAdd;refine bAR (b7 (wpAny_pyHash_tuple hu (aFj F W) ?_));generalize s.toks+_=tk;unfold setAddHashed setAddHashedIn;refine bAR (b7 (bBH B hd g.fits ?_));dsimp only;rw[if_neg (by unfold byScan;simp[Value.scannable])];refine b7 (aQn (s:={ s with toks:=tk }) B hd g F hu W X (λz=>?_) λz j hj hr=>?_)
 ·exact d7 (h s.heap tk H false (Heap.SameBut.refl D s.heap) hS (by rw[if_pos z]))
 ·dsimp only;have bl:=(mX g.ris j).1;have lp:(SetTable.insertAt t.place (SetTable.below t.place j) j).toList=_:=lV _ _ _ bl;have S:(SetTable.insertAt f (SetTable.below t.place j) (tupleKeyHash knd k,Value.ref a)).toList=_:=lV f _ _ (by rw[<-g.len];exact bl);have nj:t.place[SetTable.below t.place j]?≠some j:=λq=>hj (by simpa using bDR q);have v:∀x,x∈t.place.toList->x∈(SetTable.insertAt t.place (SetTable.below t.place j) j).toList:=λx hx=>by rw[lp,(aJm _ _ _).mem_iff];exact bBQ _ hx
  have r:Paired (λi (e:Int × Value)=>Rch t.mask (SetTable.insertAt t.place (SetTable.below t.place j) j).toList e.1 i) (SetTable.insertAt t.place (SetTable.below t.place j) j).toList (SetTable.insertAt f (SetTable.below t.place j) (tupleKeyHash knd k,Value.ref a)).toList:=by
   rw[S];generalize (SetTable.insertAt t.place (SetTable.below t.place j) j).toList=L at lp v ⊢;refine (?_:∀L',L'=L->Paired (λi (e:Int × Value)=>Rch t.mask L e.1 i) L' _) L rfl;rintro L' rfl
   conv=>arg 2;rw[lp]
   exact aBg (R:=λi (e:Int × Value)=>Rch t.mask L' e.1 i) (hr.mono v) (g.pr.mono λ_ _ q=>q.mono v) _
  obtain⟨kl',n,pm⟩:=lD (S ▸ aJm f.toList _ _:(SetTable.insertAt f (SetTable.below t.place j) (tupleKeyHash knd k,Value.ref a)).toList.Perm _) (pJ X (show ElT knd T h0 k (tupleKeyHash knd k,Value.ref a) from ⟨a,rfl,⟨W,hT⟩,rfl⟩));generalize O:SetTable.insertAt f (SetTable.below t.place j) (tupleKeyHash knd k,Value.ref a)=es1 at S r n;have sz:es1.size=f.size+1:=by rw[<-v4,<-Paired.length n,pm.length_eq,w6,hn];rfl
  have N:∀pt:SetTable × Nat,pt.1.mask=t.mask->pt.1.place=SetTable.insertAt t.place (SetTable.below t.place j) j->pt.1.dummies=#[]->pt.1.led=t.led->pt.2=SetTable.below t.place j->wpAny (model prog w) A (do
    let byValue <-if pt.1.plain then hashByValue 8 (Value.ref a) else pure true
    let t:=if byValue then pt.1 else { pt.1 with plain:=false }
    storeSet D (SetTable.insertAt f pt.2 (tupleKeyHash knd k,Value.ref a)) t
    if !false && t.tooFull then setRelay D (SetTable.grown (f.size+1))
    return true) Q E { s with toks:=tk }:=by
   intro ⟨K,p⟩ f1 f2 f3 f4 f5;dsimp only at f1 f2 f3 f4 f5 ⊢;subst f5;rw[O];have l:∀d:SetTable,d.mask=t.mask->d.place=K.place->d.dummies=#[]->d.led=t.led->wpAny (model prog w) A (do
     storeSet D es1 d
     if !false && d.tooFull then setRelay D (SetTable.grown (f.size+1))
     return true) Q E { s with toks:=tk }:=by
    intro d y J V Z;have tf:d.tooFull=decide (5 * es1.size ≥ 3 * t.mask):=by
     unfold SetTable.tooFull SetTable.fill;rw[y,J,V,f2,<-v4,r.length,v4]
     congr 1
     simp only[d9,bBS,Nat.add_zero];rw[Nat.mul_comm,Nat.mul_comm t.mask]
    have rm:=g.room;have ft:d.fits es1.size=true:=by unfold SetTable.fits SetTable.fill;rw[y,J,V,f2,<-v4,r.length,v4];simp;lia
    have ps:=putSet_of es1 d hd;have I:=bAO (Obj.putSet es1 d) B (by rw[ps];rfl);rw[ps] at I;have G:kl'.Perm (if k∈H then H else H++[k]):=by rw[if_neg z];exact pm
    refine b7 (bF2 B hd ?_ (by rw[sz,sizeLine_eq];lia));rw[tf];by_cases c:5 * es1.size ≥ 3 * t.mask
    ·rw[m9 c,if_pos (by rfl)];obtain⟨m,m1,m2,m3⟩:∃m,Msk m/\SetTable.sizeAbove (SetTable.grown (f.size+1))=m+1/\5 * es1.size<3 * m:=by
      rcases g.msk with e|e|e <;> rw[e] at c rm
      ·have:f.size=4:=by lia
       exact⟨31,.inr (.inl rfl),by rw[this];decide +kernel,by lia⟩
      ·have:f.size=18:=by lia
       exact⟨127,.inr (.inr rfl),by rw[this];decide +kernel,by lia⟩
      ·lia
     refine b7 (aVv (s:={ s with heap:=s.heap.update D (Obj.putSet es1 d),toks:=tk }) I rfl ft m1 m2 m3 (λq=>by rw[Z];exact g.led q) λu M q1 q2=>d7 ?_);obtain⟨P,Y,U⟩:=lD q1 n;have hg2:=bAO (Obj.putSet u M) I rfl;exact h _ tk P true ((bAV s.heap D (Obj.putSet es1 d)).trans (bAV _ D (Obj.putSet u M))) ⟨_,u,_,M,hg2,C,rfl,q2,Y⟩ (U.trans G)
    ·rw[v9 c,if_neg (by decide)];exact d7 (h _ tk kl' true (bAV s.heap D (Obj.putSet es1 d)) ⟨_,es1,_,d,I,C,rfl,⟨λq=>by rw[Z];exact g.led q,V,by rw[y];exact g.msk,by rw[J,f2];exact uJ g.ris nj,by rw[y,J,f2];exact r,by rw[y];lia⟩,n⟩ G)
   split
   ·refine b7 (aY5 (s:={ s with toks:=tk }) (aFj F W) λb=>?_);cases b with
    |true=>exact l K f1 rfl f3 f4
    |false=>exact l { K with plain:=false } f1 rfl f3 f4
   ·exact b7 (d7 (l K f1 rfl f3 f4))
  refine b7 (bBH B hd g.fits ?_);exact N (t.put j) rfl rfl (by show (if SetTable.has t.dummies j=true then _ else t.dummies)=#[];rw[g.dm,show SetTable.has #[] j=false by unfold SetTable.has;simp];rfl) rfl rfl
end
end PySem
namespace L2
open PySem PySem.Spec PyProof.Rows
end L2
namespace PySem
open PySem.Spec
def gF:entryFor table "list.remove.loop"=some Builtin.«list.remove.loop»:=entryFor_of_tree (by kernel_rfl)
section
variable {prog:Program}{w:World}{A:Around}{R:Result->Shared->Prop}{s:Shared}{l:Addr}{items:Array Value}{n:Nat}{dd:Option Addr}{sl:Array (Option Value)}{x:Value}{j:Nat}
theorem aDt (c:s.heap.get? l=some { cls:=Value.type "list",dict:=dd,data:=Data.seq items n,slots:=sl })(h:j<items.size)
  (f:SeqAt.EqAt A.in1 s items[j] x true) (g:∀(m:Nat) (hm:m<items.size),m<j->SeqAt.EqAt A.in1 s items[m] x false) (d:items.size<=sizeLine)
  (q:R (.ok (.ret .none)) { s with heap:=s.heap.update l (Obj.mapSeq λxs=>xs.eraseIdxIfInBounds j) }) :
  ∀k i,i+k=j->codeAny (model prog w) A (.builtin "list.remove.loop" ⟨[.ref l,x,rawInt (i:Nat)],[]⟩) R s:=by
 intro k
 induction k with
 |zero=>
  intro i e;obtain rfl:i=j:=by lia
  refine bBR gF ?_;rw[bBI MeetsSeq.plain_remove_loop _];refine b7 (wpAny_listItems c rfl ?_);have b:items[Int.toNat (i:Nat)]?=some items[i]:=by rw[bAQ];exact j7 h
  simp only[b];refine b7 (f _ _ _ _ ?_);simp only[if_true];refine b7 (PyProof.Rows.listUpdate_at c rfl ?_ d ?_)
  ·rw[bAQ];exact d7 q
  ·unfold Array.eraseIdxIfInBounds
   split
   ·rw[Array.size_eraseIdx];lia
   ·lia
 |succ k ih=>
  intro i e;refine bBR gF ?_;rw[bBI MeetsSeq.plain_remove_loop _];have a:i<items.size:=by lia
  refine b7 (wpAny_listItems c rfl ?_);have b:items[Int.toNat (i:Nat)]?=some items[i]:=by rw[bAQ];exact j7 a
  simp only[b];refine b7 (g i a (by lia) _ _ _ _ ?_);refine d7 ⟨bCT MeetsSeq.plain_remove_loop _,?_⟩;exact ih (i+1) (by lia)
def aDs (l:Addr)(items:Array Value)(n:Nat)(dd:Option Addr)(sl:Array (Option Value))(x:Value)(j:Nat)(f:j<items.size)(d:items.size<=sizeLine) :
  Meets (Builtin.«list.remove» ⟨[.ref l,x],[]⟩) λA R s=>s.heap.get? l=some { cls:=Value.type "list",dict:=dd,data:=Data.seq items n,slots:=sl } /\
   SeqAt.EqAt A.in1 s items[j] x true/\(∀m hm,m<j->SeqAt.EqAt A.in1 s items[m] x false) /\
   R (.ok (.ret .none)) { s with heap:=s.heap.update l (Obj.mapSeq λxs=>xs.eraseIdxIfInBounds j) }:=by
 intro a w A R s ⟨e,b,c,q⟩;refine d7 ⟨bCT MeetsSeq.plain_remove_loop _,?_⟩;exact aDt e f b c d q j 0 (by lia)
end
end PySem
namespace L2
open PySem PySem.Spec PyProof.Rows
theorem aCg:∀{xs:List V} {its:List Value},Vals xs its->∀j,Vals (xs.eraseIdx j) (its.eraseIdx j)
 |_,_,.nil,j=>by cases j <;> exact .nil
 |_,_,.cons r t,0=>t
 |_,_,.cons r t,j+1=>.cons r (aCg t j)
def pG (r:List V):Prop:=∀x∈r,(∃i,x=.int i)\/∃z,x=.str z
def aOr (b:(∃i,x=.int i)\/∃z,x=.str z)(a:(∃i,y=.int i)\/∃z,y=.str z):eqV x y=decide (x=y):=by
 rcases b with⟨i,rfl⟩|⟨z,rfl⟩ <;> rcases a with⟨j,rfl⟩|⟨w,rfl⟩
 ·by_cases e:i=j
  ·subst e;rw[m9 rfl];exact beq_self_eq_true _
  ·rw[v9 λq=>e (V.int.inj q)];exact beq_eq_false_iff_ne.mpr e
 ·rw[v9 λq=>by cases q];rfl
 ·rw[v9 λq=>by cases q];rfl
 ·by_cases e:z=w
  ·subst e;rw[m9 rfl];exact beq_self_eq_true _
  ·rw[v9 λq=>e (V.str.inj q)];exact beq_eq_false_iff_ne.mpr e
def aXy:∀{r q:List V},pG r->pG q->((List.range (min r.length q.length)).all (λj=>eqV (r.getD j .non) (q.getD j .non)) && r.length == q.length)=decide (r=q):=by
 intro r q b f;by_cases e:r=q
 ·subst e;rw[m9 rfl,beq_self_eq_true,Bool.and_true,bBZ];intro j a;rw[List.mem_range,Nat.min_self] at a;rw[j4,b8 a,bBN,aOr (b _ (bAT a)) (b _ (bAT a)),m9 rfl]
 ·rw[v9 e];by_cases l:r.length=q.length
  ·cases h:(List.range (min r.length q.length)).all (λj=>eqV (r.getD j .non) (q.getD j .non)) with
   |false=>rfl
   |true=>refine absurd (List.ext_getElem l λj c d=>?_) e;have:=List.all_eq_true.mp h j (List.mem_range.mpr (by lia));rw[j4,b8 c,bBN,j4,b8 d,bBN,aOr (b _ (bAT c)) (f _ (bAT d))] at this;exact of_decide_eq_true this
  ·rw[show (r.length == q.length)=false from beq_eq_false_iff_ne.mpr l,bFV]
theorem aKb:∀{r q:List V} {its:List Value},Vals r its->Vals q its->pG r->pG q->r=q
 |_,_,_,.nil,.nil,_,_=>rfl
 |x::r,y::q,_,.cons a t,.cons b u,hr,hq=>by
  have e:x=y:=by rcases hr x j0 with⟨i,rfl⟩|⟨z,rfl⟩ <;> rcases hq y j0 with⟨j,rfl⟩|⟨w,rfl⟩ <;> obtain⟨_,a⟩:=a <;> obtain⟨_,b⟩:=b <;> rw[a] at b <;> cases b <;> rfl
  rw[e,aKb t u (λz c=>hr z (j5 _ c)) λz c=>hq z (j5 _ c)]
section
variable {X:Cx}{bF8:bF6}{σ:L2.St}{H:Hp}{s:Shared}
def aBv (I:Inv X bF8 σ H s)(n:SqT X.K H a r)(v:SqT X.K H a q)(m:pG r)(w:pG q):r=q:=by
 obtain⟨d,j,h,_⟩:=I.tuple n;obtain⟨c,g,f,_⟩:=I.tuple v;have i:d=c:=by obtain⟨o,k,u,p,l⟩:=h;obtain⟨y,b,t,x,e⟩:=f;rw[k] at b;cases b;rw[l] at e;have:=Data.seq.inj e;simpa using congrArg Array.toList this.1
 subst i;exact aKb j g m w
def aFg (I:Inv X bF8 σ H s){A:Around}(hA:A.units+2<cLine){x y:V}{v u:Value}{r q:List V}(S:cM X.K H x r)(U:cM X.K H y q)(h:pG r)(p:pG q)(T:RelV x v)(R:RelV y u):SeqAt.EqAt A s v u (decide (r=q)):=by
 obtain⟨a,rfl,k⟩:=S;obtain⟨b,rfl,n⟩:=U;cases T;cases R;obtain⟨c,t,D,_⟩:=I.tuple k;obtain⟨d,m,J,_⟩:=I.tuple n;by_cases e:a=b
 ·subst e;rw[aBv I k n h p,m9 rfl];exact bEI _
 have P:=t.length;have w:=m.length;refine SeqAt.EqAt.of_refs e ?_;have z:=SeqAt.RcAt.tuples (A:=A) (e:=λj=>eqV (r.getD j .non) (q.getD j .non)) (show s.heap.IsTuple a c.toArray from D) (show s.heap.IsTuple b d.toArray from J) (by lia) λj L C=>by
  rw[d9] at L C;have l:r[j]?=some r[j]:=b8 (by lia);have o:q[j]?=some q[j]:=b8 (by lia);obtain⟨G,f,E⟩:=t.get l;obtain⟨B,g,M⟩:=m.get o;have Q:c.toArray[j]=G:=by rw[bCA];exact (List.getElem?_eq_some_iff.mp f).2
  have F:d.toArray[j]=B:=by rw[bCA];exact (List.getElem?_eq_some_iff.mp g).2
  rw[Q,F,j4,l,j4,o];have O:=h r[j] (bAT _);have N:=p q[j] (bAT _);refine aVr E M ?_ ?_
  ·rcases O with⟨i,e⟩|⟨i,e⟩ <;> rw[show (Option.some r[j]).getD V.non=r[j] from rfl,e] <;> rfl
  ·rcases N with⟨i,e⟩|⟨i,e⟩ <;> rw[show (Option.some q[j]).getD V.non=q[j] from rfl,e] <;> rfl
 rw[d9,d9,<-P,<-w,aXy h p] at z;exact z
def aWy (I:Inv X bF8 σ H s)(P:A.units+2<cLine)(G:Vals us its)(h:Al2 (cM X.K H) us rs)(L:∀r∈rs,pG r)(Q:cM X.K H y q)(J:pG q)(N:RelV y u):∃e:Value->Bool,(∀v∈its,SeqAt.EqAt A s v u (e v))/\its.any e=decide (q∈rs):=by
 have n:∀v∈its,∃i x r,us[i]?=some x/\rs[i]?=some r/\cM X.K H x r/\RelV x v:=λv g=>by
  obtain⟨i,o⟩:=List.mem_iff_getElem?.mp g;have j:i<us.length:=by rw[G.length];exact (List.getElem?_eq_some_iff.mp o).1
  obtain⟨r,w,E⟩:=h.at (b8 j);obtain⟨O,l,d⟩:=G.get (b8 j);rw[o] at l;cases l;exact⟨i,_,r,b8 j,w,E,d⟩
 refine⟨λv=>@decide (∃x,cM X.K H x q/\RelV x v) (Classical.propDecidable _),λv g=>?_,?_⟩
 ·obtain⟨i,x,r,_,t,p,m⟩:=n v g;have F:=L r (t8 t);have e:@decide (∃x,cM X.K H x q/\RelV x v) (Classical.propDecidable _)=decide (r=q):=by
   by_cases z:r=q
   ·subst z;rw[m9 rfl];exact @decide_eq_true _ (Classical.propDecidable _) ⟨x,p,m⟩
   ·rw[v9 z];refine @decide_eq_false _ (Classical.propDecidable _) λ⟨M,f,c⟩=>z ?_;obtain⟨a,rfl,B⟩:=p;obtain⟨b,rfl,C⟩:=f;have D:=m;have k:=c;rw[D] at k;cases k;exact aBv I B C F J
  show SeqAt.EqAt A s v u (@decide (∃x,cM X.K H x q/\RelV x v) (Classical.propDecidable _));rw[e];exact aFg I P p Q F J m N
 ·by_cases z:q∈rs
  ·rw[m9 z];obtain⟨i,o⟩:=List.mem_iff_getElem?.mp z;have j:i<us.length:=by rw[h.len];exact (List.getElem?_eq_some_iff.mp o).1
   obtain⟨r,w,E⟩:=h.at (b8 j);rw[o] at w;cases w;obtain⟨v,g,d⟩:=G.get (b8 j);exact List.any_eq_true.mpr ⟨v,t8 g,@decide_eq_true _ (Classical.propDecidable _) ⟨_,E,d⟩⟩
  ·rw[v9 z];refine List.any_eq_false.mpr λv g hd=>z ?_;obtain⟨M,f,c⟩:=@of_decide_eq_true _ (Classical.propDecidable _) hd;obtain⟨i,x,r,_,t,p,m⟩:=n v g;obtain⟨a,rfl,B⟩:=p;obtain⟨b,rfl,C⟩:=f;have D:=m;have k:=c;rw[D] at k;cases k;rw[<-aBv I B C (L r (t8 t)) J];exact t8 t
end
def aUi (K:bF4):R2:=λx y H Q=>∃l us rs q,y=.ref l/\SqL K H l us/\Al2 (cM K H) us rs/\(∀r∈rs,pG r)/\cM K H x q/\pG q/\Q (.bl (!decide (q∈rs))) H
def aN2 (hu:X.A.units+64<cLine):OpR X (compareOp .NotIn) (aUi X.K):=by
 intro c s σ H x y v u Q I g n h;obtain⟨l,B,i,q,rfl,m,p,d,o,w,k⟩:=h;cases n;obtain⟨a,r,f,_⟩:=I.list m;obtain⟨e,j,b⟩:=aWy I (A:=X.A.in1) (show X.A.units+1+2<cLine by lia) r p d o w g;refine SeqAt.notIn_listAt e f.isList (λy t=>j y (by simpa using t)) ?_;have z:a.toArray.any e=decide (q∈i):=by rw[<-b];simp
 rw[z];exact⟨.bl _,H,I,rfl,k⟩
def bC2 (K:bF4):V->List V->Hp->VK->Prop:=λx vs H Q=>∃l us y rs q j,x=.ref l/\vs=[y]/\H l=some (.lst us)/\Al2 (cM K H) us rs/\(∀r∈rs,pG r)/\cM K H y q/\pG q/\rs[j]?=some q/\(∀m r,m<j->rs[m]?=some r->r≠q)/\Q .non (upd H l (.lst (us.eraseIdx j)))
def aYn {X:Cx}(hu:X.A.units+64<cLine):MtR X "list.remove" (bC2 X.K):=by
 intro J s σ H x vs v T Q I O U h;obtain⟨l,G,y,D,q,j,rfl,rfl,C,E,N,W,Y,B,M,k⟩:=h;cases O;obtain⟨u,rfl,P⟩:=U.one;obtain⟨z,a,n,r,hl,e⟩:=I.aQq C;have lx:=E.len;have i:j<a.toArray.size:=by rw[d9];have:=(List.getElem?_eq_some_iff.mp B).1;lia
 have d:∀(m:Nat) (o:m<a.toArray.size) (b:List V),D[m]?=some b->SeqAt.EqAt X.A.in1 s a.toArray[m] u (decide (b=q)):=λm o b c=>by
  have f:m<G.length:=by rw[d9] at o;lia
  obtain⟨Z,g,p⟩:=E.at (b8 f);rw[c] at g;cases g;obtain⟨S,t,R⟩:=r.get (b8 f);have L:a.toArray[m]=S:=by rw[bCA];exact (List.getElem?_eq_some_iff.mp t).2
  rw[L];exact aFg I (show X.A.units+1+2<cLine by lia) p W (N b (t8 c)) Y R P
 refine call_meets F.slot_list_remove ⟨_,e,rfl⟩ F.entry_list_remove (F.args_list_remove_2 _ _) (aDs l a.toArray n none #[] u j i (by rw[d9];lia)) ⟨e,?_,λm o w=>?_,?_⟩
 ·have:=d j i q B;rw[m9 rfl] at this;exact this
 ·obtain⟨b,c⟩:∃b,D[m]?=some b:=⟨_,b8 (by have:=(List.getElem?_eq_some_iff.mp B).1;lia)⟩;have:=d m o b c;rw[v9 (M m b w c)] at this;exact this
 ·refine⟨.non,_,I.lset (its':=a.eraseIdx j) C e ?_ ?_ ?_,rfl,k⟩
  ·show a.toArray.eraseIdxIfInBounds j=(a.eraseIdx j).toArray;rw[bFC]
  ·exact aCg r j
  ·have:=bER G j;lia
def aRu:MtR X "list.pop" aUy:=aTs
end L2
namespace PySem
section
variable {prog:Program}{w:World}{κ:Type}[DecidableEq κ]{knd:KeyKind prog w κ}{T:List κ->Addr->Prop}
def bCr (hu:A.units+10<cLine)(h0:Heap)(D:Addr):Kset prog w (List κ) A h0 D (λh kl=>SetT knd T h0 h D kl) (λk v=>∃a,v=.ref a/\IsTupleKey knd h0 k a/\T k a) 75:=
 ⟨λ⟨o,p,s,t,B,r⟩ e=>⟨o,p,s,t,e o B,r⟩,λE z ⟨a,e,j,i⟩ m C q=>by subst e;exact aSr (by lia) z j i m (by lia) λn g d b y x f=>q n g d b y x (by split <;> rename_i c <;> simp only[c,if_true,if_false] at f <;> exact f),
 λu=>⟨_,#[],0,_,u,⟨rfl,rfl,rfl⟩,rfl,⟨λe=>by show (!byT w)=true;rw[e];rfl,rfl,.inl rfl,λa b l=>absurd l (by show ¬ (a<0);lia),.nil,by show 5 * 0<3 * 7;decide⟩,.nil⟩⟩
end
end PySem
namespace L2
open PySem PySem.Spec PyProof.Rows PySem.Calls
def aUc (w:World)(D:Addr)(as:List Addr):HO:=.ext λh=>∃o es ep t,h.get? D=some o/\o.ExactSet/\o.data=.set es ep t/\t.fits es.size=true/\TabOk (byT w) t/\es.toList.map (·.2)=as.map Value.ref
section
variable {X:Cx}{bF8:bF6}{σ:L2.St}{H:Hp}{s:Shared}
theorem aTl (h:pG r):∃k:List Key,r=k.map kV:=by
 induction r with
 |nil=>exact⟨[],rfl⟩
 |cons x r ih=>
  obtain⟨k,rfl⟩:=ih λy a=>h y (j5 _ a);rcases h x j0 with⟨i,rfl⟩|⟨z,rfl⟩
  ·exact⟨.inl i::k,rfl⟩
  ·exact⟨.inr z::k,rfl⟩
theorem bAt {a b:List Key}(h:a.map kV=b.map kV):a=b:=by
 induction a generalizing b with
 |nil=>cases b with
  |nil=>rfl
  |cons=>cases h
 |cons x a ih=>cases b with
  |nil=>cases h
  |cons y b=>injection h with h1 h2;rw[bAr h1,ih h2]
theorem aW4 (I:Inv X bF8 σ H s)(h:SqT X.K H a (k.map kV)):IsTupleKey (bI X.prog X.w) s.heap k a:=by
 obtain⟨b,d,⟨o,e,c,n,hd⟩,z⟩:=I.tuple h;clear z;refine⟨o,_,n,e,c,hd,?_⟩;clear h e c hd
 induction k generalizing b with
 |nil=>cases d;exact .nil
 |cons x k ih=>
  cases d with
  |cons p q=>exact .cons (aOq p).1 (ih _ q)
def bDt (w:World)(K:bF4):List V->Hp->VK->Prop:=λxs H Q=>∃p us rs,xs=[.ref p]/\SqL K H p us/\Al2 (cM K H) us rs/\(∀r∈rs,pG r)/\us.length<=75/\∀D H' as qs,H D=none->Same H H'->H' D=some (aUc w D as)->Al2 (cM K H) (as.map .ref) qs->Ded qs rs->Q (.ref D) H'
def aFe (hc:X.calm=true)(hU:X.A.units+64<cLine):cH X (.type "set") (bDt X.w X.K):=by
 intro a1 s σ H xs a0 Q I r h;obtain⟨p,us,N,rfl,hq,L,W,hl,q⟩:=h;obtain⟨u,rfl,rx⟩:=r.one;cases rx;obtain⟨M,rv,pl,hz⟩:=I.list hq;have m:=rv.length;have C:=L.len;obtain⟨ks,rfl⟩:∃ks:List (List Key),N=ks.map (·.map kV):=by
  clear L C q
  induction N with
  |nil=>exact⟨[],rfl⟩
  |cons r N ih=>obtain⟨ks,rfl⟩:=ih λy hy=>W y (j5 _ hy);obtain⟨k,rfl⟩:=aTl (W r j0);exact⟨k::ks,rfl⟩
 rw[j6] at C;refine yR (ks:=ks) (I.ok.hd hc) (bCr (knd:=bI X.prog X.w) (T:=λk a=>cM X.K H (.ref a) (k.map kV)) (by lia) s.heap s.heap.objs.size) pl.isList (by rw[d9];lia) (λi v hv=>?_) (by rw[d9,<-m];exact hl) λh' tk kl x j kp=>?_
 ·have n:M[i]?=some v:=by simpa using hv
  have V:i<ks.length:=by have:=(List.getElem?_eq_some_iff.mp n).1;lia
  have B:i<us.length:=by lia
  obtain⟨u,Z,P⟩:=rv.get (b8 B);rw[n] at Z;cases Z;have c:=L.get (b8 B) (show (ks.map (·.map kV))[i]?=some (ks[i].map kV) by rw[v7,b8 V];rfl);obtain⟨a,O,ha⟩:=id c;rw[O] at P c;cases P;exact⟨ks[i],b8 V,a,rfl,aW4 I ha,c⟩
 ·obtain⟨o,D,J,t,R,E,hd,F,Y⟩:=x;obtain⟨d,O,G⟩:∃d:List Addr,D.toList.map (·.2)=d.map Value.ref/\Al2 (cM X.K H) (d.map .ref) (kl.map (·.map kV)):=by
   clear j q F hd;generalize D.toList=l at Y
   induction Y with
   |nil=>exact⟨[],rfl,.nil⟩
   |cons r _ ih=>obtain⟨d,f,g⟩:=ih;obtain⟨a,e1,⟨_,ht⟩,_⟩:=r;exact⟨a::d,by rw[bAL,bAL,e1,f],.cons ht g⟩
  have S:H s.heap.objs.size=none:=I.hok.fresh (d8 _);refine⟨.ref s.heap.objs.size,_,I.laid (t':=tk) (o:=aUc X.w s.heap.objs.size d) (λb o U=>kp b o (j9 U) U) (d8 _) ⟨⟨o,D,J,t,R,E,hd,F.fits,F.tab,O⟩,⟨o,R⟩,λf g ⟨o,D,J,t,y,z⟩ k=>⟨o,D,J,t,k o y,z⟩⟩,rfl,q _ _ d _ S (aW S _) aF G ⟨?_,λk=>?_,?_⟩⟩
  ·exact List.pairwise_map.mpr (j.1.imp λh e=>h (bAt e))
  ·rw[List.mem_map,List.mem_map];exact⟨λ⟨x,f,g⟩=>⟨x,(j.2.1 x).mp f,g⟩,λ⟨x,f,g⟩=>⟨x,(j.2.1 x).mpr f,g⟩⟩
  ·rw[j6,j6];exact j.2.2
def aR7 (w:World)(K:bF4):List V->Hp->VK->Prop:=λxs H Q=>∃D as rs ks,xs=[.ref D]/\H D=some (aUc w D as)/\Al2 (cM K H) (as.map .ref) rs/\as.length<64/\ks≠[]/\(∀r∈rs,KdR ks r) /\
 ∀B H' us',H B=none->Same H H'->H' B=some (.lst us')->Al2 (cM K H) us' (srt rs)->Q (.ref B) H'
theorem aSz {α β:Type}{R:α->β->Prop}{as' as:List α}(p:as'.Perm as):∀{bs:List β},Al2 R as bs->∃bs',Al2 R as' bs'/\bs'.Perm bs:=by
 induction p with
 |nil=>intro bs h;exact⟨bs,h,.refl _⟩
 |cons x _ ih=>
  intro bs h;cases h with
  |cons r t=>obtain⟨bs',a,b⟩:=ih t;exact⟨_,.cons r a,b.cons _⟩
 |swap x y l=>
  intro bs h;cases h with
  |cons r t=>
   cases t with
   |cons r2 t2=>exact⟨_,.cons r2 (.cons r t2),.swap ..⟩
 |trans _ _ ih1 ih2=>intro bs h;obtain⟨f,a,b⟩:=ih2 h;obtain⟨d,c,e⟩:=ih1 a;exact⟨d,c,e.trans b⟩
theorem sV (hc:X.calm=true):cH X (.builtin "sorted") (aR7 X.w X.K):=by
 intro N s σ H xs a0 Q I r h;obtain⟨D,P,a2,ks,rfl,hD,R,a1,G,O,q⟩:=h;obtain⟨u,rfl,rx⟩:=r.one;cases rx;obtain⟨o,es,ep,t,ho,J,hd,hf,S,Z⟩:=(I.hok D _ hD).1;have hl:es.size=P.length:=by have:=congrArg List.length Z;simpa using this
 refine call_function_entry kind_sorted plain_sorted entry_sorted (args_sorted1 _) ?_;unfold Builtin.«sorted»;refine b7 (m:=checkCount "sorted" 1 1 _) (d7 (b7 (wM (A:=X.A.in1) (I.ok.hd hc) ⟨o,ho,J,hd,hf⟩ S (by lia) λx F M d hk hp=>?_)));obtain⟨c,e1,Y⟩:∃c:List Addr,d.map (·.2)=c.map Value.ref/\c.Perm P:=by
  have E:(d.map (·.2)).Perm (P.map Value.ref):=Z ▸ hp.map _;have k:∀v∈d.map (·.2),∃a,v=Value.ref a:=λv U=>by obtain⟨a,_,e⟩:=List.mem_map.mp (E.mem_iff.mp U);exact⟨a,e.symm⟩
  generalize d.map (·.2)=l at E k;have un:∃c:List Addr,l=c.map Value.ref:=by
   clear E
   induction l with
   |nil=>exact⟨[],rfl⟩
   |cons v l ih=>obtain⟨c,rfl⟩:=ih λv U=>k v (j5 _ U);obtain⟨a,rfl⟩:=k v j0;exact⟨a::c,rfl⟩
  obtain⟨c,rfl⟩:=un;refine⟨c,rfl,?_⟩;have:=E.filterMap λv=>match v with|Value.ref a=>some a|_=>none
  simpa [bEK,Function.comp_def] using this
 rw[e1];obtain⟨g,y,T⟩:=aSz (Y.map V.ref) R;have p:∀r∈g,KdR ks r:=λr y=>O r (T.mem_iff.mp y);have ul:=Y.length_eq;have rv:Vals (c.map .ref) (c.map Value.ref):=by
  clear y g T p Y ul e1
  induction c with
  |nil=>exact .nil
  |cons a c ih=>exact .cons rfl ih
 have rl:g.length=c.length:=by have:=y.len;rw[j6] at this;exact this.symm
 have L:Inv X N σ H { s with heap:=x,toks:=F,drawn:=M }:=(I.kept (t':=F) hk).drew M;have e3:=qU p T;refine b7 (wpAny_newList ?_ (by rw[sizeLine_eq,j6];lia));have n:(x.push (seqObj "list" (c.map Value.ref).toArray 0)).get? x.objs.size=some (seqObj "list" (c.map Value.ref).toArray 0):=j8 _ rfl;refine b7 (bAR (bAD slot_list_sort ⟨_,n,rfl⟩ entry_list_sort (PySem.W.pD (f:=λi j=>rlt (g.getD i []) (g.getD j [])) (s:={ s with heap:=x.push (seqObj "list" (c.map Value.ref).toArray 0),toks:=F,drawn:=M }) n (by rw[j6];lia) (λh2 h' kp=>aLj L rv y G p _ h2 h' λb o e=>kp b o (v8 (j9 e)) (c7 _ e)) ⟨_,rfl,d7 ⟨_,rfl,?_⟩⟩) (args_list_sort _)));obtain⟨e,he⟩:=sortedHeap_at (out:=List.toArray ((PySem.W.dM (c.map Value.ref).length λi j=>rlt (g.getD i []) (g.getD j [])).map λi=>(c.map Value.ref).getD i Value.none)) n;have C:H x.objs.size=none:=L.hok.fresh (d8 _);have B:∀i∈PySem.W.dM g.length (λi j=>rlt (g.getD i []) (g.getD j [])),i<(c.map V.ref).length:=λi hi=>by have:=PySem.W.mJ hi;rw[j6];lia
 refine⟨.ref x.objs.size,_,L.laid (t':=F) (o:=.lst ((PySem.W.dM g.length λi j=>rlt (g.getD i []) (g.getD j [])).map λi=>(c.map V.ref).getD i .non)) (λb o q=>?_) (d8 _) ?_,rfl,q _ _ _ C (aW C _) aF (e3 ▸ aFs y _ B)⟩
 ·have z:=j9 q;show (sortedHeap _ _ _ _).get? b=some o;rw[sortedHeap_old (v8 z) (by rw[size_push'];exact bBU z)];exact c7 _ q
 ·refine⟨small (by rw[j6,PySem.W.rM];lia),_,e,?_,he⟩;rw[j6,<-rl];exact aEv rv _ B
end
end L2
namespace My
open PySem PySem.Spec PyProof.Rows L2
section
variable {P:Program}{w:World}{K:bF4}{mg:bF7}{base:Heap}
def fM.tk (e:TK K H H')(h:fM K H v c):fM K H' v c:=by obtain⟨p,rfl,a⟩:=h;exact⟨p,rfl,e _ _ a⟩
theorem nA.tk (e:TK K H H')(h:nA K H v pl):nA K H' v pl:=by
 cases pl with
 |copies=>obtain⟨a,rfl,b⟩:=h;exact⟨a,rfl,e _ _ b⟩
 |keys n=>obtain⟨a,rfl,b⟩:=h;exact⟨a,rfl,e _ _ b⟩
 |spans n h0 cs=>obtain⟨a,d,rfl,b,c⟩:=h;exact⟨a,d,rfl,e _ _ b,aOj e (λ_ _ z=>z.tk e) c⟩
structure KP (K:bF4)(S:Addr->Prop)(H H':Hp):Prop where
 st:∀b o,S b->H b=some o->H' b=some o
 tk:TK K H H'
section
variable {S:Addr->Prop}{H H':Hp}
def KP.same (s:Same H H'):KP K S H H':=⟨λb o _ h=>s b o h,.of s⟩
def KP.trans (k:KP K S H H')(l:KP K S H' H2):KP K S H H2:=⟨λb o h e=>l.st b o h (k.st b o h e),λp a e=>l.tk p a (k.tk p a e)⟩
theorem KP.iW (d:H D=some (.lst ys))(n:¬ S D):KP K S H (L2.upd H D (.lst zs)):=⟨λb o h e=>by have a:b≠D:=λz=>n (z ▸ h);rw[aK a];exact e,λp c e=>SqT.iW d e⟩
def KP.bC9 (d:eU H D)(n:¬ S D):KP K S H (L2.upd H D u):=⟨λb o h e=>by have a:b≠D:=λz=>n (z ▸ h);rw[aK a];exact e,λp c e=>But.aR But.upd d e⟩
def KP.fx (f:Fx a H H')(h:iD H a)(n:¬ S a):KP K S H H':=⟨λb o c e=>f.same b o (λz=>n (z ▸ c)) e,f.tk h⟩
def KP.mono (k:KP K S H H')(h:∀b,S' b->S b):KP K S' H H':=⟨λb o s e=>k.st b o (h b s) e,k.tk⟩
def bW.kp (k:KP K S H H')(s:S L)(h:bW K H L rs):bW K H' L rs:=by obtain⟨d,c,a⟩:=h;exact⟨d,k.st _ _ s c,a.imp λ_ _ ⟨p,e,b⟩=>⟨p,e,k.tk _ _ b⟩⟩
end
theorem lC.kp (k:KP K S H H')(s:S L)(h:lC K H v vh vp L t):lC K H' v vh vp L t:=by obtain⟨a,f,d,c,b,e⟩:=h;exact⟨a,f,k.tk _ _ d,c.tk k.tk,b.tk k.tk,e.kp k s⟩
theorem jZ.kp (k:KP K S H H')(b:S d)(c:∀e∈es,S e.L)(h:jZ K H d es):jZ K H' d es:=⟨k.st _ _ b h.at_,h.nd,h.few,h.nm,λe a=>(h.tb e a).kp k (c e a)⟩
def kJ (h:n<1000):n<sizeLine:=z9 h (by decide)
def vU {hd:Hdr}{r:List V}(h:gC hd r):pG r:=λx a=>aSo (fK h) x a
def aPb {α:Type}{xs:List α}{x:α}(h:xs[xs.length - 1]?=some x):atI xs (-1)=some x:=by have a:=(List.getElem?_eq_some_iff.mp h).1;unfold atI ixN;rw[if_neg (by decide),if_pos (by lia)];rw[show ((-1:Int)+(xs.length:Int)).toNat=xs.length - 1 by lia];exact h
theorem xZ {α β:Type}{R:α->β->Prop}{as:List α}{bs:List β}(h:cG R as bs):∀n,cG R (as.take n) (bs.take n):=by
 induction h with
 |nil=>intro n;rw[bEE,bEE];exact .nil
 |cons r _ ih=>
  intro n;cases n with
  |zero=>exact .nil
  |succ n=>exact .cons r (ih n)
theorem bC.kp (k:KP K S H H')(c:S x)(a:S d)(b:∀e∈es,S e.L)(h:bC K H C x m d dm es):bC K H' C x m d dm es:=
 ⟨let ⟨dx,h1⟩:=h.at_;⟨dx,k.st _ _ c h1⟩,h.ens.kp k a b,h.ok,h.ne⟩
def bC.mv (h:bC K H C x m d dm es)(g:H dm=some (.dK kvs)):KP K (λb=>b≠dm) H (L2.upd H dm (.dK kvs'))/\bC K (L2.upd H dm (.dK kvs')) C x m d dm es:=by
 have k:KP K (λb=>b≠dm) H (L2.upd H dm (.dK kvs')):=.bC9 (eU.dK g) λz=>z rfl;refine⟨k,h.kp k (λz=>?_) h.ne λe f z=>?_⟩
 ·obtain⟨j,c⟩:=h.at_;rw[z,g] at c;cases c
 ·obtain⟨_,_,_,_,_,i,a,_⟩:=h.ens.tb e f;rw[z,g] at a;cases a
def kI (num:Nat)(h0:Int)(cs:List (V × Int)):Int:=(((V.non,h0)::cs).map (·.2)).getD num 0
inductive aP2 (K:bF4)(C:Addr)(vs:List V)(H:Hp)(Q:VK)(E_:XK):Prop
 |mk (x d dm:Addr) (m:Int) (es:List En) (e:En) (n:Str) (h0:Int) (cs:List (V × Int)) (num:Nat) (house:Int) (_:vs=[.ref x,.str e.n,.int num,.int house]) (_:bC K H C x m d dm es) (_:e∈es) (_:e.t.pl=.spans n h0 cs) (_:H dm=some (.dK [])) (_:num<=cs.length) (_:0<=house) (_:house<m) (_:house≠kI num h0 cs) (_:∀H',KP K (λb=>b≠dm) H H'->bC K H' C x m d dm es->MvD K H' dm e.n (some ⟨num,house,none⟩)->Q .non H')
def aTu (T:Txt w K mg){C:Addr}(c:Cls K C)(D:dZ K C "lend" "Store.lend" mZ ["self","name","number","house"])(n2:bK K C "house_count")(n3:bK K C "moves")(cR:Ok P w K mg base 2 "is_number_below" ["thing","many"] wB)(i:OkM P w K mg base C 4 "cut_table" n6 (aAz K C))(g:OkM P w K mg base C 1 "need_still" n6 (aLu K C)):OkM P w K mg base C 5 "lend" ["self","name","number","house"] (aP2 K C):=by
 refine OkM.ofV c D tH (by trivial) (λf a0 A R s H vs Q E hr h=>?_)
 obtain⟨x,d,O,m,Z,e,n,X,W,num,l,rfl,B,S,r,M,hn,b0,b1,L,q⟩:=h;have hu:=pA hr;have nd:=tH.nd;refine⟨_,(aB (aZ 4 (aO aP (aO aP (iB i (vv 0) (va1 (vv 1))) aA) aA)) (aB (bM (cD (bU (aV cR (aH (vv 2) (va1 (aL aY (by rfl) T.eZ cW (va1 (vv 4)))))))) (aD dX) aU) (aB (bM (VW.pt (fJ (cD (bU (aV cR (aH (vv 3) (va1 (cT (K:=K) (vv 0))))))) (eG (cZ dN (vv 3) (aO aP (aO aP (vv 4) (vv 2)) aA))))) (aD dX) aU) (aB (dJ (iB g (vv 0) (va1 (vv 1)))) (aD (vM hu (cT (K:=K) (vv 0)) (vv 1) (cN (aH (vv 2) (aH (vv 3) (va1 fU)))))))))),?_⟩;obtain⟨F,G⟩:=B.at_;refine⟨_,rfl,x,F,_,rfl,G,rfl,_,rfl,x,d,O,m,Z,e,n,X,W,rfl,B,S,r,λH1 o=>?_⟩;obtain⟨a,ev,ha,h1,U,h3⟩:=(B.ens.tb e S).same o;rw[r] at U;obtain⟨b,vc,eb,hb,⟨Y,p,rfl,v,u⟩⟩:=U;have lu:=u.len;rw[m8] at lu;refine⟨a,_,1,_,ev,rfl,ha,at1 _ _ _,b,_,2,_,eb,rfl,hb,at2 _ _ _ _,?_⟩;refine⟨_,rfl,_,rfl,Y,p,rfl,.inr v,(num:Int),(p.length:Int),rfl,_,rfl,?_⟩;rw[m9 (show (0:Int)<=num by lia),m9 (show (num:Int)<p.length by lia)];refine bY ?_;have t:num<p.length:=by lia
 obtain⟨c0,N,pc,I,J⟩:=cA u (b8 t);have ch:kI num X W=c0.2:=by unfold kI;rw[j4,v7,N];rfl
 refine⟨_,rfl,_,rfl,x,C,F,_,_,rfl,o _ _ G,c,n2,rfl,l,m,rfl,_,rfl,?_⟩;rw[m9 b0,m9 b1];refine bY ?_;refine⟨_,rfl,_,rfl,_,rfl,Y,p,_,p[num],rfl,rfl,v,bH (b8 t),pc,_,1,_,I,rfl,J,at1 _ _ _,rfl,_,rfl,dI (v9 λz=>L (ch ▸ V.int.inj z)) ?_⟩;refine⟨_,rfl,x,F,_,rfl,o _ _ G,rfl,_,rfl,x,d,O,m,Z,e.n,rfl,B.same o,o _ _ M,?_⟩;refine⟨_,rfl,_,rfl,by show 3<=sizeLine;decide,λy H2 _ s2 g2=>?_⟩;have j:=o.trans s2;obtain⟨k1,k2⟩:=(B.same j).mv (kvs':=[(Sum.inr e.n,.ref y)]) (j _ _ M);refine⟨_,rfl,x,C,F,_,_,rfl,j _ _ G,c,n3,rfl,_,rfl,O,_,rfl,aHb.k (k:=Sum.inr e.n) (j _ _ M) (kJ (by decide)),?_⟩;rw[show putK [] (Sum.inr e.n:Key) (V.ref y)=[(Sum.inr e.n,.ref y)] from rfl];exact q _ ((KP.same j).trans k1) k2 ⟨.ref y,⟨y,.non,rfl,k1.tk _ _ (SqT.of g2),rfl⟩,aF⟩
theorem aIx {α:Type}{p q:α->Bool}:∀l:List α,(∀x∈l,p x=true->q x=false)->(l.filter p).length+(l.filter q).length<=l.length
 |[],_=>d8 _
 |a::l,h=>by
  have e:=aIx l λx d=>h x (j5 _ d);have c:=h a j0;rw[bDG,bDG,m8];cases b:p a with
  |true=>rw[c b];simp;lia
  |false=>cases q a <;> simp <;> lia
theorem aE7 {hd:Hdr}{m house h0:Int}{n:Str}{e:List (V × Int)}{h:Mv}(g:List V->Bool)(b:List (List V))(i:h.house=house)(j:h.house≠kI h.num h0 e):(b.filter λr=>bZ hd m r house (.spans n h0 e)).length+(b.filter λr=>g r && fX hd n e h.num r).length<=b.length:=aIx b λr _ d=>by
 cases f:fX hd n e h.num r with
 |false=>exact bFV _
 |true=>have c:iH (r.getD (plc hd n) .non) e 1 0=h.num:=of_decide_eq_true f;have a:=of_decide_eq_true (show decide _=true from d);rw[c] at a;exact absurd (i.trans a.symm) j
def nP (o:Option (List V))(r:List V):Bool:=!xW o r
def oN (hd:Hdr)(m house:Int)(pl:Plc)(o:Option Mv)(n:Str)(cs:List (V × Int))(rows:List (List V)):List (List V):=
 match o with
 |none=>rows.filter λr=>bZ hd m r house pl
 |some q=>if q.house=house then srt ((rows.filter λr=>bZ hd m r house pl)++rows.filter λr=>nP q.mark r && fX hd n cs q.num r) else rows.filter λr=>bZ hd m r house pl
inductive aB6 (K:bF4)(C:Addr)(vs:List V)(H:Hp)(Q:VK)(E_:XK):Prop
 |mk (x d dm:Addr) (m house:Int) (es:List En) (e:En) (o:Option Mv) (n:Str) (h0:Int) (cs:List (V × Int)) (_:vs=[.ref x,.str e.n,.int house]) (_:bC K H C x m d dm es) (_:e∈es) (_:MvD K H dm e.n o) (_:e.t.pl=.spans n h0 cs) (_:(∀mq,o=some mq->mq.house≠kI mq.num h0 cs)) (_:(∀mq q,o=some mq->mq.mark=some q->gC e.t.hd q)) (_:0<=house) (_:house<m) (_:∀L H',H L=none->Same H H'->bW K H' L (oN e.t.hd m house e.t.pl o n cs e.t.rows)->Q (.ref L) H')
theorem aIr (T:Txt w K mg)(c:Cls K C)(D:dZ K C "stands" "Store.stands" gO ["self","name","house"])(n1:bK K C "placed")(n2:bK K C "house_count")(cB:Ok P w K mg base 3 "table_in" o5 (nJ K))(yS:Ok P w K mg base 4 "rows_at" bQH (xJ K))(g:OkM P w K mg base C 4 "moving" n6 (yJ K C))(pN:Ok P w K mg base 3 "span_rows" ["table","number"] (aBt K))(uI:Ok P w K mg base 1 "is_above" ["row","mark"] (aCv K)):OkM P w K mg base C 5 "stands" bQC (aB6 K C):=by
 refine OkM.ofV c D oW (by trivial) (λf aa A a7 s H vs Q E hr h=>?_)
 obtain⟨x,d,dm,m,b,es,e,o,n,h0,U,rfl,F,O,a1,J,a3,a0,b0,b1,q⟩:=h;have nd:=oW.nd;refine⟨_,(aB (aZ 3 (aV cB (aH (cT (K:=K) (vv 0)) (va1 (vv 1))))) (aB (aZ 4 (aV yS (aH (vv 3) (aH (vv 2) (va1 (cT (K:=K) (vv 0))))))) (aB (aZ 5 (iB g (vv 0) (va1 (vv 1)))) (aB (bM (VW.pt (fJ (cZ aF0 (vv 5) fU) (eG (cZ vV (aO aP (vv 5) aA) (vv 2))))) (aD (aJ (vv 4))) aU) (aD (aJ (aL dU (by rfl) T.dY dB (va1 (bF pQ (vv 4) (cI (N:=["row","move"]) (by trivial) (eE (aC gO) rfl (by decide +kernel)) rfl (eQ (aV pN (aH (vv 3) (va1 (aO aP (vv 5) aA))))) (λcl s' H' fp=>⟨(bJ (i:=0) (show (["row","move"]:List Str).Nodup from by decide +kernel) rfl (Or.inl rfl)),(lZ (cD (bU (aV uI (aH (vv 0) (va1 (aO (bL (K:=K)) (vv 1) aA))))))),(vv 0)⟩))))))))))),?_⟩;obtain⟨Z,hx⟩:=F.at_;have B:=F.ok e O;refine⟨_,rfl,x,C,Z,_,_,rfl,hx,c,n1,rfl,_,rfl,d,es,e,rfl,F.ens,O,λH1 I=>?_⟩;refine⟨_,rfl,_,rfl,_,rfl,x,C,Z,_,_,rfl,I _ _ hx,c,n2,rfl,e.v,e.vh,e.vp,e.L,e.t,b,m,rfl,(F.ens.tb e O).same I,B,b0,b1,λL H2 hN s2 hR=>?_⟩;have k:=I.trans s2;refine⟨_,rfl,x,Z,_,rfl,k _ _ hx,rfl,_,rfl,x,d,dm,m,es,e,o,rfl,F.same k,O,a1.same k,λv H3 s3 hv=>?_⟩;have j:=k.trans s3;have y:=hR.same s3;cases o with
 |none=>cases hv;exact⟨_,rfl,rfl,_,rfl,iZ (m9 rfl) ⟨_,rfl,q L H3 (none_of I hN) j y⟩⟩
 |some mq=>
  obtain⟨a,vm,rfl,ha,hm⟩:=hv;refine⟨_,rfl,rfl,_,rfl,dI (v9 λz=>by cases z) ?_⟩;refine⟨_,rfl,a,_,1,_,rfl,rfl,ha,at1 _ _ _,_,rfl,rfl,_,rfl,?_⟩;by_cases W:mq.house=b
  ·refine dI (by rw[m9 (congrArg V.int W)];rfl) ?_;refine⟨_,rfl,?_⟩;refine iY [none,some (.ref a)] (jN 5 (by decide +kernel) rfl rfl (by trivial)) ?_;refine⟨_,rfl,_,rfl,a,_,0,_,rfl,rfl,ha,at0 _ _,e.v,e.vh,e.vp,e.L,e.t,m,mq.num,n,h0,U,rfl,(F.ens.tb e O).same j,B,J,λD1 H4 a9 X M=>?_⟩;obtain⟨ws,gD,ab⟩:=id M;have S:=j.trans X;refine⟨D1,rfl,⟨_,SqL.of gD⟩,rH M (bAE (bAY _ _) (by have:=B.few;lia)) (nP mq.mark) rfl (λu r p H' R l sm a4 rr=>?_) λD' H5 ac s5 G=>?_⟩
   ·refine⟨_,rfl,_,rfl,a,_,2,_,rfl,rfl,(X.trans sm).aR ha,at2 _ _ _ _,u,vm,r,mq.mark,knds e.t.hd,rfl,a4,hm.same (X.trans sm),fK (B.rows r (List.mem_filter.mp p).1),λq' e'=>fK (a0 mq q' rfl e'),_,rfl,rr H' (Same.refl _)⟩
   ·rw[bEP] at G;obtain⟨u1,g1,h1⟩:=y.same (X.trans s5);obtain⟨u2,g2,h2⟩:=G;have l1:=h1.len;have l2:=h2.len;have f1:(e.t.rows.filter λr=>bZ e.t.hd m r b e.t.pl).length+(e.t.rows.filter λr=>nP mq.mark r && fX e.t.hd n U mq.num r).length<=e.t.rows.length:=by rw[J];exact aE7 (nP mq.mark) e.t.rows W (a3 mq rfl)
    have f2:=B.few;refine⟨L,D',u1,u2,rfl,rfl,g1,g2,small (by lia),λR6 H6 a8 Y g6=>?_⟩;refine⟨R6,_,(e.t.rows.filter λr=>bZ e.t.hd m r b e.t.pl)++e.t.rows.filter λr=>nP mq.mark r && fX e.t.hd n U mq.num r,knds e.t.hd,rfl,SqL.of g6,cP (cG.app (h1.imp λ_ _ z=>z.same Y) (h2.imp λ_ _ z=>z.same Y)),by rw[w6];lia,jO B.hd.1,λr p=>?_,λL7 H7 a6 a2 s7 g7 h7=>?_⟩
    ·rcases List.mem_append.mp p with z|z <;> exact fK (B.rows r (List.mem_filter.mp z).1)
    ·have a5:=S.trans (s5.trans (Y.trans s7));refine q L7 H7 (none_of (S.trans (s5.trans Y)) a2) a5 ⟨a6,g7,?_⟩;have e7:oN e.t.hd m b e.t.pl (some mq) n U e.t.rows=_:=if_pos W;rw[e7];exact (iC h7).imp λ_ _ z=>z.same s7
  ·refine iZ (by rw[v9 λz=>W (V.int.inj z)];rfl) ⟨_,rfl,q L H3 (none_of I hN) j ?_⟩;have e7:oN e.t.hd m b e.t.pl (some mq) n U e.t.rows=_:=if_neg W;rw[e7];exact y
def aWf (h:Ded qs W)(h':Ded qs' W)(b:∀r∈W,KdR ks r):srt qs=srt qs':=
 qU (λr a=>b r ((h.2.1 r).mp a)) ((bFX h.1 h'.1).mpr λr=>(h.2.1 r).trans (h'.2.1 r).symm)
def fZ (t:Tb)(n:Str)(cs:List (V × Int))(num:Nat)(o:Option (List V)):List (List V):=t.rows.filter λr=>xW o r && fX t.hd n cs num r
inductive aLk (K:bF4)(C:Addr)(vs:List V)(H:Hp)(Q:VK)(E_:XK):Prop
 |mk (x d dm:Addr) (m:Int) (es:List En) (e:En) (mq:Mv) (n:Str) (h0:Int) (cs:List (V × Int)) (k:Nat) (_:vs=[.ref x,.str e.n,.int k]) (_:bC K H C x m d dm es) (_:e∈es) (_:MvD K H dm e.n (some mq)) (_:e.t.pl=.spans n h0 cs) (_:(∀q,mq.mark=some q->gC e.t.hd q)) (_:∀qs,Ded qs (fZ e.t n cs mq.num mq.mark)->(((srt qs).take k=[]->∀H',Same H H'->Q (.int 0) H')/\∀r,((srt qs).take k).getLast?=some r->∀H',KP K (λb=>b≠dm) H H'->bC K H' C x m d dm es->MvD K H' dm e.n (some { mq with mark:=some r })->Q (.int ((fZ e.t n cs mq.num mq.mark).length - (fZ e.t n cs mq.num (some r)).length)) H'))
theorem aSb (T:Txt w K mg){C:Addr}(c:Cls K C)(D:dZ K C "carry" "Store.carry" mF ["self","name","many"])(n3:bK K C "moves")(l:OkM P w K mg base C 4 "cut_table" n6 (aAz K C))(o:OkM P w K mg base C 1 "move_of" n6 (zF K C))(g:OkM P w K mg base C 4 "rows_to_come" n6 (aMq K C)):OkM P w K mg base C 5 "carry" ["self","name","many"] (aLk K C):=by
 refine OkM.ofV c D qL (by trivial) (λf an A am s H vs Q E hr h=>?_)
 obtain⟨x,d,G,m,es,e,j,n,h0,I,k,rfl,hS,he,aj,L,ac,q⟩:=h;have hu:=pA hr;have hU:=hr.units;have nd:=qL.nd;refine⟨_,(aB (dJ (iB l (vv 0) (va1 (vv 1)))) (aB (aZ 3 (iB o (vv 0) (va1 (vv 1)))) (aB (aZ 4 (iB g (vv 0) (va1 (vv 1)))) (aB (aZ 5 (dD wO (aL (sV rfl) (by rfl) T.dY dB (va1 (cC (aFe rfl hU) (by rfl) T.aO0 aHf (va1 (vv 4))))) fC (dR (aL (aRs rfl) (by rfl) T.bC3 bAh (aH (vv 2) (va1 aA)))))) (aB (bM (cD (aK4 (vv 5))) (aD (aJ aA)) aU) (aB (vM hu (cT (K:=K) (vv 0)) (vv 1) (bF wR (dD aAy (vv 3) fC (dR aA)) (cN (va1 (aO bA (vv 5) (aZx aU7 aA)))))) (aD (aJ (bF aCs (aL aY (by rfl) T.eZ cW (va1 (vv 4))) (aL aY (by rfl) T.eZ cW (va1 (iB g (vv 0) (va1 (vv 1)))))))))))))),?_⟩;obtain⟨dx,hx⟩:=hS.at_;have ok:=hS.ok e he;have ak:=ok.few;refine⟨_,rfl,x,dx,_,rfl,hx,rfl,_,rfl,x,d,G,m,es,e,n,h0,I,rfl,hS,he,L,λH1 U=>?_⟩;obtain⟨v,hv,gm⟩:=aj.same U;refine⟨_,rfl,x,dx,_,rfl,U _ _ hx,rfl,_,rfl,x,d,G,m,es,e.n,v,rfl,hS.same U,gm,?_⟩;refine⟨_,rfl,x,dx,_,rfl,U _ _ hx,rfl,_,rfl,x,d,G,m,es,e,j,n,h0,I,rfl,hS.same U,he,⟨v,hv,gm⟩,L,ac,λW2 H2 a0 s2 al=>?_⟩;obtain⟨us,g2,a7⟩:=id al;have lu:=a7.len;have ai:=U.trans s2;have lW:(fZ e.t n I j.num j.mark).length<=60:=bAE (bAY _ _) ak;have kW:∀r∈fZ e.t n I j.num j.mark,KdR (knds e.t.hd) r:=λr F=>fK (ok.rows r (List.mem_filter.mp F).1);have hW:us.length=(fZ e.t n I j.num j.mark).length:=lu;refine⟨_,rfl,W2,us,fZ e.t n I j.num j.mark,rfl,SqL.of g2,cP a7,λr F=>vU (ok.rows r (List.mem_filter.mp F).1),by lia,λD3 H3 as qs ap s3 g3 a9 J=>?_⟩;have la:=a9.len;have ld:=J.2.2;rw[j6] at la;refine⟨D3,as,qs,knds e.t.hd,rfl,g3,a9.imp λ_ _ z=>z.same s3,by lia,jO ok.hd.1,λr F=>kW r ((J.2.1 r).mp F),λB H4 y hB s4 g4 h4=>?_⟩;have O:=s3.trans s4;refine⟨_,rfl,(k:Int),0,rfl,(k:Int),by rw[if_neg (show ¬ (0:Int) > (k:Int) by lia)],B,y,rfl,SqL.of g4,λp H5 hp s5 g5=>?_⟩;rw[show mY y none (some ((k:Nat):Int))=y.take k from oK _ k] at g5;have a5:cG (cM K H5) (y.take k) ((srt qs).take k):=(xZ (iC h4) k).imp λ_ _ z=>z.same (s4.trans s5);have af:=ai.trans (O.trans s5);obtain⟨q0,q1⟩:=q qs J;refine⟨_,rfl,_,.inl ⟨_,SqL.of g5,rfl⟩,?_⟩;have uS:∀i u,(y.take k)[i]?=some u->∃r,((srt qs).take k)[i]?=some r/\cM K H5 u r:=λi u z=>cA a5 z;have lS:=a5.len;generalize y.take k=uk at g5 uS lS ⊢;cases uk with
 |nil=>refine iZ rfl ?_;exact q0 (bAZ lS.symm) H5 af
 |cons u0 ur=>
  refine dI rfl ?_;obtain⟨ul,aa⟩:∃ul,(u0::ur)[(u0::ur).length - 1]?=some ul:=⟨_,b8 (by rw[m8];lia)⟩;obtain⟨r,a8,ad⟩:=uS _ _ aa;have hl:((srt qs).take k).getLast?=some r:=by rw[List.getLast?_eq_getElem?,<-lS];exact a8
  have ah:gC e.t.hd r:=by have h1:=(J.2.1 r).mp (fB (bDV (t8 a8)));exact ok.rows r (List.mem_filter.mp h1).1
  obtain⟨a,vm,rfl,ha,hm⟩:=hv;have a6:=s2.trans (O.trans s5);refine⟨_,rfl,_,rfl,a,_,rfl,a6.aR ha,by show ¬ (HT.sIx 3 0 none=0/\HT.sIx 3 3 (some 2)=3);decide,λp6 H6 s6 g6=>?_⟩;rw[show mY [V.int j.num,.int j.house,vm] none (some 2)=[V.int j.num,.int j.house] from oK _ 2] at g6;refine⟨_,rfl,_,rfl,p,_,_,ul,rfl,rfl,SqL.of (s6 _ _ g5),aPb aa,by show 1<=sizeLine;decide,λp7 H7 _ s7 g7=>?_⟩;refine⟨p6,p7,_,_,rfl,rfl,SqT.of (s7 _ _ g6),SqT.of g7,by show 3<=sizeLine;decide,λM H8 s8 g8=>?_⟩;have Z:=s6.trans (s7.trans s8);have X:=a6.trans Z;have R:=U.trans X;obtain⟨k1,k2⟩:=(hS.same R).mv (kvs':=[(Sum.inr e.n,.ref M)]) (X _ _ gm);refine⟨_,rfl,x,C,dx,_,_,rfl,R _ _ hx,c,n3,rfl,_,rfl,G,_,rfl,aHb.k (k:=Sum.inr e.n) (X _ _ gm) (kJ (by show 1<1000;decide)),?_⟩;rw[show putK [((Sum.inr e.n:Key),V.ref a)] (Sum.inr e.n) (V.ref M)=[(Sum.inr e.n,.ref M)] by unfold putK;simp];have W:MvD K (_root_.L2.upd H8 G (.dK [(Sum.inr e.n,.ref M)])) G e.n (some { j with mark:=some r }):=⟨.ref M,⟨M,ul,rfl,k1.tk _ _ g8,(ad.same Z).imp λb ⟨e1,e2⟩=>⟨e1,k1.tk _ _ e2⟩⟩,aF⟩;have a2:=(KP.same (K:=K) (S:=λb=>b≠G) R).trans k1;have nW:W2≠G:=λz=>by rw[z,gm] at a0;cases a0
  have gW:=k1.st _ _ nW (Z _ _ ((O.trans s5) _ _ g2));generalize _root_.L2.upd H8 G (.dK [(Sum.inr e.n,.ref M)])=H9 at k1 k2 W a2 gW ⊢;obtain⟨ag,ab⟩:=k2.at_;refine⟨_,rfl,W2,us,rfl,.inl (SqL.of gW),_,rfl,x,ag,_,rfl,ab,rfl,_,rfl,x,d,G,m,es,e,{ j with mark:=some r },n,h0,I,rfl,k2,he,W,L,λq' e'=>by cases e';exact ah,λW3 a1 ao N a4=>?_⟩;obtain⟨Y,ae,a3⟩:=a4;have l3:=a3.len;refine⟨W3,Y,rfl,.inl (SqL.of ae),_,_,rfl,rfl,?_⟩;have e1:(us.length:Int) - Y.length=((fZ e.t n I j.num j.mark).length - (fZ e.t n I j.num (some r)).length:Int):=by rw[hW,l3];rfl
  show Q (.int ((us.length:Int) - Y.length)) a1;rw[e1];exact q1 r hl a1 (a2.trans (KP.same N)) (k2.same N) (W.same N)
def aYt {κ:Type}[DecidableEq κ]{A B:List (κ × V)}{k:κ}{v c:V}(d:∀kv∈A,kv.1≠k)(e:∀kv∈B,kv.1≠k):putK (A++(k,v)::B) k c=A++(k,c)::B:=by
 have b:∀{L:List (κ × V)},(∀kv∈L,kv.1≠k)->L.map (λkv=>if kv.1=k then (kv.1,c) else kv)=L:=λ{L} h=>by
  conv=>rhs;rw[<-List.map_id L]
  exact List.map_congr_left λkv a=>by rw[if_neg (h kv a)];rfl
 unfold putK;rw[if_pos (List.any_eq_true.mpr ⟨(k,v),bAM _ j0,m9 rfl⟩),bBF,bAL,b d,b e,if_pos rfl]
def aGs {l1 l2:List En}{e e':En}(d:((l1++e::l2).map (·.n)).Nodup)(i:e'.n=e.n):putK (enK (l1++e::l2)) (Sum.inr e.n) e'.v=enK (l1++e'::l2):=by
 rw[bBF,bAL] at d;obtain⟨_,h,f⟩:=List.nodup_append.mp d;have c:=(List.nodup_cons.mp h).1;unfold enK;rw[bBF,bAL,bBF,bAL,i];refine aYt (λg a z=>?_) λg a z=>?_
 ·obtain⟨x,b,rfl⟩:=List.mem_map.mp a;exact f _ (bDC b) _ j0 (Sum.inr.inj z)
 ·obtain⟨x,b,rfl⟩:=List.mem_map.mp a;exact c (by rw[<-Sum.inr.inj z];exact bDC b)
def bC.put {H:Hp}{C x d dm:Addr}{m:Int}{l1 l2:List En}{e e':En}(h:bC K H C x m d dm (l1++e::l2))(l:e'.n=e.n)(o:lC K H e'.v e'.vh e'.vp e'.L e'.t)(p:jC m e'.t):KP K (λb=>b≠d) H (L2.upd H d (.dK (enK (l1++e'::l2))))/\bC K (L2.upd H d (.dK (enK (l1++e'::l2)))) C x m d dm (l1++e'::l2):=by
 have g:=eU.dK h.ens.at_;have b:But d H (L2.upd H d (.dK (enK (l1++e'::l2)))):=But.upd;have c:∀y∈l1++e'::l2,y=e'\/y∈l1++e::l2:=λy hy=>by
  rcases List.mem_append.mp hy with h|h
  ·exact .inr (bBQ _ h)
  ·rcases List.mem_cons.mp h with h|h
   ·exact .inl h
   ·exact .inr (bAM _ (j5 _ h))
 have a:=h.ens;have f:(l1++e'::l2).map (·.n)=(l1++e::l2).map (·.n):=by rw[bBF,bBF,bAL,bAL,l]
 obtain⟨j,i⟩:=h.at_;have k:x≠d:=λz=>by rw[z,a.at_] at i;cases i
 refine⟨.bC9 g λz=>z rfl,⟨j,b _ _ k i⟩,⟨aF,by rw[f];exact a.nd,?_,λy hy=>?_,λy hy=>?_⟩,λy hy=>?_,h.ne⟩
 ·have:=congrArg List.length f;rw[j6,j6] at this;rw[this];exact a.few
 ·rcases c y hy with rfl|hy
  ·rw[l];exact a.nm e (bAM _ j0)
  ·exact a.nm y hy
 ·rcases c y hy with rfl|hy
  ·exact b.tb g o
  ·exact b.tb g (a.tb y hy)
 ·rcases c y hy with rfl|hy
  ·exact p
  ·exact h.ok y hy
inductive yD (K:bF4)(vs:List V)(H:Hp)(Q:VK)(E_:XK):Prop
 |mk (v vh vp:V) (L R:Addr) (t:Tb) (rows:List (List V)) (_:vs=[v,.ref R]) (_:lC K H v vh vp L t) (_:aRl t.hd) (_:bW K H R rows) (_:rows.length<=60) (_:(∀r∈rows,gC t.hd r)) (_:∀v' L' H',H L'=none->Same H H'->lC K H' v' vh vp L' { t with rows:=srt rows }->Q v' H')
def aH5 (T:Txt w K mg):Ok P w K mg base 1 "with_rows" ["table","rows"] (yD K):=by
 refine Ok.ofV T.aJf aGo (by trivial) (λf M A o s H vs Q E Y h=>?_)
 obtain⟨v,x,y,L,R,t,c,rfl,⟨a,rfl,F,X,J,h3⟩,hd,I,O,k,q⟩:=h;refine⟨_,(aD (aJ (bF wR (dD aAy (vv 0) fC (dR aA)) (cN (va1 (aL dU (by rfl) T.dY dB (va1 (vv 1)))))))),?_⟩;obtain⟨D,G,d⟩:=I;have lu:=d.len;refine⟨_,rfl,_,rfl,a,_,rfl,F,by show ¬ (HT.sIx 3 0 none=0/\HT.sIx 3 3 (some 2)=3);decide,λp H1 e u=>?_⟩;rw[show mY [x,y,.ref L] none (some 2)=[x,y] from oK _ 2] at u;refine⟨_,rfl,R,D,c,knds t.hd,rfl,SqL.of (e _ _ G),cP (d.imp λ_ _ z=>z.same e),by lia,jO hd.1,λr i=>fK (k r i),λN H2 m l j S U=>?_⟩;refine⟨by show 1<=sizeLine;decide,λB Z _ g V=>?_⟩;refine⟨p,B,_,_,rfl,rfl,SqT.of (g _ _ (j _ _ u)),SqT.of V,by show 3<=sizeLine;decide,λr W n C=>?_⟩;have b:=e.trans (j.trans (g.trans n));exact q _ N W (none_of e l) b ⟨r,rfl,C,X.same b,J.same b,m,n _ _ (g _ _ S),(iC U).imp λ_ _ z=>z.same (j.trans (g.trans n))⟩
inductive aT4 (K:bF4)(C:Addr)(vs:List V)(H:Hp)(Q:VK)(E_:XK):Prop
 |mk (x d dm:Addr) (m:Int) (l1 l2:List En) (e:En) (vr:V) (r:List V) (_:vs=[.ref x,.str e.n,vr]) (_:bC K H C x m d dm (l1++e::l2)) (_:cM K H vr r) (_:gC e.t.hd r) (_:e.t.rows.length<60) (_:∀v L H',KP K (λb=>b≠d) H H'->H L=none->bC K H' C x m d dm (l1++{ e with v:=v,L:=L,t:={ e.t with rows:=srt (e.t.rows++[r]) } }::l2)->Q .non H')
def aW3 (T:Txt w K mg){C:Addr}(c:Cls K C)(D:dZ K C "put" "Store.put" pH ["self","name","row"])(n1:bK K C "placed")(cB:Ok P w K mg base 3 "table_in" o5 (nJ K))(qQ:Ok P w K mg base 4 "is_row" u5 (aAu K))(pM:Ok P w K mg base 1 "with_rows" ["table","rows"] (yD K)):OkM P w K mg base C 5 "put" bQF (aT4 K C):=by
 refine OkM.ofV c D wK (by trivial) (λf a1 A X s H vs Q E hr h=>?_)
 obtain⟨x,d,dm,m,S,J,e,vr,r,rfl,l,F,j,a2,q⟩:=h;have hu:=pA hr;have nd:=wK.nd;refine⟨_,(aB (aZ 3 (aV cB (aH (cT (K:=K) (vv 0)) (va1 (vv 1))))) (aB (bM (cD (bU (aV qQ (aH (aO aP (vv 3) aA) (va1 (vv 2)))))) (aD dX) aU) (aD (vM hu (cT (K:=K) (vv 0)) (vv 1) (aV pM (aH (vv 3) (va1 (bF pQ (aO aP (vv 3) aA) (cX (va1 (vv 2))))))))))),?_⟩;obtain⟨Y,hx⟩:=l.at_;have I:e∈S++e::J:=bAM _ j0;have B:=l.ok e I;have l8:=B.hd.1.2.2;refine⟨_,rfl,x,C,Y,_,_,rfl,hx,c,n1,rfl,_,rfl,d,_,e,rfl,l.ens,I,λH1 M=>?_⟩;obtain⟨a,ev,ha,h1,h2,⟨us,h3,Z⟩⟩:=(l.ens.tb e I).same M;have lu:=Z.len;refine⟨_,rfl,a,_,0,_,ev,rfl,ha,at0 _ _,_,rfl,e.vh,vr,e.t.hd,r,rfl,h1,by lia,F.same M,j,λH2 G=>⟨_,rfl,bY ?_⟩⟩;have N:=M.trans G;refine⟨_,rfl,_,rfl,a,_,2,_,ev,rfl,G.aR ha,at2 _ _ _ _,_,rfl,by show 1<=sizeLine;decide,λp H3 hp V g3=>?_⟩;refine⟨e.L,p,us,_,rfl,rfl,V _ _ (G _ _ h3),g3,small (by show _+1<=1000;lia),λR H4 hR s4 g4=>?_⟩;have b:=N.trans (V.trans s4);have i:bW K H4 R (e.t.rows++[r]):=⟨_,g4,cG.app (Z.imp λ_ _ z=>z.same (G.trans (V.trans s4))) (.cons (F.same b) .nil)⟩;refine⟨e.v,e.vh,e.vp,e.L,R,e.t,_,rfl,(l.ens.tb e I).same b,B.hd,i,by rw[w6];show _+1<=60;lia,λy hy=>?_,λW L' H5 O s5 hT=>?_⟩
 ·rcases List.mem_append.mp hy with hy|hy
  ·exact B.rows y hy
  ·rw[List.mem_singleton.mp hy];exact j
 have o:=b.trans s5;have g:=l.same o;have U:jC m { e.t with rows:=srt (e.t.rows++[r]) }:=⟨B.hd,B.pl,by show (srt _).length<=60;rw[nY,w6];show _+1<=60;lia,λy hy=>by
  rcases List.mem_append.mp (fB hy) with hy|hy
  ·exact B.rows y hy
  ·rw[List.mem_singleton.mp hy];exact j⟩
 obtain⟨e',u⟩:∃e':En,e'={ e with v:=W,L:=L',t:={ e.t with rows:=srt (e.t.rows++[r]) } }:=⟨_,rfl⟩;obtain⟨k1,k2⟩:=g.put (e':=e') (by rw[u]) (by rw[u];exact hT) (by rw[u];exact U);have a0:=g.ens.few;refine⟨_,rfl,x,C,Y,_,_,rfl,o _ _ hx,c,n1,rfl,_,rfl,d,_,rfl,aHb.k (k:=Sum.inr e.n) g.ens.at_ (by rw[vK];exact kJ (by lia)),?_⟩;have ek:putK (enK (S++e::J)) (Sum.inr e.n) W=enK (S++e'::J):=by have:=aGs (e':=e') l.ens.nd (by rw[u]);rw[u] at this ⊢;exact this
 rw[ek];rw[u] at k1 k2 ⊢;exact q W L' _ ((KP.same o).trans k1) (none_of b O) k2
theorem aKx {r:List V}:∀{rs:List (List V)},r∈rs->∃j,rs[j]?=some r/\∀(m:Nat) q,m<j->rs[m]?=some q->q≠r
 |[],h=>by cases h
 |a::rs,h=>by
  by_cases e:a=r
  ·exact⟨0,by rw[e];rfl,λm q c=>absurd c (bCX _)⟩
  ·rcases List.mem_cons.mp h with h|h
   ·exact absurd h.symm e
   ·obtain⟨j,d,f⟩:=aKx h;refine⟨j+1,by simpa using d,λm q c b=>?_⟩;cases m with
    |zero=>cases b;exact e
    |succ m=>exact f m q (by lia) (by simpa using b)
theorem aB8 {α β:Type}{R:α->β->Prop}{as:List α}{bs:List β}(h:cG R as bs):∀n,cG R (as.eraseIdx n) (bs.eraseIdx n):=by
 induction h with
 |nil=>intro n;exact .nil
 |cons r t ih=>
  intro n;cases n with
  |zero=>exact t
  |succ n=>exact .cons r (ih n)
theorem uH {α:Type}{r:α}:∀{rs:List α} {j:Nat},rs[j]?=some r->(r::rs.eraseIdx j).Perm rs
 |[],_,h=>by cases h
 |a::rs,0,h=>by cases h;exact .refl _
 |a::rs,j+1,h=>(List.Perm.swap a r _).trans ((uH (by simpa using h)).cons a)
inductive aO6 (K:bF4)(C:Addr)(vs:List V)(H:Hp)(Q:VK)(E_:XK):Prop
 |mk (x d dm:Addr) (m:Int) (l1 l2:List En) (e:En) (vr:V) (r:List V) (_:vs=[.ref x,.str e.n,vr]) (_:bC K H C x m d dm (l1++e::l2)) (_:cM K H vr r) (_:gC e.t.hd r) (_:r∈e.t.rows) (_:∀v L rows' H',(r::rows').Perm e.t.rows->KP K (λb=>b≠d) H H'->H L=none->bC K H' C x m d dm (l1++{ e with v:=v,L:=L,t:={ e.t with rows:=srt rows' } }::l2)->Q .non H')
def aVx (T:Txt w K mg){C:Addr}(c:Cls K C)(D:dZ K C "drop" "Store.drop" oU ["self","name","row"])(n1:bK K C "placed")(cB:Ok P w K mg base 3 "table_in" o5 (nJ K))(qQ:Ok P w K mg base 4 "is_row" u5 (aAu K))(pM:Ok P w K mg base 1 "with_rows" ["table","rows"] (yD K)):OkM P w K mg base C 5 "drop" bQF (aO6 K C):=by
 refine OkM.ofV c D sO (by trivial) (λf a6 A a3 s H vs Q E X h=>?_)
 obtain⟨x,d,dm,m,l1,Y,e,vr,r,rfl,G,p,q,hm,qT⟩:=h;have hu:=pA X;have hU:=X.units;have nd:=sO.nd;refine⟨_,(aB (aZ 3 (aV cB (aH (cT (K:=K) (vv 0)) (va1 (vv 1))))) (aB (bM (VW.pt (fJ (cD (bU (aV qQ (aH (aO aP (vv 3) aA) (va1 (vv 2)))))) (eG (aOo (aN2 hU) (vv 2) (aO aP (vv 3) aA) (by with_unfolding_all rfl))))) (aD dX) aU) (aB (aZ 4 (cC oV (by rfl) T.yQ rE (va1 (aO aP (vv 3) aA)))) (aB (dJ (sX PySem.F.plainAttrs_list PySem.F.slot_list_remove PySem.F.type_list_remove (aYn hU) (vv 4) (va1 (vv 2)))) (aD (vM hu (cT (K:=K) (vv 0)) (vv 1) (aV pM (aH (vv 3) (va1 (vv 4)))))))))),?_⟩;obtain⟨dx,hx⟩:=G.at_;have W:e∈l1++e::Y:=bAM _ j0;have i:=G.ok e W;have l8:=i.hd.1.2.2;have a7:=i.few;refine⟨_,rfl,x,C,dx,_,_,rfl,hx,c,n1,rfl,_,rfl,d,_,e,rfl,G.ens,W,λH1 U=>?_⟩;obtain⟨a,ev,ha,h1,h2,⟨B,h3,V⟩⟩:=(G.ens.tb e W).same U;have lu:=V.len;refine⟨_,rfl,a,_,0,_,ev,rfl,ha,at0 _ _,_,rfl,e.vh,vr,e.t.hd,r,rfl,h1,by lia,p.same U,q,λH2 g=>⟨_,rfl,bY ?_⟩⟩;have N:=U.trans g;have O:∀r∈e.t.rows,pG r:=λr X=>vU (i.rows r X);refine⟨_,rfl,_,rfl,a,_,2,_,ev,rfl,g.aR ha,at2 _ _ _ _,e.L,B,e.t.rows,r,rfl,SqL.of (g _ _ h3),cP (V.imp λ_ _ z=>z.same g),O,p.same N,vU q,_,rfl,?_⟩
 ·rw[m9 hm];refine bY ?_;obtain⟨j,hj,Z⟩:=aKx hm;refine⟨_,rfl,a,_,2,_,ev,rfl,g.aR ha,at2 _ _ _ _,e.L,B,rfl,.inl (SqL.of (g _ _ h3)),λR H3 hR s3 g3=>?_⟩;have a2:=N.trans s3;refine⟨_,rfl,.inl ⟨rfl,_,SqL.of g3⟩,_,rfl,R,B,vr,e.t.rows,r,j,rfl,rfl,g3,cP (V.imp λ_ _ z=>z.same (g.trans s3)),O,p.same a2,vU q,hj,Z,?_⟩;have u:Same H1 (L2.upd H3 R (.lst (B.eraseIdx j))):=g.trans (gH hR s3);have b:=U.trans u;have g4:L2.upd H3 R (.lst (B.eraseIdx j)) R=some (.lst (B.eraseIdx j)):=aF;generalize L2.upd H3 R (.lst (B.eraseIdx j))=H4 at u b g4 ⊢;obtain⟨a5,ej⟩:=List.getElem?_eq_some_iff.mp hj;have pm:(r::e.t.rows.eraseIdx j).Perm e.t.rows:=uH hj;have M:∀y∈e.t.rows.eraseIdx j,y∈e.t.rows:=λy S=>List.mem_of_mem_eraseIdx S;have o:bW K H4 R (e.t.rows.eraseIdx j):=⟨_,g4,aB8 (V.imp λ_ _ z=>z.same u) j⟩;have a8:=bER e.t.rows j;refine⟨_,rfl,_,rfl,e.v,e.vh,e.vp,e.L,R,e.t,e.t.rows.eraseIdx j,rfl,(G.ens.tb e W).same b,i.hd,o,by lia,λy S=>i.rows y (M y S),λv' L' H5 a0 s5 hT=>?_⟩;have I:=b.trans s5;have l:=G.same I;have a1:jC m { e.t with rows:=srt (e.t.rows.eraseIdx j) }:=⟨i.hd,i.pl,by show (srt _).length<=60;rw[nY];lia,λy S=>i.rows y (M y (fB S))⟩;obtain⟨e',J⟩:∃e':En,e'={ e with v:=v',L:=L',t:={ e.t with rows:=srt (e.t.rows.eraseIdx j) } }:=⟨_,rfl⟩;obtain⟨k1,k2⟩:=l.put (e':=e') (by rw[J]) (by rw[J];exact hT) (by rw[J];exact a1);have a4:=l.ens.few;refine⟨_,rfl,x,C,dx,_,_,rfl,I _ _ hx,c,n1,rfl,_,rfl,d,_,rfl,aHb.k (k:=Sum.inr e.n) l.ens.at_ (by rw[vK];exact kJ (by lia)),?_⟩;have ek:putK (enK (l1++e::Y)) (Sum.inr e.n) v'=enK (l1++e'::Y):=by have:=aGs (e':=e') G.ens.nd (by rw[J]);rw[J] at this ⊢;exact this
  rw[ek];rw[J] at k1 k2 ⊢;exact qT v' L' _ _ pm ((KP.same I).trans k1) (none_of b a0) k2
end
end My
namespace L2
open PySem PySem.Spec PyProof.Rows
def aZn (K:bF4)(n:Nat)(t:TGs):TG:=λv σ H Q=>∃a xs,v=.ref a/\SqL K H a xs/\xs.length=n/\t xs σ H Q
def aXq (C:X.calm=true)(h:PGs X es t)
  (A:(assignEach es X.env).length=n:=by rfl) (p:(assignEach es X.env).findIdx? (·.1)=none:=by rfl):PG X (.Tuple es k pos) (aZn X.K n t):=by
 intro c s σ H v u Q I r f;obtain⟨a,x,w,l,y,f⟩:=f;subst w;cases r;obtain⟨d,i,j,B⟩:=I.list l;have g:(assignEach es X.env).length=d.toArray.size:=by rw[A,<-y,i.length,d9]
 rw[arm_assign_Tuple];refine b7 (bEC ?_);unfold unpack;rw[g,p];refine b7 (bAR (PySem.W.kun_itemsOf (I.ok.hd C) j.isList λz q=>?_));have m:=I.kept (t':=s.toks) λb o e=>q b o (v8 (j9 e)) e;exact h c _ σ H x _ Q m (by simpa using i) f
def aPu (b:X.calm=true)(h:VGs X es t)(c:(assignEach es X.env).length=n:=by rfl)(a:(assignEach es X.env).findIdx? (·.1)=none:=by rfl):VG X (.Tuple es k pos) (aZn X.K n t):=⟨aXq b h.1 c a⟩
end L2
namespace My
open PySem PySem.Spec PyProof.Rows L2
section
variable {P:Program}{w:World}{K:bF4}{mg:bF7}{base:Heap}
theorem aRz (h:cF kd a)(f:cF kd b)(e:cF kd c)(g:vlt a b=true)(d:vlt b c=true):vlt a c=true:=by
 cases h with
 |num=>cases f;cases e;exact m9 (Int.lt_trans (of_decide_eq_true g) (of_decide_eq_true d))
 |wrd _ _=>cases f;cases e;exact m9 (List.lt_trans (of_decide_eq_true g) (of_decide_eq_true d))
theorem aI0 {kd:Str}{v:V}{cs:List (V × Int)}(x:cF kd v)(o:∀c∈cs,cF kd c.1)(t:(cs.map (·.1)).Pairwise λa b=>vlt a b=true):∀k,k<=cs.length->iH v (cs.take k) 1 0<=k/\∀(i:Nat) (c:V × Int),i<k->cs[i]?=some c->(i<iH v (cs.take k) 1 0↔vlt v c.1=false)
 |0,_=>⟨d8 _,λi c h=>absurd h (bCX _)⟩
 |k+1,h=>by
  obtain⟨A,q⟩:=aI0 x o t k (by lia);have g:cs[k]?=some cs[k]:=b8 (by lia);have p:cs.take (k+1)=cs.take k++[cs[k]]:=by rw[bBP,g];rfl
  have u:(cs.take k).length=k:=by rw[bAI];lia
  rw[p,yG,u];have m:=o _ (t8 g);cases f:vlt v cs[k].1 with
  |true=>
   rw[if_pos rfl];refine⟨by lia,λi c s d=>?_⟩;by_cases e:i=k
   ·subst e;rw[g] at d;cases d;rw[f];exact⟨λz=>absurd z (by lia),λz=>by cases z⟩
   ·exact q i c (by lia) d
  |false=>
   rw[if_neg v5];refine⟨by lia,λi c s d=>⟨λ_=>?_,λ_=>by lia⟩⟩;by_cases e:i=k
   ·subst e;rw[g] at d;cases d;exact f
   ·cases w:vlt v c.1 with
    |false=>rfl
    |true=>
     have n:=o c (t8 d);have y:i<(cs.map (·.1)).length:=by rw[j6];lia
     have j:k<(cs.map (·.1)).length:=by rw[j6];lia
     have l:=List.pairwise_iff_getElem.mp t i k y j (by lia);rw[List.getElem_map,List.getElem_map] at l;have r:=(List.getElem?_eq_some_iff.mp d).2;rw[r] at l;rw[aRz x n m w l] at f;cases f
theorem zZ {α:Type}{p:α->Bool}:∀{l:List α} {N:Nat},N<=l.length->(∀(i:Nat) (c:α),l[i]?=some c->(i<N↔p c=true))->l.filter p=l.take N
 |[],N,_,_=>by rw[bEE];rfl
 |a::l,0,h,hp=>by rw[List.take_zero];refine List.filter_eq_nil_iff.mpr λc b=>?_;obtain⟨i,d⟩:=List.mem_iff_getElem?.mp b;exact λz=>absurd ((hp i c d).mpr z) (bCX _)
 |a::l,N+1,h,hp=>by rw[bDG,if_pos ((hp 0 a rfl).mp (Nat.succ_pos _)),List.take_succ_cons];exact congrArg _ (zZ (by simpa using h) λi c e=>⟨λz=>(hp (i+1) c (by simpa using e)).mp (by lia),λz=>by have:=(hp (i+1) c (by simpa using e)).mpr z;lia⟩)
def nQ (h:∀r∈rs,KdR ks r)(p:List V->Bool):srt (rs.filter p)=(srt rs).filter p:=by obtain⟨d,g⟩:=jR h;obtain⟨c,j⟩:=jR λr f=>h r (List.mem_filter.mp f).1;refine xU (c.trans (d.filter p).symm) (λa i b l e k=>?_) j (g.filter p);exact aNb (h a (List.mem_filter.mp (fB i)).1) (h b (List.mem_filter.mp (fB l)).1) e k
def aH4 (T:Txt w K mg):Ok P w K mg base 1 "_law_spot" bQD (mG K):=by
 refine Ok.ofV T.aLd aF9 (by trivial) (λf Z A C s H vs Q E hr h=>?_)
 obtain⟨vh,n,hd,k,rfl,⟨b,X,rfl,B,S⟩,hl,Y,q⟩:=h;obtain⟨t,v⟩:=aHs Y;refine⟨_,(aD (aJ (sX PySem.F.plainAttrs_list PySem.F.slot_list_index PySem.F.type_list_index aFv (cI (N:=["_law_column","_law_kind"]) (by trivial) (jV (by decide +kernel)) rfl (pO (vv 0)) (λcl e g fp=>⟨(rK (K:=K) (n:=2) rfl (aX (bJ (i:=0) (show (["_law_column","_law_kind"]:List Str).Nodup from by decide +kernel) rfl (Or.inl rfl)) (aX (bJ (i:=1) (show (["_law_column","_law_kind"]:List Str).Nodup from by decide +kernel) rfl (Or.inl rfl)) eO))),fW,(vv 0)⟩)) (va1 (vv 1))))),?_⟩;have lu:=S.len;dsimp only[rA,tBM];refine wU [none,none] rF ⟨_,rfl,b,rfl,⟨_,B⟩,aKm Same (aPx H) X (λ_=>true) (λi _ y=>∃d,hd[i]?=some d/\y=.str d.1) (λ_ _ h=>h) (λ_ _ _ h=>h) (λi σ=>∃d,hd[i]?=some d/\At2 [none,none] (.str d.1) (.str d.2) σ) (Ps2 [none,none]) ⟨none,none,rfl⟩ (small (by lia)) _ (aH8 λg e=>e.aR B) (uV λg e=>e.aR B) (λi x σ' g Q' u p e W=>?_) (λi x G u J g R e r=>r g (Same.refl _)) (λi x G u J hp g R e r=>?_) λD H6 I s6 fD O l=>?_⟩
 ·obtain⟨d,a,p',rfl,o⟩:=cA S u;exact hg2 (e.aR o) p fun G t v=>W G t ⟨d,a,v⟩
 ·obtain⟨d,a,rfl⟩:=J;exact⟨_,rfl,r _ _ (Same.refl g) ⟨d,a,rfl⟩⟩
 ·rw[pU] at l;obtain⟨l1,U⟩:=oJ l;have ey:I=(hd.map (·.1)).map V.str:=bCC λi=>by
   cases L:I[i]? with
   |some z=>obtain⟨d,a,rfl⟩:=U i z L;rw[v7,v7,a];rfl
   |none=>have:=List.getElem?_eq_none_iff.mp L;exact (bAA (by rw[j6,j6];lia)).symm
  subst ey;refine⟨.inl ⟨rfl,_,SqL.of O⟩,_,rfl,D,hd.map (·.1),n,plc hd n,rfl,rfl,SqL.of O,by rw[j6];exact hl,by rw[v7,t];rfl,λj m hj M=>?_,q H6 s6⟩;rw[v7] at M;obtain⟨c,hc,rfl⟩:=Option.map_eq_some_iff.mp M;exact v j c hj hc
def aVe (i:Nat)(c:(y,NameKind.free)∈scope.names)(hi:X.N[i]?=some y)(d:σ[i]?=some (some u))(e:Vis X.env.scope y):Cap X scope [x,x2,y] σ [none,none,some u]:=
 ⟨rfl,λn q r b a=>by
  match n,b,a with
  |0,_,a=>cases a
  |1,_,a=>cases a
  |2,b,a=>cases b;cases a;exact⟨c,i,hi,d,e⟩
  |n+3,b,_=>cases b⟩
theorem aBh {α β:Type}(p:Nat->Bool):∀(k:Nat) (l:List α) (m:List β),l.length=m.length->(sel p k l).length=(sel p k m).length
 |_,[],[],_=>rfl
 |k,a::l,b::m,h=>by
  have c:=aBh p (k+1) l m (by simpa using h);unfold sel;cases p k with
  |true=>simpa using c
  |false=>simpa using c
theorem bBh (d:cF kd a)(c:cF kd b)(q:Q (.bl (!vlt b a)) H):bA9 a b H Q:=by
 cases d with
 |num=>cases c;exact .inl ⟨_,_,rfl,rfl,q⟩
 |wrd _ _=>cases c;exact .inr ⟨_,_,rfl,rfl,q⟩
inductive aCl (K:bF4)(vs:List V)(H:Hp)(Q:VK)(E_:XK):Prop
 |mk (vc v:V) (kd:Str) (m h0:Int) (cs:List (V × Int)) (_:vs=[vc,v]) (_:lY K H (fM K H) vc ((.non,h0)::cs)) (_:yO kd m h0 cs) (_:cF kd v) (_:∀H',Same H H'->Q (.int (iH v cs 1 0:Nat)) H')
def aH7 (T:Txt w K mg):Ok P w K mg base 1 "_law_span" bQB (aCl K):=by
 refine Ok.ofV T.aJn aHj (by trivial) (λf a0 A L s H vs Q E hr h=>?_)
 obtain⟨vc,v,Y,m,h0,b,rfl,⟨a,us,rfl,ha,hu⟩,J,X,q⟩:=h;have U:∀c∈b,cF Y c.1:=λc j=>(J.each c j).1;have a1:=J.few;refine⟨_,(aD (aJ (aL aY (by rfl) T.eZ cW (va1 (cI (N:=["_law_low","_law_house","_law_value_here"]) (by trivial) (eE (aC pL) rfl (by decide +kernel)) rfl (pO (dD aA0 (vv 0) (dR aA) fC)) (λcl d g fp=>⟨(rK (K:=K) (n:=2) rfl (aX (bJ (i:=0) (show (["_law_low","_law_house","_law_value_here"]:List Str).Nodup from by decide +kernel) rfl (Or.inl rfl)) (aX (bJ (i:=1) (show (["_law_low","_law_house","_law_value_here"]:List Str).Nodup from by decide +kernel) rfl (Or.inl rfl)) eO))),(lZ (cZ aV3 (vv 0) (vv 2))),(vv 0)⟩)))))),?_⟩;obtain⟨G,l,rfl,_,k⟩:∃G l,us=G::l/\fM K H G (.non,h0)/\cG (fM K H) l b:=by
  cases hu with
  |cons r t=>exact⟨_,_,rfl,r,t⟩
 have lt:=k.len;dsimp only[rA,tCB,dH];refine wU [none,none,some v] (aVe 1 (by decide +kernel) rfl rfl (by trivial)) ⟨_,rfl,_,rfl,a,_,rfl,ha,λts H5 V o=>?_⟩;rw[show (1:Int)=((1:Nat):Int) from rfl,rJ,List.drop_one,List.tail_cons] at o;refine⟨ts,rfl,⟨_,o⟩,aKm Same (aPx H5) l (λi=>!vlt v (b.getD i (.non,0)).1) (λ_ _ _=>True) (λ_ _ h=>h) (λ_ _ _ h=>h) (λi σ=>∃c,b[i]?=some c/\At2 [none,none,some v] c.1 (.int c.2) σ) (Ps2 [none,none,some v]) ⟨none,none,rfl⟩ (small (by lia)) _ (aH8 λg d=>d.aR o) (uV λg d=>d.aR o) (λi x σ' g Q' F B d Z=>?_) (λi x M F C g R d u=>?_) (λi x M F C W g R d u=>?_) λD H6 ys s6 fD g6 y=>?_⟩
 ·obtain⟨c,j,p,rfl,W⟩:=cA k F;exact hg2 ((V.trans d).aR W) B fun M h1 h2=>Z M h1 ⟨c,j,h2⟩
 ·obtain⟨c,j,rfl⟩:=C;refine⟨_,rfl,_,rfl,bBh (U c (t8 j)) X ⟨_,rfl,?_⟩⟩;have e:(!vlt v (b.getD i (.non,0)).1)=!vlt v c.1:=by rw[j4,j];rfl
  rw[e] at u;exact u g (Same.refl _)
 ·obtain⟨c,j,rfl⟩:=C;exact⟨_,rfl,u _ g (Same.refl _) trivial⟩
 ·have S:=y.len;rw[aBh _ 0 (List.range l.length) b (by rw[bAH];lia),kY (p':=λc=>!vlt v c.1) λi c e=>by rw[bDN,j4,e];rfl] at S;obtain⟨O,I⟩:=aI0 X U J.up b.length (d8 _);rw[bCW] at O I;rw[zZ (N:=iH v b 1 0) O λi c e=>⟨λz=>by rw[(I i c (List.getElem?_eq_some_iff.mp e).1 e).mp z];rfl,λz=>(I i c (List.getElem?_eq_some_iff.mp e).1 e).mpr (by simpa using z)⟩,bAI] at S;refine⟨D,_,rfl,.inl (SqL.of g6),?_⟩;rw[show ys.length=iH v b 1 0 by lia];exact q H6 (V.trans s6)
def mV (K:bF4)(H:Hp)(M:Addr)(vh vp:V)(R:Addr)(t:Tb)(vm:V):Prop:=H M=some (.lst [vh,vp,.ref R,vm])/\jH K H vh t.hd/\nA K H vp t.pl/\bW K H R t.rows
theorem mV.same (s:Same H H')(h:mV K H M vh vp R t vm):mV K H' M vh vp R t vm:=⟨s _ _ h.1,h.2.1.same s,h.2.2.1.same s,h.2.2.2.same s⟩
inductive xO (K:bF4)(vs:List V)(H:Hp)(Q:VK)(E_:XK):Prop
 |mk (M R:Addr) (vh vp vm:V) (t:Tb) (m house:Int) (n:Str) (h0:Int) (cs:List (V × Int)) (_:vs=[.ref M,.int m,.int house]) (_:mV K H M vh vp R t vm) (_:jC m t) (_:t.pl=.spans n h0 cs) (_:∀L H',H L=none->Same H H'->bW K H' L ((srt t.rows).filter λr=>bZ t.hd m r house t.pl)->Q (.ref L) H')
def aDp (T:Txt w K mg)(pI:Ok P w K mg base 1 "_law_spot" bQD (mG K))(aa:Ok P w K mg base 1 "_law_home" ["_law_value_here","_law_houses"] aZm)(qO:Ok P w K mg base 1 "_law_span" bQB (aCl K)):Ok P w K mg base 2 "_law_stood" n8 (xO K):=by
 refine Ok.ofV T.aHo sW (by trivial) (λf a8 A a7 s H vs Q E hr h=>?_)
 obtain⟨M,R,vh,vp,vm,t,m,a,n,h0,p,rfl,⟨gM,hI,a1,⟨us,gR,o⟩⟩,y,k,q⟩:=h;have d:=a1;rw[k] at d;obtain⟨b,vo,rfl,G,F⟩:=d;obtain⟨cc,L,rfl,a0,B⟩:=id F;have D:=y.pl;rw[k] at D;obtain⟨ad,kd,hk,ab,O⟩:=D;have l8:=y.hd.1.2.2;have lu:=o.len;have a9:=y.few;have nd:=sW.nd;refine⟨_,(aB (jG (vv 0) (aPu rfl (aX (cQ 3) (aX (cQ 4) (aX (cQ 5) (aX (cQ 6) eO)))))) (aB (bM (cZ dN (aO aP (vv 4) aA) bB) (aD (aJ (aL dU (by rfl) T.dY dB (va1 (vv 5))))) aU) (aB (aZ 7 (aV pI (aH (vv 3) (va1 (aO aP (vv 4) aA))))) (aB (bM (cZ dN (aO aP (vv 4) aA) bB) (aD (aJ (aL dU (by rfl) T.dY dB (va1 (cI (N:=["_law_row_here","_law_house","_law_houses","_law_spot_here"]) (by trivial) (eE (aC jK) rfl (by decide +kernel)) rfl (eQ (vv 5)) (λcl c Z fp=>⟨(bJ (i:=0) (show (["_law_row_here","_law_house","_law_houses","_law_spot_here"]:List Str).Nodup from by decide +kernel) rfl (Or.inl rfl)),(lZ (cZ dN (aV aa (aH (aO (bL (K:=K)) (vv 0) (vv 3)) (va1 (vv 2)))) (vv 1))),(vv 0)⟩)))))) aU) (aD (aJ (aL dU (by rfl) T.dY dB (va1 (cI (N:=["_law_row_here","_law_house","_law_placing","_law_spot_here"]) (by trivial) (eE (aC jK) rfl (by decide +kernel)) rfl (eQ (vv 5)) (λcl c Z fp=>⟨(bJ (i:=0) (show (["_law_row_here","_law_house","_law_placing","_law_spot_here"]:List Str).Nodup from by decide +kernel) rfl (Or.inl rfl)),(lZ (cZ dN (aO (bL (K:=K)) (aO (bL (K:=K)) (aO (bL (K:=K)) (vv 2) aA) (aV qO (aH (aO (bL (K:=K)) (vv 2) aA) (va1 (aO (bL (K:=K)) (vv 0) (vv 3)))))) aA) (vv 1))),(vv 0)⟩)))))))))),?_⟩;refine⟨_,rfl,M,_,rfl,SqL.of gM,rfl,_,_,rfl,_,_,rfl,_,_,rfl,_,_,rfl,rfl,?_⟩;refine⟨_,rfl,b,_,0,_,rfl,rfl,G,at0 _ _,rfl,_,rfl,dI (by decide) ?_⟩;refine⟨_,rfl,_,rfl,b,_,1,_,rfl,rfl,G,at1 _ _ _,vh,n,t.hd,kd,rfl,hI,by lia,hk,λH1 x=>?_⟩;refine⟨_,rfl,b,_,0,_,rfl,rfl,x.aR G,at0 _ _,rfl,_,rfl,dI (by decide) ?_⟩;dsimp only[bO,aDy,aB2,rA,tCB,dH,List.set,sY];refine aEm us (λi=>bZ t.hd m (t.rows.getD i []) a t.pl) [none,some (.int a),some (.ref b),some (.int (plc t.hd n:Nat))] (aAx 2 4 7 (by decide +kernel) (by decide +kernel) (by decide +kernel) rfl rfl rfl rfl rfl rfl (by trivial) (by trivial) (by trivial)) (small (by lia)) (λR' r'=>aOh (λZ sm=>SqL.of (sm _ _ (x _ _ gR))) (λR'' a4=>⟨_,rfl,a4⟩) R' r') (λi u ex Z R' l sm rr=>?_) rfl λD7 H7 ac s7 g7=>?_
 ·obtain⟨r,J,ru,rfl,a3⟩:=cA o ex;have X:=y.rows r (t8 J);obtain⟨v,hv,hg,a6⟩:=aJ6 X hk;have eg:t.rows.getD i []=r:=by rw[j4,J];rfl
  rw[eg,k] at rr;have c:=x.trans sm;refine⟨_,rfl,b,_,2,_,rfl,rfl,c.aR G,at2 _ _ _ _,_,rfl,b,_,2,_,rfl,rfl,c.aR G,at2 _ _ _ _,_,rfl,_,rfl,ru,r,_,v,rfl,rfl,c.aR a3,bH hv,.ref cc,v,kd,m,h0,p,rfl,lY.same c (λ_ _ z=>z.same c) F,O,a6,λH2 W=>?_⟩;have hN:=aPq v p;have lc:=B.len;rw[m8] at lc;have C:iH v p 1 0<L.length:=by lia
  obtain⟨c0,a2,pc,S,U⟩:=cA B (b8 C);refine⟨cc,L,_,L[iH v p 1 0],rfl,rfl,(c.trans W).aR a0,bH (b8 C),pc,_,1,_,S,rfl,(c.trans W).aR U,at1 _ _ _,_,rfl,rfl,_,rfl,?_⟩;have e:decide (V.int c0.2=V.int a)=bZ t.hd m r a (.spans n h0 p):=by show _=decide ((((.non,h0)::p).map (·.2)).getD (iH (r.getD (plc t.hd n) .non) p 1 0) 0=a);rw[hg,j4,v7,a2];exact decide_eq_decide.mpr ⟨λz=>V.int.inj z,λz=>congrArg V.int z⟩
  rw[e];exact rr H2 W
 have I:cG (cM K H7) (sel (λi=>bZ t.hd m (t.rows.getD i []) a t.pl) 0 us) (t.rows.filter λr=>bZ t.hd m r a t.pl):=by have eF:(t.rows.filter λr=>bZ t.hd m r a t.pl)=sel (λi=>bZ t.hd m (t.rows.getD i []) a t.pl) 0 t.rows:=(kY λi r J=>by rw[bDN,j4,J];rfl).symm;rw[eF];exact (aCo o 0).imp λ_ _ r=>r.same (x.trans s7)
 have lF:=I.len;have lf:(t.rows.filter λr=>bZ t.hd m r a t.pl).length<=t.rows.length:=bAY _ _;have g:∀r∈t.rows,KdR (knds t.hd) r:=λr j=>fK (y.rows r j);refine⟨D7,_,_,knds t.hd,rfl,SqL.of g7,cP I,by lia,jO y.hd.1,λr j=>g r (List.mem_filter.mp j).1,λL8 H8 a5 Y s8 g8 h8=>?_⟩;rw[nQ g] at h8;exact q L8 H8 (none_of (x.trans s7) Y) (x.trans (s7.trans s8)) ⟨a5,g8,(iC h8).imp λ_ _ z=>z.same s8⟩
section
variable {X:Cx}{A0:Around}
def aXc (b:A0.units+64<cLine)(h:X.K=K:=by rfl)(a:X.A=A0:=by rfl):OpR X (compareOp .LtE) (bDj K):=by subst h a;exact bAc b
def aWd (b:A0.units+64<cLine)(h:X.K=K:=by rfl)(a:X.A=A0:=by rfl):OpR X (compareOp .Gt) (bEa K):=by subst h a;exact aUr b
end
def zG (h:∀r∈rs,KdR ks r):srt (srt rs)=srt rs:=(qU h (jR h).1.symm).symm
inductive yE (K:bF4)(vs:List V)(H:Hp)(Q:VK)(E_:XK):Prop
 |mk (M R:Addr) (vh vp vm:V) (t:Tb) (mq:Mv) (m:Int) (n:Str) (h0:Int) (cs:List (V × Int)) (_:vs=[.ref M]) (_:mV K H M vh vp R t vm) (_:mH K H vm mq) (_:jC m t) (_:t.pl=.spans n h0 cs) (_:∀L H',H L=none->Same H H'->bW K H' L ((srt t.rows).filter (fX t.hd n cs mq.num))->Q (.ref L) H')
def aAj (T:Txt w K mg)(pI:Ok P w K mg base 1 "_law_spot" bQD (mG K))(qO:Ok P w K mg base 1 "_law_span" bQB (aCl K)):Ok P w K mg base 2 "_law_of_span" bQG (yE K):=by
 refine Ok.ofV T.aCn oX (by trivial) (λf a2 A S s H vs Q E hr h=>?_)
 obtain⟨M,R,vh,vp,vm,t,B,m,n,h0,x,rfl,⟨gM,hI,y,c⟩,⟨Z,vk,rfl,C,_⟩,g,k,q⟩:=h;rw[k] at y;obtain⟨b,vo,rfl,hb,I⟩:=y;obtain⟨us,gR,a1⟩:=id c;have p:=g.pl;rw[k] at p;obtain⟨a0,X,hk,a4,D⟩:=p;have l8:=g.hd.1.2.2;have a3:=g.few;have nd:=oX.nd;refine⟨_,(aB (jG (vv 0) (aPu rfl (aX (cQ 1) (aX (cQ 2) (aX (cQ 3) (aX (cQ 4) eO)))))) (aB (aZ 5 (aV pI (aH (vv 1) (va1 (aO aP (vv 2) aA))))) (aD (aJ (aL dU (by rfl) T.dY dB (va1 (cI (N:=["_law_row_here","_law_move","_law_placing","_law_spot_here"]) (by trivial) (eE (aC jW) rfl (by decide +kernel)) rfl (eQ (vv 3)) (λcl o H' fp=>⟨(bJ (i:=0) (show (["_law_row_here","_law_move","_law_placing","_law_spot_here"]:List Str).Nodup from by decide +kernel) rfl (Or.inl rfl)),(lZ (cZ dN (aV qO (aH (aO (bL (K:=K)) (vv 2) aA) (va1 (aO (bL (K:=K)) (vv 0) (vv 3))))) (aO (bL (K:=K)) (vv 1) aA))),(vv 0)⟩)))))))),?_⟩;refine⟨_,rfl,M,_,rfl,SqL.of gM,rfl,_,_,rfl,_,_,rfl,_,_,rfl,_,_,rfl,rfl,?_⟩;refine⟨_,rfl,_,rfl,b,_,1,_,rfl,rfl,hb,at1 _ _ _,vh,n,t.hd,X,rfl,hI,by lia,hk,λH1 j=>?_⟩;dsimp only[bO,aDy,aB2,rA,tCB,dH,List.set,sY];refine iY [none,some (.ref Z),some (.ref b),some (.int (plc t.hd n:Nat))] (aAx 4 2 5 (by decide +kernel) (by decide +kernel) (by decide +kernel) rfl rfl rfl rfl rfl rfl (by trivial) (by trivial) (by trivial)) ?_;refine⟨_,rfl,R,rfl,⟨_,SqL.of (j _ _ gR)⟩,rH (c.same j) (by lia) (fX t.hd n x B.num) rfl (λu r a H' R' l sm J rr=>?_) λD7 H7 a5 s7 U=>?_⟩
 ·obtain⟨ra,rfl,G⟩:=J;obtain⟨v,hv,hg,O⟩:=aJ6 (g.rows r a) hk;have o:=j.trans sm;refine⟨_,rfl,b,_,2,_,rfl,rfl,o.aR hb,at2 _ _ _ _,_,rfl,_,rfl,ra,r,_,v,rfl,rfl,G,bH hv,vo,v,X,m,h0,x,rfl,lY.same o (λ_ _ z=>z.same o) I,D,O,λH2 Y=>?_⟩;refine⟨_,rfl,Z,_,0,_,rfl,rfl,(o.trans Y).aR C,at0 _ _,rfl,_,rfl,?_⟩;have e:decide (V.int (iH v x 1 0:Nat)=V.int B.num)=fX t.hd n x B.num r:=by unfold fX;rw[hg];exact decide_eq_decide.mpr ⟨λz=>by have:=V.int.inj z;lia,λz=>by rw[z]⟩
  rw[e];exact rr H2 Y
 ·obtain⟨u7,g7,W⟩:=U;have l7:=W.len;have lf:=bAY (fX t.hd n x B.num) t.rows;have d:∀r∈t.rows,KdR (knds t.hd) r:=λr a=>fK (g.rows r a);refine⟨D7,u7,_,knds t.hd,rfl,SqL.of g7,cP W,by lia,jO g.hd.1,λr a=>d r (List.mem_filter.mp a).1,λL8 H8 L F s8 g8 h8=>?_⟩;rw[nQ d] at h8;exact q L8 H8 (none_of (j.trans s7) F) (j.trans (s7.trans s8)) ⟨L,g8,(iC h8).imp λ_ _ z=>z.same s8⟩
inductive aBo (K:bF4)(vs:List V)(H:Hp)(Q:VK)(E_:XK):Prop
 |mk (M R:Addr) (vh vp vm:V) (t:Tb) (o:Option Mv) (m house:Int) (n:Str) (h0:Int) (cs:List (V × Int)) (_:vs=[.ref M,.int m,.int house]) (_:mV K H M vh vp R t vm) (_:MvV K H vm o) (_:jC m t) (_:t.pl=.spans n h0 cs) (_:(∀mq,o=some mq->mq.house≠kI mq.num h0 cs)) (_:(∀mq q,o=some mq->mq.mark=some q->gC t.hd q)) (_:∀L H',H L=none->Same H H'->bW K H' L (oN t.hd m house t.pl o n cs (srt t.rows))->Q (.ref L) H')
theorem aA6 (T:Txt w K mg)(nH:Ok P w K mg base 2 "_law_stood" n8 (xO K))(lA:Ok P w K mg base 2 "_law_of_span" bQG (yE K)):Ok P w K mg base 3 "_law_stands" n8 (aBo K):=by
 refine Ok.ofV T.aDk qJ (by trivial) (λf a9 A a7 s H vs Q E hr h=>?_)
 obtain⟨M,R,vh,vp,vm,t,o,m,a,n,h0,x,rfl,hM,c,ok,F,G,D,q⟩:=h;have ab:=ok.few;have hU:=hr.units;have d:∀r∈t.rows,KdR (knds t.hd) r:=λr b=>fK (ok.rows r b);have k:∀r∈srt t.rows,KdR (knds t.hd) r:=λr b=>d r (fB b);have ls:=nY t.rows;have nd:=qJ.nd;refine⟨_,(aB (aZ 3 (aV nH (aH (vv 0) (aH (vv 1) (va1 (vv 2)))))) (aB (aZ 4 (aO bA (vv 0) aA)) (aB (bM (VW.pt (aIa (cZ wJ (vv 4) fU) (aIa (cZ dN (aO aP (vv 4) aA) (vv 2)) (aG7 (cZ wJ (aO (bL (K:=K)) (vv 4) aA) fU))))) (aD (aZ 3 (bF pQ (vv 3) (cI (N:=["_law_row_here","_law_move"]) (by trivial) (eE (aC mD) rfl (by decide +kernel)) rfl (eQ (aV lA (va1 (vv 0)))) (λcl s' H' fp=>⟨(bJ (i:=0) (show (["_law_row_here","_law_move"]:List Str).Nodup from by decide +kernel) rfl (Or.inl rfl)),(lZ (cZ (aXc (K:=K) hU) (vv 0) (aO (bL (K:=K)) (vv 1) aA))),(vv 0)⟩))))) aU) (aD (aJ (aL dU (by rfl) T.dY dB (va1 (vv 3)))))))),?_⟩;refine⟨_,rfl,_,rfl,_,rfl,M,R,vh,vp,vm,t,m,a,n,h0,x,rfl,hM,ok,F,λL H1 hL B hR=>?_⟩;have a0:=hM.same B;refine⟨_,rfl,M,_,3,_,rfl,rfl,SqL.of a0.1,bH (j:=3) rfl,?_⟩;have p:∀Y L2 S,Same H1 Y->bW K Y L2 S->S.length<64->(∀r∈S,KdR (knds t.hd) r)->srt S=oN t.hd m a t.pl o n x (srt t.rows)->aL8 K [.ref L2] Y Q:=λY L2 S I ⟨us,g,W⟩ aa a3 e=>⟨L2,us,S,knds t.hd,rfl,SqL.of g,cP W,by have:=W.len;lia,jO ok.hd.1,a3,λL8 H8 a6 a2 s8 g8 h8=>q L8 H8 (none_of (B.trans I) a2) (B.trans (I.trans s8)) ⟨a6,g8,by rw[<-e];exact (iC h8).imp λ_ _ z=>z.same s8⟩⟩;have f1:=bAY (λr=>bZ t.hd m r a t.pl) (srt t.rows);have v:∀r∈(srt t.rows).filter λr=>bZ t.hd m r a t.pl,KdR (knds t.hd) r:=λr b=>k r (List.mem_filter.mp b).1;cases o with
 |none=>cases (show vm=.non from c);refine⟨_,rfl,rfl,_,rfl,dI rfl (bY ⟨_,rfl,p H1 L _ (Same.refl _) hR (by lia) v ?_⟩)⟩;show srt _=List.filter _ _;rw[nQ k,zG d]
 |some mq=>
  have c:mH K H vm mq:=c;have G:=G mq rfl;have D:=λq=>D mq q rfl;obtain⟨U,vk,rfl,y,O⟩:=id c;refine⟨_,rfl,rfl,_,rfl,iZ (by rw[v9 (λz=>by cases z)];rfl) ?_⟩;refine⟨_,rfl,U,_,1,_,rfl,rfl,B.aR y,at1 _ _ _,_,rfl,rfl,_,rfl,?_⟩;by_cases Z:mq.house=a
  ·refine iZ (m9 (congrArg V.int Z)) ?_;have J:oN t.hd m a t.pl (some mq) n x (srt t.rows)=_:=if_pos Z;refine⟨_,rfl,U,_,2,_,rfl,rfl,B.aR y,at2 _ _ _ _,rfl,_,rfl,?_⟩;cases C:mq.mark with
   |none=>rw[C] at O J;have O:vk=.non:=O;subst O;refine dI rfl ⟨_,rfl,p H1 L _ (Same.refl _) hR (by lia) v ?_⟩;rw[J,show ((srt t.rows).filter λr=>nP none r && fX t.hd n x mq.num r)=[] from List.filter_eq_nil_iff.mpr λr _=>by show ¬ (false && _)=true;simp,bBB]
   |some r0=>
    rw[C] at O J;obtain⟨ka,rfl,a4⟩:=id O;refine iZ (by rw[v9 (λz=>by cases z)];rfl) ?_;refine⟨_,rfl,?_⟩;refine iY [none,some (.ref U)] (jN 4 (by decide +kernel) rfl rfl (by trivial)) ?_;refine⟨_,rfl,M,R,vh,vp,.ref U,t,mq,m,n,h0,x,rfl,a0,c.same B,ok,F,λD2 Y ad I a1=>?_⟩;obtain⟨w2,g2,h2⟩:=id a1;have f2:=bAY (fX t.hd n x mq.num) (srt t.rows);refine⟨D2,rfl,⟨_,SqL.of g2⟩,rH a1 (by lia) (nP (some r0)) rfl (λu r b H' R' l sm a5 rr=>?_) λD3 H3 ac s3 X=>?_⟩
    ·have s':=B.trans (I.trans sm);exact⟨_,rfl,_,rfl,U,_,2,_,rfl,rfl,s'.aR y,at2 _ _ _ _,knds t.hd,r,r0,a5,⟨ka,rfl,s'.aR a4⟩,k r (List.mem_filter.mp b).1,fK (D r0 C),_,rfl,rr H' (Same.refl _)⟩
    ·rw[bEP] at X;obtain⟨u1,g1,h1⟩:=hR.same (I.trans s3);obtain⟨u3,g3,h3⟩:=X;have l1:=h1.len;have l3:=h3.len;have f3:((srt t.rows).filter λr=>bZ t.hd m r a t.pl).length+((srt t.rows).filter λr=>nP (some r0) r && fX t.hd n x mq.num r).length<=(srt t.rows).length:=by rw[F];exact aE7 (nP (some r0)) (srt t.rows) Z G
     refine⟨L,D3,u1,u3,rfl,rfl,g1,g3,small (by lia),λR4 H4 a8 s4 g4=>?_⟩;refine⟨_,rfl,p H4 R4 _ (I.trans (s3.trans s4)) ⟨_,g4,cG.app (h1.imp λ_ _ z=>z.same s4) (h3.imp λ_ _ z=>z.same s4)⟩ (by rw[w6];lia) (λr b=>?_) J.symm⟩;rcases List.mem_append.mp b with z|z
     ·exact v r z
     ·exact k r (List.mem_filter.mp z).1
  ·refine dI (v9 λz=>Z (V.int.inj z)) (bY ⟨_,rfl,p H1 L _ (Same.refl _) hR (by lia) v ?_⟩);have J:oN t.hd m a t.pl (some mq) n x (srt t.rows)=_:=if_neg Z;rw[J,nQ k,zG d]
def aO7 (i j:Nat)(d:(y,NameKind.free)∈scope.names)(g:(z,NameKind.free)∈scope.names)(hi:X.N[i]?=some y)(h:X.N[j]?=some z)(k:σ[i]?=some (some u))(c:σ[j]?=some (some v))(f:Vis X.env.scope y)(e:Vis X.env.scope z):Cap X scope [x,y,z] σ [none,some u,some v]:=
 ⟨rfl,λn q r a b=>by
  match n,a,b with
  |0,_,b=>cases b
  |1,a,b=>cases a;cases b;exact⟨d,i,hi,k,f⟩
  |2,a,b=>cases a;cases b;exact⟨g,j,h,c,e⟩
  |n+3,a,_=>cases a⟩
def aU9 (e:((List.range n).map λi:Nat=>V.int (0+(i:Int)))[i]?=some x):i<n/\x=.int (0+(i:Int)):=by
 have a:i<n:=by have:=(List.getElem?_eq_some_iff.mp e).1;rw[j6,bAH] at this;exact this
 rw[v7,bCP a] at e;exact⟨a,(bAK e).symm⟩
def aKk (b:L2.St)(a:Cap X scope N σ b)(h:ta σ H λvs H1=>∃j:Int,vs=[.int j]/\-(2 ^ 62)<=j/\j<2 ^ 62/\qN (Itr 0 j.toNat) H1 b g tt te Q):jA X scope N (aT7 ta) g tt te σ H Q:=⟨b,a,h⟩
theorem aP9 {K:bF4}{H:Hp}{Pr:List V->Prop}:∀{ys:List V},(∀y∈ys,∃r,cM K H y r/\Pr r)->∃rs,cG (cM K H) ys rs/\∀r∈rs,Pr r
 |[],_=>⟨[],.nil,λr h=>by cases h⟩
 |y::ys,h=>by
  obtain⟨r,b,d⟩:=h y j0;obtain⟨rs,a,e⟩:=aP9 λz c=>h z (j5 _ c);refine⟨r::rs,.cons b a,λx hx=>?_⟩;rcases List.mem_cons.mp hx with rfl|hx
  ·exact d
  ·exact e x hx
theorem aQa:∀{ys:List V},(∀y∈ys,cF k y)->∃ks:List Key,ys=ks.map kV/\∀x∈ks,cF k (kV x)
 |[],_=>⟨[],rfl,λx h=>by cases h⟩
 |y::ys,h=>by
  obtain⟨ks,e,b⟩:=aQa λz hz=>h z (j5 _ hz);have a:=h y j0;obtain⟨x,rfl⟩:∃x,y=kV x:=by
   cases a with
   |num=>exact⟨.inl _,rfl⟩
   |wrd _ _=>exact⟨.inr _,rfl⟩
  refine⟨x::ks,by rw[e];rfl,λz hz=>?_⟩;rcases List.mem_cons.mp hz with rfl|hz
  ·exact a
  ·exact b z hz
def aSa {k:Str}{ks:List Key}(h:∀x∈ks,cF k (kV x)):(∀x∈ks,∃n,x=Sum.inl n)\/∀x∈ks,∃n,x=Sum.inr n:=by
 by_cases d:k = "number"
 ·refine .inl λx a=>?_;cases x with
  |inl n=>exact⟨n,rfl⟩
  |inr n=>
   have:=h _ a;rw[d] at this;generalize b:kV (Sum.inr n)=v at this;generalize c:("number":Str)=k0 at this;cases this with
   |num=>cases b
   |wrd _ _=>exact absurd c (by decide)
 ·refine .inr λx a=>?_;cases x with
  |inr n=>exact⟨n,rfl⟩
  |inl n=>
   have:=h _ a;generalize b:kV (Sum.inl n)=v at this;cases this with
   |num=>exact absurd rfl d
   |wrd _ _=>cases b
def bAg (h:ltK a b):vlt (kV a) (kV b)=true:=by cases a <;> cases b <;> first|exact m9 h|exact absurd h id
def bE3 (J:It)(H:Hp)(σ:L2.St)(g:TG)(tb:TS)(D:Ends):Prop:=∃W:Nat->Nat->L2.St->Hp->Prop,(∃m,W 0 m σ H)/\∀i m σ H,W i m σ H ->
 (J.stop i H/\D.nx σ H)\/(J.go i H/\∃N:L2.St->Hp->Prop,(∀σ' H',N σ' H'->∃m',m'<m/\W (i+1) m' σ' H')/\∀x H',J.yld i H x H'->g x σ H' fun σ2 H2=>tb { D with nx:=N,ct:=N,bk:=D.nx } σ2 H2)
def aXo (h:tl σ H λv H1=>∃a,v=.ref a/\(∃xs,SqL K H1 a xs)/\bE3 (Itl K a) H1 σ g tb D):bCx (aFu K tl) g tb D σ H:=h
inductive aIj (K:bF4)(C Pt:Addr)(vs:List V)(H:Hp)(Q:VK)(E_:XK):Prop
 |mk (a N:Addr) (ns:List Str) (_:vs=[.ref a,.ref N,.int 10]) (_:iD H a) (_:H N=some (.lst (ns.map V.str))) (_:N≠a) (_:vW ns) (_:H Pt=some (.tab qC)) (_:∀(t x M R d dm:Addr) (m:Int) (vh vp:V) (tb:Tb) (e:En) (n:Str) (h0:Int) (cs:List (V × Int)) H',Fx a H H'->SqT K H' t [.ref x,.ref M,.int m]->mV K H' M vh vp R tb .non->bC K H' C x m d dm [e]->H' dm=some (.dK [])->some e.n=ns[0]?->e.t={ tb with rows:=srt tb.rows }->jC m tb->tb.rows.length<=10->tb.pl=.spans n h0 cs->2<=m->m<=4->H M=none->H R=none->H e.L=none->M≠R->e.L≠R->e.L≠M->Q (.ref t) H')
def rP (T:Txt w K mg){C Pt:Addr}(aN:Ok P w K mg base 1 "_law_next" n7 jP)(db:Ok P w K mg base 2 "_law_head" ["_law_state","_law_names_here"] (aLf K))(nZ:Ok P w K mg base 3 "_law_value" bQI aF2)(uC:Ok P w K mg base 4 "_law_row" bQA (aG3 K))(b9:OkC P w K mg base C 11 "Store" o8 (aLc K C Pt)):Ok P w K mg base 13 "_law_spans_begun" bQE (aIj K C Pt):=by
 refine Ok.ofV T.uP fH (by trivial) (λf dk A d2 s H vs Q E hr h=>?_)
 obtain⟨a,N,ns,rfl,hs,hN,nN,hn,ay,q⟩:=h;have hu:=pA hr;have di:=hn.1;have cj:Pt≠a:=λz=>by obtain⟨_,e,_⟩:=hs;rw[z,e] at ay;cases ay
 have nd:=fH.nd;refine⟨_,(aB (aZ 3 (bF dG aA (aV aN (aH (vv 0) (va1 aA))))) (aB (aZ 4 (aV db (aH (vv 0) (va1 (vv 1))))) (aB (jG (aO aP (vv 4) (aV aN (aH (vv 0) (va1 (aL aY (by rfl) T.eZ cW (va1 (vv 4))))))) (uB rfl (aX (cQ 5) (aX (cQ 6) eO)))) (aB (aZ 7 (cX (va1 (cN (aH fU (va1 (aV aN (aH (vv 0) (va1 (vv 3)))))))))) (aB (iT PassesOwn.never rfl (eQ (aL (aG9 rfl) (by rfl) T.dY dB (va1 (cC (aRm rfl) (by rfl) T.aO0 aHf (va1 (cI (N:=["_law_k","_law_state","_law_kind"]) (by trivial) (eE (aC dW) rfl (by decide +kernel)) rfl (gA (by rfl) T.jM (va1 (aV aN (aH (vv 0) (va1 aA))))) (λcl s' n fp=>⟨(bJ (i:=0) (show (["_law_k","_law_state","_law_kind"]:List Str).Nodup from by decide +kernel) rfl (Or.inl rfl)),fW,(aV nZ (aH (vv 1) (va1 (vv 2))))⟩))))))) (cQ 8) (aD (dJ (sX PySem.F.plainAttrs_list PySem.F.slot_list_append PySem.F.type_list_append nU (vv 7) (va1 (cN (aH (vv 8) (va1 (aV aN (aH (vv 0) (va1 (vv 3)))))))))))) (aB (aZ 9 (cN (aH bB (aH (vv 5) (va1 (cC lJ (by rfl) T.gZ eY (va1 (vv 7)))))))) (aB (aOm (i0:=10) fH.nd rfl (by trivial) (N:=["_law_k","_law_state","_law_head_here"]) (by trivial) (eE (aC dW) rfl (by decide +kernel)) rfl (gA (by rfl) T.jM (va1 (aV aN (aH (vv 0) (va1 (bF dG (vv 2) aA)))))) (λcl s' n fp=>⟨(bJ (i:=0) (show (["_law_k","_law_state","_law_head_here"]:List Str).Nodup from by decide +kernel) rfl (Or.inl rfl)),fW,(aV uC (aH (vv 1) (va1 (vv 2))))⟩)) (aB (aZ 11 (aPd (b9.mono (by decide)) hr (by rfl) (aH (vv 3) (va1 (aYc (aVw (aO bA (vv 1) aA) (cN (aH (vv 4) (aH (vv 9) (va1 (vv 10))))) aYp) rfl rfl (by simp) (by decide)))))) (aD (aJ (cN (aH (vv 11) (aH (cX (aH (vv 4) (aH (vv 9) (aH (cC oV (by rfl) T.yQ rE (va1 (vv 10))) (va1 fU))))) (va1 (vv 3))))))))))))))),?_⟩;refine⟨_,rfl,a,3,rfl,hs,by decide,λz3 H1 f1 w0 w1=>⟨_,_,rfl,rfl,?_⟩⟩;obtain⟨m,em⟩:∃m:Int,m=2+z3:=⟨_,rfl⟩;show bO 3 (V.int (2+z3)) _ _ _;rw[<-em];have m2:2<=m:=by lia
 have m4:m<=4:=by lia
 refine⟨_,rfl,_,rfl,a,N,ns,rfl,f1.st,f1.same _ _ nN hN,nN,hn,λvh H2 hd f2 hI a2 _=>?_⟩;obtain⟨b,us,rfl,hb,br⟩:=id hI;have lu:=br.len;have l1:=a2.1.2.1;have l8:=a2.1.2.2;refine⟨_,rfl,_,rfl,_,rfl,b,us,rfl,.inr hb,a,_,rfl,f2.st,⟨by lia,by lia⟩,λz H3 f3 z0 z1=>?_⟩;obtain⟨zi,rfl⟩:∃zi:Nat,z=zi:=⟨z.toNat,by lia⟩;have hz:zi<us.length:=by lia
 obtain⟨c,hc,pc,c0,ck⟩:=cA br (b8 hz);refine⟨b,us,_,.ref pc,rfl,rfl,f3.aR f2.st hb,bH (by rw[b8 hz,c0]),?_⟩;have bm:=t8 hc;have lk:=aUq a2.1.1 bm;obtain⟨co,ba⟩:=a2.2 c bm;refine⟨pc,_,rfl,f3.aR f2.st ck,rfl,_,_,rfl,_,_,rfl,rfl,?_⟩;have cz:=f1.trans (f2.trans f3);refine⟨_,rfl,_,rfl,a,m,rfl,f3.st,⟨by lia,by lia⟩,λh0 H4 f4 d0 c5=>?_⟩;refine⟨by show 2<=sizeLine;decide,λt1 H5 _ s5 g5=>⟨by show 1<=sizeLine;decide,λCc H6 hC s6 g6=>?_⟩⟩;have b5:=cz.trans f4;have ag:=(b5.sm s5).sm s6;have al:Cc≠a:=(b5.sm s5).st.ne hC;have cx:H Cc=none:=b5.free (none_of s5 hC);dsimp only[bO,List.set];refine aXo ?_;dsimp only[tCB,dH];refine aKk [none,some (.ref a),some (.str c.2)] (aO7 0 6 (by decide +kernel) (by decide +kernel) rfl rfl rfl rfl (by trivial) (by trivial)) ?_;refine⟨_,rfl,a,4,rfl,ag.st,by decide,λz H7 f7 dq dn=>?_⟩;refine⟨z,rfl,by lia,by lia,?_⟩;refine aKm (Fx a) (aTz f7.st) ((List.range z.toNat).map λi:Nat=>V.int (0+(i:Int))) (λ_=>true) (λ_ _ y=>cF c.2 y) (λ_ _ h=>h) (λ_ _ _ h=>h) (λi σ=>∃x,σ=[some x,some (.ref a),some (.str c.2)]) (fun σ=>∃l,σ=[l,some (.ref a),some (.str c.2)]) ⟨none,rfl⟩ (small (by rw[j6,bAH];lia)) (Itr 0 z.toNat) (λn i x _ ex=>?_) (λn _=>?_) (λi x σ' n Q' ex ps f' r=>?_) (λi x σ2 ex at2 n R f' r=>r n (Fx.refl f'.st)) (λi x σ2 ex at2 _ n R f' r=>?_) λL H8 ys f8 fL gL a6=>?_
 ·obtain⟨hi,rfl⟩:=aU9 ex;exact⟨hi,λy H2 hy=>hy⟩
 ·show z.toNat<=_;rw[j6,bAH];exact d8 _
 ·obtain⟨l,rfl⟩:=ps;exact r _ ⟨some x,rfl⟩ ⟨x,rfl⟩
 ·obtain⟨x',rfl⟩:=at2;exact⟨_,rfl,_,rfl,a,c.2,rfl,f'.st,ba,λv H2 f2 hv=>r v H2 f2 hv⟩
 rw[pU,j6,bAH] at a6;obtain⟨ly,hy⟩:=oJ a6;have bl:=ag.trans (f7.trans f8);obtain⟨ks,rfl,ch⟩:=aQa (k:=c.2) (ys:=ys) λy hm=>by obtain⟨i,hi⟩:=List.mem_iff_getElem?.mp hm;exact hy i y hi
 rw[j6] at ly;have bb:=(f7.trans f8).same _ _ al g6;refine⟨L,ks,rfl,SqL.of gL,by lia,λD da kl dr a3 gD b3=>?_⟩;have bf:∀x∈kl,cF c.2 (kV x):=λx hx=>ch x ((b3.2.1 x).mp hx);have df:=b3.2.2;refine⟨D,kl,rfl,gD,by lia,b3.1,aSa bf,λB cq af b4 ae gB au pw=>?_⟩;have ds:=au.length_eq;have bj:=(bl.sm a3).sm ae;have bz:=ae _ _ (a3 _ _ bb);have d1:H B=none:=bl.free (none_of a3 b4);have ct:B≠a:=hs.ne d1;have ci:B≠Cc:=λz=>by rw[z,a3 _ _ bb] at b4;cases b4
 have c9:SqT K cq t1 [.non,.int h0]:=ae.aR (a3.aR ((f7.trans f8).aR ag.st (s6.aR (SqT.of g5))));refine⟨B,rfl,⟨_,SqL.of gB⟩,aI8 (xs:=af.map kV) (λi σ n=>Fx a H n/\n B=some (.lst (af.map kV))/\∃O U l,n Cc=some (.lst O)/\cG (fM K n) O ((.non,h0)::U)/\U.map (·.1)=(af.take i).map kV/\(∀x∈U,0<=x.2/\x.2<m)/\jH K n (.ref b) hd/\σ=[some (.ref a),some (.ref N),some (.int 10),some (.int m),some (.ref b),some (.str c.1),some (.str c.2),some (.ref Cc),l,none,none,none]) ⟨bj,gB,_,[],none,bz,.cons ⟨t1,rfl,c9⟩ .nil,rfl,λx hx=>(by cases hx),?_,rfl⟩ (λi σ n _ p=>SqL.of p.2.1) (λi x σ n ex p=>?_) fun σ n p=>?_⟩
 ·have h1:jH K H4 (.ref b) hd:=hI.tk ((f3.trans f4).tk f2.st);have h2:jH K H8 (.ref b) hd:=((h1.same s5).same s6).tk ((f7.trans f8).tk ag.st);exact (h2.same a3).same ae
 ·obtain⟨fx,aw,O,U,l,a4,a8,W,b0,b6,rfl⟩:=p;rw[v7] at ex;obtain⟨ad,bn,rfl⟩:=Option.map_eq_some_iff.mp ex;have cg:=a8.len;have cu:U.length<=4:=by have:=congrArg List.length W;rw[j6,j6,bAI] at this;lia
  rw[m8] at cg;refine⟨_,rfl,.inl ⟨rfl,_,SqL.of a4⟩,_,rfl,_,rfl,_,rfl,a,m,rfl,fx.st,⟨by lia,by lia⟩,λhh cf u cb c8=>?_⟩;refine⟨by show 2<=sizeLine;decide,λt2 aj as J ah=>?_⟩;have a9:=J _ _ (u.same _ _ al a4);have bt:=J _ _ (u.same _ _ ct aw);have ca:t2≠Cc:=λz=>by rw[z,u.same _ _ al a4] at as;cases as
  refine⟨Cc,_,_,rfl,rfl,a9,mL (by lia),?_⟩;have kz:KP K (λb=>b≠Cc) aj (L2.upd aj Cc (.lst (O++[.ref t2]))):=.iW a9 λz=>z rfl;refine⟨((fx.trans u).sm J).upd cx al,by rw[aK ci];exact bt,O++[.ref t2],U++[(kV ad,hh)],some (kV ad),aF,?_,?_,λx hx=>?_,((b6.tk (u.tk fx.st)).same J).tk kz.tk,rfl⟩
  ·rw[<-List.cons_append];exact (a8.imp λ_ _ ⟨p',ep,hp⟩=>⟨p',ep,(J.aR (u.aR fx.st hp)).iW a9⟩).app (.cons ⟨t2,rfl,SqT.of (by rw[aK ca];exact ah)⟩ .nil)
  ·rw[bBF,W,bBP,bn,bBF];rfl
  ·rcases List.mem_append.mp hx with hx|hx
   ·exact b0 x hx
   ·rw[bEM] at hx;subst hx;exact⟨cb,c8⟩
 ·obtain⟨fx,aw,O,U,l,a4,a8,W,b0,b6,rfl⟩:=p;rw[j6,bCW] at W;have cu:U.length=af.length:=by have:=congrArg List.length W;rw[j6,j6] at this;exact this
  refine⟨_,rfl,_,rfl,Cc,O,rfl,SqL.of a4,λt3 cf _ c3 be=>⟨by show 3<=sizeLine;decide,λt4 aj _ J ah=>?_⟩⟩;have Y:=c3.trans J;have S:=fx.sm Y;have ce:nA K aj (.ref t4) (.spans c.1 h0 U):=⟨t4,.ref t3,rfl,SqT.of ah,t3,O,rfl,J.aR (SqT.of be),a8.imp λ_ _ z=>z.same Y⟩;have bu:aX0 hd m (.spans c.1 h0 U):=⟨co,c.2,lk,ba,⟨d0,c5⟩,λx hx=>⟨by have:x.1∈U.map (·.1):=bDC hx;rw[W] at this;obtain⟨ad,c6,c2⟩:=List.mem_map.mp this;rw[<-c2];exact bf ad (au.mem_iff.mp c6),b0 x hx⟩,by rw[W];exact List.pairwise_map.mpr (pw.imp λh=>bAg h),by lia⟩
  have ao:=b6.same Y;clear a8 aw a4 be ah;dsimp only[bO,aDy,aB2,List.set];refine aKk [none,some (.ref a),some (.ref b)] (aO7 0 4 (by decide +kernel) (by decide +kernel) rfl rfl rfl rfl (by trivial) (by trivial)) ?_;refine⟨_,rfl,_,rfl,_,_,rfl,rfl,a,_,rfl,S.st,(by show (0:Int)<10+1/\(10:Int)+1<2 ^ 64;decide),λy dl I y0 y1=>?_⟩;have y1:y<10+1:=y1;refine⟨y,rfl,by lia,by lia,?_⟩;have bw:=ao.tk (I.tk (K:=K) S.st);refine aKm (Fx a) (aTz I.st) ((List.range y.toNat).map λi:Nat=>V.int (0+(i:Int))) (λ_=>true) (λ_ n y=>∃r,cM K n y r/\gC hd r) (λf1 f2 ⟨r,⟨p,e,hp⟩,h⟩=>⟨r,⟨p,e,f2.aR f1.st hp⟩,h⟩) (λ_ _ gD ⟨r,⟨p,e,hp⟩,h⟩=>⟨r,⟨p,e,SqT.iW gD hp⟩,h⟩) (λi σ=>∃x,σ=[some x,some (.ref a),some (.ref b)]) (fun σ=>∃l,σ=[l,some (.ref a),some (.ref b)]) ⟨none,rfl⟩ (small (by rw[j6,bAH];lia)) (Itr 0 y.toNat) (λn i x _ ex=>?_) (λn _=>?_) (λi x σ' n Q' ex ps f' r=>?_) (λi x σ2 ex at2 n R f' r=>r n (Fx.refl f'.st)) (λi x σ2 ex at2 _ n R f' r=>?_) λa0 a7 ys cm bx ap a6=>?_
  ·obtain⟨hi,rfl⟩:=aU9 ex;exact⟨hi,λy H2 hy=>hy⟩
  ·show y.toNat<=_;rw[j6,bAH];exact d8 _
  ·obtain⟨l,rfl⟩:=ps;exact r _ ⟨some x,rfl⟩ ⟨x,rfl⟩
  ·obtain⟨x',rfl⟩:=at2;exact⟨_,rfl,_,rfl,a,.ref b,hd,rfl,f'.st,bw.tk (f'.tk I.st),a2,λt H2 r' f2 g2 hk=>r _ H2 f2 ⟨r',⟨t,rfl,SqT.of g2⟩,hk⟩⟩
  rw[pU,j6,bAH] at a6;obtain⟨d4,bo⟩:=oJ a6;obtain⟨o,ab,cw⟩:=aP9 (ys:=ys) λy hm=>by obtain⟨i,hi⟩:=List.mem_iff_getElem?.mp hm;exact bo i y hi
  have d3:=ab.len;have aa:=I.trans cm;have Z:=S.trans aa;have cd:H a0=none:=S.free (I.free bx);have dd:a0≠a:=hs.ne cd;have ar:=aa.tk (K:=K) S.st;have aq:=ao.tk ar;have a5:=ce.tk ar;have bc:=Z.same _ _ nN hN;obtain⟨n0,ax⟩:∃n0,ns[0]?=some n0:=⟨_,b8 (by lia)⟩;refine⟨_,rfl,λp hp=>?_⟩;have sp:Same a7 (L2.upd a7 p (.dK [])):=aW hp _;have gp:L2.upd a7 p (.dK []) p=some (.dK []):=aF;generalize L2.upd a7 p (.dK [])=H16 at sp gp ⊢;refine⟨_,rfl,N,_,0,.str n0,rfl,rfl,SqL.of (sp _ _ bc),bH (j:=0) (by rw[v7,ax];rfl),_,rfl,_,rfl,_,rfl,by show 3<=sizeLine;decide,λg X d5 an b1=>?_⟩;refine⟨an _ _ gp,[(Sum.inr n0,.ref g)],rfl,by show 1<=15;decide,?_⟩;have em:lU [] [((Sum.inr n0:Key),V.ref g)]=[(Sum.inr n0,.ref g)]:=rfl;rw[em];obtain⟨e0,am⟩:∃e0:En,e0=⟨n0,.ref g,.ref b,.ref t4,a0,⟨hd,.spans c.1 h0 U,o⟩⟩:=⟨_,rfl⟩;have az:=sp.trans an;have bp:jC m ⟨hd,.spans c.1 h0 U,o⟩:=⟨a2,bu,by show o.length<=60;lia,cw⟩;have d6:eU X p:=eU.dK (an _ _ gp);have bh:But p X (L2.upd X p (.dK [(Sum.inr n0,.ref g)])):=But.upd;have bg:L2.upd X p (.dK [(Sum.inr n0,.ref g)]) p=some (.dK [(Sum.inr n0,.ref g)]):=aF;have d:Same a7 (L2.upd X p (.dK [(Sum.inr n0,.ref g)])):=gH hp az;have av:L2.upd X p (.dK [(Sum.inr n0,.ref g)]) g=some (.tup [.ref b,.ref t4,.ref a0]):=bh _ _ (λz=>by rw[z,an _ _ gp] at b1;cases b1) b1;generalize L2.upd X p (.dK [(Sum.inr n0,.ref g)])=H18 at bh bg d av ⊢;have bq:bW K H18 a0 o:=⟨ys,d _ _ ap,ab.imp λ_ _ z=>z.same d⟩;have bv:jZ K H18 p [e0]:=by
   rw[am];refine⟨bg,List.nodup_cons.mpr ⟨(λh=>by cases h),List.nodup_nil⟩,by show 1<=60;decide,λy hy=>?_,λy hy=>?_⟩
   ·rw[List.mem_singleton.mp hy];exact hn.2.1 _ (t8 ax)
   ·rw[List.mem_singleton.mp hy];exact⟨g,rfl,SqT.of av,aq.same d,a5.same d,bq⟩
  have bs:H18 Pt=some (.tab qC):=d _ _ (Z.same _ _ cj ay);intro x dx bd bk dj;refine⟨H18,x,dx,p,m,[e0],rfl,aF,bd,gH bd (aW bk _),by lia,by lia,bv,λy hy=>by rw[List.mem_singleton.mp hy,am];exact bp,bs,λd' dm cy cv dc de ak hS cc a1=>⟨rfl,?_⟩⟩;obtain⟨v',L',rfl,cn⟩:∃v' L',cv=[aBr e0 v' L']/\H18 L'=none:=by
   cases a1 with
   |cons r t=>cases t;obtain⟨v',L',e1,e2⟩:=r;exact⟨v',L',by rw[e1],e2⟩
  refine⟨_,rfl,_,rfl,_,rfl,_,rfl,a0,ys,rfl,.inl (SqL.of (ak _ _ (d _ _ ap))),λR dh hR ai gR=>?_⟩;refine⟨by show 4<=sizeLine;decide,λM dp hM b2 gM=>?_⟩;refine⟨_,rfl,by show 3<=sizeLine;decide,λc4 c1 _ ac cr=>?_⟩;have G:=d.trans (ak.trans (ai.trans (b2.trans ac)));have sb:=ai.trans (b2.trans ac);have fr:∀{b},H18 b=none->H b=none:=λh=>Z.free (none_of d h);have cp:∃us,cy L'=some (.lst us):=by obtain⟨_,_,_,_,_,⟨us,h3,_⟩⟩:=hS.ens.tb _ j0;exact⟨us,h3⟩
  obtain⟨dg,bi⟩:=cp;refine q c4 x M R d' dm m (.ref b) (.ref t4) ⟨hd,.spans c.1 h0 U,o⟩ (aBr e0 v' L') c.1 h0 U c1 (Z.sm G) (SqT.of cr) ⟨ac _ _ gM,aq.same G,a5.same G,ys,ac _ _ (b2 _ _ gR),ab.imp λ_ _ z=>z.same G⟩ (hS.same sb) (sb _ _ cc) (by rw[am];exact ax.symm) (by rw[am];rfl) bp (by show o.length<=10;lia) rfl m2 m4 (fr (none_of (ak.trans ai) hM)) (fr (none_of ak hR)) (fr cn) ?_ ?_ ?_
  ·exact λz=>by rw[z,gR] at hM;cases hM
  ·exact λz=>by have z:L'=R:=z;rw[<-z,bi] at hR;cases hR
  ·exact λz=>by have z:L'=M:=z;rw[<-z,ai _ _ bi] at hM;cases hM
end
end My
namespace PySem
section
variable {prog:Program}{w:World}{κ:Type}[DecidableEq κ]{knd:KeyKind prog w κ}{A:Around}{E:bF5}{s:Shared}
open PySem.Spec PySem.Calls PyProof.Rows L2
end
end PySem
namespace L2
open PySem PySem.Spec PyProof.Rows
section
variable {X:Cx}
end
section
variable {P:Program}{w:World}
open AutoSeq1 (wpAny_loadPart')
open MeetsSeq MeetsSeq2 MeetsSeq3
end
section
variable {X:Cx}{bF8:bF6}{σ:L2.St}{H:Hp}{s:Shared}
end
end L2
namespace PySem
namespace LR
end LR
section
variable {prog:Program}{w:World}{A:Around}{E:bF5}{s:Shared}
open PySem.Calls PyProof.Rows
end
end PySem
namespace L2
open PySem PySem.Spec PyProof.Rows
section
variable {X:Cx}
def aZ2 (K:bF4):R2:=λx y H Q=>∃a b us,x=.ref a/\y=.ref b/\SqL K H a us/\SqL K H b []/\Q (.bl (!us.isEmpty)) H
theorem aCp (hu':X.A.units+64<cLine):OpR X (compareOp .NotEq) (aZ2 X.K):=by
 intro i s σ H x y v u Q I m z h;have f:X.A.units<cLine:=by lia
 obtain⟨a,b,B,rfl,rfl,g,n,q⟩:=h;cases m;cases z;obtain⟨k,w,c,E⟩:=I.list g;obtain⟨o,l,d,D⟩:=I.list n;cases l;cases w with
 |nil=>refine SeqAt.RcNeAt.lists (e:=λ_=>true) c.isList d.isList rfl f (λj p C=>by simp at p) _ _ _ _ ?_;exact⟨.bl _,H,I,rfl,q⟩
 |cons r t=>exact SeqAt.RcNeAt.lists_lengths c.isList d.isList (by simp) f _ _ _ _ ⟨.bl _,H,I,rfl,q⟩
def bDq:V->List V->Hp->VK->Prop:=λx vs H Q=>∃d kvs k v,x=.ref d/\vs=[kV k]/\H d=some (.dK kvs)/\nO kvs k=some v/\Q v (upd H d (.dK (zX kvs k)))
def aXm:MtR X "dict.pop" bDq:=by intro b s σ H x o v l Q I g e h;obtain⟨d,c,k,y,rfl,rfl,hd,f,q⟩:=h;cases g;obtain⟨u,rfl,j⟩:=vals1 e;exact bEl I hd j f (.inl rfl) λm n i a=>⟨y,_,i,a,q⟩
end
end L2
namespace My
open PySem PySem.Spec PyProof.Rows L2
section
variable {P:Program}{w:World}{K:bF4}{mg:bF7}{base:Heap}
def hinit (T:Txt w K mg)(fI:Addr):∀X,X.N=(["self","act"]:List Str)->X.env.scope=aC lX->X.mg=mg->VSs X (cY lX) (aDy (aJp (tVI X.K fI (dH (rR 0) (dH (rR 1) aAq)))) (aUa X.K fI (rR 0) (rR 1))):=by
 intro X c b f;have e:∀{a:Pos},VE X (.Name "self" a) (rR 0):=λ{a}=>vv 0 (by rw[c];rfl) (by left;rw[b];rfl);have d:∀{a:Pos},VE X (.Name "act" a) (rR 1):=λ{a}=>vv 1 (by rw[c];rfl) (by left;rw[b];rfl);have g:Gl X "ValueError":=by show X.env.scope.names.lookup _=_;rw[b];rfl
 exact aB ⟨aP4 (aSu (fI:=fI) g (by rw[f];exact T.aGn) (bCp e.1 (bCp d.1 aS4)))⟩ (aD ⟨bAl e.1 d.1⟩)
inductive aEx (K:bF4)(vs:List V)(H:Hp)(Q:VK)(E_:XK):Prop
 |mk (v vh vp vc:V) (L:Addr) (t:Tb) (n:Str) (h0 k0:Int) (cs ks:List (V × Int)) (_:vs=[v,vc]) (_:lC K H v vh vp L t) (_:t.pl=.spans n h0 cs) (_:lY K H (fM K H) vc ((.non,k0)::ks)) (_:∀v' vp' H',Same H H'->lC K H' v' vh vp' L { t with pl:=.spans n k0 ks }->Q v' H')
def aG5 (T:Txt w K mg):Ok P w K mg base 1 "with_cuts" ["table","cuts"] (aEx K):=by
 refine Ok.ofV T.aLb aGv (by trivial) (λf y A i s H vs Q E S h=>?_)
 obtain⟨v,Z,vp,N,L,t,n,h0,W,V,X,rfl,⟨a,rfl,e,O,j,C⟩,g,R,q⟩:=h;rw[g] at j;obtain⟨b,B,rfl,D,_⟩:=j;refine⟨_,(aD (aJ (cN (aH (aO aP (vv 0) aA) (aH (bF wR (dD aAy (aO aP (vv 0) aA) fC (dR aA)) (cN (va1 (vv 1)))) (va1 (aO aP (vv 0) aA))))))),?_⟩;refine⟨_,rfl,a,_,0,_,rfl,rfl,e,at0 _ _,_,rfl,a,_,1,_,rfl,rfl,e,at1 _ _ _,?_⟩;refine⟨_,rfl,b,_,rfl,D,by show ¬ (HT.sIx 3 0 none=0/\HT.sIx 3 3 (some 2)=3);decide,λp H1 x k=>?_⟩;rw[show mY [.str "spans",.str n,B] none (some 2)=[.str "spans",.str n] from oK _ 2] at k;refine⟨_,rfl,by show 1<=sizeLine;decide,λo Y _ l I=>?_⟩;refine⟨p,o,_,_,rfl,rfl,SqT.of (l _ _ k),SqT.of I,by show 3<=sizeLine;decide,λr U G J=>?_⟩;have d:=x.trans (l.trans G);refine⟨_,rfl,a,_,2,_,rfl,rfl,d.aR e,at2 _ _ _ _,by show 3<=sizeLine;decide,λF M _ m u=>?_⟩;have c:=d.trans m;exact q _ (.ref r) M c ⟨F,rfl,SqT.of u,O.same c,⟨r,N,rfl,m.aR J,R.same c λ_ _ z=>z.same c⟩,C.same c⟩
def bD6 (ho:Int):List (V × Int)->Nat->List (V × Int)
 |[],_=>[]
 |c::cs,0=>(c.1,ho)::cs
 |c::cs,k+1=>c::bD6 ho cs k
abbrev aDr (ho:Int)(k:Nat)(cs:List (V × Int)):List (V × Int):=bD6 ho cs k
def sE:Nat->Int->Int->Int
 |0,ho,_=>ho
 |_+1,_,h0=>h0
def rQ:Nat->Int->List (V × Int)->List (V × Int)
 |0,_,cs=>cs
 |k+1,ho,cs=>aDr ho k cs
def bC5 (num:Nat)(ho h0:Int)(cs:List (V × Int)):aDr ho num ((V.non,h0)::cs)=(V.non,sE num ho h0)::rQ num ho cs:=by cases num <;> rfl
theorem aDg:∀k cs,(aDr ho k cs).map (·.1)=cs.map (·.1)
 |_,[]=>rfl
 |0,_::_=>rfl
 |k+1,c::cs=>by show c.1::(aDr ho k cs).map (·.1)=_;rw[aDg k cs];rfl
theorem aJ2:∀{k:Nat} {cs:List (V × Int)},c∈aDr ho k cs->∃c0∈cs,c.1=c0.1/\(c.2=c0.2\/c.2=ho)
 |_,[],h=>by cases h
 |0,c0::cs,h=>by
  rcases List.mem_cons.mp h with rfl|h
  ·exact⟨c0,j0,rfl,.inr rfl⟩
  ·exact⟨c,j5 _ h,rfl,.inl rfl⟩
 |k+1,c0::cs,h=>by
  rcases List.mem_cons.mp h with rfl|h
  ·exact⟨c,j0,rfl,.inl rfl⟩
  ·obtain⟨b,d,a⟩:=aJ2 h;exact⟨b,j5 _ d,a⟩
theorem aPj (num:Nat)(h:yO kd m h0 cs)(i:0<=ho)(e:ho<m):yO kd m (sE num ho h0) (rQ num ho cs):=by
 cases num with
 |zero=>exact⟨⟨i,e⟩,h.each,h.up,h.few⟩
 |succ k=>
  refine⟨h.first,λc f=>?_,?_,?_⟩
  ·obtain⟨g,a,d,e2⟩:=aJ2 (k:=k) f;obtain⟨b,l,j⟩:=h.each g a;rw[d];rcases e2 with e2|e2 <;> rw[e2]
   ·exact⟨b,l,j⟩
   ·exact⟨b,i,e⟩
  ·show ((aDr ho k cs).map (·.1)).Pairwise _;rw[aDg];exact h.up
  ·have:=congrArg List.length (aDg (ho:=ho) k cs);rw[j6,j6] at this;show (aDr ho k cs).length<=7;rw[this];exact h.few
theorem aQ6 {R:V->V × Int->Prop}{ho:Int}{u:V}{us:List V}{cs:List (V × Int)}(h:cG R us cs):∀{k:Nat},(∀c,cs[k]?=some c->R u (c.1,ho))->cG R (us.set k u) (aDr ho k cs):=by
 induction h with
 |nil=>intro k _;exact .nil
 |cons r h ih=>
  intro k a;cases k with
  |zero=>exact .cons (a _ rfl) h
  |succ k=>exact .cons r (ih λc b=>a c b)
inductive aEz (K:bF4)(C CN:Addr)(vs:List V)(H:Hp)(Q:VK)(E:XK):Prop
 |mk (x d dm:Addr) (m:Int) (e:En) (mq:Mv) (n:Str) (h0:Int) (cs:List (V × Int)) (_:vs=[.ref x,.str e.n]) (_:bC K H C x m d dm [e]) (_:e.t.pl=.spans n h0 cs) (_:MvD K H dm e.n (some mq)) (_:(∀q,mq.mark=some q->gC e.t.hd q)) (_:mq.num<=cs.length) (_:0<=mq.house) (_:mq.house<m) (_:(fZ e.t n cs mq.num mq.mark=[]->∀v vp H',KP K (λb=>b≠d/\b≠dm) H H'->bC K H' C x m d dm [{ e with v:=v,vp:=vp,t:={ e.t with pl:=.spans n (sE mq.num mq.house h0) (rQ mq.num mq.house cs) } }]->MvD K H' dm e.n none->Q .non H')) (_:(fZ e.t n cs mq.num mq.mark≠[]->∀a H',Same H H'->E (.ref CN) (some a) H'))
def aNv (T:Txt w K mg){C CN S:Addr}(M:ExT K mg lX "NotYet" "ShardError.__init__" CN S)(c:Cls K C)(D:dZ K C "settle" "Store.settle" jU ["self","name"])(n1:bK K C "placed")(n3:bK K C "moves")(j:OkM P w K mg base C 4 "cut_table" n6 (aAz K C))(o:OkM P w K mg base C 1 "move_of" n6 (zF K C))(i:OkM P w K mg base C 4 "rows_to_come" n6 (aMq K C))(ay:Ok P w K mg base 1 "with_cuts" ["table","cuts"] (aEx K)):aGw P w K mg base C 6 "settle" n6 (aEz K C CN):=by
 refine aGw.ofV c D pF (by trivial) (λf aw A aq s H vs Q E hr h=>?_)
 obtain⟨x,d,V,m,e,mq,n,N,u,rfl,r,q,am,ac,y,b0,b1,qT,qF⟩:=h;have hu:=pA hr;have hinit:=λ{fI:Addr}=>hinit T fI;have nd:=pF.nd;refine⟨_,(aB (aZ 2 (iB j (vv 0) (va1 (vv 1)))) (aB (aZ 3 (iB o (vv 0) (va1 (vv 1)))) (aB (bM (aK4 (iB i (vv 0) (va1 (vv 1)))) (aD (aVz M (λfI fd F=>aWs (k:=0) F aYj hinit) (hr.mono (by decide)) aQz rfl (by rfl) (va1 fU))) aU) (aB (aZ 4 (aO aP (vv 3) aA)) (aB (aZ 5 (cC oV (by rfl) T.yQ rE (va1 (aO aP (aO aP (vv 2) aA) aA)))) (aB (jG (cN (aH (aO aP (aO bA (vv 5) (vv 4)) aA) (va1 (aO aP (vv 3) aA)))) (xP (vv 5) (vv 4) set_list)) (aB (vM hu (cT (K:=K) (vv 0)) (vv 1) (aV ay (aH (vv 2) (va1 (cC lJ (by rfl) T.gZ eY (va1 (vv 5))))))) (aD (dJ (sX PySem.F.plainAttrs_dict PySem.F.slot_dict_pop PySem.F.type_dict_pop aXm (cT (K:=K) (vv 0)) (va1 (vv 1)))))))))))),?_⟩;obtain⟨dx,hx⟩:=r.at_;have he:e∈[e]:=j0;have ok:=r.ok e he;have a2:=ok.pl;rw[q] at a2;obtain⟨ar,k',aj,ak,al⟩:=a2;refine⟨_,rfl,x,dx,_,rfl,hx,rfl,_,rfl,x,d,V,m,_,e,n,N,u,rfl,r,he,q,λH1 X=>?_⟩;have ab:=am.same X;obtain⟨v,hv,gm⟩:=id ab;have gm:H1 V=some (.dK [(Sum.inr e.n,v)]):=gm;have hv:mH K H1 v mq:=hv;refine⟨_,rfl,x,dx,_,rfl,X _ _ hx,rfl,_,rfl,x,d,V,m,_,e.n,v,rfl,r.same X,gm,?_⟩;refine⟨_,rfl,x,dx,_,rfl,X _ _ hx,rfl,_,rfl,x,d,V,m,_,e,mq,n,N,u,rfl,r.same X,he,ab,q,ac,λW2 H2 av s2 ap=>?_⟩;obtain⟨aa,g2,G⟩:=ap;have O:=X.trans s2;by_cases hW:fZ e.t n u mq.num mq.mark=[]
 ·have e2:aa=[]:=bAZ (G.len.trans (congrArg List.length hW));subst e2;refine⟨_,.inl ⟨_,SqL.of g2,rfl⟩,dI rfl ?_⟩;obtain⟨num,g,as⟩:=mq;obtain⟨a0,vm,rfl,a9,hm⟩:=hv;obtain⟨a,ev,ha,h1,h2,h3⟩:=(r.ens.tb e he).same O;rw[q] at h2;obtain⟨b,vo,eb,hb,⟨cc,B,rfl,ag,R⟩⟩:=h2;have lu:=R.len;rw[m8] at lu;have y:num<=u.length:=y;have a1:num<B.length:=by lia
  obtain⟨c0,an,pc,ad,ae⟩:=cA R (b8 a1);refine⟨_,rfl,a0,_,0,_,rfl,rfl,s2.aR a9,at0 _ _,?_⟩;refine⟨_,rfl,a,_,1,_,ev,rfl,ha,at1 _ _ _,b,_,2,_,eb,rfl,hb,at2 _ _ _ _,cc,_,rfl,.inr ag,λl H3 hl s3 g3=>?_⟩;refine⟨_,rfl,_,rfl,l,_,_,B[num],rfl,rfl,SqL.of g3,bH (b8 a1),pc,_,0,_,ad,rfl,s3.aR ae,at0 _ _,_,rfl,a0,_,1,_,rfl,rfl,(s2.trans s3).aR a9,at1 _ _ _,by show 2<=sizeLine;decide,λW H4 _ s4 g4=>?_⟩;have a7:=s4 _ _ g3;refine⟨_,rfl,_,rfl,l,_,_,num,rfl,rfl,a7,by show ixN B.length (num:Int)=some num;unfold ixN;rw[if_pos (by lia),if_pos (by lia)];rfl,?_⟩;have a6:Same H2 (_root_.L2.upd H4 l (.lst (B.set num (.ref W)))):=gH hl (s3.trans s4);have g5:_root_.L2.upd H4 l (.lst (B.set num (.ref W))) l=some (.lst (B.set num (.ref W))):=aF;have Z:SqT K (_root_.L2.upd H4 l (.lst (B.set num (.ref W)))) W [c0.1,.int g]:=SqT.iW a7 (SqT.of g4);generalize _root_.L2.upd H4 l (.lst (B.set num (.ref W)))=H5 at a6 g5 Z ⊢;refine⟨_,rfl,_,rfl,l,_,rfl,SqL.of g5,λp6 H6 _ s6 g6=>?_⟩;have I:=a6.trans s6;have a3:=O.trans I;have a5:lY K H6 (fM K H6) (.ref p6) ((.non,sE num g N)::rQ num g u):=⟨p6,_,rfl,SqT.of g6,by rw[<-bC5];refine aQ6 (R.imp λ_ _ z=>z.same I) λc1 a4=>?_;rw[an] at a4;cases a4;exact⟨W,rfl,s6.aR Z⟩⟩
  refine⟨e.v,e.vh,e.vp,.ref p6,e.L,e.t,n,N,sE num g N,u,rQ num g u,rfl,(r.ens.tb e he).same a3,q,a5,λv' a8 H7 s7 hT=>?_⟩;have J:=a3.trans s7;have U:=r.same J;have ah:jC m { e.t with pl:=.spans n (sE num g N) (rQ num g u) }:=⟨ok.hd,⟨ar,k',aj,ak,aPj num al b0 b1⟩,ok.few,ok.rows⟩;obtain⟨e',Y⟩:∃e':En,e'={ e with v:=v',vp:=a8,t:={ e.t with pl:=.spans n (sE num g N) (rQ num g u) } }:=⟨_,rfl⟩;obtain⟨k1,k2⟩:=bC.put (l1:=[]) (l2:=[]) (e':=e') U (by rw[Y]) (by rw[Y];exact hT) (by rw[Y];exact ah);have au:=U.ens.few;refine⟨_,rfl,x,C,dx,_,_,rfl,J _ _ hx,c,n1,rfl,_,rfl,d,_,rfl,aHb.k (k:=Sum.inr e.n) U.ens.at_ (by rw[vK];exact kJ (by lia)),?_⟩;have ek:putK (enK [e]) (Sum.inr e.n) v'=enK [e']:=by have:=aGs (l1:=[]) (l2:=[]) (e':=e') r.ens.nd (by rw[Y]);rw[Y] at this ⊢;exact this
  rw[ek];have ao:=s2.trans (I.trans s7);have p:=k1.st _ _ (Ne.symm r.ne) (ao _ _ gm);have k1:KP K (λb=>b≠d) H7 (_root_.L2.upd H7 d (.dK (enK [e']))):=k1;have k2:bC K (_root_.L2.upd H7 d (.dK (enK [e']))) C x m d V [e']:=k2;have p:_root_.L2.upd H7 d (.dK (enK [e'])) V=some (.dK [(Sum.inr e.n,.ref a0)]):=p;generalize _root_.L2.upd H7 d (.dK (enK [e']))=H8 at k1 k2 p ⊢;obtain⟨af,ai⟩:=k2.at_;obtain⟨k3,k4⟩:=k2.mv (kvs':=zX [(Sum.inr e.n,.ref a0)] (Sum.inr e.n)) p;refine⟨_,rfl,x,C,af,_,_,rfl,ai,c,n3,rfl,.inr (.inr (.inl ⟨rfl,.inl ⟨_,p⟩⟩)),_,rfl,V,_,Sum.inr e.n,_,rfl,rfl,p,mK rfl,?_⟩;rw[Y] at k4;exact qT hW v' a8 _ (((KP.same J).trans (k1.mono λb z=>z.1)).trans (k3.mono λb z=>z.2)) k4 ⟨.non,rfl,by rw[aF];show some (HO.dK (zX _ _))=_;simp[zX]⟩
 ·refine⟨_,.inl ⟨_,SqL.of g2,rfl⟩,iZ ?_ ⟨rfl,λa ax n1 n2 ne=>qF hW a _ (O.trans (aW n2 _))⟩⟩;cases aa with
  |nil=>exact absurd (bAZ G.len.symm) hW
  |cons _ _=>rfl
def aJo (h:cF kd v):jB v=true:=by cases h <;> rfl
theorem aR0 (e:∀c∈cs,jB c.1=true)(h:cG (fM K H) us cs)(h':cG (fM K H) ws cs):Al2 (DEq K H 39) us ws:=by
 induction h generalizing ws with
 |nil=>cases h';exact .nil
 |cons r _ ih=>
  cases h' with
  |cons r' t'=>obtain⟨p,rfl,f⟩:=r;obtain⟨b,rfl,a⟩:=r';exact .cons (.inr ⟨p,b,_,_,rfl,rfl,f,a,.cons (.inl ⟨e _ j0,rfl⟩) (.cons (.inl ⟨rfl,rfl⟩) .nil)⟩) (ih (λc d=>e c (j5 _ d)) t')
def aYf (h:nA K H v (.spans n h0 cs))(h':nA K H v' (.spans n h0 cs))(p:yO kd m h0 cs):∃a b xs ys,v=.ref a/\v'=.ref b/\SqT K H a xs/\SqT K H b ys/\Al2 (DEq K H 40) xs ys:=by
 obtain⟨a,q,rfl,g,⟨c,f,rfl,k,l⟩⟩:=h;obtain⟨b,r,rfl,o,⟨i,e,rfl,d,j⟩⟩:=h';refine⟨a,b,_,_,rfl,rfl,g,o,.cons (.inl ⟨rfl,rfl⟩) (.cons (.inl ⟨rfl,rfl⟩) (.cons (.inr ⟨c,i,f,e,rfl,rfl,k,d,aR0 (λx hx=>?_) l j⟩) .nil))⟩;rcases List.mem_cons.mp hx with rfl|hx
 ·rfl
 ·exact aJo (p.each x hx).1
def aO1 (h:iD H a)(k:∀o,H a=some o->H' a=some o):iD H' a:=by obtain⟨s,e,r⟩:=h;exact⟨s,k _ e,r⟩
theorem bCn {H:Hp}{hd:Hdr}{v v':V}{o:Mv}(h:mH K H v o)(h':mH K H v' o)(n:∀q,o.mark=some q->gC hd q):∃a b xs ys,v=.ref a/\v'=.ref b/\SqT K H a xs/\SqT K H b ys/\Al2 (DEq K H 40) xs ys:=by
 obtain⟨a,u,rfl,g,d⟩:=h;obtain⟨b,m,rfl,l,c⟩:=h';refine⟨a,b,_,_,rfl,rfl,g,l,.cons (.inl ⟨rfl,rfl⟩) (.cons (.inl ⟨rfl,rfl⟩) (.cons ?_ .nil))⟩;cases f:o.mark with
 |none=>rw[f] at d c;cases d;cases c;exact .inl ⟨rfl,rfl⟩
 |some r=>rw[f] at d c;obtain⟨p,rfl,j⟩:=d;obtain⟨i,rfl,e⟩:=c;exact .inr ⟨p,i,r,r,rfl,rfl,j,e,aHn (λx k=>aSo (fK (n r f)) x k) 39⟩
theorem MvV.tk (k:∀p xs,SqT K H p xs->SqT K H' p xs)(h:MvV K H v o):MvV K H' v o:=by
 cases o with
 |none=>exact h
 |some q=>exact mH.tk k h
def MvV.same (s:Same H H')(h:MvV K H v o):MvV K H' v o:=h.tk λ_ _=>s.aR
structure Sy (K:bF4)(H:Hp)(C x:Addr)(m:Int)(d dm M R:Addr)(e:En)(vh vp vm:V)(t:Tb)(n:Str)(h0:Int)(cs:List (V × Int))(o:Option Mv):Prop where
 st:bC K H C x m d dm [e]
 md:mV K H M vh vp R t vm
 mv:MvD K H dm e.n o
 vm:MvV K H vm o
 et:e.t={ t with rows:=srt t.rows }
 ok:jC m t
 pl:t.pl=.spans n h0 cs
 mk_:∀mq q,o=some mq->mq.mark=some q->gC t.hd q
 hn:∀mq,o=some mq->mq.house≠kI mq.num h0 cs/\mq.num<=cs.length/\0<=mq.house/\mq.house<m
 m2:2<=m
 m4:m<=4
 n1:M≠R
 n2:e.L≠R
 n3:e.L≠M
theorem Sy.same {H H':Hp}{C x d dm M R:Addr}{m:Int}{e:En}{vh vp vm:V}{t:Tb}{n:Str}{h0:Int}{cs:List (V × Int)}{o:Option Mv}(s:Same H H')(h:Sy K H C x m d dm M R e vh vp vm t n h0 cs o):Sy K H' C x m d dm M R e vh vp vm t n h0 cs o:=
 ⟨h.st.same s,h.md.same s,h.mv.same s,h.vm.same s,h.et,h.ok,h.pl,h.mk_,h.hn,h.m2,h.m4,h.n1,h.n2,h.n3⟩
theorem MvD.kp {S:Addr->Prop}{H H':Hp}{dm:Addr}{nm:Str}{o:Option Mv}(k:KP K S H H')(c:S dm)(h:MvD K H dm nm o):MvD K H' dm nm o:=by
 obtain⟨v,a,b⟩:=h;refine⟨v,?_,k.st _ _ c b⟩;cases o with
 |none=>exact a
 |some q=>exact mH.tk k.tk a
theorem mV.kp (k:KP K S H H')(a:S M)(b:S R)(h:mV K H M vh vp R t vm):mV K H' M vh vp R t vm:=⟨k.st _ _ a h.1,h.2.1.tk k.tk,h.2.2.1.tk k.tk,h.2.2.2.kp k b⟩
theorem Sy.kp {S:Addr->Prop}{H H':Hp}{C x d dm M R:Addr}{m:Int}{e:En}{vh vp vm:V}{t:Tb}{n:Str}{h0:Int}{cs:List (V × Int)}{o:Option Mv}(k:KP K S H H')(j:S x)(f:S d)(b:S dm)(g:S M)(i:S R)(c:S e.L)(h:Sy K H C x m d dm M R e vh vp vm t n h0 cs o):Sy K H' C x m d dm M R e vh vp vm t n h0 cs o:=
 ⟨h.st.kp k j f λy a=>by rw[List.mem_singleton.mp a];exact c,h.md.kp k g i,h.mv.kp k b,h.vm.tk k.tk,h.et,h.ok,h.pl,h.mk_,h.hn,h.m2,h.m4,h.n1,h.n2,h.n3⟩
theorem Sy.fx {H H':Hp}{a C x d dm M R:Addr}{m:Int}{e:En}{vh vp vm:V}{t:Tb}{n:Str}{h0:Int}{cs:List (V × Int)}{o:Option Mv}(f:Fx a H H')(j:iD H a)(p:M≠a)(k:R≠a)(r:e.L≠a)(h:Sy K H C x m d dm M R e vh vp vm t n h0 cs o):Sy K H' C x m d dm M R e vh vp vm t n h0 cs o:=by
 obtain⟨l,c,_⟩:=id j;obtain⟨q,i⟩:=h.st.at_;obtain⟨_,_,g⟩:=id h.mv;refine h.kp (S:=λb=>b≠a) (KP.fx f j λz=>z rfl) (λz=>?_) (λz=>?_) (λz=>?_) p k r
 ·rw[z,c] at i;cases i
 ·have:=h.st.ens.at_;rw[z,c] at this;cases this
 ·rw[z,c] at g;cases g
inductive aP6 (K:bF4)(vs:List V)(H:Hp)(Q:VK)(E_:XK):Prop
 |mk (st M R:Addr) (m:Int) (vh vp vm:V) (t:Tb) (n:Str) (h0:Int) (cs:List (V × Int)) (_:vs=[.ref st,.ref M,.int m]) (_:iD H st) (_:mV K H M vh vp R t vm) (_:jC m t) (_:t.pl=.spans n h0 cs) (_:2<=m) (_:m<=4) (_:M≠st) (_:∀p num ho H',Fx st H H'->H' p=some (.tup [.int (num:Nat),.int ho,.non])->num<=cs.length->0<=ho->ho<m->ho≠kI num h0 cs->Q (.ref p) H')
def aGr (T:Txt w K mg)(aN:Ok P w K mg base 1 "_law_next" n7 jP):Ok P w K mg base 2 "_law_lent" ["_law_state","_law_table","_law_houses"] (aP6 K):=by
 refine Ok.ofV T.aKc vR (by trivial) (λf a0 A F s H vs Q E hr h=>?_)
 obtain⟨J,M,R,m,vh,vp,vm,t,n,h0,cs,rfl,N,U,ok,y,m2,m4,nM,q⟩:=h;have nd:=vR.nd;refine⟨_,(aB (aZ 3 (aV aN (aH (vv 0) (va1 (aL aY (by rfl) T.eZ cW (va1 (aO aP (aO bA (vv 1) aA) aA))))))) (aB (aZ 4 (bF jX (bF dG (bF dG (aO aP (aO aP (aO aP (aO bA (vv 1) aA) aA) (vv 3)) aA) aA) (aV aN (aH (vv 0) (va1 (bF aCs (vv 2) aA))))) (vv 2))) (aD (aJ (cN (aH (vv 3) (aH (vv 4) (va1 fU)))))))),?_⟩;obtain⟨G,hI,k,I⟩:=id U;have g:=ok.pl;rw[y] at k g;obtain⟨b,vo,rfl,L,⟨O,o,rfl,j,i⟩⟩:=id k;obtain⟨_,kd,_,_,a⟩:=g;have Y:=i.len;rw[m8] at Y;have lf:=a.few;refine⟨_,rfl,_,rfl,M,_,1,_,rfl,rfl,SqL.of G,at1 _ _ _,b,_,2,_,rfl,rfl,L,at2 _ _ _ _,O,o,rfl,.inr j,J,_,rfl,N,⟨by lia,by lia⟩,λz H1 u z0 z1=>?_⟩;obtain⟨num,rfl⟩:∃num:Nat,z=num:=⟨z.toNat,by lia⟩;have e:num<o.length:=by lia
 obtain⟨d,l,pc,x,B⟩:=cA i (b8 e);have S:kI num h0 cs=d.2:=by unfold kI;rw[j4,v7,l];rfl
 have cb:0<=d.2/\d.2<m:=by
  rcases List.mem_cons.mp (t8 l) with e1|e1
  ·rw[e1];exact a.first
  ·exact (a.each d e1).2
 have D:=u.same _ _ nM G;have c:=u.tk (K:=K) N;refine⟨_,rfl,M,_,1,_,rfl,rfl,SqL.of D,at1 _ _ _,b,_,2,_,rfl,rfl,c _ _ L,at2 _ _ _ _,_,rfl,O,o,_,o[num],rfl,rfl,c _ _ j,bH (b8 e),pc,_,1,_,x,rfl,c _ _ B,at1 _ _ _,?_⟩;refine⟨_,_,rfl,rfl,_,rfl,_,rfl,_,_,rfl,rfl,J,m - 1,rfl,u.st,⟨by lia,by lia⟩,λz H2 f2 Z v=>⟨_,_,rfl,rfl,_,rfl,_,_,rfl,rfl,by lia,?_⟩⟩;obtain⟨p,r⟩:∃p:Int,p=(d.2+1+z) % m:=⟨_,rfl⟩;show bO 4 (V.int ((d.2+1+z) % m)) _ _ _;rw[<-r];have C:p≠d.2:=by rcases (show m=2\/m=3\/m=4 by lia) with e1|e1|e1 <;> rw[e1] at r cb v <;> lia
 refine⟨_,rfl,_,rfl,by show 3<=sizeLine;decide,λW H3 _ s3 X=>?_⟩;exact q W num p H3 ((u.trans f2).sm s3) X (by lia) (by rw[r];exact bFO _ (by lia)) (by rw[r];exact bEO _ (by lia)) (by rw[S];exact C)
inductive yP (K:bF4)(vs:List V)(H:Hp)(Q:VK)(E_:XK):Prop
 |mk (M R:Addr) (vh vp vm:V) (t:Tb) (mq:Mv) (m:Int) (n:Str) (h0:Int) (cs:List (V × Int)) (_:vs=[.ref M]) (_:mV K H M vh vp R t vm) (_:mH K H vm mq) (_:jC m t) (_:t.pl=.spans n h0 cs) (_:(∀q,mq.mark=some q->gC t.hd q)) (_:∀L H',H L=none->Same H H'->bW K H' L (fZ { t with rows:=srt t.rows } n cs mq.num mq.mark)->Q (.ref L) H')
theorem aD9 (T:Txt w K mg)(lA:Ok P w K mg base 2 "_law_of_span" bQG (yE K)):Ok P w K mg base 3 "_law_above" bQG (yP K):=by
 refine Ok.ofV T.aGl sS (by trivial) (λf a0 A L s H vs Q E Z h=>?_)
 obtain⟨M,R,vh,vp,vm,t,k,m,n,h0,U,rfl,S,d,G,y,x,q⟩:=h;have W:=Z.units;have nd:=sS.nd;refine⟨_,(aB (jG (aO bA (vv 0) aA) (uB rfl (aX (cQ 1) (aX (cQ 2) (aX (cQ 3) eO))))) (aD (aJ (cI (N:=["_law_row_here","_law_mark"]) (by trivial) (eE (aC nF) rfl (by decide +kernel)) rfl (eQ (aV lA (va1 (vv 0)))) (λcl s' C fp=>⟨(bJ (i:=0) (show (["_law_row_here","_law_mark"]:List Str).Nodup from by decide +kernel) rfl (Or.inl rfl)),(lZ (VW.pt (fJ (cZ aF0 (vv 1) fU) (eG (cZ (aWd (K:=K) W) (vv 0) (vv 1)))))),(vv 0)⟩))))),?_⟩;obtain⟨O,X,rfl,o,v⟩:=id d;have a2:=G.few;have ls:=nY t.rows;refine⟨_,rfl,M,_,3,_,rfl,rfl,SqL.of S.1,bH rfl,O,_,rfl,o,rfl,_,_,rfl,_,_,rfl,_,_,rfl,rfl,?_⟩;dsimp only[bO,rA,List.set];refine iY [none,some X] (jN 3 (by decide +kernel) rfl rfl (by trivial)) ?_;refine⟨_,rfl,M,R,vh,vp,.ref O,t,k,m,n,h0,U,rfl,S,d,G,y,λD1 a3 V b e=>?_⟩;obtain⟨w1,B,a1⟩:=id e;have f1:=bAY (fX t.hd n U k.num) (srt t.rows);refine⟨D1,rfl,⟨_,SqL.of B⟩,rH e (by lia) (xW k.mark) rfl (λu r p C R' l sm I j=>?_) λD2 F J D g=>q D2 F (none_of b J) (b.trans D) (by rw[bEP] at g;exact g)⟩;have c:=v.same (b.trans sm);cases a:k.mark with
 |none=>rw[a] at c j;have c:=c;subst c;exact⟨_,rfl,rfl,_,rfl,iZ (m9 rfl) (j C (Same.refl _))⟩
 |some q0=>rw[a] at c j;obtain⟨ka,rfl,Y⟩:=id c;exact⟨_,rfl,rfl,_,rfl,dI (v9 λz=>by cases z) ⟨_,rfl,_,rfl,knds t.hd,r,q0,I,c,fK (G.rows r (fB (List.mem_filter.mp p).1)),fK (x q0 a),_,rfl,j C (Same.refl _)⟩⟩
theorem bAb {H:Hp}{hd:Hdr}{v k:V}{o:Option Mv}{Q:VK}(h:MvV K H v o)(h':MvV K H k o)(l:∀mq q,o=some mq->mq.mark=some q->gC hd q)(q:Q (.bl false) H):bDm K false v k H Q\/rNe v k H Q:=by
 cases o with
 |none=>cases (show v=.non from h);cases (show k=.non from h');exact .inr ⟨rfl,q⟩
 |some mq=>obtain⟨a,b,g,j,d,f,e,i,c⟩:=bCn h h' λq=>l mq q rfl;exact .inl ⟨a,b,g,j,d,f,e,i,c,q⟩
inductive aJ5 (K:bF4)(C Pt:Addr)(vs:List V)(H:Hp)(Q:VK)(E_:XK):Prop
 |mk (x d dm M R:Addr) (m:Int) (e:En) (vh vp vm:V) (t:Tb) (n:Str) (h0:Int) (cs:List (V × Int)) (o:Option Mv) (_:vs=[.ref x,.str e.n,.ref M,.int m]) (_:Sy K H C x m d dm M R e vh vp vm t n h0 cs o) (_:H Pt=some (.tab qC)) (_:∀H',Same H H'->Q (.bl true) H')
def aDu (T:Txt w K mg)(nH:Ok P w K mg base 2 "_law_stood" n8 (xO K))(b3:Ok P w K mg base 3 "_law_stands" n8 (aBo K))(k:OkM P w K mg base C 4 "moving" n6 (yJ K C))(B:OkM P w K mg base C 13 "town" ["self"] (aPc K C Ct Pt))(c:OkM P w K mg base C 5 "stands" bQC (aB6 K C))(g:OkM P w K mg base Ct 4 "placing" n6 (aDj K Ct))(D:OkM P w K mg base Ct 4 "whole" n6 (uQ K Ct))(G:OkM P w K mg base Ct 5 "part" bQC (aPn K Ct)):Ok P w K mg base 14 "_law_right" o7 (aJ5 K C Pt):=by
 refine Ok.ofV T.aF8 tO (by trivial) (λf az A ar s H vs Q E hr h=>?_)
 obtain⟨x,d,dm,M,R,m,e,vh,vp,vm,t,n,h0,X,o,rfl,b,hP,q⟩:=h;have hU:=hr.units;have nd:=tO.nd;refine⟨_,(aB (bM (cZ ((aTd hU).or vV) (iB k (vv 0) (va1 (vv 1))) (aO bA (vv 2) aA)) (aD (aJ fP)) aU) (aB (aZ 4 (aWb (B.mono (by decide)) hr (vv 0))) (aB (bM (VW.pt (fJ (cZ (yH hU) (iB D (vv 4) (va1 (vv 1))) (aL dU (by rfl) T.dY dB (va1 (aO bA (vv 2) aA)))) (eG (cZ (aTd hU) (iB g (vv 4) (va1 (vv 1))) (aO bA (vv 2) aA))))) (aD (aJ fP)) aU) (aB (iT PassesOwn.never rfl (gA (by rfl) T.jM (va1 (vv 3))) (cQ 5) (aB (bM (cZ (yH hU) (iB c (vv 0) (aH (vv 1) (va1 (vv 5)))) (aV b3 (aH (vv 2) (aH (vv 3) (va1 (vv 5)))))) (aD (aJ fP)) aU) (aD (bM (cZ (yH hU) (iB G (vv 4) (aH (vv 1) (va1 (vv 5)))) (aV nH (aH (vv 2) (aH (vv 3) (va1 (vv 5)))))) (aD (aJ fP)) aU)))) (aD (aJ fP)))))),?_⟩;have ok:=b.ok;have b4:=ok.few;have m2:=b.m2;have m4:=b.m4;have F:∀r∈t.rows,KdR (knds t.hd) r:=λr a=>fK (ok.rows r a);have a4:∀r∈srt t.rows,∀x∈r,(∃i,x=.int i)\/∃z,x=.str z:=λr a x hx=>aSo (F r (fB a)) x hx;obtain⟨dx,hx⟩:=b.st.at_;refine⟨_,rfl,x,dx,_,rfl,hx,rfl,_,rfl,x,d,dm,m,[e],e,o,rfl,b.st,j0,b.mv,λv H1 s1 hv=>?_⟩;have V:=b.same s1;refine⟨_,rfl,M,_,3,_,rfl,rfl,SqL.of V.md.1,bH rfl,bAb hv V.vm b.mk_ ⟨_,rfl,bY ?_⟩⟩;refine⟨_,rfl,x,dx,_,rfl,s1 _ _ hx,rfl,x,d,dm,m,[e],rfl,V.st,by lia,by lia,s1 _ _ hP,λy d' H2 am hy ay s2 hT a1=>?_⟩;obtain⟨v2,O,rfl,_⟩:∃v2 O,am=[aBr e v2 O]/\H1 O=none:=by
  cases a1 with
  |cons r t=>cases t;obtain⟨v',L',e1,e2⟩:=r;exact⟨v',L',by rw[e1],e2⟩
 obtain⟨u,ee⟩:∃u:En,u=aBr e v2 O:=⟨_,rfl⟩;have Y:u.n=e.n:=by rw[ee];rfl
 have ap:u.vp=e.vp:=by rw[ee];rfl
 have a8:u.t={ t with rows:=srt t.rows }:=by rw[ee];show ({ e.t with rows:=srt e.t.rows }:Tb)=_;rw[b.et];rw[zG F]
 rw[<-ee] at hT;have S:=V.same s2;obtain⟨⟨dy,a0⟩,_,_⟩:=id hT;refine⟨_,rfl,y,dy,_,rfl,a0,rfl,_,rfl,y,d',m,[u],u,by rw[Y];rfl,hT,j0,λLw H3 av s3 L=>?_⟩;rw[a8] at L;have L:=L;have a7:=S.same s3;obtain⟨us,gR,ab⟩:=id a7.md.2.2.2;have b1:=ab.len;refine⟨_,rfl,M,_,2,_,rfl,rfl,SqL.of a7.md.1,at2 _ _ _ _,R,us,t.rows,knds t.hd,rfl,SqL.of gR,cP ab,by lia,jO ok.hd.1,F,λLb H4 ai b2 s4 g4 h4=>?_⟩;obtain⟨uw,gw,hw⟩:=L.same s4;refine⟨Lw,Lb,uw,ai,srt t.rows,rfl,rfl,SqL.of gw,SqL.of g4,cP hw,cP ((iC h4).imp λ_ _ z=>z.same s4),a4,_,rfl,bY ?_⟩;have N:=s3.trans s4;have ao:=S.same N;refine⟨_,rfl,y,dy,_,rfl,N _ _ a0,rfl,_,rfl,y,d',m,[u],u,by rw[Y];rfl,hT.same N,j0,λH5 s5=>?_⟩;have a3:=ao.same s5;have a5:=ok.pl;rw[b.pl] at a5;obtain⟨_,kd,_,_,an⟩:=a5;have p1:nA K H5 e.vp (.spans n h0 X):=by obtain⟨_,_,_,_,hp,_⟩:=a3.st.ens.tb e j0;rw[b.et] at hp;rw[<-b.pl];exact hp
 have p2:nA K H5 vp (.spans n h0 X):=by have:=a3.md.2.2.1;rw[b.pl] at this;exact this
 obtain⟨ra,rb,rx,ry,e3,e4,r1,r2,r3⟩:=aYf p1 p2 an;refine⟨_,rfl,M,_,1,_,rfl,rfl,SqL.of a3.md.1,at1 _ _ _,ra,rb,rx,ry,by rw[ap];exact e3,e4,r1,r2,r3,_,rfl,bY ?_⟩;have ah:=N.trans s5;have ac:e.t.pl=.spans n h0 X:=by rw[b.et];exact b.pl
 refine⟨_,rfl,m,rfl,by lia,by lia,iR (λj σ H'=>Same H2 H'/\∃l6,σ=[some (.ref x),some (.str e.n),some (.ref M),some (.int m),some (.ref y),l6]) ⟨ah,_,rfl⟩ (λj σ H6 hj p=>?_) fun σ H6 p=>?_⟩
 ·obtain⟨s6,l6,rfl⟩:=p;have a2:0<=(0:Int)+(j:Int):=by lia
  have Z:(0:Int)+(j:Int)<m:=by lia
  generalize (0:Int)+(j:Int)=house at a2 Z;have J:=S.same s6;obtain⟨af,ad⟩:=J.st.at_;refine⟨_,rfl,x,af,_,rfl,ad,rfl,_,rfl,_,rfl,x,d,dm,m,house,[e],e,o,n,h0,X,rfl,J.st,j0,J.mv,ac,λl z1=>(b.hn l z1).1,λl q' z1 z2=>by rw[b.et];exact b.mk_ l q' z1 z2,a2,Z,λL7 H7 b0 s7 W=>?_⟩;rw[b.et] at W;have W:=W;have aa:=J.same s7;refine⟨_,rfl,_,rfl,_,rfl,M,R,vh,vp,vm,t,o,m,house,n,h0,X,rfl,aa.md,aa.vm,ok,b.pl,(λl z1=>(b.hn l z1).1),b.mk_,λL8 H8 ax s8 ae=>?_⟩;obtain⟨u7,g7,h7⟩:=W.same s8;obtain⟨u8,g8,h8⟩:=ae;have aq:∀r∈oN t.hd m house t.pl o n X (srt t.rows),∀x∈r,(∃i,x=.int i)\/∃z,x=.str z:=λr a=>a4 r (by
   unfold oN at a;cases o with
   |none=>exact (List.mem_filter.mp a).1
   |some mq=>
   dsimp only at a
   split at a
   ·rcases List.mem_append.mp (fB a) with z|z <;> exact (List.mem_filter.mp z).1
   ·exact (List.mem_filter.mp a).1)
  refine⟨L7,L8,u7,u8,_,rfl,rfl,SqL.of g7,SqL.of g8,cP h7,cP h8,aq,_,rfl,bY ?_⟩;have U:=s6.trans (s7.trans s8);refine⟨_,rfl,y,dy,_,rfl,U _ _ a0,rfl,_,rfl,_,rfl,y,d',m,house,[u],u,by rw[Y];rfl,hT.same U,j0,a2,Z,λL9 H9 au s9 I=>?_⟩;rw[a8] at I;have I:=I;refine⟨_,rfl,_,rfl,_,rfl,M,R,vh,vp,vm,t,m,house,n,h0,X,rfl,(S.same (U.trans s9)).md,ok,b.pl,λal aw as a6 a9=>?_⟩;obtain⟨u9,g9,h9⟩:=I.same a6;obtain⟨aj,ag,ak⟩:=a9;exact⟨L9,al,u9,aj,_,rfl,rfl,SqL.of g9,SqL.of ag,cP h9,cP ak,λr a=>a4 r (List.mem_filter.mp a).1,_,rfl,bY ⟨U.trans (s9.trans a6),_,rfl⟩⟩
 ·obtain⟨s6,l6,rfl⟩:=p;exact q H6 (s1.trans (s2.trans s6))
theorem aNd {α β:Type}{R:α->β->Prop}{as:List α}{bs:List β}(h:cG R as bs):∀n,cG R (as.drop n) (bs.drop n):=by
 induction h with
 |nil=>intro n;rw[List.drop_nil,List.drop_nil];exact .nil
 |cons r t ih=>
  intro n;cases n with
  |zero=>exact .cons r t
  |succ n=>exact ih n
def aVt (n:H e=none)(a:H T=none):Same H (up2 H e T C dx):=λb o h=>by unfold up2;rw[aK (aQ h n),aK (aQ h a)];exact h
def vB (J:L2.St->Hp->Prop)(b:∀N:L2.St->Hp->Prop,(∀σ' H',J σ' H'->N σ' H')->S { D with nx:=N } σ H)(a:∀σ' H',J σ' H'->R D σ' H'):aDy S R D σ H:=b _ a
inductive aBb (K:bF4)(C:Addr)(vs:List V)(H:Hp)(Q:VK)(E_:XK):Prop
 |mk (x d dm:Addr) (m:Int) (e:En) (mq:Mv) (n:Str) (h0:Int) (cs:List (V × Int)) (_:vs=[.ref x,.str e.n]) (_:bC K H C x m d dm [e]) (_:e.t.pl=.spans n h0 cs) (_:MvD K H dm e.n (some mq)) (_:(∀q,mq.mark=some q->gC e.t.hd q)) (_:mq.num<=cs.length) (_:0<=mq.house) (_:mq.house<m) (_:(fZ e.t n cs mq.num mq.mark=[]->∀v vp H',KP K (λb=>b≠d/\b≠dm) H H'->bC K H' C x m d dm [{ e with v:=v,vp:=vp,t:={ e.t with pl:=.spans n (sE mq.num mq.house h0) (rQ mq.num mq.house cs) } }]->MvD K H' dm e.n none->Q (.str "done") H')) (_:(fZ e.t n cs mq.num mq.mark≠[]->∀H',Same H H'->Q (.str "not yet") H'))
def aAs (T:Txt w K mg)(i:ExT K mg lX "NotYet" "ShardError.__init__" CN S)(f2:PySem.W.mroIn K CN (.ref CN)=some true)(b:aGw P w K mg base C 6 "settle" n6 (aEz K C CN)):Ok P w K mg base 7 "_law_settled" ["_law_store","_law_name"] (aBb K C):=by
 refine Ok.ofV T.aC6 oZ (by trivial) (λf L A t s H vs Q E D h=>?_)
 obtain⟨x,d,Z,m,e,mq,n,X,O,rfl,z,o,q,l,j,N,b1,Y,J⟩:=h;obtain⟨⟨fI,fd,R,F,B⟩,c,kp,g,u⟩:=i;have nd:=oZ.nd;refine⟨_,(aB (aZ 2 bB) (aB (aY6 rfl rfl (by rfl) c g (λM σ₀ E ok=>(aD (bM (cZ wJ (aQj ok (b.mono (by decide)) D (vv 0) (va1 (vv 1))) fU) (aD (aZ 2 bB)) aU))) (λe=>(aD (aZ 2 bB)))) (aD (aJ (vv 2))))),?_⟩;obtain⟨I,hx⟩:=z.at_;refine⟨rfl,_,rfl,x,I,_,rfl,hx,rfl,_,rfl,x,d,Z,m,e,mq,n,X,O,rfl,z,o,q,l,j,N,b1,λr v vp y k1 p k=>?_,λr a y G=>?_⟩
 ·exact⟨rfl,_,rfl,dI rfl ⟨_,rfl,Y r v vp y k1 p k⟩⟩
 ·refine⟨CN,a,fI,rfl,rfl,R,f2,λTb V n1 nT U hd=>?_⟩;exact⟨_,rfl,J r _ (G.trans (aVt n1 nT))⟩
theorem bEb {ho:Int}:∀{k:Nat} {L:List (V × Int)} {c:V × Int},L[k]?=some c->L.take k++[(c.1,ho)]++L.drop (k+1)=aDr ho k L
 |0,[],_,h=>by cases h
 |0,_::_,_,h=>by cases h;rfl
 |_+1,[],_,h=>by cases h
 |k+1,a::L,c,h=>by have:=bEb (ho:=ho) (k:=k) (L:=L) (c:=c) (by simpa using h);show a::(L.take k++[(c.1,ho)]++L.drop (k+1))=a::aDr ho k L;rw[this]
inductive aOy (K:bF4)(C:Addr)(vs:List V)(H:Hp)(Q:VK)(E_:XK):Prop
 |mk (x d dm M R:Addr) (m:Int) (e:En) (vh vp vm:V) (t:Tb) (n:Str) (h0:Int) (cs:List (V × Int)) (mq:Mv) (_:vs=[.ref x,.str e.n,.ref M]) (_:Sy K H C x m d dm M R e vh vp vm t n h0 cs (some mq)) (_:∀e' vp' vm' t' h0' cs' o' H',KP K (λb=>b≠M/\b≠dm/\b≠d) H H'->Sy K H' C x m d dm M R e' vh vp' vm' t' n h0' cs' o'->e'.n=e.n->e'.L=e.L->t'.rows=t.rows->Q (.bl true) H')
theorem aIp (T:Txt w K mg){C:Addr}(oF:Ok P w K mg base 3 "_law_above" bQG (yP K))(bj:Ok P w K mg base 7 "_law_settled" ["_law_store","_law_name"] (aBb K C)):Ok P w K mg base 8 "_law_try" ["_law_store","_law_name","_law_table"] (aOy K C):=by
 refine Ok.ofV T.aN1 zK (by trivial) (λf bi A bd s H vs Q E hr h=>?_)
 obtain⟨x,d,dm,M,R,m,e,O,vp,vm,t,n,B,k,o,rfl,i,q⟩:=h;have hU:=hr.units;have nd:=zK.nd;refine⟨_,(aB (aZ 3 (aO bA (cX (aH bB (va1 bB))) (cC yI (by rfl) T.aOv aHk (va1 (vL (aCp hU) (aV oF (va1 (vv 2))) (cX zA)))))) (aB (bM (cZ vV (aV bj (aH (vv 0) (va1 (vv 1)))) (vv 3)) (aD (aJ fP)) aU) (aB (bM (cZ dN (vv 3) bB) (aB (jG (aO bA (vv 2) aA) (uB rfl (aX (cQ 4) (aX (cQ 5) (aX (cQ 6) eO))))) (aB (aZ 7 (aO aP (aO bA (vv 2) aA) aA)) (aB (aZ 7 (bF wR (bF wR (dD aA0 (vv 7) fC (dR (vv 4))) (cN (va1 (cN (aH (aO aP (aO aP (vv 7) (vv 4)) aA) (va1 (vv 5))))))) (dD aA0 (vv 7) (dR (bF dG (vv 4) aA)) fC))) (aB (jG (cN (aH bB (aH (aO aP (aO bA (vv 2) aA) aA) (va1 (vv 7))))) (xP (vv 2) aA set_list)) (aD (jG fU (xP (vv 2) aA set_list))))))) aU) (aD (aJ fP))))),?_⟩;obtain⟨bg,r,b0,b1⟩:=i.hn o rfl;have ok:=i.ok;have ah:=ok.pl;rw[i.pl] at ah;obtain⟨be,kd,hk,b4,al⟩:=ah;have bm:=al.few;have a0:e.t.pl=.spans n B k:=by rw[i.et];exact i.pl
 refine⟨by show 2<=sizeLine;decide,λpd H1 bh s1 g1=>?_⟩;have aq:=i.same s1;refine⟨_,rfl,M,R,O,vp,vm,t,o,m,n,B,k,rfl,aq.md,aq.vm,ok,i.pl,λq0 e0=>i.mk_ o q0 rfl e0,λL H2 hL s2 hR=>?_⟩;refine⟨by show 0<=sizeLine;decide,λp3 H3 bk s3 g3=>?_⟩;have a8:=s2.trans s3;have aa:=s1.trans a8;have g:=i.same aa;obtain⟨uL,gL,au⟩:=id hR;have lL:=au.len;refine⟨L,p3,uL,rfl,rfl,SqL.of (s3 _ _ gL),SqL.of g3,.inr ⟨_,rfl,?_⟩⟩;obtain⟨dx,an⟩:=g.st.at_;have a1:∀q0,o.mark=some q0->gC e.t.hd q0:=λq0 e0=>by rw[i.et];exact i.mk_ o q0 rfl e0
 have eW:fZ e.t n k o.num o.mark=fZ { t with rows:=srt t.rows } n k o.num o.mark:=by rw[i.et]
 cases uL with
 |cons u0 ur=>
  have hW:fZ e.t n k o.num o.mark≠[]:=λz=>by rw[<-eW,z] at lL;cases lL
  refine⟨pd,_,1,_,rfl,rfl,SqL.of (a8 _ _ g1),at1 _ _ _,?_⟩;dsimp only[bO,List.set];refine⟨_,rfl,_,rfl,x,d,dm,m,e,o,n,B,k,rfl,g.st,a0,g.mv,a1,r,b0,b1,λz=>absurd z hW,λ_ H4 s4=>?_⟩;refine⟨_,rfl,rfl,_,rfl,dI rfl ?_⟩;refine⟨_,rfl,rfl,_,rfl,dI rfl ?_⟩;exact q e vp vm t B k (some o) H4 (.same (aa.trans s4)) (g.same s4) rfl rfl rfl
 |nil=>
  have hW:fZ e.t n k o.num o.mark=[]:=by rw[eW];exact bAZ lL.symm
  refine⟨pd,_,0,_,rfl,rfl,SqL.of (a8 _ _ g1),at0 _ _,?_⟩;dsimp only[bO,List.set];refine⟨_,rfl,_,rfl,x,d,dm,m,e,o,n,B,k,rfl,g.st,a0,g.mv,a1,r,b0,b1,λ_ v' ax H4 k4 b6 as=>?_,λz=>absurd hW z⟩;refine⟨_,rfl,rfl,_,rfl,dI rfl ?_⟩;refine⟨_,rfl,rfl,_,rfl,iZ rfl ?_⟩;have ar:mH K H3 vm o:=g.vm;obtain⟨num,a,bf⟩:=o;have r:num<=k.length:=r;obtain⟨ma,vk,rfl,b5,bl⟩:=ar;obtain⟨N,bc,ae,⟨uR,a7,b2⟩⟩:=id g.md;obtain⟨_,_,S⟩:=id g.mv;have D:=g.st.ens.at_;have Z:M≠dm:=λz=>by rw[<-z,N] at S;cases S
  have am:M≠d:=λz=>by rw[<-z,N] at D;cases D
  have ap:R≠dm:=λz=>by rw[<-z,a7] at S;cases S
  have b3:R≠d:=λz=>by rw[<-z,a7] at D;cases D
  have W:=ae;rw[i.pl] at W;obtain⟨b,vo,rfl,hb,⟨cc,us,rfl,a4,a9⟩⟩:=W;have lu:=a9.len;rw[m8] at lu;have ag:num<us.length:=by lia
  obtain⟨c0,bb,pc,av,aw⟩:=cA a9 (b8 ag);have U:=k4.st _ _ ⟨am,Z⟩ N;have l:=k4.tk;refine⟨_,rfl,M,_,3,_,rfl,rfl,SqL.of U,bH (j:=3) rfl,ma,_,rfl,l _ _ b5,rfl,_,_,rfl,_,_,rfl,_,_,rfl,rfl,?_⟩;refine⟨_,rfl,M,_,1,_,rfl,rfl,SqL.of U,at1 _ _ _,b,_,2,_,rfl,rfl,l _ _ hb,at2 _ _ _ _,?_⟩;dsimp only[bO,List.set];refine⟨_,rfl,_,rfl,_,rfl,cc,us,rfl,l _ _ a4,λp5 H5 s5 g5=>?_⟩;rw[oK] at g5;refine⟨_,rfl,_,rfl,cc,us,_,us[num],rfl,rfl,s5.aR (l _ _ a4),bH (b8 ag),pc,_,0,_,av,rfl,s5.aR (l _ _ aw),at0 _ _,_,rfl,by show 2<=sizeLine;decide,λt6 H6 _ s6 g6=>⟨by show 1<=sizeLine;decide,λt7 H7 _ s7 g7=>?_⟩⟩;refine⟨p5,t7,_,_,rfl,rfl,(s6.trans s7).aR g5,SqT.of g7,small (by rw[bAI];show _+1<=1000;lia),λp8 H8 s8 g8=>?_⟩;have ai:=s5.trans (s6.trans (s7.trans s8));have eN:((num:Nat):Int)+1=((num+1:Nat):Int):=rfl;refine⟨_,rfl,_,rfl,_,_,rfl,rfl,_,rfl,cc,us,rfl,ai.aR (l _ _ a4),λp9 H9 s9 g9=>?_⟩;rw[eN,rJ] at g9;refine⟨p8,p9,_,_,rfl,rfl,s9.aR g8,g9,small (by rw[w6,bAI,bBT];show _+1+_<=1000;lia),λa6 a3 ak az=>?_⟩;have u:=ai.trans (s9.trans ak);have ac:lY K a3 (fM K a3) (.ref a6) ((.non,sE num a B)::rQ num a k):=⟨a6,_,rfl,az,by rw[<-bC5,<-bEb bb];have Y:cG (fM K a3) us ((.non,B)::k):=a9.imp λ_ _ ⟨p',e1,e2⟩=>⟨p',e1,u.aR (l _ _ e2)⟩;exact cG.app (cG.app (xZ Y _) (.cons ⟨t6,rfl,SqT.of (ak _ _ (s9 _ _ (s8 _ _ (s7 _ _ g6))))⟩ .nil)) (aNd Y _)⟩
  have aj:=u _ _ U;refine⟨_,rfl,M,_,1,_,rfl,rfl,SqL.of aj,at1 _ _ _,b,_,1,_,rfl,rfl,u.aR (l _ _ hb),at1 _ _ _,_,rfl,by show 3<=sizeLine;decide,λc G _ a5 ay=>?_⟩;have a2:=u.trans a5;have V:=a2 _ _ U;refine⟨_,rfl,M,_,1,1,rfl,rfl,V,rfl,?_⟩;dsimp only[List.set];have F:KP K (λb=>b≠M) G (L2.upd G M (.lst [O,.ref c,.ref R,.ref ma])):=.iW V λz=>z rfl;have I:L2.upd G M (.lst [O,.ref c,.ref R,.ref ma]) M=some (.lst [O,.ref c,.ref R,.ref ma]):=aF;generalize L2.upd G M (.lst [O,.ref c,.ref R,.ref ma])=H12 at F I ⊢;refine⟨_,rfl,M,_,3,3,rfl,rfl,I,rfl,?_⟩;dsimp only[List.set];have J:KP K (λb=>b≠M) H12 (L2.upd H12 M (.lst [O,.ref c,.ref R,.non])):=.iW I λz=>z rfl;have X:L2.upd H12 M (.lst [O,.ref c,.ref R,.non]) M=some (.lst [O,.ref c,.ref R,.non]):=aF;generalize L2.upd H12 M (.lst [O,.ref c,.ref R,.non])=H13 at J X ⊢;have kM:KP K (λb=>b≠M) H4 H13:=(KP.same a2).trans (F.trans J);have b9:x≠M:=λz=>by rw[z,N] at an;cases an
  have ao:=b6.kp kM b9 am.symm λy hy=>by rw[List.mem_singleton.mp hy];exact i.n3
  have ad:∀p xs,SqT K G p xs->SqT K H13 p xs:=λp xs z=>J.tk _ _ (F.tk _ _ z);have ab:nA K H13 (.ref c) (.spans n (sE num a B) (rQ num a k)):=nA.tk (pl:=.spans n (sE num a B) (rQ num a k)) ad ⟨c,.ref a6,rfl,SqT.of ay,lY.same a5 (λ_ _ z=>z.same a5) ac⟩;have af:KP K (λb=>b≠M/\b≠dm/\b≠d) H H13:=((KP.same aa).trans (k4.mono λb z=>⟨z.2.2,z.2.1⟩)).trans (kM.mono λb z=>z.1);have ba:jC m { t with pl:=.spans n (sE num a B) (rQ num a k) }:=⟨ok.hd,⟨be,kd,hk,b4,aPj num al b0 b1⟩,ok.few,ok.rows⟩;refine q { e with v:=v',vp:=ax,t:={ e.t with pl:=.spans n (sE num a B) (rQ num a k) } } (.ref c) .non { t with pl:=.spans n (sE num a B) (rQ num a k) } (sE num a B) (rQ num a k) none H13 af ⟨ao,⟨X,(bc.tk l).tk kM.tk,ab,?_⟩,as.kp kM Z.symm,rfl,?_,ba,rfl,λ_ _ z=>(by cases z),λ_ z=>(by cases z),i.m2,i.m4,i.n1,i.n2,i.n3⟩ rfl rfl rfl
  ·exact (bW.kp k4 ⟨b3,ap⟩ ⟨uR,a7,b2⟩).kp kM i.n1.symm
  ·show ({ e.t with pl:=.spans n (sE num a B) (rQ num a k) }:Tb)=_;rw[i.et]
def aUe (Y N:Hp->Prop)(d:∀R:Bool->Hp->Prop,(∀H8,Y H8->R true H8)->(∀H8,N H8->R false H8)->c σ H R)(b:∀H8,Y H8->t D σ H8)(a:∀H8,N H8->u D σ H8):aFx c t u D σ H:=
 d _ (λH8 y=>eX (b H8 y)) (λH8 y=>bY (a H8 y))
def qM (o:Option (List V))(S:List (List V)):Option (List V):=match S.getLast? with|none=>o|some r=>some r
def Sy.upd {H H':Hp}{C x d r M R:Addr}{m:Int}{e e':En}{vh vp vm:V}{t:Tb}{n:Str}{h0:Int}{cs:List (V × Int)}{o:Option Mv}{rows':List (List V)}(h:Sy K H C x m d r M R e vh vp vm t n h0 cs o)(k:KP K (λb=>b≠R/\b≠d) H H')(p:bC K H' C x m d r [e'])(u:e'.n=e.n)(j:e'.t={ t with rows:=srt rows' })(i:H e'.L=none)(q:bW K H' R rows')(s:jC m { t with rows:=rows' }):Sy K H' C x m d r M R e' vh vp vm { t with rows:=rows' } n h0 cs o:=by
 obtain⟨_,_,g⟩:=id h.mv;obtain⟨l,f,_⟩:=id h.md.2.2.2;have a:M≠d:=λz=>by have:=h.st.ens.at_;rw[<-z,h.md.1] at this;cases this
 have c:r≠R:=λz=>by rw[z,f] at g;cases g
 refine⟨p,⟨k.st _ _ ⟨h.n1,a⟩ h.md.1,h.md.2.1.tk k.tk,h.md.2.2.1.tk k.tk,q⟩,by rw[u];exact h.mv.kp k ⟨c,h.st.ne.symm⟩,h.vm.tk k.tk,j,s,h.pl,h.mk_,h.hn,h.m2,h.m4,h.n1,(aQ f i).symm,(aQ h.md.1 i).symm⟩
inductive aPh (K:bF4)(C:Addr)(vs:List V)(H:Hp)(Q:VK)(E_:XK):Prop
 |mk (st x d dm M R:Addr) (m:Int) (e:En) (vh vp vm:V) (t:Tb) (n:Str) (h0:Int) (cs:List (V × Int)) (o:Option Mv) (k:Nat) (_:vs=[.ref st,.ref x,.str e.n,.ref M]) (_:iD H st) (_:Sy K H C x m d dm M R e vh vp vm t n h0 cs o) (_:M≠st) (_:R≠st) (_:e.L≠st) (_:t.rows.length<=k) (_:k<59) (_:∀e' t' H',KP K (λb=>b≠st/\b≠d/\b≠R) H H'->iD H' st->Sy K H' C x m d dm M R e' vh vp vm t' n h0 cs o->e'.n=e.n->t'.rows.length<=k+1->e'.L≠st->Q .non H')
def aAh (T:Txt w K mg){C:Addr}(aN:Ok P w K mg base 1 "_law_next" n7 jP)(uC:Ok P w K mg base 4 "_law_row" bQA (aG3 K))(S:OkM P w K mg base C 5 "put" bQF (aT4 K C))(N:OkM P w K mg base C 5 "drop" bQF (aO6 K C)):Ok P w K mg base 6 "_law_changed" o9 (aPh K C):=by
 refine Ok.ofV T.aDe oY (by trivial) (λf b4 A b1 s H vs Q E hr h=>?_)
 obtain⟨st,x,d,dm,M,R,m,e,vh,vp,vm,t,n,h0,cs,o,k,rfl,hs,j,nM,nR,nL,fw,b9,q⟩:=h;have hU:=hr.units;have nd:=oY.nd;refine⟨_,(aB (aZ 4 (aV uC (aH (vv 0) (va1 (aO bA (vv 3) aA))))) (aD (bM (VW.pt (aIa (cZ (aCp hU) (aO bA (vv 3) aA) (cX zA)) (aG7 (cZ dN (aV aN (aH (vv 0) (va1 aA))) aA)))) (aB (aZ 4 (sX PySem.F.plainAttrs_list PySem.F.slot_list_pop PySem.F.type_list_pop aRu (aO bA (vv 3) aA) (va1 (aV aN (aH (vv 0) (va1 (aL aY (by rfl) T.eZ cW (va1 (aO bA (vv 3) aA))))))))) (aD (dJ (iB N (vv 1) (aH (vv 2) (va1 (vv 4))))))) (aB (dJ (sX PySem.F.plainAttrs_list PySem.F.slot_list_append PySem.F.type_list_append nU (aO bA (vv 3) aA) (va1 (vv 4)))) (aD (dJ (iB S (vv 1) (aH (vv 2) (va1 (vv 4)))))))))),?_⟩;have W:=j.ok;have b5:=W.few;have a3:(srt t.rows).Perm t.rows:=(jR λr ai=>fK (W.rows r ai)).1;refine⟨_,rfl,_,rfl,M,_,0,_,rfl,rfl,SqL.of j.md.1,at0 _ _,st,vh,t.hd,rfl,hs,j.md.2.1,W.hd,λY H1 r f1 g1 ab=>?_⟩;have ag:=j.fx f1 hs nM nR nL;dsimp only[bO,List.set];have aa:∀{Hq H5 e' a},Fx st H Hq->KP K (λb=>b≠R/\b≠d) Hq H5->Sy K H5 C x m d dm M R e' vh vp vm { t with rows:=a } n h0 cs o->e'.n=e.n->a.length<=k+1->e'.L≠st->Q .non H5:=λfq kk l en lr aq=>by
  have af:=fq.st;have ao:=j.fx fq hs nM nR nL;have an:st≠d:=λz=>by obtain⟨_,e1,_⟩:=af;have:=ao.st.ens.at_;rw[<-z,e1] at this;cases this
  exact q _ _ _ (((KP.fx fq hs λz=>z rfl).mono λb z=>z.1).trans (kk.mono λb z=>⟨z.2.2,z.2.1⟩)) (aO1 af λo h=>kk.st _ _ ⟨nR.symm,an⟩ h) l en lr aq
 refine aUe (λH8=>Fx st H H8/\t.rows≠[]) (λH8=>Fx st H H8/\cM K H8 (.ref Y) r) (λRR hT hF=>?_) (λU aw=>?_) λU b0=>?_
 ·obtain⟨g,p,c⟩:=id ag.md.2.2.2;have I:=c.len;refine⟨_,rfl,M,_,2,_,rfl,rfl,SqL.of ag.md.1,at2 _ _ _ _,by show 0<=sizeLine;decide,λp9 H9 b6 s9 g9=>⟨R,p9,g,rfl,rfl,SqL.of (s9 _ _ p),SqL.of g9,_,rfl,?_⟩⟩;have f9:=f1.sm s9;cases g with
  |nil=>exact dI rfl (hF _ ⟨f9,Y,rfl,s9.aR (SqT.of g1)⟩)
  |cons u0 ur=>
   refine iZ rfl ⟨_,rfl,st,2,rfl,f9.st,by decide,λz b3 a2 z0 z1=>⟨rfl,_,rfl,?_⟩⟩;cases decide (V.int z=V.int 0) with
   |true=>exact hT _ ⟨f9.trans a2,λz=>by rw[z] at I;cases I⟩
   |false=>exact hF _ ⟨f9.trans a2,Y,rfl,a2.tk (K:=K) f9.st _ _ (s9.aR (SqT.of g1))⟩
 ·obtain⟨f2,ak⟩:=aw;have X:=j.fx f2 hs nM nR nL;have a4:=f2.st;obtain⟨g,p,c⟩:=id X.md.2.2.2;have I:=c.len;have b2:0<t.rows.length:=List.length_pos_iff.mpr ak;refine⟨_,rfl,M,_,2,_,rfl,rfl,SqL.of X.md.1,at2 _ _ _ _,.inl ⟨rfl,_,SqL.of p⟩,_,rfl,_,rfl,M,_,2,_,rfl,rfl,SqL.of X.md.1,at2 _ _ _ _,R,g,rfl,.inl (SqL.of p),st,_,rfl,a4,⟨by lia,by lia⟩,λz H3 f3 z0 z1=>?_⟩;have am:=f2.trans f3;have D:=X.fx f3 a4 nM nR nL;obtain⟨g,p,c⟩:=id D.md.2.2.2;have I:=c.len;obtain⟨i,rfl⟩:∃i:Nat,z=i:=⟨z.toNat,by lia⟩;have hz:i<g.length:=by lia
  obtain⟨q0,a0,qa,ar,au⟩:=cA c (b8 hz);refine⟨R,g,_,i,g[i],rfl,rfl,p,by lia,by lia,PySem.StrLaws.seqIndex_nonneg (by lia) (by lia),b8 hz,?_⟩;have B:KP K (λb=>b≠R) H3 (L2.upd H3 R (.lst (g.eraseIdx i))):=.iW p λz=>z rfl;have a8:L2.upd H3 R (.lst (g.eraseIdx i)) R=some (.lst (g.eraseIdx i)):=aF;have a5:∀{b},L2.upd H3 R (.lst (g.eraseIdx i)) b=none->H3 b=none:=λ{b} h=>by
   by_cases zz:b=R
   ·rw[zz,aF] at h;cases h
   ·rw[aK zz] at h;exact h
  generalize L2.upd H3 R (.lst (g.eraseIdx i))=H4 at B a8 a5 ⊢;obtain⟨dx,a9⟩:=D.st.at_;have no:∀{b u},H3 b=some u->(∀ys,u≠.lst ys)->b≠R:=λh hu z=>by rw[z,p] at h;cases h;exact hu _ rfl
  have G:=no a9 λ_ z=>(by cases z);have J:=no D.st.ens.at_ λ_ z=>(by cases z);have as:=D.st.kp B G J λy hy=>by rw[List.mem_singleton.mp hy];exact j.n2
  have ax:=W.rows q0 (t8 a0);have pe:=uH a0;have ay:q0∈e.t.rows:=by rw[j.et];exact a3.mem_iff.mpr (t8 a0)
  dsimp only[bO,List.set];refine⟨_,rfl,x,dx,_,rfl,B.st _ _ G a9,rfl,_,rfl,_,rfl,x,d,dm,m,[],[],e,g[i],q0,rfl,as,⟨qa,ar,B.tk _ _ au⟩,by rw[j.et];exact ax,ay,λv L a H5 pm k5 Z ah=>?_⟩;rw[j.et] at pm;have pr:a.Perm (t.rows.eraseIdx i):=(List.Perm.trans pm (a3.trans pe.symm)).cons_inv;have O:∀y∈t.rows.eraseIdx i,gC t.hd y:=λy hy=>W.rows y (List.mem_of_mem_eraseIdx hy);have es:srt a=srt (t.rows.eraseIdx i):=(qU (λy hy=>fK (O y hy)) pr.symm).symm;have kk:KP K (λb=>b≠R/\b≠d) H3 H5:=(B.mono λb z=>z.1).trans (k5.mono λb z=>z.2);have le:=bER t.rows i;have av:bW K H4 R (t.rows.eraseIdx i):=⟨_,a8,aB8 (c.imp λ_ _ ⟨b,e1,e2⟩=>⟨b,e1,B.tk _ _ e2⟩) i⟩;have ac:=a5 Z;refine aa (e':={ e with v:=v,L:=L,t:={ e.t with rows:=srt a } }) am kk (D.upd kk ah rfl ?_ ac (av.kp k5 J.symm) ⟨W.hd,W.pl,by show (t.rows.eraseIdx i).length<=60;lia,O⟩) rfl (by lia) (f3.st.ne ac);show ({ e.t with rows:=srt a }:Tb)=_;rw[j.et,es]
 ·obtain⟨f5,a6⟩:=b0;have l:=j.fx f5 hs nM nR nL;obtain⟨g,p,c⟩:=id l.md.2.2.2;have I:=c.len;refine⟨_,rfl,M,_,2,_,rfl,rfl,SqL.of l.md.1,at2 _ _ _ _,.inl ⟨rfl,_,SqL.of p⟩,_,rfl,R,_,_,rfl,rfl,p,mL (by lia),?_⟩;have B:KP K (λb=>b≠R) U (L2.upd U R (.lst (g++[.ref Y]))):=.iW p λz=>z rfl;have a7:L2.upd U R (.lst (g++[.ref Y])) R=some (.lst (g++[.ref Y])):=aF;have ad:∀{b},L2.upd U R (.lst (g++[.ref Y])) b=none->U b=none:=λ{b} h=>by
   by_cases zz:b=R
   ·rw[zz,aF] at h;cases h
   ·rw[aK zz] at h;exact h
  generalize L2.upd U R (.lst (g++[.ref Y]))=H6 at B a7 ad ⊢;obtain⟨dx,ae⟩:=l.st.at_;have no:∀{b u},U b=some u->(∀ys,u≠.lst ys)->b≠R:=λh hu z=>by rw[z,p] at h;cases h;exact hu _ rfl
  have G:=no ae λ_ z=>(by cases z);have J:=no l.st.ens.at_ λ_ z=>(by cases z);have ap:=l.st.kp B G J λy hy=>by rw[List.mem_singleton.mp hy];exact j.n2
  have a1:∀{u r},cM K U u r->cM K H6 u r:=λ⟨b,e1,e2⟩=>⟨b,e1,B.tk _ _ e2⟩;have lR:e.t.rows.length<60:=by rw[j.et];show (srt t.rows).length<60;rw[nY];lia
  refine⟨_,rfl,x,dx,_,rfl,B.st _ _ G ae,rfl,_,rfl,_,rfl,x,d,dm,m,[],[],e,.ref Y,r,rfl,ap,a1 a6,by rw[j.et];exact ab,lR,λv L H7 k7 al az=>?_⟩;have kk:KP K (λb=>b≠R/\b≠d) U H7:=(B.mono λb z=>z.1).trans (k7.mono λb z=>z.2);have O:∀y∈t.rows++[r],gC t.hd y:=λy hy=>by
   rcases List.mem_append.mp hy with hy|hy
   ·exact W.rows y hy
   ·rw[List.mem_singleton.mp hy];exact ab
  have es:srt (e.t.rows++[r])=srt (t.rows++[r]):=by rw[j.et];exact (qU (λy hy=>fK (O y hy)) (a3.symm.append_right [r])).symm
  have aj:bW K H6 R (t.rows++[r]):=⟨_,a7,cG.app (c.imp λ_ _ z=>a1 z) (.cons (a1 a6) .nil)⟩;have Z:=ad al;have l1:(t.rows++[r]).length=t.rows.length+1:=by rw[w6];rfl
  refine aa (e':={ e with v:=v,L:=L,t:={ e.t with rows:=srt (e.t.rows++[r]) } }) f5 kk (l.upd kk az rfl ?_ Z (aj.kp k7 J.symm) ⟨W.hd,W.pl,by show (t.rows++[r]).length<=60;lia,O⟩) rfl (by lia) (f5.st.ne Z);show ({ e.t with rows:=srt (e.t.rows++[r]) }:Tb)=_;rw[es,j.et]
structure LI (K:bF4)(H:Hp)(C x:Addr)(m:Int)(d dm M R N W Pt st:Addr)(nms:List Str)(xs:List V)(e:En)(vh vp vm:V)(t:Tb)(n:Str)(h0:Int)(cs:List (V × Int))(o:Option Mv)(k:Nat):Prop where
 s:iD H st
 y:Sy K H C x m d dm M R e vh vp vm t n h0 cs o
 nm:some e.n=nms[0]?
 fw:t.rows.length<=k
 gN:H N=some (.lst (nms.map V.str))
 gW:H W=some (.lst xs)
 gP:H Pt=some (.tab qC)
 nM:M≠st
 nR:R≠st
 nL:e.L≠st
 nN:N≠st
 nW:W≠st
 a1:N≠M
 a2:N≠R
 a3:W≠M
 a4:W≠R
section
variable {H H':Hp}{C x d dm M R N W Pt st:Addr}{m:Int}{nms:List Str}{xs:List V}{e:En}{vh vp vm:V}{t:Tb}{n:Str}{h0:Int}{cs:List (V × Int)}{o:Option Mv}{k:Nat}
theorem LI.same (s:Same H H')(h:LI K H C x m d dm M R N W Pt st nms xs e vh vp vm t n h0 cs o k):LI K H' C x m d dm M R N W Pt st nms xs e vh vp vm t n h0 cs o k:=⟨h.s.same s,h.y.same s,h.nm,h.fw,s _ _ h.gN,s _ _ h.gW,s _ _ h.gP,h.nM,h.nR,h.nL,h.nN,h.nW,h.a1,h.a2,h.a3,h.a4⟩
def LI.at0 (h:LI K H C x m d dm M R N W Pt st nms xs e vh vp vm t n h0 cs o k):(nms.map V.str)[0]?=some (.str e.n):=by rw[v7,<-h.nm];rfl
def LI.nD (h:LI K H C x m d dm M R N W Pt st nms xs e vh vp vm t n h0 cs o k)(g:H b=some u)(c:∀l,u≠.dK l):b≠dm/\b≠d:=by obtain⟨_,_,a⟩:=id h.y.mv;exact⟨λz=>by rw[z,a] at g;cases g;exact c _ rfl,λz=>by rw[z,h.y.st.ens.at_] at g;cases g;exact c _ rfl⟩
def LI.go (h:LI K H C x m d dm M R N W Pt st nms xs e vh vp vm t n h0 cs o k)(f:KP K (λb=>b≠st/\b≠M/\b≠dm/\b≠d/\b≠R) H H')(w:iD H' st)(y:Sy K H' C x m d dm M R e' vh vp' vm' t' n h0' cs' o')(B:e'.n=e.n)(v:t'.rows.length<=k')(A:e'.L≠st):LI K H' C x m d dm M R N W Pt st nms xs e' vh vp' vm' t' n h0' cs' o' k':=by have r:∀{b u},H b=some u->(∀l,u≠.lst l)->b≠st/\b≠M/\b≠R:=λg c=>⟨λz=>by obtain⟨_,a,_⟩:=h.s;rw[z,a] at g;cases g;exact c _ rfl,λz=>by rw[z,h.y.md.1] at g;cases g;exact c _ rfl,λz=>by obtain⟨_,a,_⟩:=h.y.md.2.2.2;rw[z,a] at g;cases g;exact c _ rfl⟩;have p:=r h.gP λ_ z=>(by cases z);have i:=h.nD h.gP λ_ z=>(by cases z);have q:=h.nD h.gN λ_ z=>(by cases z);have j:=h.nD h.gW λ_ z=>(by cases z);exact⟨w,y,by rw[B];exact h.nm,v,f.st _ _ ⟨h.nN,h.a1,q.1,q.2,h.a2⟩ h.gN,f.st _ _ ⟨h.nW,h.a3,j.1,j.2,h.a4⟩ h.gW,f.st _ _ ⟨p.1,p.2.1,i.1,i.2,p.2.2⟩ h.gP,h.nM,h.nR,A,h.nN,h.nW,h.a1,h.a2,h.a3,h.a4⟩
theorem LI.fx (f:Fx st H H')(h:LI K H C x m d dm M R N W Pt st nms xs e vh vp vm t n h0 cs o k):LI K H' C x m d dm M R N W Pt st nms xs e vh vp vm t n h0 cs o k:=
 h.go ((KP.fx f h.s λz=>z rfl).mono λb z=>z.1) f.st (h.y.fx f h.s h.nM h.nR h.nL) rfl h.fw h.nL
end
inductive aPk (K:bF4)(Pt:Addr)(vs:List V)(H:Hp)(Q:VK)(E_:XK):Prop
 |mk (a:Addr) (ns:List Int) (_:vs=[.ref a]) (_:SqL K H a (ns.map V.int)) (_:ns.length<=63) (_:H Pt=some (.tab qC)) (_:∀H',H' Pt=some (.tab qC)->Q (.bl true) H')
def aZ6 {f:Addr}{fd:FuncData}(F:Fun K "law" "law" aV8 f fd)(T:Txt w K mg){C Pt:Addr}(fc:Ok P w K mg base 1 "_law_seed" ["_law_script"] (aPy K))(aN:Ok P w K mg base 1 "_law_next" n7 jP)(ew:Ok P w K mg base 2 "_law_names" n7 aVh)(uO:Ok P w K mg base 13 "_law_spans_begun" bQE (aIj K C Pt))(f9:Ok P w K mg base 2 "_law_lent" ["_law_state","_law_table","_law_houses"] (aP6 K))(oF:Ok P w K mg base 3 "_law_above" bQG (yP K))(vJ:Ok P w K mg base 14 "_law_right" o7 (aJ5 K C Pt))(fb:Ok P w K mg base 8 "_law_try" ["_law_store","_law_name","_law_table"] (aOy K C))(fe:Ok P w K mg base 6 "_law_changed" o9 (aPh K C))(ar:OkM P w K mg base C 5 "lend" ["self","name","number","house"] (aP2 K C))(al:OkM P w K mg base C 5 "carry" ["self","name","many"] (aLk K C)):gK P w K mg base CX0 15 f fd ["_law_script"] (aPk K Pt):=by
 refine Fun.okV F aT9 (λvs H Q E h=>?_) (λfa A eu s H vs Q E hr h=>?_)
 ·obtain⟨a,ns,rfl,_⟩:=h;rfl
 obtain⟨a,ns,rfl,ha,hn,dn,q⟩:=h;have hU:=hr.units;have nd:=aT9.nd;refine⟨_,(aB (aZ 1 (cX (va1 (aV fc (va1 (vv 0)))))) (aB (aZ 2 (aV ew (aH (vv 1) (va1 aA)))) (aB (jG (aV uO (aH (vv 1) (aH (vv 2) (va1 aA)))) (uB rfl (aX (cQ 3) (aX (cQ 4) (aX (cQ 5) eO))))) (aB (aZ 6 aA) (aB (iT PassesOwn.never rfl (eQ (bF pQ (cX (va1 aA)) (dD wO (vv 0) fC (dR aA)))) (cQ 7) (aB (aZ 1 (cX (va1 (bF dG (aO bA (vv 1) aA) (bF jX (vv 7) (bF aFw aA aA)))))) (aB (bM (VW.pt (aIa (cZ aF0 (aO bA (vv 4) aA) fU) (aG7 (cZ aSg (vv 6) aA)))) (aB (jG (aV f9 (aH (vv 1) (aH (vv 4) (va1 (vv 5))))) (xP (vv 4) aA set_list)) (aB (dJ (iB ar (vv 3) (aH (aO bA (vv 2) aA) (aH (aO aP (aO bA (vv 4) aA) aA) (va1 (aO aP (aO bA (vv 4) aA) aA)))))) (aD (aZ 6 (bF dG (vv 6) aA))))) aU) (aB (bM (cZ dN (aV aN (aH (vv 1) (va1 aA))) aA) (aD (dJ (aV fe (aH (vv 1) (aH (vv 3) (aH (aO bA (vv 2) aA) (va1 (vv 4)))))))) aU) (aB (bM (cZ wJ (aO bA (vv 4) aA) fU) (aB (aZ 8 (dD wO (aL (sV rfl) (by rfl) T.dY dB (va1 (cC (aFe rfl hU) (by rfl) T.aO0 aHf (va1 (aV oF (va1 (vv 4))))))) fC (dR (bF jX (vv 7) aA)))) (aB (dJ (iB al (vv 3) (aH (aO bA (vv 2) aA) (va1 (bF jX (vv 7) aA))))) (aB (bM (cZ (aCp hU) (vv 8) (cX zA)) (aD (jG (cN (aH (aO aP (aO bA (vv 4) aA) aA) (aH (aO aP (aO bA (vv 4) aA) aA) (va1 (aO bA (vv 8) (aZx aU7 aA)))))) (xP (vv 4) aA set_list))) aU) (aD (bM (VW.pt (fJ (cD (bU (aV vJ (aH (vv 3) (aH (aO bA (vv 2) aA) (aH (vv 4) (va1 (vv 5)))))))) (eG (cD (bU (aV fb (aH (vv 3) (aH (aO bA (vv 2) aA) (va1 (vv 4)))))))))) (aD (aJ fP)) aU))))) aU) (aD (bM (cD (bU (aV vJ (aH (vv 3) (aH (aO bA (vv 2) aA) (aH (vv 4) (va1 (vv 5)))))))) (aD (aJ fP)) aU))))))) (aD (aJ fP))))))),?_⟩;refine⟨_,rfl,a,ns,rfl,ha,hn,λc0 H1 s1 _ _=>⟨by show 1<=sizeLine;decide,λst H2 eo s2 g2=>?_⟩⟩;have d5:iD H2 st:=⟨c0,g2,trivial⟩;refine⟨_,rfl,st,rfl,d5,λN H3 a9 f3 dv gN e3=>?_⟩;have bj:N≠st:=d5.ne dv;have bm:=s2 _ _ (s1 _ _ dn);have d2:Pt≠st:=λz=>by rw[z,g2] at bm;cases bm
 have cg:=f3.same _ _ d2 bm;refine⟨_,rfl,_,rfl,st,N,a9,rfl,f3.st,gN,bj,e3,cg,λt x M R d U m vh G tb e n J I H4 f4 ht hM hS ci dj ce ct lr ck m2 m4 c1 cv ea el dw ec=>?_⟩;refine⟨t,_,rfl,ht,rfl,_,_,rfl,_,_,rfl,_,_,rfl,rfl,?_⟩;have e6:N≠M:=aQ gN c1;have de:N≠R:=aQ gN cv;have nM:=f3.st.ne c1;have nR:=f3.st.ne cv;have nL:=f3.st.ne ea;have ch:=f4.same _ _ bj gN;have co:=f4.same _ _ d2 cg;have b3:Sy K H4 C x m d U M R e vh G .non tb n J I none:=⟨hS,hM,⟨.non,rfl,ci⟩,rfl,ce,ct,ck,λ_ _ z=>(by cases z),λ_ z=>(by cases z),m2,m4,el,dw,ec⟩;have db:SqL K H4 a (ns.map V.int):=by
  have go:∀{o},H1 a=some o->H4 a=some o:=λh1=>by have n1:=aQ h1 eo;exact f4.same _ _ n1 (f3.same _ _ n1 (s2 _ _ h1))
  rcases s1.seq ha with (h|⟨o,h⟩)|h
  ·exact .inl (.inl (go h))
  ·exact .inl (.inr ⟨o,go h⟩)
  ·exact .inr h
 dsimp only[bO,List.set];refine⟨by show 1<=sizeLine;decide,λz8 H8 ez s8 g8=>?_⟩;refine⟨_,rfl,_,rfl,a,ns.map V.int,rfl,s8.seq db,λp9 H9 es s9 g9=>?_⟩;rw[show mY (ns.map V.int) none (some 40)=(ns.map V.int).take 40 from oK _ 40] at g9;have f6:((ns.map V.int).take 40).length<=40:=by rw[bAI];lia
 refine⟨z8,p9,_,_,rfl,rfl,s9 _ _ g8,g9,small (by show 1+_<=1000;lia),λW bz hW ee ao=>?_⟩;have ac:=s8.trans (s9.trans ee);obtain⟨xs,bk⟩:∃xs,xs=[V.int 0]++(ns.map V.int).take 40:=⟨_,rfl⟩;have e9:∀y∈xs,∃c,y=.int c:=λy hy=>by
  rw[bk] at hy;rcases List.mem_append.mp hy with hy|hy
  ·exact⟨0,List.mem_singleton.mp hy⟩
  ·obtain⟨c,_,rfl⟩:=List.mem_map.mp (bDV hy);exact⟨c,rfl⟩
 have f7:xs.length<=41:=by rw[bk,w6];show 1+_<=41;lia
 have ao:bz W=some (.lst xs):=by rw[bk];exact ao
 have ei:W≠M:=(aQ ((s8.trans s9) _ _ b3.md.1) hW).symm;have ds:W≠R:=by obtain⟨us,gR,_⟩:=b3.md.2.2.2;exact (aQ ((s8.trans s9) _ _ gR) hW).symm
 have e8:W≠st:=((f4.st.same s8).same s9).ne hW;have cr:LI K bz C x m d U M R N W Pt st a9 xs e vh G .non tb n J I none 10:=⟨f4.st.same ac,b3.same ac,dj,lr,ac _ _ ch,ao,ac _ _ co,nM,nR,nL,bj,e8,e6,de,ei,ds⟩;refine⟨W,rfl,⟨_,SqL.of ao⟩,aI8 (xs:=xs) (λi σ H'=>∃(st:Addr) (e:En) (G X:V) (t:Tb) (J:Int) (I:List (V × Int)) (o:Option Mv) (O:Int) (l7 l8:Option V),LI K H' C x m d U M R N W Pt st a9 xs e vh G X t n J I o (10+i)/\σ=[some (.ref a),some (.ref st),some (.ref N),some (.ref x),some (.ref M),some (.int m),some (.int O),l7,l8]) ⟨st,e,_,_,tb,_,_,none,0,none,none,cr,rfl⟩ (λi σ H' _ p=>by obtain⟨st,e,G,X,t,J,I,o,O,l7,l8,k,_⟩:=p;exact SqL.of k.gW) (λi y σ bt ey p=>?_) fun σ bt p=>?_⟩
 ·clear cr ao ac b3 co ch hM hS ce ct lr ck ci ht;obtain⟨st,e,G,X,t,J,I,o,O,l7,l8,k,rfl⟩:=p;obtain⟨c,rfl⟩:=e9 y (t8 ey);have hi:i<xs.length:=(List.getElem?_eq_some_iff.mp ey).1;obtain⟨sv,cc,_⟩:=k.s;refine⟨_,rfl,st,_,0,_,rfl,rfl,SqL.of cc,at0 _ _,_,rfl,_,_,rfl,rfl,⟨by decide,by decide,by decide⟩,_,_,rfl,rfl,(by show (0:Int)<10 ^ 18;decide),_,_,rfl,rfl,by show 1<=sizeLine;decide,λv aw be ai aq=>?_⟩;have a8:LI K aw C x m d U M R N W Pt v a9 xs e vh G X t n J I o (10+i):=by have fr:∀{b o},bt b=some o->b≠v:=λh=>aQ h be;have l:=k.same ai;obtain⟨us,gR,_⟩:=k.y.md.2.2.2;obtain⟨_,_,_,_,_,⟨fg,gL,_⟩⟩:=k.y.st.ens.tb e j0;exact⟨⟨_,aq,trivial⟩,l.y,l.nm,l.fw,l.gN,l.gW,l.gP,fr k.y.md.1,fr gR,fr gL,fr k.gN,fr k.gW,l.a1,l.a2,l.a3,l.a4⟩
  clear k cc ai aq be sv;dsimp only[bO,List.set];refine vB (S:=aFx _ _ _) (fun σ H'=>∃X o O,LI K H' C x m d U M R N W Pt v a9 xs e vh G X t n J I o (10+i)/\σ=[some (.ref a),some (.ref v),some (.ref N),some (.ref x),some (.ref M),some (.int m),some (.int O),some (.int c),l8]) (λNX hN=>?_) fun σ' H' hJ=>?_
  ·refine aUe (λH8=>Same aw H8/\o=none) (λH8=>Same aw H8) (λRR hT hF=>?_) (λH8 y8=>?_) λH8 s8=>hN _ _ ⟨X,o,O,a8.same s8,rfl⟩
   ·refine⟨_,rfl,M,_,3,_,rfl,rfl,SqL.of a8.y.md.1,bH (j:=3) rfl,rfl,_,rfl,?_⟩;cases o with
    |some mq=>obtain⟨ma,vk,rfl,bu,f0⟩:=id (show mH K aw X mq from a8.y.vm);exact dI (v9 λz=>by cases z) (hF _ (Same.refl _))
    |none=>
     cases (show X=.non from a8.y.vm);refine iZ (m9 rfl) ⟨_,rfl,_,_,rfl,rfl,_,rfl,?_⟩;cases decide (O<5) with
     |true=>exact hT _ ⟨Same.refl _,rfl⟩
     |false=>exact hF _ (Same.refl _)
   ·obtain⟨s8,rfl⟩:=y8;have k:=a8.same s8;refine⟨_,rfl,_,rfl,_,rfl,v,M,R,m,vh,G,X,t,n,J,I,rfl,k.s,k.y.md,k.y.ok,k.y.pl,k.y.m2,k.y.m4,k.nM,λp5 num ho H5 f5 g5 bb cm c9 cq=>?_⟩;have Z:=k.fx f5;obtain⟨b5,dz,c2,cb⟩:=id Z.y.md;refine⟨_,rfl,M,_,3,3,rfl,rfl,b5,rfl,?_⟩;dsimp only[List.set];have kM:KP K (λb=>b≠M) H5 (L2.upd H5 M (.lst [vh,G,.ref R,.ref p5])):=.iW b5 λz=>z rfl;have g6:L2.upd H5 M (.lst [vh,G,.ref R,.ref p5]) M=some (.lst [vh,G,.ref R,.ref p5]):=aF;have ba:SqT K (L2.upd H5 M (.lst [vh,G,.ref R,.ref p5])) p5 [.int (num:Nat),.int ho,.non]:=SqT.iW b5 (SqT.of g5);generalize L2.upd H5 M (.lst [vh,G,.ref R,.ref p5])=H6 at kM g6 ba ⊢;obtain⟨dx,cf⟩:=Z.y.st.at_;obtain⟨_,_,aj⟩:=id Z.y.mv;have aj:H5 U=some (.dK []):=aj;have no:∀{b u},H5 b=some u->(∀l,u≠.lst l)->b≠M:=λg hu z=>by rw[z,b5] at g;cases g;exact hu _ rfl
    have cz:=no cf λ_ z=>(by cases z);have dr:=no Z.y.st.ens.at_ λ_ z=>(by cases z);have d6:=no aj λ_ z=>(by cases z);have eh:=Z.y.st.kp kM cz dr λy hy=>by rw[List.mem_singleton.mp hy];exact Z.y.n3
    have ax:e.t.pl=.spans n J I:=by rw[Z.y.et];exact Z.y.pl
    refine⟨_,rfl,x,dx,_,rfl,kM.st _ _ cz cf,rfl,_,rfl,N,_,0,.str e.n,rfl,rfl,SqL.of (kM.st _ _ Z.a1 Z.gN),bH (j:=0) Z.at0,_,rfl,M,_,3,_,rfl,rfl,SqL.of g6,bH (j:=3) rfl,p5,_,0,_,rfl,rfl,ba,at0 _ _,_,rfl,M,_,3,_,rfl,rfl,SqL.of g6,bH (j:=3) rfl,p5,_,1,_,rfl,rfl,ba,at1 _ _ _,x,d,U,m,[e],e,n,J,I,num,ho,rfl,eh,j0,ax,kM.st _ _ d6 aj,bb,cm,c9,cq,λH7 k7 e4 d1=>?_⟩;refine⟨_,rfl,_,_,rfl,rfl,?_⟩;have b0:KP K (λb=>b≠M/\b≠U) H5 H7:=(kM.mono λb z=>z.1).trans (k7.mono λb z=>z.2);have ep:v≠U:=λz=>by obtain⟨_,e1,_⟩:=Z.s;rw[z,aj] at e1;cases e1
    have cj:R≠U:=λz=>by obtain⟨_,e1,_⟩:=cb;rw[z,aj] at e1;cases e1
    have y7:Sy K H7 C x m d U M R e vh G (.ref p5) t n J I (some ⟨num,ho,none⟩):=⟨e4,⟨k7.st _ _ d6.symm g6,dz.tk b0.tk,c2.tk b0.tk,cb.kp b0 ⟨Z.y.n1.symm,cj⟩⟩,d1,⟨p5,.non,rfl,k7.tk _ _ ba,rfl⟩,Z.y.et,Z.y.ok,Z.y.pl,λ_ _ z1 z2=>(by cases z1;cases z2),λ_ z1=>(by cases z1;exact⟨cq,bb,cm,c9⟩),Z.y.m2,Z.y.m4,Z.y.n1,Z.y.n2,Z.y.n3⟩;exact hN _ _ ⟨.ref p5,_,O+1,Z.go (b0.mono λb z=>⟨z.2.1,z.2.2.1⟩) (aO1 Z.s λo h=>b0.st _ _ ⟨Z.nM.symm,ep⟩ h) y7 rfl Z.fw Z.nL,rfl⟩
  clear a8;obtain⟨X,o,O,k,rfl⟩:=hJ;refine vB (S:=aFx _ _ _) (fun σ H'=>∃e t,LI K H' C x m d U M R N W Pt v a9 xs e vh G X t n J I o (10+(i+1))/\σ=[some (.ref a),some (.ref v),some (.ref N),some (.ref x),some (.ref M),some (.int m),some (.int O),some (.int c),l8]) (λNX hN=>?_) fun σ' H' hJ=>?_
  ·refine⟨_,rfl,v,4,rfl,k.s,by decide,λz ej em z0 z1=>⟨rfl,_,rfl,?_⟩⟩;have l:=k.fx em;cases decide (V.int z=V.int 0) with
   |false=>exact bY (hN _ _ ⟨e,t,{ l with fw:=by have:=l.fw;lia },rfl⟩)
   |true=>refine eX ⟨_,rfl,_,rfl,_,rfl,N,_,0,.str e.n,rfl,rfl,SqL.of l.gN,bH (j:=0) l.at0,_,rfl,v,x,d,U,M,R,m,e,vh,G,X,t,n,J,I,o,10+i,rfl,l.s,l.y,l.nM,l.nR,l.nL,l.fw,by lia,λe' t' H' k' ef y' en lr dp=>?_⟩;exact hN _ _ ⟨e',t',l.go (k'.mono λb z=>⟨z.1,z.2.2.2.1,z.2.2.2.2⟩) ef y' en (by lia) dp,rfl⟩
  clear k;obtain⟨e,t,k,rfl⟩:=hJ;refine vB (S:=aFx _ _ _) (fun σ H'=>∃e G X t J I o l8,LI K H' C x m d U M R N W Pt v a9 xs e vh G X t n J I o (10+(i+1))/\σ=[some (.ref a),some (.ref v),some (.ref N),some (.ref x),some (.ref M),some (.int m),some (.int O),some (.int c),l8]) (λNX hN=>?_) fun σ' H' hJ=>?_
  ·cases o with
   |none=>cases (show X=.non from k.y.vm);exact⟨_,rfl,M,_,3,_,rfl,rfl,SqL.of k.y.md.1,bH (j:=3) rfl,rfl,_,rfl,dI rfl (hN _ _ ⟨e,G,.non,t,J,I,none,l8,k,rfl⟩)⟩
   |some mq=>
   have Y:=k.y;have bf:mH K H' X mq:=Y.vm;refine⟨_,rfl,M,_,3,_,rfl,rfl,SqL.of Y.md.1,bH (j:=3) rfl,rfl,_,rfl,iZ (by obtain⟨ma,vk,e1,_⟩:=bf;rw[e1];rfl) ?_⟩;have ok:=Y.ok;have f1:=ok.few;have ls:=nY t.rows;have br:=λq0 e0=>Y.mk_ mq q0 rfl e0;have b1:∀r∈t.rows,KdR (knds t.hd) r:=λr L=>fK (ok.rows r L);have f8:∀r∈srt t.rows,KdR (knds t.hd) r:=λr L=>b1 r (fB L);obtain⟨k2,ek⟩:∃k2:Nat,c % 4=k2:=⟨(c % 4).toNat,by lia⟩;refine⟨_,rfl,M,R,vh,G,X,t,mq,m,n,J,I,rfl,Y.md,bf,ok,Y.pl,br,λD2 aw eg ai bq=>?_⟩;obtain⟨Wt,eW⟩:∃Wt,Wt=fZ { t with rows:=srt t.rows } n I mq.num mq.mark:=⟨_,rfl⟩;rw[<-eW] at bq;have kW:∀r∈Wt,r∈t.rows:=λr L=>by rw[eW] at L;exact fB (List.mem_filter.mp L).1
   have lW:Wt.length<=60:=by rw[eW];exact bAE (bAY _ _) (by show (srt t.rows).length<=60;lia)
   obtain⟨u2,aq,bn⟩:=id bq;have f2:=bn.len;refine⟨D2,u2,Wt,rfl,SqL.of aq,cP bn,λr L=>vU (ok.rows r (kW r L)),by lia,λD3 ej as qs e7 b4 cu am b6=>?_⟩;have la:=am.len;have ld:=b6.2.2;rw[j6] at la;refine⟨D3,as,qs,knds t.hd,rfl,cu,am.imp λ_ _ z=>z.same b4,by lia,jO ok.hd.1,λr L=>b1 r (kW r ((b6.2.1 r).mp L)),λB ed b2 hB ak c3 d0=>?_⟩;refine⟨_,rfl,_,_,rfl,rfl,(by show (0:Int)<4;decide),_,rfl,B,b2,rfl,SqL.of c3,λp aa hp bw bs=>?_⟩;rw[ek,show mY b2 none (some ((k2:Nat):Int))=b2.take k2 from oK _ k2] at bs;have ca:cG (cM K aa) (b2.take k2) ((srt qs).take k2):=(xZ (iC d0) k2).imp λ_ _ z=>z.same (ak.trans bw);have cn:=ai.trans (b4.trans (ak.trans bw));have a7:=k.same cn;have D:=a7.y;have bl:mH K aa X mq:=D.vm;obtain⟨S,eS⟩:∃S,S=(srt qs).take k2:=⟨_,rfl⟩;have dg:∀r∈S,gC t.hd r:=λr L=>by rw[eS] at L;exact ok.rows r (kW r ((b6.2.1 r).mp (fB (bDV L))))
   rw[<-eS] at ca;have d3:bW K aa p S:=⟨_,bs,ca⟩;have fp:p≠M:=(aQ ((ai.trans (b4.trans ak)) _ _ Y.md.1) hp).symm;have dh:∀r∈Wt,KdR (knds t.hd) r:=λr L=>b1 r (kW r L);clear ai b4 ak bw bq aq bn cu am c3 d0 eg e7 hB;obtain⟨dx,bc⟩:=D.st.at_;have ax:e.t.pl=.spans n J I:=by rw[Y.et];exact Y.pl
   obtain⟨_,_,bd⟩:=id D.mv;have nD:∀{b u},aa b=some u->(∀l,u≠.dK l)->b≠U:=λh hu=>(a7.nD h hu).1;have dt:=nD D.md.1 λ_ z=>(by cases z);dsimp only[bO,List.set];refine vB (S:=aJp _) (fun σ H'=>KP K (λb=>b≠U) aa H'/\bC K H' C x m d U [e]/\MvD K H' U e.n (some { mq with mark:=qM mq.mark S })/\σ=[some (.ref a),some (.ref v),some (.ref N),some (.ref x),some (.ref M),some (.int m),some (.int O),some (.int c),some (.ref p)]) (λNX an=>?_) fun σ' bo hJ=>?_
   ·refine⟨_,rfl,x,dx,_,rfl,bc,rfl,_,rfl,N,_,0,.str e.n,rfl,rfl,SqL.of a7.gN,bH (j:=0) a7.at0,_,rfl,_,_,rfl,rfl,(by show (0:Int)<4;decide),x,d,U,m,[e],e,mq,n,J,I,k2,(by show [V.ref x,V.str e.n,V.int (c % 4)]=_;rw[ek]),D.st,j0,D.mv,ax,λq0 e0=>by rw[Y.et];exact br q0 e0,λdc bh=>?_⟩;rw[Y.et,<-eW] at bh;have eq:(srt dc).take k2=S:=by rw[eS,aWf bh b6 dh]
    rw[eq];refine⟨λcl bo bx=>an _ _ ⟨.same bx,D.st.same bx,?_,rfl⟩,λr hl bo ah az ae=>an _ _ ⟨ah,az,?_,rfl⟩⟩
    ·rw[cl];exact D.mv.same bx
    ·rw[show qM mq.mark S=some r by unfold qM;rw[hl]];exact ae
   obtain⟨ah,az,ae,rfl⟩:=hJ;have cw:=D.md.kp ah dt (by obtain⟨uR,gR,_⟩:=id D.md.2.2.2;exact nD gR λ_ z=>(by cases z));have bp:=bl.tk ah.tk;obtain⟨c5,cx,bi⟩:=id (d3.kp ah (nD bs λ_ z=>(by cases z)));have lS:=bi.len;have dd:∀q0,qM mq.mark S=some q0->gC t.hd q0:=λq0 e0=>by
    unfold qM at e0
    split at e0
    ·exact br q0 e0
    ·rename_i r hl;cases e0;exact dg _ (List.mem_of_getLast? hl)
   refine vB (S:=aFx _ _ _) (fun σ H'=>∃b9,Sy K H' C x m d U M R e vh G b9 t n J I (some { mq with mark:=qM mq.mark S })/\KP K (λb=>b≠M/\b≠U) aa H'/\σ=[some (.ref a),some (.ref v),some (.ref N),some (.ref x),some (.ref M),some (.int m),some (.int O),some (.int c),some (.ref p)]) (λNX an=>?_) fun σ' ff hJ=>?_
   ·refine⟨_,rfl,by show 0<=sizeLine;decide,λp9 e5 es ad df=>⟨p,p9,_,rfl,rfl,SqL.of (ad _ _ cx),SqL.of df,_,rfl,?_⟩⟩;have ag:=cw.same ad;have au:=bp.same ad;have bg:=az.same ad;have ay:=ae.same ad;have cd:KP K (λb=>b≠M/\b≠U) aa e5:=(ah.mono λb z=>z.2).trans (.same ad);have c6:∀a5 q0,some { mq with mark:=qM mq.mark S }=some a5->a5.mark=some q0->gC t.hd q0:=λa5 q0 z1 z2=>by cases z1;exact dd q0 z2
    have c4:∀a5,some { mq with mark:=qM mq.mark S }=some a5->a5.house≠kI a5.num J I/\a5.num<=I.length/\0<=a5.house/\a5.house<m:=λa5 z1=>by cases z1;exact Y.hn mq rfl
    have da:∀i u,c5[i]?=some u->∃r,S[i]?=some r/\cM K bo u r:=λi u z=>cA bi z;cases c5 with
    |nil=>have e0:S=[]:=bAZ lS.symm;refine dI rfl (an _ _ ⟨X,⟨bg,ag,ay,?_,Y.et,ok,Y.pl,c6,c4,Y.m2,Y.m4,Y.n1,Y.n2,Y.n3⟩,cd,rfl⟩);rw[e0];exact au
    |cons u0 ur=>
     refine iZ rfl ?_;obtain⟨ul,d4⟩:∃ul,(u0::ur)[(u0::ur).length - 1]?=some ul:=⟨_,b8 (by rw[m8];lia)⟩;obtain⟨r,e2,eb⟩:=da _ _ d4;have hl:S.getLast?=some r:=by rw[List.getLast?_eq_getElem?,<-lS];exact e2
     obtain⟨ma,vk,rfl,bu,_⟩:=id au;refine⟨_,rfl,M,_,3,_,rfl,rfl,SqL.of ag.1,bH (j:=3) rfl,ma,_,0,_,rfl,rfl,bu,at0 _ _,_,rfl,M,_,3,_,rfl,rfl,SqL.of ag.1,bH (j:=3) rfl,ma,_,1,_,rfl,rfl,bu,at1 _ _ _,_,rfl,_,rfl,p,_,_,ul,rfl,rfl,SqL.of (ad _ _ cx),aPb d4,by show 3<=sizeLine;decide,λap bv _ af dq=>?_⟩;have ab:=ag.same af;refine⟨_,rfl,M,_,3,3,rfl,rfl,ab.1,rfl,?_⟩;rw[show ([vh,G,V.ref R,V.ref ma]:List V).set 3 (V.ref ap)=[vh,G,.ref R,.ref ap] from rfl];have a0:KP K (λb=>b≠M) bv (L2.upd bv M (.lst [vh,G,.ref R,.ref ap])):=.iW ab.1 λz=>z rfl;have nM:∀{b u},aa b=some u->(∀l,u≠.lst l)->b≠M:=λh hu z=>by rw[z,D.md.1] at h;cases h;exact hu _ rfl
     refine an _ _ ⟨.ref ap,⟨(bg.same af).kp a0 (nM bc λ_ z=>(by cases z)) (nM D.st.ens.at_ λ_ z=>(by cases z)) (λy hy=>by rw[List.mem_singleton.mp hy];exact Y.n3),⟨aF,ab.2.1.tk a0.tk,ab.2.2.1.tk a0.tk,ab.2.2.2.kp a0 Y.n1.symm⟩,(ay.same af).kp a0 (nM bd λ_ z=>(by cases z)),⟨ap,ul,rfl,a0.tk _ _ (SqT.of dq),?_⟩,Y.et,ok,Y.pl,c6,c4,Y.m2,Y.m4,Y.n1,Y.n2,Y.n3⟩,cd.trans ((KP.same af).trans (a0.mono λb z=>z.1)),rfl⟩;show aHh K _ ul (qM mq.mark S);rw[show qM mq.mark S=some r by unfold qM;rw[hl]];obtain⟨b,e1,hb⟩:=eb;exact⟨b,e1,a0.tk _ _ ((ad.trans af).aR hb)⟩
   obtain⟨b9,cy,kk,rfl⟩:=hJ;have c8:v≠U:=λz=>by obtain⟨_,e1,_⟩:=a7.s;rw[z,bd] at e1;cases e1
   have av:=a7.go (kk.mono λb z=>⟨z.2.1,z.2.2.1⟩) (aO1 a7.s λo h=>kk.st _ _ ⟨a7.nM.symm,c8⟩ h) cy rfl a7.fw a7.nL;refine aUe (λ_=>False) (λH8=>∃e G X t J I o,LI K H8 C x m d U M R N W Pt v a9 xs e vh G X t n J I o (10+(i+1))) (λRR hT hF=>?_) (λ_ z=>z.elim) λH8 z=>?_
   ·refine⟨_,rfl,_,rfl,N,_,0,.str e.n,rfl,rfl,SqL.of av.gN,bH (j:=0) av.at0,_,rfl,_,rfl,x,d,U,M,R,m,e,vh,G,b9,t,n,J,I,_,rfl,av.y,av.gP,λbv af=>⟨_,rfl,bY ?_⟩⟩;have a6:=av.same af;refine⟨_,rfl,_,rfl,N,_,0,.str e.n,rfl,rfl,SqL.of a6.gN,bH (j:=0) a6.at0,_,rfl,x,d,U,M,R,m,e,vh,G,b9,t,n,J,I,_,rfl,a6.y,λe' du dy t' di dk o' ex a0 cp en eL er=>⟨_,rfl,?_⟩⟩;obtain⟨_,_,ev⟩:=id a6.y.mv;have dl:=a6.y.st.ens.at_;have n1:v≠U:=c8;have n2:v≠d:=λz=>by obtain⟨_,e1,_⟩:=a6.s;rw[z,dl] at e1;cases e1
    exact hF _ ⟨e',du,dy,t',di,dk,o',a6.go (a0.mono λb z=>⟨z.2.1,z.2.2.1,z.2.2.2.1⟩) (aO1 a6.s λo h=>a0.st _ _ ⟨a6.nM.symm,n1,n2⟩ h) cp en (by rw[er];exact a6.fw) (by rw[eL];exact a6.nL)⟩
   ·obtain⟨e,G,X,t,J,I,o,k⟩:=z;exact hN _ _ ⟨e,G,X,t,J,I,o,_,k,rfl⟩
  clear k;obtain⟨e,G,X,t,J,I,o,l8,k,rfl⟩:=hJ;refine⟨_,rfl,_,rfl,N,_,0,.str e.n,rfl,rfl,SqL.of k.gN,bH (j:=0) k.at0,_,rfl,_,rfl,x,d,U,M,R,m,e,vh,G,X,t,n,J,I,o,rfl,k.y,k.gP,λed ak=>⟨_,rfl,bY ?_⟩⟩;exact⟨v,e,G,X,t,J,I,o,O,_,_,k.same ak,rfl⟩
 ·obtain⟨st,e,G,X,t,J,I,o,O,l7,l8,k,rfl⟩:=p;exact q bt k.gP
def bBi {fa Pt:Addr}(T:Txt w K mg)(CT:aTi K mg "are_cuts" Pt)(L:mg "law"=some (.ref fa)) :
  ∃fd:FuncData,(∀(s:Shared) (u:Value),BindsTo s fd ⟨[u],[]⟩ [("_law_script",u)])/\∀base:Heap,K.In base->base.Ns mainGlobals mg->BM mg base->gK P w K mg base CX0 15 fa fd ["_law_script"] (aPk K Pt):=by
 obtain⟨f,fd,F,B,m⟩:=T.bDg;have e:fa=f:=by rw[m] at L;injection L with e;injection e with e;exact e.symm
 subst e;refine⟨fd,?_,λbase hK _ J=>?_⟩
 ·obtain⟨⟨oc,od,kV,a3,pm,an,a4,E,a0,rfl,lk,a5⟩,kp⟩:=F;exact λs u=>.of_eq rfl
 ·obtain⟨Tc,D,m0,m3,m4,m6,H,U⟩:=T.bAo;obtain⟨Sc,Z,q0,q1,q2,q3,q4,q5,q6,q7,q8,qs,q9,qa,qb,i,I,j⟩:=T.aWk;obtain⟨CN,SN,q,fN⟩:=T.bE4;have c:=D.cls;have b:=Z.cls;have y:=aK6 (P:=P) (base:=base) T;have g2:=aNx (P:=P) (base:=base) T;have G:=aNj T g2;have g4:=aKu T y g2;have g5:=aN7 T y;have g6:=aGt (P:=P) (base:=base) T;have M:=uA T y;have g:=aFy (P:=P) (base:=base) T;have S:=aA3 T g4 g5;have O:=aN3 (P:=P) (base:=base) T;have z:=aRq (P:=P) (base:=base) T;have C:=aKl T CT hK J (aAr T) (aQx T M) S;have pl:=aDx T g6 (aAi T G g) O C;have d:=aMm T S;have tb:=aLe T (aKo T (aF5 T G g6) (aA8 T) (aDn T) g) pl (aK7 T d);have V:=xX T (aG4 T y G tb);have a:=aIs T G;have ra:=aMx T M (aHd T (zW T g) (aXd T y (aA4 T)) z);have l:=aGk (P:=P) (base:=base) T;have W:=aDq T l (aDm T l);have v:=aLn T W;have n:=aH4 (P:=P) (base:=base) T;have k:=aH7 (P:=P) (base:=base) T;have po:=zW T g;have r:=aNw T b q9 i j a;have E:=aSx T b q1 i a;have Y:=aG2 T po z;have R:=aKa (P:=P) (base:=base) T;have X:=aH5 (P:=P) (base:=base) T;have Q:Ok P w K mg base 1 "_law_home" ["_law_value_here","_law_houses"] aZm:=Ok.ofV T.aK2 aGc (λ_ _ _ _ h=>h.elim) λ_ _ _ _ _ _ _ _ _ _ h=>h.elim;have o:=aDp T n Q k;have p:=aAj T n k;have A:=aNn (P:=P) (w:=w) (mg:=mg) (base:=base) T b q3 j;have t:=aX5 T b q7 i j Y R;have x:=aD9 T p;have N:=aNv T q b qs i j E A t (aG5 T);exact aZ6 F T (aIb T) l (aDo T l (aD7 T)) (rP T l (aG0 T l) W v (OkM.make Z (aSe T b q0 i I j V))) (aGr T l) x (aDu T o (aA6 T o p) r (aVc T b qb i I (OkM.make D (aSn T c m0 H U V))) (aIr T b qa i I a ra r Y R) (aJ1 T c m3 H a) (aRg T c m4 H a) (aSi T c m6 H U a ra)) (aIp T x (aAs T q fN N)) (aAh T l v (aW3 T b q4 i a d X) (aVx T b q5 i a d X)) (aTu T b q6 I j M E (aRb (P:=P) (w:=w) (mg:=mg) (base:=base) T b q2 j)) (aSb T b q8 j E A t)
def aTo {Pt:Addr}{H:Hp}{a:Addr}{e:List Int}{E:XK}(f:e.length<=63)(c:tK [(Pt,qC)] H)(d:SqL K H a (e.map V.int)):aPk K Pt [.ref a] H (λv H'=>v=.bl true/\tK [(Pt,qC)] H') E:=
 ⟨a,e,rfl,d,f,c _ (List.mem_singleton.mpr rfl),λH' h=>⟨rfl,λp b=>by rcases List.mem_singleton.mp b with rfl;exact h⟩⟩
def bAa {h:Heap}{Pt f c:Addr}{o:Obj}{g:FuncData}(X:K.In h)(G:h.Ns mainGlobals mg)(a:PySem.W.nsIn K mainGlobals "are_cuts"=some (some (.ref f)))(l:K.lookup f=some o)(b:o.data=.func g)(e:g.code=.ref c)(d:PySem.W.codeHdIn K c Pt=true):aTi K mg "are_cuts" Pt:=
 ⟨f,o,g,c,bEG X G a,l,b,e,d⟩
def aWu {Pt f c:Addr}{o:Obj}{fd:FuncData}(a:PySem.W.nsIn K mainGlobals "are_cuts"=some (some (.ref f)))(l:K.lookup f=some o)(e1:o.data=.func fd)(e2:fd.code=.ref c)(d:PySem.W.codeHdIn K c Pt=true)(n:K.lookup Pt=none) :
  ∀p∈[(Pt,qC)],(∃c,PySem.W.codeHdIn K c p.1=true)/\K.lookup p.1=none:=λp b=>by
 rcases List.mem_singleton.mp b with rfl;exact⟨⟨c,d⟩,n⟩
def aW8 {Pt:Addr}{h:Heap}(x:∀P∈[Pt],h.get? P=some (PySem.W.tabObj #[])):∀p∈[(Pt,qC)],h.get? p.1=some { cls:=.none,data:=.fields #[] }:=λp a=>by rcases List.mem_singleton.mp a with rfl;exact x _ (List.mem_singleton.mpr rfl)
def aQ8 {l:PySem.W.OpenLaw}{n k:Nat}{q:Program}{loose:List Str}{XP:(bF7)->Heap->Prop}{YP:World->Heap->Prop}{d:DefRec}{K:Params->bF4}{CX:CXT}{sp:bF4->Sp}{x:Str}
  (z:l.most=some n) (b:n<=sizeLine) (t:d.params.defaults=[]) (y:Room k callerA)
  (ts:List (Addr × Str)) (o:(ts.map (·.1)).Nodup)
  (A:∀(w:World) (h:Heap),YP w h->(K w.params).In h/\∀p∈ts,h.get? p.1=some { cls:=.none,data:=.fields #[] })
  (B:∀(w:World),∀p∈ts,(∃c,PySem.W.codeHdIn (K w.params) c p.1=true)/\(K w.params).lookup p.1=none)
  (F:∀(w:World) (mg:bF7) (fa:Addr) (h:Heap),(K w.params).In h->h.Ns mainGlobals mg->mg d.name=some (.ref fa) ->
   ∃fd:FuncData,(∀(s:Shared) (u:Value),BindsTo s fd ⟨[u],[]⟩ [(x,u)]) /\
    ∀base:Heap,(K w.params).In base->base.Ns mainGlobals mg->BM mg base->gK l.prog w (K w.params) mg base CX k fa fd [x] (sp (K w.params)))
  (i:∀(K:bF4) (H:Hp) (a:Addr) (ns:List Int),ns.length<=n->tK ts H->SqL K H a (ns.map V.int)->sp K [.ref a] H (λv H'=>v=.bl true/\tK ts H') λ_ _ _=>False)
  (r:∀(H:Hp) (s:Shared) (e:Value) (s':Shared),CX [] H s (λ_ _ _=>False) e s'->False) :
  PySem.W.WalkO q loose XP YP l.row.toRowW d [] (λf vs=>PySem.call f vs):=
 aS0 (K:=K) (CX:=λ_=>CX) (sp:=λw=>sp (K w.params)) z b t y ts o A B F (λw H a ns m g j=>i (K w.params) H a ns m g j) λ_ H s e s'=>r H s e s'
end
inductive FA (K:bF4)(n:Str)(s:Stmt)(f:Addr):Prop
 |mk {od an:Option Addr} {sl:Array (Option Value)} {kV dc pm cd ct:Value}:PySem.W.nsIn K mainGlobals n=some (some (.ref f))->K.lookup f=some ⟨.type "function",od,.func (PySem.W.fnOf n n (jL s) (cY s) (aC s) .none kV dc pm an cd ct),sl⟩->PySem.W.codeIn K cd n=true->PySem.W.keepIn K (.ref f)=true->FA K n s f
section
variable {K:bF4}{h:Heap}{mg:bF7}{n:Str}{s:Stmt}{f:Addr}{ps:List Str}
def aZy (X:K.In h)(G:h.Ns mainGlobals mg)(a:FA K n s f):mg n=some (.ref f):=by obtain⟨a,_,_,_⟩:=a;exact bEG X G a
def bD1 (X:K.In h)(G:h.Ns mainGlobals mg)(a:FA K n s f)(b:∀(kV doc pm:Value) (an:Option Addr) (cdv ct:Value) (us:List Value),us.length=ps.length->bindArgs (PySem.W.fnOf n n (jL s) (cY s) (aC s) .none kV doc pm an cdv ct) ⟨us,[]⟩=pure (ps.zip us)):Dn K mg n s ps:=by have m:=aZy X G a;obtain⟨_,l,c,k⟩:=a;exact⟨f,_,xQ l c k,(xQ l c k).binds b,m⟩
def bDo (X:K.In h)(G:h.Ns mainGlobals mg)(a:FA K n s f):∃f o,(∃u,mg n=some u/\RelV (.ref f) u)/\K.lookup f=some o/\o.cls=.type "function":=by have m:=aZy X G a;obtain⟨_,l,c,k⟩:=a;exact⟨f,_,⟨_,m,rfl⟩,l,rfl⟩
end
inductive CA (K:bF4)(x:Str)(C:Addr):Prop
 |mk:PySem.W.nsIn K mainGlobals x=some (some (.ref C))->PySem.W.plainGet K C Str.empty=true->PySem.W.hasDictIn K C=true->PySem.W.plainOver K C=true->PySem.W.findIn K (.ref C) "__setattr__"=some (some (.builtin "object.__setattr__"))->PySem.W.makesIn K C=true->PySem.W.keepIn K (.ref C)=true->CA K x C
def bC7 {K:bF4}{h:Heap}{mg:bF7}{x:Str}{C:Addr}(X:K.In h)(G:h.Ns mainGlobals mg)(a:CA K x C):aTt K mg x C:=by obtain⟨a,d,b,c,f,e,g⟩:=a;exact⟨bEG X G a,⟨d,b,c,f⟩,e,g⟩
inductive MA (K:bF4)(C:Addr)(m qual:Str)(s:Stmt)(f:Addr):Prop
 |mk {od an:Option Addr} {sl:Array (Option Value)} {kV dc pm cd ct:Value}:PySem.W.findIn K (.ref C) m=some (some (.ref f))->PySem.W.isFn K (.ref f)=true->K.lookup f=some ⟨.type "function",od,.func (PySem.W.fnOf m qual (jL s) (cY s) (aC s) .none kV dc pm an cd ct),sl⟩->PySem.W.codeIn K cd qual=true->PySem.W.keepIn K (.ref f)=true->MA K C m qual s f
def bEc {K:bF4}{C:Addr}{m qual:Str}{s:Stmt}{f:Addr}{ps:List Str}(a:MA K C m qual s f)(b:∀(kV doc pm:Value) (an:Option Addr) (cdv ct:Value) (us:List Value),us.length=ps.length->bindArgs (PySem.W.fnOf m qual (jL s) (cY s) (aC s) .none kV doc pm an cdv ct) ⟨us,[]⟩=pure (ps.zip us)):dZ K C m qual s ps:=by obtain⟨a,i,l,c,k⟩:=a;exact⟨f,_,⟨a,i,k⟩,xQ l c k,(xQ l c k).binds b⟩
theorem ln0 {P:List Value->Prop}(h:P []):∀us:List Value,us.length=0->P us
 |[],_=>h
theorem lnS {P:List Value->Prop}{n:Nat}(h:∀a us,us.length=n->P (a::us)):∀us:List Value,us.length=n+1->P us
 |[],e=>by cases e
 |a::us,e=>h a us (Nat.succ.inj e)
def ln1 {P:List Value->Prop}(h:∀a0,P [a0]):∀us:List Value,us.length=1->P us:=lnS λa0=>ln0 (h a0)
def ln2 {P:List Value->Prop}(h:∀a0 a1,P [a0,a1]):∀us:List Value,us.length=2->P us:=lnS λa0=>lnS λa1=>ln0 (h a0 a1)
def ln3 {P:List Value->Prop}(h:∀a0 a1 a2,P [a0,a1,a2]):∀us:List Value,us.length=3->P us:=lnS λa0=>lnS λa1=>lnS λa2=>ln0 (h a0 a1 a2)
def ln4 {P:List Value->Prop}(h:∀a0 a1 a2 a3,P [a0,a1,a2,a3]):∀us:List Value,us.length=4->P us:=lnS λa0=>lnS λa1=>lnS λa2=>lnS λa3=>ln0 (h a0 a1 a2 a3)
def ln5 {P:List Value->Prop}(h:∀a0 a1 a2 a3 a4,P [a0,a1,a2,a3,a4]):∀us:List Value,us.length=5->P us:=lnS λa0=>lnS λa1=>lnS λa2=>lnS λa3=>lnS λa4=>ln0 (h a0 a1 a2 a3 a4)
def ln6 {P:List Value->Prop}(h:∀a0 a1 a2 a3 a4 a5,P [a0,a1,a2,a3,a4,a5]):∀us:List Value,us.length=6->P us:=lnS λa0=>lnS λa1=>lnS λa2=>lnS λa3=>lnS λa4=>lnS λa5=>ln0 (h a0 a1 a2 a3 a4 a5)
inductive XA (K:bF4)(x:Str)(C S fI:Addr):Prop
 |mk {nm q:Str} {N:Addr} {bs bm:List Value} {sn:List Str} {sub:List Value} {ab:Bool} {col:Option Bool} {dd:Option Addr} {k0 k1 k2 k3 k5:Option Value} {cd:ClassData} {od an:Option Addr} {sl:Array (Option Value)} {kV dc pm cdv ct:Value} :
  PySem.W.nsIn K mainGlobals x=some (some (.ref C))->PySem.W.nsIn K mainGlobals "ShardError"=some (some (.ref S)) ->
  K.lookup C=some (excClassObj nm q C N bs bm true sn sub ab col dd k0 k1 k2 k3 k5 "ValueError.__new__") ->
  bm.contains (.type "ValueError")=true->bm.contains (.type "AttributeError")=false->bm.contains (.type "NameError")=false->bm.contains (.type "BaseException")=true ->
  PySem.W.clsIn K C=some cd->(aI4 cd.mro && cd.hasDict)=true ->
  PySem.W.findIn K (.ref C) "__init__"=some (some (.ref fI))->PySem.W.typeIn K (.ref fI)=some (.type "function") ->
  PySem.W.findIn K (.ref C) "__setattr__"=some (some (.builtin "object.__setattr__"))->PySem.W.findIn K (.ref C) "__getattribute__"=some (some (.builtin "BaseException.__getattribute__")) ->
  PySem.W.findIn K (.ref C) "__getattr__"=some none->PySem.W.findIn K (.ref C) "act"=some none->PySem.W.findIn K (.ref C) "__class__"=some (some (.builtin "object.__class__")) ->
  K.lookup fI=some ⟨.type "function",od,.func (PySem.W.fnOf "__init__" "ShardError.__init__" (jL lX) (cY lX) (aC lX) .none kV dc pm an cdv ct),sl⟩ ->
  PySem.W.codeIn K cdv "ShardError.__init__"=true->PySem.W.keepIn K (.ref fI)=true->PySem.W.keepIn K (.ref C)=true->PySem.W.typeIn K (.ref C)=some (.type "type") ->
  PySem.W.mroIn K C (.type "BaseException")=some true->PySem.W.mroIn K C (.ref S)=some true->PySem.W.mroIn K C (.ref C)=some true->XA K x C S fI
def bDe {K:bF4}{h:Heap}{mg:bF7}{x:Str}{C S fI:Addr}(X:K.In h)(G:h.Ns mainGlobals mg)(a:XA K x C S fI):∃C S,ExT K mg lX x "ShardError.__init__" C S/\PySem.W.mroIn K C (.ref C)=some true:=by obtain⟨v,A,t,y,z,u,w,m,o,r,n,s,p,q,f,e,c,d,b,l,k,g,j,i⟩:=a;exact⟨C,S,⟨⟨fI,_,⟨⟨_,_,_,_,_,_,_,_,_,_,_,_,_,_,_,t,y,z,u,w⟩,r,n,by rw[m];exact o,s,p,q,f,e⟩,xQ c d b,(xQ c d b).binds λ_ _ _ _ _ _=>ln2 λ_ _=>rfl⟩,bEG X G v,l,⟨k,by rw[m];rfl,g⟩,j⟩,i⟩
def aZv {K:bF4}{h:Heap}{mg:bF7}{n:Str}{l:List V}{a:Addr}{o:Obj}{vs:Array Value}{m:Nat}(X:K.In h)(G:h.Ns mainGlobals mg)(q:PySem.W.nsIn K mainGlobals n=some (some (.ref a)))(r:K.lookup a=some o)(t:o.cls=.type "tuple")(y:o.dict=none)(u:o.data=.seq vs m)(v:Vals l vs.toList)(s:l.length<=1000):∃a,mg n=some (.ref a)/\∀H,SqT K H a l:=
 ⟨_,bEG X G q,λH=>.inr ⟨_,_,_,r,t,y,u,by have e:=v.length;simp only[v4] at e;rw[<-e];exact small s,v⟩⟩
def aZq {K:bF4}{h:Heap}{mg:bF7}{n:Str}{v:V}{u:Value}(X:K.In h)(G:h.Ns mainGlobals mg)(q:PySem.W.nsIn K mainGlobals n=some (some u))(r:RelV v u):∃u,mg n=some u/\RelV v u:=⟨u,bEG X G q,r⟩
def bD8 {K:bF4}{h:Heap}{mg:bF7}{x:Str}{C:Addr}{R:Addr->Prop}(X:K.In h)(G:h.Ns mainGlobals mg)(a:CA K x C)(r:R C):∃C,aTt K mg x C/\R C:=⟨C,bC7 X G a,r⟩
end My
open PySem PySem.W PyProof.Rows
namespace PySem.W.Fast
def tw17028276759578977883:=0
def tw6294741027192329911:=0
def tw17737917443398303407:=0
def tw9903831048770899315:=0
def tw16793940238233181419:=0
def tw3934206848638296143:=0
def tw967791365743464818:=0
def tw11334521317013846848:=0
def tw5425693572183494947:=0
def tw14176769610389375103:=0
def tw6094079443309240555:=0
def tw9402334557790210234:=0
def tw5862924523219431083:=0
def tw10172004350919987222:=0
def tw10048387046203412186:=0
def tw13081473573298778894:=0
def tw10728665713378713410:=0
def tw7432462698461793779:=0
def tw14046940761367415134:=0
def tw15758169420649187480:=0
def tw6860821150184820619:=0
def tw3604641170408429346:=0
def tw9484049287598295223:=0
def tw10652259767826753690:=0
def tw12028283323772486769:=0
def tw11610630207083376773:=0
def tw6745298249601859636:=0
def tw1968925098321117781:=0
def tw10506983070235950987:=0
def tw10857217587706303898:=0
def tw12401258825885934295:=0
def tw5476123735477928272:=0
def tw4523182742905577129:=0
def tw4360275516668264473:=0
def tw8118910608160976682:=0
def tw12498420610889596646:=0
def tw4819599807111418308:=0
def tw17237085128453958106:=0
def tw2190026769253098415:=0
def tw535327810609440949:=0
def tw14133312467852335109:=0
def tw6886625529581811680:=0
def tw12341047329637457492:=0
def tw11216586871899110633:=0
def tw10843581036687311904:=0
def tw3823416293827547529:=0
def tw3792372685837699904:=0
def tw8552198526978809159:=0
def tw12588226719412111950:=0
def tw10702403019959254267:=0
def tw3416197388972151671:=0
def tw3692399559551607089:=0
def tw431692128603762197:=0
def tw11271766779097438100:=0
def tw8199952803896200592:=0
def tw17932110157442707300:=0
def tw1949387335420888920:=0
def tw5868047857554994922:=0
def tw5363459776934305467:=0
def tw11858609761145377265:=0
def tw1869533297673119461:=0
def tw15160516764816509824:=0
def tw14338324695430339221:=0
def tw2685927606535736:=0
def tw12689729765958190138:=0
def tw5975060496555584466:=0
def tw1639022507876802523:=0
def tw13042443580532938181:=0
def tw7183667677463753880:=0
def tw5972074071843696132:=0
def tw2601502507335546018:=0
def tw10750577486050659998:=0
def tw6633230966565466820:=0
def tw5197956445900995063:=0
def tw15945699263546492386:=0
def tw10273187052406838072:=0
def tw9075386469663133154:=0
def tw9057961750194170078:=0
def tw4014071039111074724:=0
def tw18141050576224359707:=0
def tw7904193760905669506:=0
def tw334489093891959615:=0
def tw2736848111212164415:=0
def tw18377176852762098625:=0
def tw1764272828053998278:=0
def tw6869087471921220774:=0
def tw16858876328164710845:=0
def tw15784732035762350392:=0
def tw10510304632098027411:=0
def tw9016119542797871767:=0
def tw10008216810020097625:=0
def tw11874970195411522089:=0
def tw14960402962365151221:=0
def tw4322263644395434366:=0
def tw106978444643211398:=0
def tw17798364740884222974:=0
def tw17687915309788759029:=0
def tw7681209324117062458:=0
def tw14372959979209945939:=0
def tw4223593810123825706:=0
def tw2185048571642538449:=0
def tw12522760247193018541:=0
def tw10369351772183343541:=0
def tw14301634685404752232:=0
def tw13018571114314370207:=0
def tw12649285188656423819:=0
def tw14485872438539214389:=0
def tw11402725374622142732:=0
def tw14148917007445941502:=0
def tw13318111797593491980:=0
def tw1032137357373453640:=0
def tw17371194728114569300:=0
def tw9604125774059682604:=0
def tw6184072133061326519:=0
def tw10299241006459634056:=0
def tw14440713785548520384:=0
def tw12089690163889532818:=0
def tw8477661541653314962:=0
def tw608390113331951297:=0
def tw13658081971206578313:=0
def tw17878270746985165873:=0
def tw16602026054470121267:=0
def tw17290505140710749250:=0
def tw17193658729997383961:=0
def tw9223660035664621697:=0
def tw14787143962270177917:=0
def tw5568350503573078786:=0
def tw13037394155732582676:=0
def tw10265200817768457016:=0
def tw7848475280638494395:=0
def tw4029092818425975113:=0
def tw12691958079800649451:=0
def tw17279425909379089648:=0
def tw15712330322316820925:=0
def tw13558210232684357160:=0
def tw10526544727866820086:=0
def tw7229687179923921865:=0
def tw16610790698868906807:=0
def tw14180021942440610016:=0
def tw322740404870396464:=0
def tw10264926702134270823:=0
def tw1773514251634324983:=0
def tw4350919229071155952:=0
def tw5862904782595207493:=0
def tw8966368922819584789:=0
def tw9300992854726268116:=0
def tw3285417915487351423:=0
def tw7431738721614923724:=0
def tw2175446403733187793:=0
def tw8135663965372865745:=0
def tw784519679599548116:=0
def tw2256968950688775371:=0
def tw11222824633224334472:=0
def tw11379554245299732283:=0
def tw9446068462997626709:=0
def tw2253895139233594714:=0
def tw17719186919384278147:=0
def tw6570149734088314935:=0
def tw12715008425690958776:=0
def tw2419384124787084553:=0
def tw3652911265417001135:=0
def tw14545153752475311979:=0
def tw13458829285174016809:=0
def tw13220037183671524814:=0
def tw13192044292511984910:=0
def tw9381110813036082355:=0
def tw6302338053003983990:=0
def tw6361950846863587105:=0
def tw18045144014350174440:=0
def tw15913485711024013458:=0
def tw6023540240375425755:=0
def tw9121228255795823915:=0
def tw16144969939520436783:=0
def tw12706737717777073309:=0
def tw6806039347491769768:=0
def tw12854060186236991130:=0
def tw9147961239907052393:=0
def tw17298325837170150948:=0
def tw13481242453185426537:=0
def tw4261166716534169300:=0
def tw7206149893548274373:=0
def tw6957172669022371194:=0
def tw4193177350106382201:=0
def tw4971072113105728630:=0
def tw13040109948663648861:=0
def tw17682831597213229149:=0
def tw10519974918575714584:=0
def tw11178274959435348823:=0
def tw3581521479711416256:=0
def tw3353817139639709218:=0
def tw5473182383645477761:=0
def tw16127067663932228248:=0
def tw1903388218323548749:=0
def tw5710731156633212862:=0
def tw11903248000320649509:=0
def tw10662467721052402096:=0
def tw4932982368959695583:=0
def tw6222971420793495493:=0
def tw5503165648562408998:=0
def tw12233751242262940229:=0
def tw10932171838428547648:=0
def tw10877537247605562624:=0
def tw10247346110393909629:=0
def tw7564847223722559285:=0
def tw14681400442407797911:=0
def tw6022599633690360836:=0
def tw16077524783383209443:=0
def tw3774672569562684940:=0
def tw4271279378227058351:=0
def tw10919968556135368136:=0
def tw9171657570182771395:=0
def tw8873004934604522877:=0
def tw15538932709418481884:=0
def tw9707445120490732167:=0
def tw11854654911027525765:=0
def tw15000816126821372364:=0
def tw15288947355842731414:=0
def tw8077571759288130089:=0
def tw18060827383385120053:=0
def tw12682790554013171132:=0
def tw5451721780492055830:=0
def tw8429127742097626593:=0
def tw17899943925095415722:=0
def tw17692920830607055132:=0
def tw8227295297595046181:=0
def tw1925084451579131250:=0
def tw7853726620779909260:=0
def tw3411625809770441654:=0
def tw6924578332535340364:=0
def tw7060011782365980376:=0
def tw5914163021529499183:=0
def tw13804956741355878685:=0
def tw6657340171517565929:=0
def tw17681300549008257545:=0
def tw7983970640863021606:=0
def tw5695956492748102167:=0
def tw15282301018400512983:=0
def tw4977696690866518795:=0
def tw8826085968212299755:=0
def tw16201486760627863811:=0
def tw14330909733436643857:=0
def tw7019417328752542193:=0
def tw13547358979162419141:=0
def tw4966758660759808776:=0
def tw6925489555043166936:=0
def tw10257049293941091924:=0
def tw1060798389305278092:=0
def tw3464106876254380758:=0
def tw957347813717157947:=0
def tw8141999186059590453:=0
def tw6874021410527449082:=0
def tw289263879864819478:=0
def tw17680114980789284220:=0
def tw15541720882196683802:=0
def tw14428226527608402007:=0
def tw15508266909486728575:=0
def tw10978118604457104526:=0
def tw14014488860947823539:=0
def tw10112397549584526901:=0
def tw1590660583747281249:=0
def tw16054912038083618509:=0
def tw4773586145533685448:=0
def tw10978631198482781402:=0
def tw14212283694397555423:=0
def tw11010316556513990483:=0
def tw12301545044358051580:=0
def tw3159201596280512984:=0
def tw8834126518286540579:=0
def tw17411683427691074684:=0
def tw7279046884666028259:=0
def tw14390308541719473187:=0
def tw15787300968884090119:=0
def tw10343555001603537930:=0
def tw18159224557324546812:=0
def tw11050394160447072989:=0
def tw5903222570479055560:=0
def tw15883497531743022170:=0
def tw3527259191750003458:=0
def tw5169867234878787061:=0
def tw2374573933550650391:=0
def tw18195768843705040750:=0
def tw12497218805134008067:=0
def tw9050816951087460683:=0
def tw1454545609681427069:=0
def tw15302243392263350278:=0
def tw12151172934184528903:=0
def tw6571100735571881706:=0
def tw3736422128766129811:=0
def tw4398348451671715494:=0
def tw2403132967857266380:=0
def tw9107825244974912420:=0
def tw5240376465855538010:=0
def tw17669667562100445344:=0
def tw10046317173586558047:=0
def tw9957290042919275796:=0
def tw12881393759999024037:=0
def tw5121832696474588297:=0
def tw4774013758208408201:=0
def tw15402863406912056774:=0
def tw14839026926359204153:=0
def tw7686194029775389474:=0
def tw13263376490045523388:=0
def tw11262157135356187998:=0
def tw14274851376964174359:=0
def tw12081916233650792762:=0
def tw8785800671534102261:=0
def tw6408769313660864937:=0
def tw4282764361155879570:=0
def tw2199921361795469805:=0
def tw1655024239970496581:=0
def tw16209937949828260859:=0
def tw8014192363639294712:=0
def tw5060964780118020582:=0
def tw3917220096083780752:=0
def tw12050341281063161310:=0
def tw15033440433834311999:=0
def tw17175684265410740414:=0
def tw1369166481438705223:=0
def tw8895830558155302496:=0
def tw11448279663712746214:=0
def tw10109824284624943294:=0
def tw220855797323099367:=0
def tw7591175792119187185:=0
def tw17950324793859802112:=0
def tw12487030334206606085:=0
def tw10121043564416235881:=0
def tw693484845529437735:=0
def tw2331071488861767528:=0
def tw1625299378952124820:=0
def tw5861729556191361956:=0
def tw6989870103189382736:=0
def tw1020310599831093600:=0
def tw8209394180130164418:=0
def tw5767957315726114718:=0
def tw15164641614110956595:=0
def tw1345544639848488590:=0
def tw454715648786472865:=0
def tw3088921069870111296:=0
def tw16564809697126438480:=0
def tw11301062906376306865:=0
def tw1124745139378954979:=0
def tw10932710890086456844:=0
def tw8610715412555649274:=0
def tw8513680398626138355:=0
def tw253744472329179612:=0
def tw16577568729580409813:=0
def tw12494028946156044568:=0
def tw2583416372870022065:=0
def tw7587828522093467442:=0
def tw5356082038676217804:=0
def tw8350175261683134058:=0
def tw16538929575496945053:=0
def tw15538836294099383410:=0
def tw14640594378480786971:=0
def tw12104459257557028451:=0
def tw7982021177656989133:=0
def tw6432447669710266714:=0
def tw2455221295361054030:=0
def tw13164473689381469622:=0
def tw10049711865995010542:=0
def tw8458852184717926346:=0
def tw4232745579291192739:=0
def tw12518333513301478339:=0
def tw11449701397109952418:=0
def tw166724149484193958:=0
def tw2093506383783338070:=0
def tw12948389581635157794:=0
def tw9775189718653125666:=0
def tw12509638969355418700:=0
def tw11073178591535592763:=0
def tw4675157195039578139:=0
def tw10928372708344070930:=0
def tw7315724934847207069:=0
def tw400755266057776740:=0
def tw6729340073117883298:=0
def tw885862256006052532:=0
def tw7135353983420828418:=0
def tw7072518591840229216:=0
def tw5122297913989887115:=0
def tw3644575076903469747:=0
def tw17186085103809805649:=0
def tw15662759607308050372:=0
def tw15288646219910100494:=0
def tw18258330433026528453:=0
def tw14623884707263246902:=0
def tw13495396202622779389:=0
def tw2141474553918812448:=0
def tw6892621034861044576:=0
def tw10823907415993749822:=0
def tw6329180209691959181:=0
def tw5301809707998618351:=0
def tw5800608823600417120:=0
def tw10826596720060417312:=0
def tw12172525948906634288:=0
def tw3451154920266853067:=0
def tw7072352062765137017:=0
def tw17482418991687428129:=0
def tw7722327225009625081:=0
def tw13927397841856391459:=0
def tw17822613182157549743:=0
def tw12200543349873531210:=0
def tw118658699981789495:=0
def tw5916673283623942442:=0
def tw7887193782909068902:=0
def tw1798797901967100938:=0
def tw14967144757837349484:=0
def tw7519378157793132148:=0
def tw2507460474078475845:=0
def tw16759511182566318495:=0
def tw4773935734382464079:=0
def tw16205121652560942212:=0
def tw2204352558799403074:=0
def tw13630490701421025314:=0
def tw6505519047566352726:=0
def tw13912549124307105865:=0
def tw12905303570133060120:=0
def tw11807195332352564689:=0
def tw12498386248154591961:=0
def tw2607366171896946782:=0
def tw14405460601374279886:=0
def tw3420339839068933614:=0
def tw16125760542437797605:=0
def tw5316182609725366069:=0
def tw4211649896342872280:=0
def tw18185428554380092392:=0
def tw1627988377561250208:=0
def tw18114206013807662079:=0
def tw2722567829805902586:=0
def tw5481565147334907955:=0
def tw17754779327761473879:=0
def tw2407727717389615028:=0
def tw15945100933389834119:=0
def tw8782906411032348842:=0
def tw425972230398854473:=0
def tw2245851451842626674:=0
def tw7880594247819756404:=0
def tw5647568816799616311:=0
def tw10638711415582326316:=0
def tw15983113160713561149:=0
def tw3922138712373591393:=0
def tw3688261950227364770:=0
def tw16041522203348301594:=0
def tw6943359088392915307:=0
def tw4893367690632626938:=0
def tw2581251311841332412:=0
def tw14957201187647209835:=0
def tw12030823909084891807:=0
def tw9170183494618090314:=0
def tw6786703574113133500:=0
def tw5781032030065945987:=0
def tw5462244261941808263:=0
def tw3385211776480246785:=0
def tw2047509072846025831:=0
def tw191006292289021857:=0
def tw16505636249824659423:=0
end PySem.W.Fast
set_option maxRecDepth 100000 in
set_option maxHeartbeats 0 in
theorem PySem.Challenge.cw_shardask_k64_settle_holds : PySem.Challenge.rw_shardask_k64_settle.Holds := by
 w_on;o_law;k_head;(case hw=>w_witness2)
 k_fill
 refine My.aQ8 (l:=PySem.Challenge.rw_shardask_k64_settle) (n:=63) (k:=15) (x:="_law_script") (CX:=L2.CX0) (sp:=fun K=>My.aPk K 278) rfl (by decide) rfl ⟨rfl,by decide,by decide⟩ [(278,My.qC)] (by decide) (fun w h Y=>⟨PySem.W.km_in_of Y,My.aW8 (PySem.W.km_tabs_of Y)⟩) ?C ?F (fun K H a ns hl hO hS=>My.aTo hl hO hS) (fun _ _ _ _ z=>z)
 case C=>
  intro w
  refine' My.aWu ?a ?l ?e1 ?e2 ?h ?n
  (case a=>k_is)
  (case l=>k_is)
  (case e1=>rfl)
  (case e2=>rfl)
  (case h=>first|k_is|kernel_rfl|decide +kernel)
  (case n=>first|k_is|kernel_rfl|decide +kernel)
 case F=>
  intro w mg fa h KX G hmg
  have T:My.Txt w (L2.KOf KX) mg:=by
   dsimp only [L2.KOf]
   apply My.Txt.mk
   iterate 17 (refine' mg_none_of KX G ?_;k_is)
   (refine' My.aZv KX G ?gq ?gr ?gt ?gy ?gu ?gv ?gs;(case gq=>k_is);(case gr=>k_is);(case gt=>rfl);(case gy=>rfl);(case gu=>rfl);(case gv=>repeat (first|exact L2.aCc|refine L2.lK rfl ?_|refine L2.lK ⟨_,rfl⟩ ?_));(case gs=>decide))
   (refine' My.aZq KX G ?gq ?gr;(case gq=>k_is);(case gr=>exact ⟨_,rfl⟩))
   (refine' My.aZv KX G ?gq ?gr ?gt ?gy ?gu ?gv ?gs;(case gq=>k_is);(case gr=>k_is);(case gt=>rfl);(case gy=>rfl);(case gu=>rfl);(case gv=>repeat (first|exact L2.aCc|refine L2.lK rfl ?_|refine L2.lK ⟨_,rfl⟩ ?_));(case gs=>decide))
   iterate 5 (refine' My.aZq KX G ?gq ?gr;(case gq=>k_is);(case gr=>exact ⟨_,rfl⟩))
   (refine' My.bDo KX G (s:=My.pR) (My.FA.mk ?vj ?vl ?vc ?vk);(case vj=>k_is);(case vl=>k_is);(case vc=>k_is);(case vk=>k_is))
   iterate 56 (refine' My.bD1 KX G (My.FA.mk ?fj ?fl ?fc ?fk) ?fb;(case fj=>k_is);(case fl=>k_is);(case fc=>k_is);(case fk=>k_is);(case fb=>first|exact fun _ _ _ _ _ _=>My.ln1 fun _=>rfl|exact fun _ _ _ _ _ _=>My.ln2 fun _ _=>rfl|exact fun _ _ _ _ _ _=>My.ln3 fun _ _ _=>rfl|exact fun _ _ _ _ _ _=>My.ln4 fun _ _ _ _=>rfl|exact fun _ _ _ _ _ _=>My.ln5 fun _ _ _ _ _=>rfl|exact fun _ _ _ _ _ _=>My.ln6 fun _ _ _ _ _ _=>rfl|exact fun _ _ _ _ _ _=>My.ln0 rfl))
   iterate 2 (refine' My.bD8 KX G (My.CA.mk ?cj ?c1 ?c2 ?c3 ?c4 ?c5 ?c6) ?cr;(case cj=>k_is);(case c1=>first|k_is|kernel_rfl|decide +kernel);(case c2=>first|k_is|kernel_rfl|decide +kernel);(case c3=>first|k_is|kernel_rfl|decide +kernel);(case c4=>first|k_is|kernel_rfl|decide +kernel);(case c5=>first|k_is|kernel_rfl|decide +kernel);(case c6=>first|k_is|kernel_rfl|decide +kernel);(case cr=>(repeat (refine' ⟨My.bEc (My.MA.mk ?mj ?mi ?ml ?mc ?mk) ?mb,?_⟩;(case mj=>k_is);(case mi=>first|k_is|kernel_rfl|decide +kernel);(case ml=>k_is);(case mc=>k_is);(case mk=>k_is);(case mb=>first|exact fun _ _ _ _ _ _=>My.ln1 fun _=>rfl|exact fun _ _ _ _ _ _=>My.ln2 fun _ _=>rfl|exact fun _ _ _ _ _ _=>My.ln3 fun _ _ _=>rfl|exact fun _ _ _ _ _ _=>My.ln4 fun _ _ _ _=>rfl|exact fun _ _ _ _ _ _=>My.ln5 fun _ _ _ _ _=>rfl|exact fun _ _ _ _ _ _=>My.ln6 fun _ _ _ _ _ _=>rfl|exact fun _ _ _ _ _ _=>My.ln0 rfl)));unfold L2.bK;(repeat (refine' ⟨?ma,?_⟩;(case ma=>k_is)));k_is))
   (refine' My.bDe KX G (My.XA.mk ?xy0 ?xy1 ?xy3 ?xr0 ?xr1 ?xr2 ?xr3 ?xy4 ?xr4 ?xy5 ?xy6 ?xy7 ?xy8 ?xy9 ?xy10 ?xy11 ?xy12 ?xy13 ?xy14 ?xy15 ?xy16 ?xy17 ?xy18 ?xy20);(case xy0=>k_is);(case xy1=>k_is);(case xy3=>k_is);(case xr0=>first|rfl|decide +kernel);(case xr1=>first|rfl|decide +kernel);(case xr2=>first|rfl|decide +kernel);(case xr3=>first|rfl|decide +kernel);(case xy4=>k_is);(case xr4=>first|rfl|decide +kernel);(case xy5=>k_is);(case xy6=>k_is);(case xy7=>k_is);(case xy8=>k_is);(case xy9=>k_is);(case xy10=>k_is);(case xy11=>k_is);(case xy12=>k_is);(case xy13=>k_is);(case xy14=>k_is);(case xy15=>k_is);(case xy16=>k_is);(case xy17=>k_is);(case xy18=>k_is);(case xy20=>k_is))
  have C:L2.aTi (L2.KOf KX) mg "are_cuts" 278:=by
   dsimp only [L2.KOf]
   refine' My.bAa KX G ?a ?l ?e1 ?e2 ?h
   (case a=>k_is)
   (case l=>k_is)
   (case e1=>rfl)
   (case e2=>rfl)
   (case h=>first|k_is|kernel_rfl|decide +kernel)
  exact My.bBi (P:=PySem.Challenge.rw_shardask_k64_settle.prog) T C hmg
