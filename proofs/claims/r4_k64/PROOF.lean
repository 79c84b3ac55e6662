import PyProof.Rows.All
import Wide.All
import OpenK.AllK
import Wide.FinOn
import Lean
import PyProof.EqAt
import PyProof.EqKinds
import PyProof.TupleCall
import PyProof.CallType
import PyProof.WalkLemmas
import PyProof.StrOps
import PyProof.ForAny
import PyProof.IsInstanceH
import PyProof.IsiFacts
import PyProof.IsiFacts2
import PyProof.FactsAll.object
import PyProof.ListMulRoad
import PyProof.FactsAll.tuple_2
import PyProof.StrLawsIdx
import KE.KDictList
import PyProof.Rows.Range3
import PyProof.EnumMake
import PyProof.EnumFor
import PyProof.CompUse
import PyProof.ExcClass3
import PyProof.ExcBaseAll.ValueError
import PyProof.InstStoreFacts
import PyProof.ExcArgsOwn
import PyProof.ExcAttrAll.ValueError
import PyProof.ListStr
import PyProof.NeKinds
import PyProof.IsInstanceT
import PyProof.FString5
import PyProof.Rows.SeqMore2
import PyProof.IsiPairs
import PyProof.StrCalls3
import KE.KSortTup
import KE.KSortKey
import PyProof.Rows.SortStr
import KE.KLam
import KE.KDictOf
import KE.KEqDict
import KE.KDictSum
import PyProof.AttrMissHeap
import PyProof.DictWalks
import PyProof.Rows.TupTab
import PyProof.DictItems
import PyProof.FactsAll.set_1
import KE.KRevIter
import PySem.Challenge.RW_shardask_k64_settle
set_option Elab.async false
set_option linter.all false
set_option maxRecDepth 100000
set_option maxHeartbeats 6400000
local macro_rules|`(tactic|trivial)=>`(tactic|(intro a b c d h;first|(cases h;subst_vars;rfl)|(repeat (first|(obtain ⟨e,_⟩:=h;subst e;rfl)|(obtain ⟨_,h⟩:=h)|fail))))
abbrev n6:List PySem.Str:=["self","name"]
abbrev n7:List PySem.Str:=["_law_state","_law_many"]
abbrev n8:List PySem.Str:=["_law_table","_law_houses","_law_house"]
abbrev o4:List PySem.Str:=["thing"]
abbrev o5:List PySem.Str:=["placed","name"]
abbrev o6:List PySem.Str:=["thing","least","most","is_part"]
abbrev o7:List PySem.Str:=["_law_store","_law_name","_law_table","_law_houses"]
abbrev o8:List PySem.Str:=["self","houses","tables"]
abbrev o9:List PySem.Str:=["_law_state","_law_store","_law_name","_law_table"]
abbrev u5:List PySem.Str:=["head","thing"]
abbrev u6:List PySem.Str:=["houses","tables"]
abbrev bQA:List PySem.Str:=["_law_state","_law_head_here"]
abbrev bQB:List PySem.Str:=["_law_cuts","_law_value_here"]
abbrev bQC:List PySem.Str:=["self","name","house"]
abbrev bQD:List PySem.Str:=["_law_head_here","_law_name"]
abbrev bQE:List PySem.Str:=["_law_state","_law_names_here","_law_most"]
abbrev bQF:List PySem.Str:=["self","name","row"]
abbrev bQG:List PySem.Str:=["_law_table"]
abbrev bQH:List PySem.Str:=["table","house","houses"]
abbrev bQI:List PySem.Str:=["_law_state","_law_kind"]
abbrev bQJ:List PySem.Str:=["head","name"]
abbrev bQK:List PySem.Str:=["thing","houses"]
section
open PySem PySem.Spec PySem.Calls PyProof.Rows
def b7:=@wpAny_bind
def b8:=@List.getElem?_eq_getElem
def c7:=@Heap.get?_push_of_some
def d7:=@wpAny_pure
def d8:=@Nat.le_refl
def d9:=@List.size_toArray
def j0:=@List.mem_cons_self
def j4:=@List.getD_eq_getElem?_getD
def j5:=@List.mem_cons_of_mem
def j6:=@List.length_map
def j7:=@Array.getElem?_eq_getElem
def j8:=@Heap.get?_push_size
def j9:=@Heap.lt_size
def m8:=@List.length_cons
def m9:=@decide_eq_true
def t8:=@List.mem_of_getElem?
def v4:=@Array.length_toList
def v5:=@Bool.false_ne_true
def v6:=@Array.getD_eq_getD_getElem?
def v7:=@List.getElem?_map
def v8:=@Nat.ne_of_lt
def v9:=@decide_eq_false
def w6:=@List.length_append
def z9:=@Nat.lt_of_lt_of_le
def bAA:=@List.getElem?_eq_none
def bAB:=@List.not_mem_nil
def bAC:=@Nat.zero_le
def bAD:=@wpAny_call_entry
def bAE:=@Nat.le_trans
def bAF:=@wpAny_newObj_type
def bAG:=@wpAny_callSpecial?_slot
def bAH:=@List.length_range
def bAI:=@List.length_take
def bAJ:=@wpAny_field
def bAK:=@Option.some.inj
def bAL:=@List.map_cons
def bAM:=@List.mem_append_right
def bAN:=@List.mem_cons
def bAO:=@Heap.get?_update_self
def bAP:=@wpAny_setField_rec
def bAQ:=@Int.toNat_natCast
def bAR:=@wpAny_holding
def bAS:=@Bool.and_eq_true
def bAT:=@List.getElem_mem
def bAU:=@Bool.false_eq_true
def bAV:=@Heap.SameBut.update
def bAW:=@List.take_of_length_le
def bAX:=@wpAny_mono
def bAY:=@List.length_filter_le
def bAZ:=@List.eq_nil_of_length_eq_zero
def bBA:=@List.getElem_of_mem
def bBB:=@List.append_nil
def bBC:=@wpAny_truthy_bool
def bBD:=@Heap.get?_update_other
def bBE:=@wpAny_seqItems
def bBF:=@List.map_append
def bBG:=@List.getElem?_append_right
def bBH:=@wpAny_setState_of
def bBI:=@Around.under_plainId
def bBJ:=@List.getElem?_append_left
def bBK:=@wpAny_Call_Name_kw
def bBL:=@Heap.size_push
def bBM:=@Nat.lt_irrefl
def bBN:=@Option.getD_some
def bBO:=@Array.getElem?_toList
def bBP:=@List.take_add_one
def bBQ:=@List.mem_append_left
def bBR:=@codeAny_builtin
def bBS:=@List.length_nil
def bBT:=@List.length_drop
def bBU:=@Nat.lt_succ_of_lt
def bBV:=@wpAny_loadPart_at
def bBW:=@wpAny_setField
def bBX:=@List.eq_of_mem_replicate
def bBY:=@Calls.spliced_cons
def bBZ:=@List.all_eq_true
def bCA:=@List.getElem_toArray
def bCB:=@PyProof.Rows.callWith_type1
def bCC:=@List.ext_getElem?
def bCD:=@List.set_set
def bCE:=@Array.getElem?_eq_none
def bCF:=@List.filterMap_cons
def bCG:=@Bool.eq_iff_iff
def bCH:=@List.find?_cons
def bCI:=@PyProof.Rows.slot_tuple_getitem
def bCJ:=@Nat.lt_of_le_of_lt
def bCK:=@List.contains_cons
def bCL:=@wpAny_typeNameOfWhole_itemiter
def bCM:=@Nat.ne_of_gt
def bCN:=@codeAny_mono
def bCO:=@wpAny_pyIter_list
def bCP:=@List.getElem?_range
def bCQ:=@PyProof.Rows.F.plain_set_update_loop
def bCR:=@Nat.le_succ
def bCS:=@wpAny_attempt
def bCT:=@plainId_quiet
def bCU:=@Nat.lt_succ_self
def bCV:=@List.lookup_cons
def bCW:=@List.take_length
def bCX:=@Nat.not_lt_zero
def bCY:=@List.append_assoc
def bCZ:=@codeAny_call_builtin
def bDA:=@Array.toList_append
def bDB:=@wpAny_isSubtype_exc
def bDC:=@List.mem_map_of_mem
def bDD:=@wpAny_setEntries_of
def bDE:=@wpAny_isInstance
def bDF:=@Nat.le_add_right
def bDG:=@List.filter_cons
def bDH:=@wpAny_askSetting
def bDI:=@Nat.le_of_lt
def bDJ:=@wpAny_call
def bDK:=@SeqAt.EqAt.str_str
def bDL:=@Calls.callWith_builtin
def bDM:=@Obj.data_mapFields
def bDN:=@Nat.zero_add
def bDO:=@List.forIn_cons
def bDP:=@List.length_replicate
def bDQ:=@Obj.isFreed_of_fields
def bDR:=@Array.mem_of_getElem?
def bDS:=@Heap.get?_none_of_le
def bDT:=@Calls.Name_function_global
def bDU:=@wpAny_rule
def bDV:=@List.mem_of_mem_take
def bDW:=@wpAny_fieldsOf
def bDX:=@List.any_eq_true
def bDY:=@List.map_map
def bDZ:=@List.drop_eq_getElem_cons
def bEA:=@Heap.get?_update_ne
def bEB:=@PyProof.Rows.F.entry_set_update_loop
def bEC:=@wpAny_standAt
def bED:=@wpAny_onRaise
def bEE:=@List.take_nil
def bEF:=@List.Pairwise.imp_of_mem
def bEG:=@PySem.W.mg_of
def bEH:=@wpAny_passesOwn
def bEI:=@SeqAt.EqAt.same
def bEJ:=@List.nil_append
def bEK:=@List.filterMap_map
def bEL:=@SeqAt.EqAt.int_int
def bEM:=@List.mem_singleton
def bEN:=@List.map_replicate
def bEO:=@Int.emod_lt_of_pos
def bEP:=@List.filter_filter
def bEQ:=@wpAny_of_eq
def bER:=@List.length_eraseIdx_le
def bES:=@List.getElem?_set_self
def bET:=@Calls.spliced_nil
def bEU:=@wpAny_typeOf
def bEV:=@Nat.lt_trans
def bEW:=@List.drop_of_length_le
def bEX:=@Array.getElem_mem
def bEY:=@Heap.get?_push_ne
def bEZ:=@wpAny_isOneOf_itemiter
def bFA:=@wpAny_pyIter_slot
def bFB:=@Nat.lt_trichotomy
def bFC:=@List.eraseIdxIfInBounds_toArray
def bFD:=@Array.getElem?_setIfInBounds_ne
def bFE:=@List.length_singleton
def bFF:=@List.getElem?_toArray
def bFG:=@PyProof.Rows.callWith_builtin1
def bFH:=@wpAny_forIn_list
def bFI:=@List.any_cons
def bFJ:=@wpAny_handled
def bFK:=@Calls.evalArgs_plain
def bFL:=@wpAny_execs_nil
def bFM:=@List.mem_append
def bFN:=@List.nodup_cons
def bFO:=@Int.emod_nonneg
def bFP:=@List.length_zipWith
def bFQ:=@Bool.or_true
def bFR:=@wpAny_pyIter_tuple
def bFS:=@List.forIn_nil
def bFT:=@wpAny_newTuple
def bFU:=@Nat.lt_or_eq_of_le
def bFV:=@Bool.and_false
def bFW:=@List.length_eraseIdx_of_lt
def bFX:=@List.perm_ext_iff_of_nodup
def bFY:=@wpAny_throw
def bFZ:=@wpAny_letGo
def bF0:=@Option.isSome_map
def bF1:=@Array.toList_push
def bF2:=@wpAny_storeSet_of
def bF3:=@wpAny_dictEntries
abbrev bF4:=PySem.W.Frag
abbrev bF5:=Value->Shared->Prop
abbrev bF6:=List (Addr × Obj)
abbrev bF7:=Str->Option Value
end
local macro_rules
  | `(tactic| trivial) => `(tactic| first | exact Or.inl rfl | exact Or.inr rfl | exact Or.inr (Or.inl rfl) | exact Or.inr (Or.inr rfl) | exact⟨rfl, rfl, rfl, by decide +kernel, rfl, by decide +kernel, by decide +kernel⟩ | exact⟨by decide +kernel, rfl, by decide +kernel, by decide +kernel⟩ | fail)
namespace L2
open PySem PySem.Spec PyProof.Rows
abbrev Key:=Sum Int Str
def wK:Key->Value->Bool
 |.inl k,v=>Value.isInt k v
 |.inr x,v=>Value.isStrOf x v
def bE8 (w:World):Key->Int
 |.inl k=>hashInt k
 |.inr x=>hashStr w x
theorem cO:∀{k:Key} {v:Value},wK k v=true->(∃i t,k=Sum.inl i/\v=Value.int i t)\/(∃x t,k=Sum.inr x/\v=Value.str x t)
 |.inl i,v,h=>by obtain⟨t,e⟩:=Value.isInt_shape h;exact .inl ⟨i,t,rfl,e⟩
 |.inr x,v,h=>by obtain⟨t,e⟩:=Value.isStrOf_shape h;exact .inr ⟨x,t,rfl,e⟩
def aEv (i:Int)(t:Tok):wK (.inl i) (.int i t)=true:=by simp[wK,Value.isInt]
def aFc (x:Str)(t:Tok):wK (.inr x) (.str x t)=true:=by simp[wK,Value.isStrOf]
def bA1 (a b:Int):decide ((Sum.inl a:Key)=Sum.inl b)=(a == b):=by
 by_cases e:a=b
 ·subst e;simp
 ·have h:¬ (Sum.inl a:Key)=Sum.inl b:=λq=>e (Sum.inl.inj q);rw[v9 h];exact (beq_eq_false_iff_ne.mpr e).symm
def bA4 (a b:Str):decide ((Sum.inr a:Key)=Sum.inr b)=decide (a=b):=by
 by_cases e:a=b
 ·subst e;simp
 ·have h:¬ (Sum.inr a:Key)=Sum.inr b:=λq=>e (Sum.inr.inj q);rw[v9 h,v9 e]
def bCl (a:Int)(b:Str):decide ((Sum.inl a:Key)=Sum.inr b)=false:=v9 (λq=>nomatch q)
def bAh (a:Str)(b:Int):decide ((Sum.inr a:Key)=Sum.inl b)=false:=v9 (λq=>nomatch q)
def bI (prog:Program)(w:World):PySem.KeyKind prog w Key where
 is:=wK
 hash:=bE8 w
 inj:=λv a b ha hb=>by
  rcases cO ha with⟨i,t,rfl,rfl⟩|⟨x,t,rfl,rfl⟩
  ·rcases cO hb with⟨j,u,rfl,e⟩|⟨y,u,rfl,e⟩
   ·injection e with e1 _;rw[e1]
   ·exact nomatch e
  ·rcases cO hb with⟨j,u,rfl,e⟩|⟨y,u,rfl,e⟩
   ·exact nomatch e
   ·injection e with e1 _;rw[e1]
 byValue:=λk v h=>by rcases cO h with⟨i,t,rfl,rfl⟩|⟨x,t,rfl,rfl⟩ <;> rfl
 pyHash:=λhv h=>by
  rcases cO hv with⟨i,t,rfl,rfl⟩|⟨x,t,rfl,rfl⟩
  ·exact wpAny_pyHash_int h
  ·exact wpAny_pyHash_str h
 eqBool:=λhu hv h=>by
  rcases cO hu with⟨i,t,rfl,rfl⟩|⟨x,t,rfl,rfl⟩
  ·rcases cO hv with⟨j,u,rfl,rfl⟩|⟨y,u,rfl,rfl⟩
   ·rw[bA1] at h;exact wpAny_eqBool_int h
   ·rw[bCl] at h;exact SeqAt.EqAt.int_str i t y u _ _ _ _ h
  ·rcases cO hv with⟨j,u,rfl,rfl⟩|⟨y,u,rfl,rfl⟩
   ·rw[bAh] at h;exact SeqAt.EqAt.str_int x t j u _ _ _ _ h
   ·rw[bA4] at h;exact wpAny_eqBool_str h
 «strs»:=λk x t v h=>by
  rcases cO h with⟨i,u,rfl,e⟩|⟨y,u,rfl,e⟩
  ·exact nomatch e
  ·injection e with e1 _;subst e1;cases v <;> rfl
def aIc (prog:Program)(w:World)(i:Int)(t:Tok):(bI prog w).is (.inl i) (.int i t)=true:=aEv i t
def aKh (prog:Program)(w:World)(x:Str)(t:Tok):(bI prog w).is (.inr x) (.str x t)=true:=aFc x t
inductive V where
 |non|bl (b:Bool)|int (i:Int)|str (x:Str)|byt (b:Array UInt8)|flt (b:UInt64)|ref (a:Addr)|ty (n:String)
 deriving DecidableEq
def RelV:V->Value->Prop
 |.non,u=>u=Value.none
 |.bl b,u=>u=Value.bool b
 |.int i,u=>∃t,u=Value.int i t
 |.str x,u=>∃t,u=Value.str x t
 |.byt b,u=>∃t,u=Value.bytes b t
 |.flt b,u=>∃t,u=Value.float b t
 |.ref a,u=>u=Value.ref a
 |.ty n,u=>u=Value.type n
abbrev Vals:List V->List Value->Prop:=Paired RelV
theorem Vals.length (r:Vals xs us):xs.length=us.length:=Paired.length r
theorem Vals.get:∀{xs:List V} {us:List Value} {i:Nat} {x:V},Vals xs us->xs[i]?=some x->∃u,us[i]?=some u/\RelV x u
 |_,_,_,_,.nil,e=>by simp at e
 |_,_,0,_,.cons r _,e=>by simp at e;subst e;exact⟨_,rfl,r⟩
 |_,_,i+1,x,.cons _ t,e=>by obtain⟨u,a,b⟩:=Vals.get t (by simpa using e);exact⟨u,by simpa using a,b⟩
theorem Vals.set (r:RelV x u):∀{xs:List V} {us:List Value} (i:Nat),Vals xs us->Vals (xs.set i x) (us.set i u)
 |_,_,_,.nil=>.nil
 |_,_,0,.cons _ t=>.cons r t
 |_,_,i+1,.cons q t=>.cons q (Vals.set r i t)
theorem Vals.append:∀{xs ys:List V} {us ws:List Value},Vals xs us->Vals ys ws->Vals (xs++ys) (us++ws)
 |_,_,_,_,.nil,s=>s
 |_,_,_,_,.cons r t,s=>.cons r (Vals.append t s)
theorem Vals.take:∀{xs:List V} {us:List Value} (n:Nat),Vals xs us->Vals (xs.take n) (us.take n)
 |_,_,0,_=>.nil
 |_,_,_+1,.nil=>.nil
 |_,_,n+1,.cons r t=>.cons r (Vals.take n t)
theorem Vals.drop:∀{xs:List V} {us:List Value} (n:Nat),Vals xs us->Vals (xs.drop n) (us.drop n)
 |_,_,0,r=>r
 |_,_,_+1,.nil=>.nil
 |_,_,n+1,.cons _ t=>Vals.drop n t
def lQ:Option V->Option Value->Prop
 |some v,some u=>RelV v u
 |none,none=>True
 |_,_=>False
def KV {κ:Type}:List (κ × V)->List (κ × Value)->Prop:=Paired λp q=>p.1=q.1/\RelV p.2 q.2
def kV:Key->V
 |.inl i=>.int i
 |.inr x=>.str x
inductive HO where
  |lst (xs:List V)
  |tup (xs:List V)
  |dK (kvs:List (Key × V))|dT (kvs:List (List Key × V))
  |set (S:Int->Bool) (n:Nat)
  |ins (C dx:Addr) (fs:List (Str × V))
  |own (x:Addr)
  |xd (fs:List (Str × V))
  |met (f x:Addr)
  |rng (lo hi:Int)
  |frz (o:Obj) (u:HO)
  |tbl (ps:Array Value)
  |tab (q:Str)
  |ext (φ:Heap->Prop)
abbrev Hp:=Addr->Option HO
def upd (H:Hp)(a:Addr)(o:HO):Hp:=λb=>if b=a then some o else H b
def aF:upd H a o a=some o:=by unfold upd;rw[if_pos rfl]
def aK (h:b≠a):upd H a o b=H b:=by unfold upd;rw[if_neg h]
def aPf:upd (upd H a o) a u=upd H a u:=by funext b;unfold upd;split <;> rfl
def aJ8 {H:Hp}{a b:Addr}{o u:HO}(h:H a=some o)(h':H b=some u)(d:o≠u):a≠b:=by intro e;subst e;rw[h] at h';exact d (bAK h')
def aQ {H:Hp}{a b:Addr}{o:HO}(h:H a=some o)(h':H b=none):a≠b:=by intro e;subst e;rw[h] at h';cases h'
def aAk (h:Heap)(a:Addr)(items:Array Value):Prop:=IsTup h a items/\∀o,h.get? a=some o->o.dict=none
def aAk.of (e:h.get? a=some o)(d:o.dict=none)(x:IsTup h a items):aAk h a items:=⟨x,λc b=>by rw[e] at b;cases b;exact d⟩
theorem aAk.new (h:Heap)(items:Array Value):aAk (h.push { cls:=.type "tuple",data:=.seq items }) h.objs.size items:=.of (j8 _ rfl) rfl (IsTup.new _ _)
def aAk.keep (x:aAk h a items)(k:∀o,h.get? a=some o->h'.get? a=some o):aAk h' a items:=by obtain⟨⟨o,e,c⟩,d⟩:=x;exact .of (k o e) (d o e) ⟨o,k o e,c⟩
section
variable (P:Program)(w:World)
def cV (H:Hp)(h:Heap)(a:Addr):HO->Prop
 |.lst xs=>xs.length<=sizeLine/\∃its n,Vals xs its/\h.get? a=some { cls:=.type "list",data:=.seq its.toArray n }
 |.tup xs=>xs.length<=sizeLine/\∃its:List Value,Vals xs its/\aAk h a its.toArray
 |.dK kvs=>kvs.length<=sizeLine/\(a == sysModules)=false/\∃vs,KV kvs vs/\h.DictOf (bI P w) a vs
 |.dT kvs=>kvs.length<=sizeLine/\(a == sysModules)=false/\∃xs:List (List Key × Addr × Value),
   Paired (λp q=>p.1=q.1/\H q.2.1=some (.tup (p.1.map kV))/\RelV p.2 q.2.2) kvs xs /\
   ∃o es ep,h.get? a=some o/\o.ExactDict/\o.data=.dict es ep/\es.toList=xs.map (entryOfKey (tupleKind (bI P w)))/\(xs.map (·.1)).Nodup
 |.set S n=>h.SetOf (intKind P w) a S n
 |.ins C dx fs=>H dx=some (.own a)/\fs.length<=1000/\dx≠a/\h.get? a=some (PySem.W.instObj C dx) /\
   ∃mA,h.Ns1 dx mA/\(∀f,lQ (fs.lookup f) (mA f))/\PySem.Within mA (fs.map (·.1))
 |.own _=>∃o,h.get? a=some o
 |.xd fs=>∃mA,h.Ns1 a mA/\∀f,lQ (fs.lookup f) (mA f)
 |.rng lo hi=>∃t u v,h.get? a=some { cls:=.type "range",data:=.fields #[.int lo t,.int hi u,.int 1 v] }
 |.frz o u=>h.get? a=some o/\cV H h a u
 |.tbl ps=>h.get? a=some { cls:=.none,data:=.fields ps }
 |.tab q=>∃ps:Array Value,h.get? a=some { cls:=.none,data:=.fields ps }/\TriplesOk ps.toList/\∀pos cv,codeAmong pos ps.toList=some cv->∃c oc vs t,cv=.ref c/\H c=some (.own a)/\h.get? c=some oc/\oc.data=.fields vs/\vs[1]?=some (.str q t)
 |.met f x=>h.get? a=some (PySem.W.methodObj (.ref f) (.ref x))
 |.ext φ=>φ h/\(∃o,h.get? a=some o)/\∀h1 h2:Heap,φ h1->(∀o,h1.get? a=some o->h2.get? a=some o)->φ h2
def HOk (H:Hp)(h:Heap):Prop:=∀a o,H a=some o->cV P w H h a o
end
section
variable {P:Program}{w:World}{H H':Hp}{h h':Heap}{a:Addr}{o:HO}
theorem cV.lt (x:cV P w H h a o):a<h.objs.size:=by
 cases o with
 |lst xs=>obtain⟨_,_,_,_,e⟩:=x;exact j9 e
 |tup xs=>obtain⟨_,_,_,p⟩:=x;exact p.1.lt
 |dK kvs=>obtain⟨_,_,_,_,o,_,_,e,_⟩:=x;exact j9 e
 |dT kvs=>obtain⟨_,_,_,_,o,_,_,e,_⟩:=x;exact j9 e
 |set S n=>obtain⟨o,_,_,_,e,_⟩:=x;exact j9 e
 |ins C dx fs=>obtain⟨_,_,_,e,_⟩:=x;exact j9 e
 |own y=>obtain⟨_,e⟩:=x;exact j9 e
 |xd fs=>obtain⟨_,⟨_,_,_,e,_⟩,_⟩:=x;exact j9 e
 |rng lo hi=>obtain⟨_,_,_,e⟩:=x;exact j9 e
 |frz ob u=>obtain⟨e,_⟩:=x;exact j9 e
 |tbl ps=>exact j9 (show h.get? a=some _ from x)
 |tab q=>obtain⟨_,e,_⟩:=x;exact j9 e
 |met f y=>exact j9 (show h.get? a=some _ from x)
 |ext φ=>obtain⟨_,⟨_,e⟩,_⟩:=x;exact j9 e
theorem Paired.bCm {α β:Type}{F G:α->β->Prop}:∀{l₁:List α} {l₂:List β},Paired F l₁ l₂->(∀a b,F a b->G a b)->Paired G l₁ l₂
 |_,_,.nil,_=>.nil
 |_,_,.cons r t,f=>.cons (f _ _ r) (Paired.bCm t f)
theorem cV.stay (x:cV P w H h a o)(k:∀b u,(b=a\/H b=some (.own a))->h.get? b=some u->h'.get? b=some u)
  (ho:∀b,H b=some (.own a)->H' b=some (.own a)) (J:∀b xs,H b=some (.tup xs)->H' b=some (.tup xs)):cV P w H' h' a o:=by
 induction o with
 |lst xs=>obtain⟨z,l,n,r,e⟩:=x;exact⟨z,l,n,r,k _ _ (.inl rfl) e⟩
 |tup xs=>obtain⟨z,l,r,p⟩:=x;exact⟨z,l,r,p.keep λo e=>k _ _ (.inl rfl) e⟩
 |dK kvs=>obtain⟨z,y,D,r,j,g,i,e,c⟩:=x;exact⟨z,y,D,r,j,g,i,k _ _ (.inl rfl) e,c⟩
 |dT kvs=>obtain⟨z,y,xs,r,j,g,i,e,c⟩:=x;exact⟨z,y,xs,Paired.bCm r λp q z=>⟨z.1,J _ _ z.2.1,z.2.2⟩,j,g,i,k _ _ (.inl rfl) e,c⟩
 |set S n=>obtain⟨j,g,i,t,e,c⟩:=x;exact⟨j,g,i,t,k _ _ (.inl rfl) e,c⟩
 |ins C dx fs=>obtain⟨d,z,F,e,s,⟨A,g,i,G,c⟩,r⟩:=x;exact⟨ho _ d,z,F,k _ _ (.inl rfl) e,s,⟨A,g,i,k _ _ (.inr d) G,c⟩,r⟩
 |own y=>obtain⟨j,e⟩:=x;exact⟨j,k _ _ (.inl rfl) e⟩
 |xd fs=>obtain⟨s,⟨A,g,i,e,c⟩,r⟩:=x;exact⟨s,⟨A,g,i,k _ _ (.inl rfl) e,c⟩,r⟩
 |rng lo hi=>obtain⟨t,u,v,e⟩:=x;exact⟨t,u,v,k _ _ (.inl rfl) e⟩
 |frz j u ih=>obtain⟨e,q⟩:=x;exact⟨k _ _ (.inl rfl) e,ih q⟩
 |tab q=>obtain⟨m,e,t,c⟩:=x;exact⟨m,k _ _ (.inl rfl) e,t,λB I q=>let ⟨c',oc,D,tk,a1,a2,a3,a4⟩:=c B I q;⟨c',oc,D,tk,a1,ho _ a2,k _ _ (.inr a2) a3,a4⟩⟩
 |tbl m=>have e:h.get? a=some { cls:=.none,data:=.fields m }:=x;show h'.get? a=some { cls:=.none,data:=.fields m };exact k a _ (.inl rfl) e
 |met f y=>have e:h.get? a=some (PySem.W.methodObj (.ref f) (.ref y)):=x;show h'.get? a=some (PySem.W.methodObj (.ref f) (.ref y));exact k a _ (.inl rfl) e
 |ext φ=>obtain⟨p,⟨o,e⟩,E⟩:=x;exact⟨E _ _ p λo q=>k _ _ (.inl rfl) q,⟨o,k _ _ (.inl rfl) e⟩,E⟩
theorem HOk.lt (x:HOk P w H h)(e:H a=some o):a<h.objs.size:=(x a o e).lt
theorem HOk.fresh (x:HOk P w H h)(e:h.objs.size<=a):H a=none:=by
 cases q:H a with
 |none=>rfl
 |some u=>exact absurd (z9 (x.lt q) e) (bBM _)
def HOk.kept (x:HOk P w H h)(k:∀b u,h.get? b=some u->h'.get? b=some u):HOk P w H h':=λa o e=>
 (x a o e).stay (λb u _ q=>k b u q) (λ_ q=>q) λ_ _ q=>q
def HOk.laid (x:HOk P w H h)(k:∀b u,h.get? b=some u->h'.get? b=some u)(i:h.objs.size<=a)(g:cV P w (upd H a o) h' a o):HOk P w (upd H a o) h':=λb u e=>by
 have d:=x.fresh i;by_cases f:b=a
 ·subst f;rw[aF] at e;cases e;exact g
 ·rw[aK f] at e;exact (x b u e).stay (λc v _ q=>k c v q) (λc q=>by rw[aK (aQ q d)];exact q) λc j q=>by rw[aK (aQ q d)];exact q
end
def Rd (H:Hp)(a:Addr)(u:HO):Prop:=H a=some u\/∃o,H a=some (.frz o u)
def Rd.ok (r:Rd H a u)(x:HOk P w H h):cV P w H h a u:=by
 rcases r with r|⟨o,r⟩
 ·exact x a u r
 ·obtain⟨_,q⟩:=x a _ r;exact q
def Mut:Option HO->Prop
 |some (.lst _)=>True
 |some (.dK _)=>True
 |some (.dT _)=>True
 |some (.set _ _)=>True
 |some (.ins _ _ _)=>True
 |some (.ext _)=>True
 |some (.tab _)=>True
 |_=>False
section
variable {P:Program}{w:World}{H:Hp}{h h':Heap}{x e:Addr}{o':HO}
def HOk.write (s:HOk P w H h)(j:Mut (H x))(m:e=x\/H e=some (.own x))(k:∀b u,b≠e->h.get? b=some u->h'.get? b=some u)(p:∃u,h'.get? e=some u)
  (n:cV P w (upd H x o') h' x o'):HOk P w (upd H x o') h':=λb u q=>by
 have d:∀c y,H c=some (.own y)->c≠x:=λc y r z=>by subst z;rw[r] at j;exact j
 have f:∀c g,H c=some (.tup g)->c≠x:=λc g r z=>by subst z;rw[r] at j;exact j
 by_cases i:b=x
 ·subst i;rw[aF] at q;cases q;exact n
 ·rw[aK i] at q;by_cases a:b=e
  ·have l:H b=some (.own x):=by
    rcases m with z|z
    ·exact absurd (a.trans z) i
    ·rw[a];exact z
   rw[q] at l;cases l;obtain⟨v,o⟩:=p;exact⟨v,by rw[a];exact o⟩
  ·refine (s b u q).stay (λc v hc r=>k c v ?_ r) (λc r=>by rw[aK (d c b r)];exact r) λc g r=>by rw[aK (f c g r)];exact r
   rcases hc with rfl|hc
   ·exact a
   ·rintro rfl;rcases m with z|z
    ·exact d c b hc z
    ·rw[hc] at z;cases z;exact i rfl
end
structure Un (fs ex:List Addr)(H H':Hp)(h h':Heap):Prop where
 keep:∀b o,h.get? b=some o->H b=none->b∉fs->b∉ex->h'.get? b=some o
 slot:∀b o,h.get? b=some o->H b=none->b∈fs->b∉ex->∃sl,h'.get? b=some { o with slots:=sl }
 free:∀b o,h.get? b=some o->H b=none->b∉ex->H' b=none
 there:∀b o,h.get? b=some o->b∉ex->∃o',h'.get? b=some o'
 tups:∀b xs,H b=some (.tup xs)->H' b=some (.tup xs)
 frzs:∀b o u,H b=some (.frz o u)->H' b=some (.frz o u)
 tbls:∀b ps,H b=some (.tbl ps)->∃more,H' b=some (.tbl (ps++more))
section
variable {fs fs' ex ex':List Addr}{H H1 H2:Hp}{h h1 h2 h':Heap}{a x e:Addr}{o:HO}
def Un.any (u:Un fs ex H H1 h h1)(q:h.get? b=some ob)(n:H b=none)(c:b∉ex):∃sl,h1.get? b=some { ob with slots:=sl }:=by
 by_cases a:b∈fs
 ·exact u.slot b ob q n a c
 ·exact⟨ob.slots,u.keep b ob q n a c⟩
def Un.kept (k:∀b u,h.get? b=some u->h'.get? b=some u):Un fs ex H H h h':=
 ⟨λb a q _ _ _=>k b a q,λb a q _ _ _=>⟨a.slots,k b a q⟩,λ_ _ _ n _=>n,λb a q _=>⟨a,k b a q⟩,λ_ _ q=>q,λ_ _ _ q=>q,λ_ c q=>⟨#[],by rw[q];simp⟩⟩
def Un.refl:Un fs ex H H h h:=Un.kept λ_ _ q=>q
def Un.laid (k:∀b u,h.get? b=some u->h'.get? b=some u)(f:h.objs.size<=a)(c:H a=none):Un fs ex H (upd H a o) h h' where
 keep:=λb u q _ _ _=>k b u q
 slot:=λb u q _ _ _=>⟨u.slots,k b u q⟩
 free:=λb u q n _=>by rw[aK (v8 (z9 (j9 q) f))];exact n
 there:=λb u q _=>⟨u,k b u q⟩
 tups:=λb d q=>by rw[aK (aQ q c)];exact q
 frzs:=λb u d q=>by rw[aK (aQ q c)];exact q
 tbls:=λb e q=>⟨#[],by rw[aK (aQ q c),q];simp⟩
def Un.write (d:Mut (H x))(m:e=x\/H e=some (.own x))(k:∀b u,b≠e->h.get? b=some u->h'.get? b=some u)(i:∃u,h'.get? e=some u):Un fs ex H (upd H x o) h h':=by
 have f:∀b,H b=none->b≠x:=λb n z=>by subst z;rw[n] at d;exact d
 have g:∀b,H b=none->b≠e:=λb n z=>by
  subst z;rcases m with r|r
  ·exact f b n r
  ·rw[n] at r;cases r
 have c:∀b u,H b=some u->¬ Mut (some u)->b≠x:=λb u q nm z=>by subst z;rw[q] at d;exact nm d
 refine⟨λb u q n _ _=>k b u (g b n) q,λb u q n _ _=>⟨u.slots,k b u (g b n) q⟩,λb u q n _=>by rw[aK (f b n)];exact n,λb u q _=>?_,
  λb j q=>by rw[aK (c b _ q λz=>z)];exact q,λb u j q=>by rw[aK (c b _ q λz=>z)];exact q,λb l q=>⟨#[],by rw[aK (c b _ q λz=>z),q];simp⟩⟩
 by_cases a:b=e
 ·subst a;exact i
 ·exact⟨u,k b u a q⟩
end
def trk (h:Heap)(H:Hp):List Addr:=(List.range h.objs.size).filter λa=>(H a).isSome
def aDn (h:Heap)(H:Hp):Heap:=PySem.W.hideAll h (trk h H)
def aQj (h:Heap)(H:Hp):(aDn h H).objs.size=h.objs.size:=PySem.W.hideAll_size _ _
def aVg (e:h.get? b=some o)(n:H b=none):(aDn h H).get? b=some o:=
 PySem.W.hideAll_get _ e λa=>by have q:=(List.mem_filter.mp a).2;rw[n] at q;simp at q
theorem aX3 (e:(aDn h H).get? b=some o):h.get? b=some o/\H b=none:=by
 have a:=PySem.W.of_hideAll (trk h H) e;refine⟨a,?_⟩;cases q:H b with
 |none=>rfl
 |some x=>have c:b∈trk h H:=List.mem_filter.mpr ⟨List.mem_range.mpr (j9 a),by simp[q]⟩;have z:(aDn h H).get? b=none:=PySem.W.hideAll_none (trk h H) c;rw[z] at e;cases e
structure Mod (K:bF4)(mg:bF7)(base:Heap):Prop where
 kin:K.In base
 glob:base.Ns mainGlobals mg
 blt:∃mb,base.Ns builtinsNs mb/\∀x:Str,x≠"__name__"->mb x=bootBuiltins x
 nolimit:base.NoLimit
structure Cx where
 prog:Program
 w:World
 K:bF4
 mg:bF7
 base:Heap
 A:Around
 N:List Str
 s₀:Shared
 H₀:Hp
 env:Env
 outer:List Env
 stack:List Env
 ex:List Addr
 fn:Str->Bool
 calm:Bool
 pn:bF6
 xe:bF5
def frs (l:List Env):List Addr:=l.filterMap (·.frame)
abbrev Cx.fs (X:Cx):List Addr:=frs X.outer
def Vis (sc:Scope)(x:Str):Prop:=sc.names.lookup x=some .local\/sc.names.lookup x=some .cell\/sc.names.lookup x=some .free
def Loc (sc:Scope)(x:Str):Prop:=sc.names.lookup x=some .local\/sc.names.lookup x=some .cell
def Look (env:Env)(h:Heap)(m:bF7)(x:Str)(u:Value):Prop:=
 (env.kindOf x=some .local/\m x=some u)\/((env.kindOf x=some .cell\/env.kindOf x=some .free)/\∃c,env.cells.lookup x=some c/\h.IsCell c (some u))
structure Cx.Ok (X:Cx):Prop where
 mod:Mod X.K X.mg X.base
 kind:X.env.scope.kind=.function
 glob:X.env.globals=mainGlobals
 blt:X.env.builtins=builtinsNs
 above:X.s₀.heap.objs.size<=X.env.locals
 inj:∀x y c,X.env.cells.lookup x=some c->X.env.cells.lookup y=some c->x=y
 has:∀x,(X.env.kindOf x=some .cell\/X.env.kindOf x=some .free)->∃c,X.env.cells.lookup x=some c
 cab:∀x c,X.fn x=true->X.env.cells.lookup x=some c->X.s₀.heap.objs.size<=c
 hd:X.calm=true->X.A.handled=none
 frames:X.A.frames=some X.stack
 stk:X.stack=X.outer\/(X.stack=X.env::X.outer/\X.env.frame=some X.env.locals)
 exf:∀b∈X.ex,b≠X.env.locals/\∀x c,X.env.cells.lookup x=some c->c≠b
 bs:∀b o,X.base.get? b=some o->X.s₀.heap.get? b=some o/\X.H₀ b=none
 bsz:X.base.objs.size<=X.s₀.heap.objs.size
 noex:∀b o,X.base.get? b=some o->b∉X.ex
 exfs:∀b∈X.ex,b∉X.fs
 funs:X.s₀.heap.FunFrames X.base X.outer
 frf:∀b∈X.fs,X.H₀ b=none
structure Inv (X:Cx)(bF8:bF6)(σ:List (Option V))(H:Hp)(s:Shared):Prop where
 ok:X.Ok
 os:s.os=X.s₀.os
 bare:AllBare s.gens
 base:Un X.fs X.ex X.H₀ H X.s₀.heap s.heap
 loc:∃m,s.heap.Ns X.env.locals m/\∀(i:Nat) (x:Str) (v:V),X.N[i]?=some x->σ[i]?=some (some v)->Vis X.env.scope x->∃u,RelV v u/\Look X.env s.heap m x u
 cell:∀x c,X.env.cells.lookup x=some c->∃v,s.heap.IsCell c v
 free:H X.env.locals=none
 freeC:∀x c,X.env.cells.lookup x=some c->H c=none
 pin:∀p∈X.pn++bF8,s.heap.get? p.1=some p.2/\H p.1=none/\p.1≠X.env.locals/\p.1∉X.fs/\∀v,p.2.data≠.cell v
 hok:HOk X.prog X.w H s.heap
 len:σ.length=X.N.length
section
variable {X:Cx}{bF8:bF6}{σ:List (Option V)}{H H':Hp}{s:Shared}{h':Heap}
def Cx.Ok.nofr (c:X.Ok)(e:X.base.get? b=some o):b∉X.fs:=λa=>by have:=(c.funs.mem a).1;rw[e] at this;cases this
theorem Inv.bs (I:Inv X bF8 σ H s):∀b o,X.base.get? b=some o->s.heap.get? b=some o/\H b=none:=λb o e=>
 ⟨I.base.keep b o (I.ok.bs b o e).1 (I.ok.bs b o e).2 (I.ok.nofr e) (I.ok.noex b o e),I.base.free b o (I.ok.bs b o e).1 (I.ok.bs b o e).2 (I.ok.noex b o e)⟩
def Inv.bk (I:Inv X bF8 σ H s):∀b o,X.base.get? b=some o->s.heap.get? b=some o:=λb o e=>(I.bs b o e).1
theorem Inv.mod (I:Inv X bF8 σ H s):Mod X.K X.mg X.base:=I.ok.mod
def Inv.kIn (I:Inv X bF8 σ H s):X.K.In s.heap:=I.ok.mod.kin.keeps I.bk
theorem Inv.nolimit (I:Inv X bF8 σ H s):s.heap.NoLimit:=I.ok.mod.nolimit.keeps I.bk
def Inv.fr (I:Inv X bF8 σ H s):∃m,Fr X.base X.env.locals s.heap m:=
 let ⟨m,hn,_⟩:=I.loc
 ⟨m,hn,I.bk,bAE I.ok.bsz I.ok.above⟩
theorem Inv.lt (I:Inv X bF8 σ H s):X.env.locals<s.heap.objs.size:=let ⟨_,hn,_⟩:=I.loc;hn.lt
def Inv.sz (I:Inv X bF8 σ H s):X.s₀.heap.objs.size<=s.heap.objs.size:=bAE I.ok.above (bDI I.lt)
def Inv.nofs (I:Inv X bF8 σ H s)(h:s.heap.objs.size<=a):a∉X.fs:=λb=>by obtain⟨_,o,c,_⟩:=I.ok.funs.mem b;exact absurd (z9 (j9 c) (bAE I.sz h)) (bBM _)
def Inv.cne (I:Inv X bF8 σ H s):∀x c,X.env.cells.lookup x=some c->c≠X.env.locals:=λx c e z=>by obtain⟨v,o,d,hd⟩:=I.cell x c e;obtain⟨m,⟨h,g,f,b,a,_⟩,_⟩:=I.loc;rw[z,b] at d;cases d;rw[a] at hd;cases hd
theorem Inv.funs (I:Inv X bF8 σ H s):s.heap.FunFrames X.base X.outer:=by
 have c:∀l,(∀b∈frs l,b∈X.fs)->X.s₀.heap.FunFrames X.base l->s.heap.FunFrames X.base l:=by
  intro l
  induction l with
  |nil=>intro _ _;trivial
  |cons env r ih=>intro g h;obtain⟨i,⟨L,o,d,k,j,hd⟩,m⟩:=h;have a:=g L (by unfold frs;rw[bCF,d];exact j0);obtain⟨n,e⟩:=I.base.slot L o j (I.ok.frf L a) a λz=>I.ok.exfs L z a;exact⟨i,⟨L,_,d,k,e,hd⟩,ih (λb f=>g b (by unfold frs;rw[bCF,d];exact j5 _ f)) m⟩
 exact c X.outer (λ_ f=>f) I.ok.funs
theorem Inv.stack (I:Inv X bF8 σ H s):s.heap.FunFrames X.base X.stack:=by
 rcases I.ok.stk with e|⟨e,a⟩
 ·rw[e];exact I.funs
 ·rw[e];obtain⟨m,b,_⟩:=I.loc;refine .cons (by rw[I.ok.kind];decide) a b ?_ I.funs;exact bDS (bAE I.ok.bsz I.ok.above)
def Inv.aHy (I:Inv X bF8 σ H s):∀b∈frs X.stack,b∈X.env.locals::X.fs:=λb a=>by
 rcases I.ok.stk with e|⟨e,c⟩
 ·rw[e] at a;exact j5 _ a
 ·rw[e] at a;unfold frs at a;rw[bCF,c] at a;exact a
def Inv.rG (I:Inv X bF8 σ H s):∀b∈frs X.stack,H b=none:=λb hb=>by
 rcases List.mem_cons.mp (I.aHy b hb) with e|hb
 ·rw[e];exact I.free
 ·obtain⟨_,o,a,_⟩:=I.ok.funs.mem hb;exact I.base.free b o a (I.ok.frf b hb) λz=>I.ok.exfs b z hb
def Inv.step {g':Array GenState}{t':Nat}{d':Drawn}{ch:List Addr}(I:Inv X bF8 σ H s)
  (j:∀b∈ch,(b∈X.ex\/X.s₀.heap.objs.size<=b)/\b≠X.env.locals/\(∀x c,X.env.cells.lookup x=some c->c≠b)/\∀p∈X.pn++bF8,p.1≠b)
  (A:∀b o,b≠X.env.locals->b∉X.fs->b∉ch->s.heap.get? b=some o->H b=none->h'.get? b=some o)
  (slot:∀b o,b≠X.env.locals->b∈X.fs->b∉ch->s.heap.get? b=some o->H b=none->∃sl,h'.get? b=some { o with slots:=sl }) (h:∀b o,b∉ch->s.heap.get? b=some o->H b=none->H' b=none)
  (F:∀b o,b∉ch->s.heap.get? b=some o->∃o',h'.get? b=some o')
  (K:∀b xs,H b=some (.tup xs)->H' b=some (.tup xs)) (M:∀b o u,H b=some (.frz o u)->H' b=some (.frz o u)) (L:∀b ps,H b=some (.tbl ps)->∃more,H' b=some (.tbl (ps++more)))
  (Y:∀m,s.heap.Ns X.env.locals m->h'.Ns X.env.locals m) (Q:HOk X.prog X.w H' h') (W:AllBare g') :
  Inv X bF8 σ H' { s with heap:=h',gens:=g',drawn:=d',toks:=t' }:=by
 have D:∀b o,X.s₀.heap.get? b=some o->b≠X.env.locals:=λb o e=>v8 (z9 (j9 e) I.ok.above);have y:∀b o,X.s₀.heap.get? b=some o->b∉X.ex->b∉ch:=λb o e a B=>by
  rcases (j b B).1 with z|z
  ·exact a z
  ·exact absurd (z9 (j9 e) z) (bBM _)
 have f:∀x c,X.env.cells.lookup x=some c->∀v,s.heap.IsCell c v->h'.IsCell c v:=λx c e v ⟨o,C,hd⟩=>by
  have g:c∉ch:=λz=>(j c z).2.2.1 x c e rfl;by_cases N:c∈X.fs
  ·obtain⟨sl,q⟩:=slot c o (I.cne x c e) N g C (I.freeC x c e);exact⟨_,q,hd⟩
  ·exact⟨o,A c o (I.cne x c e) N g C (I.freeC x c e),hd⟩
 refine⟨I.ok,I.os,W,⟨λb o e n B a=>?_,λb o e n B a=>?_,λb o e n a=>?_,λb o e a=>?_,λb xs e=>K b xs (I.base.tups b xs e),λb o xs e=>M b o xs (I.base.frzs b o xs e),λb ps e=>?_⟩,?_,λx c e=>?_,?_,λx c e=>?_,λp O=>?_,Q,I.len⟩
 ·exact A b o (D b o e) B (y b o e a) (I.base.keep b o e n B a) (I.base.free b o e n a)
 ·obtain⟨sl,t⟩:=I.base.slot b o e n B a;obtain⟨G,E⟩:=slot b _ (D b o e) B (y b o e a) t (I.base.free b o e n a);exact⟨G,E⟩
 ·obtain⟨o',t⟩:=I.base.there b o e a;exact h b o' (y b o e a) t (I.base.free b o e n a)
 ·obtain⟨o',t⟩:=I.base.there b o e a;exact F b o' (y b o e a) t
 ·obtain⟨R,t⟩:=I.base.tbls b ps e;obtain⟨U,E⟩:=L b _ t;exact⟨R++U,by rw[E,Array.append_assoc]⟩
 ·obtain⟨m,V,S⟩:=I.loc;refine⟨m,Y m V,λi x v t E T=>?_⟩;obtain⟨u,r,l⟩:=S i x v t E T;refine⟨u,r,?_⟩;rcases l with l|⟨k,c,e,z⟩
  ·exact .inl l
  ·exact .inr ⟨k,c,e,f x c e _ z⟩
 ·obtain⟨v,z⟩:=I.cell x c e;exact⟨v,f x c e v z⟩
 ·obtain⟨m,⟨o,_,_,C,_⟩,_⟩:=I.loc;exact h _ o (λz=>(j _ z).2.1 rfl) C I.free
 ·obtain⟨v,o,C,hd⟩:=I.cell x c e;exact h c o (λz=>(j c z).2.2.1 x c e rfl) C (I.freeC x c e)
 ·obtain⟨e,n,J,P,d⟩:=I.pin p O;have g:p.1∉ch:=λz=>(j p.1 z).2.2.2 p O rfl;exact⟨A p.1 p.2 J P g e n,h p.1 p.2 g e n,J,P,d⟩
def Inv.un (I:Inv X bF8 σ H s)(u:Un X.fs [] H H' s.heap h')(k:HOk X.prog X.w H' h'):Inv X bF8 σ H' { s with heap:=h',toks:=t' }:=by
 obtain⟨m,⟨o,l,q,g,r⟩,_⟩:=id I.loc;obtain⟨t,i⟩:=u.any g I.free (by simp);exact I.step (g':=s.gens) (d':=s.drawn) (ch:=[]) (λ_ z=>nomatch z) (λb o _ f _ e n=>u.keep b o e n f (by simp)) (λb o _ f _ e n=>u.slot b o e n f (by simp)) (λb o _ e n=>u.free b o e n (by simp)) (λb o _ e=>u.there b o e (by simp)) u.tups u.frzs u.tbls (λp j=>by obtain⟨v,d,c,a,h⟩:=j;rw[g] at a;cases a;exact⟨_,d,c,i,h⟩) k I.bare
def Inv.call (I:Inv X bF8 σ H s)(u:Un (frs X.stack) ch H H' s.heap h')(q:HOk X.prog X.w H' h')(C:AllBare g')
  (h:∀b∈ch,(b∈X.ex\/X.s₀.heap.objs.size<=b)/\b≠X.env.locals/\(∀x c,X.env.cells.lookup x=some c->c≠b)/\∀p∈X.pn++bF8,p.1≠b) :
  Inv X bF8 σ H' { s with heap:=h',gens:=g',drawn:=d',toks:=t' }:=by
 obtain⟨m,⟨o,v,A,j,r⟩,_⟩:=id I.loc;obtain⟨B,f⟩:=u.any j I.free λz=>(h _ z).2.1 rfl;exact I.step (ch:=ch) h (λb o f t a e n=>u.keep b o e n (λz=>(List.mem_cons.mp (I.aHy b z)).elim f t) a) (λb o _ _ a e n=>u.any e n a) (λb o a e n=>u.free b o e n a) (λb o a e=>u.there b o e a) u.tups u.frzs u.tbls (λy l=>by obtain⟨D,i,g,d,k⟩:=l;rw[j] at d;cases d;exact⟨_,i,g,f,k⟩) q C
def Inv.turned (I:Inv X bF8 σ H s)(k:∀b o,b≠it->s.heap.get? b=some o->h'.get? b=some o)(B:H it=none)(g:it≠X.env.locals)
  (t:it∈X.ex\/X.s₀.heap.objs.size<=it) (A:∀x c,X.env.cells.lookup x=some c->c≠it) (y:∀p∈X.pn++bF8,p.1≠it):Inv X bF8 σ H { s with heap:=h',toks:=t' }:=by
 have d:∀b u,H b=some u->b≠it:=λb u e z=>by rw[z,B] at e;cases e
 refine I.step (g':=s.gens) (d':=s.drawn) (ch:=[it]) (λb l=>?_) (λb o _ _ a e _=>k b o (λz=>a (by simp[z])) e) (λb o _ _ a e _=>⟨o.slots,k b o (λz=>a (by simp[z])) e⟩) (λ_ _ _ _ n=>n)
  (λb o a e=>⟨o,k b o (λz=>a (by simp[z])) e⟩) (λ_ _ e=>e) (λ_ _ _ e=>e) (λb w e=>⟨#[],by rw[e];simp⟩) (λm h=>?_) (λb u e=>?_) I.bare
 ·have e:b=it:=by simpa using l
  subst e;exact⟨t,g,A,y⟩
 ·obtain⟨o,f,i,j,r⟩:=h;exact⟨o,f,i,k _ o (Ne.symm g) j,r⟩
 ·refine (I.hok b u e).stay (λc v a q=>k c v ?_ q) (λ_ q=>q) λ_ _ q=>q;rcases a with z|z
  ·rw[z];exact d b u e
  ·exact d c _ z
def Inv.tok (I:Inv X bF8 σ H s)(t:Nat):Inv X bF8 σ H { s with toks:=t }:=I.un (h':=s.heap) (t':=t) Un.refl I.hok
theorem Inv.kept (I:Inv X bF8 σ H s)(k:∀b u,s.heap.get? b=some u->h'.get? b=some u):Inv X bF8 σ H { s with heap:=h',toks:=t' }:=I.un (Un.kept k) (I.hok.kept k)
theorem Inv.laid (I:Inv X bF8 σ H s)(k:∀b u,s.heap.get? b=some u->h'.get? b=some u)(c:s.heap.objs.size<=a)(d:cV X.prog X.w (upd H a o) h' a o) :
  Inv X bF8 σ (upd H a o) { s with heap:=h',toks:=t' }:=I.un (Un.laid k c (I.hok.fresh c)) (I.hok.laid k c d)
theorem Inv.write (I:Inv X bF8 σ H s)(c:Mut (H x))(f:e=x\/H e=some (.own x))(k:∀b u,b≠e->s.heap.get? b=some u->h'.get? b=some u)(a:∃u,h'.get? e=some u)
  (d:cV X.prog X.w (upd H x o) h' x o):Inv X bF8 σ (upd H x o) { s with heap:=h',toks:=t' }:=I.un (Un.write c f k a) (I.hok.write c f k a d)
def Inv.aPw (I:Inv X bF8 σ H s)(h:∀p∈pins',s.heap.get? p.1=some p.2/\H p.1=none/\p.1≠X.env.locals/\p.1∉X.fs/\∀v,p.2.data≠.cell v):Inv X pins' σ H s:=
 ⟨I.ok,I.os,I.bare,I.base,I.loc,I.cell,I.free,I.freeC,λp a=>(List.mem_append.mp a).elim (λz=>I.pin p (bBQ _ z)) (h p),I.hok,I.len⟩
def aJc {N:List Str}(f:N.Nodup){i j:Nat}{x:Str}(a:N[i]?=some x)(b:N[j]?=some x):i=j:=by obtain⟨e,c⟩:=List.getElem?_eq_some_iff.mp a;obtain⟨g,d⟩:=List.getElem?_eq_some_iff.mp b;exact (List.getElem_inj f).mp (c.trans d.symm)
def aE5 {M:Model}{A:Around}{E:bF5}{i:Nat}{x:Str}{v:V}{u:Value}{Q:Unit->Shared->Prop}(I:Inv X bF8 σ H s)(hN:X.N.Nodup)(hi:X.N[i]?=some x)(t:Loc X.env.scope x)(r:RelV v u)
  (h:∀s',Inv X bF8 (σ.set i (some v)) H s'->(∃a,Heap.SameBut a s.heap s'.heap/\(a=X.env.locals\/X.env.cells.lookup x=some a))->Q () s') (hf:X.fn x=true\/X.env.scope.names.lookup x=some .local:=by first|exact .inl rfl|exact .inr rfl|assumption):wpAny M A (storeName X.env x u) Q E s:=by
 obtain⟨m,hn,hl⟩:=id I.loc;have P:(X.env.scope.kind == .class || (X.env.scope.kind == .module && X.env.locals != X.env.globals))=false:=by rw[I.ok.kind];rfl
 have S:i<σ.length:=by rw[I.len];exact (List.getElem?_eq_some_iff.mp hi).1
 have F:=I.cne;have l:∀{a:Addr} {K:Heap},(∃o,s.heap.get? a=some o/\H a=none)->Heap.SameBut a s.heap K->HOk X.prog X.w H K:=λ{a K} ha f b ob e=>by
  obtain⟨_,_,B⟩:=ha;refine (I.hok b ob e).stay (λc W hc q=>(f.2 c ?_).trans q) (λ_ q=>q) λ_ _ q=>q;rintro rfl;rcases hc with rfl|hc
  ·rw[B] at e;cases e
  ·rw[B] at hc;cases hc
 rcases t with hk|hk
 ·refine wpAny_storeName_local hk hn (λK Z f=>?_) P;obtain⟨oL,_,_,a0,_⟩:=id hn;refine h _ ⟨I.ok,I.os,I.bare,⟨λb o e n G t=>?_,λb o e n G t=>?_,I.base.free,λb o e t=>?_,I.base.tups,I.base.frzs,I.base.tbls⟩,⟨_,Z,λj y v' g C e3=>?_⟩,λy c e=>?_,I.free,I.freeC,λp hp=>?_,l ⟨oL,a0,I.free⟩ f,by simpa using I.len⟩ ⟨_,f,.inl rfl⟩
  ·exact (f.2 b (v8 (z9 (j9 e) I.ok.above))).trans (I.base.keep b o e n G t)
  ·obtain⟨sl,g⟩:=I.base.slot b o e n G t;exact⟨sl,(f.2 b (v8 (z9 (j9 e) I.ok.above))).trans g⟩
  ·obtain⟨o',g⟩:=I.base.there b o e t;exact⟨o',(f.2 b (v8 (z9 (j9 e) I.ok.above))).trans g⟩
  ·by_cases J:j=i
   ·subst J;rw[hi] at g;cases g;rw[bES S] at C;cases C;exact⟨u,r,.inl ⟨hk,by simp⟩⟩
   ·rw[List.getElem?_set_ne (Ne.symm J)] at C;obtain⟨u',r',q⟩:=hl j y v' g C e3;refine⟨u',r',?_⟩;rcases q with⟨k,e⟩|⟨k,c,e,z⟩
    ·refine .inl ⟨k,?_⟩;have:y≠x:=λe=>J (aJc hN g (e ▸ hi));simp[this,e]
    ·exact .inr ⟨k,c,e,z.sameBut f (F y c e)⟩
  ·obtain⟨W,z⟩:=I.cell y c e;exact⟨W,z.sameBut f (F y c e)⟩
  ·obtain⟨e,n,U,nf,d⟩:=I.pin p hp;exact⟨(f.2 p.1 U).trans e,n,U,nf,d⟩
 ·have D:X.fn x=true:=by
   rcases hf with z|z
   ·exact z
   ·rw[z] at hk;cases hk
  obtain⟨c,hc⟩:=I.ok.has x (.inl hk);obtain⟨W,z⟩:=I.cell x c hc;refine wpAny_storeName_cell I.ok.kind hk hc z (λK L f=>?_);obtain⟨oc,R,O⟩:=id z;refine h { s with heap:=K } ⟨I.ok,I.os,I.bare,⟨λb o e n G t=>?_,λb o e n G t=>?_,I.base.free,λb o e t=>?_,I.base.tups,I.base.frzs,I.base.tbls⟩,⟨m,hn.sameBut f (Ne.symm (F x c hc)),λj y v' g C e3=>?_⟩,λy Y e=>?_,I.free,I.freeC,λp hp=>?_,l ⟨oc,R,I.freeC x c hc⟩ f,by simpa using I.len⟩ ⟨c,f,.inr hc⟩
  ·exact (f.2 b (v8 (z9 (j9 e) (I.ok.cab x c D hc)))).trans (I.base.keep b o e n G t)
  ·obtain⟨sl,g⟩:=I.base.slot b o e n G t;exact⟨sl,(f.2 b (v8 (z9 (j9 e) (I.ok.cab x c D hc)))).trans g⟩
  ·obtain⟨o',g⟩:=I.base.there b o e t;exact⟨o',(f.2 b (v8 (z9 (j9 e) (I.ok.cab x c D hc)))).trans g⟩
  ·by_cases J:j=i
   ·subst J;rw[hi] at g;cases g;rw[bES S] at C;cases C;exact⟨u,r,.inr ⟨.inl hk,c,hc,L⟩⟩
   ·rw[List.getElem?_set_ne (Ne.symm J)] at C;obtain⟨u',r',q⟩:=hl j y v' g C e3;refine⟨u',r',?_⟩;rcases q with q|⟨k,Y,e,z'⟩
    ·exact .inl q
    ·refine .inr ⟨k,Y,e,z'.sameBut f ?_⟩;rintro rfl;exact J (aJc hN g (I.ok.inj _ _ _ e hc ▸ hi))
  ·by_cases T:Y=c
   ·subst T;exact⟨_,L⟩
   ·obtain⟨w2,z2⟩:=I.cell y Y e;exact⟨w2,z2.sameBut f T⟩
  ·obtain⟨e,n,U,nf,d⟩:=I.pin p hp;refine⟨(f.2 p.1 ?_).trans e,n,U,nf,d⟩;intro q;rw[q,R] at e;have q':=bAK e;exact d W (by rw[<-q'];exact O)
def aKl (I:Inv X bF8 σ H s)(d:X.N.Nodup)(hi:X.N[i]?=some x)(c:Loc X.env.scope x)(r:RelV v u)
  (h:∀s',Inv X bF8 (σ.set i (some v)) H s'->Q () s') (b:X.fn x=true\/X.env.scope.names.lookup x=some .local:=by first|exact .inl rfl|exact .inr rfl|assumption):wpAny M A (storeName X.env x u) Q E s:=
 aE5 I d hi c r (λs' a _=>h s' a) b
def Inv.call' (I:Inv X bF8 σ H s)(ho:s'.os=s.os)(u:Un (frs X.stack) ch H H' s.heap s'.heap)(a:HOk X.prog X.w H' s'.heap)(f:AllBare s'.gens)
  (d:∀b∈ch,(b∈X.ex\/X.s₀.heap.objs.size<=b)/\b≠X.env.locals/\(∀x c,X.env.cells.lookup x=some c->c≠b)/\∀p∈X.pn++bF8,p.1≠b):Inv X bF8 σ H' s':=by
 obtain⟨g,g',d',t',h⟩:=s';have e:=ho;subst e;exact I.call (g':=g') (t':=t') (d':=d') u a f d
end
abbrev XK:=Value->Option Addr->Hp->Prop
abbrev St:=List (Option V)
abbrev VK:=V->Hp->Prop
abbrev TE:=St->Hp->VK->Prop
abbrev TT:=St->Hp->(Bool->Hp->Prop)->Prop
abbrev TA:=St->Hp->(List V->Hp->Prop)->Prop
structure Ends where
 nx:St->Hp->Prop
 rt:VK
 bk:St->Hp->Prop:=λ_ _=>False
 ct:St->Hp->Prop:=λ_ _=>False
abbrev TS:=Ends->St->Hp->Prop
def EP (X:Cx)(bF8:bF6)(σ:St)(Q:VK)(u:Value)(s':Shared):Prop:=∃v H',Inv X bF8 σ H' s'/\RelV v u/\Q v H'
def TP (X:Cx)(bF8:bF6)(σ:St)(Q:Bool->Hp->Prop)(b:Bool)(s':Shared):Prop:=∃H',Inv X bF8 σ H' s'/\Q b H'
def AP (X:Cx)(bF8:bF6)(σ:St)(Q:List V->Hp->Prop)(us:List Value)(s':Shared):Prop:=∃vs H',Inv X bF8 σ H' s'/\Vals vs us/\Q vs H'
def SP (X:Cx)(bF8:bF6)(D:Ends)(f:Flow)(s':Shared):Prop:=
 match f with
 |.next=>∃σ' H',Inv X bF8 σ' H' s'/\D.nx σ' H'
 |.brk=>∃σ' H',Inv X bF8 σ' H' s'/\D.bk σ' H'
 |.cont=>∃σ' H',Inv X bF8 σ' H' s'/\D.ct σ' H'
 |.ret u=>∃v σ' H',Inv X bF8 σ' H' s'/\RelV v u/\D.rt v H'
def PE (X:Cx)(e:Expr)(t:TE):Prop:=
 ∀bF8 s σ H Q,Inv X bF8 σ H s->t σ H Q->wpAny (model X.prog X.w) X.A (eval e X.env) (EP X bF8 σ Q) X.xe s
def PT (X:Cx)(e:Expr)(t:TT):Prop:=
 ∀bF8 s σ H Q,Inv X bF8 σ H s->t σ H Q->wpAny (model X.prog X.w) X.A (isTrue e X.env (eval e X.env)) (TP X bF8 σ Q) X.xe s
def PW (X:Cx)(e:Expr)(t:TT):Prop:=
 ∀whole bF8 s σ H Q,Inv X bF8 σ H s->t σ H Q->wpAny (model X.prog X.w) X.A (isTrue e X.env whole) (TP X bF8 σ Q) X.xe s
def PW.pt (h:PW X e t):PT X e t:=h _
def PA (X:Cx)(es:List Expr)(t:TA):Prop:=
 ∀pos bF8 s σ H Q,Inv X bF8 σ H s->t σ H Q->wpAny (model X.prog X.w) X.A (spliced (backTo pos (starEach es X.env))) (AP X bF8 σ Q) X.xe s
def PS (X:Cx)(st:Stmt)(t:TS):Prop:=
 ∀bF8 s σ H D,Inv X bF8 σ H s->t D σ H->wpAny (model X.prog X.w) X.A (exec st X.env) (SP X bF8 D) X.xe s
def PSs (X:Cx)(st:List Stmt)(t:TS):Prop:=
 ∀bF8 s σ H D,Inv X bF8 σ H s->t D σ H->wpAny (model X.prog X.w) X.A (execs st X.env) (SP X bF8 D) X.xe s
def thn {α:Type}{t:Sem α}{Q Q':α->Shared->Prop}{M:Model}{A:Around}{E:bF5}{s:Shared}(h:wpAny M A t Q E s)(b:∀a s,Q a s->Q' a s):wpAny M A t Q' E s:=bAX h b λ_ _ x=>x
section
variable {X:Cx}
def rP (i:Nat):TE:=fun σ H Q=>∃v,σ[i]?=some (some v)/\Q v H
def tC (v:V):TE:=λ_ H Q=>Q v H
def bBg (k:X.N[i]?=some x)(n:Vis X.env.scope x)(hd:(x == ("__debug__":Str))=false:=by decide)(g:(x == ("__classdict__":Str))=false:=by decide):PE X (.Name x pos) (rP i):=by
 intro b s σ H Q I h;obtain⟨v,e,h⟩:=h;obtain⟨m,j,f⟩:=I.loc;obtain⟨u,r,l⟩:=f i x v k e n;have a:EP X b σ Q u s:=⟨v,H,I,r,h⟩;rcases l with⟨hk,d⟩|⟨hk,c,hc,hcell⟩
 ·exact wpAny_Name (wpAny_loadName_local I.ok.kind hk j d a) hd
 ·rcases hk with hk|hk
  ·exact wpAny_Name (wpAny_loadName_cell I.ok.kind hk hc hcell a) hd
  ·exact wpAny_Name (wpAny_loadName_free I.ok.kind hk hc hcell a g) hd
def aZ4 {i j pos}:PE X (.Constant (.int i) j pos) (tC (.int i)):=λ_ _ _ H _ I h=>wpAny_Constant_int ⟨.int i,H,I.tok _,⟨_,rfl⟩,h⟩
def bEf {b j pos}:PE X (.Constant (.bool b) j pos) (tC (.bl b)):=λ_ _ _ H _ I h=>Constant_bool ⟨.bl b,H,I,rfl,h⟩
def bCt {j pos}:PE X (.Constant .none j pos) (tC .non):=λ_ _ _ H _ I h=>Constant_none ⟨.non,H,I,rfl,h⟩
def bCk {x j pos}:PE X (.Constant (.str x) j pos) (tC (.str x)):=λ_ _ _ H _ I h=>Calls.Constant_str ⟨.str x,H,I.tok _,⟨_,rfl⟩,h⟩
def Gl (X:Cx)(x:Str):Prop:=X.env.kindOf x=some .globalImplicit
def nY (I:Inv X bF8 σ H s)(a:Gl X x)(b:X.mg x=some u)(h:Q u s)
  (hd:(x == ("__debug__":Str))=false:=by decide):wpAny (model X.prog X.w) X.A (eval (.Name x pos) X.env) Q E s:=
 bDT I.ok.kind a (Calls.loadGlobal_global (by rw[I.ok.glob];exact I.mod.glob.keeps I.bk) b h) hd
def qK (I:Inv X bF8 σ H s)(f:Gl X x)(e:X.mg x=none)(c:bootBuiltins x=some u)(h:Q u s)
  (d:x≠"__name__":=by decide) (hd:(x == ("__debug__":Str))=false:=by decide):wpAny (model X.prog X.w) X.A (eval (.Name x pos) X.env) Q E s:=by
 obtain⟨g,a,b⟩:=I.mod.blt;exact bDT I.ok.kind f (Calls.loadGlobal_builtin (by rw[I.ok.glob];exact I.mod.glob.keeps I.bk) e (by rw[I.ok.blt];exact a.keeps I.bk) ((b x d).trans c) h) hd
def aWu (b:Gl X x)(a:X.mg x=some u)(r:RelV v u)(hd:(x == ("__debug__":Str))=false:=by decide):PE X (.Name x pos) (tC v):=
 λ_ _ _ H _ I h=>nY I b a ⟨v,H,I,r,h⟩ hd
def aZc (d:Gl X x)(c:X.mg x=none)(a:bootBuiltins x=some u)(r:RelV v u)(b:x≠"__name__":=by decide)(hd:(x == ("__debug__":Str))=false:=by decide):PE X (.Name x pos) (tC v):=
 λ_ _ _ H _ I h=>qK I d c a ⟨v,H,I,r,h⟩ b hd
variable {a b:Expr}{ta tb:TE}{pos:Pos}
def PC (X:Cx)(op:CmpOp)(a b:Expr)(t:TE):Prop:=
 ∀bF8 s σ H Q,Inv X bF8 σ H s->t σ H Q ->
  wpAny (model X.prog X.w) X.A (eval a X.env) (λv s₁=>wpAny (model X.prog X.w) X.A (eval b X.env) (λu s₂=>wpAny (model X.prog X.w) X.A (compareOp op v u) (EP X bF8 σ Q) X.xe s₂) X.xe s₁) X.xe s
def tB (t:TE):TT:=fun σ H Q=>t σ H λx H1=>∃c,x=.bl c/\Q c H1
def aVh {op:CmpOp}{t:TE}(h:PC X op a b t)(f:behindInMarks op b=false:=by first|exact nobehind _ (by decide) (by decide)|rfl):PT X (.Compare a [op] [b] pos) (tB t):=by intro e s σ H Q I i;refine wpAny_isTrue_Compare1 (thn (h e s σ H _ I i) λv o f=>thn f λu n k=>thn k λc p ⟨x,g,j,l,m⟩=>?_) f;obtain⟨d,rfl,q⟩:=m;cases l;exact bBC ⟨g,j,q⟩
def bCz {e:Expr}{t:TE}(h:PE X e t)(j:∀whole,isTrue e X.env whole=(do let v <-whole;standAt e.pos;holding [v] (truthy v)):=by intro _;rfl):PT X e (tB t):=by intro a s σ H Q I c;refine isTrue_plain (thn (h a s σ H _ I c) λv k ⟨x,b,i,f,g⟩=>?_) (j _);obtain⟨d,rfl,q⟩:=g;cases f;exact bBC ⟨b,i,q⟩
variable {tA tB':TT}{rest:List Expr}
def bDu (t u:TT):TT:=fun σ H Q=>t σ H λc H1=>if c=true then u σ H1 Q else Q false H1
def tOr (t u:TT):TT:=fun σ H Q=>t σ H λc H1=>if c=true then Q true H1 else u σ H1 Q
def bAw (t:TT):TT:=fun σ H Q=>t σ H λc H1=>Q (!c) H1
theorem aYn (f:PT X a tA):PW X (.BoolOp .And [a] pos) tA:=by
 intro d b s σ H Q I h;refine isTrue_and (thn (f b s σ H Q I h) λc g e=>?_);cases c with
 |true=>exact isTrue_and_nil e
 |false=>exact e
theorem bC0 (f:PT X a tA):PW X (.BoolOp .Or [a] pos) tA:=by
 intro d b s σ H Q I h;refine isTrue_or (thn (f b s σ H Q I h) λc g e=>?_);cases c with
 |false=>exact isTrue_or_nil e
 |true=>exact e
theorem bBe (k:PT X a tA)(l:PW X (.BoolOp .And (b::rest) pos) tB'):PW X (.BoolOp .And (a::b::rest) pos) (bDu tA tB'):=by
 intro i d s σ H Q I h;refine isTrue_and (thn (k d s σ H _ I h) λc j ⟨f,g,e⟩=>?_);cases c with
 |true=>exact l i d j σ f Q g e
 |false=>exact⟨f,g,e⟩
theorem bD0 (k:PT X a tA)(l:PW X (.BoolOp .Or (b::rest) pos) tB'):PW X (.BoolOp .Or (a::b::rest) pos) (tOr tA tB'):=by
 intro i d s σ H Q I h;refine isTrue_or (thn (k d s σ H _ I h) λc j ⟨f,g,e⟩=>?_);cases c with
 |true=>exact⟨f,g,e⟩
 |false=>exact l i d j σ f Q g e
def aZ5 (e:PT X a tA):PT X (.UnaryOp .Not a pos) (bAw tA):=by intro b s σ H Q I h;exact isTrue_not (e b s σ H (λc d=>Q (!c) d) I h)
def aZk (ta tb:TE):TE:=fun σ H Q=>ta σ H λx H1=>∃c,x=.bl c/\if c=true then tb σ H1 Q else Q (.bl false) H1
def bC6 (ta tb:TE):TE:=fun σ H Q=>ta σ H λx H1=>∃c,x=.bl c/\if c=true then Q (.bl true) H1 else tb σ H1 Q
def aZg (ta:TE):TE:=fun σ H Q=>ta σ H λx H1=>∃c,x=.bl c/\Q (.bl (!c)) H1
def bBx {op}(h:PE X a t):PE X (.BoolOp op [a] pos) t:=λb s σ H Q I c=>BoolOp_one (h b s σ H Q I c)
theorem bCb (k:PE X a ta)(l:PE X (.BoolOp .And (b::rest) pos) tb):PE X (.BoolOp .And (a::b::rest) pos) (aZk ta tb):=by
 intro d s σ H Q I h;refine BoolOp_and (thn (k d s σ H _ I h) λv i ⟨x,f,g,j,e⟩=>?_);obtain⟨c,rfl,e⟩:=e;cases j;refine bBC ?_;cases c with
 |true=>exact l d i σ f Q g e
 |false=>exact⟨.bl false,f,g,rfl,e⟩
theorem bDl (k:PE X a ta)(l:PE X (.BoolOp .Or (b::rest) pos) tb):PE X (.BoolOp .Or (a::b::rest) pos) (bC6 ta tb):=by
 intro d s σ H Q I h;refine BoolOp_or (thn (k d s σ H _ I h) λv i ⟨x,f,g,j,e⟩=>?_);obtain⟨c,rfl,e⟩:=e;cases j;refine bBC ?_;cases c with
 |false=>exact l d i σ f Q g e
 |true=>exact⟨.bl true,f,g,rfl,e⟩
def bBu (j:PE X a ta):PE X (.UnaryOp .Not a pos) (aZg ta):=by intro b s σ H Q I h;refine UnaryOp_ (thn (j b s σ H _ I h) λv i ⟨x,e,g,f,d⟩=>?_);obtain⟨c,rfl,d⟩:=d;cases f;exact not_of (bBC ⟨.bl (!c),e,g,rfl,d⟩)
def tIf (t:TT)(ta tb:TE):TE:=fun σ H Q=>t σ H λc H1=>if c=true then ta σ H1 Q else tb σ H1 Q
theorem aV7 {c:Expr}(k:PT X c tA)(l:PE X a ta)(m:PE X b tb):PE X (.IfExp c a b pos) (tIf tA ta tb):=by
 intro e s σ H Q I h;refine wpAny_IfExp (thn (k e s σ H _ I h) λd j ⟨g,i,f⟩=>?_);cases d with
 |true=>exact l e j σ g Q i f
 |false=>exact m e j σ g Q i f
end
def SqL (K:bF4)(H:Hp)(a:Addr)(xs:List V):Prop:=
 Rd H a (.lst xs) \/
  ∃o its n,K.lookup a=some o/\o.cls=.type "list"/\o.dict=none/\o.data=.seq its n/\its.size<=sizeLine/\Vals xs its.toList
def SqT (K:bF4)(H:Hp)(a:Addr)(xs:List V):Prop:=
 Rd H a (.tup xs) \/
  ∃o its n,K.lookup a=some o/\o.cls=.type "tuple"/\o.dict=none/\o.data=.seq its n/\its.size<=sizeLine/\Vals xs its.toList
def bE6:Value->Option V
 |.none=>some .non
 |.bool b=>some (.bl b)
 |.int i _=>some (.int i)
 |.str x _=>some (.str x)
 |.bytes b _=>some (.byt b)
 |.float b _=>some (.flt b)
 |.ref a=>some (.ref a)
 |.type n=>some (.ty n)
 |_=>none
theorem RelV.abs (r:RelV x u):bE6 u=some x:=by
 cases x with
 |non=>cases r;rfl
 |bl _=>cases r;rfl
 |int _=>obtain⟨t,rfl⟩:=r;rfl
 |str _=>obtain⟨t,rfl⟩:=r;rfl
 |byt _=>obtain⟨t,rfl⟩:=r;rfl
 |flt _=>obtain⟨t,rfl⟩:=r;rfl
 |ref _=>cases r;rfl
 |ty _=>cases r;rfl
def RelV.inj (r:RelV x u)(q:RelV y u):x=y:=bAK (r.abs.symm.trans q.abs)
theorem Vals.inj:∀{xs ys:List V} {us:List Value},Vals xs us->Vals ys us->xs=ys
 |_,_,_,.nil,.nil=>rfl
 |_,_,_,.cons r t,.cons r' t'=>by rw[r.inj r',Vals.inj t t']
section
variable {X:Cx}{bF8:bF6}{σ:St}{H:Hp}{s:Shared}{a:Addr}{xs ys:List V}
def SqL.of {K:bF4}(h:H a=some (.lst xs)):SqL K H a xs:=.inl (.inl h)
def SqT.of {K:bF4}(h:H a=some (.tup xs)):SqT K H a xs:=.inl (.inl h)
def Inv.list (I:Inv X bF8 σ H s)(h:SqL X.K H a xs):∃its:List Value,Vals xs its/\PlainL s.heap a its.toArray/\xs.length<=sizeLine:=by
 rcases h with h|⟨o,its,n,d,c,hd,b,f,r⟩
 ·obtain⟨z,its,n,r,e⟩:=h.ok I.hok;exact⟨its,r,⟨_,n,e,rfl,rfl,rfl⟩,z⟩
 ·refine⟨its.toList,r,⟨o,n,I.kIn a o d,c,hd,by simpa using b⟩,?_⟩;have e:=r.length;simp only[v4] at e;lia
def Inv.tuple (I:Inv X bF8 σ H s)(h:SqT X.K H a xs):∃its:List Value,Vals xs its/\IsTup s.heap a its.toArray/\xs.length<=sizeLine:=by
 rcases h with h|⟨o,its,n,d,c,hd,b,f,r⟩
 ·obtain⟨z,its,r,p⟩:=h.ok I.hok;exact⟨its,r,p.1,z⟩
 ·refine⟨its.toList,r,⟨o,I.kIn a o d,c,n,by simpa using b⟩,?_⟩;have e:=r.length;simp only[v4] at e;lia
def Inv.aUi (I:Inv X bF8 σ H s)(h:SqL X.K H a xs)(h':SqL X.K H a ys):xs=ys:=by
 obtain⟨c,r,⟨o,n,e,_,_,d⟩,_⟩:=I.list h;obtain⟨b,i,⟨k,j,f,_,_,g⟩,_⟩:=I.list h';rw[e] at f;cases f;rw[d] at g;injection g with d1 _;have:c=b:=by simpa using congrArg Array.toList d1
 subst this;exact r.inj i
def Inv.aQ1 (I:Inv X bF8 σ H s)(h:SqT X.K H a xs)(h':SqT X.K H a ys):xs=ys:=by
 obtain⟨c,r,⟨o,e,_,n,d⟩,_⟩:=I.tuple h;obtain⟨b,i,⟨k,f,_,j,g⟩,_⟩:=I.tuple h';rw[e] at f;cases f;rw[d] at g;injection g with d1 _;have:c=b:=by simpa using congrArg Array.toList d1
 subst this;exact r.inj i
end
abbrev Cx.wish (X:Cx)(E:bF5):Cx:={ X with xe:=E }
abbrev Cx.nox (X:Cx):Cx:=X.wish λ_ _=>False
theorem Cx.Ok.wish {X:Cx}(a:X.Ok)(E:bF5):(X.wish E).Ok:=
 ⟨a.mod,a.kind,a.glob,a.blt,a.above,a.inj,a.has,a.cab,a.hd,a.frames,a.stk,a.exf,a.bs,a.bsz,a.noex,a.exfs,a.funs,a.frf⟩
def Cx.Ok.pU {X:Cx}{E:bF5}(a:(X.wish E).Ok):X.Ok:=
 ⟨a.mod,a.kind,a.glob,a.blt,a.above,a.inj,a.has,a.cab,a.hd,a.frames,a.stk,a.exf,a.bs,a.bsz,a.noex,a.exfs,a.funs,a.frf⟩
section
variable {X:Cx}{bF8:bF6}{σ:St}{H:Hp}{s:Shared}{E:bF5}
theorem Inv.wish (I:Inv X bF8 σ H s)(E:bF5):Inv (X.wish E) bF8 σ H s:=⟨I.ok.wish E,I.os,I.bare,I.base,I.loc,I.cell,I.free,I.freeC,I.pin,I.hok,I.len⟩
theorem Inv.pU (I:Inv (X.wish E) bF8 σ H s):Inv X bF8 σ H s:=⟨I.ok.pU,I.os,I.bare,I.base,I.loc,I.cell,I.free,I.freeC,I.pin,I.hok,I.len⟩
theorem SP.pU (h:SP (X.wish E) bF8 D f s'):SP X bF8 D f s':=by
 cases f with
 |next=>obtain⟨a,b,I,q⟩:=h;exact⟨a,b,I.pU,q⟩
 |brk=>obtain⟨a,b,I,q⟩:=h;exact⟨a,b,I.pU,q⟩
 |cont=>obtain⟨a,b,I,q⟩:=h;exact⟨a,b,I.pU,q⟩
 |ret u=>obtain⟨v,a,b,I,r,q⟩:=h;exact⟨v,a,b,I.pU,r,q⟩
theorem PSs.nox {st:List Stmt}{t:TS}(h:PSs X.nox st t):PSs X st t:=λa s σ H D I b=>
 bAX (h a s σ H D (I.wish _) b) (λ_ _ q=>q.pU) λ_ _ z=>False.elim z
end
section
variable {X:Cx}{st:Stmt}{rest:List Stmt}{t u:TS}{e:Expr}{te:TE}{pos:Pos}
def tD:TS:=λD σ H=>D.nx σ H
def aDz (t u:TS):TS:=λD σ H=>t { D with nx:=u D } σ H
def aY7:PSs X [] tD:=λ_ _ σ H _ I h=>bFL ⟨σ,H,I,h⟩
theorem aSk (g:PS X st t)(i:PSs X rest u):PSs X (st::rest) (aDz t u):=by
 intro a s σ H D I h;refine wpAny_execs_cons (thn (g a s σ H { D with nx:=u D } I h) λf e q=>?_);cases f with
 |next=>obtain⟨d,c,b,q⟩:=q;exact i a e d c D b q
 |ret v=>exact q
 |brk=>exact q
 |cont=>exact q
theorem aWg (b:PS X st t):PSs X [st] t:=by
 intro a s σ H D I h;refine wpAny_execs_cons (thn (b a s σ H D I h) λf c q=>?_);cases f with
 |next=>exact bFL q
 |ret v=>exact q
 |brk=>exact q
 |cont=>exact q
def Inv.quiet (I:Inv X bF8 σ H s):interactive X.env=false:=by simp[interactive,I.ok.kind]
def aIn (te:TE):TS:=λD σ H=>te σ H λ_ H1=>D.nx σ H1
def aP0 (g:PE X e te)(f:swapsWith e none pos.line X.env=pure false:=by rfl):PS X (.Expr e pos) (aIn te):=by intro a s σ H D I h;exact wpAny_Expr_any (thn (g a s σ H _ I h) λv j ⟨x,b,c,i,d⟩=>⟨σ,b,c,d⟩) I.quiet f
def rA (te:TE):TS:=λD σ H=>te σ H D.rt
def bBr (g:PE X e te):PS X (.Return (some e) pos) (rA te):=by intro a s σ H D I h;exact wpAny_Return_some (thn (g a s σ H _ I h) λv i ⟨x,b,c,d,f⟩=>⟨x,σ,b,c,d,f⟩)
def aG3 (c:TT)(t u:TS):TS:=λD σ H=>c σ H λb H1=>if b=true then t D σ H1 else u D σ H1
theorem bDw {c:Expr}{a b:List Stmt}{tc:TT}(k:PT X c tc)(l:PSs X a t)(m:PSs X b u):PS X (.If c a b pos) (aG3 tc t u):=by
 intro e s σ H D I h;refine wpAny_If (thn (k e s σ H _ I h) λd j ⟨g,i,f⟩=>?_);cases d with
 |true=>exact l e j σ g D i f
 |false=>exact m e j σ g D i f
def aUp:TS:=λ_ _ _=>False
def aT6:PS X st aUp:=λ_ _ _ _ _ _ h=>h.elim
end
abbrev TG:=V->St->Hp->(St->Hp->Prop)->Prop
abbrev TGs:=List V->St->Hp->(St->Hp->Prop)->Prop
def PG (X:Cx)(target:Expr)(t:TG):Prop:=
 ∀bF8 s σ H v u Q,Inv X bF8 σ H s->RelV v u->t v σ H Q ->
  wpAny (model X.prog X.w) X.A (assign target X.env u) (λ_ s'=>∃σ' H',Inv X bF8 σ' H' s'/\Q σ' H') X.xe s
def PGs (X:Cx)(ts:List Expr)(t:TGs):Prop:=
 ∀bF8 s σ H vs us Q,Inv X bF8 σ H s->Vals vs us->t vs σ H Q ->
  wpAny (model X.prog X.w) X.A (assignInOrder ((assignEach ts X.env).map (·.2)) us) (λ_ s'=>∃σ' H',Inv X bF8 σ' H' s'/\Q σ' H') X.xe s
abbrev bBl:=V->V->V->Hp->(Hp->Prop)->Prop
def bBw (X:Cx)(t:bBl):Prop:=
 ∀bF8 s σ H o i v ov iv u Q,Inv X bF8 σ H s->RelV o ov->RelV i iv->RelV v u->t o i v H Q ->
  wpAny (model X.prog X.w) X.A (setItem ov iv u) (λ_ s'=>∃H',Inv X bF8 σ H' s'/\Q H') X.xe s
section
variable {X:Cx}{pos:Pos}
def bO (i:Nat):TG:=λv σ H Q=>Q (σ.set i (some v)) H
def aXf (e:X.N.Nodup)(hi:X.N[i]?=some x)(d:Loc X.env.scope x)(c:X.fn x=true\/X.env.scope.names.lookup x=some .local:=by first|exact .inl rfl|exact .inr rfl|assumption):PG X (.Name x pos) (bO i):=by intro a s σ H v u Q I r h;exact wpAny_assign_Name (aKl I e hi d r (λf b=>⟨_,H,b,h⟩) c)
def aQd:TGs:=λvs σ H Q=>vs=[]/\Q σ H
def sW (t:TG)(u:TGs):TGs:=λvs σ H Q=>∃v r,vs=v::r/\t v σ H fun σ' H'=>u r σ' H' Q
def aXe:PGs X [] aQd:=by intro a s σ H c b Q I r h;obtain⟨e,h⟩:=h;subst e;cases r;exact assignInOrder_nil ⟨σ,H,I,h⟩
theorem aS8 {e:Expr}{es:List Expr}{t:TG}{u:TGs}(j:PG X e t)(n:PGs X es u)
  (k:(assignEach (e::es) X.env).map (·.2)=assign e X.env::(assignEach es X.env).map (·.2):=by rfl):PGs X (e::es) (sW t u):=by
 intro a s σ H o m Q I r h;obtain⟨v,l,g,h⟩:=h;subst g;cases r with
 |cons r rr=>rw[k];refine assignInOrder_cons (thn (j a s σ H _ _ _ I r h) λ_ d ⟨f,b,c,i⟩=>?_);exact n a d f b _ _ Q c rr i
def aNd (K:bF4)(n:Nat)(t:TGs):TG:=λv σ H Q=>∃a xs,v=.ref a/\SqT K H a xs/\xs.length=n/\t xs σ H Q
def bCj (z:X.calm=true)(h:PGs X es t)
  (A:(assignEach es X.env).length=n:=by rfl) (q:(assignEach es X.env).findIdx? (·.1)=none:=by rfl):PG X (.Tuple es k pos) (aNd X.K n t):=by
 intro d s σ H v u Q I r c;obtain⟨a,i,w,m,j,c⟩:=c;subst w;cases r;obtain⟨l,f,p,y⟩:=I.tuple m;refine assign_Tuple_tuple (I.ok.hd z) p (by simp[A,<-j,f.length]) q λB g=>?_;have x:=I.kept (t':=s.toks) λb o e=>g b o (v8 (j9 e)) e;exact h d _ σ H i _ Q x (by simpa using f) c
def bDg (to ti:TE)(t:bBl):TG:=λv σ H Q=>to σ H λo H1=>ti σ H1 λi H2=>t o i v H2 λH3=>Q σ H3
def bB3 {o i:Expr}{to ti:TE}{t:bBl}(ho:PE X o to)(hi:PE X i ti)(w:bBw X t)
  (z:∀v,assign (.Subscript o i pos) X.env v=(do
   let ov <-holding [v] (eval o X.env)
   let iv <-holding [v,ov] (eval i X.env)
   standAt pos
   holding [v,ov,iv] (setItem ov iv v)
   release [v,ov,iv] []):=by intro _;rfl):PG X (.Subscript o i pos) (bDg to ti t):=by
 intro a s σ H v u Q I r h;rw[z];refine b7 (bAR (thn (ho a s σ H _ I h) λov g ⟨x,c,q,d,p⟩=>?_));refine b7 (bAR (thn (hi a g σ c _ q p) λiv b ⟨y,f,k,e,m⟩=>?_));refine b7 (bEC (b7 (bAR (thn (w a b σ f x y v ov iv u _ k d e r m) λ_ A ⟨l,n,j⟩=>?_))));exact wpAny_release ⟨σ,l,n,j⟩
def aBs (te:TE)(g:TG):TS:=λD σ H=>te σ H λx H1=>g x σ H1 D.nx
def bAc {tg e:Expr}{te:TE}{g:TG}(m:PE X e te)(o:PG X tg g)(k:swapsWithSole [tg] e pos.line X.env=pure false:=by rfl)(n:swappedStores [tg] e X.env=pure none:=by rfl)
  (l:(assignEach [tg] X.env).map (·.2)=[assign tg X.env]:=by rfl):PS X (.Assign [tg] e pos) (aBs te g):=by
 intro a s σ H D I h;refine wpAny_Assign_stores (thn (m a s σ H _ I h) λv c ⟨x,b,i,d,f⟩=>?_) k n;rw[l];exact thn (o a c σ b x v _ i d f) λ_ j q=>q
def bAv {i:Nat}{x:Str}{e:Expr}{te:TE}{pos':Pos}(m:X.N.Nodup)(hi:X.N[i]?=some x)(l:Loc X.env.scope x)(n:PE X e te)(k:swapsWith e (some (.Name x pos')) pos.line X.env=pure false:=by rfl)(p:X.fn x=true\/X.env.scope.names.lookup x=some .local:=by first|exact .inl rfl|exact .inr rfl|assumption) :
  PS X (.Assign [.Name x pos'] e pos) (aBs te (bO i)):=by
 intro a s σ H D I h;refine wpAny_Assign_Name (thn (n a s σ H _ I h) λv o ⟨y,b,g,d,f⟩=>?_) k;exact aKl g m hi l d (λj c=>⟨_,b,c,f⟩) p
end
structure It where
 go:Nat->Hp->Prop
 yld:Nat->Hp->V->Hp->Prop
 stop:Nat->Hp->Prop
def sE (X:Cx)(bF8:bF6)(H:Hp)(b:Addr):Prop:=
 H b=none/\b≠X.env.locals/\b∉X.fs/\(b∈X.ex\/X.s₀.heap.objs.size<=b)/\(∀x c,X.env.cells.lookup x=some c->c≠b)/\∀p∈X.pn++bF8,p.1≠b
def Inv.aLe (I:Inv X bF8 σ H s)(a:s.heap.objs.size<=b)(f:H' b=none):sE X bF8 H' b:=by
 refine⟨f,bCM (z9 I.lt a),I.nofs a,.inr (bAE I.sz a),λx c e z=>?_,λp d z=>?_⟩
 ·obtain⟨v,q⟩:=I.cell x c e;exact absurd (z9 q.lt (by rw[z];exact a)) (bBM _)
 ·exact absurd (z9 (j9 (I.pin p d).1) (by rw[z];exact a)) (bBM _)
structure Turn (P:Program)(w:World)(K:bF4)(tg:Expr)(J:It)(fp:List Addr)(it:Addr)(tn:Nat->Heap->Prop):Prop where
 mem:it∈fp
 obj:∀i h,tn i h->∀b∈fp,∃o,h.get? b=some o/\∀v,o.data≠.cell v
 keep:∀i h h',tn i h->(∀b∈fp,∀o,h.get? b=some o->h'.get? b=some o)->tn i h'
 item:∀(X:Cx),X.prog=P->X.w=w->X.K=K->X.calm=true->∀(i:Nat) (bF8:bF6) (s:Shared) (σ:St) (H:Hp) (E:bF5),Inv X bF8 σ H s->(∀b∈fp,sE X bF8 H b)->tn i s.heap->J.go i H ->
  wpAny (model P w) X.A (pyNext (.ref it)) (λr s1=>∃u,r=some u /\
   wpAny (model P w) X.A (letOwnedTupleGo tg (.ref it) u) (λ_ s2=>∃x H',Inv X bF8 σ H' s2/\RelV x u/\J.yld i H x H'/\tn (i+1) s2.heap/\∀b∈fp,H' b=none) E s1) E s
 done:∀(X:Cx),X.prog=P->X.w=w->X.K=K->X.calm=true->∀(i:Nat) (bF8:bF6) (s:Shared) (σ:St) (H:Hp) (E:bF5),Inv X bF8 σ H s->(∀b∈fp,sE X bF8 H b)->tn i s.heap->J.stop i H ->
  wpAny (model P w) X.A (pyNext (.ref it)) (λr s1=>r=none/\Inv X bF8 σ H s1) E s
 self:∀(A:Around) (i:Nat) (s:Shared) (Q:bF5) (E:bF5),tn i s.heap->Q (.ref it) s->wpAny (model P w) A (pyIter (.ref it)) Q E s
abbrev TI:=St->Hp->(It->Hp->Prop)->Prop
def PIE (X:Cx)(bF8:bF6)(σ:St)(tg:Expr)(R:It->Hp->Prop)(itv:Value)(s2:Shared):Prop:=
 ∃it fp tn J H',itv=.ref it/\Inv X bF8 σ H' s2/\Turn X.prog X.w X.K tg J fp it tn/\tn 0 s2.heap/\(∀b∈fp,sE X bF8 H' b)/\R J H'
def PI (X:Cx)(tg iter:Expr)(wi:TI):Prop:=
 ∀bF8 s σ H R,Inv X bF8 σ H s->wi σ H R ->
  wpAny (model X.prog X.w) X.A (eval iter X.env) (λv s1=>wpAny (model X.prog X.w) X.A (pyIter v) (PIE X bF8 σ tg R) X.xe s1) X.xe s
def aKt (ho:s.heap.get? it=some o)(b:o.cls=.type n)(hd:o.data=.fields vs)
  (c:["enumerate","zip","dict_itemiterator","dict_reverseitemiterator","odict_iterator","itertools.zip_longest","itertools.pairwise"].contains n=false) (a:Q () s):wpAny M A (letOwnedTupleGo tg (.ref it) u) Q E s:=by
 unfold letOwnedTupleGo;cases tg <;> first
  |exact d7 a
  |(cases u <;> first
    |exact d7 a
    |(refine b7 (wpAny_load ho ?_);rw[b,hd];show wpAny M A (if (["enumerate","zip","dict_itemiterator","dict_reverseitemiterator","odict_iterator","itertools.zip_longest","itertools.pairwise"].contains n && vs[0]? == some (rawInt _))=true then _ else _) Q E s;rw[if_neg (by intro h;rw[c,Bool.false_and] at h;cases h)];exact d7 a))
def Itl (K:bF4)(a:Addr):It:=
 ⟨λi H=>∃xs x,SqL K H a xs/\xs[i]?=some x,λi H x H'=>H'=H/\∀xs,SqL K H a xs->xs[i]?=some x,λi H=>∃xs,SqL K H a xs/\xs.length<=i⟩
def Itt (K:bF4)(a:Addr):It:=
 ⟨λi H=>∃xs x,SqT K H a xs/\xs[i]?=some x,λi H x H'=>H'=H/\∀xs,SqT K H a xs->xs[i]?=some x,λi H=>∃xs,SqT K H a xs/\xs.length<=i⟩
def Itr (lo:Int)(n:Nat):It:=⟨λi _=>i<n,λi H x H'=>H'=H/\x=.int (lo+i),λi _=>n<=i⟩
def aRl {P:Program}{w:World}{K:bF4}{tg:Expr}(a it:Addr):Turn P w K tg (Itl K a) [it] it (λi h=>h.IsListIter it a i) where
 mem:=by simp
 obj:=λi h f b g=>by
  have e:b=it:=by simpa using g
  subst e;obtain⟨o,e,c,d⟩:=f;exact⟨o,e,λv z=>by rw[d] at z;cases z⟩
 keep:=λi h N f k=>f.at λo e=>k it (by simp) o e
 item:=by intro X D q C M i y s σ H E I m f A;subst D q C;obtain⟨Q,x,l,n⟩:=A;obtain⟨r,J,p,R⟩:=I.list l;obtain⟨u,W,V⟩:=J.get n;obtain⟨G,t,U,B,F,L⟩:=m it (by simp);refine wpAny_pyNext_list_item f p.isList (by simpa using W) λN j O=>?_;have Y:=I.turned (t':=s.toks) (λb o g e=>(O.2 b g).trans e) G t B F L;obtain⟨o,e,c,d⟩:=id j;exact⟨u,rfl,aKt e c d (by decide) ⟨x,H,Y,V,⟨rfl,λZ T=>by rw[I.aUi T l];exact n⟩,j,λb g=>(m b g).1⟩⟩
 done:=by intro X D q C M i y s σ H E I m f A;subst D q C;obtain⟨Q,l,n⟩:=A;obtain⟨r,J,p,R⟩:=I.list l;obtain⟨G,t,U,B,F,L⟩:=m it (by simp);have hl:=J.length;exact wpAny_pyNext_list_end (I.ok.hd M) f p.isList (by simp;lia) λN S=>⟨rfl,I.turned (t':=s.toks) (λb o g e=>S b o g e) G t B F L⟩
 self:=λ_ _ _ _ _ f h=>wpAny_pyIter_listiter f h
def aL9 {P:Program}{w:World}{K:bF4}{tg:Expr}(a it:Addr):Turn P w K tg (Itt K a) [it] it (λi h=>h.IsTupleIter it a i) where
 mem:=by simp
 obj:=λi h f b j=>by
  have e:b=it:=by simpa using j
  subst e;obtain⟨o,e,c,d⟩:=f;exact⟨o,e,λv z=>by rw[d] at z;cases z⟩
 keep:=λi h N f k=>f.at λo e=>k it (by simp) o e
 item:=by intro X D r C M i y s σ H E I n f A;subst D r C;obtain⟨Q,x,m,q⟩:=A;obtain⟨g,J,p,R⟩:=I.tuple m;obtain⟨u,W,V⟩:=J.get q;obtain⟨G,t,U,B,F,L⟩:=n it (by simp);refine wpAny_pyNext_tuple_item f (show s.heap.IsTuple a g.toArray from p) (by simpa using W) λN l O=>?_;have Y:=I.turned (t':=s.toks) (λb o j e=>(O.2 b j).trans e) G t B F L;obtain⟨o,e,c,d⟩:=id l;exact⟨u,rfl,aKt e c d (by decide) ⟨x,H,Y,V,⟨rfl,λZ T=>by rw[I.aQ1 T m];exact q⟩,l,λb j=>(n b j).1⟩⟩
 done:=by intro X D r C M i y s σ H E I n f A;subst D r C;obtain⟨Q,m,q⟩:=A;obtain⟨g,J,p,R⟩:=I.tuple m;obtain⟨G,t,U,B,F,L⟩:=n it (by simp);have hl:=J.length;exact wpAny_pyNext_tuple_end (I.ok.hd M) f (show s.heap.IsTuple a g.toArray from p) (by simp;lia) λN S=>⟨rfl,I.turned (t':=s.toks) (λb o j e=>S b o j e) G t B F L⟩
 self:=λ_ _ _ _ _ f h=>wpAny_pyIter_tupleiter f h
def aN7 {P:Program}{w:World}{K:bF4}{tg:Expr}(it:Addr)(lo:Int)(n:Nat):Turn P w K tg (Itr lo n) [it] it (λi h=>IsRangeIter h it (lo+(i:Nat) * 1) ((n:Int) - (i:Nat)) 1) where
 mem:=by simp
 obj:=λi h a b c=>by
  have e:b=it:=by simpa using c
  subst e;exact⟨_,a,λv z=>by have D:Data.fields _=Data.cell v:=z;cases D⟩
 keep:=λi h j a k=>k it (by simp) _ a
 item:=by intro X u l r A i d s σ H E I g a p;subst u l r;obtain⟨y,m,J,q,x,B⟩:=g it (by simp);have W:=Walks.range (prog:=X.prog) (w:=X.w) (I.ok.hd A) it lo 1 n;refine W.item i s _ _ p a λv j C M f G=>?_;obtain⟨t,rfl⟩:=M;have L:Inv X d σ H { s with heap:=j,toks:=C }:=I.turned (λb o c e=>G b o (by simpa using c) e) y m q x B;refine⟨_,rfl,aKt (s:={ s with heap:=j,toks:=C }) (n:="range_iterator") f rfl rfl (by decide) ⟨.int (lo+i),H,L,⟨t,?_⟩,⟨rfl,rfl⟩,f,λb c=>(g b c).1⟩⟩;rw[Int.mul_one]
 done:=by intro X u l r A i d s σ H E I g a p;subst u l r;obtain⟨y,m,J,q,x,B⟩:=g it (by simp);exact wpAny_pyNext_range_end (I.ok.hd A) a (by have:n<=i:=p;lia) λj F=>⟨rfl,I.turned (t':=s.toks) (λb o c e=>F b o c e) y m q x B⟩
 self:=λ_ _ _ _ _ a h=>wpAny_pyIter_rangeiter a h
section
variable {X:Cx}{tg:Expr}
def aFh (K:bF4)(tl:TE):TI:=fun σ H R=>tl σ H λx H1=>∃a,x=.ref a/\(∃xs,SqL K H1 a xs)/\R (Itl K a) H1
def aX7 (K:bF4)(tl:TE):TI:=fun σ H R=>tl σ H λx H1=>∃a,x=.ref a/\(∃xs,SqT K H1 a xs)/\R (Itt K a) H1
def aXc {l:Expr}{tl:TE}(t:PE X l tl):PI X tg l (aFh X.K tl):=by
 intro f s σ H R I h;refine thn (t f s σ H _ I h) λv d ⟨x,g,c,m,n⟩=>?_;obtain⟨a,e,⟨r,j⟩,q⟩:=n;subst e;cases m;obtain⟨i,w,p,u⟩:=c.list j;refine bCO p.isList ?_;refine⟨d.heap.objs.size,[d.heap.objs.size],_,_,g,rfl,c.kept (t':=d.toks) λb o e=>c7 _ e,aRl a _,⟨_,j8 _ rfl,rfl,rfl⟩,λb k=>?_,q⟩;have e:b=d.heap.objs.size:=by simpa using k
 subst e;exact c.aLe (d8 _) (c.hok.fresh (d8 _))
def bCc {l:Expr}{tl:TE}(t:PE X l tl):PI X tg l (aX7 X.K tl):=by
 intro g s σ H R I h;refine thn (t g s σ H _ I h) λv c ⟨x,i,d,m,n⟩=>?_;obtain⟨a,e,⟨r,j⟩,q⟩:=n;subst e;cases m;obtain⟨f,w,p,u⟩:=d.tuple j;refine bFR (show c.heap.IsTuple a f.toArray from p) ?_;refine⟨c.heap.objs.size,[c.heap.objs.size],_,_,i,rfl,d.kept (t':=c.toks) λb o e=>c7 _ e,aL9 a _,⟨_,j8 _ rfl,rfl,rfl⟩,λb k=>?_,q⟩;have e:b=c.heap.objs.size:=by simpa using k
 subst e;exact d.aLe (d8 _) (d.hok.fresh (d8 _))
def aIm {c:bF6}{σ:St}{H:Hp}{s:Shared}{R:It->Hp->Prop}{E:bF5}{lo hi:Int}{t u v:Tok}{tk:Nat}(I:Inv X c σ H s)(h:-(2 ^ 62)<=lo)(k:lo<2 ^ 62)(j:-(2 ^ 62)<=hi)(i:hi<2 ^ 62)
  (q:R (Itr lo (hi - lo).toNat) H):wpAny (model X.prog X.w) X.A (pyIter (.ref s.heap.objs.size)) (PIE X c σ tg R) E { s with heap:=s.heap.push { cls:=.type "range",data:=.fields #[.int lo t,.int hi u,.int 1 v] },toks:=tk }:=by
 refine wpAny_pyIter_range (IsRange.new ..) (small_one h k j i) ?_;have a:Inv X c σ H { s with heap:=s.heap.push { cls:=.type "range",data:=.fields #[.int lo t,.int hi u,.int 1 v] },toks:=tk }:=I.kept λb o e=>c7 _ e;refine⟨(s.heap.push { cls:=.type "range",data:=.fields #[.int lo t,.int hi u,.int 1 v] }).objs.size,[(s.heap.push { cls:=.type "range",data:=.fields #[.int lo t,.int hi u,.int 1 v] }).objs.size],_,_,H,rfl,
  a.kept (t':=tk) λb o e=>c7 _ e,aN7 _ lo (hi - lo).toNat,?_,λb g=>?_,q⟩
 ·have f:lo+((0:Nat):Int) * 1=lo:=by simp
  have d:(((hi - lo).toNat:Nat):Int) - ((0:Nat):Int)=Builtin.Range.rangeSize lo hi 1:=by rw[rangeSize_one];split <;> lia
  show IsRangeIter _ _ (lo+((0:Nat):Int) * 1) ((((hi - lo).toNat:Nat):Int) - ((0:Nat):Int)) 1;rw[f,d];exact j8 _ rfl
 ·have e:b=(s.heap.push { cls:=.type "range",data:=.fields #[.int lo t,.int hi u,.int 1 v] }).objs.size:=by simpa using g
  subst e;exact a.aLe (d8 _) (a.hok.fresh (d8 _))
def aTa (ta:TA):TI:=fun σ H R=>ta σ H λvs H1=>∃j:Int,vs=[.int j]/\-(2 ^ 62)<=j/\j<2 ^ 62/\R (Itr 0 j.toNat) H1
def aZi (ta:TA):TI:=fun σ H R=>ta σ H λvs H1=>∃i j:Int,vs=[.int i,.int j]/\(-(2 ^ 62)<=i/\i<2 ^ 62/\-(2 ^ 62)<=j/\j<2 ^ 62)/\R (Itr i (j - i).toNat) H1
theorem aQ3 {a:Expr}{ta:TA}{p pos:Pos}(o:Gl X "range")(l:X.mg "range"=none)(v:PA X [a] ta)(i:starEach [a] X.env=[(false,eval a X.env)]:=by rfl):PI X tg (.Call (.Name "range" p) [a] [] pos) (aTa ta):=by
 intro b s σ H R I h;refine Call_ (qK I o l boot_range (bCB (thn (v pos b s σ H _ I h) λm n ⟨u,k,d,g,c⟩=>?_) i rfl));obtain⟨j,e,c,f,q⟩:=c;subst e;cases g with
 |cons r rr=>cases rr;obtain⟨t,rfl⟩:=r;exact call_range_1 (aIm d (by lia) (by lia) c f (by simpa using q))
theorem aQz {a b:Expr}{ta:TA}{p pos:Pos}(z:Gl X "range")(v:X.mg "range"=none)(B:PA X [a,b] ta)(o:starEach [a,b] X.env=[(false,eval a X.env),(false,eval b X.env)]:=by rfl)(d:starEach [b] X.env=[(false,eval b X.env)]:=by rfl) :
  PI X tg (.Call (.Name "range" p) [a,b] [] pos) (aZi ta):=by
 intro c s σ H R I h;refine Call_ (qK I z v boot_range (bCB (thn (B pos c s σ H _ I h) λw x ⟨A,u,k,m,f⟩=>?_) (by rw[o,d]) (by rw[d];rfl)));obtain⟨i,j,e,⟨f,l,n,g⟩,q⟩:=f;subst e;cases m with
 |cons r rr=>
  cases rr with
  |cons r' rr=>cases rr;obtain⟨t,rfl⟩:=r;obtain⟨y,rfl⟩:=r';exact call_range_2 (aIm k f l n g q)
def bAy (wi:TI)(g:TG)(tb:TS):TS:=λD σ H=>wi σ H λJ H1=>∃W:Nat->Nat->St->Hp->Prop,(∃m,W 0 m σ H1)/\∀i m σ H,W i m σ H ->
 (J.stop i H/\D.nx σ H)\/(J.go i H/\∃N:St->Hp->Prop,(∀σ' H',N σ' H'->∃m',m'<m/\W (i+1) m' σ' H')/\∀x H',J.yld i H x H'->g x σ H' fun σ2 H2=>tb { D with nx:=N,ct:=N,bk:=D.nx } σ2 H2)
def aCz (fp:List Addr)(h:Heap):bF6:=fp.filterMap λb=>(h.get? b).map λo=>(b,o)
def mY (a:b∈fp)(e:h.get? b=some o):(b,o)∈aCz fp h:=List.mem_filterMap.mpr ⟨b,a,by rw[e];rfl⟩
theorem aQm (d:p∈aCz fp h):p.1∈fp/\h.get? p.1=some p.2:=by
 obtain⟨b,a,e⟩:=List.mem_filterMap.mp d;cases q:h.get? b with
 |none=>rw[q] at e;cases e
 |some o=>rw[q] at e;have c:=bAK e;subst c;exact⟨a,q⟩
def Inv.pinned (I:Inv X bF8 σ H s)(j:∀b∈fp,sE X bF8 H b)(ho:∀b∈fp,∃o,s.heap.get? b=some o/\∀v,o.data≠.cell v):Inv X (bF8++aCz fp s.heap) σ H s:=
 I.aPw λp h=>(List.mem_append.mp h).elim (λz=>I.pin p (bAM _ z)) λz=>by obtain⟨c,e⟩:=aQm z;obtain⟨g,f,i,_⟩:=j p.1 c;obtain⟨o,a,d⟩:=ho p.1 c;rw[e] at a;cases a;exact⟨e,g,f,i,d⟩
def Inv.qG (I:Inv X (bF8++pl) σ H s):Inv X bF8 σ H s:=I.aPw λp a=>I.pin p (bAM _ (bBQ _ a))
def bA2 {iter:Expr}{body:List Stmt}{wi:TI}{g:TG}{tb:TS}{pos:Pos}(F:PassesOwn (model X.prog X.w) X.A X.env X.xe)(hc:X.calm=true)(hi:PI X tg iter wi)(hg:PG X tg g)(q:PSs X body tb)
  (hs:∀x,foldedSetIterable iter X.env x=pure x:=by intro _;rfl):PS X (.For tg iter body [] pos) (bAy wi g tb):=by
 intro a s σ H D I h;refine wpAny_For (thn (hi a s σ H _ I h) λv s1 V=>thn V λa0 s2 h2=>?_) hs;obtain⟨it,z,P,J,H2,e,I2,T,K,U,W,⟨Y,w0⟩,B⟩:=h2;subst e;have l:∀{H':Hp},(∀b∈z,H' b=none)->∀b∈z,sE X a H' b:=λhn b q=>⟨hn b q,(U b q).2⟩;refine codeAny_forLoop_any (λn R=>∃i σ' H',Inv X a σ' H' R/\P i R.heap/\(∀b∈z,H' b=none)/\W i n σ' H') ?_ Y ⟨0,σ,H2,I2,K,λb q=>(U b q).1,w0⟩;rintro n s3 ⟨i,σ3,H3,I3,st3,fr3,w3⟩;rcases B i n σ3 H3 w3 with⟨C,qn⟩|⟨go,N,hN,step⟩
 ·refine bEH F (thn (T.done X rfl rfl rfl hc i a s3 σ3 H3 X.xe I3 (l fr3) st3 C) λr s4 ⟨L,I4⟩=>?_);subst L;exact bFL ⟨σ3,H3,I4,qn⟩
 ·refine bEH F (thn (T.item X rfl rfl rfl hc i a s3 σ3 H3 X.xe I3 (l fr3) st3 go) λr s4 ⟨u,L,h4⟩=>?_);subst L;refine bEH F (thn h4 λ_ Q ⟨x,S,I5,r5,y5,y,G⟩=>?_);have M:=I5.pinned (l G) (T.obj _ _ y);refine bEH F (thn (hg _ Q σ3 S x u _ M r5 (step x S y5)) λ_ s6 ⟨σ6,H6,I6,Z⟩=>?_);refine bEH F (thn (q _ s6 σ6 H6 _ I6 Z) λf O t=>?_);have j:∀{k:St} {c:Hp},Inv X (a++aCz z Q.heap) k c O->N k c->∃m,m<n/\∃i σ' H',Inv X a σ' H' O/\P i O.heap/\(∀b∈z,H' b=none)/\W i m σ' H':=λ{k c} p E=>by obtain⟨m',hm,w7⟩:=hN k c E;refine⟨m',hm,i+1,k,c,p.qG,T.keep _ _ _ y λb q o e=>(p.pin (b,o) (bAM _ (bAM _ (mY q e)))).1,λb q=>?_,w7⟩;obtain⟨o,e,d⟩:=T.obj _ _ y b q;exact (p.pin (b,o) (bAM _ (bAM _ (mY q e)))).2.1
  cases f with
  |next=>obtain⟨k,c,p,E⟩:=t;exact j p E
  |cont=>obtain⟨k,c,p,E⟩:=t;exact j p E
  |brk=>obtain⟨k,c,p,t⟩:=t;exact⟨k,c,p.qG,t⟩
  |ret v=>obtain⟨x7,k,c,p,r7,t⟩:=t;exact⟨x7,k,c,p.qG,r7,t⟩
end
def aK3 {K:bF4}{a:Addr}{xs:List V}{g:TG}{tb:TS}{D:Ends}{σ:St}{H:Hp}(c:Nat->St->Hp->Prop)(j:c 0 σ H)(h:∀i σ H,i<=xs.length->c i σ H->SqL K H a xs)
  (f:∀i x σ H,xs[i]?=some x->c i σ H->g x σ H fun σ2 H2=>tb { D with nx:=c (i+1),ct:=c (i+1),bk:=D.nx } σ2 H2) (hd:∀σ H,c xs.length σ H->D.nx σ H) :
  ∃W:Nat->Nat->St->Hp->Prop,(∃m,W 0 m σ H)/\∀i m σ H,W i m σ H ->
   ((Itl K a).stop i H/\D.nx σ H)\/((Itl K a).go i H/\∃N:St->Hp->Prop,(∀σ' H',N σ' H'->∃m',m'<m/\W (i+1) m' σ' H')/\∀x H',(Itl K a).yld i H x H'->g x σ H' fun σ2 H2=>tb { D with nx:=N,ct:=N,bk:=D.nx } σ2 H2):=by
 refine⟨λi m σ H=>m=xs.length - i/\i<=xs.length/\c i σ H,⟨xs.length,by simp,bAC _,j⟩,?_⟩;rintro i m σ H ⟨rfl,hi,p⟩;have q:=h i σ H hi p;by_cases b:i<xs.length
 ·refine .inr ⟨⟨xs,xs[i],q,by simp[b]⟩,c (i+1),fun σ' H' d=>⟨xs.length - (i+1),by lia,rfl,b,d⟩,λx H' y=>?_⟩;obtain⟨e,y⟩:=y;subst e;exact f i x σ _ (y xs q) p
 ·have e:i=xs.length:=by lia
  subst e;exact .inl ⟨⟨xs,q,d8 _⟩,hd σ H p⟩
def aXv {K:bF4}{a:Addr}{xs:List V}{g:TG}{tb:TS}{D:Ends}{σ:St}{H:Hp}(c:Nat->St->Hp->Prop)(j:c 0 σ H)(h:∀i σ H,i<=xs.length->c i σ H->SqT K H a xs)
  (f:∀i x σ H,xs[i]?=some x->c i σ H->g x σ H fun σ2 H2=>tb { D with nx:=c (i+1),ct:=c (i+1),bk:=D.nx } σ2 H2) (hd:∀σ H,c xs.length σ H->D.nx σ H) :
  ∃W:Nat->Nat->St->Hp->Prop,(∃m,W 0 m σ H)/\∀i m σ H,W i m σ H ->
   ((Itt K a).stop i H/\D.nx σ H)\/((Itt K a).go i H/\∃N:St->Hp->Prop,(∀σ' H',N σ' H'->∃m',m'<m/\W (i+1) m' σ' H')/\∀x H',(Itt K a).yld i H x H'->g x σ H' fun σ2 H2=>tb { D with nx:=N,ct:=N,bk:=D.nx } σ2 H2):=by
 refine⟨λi m σ H=>m=xs.length - i/\i<=xs.length/\c i σ H,⟨xs.length,by simp,bAC _,j⟩,?_⟩;rintro i m σ H ⟨rfl,hi,p⟩;have q:=h i σ H hi p;by_cases b:i<xs.length
 ·refine .inr ⟨⟨xs,xs[i],q,by simp[b]⟩,c (i+1),fun σ' H' d=>⟨xs.length - (i+1),by lia,rfl,b,d⟩,λx H' y=>?_⟩;obtain⟨e,y⟩:=y;subst e;exact f i x σ _ (y xs q) p
 ·have e:i=xs.length:=by lia
  subst e;exact .inl ⟨⟨xs,q,d8 _⟩,hd σ H p⟩
def iT {lo:Int}{n:Nat}{g:TG}{tb:TS}{D:Ends}{σ:St}{H:Hp}(b:Nat->St->Hp->Prop)(f:b 0 σ H)
  (d:∀i σ H,i<n->b i σ H->g (.int (lo+i)) σ H fun σ2 H2=>tb { D with nx:=b (i+1),ct:=b (i+1),bk:=D.nx } σ2 H2) (hd:∀σ H,b n σ H->D.nx σ H) :
  ∃W:Nat->Nat->St->Hp->Prop,(∃m,W 0 m σ H)/\∀i m σ H,W i m σ H ->
   ((Itr lo n).stop i H/\D.nx σ H)\/((Itr lo n).go i H/\∃N:St->Hp->Prop,(∀σ' H',N σ' H'->∃m',m'<m/\W (i+1) m' σ' H')/\∀x H',(Itr lo n).yld i H x H'->g x σ H' fun σ2 H2=>tb { D with nx:=N,ct:=N,bk:=D.nx } σ2 H2):=by
 refine⟨λi m σ H=>m=n - i/\i<=n/\b i σ H,⟨n,by simp,bAC _,f⟩,?_⟩;rintro i m σ H ⟨rfl,hi,p⟩;by_cases a:i<n
 ·refine .inr ⟨a,b (i+1),fun σ' H' c=>⟨n - (i+1),by lia,rfl,a,c⟩,λx H' y=>?_⟩;obtain⟨e,y⟩:=y;subst e y;exact d i σ _ a p
 ·have e:i=n:=by lia
  subst e;exact .inl ⟨d8 _,hd σ H p⟩
abbrev R2:=V->V->Hp->VK->Prop
def OpR (X:Cx)(f:Value->Value->Sem Value)(r:R2):Prop:=
 ∀bF8 s σ H x y v u Q,Inv X bF8 σ H s->RelV x v->RelV y u->r x y H Q ->
  wpAny (model X.prog X.w) X.A (f v u) (EP X bF8 σ Q) X.xe s
def UnR (X:Cx)(f:Value->Sem Value)(r:V->Hp->VK->Prop):Prop:=
 ∀bF8 s σ H x v Q,Inv X bF8 σ H s->RelV x v->r x H Q ->
  wpAny (model X.prog X.w) X.A (f v) (EP X bF8 σ Q) X.xe s
def cH (X:Cx)(f:Value)(r:List V->Hp->VK->Prop):Prop:=
 ∀bF8 s σ H xs us Q,Inv X bF8 σ H s->Vals xs us->r xs H Q ->
  wpAny (model X.prog X.w) X.A (call f us) (EP X bF8 σ Q) X.xe s
def bEv (X:Cx)(r:V->Hp->(Bool->Hp->Prop)->Prop):Prop:=
 ∀bF8 s σ H x v Q,Inv X bF8 σ H s->RelV x v->r x H Q ->
  wpAny (model X.prog X.w) X.A (truthy v) (TP X bF8 σ Q) X.xe s
def tOp (r:R2)(ta tb:TE):TE:=fun σ H Q=>ta σ H λx H1=>tb σ H1 λy H2=>r x y H2 Q
def tUn (r:V->Hp->VK->Prop)(ta:TE):TE:=fun σ H Q=>ta σ H λx H1=>r x H1 Q
def rI (C:Int->Int->Prop)(g:Int->Int->V):R2:=λx y H Q=>∃i j,x=.int i/\y=.int j/\C i j/\Q (g i j) H
def rI0 (g:Int->Int->V):R2:=λx y H Q=>∃i j,x=.int i/\y=.int j/\Q (g i j) H
def rU (g:Int->V):V->Hp->VK->Prop:=λx H Q=>∃i,x=.int i/\Q (g i) H
section
variable {X:Cx}{a b c:Expr}{ta tb tc:TE}{pos:Pos}
def aYr (n:PE X a ta)(o:PE X b tb){c:bF6}{s:Shared}{σ:St}{H:Hp}{R:V->V->Hp->Prop}(I:Inv X c σ H s)
  (h:ta σ H λx H1=>tb σ H1 λy H2=>R x y H2) {Q:bF5} {f:Value->Value->Sem Value}
  (m:∀v u s2 x y H2,Inv X c σ H2 s2->RelV x v->RelV y u->R x y H2->wpAny (model X.prog X.w) X.A (f v u) Q X.xe s2) :
  wpAny (model X.prog X.w) X.A (eval a X.env) (λv s₁=>wpAny (model X.prog X.w) X.A (eval b X.env) (λu s₂=>wpAny (model X.prog X.w) X.A (f v u) Q X.xe s₂) X.xe s₁) X.xe s:=by
 refine thn (n c s σ H _ I h) λv g ⟨x,H1,e,k,l⟩=>?_;refine thn (o c g σ H1 _ e l) λu s2 ⟨y,H2,i,d,j⟩=>?_;exact m v u s2 x y H2 i k d j
def bEk {op:Operator}{r:R2}(ho:OpR X (binaryOp op) r)(j:PE X a ta)(k:PE X b tb):PE X (.BinOp a op b pos) (tOp r ta tb):=by intro c s σ H Q I h;exact wpAny_BinOp (aYr j k I h λv u d x y e f g i q=>ho c d σ e x y v u Q f g i q)
def bD2 {op:UnaryOp}{r:V->Hp->VK->Prop}(ho:UnR X (unaryOp op) r)(i:PE X a ta):PE X (.UnaryOp op a pos) (tUn r ta):=by intro b s σ H Q I h;exact UnaryOp_ (thn (i b s σ H _ I h) λv e ⟨x,c,d,f,g⟩=>ho b e σ c x v Q d f g)
def opI {f:Value->Value->Sem Value}{C:Int->Int->Prop}{g:Int->Int->Int}
  (a:∀(i j:Int) (t u:Tok) (s:Shared) (Q:bF5) (E:bF5),C i j->Q (.int (g i j) s.toks) { s with toks:=s.toks+1 }->wpAny (model X.prog X.w) X.A (f (.int i t) (.int j u)) Q E s) :
  OpR X f (rI C λi j=>.int (g i j)):=by
 intro c s σ H x y v u Q I b k h;obtain⟨i,j,rfl,rfl,e,q⟩:=h;obtain⟨t,rfl⟩:=b;obtain⟨d,rfl⟩:=k;exact a i j t d s _ _ e ⟨.int (g i j),H,I.tok _,⟨_,rfl⟩,q⟩
def bC5 {f:Value->Value->Sem Value}{g:Int->Int->Int}
  (a:∀(i j:Int) (t u:Tok) (s:Shared) (Q:bF5) (E:bF5),Q (.int (g i j) s.toks) { s with toks:=s.toks+1 }->wpAny (model X.prog X.w) X.A (f (.int i t) (.int j u)) Q E s) :
  OpR X f (rI0 λi j=>.int (g i j)):=by
 intro c s σ H x y v u Q I b e h;obtain⟨i,j,rfl,rfl,q⟩:=h;obtain⟨t,rfl⟩:=b;obtain⟨d,rfl⟩:=e;exact a i j t d s _ _ ⟨.int (g i j),H,I.tok _,⟨_,rfl⟩,q⟩
def bCs {f:Value->Value->Sem Value}{g:Int->Int->Bool}
  (a:∀(i j:Int) (t u:Tok) (s:Shared) (Q:bF5) (E:bF5),Q (.bool (g i j)) s->wpAny (model X.prog X.w) X.A (f (.int i t) (.int j u)) Q E s) :
  OpR X f (rI0 λi j=>.bl (g i j)):=by
 intro c s σ H x y v u Q I b e h;obtain⟨i,j,rfl,rfl,q⟩:=h;obtain⟨t,rfl⟩:=b;obtain⟨d,rfl⟩:=e;exact a i j t d s _ _ ⟨.bl (g i j),H,I,rfl,q⟩
def bE2 (i j:Int):Prop:=0<j/\j<1073741824
def bFb (i j:Int):Prop:=0<=j/\j<=1000000/\i.natAbs<2 ^ 64
def bAd (i j:Int):Prop:=(-(2 ^ 64)<i/\i<2 ^ 64)\/(-(2 ^ 64)<j/\j<2 ^ 64)
def bAd.ok (h:bAd i j):IntMulOk i j:=by
 rcases h with⟨a,b⟩|⟨a,b⟩
 ·exact .of_left (intBits_le_64 a b)
 ·exact .of_right (intBits_le_64 a b)
def dG:OpR X (binaryOp .Add) (rI0 λi j=>.int (i+j)):=bC5 λ_ _ _ _ _ _ _ q=>add_int q
def aCj:OpR X (binaryOp .Sub) (rI0 λi j=>.int (i - j)):=bC5 λ_ _ _ _ _ _ _ q=>sub_int q
def yS:OpR X (binaryOp .Mult) (rI bAd λi j=>.int (i * j)):=opI λ_ _ _ _ _ _ _ a q=>mul_int q a.ok
def aY8:OpR X (binaryOp .FloorDiv) (rI bE2 λi j=>.int (i / j)):=opI λi j _ _ _ _ _ a q=>by have b:=a.1;have c:=a.2;exact floordiv_int (by lia) (by rw[Int.fdiv_eq_ediv_of_nonneg i (by lia)];exact q) (.inl (PyProof.noPylong_small (by lia)))
def jU:OpR X (binaryOp .Mod) (rI (λ_ j=>0<j) λi j=>.int (i % j)):=opI λi j _ _ _ _ _ a q=>by have b:=a;exact mod_int' (by lia) (by rw[Int.fmod_eq_emod_of_nonneg i (by lia)];exact q)
def aGn:OpR X (binaryOp .Pow) (rI bFb λi j=>.int (i ^ j.toNat)):=opI λ_ _ _ _ _ _ _ a q=>pow_int_small a.1 a.2.1 a.2.2 q
def unI {f:Value->Sem Value}{g:Int->Int}
  (a:∀(i:Int) (t:Tok) (s:Shared) (Q:bF5) (E:bF5),Q (.int (g i) s.toks) { s with toks:=s.toks+1 }->wpAny (model X.prog X.w) X.A (f (.int i t)) Q E s) :
  UnR X f (rU λi=>.int (g i)):=by
 intro b s σ H x v Q I c h;obtain⟨i,rfl,q⟩:=h;obtain⟨t,rfl⟩:=c;exact a i t s _ _ ⟨.int (g i),H,I.tok _,⟨_,rfl⟩,q⟩
def aUh:UnR X (unaryOp .USub) (rU λi=>.int (-i)):=unI λ_ _ _ _ _ q=>neg_int q
end
def scal:V->V->Bool
 |.non,.non=>true|.non,.int _=>true|.int _,.non=>true|.non,.bl _=>true|.bl _,.non=>true|.non,.str _=>true|.str _,.non=>true
 |.int _,.int _=>true|.bl _,.bl _=>true|.str _,.str _=>true|.byt _,.byt _=>true
 |.int _,.str _=>true|.str _,.int _=>true|.bl _,.str _=>true|.str _,.bl _=>true
 |_,_=>false
def rEq:R2:=λx y H Q=>scal x y=true/\Q (.bl (decide (x=y))) H
def rNe:R2:=λx y H Q=>scal x y=true/\Q (.bl (!decide (x=y))) H
def aPd:decide (V.int i=V.int j)=(i == j):=by rw[bCG];simp
def aU5:decide (V.bl i=V.bl j)=(i == j):=by rw[bCG];simp
def aOh:decide (V.str i=V.str j)=(i == j):=by rw[bCG];simp
def aPk:decide (V.byt i=V.byt j)=(i.toList == j.toList):=by rw[bCG];cases i;cases j;simp
section
variable {X:Cx}{a b c:Expr}{ta tb tc:TE}{pos:Pos}
def bV (I:Inv X bF8 σ H s)(q:Q (.bl k) H)(e:k=k'):EP X bF8 σ Q (.bool k') s:=by subst e;exact⟨.bl k,H,I,rfl,q⟩
theorem dN:OpR X (compareOp .Eq) rEq:=by
 intro e s σ H x y v u Q I d a h;obtain⟨c,q⟩:=h;cases x with
 |non=>
  cases d;cases y with
  |non=>cases a;exact PySem.EqNone.eq_none_none (bV I q (by simp))
  |bl j=>cases a;exact PySem.EqNone.eq_none_bool (bV I q (by simp))
  |int j=>obtain⟨b,rfl⟩:=a;exact PySem.EqNone.eq_none_int (bV I q (by simp))
  |str j=>obtain⟨b,rfl⟩:=a;exact PySem.EqNone.eq_none_str (bV I q (by simp))
  |_=>exact absurd (show false=true from c) v5
 |bl i=>
  cases d;cases y with
  |non=>cases a;exact PySem.EqNone.eq_bool_none (bV I q (by simp))
  |bl j=>cases a;exact eq_bool (bV I q aU5)
  |str j=>obtain⟨b,rfl⟩:=a;exact PySem.EqMixed.eq_bool_str (bV I q (by simp))
  |_=>exact absurd (show false=true from c) v5
 |int i=>
  obtain⟨t,rfl⟩:=d;cases y with
  |non=>cases a;exact PySem.EqNone.eq_int_none (bV I q (by simp))
  |int j=>obtain⟨b,rfl⟩:=a;exact eq_int (bV I q aPd)
  |str j=>obtain⟨b,rfl⟩:=a;exact PySem.EqMixed.eq_int_str (bV I q (by simp))
  |_=>exact absurd (show false=true from c) v5
 |str i=>
  obtain⟨t,rfl⟩:=d;cases y with
  |non=>cases a;exact PySem.EqNone.eq_str_none (bV I q (by simp))
  |bl j=>cases a;exact PySem.EqMixed.eq_str_bool (bV I q (by simp))
  |int j=>obtain⟨b,rfl⟩:=a;exact PySem.EqMixed.eq_str_int (bV I q (by simp))
  |str j=>obtain⟨b,rfl⟩:=a;exact eq_str (bV I q aOh)
  |_=>exact absurd (show false=true from c) v5
 |byt i=>
  obtain⟨t,rfl⟩:=d;cases y with
  |byt j=>obtain⟨b,rfl⟩:=a;exact PySem.W.eq_bytes (bV I q aPk)
  |_=>exact absurd (show false=true from c) v5
 |_=>cases y <;> exact absurd (show false=true from c) v5
theorem wU:OpR X (compareOp .NotEq) rNe:=by
 intro e s σ H x y v u Q I d a h;obtain⟨c,q⟩:=h;cases x with
 |non=>
  cases d;cases y with
  |non=>cases a;exact PySem.EqNone.ne_none_none (bV I q (by simp))
  |bl j=>cases a;exact PySem.EqNone.ne_none_bool (bV I q (by simp))
  |int j=>obtain⟨b,rfl⟩:=a;exact PySem.EqNone.ne_none_int (bV I q (by simp))
  |str j=>obtain⟨b,rfl⟩:=a;exact PySem.EqNone.ne_none_str (bV I q (by simp))
  |_=>exact absurd (show false=true from c) v5
 |bl i=>
  cases d;cases y with
  |non=>cases a;exact PySem.EqNone.ne_bool_none (bV I q (by simp))
  |bl j=>cases a;exact ne_bool (bV I q (congrArg not aU5))
  |str j=>obtain⟨b,rfl⟩:=a;exact PySem.EqMixed.ne_bool_str (bV I q (by simp))
  |_=>exact absurd (show false=true from c) v5
 |int i=>
  obtain⟨t,rfl⟩:=d;cases y with
  |non=>cases a;exact PySem.EqNone.ne_int_none (bV I q (by simp))
  |int j=>obtain⟨b,rfl⟩:=a;exact ne_int (bV I q (congrArg not aPd))
  |str j=>obtain⟨b,rfl⟩:=a;exact PySem.EqMixed.ne_int_str (bV I q (by simp))
  |_=>exact absurd (show false=true from c) v5
 |str i=>
  obtain⟨t,rfl⟩:=d;cases y with
  |non=>cases a;exact PySem.EqNone.ne_str_none (bV I q (by simp))
  |bl j=>cases a;exact PySem.EqMixed.ne_str_bool (bV I q (by simp))
  |int j=>obtain⟨b,rfl⟩:=a;exact PySem.EqMixed.ne_str_int (bV I q (by simp))
  |str j=>obtain⟨b,rfl⟩:=a;exact ne_str (bV I q (congrArg not aOh))
  |_=>exact absurd (show false=true from c) v5
 |byt i=>
  obtain⟨t,rfl⟩:=d;cases y with
  |byt j=>obtain⟨b,rfl⟩:=a;exact PySem.W.ne_bytes (bV I q (congrArg not aPk))
  |_=>exact absurd (show false=true from c) v5
 |_=>cases y <;> exact absurd (show false=true from c) v5
def aS6:OpR X (compareOp .Lt) (rI0 λi j=>.bl (decide (i<j))):=bCs λ_ _ _ _ _ _ _ q=>lt_int q
def aCe:OpR X (compareOp .LtE) (rI0 λi j=>.bl (decide (i<=j))):=bCs λ_ _ _ _ _ _ _ q=>le_int q
def bD3:OpR X (compareOp .Gt) (rI0 λi j=>.bl (decide (j<i))):=bCs λ_ _ _ _ _ _ _ q=>gt_int q
def aRn:OpR X (compareOp .In) (λx y H Q=>∃i j,x=.str i/\y=.str j/\Q (.bl (!(Builtin.Str.occurrences j i 0 j.length 1).isEmpty)) H):=by intro b s σ H x y v u Q I a c h;obtain⟨i,j,rfl,rfl,q⟩:=h;obtain⟨t,rfl⟩:=a;obtain⟨d,rfl⟩:=c;exact in_str (bV I q rfl)
def aF6:OpR X (compareOp .Is) (λx y H Q=>y=.non/\Q (.bl (decide (x=.non))) H):=by
 intro b s σ H x y v u Q I a c h;obtain⟨rfl,q⟩:=h;cases c;refine is_none_gen (bV I q ?_);cases x <;> first
  |(cases a;rfl)
  |(obtain⟨t,rfl⟩:=a;rfl)
def vH:OpR X (compareOp .IsNot) (λx y H Q=>y=.non/\Q (.bl (!decide (x=.non))) H):=by
 intro b s σ H x y v u Q I a c h;obtain⟨rfl,q⟩:=h;cases c;refine isnot_none_gen (bV I q ?_);cases x <;> first
  |(cases a;rfl)
  |(obtain⟨t,rfl⟩:=a;rfl)
def OpR.or (h:OpR X f r)(h':OpR X f r'):OpR X f (λx y H Q=>r x y H Q\/r' x y H Q):=by
 intro a s σ H x y v u Q I c b q;rcases q with q|q
 ·exact h a s σ H x y v u Q I c b q
 ·exact h' a s σ H x y v u Q I c b q
def aUy (b:Expr)(h:op≠.In:=by decide)(d:op≠.NotIn:=by decide):behindInMarks op b=false:=by
 have a:(op == CmpOp.In)=false:=by cases op <;> first|rfl|exact absurd rfl h
 have c:(op == CmpOp.NotIn)=false:=by cases op <;> first|rfl|exact absurd rfl d
 cases b <;> simp[behindInMarks,a,c]
def aW2 (ho:OpR X (compareOp op) r)(k:PE X a ta)(l:PE X b tb)(j:behindInMarks op b=false):PE X (.Compare a [op] [b] pos) (tOp r ta tb):=by intro c s σ H Q I h;exact wpAny_Compare1 (aYr k l I h λv u d x y e f g i q=>ho c d σ e x y v u Q f g i q) j
def aLo (t:TE):TT:=fun σ H Q=>t σ H λx H'=>∃k,x=.bl k/\Q k H'
def aWk {op:CmpOp}{r:R2}(ho:OpR X (compareOp op) r)(D:PE X a ta)(F:PE X b tb)(C:behindInMarks op b=false):PT X (.Compare a [op] [b] pos) (aLo (tOp r ta tb)):=by
 intro d s σ H Q I h;refine wpAny_isTrue_Compare1 (thn (D d s σ H _ I h) λv m ⟨x,g,B,w,A⟩=>thn (F d m σ g _ B A) λu f ⟨y,l,n,j,q⟩=>
  thn (ho d f σ l x y v u _ n w j q) λc E ⟨z,p,t,i,k,e,o⟩=>?_) C
 subst e;cases i;exact bBC ⟨p,t,o⟩
def aG0 (r r':R2)(ta tb tc:TE):TE:=fun σ H Q=>ta σ H λx H1=>tb σ H1 λy H2=>r x y H2 λz H3=>∃k,z=.bl k /\
 (if k=true then tc σ H3 λw' H4=>r' y w' H4 Q else Q (.bl false) H3)
theorem aVv {op op':CmpOp}{r r':R2}(ho:OpR X (compareOp op) r)(D:OpR X (compareOp op') r')(R:PE X a ta)(S:PE X b tb)(P:PE X c tc)
  (O:lastMarks [op,op'] [b,c]=false:=by with_unfolding_all rfl):PE X (.Compare a [op,op'] [b,c] pos) (aG0 r r' ta tb tc):=by
 intro f s σ H Q I h;refine Compare_chain (thn (R f s σ H _ I h) λv G ⟨x,n,N,A,C⟩=>chain_link (thn (S f G σ n _ N C) λu m ⟨y,E,t,g,w⟩=>
  thn (ho f m σ E x y v u _ t A g w) λd L ⟨z,i,j,o,k,e,l⟩=>?_)) O
 subst e;cases o;refine bBC ?_;cases k with
 |false=>exact ite_ff ⟨.bl false,i,j,rfl,l⟩
 |true=>exact ite_tt (chain_last (thn (P f L σ i _ j l) λB M ⟨q,J,K,F,p⟩=>D f M σ J y q u B Q K g F p))
theorem aTt {op op':CmpOp}{r r':R2}(ho:OpR X (compareOp op) r)(G:OpR X (compareOp op') r')(ha:PE X a ta)(hb:PE X b tb)(hc:PE X c tc)
  (hm:lastMarks [op,op'] [b,c]=false:=by with_unfolding_all rfl):PT X (.Compare a [op,op'] [b,c] pos) (aLo (aG0 r r' ta tb tc)):=by
 intro f s σ H Q I h;refine isTrue_chain (thn (ha f s σ H _ I h) λv M ⟨x,n,V,C,E⟩=>test_link (thn (hb f M σ n _ V E) λu m ⟨y,J,w,g,A⟩=>
  thn (ho f m σ J x y v u _ w C g A) λd T ⟨z,i,j,o,k,e,l⟩=>?_)) hm
 subst e;cases o;refine bBC ?_;cases k with
 |false=>obtain⟨Y,F,B⟩:=l;cases F;exact ite_ff ⟨i,j,B⟩
 |true=>refine ite_tt (test_last (thn (hc f T σ i _ j l) λD U ⟨t,N,P,K,q⟩=>thn (G f U σ N y t u D _ P g K q) λW Z ⟨z2,R,L,p,k2,O,S⟩=>?_));subst O;cases p;exact bBC ⟨R,L,S⟩
def bCq (K:bF4)(x:V)(H:Hp)(k:Bool):Prop:=
 match x with
 |.non=>k=false
 |.bl b=>k=b
 |.int i=>k=(i != 0)
 |.str y=>y.length<=sizeLine/\k=((y.length:Int) != 0)
 |.byt y=>y.size<=sizeLine/\k=((y.size:Int) != 0)
 |.ref p=>(∃xs,SqL K H p xs/\k=!xs.isEmpty)\/(∃xs,SqT K H p xs/\k=!xs.isEmpty)\/∃kvs,H p=some (.dK kvs)/\k=!kvs.isEmpty
 |_=>False
def aNe {κ:Type}{kvs:List (κ × V)}{vs:List (κ × Value)}(r:KV kvs vs):(!vs.isEmpty)=!kvs.isEmpty:=by cases r <;> rfl
def aDc (r:Vals xs its):(!its.toArray.isEmpty)=!xs.isEmpty:=by cases r <;> simp
def zE:(sizeLine:Nat)<2 ^ 63:=by rw[sizeLine_eq];decide
theorem bBt:bEv X (λx H Q=>∃k,bCq X.K x H k/\Q k H):=by
 intro A s σ H x v Q I f h;obtain⟨k,e,q⟩:=h;have C:=zE;have B:sizeLine=16777216:=sizeLine_eq;cases x with
 |non=>cases f;have a:k=false:=e;subst a;exact truthy_none ⟨H,I,q⟩
 |bl b=>cases f;have a:k=b:=e;subst a;exact bBC ⟨H,I,q⟩
 |int i=>obtain⟨t,rfl⟩:=f;have a:k=(i != 0):=e;subst a;exact PySem.P.truthy_int ⟨H,I,q⟩
 |str y=>obtain⟨t,rfl⟩:=f;obtain⟨u,a⟩:y.length<=sizeLine/\k=((y.length:Int) != 0):=e;subst a;exact PySem.P.truthy_str (by lia) ⟨H,I.tok _,q⟩
 |byt y=>obtain⟨t,rfl⟩:=f;obtain⟨u,a⟩:y.size<=sizeLine/\k=((y.size:Int) != 0):=e;subst a;exact PySem.W.truthy_bytes (by lia) ⟨H,I.tok _,q⟩
 |ref p=>
  cases f;have a:(∃d,SqL X.K H p d/\k=!d.isEmpty)\/(∃d,SqT X.K H p d/\k=!d.isEmpty)\/∃kvs,H p=some (.dK kvs)/\k=!kvs.isEmpty:=e;rcases a with⟨d,g,a⟩|⟨d,g,a⟩|⟨kvs,g,a⟩
  ·subst a;obtain⟨n,r,l,o⟩:=I.list g;have c:=r.length;exact wpAny_truthy_list l.isList (by simp only[d9];lia) ⟨H,I.tok _,by rw[aDc r];exact q⟩
  ·subst a;obtain⟨n,r,l,o⟩:=I.tuple g;have c:=r.length;exact truthy_tuple l (by simp only[d9];lia) ⟨H,I.tok _,by rw[aDc r];exact q⟩
  ·subst a;obtain⟨o,z,j,r,m⟩:kvs.length<=sizeLine/\(p == sysModules)=false/\∃j,KV kvs j/\s.heap.DictOf (bI X.prog X.w) p j:=I.hok p _ g;have c:kvs.length=j.length:=Paired.length r;exact wpAny_truthy_dict z m (by lia) ⟨H,I.tok _,by rw[aNe r];exact q⟩
 |_=>exact (show False from e).elim
def aSy (j:PE X a ta)(i:∀whole,isTrue a X.env whole=(do let v <-whole;standAt a.pos;holding [v] (truthy v))) :
  PT X a (fun σ H Q=>ta σ H λx H'=>∃k,bCq X.K x H' k/\Q k H'):=by
 intro b s σ H Q I h;exact isTrue_plain (thn (j b s σ H _ I h) λv e ⟨x,c,d,f,g⟩=>bBt b e σ c x v Q d f g) (i _)
def nP:OpR X (binaryOp .Add) (λx y H Q=>∃i j,x=.str i/\y=.str j/\i.length+j.length<=sizeLine/\Q (.str (i++j)) H):=by intro c s σ H x y v u Q I b e h;obtain⟨i,j,rfl,rfl,a,q⟩:=h;obtain⟨t,rfl⟩:=b;obtain⟨d,rfl⟩:=e;exact add_str (λd f=>⟨.str (i++j),H,I.tok _,⟨_,rfl⟩,q⟩) a
def aJe (b:Expr):Prop:=∀o i,subscripted b false o i=operate [o,i] (getItem o i)
def aJw (C:PE X a ta)(D:PE X b tb)(A:aJe b) :
  PE X (.Subscript a b pos) (tOp (λx y H Q=>∃z i c,x=.str z/\y=.int i/\0<=i/\i<2 ^ 63/\i<z.length/\z.cps[i.toNat]?=some c/\Q (.str ⟨#[c]⟩) H) ta tb):=by
 intro l s σ H Q I h;refine Subscript_ (aYr C D I h λv u f x y g k m w q=>?_);obtain⟨z,i,c,rfl,rfl,j,r,d,n,q⟩:=q;obtain⟨t,rfl⟩:=m;obtain⟨B,rfl⟩:=w;have e:seqIndex? i z.length=some i.toNat:=PySem.StrLaws.seqIndex_nonneg j d;exact tail_any (typeIs_str f z t) slot_str_getitem.lookup (getItem_str (c:=c) (by have p:decide (i < -(2 ^ 63:Int))=false:=v9 (by lia);have o:decide (i ≥ 2 ^ 63)=false:=v9 (by lia);rw[p,o] <;> rfl) (by rw[e];exact n) ⟨.str ⟨#[c]⟩,g,k.tok _,⟨_,rfl⟩,q⟩) (A _ _)
theorem vals1 (r:Vals [x] us):∃u,us=[u]/\RelV x u:=by
 cases r with
 |cons r1 r2=>cases r2;exact⟨_,rfl,r1⟩
theorem vals2 (r:Vals [x,y] us):∃u w',us=[u,w']/\RelV x u/\RelV y w':=by
 cases r with
 |cons r1 r2=>
  cases r2 with
  |cons r3 r4=>cases r4;exact⟨_,_,rfl,r1,r3⟩
def aQs (f:X.calm=true):cH X (.builtin "max") (λxs H Q=>∃i j,xs=[.int i,.int j]/\Q (.int (if j > i then j else i)) H):=by
 intro b s σ H xs c Q I r h;obtain⟨i,j,rfl,q⟩:=h;obtain⟨u,l,rfl,⟨t,rfl⟩,⟨e,rfl⟩⟩:=vals2 r;refine max_two_ints (I.ok.hd f) λg d k=>⟨_,H,I.kept k,?_,q⟩;by_cases a:j > i
 ·rw[if_pos a,if_pos a];exact⟨_,rfl⟩
 ·rw[if_neg a,if_neg a];exact⟨_,rfl⟩
def xZ:cH X (.type "int") (λxs H Q=>(∃i,xs=[.int i]/\Q (.int i) H)\/∃k,xs=[.bl k]/\Q (.int (if k then 1 else 0)) H):=by
 intro a s σ H xs c Q I r h;rcases h with⟨i,rfl,q⟩|⟨k,rfl,q⟩
 ·obtain⟨u,rfl,t,rfl⟩:=vals1 r;exact call_int_int ⟨.int i,H,I,⟨_,rfl⟩,q⟩
 ·obtain⟨u,rfl,b⟩:=vals1 r;cases b;exact call_int_bool ⟨.int (if k then 1 else 0),H,I.tok _,⟨_,rfl⟩,q⟩
end
structure aMy (h:Heap)(x dx C:Addr)(mA:bF7):Prop where
 obj:h.get? x=some (PySem.W.instObj C dx)
 ns:h.Ns1 dx mA
 ne:dx≠x
def aRg {h:Heap}{dx:Addr}{mA:bF7}(n:h.Ns1 dx mA):∃od,h.get? dx=some od/\∀name,PySem.W.lookIn name od=some (mA name):=by
 obtain⟨o,c,k,i,hd,g,_,f⟩:=n;refine⟨o,i,λname=>?_⟩;have e:=f name;unfold nsFind findBy at e;rw[<-Array.find?_toList] at e;unfold PySem.W.lookIn;rw[hd];dsimp only
 split
 ·rename_i y q;rw[q] at e;exact congrArg some e
 ·rename_i q;rw[q] at e;have a:c.toList.any (·.refKey)=false:=by rw[List.any_eq_false];intro y d;obtain⟨z,t,b⟩:=g y (Array.mem_toList_iff.mp d);simp[DictEntry.refKey,b]
  have j:¬ c.toList.any (·.refKey)=true:=by rw[a];exact v5
  rw[if_neg j];exact congrArg some e
def aMy.look (I:aMy h x dx C mA):∃od,PySem.W.InstAt h x (PySem.W.instObj C dx) C (some od)/\∀name,PySem.W.lookIn name od=some (mA name):=
 let ⟨od,ho,hl⟩:=aRg I.ns
 ⟨od,⟨I.obj,rfl,rfl,ho⟩,hl⟩
section
variable {prog:Program}{w:World}{A:Around}{E:bF5}{s:Shared}{K:bF4}{x dx C f:Addr}{mA:bF7}{name:Str}{v:Value}
def aY3 (X:K.In s.heap)(I:aMy s.heap x dx C mA)(f:PySem.W.plainGet K C name=true)(e:PySem.W.hasDictIn K C=true)
  (g:PySem.W.findIn K (.ref C) name=some none) (c:mA name=some v) (b:PySem.W.handedIn v=true) (h:Q v { s with toks:=s.toks+1 }) :
  wpAny (model prog w) A (getAttr (.ref x) name expr) Q E s:=by
 obtain⟨d,J,a⟩:=I.look;exact PySem.W.get_value X J (PySem.W.plainGet_of f).1 (PySem.W.findObj_own e g rfl (by rw[a,c])) b h
def aVf (X:K.In s.heap)(I:aMy s.heap x dx C mA)(b:PySem.W.plainGet K C name=true)
  (g:PySem.W.findIn K (.ref C) name=some (some (.ref f))) (e:PySem.W.isFn K (.ref f)=true) (d:mA name=none) (h:Q (.ref f,[.ref x]) s) :
  wpAny (model prog w) A (getMethod (.ref x) name pl) Q E s:=by
 obtain⟨a,J,c⟩:=I.look;exact PySem.W.method_fn X J (PySem.W.plainGet_of b).1 (PySem.W.plainGet_of b).2 g (beq_iff_eq.mp e) (by show (PySem.W.lookIn name a).map (·.isSome)=some false;rw[c,d];rfl) h
def aWe (X:K.In s.heap)(I:aMy s.heap x dx C mA)
  (m:PySem.W.findIn K (.ref C) "__setattr__"=some (some (.builtin "object.__setattr__"))) (u:PySem.W.plainOver K C=true) (q:PySem.W.takerIn K C name=some none) (n:PySem.W.hasDictIn K C=true)
  (o:PySem.Within mA ns) (hsz:ns.length<=sizeLine)
  (h:∀h',aMy h' x dx C (λy=>if y=name then some v else mA y)->Heap.SameBut dx s.heap h'->Q () { s with heap:=h',toks:=s.toks+2 }) :
  wpAny (model prog w) A (setAttr (.ref x) name v) Q E s:=by
 obtain⟨r,J,p⟩:=I.look;refine PySem.W.set_plain X J m (PySem.W.osa_open X J u q λb=>?_);obtain⟨t,k,d⟩:=PySem.W.any_some n;have j:=I.obj;refine b7 (d7 (b7 (b7 (wpAny_loadPart j (b7 (PySem.W.Looks.here (PySem.W.looks_clsIn X k) ?_))))));rw[d];refine d7 (b7 (d7 (b7 ?_)));refine wpAny_nsSet1 I.ns λh' c a=>?_;obtain⟨z,l,i,g,f,e⟩:=c.count (PySem.Within.cons name v o);refine b7 (wpAny_lookBehind g (by rw[f];exact pastItsLine_dict (bAE e (by rw[m8];lia))) ?_);exact d7 (h _ ⟨(a.2 _ (Ne.symm I.ne)).trans I.obj,c,I.ne⟩ a)
def aSx (X:K.In s.heap)(i:PySem.W.makesIn K C=true)
  (hi:PySem.W.findIn K (.ref C) "__init__"=some (some (.ref f))) (b:PySem.W.typeIn K (.ref f)=some (.type "function"))
  (h:codeAny (model prog w) (A.under (.builtin "type.__call__" ⟨.ref C::vs,kw⟩)) (.call (.ref f) ⟨.ref (s.heap.objs.size+1)::vs,kw⟩) (PySem.W.InitBack (s.heap.objs.size+1) R)
   { s with heap:=(s.heap.push PySem.W.emptyDict).push (PySem.W.instObj C s.heap.objs.size) }) :
  codeAny (model prog w) A (.call (.ref C) ⟨vs,kw⟩) R s:=by
 obtain⟨e,g,d,t,c⟩:=s;exact PySem.W.make_core (PySem.W.makes_of X i) (PySem.W.looks_findIn X hi) (λa=>PySem.W.bind_fn X a b) (.inl rfl) h
end
def iH (f:Str)(v:V):List (Str × V)->List (Str × V)
 |[]=>[(f,v)]
 |(g,x)::r=>if g=f then (g,v)::r else (g,x)::iH f v r
theorem zX (f g:Str)(v:V):∀fs:List (Str × V),(iH f v fs).lookup g=if g=f then some v else fs.lookup g
 |[]=>by
  show List.lookup g [(f,v)]=_;by_cases h:g=f
  ·have a:(g == f)=true:=beq_iff_eq.mpr h;simp only[List.lookup,a,if_pos h]
  ·have a:=beq_eq_false_iff_ne.mpr h;simp only[List.lookup,a,if_neg h]
 |(k,x)::r=>by
  have c:=zX f g v r;rw[show iH f v ((k,x)::r)=(if k=f then (k,v)::r else (k,x)::iH f v r) from rfl];by_cases b:k=f
  ·rw[if_pos b];by_cases h:g=k
   ·have a:=beq_iff_eq.mpr h;simp only[List.lookup,a,if_pos (h.trans b)]
   ·have a:=beq_eq_false_iff_ne.mpr h;simp only[List.lookup,a,if_neg (λe:g=f=>h (e.trans b.symm))]
  ·rw[if_neg b];by_cases h:g=k
   ·have a:=beq_iff_eq.mpr h;simp only[List.lookup,a,if_neg (λe:g=f=>b (h.symm.trans e))]
   ·have a:=beq_eq_false_iff_ne.mpr h;simp only[List.lookup,a];exact c
theorem yC (f:Str)(v:V):∀fs:List (Str × V),f∈(iH f v fs).map (·.1)/\∀g,g∈fs.map (·.1)->g∈(iH f v fs).map (·.1)
 |[]=>⟨by simp[iH],λg h=>by simp at h⟩
 |(k,x)::r=>by
  obtain⟨b,c⟩:=yC f v r;rw[show iH f v ((k,x)::r)=(if k=f then (k,v)::r else (k,x)::iH f v r) from rfl];by_cases a:k=f
  ·rw[if_pos a];subst a;exact⟨by simp,λg h=>by simpa using h⟩
  ·rw[if_neg a];refine⟨?_,λg h=>?_⟩
   ·rw[bAL];exact j5 _ b
   ·rw[bAL] at h ⊢;rcases List.mem_cons.mp h with e|e
    ·exact List.mem_cons.mpr (.inl e)
    ·exact j5 _ (c g e)
theorem zM (f:Str)(v:V):∀fs:List (Str × V),(iH f v fs).length<=fs.length+1
 |[]=>by simp[iH]
 |(k,x)::r=>by
  have b:=zM f v r;rw[show iH f v ((k,x)::r)=(if k=f then (k,v)::r else (k,x)::iH f v r) from rfl];by_cases a:k=f
  ·rw[if_pos a,m8,m8];lia
  ·rw[if_neg a,m8,m8];lia
theorem lQ.some_of (r:lQ (some v) o):∃u,o=some u/\RelV v u:=by
 cases o with
 |none=>exact (show False from r).elim
 |some u=>exact⟨u,rfl,r⟩
theorem lQ.none_of (r:lQ none o):o=none:=by
 cases o with
 |none=>rfl
 |some u=>exact (show False from r).elim
theorem aRb (r:RelV v u):PySem.W.handedIn u=true:=by
 cases v with
 |non=>cases (show u=Value.none from r);rfl
 |bl b=>cases (show u=Value.bool b from r);rfl
 |int i=>obtain⟨t,e⟩:=(show ∃t,u=Value.int i t from r);cases e;rfl
 |str x=>obtain⟨t,e⟩:=(show ∃t,u=Value.str x t from r);cases e;rfl
 |byt b=>obtain⟨t,e⟩:=(show ∃t,u=Value.bytes b t from r);cases e;rfl
 |flt b=>obtain⟨t,e⟩:=(show ∃t,u=Value.float b t from r);cases e;rfl
 |ref a=>cases (show u=Value.ref a from r);rfl
 |ty n=>cases (show u=Value.type n from r);rfl
section
variable {P:Program}{w:World}{H H':Hp}{h h':Heap}{a C dx:Addr}{fs fs':List (Str × V)}
def aG9 (g:HOk P w H h)(e:H a=some (.ins C dx fs)):∃mA,aMy h a dx C mA/\(∀f,lQ (fs.lookup f) (mA f))/\PySem.Within mA (fs.map (·.1))/\fs.length<=1000/\H dx=some (.own a):=by obtain⟨d,z,c,b,mA,n,r,q⟩:=(show cV P w H h a (.ins C dx fs) from g a _ e);exact⟨mA,⟨b,n,c⟩,r,q,z,d⟩
end
structure Cls (K:bF4)(C:Addr):Prop where
 pg:PySem.W.plainGet K C Str.empty=true
 hd:PySem.W.hasDictIn K C=true
 po:PySem.W.plainOver K C=true
 sa:PySem.W.findIn K (.ref C) "__setattr__"=some (some (.builtin "object.__setattr__"))
def Cls.get {K:bF4}{C:Addr}(c:Cls K C)(f:Str):PySem.W.plainGet K C f=true:=c.pg
def bL (K:bF4)(C:Addr)(f:Str):Prop:=PySem.W.findIn K (.ref C) f=some none
def bL.taker {K:bF4}{C:Addr}{f:Str}(n:bL K C f):PySem.W.takerIn K C f=some none:=by unfold PySem.W.takerIn;rw[show PySem.W.findIn K (.ref C) f=some none from n];rfl
structure Meth (K:bF4)(C:Addr)(m:Str)(f:Addr):Prop where
 at_:PySem.W.findIn K (.ref C) m=some (some (.ref f))
 fn:PySem.W.isFn K (.ref f)=true
 kp:PySem.W.keepIn K (.ref f)=true
section
variable {X:Cx}{bF8:bF6}{σ:St}{H:Hp}{s:Shared}{a C dx:Addr}{fs:List (Str × V)}{f:Str}{v:V}{A:Around}{E:bF5}
def aMv (I:Inv X bF8 σ H s)(e:H a=some (.ins C dx fs))(c:Cls X.K C)(n:bL X.K C f)(l:fs.lookup f=some v)
  (h:∀u s',Inv X bF8 σ H s'->RelV v u->Q u s'):wpAny (model X.prog X.w) A (getAttr (.ref a) f b) Q E s:=by
 obtain⟨i,O,r,_,_,_⟩:=aG9 I.hok e;obtain⟨u,g,d⟩:=lQ.some_of (by rw[<-l];exact r f);exact aY3 I.kIn O (c.get f) c.hd n g (aRb d) (h u _ (I.tok _) d)
def uB (I:Inv X bF8 σ H s)(e:H a=some (.ins C dx fs))(c:Cls X.K C)(k:Meth X.K C m g)(l:fs.lookup m=none)
  (h:Q (.ref g,[.ref a]) s):wpAny (model X.prog X.w) A (getMethod (.ref a) m pl) Q E s:=by
 obtain⟨d,O,r,_,_,_⟩:=aG9 I.hok e;have b:=lQ.none_of (by rw[<-l];exact r m);exact aVf I.kIn O (c.get m) k.at_ k.fn b h
def aMp {y:V}{u:Value}{Q:Unit->Shared->Prop}(I:Inv X bF8 σ H s)(e:H a=some (.ins C dx fs))(c:Cls X.K C)(n:bL X.K C f)(hl:fs.length<1000)(B:RelV y u)
  (h:∀s',Inv X bF8 σ (upd H a (.ins C dx (iH f y fs))) s'->Q () s'):wpAny (model X.prog X.w) A (setAttr (.ref a) f u) Q E s:=by
 obtain⟨j,O,r,i,_,k⟩:=aG9 I.hok e;have m:(fs.map (·.1)).length<=sizeLine:=by rw[j6,sizeLine_eq];lia
 refine aWe I.kIn O c.sa c.po n.taker c.hd i m λt d l=>h _ ?_;have hd:∃o,t.get? dx=some o:=let ⟨o,_,_,e',_⟩:=d.ns;⟨o,e'⟩
 refine I.write (x:=a) (e:=dx) (by rw[e];exact True.intro) (.inr k) (λb q v z=>(l.2 b v).trans z) hd ?_;refine⟨by rw[aK O.ne];exact k,?_,O.ne,d.obj,_,d.ns,λg=>?_,λg p=>?_⟩
 ·have:=zM f y fs;lia
 ·show lQ ((iH f y fs).lookup g) (if g=f then some u else j g);rw[zX];by_cases q:g=f
  ·rw[if_pos q,if_pos q];exact B
  ·rw[if_neg q,if_neg q];exact r g
 ·by_cases q:g=f
  ·rw[q];exact (yC f y fs).1
  ·refine (yC f y fs).2 g (i g λz=>p ?_);show (if g=f then some u else j g)=none;rw[if_neg q];exact z
def Inv.made (I:Inv X bF8 σ H s):Inv X bF8 σ (upd (upd H s.heap.objs.size (.own (s.heap.objs.size+1))) (s.heap.objs.size+1) (.ins C s.heap.objs.size []))
  { s with heap:=(s.heap.push PySem.W.emptyDict).push (PySem.W.instObj C s.heap.objs.size) }:=by
 have d:(s.heap.push PySem.W.emptyDict).get? s.heap.objs.size=some PySem.W.emptyDict:=j8 s.heap rfl;have g:((s.heap.push PySem.W.emptyDict).push (PySem.W.instObj C s.heap.objs.size)).get? (s.heap.objs.size+1)=some (PySem.W.instObj C s.heap.objs.size):=by
  have:=j8 (s.heap.push PySem.W.emptyDict) (o:=PySem.W.instObj C s.heap.objs.size) rfl
  rwa [bBL] at this
 have i:(s.heap.push PySem.W.emptyDict).Ns s.heap.objs.size (λ_=>none):=⟨PySem.W.emptyDict,#[],_,d,rfl,(λe h=>absurd h (by simp)),λ_=>rfl⟩;have j:=I.laid (a:=s.heap.objs.size) (o:=.own (s.heap.objs.size+1)) (h':=s.heap.push PySem.W.emptyDict) (t':=s.toks) (λb u q=>c7 _ q) (d8 _) ⟨_,d⟩;refine j.laid (a:=s.heap.objs.size+1) (o:=.ins C s.heap.objs.size []) (t':=s.toks) (λb u q=>c7 _ q) (Nat.le_of_eq (bBL _ _)) ?_;have c:s.heap.objs.size≠s.heap.objs.size+1:=v8 (bCU _);refine⟨by rw[aK c,aF],bAC _,c,g,λ_=>none,(Heap.Ns1.of_empty i).at λo q=>c7 _ q,λ_=>True.intro,λy f=>absurd rfl f⟩
def aYf (a:attributeBase e f env (eval e env)=eval e env)
  (h:wpAny (model prog w) A (eval e env) (λo s₁=>wpAny (model prog w) A (getAttr o f true) Q E s₁) E s):wpAny (model prog w) A (eval (.Attribute e f pos) env) Q E s:=
 Attribute_any_ h (by rw[arm_eval_Attribute,a])
end
def bDn (K:bF4)(ta:TE)(f:Str):TE:=fun σ H Q=>ta σ H λx H1=>∃a C dx fs v,x=.ref a/\H1 a=some (.ins C dx fs)/\Cls K C/\bL K C f/\fs.lookup f=some v/\Q v H1
def bEu (K:bF4)(ta tv:TE)(f:Str):TS:=λD σ H=>tv σ H λy H1=>ta σ H1 λx H2=>∃a C dx fs,x=.ref a/\H2 a=some (.ins C dx fs)/\Cls K C/\bL K C f/\fs.length<1000 /\
 D.nx σ (upd H2 a (.ins C dx (iH f y fs)))
section
variable {X:Cx}{o e value:Expr}{f:Str}{pos pos' tpos:Pos}{ta tv:TE}
def bCy (r:PE X e ta)(A:attributeBase e f X.env (eval e X.env)=eval e X.env):PE X (.Attribute e f pos) (bDn X.K ta f):=by intro b s σ H Q I h;refine aYf A (thn (r b s σ H _ I h) λu w ⟨x,d,o,j,a,C,t,z,v,i,g,c,n,l,q⟩=>?_);subst i;obtain rfl:u=Value.ref a:=j;exact aMv o g c n l λy p k m=>⟨v,d,k,m,q⟩
def bBh (J:PE X o ta)(E:PE X value tv)(z:swapsWith value (some (.Attribute o f pos')) pos.line X.env=pure false):PS X (.Assign [.Attribute o f pos'] value pos) (bEu X.K ta tv f):=by intro b s σ H D I h;refine plainObj_wpAny_Assign_Attribute (thn (E b s σ H _ I h) λu m ⟨y,d,v,r,q⟩=>thn (J b m σ d _ v q) λt w ⟨x,B,g,p,a,C,A,F,k,e,c,n,l,i⟩=>?_) z;subst k;obtain rfl:t=Value.ref a:=p;exact aMp g e c n l r λG j=>⟨σ,_,j,i⟩
end
section
variable {X:Cx}{bF8:bF6}{σ:St}{H:Hp}{s:Shared}{A:Around}{E:bF5}{Q:bF5}{c:Value}{b:Bool}
end
structure Room (k:Nat)(A:Around):Prop where
 hd:A.handled=none
 dp:A.depth+3 * k+5<recursionLimit
 un:A.units+16 * k+200<cLine
def Room.mono (r:Room k A)(h:j<=k):Room j A:=⟨r.hd,by have:=r.dp;lia,by have:=r.un;lia⟩
theorem Room.deeper (r:Room (k+1) A)(env:Env):Room k (A.deeper env):=
 ⟨r.hd,by have:=r.dp;show A.depth+1+3 * k+5<_;lia,by have:=r.un;show A.units+3+16 * k+200<_;lia⟩
def aN3 {A:Around}{C:Addr}{us:List Value}{kw:List (Str × Value)}:(A.under (.builtin "type.__call__" ⟨.ref C::us,kw⟩)).depth=A.depth+1:=by
 first|rfl|simp[Around.under,Code.weight,Code.isCreation,Code.isGuard,Code.isCaller,Code.frames,Code.isFrame,guardIds]
def aM8 {A:Around}{C:Addr}{us:List Value}{kw:List (Str × Value)}:(A.under (.builtin "type.__call__" ⟨.ref C::us,kw⟩)).units=A.units+1:=by
 first|rfl|simp[Around.under,Code.cUnits,Code.frames,Code.isFrame]
def Room.make (r:Room (k+1) A)(C:Addr)(us:List Value)(kw:List (Str × Value)):Room k (A.under (.builtin "type.__call__" ⟨.ref C::us,kw⟩)):=
 ⟨r.hd,by have:=r.dp;rw[aN3];lia,by have:=r.un;rw[aM8];lia⟩
theorem Room.depth (r:Room k A):A.depth<recursionLimit:=by have:=r.dp;lia
theorem Room.units (r:Room k A):A.units+64<cLine:=by have:=r.un;lia
def aAj:TA:=λ_ H Q=>Q [] H
def dI (ta:TE)(tr:TA):TA:=fun σ H Q=>ta σ H λx H1=>tr σ H1 λxs H2=>Q (x::xs) H2
section
variable {X:Cx}{e:Expr}{es:List Expr}{te:TE}{t:TA}{pos:Pos}
def aTd:PA X [] aAj:=λ_ _ _ _ H Q I h=>bET ⟨[],H,I,.nil,h⟩
def aX6 (r:PE X e te)(v:PA X es t)(p:starEach (e::es) X.env=(false,eval e X.env)::starEach es X.env:=by rfl):PA X (e::es) (dI te t):=by intro b a s σ H Q I h;rw[p];show wpAny _ _ (spliced ((false,eval e X.env)::backTo b (starEach es X.env))) _ _ s;refine bBY (thn (r a s σ H _ I h) λu i ⟨x,c,n,l,m⟩=>?_);exact thn (v b a i σ c _ n m) λq o ⟨d,g,j,f,k⟩=>⟨x::d,g,j,.cons l f,k⟩
end
abbrev Sp:=List V->Hp->VK->XK->Prop
abbrev CXT:=List Env->Hp->Shared->XK->Value->Shared->Prop
structure aHv (P:Program)(w:World)(K:bF4)(mg:bF7)(base:Heap)(A:Around)(outer:List Env)(s:Shared)(H:Hp):Prop where
 frames:A.frames=some outer
 mod:Mod K mg base
 bs:∀b o,base.get? b=some o->s.heap.get? b=some o/\H b=none
 bsz:base.objs.size<=s.heap.objs.size
 funs:s.heap.FunFrames base outer
 frf:∀b∈frs outer,H b=none
 hok:HOk P w H s.heap
 bare:AllBare s.gens
def CE (outer:List Env)(P:Program)(w:World)(H:Hp)(s:Shared)(Q:VK)(u:Value)(s':Shared):Prop:=
 ∃v H',s'.os=s.os/\AllBare s'.gens/\Un (frs outer) [] H H' s.heap s'.heap/\HOk P w H' s'.heap/\RelV v u/\Q v H'
def CR (CX:CXT)(outer:List Env)(P:Program)(w:World)(H:Hp)(s:Shared)(Q:VK)(E:XK)(r:Result)(s':Shared):Prop:=
 match r with
 |.ok (.ret u)=>CE outer P w H s Q u s'
 |.ok _=>False
 |.error e=>CX outer H s E e s'
structure gJ (P:Program)(w:World)(K:bF4)(mg:bF7)(base:Heap)(CX:CXT)(k:Nat)(f:Addr)(fd:FuncData)(ps:List Str)(sp:Sp):Prop where
 len:∀vs H Q E,sp vs H Q E->vs.length=ps.length
 run:∀(A:Around) (outer:List Env) (s:Shared) (H:Hp) (args:Args) (us:List Value) (vs:List V) (Q:VK) (E:XK),Room k A->aHv P w K mg base A outer s H->BindsTo s fd args (ps.zip us)->Vals vs us->sp vs H Q E ->
  codeAny (model P w) A (.call (.ref f) args) (CR CX outer P w H s Q E) s
theorem gJ.mono {P:Program}{w:World}{K:bF4}{mg:bF7}{base:Heap}{CX:CXT}{j k:Nat}{f:Addr}{fd:FuncData}{ps:List Str}{sp:Sp}(F:gJ P w K mg base CX j f fd ps sp)(h:j<=k) :
  gJ P w K mg base CX k f fd ps sp:=⟨F.len,λA a s H b c d Q E e=>F.run A a s H b c d Q E (e.mono h)⟩
def aHv.make {P:Program}{w:World}{K:bF4}{mg:bF7}{base:Heap}{A:Around}{outer:List Env}{s:Shared}{H:Hp}(e:aHv P w K mg base A outer s H)(C:Addr)(us:List Value)(kw:List (Str × Value)) :
  aHv P w K mg base (A.under (.builtin "type.__call__" ⟨.ref C::us,kw⟩)) outer s H:=⟨by first|exact e.frames|(simpa [Around.under,Code.envs,Code.isFrame,pushEnvs] using e.frames),e.mod,e.bs,e.bsz,e.funs,e.frf,e.hok,e.bare⟩
section
variable {X:Cx}{bF8:bF6}{σ:St}{H:Hp}{s s':Shared}
def Inv.env0 (I:Inv X bF8 σ H s):aHv X.prog X.w X.K X.mg X.base X.A X.stack s H:=
 ⟨I.ok.frames,I.ok.mod,I.bs,bAE I.ok.bsz I.sz,I.stack,I.rG,I.hok,I.bare⟩
def Inv.after (I:Inv X bF8 σ H s)(h:CE X.stack X.prog X.w H s Q u s'):EP X bF8 σ Q u s':=by obtain⟨v,i,j,a,k,e,r,q⟩:=h;obtain⟨f,g,d,t,c⟩:=s';obtain rfl:c=s.os:=j;exact⟨v,i,I.call (h':=f) (g':=g) (d':=d) (t':=t) k e a (λb z=>absurd z (by simp)),r,q⟩
end
def aCf (sp:Sp)(dvs:List V)(E:XK)(t:TA):TE:=fun σ H Q=>t σ H λvs H1=>sp (vs++dvs) H1 Q E
def aLq (C:Addr)(m:Str)(sp:Sp)(dvs:List V)(E:XK)(ta:TE)(t:TA):TE:=fun σ H Q=>ta σ H λx H1=>∃a dx fs,x=.ref a/\H1 a=some (.ins C dx fs)/\fs.lookup m=none /\
 t σ H1 λvs H2=>sp (x::(vs++dvs)) H2 Q E
def aZq (C:Addr)(sp:Sp)(dvs:List V)(E:XK)(t:TA):TE:=fun σ H Q=>t σ H λvs H1=>∀x dx,H1 x=none->H1 dx=none->dx≠x ->
 sp (.ref x::(vs++dvs)) (upd (upd H1 dx (.own x)) x (.ins C dx [])) (λv H2=>v=.non/\Q (.ref x) H2) E
def Binds (K:bF4)(fd:FuncData)(ps:List Str)(ds:List Value):Prop:=
 ∀s us,K.In s.heap->(us++ds).length=ps.length->BindsTo s fd ⟨us,[]⟩ (ps.zip (us++ds))
def Binds.all {K:bF4}{fd:FuncData}{ps:List Str}(h:∀us:List Value,us.length=ps.length->bindArgs fd ⟨us,[]⟩=pure (ps.zip us)):Binds K fd ps []:=λs us _ a=>by rw[bBB] at a ⊢;exact .of_eq (h us a)
def mF (CX:CXT)(X:Cx)(E:XK):Prop:=∀bF8 σ H s e s',Inv X bF8 σ H s->CX X.stack H s E e s'->X.xe e s'
section
variable {X:Cx}{CX:CXT}{k:Nat}{f C:Addr}{fd:FuncData}{ps:List Str}{sp:Sp}{dvs:List V}{ds:List Value}{E:XK}{x m:Str}{p pos apos:Pos}{e o:Expr}{es:List Expr}{ta:TE}{t:TA}
theorem aBp (F:gJ X.prog X.w X.K X.mg X.base CX k f fd ps sp)(i:Room k X.A)(j:Binds X.K fd ps ds)(hd:Vals dvs ds)(g:mF CX X E)
  (I:Inv X bF8 σ H s) (r:Vals vs us) (h:sp (vs++dvs) H Q E):wpAny (model X.prog X.w) X.A (call (.ref f) us) (EP X bF8 σ Q) X.xe s:=by
 have b:=r.append hd;have d:(us++ds).length=ps.length:=by rw[<-b.length];exact F.len _ _ _ _ h
 refine bDJ (bCN (F.run X.A X.stack s H ⟨us,[]⟩ (us++ds) (vs++dvs) Q E i I.env0 (j s us I.kIn d) b h) λr c a=>?_);cases r with
 |error e=>exact g bF8 σ H s e c I a
 |ok fl=>
  cases fl with
  |ret u=>exact I.after a
  |next=>exact False.elim a
  |brk=>exact False.elim a
  |cont=>exact False.elim a
def aWy (F:gJ X.prog X.w X.K X.mg X.base CX k f fd ps sp)(z:Room k X.A)(u:Gl X x)(l:X.mg x=some (.ref f))(n:PySem.W.keepIn X.K (.ref f)=true)(y:Binds X.K fd ps ds)(hd:Vals dvs ds)(g:mF CX X E)
  (B:PA X (e::es) t) (d:(x == ("__debug__":Str))=false:=by decide) (j:starEach (e::es) X.env=(false,eval e X.env)::starEach es X.env:=by rfl) (c:(backTo pos (starEach es X.env)).any (·.1)=false:=by rfl) :
  PE X (.Call (.Name x p) (e::es) [] pos) (aCf sp dvs E t):=by
 intro a s σ H Q I h;refine bBK (nY I u l ?_ d);refine PySem.W.callWith_K (h₀:=X.base) I.ok.mod.kin n (thn (B pos a s σ H _ I h) λm o ⟨v,i,b,r,q⟩=>⟨b.kIn,?_⟩) j c;exact aBp F z y hd g b r q
def aU2 (F:gJ X.prog X.w X.K X.mg X.base CX k f fd ps sp)(j:Room k X.A)(g:Gl X x)(d:X.mg x=some (.ref f))(e:PySem.W.keepIn X.K (.ref f)=true)(i:Binds X.K fd ps ds)(hd:Vals dvs ds)(c:mF CX X E)
  (a:(x == ("__debug__":Str))=false:=by decide):PE X (.Call (.Name x p) [] [] pos) (aCf sp dvs E aAj):=by
 intro b s σ H Q I h;refine bBK (nY I g d ?_ a);exact PySem.W.callWith_K0 I.kIn e (aBp F j i hd c I .nil h)
def aWb {pl:Sem Bool}(L:PE X o ta)(c:Cls X.K C)(p:Meth X.K C m f)(F:gJ X.prog X.w X.K X.mg X.base CX k f fd ps sp)(T:Room k X.A)(R:Binds X.K fd ps ds)(hd:Vals dvs ds)(J:mF CX X E)(S:PA X (e::es) t)
  (D:starEach (e::es) X.env=(false,eval e X.env)::starEach es X.env:=by rfl) (v:(backTo pos (starEach es X.env)).any (·.1)=false:=by rfl)
  (O:eval (.Call (.Attribute o m apos) (e::es) [] pos) X.env=(do
   let ov <-eval o X.env
   standAt apos.atName
   let (f,first) <-holding [ov] (getMethod ov m pl)
   callWith pos f first (backTo pos (starEach (e::es) X.env)) (backToKw pos (keywordEach [] X.env))):=by rfl) :
  PE X (.Call (.Attribute o m apos) (e::es) [] pos) (aLq C m sp dvs E ta t):=by
 intro b s σ H Q I h;refine PySem.W.methodCall_KW (pl:=pl) (thn (L b s σ H _ I h) λu z ⟨x,i,g,B,a,M,P,y,j,l,q⟩=>?_) O;subst y;obtain rfl:u=Value.ref a:=B;refine uB g j c p l ?_;refine PySem.W.callWith_K (first:=[.ref a]) (h₀:=X.base) I.ok.mod.kin p.kp (thn (S pos b z σ i _ g q) λus G ⟨vs,N,d,r,n⟩=>⟨d.kIn,?_⟩) D v;exact aBp (us:=.ref a::us) (vs:=.ref a::vs) F T R hd J d (.cons rfl r) n
def aTg {pl:Sem Bool}(r:PE X o ta)(c:Cls X.K C)(e:Meth X.K C m f)(F:gJ X.prog X.w X.K X.mg X.base CX k f fd ps sp)(D:Room k X.A)(B:Binds X.K fd ps ds)(hd:Vals dvs ds)(n:mF CX X E)
  (y:eval (.Call (.Attribute o m apos) [] [] pos) X.env=(do
   let ov <-eval o X.env
   standAt apos.atName
   let (f,first) <-holding [ov] (getMethod ov m pl)
   callWith pos f first (backTo pos (starEach [] X.env)) (backToKw pos (keywordEach [] X.env))):=by rfl) :
  PE X (.Call (.Attribute o m apos) [] [] pos) (aLq C m sp dvs E ta aAj):=by
 intro b s σ H Q I h;refine PySem.W.methodCall_KW (pl:=pl) (thn (r b s σ H _ I h) λu v ⟨x,p,d,j,a,t,z,i,g,l,q⟩=>?_) y;subst i;obtain rfl:u=Value.ref a:=j;refine uB d g c e l ?_;exact PySem.W.callWith_K0 (first:=[.ref a]) d.kIn e.kp (aBp (us:=[.ref a]) (vs:=[.ref a]) F D B hd n d (.cons rfl .nil) q)
structure Mk (K:bF4)(C f:Addr):Prop where
 makes:PySem.W.makesIn K C=true
 init:PySem.W.findIn K (.ref C) "__init__"=some (some (.ref f))
 fn:PySem.W.isFn K (.ref f)=true
 kp:PySem.W.keepIn K (.ref C)=true
theorem aTc {j:bF6}{σ:St}{H:Hp}{s:Shared}{Q:VK}{us:List Value}{vs:List V}(M:Mk X.K C f)(F:gJ X.prog X.w X.K X.mg X.base CX k f fd ps sp)(t:Room (k+1) X.A)(y:Binds X.K fd ps ds)(hd:Vals dvs ds)
  (q:mF CX X E) (I:Inv X j σ H s) (r:Vals vs us)
  (h:∀x dx,H x=none->H dx=none->dx≠x->sp (.ref x::(vs++dvs)) (upd (upd H dx (.own x)) x (.ins C dx [])) (λv H2=>v=.non/\Q (.ref x) H2) E) :
  wpAny (model X.prog X.w) X.A (call (.ref C) us) (EP X j σ Q) X.xe s:=by
 have d:=h (s.heap.objs.size+1) s.heap.objs.size (I.hok.fresh (bCR _)) (I.hok.fresh (d8 _)) (v8 (bCU _));have b:=Inv.made (C:=C) I;have c:Vals (V.ref (s.heap.objs.size+1)::(vs++dvs)) (Value.ref (s.heap.objs.size+1)::(us++ds)):=.cons rfl (r.append hd);have i:(Value.ref (s.heap.objs.size+1)::us++ds).length=ps.length:=by have e:=c.length;rw[F.len _ _ _ _ d] at e;exact e.symm
 refine bDJ (aSx (f:=f) I.kIn M.makes M.init (beq_iff_eq.mp M.fn) (bCN (F.run _ X.stack _ _ ⟨Value.ref (s.heap.objs.size+1)::us,[]⟩ (Value.ref (s.heap.objs.size+1)::(us++ds)) _ _ E (t.make C us [])
  (b.env0.make C us []) (y _ (Value.ref (s.heap.objs.size+1)::us) b.kIn i) c d) λr g a=>?_))
 cases r with
 |error e=>exact q j σ _ _ e g b a
 |ok fl=>
  cases fl with
  |ret u=>obtain⟨v,m,n,l,o,p⟩:=b.after a;subst o;exact⟨l,⟨V.ref (s.heap.objs.size+1),m,n,rfl,p⟩⟩
  |next=>exact False.elim a
  |brk=>exact False.elim a
  |cont=>exact False.elim a
def aXj (M:Mk X.K C f)(F:gJ X.prog X.w X.K X.mg X.base CX k f fd ps sp)(y:Room (k+1) X.A)(o:Gl X x)(l:X.mg x=some (.ref C))(v:Binds X.K fd ps ds)(hd:Vals dvs ds)(g:mF CX X E)
  (z:PA X (e::es) t) (d:(x == ("__debug__":Str))=false:=by decide) (j:starEach (e::es) X.env=(false,eval e X.env)::starEach es X.env:=by rfl) (c:(backTo pos (starEach es X.env)).any (·.1)=false:=by rfl) :
  PE X (.Call (.Name x p) (e::es) [] pos) (aZq C sp dvs E t):=by
 intro a s σ H Q I h;refine bBK (nY I o l ?_ d);refine PySem.W.callWith_K (h₀:=X.base) I.ok.mod.kin M.kp (thn (z pos a s σ H _ I h) λm n ⟨u,i,b,r,q⟩=>⟨b.kIn,?_⟩) j c;exact aTc M F y v hd g b r q
end
section
variable {X:Cx}{CX:CXT}{k:Nat}{f C:Addr}{fd:FuncData}{ps ks:List Str}{sp:Sp}{E:XK}{x m:Str}{p pos apos kpos:Pos}{e o:Expr}{es:List Expr}{kws:List Keyword}{te ta:TE}{t tk:TA}{nm:Option Str}
variable {g:List Value->List Value->List Value}{gV:List V->List V->List V}
end
structure aG (N P:List Str)(sc:Scope):Prop where
 kind:sc.kind=.function
 co:sc.isCoroutine=false
 gen:sc.isGenerator=false
 nd:N.Nodup
 pre:N.take P.length=P
 par:∀x∈P,sc.names.lookup x=some .local\/sc.names.lookup x=some .cell
 nofree:∀y∈sc.names,y.2≠.free
theorem aFm {kindOf:Str->Option NameKind}{x:Str}:∀{binds:List (Str × Value)} {m:bF7},(∀v,(x,v)∉binds)->bindL kindOf binds m x=m x
 |[],_,_=>rfl
 |(n,v)::r,m,h=>by
  unfold bindL;rw[aFm λw a=>h w (j5 _ a)]
  split
  ·have:x≠n:=by rintro rfl;exact h v j0
   simp[this]
  ·rfl
theorem aFn {kindOf:Str->Option NameKind}{x:Str}:∀{binds:List (Str × Value)} {m:bF7},(∀v,(x,v)∉binds)->bindC kindOf binds m x=m x
 |[],_,_=>rfl
 |(n,v)::r,m,h=>by
  unfold bindC;rw[aFn λw a=>h w (j5 _ a)]
  split
  ·rfl
  ·have:x≠n:=by rintro rfl;exact h v j0
   simp[this]
theorem aEh {a:Str->Option NameKind}{x:Str}{v:Value}:∀{P:List Str} {vs:List Value} {i:Nat} {m:bF7},P.Nodup->P[i]?=some x->vs[i]?=some v->a x=some .local ->
  bindL a (P.zip vs) m x=some v
 |[],_,_,_,_,h,_,_=>by simp at h
 |_::_,[],_,_,_,_,h,_=>by simp at h
 |p::P,w::vs,0,m,nd,h1,h2,hk=>by simp at h1 h2;subst h1;subst h2;show bindL a ((p,w)::P.zip vs) m p=_;unfold bindL;rw[aFm λv b=>(List.nodup_cons.mp nd).1 (List.of_mem_zip b).1,if_pos hk];simp
 |p::P,w::vs,i+1,m,nd,h1,h2,hk=>by show bindL a ((p,w)::P.zip vs) m x=_;unfold bindL;exact aEh (i:=i) (List.nodup_cons.mp nd).2 (by simpa using h1) (by simpa using h2) hk
theorem aE8 {a:Str->Option NameKind}{x:Str}{v:Value}:∀{P:List Str} {vs:List Value} {i:Nat} {m:bF7},P.Nodup->P[i]?=some x->vs[i]?=some v->a x≠some .local ->
  bindC a (P.zip vs) m x=some v
 |[],_,_,_,_,h,_,_=>by simp at h
 |_::_,[],_,_,_,_,h,_=>by simp at h
 |p::P,w::vs,0,m,nd,h1,h2,hk=>by simp at h1 h2;subst h1;subst h2;show bindC a ((p,w)::P.zip vs) m p=_;unfold bindC;rw[aFn λv b=>(List.nodup_cons.mp nd).1 (List.of_mem_zip b).1,if_neg hk];simp
 |p::P,w::vs,i+1,m,nd,h1,h2,hk=>by show bindC a ((p,w)::P.zip vs) m x=_;unfold bindC;exact aE8 (i:=i) (List.nodup_cons.mp nd).2 (by simpa using h1) (by simpa using h2) hk
def start (N:List Str)(vs:List V):St:=vs.map some++List.replicate (N.length - vs.length) none
def xF (CX:CXT)(P:Program)(w:World)(K:bF4)(mg:bF7)(base:Heap)(N:List Str)(qual:Str)(scope:Scope)(f:Addr)(cd:Value)(A:Around)(outer:List Env)(s:Shared)(H:Hp)(E:XK):Cx where
 prog:=P
 w:=w
 K:=K
 mg:=mg
 base:=base
 A:=A.deeper (envOfC qual scope s.heap.objs.size f cd)
 N:=N
 s₀:=s
 H₀:=H
 env:=envOfC qual scope s.heap.objs.size f cd
 outer:=outer
 stack:=envOfC qual scope s.heap.objs.size f cd::outer
 ex:=[]
 calm:=true
 fn:=λ_=>true
 pn:=[]
 xe:=λe s'=>wpAny (model P w) (A.deeper (envOfC qual scope s.heap.objs.size f cd)) (leaving (envOfC qual scope s.heap.objs.size f cd) e) (λ_ s''=>CX outer H s E e s'') (λe' s''=>CX outer H s E e' s'') s'
def aI1 {a:Scope}{n:Nat}{x:Str}(h:a.names.lookup x=some .cell):∃c,(cellsFrom n a.names []).lookup x=some c:=by have q:=PySem.W.cellsFrom_some a.names n [] (.inl h);exact Option.isSome_iff_exists.mp q
def aQq {CX:CXT}{P:Program}{w:World}{K:bF4}{mg:bF7}{base:Heap}{N B:List Str}{C:Str}{scope:Scope}{f:Addr}{O:Value}{A:Around}{outer:List Env}{s s1:Shared}{H:Hp}{E:XK}{us:List Value}{vs:List V}
  (S:aG N B scope) (hd:A.handled=none) (g:aHv P w K mg base A outer s H) (hl:vs.length=B.length) (r:Vals vs us)
  (x:InCallC s s.heap.objs.size (bindL (envOfC C scope s.heap.objs.size f O).kindOf (B.zip us) λ_=>none) (cellsFrom (s.heap.objs.size+1) scope.names []) (bindC (envOfC C scope s.heap.objs.size f O).kindOf (B.zip us) λ_=>none) s1) :
  Inv (xF CX P w K mg base N C scope f O A outer s H E) [] (start N vs) H s1:=by
 have G:B.length<=N.length:=by have:=congrArg List.length S.pre;rw[bAI] at this;lia
 obtain⟨o,M,rfl,D⟩:=x.done;have j:∀b:Addr,b∉(xF CX P w K mg base N C scope f O A outer s H E).ex:=λb z=>absurd (show b∈([]:List Addr) from z) (by simp);refine⟨⟨g.mod,S.kind,rfl,rfl,d8 _,λy z c o d=>?_,λy hy=>?_,λy c _ h=>?_,λ_=>hd,Around.frames_deeper g.frames,.inr ⟨rfl,rfl⟩,λb z=>absurd z (j b),g.bs,g.bsz,λb _ _=>j b,λb z=>absurd z (j b),g.funs,g.frf⟩,
  rfl,g.bare,Un.kept D,⟨_,x.toInCall.ns,λi y v o d L=>?_⟩,λy c h=>⟨_,x.cell y c h⟩,g.hok.fresh (d8 _),λy c h=>?_,λp m=>absurd (show p∈([]:bF6) from m) (by simp),g.hok.kept D,?_⟩
 ·exact name_of_addr x.apart (PySem.mem_of_lookup o) (PySem.mem_of_lookup d)
 ·have hy:scope.names.lookup y=some .cell\/scope.names.lookup y=some .free:=hy;rcases hy with hy|hy
  ·exact aI1 hy
  ·exact absurd rfl (S.nofree _ (PySem.mem_of_lookup hy))
 ·exact bDI (x.above y c (PySem.mem_of_lookup h))
 ·have t:i<vs.length:=by
   unfold start at d;by_cases t:i<vs.length
   ·exact t
   ·rw[bBG (by simpa using t)] at d;rw[List.getElem?_replicate] at d
    split at d <;> cases d
  have J:vs[i]?=some v:=by
   unfold start at d;rw[bBJ (by simpa using t),v7] at d;cases e:vs[i]? with
   |none=>rw[e] at d;cases d
   |some a=>rw[e] at d;cases d;rfl
  obtain⟨u,F,I⟩:=r.get J;have m:B[i]?=some y:=by rw[<-S.pre,List.getElem?_take_of_lt (by lia)];exact o
  have l:B.Nodup:=by rw[<-S.pre];exact S.nd.sublist (List.take_sublist _ _)
  refine⟨u,I,?_⟩;rcases S.par y (t8 m) with k|k
  ·exact .inl ⟨k,aEh l m F k⟩
  ·obtain⟨c,e⟩:=aI1 (n:=s.heap.objs.size+1) k;refine .inr ⟨.inl k,c,e,?_⟩;have q:=x.cell y c e;rw[aE8 l m F (by show scope.names.lookup y≠_;rw[k];decide)] at q;exact q
 ·exact g.hok.fresh (bDI (x.above y c (PySem.mem_of_lookup h)))
 ·unfold start;show _=N.length;rw[w6,j6,bDP];lia
theorem aT3 {CX:CXT}{P:Program}{w:World}{K:bF4}{mg:bF7}{base:Heap}{k:Nat}{f:Addr}{name d:Str}{params:Arguments}{body:List Stmt}{scope:Scope}{dV kV doc pm p ct oc:Value}{an od:Option Addr}
  {osl:Array (Option Value)} {N ps:List Str} {sp:Sp} (lk:K.lookup f=some ⟨oc,od,.func (PySem.W.fnOf name d params body scope dV kV doc pm an p ct),osl⟩) (T:PySem.W.codeIn K p d=true) (S:aG N ps scope)
  (m:∀vs H Q E,sp vs H Q E->vs.length=ps.length)
  (B:∀(A:Around) (outer:List Env) (s:Shared) (H:Hp) (vs:List V) (Q:VK) (E:XK),Room k (A.deeper (envOfC d scope s.heap.objs.size f p))->sp vs H Q E ->
   ∃t,PSs (xF CX P w K mg base N d scope f p A outer s H E) body t/\t { nx:=λ_ H'=>Q .non H',rt:=Q } (start N vs) H) :
  gJ P w K mg base CX (k+1) f (PySem.W.fnOf name d params body scope dV kV doc pm an p ct) ps sp:=by
 refine⟨m,λA outer s H F O vs Q E D h hb r g=>?_⟩;have Z:=m _ _ _ _ g;have G:K.In s.heap:=h.mod.kin.keeps λb o e=>(h.bs b o e).1;have l:s.heap.NoLimit:=h.mod.nolimit.keeps λb o e=>(h.bs b o e).1;have a:∀y∈ps.zip O,scope.names.lookup y.1=some .local\/(scope.names.lookup y.1=some .cell/\((cellsFrom (s.heap.objs.size+1) scope.names []).lookup y.1).isSome=true):=λ⟨n,v⟩ X=>by
  rcases S.par n (List.of_mem_zip X).1 with q|q
  ·exact .inl q
  ·exact .inr ⟨q,PySem.W.cellsFrom_some _ _ _ (.inl q)⟩
 refine codeAny_call_function D.depth (G _ _ lk) rfl S.co S.gen rfl (PySem.W.codeRec_of G T) (hb _ _ _ _ ?_);refine wpAny_newFunctionEnv_cells S.kind a λY M L x=>?_;subst M;refine⟨l.keeps x.toInCall.keep,codeAny_func ?_⟩;obtain⟨t,ht,R⟩:=B A outer s H vs Q E (D.deeper _) g;have I:Inv (xF CX P w K mg base N d scope f p A outer s H E) [] (start N vs) H L:=aQq S D.hd h Z r x;refine bAX (ht [] L (start N vs) H _ I R) (λU z c=>?_) λe z c=>c;have i:∀{j:St} {H':Hp} {v:V} {u:Value},Inv (xF CX P w K mg base N d scope f p A outer s H E) [] j H' z->RelV v u->Q v H'->CE outer P w H s Q u z:=
  λ{j H' v u} J C q=>⟨v,H',J.os,J.bare,J.base,J.hok,C,q⟩
 cases U with
 |ret u=>obtain⟨v,j,H',J,C,q⟩:=c;exact i J C q
 |next=>obtain⟨j,H',J,q⟩:=c;exact i (v:=V.non) (u:=Value.none) J rfl q
 |brk=>obtain⟨_,_,_,q⟩:=c;exact False.elim q
 |cont=>obtain⟨_,_,_,q⟩:=c;exact False.elim q
section
variable {X:Cx}{x:Str}{p pos:Pos}{e:Expr}{es:List Expr}{t:TA}{id T:String}{r:List V->Hp->VK->Prop}
def tCB (r:List V->Hp->VK->Prop)(t:TA):TE:=fun σ H Q=>t σ H λvs H1=>r vs H1 Q
def aVx (q:cH X (.builtin id) r)(v:Gl X x)(n:X.mg x=none)(o:bootBuiltins x=some (.builtin id))(w:PA X (e::es) t)(u:x≠"__name__":=by decide)(g:(x == ("__debug__":Str))=false:=by decide)
  (m:starEach (e::es) X.env=(false,eval e X.env)::starEach es X.env:=by rfl) (d:(backTo pos (starEach es X.env)).any (·.1)=false:=by rfl):PE X (.Call (.Name x p) (e::es) [] pos) (tCB r t):=by
 intro a s σ H Q I h;refine bBK (qK I v n o ?_ u g);exact bFG (thn (w pos a s σ H _ I h) λc f ⟨i,b,l,j,k⟩=>q a f σ b i c Q l j k) m d
def aQ0 (q:cH X (.type T) r)(v:Gl X x)(n:X.mg x=none)(o:bootBuiltins x=some (.type T))(w:PA X (e::es) t)(u:x≠"__name__":=by decide)(g:(x == ("__debug__":Str))=false:=by decide)
  (m:starEach (e::es) X.env=(false,eval e X.env)::starEach es X.env:=by rfl) (d:(backTo pos (starEach es X.env)).any (·.1)=false:=by rfl):PE X (.Call (.Name x p) (e::es) [] pos) (tCB r t):=by
 intro a s σ H Q I h;refine bBK (qK I v n o ?_ u g);exact bCB (thn (w pos a s σ H _ I h) λc f ⟨i,b,l,j,k⟩=>q a f σ b i c Q l j k) m d
end
end L2
namespace HT
open PySem PyProof.Rows
section
open PySem.SeqAt
open PySem.AutoSeq1 (wpAny_loadPart')
open PySem.MeetsSeq PySem.MeetsSeq2 PySem.MeetsSeq3
end
section
variable {prog:Program}{w:World}{A:Around}{E:bF5}{s:Shared}
def aWm (x:IsTup s.heap t vs.toArray)(y:IsTup s.heap b ws.toArray)(r:vs≠[])
  (u:ws=[]->Q (.ref t) s) (v:ws≠[]->Q (.ref s.heap.objs.size) { s with heap:=s.heap.push { cls:=.type "tuple",data:=.seq (vs++ws).toArray } })
  (q:vs.length+ws.length<=sizeLine):wpAny (model prog w) A (binaryOp .Add (.ref t) (.ref b)) Q E s:=by
 obtain⟨⟨cls,k,data,l⟩,i,m,n,hd⟩:=id x;obtain⟨⟨o,g,j,f⟩,a,c,p,d⟩:=id y;simp only at m hd c d;subst m hd c d;have e:vs.toArray++ws.toArray=(vs++ws).toArray:=by simp
 by_cases h:ws=[]
 ·exact concat_meets ⟨_,i,rfl⟩ ⟨_,a,rfl⟩ noFill_tuple_add seq_tuple_add PySem.F.slot_tuple_add PySem.F.entry_tuple_add (PySem.F.args_tuple_add_2 _ _)
   (tuple_addW1 t b vs.toArray ws.toArray n p k g l f (by simpa using r) (by simp[h])) ⟨i,a,u h⟩
 ·refine concat_meets ⟨_,i,rfl⟩ ⟨_,a,rfl⟩ noFill_tuple_add seq_tuple_add PySem.F.slot_tuple_add PySem.F.entry_tuple_add (PySem.F.args_tuple_add_2 _ _)
   (tuple_addW2 t b vs.toArray ws.toArray n p k g l f (by simpa using r) (by simpa using h) (by rw[d9,d9];exact q)) ⟨i,a,?_⟩
  rw[e];exact v h
def sIx (n d:Nat):Option Int->Nat
 |none=>d
 |some v=>if v<0 then (v+(n:Int)).toNat else min v.toNat n
def aJp (n d:Nat):sIx n d none=d:=rfl
def aOt (n d k:Nat):sIx n d (some (k:Int))=min k n:=by show (if (k:Int)<0 then ((k:Int)+(n:Int)).toNat else min (k:Int).toNat n)=min k n;rw[if_neg (by lia),bAQ]
theorem bBn (n d:Nat)(hd:d<=n)(o:Option Int):sIx n d o<=n:=by
 cases o with
 |none=>exact hd
 |some v=>
  show (if v<0 then (v+(n:Int)).toNat else min v.toNat n)<=n;by_cases a:v<0
  ·rw[if_pos a];lia
  ·rw[if_neg a];exact Nat.min_le_right _ _
def aOy (v:Int)(n d:Nat):(if v<0 then max (v+(n:Int)) 0 else min v (n:Int))=((sIx n d (some v):Nat):Int):=by
 show (if v<0 then max (v+(n:Int)) 0 else min v (n:Int))=(((if v<0 then (v+(n:Int)).toNat else min v.toNat n):Nat):Int);by_cases a:v<0
 ·simp only[if_pos a];lia
 ·simp only[if_neg a];lia
def aNl (lo hi:Option Int)(n:Nat):Builtin.Slice.sliceAdjust lo hi 1 (n:Int)=(((sIx n 0 lo:Nat):Int),((sIx n n hi:Nat):Int)):=by
 have a:¬ ((1:Int)<0):=by lia
 unfold Builtin.Slice.sliceAdjust;simp only[a,if_false];refine Prod.ext ?_ ?_
 ·cases lo with
  |none=>rfl
  |some v=>exact aOy v n 0
 ·cases hi with
  |none=>rfl
  |some v=>exact aOy v n n
def aNr (i j:Nat):Builtin.Slice.slicePlaces (i:Int) (j:Int) 1=j - i:=by
 unfold Builtin.Slice.slicePlaces;have a:(1:Int) > 0:=by lia
 simp only[a,if_true,Int.ediv_one]
 split <;> lia
theorem aCv (p:IsPart v o)(h:Q o s):wpAny (model prog w) A (Builtin.Slice.slicePartIndex v) Q E s:=by
 cases p with
 |none=>exact slicePart_none h
 |int i t=>exact slicePart_int h
def mW {sl:Addr}{e f:Value}{lo hi:Option Int}{n:Nat}{Q:Int × Int × Nat->Shared->Prop}(d:s.heap.IsSliceOf sl e f .none)(pl:IsPart e lo)(i:IsPart f hi)
  (h:Q (((sIx n 0 lo:Nat):Int),1,sIx n n hi - sIx n 0 lo) s):wpAny (model prog w) A (Builtin.Slice.sliceApplied (.ref sl) (pure (n:Int))) Q E s:=by
 obtain⟨g,b,c,a⟩:=id d;unfold Builtin.Slice.sliceApplied Builtin.Slice.sliceFields;refine b7 (b7 (bAJ b a (x:=e) rfl (b7 (bAJ b a (x:=f) rfl (b7 (bAJ b a (x:=.none) rfl (d7 ?_)))))));refine b7 (slicePart_none ?_);show wpAny _ _ (if ((1:Int) == 0)=true then _ else _) _ _ s;rw[if_neg (by decide)];refine b7 (aCv pl (b7 (aCv i (b7 (d7 ?_)))));show wpAny _ _ (match Builtin.Slice.sliceAdjust lo hi 1 (n:Int) with|(lo,hi)=>pure (lo,(1:Int),Builtin.Slice.slicePlaces lo hi 1)) _ _ s;rw[aNl lo hi n];show wpAny _ _ (pure (((sIx n 0 lo:Nat):Int),(1:Int),Builtin.Slice.slicePlaces ((sIx n 0 lo:Nat):Int) ((sIx n n hi:Nat):Int) 1)) _ _ s;rw[aNr];exact d7 h
def aTp (xs:Array Value)(i k:Nat):((List.range k).filterMap λ(m:Nat)=>xs[((i:Int)+(m:Int) * 1).toNat]?).toArray=((xs.toList.drop i).take k).toArray:=by
 have e:(λ(m:Nat)=>xs[((i:Int)+(m:Int) * 1).toNat]?)=λm=>xs[i+m]?:=by
  funext m;have:((i:Int)+(m:Int) * 1).toNat=i+m:=by lia
  rw[this]
 rw[e];have:=pick_run xs i k;rw[bEK] at this;have a:((λx=>xs[x]?) ∘ λx=>i+x)=λm=>xs[i+m]?:=rfl;rw[a] at this;rw[this]
def vG {t n:Addr}{a:Array Value}{vl vu:Value}{lo hi:Option Int}{Q:bF5}(d:IsTup s.heap t a)(i:s.heap.IsSliceOf n vl vu .none)(pl:IsPart vl lo)(p:IsPart vu hi)
  (l:¬ (sIx a.size 0 lo=0/\sIx a.size a.size hi=a.size))
  (h:Q (.ref s.heap.objs.size) { s with heap:=s.heap.push { cls:=.type "tuple",data:=.seq ((a.toList.drop (sIx a.size 0 lo)).take (sIx a.size a.size hi - sIx a.size 0 lo)).toArray } })
  (hsz:a.size<=sizeLine):wpAny (model prog w) A (getItem (.ref t) (.ref n)) Q E s:=by
 have b:sizeOk (.seq ((a.toList.drop (sIx a.size 0 lo)).take (sIx a.size a.size hi - sIx a.size 0 lo)).toArray):=by show ((a.toList.drop (sIx a.size 0 lo)).take (sIx a.size a.size hi - sIx a.size 0 lo)).toArray.size<=sizeLine;rw[d9,bAI,bBT,v4];lia
 have u:sIx a.size a.size hi<=a.size:=bBn _ _ (d8 _) hi;obtain⟨k,f,g,j⟩:=id i;have e:s.TypeIs (.ref n) "slice":=⟨k,f,g⟩;unfold getItem
 try with_reducible refine bAR ?_
 first|refine b7 (d7 ?_)|skip
 refine b7 (wpAny_sequenceKey d.typeIs (by decide) ?_);refine b7 (bAG (name:=Str.ofString "__getitem__") d.typeIs bCI
  (bAD bCI d.typeIs entry_tuple_getitem ?_ (args_tuple_getitem _ _)))
 show wpAny _ _ (Builtin.Tuple.tupleItemsOf (.ref t) >>= _) _ _ s;refine b7 (tupleItemsOf_ d ?_);refine b7 (bEU e ?_);rw[if_pos (by decide)];refine b7 (mW i pl p ?_);have c:¬ ((((sIx a.size 0 lo:Nat):Int) == 0 && (1:Int) == 1 && (sIx a.size a.size hi - sIx a.size 0 lo) == a.size)=true):=by intro q;rw[bAS,bAS] at q;have r:((sIx a.size 0 lo:Nat):Int)=0:=eq_of_beq q.1.1;have o:sIx a.size a.size hi - sIx a.size 0 lo=a.size:=eq_of_beq q.2;exact l ⟨by lia,by lia⟩
 show wpAny _ _ (if (((sIx a.size 0 lo:Nat):Int) == 0 && (1:Int) == 1 && (sIx a.size a.size hi - sIx a.size 0 lo) == a.size)=true then _ else _) _ _ s;rw[if_neg c,aTp];first
  |exact b7 (m:=Builtin.Tuple.tupleExact _) (bAF (d7 ⟨_,rfl,d7 h⟩) b)
  |exact b7 (m:=Builtin.Tuple.tupleExact _) (bAF (b7 (d7 (d7 ⟨_,rfl,d7 h⟩))) b)
  |exact b7 (b7 (m:=Builtin.Tuple.tupleExact _) (bAF (d7 (d7 ⟨_,rfl,d7 h⟩)) b))
  |exact b7 (b7 (m:=Builtin.Tuple.tupleExact _) (bAF (d7 ⟨_,rfl,d7 h⟩) b))
end
end HT
namespace L2
open PySem PySem.Spec PyProof.Rows
abbrev TO:=St->Hp->(Option Int->Hp->Prop)->Prop
def PO (X:Cx)(e:Option Expr)(t:TO):Prop:=
 ∀bF8 s σ H Q,Inv X bF8 σ H s->t σ H Q ->
  wpAny (model X.prog X.w) X.A (evalPart e X.env) (λu s'=>∃o H',Inv X bF8 σ H' s'/\IsPart u o/\Q o H') X.xe s
def aOn:TO:=λ_ H Q=>Q none H
def aZo (t:TE):TO:=fun σ H Q=>t σ H λx H1=>∃i,x=.int i/\Q (some i) H1
section
variable {X:Cx}{e:Expr}{te:TE}{lo hi:Option Expr}{tl th:TO}{pos p2:Pos}
def aWj:PO X none aOn:=by intro a s σ H Q I h;rw[evalPart_none];exact d7 ⟨none,H,I,.none,h⟩
def aW4 (h:PE X e te):PO X (some e) (aZo te):=by intro a s σ H Q I c;rw[evalPart_some];refine thn (h a s σ H _ I c) λu j ⟨x,b,g,d,f⟩=>?_;obtain⟨i,rfl,q⟩:=f;obtain⟨t,rfl⟩:=d;exact⟨some i,b,g,.int i t,q⟩
def SlR (X:Cx)(r:V->Option Int->Option Int->Hp->VK->Prop):Prop:=
 ∀bF8 s σ H x v vl vu lo hi sl Q,Inv X bF8 σ H s->RelV x v->s.heap.IsSliceOf sl vl vu .none->IsPart vl lo->IsPart vu hi->r x lo hi H Q ->
  ∃T id,typeLookup (.type T) "__getitem__"=pure (some (.builtin id))/\s.TypeIs v T/\wpAny (model X.prog X.w) X.A (getItem v (.ref sl)) (EP X bF8 σ Q) X.xe s
def tSl (r:V->Option Int->Option Int->Hp->VK->Prop)(te:TE)(tl th:TO):TE:=fun σ H Q=>te σ H λx H1=>tl σ H1 λl H2=>th σ H2 λu H3=>r x l u H3 Q
def aVl {r:V->Option Int->Option Int->Hp->VK->Prop}(L:SlR X r)(K:PE X e te)(M:PO X lo tl)(O:PO X hi th):PE X (.Subscript e (.Slice lo hi none p2) pos) (tSl r te tl th):=by intro a s σ H Q I h;refine Subscript_ (thn (K a s σ H _ I h) λv E ⟨x,j,J,p,z⟩=>?_);refine wpAny_Slice (thn (M a E σ j _ J z) λd i ⟨l,D,k,B,m⟩=>thn (O a i σ D _ k m) λf c ⟨u,g,n,y,t⟩=>?_);rw[evalPart_none];refine d7 ?_;have G:Inv X a σ g { c with heap:=c.heap.push { cls:=.type "slice",data:=.fields #[d,f,.none] } }:=n.kept (t':=c.toks) λb N q=>c7 _ q;obtain⟨T,P,C,F,o⟩:=L a { c with heap:=c.heap.push { cls:=.type "slice",data:=.fields #[d,f,.none] } } σ g x v d f l u c.heap.objs.size Q G p (Heap.IsSliceOf.new ..) B y t;show wpAny (model X.prog X.w) X.A (subscriptTail e (.Slice lo hi none p2) v (.ref c.heap.objs.size)) (EP X a σ Q) X.xe { c with heap:=c.heap.push { cls:=.type "slice",data:=.fields #[d,f,.none] } };exact tail_any (ops:=[.ref c.heap.objs.size,v]) F C o (by with_unfolding_all rfl)
def mZ (xs:List V)(lo hi:Option Int):List V:=(xs.drop (HT.sIx xs.length 0 lo)).take (HT.sIx xs.length xs.length hi - HT.sIx xs.length 0 lo)
def zV (xs:List V)(lo hi:Option Int):(mZ xs lo hi).length<=xs.length:=by unfold mZ;rw[bAI,bBT];lia
def bE3 (K:bF4):V->Option Int->Option Int->Hp->VK->Prop:=λx lo hi H Q=>∃a xs,x=.ref a/\SqT K H a xs /\
 ¬ (HT.sIx xs.length 0 lo=0/\HT.sIx xs.length xs.length hi=xs.length)/\∀p,H p=none->Q (.ref p) (upd H p (.tup (mZ xs lo hi)))
def bAm:SlR X (bE3 X.K):=by
 intro o s σ H x v u y f i w Q I p k m t h;obtain⟨a,d,rfl,l,n,q⟩:=h;cases p;obtain⟨e,r,j,g⟩:=I.tuple l;have c:e.toArray.size=d.length:=by rw[d9];exact r.length.symm
 refine⟨"tuple",_,PyProof.Rows.slot_tuple_getitem.lookup,j.typeIs,?_⟩;refine HT.vG j k m t (by rw[c];exact n) ?_ (by rw[c];exact g);rw[c];refine⟨.ref s.heap.objs.size,_,I.laid (t':=s.toks) (λb z q=>c7 _ q) (d8 _) ?_,rfl,q _ (I.hok.fresh (d8 _))⟩;exact⟨bAE (zV d f i) g,_,(r.drop (HT.sIx d.length 0 f)).take (HT.sIx d.length d.length i - HT.sIx d.length 0 f),aAk.new _ _⟩
def bEn (K:bF4):R2:=λx y H Q=>∃a b xs ys,x=.ref a/\y=.ref b/\SqT K H a xs/\SqT K H b ys/\xs≠[]/\xs.length+ys.length<=sizeLine /\
 (ys=[]->Q (.ref a) H)/\(ys≠[]->∀p,H p=none->Q (.ref p) (upd H p (.tup (xs++ys))))
theorem Vals.aIa (r:Vals xs us):us=[]↔xs=[]:=by
 cases r with
 |nil=>simp
 |cons _ _=>simp
def aZa:OpR X (binaryOp .Add) (bEn X.K):=by intro k s σ H x y v u Q I o t h;obtain⟨a,b,A,B,rfl,rfl,p,r,g,e,n,m⟩:=h;cases o;cases t;obtain⟨i,d,j,_⟩:=I.tuple p;obtain⟨f,c,l,_⟩:=I.tuple r;refine HT.aWm j l (λz=>g (d.aIa.mp z)) (λz=>⟨.ref a,H,I,rfl,n (c.aIa.mp z)⟩) (λz=>?_) (by rw[<-d.length,<-c.length];exact e);refine⟨.ref s.heap.objs.size,_,I.laid (t':=s.toks) (λb C q=>c7 _ q) (d8 _) ?_,rfl,m (λw=>z (c.aIa.mpr w)) _ (I.hok.fresh (d8 _))⟩;exact⟨by rw[w6];exact e,_,d.append c,aAk.new _ _⟩
end
def ixN (n:Nat)(i:Int):Option Nat:=if 0<=i then (if i<n then some i.toNat else none) else if -(n:Int)<=i then some (i+n).toNat else none
def atI {α:Type}(xs:List α)(i:Int):Option α:=(ixN xs.length i).bind λj=>xs[j]?
def aPs (h:ixN n i=some j):seqIndex? i n=some j/\j<n/\-(n:Int)<=i/\i<n:=by
 unfold ixN at h;by_cases b:0<=i
 ·rw[if_pos b] at h;by_cases a:i<n
  ·rw[if_pos a] at h;have e:=bAK h;exact⟨by rw[seqIndex_of b a,e],by lia,by lia,a⟩
  ·rw[if_neg a] at h;cases h
 ·rw[if_neg b] at h;by_cases a:-(n:Int)<=i
  ·rw[if_pos a] at h;have e:=bAK h;exact⟨by rw[seqIndex_neg (by lia) a,e],by lia,a,by lia⟩
  ·rw[if_neg a] at h;cases h
theorem aPg {α:Type}{xs:List α}{i:Int}{v:α}(h:atI xs i=some v):∃j,seqIndex? i xs.length=some j/\xs[j]?=some v/\j<xs.length/\-(xs.length:Int)<=i/\i<xs.length:=by
 unfold atI at h;cases e:ixN xs.length i with
 |none=>rw[e] at h;cases h
 |some j=>rw[e] at h;obtain⟨a,d,b,c⟩:=aPs e;exact⟨j,a,h,d,b,c⟩
def bH {α:Type}{xs:List α}{j:Nat}{v:α}(h:xs[j]?=some v):atI xs (j:Int)=some v:=by
 have a:j<xs.length:=(List.getElem?_eq_some_iff.mp h).1;have e:ixN xs.length (j:Int)=some j:=by unfold ixN;rw[if_pos (by lia),if_pos (by lia)];simp
 unfold atI;rw[e];exact h
def aGl (b:Expr):Prop:=∀o i,subscripted b false o i=operate [o,i] (getItem o i)
def IxR (X:Cx)(r:R2):Prop:=
 ∀value slice bF8 s σ H x y v u Q,Inv X bF8 σ H s->RelV x v->RelV y u->r x y H Q ->
  subscripted slice false v u=operate [v,u] (getItem v u)->wpAny (model X.prog X.w) X.A (subscriptTail value slice v u) (EP X bF8 σ Q) X.xe s
def MtR (X:Cx)(id:String)(r:V->List V->Hp->VK->Prop):Prop:=
 ∀bF8 s σ H x xs v us Q,Inv X bF8 σ H s->RelV x v->Vals xs us->r x xs H Q ->
  wpAny (model X.prog X.w) X.A (call (.builtin id) (v::us)) (EP X bF8 σ Q) X.xe s
section
variable {X:Cx}{a b:Expr}{ta tb:TE}{pos:Pos}
def bDk (m:IxR X r)(k:PE X a ta)(l:PE X b tb)(j:aGl b):PE X (.Subscript a b pos) (tOp r ta tb):=by intro c s σ H Q I h;exact Subscript_ (aYr k l I h λv u d x y e f g i q=>m a b c d σ e x y v u Q f g i q (j _ _))
def bEy (K:bF4):R2:=λx y H Q=>∃p xs i v,x=.ref p/\y=.int i/\SqL K H p xs/\atI xs i=some v/\Q v H
def bC3 (K:bF4):R2:=λx y H Q=>∃p xs i v,x=.ref p/\y=.int i/\SqT K H p xs/\atI xs i=some v/\Q v H
def bA:IxR X (bEy X.K):=by
 intro k g a s σ H x y v u Q I G L h m;obtain⟨p,M,i,z,rfl,rfl,C,A,q⟩:=h;cases G;obtain⟨t,rfl⟩:=L;obtain⟨d,r,e,N⟩:=I.list C;obtain⟨j,c,B,O,D,J⟩:=aPg A;obtain⟨w,n,f⟩:=r.get B;have F:=r.length;have P:=zE;have b:EP X a σ Q w s:=⟨z,H,I,f,q⟩;by_cases o:0<=i
 ·have l:i.toNat=j:=by rw[seqIndex_of o J] at c;exact bAK c
  exact item_listR e.isList o (by lia) (by rw[l];simpa using n) b m
 ·have l:(i+(d.toArray.size:Int)).toNat=j:=by rw[seqIndex_neg (by lia) D] at c;rw[d9,<-F];exact bAK c
  exact subscriptTail_builtinR (x:=w) e.isList.typeIs slot_list_getitem.lookup
   (wpAny_getItem_list_neg (Q:=λr E=>r=w/\EP X a σ Q r E) e.isList (by lia) (by rw[d9] <;> lia) (by lia) (by rw[l];simpa using n) ⟨rfl,b⟩) m
def aP:IxR X (bC3 X.K):=by
 intro e d a s σ H x y v u Q I D E h k;obtain⟨p,F,i,z,rfl,rfl,o,l,q⟩:=h;cases D;obtain⟨t,rfl⟩:=E;obtain⟨m,r,f,G⟩:=I.tuple o;obtain⟨j,g,n,L,J,M⟩:=aPg l;obtain⟨w,A,c⟩:=r.get n;have C:=r.length;have N:=zE;have b:EP X a σ Q w s:=⟨z,H,I,c,q⟩;exact subscriptTail_builtinR (x:=w) f.typeIs slot_tuple_getitem.lookup
  (getItem_tuple (j:=j) (Q:=λr B=>r=w/\EP X a σ Q r B) f (by lia) (by lia) (by rw[d9,<-C];exact g) (by simpa using A) ⟨rfl,b⟩) k
def aL3 (its:List Value)(n j:Nat)(u:Value):Obj.mapSeq (·.setIfInBounds j u) { cls:=.type "list",data:=.seq its.toArray n }={ cls:=.type "list",data:=.seq (its.set j u).toArray n }:=by simp[Obj.mapSeq]
theorem Inv.lst (I:Inv X bF8 σ H s)(h:H p=some (.lst xs)) :
  ∃its n,Vals xs its/\s.heap.get? p=some { cls:=.type "list",data:=.seq its.toArray n }/\xs.length<=sizeLine:=by
 obtain⟨z,its,n,r,e⟩:=I.hok p _ h;exact⟨its,n,r,e,z⟩
def Inv.bCg {bF8:bF6}{σ:St}{H:Hp}{s:Shared}{p:Addr}{xs ys:List V}{its its':List Value}{n c:Nat}{f:Obj->Obj}(I:Inv X bF8 σ H s)(h:H p=some (.lst xs))
  (ho:s.heap.get? p=some { cls:=.type "list",data:=.seq its.toArray n }) (a:f { cls:=.type "list",data:=.seq its.toArray n }={ cls:=.type "list",data:=.seq its'.toArray c }) (r:Vals ys its') (g:ys.length<=sizeLine) (t:Nat) :
  Inv X bF8 σ (upd H p (.lst ys)) { s with heap:=s.heap.update p f,toks:=t }:=by
 have e:(s.heap.update p f).get? p=some { cls:=.type "list",data:=.seq its'.toArray c }:=by rw[bAO f ho (by rw[a] <;> rfl),a]
 refine I.write (x:=p) (e:=p) (by rw[h];trivial) (.inl rfl) (λb u d q=>(bBD _ _ (Ne.symm d)).trans q) ⟨_,e⟩ ?_;exact⟨g,its',c,r,e⟩
def bC7:V->V->V->Hp->(Hp->Prop)->Prop:=λo i v H Q=>∃p xs k j,o=.ref p/\i=.int k/\H p=some (.lst xs)/\ixN xs.length k=some j/\Q (upd H p (.lst (xs.set j v)))
def set_list:bBw X bC7:=by
 intro d s σ H o i v J F u Q I y B C h;obtain⟨p,z,k,j,rfl,rfl,x,D,q⟩:=h;cases y;obtain⟨t,rfl⟩:=B;obtain⟨a,n,r,f,A⟩:=I.lst x;obtain⟨b,E,m,l⟩:=aPs D;have e:=r.length;have G:=zE;have g:Inv X d σ (upd H p (.lst (z.set j v))) { s with heap:=s.heap.update p (Obj.mapSeq (·.setIfInBounds j u)) }:=
  I.bCg x f (aL3 a n j u) (r.set C j) (by rw[List.length_set];exact A) s.toks
 by_cases w:0<=k
 ·have c:k.toNat=j:=by rw[seqIndex_of w l] at b;exact bAK b
  exact PySem.W.ki_setAt f w (by lia) (by rw[d9,<-e];exact l) (by rw[c];exact⟨_,g,q⟩)
 ·have c:(k+(a.toArray.size:Int)).toNat=j:=by rw[seqIndex_neg (by lia) m] at b;rw[d9,<-e];exact bAK b
  exact PySem.W.ki_setBack f (by lia) (by rw[d9,<-e];exact m) (by lia) (by rw[c];exact⟨_,g,q⟩)
def aHs (lo hi:Option Int)(n:Nat):(sliceBounds lo hi none n).1=((HT.sIx n 0 lo:Nat):Int)/\(sliceBounds lo hi none n).2.1=((HT.sIx n n hi:Nat):Int)/\(sliceBounds lo hi none n).2.2=1:=by
 refine⟨?_,?_,rfl⟩
 ·cases lo with
  |none=>simp[sliceBounds,HT.sIx]
  |some i=>
   simp only[sliceBounds,HT.sIx,Option.getD_none,show (1:Int) > 0 by decide,if_true];by_cases h:i<0
   ·simp only[h,if_true] <;> lia
   ·simp only[h,if_false] <;> lia
 ·cases hi with
  |none=>simp[sliceBounds,HT.sIx]
  |some i=>
   simp only[sliceBounds,HT.sIx,Option.getD_none,show (1:Int) > 0 by decide,if_true];by_cases h:i<0
   ·simp only[h,if_true] <;> lia
   ·simp only[h,if_false] <;> lia
def aDk (its:List Value)(lo hi:Option Int):slicePick its.toArray lo hi none=((its.drop (HT.sIx its.length 0 lo)).take (HT.sIx its.length its.length hi - HT.sIx its.length 0 lo)).toArray:=by obtain⟨a,b,c⟩:=aHs lo hi its.toArray.size;unfold slicePick;rw[a,b,c];simp only[sliceRange_one,pick_run,d9] <;> rfl
def bEz (K:bF4):V->Option Int->Option Int->Hp->VK->Prop:=λx lo hi H Q=>∃a xs,x=.ref a/\SqL K H a xs/\∀p,H p=none->Q (.ref p) (upd H p (.lst (mZ xs lo hi)))
def aXk:SlR X (bEz X.K):=by intro n s σ H x v t w e f u Q I o i k p h;obtain⟨a,c,rfl,j,q⟩:=h;cases o;obtain⟨l,r,g,m⟩:=I.list j;have d:=r.length;refine⟨"list",_,slot_list_getitem.lookup,g.isList.typeIs,?_⟩;refine wpAny_getItem_list_slice g.isList i k p .none (by simp) ?_ (by rw[d9] <;> lia);rw[aDk,<-d];refine⟨.ref s.heap.objs.size,_,I.laid (t':=s.toks) (λb y q=>c7 _ q) (d8 _) ?_,rfl,q _ (I.hok.fresh (d8 _))⟩;exact⟨bAE (zV c e f) m,_,0,(r.drop (HT.sIx c.length 0 e)).take (HT.sIx c.length c.length f - HT.sIx c.length 0 e),j8 _ rfl⟩
def iZ:V->Bool
 |.non=>true
 |.bl _=>true
 |.int _=>true
 |.str _=>true
 |_=>false
def eqV:V->V->Bool
 |.non,.non=>true
 |.bl a,.bl b=>a == b
 |.bl a,.int b=>(if a then 1 else 0) == b
 |.int a,.bl b=>a == (if b then 1 else 0)
 |.int a,.int b=>a == b
 |.str a,.str b=>a == b
 |_,_=>false
theorem aT7 (f:RelV y u)(c:RelV x v)(g:iZ y=true)(e:iZ x=true):SeqAt.EqAt A s u v (eqV y x):=by
 cases y with
 |non=>
  cases f;cases x with
  |non=>cases c;exact bEI _
  |bl b=>cases c;exact SeqAt.EqAt.none_bool b
  |int b=>obtain⟨t,rfl⟩:=c;exact SeqAt.EqAt.none_int b t
  |str b=>obtain⟨t,rfl⟩:=c;exact SeqAt.EqAt.none_str b t
  |_=>exact absurd (show false=true from e) v5
 |bl a=>
  cases f;cases x with
  |non=>cases c;exact SeqAt.EqAt.bool_none a
  |bl b=>cases c;exact SeqAt.EqAt.bool_bool a b
  |int b=>obtain⟨t,rfl⟩:=c;exact SeqAt.EqAt.bool_int a b t
  |str b=>obtain⟨t,rfl⟩:=c;exact SeqAt.EqAt.bool_str a b t
  |_=>exact absurd (show false=true from e) v5
 |int a=>
  obtain⟨d,rfl⟩:=f;cases x with
  |non=>cases c;exact SeqAt.EqAt.int_none a d
  |bl b=>cases c;exact SeqAt.EqAt.int_bool a d b
  |int b=>obtain⟨t,rfl⟩:=c;exact bEL a d b t
  |str b=>obtain⟨t,rfl⟩:=c;exact SeqAt.EqAt.int_str a d b t
  |_=>exact absurd (show false=true from e) v5
 |str a=>
  obtain⟨d,rfl⟩:=f;cases x with
  |non=>cases c;exact SeqAt.EqAt.str_none a d
  |bl b=>cases c;exact SeqAt.EqAt.str_bool a d b
  |int b=>obtain⟨t,rfl⟩:=c;exact SeqAt.EqAt.str_int a d b t
  |str b=>obtain⟨t,rfl⟩:=c;exact bDK a d b t
  |_=>exact absurd (show false=true from e) v5
 |_=>exact absurd (show false=true from g) v5
def eqU (x:V)(u:Value):Bool:=match u with
 |.none=>eqV .non x
 |.bool b=>eqV (.bl b) x
 |.int i _=>eqV (.int i) x
 |.str z _=>eqV (.str z) x
 |_=>false
theorem aV4 (r:RelV y u)(f:iZ y=true):eqU x u=eqV y x:=by
 cases y with
 |non=>cases r;rfl
 |bl b=>cases r;rfl
 |int i=>obtain⟨t,rfl⟩:=r;rfl
 |str z=>obtain⟨t,rfl⟩:=r;rfl
 |_=>exact absurd (show false=true from f) v5
theorem vP:∀{xs:List V} {us:List Value},Vals xs us->xs.all iZ=true->us.any (eqU x)=xs.any λy=>eqV y x
 |_,_,.nil,_=>rfl
 |y::xs,u::us,.cons r t,f=>by rw[List.all_cons,bAS] at f;rw[bFI,bFI,aV4 r f.1,vP t f.2]
theorem pO (c:RelV x v)(b:iZ x=true):∀{xs:List V} {us:List Value},Vals xs us->xs.all iZ=true->∀u∈us,SeqAt.EqAt A s u v (eqU x u)
 |_,_,.nil,_=>λu hu=>by cases hu
 |y::xs,u::us,.cons r t,f=>λa hu=>by
  rw[List.all_cons,bAS] at f;rcases List.mem_cons.mp hu with rfl|hu
  ·rw[aV4 r f.1];exact aT7 r c f.1 b
  ·exact pO c b t f.2 a hu
def inV (x:V)(xs:List V):Bool:=xs.any λy=>eqV y x
def rIn (K:bF4)(neg:Bool):R2:=λx y H Q=>∃p xs,y=.ref p/\(SqL K H p xs\/SqT K H p xs)/\iZ x=true/\xs.all iZ=true/\Q (.bl (if neg then !inV x xs else inV x xs)) H
def xT:OpR X (compareOp .In) (rIn X.K false):=by
 intro i s σ H x y v u Q I e j h;obtain⟨p,k,rfl,hq,f,b,q⟩:=h;cases j;rcases hq with hq|hq
 ·obtain⟨a,r,c,g⟩:=I.list hq;refine SeqAt.in_listAt (eqU x) c.isList (λw d=>pO e f r b w (by simpa using d)) ⟨.bl _,H,I,rfl,?_⟩;rw[show a.toArray.any (eqU x)=a.any (eqU x) by simp,vP r b];exact q
 ·obtain⟨a,r,c,g⟩:=I.tuple hq;refine SeqAt.in_tupleAt (eqU x) c (λw d=>pO e f r b w (by simpa using d)) ⟨.bl _,H,I,rfl,?_⟩;rw[show a.toArray.any (eqU x)=a.any (eqU x) by simp,vP r b];exact q
def aGp:OpR X (compareOp .NotIn) (rIn X.K true):=by
 intro i s σ H x y v u Q I e j h;obtain⟨p,k,rfl,hq,f,b,q⟩:=h;cases j;rcases hq with hq|hq
 ·obtain⟨a,r,c,g⟩:=I.list hq;refine SeqAt.notIn_listAt (eqU x) c.isList (λw d=>pO e f r b w (by simpa using d)) ⟨.bl _,H,I,rfl,?_⟩;rw[show a.toArray.any (eqU x)=a.any (eqU x) by simp,vP r b];exact q
 ·obtain⟨a,r,c,g⟩:=I.tuple hq;refine SeqAt.notIn_tupleAt (eqU x) c (λw d=>pO e f r b w (by simpa using d)) ⟨.bl _,H,I,rfl,?_⟩;rw[show a.toArray.any (eqU x)=a.any (eqU x) by simp,vP r b];exact q
def aZ:cH X (.builtin "len") (λxs H Q=>∃p ys,xs=[.ref p]/\(SqL X.K H p ys\/SqT X.K H p ys)/\Q (.int ys.length) H):=by
 intro g s σ H xs i Q I r h;obtain⟨p,ys,rfl,hq,q⟩:=h;obtain⟨u,rfl,f⟩:=vals1 r;cases f;have j:=zE;rcases hq with hq|hq
 ·obtain⟨d,b,c,e⟩:=I.list hq;have a:=b.length;exact Calls.call_len_list c.isList (by simp only[d9] <;> lia) ⟨.int ys.length,H,I.tok _,⟨s.toks+1,by rw[d9,a]⟩,q⟩
 ·obtain⟨d,b,c,e⟩:=I.tuple hq;have a:=b.length;exact len_tuple c (by simp only[d9] <;> lia) ⟨.int ys.length,H,I.tok _,⟨s.toks+1,by rw[d9,a]⟩,q⟩
def xG:cH X (.builtin "len") (λxs H Q=>∃z,xs=[.str z]/\z.length<=sizeLine/\Q (.int z.length) H):=by intro a s σ H xs b Q I r h;obtain⟨z,rfl,c,q⟩:=h;obtain⟨u,rfl,t,rfl⟩:=vals1 r;have d:=zE;exact len_str (by lia) ⟨.int z.length,H,I.tok _,⟨_,rfl⟩,q⟩
def cH.or (h:cH X f r)(h':cH X f r'):cH X f (λxs H Q=>r xs H Q\/r' xs H Q):=by
 intro a s σ H xs b Q I c q;rcases q with q|q
 ·exact h a s σ H xs b Q I c q
 ·exact h' a s σ H xs b Q I c q
def aGw:cH X (.type "list") (λxs H Q=>∃p ys,xs=[.ref p]/\(SqL X.K H p ys\/SqT X.K H p ys)/\∀l,H l=none->Q (.ref l) (upd H l (.lst ys))):=by
 intro m s σ H xs z Q I r h;obtain⟨p,ys,rfl,hq,q⟩:=h;obtain⟨u,rfl,y⟩:=vals1 r;cases y;have k:∀a,Vals ys a->ys.length<=sizeLine->∀c f,(∀b o',s.heap.get? b=some o'->c.get? b=some o') ->
   c.get? s.heap.objs.size=some { cls:=.type "list",dict:=none,data:=.seq a.toArray f,slots:=#[] }->EP X m σ Q (.ref s.heap.objs.size) { s with heap:=c }:=λa d g c f i e=>
  ⟨.ref s.heap.objs.size,_,I.laid (t':=s.toks) i (d8 _) (show cV X.prog X.w _ c _ (.lst ys) from ⟨g,a,f,d,e⟩),rfl,q _ (I.hok.fresh (d8 _))⟩
 rcases hq with hq|hq
 ·obtain⟨a,d,t,g⟩:=I.list hq;have j:=d.length;obtain⟨o,x,v,n,hd⟩:=t.isList;exact call_list_seq p (.inl rfl) x v hd (λc f i e=>k a d g c f i e) (by simp only[d9] <;> lia)
 ·obtain⟨a,d,t,g⟩:=I.tuple hq;have j:=d.length;obtain⟨o,x,v,n,hd⟩:=t;exact call_list_seq p (.inr rfl) x v hd (λc f i e=>k a d g c f i e) (by simp only[d9] <;> lia)
def aDo:cH X (.type "tuple") (λxs H Q=>∃p ys,xs=[.ref p]/\((SqL X.K H p ys/\∀l,H l=none->Q (.ref l) (upd H l (.tup ys)))\/(SqT X.K H p ys/\Q (.ref p) H))):=by
 intro g s σ H xs x Q I r h;obtain⟨p,ys,rfl,h⟩:=h;obtain⟨u,rfl,t⟩:=vals1 r;cases t;rcases h with⟨f,q⟩|⟨f,q⟩
 ·obtain⟨a,c,d,j⟩:=I.list f;have k:=c.length;refine call_tuple_list d.isList (λi v=>?_) (by simp only[d9] <;> lia);have m:=I.kept (t':=s.toks) v;have n:Inv X g σ (upd H i.objs.size (.tup ys)) { s with heap:=i.push { cls:=.type "tuple",data:=.seq a.toArray } }:=
   m.laid (t':=s.toks) (λb o e=>c7 _ e) (d8 _) (show cV X.prog X.w _ _ _ (.tup ys) from ⟨j,a,c,aAk.new _ _⟩)
  exact⟨.ref i.objs.size,_,n,rfl,q _ (m.hok.fresh (d8 _))⟩
 ·obtain⟨a,c,d,j⟩:=I.tuple f;exact call_tuple_same d ⟨.ref p,H,I,rfl,q⟩
def tyV (K:bF4)(T:String)(x:V)(H:Hp):Prop:=match x with
 |.str _=>T = "str"
 |.int _=>T = "int"
 |.ref p=>(T = "list"/\∃xs,SqL K H p xs)\/(T = "tuple"/\∃o,K.lookup p=some o/\o.cls=.type "tuple"/\o.dict=none) \/
   (T = "dict"/\((∃kvs,H p=some (.dK kvs))\/∃kvs,H p=some (.dT kvs)))\/(T = "set"/\∃S n,H p=some (.set S n))
 |_=>False
theorem aMg (I:Inv X bF8 σ H s)(r:RelV x v)(f:tyV X.K T x H) :
  s.TypeIs v T/\∀a,v=.ref a->∃ob,s.heap.get? a=some ob/\ob.dict=none:=by
 cases x with
 |str z=>obtain⟨t,rfl⟩:=r;cases (show T = "str" from f);exact⟨typeIs_str s z t,λ_ e=>nomatch e⟩
 |int i=>obtain⟨t,rfl⟩:=r;cases (show T = "int" from f);exact⟨typeIs_int s i t,λ_ e=>nomatch e⟩
 |ref p=>
  cases r;rcases f with⟨rfl,m,l⟩|⟨rfl,o,b,hc,hd⟩|⟨rfl,b⟩|⟨rfl,S,n,b⟩
  ·obtain⟨k,_,j,_⟩:=I.list l;refine⟨j.isList.typeIs,λa e=>?_⟩;cases e;obtain⟨o,n,e,c,hd,_⟩:=j;exact⟨o,e,hd⟩
  ·refine⟨⟨o,I.kIn p o b,hc⟩,λa e=>?_⟩;cases e;exact⟨o,I.kIn _ o b,hd⟩
  ·have z:∃o,s.heap.get? p=some o/\o.ExactDict:=by
    rcases b with⟨g,b⟩|⟨g,b⟩
    ·obtain⟨_,_,_,_,o,_,_,e,d,_⟩:=I.hok p _ b;exact⟨o,e,d⟩
    ·obtain⟨_,_,_,_,o,_,_,e,d,_⟩:=I.hok p _ b;exact⟨o,e,d⟩
   obtain⟨o,e,d⟩:=z;refine⟨⟨o,e,d.1⟩,λa h=>?_⟩;cases h;exact⟨o,e,d.2.1⟩
  ·obtain⟨o,_,_,_,e,d,_⟩:=I.hok p _ b;refine⟨⟨o,e,d.1⟩,λa h=>?_⟩;cases h;exact⟨o,e,d.2.1⟩
 |_=>exact False.elim f
def bDo (K:bF4)(T:String)(r:V->List V->Hp->VK->Prop)(to:TE):TE:=fun σ H Q=>to σ H λx H1=>tyV K T x H1/\r x [] H1 Q
def tBM (K:bF4)(T:String)(r:V->List V->Hp->VK->Prop)(to:TE)(t:TA):TE:=fun σ H Q=>to σ H λx H1=>tyV K T x H1/\t σ H1 λxs H2=>r x xs H2 Q
variable {o e:Expr}{es:List Expr}{to:TE}{t:TA}{name:Str}{apos cpos:Pos}{T id:String}{r:V->List V->Hp->VK->Prop}
def bAj (p:PlainAttrs T)(slot:Slot T name id)(l:typeOf (.builtin id)=pure (.type "method_descriptor"))(n:MtR X id r)(ho:PE X o to)
  (c:attributeBase o name X.env (eval o X.env)=eval o X.env:=by rfl) (b:(apos.endLine == cpos.line)=true:=by rfl):PE X (.Call (.Attribute o name apos) [] [] cpos) (bDo X.K T r to):=by
 intro a s σ H Q I h;refine wpAny_Call_method0_late c b (thn (ho a s σ H _ I h) λv k ⟨x,i,e,d,g,m⟩=>?_);obtain⟨f,j⟩:=aMg e d g;exact⟨T,id,p,slot,l,f,j,bDL rfl (PySem.evalArgs_none (n a k σ i x [] v [] Q e d .nil m))⟩
def bC9 (J:PlainAttrs T)(slot:Slot T name id)(C:typeOf (.builtin id)=pure (.type "method_descriptor"))(F:MtR X id r)(ho:PE X o to)(G:PA X (e::es) t)
  (d:attributeBase o name X.env (eval o X.env)=eval o X.env:=by rfl)
  (g:((backTo cpos (starEach (e::es) X.env)).all (λx=>!x.1) && (backToKw cpos (keywordEach [] X.env)).all (λx=>x.1.isSome)
   && decide ((e::es).length+([]:List Keyword).length+(if ([]:List Keyword).isEmpty then 0 else 1)<30))=true:=by rfl)
  (c:(apos.endLine == cpos.line)=true:=by rfl) (E:starEach (e::es) X.env=(false,eval e X.env)::starEach es X.env:=by rfl) (b:(backTo cpos (starEach es X.env)).any (·.1)=false:=by rfl) :
  PE X (.Call (.Attribute o name apos) (e::es) [] cpos) (tBM X.K T r to t):=by
 intro a s σ H Q I h;refine wpAny_Call_method_late d g c rfl (thn (ho a s σ H _ I h) λv y ⟨x,n,j,i,m,D⟩=>?_);obtain⟨k,w⟩:=aMg j i m;refine⟨T,id,J,slot,C,k,w,?_⟩;have f:=G cpos a y σ n _ j D;rw[E] at f ⊢;refine bDL (by show (false || (backTo cpos (starEach es X.env)).any (·.1))=false;rw[b] <;> rfl) (bFK ?_);exact thn f λp l ⟨B,u,z,q,A⟩=>F a l σ u x B v p Q z i q A
end
def MtM (X:Cx)(id:String)(r:V->List V->Hp->VK->Prop):Prop:=
 ∀bF8 s σ H x xs v us Q,Inv X bF8 σ H s->RelV x v->Vals xs us->r x xs H Q ->
  wpAny (model X.prog X.w) X.A (call (.builtin id) (v::us)) (EP X bF8 σ Q) X.xe s
theorem Vals.one:∀{x:V} {us:List Value},Vals [x] us->∃u,us=[u]/\RelV x u
 |_,_,.cons r .nil=>⟨_,rfl,r⟩
theorem Vals.two:∀{x y:V} {us:List Value},Vals [x,y] us->∃u v,us=[u,v]/\RelV x u/\RelV y v
 |_,_,_,.cons r t=>let ⟨_,e,q⟩:=Vals.one t;⟨_,_,e ▸ rfl,r,q⟩
theorem Vals.zero:∀{us:List Value},Vals [] us->us=[]
 |_,.nil=>rfl
theorem Vals.eraseIdx:∀{xs:List V} {us:List Value} (i:Nat),Vals xs us->Vals (xs.eraseIdx i) (us.eraseIdx i)
 |_,_,_,.nil=>.nil
 |_,_,0,.cons _ t=>t
 |_,_,i+1,.cons r t=>.cons r (Vals.eraseIdx i t)
theorem Vals.reverse (h:Vals xs us):Vals xs.reverse us.reverse:=by
 induction h with
 |nil=>exact .nil
 |cons r t ih=>rw[List.reverse_cons,List.reverse_cons];exact Vals.append ih (.cons r .nil)
theorem aE2 {α:Type}:∀(l:List α) (i:Nat),(l.eraseIdx i).length<=l.length
 |[],_=>d8 _
 |_::_,0=>bCR _
 |_::r,i+1=>Nat.succ_le_succ (aE2 r i)
section
variable {X:Cx}{bF8:bF6}{σ:St}{H:Hp}{s:Shared}{l b:Addr}{xs ys zs:List V}
def Inv.lset {its its':List Value}{n:Nat}{f:Array Value->Array Value}{t':Nat}(I:Inv X bF8 σ H s)(i:H l=some (.lst xs))
  (e:s.heap.get? l=some { cls:=.type "list",data:=.seq its.toArray n }) (d:f its.toArray=its'.toArray) (c:Vals ys its') (h:ys.length<=sizeLine) :
  Inv X bF8 σ (upd H l (.lst ys)) { s with heap:=s.heap.update l (Obj.mapSeq f),toks:=t' }:=by
 have q:=PySem.IsL.update e f;rw[d] at q;refine I.write (x:=l) (e:=l) (by rw[i];exact trivial) (.inl rfl) (λg u b a=>(bBD s.heap (Obj.mapSeq f) (Ne.symm b)).trans a) ⟨_,q⟩ ?_;exact⟨h,its',_,c,q⟩
def Inv.lnew (I:Inv X bF8 σ H s)(a:Vals ys its)(b:ys.length<=sizeLine) :
  Inv X bF8 σ (upd H s.heap.objs.size (.lst ys)) { s with heap:=s.heap.push { cls:=.type "list",data:=.seq its.toArray },toks:=t' }:=
 I.laid (λ_ _ q=>c7 _ q) (d8 _) ⟨b,its,0,a,j8 _ rfl⟩
theorem Inv.fresh (I:Inv X bF8 σ H s):H s.heap.objs.size=none:=I.hok.fresh (d8 _)
def Inv.aSb (I:Inv X bF8 σ H s)(a:H l=some (.lst xs)):xs.length<=sizeLine/\∃its n,Vals xs its/\xs.length=its.length/\s.heap.get? l=some { cls:=.type "list",data:=.seq its.toArray n }:=by obtain⟨z,its,n,r,e⟩:=I.hok l _ a;exact⟨z,its,n,r,r.length,e⟩
end
section
variable {X:Cx}
def aOu:V->List V->Hp->VK->Prop:=λx vs H Q=>∃l xs y,x=.ref l/\vs=[y]/\H l=some (.lst xs)/\xs.length<sizeLine/\Q .non (upd H l (.lst (xs++[y])))
def aFp:MtM X "list.append" aOu:=by intro d s σ H x o v i Q I f g h;obtain⟨l,j,y,rfl,rfl,b,m,q⟩:=h;cases f;obtain⟨u,rfl,c⟩:=g.one;obtain⟨z,a,n,r,k,e⟩:=I.aSb b;refine call_meets F.slot_list_append ⟨_,e,rfl⟩ F.entry_list_append (F.args_list_append_2 _ _) (PySem.list_append l a.toArray n u (by rw[d9];lia)) ⟨e,?_⟩;refine⟨.non,_,I.lset (its':=a++[u]) b e (by simp) (r.append (.cons c .nil)) ?_,rfl,q⟩;rw[w6,bFE];lia
def aTs:V->List V->Hp->VK->Prop:=λx vs H Q=>∃l xs i k y,x=.ref l/\vs=[.int i]/\H l=some (.lst xs)/\-(2 ^ 63)<=i/\i<2 ^ 63/\seqIndex? i xs.length=some k/\xs[k]?=some y/\Q y (upd H l (.lst (xs.eraseIdx k)))
def aVj:MtM X "list.pop" aTs:=by
 intro o s σ H x G v E Q I C D h;obtain⟨l,f,i,k,y,rfl,rfl,c,d,m,j,p,q⟩:=h;cases C;obtain⟨u,rfl,B⟩:=D.one;obtain⟨t,rfl⟩:=B;obtain⟨z,a,n,r,A,e⟩:=I.aSb c;obtain⟨w,g,b⟩:=r.get p;refine call_meets F.slot_list_pop ⟨_,e,rfl⟩ F.entry_list_pop (F.args_list_pop_2 _ _)
  (MeetsSeq.list_pop_at l a.toArray n i t k w (fitsIndex_both d m) (by rw[d9,<-A];exact j) (by rw[<-bBO];exact g) (by rw[d9];lia)) ⟨e,?_⟩
 refine⟨y,_,I.lset (its':=a.eraseIdx k) c e ?_ (r.eraseIdx k) ?_,b,q⟩
 ·show a.toArray.eraseIdxIfInBounds k=(a.eraseIdx k).toArray;rw[bFC]
 ·have:=aE2 f k;lia
def aJ3:V->List V->Hp->VK->Prop:=λx vs H Q=>∃l xs,x=.ref l/\vs=[]/\H l=some (.lst xs)/\Q .non (upd H l (.lst xs.reverse))
def aL6:MtM X "list.reverse" aJ3:=by intro f s σ H x m v i Q I d g h;obtain⟨l,j,rfl,rfl,c,q⟩:=h;cases d;have b:=g.zero;subst b;obtain⟨z,a,n,r,k,e⟩:=I.aSb c;refine call_meets F.slot_list_reverse ⟨_,e,rfl⟩ F.entry_list_reverse (F.args_list_reverse_1 _) (AutoSeq1.list_reverse_list_0 l a.toArray n (by rw[d9];lia)) ⟨e,?_⟩;refine⟨.non,_,I.lset (its':=a.reverse) c e (by simp) r.reverse ?_,rfl,q⟩;rw[List.length_reverse];lia
def bE5:R2:=λx y H Q=>∃l b xs zs,x=.ref l/\y=.ref b/\H l=some (.lst xs)/\H b=some (.lst zs)/\xs.length+zs.length<=sizeLine/\∀p,H p=none->Q (.ref p) (upd H p (.lst (xs++zs)))
def bB4:OpR X (binaryOp .Add) bE5:=by
 intro g s σ H x y v u Q I k o h;obtain⟨l,b,t,C,rfl,rfl,j,i,w,q⟩:=h;cases k;cases o;obtain⟨z,c,n,r,B,e⟩:=I.aSb j;obtain⟨D,a,A,d,p,m⟩:=I.aSb i;refine PySem.P.add_list e m ?_ (by rw[d9,d9];lia);have f:c.toArray++a.toArray=(c++a).toArray:=by simp
 rw[f];exact⟨.ref _,_,I.lnew (t':=s.toks) (r.append d) (by rw[w6];lia),rfl,q _ I.fresh⟩
end
section
variable {prog:Program}{w:World}{A:Around}{E:bF5}{s:Shared}
end
section
variable {X:Cx}
end
end L2
namespace Att
open PySem PySem.W PySem.Calls PyProof.Rows
theorem aAr:∀ns vs,WellAll P h vs (ns.map WData.int)->IntsAre vs ns:=by
 intro ns
 induction ns with
 |nil=>intro vs w;rw[List.map_nil] at w;cases w;exact .nil
 |cons n ns ih=>
  intro vs w;rw[bAL] at w;cases w with
  |cons a b=>cases a;exact .cons _ _ (ih _ b)
theorem aQp {l:OpenLaw}{n:Nat}(t:l.most=some n){P:Params}{h:Heap}{args:List WData}{vals:List Value}
  (c:l.row.toRowW.claim.pre args=true) (o:WellAll P h vals args) :
  ∃a vs ns,vals=[Value.ref a]/\args=[WData.list (ns.map WData.int)]/\h.get? a=some { cls:=.type "list",data:=.seq vs.toArray }/\IntsAre vs ns/\ns.length<=n:=by
 have g:WShape.hasAll [] args [.list .int]=true:=(pre_splitW c).1;have i:l.pre.holds [] { args:=args }=true:=(pre_splitW c).2;obtain⟨d,r,rfl,j,m⟩:=hasAllW_cons g;obtain rfl:=hasAllW_nil m;obtain⟨s,rfl,k⟩:=hasW_list j;obtain⟨ns,rfl⟩:=items_int k;have b:ns.length<=n:=by
  unfold OpenLaw.pre at i;have f:(WTm.not (.lt (.lit (.int (n:Int))) (.len (.arg 0)))).holds [] { args:=[.list (ns.map .int)] }=true:=by have f:=(holds_andW i).1;rw[t] at f;exact f
  have e:=condW_of f (w_not (w_lt w_lit (w_len_list (w_arg rfl))));rw[j6] at e;refine Nat.le_of_not_lt λq=>?_;have p:(n:Int)<((ns.length:Nat):Int):=by lia
  first
   |(rw[m9 p] at e;exact absurd e (by decide))
   |(simp at e;lia)
 cases o with
 |cons w1 w2=>
  cases w2;cases w1 with
  |list ho hall=>exact⟨_,_,ns,rfl,rfl,ho,aAr ns _ hall,b⟩
def aQl (l:OpenLaw)(args:List WData):l.row.toRowW.claim.post args (.bool true) args=true:=
 postW_of
  (show WShape.has [] (.bool true) .bool=true by first|rfl|decide|simp[WShape.has,WShape.arms,WShape.armsAll])
  (show (WTm.eq .res (.lit (.bool true))).value [] { args:=args,res:=some (.bool true),after:=args }=some (.bool (true == true)) from w_eq_bool (w_res rfl) w_lit) rfl
def aJa {l:OpenLaw}{n:Nat}{q:Program}{loose:List Str}{XP:(bF7)->Heap->Prop}{YP:World->Heap->Prop}{d:DefRec}
  (H:l.most=some n) (C:d.params.defaults=[])
  (s:∀(w:World) (s₀ s₁:Shared) (mg mb:bF7) (fa:Addr) (o:Obj) (pm cd doc:Value) (a:Addr) (vs:List Value) (ns:List Int),
   Ground q loose [] XP w s₀ mg mb s₁.heap->YP w s₁.heap ->
   s₁.heap.get? fa=some o->o.data=.func (docDef d.name d.params d.body d.scope pm cd doc)->s₁.heap.CodeRec cd d.name->mg d.name=some (.ref fa) ->
   s₁.heap.get? a=some { cls:=.type "list",data:=.seq vs.toArray }->IntsAre vs ns->ns.length<=n->s₁.gens=#[] ->
   codeAny (model l.prog w) callerA (.call (.ref fa) ⟨[.ref a],[]⟩) (λr s'=>r=.ok (.ret (.bool true))/\OldK s₁.heap s'.heap/\s'.os=s₁.os/\AllBare s'.gens) s₁) :
  WalkO q loose XP YP l.row.toRowW d [] (λf vs=>PySem.call f vs):=by
 intro w s₀ s₁ mg mb G Y fa o pm cd doc x kV F hd h k i z m t I g p E j A;obtain rfl:x=.none:=Dflts.none k C;obtain rfl:kV=.none:=Dflts.noKw k;obtain⟨a,vs,ns,rfl,rfl,c,b,e⟩:=aQp H g j;refine enter_call (bCN (s w s₀ s₁ mg mb fa o pm cd doc a vs ns G Y F (fd_plain hd) h i c b e z) λr s' v=>?_);obtain⟨rfl,u,D,y⟩:=v;exact⟨.inl ⟨.bool true,.bool true,[],rfl,λ_=>rfl,.bool true,aQl l _,λ_=>⟨List.Pairwise.nil,λ_ B=>(nomatch B)⟩⟩,u,D,y⟩
section
variable {prog:Program}{w:World}{A:Around}{E:bF5}{s:Shared}{K:Frag}
end
end Att
namespace L2
open PySem PySem.Spec PyProof.Rows
theorem aFs:∀{vs:List Value} {ns:List Int},IntsAre vs ns->Vals (ns.map V.int) vs
 |_,_,.nil=>.nil
 |_,_,.cons n t h=>.cons ⟨t,rfl⟩ (aFs h)
abbrev KOf {K:bF4}{h:Heap}(_:K.In h):bF4:=K
def jN (s:Stmt):Arguments:=match s with
 |.FunctionDef _ a _ _ _ _ _ _ _ _=>a
 |_=>{ posonlyargs:=[],args:=[],vararg:=none,kwonlyargs:=[],kw_defaults:=[],kwarg:=none,defaults:=[] }
def cX (s:Stmt):List Stmt:=match s with
 |.FunctionDef _ _ b _ _ _ _ _ _ _=>b
 |_=>[]
def aC (s:Stmt):Scope:=match s with
 |.FunctionDef _ _ _ _ _ _ sc _ _ _=>sc
 |_=>{ kind:=.function,names:=[],isGenerator:=false,isCoroutine:=false }
abbrev CX0:CXT:=λ_ _ _ _ _ _=>False
abbrev E0:XK:=λ_ _ _=>False
def aB0:mF CX0 X E0:=λ_ _ _ _ _ _ _ h=>h.elim
structure Fun (K:bF4)(x qual:Str)(st:Stmt)(f:Addr)(fd:FuncData):Prop where
 ex:∃(oc:Value) (od:Option Addr) (kV doc pm:Value) (an:Option Addr) (cdv ct:Value) (osl:Array (Option Value)),
  fd=PySem.W.fnOf x qual (jN st) (cX st) (aC st) .none kV doc pm an cdv ct/\K.lookup f=some ⟨oc,od,.func fd,osl⟩/\PySem.W.codeIn K cdv qual=true
 kp:PySem.W.keepIn K (.ref f)=true
section
variable {P:Program}{w:World}{K:bF4}{mg:bF7}{base:Heap}
def Fun.ok {x qual:Str}{st:Stmt}{f:Addr}{fd:FuncData}{N ps:List Str}{k:Nat}{sp:Sp}(F:Fun K x qual st f fd)(S:aG N ps (aC st))(j:∀vs H Q E,sp vs H Q E->vs.length=ps.length)
  (b:∀(cdv:Value) (A:Around) (outer:List Env) (s:Shared) (H:Hp) (vs:List V) (Q:VK) (E:XK),Room k (A.deeper (envOfC qual (aC st) s.heap.objs.size f cdv))->sp vs H Q E ->
   ∃t,PSs (xF CX0 P w K mg base N qual (aC st) f cdv A outer s H E).nox (cX st) t/\t { nx:=λ_ H'=>Q .non H',rt:=Q } (start N vs) H):gJ P w K mg base CX0 (k+1) f fd ps sp:=by
 obtain⟨p,o,kV,e,l,n,cdv,m,g,rfl,d,c⟩:=F.ex;refine aT3 d c S j λA outer s H vs Q E i a=>?_;obtain⟨t,h,q⟩:=b cdv A outer s H vs Q E i a;exact⟨t,h.nox,q⟩
def Fun.binds {x qual:Str}{st:Stmt}{f:Addr}{fd:FuncData}{ps:List Str}(F:Fun K x qual st f fd)
  (h:∀(kV doc pm:Value) (an:Option Addr) (cdv ct:Value) (us:List Value),us.length=ps.length->bindArgs (PySem.W.fnOf x qual (jN st) (cX st) (aC st) .none kV doc pm an cdv ct) ⟨us,[]⟩=pure (ps.zip us)):Binds K fd ps []:=by
 obtain⟨e,d,kV,doc,pm,an,cdv,ct,a,rfl,c,b⟩:=F.ex;exact .all (h kV doc pm an cdv ct)
def xQ {x qual:Str}{st:Stmt}{f:Addr}{i:Value}{h g:Option Addr}{b:Array (Option Value)}{kV a e d ct:Value}(l:K.lookup f=some ⟨i,h,.func (PySem.W.fnOf x qual (jN st) (cX st) (aC st) .none kV a e g d ct),b⟩)
  (c:PySem.W.codeIn K d qual=true) (k:PySem.W.keepIn K (.ref f)=true):Fun K x qual st f (PySem.W.fnOf x qual (jN st) (cX st) (aC st) .none kV a e g d ct):=⟨⟨i,h,kV,a,e,g,d,ct,b,rfl,l,c⟩,k⟩
end
def pB (a:Room k A):A.units+1<cLine:=bCJ (Nat.add_le_add_left (by decide:1<=64) _) a.units
def mU (h:n<=1000):n<sizeLine:=bCJ h (by decide)
section
variable {X:Cx}
def pv (i:Nat)(c:X.N[i]?=some x:=by rfl)(b:Vis X.env.scope x:=by trivial)(hd:(x == ("__debug__":Str))=false:=by decide)
  (a:(x == ("__classdict__":Str))=false:=by decide):PE X (.Name x pos) (rP i):=bBg c b hd a
end
def bY {A B:Prop}(h:B):if false=true then A else B:=by rw[if_neg v5];exact h
def eX {A B:Prop}(h:A):if true=true then A else B:=by rw[if_pos rfl];exact h
def aMr {c A B:Prop}[Decidable c](a:c->A)(b:¬ c->B):if c then A else B:=by
 by_cases h:c
 ·rw[if_pos h];exact a h
 ·rw[if_neg h];exact b h
def Same (H H':Hp):Prop:=∀b o,H b=some o->H' b=some o
def Same.refl (H:Hp):Same H H:=λ_ _ h=>h
def Same.trans (a:Same H H1)(b:Same H1 H2):Same H H2:=λc o h=>b c o (a c o h)
theorem Same.free (e:Same H H')(h:H' l=Option.none):H l=Option.none:=by
 cases q:H l with
 |none=>rfl
 |some o=>rw[e l o q] at h;cases h
def Same.seq {K:bF4}{H H':Hp}{a:Addr}{xs:List V}(e:Same H H')(h:SqL K H a xs):SqL K H' a xs:=by
 rcases h with (h|⟨o,h⟩)|h
 ·exact .inl (.inl (e _ _ h))
 ·exact .inl (.inr ⟨o,e _ _ h⟩)
 ·exact .inr h
end L2
namespace PySem
namespace RvF
end RvF
section
variable {prog:Program}{w:World}{A:Around}{E:bF5}{s:Shared}
end
end PySem
namespace L2
open PySem PySem.Spec PyProof.Rows
def aFw:bootBuiltins "int"=some (.type "int"):=by decide +kernel
def aYy:bootBuiltins "bool"=some (.type "bool"):=by decide +kernel
def aTe:bootBuiltins "str"=some (.type "str"):=by decide +kernel
def rJ:bootBuiltins "list"=some (.type "list"):=by decide +kernel
def eY:bootBuiltins "tuple"=some (.type "tuple"):=by decide +kernel
def aOx:bootBuiltins "dict"=some (.type "dict"):=by decide +kernel
def aH1:bootBuiltins "set"=some (.type "set"):=by decide +kernel
def bBa:bootBuiltins "zip"=some (.type "zip"):=by decide +kernel
def aGf:bootBuiltins "enumerate"=some (.type "enumerate"):=by decide +kernel
def bN:bootBuiltins "isinstance"=some (.builtin "isinstance"):=by decide +kernel
def cW:bootBuiltins "len"=some (.builtin "len"):=by decide +kernel
def tQ:bootBuiltins "all"=some (.builtin "all"):=by decide +kernel
def bBo:bootBuiltins "any"=some (.builtin "any"):=by decide +kernel
def bCr:bootBuiltins "max"=some (.builtin "max"):=by decide +kernel
def dB:bootBuiltins "sorted"=some (.builtin "sorted"):=by decide +kernel
def aYc {J:It}{n:Nat}{item:Nat->V}{g:TG}{tb:TS}{D:Ends}{σ:St}{H:Hp}(c:Nat->St->Hp->Prop)
  (j:∀i H,i<n->J.go i H) (f:∀H,J.stop n H) (l:∀i H x H',i<n->J.yld i H x H'->H'=H/\x=item i) (o:c 0 σ H)
  (k:∀i σ H,i<n->c i σ H->g (item i) σ H fun σ2 H2=>tb { D with nx:=c (i+1),ct:=c (i+1),bk:=D.nx } σ2 H2) (hd:∀σ H,c n σ H->D.nx σ H) :
  ∃W:Nat->Nat->St->Hp->Prop,(∃m,W 0 m σ H)/\∀i m σ H,W i m σ H ->
   (J.stop i H/\D.nx σ H)\/(J.go i H/\∃N:St->Hp->Prop,(∀σ' H',N σ' H'->∃m',m'<m/\W (i+1) m' σ' H')/\∀x H',J.yld i H x H'->g x σ H' fun σ2 H2=>tb { D with nx:=N,ct:=N,bk:=D.nx } σ2 H2):=by
 refine⟨λi m σ H=>m=n - i/\i<=n/\c i σ H,⟨n,by simp,bAC _,o⟩,?_⟩;rintro i m σ H ⟨rfl,hi,p⟩;by_cases a:i<n
 ·refine .inr ⟨j i H a,c (i+1),fun σ' H' b=>⟨n - (i+1),by lia,rfl,a,b⟩,λx H' y=>?_⟩;obtain⟨h,d⟩:=l i H x H' a y;subst h d;exact k i σ _ a p
 ·have e:i=n:=by lia
  subst e;exact .inl ⟨f H,hd σ H p⟩
def sgn (x:Str)(i:Nat):Str:=⟨#[x.cps.getD i 0]⟩
def aVu (h:x.cps[i]?=some c):(⟨#[c]⟩:Str)=sgn x i:=by unfold sgn;rw[v6,h];rfl
def Its (x:Str):It:=⟨λi _=>i<x.cps.size,λi H v H'=>H'=H/\v=.str (sgn x i),λi _=>x.cps.size<=i⟩
def aQe {P:Program}{w:World}{K:bF4}{tg:Expr}(it:Addr)(x:Str)(t:Tok):Turn P w K tg (Its x) [it] it (λi h=>h.IsStrIter it "str_ascii_iterator" x t i) where
 mem:=by simp
 obj:=λi h a b f=>by
  have e:b=it:=by simpa using f
  subst e;obtain⟨o,e,c,d⟩:=a;exact⟨o,e,λv z=>by rw[d] at z;cases z⟩
 keep:=λi h m a k=>let ⟨o,ho,r⟩:=a;⟨o,k it (by simp) o ho,r⟩
 item:=by intro X C n B G i g s σ H E I l a y;subst C n B;obtain⟨F,p,O,A,D,J⟩:=l it (by simp);refine (Walks.strAscii (prog:=X.prog) (w:=X.w) (I.ok.hd G) it x t).item i s _ _ y a λv m L R j N=>?_;obtain⟨c,u,q,rfl⟩:=R;have Q:Inv X g σ H { s with heap:=m,toks:=L }:=I.turned (λb o f e=>N b o (by simpa using f) e) F p A D J;obtain⟨o,e,S,d⟩:=id j;exact⟨_,rfl,aKt (s:={ s with heap:=m,toks:=L }) e S d (by decide) ⟨.str ⟨#[c]⟩,H,Q,⟨u,rfl⟩,⟨rfl,by rw[aVu q]⟩,j,λb f=>(l b f).1⟩⟩
 done:=by intro X C n B G i g s σ H E I l a y;subst C n B;obtain⟨F,p,O,A,D,J⟩:=l it (by simp);exact wpAny_pyNext_ascii_end (I.ok.hd G) a (Array.getElem?_eq_none_iff.mpr y) λm M=>⟨rfl,I.turned (t':=s.toks) (λb o f e=>M b o f e) F p A D J⟩
 self:=λ_ _ _ _ _ a h=>wpAny_pyIter_striter_ascii a h
def aQn {P:Program}{w:World}{K:bF4}{tg:Expr}(it:Addr)(x:Str)(t:Tok):Turn P w K tg (Its x) [it] it (λi h=>h.IsStrIter it "str_iterator" x t i) where
 mem:=by simp
 obj:=λi h a b f=>by
  have e:b=it:=by simpa using f
  subst e;obtain⟨o,e,c,d⟩:=a;exact⟨o,e,λv z=>by rw[d] at z;cases z⟩
 keep:=λi h m a k=>let ⟨o,ho,r⟩:=a;⟨o,k it (by simp) o ho,r⟩
 item:=by intro X C n B G i g s σ H E I l a y;subst C n B;obtain⟨F,p,O,A,D,J⟩:=l it (by simp);refine (Walks.strWide (prog:=X.prog) (w:=X.w) (I.ok.hd G) it x t).item i s _ _ y a λv m L R j N=>?_;obtain⟨c,u,q,rfl⟩:=R;have Q:Inv X g σ H { s with heap:=m,toks:=L }:=I.turned (λb o f e=>N b o (by simpa using f) e) F p A D J;obtain⟨o,e,S,d⟩:=id j;exact⟨_,rfl,aKt (s:={ s with heap:=m,toks:=L }) e S d (by decide) ⟨.str ⟨#[c]⟩,H,Q,⟨u,rfl⟩,⟨rfl,by rw[aVu q]⟩,j,λb f=>(l b f).1⟩⟩
 done:=by intro X C n B G i g s σ H E I l a y;subst C n B;obtain⟨F,p,O,A,D,J⟩:=l it (by simp);exact wpAny_pyNext_wide_end (I.ok.hd G) a (Array.getElem?_eq_none_iff.mpr y) λm M=>⟨rfl,I.turned (t':=s.toks) (λb o f e=>M b o f e) F p A D J⟩
 self:=λ_ _ _ _ _ a h=>wpAny_pyIter_striter_wide a h
section
variable {X:Cx}{tg:Expr}
def bB9 (tl:TE):TI:=fun σ H R=>tl σ H λx H1=>∃z,x=.str z/\R (Its z) H1
def bA7 (n:PE X l tl):PI X tg l (bB9 tl):=by
 intro c s σ H R I h;refine thn (n c s σ H _ I h) λv a ⟨x,f,d,k,m⟩=>?_;obtain⟨z,e,q⟩:=m;subst e;obtain⟨t,rfl⟩:=k;have g:∀b∈[a.heap.objs.size],sE X c f b:=λb j=>by
  have e:b=a.heap.objs.size:=by simpa using j
  subst e;exact d.aLe (d8 _) (d.hok.fresh (d8 _))
 cases i:z.cps.all (·<128)
 ·exact wpAny_pyIter_wide i ⟨a.heap.objs.size,[a.heap.objs.size],_,_,f,rfl,d.kept (t':=a.toks) λb o e=>c7 _ e,aQn _ z t,⟨_,j8 _ rfl,rfl,rfl⟩,g,q⟩
 ·exact wpAny_pyIter_ascii i ⟨a.heap.objs.size,[a.heap.objs.size],_,_,f,rfl,d.kept (t':=a.toks) λb o e=>c7 _ e,aQe _ z t,⟨_,j8 _ rfl,rfl,rfl⟩,g,q⟩
def aXd {x:Str}{g:TG}{tb:TS}{D:Ends}{σ:St}{H:Hp}(b:Nat->St->Hp->Prop)(c:b 0 σ H)
  (a:∀i σ H,i<x.cps.size->b i σ H->g (.str (sgn x i)) σ H fun σ2 H2=>tb { D with nx:=b (i+1),ct:=b (i+1),bk:=D.nx } σ2 H2) (hd:∀σ H,b x.cps.size σ H->D.nx σ H) :
  ∃W:Nat->Nat->St->Hp->Prop,(∃m,W 0 m σ H)/\∀i m σ H,W i m σ H ->
   ((Its x).stop i H/\D.nx σ H)\/((Its x).go i H/\∃N:St->Hp->Prop,(∀σ' H',N σ' H'->∃m',m'<m/\W (i+1) m' σ' H')/\∀v H',(Its x).yld i H v H'->g v σ H' fun σ2 H2=>tb { D with nx:=N,ct:=N,bk:=D.nx } σ2 H2):=
 aYc (item:=λi=>.str (sgn x i)) b (λi H h=>h) (λH=>d8 _) (λi H v H' _ y=>y) c a hd
def bBf:V->List V->Hp->VK->Prop:=λx vs H Q=>∃a b i rest,x=.str a/\vs=[.str b]/\Builtin.Str.occurrences a b 0 a.length 1=i::rest/\Q (.int (i:Nat)) H
def aVp:MtR X "str.index" bBf:=by intro e s σ H x l v j Q I d f h;obtain⟨a,b,i,c,rfl,rfl,g,q⟩:=h;obtain⟨t,rfl⟩:=d;obtain⟨u,rfl,k,rfl⟩:=f.one;exact SC.index g ⟨.int (i:Nat),H,I.tok _,⟨_,rfl⟩,q⟩
def aL8 (x:V)(T:String):Option Bool:=match x with
 |.int _=>if T = "int" then some true else if T = "bool" then some false else if T = "str" then some false else none
 |.str _=>if T = "int" then some false else if T = "bool" then some false else if T = "str" then some true else none
 |.bl _=>if T = "int" then some true else if T = "bool" then some true else if T = "str" then some false else none
 |_=>none
def bEl:List V->Hp->VK->Prop:=λxs H Q=>∃x T b,xs=[x,.ty T]/\aL8 x T=some b/\Q (.bl b) H
theorem wD:cH X (.builtin "isinstance") bEl:=by
 intro d s σ H m l Q I r h;obtain⟨x,T,b,rfl,e,q⟩:=h;obtain⟨u,v,rfl,g,j⟩:=r.two;cases j;have f:∀{k:Bool},some k=some b->EP X d σ Q (.bool k) s:=λe=>by cases e;exact⟨.bl _,H,I,rfl,q⟩
 have c:∀{k:Bool},some k=some b->EP X d σ Q (.bool k) { s with toks:=s.toks+1 }:=λe=>by cases e;exact⟨.bl _,H,I.tok _,rfl,q⟩
 cases x with
 |int i=>
  obtain⟨t,rfl⟩:=g;unfold aL8 at e;dsimp only at e
  split at e
  ·rename_i a;subst a;exact IsiPair.int_int (f e)
  split at e
  ·rename_i a;subst a;exact IsiPair.int_bool (c e)
  split at e
  ·rename_i a;subst a;exact IsiPair.int_str (c e)
  ·cases e
 |str z=>
  obtain⟨t,rfl⟩:=g;unfold aL8 at e;dsimp only at e
  split at e
  ·rename_i a;subst a;exact IsiPair.str_int (c e)
  split at e
  ·rename_i a;subst a;exact IsiPair.str_bool (c e)
  split at e
  ·rename_i a;subst a;exact IsiPair.str_str (f e)
  ·cases e
 |bl z=>
  cases g;unfold aL8 at e;dsimp only at e
  split at e
  ·rename_i a;subst a;exact IsiPair.bool_int (f e)
  split at e
  ·rename_i a;subst a;exact IsiPair.bool_bool (f e)
  split at e
  ·rename_i a;subst a;exact IsiPair.bool_str (c e)
  ·cases e
 |_=>cases (show (none:Option Bool)=some b from e)
end
def small (h:n<=1000):n<=sizeLine:=bDI (mU h)
def aBv:Vals [] []:=.nil
def lG (r:RelV x u)(t:Vals xs us):Vals (x::xs) (u::us):=.cons r t
def cM:Expr->Bool
 |.Starred ..=>false
 |_=>true
def aM (h:cM e=true):starEach (e::es) env=(false,eval e env)::starEach es env:=by cases e <;> first|rfl|cases h
def bBs (c:PE X e te)(a:PA X es t)(b:cM e=true:=by rfl) :
  PA X (e::es) (dI te t):=aX6 c a (aM b)
def bEh (b:Gl X x)(a:∃u,X.mg x=some u/\RelV v u)(hd:(x == ("__debug__":Str))=false:=by decide):PE X (.Name x pos) (tC v):=by obtain⟨u,a,r⟩:=a;exact aWu b a r hd
section
variable {P:Program}{w:World}{K:bF4}{mg:bF7}{base:Heap}
def Dn (K:bF4)(mg:bF7)(x:Str)(st:Stmt)(ps:List Str):Prop:=∃f fd,Fun K x x st f fd/\Binds K fd ps []/\mg x=some (.ref f)
def Ok (P:Program)(w:World)(K:bF4)(mg:bF7)(base:Heap)(k:Nat)(x:Str)(ps:List Str)(sp:Sp):Prop:=
 ∃f fd,mg x=some (.ref f)/\PySem.W.keepIn K (.ref f)=true/\Binds K fd ps []/\gJ P w K mg base CX0 k f fd ps sp
theorem Ok.mono (h:Ok P w K mg base j x ps sp)(g:j<=k):Ok P w K mg base k x ps sp:=by obtain⟨f,b,a,e,c,d⟩:=h;exact⟨f,b,a,e,c,d.mono g⟩
def Ok.of {x:Str}{st:Stmt}{N ps:List Str}{k:Nat}{sp:Sp}(D:Dn K mg x st ps)(S:aG N ps (aC st))(d:∀vs H Q E,sp vs H Q E->vs.length=ps.length)
  (a:∀(f:Addr) (cdv:Value) (A:Around) (outer:List Env) (s:Shared) (H:Hp) (vs:List V) (Q:VK) (E:XK),Room k (A.deeper (envOfC x (aC st) s.heap.objs.size f cdv))->sp vs H Q E ->
   ∃t,PSs (xF CX0 P w K mg base N x (aC st) f cdv A outer s H E).nox (cX st) t/\t { nx:=λ_ H'=>Q .non H',rt:=Q } (start N vs) H):Ok P w K mg base (k+1) x ps sp:=by
 obtain⟨f,b,F,B,m⟩:=D;exact⟨f,b,m,F.kp,B,F.ok S d λcdv A outer s H vs Q E c h=>a f cdv A outer s H vs Q E c h⟩
end
section
variable {X:Cx}{k:Nat}{ps:List Str}{sp:Sp}{x:Str}{p pos:Pos}{e:Expr}{es:List Expr}{t:TA}
def bDh (G:Ok X.prog X.w X.K X.mg X.base k x ps sp)(n:Room k X.A)(l:Gl X x)(m:PA X (e::es) t)(h:(x == ("__debug__":Str))=false:=by decide)
  (j:starEach (e::es) X.env=(false,eval e X.env)::starEach es X.env:=by rfl) (c:(backTo pos (starEach es X.env)).any (·.1)=false:=by rfl) :
  PE X (.Call (.Name x p) (e::es) [] pos) (aCf sp [] E0 t):=by
 obtain⟨f,i,a,g,d,b⟩:=G;exact aWy b n l a g d .nil aB0 m h j c
def bAl (G:Ok X.prog X.w X.K X.mg X.base k x ps sp)(i:Room k X.A)(h:Gl X x)(e:(x == ("__debug__":Str))=false:=by decide) :
  PE X (.Call (.Name x p) [] [] pos) (aCf sp [] E0 aAj):=by
 obtain⟨f,g,a,d,c,b⟩:=G;exact aU2 b i h a d c .nil aB0 e
end
theorem tY (f:Str × NameKind->List (Str × Addr)->Sem (ForInStep (List (Str × Addr))))
  (i:∀n r,f (n,.free) r=(cellOf env n >>= λa=>pure (.yield ((n,a)::r)))) (j:∀n k r,k≠.free->f (n,k) r=pure (.yield r)) :
  ∀(names:List (Str × NameKind)) (acc:List (Str × Addr)),(∀y∈names,y.2=.free->∃c,env.cells.lookup y.1=some c) ->
  ∃cl,forIn names acc f=(pure (cl++acc):Sem _)/\(∀p∈cl,env.cells.lookup p.1=some p.2/\(p.1,NameKind.free)∈names)/\∀y,(y,NameKind.free)∈names->∃c,(y,c)∈cl
 |[],acc,_=>⟨[],by simp,λ_ h=>(nomatch h),λ_ h=>(nomatch h)⟩
 |(n,k)::r,acc,h=>by
  by_cases d:k=.free
  ·subst d;obtain⟨c,l⟩:=h (n,.free) j0 rfl;obtain⟨cl,e,b,g⟩:=tY f i j r ((n,c)::acc) λy hy=>h y (j5 _ hy);refine⟨cl++[(n,c)],?_,λp hp=>?_,λy hy=>?_⟩
   ·rw[bDO,i];have m:cellOf env n=pure c:=by unfold cellOf;rw[l]
    rw[m,pure_bind,pure_bind];show forIn r ((n,c)::acc) f=_;rw[e,bCY];rfl
   ·rcases List.mem_append.mp hp with hp|hp
    ·exact⟨(b p hp).1,j5 _ (b p hp).2⟩
    ·obtain rfl:=List.mem_singleton.mp hp;exact⟨l,j0⟩
   ·rcases List.mem_cons.mp hy with e|hy
    ·cases e;exact⟨c,by simp⟩
    ·obtain⟨o,q⟩:=g y hy;exact⟨o,bBQ _ q⟩
  ·obtain⟨cl,e,b,g⟩:=tY f i j r acc λy hy=>h y (j5 _ hy);refine⟨cl,?_,λp hp=>⟨(b p hp).1,j5 _ (b p hp).2⟩,λy hy=>?_⟩
   ·rw[bDO,j n k acc d,pure_bind];exact e
   ·rcases List.mem_cons.mp hy with e|hy
    ·cases e;exact absurd rfl d
    ·exact g y hy
theorem aOa (h:∀y∈scope.names,y.2=.free->∃c,env.cells.lookup y.1=some c) :
  ∃cl,closureFor scope env=pure cl/\(∀p∈cl,env.cells.lookup p.1=some p.2/\(p.1,NameKind.free)∈scope.names)/\∀y,(y,NameKind.free)∈scope.names->∃c,(y,c)∈cl:=by
 unfold closureFor;obtain⟨cl,e,b,d⟩:=tY (env:=env) (λx r=>match x with|(name,kind)=>if (kind == NameKind.free)=true then do let a <-cellOf env name;pure (.yield ((name,a)::r)) else pure (.yield r))
  (λn r=>rfl) (λn k r f=>by
   have:(k == NameKind.free)=false:=by simpa using f
   simp only[this,bAU,if_false]) scope.names [] h
 refine⟨cl,?_,b,d⟩;rw[bBB] at e;refine Eq.trans ?_ e;first
 |rfl
 |simp
theorem lookup_mem {α β:Type}[BEq α][LawfulBEq α]{a:α}{b:β}:∀{l:List (α × β)},(a,b)∈l->∃b',l.lookup a=some b'
 |(x,y)::r,h=>by
  rw[bCV];by_cases e:(a == x)=true
  ·exact⟨y,by rw[e]⟩
  ·have c:(a == x)=false:=by simpa using e
   rw[c];rcases List.mem_cons.mp h with z|z
   ·cases z;simp at e
   ·exact lookup_mem z
theorem vX {env:Env}{y:Str}{k:NameKind}:∀{names:List (Str × NameKind)},names.lookup y=some .free ->
  (names.map λx=>match x with|(n,k)=>if (k == NameKind.free && env.scope.kind == ScopeKind.function && env.kindOf n == some NameKind.cell) then (n,NameKind.cell) else (n,k)).lookup y=some .cell \/
  (names.map λx=>match x with|(n,k)=>if (k == NameKind.free && env.scope.kind == ScopeKind.function && env.kindOf n == some NameKind.cell) then (n,NameKind.cell) else (n,k)).lookup y=some .free
 |[],h=>by simp at h
 |(n,k')::r,h=>by
  rw[bAL];rw[bCV] at h;by_cases e:(y == n)=true
  ·rw[e] at h;cases h;by_cases q:((NameKind.free == NameKind.free) && env.scope.kind == ScopeKind.function && env.kindOf n == some NameKind.cell)=true
   ·left;simp only[q,if_true,bCV,e]
   ·right;have f:=Bool.eq_false_iff.mpr q;simp only[f,bAU,if_false,bCV,e]
  ·have b:(y == n)=false:=by simpa using e
   rw[b] at h;have c:=vX (env:=env) (k:=k) h;have a:∀z:Str × NameKind,z.1=n->(List.lookup y (z::(r.map λx=>match x with|(n,k)=>if (k == NameKind.free && env.scope.kind == ScopeKind.function && env.kindOf n == some NameKind.cell) then (n,NameKind.cell) else (n,k)))) =
     List.lookup y (r.map λx=>match x with|(n,k)=>if (k == NameKind.free && env.scope.kind == ScopeKind.function && env.kindOf n == some NameKind.cell) then (n,NameKind.cell) else (n,k)):=λz g=>by
    obtain⟨i,j⟩:=z;cases g;rw[bCV,b]
   have d:(match ((n,k'):Str × NameKind) with|(n,k)=>if (k == NameKind.free && env.scope.kind == ScopeKind.function && env.kindOf n == some NameKind.cell) then (n,NameKind.cell) else (n,k)).1=n:=by
    dsimp only
    split <;> rfl
   rw[a _ d];exact c
theorem uV {env:Env}{y:Str}:∀{names:List (Str × NameKind)},(∀z∈names,z.2≠.cell) ->
  ((names.map λx=>match x with|(n,k)=>if (k == NameKind.free && env.scope.kind == ScopeKind.function && env.kindOf n == some NameKind.cell) then (n,NameKind.cell) else (n,k)).lookup y=some .cell \/
  (names.map λx=>match x with|(n,k)=>if (k == NameKind.free && env.scope.kind == ScopeKind.function && env.kindOf n == some NameKind.cell) then (n,NameKind.cell) else (n,k)).lookup y=some .free)->(y,NameKind.free)∈names
 |[],_,h=>by simp at h
 |(n,k')::r,hc,h=>by
  rw[bAL] at h;by_cases e:(y == n)=true
  ·have i:y=n:=by simpa using e
   subst i;have g:k'=.free:=by
    by_cases q:((k' == NameKind.free) && env.scope.kind == ScopeKind.function && env.kindOf y == some NameKind.cell)=true
    ·rw[bAS,bAS] at q;simpa using q.1.1
    ·have f:=Bool.eq_false_iff.mpr q;simp only[f,bAU,if_false,bCV,e] at h;rcases h with h|h
     ·cases h;exact absurd rfl (hc (y,.cell) j0)
     ·cases h;rfl
   subst g;exact j0
  ·have c:(y == n)=false:=by simpa using e
   have a:∀z:Str × NameKind,z.1=n->(List.lookup y (z::(r.map λx=>match x with|(n,k)=>if (k == NameKind.free && env.scope.kind == ScopeKind.function && env.kindOf n == some NameKind.cell) then (n,NameKind.cell) else (n,k)))) =
     List.lookup y (r.map λx=>match x with|(n,k)=>if (k == NameKind.free && env.scope.kind == ScopeKind.function && env.kindOf n == some NameKind.cell) then (n,NameKind.cell) else (n,k)):=λz b=>by
    obtain⟨j,l⟩:=z;cases b;rw[bCV,c]
   have d:(match ((n,k'):Str × NameKind) with|(n,k)=>if (k == NameKind.free && env.scope.kind == ScopeKind.function && env.kindOf n == some NameKind.cell) then (n,NameKind.cell) else (n,k)).1=n:=by
    dsimp only
    split <;> rfl
   rw[a _ d] at h;exact j5 _ (uV (λz b=>hc z (j5 _ b)) h)
section
variable {prog:Program}{w:World}{A:Around}{E:bF5}{R:Result->Shared->Prop}{s:Shared}
theorem aR4 (I:Nat->Shared->Prop)
  (d:∀n s,I n s->wpAny (model prog w) A (pyNext it) (λr s₁=>match r with
   |none=>R (.ok .next) s₁
   |some v=>wpAny (model prog w) A (letOwnedTupleGo target it v) (λ_ s'=>wpAny (model prog w) A (assign target env v) (λ_ s₂=>
     wpAny (model prog w) A (forIn ifs true λc r=>if r=true then do let ok <-isTrue c env (eval c env);pure (ForInStep.yield ok) else pure (ForInStep.yield r)) (λok s₃=>
      if ok=true then wpAny (model prog w) A (eval elt env) (λx s₄=>
       wpAny (model prog w) A (call (.builtin "list.append") [acc,x]) (λ_ s₅=>∃m,m<n/\I m s₅) (notedBy (model prog w) A env λe s'=>R (.error e) s') s₄) (notedBy (model prog w) A env λe s'=>R (.error e) s') s₃
      else ∃m,m<n/\I m s₃) (notedBy (model prog w) A env λe s'=>R (.error e) s') s₂) (notedBy (model prog w) A env λe s'=>R (.error e) s') s') (notedBy (model prog w) A env λe s'=>R (.error e) s') s₁)
   (notedBy (model prog w) A env λe s'=>R (.error e) s') s)
  (n:Nat) (h:I n s):codeAny (model prog w) A (.compLoop (.ListComp elt [⟨target,iter,ifs,0⟩] scope pos) 0 it acc env) R s:=by
 refine codeAny_loop rfl I (λn s k=>?_) n h;show wpAny _ A ((compTurn (.ListComp elt [⟨target,iter,ifs,0⟩] scope pos) 0 it acc env).onRaise (λx=>do noteFrame x env;theTreesLotGoes x)) _ _ s;refine wpAny_noted ?_;rw[compTurn_list];refine b7 (bEC (b7 (bAX (d n s k) (λr s₁ f=>?_) λ_ _ a=>a)));cases r with
 |none=>exact d7 f
 |some v=>
  refine b7 (bAX f (λ_ s' b=>b7 (bAX b (λ_ s₂ l=>b7 (bAX l (λok s₃ g=>?_) λ_ _ a=>a)) λ_ _ a=>a)) λ_ _ a=>a);cases ok with
  |false=>exact d7 ⟨rfl,g⟩
  |true=>exact b7 (b7 (bAX g (λx s₄ j=>b7 (bAX j (λ_ s₅ i=>d7 (d7 ⟨rfl,i⟩)) λ_ _ a=>a)) λ_ _ a=>a))
end
def cxC (X:Cx)(N:List Str)(scope:Scope)(cl:List (Str × Addr))(s:Shared)(H:Hp)(fp:List Addr):Cx:=
 { X with N:=N,s₀:=s,H₀:=H,env:=compEnvC scope cl s.heap.objs.size X.env,outer:=X.stack,stack:=X.stack,ex:=fp,fn:=λ_=>false,pn:=[],xe:=λ_ _=>False }
def aQ7 (X:Cx)(ifs:List Expr)(tt:TT):Prop:=
 ∀bF8 s σ H Q,Inv X bF8 σ H s->tt σ H Q ->
  wpAny (model X.prog X.w) X.A (forIn ifs true λc r=>if r=true then do let ok <-isTrue c X.env (eval c X.env);pure (ForInStep.yield ok) else pure (ForInStep.yield r)) (TP X bF8 σ Q) X.xe s
def mJ:TT:=λ_ H Q=>Q true H
def aZ3:aQ7 X [] mJ:=λ_ _ _ H _ I h=>wpAny_tests_nil ⟨H,I,h⟩
def aZ1 (h:PT X c tc):aQ7 X [c] tc:=λa s σ H Q I q=>wpAny_tests_one (h a s σ H Q I q)
structure yR (scope:Scope)(N:List Str):Prop where
 cell:∀y∈scope.names,y.2≠.cell
 kind:scope.kind=.function
 names:∀y∈scope.names,y.2=.local->scope.names.lookup y.1=some .local
 free:∀y∈scope.names,y.2=.free->scope.names.lookup y.1=some .free
def Cap (X:Cx)(scope:Scope)(N:List Str)(σ σ':St):Prop:=
 σ'.length=N.length/\∀(i:Nat) (y:Str) (v:V),N[i]?=some y->σ'[i]?=some (some v)->(y,NameKind.free)∈scope.names/\∃j:Nat,X.N[j]?=some y/\σ[j]?=some (some v)/\Vis X.env.scope y
theorem aT1 {X:Cx}{bF8:bF6}{σ σ':St}{H:Hp}{s:Shared}{scope:Scope}{N:List Str}{cl:List (Str × Addr)}{fp:List Addr}{P:Heap}{tk:Nat}{m1:bF7}
  (I:Inv X bF8 σ H s) (C:yR scope N) (T:∀y,(y,NameKind.free)∈scope.names->X.env.kindOf y=some .cell\/X.env.kindOf y=some .free)
  (p1:∀p∈cl,X.env.cells.lookup p.1=some p.2/\(p.1,NameKind.free)∈scope.names) (p2:∀y,(y,NameKind.free)∈scope.names->∃c,(y,c)∈cl)
  (D:Cap X scope N σ σ') (K:∀b∈fp,sE X bF8 H b) (V:∀b∈fp,b<s.heap.objs.size)
  (hn:P.Ns s.heap.objs.size m1) (A:∀b o,s.heap.get? b=some o->P.get? b=some o) :
  Inv (cxC X N scope cl s H fp) [] σ' H { s with heap:=P,toks:=tk }:=by
 have a:=I.ok;have f:∀y c,cl.lookup y=some c->X.env.cells.lookup y=some c:=λy c e=>(p1 _ (PySem.mem_of_lookup e)).1;have w:∀y,(y,NameKind.free)∈scope.names->∃c,cl.lookup y=some c/\X.env.cells.lookup y=some c:=λy d=>by obtain⟨c,hc⟩:=p2 y d;obtain⟨G,e⟩:=lookup_mem hc;exact⟨G,e,f y G e⟩
 have t:∀b∈fp,b∉frs X.stack:=λb g z=>by
  obtain⟨O,B,F,_⟩:=K b g;rcases List.mem_cons.mp (I.aHy b z) with e|e
  ·exact B e
  ·exact F e
 have E:(cxC X N scope cl s H fp).Ok:=by
  refine⟨a.mod,C.kind,a.glob,a.blt,d8 _,λx y c P S=>a.inj x y c (f x c P) (f y c S),λy d=>?_,λy c h _=>?_,a.hd,a.frames,.inl rfl,λb g=>?_,I.bs,bAE a.bsz I.sz,
   λb o e g=>?_,t,I.stack,I.rG⟩
  ·obtain⟨c,e,_⟩:=w y (uV C.cell d);exact⟨c,e⟩
  ·exact absurd (show false=true from h) v5
  ·obtain⟨O,B,F,L,M,Q⟩:=K b g;exact⟨v8 (V b g),λx c e=>M x c (f x c e)⟩
  ·obtain⟨O,B,F,L,M,Q⟩:=K b g;rcases L with z|z
   ·exact a.noex b o e z
   ·exact absurd (z9 (j9 e) (bAE a.bsz z)) (bBM _)
 refine⟨E,rfl,I.bare,Un.kept A,⟨m1,hn,λi y v U e2 e3=>?_⟩,λy c e=>?_,I.hok.fresh (d8 _),λy c e=>I.freeC y c (f y c e),λp hp=>absurd (show p∈([]:bF6) from hp) (by simp),I.hok.kept A,D.1⟩
 ·obtain⟨d,j,e4,e5,R⟩:=D.2 i y v U e2;obtain⟨m,_,Z⟩:=I.loc;obtain⟨u,r,l⟩:=Z j y v e4 e5 R;refine⟨u,r,.inr ?_⟩;rcases l with⟨k,_⟩|⟨k,c,e,z⟩
  ·rcases T y d with q|q <;> (rw[k] at q;cases q)
  ·obtain⟨G,Y,n⟩:=w y d;rw[e] at n;cases n;have W:=vX (env:=X.env) (k:=.free) (C.free (y,.free) d rfl);refine⟨W,c,Y,?_⟩;obtain⟨o,J,hd⟩:=z;exact⟨o,A _ _ J,hd⟩
 ·obtain⟨v,o,J,hd⟩:=I.cell y c (f y c e);exact⟨v,o,A _ _ J,hd⟩
def jD (X:Cx)(scope:Scope)(N:List Str)(wi:TI)(g:TG)(tt:TT)(te:TE):TE:=fun σ H Q=>∃σ0,Cap X scope N σ σ0/\wi σ H λJ H1=>∀D,H1 D=none->∃W:Nat->Nat->St->Hp->List V->Prop,(∃m,W 0 m σ0 (upd H1 D (.lst [])) []) /\
 ∀i m σ' H' ys,W i m σ' H' ys->H' D=some (.lst ys)/\((J.stop i H'/\Q (.ref D) H')\/(J.go i H'/\∀x H2,J.yld i H' x H2->g x σ' H2 fun σ3 H3=>tt σ3 H3 λb H4=>
  if b=true then te σ3 H4 λy H5=>H5 D=some (.lst ys)/\ys.length<sizeLine/\∃m',m'<m/\W (i+1) m' σ3 (upd H5 D (.lst (ys++[y]))) (ys++[y]) else H4 D=some (.lst ys)/\∃m',m'<m/\W (i+1) m' σ3 H4 ys))
theorem aFi {X:Cx}{ar a9 aq:Expr}{av:List Expr}{scope:Scope}{pos p9:Pos}{N:List Str}{wi:TI}{g:TG}{tt:TT}{te:TE}{use:Option (Value->Sem Unit)}{QQ:bF5}{a4:bF6}{s:Shared}{σ:St}{H:Hp}{Qv:VK}
  (C:yR scope N) (aa:∀y,(y,NameKind.free)∈scope.names->X.env.kindOf y=some .cell\/X.env.kindOf y=some .free) (hc:X.calm=true)
  (hi:PI X a9 aq wi)
  (a:∀cl s H fp,PG (cxC X N scope cl s H fp) a9 g/\aQ7 (cxC X N scope cl s H fp) av tt/\PE (cxC X N scope cl s H fp) ar te)
  (hs:∀x,foldedSetIterable aq X.env x=pure x) (I:Inv X a4 σ H s) (hq:jD X scope N wi g tt te σ H Qv)
  (a7:∀(D fr:Addr) (H5:Hp) (s6:Shared),(∃m6,s6.heap.Ns fr m6)->(∀h',(∀b o,b≠fr->s6.heap.get? b=some o->h'.get? b=some o)->Inv X a4 σ H5 { s6 with heap:=h' })->sE X a4 H5 fr->Qv (.ref D) H5->compPost (model X.prog X.w) X.A X.xe use QQ (.ref D) fr (.ok .next) s6) :
  wpAny (model X.prog X.w) X.A (comprehension (.ListComp ar [⟨a9,aq,av,0⟩] scope pos) scope X.env p9 (newList []) false (eval aq X.env) use) QQ X.xe s:=by
 obtain⟨σ0,ae,hq⟩:=hq;obtain⟨cl,am,p1,p2⟩:=aOa (scope:=scope) (env:=X.env) (λy hy hk=>by obtain⟨n,k⟩:=y;cases hk;exact I.ok.has n (aa n hy))
 refine wpAny_comprehension_free (use:=use) rfl hs am C.kind C.names (thn (hi a4 s σ H _ I hq) λxv s1 h1=>thn h1 λas f h2=>?_);obtain⟨it,fp,tn,J,G,rfl,I2,T,a5,f2,q2⟩:=h2;refine bAF (wpAny_newFunctionEnv C.cell (by intro y hy;simp at hy) (λh₁ E B=>?_) C.kind);dsimp only at E B ⊢;have hD:G f.heap.objs.size=none:=I2.hok.fresh (d8 _);have I3:Inv X a4 σ (upd G f.heap.objs.size (.lst [])) { f with heap:=f.heap.push { cls:=.type "list",dict:=none,data:=.seq ([]:List Value).toArray } }:=
  I2.laid (t':=f.toks) (λb u e=>c7 _ e) (d8 _) ⟨bAC _,[],0,.nil,j8 _ rfl⟩
 generalize Y:({ f with heap:=f.heap.push { cls:=.type "list",dict:=none,data:=.seq ([]:List Value).toArray } }:Shared)=s3 at I3;have R:f.heap.push { cls:=.type "list",dict:=none,data:=.seq ([]:List Value).toArray }=s3.heap:=by rw[<-Y]
 rw[R] at E B;have Z:∀b∈fp,b<f.heap.objs.size:=λb a=>by obtain⟨o,e,_⟩:=T.obj _ _ a5 b a;exact j9 e
 have ao:∀b∈fp,b<s3.heap.objs.size:=λb a=>by rw[<-R,bBL];exact bBU (Z b a)
 have f3:∀b∈fp,sE X a4 (upd G f.heap.objs.size (.lst [])) b:=λb a=>by obtain⟨f0,fr⟩:=f2 b a;exact⟨by rw[aK (v8 (Z b a))];exact f0,fr⟩
 have F:∀b o,s3.heap.get? b=some o->h₁.get? b=some o:=λb o e=>B.extBut b o (v8 (j9 e)) (c7 _ e);have I4:=aT1 (tk:=s3.toks) I3 C aa p1 p2 ae f3 ao E F;have a2:tn 0 h₁:=T.keep _ _ _ a5 λb a o e=>F b o (by rw[<-R];exact c7 _ e);obtain⟨W,⟨m0,w0⟩,a0⟩:=q2 f.heap.objs.size hD;have U:∀{S:Hp},(∀b∈fp,S b=none)->∀b∈fp,sE (cxC X N scope cl s3 (upd G f.heap.objs.size (.lst [])) fp) [] S b:=λ{S} hn b a=>by obtain⟨e1,e2⟩:=I4.ok.exf b a;exact⟨hn b a,e1,I4.ok.exfs b a,.inl a,e2,λp hp=>absurd (show p∈([]:bF6) from hp) (by simp)⟩
 have M:∀s4:Shared,s4={ s3 with heap:=h₁,toks:=s3.toks } ->
   codeAny (model X.prog X.w) X.A (.compLoop (.ListComp ar [⟨a9,aq,av,0⟩] scope pos) 0 (.ref it) (.ref f.heap.objs.size) (compEnvC scope cl s3.heap.objs.size X.env))
    (compPost (model X.prog X.w) X.A X.xe use QQ (.ref f.heap.objs.size) s3.heap.objs.size) s4:=by
  rintro s4 rfl;refine aR4 (λn s'=>∃i σ' S ys,Inv (cxC X N scope cl s3 (upd G f.heap.objs.size (.lst [])) fp) [] σ' S s'/\tn i s'.heap/\(∀b∈fp,S b=none)/\W i n σ' S ys) ?_ m0 ⟨0,σ0,_,[],I4,a2,λb a=>(f3 b a).1,w0⟩;rintro n s5 ⟨i,σ5,H5,ys,I5,st5,fr5,w5⟩;obtain⟨ap,w5⟩:=a0 i n σ5 H5 ys w5;have j:∀{α:Type} {t:Sem α} {Q':α->Shared->Prop} {E':bF5} {s':Shared},wpAny (model X.prog X.w) X.A t Q' (λ_ _=>False) s'->wpAny (model X.prog X.w) X.A t Q' E' s':=λh=>bAX h (λ_ _ q=>q) λ_ _ z=>z.elim;rcases w5 with⟨a1,qn⟩|⟨go,step⟩
  ·refine j (thn (T.done (cxC X N scope cl s3 (upd G f.heap.objs.size (.lst [])) fp) rfl rfl rfl hc i [] s5 σ5 H5 _ I5 (U fr5) st5 a1) λr s6 ⟨hr,O⟩=>?_);subst hr;obtain⟨m6,ai,_⟩:=O.loc;refine a7 _ _ H5 s6 ⟨m6,ai⟩ (λh' kp=>?_) (I3.aLe (d8 _) O.free) qn;have V:∀b o,s3.heap.get? b=some o->b≠s3.heap.objs.size:=λb o e=>v8 (j9 e);have un:Un (frs X.stack) fp (upd G f.heap.objs.size (.lst [])) H5 s3.heap h':=by
    have u:=O.base;exact⟨λb o e n a hx=>kp b o (V b o e) (u.keep b o e n a hx),λb o e n a hx=>by
     obtain⟨sl,e1⟩:=u.slot b o e n a hx;exact⟨sl,kp b _ (V b o e) e1⟩,u.free,λb o e hx=>by
     obtain⟨o',e1⟩:=u.there b o e hx;exact⟨o',kp b _ (V b o e) e1⟩,u.tups,u.frzs,u.tbls⟩
   have af:HOk X.prog X.w H5 h':=λb u e=>by
    refine (O.hok b u e).stay (λc v ad q=>kp c v ?_ q) (λ_ q=>q) λ_ _ q=>q;have l:H5 s3.heap.objs.size=none:=O.free;rintro rfl;rcases ad with z|z
    ·rw[z] at l;rw[l] at e;cases e
    ·rw[l] at z;cases z
   refine I3.call' (s':={ s6 with heap:=h' }) O.os un af O.bare λb a=>?_;obtain⟨f0,f1,aw,ak,f4,f5⟩:=f3 b a;exact⟨ak,f1,f4,f5⟩
  ·refine j (thn (T.item (cxC X N scope cl s3 (upd G f.heap.objs.size (.lst [])) fp) rfl rfl rfl hc i [] s5 σ5 H5 (λ_ _=>False) I5 (U fr5) st5 go) λr s6 ⟨u,hr,h6⟩=>?_);subst hr;refine j (thn h6 λ_ s7 ⟨x,H7,I7,r7,y7,Q,ac⟩=>?_);obtain⟨hg,ht,he⟩:=a cl s3 (upd G f.heap.objs.size (.lst [])) fp;have ab:=I7.pinned (U ac) (T.obj _ _ Q);have m:∀{L:St} {H8:Hp} {s8:Shared},Inv (cxC X N scope cl s3 (upd G f.heap.objs.size (.lst [])) fp) ([]++aCz fp s7.heap) L H8 s8->tn (i+1) s8.heap/\∀b∈fp,H8 b=none:=λ{L H8 s8} I8=>
    ⟨T.keep _ _ _ Q λb a o e=>(I8.pin (b,o) (bAM _ (bAM _ (mY a e)))).1,λb a=>by obtain⟨o,e,d⟩:=T.obj _ _ Q b a;exact (I8.pin (b,o) (bAM _ (bAM _ (mY a e)))).2.1⟩
   refine j (thn (hg _ s7 σ5 H7 x u _ ab r7 (step x H7 y7)) λ_ s8 ⟨L,H8,I8,q8⟩=>?_);refine j (thn (ht _ s8 L H8 _ I8 q8) λb s9 ⟨H9,I9,q9⟩=>?_);cases b with
   |false=>rw[if_neg v5] at q9 ⊢;obtain⟨_,m',hm,w9⟩:=q9;exact⟨m',hm,i+1,L,H9,ys,I9.qG,(m I9).1,(m I9).2,w9⟩
   |true=>rw[if_pos rfl] at q9 ⊢;refine j (thn (he _ s9 L H9 _ I9 q9) λyv al ⟨y,a8,ag,an,K,a6,m',hm,ah⟩=>?_);refine j (thn (aFp _ al L a8 (.ref f.heap.objs.size) [y] (.ref f.heap.objs.size) [yv] (λ_ a3=>a3=upd a8 f.heap.objs.size (.lst (ys++[y]))) ag rfl (.cons an .nil) ⟨_,_,_,rfl,rfl,K,a6,rfl⟩) λ_ au ⟨z,a3,P,_,aj⟩=>?_);subst aj;exact⟨m',hm,i+1,L,_,ys++[y],P.qG,(m P).1,(m P).2,ah⟩
 have a7:=codeAny_compStart_list (M { s3 with heap:=h₁,toks:=s3.toks } rfl) (T.self _ _ _ _ _ a2 (M { s3 with heap:=h₁,toks:=s3.toks } rfl));subst Y;exact a7
def aXp
  (C:yR scope N) (k:∀y,(y,NameKind.free)∈scope.names->X.env.kindOf y=some .cell\/X.env.kindOf y=some .free) (t:X.calm=true)
  (hi:PI X target iter wi)
  (d:∀cl s H fp,PG (cxC X N scope cl s H fp) target g/\aQ7 (cxC X N scope cl s H fp) ifs tt/\PE (cxC X N scope cl s H fp) elt te)
  (p:∀x,foldedSetIterable iter X.env x=pure x:=by intro _;rfl) :
  PE X (.ListComp elt [⟨target,iter,ifs,0⟩] scope pos) (jD X scope N wi g tt te):=by
 intro i s σ H Q I h;rw[eval_ListComp];exact aFi C k t hi d p I h λD r n q ⟨l,c⟩ a _ j=>⟨l,c,λm f=>⟨.ref D,n,a m λb o d e=>f.extBut b o d e,rfl,j⟩⟩
end L2
namespace PySem
open Sem (wp)
namespace IfF
def aTh:typeLookup (.type "function") "__class__"=pure (some (.builtin "object.__class__")):=by rw[typeLookup_type,builtinLookup_eq_fast];kernel_rfl
def aAw:Slot "function" "__getattribute__" "object.__getattribute__":=
 .of (owner:="object") (n:="__getattribute__") (by rw[typeLookup_type,builtinLookup_eq_fast];kernel_rfl) (by decide +kernel) (by decide +kernel) (by decide +kernel)
  (by first|exact .inl (by decide +kernel)|exact .inr (by decide +kernel)) (by rw[isSubtype_type];kernel_rfl)
def aSn:entryFor table "object.__getattribute__"=some Builtin.«object.__getattribute__»:=entryFor_of_tree (by kernel_rfl)
def aAt:isSubtype (.type "function") (.type (".".intercalate ("object.__class__".cutAt '.').dropLast))=pure true:=by rw[F.owner_object_class,isSubtype_type];kernel_rfl
def sub_int:isSubtype (.type "function") (.type "int")=pure false:=by rw[isSubtype_type];kernel_rfl
def sub_bool:isSubtype (.type "function") (.type "bool")=pure false:=by rw[isSubtype_type];kernel_rfl
def aYm:isSubtype (.type "function") (.type "str")=pure false:=by rw[isSubtype_type];kernel_rfl
end IfF
section
variable {prog:Program}{w:World}{A:Around}{E:bF5}{h:Heap}{g:Array GenState}{d:Drawn}{t:Nat}{os:OsState}{a:Addr}{o:Obj}
def aHp (f:h.get? a=some o)(e:o.cls=.type "function")(hq:R (.ok (.ret (.type "function"))) ⟨h,g,d,t,os⟩) :
  codeAny (model prog w) A (.call (.builtin "getset_descriptor.__get__") ⟨[.builtin "object.__class__",.ref a,.type "function"],[]⟩) R ⟨h,g,d,t,os⟩:=by
 have c:(⟨h,g,d,t,os⟩:Shared).TypeIs (.ref a) "function":=⟨_,f,e⟩;have b:=F.typeOf_object_class;have i:=IfF.aAt;refine bCZ F.slot_gs_get.plain F.entry_gs_get (F.slot_gs_get.check _ _ _ _ _ _ _ _ b (F.args_gs_get _ _ _) ?_)
 repeat (any_goals (first|assumption|wp_step))
 refine⟨Code.quiet_builtin _ (by decide +kernel),bBR F.entry_object_class ?_⟩
 repeat (any_goals (first|assumption|wp_step))
def aCd (c:h.get? a=some o)(b:o.cls=.type "function")(hq:Q (.done (.ret (.type "function"))) ⟨h,g,d,t,os⟩) :
  wpAny (model prog w) A (Builtin.«object.__getattribute__» ⟨[.ref a,.str "__class__" tk],[]⟩) Q E ⟨h,g,d,t,os⟩:=by
 have k:(⟨h,g,d,t,os⟩:Shared).TypeIs (.ref a) "function":=⟨_,c,b⟩;have e:=F.typeOf_object_class;have f:=IfF.aTh;have l:=F.typeOf_object_class;have j:=F.slot_gs_get.lookup;have i:=F.slot_gs_set.lookup
 repeat (any_goals (first|assumption|wp_step))
 refine aHp c b ?_
 repeat (any_goals (first|assumption|wp_step))
def aK7 (b:h.get? a=some o)(e:o.cls=.type "function")(hq:Q (.type "function") ⟨h,g,d,t,os⟩):wpAny (model prog w) A (getAttrBy (.ref a) (.str "__class__" tk) false) Q E ⟨h,g,d,t,os⟩:=by
 have c:(⟨h,g,d,t,os⟩:Shared).TypeIs (.ref a) "function":=⟨_,b,e⟩;have i:=IfF.aAw.lookup;have f:=IfF.aAw.bind (.ref a)
 repeat (any_goals (first|assumption|wp_step))
 refine bCZ IfF.aAw.plain IfF.aSn (IfF.aAw.check _ _ _ _ _ _ _ _ c (F.args_object_getattribute_2 _ _) (aCd b e ?_))
 repeat (any_goals (first|assumption|wp_step))
def aEc (c:h.get? a=some o)(b:o.cls=.type "function")(hq:Q (some (.type "function")) ⟨h,g,d,t+1,os⟩):wpAny (model prog w) A (getAttr? (.ref a) "__class__") Q E ⟨h,g,d,t,os⟩:=by
 unfold getAttr? getAttrBy?
 repeat (any_goals (first|assumption|with_reducible apply aK7 c b|wp_step))
def aDl (c:h.get? a=some o)(b:o.cls=.type "function")(hne:(Value.type "function" == Value.type T)=false)(hty:typeOf (.type T)=pure (.type "type"))
  (hsub:isSubtype (.type "function") (.type T)=pure false) (hq:Q (.done (.ret (.bool false))) ⟨h,g,d,t+1,os⟩) :
  wpAny (model prog w) A (Builtin.«isinstance.nested» ⟨[.ref a,.type T,.int dep tk],[]⟩) Q E ⟨h,g,d,t,os⟩:=by
 have e:(⟨h,g,d,t,os⟩:Shared).TypeIs (.ref a) "function":=⟨_,c,b⟩
 repeat (any_goals (first|assumption|with_reducible apply aEc c b|wp_step))
end
def nF (i:(Value.type "function" == Value.type T)=false)(j:typeOf (.type T)=pure (.type "type"))(b:isSubtype (.type "function") (.type T)=pure false) :
  Meets (Builtin.«isinstance» ⟨[.ref a,.type T],[]⟩) (λ_ R s=>(∃o,s.heap.get? a=some o/\o.cls=.type "function")/\R (.ok (.ret (.bool false))) { s with toks:=s.toks+1 }):=
 λ_ _ _ _ s c=>by obtain⟨h,g,d,t,l⟩:=s;obtain⟨⟨o,f,e⟩,k⟩:=c;exact isinstance_outer (aDl f e i j b k)
section
variable {prog:Program}{w:World}{A:Around}{E:bF5}{s:Shared}{Q:bF5}{a:Addr}{o:Obj}
def aL0 (c:s.heap.get? a=some o)(b:o.cls=.type "function")(h:Q (.bool false) { s with toks:=s.toks+1 }):wpAny (model prog w) A (call (.builtin "isinstance") [.ref a,.type "int"]) Q E s:=
 call_isinstance (nF (by decide) F.isi_meta_int IfF.sub_int) ⟨⟨o,c,b⟩,h⟩
def aKo (c:s.heap.get? a=some o)(b:o.cls=.type "function")(h:Q (.bool false) { s with toks:=s.toks+1 }):wpAny (model prog w) A (call (.builtin "isinstance") [.ref a,.type "bool"]) Q E s:=
 call_isinstance (nF (by decide) F.isi_meta_bool IfF.sub_bool) ⟨⟨o,c,b⟩,h⟩
def aNt (c:s.heap.get? a=some o)(b:o.cls=.type "function")(h:Q (.bool false) { s with toks:=s.toks+1 }):wpAny (model prog w) A (call (.builtin "isinstance") [.ref a,.type "str"]) Q E s:=
 call_isinstance (nF (by decide) F.isi_meta_str IfF.aYm) ⟨⟨o,c,b⟩,h⟩
end
end PySem
namespace L2
open PySem PySem.Spec PyProof.Rows
section
variable {X:Cx}
def PE.imp (h:PE X e t)(k:∀σ H Q,t' σ H Q->t σ H Q):PE X e t':=λa s σ H Q I q=>h a s σ H Q I (k σ H Q q)
def bFc (K:bF4):List V->Hp->VK->Prop:=λxs H Q=>∃(p:Addr) (bs:List Bool),xs=[.ref p]/\SqL K H p (bs.map V.bl)/\Q (.bl (bs.all id)) H
def all_range (bs:List Bool):(List.range bs.length).all (λi=>bs.getD i false)=bs.all id:=by
 rw[bCG,bBZ,bBZ];constructor
 ·intro h b c;obtain⟨i,a,e⟩:=List.mem_iff_getElem.mp c;have:=h i (List.mem_range.mpr a);rw[j4,b8 a] at this;rw[<-e];exact this
 ·intro h i a;have a:=List.mem_range.mp a;rw[j4,b8 a];exact h _ (bAT a)
def kI (P:X.calm=true):cH X (.builtin "all") (bFc X.K):=by
 intro x s σ H L J Q I r h;obtain⟨p,c,rfl,w,q⟩:=h;obtain⟨u,rfl,E⟩:=r.one;cases E;obtain⟨d,n,g,M⟩:=I.list w;have j:=n.length;rw[j6] at j;have k:p≠s.heap.objs.size:=by obtain⟨o,G,_⟩:=g.isList;exact v8 (j9 G)
 refine call_all_walk (bCO g.isList ?_);refine⟨s.heap.objs.size,_,_,_,_,_,λi=>c.getD i false,rfl,Walks.list (show X.A.in1.handled=none from I.ok.hd P) _ p k d.toArray,⟨⟨_,j8 _ rfl,rfl,rfl⟩,?_⟩,?_,λR N y=>?_⟩
 ·exact g.isList.at λo e=>c7 _ e
 ·intro i v C B O F a;have f:d[i]?=some v:=by simpa using F
  have m:i<c.length:=by rw[j];exact (List.getElem?_eq_some_iff.mp f).1
  obtain⟨u,t,D⟩:=n.get (by rw[v7,b8 m];rfl);rw[f] at t;cases t;cases D;have e:c.getD i false=c[i]:=by rw[j4,b8 m];rfl
  replace a:B (c.getD i false) C:=a;rw[e] at a;exact bBC a
 ·have e:(List.range d.toArray.size).all (λi=>c.getD i false)=c.all id:=by rw[d9,<-j];exact all_range c
  rw[e];refine⟨.bl (c.all id),H,?_,rfl,q⟩;exact I.kept λb o l=>y b o (by
   intro z;have:b=s.heap.objs.size:=by simpa using z
   rw[this] at l;exact absurd (j9 l) (bBM _)) (c7 _ l)
inductive Rk (K:bF4)(H:Hp):V->String->Prop
 |non:Rk K H .non "NoneType"
 |lst {a xs}:SqL K H a xs->Rk K H (.ref a) "list"
 |tup {a xs}:SqT K H a xs->Rk K H (.ref a) "tuple"
 |dct {a kvs}:H a=some (.dK kvs)->Rk K H (.ref a) "dict"
 |fn {a o}:K.lookup a=some o->o.cls=.type "function"->Rk K H (.ref a) "function"
def aZm (K:bF4):List V->Hp->VK->Prop:=λxs H Q=>∃x k T,xs=[x,.ty T]/\Rk K H x k/\(T = "int"\/T = "bool"\/T = "str")/\Q (.bl false) H
theorem rN:cH X (.builtin "isinstance") (aZm X.K):=by
 intro i s σ H w t Q I r h;obtain⟨x,k,T,rfl,j,b,q⟩:=h;obtain⟨u,v,rfl,d,p⟩:=r.two;cases p;have a:EP X i σ Q (.bool false) { s with toks:=s.toks+1 }:=⟨.bl _,H,I.tok _,rfl,q⟩;cases j with
 |non=>
  cases d;rcases b with rfl|rfl|rfl
  ·exact IsiPair.NoneType_int a
  ·exact IsiPair.NoneType_bool a
  ·exact IsiPair.NoneType_str a
 |lst hq=>
  cases d;obtain⟨f,m,⟨o,n,e,c,_⟩,l⟩:=I.list hq;rcases b with rfl|rfl|rfl
  ·exact IsiPair.list_int e c a
  ·exact IsiPair.list_bool e c a
  ·exact IsiPair.list_str e c a
 |tup hq=>
  cases d;obtain⟨f,m,⟨o,e,c,_⟩,l⟩:=I.tuple hq;rcases b with rfl|rfl|rfl
  ·exact IsiPair.tuple_int e c a
  ·exact IsiPair.tuple_bool e c a
  ·exact IsiPair.tuple_str e c a
 |dct hq=>
  cases d;obtain⟨_,_,_,_,o,_,_,e,g,_⟩:=I.hok _ _ hq;rcases b with rfl|rfl|rfl
  ·exact IsiPair.dict_int e g.1 a
  ·exact IsiPair.dict_bool e g.1 a
  ·exact IsiPair.dict_str e g.1 a
 |fn hk hc=>
  cases d;have e:=I.kIn _ _ hk;rcases b with rfl|rfl|rfl
  ·exact aL0 e hc a
  ·exact aKo e hc a
  ·exact aNt e hc a
end
def kE {X:Cx}{scope:Scope}(h:∀z∈scope.names,z.2≠.free):∀y,(y,NameKind.free)∈scope.names->X.env.kindOf y=some .cell\/X.env.kindOf y=some .free:=λy a=>absurd rfl (h _ a)
def eE {X:Cx}{scope:Scope}(sc:Scope)(e:X.env.scope=sc)(h:∀z∈scope.names,z.2=.free->sc.names.lookup z.1=some .cell\/sc.names.lookup z.1=some .free) :
  ∀y,(y,NameKind.free)∈scope.names->X.env.kindOf y=some .cell\/X.env.kindOf y=some .free:=λy a=>by
 show X.env.scope.names.lookup y=some .cell\/X.env.scope.names.lookup y=some .free;rw[e];exact h _ a rfl
def Same.aR {K:bF4}{H H':Hp}{a:Addr}{xs:List V}(e:Same H H')(h:SqT K H a xs):SqT K H' a xs:=by
 rcases h with (h|⟨o,h⟩)|h
 ·exact .inl (.inl (e _ _ h))
 ·exact .inl (.inr ⟨o,e _ _ h⟩)
 ·exact .inr h
def aW (h:H p=none)(o:HO):Same H (upd H p o):=λb u q=>by rw[aK (aQ q h)];exact q
theorem Rk.same {K:bF4}{H H':Hp}{v:V}{k:String}(e:Same H H')(h:Rk K H v k):Rk K H' v k:=by
 cases h with
 |non=>exact .non
 |lst q=>exact .lst (e.seq q)
 |tup q=>exact .tup (e.aR q)
 |dct q=>exact .dct (e _ _ q)
 |fn q c=>exact .fn q c
theorem yJ:Cap X scope [x] σ [none]:=⟨rfl,λi y v _ a=>by
 cases i with
 |zero=>cases a
 |succ i=>cases a⟩
section
def aSa (xs:List V)(f:V->V)(n:St)(s:Cap X scope N σ n)(hsz:xs.length<=sizeLine)
  (v:∀R:It->Hp->Prop,(∀J:It,(∀H' i x,Same H H'->xs[i]?=some x->J.go i H'/\∀y H2,J.yld i H' y H2->H2=H'/\y=x)->(∀H',Same H H'->J.stop xs.length H')->R J H)->wi σ H R)
  (u:∀x∈xs,∀H' R l,Same H H'->R (f x) H'->te ((n.set 0 l).set 0 (some x)) H' R) (w:n[0]?=some none)
  (q:∀D,H D=none->Q (.ref D) (upd H D (.lst (xs.map f)))) :
  jD X scope N wi (bO 0) mJ te σ H Q:=by
 refine⟨n,s,v _ λJ go stop D h=>?_⟩;have d:∀c:List V,Same H (upd H D (.lst c)):=λc b o e=>by rw[aK (aQ e h)];exact e
 refine⟨λi m g H' c=>i<=xs.length/\m=xs.length - i/\(∃l,g=n.set 0 l)/\H'=upd H D (.lst c)/\c=(xs.take i).map f,⟨xs.length,bAC _,rfl,⟨none,?_⟩,rfl,rfl⟩,?_⟩
 ·refine (bCC λj=>?_);rw[List.getElem?_set]
  split
  ·rename_i t;subst t
   split
   ·exact w
   ·rename_i a;exact List.getElem?_eq_none_iff.mpr (by lia)
  ·rfl
 ·rintro i m g H' c ⟨hi,rfl,⟨l,rfl⟩,rfl,rfl⟩;refine⟨aF,?_⟩;by_cases a:i<xs.length
  ·right;obtain⟨r,p⟩:=go (upd H D (.lst ((xs.take i).map f))) i xs[i] (d _) (b8 a);refine⟨r,λx H2 k=>?_⟩;obtain⟨rfl,rfl⟩:=p x H2 k;unfold bO mJ;dsimp only;rw[if_pos rfl];refine u xs[i] (bAT a) _ _ l (d _) ⟨aF,?_,xs.length - (i+1),by lia,a,rfl,⟨some xs[i],?_⟩,?_,?_⟩
   ·rw[j6,bAI];lia
   ·rw[bCD]
   ·rw[aPf]
   ·rw[bBP,b8 a,bBF];rfl
  ·left;have e:i=xs.length:=by lia
   subst e;refine⟨stop _ (d _),?_⟩;rw[bCW];exact q D h
def bCo (h:∀R:VK,R (.str z) H->tl σ H R)(R:It->Hp->Prop)
  (q:∀J:It,(∀H' i x,Same H H'->((List.range z.cps.size).map λi=>V.str (sgn z i))[i]?=some x->J.go i H'/\∀y H2,J.yld i H' y H2->H2=H'/\y=x) ->
   (∀H',Same H H'->J.stop ((List.range z.cps.size).map λi=>V.str (sgn z i)).length H')->R J H):bB9 tl σ H R:=by
 refine h _ ⟨z,rfl,q _ (λH' i x _ e=>?_) λH' _=>?_⟩
 ·rw[v7] at e;have b:i<z.cps.size:=by
   cases a:(List.range z.cps.size)[i]? with
   |none=>rw[a] at e;cases e
   |some j=>have:=(List.getElem?_eq_some_iff.mp a).1;rwa [bAH] at this
  rw[bCP b] at e;cases e;exact⟨b,λy H2 c=>c⟩
 ·rw[j6,bAH];exact d8 _
def aP7 {K:bF4}{a:Addr}{xs:List V}{tl:TE}{σ:St}{H:Hp}(b:∀H',Same H H'->SqL K H' a xs)(h:∀R:VK,R (.ref a) H->tl σ H R)(R:It->Hp->Prop)
  (q:∀J:It,(∀H' i x,Same H H'->xs[i]?=some x->J.go i H'/\∀y H2,J.yld i H' y H2->H2=H'/\y=x)->(∀H',Same H H'->J.stop xs.length H')->R J H):aFh K tl σ H R:=by
 refine h _ ⟨a,rfl,⟨xs,b H (Same.refl H)⟩,q _ (λH' i x s e=>⟨⟨xs,x,b H' s,e⟩,λy H2 d=>?_⟩) λH' s=>⟨xs,b H' s,d8 _⟩⟩;obtain⟨g,f⟩:=d;have c:=f xs (b H' s);rw[e] at c;cases c;exact⟨g,rfl⟩
end
end L2
namespace PySem
abbrev aYk (t:Addr)(i:Nat):Obj:={ cls:=.type "tuple_iterator",data:=.fields #[.ref t,.int (i:Int) 0] }
abbrev aY1 (t:Addr)(i:Nat):Obj:={ cls:=.type "list_iterator",data:=.fields #[.ref t,.int (i:Int) 0] }
abbrev uW (f0:Value)(TI TO:Addr):Obj:={ cls:=.type "zip",dict:=none,data:=.fields #[f0,.bool false,.bool false,.ref TI,.ref TO],slots:=#[] }
abbrev lC (a b:Value):Obj:={ cls:=.type "tuple",data:=.seq #[a,b] }
section
variable {prog:Program}{w:World}{A:Around}{E:bF5}{s:Shared}
def aNh (ho:s.heap.get? it=some (aYk t i))(d:s.heap.IsTuple t its)(f:its[i]?=some x)
  (q:∀h',h'.get? it=some (aYk t (i+1))->Heap.SameBut it s.heap h'->Q x { s with heap:=h' }):wpAny (model prog w) A (Builtin.SmallTypes.nextOf (.ref it)) Q E s:=by
 have c:s.TypeIs (.ref it) "tuple_iterator":=⟨_,ho,rfl⟩;obtain⟨g,a,_,e,b⟩:=d;unfold Builtin.SmallTypes.nextOf;refine b7 (bAG c F.slot_tuple_iterator_next (bAD F.slot_tuple_iterator_next c F.entry_tuple_iterator_next ?_ (F.args_tuple_iterator_next_1 _)));refine b7 (m:=field (.ref it) 0) (bAJ ho rfl (x:=.ref t) rfl ?_);refine (if_neg (show ¬ ((Value.ref t == Value.none)=true) from v5)).symm ▸ ?_;refine b7 (bAJ ho rfl rfl ?_);refine b7 (bBE a b ?_);simp only[bAQ,f];refine b7 (bBW ho rfl (by simp) (d7 ⟨x,rfl,d7 (q _ ?_ (bAV ..))⟩));exact bAO _ ho rfl
def aBb (d:A.handled=none)(ho:s.heap.get? it=some (aYk t i))(f:s.heap.IsTuple t its)(h:its[i]?=none)
  (q:∀h' e,Heap.ExtBut it s.heap h'->(∃o,h'.get? e=some o/\o.cls=.type "StopIteration")->E (.ref e) { s with heap:=h' }):wpAny (model prog w) A (Builtin.SmallTypes.nextOf (.ref it)) Q E s:=by
 have c:s.TypeIs (.ref it) "tuple_iterator":=⟨_,ho,rfl⟩;obtain⟨j,a,_,g,b⟩:=f;unfold Builtin.SmallTypes.nextOf;refine b7 (bAG c F.slot_tuple_iterator_next (bAD F.slot_tuple_iterator_next c F.entry_tuple_iterator_next ?_ (F.args_tuple_iterator_next_1 _)));refine b7 (m:=field (.ref it) 0) (bAJ ho rfl (x:=.ref t) rfl ?_);refine (if_neg (show ¬ ((Value.ref t == Value.none)=true) from v5)).symm ▸ ?_;refine b7 (bAJ ho rfl rfl ?_);refine b7 (bBE a b ?_);simp only[bAQ,h];refine b7 (bDU (b7 (bBW ho rfl (by simp) ?_)));unfold Builtin.SmallTypes.stopIteration;refine b7 ?_;simp only[newExc,newTuple];refine b7 (bAF ?_ (by size_fits));refine b7 (bEQ (by first|rfl|(simp only[firstArgMember];rfl)) ?_);refine bAF ?_ (by size_fits);simp only[raiseNew];refine b7 (bFJ ?_);first|rw[show A.in1.handled=none from d]|rw[d]
 refine b7 (d7 (bFY ?_));exact q _ _ (((bAV ..).extBut.push _).push _) ⟨_,j8 _ rfl,rfl⟩
def aN6 (ho:s.heap.get? it=some (aY1 t i))(d:s.heap.IsList t its)(f:its[i]?=some x)
  (q:∀h',h'.get? it=some (aY1 t (i+1))->Heap.SameBut it s.heap h'->Q x { s with heap:=h' }):wpAny (model prog w) A (Builtin.SmallTypes.nextOf (.ref it)) Q E s:=by
 have c:s.TypeIs (.ref it) "list_iterator":=⟨_,ho,rfl⟩;obtain⟨g,a,_,e,b⟩:=d;unfold Builtin.SmallTypes.nextOf;refine b7 (bAG c slot_listiter_next (bAD slot_listiter_next c entry_listiter_next ?_ (args_listiter_next _)));refine b7 (m:=field (.ref it) 0) (bAJ ho rfl (x:=.ref t) rfl ?_);refine (if_neg (show ¬ ((Value.ref t == Value.none)=true) from v5)).symm ▸ ?_;refine b7 (bAJ ho rfl rfl ?_);refine b7 (bBE a b ?_);simp only[bAQ,f];refine b7 (bBW ho rfl (by simp) (d7 ⟨x,rfl,d7 (q _ ?_ (bAV ..))⟩));exact bAO _ ho rfl
def aC2 (d:A.handled=none)(ho:s.heap.get? it=some (aY1 t i))(f:s.heap.IsList t its)(h:its[i]?=none)
  (q:∀h' e,Heap.ExtBut it s.heap h'->(∃o,h'.get? e=some o/\o.cls=.type "StopIteration")->E (.ref e) { s with heap:=h' }):wpAny (model prog w) A (Builtin.SmallTypes.nextOf (.ref it)) Q E s:=by
 have c:s.TypeIs (.ref it) "list_iterator":=⟨_,ho,rfl⟩;obtain⟨j,a,_,g,b⟩:=f;unfold Builtin.SmallTypes.nextOf;refine b7 (bAG c slot_listiter_next (bAD slot_listiter_next c entry_listiter_next ?_ (args_listiter_next _)));refine b7 (m:=field (.ref it) 0) (bAJ ho rfl (x:=.ref t) rfl ?_);refine (if_neg (show ¬ ((Value.ref t == Value.none)=true) from v5)).symm ▸ ?_;refine b7 (bAJ ho rfl rfl ?_);refine b7 (bBE a b ?_);simp only[bAQ,h];refine b7 (bDU (b7 (bBW ho rfl (by simp) ?_)));unfold Builtin.SmallTypes.stopIteration;refine b7 ?_;simp only[newExc,newTuple];refine b7 (bAF ?_ (by size_fits));refine b7 (bEQ (by first|rfl|(simp only[firstArgMember];rfl)) ?_);refine bAF ?_ (by size_fits);simp only[raiseNew];refine b7 (bFJ ?_);first|rw[show A.in1.handled=none from d]|rw[d]
 refine b7 (d7 (bFY ?_));exact q _ _ (((bAV ..).extBut.push _).push _) ⟨_,j8 _ rfl,rfl⟩
def itO:Bool->Addr->Nat->Obj
 |true=>aY1
 |false=>aYk
def Heap.uA (h:Heap):Bool->Addr->Array Value->Prop
 |true=>h.IsList
 |false=>h.IsTuple
theorem Heap.uA.extBut (p:h.uA b t its)(e:Heap.ExtBut x h h')(n:t≠x):h'.uA b t its:=by
 cases b
 ·exact Heap.IsTuple.extBut p e n
 ·exact Heap.IsList.extBut p e n
def yK (ho:s.heap.get? it=some (itO L t i))(a:s.heap.uA L t its)(b:its[i]?=some x)
  (q:∀h',h'.get? it=some (itO L t (i+1))->Heap.SameBut it s.heap h'->Q x { s with heap:=h' }):wpAny (model prog w) A (Builtin.SmallTypes.nextOf (.ref it)) Q E s:=by
 cases L
 ·exact aNh ho a b q
 ·exact aN6 ho a b q
def tL (b:A.handled=none)(ho:s.heap.get? it=some (itO L t i))(a:s.heap.uA L t its)(c:its[i]?=none)
  (q:∀h' e,Heap.ExtBut it s.heap h'->(∃o,h'.get? e=some o/\o.cls=.type "StopIteration")->E (.ref e) { s with heap:=h' }):wpAny (model prog w) A (Builtin.SmallTypes.nextOf (.ref it)) Q E s:=by
 cases L
 ·exact aBb b ho a c q
 ·exact aC2 b ho a c q
structure yF (z TI TO a b:Addr):Prop where
 h1:TI≠z
 h2:TO≠z
 h3:a≠z
 h4:b≠z
 h5:TI≠TO
 h6:TI≠a
 h7:TI≠b
 h8:TO≠a
 h9:TO≠b
 h10:a≠b
def aH4 (c:s.heap.get? T=some (lC a b))
  (q:∀h',h'.get? T=some { cls:=.type "tuple",data:=.seq ((#[a,b]:Array Value).setIfInBounds k x) }->Heap.SameBut T s.heap h'->Q () { s with heap:=h' }) :
  wpAny (model prog w) A (updateSeq T (·.setIfInBounds k x)) Q E s:=by
 refine wpAny_updateSeq c rfl (q _ ?_ (bAV ..));rw[bAO _ c rfl];simp[Obj.mapSeq]
def aR6 {L:Bool}{z TI TO i1 i2 t u:Addr}{k:Nat}{xs ys:Array Value}{x y a b:Value}{Q:Option Value->Shared->Prop}(D:yF z TI TO i1 i2)
  (n:s.heap.get? z=some (uW .none TI TO)) (a1:s.heap.get? TI=some (lC (.ref i1) (.ref i2))) (a0:s.heap.get? TO=some (lC a b))
  (g1:s.heap.get? i1=some (itO L t k)) (g2:s.heap.get? i2=some (itO L u k)) (ht:s.heap.uA L t xs) (hu:s.heap.uA L u ys) (hx:xs[k]?=some x) (hy:ys[k]?=some y)
  (t1:t≠z) (t2:t≠TO) (t3:t≠i1) (t4:t≠i2) (u1:u≠z) (u2:u≠TO) (u3:u≠i1) (u4:u≠i2)
  (q:∀h',h'.get? z=some (uW (rawInt s.heap.objs.size) TI TO)->h'.get? TO=some (lC x y)->h'.get? i1=some (itO L t (k+1))->h'.get? i2=some (itO L u (k+1))->h'.get? s.heap.objs.size=some (lC x y) ->
   (∀c o,c≠z->c≠TO->c≠i1->c≠i2->s.heap.get? c=some o->h'.get? c=some o)->Q (some (.ref s.heap.objs.size)) { s with heap:=h' }) :
  wpAny (model prog w) A (pyNext (.ref z)) Q E s:=by
 have hT:s.TypeIs (.ref z) "zip":=⟨_,n,rfl⟩;unfold pyNext;refine b7 (bCS (bAG (name:=Str.ofString "__next__") hT F.slot_zip_next (bAD F.slot_zip_next hT F.entry_zip_next ?_ (F.args_zip_next_1 _))));refine b7 (m:=field (.ref z) 2) (bAJ n rfl (x:=.bool false) rfl ?_);refine b7 (m:=field (.ref z) 3) (bAJ n rfl (x:=.ref TI) rfl (b7 (bBE a1 rfl ?_)));refine b7 (m:=Builtin.SmallTypes.ownedTupleIsFree (.ref z)) ?_;unfold Builtin.SmallTypes.ownedTupleIsFree;refine b7 (bAJ n rfl (x:=.none) rfl (d7 ?_));simp only[if_true];refine b7 (bDU (b7 (bAJ n rfl (x:=.ref TO) rfl (b7 (bAP n (by simp) λU N i=>?_)))));replace N:U.get? z=some (uW .ellipsis TI TO):=N;refine b7 ?_;simp only[List.zipIdx_cons,List.zipIdx_nil,bDO,bFS];refine b7 (b7 (bED ?_));refine b7 (m:=Builtin.SmallTypes.nextOf (.ref i1)) (yK (s:={ s with heap:=U }) (i.extBut _ _ D.h3 g1) (ht.extBut i.extBut t1) hx λV K j=>d7 ?_);have p:V.get? TO=some (lC a b):=j.extBut _ _ D.h8 (i.extBut _ _ D.h2 a0);refine b7 (bBE p rfl (b7 (aH4 (s:={ s with heap:=V }) p λh3 g l=>b7 (bFZ (d7 ?_)))));replace g:h3.get? TO=some (lC x b):=g;refine b7 (b7 (bED ?_));refine b7 (m:=Builtin.SmallTypes.nextOf (.ref i2)) (yK (s:={ s with heap:=h3 }) (l.extBut _ _ D.h9.symm (j.extBut _ _ D.h10.symm (i.extBut _ _ D.h4 g2))) (((hu.extBut i.extBut u1).extBut j.extBut u3).extBut l.extBut u2) hy λY T C=>d7 ?_);have B:Y.get? TO=some (lC x b):=C.extBut _ _ D.h9 g;refine b7 (bBE B rfl (b7 (aH4 (s:={ s with heap:=Y }) B λd f v=>b7 (bFZ (d7 (d7 ?_))))));replace f:d.get? TO=some (lC x y):=f;refine b7 (bBE f rfl (b7 (bFT ?_)));have r:d.objs.size=s.heap.objs.size:=by rw[v.1,C.1,l.1,j.1,i.1]
 have W:d.get? z=some (uW .ellipsis TI TO):=v.extBut _ _ D.h2.symm (C.extBut _ _ D.h4.symm (l.extBut _ _ D.h2.symm (j.extBut _ _ D.h3.symm N)));have kp:∀c o,c≠z->c≠TO->c≠i1->c≠i2->s.heap.get? c=some o->d.get? c=some o:=λc o h I O M e=>v.extBut _ _ I (C.extBut _ _ M (l.extBut _ _ I (j.extBut _ _ O (i.extBut _ _ h e))));have P:d.get? i1=some (itO L t (k+1)):=v.extBut _ _ D.h8.symm (C.extBut _ _ D.h10 (l.extBut _ _ D.h8.symm K));have R:d.get? i2=some (itO L u (k+1)):=v.extBut _ _ D.h9.symm T;refine b7 (m:=Builtin.SmallTypes.ownedTupleHandOut (.ref z) (.ref d.objs.size)) ?_;unfold Builtin.SmallTypes.ownedTupleHandOut;have z6:(d.push (lC x y)).get? z=some (uW .ellipsis TI TO):=c7 _ W;refine b7 (bAP z6 (by simp) λh7 S s7=>?_);replace S:h7.get? z=some (uW (rawInt d.objs.size) TI TO):=S;refine bAP S (by simp) λH J X=>?_;replace J:H.get? z=some (uW (rawInt d.objs.size) TI TO):=J;have G:∀c o,c≠z->d.get? c=some o->H.get? c=some o:=λc o h e=>X.extBut _ _ h (s7.extBut _ _ h (c7 _ e));have Z:d.objs.size≠z:=bCM (j9 W);have T8:H.get? d.objs.size=some (lC x y):=X.extBut _ _ Z (s7.extBut _ _ Z (j8 _ rfl));rw[r] at J T8;refine d7 ⟨_,rfl,d7 ?_⟩;show Q (some (.ref d.objs.size)) _;rw[r];exact q H J (G _ _ D.h2 f) (G _ _ D.h3 P) (G _ _ D.h4 R) T8 λc o h I O M e=>G c o h (kp c o h I O M e)
theorem aUz (U:A.handled=none)(D:yF z TI TO i1 i2)
  (i:s.heap.get? z=some (uW .none TI TO)) (S:s.heap.get? TI=some (lC (.ref i1) (.ref i2))) (R:s.heap.get? TO=some (lC a b))
  (Z:s.heap.get? i1=some (itO L t k)) (X:s.heap.get? i2=some (itO L u k)) (ht:s.heap.uA L t xs) (hu:s.heap.uA L u ys) (T:xs[k]?=some x) (hy:ys[k]?=none) (V:t≠z) (u1:u≠z) (W:u≠TO) (u3:u≠i1)
  (q:∀h',(∀c o,c≠z->c≠TO->c≠i1->c≠i2->s.heap.get? c=some o->h'.get? c=some o)->Q none { s with heap:=h' }) :
  wpAny (model prog w) A (pyNext (.ref z)) Q E s:=by
 have C:s.TypeIs (.ref z) "zip":=⟨_,i,rfl⟩;unfold pyNext;refine b7 (bCS (bAG C F.slot_zip_next (bAD F.slot_zip_next C F.entry_zip_next ?_ (F.args_zip_next_1 _))));refine b7 (m:=field (.ref z) 2) (bAJ i rfl (x:=.bool false) rfl ?_);refine b7 (bAJ i rfl rfl (b7 (bBE S rfl ?_)));refine b7 ?_;unfold Builtin.SmallTypes.ownedTupleIsFree;refine b7 (bAJ i rfl rfl (d7 ?_));simp only[if_true];refine b7 (bDU (b7 (bAJ i rfl rfl (b7 (bAP i (by simp) λH p f=>?_)))));replace p:H.get? z=some (uW .ellipsis TI TO):=p;refine b7 ?_;simp only[List.zipIdx_cons,List.zipIdx_nil,bDO,bFS];refine b7 (b7 (bED ?_));refine b7 (yK (f.extBut _ _ D.h3 Z) (ht.extBut f.extBut V) T λY I g=>d7 ?_);have j:=g.extBut _ _ D.h8 (f.extBut _ _ D.h2 R);refine b7 (bBE j rfl (b7 (aH4 j λP h n=>b7 (bFZ (d7 ?_)))));replace h:P.get? TO=some (lC x b):=h;refine b7 (b7 (bED ?_));refine b7 (tL U (n.extBut _ _ D.h9.symm (g.extBut _ _ D.h10.symm (f.extBut _ _ D.h4 X))) (((hu.extBut f.extBut u1).extBut g.extBut u3).extBut n.extBut W) hy λh4 e G K=>?_);obtain⟨J,d,l⟩:=K;have y:=G _ _ D.h4.symm (n.extBut _ _ D.h2.symm (g.extBut _ _ D.h3.symm p));have r:e≠z:=λx=>by subst x;rw[y] at d;cases d;simp at l
 refine bAP y (by simp) λh5 _ B=>?_;refine b7 (bDE ⟨J,B.extBut _ _ r d,l⟩ isSubtype_stop ?_);exact d7 (q _ λc o v N O M x=>B.extBut _ _ v (G _ _ M (n.extBut _ _ N (g.extBut _ _ O (f.extBut _ _ v x)))))
def aFe (I:A.handled=none)(D:yF z TI TO i1 i2)
  (f:s.heap.get? z=some (uW .none TI TO)) (C:s.heap.get? TI=some (lC (.ref i1) (.ref i2))) (hTO:s.heap.get? TO=some (lC a b))
  (N:s.heap.get? i1=some (itO L t k)) (O:s.heap.uA L t xs) (H:xs[k]?=none) (J:t≠z)
  (q:∀h',(∀c o,c≠z->c≠TO->c≠i1->c≠i2->s.heap.get? c=some o->h'.get? c=some o)->Q none { s with heap:=h' }) :
  wpAny (model prog w) A (pyNext (.ref z)) Q E s:=by
 have n:s.TypeIs (.ref z) "zip":=⟨_,f,rfl⟩;unfold pyNext;refine b7 (bCS (bAG n F.slot_zip_next (bAD F.slot_zip_next n F.entry_zip_next ?_ (F.args_zip_next_1 _))));refine b7 (m:=field (.ref z) 2) (bAJ f rfl (x:=.bool false) rfl ?_);refine b7 (bAJ f rfl rfl (b7 (bBE C rfl ?_)));refine b7 ?_;unfold Builtin.SmallTypes.ownedTupleIsFree;refine b7 (bAJ f rfl rfl (d7 ?_));simp only[if_true];refine b7 (bDU (b7 (bAJ f rfl rfl (b7 (bAP f (by simp) λv j h=>?_)))));replace j:v.get? z=some (uW .ellipsis TI TO):=j;refine b7 ?_;simp only[List.zipIdx_cons,List.zipIdx_nil,bDO,bFS];refine b7 (b7 (bED ?_));refine b7 (tL I (h.extBut _ _ D.h3 N) (O.extBut h.extBut J) H λM e l B=>?_);obtain⟨y,d,g⟩:=B;have r:=l _ _ D.h3.symm j;have i:e≠z:=λx=>by subst x;rw[r] at d;cases d;simp at g
 refine bAP r (by simp) λK _ u=>?_;refine b7 (bDE ⟨y,u.extBut _ _ i d,g⟩ isSubtype_stop ?_);exact d7 (q _ λc o p _ G _ x=>u.extBut _ _ p (l _ _ G (h.extBut _ _ p x)))
end
end PySem
namespace PySem
section
variable {prog:Program}{w:World}{A:Around}{E:bF5}{s:Shared}
abbrev zT1 (L:Bool)(h:Heap)(t:Addr):Heap:=h.push (itO L t 0)
abbrev zT2 (L:Bool)(h:Heap)(t u:Addr):Heap:=(zT1 L h t).push (itO L u 0)
abbrev zT3 (L:Bool)(h:Heap)(t u:Addr):Heap:=(zT2 L h t u).push (lC (.ref h.objs.size) (.ref (zT1 L h t).objs.size))
abbrev zT4 (L:Bool)(h:Heap)(t u:Addr):Heap:=(zT3 L h t u).push (lC .none .none)
abbrev zT5 (L:Bool)(h:Heap)(t u:Addr):Heap:=(zT4 L h t u).push (uW .none (zT2 L h t u).objs.size (zT3 L h t u).objs.size)
def aMa (L:Bool)(t u:Addr)(xs ys:Array Value):Meets (Builtin.«zip.__new__» ⟨[.type "zip",.ref t,.ref u],[]⟩)
  (λ_ R s=>s.heap.uA L t xs/\s.heap.uA L u ys/\R (.ok (.ret (.ref (zT4 L s.heap t u).objs.size))) { s with heap:=zT5 L s.heap t u }):=
 .of_wp λm w A R s h=>by
  obtain⟨c,g,d,b,a⟩:=s;obtain⟨j,l,h⟩:=h;have k:=sub_zip;cases L
  ·have i:Heap.IsTuple (Shared.heap ⟨c,g,d,b,a⟩) t xs:=j;have e:Heap.IsTuple (Shared.heap ⟨c.push { cls:=.type "tuple_iterator",data:=.fields #[.ref t,.int 0 0] },g,d,b,a⟩) u ys:=by obtain⟨o,f,r⟩:=l;exact⟨o,c7 _ f,r⟩
   wp_walk using bFR i,bFR e;exact⟨_,rfl,h⟩
  ·have i:Heap.IsList (Shared.heap ⟨c,g,d,b,a⟩) t xs:=j;have e:Heap.IsList (Shared.heap ⟨c.push { cls:=.type "list_iterator",data:=.fields #[.ref t,.int 0 0] },g,d,b,a⟩) u ys:=by obtain⟨o,f,r⟩:=l;exact⟨o,c7 _ f,r⟩
   wp_walk using bCO i,bCO e;exact⟨_,rfl,h⟩
def aRi (b:s.heap.uA L t xs)(c:s.heap.uA L u ys)(q:Q (.ref (zT4 L s.heap t u).objs.size) { s with heap:=zT5 L s.heap t u }) :
  wpAny (model prog w) A (call (.type "zip") [.ref t,.ref u]) Q E s:=by
 refine callType_new F.called_zip (by decide) (F.typeCall_zip_2 _ _) (F.newCall_zip_2 _ _) (λa=>F.args_object_init_3 a _ _) F.entry_zip_new (aMa L t u xs ys) ⟨b,c,?_⟩;exact⟨⟨_,j8 _ rfl,rfl⟩,q⟩
end
end PySem
namespace L2
open PySem PySem.Spec PyProof.Rows
section
variable {X:Cx}{bF8:bF6}{σ:St}{H:Hp}{s:Shared}
def Inv.tup_ne (I:Inv X bF8 σ H s)(h:SqT X.K H t xs)(f:sE X bF8 H b):t≠b:=by
 rintro rfl;obtain⟨a,i,j,c,_⟩:=f;rcases h with (h|⟨o,h⟩)|⟨o,g,n,d,_⟩
 ·rw[a] at h;cases h
 ·rw[a] at h;cases h
 ·have e:=I.ok.mod.kin t o d;rcases c with z|z
  ·exact I.ok.noex t o e z
  ·exact absurd (z9 (j9 e) (bAE I.ok.bsz z)) (bBM _)
def Inv.bCn (I:Inv X bF8 σ H s)(h:SqL X.K H t xs)(f:sE X bF8 H b):t≠b:=by
 rintro rfl;obtain⟨a,i,j,c,_⟩:=f;rcases h with (h|⟨o,h⟩)|⟨o,g,n,d,_⟩
 ·rw[a] at h;cases h
 ·rw[a] at h;cases h
 ·have e:=I.ok.mod.kin t o d;rcases c with z|z
  ·exact I.ok.noex t o e z
  ·exact absurd (z9 (j9 e) (bAE I.ok.bsz z)) (bBM _)
def SqB (K:bF4):Bool->Hp->Addr->List V->Prop
 |true=>SqL K
 |false=>SqT K
def Inv.sq (I:Inv X bF8 σ H s)(h:SqB X.K L H t xs):∃its:List Value,Vals xs its/\s.heap.uA L t its.toArray:=by
 cases L
 ·obtain⟨its,a,b,_⟩:=I.tuple h;exact⟨its,a,b⟩
 ·obtain⟨its,a,b,_⟩:=I.list h;exact⟨its,a,b.isList⟩
def Inv.lK (I:Inv X bF8 σ H s)(h:SqB X.K L H t xs)(f:sE X bF8 H b):t≠b:=by
 cases L
 ·exact I.tup_ne h f
 ·exact I.bCn h f
theorem Inv.drawn {ch:List Addr}{h':Heap}{vs:List V}{its:List Value}{T:Addr}(I:Inv X bF8 σ H s)(d:∀b∈ch,sE X bF8 H b)(h:∀b o,b∉ch->s.heap.get? b=some o->h'.get? b=some o)
  (x:s.heap.objs.size<=T) (G:Vals vs its) (F:vs.length<=sizeLine) (ho:aAk h' T its.toArray) (hth:∀b∈ch,∃o,h'.get? b=some o):Inv X bF8 σ (upd H T (.tup vs)) { s with heap:=h' }:=by
 have f:=I.hok.fresh x;have D:∀b o,s.heap.get? b=some o->b≠T:=λb o e=>v8 (z9 (j9 e) x);have g:∀b u,H b=some u->b∉ch:=λb u e z=>by rw[(d b z).1] at e;cases e
 refine I.step (g':=s.gens) (d':=s.drawn) (t':=s.toks) (λb i=>?_) (λb o _ _ a e _=>h b o a e) (λb o _ _ a e _=>⟨o.slots,h b o a e⟩) (λb o a e n=>by rw[aK (D b o e)];exact n)
  (λb o a e=>⟨o,h b o a e⟩) (λb y e=>by rw[aK (aQ e f)];exact e) (λb o u e=>by rw[aK (aQ e f)];exact e) (λb E e=>⟨#[],by rw[aK (aQ e f),e];simp⟩) (λm w=>?_) (λb u e=>?_) I.bare
 ·obtain⟨_,B,_,l,C,t⟩:=d b i;exact⟨l,B,C,t⟩
 ·obtain⟨o,p,A,j,r⟩:=w;exact⟨o,p,A,h _ o (λz=>(d _ z).2.1 rfl) j,r⟩
 ·by_cases i:b=T
  ·subst i;rw[aF] at e;cases e;exact⟨F,its,G,ho⟩
  ·rw[aK i] at e;refine (I.hok b u e).stay (λc v k q=>h c v ?_ q) (λc q=>by rw[aK (aQ q f)];exact q) λc y q=>by rw[aK (aQ q f)];exact q
   rcases k with z|z
   ·rw[z];exact g b u e
   ·exact g c _ z
def Inv.aOp {ch:List Addr}{h':Heap}(I:Inv X bF8 σ H s)(d:∀b∈ch,sE X bF8 H b)(g:∀b o,b∉ch->s.heap.get? b=some o->h'.get? b=some o):Inv X bF8 σ H { s with heap:=h' }:=by
 have f:∀b u,H b=some u->b∉ch:=λb u e z=>by rw[(d b z).1] at e;cases e
 refine I.step (g':=s.gens) (d':=s.drawn) (t':=s.toks) (λb y=>?_) (λb o _ _ a e _=>g b o a e) (λb o _ _ a e _=>⟨o.slots,g b o a e⟩) (λ_ _ _ _ n=>n)
  (λb o a e=>⟨o,g b o a e⟩) (λ_ _ e=>e) (λ_ _ _ e=>e) (λb A e=>⟨#[],by rw[e];simp⟩) (λm p=>?_) (λb u e=>?_) I.bare
 ·obtain⟨_,w,_,j,x,l⟩:=d b y;exact⟨j,w,x,l⟩
 ·obtain⟨o,k,t,h,r⟩:=p;exact⟨o,k,t,g _ o (λz=>(d _ z).2.1 rfl) h,r⟩
 ·refine (I.hok b u e).stay (λc v i q=>g c v ?_ q) (λ_ q=>q) λ_ _ q=>q;rcases i with z|z
  ·rw[z];exact f b u e
  ·exact f c _ z
end
def ItB (K:bF4)(L:Bool)(t u:Addr)(xs ys:List V):It:=
 ⟨λi H=>SqB K L H t xs/\SqB K L H u ys/\i<xs.length/\i<ys.length,λi H v H'=>∃T a b,H T=none/\v=.ref T/\H'=upd H T (.tup [a,b])/\xs[i]?=some a/\ys[i]?=some b,λi H=>(SqB K L H t xs/\xs.length<=i)\/(SqB K L H t xs/\SqB K L H u ys/\i=ys.length/\ys.length<=xs.length)⟩
def ztn (L:Bool)(z TI TO i1 i2 t u:Addr)(i:Nat)(h:Heap):Prop:=
 h.get? z=some (uW .none TI TO)/\h.get? TI=some (lC (.ref i1) (.ref i2))/\(∃a b,h.get? TO=some (lC a b))/\h.get? i1=some (itO L t i)/\h.get? i2=some (itO L u i)
def Itz (K:bF4)(t u:Addr)(xs ys:List V):It:=
 ⟨λi H=>SqT K H t xs/\SqT K H u ys/\i<xs.length/\i<ys.length,λi H v H'=>∃T a b,H T=none/\v=.ref T/\H'=upd H T (.tup [a,b])/\xs[i]?=some a/\ys[i]?=some b,λi H=>SqT K H t xs/\xs.length<=i⟩
def aE6 {P:Program}{w:World}{K:bF4}{elts:List Expr}{kt:Nat}{pos:Pos}{L:Bool}{z TI TO M R t u:Addr}{xs ys:List V}(D:yF z TI TO M R) :
  Turn P w K (.Tuple elts kt pos) (ItB K L t u xs ys) [z,TI,TO,M,R] z (ztn L z TI TO M R t u) where
 mem:=by simp
 obj:=λi h B b d=>by
  obtain⟨m,j,⟨a,c,p⟩,q,C⟩:=B;simp only[bAN,bAB,or_false] at d;rcases d with rfl|rfl|rfl|rfl|rfl
  ·exact⟨_,m,λv z=>by cases (show Data.fields _=Data.cell v from z)⟩
  ·exact⟨_,j,λv z=>by cases (show Data.seq _ _=Data.cell v from z)⟩
  ·exact⟨_,p,λv z=>by cases (show Data.seq _ _=Data.cell v from z)⟩
  ·exact⟨_,q,λv z=>by cases L <;> cases (show Data.fields _=Data.cell v from z)⟩
  ·exact⟨_,C,λv z=>by cases L <;> cases (show Data.fields _=Data.cell v from z)⟩
 keep:=λi h f B k=>by obtain⟨m,j,⟨a,c,p⟩,q,C⟩:=B;exact⟨k z (by simp) _ m,k TI (by simp) _ j,⟨a,c,k TO (by simp) _ p⟩,k M (by simp) _ q,k R (by simp) _ C⟩
 item:=by
  intro X hP Y hK T i A s σ H E I l B Z;subst hP Y hK;obtain⟨m,j,⟨a0,c0,p⟩,q,C⟩:=B;obtain⟨g,r,l1,l2⟩:=Z;obtain⟨its,O,J⟩:=I.sq g;obtain⟨a6,G,pu⟩:=I.sq r;obtain⟨x,U,rx⟩:=O.get (b8 l1);obtain⟨y,hy,ry⟩:=G.get (b8 l2);have F:=l z (by simp);have S:=l TO (by simp);have W:=l M (by simp);have f2:=l R (by simp);refine aR6 D m j p q C J pu (by simpa using U) (by simpa using hy) (I.lK g F) (I.lK g S) (I.lK g W) (I.lK g f2)
   (I.lK r F) (I.lK r S) (I.lK r W) (I.lK r f2) λf a1 a2 a3 a4 a5 n=>?_
  refine⟨_,rfl,?_⟩;have fT:H s.heap.objs.size=none:=I.hok.fresh (d8 _);have I1:Inv X A σ (upd H s.heap.objs.size (.tup [xs[i],ys[i]])) { s with heap:=f }:=by
   refine I.drawn (ch:=[z,TO,M,R]) (its:=[x,y]) (λb d=>?_) (λb o d e=>?_) (d8 _) (.cons rx (.cons ry .nil)) (small (by simp)) (.of a5 rfl ⟨_,a5,rfl,_,rfl⟩) (λb d=>?_)
   ·refine l b ?_;simp only[bAN,bAB,or_false] at d ⊢;rcases d with h|h|h|h <;> simp[h]
   ·simp only[bAN,bAB,or_false,not_or] at d;exact n b o d.1 d.2.1 d.2.2.1 d.2.2.2 e
   ·simp only[bAN,bAB,or_false] at d;rcases d with rfl|rfl|rfl|rfl
    ·exact⟨_,a1⟩
    ·exact⟨_,a2⟩
    ·exact⟨_,a3⟩
    ·exact⟨_,a4⟩
  have nT:∀b∈[z,TI,TO,M,R],b≠s.heap.objs.size:=λb d=>by
   have e:∃o,s.heap.get? b=some o:=by
    simp only[bAN,bAB,or_false] at d;rcases d with rfl|rfl|rfl|rfl|rfl
    ·exact⟨_,m⟩
    ·exact⟨_,j⟩
    ·exact⟨_,p⟩
    ·exact⟨_,q⟩
    ·exact⟨_,C⟩
   obtain⟨o,e⟩:=e;exact v8 (j9 e)
  refine wpAny_letOwnedTupleGo_zip (s:={ s with heap:=f }) a1 λh2 z2 Q=>?_;obtain⟨g0,g1,g2,g3,g4,g5⟩:=F;have I2:Inv X A σ (upd H s.heap.objs.size (.tup [xs[i],ys[i]])) { s with heap:=h2 }:=Inv.turned (s:={ s with heap:=f }) I1 (t':=s.toks) (it:=z) (λb o d e=>(Q.2 b d).trans e) (by rw[aK (nT z (by simp))];exact g0) g1 g3 g4 g5;refine⟨.ref s.heap.objs.size,_,I2,rfl,⟨_,_,_,fT,rfl,rfl,b8 l1,b8 l2⟩,?_,λb d=>by rw[aK (nT b d)];exact (l b d).1⟩;exact⟨z2,Q.extBut _ _ D.h1 (n TI _ D.h1 D.h5 D.h6 D.h7 j),⟨_,_,Q.extBut _ _ D.h2 a2⟩,Q.extBut _ _ D.h3 a3,Q.extBut _ _ D.h4 a4⟩
 done:=by
  intro X hP Y hK T i A s σ H E I l B Z;subst hP Y hK;obtain⟨m,j,⟨a0,c0,p⟩,q,C⟩:=B;have F:=l z (by simp);have S:=l TO (by simp);have W:=l M (by simp);refine (λ(go:∀f,(∀c o,c≠z->c≠TO->c≠M->c≠R->s.heap.get? c=some o->f.get? c=some o)->_)=>?_:_->_) (λf n=>(⟨rfl,?_⟩:(none:Option Value)=none/\Inv X A σ H { s with heap:=f }))
  ·rcases Z with⟨g,hl⟩|⟨g,r,hl,hle⟩
   ·obtain⟨its,O,J⟩:=I.sq g;have N:=O.length;exact aFe (I.ok.hd T) D m j p q J (by simp;lia) (I.lK g F) λf n=>go f n
   ·obtain⟨its,O,J⟩:=I.sq g;obtain⟨a6,G,pu⟩:=I.sq r;have N:=O.length;have a7:=G.length;cases U:its[i]? with
    |none=>exact aFe (I.ok.hd T) D m j p q J (by simpa using U) (I.lK g F) λf n=>go f n
    |some x=>exact aUz (I.ok.hd T) D m j p q C J pu (by simpa using U) (by simp;lia) (I.lK g F) (I.lK r F) (I.lK r S) (I.lK r W) λf n=>go f n
  refine Inv.aOp (ch:=[z,TO,M,R]) I (λb d=>l b ?_) λb o d e=>?_
  ·simp only[bAN,bAB,or_false] at d ⊢;rcases d with h|h|h|h <;> simp[h]
  ·simp only[bAN,bAB,or_false,not_or] at d;exact n b o d.1 d.2.1 d.2.2.1 d.2.2.2 e
 self:=λ_ _ _ _ _ B h=>wpAny_pyIter_zip B.1 h
section
variable {X:Cx}
def aVq (K:bF4)(ta:TA):TI:=fun σ H R=>ta σ H λvs H1=>∃t u xs ys,vs=[.ref t,.ref u]/\SqT K H1 t xs/\SqT K H1 u ys/\R (Itz K t u xs ys) H1
theorem aPv (L:Bool){J:Addr->Addr->List V->List V->It}{elts:List Expr}{kt:Nat}{tp:Pos}{a b:Expr}{ta:TA}{p pos:Pos}(Z:∀{z TI TO i1 i2 t u xs ys},yF z TI TO i1 i2->Turn X.prog X.w X.K (.Tuple elts kt tp) (J t u xs ys) [z,TI,TO,i1,i2] z (ztn L z TI TO i1 i2 t u))(W:Gl X "zip")(Y:X.mg "zip"=none)(ha:PA X [a,b] ta)(T:starEach [a,b] X.env=(false,eval a X.env)::starEach [b] X.env:=by rfl)
  (Q:starEach [b] X.env=[(false,eval b X.env)]:=by rfl):PI X (.Tuple elts kt tp) (.Call (.Name "zip" p) [a,b] [] pos) (fun σ H R=>ta σ H λvs H1=>∃t u xs ys,vs=[.ref t,.ref u]/\SqB X.K L H1 t xs/\SqB X.K L H1 u ys/\R (J t u xs ys) H1):=by
 intro d s σ H R I h;refine Call_ (qK I W Y bBa (bCB (thn (ha pos d s σ H _ I h) λU c ⟨vs,H1,g,G,N⟩=>?_) T (by rw[Q];rfl)));obtain⟨t,u,xs,ys,e,P,S,q⟩:=N;subst e;obtain⟨A,rv,B⟩:=g.sq P;obtain⟨O,x,M⟩:=g.sq S;cases G with
 |cons r rr=>
  cases rr with
  |cons r' rr'=>
   cases rr';cases r;cases r';refine aRi B M ?_;have i:(zT1 L c.heap t).objs.size=c.heap.objs.size+1:=bBL ..;have k:(zT2 L c.heap t u).objs.size=c.heap.objs.size+2:=by rw[bBL,i]
   have j:(zT3 L c.heap t u).objs.size=c.heap.objs.size+3:=by rw[bBL,k]
   have m:(zT4 L c.heap t u).objs.size=c.heap.objs.size+4:=by rw[bBL,j]
   have D:yF (zT4 L c.heap t u).objs.size (zT2 L c.heap t u).objs.size (zT3 L c.heap t u).objs.size c.heap.objs.size (zT1 L c.heap t).objs.size:=by constructor <;> (show (_:Nat)≠(_:Nat);rw[Ne];intro h;simp only[i,k,j,m] at h;lia)
   have l:(zT5 L c.heap t u).get? (zT4 L c.heap t u).objs.size=some (uW .none (zT2 L c.heap t u).objs.size (zT3 L c.heap t u).objs.size):=j8 _ rfl;have F:(zT5 L c.heap t u).get? (zT3 L c.heap t u).objs.size=some (lC .none .none):=c7 _ (j8 _ rfl);have v:(zT5 L c.heap t u).get? (zT2 L c.heap t u).objs.size=some (lC (.ref c.heap.objs.size) (.ref (zT1 L c.heap t).objs.size)):=c7 _ (c7 _ (j8 _ rfl));have y:(zT5 L c.heap t u).get? (zT1 L c.heap t).objs.size=some (itO L u 0):=c7 _ (c7 _ (c7 _ (j8 _ (by cases L <;> rfl))));have C:(zT5 L c.heap t u).get? c.heap.objs.size=some (itO L t 0):=c7 _ (c7 _ (c7 _ (c7 _ (j8 _ (by cases L <;> rfl)))));have E:Inv X d σ H1 { c with heap:=zT5 L c.heap t u }:=g.kept (t':=c.toks) λb o e=>c7 _ (c7 _ (c7 _ (c7 _ (c7 _ e))));refine wpAny_pyIter_zip (s:={ c with heap:=zT5 L c.heap t u }) l ⟨_,_,_,_,H1,rfl,E,Z D,⟨l,v,⟨_,_,F⟩,C,y⟩,λb n=>?_,q⟩;have f:c.heap.objs.size<=b:=by
    simp only[bAN,bAB,or_false] at n;rcases n with rfl|rfl|rfl|rfl|rfl
    ·rw[m];exact bDF ..
    ·rw[k];exact bDF ..
    ·rw[j];exact bDF ..
    ·exact d8 _
    ·rw[i];exact bDF ..
   exact g.aLe f (g.hok.fresh f)
def aY2 (d:Gl X "zip")(n:X.mg "zip"=none)(o:PA X [a,b] ta)(m:starEach [a,b] X.env=(false,eval a X.env)::starEach [b] X.env:=by rfl)
  (k:starEach [b] X.env=[(false,eval b X.env)]:=by rfl):PI X (.Tuple elts kt tp) (.Call (.Name "zip" p) [a,b] [] pos) (aVq X.K ta):=
 aPv false (J:=Itz X.K) (λD=>let T:=aE6 (L:=false) D;⟨T.mem,T.obj,T.keep,T.item,λX e g f j i c s σ H E I h l d=>T.done X e g f j i c s σ H E I h l (.inl d),T.self⟩) d n o m k
inductive Tk (K:bF4)(H:Hp):V->Bool->Prop
 |int {i}:Tk K H (.int i) false
 |str {x}:Tk K H (.str x) false
 |bl {b}:Tk K H (.bl b) false
 |non:Tk K H .non false
 |lst {a xs}:SqL K H a xs->Tk K H (.ref a) false
 |dct {a kvs}:H a=some (.dK kvs)->Tk K H (.ref a) false
 |tup {a xs}:SqT K H a xs->Tk K H (.ref a) true
def bEb (K:bF4):List V->Hp->VK->Prop:=λxs H Q=>∃x b,xs=[x,.ty "tuple"]/\Tk K H x b/\Q (.bl b) H
theorem iJ:cH X (.builtin "isinstance") (bEb X.K):=by
 intro f s σ H y w Q I r h;obtain⟨x,b,rfl,i,q⟩:=h;obtain⟨u,v,rfl,a,p⟩:=r.two;cases p;have l:EP X f σ Q (.bool b) s:=⟨.bl _,H,I,rfl,q⟩;have d:EP X f σ Q (.bool b) { s with toks:=s.toks+1 }:=⟨.bl _,H,I.tok _,rfl,q⟩;cases i with
 |int=>obtain⟨t,rfl⟩:=a;exact IsiPair.int_tuple d
 |str=>obtain⟨t,rfl⟩:=a;exact IsiPair.str_tuple d
 |bl=>cases a;exact IsiPair.bool_tuple d
 |non=>cases a;exact IsiPair.NoneType_tuple d
 |lst hq=>cases a;obtain⟨g,m,⟨o,n,e,c,_⟩,j⟩:=I.list hq;exact IsiPair.list_tuple e c d
 |dct hq=>cases a;obtain⟨_,_,_,_,o,_,_,e,k,_⟩:=I.hok _ _ hq;exact IsiPair.dict_tuple e k.1 d
 |tup hq=>cases a;obtain⟨g,m,⟨o,e,c,_⟩,j⟩:=I.tuple hq;exact IsiPair.tuple_tuple e c l
end
section
variable {X:Cx}{scope:Scope}{N:List Str}{wi:TI}{te:TE}{σ:St}{H:Hp}{Q:VK}
def jQ {σ0:St}{j:Nat}(c:σ0[j]?=some none):σ0=σ0.set j none:=by
 refine (bCC λi=>?_);rw[List.getElem?_set]
 split
 ·rename_i b;subst b
  split
  ·exact c
  ·rename_i a;exact List.getElem?_eq_none_iff.mpr (by lia)
 ·rfl
def aEt (xs:List V)(f:V->V)(k:St)(r:Cap X scope N σ k)(hsz:xs.length<=sizeLine)
  (t:∀R:It->Hp->Prop,(∀J:It,(∀H' i x,Same H H'->xs[i]?=some x->J.go i H'/\∀y H2,J.yld i H' y H2->H2=H'/\y=x)->(∀H',Same H H'->J.stop xs.length H')->R J H)->wi σ H R)
  (s:∀x∈xs,∀H' R l,Same H H'->(∀H2,Same H' H2->R (f x) H2)->te ((k.set 0 l).set 0 (some x)) H' R) (u:k[0]?=some none)
  (q:∀D H',Same H H'->H' D=some (.lst (xs.map f))->Q (.ref D) H') :
  jD X scope N wi (bO 0) mJ te σ H Q:=by
 refine⟨k,r,t _ λJ go stop D g=>?_⟩;refine⟨λi m d H' c=>i<=xs.length/\m=xs.length - i/\(∃l,d=k.set 0 l)/\Same H H'/\H' D=some (.lst c)/\c=(xs.take i).map f,⟨xs.length,bAC _,rfl,⟨none,jQ u⟩,aW g _,aF,rfl⟩,?_⟩;rintro i m d H' c ⟨hi,rfl,⟨l,rfl⟩,sm,hL,rfl⟩;refine⟨hL,?_⟩;by_cases a:i<xs.length
 ·right;obtain⟨p,n⟩:=go H' i xs[i] sm (b8 a);refine⟨p,λx H2 j=>?_⟩;obtain⟨rfl,rfl⟩:=n x H2 j;unfold bO mJ;dsimp only;rw[if_pos rfl];refine s xs[i] (bAT a) _ _ l sm λv h=>⟨h _ _ hL,?_,xs.length - (i+1),by lia,a,rfl,⟨some xs[i],?_⟩,?_,aF,?_⟩
  ·rw[j6,bAI];lia
  ·rw[bCD]
  ·intro b o e;rw[aK (aQ e g)];exact h _ _ (sm _ _ e)
  ·rw[bBP,b8 a,bBF];rfl
 ·left;have e:i=xs.length:=by lia
  subst e;refine⟨stop _ sm,?_⟩;rw[bCW] at hL;exact q D _ sm hL
def aTb {K:bF4}{tl:TA}{t u:Addr}(xs ys:List V)(f:V->V->V)(w:St)(A:Cap X scope N σ w)(hsz:xs.length<=sizeLine)(hl:xs.length=ys.length)
  (k:SqT K H t xs) (B:SqT K H u ys) (G:∀R:List V->Hp->Prop,R [.ref t,.ref u] H->tl σ H R)
  (E:∀(i:Nat) (x y:V),xs[i]?=some x->ys[i]?=some y->∀H' R l1 l2,Same H H'->(∀H2,Same H' H2->R (f x y) H2)->te ((((w.set 0 l1).set 1 l2).set 0 (some x)).set 1 (some y)) H' R) (F:w[0]?=some none) (C:w[1]?=some none)
  (q:∀D H',Same H H'->H' D=some (.lst (List.zipWith f xs ys))->Q (.ref D) H') :
  jD X scope N (aVq K tl) (aNd K 2 (sW (bO 0) (sW (bO 1) aQd))) mJ te σ H Q:=by
 refine⟨w,A,G _ ⟨t,u,xs,ys,rfl,k,B,λD l=>?_⟩⟩;refine⟨λi m j H' h=>i<=xs.length/\m=xs.length - i/\(∃l1 l2,j=(w.set 0 l1).set 1 l2)/\Same H H'/\H' D=some (.lst h)/\h=(List.zipWith f xs ys).take i,⟨xs.length,bAC _,rfl,⟨none,none,?_⟩,aW l _,aF,rfl⟩,?_⟩
 ·rw[<-jQ F];exact jQ C
 rintro i m j H' h ⟨hi,rfl,⟨l1,l2,rfl⟩,sm,hL,rfl⟩;refine⟨hL,?_⟩;by_cases d:i<xs.length
 ·right;refine⟨⟨sm.aR k,sm.aR B,d,by lia⟩,λv H2 s=>?_⟩;obtain⟨T,a,b,z,rfl,rfl,n,p⟩:=s;have g:Same H' (upd H' T (.tup [a,b])):=aW z _;refine⟨T,[a,b],rfl,.inl (.inl aF),rfl,a,[b],rfl,b,[],rfl,rfl,?_⟩;unfold mJ;dsimp only;rw[if_pos rfl];refine E i a b n p _ _ l1 l2 (λb o e=>g _ _ (sm _ _ e)) λI r=>⟨r _ _ (g _ _ hL),?_,xs.length - (i+1),by lia,d,rfl,⟨some a,some b,?_⟩,?_,aF,?_⟩
  ·rw[bAI,bFP];lia
  ·rw[List.set_comm _ _ (show (1:Nat)≠0 by decide),bCD,bCD]
  ·intro c o e;rw[aK (aQ e l)];exact r _ _ (g _ _ (sm _ _ e))
  ·rw[bBP,List.getElem?_zipWith,n,p];rfl
 ·left;have e:i=xs.length:=by lia
  subst e;refine⟨⟨sm.aR k,d8 _⟩,?_⟩;rw[bAW (by rw[bFP];lia)] at hL;exact q D _ sm hL
def aM6 {K:bF4}{a:Addr}{xs:List V}{tl:TE}(b:SqT K H a xs)(h:∀R:VK,R (.ref a) H->tl σ H R)(R:It->Hp->Prop)
  (q:∀J:It,(∀H' i x,Same H H'->xs[i]?=some x->J.go i H'/\∀y H2,J.yld i H' y H2->H2=H'/\y=x)->(∀H',Same H H'->J.stop xs.length H')->R J H):aX7 K tl σ H R:=by
 refine h _ ⟨a,rfl,⟨xs,b⟩,q _ (λH' i x s e=>⟨⟨xs,x,s.aR b,e⟩,λy H2 d=>?_⟩) λH' s=>⟨xs,s.aR b,d8 _⟩⟩;obtain⟨g,f⟩:=d;have c:=f xs (s.aR b);rw[e] at c;cases c;exact⟨g,rfl⟩
end
section
variable {κ:Type}[DecidableEq κ]
def nC (kvs:List (κ × V))(k:κ):Option V:=(kvs.find? λkv=>decide (kv.1=k)).map (·.2)
def putK (kvs:List (κ × V))(k:κ)(v:V):List (κ × V):=
 if (kvs.any λkv=>decide (kv.1=k))=true then kvs.map (λkv=>if kv.1=k then (kv.1,v) else kv) else kvs++[(k,v)]
def zW (kvs:List (κ × V))(k:κ):List (κ × V):=kvs.filter λkv=>decide (kv.1≠k)
def mV {p:κ × V}{r:List (κ × V)}{k:κ}(e:p.1=k):nC (p::r) k=some p.2:=by simp[nC,bCH,e]
def vI {p:κ × V}{r:List (κ × V)}{k:κ}(e:¬ p.1=k):nC (p::r) k=nC r k:=by simp[nC,bCH,e]
theorem wL (k:κ):∀kvs:List (κ × V),(kvs.any λkv=>decide (kv.1=k))=(nC kvs k).isSome
 |[]=>rfl
 |p::r=>by
  rw[bFI];by_cases e:p.1=k
  ·simp only[mV e,m9 e,Bool.true_or,Option.isSome_some]
  ·rw[vI e,v9 e,Bool.false_or];exact wL k r
def pP (kvs:List (κ × V))(k:κ)(v:V):(putK kvs k v).length<=kvs.length+1:=by
 unfold putK
 split
 ·rw[j6];lia
 ·rw[w6,m8,bBS];lia
def aTx {kvs:List (κ × V)}{k:κ}(v:V)(h:nC kvs k=none):putK kvs k v=kvs++[(k,v)]:=by unfold putK;rw[wL,h];exact if_neg (by decide)
theorem lQ.mQ (r:lQ o u):o.isSome=u.isSome:=by
 cases o with
 |none=>cases u with
  |none=>rfl
  |some _=>exact (show False from r).elim
 |some _=>cases u with
  |none=>exact (show False from r).elim
  |some _=>rfl
theorem lQ.getD (r:lQ o u)(a:RelV d d'):RelV (o.getD d) (u.getD d'):=by
 cases o with
 |none=>cases u with
  |none=>exact a
  |some _=>exact (show False from r).elim
 |some _=>cases u with
  |none=>exact (show False from r).elim
  |some _=>exact r
theorem KV.val (r:KV kvs vs)(k:κ):lQ (nC kvs k) (valueAt vs k):=by
 unfold KV at r
 induction r with
 |nil=>exact True.intro
 |@cons p q ps qs h t ih=>
  obtain⟨c,d⟩:=h;by_cases e:p.1=k
  ·have a:q.1=k:=c.symm.trans e;have b:valueAt (q::qs) k=some q.2:=by simp[valueAt,bCH,a]
   rw[mV e,b];exact d
  ·have a:¬ q.1=k:=λz=>e (c.trans z);have b:valueAt (q::qs) k=valueAt qs k:=by simp[valueAt,bCH,a]
   rw[vI e,b];exact ih
theorem KV.any (r:KV kvs vs)(k:κ):(kvs.any λkv=>decide (kv.1=k))=vs.any λkv=>decide (kv.1=k):=by
 unfold KV at r
 induction r with
 |nil=>rfl
 |cons h t ih=>rw[bFI,bFI,ih,h.1]
theorem KV.repl (r:KV kvs vs)(k:κ)(c:RelV y u) :
  KV (kvs.map λkv=>if kv.1=k then (kv.1,y) else kv) (vs.map λkv=>if kv.1=k then (kv.1,u) else kv):=by
 unfold KV at r ⊢
 induction r with
 |nil=>exact .nil
 |@cons p q ps qs h t ih=>
  rw[bAL,bAL];refine .cons ?_ ih;obtain⟨a,b⟩:=h;by_cases e:p.1=k
  ·rw[if_pos e,if_pos (a.symm.trans e)];exact⟨a,c⟩
  ·rw[if_neg e,if_neg (λz=>e (a.trans z))];exact⟨a,b⟩
def KV.put (r:KV kvs vs)(k:κ)(b:RelV y u):KV (putK kvs k y) (stored vs k u):=by
 unfold putK stored;rw[r.any k];by_cases e:(vs.any λa=>decide (a.1=k))=true
 ·rw[if_pos e,if_pos e];exact r.repl k b
 ·rw[if_neg e,if_neg e];exact Paired.snoc r ⟨rfl,b⟩
theorem KV.drop (r:KV kvs vs)(k:κ):KV (zW kvs k) (without vs k):=by
 unfold KV at r ⊢;unfold zW without
 induction r with
 |nil=>exact .nil
 |@cons p q ps qs h t ih=>
  obtain⟨c,f⟩:=h;rw[bDG,bDG];by_cases e:p.1=k
  ·have a:¬ decide (p.1≠k)=true:=by simp[e]
   have b:¬ decide (q.1≠k)=true:=by simp[c.symm.trans e]
   rw[if_neg a,if_neg b];exact ih
  ·have d:¬ q.1=k:=λz=>e (c.trans z);have a:decide (p.1≠k)=true:=by simp[e]
   have b:decide (q.1≠k)=true:=by simp[d]
   rw[if_pos a,if_pos b];exact .cons ⟨c,f⟩ ih
theorem KV.length {kvs:List (κ × V)}{vs:List (κ × Value)}(r:KV kvs vs):kvs.length=vs.length:=Paired.length r
def aTm (kvs:List (κ × V))(k:κ):(zW kvs k).length<=kvs.length:=bAY _ _
end
theorem wA (r:RelV (kV k) u):(bI P w).is k u=true:=by
 cases k with
 |inl i=>obtain⟨t,e⟩:=(show ∃t,u=Value.int i t from r);subst e;exact aIc P w i t
 |inr x=>obtain⟨t,e⟩:=(show ∃t,u=Value.str x t from r);subst e;exact aKh P w x t
theorem bAu (e:kV a=kV b):a=b:=by
 cases a with
 |inl i=>cases b with
  |inl j=>have c:=e;injection c with c;rw[c]
  |inr y=>exact nomatch (show V.int i=V.str y from e)
 |inr x=>cases b with
  |inl j=>exact nomatch (show V.str x=V.int j from e)
  |inr y=>have c:=e;injection c with c;rw[c]
theorem aFb:∀{ks:List Key} {us:List Value},Vals (ks.map kV) us->ItemsAre (bI P w) ks us
 |[],_,r=>by rw[List.map_nil] at r;cases r;exact .nil
 |k::ks,_,r=>by
  rw[bAL] at r;cases r with
  |cons h t=>exact .cons (wA h) (aFb t)
abbrev KT (H:Hp):List (List Key × V)->List (List Key × Addr × Value)->Prop:=Paired λp q=>p.1=q.1/\H q.2.1=some (.tup (p.1.map kV))/\RelV p.2 q.2.2
theorem KT.val (r:KT H kvs xs)(k:List Key):lQ (nC kvs k) ((atKey xs k).map (·.2)):=by
 induction r with
 |nil=>exact True.intro
 |@cons p q ps qs h t ih=>
  obtain⟨c,_,d⟩:=h;by_cases e:p.1=k
  ·have a:q.1=k:=c.symm.trans e;have b:atKey (q::qs) k=some q.2:=by simp[atKey,bCH,a]
   rw[mV e,b];exact d
  ·have a:¬ q.1=k:=λz=>e (c.trans z);have b:atKey (q::qs) k=atKey qs k:=by simp[atKey,bCH,a]
   rw[vI e,b];exact ih
theorem KT.repl (r:KT H kvs xs)(k:List Key)(d:RelV y u) :
  KT H (kvs.map λkv=>if kv.1=k then (kv.1,y) else kv) (xs.map (putAt k u)):=by
 induction r with
 |nil=>exact .nil
 |@cons p q ps qs h t ih=>
  rw[bAL,bAL];refine .cons ?_ ih;obtain⟨a,b,c⟩:=h;unfold putAt;by_cases e:p.1=k
  ·rw[if_pos e,if_pos (a.symm.trans e)];exact⟨a,b,d⟩
  ·rw[if_neg e,if_neg (λz=>e (a.trans z))];exact⟨a,b,c⟩
def KT.put (r:KT H kvs xs)(k:List Key)(d:H b=some (.tup (k.map kV)))(a:RelV y u) :
  KT H (putK kvs k y) (storedH xs k b u):=by
 have e:(kvs.any λc=>decide (c.1=k))=(atKey xs k).isSome:=by rw[wL,(r.val k).mQ,bF0]
 unfold putK storedH;rw[e];by_cases q:(atKey xs k).isSome=true
 ·rw[if_pos q,if_pos q];exact r.repl k a
 ·rw[if_neg q,if_neg q];exact Paired.snoc r ⟨rfl,d,a⟩
def KT.keeps (r:KT H kvs xs)(a:∀b ys,H b=some (.tup ys)->H' b=some (.tup ys)):KT H' kvs xs:=
 Paired.bCm r λ_ _ z=>⟨z.1,a _ _ z.2.1,z.2.2⟩
section
variable {P:Program}{w:World}{H:Hp}{h:Heap}{a:Addr}
def aZz (b:HOk P w H h)(e:Rd H a u):cV P w H h a u:=e.ok b
def aCi (b:HOk P w H h)(e:Rd H a (.dK kvs)):kvs.length<=sizeLine/\(a == sysModules)=false/\∃vs,KV kvs vs/\h.DictOf (bI P w) a vs:=
 show cV P w H h a (.dK kvs) from aZz b e
def aIh (b:HOk P w H h)(e:H a=some (.dK kvs)):kvs.length<=sizeLine/\(a == sysModules)=false/\∃vs,KV kvs vs/\h.DictOf (bI P w) a vs:=aCi b (.inl e)
def yQ (g:HOk P w H h)(e:H a=some (.tup (ks.map kV))):(tupleKind (bI P w)).is h ks a:=by obtain⟨_,b,r,⟨o,c,f,n,d⟩,_⟩:=(show cV P w H h a (.tup (ks.map kV)) from g a _ e);exact⟨o,b.toArray,n,c,f,d,by simpa using aFb r⟩
def aCu (k:HOk P w H h)(e:Rd H a (.dT kvs)):kvs.length<=sizeLine/\(a == sysModules)=false /\
  ∃xs,KT H kvs xs/\h.DictOfH (tupleKind (bI P w)) a xs:=by
 obtain⟨z,y,xs,r,o,d,i,c,g,f,n,j⟩:=(show cV P w H h a (.dT kvs) from aZz k e);refine⟨z,y,xs,r,o,d,i,c,g,f,n,λx hx=>?_,j⟩;have b:∀{l:List (List Key × V)} {m:List (List Key × Addr × Value)},KT H l m->∀x∈m,(tupleKind (bI P w)).is h x.1 x.2.1:=by
  intro l m q
  induction q with
  |nil=>intro x hx;exact nomatch hx
  |@cons p q ps qs hq t ih=>
   intro x hx;rcases List.mem_cons.mp hx with e|hx
   ·subst e;exact yQ k (by rw[<-hq.1];exact hq.2.1)
   ·exact ih x hx
 exact b r x hx
def bEp (b:HOk P w H h)(e:H a=some (.dT kvs)):kvs.length<=sizeLine/\(a == sysModules)=false /\
  ∃xs,KT H kvs xs/\h.DictOfH (tupleKind (bI P w)) a xs:=aCu b (.inl e)
end
def aH9 (H:Hp)(a:Addr)(y:V)(r:Option V):Prop:=
 (∃kvs k,Rd H a (.dK kvs)/\y=kV k/\r=nC kvs k)\/∃kvs k b,Rd H a (.dT kvs)/\y=.ref b/\H b=some (.tup (k.map kV))/\r=nC kvs k
def aHm (H:Hp)(a:Addr)(y v:V)(H':Hp):Prop:=
 (∃kvs k,H a=some (.dK kvs)/\y=kV k/\kvs.length<sizeLine/\H'=upd H a (.dK (putK kvs k v))) \/
 ∃kvs k b,H a=some (.dT kvs)/\y=.ref b/\H b=some (.tup (k.map kV))/\kvs.length<sizeLine/\H'=upd H a (.dT (putK kvs k v))
theorem aHm.k {H:Hp}{a:Addr}{b:List (Key × V)}{k:Key}{v:V}(e:H a=some (.dK b))(c:b.length<sizeLine):aHm H a (kV k) v (upd H a (.dK (putK b k v))):=.inl ⟨b,k,e,rfl,c,rfl⟩
section
variable {X:Cx}{bF8:bF6}{σ:St}{H:Hp}{s:Shared}{a:Addr}{y v:V}{u r:Value}{o:Option V}{A:Around}{E:bF5}
def Inv.big (I:Inv X bF8 σ H s):sysModules<s.heap.objs.size:=by have h:=(I.mod.glob.keeps I.bk).lt;exact bEV (by decide) h
def aR8 (x:A.units+1<cLine)(I:Inv X bF8 σ H s)(g:aH9 H a y (some v))(q:RelV y u)(h:∀w' s',Inv X bF8 σ H s'->RelV v w'->Q w' s') :
  wpAny (model X.prog X.w) A (getItem (.ref a) u) Q E s:=by
 rcases g with⟨n,k,e,m,l⟩|⟨n,k,b,e,m,eb,l⟩
 ·subst m;obtain⟨z,hd,t,c,i⟩:=aCi I.hok e;obtain⟨w',j,d⟩:=lQ.some_of (by rw[l];exact c.val k);exact wpAny_getItem_of (wA q) i.mapOf j (h w' _ (I.tok _) d)
 ·subst m;cases (show u=Value.ref b from q);obtain⟨z,hd,r,c,i⟩:=aCu I.hok e;obtain⟨w',j,d⟩:=lQ.some_of (by rw[l];exact c.val k);obtain⟨p,o,f⟩:=Option.map_eq_some_iff.mp j;refine wpAny_getItem_heap (tupleKind_room_in1 x) (yQ I.hok eb) i o ?_;rw[f];exact h w' _ (I.tok _) d
def bE0 (p:A.units+1<cLine)(I:Inv X bF8 σ H s)(g:aH9 H a y o)(j:RelV y u)(h:∀s',Inv X bF8 σ H s'->Q (.bool o.isSome) s') :
  wpAny (model X.prog X.w) A (compareOp .In u (.ref a)) Q E s:=by
 rcases g with⟨i,k,e,f,l⟩|⟨i,k,b,e,f,eb,l⟩
 ·subst f;obtain⟨z,hd,m,c,d⟩:=aCi I.hok e;refine wpAny_in_of (wA j) hd d.mapOf ?_;rw[<-(c.val k).mQ,<-l];exact h _ (I.tok _)
 ·subst f;cases (show u=Value.ref b from j);obtain⟨z,hd,n,c,d⟩:=aCu I.hok e;refine wpAny_in_heap (tupleKind_room_in1 p) (yQ I.hok eb) hd d ?_;have q:=(c.val k).mQ;rw[bF0] at q;rw[<-q,<-l];exact h _ (I.tok _)
def aWo (p:A.units+1<cLine)(I:Inv X bF8 σ H s)(g:aH9 H a y o)(j:RelV y u)(h:∀s',Inv X bF8 σ H s'->Q (.bool (!o.isSome)) s') :
  wpAny (model X.prog X.w) A (compareOp .NotIn u (.ref a)) Q E s:=by
 rcases g with⟨i,k,e,f,l⟩|⟨i,k,b,e,f,eb,l⟩
 ·subst f;obtain⟨z,hd,m,c,d⟩:=aCi I.hok e;refine wpAny_notIn_of (wA j) hd d.mapOf ?_;rw[<-(c.val k).mQ,<-l];exact h _ (I.tok _)
 ·subst f;cases (show u=Value.ref b from j);obtain⟨z,hd,n,c,d⟩:=aCu I.hok e;refine wpAny_notIn_heap (tupleKind_room_in1 p) (yQ I.hok eb) hd d ?_;have q:=(c.val k).mQ;rw[bF0] at q;rw[<-q,<-l];exact h _ (I.tok _)
def aA2 (I:Inv X bF8 σ H s)(g:Mut (H a))(e:Heap.SameBut a s.heap h')(f:∃q,h'.get? a=some q)(d:cV X.prog X.w (upd H a ob) h' a ob) :
  Inv X bF8 σ (upd H a ob) { s with heap:=h',toks:=t' }:=
 I.write g (.inl rfl) (λb q c z=>(e.2 b c).trans z) f d
def aNb (z:kvs.length<=sizeLine)(hd:(a == sysModules)=false)(b:KV kvs vs)(c:h'.DictOf (bI P w) a vs) :
  cV P w H' h' a (.dK kvs):=⟨z,hd,vs,b,c⟩
theorem aRz (T:A.units+1<cLine)(I:Inv X bF8 σ H s)(g:aHm H a y v H')(R:RelV y u)(N:RelV v r)(h:∀s',Inv X bF8 σ H' s'->Q () s') :
  wpAny (model X.prog X.w) A (setItem (.ref a) u r) Q E s:=by
 rcases g with⟨d,k,e,t,l,o⟩|⟨d,k,b,e,t,eb,l,o⟩
 ·subst t o;obtain⟨z,hd,P,f,n⟩:=aIh I.hok e;have J:P.length<=sizeLine:=by rw[<-f.length];exact z
  have p:(putK d k v).length<=sizeLine:=by have:=pP d k v;lia
  refine wpAny_setItem_pairs (wA R) n λB i m=>h _ ?_;have D:∃q,B.get? a=some q:=let ⟨q,_,_,j,_⟩:=i;⟨q,j⟩
  exact aA2 I (by rw[e];exact True.intro) m D (aNb p hd (f.put k N) i)
 ·subst t o;cases (show u=Value.ref b from R);obtain⟨z,hd,G,f,n⟩:=bEp I.hok e;have J:G.length<=sizeLine:=by rw[<-Paired.length f];exact z
  have p:(putK d k v).length<=sizeLine:=by have:=pP d k v;lia
  refine wpAny_setItem_heap (tupleKind_room_in1 T) (yQ I.hok eb) n λB i m=>h _ ?_;obtain⟨q,C,L,j,K,F,O,_,M⟩:=i;refine aA2 I (by rw[e];exact True.intro) m ⟨q,j⟩ ⟨p,hd,_,(f.put k eb N).keeps λc S x=>?_,q,C,L,j,K,F,O,M⟩;rw[aK (aJ8 x e (λz=>nomatch z))];exact x
end
section
variable {X:Cx}{bF8:bF6}{σ:St}{H:Hp}{s:Shared}{a:Addr}{kvs:List (Key × V)}{k:Key}{u:Value}{A:Around}{E:bF5}
def bEg {v:V}{more:List Value}{Q:bF5}(I:Inv X bF8 σ H s)(e:H a=some (.dK kvs))(j:RelV (kV k) u)(l:nC kvs k=some v)(p:more=[]\/∃x,more=[x])
  (h:∀w' s',Inv X bF8 σ (upd H a (.dK (zW kvs k))) s'->RelV v w'->Q w' s'):wpAny (model X.prog X.w) A (call (.builtin "dict.pop") (.ref a::u::more)) Q E s:=by
 obtain⟨z,hd,g,b,f⟩:=aIh I.hok e;obtain⟨w',r,d⟩:=lQ.some_of (v:=v) (o:=valueAt g k) (by rw[<-l];exact b.val k);have y:(keyPart u).isSome=true:=by
  cases k with
  |inl i=>obtain⟨t,q⟩:=(show ∃t,u=Value.int i t from j);subst q;rfl
  |inr x=>obtain⟨t,q⟩:=(show ∃t,u=Value.str x t from j);subst q;rfl
 have B:argsOk "dict.pop" ⟨.ref a::u::more,[]⟩:=by
  rcases p with q|⟨x,q⟩
  ·subst q;exact PySem.F.args_dict_pop_2 _ _
  ·subst q;exact PySem.F.args_dict_pop_3 _ _ _
 refine call_meetsIn PySem.F.slot_dict_pop f.typeIs PySem.F.entry_dict_pop B (meets_dict_pop_there (bI X.prog X.w) a (wA j) more p y)
  ⟨g,w',f,by rw[<-b.length];exact z,r,λC c m=>h w' _ ?_ d⟩
 have n:∃q,C.get? a=some q:=let ⟨q,_,_,hq,_⟩:=c;⟨q,hq⟩
 exact aA2 I (by rw[e];exact True.intro) m n (aNb (bAE (aTm kvs k) z) hd (b.drop k) c)
end
def bBq (i:Expr):Prop:=∀ov iv,subscripted i false ov iv=operate [ov,iv] (getItem ov iv)
def aXn {prog:Program}{w:World}{A:Around}{E:bF5}{s:Shared}{env:Env}{b d:Expr}{pos:Pos}{T id:String}{Q:bF5}
  (l:typeLookup (.type T) "__getitem__"=pure (some (.builtin id))) (k:bBq d)
  (h:wpAny (model prog w) A (eval b env) (λo s₁=>wpAny (model prog w) A (eval d env) (λi s₂=>s₂.TypeIs o T/\wpAny (model prog w) A (getItem o i) Q E s₂) E s₁) E s) :
  wpAny (model prog w) A (eval (.Subscript b d pos) env) Q E s:=by
 refine Subscript_ (bAX h (λo s₁ g=>bAX g (λi s₂ c=>?_) λ_ _ x=>x) λ_ _ x=>x);obtain⟨f,c⟩:=c;unfold subscriptTail;refine b7 ?_;rw[getitemInPython_of_ne f.not_modules];refine b7 (wpAny_specialOf f l ?_);have a:wpAny (model prog w) A (subscripted d false o i) (λr e=>wpAny (model prog w) A (letTemporaryGo b o r >>= λ_=>pure r) Q E e) E s₂:=by rw[k o i];exact wpAny_operating (bAX c (λr e j=>b7 (wpAny_letTemporaryGo (d7 j))) λ_ _ x=>x)
 first
  |exact d7 (b7 a)
  |exact b7 (d7 (b7 a))
  |exact b7 a
def aLt (I:Inv X bF8 σ H s)(g:aH9 H a y o):s.TypeIs (.ref a) "dict":=by
 rcases g with⟨d,k,e,_,_⟩|⟨d,k,b,e,_,_,_⟩
 ·obtain⟨_,_,f,_,c⟩:=aCi I.hok e;exact c.typeIs
 ·obtain⟨_,_,h,_,c⟩:=aCu I.hok e;exact c.typeIs
def aZl (td ty:TE):TE:=fun σ H Q=>td σ H λx H1=>ty σ H1 λy H2=>∃a v,x=.ref a/\aH9 H2 a y (some v)/\Q v H2
def bDa (ty td:TE):TE:=fun σ H Q=>ty σ H λy H1=>td σ H1 λx H2=>∃a o,x=.ref a/\aH9 H2 a y o/\Q (.bl o.isSome) H2
def aO5 (ty td:TE):TE:=fun σ H Q=>ty σ H λy H1=>td σ H1 λx H2=>∃a o,x=.ref a/\aH9 H2 a y o/\Q (.bl (!o.isSome)) H2
def aZx (td ty tv:TE):TS:=λD σ H=>tv σ H λv H1=>td σ H1 λx H2=>ty σ H2 λy H3=>∃a H4,x=.ref a/\aHm H3 a y v H4/\D.nx σ H4
section
variable {X:Cx}{o i e value:Expr}{pos pos' tpos:Pos}{td ty tv:TE}
def aWl (z:X.A.units+1<cLine)(ho:PE X o td)(hi:PE X i ty)(w:bBq i):PE X (.Subscript o i pos) (aZl td ty):=by intro b s σ H Q I h;refine aXn PySem.F.slot_dict_getitem.lookup w (thn (ho b s σ H _ I h) λu k ⟨x,e,r,l,q⟩=>thn (hi b k σ e _ r q) λD t ⟨y,f,d,p,a,v,j,g,m⟩=>?_);subst j;obtain rfl:u=Value.ref a:=l;exact⟨aLt d g,aR8 z d g p λC B n c=>⟨v,f,n,c,m⟩⟩
def bBk (v:X.A.units+1<cLine)(hi:PE X i ty)(ho:PE X o td):PC X .In i o (bDa ty td):=by intro b s σ H Q I h;refine thn (hi b s σ H _ I h) λz f ⟨y,c,r,n,q⟩=>thn (ho b f σ c _ r q) λu t ⟨x,d,j,k,a,p,e,g,l⟩=>?_;subst e;obtain rfl:u=Value.ref a:=k;exact bE0 v j g n λw m=>⟨.bl p.isSome,d,m,rfl,l⟩
def aQ5 (v:X.A.units+1<cLine)(hi:PE X i ty)(ho:PE X o td):PC X .NotIn i o (aO5 ty td):=by intro b s σ H Q I h;refine thn (hi b s σ H _ I h) λz f ⟨y,c,r,n,q⟩=>thn (ho b f σ c _ r q) λu t ⟨x,d,j,k,a,p,e,g,l⟩=>?_;subst e;obtain rfl:u=Value.ref a:=k;exact aWo v j g n λw m=>⟨.bl (!p.isSome),d,m,rfl,l⟩
def aXx (K:X.A.units+1<cLine)(ho:PE X o td)(hi:PE X i ty)(J:PE X value tv)(E:swapsWith value (some (.Subscript o i pos')) pos.line X.env=pure false) :
  PS X (.Assign [.Subscript o i pos'] value pos) (aZx td ty tv):=by
 intro b s σ H D I h;refine wpAny_Assign_Subscript (thn (J b s σ H _ I h) λr p ⟨v,d,C,w,l⟩=>thn (ho b p σ d _ C l) λu c ⟨x,m,e,q,f⟩=>thn (hi b c σ m _ e f) λG L ⟨y,F,j,B,a,t,n,g,k⟩=>?_) E;subst n;obtain rfl:u=Value.ref a:=q;exact aRz K j g B w λM z=>⟨σ,t,z,k⟩
end
def aKy (h:Heap)(a:sysModules<h.objs.size):cV P w H (h.push { cls:=.type "dict",data:=.dict #[] }) h.objs.size (.dK []):=
 ⟨bAC _,beq_eq_false_iff_ne.mpr (Ne.symm (v8 a)),[],.nil,Heap.DictOf.new h⟩
def aUc:TE:=λ_ H Q=>∀p,H p=none->Q (.ref p) (upd H p (.dK []))
section
variable {X:Cx}{pos:Pos}
def aVd:PE X (.Dict [] [] pos) aUc:=λa s σ H Q I h=>
 wpAny_Dict_empty ⟨.ref s.heap.objs.size,_,I.laid (t':=s.toks) (λ_ _ q=>c7 _ q) (d8 _) (aKy s.heap I.big),rfl,h _ (I.hok.fresh (d8 _))⟩
end
def aM7:List (TE × TE)->St->Hp->(List (V × V)->Hp->Prop)->Prop
 |[],_,H,Q=>Q [] H
 |(tk,tv)::r,σ,H,Q=>tk σ H λx H1=>tv σ H1 λy H2=>aM7 r σ H2 λps H3=>Q ((x,y)::ps) H3
abbrev VV:List (V × V)->List (Value × Value)->Prop:=Paired λp q=>RelV p.1 q.1/\RelV p.2 q.2
def PPs (X:Cx)(pos:Pos)(keys:List (Option Expr))(values:List Expr)(trs:List (TE × TE)):Prop:=
 ∀bF8 s σ H Q,Inv X bF8 σ H s->aM7 trs σ H Q ->
  wpAny (model X.prog X.w) X.A (evalPairs (pairTrees keys values X.env pos)) (λvs s'=>∃ps H',Inv X bF8 σ H' s'/\VV ps vs/\Q ps H') X.xe s
def aY5:PPs X pos [] [] []:=λa s σ H Q I h=>pairTrees_nil_walk ⟨[],H,I,.nil,h⟩
def aS5 (z:PE X k tk)(A:PE X v tv)(w:PPs X pos ks vs trs) :
  PPs X pos (some k::ks) (v::vs) ((tk,tv)::trs):=λa s σ H Q I h=>
 pairTrees_cons_walk (thn (z a s σ H _ I h) λu g ⟨x,e,r,j,q⟩=>thn (A a g σ e _ r q) λt c ⟨y,f,l,p,n⟩=>
  thn (w a c σ f _ l n) λB C ⟨d,m,o,b,i⟩=>⟨(x,y)::d,m,o,.cons ⟨j,p⟩ b,i⟩)
def mC (kvs more:List (Key × V)):List (Key × V):=more.foldl (λacc kv=>putK acc kv.1 kv.2) kvs
theorem KV.merge:∀{more:List (Key × V)} {rs:List (Key × Value)} {kvs:List (Key × V)} {vs:List (Key × Value)},KV more rs->KV kvs vs->KV (mC kvs more) (merged vs rs):=by
 intro more rs kvs vs r;unfold KV at r
 induction r generalizing kvs vs with
 |nil=>intro q;exact q
 |@cons p q ps qs h t ih=>
  intro a;have e:KV (putK kvs p.1 p.2) (stored vs q.1 q.2):=by have:=a.put p.1 h.2;rw[<-h.1];exact this
  exact ih e
theorem lV:∀more kvs,(mC kvs more).length<=kvs.length+more.length
 |[],kvs=>by show kvs.length<=kvs.length+0;lia
 |p::r,kvs=>by have a:=lV r (putK kvs p.1 p.2);have b:=pP kvs p.1 p.2;show (mC (putK kvs p.1 p.2) r).length<=_;rw[m8];lia
theorem aC5:∀{kvs:List (Key × V)} {ws:List (Value × Value)},VV (kvs.map λkv=>(kV kv.1,kv.2)) ws->∃rs,Carries (bI P w) ws rs/\KV kvs rs
 |[],_,r=>by rw[List.map_nil] at r;cases r;exact⟨[],True.intro,.nil⟩
 |p::kvs,_,r=>by
  rw[bAL] at r;cases r with
  |@cons a b as bs h t=>obtain⟨rs,c,q⟩:=aC5 t;obtain⟨e,d⟩:=b;exact⟨(p.1,d)::rs,⟨wA h.1,rfl,c⟩,.cons ⟨rfl,h.2⟩ q⟩
def aZr (trs:List (TE × TE)):TE:=fun σ H Q=>∀p,H p=none->aM7 trs σ (upd H p (.dK [])) λps H2=>H2 p=some (.dK [])/\∃kvs:List (Key × V),ps=kvs.map (λkv=>(kV kv.1,kv.2))/\kvs.length<=15/\Q (.ref p) (upd H2 p (.dK (mC [] kvs)))
def aWd {X:Cx}{pos:Pos}{keys:List (Option Expr)}{values:List Expr}{trs:List (TE × TE)}(h:PPs X pos keys values trs)(j:keys.all (·.isSome)=true)(J:keys.length=values.length)(K:keys≠[])
  (t:keys.length<=15):PE X (.Dict keys values pos) (aZr trs):=by
 intro f s σ H Q I q;have B:=I.hok.fresh (d8 s.heap.objs.size);have C:=I.laid (a:=s.heap.objs.size) (o:=.dK []) (h':=s.heap.push { cls:=.type "dict",data:=.dict #[] }) (t':=s.toks) (λ_ _ q=>c7 _ q) (d8 _) (aKy s.heap I.big);refine wpAny_Dict_walk (knd:=bI X.prog X.w) j J K t (thn (h f _ σ _ _ C (q _ B)) λL D ⟨F,G,i,g,e,d,r,E,v⟩=>?_);subst r;obtain⟨p,c,x⟩:=aC5 (P:=X.prog) (w:=X.w) g;obtain⟨z,hd,A,u,y⟩:=aIh i.hok e;cases u;refine⟨p,c,y,λh' b l=>⟨.ref s.heap.objs.size,_,?_,rfl,v⟩⟩;have n:(mC [] d).length<=sizeLine:=by have k:=lV d [];rw[bBS] at k;rw[sizeLine_eq];lia
 have m:∃q,h'.get? s.heap.objs.size=some q:=let ⟨q,_,_,hq,_⟩:=b;⟨q,hq⟩
 exact aA2 i (by rw[e];exact True.intro) l m (aNb n hd (x.merge .nil) b)
structure M1 (X:Cx)(o:Expr)(m:Str)(apos:Pos)(e:Expr)(cpos:Pos):Prop where
 base:attributeBase o m X.env (eval o X.env)=eval o X.env
 few:((backTo cpos (starEach [e] X.env)).all (λx=>!x.1) && (backToKw cpos (keywordEach [] X.env)).all (λx=>x.1.isSome)
  && decide (([e]:List Expr).length+([]:List Keyword).length+(if ([]:List Keyword).isEmpty then 0 else 1)<30))=true
 line:(apos.endLine == cpos.line)=true
 trees:backTo cpos (starEach [e] X.env)=[(false,eval e X.env)]
def IsD (H:Hp)(a:Addr):Prop:=(∃kvs,Rd H a (.dK kvs))\/∃kvs,Rd H a (.dT kvs)
def bBd (I:Inv X bF8 σ H s)(d:IsD H a) :
  s.TypeIs (.ref a) "dict"/\(∀b,Value.ref a=.ref b->∃ob,s.heap.get? b=some ob/\ob.dict=none)/\(a == sysModules)=false:=by
 rcases d with⟨h,e⟩|⟨h,e⟩
 ·obtain⟨_,hd,i,_,c⟩:=aCi I.hok e;refine⟨c.typeIs,λb q=>?_,hd⟩;cases q;obtain⟨ob,_,_,f,g,_⟩:=c;exact⟨ob,f,g.2.1⟩
 ·obtain⟨_,hd,j,_,c⟩:=aCu I.hok e;refine⟨c.typeIs,λb q=>?_,hd⟩;cases q;obtain⟨ob,_,_,f,g,_⟩:=c;exact⟨ob,f,g.2.1⟩
section
variable {X:Cx}{bF8:bF6}{σ:St}{H:Hp}{s:Shared}{a:Addr}{y d:V}{u r:Value}{o:Option V}{A:Around}{E:bF5}
def bCu (p:A.units+1<cLine)(I:Inv X bF8 σ H s)(g:aH9 H a y o)(m:RelV y u)(h:∀w' s',Inv X bF8 σ H s'->RelV (o.getD .non) w'->Q w' s') :
  wpAny (model X.prog X.w) A (call (.builtin "dict.get") [.ref a,u]) Q E s:=by
 rcases g with⟨i,k,e,f,l⟩|⟨i,k,b,e,f,eb,l⟩
 ·subst f;obtain⟨z,hd,n,c,d⟩:=aCi I.hok e;refine call_meetsIn PySem.F.slot_dict_get d.typeIs PySem.F.entry_dict_get (PySem.F.args_dict_get_2 _ _) (meets_dict_get (bI X.prog X.w) a (wA m) hd) ⟨_,d.mapOf,h _ _ (I.tok _) ?_⟩;rw[l];exact (c.val k).getD rfl
 ·subst f;cases (show u=Value.ref b from m);obtain⟨z,hd,j,c,d⟩:=aCu I.hok e;refine call_meetsIn PySem.F.slot_dict_get d.typeIs PySem.F.entry_dict_get (PySem.F.args_dict_get_2 _ _) (meetsH_dict_get (tupleKind (bI X.prog X.w)) a b hd) ⟨tupleKind_room_in1 p,k,j,yQ I.hok eb,d,h _ _ (I.tok _) ?_⟩;rw[l];exact (c.val k).getD rfl
end
def aV6 (td ty:TE):TE:=fun σ H Q=>td σ H λx H1=>∃a,x=.ref a/\IsD H1 a/\ty σ H1 λy H2=>∃o,aH9 H2 a y o/\Q (o.getD .non) H2
section
variable {X:Cx}{o e f:Expr}{apos cpos:Pos}{td ty tx:TE}
def aU7 (J:X.A.units+1<cLine)(ho:PE X o td)(C:PE X e ty)(m:M1 X o "get" apos e cpos):PE X (.Call (.Attribute o "get" apos) [e] [] cpos) (aV6 td ty):=by intro b s σ H Q I h;refine wpAny_Call_method m.base m.few m.line PySem.F.plainAttrs_dict PySem.F.slot_dict_get PySem.F.type_dict_get (thn (ho b s σ H _ I h) λu v ⟨x,j,f,w,a,t,d,p⟩=>?_);subst t;obtain rfl:u=Value.ref a:=w;obtain⟨i,r,_⟩:=bBd f d;refine⟨i,r,?_⟩;rw[m.trees];refine bDL rfl (bFK (bBY (thn (C b v σ j _ f p) λG B ⟨y,q,k,z,K,g,l⟩=>bET ?_)));exact bCu J k g z λE D n c=>⟨_,q,n,c,l⟩
end
section
variable {X:Cx}{bF8:bF6}{σ:St}{H:Hp}{s:Shared}{a:Addr}{kvs:List (Key × V)}{A:Around}{E:bF5}
end
section
variable {X:Cx}{bF8:bF6}{σ:St}{H:Hp}{s:Shared}{a:Addr}{y:V}{u:Value}{A:Around}{E:bF5}
end
section
variable {X:Cx}
end
section
variable {κ:Type}[DecidableEq κ]
def aY0 {c:List (κ × V)}{k:κ}{v:V}(h:nC c k=some v):k∈c.map (·.1):=by
 have q:(c.any λb=>decide (b.1=k))=true:=by rw[wL,h];all_goals rfl
 obtain⟨p,a,e⟩:=List.any_eq_true.mp q;exact List.mem_map.mpr ⟨p,a,of_decide_eq_true e⟩
end
structure VE (X:Cx)(e:Expr)(t:TE):Prop where
 out:PE X e t
structure VT (X:Cx)(e:Expr)(t:TT):Prop where
 out:PT X e t
structure VW (X:Cx)(e:Expr)(t:TT):Prop where
 out:PW X e t
structure VA (X:Cx)(es:List Expr)(t:TA):Prop where
 out:PA X es t
structure VS (X:Cx)(st:Stmt)(t:TS):Prop where
 out:PS X st t
structure VSs (X:Cx)(st:List Stmt)(t:TS):Prop where
 out:PSs X st t
structure VI (X:Cx)(tg iter:Expr)(t:TI):Prop where
 out:PI X tg iter t
structure VG (X:Cx)(tg:Expr)(t:TG):Prop where
 out:PG X tg t
structure VGs (X:Cx)(tg:List Expr)(t:TGs):Prop where
 out:PGs X tg t
structure VO (X:Cx)(e:Option Expr)(t:TO):Prop where
 out:PO X e t
structure VF (X:Cx)(ifs:List Expr)(t:TT):Prop where
 out:aQ7 X ifs t
structure VP (X:Cx)(pos:Pos)(keys:List (Option Expr))(values:List Expr)(trs:List (TE × TE)):Prop where
 out:PPs X pos keys values trs
section
variable {X:Cx}{a b c e:Expr}{es:List Expr}{ta tb tc te:TE}{t:TA}{tA tB':TT}{pos p:Pos}{x:Str}
def vv (i:Nat)(c:X.N[i]?=some x:=by rfl)(b:Vis X.env.scope x:=by trivial)(hd:(x == ("__debug__":Str))=false:=by decide)
  (a:(x == ("__classdict__":Str))=false:=by decide):VE X (.Name x pos) (rP i):=⟨pv i c b hd a⟩
def tM (a:Gl X x)(b:∃u,X.mg x=some u/\RelV v u)(hd:(x == ("__debug__":Str))=false:=by decide):VE X (.Name x pos) (tC v):=⟨bEh a b hd⟩
def fG (b:Gl X x)(d:X.mg x=none)(a:bootBuiltins x=some u)(r:RelV v u)(c:x≠"__name__":=by decide)(hd:(x == ("__debug__":Str))=false:=by decide):VE X (.Name x pos) (tC v):=⟨aZc b d a r c hd⟩
def aA {i j}:VE X (.Constant (.int i) j pos) (tC (.int i)):=⟨aZ4⟩
def fP {b j}:VE X (.Constant (.bool b) j pos) (tC (.bl b)):=⟨bEf⟩
def fU {j}:VE X (.Constant .none j pos) (tC .non):=⟨bCt⟩
def bB {x j}:VE X (.Constant (.str x) j pos) (tC (.str x)):=⟨bCk⟩
def bF (ho:OpR X (binaryOp op) r)(c:VE X a ta)(d:VE X b tb):VE X (.BinOp a op b pos) (tOp r ta tb):=⟨bEk ho c.1 d.1⟩
def aZd (ho:UnR X (unaryOp op) r)(b:VE X a ta):VE X (.UnaryOp op a pos) (tUn r ta):=⟨bD2 ho b.1⟩
def rH (ho:OpR X (compareOp op) r)(c:VE X a ta)(d:VE X b tb)(e:behindInMarks op b=false):VE X (.Compare a [op] [b] pos) (tOp r ta tb):=⟨aW2 ho c.1 d.1 e⟩
def aO6 (ho:OpR X (compareOp op) r)(c:VE X a ta)(d:VE X b tb)(e:behindInMarks op b=false):VT X (.Compare a [op] [b] pos) (aLo (tOp r ta tb)):=⟨aWk ho c.1 d.1 e⟩
def aSm (ho:OpR X (compareOp op) r)(d:OpR X (compareOp op') r')(e:VE X a ta)(g:VE X b tb)(f:VE X c tc)
  (h:lastMarks [op,op'] [b,c]=false:=by with_unfolding_all rfl):VE X (.Compare a [op,op'] [b,c] pos) (aG0 r r' ta tb tc):=⟨aVv ho d e.1 g.1 f.1 h⟩
def aCs (ho:OpR X (compareOp op) r)(d:OpR X (compareOp op') r')(e:VE X a ta)(g:VE X b tb)(f:VE X c tc)
  (h:lastMarks [op,op'] [b,c]=false:=by with_unfolding_all rfl):VT X (.Compare a [op,op'] [b,c] pos) (aLo (aG0 r r' ta tb tc)):=⟨aTt ho d e.1 g.1 f.1 h⟩
def gF {op}(h:VE X a te):VE X (.BoolOp op [a] pos) te:=⟨bBx h.1⟩
def iC (c:VE X a ta)(d:VE X (.BoolOp .And (b::rest) pos) tb):VE X (.BoolOp .And (a::b::rest) pos) (aZk ta tb):=⟨bCb c.1 d.1⟩
def aZe (c:VE X a ta)(d:VE X (.BoolOp .Or (b::rest) pos) tb):VE X (.BoolOp .Or (a::b::rest) pos) (bC6 ta tb):=⟨bDl c.1 d.1⟩
def bB5 (b:VE X a ta):VE X (.UnaryOp .Not a pos) (aZg ta):=⟨bBu b.1⟩
def aKi (f:VT X c tA)(e:VE X a ta)(d:VE X b tb):VE X (.IfExp c a b pos) (tIf tA ta tb):=⟨aV7 f.1 e.1 d.1⟩
def xR:VA X [] aAj:=⟨aTd⟩
def aH (c:VE X e te)(a:VA X es t)(b:cM e=true:=by rfl):VA X (e::es) (dI te t):=⟨bBs c.1 a.1 b⟩
def bDr (G:Ok X.prog X.w X.K X.mg X.base k x ps sp)(g:Room k X.A)(c:Gl X x)(f:VA X (e::es) t)(b:(x == ("__debug__":Str))=false:=by decide)
  (d:cM e=true:=by rfl) (a:(backTo pos (starEach es X.env)).any (·.1)=false:=by rfl) :
  VE X (.Call (.Name x p) (e::es) [] pos) (aCf sp [] E0 t):=⟨bDh G g c f.1 b (aM d) a⟩
def bA6 (G:Ok X.prog X.w X.K X.mg X.base k x ps sp)(b:Room k X.A)(c:Gl X x)(a:(x == ("__debug__":Str))=false:=by decide) :
  VE X (.Call (.Name x p) [] [] pos) (aCf sp [] E0 aAj):=⟨bAl G b c a⟩
def aL {id:String}{r:List V->Hp->VK->Prop}(d:cH X (.builtin id) r)(h:Gl X x)(g:X.mg x=none)(c:bootBuiltins x=some (.builtin id))(j:VA X (e::es) t)(f:x≠"__name__":=by decide)(b:(x == ("__debug__":Str))=false:=by decide)
  (i:cM e=true:=by rfl) (a:(backTo pos (starEach es X.env)).any (·.1)=false:=by rfl):VE X (.Call (.Name x p) (e::es) [] pos) (tCB r t):=⟨aVx d h g c j.1 f b (aM i) a⟩
def cC (d:cH X (.type T) r)(h:Gl X x)(g:X.mg x=none)(c:bootBuiltins x=some (.type T))(j:VA X (e::es) t)(f:x≠"__name__":=by decide)(b:(x == ("__debug__":Str))=false:=by decide)
  (i:cM e=true:=by rfl) (a:(backTo pos (starEach es X.env)).any (·.1)=false:=by rfl):VE X (.Call (.Name x p) (e::es) [] pos) (tCB r t):=⟨aQ0 d h g c j.1 f b (aM i) a⟩
def tG {o:Expr}{to:TE}{name:Str}{apos cpos:Pos}{T id:String}{r:V->List V->Hp->VK->Prop}(j:PlainAttrs T)(slot:Slot T name id)(f:typeOf (.builtin id)=pure (.type "method_descriptor"))(g:MtR X id r)(ho:VE X o to)(i:VA X (e::es) t)
  (b:attributeBase o name X.env (eval o X.env)=eval o X.env:=by rfl)
  (d:((backTo cpos (starEach (e::es) X.env)).all (λx=>!x.1) && (backToKw cpos (keywordEach [] X.env)).all (λx=>x.1.isSome)
   && decide ((e::es).length+([]:List Keyword).length+(if ([]:List Keyword).isEmpty then 0 else 1)<30))=true:=by rfl)
  (c:(apos.endLine == cpos.line)=true:=by rfl) (h:cM e=true:=by rfl) (a:(backTo cpos (starEach es X.env)).any (·.1)=false:=by rfl) :
  VE X (.Call (.Attribute o name apos) (e::es) [] cpos) (tBM X.K T r to t):=⟨bC9 j slot f g ho.1 i.1 b d c (aM h) a⟩
def pJ (e:VE X a ta)(f:VE X b tb)(d:aJe b) :
  VE X (.Subscript a b pos) (tOp (λx y H Q=>∃z i c,x=.str z/\y=.int i/\0<=i/\i<2 ^ 63/\i<z.length/\z.cps[i.toNat]?=some c/\Q (.str ⟨#[c]⟩) H) ta tb):=⟨aJw e.1 f.1 d⟩
def fB:VO X none aOn:=⟨aWj⟩
def dW (h:VE X e te):VO X (some e) (aZo te):=⟨aW4 h.1⟩
def dC {r:V->Option Int->Option Int->Hp->VK->Prop}{lo hi:Option Expr}{tl th:TO}{p2:Pos}(d:SlR X r)(b:VE X e te)(a:VO X lo tl)(c:VO X hi th):VE X (.Subscript e (.Slice lo hi none p2) pos) (tSl r te tl th):=⟨aVl d b.1 a.1 c.1⟩
def bDd (c:IxR X r)(e:VE X a ta)(f:VE X b tb)(d:aGl b):VE X (.Subscript a b pos) (tOp r ta tb):=⟨bDk c e.1 f.1 d⟩
def aVc:VE X (.Dict [] [] pos) aUc:=⟨aVd⟩
def aX0:VP X pos [] [] []:=⟨aY5⟩
def aUx (a:VE X k tk)(b:VE X v tv)(c:VP X pos ks vs trs):VP X pos (some k::ks) (v::vs) ((tk,tv)::trs):=⟨aS5 a.1 b.1 c.1⟩
def aYb (h:VP X pos keys values trs)(a:keys.all (·.isSome)=true)(c:keys.length=values.length)(d:keys≠[])(b:keys.length<=15):VE X (.Dict keys values pos) (aZr trs):=⟨aWd h.1 a c d b⟩
theorem VE.imp {t t':TE}(h:VE X e t)(k:∀σ H Q,t' σ H Q->t σ H Q):VE X e t':=⟨PE.imp h.1 k⟩
def aFx (b:VT X a tA):VW X (.BoolOp .And [a] pos) tA:=⟨aYn b.1⟩
def dZ (b:VT X a tA):VW X (.BoolOp .Or [a] pos) tA:=⟨bC0 b.1⟩
def aF0 (c:VT X a tA)(d:VW X (.BoolOp .And (b::rest) pos) tB'):VW X (.BoolOp .And (a::b::rest) pos) (bDu tA tB'):=⟨bBe c.1 d.1⟩
def fK (c:VT X a tA)(d:VW X (.BoolOp .Or (b::rest) pos) tB'):VW X (.BoolOp .Or (a::b::rest) pos) (tOr tA tB'):=⟨bD0 c.1 d.1⟩
theorem VW.pt (h:VW X e tA):VT X e tA:=⟨h.1.pt⟩
def cF (b:VT X a tA):VT X (.UnaryOp .Not a pos) (bAw tA):=⟨aZ5 b.1⟩
def bW (h:VE X e te)(a:∀whole,isTrue e X.env whole=(do let v <-whole;standAt e.pos;holding [v] (truthy v)):=by intro _;rfl):VT X e (tB te):=⟨bCz h.1 a⟩
def aJk (b:VE X a ta)(c:∀whole,isTrue a X.env whole=(do let v <-whole;standAt a.pos;holding [v] (truthy v)):=by intro _;rfl) :
  VT X a (fun σ H Q=>ta σ H λx H'=>∃k,bCq X.K x H' k/\Q k H'):=⟨aSy b.1 c⟩
variable {st:Stmt}{rest:List Stmt}{u w':TS}
def aU:VSs X [] tD:=⟨aY7⟩
def aB (a:VS X st u)(b:VSs X rest w'):VSs X (st::rest) (aDz u w'):=⟨aSk a.1 b.1⟩
def aD (a:VS X st u):VSs X [st] u:=⟨aWg a.1⟩
def aJ (a:VE X e te):VS X (.Return (some e) pos) (rA te):=⟨bBr a.1⟩
def bM {a b:List Stmt}(d:VT X c tA)(e:VSs X a u)(f:VSs X b w'):VS X (.If c a b pos) (aG3 tA u w'):=⟨bDw d.1 e.1 f.1⟩
def bB6 (d:X.N.Nodup)(hi:X.N[i]?=some x)(c:Loc X.env.scope x)(f:VE X e te)(a:swapsWith e (some (.Name x pos')) pos.line X.env=pure false:=by rfl)(b:X.fn x=true\/X.env.scope.names.lookup x=some .local:=by first|exact .inl rfl|exact .inr rfl|assumption) :
  VS X (.Assign [.Name x pos'] e pos) (aBs te (bO i)):=⟨bAv d hi c f.1 a b⟩
def dJ (b:VE X e te)(a:swapsWith e none pos.line X.env=pure false:=by rfl):VS X (.Expr e pos) (aIn te):=⟨aP0 b.1 a⟩
def iQ {tg iter:Expr}{body:List Stmt}{wi:TI}{g:TG}{tb:TS}(d:PassesOwn (model X.prog X.w) X.A X.env X.xe)(b:X.calm=true)(hi:VI X tg iter wi)(c:VG X tg g)(e:VSs X body tb)
  (a:∀x,foldedSetIterable iter X.env x=pure x:=by intro _;rfl):VS X (.For tg iter body [] pos) (bAy wi g tb):=⟨bA2 d b hi.1 c.1 e.1 a⟩
def bJ (a:X.N.Nodup)(hi:X.N[i]?=some x)(c:Loc X.env.scope x)(b:X.fn x=true\/X.env.scope.names.lookup x=some .local:=by first|exact .inl rfl|exact .inr rfl|assumption):VG X (.Name x pos) (bO i):=⟨aXf a hi c b⟩
def eQ:VGs X [] aQd:=⟨aXe⟩
def aX {t:TG}{u:TGs}(a:VG X e t)(c:VGs X es u)(b:(assignEach (e::es) X.env).map (·.2)=assign e X.env::(assignEach es X.env).map (·.2):=by rfl):VGs X (e::es) (sW t u):=⟨aS8 a.1 c.1 b⟩
def uJ {k:Nat}{t:TGs}{n:Nat}(b:X.calm=true)(h:VGs X es t)(c:(assignEach es X.env).length=n:=by rfl)(a:(assignEach es X.env).findIdx? (·.1)=none:=by rfl):VG X (.Tuple es k pos) (aNd X.K n t):=⟨bCj b h.1 c a⟩
variable {tg:Expr}
def eO (h:VE X e te):VI X tg e (aFh X.K te):=⟨aXc h.1⟩
def pM (h:VE X e te):VI X tg e (aX7 X.K te):=⟨bCc h.1⟩
def aSp (h:VE X e te):VI X tg e (bB9 te):=⟨bA7 h.1⟩
def fZ (b:Gl X "range")(e:X.mg "range"=none)(d:VA X [a] t)(c:cM a=true:=by rfl):VI X tg (.Call (.Name "range" p) [a] [] pos) (aTa t):=⟨aQ3 b e d.1 (aM c)⟩
def fW:VF X [] mJ:=⟨aZ3⟩
def lM (h:VT X c tA):VF X [c] tA:=⟨aZ1 h.1⟩
def cI
  (C:yR scope N) (b:∀y,(y,NameKind.free)∈scope.names->X.env.kindOf y=some .cell\/X.env.kindOf y=some .free) (d:X.calm=true)
  (hi:VI X target iter wi)
  (a:∀cl s H fp,VG (cxC X N scope cl s H fp) target g/\VF (cxC X N scope cl s H fp) ifs tt/\VE (cxC X N scope cl s H fp) elt te)
  (c:∀x,foldedSetIterable iter X.env x=pure x:=by intro _;rfl) :
  VE X (.ListComp elt [⟨target,iter,ifs,0⟩] scope pos) (jD X scope N wi g tt te):=
 ⟨aXp C b d hi.1 (λcl s H fp=>⟨(a cl s H fp).1.1,(a cl s H fp).2.1.1,(a cl s H fp).2.2.1⟩) c⟩
end
section
variable {P:Program}{w:World}{K:bF4}{mg:bF7}{base:Heap}
def Fun.okV {x qual:Str}{st:Stmt}{f:Addr}{fd:FuncData}{N ps:List Str}{k:Nat}{sp:Sp}(F:Fun K x qual st f fd)(S:aG N ps (aC st))(c:∀vs H Q E,sp vs H Q E->vs.length=ps.length)
  (a:∀(cdv:Value) (A:Around) (outer:List Env) (s:Shared) (H:Hp) (vs:List V) (Q:VK) (E:XK),Room k (A.deeper (envOfC qual (aC st) s.heap.objs.size f cdv))->sp vs H Q E ->
   ∃t,VSs (xF CX0 P w K mg base N qual (aC st) f cdv A outer s H E).nox (cX st) t/\t { nx:=λ_ H'=>Q .non H',rt:=Q } (start N vs) H):gJ P w K mg base CX0 (k+1) f fd ps sp:=
 F.ok S c λcdv A outer s H vs Q E b h=>let ⟨t,h1,h2⟩:=a cdv A outer s H vs Q E b h;⟨t,h1.1,h2⟩
def Ok.ofV {x:Str}{st:Stmt}{N ps:List Str}{k:Nat}{sp:Sp}(D:Dn K mg x st ps)(S:aG N ps (aC st))(c:∀vs H Q E,sp vs H Q E->vs.length=ps.length)
  (a:∀(f:Addr) (cdv:Value) (A:Around) (outer:List Env) (s:Shared) (H:Hp) (vs:List V) (Q:VK) (E:XK),Room k (A.deeper (envOfC x (aC st) s.heap.objs.size f cdv))->sp vs H Q E ->
   ∃t,VSs (xF CX0 P w K mg base N x (aC st) f cdv A outer s H E).nox (cX st) t/\t { nx:=λ_ H'=>Q .non H',rt:=Q } (start N vs) H):Ok P w K mg base (k+1) x ps sp:=
 Ok.of D S c λf cdv A outer s H vs Q E b h=>let ⟨t,h1,h2⟩:=a f cdv A outer s H vs Q E b h;⟨t,h1.1,h2⟩
end
def Held (P:Program)(w:World)(K:bF4)(mg:bF7)(base:Heap)(k:Nat)(f:Addr)(ps:List Str)(sp:Sp):Prop:=
 ∃fd,PySem.W.keepIn K (.ref f)=true/\Binds K fd ps []/\gJ P w K mg base CX0 k f fd ps sp
def Ok.held {P:Program}{w:World}{K:bF4}{mg:bF7}{base:Heap}{k:Nat}{x:Str}{ps:List Str}{sp:Sp}(G:Ok P w K mg base k x ps sp):∃f,mg x=some (.ref f)/\Held P w K mg base k f ps sp:=by obtain⟨f,b,a,e,c,d⟩:=G;exact⟨f,a,b,e,c,d⟩
section
variable {X:Cx}{x:Str}{p pos:Pos}{e:Expr}{es:List Expr}{te:TE}{t:TA}
def aTu (P:Program)(w:World)(K:bF4)(mg:bF7)(base:Heap)(k:Nat)(te:TE)(t:TA):TE:=fun σ H Q=>te σ H λv H1=>∃f ps sp,v=.ref f/\Held P w K mg base k f ps sp/\t σ H1 λvs H2=>sp vs H2 Q E0
def aWc (D:Room k X.A)(J:PE X (.Name x p) te)(N:PA X (e::es) t)
  (B:starEach (e::es) X.env=(false,eval e X.env)::starEach es X.env:=by rfl) (i:(backTo pos (starEach es X.env)).any (·.1)=false:=by rfl) :
  PE X (.Call (.Name x p) (e::es) [] pos) (aTu X.prog X.w X.K X.mg X.base k te t):=by
 intro a s σ H Q I h;refine bBK (thn (J a s σ H _ I h) λu l ⟨v,d,b,g,o⟩=>?_);obtain⟨f,z,L,rfl,⟨G,j,n,F⟩,q⟩:=o;obtain rfl:u=Value.ref f:=g;refine PySem.W.callWith_K b.ok.mod.kin j (thn (N pos a l σ d _ b q) λC y ⟨M,E,c,r,m⟩=>⟨c.kIn,?_⟩) B i;exact aBp F D n .nil aB0 c r (by simpa using m)
end
end L2
namespace PySem
end PySem
namespace L2
open PySem PySem.Spec PyProof.Rows
section
variable {X:Cx}
def aWf:OpR X (binaryOp .Add) (λx y H Q=>∃a b ys,x=.ref a/\y=.ref b/\SqT X.K H a []/\SqT X.K H b ys/\Q (.ref b) H):=by
 intro w s σ H x y v u Q I E L h;obtain⟨a,b,ys,rfl,rfl,G,J,q⟩:=h;cases E;cases L;obtain⟨p,A,r,_⟩:=I.tuple G;obtain⟨f,M,z,_⟩:=I.tuple J;cases A;obtain⟨⟨C,D,k,t⟩,o,m,n,hd⟩:=id r;obtain⟨⟨l,j,g,i⟩,d,c,B,e⟩:=id z;simp only at m hd c e;subst m hd c e;exact concat_meets ⟨_,o,rfl⟩ ⟨_,d,rfl⟩ noFill_tuple_add seq_tuple_add PySem.F.slot_tuple_add PySem.F.entry_tuple_add (PySem.F.args_tuple_add_2 _ _)
  (tuple_addW0 a b #[] f.toArray n B D j t i rfl) ⟨o,d,⟨.ref b,H,I,rfl,q⟩⟩
end
end L2
namespace PySem
section
variable {prog:Program}{w:World}
variable {A:Around}{E:bF5}{s:Shared}
abbrev cJ (led:Bool):Obj:={ cls:=.type "set",dict:=none,data:=.set #[] 0 (.fresh 0 0 led) }
end
end PySem
namespace L2
open PySem PySem.Spec PyProof.Rows
section
variable {X:Cx}
end
def jM (j:Nat)(e:(y,NameKind.free)∈scope.names)(f:X.N[j]?=some y)(d:σ[j]?=some (some v))(c:Vis X.env.scope y):Cap X scope [x,y] σ [none,some v]:=
 ⟨rfl,λi z u a b=>by
  match i,a,b with
  |0,_,b=>cases b
  |1,a,b=>cases a;cases b;exact⟨e,j,f,d,c⟩
  |i+2,a,_=>cases a⟩
def rD:Cap X scope [x,y] σ [none,none]:=⟨rfl,λi z u b a=>by
  match i,b,a with
  |0,_,a=>cases a
  |1,_,a=>cases a
  |i+2,b,_=>cases b⟩
section
variable {X:Cx}{a b e:Expr}{es:List Expr}{te:TE}{t:TA}{pos p:Pos}{x:Str}
def aWi (f:Room k X.A)(b:VE X (.Name x p) te)(d:VA X (e::es) t)(c:cM e=true:=by rfl)(a:(backTo pos (starEach es X.env)).any (·.1)=false:=by rfl) :
  VE X (.Call (.Name x p) (e::es) [] pos) (aTu X.prog X.w X.K X.mg X.base k te t):=⟨aWc f b.1 d.1 (aM c) a⟩
def aT5 {P:Program}{w:World}{K:bF4}{mg:bF7}{base:Heap}{k:Nat}(j:Room k X.A)(c:VE X (.Name x p) te)(h:VA X (e::es) t)(g:cM e=true:=by rfl)(a:(backTo pos (starEach es X.env)).any (·.1)=false:=by rfl)
  (b:X.prog=P:=by rfl) (l:X.w=w:=by rfl) (i:X.K=K:=by rfl) (f:X.mg=mg:=by rfl) (d:X.base=base:=by rfl) :
  VE X (.Call (.Name x p) (e::es) [] pos) (aTu P w K mg base k te t):=by
 subst b l i f d;exact aWi j c h g a
def bK {K:bF4}(h:X.K=K:=by rfl):IxR X (bC3 K):=by subst h;exact aP
def rK {K:bF4}{k:Nat}{u:TGs}{n:Nat}(b:X.calm=true)(h:VGs X es u)(d:(assignEach es X.env).length=n:=by rfl)(a:(assignEach es X.env).findIdx? (·.1)=none:=by rfl)(c:X.K=K:=by rfl):VG X (.Tuple es k pos) (aNd K n u):=by subst c;exact uJ b h d a
def aXs (d:Gl X "zip")(g:X.mg "zip"=none)(f:VA X [a,b] t)(e:cM a=true:=by rfl)(c:cM b=true:=by rfl) :
  VI X (.Tuple elts kt tp) (.Call (.Name "zip" p) [a,b] [] pos) (aVq X.K t):=⟨aY2 d g f.1 (aM e) (aM c)⟩
def jH (f:VE X e te)(c:VG X tg g)(a:swapsWithSole [tg] e pos.line X.env=pure false:=by rfl)(d:swappedStores [tg] e X.env=pure none:=by rfl)
  (b:(assignEach [tg] X.env).map (·.2)=[assign tg X.env]:=by rfl):VS X (.Assign [tg] e pos) (aBs te g):=⟨bAc f.1 c.1 a d b⟩
end
section
variable {X:Cx}
def bE9:V->Option Int->Option Int->Hp->VK->Prop:=λx lo hi H Q=>∃z,x=.str z/\z.length<=sizeLine/\Q (.str (Txt.slice z lo hi)) H
theorem aGg:SlR X bE9:=by
 intro e s σ H x v J K B r g Q I D n C m h;obtain⟨z,rfl,p,q⟩:=h;obtain⟨t,rfl⟩:=D;have a:∀l u:Option (Int × Tok),l.map (·.1)=B->u.map (·.1)=r->s.heap.IsSlice g l u none->wpAny (model X.prog X.w) X.A (getItem (.str z t) (.ref g)) (EP X e σ Q) X.xe s:=λl u y E d=>by subst y E;refine wpAny_getItem_str_slice d rfl ?_;unfold sliceMade;have f:=Txt.slice_le z (l.map (·.1)) (u.map (·.1));exact post_val_or_str ⟨bAE f p,λG k=>⟨.str (Txt.slice z (l.map (·.1)) (u.map (·.1))),H,I.tok _,⟨_,rfl⟩,q⟩⟩
 refine⟨"str",_,F.slot_str_getitem.lookup,typeIs_str _ _ _,?_⟩;obtain⟨o,c,b,hd⟩:=n;cases C with
 |none=>
  cases m with
  |none=>exact a none none rfl rfl ⟨o,c,b,hd⟩
  |int j u=>exact a none (some (j,u)) rfl rfl ⟨o,c,b,hd⟩
 |int i t=>
  cases m with
  |none=>exact a (some (i,t)) none rfl rfl ⟨o,c,b,hd⟩
  |int j u=>exact a (some (i,t)) (some (j,u)) rfl rfl ⟨o,c,b,hd⟩
end
def aV2 {x:Str}{j:Nat}(h:j<=x.length):(Txt.slice x none (some (j:Int))).cps.toList=x.cps.toList.take j:=by have e:=StrLaws.sliceText_to (x:=x) (j:=(j:Int)) ⟨by lia,by rw[v4];exact Int.ofNat_le.mpr h⟩;show (StrLaws.sliceText x none (some (j:Int))).cps.toList=_;rw[e];simp
def aNg {x:Str}{j:Nat}(h:j<=x.length):(Txt.slice x (some (j:Int)) none).cps.toList=x.cps.toList.drop j:=by have e:=StrLaws.sliceText_from (x:=x) (i:=(j:Int)) ⟨by lia,by rw[v4];exact Int.ofNat_le.mpr h⟩;show (StrLaws.sliceText x (some (j:Int)) none).cps.toList=_;rw[e];simp only[bAQ];refine bAW ?_;rw[bBT];lia
def put (x:Str)(a:Nat)(c:Nat):Str:=Txt.slice x none (some (a:Int))++⟨#[c]⟩++Txt.slice x (some (a:Int)) none
def aHa (h:a<=x.length):(put x a c).cps.toList=x.cps.toList.take a++c::x.cps.toList.drop a:=by show ((Txt.slice x none (some (a:Int))).cps++#[c]++(Txt.slice x (some (a:Int)) none).cps).toList=_;rw[bDA,bDA,aV2 h,aNg h];simp
def aX5 (h:a<=x.length)(e:put x a c=put x a d):c=d:=by have b:=congrArg (λy:Str=>y.cps.toList) e;simp only[aHa h] at b;have f:=List.append_cancel_left b;exact (List.cons.inj f).1
def aYi {x:Str}{a c:Nat}(h:a<=x.length):(put x a c).length=x.length+1:=by
 have e:=congrArg List.length (aHa (c:=c) h);have l:x.length=x.cps.toList.length:=by rw[v4];rfl
 rw[v4,w6,m8,bAI,bBT] at e;show (put x a c).cps.size=_;lia
def aXz (h:a<=x.length)(m:d∈(put x a c).cps):d=c\/d∈x.cps:=by
 have b:=Array.mem_toList_iff.mpr m;rw[aHa h] at b;rcases List.mem_append.mp b with z|z
 ·exact .inr (Array.mem_toList_iff.mp (bDV z))
 ·rcases List.mem_cons.mp z with z|z
  ·exact .inl z
  ·exact .inr (Array.mem_toList_iff.mp (List.mem_of_mem_drop z))
section
variable {X:Cx}{scope:Scope}{N:List Str}{wi:TI}{te:TE}{σ:St}{H:Hp}{Q:VK}
end
section
variable {X:Cx}{e:Expr}{es:List Expr}{t:TA}{pos:Pos}
def bDe (t:TA):TE:=fun σ H Q=>t σ H λxs H1=>xs.length<=sizeLine/\∀p H',H1 p=none->Same H1 H'->H' p=some (.tup xs)->Q (.ref p) H'
def bD8 (t:TA):TE:=fun σ H Q=>t σ H λxs H1=>xs.length<=sizeLine/\∀p H',H1 p=none->Same H1 H'->H' p=some (.lst xs)->Q (.ref p) H'
def bAr:TE:=λ_ H Q=>∀p H',H p=none->Same H H'->H' p=some (.dK [])->Q (.ref p) H'
def cN {x1}(h:VA X es t):VE X (.Tuple es x1 pos) (bDe t):=⟨by intro c s σ H Q I k;refine wpAny_Tuple_spliced (thn (h.1 pos c s σ H _ I k) λi a ⟨j,g,f,r,z,q⟩=>⟨by rw[<-r.length];exact z,?_⟩);have d:=f.hok.fresh (d8 _);refine⟨.ref a.heap.objs.size,upd g a.heap.objs.size (.tup j),f.laid (t':=a.toks) (λb u e=>c7 _ e) (d8 _) ?_,rfl,q _ _ d (aW d _) aF⟩;exact⟨z,i,r,.of (j8 _ rfl) rfl ⟨_,j8 _ rfl,rfl,_,rfl⟩⟩⟩
def cY (h:VA X es t):VE X (.List es pos) (bD8 t):=⟨by intro c s σ H Q I k;refine wpAny_List_spliced (thn (h.1 pos c s σ H _ I k) λi a ⟨j,g,f,r,z,q⟩=>⟨by rw[<-r.length];exact z,?_⟩);have d:=f.hok.fresh (d8 _);refine⟨.ref a.heap.objs.size,upd g a.heap.objs.size (.lst j),f.laid (t':=a.toks) (λb u e=>c7 _ e) (d8 _) ?_,rfl,q _ _ d (aW d _) aF⟩;exact⟨z,i,0,r,j8 _ rfl⟩⟩
def aVr:VE X (.Dict [] [] pos) bAr:=VE.imp aVc fun σ H Q h p a=>h p _ a (aW a _) aF
def OpR.imp (h:OpR X f r)(k:∀x y H Q,r' x y H Q->r x y H Q):OpR X f r':=λa s σ H x y v u Q I c b q=>h a s σ H x y v u Q I c b (k _ _ _ _ q)
def cH.imp (h:cH X f r)(k:∀xs H Q,r' xs H Q->r xs H Q):cH X f r':=λa s σ H xs c Q I b q=>h a s σ H xs c Q I b (k _ _ _ q)
def bD5 (K:bF4):R2:=λx y H Q=>∃a b xs ys,x=.ref a/\y=.ref b/\SqT K H a xs/\SqT K H b ys/\xs.length+ys.length<=sizeLine/\∀r H',Same H H'->SqT K H' r (xs++ys)->Q (.ref r) H'
def wJ:OpR X (binaryOp .Add) (bD5 X.K):=OpR.imp (aZa.or aWf) λx y H Q ⟨a,b,f,e,g,i,c,d,j,q⟩=>by
 by_cases h:f=[]
 ·subst h;exact .inr ⟨a,b,e,g,i,c,d,q b H (Same.refl H) d⟩
 ·refine .inl ⟨a,b,f,e,g,i,c,d,h,j,λz=>?_,λ_ p k=>q p _ (aW k _) (SqT.of aF)⟩;subst z;exact q a H (Same.refl H) (by rw[bBB];exact c)
def bE1 (K:bF4):V->Option Int->Option Int->Hp->VK->Prop:=λx lo hi H Q=>∃a xs,x=.ref a/\SqT K H a xs /\
 ¬ (HT.sIx xs.length 0 lo=0/\HT.sIx xs.length xs.length hi=xs.length)/\∀p H',Same H H'->H' p=some (.tup (mZ xs lo hi))->Q (.ref p) H'
def aAu:SlR X (bE1 X.K):=λb s σ H x v d k r h j Q I i c f o ⟨a,g,e,n,l,q⟩=>
 bAm b s σ H x v d k r h j Q I i c f o ⟨a,g,e,n,l,λp m=>q p _ (aW m _) aF⟩
def bCp:R2:=λx y H Q=>∃l b xs zs,x=.ref l/\y=.ref b/\H l=some (.lst xs)/\H b=some (.lst zs)/\xs.length+zs.length<=sizeLine/\∀p H',H p=none->Same H H'->H' p=some (.lst (xs++zs))->Q (.ref p) H'
def pI:OpR X (binaryOp .Add) bCp:=OpR.imp bB4 λx y H Q ⟨l,b,c,f,h,g,d,i,e,q⟩=>⟨l,b,c,f,h,g,d,i,e,λp a=>q p _ a (aW a _) aF⟩
def aT2 (K:bF4):List V->Hp->VK->Prop:=λxs H Q=>∃p ys,xs=[.ref p]/\(SqL K H p ys\/SqT K H p ys)/\∀l H',H l=none->Same H H'->H' l=some (.lst ys)->Q (.ref l) H'
def nA:cH X (.type "list") (aT2 X.K):=cH.imp aGw λc H Q ⟨p,b,e,h,q⟩=>⟨p,b,e,h,λl a=>q l _ a (aW a _) aF⟩
def aX9 (K:bF4):List V->Hp->VK->Prop:=λxs H Q=>∃p ys,xs=[.ref p]/\SqL K H p ys/\∀l H',H l=none->Same H H'->H' l=some (.tup ys)->Q (.ref l) H'
def lD:cH X (.type "tuple") (aX9 X.K):=cH.imp aDo λc H Q ⟨p,b,e,h,q⟩=>⟨p,b,e,.inl ⟨h,λl a=>q l _ a (aW a _) aF⟩⟩
def nH:MtR X "list.append" aOu:=aFp
def gG (f:H D=none)(s:Same H H'):Same H (upd H' D o):=λb u e=>by rw[aK (aQ e f)];exact s _ _ e
end
end L2
namespace PySem
section
variable {prog:Program}{w:World}{A:Around}{E:bF5}{s:Shared}{T:String}{r d:Addr}{n:Nat}{P:Nat->Value->Prop}{OK:Heap->Prop}
end
end PySem
namespace L2
open PySem PySem.Spec PyProof.Rows
section
variable {X:Cx}
end
section
variable {X:Cx}{bF8:bF6}{σ:St}{H:Hp}{s:Shared}
end
def Ite (K:bF4)(l:Addr)(xs:List V):It:=
 ⟨λi H=>SqL K H l xs/\i<xs.length,λi H v H'=>∃T a,H T=none/\v=.ref T/\H'=upd H T (.tup [.int (i:Nat),a])/\xs[i]?=some a,λi H=>SqL K H l xs/\xs.length<=i⟩
def etn (e it l:Addr)(i:Nat)(h:Heap):Prop:=(∃old,IsEnum h e it (i:Int) old)/\h.IsListIter it l i
def aQu {P:Program}{w:World}{K:bF4}{elts:List Expr}{kt:Nat}{pos:Pos}{e it l:Addr}{xs:List V}(B:e≠it) :
  Turn P w K (.Tuple elts kt pos) (Ite K l xs) [e,it] e (etn e it l) where
 mem:=by simp
 obj:=λi h g b a=>by
  obtain⟨⟨c,d⟩,o,j,c2,d2⟩:=g;simp only[bAN,bAB,or_false] at a;rcases a with rfl|rfl
  ·exact⟨_,d,λv z=>by cases (show Data.fields _=Data.cell v from z)⟩
  ·exact⟨_,j,λv z=>by rw[d2] at z;cases z⟩
 keep:=λi h n g k=>by obtain⟨⟨c,d⟩,o,j,r⟩:=g;exact⟨⟨c,k e (by simp) _ d⟩,o,k it (by simp) _ j,r⟩
 item:=by
  intro X C p u L i f s σ H E I m g t;subst C p u;obtain⟨⟨c,d⟩,j⟩:=g;obtain⟨A,Q⟩:=t;obtain⟨its,D,y,hz⟩:=I.list A;obtain⟨x,hx,rx⟩:=D.get (b8 Q);have Y:=m e (by simp);have fi:=m it (by simp);refine wpAny_pyNext_enum_item d j y.isList (by simpa using hx) B λn R T S a4 G=>?_;refine⟨_,rfl,?_⟩;have fT:H s.heap.objs.size=none:=I.hok.fresh (d8 _);obtain⟨oi,q,_⟩:=id j;obtain⟨Z,J,_⟩:=id T;have I1:Inv X f σ (upd H s.heap.objs.size (.tup [.int (i:Nat),xs[i]])) { s with heap:=n }:=by
   refine I.drawn (ch:=[e,it]) (its:=[.int i s.toks,x]) (λb a=>m b a) (λb o a z=>?_) (d8 _) (.cons ⟨_,rfl⟩ (.cons rx .nil)) (small (by simp)) (.of S rfl ⟨_,S,rfl,_,rfl⟩) (λb a=>?_)
   ·simp only[bAN,bAB,or_false,not_or] at a;exact G b o a.1 a.2 z
   ·simp only[bAN,bAB,or_false] at a;rcases a with rfl|rfl
    ·exact⟨_,R⟩
    ·exact⟨_,J⟩
  have F:Inv X f σ (upd H s.heap.objs.size (.tup [.int (i:Nat),xs[i]])) { s with heap:=n,toks:=s.toks+1 }:=I1.tok _;have N:∀b∈[e,it],b≠s.heap.objs.size:=λb a=>by
   simp only[bAN,bAB,or_false] at a;rcases a with rfl|rfl
   ·exact v8 (j9 d)
   ·exact v8 (j9 q)
  refine wpAny_letOwnedTupleGo_enum (s:={ s with heap:=n,toks:=s.toks+1 }) R λh2 z2 O=>?_;obtain⟨g0,U,g2,g3,g4,W⟩:=Y;have I2:Inv X f σ (upd H s.heap.objs.size (.tup [.int (i:Nat),xs[i]])) { s with heap:=h2,toks:=s.toks+1 }:=Inv.turned (s:={ s with heap:=n,toks:=s.toks+1 }) F (t':=s.toks+1) (it:=e) (λb o a z=>(O.2 b a).trans z) (by rw[aK (N e (by simp))];exact g0) U g3 g4 W;refine⟨.ref s.heap.objs.size,_,I2,rfl,⟨_,_,fT,rfl,rfl,b8 Q⟩,⟨⟨x,?_⟩,?_⟩,λb a=>by rw[aK (N b a)];exact (m b a).1⟩
  ·rw[show ((i+1:Nat):Int)=(i:Int)+1 from by lia];exact z2
  ·obtain⟨o,ho,r⟩:=T;exact⟨o,(O.2 it (Ne.symm B)).trans ho,r⟩
 done:=by intro X C p u L i f s σ H E I m g t;subst C p u;obtain⟨⟨c,d⟩,j⟩:=g;obtain⟨A,hi⟩:=t;obtain⟨its,D,y,hz⟩:=I.list A;have M:=D.length;refine wpAny_pyNext_enum_end (I.ok.hd L) d j y.isList (by simp;lia) λn G=>⟨rfl,?_⟩;refine Inv.aOp (ch:=[it]) I (λb a=>m b (j5 _ a)) λb o a z=>G b o (by simpa using a) z
 self:=λ_ _ _ _ _ g h=>by obtain⟨⟨c,d⟩,_⟩:=g;exact wpAny_pyIter_enum d h
section
variable {X:Cx}
def aZw (K:bF4)(ta:TA):TI:=fun σ H R=>ta σ H λvs H1=>∃l xs,vs=[.ref l]/\SqL K H1 l xs/\R (Ite K l xs) H1
def aYo (D:Gl X "enumerate")(E:X.mg "enumerate"=none)(M:PA X [a] ta)(z:starEach [a] X.env=[(false,eval a X.env)]:=by rfl) :
  PI X (.Tuple elts kt tp) (.Call (.Name "enumerate" p) [a] [] pos) (aZw X.K ta):=by
 intro f s σ H R I h;refine Call_ (qK I D E aGf (bCB (thn (M pos f s σ H _ I h) λA i ⟨L,k,d,r,t⟩=>?_) z (by rfl)));obtain⟨l,B,e,w,q⟩:=t;subst e;obtain⟨m,G,v,C⟩:=d.list w;obtain⟨u,rfl,x⟩:=vals1 r;cases x;refine call_enumerate_list v.isList λJ g y F o=>?_;have n:=d.kept (t':=i.toks) o;refine wpAny_pyIter_enum g ⟨_,_,_,_,k,rfl,n,aQu (bCM (bCU _)),⟨⟨_,g⟩,y⟩,λb j=>?_,q⟩;have c:i.heap.objs.size<=b:=by
  simp only[bAN,bAB,or_false] at j;rcases j with rfl|rfl
  ·exact bCR _
  ·exact d8 _
 exact d.aLe c (d.hok.fresh c)
def aTl {K:bF4}{l:Addr}{xs:List V}{g:TG}{tb:TS}{D:Ends}{σ:St}{H:Hp}(h:Nat->St->Hp->Prop)(n:h 0 σ H)(f:∀i σ H,i<=xs.length->h i σ H->SqL K H l xs)
  (k:∀i σ H a T H',xs[i]?=some a->h i σ H->H T=none->H'=upd H T (.tup [.int (i:Nat),a])->g (.ref T) σ H' fun σ2 H2=>tb { D with nx:=h (i+1),ct:=h (i+1),bk:=D.nx } σ2 H2) (hd:∀σ H,h xs.length σ H->D.nx σ H) :
  ∃W:Nat->Nat->St->Hp->Prop,(∃m,W 0 m σ H)/\∀i m σ H,W i m σ H ->
   ((Ite K l xs).stop i H/\D.nx σ H)\/((Ite K l xs).go i H/\∃N:St->Hp->Prop,(∀σ' H',N σ' H'->∃m',m'<m/\W (i+1) m' σ' H')/\∀x H',(Ite K l xs).yld i H x H'->g x σ H' fun σ2 H2=>tb { D with nx:=N,ct:=N,bk:=D.nx } σ2 H2):=by
 refine⟨λi m σ H=>m=xs.length - i/\i<=xs.length/\h i σ H,⟨xs.length,by simp,bAC _,n⟩,?_⟩;rintro i m σ H ⟨rfl,hi,p⟩;by_cases b:i<xs.length
 ·refine .inr ⟨⟨f i σ H hi p,b⟩,h (i+1),fun σ' H' d=>⟨xs.length - (i+1),by lia,rfl,b,d⟩,λx H' y=>?_⟩;obtain⟨T,a,c,rfl,e,j⟩:=y;exact k i σ H a T H' j p c e
 ·have e:i=xs.length:=by lia
  subst e;exact .inl ⟨⟨f _ σ H hi p,d8 _⟩,hd σ H p⟩
end
section
variable {X:Cx}{a c e:Expr}{st:Stmt}{body:List Stmt}{tc:TT}{tb:TS}{t:TA}{te:TE}{pos p:Pos}
def dY:VS X st aUp:=⟨aT6⟩
def aXg (b:Gl X "enumerate")(e:X.mg "enumerate"=none)(d:VA X [a] t)(c:cM a=true:=by rfl) :
  VI X (.Tuple elts kt tp) (.Call (.Name "enumerate" p) [a] [] pos) (aZw X.K t):=⟨aYo b e d.1 (aM c)⟩
def bA8 {o:Expr}{to:TE}{name:Str}{apos cpos:Pos}{T id:String}{r:V->List V->Hp->VK->Prop}(e:PlainAttrs T)(slot:Slot T name id)(c:typeOf (.builtin id)=pure (.type "method_descriptor"))(d:MtR X id r)(ho:VE X o to)
  (a:attributeBase o name X.env (eval o X.env)=eval o X.env:=by rfl) (b:(apos.endLine == cpos.line)=true:=by rfl):VE X (.Call (.Attribute o name apos) [] [] cpos) (bDo X.K T r to):=⟨bAj e slot c d ho.1 a b⟩
end
section
variable {P:Program}{w:World}{K:bF4}{mg:bF7}{base:Heap}
end
section
variable {X:Cx}{scope:Scope}{N:List Str}{wi:TI}{te:TE}{σ:St}{H:Hp}{Q:VK}
def aRq (xs:List V)(Rel:Nat->Hp->V->Prop)(F:∀{i H1 H2 y},Same H1 H2->Rel i H1 y->Rel i H2 y)(A:∀{i H1 D ys zs y},H1 D=some (.lst ys)->Rel i H1 y->Rel i (upd H1 D (.lst zs)) y)
  (p:St) (u:Cap X scope N σ p) (hsz:xs.length<=sizeLine)
  (C:∀R:It->Hp->Prop,(∀J:It,(∀H' i x,Same H H'->xs[i]?=some x->J.go i H'/\∀y H2,J.yld i H' y H2->H2=H'/\y=x)->(∀H',Same H H'->J.stop xs.length H')->R J H)->wi σ H R)
  (B:∀(i:Nat) (x:V),xs[i]?=some x->∀H' R l,Same H H'->(∀y H2,Same H' H2->Rel i H2 y->R y H2)->te ((p.set 0 l).set 0 (some x)) H' R) (G:p[0]?=some none)
  (q:∀D H' ys,Same H H'->H' D=some (.lst ys)->ys.length=xs.length->(∀(i:Nat) (y:V),ys[i]?=some y->Rel i H' y)->Q (.ref D) H') :
  jD X scope N wi (bO 0) mJ te σ H Q:=by
 refine⟨p,u,C _ λJ go stop D h=>?_⟩;refine⟨λi m k H' ys=>i<=xs.length/\m=xs.length - i/\(∃l,k=p.set 0 l)/\Same H H'/\H' D=some (.lst ys)/\ys.length=i/\∀j y,ys[j]?=some y->Rel j H' y,⟨xs.length,bAC _,rfl,⟨none,jQ G⟩,aW h _,aF,rfl,λj y e=>by simp at e⟩,?_⟩;rintro i m k H' ys ⟨hi,rfl,⟨l,rfl⟩,sm,hL,hl,hR⟩;refine⟨hL,?_⟩;by_cases a:i<xs.length
 ·right;obtain⟨t,s⟩:=go H' i xs[i] sm (b8 a);refine⟨t,λx H2 v=>?_⟩;obtain⟨rfl,rfl⟩:=s x H2 v;unfold bO mJ;dsimp only;rw[if_pos rfl];refine B i xs[i] (b8 a) _ _ l sm λy E d r=>⟨d _ _ hL,by lia,xs.length - (i+1),by lia,a,rfl,⟨some xs[i],?_⟩,?_,aF,?_,?_⟩
  ·rw[bCD]
  ·intro b o e;rw[aK (aQ e h)];exact d _ _ (sm _ _ e)
  ·rw[w6,bFE,hl]
  ·intro j z c;refine A (d _ _ hL) ?_;by_cases w:j<ys.length
   ·rw[bBJ w] at c;exact F d (hR j z c)
   ·rw[bBG (by lia)] at c;have g:j - ys.length=0:=by
     by_cases n:j - ys.length=0
     ·exact n
     ·rw[bAA (by simp;lia)] at c;cases c
    have f:j=i:=by lia
    subst f;rw[g] at c;cases c;exact r
 ·left;have e:i=xs.length:=by lia
  subst e;exact⟨stop _ sm,q D _ ys sm hL hl hR⟩
def aWp (xs ys:List V)(k:ys.length=xs.length)(o:St)(j:Cap X scope N σ o)(n:xs.length<=sizeLine)
  (s:∀R:It->Hp->Prop,(∀J:It,(∀H' i x,Same H H'->xs[i]?=some x->J.go i H'/\∀y H2,J.yld i H' y H2->H2=H'/\y=x)->(∀H',Same H H'->J.stop xs.length H')->R J H)->wi σ H R)
  (p:∀(i:Nat) (x y:V),xs[i]?=some x->ys[i]?=some y->∀H' R l,Same H H'->(∀H2,Same H' H2->R y H2)->te ((o.set 0 l).set 0 (some x)) H' R) (u:o[0]?=some none)
  (q:∀D H',Same H H'->H' D=some (.lst ys)->Q (.ref D) H') :
  jD X scope N wi (bO 0) mJ te σ H Q:=by
 refine aRq xs (λi _ y=>ys[i]?=some y) (λ_ h=>h) (λ_ h=>h) o j n s (λi x d H' R l b r=>?_) u λD H' c b g t m=>?_
 ·have a:i<ys.length:=by rw[k];exact (List.getElem?_eq_some_iff.mp d).1
  exact p i x ys[i] d (b8 a) H' R l b λH2 f=>r _ H2 f (b8 a)
 ·have e:c=ys:=by
   refine bCC λi=>?_;by_cases a:i<c.length
   ·rw[m i c[i] (b8 a),b8 a]
   ·rw[bAA (by lia),bAA (by lia)]
  subst e;exact q D H' b g
end
section
variable {X:Cx}{tg e o i:Expr}{te td ty:TE}{pos:Pos}
def aAv (b:X.A.units+1<cLine)(ho:VE X o td)(hi:VE X i ty)(a:bBq i):VE X (.Subscript o i pos) (aZl td ty):=⟨aWl b ho.1 hi.1 a⟩
end
def aEy (b:X.A.units+1<cLine)(hi:VE X i ty)(ho:VE X o td)(a:behindInMarks .NotIn o=false:=by first|exact nobehind _ (by decide) (by decide)|rfl):VT X (.Compare i [.NotIn] [o] pos) (tB (aO5 ty td)):=⟨aVh (aQ5 b hi.1 ho.1) a⟩
end L2
namespace L2
open PySem PySem.Spec PyProof.Rows
def sel {α:Type}(p:Nat->Bool):Nat->List α->List α
 |_,[]=>[]
 |i,x::r=>if p i then x::sel p (i+1) r else sel p (i+1) r
theorem aBi {α:Type}(p:Nat->Bool)(x:α):∀k xs,sel p k (xs++[x])=sel p k xs++(if p (k+xs.length) then [x] else [])
 |k,[]=>by show (if p k then x::sel p (k+1) [] else sel p (k+1) [])=[]++(if p (k+0) then [x] else []);rw[Nat.add_zero,bEJ];rfl
 |k,y::r=>by
  show (if p k then y::sel p (k+1) (r++[x]) else sel p (k+1) (r++[x]))=(if p k then y::sel p (k+1) r else sel p (k+1) r)++_;rw[aBi p x (k+1) r,m8,show k+1+r.length=k+(r.length+1) by lia]
  split <;> rfl
theorem aFz {α:Type}(p:Nat->Bool):∀(k:Nat) (xs:List α),(sel p k xs).length<=xs.length
 |_,[]=>d8 _
 |k,y::r=>by
  have:=aFz p (k+1) r;show (if p k then y::sel p (k+1) r else sel p (k+1) r).length<=r.length+1
  split
  ·rw[m8];lia
  ·lia
section
variable {X:Cx}{scope:Scope}{N:List Str}{wi:TI}{te:TE}{σ:L2.St}{H:Hp}{Q:VK}
end
def aY9 {X:Cx}{i0:Nat}{x0:Str}{c spos:Pos}{W h d:Expr}{R:List Expr}{scope:Scope}{pos:Pos}{N:List Str}{wi:TI}{g:TG}{tt:TT}{te:TE}
  (hN:X.N.Nodup) (U:X.N[i0]?=some x0) (O:Loc X.env.scope x0) (C:yR scope N) (K:∀y,(y,NameKind.free)∈scope.names->X.env.kindOf y=some .cell\/X.env.kindOf y=some .free) (hc:X.calm=true)
  (hi:PI X h d wi)
  (B:∀cl s H fp,PG (cxC X N scope cl s H fp) h g/\aQ7 (cxC X N scope cl s H fp) R tt/\PE (cxC X N scope cl s H fp) W te)
  (Y:∀x,foldedSetIterable d X.env x=pure x:=by intro _;rfl) (P:swapsWith (.ListComp W [⟨h,d,R,0⟩] scope pos) (some (.Name x0 c)) spos.line X.env=pure true:=by rfl)
  (hf:X.fn x0=true\/X.env.scope.names.lookup x0=some .local:=by first|exact .inl rfl|exact .inr rfl|assumption) :
  PS X (.Assign [.Name x0 c] (.ListComp W [⟨h,d,R,0⟩] scope pos) spos) (aBs (jD X scope N wi g tt te) (bO i0)):=by
 intro f s σ H Dn I j;rw[exec_Assign_Name_used _ _ _ _ P];refine b7 (bEC (b7 ?_));show wpAny _ X.A (do let _ <-comprehension (.ListComp W [⟨h,d,R,0⟩] scope pos) scope X.env _ (newList []) false (eval d X.env) (some (assign (.Name x0 c) X.env))) _ _ s;refine b7 (bAX (aFi (use:=some (assign (.Name x0 c) X.env)) (QQ:=λ_ t=>SP X f Dn .next t) C K hc hi B Y I j λD p u i ⟨T,m⟩ k fp Q=>?_)
  (λ_ t j=>d7 (d7 j)) λ_ _ e=>e)
 have M:Inv X f σ u i:=k i.heap λ_ _ _ e=>e;obtain⟨S,q,Z,E,r,G⟩:=fp;show wpAny (model X.prog X.w) X.A (assign (.Name x0 c) X.env (.ref D)) _ _ i;refine wpAny_assign_Name (aE5 M hN U O (v:=.ref D) rfl (λJ L ⟨a,F,V⟩=>?_) hf);have n:p≠a:=by
  rcases V with z|z
  ·rw[z];exact q
  ·exact λe=>r x0 a z e.symm
 refine⟨T,m.sameBut F n,λh' l=>?_⟩;exact⟨_,u,Inv.turned L (t':=J.toks) (it:=p) (λb o B e=>l.extBut b o B e) S q E r G,Q⟩
def aOg
  (j:X.N.Nodup) (e:X.N[i0]?=some x0) (b:Loc X.env.scope x0) (C:yR scope N) (d:∀y,(y,NameKind.free)∈scope.names->X.env.kindOf y=some .cell\/X.env.kindOf y=some .free) (i:X.calm=true)
  (hi:VI X target iter wi)
  (a:∀cl s H fp,VG (cxC X N scope cl s H fp) target g/\VF (cxC X N scope cl s H fp) ifs tt/\VE (cxC X N scope cl s H fp) elt te)
  (f:∀x,foldedSetIterable iter X.env x=pure x:=by intro _;rfl) (c:swapsWith (.ListComp elt [⟨target,iter,ifs,0⟩] scope pos) (some (.Name x0 pos')) spos.line X.env=pure true:=by rfl)
  (h:X.fn x0=true\/X.env.scope.names.lookup x0=some .local:=by first|exact .inl rfl|exact .inr rfl|assumption) :
  VS X (.Assign [.Name x0 pos'] (.ListComp elt [⟨target,iter,ifs,0⟩] scope pos) spos) (aBs (jD X scope N wi g tt te) (bO i0)):=
 ⟨aY9 j e b C d i hi.1 (λcl s H fp=>⟨(a cl s H fp).1.1,(a cl s H fp).2.1.1,(a cl s H fp).2.2.1⟩) f c h⟩
section
variable {te:TE}{H:Hp}{Q:VK}
def aM9 (xs:List V)(Rel:Nat->Hp->V->Prop)(B:∀{i H1 H2 y},Same H1 H2->Rel i H1 y->Rel i H2 y)(w:∀{i H1 D ys zs y},H1 D=some (.lst ys)->Rel i H1 y->Rel i (upd H1 D (.lst zs)) y)
  (v:St) (hsz:xs.length<=sizeLine)
  (J:It) (E:∀H' i x,Same H H'->xs[i]?=some x->J.go i H'/\∀y H2,J.yld i H' y H2->H2=H'/\y=x) (k:∀H',Same H H'->J.stop xs.length H')
  (A:∀(i:Nat) (x:V),xs[i]?=some x->∀H' R l,Same H H'->(∀y H2,Same H' H2->Rel i H2 y->R y H2)->te ((v.set 0 l).set 0 (some x)) H' R) (C:v[0]?=some none)
  (q:∀D H' ys,Same H H'->H' D=some (.lst ys)->ys.length=xs.length->(∀(i:Nat) (y:V),ys[i]?=some y->Rel i H' y)->Q (.ref D) H') :
  ∀D,H D=none->∃W:Nat->Nat->St->Hp->List V->Prop,(∃m,W 0 m v (upd H D (.lst [])) []) /\
   ∀i m σ' H' ys,W i m σ' H' ys->H' D=some (.lst ys)/\((J.stop i H'/\Q (.ref D) H')\/(J.go i H'/\∀x H2,J.yld i H' x H2->bO 0 x σ' H2 fun σ3 H3=>mJ σ3 H3 λb H4=>
    if b=true then te σ3 H4 λy H5=>H5 D=some (.lst ys)/\ys.length<sizeLine/\∃m',m'<m/\W (i+1) m' σ3 (upd H5 D (.lst (ys++[y]))) (ys++[y]) else H4 D=some (.lst ys)/\∃m',m'<m/\W (i+1) m' σ3 H4 ys)):=by
 intro D h;refine⟨λi m σ' H' ys=>i<=xs.length/\m=xs.length - i/\(∃l,σ'=v.set 0 l)/\Same H H'/\H' D=some (.lst ys)/\ys.length=i/\∀j y,ys[j]?=some y->Rel j H' y,⟨xs.length,bAC _,rfl,⟨none,jQ C⟩,aW h _,aF,rfl,λj y e=>by simp at e⟩,?_⟩;rintro i m σ' H' ys ⟨hi,rfl,⟨l,rfl⟩,sm,hL,hl,hR⟩;refine⟨hL,?_⟩;by_cases a:i<xs.length
 ·right;obtain⟨s,r⟩:=E H' i xs[i] sm (b8 a);refine⟨s,λx H2 t=>?_⟩;obtain⟨rfl,rfl⟩:=r x H2 t;unfold bO mJ;dsimp only;rw[if_pos rfl];refine A i xs[i] (b8 a) _ _ l sm λy H3 d p=>⟨d _ _ hL,by lia,xs.length - (i+1),by lia,a,rfl,⟨some xs[i],?_⟩,?_,aF,?_,?_⟩
  ·rw[bCD]
  ·intro b o e;rw[aK (aQ e h)];exact d _ _ (sm _ _ e)
  ·rw[w6,bFE,hl]
  ·intro j z c;refine w (d _ _ hL) ?_;by_cases u:j<ys.length
   ·rw[bBJ u] at c;exact B d (hR j z c)
   ·rw[bBG (by lia)] at c;have g:j - ys.length=0:=by
     by_cases n:j - ys.length=0
     ·exact n
     ·rw[bAA (by simp;lia)] at c;cases c
    have f:j=i:=by lia
    subst f;rw[g] at c;cases c;exact p
 ·left;have e:i=xs.length:=by lia
  subst e;exact⟨k _ sm,q D _ ys sm hL hl hR⟩
end
section
variable {K:bF4}
def aNa (g:∀H',Same H H'->SqL K H' a xs):∀H' i x,Same H H'->xs[i]?=some x->(Itl K a).go i H'/\∀y H2,(Itl K a).yld i H' y H2->H2=H'/\y=x:=λH' i x s e=>
 ⟨⟨xs,x,g H' s,e⟩,λy H2 c=>by obtain⟨f,d⟩:=c;have b:=d xs (g H' s);rw[e] at b;cases b;exact⟨f,rfl⟩⟩
def aB2 (b:∀H',Same H H'->SqL K H' a xs):∀H',Same H H'->(Itl K a).stop xs.length H':=λH' s=>⟨xs,b H' s,d8 _⟩
end
section
variable {X:Cx}{K:bF4}{scope:Scope}{N:List Str}{tl te:TE}{σ:L2.St}{H:Hp}{Q:VK}
def aQt (Pr:List V->Prop)(Rel:Nat->Hp->V->Prop)(o:∀{i H1 H2 y},Same H1 H2->Rel i H1 y->Rel i H2 y)(j:∀{i H1 D ys zs y},H1 D=some (.lst ys)->Rel i H1 y->Rel i (upd H1 D (.lst zs)) y)
  (d:L2.St) (f:Cap X scope N σ d) (n:d[0]?=some none)
  (m:∀R:VK,(∀D H1 us,Same H H1->H1 D=some (.lst us)->Pr us->R (.ref D) H1)->tl σ H R)
  (h:∀us,Pr us->us.length<=sizeLine)
  (k:∀us,Pr us->∀(i:Nat) (x:V),us[i]?=some x->∀H' R l,Same H H'->(∀y H2,Same H' H2->Rel i H2 y->R y H2)->te ((d.set 0 l).set 0 (some x)) H' R)
  (q:∀us,Pr us->∀D H' ys,Same H H'->H' D=some (.lst ys)->ys.length=us.length->(∀(i:Nat) (y:V),ys[i]?=some y->Rel i H' y)->Q (.ref D) H') :
  jD X scope N (aFh K tl) (bO 0) mJ te σ H Q:=
 ⟨d,f,m _ λD H1 us c b p=>⟨D,rfl,⟨us,SqL.of b⟩,aM9 us Rel o j d (h us p) (Itl K D) (aNa λH' a=>SqL.of (a _ _ b)) (aB2 λH' a=>SqL.of (a _ _ b))
  (λi x e H' R l a r=>k us p i x e H' R l (c.trans a) r) n λg H' ys a=>q us p g H' ys (c.trans a)⟩⟩
end
def SqT.jA {K:bF4}{H:Hp}{a D:Addr}{xs ys zs:List V}(b:H D=some (.lst ys))(h:SqT K H a xs):SqT K (upd H D (.lst zs)) a xs:=by
 rcases h with (h|⟨o,h⟩)|h
 ·exact .inl (.inl (by rw[aK (aJ8 h b (by intro z;cases z))];exact h))
 ·exact .inl (.inr ⟨o,by rw[aK (aJ8 h b (by intro z;cases z))];exact h⟩)
 ·exact .inr h
end L2
namespace PySem
end PySem
namespace L2
open PySem PySem.Spec PyProof.Rows
def classAt:Stmt->Nat->Stmt
 |.ClassDef _ _ _ body _ _ _ _ _ _ _,j=>body.getD j (.Pass ⟨0,0,0,0⟩)
 |st,_=>st
structure aVn (K:bF4)(mg:bF7)(x:Str)(C:Addr):Prop where
 at_:mg x=some (.ref C)
 cls:Cls K C
 mks:PySem.W.makesIn K C=true
 kp:PySem.W.keepIn K (.ref C)=true
def eG (K:bF4)(C:Addr)(m qual:Str)(st:Stmt)(ps:List Str):Prop:=∃f fd,Meth K C m f/\Fun K m qual st f fd/\Binds K fd ps []
section
variable {P:Program}{w:World}{K:bF4}{mg:bF7}{base:Heap}
def OkM (P:Program)(w:World)(K:bF4)(mg:bF7)(base:Heap)(C:Addr)(k:Nat)(m:Str)(ps:List Str)(sp:Sp):Prop:=
 ∃f fd,Cls K C/\Meth K C m f/\Binds K fd ps []/\gJ P w K mg base CX0 k f fd ps sp
theorem OkM.mono (h:OkM P w K mg base C j m ps sp)(g:j<=k):OkM P w K mg base C k m ps sp:=by obtain⟨f,b,a,e,c,d⟩:=h;exact⟨f,b,a,e,c,d.mono g⟩
def OkM.ofV {C:Addr}{m qual:Str}{st:Stmt}{N ps:List Str}{k:Nat}{sp:Sp}(c:Cls K C)(D:eG K C m qual st ps)(S:aG N ps (aC st))(g:∀vs H Q E,sp vs H Q E->vs.length=ps.length)
  (a:∀(f:Addr) (cdv:Value) (A:Around) (outer:List Env) (s:Shared) (H:Hp) (vs:List V) (Q:VK) (E:XK),Room k (A.deeper (envOfC qual (aC st) s.heap.objs.size f cdv))->sp vs H Q E ->
   ∃t,VSs (xF CX0 P w K mg base N qual (aC st) f cdv A outer s H E).nox (cX st) t/\t { nx:=λ_ H'=>Q .non H',rt:=Q } (start N vs) H):OkM P w K mg base C (k+1) m ps sp:=by
 obtain⟨f,d,b,F,B⟩:=D;exact⟨f,d,c,b,B,Fun.okV F S g λcdv A outer s H vs Q E e h=>a f cdv A outer s H vs Q E e h⟩
def OkC (P:Program)(w:World)(K:bF4)(mg:bF7)(base:Heap)(C:Addr)(k:Nat)(x:Str)(ps:List Str)(sp:Sp):Prop:=
 ∃f fd,mg x=some (.ref C)/\Mk K C f/\Binds K fd ps []/\gJ P w K mg base CX0 k f fd ps sp
theorem OkC.mono (h:OkC P w K mg base C j x ps sp)(g:j<=k):OkC P w K mg base C k x ps sp:=by obtain⟨f,b,a,e,c,d⟩:=h;exact⟨f,b,a,e,c,d.mono g⟩
def OkM.make (c:aVn K mg x C)(h:OkM P w K mg base C k "__init__" ps sp):OkC P w K mg base C k x ps sp:=by obtain⟨f,b,g,a,d,e⟩:=h;exact⟨f,b,c.at_,⟨c.mks,a.at_,a.fn,c.kp⟩,d,e⟩
end
section
variable {X:Cx}{e o value:Expr}{es:List Expr}{f m x:Str}{p pos pos' apos:Pos}{ta tv:TE}{t:TA}{C:Addr}{k:Nat}{ps:List Str}{sp:Sp}
def cT {K:bF4}(a:VE X e ta)(b:attributeBase e f X.env (eval e X.env)=eval e X.env:=by rfl)(h:X.K=K:=by rfl):VE X (.Attribute e f pos) (bDn K ta f):=by subst h;exact⟨bCy a.1 b⟩
def aC8 {K:bF4}(c:VE X o ta)(a:VE X value tv)(b:swapsWith value (some (.Attribute o f pos')) pos.line X.env=pure false:=by rfl)(h:X.K=K:=by rfl):VS X (.Assign [.Attribute o f pos'] value pos) (bEu K ta tv f):=by subst h;exact⟨bBh c.1 a.1 b⟩
def aYq (G:OkM X.prog X.w X.K X.mg X.base C k m ps sp)(p:Room k X.A)(j:VE X o ta)(n:VA X (e::es) t)
  (l:cM e=true:=by rfl) (c:(backTo pos (starEach es X.env)).any (·.1)=false:=by rfl)
  (h:eval (.Call (.Attribute o m apos) (e::es) [] pos) X.env=(do
   let ov <-eval o X.env
   standAt apos.atName
   let (f,first) <-holding [ov] (getMethod ov m pl)
   callWith pos f first (backTo pos (starEach (e::es) X.env)) (backToKw pos (keywordEach [] X.env))):=by rfl):VE X (.Call (.Attribute o m apos) (e::es) [] pos) (aLq C m sp [] E0 ta t):=by
 obtain⟨f,i,a,g,d,b⟩:=G;exact⟨aWb j.1 a g b p d .nil aB0 n.1 (aM l) c h⟩
def aTy (G:OkM X.prog X.w X.K X.mg X.base C k m ps sp)(i:Room k X.A)(h:VE X o ta)
  (e:eval (.Call (.Attribute o m apos) [] [] pos) X.env=(do
   let ov <-eval o X.env
   standAt apos.atName
   let (f,first) <-holding [ov] (getMethod ov m pl)
   callWith pos f first (backTo pos (starEach [] X.env)) (backToKw pos (keywordEach [] X.env))):=by rfl):VE X (.Call (.Attribute o m apos) [] [] pos) (aLq C m sp [] E0 ta aAj):=by
 obtain⟨f,g,a,d,c,b⟩:=G;exact⟨aTg h.1 a d b i c .nil aB0 e⟩
def aP5 (G:OkC X.prog X.w X.K X.mg X.base C k x ps sp)(n:Room (k+1) X.A)(j:Gl X x)(m:VA X (e::es) t)(h:(x == ("__debug__":Str))=false:=by decide)(l:cM e=true:=by rfl)(c:(backTo pos (starEach es X.env)).any (·.1)=false:=by rfl) :
  VE X (.Call (.Name x p) (e::es) [] pos) (aZq C sp [] E0 t):=by
 obtain⟨f,i,a,g,d,b⟩:=G;exact⟨aXj g b n j a d .nil aB0 m.1 h (aM l) c⟩
end
end L2
namespace PySem
open Sem (wp)
section
variable {M:Model}{prog:Program}{w:World}{A:Around}{E:bF5}{R:Result->Shared->Prop}{h:Heap}{g:Array GenState}{d:Drawn}{t:Nat}{os:OsState}
variable {nm q:Str}{C N:Addr}{bs bm bmN:List Value}{hdct:Bool}{sn:List Str}{sub:List Value}{ab:Bool}{col:Option Bool}{dd:Option Addr}{k0 k1 k2 k3 k5:Option Value}{Bn newId inN:String}
def aJg (e:ExcBaseFacts Bn newId inN bmN)(f:bm.contains (.type Bn)=true){rest:List Value}{Q:Unit->Shared->Prop}(c:h.get? C=some (excClassObj nm q C N bs bm hdct sn sub ab col dd k0 k1 k2 k3 k5 newId))
  (i:Q () ⟨h,g,d,t,os⟩):wpAny M A (checkBuiltinCall newId ⟨.ref C::rest,[]⟩) Q E ⟨h,g,d,t,os⟩:=by
 have a:(Value.ref C::bm).contains (.type Bn)=true:=by rw[bCK,f,bFQ]
 have b:=e.noStar;simp only[checkBuiltinCall,e.newKind,e.newSplit,e.newRow]
 repeat (first|refine bBV c ?_|(refine bDB c ?_;rw[a])|refine wpAny_staticBase_exc c ?_|refine wpAny_madeBy_exc c ?_|simp only[bne_self_eq_false,bAU,if_false]|wp_step)
 exact i
def bDb (c:ExcBaseFacts Bn newId inN bmN)(k:bm.contains (.type Bn)=true)(l:bm.contains (.type "AttributeError")=false)(m:bm.contains (.type "NameError")=false){rest:List Value}(j:h.get? C=some (excClassObj nm q C N bs bm hdct sn sub ab col dd k0 k1 k2 k3 k5 newId))
  (n:R (.ok (.ret (.ref (h.objs.size+1)))) ⟨(h.push { cls:=.type "tuple",data:=.seq rest.toArray }).push
   { cls:=.ref C,data:=.fields #[.ref h.objs.size,.none,.none,.none,.bool false,.none] },g,d,t,os⟩) (hrest:rest.length<=sizeLine:=by size_fits) :
  codeAny (model prog w) A (.builtin newId ⟨.ref C::rest,[]⟩) R ⟨h,g,d,t,os⟩:=by
 have f:=c.ends;have a:(Value.ref C::bm).contains (.type Bn)=true:=by rw[bCK,k,bFQ]
 have b:(Value.ref C::bm).contains (.type "AttributeError")=false:=by rw[bCK,l];rfl
 have i:(Value.ref C::bm).contains (.type "NameError")=false:=by rw[bCK,m];rfl
 refine codeAny_builtinAt c.entry ?_;unfold Builtin.«BaseException.__new__»;refine wpAt_bind ?_;refine wpAt_bind (wpAt_stack λp e=>wpAt_of_wpAny ?_);wp_walk;refine wpAt_of_wpAny ?_;rw[c.owner]
 repeat (first|with_reducible refine wpAny_madeHere_exc c.canon j ?_|with_reducible refine bBV j ?_|(with_reducible refine bDB j ?_;first|rw[a]|rw[b]|rw[i])|wp_step)
 rw[bBL];exact n
end
end PySem
namespace L2
open PySem PySem.Spec PyProof.Rows
def aJ0:List Value->Bool
 |.ref _::r=>aJ0 r
 |l=>l == [.type "ValueError",.type "Exception",.type "BaseException",.type "object"]
theorem wY (a:Value):∀{l:List Value},aJ0 l=true->refuseLoop a "__setattr__" l=pure ()
 |[],e=>absurd e (by decide)
 |.ref c::r,e=>by rw[refuseLoop_ref];exact wY a e
 |.none::r,e|.bool _::r,e|.int _ _::r,e|.str _ _::r,e|.float _ _::r,e|.bytes _ _::r,e|.builtin _::r,e|.type _::r,e=>by have q:=beq_iff_eq.mp e;rw[q];exact PySem.F.store_ValueError.passes a
structure XC (K:bF4)(C fI:Addr):Prop where
 at_:∃nm q N bs bm sn sub ab col dd k0 k1 k2 k3 k5,K.lookup C=some (excClassObj nm q C N bs bm true sn sub ab col dd k0 k1 k2 k3 k5 "ValueError.__new__")/\bm.contains (.type "ValueError")=true /\
  bm.contains (.type "AttributeError")=false/\bm.contains (.type "NameError")=false/\bm.contains (.type "BaseException")=true
 init:PySem.W.findIn K (.ref C) "__init__"=some (some (.ref fI))
 fn:PySem.W.typeIn K (.ref fI)=some (.type "function")
 row:(PySem.W.clsIn K C).any (λcd=>aJ0 cd.mro && cd.hasDict)=true
 sa:PySem.W.findIn K (.ref C) "__setattr__"=some (some (.builtin "object.__setattr__"))
 ga:PySem.W.findIn K (.ref C) "__getattribute__"=some (some (.builtin "BaseException.__getattribute__"))
 hook:PySem.W.findIn K (.ref C) "__getattr__"=some none
 act:PySem.W.findIn K (.ref C) "act"=some none
 cls:PySem.W.findIn K (.ref C) "__class__"=some (some (.builtin "object.__class__"))
section
variable {prog:Program}{w:World}{A:Around}{E:bF5}{h:Heap}{g:Array GenState}{d:Drawn}{t:Nat}{os:OsState}{K:bF4}{C fI:Addr}
def aKp (X:K.In h)(c:XC K C fI){a:List Value}{Q:Fin->Shared->Prop}
  (O:∀h' e,Heap.MadeExcOf h h' e (.ref C) a->e=h.objs.size+1->h'.get? h.objs.size=some { cls:=.type "tuple",data:=.seq a.toArray } ->
   wpAny (model prog w) A (call (.ref fI) (.ref e::a)) (λr s'=>r=.none/\Q (.done (.ret (.ref e))) s') E ⟨h',g,d,t,os⟩) (m:a.length<=sizeLine) :
  wpAny (model prog w) A (Builtin.«type.__call__» ⟨.ref C::a,[]⟩) Q E ⟨h,g,d,t,os⟩:=by
 obtain⟨⟨nm,q,N,T,I,V,J,Z,u,S,M,P,U,Y,R,z,p,D,G,L⟩,y,B,_⟩:=c;have j:=X _ _ z;have F:=PySem.F.excBase_ValueError
 repeat (first|with_reducible refine bBV j ?_|with_reducible refine wpAny_madeBy_exc j ?_|wp_step)
 refine codeAny_call_builtin_code (Code.quiet_builtin _ F.quiet) (aJg F p j ?_);refine bDb F p D G j ?_ m;show wpAny _ _ _ _ _ _;have l:∀b o,h.get? b=some o->((h.push { cls:=.type "tuple",data:=.seq a.toArray }).push { cls:=.ref C,data:=.fields #[.ref h.objs.size,.none,.none,.none,.bool false,.none] }).get? b=some o:=
  λb o e=>c7 _ (c7 _ e)
 have k:=l _ _ j;have s:=X.keeps l;have i:((h.push { cls:=.type "tuple",data:=.seq a.toArray }).push
   { cls:=.ref C,data:=.fields #[.ref h.objs.size,.none,.none,.none,.bool false,.none] }).get? (h.objs.size+1)=some
   { cls:=.ref C,data:=.fields #[.ref h.objs.size,.none,.none,.none,.bool false,.none] }:=by heap_get
 have f:((h.push { cls:=.type "tuple",data:=.seq a.toArray }).push
   { cls:=.ref C,data:=.fields #[.ref h.objs.size,.none,.none,.none,.bool false,.none] }).get? h.objs.size=some { cls:=.type "tuple",data:=.seq a.toArray }:=c7 _ (Heap.get?_push_at rfl rfl)
 have n:(Value.ref C::I).contains (.ref C)=true:=by simp
 unfold isInstance
 repeat (first|with_reducible refine bBV i ?_|(with_reducible refine bDB k ?_;rw[n])|wp_step)
 show wpAny _ _ (typeLookup (.ref C) _) _ _ _;refine (PySem.W.looks_findIn s y).at ?_;refine bAR (b7 ?_);unfold bindSpecial;refine b7 ((PySem.W.looks_typeIn s B).at ?_);rw[if_pos (by decide)];refine d7 (b7 (bAX (O _ (h.objs.size+1) ⟨l,bDS (bCR _),h.objs.size,i,bDS (d8 _),f⟩ rfl f) (λr s' v=>?_) λ_ _ x=>x));obtain⟨rfl,H⟩:=v;wp_walk;exact H
def x_call (X:K.In h)(c:XC K C fI)
  (D:∀h' e,Heap.MadeExcOf h h' e (.ref C) rest->e=h.objs.size+1->h'.get? h.objs.size=some { cls:=.type "tuple",data:=.seq rest.toArray } ->
   wpAny (model prog w) (A.under (.builtin "type.__call__" ⟨.ref C::rest,[]⟩)) (call (.ref fI) (.ref e::rest)) (λr s'=>r=.none/\Q (.ref e) s') E ⟨h',g,d,t,os⟩) (a:rest.length<=sizeLine) :
  wpAny (model prog w) A (call (.ref C) rest) Q E ⟨h,g,d,t,os⟩:=by
 obtain⟨nm,q,N,p,x,J,m,M,i,o,v,G,B,L,H,l,I,n,s,u⟩:=c.at_;have b:=X _ _ l;have F:=tc_lookup;have z:=tc_bind (.ref C);have y:(⟨h,g,d,t,os⟩:Shared).TypeIs (.ref C) "type":=⟨_,b,rfl⟩;refine bDJ (codeAny_of_tree ?_)
 repeat (any_goals (first|assumption|with_reducible refine bBV b ?_|wp_step))
 refine⟨rfl,?_⟩;refine codeAny_call_builtin_at (Code.quiet_builtin _ (by decide +kernel)) entry_typeCall (wpAny_check_type_call_sub b (aKp X c (λh' e j f k=>?_) a));exact D h' e j f k
end
def XO (e C:Addr)(d:Option Addr):HO:=.ext λh=>∃vs:Array Value,h.get? e=some { cls:=.ref C,dict:=d,data:=.fields vs }/\vs.size=6/\vs[1]?=some .none
def XO.at (x:HOk P w H h)(q:H e=some (XO e C d)):∃vs:Array Value,h.get? e=some { cls:=.ref C,dict:=d,data:=.fields vs }/\vs.size=6/\vs[1]?=some .none:=(x e _ q).1
def XO.ok (q:h.get? e=some { cls:=.ref C,dict:=d,data:=.fields vs })(z:vs.size=6)(n:vs[1]?=some .none):cV P w H h e (XO e C d):=
 ⟨⟨vs,q,z,n⟩,⟨_,q⟩,λg i ⟨f,a,b,c⟩ k=>⟨f,k _ a,b,c⟩⟩
def aW8 (K:bF4):PySem.W.findCls K (.type "ValueError") (.type "type") "__init__"=some (.val (.builtin "ValueError.__init__")):=
 show PySem.W.findCls [] (.type "ValueError") (.type "type") "__init__"=some (.val (.builtin "ValueError.__init__")) by kernel_rfl
section
variable {prog:Program}{w:World}{A:Around}{E:bF5}{s:Shared}{K:bF4}{C fI e:Addr}
def bBz (X:K.In s.heap)(c:XC K C fI)(l:s.heap.get? e=some { cls:=.ref C,dict:=dx,data:=.fields vs,slots:=sl })(B:0<vs.size)(O:vs[0]?=some u0)(S:rest.length<=sizeLine)
  (h:Q .none { s with heap:=(s.heap.push { cls:=.type "tuple",data:=.seq rest.toArray }).update e (Obj.mapFields (·.setIfInBounds 0 (.ref s.heap.objs.size))) }) :
  wpAny (model prog w) A (call (.builtin "ValueError.__init__") (.ref e::rest)) Q E s:=by
 obtain⟨nm,q,N,J,r,R,u,U,m,I,y,D,M,T,G,o,p,H,L,v⟩:=c.at_;have k:=X _ _ o;have F:=PySem.F.excBase_ValueError;obtain⟨P,g,d,t,z⟩:=s;have j:(Value.ref C::r).contains (.type "ValueError")=true:=by rw[bCK,p,bFQ]
 refine bDJ (bCZ F.init.plain F.initEntry ?_);have i:=F.noStar;simp only[checkBuiltinCall,F.initKind,F.initSplit,F.initRow]
 repeat (first|with_reducible refine bBV l ?_|with_reducible refine bBV k ?_|(with_reducible refine bDB k ?_;rw[j])|wp_step)
 refine bED ?_;rw[show ∀a b n,Bind.check ⟨.positional,"*","ValueError",.self,[⟨"args",.varPos,false⟩]⟩ a b n (List.map (λx=>x.fst) ({ pos:=Value.ref e::rest }:Args).kw)=pure () from
  λa b n=>check_star_args _ _ _ _ _ _]
 refine d7 ?_;unfold Builtin.«BaseException.__init__» newTuple;refine b7 (bAF ?_ (by show rest.toArray.size<=sizeLine;rw[d9];exact S));have f:=c7 { cls:=.type "tuple",data:=.seq rest.toArray } l;refine b7 ?_;unfold Builtin.BaseException.bexcPut;refine b7 (bAJ f rfl O ?_);refine b7 (bBW f rfl B ?_)
 split
 ·exact bFZ (d7 h)
 ·exact d7 (d7 h)
end
end L2
namespace L2
open PySem PySem.Spec PyProof.Rows Builtin Builtin.ObjectAttr
section
variable {prog:Program}{w:World}{A:Around}{E:bF5}{s:Shared}{K:bF4}{C fI e:Addr}
def aYh (X:K.In s.heap)(c:XC K C fI){vs:Array Value}{v:Value}{Q:Unit->Shared->Prop}(j:s.heap.get? e=some { cls:=.ref C,data:=.fields vs })
  (Y:∀h' t',h'.get? e=some { cls:=.ref C,dict:=some s.heap.objs.size,data:=.fields vs }->h'.Ns1 s.heap.objs.size (λy=>if y = "act" then some v else none) ->
   (∀b o,b≠e->s.heap.get? b=some o->h'.get? b=some o)->Q () { s with heap:=h',toks:=t' }) :
  wpAny (model prog w) A (setAttr (.ref e) "act" v) Q E s:=by
 have I:PySem.W.InstAt s.heap e { cls:=.ref C,data:=.fields vs } C none:=⟨j,rfl,rfl,trivial⟩;refine PySem.W.set_plain X I c.sa ?_;obtain⟨S,M,H⟩:=PySem.W.any_some c.row;obtain⟨N,hd⟩:=Bool.and_eq_true_iff.mp H;have m:=PySem.F.store_object;have SV:=PySem.F.store_ValueError;have U:PySem.W.Looks (model prog w) s.heap (mroOf (.ref C)) S.mro:=(PySem.W.looks_clsIn X M).andThen .now;have f:∀{l:List Value},aJ0 l=true->l.contains (.type "object")=true/\l.isEmpty=false:=by
  intro l
  induction l with
  |nil=>intro z;exact absurd z (by decide)
  |cons a r ih=>
   intro z;refine⟨?_,rfl⟩;cases a with
   |ref x=>rw[bCK,(ih z).1,bFQ]
   |_=>have q:=beq_iff_eq.mp z;rw[q];decide +kernel
 have J:PySem.W.Looks (model prog w) s.heap (isInstance (.ref e) (.type "object")) true:=I.type.andThen (PySem.W.looks_mroIn X (by unfold PySem.W.mroIn;rw[M,Option.bind_some,if_neg (by rw[(f N).2];decide),(f N).1]));refine bCZ m.slot.plain m.entry (@PySem.W.check_slot (model prog w) _ _ { s with toks:=s.toks+1 } "object.__setattr__" "object" "__setattr__" (.ref e) [.str "act" s.toks,v] [] _ m.kind m.split J (m.args (.ref e) (.str "act" s.toks) v) ?_);rw[PySem.W.osa_eq,refuse_eq];refine b7 (b7 (I.type _ _ _ _ (λ_ _ e=>e) (b7 (U _ _ _ _ (λ_ _ e=>e) ?_))));rw[wY _ N];refine d7 (b7 (I.type _ _ _ _ (λ_ _ e=>e) (b7 (PySem.W.looks_findIn X c.act _ _ _ _ (λ_ _ e=>e) (b7 ?_)))));refine d7 ?_;dsimp only;obtain⟨h,g,d,t,V⟩:=s;dsimp only at *;unfold storeInOwnDict;have n:e≠h.objs.size:=v8 (j9 j);have k:(h.push { cls:=.type "dict",data:=.dict #[] }).get? e=some { cls:=.ref C,data:=.fields vs }:=c7 _ j;refine b7 (d7 (b7 ?_));unfold ownDictForStores instanceDict;refine b7 (wpAny_loadPart j ?_);dsimp only;refine b7 ((PySem.W.looks_clsIn X M) _ _ _ _ (λ_ _ e=>e) ?_);rw[hd,if_neg (by decide),if_neg (by simp[typeHasDict])];refine b7 (wpAny_alloc' ?_);refine b7 (wpAny_update' k ?_);refine d7 ?_;have p:((h.push { cls:=.type "dict",data:=.dict #[] }).update e λo=>{ cls:=o.cls,dict:=some h.objs.size,data:=o.data,slots:=o.slots }).get? h.objs.size
   = some { cls:=.type "dict",data:=.dict #[] }:=
  (bEA _ _ _ _ n.symm).trans (Heap.get?_push_at rfl rfl)
 have B:((h.push { cls:=.type "dict",data:=.dict #[] }).update e λo=>{ cls:=o.cls,dict:=some h.objs.size,data:=o.data,slots:=o.slots }).Ns h.objs.size (λ_=>none):=
  ⟨_,#[],_,p,rfl,λe j=>absurd j (by simp),λ_=>rfl⟩
 show wpAny _ _ (storeInDict h.objs.size (.str "act" _) "act" v) _ _ _;unfold storeInDict newKeyGuard;refine b7 (d7 (b7 (wpAny_nsSet1 (Heap.Ns1.of_empty B) λh' i O=>?_)));obtain⟨Z,R,T,D,u,G⟩:=i.count (Within.cons "act" v Within.nil);refine b7 (wpAny_lookBehind D (by rw[u];exact pastItsLine_dict (bAE G (by rw[m8,bBS,sizeLine_eq];lia))) ?_);refine d7 ?_;refine Y h' _ ?_ i λb ob L P=>(O.2 b (v8 (j9 P))).trans ((bEA _ _ _ _ L).trans (c7 _ P));exact (O.2 e n).trans (bAO _ k rfl)
end
end L2
namespace L2
open PySem PySem.Spec PyProof.Rows Builtin Builtin.ObjectAttr
section
variable {prog:Program}{w:World}{A:Around}{E:bF5}{s:Shared}{K:bF4}{C fI e:Addr}
end
section
variable {M:Model}{A:Around}{E:bF5}{s:Shared}{base:Heap}{env:Env}{outer:List Env}{L e:Addr}
def aPj (C:A.frames=some (env::outer))(B:s.heap.FunFrames base (env::outer))(D:env.frame=some L)
  (y:s.heap.get? e=some oe) (hd:oe.data=.fields vs) (x:1<vs.size)
  (h:∀h',(∀b o,b≠e->b∉frs (env::outer)->s.heap.get? b=some o->h'.get? b=some o)->(∀b o,b≠e->s.heap.get? b=some o->∃sl,h'.get? b=some { o with slots:=sl }) ->
   h'.get? e=some (oe.mapFields (·.setIfInBounds 1 (.ref s.heap.objs.size)))->(∃oT ts,h'.get? s.heap.objs.size=some oT/\oT.data=.fields ts/\3<ts.size)->Q () { s with heap:=h' }) :
  wpAny M A (do let a <-frameOf env;let pl <-entryPlaceOf L hadNext;let b <-EntryCells.newEntry head a .none (rawInt L) .none pl;setField (.ref e) 1 b) Q E s:=by
 have i:e∉(env::outer).filterMap (·.frame):=λz=>by obtain⟨_,o,m,v⟩:=B.mem z;rw[y] at m;injection m with m;subst m;exact v vs hd
 refine b7 (wpAny_frameOf_fun C B D λf d=>?_);refine b7 (wpAny_entryPlaceOf λpl n=>?_);unfold EntryCells.newEntry newFields;refine b7 (bAF ?_ (n.sizeOk5 _ _ _ _ _));have k:=(d.2.1 e i).trans y;have j:=c7 { cls:=.type "traceback",dict:=none,data:=.fields ([head,.ref L,.none,rawInt L,.none]++(if pl.isEmpty then List.replicate 6 Value.none else pl)).toArray } k;have q:=bCM (j9 k);have t:=bDM hd (·.setIfInBounds 1 (Value.ref f.objs.size));have r:=bAO (Obj.mapFields (·.setIfInBounds 1 (Value.ref f.objs.size))) j (bDQ t);have p:=(bBD (f.push { cls:=.type "traceback",dict:=none,data:=.fields ([head,.ref L,.none,rawInt L,.none]++(if pl.isEmpty then List.replicate 6 Value.none else pl)).toArray })
  (Obj.mapFields (·.setIfInBounds 1 (Value.ref f.objs.size))) (Ne.symm q)).trans (j8 f rfl)
 have g:∀b o,b≠e->f.get? b=some o ->
   ((f.push { cls:=.type "traceback",dict:=none,data:=.fields ([head,.ref L,.none,rawInt L,.none]++(if pl.isEmpty then List.replicate 6 Value.none else pl)).toArray }).update e (Obj.mapFields (·.setIfInBounds 1 (Value.ref f.objs.size)))).get? b=some o:=λb o c l=>by
  rw[bBD _ _ (Ne.symm c)];exact c7 _ l
 refine bBW j hd x (h _ (λb o c u l=>g b o c ((d.2.1 b u).trans l)) (λb o c l=>?_) ?_ ?_)
 ·obtain⟨sl,w⟩:=d.2.2 b o l;exact⟨sl,g b _ c w⟩
 ·rw[<-d.1];exact r
 ·rw[<-d.1];exact⟨_,_,p,rfl,by simp only[d9,w6,m8,bBS] <;> lia⟩
theorem bCa (T:Option Addr)(I:A.frames=some (env::outer))(R:s.heap.FunFrames base (env::outer))(B:env.frame=some L)
  (G:s.heap.get? e=some oe) (hd:oe.data=.fields vs) (D:vs[1]?=some (T.elim .none .ref)) (U:∀a,T=some a->a≠e/\∃oT ts,s.heap.get? a=some oT/\oT.data=.fields ts/\3<ts.size)
  (h:∀h' T',(∀b o,b≠e->T≠some b->b∉frs (env::outer)->s.heap.get? b=some o->h'.get? b=some o)->(∀b o,b≠e->T≠some b->s.heap.get? b=some o->∃sl,h'.get? b=some { o with slots:=sl })->(∀b o,s.heap.get? b=some o->∃o',h'.get? b=some o') ->
   (∃vs':Array Value,h'.get? e=some { oe with data:=.fields vs' }/\vs'.size=vs.size/\vs'[1]?=some (.ref T'))->(∃oT ts,h'.get? T'=some oT/\oT.data=.fields ts/\3<ts.size)->(T=some T'\/T'=s.heap.objs.size)->Q () { s with heap:=h' }) :
  wpAny M A (noteFrame (.ref e) env) Q E s:=by
 unfold noteFrame;simp only[B];obtain⟨u,O,D⟩:∃u:Value,u=T.elim .none .ref/\vs[1]?=some u:=⟨_,rfl,D⟩;refine b7 (bAJ G hd D ?_);have w:=(Array.getElem?_eq_some_iff.mp D).1;have P:∀n:Addr,oe.mapFields (·.setIfInBounds 1 (.ref n))={ oe with data:=.fields (vs.setIfInBounds 1 (.ref n)) }:=λn=>by obtain⟨c,d,S,sl⟩:=oe;cases hd;rfl
 have l:∀{h':Heap} {n:Addr},h'.get? e=some (oe.mapFields (·.setIfInBounds 1 (.ref n)))->∃vs':Array Value,h'.get? e=some { oe with data:=.fields vs' }/\vs'.size=vs.size/\vs'[1]?=some (.ref n):=λ{h' n} q=>
  ⟨_,by rw[q,P n],by simp,by simp[w]⟩
 cases T with
 |none=>
  obtain rfl:u=.none:=O;rw[if_neg (by decide)];refine aPj I R B G hd w λh' F v x C=>h h' _ (λb o g _ B q=>F b o g B q) (λb o g _ q=>v b o g q) (λb o q=>?_) (l x) C (.inr rfl);by_cases z:b=e
  ·subst z;exact⟨_,x⟩
  ·obtain⟨sl,r⟩:=v b o z q;exact⟨_,r⟩
 |some a=>
  obtain⟨H,oT,ts,k,j,K⟩:=U a rfl;obtain rfl:u=.ref a:=O;rw[if_pos (show (Value.ref a != Value.none)=true from by simp)];refine b7 (bAJ k j (j7 K) ?_);by_cases N:(ts[3] == rawInt L)=true
  ·rw[if_pos N];refine d7 (h s.heap a (λb o _ _ _ q=>q) (λb o _ _ q=>⟨o.slots,q⟩) (λb o q=>⟨o,q⟩) ⟨vs,?_,rfl,D⟩ ⟨oT,ts,k,j,K⟩ (.inl rfl));rw[G];obtain⟨c,d,S,sl⟩:=oe;cases hd;rfl
  rw[if_neg N];refine b7 (bBW k j K ?_);have f:∀b,b≠a->(s.heap.update a (Obj.mapFields (·.setIfInBounds 3 Value.none))).get? b=s.heap.get? b:=λb g=>bBD _ _ (Ne.symm g);have i:∀b o,s.heap.get? b=some o->(∀vs,o.data≠.fields vs)->b≠a:=λb o g t q=>by rw[q,k] at g;injection g with g;subst g;exact t ts j
  have J:(s.heap.update a (Obj.mapFields (·.setIfInBounds 3 Value.none))).objs.size=s.heap.objs.size:=Heap.size_after_update ..;have m:=bAO (Obj.mapFields (·.setIfInBounds 3 Value.none)) k (bDQ (bDM j _));refine aPj I (R.of_keeps λb o g t=>⟨o,(f b (i b o g t)).trans g,rfl⟩) B ((f e (Ne.symm H)).trans G) hd w λh' F v x C=>?_;dsimp only at F v x C;rw[J] at x C;refine h h' _ (λb o g p B q=>F b o g B ((f b λz=>p (by rw[z])).trans q)) (λb o g p q=>v b o g ((f b λz=>p (by rw[z])).trans q)) (λb o q=>?_) (l x) C (.inr rfl);by_cases z:b=e
  ·subst z;exact⟨_,x⟩
  ·by_cases y:b=a
   ·subst y;obtain⟨sl,r⟩:=v b _ z m;exact⟨_,r⟩
   ·obtain⟨sl,r⟩:=v b o z ((f b y).trans q);exact⟨_,r⟩
end
def aMl (e T C dx:Addr):HO:=.ext λh=>∃vs:Array Value,h.get? e=some { cls:=.ref C,dict:=some dx,data:=.fields vs }/\vs.size=6/\vs[1]?=some (.ref T)
def TbO (T:Addr):HO:=.ext λh=>∃oT ts,h.get? T=some oT/\oT.data=.fields ts/\3<ts.size
def up2 (H:Hp)(e T C dx:Addr):Hp:=upd (upd H T (TbO T)) e (aMl e T C dx)
abbrev xdA:HO:=.xd [(("act":Str),V.non)]
def aMl.ok (q:h.get? e=some { cls:=.ref C,dict:=some dx,data:=.fields vs })(z:vs.size=6)(n:vs[1]?=some (.ref T)):cV P w H h e (aMl e T C dx):=
 ⟨⟨vs,q,z,n⟩,⟨_,q⟩,λf g ⟨d,a,b,c⟩ k=>⟨d,k _ a,b,c⟩⟩
def TbO.ok (q:∃oT ts,h.get? T=some oT/\oT.data=.fields ts/\3<ts.size):cV P w H h T (TbO T):=by obtain⟨o,ts,a,b,c⟩:=q;exact⟨⟨o,ts,a,b,c⟩,⟨_,a⟩,λe f ⟨u,d,a,b,c⟩ k=>⟨u,d,k _ a,b,c⟩⟩
def aW9 (h:H a=some o):upd H a o=H:=by
 funext b;unfold upd;split
 ·rename_i e;rw[e,h]
 ·rfl
def Xt:HO->Prop
 |.ext _=>True
 |_=>False
section
variable {X:Cx}{bF8:bF6}{σ:St}{H H₁:Hp}{s:Shared}{e C dx:Addr}{M:Model}{E:bF5}{Q:Unit->Shared->Prop}
def aEe (I:Inv X bF8 σ H s)(v:X.stack=X.env::X.outer)(R:X.env.frame=some X.env.locals)(T:Option Addr)
  (he:s.heap.get? e=some { cls:=.ref C,dict:=some dx,data:=.fields vs }) (z:vs.size=6) (h1:vs[1]?=some (T.elim .none .ref))
  (B:∀a,T=some a->a≠e/\(∃oT ts,s.heap.get? a=some oT/\oT.data=.fields ts/\3<ts.size)/\∃o,H a=some o/\Xt o)
  (hx:∃o,H e=some o/\Xt o) (V:∀b o,H₁ b=some o->b≠e/\T≠some b/\H b=some o) (a1:∀b o,H b=some o->b≠e->T≠some b->H₁ b=some o)
  (q:∀T' s',Inv X bF8 σ (up2 H₁ e T' C dx) s'->H₁ T'=none->T'≠e->Q () s') :
  wpAny M X.A (noteFrame (.ref e) X.env) Q E s:=by
 have y:=v ▸ I.stack;obtain⟨oE,D,J⟩:=hx;refine bCa T (by rw[<-v];exact I.ok.frames) y R he rfl h1 (λa Y=>⟨(B a Y).1,(B a Y).2.1⟩) λF T' S k2 k3 k4 k5 g=>?_;have P:∀b∈frs (X.env::X.outer),H b=none:=λb t=>I.rG b (by rw[v];exact t);have W:∀b,H b=none->H₁ b=none:=λb n=>by
  cases r:H₁ b with
  |none=>rfl
  |some o=>rw[(V b o r).2.2] at n;cases n
 have N:H₁ T'=none:=by
  rcases g with g|rfl
  ·cases r:H₁ T' with
   |none=>rfl
   |some o=>exact absurd g (V _ o r).2.1
  ·exact W _ (I.hok.fresh (d8 _))
 have K:T'≠e:=by
  rcases g with g|rfl
  ·exact (B _ g).1
  ·exact bCM (j9 he)
 have h:∀b,b≠e->b≠T'->up2 H₁ e T' C dx b=H₁ b:=λb k l=>by unfold up2;rw[aK k,aK l]
 have trk:∀b o,H b=some o->T≠some b->b≠T':=λb o r n=>by
  rcases g with g|rfl
  ·exact λf=>n (by rw[f];exact g)
  ·exact v8 (I.hok.lt r)
 have O:∀b,H b=none->(∃o,s.heap.get? b=some o)->b≠T':=λb n ⟨o,r⟩=>by
  rcases g with g|rfl
  ·intro f;obtain⟨Z,p,_⟩:=(B _ g).2.2;rw[f,p] at n;cases n
  ·exact v8 (j9 r)
 have m:∀b o,H b=some o->¬ Xt o->b≠e/\T≠some b:=λb o r n=>by
  refine⟨λf=>?_,λf=>?_⟩
  ·subst f;rw[D] at r;cases r;exact n J
  ·obtain⟨Z,p,x'⟩:=(B b f).2.2;rw[p] at r;cases r;exact n x'
 have i:∀b o u,H b=some o->b≠e->T≠some b->s.heap.get? b=some u->F.get? b=some u:=λb o u r k l j=>
  S b u k l (λt=>by rw[P b t] at r;cases r) j
 have d:∀b o,H b=some o->¬ Xt o->up2 H₁ e T' C dx b=some o:=λb o r n=>by obtain⟨k,l⟩:=m b o r n;rw[h b k (trk b o r l)];exact a1 b o r k l
 have L:HOk X.prog X.w (up2 H₁ e T' C dx) F:=λb o r=>by
  by_cases G:b=e
  ·subst G;unfold up2 at r;rw[aF] at r;cases r;obtain⟨a0,e1,e2,e3⟩:=k4;exact aMl.ok e1 (e2.trans z) e3
  ·by_cases bT:b=T'
   ·subst bT;unfold up2 at r;rw[aK G,aF] at r;cases r;exact TbO.ok k5
   ·rw[h b G bT] at r;obtain⟨k,l,p⟩:=V b o r;refine (I.hok b o p).stay (λc u hc j=>?_) (λc j=>d c _ j λz=>z) λc xs j=>d c _ j λz=>z;rcases hc with rfl|hc
    ·exact i c o u p k l j
    ·obtain⟨m1,m2⟩:=m c _ hc λz=>z;exact i c _ u hc m1 m2 j
 have x:∀b,T=some b->H b≠none:=λb t n=>by obtain⟨Z,p,_⟩:=(B b t).2.2;rw[p] at n;cases n
 have U:Un (frs X.stack) [] H (up2 H₁ e T' C dx) s.heap F:=by
  refine⟨λb o r n t _=>?_,λb o r n t _=>?_,λb o r n _=>?_,λb o r _=>k3 b o r,λb xs r=>d b _ r λz=>z,λb o u r=>d b _ r λz=>z,λb ps r=>⟨#[],by rw[d b _ r λz=>z];simp⟩⟩
  ·exact S b o (λf=>by subst f;rw[D] at n;cases n) (λf=>x b f n) (by rw[<-v];exact t) r
  ·exact k2 b o (λf=>by subst f;rw[D] at n;cases n) (λf=>x b f n) r
  ·rw[h b (λf=>by subst f;rw[D] at n;cases n) (O b n ⟨o,r⟩)];exact W b n
 exact q T' _ (I.call' (s':={ s with heap:=F }) rfl U L I.bare λb z=>absurd z (by simp)) N K
def uE {T:Addr}{A:Around}{m:Option Addr}(I:Inv X bF8 σ (up2 H₁ e T C dx) s)(n:T≠e)(q:∀s',Inv X bF8 σ (up2 H₁ e T C dx) s'->Q () s'):wpAny M A (setFlight (.ref e) m) Q E s:=by
 have p:up2 H₁ e T C dx e=some (aMl e T C dx):=aF;have j:up2 H₁ e T C dx T=some (TbO T):=by unfold up2;rw[aK n,aF]
 obtain⟨w,i,t,g⟩:=(I.hok e _ p).1;obtain⟨v,r,c,a,d⟩:=(I.hok T _ j).1;unfold setFlight;refine b7 (bAJ i rfl g ?_);rw[if_pos (show (Value.ref T != Value.none)=true from by simp)];refine bBW c a d (q _ ?_);have k:=bAO (h:=s.heap) (Obj.mapFields (·.setIfInBounds 3 (m.elim Value.none λf=>rawInt f))) c (bDQ (bDM a _));have W:=I.write (x:=T) (e:=T) (o:=TbO T) (h':=s.heap.update T (Obj.mapFields (·.setIfInBounds 3 (m.elim Value.none λf=>rawInt f)))) (t':=s.toks) (by rw[j];trivial) (.inl rfl) (λb u l q=>(bBD _ _ (Ne.symm l)).trans q) ⟨_,k⟩
  (TbO.ok ⟨_,_,k,bDM a _,by simpa using d⟩)
 rw[aW9 j] at W;exact W
def aQ2 (I:Inv X bF8 σ (upd H₁ e (XO e C (some dx))) s)(h:X.stack=X.env::X.outer)(d:X.env.frame=some X.env.locals)(n:H₁ e=none)
  (q:∀T' s',Inv X bF8 σ (up2 H₁ e T' C dx) s'->H₁ T'=none->T'≠e->Q () s') :
  wpAny M X.A (noteFrame (.ref e) X.env) Q E s:=by
 obtain⟨k,g,z,f⟩:=XO.at I.hok aF;refine aEe I h d none g z f (λa i=>nomatch i) ⟨_,aF,trivial⟩ (λb o r=>?_) (λb o r c _=>by rw[aK c] at r;exact r) q;have c:b≠e:=λj=>by subst j;rw[n] at r;cases r
 exact⟨c,(nomatch ·),by rw[aK c];exact r⟩
def aRa {T:Addr}(I:Inv X bF8 σ (up2 H₁ e T C dx) s)(m:X.stack=X.env::X.outer)(h:X.env.frame=some X.env.locals)(n:H₁ e=none)(t:H₁ T=none)(g:T≠e)
  (q:∀T' s',Inv X bF8 σ (up2 H₁ e T' C dx) s'->H₁ T'=none->T'≠e->Q () s') :
  wpAny M X.A (noteFrame (.ref e) X.env) Q E s:=by
 have j:up2 H₁ e T C dx e=some (aMl e T C dx):=aF;have i:up2 H₁ e T C dx T=some (TbO T):=by unfold up2;rw[aK g,aF]
 obtain⟨u,l,z,k⟩:=(I.hok e _ j).1;refine aEe I m h (some T) l z k (λa p=>?_) ⟨_,j,trivial⟩ (λb o r=>?_) (λb o r d f=>?_) q
 ·cases p;exact⟨g,(I.hok T _ i).1,_,i,trivial⟩
 ·have d:b≠e:=λc=>by subst c;rw[n] at r;cases r
  have f:b≠T:=λc=>by subst c;rw[t] at r;cases r
  exact⟨d,λc=>f (bAK c).symm,by unfold up2;rw[aK d,aK f];exact r⟩
 ·unfold up2 at r;rw[aK d,aK (λc=>f (by rw[c]))] at r;exact r
end
def CXR (P:Program)(w:World):CXT:=λouter H s E v s'=>∃e T dx C H₁,v=.ref e/\s'.os=s.os/\AllBare s'.gens/\H₁ e=none/\H₁ T=none/\T≠e/\H₁ dx=some xdA /\
 Un (frs outer) [] H (up2 H₁ e T C dx) s.heap s'.heap/\HOk P w (up2 H₁ e T C dx) s'.heap/\E (.ref C) (some e) H₁
def Raises (X:Cx)(E:XK):Prop:=∀bF8 σ H₁ s e C dx,Inv X bF8 σ (upd H₁ e (XO e C (some dx))) s->H₁ e=none->H₁ dx=some xdA->E (.ref C) (some e) H₁->X.xe (.ref e) s
section
variable {P:Program}{w:World}{K:bF4}{mg:bF7}{base:Heap}{N:List Str}{qual:Str}{scope:Scope}{f:Addr}{cd:Value}{A:Around}{outer:List Env}{s₀:Shared}{H₀:Hp}{E:XK}
def aQh (I:Inv (xF (CXR P w) P w K mg base N qual scope f cd A outer s₀ H₀ E) bF8 σ (up2 H₁ e T C dx) s)(n:H₁ e=none)(b:H₁ T=none)(a:T≠e)(hd:H₁ dx=some xdA)(q:E (.ref C) (some e) H₁) :
  CXR P w outer H₀ s₀ E (.ref e) s:=⟨e,T,dx,C,H₁,rfl,I.os,I.bare,n,b,a,hd,I.base,I.hok,q⟩
def aQ8:Raises (xF (CXR P w) P w K mg base N qual scope f cd A outer s₀ H₀ E) E:=by intro c σ i s e C k I n hd q;show wpAny _ _ (leaving _ (.ref e)) _ _ s;unfold leaving;exact b7 (aQ2 I rfl rfl n λl j d g a=>uE d a λh b=>aQh b n g a hd q)
end
def bCd (h:H a=some o):upd H a o=H:=by
 funext b;unfold upd;split
 ·rename_i e;rw[e,h]
 ·rfl
def aUs (h:a≠b):upd (upd H a o) b u=upd (upd H b u) a o:=by
 funext c;unfold upd;by_cases e:c=b
 ·by_cases d:c=a
  ·exact absurd (d.symm.trans e) h
  ·simp[e,d,Ne.symm h]
 ·by_cases d:c=a
  ·simp[d,h]
  ·simp[e,d]
def tVI (K:bF4)(fI:Addr)(t:TA):TE:=fun σ H Q=>t σ H λvs H1=>∃e C v,vs=[.ref e,v]/\H1 e=some (XO e C none)/\XC K C fI/\Q .non H1
def aVy (K:bF4)(fI:Addr)(ta tv:TE):TS:=λD σ H=>tv σ H λy H1=>ta σ H1 λx H2=>∃e C,y=.non/\x=.ref e/\H2 e=some (XO e C none)/\XC K C fI /\
 ∀dx,H2 dx=none->dx≠e->D.nx σ (upd (upd H2 dx xdA) e (XO e C (some dx)))
section
variable {X:Cx}{o value e1:Expr}{es:List Expr}{p ap pos pos' cpos:Pos}{ta tv:TE}{t:TA}{fI:Addr}{pl:Sem Bool}
def aX2:bootBuiltins "ValueError"=some (.type "ValueError"):=by decide +kernel
def bDv:typeOf (.type "ValueError")=pure (.type "type"):=by first|rfl|kernel_rfl
def aYd:PySem.W.handedIn (.builtin "ValueError.__init__")=true:=by decide +kernel
def aW0:Manifest.isStub "ValueError"=false:=by decide +kernel
theorem aUv (L:Gl X "ValueError")(M:X.mg "ValueError"=none)(O:PA X (e1::es) t)
  (E:starEach (e1::es) X.env=(false,eval e1 X.env)::starEach es X.env:=by rfl) (D:(backTo cpos (starEach es X.env)).any (·.1)=false:=by rfl)
  (N:eval (.Call (.Attribute (.Name "ValueError" p) "__init__" ap) (e1::es) [] cpos) X.env=(do
   let ov <-eval (.Name "ValueError" p) X.env
   standAt ap.atName
   let (f,first) <-holding [ov] (getMethod ov "__init__" pl)
   callWith cpos f first (backTo cpos (starEach (e1::es) X.env)) (backToKw cpos (keywordEach [] X.env))):=by rfl) :
  PE X (.Call (.Attribute (.Name "ValueError" p) "__init__" ap) (e1::es) [] cpos) (tVI X.K fI t):=by
 intro i s σ H Q I h;refine PySem.W.methodCall_KW (pl:=pl) (qK I L M aX2 ?_) N;obtain⟨m,F⟩:=I.fr;refine PySem.W.method_type (T:="ValueError") (name:="__init__") (v:=.builtin "ValueError.__init__") F I.ok.mod.kin bDv aW0 (aW8 X.K) aYd ?_;refine bFG (thn (O cpos i _ σ H _ (I.tok _) h) λJ a ⟨vs,y,j,r,e,C,v,G,g,c,q⟩=>?_) E D;subst G;cases r with
 |cons r0 r1=>
  cases r1 with
  |@cons _ u2 _ _ r2 r3=>
   cases r3;obtain rfl:=r0;obtain⟨l,d,z,w⟩:=XO.at j.hok g;have k:0<l.size:=by lia
   refine bBz j.kIn c d k (j7 k) (by rw[sizeLine_eq,m8,bBS];lia) ?_;refine⟨.non,y,?_,rfl,q⟩;have A:=j.kept (h':=a.heap.push { cls:=.type "tuple",data:=.seq [u2].toArray }) (t':=a.toks) (λb u e=>c7 _ e);have hg2:=c7 (h:=a.heap) { cls:=.type "tuple",data:=.seq [u2].toArray } d;have n:=bAO (Obj.mapFields (·.setIfInBounds 0 (Value.ref a.heap.objs.size))) hg2 (bDQ (bDM rfl _));have W:=A.write (x:=e) (e:=e) (o:=XO e C none) (t':=a.toks) (by rw[g];trivial) (.inl rfl) (λb u B q=>(bBD _ _ (Ne.symm B)).trans q) ⟨_,n⟩
    (XO.ok (vs:=l.setIfInBounds 0 (.ref a.heap.objs.size)) n (by simp[z]) (by rw[bFD (by decide)];exact w))
   rw[bCd g] at W;exact W
def bCv (ha:PE X o ta)(Z:PE X value tv)(Y:swapsWith value (some (.Attribute o "act" pos')) pos.line X.env=pure false:=by rfl):PS X (.Assign [.Attribute o "act" pos'] value pos) (aVy X.K fI ta tv):=by
 intro i s σ H D I h;refine plainObj_wpAny_Assign_Attribute (thn (Z i s σ H _ I h) λu S ⟨y,E,W,V,q⟩=>thn (ha i S σ E _ W q) λov d ⟨x,P,l,T,e,C,G,Q,w,c,t⟩=>?_) Y;subst Q G;obtain rfl:=T;obtain rfl:=V;obtain⟨ws,j,F,B⟩:=XO.at l.hok w;have p:P d.heap.objs.size=none:=l.hok.fresh (d8 _);have k:d.heap.objs.size≠e:=bCM (j9 j);refine aYh l.kIn c j λh' t' A R U=>⟨σ,_,?_,t _ p k⟩;obtain⟨z,O,J,g,v,r⟩:=id R;have L:=l.laid (a:=d.heap.objs.size) (o:=xdA) (h':=d.heap.push z) (t':=t') (λb u e=>c7 _ e) (d8 _)
  ⟨_,⟨z,O,J,j8 _ (Heap.get?_some_iff.mp g).2,v,r⟩,λf=>by
   by_cases e:f = "act"
   ·subst e;simp[lQ,RelV]
   ·have n:(f == ("act":Str))=false:=by simpa using e
    simp[List.lookup,n,e,lQ]⟩
 refine L.write (x:=e) (e:=e) (o:=XO e C (some d.heap.objs.size)) (h':=h') (t':=t') (by rw[aK (Ne.symm k),w];trivial) (.inl rfl) (λb u N q=>?_) ⟨_,A⟩ (XO.ok A F B);by_cases m:b=d.heap.objs.size
 ·subst m;rw[j8 _ (Heap.get?_some_iff.mp g).2] at q;cases q;exact g
 ·refine U b u N ?_;obtain⟨M,t⟩:=Heap.get?_some_iff.mp q;refine Heap.get?_some_iff.mpr ⟨?_,t⟩;rw[<-M];generalize d.heap=hh at m ⊢;cases hh;simp only at m;simp[Heap.push,Array.getElem?_push,m]
end
def aBa (K:bF4)(fI:Addr):Sp:=λvs H Q _=>∃e C,vs=[.ref e,.non]/\H e=some (XO e C none)/\XC K C fI/\∀dx,H dx=none->dx≠e->Q .non (upd (upd H dx xdA) e (XO e C (some dx)))
def aSu (C:Addr)(E:XK)(t:TA):TS:=λ_ σ H=>t σ H λvs H1=>vs=[.non]/\∀e dx,H1 e=none->H1 dx=none->dx≠e->E (.ref C) (some e) (upd H1 dx xdA)
section
variable {M:Model}{A:Around}{E:bF5}{env:Env}{K:bF4}{C fI:Addr}
def aIf (c:XC K C fI)(r:A.handled=none)
  (h:wpAny M A x (λv s₁=>∃e d vs,v=.ref e/\K.In s₁.heap/\s₁.heap.get? e=some { cls:=.ref C,dict:=d,data:=.fields vs }/\vs[1]?=some .none/\E (.ref e) s₁) E s) :
  wpAny M A (raiseStmt env (some x) none) Q E s:=by
 obtain⟨nm,q,N,G,o,O,p,R,l,F,t,y,I,P,z,n,B,D,H,k⟩:=c.at_;have b:(Value.ref C::o).contains (.type "BaseException")=true:=by rw[bCK,k,bFQ]
 unfold raiseStmt;refine b7 (bAX h (λv s₁ m=>?_) λ_ _ x=>x);obtain⟨e,J,vs,rfl,X,f,j,a⟩:=m;have i:=X _ _ n;obtain⟨L,g,d,w,u⟩:=s₁
 repeat (first|with_reducible refine bBV f ?_|with_reducible refine bBV i ?_|(with_reducible refine bDB i ?_;rw[b])|with_reducible refine bAJ f rfl j ?_|wp_step)
 exact wpAny_raiseNew_none r a
end
section
variable {X:Cx}{CX:CXT}{k:Nat}{C fI:Addr}{fd:FuncData}{ps:List Str}{E:XK}{x:Str}{np cpos pos:Pos}{a:Expr}{t:TA}
theorem aWv {m:bF6}{σ:St}{H:Hp}{s:Shared}{Q:VK}{u:Value}(c:XC X.K C fI)(F:gJ X.prog X.w X.K X.mg X.base CX k fI fd ps (aBa X.K fI))(R:Room (k+1) X.A)(W:Binds X.K fd ps [])(P:mF CX X E0)
  (I:Inv X m σ H s) (r:RelV .non u) (h:∀e dx,H e=none->H dx=none->dx≠e->Q (.ref e) (upd (upd H dx xdA) e (XO e C (some dx)))) :
  wpAny (model X.prog X.w) X.A (call (.ref C) [u]) (EP X m σ Q) X.xe s:=by
 obtain⟨U,g,d,l,t⟩:=s;refine x_call I.kIn c (λh' e x p T=>?_) (by rw[sizeLine_eq,m8,bBS];lia);obtain⟨S,z,-,-⟩:=x.there;have o:H e=none:=I.hok.fresh (by rw[p];exact bCR _);have i:Inv X m σ (upd H e (XO e C none)) ⟨h',g,d,l,t⟩:=I.laid (a:=e) (h':=h') (t':=l) x.keeps (by rw[p];exact bCR _) (XO.ok z rfl rfl);have y:aBa X.K fI [.ref e,.non] (upd H e (XO e C none)) (λv M=>v=.non/\Q (.ref e) M) E0:=by refine⟨e,C,rfl,aF,c,λdx n j=>⟨rfl,?_⟩⟩;rw[aK j] at n;have q:=h e dx o n j;rw[aUs (Ne.symm j),aPf];exact q
 have B:Vals [V.ref e,V.non] [Value.ref e,u]:=.cons rfl (.cons r .nil);have L:([Value.ref e,u]++[]).length=ps.length:=by have q:=F.len _ _ _ _ y;rw[bBB];exact q
 have f:=W ⟨h',g,d,l,t⟩ [Value.ref e,u] i.kIn L;rw[bBB] at f;refine bDJ (bCN (F.run _ X.stack _ _ ⟨[Value.ref e,u],[]⟩ [Value.ref e,u] _ _ E0 (R.make C [u] []) (i.env0.make C [u] []) f B y) λr J b=>?_);cases r with
 |error v=>exact P m σ _ _ v J i b
 |ok fl=>
  cases fl with
  |ret w=>obtain⟨v,D,E,N,O,G⟩:=i.after b;subst O;exact⟨N,⟨V.ref e,D,E,rfl,G⟩⟩
  |next=>exact False.elim b
  |brk=>exact False.elim b
  |cont=>exact False.elim b
def aTf (c:XC X.K C fI)(F:gJ X.prog X.w X.K X.mg X.base CX k fI fd ps (aBa X.K fI))(Y:Room (k+1) X.A)(hb:Binds X.K fd ps [])(T:mF CX X E0)(hR:Raises X E)(hc:X.calm=true)(Z:PySem.W.keepIn X.K (.ref C)=true)
  (hg:Gl X x) (hm:X.mg x=some (.ref C)) (ha:PA X [a] t) (P:(x == ("__debug__":Str))=false:=by decide) (U:starEach [a] X.env=(false,eval a X.env)::starEach [] X.env:=by rfl) :
  PS X (.Raise (some (.Call (.Name x np) [a] [] cpos)) none pos) (aSu C E t):=by
 intro f s σ H D I h;rw[arm_exec_Raise];refine b7 (bEC (aIf c (I.ok.hd hc) ?_));refine b7 (bAX (Q:=EP X f σ λv m=>∃e b g,v=.ref e/\m=upd g e (XO e C (some b))/\g e=none/\g b=some xdA/\E (.ref C) (some e) g) (E:=X.xe) ?_ (λv p ⟨y,m,i,R,e,b,g,N,M,n,L,q⟩=>?_) λ_ _ z=>z)
 ·refine bBK (nY I hg hm ?_ P);refine PySem.W.callWith_K (h₀:=X.base) I.ok.mod.kin Z (thn (ha cpos f s σ H _ I h) λV p ⟨u,J,B,r,S,q⟩=>⟨B.kIn,?_⟩) U rfl;subst S;cases r with
  |cons r0 r1=>cases r1;exact aWv c F Y hb T B r0 λe b o O l=>⟨e,b,upd J b xdA,rfl,rfl,by rw[aK (Ne.symm l)];exact o,aF,q e b o O l⟩
 ·subst N M;obtain rfl:=R;refine b7 (bEC (d7 ?_));obtain⟨u,j,hz,G⟩:=XO.at (d:=some b) i.hok aF;exact⟨e,_,u,rfl,i.kIn,j,G,hR f σ g p e C b i n L q⟩
end
section
variable {X:Cx}{bF8:bF6}{σ:St}{H:Hp}{s:Shared}{M:Model}{A:Around}{E:bF5}{i:Nat}{n:Str}{pos:Pos}{Q:Unit->Shared->Prop}
end
def aA4 (X:Cx)(bF8:bF6)(σ₀:St)(E:XK):Cx:={ X with pn:=X.pn++bF8,xe:=λv s'=>∃e T dx C H₁,v=.ref e/\Inv X bF8 σ₀ (up2 H₁ e T C dx) s'/\H₁ e=none/\H₁ T=none/\T≠e/\H₁ dx=some xdA/\E (.ref C) (some e) H₁ }
def aBh (X:Cx)(e:Addr):Cx:={ X with A:=X.A.mark (some (.ref e)),calm:=false,xe:=λ_ _=>False }
section
variable {X:Cx}{bF8:bF6}{σ σ₀:St}{H:Hp}{s:Shared}{E:XK}{e:Addr}
def bAp (a:X.Ok):(aA4 X bF8 σ₀ E).Ok:=⟨a.mod,a.kind,a.glob,a.blt,a.above,a.inj,a.has,a.cab,a.hd,a.frames,a.stk,a.exf,a.bs,a.bsz,a.noex,a.exfs,a.funs,a.frf⟩
def aYw (a:X.Ok):(aBh X e).Ok:=⟨a.mod,a.kind,a.glob,a.blt,a.above,a.inj,a.has,a.cab,(λz=>nomatch z),a.frames,a.stk,a.exf,a.bs,a.bsz,a.noex,a.exfs,a.funs,a.frf⟩
def Inv.bD9 (I:Inv X bF8 σ H s):Inv (aA4 X bF8 σ₀ E) [] σ H s:=⟨bAp I.ok,I.os,I.bare,I.base,I.loc,I.cell,I.free,I.freeC,λp a=>I.pin p (by rw[bBB] at a;exact a),I.hok,I.len⟩
def Inv.aLd (b:X.Ok)(I:Inv (aA4 X bF8 σ₀ E) pins' σ H s):Inv X bF8 σ H s:=⟨b,I.os,I.bare,I.base,I.loc,I.cell,I.free,I.freeC,λp a=>I.pin p (bBQ _ a),I.hok,I.len⟩
def Inv.aUe (I:Inv X bF8 σ H s):Inv (aBh X e) bF8 σ H s:=⟨aYw I.ok,I.os,I.bare,I.base,I.loc,I.cell,I.free,I.freeC,I.pin,I.hok,I.len⟩
def Inv.aH0 (a:X.Ok)(I:Inv (aBh X e) bF8 σ H s):Inv X bF8 σ H s:=⟨a,I.os,I.bare,I.base,I.loc,I.cell,I.free,I.freeC,I.pin,I.hok,I.len⟩
end
section
variable {X:Cx}{bF8₀:bF6}{σ₀:St}{k:Nat}{f:Addr}{fd:FuncData}{ps:List Str}{sp:Sp}{dvs:List V}{ds:List Value}{E:XK}{x:Str}{p pos:Pos}{e:Expr}{es:List Expr}{t:TA}
end
structure XS (K:bF4)(S:Addr):Prop where
 ty:PySem.W.typeIn K (.ref S)=some (.type "type")
 cls:(PySem.W.clsIn K S).isSome=true
 base:PySem.W.mroIn K S (.type "BaseException")=some true
def aRc {M:Model}{A:Around}{E:bF5}{s:Shared}{K:bF4}{S C e:Addr}{oe:Obj}{Q:Bool->Shared->Prop}(X:K.In s.heap)(b:XS K S)(n:s.heap.get? e=some oe)(u:oe.cls=.ref C)(o:PySem.W.mroIn K C (.ref S)=some true)
  (r:Q true s):wpAny M A (excMatches (.ref e) (.ref S)) Q E s:=by
 obtain⟨h,g,d,t,p⟩:=s;have T:PySem.W.Looks M h (typeOf (.ref S)) (.type "type"):=PySem.W.looks_typeIn X b.ty;have k:PySem.W.Looks M h (isInstance (.ref S) (.type "tuple")) false:=T.andThen (PySem.W.Looks.of_pure tc_notTuple);have l:PySem.W.Looks M h (isType (.ref S)) true:=by
  obtain⟨v,q⟩:=Option.isSome_iff_exists.mp b.cls;unfold PySem.W.clsIn at q
  split at q
  ·rename_i j;exact (PySem.W.Looks.ld (X _ _ j)).andThen .now
  ·cases q
 have m:PySem.W.Looks M h (typeOf (.ref e)) (.ref C):=u ▸ (PySem.W.Looks.ld n).andThen .now;have f:=PySem.W.looks_mroIn (M:=M) X b.base;have i:=PySem.W.looks_mroIn (M:=M) X o;have c:PySem.W.Looks M h (isExcClass (.ref S)) true:=l.andThen f;unfold excMatches;refine b7 (k.at ?_);rw[if_neg (by decide)];refine b7 (d7 (a:=[Value.ref S]) ?_);simp only[bDO,bFS];refine b7 (b7 (b7 (c.at ?_)));simp only[Bool.not_true,bAU,if_false];refine d7 (d7 (b7 (m.at (b7 (b7 (b7 (i.at ?_)))))));simp only[if_true];exact d7 (d7 (d7 r))
section
variable {X:Cx}{S:Addr}{i:Nat}{x n:Str}{np hpos pos:Pos}{body suite:List Stmt}{b₀:Stmt}{tb:St->XK->TS}{th:TS}
end
section
variable {X:Cx}{o:Expr}{pos:Pos}{ta:TE}
end
section
variable {P:Program}{w:World}{K:bF4}{mg:bF7}{base:Heap}
structure ExT (K:bF4)(mg:bF7)(st:Stmt)(x y:Str)(C S:Addr):Prop where
 at_:∃fI fd,XC K C fI/\Fun K "__init__" y st fI fd/\Binds K fd ["self","act"] []
 mg:mg x=some (.ref C)
 kp:PySem.W.keepIn K (.ref C)=true
 cls:XS K C
 over:PySem.W.mroIn K C (.ref S)=some true
def aWw {k:Nat}{y:Str}{st:Stmt}{fI:Addr}{fd:FuncData}(F:Fun K "__init__" y st fI fd)(j:aG ["self","act"] ["self","act"] (aC st))
  (m:∀(X:Cx),X.N=(["self","act"]:List Str)->X.env.scope=aC st->X.mg=mg->VSs X (cX st) (aDz (aIn (tVI X.K fI (dI (rP 0) (dI (rP 1) aAj)))) (aVy X.K fI (rP 0) (rP 1)))) :
  gJ P w K mg base CX0 (k+1) fI fd ["self","act"] (aBa K fI):=by
 refine F.okV j (λh H Q E ⟨e,C,z,_⟩=>by rw[z];rfl) λf A a s H h Q E l ⟨e,C,i,b,c,q⟩=>⟨_,m _ rfl rfl rfl,?_⟩;subst i;refine⟨_,rfl,_,rfl,e,C,.non,rfl,b,c,?_⟩;exact⟨_,rfl,_,rfl,e,C,rfl,rfl,b,c,λg n d=>q g n d⟩
end
section
variable {X:Cx}{k j:Nat}{C S:Addr}{E:XK}{x y:Str}{np cpos pos:Pos}{a:Expr}{t:TA}{st:Stmt}
def aTv (j:ExT X.K X.mg st x y C S)(f:∀fI fd,Fun X.K "__init__" y st fI fd->gJ X.prog X.w X.K X.mg X.base CX0 k fI fd ["self","act"] (aBa X.K fI))(n:Room (k+1) X.A)(g:Raises X E)(e:X.calm=true)
  (h:Gl X x) (l:VA X [a] t) (d:(x == ("__debug__":Str))=false:=by decide) (i:cM a=true:=by rfl) :
  VS X (.Raise (some (.Call (.Name x np) [a] [] cpos)) none pos) (aSu C E t):=by
 obtain⟨⟨fI,fd,c,F,B⟩,m,b,_,_⟩:=j;exact⟨aTf c (f fI fd F) n B aB0 g e b h m l.1 d (aM i)⟩
end
section
variable {P:Program}{w:World}{K:bF4}{mg:bF7}{base:Heap}
def aHh (P:Program)(w:World)(K:bF4)(mg:bF7)(base:Heap)(C:Addr)(k:Nat)(m:Str)(ps:List Str)(sp:Sp):Prop:=
 ∃f fd,Cls K C/\Meth K C m f/\Binds K fd ps []/\gJ P w K mg base (CXR P w) k f fd ps sp
theorem aHh.mono (h:aHh P w K mg base C j m ps sp)(g:j<=k):aHh P w K mg base C k m ps sp:=by obtain⟨f,b,a,e,c,d⟩:=h;exact⟨f,b,a,e,c,d.mono g⟩
def aHh.ofV {C:Addr}{m qual:Str}{st:Stmt}{N ps:List Str}{k:Nat}{sp:Sp}(c:Cls K C)(D:eG K C m qual st ps)(S:aG N ps (aC st))(l:∀vs H Q E,sp vs H Q E->vs.length=ps.length)
  (b:∀(f:Addr) (cdv:Value) (A:Around) (outer:List Env) (s:Shared) (H:Hp) (vs:List V) (Q:VK) (E:XK),Room k (A.deeper (envOfC qual (aC st) s.heap.objs.size f cdv))->sp vs H Q E ->
   ∃t,VSs (xF (CXR P w) P w K mg base N qual (aC st) f cdv A outer s H E) (cX st) t/\t { nx:=λ_ H'=>Q .non H',rt:=Q } (start N vs) H):aHh P w K mg base C (k+1) m ps sp:=by
 obtain⟨f,p,e,F,B⟩:=D;obtain⟨u,r,kV,h,n,q,cdv,o,i,rfl,g,d⟩:=F.ex;exact⟨f,_,c,e,B,aT3 g d S l λA outer s H vs Q E j a=>let ⟨t,h1,h2⟩:=b f cdv A outer s H vs Q E j a;⟨t,h1.1,h2⟩⟩
end
def aW7 (σ₀:St)(C:Addr)(m:Str)(sp:Sp)(E:XK)(ta:TE)(t:TA):TE:=fun σ H Q=>σ=σ₀/\ta σ H λx H1=>∃a dx fs,x=.ref a/\H1 a=some (.ins C dx fs)/\fs.lookup m=none/\t σ H1 λvs H2=>sp (x::vs) H2 Q E
section
variable {X:Cx}{bF8₀:bF6}{σ₀:St}{k:Nat}{C:Addr}{ps:List Str}{sp:Sp}{E:XK}{m:Str}{apos pos:Pos}{o e:Expr}{es:List Expr}{ta:TE}{t:TA}
theorem aR3 (ok:X.Ok)(G:aHh X.prog X.w X.K X.mg X.base C k m ps sp)(hr:Room k X.A)(he:VE (aA4 X bF8₀ σ₀ E) o ta)(ha:VA (aA4 X bF8₀ σ₀ E) (e::es) t)
  (hp:cM e=true:=by rfl) (a0:(backTo pos (starEach es X.env)).any (·.1)=false:=by rfl)
  (ht:eval (.Call (.Attribute o m apos) (e::es) [] pos) X.env=(do
   let ov <-eval o X.env
   standAt apos.atName
   let (f,first) <-holding [ov] (getMethod ov m pl)
   callWith pos f first (backTo pos (starEach (e::es) X.env)) (backToKw pos (keywordEach [] X.env))):=by rfl):VE (aA4 X bF8₀ σ₀ E) (.Call (.Attribute o m apos) (e::es) [] pos) (aW7 σ₀ C m sp E ta t):=by
 obtain⟨f,fd,c,O,hb,F⟩:=G;refine⟨?_⟩;rintro bF8 s σ H Q I ⟨rfl,h⟩;refine PySem.W.methodCall_KW (thn (he.1 bF8 s σ H _ I h) λu s1 ⟨x,S,R,rx,a,L,fs,ex,Y,l,q⟩=>?_) ht;subst ex;obtain rfl:u=Value.ref a:=rx;refine uB R Y c O l ?_;refine PySem.W.callWith_K I.ok.mod.kin O.kp (thn (ha.1 pos bF8 s1 σ S _ R q) λi J ⟨P,H2,p,r,N⟩=>⟨p.kIn,?_⟩) (aM hp) a0;have M:Vals (.ref a::P) (.ref a::i):=.cons rfl r;have hl:(Value.ref a::i).length=ps.length:=by rw[<-M.length];exact F.len _ _ _ _ N
 have d:=hb J (Value.ref a::i) p.kIn (by rw[bBB];exact hl);rw[bBB] at d;refine bDJ (bCN (F.run X.A X.stack J H2 ⟨.ref a::i,[]⟩ (.ref a::i) (.ref a::P) Q E hr p.env0 d M N) λr s' j=>?_);cases r with
 |error v=>obtain⟨a,T,L,C,U,rfl,V,g,n,nT,D,B,un,y,Z⟩:=j;exact⟨a,T,L,C,U,rfl,(Inv.aLd ok p).call' (s':=s') V un y g (λb z=>absurd z (by simp)),n,nT,D,B,Z⟩
 |ok fl=>
  cases fl with
  |ret u=>exact p.after j
  |next=>exact False.elim j
  |brk=>exact False.elim j
  |cont=>exact False.elim j
end
def exN (K:bF4)(S:Addr)(th:TS)(D:Ends)(σ:St):XK:=λv o H₁=>∃C e fI,v=.ref C/\o=some e/\XC K C fI/\PySem.W.mroIn K C (.ref S)=some true /\
 ∀T dx,H₁ e=none->H₁ T=none->T≠e->H₁ dx=some xdA->th D σ (up2 H₁ e T C dx)
def bDp (K:bF4)(S:Addr)(tb:St->XK->TS)(th:TS):TS:=λD σ H=>tb σ (exN K S th D σ) D σ H
section
variable {X:Cx}{S:Addr}{x:Str}{np hpos pos:Pos}{body suite:List Stmt}{b₀:Stmt}{tb:St->XK->TS}{th:TS}
def aWn (Y:X.stack=X.env::X.outer)(F:X.env.frame=some X.env.locals)
  (hg:Gl X x) (hm:X.mg x=some (.ref S)) (hS:XS X.K S) (hb:∀bF8 σ₀ E,X.Ok->VSs (aA4 X bF8 σ₀ E) body (tb σ₀ E)) (hh:∀e,VSs (aBh X e) (b₀::suite) th) (V:(x == ("__debug__":Str))=false:=by decide) :
  VS X (.Try body [.ExceptHandler (some (.Name x np)) none (b₀::suite) hpos] [] [] pos) (bDp X.K S tb th):=⟨by
 intro bF8 s σ H D I h;refine wpAny_Try_except (bAX ((hb bF8 σ (exN X.K S th D σ) I.ok).1 [] s σ H D I.bD9 h) (λf U j=>?_) λv U j=>?_)
 ·cases f with
  |next=>obtain⟨d,b,a,q⟩:=j;exact bFL ⟨d,b,Inv.aLd I.ok a,q⟩
  |brk=>obtain⟨d,b,a,q⟩:=j;exact⟨d,b,Inv.aLd I.ok a,q⟩
  |cont=>obtain⟨d,b,a,q⟩:=j;exact⟨d,b,Inv.aLd I.ok a,q⟩
  |ret u=>obtain⟨v,d,b,a,r,q⟩:=j;exact⟨v,d,b,Inv.aLd I.ok a,r,q⟩
 ·obtain⟨e,T,k,C,G,rfl,Z,J,W,B,hd,C',e',fI,O,M,c,o,q⟩:=j;cases O;cases M;refine aRa Z Y F J W B λn R t A g=>uE t g λL l=>?_;have w:Inv (aBh X e) bF8 σ (up2 G e n C k) L:=l.aUe;refine wpAny_handleBy_cons (codeAny_handlers_test ?_) (by intro q;cases q);refine nY w hg hm ?_ V;have P:up2 G e n C k e=some (aMl e n C k):=aF;obtain⟨vs,p,hz,Q⟩:=(l.hok e _ P).1;refine aRc l.kIn hS p rfl o ?_;rw[if_pos rfl];refine codeAny_handlers_suite ?_;refine uE l g λy N=>?_;refine bAX ((hh e).1 bF8 y _ _ _ N.aUe (q n k J A g hd)) (λf s4 m=>?_) λ_ _ z=>z.elim;cases f with
  |next=>obtain⟨d,b,a,i⟩:=m;exact⟨d,b,Inv.aH0 I.ok a,i⟩
  |brk=>obtain⟨d,b,a,i⟩:=m;exact⟨d,b,Inv.aH0 I.ok a,i⟩
  |cont=>obtain⟨d,b,a,i⟩:=m;exact⟨d,b,Inv.aH0 I.ok a,i⟩
  |ret u=>obtain⟨v,d,b,a,r,i⟩:=m;exact⟨v,d,b,Inv.aH0 I.ok a,r,i⟩⟩
end
end L2
namespace PySem
def Ris (xs:Array Nat):Prop:=∀a b (ha:a<xs.size) (hb:b<xs.size),a<b->xs[a]<xs[b]
theorem aB1 (c:Ris xs):∀fuel lo hi,hi - lo<=fuel->lo<=hi->hi<=xs.size->(∀k h,k<lo->xs[k]<j)->(∀k h,hi<=k->j<=xs[k]) ->
  SetTable.below.go xs j fuel lo hi<=xs.size/\(∀k (h:k<xs.size),k<SetTable.below.go xs j fuel lo hi->xs[k]<j)/\∀k (h:k<xs.size),SetTable.below.go xs j fuel lo hi<=k->j<=xs[k]
 |0,lo,hi,hf,h1,h2,h3,h4=>by
  have e:lo=hi:=by lia
  subst e;exact⟨h2,h3,h4⟩
 |fuel+1,lo,hi,hf,h1,h2,h3,h4=>by
  unfold SetTable.below.go
  split
  ·rename_i g;have m:(lo+hi) / 2<hi:=by lia
   have f:lo<=(lo+hi) / 2:=by lia
   have a:(lo+hi) / 2<xs.size:=by lia
   dsimp only;rw[v6,j7 a,bBN]
   split
   ·rename_i b;refine aB1 c fuel _ _ (by lia) (by lia) h2 (λk d i=>?_) h4;by_cases e:k=(lo+hi) / 2
    ·subst e;exact b
    ·exact bEV (c k _ d a (by lia)) b
   ·rename_i b;refine aB1 c fuel _ _ (by lia) (by lia) (by lia) h3 λk d l=>?_;by_cases e:k=(lo+hi) / 2
    ·subst e;lia
    ·exact bAE (Nat.le_of_not_lt b) (bDI (c _ k a d (by lia)))
  ·have e:lo=hi:=by lia
   subst e;exact⟨h2,h3,h4⟩
def mO (b:Ris xs)(j:Nat):SetTable.below xs j<=xs.size/\(∀k h,k<SetTable.below xs j->xs[k]<j)/\∀k h,SetTable.below xs j<=k->j<=xs[k]:=
 aB1 b xs.size 0 xs.size (by lia) (bAC _) (d8 _) (λk _ h=>absurd h (bCX _)) (λk a c=>absurd a (by lia))
def mD {α:Type}(xs:Array α)(p:Nat)(x:α)(hp:p<=xs.size):(SetTable.insertAt xs p x).toList=xs.toList.take p++x::xs.toList.drop p:=by unfold SetTable.insertAt;rw[bDA,bF1,Array.toList_extract,Array.toList_extract];simp only[List.extract_eq_drop_take,List.drop_zero,Nat.sub_zero,bCY,List.singleton_append];have e:(xs.toList.drop p).take (xs.size - p)=xs.toList.drop p:=bAW (by rw[bBT,v4];exact d8 _);rw[e]
def aCl {xs:Array Nat}:Ris xs↔xs.toList.Pairwise (·<·):=by
 rw[List.pairwise_iff_getElem];unfold Ris;constructor
 ·intro h i j g k c;exact h i j (by simpa using g) (by simpa using k) c
 ·intro h a b e f d;exact h a b (by simpa using e) (by simpa using f) d
def uC {xs:Array Nat}{j:Nat}(n:Ris xs)(t:xs[SetTable.below xs j]?≠some j):Ris (SetTable.insertAt xs (SetTable.below xs j) j):=by
 obtain⟨q,p,l⟩:=mO n j;rw[aCl,mD _ _ _ q,List.pairwise_append,List.pairwise_cons];have m:=aCl.mp n;have below:∀a∈xs.toList.take (SetTable.below xs j),a<j:=λa d=>by
  obtain⟨i,g,rfl⟩:=bBA d;rw[List.getElem_take];rw[bAI] at g;have e:i<xs.toList.length:=by lia
  exact p i (by simpa using e) (by lia)
 have c:∀a∈xs.toList.drop (SetTable.below xs j),j<a:=λa d=>by
  obtain⟨i,g,rfl⟩:=bBA d;rw[List.getElem_drop];rw[bBT] at g;have k:SetTable.below xs j+i<xs.toList.length:=by lia
  have f:SetTable.below xs j+i<xs.size:=by simpa using k
  have o:=l _ f (bDF _ _);rw[Array.getElem_toList];rcases bFU o with h|h
  ·exact h
  ·exfalso;cases i with
   |zero=>exact t ((j7 f).trans (congrArg some h.symm))
   |succ i=>
    have hb:SetTable.below xs j<xs.size:=by lia
    have s:=l _ hb (d8 _);have r:=n _ _ hb f (by lia);lia
 refine⟨m.sublist (List.take_sublist _ _),⟨c,m.sublist (List.drop_sublist _ _)⟩,λa d b hb=>?_⟩;rcases List.mem_cons.mp hb with rfl|hb
 ·exact below a d
 ·exact bEV (below a d) (c b hb)
def aMc {t:SetTable}{j:Nat}(h:t.slot j=.empty):t.place[SetTable.below t.place j]?≠some j:=by unfold SetTable.slot at h;intro e;simp[e] at h
def aHl {t:SetTable}(hd:t.dummies=#[])(j:Nat):t.slot j≠.dummy:=by
 unfold SetTable.slot;rw[hd];dsimp only
 split
 ·intro z;cases z
 ·have:SetTable.has #[] j=false:=by unfold SetTable.has;simp
  rw[this];intro z;cases z
theorem aKu {t:SetTable}{g:Nat->Int}{h:Int}(hd:t.dummies=#[]):∀(fuel:Nat) (p:SetTable.Probe) (j:Nat) (dm:Option Nat),p.dummy=none->SetTable.probe.go t g h fuel p=some (.empty j dm)->dm=none/\t.slot j=.empty
 |0,p,j,dm,_,e=>by cases e
 |fuel+1,p,j,dm,hp,e=>by
  unfold SetTable.probe.go at e;have b:∀q:SetTable.Probe,q.dummy=none->(t.advance q).dummy=none:=λq c=>by
   unfold SetTable.advance
   split
   ·exact c
   ·exact c
  split at e
  ·rename_i a;cases e;exact⟨hp,a⟩
  ·rename_i a;exact absurd a (aHl hd _)
  ·split at e
   ·cases e
   ·exact aKu hd fuel _ j dm (b p hp) e
def aKc {t:SetTable}{h:Int}{j:Nat}{b:Bool}(hd:t.dummies=#[])(e:t.freeSlot h=some (j,b)):t.place[SetTable.below t.place j]?≠some j:=by
 unfold SetTable.freeSlot at e
 split at e
 ·rename_i f d a;unfold SetTable.probe at a;obtain⟨rfl,c⟩:=aKu hd _ _ _ _ rfl a;cases e;exact aMc c
 ·cases e
def TabOk (b:Bool)(t:SetTable):Prop:=(b=false->t.led=true)/\t.dummies=#[]/\7<=t.mask/\(t.plain=true->Ris t.place)
def TabOk.stand {b:Bool}{t:SetTable}{n:Nat}(h:TabOk b t)(hn:1<=n):TabOk b (t.standIn n):=⟨h.1,rfl,by show 7<=4 * n+4;lia,λz=>by cases z⟩
def TabOk.off (h:TabOk b t):TabOk b { t with plain:=false }:=⟨h.1,h.2.1,h.2.2.1,λz=>by cases z⟩
def TabOk.new {b:Bool}{t:SetTable}{es:Array (Int × Value)}{h:Int}{x:Value}(c:TabOk b t):TabOk b (layNew t es h x).2.1:=by
 unfold layNew
 split
 ·rename_i a g e;have f:=aKc c.2.1 e;dsimp only[SetTable.put];have d:(if SetTable.has t.dummies a=true then SetTable.eraseAt t.dummies (SetTable.below t.dummies a) else t.dummies)=#[]:=by
   rw[c.2.1];have:SetTable.has #[] a=false:=by unfold SetTable.has;simp
   rw[this];rfl
  rw[d];unfold SetTable.orStandIn
  split
  ·exact⟨c.1,rfl,c.2.2.1,λz=>uC (c.2.2.2 z) f⟩
  ·refine TabOk.stand ⟨c.1,rfl,c.2.2.1,λz=>uC (c.2.2.2 z) f⟩ ?_;unfold SetTable.insertAt;simp only[Array.size_append,Array.size_push,Array.size_extract];lia
 ·exact c.stand (Nat.succ_le_succ (bAC _))
def TabOk.room (c:TabOk b t)(a:t.fits n=true)(hn:n<=4):t.tooFull=false:=by unfold SetTable.fits at a;rw[bAS,beq_iff_eq] at a;unfold SetTable.tooFull SetTable.fill;rw[a.1,c.2.1];have:=c.2.2.1;simp only[Array.size_empty,Nat.add_zero,decide_eq_false_iff_not];lia
theorem lJ {α β:Type}{R:α->β->Prop}{bs' bs:List β}(p:bs'.Perm bs):∀{as:List α},Paired R as bs->∃as',Paired R as' bs'/\as'.Perm as:=by
 induction p with
 |nil=>intro as h;exact⟨as,h,.refl _⟩
 |cons x _ ih=>
  intro as h;cases h with
  |cons r t=>obtain⟨as',a,b⟩:=ih t;exact⟨_,.cons r a,b.cons _⟩
 |swap x y l=>
  intro as h;cases h with
  |cons r t=>
   cases t with
   |cons r2 t2=>exact⟨_,.cons r2 (.cons r t2),.swap ..⟩
 |trans _ _ ih1 ih2=>intro as h;obtain⟨f,a,b⟩:=ih2 h;obtain⟨e,d,c⟩:=ih1 a;exact⟨e,d,c.trans b⟩
theorem qL {α β:Type}{R:α->β->Prop}{as:List α}{bs:List β}{a:α}{b:β}(h:Paired R as bs)(r:R a b):Paired R (as++[a]) (bs++[b]):=by
 induction h with
 |nil=>exact .cons r .nil
 |cons q _ ih=>exact .cons q ih
theorem zR {α β:Type}{R:α->β->Prop}{as:List α}{bs:List β}(h:Paired R as bs):∀a∈as,∃b∈bs,R a b:=by
 induction h with
 |nil=>intro a ha;cases ha
 |cons q _ ih=>
  intro a ha;rcases List.mem_cons.mp ha with rfl|ha
  ·exact⟨_,j0,q⟩
  ·obtain⟨b,c,r⟩:=ih a ha;exact⟨b,j5 _ c,r⟩
theorem lE {α β:Type}{R:α->β->Prop}{as:List α}{bs:List β}(h:Paired R as bs):∀b∈bs,∃a∈as,R a b:=by
 induction h with
 |nil=>intro a c;cases c
 |cons q _ ih=>
  intro b hb;rcases List.mem_cons.mp hb with rfl|hb
  ·exact⟨_,j0,q⟩
  ·obtain⟨a,c,r⟩:=ih b hb;exact⟨a,j5 _ c,r⟩
section
variable {prog:Program}{w:World}{κ:Type}[DecidableEq κ]{knd:KeyKind prog w κ}{A:Around}{E:bF5}{s:Shared}
def byT (w:World):Bool:=w.params.followText "set-order"
abbrev ElK (knd:KeyKind prog w κ):κ->Int × Value->Prop:=λk e=>knd.is k e.2=true/\e.1=knd.hash k/\e.2.scannable=true
def uQ (knd:KeyKind prog w κ)(h:Heap)(D:Addr)(kl:List κ):Prop:=∃o es ep t,h.get? D=some o/\o.ExactSet/\o.data=.set es ep t/\t.fits es.size=true/\TabOk (byT w) t/\Paired (ElK knd) kl es.toList
def uQ.at (x:uQ knd h D kl)(e:∀o,h.get? D=some o->h'.get? D=some o):uQ knd h' D kl:=by obtain⟨o,b,a,t,c,r⟩:=x;exact⟨o,b,a,t,e o c,r⟩
theorem aTq (v:knd.is k x=true)(G:x.scannable=true)(hS:uQ knd s.heap D kl)(hroom:kl.length<4)
  (h:∀h' kl' b,Heap.SameBut D s.heap h'->uQ knd h' D kl'->kl'.Perm (if k∈kl then kl else kl++[k])->Q b { s with heap:=h' }):wpAny (model prog w) A (setAddHashed D x (knd.hash k)) Q E s:=by
 obtain⟨o,i,ep,t,J,B,hd,P,C,p⟩:=hS;have hn:kl.length=i.size:=by rw[Paired.length p,v4]
 have H:ElemsOf knd i.toList:=λe M=>by obtain⟨T,_,F,r2,r3⟩:=lE p e M;exact⟨⟨T,F,r2⟩,r3⟩
 have hb:i.size<scanBound:=by unfold scanBound;lia
 unfold setAddHashed setAddHashedIn;refine bAR (b7 (bBH J hd P ?_));dsimp only;rw[byScan_of G hb H];simp only[↓reduceIte];unfold setAddByScan;refine b7 (b7 (bDU (b7 (wpAny_setScan_of v J hd P H ?_))));cases hr:List.findIdx? (λe=>knd.is k e.2) i.toList with
 |some j=>
  dsimp only;obtain⟨hj,N,_⟩:=List.findIdx?_eq_some_iff_getElem.mp hr;obtain⟨T,W,F,_⟩:=lE p _ (bAT hj);have V:k∈kl:=by rw[knd.inj _ k T N F];exact W
  refine d7 (d7 ?_);have e:s={ s with heap:=s.heap }:=by cases s;rfl
  rw[e];exact h s.heap kl _ (Heap.SameBut.refl D s.heap) ⟨o,i,ep,t,J,B,hd,P,C,p⟩ (by rw[if_pos V])
 |none=>
  dsimp only;have u:k∉kl:=λz=>by obtain⟨e,M,F,_⟩:=zR p k z;have:=List.findIdx?_eq_none_iff.mp hr e M;rw[F] at this;cases this
  have S:∀b {g:Shared} {U:Unit->Shared->Prop},U () g->wpAny (model prog w) A (match b with|true=>rule "set.scan.the-table-gave-way"|false=>pure ()) U E g:=λb g U Z=>match b with
   |true=>bDU Z
   |false=>d7 Z
  have a:=layNew_perm t i (knd.hash k) x;have c:=layNew_fits t i (knd.hash k) x;have f:TabOk (byT w) (layNew t i (knd.hash k) x).2.1:=C.new;generalize hL:layNew t i (knd.hash k) x=L at a c f ⊢;obtain⟨d,K,n,a0⟩:=L;dsimp only at a c f ⊢;rw[bF1] at a;obtain⟨kl',X,pm⟩:=lJ a (qL p (show ElK knd k (knd.hash k,x) from ⟨v,rfl,G⟩));have a1:d.size=i.size+1:=by rw[<-v4,a.length_eq,w6,v4];rfl
  refine b7 (S _ ?_);have I:∀l:SetTable,TabOk (byT w) l->l.fits d.size=true->∀(R:Option Bool->Shared->Prop),(∀h',Heap.SameBut D s.heap h'->uQ knd h' D kl'->R (some true) { s with heap:=h' }) ->
    wpAny (model prog w) A (storeSet D d l) (λ_ g=>l.tooFull=false/\R (some true) g) E s:=λl Y f2 R hR=>by
   refine bF2 J hd ⟨Y.room f2 (by lia),?_⟩ (fits_of_scanBound (by unfold scanBound;lia));have hg:=bAO (Obj.putSet d l) J (by rw[putSet_of d l hd];rfl);rw[putSet_of d l hd] at hg;exact hR _ (bAV s.heap D (Obj.putSet d l)) ⟨_,d,ep+1,l,hg,B,rfl,f2,Y,X⟩
  have m:∀h',Heap.SameBut D s.heap h'->uQ knd h' D kl'->Q true { s with heap:=h' }:=λh' y q=>h h' kl' true y q (by rw[if_neg u];exact pm)
  split
  ·refine b7 ?_;rw[hashByValue_scannable 8 G];refine d7 ?_;refine b7 (bAX (I (if plainKind x=true then K else { K with plain:=false }) (by split;exact f;exact f.off) (by split;exact c;exact SetTable.fits_plain_off c) (λr g=>wpAny (model prog w) A (match r with|some b=>pure b|none=>unsupported "x") Q E g) λh' y q=>d7 (m h' y q)) (λ_ g ⟨O,q⟩=>?_) λ_ _ z=>z);rw[O];simp only[bFV,bAU,↓reduceIte];exact d7 q
  ·refine b7 (d7 ?_);simp only[↓reduceIte];refine b7 (bAX (I K f c (λr g=>wpAny (model prog w) A (match r with|some b=>pure b|none=>unsupported "x") Q E g) λh' y q=>d7 (m h' y q)) (λ_ g ⟨O,q⟩=>?_) λ_ _ z=>z);rw[O];simp only[bFV,bAU,↓reduceIte];exact d7 q
def Ded (kl xs:List κ):Prop:=kl.Nodup/\(∀k,k∈kl↔k∈xs)/\kl.length<=xs.length
def Ded.more {l kl' xs:List κ}{k:κ}(h:Ded l xs)(p:kl'.Perm (if k∈l then l else l++[k])):Ded kl' (xs++[k]):=by
 obtain⟨f,d,i⟩:=h;by_cases c:k∈l
 ·rw[if_pos c] at p;refine⟨p.nodup_iff.mpr f,λy=>?_,by rw[p.length_eq,w6];lia⟩;rw[p.mem_iff,d,bFM,bEM];exact⟨.inl,λz=>z.elim id λe=>e ▸ (d k).mp c⟩
 ·rw[if_neg c] at p;refine⟨p.nodup_iff.mpr (List.nodup_append.mpr ⟨f,by simp,λa j b g e=>?_⟩),λy=>?_,by rw[p.length_eq,w6,w6];exact Nat.add_le_add_right i _⟩
  ·rw[bEM] at g;exact c (g ▸ e ▸ j)
  ·rw[p.mem_iff,bFM,bFM,d]
def aTn (d:h.get? D=some (cJ (!byT w))):uQ knd h D []:=by refine⟨_,#[],0,_,d,⟨rfl,rfl,rfl⟩,rfl,rfl,⟨λe=>?_,rfl,d8 _,λ_=>λa b c=>absurd c (by show ¬ (a<0);lia)⟩,.nil⟩;rw[e];rfl
def aKn (a:Value)(h:Q₁ (.ref s.heap.objs.size) { s with heap:=s.heap.push (cJ (!byT w)) }):codeAny (model prog w) A (.call (.builtin "set.__new__") ⟨[.type "set",a],[]⟩) (wants Q₁ E) s:=by have b:=sub_set_self;refine codeAny_of_tree (show wpAny _ A.in1 (do checkBuiltinCall "set.__new__" ⟨[.type "set",a],[]⟩;again (.builtin "set.__new__" ⟨[.type "set",a],[]⟩)) _ _ s from b7 (bEQ (F.newCall_set_1 a) (d7 ⟨bCT F.plain_set_new _,bBR F.entry_set_new ?_⟩)));rw[bBI F.plain_set_new _];unfold Builtin.«set.__new__» Builtin.Frozenset.newClass;obtain⟨c,g,d,f,e⟩:=s;dsimp only;wp_walk;refine bDH (d7 ?_);dsimp only;simp only[newObj];exact b7 (wpAny_alloc (d7 (d7 h)))
def Ex (h0 h:Heap):Prop:=∀b o,h0.get? b=some o->h.get? b=some o
structure Kset (prog:Program)(w:World)(κ:Type)[DecidableEq κ](A:Around)(h0:Heap)(D:Addr)(S:Heap->List κ->Prop)(V:κ->Value->Prop)(m:Nat):Prop where
 at_:∀{h h':Heap} {kl:List κ},S h kl->(∀o,h.get? D=some o->h'.get? D=some o)->S h' kl
 add:∀{A':Around} {E:bF5} {s:Shared} {kl:List κ} {k:κ} {v:Value} {Q:Bool->Shared->Prop},A'.units<=A.units+9->Ex h0 s.heap->V k v->S s.heap kl->kl.length<m->(∀h' tk kl' b,Heap.SameBut D s.heap h'->S h' kl'->kl'.Perm (if k∈kl then kl else kl++[k])->Q b { s with heap:=h',toks:=tk })->wpAny (model prog w) A' (setAdd D v) Q E s
 new:∀{h:Heap},h.get? D=some (cJ (!byT w))->S h []
variable {S:Heap->List κ->Prop}{V:κ->Value->Prop}{m:Nat}{h0:Heap}{A0:Around}
theorem aQi (W:Walks prog w A.in1 I fp wr n P St)(N:D∉fp)(Z:Kset prog w κ A0 h0 D S V m)(hA:A.units+1<=A0.units+9)(O:∀b∈D::wr,h0.get? b=none)
  (ks:List κ) (M:ks.length=n) (F:∀i v,P i v->∃k,ks[i]?=some k/\V k v) (hb:n<=m) :
  ∀k i s kl,i+k=n->St i s.heap->Ex h0 s.heap->S s.heap kl->Ded kl (ks.take i) ->
   (∀h' tk kl',(∀b o,b∉D::wr->s.heap.get? b=some o->h'.get? b=some o)->S h' kl'->Ded kl' ks->R (.ok (.ret .none)) { s with heap:=h',toks:=tk }) ->
   codeAny (model prog w) A (.builtin "set.update.loop" ⟨[.ref D,.ref I],[]⟩) R s:=by
 have g:D∉wr:=λq=>N (W.sub _ q);have f:∀{b:Addr} {o:Obj},h0.get? b=some o->b∉D::wr:=λe z=>by rw[O _ z] at e;cases e
 intro k
 induction k with
 |zero=>
  intro i s kl K E p y h q;obtain rfl:i=n:=by lia
  refine bBR bEB ?_;rw[bBI bCQ _];refine b7 (W.done s _ _ E λh' tk l=>?_);rw[bAW (Nat.le_of_eq M)] at h;exact d7 (q h' tk kl (λb o a e=>l b o (λz=>a (j5 _ z)) e) (Z.at_ y λo e=>l D o g e) h)
 |succ k ih=>
  intro i s kl K E p y h q;refine bBR bEB ?_;rw[bBI bCQ _];refine b7 (W.item i s _ _ (by lia) E λv H J hP u c=>?_);obtain⟨U,T,B⟩:=F i v hP;have t:Ex h0 H:=λb o e=>c b o (λz=>f e (j5 _ z)) (p b o e);show wpAny _ A.in1 (holding [v] (setAdd D v) >>= _) _ _ _;refine b7 (bAR ?_);have lt:(ks.take i).length=i:=by rw[bAI];lia
  refine Z.add hA t B (Z.at_ y λo e=>c D o g e) (by have:=h.2.2;lia) λL Y r b2 j x G=>?_;have X:ks.take (i+1)=ks.take i++[U]:=by rw[bBP,T];rfl
  have d:∀b o,b∉D::wr->s.heap.get? b=some o->L.get? b=some o:=λb o a e=>by rw[j.2 b (λz=>a (by rw[z];exact j0))];exact c b o (λz=>a (j5 _ z)) e
  refine d7 ⟨bCT bCQ _,ih (i+1) _ r (by lia) (W.frame _ _ _ u λb hb o e=>?_) (λb o e=>d b o (f e) (p b o e)) x (by rw[X];exact h.more G) λh' tk kl' l C Q=>q h' tk kl' (λb o a e=>l b o a (d b o a e)) C Q⟩;rw[j.2 b (λz=>N (by rw[<-z];exact hb))];exact e
def aQo {A:Around}{R:Fin->Shared->Prop}{E:bF5}{s:Shared}{l:Addr}{its:Array Value}{ks:List κ}(H:A.handled=none)(Z:Kset prog w κ A0 s.heap s.heap.objs.size S V m)(P:A.units+1<=A0.units+9)(W:s.heap.IsList l its)(G:ks.length=its.size)
  (D:∀(i:Nat) (v:Value),its[i]?=some v->∃k,ks[i]?=some k/\V k v) (a:its.size<=m)
  (q:∀h' tk kl,S h' kl->Ded kl ks->(∀b o,b<s.heap.objs.size->s.heap.get? b=some o->h'.get? b=some o)->R (.done (.ret .none)) { s with heap:=h',toks:=tk }) :
  wpAny (model prog w) A (Builtin.«set.__init__» ⟨[.ref s.heap.objs.size,.ref l],[]⟩) R E { s with heap:=s.heap.push (cJ (!byT w)) }:=by
 obtain⟨⟨N,I,O,r⟩,c,j,z,d⟩:=id W;simp only at j d;subst j d;have B:(s.heap.push (cJ (!byT w))).get? s.heap.objs.size=some (cJ (!byT w)):=j8 _ rfl;have T:Shared.TypeIs { s with heap:=s.heap.push (cJ (!byT w)) } (.ref s.heap.objs.size) "set":=⟨_,B,rfl⟩;have h:(s.heap.push (cJ (!byT w))).get? l=some { cls:=.type "list",dict:=I,data:=.seq its z,slots:=r }:=c7 _ c;have M:=F.sub_list_set;have U:=F.sub_list_frozenset;have Q:(Value.type "list" == Value.type "dict")=false:=by decide
 have n:(s.heap.push (cJ (!byT w))).IsList l its:=⟨_,h,rfl,z,rfl⟩;have f:l<s.heap.objs.size:=j9 c;unfold Builtin.«set.__init__» noKeywords Builtin.Frozenset.updateFrom;generalize t:pyIter=PI;wp_walk;subst t;refine bCO n ?_;refine b7 (wpAny_runValue ?_);have p:(s.heap.push (cJ (!byT w))).objs.size=s.heap.objs.size+1:=bBL ..;have u:l≠(s.heap.push (cJ (!byT w))).objs.size:=by rw[p];exact v8 (bBU f)
 have x:s.heap.objs.size∉[(s.heap.push (cJ (!byT w))).objs.size,l]:=by rw[p];simp only[bAN,bAB,or_false,not_or];exact⟨v8 (bCU _),bCM f⟩
 have C:∀b,s.heap.objs.size<=b->s.heap.get? b=none:=λb a=>by
  cases e:s.heap.get? b with
  |none=>rfl
  |some o=>exact absurd (j9 e) (Nat.not_lt.mpr a)
 refine aQi (Walks.list (by first|exact H|simp[H]) _ l u its) x Z P (λb a=>?_) ks G D a its.size 0 _ [] (by lia) ⟨⟨_,j8 _ rfl,rfl,rfl⟩,n.push _⟩ (λb o e=>c7 _ (c7 _ e)) ?_ ⟨List.nodup_nil,λk=>by simp,bAC _⟩ λh' tk kl K y L=>?_
 ·rw[p] at a;simp only[bAN,bAB,or_false] at a;rcases a with rfl|rfl
  ·exact C _ (d8 _)
  ·exact C _ (bCR _)
 ·have J:((s.heap.push (cJ (!byT w))).push { cls:=.type "list_iterator",data:=.fields #[.ref l,.int 0 0] }).get? s.heap.objs.size=some (cJ (!byT w)):=c7 _ B;exact Z.new J
 ·refine d7 (d7 (q h' tk kl y L λb o g e=>K b o ?_ (c7 _ (c7 _ e))));rw[p];simp only[bAN,bAB,or_false,not_or];exact⟨v8 g,v8 (bBU g)⟩
def xJ {l:Addr}{its:Array Value}{ks:List κ}{Q:bF5}(y:A.handled=none)(Z:Kset prog w κ A s.heap s.heap.objs.size S V m)(H:s.heap.IsList l its)(t:ks.length=its.size)
  (p:∀(i:Nat) (v:Value),its[i]?=some v->∃k,ks[i]?=some k/\V k v) (M:its.size<=m)
  (q:∀h' tk kl,S h' kl->Ded kl ks->(∀b o,b<s.heap.objs.size->s.heap.get? b=some o->h'.get? b=some o)->Q (.ref s.heap.objs.size) { s with heap:=h',toks:=tk }) :
  wpAny (model prog w) A (call (.type "set") [.ref l]) Q E s:=by
 have d:=F.called_set;obtain⟨c,N,u⟩:=d.mro;have I:=d.made;have G:=d.sub;have D:=d.notType;have K:=d.canCreate;have J:=F.typeCall_set_1 (.ref l);refine bDJ (codeAny_of_tree (show wpAny _ _ (callAny (.type "set") _) _ _ _ from d7 ⟨Code.quiet_builtin _ (by decide +kernel),bBR F.entry_type_call ?_⟩));rw[Around.under_plain (weight_type_call_type "set" [.ref l] []) (by rfl)]
 repeat (any_goals (first|assumption|wp_step))
 refine bCN (aKn (.ref l) (Q₁:=λobj n=>obj=.ref s.heap.objs.size/\n={ s with heap:=s.heap.push (cJ (!byT w)) }) (E:=E) ⟨rfl,rfl⟩) λr n f=>?_;rcases r with e|fl
 ·exact f
 rcases fl with _|_|_|obj
 ·exact f.elim
 ·exact f.elim
 ·exact f.elim
 obtain⟨rfl,rfl⟩:=f;have z:Shared.TypeIs { s with heap:=s.heap.push (cJ (!byT w)) } (.ref s.heap.objs.size) "set":=⟨_,j8 _ rfl,rfl⟩;have L:=d.init.lookup;have C:=d.init.bind (.ref s.heap.objs.size)
 repeat (any_goals (first|assumption|wp_step))
 refine bCN (bCZ (R:=wants (λr j=>r=.none/\∃h' tk kl,j={ s with heap:=h',toks:=tk }/\S h' kl/\Ded kl ks/\∀b o,b<s.heap.objs.size->s.heap.get? b=some o->h'.get? b=some o) E)
  d.init.plain F.entry_set_init (check_set_init_1 z (aQo (by first|exact y|simp[y]) Z (by simp only[Around.in1_units];lia) H t p M λh' tk kl x g h=>⟨rfl,h',tk,kl,rfl,x,g,h⟩))) λB j a=>?_
 rcases B with e|fl
 ·exact a
 rcases fl with _|_|_|v
 ·exact a.elim
 ·exact a.elim
 ·exact a.elim
 obtain⟨rfl,h',tk,kl,rfl,x,g,h⟩:=a
 repeat (any_goals (first|assumption|wp_step))
 exact q h' tk kl x g h
def bA9 (A:Around)(h0:Heap)(D:Addr):Kset prog w κ A h0 D (λh kl=>uQ knd h D kl) (λk v=>knd.is k v=true/\v.scannable=true) 4:=⟨λx e=>x.at e,λ_ _ a l j q=>by unfold setAdd;exact bAR (b7 (knd.pyHash a.1 (aTq a.1 a.2 l j λi b g d c f=>q i _ b g d c f))),aTn⟩
def aQ9 (f:A.handled=none)(d:s.heap.IsList l its)(c:ks.length=its.size)
  (a:∀(i:Nat) (v:Value),its[i]?=some v->∃k,ks[i]?=some k/\knd.is k v=true/\v.scannable=true) (e:its.size<=4)
  (q:∀h' tk kl,uQ knd h' s.heap.objs.size kl->Ded kl ks->(∀b o,b<s.heap.objs.size->s.heap.get? b=some o->h'.get? b=some o)->Q (.ref s.heap.objs.size) { s with heap:=h',toks:=tk }) :
  wpAny (model prog w) A (call (.type "set") [.ref l]) Q E s:=xJ f (bA9 A s.heap s.heap.objs.size) d c a e q
end
end PySem
namespace PySem
open PySem.Spec PyProof.Rows
section
variable {prog:Program}{w:World}
def TxS (prog:Program)(w:World)(h:Heap)(D:Addr)(kl:List Str):Prop:=h.SetOf (strKind prog w) D (λy=>decide (y∈kl)) kl.length
def TxS.at (x:TxS prog w h D kl)(e:∀o,h.get? D=some o->h'.get? D=some o):TxS prog w h' D kl:=by obtain⟨o,b,a,t,c,r⟩:=x;exact⟨o,b,a,t,e o c,r⟩
def aZ6 (A:Around)(h0:Heap)(D:Addr):Kset prog w Str A h0 D (λh kl=>TxS prog w h D kl) (λk v=>∃t,v=.str k t) 1000:=⟨λx e=>x.at e,λ{j E s kl k v Q} _ _ f c l q=>by
 obtain⟨t,rfl⟩:=f;unfold setAdd;refine bAR (b7 ((strKind prog w).pyHash (k:=k) (strKind_is _ _ _ _) ?_));refine wpAny_setAddHashed_of (knd:=strKind prog w) (strKind_is _ _ _ _) rfl c (by unfold scanBound;lia) λd b a=>q d _ (if k∈kl then kl else kl++[k]) _ b ?_ (.refl _);have g:(λy=>decide (y∈if k∈kl then kl else kl++[k]))=λy=>(decide (y∈kl) || decide (y=k)):=funext λy=>by
  by_cases z:k∈kl
  ·rw[if_pos z,bCG];simp only[Bool.or_eq_true,decide_eq_true_eq];exact⟨.inl,λh=>h.elim id λe=>e ▸ z⟩
  ·rw[if_neg z,bCG];simp only[Bool.or_eq_true,decide_eq_true_eq,bFM,bEM]
 show Heap.SetOf _ _ _ _ _;rw[g];by_cases z:k∈kl
 ·rw[if_pos (m9 z)] at a;rw[if_pos z];exact a
 ·rw[if_neg (by rw[v9 z];exact v5)] at a;rw[if_neg z,w6];exact a,λi=>(PyProof.Rows.setObjOf_fresh (knd:=strKind prog w) (!byT w)).setOf i (by decide)⟩
theorem aDd:∀(ss kl:List Str),kl.Nodup->(∀x∈kl,x∈ss)->kl.length<=ss.length/\(kl.length=ss.length->ss.Nodup)
 |[],kl,_,h=>by
  cases kl with
  |nil=>exact⟨d8 _,λ_=>List.nodup_nil⟩
  |cons a l=>exact absurd (h a j0) bAB
 |a::r,kl,nd,h=>by
  by_cases z:a∈kl
  ·have m:=List.length_erase_of_mem z;have i:∀x∈kl.erase a,x∈r:=λx b=>by obtain⟨c,d⟩:=(nd.mem_erase_iff).mp b;exact (List.mem_cons.mp (h x d)).resolve_left c
   obtain⟨k,j⟩:=aDd r _ (nd.erase a) i;have f:=List.length_pos_of_mem z;refine⟨by rw[m8];lia,λe=>?_⟩;rw[m8] at e;refine List.nodup_cons.mpr ⟨λg=>?_,j (by lia)⟩;have:=(aDd r kl nd λx b=>(List.mem_cons.mp (h x b)).elim (λe=>e ▸ g) id).1;lia
  ·have:=(aDd r kl nd λx b=>(List.mem_cons.mp (h x b)).resolve_left λe=>z (e ▸ b)).1;exact⟨by rw[m8];lia,λe=>by rw[m8] at e;lia⟩
def aIe {b c:List Str}(d:Ded b c):b.length=c.length↔c.Nodup:=
 ⟨(aDd c b d.1 λx a=>(d.2.1 x).mp a).2,λe=>Nat.le_antisymm d.2.2 (aDd b c e λx a=>(d.2.1 x).mpr a).1⟩
end
end PySem
namespace L2
open PySem PySem.Spec PyProof.Rows
def aV9 (P:Program)(w:World)(D:Addr)(kl:List Str):HO:=.ext λh=>TxS P w h D kl
section
variable {X:Cx}
def bA0 (P:Program)(w:World)(K:bF4):List V->Hp->VK->Prop:=λxs H Q=>∃p ss,xs=[.ref p]/\SqL K H p (ss.map V.str)/\ss.length<=1000/\∀D kl,H D=none->Ded kl ss->Q (.ref D) (upd H D (aV9 P w D kl))
def aMt (T:X.calm=true):cH X (.type "set") (bA0 X.prog X.w X.K):=by
 intro A s σ H O N Q I r h;obtain⟨p,L,rfl,z,E,q⟩:=h;obtain⟨u,rfl,F⟩:=r.one;cases F;obtain⟨d,j,D,P⟩:=I.list z;have a:=j.length;rw[j6] at a;refine xJ (I.ok.hd T) (aZ6 _ _ _) D.isList (by rw[d9];exact a) (λi v G=>?_) (by rw[d9,<-a];exact E) λl R f x C B=>?_
 ·have c:d[i]?=some v:=by simpa using G
  have g:i<L.length:=by rw[a];exact (List.getElem?_eq_some_iff.mp c).1
  obtain⟨u,m,t,rfl⟩:=j.get (by rw[v7,b8 g];rfl);rw[c] at m;cases m;exact⟨_,b8 g,t,rfl⟩
 ·have e:∃o,l.get? s.heap.objs.size=some o:=by obtain⟨o,_,_,_,J,_⟩:=x;exact⟨o,J⟩
  exact⟨.ref s.heap.objs.size,_,I.laid (o:=aV9 X.prog X.w s.heap.objs.size f) (λb o n=>B b o (j9 n) n) (d8 _) (show TxS X.prog X.w l s.heap.objs.size f/\_/\_ from ⟨x,e,λM S y k=>y.at k⟩),rfl,q _ _ (I.hok.fresh (d8 _)) C⟩
def aN9:cH X (.builtin "len") (λxs H Q=>∃D kl,xs=[.ref D]/\H D=some (aV9 X.prog X.w D kl)/\Q (.int (kl.length:Nat)) H):=by intro e s σ H xs n Q I r h;obtain⟨D,l,rfl,g,q⟩:=h;obtain⟨u,rfl,c⟩:=r.one;cases c;obtain⟨⟨o,m,p,t,i,a,hd,d,b,k,f,j⟩,_⟩:=I.hok D _ g;refine call_len_set i a hd f (by unfold scanBound at k;lia) ?_;rw[j];exact⟨.int (l.length:Nat),H,I.tok _,⟨_,rfl⟩,q⟩
def bFa (K:bF4):List V->Hp->VK->Prop:=λxs H Q=>∃(p:Addr) (bs:List Bool),xs=[.ref p]/\SqL K H p (bs.map V.bl)/\Q (.bl (bs.any id)) H
def any_range (bs:List Bool):(List.range bs.length).any (λi=>bs.getD i false)=bs.any id:=by
 rw[bCG,bDX,bDX];constructor
 ·rintro⟨i,a,h⟩;have a:=List.mem_range.mp a;rw[j4,b8 a] at h;exact⟨_,bAT a,h⟩
 ·rintro⟨b,c,h⟩;obtain⟨i,a,e⟩:=List.mem_iff_getElem.mp c;refine⟨i,List.mem_range.mpr a,?_⟩;rw[j4,b8 a];rw[e];exact h
def aUw (P:X.calm=true):cH X (.builtin "any") (bFa X.K):=by
 intro x s σ H L J Q I r h;obtain⟨p,c,rfl,w,q⟩:=h;obtain⟨u,rfl,E⟩:=r.one;cases E;obtain⟨d,n,g,M⟩:=I.list w;have j:=n.length;rw[j6] at j;have k:p≠s.heap.objs.size:=by obtain⟨o,G,_⟩:=g.isList;exact v8 (j9 G)
 refine call_any_walk (bCO g.isList ?_);refine⟨s.heap.objs.size,_,_,_,_,_,λi=>c.getD i false,rfl,Walks.list (show X.A.in1.handled=none from I.ok.hd P) _ p k d.toArray,⟨⟨_,j8 _ rfl,rfl,rfl⟩,?_⟩,?_,λR N y=>?_⟩
 ·exact g.isList.at λo e=>c7 _ e
 ·intro i v C B O F a;have f:d[i]?=some v:=by simpa using F
  have m:i<c.length:=by rw[j];exact (List.getElem?_eq_some_iff.mp f).1
  obtain⟨u,t,D⟩:=n.get (by rw[v7,b8 m];rfl);rw[f] at t;cases t;cases D;have e:c.getD i false=c[i]:=by rw[j4,b8 m];rfl
  replace a:B (c.getD i false) C:=a;rw[e] at a;exact bBC a
 ·have e:(List.range d.toArray.size).any (λi=>c.getD i false)=c.any id:=by rw[d9,<-j];exact any_range c
  rw[e];refine⟨.bl (c.any id),H,?_,rfl,q⟩;exact I.kept λb o l=>y b o (by
   intro z;have:b=s.heap.objs.size:=by simpa using z
   rw[this] at l;exact absurd (j9 l) (bBM _)) (c7 _ l)
def bAz:List V->Hp->VK->Prop:=λxs H Q=>∃z:Str,xs=[.str z]/\z.length<=1000/\∀l H',H l=none->Same H H'->H' l=some (.lst ((List.range z.cps.size).map λi=>V.str (sgn z i)))->Q (.ref l) H'
theorem aCh (z:Str):∀(n k:Nat) (vs:List Value),vs.length=n->(∀(j:Nat) (v:Value),vs[j]?=some v->∃t,v=.str (sgn z (k+j)) t)->Vals ((List.range' k n).map λi=>V.str (sgn z i)) vs
 |0,k,[],_,_=>.nil
 |n+1,k,v::vs,hl,h=>by obtain⟨t,rfl⟩:=h 0 v rfl;rw[List.range'_succ,bAL];refine .cons ⟨t,rfl⟩ (aCh z n (k+1) vs (by simpa using hl) λj u e=>?_);obtain⟨a,b⟩:=h (j+1) u e;exact⟨a,by rw[b,show k+(j+1)=k+1+j by lia]⟩
def aNv (D:X.calm=true):cH X (.type "list") bAz:=by
 intro m s σ H C B Q I r h;obtain⟨z,rfl,f,q⟩:=h;obtain⟨u,rfl,t,rfl⟩:=vals1 r;refine call_list_str (I.ok.hd D) z t (λE l a x n w b=>?_) (small f);have g:=aCh z z.cps.size 0 a.toList (by rw[v4];exact b.1) λj v e=>by have A:=b.2 j v (by rw[<-bBO];exact e);obtain⟨c,t',p,y⟩:=A;refine⟨t',?_⟩;rw[y];unfold sgn;rw[bDN,v6,p];rfl
 rw[<-List.range_eq_range'] at g;have k:a.toList.toArray=a:=by simp
 have d:H s.heap.objs.size=none:=I.hok.fresh (d8 _);refine⟨.ref s.heap.objs.size,_,I.laid (t':=l) (o:=.lst ((List.range z.cps.size).map λi=>V.str (sgn z i))) n (d8 _) ?_,rfl,q _ _ d (aW d _) aF⟩;refine⟨by rw[j6,bAH];exact small f,a.toList,x,g,?_⟩;rw[k];exact w
end
def aMj {X:Cx}{K:bF4}(h:X.K=K:=by rfl):OpR X (compareOp .In) (rIn K false):=by subst h;exact xT
structure bB7 (E:Hp->Hp->Prop)(H:Hp):Prop where
 new:∀D o,H D=none->E H (upd H D o)
 trans:∀{H1 H2},E H H1->E H1 H2->E H H2
 upd:∀D o H',H D=none->E H H'->E H (upd H' D o)
 keep:∀D H1 H2 xs,H D=none->E H H1->H1 D=some (.lst xs)->E H1 H2->H2 D=some (.lst xs)
def aOr (H:Hp):bB7 Same H:=⟨λD o h=>aW h o,λa b=>a.trans b,λD o c h s=>gG h s,λD d f e _ _ h s=>s _ _ h⟩
def pH (J:It)(H1:Hp)(σ0:L2.St)(g:TG)(tt:TT)(te:TE)(Q:VK):Prop:=∀D,H1 D=none->∃W:Nat->Nat->L2.St->Hp->List V->Prop,(∃m,W 0 m σ0 (L2.upd H1 D (.lst [])) []) /\
 ∀i m σ' H' ys,W i m σ' H' ys->H' D=some (.lst ys)/\((J.stop i H'/\Q (.ref D) H')\/(J.go i H'/\∀x H2,J.yld i H' x H2->g x σ' H2 fun σ3 H3=>tt σ3 H3 λb H4=>
  if b=true then te σ3 H4 λy H5=>H5 D=some (.lst ys)/\ys.length<sizeLine/\∃m',m'<m/\W (i+1) m' σ3 (L2.upd H5 D (.lst (ys++[y]))) (ys++[y]) else H4 D=some (.lst ys)/\∃m',m'<m/\W (i+1) m' σ3 H4 ys))
section
variable {X:Cx}{K:bF4}{scope:Scope}{N:List Str}{tl te:TE}{tt:TT}{g:TG}{σ:L2.St}{H:Hp}{Q:VK}
def iW (c:L2.St)(b:Cap X scope N σ c)(h:tl σ H λv H1=>∃a,v=.ref a/\(∃xs,SqL K H1 a xs)/\pH (Itl K a) H1 c g tt te Q):jD X scope N (aFh K tl) g tt te σ H Q:=⟨c,b,h⟩
def vL (c:L2.St)(b:Cap X scope N σ c)(h:tl σ H λv H1=>∃a,v=.ref a/\(∃xs,SqT K H1 a xs)/\pH (Itt K a) H1 c g tt te Q):jD X scope N (aX7 K tl) g tt te σ H Q:=⟨c,b,h⟩
def aG8 {a:Addr}{xs:List V}{E:Hp->Hp->Prop}(g:∀H',E H H'->SqT K H' a xs):∀H' i x,E H H'->xs[i]?=some x->(Itt K a).go i H'/\∀y H2,(Itt K a).yld i H' y H2->H2=H'/\y=x:=λH' i x s e=>
 ⟨⟨xs,x,g H' s,e⟩,λy H2 c=>by obtain⟨f,d⟩:=c;have b:=d xs (g H' s);rw[e] at b;cases b;exact⟨f,rfl⟩⟩
def uT {a:Addr}{xs:List V}{E:Hp->Hp->Prop}(b:∀H',E H H'->SqT K H' a xs):∀H',E H H'->(Itt K a).stop xs.length H':=λH' s=>⟨xs,b H' s,d8 _⟩
def aYt {a:Addr}{xs:List V}{E:Hp->Hp->Prop}(g:∀H',E H H'->SqL K H' a xs):∀H' i x,E H H'->xs[i]?=some x->(Itl K a).go i H'/\∀y H2,(Itl K a).yld i H' y H2->H2=H'/\y=x:=λH' i x s e=>
 ⟨⟨xs,x,g H' s,e⟩,λy H2 c=>by obtain⟨f,d⟩:=c;have b:=d xs (g H' s);rw[e] at b;cases b;exact⟨f,rfl⟩⟩
def aRm {a:Addr}{xs:List V}{E:Hp->Hp->Prop}(b:∀H',E H H'->SqL K H' a xs):∀H',E H H'->(Itl K a).stop xs.length H':=λH' s=>⟨xs,b H' s,d8 _⟩
inductive rO (R:Nat->V->Prop):List Nat->List V->Prop
 |nil:rO R [] []
 |cons {i y is ys}:R i y->rO R is ys->rO R (i::is) (y::ys)
theorem rO.snoc (h:rO R is ys)(r:R i y):rO R (is++[i]) (ys++[y]):=by
 induction h with
 |nil=>exact .cons r .nil
 |cons r' _ ih=>exact .cons r' ih
theorem rO.imp (h:rO R is ys)(k:∀i y,R i y->S i y):rO S is ys:=by
 induction h with
 |nil=>exact .nil
 |cons r _ ih=>exact .cons (k _ _ r) ih
theorem rO.len {R:Nat->V->Prop}{is:List Nat}{ys:List V}(h:rO R is ys):is.length=ys.length:=by
 induction h with
 |nil=>rfl
 |cons _ _ ih=>rw[m8,m8,ih]
def aIv (E:Hp->Hp->Prop)(n:bB7 E H)(xs:List V)(p:Nat->Bool)(Rel:Nat->Hp->V->Prop)
  (A:∀{i H1 H2 y},E H H1->E H1 H2->Rel i H1 y->Rel i H2 y) (B:∀{i H1 D ys zs y},H D=none->E H H1->H1 D=some (.lst ys)->Rel i H1 y->Rel i (L2.upd H1 D (.lst zs)) y)
  (At:Nat->L2.St->Prop) (P:L2.St->Prop) (S:P σ0) (hsz:xs.length<=sizeLine)
  (J:It) (W:∀H' i x,E H H'->xs[i]?=some x->J.go i H'/\∀y H2,J.yld i H' y H2->H2=H'/\y=x) (w:∀H',E H H'->J.stop xs.length H')
  (O:∀(i:Nat) (x:V) σ' H' Q',xs[i]?=some x->P σ'->E H H'->(∀σ2,P σ2->At i σ2->Q' σ2 H')->g x σ' H' Q')
  (T:∀(i:Nat) (x:V) σ2,xs[i]?=some x->At i σ2->∀H' R,E H H'->(∀H2,E H' H2->R (p i) H2)->tt σ2 H' R)
  (L:∀(i:Nat) (x:V) σ2,xs[i]?=some x->At i σ2->p i=true->∀H' R,E H H'->(∀y H2,E H' H2->Rel i H2 y->R y H2)->te σ2 H' R)
  (q:∀D H' ys,E H H'->H D=none->H' D=some (.lst ys)->rO (λi y=>Rel i H' y) (sel p 0 (List.range xs.length)) ys->Q (.ref D) H'):pH J H σ0 g tt te Q:=by
 intro D c;refine⟨λi m σ' H' ys=>i<=xs.length/\m=xs.length - i/\P σ'/\E H H'/\H' D=some (.lst ys)/\rO (λi y=>Rel i H' y) (sel p 0 (List.range i)) ys,⟨xs.length,bAC _,rfl,S,n.new _ _ c,aF,.nil⟩,?_⟩;rintro i m σ' H' ys ⟨hi,rfl,hps,sm,hL,hR⟩;refine⟨hL,?_⟩;by_cases d:i<xs.length
 ·right;have o:=b8 d;obtain⟨F,C⟩:=W H' i xs[i] sm o;refine⟨F,λx H2 G=>?_⟩;obtain⟨rfl,rfl⟩:=C x H2 G;have v:sel p 0 (List.range (i+1))=sel p 0 (List.range i)++(if p i then [i] else []):=by rw[List.range_succ,aBi,bAH,bDN]
  have M:=hR.len;have K:=aFz p 0 (List.range i);rw[bAH] at K;refine O i xs[i] σ' _ _ o hps sm fun σ2 k l=>?_;refine T i xs[i] σ2 o l _ _ sm λN s=>?_;have a:=n.trans sm s;have f:=n.keep D _ _ _ c sm hL s;cases t:p i with
  |true=>rw[if_pos rfl];refine L i xs[i] σ2 o l t _ _ a λy U u I=>?_;have b:=n.trans a u;have h:=n.keep D _ _ _ c a f u;refine⟨h,by lia,xs.length - (i+1),by lia,d,rfl,k,n.upd D _ _ c b,aF,?_⟩;rw[v,t];exact rO.snoc (hR.imp λj z r=>B c b h (A a u (A sm s r))) (B c b h I)
  |false=>rw[if_neg (by simp)];refine⟨f,xs.length - (i+1),by lia,d,rfl,k,a,f,?_⟩;rw[v,t];simp only[bAU,if_false,bBB];exact hR.imp λj z r=>A sm s r
 ·left;have e:i=xs.length:=by lia
  subst e;exact⟨w _ sm,q D _ ys sm c hL hR⟩
end
def At1 (σ0:L2.St)(v:V)(σ:L2.St):Prop:=∃l,σ=(σ0.set 0 l).set 0 (some v)
def Ps1 (σ0:L2.St)(σ:L2.St):Prop:=∃l,σ=σ0.set 0 l
def At2 (σ0:L2.St)(a b:V)(σ:L2.St):Prop:=σ=(σ0.set 0 (some a)).set 1 (some b)
def Ps2 (σ0:L2.St)(σ:L2.St):Prop:=∃l m,σ=(σ0.set 0 l).set 1 m
def hg1 {σ0:L2.St}{i:Nat}{x:V}{σ':L2.St}{H':Hp}{Q':L2.St->Hp->Prop}(h:Ps1 σ0 σ')(q:∀σ2,Ps1 σ0 σ2->At1 σ0 x σ2->Q' σ2 H'):bO 0 x σ' H' Q':=by obtain⟨l,rfl⟩:=h;exact q _ ⟨some x,by rw[bCD]⟩ ⟨l,rfl⟩
def hg2 {K:bF4}{c:L2.St}{p:Addr}{a b:V}{σ':L2.St}{H':Hp}{Q':L2.St->Hp->Prop}(d:SqT K H' p [a,b])(h:Ps2 c σ')(q:∀σ2,Ps2 c σ2->At2 c a b σ2->Q' σ2 H'):aNd K 2 (sW (bO 0) (sW (bO 1) aQd)) (.ref p) σ' H' Q':=by
 obtain⟨l,m,rfl⟩:=h;have e:(((c.set 0 l).set 1 m).set 0 (some a)).set 1 (some b)=(c.set 0 (some a)).set 1 (some b):=by rw[List.set_comm _ _ (show (1:Nat)≠0 by decide),bCD,bCD]
 refine⟨p,_,rfl,d,rfl,_,_,rfl,_,_,rfl,rfl,?_⟩;rw[e];exact q _ ⟨some a,some b,rfl⟩ rfl
def oJ (xs:List V)(n:Nat):mZ xs none (some (n:Int))=xs.take n:=by
 unfold mZ;rw[HT.aJp,HT.aOt,List.drop_zero,Nat.sub_zero];by_cases h:n<=xs.length
 ·rw[Nat.min_eq_left h]
 ·rw[Nat.min_eq_right (by lia),bCW,bAW (by lia)]
def rM (xs:List V)(n:Nat):mZ xs (some (n:Int)) none=xs.drop n:=by
 unfold mZ;rw[HT.aJp,HT.aOt];by_cases h:n<=xs.length
 ·rw[Nat.min_eq_left h];exact bAW (by rw[bBT];lia)
 ·rw[Nat.min_eq_right (by lia),List.drop_length,bEW (by lia),bEE]
def bEs (K:bF4):V->Option Int->Option Int->Hp->VK->Prop:=λx lo hi H Q=>∃a xs,x=.ref a/\SqL K H a xs/\∀p H',H p=none->Same H H'->H' p=some (.lst (mZ xs lo hi))->Q (.ref p) H'
def wC:SlR X (bEs X.K):=λb s σ H x v f l o i k Q I j d g n ⟨a,h,e,m,q⟩=>
 aXk b s σ H x v f l o i k Q I j d g n ⟨a,h,e,m,λp c=>q p _ c (aW c _) aF⟩
end L2
namespace L2
open PySem PySem.Spec PyProof.Rows
inductive Al2 {α β:Type}(R:α->β->Prop):List α->List β->Prop
 |nil:Al2 R [] []
 |cons {a b as bs}:R a b->Al2 R as bs->Al2 R (a::as) (b::bs)
theorem Al2.len {α β:Type}{R:α->β->Prop}{as:List α}{bs:List β}(h:Al2 R as bs):as.length=bs.length:=by
 induction h with
 |nil=>rfl
 |cons _ _ ih=>rw[m8,m8,ih]
theorem Al2.at {α β:Type}{R:α->β->Prop}{as:List α}{bs:List β}(h:Al2 R as bs):∀{j:Nat} {a:α},as[j]?=some a->∃b,bs[j]?=some b/\R a b:=by
 induction h with
 |nil=>intro j a e;simp at e
 |cons r _ ih=>
  intro j a e;cases j with
  |zero=>cases e;exact⟨_,rfl,r⟩
  |succ j=>exact ih (by simpa using e)
def DEq (K:bF4)(H:Hp):Nat->V->V->Prop
 |0,x,y=>iZ x=true/\x=y
 |n+1,x,y=>(iZ x=true/\x=y)\/∃a b xs ys,x=.ref a/\y=.ref b/\SqT K H a xs/\SqT K H b ys/\Al2 (DEq K H n) xs ys
theorem aEp (h:iZ x=true)(a:RelV x v)(d:RelV x u):SeqAt.EqAt A s v u true:=by
 cases x with
 |non=>cases a;cases d;exact bEI _
 |bl b=>cases a;cases d;exact bEI _
 |int i=>obtain⟨t,rfl⟩:=a;obtain⟨c,rfl⟩:=d;have z:=bEL (A:=A) (s:=s) i t i c;simpa using z
 |str y=>obtain⟨t,rfl⟩:=a;obtain⟨c,rfl⟩:=d;have z:=bDK (A:=A) (s:=s) y t y c;simpa using z
 |_=>cases h
section
variable {X:Cx}{bF8:bF6}{σ:L2.St}{H:Hp}{s:Shared}
def tV (I:Inv X bF8 σ H s)(m:Vals xs its)(p:Vals ys jts)(h:Al2 (DEq X.K H n) xs ys)
  (q:∀{x y v u},DEq X.K H n x y->RelV x v->RelV y u->SeqAt.EqAt A s v u true):∀(j:Nat) (h1:j<its.toArray.size) (h2:j<jts.toArray.size),SeqAt.EqAt A s its.toArray[j] jts.toArray[j] ((λ_=>true) j):=λj h1 h2=>by
 have r:=m.length;have a:j<xs.length:=by rw[d9] at h1;lia
 obtain⟨y,e,d⟩:=h.at (b8 a);obtain⟨f,c,o⟩:=m.get (b8 a);obtain⟨g,b,k⟩:=p.get e;have l:its.toArray[j]=f:=by rw[bCA];exact (List.getElem?_eq_some_iff.mp c).2
 have i:jts.toArray[j]=g:=by rw[bCA];exact (List.getElem?_eq_some_iff.mp b).2
 rw[l,i];exact q d o k
def uY (n:Nat):(List.range n).all (λ_=>true)=true:=by rw[bBZ];intro _ _;rfl
theorem xM (I:Inv X bF8 σ H s):∀(n:Nat) {A:Around} {x y:V} {v u:Value},DEq X.K H n x y->RelV x v->RelV y u->A.units+n<cLine->SeqAt.EqAt A s v u true
 |0,A,x,y,v,u,h,rv,ru,_=>by obtain⟨h,rfl⟩:=h;exact aEp h rv ru
 |n+1,A,x,y,v,u,h,rv,ru,hu=>by
  rcases h with⟨h,rfl⟩|⟨a,b,xs,ys,rfl,rfl,ha,hb,h⟩
  ·exact aEp h rv ru
  cases rv;cases ru;by_cases e:a=b
  ·subst e;exact bEI _
  obtain⟨c,i,k,q⟩:=I.tuple ha;obtain⟨f,g,j,p⟩:=I.tuple hb;refine SeqAt.EqAt.of_refs e ?_;have z:=SeqAt.RcAt.tuples (A:=A) (e:=λ_=>true) (show s.heap.IsTuple a c.toArray from k) (show s.heap.IsTuple b f.toArray from j) (by lia) (tV I i g h λd o l=>xM I n d o l (by show A.units+1+n<cLine;lia));have m:(c.toArray.size == f.toArray.size)=true:=by rw[d9,d9];have:=i.length;have:=g.length;have:=h.len;simp;lia
  rw[uY,m] at z;exact z
end
def bDx (K:bF4)(r:Bool):R2:=λx y H Q=>∃a b xs ys,x=.ref a/\y=.ref b/\SqT K H a xs/\SqT K H b ys/\Al2 (DEq K H 40) xs ys/\Q (.bl r) H
def aU3 (hu:X.A.units+64<cLine):OpR X (compareOp .NotEq) (bDx X.K false):=by
 intro k s σ H x y v u Q I o t h;obtain⟨a,b,z,D,rfl,rfl,p,r,h,q⟩:=h;cases o;cases t;obtain⟨c,i,n,C⟩:=I.tuple p;obtain⟨f,g,j,B⟩:=I.tuple r;refine SeqAt.RcNeAt.tuples (e:=λ_=>true) (show s.heap.IsTuple a c.toArray from n) (show s.heap.IsTuple b f.toArray from j) (by lia) (tV I i g h λd m l=>xM I 40 d m l (by show X.A.units+1+40<cLine;lia)) _ _ _ _ ?_;have w:(c.toArray.size == f.toArray.size)=true:=by rw[d9,d9];have:=i.length;have:=g.length;have:=h.len;simp;lia
 rw[uY,w];exact⟨.bl _,H,I,rfl,q⟩
section
variable {X:Cx}
def bD7:R2:=λx y H Q=>(∃a b,x=.int a/\y=.int b/\Q (.bl (decide (a<b))) H)\/∃a b:Str,x=.str a/\y=.str b/\Q (.bl (decide (a.cps.toList<b.cps.toList))) H
def bAf:OpR X (compareOp .Lt) bD7:=by
 intro e s σ H x y v u Q I c d h;rcases h with⟨a,b,rfl,rfl,q⟩|⟨a,b,rfl,rfl,q⟩
 ·obtain⟨t,rfl⟩:=c;obtain⟨f,rfl⟩:=d;exact lt_int ⟨.bl _,H,I,rfl,q⟩
 ·obtain⟨t,rfl⟩:=c;obtain⟨f,rfl⟩:=d;exact lt_str ⟨.bl _,H,I,rfl,q⟩
def aY4 (K:bF4):V->List V->Hp->VK->Prop:=λx vs H Q=>∃(l:Addr) (ss:List Str) (n:Str) (i:Nat),x=.ref l/\vs=[.str n]/\SqL K H l (ss.map V.str)/\ss.length<=1000/\ss[i]?=some n/\(∀(j:Nat) (m:Str),j<i->ss[j]?=some m->m≠n)/\Q (.int (i:Nat)) H
def aOb (n:Str):Value->Bool
 |.str x _=>x == n
 |_=>false
def aEs:MtR X "list.index" (aY4 X.K):=by
 intro M s σ H x vs v us Q I W Z h;obtain⟨l,g,n,i,rfl,rfl,U,A,C,o,q⟩:=h;cases W;obtain⟨u,rfl,T⟩:=Z.one;obtain⟨t,rfl⟩:=T;obtain⟨a,r,S,hz⟩:=I.list U;have P:=r.length;rw[j6] at P;obtain⟨⟨N,R,D,L⟩,G,E,O,hd⟩:=id S.isList;simp only at E hd;subst E hd;have Y:=(List.getElem?_eq_some_iff.mp C).1;have b:∀{j:Nat} (k:j<a.length),∃m c,g[j]?=some m/\a[j]=.str m c:=λ{j} k=>by
  have f:j<g.length:=by lia
  obtain⟨w,J,B⟩:=r.get (show (g.map V.str)[j]?=some (.str g[j]) by rw[v7,b8 f];rfl);obtain⟨c,rfl⟩:=B;exact⟨g[j],c,b8 f,(List.getElem?_eq_some_iff.mp J).2⟩
 refine call_meets PySem.F.slot_list_index ⟨_,G,rfl⟩ PySem.F.entry_list_index (PySem.F.args_list_index_2 _ _)
  (SeqAt.list_indexAt l a.toArray O R L (.str n t) (aOb n) i (by rw[d9];lia) (by lia) ?_ ?_) ⟨G,λy z=>?_,⟨.int _,H,I.tok _,⟨_,rfl⟩,q⟩⟩
 ·obtain⟨m,c,d,e⟩:=b (j:=i) (by lia);rw[C] at d;cases d;show aOb n a[i]=true;rw[e];show (n == n)=true;simp
 ·intro j k p;obtain⟨m,c,d,e⟩:=b (j:=j) (by simpa using k);show aOb n a[j]=false;rw[e];have:=o j m p d;show (m == n)=false;simpa using this
 ·have z:y∈a:=by simpa using z
  obtain⟨j,k,rfl⟩:=bBA z;obtain⟨m,c,d,e⟩:=b (j:=j) k;rw[e];exact bDK m c n t
end
end L2
namespace L2
open PySem PySem.Spec PyProof.Rows Builtin
section
variable {prog:Program}{w:World}{A:Around}{E:bF5}{s:Shared}
end
section
variable {X:Cx}
def bDq (K:bF4):List V->Hp->VK->Prop:=λxs H Q=>∃l us,xs=[.ref l,.ty "list"]/\SqL K H l us/\Q (.bl true) H
def aQc:cH X (.builtin "isinstance") (bDq X.K):=by intro e s σ H k j Q I r h;obtain⟨l,m,rfl,b,q⟩:=h;obtain⟨u,v,rfl,d,i⟩:=r.two;obtain rfl:v=Value.type "list":=i;obtain rfl:u=Value.ref l:=d;obtain⟨c,n,a,_⟩:=I.list b;obtain⟨o,g,f,_⟩:=id a.isList;exact call_isinstance (isinstance_true F.isi_meta_list F.isi_self_list) ⟨⟨o,g,f⟩,⟨.bl true,H,I,rfl,q⟩⟩
end
variable {X:Cx}
section
variable {X:Cx}{a b e:Expr}{es:List Expr}{ta tb te:TE}{t:TA}{pos p pos' apos:Pos}{x m:Str}{k k0:Nat}{ps:List Str}{sp:Sp}{C:Addr}{o:Expr}
def aY (i:Nat)(f:VE X e te)(d:X.N.Nodup:=by assumption)(hi:X.N[i]?=some x:=by rfl)(c:Loc X.env.scope x:=by first|exact Or.inl rfl|exact Or.inr rfl)(a:swapsWith e (some (.Name x pos')) pos.line X.env=pure false:=by rfl)(b:X.fn x=true\/X.env.scope.names.lookup x=some .local:=by first|exact .inl rfl|exact .inr rfl|assumption):VS X (.Assign [.Name x pos'] e pos) (aBs te (bO i)):=bB6 d hi c f a b
def cR (i:Nat)(a:X.N.Nodup:=by assumption)(hi:X.N[i]?=some x:=by rfl)(c:Loc X.env.scope x:=by first|exact Or.inl rfl|exact Or.inr rfl)(b:X.fn x=true\/X.env.scope.names.lookup x=some .local:=by first|exact .inl rfl|exact .inr rfl|assumption):VG X (.Name x pos) (bO i):=bJ a hi c b
def aV (G:Ok X.prog X.w X.K X.mg X.base k0 x ps sp)(f:VA X (e::es) t)(g:Room k X.A:=by assumption)(h:k0<=k:=by decide)(c:Gl X x:=by rfl)(b:(x == ("__debug__":Str))=false:=by decide)(d:cM e=true:=by rfl)(a:(backTo pos (starEach es X.env)).any (·.1)=false:=by rfl):VE X (.Call (.Name x p) (e::es) [] pos) (aCf sp [] E0 t):=bDr (G.mono h) g c f b d a
def iB (G:OkM X.prog X.w X.K X.mg X.base C k0 m ps sp)(c:VE X o ta)(g:VA X (e::es) t)(h:Room k X.A:=by assumption)(i:k0<=k:=by decide)(d:cM e=true:=by rfl)(a:(backTo pos (starEach es X.env)).any (·.1)=false:=by rfl)
  (b:eval (.Call (.Attribute o m apos) (e::es) [] pos) X.env=(do
   let ov <-eval o X.env
   standAt apos.atName
   let (f,first) <-holding [ov] (getMethod ov m pl)
   callWith pos f first (backTo pos (starEach (e::es) X.env)) (backToKw pos (keywordEach [] X.env))):=by rfl):VE X (.Call (.Attribute o m apos) (e::es) [] pos) (aLq C m sp [] E0 ta t):=aYq (G.mono i) h c g d a b
def aO (c:IxR X r)(e:VE X a ta)(f:VE X b tb)(d:aGl b:=by exact λ_ _=>rfl):VE X (.Subscript a b pos) (tOp r ta tb):=bDd c e f d
def cZ (ho:OpR X (compareOp op) r)(c:VE X a ta)(d:VE X b tb)(e:behindInMarks op b=false:=by exact aUy _):VT X (.Compare a [op] [b] pos) (aLo (tOp r ta tb)):=aO6 ho c d e
def wR (ho:OpR X (compareOp op) r)(c:VE X a ta)(d:VE X b tb)(e:behindInMarks op b=false:=by exact aUy _):VE X (.Compare a [op] [b] pos) (tOp r ta tb):=rH ho c d e
def va1 (b:VE X e te)(a:cM e=true:=by rfl):VA X [e] (dI te aAj):=aH b xR a
end
end L2
namespace My
open PySem PySem.Spec PyProof.Rows L2
def top (i:Nat):Stmt:=PySem.Challenge.pw_shardask_k64_settle.main.body.getD i (.Pass ⟨0,0,0,0⟩)
abbrev aC4:Stmt:=top 19
abbrev lH:Stmt:=top 20
abbrev aFg:Stmt:=top 21
abbrev aAe:Stmt:=top 22
abbrev iU:Stmt:=top 23
abbrev vZ:Stmt:=top 24
abbrev aBu:Stmt:=top 25
abbrev aEj:Stmt:=top 26
abbrev aC3:Stmt:=top 27
abbrev aEq:Stmt:=top 28
abbrev sV:Stmt:=top 29
abbrev pX:Stmt:=top 30
abbrev aFk:Stmt:=top 31
abbrev aI9:Stmt:=top 32
abbrev sI:Stmt:=top 33
abbrev aUb:Stmt:=top 34
abbrev aEf:Stmt:=top 36
abbrev aBc:Stmt:=top 38
abbrev aIz:Stmt:=top 42
abbrev tR:Stmt:=top 43
abbrev qX:Stmt:=top 44
abbrev wG:Stmt:=top 45
abbrev uF:Stmt:=top 46
abbrev aDh:Stmt:=top 47
abbrev zJ:Stmt:=top 48
abbrev pC:Stmt:=top 49
abbrev aB3:Stmt:=top 50
abbrev aLf:Stmt:=top 51
abbrev zY:Stmt:=top 52
abbrev yV:Stmt:=top 53
abbrev jF:Stmt:=classAt (top 54) 0
abbrev kJ:Stmt:=classAt (top 54) 3
abbrev nZ:Stmt:=classAt (top 54) 4
abbrev qJ:Stmt:=classAt (top 54) 6
abbrev aAb:Stmt:=top 56
abbrev zO:Stmt:=top 57
abbrev pR:Stmt:=top 58
abbrev aA7:Stmt:=top 59
abbrev iM:Stmt:=classAt (top 60) 0
abbrev gK:Stmt:=classAt (top 60) 2
abbrev fV:Stmt:=classAt (top 60) 3
abbrev jJ:Stmt:=classAt (top 60) 4
abbrev qU:Stmt:=classAt (top 60) 5
abbrev oU:Stmt:=classAt (top 60) 6
abbrev oA:Stmt:=classAt (top 60) 8
abbrev dD:Stmt:=classAt (top 60) 9
abbrev lO:Stmt:=classAt (top 60) 10
abbrev kY:Stmt:=classAt (top 60) 11
abbrev kZ:Stmt:=classAt (top 60) 12
abbrev gQ:Stmt:=classAt (top 60) 13
abbrev oF:Stmt:=classAt (top 60) 14
abbrev zT:Stmt:=top 62
abbrev zP:Stmt:=top 63
abbrev wF:Stmt:=top 64
abbrev nQ:Stmt:=top 65
abbrev vU:Stmt:=top 66
abbrev vN:Stmt:=top 67
abbrev zH:Stmt:=top 68
abbrev uG:Stmt:=top 69
abbrev zL:Stmt:=top 70
abbrev qP:Stmt:=top 71
abbrev zK:Stmt:=top 72
abbrev jL:Stmt:=top 73
abbrev jY:Stmt:=top 74
abbrev lX:Stmt:=top 75
abbrev dO:Stmt:=top 76
abbrev zZ:Stmt:=top 77
abbrev nG:Stmt:=top 78
abbrev vC:Stmt:=top 79
abbrev qD:Stmt:=top 80
abbrev aA5:Stmt:=top 81
abbrev pY:Stmt:=top 82
abbrev aV1:Stmt:=top 83
abbrev lZ:Stmt:=classAt (top 2) 0
structure Txt (w:World)(K:bF4)(mg:bF7):Prop where
 aGr:mg "ValueError"=none
 aC7:mg "all"=none
 bDt:mg "any"=none
 bAn:mg "bool"=none
 aSe:mg "dict"=none
 aLa:mg "enumerate"=none
 aPy:mg "int"=none
 bR:mg "isinstance"=none
 eV:mg "len"=none
 yE:mg "list"=none
 bEe:mg "max"=none
 jO:mg "range"=none
 aPb:mg "set"=none
 dX:mg "sorted"=none
 aZu:mg "str"=none
 gU:mg "tuple"=none
 aZ0:mg "zip"=none
 iR:∃a,mg "QUESTION_WORDS"=some (.ref a)/\∀H,SqT K H a [.str "and",.str "by",.str "count",.str "down",.str "first",.str "group",.str "join",.str "keep",.str "least",.str "most",.str "named",.str "on",.str "sum",.str "table",.str "up",.str "where",.str "with"]
 aFo:∃u,mg "LETTERS"=some u/\RelV (.str "abcdefghijklmnopqrstuvwxyz") u
 aG5:∃a,mg "KINDS"=some (.ref a)/\∀H,SqT K H a [.str "number",.str "word"]
 aBn:∃u,mg "MOST_LETTERS"=some u/\RelV (.int 8) u
 aBr:∃u,mg "MOST_COLUMNS"=some u/\RelV (.int 8) u
 aIr:∃u,mg "WORD_BASE"=some u/\RelV (.int 27) u
 aD1:∃u,mg "MOST_HOUSES"=some u/\RelV (.int 6) u
 aIi:∃u,mg "MOST_CUTS"=some u/\RelV (.int 8) u
 aAc:∃f o,(∃u,mg "is_column"=some u/\RelV (.ref f) u)/\K.lookup f=some o/\o.cls=.type "function"
 aM5:Dn K mg "is_whole" aC4 ["thing"]
 vQ:Dn K mg "is_number_below" lH ["thing","many"]
 aRp:Dn K mg "is_word" aFg ["thing"]
 aIx:Dn K mg "is_one_of" aAe ["thing","texts"]
 tE:Dn K mg "is_tuple_of" iU ["thing","least","most","is_part"]
 aHb:Dn K mg "are_unlike" vZ ["names"]
 aM3:Dn K mg "names_of" aBu ["head"]
 aQx:Dn K mg "is_name" aEj ["thing"]
 aL5:Dn K mg "is_value" aC3 ["thing"]
 aRf:Dn K mg "kind_of" aEq ["value"]
 aEd:Dn K mg "is_value_of" sV ["thing","kind"]
 aLb:Dn K mg "is_column" pX ["thing"]
 aQ4:Dn K mg "is_head" aFk ["thing"]
 aSw:Dn K mg "is_row" aI9 ["head","thing"]
 aDs:Dn K mg "word_number" sI ["word"]
 bA5:Dn K mg "home" aUb ["value","houses"]
 aR1:Dn K mg "kind_in" aEf ["head","name"]
 aNj:Dn K mg "place_of" aBc ["head","name"]
 aS1:Dn K mg "is_cut" aIz ["thing","houses"]
 aM1:Dn K mg "are_cuts" tR ["thing","kind","houses"]
 aBw:Dn K mg "is_column_in" qX ["head","thing"]
 aHo:Dn K mg "is_placing" wG ["thing","head","houses"]
 aNi:Dn K mg "are_rows" uF ["thing","head"]
 aMe:Dn K mg "is_table" aDh ["thing","houses"]
 aKs:Dn K mg "need_town" zJ ["houses","tables"]
 aAh:Dn K mg "placed_tables" pC ["houses","tables"]
 aMi:Dn K mg "table_in" aB3 ["placed","name"]
 aVa:Dn K mg "cut_of" aLf ["cuts","value"]
 aLh:Dn K mg "stands_at" zY ["head","placing","row","house","houses"]
 aQr:Dn K mg "rows_at" yV ["table","house","houses"]
 aJj:Dn K mg "with_rows" aAb ["table","rows"]
 aKa:Dn K mg "with_cuts" zO ["table","cuts"]
 aLi:Dn K mg "span_rows" pR ["table","number"]
 aNz:Dn K mg "is_above" aA7 ["row","mark"]
 aLu:Dn K mg "_law_seed" zT ["_law_script"]
 aIg:Dn K mg "_law_next" zP ["_law_state","_law_many"]
 aGa:Dn K mg "_law_words" wF []
 aGd:Dn K mg "_law_names" nQ ["_law_state","_law_many"]
 aGs:Dn K mg "_law_great" vU ["_law_state"]
 aG2:Dn K mg "_law_value" vN ["_law_state","_law_kind"]
 aI7:Dn K mg "_law_head" zH ["_law_state","_law_names_here"]
 aOc:Dn K mg "_law_row" uG ["_law_state","_law_head_here"]
 aLk:Dn K mg "_law_home" zL ["_law_value_here","_law_houses"]
 aJ9:Dn K mg "_law_span" qP ["_law_cuts","_law_value_here"]
 aJz:Dn K mg "_law_spot" zK ["_law_head_here","_law_name"]
 aF5:Dn K mg "_law_stood" jL ["_law_table","_law_houses","_law_house"]
 aBx:Dn K mg "_law_of_span" jY ["_law_table"]
 aD2:Dn K mg "_law_stands" lX ["_law_table","_law_houses","_law_house"]
 uP:Dn K mg "_law_spans_begun" dO ["_law_state","_law_names_here","_law_most"]
 aIq:Dn K mg "_law_lent" zZ ["_law_state","_law_table","_law_houses"]
 aF1:Dn K mg "_law_above" nG ["_law_table"]
 aHn:Dn K mg "_law_right" vC ["_law_store","_law_name","_law_table","_law_houses"]
 aBm:Dn K mg "_law_settled" qD ["_law_store","_law_name"]
 aMb:Dn K mg "_law_try" aA5 ["_law_store","_law_name","_law_table"]
 aCp:Dn K mg "_law_changed" pY ["_law_state","_law_store","_law_name","_law_table"]
 bDc:Dn K mg "law" aV1 ["_law_script"]
 bAb:∃C,aVn K mg "Town" C/\eG K C "__init__" "Town.__init__" jF ["self","houses","tables"]/\eG K C "placing" "Town.placing" kJ ["self","name"]/\eG K C "whole" "Town.whole" nZ ["self","name"]/\eG K C "part" "Town.part" qJ ["self","name","house"]/\bL K C "placed"/\bL K C "house_count"
 aWh:∃C,aVn K mg "Store" C/\eG K C "__init__" "Store.__init__" iM ["self","houses","tables"]/\eG K C "cut_table" "Store.cut_table" gK ["self","name"]/\eG K C "need_still" "Store.need_still" fV ["self","name"]/\eG K C "move_of" "Store.move_of" jJ ["self","name"]/\eG K C "put" "Store.put" qU ["self","name","row"]/\eG K C "drop" "Store.drop" oU ["self","name","row"]/\eG K C "lend" "Store.lend" oA ["self","name","number","house"]/\eG K C "rows_to_come" "Store.rows_to_come" dD ["self","name"]/\eG K C "carry" "Store.carry" lO ["self","name","many"]/\eG K C "settle" "Store.settle" kY ["self","name"]/\eG K C "moving" "Store.moving" kZ ["self","name"]/\eG K C "stands" "Store.stands" gQ ["self","name","house"]/\eG K C "town" "Store.town" oF ["self"]/\bL K C "placed"/\bL K C "house_count"/\bL K C "moves"
 bE7:∃C S,ExT K mg lZ "NotYet" "ShardError.__init__" C S/\PySem.W.mroIn K C (.ref C)=some true
abbrev abc:Str:="abcdefghijklmnopqrstuvwxyz"
abbrev words:List V:=[.str "and",.str "by",.str "count",.str "down",.str "first",.str "group",.str "join",.str "keep",.str "least",.str "most",.str "named",.str "on",.str "sum",.str "table",.str "up",.str "where",.str "with"]
def Th (K:bF4)(H:Hp)(v:V):Prop:=(∃x,v=.str x/\x.length<=1000)\/(∃i,v=.int i)\/(∃b,v=.bl b)\/∃k,Rk K H v k
theorem Th.same {K:bF4}{H H':Hp}{v:V}(e:Same H H')(h:Th K H v):Th K H' v:=by
 rcases h with h|h|h|⟨k,h⟩
 ·exact .inl h
 ·exact .inr (.inl h)
 ·exact .inr (.inr (.inl h))
 ·exact .inr (.inr (.inr ⟨k,h.same e⟩))
def aXq:V->String->Bool
 |.int _,T=>T == "int"
 |.str _,T=>T == "str"
 |.bl _,T=>T == "int" || T == "bool"
 |_,_=>false
def isS:V->Bool
 |.str _=>true
 |_=>false
def whole:V->Bool
 |.int _=>true
 |_=>false
def vY {K:bF4}{H:Hp}{v:V}{T:String}{Q:VK}(c:Th K H v)(a:T = "int"\/T = "bool"\/T = "str")(q:Q (.bl (aXq v T)) H):bEl [v,.ty T] H Q\/aZm K [v,.ty T] H Q:=by
 rcases c with⟨x,rfl,_⟩|⟨i,rfl⟩|⟨b,rfl⟩|⟨k,h⟩
 ·refine .inl ⟨_,_,_,rfl,?_,q⟩;rcases a with rfl|rfl|rfl <;> simp[aL8,aXq]
 ·refine .inl ⟨_,_,_,rfl,?_,q⟩;rcases a with rfl|rfl|rfl <;> simp[aL8,aXq]
 ·refine .inl ⟨_,_,_,rfl,?_,q⟩;rcases a with rfl|rfl|rfl <;> simp[aL8,aXq]
 ·refine .inr ⟨_,_,_,rfl,h,a,?_⟩;cases h <;> exact q
def inA (y:Str):Bool:=!(Builtin.Str.occurrences abc y 0 abc.length 1).isEmpty
def allIn (x:Str):Bool:=((List.range x.cps.size).map λi=>inA (sgn x i)).all id
def sG (l:Nat):V->Bool
 |.str x=>decide (l<=x.length) && (decide (x.length<=8) && allIn x)
 |_=>false
def nameB (v:V):Bool:=sG 1 v && !inV v words
def aMx (v:V):Bool:=whole v || sG 0 v
def mG (K:bF4):Sp:=λvs H Q _=>∃v,vs=[v]/\Th K H v/\Q (.bl (whole v)) H
def aDw (K:bF4)(f:V->Bool):Sp:=λvs H Q _=>∃v,vs=[v]/\Th K H v/\∀H',Same H H'->Q (.bl (f v)) H'
def aOi (K:bF4):Sp:=λvs H Q _=>∃v,vs=[v]/\Th K H v/\Q (.str (if whole v then "number" else "word")) H
inductive bAg (K:bF4)(vs:List V)(H:Hp)(Q:VK)(E_:XK):Prop
 |mk (a:Addr) (ns:List Int) (_:vs=[.ref a]) (_:SqL K H a (ns.map V.int)) (_:ns.length<=63) (_:∀H',Q (.bl true) H')
def bC1 {K:bF4}{H:Hp}{a:Addr}{c:List Int}(h:c.length<=63)(b:SqL K H a (c.map V.int)):bAg K [.ref a] H (λv _=>v=.bl true) λ_ _ _=>False:=
 ⟨a,c,rfl,b,h,λ_=>rfl⟩
def aKd:aG ["thing"] ["thing"] (aC aC4):=by trivial
def uN:aG ["thing","many"] ["thing","many"] (aC lH):=by trivial
def aNs:aG ["thing"] ["thing"] (aC aFg):=by trivial
def aGy:aG ["thing","texts"] ["thing","texts"] (aC aAe):=by trivial
def qM:aG ["thing","least","most","is_part"] ["thing","least","most","is_part"] (aC iU):=by trivial
def aD0:aG ["names"] ["names"] (aC vZ):=by trivial
def aKk:aG ["head"] ["head"] (aC aBu):=by trivial
def aMm:aG ["thing"] ["thing"] (aC aEj):=by trivial
def aKb:aG ["thing"] ["thing"] (aC aC3):=by trivial
def aMs:aG ["value"] ["value"] (aC aEq):=by trivial
def aCo:aG ["thing","kind"] ["thing","kind"] (aC sV):=by trivial
def aGh:aG ["thing"] ["thing"] (aC pX):=by trivial
def aLy:aG ["thing"] ["thing"] (aC aFk):=by trivial
def aRx:aG ["head","thing"] ["head","thing"] (aC aI9):=by trivial
def pW:aG ["word","number","letter"] ["word"] (aC sI):=by trivial
def aPm:aG ["value","houses","number"] ["value","houses"] (aC aUb):=by trivial
def aB5:aG ["head","name","column"] ["head","name"] (aC aEf):=by trivial
def aIy:aG ["head","name"] ["head","name"] (aC aBc):=by trivial
def aQy:aG ["thing","houses"] ["thing","houses"] (aC aIz):=by trivial
def zU:aG ["thing","kind","houses","lows"] ["thing","kind","houses"] (aC tR):=by trivial
def aAl:aG ["head","thing"] ["head","thing"] (aC qX):=by trivial
def aDv:aG ["thing","head","houses"] ["thing","head","houses"] (aC wG):=by trivial
def aJi:aG ["thing","head"] ["thing","head"] (aC uF):=by trivial
def aK6:aG ["thing","houses"] ["thing","houses"] (aC aDh):=by trivial
def wV:aG ["houses","tables","name","table"] ["houses","tables"] (aC zJ):=by trivial
def xW:aG ["houses","tables"] ["houses","tables"] (aC pC):=by trivial
def aI6:aG ["placed","name"] ["placed","name"] (aC aB3):=by trivial
def aE9:aG ["cuts","value","number","place"] ["cuts","value"] (aC aLf):=by trivial
def wH:aG ["head","placing","row","house","houses","value","cuts"] ["head","placing","row","house","houses"] (aC zY):=by trivial
def aMu:aG ["table","house","houses"] ["table","house","houses"] (aC yV):=by trivial
def yN:aG ["self","houses","tables"] ["self","houses","tables"] (aC jF):=by trivial
def aAg:aG ["self","name"] ["self","name"] (aC kJ):=by trivial
def aDu:aG ["self","name"] ["self","name"] (aC nZ):=by trivial
def aH7:aG ["self","name","house"] ["self","name","house"] (aC qJ):=by trivial
def aGb:aG ["table","rows"] ["table","rows"] (aC aAb):=by trivial
def aGm:aG ["table","cuts"] ["table","cuts"] (aC zO):=by trivial
def vW:aG ["table","number","place"] ["table","number"] (aC pR):=by trivial
def aI4:aG ["row","mark"] ["row","mark"] (aC aA7):=by trivial
def wX:aG ["self","houses","tables"] ["self","houses","tables"] (aC iM):=by trivial
def jW:aG ["self","name","table"] ["self","name"] (aC gK):=by trivial
def rW:aG ["self","name"] ["self","name"] (aC fV):=by trivial
def yU:aG ["self","name"] ["self","name"] (aC jJ):=by trivial
def vD:aG ["self","name","row","table"] ["self","name","row"] (aC qU):=by trivial
def sS:aG ["self","name","row","table","rows"] ["self","name","row"] (aC oU):=by trivial
def tO:aG ["self","name","number","house","cuts"] ["self","name","number","house"] (aC oA):=by trivial
def iI:aG ["self","name","move"] ["self","name"] (aC dD):=by trivial
def qH:aG ["self","name","many","move","waiting","unlike"] ["self","name","many"] (aC lO):=by trivial
def oW:aG ["self","name","table","move","number","cuts"] ["self","name"] (aC kY):=by trivial
def aAm:aG ["self","name"] ["self","name"] (aC kZ):=by trivial
def pF:aG ["self","name","house","table","rows","move"] ["self","name","house"] (aC gQ):=by trivial
def aDq:aG ["self"] ["self"] (aC oF):=by trivial
def vJ:aG ["_law_script","_law_seed_here","_law_k","_law_cell"] ["_law_script"] (aC zT):=by trivial
def aGc:aG ["_law_state","_law_many"] ["_law_state","_law_many"] (aC zP):=by trivial
def sJ:aG ["_law_words_here"] [] (aC wF):=by trivial
def sO:aG ["_law_state","_law_many","_law_small","_law_odd","_law_base","_law_k","_law_at","_law_names_here"] ["_law_state","_law_many"] (aC nQ):=by trivial
def tH:aG ["_law_state","_law_number","_law_k"] ["_law_state"] (aC vU):=by trivial
def sZ:aG ["_law_state","_law_kind","_law_way","_law_word","_law_k"] ["_law_state","_law_kind"] (aC vN):=by trivial
def vA:aG ["_law_state","_law_names_here","_law_start","_law_head_here","_law_k","_law_kind"] ["_law_state","_law_names_here"] (aC zH):=by trivial
def aI2:aG ["_law_state","_law_head_here"] ["_law_state","_law_head_here"] (aC uG):=by trivial
def aHe:aG ["_law_value_here","_law_houses","_law_number","_law_letter"] ["_law_value_here","_law_houses"] (aC zL):=by trivial
def aHz:aG ["_law_cuts","_law_value_here"] ["_law_cuts","_law_value_here"] (aC qP):=by trivial
def aHi:aG ["_law_head_here","_law_name"] ["_law_head_here","_law_name"] (aC zK):=by trivial
def sH:aG ["_law_table","_law_houses","_law_house","_law_head_here","_law_placing","_law_rows","_law_move","_law_spot_here"] ["_law_table","_law_houses","_law_house"] (aC jL):=by trivial
def oY:aG ["_law_table","_law_head_here","_law_placing","_law_rows","_law_move","_law_spot_here"] ["_law_table"] (aC jY):=by trivial
def pL:aG ["_law_table","_law_houses","_law_house","_law_found","_law_move"] ["_law_table","_law_houses","_law_house"] (aC lX):=by trivial
def fH:aG ["_law_state","_law_names_here","_law_most","_law_houses","_law_head_here","_law_column","_law_kind","_law_cuts","_law_low","_law_placing","_law_rows","_law_store"] ["_law_state","_law_names_here","_law_most"] (aC dO):=by trivial
def uZ:aG ["_law_state","_law_table","_law_houses","_law_number","_law_house"] ["_law_state","_law_table","_law_houses"] (aC zZ):=by trivial
def sU:aG ["_law_table","_law_number","_law_house","_law_mark"] ["_law_table"] (aC nG):=by trivial
def sX:aG ["_law_store","_law_name","_law_table","_law_houses","_law_town","_law_house"] ["_law_store","_law_name","_law_table","_law_houses"] (aC vC):=by trivial
def pD:aG ["_law_store","_law_name","_law_word"] ["_law_store","_law_name"] (aC qD):=by trivial
def aAa:aG ["_law_store","_law_name","_law_table","_law_due","_law_number","_law_house","_law_mark","_law_cuts"] ["_law_store","_law_name","_law_table"] (aC aA5):=by trivial
def oZ:aG ["_law_state","_law_store","_law_name","_law_table","_law_row_here"] ["_law_state","_law_store","_law_name","_law_table"] (aC pY):=by trivial
def aT0:aG ["_law_script","_law_state","_law_names_here","_law_store","_law_table","_law_houses","_law_moves","_law_cell","_law_some"] ["_law_script"] (aC aV1):=by trivial
def aXu:aG ["self","act"] ["self","act"] (aC lZ):=by trivial
section
variable {P:Program}{w:World}{K:bF4}{mg:bF7}{base:Heap}
def aKr (T:Txt w K mg):Ok P w K mg base 1 "is_whole" o4 (mG K):=by
 refine Ok.ofV T.aM5 aKd (by trivial) (λf d A c s H e Q E g h=>?_)
 obtain⟨v,rfl,a,q⟩:=h;refine⟨_,(aD (aJ (iC (aL (wD.or rN) (by rfl) T.bR bN (aH (vv 0) (va1 (fG (v:=.ty "int") (by rfl) T.aPy aFw rfl)))) (gF (bB5 (aL (wD.or rN) (by rfl) T.bR bN (aH (vv 0) (va1 (fG (v:=.ty "bool") (by rfl) T.bAn aYy rfl))))))))),?_⟩;refine⟨_,rfl,vY a (.inl rfl) ⟨_,rfl,?_⟩⟩;rcases id a with⟨x,rfl,_⟩|⟨i,rfl⟩|⟨b,rfl⟩|⟨k,h⟩
 ·exact bY q
 ·exact eX ⟨_,rfl,vY a (.inr (.inl rfl)) ⟨_,rfl,q⟩⟩
 ·exact eX ⟨_,rfl,vY a (.inr (.inl rfl)) ⟨_,rfl,q⟩⟩
 ·cases h <;> exact bY q
def aU4 (x:Str):(((List.range x.cps.size).map λi=>V.str (sgn x i)).map λv=>match v with|.str y=>V.bl (inA y)|_=>.bl false)=(((List.range x.cps.size).map λi=>inA (sgn x i)).map V.bl):=by rw[bDY,bDY];rfl
def aMw (T:Txt w K mg):Ok P w K mg base 1 "is_word" o4 (aDw K (sG 0)):=by
 refine Ok.ofV T.aRp aNs (by trivial) (λf u A a s H L Q E M h=>?_)
 obtain⟨v,rfl,m,q⟩:=h;refine⟨_,(aB (bM (VW.pt (fK (cF (bW (aL (wD.or rN) (by rfl) T.bR bN (aH (vv 0) (va1 (fG (v:=.ty "str") (by rfl) T.aZu aTe rfl)))))) (dZ (cZ bD3 (aL xG (by rfl) T.eV cW (va1 (vv 0))) (tM (by rfl) T.aBn))))) (aD (aJ fP)) aU) (aD (aJ (aL (kI rfl) (by rfl) T.aC7 tQ (va1 (cI (N:=["sign"]) (by trivial) (kE (by decide +kernel)) rfl (aSp (vv 0)) (λJ G o F=>⟨(bJ (i:=0) (show (["sign"]:List Str).Nodup from by decide +kernel) rfl (Or.inl rfl)),fW,(rH aRn (vv 0) (tM (by rfl) T.aFo) (by with_unfolding_all rfl))⟩))))))),?_⟩;refine⟨_,rfl,vY m (.inr (.inr rfl)) ⟨_,rfl,?_⟩⟩;have d:isS v=false->Q (.bl false) H:=λe=>by
  have z:sG 0 v=false:=by cases v <;> first|rfl|cases e
  rw[<-z];exact q H (Same.refl H)
 rcases id m with⟨x,rfl,j⟩|⟨i,rfl⟩|⟨b,rfl⟩|⟨k,h⟩
 ·refine bY ⟨_,rfl,_,rfl,small j,_,_,rfl,rfl,_,rfl,?_⟩;refine aMr (λc=>?_) (λc=>?_)
  ·have B:(8:Int)<x.length:=of_decide_eq_true c;have z:sG 0 (.str x)=false:=by show (decide (0<=x.length) && (decide (x.length<=8) && allIn x))=false;rw[v9 (p:=x.length<=8) (by lia)];simp
   rw[<-z];exact q H (Same.refl H)
  ·have B:¬ (8:Int)<x.length:=of_decide_eq_false (Bool.eq_false_iff.mpr c);dsimp only[tD,rA,tCB,dI];refine aSa ((List.range x.cps.size).map λi=>V.str (sgn x i)) (λv=>match v with|.str y=>V.bl (inA y)|_=>.bl false) [none] yJ ?_
    (λR r=>bCo (z:=x) (λI t=>⟨_,rfl,t⟩) R r) (λv g o R l C r=>?_) rfl λD n=>?_
   ·rw[j6,bAH];exact small j
   ·obtain⟨i,_,rfl⟩:=List.mem_map.mp g;exact⟨_,rfl,_,_,rfl,rfl,r⟩
   ·refine⟨D,(List.range x.cps.size).map λi=>inA (sgn x i),rfl,SqL.of (by rw[aF,aU4]),?_⟩;have z:sG 0 (.str x)=allIn x:=by show (decide (0<=x.length) && (decide (x.length<=8) && allIn x))=allIn x;rw[m9 (p:=x.length<=8) (by lia)];simp
    show Q (.bl (allIn x)) _;rw[<-z];exact q _ (aW n _)
 ·exact eX (d rfl)
 ·exact eX (d rfl)
 ·cases h <;> exact eX (d rfl)
theorem aF9 (h:sG l v=true):∃x,v=.str x/\l<=x.length/\x.length<=8/\allIn x=true:=by
 cases v with
 |str x=>have h:(decide (l<=x.length) && (decide (x.length<=8) && allIn x))=true:=h;rw[bAS,bAS] at h;exact⟨x,rfl,of_decide_eq_true h.1,of_decide_eq_true h.2.1,h.2.2⟩
 |_=>cases h
def aEw:x=("":Str)↔x.length=0:=by
 constructor
 ·rintro rfl;decide +kernel
 ·intro h;obtain⟨a⟩:=x;have h:a.size=0:=h;rw[Array.size_eq_zero_iff] at h;subst h;decide +kernel
def aA6:words.all iZ=true:=rfl
def aM0 (T:Txt w K mg)(D:Ok P w K mg base 1 "is_word" o4 (aDw K (sG 0))):Ok P w K mg base 2 "is_name" o4 (aDw K nameB):=by
 refine Ok.ofV T.aQx aMm (by trivial) (λf o A d s H F Q E G h=>?_)
 obtain⟨v,rfl,y,q⟩:=h;obtain⟨l,n,i⟩:=T.iR;have t:∃u,mg "QUESTION_WORDS"=some u/\RelV (.ref l) u:=⟨_,n,rfl⟩;refine⟨_,(aD (aJ (iC (aV D (va1 (vv 0))) (iC (wR wU (vv 0) bB) (gF (rH aGp (vv 0) (tM (by rfl) t) (by with_unfolding_all rfl))))))),?_⟩;refine⟨_,rfl,_,rfl,y,λa j=>⟨_,rfl,?_⟩⟩;refine aMr (λc=>?_) (λc=>?_)
 ·obtain⟨x,rfl,_,b,k⟩:=aF9 c;refine⟨_,rfl,rfl,_,rfl,?_⟩;by_cases e:x.length=0
  ·have r:=aEw.mpr e;subst r;refine bY ?_;have z:nameB (.str "")=false:=by decide +kernel
   rw[<-z];exact q a j
  ·have m:¬ (V.str x=V.str ""):=λz=>e (aEw.mp (V.str.inj z));have B:(!decide (V.str x=V.str ""))=true:=by rw[v9 m];rfl
   rw[B];refine eX ⟨_,rfl,l,words,rfl,.inr (i _),rfl,aA6,?_⟩;have z:nameB (.str x)=!inV (.str x) words:=by show ((decide (1<=x.length) && (decide (x.length<=8) && allIn x)) && !inV (.str x) words)=!inV (.str x) words;rw[m9 (p:=1<=x.length) (by lia),m9 b,k];rfl
   show Q (.bl (!inV (.str x) words)) a;rw[<-z];exact q a j
 ·have z:nameB v=false:=by
   show (sG 1 v && !inV v words)=false;cases g:sG 1 v with
   |false=>rfl
   |true=>obtain⟨x,rfl,C,b,k⟩:=aF9 g;refine absurd ?_ c;show (decide (0<=x.length) && (decide (x.length<=8) && allIn x))=true;rw[m9 b,k,m9 (bAC _)];rfl
  rw[<-z];exact q a j
theorem aJy (T:Txt w K mg)(j:Ok P w K mg base 1 "is_whole" o4 (mG K))(i:Ok P w K mg base 1 "is_word" o4 (aDw K (sG 0))) :
  Ok P w K mg base 2 "is_value" o4 (aDw K aMx):=by
 refine Ok.ofV T.aL5 aKb (by trivial) (λf e A a s H k Q E l h=>?_)
 obtain⟨v,rfl,c,q⟩:=h;refine⟨_,(aD (aJ (aZe (aV j (va1 (vv 0))) (gF (aV i (va1 (vv 0))))))),?_⟩;refine⟨_,rfl,_,rfl,c,_,rfl,?_⟩;cases b:whole v with
 |true=>
  refine eX ?_;have z:aMx v=true:=by show (whole v || sG 0 v)=true;rw[b];rfl
  rw[<-z];exact q H (Same.refl H)
 |false=>
  refine bY ⟨_,rfl,_,rfl,c,λd g=>?_⟩;have z:aMx v=sG 0 v:=by show (whole v || sG 0 v)=sG 0 v;rw[b];rfl
  rw[<-z];exact q d g
theorem aNp (T:Txt w K mg)(e:Ok P w K mg base 1 "is_whole" o4 (mG K)):Ok P w K mg base 2 "kind_of" ["value"] (aOi K):=by
 refine Ok.ofV T.aRf aMs (by trivial) (λf c A a s H g Q E i h=>?_)
 obtain⟨v,rfl,d,q⟩:=h;refine⟨_,(aD (aJ (aKi (bW (aV e (va1 (vv 0)))) bB bB))),?_⟩;refine⟨_,rfl,_,rfl,d,_,rfl,?_⟩;cases b:whole v with
 |true=>rw[b] at q;exact eX q
 |false=>rw[b] at q;exact bY q
def at0 (x:V)(r:List V):atI (x::r) 0=some x:=by unfold atI ixN;simp
def at1 (x y:V)(r:List V):atI (x::y::r) 1=some y:=by unfold atI ixN;simp only[m8];rw[if_pos (by lia),if_pos (by lia)];rfl
theorem Tk.same (e:Same H H')(h:Tk K H v b):Tk K H' v b:=by
 cases h with
 |int=>exact .int
 |str=>exact .str
 |bl=>exact .bl
 |non=>exact .non
 |lst q=>exact .lst (e.seq q)
 |dct q=>exact .dct (e _ _ q)
 |tup q=>exact .tup (e.aR q)
structure Tells (R:Hp->V->Bool->Prop):Prop where
 same:∀{H H' v b},Same H H'->R H v b->R H' v b
def bBj (R:Hp->V->Bool->Prop):Sp:=λvs H Q _=>∃v b,vs=[v]/\R H v b/\∀H',Same H H'->Q (.bl b) H'
inductive aE0 (K:bF4)(R:Hp->V->Bool->Prop)(lo hi:Nat)(H:Hp):V->Bool->Prop
 |no {v}:Tk K H v false->aE0 K R lo hi H v false
 |len {a xs}:SqT K H a xs->¬ (lo<=xs.length/\xs.length<=hi)->aE0 K R lo hi H (.ref a) false
 |yes {a xs} (f:V->Bool):SqT K H a xs->lo<=xs.length->xs.length<=hi->(∀x∈xs,R H x (f x))->aE0 K R lo hi H (.ref a) (xs.all f)
def aLz (K:bF4):Sp:=λvs H Q _=>∃v a xs,vs=[v,.ref a]/\Th K H v/\SqT K H a xs/\xs.all iZ=true/\Q (.bl (isS v && inV v xs)) H
def aIk (P:Program)(w:World)(K:bF4)(mg:bF7)(base:Heap)(k:Nat):Sp:=λvs H Q _=>∃v lo hi f ps R b,vs=[v,.int (lo:Nat),.int (hi:Nat),.ref f]/\hi<=1000/\Held P w K mg base k f ps (bBj R)/\Tells R/\aE0 K R lo hi H v b/\∀H',Same H H'->Q (.bl b) H'
inductive aFd (K:bF4)(vs:List V)(H:Hp)(Q:VK)(E_:XK):Prop
 |mk (a:Addr) (ss:List Str) (_:vs=[.ref a]) (_:SqL K H a (ss.map V.str)) (_:ss.length<=1000) (_:∀H',Same H H'->Q (.bl (decide ss.Nodup)) H')
def aHd (T:Txt w K mg):Ok P w K mg base 1 "is_one_of" ["thing","texts"] (aLz K):=by
 refine Ok.ofV T.aIx aGy (by trivial) (λf e A c s H m Q E n h=>?_)
 obtain⟨v,a,g,rfl,d,l,j,q⟩:=h;refine⟨_,(aD (aJ (iC (aL (wD.or rN) (by rfl) T.bR bN (aH (vv 0) (va1 (fG (v:=.ty "str") (by rfl) T.aZu aTe rfl)))) (gF (rH xT (vv 0) (vv 1) (by with_unfolding_all rfl)))))),?_⟩;refine⟨_,rfl,vY d (.inr (.inr rfl)) ⟨_,rfl,?_⟩⟩;rcases id d with⟨x,rfl,_⟩|⟨i,rfl⟩|⟨b,rfl⟩|⟨k,h⟩
 ·exact eX ⟨_,rfl,_,rfl,a,g,rfl,.inr l,rfl,j,q⟩
 ·exact bY q
 ·exact bY q
 ·cases h <;> exact bY q
theorem aBg (T:Txt w K mg):Ok P w K mg base (k+1) "is_tuple_of" o6 (aIk P w K mg base k):=by
 refine Ok.ofV T.tE qM (by trivial) (λf J A j s H Y Q E O h=>?_)
 obtain⟨v,u,p,g,G,R,b,rfl,o,B,F,L,q⟩:=h;refine⟨_,(aB (bM (VW.pt (fK (cF (bW (aL iJ (by rfl) T.bR bN (aH (vv 0) (va1 (fG (v:=.ty "tuple") (by rfl) T.gU eY rfl)))))) (dZ (cF (aCs aCe aCe (vv 1) (aL aZ (by rfl) T.eV cW (va1 (vv 0))) (vv 2)))))) (aD (aJ fP)) aU) (aD (aJ (aL (kI rfl) (by rfl) T.aC7 tQ (va1 (cI (N:=["part","is_part"]) (by trivial) (eE (aC iU) rfl (by decide +kernel)) rfl (pM (vv 0)) (λX U m S=>⟨(bJ (i:=0) (show (["part","is_part"]:List Str).Nodup from by decide +kernel) rfl (Or.inl rfl)),fW,(aT5 (P:=P) (w:=w) (K:=K) (mg:=mg) (base:=base) O (vv 1) (va1 (vv 0)))⟩))))))),?_⟩;cases L with
 |no h=>exact⟨_,rfl,_,_,rfl,h,_,rfl,eX (q H (Same.refl H))⟩
 |@len a xs ha hn=>refine⟨_,rfl,_,_,rfl,.tup ha,_,rfl,bY ?_⟩;refine⟨_,rfl,_,rfl,_,_,rfl,.inr ha,_,_,rfl,rfl,_,rfl,?_⟩;refine aMr (λc=>⟨_,rfl,_,_,rfl,rfl,_,rfl,?_⟩) (λc=>⟨_,rfl,eX (q H (Same.refl H))⟩);have W:(u:Int)<=xs.length:=of_decide_eq_true c;have e:decide ((xs.length:Int)<=(p:Int))=false:=v9 λz=>hn ⟨by lia,by lia⟩;rw[e];exact eX (q H (Same.refl H))
 |@yes a xs t ha h1 h2 hx=>
  refine⟨_,rfl,_,_,rfl,.tup ha,_,rfl,bY ?_⟩;refine⟨_,rfl,_,rfl,_,_,rfl,.inr ha,_,_,rfl,rfl,_,rfl,?_⟩;have C:decide ((u:Int)<=(xs.length:Int))=true:=m9 (by lia);have M:decide ((xs.length:Int)<=(p:Int))=true:=m9 (by lia);rw[C];refine eX ⟨_,rfl,_,_,rfl,rfl,_,rfl,?_⟩;rw[M];refine bY ?_;dsimp only[tD,rA,tCB,dI];refine aEt xs (λx=>.bl (t x)) [none,some (.ref g)] ?_ (small (by lia)) (λR r=>aM6 ha (λV I=>⟨_,rfl,I⟩) R r) (λx n m R l d r=>?_) rfl λD m d y=>?_
  ·exact jM 3 (by decide +kernel) rfl rfl (by trivial)
  ·exact⟨_,rfl,g,G,_,rfl,B,_,rfl,x,t x,rfl,F.same d (hx x n),r⟩
  ·refine⟨D,xs.map t,rfl,SqL.of (by rw[y,bDY];rfl),?_⟩;rw[List.all_map];exact q m d
def aD8 (T:Txt w K mg):Ok P w K mg base 1 "are_unlike" ["names"] (aFd K):=by
 refine Ok.ofV T.aHb aD0 (by trivial) (λf k A b s H m Q E n h=>?_)
 obtain⟨a,c,rfl,j,l,q⟩:=h;refine⟨_,(aD (aJ (wR dN (aL aN9 (by rfl) T.eV cW (va1 (cC (aMt rfl) (by rfl) T.aPb aH1 (va1 (vv 0))))) (aL aZ (by rfl) T.eV cW (va1 (vv 0)))))),?_⟩;refine⟨_,rfl,a,c,rfl,j,l,λD g i d=>⟨D,g,rfl,aF,_,rfl,a,_,rfl,.inl ((aW i _).seq j),rfl,?_⟩⟩;have e:decide (V.int (g.length:Nat)=V.int (c.map V.str).length)=decide c.Nodup:=by rw[j6];exact decide_eq_decide.mpr ⟨λz=>(aIe d).mp (by have:=V.int.inj z;lia),λz=>by rw[(aIe d).mpr z]⟩
 rw[e];exact q _ (aW i _)
abbrev kinds:List V:=[.str "number",.str "word"]
inductive aF7 (K:bF4)(H:Hp):V->Bool->Prop
 |no {v}:Tk K H v false->aF7 K H v false
 |len {a xs}:SqT K H a xs->xs.length≠2->aF7 K H (.ref a) false
 |two {a x y}:SqT K H a [x,y]->Th K H x->Th K H y->aF7 K H (.ref a) (nameB x && (isS y && inV y kinds))
theorem aQb (K:bF4):Tells (aF7 K):=⟨λe h=>by
 cases h with
 |no q=>exact .no (Tk.same e q)
 |len q n=>exact .len (e.aR q) n
 |two q x y=>exact .two (e.aR q) (x.same e) (y.same e)⟩
theorem aH8 (T:Txt w K mg)(p:Ok P w K mg base 2 "is_name" o4 (aDw K nameB))(z:Ok P w K mg base 1 "is_one_of" ["thing","texts"] (aLz K)):Ok P w K mg base 3 "is_column" o4 (bBj (aF7 K)):=by
 refine Ok.ofV T.aLb aGh (by trivial) (λf m A g s H t Q E r h=>?_)
 obtain⟨v,b,rfl,n,q⟩:=h;obtain⟨l,o,i⟩:=T.aG5;have j:∃u,mg "KINDS"=some u/\RelV (.ref l) u:=⟨_,o,rfl⟩;refine⟨_,(aB (bM (VW.pt (fK (cF (bW (aL iJ (by rfl) T.bR bN (aH (vv 0) (va1 (fG (v:=.ty "tuple") (by rfl) T.gU eY rfl)))))) (dZ (cZ wU (aL aZ (by rfl) T.eV cW (va1 (vv 0))) aA)))) (aD (aJ fP)) aU) (aD (aJ (iC (aV p (va1 (aO aP (vv 0) aA))) (gF (aV z (aH (aO aP (vv 0) aA) (va1 (tM (by rfl) j))))))))),?_⟩;cases n with
 |no h=>exact⟨_,rfl,_,_,rfl,h,_,rfl,eX (q H (Same.refl H))⟩
 |@len a xs ha d=>
  refine⟨_,rfl,_,_,rfl,.tup ha,_,rfl,bY ?_⟩;refine⟨_,rfl,_,_,rfl,.inr ha,rfl,_,rfl,?_⟩;have e:(!decide (V.int (xs.length:Nat)=V.int 2))=true:=by rw[v9 (by intro y;apply d;have:=V.int.inj y;lia)];rfl
  rw[e];exact eX (q H (Same.refl H))
 |@two a x y ha hx hy=>
  refine⟨_,rfl,_,_,rfl,.tup ha,_,rfl,bY ?_⟩;refine⟨_,rfl,_,_,rfl,.inr ha,rfl,_,rfl,bY ?_⟩;refine⟨_,rfl,a,_,0,_,rfl,rfl,ha,at0 _ _,x,rfl,hx,λk c=>⟨_,rfl,?_⟩⟩;cases d:nameB x with
  |false=>rw[d] at q;exact bY (q k c)
  |true=>rw[d] at q;refine eX ⟨_,rfl,a,_,1,_,rfl,rfl,c.aR ha,at1 _ _ _,y,l,kinds,rfl,hy.same c,i _,rfl,q k c⟩
def kindS (v:V):Str:=if whole v then "number" else "word"
def aN8 (K:bF4):Sp:=λvs H Q _=>∃v k,vs=[v,.str k]/\Th K H v/\∀H',Same H H'->Q (.bl (aMx v && decide (kindS v=k))) H'
theorem aCc (T:Txt w K mg)(j:Ok P w K mg base 2 "is_value" o4 (aDw K aMx))(i:Ok P w K mg base 2 "kind_of" ["value"] (aOi K)):Ok P w K mg base 3 "is_value_of" ["thing","kind"] (aN8 K):=by
 refine Ok.ofV T.aEd aCo (by trivial) (λf g A b s H l Q E m h=>?_)
 obtain⟨v,k,rfl,e,q⟩:=h;refine⟨_,(aD (aJ (iC (aV j (va1 (vv 0))) (gF (wR dN (aV i (va1 (vv 0))) (vv 1)))))),?_⟩;refine⟨_,rfl,v,rfl,e,λd c=>⟨_,rfl,?_⟩⟩;cases a:aMx v with
 |false=>rw[a] at q;exact bY (q d c)
 |true=>rw[a] at q;refine eX ⟨_,rfl,v,rfl,e.same c,_,rfl,rfl,?_⟩;have z:decide (V.str (if whole v then "number" else "word")=V.str k)=decide (kindS v=k):=decide_eq_decide.mpr ⟨λy=>V.str.inj y,λy=>congrArg V.str y⟩;rw[z];exact q d c
def at2 (x y z:V)(r:List V):atI (x::y::z::r) 2=some z:=by unfold atI ixN;simp only[m8];rw[if_pos (by lia),if_pos (by lia)];rfl
def aMn (h:x.length<=8):Th K H (.str x):=.inl ⟨x,rfl,by lia⟩
def Nm (x:Str):Prop:=nameB (.str x)=true
def aU8 (h:nameB (.str x)=true):x.length<=8:=by have h:(sG 1 (.str x) && !inV (.str x) words)=true:=h;rw[bAS] at h;obtain⟨y,e,_,a,_⟩:=aF9 h.1;cases e;exact a
def Nm.th (h:Nm x):Th K H (.str x):=aMn (aU8 h)
inductive cG {α β:Type}(R:α->β->Prop):List α->List β->Prop
 |nil:cG R [] []
 |cons {a b as bs}:R a b->cG R as bs->cG R (a::as) (b::bs)
theorem cG.len {α β:Type}{R:α->β->Prop}{as:List α}{bs:List β}(h:cG R as bs):as.length=bs.length:=by
 induction h with
 |nil=>rfl
 |cons _ _ ih=>rw[m8,m8,ih]
theorem cG.imp {α β:Type}{R S:α->β->Prop}{as:List α}{bs:List β}(h:cG R as bs)(k:∀a b,R a b->S a b):cG S as bs:=by
 induction h with
 |nil=>exact .nil
 |cons r _ ih=>exact .cons (k _ _ r) ih
theorem cG.mem {α β:Type}{R:α->β->Prop}{as:List α}{bs:List β}(h:cG R as bs){a:α}(m:a∈as):∃b,b∈bs/\R a b:=by
 induction h with
 |nil=>cases m
 |cons r _ ih=>
  rcases List.mem_cons.mp m with rfl|m
  ·exact⟨_,j0 ..,r⟩
  ·obtain⟨b,c,q⟩:=ih m;exact⟨b,j5 _ c,q⟩
theorem cG.app {α β:Type}{R:α->β->Prop}{as cs:List α}{bs ds:List β}(h:cG R as bs)(k:cG R cs ds):cG R (as++cs) (bs++ds):=by
 induction h with
 |nil=>exact k
 |cons r _ ih=>exact .cons r ih
def lU {α:Type}(K:bF4)(H:Hp)(R:V->α->Prop)(v:V)(xs:List α):Prop:=∃a vs,v=.ref a/\SqT K H a vs/\cG R vs xs
def lU.same {α:Type}{K:bF4}{H H':Hp}{R S:V->α->Prop}{v:V}{xs:List α}(e:Same H H')(k:∀a b,R a b->S a b)(h:lU K H R v xs):lU K H' S v xs:=by obtain⟨a,c,rfl,d,f⟩:=h;exact⟨a,c,rfl,e.aR d,f.imp k⟩
abbrev Hdr:=List (Str × Str)
def IsC (K:bF4)(H:Hp)(v:V)(c:Str × Str):Prop:=∃p,v=.ref p/\SqT K H p [.str c.1,.str c.2]
def IsC.same (e:Same H H')(h:IsC K H v c):IsC K H' v c:=by obtain⟨p,rfl,a⟩:=h;exact⟨p,rfl,e.aR a⟩
def jG (K:bF4)(H:Hp)(v:V)(hd:Hdr):Prop:=lU K H (IsC K H) v hd
theorem jG.same (e:Same H H')(h:jG K H v hd):jG K H' v hd:=lU.same e (λ_ _ q=>q.same e) h
def look (hd:Hdr)(n:Str):Option Str:=(hd.find? λc=>decide (c.1=n)).map (·.2)
theorem aGi {n k:Str}:∀{hd:Hdr},look hd n=some k->∃i,hd[i]?=some (n,k)/\∀(j:Nat) (c:Str × Str),j<i->hd[j]?=some c->c.1≠n
 |[],h=>by cases h
 |(m,j)::r,h=>by
  unfold look at h;rw[bCH] at h;by_cases e:m=n
  ·rw[m9 e] at h;have g:=bAK h;subst e g;exact⟨0,rfl,λj c d=>absurd d (bCX _)⟩
  ·rw[v9 e] at h;obtain⟨i,f,l⟩:=aGi h;refine⟨i+1,by simpa using f,λa c d b=>?_⟩;cases a with
   |zero=>cases b;exact e
   |succ a=>exact l a c (by lia) (by simpa using b)
theorem cA {α β:Type}{R:α->β->Prop}:∀{as:List α} {bs:List β},cG R as bs->∀{i:Nat} {a:α},as[i]?=some a->∃b,bs[i]?=some b/\R a b
 |_,_,.cons r t,0,_,h1=>by cases h1;exact⟨_,rfl,r⟩
 |_,_,.cons r t,i+1,a,h1=>by obtain⟨b,e,q⟩:=cA t (by simpa using h1);exact⟨b,by simpa using e,q⟩
def aS2 (K:bF4):Sp:=λvs H Q _=>∃vh n hd k,vs=[vh,.str n]/\jG K H vh hd/\look hd n=some k/\Q (.str k) H
def aNx (T:Txt w K mg):Ok P w K mg base 1 "kind_in" bQJ (aS2 K):=by
 refine Ok.ofV T.aR1 aB5 (by trivial) (λf B A g s H I Q E G h=>?_)
 obtain⟨J,n,hd,k,rfl,⟨a,u,rfl,r,t⟩,v,q⟩:=h;have F:=aB5.nd;refine⟨_,(aB (iQ PassesOwn.never rfl (pM (vv 0)) (cR 2) (aD (bM (cZ dN (aO (bK (K:=K)) (vv 2) aA) (vv 1)) (aD (aJ (aO (bK (K:=K)) (vv 2) aA))) aU))) (aD dY)),?_⟩;obtain⟨d,m,y⟩:=aGi v;have D:d<u.length:=by rw[t.len];exact (List.getElem?_eq_some_iff.mp m).1
 refine⟨_,rfl,a,rfl,⟨_,r⟩,aXv (λi σ b=>b=H/\i<=d/\∃l,σ=[some (.ref a),some (.str n),l]) ⟨rfl,bAC _,_,rfl⟩ (λi σ b _ ⟨e,_⟩=>by rw[e];exact r) ?_ ?_⟩
 ·rintro i x σ b hx ⟨rfl,hi,l,rfl⟩;obtain⟨c,j,p,rfl,o⟩:=cA t hx;refine⟨_,rfl,p,_,0,_,rfl,rfl,o,at0 _ _,_,rfl,rfl,_,rfl,?_⟩;by_cases e:i=d
  ·subst e;rw[m] at j;cases j;rw[m9 rfl];exact eX ⟨_,rfl,p,_,1,_,rfl,rfl,o,at1 _ _ _,q⟩
  ·have C:=y i c (by lia) j;rw[v9 (by intro z;exact C (V.str.inj z))];exact bY ⟨rfl,by lia,_,rfl⟩
 ·rintro σ b ⟨rfl,hi,_⟩;lia
theorem aSd {α:Type}{f:α->V}{xs:List α}{i:Nat}{y:V}(h:(xs.map f)[i]?=some y):∃x,xs[i]?=some x/\y=f x:=by
 rw[v7] at h;cases e:xs[i]? with
 |none=>rw[e] at h;cases h
 |some x=>rw[e] at h;cases h;exact⟨x,rfl,rfl⟩
def Good (hd:Hdr):Prop:=(hd.map (·.1)).Nodup/\1<=hd.length/\hd.length<=8
def aHw (K:bF4):Sp:=λvs H Q _=>∃v hd,vs=[v]/\jG K H v hd/\hd.length<=1000/\∀D H',Same H H'->H' D=some (.lst ((hd.map (·.1)).map V.str))->Q (.ref D) H'
def aF4 (T:Txt w K mg):Ok P w K mg base 1 "names_of" ["head"] (aHw K):=by
 refine Ok.ofV T.aM3 aKk (by trivial) (λf u A e s H S Q E O h=>?_)
 obtain⟨v,hd,rfl,⟨a,k,rfl,F,j⟩,L,q⟩:=h;refine⟨_,(aD (aJ (cI (N:=["column"]) (by trivial) (kE (by decide +kernel)) rfl (pM (vv 0)) (λU I b G=>⟨(bJ (i:=0) (show (["column"]:List Str).Nodup from by decide +kernel) rfl (Or.inl rfl)),fW,(aO (bK (K:=K)) (vv 0) aA)⟩)))),?_⟩;have M:=j.len;refine aWp k ((hd.map (·.1)).map V.str) (by rw[j6,j6];lia) [none] yJ (small (by lia)) (λR r=>aM6 F (λJ t=>⟨_,rfl,t⟩) R r) (λi x y z m b R l d r=>?_) rfl λD b d o=>q D b d o;obtain⟨c,B,p,rfl,C⟩:=cA j z;obtain⟨n,g,rfl⟩:=aSd m;rw[v7,B] at g;cases g;exact⟨_,rfl,p,_,0,_,rfl,rfl,d.aR C,at0 _ _,r b (Same.refl b)⟩
def plc:Hdr->Str->Nat
 |[],_=>0
 |c::r,n=>if c.1=n then 0 else plc r n+1
theorem aG6:∀{hd:Hdr},look hd n=some k->hd[plc hd n]?=some (n,k)/\∀j c,j<plc hd n->hd[j]?=some c->c.1≠n
 |[],h=>by cases h
 |(m,q)::r,h=>by
  unfold look at h;rw[bCH] at h;by_cases e:m=n
  ·rw[m9 e] at h;have f:=bAK h;subst e f;have z:plc ((m,q)::r) m=0:=if_pos rfl;rw[z];exact⟨rfl,λj c b=>absurd b (bCX _)⟩
  ·rw[v9 e] at h;obtain⟨d,g⟩:=aG6 h;have z:plc ((m,q)::r) n=plc r n+1:=if_neg e;rw[z];refine⟨by simpa using d,λj c b a=>?_⟩;cases j with
   |zero=>cases a;exact e
   |succ j=>exact g j c (by lia) (by simpa using a)
def mH (K:bF4):Sp:=λvs H Q _=>∃vh n hd k,vs=[vh,.str n]/\jG K H vh hd/\hd.length<=1000/\look hd n=some k/\∀H',Same H H'->Q (.int (plc hd n:Nat)) H'
def zN (T:Txt w K mg)(y:Ok P w K mg base 1 "names_of" ["head"] (aHw K)):Ok P w K mg base 2 "place_of" bQJ (mH K):=by
 refine Ok.ofV T.aNj aIy (by trivial) (λf p A a s H z Q E B h=>?_)
 obtain⟨v,n,hd,k,rfl,u,e,l,q⟩:=h;obtain⟨g,o⟩:=aG6 l;refine⟨_,(aD (aJ (tG PySem.F.plainAttrs_list PySem.F.slot_list_index PySem.F.type_list_index aEs (aV y (va1 (vv 0))) (va1 (vv 1))))),?_⟩;refine⟨_,rfl,v,hd,rfl,u,e,λD i r b=>?_⟩;refine⟨.inl ⟨rfl,_,SqL.of b⟩,_,rfl,D,hd.map (·.1),n,plc hd n,rfl,rfl,SqL.of b,by rw[j6];exact e,by rw[v7,g];rfl,λj m x d=>?_,q i r⟩;rw[v7] at d;obtain⟨c,t,rfl⟩:=Option.map_eq_some_iff.mp d;exact o j c x t
def aO0 {n:Str}{ss:List Str}:inV (.str n) (ss.map V.str)=decide (n∈ss):=by
 unfold inV;rw[bCG,bDX,decide_eq_true_eq];constructor
 ·rintro⟨v,a,e⟩;obtain⟨z,c,rfl⟩:=List.mem_map.mp a;have b:(z == n)=true:=e;have d:z=n:=by simpa using b
  rw[<-d];exact c
 ·intro h;refine⟨.str n,List.mem_map.mpr ⟨n,h,rfl⟩,?_⟩;show (n == n)=true;simp
def aJh {ss:List Str}:(ss.map V.str).all iZ=true:=by rw[bBZ];intro v a;obtain⟨z,_,rfl⟩:=List.mem_map.mp a;rfl
def aPh {z:Str}{j:Int}(h0:0<=j)(h1:j<z.length):∃c,z.cps[j.toNat]?=some c:=
 ⟨_,j7 (by show j.toNat<z.length;lia)⟩
def aH3 (x y:Str):(x++y).length=x.length+y.length:=by show (x.cps++y.cps).size=_;rw[Array.size_append];rfl
def at_of {xs:List V}{j:Int}(h0:0<=j)(h1:j<xs.length):∃v,atI xs j=some v/\v∈xs:=by
 have b:j.toNat<xs.length:=by lia
 refine⟨xs[j.toNat],?_,bAT b⟩;have a:=bH (b8 b);rw[show ((j.toNat:Nat):Int)=j by lia] at a;exact a
def Lets (x:Str):Prop:=∀c∈x.cps,97<=c/\c<=122
def aWq:∀k:_root_.Fin 26,inA ⟨#[97+k.val]⟩=true:=by decide +kernel
def bCi (h1:97<=c)(h2:c<=122):inA ⟨#[c]⟩=true:=by have:=aWq ⟨c - 97,by lia⟩;simp only at this;rw[show 97+(c - 97)=c by lia] at this;exact this
def allIn_of (h:Lets x):allIn x=true:=by
 unfold allIn;rw[bBZ];intro b d;obtain⟨i,f,rfl⟩:=List.mem_map.mp d;have a:=List.mem_range.mp f;have e:x.cps.getD i 0=x.cps[i]:=by rw[v6,j7 a];rfl
 obtain⟨c,g⟩:=h _ (bEX a);unfold sgn;rw[e];exact bCi c g
def Lets.add (b:Lets x)(d:Lets y):Lets (x++y):=λc a=>by
 have a:=a;rcases Array.mem_append.mp a with h|h
 ·exact b c h
 ·exact d c h
def Lets.one {z:Str}{i c:Nat}(a:Lets z)(h:z.cps[i]?=some c):Lets ⟨#[c]⟩:=λd hd=>by
 have hd:=hd;have e:d=c:=by simpa using hd
 subst e;exact a _ (bDR h)
def aLl:Lets abc:=by
 have h:(abc.cps.all λc=>decide (97<=c) && decide (c<=122))=true:=by decide +kernel
 intro c a;have:=(Array.all_eq_true_iff_forall_mem.mp h) c a;rw[bAS] at this;exact⟨of_decide_eq_true this.1,of_decide_eq_true this.2⟩
inductive cD:Str->V->Prop
 |num {i}:cD "number" (.int i)
 |wrd {x}:Lets x->x.length<=8->cD "word" (.str x)
def val (c:Nat):Int:=(c:Int) - 96
def num (x:Str):Nat->Int
 |0=>0
 |n+1=>num x n * 27+val (x.cps.getD n 0)
def aX8:∀k:_root_.Fin 26,Builtin.Str.occurrences abc ⟨#[97+k.val]⟩ 0 abc.length 1=[k.val]:=by decide +kernel
def occ (h1:97<=c)(h2:c<=122):Builtin.Str.occurrences abc ⟨#[c]⟩ 0 abc.length 1=[c - 97]:=by
 have h:=aX8 ⟨c - 97,by lia⟩;have e:97+(c - 97)=c:=by lia
 simpa [e] using h
def Vl (v:V):Prop:=(∃i,v=.int i)\/∃x,v=.str x/\Lets x/\x.length<=8
def nm:V->Int
 |.int i=>i
 |.str x=>num x x.cps.size
 |_=>0
def Lets.at (h:Lets x)(hi:i<x.cps.size):97<=x.cps.getD i 0/\x.cps.getD i 0<=122:=by rw[v6,j7 hi];exact h _ (bEX hi)
def Vl.th (h:Vl v):Th K H v:=by
 rcases h with⟨i,rfl⟩|⟨x,rfl,_,h8⟩
 ·exact .inr (.inl ⟨i,rfl⟩)
 ·exact .inl ⟨x,rfl,by lia⟩
def aOz:Sp:=λvs H Q _=>∃x,vs=[.str x]/\Lets x/\Q (.int (num x x.cps.size)) H
def aP2:Sp:=λvs H Q _=>∃v h,vs=[v,.int h]/\Vl v/\0<h/\Q (.int (nm v % h)) H
def aA9 (T:Txt w K mg):Ok P w K mg base 1 "word_number" ["word"] aOz:=by
 refine Ok.ofV T.aDs pW (by trivial) (λf g A a s H m Q E o h=>?_)
 obtain⟨x,rfl,d,q⟩:=h;have k:=pW.nd;refine⟨_,(aB (aY 1 aA) (aB (iQ PassesOwn.never rfl (aSp (vv 0)) (cR 2) (aD (aY 1 (bF dG (bF dG (bF yS (vv 1) (tM (by rfl) T.aIr)) (tG PySem.F.plainAttrs_str PySem.F.slot_str_index PySem.F.type_str_index aVp (tM (by rfl) T.aFo) (va1 (vv 2)))) aA)))) (aD (aJ (vv 1))))),?_⟩;refine⟨_,rfl,_,rfl,aXd (λi σ b=>b=H/\∃l,σ=[some (.str x),some (.int (num x i)),l]) ⟨rfl,_,rfl⟩ ?_ ?_⟩
 ·rintro i σ b hi ⟨rfl,l,rfl⟩;obtain⟨c,j⟩:=d.at hi;refine⟨_,rfl,_,_,rfl,rfl,.inr ⟨by decide,by decide⟩,rfl,_,rfl,_,_,_,_,rfl,rfl,occ c j,_,_,rfl,rfl,_,_,rfl,rfl,rfl,some (.str (sgn x i)),?_⟩;have e:num x i * 27+((x.cps.getD i 0 - 97:Nat):Int)+1=num x (i+1):=by show num x i * 27+((x.cps.getD i 0 - 97:Nat):Int)+1=num x i * 27+((x.cps.getD i 0:Int) - 96);lia
  exact congrArg (λn=>[some (V.str x),some (V.int n),some (V.str (sgn x i))]) e
 ·rintro σ b ⟨rfl,l,rfl⟩;exact⟨_,rfl,q⟩
def aYu (T:Txt w K mg)(k:Ok P w K mg base 1 "is_whole" o4 (mG K))(e:Ok P w K mg base 1 "word_number" ["word"] aOz):Ok P w K mg base 2 "home" ["value","houses"] aP2:=by
 refine Ok.ofV T.bA5 aPm (by trivial) (λf g A a s H l Q E m h=>?_)
 obtain⟨v,h,rfl,c,b,q⟩:=h;have j:=aPm.nd;refine⟨_,(aB (aY 2 (aKi (bW (aV k (va1 (vv 0)))) (vv 0) (aV e (va1 (vv 0))))) (aD (aJ (bF jU (vv 2) (vv 1))))),?_⟩;have d:=c.th (K:=K) (H:=H);rcases c with⟨i,rfl⟩|⟨x,rfl,hx,h8⟩
 ·exact⟨_,rfl,_,rfl,d,_,rfl,eX ⟨_,rfl,_,rfl,_,rfl,_,_,rfl,rfl,b,q⟩⟩
 ·exact⟨_,rfl,_,rfl,d,_,rfl,bY ⟨_,rfl,_,rfl,hx,_,rfl,_,rfl,_,_,rfl,rfl,b,q⟩⟩
inductive uU (vs:List V)(H:Hp)(Q:VK)(E_:XK):Prop
 |mk (i m:Int) (_:vs=[.int i,.int m]) (_:Q (.bl (decide (0<=i) && decide (i<m))) H)
theorem uD (T:Txt w K mg)(d:Ok P w K mg base 1 "is_whole" o4 (mG K)):Ok P w K mg base 2 "is_number_below" ["thing","many"] uU:=by
 refine Ok.ofV T.vQ uN (by trivial) (λf c A a s H e Q E g h=>?_)
 obtain⟨i,m,rfl,q⟩:=h;refine⟨_,(aD (aJ (iC (aV d (va1 (vv 0))) (gF (aSm aCe aS6 aA (vv 0) (vv 1)))))),?_⟩;refine⟨_,rfl,_,rfl,.inr (.inl ⟨i,rfl⟩),_,rfl,eX ?_⟩;refine⟨_,rfl,_,_,rfl,rfl,_,rfl,?_⟩;cases b:decide (0<=i) with
 |false=>rw[b] at q;exact bY q
 |true=>rw[b] at q;exact eX ⟨_,rfl,_,_,rfl,rfl,q⟩
end
end My
namespace PySem.W
open PySem PySem.Calls PyProof.Rows
def KasT.ev {α:Type}(f:Nat->Nat->Bool):KasT α->α
 |.ret a=>a
 |.ask i j k=>(k (f i j)).ev f
inductive KasT.Low {α:Type}(n:Nat)(P:α->Prop):KasT α->Prop
 |ret {a}:P a->KasT.Low n P (.ret a)
 |ask {i j k}:i<n->j<n->(∀b,KasT.Low n P (k b))->KasT.Low n P (.ask i j k)
theorem KasT.Low.bind {α β:Type}{n:Nat}{P:α->Prop}{R:β->Prop}{t:KasT α}{f:α->KasT β}(h:t.Low n P)(c:∀a,P a->(f a).Low n R):(t.bind f).Low n R:=by
 induction h with
 |ret h=>exact c _ h
 |ask a b _ ih=>exact .ask a b ih
theorem KasT.Low.of {α:Type}{n:Nat}{P:α->Prop}{t:KasT α}(h:t.Low n P)(f:Nat->Nat->Bool):P (t.ev f):=by
 induction h with
 |ret h=>exact h
 |@ask i j k a b _ ih=>exact ih (f i j)
theorem bA3 {α:Type}{n:Nat}{P:α->Prop}{f:Nat->Nat->Bool}{cmp:Nat->Nat->(Bool->Shared->Prop)->Shared->Prop}{s:Shared}(c:∀i j C,i<n->j<n->C (f i j) s->cmp i j C s){t:KasT α}(h:t.Low n P){Q:α->Shared->Prop}(q:Q (t.ev f) s):t.kasWp cmp Q s:=by
 induction h with
 |ret h=>exact q
 |@ask i j k a b _ ih=>exact c i j _ a b (ih (f i j) q)
def Pl (n:Nat)(p:Array Nat):Prop:=p.size=n/\∀k,p.getD k 0<n
def Pl.perm (h:Pl n p)(e:q.Perm p)(g:0<n):Pl n q:=by
 refine⟨e.size_eq.trans h.1,λk=>?_⟩;by_cases c:k<q.size
 ·have f:q[k]∈p.toList:=(Array.perm_iff_toList_perm.mp e).mem_iff.mp (by simp);obtain⟨j,b,d⟩:=bBA f;have a:j<p.size:=by simpa using b
  have:=h.2 j;rw[v6,j7 a,bBN] at this;rw[v6,j7 c,bBN,<-d];simpa using this
 ·rw[v6,bCE (by lia)];exact g
theorem aG1 (h:Pl n p):∀f m,(kas_asc p f m).Low n (λr=>m<=r/\r<=m+f)
 |0,m=>.ret ⟨d8 _,d8 _⟩
 |f+1,m=>by
  refine .ask (h.2 _) (h.2 _) λc=>?_;by_cases e:c=true
  ·rw[if_pos e];exact .ret ⟨d8 _,by lia⟩
  ·rw[if_neg e];have z:=aG1 h f (m+1);generalize kas_asc p f (m+1)=t at z
   induction z with
   |ret q=>exact .ret ⟨by lia,by lia⟩
   |ask a b _ ih=>exact .ask a b ih
theorem wW (a:0<n):∀f p m q,Pl n p->(kas_desc f p m q).Low n (λr=>Pl n r.1)
 |0,p,m,q,h=>.ret h
 |f+1,p,m,q,h=>by
  refine .ask (h.2 _) (h.2 _) λc=>?_;by_cases e:c=true
  ·rw[if_pos e];by_cases b:q > 0
   ·rw[if_pos b];exact wW a f _ _ _ (h.perm (mirror_perm _ _ _ _) a)
   ·rw[if_neg b];exact wW a f _ _ _ h
  ·rw[if_neg e];refine .ask (h.2 _) (h.2 _) λd=>?_;by_cases g:d=true
   ·rw[if_pos g];exact .ret h
   ·rw[if_neg g];exact wW a f _ _ _ h
def aE7 {n:Nat}(b:0<n){p:Array Nat}(h:Pl n p)(m nrem:Nat):(kas_tail3 m nrem p).Low n (λr=>Pl n r.2):=by have a:Pl n (kas_rev p 0 m):=h.perm (mirror_perm _ _ _ _) b;exact (aG1 a _ _).bind λ_ _=>.ret a
def vK {n:Nat}(a:0<n){p:Array Nat}(h:Pl n p)(m nrem:Nat):(kas_descPart m nrem p).Low n (λr=>Pl n r.2):=by
 refine (wW a _ _ _ _ h).bind λr b=>?_;by_cases e:r.2.2 > 0
 ·rw[if_pos e];exact aE7 a (b.perm (mirror_perm _ _ _ _) a) _ _
 ·rw[if_neg e];exact aE7 a b _ _
def aRd {n:Nat}(a:0<n){p:Array Nat}(h:Pl n p)(b:Nat):(kas_count b p).Low n (λr=>Pl n r.2):=by
 refine (aG1 h _ _).bind λm _=>?_;by_cases e:(m == b)=true
 ·rw[if_pos e];exact .ret h
 ·rw[if_neg e];by_cases d:m > 1
  ·rw[if_pos d];refine .ask (h.2 _) (h.2 _) λc=>?_;by_cases f:c=true
   ·rw[if_pos f];exact .ret h
   ·rw[if_neg f];exact vK a (h.perm (mirror_perm _ _ _ _) a) _ _
  ·rw[if_neg d];exact vK a h _ _
theorem yD (h:Pl n p)(k:Nat):∀f l r,(kas_place p k f l r).Low n (λ_=>True)
 |0,l,r=>.ret trivial
 |f+1,l,r=>by
  unfold kas_place;by_cases e:l ≥ r
  ·rw[if_pos e];exact .ret trivial
  ·rw[if_neg e];refine .ask (h.2 _) (h.2 _) λc=>?_;by_cases a:c=true
   ·rw[if_pos a];exact yD h k f _ _
   ·rw[if_neg a];exact yD h k f _ _
theorem aOf {n:Nat}(a:0<n):∀(f:Nat) (p:Array Nat) (k:Nat),Pl n p->(kas_bin f p k).Low n (Pl n)
 |0,p,k,h=>.ret h
 |f+1,p,k,h=>(yD h k k 0 k).bind λl _=>aOf a f _ _ (h.perm (bubble_perm _ _ _) a)
def aUj (a:0<n):Pl n (List.toArray (List.range n)):=by
 refine⟨by simp,λk=>?_⟩;rw[v6,bFF];by_cases h:k<n
 ·rw[bCP h];exact h
 ·rw[bAA (by simpa using h)];exact a
def wI {n:Nat}(b:0<n):(kas_sort n).Low n (Pl n):=by
 refine (aRd b (aUj b) n).bind λr a=>?_;by_cases e:r.1<n
 ·rw[if_pos e];exact aOf b _ _ _ a
 ·rw[if_neg e];exact .ret a
def dM (n:Nat)(f:Nat->Nat->Bool):List Nat:=if n<2 then List.range n else ((kas_sort n).ev f).toList
def rC (n:Nat)(f:Nat->Nat->Bool):(dM n f).length=n:=by
 unfold dM;by_cases h:n<2
 ·rw[if_pos h,bAH]
 ·rw[if_neg h,v4];exact ((wI (by lia)).of f).1
def mR (h:i∈dM n f):i<n:=by
 unfold dM at h;by_cases b:n<2
 ·rw[if_pos b] at h;exact List.mem_range.mp h
 ·rw[if_neg b] at h;have z:=(wI (n:=n) (by lia)).of f;obtain⟨j,c,e⟩:=bBA h;have a:j<((kas_sort n).ev f).size:=by simpa using c
  have:=z.2 j;rw[v6,j7 a,bBN] at this;rw[<-e];simpa using this
section
variable {prog:Program}{w:World}{A:Around}{E:bF5}{s:Shared}{f:Nat->Nat->Bool}
def pA (ho:s.heap.get? a=some (seqObj "list" vs.toArray n))(J:vs.length<64)
  (D:2<=vs.length->∀h',(∀b o,b≠a->s.heap.get? b=some o->h'.get? b=some o)->∃κ,(∀(Q:SortKind->Shared->Prop),Q κ { s with heap:=h' }->wpAny (model prog w) A (keyKind' vs.toArray) Q (λ_ _=>False) { s with heap:=h' })/\∀i j (C:Bool->Shared->Prop),i<vs.length->j<vs.length->C (f i j) { s with heap:=h' }->kas_ask prog w A κ vs i j C { s with heap:=h' })
  (h:P (.done (.ret .none)) { s with heap:=sortedHeap s.heap a vs (List.toArray ((dM vs.length f).map λi=>vs.getD i Value.none)) }) :
  wpAny (model prog w) A (Builtin.«list.sort» ⟨[.ref a],[]⟩) P E s:=by
 rw[list_sort_plain];have G:a<s.heap.objs.size:=j9 ho;refine b7 (listItems_at ho rfl ?_);refine b7 (listUpdate_at ho rfl ?_ (by rw[d9,sizeLine_eq];lia) (bAC _));obtain⟨B,u⟩:∃B,(s.heap.update a (Obj.mapSeq λ_=>#[])).get? a=some (seqObj "list" #[] B):=⟨_,get?_update_seq ho (λ_=>#[])⟩;refine b7 (seqEpoch_at u rfl ?_);refine b7 (bFT ?_ (by show vs.length<=_;rw[sizeLine_eq];lia));refine b7 (wpAny_newList ?_ (bAC _));refine bAR ?_;have g:(((s.heap.update a (Obj.mapSeq λ_=>#[])).push (seqObj "tuple" vs.toArray 0)).push (seqObj "list" #[] 0)).get? a=some (seqObj "list" #[] B):=by rw[bEY _ _ _ (by rw[size_push',Heap.size_update];exact v8 (bBU G)),bEY _ _ _ (by rw[Heap.size_update];exact v8 G)];exact u
 have v:∀b o,b≠a->s.heap.get? b=some o->(((s.heap.update a (Obj.mapSeq λ_=>(#[]:Array Value))).push (seqObj "tuple" vs.toArray 0)).push (seqObj "list" #[] 0)).get? b=some o:=λb o I q=>by refine c7 _ (c7 _ ?_);rw[bEA _ _ _ _ I];exact q
 show wpAny (model prog w) A _ P E { s with heap:=((s.heap.update a (Obj.mapSeq λ_=>#[])).push (seqObj "tuple" vs.toArray 0)).push (seqObj "list" #[] 0) };dsimp only;have l:vs.toArray.size=vs.length:=by simp
 by_cases k:vs.toArray.size<2
 ·rw[if_pos k,if_pos k];refine b7 (d7 ?_);rw[StateT.run_pure];refine b7 (d7 ?_);dsimp only;refine b7 (seqEpoch_at g rfl ?_);refine b7 (listUpdate_at g rfl ?_ (hsz2:=by rw[Array.size_map];show (pairsOf vs).size<=_;rw[pairsOf_size,sizeLine_eq];lia));simp only[bne_self_eq_false,bAU,if_false];refine d7 ?_;have e:((arrOf (SortSt.mk' general' (vs.toArray.zip vs.toArray) #[] 7 none)).map (·.2))=List.toArray ((dM vs.length f).map λi=>vs.getD i Value.none):=by
   show ((vs.toArray.zip vs.toArray).map (·.2))=_;unfold dM;rw[if_pos (by lia)]
   match vs,l,k with
   |[],_,_=>simp
   |[x],_,_=>simp[List.range,List.range.loop]
   |_::_::_,l,k=>rw[l,m8,m8] at k;lia
  rw[e];exact h
 ·rw[if_neg k,if_neg k];have r:2<=vs.length:=by lia
  obtain⟨κ,z,y⟩:=D r _ v;refine b7 (bAX (z (fun F c=>(kas_sort vs.length).kasWp (kas_ask prog w A F vs) (λp c=>c={ s with heap:=((s.heap.update a (Obj.mapSeq λ_=>#[])).push (seqObj "tuple" vs.toArray 0)).push (seqObj "list" #[] 0) }/\p=(kas_sort vs.length).ev f) c) (bA3 (n:=vs.length) (P:=Pl vs.length) (f:=f) (cmp:=kas_ask prog w A κ vs) (t:=kas_sort vs.length) y (wI (by lia)) (Q:=λp c=>c={ s with heap:=((s.heap.update a (Obj.mapSeq λ_=>#[])).push (seqObj "tuple" vs.toArray 0)).push (seqObj "list" #[] 0) }/\p=(kas_sort vs.length).ev f) ⟨rfl,rfl⟩)) (fun F O D=>?_) λ_ _ x=>x.elim);refine b7 (bAX (kat_run (Q:=λd c=>∃p:Array Nat,p.size=vs.length/\arrOf d=p.map (kas_item (vs.toArray.zip vs.toArray))/\failedOf d=none/\c={ s with heap:=((s.heap.update a (Obj.mapSeq λ_=>#[])).push (seqObj "tuple" vs.toArray 0)).push (seqObj "list" #[] 0) }/\p=(kas_sort vs.length).ev f)
   rfl r J (λK d c H M L N=>⟨K,H,M,L,N⟩) D) ?_ λ_ _ e=>e)
  rintro⟨⟨⟩,d⟩ c ⟨p,hp,har,hf,rfl,rfl⟩;dsimp only;have m:=kat_snds rfl har;rw[m];refine b7 (seqEpoch_at g rfl ?_);refine b7 (listUpdate_at g rfl ?_ (bAC _) (by rw[d9,j6,v4,hp,sizeLine_eq];lia));rw[hf];simp only[bne_self_eq_false,bAU,if_false];refine d7 ?_;have e:dM vs.length f=((kas_sort vs.length).ev f).toList:=by unfold dM;rw[if_neg (by lia)]
  rw[e] at h;exact h
def aGj (p:s.heap.IsList l vs.toArray)(k:vs.length<64)
  (n:2<=vs.length->∀h',(∀b o,s.heap.get? b=some o->h'.get? b=some o)->∃κ,(∀(Q:SortKind->Shared->Prop),Q κ { s with heap:=h' }->wpAny (model prog w) A.in1.in1 (keyKind' vs.toArray) Q (λ_ _=>False) { s with heap:=h' })/\∀i j (C:Bool->Shared->Prop),i<vs.length->j<vs.length->C (f i j) { s with heap:=h' }->kas_ask prog w A.in1.in1 κ vs i j C { s with heap:=h' })
  (h:Q (.ref (s.heap.objs.size+1)) { s with heap:=sortedAll s.heap vs (List.toArray ((dM vs.length f).map λi=>vs.getD i Value.none)) }) :
  wpAny (model prog w) A (call (.builtin "sorted") [.ref l]) Q E s:=by
 refine Calls.call_function_entry kind_sorted plain_sorted entry_sorted (args_sorted1 _) ?_;unfold Builtin.«sorted»;refine b7 (d7 ?_);refine b7 (collect_list p ?_ (by rw[sizeLine_eq];lia));refine b7 (wpAny_newList ?_ (by rw[sizeLine_eq];lia));have c:((s.heap.push (seqObj "list" #[] 0)).update s.heap.objs.size (Obj.mapSeq (·++vs.toArray))).objs.size=s.heap.objs.size+1:=by rw[Heap.size_update,size_push']
 have d:(((s.heap.push (seqObj "list" #[] 0)).update s.heap.objs.size (Obj.mapSeq (·++vs.toArray))).push (seqObj "list" vs.toArray 0)).get? (s.heap.objs.size+1)=some (seqObj "list" vs.toArray 0):=by rw[<-c];exact j8 _ rfl
 have e:∀b o,s.heap.get? b=some o->(((s.heap.push (seqObj "list" #[] 0)).update s.heap.objs.size (Obj.mapSeq (·++vs.toArray))).push (seqObj "list" vs.toArray 0)).get? b=some o:=λb o q=>by have a:=j9 q;rw[bEY _ _ _ (by rw[c];exact v8 (bBU a)),bEA _ _ _ _ (v8 a),bEY _ _ _ (v8 a)];exact q
 rw[c];refine b7 (bAR (bAD slot_list_sort ⟨_,d,rfl⟩ entry_list_sort (pA d k (λm h' g=>n m h' λb o q=>g b o (v8 (bBU (j9 q))) (e b o q)) ⟨_,rfl,?_⟩) (args_list_sort _)));exact d7 ⟨_,rfl,h⟩
end
end PySem.W
namespace PySem.W.N4
open PySem PySem.Calls PyProof.Rows PySem.W
structure Swo (f:Nat->Nat->Bool):Prop where
 asym:∀{i j},f i j=true->f j i=false
 tr:∀{i j k},f j i=false->f k j=false->f k i=false
section
variable {f:Nat->Nat->Bool}
theorem Swo.lt1 (S:Swo f)(a:f i j=true)(b:f k j=false):f i k=true:=by
 cases e:f i k with
 |true=>rfl
 |false=>have:=S.tr b e;rw[a] at this;cases this
theorem rF {α β:Type}{f:Nat->Nat->Bool}{g:α->KasT β}:∀t:KasT α,(t.bind g).ev f=(g (t.ev f)).ev f
 |.ret a=>rfl
 |.ask i j k=>rF (k (f i j))
def uO (a:j<=p.size)(k:Nat):(kas_rev p i j).getD k 0=if i<=k/\k<j then p.getD (i+j - 1 - k) 0 else p.getD k 0:=by
 unfold kas_rev;rw[v6,getElem?_mirror_all a]
 split <;> rw[v6]
def bAs (c:k<p.size)(hd:d<=k)(x:Nat):(bubble p k d).getD x 0=if x=k - d then p.getD k 0 else if k - d<x/\x<=k then p.getD (x - 1) 0 else p.getD x 0:=by
 rw[v6,getElem?_bubble c d hd,v6,v6,v6];by_cases a:x=k - d
 ·rw[if_pos a,if_pos a]
 ·rw[if_neg a,if_neg a];by_cases b:k - d<x/\x<=k
  ·rw[if_pos b,if_pos b]
  ·rw[if_neg b,if_neg b]
structure Ld (N:Nat)(p:Array Nat):Prop where
 sz:p.size=N
 pm:p.Perm (List.range N).toArray
def Asc (f:Nat->Nat->Bool)(p:Array Nat)(m:Nat):Prop:=∀i j,i<j->j<m->f (p.getD j 0) (p.getD i 0)=false
def Fds (f:Nat->Nat->Bool)(p:Array Nat)(m:Nat):Prop:=∀i j,i<j->j<m->f (p.getD i 0) (p.getD j 0)=false
def Ld.rev (L:Ld N p):Ld N (kas_rev p i j):=⟨by unfold kas_rev;rw[mirror_size];exact L.sz,(mirror_perm _ _ _ _).trans L.pm⟩
theorem aLx (p:Array Nat):∀fu m,m<=(kas_asc p fu m).ev f/\(kas_asc p fu m).ev f<=m+fu/\(∀k,m<=k->k<(kas_asc p fu m).ev f->f (p.getD k 0) (p.getD (k - 1) 0)=false)/\((kas_asc p fu m).ev f<m+fu->f (p.getD ((kas_asc p fu m).ev f) 0) (p.getD ((kas_asc p fu m).ev f - 1) 0)=true)
 |0,m=>⟨d8 _,d8 _,λk b a=>absurd (show k<m from a) (by lia),λh=>absurd (show m<m+0 from h) (by lia)⟩
 |fu+1,m=>by
  show m<=(if f (p.getD m 0) (p.getD (m - 1) 0)=true then KasT.ret m else kas_asc p fu (m+1)).ev f/\(if f (p.getD m 0) (p.getD (m - 1) 0)=true then KasT.ret m else kas_asc p fu (m+1)).ev f<=m+(fu+1)/\(∀k,m<=k->k<(if f (p.getD m 0) (p.getD (m - 1) 0)=true then KasT.ret m else kas_asc p fu (m+1)).ev f->f (p.getD k 0) (p.getD (k - 1) 0)=false)/\((if f (p.getD m 0) (p.getD (m - 1) 0)=true then KasT.ret m else kas_asc p fu (m+1)).ev f<m+(fu+1)->f (p.getD ((if f (p.getD m 0) (p.getD (m - 1) 0)=true then KasT.ret m else kas_asc p fu (m+1)).ev f) 0) (p.getD ((if f (p.getD m 0) (p.getD (m - 1) 0)=true then KasT.ret m else kas_asc p fu (m+1)).ev f - 1) 0)=true);by_cases e:f (p.getD m 0) (p.getD (m - 1) 0)=true
  ·simp only[if_pos e];exact⟨d8 _,bDF _ _,λk b a=>absurd (show k<m from a) (by lia),λ_=>e⟩
  ·simp only[if_neg e];obtain⟨b,a,d,c⟩:=aLx p fu (m+1);refine⟨by lia,by lia,λk i g=>?_,λh=>c (by lia)⟩;by_cases z:k=m
   ·subst z;simpa using e
   ·exact d k (by lia) g
theorem aGq (S:Swo f)(l:Asc f p m)(n:1<=m):∀d,(∀k,m<=k->k<m+d->f (p.getD k 0) (p.getD (k - 1) 0)=false)->Asc f p (m+d)
 |0,_=>l
 |d+1,h=>λi j c o=>by
  have g:=aGq S l n d λk a b=>h k a (by lia);by_cases z:j=m+d
  ·subst z;have e:=h (m+d) (by lia) (by lia);by_cases y:i=m+d - 1
   ·subst y;exact e
   ·exact S.tr (g i (m+d - 1) (by lia) (by lia)) e
  ·exact g i j c (by lia)
structure Dsc (f:Nat->Nat->Bool)(N:Nat)(p:Array Nat)(n q:Nat):Prop where
 ld:Ld N p
 hq:q+1<=n
 hn:n<=N
 a:Fds f p n
 b:∀i j,n - (q+1)<=i->i<j->j<n->f (p.getD j 0) (p.getD i 0)=false
def qO (p:Array Nat)(n q:Nat):Array Nat:=if q > 0 then kas_rev p (n - (q+1)) n else p
def Dsc.close (D:Dsc f N p n q):Ld N (qO p n q)/\Fds f (qO p n q) n/\(∀k,k<n->∃k',k'<n/\(qO p n q).getD k 0=p.getD k' 0)/\(qO p n q).getD n 0=p.getD n 0:=by
 have l:=D.hq;have c:n<=p.size:=by rw[D.ld.sz];exact D.hn
 unfold qO;by_cases h:q > 0
 ·rw[if_pos h];refine⟨D.ld.rev,λi j d g=>?_,λk e=>?_,by rw[uO c,if_neg (by lia)]⟩
  ·rw[uO c,uO c];by_cases a:n - (q+1)<=i
   ·rw[if_pos ⟨a,by lia⟩,if_pos ⟨by lia,g⟩];exact D.b _ _ (by lia) (by lia) (by lia)
   ·rw[if_neg (show ¬ (n - (q+1)<=i/\i<n) by lia)]
    split
    ·exact D.a _ _ (by lia) (by lia)
    ·exact D.a i j d g
  ·rw[uO c]
   split
   ·exact⟨_,by lia,rfl⟩
   ·exact⟨k,e,rfl⟩
 ·rw[if_neg h];exact⟨D.ld,D.a,λk e=>⟨k,e,rfl⟩,rfl⟩
def Dsc.down (S:Swo f)(D:Dsc f N p n q)(o:n<N)(h:f (p.getD n 0) (p.getD (n - 1) 0)=true):Dsc f N (qO p n q) (n+1) 0:=by
 obtain⟨L,F,R,e⟩:=D.close;have m:=D.hq;refine⟨L,by lia,o,λi j d r=>?_,λi j a b c=>by lia⟩;by_cases z:j=n
 ·subst z;obtain⟨g,k,l⟩:=R i d;rw[e,l];by_cases y:g=j - 1
  ·subst y;exact S.asym h
  ·exact S.asym (S.lt1 h (D.a g (j - 1) (by lia) (by lia)))
 ·exact F i j d (by lia)
def Dsc.flat (S:Swo f)(D:Dsc f N p n q)(k:n<N)(e:f (p.getD n 0) (p.getD (n - 1) 0)=false)(g:f (p.getD (n - 1) 0) (p.getD n 0)=false):Dsc f N p (n+1) (q+1):=by
 have h:=D.hq;refine⟨D.ld,by lia,k,λi j d l=>?_,λi j a b c=>?_⟩
 ·by_cases z:j=n
  ·subst z;by_cases y:i=j - 1
   ·subst y;exact g
   ·exact S.tr g (D.a i (j - 1) (by lia) (by lia))
  ·exact D.a i j d (by lia)
 ·by_cases z:j=n
  ·subst z;by_cases y:i=j - 1
   ·subst y;exact e
   ·exact S.tr (D.b i (j - 1) (by lia) (by lia) (by lia)) e
  ·exact D.b i j (by lia) b (by lia)
theorem aA0 (S:Swo f):∀fu p n q,Dsc f N p n q->n+fu<=N->Dsc f N ((kas_desc fu p n q).ev f).1 ((kas_desc fu p n q).ev f).2.1 ((kas_desc fu p n q).ev f).2.2
 |0,p,n,q,D,_=>D
 |fu+1,p,n,q,D,h=>by
  show Dsc f N ((if f (p.getD n 0) (p.getD (n - 1) 0)=true then (if q > 0 then kas_desc fu (kas_rev p (n - (q+1)) n) (n+1) 0 else kas_desc fu p (n+1) 0) else .ask (p.getD (n - 1) 0) (p.getD n 0) λd=>if d=true then .ret (p,n,q) else kas_desc fu p (n+1) (q+1)).ev f).1 ((if f (p.getD n 0) (p.getD (n - 1) 0)=true then (if q > 0 then kas_desc fu (kas_rev p (n - (q+1)) n) (n+1) 0 else kas_desc fu p (n+1) 0) else .ask (p.getD (n - 1) 0) (p.getD n 0) λd=>if d=true then .ret (p,n,q) else kas_desc fu p (n+1) (q+1)).ev f).2.1 ((if f (p.getD n 0) (p.getD (n - 1) 0)=true then (if q > 0 then kas_desc fu (kas_rev p (n - (q+1)) n) (n+1) 0 else kas_desc fu p (n+1) 0) else .ask (p.getD (n - 1) 0) (p.getD n 0) λd=>if d=true then .ret (p,n,q) else kas_desc fu p (n+1) (q+1)).ev f).2.2;by_cases e:f (p.getD n 0) (p.getD (n - 1) 0)=true
  ·have a:=D.down S (by lia) e;unfold qO at a;simp only[if_pos e];by_cases c:q > 0
   ·simp only[if_pos c] at a ⊢;exact aA0 S fu _ _ _ a (by lia)
   ·simp only[if_neg c] at a ⊢;exact aA0 S fu _ _ _ a (by lia)
  ·simp only[if_neg e];show Dsc f N ((if f (p.getD (n - 1) 0) (p.getD n 0)=true then KasT.ret (p,n,q) else kas_desc fu p (n+1) (q+1)).ev f).1 ((if f (p.getD (n - 1) 0) (p.getD n 0)=true then KasT.ret (p,n,q) else kas_desc fu p (n+1) (q+1)).ev f).2.1 ((if f (p.getD (n - 1) 0) (p.getD n 0)=true then KasT.ret (p,n,q) else kas_desc fu p (n+1) (q+1)).ev f).2.2;by_cases b:f (p.getD (n - 1) 0) (p.getD n 0)=true
   ·simp only[if_pos b];exact D
   ·simp only[if_neg b];exact aA0 S fu _ _ _ (D.flat S (by lia) (by simpa using e) (by simpa using b)) (by lia)
def aJm (f:Nat->Nat->Bool)(N:Nat)(r:Nat × Array Nat):Prop:=1<=r.1/\r.1<=N/\Ld N r.2/\Asc f r.2 r.1
def aIt (S:Swo f){N n:Nat}{p:Array Nat}(L:Ld N p)(F:Fds f p n)(k:1<=n)(l:n<=N):aJm f N ((kas_tail3 n N p).ev f):=by
 unfold kas_tail3;rw[rF];have a:n<=p.size:=by rw[L.sz];exact l
 have h:Asc f (kas_rev p 0 n) n:=λi j c e=>by rw[uO a,uO a,if_pos ⟨bAC _,e⟩,if_pos ⟨bAC _,by lia⟩];exact F _ _ (by lia) (by lia)
 obtain⟨m,g,b,_⟩:=aLx (f:=f) (kas_rev p 0 n) (N - n) n;obtain⟨d,hd⟩:∃d,(kas_asc (kas_rev p 0 n) (N - n) n).ev f=n+d:=⟨(kas_asc (kas_rev p 0 n) (N - n) n).ev f - n,by lia⟩;show aJm f N ((kas_asc (kas_rev p 0 n) (N - n) n).ev f,kas_rev p 0 n);rw[hd] at g b ⊢;exact⟨by show 1<=n+d;lia,by show n+d<=N;lia,L.rev,aGq S h k d b⟩
def aAd (S:Swo f){N n:Nat}{p:Array Nat}(D:Dsc f N p (n+1) 0):aJm f N ((kas_descPart n N p).ev f):=by
 unfold kas_descPart;rw[rF];have a:=aA0 S (N - (n+1)) p (n+1) 0 D (by have:=D.hn;lia);generalize (kas_desc (N - (n+1)) p (n+1) 0).ev f=r at a;obtain⟨L,F,_⟩:=a.close;have b:=a.hq;unfold qO at L F;by_cases h:r.2.2 > 0
 ·simp only[if_pos h] at L F ⊢;exact aIt S L F (by lia) a.hn
 ·simp only[if_neg h] at L F ⊢;exact aIt S L F (by lia) a.hn
def aUo (S:Swo f){N:Nat}(h1:1<=N){p:Array Nat}(L:Ld N p):aJm f N ((kas_count N p).ev f):=by
 unfold kas_count;rw[rF];obtain⟨l,t,n,q⟩:=aLx (f:=f) p (N - 1) 1;generalize B:(kas_asc p (N - 1) 1).ev f=m at l t n q;obtain⟨d,rfl⟩:∃d,m=1+d:=⟨m - 1,by lia⟩;have A:Asc f p (1+d):=aGq S (λi j h s=>by lia) (d8 _) d n;have v:N<=p.size:=by rw[L.sz];exact d8 _
 by_cases e:(1+d == N)=true
 ·simp only[if_pos e];exact⟨l,by show 1+d<=N;lia,L,A⟩
 ·simp only[if_neg e];have u:1+d<N:=by
   have:1+d≠N:=by simpa using e
   lia
  have hd:=q (by lia);by_cases o:1+d > 1
  ·simp only[if_pos o];show aJm f N ((if f (p.getD 0 0) (p.getD (1+d - 1) 0)=true then KasT.ret (1+d,p) else kas_descPart (1+d) N (kas_rev p 0 (1+d))).ev f);by_cases g:f (p.getD 0 0) (p.getD (1+d - 1) 0)=true
   ·simp only[if_pos g];exact⟨l,by show 1+d<=N;lia,L,A⟩
   ·simp only[if_neg g];have g:f (p.getD 0 0) (p.getD (1+d - 1) 0)=false:=by simpa using g
    have r:=λk=>uO (i:=0) (j:=1+d) (p:=p) (by lia) k;refine aAd S ⟨L.rev,by lia,by lia,λi j h s=>?_,λi j a b c=>by lia⟩;rw[r i,r j,if_pos ⟨bAC _,by lia⟩];by_cases z:j=1+d
    ·subst z;rw[if_neg (by lia)];refine S.asym ?_;generalize w:0+(1+d) - 1 - i=k;by_cases y:k=1+d - 1
     ·rw[y];exact hd
     ·refine S.lt1 hd ?_;by_cases x:k=0
      ·rw[x];exact g
      ·exact S.tr g (A 0 k (by lia) (by lia))
    ·rw[if_pos ⟨bAC _,by lia⟩];exact A _ _ (by lia) (by lia)
  ·have z:d=0:=by lia
   subst z;simp only[if_neg o];refine aAd S ⟨L,by lia,by lia,λi j h s=>?_,λi j a b c=>by lia⟩;have z:j=1:=by lia
   have y:i=0:=by lia
   subst z y;exact S.asym hd
theorem aBe (S:Swo f)(A:Asc f p k):∀fu l r,l<=r->r<=k->r - l<=fu->(∀i,i<l->f (p.getD k 0) (p.getD i 0)=false)->(∀i,r<=i->i<k->f (p.getD k 0) (p.getD i 0)=true) ->
  (kas_place p k fu l r).ev f<=k/\(∀i,i<(kas_place p k fu l r).ev f->f (p.getD k 0) (p.getD i 0)=false)/\∀i,(kas_place p k fu l r).ev f<=i->i<k->f (p.getD k 0) (p.getD i 0)=true
 |0,l,r,g,d,h3,a,b=>by
  have z:l=r:=by lia
  subst z;exact⟨d,a,b⟩
 |fu+1,l,r,g,d,h3,a,b=>by
  unfold kas_place;by_cases e:l ≥ r
  ·have z:l=r:=by lia
   subst z;simp only[if_pos e];exact⟨d,a,b⟩
  ·simp only[if_neg e];by_cases c:f (p.getD k 0) (p.getD ((l+r) / 2) 0)=true
   ·have n:∀i,(l+r) / 2<=i->i<k->f (p.getD k 0) (p.getD i 0)=true:=λi g d=>by
     by_cases z:i=(l+r) / 2
     ·subst z;exact c
     ·exact S.lt1 c (A _ i (by lia) d)
    have:=aBe S A fu l ((l+r) / 2) (by lia) (by lia) (by lia) a n;simpa only [KasT.ev,if_pos c] using this
   ·have j:f (p.getD k 0) (p.getD ((l+r) / 2) 0)=false:=by simpa using c
    have m:∀i,i<(l+r) / 2+1->f (p.getD k 0) (p.getD i 0)=false:=λi h=>by
     by_cases z:i=(l+r) / 2
     ·subst z;exact j
     ·exact S.tr (A i _ (by lia) (by lia)) j
    have:=aBe S A fu ((l+r) / 2+1) r (by lia) d (by lia) m b;simpa only [KasT.ev,if_neg c] using this
theorem aUn (S:Swo f){N:Nat}:∀(fu:Nat) (p:Array Nat) (k:Nat),Ld N p->Asc f p k->1<=k->k+fu=N->Ld N ((kas_bin fu p k).ev f)/\Asc f ((kas_bin fu p k).ev f) N
 |0,p,k,L,A,_,e=>by
  have z:k=N:=by lia
  subst z;exact⟨L,A⟩
 |fu+1,p,k,L,A,h1,e=>by
  unfold kas_bin;rw[rF];obtain⟨s,g,c⟩:=aBe S A k 0 k (bAC _) (d8 _) (by lia) (λi h=>by lia) (λi h u=>by lia);generalize (kas_place p k k 0 k).ev f=l at s g c;have r:k<p.size:=by rw[L.sz];lia
  have a:=λx=>bAs (p:=p) (k:=k) (d:=k - l) r (by lia) x;have t:k - (k - l)=l:=by lia
  rw[t] at a;refine aUn S fu _ (k+1) ⟨by rw[bubble_size];exact L.sz,(bubble_perm _ _ _).trans L.pm⟩ (λi j b v=>?_) (by lia) (by lia);rw[a i,a j];by_cases o:i=l
  ·rw[if_pos o,if_neg (by lia),if_pos (by lia)];exact S.asym (c _ (by lia) (by lia))
  ·rw[if_neg o];by_cases q:l<i/\i<=k
   ·rw[if_pos q,if_neg (by lia),if_pos (by lia)];exact A _ _ (by lia) (by lia)
   ·rw[if_neg q];by_cases n:j=l
    ·rw[if_pos n];exact g i (by lia)
    ·rw[if_neg n];by_cases m:l<j/\j<=k
     ·rw[if_pos m];exact A _ _ (by lia) (by lia)
     ·rw[if_neg m];exact A _ _ b (by lia)
def aW6 (S:Swo f){N:Nat}(b:1<=N):Ld N ((kas_sort N).ev f)/\Asc f ((kas_sort N).ev f) N:=by
 unfold kas_sort;rw[rF];have R:=aUo S b ⟨by simp,.refl _⟩;generalize (kas_count N (List.range N).toArray).ev f=r at R;obtain⟨a,c,L,A⟩:=R;by_cases e:r.1<N
 ·simp only[if_pos e];have z:max r.1 1=r.1:=by lia
  rw[z];exact aUn S _ _ _ L A a (by lia)
 ·simp only[if_neg e];have z:r.1=N:=by lia
  rw[z] at A;exact⟨L,A⟩
end
theorem aTi {α:Type}{n:Nat}{P:α->Prop}{t:KasT α}(h:t.Low n P){f g:Nat->Nat->Bool}(e:∀i j,i<n->j<n->f i j=g i j):t.ev f=t.ev g:=by
 induction h with
 |ret h=>rfl
 |@ask i j k a b _ ih=>show (k (f i j)).ev f=(k (g i j)).ev g;rw[e i j a b];exact ih (g i j)
def aMz {n:Nat}{f g:Nat->Nat->Bool}(e:∀i j,i<n->j<n->f i j=g i j):dM n f=dM n g:=by
 unfold dM;by_cases h:n<2
 ·rw[if_pos h,if_pos h]
 ·rw[if_neg h,if_neg h,aTi (wI (by lia)) e]
def aLr (S:Swo f):(dM n f).Perm (List.range n)/\(dM n f).Pairwise λi j=>f j i=false:=by
 unfold dM;by_cases h:n<2
 ·rw[if_pos h];refine⟨.refl _,?_⟩
  match n,h with
  |0,_=>exact .nil
  |1,_=>exact List.pairwise_singleton _ _
 ·rw[if_neg h];obtain⟨L,A⟩:=aW6 S (show 1<=n by lia);generalize (kas_sort n).ev f=p at L A;refine⟨?_,List.pairwise_iff_getElem.mpr λi j d e c=>?_⟩
  ·have:=Array.perm_iff_toList_perm.mp L.pm;simpa using this
  ·have b:i<p.size:=by simpa using d
   have a:j<p.size:=by simpa using e
   have:=A i j c (by rw[<-L.sz];exact a);rw[v6,v6,j7 b,j7 a] at this;simpa using this
end PySem.W.N4
namespace PySem.W
open PySem PySem.Calls PyProof.Rows
section
variable {prog:Program}{w:World}{A:Around}{E:bF5}{s:Shared}{f:Nat->Nat->Bool}
end
end PySem.W
namespace PySem.W
open PySem PySem.Calls PyProof.Rows
theorem aCb (l:List Value)(h:TriplesOk l)(d:codeAmong pos (l++[rawInt a,rawInt b,c])=some cv):codeAmong pos l=some cv\/cv=c:=by
 fun_induction TriplesOk l with
 |case1=>
  simp only[bEJ,codeAmong,rawInt] at d
  split at d
  ·exact .inr (bAK d).symm
  ·cases d
 |case2 a' t b' u x rest ih=>
  simp only[List.cons_append,codeAmong] at d ⊢
  split at d
  ·rename_i e;rw[if_pos e];exact .inl d
  ·rename_i e;rw[if_neg e];exact ih h d
 |case3 l h1 h2=>exact h.elim
section
variable {prog:Program}{w:World}{A:Around}{E:bF5}{s:Shared}
end
end PySem.W
namespace L2
open PySem PySem.Spec PyProof.Rows
def BM (mg:bF7)(base:Heap):Prop:=∃bm ob,mg "__builtins__"=some (.ref bm)/\bm≠builtinsNs/\base.get? bm=some ob/\ob.cls=.type "module"/\ob.dict=some builtinsNs/\ob.data=.plain
section
variable {X:Cx}{bF8:bF6}{σ:List (Option V)}{H:Hp}{s:Shared}
end
def ExO (a:Addr)(o:Obj):HO:=.ext λh=>h.get? a=some o
def aZ8 (e:h.get? a=some o):cV P w H h a (ExO a o):=⟨e,⟨o,e⟩,λ_ _ b k=>k o b⟩
def bEw (g x y:Str)(p0 p1 p2 p3:Pos):Expr:=.Call (.Name g p0) [.Name x p1,.Name y p2] [] p3
structure bBy (qual g x y:Str)(params:Arguments)(bd:Expr)(scope:Scope):Prop where
 body:∃p0 p1 p2 p3,bd=bEw g x y p0 p1 p2 p3
 bind:∀(cp c':Addr) (pm ctv v:Value),bindArgs (PySem.W.kla_fn "<lambda>" qual params bd scope [(y,cp)] pm (.ref c') ctv) ⟨[v],[]⟩=pure [(x,v)]
 co:scope.isCoroutine=false
 gen:scope.isGenerator=false
 kind:scope.kind=.function
 cell:∀z∈scope.names,z.2≠.cell
 hx:scope.names.lookup x=some .local
 hy:scope.names.lookup y=some .free
 hg:scope.names.lookup g=some .globalImplicit
 dx:(x == ("__debug__":Str))=false
 dy:(y == ("__debug__":Str))=false
 dg:(g == ("__debug__":Str))=false
 cy:(y == ("__classdict__":Str))=false
 xy:(y == x)=false
def vO (H:Hp)(f:Addr)(qual g x y:Str)(v:V):Prop:=∃params body scope cp c' pm ctv oc ol u vs t,
 bBy qual g x y params body scope/\H f=some (ExO f (PySem.W.kla_obj "<lambda>" qual params body scope [(y,cp)] pm c' ctv))/\H cp=some (ExO cp ol)/\(∀h:Heap,h.get? cp=some ol->h.IsCell cp (some u))/\RelV v u/\H c'=some (ExO c' oc)/\oc.data=.fields vs/\vs[1]?=some (.str qual t)
def vO.same (L:vO H f qual g x y v)(s:Same H H'):vO H' f qual g x y v:=by obtain⟨q,o,e,i,l,b,a,n,w,u,r,t,S,c,j,h,p,m,k,d⟩:=L;exact⟨q,o,e,i,l,b,a,n,w,u,r,t,S,s _ _ c,s _ _ j,h,p,s _ _ m,k,d⟩
section
variable {X:Cx}
theorem aYg {bF8:bF6}{σ:St}{H:Hp}{s:Shared}{Q:VK}{f ga:Addr}{qual g x y:Str}{v a:V}{E:Value}{k:Nat}{fd:FuncData}{ps:List Str}{sp:Sp}
  (L:vO H f qual g x y v) (hr:Room (k+1) X.A) (hm:X.mg g=some (.ref ga)) (hk:PySem.W.keepIn X.K (.ref ga)=true) (hb:Binds X.K fd ps []) (F:gJ X.prog X.w X.K X.mg X.base CX0 k ga fd ps sp)
  (I:Inv X bF8 σ H s) (r:RelV a E) (h:sp [a,v] H Q E0):wpAny (model X.prog X.w) X.A (call (.ref f) [E]) (EP X bF8 σ Q) X.xe s:=by
 obtain⟨pa,bo,sc,O,Z,pm,a0,oc,ol,u,vs,t,S,h1,h2,h3,h4,h5,h6,h7⟩:=L;have e1:s.heap.get? f=some _:=(I.hok f _ h1).1;have e2:s.heap.get? O=some ol:=(I.hok O _ h2).1;have e5:s.heap.get? Z=some oc:=(I.hok Z _ h5).1;refine bDJ (PySem.W.kla_callFunE hr.depth e1 rfl S.co S.gen rfl ⟨Z,oc,vs,t,rfl,e5,h6,h7⟩ ?_);rw[S.bind];refine d7 (wpAny_newFunctionEnv S.cell (λz hz=>?_) (λC M D=>⟨I.nolimit.fresh _ D,?_⟩) S.kind)
 ·have e:z=(x,E):=by simpa using hz
  rw[e];exact S.hx
 have d:∀b o,s.heap.get? b=some o->C.get? b=some o:=λb o e=>D.extBut b o (v8 (j9 e)) (c7 _ e);have P:s.heap.objs.size<=C.objs.size:=by have:=D.1;rw[bBL] at this;lia
 refine PySem.W.kla_codeExpr ?_;obtain⟨p0,p1,p2,p3,rfl⟩:=S.body;have hG:C.Ns mainGlobals X.mg:=(I.mod.glob.keeps I.bk).keeps d;refine bBK (bDT S.kind S.hg (Calls.loadGlobal_global hG hm ?_) S.dg);refine PySem.W.callWith_K (h₀:=X.base) I.ok.mod.kin hk (bBY (wpAny_Name (wpAny_loadName_local S.kind S.hx M (v:=E) (by simp) ?_) S.dx)) rfl rfl;refine bBY (wpAny_Name (wpAny_loadName_free S.kind S.hy (c:=O) (by simp[newEnv,PySem.W.kla_fn]) (v:=u) (h3 C (d _ _ e2)) ?_ S.cy) S.dy);have J:X.K.In C:=I.kIn.keeps d;refine bET ⟨J,?_⟩;generalize j:newEnv _ s.heap.objs.size _ _ _ _ _ _ _=env;have m:env.frame=some s.heap.objs.size:=by rw[<-j];rfl
 have R:env.scope.kind≠.module:=by rw[<-j];show sc.kind≠_;rw[S.kind];decide
 have p:X.base.get? s.heap.objs.size=none:=bDS (bAE I.ok.bsz I.sz);have i:H s.heap.objs.size=none:=I.hok.fresh (d8 _);have E1:aHv X.prog X.w X.K X.mg X.base (X.A.deeper env) (env::X.stack) { s with heap:=C,toks:=s.toks+1 } H:=by
  refine⟨Around.frames_deeper I.ok.frames,I.ok.mod,λb o e=>⟨d _ _ (I.bs b o e).1,(I.bs b o e).2⟩,bAE (bAE I.ok.bsz I.sz) P,.cons R m M p ?_,?_,I.hok.kept d,I.bare⟩
  ·exact I.stack.of_keeps λb o e _=>⟨o,d _ _ e,rfl⟩
  ·intro b hb;unfold frs at hb;rw[bCF,m] at hb;rcases List.mem_cons.mp hb with e|hb
   ·rw[e];exact i
   ·exact I.rG b hb
 have r2:Vals [a,v] [E,u]:=.cons r (.cons h4 .nil);have hl:([E,u]++([]:List Value)).length=ps.length:=by rw[bBB,<-r2.length];exact F.len _ _ _ _ h
 refine bDJ (bCN (F.run (X.A.deeper env) (env::X.stack) _ H ⟨[E,u],[]⟩ [E,u] [a,v] Q E0 (hr.deeper env) E1 (by simpa using hb { s with heap:=C,toks:=s.toks+1 } [E,u] J hl) r2 h) λrr s' G=>?_);cases rr with
 |error e=>exact G.elim
 |ok fl=>
  cases fl with
  |next=>exact False.elim G
  |brk=>exact False.elim G
  |cont=>exact False.elim G
  |ret uu=>
   obtain⟨v',H',os,N,l,U,T,q⟩:=G;refine I.after (Q:=Q) (u:=uu) (s':=s') ⟨v',H',os,N,?_,U,T,q⟩;have Y:∀b o,s.heap.get? b=some o->b≠s.heap.objs.size:=λb o e=>v8 (j9 e);have fe:frs (env::X.stack)=s.heap.objs.size::frs X.stack:=by unfold frs;rw[bCF,m]
   rw[fe] at l;exact⟨λb o e n hb B=>l.keep b o (d b o e) n (λz=>(List.mem_cons.mp z).elim (Y b o e) hb) B,λb o e n hb B=>l.slot b o (d b o e) n (j5 _ hb) B,λb o e n B=>l.free b o (d b o e) n B,λb o e B=>l.there b o (d b o e) B,l.tups,l.frzs,l.tbls⟩
def aTz (P:Program)(w:World)(K:bF4)(mg:bF7)(base:Heap)(k:Nat)(te:TE)(t:TA):TE:=fun σ H Q=>te σ H λv H1=>∃f qual g x y z ps sp,v=.ref f/\vO H1 f qual g x y z/\Ok P w K mg base k g ps sp /\
 t σ H1 λvs H2=>∃a,vs=[a]/\vO H2 f qual g x y z/\sp [a,z] H2 Q E0
theorem aS4 {n:Str}{p pos:Pos}{e:Expr}{es:List Expr}{te:TE}{t:TA}{k:Nat}(hr:Room (k+1) X.A)(hf:PE X (.Name n p) te)(ha:PA X (e::es) t)
  (he:starEach (e::es) X.env=(false,eval e X.env)::starEach es X.env:=by rfl) (Z:(backTo pos (starEach es X.env)).any (·.1)=false:=by rfl) :
  PE X (.Call (.Name n p) (e::es) [] pos) (aTz X.prog X.w X.K X.mg X.base k te t):=by
 intro d s σ H Q I h;refine bBK (thn (hf d s σ H _ I h) λu s1 ⟨v,M,I1,T,V⟩=>?_);obtain⟨f,c,g,x,y,z,ps,sp,rfl,L,G,q⟩:=V;obtain rfl:u=Value.ref f:=T;obtain⟨ga,fd,Y,N,hb,F⟩:=G;have B:=ha pos d s1 σ M _ I1 q;rw[he] at B ⊢;refine PySem.W.callWith_of (P:=λh=>∃l j m E i o b,h.get? f=some (PySem.W.kla_obj "<lambda>" c l j m E i o b)) (by show ((false || (backTo pos (starEach es X.env)).any (·.1)) || false)=false;rw[Z];rfl) (λh ⟨l,j,m,E,i,o,b,U⟩=>⟨.frame,.inl rfl,(PySem.W.Looks.ld (part:=none) U).andThen .now⟩) (bFK (thn B λus s2 ⟨vs,H2,C,r,O⟩=>?_));obtain⟨a,rfl,D,R⟩:=O;cases r with
 |cons r rn=>cases rn;refine⟨?_,aYg D hr Y N hb F C r R⟩;obtain⟨l,j,m,cp,o,i,b,oc,ol,u,vs,t,S,J,_⟩:=D;exact⟨l,j,m,_,i,o,b,(C.hok f _ J).1⟩
end
section
variable {X:Cx}{bF8:bF6}{σ:List (Option V)}{H:Hp}{s:Shared}
theorem aR7
  (I:Inv X bF8 σ H s) (j:X.env.code=.ref c) (CH:PySem.W.CodeHd X.base c P) (i:H P=some (.tab (X.env.qual++"<lambda>"))) (a8:BM X.mg X.base) (a1:closureFor scope X.env=pure clos) (a6:defaultsOf params X.env=([],[]))
  (q:∀f c' pm ctv H' h' tk,Inv X bF8 σ H' { s with heap:=h',toks:=tk }->Same H H'->s.heap.objs.size<=f->H' f=none->H' c'=some (.own P)->H' P=some (.tab (X.env.qual++"<lambda>"))->h'.get? f=some (PySem.W.kla_obj "<lambda>" (X.env.qual++"<lambda>") params body scope clos pm c' ctv)->h'.CodeRec (.ref c') (X.env.qual++"<lambda>")->Q (.ref f) { s with heap:=h',toks:=tk }) :
  wpAny (model X.prog X.w) X.A (eval (.Lambda params body scope pos) X.env) Q E s:=by
 obtain⟨ps,hp,M,g⟩:=I.hok P _ i;have hg:=I.mod.glob.keeps I.bk;obtain⟨O,ob,b1,b2,L,b4,b5,b6⟩:=a8;have bG:O≠mainGlobals:=λz=>by obtain⟨o,es,U,e,d,_⟩:=I.mod.glob;rw[z,e] at L;cases L;rw[d] at b6;cases b6
 have bP:O≠P:=λz=>by have:=(I.bs O ob L).2;rw[z,i] at this;cases this
 have gP:mainGlobals≠P:=λz=>by obtain⟨o,es,U,e,d,_⟩:=I.mod.glob;have:=(I.bs _ o e).2;rw[z,i] at this;cases this
 have hB:s.heap.BuiltinsAt X.mg P:=⟨O,ob,b1,b2,bG,bP,I.bk _ _ L,b4,b5,b6⟩;refine PySem.W.kla_eval a6 ?_;cases x:codeAmong pos ps.toList with
 |some cv=>obtain⟨c',C,R,t,rfl,K,a3,a4,V⟩:=g pos cv x;refine PySem.W.kla_makeFunctionHit a1 I.ok.glob hg j (CH.keeps I.bk) hp M x hB λctv h' tk hk D=>?_;exact q _ c' _ ctv H _ tk (I.kept (t':=tk) λb o e=>c7 _ (hk b o e)) (λ_ _ e=>e) D (I.hok.fresh D) K i (j8 _ rfl) ⟨c',C,R,t,rfl,c7 _ (hk _ _ a3),a4,V⟩
 |none=>
  refine PySem.W.kla_makeFunction a1 I.ok.glob hg j (CH.keeps I.bk) hp M x gP hB λc' ctv h' tk hx h p F G=>?_;obtain⟨c2,C,R,t,e2,k,hd,hv⟩:=F;cases e2;have nc:=I.hok.fresh h;have a7:∀b u,b≠P->H b=some u->∀o,s.heap.get? b=some o->(h'.push (PySem.W.kla_obj "<lambda>" (X.env.qual++"<lambda>") params body scope clos ((X.mg "__name__").getD .none) c' ctv)).get? b=some o:=λb u Y _ o e=>c7 _ (hx b o Y e);have B:∀b o,b≠P->s.heap.get? b=some o->(h'.push (PySem.W.kla_obj "<lambda>" (X.env.qual++"<lambda>") params body scope clos ((X.mg "__name__").getD .none) c' ctv)).get? b=some o:=λb o Y e=>c7 _ (hx b o Y e);have l:∀b,H b=none->b≠P:=λb e z=>by rw[z,i] at e;cases e
  have a:∀{b u},H b=some u->upd H c' (.own P) b=some u:=λ{b u} e=>by rw[aK (aQ e nc)];exact e
  refine q _ c' _ ctv (upd H c' (.own P)) _ tk (I.step (g':=s.gens) (d':=s.drawn) (ch:=[]) (λ_ z=>nomatch z) (λb o _ _ _ e n=>B b o (l b n) e) (λb o _ _ _ e n=>⟨o.slots,B b o (l b n) e⟩) (λb o _ e n=>?_) (λb o _ e=>?_)
   (λb xs e=>a e) (λb o u e=>a e) (λb qs e=>⟨#[],by rw[a e];simp⟩) (λm hm=>?_) (λb u e=>?_) I.bare) (λb o e=>a e) (bDI (bCJ h p)) (by rw[aK (bCM p)];exact I.hok.fresh (bDI (bCJ h p))) aF (a i) (j8 _ rfl) ⟨c',C,R,t,rfl,c7 _ k,hd,hv⟩
  ·rw[aK (v8 (z9 (j9 e) h))];exact n
  ·by_cases z:b=P
   ·subst z;exact⟨_,c7 _ G⟩
   ·exact⟨o,B b o z e⟩
  ·obtain⟨o,es,U,e,r⟩:=hm;exact⟨o,es,U,B _ o (l _ I.free) e,r⟩
  ·by_cases z:b=c'
   ·subst z;rw[aF] at e;cases e;exact⟨C,c7 _ k⟩
   ·rw[aK z] at e;by_cases y:b=P
    ·subst y;rw[i] at e;cases e;refine⟨_,c7 _ G,by rw[bDA];exact TriplesOk_snoc _ _ _ _ M,λJ T N=>?_⟩;rw[bDA] at N;rcases PySem.W.aCb _ M N with N|rfl
     ·obtain⟨c2,Z,S,t2,rfl,K,a3,a4,V⟩:=g J T N;exact⟨c2,Z,S,t2,rfl,a K,B _ _ (λz=>by rw[z,i] at K;cases K) a3,a4,V⟩
     ·exact⟨c',C,R,t,rfl,aF,c7 _ k,hd,hv⟩
    ·refine (I.hok b u e).stay (λd v a0 r=>B d v ?_ r) (λd r=>a r) λd xs r=>a r;rcases a0 with rfl|r'
     ·exact y
     ·intro z;rw[z,i] at r';cases r'
open Classical in
noncomputable def aD4 (S:Addr->Prop) (h:Heap) (H:Hp):Hp:=λb=>if S b then (h.get? b).map (ExO b) else H b
open Classical in
noncomputable def aE1 (S:Addr->Prop) (H Z:Hp):Hp:=λb=>if S b then H b else Z b
def oG (a:S b)(e:h.get? b=some o):aD4 S h H b=some (ExO b o):=by unfold aD4;rw[if_pos a,e];rfl
def dF (a:¬ S b):aD4 S h H b=H b:=by unfold aD4;rw[if_neg a]
def aC0 (a:S b):aE1 S H Z b=H b:=by unfold aE1;rw[if_pos a]
def gA (a:¬ S b):aE1 S H Z b=Z b:=by unfold aE1;rw[if_neg a]
structure aCa (X:Cx)(H:Hp)(h:Heap)(S:Addr->Prop):Prop where
 there:∀b,S b->∃o,h.get? b=some o
 own:∀d a o,¬ S a->H a=some o->H d=some (.own a)->¬ S d
 own2:∀d a o,S a->H a=some o->(∃e,o=.own e)\/(H d=some (.own a)->S d)
 tup:∀d xs,H d=some (.tup xs)->¬ S d
 frz:∀d o u,H d=some (.frz o u)->¬ S d
 tbl:∀d ps,H d=some (.tbl ps)->¬ S d
 base:∀b o,X.base.get? b=some o->¬ S b
 frs:∀b∈frs X.stack,¬ S b
theorem aCa.hok (p:aCa X H s.heap S)(I:Inv X bF8 σ H s):HOk X.prog X.w (aD4 S s.heap H) s.heap:=by
 intro b o e;by_cases a:S b
 ·obtain⟨g,c⟩:=p.there b a;rw[oG a c] at e;cases e;exact aZ8 c
 ·rw[dF a] at e;refine (I.hok b o e).stay (λ_ _ _ q=>q) (λd q=>?_) λd f q=>?_
  ·rw[dF (p.own d b o a e q)];exact q
  ·rw[dF (p.tup d f q)];exact q
def aCa.env0 (p:aCa X H s.heap S)(I:Inv X bF8 σ H s):aHv X.prog X.w X.K X.mg X.base X.A X.stack s (aD4 S s.heap H):=
 ⟨I.ok.frames,I.ok.mod,λb o e=>⟨(I.bs b o e).1,by rw[dF (p.base b o e)];exact (I.bs b o e).2⟩,bAE I.ok.bsz I.sz,I.stack,λb a=>by rw[dF (p.frs b a)];exact I.rG b a,p.hok I,I.bare⟩
theorem aCa.after (p:aCa X H s.heap S)(I:Inv X bF8 σ H s)(h:CE X.stack X.prog X.w (aD4 S s.heap H) s (λv Z=>Same (aD4 S s.heap H) Z/\∀H4,Same H H4->Q v H4) u s'):EP X bF8 σ Q u s':=by
 obtain⟨v,Z,F,m,i,t,C,A,q⟩:=h;have y:∀b o,S b->s.heap.get? b=some o->s'.heap.get? b=some o:=λb o g e=>(t b _ (A _ _ (oG g e))).1;have f:Same H (aE1 S H Z):=λb o e=>by
  by_cases g:S b
  ·rw[aC0 g];exact e
  ·rw[gA g];exact A _ _ (by rw[dF g];exact e)
 refine I.after ⟨v,aE1 S H Z,F,m,⟨λb o e n g l=>?_,λb o e n g l=>?_,λb o e n l=>?_,i.there,λb r e=>?_,λb o u e=>?_,λb B e=>?_⟩,λb o e=>?_,C,q _ f⟩
 ·by_cases a:S b
  ·exact y b o a e
  ·exact i.keep b o e (by rw[dF a];exact n) g l
 ·exact i.slot b o e (by rw[dF (p.frs b g)];exact n) g l
 ·by_cases a:S b
  ·rw[aC0 a];exact n
  ·rw[gA a];exact i.free b o e (by rw[dF a];exact n) l
 ·rw[gA (p.tup b r e)];exact i.tups b r (by rw[dF (p.tup b r e)];exact e)
 ·rw[gA (p.frz b o u e)];exact i.frzs b o u (by rw[dF (p.frz b o u e)];exact e)
 ·rw[gA (p.tbl b B e)];exact i.tbls b B (by rw[dF (p.tbl b B e)];exact e)
 ·by_cases a:S b
  ·rw[aC0 a] at e;rcases p.own2 b b o a e with⟨x,rfl⟩|_
   ·obtain⟨j,k⟩:=p.there b a;exact⟨j,y b j a k⟩
   ·by_cases E:∃x,o=.own x
    ·obtain⟨x,rfl⟩:=E;obtain⟨j,k⟩:=p.there b a;exact⟨j,y b j a k⟩
    ·refine (I.hok b o e).stay (λc u hc D=>?_) (λd q=>f _ _ q) λd r q=>f _ _ q;rcases hc with rfl|hc
     ·exact y _ _ a D
     ·rcases p.own2 c b o a e with z|z
      ·exact absurd z E
      ·exact y _ _ (z hc) D
  ·rw[gA a] at e;refine (t b o e).stay (λ_ _ _ q=>q) (λd q=>?_) λd r q=>?_
   ·by_cases hd:S d
    ·obtain⟨j,k⟩:=p.there d hd;rw[A _ _ (oG hd k)] at q;cases q
    ·rw[gA hd];exact q
   ·by_cases hd:S d
    ·obtain⟨j,k⟩:=p.there d hd;rw[A _ _ (oG hd k)] at q;cases q
    ·rw[gA hd];exact q
end
section
variable {X:Cx}
def aSf (X:Cx)(iy:Nat)(P:Addr)(g x y:Str)(sp:Sp)(t:TA):TE:=fun σ H Q=>t σ H λvs H1=>∃z,σ[iy]?=some (some z)/\H1 P=some (.tab (X.env.qual++"<lambda>")) /\
 ∀f H2,vO H2 f (X.env.qual++"<lambda>") g x y z->(∀a xs,SqT X.K H1 a xs->SqT X.K H2 a xs)->sp (vs++[.ref f]) H2 (λr H3=>Same H2 H3/\∀H4,Same H1 H4->Q r H4) E0
theorem aNc
  (F:gJ X.prog X.w X.K X.mg X.base CX0 k fa fd ps sp) (hr:Room k X.A) (aj:Gl X fn) (hm:X.mg fn=some (.ref fa)) (hk:PySem.W.keepIn X.K (.ref fa)=true) (hb:Binds X.K fd ps [])
  (h1:PE X e1 te1) (h2:PE X e2 te2) (h3:PE X e3 te3)
  (a2:X.env.code=.ref c) (CH:PySem.W.CodeHd X.base c P) (ai:BM X.mg X.base) (S:bBy (X.env.qual++"<lambda>") g x y params body scope) (hN:X.N[iy]?=some y) (ab:X.env.kindOf y=some .cell) (D:X.env.cells.lookup y=some cp) (ae:X.fn y=true) (ak:closureFor scope X.env=pure [(y,cp)]) (ag:defaultsOf params X.env=([],[]))
  (al:(fn == ("__debug__":Str))=false:=by decide)
  (ac:starEach [e1,e2,e3,.Lambda params body scope lpos] X.env=[(false,eval e1 X.env),(false,eval e2 X.env),(false,eval e3 X.env),(false,eval (.Lambda params body scope lpos) X.env)]:=by rfl)
  (ad:starEach [e2,e3,.Lambda params body scope lpos] X.env=[(false,eval e2 X.env),(false,eval e3 X.env),(false,eval (.Lambda params body scope lpos) X.env)]:=by rfl) :
  PE X (.Call (.Name fn p) [e1,e2,e3,.Lambda params body scope lpos] [] pos) (aSf X iy P g x y sp (dI te1 (dI te2 (dI te3 aAj)))):=by
 intro E s σ H Q I h;refine bBK (nY I aj hm ?_ al);refine PySem.W.callWith_K I.ok.mod.kin hk ?_ (by rw[ac,ad]) (by rw[ad];rfl);rw[ac];refine bBY (thn (h1 E s σ H _ I h) λR s1 ⟨v1,H1,I1,r1,q1⟩=>?_);refine bBY (thn (h2 E s1 σ H1 _ I1 q1) λU s2 ⟨v2,H2,I2,r2,q2⟩=>?_);refine bBY (thn (h3 E s2 σ H2 _ I2 q2) λO s3 ⟨v3,H3,I3,r3,q3⟩=>?_);obtain⟨z,hz,hP,q⟩:=q3;refine bBY (aR7 I3 a2 CH hP ai ak ag λf c' pm a8 M h' tk v s4 G hf a9 l ef Y=>bET ⟨v.kIn,?_⟩);generalize a4:({ s3 with heap:=h',toks:=tk }:Shared)=s4' at v;have hh:s4'.heap=h':=by rw[<-a4]
 rw[<-hh] at ef Y;obtain⟨m,hn,hl⟩:=v.loc;obtain⟨u,ru,lk⟩:=hl iy y z hN hz (.inr (.inl ab));have L:s4'.heap.IsCell cp (some u):=by
  rcases lk with⟨k',_⟩|⟨_,c2,e,hc⟩
  ·rw[ab] at k';cases k'
  ·rw[D] at e;cases e;exact hc
 obtain⟨ol,J,a0⟩:=id L;obtain⟨c2,oc,vs,t,a7,a6,a3,hv⟩:=Y;cases a7;have j:=v.freeC y cp D;obtain⟨v0,ov,af,_⟩:=I3.cell y cp D;have ah:=z9 (j9 af) G;have PO:aCa X M s4'.heap (λb=>b=f\/b=cp\/b=P\/M b=some (.own P)):=by
  refine⟨λb hb=>?_,λd a o ha n B hd=>?_,λd a o ha n=>?_,λd xs e hd=>?_,λd o u e hd=>?_,λd ps e hd=>?_,λb o e hd=>?_,λb hb hd=>?_⟩
  ·rcases hb with rfl|rfl|rfl|hb
   ·exact⟨_,ef⟩
   ·exact⟨_,J⟩
   ·obtain⟨ps,e,_⟩:=v.hok _ _ l;exact⟨_,e⟩
   ·exact v.hok _ _ hb
  ·rcases hd with rfl|rfl|rfl|hd
   ·rw[hf] at B;cases B
   ·rw[j] at B;cases B
   ·rw[l] at B;cases B
   ·rw[hd] at B;cases B;exact ha (.inr (.inr (.inl rfl)))
  ·rcases ha with rfl|rfl|rfl|ha
   ·rw[hf] at n;cases n
   ·rw[j] at n;cases n
   ·exact .inr λq=>.inr (.inr (.inr q))
   ·rw[ha] at n;cases n;exact .inl ⟨_,rfl⟩
  ·rcases hd with rfl|rfl|rfl|hd
   ·rw[hf] at e;cases e
   ·rw[j] at e;cases e
   ·rw[l] at e;cases e
   ·rw[hd] at e;cases e
  ·rcases hd with rfl|rfl|rfl|hd
   ·rw[hf] at e;cases e
   ·rw[j] at e;cases e
   ·rw[l] at e;cases e
   ·rw[hd] at e;cases e
  ·rcases hd with rfl|rfl|rfl|hd
   ·rw[hf] at e;cases e
   ·rw[j] at e;cases e
   ·rw[l] at e;cases e
   ·rw[hd] at e;cases e
  ·have i:=(v.bs b o e).2;have a1:=z9 (j9 e) I.ok.bsz;rcases hd with rfl|rfl|rfl|hd
   ·exact absurd (z9 a1 (bAE I3.sz G)) (bBM _)
   ·exact absurd (z9 a1 (I.ok.cab y _ ae D)) (bBM _)
   ·rw[l] at i;cases i
   ·rw[hd] at i;cases i
  ·have i:=v.rG b hb;rcases hd with rfl|rfl|rfl|hd
   ·obtain⟨_,o,n,_⟩:=I3.stack.mem hb;exact absurd (z9 (j9 n) G) (bBM _)
   ·rcases List.mem_cons.mp (v.aHy _ hb) with e|hb'
    ·obtain⟨o,es,ep,n,B,_⟩:=hn;rw[<-e,J] at n;cases n;rw[a0] at B;cases B
    ·obtain⟨_,o,n,_⟩:=I.ok.funs.mem hb';exact absurd (z9 (j9 n) (I.ok.cab y _ ae D)) (bBM _)
   ·rw[l] at i;cases i
   ·rw[hd] at i;cases i
 have LA:vO (aD4 (λb=>b=f\/b=cp\/b=P\/M b=some (.own P)) s4'.heap M) f (X.env.qual++"<lambda>") g x y z:=
  ⟨params,body,scope,cp,c',pm,a8,oc,ol,u,vs,t,S,oG (.inl rfl) ef,oG (.inr (.inl rfl)) J,λh e=>⟨ol,e,a0⟩,ru,oG (.inr (.inr (.inr a9))) a6,a3,hv⟩
 have hq:=q f _ LA λb xs e=>by
  rcases s4.aR e with (e|⟨ob,e⟩)|e
  ·exact .inl (.inl (by rw[dF (PO.tup b xs e)];exact e))
  ·exact .inl (.inr ⟨ob,by rw[dF (PO.frz b ob _ e)];exact e⟩)
  ·exact .inr e
 have r:Vals [v1,v2,v3,.ref f] [R,U,O,.ref f]:=.cons r1 (.cons r2 (.cons r3 (.cons rfl .nil)));have T:([R,U,O,Value.ref f]++([]:List Value)).length=ps.length:=by rw[bBB,<-r.length];exact F.len _ _ _ _ hq
 refine bDJ (bCN (F.run X.A X.stack s4' (aD4 (λb=>b=f\/b=cp\/b=P\/M b=some (.own P)) s4'.heap M) ⟨[R,U,O,.ref f],[]⟩ [R,U,O,.ref f] [v1,v2,v3,.ref f] _ E0 hr (PO.env0 v) (by simpa using hb s4' [R,U,O,.ref f] v.kIn T) r hq) λrr s' C=>?_);cases rr with
 |error e=>exact C.elim
 |ok fl=>
  cases fl with
  |next=>exact False.elim C
  |brk=>exact False.elim C
  |cont=>exact False.elim C
  |ret uu=>obtain⟨v',Z,os,V,un,aa,a5,sm,qq⟩:=C;exact PO.after v ⟨v',Z,os,V,un,aa,a5,sm,λH4 s5=>qq H4 (s4.trans s5)⟩
def aR5 {n:Str}{p pos:Pos}{e:Expr}{es:List Expr}{te:TE}{t:TA}{P:Program}{w:World}{K:bF4}{mg:bF7}{base:Heap}{k:Nat}(j:Room (k+1) X.A)(c:VE X (.Name n p) te)(h:VA X (e::es) t)(i:cM e=true:=by rfl)(a:(backTo pos (starEach es X.env)).any (·.1)=false:=by rfl)
  (b:X.prog=P:=by rfl) (l:X.w=w:=by rfl) (g:X.K=K:=by rfl) (f:X.mg=mg:=by rfl) (d:X.base=base:=by rfl) :
  VE X (.Call (.Name n p) (e::es) [] pos) (aTz P w K mg base k te t):=by
 subst b l g f d;exact⟨aS4 j c.1 h.1 (aM i) a⟩
def aNw
  (G:Ok X.prog X.w X.K X.mg X.base k fn ps sp) (F:Room k X.A) (h:Gl X fn) (v:VE X e1 te1) (D:VE X e2 te2) (B:VE X e3 te3)
  (b:X.env.code=.ref c) (C:PySem.W.CodeHd X.base c P) (s:BM X.mg X.base) (S:bBy (X.env.qual++"<lambda>") g x y params body scope) (z:X.N[iy]?=some y) (t:X.env.kindOf y=some .cell) (n:X.env.cells.lookup y=some cp) (m:X.fn y=true) (l:closureFor scope X.env=pure [(y,cp)]) (e:defaultsOf params X.env=([],[]))
  (u:cM e1=true:=by rfl) (a:cM e2=true:=by rfl) (d:cM e3=true:=by rfl) (q:(fn == ("__debug__":Str))=false:=by decide)
  (j:starEach [.Lambda params body scope lpos] X.env=[(false,eval (.Lambda params body scope lpos) X.env)]:=by rfl) :
  VE X (.Call (.Name fn p) [e1,e2,e3,.Lambda params body scope lpos] [] pos) (aSf X iy P g x y sp (dI te1 (dI te2 (dI te3 aAj)))):=by
 obtain⟨H,E,o,i,f,r⟩:=G;refine⟨aNc r F h o i f v.1 D.1 B.1 b C s S z t n m l e q ?_ ?_⟩
 ·rw[aM u,aM a,aM d,j]
 ·rw[aM a,aM d,j]
end
end L2
namespace HT
open PySem PySem.Spec PyProof.Rows L2
section
variable {prog:Program}{w:World}{A:Around}{E:bF5}{s:Shared}
def rZ {t z:Addr}{a:Array Value}{vl vu:Value}{lo hi:Option Int}{Q:bF5}(c:IsTup s.heap t a)(l:s.heap.IsSliceOf z vl vu .none)(pl:IsPart vl lo)(C:IsPart vu hi)
  (q:sIx a.size 0 lo=0/\sIx a.size a.size hi=a.size) (h:Q (.ref t) s):wpAny (model prog w) A (getItem (.ref t) (.ref z)) Q E s:=by
 obtain⟨p,i,f,m⟩:=id l;have e:s.TypeIs (.ref z) "slice":=⟨p,i,f⟩;obtain⟨⟨v,x,k,r⟩,u,j,n,hd⟩:=id c;simp only at j hd;subst j hd;unfold getItem
 try with_reducible refine bAR ?_
 first|refine b7 (d7 ?_)|skip
 refine b7 (wpAny_sequenceKey c.typeIs (by decide) ?_);refine b7 (bAG c.typeIs bCI
  (bAD bCI c.typeIs entry_tuple_getitem ?_ (args_tuple_getitem _ _)))
 show wpAny _ _ (Builtin.Tuple.tupleItemsOf (.ref t) >>= _) _ _ s;refine b7 (tupleItemsOf_ c ?_);refine b7 (bEU e ?_);rw[if_pos (by decide)];refine b7 (mW l pl C ?_);have b:((((sIx a.size 0 lo:Nat):Int) == 0 && (1:Int) == 1 && (sIx a.size a.size hi - sIx a.size 0 lo) == a.size)=true):=by rw[q.1,q.2];simp
 show wpAny _ _ (if (((sIx a.size 0 lo:Nat):Int) == 0 && (1:Int) == 1 && (sIx a.size a.size hi - sIx a.size 0 lo) == a.size)=true then _ else _) _ _ s;rw[if_pos b];obtain⟨B,g,d,y,o⟩:=s;wp_walk using AutoSeq1.wpAny_loadPart' u;exact⟨_,rfl,d7 h⟩
end
end HT
namespace L2
open PySem PySem.Spec PyProof.Rows
def bEx (K:bF4):V->Option Int->Option Int->Hp->VK->Prop:=λx lo hi H Q=>∃a xs,x=.ref a/\SqT K H a xs/\∀p H',Same H H'->SqT K H' p (mZ xs lo hi)->Q (.ref p) H'
def aA1:SlR X (bEx X.K):=by
 intro j s σ H x v z B k i w Q I o l n m h;obtain⟨a,b,rfl,f,q⟩:=h;by_cases d:HT.sIx b.length 0 k=0/\HT.sIx b.length b.length i=b.length
 ·cases o;obtain⟨g,r,t,C⟩:=I.tuple f;have c:g.toArray.size=b.length:=by rw[d9];exact r.length.symm
  refine⟨"tuple",_,PyProof.Rows.slot_tuple_getitem.lookup,t.typeIs,?_⟩;refine HT.rZ t l n m (by rw[c];exact d) ⟨.ref a,H,I,rfl,q a H (Same.refl H) ?_⟩;have e:mZ b k i=b:=by unfold mZ;rw[d.1,d.2,List.drop_zero,Nat.sub_zero,bCW]
  rw[e];exact f
 ·exact aAu j s σ H _ v z B k i w Q I o l n m ⟨a,b,rfl,f,d,λp y A u=>q p y A (SqT.of u)⟩
end L2
namespace L2
open PySem PySem.Spec PyProof.Rows
section
variable {X:Cx}
end
inductive PH (P:Program)(w:World):List DictEntry->List (Str × Value)->Prop
 |nil:PH P w [] []
 |cons {e:DictEntry} {kv:Str × Value} {es:List DictEntry} {kvs:List (Str × Value)}:(strKind P w).is kv.1 e.key=true->e.hash=(strKind P w).hash kv.1->e.val=kv.2->PH P w es kvs->PH P w (e::es) (kv::kvs)
end L2
namespace PySem
def aBl:typeLookup (.type "list") "keys"=pure none:=am_miss_of_fast (by decide +kernel)
section
variable {prog:Program}{w:World}{A:Around}{E:bF5}{s:Shared}
end
end PySem
namespace PySem
def gZ:entryFor table "dict.update.loop"=some Builtin.«dict.update.loop»:=entryFor_of_tree (by kernel_rfl)
def cU:plainId "dict.update.loop"=true:=by decide +kernel
section
variable {prog:Program}{w:World}{κ:Type}[DecidableEq κ]{knd:KeyKind prog w κ}
def tU (knd:KeyKind prog w κ)(h:Heap)(v:Value)(kv:κ × Value):Prop:=∃p key,v=.ref p/\PyProof.Rows.IsTup h p #[key,kv.2]/\knd.is kv.1 key=true
def tU.at (x:tU knd h v kv)(k:∀p,v=.ref p->∀o,h.get? p=some o->h'.get? p=some o):tU knd h' v kv:=by obtain⟨p,a,rfl,⟨o,b,r⟩,c⟩:=x;exact⟨p,a,rfl,⟨o,k p rfl o b,r⟩,c⟩
theorem aAn (W:Walks prog w A.in1 I fp wr n P St)(D:Addr)(hD:D∉fp)
  (a:List (κ × Value)) (a0:a.length=n) (hb:n<=1000) (hP:∀i v,P i v->∀p,v=.ref p->p∉D::wr) :
  ∀k i s t,i+k=n->St i s.heap->s.heap.DictOf knd D (merged [] (a.take i))->(∀j v kv,P j v->a[j]?=some kv->tU knd s.heap v kv) ->
   (∀h' tk,(∀b o,b∉D::wr->s.heap.get? b=some o->h'.get? b=some o)->h'.DictOf knd D (merged [] a)->R (.ok (.ret .none)) { s with heap:=h',toks:=tk }) ->
   codeAny (model prog w) A (.builtin "dict.update.loop" ⟨[.ref D,.ref I,.int (i:Nat) t,.none],[]⟩) R s:=by
 have x:D∉wr:=λq=>hD (W.sub _ q);intro k
 induction k with
 |zero=>
  intro i s t hi N hd hp q;obtain rfl:i=n:=by lia
  refine bBR gZ ?_;rw[bBI cU _];refine b7 (W.done s _ _ N λh' tk F=>?_);refine b7 (d7 (d7 (q h' tk (λb o l e=>F b o (λz=>l (j5 _ z)) e) ?_)));rw[bAW (Nat.le_of_eq a0)] at hd;exact hd.at λo e=>F D o x e
 |succ k ih=>
  intro i s t hi N hd hp q;refine bBR gZ ?_;rw[bBI cU _];refine b7 (W.item i s _ _ (by lia) N λv C f hv X r=>?_);have T:i<a.length:=by lia
  have B:=b8 T;have H:=hd.at λo e=>r D o x e;have u:∀j v kv,P j v->a[j]?=some kv->tU knd C v kv:=λj v kv pj e=>(hp j v kv pj e).at λp K o L=>r p o (λz=>hP j v pj p K (j5 _ z)) L;obtain⟨p,Y,rfl,⟨⟨oc,od,ox,a1⟩,ho,Z,m,hx⟩,hk⟩:=u i v _ hv B;simp only at Z hx;subst Z hx;have J:(merged [] (a.take i)).length<=i:=by have:=merged_length_le [] (a.take i);rw[bAI] at this;simp only[bBS] at this;lia
  obtain⟨M,g,d,tk,S⟩:=s;have hT:(⟨C,g,d,f,S⟩:Shared).TypeIs (.ref p) "tuple":=⟨_,ho,rfl⟩;have O:∀Q E,Q [Y,a[i].2] ⟨C,g,d,f,S⟩->wpAny (model prog w) A.in1 (Builtin.Dict.pairItems (.ref p)) Q E ⟨C,g,d,f,S⟩:=by intro Q E h;unfold Builtin.Dict.pairItems;wp_walk;exact h
  refine b7 (bAR (b7 (wpAny_tryCatch (O _ _ ?_))));refine bAR (wpAny_dictSet_pairs hk H (λh2 y c=>?_) (bAE J (bAE (by lia) (show 1000<=sizeLine by decide))));have e1:=merged_take_succ [] a i _ B;rw[<-e1] at y;refine d7 ⟨bCT cU _,?_⟩;have G:∀b o,b∉D::wr->M.get? b=some o->h2.get? b=some o:=λb o l e=>by rw[c.2 b (λz=>l (by rw[z];exact j0))];exact r b o (λz=>l (j5 _ z)) e
  refine ih (i+1) _ _ (by lia) (W.frame _ _ _ X λb hb o e=>?_) y (λj v kv pj e=>(u j v kv pj e).at λp' K o L=>?_) λh' U F V=>q h' U (λb o l e=>F b o l (G b o l e)) V
  ·rw[c.2 b (λz=>hD (by rw[<-z];exact hb))];exact e
  ·rw[c.2 p' (λz=>hP j v pj p' K (by rw[z];exact j0))];exact L
end
end PySem
namespace PySem
section
variable {prog:Program}{w:World}{κ:Type}[DecidableEq κ]{knd:KeyKind prog w κ}{A:Around}{E:bF5}{s:Shared}
end
end PySem
namespace PySem
open PySem.Calls PyProof.Rows
section
variable {prog:Program}{w:World}{κ:Type}[DecidableEq κ]{knd:PySem.KeyKind prog w κ}{A:Around}{E:bF5}{s:Shared}
end
end PySem
namespace L2
open PySem PySem.Spec PyProof.Rows
section
variable {X:Cx}
abbrev aSh (K:bF4)(H:Hp):List V->List (Key × V)->Prop:=Paired λu kv=>∃p,u=.ref p/\SqT K H p [kV kv.1,kv.2]
theorem bBb (I:Inv X bF8 σ H s)(h:aSh X.K H us kvs):∀{its:List Value},Vals us its ->
  ∃vs:List (Key × Value),KV kvs vs/\vs.length=its.length/\∀(j:Nat) (v:Value) (kv:Key × Value),its[j]?=some v->vs[j]?=some kv->tU (bI X.prog X.w) s.heap v kv:=by
 induction h with
 |nil=>intro its c;cases c;exact⟨[],.nil,rfl,λj v kv e _=>by simp at e⟩
 |@cons u kv us kvs r t ih=>
  intro its c;cases c with
  |cons q z=>
   obtain⟨p,rfl,o⟩:=r;cases q;obtain⟨x,m,g,y⟩:=I.tuple o;obtain⟨vs,f,k,i⟩:=ih z;obtain⟨a,val,rfl,n,l⟩:=vals2 m;refine⟨(kv.1,val)::vs,.cons ⟨rfl,l⟩ f,by rw[m8,m8,k],λj v b e d=>?_⟩;cases j with
   |zero=>cases e;cases d;exact⟨p,a,rfl,g,wA n⟩
   |succ j=>exact i j v b (by simpa using e) (by simpa using d)
theorem aC9:∀kvs acc,((acc++kvs).map (·.1)).Nodup->mC acc kvs=acc++kvs
 |[],acc,_=>by simp[mC]
 |kv::r,acc,h=>by
  have a:nC acc kv.1=none:=by
   cases e:nC acc kv.1 with
   |none=>rfl
   |some v=>exfalso;have:=aY0 e;rw[bBF,List.nodup_append] at h;exact h.2.2 _ this _ (by rw[bAL];exact j0 ..) rfl
  show mC (putK acc kv.1 kv.2) r=_;rw[aTx _ a,aC9 r _ (by rw[bCY];exact h),bCY];rfl
end
section
variable {X:Cx}{e st:Expr}{te ts:TE}{pos p2:Pos}
end
section
variable {X:Cx}{o i value:Expr}{td ty tv:TE}{pos pos':Pos}
def vV (c:X.A.units+1<cLine)(ho:VE X o td)(hi:VE X i ty)(a:VE X value tv)(b:swapsWith value (some (.Subscript o i pos')) pos.line X.env=pure false:=by rfl):VS X (.Assign [.Subscript o i pos'] value pos) (aZx td ty tv):=⟨aXx c ho.1 hi.1 a.1 b⟩
end
def xX (ho:VE X o to)(hi:VE X i ti)(a:bBw X t)
  (b:∀v,assign (.Subscript o i pos) X.env v=(do
   let ov <-holding [v] (eval o X.env)
   let iv <-holding [v,ov] (eval i X.env)
   standAt pos
   holding [v,ov,iv] (setItem ov iv v)
   release [v,ov,iv] []):=by intro _;rfl):VG X (.Subscript o i pos) (bDg to ti t):=⟨bB3 ho.1 hi.1 a b⟩
def aK1:MtR X "list.reverse" aJ3:=aL6
end L2
namespace PySem
section
variable {prog:Program}{w:World}{A:Around}{E:bF5}{s:Shared}
end
section
variable {prog:Program}{w:World}{κ:Type}[DecidableEq κ]{knd:KeyKind prog w κ}
end
end PySem
namespace PySem
section
variable {prog:Program}{w:World}{A:Around}{E:bF5}{s:Shared}
end
section
variable {prog:Program}{w:World}{κ:Type}[DecidableEq κ]{knd:KeyKind prog w κ}{A:Around}{E:bF5}{s:Shared}
end
end PySem
namespace L2
open PySem PySem.Spec PyProof.Rows
section
variable {X:Cx}{a b:Expr}{ta:TA}{pos p pos2 p2:Pos}
end
def Itw (K:bF4)(t u:Addr)(xs ys:List V):It:=
 ⟨λi H=>SqL K H t xs/\SqL K H u ys/\i<xs.length/\i<ys.length,λi H v H'=>∃T a b,H T=none/\v=.ref T/\H'=upd H T (.tup [a,b])/\xs[i]?=some a/\ys[i]?=some b,λi H=>SqL K H t xs/\SqL K H u ys/\i=ys.length/\ys.length<=xs.length⟩
section
variable {X:Cx}
def aN4 (K:bF4)(ta:TA):TI:=fun σ H R=>ta σ H λvs H1=>∃t u xs ys,vs=[.ref t,.ref u]/\SqL K H1 t xs/\SqL K H1 u ys/\R (Itw K t u xs ys) H1
def aSo (d:Gl X "zip")(n:X.mg "zip"=none)(o:PA X [a,b] ta)(m:starEach [a,b] X.env=(false,eval a X.env)::starEach [b] X.env:=by rfl)
  (k:starEach [b] X.env=[(false,eval b X.env)]:=by rfl):PI X (.Tuple elts kt tp) (.Call (.Name "zip" p) [a,b] [] pos) (aN4 X.K ta):=
 aPv true (λD=>let T:=aE6 D;⟨T.mem,T.obj,T.keep,T.item,λX e g f j i c s σ H E I h l d=>T.done X e g f j i c s σ H E I h l (.inr d),T.self⟩) d n o m k
def aWa (d:Gl X "zip")(g:X.mg "zip"=none)(f:VA X [a,b] t)(e:cM a=true:=by rfl)(c:cM b=true:=by rfl) :
  VI X (.Tuple elts kt tp) (.Call (.Name "zip" p) [a,b] [] pos) (aN4 X.K t):=⟨aSo d g f.1 (aM e) (aM c)⟩
end
def aKv {K:bF4}{t u:Addr}{xs ys:List V}{H:Hp}{B:L2.St}{te:TE}{Q:VK}(s:SqL K H t xs)(A:SqL K H u ys)(w:ys.length<=xs.length)(E:Ps2 B B)(hsz:ys.length<=1000)(h:List V)(hzl:h.length=ys.length)
  (C:∀(i:Nat) (x y z:V),xs[i]?=some x->ys[i]?=some y->h[i]?=some z->∀H' R,Same H H'->(∀H2,Same H' H2->R z H2)->te ((B.set 0 (some x)).set 1 (some y)) H' R)
  (q:∀D H',Same H H'->H' D=some (.lst h)->Q (.ref D) H'):pH (Itw K t u xs ys) H B (aNd K 2 (sW (bO 0) (sW (bO 1) aQd))) mJ te Q:=by
 intro D p;refine⟨λi m o H' n=>m=ys.length - i/\i<=ys.length/\Same H H'/\H' D=some (.lst n)/\n=h.take i/\Ps2 B o,⟨ys.length,by simp,bAC _,aW p _,aF,rfl,E⟩,?_⟩;rintro i m o H' n ⟨rfl,hi,sm,gD,rfl,hps⟩;refine⟨gD,?_⟩;by_cases l:i<ys.length
 ·right;refine⟨⟨sm.seq s,sm.seq A,by lia,l⟩,?_⟩;rintro v H2 ⟨T,a,b,hT,rfl,rfl,ha,hb⟩;have g:Same H' (L2.upd H' T (.tup [a,b])):=aW hT _;refine hg2 (SqT.of aF) hps fun F f j=>?_;have d:=j;subst d;dsimp only[mJ];rw[if_pos rfl];have c:i<h.length:=by lia
  refine C i a b h[i] ha hb (b8 c) _ _ (sm.trans g) λG r=>?_;have k:=r _ _ (g _ _ gD);refine⟨k,bCJ (show (h.take i).length<=1000 by rw[bAI];lia) (by decide),ys.length - (i+1),by lia,rfl,by lia,gG p (sm.trans (g.trans r)),aF,?_,f⟩;rw[bBP,b8 c];rfl
 ·left;have e:i=ys.length:=by lia
  subst e;rw[bAW (by lia)] at gD;exact⟨⟨sm.seq s,sm.seq A,rfl,w⟩,q D H' sm gD⟩
def aLv {J:It}{H:Hp}{xs:List V}{t:L2.St}{te:TE}{Q:VK}(B:∀H' i x,Same H H'->xs[i]?=some x->J.go i H'/\∀y H2,J.yld i H' y H2->H2=H'/\y=x)(k:∀H',Same H H'->J.stop xs.length H')(s:Ps1 t t)(hsz:xs.length<=1000)
  (f:List V) (hzl:f.length=xs.length) (u:∀(i:Nat) (x z:V),xs[i]?=some x->f[i]?=some z->∀H' R l,Same H H'->(∀H2,Same H' H2->R z H2)->te ((t.set 0 l).set 0 (some x)) H' R)
  (q:∀D H',Same H H'->H D=none->H' D=some (.lst f)->Q (.ref D) H'):pH J H t (bO 0) mJ te Q:=by
 intro D g;refine⟨λi m j H' h=>m=xs.length - i/\i<=xs.length/\Same H H'/\H' D=some (.lst h)/\h=f.take i/\Ps1 t j,⟨xs.length,by simp,bAC _,aW g _,aF,rfl,s⟩,?_⟩;rintro i m j H' h ⟨rfl,hi,sm,gD,rfl,hps⟩;refine⟨gD,?_⟩;by_cases b:i<xs.length
 ·right;obtain⟨r,p⟩:=B H' i xs[i] sm (b8 b);refine⟨r,λv H2 o=>?_⟩;obtain⟨rfl,rfl⟩:=p v H2 o;refine hg1 (i:=i) hps fun w c d=>?_;obtain⟨l,rfl⟩:=d;dsimp only[mJ];rw[if_pos rfl];have a:i<f.length:=by lia
  refine u i _ f[i] (b8 b) (b8 a) _ _ l sm λA n=>?_;refine⟨n _ _ gD,bCJ (show (f.take i).length<=1000 by rw[bAI];lia) (by decide),xs.length - (i+1),by lia,rfl,by lia,gG g (sm.trans n),aF,?_,c⟩;rw[bBP,b8 a];rfl
 ·left;have e:i=xs.length:=by lia
  subst e;rw[bAW (by lia)] at gD;exact⟨k H' sm,q D H' sm g gD⟩
def aT9 {X:Cx}{K:bF4}{scope:Scope}{N:List Str}{tl:TA}{te:TE}{tt:TT}{g:TG}{σ:L2.St}{H:Hp}{Q:VK}(b:L2.St)(a:Cap X scope N σ b)(h:tl σ H λvs H1=>∃t u xs ys,vs=[.ref t,.ref u]/\SqL K H1 t xs/\SqL K H1 u ys/\pH (Itw K t u xs ys) H1 b g tt te Q):jD X scope N (aN4 K tl) g tt te σ H Q:=⟨b,a,h⟩
def sY (ts:List (Addr × Str))(H:Hp):Prop:=∀p∈ts,H p.1=some (.tab p.2)
def mX:List (Addr × Str)->Addr->Option Str
 |[],_=>none
 |p::r,b=>if b=p.1 then some p.2 else mX r b
theorem aFu:∀{ts:List (Addr × Str)},(∀p∈ts,b≠p.1)->mX ts b=none
 |[],_=>rfl
 |p::r,h=>by unfold mX;rw[if_neg (h p j0)];exact aFu λq a=>h q (j5 _ a)
theorem qY:∀{ts:List (Addr × Str)},mX ts b=some q->∃p∈ts,p.1=b/\p.2=q
 |p::r,h=>by
  unfold mX at h;by_cases e:b=p.1
  ·rw[if_pos e] at h;exact⟨p,j0,e.symm,bAK h⟩
  ·rw[if_neg e] at h;obtain⟨a,d,c⟩:=qY h;exact⟨a,j5 _ d,c⟩
theorem aPa:∀{ts:List (Addr × Str)},(ts.map (·.1)).Nodup->∀{p:Addr × Str},p∈ts->mX ts p.1=some p.2
 |p::r,nd,q,hq=>by
  rw[bAL,bFN] at nd;unfold mX;rcases List.mem_cons.mp hq with rfl|hq
  ·rw[if_pos rfl]
  ·rw[if_neg λz=>nd.1 (by rw[<-z];exact List.mem_map.mpr ⟨q,hq,rfl⟩)];exact aPa nd.2 hq
theorem aQa {P:Program}{w:World}{K:bF4}{mg mb:bF7}{CX:CXT}{k:Nat}{fa a:Addr}{fd:FuncData}{x:Str}{sp:Sp}{i:Shared}{vs:List Value}{ns:List Int}
  (KX:K.In i.heap) (Z:i.heap.Ns mainGlobals mg) (g:i.heap.Ns builtinsNs mb) (a7:∀x:Str,x≠"__name__"->mb x=bootBuiltins x) (a1:i.heap.NoLimit) (hg:i.gens=#[])
  (M:i.heap.get? a=some { cls:=.type "list",data:=.seq vs.toArray }) (hi:IntsAre vs ns) (hl:ns.length<=sizeLine) (hr:Room k callerA)
  (ts:List (Addr × Str)) (l:∀p∈ts,i.heap.get? p.1=some { cls:=.none,data:=.fields #[] }/\isCodeTable i.heap p.1/\K.lookup p.1=none) (a4:(ts.map (·.1)).Nodup) (a5:BM mg i.heap)
  (F:∀base:Heap,K.In base->base.Ns mainGlobals mg->BM mg base->gJ P w K mg base CX k fa fd [x] sp) (T:∀(s:Shared) (u:Value),BindsTo s fd ⟨[u],[]⟩ [(x,u)])
  (a2:∀H:Hp,sY ts H->SqL K H a (ns.map V.int)->sp [.ref a] H (λv H'=>v=.bl true/\sY ts H') λ_ _ _=>False)
  (a3:∀H e s',CX [] H i (λ_ _ _=>False) e s'->False) :
  codeAny (model P w) callerA (.call (.ref fa) ⟨[.ref a],[]⟩) (λr s'=>r=.ok (.ret (.bool true))/\OldK i.heap s'.heap/\s'.os=i.os/\AllBare s'.gens) i:=by
 have rv:=aFs hi;have S:=hi.length;have B:∀H:Hp,sY ts H->(∀b,(∀p∈ts,b≠p.1)->H b=none\/∃o xs,H b=some (.frz o (.lst xs)))->SqL K H a (ns.map V.int)->HOk P w H i.heap->(∀b,H b≠none->b=a\/∃p∈ts,b=p.1)->(H a≠none->K.lookup a=none) ->
   codeAny (model P w) callerA (.call (.ref fa) ⟨[.ref a],[]⟩) (λr s'=>r=.ok (.ret (.bool true))/\OldK i.heap s'.heap/\s'.os=i.os/\AllBare s'.gens) i:=by
  intro H hT hO hS Q W hK;have f:∀{b:Addr} {o:Obj},i.heap.get? b=some o->H b=none->(aDn i.heap H).get? b=some o:=λe n=>aVg e n;have a0:∀{b:Addr} {o:Obj} {E:Array DictEntry} {D:Nat},i.heap.get? b=some o->o.data=.dict E D->H b=none:=λ{b o E D} e d=>by
   cases q:H b with
   |none=>rfl
   |some u=>
    rcases W b (by rw[q];simp) with e'|⟨p,c,e'⟩
    ·subst e';rw[M] at e;cases e;have d':Data.seq vs.toArray _=Data.dict E D:=d;cases d'
    ·subst e';rw[(l p c).1] at e;cases e;have d':Data.fields _=Data.dict E D:=d;cases d'
  have A:∀{b:Addr} {m:bF7},i.heap.Ns b m->(aDn i.heap H).Ns b m:=λ{b m} ⟨o,E,D,e,d,r⟩=>⟨o,E,D,f e (a0 e d),d,r⟩;have R:K.In (aDn i.heap H):=λb o e=>f (KX b o e) (by
   cases q:H b with
   |none=>rfl
   |some u=>
    rcases W b (by rw[q];simp) with e'|⟨p,c,e'⟩
    ·subst e';rw[hK (by rw[q];simp)] at e;cases e
    ·subst e';rw[(l p c).2.2] at e;cases e)
  have N:BM mg (aDn i.heap H):=by
   obtain⟨bm,Y,b1,b2,I,b4,b5,b6⟩:=a5;refine⟨bm,Y,b1,b2,f I ?_,b4,b5,b6⟩;cases q:H bm with
   |none=>rfl
   |some u=>
    rcases W bm (by rw[q];simp) with e'|⟨p,c,e'⟩
    ·rw[e',M] at I;cases I;cases (show Data.seq vs.toArray _=Data.plain from b6)
    ·rw[e',(l p c).1] at I;cases I;cases (show Data.fields _=Data.plain from b6)
  have hM:Mod K mg (aDn i.heap H):=⟨R,A Z,⟨mb,A g,a7⟩,let ⟨mc,h1,h2⟩:=a1;⟨mc,A h1,h2⟩⟩;have e0:aHv P w K mg (aDn i.heap H) callerA [] i H:=⟨rfl,hM,λb o e=>aX3 e,Nat.le_of_eq (aQj _ _),trivial,λb g=>absurd (show b∈([]:List Addr) from g) (by simp),Q,.of_eq hg⟩;refine bCN ((F _ R (A Z) N).run callerA [] i H ⟨[.ref a],[]⟩ [.ref a] [.ref a] _ _ hr e0 (T i (.ref a)) (.cons rfl .nil) (a2 H hT hS)) λr s' h=>?_;cases r with
  |error e=>exact (a3 H e s' h).elim
  |ok fl=>
   cases fl with
   |next=>exact False.elim h
   |brk=>exact False.elim h
   |cont=>exact False.elim h
   |ret u=>
    obtain⟨v,H',os,O,un,t,r',q⟩:=h;obtain⟨q',qT⟩:=(show v=.bl true/\sY ts H' from q);subst q';obtain rfl:u=Value.bool true:=r';have kp:∀b o,i.heap.get? b=some o->(∀p∈ts,b≠p.1)->s'.heap.get? b=some o:=λb o e g=>by
     cases q:H b with
     |none=>exact un.keep b o e q (by intro z;exact absurd (show b∈([]:List Addr) from z) (by simp)) (by simp)
     |some u=>
      rcases hO b g with z|⟨Y,xs,z⟩
      ·rw[q] at z;cases z
      ·have z2:=un.frzs b Y _ z;obtain⟨j,_⟩:=Q b _ z;obtain⟨L,_⟩:=t b _ z2;rw[e] at j;cases j;exact L
    refine⟨rfl,⟨λb o e=>?_,λb o e=>?_⟩,os,O⟩
    ·by_cases g:∃p∈ts,b=p.1
     ·obtain⟨p,c,rfl⟩:=g;obtain⟨ps,j,_⟩:=t p.1 _ (qT p c);rw[(l p c).1] at e;cases e;exact .inr (.inl ⟨(l p c).2.1,rfl,#[],ps,rfl,by rw[j];simp⟩)
     ·exact .inl (kp b o e λp c z=>g ⟨p,c,z⟩)
    ·by_cases g:∃p∈ts,b=p.1
     ·obtain⟨p,c,rfl⟩:=g;obtain⟨ps,j,_⟩:=t p.1 _ (qT p c);exact⟨_,j⟩
     ·exact⟨o,kp b o e λp c z=>g ⟨p,c,z⟩⟩
 have aT:∀p∈ts,p.1≠a:=λp c z=>by have:=(l p c).1;rw[z,M] at this;cases this
 have J:∀p∈ts,mX ts p.1=some p.2:=λp c=>aPa a4 c;have C:∀b,(∀p∈ts,b≠p.1)->mX ts b=none:=λb g=>aFu g;have G:∀(H:Hp) (p:Addr × Str),p∈ts->cV P w H i.heap p.1 (.tab p.2):=λH p c=>⟨#[],(l p c).1,trivial,λa6 cv z=>by cases z⟩;cases U:K.lookup a with
 |some o=>
  have e:=KX a o U;rw[M] at e;cases e;refine B (λb=>(mX ts b).map .tab) (λp c=>by show (mX ts p.1).map _=_;rw[J p c];rfl) (λb g=>.inl (by show (mX ts b).map _=_;rw[C b g];rfl)) (.inr ⟨_,vs.toArray,_,U,rfl,rfl,rfl,by rw[d9,S];exact hl,by simpa using rv⟩) (λb u z=>?_) (λb z=>?_) λz=>?_
  ·obtain⟨X,y,rfl⟩:=Option.map_eq_some_iff.mp (show (mX ts b).map .tab=some u from z);obtain⟨p,c,j,L⟩:=qY y;subst j L;exact G _ p c
  ·refine .inr ?_;cases y:mX ts b with
   |none=>exact absurd (show (mX ts b).map HO.tab=none by rw[y];rfl) z
   |some X=>obtain⟨p,c,j,_⟩:=qY y;exact⟨p,c,j.symm⟩
  ·exact absurd (show (mX ts a).map HO.tab=none by rw[C a λp c z=>aT p c z.symm];rfl) z
 |none=>
  refine B (λb=>if b=a then some (.frz { cls:=.type "list",data:=.seq vs.toArray } (.lst (ns.map V.int))) else (mX ts b).map .tab) (λp c=>by show (if p.1=a then _ else (mX ts p.1).map HO.tab)=_;rw[if_neg (aT p c),J p c];rfl) (λb g=>?_) (.inl (.inr ⟨{ cls:=.type "list",data:=.seq vs.toArray },if_pos rfl⟩)) (λb u z=>?_) (λb z=>?_) λ_=>U
  ·by_cases h:b=a
   ·exact .inr ⟨_,_,if_pos h⟩
   ·exact .inl (by rw[if_neg h,C b g];rfl)
  ·by_cases g:b=a
   ·have z':=(if_pos g).symm.trans z;cases z';subst g;exact⟨M,by rw[j6];exact hl,vs,_,rv,M⟩
   ·have z':=(if_neg g).symm.trans z;obtain⟨X,y,rfl⟩:=Option.map_eq_some_iff.mp z';obtain⟨p,c,j,L⟩:=qY y;subst j L;exact G _ p c
  ·by_cases g:b=a
   ·exact .inl g
   ·refine .inr ?_;cases y:mX ts b with
    |none=>exact absurd (show (if b=a then _ else (mX ts b).map HO.tab)=none by rw[if_neg g,y];rfl) z
    |some X=>obtain⟨p,c,j,_⟩:=qY y;exact⟨p,c,j.symm⟩
def aVt {l:PySem.W.OpenLaw}{n k:Nat}{q:Program}{loose:List Str}{XP:(bF7)->Heap->Prop}{YP:World->Heap->Prop}{d:DefRec}{K:Params->bF4}{CX:World->CXT}{sp:World->Sp}{x:Str}
  (hn:l.most=some n) (E:n<=sizeLine) (N:d.params.defaults=[]) (hr:Room k callerA)
  (ts:List (Addr × Str)) (J:(ts.map (·.1)).Nodup)
  (Z:∀(w:World) (h:Heap),YP w h->(K w.params).In h/\∀p∈ts,h.get? p.1=some { cls:=.none,data:=.fields #[] })
  (L:∀(w:World),∀p∈ts,(∃c,PySem.W.codeHdIn (K w.params) c p.1=true)/\(K w.params).lookup p.1=none)
  (F:∀(w:World) (mg:bF7) (fa:Addr) (h:Heap),(K w.params).In h->h.Ns mainGlobals mg->mg d.name=some (.ref fa) ->
   ∃fd:FuncData,(∀(s:Shared) (u:Value),BindsTo s fd ⟨[u],[]⟩ [(x,u)]) /\
    ∀base:Heap,(K w.params).In base->base.Ns mainGlobals mg->BM mg base->gJ l.prog w (K w.params) mg base (CX w) k fa fd [x] (sp w))
  (B:∀(w:World) (H:Hp) (a:Addr) (ns:List Int),ns.length<=n->sY ts H->SqL (K w.params) H a (ns.map V.int)->sp w [.ref a] H (λv H'=>v=.bl true/\sY ts H') λ_ _ _=>False)
  (D:∀(w:World) (H:Hp) (s:Shared) (e:Value) (s':Shared),CX w [] H s (λ_ _ _=>False) e s'->False) :
  PySem.W.WalkO q loose XP YP l.row.toRowW d [] (λf vs=>PySem.call f vs):=by
 refine Att.aJa hn N λw s₀ A mg mb fa o U X Q a vs ns G Y ho hd C z r m j I=>?_;obtain⟨y,i⟩:=Z w _ Y;obtain⟨fd,S,M⟩:=F w mg fa _ y G.T.g z;refine aQa y G.T.g G.T.b G.T.builtins G.T.nolimit I r m (bAE j E) hr ts (λp t=>⟨i p t,?_,(L w p t).2⟩) J G.T.bmain M S (λH P O=>B w H a ns j P O) λH e s'=>D w H A e s';obtain⟨c,R⟩:=(L w p t).1;exact Heap.TableAt.isCodeTable ((PySem.W.codeHd_of_K y R).tab (i p t))
def cL (K:bF4)(H:Hp)(u:V)(r:List V):Prop:=∃a,u=.ref a/\SqT K H a r
def cL.same {K:bF4}{H H':Hp}{u:V}{r:List V}(e:Same H H')(h:cL K H u r):cL K H' u r:=by obtain⟨a,rfl,b⟩:=h;exact⟨a,rfl,e.aR b⟩
def KdV:Bool->V->Prop
 |true,x=>∃i,x=.int i
 |false,x=>∃z,x=.str z
def KdR (ks:List Bool)(r:List V):Prop:=Al2 KdV ks r
def rlt:List V->List V->Bool
 |.int a::xs,.int b::ys=>if (a == b)=true then rlt xs ys else decide (a<b)
 |.str a::xs,.str b::ys=>if (a == b)=true then rlt xs ys else decide (a.cps.toList<b.cps.toList)
 |_,_=>false
def srt (rs:List (List V)):List (List V):=(PySem.W.dM rs.length λi j=>rlt (rs.getD i []) (rs.getD j [])).map λi=>rs.getD i []
def nJ (rs:List (List V)):(srt rs).length=rs.length:=by unfold srt;rw[j6,PySem.W.rC]
def fC (h:r∈srt rs):r∈rs:=by
 obtain⟨i,a,rfl⟩:=List.mem_map.mp h;have:=PySem.W.mR a;have e:rs.getD i []=rs[i]:=by simp[this]
 rw[e];exact bAT this
def Al2.get {α β:Type}{R:α->β->Prop}{as:List α}{bs:List β}(h:Al2 R as bs){i:Nat}{a:α}{b:β}(c:as[i]?=some a)(f:bs[i]?=some b):R a b:=by obtain⟨d,e,r⟩:=h.at c;rw[f] at e;cases e;exact r
theorem Al2.of {α β:Type}{R:α->β->Prop}:∀{as:List α} {bs:List β},as.length=bs.length->(∀(i:Nat) (a:α) (b:β),as[i]?=some a->bs[i]?=some b->R a b)->Al2 R as bs
 |[],[],_,_=>.nil
 |a::as,b::bs,hl,h=>.cons (h 0 a b rfl rfl) (Al2.of (by simpa using hl) λi x y c d=>h (i+1) x y (by simpa using c) (by simpa using d))
theorem Al2.imp {α β:Type}{R S:α->β->Prop}{as:List α}{bs:List β}(h:Al2 R as bs)(k:∀a b,R a b->S a b):Al2 S as bs:=by
 induction h with
 |nil=>exact .nil
 |cons r _ ih=>exact .cons (k _ _ r) ih
section
variable {prog:Program}{w:World}{A:Around}{s:Shared}{b:Bool}{Q:Bool->Shared->Prop}
theorem aYe (ks:List Bool):∀{r1 r2:List V} {i1 i2:List Value},KdR ks r1->KdR ks r2->Vals r1 i1->Vals r2 i2->∀i:Nat,Q (rlt r1 r2) s->PySem.W.KatLex prog w A b false Q (i1.zip i2) i s:=by
 induction ks with
 |nil=>intro r1 r2 i1 i2 a c d f i q;cases a;cases c;cases d;cases f;exact q
 |cons k ks ih=>
  intro r1 r2 i1 i2 a c d f i q;cases a with
  |cons a1 t1=>
   cases c with
   |cons a2 t2=>
    cases d with
    |cons p1 w1=>
     cases f with
     |cons p2 w2=>
      cases k with
      |true=>
       obtain⟨x,rfl⟩:=a1;obtain⟨y,rfl⟩:=a2;obtain⟨t,rfl⟩:=p1;obtain⟨u,rfl⟩:=p2;refine (bEL x t y u) prog w _ _ ?_;unfold rlt at q;by_cases e:(x == y)=true
       ·rw[e,if_pos rfl];rw[if_pos e] at q;exact ih t1 t2 w1 w2 (i+1) q
       ·rw[if_neg e] at q;rw[Bool.not_eq_true] at e;rw[e,if_neg (by decide)];cases g:(b && i == 0) with
        |true=>exact oneLt_int q
        |false=>exact PySem.W.kat_one _ _ (lt_int q)
      |false=>
       obtain⟨x,rfl⟩:=a1;obtain⟨y,rfl⟩:=a2;obtain⟨t,rfl⟩:=p1;obtain⟨u,rfl⟩:=p2;refine (bDK x t y u) prog w _ _ ?_;unfold rlt at q;by_cases e:(x == y)=true
       ·rw[e,if_pos rfl];rw[if_pos e] at q;exact ih t1 t2 w1 w2 (i+1) q
       ·rw[if_neg e] at q;rw[Bool.not_eq_true] at e;rw[e,if_neg (by decide)];cases g:(b && i == 0) with
        |true=>exact oneLt_str q
        |false=>exact PySem.W.kat_one _ _ (lt_str q)
end
section
variable {X:Cx}
def aMq (K:bF4):List V->Hp->VK->Prop:=λxs H Q=>∃l us rs ks,xs=[.ref l]/\SqL K H l us/\Al2 (cL K H) us rs/\us.length<64/\ks≠[]/\(∀r∈rs,KdR ks r) /\
 ∀D H' us',H D=none->Same H H'->H' D=some (.lst us')->Al2 (cL K H) us' (srt rs)->Q (.ref D) H'
theorem aOk (I:Inv X bF8 σ H s)(x:∀b o,s.heap.get? b=some o->h'.get? b=some o):∀{us:List V} {rs:List (List V)} {its:List Value},Al2 (cL X.K H) us rs->Vals us its->(∀r∈rs,KdR (k::ks) r) ->
  ∃fs,PySem.W.KatTups h' its fs/\fs.length=its.length/\∀f∈fs,∀M:Model,PySem.W.Looks M h' (typeOf f) (.type (if k=true then "int" else "str"))
 |_,_,_,.nil,.nil,_=>⟨[],.nil,rfl,λf h=>by cases h⟩
 |_,_,_,.cons (b:=r) hr t,.cons q z,hk=>by
  obtain⟨fs,d,l,j⟩:=aOk I x t z λr m=>hk r (j5 _ m);obtain⟨a,rfl,y⟩:=hr;cases q;obtain⟨e,v,⟨o,w,u,n,hd⟩,_⟩:=I.tuple y;have c:=hk r (j0 ..);cases c with
  |cons hx _=>
   cases v with
   |@cons _ f _ fr rx _=>
    refine⟨f::fs,.cons (x _ _ w) u hd (by simp) d,by rw[m8,m8,l],λg hg M=>?_⟩;rcases List.mem_cons.mp hg with rfl|hg
    ·cases k with
     |true=>obtain⟨i,rfl⟩:=hx;obtain⟨p,rfl⟩:=rx;exact .now
     |false=>obtain⟨i,rfl⟩:=hx;obtain⟨p,rfl⟩:=rx;exact .now
    ·exact j g hg M
def aIj (I:Inv X bF8 σ H s)(G:Vals us its)(E:Al2 (cL X.K H) us rs)(a0:ks≠[])(V:∀r∈rs,KdR ks r)(A:Around)(h2:2<=its.length)(h':Heap)(Y:∀b o,s.heap.get? b=some o->h'.get? b=some o) :
  ∃κ,(∀Q,Q κ { s with heap:=h' }->wpAny (model X.prog X.w) A (keyKind' its.toArray) Q (λ_ _=>False) { s with heap:=h' })/\∀i j C,i<its.length->j<its.length->C (rlt (rs.getD i []) (rs.getD j [])) { s with heap:=h' }->PySem.W.kas_ask X.prog X.w A κ its i j C { s with heap:=h' }:=by
 have e1:=G.length;have e2:=E.len;obtain⟨k,c,rfl⟩:∃k c,ks=k::c:=by
  cases ks with
  |nil=>exact absurd rfl a0
  |cons k c=>exact⟨k,c,rfl⟩
 obtain⟨fs,J,t2,P⟩:=aOk I Y E G V;refine⟨_,λQ U=>PySem.W.kat_kind (s:={ s with heap:=h' }) (T:=.type (if k=true then "int" else "str")) J (by lia) (λv t=>P v t _) (by simp) U,λi j C y hj D=>?_⟩;have e:∀{i:Nat},i<its.length->∃a o r l n,its.getD i Value.none=.ref a/\h'.get? a=some o/\o.data=.seq (List.toArray l) n/\Vals r l/\rs.getD i []=r/\KdR (k::c) r:=λ{i} y=>by
  have g:i<us.length:=by lia
  have d:i<rs.length:=by lia
  obtain⟨a,O,ha⟩:=E.get (b8 g) (b8 d);obtain⟨v,t,F⟩:=G.get (b8 g);rw[O] at F;cases F;obtain⟨l,Z,⟨o,ho,hc,n,hd⟩,_⟩:=I.tuple ha;refine⟨a,o,rs[i],l,n,?_,Y _ _ ho,hd,Z,by simp[d],V _ (bAT d)⟩;rw[j4,t];rfl
 obtain⟨a,o,r1,x1,n1,R,N,L,z,S,B⟩:=e y;obtain⟨b,o',r2,M,n2,x,p,u,f,q,h⟩:=e hj;show wpAny _ _ (keyLt' _ (its.getD i Value.none) (its.getD j Value.none)) C _ _;rw[R,x];refine PySem.W.kat_lt N L p u ?_;have m:decide ((List.toArray x1).size<(List.toArray M).size)=false:=by rw[d9,d9];have:=z.length;have:=f.length;have:=Al2.len B;have:=Al2.len h;exact v9 (by lia)
 rw[m];refine aYe (k::c) B h z f 0 ?_;rw[S,q] at D;exact D
theorem aFl (f:Vals us its):∀L:List Nat,(∀i∈L,i<us.length)->Vals (L.map λi=>us.getD i .non) (L.map λi=>its.getD i Value.none):=by
 intro L
 induction L with
 |nil=>intro _;exact .nil
 |cons i L ih=>intro a;have b:=a i (j0 ..);obtain⟨v,c,e⟩:=f.get (b8 b);refine .cons ?_ (ih λj d=>a j (j5 _ d));show RelV (us.getD i .non) (its.getD i Value.none);rw[j4,b8 b,j4,c];exact e
theorem aEk {K:bF4}{H:Hp}{us:List V}{d:List (List V)}(e:Al2 (cL K H) us d):∀L:List Nat,(∀i∈L,i<us.length)->Al2 (cL K H) (L.map λi=>us.getD i .non) (L.map λi=>d.getD i []):=by
 intro L
 induction L with
 |nil=>intro _;exact .nil
 |cons i L ih=>
  intro b;have c:=b i (j0 ..);have a:i<d.length:=by have:=e.len;lia
  refine .cons ?_ (ih λj f=>b j (j5 _ f));show cL K H (us.getD i .non) (d.getD i []);rw[j4,b8 c,j4,b8 a];exact e.get (b8 c) (b8 a)
def dU:cH X (.builtin "sorted") (aMq X.K):=by
 intro v s σ H C t Q I r h;obtain⟨l,B,c,F,rfl,z,k,x,f,p,q⟩:=h;obtain⟨u,rfl,A⟩:=vals1 r;cases A;obtain⟨a,g,y,D⟩:=I.list z;have E:=g.length;have G:=k.len;refine PySem.W.aGj y.isList (by lia) (aIj I g k f p _) ?_;obtain⟨e,n⟩:=sortedAll_at s.heap a (List.toArray ((PySem.W.dM a.length λi j=>rlt (c.getD i []) (c.getD j [])).map λi=>a.getD i Value.none));have m:=I.hok.fresh (bCR _);have w:a.length=c.length:=by lia
 refine⟨.ref (s.heap.objs.size+1),_,I.laid (t':=s.toks) (λb o q=>sortedAll_old q) (bCR _) ?_,rfl,q _ _ _ m (aW m _) aF (aEk k _ λi d=>by have:=PySem.W.mR d;lia)⟩;refine⟨small (by rw[j6,PySem.W.rC];lia),_,e,?_,n⟩;rw[w];exact aFl g _ λi d=>by have:=PySem.W.mR d;lia
end
def kvlt:V->V->Bool
 |.int a,.int b=>decide (a<b)
 |.str a,.str b=>decide (a.cps.toList<b.cps.toList)
 |_,_=>false
section
variable {X:Cx}{bF8:bF6}{σ:List (Option V)}{H:Hp}{s:Shared}
end
section
variable {X:Cx}
end
section
variable {P:Program}{w:World}{K:bF4}{mg:bF7}{base:Heap}
def aSl (K:bF4)(mg:bF7)(x:Str)(Pt:Addr):Prop:=∃f o fd c,mg x=some (.ref f)/\K.lookup f=some o/\o.data=.func fd/\fd.code=.ref c/\PySem.W.codeHdIn K c Pt=true
def Ok.bFd {x:Str}{st:Stmt}{N ps:List Str}{k:Nat}{sp:Sp}{Pt:Addr}(D:Dn K mg x st ps)(C:aSl K mg x Pt)(R:K.In base)(S:aG N ps (aC st))(u:∀vs H Q E,sp vs H Q E->vs.length=ps.length)
  (j:∀(f c:Addr) (A:Around) (outer:List Env) (s:Shared) (H:Hp) (vs:List V) (Q:VK) (E:XK),PySem.W.CodeHd base c Pt->Room k (A.deeper (envOfC x (aC st) s.heap.objs.size f (.ref c)))->sp vs H Q E ->
   ∃t,VSs (xF CX0 P w K mg base N x (aC st) f (.ref c) A outer s H E).nox (cX st) t/\t { nx:=λ_ H'=>Q .non H',rt:=Q } (start N vs) H):Ok P w K mg base (k+1) x ps sp:=by
 obtain⟨f,z,F,B,m⟩:=D;obtain⟨T,U,G,c,n,a,i,g,o⟩:=C;rw[m] at n;cases n;refine⟨f,z,m,F.kp,B,?_⟩;obtain⟨O,M,kV,y,I,L,v,J,r,rfl,l,d⟩:=F.ex;rw[l] at a;cases a;cases i;have e:=g;subst e;refine aT3 l d S u λA outer s H vs Q E p b=>?_;obtain⟨t,h,q⟩:=j f c A outer s H vs Q E (PySem.W.codeHd_of_K R o) p b;exact⟨t,h.1.nox,q⟩
end
section
variable {X:Cx}
end
end L2
namespace My
open PySem PySem.Spec PyProof.Rows L2
section
variable {P:Program}{w:World}{K:bF4}{mg:bF7}{base:Heap}
def vlt:V->V->Bool
 |.int a,.int b=>decide (a<b)
 |.str a,.str b=>decide (a.cps.toList<b.cps.toList)
 |_,_=>false
def aQ6 (k:Str):Prop:=k = "number"\/k = "word"
def qC:Str:="are_cuts.<locals>.<lambda>"
inductive aPx (P:Program)(w:World)(K:bF4)(mg:bF7)(base:Heap)(k:Nat)(vs:List V)(H:Hp)(Q:VK)(E_:XK):Prop
 |mk (a:Addr) (lo hi:Nat) (f:Addr) (xs:List V) (qual g x y:Str) (z:V) (ps:List Str) (sp:Sp) (_:vs=[.ref a,.int (lo:Nat),.int (hi:Nat),.ref f]) (_:SqT K H a xs) (_:lo<=xs.length) (_:xs.length<=hi) (_:hi<=1000) (_:vO H f qual g x y z) (_:Ok P w K mg base k g ps sp) (_:(∀v∈xs,∀(H':Hp) (R:VK),Same H H'->(∀H2,Same H' H2->R (.bl true) H2)->sp [v,z] H' R E0)) (_:∀H',Same H H'->Q (.bl true) H')
def aAo (T:Txt w K mg):Ok P w K mg base (k+2) "is_tuple_of" o6 (aPx P w K mg base k):=by
 refine Ok.ofV T.tE qM (by trivial) (λf L A m s H vs Q E U h=>?_)
 obtain⟨a,G,u,g,d,b,t,x,y,z,I,F,rfl,o,V,X,n,p,M,j,q⟩:=h;refine⟨_,(aB (bM (VW.pt (fK (cF (bW (aL iJ (by rfl) T.bR bN (aH (vv 0) (va1 (fG (v:=.ty "tuple") (by rfl) T.gU eY rfl)))))) (dZ (cF (aCs aCe aCe (vv 1) (aL aZ (by rfl) T.eV cW (va1 (vv 0))) (vv 2)))))) (aD (aJ fP)) aU) (aD (aJ (aL (kI rfl) (by rfl) T.aC7 tQ (va1 (cI (N:=["part","is_part"]) (by trivial) (eE (aC iU) rfl (by decide +kernel)) rfl (pM (vv 0)) (λcl Y e W=>⟨(bJ (i:=0) (show (["part","is_part"]:List Str).Nodup from by decide +kernel) rfl (Or.inl rfl)),fW,(aR5 (P:=P) (w:=w) (K:=K) (mg:=mg) (base:=base) U (vv 1) (va1 (vv 0)))⟩))))))),?_⟩;refine⟨_,rfl,_,_,rfl,.tup o,_,rfl,bY ?_⟩;refine⟨_,rfl,_,rfl,_,_,rfl,.inr o,_,_,rfl,rfl,_,rfl,?_⟩;have C:decide ((G:Int)<=(d.length:Int))=true:=m9 (by lia);have S:decide ((d.length:Int)<=(u:Int))=true:=m9 (by lia);rw[C];refine eX ⟨_,rfl,_,_,rfl,rfl,_,rfl,?_⟩;rw[S];refine bY ?_;dsimp only[tD,rA,tCB,dI];refine aEt d (λ_=>.bl true) [none,some (.ref g)] ?_ (small (by lia)) (λR r=>aM6 o (λZ J=>⟨_,rfl,J⟩) R r) (λv O e R l c r=>?_) rfl λD e c B=>?_
 ·exact jM 3 (by decide +kernel) rfl rfl (by trivial)
 ·exact⟨_,rfl,g,b,t,x,y,z,I,F,rfl,p.same c,M,_,rfl,v,rfl,p.same c,j v O e R c r⟩
 ·refine⟨D,d.map λ_=>true,rfl,SqL.of (by rw[B,bDY];rfl),?_⟩;rw[show (d.map λ_=>true).all id=true by rw[List.all_map];exact List.all_eq_true.mpr λ_ _=>rfl];exact q e c
inductive aVz (K:bF4)(vs:List V)(H:Hp)(Q:VK)(E_:XK):Prop
 |mk (p:Addr) (v:V) (h m:Int) (_:vs=[.ref p,.int m]) (_:SqT K H p [v,.int h]) (_:0<=h) (_:h<m) (_:∀H',Same H H'->Q (.bl true) H')
def aRs (T:Txt w K mg)(g:Ok P w K mg base 2 "is_number_below" ["thing","many"] uU):Ok P w K mg base 3 "is_cut" bQK (aVz K):=by
 refine Ok.ofV T.aS1 aQy (by trivial) (λf d A a s H i Q E j h=>?_)
 obtain⟨p,v,h,m,rfl,b,e,c,q⟩:=h;refine⟨_,(aD (aJ (iC (aL iJ (by rfl) T.bR bN (aH (vv 0) (va1 (fG (v:=.ty "tuple") (by rfl) T.gU eY rfl)))) (iC (wR dN (aL aZ (by rfl) T.eV cW (va1 (vv 0))) aA) (gF (aV g (aH (aO aP (vv 0) aA) (va1 (vv 1))))))))),?_⟩;refine⟨_,rfl,_,_,rfl,.tup b,_,rfl,eX ⟨_,rfl,_,_,rfl,.inr b,rfl,_,rfl,?_⟩⟩;refine eX ⟨_,rfl,p,_,1,_,rfl,rfl,b,at1 _ _ _,_,rfl,h,m,rfl,?_⟩;rw[m9 e,m9 c];exact q H (Same.refl H)
def aS9 (h:env.cells.lookup y=some cp):closureFor { kind:=.function,names:=[(x,.local),(y,.free),(g,.globalImplicit)],isGenerator:=false,isCoroutine:=false,more:=[] } env=pure [(y,cp)]:=by
 have a:cellOf env y=pure cp:=by unfold cellOf;rw[h]
 simp[closureFor,a]
def fJ (K:bF4)(H:Hp)(v:V)(c:V × Int):Prop:=∃p,v=.ref p/\SqT K H p [c.1,.int c.2]
def fJ.same (e:Same H H')(h:fJ K H v c):fJ K H' v c:=by obtain⟨p,rfl,a⟩:=h;exact⟨p,rfl,e.aR a⟩
structure yI (kd:Str)(m:Int)(h0:Int)(cs:List (V × Int)):Prop where
 first:0<=h0/\h0<m
 each:∀c∈cs,cD kd c.1/\0<=c.2/\c.2<m
 up:(cs.map (·.1)).Pairwise λa b=>vlt a b=true
 few:cs.length<=7
theorem aCm (h:cD kd v):aMx v=true/\kindS v=kd:=by
 cases h with
 |num=>exact⟨rfl,rfl⟩
 |@wrd x hx h8=>refine⟨?_,rfl⟩;show (false || (decide (0<=x.length) && (decide (x.length<=8) && allIn x)))=true;rw[allIn_of hx,m9 h8];rfl
theorem zF (h:cD kd v):Vl v:=by
 cases h with
 |num=>exact .inl ⟨_,rfl⟩
 |wrd hx h8=>exact .inr ⟨_,rfl,hx,h8⟩
def bAq (h:vlt a b=true)(q:Q (.bl true) H):bD7 a b H Q:=by
 unfold vlt at h
 split at h
 ·exact .inl ⟨_,_,rfl,rfl,by rw[h];exact q⟩
 ·exact .inr ⟨_,_,rfl,rfl,by rw[h];exact q⟩
 ·cases h
inductive aOj (K:bF4)(Pt:Addr)(vs:List V)(H:Hp)(Q:VK)(E_:XK):Prop
 |mk (v:V) (kd:Str) (m h0:Int) (cs:List (V × Int)) (_:vs=[v,.str kd,.int m]) (_:lU K H (fJ K H) v ((.non,h0)::cs)) (_:aQ6 kd) (_:yI kd m h0 cs) (_:H Pt=some (.tab qC)) (_:∀H',Same H H'->Q (.bl true) H')
def aK0 (T:Txt w K mg)(C:aSl K mg "are_cuts" Pt)(hK:K.In base)(a6:BM mg base)(lY:Ok P w K mg base 5 "is_tuple_of" o6 (aPx P w K mg base 3))(a7:Ok P w K mg base 3 "is_cut" bQK (aVz K))
  (lN:Ok P w K mg base 3 "is_value_of" ["thing","kind"] (aN8 K)):Ok P w K mg base 6 "are_cuts" ["thing","kind","houses"] (aOj K Pt):=by
 refine Ok.bFd T.aM1 C hK zU (λvs H Q E h=>?_) (λf c A a1 s H vs Q E CH hr h=>?_)
 ·obtain⟨v,Y,m,h0,o,rfl,_⟩:=h;rfl
 obtain⟨v,Y,m,h0,o,rfl,⟨a,us,rfl,Z,hu⟩,a5,I,hP,q⟩:=h;have a8:=pB hr;refine⟨_,(aB (bM (VW.pt (fK (cF (bW (aNw (iy:=2) lY hr (by rfl) (vv 0) aA (tM (by rfl) T.aIi) rfl CH a6 ⟨⟨_,_,_,_,rfl⟩,λ_ _ _ _ _=>rfl,rfl,rfl,rfl,by decide +kernel,rfl,rfl,rfl,by decide +kernel,by decide +kernel,by decide +kernel,by decide +kernel,by decide +kernel⟩ rfl rfl rfl rfl (aS9 rfl) rfl))) (dZ (cZ vH (aO aP (aO aP (vv 0) aA) aA) fU)))) (aD (aJ fP)) aU) (aB (aOg (i0:=3) zU.nd rfl (by trivial) (N:=["cut"]) (by trivial) (kE (by decide +kernel)) rfl (pM (dC aA1 (vv 0) (dW aA) fB)) (λcl e d fp=>⟨(bJ (i:=0) (show (["cut"]:List Str).Nodup from by decide +kernel) rfl (Or.inl rfl)),fW,(aO (bK (K:=K)) (vv 0) aA)⟩)) (aB (bM (cF (bW (aL (kI rfl) (by rfl) T.aC7 tQ (va1 (cI (N:=["low","kind"]) (by trivial) (eE (aC tR) rfl (by decide +kernel)) rfl (eO (vv 3)) (λcl e d fp=>⟨(bJ (i:=0) (show (["low","kind"]:List Str).Nodup from by decide +kernel) rfl (Or.inl rfl)),fW,(aV lN (aH (vv 0) (va1 (vv 1))))⟩)))))) (aD (aJ fP)) aU) (aD (aJ (aL (kI rfl) (by rfl) T.aC7 tQ (va1 (cI (N:=["low","after"]) (by trivial) (kE (by decide +kernel)) rfl (aWa (by rfl) T.aZ0 (aH (vv 3) (va1 (dC wC (vv 3) (dW aA) fB)))) (λcl e d fp=>⟨(rK (K:=K) (n:=2) rfl (aX (bJ (i:=0) (show (["low","after"]:List Str).Nodup from by decide +kernel) rfl (Or.inl rfl)) (aX (bJ (i:=1) (show (["low","after"]:List Str).Nodup from by decide +kernel) rfl (Or.inl rfl)) eQ))),fW,(wR bAf (vv 0) (vv 1))⟩))))))))),?_⟩;have lu:=hu.len;have a4:=I.few;rw[m8] at lu;refine⟨_,rfl,.int m,rfl,hP,λlf U hL hT=>⟨a,1,8,lf,us,_,_,_,_,_,_,_,rfl,hT _ _ Z,by lia,by lia,by decide,hL,a7,λv hv d R G r=>?_,λH3 s3=>⟨s3,λH4 M=>?_⟩⟩⟩
 ·obtain⟨c,hc,p,rfl,hp⟩:=hu.mem hv;have V:0<=c.2/\c.2<m:=by
   rcases List.mem_cons.mp hc with rfl|hc
   ·exact I.first
   ·exact (I.each c hc).2
  exact⟨p,c.1,c.2,m,rfl,G.aR (hT _ _ hp),V.1,V.2,λU s2=>r U s2⟩
 obtain⟨u0,W,rfl,⟨p0,rfl,a3⟩,J⟩:∃u0 W,us=u0::W/\fJ K H u0 (.non,h0)/\cG (fJ K H) W o:=by
  cases hu with
  |cons r t=>exact⟨_,_,rfl,r,t⟩
 refine⟨_,rfl,bY ?_⟩;refine⟨_,rfl,a,_,0,_,rfl,rfl,M.aR Z,at0 _ _,p0,_,0,_,rfl,rfl,M.aR a3,at0 _ _,rfl,_,rfl,bY ?_⟩;dsimp only[tD,bO,aDz,aBs];have lt:=J.len;refine vL [none] yJ ⟨_,rfl,_,rfl,a,_,rfl,M.aR Z,λts H5 s5 O=>?_⟩;rw[show (1:Int)=((1:Nat):Int) from rfl,rM,List.drop_one,List.tail_cons] at O;refine⟨ts,rfl,⟨_,O⟩,aLv (aG8 λd e=>e.aR O) (uT λd e=>e.aR O) ⟨none,rfl⟩ (by lia) (o.map (·.1)) (by rw[j6];lia) (λi x z F B d R l G r=>?_) λL H6 s6 nL S=>?_⟩
 ·obtain⟨c',u,p',rfl,a2⟩:=cA J F;rw[v7,u] at B;cases B;exact⟨_,rfl,p',_,0,_,rfl,rfl,(M.trans (s5.trans G)).aR a2,at0 _ _,r d (Same.refl _)⟩
 have g:∀n:Nat,(List.replicate n true).all id=true:=λn=>List.all_eq_true.mpr λb V=>(bBX V);dsimp only[aG3,bAw,tB,tCB,dI,List.set];refine iW [none,some (.str Y)] (jM 1 (by decide +kernel) rfl rfl (by trivial)) ⟨_,rfl,L,rfl,⟨_,SqL.of S⟩,aLv (aNa λd e=>SqL.of (e _ _ S)) (aB2 λd e=>SqL.of (e _ _ S)) ⟨none,rfl⟩ (by rw[j6];lia) (List.replicate o.length (.bl true)) (by rw[bDP,j6]) (λi x z F B d R l G r=>?_) λD H7 s7 _ g7=>?_⟩
 ·rw[v7] at F;obtain⟨c',u,rfl⟩:=Option.map_eq_some_iff.mp F;have k:=bBX (t8 B);subst k;have hk:=(I.each c' (t8 u)).1;obtain⟨v1,v2⟩:=aCm hk;refine⟨_,rfl,_,rfl,c'.1,Y,rfl,(zF hk).th,λU s2=>?_⟩;rw[v1,v2,m9 rfl];exact r U s2
 refine⟨D,List.replicate o.length true,rfl,SqL.of (by rw[g7,bEN]),?_⟩;rw[g];refine⟨_,rfl,bY ?_⟩;dsimp only[tD,rA,tCB,dI];have j:=s7 _ _ S;refine aT9 [none,none] rD ⟨_,rfl,_,rfl,_,rfl,L,_,rfl,SqL.of j,λa0 H8 _ s8 X=>?_⟩;rw[show (1:Int)=((1:Nat):Int) from rfl,rM] at X;refine⟨L,a0,_,_,rfl,SqL.of (s8 _ _ j),SqL.of X,aKv (SqL.of (s8 _ _ j)) (SqL.of X) (by rw[bBT];lia) ⟨none,none,rfl⟩ (by rw[bBT,j6];lia) (List.replicate ((o.map (·.1)).drop 1).length (.bl true)) (by rw[bDP]) (λi x y z F ey B d R G r=>?_) λD2 H9 s9 g9=>?_⟩
 ·have k:=bBX (t8 B);subst k;rw[List.getElem?_drop] at ey;obtain⟨hi,rfl⟩:=List.getElem?_eq_some_iff.mp F;obtain⟨hj,rfl⟩:=List.getElem?_eq_some_iff.mp ey;exact⟨_,rfl,_,rfl,bAq ((List.pairwise_iff_getElem.mp I.up) i (1+i) hi hj (by lia)) (r d (Same.refl _))⟩
 ·refine⟨D2,List.replicate ((o.map (·.1)).drop 1).length true,rfl,SqL.of (by rw[g9,bEN]),?_⟩;rw[g];exact q H9 (M.trans (s5.trans (s6.trans (s7.trans (s8.trans s9)))))
def aQf (hd:Hdr):Prop:=Good hd/\∀c∈hd,Nm c.1/\aQ6 c.2
inductive aKq (K:bF4)(vs:List V)(H:Hp)(Q:VK)(E_:XK):Prop
 |mk (v:V) (hd:Hdr) (_:vs=[v]) (_:jG K H v hd) (_:aQf hd) (_:∀H',Same H H'->Q (.bl true) H')
def bU (K:bF4)(H:Hp)(D:Addr)(rs:List (List V)):Prop:=∃us,H D=some (.lst us)/\cG (cL K H) us rs
theorem bU.same (e:Same H H')(h:bU K H D rs):bU K H' D rs:=by obtain⟨b,a,c⟩:=h;exact⟨b,e _ _ a,c.imp λ_ _ r=>r.same e⟩
def aJt (T:Txt w K mg)(L:Ok P w K mg base 3 "is_column" o4 (bBj (aF7 K)))(lY:Ok P w K mg base 4 "is_tuple_of" o6 (aIk P w K mg base 3))
  (C:Ok P w K mg base 1 "are_unlike" ["names"] (aFd K)) (jZ:Ok P w K mg base 1 "names_of" ["head"] (aHw K)):Ok P w K mg base 5 "is_head" o4 (aKq K):=by
 refine Ok.ofV T.aQ4 aLy (by trivial) (λf N A i s H vs Q E W h=>?_)
 obtain⟨v,hd,rfl,⟨a,l,rfl,r,k⟩,b,q⟩:=h;obtain⟨t,M,F⟩:=L.held;have g:∃u,mg "is_column"=some u/\RelV (.ref t) u:=⟨_,M,rfl⟩;refine⟨_,(aD (aJ (iC (aV lY (aH (vv 0) (aH aA (aH (tM (by rfl) T.aBr) (va1 (tM (by rfl) g)))))) (gF (aV C (va1 (aV jZ (va1 (vv 0))))))))),?_⟩;have lu:=k.len;have X:=b.1.2.1;have Z:=b.1.2.2;have d:l.all (λ_=>true)=true:=List.all_eq_true.mpr λ_ _=>rfl;have O:aE0 K (aF7 K) 1 8 H (.ref a) true:=by
  have:=aE0.yes (K:=K) (R:=aF7 K) (lo:=1) (hi:=8) (H:=H) (λ_=>true) r (by lia) (by lia) (λx B=>by
   obtain⟨c,S,p,rfl,U⟩:=k.mem B;obtain⟨o,m⟩:=b.2 c S;have j:Th K H (.str c.2):=aMn (by rcases m with e|e <;> rw[e] <;> decide +kernel);have z:=aF7.two (K:=K) (H:=H) U o.th j;have e:(nameB (.str c.1) && (isS (.str c.2) && inV (.str c.2) kinds))=true:=by rw[show nameB (.str c.1)=true from o];rcases m with e|e <;> rw[e] <;> decide +kernel
   rw[e] at z;exact z)
  rw[d] at this;exact this
 refine⟨_,rfl,_,1,8,t,_,_,_,rfl,by decide,F,aQb K,O,λV n=>⟨_,rfl,eX ?_⟩⟩;refine⟨_,rfl,.ref a,hd,rfl,jG.same n ⟨a,l,rfl,r,k⟩,by lia,λD Y y G=>?_⟩;refine⟨D,hd.map (·.1),rfl,SqL.of G,by rw[j6];lia,λI J=>?_⟩;rw[m9 b.1.1];exact q I ((n.trans y).trans J)
def gC (hd:Hdr)(r:List V):Prop:=cG (λc v=>cD c.2 v) hd r
inductive aAy (K:bF4)(vs:List V)(H:Hp)(Q:VK)(E_:XK):Prop
 |mk (vh v:V) (hd:Hdr) (r:List V) (_:vs=[vh,v]) (_:jG K H vh hd) (_:hd.length<=1000) (_:cL K H v r) (_:gC hd r) (_:∀H',Same H H'->Q (.bl true) H')
def aL4 (T:Txt w K mg)(lN:Ok P w K mg base 3 "is_value_of" ["thing","kind"] (aN8 K)):Ok P w K mg base 4 "is_row" u5 (aAy K):=by
 refine Ok.ofV T.aSw aRx (by trivial) (λf J A m s H vs Q E Y h=>?_)
 obtain⟨vh,v,hd,r,rfl,⟨b,k,rfl,B,z⟩,hl,⟨a,rfl,u⟩,g,q⟩:=h;have lc:=z.len;have lr:=g.len;refine⟨_,(aB (bM (VW.pt (fK (cF (bW (aL iJ (by rfl) T.bR bN (aH (vv 1) (va1 (fG (v:=.ty "tuple") (by rfl) T.gU eY rfl)))))) (dZ (cZ wU (aL aZ (by rfl) T.eV cW (va1 (vv 1))) (aL aZ (by rfl) T.eV cW (va1 (vv 0))))))) (aD (aJ fP)) aU) (aD (aJ (aL (kI rfl) (by rfl) T.aC7 tQ (va1 (cI (N:=["value","column"]) (by trivial) (kE (by decide +kernel)) rfl (aXs (by rfl) T.aZ0 (aH (vv 1) (va1 (vv 0)))) (λcl s' t fp=>⟨(rK (K:=K) (n:=2) rfl (aX (bJ (i:=0) (show (["value","column"]:List Str).Nodup from by decide +kernel) rfl (Or.inl rfl)) (aX (bJ (i:=1) (show (["value","column"]:List Str).Nodup from by decide +kernel) rfl (Or.inl rfl)) eQ))),fW,(aV lN (aH (vv 0) (va1 (aO (bK (K:=K)) (vv 1) aA))))⟩))))))),?_⟩;refine⟨_,rfl,_,_,rfl,.tup u,_,rfl,bY ?_⟩;refine⟨_,rfl,_,_,rfl,.inr u,_,rfl,_,_,rfl,.inr B,rfl,_,rfl,?_⟩;have e:(!decide (V.int (r.length:Nat)=V.int (k.length:Nat)))=false:=by rw[show r.length=k.length by lia];simp
 rw[e];refine bY ?_;dsimp only[tD,rA,tCB,dI];refine aTb r k (λ_ _=>.bl true) [none,none] rD (small (by lia)) (by lia) u B (λR r=>⟨_,rfl,_,rfl,r⟩) (λi x c L M t R l1 l2 l I=>?_) rfl rfl λD t l F=>?_
 ·obtain⟨S,o,p,rfl,U⟩:=cA z M;obtain⟨x',j,y⟩:=cA g o;rw[L] at j;cases j;obtain⟨G,W⟩:=aCm y;refine⟨_,rfl,_,rfl,p,_,1,_,rfl,rfl,l.aR U,at1 _ _ _,x,S.2,rfl,(zF y).th,λC O=>?_⟩;rw[G,W,m9 rfl];exact I C O
 ·have X:List.zipWith (λ_ _:V=>V.bl true) r k=(List.replicate r.length true).map V.bl:=by rw[bEN];refine List.eq_replicate_iff.mpr ⟨by rw[bFP];lia,λb d=>?_⟩;obtain⟨i,Z,rfl⟩:=bBA d;rw[List.getElem_zipWith]
  refine⟨D,List.replicate r.length true,rfl,SqL.of (by rw[F,X]),?_⟩;rw[show (List.replicate r.length true).all id=true from List.all_eq_true.mpr λb d=>bBX d];exact q t l
inductive aJ7 (K:bF4)(vs:List V)(H:Hp)(Q:VK)(E_:XK):Prop
 |mk (vh:V) (hd:Hdr) (n:Str) (_:vs=[vh,.str n]) (_:jG K H vh hd) (_:hd.length<=1000) (_:Nm n) (_:n∈hd.map (·.1)) (_:∀H',Same H H'->Q (.bl true) H')
def aAs (T:Txt w K mg)(o:Ok P w K mg base 2 "is_name" o4 (aDw K nameB))(r:Ok P w K mg base 1 "names_of" ["head"] (aHw K)):Ok P w K mg base 3 "is_column_in" u5 (aJ7 K):=by
 refine Ok.ofV T.aBw aAl (by trivial) (λf g A a s H t Q E u h=>?_)
 obtain⟨m,hd,n,rfl,l,i,c,e,q⟩:=h;refine⟨_,(aD (aJ (iC (aV o (va1 (vv 1))) (gF (rH xT (vv 1) (aV r (va1 (vv 0))) (by with_unfolding_all rfl)))))),?_⟩;refine⟨_,rfl,_,rfl,c.th,λp b=>⟨_,rfl,?_⟩⟩;rw[show nameB (.str n)=true from c];refine eX ⟨_,rfl,_,rfl,m,hd,rfl,l.same b,i,λD j d k=>?_⟩;refine⟨D,_,rfl,.inl (SqL.of k),rfl,aJh,?_⟩;rw[aO0,m9 e];exact q j (b.trans d)
inductive Plc where
 |copies
 |keys (n:Str)
 |spans (n:Str) (h0:Int) (cs:List (V × Int))
def oK (K:bF4)(H:Hp)(v:V):Plc->Prop
 |.copies=>∃a,v=.ref a/\SqT K H a [.str "copies"]
 |.keys n=>∃a,v=.ref a/\SqT K H a [.str "keys",.str n]
 |.spans n h0 cs=>∃a vc,v=.ref a/\SqT K H a [.str "spans",.str n,vc]/\lU K H (fJ K H) vc ((.non,h0)::cs)
theorem oK.same (e:Same H H')(h:oK K H v pl):oK K H' v pl:=by
 cases pl with
 |copies=>obtain⟨a,rfl,b⟩:=h;exact⟨a,rfl,e.aR b⟩
 |keys n=>obtain⟨a,rfl,b⟩:=h;exact⟨a,rfl,e.aR b⟩
 |spans n h0 cs=>obtain⟨a,c,rfl,b,d⟩:=h;exact⟨a,c,rfl,e.aR b,lU.same e (λ_ _ q=>q.same e) d⟩
def aW1 (hd:Hdr)(m:Int):Plc->Prop
 |.copies=>True
 |.keys n=>Nm n/\∃k,look hd n=some k
 |.spans n h0 cs=>Nm n/\∃k,look hd n=some k/\aQ6 k/\yI k m h0 cs
def aDi (h:look hd n=some k):n∈hd.map (·.1):=by obtain⟨i,a,_⟩:=aGi h;exact List.mem_map.mpr ⟨_,t8 a,rfl⟩
def iY {p q:Prop}(h:c=true)(a:p):if c=true then p else q:=by rw[if_pos h];exact a
def dH {p q:Prop}(h:c=false)(a:q):if c=true then p else q:=by rw[if_neg (by rw[h];exact v5)];exact a
inductive aZn (K:bF4)(Pt:Addr)(vs:List V)(H:Hp)(Q:VK)(E_:XK):Prop
 |mk (v vh:V) (m:Int) (hd:Hdr) (pl:Plc) (_:vs=[v,vh,.int m]) (_:oK K H v pl) (_:jG K H vh hd) (_:hd.length<=1000) (_:aW1 hd m pl) (_:H Pt=some (.tab qC)) (_:∀H',Same H H'->Q (.bl true) H')
def th8 (h:x.length<=8):Th K H (.str x):=aMn h
theorem aDr (T:Txt w K mg)(M:Ok P w K mg base 1 "is_one_of" ["thing","texts"] (aLz K))(S:Ok P w K mg base 3 "is_column_in" u5 (aJ7 K))(a0:Ok P w K mg base 1 "kind_in" bQJ (aS2 K))(X:Ok P w K mg base 6 "are_cuts" ["thing","kind","houses"] (aOj K Pt)):Ok P w K mg base 7 "is_placing" ["thing","head","houses"] (aZn K Pt):=by
 refine Ok.ofV T.aHo aDv (by trivial) (λf V A x s H vs Q E hr h=>?_)
 obtain⟨v,J,m,hd,U,rfl,i,F,L,o,Z,q⟩:=h;refine⟨_,(aB (bM (VW.pt (fK (cF (bW (aL iJ (by rfl) T.bR bN (aH (vv 0) (va1 (fG (v:=.ty "tuple") (by rfl) T.gU eY rfl)))))) (dZ (cZ dN (aL aZ (by rfl) T.eV cW (va1 (vv 0))) aA)))) (aD (aJ fP)) aU) (aB (bM (bW (aV M (aH (aO aP (vv 0) aA) (va1 (cN (va1 bB)))))) (aD (aJ (wR dN (aL aZ (by rfl) T.eV cW (va1 (vv 0))) aA))) aU) (aB (bM (bW (aV M (aH (aO aP (vv 0) aA) (va1 (cN (va1 bB)))))) (aD (aJ (iC (wR dN (aL aZ (by rfl) T.eV cW (va1 (vv 0))) aA) (gF (aV S (aH (vv 1) (va1 (aO aP (vv 0) aA)))))))) aU) (aB (bM (VW.pt (fK (cF (bW (aV M (aH (aO aP (vv 0) aA) (va1 (cN (va1 bB))))))) (fK (cZ wU (aL aZ (by rfl) T.eV cW (va1 (vv 0))) aA) (dZ (cF (bW (aV S (aH (vv 1) (va1 (aO aP (vv 0) aA)))))))))) (aD (aJ fP)) aU) (aD (aJ (aV X (aH (aO aP (vv 0) aA) (aH (aV a0 (aH (vv 1) (va1 (aO aP (vv 0) aA)))) (va1 (vv 2))))))))))),?_⟩;cases U with
 |copies=>obtain⟨a,rfl,b⟩:=i;refine⟨_,rfl,_,_,rfl,.tup b,_,rfl,bY ⟨_,rfl,_,_,rfl,.inr b,rfl,_,rfl,bY ?_⟩⟩;refine⟨_,rfl,a,_,0,_,rfl,rfl,b,at0 _ _,by decide,λj t _ g l=>⟨_,j,_,rfl,th8 (by decide +kernel),SqT.of l,rfl,_,rfl,iY (by decide +kernel) ?_⟩⟩;refine⟨_,rfl,_,_,rfl,.inr (g.aR b),rfl,?_⟩;exact q t g
 |keys n=>obtain⟨a,rfl,b⟩:=i;obtain⟨G,k,p⟩:=o;refine⟨_,rfl,_,_,rfl,.tup b,_,rfl,bY ⟨_,rfl,_,_,rfl,.inr b,rfl,_,rfl,bY ?_⟩⟩;refine⟨_,rfl,a,_,0,_,rfl,rfl,b,at0 _ _,by decide,λj t _ g l=>⟨_,j,_,rfl,th8 (by decide +kernel),SqT.of l,rfl,_,rfl,dH (by decide +kernel) ?_⟩⟩;refine⟨_,rfl,a,_,0,_,rfl,rfl,g.aR b,at0 _ _,by decide,λC Y _ r u=>⟨_,C,_,rfl,th8 (by decide +kernel),SqT.of u,rfl,_,rfl,iY (by decide +kernel) ?_⟩⟩;have c:=g.trans r;refine⟨_,rfl,_,_,rfl,.inr (c.aR b),rfl,_,rfl,eX ?_⟩;exact⟨_,rfl,_,rfl,a,_,1,_,rfl,rfl,c.aR b,at1 _ _ _,J,hd,n,rfl,F.same c,L,G,aDi p,λy B=>q y (c.trans B)⟩
 |spans n h0 cs=>obtain⟨a,W,rfl,b,hc⟩:=i;obtain⟨G,k,p,D,I⟩:=o;refine⟨_,rfl,_,_,rfl,.tup b,_,rfl,bY ⟨_,rfl,_,_,rfl,.inr b,rfl,_,rfl,bY ?_⟩⟩;refine⟨_,rfl,a,_,0,_,rfl,rfl,b,at0 _ _,by decide,λj t _ g l=>⟨_,j,_,rfl,th8 (by decide +kernel),SqT.of l,rfl,_,rfl,dH (by decide +kernel) ?_⟩⟩;refine⟨_,rfl,a,_,0,_,rfl,rfl,g.aR b,at0 _ _,by decide,λC Y _ r u=>⟨_,C,_,rfl,th8 (by decide +kernel),SqT.of u,rfl,_,rfl,dH (by decide +kernel) ?_⟩⟩;have c:=g.trans r;refine⟨_,rfl,a,_,0,_,rfl,rfl,c.aR b,at0 _ _,by decide,λO H3 _ R N=>⟨_,O,_,rfl,th8 (by decide +kernel),SqT.of N,rfl,_,rfl,dH (by decide +kernel) ?_⟩⟩;have e:=c.trans R;refine⟨_,rfl,_,_,rfl,.inr (e.aR b),rfl,_,rfl,bY ?_⟩;refine⟨_,rfl,_,rfl,a,_,1,_,rfl,rfl,e.aR b,at1 _ _ _,J,hd,n,rfl,F.same e,L,G,aDi p,λH4 s4=>⟨_,rfl,bY ?_⟩⟩;have d:=e.trans s4;refine⟨_,rfl,a,_,2,_,rfl,rfl,d.aR b,at2 _ _ _ _,_,rfl,_,rfl,a,_,1,_,rfl,rfl,d.aR b,at1 _ _ _,J,n,hd,k,rfl,F.same d,p,_,rfl,?_⟩;exact⟨W,k,m,h0,cs,rfl,lU.same d (λ_ _ z=>z.same d) hc,D,I,d _ _ Z,λy B=>q y (d.trans B)⟩
inductive aI3 (K:bF4)(vs:List V)(H:Hp)(Q:VK)(E_:XK):Prop
 |mk (L:Addr) (vh:V) (hd:Hdr) (rows:List (List V)) (_:vs=[.ref L,vh]) (_:jG K H vh hd) (_:hd.length<=1000) (_:bU K H L rows) (_:rows.length<=1000) (_:(∀r∈rows,gC hd r)) (_:∀H',Same H H'->Q (.bl true) H')
def aK9 (T:Txt w K mg)(X:Ok P w K mg base 4 "is_row" u5 (aAy K)):Ok P w K mg base 5 "are_rows" ["thing","head"] (aI3 K):=by
 refine Ok.ofV T.aNi aJi (by trivial) (λf J A g s H vs Q E hr h=>?_)
 obtain⟨L,y,hd,t,rfl,U,M,⟨a,c,u⟩,Y,k,q⟩:=h;refine⟨_,(aD (aJ (iC (aL aQc (by rfl) T.bR bN (aH (vv 0) (va1 (fG (v:=.ty "list") (by rfl) T.yE rJ rfl)))) (gF (aL (kI rfl) (by rfl) T.aC7 tQ (va1 (cI (N:=["row","head"]) (by trivial) (eE (aC uF) rfl (by decide +kernel)) rfl (eO (vv 0)) (λZ d j W=>⟨(bJ (i:=0) (show (["row","head"]:List Str).Nodup from by decide +kernel) rfl (Or.inl rfl)),fW,(aV X (aH (vv 1) (va1 (vv 0))))⟩)))))))),?_⟩;have lu:=u.len;refine⟨_,rfl,L,a,rfl,SqL.of c,_,rfl,eX ?_⟩;dsimp only[rA,tCB,dI];refine iW [none,some y] (jM 1 (by decide +kernel) rfl rfl (by trivial)) ⟨_,rfl,L,rfl,⟨_,SqL.of c⟩,aLv (aNa λj d=>SqL.of (d _ _ c)) (aB2 λj d=>SqL.of (d _ _ c)) ⟨none,rfl⟩ (by lia) (List.replicate a.length (.bl true)) (by rw[bDP]) (λi x z O V j R l o r=>?_) λD F G _ I=>?_⟩
 ·have n:=bBX (t8 V);subst n;obtain⟨p,e,C⟩:=cA u O;exact⟨_,rfl,_,rfl,y,x,hd,p,rfl,U.same o,M,C.same o,k p (t8 e),λS B=>r S B⟩
 ·refine⟨D,List.replicate a.length true,rfl,SqL.of (by rw[I,bEN]),?_⟩;rw[show (List.replicate a.length true).all id=true from List.all_eq_true.mpr λb m=>bBX m];exact q F G
structure Tb where
 hd:Hdr
 pl:Plc
 rows:List (List V)
def lB (K:bF4)(H:Hp)(v:V)(vh vp:V)(L:Addr)(t:Tb):Prop:=∃a,v=.ref a/\SqT K H a [vh,vp,.ref L]/\jG K H vh t.hd/\oK K H vp t.pl/\bU K H L t.rows
structure iV (m:Int)(t:Tb):Prop where
 hd:aQf t.hd
 pl:aW1 t.hd m t.pl
 few:t.rows.length<=60
 rows:∀r∈t.rows,gC t.hd r
inductive aZj (K:bF4)(Pt:Addr)(vs:List V)(H:Hp)(Q:VK)(E_:XK):Prop
 |mk (v vh vp:V) (L:Addr) (m:Int) (t:Tb) (_:vs=[v,.int m]) (_:lB K H v vh vp L t) (_:iV m t) (_:H Pt=some (.tab qC)) (_:∀H',Same H H'->Q (.bl true) H')
def aJr (T:Txt w K mg)(n:Ok P w K mg base 5 "is_head" o4 (aKq K))(C:Ok P w K mg base 7 "is_placing" ["thing","head","houses"] (aZn K Pt))(p:Ok P w K mg base 5 "are_rows" ["thing","head"] (aI3 K)):Ok P w K mg base 8 "is_table" bQK (aZj K Pt):=by
 refine Ok.ofV T.aMe aK6 (by trivial) (λf x A g s H J Q E F h=>?_)
 obtain⟨v,k,z,L,m,t,rfl,⟨a,rfl,c,j,i,u⟩,e,y,q⟩:=h;have G:=e.hd.1.2.2;have r:=e.few;refine⟨_,(aB (bM (VW.pt (fK (cF (bW (aL iJ (by rfl) T.bR bN (aH (vv 0) (va1 (fG (v:=.ty "tuple") (by rfl) T.gU eY rfl)))))) (fK (cZ wU (aL aZ (by rfl) T.eV cW (va1 (vv 0))) aA) (dZ (cF (bW (aV n (va1 (aO aP (vv 0) aA))))))))) (aD (aJ fP)) aU) (aD (aJ (iC (aV C (aH (aO aP (vv 0) aA) (aH (aO aP (vv 0) aA) (va1 (vv 1))))) (gF (aV p (aH (aO aP (vv 0) aA) (va1 (aO aP (vv 0) aA))))))))),?_⟩;refine⟨_,rfl,_,_,rfl,.tup c,_,rfl,bY ⟨_,rfl,_,_,rfl,.inr c,rfl,_,rfl,bY ?_⟩⟩;refine⟨_,rfl,a,_,0,_,rfl,rfl,c,at0 _ _,k,t.hd,rfl,j,e.hd,λD d=>⟨_,rfl,bY ?_⟩⟩;refine⟨_,rfl,a,_,1,_,rfl,rfl,d.aR c,at1 _ _ _,_,rfl,a,_,0,_,rfl,rfl,d.aR c,at0 _ _,_,rfl,z,k,m,t.hd,t.pl,rfl,i.same d,j.same d,by lia,e.pl,d _ _ y,λI l=>⟨_,rfl,eX ?_⟩⟩;have b:=d.trans l;exact⟨_,rfl,a,_,2,_,rfl,rfl,b.aR c,at2 _ _ _ _,_,rfl,a,_,0,_,rfl,rfl,b.aR c,at0 _ _,L,k,t.hd,t.rows,rfl,j.same b,by lia,u.same b,by lia,e.rows,λo B=>q o (b.trans B)⟩
end
end My
namespace L2
open PySem PySem.Spec PyProof.Rows
section
variable {X:Cx}{bF8:bF6}{σ:L2.St}{H:Hp}{s:Shared}{d:Addr}{o:Obj}{kvs:List (Key × V)}
def aXl (j:HOk X.prog X.w H s.heap)(hd:H d=some u)(i:∀xs,u≠.tup xs)(k:∀a,u≠.own a)(h:cV X.prog X.w H s.heap d u'):HOk X.prog X.w (upd H d u') s.heap:=by
 have g:∀{b v},cV X.prog X.w H s.heap b v->cV X.prog X.w (upd H d u') s.heap b v:=λ{b v} z=>z.stay (λ_ _ _ q=>q) (λc q=>by
  rw[aK (λe=>by subst e;rw[hd] at q;exact k _ (bAK q))];exact q) λc xs q=>by
  rw[aK (λe=>by subst e;rw[hd] at q;exact i _ (bAK q))];exact q
 intro b v e;by_cases f:b=d
 ·subst f;rw[aF] at e;cases e;exact g h
 ·rw[aK f] at e;exact g (j b v e)
def Inv.setd (I:Inv X bF8 σ H s)(hd:H d=some u)(o:∀xs,u≠.tup xs)(t:∀a,u≠.own a)(r:∀ps,u≠.tbl ps)(y:∀ob v,X.H₀ d≠some (.frz ob v))(h:cV X.prog X.w H s.heap d u'):Inv X bF8 σ (upd H d u') s:=by
 have g:∀{b},H b=none->upd H d u' b=none:=λ{b} e=>by rw[aK (λz=>by subst z;rw[hd] at e;cases e)];exact e
 refine⟨I.ok,I.os,I.bare,⟨I.base.keep,I.base.slot,λb ob e n j=>g (I.base.free b ob e n j),I.base.there,λb xs e=>?_,λb ob v e=>?_,λb ps e=>?_⟩,I.loc,I.cell,g I.free,λx c e=>g (I.freeC x c e),λp m=>?_,aXl I.hok hd o t h,I.len⟩
 ·have q:=I.base.tups b xs e;rw[aK (λz=>by subst z;rw[hd] at q;exact o _ (bAK q))];exact q
 ·have q:=I.base.frzs b ob v e;rw[aK (λz=>by subst z;exact y _ _ e)];exact q
 ·obtain⟨f,q⟩:=I.base.tbls b ps e;refine⟨f,?_⟩;rw[aK (λz=>by subst z;rw[hd] at q;exact r _ (bAK q))];exact q
 ·obtain⟨i,l,k⟩:=I.pin p m;exact⟨i,g l,k⟩
end
def aPn (b:o.data=.dict es ep)(l:cV P w H h d (.frz o (.dK kvs))):∃vs,KV kvs vs/\h.DictAt (bI P w) d vs ep:=by obtain⟨e,_,_,vs,a,⟨m,j,g,c,k,f,i⟩⟩:=l;rw[e] at c;cases c;rw[b] at f;cases f;exact⟨vs,a,o,es,e,k,b,i⟩
section
variable {X:Cx}{tg:Expr}
def bD6 (d:Addr)(kvs:List (Key × V))(D:Ends):Ends:={ nx:=fun σ H=>(∃o,H d=some (.frz o (.dK kvs)))/\D.nx σ (upd H d (.dK kvs)),rt:=λv H=>(∃o,H d=some (.frz o (.dK kvs)))/\D.rt v (upd H d (.dK kvs)) }
def bDy (X:Cx)(t:TS):TS:=λD σ H=>∃d kvs,H d=some (.dK kvs)/\((∀ob u,X.H₀ d≠some (.frz ob u))->t (bD6 d kvs D) σ H)
theorem aX1 {st:Stmt}{t:TS}(h:VS X st t):VS X st (bDy X t):=⟨by
 intro c s σ H D I ⟨d,k,hd,q⟩;have w:∀n u,X.H₀ d≠some (.frz n u):=λn u e=>by have:=I.base.frzs d n u e;rw[hd] at this;cases this
 have a:∀{b i l o},Inv X c b i l->i d=some (.frz o (.dK k))->Inv X c b (upd i d (.dK k)) l:=λ{b i l o} g j=>g.setd j (λ_ z=>by cases z) (λ_ z=>by cases z) (λ_ z=>by cases z) w (g.hok d _ j).2;refine thn (h.1 c s σ H _ I (q w)) λf l m=>?_;cases f with
 |next=>obtain⟨b,i,g,⟨o,j⟩,p⟩:=m;exact⟨b,_,a g j,p⟩
 |brk=>obtain⟨_,_,_,z⟩:=m;exact z.elim
 |cont=>obtain⟨_,_,_,z⟩:=m;exact z.elim
 |ret u=>obtain⟨v,b,i,g,r,⟨o,j⟩,p⟩:=m;exact⟨v,b,_,a g j,r,p⟩⟩
end
end L2
namespace PySem
section
variable {prog:Program}{w:World}{K:Type}[DecidableEq K]{knd:HeapKind prog w K}{A:Around}{E:bF5}{s:Shared}
end
end PySem
namespace L2
open PySem PySem.Spec PyProof.Rows
section
variable {X:Cx}
end
end L2
namespace PySem
section
variable {prog:Program}{w:World}{A:Around}{E:bF5}{s:Shared}
end
end PySem
namespace L2
open PySem PySem.Spec PyProof.Rows
section
variable {X:Cx}{tg:Expr}
end
end L2
namespace PySem
section
variable {prog:Program}{w:World}{A:Around}{E:bF5}{s:Shared}
def aWx {it d:Addr}{i ep:Nat}{od:Obj}{es:Array DictEntry}{v p:Value}{Q:Option Value->Shared->Prop}(m:IsItemIter s.heap it d i es.size ep v p)(O:s.heap.get? d=some od)(U:od.data=.dict es ep)(lt:i<es.size)
  (q:∀h',IsItemIterOut h' it d (i+1) es.size ep es[i].key es[i].val s.heap.objs.size->h'.get? s.heap.objs.size=some { cls:=.type "tuple",data:=.seq #[es[i].key,es[i].val] }->h'.objs.size=s.heap.objs.size+1 ->
   (∀b o,b≠it->s.heap.get? b=some o->h'.get? b=some o)->Q (some (.ref s.heap.objs.size)) { s with heap:=h' }):wpAny (model prog w) A (pyNext (.ref it)) Q E s:=by
 have h:s.TypeIs (.ref it) "dict_itemiterator":=⟨_,m,rfl⟩;have S:it<s.heap.objs.size:=j9 m;unfold pyNext;refine b7 (bCS (bAG (name:="__next__") h F.slot_dict_itemiterator_next (bAD F.slot_dict_itemiterator_next h F.entry_dict_itemiterator_next (b7 (d7 (b7 (b7 ?_)))) (F.args_dict_itemiterator_next_1 _))));refine b7 (bCL h (d7 (b7 (bDW m rfl ?_))));rw[show Builtin.Dict_items.ownsTuple "dict_itemiterator"=true from by decide];simp only[if_true];have N:¬ ((Value.ref d == Value.none)=true):=v5;show wpAny _ _ (ite ((Value.ref d == Value.none)=true) _ _) _ _ _;rw[if_neg N];refine b7 (d7 (b7 (bF3 O U ?_)));rw[if_neg (by simp)];refine b7 (d7 (b7 (wpAny_dictEpoch O U ?_)));rw[if_neg (by simp)];have L:¬ ((i:Int)<0):=by lia
 refine d7 ?_;simp only[L,if_false,bAQ,j7 lt];refine b7 (b7 (bCL h (d7 (b7 (bEZ h ?_)))));show wpAny _ _ (setField (.ref it) 3 (rawInt ((i:Int)+1)) >>= _) _ _ s;refine b7 (bAP m (by simp) λa P H=>?_);have B:IsItemIter a it d (i+1) es.size ep v p:=by
  have z:((i+1:Nat):Int)=(i:Int)+1:=by lia
  unfold IsItemIter;rw[z];simpa [rawInt] using P
 have j:Shared.TypeIs { s with heap:=a } (.ref it) "dict_itemiterator":=⟨_,B,rfl⟩;refine b7 (bAR (b7 (bEZ j (b7 (bEZ j ?_)))));have f:a.objs.size=s.heap.objs.size:=H.1;show wpAny _ _ (Builtin.Dict_items.pairFromOwner (.ref it) 6 es[i].key es[i].val) _ _ { s with heap:=a };unfold Builtin.Dict_items.pairFromOwner;refine b7 (bFT ?_);have k:IsItemIter (a.push { cls:=.type "tuple",data:=.seq #[es[i].key,es[i].val] }) it d (i+1) es.size ep v p:=c7 _ B;have D:(a.push { cls:=.type "tuple",data:=.seq #[es[i].key,es[i].val] }).get? s.heap.objs.size=some { cls:=.type "tuple",data:=.seq #[es[i].key,es[i].val] }:=by rw[<-f];exact j8 _ rfl
 have r:(a.push { cls:=.type "tuple",data:=.seq #[es[i].key,es[i].val] }).objs.size=s.heap.objs.size+1:=by rw[bBL,f]
 have G:∀b o,b≠it->s.heap.get? b=some o->(a.push { cls:=.type "tuple",data:=.seq #[es[i].key,es[i].val] }).get? b=some o:=λb o c e=>c7 _ (H.extBut b o c e);rw[show ({ s with heap:=a }:Shared).heap.objs.size=s.heap.objs.size from f];show wpAny _ _ (Builtin.Dict_items.ownedTupleIsFree (.ref it) >>= _) _ _ { s with heap:=a.push { cls:=.type "tuple",data:=.seq #[es[i].key,es[i].val] } };generalize a.push { cls:=.type "tuple",data:=.seq #[es[i].key,es[i].val] }=h2 at k D r G ⊢;unfold Builtin.Dict_items.ownedTupleIsFree;refine b7 (b7 (bAJ k rfl (x:=.none) rfl (d7 ?_)));simp only[if_true];refine b7 (bAJ k rfl (x:=v) rfl (b7 (bAJ k rfl (x:=p) rfl (b7 (bAP k (by simp) λt Z J=>?_)))));have T:IsItemIter t it d (i+1) es.size ep es[i].key p:=Z;refine b7 (bAP T (by simp) λn X K=>?_);have W:IsItemIter n it d (i+1) es.size ep es[i].key es[i].val:=X;refine b7 (bAP W (by simp) λu V C=>?_);have Y:IsItemIterOut u it d (i+1) es.size ep es[i].key es[i].val s.heap.objs.size:=V;refine b7 (bAP Y (by simp) λg M y=>?_);have R:IsItemIterOut g it d (i+1) es.size ep es[i].key es[i].val s.heap.objs.size:=M;have I:∀b o,b≠it->h2.get? b=some o->g.get? b=some o:=λb o c e=>y.extBut b o c (C.extBut b o c (K.extBut b o c (J.extBut b o c e)));have l:g.objs.size=s.heap.objs.size+1:=by have a3:t.objs.size=h2.objs.size:=J.1;have a4:n.objs.size=t.objs.size:=K.1;have a5:u.objs.size=n.objs.size:=C.1;have a6:g.objs.size=u.objs.size:=y.1;lia
 exact b7 (bFZ (d7 (d7 ⟨_,rfl,d7 (q g R (I _ _ (bCM S) D) l λb o c e=>I b o c (G b o c e))⟩)))
def aNn (h:A.handled=none)(b:IsItemIter s.heap it d es.size es.size ep k0 v0)(g:s.heap.get? d=some od)(e:od.data=.dict es ep)
  (q:∀h',Heap.ExtBut it s.heap h'->Q none { s with heap:=h' }):wpAny (model prog w) A (pyNext (.ref it)) Q E s:=by
 have a:s.TypeIs (.ref it) "dict_itemiterator":=⟨_,b,rfl⟩;unfold pyNext;refine b7 (bCS (bAG (name:="__next__") a F.slot_dict_itemiterator_next (bAD F.slot_dict_itemiterator_next a F.entry_dict_itemiterator_next (b7 (d7 (b7 (b7 ?_)))) (F.args_dict_itemiterator_next_1 _))));refine b7 (bCL a (d7 (b7 (bDW b rfl ?_))));rw[show Builtin.Dict_items.ownsTuple "dict_itemiterator"=true from by decide];simp only[if_true];have f:¬ ((Value.ref d == Value.none)=true):=v5;show wpAny _ _ (ite ((Value.ref d == Value.none)=true) _ _) _ _ _;rw[if_neg f];refine b7 (d7 (b7 (bF3 g e ?_)));rw[if_neg (by simp)];refine b7 (d7 (b7 (wpAny_dictEpoch g e ?_)));rw[if_neg (by simp)];have c:¬ ((es.size:Int)<0):=by lia
 refine d7 ?_;simp only[c,if_false,bAQ,bCE (d8 es.size)];refine b7 (b7 (bCL a (d7 ?_)));show wpAny _ _ (setField (.ref it) 2 .none >>= _) _ _ s;refine b7 (bBW b rfl (by simp) ?_);refine b7 ?_;simp only[newExc,newTuple,raiseNew];refine b7 (bAF ?_ (by size_fits));refine b7 (bEQ (by simp only[firstArgMember];rfl) ?_);refine bAF (b7 (bFJ ?_)) (by size_fits);rw[show A.in1.handled=none from h];refine b7 (d7 (bFY ?_));refine b7 (bDE ⟨_,j8 _ rfl,rfl⟩ isSubtype_stop ?_);exact d7 (q _ (((bAV ..).extBut.push _).push _))
def aS3 (b:(d == sysModules)=false)(a:s.TypeIs (.ref d) "dict")
  (q:Q (.ref s.heap.objs.size) { s with heap:=s.heap.push { cls:=.type "dict_items",data:=.fields #[.ref d] } }):wpAny (model prog w) A (call (.builtin "dict.items") [.ref d]) Q E s:=by
 refine bAD F.slot_dict_items a F.entry_dict_items ?_ (F.args_dict_items_1 _);unfold Builtin.«dict.items» Builtin.Dict.noArgs;refine b7 (b7 (wpAny_notOrdered_dict a ?_));show wpAny _ _ (pure d) _ _ s;refine d7 ?_;show wpAny _ _ (Builtin.Dict.showsAll d >>= _) _ _ _;unfold Builtin.Dict.showsAll;rw[if_neg (show ¬ (d == sysModules)=true by rw[b];exact v5)];exact b7 (d7 (b7 (bAF (d7 ⟨_,rfl,q⟩))))
def aJo (a:s.heap.IsItemsView v d)(e:s.heap.get? d=some od)(b:od.data=.dict es ep)
  (q:Q (.ref s.heap.objs.size) { s with heap:=s.heap.push { cls:=.type "dict_itemiterator",data:=.fields #[.none,.bool false,.ref d,.int 0 0,.int es.size 0,.int ep 0,.none,.none] } }):wpAny (model prog w) A (pyIter (.ref v)) Q E s:=by
 obtain⟨h,f,g,c⟩:=id a;refine bFA a.typeIs F.slot_dict_items_iter (bAD F.slot_dict_items_iter a.typeIs F.entry_dict_items_iter ?_ (F.args_dict_items_iter_1 _));unfold Builtin.«dict_items.__iter__» Builtin.Dict_items.dictOf;refine b7 (d7 (b7 (b7 (bAJ f c rfl (d7 ?_)))));refine b7 ?_;unfold Builtin.Dict_items.newIterator;refine b7 (bF3 e b (b7 (wpAny_dictEpoch e b ?_)));rw[show Builtin.Dict_items.ownsTuple "dict_itemiterator"=true from by decide];simp only[if_true];refine bAF (d7 ⟨_,rfl,"dict_itemiterator",_,⟨_,j8 _ rfl,rfl⟩,F.slot_dict_itemiterator_next.lookup,?_⟩) (by simp only[sizeOk,Builtin.Dict_items.ownedTupleFields,d9,w6,m8,bBS,sizeLine_eq];lia);simpa [rawInt,Builtin.Dict_items.ownedTupleFields] using q
end
end PySem
namespace PySem
open Builtin in
def aDa:entryFor table "dict_itemiterator.__iter__"=some Builtin.«dict_keyiterator.__iter__»:=entryFor_alias (id':="dict_keyiterator.__iter__") (by kernel_rfl) rfl (by decide +kernel) (by kernel_rfl)
end PySem
namespace L2
open PySem PySem.Spec PyProof.Rows
section
variable {X:Cx}
end
def aMh (d:Addr)(o:Obj)(kvs:List (Key × V)):It:=
 ⟨λi H=>H d=some (.frz o (.dK kvs))/\i<kvs.length,λi H x H'=>∃T kv,H T=none/\x=.ref T/\kvs[i]?=some kv/\H'=upd H T (.tup [kV kv.1,kv.2]),λi H=>H d=some (.frz o (.dK kvs))/\i=kvs.length⟩
theorem bEt (r:KV kvs vs):∀{i:Nat} {kv:Key × V},kvs[i]?=some kv->∃q,vs[i]?=some q/\kv.1=q.1/\RelV kv.2 q.2:=by
 unfold KV at r
 induction r with
 |nil=>intro i kv h;cases h
 |cons a _ ih=>
  intro i kv h;cases i with
  |zero=>cases h;exact⟨_,rfl,a⟩
  |succ i=>exact ih h
theorem aXr (h:(bI P w).is (Sum.inr n) key=true):∃t,key=.str n t:=by
 cases key with
 |str x t=>
  have e:x=n:=by simpa [bI,wK,Value.isStrOf] using h
  exact⟨t,by rw[e]⟩
 |_=>exact absurd (show false=true from h) v5
def aJq {P:Program}{w:World}{K:bF4}{elts:List Expr}{kt:Nat}{pos:Pos}(d it:Addr)(o:Obj)(kvs:List (Key × V))(es:Array DictEntry)(ep:Nat)(g:o.data=.dict es ep)(hk:∀kv∈kvs,∃n,kv.1=Sum.inr n) :
  Turn P w K (.Tuple elts kt pos) (aMh d o kvs) [it] it (λi h=>∃k0 v0,IsItemIter h it d i kvs.length ep k0 v0) where
 mem:=by simp
 obj:=λi h a b f=>by
  have e:b=it:=by simpa using f
  subst e;obtain⟨k0,v0,J⟩:=a;exact⟨_,J,λv z=>by cases (show Data.fields _=Data.cell v from z)⟩
 keep:=λi h Z a k=>by obtain⟨k0,v0,J⟩:=a;exact⟨k0,v0,k it (by simp) _ J⟩
 item:=by
  intro X S L R hc i p s σ H E I T a O;subst S L R;obtain⟨k0,v0,a⟩:=a;obtain⟨hd,D⟩:=O;obtain⟨vs,j,od,U,u,_,c,_,l,_⟩:=aPn g (I.hok d _ hd);have r:=(I.hok d _ hd).1;rw[r] at u;cases u;rw[g] at c;cases c;have G:es.size=kvs.length:=by rw[KV.length j,<-l.length,v4]
  have C:=b8 D;obtain⟨x,hx,e1,e3⟩:=bEt j C;have B:i<es.size:=by lia
  obtain⟨m,M⟩:=l.get? (by rw[bBO];exact j7 B) hx;obtain⟨n,en⟩:=hk _ (bAT D);rw[<-e1,en] at m;obtain⟨t,m⟩:=aXr m;have q:=T it (by simp);rw[<-G] at a;refine aWx a r g B λZ Y a2 a3 kp=>?_;rw[m,M] at Y a2;refine⟨_,rfl,?_⟩;have fT:=I.hok.fresh (d8 _);have y:=v8 (j9 a);have N:kV kvs[i].1=.str n:=by rw[en];rfl
  have I1:Inv X p σ (upd H s.heap.objs.size (.tup [kV kvs[i].1,kvs[i].2])) { s with heap:=Z }:=by
   rw[N];refine I.drawn (ch:=[it]) (its:=[.str n t,x.2]) (λb f=>?_) (λb o f e=>kp b o (by simpa using f) e) (d8 _) (.cons ⟨t,rfl⟩ (.cons e3 .nil)) (small (by simp)) (.of a2 rfl ⟨_,a2,rfl,_,rfl⟩) (λb f=>?_)
   ·have:b=it:=by simpa using f
    rw[this];exact q
   ·have:b=it:=by simpa using f
    rw[this];exact⟨_,Y⟩
  refine wpAny_letOwnedTupleGo_items Y λh2 z2 s2=>?_;obtain⟨g0,g1,g2,g3,g4,g5⟩:=q;have I2:=Inv.turned I1 (t':=s.toks) (λb o f e=>(s2.2 b f).trans e) (by rw[aK y];exact g0) g1 g3 g4 g5;refine⟨.ref s.heap.objs.size,_,I2,rfl,⟨_,kvs[i],fT,rfl,C,rfl⟩,⟨_,_,by rw[<-G];exact z2⟩,λb f=>?_⟩;have:b=it:=by simpa using f
  rw[this,aK y];exact g0
 done:=by
  intro X S L R hc i p s σ H E I T a O;subst S L R;obtain⟨k0,v0,a⟩:=a;obtain⟨f0,f1,f2,f3,f4,f5⟩:=T it (by simp);obtain⟨hd,D⟩:=O;obtain⟨vs,j,od,U,u,_,c,_,l,_⟩:=aPn g (I.hok d _ hd);have r:=(I.hok d _ hd).1;rw[r] at u;cases u;rw[g] at c;cases c;have G:es.size=kvs.length:=by rw[KV.length j,<-l.length,v4]
  rw[D,<-G] at a;exact aNn (I.ok.hd hc) a r g λZ eb=>⟨rfl,I.turned (t':=s.toks) (λb o f e=>eb b o f e) f0 f1 f3 f4 f5⟩
 self:=λA i s Q E a h=>by obtain⟨k0,v0,a⟩:=a;have W:s.TypeIs (.ref it) "dict_itemiterator":=⟨_,a,rfl⟩;refine bFA W PySem.F.slot_dict_itemiterator_iter (bAD PySem.F.slot_dict_itemiterator_iter W PySem.aDa ?_ (PySem.F.args_dict_itemiterator_iter_1 _));exact d7 ⟨_,rfl,"dict_itemiterator",_,W,PySem.F.slot_dict_itemiterator_next.lookup,h⟩
section
variable {X:Cx}
def aP8 (te:TE):TI:=fun σ H R=>te σ H λv H1=>∃d kvs,v=.ref d/\H1 d=some (.dK kvs)/\(∀kv∈kvs,∃n,kv.1=Sum.inr n)/\(∀ob u,X.H₀ d≠some (.frz ob u))/\∀o,R (aMh d o kvs) (upd H1 d (.frz o (.dK kvs)))
def aEm {elts:List Expr}{kt:Nat}{tp apos cpos:Pos}{e:Expr}{te:TE}(h:VE X e te)(p:attributeBase e "items" X.env (eval e X.env)=eval e X.env:=by rfl)(l:(apos.endLine == cpos.line)=true:=by rfl) :
  VI X (.Tuple elts kt tp) (.Call (.Attribute e "items" apos) [] [] cpos) (aP8 (X:=X) te):=⟨by
 intro f s σ H R I B;refine wpAny_Call_method0_late p l (thn (h.1 f s σ H _ I B) λv a ⟨x,t,j,M,N⟩=>?_);obtain⟨d,c,e,hd,C,V,q⟩:=N;subst e;cases M;obtain⟨z,P,S,r,⟨o,m,u,k,D,n,K,g,J⟩⟩:=aIh j.hok hd;have E:m.size=c.length:=by rw[KV.length r,<-g.length,v4]
 have O:a.TypeIs (.ref d) "dict":=(show a.heap.DictOf (bI X.prog X.w) d S from ⟨o,m,u,k,D,n,K,g,J⟩).typeIs;obtain⟨Q,L⟩:=aMg (T:="dict") j (show RelV (.ref d) (.ref d) from rfl) (.inr (.inr (.inl ⟨rfl,.inl ⟨c,hd⟩⟩)));refine⟨"dict","dict.items",PySem.F.plainAttrs_dict,PySem.F.slot_dict_items,PySem.F.type_dict_items,Q,L,bDL rfl (PySem.evalArgs_none ?_)⟩;refine aS3 P O ?_;have G:Inv X f σ (upd t d (.frz o (.dK c))) a:=j.setd hd (λ_ z=>by cases z) (λ_ z=>by cases z) (λ_ z=>by cases z) V ⟨k,j.hok d _ hd⟩;have i:Inv X f σ (upd t d (.frz o (.dK c))) { a with heap:=a.heap.push { cls:=.type "dict_items",data:=.fields #[.ref d] } }:=G.kept (t':=a.toks) λb o e=>c7 _ e;have A:(a.heap.push { cls:=.type "dict_items",data:=.fields #[.ref d] }).IsItemsView a.heap.objs.size d:=⟨_,j8 _ rfl,rfl,rfl⟩;have y:(a.heap.push { cls:=.type "dict_items",data:=.fields #[.ref d] }).get? d=some o:=c7 _ k;generalize a.heap.push { cls:=.type "dict_items",data:=.fields #[.ref d] }=hp at i A y ⊢;refine aJo (s:={ a with heap:=hp }) A y n ?_;refine⟨hp.objs.size,[hp.objs.size],_,_,_,rfl,i.kept (t':=a.toks) λb o e=>c7 _ e,aJq d _ o c m u n C,?_,λb U=>?_,q o⟩
 ·rw[<-E];exact⟨_,_,j8 _ rfl⟩
 ·have e:b=hp.objs.size:=by simpa using U
  subst e;exact i.aLe (d8 _) (i.hok.fresh (d8 _))⟩
end
def aNy {d:Addr}{o:Obj}{a:List (Key × V)}{g:TG}{tb:TS}{D:Ends}{σ:L2.St}{H:Hp}(c:Nat->L2.St->Hp->Prop)(k:c 0 σ H)(j:∀i σ H,i<=a.length->c i σ H->H d=some (.frz o (.dK a)))
  (f:∀i kv T σ H,a[i]?=some kv->c i σ H->H T=none->g (.ref T) σ (upd H T (.tup [kV kv.1,kv.2])) fun σ2 H2=>tb { D with nx:=c (i+1),ct:=c (i+1),bk:=D.nx } σ2 H2) (hd:∀σ H,c a.length σ H->D.nx σ H) :
  ∃W:Nat->Nat->L2.St->Hp->Prop,(∃m,W 0 m σ H)/\∀i m σ H,W i m σ H ->
   ((aMh d o a).stop i H/\D.nx σ H)\/((aMh d o a).go i H/\∃N:L2.St->Hp->Prop,(∀σ' H',N σ' H'->∃m',m'<m/\W (i+1) m' σ' H')/\∀x H',(aMh d o a).yld i H x H'->g x σ H' fun σ2 H2=>tb { D with nx:=N,ct:=N,bk:=D.nx } σ2 H2):=by
 refine⟨λi m σ H=>m=a.length - i/\i<=a.length/\c i σ H,⟨a.length,by simp,bAC _,k⟩,?_⟩;rintro i m σ H ⟨rfl,hi,p⟩;have q:=j i σ H hi p;by_cases b:i<a.length
 ·right;refine⟨⟨q,b⟩,c (i+1),fun σ' H' h=>⟨a.length - (i+1),by lia,rfl,by lia,h⟩,?_⟩;rintro x H' ⟨T,kv,hT,rfl,hkv,rfl⟩;exact f i kv T σ H hkv p hT
 ·left;have e:i=a.length:=by lia
  subst e;exact⟨⟨q,rfl⟩,hd σ H p⟩
section
variable {X:Cx}
def bBm (X:Cx)(t:TE):TE:=fun σ H Q=>∃d kvs,H d=some (.dK kvs)/\((∀ob u,X.H₀ d≠some (.frz ob u))->t σ H λv H'=>(∃o,H' d=some (.frz o (.dK kvs)))/\Q v (upd H' d (.dK kvs)))
def aYs (h:VE X e t):VE X e (bBm X t):=⟨by
 intro a s σ H Q I ⟨d,i,hd,q⟩;have g:∀b u,X.H₀ d≠some (.frz b u):=λb u e=>by have:=I.base.frzs d b u e;rw[hd] at this;cases this
 refine thn (h.1 a s σ H _ I (q g)) λu k ⟨v,l,c,r,⟨o,f⟩,j⟩=>?_;exact⟨v,_,c.setd f (λ_ z=>by cases z) (λ_ z=>by cases z) (λ_ z=>by cases z) g (c.hok d _ f).2,r,j⟩⟩
end
def aJl {K:bF4}{d:Addr}{o:Obj}{a:List (Key × V)}{H:Hp}{w:L2.St}{te:TE}{Q:VK}(hd:H d=some (.frz o (.dK a)))(C:Ps2 w w)(hsz:a.length<=1000)
  (Rel:Addr->Nat->Hp->V->Prop) (B:∀{D i H1 H2 y},Same H1 H2->Rel D i H1 y->Rel D i H2 y) (t:∀{D i H1 ys zs y},H1 D=some (.lst ys)->Rel D i H1 y->Rel D i (L2.upd H1 D (.lst zs)) y)
  (A:∀(i:Nat) (kv:Key × V),a[i]?=some kv->∀H' R D ys,Same H H'->H D=none->H' D=some (.lst ys)->(∀y H2,Same H' H2->Rel D i H2 y->R y H2)->te ((w.set 0 (some (kV kv.1))).set 1 (some kv.2)) H' R)
  (q:∀D H' ys,Same H H'->H D=none->H' D=some (.lst ys)->ys.length=a.length->(∀i y,ys[i]?=some y->Rel D i H' y)->Q (.ref D) H'):pH (aMh d o a) H w (aNd K 2 (sW (bO 0) (sW (bO 1) aQd))) mJ te Q:=by
 intro D h;refine⟨λi m r H' ys=>m=a.length - i/\i<=a.length/\Same H H'/\H' D=some (.lst ys)/\ys.length=i/\Ps2 w r/\∀j y,ys[j]?=some y->Rel D j H' y,⟨a.length,by simp,bAC _,aW h _,aF,rfl,C,λj y e=>by cases e⟩,?_⟩;rintro i m r H' ys ⟨rfl,hi,sm,gD,ly,hps,hr⟩;refine⟨gD,?_⟩;by_cases l:i<a.length
 ·right;refine⟨⟨sm _ _ hd,l⟩,?_⟩;rintro x H2 ⟨T,kv,hT,rfl,hkv,rfl⟩;have c:Same H' (L2.upd H' T (.tup [kV kv.1,kv.2])):=aW hT _;refine hg2 (SqT.of aF) hps fun E g k=>?_;have f:=k;subst f;dsimp only[mJ];rw[if_pos rfl];refine A i kv hkv _ _ D ys (sm.trans c) h (c _ _ gD) λy F n s=>?_;have b:=n _ _ (c _ _ gD);have p:=sm.trans (c.trans n);refine⟨b,bCJ (show ys.length<=1000 by lia) (by decide),a.length - (i+1),by lia,rfl,by lia,gG h p,aF,by rw[w6,ly];rfl,g,λj z e=>?_⟩;by_cases v:j<ys.length
  ·rw[bBJ v] at e;exact t b (B (c.trans n) (hr j z e))
  ·rw[bBG (by lia)] at e;have u:j - ys.length=0:=by have:=(List.getElem?_eq_some_iff.mp e).1;simpa using this
   rw[u] at e;cases e;have:j=i:=by lia
   rw[this];exact t b s
 ·left;have e:i=a.length:=by lia
  subst e;exact⟨⟨sm _ _ hd,rfl⟩,q D H' ys sm h gD ly hr⟩
def aTk {X:Cx}{scope:Scope}{N:List Str}{tl:TE}{te:TE}{tt:TT}{g:TG}{σ:L2.St}{H:Hp}{Q:VK}(b:L2.St)(a:Cap X scope N σ b)(h:tl σ H λv H1=>∃d kvs,v=.ref d/\H1 d=some (.dK kvs)/\(∀kv∈kvs,∃n,kv.1=Sum.inr n)/\(∀ob u,X.H₀ d≠some (.frz ob u))/\∀o,pH (aMh d o kvs) (upd H1 d (.frz o (.dK kvs))) b g tt te Q):jD X scope N (aP8 (X:=X) tl) g tt te σ H Q:=⟨b,a,h⟩
section
variable {X:Cx}
def aZb:List V->Hp->VK->Prop:=λxs H Q=>∃d kvs,xs=[.ref d,.ty "dict"]/\H d=some (.dK kvs)/\Q (.bl true) H
def aJ2:cH X (.builtin "isinstance") aZb:=by intro e s σ H m l Q I r h;obtain⟨d,c,rfl,hd,q⟩:=h;obtain⟨u,v,rfl,b,j⟩:=r.two;obtain rfl:v=Value.type "dict":=j;obtain rfl:u=Value.ref d:=b;obtain⟨z,k,n,i,a⟩:=aIh I.hok hd;obtain⟨o,g,f⟩:=(show s.TypeIs (.ref d) "dict" from a.typeIs);exact call_isinstance (isinstance_true F.isi_meta_dict F.isi_self_dict) ⟨⟨o,g,f⟩,⟨.bl true,H,I,rfl,q⟩⟩
end
end L2
namespace PySem
section
variable {prog:Program}{w:World}{A:Around}{E:bF5}{s:Shared}
def aIu (m:s.heap.get? a=some o)(q:o.cls=.type "list")(i:o.data=.seq xs k)(hd:o.dict=none)(x:A.handled=none)
  (h:∀h' tk,(∀b u,s.heap.get? b=some u->h'.get? b=some u)->Q none { s with heap:=h',toks:=tk }):wpAny (model prog w) A (getAttr? (.ref a) "keys") Q E s:=by
 obtain⟨c,v,r,p⟩:=o;simp only at q i hd;subst q i hd;obtain⟨t,g,d,tk,n⟩:=s;have l:∀j,(⟨t,g,d,j,n⟩:Shared).TypeIs (.ref a) "list":=λ_=>⟨_,m,rfl⟩;have C:=sub_AttributeError;have y:=F.slot_list_getattribute.lookup;have D:=F.slot_list_getattribute.bind (.ref a);have H:=am_list_getattr_none;unfold getAttr? getAttrBy? getAttrBy
 repeat (any_goals (first|assumption|exact l _|((with_reducible show wpAny _ _ (call (Value.builtin "list.__getattribute__") _ _) _ _ _);refine call_meets F.slot_list_getattribute (l _) am_entry_list_getattribute (F.args_list_getattribute_2 _ _) (meets_getattribute_miss_list a xs k p "keys" _ aBl (by decide +kernel) (by size_fits)) ⟨m,x,λh' j e f=>?_⟩)|wp_step))
 obtain⟨G,B,z⟩:=f.there;unfold getattributeRaised
 repeat (any_goals (first|assumption|wp_step))
 exact h _ _ f.keeps
end
section
variable {prog:Program}{w:World}{κ:Type}[DecidableEq κ]{knd:KeyKind prog w κ}{A:Around}{E:bF5}{s:Shared}
def yG {t:Addr}{its:Array Value}{B:List (κ × Value)}{Q:bF5}(r:A.handled=none){o:Obj}{n:Nat}(ho:s.heap.get? t=some o)(D:o.cls=.type "list")(G:o.data=.seq its n)(H:o.dict=none)(l:B.length=its.size)(X:its.size<=1000)
  (S:∀(j:Nat) (v:Value) (kv:κ × Value),its[j]?=some v->B[j]?=some kv->tU knd s.heap v kv)
  (q:∀h' tk,h'.DictOf knd s.heap.objs.size (merged [] B)->(∀b o,s.heap.get? b=some o->h'.get? b=some o)->Q (.ref s.heap.objs.size) { s with heap:=h',toks:=tk }) :
  wpAny (model prog w) A (call (.type "dict") [.ref t]) Q E s:=by
 refine callType_codes (Q₁:=λg C=>g=.ref s.heap.objs.size/\C={ s with heap:=s.heap.push { cls:=.type "dict",data:=.dict #[] } }) F.kt_called_dict (F.kt_typeCall_dict_1 _) F.entry_dict_init (kt_code_dict_new _ ⟨rfl,rfl⟩) ?_;rintro g C ⟨rfl,rfl⟩;have a:(s.heap.push { cls:=.type "dict",data:=.dict #[] }).DictOf knd s.heap.objs.size []:=Heap.DictOf.new s.heap;have f:(s.heap.push { cls:=.type "dict",data:=.dict #[] }).get? t=some o:=c7 _ ho;have N:Shared.TypeIs { s with heap:=s.heap.push { cls:=.type "dict",data:=.dict #[] } } (.ref t) "list":=⟨o,f,D⟩;have h:t<s.heap.objs.size:=j9 ho;refine⟨a.typeIs,F.args_dict_init_2 _ _,?_⟩;unfold Builtin.«dict.__init__»;refine b7 ?_;unfold Builtin.Dict.selfAndRest;refine b7 (wpAny_notOrdered_dict a.typeIs ?_);show wpAny _ _ (pure (s.heap.objs.size,[Value.ref t])) _ _ _;refine d7 ?_;show wpAny _ _ (Builtin.Dict.updateFrom "dict.__init__" s.heap.objs.size (.ref t) [] .none) _ _ _;unfold Builtin.Dict.updateFrom;refine b7 (bEU N ?_);rw[if_pos (by decide)];refine b7 (aIu f D G H (by first|exact r|simp[r]) λm M c=>?_);rw[if_pos (show (none:Option Value).isNone=true from rfl)];have u:m.get? t=some o:=c _ _ f;have k:m.IsList t its:=⟨o,u,D,n,G⟩;refine b7 (bDU (b7 (bCO k ?_)));have O:(s.heap.push { cls:=.type "dict",data:=.dict #[] }).objs.size=s.heap.objs.size+1:=bBL ..;have d:s.heap.objs.size<m.objs.size:=by obtain⟨V,_,_,J,_⟩:=id a;exact j9 (c _ _ J)
 refine d7 ⟨bCT cU _,?_⟩;have z:t≠m.objs.size:=v8 (bEV h d);refine aAn (knd:=knd) (Walks.list (by first|exact r|simp[r]) _ t z its) s.heap.objs.size ?_ B l X ?_ its.size 0 _ _ (by lia) ⟨⟨_,j8 _ rfl,rfl,rfl⟩,k.push _⟩ ?_ ?_ λh' tk I x=>?_
 ·simp only[bAN,bAB,or_false,not_or];exact⟨v8 d,bCM h⟩
 ·intro j v e p P;have T:j<B.length:=by rw[l];exact (Array.getElem?_eq_some_iff.mp e).1
  obtain⟨U,L,i,⟨W,y,_⟩,_⟩:=S j v _ e (b8 T);rw[P] at i;cases i;have:=j9 y;simp only[bAN,bAB,or_false,not_or];exact⟨v8 this,v8 (bEV this d)⟩
 ·exact (a.at λo e=>c _ _ e).at λo e=>c7 _ e
 ·intro j v kv e K;exact (S j v kv e K).at λp _ o R=>c7 _ (c _ _ (c7 _ R))
 ·refine⟨rfl,q h' tk x λb o e=>I b o ?_ (c7 _ (c _ _ (c7 _ e)))⟩;have:=j9 e;simp only[bAN,bAB,or_false,not_or];exact⟨v8 this,v8 (bEV this d)⟩
end
end PySem
namespace L2
open PySem PySem.Spec PyProof.Rows
section
variable {X:Cx}
def bBc (K:bF4):List V->Hp->VK->Prop:=λxs H Q=>∃t us kvs,xs=[.ref t]/\H t=some (.lst us)/\aSh K H us kvs/\us.length<=1000/\∀p H',H p=none->Same H H'->H' p=some (.dK (mC [] kvs))->Q (.ref p) H'
def aNk (J:X.calm=true):cH X (.type "dict") (bBc X.K):=by intro l s σ H C g Q I r h;obtain⟨t,g,a,rfl,z,B,G,q⟩:=h;obtain⟨u,rfl,x⟩:=vals1 r;cases x;obtain⟨D,i,n,d,A⟩:=I.hok t _ z;have F:=d.length;obtain⟨L,b,k,w⟩:=bBb I B d;have E:=KV.length b;refine yG (I.ok.hd J) A rfl rfl rfl (by rw[d9];exact k) (by rw[d9];lia) (λj v f e p=>w j v f (by simpa using e) p) λM m hd o=>?_;have c:=I.hok.fresh (d8 _);refine⟨.ref s.heap.objs.size,_,I.laid (t':=m) o (d8 _) ?_,rfl,q _ _ c (aW c _) aF⟩;have y:=lV a [];simp only[bBS] at y;exact⟨small (by lia),beq_eq_false_iff_ne.mpr (Ne.symm (v8 I.big)),_,KV.merge b .nil,hd⟩
end
end L2
namespace My
open PySem PySem.Spec PyProof.Rows L2
section
variable {P:Program}{w:World}{K:bF4}{mg:bF7}{base:Heap}
def aZh (k:Str):Bool:=decide (k = "number")
def knds (hd:Hdr):List Bool:=hd.map λc=>aZh c.2
def aKz (h:X.K=K:=by rfl):cH X (.builtin "sorted") (aMq K):=by subst h;exact dU
def aLg (h:X.K=K:=by rfl):cH X (.type "list") (aT2 K):=by subst h;exact nA
theorem none_of (e:Same H H')(h:H' D=none):H D=none:=by
 cases g:H D with
 |none=>rfl
 |some o=>rw[e _ _ g] at h;cases h
def But (d:Addr)(H H':Hp):Prop:=∀b o,b≠d->H b=some o->H' b=some o
section
variable {K:bF4}{H H':Hp}{d:Addr}{kvs:List (Key × V)}
def eU (H:Hp)(d:Addr):Prop:=(∀xs,H d≠some (.tup xs))/\(∀ob xs,H d≠some (.frz ob (.tup xs)))/\∀xs,H d≠some (.lst xs)
theorem eU.dK (h:H d=some (.dK kvs)):eU H d:=⟨λ_ z=>(by rw[h] at z;cases z),λ_ _ z=>(by rw[h] at z;cases z),λ_ z=>(by rw[h] at z;cases z)⟩
def eU.fz (h:H d=some (.frz o (.dK kvs))):eU H d:=⟨λ_ z=>(by rw[h] at z;cases z),λ_ _ z=>(by rw[h] at z;cases z),λ_ z=>(by rw[h] at z;cases z)⟩
def But.aR (b:But d H H')(hd:eU H d)(h:SqT K H a xs):SqT K H' a xs:=by
 rcases h with (h|⟨o,h⟩)|h
 ·exact .inl (.inl (b _ _ (λz=>hd.1 _ (z ▸ h)) h))
 ·exact .inl (.inr ⟨o,b _ _ (λz=>hd.2.1 _ _ (z ▸ h)) h⟩)
 ·exact .inr h
theorem But.lst (b:But d H H')(hd:eU H d)(h:H a=some (.lst xs)):H' a=some (.lst xs):=b _ _ (λz=>hd.2.2 _ (z ▸ h)) h
def But.hdr (b:But d H H')(hd:eU H d)(h:jG K H v hr):jG K H' v hr:=by obtain⟨a,c,rfl,i,g⟩:=h;exact⟨a,c,rfl,b.aR hd i,g.imp λ_ _ ⟨p,e,f⟩=>⟨p,e,b.aR hd f⟩⟩
theorem But.pl {v:V}{pl:Plc}(b:But d H H')(hd:eU H d)(h:oK K H v pl):oK K H' v pl:=by
 cases pl with
 |copies=>obtain⟨a,rfl,f⟩:=h;exact⟨a,rfl,b.aR hd f⟩
 |keys n=>obtain⟨a,rfl,f⟩:=h;exact⟨a,rfl,b.aR hd f⟩
 |spans n h0 cs=>obtain⟨a,l,rfl,f,⟨c,i,rfl,g,k⟩⟩:=h;exact⟨a,_,rfl,b.aR hd f,c,i,rfl,b.aR hd g,k.imp λ_ _ ⟨p,e,j⟩=>⟨p,e,b.aR hd j⟩⟩
def But.rows (b:But d H H')(hd:eU H d)(h:bU K H L rs):bU K H' L rs:=by obtain⟨c,a,g⟩:=h;exact⟨c,b.lst hd a,g.imp λ_ _ ⟨p,e,f⟩=>⟨p,e,b.aR hd f⟩⟩
def But.tb (b:But d H H')(hd:eU H d)(h:lB K H v vh vp L t):lB K H' v vh vp L t:=by obtain⟨a,rfl,f,c,g,e⟩:=h;exact⟨a,rfl,b.aR hd f,b.hdr hd c,b.pl hd g,b.rows hd e⟩
theorem But.upd:But d H (L2.upd H d u):=λb o a h=>by rw[aK a];exact h
def But.same (b:But d H H')(s:Same H' H2):But d H H2:=λc o a h=>s _ _ (b c o a h)
def But.thaw (b:But d H H2)(hd:H d=some (.dK kvs)):Same H (L2.upd H2 d (.dK kvs)):=λc o h=>by
 by_cases e:c=d
 ·rw[e,aF,<-hd,<-e];exact h
 ·rw[aK e];exact b c o e h
end
structure En where
 n:Str
 v:V
 vh:V
 vp:V
 L:Addr
 t:Tb
def enK (es:List En):List (Key × V):=es.map λe=>(Sum.inr e.n,e.v)
structure lA (K:bF4)(H:Hp)(d:Addr)(es:List En):Prop where
 at_:H d=some (.dK (enK es))
 nd:(es.map (·.n)).Nodup
 few:es.length<=60
 nm:∀e∈es,Nm e.n
 tb:∀e∈es,lB K H e.v e.vh e.vp e.L e.t
theorem lB.same (s:Same H H')(h:lB K H v vh vp L t):lB K H' v vh vp L t:=by obtain⟨a,rfl,d,b,e,c⟩:=h;exact⟨a,rfl,s.aR d,b.same s,e.same s,c.same s⟩
theorem lA.same (s:Same H H')(h:lA K H d es):lA K H' d es:=⟨s _ _ h.at_,h.nd,h.few,h.nm,λe a=>(h.tb e a).same s⟩
def aTj {es:List En}{i:Nat}{kv:Key × V}(h:(enK es)[i]?=some kv):∃e,es[i]?=some e/\kv=(Sum.inr e.n,e.v):=by unfold enK at h;rw[v7] at h;obtain⟨e,a,rfl⟩:=Option.map_eq_some_iff.mp h;exact⟨e,a,rfl⟩
def aO8:∀kv∈enK es,∃n,kv.1=Sum.inr n:=λkv h=>by unfold enK at h;obtain⟨e,_,rfl⟩:=List.mem_map.mp h;exact⟨_,rfl⟩
def vB:(enK es).length=es.length:=j6 _
inductive aOl (K:bF4)(Pt:Addr)(vs:List V)(H:Hp)(Q:VK)(E_:XK):Prop
 |mk (d:Addr) (m:Int) (es:List En) (_:vs=[.int m,.ref d]) (_:1<=m) (_:m<=6) (_:lA K H d es) (_:(∀e∈es,iV m e.t)) (_:H Pt=some (.tab qC)) (_:∀H',Same H H'->Q .non H')
def aH5 (T:Txt w K mg){Pt:Addr}(dR:Ok P w K mg base 1 "is_whole" o4 (mG K))(iK:Ok P w K mg base 2 "is_name" o4 (aDw K nameB))(U:Ok P w K mg base 8 "is_table" bQK (aZj K Pt)):Ok P w K mg base 9 "need_town" u6 (aOl K Pt):=by
 refine Ok.ofV T.aKs wV (by trivial) (λf R A l s H vs Q E hr h=>?_)
 obtain⟨d,m,g,rfl,S,W,b,r,D,q⟩:=h;have nd:=wV.nd;refine⟨_,(aB (bM (VW.pt (fK (cF (bW (aV dR (va1 (vv 0))))) (fK (cF (aCs aCe aCe aA (vv 0) (tM (by rfl) T.aD1))) (dZ (cF (bW (aL aJ2 (by rfl) T.bR bN (aH (vv 1) (va1 (fG (v:=.ty "dict") (by rfl) T.aSe aOx rfl)))))))))) (aD dY) aU) (aD (aX1 (iQ PassesOwn.never rfl (aEm (vv 1)) (uJ rfl (aX (cR 2) (aX (cR 3) eQ))) (aD (bM (VW.pt (fK (cF (bW (aV iK (va1 (vv 2))))) (dZ (cF (bW (aV U (aH (vv 3) (va1 (vv 0))))))))) (aD dY) aU)))))),?_⟩;refine⟨_,rfl,_,rfl,.inr (.inl ⟨m,rfl⟩),_,rfl,bY ?_⟩;refine⟨_,rfl,_,_,rfl,rfl,_,rfl,?_⟩;rw[m9 S];refine eX ⟨_,_,rfl,rfl,_,rfl,?_⟩;rw[m9 W];refine bY ⟨_,rfl,d,_,rfl,b.at_,_,rfl,bY ?_⟩;refine⟨d,enK g,b.at_,λY=>⟨_,rfl,d,_,rfl,b.at_,aO8,Y,λo=>?_⟩⟩;have k:Pt≠d:=λz=>by rw[z,b.at_] at D;cases D
 have u:But d H (L2.upd H d (.frz o (.dK (enK g)))):=But.upd;have F:L2.upd H d (.frz o (.dK (enK g))) d=some (.frz o (.dK (enK g))):=aF;generalize L2.upd H d (.frz o (.dK (enK g)))=B at u F ⊢;refine aNy (λi σ c=>Same B c/\∃x C,σ=[some (.int m),some (.ref d),x,C]) ⟨Same.refl B,_,_,rfl⟩ (λi σ c _ p=>p.1 _ _ F) (λi Z y σ c O p V=>?_) fun σ c p=>?_
 ·obtain⟨e,x,C,rfl⟩:=p;obtain⟨a,M,rfl⟩:=aTj O;have j:=t8 M;have J:Same c (L2.upd c y (.tup [kV (Sum.inr a.n),a.v])):=aW V _;have X:But d H (L2.upd c y (.tup [kV (Sum.inr a.n),a.v])):=(u.same e).same J;refine⟨y,_,rfl,SqT.of aF,rfl,_,_,rfl,_,_,rfl,rfl,?_⟩;refine⟨_,rfl,_,rfl,(b.nm a j).th,λH2 G=>⟨_,rfl,?_⟩⟩;rw[show nameB (kV (Sum.inr a.n,a.v).fst)=true from b.nm a j];refine bY ?_;have I:=X.same G;refine⟨_,rfl,_,rfl,a.v,a.vh,a.vp,a.L,m,a.t,rfl,I.tb (eU.dK b.at_) (b.tb a j),r a j,I _ _ k D,λH3 N=>⟨_,rfl,bY ?_⟩⟩;exact⟨e.trans (J.trans (G.trans N)),_,_,rfl⟩
 ·obtain⟨e,x,C,rfl⟩:=p;exact⟨⟨o,e _ _ F⟩,q _ ((u.same e).thaw b.at_)⟩
def aCg (e:En)(v:V)(L:Addr):En:={ e with v:=v,L:=L,t:={ e.t with rows:=srt e.t.rows } }
inductive xU (K:bF4)(Pt:Addr)(vs:List V)(H:Hp)(Q:VK)(E_:XK):Prop
 |mk (d:Addr) (m:Int) (es:List En) (_:vs=[.int m,.ref d]) (_:1<=m) (_:m<=6) (_:lA K H d es) (_:(∀e∈es,iV m e.t)) (_:H Pt=some (.tab qC)) (_:∀d' H' es',H d'=none->Same H H'->lA K H' d' es'->cG (λe e'=>∃v L,e'=aCg e v L/\H L=none) es es'->Q (.ref d') H')
theorem bD1 (h:cD kd v):KdV (aZh kd) v:=by
 cases h with
 |num=>exact⟨_,rfl⟩
 |wrd _ _=>exact⟨_,rfl⟩
theorem fM (h:gC hd r):KdR (knds hd) r:=by
 unfold gC at h;unfold KdR knds
 induction h with
 |nil=>exact .nil
 |cons a _ ih=>exact .cons (bD1 a) ih
def jP (h:Good hd):knds hd≠[]:=λz=>by have e:=congrArg List.length z;unfold knds at e;rw[j6] at e;have:=h.2.1;rw[e] at this;exact absurd this (by decide)
theorem cP {α β:Type}{R:α->β->Prop}{as:List α}{bs:List β}(h:cG R as bs):Al2 R as bs:=by
 induction h with
 |nil=>exact .nil
 |cons r _ ih=>exact .cons r ih
theorem gO {α β:Type}{R:α->β->Prop}{as:List α}{bs:List β}(h:Al2 R as bs):cG R as bs:=by
 induction h with
 |nil=>exact .nil
 |cons r _ ih=>exact .cons r ih
def PlR (K:bF4)(H0:Hp)(es:List En)(D:Addr)(i:Nat)(H:Hp)(y:V):Prop:=∃e v L tp,es[i]?=some e/\y=.ref tp/\SqT K H tp [.str e.n,v]/\lB K H v e.vh e.vp L { e.t with rows:=srt e.t.rows }/\L≠D/\H0 L=none
theorem lB.jA (f:H D=some (.lst ys))(q:L≠D)(h:lB K H v vh vp L t):lB K (L2.upd H D (.lst zs)) v vh vp L t:=by
 obtain⟨a,rfl,w,⟨b,l,rfl,x,m⟩,i,⟨u,o,s⟩⟩:=h;refine⟨a,rfl,SqT.jA f w,⟨b,l,rfl,SqT.jA f x,m.imp λ_ _ ⟨p,e,k⟩=>⟨p,e,SqT.jA f k⟩⟩,?_,⟨u,by rw[aK q];exact o,s.imp λ_ _ ⟨p,e,k⟩=>⟨p,e,SqT.jA f k⟩⟩⟩;cases g:t.pl with
 |copies=>rw[g] at i;obtain⟨j,rfl,d⟩:=i;exact⟨j,rfl,SqT.jA f d⟩
 |keys n=>rw[g] at i;obtain⟨j,rfl,d⟩:=i;exact⟨j,rfl,SqT.jA f d⟩
 |spans n h0 cs=>rw[g] at i;obtain⟨j,y,rfl,d,⟨c,l,rfl,r,m⟩⟩:=i;exact⟨j,_,rfl,SqT.jA f d,c,l,rfl,SqT.jA f r,m.imp λ_ _ ⟨p,e,k⟩=>⟨p,e,SqT.jA f k⟩⟩
theorem aP1:∀{es:List En} {ys:List V},ys.length=es.length->(∀i y,ys[i]?=some y->PlR K H0 es D i H y) ->
  ∃es',cG (λe e'=>∃v L,e'=aCg e v L/\H0 L=none) es es'/\cG (λy e'=>∃tp,y=.ref tp/\SqT K H tp [.str e'.n,e'.v]) ys es'/\∀e'∈es',lB K H e'.v e'.vh e'.vp e'.L e'.t
 |[],[],_,_=>⟨[],.nil,.nil,λe h=>by cases h⟩
 |en::es,y::ys,hl,h=>by
  obtain⟨es',c,j,g⟩:=aP1 (Nat.succ.inj hl) λi y b=>by obtain⟨e,v,L,tp,a,r⟩:=h (i+1) y (by simpa using b);exact⟨e,v,L,tp,by simpa using a,r⟩
  obtain⟨e,v,L,tp,a,rfl,f,k,_,d⟩:=h 0 y rfl;cases a;refine⟨aCg en v L::es',.cons ⟨v,L,rfl,d⟩ c,.cons ⟨tp,rfl,f⟩ j,λe' h'=>?_⟩;rcases List.mem_cons.mp h' with rfl|h'
  ·exact k
  ·exact g e' h'
theorem bB2 (h:cG (λy (e':En)=>∃tp,y=.ref tp/\SqT K H tp [.str e'.n,e'.v]) ys es'):aSh K H ys (enK es'):=by
 unfold enK
 induction h with
 |nil=>exact .nil
 |cons r _ ih=>exact .cons r ih
theorem aJ1 {H0:Hp}{es es':List En}(h:cG (λe e'=>∃v L,e'=aCg e v L/\H0 L=none) es es'):es'.map (·.n)=es.map (·.n):=by
 induction h with
 |nil=>rfl
 |cons r _ ih=>obtain⟨v,L,rfl,_⟩:=r;rw[bAL,bAL,ih];rfl
def yZ (T:Txt w K mg){Pt:Addr}(ad:Ok P w K mg base 9 "need_town" u6 (aOl K Pt)):Ok P w K mg base 10 "placed_tables" u6 (xU K Pt):=by
 refine Ok.ofV T.aAh xW (by trivial) (λf ac A a8 s H vs Q E hr h=>?_)
 obtain⟨d,m,c,rfl,m1,m6,J,Y,hP,q⟩:=h;refine⟨_,(aB (dJ (aV ad (aH (vv 0) (va1 (vv 1))))) (aD (aJ (cC (aNk rfl) (by rfl) T.aSe aOx (va1 (aYs (cI (N:=["name","table"]) (by trivial) (kE (by decide +kernel)) rfl (aEm (vv 1)) (λcl s' u fp=>⟨(rK (K:=K) (n:=2) rfl (aX (bJ (i:=0) (show (["name","table"]:List Str).Nodup from by decide +kernel) rfl (Or.inl rfl)) (aX (bJ (i:=1) (show (["name","table"]:List Str).Nodup from by decide +kernel) rfl (Or.inl rfl)) eQ))),fW,(cN (aH (vv 0) (va1 (cN (aH (aO (bK (K:=K)) (vv 1) aA) (aH (aO (bK (K:=K)) (vv 1) aA) (va1 (aL (aKz (K:=K)) (by rfl) T.dX dB (va1 (aO (bK (K:=K)) (vv 1) aA))))))))))⟩)))))))),?_⟩;refine⟨_,rfl,_,rfl,d,m,c,rfl,m1,m6,J,Y,hP,λC V=>?_⟩;have g:=J.same V;dsimp only[rA,tCB,dI];refine⟨d,enK c,g.at_,λnf=>aTk [none,none] rD ⟨_,rfl,d,_,rfl,g.at_,aO8,nf,λo=>?_⟩⟩;have b0:But d C (L2.upd C d (.frz o (.dK (enK c)))):=But.upd;have g0:L2.upd C d (.frz o (.dK (enK c))) d=some (.frz o (.dK (enK c))):=aF;have n0:∀b,L2.upd C d (.frz o (.dK (enK c))) b=none->C b=none:=λb h=>by
  by_cases e:b=d
  ·rw[e,aF] at h;cases h
  ·rw[aK e] at h;exact h
 generalize L2.upd C d (.frz o (.dK (enK c)))=B at b0 g0 n0 ⊢;refine aJl g0 ⟨none,none,rfl⟩ (by rw[vB];have:=J.few;lia) (PlR K H c) ?_ ?_ (λi kv ek u R D ys I hD O r=>?_) λD u ys I hD O ly hy=>?_
 ·rintro D i H2 H3 y X ⟨e,v,L,l,M,rfl,W,hb,hne⟩;exact⟨e,v,L,l,M,rfl,X.aR W,hb.same X,hne⟩
 ·rintro D i H2 ys zs y O ⟨e,v,L,l,M,rfl,W,hb,hne,h0⟩;exact⟨e,v,L,l,M,rfl,SqT.jA O W,hb.jA O hne,hne,h0⟩
 ·obtain⟨S,M,rfl⟩:=aTj ek;have hm:=t8 M;have j:=Y S hm;obtain⟨a,ev,ha,h1,h2,⟨us,h3,h4⟩⟩:=(b0.same I).tb (eU.dK g.at_) (g.tb S hm);have lu:=h4.len;have ab:=j.few;refine⟨_,rfl,_,rfl,a,_,0,_,ev,rfl,ha,at0 _ _,_,rfl,a,_,1,_,ev,rfl,ha,at1 _ _ _,_,rfl,a,_,2,_,ev,rfl,ha,at2 _ _ _ _,S.L,us,S.t.rows,knds S.t.hd,rfl,SqL.of h3,cP h4,by lia,jP j.hd.1,λr a6=>fM (j.rows r a6),λL' H2 a7 U X g2 h5=>?_⟩;refine⟨by show 3<=sizeLine;decide,λt1 H3 _ s3 g3=>⟨by show 2<=sizeLine;decide,λt2 H4 _ s4 g4=>r _ H4 (X.trans (s3.trans s4)) ?_⟩⟩;have F:=X.trans (s3.trans s4);refine⟨S,.ref t1,L',t2,M,rfl,SqT.of g4,⟨t1,rfl,s4.aR (SqT.of g3),h1.same F,h2.same F,⟨a7,(s3.trans s4) _ _ g2,(gO h5).imp λ_ _ z=>z.same F⟩⟩,λz=>?_,none_of V (n0 _ (none_of I U))⟩;rw[z,O] at U;cases U
 ·rw[vB] at ly;obtain⟨k,a1,a2,a3⟩:=aP1 ly hy;have bD:=b0.same I;refine⟨⟨o,I _ _ g0⟩,?_⟩;have nz:eU u d:=eU.fz (I _ _ g0);have bz:But d u (L2.upd u d (.dK (enK c))):=But.upd;have G:Same C (L2.upd u d (.dK (enK c))):=bD.thaw g.at_;have Z:=bz.lst nz O;have a4:cG (λy (x:En)=>∃l,y=.ref l/\SqT K (L2.upd u d (.dK (enK c))) l [.str x.n,x.v]) ys k:=a2.imp λy x ⟨l,ey,W⟩=>⟨l,ey,bz.aR nz W⟩;have aa:H D=none:=none_of V (n0 _ hD);generalize L2.upd u d (.dK (enK c))=H5 at bz G Z a4;have le:=a2.len;have la:=a1.len;have fw:=J.few;refine⟨D,ys,enK k,rfl,Z,bB2 a4,by lia,λp H6 U s6 g6=>?_⟩;have a0:(k.map (·.n)).Nodup:=by rw[aJ1 a1];exact J.nd
  have a5:((enK k).map (·.1)).Nodup:=by unfold enK;rw[bDY];exact List.pairwise_map.mpr ((List.pairwise_map.mp a0).imp λ{a b} a9 z=>a9 (Sum.inr.inj z))
  rw[aC9 _ [] (by rw[bEJ];exact a5),bEJ] at g6;refine q p H6 k (none_of V (none_of G U)) (V.trans (G.trans s6)) ⟨g6,a0,by lia,λx h'=>?_,λx h'=>(bz.tb nz (a3 x h')).same s6⟩ a1;have:x.n∈c.map (·.n):=by rw[<-aJ1 a1];exact bDC h'
  obtain⟨e0,h0,e1⟩:=List.mem_map.mp this;rw[<-e1];exact J.nm e0 h0
end
end My
namespace L2
open PySem PySem.Spec PyProof.Rows
section
variable {X:Cx}{scope:Scope}{N:List Str}{wi:TI}{te:TE}{σ:L2.St}{H:Hp}{Q:VK}
def aBo (xs:List V)(p:Nat->Bool)(g:L2.St)(hsz:xs.length<=sizeLine)(B:∀H' i x,Same H H'->xs[i]?=some x->J.go i H'/\∀y H2,J.yld i H' y H2->H2=H'/\y=x)(n:∀H',Same H H'->J.stop xs.length H')
  (w:∀(i:Nat) (x:V),xs[i]?=some x->∀H' R l,Same H H'->(∀H2,Same H' H2->R (p i) H2)->tt ((g.set 0 l).set 0 (some x)) H' R) (k:g[0]?=some none)
  (q:∀D H',H D=none->Same H H'->H' D=some (.lst (sel p 0 xs))->Q (.ref D) H'):pH J H g (bO 0) tt (rP 0) Q:=by
 intro D f;refine⟨λi m h H' d=>i<=xs.length/\m=xs.length - i/\(∃l,h=g.set 0 l)/\Same H H'/\H' D=some (.lst d)/\d=sel p 0 (xs.take i),⟨xs.length,bAC _,rfl,⟨none,jQ k⟩,aW f _,aF,rfl⟩,?_⟩;rintro i m h H' d ⟨hi,rfl,⟨l,rfl⟩,sm,hL,rfl⟩;refine⟨hL,?_⟩;by_cases a:i<xs.length
 ·right;obtain⟨u,t⟩:=B H' i xs[i] sm (b8 a);refine⟨u,λx H2 s=>?_⟩;obtain⟨rfl,rfl⟩:=t x H2 s;unfold bO;dsimp only;have v:0<g.length:=by
   by_cases z:0<g.length
   ·exact z
   ·rw[bAA (by lia)] at k;cases k
  have j:sel p 0 (xs.take (i+1))=sel p 0 (xs.take i)++(if p i then [xs[i]] else []):=by rw[bBP,b8 a];show sel p 0 (xs.take i++[xs[i]])=_;rw[aBi,bAI,bDN,Nat.min_eq_left (bDI a)]
  refine w i xs[i] (b8 a) _ _ l sm λA c=>?_;cases r:p i with
  |true=>
   rw[if_pos rfl];refine⟨xs[i],by rw[bCD,bES v],c _ _ hL,?_,xs.length - (i+1),by lia,a,rfl,⟨some xs[i],by rw[bCD]⟩,?_,aF,?_⟩
   ·have:=aFz p 0 (xs.take i);rw[bAI] at this;lia
   ·intro b o e;rw[aK (aQ e f)];exact c _ _ (sm _ _ e)
   ·rw[j,r];rfl
  |false=>rw[if_neg (by simp)];refine⟨c _ _ hL,xs.length - (i+1),by lia,a,rfl,⟨some xs[i],by rw[bCD]⟩,sm.trans c,c _ _ hL,?_⟩;rw[j,r];simp
 ·left;have e:i=xs.length:=by lia
  subst e;refine⟨n _ sm,?_⟩;rw[bCW] at hL;exact q D _ f sm hL
def aFa (xs:List V)(p:Nat->Bool)(a:L2.St)(b:Cap X scope N σ a)(c:xs.length<=sizeLine)
  (f:∀R:It->Hp->Prop,(∀J:It,(∀H' i x,Same H H'->xs[i]?=some x->J.go i H'/\∀y H2,J.yld i H' y H2->H2=H'/\y=x)->(∀H',Same H H'->J.stop xs.length H')->R J H)->wi σ H R)
  (d:∀(i:Nat) (x:V),xs[i]?=some x->∀H' R l,Same H H'->(∀H2,Same H' H2->R (p i) H2)->tt ((a.set 0 l).set 0 (some x)) H' R) (e:a[0]?=some none)
  (q:∀D H',H D=none->Same H H'->H' D=some (.lst (sel p 0 xs))->Q (.ref D) H') :
  jD X scope N wi (bO 0) tt (rP 0) σ H Q:=
 ⟨a,b,f _ λJ go stop=>aBo xs p a c go stop d e q⟩
end
end L2
namespace My
open PySem PySem.Spec PyProof.Rows L2
section
variable {P:Program}{w:World}{K:bF4}{mg:bF7}{base:Heap}
section
variable {X:Cx}
def bCe:R2:=λx y H Q=>(∃a b,x=.int a/\y=.int b/\Q (.bl (!decide (b<a))) H)\/∃a b:Str,x=.str a/\y=.str b/\Q (.bl (!decide (b.cps.toList<a.cps.toList))) H
theorem aVe:OpR X (compareOp .LtE) bCe:=by
 intro e s σ H x y v u Q I c d h;rcases h with⟨a,b,rfl,rfl,q⟩|⟨a,b,rfl,rfl,q⟩
 ·obtain⟨t,rfl⟩:=c;obtain⟨f,rfl⟩:=d;refine PyProof.Rows.le_int ?_;rw[show decide (a<=b)=!decide (b<a) by by_cases h:b<a <;> simp[h] <;> lia];exact⟨.bl _,H,I,rfl,q⟩
 ·obtain⟨t,rfl⟩:=c;obtain⟨f,rfl⟩:=d;exact P.le_str ⟨.bl _,H,I,rfl,q⟩
end
def aRk (d:Gl X "range")(g:X.mg "range"=none)(f:VA X [a,b] t)(e:cM a=true:=by rfl)(c:cM b=true:=by rfl):VI X tg (.Call (.Name "range" p) [a,b] [] pos) (aZi t):=⟨aQz d g f.1 (by rw[aM e,aM c];rfl) (by rw[aM c];rfl)⟩
inductive nU (K:bF4)(vs:List V)(H:Hp)(Q:VK)(E_:XK):Prop
 |mk (d:Addr) (es:List En) (e:En) (_:vs=[.ref d,.str e.n]) (_:lA K H d es) (_:e∈es) (_:∀H',Same H H'->Q e.v H')
theorem aGk:∀{es:List En} {e:En},(es.map (·.n)).Nodup->e∈es->nC (enK es) (Sum.inr e.n)=some e.v
 |[],e,nd,h=>by cases h
 |a::es,e,nd,h=>by
  rw[bAL,bFN] at nd;rcases List.mem_cons.mp h with rfl|h
  ·exact mV rfl
  ·have:a.n≠e.n:=λz=>nd.1 (z ▸ bDC h);show nC ((Sum.inr a.n,a.v)::enK es) (Sum.inr e.n)=_;rw[vI (λz=>this (Sum.inr.inj z))];exact aGk nd.2 h
def aI5 (T:Txt w K mg)(o:Ok P w K mg base 2 "is_name" o4 (aDw K nameB)):Ok P w K mg base 3 "table_in" o5 (nU K):=by
 refine Ok.ofV T.aMi aI6 (by trivial) (λf l A c s H r Q E m h=>?_)
 obtain⟨d,p,e,rfl,a,b,q⟩:=h;have j:=pB m;refine⟨_,(aB (bM (VW.pt (fK (cF (bW (aV o (va1 (vv 1))))) (dZ (aEy j (vv 1) (vv 0))))) (aD dY) aU) (aD (aJ (aAv j (vv 0) (vv 1) (λ_ _=>rfl))))),?_⟩;refine⟨_,rfl,_,rfl,(a.nm e b).th,λk g=>⟨_,rfl,?_⟩⟩;rw[show nameB (.str e.n)=true from a.nm e b];refine bY ?_;have i:=aGk a.nd b;refine⟨_,rfl,_,rfl,d,_,rfl,.inl ⟨_,Sum.inr e.n,.inl (g _ _ a.at_),rfl,rfl⟩,_,rfl,?_⟩;rw[i];refine bY ?_;exact⟨_,rfl,_,rfl,d,e.v,rfl,.inl ⟨_,Sum.inr e.n,.inl (g _ _ a.at_),rfl,i.symm⟩,q k g⟩
theorem bAt (d:cD kd a)(c:cD kd b)(q:Q (.bl (!vlt b a)) H):bCe a b H Q:=by
 cases d with
 |num=>cases c;exact .inl ⟨_,_,rfl,rfl,q⟩
 |wrd _ _=>cases c;exact .inr ⟨_,_,rfl,rfl,q⟩
def iD (v:V):List (V × Int)->Nat->Nat->Nat
 |[],_,n=>n
 |c::t,p,n=>iD v t (p+1) (if vlt v c.1=true then n else p)
theorem zG (v:V):∀(l:List (V × Int)) (c:V × Int) (p n:Nat),iD v (l++[c]) p n=if vlt v c.1=true then iD v l p n else p+l.length
 |[],c,p,n=>by show (if _ then _ else _)=_;rfl
 |a::l,c,p,n=>by
  show iD v (l++[c]) (p+1) _=_;rw[zG v l c];show (if _ then iD v l (p+1) _ else p+1+l.length)=if _ then iD v l (p+1) _ else p+(l.length+1)
  rw[show p+1+l.length=p+(l.length+1) by lia]
theorem aO3 (v:V)(l:List (V × Int)):iD v l 1 0<=l.length:=by
 suffices ∀l p n,n<=p+l.length - 1\/n=0->iD v l p n<=p+l.length - 1\/iD v l p n=0 by rcases this l 1 0 (.inr rfl) with h|h <;> lia
 intro l
 induction l with
 |nil=>intro p n h;exact h
 |cons c t ih=>
  intro p n h;have:=ih (p+1) (if vlt v c.1=true then n else p) (by
   rw[m8] at h
   split
   ·rcases h with h|h
    ·left;lia
    ·right;exact h
   ·left;lia)
  rw[m8];rcases this with h|h
  ·left;show iD v t (p+1) _<=_;lia
  ·right;exact h
inductive aCx (K:bF4)(vs:List V)(H:Hp)(Q:VK)(E_:XK):Prop
 |mk (vc v:V) (kd:Str) (h0:Int) (cs:List (V × Int)) (_:vs=[vc,v]) (_:lU K H (fJ K H) vc ((.non,h0)::cs)) (_:cs.length<=7) (_:cD kd v) (_:(∀c∈cs,cD kd c.1)) (_:Q (.int (iD v cs 1 0:Nat)) H)
def aR2 (T:Txt w K mg):Ok P w K mg base 1 "cut_of" ["cuts","value"] (aCx K):=by
 refine Ok.ofV T.aVa aE9 (by trivial) (λf G A m s H V Q E M h=>?_)
 obtain⟨R,v,U,S,d,rfl,⟨a,b,rfl,B,C⟩,O,D,k,q⟩:=h;have L:=aE9.nd;refine⟨_,(aB (aY 2 aA) (aB (iQ PassesOwn.never rfl (aRk (by rfl) T.jO (aH aA (va1 (aL aZ (by rfl) T.eV cW (va1 (vv 0)))))) (cR 3) (aD (bM (cZ aVe (aO aP (aO aP (vv 0) (vv 3)) aA) (vv 1)) (aD (aY 2 (vv 3))) aU))) (aD (aJ (vv 2))))),?_⟩;have I:=C.len;rw[m8] at I;have J:b.length<=8:=by lia
 refine⟨_,rfl,_,_,rfl,.inr B,1,b.length,rfl,⟨by decide,by decide,by lia,by lia⟩,?_⟩;rw[show ((b.length:Int) - 1).toNat=d.length by lia];refine iT (λi σ r=>r=H/\∃l,σ=[some (.ref a),some v,some (.int (iD v (d.take i) 1 0:Nat)),l]) ⟨rfl,_,rfl⟩ (λi σ r N p=>?_) fun σ r p=>?_
 ·obtain⟨rfl,l,rfl⟩:=p;have g:i+1<b.length:=by lia
  obtain⟨c,u,z,n,x⟩:=cA C (b8 g);rw[List.getElem?_cons_succ] at u;have e:atI b (1+(i:Int))=some (.ref z):=by rw[show (1+(i:Int))=((i+1:Nat):Int) by lia,<-n];exact bH (b8 g)
  have t:=k c (t8 u);have F:d.take (i+1)=d.take i++[c]:=by rw[bBP,u];rfl
  have o:(d.take i).length=i:=by rw[bAI];lia
  refine⟨_,rfl,_,rfl,a,b,_,_,rfl,rfl,B,e,z,_,0,_,rfl,rfl,x,at0 _ _,_,rfl,bAt t D ⟨_,rfl,?_⟩⟩;have j:=zG v (d.take i) c 1 0;rw[<-F,o] at j;cases y:vlt v c.1 with
  |true=>rw[y,if_pos rfl] at j;exact bY ⟨rfl,some (.int (1+(i:Int))),by rw[j];rfl⟩
  |false=>rw[y,if_neg v5] at j;refine eX ⟨_,rfl,rfl,some (.int (1+(i:Int))),?_⟩;rw[j,show (((1+i:Nat)):Int)=1+(i:Int) by lia];rfl
 ·obtain⟨rfl,l,rfl⟩:=p;rw[bAW (d8 _)];exact⟨_,rfl,q⟩
def bZ (hd:Hdr)(m:Int)(r:List V)(house:Int):Plc->Bool
 |.copies=>true
 |.keys n=>decide (nm (r.getD (plc hd n) .non) % m=house)
 |.spans n h0 cs=>decide ((((.non,h0)::cs).map (·.2)).getD (iD (r.getD (plc hd n) .non) cs 1 0) 0=house)
inductive aE3 (K:bF4)(vs:List V)(H:Hp)(Q:VK)(E_:XK):Prop
 |mk (vh vp vr:V) (house m:Int) (hd:Hdr) (pl:Plc) (r:List V) (_:vs=[vh,vp,vr,.int house,.int m]) (_:jG K H vh hd) (_:aQf hd) (_:oK K H vp pl) (_:aW1 hd m pl) (_:cL K H vr r) (_:gC hd r) (_:0<m) (_:∀H',Same H H'->Q (.bl (bZ hd m r house pl)) H')
def aKw (h:gC hd r)(d:look hd n=some k):∃v,r[plc hd n]?=some v/\r.getD (plc hd n) .non=v/\cD k v:=by obtain⟨b,_⟩:=aG6 d;obtain⟨v,a,c⟩:=cA h b;exact⟨v,a,by rw[j4,a];rfl,c⟩
theorem aHf (T:Txt w K mg)(tX:Ok P w K mg base 2 "place_of" bQJ (mH K))(Z:Ok P w K mg base 2 "home" ["value","houses"] aP2)(a1:Ok P w K mg base 1 "cut_of" ["cuts","value"] (aCx K)):Ok P w K mg base 3 "stands_at" ["head","placing","row","house","houses"] (aE3 K):=by
 refine Ok.ofV T.aLh wH (by trivial) (λf a0 A D s H vs Q E hr h=>?_)
 obtain⟨X,vp,vr,b,m,hd,pl,r,rfl,S,G,l,i,⟨R,rfl,x⟩,p,Y,q⟩:=h;have l8:=G.1.2.2;have nd:=wH.nd;refine⟨_,(aB (bM (cZ dN (aO aP (vv 1) aA) bB) (aD (aJ fP)) aU) (aB (aY 5 (aO aP (vv 2) (aV tX (aH (vv 0) (va1 (aO aP (vv 1) aA)))))) (aB (bM (cZ dN (aO aP (vv 1) aA) bB) (aD (aJ (wR dN (aV Z (aH (vv 5) (va1 (vv 4)))) (vv 3)))) aU) (aB (aY 6 (aO aP (vv 1) aA)) (aD (aJ (wR dN (aO aP (aO aP (vv 6) (aV a1 (aH (vv 6) (va1 (vv 5))))) aA) (vv 3)))))))),?_⟩;cases pl with
 |copies=>obtain⟨a,rfl,g⟩:=l;exact⟨_,rfl,a,_,0,_,rfl,rfl,g,at0 _ _,rfl,_,rfl,eX (q H (Same.refl H))⟩
 |keys n=>
  obtain⟨a,rfl,g⟩:=l;obtain⟨hn,k,t⟩:=i;obtain⟨v,L,I,j⟩:=aKw p t;refine⟨_,rfl,a,_,0,_,rfl,rfl,g,at0 _ _,rfl,_,rfl,dH (by decide +kernel) ?_⟩;refine⟨_,rfl,_,rfl,_,rfl,a,_,1,_,rfl,rfl,g,at1 _ _ _,X,n,hd,k,rfl,S,by lia,t,λB d=>?_⟩;refine⟨R,r,_,v,rfl,rfl,d.aR x,bH L,?_⟩;refine⟨_,rfl,a,_,0,_,rfl,rfl,d.aR g,at0 _ _,rfl,_,rfl,iY (by decide +kernel) ?_⟩;refine⟨_,rfl,_,rfl,v,m,rfl,zF j,Y,_,rfl,rfl,?_⟩;have e:decide (V.int (nm v % m)=V.int b)=bZ hd m r b (.keys n):=by show _=decide (nm (r.getD (plc hd n) .non) % m=b);rw[I];exact decide_eq_decide.mpr ⟨λz=>V.int.inj z,λz=>congrArg V.int z⟩
  rw[e];exact q B d
 |spans n h0 cs=>
  obtain⟨a,vc,rfl,g,M⟩:=l;obtain⟨hn,k,t,a2,y⟩:=i;obtain⟨v,L,I,j⟩:=aKw p t;refine⟨_,rfl,a,_,0,_,rfl,rfl,g,at0 _ _,rfl,_,rfl,dH (by decide +kernel) ?_⟩;refine⟨_,rfl,_,rfl,_,rfl,a,_,1,_,rfl,rfl,g,at1 _ _ _,X,n,hd,k,rfl,S,by lia,t,λB d=>?_⟩;refine⟨R,r,_,v,rfl,rfl,d.aR x,bH L,?_⟩;refine⟨_,rfl,a,_,0,_,rfl,rfl,d.aR g,at0 _ _,rfl,_,rfl,dH (by decide +kernel) ?_⟩;refine⟨_,rfl,a,_,2,_,rfl,rfl,d.aR g,at2 _ _ _ _,?_⟩;have u:=lU.same d (λ_ _ z=>z.same d) M;obtain⟨U,C,ec,J,o⟩:=id u;subst ec;have lu:=o.len;rw[m8] at lu;have a3:=aO3 v cs;obtain⟨c,O,W,F,N⟩:=cA o (b8 (show iD v cs 1 0<C.length by lia));refine⟨_,rfl,_,rfl,_,rfl,.ref U,v,k,h0,cs,rfl,u,y.few,j,λc M=>(y.each c M).1,U,C,_,.ref W,rfl,rfl,J,bH (by rw[b8 (show iD v cs 1 0<C.length by lia),F]),W,_,1,_,rfl,rfl,N,at1 _ _ _,_,rfl,rfl,?_⟩;have e:decide (V.int c.2=V.int b)=bZ hd m r b (.spans n h0 cs):=by show _=decide ((((.non,h0)::cs).map (·.2)).getD (iD (r.getD (plc hd n) .non) cs 1 0) 0=b);rw[I,j4,v7,O];exact decide_eq_decide.mpr ⟨λz=>V.int.inj z,λz=>congrArg V.int z⟩
  rw[e];exact q B d
theorem jV {α:Type}{p:Nat->Bool}{p':α->Bool}:∀{k:Nat} {xs:List α},(∀(i:Nat) (x:α),xs[i]?=some x->p (k+i)=p' x)->sel p k xs=xs.filter p'
 |_,[],_=>rfl
 |k,x::r,h=>by have a:=h 0 x rfl;rw[Nat.add_zero] at a;show (if p k then x::sel p (k+1) r else sel p (k+1) r)=_;rw[bDG,a,jV (k:=k+1) (xs:=r) λi y e=>by rw[show k+1+i=k+(i+1) by lia];exact h (i+1) y (by simpa using e)]
theorem aB8 {α β:Type}{R:α->β->Prop}{p:Nat->Bool}{as:List α}{c:List β}(h:cG R as c):∀k,cG R (sel p k as) (sel p k c):=by
 induction h with
 |nil=>exact λ_=>.nil
 |@cons a b as c r _ ih=>
  intro k;show cG R (if p k then a::sel p (k+1) as else sel p (k+1) as) (if p k then b::sel p (k+1) c else sel p (k+1) c)
  split
  ·exact .cons r (ih _)
  ·exact ih _
def aAz (i j k:Nat)(o:(y,NameKind.free)∈scope.names)(p:(z,NameKind.free)∈scope.names)(e:(y3,NameKind.free)∈scope.names)(hi:X.N[i]?=some y)(s:X.N[j]?=some z)(h:X.N[k]?=some y3)(f:σ[i]?=some (some u))(m:σ[j]?=some (some v))(d:σ[k]?=some (some u3))(l:Vis X.env.scope y)(g:Vis X.env.scope z)(c:Vis X.env.scope y3):Cap X scope [x,y,z,y3] σ [none,some u,some v,some u3]:=
 ⟨rfl,λn q r a b=>by
  match n,a,b with
  |0,_,b=>cases b
  |1,a,b=>cases a;cases b;exact⟨o,i,hi,f,l⟩
  |2,a,b=>cases a;cases b;exact⟨p,j,s,m,g⟩
  |3,a,b=>cases a;cases b;exact⟨e,k,h,d,c⟩
  |n+4,a,_=>cases a⟩
inductive yW (K:bF4)(vs:List V)(H:Hp)(Q:VK)(E_:XK):Prop
 |mk (v vh vp:V) (L:Addr) (t:Tb) (house m:Int) (_:vs=[v,.int house,.int m]) (_:lB K H v vh vp L t) (_:iV m t) (_:0<=house) (_:house<m) (_:∀D' H',H D'=none->Same H H'->bU K H' D' (t.rows.filter λr=>bZ t.hd m r house t.pl)->Q (.ref D') H')
def aL1 (T:Txt w K mg)(cQ:Ok P w K mg base 2 "is_number_below" ["thing","many"] uU)(a0:Ok P w K mg base 3 "stands_at" ["head","placing","row","house","houses"] (aE3 K)):Ok P w K mg base 4 "rows_at" bQH (yW K):=by
 refine Ok.ofV T.aQr aMu (by trivial) (λf U A n s H vs Q E hr h=>?_)
 obtain⟨v,vh,Y,L,t,b,m,rfl,V,d,Z,S,q⟩:=h;refine⟨_,(aB (bM (cF (bW (aV cQ (aH (vv 1) (va1 (vv 2)))))) (aD dY) aU) (aD (aJ (cI (N:=["row","house","houses","table"]) (by trivial) (eE (aC yV) rfl (by decide +kernel)) rfl (eO (aO (bK (K:=K)) (vv 0) aA)) (λcl s' g fp=>⟨(bJ (i:=0) (show (["row","house","houses","table"]:List Str).Nodup from by decide +kernel) rfl (Or.inl rfl)),(lM (bW (aV a0 (aH (aO (bK (K:=K)) (vv 3) aA) (aH (aO (bK (K:=K)) (vv 3) aA) (aH (vv 0) (aH (vv 1) (va1 (vv 2))))))))),(vv 0)⟩))))),?_⟩;refine⟨_,rfl,_,rfl,b,m,rfl,_,rfl,?_⟩;rw[m9 Z,m9 S];refine bY ?_;obtain⟨a,rfl,y,hI,x,⟨D,O,z⟩⟩:=V;have lu:=z.len;have fw:=d.few;have F:0<m:=by lia
 refine aFa D (λi=>bZ t.hd m (t.rows.getD i []) b t.pl) [none,some (.int b),some (.int m),some (.ref a)] ?_ (small (by lia)) (λR r=>aP7 (λg c=>SqL.of (c _ _ O)) (λR' J=>⟨_,rfl,a,_,2,_,rfl,rfl,y,at2 _ _ _ _,J⟩) R r) (λi u W g R l c B=>?_) rfl λI g M c p=>?_
 ·exact aAz 1 2 0 (by decide +kernel) (by decide +kernel) (by decide +kernel) rfl rfl rfl rfl rfl rfl (by trivial) (by trivial) (by trivial)
 ·obtain⟨r,j,k⟩:=cA z W;have o:=d.rows r (t8 j);have G:t.rows.getD i []=r:=by rw[j4,j];rfl
  rw[G] at B;refine⟨_,rfl,a,_,0,_,rfl,rfl,c.aR y,at0 _ _,_,rfl,a,_,1,_,rfl,rfl,c.aR y,at1 _ _ _,_,rfl,_,rfl,_,rfl,vh,Y,u,b,m,t.hd,t.pl,r,rfl,hI.same c,d.hd,x.same c,d.pl,k.same c,o,F,λX C=>⟨_,rfl,B X C⟩⟩
 ·refine q I g M c ⟨_,p,?_⟩;have e:(t.rows.filter λr=>bZ t.hd m r b t.pl)=sel (λi=>bZ t.hd m (t.rows.getD i []) b t.pl) 0 t.rows:=(jV λi r j=>by rw[bDN,j4,j];rfl).symm;rw[e];exact (aB8 z 0).imp λ_ _ r=>r.same c
def qW (K:bF4)(H:Hp)(C x:Addr)(m:Int)(d:Addr)(es:List En):Prop:=(∃dx,H x=some (.ins C dx [("placed",.ref d),("house_count",.int m)]))/\lA K H d es/\∀e∈es,iV m e.t
theorem qW.same (s:Same H H')(h:qW K H C x m d es):qW K H' C x m d es:=by obtain⟨⟨e,a⟩,b,c⟩:=h;exact⟨⟨e,s _ _ a⟩,b.same s,c⟩
theorem eU.ins (h:H x=some (.ins C dx fs)):eU H x:=⟨λ_ z=>(by rw[h] at z;cases z),λ_ _ z=>(by rw[h] at z;cases z),λ_ z=>(by rw[h] at z;cases z)⟩
theorem aEi {α β:Type}{R:α->β->Prop}{as:List α}{bs:List β}(h:cG R as bs){b:β}(hb:b∈bs):∃a∈as,R a b:=by
 induction h with
 |nil=>cases hb
 |cons r _ ih=>
  rcases List.mem_cons.mp hb with rfl|hb
  ·exact⟨_,j0,r⟩
  ·obtain⟨a,c,d⟩:=ih hb;exact⟨a,j5 _ c,d⟩
def iV.sorted (h:iV m t):iV m { t with rows:=srt t.rows }:=⟨h.hd,h.pl,by rw[nJ];exact h.few,λr a=>h.rows r (fC a)⟩
inductive aP4 (K:bF4)(C Pt:Addr)(vs:List V)(H:Hp)(Q:VK)(E_:XK):Prop
 |mk (H0:Hp) (x dx d:Addr) (m:Int) (es:List En) (_:vs=[.ref x,.int m,.ref d]) (_:H x=some (.ins C dx [])) (_:H0 x=none) (_:Same H0 H) (_:1<=m) (_:m<=6) (_:lA K H0 d es) (_:(∀e∈es,iV m e.t)) (_:H0 Pt=some (.tab qC)) (_:∀d' H' es',H0 d'=none->Same H0 H'->qW K H' C x m d' es'->cG (λe e'=>∃v L,e'=aCg e v L/\H0 L=none) es es'->Q .non H')
def aV8 (T:Txt w K mg)(c:Cls K C)(D:eG K C "__init__" "Town.__init__" jF ["self","houses","tables"])(n1:bL K C "placed")(n2:bL K C "house_count")(jE:Ok P w K mg base 10 "placed_tables" u6 (xU K Pt)):OkM P w K mg base C 11 "__init__" o8 (aP4 K C Pt):=by
 refine OkM.ofV c D yN (by trivial) (λf W A r s H vs Q E hr h=>?_)
 obtain⟨S,x,g,d,m,U,rfl,B,V,k,X,m6,N,F,Y,q⟩:=h;refine⟨_,(aB (aC8 (K:=K) (vv 0) (aV jE (aH (vv 1) (va1 (vv 2))))) (aD (aC8 (K:=K) (vv 0) (vv 1)))),?_⟩;refine⟨_,rfl,_,rfl,d,m,U,rfl,X,m6,N.same k,F,k _ _ Y,λj n u i I a G=>?_⟩;have l:=I _ _ B;refine⟨_,rfl,x,C,g,[],rfl,l,c,n1,by decide,?_⟩;refine⟨_,rfl,_,rfl,x,C,g,_,rfl,aF,c,n2,by show 1<1000;decide,?_⟩;have nx:=eU.ins l;have y:j≠x:=λz=>by rw[z,B] at i;cases i
 have t:But x n (L2.upd (L2.upd n x (.ins C g [("placed",.ref j)])) x (.ins C g [("placed",.ref j),("house_count",.int m)])):=λb o J h=>by rw[aK J,aK J];exact h
 have M:Same S (L2.upd (L2.upd n x (.ins C g [("placed",.ref j)])) x (.ins C g [("placed",.ref j),("house_count",.int m)])):=λb o h=>t _ _ (λz=>by rw[z,V] at h;cases h) (I _ _ (k _ _ h));refine q j _ u (none_of k i) M ⟨⟨g,aF⟩,⟨t _ _ y a.at_,a.nd,a.few,a.nm,λe p=>t.tb nx (a.tb e p)⟩,λe p=>?_⟩ (G.imp λe e' ⟨v,L,R,e2⟩=>⟨v,L,R,none_of k e2⟩);obtain⟨O,Z,v,L,rfl,_⟩:=aEi G p;exact (F O Z).sorted
inductive aBk (K:bF4)(C:Addr)(vs:List V)(H:Hp)(Q:VK)(E_:XK):Prop
 |mk (x d:Addr) (m:Int) (es:List En) (e:En) (_:vs=[.ref x,.str e.n]) (_:qW K H C x m d es) (_:e∈es) (_:∀H',Same H H'->Q e.vp H')
def aIp (T:Txt w K mg)(c:Cls K C)(D:eG K C "placing" "Town.placing" kJ ["self","name"])(I:bL K C "placed")(v:Ok P w K mg base 3 "table_in" o5 (nU K)):OkM P w K mg base C 4 "placing" n6 (aBk K C):=by
 refine OkM.ofV c D aAg (by trivial) (λf o A b s H F Q E G h=>?_)
 obtain⟨x,d,m,l,e,rfl,⟨⟨p,k⟩,g,B⟩,i,q⟩:=h;refine⟨_,(aD (aJ (aO (bK (K:=K)) (aV v (aH (cT (K:=K) (vv 0)) (va1 (vv 1)))) aA))),?_⟩;obtain⟨a,r,t,u,z,y⟩:=g.tb e i;exact⟨_,rfl,x,C,p,_,_,rfl,k,c,I,rfl,_,rfl,d,l,e,rfl,g,i,λn j=>⟨a,_,1,_,r,rfl,j.aR t,at1 _ _ _,q n j⟩⟩
inductive wB (K:bF4)(C:Addr)(vs:List V)(H:Hp)(Q:VK)(E_:XK):Prop
 |mk (x d:Addr) (m:Int) (es:List En) (e:En) (_:vs=[.ref x,.str e.n]) (_:qW K H C x m d es) (_:e∈es) (_:∀L H',H L=none->Same H H'->bU K H' L e.t.rows->Q (.ref L) H')
def aRo (T:Txt w K mg)(c:Cls K C)(D:eG K C "whole" "Town.whole" nZ ["self","name"])(R:bL K C "placed")(M:Ok P w K mg base 3 "table_in" o5 (nU K)):OkM P w K mg base C 4 "whole" n6 (wB K C):=by
 refine OkM.ofV c D aDu (by trivial) (λf z A i s H W Q E V h=>?_)
 obtain⟨x,d,m,v,e,rfl,⟨⟨t,o⟩,k,u⟩,g,q⟩:=h;refine⟨_,(aD (aJ (cC (aLg (K:=K)) (by rfl) T.yE rJ (va1 (aO (bK (K:=K)) (aV M (aH (cT (K:=K) (vv 0)) (va1 (vv 1)))) aA))))),?_⟩;obtain⟨a,G,I,J,O,⟨l,B,n⟩⟩:=k.tb e g;have S:=n.len;have U:=(u e g).few;refine⟨_,rfl,x,C,t,_,_,rfl,o,c,R,rfl,_,rfl,d,v,e,rfl,k,g,λN b=>⟨a,_,2,_,G,rfl,b.aR I,at2 _ _ _ _,e.L,l,rfl,.inl (SqL.of (b _ _ B)),λL F y j p=>q L F (none_of b y) (b.trans j) ⟨l,p,n.imp λ_ _ r=>r.same (b.trans j)⟩⟩⟩
inductive aOd (K:bF4)(C:Addr)(vs:List V)(H:Hp)(Q:VK)(E_:XK):Prop
 |mk (x d:Addr) (m house:Int) (es:List En) (e:En) (_:vs=[.ref x,.str e.n,.int house]) (_:qW K H C x m d es) (_:e∈es) (_:0<=house) (_:house<m) (_:∀L H',H L=none->Same H H'->bU K H' L (e.t.rows.filter λr=>bZ e.t.hd m r house e.t.pl)->Q (.ref L) H')
def aSv (T:Txt w K mg)(c:Cls K C)(D:eG K C "part" "Town.part" qJ ["self","name","house"])(J:bL K C "placed")(M:bL K C "house_count")(G:Ok P w K mg base 3 "table_in" o5 (nU K))(R:Ok P w K mg base 4 "rows_at" bQH (yW K)):OkM P w K mg base C 5 "part" bQC (aOd K C):=by
 refine OkM.ofV c D aH7 (by trivial) (λf z A i s H N Q E O h=>?_)
 obtain⟨x,d,m,a,r,e,rfl,⟨⟨l,j⟩,k,o⟩,g,F,y,q⟩:=h;refine⟨_,(aD (aJ (aV R (aH (aV G (aH (cT (K:=K) (vv 0)) (va1 (vv 1)))) (aH (vv 2) (va1 (cT (K:=K) (vv 0)))))))),?_⟩;refine⟨_,rfl,x,C,l,_,_,rfl,j,c,J,rfl,_,rfl,d,r,e,rfl,k,g,λI b=>?_⟩;refine⟨_,rfl,_,rfl,x,C,l,_,_,rfl,b _ _ j,c,M,rfl,e.v,e.vh,e.vp,e.L,e.t,a,m,rfl,(k.tb e g).same b,o e g,F,y,λL B u n p=>q L B (none_of b u) (b.trans n) p⟩
end
end My
namespace L2
open PySem PySem.Spec PyProof.Rows
abbrev M61:Int:=2305843009213693951
def iG (H:Hp)(a:Addr):Prop:=∃s:Int,H a=some (.lst [.int s])/\True
structure Fx (a:Addr)(H H':Hp):Prop where
 same:∀b o,b≠a->H b=some o->H' b=some o
 st:iG H' a
def Fx.trans (f:Fx a H H1)(g:Fx a H1 H2):Fx a H H2:=⟨λb o n e=>g.same b o n (f.same b o n e),g.st⟩
def iG.same (h:iG H a)(e:Same H H'):iG H' a:=by obtain⟨s,b,c⟩:=h;exact⟨s,e _ _ b,c⟩
def Fx.of (h:iG H a)(e:Same H H'):Fx a H H':=⟨λb o _ q=>e b o q,h.same e⟩
theorem Fx.refl (h:iG H a):Fx a H H:=.of h (Same.refl H)
def Fx.sm (f:Fx a H H1)(e:Same H1 H2):Fx a H H2:=f.trans (.of f.st e)
def iG.ne (h:iG H a)(f:H p=none):p≠a:=by obtain⟨s,b,_⟩:=h;exact (aQ b f).symm
def Fx.aR {K:bF4}{a p:Addr}{H H':Hp}{xs:List V}(f:Fx a H H')(h:iG H a)(e:SqT K H p xs):SqT K H' p xs:=by
 obtain⟨s,b,_⟩:=h;rcases e with (e|⟨o,e⟩)|e
 ·exact .inl (.inl (f.same p _ (aJ8 e b (by intro z;cases z)) e))
 ·exact .inl (.inr ⟨o,f.same p _ (aJ8 e b (by intro z;cases z)) e⟩)
 ·exact .inr e
theorem Fx.upd (f:Fx a H H')(g:H D=none)(h:D≠a):Fx a H (L2.upd H' D o):=⟨λb u n e=>by rw[aK (aQ e g)];exact f.same b u n e,by obtain⟨s,c,d⟩:=f.st;exact⟨s,by rw[aK h.symm];exact c,d⟩⟩
theorem Fx.free (f:Fx a H H')(h:H' p=none):H p=none:=by
 cases e:H p with
 |none=>rfl
 |some o=>
  by_cases z:p=a
  ·subst z;obtain⟨s,b,_⟩:=f.st;rw[b] at h;cases h
  ·rw[f.same p o z e] at h;cases h
def aS0 (h:iG H a):bB7 (Fx a) H:=⟨λD o c=>.of h (aW c o),λa b=>a.trans b,λD o d c f=>f.upd c (h.ne c),λD g j i c _ e f=>f.same _ _ (h.ne c) e⟩
end L2
namespace My
open PySem PySem.Spec PyProof.Rows L2
section
variable {P:Program}{w:World}{K:bF4}{mg:bF7}{base:Heap}
inductive aO4 (K:bF4)(vs:List V)(H:Hp)(Q:VK)(E_:XK):Prop
 |mk (a:Addr) (ns:List Int) (_:vs=[.ref a]) (_:SqL K H a (ns.map V.int)) (_:ns.length<=63) (_:∀c H',Same H H'->0<=c->c<M61->Q (.int c) H')
def aHr (T:Txt w K mg):Ok P w K mg base 1 "_law_seed" ["_law_script"] (aO4 K):=by
 refine Ok.ofV T.aLu vJ (by trivial) (λf j A d s H o Q E p h=>?_)
 obtain⟨a,k,rfl,g,l,q⟩:=h;have m:=vJ.nd;refine⟨_,(aB (aY 1 aA) (aB (iQ PassesOwn.never rfl (aXg (by rfl) T.aLa (va1 (vv 0))) (uJ rfl (aX (cR 2) (aX (cR 3) eQ))) (aD (aY 1 (bF jU (bF dG (bF dG (bF dG (bF yS (vv 1) aA) (bF jU (vv 3) (bF aGn aA aA))) (bF yS aA (vv 2))) aA) aA)))) (aD (aJ (vv 1))))),?_⟩;refine⟨_,rfl,a,k.map V.int,rfl,g,aTl (λi σ b=>Same H b/\∃c l2 l3,0<=c/\c<M61/\σ=[some (.ref a),some (.int c),l2,l3]) ⟨Same.refl H,7,_,_,by decide,by decide,rfl⟩ (λi σ b _ ⟨e,_⟩=>e.seq g) ?_ ?_⟩
 ·rintro i σ b x Tp H'' ex ⟨sm,c,l2,l3,c0,c1,rfl⟩ hT rfl;obtain⟨z,n,rfl⟩:=aSd ex;refine⟨Tp,_,rfl,SqT.of aF,rfl,_,_,rfl,_,_,rfl,rfl,?_⟩;refine⟨_,rfl,_,_,rfl,rfl,.inr ⟨by decide,by decide⟩,_,rfl,_,_,rfl,rfl,⟨by decide,by decide,by decide⟩,_,_,rfl,rfl,(by show (0:Int)<10 ^ 30;decide),_,_,rfl,rfl,_,rfl,_,_,rfl,rfl,.inl ⟨by decide,by decide⟩,_,_,rfl,rfl,_,_,rfl,rfl,_,_,rfl,rfl,(by show (0:Int)<2305843009213693951;decide),?_⟩;exact⟨sm.trans (aW hT _),_,_,_,bFO _ (by decide),bEO _ (by decide),rfl⟩
 ·rintro σ b ⟨sm,c,l2,l3,c0,c1,rfl⟩;exact⟨_,rfl,q c b sm c0 c1⟩
inductive jK (vs:List V)(H:Hp)(Q:VK)(E_:XK):Prop
 |mk (a:Addr) (m:Int) (_:vs=[.ref a,.int m]) (_:iG H a) (_:(0<m/\m<2 ^ 64)) (_:∀c H',Fx a H H'->0<=c->c<m->Q (.int c) H')
def aGe (T:Txt w K mg):Ok P w K mg base 1 "_law_next" n7 jK:=by
 refine Ok.ofV T.aIg aGc (by trivial) (λf i A c s H l Q E p h=>?_)
 obtain⟨a,m,rfl,⟨g,d,k⟩,⟨e,j⟩,q⟩:=h;refine⟨_,(aB (jH (bF jU (bF dG (bF yS (aO bA (vv 0) aA) aA) aA) aA) (xX (vv 0) aA set_list)) (aD (aJ (bF jU (bF aY8 (aO bA (vv 0) aA) aA) (vv 1))))),?_⟩;refine⟨_,rfl,a,_,0,_,rfl,rfl,SqL.of d,at0 _ _,_,_,rfl,rfl,.inr ⟨by decide,by decide⟩,_,_,rfl,rfl,_,_,rfl,rfl,(by show (0:Int)<2305843009213693951;decide),?_⟩;refine⟨_,rfl,a,_,0,0,rfl,rfl,d,rfl,?_⟩;refine⟨_,rfl,a,[.int ((g * 1181783497276652981+12345678910987) % 2305843009213693951)],0,_,rfl,rfl,SqL.of aF,at0 _ _,_,_,rfl,rfl,⟨by decide,by decide⟩,_,rfl,_,_,rfl,rfl,e,?_⟩;exact q _ _ ⟨λb o n h=>by rw[aK n];exact h,(g * 1181783497276652981+12345678910987) % 2305843009213693951,aF,trivial⟩ (bFO _ (by lia)) (bEO _ e)
inductive aIs (vs:List V)(H:Hp)(Q:VK)(E_:XK):Prop
 |mk (a:Addr) (_:vs=[.ref a]) (_:iG H a) (_:∀i H',Fx a H H'->Q (.int i) H')
def aDt (T:Txt w K mg)(y:Ok P w K mg base 1 "_law_next" n7 jK):Ok P w K mg base 2 "_law_great" ["_law_state"] aIs:=by
 refine Ok.ofV T.aGs tH (by trivial) (λf u A b s H D Q E F h=>?_)
 obtain⟨a,rfl,l,q⟩:=h;have z:=tH.nd;refine⟨_,(aB (aY 1 aA) (aB (iQ PassesOwn.never rfl (fZ (by rfl) T.jO (va1 aA)) (cR 2) (aD (aY 1 (bF dG (bF yS (vv 1) (bF aGn aA aA)) (aV y (aH (vv 0) (va1 (bF aGn aA aA)))))))) (aD (aJ (aO bA (cY (aH (vv 1) (va1 (bF aCj aA (vv 1))))) (aV y (aH (vv 0) (va1 aA)))))))),?_⟩;refine⟨_,rfl,by decide,by decide,iT (λi σ e=>Fx a H e/\∃c l2,σ=[some (.ref a),some (.int c),l2]) ⟨.refl l,0,_,rfl⟩ ?_ ?_⟩
 ·rintro i σ e hi ⟨fx,c,l2,rfl⟩;refine⟨_,rfl,_,_,rfl,rfl,⟨by decide,by decide,by decide⟩,_,_,rfl,rfl,.inr ⟨by decide,by decide⟩,_,rfl,_,_,rfl,rfl,⟨by decide,by decide,by decide⟩,a,_,rfl,fx.st,(by decide),λd m r _ _=>?_⟩;exact⟨_,_,rfl,rfl,fx.trans r,_,_,rfl⟩
 ·rintro σ e ⟨fx,c,l2,rfl⟩;refine⟨_,rfl,_,rfl,_,_,rfl,rfl,(by show 2<=sizeLine;decide),λp m n j o=>?_⟩;refine⟨_,rfl,a,2,rfl,fx.st.same j,by decide,λd B g t C=>?_⟩;obtain⟨v,x,k⟩:=at_of (xs:=[.int c,.int (0 - c)]) t (by show d<2;lia);refine⟨p,_,_,v,rfl,rfl,SqL.of (g.same _ _ (fx.st.ne n) o),x,?_⟩;simp only[bAN,bAB,or_false] at k;rcases k with rfl|rfl
  ·exact q _ _ ((fx.sm j).trans g)
  ·exact q _ _ ((fx.sm j).trans g)
abbrev aMf:List V:=[.str "",.str "a",.str "b",.str "ab"]
inductive aIb (vs:List V)(H:Hp)(Q:VK)(E_:XK):Prop
 |mk (a:Addr) (kd:Str) (_:vs=[.ref a,.str kd]) (_:iG H a) (_:aQ6 kd) (_:∀v H',Fx a H H'->cD kd v->Q v H')
def aMk (h:v∈aMf):cD "word" v:=by
 simp only[aMf,bAN,bAB,or_false] at h;have a:∀x:Str,(x.cps.all λc=>decide (97<=c) && decide (c<=122))=true->Lets x:=λx b c d=>by have:=(Array.all_eq_true_iff_forall_mem.mp b) c d;rw[bAS] at this;exact⟨of_decide_eq_true this.1,of_decide_eq_true this.2⟩
 rcases h with rfl|rfl|rfl|rfl
 ·exact .wrd (a _ (by decide +kernel)) (by decide +kernel)
 ·exact .wrd (a _ (by decide +kernel)) (by decide +kernel)
 ·exact .wrd (a _ (by decide +kernel)) (by decide +kernel)
 ·exact .wrd (a _ (by decide +kernel)) (by decide +kernel)
def aD5 (T:Txt w K mg)(C:Ok P w K mg base 1 "_law_next" n7 jK)(S:Ok P w K mg base 2 "_law_great" ["_law_state"] aIs):Ok P w K mg base 3 "_law_value" bQI aIb:=by
 refine Ok.ofV T.aG2 sZ (by trivial) (λf M A r s H vs Q E hr h=>?_)
 obtain⟨a,kd,rfl,G,J,q⟩:=h;have W:=sZ.nd;refine⟨_,(aB (aY 2 (aV C (aH (vv 0) (va1 aA)))) (aB (bM (cZ dN (vv 1) bB) (aD (aJ (aO bA (cY (aH (bF aCj (aV C (aH (vv 0) (va1 aA))) aA) (va1 (aV S (va1 (vv 0)))))) (cC xZ (by rfl) T.aPy aFw (va1 (wR dN (vv 2) aA)))))) aU) (aB (bM (cZ aS6 (vv 2) aA) (aD (aJ (aO bA (cY (aH bB (aH bB (aH bB (va1 bB))))) (bF jU (vv 2) aA)))) aU) (aB (aY 3 bB) (aB (iQ PassesOwn.never rfl (fZ (by rfl) T.jO (va1 (aV C (aH (vv 0) (va1 aA))))) (cR 4) (aD (aY 3 (bF nP (vv 3) (pJ bB (aV C (aH (vv 0) (va1 aA))) (λ_ _=>rfl)))))) (aD (aJ (vv 3)))))))),?_⟩;refine⟨_,rfl,a,10,rfl,G,by decide,λb U k w0 Y=>?_⟩;rcases J with rfl|rfl
 ·refine⟨_,rfl,rfl,_,rfl,eX ?_⟩;refine⟨_,rfl,a,4,rfl,k.st,by decide,λd N o y B=>?_⟩;refine⟨_,_,rfl,rfl,_,rfl,a,rfl,o.st,λg L u=>?_⟩;refine⟨(by show 2<=sizeLine;decide),λp R _ D m=>?_⟩;have c:=(k.trans (o.trans u)).sm D;refine⟨_,rfl,rfl,.inr ⟨_,rfl,?_⟩⟩;by_cases e:b=9
  ·rw[m9 (congrArg V.int e)];exact⟨p,_,_,_,rfl,rfl,SqL.of m,bH (j:=1) rfl,q _ _ c .num⟩
  ·rw[v9 (by intro z;exact e (V.int.inj z))];exact⟨p,_,_,_,rfl,rfl,SqL.of m,bH (j:=0) rfl,q _ _ c .num⟩
 ·refine⟨_,rfl,rfl,_,rfl,bY ?_⟩;refine⟨_,rfl,_,_,rfl,rfl,_,rfl,aMr (λ_=>?_) (λ_=>?_)⟩
  ·refine⟨(by show 4<=sizeLine;decide),λp R _ D m=>?_⟩;obtain⟨v,O,I⟩:=at_of (xs:=aMf) (j:=b % 4) (by lia) (by show b % 4<4;lia);exact⟨_,rfl,_,_,rfl,rfl,(by show (0:Int)<4;decide),p,_,_,v,rfl,rfl,SqL.of m,O,q _ _ (k.sm D) (aMk I)⟩
  ·refine⟨_,rfl,a,9,rfl,k.st,by decide,λn N o Z n1=>?_⟩;refine⟨_,rfl,by lia,by lia,iT (n:=n.toNat) (λi σ t=>Fx a H t/\∃(x:Str) (l4:Option V),σ=[some (.ref a),some (.str "word"),some (.int b),some (.str x),l4]/\x.length<=i/\Lets x) ⟨k.trans o,_,_,rfl,by decide +kernel,λd hd=>by simp[show (("":Str).cps)=#[] from rfl] at hd⟩ ?_ ?_⟩
   ·rintro i σ t hi ⟨c,x,l4,rfl,hl,hx⟩;have F:abc.length=26:=by decide +kernel
    refine⟨_,rfl,_,rfl,a,26,rfl,c.st,by decide,λd L u y B=>?_⟩;obtain⟨X,l⟩:=aPh (z:=abc) y (by rw[F];exact B);refine⟨_,_,_,rfl,rfl,y,(by lia),(by rw[F];exact B),l,_,_,rfl,rfl,?_,c.trans u,_,_,rfl,?_,hx.add (aLl.one l)⟩
    ·show x.length+1<=sizeLine;exact small (by lia)
    ·rw[aH3];show x.length+1<=i+1;lia
   ·rintro σ t ⟨c,x,l4,rfl,hl,hx⟩;exact⟨_,rfl,q _ _ c (.wrd hx (by lia))⟩
def aEr:Sp:=λvs H Q _=>vs=[]/\∀p H',H p=none->Same H H'->H' p=some (.lst words)->Q (.ref p) H'
def aEb (T:Txt w K mg):Ok P w K mg base 1 "_law_words" [] aEr:=by
 refine Ok.ofV T.aGa sJ (by trivial) (λf g A b s H u Q E v h=>?_)
 obtain⟨rfl,q⟩:=h;have r:=sJ.nd;refine⟨_,(aB (aY 0 (cY (aH bB (aH bB (aH bB (aH bB (aH bB (aH bB (aH bB (aH bB (va1 bB))))))))))) (aD (aJ (bF pI (vv 0) (cY (aH bB (aH bB (aH bB (aH bB (aH bB (aH bB (aH bB (va1 bB))))))))))))),?_⟩;refine⟨(by decide),λj o _ c k=>?_⟩;refine⟨_,rfl,(by decide),λm t _ a i=>?_⟩;exact⟨j,m,_,_,rfl,rfl,a _ _ k,i,(by decide),λp l d n e=>q p l ((c.trans a).free d) (c.trans (a.trans n)) e⟩
def wQ (ns:List Str):Prop:=ns.length=17/\(∀n∈ns,Nm n)/\ns.Nodup
def wQ.rev (h:wQ ns):wQ ns.reverse:=⟨by rw[List.length_reverse];exact h.1,λn a=>h.2.1 n (List.mem_reverse.mp a),List.pairwise_reverse.mpr (h.2.2.imp λq=>Ne.symm q)⟩
def bCw:∀j:_root_.Fin 26,abc.cps[j.val]?=some (97+j.val):=by decide +kernel
def aYv (h:j<26):abc.cps[j]?=some (97+j):=bCw ⟨j,h⟩
def sgl (o:Nat):List Str:=(List.range 17).map λk=>⟨#[97+(o+k)]⟩
def aPu:∀o:_root_.Fin 10,((sgl o.val).all λn=>nameB (.str n))=true/\(Txt.slice abc (some (o.val:Int)) (some ((o.val:Int)+17))).cps.size=17/\((List.range 17).all λi=>decide (sgn (Txt.slice abc (some (o.val:Int)) (some ((o.val:Int)+17))) i=⟨#[97+(o.val+i)]⟩))=true:=by decide +kernel
def aVw (h:(⟨#[a]⟩:Str)=⟨#[b]⟩):a=b:=by have:=congrArg (λx:Str=>x.cps.toList) h;simpa using this
def aSs (h:o<10):wQ (sgl o):=by
 refine⟨by simp[sgl],λn a=>?_,?_⟩
 ·have:=(aPu ⟨o,h⟩).1;rw[bBZ] at this;exact this n a
 ·refine List.pairwise_map.mpr (bEF ?_ List.nodup_range);intro k l _ _ b e;have:=aVw e;exact b (by lia)
def aWr {o:Nat}(h:o<10):((List.range (Txt.slice abc (some (o:Int)) (some ((o:Int)+17))).cps.size).map λi=>V.str (sgn (Txt.slice abc (some (o:Int)) (some ((o:Int)+17))) i))=(sgl o).map V.str:=by obtain⟨_,a,b⟩:=aPu ⟨o,h⟩;have a:=a;rw[a];unfold sgl;rw[bDY];refine List.map_congr_left λi c=>?_;rw[bBZ] at b;have:=of_decide_eq_true (b i c);exact congrArg V.str this
def stm (b:Str)(a o:Nat):Nat->List Str:=λi=>(List.range i).map λk=>put b a (97+(o+k))
def aZ7 (y:Lets b)(hl:b.length<=7)(j:a<=b.length)(ho:o<10)(x:∀w∈words,inV w ((stm b a o 17).map V.str)=false):wQ (stm b a o 17):=by
 refine⟨by simp[stm],λn i=>?_,?_⟩
 ·obtain⟨k,h,rfl⟩:=List.mem_map.mp i;have h:=List.mem_range.mp h;have d:inV (.str (put b a (97+(o+k)))) words=false:=by
   cases e:inV (.str (put b a (97+(o+k)))) words with
   |false=>rfl
   |true=>
    exfalso;unfold inV at e;rw[bDX] at e;obtain⟨v,g,t⟩:=e;have f:∃z:Str,v=.str z:=by simp only[words,bAN,bAB,or_false] at g;rcases g with rfl|rfl|rfl|rfl|rfl|rfl|rfl|rfl|rfl|rfl|rfl|rfl|rfl|rfl|rfl|rfl|rfl <;> exact⟨_,rfl⟩
    obtain⟨z,rfl⟩:=f;have s:(z == put b a (97+(o+k)))=true:=t;have u:z=put b a (97+(o+k)):=by simpa using s
    have:=x _ g;rw[aO0,decide_eq_false_iff_not] at this;exact this (by rw[u];exact i)
  show ((decide (1<=(put b a (97+(o+k))).length) && (decide ((put b a (97+(o+k))).length<=8) && allIn (put b a (97+(o+k))))) && !inV (.str (put b a (97+(o+k)))) words)=true;have m:Lets (put b a (97+(o+k))):=λc r=>by
   rcases aXz j r with rfl|z
   ·lia
   ·exact y c z
  rw[aYi j,m9 (p:=1<=b.length+1) (by lia),m9 (p:=b.length+1<=8) (by lia),allIn_of m,d];rfl
 ·refine List.pairwise_map.mpr (bEF ?_ List.nodup_range);intro k l _ _ q e;have:=aX5 j e;exact q (by lia)
inductive aU0 (vs:List V)(H:Hp)(Q:VK)(E_:XK):Prop
 |mk (a:Addr) (_:vs=[.ref a,.int 17]) (_:iG H a) (_:∀p H' ns,Fx a H H'->H p=none->H' p=some (.lst (ns.map V.str))->wQ ns->Q (.ref p) H')
def aD3 (T:Txt w K mg)(aN:Ok P w K mg base 1 "_law_next" n7 jK)(a7:Ok P w K mg base 1 "_law_words" [] aEr):Ok P w K mg base 2 "_law_names" n7 aU0:=by
 refine Ok.ofV T.aGd sO (by trivial) (λf a8 A a6 s H vs Q E hr h=>?_)
 obtain⟨a,rfl,X,q⟩:=h;have nd:=sO.nd;refine⟨_,(aB (aY 2 bB) (aB (aY 3 (aV aN (aH (vv 0) (va1 (bF aCj aA (vv 1)))))) (aB (aY 4 bB) (aB (iQ PassesOwn.never rfl (fZ (by rfl) T.jO (va1 (aV aN (aH (vv 0) (va1 aA))))) (cR 5) (aD (aY 4 (bF nP (vv 4) (pJ (vv 2) (aV aN (aH (vv 0) (va1 aA))) (λ_ _=>rfl)))))) (aB (aY 6 (aV aN (aH (vv 0) (va1 (bF dG (aL xG (by rfl) T.eV cW (va1 (vv 4))) aA))))) (aB (aY 7 (cY xR)) (aB (iQ PassesOwn.never rfl (fZ (by rfl) T.jO (va1 (vv 1))) (cR 5) (aD (dJ (tG PySem.F.plainAttrs_list PySem.F.slot_list_append PySem.F.type_list_append nH (vv 7) (va1 (bF nP (bF nP (dC aGg (vv 4) fB (dW (vv 6))) (pJ (vv 2) (bF dG (vv 3) (vv 5)) (λ_ _=>rfl))) (dC aGg (vv 4) (dW (vv 6)) fB))))))) (aB (bM (bW (aL (aUw rfl) (by rfl) T.bDt bBo (va1 (cI (N:=["_law_word","_law_names_here"]) (by trivial) (eE (aC nQ) rfl (by decide +kernel)) rfl (eO (bA6 (a7.mono (by decide)) hr (by rfl))) (λcl s' u fp=>⟨(bJ (i:=0) (show (["_law_word","_law_names_here"]:List Str).Nodup from by decide +kernel) rfl (Or.inl rfl)),fW,(rH (aMj (K:=K)) (vv 0) (vv 1) (by with_unfolding_all rfl))⟩))))) (aD (aY 7 (cC (aNv rfl) (by rfl) T.yE rJ (va1 (dC aGg (vv 2) (dW (vv 3)) (dW (bF dG (vv 3) (vv 1)))))))) aU) (aB (bM (cZ dN (aV aN (aH (vv 0) (va1 aA))) aA) (aD (dJ (bA8 PySem.F.plainAttrs_list PySem.F.slot_list_reverse PySem.F.type_list_reverse aK1 (vv 7)))) aU) (aD (aJ (vv 7)))))))))))),?_⟩;have G:abc.length=26:=by decide +kernel
 refine⟨_,rfl,_,rfl,_,_,rfl,rfl,a,10,rfl,X,by decide,λod H1 f1 o0 o1=>?_⟩;obtain⟨o,rfl⟩:∃o:Nat,od=o:=⟨od.toNat,by lia⟩;have U:o<10:=by lia
 refine⟨_,rfl,a,8,rfl,f1.st,by decide,λn H2 f2 n0 n1=>?_⟩;refine⟨_,rfl,by lia,by lia,iT (n:=n.toNat) (λi σ u=>Fx a H u/\∃(x:Str) (l5:Option V),σ=[some (.ref a),some (.int 17),some (.str abc),some (.int (o:Nat)),some (.str x),l5,none,none]/\x.length<=i/\Lets x) ⟨f1.trans f2,_,_,rfl,by decide +kernel,λd hd=>by simp[show (("":Str).cps)=#[] from rfl] at hd⟩ ?_ ?_⟩
 ·rintro i σ u Y ⟨fx,x,l5,rfl,hl,hx⟩;refine⟨_,rfl,_,rfl,_,rfl,a,26,rfl,fx.st,by decide,λd H3 f3 O S=>?_⟩;obtain⟨ch,t⟩:=aPh (z:=abc) O (by rw[G];exact S);refine⟨_,_,_,rfl,rfl,O,(by lia),(by rw[G];exact S),t,_,_,rfl,rfl,?_,fx.trans f3,_,_,rfl,?_,hx.add (aLl.one t)⟩
  ·show x.length+1<=sizeLine;exact small (by lia)
  ·rw[aH3];show x.length+1<=i+1;lia
 rintro σ H3 ⟨f3,b,l5,rfl,hl,hb⟩;have a3:b.length<=7:=by lia
 refine⟨_,rfl,_,rfl,_,rfl,small (by lia),_,_,rfl,rfl,a,_,rfl,f3.st,(by show (0:Int)<(b.length:Int)+1/\(b.length:Int)+1<2 ^ 64;lia),λai H4 f4 a0 a1=>?_⟩;obtain⟨g,rfl⟩:∃g:Nat,ai=g:=⟨ai.toNat,by lia⟩;have ha:g<=b.length:=by have:(g:Int)<(b.length:Int)+1:=a1;lia
 have J:=f3.trans f4;refine⟨(by show 0<=sizeLine;decide),λp H5 fp s5 g5=>?_⟩;have k:H p=none:=J.free fp;have C:p≠a:=X.ne k;refine⟨_,rfl,_,rfl,by decide,by decide,iT (n:=17) (λi σ u=>Fx a H u/\u p=some (.lst ((stm b g o i).map V.str))/\∃l5,σ=[some (.ref a),some (.int 17),some (.str abc),some (.int (o:Nat)),some (.str b),l5,some (.int (g:Nat)),some (.ref p)]) ⟨J.sm s5,g5,_,rfl⟩ ?_ ?_⟩
 ·rintro i σ u Y ⟨fx,gp,l5,rfl⟩;have s1:=Txt.slice_le b none (some ((g:Nat):Int));have s2:=Txt.slice_le b (some ((g:Nat):Int)) none;have ej:((o:Int)+(0+(i:Int))).toNat=o+i:=by lia
  have t:abc.cps[((o:Int)+(0+(i:Int))).toNat]?=some (97+(o+i)):=by rw[ej];exact aYv (by lia)
  refine⟨_,rfl,.inl ⟨rfl,_,SqL.of gp⟩,_,rfl,_,rfl,_,rfl,_,rfl,small (by lia),_,rfl,_,rfl,_,rfl,_,_,rfl,rfl,_,_,_,rfl,rfl,(by show 0<=(o:Int)+(0+(i:Int));lia),(by show (o:Int)+(0+(i:Int))<2 ^ 63;lia),(by rw[G];show (o:Int)+(0+(i:Int))<26;lia),t,_,_,rfl,rfl,?_,_,rfl,_,rfl,_,rfl,_,rfl,small (by lia),_,_,rfl,rfl,?_,?_⟩
  ·show (Txt.slice b none (some ((g:Nat):Int))).length+1<=sizeLine;exact small (by lia)
  ·rw[aH3];show (Txt.slice b none (some ((g:Nat):Int))).length+1+_<=sizeLine;exact small (by lia)
  refine⟨p,_,_,rfl,rfl,gp,?_,fx.upd k C,?_,_,rfl⟩
  ·rw[j6];exact mU (by simp[stm];lia)
  ·rw[aF];unfold stm;rw[List.range_succ,bBF,bBF];rfl
 rintro σ H6 ⟨f6,g6,l5',rfl⟩;dsimp only[aDz,aG3,tB,tCB,dI];refine aQt (λL=>L=words) (λi _ y=>∃m,words[i]?=some m/\y=.bl (inV m ((stm b g o 17).map V.str))) (λ_ h=>h) (λ_ h=>h) [none,some (.ref p)] ?_ rfl (λR r=>⟨rfl,λW H7 _ Z g7=>r W H7 _ Z g7 rfl⟩) (λL e=>by subst e;exact small (by decide)) (λL e i x ex u R l sm r=>?_) λL e D H7 ys Z g7 a9 hR=>?_
 ·exact jM 7 (by decide +kernel) rfl rfl (by trivial)
 ·subst e;have fl:iZ x=true:=by have:=aA6;rw[bBZ] at this;exact this x (t8 ex)
  exact⟨_,rfl,_,rfl,p,_,rfl,.inl (SqL.of (sm _ _ g6)),fl,aJh,r _ _ (Same.refl _) ⟨x,ex,rfl⟩⟩
 subst e;have ey:ys=(words.map λm=>inV m ((stm b g o 17).map V.str)).map V.bl:=by
  rw[bDY];refine bCC λi=>?_;by_cases Y:i<ys.length
  ·obtain⟨m,h1,h2⟩:=hR i ys[i] (b8 Y);rw[b8 Y,v7,h1,h2];rfl
  ·rw[bAA (by lia),bAA (by rw[j6];lia)]
 rw[ey] at g7;refine⟨D,_,rfl,SqL.of g7,_,rfl,?_⟩;have I:=f6.sm Z;refine aMr (λc=>?_) (λc=>?_)
 ·refine⟨_,rfl,_,rfl,_,rfl,_,rfl,_,rfl,_,_,rfl,rfl,_,rfl,abc,rfl,small (by rw[G];decide),?_⟩;refine⟨_,rfl,?_,λM H8 a4 s8 g8=>?_⟩
  ·have:=Txt.slice_le abc (some (o:Int)) (some ((o:Int)+17));rw[G] at this;exact bAE this (by decide)
  have a2:H8 M=some (.lst ((sgl o).map V.str)):=by rw[g8];exact congrArg (λz=>some (HO.lst z)) (aWr U)
  have f8:=I.sm s8;have j:=I.free a4;refine⟨_,rfl,a,2,rfl,f8.st,by decide,λd H9 B O S=>?_⟩;have v:=B.same _ _ (X.ne j) a2;refine⟨rfl,_,rfl,aMr (λ_=>?_) (λ_=>?_)⟩
  ·refine⟨_,rfl,.inl ⟨rfl,_,SqL.of v⟩,M,_,rfl,rfl,v,?_⟩;refine⟨_,rfl,q M _ (sgl o).reverse ((f8.trans B).upd j (X.ne j)) j ?_ (aSs U).rev⟩;rw[aF,List.map_reverse]
  ·exact⟨_,rfl,q M _ (sgl o) (f8.trans B) j v (aSs U)⟩
 ·have hw:∀m∈words,inV m ((stm b g o 17).map V.str)=false:=λm a5=>by
   cases e:inV m ((stm b g o 17).map V.str) with
   |false=>rfl
   |true=>exfalso;apply c;rw[bDX];exact⟨true,List.mem_map.mpr ⟨m,a5,e⟩,rfl⟩
  have hn:=aZ7 hb a3 ha U hw;refine⟨_,rfl,a,2,rfl,I.st,by decide,λd H9 B O S=>?_⟩;have v:=B.same _ _ C (Z _ _ g6);refine⟨rfl,_,rfl,aMr (λ_=>?_) (λ_=>?_)⟩
  ·refine⟨_,rfl,.inl ⟨rfl,_,SqL.of v⟩,p,_,rfl,rfl,v,?_⟩;refine⟨_,rfl,q p _ (stm b g o 17).reverse ((I.trans B).upd k C) k ?_ hn.rev⟩;rw[aF,List.map_reverse]
  ·exact⟨_,rfl,q p _ (stm b g o 17) (I.trans B) k v hn⟩
inductive aKe (K:bF4)(vs:List V)(H:Hp)(Q:VK)(E_:XK):Prop
 |mk (a N:Addr) (ns:List Str) (_:vs=[.ref a,.ref N]) (_:iG H a) (_:H N=some (.lst (ns.map V.str))) (_:N≠a) (_:wQ ns) (_:∀v H' hd,Fx a H H'->jG K H' v hd->aQf hd->hd.length<=7->Q v H')
def aZ2 {α:Type}{l:List α}(h:l.Nodup){i j:Nat}{x:α}(f:l[i]?=some x)(g:l[j]?=some x):i=j:=by
 have c:=List.pairwise_iff_getElem.mp h;obtain⟨d,b⟩:=List.getElem?_eq_some_iff.mp f;obtain⟨e,a⟩:=List.getElem?_eq_some_iff.mp g;rcases bFB i j with q|q|q
 ·exact absurd (b.trans a.symm) (c i j d e q)
 ·exact q
 ·exact absurd (a.trans b.symm) (c j i e d q)
def bDi {α:Type}{l:List α}(h:∀(i j:Nat) (x:α),l[i]?=some x->l[j]?=some x->i=j):l.Nodup:=by refine List.pairwise_iff_getElem.mpr λi j b c a e=>?_;have:=h i j l[i] (b8 b) (by rw[b8 c,e]);lia
def aSt {m:List Str}(n:wQ m){o:Nat}{hd:Hdr}(hl:hd.length<=8)(h:∀(j:Nat) (c:Str × Str),hd[j]?=some c->m[3+(o+j) % 8]?=some c.1):(hd.map (·.1)).Nodup:=by
 refine bDi λi j x b f=>?_;have g:∀k,(hd.map (·.1))[k]?=some x->k<hd.length/\m[3+(o+k) % 8]?=some x:=λk a=>by
  rw[v7] at a;cases e:hd[k]? with
  |none=>rw[e] at a;cases a
  |some c=>rw[e] at a;cases a;exact⟨(List.getElem?_eq_some_iff.mp e).1,h k c e⟩
 obtain⟨q,l⟩:=g i b;obtain⟨p,d⟩:=g j f;have:=aZ2 n.2.2 l d;lia
def aHu (T:Txt w K mg)(aN:Ok P w K mg base 1 "_law_next" n7 jK):Ok P w K mg base 2 "_law_head" ["_law_state","_law_names_here"] (aKe K):=by
 refine Ok.ofV T.aI7 vA (by trivial) (λf a7 A Y s H vs Q E hr h=>?_)
 obtain⟨a,N,G,rfl,hs,hN,nN,hn,q⟩:=h;have nd:=vA.nd;refine⟨_,(aB (aY 2 (aV aN (aH (vv 0) (va1 aA)))) (aB (aY 3 (cY xR)) (aB (iQ PassesOwn.never rfl (fZ (by rfl) T.jO (va1 (bF dG aA (bF yS (aV aN (aH (vv 0) (va1 aA))) (bF dG aA (cC xZ (by rfl) T.aPy aFw (va1 (wR dN (aV aN (aH (vv 0) (va1 aA))) aA)))))))) (cR 4) (aB (aY 5 (aO bA (cY (aH bB (aH bB (va1 bB)))) (aV aN (aH (vv 0) (va1 aA))))) (aD (dJ (tG PySem.F.plainAttrs_list PySem.F.slot_list_append PySem.F.type_list_append nH (vv 3) (va1 (cN (aH (aO bA (vv 1) (bF dG aA (bF jU (bF dG (vv 2) (vv 4)) aA))) (va1 (vv 5)))))))))) (aD (aJ (cC lD (by rfl) T.gU eY (va1 (vv 3)))))))),?_⟩;have a6:=hn.1;refine⟨_,rfl,a,8,rfl,hs,by decide,λv H1 f1 a4 a5=>?_⟩;obtain⟨g,rfl⟩:∃g:Nat,v=g:=⟨v.toNat,by lia⟩;refine⟨(by show 0<=sizeLine;decide),λp H2 fp s2 g2=>?_⟩;have f2:=f1.sm s2;have y:H p=none:=f1.free fp;have k:p≠a:=hs.ne y;refine⟨_,rfl,a,4,rfl,f2.st,by decide,λm H3 f3 m0 m1=>?_⟩;refine⟨_,rfl,a,8,rfl,f3.st,by decide,λe H4 f4 e0 e1=>?_⟩;have R:=f2.trans (f3.trans f4);have g4:=f4.same _ _ k (f3.same _ _ k g2);refine⟨rfl,.inr ⟨_,rfl,?_⟩⟩;have a3:∃z:Nat,1+m * (1+(if decide (V.int e=V.int 0) then 1 else 0))=(z:Int)/\1<=z/\z<=7:=by
  cases decide (V.int e=V.int 0)
  ·exact⟨(1+m).toNat,by simp;lia,by lia,by lia⟩
  ·exact⟨(1+m * 2).toNat,by simp;lia,by lia,by lia⟩
 obtain⟨z,ez,z1,z7⟩:=a3;refine⟨_,_,rfl,rfl,_,_,rfl,rfl,.inl ⟨by lia,by lia⟩,_,_,rfl,rfl,?_⟩;refine⟨(z:Int),?_,by lia,by lia,?_⟩
 ·show [V.int (1+m * (1+(if decide (V.int e=V.int 0) then 1 else 0)))]=_;rw[ez]
 rw[bAQ];refine iT (n:=z) (λi σ u=>Fx a H u/\∃(us:List V) (hd:Hdr) (l4 l5:Option V),u p=some (.lst us)/\hd.length=i/\cG (IsC K u) us hd/\(∀(j:Nat) (c:Str × Str),hd[j]?=some c->G[3+(g+j) % 8]?=some c.1/\aQ6 c.2)/\σ=[some (.ref a),some (.ref N),some (.int (g:Nat)),some (.ref p),l4,l5]) ⟨R,[],[],_,_,g4,rfl,.nil,λj c h=>by simp at h,rfl⟩ ?_ ?_
 ·rintro i σ u hi ⟨fx,us,hd,l4,l5,gp,hl,hu,hc,rfl⟩;have lu:=hu.len;refine⟨(by show 3<=sizeLine;decide),λp1 H5 X l I=>?_⟩;refine⟨_,rfl,a,3,rfl,fx.st.same l,by decide,λd H6 B d0 d1=>?_⟩;obtain⟨kv,a2,r⟩:=at_of (xs:=[.str "number",.str "number",.str "word"]) d0 (by show d<3;lia);obtain⟨C,rfl,O⟩:∃C:Str,kv=.str C/\aQ6 C:=by
   simp only[bAN,bAB,or_false] at r;rcases r with rfl|rfl|rfl
   ·exact⟨_,rfl,.inl rfl⟩
   ·exact⟨_,rfl,.inl rfl⟩
   ·exact⟨_,rfl,.inr rfl⟩
  have x:=(fx.sm l).trans B;refine⟨p1,_,_,_,rfl,rfl,SqL.of (B.same _ _ (fx.st.ne X) I),a2,?_⟩;have b:=B.same _ _ k (l _ _ gp);have a0:=x.same _ _ nN hN;have W:cG (IsC K H6) us hd:=hu.imp λ_ _ ⟨Z,J,S⟩=>⟨Z,J,B.aR (fx.st.same l) (l.aR S)⟩;have o:3+(g+i) % 8<G.length:=by lia
  refine⟨_,rfl,.inl ⟨rfl,_,SqL.of b⟩,?_⟩;refine⟨_,rfl,_,rfl,_,rfl,_,_,rfl,rfl,_,_,rfl,rfl,(by show (0:Int)<8;decide),_,_,rfl,rfl,N,_,_,.str G[3+(g+i) % 8],rfl,rfl,SqL.of a0,?_,_,rfl,(by show 2<=sizeLine;decide),λt H7 ft D g7=>?_⟩
  ·have e8:(3:Int)+((g:Int)+(0+(i:Int))) % 8=((3+(g+i) % 8:Nat):Int):=by lia
   rw[e8];exact bH (by rw[v7,b8 o];rfl)
  refine⟨p,_,_,rfl,rfl,D _ _ b,mU (by lia),?_⟩;have L:=(aQ b ft).symm;refine⟨(x.sm D).upd y k,us++[.ref t],hd++[(G[3+(g+i) % 8],C)],_,_,aF,by rw[w6,hl];rfl,?_,λj c h=>?_,rfl⟩
  ·refine (W.imp λ_ _ ⟨Z,J,S⟩=>⟨Z,J,(D.aR S).jA (D _ _ b)⟩).app (.cons ⟨t,rfl,SqT.of (by rw[aK L];exact g7)⟩ .nil)
  ·by_cases U:j<hd.length
   ·rw[bBJ U] at h;exact hc j c h
   ·rw[bBG (by lia)] at h;have a1:j - hd.length=0:=by
     by_cases z0:j - hd.length=0
     ·exact z0
     ·rw[bAA (by simp;lia)] at h;cases h
    rw[a1] at h;cases h;have:j=i:=by lia
    subst this;exact⟨b8 o,O⟩
 ·rintro σ u ⟨fx,us,hd,l4,l5,gp,hl,hu,hc,rfl⟩;refine⟨_,rfl,p,us,rfl,SqL.of gp,λt H5 _ l I=>q _ _ hd (fx.sm l) ⟨t,us,rfl,SqT.of I,hu.imp λ_ _ h=>h.same l⟩ ⟨⟨aSt hn (by lia) λj c h=>(hc j c h).1,by lia,by lia⟩,λc M=>?_⟩ (by lia)⟩;obtain⟨j,U,e⟩:=bBA M;have h2:=hc j c (by rw[b8 U,e]);exact⟨hn.2.1 _ (t8 h2.1),h2.2⟩
def TK (K:bF4)(H H':Hp):Prop:=∀p xs,SqT K H p xs->SqT K H' p xs
def _root_.L2.Fx.tk (f:Fx a H H')(h:iG H a):TK K H H':=λ_ _ e=>f.aR h e
def TK.of (s:Same H H'):TK K H H':=λ_ _ e=>s.aR e
def IsC.tk (e:TK K H H')(h:IsC K H v c):IsC K H' v c:=by obtain⟨p,rfl,a⟩:=h;exact⟨p,rfl,e _ _ a⟩
def aPp {α:Type}{K:bF4}{H H':Hp}{R S:V->α->Prop}{v:V}{xs:List α}(e:TK K H H')(k:∀a b,R a b->S a b)(h:lU K H R v xs):lU K H' S v xs:=by obtain⟨a,c,rfl,d,f⟩:=h;exact⟨a,c,rfl,e _ _ d,f.imp k⟩
theorem jG.tk (e:TK K H H')(h:jG K H v hd):jG K H' v hd:=aPp e (λ_ _ q=>q.tk e) h
theorem aSz (a:(hd.map (·.1)).Nodup)(h:c∈hd):look hd c.1=some c.2:=by
 induction hd with
 |nil=>cases h
 |cons x r ih=>
  rw[bAL,bFN] at a;unfold look;rw[bCH];rcases List.mem_cons.mp h with rfl|h
  ·rw[m9 rfl];rfl
  ·have b:¬ x.1=c.1:=λz=>a.1 (by rw[z];exact List.mem_map.mpr ⟨c,h,rfl⟩);rw[v9 b];exact ih a.2 h
theorem aBq {α β:Type}{R:α->β->Prop}:∀{as:List α} {bs:List β},as.length=bs.length->(∀(i:Nat) (a:α) (b:β),as[i]?=some a->bs[i]?=some b->R a b)->cG R as bs
 |[],[],_,_=>.nil
 |[],_::_,h,_=>by cases h
 |_::_,[],h,_=>by cases h
 |a::as,b::bs,h,k=>.cons (k 0 a b rfl rfl) (aBq (by simpa using h) λi x y c d=>k (i+1) x y (by simpa using c) (by simpa using d))
theorem qN {α:Type}:∀(k:Nat) (xs:List α),sel (λ_=>true) k xs=xs
 |_,[]=>rfl
 |k,x::r=>by show (if true=true then x::sel (λ_=>true) (k+1) r else _)=_;rw[if_pos rfl,qN (k+1) r]
def oR (h:rO R (List.range n) ys):ys.length=n/\∀i y,ys[i]?=some y->R i y:=by
 have b:∀{c:List Nat} {ys:List V},rO R c ys->∀(i:Nat) (y:V),ys[i]?=some y->∃j,c[i]?=some j/\R j y:=by
  intro c ys h
  induction h with
  |nil=>intro i y e;simp at e
  |cons r _ ih=>
   intro i y e;cases i with
   |zero=>cases e;exact⟨_,rfl,r⟩
   |succ i=>obtain⟨j,a,d⟩:=ih i y (by simpa using e);exact⟨j,by simpa using a,d⟩
 have l:=h.len;rw[bAH] at l;refine⟨l.symm,λi y e=>?_⟩;obtain⟨j,a,d⟩:=b h i y e;have f:i<n:=by have:=(List.getElem?_eq_some_iff.mp e).1;lia
 rw[bCP f] at a;cases a;exact d
theorem aVm (h:KdR ks r):∀x∈r,(∃i,x=.int i)\/∃z,x=.str z:=by
 unfold KdR at h
 induction h with
 |nil=>intro x hx;cases hx
 |@cons b y _ _ h _ ih=>
  intro x hx;rcases List.mem_cons.mp hx with rfl|hx
  ·cases b with
   |true=>exact .inl h
   |false=>exact .inr h
  ·exact ih x hx
inductive aF3 (K:bF4)(vs:List V)(H:Hp)(Q:VK)(E_:XK):Prop
 |mk (a:Addr) (vh:V) (hd:Hdr) (_:vs=[.ref a,vh]) (_:iG H a) (_:jG K H vh hd) (_:aQf hd) (_:∀t H' r,Fx a H H'->H' t=some (.tup r)->gC hd r->Q (.ref t) H')
def aJn (T:Txt w K mg)(oH:Ok P w K mg base 3 "_law_value" bQI aIb):Ok P w K mg base 4 "_law_row" bQA (aF3 K):=by
 refine Ok.ofV T.aOc aI2 (by trivial) (λf a0 A C s H vs Q E hr h=>?_)
 obtain⟨a,vh,hd,rfl,o,⟨b,S,rfl,z,O⟩,⟨B,F⟩,q⟩:=h;refine⟨_,(aD (aJ (cC lD (by rfl) T.gU eY (va1 (cI (N:=["_law_name","_law_kind","_law_state"]) (by trivial) (eE (aC uG) rfl (by decide +kernel)) rfl (pM (vv 1)) (λcl s' l fp=>⟨(rK (K:=K) (n:=2) rfl (aX (bJ (i:=0) (show (["_law_name","_law_kind","_law_state"]:List Str).Nodup from by decide +kernel) rfl (Or.inl rfl)) (aX (bJ (i:=1) (show (["_law_name","_law_kind","_law_state"]:List Str).Nodup from by decide +kernel) rfl (Or.inl rfl)) eQ))),fW,(aV oH (aH (vv 2) (va1 (vv 1))))⟩)))))),?_⟩;have lu:=O.len;have l8:=B.2.2;dsimp only[rA,tCB,dI];refine vL [none,none,some (.ref a)] ?_ ⟨_,rfl,b,rfl,⟨_,z⟩,aIv (Fx a) (aS0 o) S (λ_=>true) (λi _ y=>∃d,hd[i]?=some d/\cD d.2 y) (λ_ _ h=>h) (λ_ _ _ h=>h) (λi σ=>∃d,hd[i]?=some d/\At2 [none,none,some (.ref a)] (.str d.1) (.str d.2) σ) (Ps2 [none,none,some (.ref a)]) ⟨none,none,rfl⟩ (small (by lia)) _ (aG8 λl e=>e.aR o z) (uT λl e=>e.aR o z) (λi x σ' l Q' u p e W=>?_) (λi x I u L l R e r=>r l (Fx.refl e.st)) (λi x I u L hp l R e r=>?_) λD H6 ys U fD g6 m=>?_⟩
 ·refine⟨rfl,λi y v j g=>?_⟩
  match i,j,g with
  |0,_,g=>cases g
  |1,_,g=>cases g
  |2,j,g=>cases j;cases g;exact⟨by decide +kernel,0,rfl,rfl,by trivial⟩
  |i+3,j,_=>cases j
 ·obtain⟨d,c,p',rfl,J⟩:=cA O u;exact hg2 (e.aR o J) p fun I j g=>W I j ⟨d,c,g⟩
 ·obtain⟨d,c,rfl⟩:=L;exact⟨_,rfl,_,rfl,a,d.2,rfl,e.st,(F d (t8 c)).2,λv V f2 G=>r v V f2 ⟨d,c,G⟩⟩
 ·rw[qN] at m;obtain⟨l1,l2⟩:=oR m;refine⟨D,_,rfl,SqL.of g6,λt Z _ s3 X=>q t Z ys (U.sm s3) X (aBq (by lia) λi k y M Y=>?_)⟩;obtain⟨d,c,G⟩:=l2 i y Y;rw[c] at M;cases M;exact G
end
end My
namespace L2
open PySem PySem.Spec PyProof.Rows
theorem aUt (c:KdV k a)(d:KdV k b)(h:kvlt a b=true):kvlt b a=false:=by
 cases k with
 |true=>obtain⟨x,rfl⟩:=c;obtain⟨y,rfl⟩:=d;have:=of_decide_eq_true (show decide (x<y)=true from h);exact v9 (by lia)
 |false=>obtain⟨x,rfl⟩:=c;obtain⟨y,rfl⟩:=d;have:=of_decide_eq_true (show decide (x.cps.toList<y.cps.toList)=true from h);exact v9 (List.lt_asymm this)
theorem bAe (h:KdV k a)(i:KdV k b)(e:KdV k c)(d:kvlt b a=false)(j:kvlt c b=false):kvlt c a=false:=by
 cases k with
 |true=>obtain⟨x,rfl⟩:=h;obtain⟨y,rfl⟩:=i;obtain⟨z,rfl⟩:=e;have:=of_decide_eq_false (show decide (y<x)=false from d);have:=of_decide_eq_false (show decide (z<y)=false from j);exact v9 (by lia)
 |false=>obtain⟨x,rfl⟩:=h;obtain⟨y,rfl⟩:=i;obtain⟨z,rfl⟩:=e;have g:=of_decide_eq_false (show decide (y.cps.toList<x.cps.toList)=false from d);have f:=of_decide_eq_false (show decide (z.cps.toList<y.cps.toList)=false from j);exact v9 (List.not_lt.mpr (List.le_trans (List.not_lt.mp g) (List.not_lt.mp f)))
theorem aUm (h:KdV k a)(j:KdV k b)(d:kvlt a b=false)(l:kvlt b a=false):a=b:=by
 cases k with
 |true=>obtain⟨x,rfl⟩:=h;obtain⟨y,rfl⟩:=j;have:=of_decide_eq_false (show decide (x<y)=false from d);have:=of_decide_eq_false (show decide (y<x)=false from l);rw[show x=y by lia]
 |false=>obtain⟨x,rfl⟩:=h;obtain⟨y,rfl⟩:=j;have g:=of_decide_eq_false (show decide (x.cps.toList<y.cps.toList)=false from d);have f:=of_decide_eq_false (show decide (y.cps.toList<x.cps.toList)=false from l);have e:=List.le_antisymm (List.not_lt.mp f) (List.not_lt.mp g);obtain⟨⟨i⟩⟩:=x;obtain⟨⟨c⟩⟩:=y;have:i=c:=e;rw[this]
theorem jB {k:Bool}{ks:List Bool}{a b:V}{r q:List V}(c:KdV k a)(d:KdV k b):rlt (a::r) (b::q)=if a=b then rlt r q else kvlt a b:=by
 cases k with
 |true=>
  obtain⟨x,rfl⟩:=c;obtain⟨y,rfl⟩:=d;show (if (x == y)=true then rlt r q else decide (x<y))=_;by_cases e:x=y
  ·subst e;rw[if_pos (by simp),if_pos rfl]
  ·rw[if_neg (by simpa using e),if_neg (by intro z;exact e (V.int.inj z))];rfl
 |false=>
  obtain⟨x,rfl⟩:=c;obtain⟨y,rfl⟩:=d;show (if (x == y)=true then rlt r q else decide (x.cps.toList<y.cps.toList))=_;by_cases e:x=y
  ·subst e;rw[if_pos (by simp),if_pos rfl]
  ·rw[if_neg (by simpa using e),if_neg (by intro z;exact e (V.str.inj z))];rfl
theorem aVs {ks:List Bool}{a:List V}(p:KdR ks a):∀{b},KdR ks b->rlt a b=true->rlt b a=false:=by
 induction p with
 |nil=>intro b q h;cases q;cases h
 |@cons k x ks a ha ta ih=>
  intro b q h;obtain _|⟨hb,tb⟩:=q;rename_i y b;rw[jB (ks:=ks) ha hb] at h;rw[jB (ks:=ks) hb ha];by_cases e:x=y
  ·rw[if_pos e] at h;rw[if_pos e.symm];exact ih tb h
  ·rw[if_neg e] at h;rw[if_neg (Ne.symm e)];exact aUt ha hb h
theorem bAk {ks:List Bool}{a:List V}(p:KdR ks a):∀{b c},KdR ks b->KdR ks c->rlt b a=false->rlt c b=false->rlt c a=false:=by
 induction p with
 |nil=>intro b c q r _ _;cases q;cases r;rfl
 |@cons k x ks a ha ta ih=>
  intro b c q r e d;obtain _|⟨hb,tb⟩:=q;obtain _|⟨hc,tc⟩:=r;rename_i y b z c;rw[jB (ks:=ks) hb ha] at e;rw[jB (ks:=ks) hc hb] at d;rw[jB (ks:=ks) hc ha];by_cases g:y=x
  ·subst g;rw[if_pos rfl] at e;by_cases f:z=y
   ·subst f;rw[if_pos rfl] at d ⊢;exact ih tb tc e d
   ·rw[if_neg f] at d ⊢;exact d
  ·rw[if_neg g] at e;by_cases f:z=y
   ·subst f;rw[if_neg g];exact e
   ·rw[if_neg f] at d;by_cases h:z=x
    ·subst h;exact absurd (aUm hc hb d e) f
    ·rw[if_neg h];exact bAe ha hb hc e d
theorem aUk {ks:List Bool}{a:List V}(p:KdR ks a):∀{b},KdR ks b->rlt a b=false->rlt b a=false->a=b:=by
 induction p with
 |nil=>intro b q _ _;cases q;rfl
 |@cons k x ks a ha ta ih=>
  intro b q c d;obtain _|⟨hb,tb⟩:=q;rename_i y b;rw[jB (ks:=ks) ha hb] at c;rw[jB (ks:=ks) hb ha] at d;by_cases e:x=y
  ·subst e;rw[if_pos rfl] at c d;rw[ih tb c d]
  ·rw[if_neg e] at c;rw[if_neg (Ne.symm e)] at d;exact absurd (aUm ha hb c d) e
def getD_mem {α:Type}{l:List α}{d:α}(hd:d∈l)(i:Nat):l.getD i d∈l:=by
 by_cases h:i<l.length
 ·rw[j4,b8 h];exact bAT h
 ·rw[j4,bAA (by lia)];exact hd
def range_getD {α:Type}(l:List α)(d:α):(List.range l.length).map (λi=>l.getD i d)=l:=by
 refine bCC λi=>?_;by_cases h:i<l.length
 ·rw[v7,bCP h,b8 h,Option.map_some,j4,b8 h];rfl
 ·rw[bAA (by simpa using h),bAA (by lia)]
theorem bEr {α:Type}{o:α->α->Bool}(l:List α)(d:α){n:Nat}(C:n=l.length)(f:∀a∈l,∀b∈l,o a b=true->o b a=false)(w:∀a∈l,∀b∈l,∀c∈l,o b a=false->o c b=false->o c a=false) :
  ((PySem.W.dM n λi j=>o (l.getD i d) (l.getD j d)).map λi=>l.getD i d).Perm l/\((PySem.W.dM n λi j=>o (l.getD i d) (l.getD j d)).map λi=>l.getD i d).Pairwise λa b=>o b a=false:=by
 subst C;cases l with
 |nil=>
  have e:PySem.W.dM ([]:List α).length (λi j=>o (([]:List α).getD i d) (([]:List α).getD j d))=[]:=by have:=PySem.W.rC ([]:List α).length (λi j=>o (([]:List α).getD i d) (([]:List α).getD j d));exact List.length_eq_zero_iff.mp this
  rw[e];exact⟨.nil,.nil⟩
 |cons x0 l0=>
  generalize z:x0::l0=l at f w;have m:x0∈l:=by rw[<-z];exact j0
  have p:PySem.W.dM l.length (λi j=>o (l.getD i d) (l.getD j d))=PySem.W.dM l.length (λi j=>o (l.getD i x0) (l.getD j x0)):=PySem.W.N4.aMz λi j q s=>by rw[j4,j4,j4,j4,b8 q,b8 s];rfl
  have S:PySem.W.N4.Swo λi j=>o (l.getD i x0) (l.getD j x0):=⟨λ{i j} h=>f _ (getD_mem m i) _ (getD_mem m j) h,λ{i j k} r y=>w _ (getD_mem m i) _ (getD_mem m j) _ (getD_mem m k) r y⟩;obtain⟨t,u⟩:=PySem.W.N4.aLr S;rw[<-p] at t u;have g:∀i∈PySem.W.dM l.length (λi j=>o (l.getD i d) (l.getD j d)),i<l.length:=λi q=>PySem.W.mR q;refine⟨?_,?_⟩
  ·have:=t.map λi=>l.getD i d;rw[range_getD] at this;exact this
  ·refine List.pairwise_map.mpr (bEF ?_ u);intro i j q s r;have B:=g i q;have v:=g j s;have A:l.getD i x0=l.getD i d:=by rw[j4,j4,b8 B];rfl
   have x:l.getD j x0=l.getD j d:=by rw[j4,j4,b8 v];rfl
   rw[A,x] at r;exact r
def jR (h:∀r∈rs,KdR ks r):(srt rs).Perm rs/\(srt rs).Pairwise λa b=>rlt b a=false:=by obtain⟨f,i⟩:=bEr rs [] rfl (λa d b e=>aVs (h a d) (h b e)) (λa d b e c g=>bAk (h a d) (h b e) (h c g));exact⟨f,i⟩
theorem zB {α:Type}{lt:α->α->Bool}:∀{l m:List α},l.Perm m->(∀a∈l,∀b∈l,lt a b=false->lt b a=false->a=b)->l.Pairwise (λa b=>lt b a=false)->m.Pairwise (λa b=>lt b a=false)->l=m
 |[],m,p,_,_,_=>(List.perm_nil.mp p.symm).symm
 |a::l,[],p,_,_,_=>absurd (List.perm_nil.mp p) (by simp)
 |a::l,b::m,p,anti,hl,hm=>by
  rw[List.pairwise_cons] at hl hm;have d:=p.subset j0;have c:=p.symm.subset j0;have e:a=b:=by
   rcases List.mem_cons.mp d with z|z
   ·exact z
   ·rcases List.mem_cons.mp c with y|y
    ·exact y.symm
    ·exact anti a j0 b c (hm.1 a z) (hl.1 b y)
  subst e;rw[zB (List.Perm.cons_inv p) (λx g y f=>anti x (j5 _ g) y (j5 _ f)) hl.2 hm.2]
def pN (h:∀r∈rs,KdR ks r)(p:rs.Perm qs):srt rs=srt qs:=by have l:∀r∈qs,KdR ks r:=λr c=>h r (p.symm.subset c);obtain⟨d,i⟩:=jR h;obtain⟨g,f⟩:=jR l;have e:∀r∈srt rs,KdR ks r:=λr c=>h r (d.subset c);exact zB (d.trans (p.trans g.symm)) (λa j b k=>aUk (e a j) (e b k)) i f
end L2
namespace PySem.SeqAt
open PySem PySem.Spec
abbrev opG:Bool->CmpOp
 |true=>.Gt
 |false=>.LtE
def aZf (g:Bool)(A:Around)(s:Shared)(y x:Value)(b:Bool):Prop:=
 ∀prog w E Q,Q (.bool b) s->wpAny (model prog w) A (richCompare (opG g) y x) Q E s
def fnG:Bool->Args->Sem Fin
 |true=>Builtin.«tuple.__gt__»
 |false=>Builtin.«tuple.__le__»
def leW (e c:Nat->Bool)(l:List Nat)(z:Bool):Bool:=l.foldr (λj acc=>if e j then acc else c j) z
def aLm (g z:Bool)(G:z=!g)(l b:Addr)(items items2:Array Value)(n n2:Nat)(dd dd2:Option Addr)(sl sl2:Array (Option Value))(e c:Nat->Bool)(q:items.size=items2.size) :
  Meets (fnG g ⟨[.ref l,.ref b],[]⟩)
   (λA R s=>s.heap.get? l=some { cls:=.type "tuple",dict:=dd,data:=.seq items n,slots:=sl }/\s.heap.get? b=some { cls:=.type "tuple",dict:=dd2,data:=.seq items2 n2,slots:=sl2 } /\
    (∀j (h1:j<items.size) (h2:j<items2.size),EqAt A.in1 s items[j] items2[j] (e j))/\(∀j (h1:j<items.size) (h2:j<items2.size),aZf g A.in1 s items[j] items2[j] (c j)) /\
    R (.ok (.ret (.bool (leW e c (List.range items.size) z)))) s):=
 .of_wp λa w A R s h=>by
  cases g;all_goals
   unfold fnG;obtain⟨t,r,d,o,m⟩:=s;obtain⟨I,K,F,J,h⟩:=h;have N:=AutoSeq1.sub_tuple_tuple;have C:(items.toList.zip items2.toList).length=items.size:=by simp[q]
   wp_walk using wpAny_loadPart' I,wpAny_loadPart' K,bFH _ (λk b B=>b.1=none/\B=⟨t,r,d,o,m⟩/\∃i,k=(items.toList.zip items2.toList).drop i /\
    R (.ok (.ret (.bool (leW e c ((List.range items.size).drop i) z)))) ⟨t,r,d,o,m⟩) _
   case turn=>
    rintro⟨y,x⟩ k b B ⟨hb',rfl,i,hz,hR⟩;have p:i<(items.toList.zip items2.toList).length:=by
     rcases Nat.lt_or_ge i (items.toList.zip items2.toList).length with h'|h'
     ·exact h'
     ·rw[bEW h'] at hz;cases hz
    have h1:i<items.size:=C ▸ p;have h2:i<items2.size:=q ▸ h1;rw[bDZ p] at hz;injection hz with hyx hrest;have u:y=items[i]:=by have:=congrArg Prod.fst hyx;simpa using this
    have D:x=items2[i]:=by have:=congrArg Prod.snd hyx;simpa using this
    subst u D;have hd:(List.range items.size).drop i=i::(List.range items.size).drop (i+1):=by simp[bDZ,h1]
    rw[hd] at hR;have f:R (.ok (.ret (.bool (if e i then leW e c ((List.range items.size).drop (i+1)) z else c i)))) ⟨t,r,d,o,m⟩:=hR;refine b7 (F i h1 h2 a w _ _ ?_);cases u:e i with
    |true=>rw[u] at f;wp_walk;exact⟨rfl,rfl,i+1,hrest,by simpa using f⟩
    |false=>rw[u] at f;have H:∀{E:bF5} {Q:bF5},Q (.bool (c i)) ⟨t,r,d,o,m⟩->wpAny (model a w) A.in1 (richCompare _ items[i] items2[i]) Q E ⟨t,r,d,o,m⟩:=λ{E Q} h=>J i h1 h2 a w E Q h;wp_walk using H;exact⟨_,rfl,by simpa using f⟩
   case fin=>
    rintro⟨M,L⟩ B ⟨hb',rfl,i,hz,hR⟩;simp only at hb';subst hb';have v:items.size<=i:=by
     rcases Nat.lt_or_ge i (items.toList.zip items2.toList).length with h'|h'
     ·rw[bDZ h'] at hz;cases hz
     ·exact C ▸ h'
    rw[bEW (by simpa using v)] at hR;wp_walk;exact⟨_,rfl,by simpa [Builtin.Tuple.tupleCompareSizes,q,leW,G] using hR⟩
   case h=>exact⟨rfl,rfl,0,rfl,by simpa using h⟩
end PySem.SeqAt
namespace L2
open PySem PySem.Spec PyProof.Rows
theorem aKm (g:Bool):∀{ks:List Bool} {a b:List V},KdR ks a->KdR ks b->SeqAt.leW (λj=>decide (a.getD j .non=b.getD j .non)) (λj=>kvlt (b.getD j .non) (a.getD j .non) == g) (List.range a.length) (!g)=(rlt b a == g)
 |_,_,_,.nil,.nil=>by cases g <;> rfl
 |_,x::a,y::b,.cons (as:=ks) ha ta,.cons hb tb=>by
  have c:=aKm g ta tb;rw[jB (ks:=ks) hb ha,m8,List.range_succ_eq_map];show (if decide (x=y)=true then SeqAt.leW (λj=>decide ((x::a).getD j .non=(y::b).getD j .non)) (λj=>kvlt ((y::b).getD j .non) ((x::a).getD j .non) == g) ((List.range a.length).map Nat.succ) (!g) else (kvlt y x == g))=_;by_cases e:x=y
  ·rw[if_pos (m9 e),if_pos e.symm,<-c];unfold SeqAt.leW;rw[List.foldr_map];rfl
  ·rw[if_neg (by rw[v9 e];exact v5),if_neg (Ne.symm e)]
section
variable {X:Cx}
def bEo (g:Bool)(K:bF4):R2:=λx y H Q=>∃ks r q,cL K H x r/\cL K H y q/\KdR ks r/\KdR ks q/\Q (.bl (rlt q r == g)) H
theorem aPe (g:Bool)(hu:X.A.units+64<cLine):OpR X (compareOp (SeqAt.opG g)) (bEo g X.K):=by
 intro a4 s σ H x y v u Q I rx ry h;obtain⟨ks,r,q,⟨a,rfl,ha⟩,⟨b,rfl,hb⟩,hr,Z,M⟩:=h;cases rx;cases ry;obtain⟨f,r1,⟨⟨a5,dd,a2,sl⟩,W,hc,n,hd⟩,hz⟩:=I.tuple ha;obtain⟨i,r2,⟨⟨a3,a0,Y,a1⟩,o,S,n2,O⟩,hw⟩:=I.tuple hb;simp only at hc hd S O;subst hc hd S O;have l1:=r1.length;have l2:=r2.length;have D:=Al2.len hr;have G:=Al2.len Z;have B:∀j (p:j<f.toArray.size) (C:j<i.toArray.size),∃k,KdV k (r.getD j .non)/\KdV k (q.getD j .non)/\RelV (r.getD j .non) f.toArray[j]/\RelV (q.getD j .non) i.toArray[j]:=λj p C=>by
  rw[d9] at p C;have hj:j<ks.length:=by lia
  have J:j<r.length:=by lia
  have L:j<q.length:=by lia
  have er:r.getD j .non=r[j]:=by simp[J]
  have eq:q.getD j .non=q[j]:=by simp[L]
  obtain⟨w1,g1,g2⟩:=r1.get (b8 J);obtain⟨w2,g3,g4⟩:=r2.get (b8 L);rw[er,eq];refine⟨ks[j],hr.get (b8 hj) (b8 J),Z.get (b8 hj) (b8 L),?_,?_⟩
  ·rw[bCA,(List.getElem?_eq_some_iff.mp g1).2];exact g2
  ·rw[bCA,(List.getElem?_eq_some_iff.mp g3).2];exact g4
 have sz:f.toArray.size=r.length:=by rw[d9];lia
 have sj:f.toArray.size=i.toArray.size:=by rw[d9,d9];lia
 have tc:=SeqAt.aLm g (!g) rfl a b f.toArray i.toArray n n2 dd a0 sl a1 (λj=>decide (r.getD j .non=q.getD j .non)) (λj=>kvlt (q.getD j .non) (r.getD j .non) == g) sj;have t:=aKm g hr Z;have l:∀j (p:j<f.toArray.size) (C:j<i.toArray.size),SeqAt.EqAt X.A.in1 s f.toArray[j] i.toArray[j] (decide (r.getD j .non=q.getD j .non)):=λj p C=>by
  obtain⟨k,D,G,l,m⟩:=B j p C;generalize r.getD j .non=y1 at D l;generalize q.getD j .non=y2 at G m;generalize f.toArray[j]=w1 at l;generalize i.toArray[j]=w2 at m;cases k with
  |true=>
   obtain⟨c,rfl⟩:=D;obtain⟨d,rfl⟩:=G;obtain⟨N,rfl⟩:=l;obtain⟨R,rfl⟩:=m;have z:=bEL (A:=X.A.in1) (s:=s) c N d R;have e:(c == d)=decide (V.int c=V.int d):=by by_cases e:c=d <;> simp[e]
   rw[<-e];exact z
  |false=>
   obtain⟨c,rfl⟩:=D;obtain⟨d,rfl⟩:=G;obtain⟨N,rfl⟩:=l;obtain⟨R,rfl⟩:=m;have z:=bDK (A:=X.A.in1) (s:=s) c N d R;have e:(c == d)=decide (V.str c=V.str d):=by by_cases e:c=d <;> simp[e]
   rw[<-e];exact z
 have m:∀j (p:j<f.toArray.size) (C:j<i.toArray.size),SeqAt.aZf g X.A.in1 s f.toArray[j] i.toArray[j] (kvlt (q.getD j .non) (r.getD j .non) == g):=λj p C=>by
  obtain⟨k,D,G,l,m⟩:=B j p C;generalize r.getD j .non=y1 at D l;generalize q.getD j .non=y2 at G m;generalize f.toArray[j]=w1 at l;generalize i.toArray[j]=w2 at m;cases k with
  |true=>
   obtain⟨c,rfl⟩:=D;obtain⟨d,rfl⟩:=G;obtain⟨N,rfl⟩:=l;obtain⟨R,rfl⟩:=m;intro T w E Q U;cases g
   ·refine le_int ?_;have e:decide (c<=d)=(kvlt (.int d) (.int c) == false):=by show decide (c<=d)=(decide (d<c) == false);by_cases z:c<=d <;> simp[z] <;> lia
    rw[e];exact U
   ·refine gt_int ?_;rw[show decide (d<c)=(kvlt (.int d) (.int c) == true) by show _=(decide (d<c) == true);simp];exact U
  |false=>
   obtain⟨c,rfl⟩:=D;obtain⟨d,rfl⟩:=G;obtain⟨N,rfl⟩:=l;obtain⟨R,rfl⟩:=m;intro T w E Q U;cases g
   ·refine P.le_str ?_;rw[show (!decide (d.cps.toList<c.cps.toList))=(kvlt (.str d) (.str c) == false) by show _=(decide (d.cps.toList<c.cps.toList) == false);simp];exact U
   ·refine P.gt_str ?_;rw[show decide (d.cps.toList<c.cps.toList)=(kvlt (.str d) (.str c) == true) by show _=(decide (d.cps.toList<c.cps.toList) == true);simp];exact U
 rw[<-sz] at t;rw[<-t] at M;cases g
 ·exact richCompare_meets_room (op:=.LtE) ⟨_,W,rfl⟩ ⟨_,o,rfl⟩ F.slot_tuple_le F.entry_tuple_le (F.args_tuple_le_2 _ _) tc ⟨W,o,l,m,(λz=>nomatch z),⟨.bl _,H,I,rfl,M⟩⟩ (by lia)
 ·exact richCompare_meets_room (op:=.Gt) ⟨_,W,rfl⟩ ⟨_,o,rfl⟩ F.slot_tuple_gt F.entry_tuple_gt (F.args_tuple_gt_2 _ _) tc ⟨W,o,l,m,(λz=>nomatch z),⟨.bl _,H,I,rfl,M⟩⟩ (by lia)
def bC4 (K:bF4):R2:=λx y H Q=>∃ks r q,cL K H x r/\cL K H y q/\KdR ks r/\KdR ks q/\Q (.bl (!rlt q r)) H
def bD4 (K:bF4):R2:=λx y H Q=>∃ks r q,cL K H x r/\cL K H y q/\KdR ks r/\KdR ks q/\Q (.bl (rlt q r)) H
def bAi (j:X.A.units+64<cLine):OpR X (compareOp .LtE) (bC4 X.K):=λa s σ H x y v u Q I f i ⟨c,r,q,b,e,d,g,h⟩=>aPe false j a s σ H x y v u Q I f i ⟨c,r,q,b,e,d,g,by rw[show (rlt q r == false)=!rlt q r by simp];exact h⟩
def aUu (j:X.A.units+64<cLine):OpR X (compareOp .Gt) (bD4 X.K):=λa s σ H x y v u Q I f i ⟨c,r,q,b,e,d,g,h⟩=>aPe true j a s σ H x y v u Q I f i ⟨c,r,q,b,e,d,g,by rw[show (rlt q r == true)=rlt q r by simp];exact h⟩
theorem aF2 {K:bF4}{H:Hp}:∀{r:List V},(∀x∈r,(∃i,x=.int i)\/∃z,x=.str z)->∀n,Al2 (DEq K H n) r r
 |[],_,_=>.nil
 |x::r,h,n=>.cons (by rcases h x j0 with⟨i,rfl⟩|⟨z,rfl⟩ <;> cases n <;> first|exact⟨rfl,rfl⟩|exact .inl ⟨rfl,rfl⟩) (aF2 (λy a=>h y (j5 _ a)) n)
def aUf {K:bF4}{H:Hp}{us ws:List V}{rs:List (List V)}(e:Al2 (cL K H) us rs)(k:Al2 (cL K H) ws rs)(l:∀r∈rs,∀x∈r,(∃i,x=.int i)\/∃z,x=.str z):Al2 (DEq K H 40) us ws:=by refine Al2.of (e.len.trans k.len.symm) λi u w g f=>?_;obtain⟨r,d,a,rfl,h⟩:=e.at g;obtain⟨m,c,b,rfl,j⟩:=k.at f;rw[d] at c;cases c;exact .inr ⟨a,b,r,r,rfl,rfl,h,j,aF2 (l r (t8 d)) 39⟩
def aXy (K:bF4):R2:=λx y H Q=>∃a b us ws rs,x=.ref a/\y=.ref b/\SqL K H a us/\SqL K H b ws/\Al2 (cL K H) us rs/\Al2 (cL K H) ws rs/\(∀r∈rs,∀x∈r,(∃i,x=.int i)\/∃z,x=.str z)/\Q (.bl false) H
def zA (hu:X.A.units+64<cLine):OpR X (compareOp .NotEq) (aXy X.K):=by
 intro m s σ H x y v u Q I w C h;obtain⟨a,b,D,M,G,rfl,rfl,z,B,i,k,n,q⟩:=h;cases w;cases C;obtain⟨j,f,r,F⟩:=I.list z;obtain⟨t,c,g,E⟩:=I.list B;have d:=aUf i k n;have l:=d.len;have J:=f.length;have L:=c.length;refine SeqAt.RcNeAt.lists (e:=λ_=>true) r.isList g.isList (by rw[d9,d9];lia) (by lia) (tV I f c d λd p o=>xM I 40 d p o (by show X.A.units+1+40<cLine;lia)) _ _ _ _ ?_;first
  |(rw[uY];exact⟨.bl _,H,I,rfl,q⟩)
  |(simp only[uY];exact⟨.bl _,H,I,rfl,q⟩)
end
end L2
namespace My
open PySem PySem.Spec PyProof.Rows L2
section
variable {P:Program}{w:World}{K:bF4}{mg:bF7}{base:Heap}
def aSg (a:X.A.units+1<cLine)(ho:VE X o td)(b:VE X e ty)(m:M1 X o "get" apos e cpos:=by exact⟨rfl,rfl,rfl,rfl⟩):VE X (.Call (.Attribute o "get" apos) [e] [] cpos) (aV6 td ty):=⟨aU7 a ho.1 b.1 m⟩
def bBp (b:X.A.units+1<cLine)(hi:VE X i ty)(ho:VE X o td)(a:behindInMarks .In o=false:=by first|exact nobehind _ (by decide) (by decide)|rfl):VT X (.Compare i [.In] [o] pos) (tB (bDa ty td)):=⟨aVh (bBk b hi.1 ho.1) a⟩
def aZy:Sp:=λ_ _ _ _=>False
structure bC (K:bF4)(H:Hp)(C x:Addr)(m:Int)(d dm:Addr)(es:List En):Prop where
 at_:∃dx,H x=some (.ins C dx [("placed",.ref d),("house_count",.int m),("moves",.ref dm)])
 ens:lA K H d es
 ok:∀e∈es,iV m e.t
 ne:d≠dm
theorem bC.same (s:Same H H')(h:bC K H C x m d dm es):bC K H' C x m d dm es:=
 ⟨let ⟨dx,h1⟩:=h.at_;⟨dx,s _ _ h1⟩,h.ens.same s,h.ok,h.ne⟩
structure Mv where
 num:Nat
 house:Int
 mark:Option (List V)
def aH2 (K:bF4)(H:Hp)(v:V):Option (List V)->Prop
 |none=>v=.non
 |some r=>cL K H v r
def mK (K:bF4)(H:Hp)(v:V)(q:Mv):Prop:=∃a vm,v=.ref a/\SqT K H a [.int q.num,.int q.house,vm]/\aH2 K H vm q.mark
theorem aH2.tk (k:∀p xs,SqT K H p xs->SqT K H' p xs)(h:aH2 K H v o):aH2 K H' v o:=by
 cases o with
 |none=>exact h
 |some r=>obtain⟨a,e,b⟩:=h;exact⟨a,e,k _ _ b⟩
theorem mK.tk (k:∀p xs,SqT K H p xs->SqT K H' p xs)(h:mK K H v q):mK K H' v q:=
 let ⟨a,vm,e,ha,hm⟩:=h;⟨a,vm,e,k _ _ ha,hm.tk k⟩
def mK.same (s:Same H H')(h:mK K H v q):mK K H' v q:=h.tk λ_ _=>s.aR
def aH2.same (s:Same H H')(h:aH2 K H v o):aH2 K H' v o:=h.tk λ_ _=>s.aR
def MvV (K:bF4)(H:Hp)(v:V):Option Mv->Prop
 |none=>v=.non
 |some q=>mK K H v q
def MvD (K:bF4)(H:Hp)(dm:Addr)(nm:Str)(o:Option Mv):Prop:=∃v,MvV K H v o/\H dm=some (.dK (match o with|none=>[]|some _=>[(Sum.inr nm,v)]))
theorem MvD.same {H H':Hp}{dm:Addr}{nm:Str}{o:Option Mv}(s:Same H H')(h:MvD K H dm nm o):MvD K H' dm nm o:=by
 obtain⟨v,a,b⟩:=h;refine⟨v,?_,s _ _ b⟩;cases o with
 |none=>exact a
 |some q=>exact mK.same s a
inductive aKg (K:bF4)(C Pt:Addr)(vs:List V)(H:Hp)(Q:VK)(E_:XK):Prop
 |mk (H0:Hp) (x dx d:Addr) (m:Int) (es:List En) (_:vs=[.ref x,.int m,.ref d]) (_:H x=some (.ins C dx [])) (_:H0 x=none) (_:Same H0 H) (_:1<=m) (_:m<=6) (_:lA K H0 d es) (_:(∀e∈es,iV m e.t)) (_:H0 Pt=some (.tab qC)) (_:∀d' dm H' es',H0 d'=none->H0 dm=none->Same H0 H'->bC K H' C x m d' dm es'->H' dm=some (.dK [])->cG (λe e'=>∃v L,e'=aCg e v L/\H0 L=none) es es'->Q .non H')
def aRe (T:Txt w K mg){C Pt:Addr}(c:Cls K C)(D:eG K C "__init__" "Store.__init__" iM ["self","houses","tables"])(n1:bL K C "placed")(n2:bL K C "house_count")(n3:bL K C "moves")(jE:Ok P w K mg base 10 "placed_tables" u6 (xU K Pt)):OkM P w K mg base C 11 "__init__" o8 (aKg K C Pt):=by
 refine OkM.ofV c D wX (by trivial) (λf a0 A F s H vs Q E hr h=>?_)
 obtain⟨H0,x,a,d,m,es,rfl,O,hN,n,m1,m6,Z,U,hP,q⟩:=h;refine⟨_,(aB (aC8 (K:=K) (vv 0) (aV jE (aH (vv 1) (va1 (vv 2))))) (aB (aC8 (K:=K) (vv 0) (vv 1)) (aD (aC8 (K:=K) (vv 0) aVr)))),?_⟩;refine⟨_,rfl,_,rfl,d,m,es,rfl,m1,m6,Z.same n,U,n _ _ hP,λi k J l N g W=>?_⟩;have p:=N _ _ O;refine⟨_,rfl,x,C,a,[],rfl,p,c,n1,by decide,?_⟩;refine⟨_,rfl,_,rfl,x,C,a,_,rfl,aF,c,n2,by show 1<1000;decide,?_⟩;have nx:eU k x:=eU.ins p;have r:i≠x:=λz=>by rw[z,O] at l;cases l
 have I:But x k (L2.upd (L2.upd k x (.ins C a (iH "placed" (.ref i) []))) x (.ins C a (iH "house_count" (.int m) (iH "placed" (.ref i) [])))):=λb o t h=>by rw[aK t,aK t];exact h
 have G:L2.upd (L2.upd k x (.ins C a (iH "placed" (.ref i) []))) x (.ins C a (iH "house_count" (.int m) (iH "placed" (.ref i) []))) x=some (.ins C a [("placed",.ref i),("house_count",.int m)]):=aF;have R:∀{b},L2.upd (L2.upd k x (.ins C a (iH "placed" (.ref i) []))) x (.ins C a (iH "house_count" (.int m) (iH "placed" (.ref i) []))) b=none->k b=none:=λ{b} h=>by
  by_cases z:b=x
  ·rw[z,aF] at h;cases h
  ·rw[aK z,aK z] at h;exact h
 generalize L2.upd (L2.upd k x (.ins C a (iH "placed" (.ref i) []))) x (.ins C a (iH "house_count" (.int m) (iH "placed" (.ref i) [])))=H2 at I G R ⊢;refine λu S j V Y=>?_;refine⟨_,rfl,x,C,a,_,rfl,V _ _ G,c,n3,by show 2<1000;decide,?_⟩;have B:But x k (L2.upd S x (.ins C a [("placed",.ref i),("house_count",.int m),("moves",.ref u)])):=λb o t h=>by rw[aK t];exact V _ _ (I _ _ t h)
 have M:u≠x:=λz=>by rw[z,G] at j;cases j
 have X:Same H0 (L2.upd S x (.ins C a [("placed",.ref i),("house_count",.int m),("moves",.ref u)])):=λb o h=>B _ _ (λz=>by rw[z,hN] at h;cases h) (N _ _ (n _ _ h));refine q i u _ J (none_of n l) (none_of (n.trans N) (R j)) X ⟨⟨a,aF⟩,⟨B _ _ r g.at_,g.nd,g.few,g.nm,λe y=>B.tb nx (g.tb e y)⟩,λe y=>?_,λz=>?_⟩ (by rw[aK M];exact Y) (W.imp λe e' ⟨v,L,e1,e2⟩=>⟨v,L,e1,none_of n e2⟩)
 ·obtain⟨e0,h0,v,L,rfl,_⟩:=aEi W y;exact (U e0 h0).sorted
 ·have:=I _ _ r g.at_;rw[z,j] at this;cases this
inductive aOq (K:bF4)(C Ct Pt:Addr)(vs:List V)(H:Hp)(Q:VK)(E_:XK):Prop
 |mk (x d dm:Addr) (m:Int) (es:List En) (_:vs=[.ref x]) (_:bC K H C x m d dm es) (_:1<=m) (_:m<=6) (_:H Pt=some (.tab qC)) (_:∀y d' H' es',H y=none->H d'=none->Same H H'->qW K H' Ct y m d' es'->cG (λe e'=>∃v L,e'=aCg e v L/\H L=none) es es'->Q (.ref y) H')
def aS7 (T:Txt w K mg)(c:Cls K C)(D:eG K C "town" "Store.town" oF ["self"])(M:bL K C "placed")(N:bL K C "house_count")(a:OkC P w K mg base Ct 11 "Town" o8 (aP4 K Ct Pt)):OkM P w K mg base C 13 "town" ["self"] (aOq K C Ct Pt):=by
 refine OkM.ofV c D aDq (by trivial) (λf u A b s H O Q E L h=>?_)
 obtain⟨x,d,R,m,t,rfl,k,v,J,F,q⟩:=h;refine⟨_,(aD (aJ (aP5 (a.mono (by decide)) L (by rfl) (aH (cT (K:=K) (vv 0)) (va1 (cT (K:=K) (vv 0))))))),?_⟩;obtain⟨n,l⟩:=k.at_;refine⟨_,rfl,x,C,n,_,_,rfl,l,c,N,rfl,_,rfl,x,C,n,_,_,rfl,l,c,M,rfl,λy I j e B=>?_⟩;refine⟨H,y,I,d,m,t,rfl,aF,j,gG j (aW e _),v,J,k.ens,k.ok,F,λp o g i G z r=>⟨rfl,?_⟩⟩;exact q y p o g j i G z r
inductive aAx (K:bF4)(C:Addr)(vs:List V)(H:Hp)(Q:VK)(E_:XK):Prop
 |mk (x d dm:Addr) (m:Int) (es:List En) (e:En) (n:Str) (h0:Int) (cs:List (V × Int)) (_:vs=[.ref x,.str e.n]) (_:bC K H C x m d dm es) (_:e∈es) (_:e.t.pl=.spans n h0 cs) (_:∀H',Same H H'->Q e.v H')
def aVi (T:Txt w K mg)(c:Cls K C)(D:eG K C "cut_table" "Store.cut_table" gK ["self","name"])(N:bL K C "placed")(I:Ok P w K mg base 3 "table_in" o5 (nU K)):OkM P w K mg base C 4 "cut_table" n6 (aAx K C):=by
 refine OkM.ofV c D jW (by trivial) (λf y A g s H W Q E M h=>?_)
 obtain⟨x,d,V,m,v,e,n,S,L,rfl,j,k,i,q⟩:=h;have J:=jW.nd;refine⟨_,(aB (aY 2 (aV I (aH (cT (K:=K) (vv 0)) (va1 (vv 1))))) (aB (bM (cZ wU (aO aP (aO aP (vv 2) aA) aA) bB) (aD dY) aU) (aD (aJ (vv 2))))),?_⟩;obtain⟨t,p⟩:=j.at_;refine⟨_,rfl,x,C,t,_,_,rfl,p,c,N,rfl,_,rfl,d,v,e,rfl,j.ens,k,λr o=>?_⟩;obtain⟨a,z,B,G,l,R⟩:=(j.ens.tb e k).same o;rw[i] at l;obtain⟨b,O,u,F,U⟩:=l;refine⟨_,rfl,a,_,1,_,z,rfl,B,at1 _ _ _,b,_,0,_,u,rfl,F,at0 _ _,rfl,_,rfl,dH (by decide) ?_⟩;exact⟨_,rfl,q r o⟩
inductive aJ6 (K:bF4)(C:Addr)(vs:List V)(H:Hp)(Q:VK)(E_:XK):Prop
 |mk (x d dm:Addr) (m:Int) (es:List En) (n:Str) (_:vs=[.ref x,.str n]) (_:bC K H C x m d dm es) (_:H dm=some (.dK [])) (_:Q .non H)
def aR0 (T:Txt w K mg)(c:Cls K C)(D:eG K C "need_still" "Store.need_still" fV ["self","name"])(t:bL K C "moves"):OkM P w K mg base C 1 "need_still" n6 (aJ6 K C):=by
 refine OkM.ofV c D rW (by trivial) (λf g A a s H r Q E o h=>?_)
 obtain⟨x,d,l,m,p,n,rfl,j,e,q⟩:=h;have k:=pB o;refine⟨_,(aD (bM (bBp k (vv 1) (cT (K:=K) (vv 0))) (aD dY) aU)),?_⟩;obtain⟨i,b⟩:=j.at_;exact⟨_,rfl,_,rfl,x,C,i,_,_,rfl,b,c,t,rfl,l,none,rfl,.inl ⟨_,Sum.inr n,.inl e,rfl,rfl⟩,_,rfl,bY q⟩
inductive xY (K:bF4)(C:Addr)(vs:List V)(H:Hp)(Q:VK)(E_:XK):Prop
 |mk (x d dm:Addr) (m:Int) (es:List En) (n:Str) (v:V) (_:vs=[.ref x,.str n]) (_:bC K H C x m d dm es) (_:H dm=some (.dK [(Sum.inr n,v)])) (_:Q v H)
def wM (n:Str)(v:V):nC [((Sum.inr n:Key),v)] (Sum.inr n)=some v:=mV rfl
def aL7 (T:Txt w K mg)(c:Cls K C)(D:eG K C "move_of" "Store.move_of" jJ ["self","name"])(p:bL K C "moves"):OkM P w K mg base C 1 "move_of" n6 (xY K C):=by
 refine OkM.ofV c D yU (by trivial) (λf k A a s H t Q E o h=>?_)
 obtain⟨x,d,j,m,r,n,v,rfl,l,e,q⟩:=h;have i:=pB o;refine⟨_,(aB (bM (aEy i (vv 1) (cT (K:=K) (vv 0))) (aD dY) aU) (aD (aJ (aAv i (cT (K:=K) (vv 0)) (vv 1) (λ_ _=>rfl))))),?_⟩;obtain⟨g,b⟩:=l.at_;refine⟨_,rfl,_,rfl,x,C,g,_,_,rfl,b,c,p,rfl,j,some v,rfl,.inl ⟨_,Sum.inr n,.inl e,rfl,(wM n v).symm⟩,_,rfl,bY ?_⟩;exact⟨_,rfl,x,C,g,_,_,rfl,b,c,p,rfl,_,rfl,j,v,rfl,.inl ⟨_,Sum.inr n,.inl e,rfl,(wM n v).symm⟩,q⟩
inductive yO (K:bF4)(C:Addr)(vs:List V)(H:Hp)(Q:VK)(E_:XK):Prop
 |mk (x d dm:Addr) (m:Int) (es:List En) (e:En) (o:Option Mv) (_:vs=[.ref x,.str e.n]) (_:bC K H C x m d dm es) (_:e∈es) (_:MvD K H dm e.n o) (_:∀v H',Same H H'->MvV K H' v o->Q v H')
theorem aN2 (T:Txt w K mg)(c:Cls K C)(D:eG K C "moving" "Store.moving" kZ ["self","name"])(J:bL K C "placed")(F:bL K C "moves")(G:Ok P w K mg base 3 "table_in" o5 (nU K)):OkM P w K mg base C 4 "moving" n6 (yO K C):=by
 refine OkM.ofV c D aAm (by trivial) (λf u A i s H I Q E y h=>?_)
 obtain⟨x,d,l,m,p,e,o,rfl,k,r,t,q⟩:=h;have B:=pB y;refine⟨_,(aB (dJ (aV G (aH (cT (K:=K) (vv 0)) (va1 (vv 1))))) (aD (aJ (aSg B (cT (K:=K) (vv 0)) (vv 1))))),?_⟩;obtain⟨g,b⟩:=k.at_;refine⟨_,rfl,x,C,g,_,_,rfl,b,c,J,rfl,_,rfl,d,p,e,rfl,k.ens,r,λj a=>?_⟩;obtain⟨v,z,hd⟩:=t.same a;cases o with
 |none=>exact⟨_,rfl,x,C,g,_,_,rfl,a _ _ b,c,F,rfl,l,rfl,.inl ⟨_,.inl hd⟩,_,rfl,none,.inl ⟨_,Sum.inr e.n,.inl hd,rfl,rfl⟩,q .non j a rfl⟩
 |some mq=>exact⟨_,rfl,x,C,g,_,_,rfl,a _ _ b,c,F,rfl,l,rfl,.inl ⟨_,.inl hd⟩,_,rfl,some v,.inl ⟨_,Sum.inr e.n,.inl hd,rfl,(wM e.n v).symm⟩,q v j a z⟩
def rE (v:bU K H a rs)(hl:rs.length<=1000)(p:List V->Bool)(n:σ0[0]?=some none)
  (o:∀(u:V) (r:List V),r∈rs->∀H' R l,Same H H'->cL K H' u r->(∀H2,Same H' H2->R (p r) H2)->tt ((σ0.set 0 l).set 0 (some u)) H' R)
  (q:∀D H',H D=none->Same H H'->bU K H' D (rs.filter p)->Q (.ref D) H'):pH (Itl K a) H σ0 (bO 0) tt (rP 0) Q:=by
 obtain⟨h,g,b⟩:=v;have t:=b.len;refine aBo h (λi=>p (rs.getD i [])) σ0 (small (by lia)) (aYt λH' s=>SqL.of (s _ _ g)) (aRm λH' s=>SqL.of (s _ _ g)) (λi u j H' R l c e=>?_) n λD H' f c k=>?_
 ·obtain⟨r,d,m⟩:=cA b j;rw[j4,d,bBN] at e;exact o u r (t8 d) H' R l c (m.same c) e
 ·refine q D H' f c ⟨_,k,?_⟩;rw[<-jV (p:=λi=>p (rs.getD i [])) (p':=p) λi r d=>by rw[bDN,j4,d];rfl];exact (aB8 b 0).imp λ_ _ r=>r.same c
def fX (hd:Hdr)(n:Str)(cs:List (V × Int))(num:Nat)(r:List V):Bool:=decide (iD (r.getD (plc hd n) .non) cs 1 0=num)
def xP:Option (List V)->List V->Bool
 |none,_=>true
 |some q,r=>rlt q r
inductive aA3 (K:bF4)(vs:List V)(H:Hp)(Q:VK)(E_:XK):Prop
 |mk (vr vm:V) (r:List V) (o:Option (List V)) (ks:List Bool) (_:vs=[vr,vm]) (_:cL K H vr r) (_:aH2 K H vm o) (_:KdR ks r) (_:(∀q,o=some q->KdR ks q)) (_:Q (.bl (xP o r)) H)
theorem aIl (T:Txt w K mg):Ok P w K mg base 1 "is_above" ["row","mark"] (aA3 K):=by
 refine Ok.ofV T.aNz aI4 (by trivial) (λf g A d s H u Q E m h=>?_)
 obtain⟨p,t,r,o,e,rfl,a,c,i,j,q⟩:=h;have k:=m.units;refine⟨_,(aD (aJ (aZe (wR aF6 (vv 1) fU) (gF (wR (aUu k) (vv 0) (vv 1)))))),?_⟩;cases o with
 |none=>cases c;exact⟨_,rfl,rfl,_,rfl,iY (m9 rfl) q⟩
 |some b=>obtain⟨n,rfl,l⟩:=id c;exact⟨_,rfl,rfl,_,rfl,dH (v9 λz=>by cases z) ⟨_,rfl,_,rfl,e,r,b,a,c,i,j b rfl,q⟩⟩
inductive aB6 (K:bF4)(vs:List V)(H:Hp)(Q:VK)(E_:XK):Prop
 |mk (v vh vp:V) (L:Addr) (t:Tb) (m:Int) (num:Nat) (n:Str) (h0:Int) (cs:List (V × Int)) (_:vs=[v,.int num]) (_:lB K H v vh vp L t) (_:iV m t) (_:t.pl=.spans n h0 cs) (_:∀D' H',H D'=none->Same H H'->bU K H' D' (t.rows.filter (fX t.hd n cs num))->Q (.ref D') H')
def aGu (T:Txt w K mg)(tX:Ok P w K mg base 2 "place_of" bQJ (mH K))(a3:Ok P w K mg base 1 "cut_of" ["cuts","value"] (aCx K)):Ok P w K mg base 3 "span_rows" ["table","number"] (aB6 K):=by
 refine Ok.ofV T.aLi vW (by trivial) (λf a2 A U s H vs Q E hr h=>?_)
 obtain⟨v,vh,vp,L,t,m,num,n,h0,C,rfl,⟨a,rfl,B,hI,p,d⟩,y,o,q⟩:=h;rw[o] at p;obtain⟨b,vc,rfl,Y,J⟩:=p;have j:=y.pl;rw[o] at j;obtain⟨hn,X,W,a0,x⟩:=j;have l8:=y.hd.1.2.2;have nd:=vW.nd;refine⟨_,(aB (aY 2 (aV tX (aH (aO aP (vv 0) aA) (va1 (aO aP (aO (bK (K:=K)) (vv 0) aA) aA))))) (aD (aJ (cI (N:=["row","number","place","table"]) (by trivial) (eE (aC pR) rfl (by decide +kernel)) rfl (eO (aO (bK (K:=K)) (vv 0) aA)) (λcl k F fp=>⟨(bJ (i:=0) (show (["row","number","place","table"]:List Str).Nodup from by decide +kernel) rfl (Or.inl rfl)),(lM (cZ dN (aV a3 (aH (aO (bK (K:=K)) (aO (bK (K:=K)) (vv 3) aA) aA) (va1 (aO (bK (K:=K)) (vv 0) (vv 2))))) (vv 1))),(vv 0)⟩))))),?_⟩;refine⟨_,rfl,a,_,0,_,rfl,rfl,B,at0 _ _,_,rfl,a,_,1,_,rfl,rfl,B,at1 _ _ _,b,_,1,_,rfl,rfl,Y,at1 _ _ _,vh,n,t.hd,X,rfl,hI,by lia,W,λH1 g=>?_⟩;dsimp only[bO,rA,List.set];obtain⟨us,gL,a1⟩:=id d;refine iW [none,some (.int num),some (.int (plc t.hd n:Nat)),some (.ref a)] (aAz 1 2 0 (by decide +kernel) (by decide +kernel) (by decide +kernel) rfl rfl rfl rfl rfl rfl (by trivial) (by trivial) (by trivial)) ?_;refine⟨_,rfl,a,_,2,_,rfl,rfl,g.aR B,at2 _ _ _ _,L,rfl,⟨_,SqL.of (g _ _ gL)⟩,rE (d.same g) (by have:=y.few;lia) (fX t.hd n C num) rfl (λu r S F R l G O rr=>?_) λD F hN G hD=>q D F (none_of g hN) (g.trans G) hD⟩;obtain⟨ra,rfl,M⟩:=O;obtain⟨v,hv,Z,I⟩:=aKw (y.rows r S) W;have k:=g.trans G;refine⟨_,rfl,a,_,1,_,rfl,rfl,k.aR B,at1 _ _ _,b,_,2,_,rfl,rfl,k.aR Y,at2 _ _ _ _,_,rfl,_,rfl,ra,r,_,v,rfl,rfl,M,bH hv,vc,v,X,h0,C,rfl,lU.same k (λ_ _ z=>z.same k) J,x.few,I,λc J=>(x.each c J).1,_,rfl,rfl,_,rfl,?_⟩;have e:decide (V.int (iD v C 1 0:Nat)=V.int num)=fX t.hd n C num r:=by unfold fX;rw[Z];exact decide_eq_decide.mpr ⟨λz=>by have:=V.int.inj z;lia,λz=>by rw[z]⟩
 rw[e];exact rr F (Same.refl _)
inductive aM4 (K:bF4)(C:Addr)(vs:List V)(H:Hp)(Q:VK)(E_:XK):Prop
 |mk (x d dm:Addr) (m:Int) (es:List En) (e:En) (mq:Mv) (n:Str) (h0:Int) (cs:List (V × Int)) (_:vs=[.ref x,.str e.n]) (_:bC K H C x m d dm es) (_:e∈es) (_:MvD K H dm e.n (some mq)) (_:e.t.pl=.spans n h0 cs) (_:(∀q,mq.mark=some q->gC e.t.hd q)) (_:∀D' H',H D'=none->Same H H'->bU K H' D' (e.t.rows.filter λr=>xP mq.mark r && fX e.t.hd n cs mq.num r)->Q (.ref D') H')
def aXt (T:Txt w K mg)(c:Cls K C)(D:eG K C "rows_to_come" "Store.rows_to_come" dD ["self","name"])(n1:bL K C "placed")(n3:bL K C "moves")(qQ:Ok P w K mg base 3 "span_rows" ["table","number"] (aB6 K))(tW:Ok P w K mg base 1 "is_above" ["row","mark"] (aA3 K)):OkM P w K mg base C 4 "rows_to_come" n6 (aM4 K C):=by
 refine OkM.ofV c D iI (by trivial) (λf a1 A I s H vs Q E hr h=>?_)
 obtain⟨x,d,dm,m,es,e,o,n,h0,cs,rfl,b,F,⟨v,hv,hm⟩,y,X,q⟩:=h;have V:=pB hr;have nd:=iI.nd;refine⟨_,(aB (aY 2 (aAv V (cT (K:=K) (vv 0)) (vv 1) (λ_ _=>rfl))) (aD (aJ (cI (N:=["row","move"]) (by trivial) (eE (aC dD) rfl (by decide +kernel)) rfl (eO (aV qQ (aH (aAv V (cT (K:=K) (vv 0)) (vv 1) (λ_ _=>rfl)) (va1 (aO aP (vv 2) aA))))) (λcl s' k fp=>⟨(bJ (i:=0) (show (["row","move"]:List Str).Nodup from by decide +kernel) rfl (Or.inl rfl)),(lM (bW (aV tW (aH (vv 0) (va1 (aO (bK (K:=K)) (vv 1) aA)))))),(vv 0)⟩))))),?_⟩;obtain⟨O,M⟩:=b.at_;obtain⟨a,vm,rfl,J,B⟩:=hv;have p:=b.ok e F;refine⟨_,rfl,x,C,O,_,_,rfl,M,c,n3,rfl,_,rfl,dm,_,rfl,.inl ⟨_,Sum.inr e.n,.inl hm,rfl,(wM e.n _).symm⟩,?_⟩;dsimp only[bO,rA,List.set];refine iW [none,some (.ref a)] (jM 2 (by decide +kernel) rfl rfl (by trivial)) ?_;refine⟨_,rfl,x,C,O,_,_,rfl,M,c,n1,rfl,_,rfl,d,e.v,rfl,.inl ⟨_,Sum.inr e.n,.inl b.ens.at_,rfl,(aGk b.ens.nd F).symm⟩,?_⟩;refine⟨_,rfl,a,_,0,_,rfl,rfl,J,at0 _ _,e.v,e.vh,e.vp,e.L,e.t,m,o.num,n,h0,cs,rfl,b.ens.tb e F,p,y,λD1 H1 W j U=>?_⟩;obtain⟨us,gD,a0⟩:=id U;refine⟨D1,rfl,⟨_,SqL.of gD⟩,rE U (bAE (bAY _ _) (by have:=p.few;lia)) (xP o.mark) rfl (λu r G k R l g z Z=>?_) λD' k hN g S=>q D' k (none_of j hN) (j.trans g) (by rw[bEP] at S;exact S)⟩;refine⟨_,rfl,_,rfl,a,_,2,_,rfl,rfl,(j.trans g).aR J,at2 _ _ _ _,u,vm,r,o.mark,knds e.t.hd,rfl,z,B.same (j.trans g),fM (p.rows r (List.mem_filter.mp G).1),λY e'=>fM (X Y e'),_,rfl,Z k (Same.refl _)⟩
end
end My
namespace PySem
section
variable {prog:Program}{w:World}{A:Around}{E:bF5}{s:Shared}
theorem uK {α:Type}:∀(l:List α) (i:Nat) (h:i<l.length),(l[i]::l.eraseIdx i).Perm l
 |x::l,0,_=>.refl _
 |x::l,i+1,h=>by have a:=uK l i (Nat.lt_of_succ_lt_succ h);exact (List.Perm.swap x _ (l.eraseIdx i)).trans (a.cons x)
def aHk (a:n≠0)(h:∀i dr,i<n->Q i { s with drawn:=dr }):wpAny (model prog w) A (choose src n) Q E s:=
 λ_ _ _=>⟨a,h _ _ (Nat.mod_lt _ (Nat.pos_of_ne_zero a))⟩
theorem oX {α:Type}:∀(n:Nat) (xs:List α) (s:Shared) (Q:List α->Shared->Prop),xs.length=n->(∀ys dr,ys.Perm xs->Q ys { s with drawn:=dr })->wpAny (model prog w) A (drawOrder n xs) Q E s
 |0,xs,s,Q,hl,h=>by have e:=bAZ hl;subst e;unfold drawOrder;exact d7 (h [] s.drawn (.refl _))
 |n+1,xs,s,Q,hl,h=>by
  cases xs with
  |nil=>cases hl
  |cons x xs=>unfold drawOrder;refine b7 (aHk (by rw[hl];lia) λi dr b=>?_);rw[b8 b];dsimp only;refine b7 (oX n _ _ _ (by rw[bFW b,hl];rfl) λys a p=>d7 ?_);refine h _ a ?_;have e:=uK _ _ b;exact (p.cons _).trans e
theorem aOo {α:Type}(b:Nat->Nat):∀(fuel k:Nat) (left:List α) (out:Array α),left.length=fuel->(pickOrder.go b fuel k left out).toList.Perm (out.toList++left)
 |0,k,left,out,h=>by have e:left=[]:=bAZ h;subst e;unfold pickOrder.go;rw[bBB]
 |fuel+1,k,left,out,h=>by have a:b k % left.length<left.length:=Nat.mod_lt _ (by lia);unfold pickOrder.go;rw[b8 a];dsimp only;refine (aOo b fuel (k+1) _ _ (by rw[bFW a,h];rfl)).trans ?_;rw[bF1,bCY];exact List.Perm.append_left _ (uK _ _ a)
def xH {α:Type}(a:Nat->Nat)(xs:Array α):(pickOrder a xs).toList.Perm xs.toList:=by unfold pickOrder;exact aOo a xs.size 0 xs.toList #[] (by rw[v4])
end
def bQ:Slot "set_iterator" "__next__" "set_iterator.__next__":=.of (owner:="set_iterator") (n:="__next__") (by rw[typeLookup_type,builtinLookup_eq_fast];kernel_rfl) (by decide +kernel) (by decide +kernel) (by decide +kernel) (by first|exact .inl (by decide +kernel)|exact .inr (by decide +kernel)) (by rw[isSubtype_type];kernel_rfl)
def qI:Slot "set_iterator" "__iter__" "set_iterator.__iter__":=.of (owner:="set_iterator") (n:="__iter__") (by rw[typeLookup_type,builtinLookup_eq_fast];kernel_rfl) (by decide +kernel) (by decide +kernel) (by decide +kernel) (by first|exact .inl (by decide +kernel)|exact .inr (by decide +kernel)) (by rw[isSubtype_type];kernel_rfl)
def fQ:entryFor table "set_iterator.__next__"=some Builtin.«set_iterator.__next__»:=entryFor_of_tree (by kernel_rfl)
def aAq:entryFor table "set_iterator.__iter__"=some Builtin.«dict_keyiterator.__iter__»:=entryFor_alias (id':="dict_keyiterator.__iter__") (by kernel_rfl) rfl (by decide +kernel) (by kernel_rfl)
def aCy:entryFor table "set.__iter__"=some Builtin.«frozenset.__iter__»:=entryFor_alias (id':="frozenset.__iter__") (by kernel_rfl) rfl (by decide +kernel) (by kernel_rfl)
def aCr:Manifest.owners.lookup (String.ofList ['r','o','t','a','r','e','t','i','_','t','e','s'].reverse)=some Manifest.sig_set_iterator:=by kernel_rfl
def gH (a:Value):argsOk "set_iterator.__next__" ⟨[a],[]⟩:=by unfold argsOk;rw[signature?_of (id:="set_iterator.__next__") (n:=['_','_','t','x','e','n','_','_']) (o:=['r','o','t','a','r','e','t','i','_','t','e','s']) (by kernel_rfl) aCr];kernel_rfl
def aDe (a:Value):argsOk "set_iterator.__iter__" ⟨[a],[]⟩:=by unfold argsOk;rw[signature?_of (id:="set_iterator.__iter__") (n:=['_','_','r','e','t','i','_','_']) (o:=['r','o','t','a','r','e','t','i','_','t','e','s']) (by kernel_rfl) aCr];kernel_rfl
section
variable {prog:Program}{w:World}{A:Around}{E:bF5}{s:Shared}
def eZ (h:Heap)(I:Addr)(first:Value)(i:Nat)(D:Addr)(n ep:Nat):Prop:=h.get? I=some { cls:=.type "set_iterator",data:=.fields #[first,.int i 0,.ref D,.int n 0,.int ep 0] }
def uM (h:Heap)(D:Addr)(es:Array (Int × Value))(ep:Nat)(t:SetTable):Prop:=∃o,h.get? D=some o/\o.ExactSet/\o.data=.set es ep t/\t.fits es.size=true
def aHc (prog:Program)(w:World)(D:Addr)(es:Array (Int × Value))(ep:Nat)(t:SetTable)(slot i:Nat)(r:Option (Value × Nat)):Prop:=
 ∀A E s Q,uM s.heap D es ep t->Q r s->wpAny (model prog w) A (setNext D slot i ep) Q E s
def aFj {I D:Addr}{es:Array (Int × Value)}{ep slot i a:Nat}{t:SetTable}{x:Value}{Q:Option Value->Shared->Prop}(f:eZ s.heap I (.int slot 0) i D es.size ep)(k:uM s.heap D es ep t)(hne:D≠I)
  (nx:aHc prog w D es ep t slot i (some (x,a)))
  (q:∀h',eZ h' I (.int a 0) (i+1) D es.size ep->(∀b o,b≠I->s.heap.get? b=some o->h'.get? b=some o)->Q (some x) { s with heap:=h' }):wpAny (model prog w) A (pyNext (.ref I)) Q E s:=by
 have c:s.TypeIs (.ref I) "set_iterator":=⟨_,f,rfl⟩;obtain⟨o,v,l,hd,r⟩:=id k;unfold pyNext;refine b7 (bCS (bAG c bQ (bAD bQ c fQ (b7 (d7 (b7 (bDW f rfl ?_)))) (gH _))));refine b7 (bDD v hd r ?_);dsimp only;rw[if_neg (by simp)];simp only[bAQ];refine b7 (nx _ _ _ _ k ?_);dsimp only;refine b7 (bAP f (by simp) λh y n=>?_);have p:eZ h I (.int a 0) i D es.size ep:=by simpa [rawInt,eZ] using y
 refine b7 (bAP p (by simp) λd u j=>?_);have m:eZ d I (.int a 0) (i+1) D es.size ep:=by
  have z:((i+1:Nat):Int)=(i:Int)+1:=by lia
  unfold eZ;rw[z];simpa [rawInt] using u
 exact d7 ⟨_,rfl,d7 (q d m λb o g e=>j.extBut b o g (n.extBut b o g e))⟩
def aE4 {I D:Addr}{es:Array (Int × Value)}{ep slot i:Nat}{t:SetTable}{Q:Option Value->Shared->Prop}(h:A.handled=none)(c:eZ s.heap I (.int slot 0) i D es.size ep)(e:uM s.heap D es ep t)
  (nx:aHc prog w D es ep t slot i none) (q:∀h',(∀b o,b≠I->s.heap.get? b=some o->h'.get? b=some o)->Q none { s with heap:=h' }):wpAny (model prog w) A (pyNext (.ref I)) Q E s:=by
 have a:s.TypeIs (.ref I) "set_iterator":=⟨_,c,rfl⟩;obtain⟨o,f,g,hd,d⟩:=id e;unfold pyNext;refine b7 (bCS (bAG a bQ (bAD bQ a fQ (b7 (d7 (b7 (bDW c rfl ?_)))) (gH _))));refine b7 (bDD f hd d ?_);dsimp only;rw[if_neg (by simp)];simp only[bAQ];refine b7 (nx _ _ _ _ e ?_);dsimp only;refine b7 (bBW c rfl (by simp) ?_);refine b7 ?_;simp only[newExc,newTuple,raiseNew];refine b7 (bAF ?_ (by size_fits));refine b7 (bEQ (by simp only[firstArgMember];rfl) ?_);refine bAF (b7 (bFJ ?_)) (by size_fits);rw[show A.in1.handled=none from h];refine b7 (d7 (bFY ?_));refine b7 (bDE ⟨_,j8 _ rfl,rfl⟩ isSubtype_stop ?_);exact d7 (q _ (((bAV ..).extBut.push _).push _))
def aNf {I D T:Addr}{es:Array (Int × Value)}{ep i j:Nat}{t:SetTable}{pl:Array Value}{e:Int × Value}{Q:Option Value->Shared->Prop}(d:eZ s.heap I (.ref T) i D es.size ep)(p:uM s.heap D es ep t)(u:s.heap.get? T=some { cls:=.type "tuple",data:=.seq pl })
  (v:pl[i]?=some (.int j 0)) (r:es[j]?=some e)
  (q:∀h',eZ h' I (.ref T) (i+1) D es.size ep->(∀b o,b≠I->s.heap.get? b=some o->h'.get? b=some o)->Q (some e.2) { s with heap:=h' }):wpAny (model prog w) A (pyNext (.ref I)) Q E s:=by
 have a:s.TypeIs (.ref I) "set_iterator":=⟨_,d,rfl⟩;obtain⟨o,g,k,hd,f⟩:=id p;unfold pyNext;refine b7 (bCS (bAG a bQ (bAD bQ a fQ (b7 (d7 (b7 (bDW d rfl ?_)))) (gH _))));refine b7 (bDD g hd f ?_);dsimp only;rw[if_neg (by simp)];simp only[bAQ];refine b7 (bBE u rfl ?_);dsimp only;rw[v];dsimp only;unfold setNextDrawn;refine b7 (b7 (bBH g hd f ?_));dsimp only;rw[if_neg (by simp)];refine b7 (d7 ?_);simp only[bAQ,r];refine d7 (b7 (bAP d (by simp) λc m h=>?_));have l:eZ c I (.ref T) (i+1) D es.size ep:=by
  have z:((i+1:Nat):Int)=(i:Int)+1:=by lia
  unfold eZ;rw[z];simpa [rawInt] using m
 exact d7 ⟨_,rfl,d7 (q c l λb o n e=>h.extBut b o n e)⟩
def aM2 (m:A.handled=none)(c:eZ s.heap I (.ref T) i D es.size ep)(l:uM s.heap D es ep t)(p:s.heap.get? T=some { cls:=.type "tuple",data:=.seq pl })
  (n:pl[i]?=none) (q:∀h',(∀b o,b≠I->s.heap.get? b=some o->h'.get? b=some o)->Q none { s with heap:=h' }):wpAny (model prog w) A (pyNext (.ref I)) Q E s:=by
 have a:s.TypeIs (.ref I) "set_iterator":=⟨_,c,rfl⟩;obtain⟨o,j,k,hd,g⟩:=id l;unfold pyNext;refine b7 (bCS (bAG a bQ (bAD bQ a fQ (b7 (d7 (b7 (bDW c rfl ?_)))) (gH _))));refine b7 (bDD j hd g ?_);dsimp only;rw[if_neg (by simp)];simp only[bAQ];refine b7 (bBE p rfl ?_);dsimp only;rw[n];dsimp only;refine b7 (bAP c (by simp) λr h f=>?_);refine b7 (bBW h rfl (by simp) ?_);refine b7 ?_;simp only[newExc,newTuple,raiseNew];refine b7 (bAF ?_ (by size_fits));refine b7 (bEQ (by simp only[firstArgMember];rfl) ?_);refine bAF (b7 (bFJ ?_)) (by size_fits);rw[show A.in1.handled=none from m];refine b7 (d7 (bFY ?_));refine b7 (bDE ⟨_,j8 _ rfl,rfl⟩ isSubtype_stop ?_);refine d7 (q _ λb o d e=>((((bAV ..).extBut.push _).push _)) b o d (f.extBut b o d e))
def aFf (g:byT w=true):aHc prog w D es ep t slot i (((pickOrder (w.params.setOrder D ep) es)[i]?).map λe=>(e.2,slot)):=by intro A E s Q d q;obtain⟨o,c,f,hd,b⟩:=d;have a:(⟨(model prog w).prog,(model prog w).w.params⟩:Setting).params.followText "set-order"=true:=g;unfold setNext setsByText setWalk;refine b7 (bBH c hd b ?_);dsimp only;refine b7 (b7 (bDH (d7 ?_)));rw[if_pos a,if_neg (by simp)];refine b7 (b7 (bBH c hd b ?_));dsimp only;unfold setsByText;refine b7 (b7 (bDH (d7 ?_)));rw[if_pos a];exact b7 (bDH (d7 (d7 q)))
def aBj (l:byT w=false)(k:t.led=true)(g:t.plain=true\/es.size<=1) :
  aHc prog w D es ep t slot i (match es[SetTable.below t.place slot]?,t.place[SetTable.below t.place slot]? with|some (_,x),some j=>some (x,j+1)|_,_=>none):=by
 intro A E s Q d q;obtain⟨o,e,f,hd,c⟩:=d;have b:(⟨(model prog w).prog,(model prog w).w.params⟩:Setting).params.followText "set-order"=false:=l;unfold setNext setsByText;refine b7 (bBH e hd c ?_);dsimp only;refine b7 (b7 (bDH (d7 ?_)));rw[if_neg (by rw[b];exact v5)]
 split
 ·rename_i a;have z:(!t.plain && decide (es.size > 1))=true:=a;rw[bAS,decide_eq_true_eq] at z;rcases g with h|h
  ·rw[h] at z;cases z.1
  ·lia
 ·refine b7 (show wpAny _ _ (if (!t.led && !es.isEmpty)=true then unsupported "set:maker-not-led" else pure ()) _ _ _ from ?_);rw[if_neg (by rw[k];exact v5)];exact d7 (d7 q)
def xO (b:eZ s.heap I first i D n ep)(h:Q (.ref I) s):wpAny (model prog w) A (pyIter (.ref I)) Q E s:=by have a:s.TypeIs (.ref I) "set_iterator":=⟨_,b,rfl⟩;refine bFA a qI (bAD qI a aAq ?_ (aDe _));exact d7 ⟨_,rfl,"set_iterator",_,a,bQ.lookup,h⟩
def uM.at (x:uM h D es ep t)(e:∀o,h.get? D=some o->h'.get? D=some o):uM h' D es ep t:=by obtain⟨o,a,r⟩:=x;exact⟨o,e o a,r⟩
def aNm {I D:Addr}{es:Array (Int × Value)}{ep:Nat}{t:SetTable}(c:byT w=true)(q:A.handled=none)(k:D≠I) :
  Walks prog w A I [I,D] [I] es.size (λi v=>((pickOrder (w.params.setOrder D ep) es).toList.map (·.2))[i]?=some v) (λi h=>eZ h I (.int (0:Nat) 0) i D es.size ep/\uM h D es ep t) where
 sub:=λb c=>by simp at c;simp[c]
 frame:=λ_ _ _ a m=>⟨m I (by simp) _ a.1,a.2.at λo e=>m D (by simp) o e⟩
 item:=λi s Q E r a f=>by
  have n:(pickOrder (w.params.setOrder D ep) es).size=es.size:=by rw[<-v4,(xH _ es).length_eq,v4]
  have d:i<(pickOrder (w.params.setOrder D ep) es).size:=by lia
  have g:=aFf (prog:=prog) (D:=D) (es:=es) (ep:=ep) (slot:=0) (i:=i) (t:=t) c;rw[j7 d] at g;refine aFj a.1 a.2 k g λl p j=>?_;exact f _ l s.toks (by rw[v7,bBO,j7 d];rfl) ⟨p,a.2.at λo e=>j D o k e⟩ λb o c e=>j b o (λz=>c (by simp[z])) e
 done:=λs Q E a f=>by
  have n:(pickOrder (w.params.setOrder D ep) es).size=es.size:=by rw[<-v4,(xH _ es).length_eq,v4]
  have g:=aFf (prog:=prog) (D:=D) (es:=es) (ep:=ep) (slot:=0) (i:=es.size) (t:=t) c;rw[bCE (by lia)] at g;exact aE4 q a.1 a.2 g λl j=>f l s.toks λb o c e=>j b o (λz=>c (by simp[z])) e
 self:=λ_ _ _ _ a f=>xO a.1 f
def aJu {I D:Addr}{es:Array (Int × Value)}{ep:Nat}{t:SetTable}(a:byT w=false)(C:t.led=true)(F:t.plain=true\/es.size<=1)(B:Ris t.place)(hsz:t.place.size=es.size)(H:A.handled=none)(p:D≠I) :
  Walks prog w A I [I,D] [I] es.size (λi v=>(es.toList.map (·.2))[i]?=some v) (λi h=>∃slot,eZ h I (.int (slot:Nat) 0) i D es.size ep/\uM h D es ep t/\SetTable.below t.place slot=i) where
 sub:=λb a=>by simp at a;simp[a]
 frame:=λ_ _ _ ⟨l,d,f,m⟩ j=>⟨l,j I (by simp) _ d,f.at λo e=>j D (by simp) o e,m⟩
 item:=λi s Q E r ⟨l,d,f,m⟩ g=>by
  have k:=aBj (prog:=prog) (D:=D) (es:=es) (ep:=ep) (slot:=l) (i:=i) (t:=t) a C F;have c:i<t.place.size:=by lia
  rw[m,j7 r,j7 c] at k;refine aFj d f p k λq G n=>?_;refine g _ q s.toks (by rw[v7,bBO,j7 r];rfl) ⟨_,G,f.at λo e=>n D o p e,?_⟩ λb o a e=>n b o (λz=>a (by simp[z])) e;obtain⟨L,x,y⟩:=mO B (t.place[i]+1);have u:i<SetTable.below t.place (t.place[i]+1):=Nat.lt_of_not_le λz=>by have:=y i c z;lia
  rcases bFU (Nat.succ_le_of_lt u) with h2|h2
  ·exfalso;have j:i+1<t.place.size:=by lia
   have J:=x (i+1) j h2;have K:=B i (i+1) c j (bCU _);lia
  ·exact h2.symm
 done:=λs Q E ⟨l,d,f,m⟩ g=>by have k:=aBj (prog:=prog) (D:=D) (es:=es) (ep:=ep) (slot:=l) (i:=es.size) (t:=t) a C F;rw[m,bCE (d8 _)] at k;exact aE4 H d f k λq n=>g q s.toks λb o a e=>n b o (λz=>a (by simp[z])) e
 self:=λ_ _ _ _ ⟨_,d,_⟩ g=>xO d g
def aKj {I D T:Addr}{es:Array (Int × Value)}{ep:Nat}{t:SetTable}{ys:List Nat}(n:ys.Perm (List.range es.size))(x:A.handled=none)(q:D≠I)(r:T≠I) :
  Walks prog w A I [I,D,T] [I] es.size (λi v=>((ys.map λj=>es.getD j (0,.none)).map (·.2))[i]?=some v) (λi h=>eZ h I (.ref T) i D es.size ep/\uM h D es ep t/\h.get? T=some { cls:=.type "tuple",data:=.seq (ys.map λj=>rawInt (j:Nat)).toArray }) where
 sub:=λb d=>by simp at d;simp[d]
 frame:=λ_ _ _ a k=>⟨k I (by simp) _ a.1,a.2.1.at λo e=>k D (by simp) o e,k T (by simp) _ a.2.2⟩
 item:=λi s Q E y a f=>by
  have m:ys.length=es.size:=by rw[n.length_eq,bAH]
  have c:i<ys.length:=by lia
  have p:=List.mem_range.mp (n.mem_iff.mp (bAT c));refine aNf a.1 a.2.1 a.2.2 (by rw[bFF,v7,b8 c];rfl) (j7 p) λl u g=>?_;refine f _ l s.toks ?_ ⟨u,a.2.1.at λo e=>g D o q e,g T _ r a.2.2⟩ λb o d e=>g b o (λz=>d (by simp[z])) e;rw[v7,v7,b8 c];show some (es.getD ys[i] (0,.none)).2=some es[ys[i]].2;rw[v6,j7 p];rfl
 done:=λs Q E a f=>by
  have m:ys.length=es.size:=by rw[n.length_eq,bAH]
  exact aM2 x a.1 a.2.1 a.2.2 (by rw[bFF,v7,bAA (by lia)];rfl) λl g=>f l s.toks λb o d e=>g b o (λz=>d (by simp[z])) e
 self:=λ_ _ _ _ a f=>xO a.1 f
def aU6 {D:Addr}{es:Array (Int × Value)}{ep:Nat}{t:SetTable}{Q:bF5}(G:A.handled=none)(N:uM s.heap D es ep t)(q:TabOk (byT w) t)(U:es.size<=1000)
  (h:∀I fp (order:List (Int × Value)) St h1 dr,(∀b o,s.heap.get? b=some o->h1.get? b=some o)->Walks prog w A I fp [I] es.size (λi v=>(order.map (·.2))[i]?=some v) St->St 0 h1->(∀b∈fp,b=D\/s.heap.objs.size<=b)->s.heap.objs.size<=I->order.Perm es.toList ->
   Q (.ref I) { s with heap:=h1,drawn:=dr }):wpAny (model prog w) A (pyIter (.ref D)) Q E s:=by
 obtain⟨o,g,l,hd,d⟩:=id N;have J:s.TypeIs (.ref D) "set":=⟨o,g,l.1⟩;refine bFA J F.slot_set_iter (bAD F.slot_set_iter J aCy ?_ (F.args_set_iter_1 _));unfold Builtin.«frozenset.__iter__» Builtin.Frozenset.slot0 slotArgs;simp only[List.isEmpty_nil,Bool.not_true,bAU,↓reduceIte,bind_assoc,bBS,bne_self_eq_false];unfold Builtin.Frozenset.addrOf Builtin.Frozenset.sizeOf setDrawn setsByText;refine b7 (d7 ?_)
 try dsimp only
 refine b7 (d7 ?_);refine b7 (b7 (bDD g hd d (d7 ?_)));refine b7 (b7 (bBH g hd d ?_));dsimp only;refine b7 (b7 (bDH (d7 (d7 ?_))));have f:D<s.heap.objs.size:=j9 g;have T:((0:Nat):Int)=0:=rfl
 split
 ·rename_i K;refine b7 (oX _ _ _ _ (bAH ..) λu dr x=>?_);refine b7 (bFT ?_ (by rw[j6,x.length_eq,bAH];exact bAE U (by decide)));have m:({ s with drawn:=dr,heap:=s.heap.push { cls:=.type "tuple",data:=.seq (u.map λi=>rawInt (i:Nat)).toArray } }:Shared).heap.get? D=some o:=c7 _ g;refine b7 (wpAny_setEpoch_of m hd d ?_);refine b7 ?_;unfold newFields;refine bAF (d7 ⟨_,rfl,"set_iterator",_,⟨_,j8 _ rfl,rfl⟩,bQ.lookup,?_⟩);have p:(s.heap.push { cls:=.type "tuple",data:=.seq (u.map λi=>rawInt (i:Nat)).toArray }).objs.size=s.heap.objs.size+1:=bBL ..;refine h _ [_,D,s.heap.objs.size] (u.map λj=>es.getD j (0,.none)) _ _ dr (λb o e=>c7 _ (c7 _ e)) (aKj (t:=t) (ep:=ep) x G ?_ ?_) ⟨?_,?_,?_⟩ (λb c=>?_) ?_ ?_
  ·show D≠Array.size _;rw[p];exact v8 (bBU f)
  ·show s.heap.objs.size≠Array.size _;rw[p];exact v8 (bCU _)
  ·exact j8 _ rfl
  ·exact⟨o,c7 _ m,l,hd,d⟩
  ·exact c7 _ (j8 _ rfl)
  ·simp only[bAN,bAB,or_false] at c;rcases c with rfl|rfl|rfl
   ·right;rw[p];exact bCR _
   ·left;rfl
   ·right;exact d8 _
  ·rw[p];exact bCR _
  ·have e:(List.range es.size).map (λj=>es.getD j (0,.none))=es.toList:=by
    refine bCC λj=>?_;rw[v7,show es.toList[j]?=es[j]? from bBO];by_cases C:j<es.size
    ·rw[bCP C,j7 C];show some (es.getD j (0,.none))=_;rw[v6,j7 C];rfl
    ·rw[bAA (by rw[bAH];lia),bCE (by lia)];rfl
   exact (x.map _).trans (by rw[e])
 ·rename_i K;refine b7 (d7 (b7 (wpAny_setEpoch_of g hd d (b7 ?_))));unfold newFields;refine bAF (d7 ⟨_,rfl,"set_iterator",_,⟨_,j8 _ rfl,rfl⟩,bQ.lookup,?_⟩);have H:eZ (s.heap.push { cls:=.type "set_iterator",data:=.fields [rawInt 0,rawInt 0,Value.ref D,rawInt (es.size:Nat),rawInt (ep:Nat)].toArray }) s.heap.objs.size (.int (0:Nat) 0) 0 D es.size ep:=j8 _ rfl;have k:uM (s.heap.push { cls:=.type "set_iterator",data:=.fields [rawInt 0,rawInt 0,Value.ref D,rawInt (es.size:Nat),rawInt (ep:Nat)].toArray }) D es ep t:=N.at λo e=>c7 _ e;have n:∀b∈[s.heap.objs.size,D],b=D\/s.heap.objs.size<=b:=λb c=>by
   simp only[bAN,bAB,or_false] at c;rcases c with rfl|rfl
   ·right;exact d8 _
   ·left;rfl
  cases c:byT w with
  |true=>exact h _ [s.heap.objs.size,D] _ _ _ s.drawn (λb o e=>c7 _ e) (aNm (t:=t) (ep:=ep) c G (v8 f)) ⟨H,k⟩ n (d8 _) (xH _ es)
  |false=>
   have R:t.led=true:=q.1 c;have r:t.place.size=es.size:=by unfold SetTable.fits at d;rw[bAS,beq_iff_eq] at d;exact d.1
   have L:t.plain=true\/es.size<=1:=by
    have z:¬ (!byT w && (!t.plain && decide (es.size > 1)))=true:=K;rw[c] at z;cases y:t.plain with
    |true=>exact .inl rfl
    |false=>rw[y] at z;right;simpa using z
   have B:Ris t.place:=by
    rcases L with z|z
    ·exact q.2.2.2 z
    ·intro a b V P O;lia
   refine h _ [s.heap.objs.size,D] es.toList _ _ s.drawn (λb o e=>c7 _ e) (aJu (t:=t) (ep:=ep) c R L B r G (v8 f)) ⟨0,H,k,?_⟩ n (d8 _) (.refl _);obtain⟨_,M,_⟩:=mO B 0;rcases Nat.eq_zero_or_pos (SetTable.below t.place 0) with z|z
   ·exact z
   ·by_cases S:0<t.place.size
    ·exact absurd (M 0 S z) (bCX _)
    ·have:=(mO B 0).1;lia
def aV5 (c:s.TypeIs (.ref D) "set")(h:Q false s):wpAny (model prog w) A (Builtin.List.listLengthHint (.ref D)) Q E s:=by unfold Builtin.List.listLengthHint;refine b7 (wpAny_specialOf c F.slot_set_len.lookup ?_);generalize b:("set.__len__":String)=id0;wp_delta;rw[show splitId id0=some ("set","__len__") from by subst b;decide +kernel];subst b;refine b7 (bDE c sub_set_self (wpAny_ite_split (λa=>absurd a (by decide)) (λ_=>wpAny_ite_split (λ_=>?_) (λa=>absurd (by decide +kernel) a))));exact b7 (bEU c (d7 h))
def aNu (hh:A.handled=none)(P:uM s.heap D es ep t)(U:TabOk (byT w) t)(hn:es.size<=1000)(S:Addr)(B:S≠D)(res:Value)(Z:s.heap.get? S=some { cls:=.type "list",data:=.seq #[] })
  (hR:∀h' tk dr acc c (order:List (Int × Value)),(∀b o,b≠S->s.heap.get? b=some o->h'.get? b=some o)->h'.get? S=some { cls:=.type "list",dict:=none,data:=.seq acc c,slots:=#[] }->order.Perm es.toList->acc.toList=order.map (·.2)->R (.ok (.ret res)) { s with heap:=h',toks:=tk,drawn:=dr }) :
  wpAny (model prog w) A.in1 (Builtin.List.listExtendWith (.ref S) (.ref D) res) (λfin s'=>match fin with|.done f=>R (.ok f) s'|.again c'=>c'.quiet=true/\codeAny (model prog w) A c' R s') (λe s'=>R (.error e) s') s:=by
 obtain⟨o,M,n,hd,hf⟩:=id P;have X:s.TypeIs (.ref D) "set":=⟨o,M,n.1⟩;have q:=j9 Z;unfold Builtin.List.listExtendWith;refine b7 (bEU X ?_);have O:Builtin.List.listSameRef (.ref S) (.ref D)=false:=by simp[Builtin.List.listSameRef,B]
 simp only[O,show (Value.type "set" == Value.type "list")=false by decide,show (Value.type "set" == Value.type "tuple")=false by decide,Bool.or_false,bAU,if_false];refine b7 (aU6 hh P U hn λI Q order St E dr d W N C v a=>?_);have u:S∉Q:=λz=>(C S z).elim B λz=>absurd q (Nat.not_lt.mpr z);have l:=d _ _ Z;have r:∀h y tk,St 0 h->(∀b o,b≠S->s.heap.get? b=some o->h.get? b=some o)->h.get? S=some { cls:=.type "list",data:=.seq #[] y } ->
   codeAny (model prog w) A (.builtin "list.extend.loop" ⟨[.ref S,.ref I,res],[]⟩) R { s with heap:=h,toks:=tk,drawn:=dr }:=λh y tk G T x=>by
  refine codeAny_extend_loopS W.toS (bAE hn (by decide)) S u res es.size 0 _ #[] y rfl (bAC _) G x (ItemsOf.nil _) λs' k c' K H i=>?_;rw[Moved.eq_with K];refine hR s'.heap s'.toks dr k c' order (λb o g e=>K.heap b o (λhmem=>?_) (T b o g e)) H a ?_
  ·rcases List.mem_cons.mp hmem with Y|hmem
   ·exact g Y
   ·rw[List.mem_singleton.mp hmem] at e;exact absurd (j9 e) (Nat.not_lt.mpr v)
  ·have V:order.length=es.size:=by rw[a.length_eq,v4]
   refine bCC λj=>?_;rw[bBO];by_cases L:j<k.size
   ·rw[j7 L];exact (i.2 j _ (j7 L)).symm
   ·rw[bCE (by lia),bAA (by rw[j6,V,<-i.1];lia)]
 refine b7 (bAR (aV5 ⟨o,d _ _ M,n.1⟩ ?_));refine wpAny_ite_split (λ_=>?_) (λ_=>d7 ⟨bCT F.plain_extend_loop _,r E _ _ N (λb o _ e=>d b o e) l⟩);refine b7 (bDU (b7 ?_));refine b7 (wpAny_updateSeq l rfl ?_);have m:=bAO (Obj.mapSeq (·.push Value.none)) l rfl;refine wpAny_updateSeq m rfl ?_;have J:=bAO (Obj.mapSeq (·.pop)) m rfl;have p:∀b o,b≠S->E.get? b=some o->((E.update S (Obj.mapSeq (·.push Value.none))).update S (Obj.mapSeq (·.pop))).get? b=some o:=λb o g e=>(bBD _ _ (Ne.symm g)).trans ((bBD _ _ (Ne.symm g)).trans e);exact d7 ⟨bCT F.plain_extend_loop _,r _ _ _ (W.frame 0 _ _ N λb g o e=>p b o (λz=>u (z ▸ g)) e) (λb o g e=>p b o g (d b o e)) J⟩
end
end PySem
namespace PySem
open PySem.Calls PyProof.Rows
section
variable {prog:Program}{w:World}{κ:Type}[DecidableEq κ]{knd:PySem.KeyKind prog w κ}{A:Around}{E:bF5}{s:Shared}
def wZ (I:A.handled=none)(J:uM s.heap D es ep t)(G:TabOk (byT w) t)(H:es.size<=1000)
  (h:∀h' tk dr (order:List (Int × Value)),(∀b o,s.heap.get? b=some o->h'.get? b=some o)->order.Perm es.toList->R (order.map (·.2)) { s with heap:=h',toks:=tk,drawn:=dr }):wpAny (model prog w) A (collect (.ref D)) R E s:=by
 obtain⟨o,v,r,hd,C⟩:=J;have u:=j9 v;unfold collect;refine b7 (wpAny_runValue (bBR entry_proto_collect' ?_));rw[bBI PySem.F.plain_proto_collect _];show wpAny _ A.in1 (newList [] >>= λl=>again (.builtin "list.__iadd__" ⟨[l,.ref D],[]⟩)) _ _ s;refine b7 (bAF (d7 ⟨bCT PySem.F.plain_list_iadd _,bBR entry_list_iadd' ?_⟩));rw[bBI PySem.F.plain_list_iadd _];have m:(s.heap.push { cls:=.type "list",data:=.seq ([]:List Value).toArray }).get? s.heap.objs.size=some { cls:=.type "list",data:=.seq #[] }:=j8 _ rfl;show wpAny _ A.in1 (Builtin.List.listExtendWith (.ref s.heap.objs.size) (.ref D) (.ref s.heap.objs.size)) _ _ _;have n:=aNu (prog:=prog) (w:=w) (A:=A) (s:={ s with heap:=s.heap.push { cls:=.type "list",data:=.seq ([]:List Value).toArray } })
  (R:=λ(q:Result) (p:Shared)=>∃(h':Heap) (tk:Nat) (dr:Drawn) (a:Array Value) (c:Nat) (order:List (Int × Value)),q=.ok (.ret (.ref s.heap.objs.size))/\p={ s with heap:=h',toks:=tk,drawn:=dr }/\(∀b o,s.heap.get? b=some o->h'.get? b=some o)/\h'.get? s.heap.objs.size=some { cls:=.type "list",dict:=none,data:=.seq a c,slots:=#[] }/\order.Perm es.toList/\a.toList=order.map (·.2))
  I ⟨o,c7 _ v,r,hd,C⟩ G H s.heap.objs.size (bCM u) (.ref s.heap.objs.size) m
  (λh' tk dr a c order g d i j=>⟨h',tk,dr,a,c,order,rfl,rfl,λb o e=>g b o (v8 (j9 e)) (c7 _ e),d,i,j⟩)
 have k:∀(h':Heap) (tk:Nat) (dr:Drawn) (a:Array Value) (c:Nat) (order:List (Int × Value)),(∀b o,s.heap.get? b=some o->h'.get? b=some o)->h'.get? s.heap.objs.size=some { cls:=.type "list",dict:=none,data:=.seq a c,slots:=#[] }->order.Perm es.toList->a.toList=order.map (·.2) ->
   wpAny (model prog w) A (load s.heap.objs.size >>= λo=>match o.data with|.seq xs _=>pure xs.toList|_=>unsupported "internal:collect") R E { s with heap:=h',toks:=tk,drawn:=dr }:=λh' tk dr a c order g d i j=>by
  refine b7 (wpAny_load d (d7 ?_));rw[j];exact h h' tk dr order g i
 refine bAX n (λz p x=>?_) λe p x=>?_
 ·cases z with
  |done f=>obtain⟨h',tk,dr,a,c,order,e,rfl,g,d,i,j⟩:=x;cases e;exact k h' tk dr a c order g d i j
  |again c₁=>refine⟨x.1,bCN x.2 λq K y=>?_⟩;obtain⟨h',tk,dr,a,c,order,rfl,rfl,g,d,i,j⟩:=y;exact k h' tk dr a c order g d i j
 ·obtain⟨_,_,_,_,_,_,B,_⟩:=x;cases B
theorem aKf (n:A.handled=none)(q:uQ knd s.heap D kl)(x:kl.length<=1000)
  (h:∀h' tk dr acc kl',(∀b o,s.heap.get? b=some o->h'.get? b=some o)->kl'.Perm kl->Paired (λk v=>knd.is k v=true) kl' acc->R acc { s with heap:=h',toks:=tk,drawn:=dr }):wpAny (model prog w) A (collect (.ref D)) R E s:=by
 obtain⟨o,p,u,t,m,c,hd,l,d,g⟩:=q;refine wZ n ⟨o,m,c,hd,l⟩ d (by rw[<-v4,<-Paired.length g];exact x) λh' tk dr a j i=>?_;obtain⟨kl',e,f⟩:=lJ i g;refine h h' tk dr _ kl' j f ?_;clear i f
 induction e with
 |nil=>exact .nil
 |cons r _ ih=>exact .cons r.1 ih
end
end PySem
namespace L2
open PySem PySem.Spec PyProof.Rows PySem.Calls
section
variable {prog:Program}{w:World}{A:Around}{E:bF5}{s:Shared}
theorem aP9 (h:Paired (λk v=>(bI prog w).is k v=true) kl acc)(hi:∀k∈kl,∃n,k=Sum.inl n):∃ns:List Int,kl=ns.map Sum.inl/\IntsAre acc ns:=by
 induction h with
 |nil=>exact⟨[],rfl,.nil⟩
 |@cons k v kl acc r _ ih=>
  obtain⟨ns,rfl,b⟩:=ih λk a=>hi k (j5 _ a);obtain⟨n,rfl⟩:=hi k j0;rcases cO (show wK (Sum.inl n) v=true from r) with⟨i,t,e,rfl⟩|⟨x,t,e,_⟩
  ·cases e;exact⟨n::ns,rfl,.cons n t b⟩
  ·cases e
theorem aQk (h:Paired (λk v=>(bI prog w).is k v=true) kl acc)(hi:∀k∈kl,∃n,k=Sum.inr n):∃ns:List Str,kl=ns.map Sum.inr/\StrsAre acc ns:=by
 induction h with
 |nil=>exact⟨[],rfl,.nil⟩
 |@cons k v kl acc r _ ih=>
  obtain⟨ns,rfl,b⟩:=ih λk a=>hi k (j5 _ a);obtain⟨n,rfl⟩:=hi k j0;rcases cO (show wK (Sum.inr n) v=true from r) with⟨i,t,e,_⟩|⟨x,t,e,rfl⟩
  ·cases e
  ·cases e;exact⟨n::ns,rfl,.cons n t b⟩
def ltK:Key->Key->Prop
 |.inl a,.inl b=>a<b
 |.inr a,.inr b=>a.cps.toList<b.cps.toList
 |_,_=>False
theorem aEo:∀l p,risingS p l=true->∀x∈l,¬ x.cps.toList<p.cps.toList
 |[],_,_,x,hx=>by cases hx
 |y::r,p,h,x,hx=>by
  unfold risingS at h;rw[bAS,ltCps_eq,Bool.not_eq_true',decide_eq_false_iff_not] at h;rcases List.mem_cons.mp hx with rfl|hx
  ·exact h.1
  ·intro z;have a:=aEo r y h.2 x hx;exact h.1 (List.lt_of_le_of_lt (show y.cps.toList<=x.cps.toList from a) z)
theorem wN:∀l p,risingS p l=true->l.Nodup->l.Pairwise λa b=>a.cps.toList<b.cps.toList
 |[],_,_,_=>.nil
 |y::r,p,h,nd=>by
  unfold risingS at h;rw[bAS] at h;rw[bFN] at nd;refine .cons (λx c=>?_) (wN r y h.2 nd.2);have d:=aEo r y h.2 x c;rcases Classical.em (y.cps.toList<x.cps.toList) with z|z
  ·exact z
  ·exfalso;have e:=List.le_antisymm d z;have:y=x:=by cases y;cases x;exact congrArg Str.mk (Array.toList_inj.mp e)
   exact nd.1 (this ▸ c)
theorem aCk (h:IntsAre vs ns):Vals ((ns.map Sum.inl).map kV) vs:=by
 induction h with
 |nil=>exact .nil
 |cons n t _ ih=>exact .cons ⟨t,rfl⟩ ih
theorem aCw (h:StrsAre vs ns):Vals ((ns.map Sum.inr).map kV) vs:=by
 induction h with
 |nil=>exact .nil
 |cons n t _ ih=>exact .cons ⟨t,rfl⟩ ih
def vR {α β:Type}{f:α->β}{l:List α}(h:(l.map f).Nodup):l.Nodup:=List.Pairwise.imp (λa e=>a (congrArg f e)) (List.pairwise_map.mp h)
def aMd (T:A.handled=none)(Z:uQ (bI prog w) s.heap D kl)(hn:kl.length<=60)(U:kl.Nodup)(hi:(∀k∈kl,∃n,k=Sum.inl n)\/∀k∈kl,∃n,k=Sum.inr n)
  (q:∀(h1 h':Heap) (tk:Nat) (dr:Drawn) (B:Addr) (vs:List Value) (ks:List Key) (e:Nat),Vals (ks.map kV) vs->ks.Perm kl->ks.Pairwise ltK->h'.get? B=some (seqObj "list" vs.toArray e)->(∀b o,s.heap.get? b=some o->h1.get? b=some o)->(∀b o,h1.get? b=some o->h'.get? b=some o)->h1.objs.size<=B->Q (.ref B) { s with heap:=h',toks:=tk,drawn:=dr }) :
  wpAny (model prog w) A (call (.builtin "sorted") [.ref D]) Q E s:=by
 refine call_function_entry kind_sorted plain_sorted entry_sorted (args_sorted1 _) ?_;unfold Builtin.«sorted»;refine b7 (m:=checkCount "sorted" 1 1 _) (d7 (b7 (aKf (A:=A.in1) T Z (by lia) λh' tk dr c h g f G=>?_)));have Y:c.length=kl.length:=by rw[<-Paired.length G,f.length_eq]
 have l:h.Nodup:=f.nodup_iff.mpr U;have t:c.length<64:=by lia
 refine b7 (wpAny_newList ?_ (by rw[sizeLine_eq];lia));have d:(h'.push (seqObj "list" c.toArray 0)).get? h'.objs.size=some (seqObj "list" c.toArray 0):=j8 _ rfl;have v:∀(out:Array Value) (ks:List Key),Vals (ks.map kV) out.toList->ks.Perm h->ks.Pairwise ltK->Q (.ref h'.objs.size) { s with heap:=sortedHeap (h'.push (seqObj "list" c.toArray 0)) h'.objs.size c out,toks:=tk,drawn:=dr }:=λout ks O L P=>by obtain⟨e,J⟩:=sortedHeap_at (out:=out) d;refine q h' _ tk dr h'.objs.size out.toList ks e O (L.trans f) P (by rw[Array.toArray_toList];exact J) g (λb o p=>?_) (d8 _);have j:=j9 p;rw[sortedHeap_old (v8 j) (by rw[size_push'];exact bBU j)];exact c7 _ p
 rcases hi with hi|hi
 ·obtain⟨R,rfl,u⟩:=aP9 G λk g=>hi k (f.mem_iff.mp g);refine b7 (bAR (bAD slot_list_sort ⟨_,d,rfl⟩ entry_list_sort (list_sort_tree d u t λout x F z S=>⟨_,rfl,d7 ⟨_,rfl,v out (x.map Sum.inl) (aCk F) (z.map _) ?_⟩⟩) (args_list_sort _)));rw[List.pairwise_map];have C:x.Nodup:=z.nodup_iff.mpr (vR l);refine (List.pairwise_and_iff.mpr ⟨S,C⟩).imp λ{a b} ⟨h1,W⟩=>?_;show a<b;lia
 ·obtain⟨R,rfl,u⟩:=aQk G λk g=>hi k (f.mem_iff.mp g);refine b7 (bAR (bAD slot_list_sort ⟨_,d,rfl⟩ entry_list_sort (list_sort_treeK strKind_oneLt d u.keysOf (λV X H e=>keyKind_strs (by rw[<-e];exact u)) t λN F z=>⟨_,rfl,d7 ⟨_,rfl,?_⟩⟩) (args_list_sort _)));obtain⟨i,M,I,K⟩:=sorted_out_str u F z;refine v _ (i.map Sum.inr) (aCw M) (I.map _) ?_;rw[List.pairwise_map];have C:=I.nodup_iff.mpr (vR l);cases i with
  |nil=>exact .nil
  |cons y r=>have:=wN (y::r) y (by unfold risingS;rw[bAS,ltCps_eq];exact⟨by simpa using List.lt_irrefl _,K⟩) C;exact this
end
def aUd (P:Program)(w:World)(D:Addr)(kl:List Key):HO:=.ext λh=>uQ (bI P w) h D kl
section
variable {X:Cx}{bF8:bF6}{σ:L2.St}{H:Hp}{s:Shared}
def Inv.drew (I:Inv X bF8 σ H s)(dr:Drawn):Inv X bF8 σ H { s with drawn:=dr }:=⟨I.ok,I.os,I.bare,I.base,I.loc,I.cell,I.free,I.freeC,I.pin,I.hok,I.len⟩
def bEd (P:Program)(w:World)(K:bF4):List V->Hp->VK->Prop:=λxs H Q=>∃p ks,xs=[.ref p]/\SqL K H p (ks.map kV)/\ks.length<=4/\∀D H' kl,H D=none->Same H H'->H' D=some (aUd P w D kl)->Ded kl ks->Q (.ref D) H'
theorem aO9 (h:RelV (kV k) v):(bI X.prog X.w).is k v=true/\v.scannable=true:=by
 cases k with
 |inl n=>obtain⟨t,rfl⟩:=h;exact⟨aEv n t,rfl⟩
 |inr n=>obtain⟨t,rfl⟩:=h;exact⟨aFc n t,rfl⟩
def aQv (T:X.calm=true):cH X (.type "set") (bEd X.prog X.w X.K):=by
 intro B s σ H P O Q I r h;obtain⟨p,ks,rfl,z,F,q⟩:=h;obtain⟨u,rfl,J⟩:=r.one;cases J;obtain⟨f,l,E,R⟩:=I.list z;have a:=l.length;rw[j6] at a;refine aQ9 (knd:=bI X.prog X.w) (ks:=ks) (I.ok.hd T) E.isList (by rw[d9];exact a) (λi v L=>?_) (by rw[d9,<-a];exact F) λm A d x D C=>?_
 ·have c:f[i]?=some v:=by simpa using L
  have g:i<ks.length:=by rw[a];exact (List.getElem?_eq_some_iff.mp c).1
  obtain⟨u,n,G⟩:=l.get (i:=i) (x:=kV ks[i]) (by rw[v7,b8 g];rfl);rw[c] at n;cases n;exact⟨ks[i],b8 g,aO9 G⟩
 ·have e:∃o,m.get? s.heap.objs.size=some o:=by obtain⟨o,_,_,_,M,_⟩:=x;exact⟨o,M⟩
  have j:H s.heap.objs.size=none:=I.hok.fresh (d8 _);exact⟨.ref s.heap.objs.size,_,I.laid (t':=A) (o:=aUd X.prog X.w s.heap.objs.size d) (λb o t=>C b o (j9 t) t) (d8 _) (show uQ (bI X.prog X.w) m s.heap.objs.size d/\_/\_ from ⟨x,e,λN S y k=>y.at k⟩),rfl,q _ _ d j (aW j _) aF D⟩
def aVb (P:Program)(w:World):List V->Hp->VK->Prop:=λxs H Q=>∃D kl,xs=[.ref D]/\H D=some (aUd P w D kl)/\kl.length<=60/\kl.Nodup/\((∀k∈kl,∃n,k=Sum.inl n)\/∀k∈kl,∃n,k=Sum.inr n) /\
 ∀(B:Addr) (H':Hp) (ks:List Key),H B=none->Same H H'->H' B=some (.lst (ks.map kV))->ks.Perm kl->ks.Pairwise ltK->Q (.ref B) H'
def aHj (M:X.calm=true):cH X (.builtin "sorted") (aVb X.prog X.w):=by
 intro l s σ H K J Q I r h;obtain⟨D,G,rfl,m,i,j,k,q⟩:=h;obtain⟨u,rfl,v⟩:=r.one;cases v;have x:=(I.hok D _ m).1;refine aMd (I.ok.hd M) x i j k λF N c p B C a e y b z A n t g=>?_;have E:=I.kept (t':=c) n;have d:=E.drew p;have f:=d.hok.fresh g;have L:a.length<=60:=by rw[b.length_eq];exact i
 exact⟨.ref B,_,d.laid (t':=c) (o:=.lst (a.map kV)) t g ⟨small (by rw[j6];lia),C,e,y,A⟩,rfl,q B _ a f (aW f _) aF b z⟩
end
end L2
namespace PySem
open SetTable (Probe bits runEnd leap)
def tmk (m:Nat):SetTable:=⟨m,#[],#[],0,true,0,true⟩
def sq (m:Nat)(p:Probe):Nat->Probe
 |0=>p
 |n+1=>(tmk m).advance (sq m p n)
def hd (m:Nat)(x:Nat × Nat):Probe:=⟨x.1,runEnd m x.1 - x.1,x.1,x.2,none⟩
def x0 (m:Nat)(h:Int):Nat × Nat:=(bits h % (m+1),bits h)
def pj (m:Nat)(h:Int)(n:Nat):Nat:=(sq m (hd m (x0 m h)) n).j
def lp (m:Nat)(x:Nat × Nat):Nat->Nat × Nat
 |0=>x
 |k+1=>leap m (lp m x k).1 (lp m x k).2
theorem aGv (m:Nat)(p:Probe)(a:Nat):∀b,sq m p (a+b)=sq m (sq m p a) b
 |0=>rfl
 |b+1=>congrArg (tmk m).advance (aGv m p a b)
theorem aGx (m:Nat)(x:Nat × Nat):∀k,k<=runEnd m x.1 - x.1->sq m (hd m x) k=⟨x.1+k,runEnd m x.1 - x.1 - k,x.1,x.2,none⟩
 |0,_=>rfl
 |k+1,h=>by unfold sq;rw[aGx m x k (by lia)];unfold SetTable.advance;rw[if_pos (by show runEnd m x.1 - x.1 - k > 0;lia)];rfl
def aHg (m:Nat)(x:Nat × Nat):sq m (hd m x) (runEnd m x.1 - x.1+1)=hd m (leap m x.1 x.2):=by unfold sq;rw[aGx m x _ (d8 _)];unfold SetTable.advance;rw[if_neg (by show ¬ (runEnd m x.1 - x.1 - (runEnd m x.1 - x.1) > 0);lia)];rfl
def bAo (m i:Nat):runEnd m i - i<=9:=by unfold runEnd;split <;> lia
def aBd (hi:i<=m)(a:k<=runEnd m i - i):i+k<=m:=by unfold runEnd at a;split at a <;> lia
theorem heads (m:Nat)(x:Nat × Nat):∀k,∃n,n<=10 * k/\sq m (hd m x) n=hd m (lp m x k)
 |0=>⟨0,d8 _,rfl⟩
 |k+1=>by obtain⟨n,b,a⟩:=heads m x k;refine⟨n+(runEnd m (lp m x k).1 - (lp m x k).1+1),by have:=bAo m (lp m x k).1;lia,?_⟩;rw[aGv,a,aHg];rfl
theorem aUr (m:Nat)(x:Nat × Nat):∀k,(lp m x k).2=x.2 / 32 ^ k
 |0=>by simp[lp]
 |k+1=>by show (lp m x k).2 / 32=_;rw[aUr m x k,Nat.div_div_eq_div_mul,Nat.pow_succ]
theorem aVk (m:Nat)(x:Nat × Nat)(h:x.1<=m):∀k,(lp m x k).1<=m
 |0=>h
 |k+1=>by exact Nat.le_of_lt_succ (Nat.mod_lt _ (Nat.succ_pos m))
def fI (m:Nat):Nat->Nat->Nat
 |0,i=>i
 |k+1,i=>(fI m k i * 5+1) % (m+1)
theorem aC1 (m a i:Nat):∀b,fI m (b+a) i=fI m b (fI m a i)
 |0=>by rw[bDN];rfl
 |b+1=>by rw[show b+1+a=(b+a)+1 by lia];show (fI m (b+a) i * 5+1) % (m+1)=_;rw[aC1 m a i b];rfl
def orb (m:Nat):Nat->Nat->List Nat
 |0,_=>[]
 |k+1,i=>i::orb m k ((i * 5+1) % (m+1))
theorem aU1:∀{n i j:Nat},j∈orb m n i->∃k,k<n/\fI m k i=j
 |n+1,i,j,h=>by
  rcases List.mem_cons.mp h with rfl|h
  ·exact⟨0,Nat.succ_pos _,rfl⟩
  ·obtain⟨k,a,b⟩:=aU1 h;exact⟨k+1,Nat.succ_lt_succ a,by rw[aC1 m 1 i k];exact b⟩
def Msk (m:Nat):Prop:=m=7\/m=31\/m=127
def aWt (h:Msk m):(List.range (m+1)).all (λj=>(orb m (m+1) 0).contains j)=true/\fI m (m+1) 0=0:=by rcases h with rfl|rfl|rfl <;> exact⟨by decide +kernel,by decide +kernel⟩
def cyc (h:Msk m)(hi:i<=m)(e:j<=m):∃k,k<=m/\fI m k i=j:=by
 obtain⟨d,f⟩:=aWt h;have at0:∀j,j<=m->∃k,k<m+1/\fI m k 0=j:=λj e=>aU1 (by simpa using List.all_eq_true.mp d j (List.mem_range.mpr (by lia)));obtain⟨a,g,rfl⟩:=at0 i hi;obtain⟨b,l,rfl⟩:=at0 j e;by_cases c:a<=b
 ·exact⟨b - a,by lia,by rw[<-aC1,show b - a+a=b by lia]⟩
 ·exact⟨b+(m+1) - a,by lia,by rw[<-aC1,show b+(m+1) - a+a=b+(m+1) by lia,aC1,f]⟩
def aUq (m:Nat)(h:Int):(x0 m h).1<=m/\(x0 m h).2<2 ^ 64:=by refine⟨Nat.le_of_lt_succ (Nat.mod_lt _ (Nat.succ_pos m)),?_⟩;show (h % 2 ^ 64).toNat<2 ^ 64;have a:=bEO h (show (0:Int)<2 ^ 64 by decide);have b:=bFO h (show (2 ^ 64:Int)≠0 by decide);lia
theorem aPi (h:x.2<2 ^ 64):∀k,(lp m x (12+k)).1=fI m k (lp m x 12).1
 |0=>rfl
 |k+1=>by
  show ((lp m x (12+k)).1 * 5+1+(lp m x (12+k)).2 / 32) % (m+1)=(fI m k _ * 5+1) % (m+1);rw[aPi h k,aUr,Nat.div_div_eq_div_mul,<-Nat.pow_succ];have:x.2 / 32 ^ (12+k+1)=0:=by refine Nat.div_eq_of_lt (z9 h ?_);exact bAE (by decide:2 ^ 64<=32 ^ 13) (Nat.pow_le_pow_right (by decide) (by lia))
  rw[this]
def aPr (f:Msk m)(h:Int)(e:j<=m):∃k,k<=12+m/\(lp m (x0 m h) k).1=j:=by obtain⟨a,b⟩:=aUq m h;obtain⟨k,d,c⟩:=cyc f (aVk m _ a 12) e;exact⟨12+k,by lia,(aPi b k).trans c⟩
theorem least {P:Nat->Prop}:∀n,P n->∃k,k<=n/\P k/\∀i,i<k->¬ P i:=by
 intro n
 induction n using Nat.strongRecOn with
 |ind n ih=>
  intro e;by_cases c:∃i,i<n/\P i
  ·obtain⟨i,d,g⟩:=c;obtain⟨k,a,b⟩:=ih i d g;exact⟨k,by lia,b⟩
  ·exact⟨n,d8 _,e,λi f q=>c ⟨i,f,q⟩⟩
theorem pig:∀(n:Nat) (l:List Nat),(∀j,j<n->j∈l)->n<=l.length
 |0,_,_=>bAC _
 |n+1,l,h=>by have a:=h n (bCU _);have:=pig n (l.erase n) λj b=>(List.mem_erase_of_ne (by lia)).mpr (h j (by lia));rw[List.length_erase_of_mem a] at this;have:=List.length_pos_of_mem a;lia
def first {m:Nat}(u:Msk m){l:List Nat}(hl:l.length<=m)(h:Int):∃N,N<10 * (m+15)/\pj m h N∉l/\pj m h N<=m/\∀n,n<N->pj m h n∈l:=by
 obtain⟨j,g,s⟩:∃j,j<=m/\j∉l:=Classical.byContradiction λz=>by have:=pig (m+1) l λj g=>Classical.byContradiction λq=>z ⟨j,by lia,q⟩;lia
 obtain⟨k,t,o⟩:=aPr u h g;obtain⟨n,v,r⟩:=heads m (x0 m h) k;have e:pj m h n=j:=by unfold pj;rw[r];exact o
 obtain⟨N,a,b,c⟩:=least (P:=λn=>pj m h n∉l) n (by rw[e];exact s);refine⟨N,by lia,b,?_,λi p=>Classical.byContradiction (c i p)⟩;refine (?_:∀N,pj m h N<=m) N;intro N;have f:∀N,∃x k,x.1<=m/\k<=runEnd m x.1 - x.1/\sq m (hd m (x0 m h)) N=sq m (hd m x) k:=by
  intro N
  induction N with
  |zero=>exact⟨x0 m h,0,(aUq m h).1,bAC _,rfl⟩
  |succ N ih=>
   obtain⟨x,k,a,b,c⟩:=ih;by_cases d:k+1<=runEnd m x.1 - x.1
   ·exact⟨x,k+1,a,d,congrArg (tmk m).advance c⟩
   ·obtain rfl:k=runEnd m x.1 - x.1:=by lia
    refine⟨leap m x.1 x.2,0,?_,bAC _,(congrArg (tmk m).advance c).trans (aHg m x)⟩;exact aVk m x a 1
 obtain⟨x,k,a,b,c⟩:=f N;unfold pj;rw[c,aGx m x k b];exact aBd a b
def Rch (m:Nat)(l:List Nat)(h:Int)(j:Nat):Prop:=∃n,pj m h n=j/\∀i,i<n->pj m h i∈l
def Rch.mono (r:Rch m l h j)(s:∀x∈l,x∈l'):Rch m l' h j:=
 let ⟨n,a,b⟩:=r;⟨n,a,λi c=>s _ (b i c)⟩
def below_at (b:Ris xs)(hi:i<xs.size):SetTable.below xs xs[i]=i:=by
 obtain⟨f,c,a⟩:=mO b xs[i];rcases bFB (SetTable.below xs xs[i]) i with h|h|h
 ·have d:=a _ (by lia) (d8 _);have e:=b _ i (by lia) hi h;lia
 ·exact h
 ·have:=c i hi h;lia
def aDb {t:SetTable}(hd:t.dummies=#[])(f:Ris t.place)(j:Nat):(j∉t.place.toList/\t.slot j=.empty)\/∃i,t.place[i]?=some j/\t.slot j=.live i:=by
 by_cases h:j∈t.place.toList
 ·right;obtain⟨i,d,e⟩:=bBA h;have a:i<t.place.size:=by simpa using d
  have b:t.place[i]=j:=by simpa using e
  subst b;refine⟨i,j7 a,?_⟩;unfold SetTable.slot;dsimp only;rw[below_at f a,j7 a];simp
 ·left;refine⟨h,?_⟩;unfold SetTable.slot;dsimp only;rw[if_neg,hd]
  ·have:SetTable.has #[] j=false:=by unfold SetTable.has;simp
   rw[this];rfl
  ·intro z;have c:=eq_of_beq z;exact h (by simpa using bDR c)
theorem aEx (f:t.dummies=#[])(l:Ris t.place)(r:pj t.mask h N∉t.place.toList)(y:∀n,n<N->pj t.mask h n∈t.place.toList) :
  ∀(fuel n:Nat),n<=N->N - n<fuel->∃n',n<=n'/\n'<=N/\(∀k i,n<=k->k<n'->t.place[i]?=some (pj t.mask h k)->g i≠h) /\
   ((n'=N/\SetTable.probe.go t g h fuel (sq t.mask (hd t.mask (x0 t.mask h)) n)=some (.empty (pj t.mask h N) none)) \/
   (n'<N/\∃i,t.place[i]?=some (pj t.mask h n')/\g i=h/\SetTable.probe.go t g h fuel (sq t.mask (hd t.mask (x0 t.mask h)) n)=some (.candidate (pj t.mask h n') i (sq t.mask (hd t.mask (x0 t.mask h)) (n'+1)))))
 |0,n,_,hf=>by lia
 |fuel+1,n,hn,hf=>by
  have B:(sq t.mask (hd t.mask (x0 t.mask h)) n).dummy=none:=by
   clear hn hf
   induction n with
   |zero=>rfl
   |succ n ih=>
    unfold sq SetTable.advance
    split
    ·exact ih
    ·exact ih
  unfold SetTable.probe.go;rcases aDb f l (pj t.mask h n) with⟨a,b⟩|⟨i,a,b⟩
  ·have e:=Nat.le_antisymm hn (Nat.le_of_not_lt λz=>a (y n z));subst e;refine⟨n,d8 _,d8 _,λk i o m=>by lia,.inl ⟨rfl,?_⟩⟩;rw[show t.slot (sq t.mask (hd t.mask (x0 t.mask h)) n).j=.empty from b];dsimp only;rw[B];rfl
  ·have d:=Nat.lt_of_le_of_ne hn λz=>r (by rw[<-z];simpa using bDR a);rw[show t.slot (sq t.mask (hd t.mask (x0 t.mask h)) n).j=.live i from b];dsimp only;by_cases c:g i=h
   ·refine⟨n,d8 _,hn,λk i o m=>by lia,.inr ⟨d,i,a,c,?_⟩⟩;rw[if_pos (beq_iff_eq.mpr c)];rfl
   ·rw[if_neg (by simpa using c)];obtain⟨n',o,m,s,w⟩:=aEx f l r y fuel (n+1) d (by lia);refine⟨n',by lia,m,λk p D v q=>?_,w⟩;by_cases e:k=n
    ·subst e;have:p=i:=by obtain⟨C,x⟩:=Array.getElem?_eq_some_iff.mp q;obtain⟨A,u⟩:=Array.getElem?_eq_some_iff.mp a;rw[<-below_at l C,<-below_at l A,x,u]
     rw[this];exact c
    ·exact s k p (by lia) v q
theorem aEz {α β:Type}{R:α->β->Prop}{as:List α}{bs:List β}(h:Paired R as bs):∀{i:Nat} {a:α},as[i]?=some a->∃b,bs[i]?=some b/\R a b:=by
 induction h with
 |nil=>intro i a q;cases q
 |cons r _ ih=>
  intro i a q;cases i with
  |zero=>cases q;exact⟨_,rfl,r⟩
  |succ i=>exact ih q
def aYx {m:Nat}(I:Msk m){B:Array (Option Nat)}{f:List Nat}(ch:∀j,j<=m->((B.getD j (some 0)).isNone=true↔j∉f))(hl:f.length<=m)(h:Int) :
  ∃j,SetTable.layClean.free m B (SetTable.turns m) (bits h % (m+1)) (bits h)=some j/\j<=m/\j∉f/\Rch m f h j:=by
 obtain⟨j,u,C⟩:∃j,j<=m/\j∉f:=Classical.byContradiction λz=>by have:=pig (m+1) f λj u=>Classical.byContradiction λq=>z ⟨j,by lia,q⟩;lia
 obtain⟨K,D,v⟩:=aPr I h u;have r:∀a k,k<=K->K - k<a->(∃n,sq m (hd m (x0 m h)) n=hd m (lp m (x0 m h) k)/\∀i,i<n->pj m h i∈f)->∃j,SetTable.layClean.free m B a (lp m (x0 m h) k).1 (lp m (x0 m h) k).2=some j/\j<=m/\j∉f/\Rch m f h j:=by
  intro a
  induction a with
  |zero=>intro k _ z;lia
  |succ a ih=>
   intro k F G ⟨n,e,t⟩;have b:=aVk m _ (aUq m h).1 k;have l:∀c,c<=runEnd m (lp m (x0 m h) k).1 - (lp m (x0 m h) k).1->pj m h (n+c)=(lp m (x0 m h) k).1+c:=λc g=>by unfold pj;rw[aGv,e,aGx _ _ _ g]
   have w:∀c,c<=runEnd m (lp m (x0 m h) k).1 - (lp m (x0 m h) k).1->(∀d,d<c->(lp m (x0 m h) k).1+d∈f)->∀i,i<n+c->pj m h i∈f:=λc g hd i s=>by
    by_cases z:i<n
    ·exact t i z
    ·have:=hd (i - n) (by lia);rw[<-l (i - n) (by lia),show n+(i - n)=i by lia] at this;exact this
   have H:(lp m (x0 m h) k).1<=runEnd m (lp m (x0 m h) k).1:=by unfold runEnd;split <;> lia
   unfold SetTable.layClean.free;cases p:(List.range (runEnd m (lp m (x0 m h) k).1+1 - (lp m (x0 m h) k).1)).find? λc=>(B.getD ((lp m (x0 m h) k).1+c) (some 0)).isNone with
   |some c=>
    rw[List.find?_range_eq_some] at p;obtain⟨A,x,y⟩:=p;rw[List.mem_range] at x;have g:c<=runEnd m (lp m (x0 m h) k).1 - (lp m (x0 m h) k).1:=by lia
    refine⟨_,rfl,aBd b g,(ch _ (aBd b g)).mp A,n+c,l c g,w c g λd hd=>Classical.byContradiction λz=>?_⟩;have:=y d hd;rw[(ch _ (aBd b (by lia))).mpr z] at this;cases this
   |none=>
    rw[List.find?_range_eq_none] at p;have o:∀d,d<runEnd m (lp m (x0 m h) k).1+1 - (lp m (x0 m h) k).1->(lp m (x0 m h) k).1+d∈f:=λd hd=>Classical.byContradiction λz=>by have:=p d hd;rw[(ch _ (aBd b (by lia))).mpr z] at this;cases this
    have E:k≠K:=λz=>C (by rw[<-v,<-z];exact o 0 (by lia));refine ih (k+1) (by lia) (by lia) ⟨n+(runEnd m (lp m (x0 m h) k).1 - (lp m (x0 m h) k).1+1),by rw[aGv,e,aHg];rfl,λi s=>?_⟩;by_cases z:i<n
    ·exact t i z
    ·have:=o (i - n) (by lia);rw[<-l (i - n) (by lia),show n+(i - n)=i by lia] at this;exact this
 exact r _ 0 (bAC _) (by unfold SetTable.turns;lia) ⟨0,rfl,λi s=>by lia⟩
structure LI (m:Nat)(done:List Int)(js:List Nat)(ow:Array (Option Nat)):Prop where
 sz:ow.size=m+1
 at_:∀j k:Nat,ow[j]?=some (some k)↔js[k]?=some j
 le:∀j∈js,j<=m
 pr:Paired (Rch m js) done js
theorem LI.ch (L:LI m done js ow)(j:Nat)(hj:j<=m):(ow.getD j (some 0)).isNone=true↔j∉js:=by
 have a:j<ow.size:=by rw[L.sz];lia
 rw[v6,j7 a,bBN];cases e:ow[j] with
 |none=>refine⟨λ_ z=>?_,λ_=>rfl⟩;obtain⟨k,b,q⟩:=bBA z;have:=(L.at_ j k).mpr (by rw[b8 b,q]);rw[j7 a,e] at this;cases this
 |some k=>exact⟨λz=>(by cases z),λz=>absurd (t8 ((L.at_ j k).mp (by rw[j7 a,e]))) z⟩
def LI.more (L:LI m done js ow)(l:j<=m)(i:j∉js)(r:Rch m js h j):LI m (done++[h]) (js++[j]) (ow.setIfInBounds j (some js.length)):=by
 have f:j<ow.size:=by rw[L.sz];lia
 refine⟨by rw[Array.size_setIfInBounds,L.sz],λg k=>?_,λx d=>?_,?_⟩
 ·by_cases e:j=g
  ·subst e;rw[Array.getElem?_setIfInBounds_self_of_lt f];constructor
   ·intro z;cases z;rw[bBG (d8 _),Nat.sub_self];rfl
   ·intro z;rcases bFB k js.length with c|c|c
    ·rw[bBJ c] at z;exact absurd (t8 z) i
    ·rw[c]
    ·rw[bAA (by rw[w6];show js.length+1<=k;lia)] at z;cases z
  ·rw[bFD e,L.at_];rcases bFB k js.length with c|c|c
   ·rw[bBJ c]
   ·rw[c,bBG (d8 _),Nat.sub_self,bAA (d8 _)];exact⟨λz=>(by cases z),λz=>absurd (bAK z) e⟩
   ·rw[bAA (by lia),bAA (by rw[w6];show js.length+1<=k;lia)]
 ·rcases List.mem_append.mp d with z|z
  ·exact L.le x z
  ·rw[List.mem_singleton.mp z];exact l
 ·exact qL (L.pr.mono λa b q=>q.mono λx d=>bBQ _ d) (r.mono λx d=>bBQ _ d)
theorem aP6 (d:Msk m)(c:∀o k h j,SetTable.layClean.free m o (SetTable.turns m) (bits h % (m+1)) (bits h)=some j->f (some (o,k)) h=some (o.setIfInBounds j (some k),k+1)) :
  ∀hs done js ow,LI m done js ow->js.length+hs.length<=m->∃js' ow' k,hs.foldl f (some (ow,js.length))=some (ow',k)/\LI m (done++hs) js' ow'
 |[],done,js,ow,L,_=>⟨js,ow,_,rfl,by rw[bBB];exact L⟩
 |h::hs,done,js,ow,L,hl=>by rw[m8] at hl;obtain⟨j,e,b,i,g⟩:=aYx d L.ch (by lia) h;obtain⟨js',ow',k,q,a⟩:=aP6 d c hs (done++[h]) (js++[j]) _ (L.more b i g) (by rw[w6];show js.length+1+hs.length<=m;lia);refine⟨js',ow',k,?_,by rw[bCY] at a;exact a⟩;rw[List.foldl_cons,c _ _ _ _ e];rw[w6] at q;exact q
theorem aK8 {α:Type}:∀l:List α,(List.range l.length).filterMap (λi=>l[i]?)=l
 |[]=>rfl
 |x::l=>by rw[m8,List.range_succ_eq_map,bCF];simp only[List.getElem?_cons_zero,bEK,Function.comp_def,Nat.succ_eq_add_one,List.getElem?_cons_succ];rw[aK8 l]
def aWs {m:Nat}(S:Msk m)(es:Array (Int × Value))(T:es.size<=m)(fi mv:Nat)(ld pl:Bool):∃place order,SetTable.laid m fi mv ld pl (es.map (·.1))=some (⟨m,place,#[],fi,ld,mv,pl⟩,order)/\Ris place/\(∀j∈place.toList,j<=m) /\
  (order.filterMap (es[·]?)).toList.Perm es.toList/\Paired (λj e=>Rch m place.toList e.1 j) place.toList (order.filterMap (es[·]?)).toList:=by
 have O:LI m [] [] (Array.replicate (m+1) none):=⟨Array.size_replicate,λj k=>⟨λz=>(by
  rw[Array.getElem?_replicate] at z
  split at z <;> cases z),λz=>(by cases z)⟩,λj w=>(by cases w),.nil⟩
 have E:([]:List Nat).length+(es.map (·.1)).toList.length<=m:=by simpa using T
 obtain⟨s,v,k,e,L⟩:=aP6 S (f:=λB h=>do
  let (owner,k) <-B
  let j <-SetTable.layClean.free m owner (SetTable.turns m) (bits h % (m+1)) (bits h)
  pure (owner.setIfInBounds j (some k),k+1)) (λo k h j q=>by show (SetTable.layClean.free m o _ _ _).bind _=_;rw[q];rfl) (es.map (·.1)).toList [] [] _ O E
 rw[bEJ] at L;have M:s.length=es.size:=by rw[<-L.pr.length];simp
 have P:SetTable.layClean m (es.map (·.1))=some v:=by unfold SetTable.layClean;rw[<-Array.foldl_toList];exact congrArg (Option.map (·.1)) e
 have c:∀x:Nat × Nat,x∈(List.range (m+1)).filterMap (λj=>(v.getD j none).map (j,·))↔s[x.2]?=some x.1:=λx=>by
  rw[List.mem_filterMap,<-L.at_];constructor
  ·rintro⟨j,w,q⟩;have n:j<v.size:=by rw[L.sz];exact List.mem_range.mp w
   rw[v6,j7 n,bBN] at q;obtain⟨k,l,rfl⟩:=Option.map_eq_some_iff.mp q;rw[j7 n,l]
  ·intro q;obtain⟨n,l⟩:=Array.getElem?_eq_some_iff.mp q;refine⟨x.1,List.mem_range.mpr (by rw[L.sz] at n;exact n),?_⟩;rw[v6,q];rfl
 generalize G:(List.range (m+1)).filterMap (λj=>(v.getD j none).map (j,·))=live at c;have p:∀j b,(v.getD j none).map (j,·)=some b->b.1=j:=λj b q=>by obtain⟨_,_,rfl⟩:=Option.map_eq_some_iff.mp q;rfl
 have H:live.Pairwise λa b=>a.1<b.1:=by rw[<-G,List.pairwise_filterMap];exact List.pairwise_lt_range.imp λ{a b} F x g y u=>by rw[p a x g,p b y u];exact F
 have J:(live.map (·.2)).Nodup:=by refine List.pairwise_map.mpr ((List.pairwise_and_iff.mpr ⟨H,List.pairwise_iff_forall_sublist.mpr λ{a b} q=>(⟨(c a).mp (q.subset j0),(c b).mp (q.subset (j5 _ j0))⟩:s[a.2]?=some a.1/\s[b.2]?=some b.1)⟩).imp λ{a b} ⟨R,K,Q⟩ z=>?_);rw[z,Q] at K;have:=bAK K;lia
 have I:(live.map (·.2)).Perm (List.range es.size):=(bFX J List.nodup_range).mpr λk=>by
  rw[List.mem_map,List.mem_range];constructor
  ·rintro⟨x,g,rfl⟩;rw[<-M];exact (List.getElem?_eq_some_iff.mp ((c x).mp g)).1
  ·intro C;exact⟨(s[k]'(by lia),k),(c _).mpr (b8 _),rfl⟩
 have t:((live.map (·.2)).toArray.filterMap (es[·]?)).toList=live.filterMap λx=>es[x.2]?:=by rw[Array.toList_filterMap];simp only[bEK,Function.comp_def]
 refine⟨(live.map (·.1)).toArray,(live.map (·.2)).toArray,?_,?_,λj w=>?_,?_,?_⟩
 ·unfold SetTable.laid;rw[P];show some _=_;rw[<-G]
 ·rw[aCl];exact List.pairwise_map.mpr H
 ·obtain⟨x,g,rfl⟩:=List.mem_map.mp w;exact L.le _ (t8 ((c x).mp g))
 ·rw[Array.toList_filterMap];refine (I.filterMap _).trans ?_;have:=aK8 es.toList;rw[v4] at this;simp only[bBO] at this;rw[this]
 ·rw[t];have d:∀x∈live,∃e:Int × Value,es[x.2]?=some e/\Rch m (live.map (·.1)) e.1 x.1:=λx g=>by
   have q:=(c x).mp g;have C:x.2<es.size:=by rw[<-M];exact (List.getElem?_eq_some_iff.mp q).1
   refine⟨es[x.2],j7 C,?_⟩;obtain⟨b,l,D⟩:=aEz L.pr (i:=x.2) (a:=es[x.2].1) (by simp[C]);rw[q] at l;cases l;exact D.mono λy u=>by obtain⟨i,N,z⟩:=bBA u;exact List.mem_map.mpr ⟨(y,i),(c _).mpr (by rw[b8 N,z]),rfl⟩
  refine (?_:∀A,(∀x∈live,∃e:Int × Value,es[x.2]?=some e/\Rch m A e.1 x.1)->Paired (λj (e:Int × Value)=>Rch m A e.1 j) (live.map (·.1)) (live.filterMap λx=>es[x.2]?)) _ d;clear d t I J H G c;intro A d
  induction live with
  |nil=>exact .nil
  |cons x r ih=>obtain⟨e,l,D⟩:=d x j0;rw[bCF,l];exact .cons D (ih λy u=>d y (j5 _ u))
end PySem
namespace PySem
open SetTable (Probe bits)
section
variable {prog:Program}{w:World}{κ:Type}[DecidableEq κ]{knd:KeyKind prog w κ}{A:Around}{E:bF5}{s:Shared}
structure TI (b:Bool)(t:SetTable)(es:Array (Int × Value)):Prop where
 led:b=false->t.led=true
 dm:t.dummies=#[]
 msk:Msk t.mask
 ris:Ris t.place
 pr:Paired (λj (e:Int × Value)=>Rch t.mask t.place.toList e.1 j) t.place.toList es.toList
 room:5 * es.size<3 * t.mask
def TI.len {b:Bool}{t:SetTable}{es:Array (Int × Value)}(x:TI b t es):t.place.size=es.size:=by have:=x.pr.length;simpa using this
theorem TI.fits (x:TI b t es):t.fits es.size=true:=by unfold SetTable.fits SetTable.fill;rw[x.len,x.dm];have:=x.room;simp;lia
def TI.tab (x:TI b t es):TabOk b t:=⟨x.led,x.dm,by rcases x.msk with e|e|e <;> lia,λ_=>x.ris⟩
def aFv (e:Ex h0 h)(x:IsTupleKey knd h0 k a):IsTupleKey knd h k a:=let ⟨o,i,n,ho,r⟩:=x;⟨o,i,n,e _ _ ho,r⟩
variable {T:List κ->Addr->Prop}
def ElT (knd:KeyKind prog w κ)(T:List κ->Addr->Prop)(h0:Heap)(k:List κ)(e:Int × Value):Prop:=∃a,e.2=.ref a/\(IsTupleKey knd h0 k a/\T k a)/\e.1=tupleKeyHash knd k
theorem ElT.inj (x:ElT knd T h0 k e)(y:ElT knd T h0 k' e):k=k':=by obtain⟨a,f,d,_⟩:=x;obtain⟨b,c,g,_⟩:=y;rw[f] at c;cases c;exact d.1.inj g.1
theorem cls_val (n:Nat)(h:carriedByValue v=true):ofAClassStatement n v=pure false:=by
 cases v with
 |ref a=>simp[carriedByValue] at h
 |_=>first|rfl|simp[ofAClassStatement]|(unfold ofAClassStatement;rfl)
def aPl (i:IsTupleKey knd s.heap k a)(h:Q false s):wpAny (model prog w) A (ofAClassStatement 8 (.ref a)) Q E s:=by
 have g:=i.typeIs;obtain⟨o,d,n,f,_,hd,j⟩:=i;unfold ofAClassStatement;refine b7 (bEU g ?_);dsimp only;rw[if_pos (by rfl)];refine b7 (d7 ?_);simp only[Bool.not_true,bAU,if_false];refine b7 (bBE f hd (b7 ?_));rw[<-Array.forIn_toList];refine bFH _ (λb r e=>r.1=none/\e=s/\∀v∈b,carriedByValue v=true) _ ?_ ?_ _ _ ⟨rfl,rfl,j.byValue⟩
 ·rintro v b r e ⟨hr,rfl,hall⟩;rw[cls_val _ (hall v j0)];refine b7 (d7 ?_);simp only[bAU,if_false];exact d7 ⟨rfl,rfl,λu c=>hall u (j5 _ c)⟩
 ·rintro⟨l,m⟩ e ⟨hr,rfl,_⟩;simp only at hr;subst hr;exact d7 h
def aV0 (i:IsTupleKey knd s.heap k a)(h:Q false s)(m:∀v∈l,∃b k',v=.ref b/\IsTupleKey knd s.heap k' b):wpAny (model prog w) A (searchCouldBeSeen (.ref a) l) Q E s:=by
 unfold searchCouldBeSeen;refine b7 (bFH _ (λc r d=>r.1=none/\d=s/\∀v∈c,∃b k',v=.ref b/\IsTupleKey knd s.heap k' b) _ ?_ ?_ _ _ ⟨rfl,rfl,m⟩)
 ·rintro v c r d ⟨hr,rfl,hall⟩;have f:∀v∈c,∃b k',v=.ref b/\IsTupleKey knd d.heap k' b:=λu e=>hall u (j5 _ e);obtain⟨b,k',rfl,g⟩:=hall v j0;dsimp only
  split
  ·exact d7 ⟨rfl,rfl,f⟩
  ·refine b7 (wpAny_eqIsQuiet_tuple i ?_);refine b7 (wpAny_eqIsQuiet_tuple g ?_);refine b7 (aPl i ?_);exact b7 (aPl g (d7 ⟨rfl,rfl,f⟩))
 ·rintro⟨j,n⟩ d ⟨hr,rfl,_⟩;simp only at hr;subst hr;exact d7 h
theorem aYz (n:Nat)(h:carriedByValue v=true):∃b,hashByValue n v=pure b:=by
 cases v with
 |ref a=>simp[carriedByValue] at h
 |_=>first|exact⟨_,rfl⟩|exact⟨_,by unfold hashByValue;rfl⟩
def aYl (j:IsTupleKey knd s.heap k a)(h:∀b,Q b s):wpAny (model prog w) A (hashByValue 8 (.ref a)) Q E s:=by
 have i:=j.typeIs;obtain⟨o,d,n,m,_,hd,l⟩:=j;unfold hashByValue;refine b7 (wpAny_specialOf i F.slot_tuple_hash.lookup ?_);dsimp only;refine b7 (bBE m hd (b7 ?_));simp only[bBN];rw[<-Array.forIn_toList];refine bFH _ (λc r f=>f=s/\∀v∈c,carriedByValue v=true) _ ?_ ?_ _ _ ⟨rfl,l.byValue⟩
 ·rintro v c r f ⟨rfl,hall⟩;obtain⟨b,e⟩:=aYz 7 (hall v j0);rw[e];refine b7 (d7 ?_);cases b with
  |true=>exact d7 ⟨rfl,λu g=>hall u (j5 _ g)⟩
  |false=>exact d7 (d7 (h _))
 ·rintro⟨p,q⟩ f ⟨rfl,_⟩;cases p with
  |none=>exact d7 (h _)
  |some r=>exact d7 (h _)
def aEg {xs:Array Nat}(d:Ris xs){i j p:Nat}(a:xs[i]?=some p)(b:xs[j]?=some p):i=j:=by obtain⟨g,f⟩:=Array.getElem?_eq_some_iff.mp a;obtain⟨e,c⟩:=Array.getElem?_eq_some_iff.mp b;rw[<-below_at d g,<-below_at d e,f,c]
def aRv (ho:s.heap.get? D=some o)(M:o.data=.set es ep t)(h:TI (byT w) t es)(G:Ex h0 s.heap)(hu:A.units<cLine)(ka:IsTupleKey knd h0 k a)(pr:Paired (ElT knd T h0) kl es.toList)
  (a1:k∈kl->Q (.there none) s) (X:k∉kl->∀j,j∉t.place.toList->Rch t.mask t.place.toList (tupleKeyHash knd k) j->Q (.free j false) s) :
  wpAny (model prog w) A (setSearch D (.ref a) (tupleKeyHash knd k) true) Q E s:=by
 have Z:=h.fits;have ll:t.place.toList.length<=t.mask:=by rw[v4,h.len];have:=h.room;lia
 obtain⟨N,n1,H,_,W⟩:=first h.msk ll (tupleKeyHash knd k)
 have U:∀(f n:Nat) (K:Option Probe),n<=N->N - n<f->K.getD (t.probeStart (tupleKeyHash knd k))=sq t.mask (hd t.mask (x0 t.mask (tupleKeyHash knd k))) n->(∀(p i:Nat) (e:Int × Value),p<n->t.place[i]?=some (pj t.mask (tupleKeyHash knd k) p)->es[i]?=some e->¬ ElT knd T h0 k e) ->
   wpAny (model prog w) A (setSearchFrom D (.ref a) (tupleKeyHash knd k) true f K) Q E s:=by
  intro f
  induction f with
  |zero=>intro n K _ z;lia
  |succ f ih=>
   intro n K hn a0 V O;unfold setSearchFrom;refine b7 (bBH ho M Z ?_);dsimp only;rw[if_neg (by unfold SetTable.gaveWay;rcases h.msk with e|e|e <;> rw[e] <;> decide),V];generalize hp:t.probe _ (tupleKeyHash knd k) (sq t.mask (hd t.mask (x0 t.mask (tupleKeyHash knd k))) n)=pm;have B:SetTable.probe.go t (λi=>(es[i]?.map (·.1)).getD 0) (tupleKeyHash knd k) (10 * SetTable.turns t.mask) (sq t.mask (hd t.mask (x0 t.mask (tupleKeyHash knd k))) n)=pm:=hp;obtain⟨p,m1,m2,m3,I⟩:=aEx (g:=λi=>(es[i]?.map (·.1)).getD 0) h.dm h.ris H W (10 * SetTable.turns t.mask) n hn (by unfold SetTable.turns;lia);have J:∀(d i:Nat) (e:Int × Value),d<p->t.place[i]?=some (pj t.mask (tupleKeyHash knd k) d)->es[i]?=some e->¬ ElT knd T h0 k e:=λd i e F r l x=>by
    by_cases z:d<n
    ·exact O d i e z r l x
    ·refine m3 d i (by lia) F r ?_;rw[l];obtain⟨_,_,_,e'⟩:=x;exact e'
   rcases I with⟨rfl,I⟩|⟨m5,i,m6,m7,I⟩
   ·rw[I] at B;subst B;dsimp only;refine d7 (X (λz=>?_) _ H ⟨_,rfl,W⟩);obtain⟨e,F,r⟩:=zR pr k z;obtain⟨i,Y,rfl⟩:=bBA F;have C:i<es.size:=by simpa using Y
    have u:i<t.place.size:=by rw[h.len];exact C
    obtain⟨b,l,m,x,q5⟩:=aEz h.pr (i:=i) (a:=t.place[i]) (by simp[u]);rw[b8 Y] at l;cases l;obtain⟨_,_,_,q6⟩:=id r;rw[q6] at x q5;refine J m i _ (Nat.lt_of_not_le λz=>?_) (by rw[x,j7 u]) (by simp[C]) r;rcases bFU z with z|z
    ·exact H (q5 _ z)
    ·rw[z,x] at H;exact H (by simp[bEX])
   ·rw[I] at B;subst B;dsimp only;have u:=(Array.getElem?_eq_some_iff.mp m6).1;have C:i<es.size:=by rw[<-h.len];exact u
    have L:=j7 C;obtain⟨k',S,a',e1,kb,e2⟩:=lE pr es[i] (by simp[bEX]);have sl:t.slot (pj t.mask (tupleKeyHash knd k) p)=.live i:=by
     rcases aDb h.dm h.ris (pj t.mask (tupleKeyHash knd k) p) with⟨q,_⟩|⟨i',q,q'⟩
     ·exact absurd (W p m5) q
     ·rw[q',aEg h.ris q m6]
    have P:∀{R:Bool->Shared->Prop},R false s->wpAny (model prog w) A (searchCouldBeSeen (.ref a) ((es.filter (·.1 == tupleKeyHash knd k)).toList.map (·.2))) R E s:=λhR=>aV0 (aFv G ka) hR λv hv=>by obtain⟨e,F,rfl⟩:=List.mem_map.mp hv;rw[Array.toList_filter] at F;obtain⟨k2,_,a2,r,l,_⟩:=lE pr e (List.mem_filter.mp F).1;exact⟨a2,k2,r,aFv G l.1⟩
    generalize es[i]=ee at *;obtain⟨hh,y⟩:=ee;dsimp only at e1;subst e1;cases hl:t.led;all_goals
     first
      |(rw[if_pos (by rfl)];refine b7 (P ?_);rw[if_neg (by decide)])
      |rw[if_neg (by decide)]
     rw[L];dsimp only;refine b7 (bAR (wpAny_eqBool_tuple hu (aFv G kb.1) (aFv G ka) ?_));refine b7 (bBH ho M Z ?_);by_cases c:k'=k
     ·rw[m9 c,if_pos (by rfl)];exact d7 (a1 (c ▸ S))
     ·rw[v9 c,if_neg (by decide)];dsimp only;rw[show t.sameMemory t.moves t.mask=some true by unfold SetTable.sameMemory;rw[if_pos (by simp)]];dsimp only;rw[if_pos rfl,sl];dsimp only;rw[L];dsimp only;refine b7 (wpAny_isSame_ref_self ?_);refine b7 (d7 ?_);rw[if_pos rfl];dsimp only;rw[if_neg (by decide)];refine ih (p+1) (some _) m5 (by lia) rfl λd i' e F r l x=>?_;by_cases z:d<p
      ·exact J d i' e z r l x
      ·obtain rfl:d=p:=by lia
       rw[aEg h.ris r m6,L] at l;cases l;exact c ((ElT.inj ⟨a',rfl,kb,e2⟩ x))
 exact U _ 0 none (bAC _) (by rcases h.msk with e|e|e <;> rw[e] at n1 <;> lia) rfl λp i e z=>by lia
theorem aBy {α β:Type}{R:α->β->Prop}{a:α}{b:β}(r:R a b):∀{as:List α} {bs:List β},Paired R as bs->∀p,Paired R (as.take p++a::as.drop p) (bs.take p++b::bs.drop p)
 |_,_,.nil,p=>by rw[bEE,bEE,List.drop_nil,List.drop_nil];exact .cons r .nil
 |_,_,.cons q t,0=>.cons r (.cons q t)
 |_,_,.cons q t,p+1=>.cons q (aBy r t p)
def aI8 {α:Type}(l:List α)(x:α)(p:Nat):(l.take p++x::l.drop p).Perm (l++[x]):=
 List.perm_middle.trans (by rw[List.take_append_drop];exact (List.perm_append_singleton x l).symm)
def SetT (knd:KeyKind prog w κ)(T:List κ->Addr->Prop)(h0 h:Heap)(D:Addr)(kl:List (List κ)):Prop:=∃o es ep t,h.get? D=some o/\o.ExactSet/\o.data=.set es ep t/\TI (byT w) t es/\Paired (ElT knd T h0) kl es.toList
def aSi (ho:s.heap.get? D=some o)(hd:o.data=.set es ep t)(r:t.fits es.size=true)(d:Msk m)(q:SetTable.sizeAbove n=m+1)(u:5 * es.size<3 * m)(j:byT w=false->t.led=true)
  (h:∀es' t',es'.toList.Perm es.toList->TI (byT w) t' es'->Q () { s with heap:=s.heap.update D (Obj.putSet es' t') }):wpAny (model prog w) A (setRelay D n) Q E s:=by
 unfold setRelay;refine b7 (bBH ho hd r ?_);dsimp only;have i:es.size<=m:=by lia
 obtain⟨f,b,l,k,_,g,p⟩:=aWs d es i t.finger (t.movedTo m) t.led t.plain;have c:(b.filterMap (es[·]?)).size=es.size:=by rw[<-v4,g.length_eq,v4]
 rw[if_neg (by rw[q,sizeLine_eq];rcases d with e|e|e <;> lia)];refine b7 (bEQ (a:=(b.filterMap (es[·]?),⟨m,f,#[],t.finger,t.led,t.movedTo m,t.plain⟩)) ?_ (bF2 ho hd (h _ _ g ⟨j,rfl,d,k,p,by rw[c];exact u⟩) (by rw[c,sizeLine_eq];rcases d with e|e|e <;> lia)));rw[show t.relaid (es.map (·.1)) n=some (⟨m,f,#[],t.finger,t.led,t.movedTo m,t.plain⟩,b) by unfold SetTable.relaid;rw[q];exact l];exact if_neg (by simp[c])
def aUa {D a:Addr}{I:List (List κ)}{k:List κ}{h0:Heap}{Q:Bool->Shared->Prop}(hu:A.units<cLine)(F:Ex h0 s.heap)(O:IsTupleKey knd h0 k a)(hT:T k a)(hS:SetT knd T h0 s.heap D I)(hroom:I.length<76)
  (h:∀h' tk kl' b,Heap.SameBut D s.heap h'->SetT knd T h0 h' D kl'->kl'.Perm (if k∈I then I else I++[k])->Q b { s with heap:=h',toks:=tk }):wpAny (model prog w) A (setAdd D (.ref a)) Q E s:=by
 obtain⟨o,f,ep,t,G,y,hd,g,X⟩:=id hS;have hn:I.length=f.size:=by rw[Paired.length X,v4]
 unfold setAdd;refine bAR (b7 (wpAny_pyHash_tuple hu (aFv F O) ?_));generalize s.toks+_=tk;unfold setAddHashed setAddHashedIn;refine bAR (b7 (bBH G hd g.fits ?_));dsimp only;rw[if_neg (by unfold byScan;simp[Value.scannable])];refine b7 (aRv (s:={ s with toks:=tk }) G hd g F hu O X (λz=>?_) λz j hj hr=>?_)
 ·exact d7 (h s.heap tk I false (Heap.SameBut.refl D s.heap) hS (by rw[if_pos z]))
 ·dsimp only;have bl:=(mO g.ris j).1;have lp:(SetTable.insertAt t.place (SetTable.below t.place j) j).toList=_:=mD _ _ _ bl;have W:(SetTable.insertAt f (SetTable.below t.place j) (tupleKeyHash knd k,Value.ref a)).toList=_:=mD f _ _ (by rw[<-g.len];exact bl);have nj:t.place[SetTable.below t.place j]?≠some j:=λq=>hj (by simpa using bDR q);have v:∀x,x∈t.place.toList->x∈(SetTable.insertAt t.place (SetTable.below t.place j) j).toList:=λx hx=>by rw[lp,(aI8 _ _ _).mem_iff];exact bBQ _ hx
  have n:Paired (λi (e:Int × Value)=>Rch t.mask (SetTable.insertAt t.place (SetTable.below t.place j) j).toList e.1 i) (SetTable.insertAt t.place (SetTable.below t.place j) j).toList (SetTable.insertAt f (SetTable.below t.place j) (tupleKeyHash knd k,Value.ref a)).toList:=by
   rw[W];generalize (SetTable.insertAt t.place (SetTable.below t.place j) j).toList=L at lp v ⊢;refine (?_:∀L',L'=L->Paired (λi (e:Int × Value)=>Rch t.mask L e.1 i) L' _) L rfl;rintro L' rfl
   conv=>arg 2;rw[lp]
   exact aBy (R:=λi (e:Int × Value)=>Rch t.mask L' e.1 i) (hr.mono v) (g.pr.mono λ_ _ q=>q.mono v) _
  obtain⟨kl',r,Z⟩:=lJ (W ▸ aI8 f.toList _ _:(SetTable.insertAt f (SetTable.below t.place j) (tupleKeyHash knd k,Value.ref a)).toList.Perm _) (qL X (show ElT knd T h0 k (tupleKeyHash knd k,Value.ref a) from ⟨a,rfl,⟨O,hT⟩,rfl⟩));generalize M:SetTable.insertAt f (SetTable.below t.place j) (tupleKeyHash knd k,Value.ref a)=es1 at W n r;have sz:es1.size=f.size+1:=by rw[<-v4,<-Paired.length r,Z.length_eq,w6,hn];rfl
  have U:∀pt:SetTable × Nat,pt.1.mask=t.mask->pt.1.place=SetTable.insertAt t.place (SetTable.below t.place j) j->pt.1.dummies=#[]->pt.1.led=t.led->pt.2=SetTable.below t.place j->wpAny (model prog w) A (do
    let byValue <-if pt.1.plain then hashByValue 8 (Value.ref a) else pure true
    let t:=if byValue then pt.1 else { pt.1 with plain:=false }
    storeSet D (SetTable.insertAt f pt.2 (tupleKeyHash knd k,Value.ref a)) t
    if !false && t.tooFull then setRelay D (SetTable.grown (f.size+1))
    return true) Q E { s with toks:=tk }:=by
   intro ⟨H,p⟩ f1 f2 f3 f4 f5;dsimp only at f1 f2 f3 f4 f5 ⊢;subst f5;rw[M];have l:∀d:SetTable,d.mask=t.mask->d.place=H.place->d.dummies=#[]->d.led=t.led->wpAny (model prog w) A (do
     storeSet D es1 d
     if !false && d.tooFull then setRelay D (SetTable.grown (f.size+1))
     return true) Q E { s with toks:=tk }:=by
    intro d B J N g4;have tf:d.tooFull=decide (5 * es1.size ≥ 3 * t.mask):=by
     unfold SetTable.tooFull SetTable.fill;rw[B,J,N,f2,<-v4,n.length,v4]
     congr 1
     simp only[d9,bBS,Nat.add_zero];rw[Nat.mul_comm,Nat.mul_comm t.mask]
    have rm:=g.room;have ft:d.fits es1.size=true:=by unfold SetTable.fits SetTable.fill;rw[B,J,N,f2,<-v4,n.length,v4];simp;lia
    have ps:=putSet_of es1 d hd;have K:=bAO (Obj.putSet es1 d) G (by rw[ps];rfl);rw[ps] at K;have C:kl'.Perm (if k∈I then I else I++[k]):=by rw[if_neg z];exact Z
    refine b7 (bF2 G hd ?_ (by rw[sz,sizeLine_eq];lia));rw[tf];by_cases c:5 * es1.size ≥ 3 * t.mask
    ·rw[m9 c,if_pos (by rfl)];obtain⟨m,m1,m2,m3⟩:∃m,Msk m/\SetTable.sizeAbove (SetTable.grown (f.size+1))=m+1/\5 * es1.size<3 * m:=by
      rcases g.msk with e|e|e <;> rw[e] at c rm
      ·have:f.size=4:=by lia
       exact⟨31,.inr (.inl rfl),by rw[this];decide +kernel,by lia⟩
      ·have:f.size=18:=by lia
       exact⟨127,.inr (.inr rfl),by rw[this];decide +kernel,by lia⟩
      ·lia
     refine b7 (aSi (s:={ s with heap:=s.heap.update D (Obj.putSet es1 d),toks:=tk }) K rfl ft m1 m2 m3 (λq=>by rw[g4];exact g.led q) λu P q1 q2=>d7 ?_);obtain⟨S,V,Y⟩:=lJ q1 r;have hg2:=bAO (Obj.putSet u P) K rfl;exact h _ tk S true ((bAV s.heap D (Obj.putSet es1 d)).trans (bAV _ D (Obj.putSet u P))) ⟨_,u,_,P,hg2,y,rfl,q2,V⟩ (Y.trans C)
    ·rw[v9 c,if_neg (by decide)];exact d7 (h _ tk kl' true (bAV s.heap D (Obj.putSet es1 d)) ⟨_,es1,_,d,K,y,rfl,⟨λq=>by rw[g4];exact g.led q,N,by rw[B];exact g.msk,by rw[J,f2];exact uC g.ris nj,by rw[B,J,f2];exact n,by rw[B];lia⟩,r⟩ C)
   split
   ·refine b7 (aYl (s:={ s with toks:=tk }) (aFv F O) λb=>?_);cases b with
    |true=>exact l H f1 rfl f3 f4
    |false=>exact l { H with plain:=false } f1 rfl f3 f4
   ·exact b7 (d7 (l H f1 rfl f3 f4))
  refine b7 (bBH G hd g.fits ?_);exact U (t.put j) rfl rfl (by show (if SetTable.has t.dummies j=true then _ else t.dummies)=#[];rw[g.dm,show SetTable.has #[] j=false by unfold SetTable.has;simp];rfl) rfl rfl
end
end PySem
namespace L2
open PySem PySem.Spec PyProof.Rows
end L2
namespace PySem
open PySem.Spec
def gY:entryFor table "list.remove.loop"=some Builtin.«list.remove.loop»:=entryFor_of_tree (by kernel_rfl)
section
variable {prog:Program}{w:World}{A:Around}{R:Result->Shared->Prop}{s:Shared}{l:Addr}{items:Array Value}{n:Nat}{dd:Option Addr}{sl:Array (Option Value)}{x:Value}{j:Nat}
theorem aDy (c:s.heap.get? l=some { cls:=Value.type "list",dict:=dd,data:=Data.seq items n,slots:=sl })(h:j<items.size)
  (f:SeqAt.EqAt A.in1 s items[j] x true) (g:∀(m:Nat) (hm:m<items.size),m<j->SeqAt.EqAt A.in1 s items[m] x false) (e:items.size<=sizeLine)
  (q:R (.ok (.ret .none)) { s with heap:=s.heap.update l (Obj.mapSeq λxs=>xs.eraseIdxIfInBounds j) }) :
  ∀k i,i+k=j->codeAny (model prog w) A (.builtin "list.remove.loop" ⟨[.ref l,x,rawInt (i:Nat)],[]⟩) R s:=by
 intro k
 induction k with
 |zero=>
  intro i d;obtain rfl:i=j:=by lia
  refine bBR gY ?_;rw[bBI MeetsSeq.plain_remove_loop _];refine b7 (wpAny_listItems c rfl ?_);have b:items[Int.toNat (i:Nat)]?=some items[i]:=by rw[bAQ];exact j7 h
  simp only[b];refine b7 (f _ _ _ _ ?_);simp only[if_true];refine b7 (PyProof.Rows.listUpdate_at c rfl ?_ e ?_)
  ·rw[bAQ];exact d7 q
  ·unfold Array.eraseIdxIfInBounds
   split
   ·rw[Array.size_eraseIdx];lia
   ·lia
 |succ k ih=>
  intro i d;refine bBR gY ?_;rw[bBI MeetsSeq.plain_remove_loop _];have a:i<items.size:=by lia
  refine b7 (wpAny_listItems c rfl ?_);have b:items[Int.toNat (i:Nat)]?=some items[i]:=by rw[bAQ];exact j7 a
  simp only[b];refine b7 (g i a (by lia) _ _ _ _ ?_);refine d7 ⟨bCT MeetsSeq.plain_remove_loop _,?_⟩;exact ih (i+1) (by lia)
def aD7 (l:Addr)(items:Array Value)(n:Nat)(dd:Option Addr)(sl:Array (Option Value))(x:Value)(j:Nat)(f:j<items.size)(e:items.size<=sizeLine) :
  Meets (Builtin.«list.remove» ⟨[.ref l,x],[]⟩) λA R s=>s.heap.get? l=some { cls:=Value.type "list",dict:=dd,data:=Data.seq items n,slots:=sl } /\
   SeqAt.EqAt A.in1 s items[j] x true/\(∀m hm,m<j->SeqAt.EqAt A.in1 s items[m] x false) /\
   R (.ok (.ret .none)) { s with heap:=s.heap.update l (Obj.mapSeq λxs=>xs.eraseIdxIfInBounds j) }:=by
 intro a w A R s ⟨b,c,d,q⟩;refine d7 ⟨bCT MeetsSeq.plain_remove_loop _,?_⟩;exact aDy b f c d e q j 0 (by lia)
end
end PySem
namespace L2
open PySem PySem.Spec PyProof.Rows
theorem aB9:∀{xs:List V} {its:List Value},Vals xs its->∀j,Vals (xs.eraseIdx j) (its.eraseIdx j)
 |_,_,.nil,j=>by cases j <;> exact .nil
 |_,_,.cons r t,0=>t
 |_,_,.cons r t,j+1=>.cons r (aB9 t j)
def pG (r:List V):Prop:=∀x∈r,(∃i,x=.int i)\/∃z,x=.str z
def aPq (a:(∃i,x=.int i)\/∃z,x=.str z)(b:(∃i,y=.int i)\/∃z,y=.str z):eqV x y=decide (x=y):=by
 rcases a with⟨i,rfl⟩|⟨z,rfl⟩ <;> rcases b with⟨j,rfl⟩|⟨w,rfl⟩
 ·by_cases e:i=j
  ·subst e;rw[m9 rfl];exact beq_self_eq_true _
  ·rw[v9 λq=>e (V.int.inj q)];exact beq_eq_false_iff_ne.mpr e
 ·rw[v9 λq=>by cases q];rfl
 ·rw[v9 λq=>by cases q];rfl
 ·by_cases e:z=w
  ·subst e;rw[m9 rfl];exact beq_self_eq_true _
  ·rw[v9 λq=>e (V.str.inj q)];exact beq_eq_false_iff_ne.mpr e
def aYp:∀{r q:List V},pG r->pG q->((List.range (min r.length q.length)).all (λj=>eqV (r.getD j .non) (q.getD j .non)) && r.length == q.length)=decide (r=q):=by
 intro r q b f;by_cases e:r=q
 ·subst e;rw[m9 rfl,beq_self_eq_true,Bool.and_true,bBZ];intro j a;rw[List.mem_range,Nat.min_self] at a;rw[j4,b8 a,bBN,aPq (b _ (bAT a)) (b _ (bAT a)),m9 rfl]
 ·rw[v9 e];by_cases l:r.length=q.length
  ·cases h:(List.range (min r.length q.length)).all (λj=>eqV (r.getD j .non) (q.getD j .non)) with
   |false=>rfl
   |true=>refine absurd (List.ext_getElem l λj c d=>?_) e;have:=List.all_eq_true.mp h j (List.mem_range.mpr (by lia));rw[j4,b8 c,bBN,j4,b8 d,bBN,aPq (b _ (bAT c)) (f _ (bAT d))] at this;exact of_decide_eq_true this
  ·rw[show (r.length == q.length)=false from beq_eq_false_iff_ne.mpr l,bFV]
theorem aJ5:∀{r q:List V} {its:List Value},Vals r its->Vals q its->pG r->pG q->r=q
 |_,_,_,.nil,.nil,_,_=>rfl
 |x::r,y::q,_,.cons a t,.cons b u,hr,hq=>by
  have e:x=y:=by rcases hr x j0 with⟨i,rfl⟩|⟨z,rfl⟩ <;> rcases hq y j0 with⟨j,rfl⟩|⟨w,rfl⟩ <;> obtain⟨_,a⟩:=a <;> obtain⟨_,b⟩:=b <;> rw[a] at b <;> cases b <;> rfl
  rw[e,aJ5 t u (λz c=>hr z (j5 _ c)) λz c=>hq z (j5 _ c)]
section
variable {X:Cx}{bF8:bF6}{σ:L2.St}{H:Hp}{s:Shared}
def aCt (I:Inv X bF8 σ H s)(u:SqT X.K H a r)(v:SqT X.K H a q)(n:pG r)(m:pG q):r=q:=by
 obtain⟨c,l,g,_⟩:=I.tuple u;obtain⟨d,h,f,_⟩:=I.tuple v;have i:c=d:=by obtain⟨o,k,p,x,j⟩:=g;obtain⟨w,b,t,y,e⟩:=f;rw[k] at b;cases b;rw[j] at e;have:=Data.seq.inj e;simpa using congrArg Array.toList this.1
 subst i;exact aJ5 l h n m
def aEu (I:Inv X bF8 σ H s){A:Around}(hA:A.units+2<cLine){x y:V}{v u:Value}{r q:List V}(R:cL X.K H x r)(S:cL X.K H y q)(m:pG r)(o:pG q)(U:RelV x v)(T:RelV y u):SeqAt.EqAt A s v u (decide (r=q)):=by
 obtain⟨a,rfl,p⟩:=R;obtain⟨b,rfl,t⟩:=S;cases U;cases T;obtain⟨c,n,N,_⟩:=I.tuple p;obtain⟨d,k,w,_⟩:=I.tuple t;by_cases e:a=b
 ·subst e;rw[aCt I p t m o,m9 rfl];exact bEI _
 have J:=n.length;have P:=k.length;refine SeqAt.EqAt.of_refs e ?_;have z:=SeqAt.RcAt.tuples (A:=A) (e:=λj=>eqV (r.getD j .non) (q.getD j .non)) (show s.heap.IsTuple a c.toArray from N) (show s.heap.IsTuple b d.toArray from w) (by lia) λj B E=>by
  rw[d9] at B E;have l:r[j]?=some r[j]:=b8 (by lia);have h:q[j]?=some q[j]:=b8 (by lia);obtain⟨M,f,D⟩:=n.get l;obtain⟨C,g,L⟩:=k.get h;have G:c.toArray[j]=M:=by rw[bCA];exact (List.getElem?_eq_some_iff.mp f).2
  have Q:d.toArray[j]=C:=by rw[bCA];exact (List.getElem?_eq_some_iff.mp g).2
  rw[G,Q,j4,l,j4,h];have F:=m r[j] (bAT _);have O:=o q[j] (bAT _);refine aT7 D L ?_ ?_
  ·rcases F with⟨i,e⟩|⟨i,e⟩ <;> rw[show (Option.some r[j]).getD V.non=r[j] from rfl,e] <;> rfl
  ·rcases O with⟨i,e⟩|⟨i,e⟩ <;> rw[show (Option.some q[j]).getD V.non=q[j] from rfl,e] <;> rfl
 rw[d9,d9,<-J,<-P,aYp m o] at z;exact z
def aY6 (I:Inv X bF8 σ H s)(N:A.units+2<cLine)(J:Vals us its)(h:Al2 (cL X.K H) us rs)(L:∀r∈rs,pG r)(O:cL X.K H y q)(G:pG q)(Q:RelV y u):∃e:Value->Bool,(∀v∈its,SeqAt.EqAt A s v u (e v))/\its.any e=decide (q∈rs):=by
 have o:∀v∈its,∃i x r,us[i]?=some x/\rs[i]?=some r/\cL X.K H x r/\RelV x v:=λv d=>by
  obtain⟨i,l⟩:=List.mem_iff_getElem?.mp d;have j:i<us.length:=by rw[J.length];exact (List.getElem?_eq_some_iff.mp l).1
  obtain⟨r,t,C⟩:=h.at (b8 j);obtain⟨P,p,f⟩:=J.get (b8 j);rw[l] at p;cases p;exact⟨i,_,r,b8 j,t,C,f⟩
 refine⟨λv=>@decide (∃x,cL X.K H x q/\RelV x v) (Classical.propDecidable _),λv d=>?_,?_⟩
 ·obtain⟨i,x,r,_,w,k,m⟩:=o v d;have F:=L r (t8 w);have e:@decide (∃x,cL X.K H x q/\RelV x v) (Classical.propDecidable _)=decide (r=q):=by
   by_cases z:r=q
   ·subst z;rw[m9 rfl];exact @decide_eq_true _ (Classical.propDecidable _) ⟨x,k,m⟩
   ·rw[v9 z];refine @decide_eq_false _ (Classical.propDecidable _) λ⟨M,c,g⟩=>z ?_;obtain⟨a,rfl,D⟩:=k;obtain⟨b,rfl,E⟩:=c;have B:=m;have n:=g;rw[B] at n;cases n;exact aCt I D E F G
  show SeqAt.EqAt A s v u (@decide (∃x,cL X.K H x q/\RelV x v) (Classical.propDecidable _));rw[e];exact aEu I N k O F G m Q
 ·by_cases z:q∈rs
  ·rw[m9 z];obtain⟨i,l⟩:=List.mem_iff_getElem?.mp z;have j:i<us.length:=by rw[h.len];exact (List.getElem?_eq_some_iff.mp l).1
   obtain⟨r,t,C⟩:=h.at (b8 j);rw[l] at t;cases t;obtain⟨v,d,f⟩:=J.get (b8 j);exact List.any_eq_true.mpr ⟨v,t8 d,@decide_eq_true _ (Classical.propDecidable _) ⟨_,C,f⟩⟩
  ·rw[v9 z];refine List.any_eq_false.mpr λv d hd=>z ?_;obtain⟨M,c,g⟩:=@of_decide_eq_true _ (Classical.propDecidable _) hd;obtain⟨i,x,r,_,w,k,m⟩:=o v d;obtain⟨a,rfl,D⟩:=k;obtain⟨b,rfl,E⟩:=c;have B:=m;have n:=g;rw[B] at n;cases n;rw[<-aCt I D E (L r (t8 w)) G];exact t8 w
end
def aSq (K:bF4):R2:=λx y H Q=>∃l us rs q,y=.ref l/\SqL K H l us/\Al2 (cL K H) us rs/\(∀r∈rs,pG r)/\cL K H x q/\pG q/\Q (.bl (!decide (q∈rs))) H
def aLw (hu:X.A.units+64<cLine):OpR X (compareOp .NotIn) (aSq X.K):=by
 intro g s σ H x y v u Q I r w h;obtain⟨l,B,f,q,rfl,p,b,i,c,n,k⟩:=h;cases w;obtain⟨a,j,o,_⟩:=I.list p;obtain⟨e,d,t⟩:=aY6 I (A:=X.A.in1) (show X.A.units+1+2<cLine by lia) j b i c n r;refine SeqAt.notIn_listAt e o.isList (λy m=>d y (by simpa using m)) ?_;have z:a.toArray.any e=decide (q∈f):=by rw[<-t];simp
 rw[z];exact⟨.bl _,H,I,rfl,k⟩
def bEc (K:bF4):V->List V->Hp->VK->Prop:=λx vs H Q=>∃l us y rs q j,x=.ref l/\vs=[y]/\H l=some (.lst us)/\Al2 (cL K H) us rs/\(∀r∈rs,pG r)/\cL K H y q/\pG q/\rs[j]?=some q/\(∀m r,m<j->rs[m]?=some r->r≠q)/\Q .non (upd H l (.lst (us.eraseIdx j)))
def aXb {X:Cx}(hu:X.A.units+64<cLine):MtR X "list.remove" (bEc X.K):=by
 intro N s σ H x vs v L Q I U W h;obtain⟨l,D,y,E,q,j,rfl,rfl,G,C,O,P,R,B,Y,k⟩:=h;cases U;obtain⟨u,rfl,T⟩:=W.one;obtain⟨z,a,n,r,hl,e⟩:=I.aSb G;have Z:=C.len;have g:j<a.toArray.size:=by rw[d9];have:=(List.getElem?_eq_some_iff.mp B).1;lia
 have d:∀(m:Nat) (o:m<a.toArray.size) (b:List V),E[m]?=some b->SeqAt.EqAt X.A.in1 s a.toArray[m] u (decide (b=q)):=λm o b f=>by
  have i:m<D.length:=by rw[d9] at o;lia
  obtain⟨r',c,w⟩:=C.at (b8 i);rw[f] at c;cases c;obtain⟨S,p,J⟩:=r.get (b8 i);have M:a.toArray[m]=S:=by rw[bCA];exact (List.getElem?_eq_some_iff.mp p).2
  rw[M];exact aEu I (show X.A.units+1+2<cLine by lia) w P (O b (t8 f)) R J T
 refine call_meets F.slot_list_remove ⟨_,e,rfl⟩ F.entry_list_remove (F.args_list_remove_2 _ _) (aD7 l a.toArray n none #[] u j g (by rw[d9];lia)) ⟨e,?_,λm o t=>?_,?_⟩
 ·have:=d j g q B;rw[m9 rfl] at this;exact this
 ·obtain⟨b,f⟩:∃b,E[m]?=some b:=⟨_,b8 (by have:=(List.getElem?_eq_some_iff.mp B).1;lia)⟩;have:=d m o b f;rw[v9 (Y m b t f)] at this;exact this
 ·refine⟨.non,_,I.lset (its':=a.eraseIdx j) G e ?_ ?_ ?_,rfl,k⟩
  ·show a.toArray.eraseIdxIfInBounds j=(a.eraseIdx j).toArray;rw[bFC]
  ·exact aB9 r j
  ·have:=bER D j;lia
def aQw:MtR X "list.pop" aTs:=aVj
end L2
namespace PySem
section
variable {prog:Program}{w:World}{κ:Type}[DecidableEq κ]{knd:KeyKind prog w κ}{T:List κ->Addr->Prop}
def bB8 (hu:A.units+10<cLine)(h0:Heap)(D:Addr):Kset prog w (List κ) A h0 D (λh kl=>SetT knd T h0 h D kl) (λk v=>∃a,v=.ref a/\IsTupleKey knd h0 k a/\T k a) 75:=
 ⟨λ⟨o,g,p,t,u,r⟩ e=>⟨o,g,p,t,e o u,r⟩,λC m ⟨a,e,n,j⟩ l E q=>by subst e;exact aUa (by lia) m n j l (by lia) λz s d b i x f=>q z s d b i x (by split <;> rename_i c <;> simp only[c,if_true,if_false] at f <;> exact f),
 λy=>⟨_,#[],0,_,y,⟨rfl,rfl,rfl⟩,rfl,⟨λe=>by show (!byT w)=true;rw[e];rfl,rfl,.inl rfl,λa b B=>absurd B (by show ¬ (a<0);lia),.nil,by show 5 * 0<3 * 7;decide⟩,.nil⟩⟩
end
end PySem
namespace L2
open PySem PySem.Spec PyProof.Rows PySem.Calls
def aTw (w:World)(D:Addr)(as:List Addr):HO:=.ext λh=>∃o es ep t,h.get? D=some o/\o.ExactSet/\o.data=.set es ep t/\t.fits es.size=true/\TabOk (byT w) t/\es.toList.map (·.2)=as.map Value.ref
section
variable {X:Cx}{bF8:bF6}{σ:L2.St}{H:Hp}{s:Shared}
theorem aSj (h:pG r):∃k:List Key,r=k.map kV:=by
 induction r with
 |nil=>exact⟨[],rfl⟩
 |cons x r ih=>
  obtain⟨k,rfl⟩:=ih λy a=>h y (j5 _ a);rcases h x j0 with⟨i,rfl⟩|⟨z,rfl⟩
  ·exact⟨.inl i::k,rfl⟩
  ·exact⟨.inr z::k,rfl⟩
theorem bAx {a b:List Key}(h:a.map kV=b.map kV):a=b:=by
 induction a generalizing b with
 |nil=>cases b with
  |nil=>rfl
  |cons=>cases h
 |cons x a ih=>cases b with
  |nil=>cases h
  |cons y b=>injection h with h1 h2;rw[bAu h1,ih h2]
theorem aX4 (I:Inv X bF8 σ H s)(h:SqT X.K H a (k.map kV)):IsTupleKey (bI X.prog X.w) s.heap k a:=by
 obtain⟨b,d,⟨o,e,c,n,hd⟩,z⟩:=I.tuple h;clear z;refine⟨o,_,n,e,c,hd,?_⟩;clear h e c hd
 induction k generalizing b with
 |nil=>cases d;exact .nil
 |cons x k ih=>
  cases d with
  |cons p q=>exact .cons (aO9 p).1 (ih _ q)
def bDs (w:World)(K:bF4):List V->Hp->VK->Prop:=λxs H Q=>∃p us rs,xs=[.ref p]/\SqL K H p us/\Al2 (cL K H) us rs/\(∀r∈rs,pG r)/\us.length<=75/\∀D H' as qs,H D=none->Same H H'->H' D=some (aTw w D as)->Al2 (cL K H) (as.map .ref) qs->Ded qs rs->Q (.ref D) H'
def aFt (hc:X.calm=true)(hU:X.A.units+64<cLine):cH X (.type "set") (bDs X.w X.K):=by
 intro a1 s σ H xs a0 Q I r h;obtain⟨p,us,F,rfl,hq,M,P,hl,q⟩:=h;obtain⟨u,rfl,rx⟩:=r.one;cases rx;obtain⟨O,S,pl,hz⟩:=I.list hq;have n:=S.length;have j:=M.len;obtain⟨ks,rfl⟩:∃ks:List (List Key),F=ks.map (·.map kV):=by
  clear M j q
  induction F with
  |nil=>exact⟨[],rfl⟩
  |cons r F ih=>obtain⟨ks,rfl⟩:=ih λy hy=>P y (j5 _ hy);obtain⟨k,rfl⟩:=aSj (P r j0);exact⟨k::ks,rfl⟩
 rw[j6] at j;refine xJ (ks:=ks) (I.ok.hd hc) (bB8 (knd:=bI X.prog X.w) (T:=λk a=>cL X.K H (.ref a) (k.map kV)) (by lia) s.heap s.heap.objs.size) pl.isList (by rw[d9];lia) (λi v hv=>?_) (by rw[d9,<-n];exact hl) λh' tk kl x m kp=>?_
 ·have B:O[i]?=some v:=by simpa using hv
  have W:i<ks.length:=by have:=(List.getElem?_eq_some_iff.mp B).1;lia
  have C:i<us.length:=by lia
  obtain⟨u,Z,R⟩:=S.get (b8 C);rw[B] at Z;cases Z;have c:=M.get (b8 C) (show (ks.map (·.map kV))[i]?=some (ks[i].map kV) by rw[v7,b8 W];rfl);obtain⟨a,N,ha⟩:=id c;rw[N] at R c;cases R;exact⟨ks[i],b8 W,a,rfl,aX4 I ha,c⟩
 ·obtain⟨o,D,G,t,U,E,hd,J,pr⟩:=x;obtain⟨d,N,L⟩:∃d:List Addr,D.toList.map (·.2)=d.map Value.ref/\Al2 (cL X.K H) (d.map .ref) (kl.map (·.map kV)):=by
   clear m q J hd;generalize D.toList=l at pr
   induction pr with
   |nil=>exact⟨[],rfl,.nil⟩
   |cons r _ ih=>obtain⟨d,f,g⟩:=ih;obtain⟨a,e1,⟨_,ht⟩,_⟩:=r;exact⟨a::d,by rw[bAL,bAL,e1,f],.cons ht g⟩
  have Y:H s.heap.objs.size=none:=I.hok.fresh (d8 _);refine⟨.ref s.heap.objs.size,_,I.laid (t':=tk) (o:=aTw X.w s.heap.objs.size d) (λb o V=>kp b o (j9 V) V) (d8 _) ⟨⟨o,D,G,t,U,E,hd,J.fits,J.tab,N⟩,⟨o,U⟩,λf g ⟨o,D,G,t,y,z⟩ k=>⟨o,D,G,t,k o y,z⟩⟩,rfl,q _ _ d _ Y (aW Y _) aF L ⟨?_,λk=>?_,?_⟩⟩
  ·exact List.pairwise_map.mpr (m.1.imp λh e=>h (bAx e))
  ·rw[List.mem_map,List.mem_map];exact⟨λ⟨x,f,g⟩=>⟨x,(m.2.1 x).mp f,g⟩,λ⟨x,f,g⟩=>⟨x,(m.2.1 x).mpr f,g⟩⟩
  ·rw[j6,j6];exact m.2.2
def aQg (w:World)(K:bF4):List V->Hp->VK->Prop:=λxs H Q=>∃D as rs ks,xs=[.ref D]/\H D=some (aTw w D as)/\Al2 (cL K H) (as.map .ref) rs/\as.length<64/\ks≠[]/\(∀r∈rs,KdR ks r) /\
 ∀B H' us',H B=none->Same H H'->H' B=some (.lst us')->Al2 (cL K H) us' (srt rs)->Q (.ref B) H'
theorem aVo {α β:Type}{R:α->β->Prop}{as' as:List α}(p:as'.Perm as):∀{bs:List β},Al2 R as bs->∃bs',Al2 R as' bs'/\bs'.Perm bs:=by
 induction p with
 |nil=>intro bs h;exact⟨bs,h,.refl _⟩
 |cons x _ ih=>
  intro bs h;cases h with
  |cons r t=>obtain⟨bs',a,b⟩:=ih t;exact⟨_,.cons r a,b.cons _⟩
 |swap x y l=>
  intro bs h;cases h with
  |cons r t=>
   cases t with
   |cons r2 t2=>exact⟨_,.cons r2 (.cons r t2),.swap ..⟩
 |trans _ _ ih1 ih2=>intro bs h;obtain⟨f,a,b⟩:=ih2 h;obtain⟨e,d,c⟩:=ih1 a;exact⟨e,d,c.trans b⟩
theorem tK (hc:X.calm=true):cH X (.builtin "sorted") (aQg X.w X.K):=by
 intro J s σ H xs a0 Q I r h;obtain⟨D,O,a2,ks,rfl,hD,R,a1,N,M,q⟩:=h;obtain⟨u,rfl,rx⟩:=r.one;cases rx;obtain⟨o,es,ep,t,ho,G,hd,hf,S,ea⟩:=(I.hok D _ hD).1;have hl:es.size=O.length:=by have:=congrArg List.length ea;simpa using this
 refine call_function_entry kind_sorted plain_sorted entry_sorted (args_sorted1 _) ?_;unfold Builtin.«sorted»;refine b7 (m:=checkCount "sorted" 1 1 _) (d7 (b7 (wZ (A:=X.A.in1) (I.ok.hd hc) ⟨o,ho,G,hd,hf⟩ S (by lia) λx E T d hk hp=>?_)));obtain⟨c,Z,L⟩:∃c:List Addr,d.map (·.2)=c.map Value.ref/\c.Perm O:=by
  have F:(d.map (·.2)).Perm (O.map Value.ref):=ea ▸ hp.map _;have k:∀v∈d.map (·.2),∃a,v=Value.ref a:=λv U=>by obtain⟨a,_,e⟩:=List.mem_map.mp (F.mem_iff.mp U);exact⟨a,e.symm⟩
  generalize d.map (·.2)=l at F k;have un:∃c:List Addr,l=c.map Value.ref:=by
   clear F
   induction l with
   |nil=>exact⟨[],rfl⟩
   |cons v l ih=>obtain⟨c,rfl⟩:=ih λv U=>k v (j5 _ U);obtain⟨a,rfl⟩:=k v j0;exact⟨a::c,rfl⟩
  obtain⟨c,rfl⟩:=un;refine⟨c,rfl,?_⟩;have:=F.filterMap λv=>match v with|Value.ref a=>some a|_=>none
  simpa [bEK,Function.comp_def] using this
 rw[Z];obtain⟨g,y,Y⟩:=aVo (L.map V.ref) R;have n:∀r∈g,KdR ks r:=λr y=>M r (Y.mem_iff.mp y);have ul:=L.length_eq;have rv:Vals (c.map .ref) (c.map Value.ref):=by
  clear y g Y n L ul Z
  induction c with
  |nil=>exact .nil
  |cons a c ih=>exact .cons rfl ih
 have rl:g.length=c.length:=by have:=y.len;rw[j6] at this;exact this.symm
 have P:Inv X J σ H { s with heap:=x,toks:=E,drawn:=T }:=(I.kept (t':=E) hk).drew T;have e3:=pN n Y;refine b7 (wpAny_newList ?_ (by rw[sizeLine_eq,j6];lia));have p:(x.push (seqObj "list" (c.map Value.ref).toArray 0)).get? x.objs.size=some (seqObj "list" (c.map Value.ref).toArray 0):=j8 _ rfl;refine b7 (bAR (bAD slot_list_sort ⟨_,p,rfl⟩ entry_list_sort (PySem.W.pA (f:=λi j=>rlt (g.getD i []) (g.getD j [])) (s:={ s with heap:=x.push (seqObj "list" (c.map Value.ref).toArray 0),toks:=E,drawn:=T }) p (by rw[j6];lia) (λh2 h' kp=>aIj P rv y N n _ h2 h' λb o e=>kp b o (v8 (j9 e)) (c7 _ e)) ⟨_,rfl,d7 ⟨_,rfl,?_⟩⟩) (args_list_sort _)));obtain⟨e,he⟩:=sortedHeap_at (out:=List.toArray ((PySem.W.dM (c.map Value.ref).length λi j=>rlt (g.getD i []) (g.getD j [])).map λi=>(c.map Value.ref).getD i Value.none)) p;have z:H x.objs.size=none:=P.hok.fresh (d8 _);have B:∀i∈PySem.W.dM g.length (λi j=>rlt (g.getD i []) (g.getD j [])),i<(c.map V.ref).length:=λi hi=>by have:=PySem.W.mR hi;rw[j6];lia
 refine⟨.ref x.objs.size,_,P.laid (t':=E) (o:=.lst ((PySem.W.dM g.length λi j=>rlt (g.getD i []) (g.getD j [])).map λi=>(c.map V.ref).getD i .non)) (λb o q=>?_) (d8 _) ?_,rfl,q _ _ _ z (aW z _) aF (e3 ▸ aEk y _ B)⟩
 ·have C:=j9 q;show (sortedHeap _ _ _ _).get? b=some o;rw[sortedHeap_old (v8 C) (by rw[size_push'];exact bBU C)];exact c7 _ q
 ·refine⟨small (by rw[j6,PySem.W.rC];lia),_,e,?_,he⟩;rw[j6,<-rl];exact aFl rv _ B
end
end L2
namespace My
open PySem PySem.Spec PyProof.Rows L2
section
variable {P:Program}{w:World}{K:bF4}{mg:bF7}{base:Heap}
def fJ.tk (e:TK K H H')(h:fJ K H v c):fJ K H' v c:=by obtain⟨p,rfl,a⟩:=h;exact⟨p,rfl,e _ _ a⟩
theorem oK.tk (e:TK K H H')(h:oK K H v pl):oK K H' v pl:=by
 cases pl with
 |copies=>obtain⟨a,rfl,b⟩:=h;exact⟨a,rfl,e _ _ b⟩
 |keys n=>obtain⟨a,rfl,b⟩:=h;exact⟨a,rfl,e _ _ b⟩
 |spans n h0 cs=>obtain⟨a,c,rfl,b,d⟩:=h;exact⟨a,c,rfl,e _ _ b,aPp e (λ_ _ z=>z.tk e) d⟩
structure KP (K:bF4)(S:Addr->Prop)(H H':Hp):Prop where
 st:∀b o,S b->H b=some o->H' b=some o
 tk:TK K H H'
section
variable {S:Addr->Prop}{H H':Hp}
def KP.same (s:Same H H'):KP K S H H':=⟨λb o _ h=>s b o h,.of s⟩
def KP.trans (k:KP K S H H')(l:KP K S H' H2):KP K S H H2:=⟨λb o h e=>l.st b o h (k.st b o h e),λp a e=>l.tk p a (k.tk p a e)⟩
theorem KP.jA (c:H D=some (.lst ys))(n:¬ S D):KP K S H (L2.upd H D (.lst zs)):=⟨λb o h e=>by have a:b≠D:=λz=>n (z ▸ h);rw[aK a];exact e,λp d e=>SqT.jA c e⟩
def KP.bEa (c:eU H D)(n:¬ S D):KP K S H (L2.upd H D u):=⟨λb o h e=>by have a:b≠D:=λz=>n (z ▸ h);rw[aK a];exact e,λp d e=>But.aR But.upd c e⟩
def KP.fx (f:Fx a H H')(h:iG H a)(n:¬ S a):KP K S H H':=⟨λb o c e=>f.same b o (λz=>n (z ▸ c)) e,f.tk h⟩
def KP.mono (k:KP K S H H')(h:∀b,S' b->S b):KP K S' H H':=⟨λb o s e=>k.st b o (h b s) e,k.tk⟩
def bU.kp (k:KP K S H H')(s:S L)(h:bU K H L rs):bU K H' L rs:=by obtain⟨b,a,d⟩:=h;exact⟨b,k.st _ _ s a,d.imp λ_ _ ⟨p,e,c⟩=>⟨p,e,k.tk _ _ c⟩⟩
end
theorem lB.kp (k:KP K S H H')(s:S L)(h:lB K H v vh vp L t):lB K H' v vh vp L t:=by obtain⟨a,c,d,f,b,e⟩:=h;exact⟨a,c,k.tk _ _ d,f.tk k.tk,b.tk k.tk,e.kp k s⟩
theorem lA.kp (k:KP K S H H')(b:S d)(c:∀e∈es,S e.L)(h:lA K H d es):lA K H' d es:=⟨k.st _ _ b h.at_,h.nd,h.few,h.nm,λe a=>(h.tb e a).kp k (c e a)⟩
def jT (h:n<1000):n<sizeLine:=z9 h (by decide)
def uX {hd:Hdr}{r:List V}(h:gC hd r):pG r:=λx a=>aVm (fM h) x a
def aO1 {α:Type}{xs:List α}{x:α}(h:xs[xs.length - 1]?=some x):atI xs (-1)=some x:=by have a:=(List.getElem?_eq_some_iff.mp h).1;unfold atI ixN;rw[if_neg (by decide),if_pos (by lia)];rw[show ((-1:Int)+(xs.length:Int)).toNat=xs.length - 1 by lia];exact h
theorem yH {α β:Type}{R:α->β->Prop}{as:List α}{bs:List β}(h:cG R as bs):∀n,cG R (as.take n) (bs.take n):=by
 induction h with
 |nil=>intro n;rw[bEE,bEE];exact .nil
 |cons r _ ih=>
  intro n;cases n with
  |zero=>exact .nil
  |succ n=>exact .cons r (ih n)
theorem bC.kp (k:KP K S H H')(b:S x)(a:S d)(c:∀e∈es,S e.L)(h:bC K H C x m d dm es):bC K H' C x m d dm es:=
 ⟨let ⟨dx,h1⟩:=h.at_;⟨dx,k.st _ _ b h1⟩,h.ens.kp k a c,h.ok,h.ne⟩
def bC.mv (h:bC K H C x m d dm es)(g:H dm=some (.dK kvs)):KP K (λb=>b≠dm) H (L2.upd H dm (.dK kvs'))/\bC K (L2.upd H dm (.dK kvs')) C x m d dm es:=by
 have k:KP K (λb=>b≠dm) H (L2.upd H dm (.dK kvs')):=.bEa (eU.dK g) λz=>z rfl;refine⟨k,h.kp k (λz=>?_) h.ne λe f z=>?_⟩
 ·obtain⟨j,a⟩:=h.at_;rw[z,g] at a;cases a
 ·obtain⟨_,_,_,_,_,i,c,_⟩:=h.ens.tb e f;rw[z,g] at c;cases c
def jX (num:Nat)(h0:Int)(cs:List (V × Int)):Int:=(((V.non,h0)::cs).map (·.2)).getD num 0
inductive aO7 (K:bF4)(C:Addr)(vs:List V)(H:Hp)(Q:VK)(E_:XK):Prop
 |mk (x d dm:Addr) (m:Int) (es:List En) (e:En) (n:Str) (h0:Int) (cs:List (V × Int)) (num:Nat) (house:Int) (_:vs=[.ref x,.str e.n,.int num,.int house]) (_:bC K H C x m d dm es) (_:e∈es) (_:e.t.pl=.spans n h0 cs) (_:H dm=some (.dK [])) (_:num<=cs.length) (_:0<=house) (_:house<m) (_:house≠jX num h0 cs) (_:∀H',KP K (λb=>b≠dm) H H'->bC K H' C x m d dm es->MvD K H' dm e.n (some ⟨num,house,none⟩)->Q .non H')
def aU9 (T:Txt w K mg){C:Addr}(c:Cls K C)(D:eG K C "lend" "Store.lend" oA ["self","name","number","house"])(n2:bL K C "house_count")(n3:bL K C "moves")(cQ:Ok P w K mg base 2 "is_number_below" ["thing","many"] uU)(i:OkM P w K mg base C 4 "cut_table" n6 (aAx K C))(g:OkM P w K mg base C 1 "need_still" n6 (aJ6 K C)):OkM P w K mg base C 5 "lend" ["self","name","number","house"] (aO7 K C):=by
 refine OkM.ofV c D tO (by trivial) (λf a0 A N s H vs Q E hr h=>?_)
 obtain⟨x,d,M,m,Y,e,n,Z,U,num,l,rfl,t,S,r,O,hn,b0,b1,L,q⟩:=h;have hu:=pB hr;have nd:=tO.nd;refine⟨_,(aB (aY 4 (aO aP (aO aP (iB i (vv 0) (va1 (vv 1))) aA) aA)) (aB (bM (cF (bW (aV cQ (aH (vv 2) (va1 (aL aZ (by rfl) T.eV cW (va1 (vv 4)))))))) (aD dY) aU) (aB (bM (VW.pt (fK (cF (bW (aV cQ (aH (vv 3) (va1 (cT (K:=K) (vv 0))))))) (dZ (cZ dN (vv 3) (aO aP (aO aP (vv 4) (vv 2)) aA))))) (aD dY) aU) (aB (dJ (iB g (vv 0) (va1 (vv 1)))) (aD (vV hu (cT (K:=K) (vv 0)) (vv 1) (cN (aH (vv 2) (aH (vv 3) (va1 fU)))))))))),?_⟩;obtain⟨G,F⟩:=t.at_;refine⟨_,rfl,x,G,_,rfl,F,rfl,_,rfl,x,d,M,m,Y,e,n,Z,U,rfl,t,S,r,λH1 p=>?_⟩;obtain⟨a,ev,ha,h1,W,h3⟩:=(t.ens.tb e S).same p;rw[r] at W;obtain⟨b,vc,eb,hb,⟨ca,o,rfl,B,v⟩⟩:=W;have lu:=v.len;rw[m8] at lu;refine⟨a,_,1,_,ev,rfl,ha,at1 _ _ _,b,_,2,_,eb,rfl,hb,at2 _ _ _ _,?_⟩;refine⟨_,rfl,_,rfl,ca,o,rfl,.inr B,(num:Int),(o.length:Int),rfl,_,rfl,?_⟩;rw[m9 (show (0:Int)<=num by lia),m9 (show (num:Int)<o.length by lia)];refine bY ?_;have y:num<o.length:=by lia
 obtain⟨c0,J,pc,I,R⟩:=cA v (b8 y);have ch:jX num Z U=c0.2:=by unfold jX;rw[j4,v7,J];rfl
 refine⟨_,rfl,_,rfl,x,C,G,_,_,rfl,p _ _ F,c,n2,rfl,l,m,rfl,_,rfl,?_⟩;rw[m9 b0,m9 b1];refine bY ?_;refine⟨_,rfl,_,rfl,_,rfl,ca,o,_,o[num],rfl,rfl,B,bH (b8 y),pc,_,1,_,I,rfl,R,at1 _ _ _,rfl,_,rfl,dH (v9 λz=>L (ch ▸ V.int.inj z)) ?_⟩;refine⟨_,rfl,x,G,_,rfl,p _ _ F,rfl,_,rfl,x,d,M,m,Y,e.n,rfl,t.same p,p _ _ O,?_⟩;refine⟨_,rfl,_,rfl,by show 3<=sizeLine;decide,λu H2 _ s2 g2=>?_⟩;have j:=p.trans s2;obtain⟨X,k2⟩:=(t.same j).mv (kvs':=[(Sum.inr e.n,.ref u)]) (j _ _ O);refine⟨_,rfl,x,C,G,_,_,rfl,j _ _ F,c,n3,rfl,_,rfl,M,_,rfl,aHm.k (k:=Sum.inr e.n) (j _ _ O) (jT (by decide)),?_⟩;rw[show putK [] (Sum.inr e.n:Key) (V.ref u)=[(Sum.inr e.n,.ref u)] from rfl];exact q _ ((KP.same j).trans X) k2 ⟨.ref u,⟨u,.non,rfl,X.tk _ _ (SqT.of g2),rfl⟩,aF⟩
theorem aJv {α:Type}{p q:α->Bool}:∀l:List α,(∀x∈l,p x=true->q x=false)->(l.filter p).length+(l.filter q).length<=l.length
 |[],_=>d8 _
 |a::l,h=>by
  have e:=aJv l λx c=>h x (j5 _ c);have d:=h a j0;rw[bDG,bDG,m8];cases b:p a with
  |true=>rw[d b];simp;lia
  |false=>cases q a <;> simp <;> lia
theorem aFr {hd:Hdr}{m house h0:Int}{n:Str}{h:List (V × Int)}{f:Mv}(g:List V->Bool)(b:List (List V))(i:f.house=house)(j:f.house≠jX f.num h0 h):(b.filter λr=>bZ hd m r house (.spans n h0 h)).length+(b.filter λr=>g r && fX hd n h f.num r).length<=b.length:=aJv b λr _ c=>by
 cases d:fX hd n h f.num r with
 |false=>exact bFV _
 |true=>have e:iD (r.getD (plc hd n) .non) h 1 0=f.num:=of_decide_eq_true d;have a:=of_decide_eq_true (show decide _=true from c);rw[e] at a;exact absurd (i.trans a.symm) j
def nO (o:Option (List V))(r:List V):Bool:=!xP o r
def oM (hd:Hdr)(m house:Int)(pl:Plc)(o:Option Mv)(n:Str)(cs:List (V × Int))(rows:List (List V)):List (List V):=
 match o with
 |none=>rows.filter λr=>bZ hd m r house pl
 |some q=>if q.house=house then srt ((rows.filter λr=>bZ hd m r house pl)++rows.filter λr=>nO q.mark r && fX hd n cs q.num r) else rows.filter λr=>bZ hd m r house pl
inductive aC6 (K:bF4)(C:Addr)(vs:List V)(H:Hp)(Q:VK)(E_:XK):Prop
 |mk (x d dm:Addr) (m house:Int) (es:List En) (e:En) (o:Option Mv) (n:Str) (h0:Int) (cs:List (V × Int)) (_:vs=[.ref x,.str e.n,.int house]) (_:bC K H C x m d dm es) (_:e∈es) (_:MvD K H dm e.n o) (_:e.t.pl=.spans n h0 cs) (_:(∀mq,o=some mq->mq.house≠jX mq.num h0 cs)) (_:(∀mq q,o=some mq->mq.mark=some q->gC e.t.hd q)) (_:0<=house) (_:house<m) (_:∀L H',H L=none->Same H H'->bU K H' L (oM e.t.hd m house e.t.pl o n cs e.t.rows)->Q (.ref L) H')
theorem aLp (T:Txt w K mg)(c:Cls K C)(D:eG K C "stands" "Store.stands" gQ ["self","name","house"])(n1:bL K C "placed")(n2:bL K C "house_count")(cB:Ok P w K mg base 3 "table_in" o5 (nU K))(yP:Ok P w K mg base 4 "rows_at" bQH (yW K))(g:OkM P w K mg base C 4 "moving" n6 (yO K C))(qQ:Ok P w K mg base 3 "span_rows" ["table","number"] (aB6 K))(tW:Ok P w K mg base 1 "is_above" ["row","mark"] (aA3 K)):OkM P w K mg base C 5 "stands" bQC (aC6 K C):=by
 refine OkM.ofV c D pF (by trivial) (λf ab A a4 s H vs Q E hr h=>?_)
 obtain⟨x,d,dm,m,b,es,e,o,n,h0,U,rfl,F,S,a3,I,a5,a2,b0,b1,q⟩:=h;have nd:=pF.nd;refine⟨_,(aB (aY 3 (aV cB (aH (cT (K:=K) (vv 0)) (va1 (vv 1))))) (aB (aY 4 (aV yP (aH (vv 3) (aH (vv 2) (va1 (cT (K:=K) (vv 0))))))) (aB (aY 5 (iB g (vv 0) (va1 (vv 1)))) (aB (bM (VW.pt (fK (cZ aF6 (vv 5) fU) (dZ (cZ wU (aO aP (vv 5) aA) (vv 2))))) (aD (aJ (vv 4))) aU) (aD (aJ (aL dU (by rfl) T.dX dB (va1 (bF pI (vv 4) (cI (N:=["row","move"]) (by trivial) (eE (aC gQ) rfl (by decide +kernel)) rfl (eO (aV qQ (aH (vv 3) (va1 (aO aP (vv 5) aA))))) (λcl s' H' fp=>⟨(bJ (i:=0) (show (["row","move"]:List Str).Nodup from by decide +kernel) rfl (Or.inl rfl)),(lM (cF (bW (aV tW (aH (vv 0) (va1 (aO (bK (K:=K)) (vv 1) aA))))))),(vv 0)⟩))))))))))),?_⟩;obtain⟨dx,hx⟩:=F.at_;have p:=F.ok e S;refine⟨_,rfl,x,C,dx,_,_,rfl,hx,c,n1,rfl,_,rfl,d,es,e,rfl,F.ens,S,λH1 J=>?_⟩;refine⟨_,rfl,_,rfl,_,rfl,x,C,dx,_,_,rfl,J _ _ hx,c,n2,rfl,e.v,e.vh,e.vp,e.L,e.t,b,m,rfl,(F.ens.tb e S).same J,p,b0,b1,λL H2 hN s2 hR=>?_⟩;have k:=J.trans s2;refine⟨_,rfl,x,dx,_,rfl,k _ _ hx,rfl,_,rfl,x,d,dm,m,es,e,o,rfl,F.same k,S,a3.same k,λv H3 s3 hv=>?_⟩;have j:=k.trans s3;have y:=hR.same s3;cases o with
 |none=>cases hv;exact⟨_,rfl,rfl,_,rfl,iY (m9 rfl) ⟨_,rfl,q L H3 (none_of J hN) j y⟩⟩
 |some mq=>
  obtain⟨a,vm,rfl,ha,hm⟩:=hv;refine⟨_,rfl,rfl,_,rfl,dH (v9 λz=>by cases z) ?_⟩;refine⟨_,rfl,a,_,1,_,rfl,rfl,ha,at1 _ _ _,_,rfl,rfl,_,rfl,?_⟩;by_cases O:mq.house=b
  ·refine dH (by rw[m9 (congrArg V.int O)];rfl) ?_;refine⟨_,rfl,?_⟩;refine iW [none,some (.ref a)] (jM 5 (by decide +kernel) rfl rfl (by trivial)) ?_;refine⟨_,rfl,_,rfl,a,_,0,_,rfl,rfl,ha,at0 _ _,e.v,e.vh,e.vp,e.L,e.t,m,mq.num,n,h0,U,rfl,(F.ens.tb e S).same j,p,I,λD1 H4 a7 Y M=>?_⟩;obtain⟨ws,gD,a8⟩:=id M;have G:=j.trans Y;refine⟨D1,rfl,⟨_,SqL.of gD⟩,rE M (bAE (bAY _ _) (by have:=p.few;lia)) (nO mq.mark) rfl (λu r B H' R l sm a1 rr=>?_) λD' H5 aa s5 W=>?_⟩
   ·refine⟨_,rfl,_,rfl,a,_,2,_,rfl,rfl,(Y.trans sm).aR ha,at2 _ _ _ _,u,vm,r,mq.mark,knds e.t.hd,rfl,a1,hm.same (Y.trans sm),fM (p.rows r (List.mem_filter.mp B).1),λq' e'=>fM (a2 mq q' rfl e'),_,rfl,rr H' (Same.refl _)⟩
   ·rw[bEP] at W;obtain⟨u1,g1,h1⟩:=y.same (Y.trans s5);obtain⟨u2,g2,h2⟩:=W;have l1:=h1.len;have l2:=h2.len;have f1:(e.t.rows.filter λr=>bZ e.t.hd m r b e.t.pl).length+(e.t.rows.filter λr=>nO mq.mark r && fX e.t.hd n U mq.num r).length<=e.t.rows.length:=by rw[I];exact aFr (nO mq.mark) e.t.rows O (a5 mq rfl)
    have f2:=p.few;refine⟨L,D',u1,u2,rfl,rfl,g1,g2,small (by lia),λR6 H6 a9 X g6=>?_⟩;refine⟨R6,_,(e.t.rows.filter λr=>bZ e.t.hd m r b e.t.pl)++e.t.rows.filter λr=>nO mq.mark r && fX e.t.hd n U mq.num r,knds e.t.hd,rfl,SqL.of g6,cP (cG.app (h1.imp λ_ _ z=>z.same X) (h2.imp λ_ _ z=>z.same X)),by rw[w6];lia,jP p.hd.1,λr B=>?_,λL7 H7 Z a6 s7 g7 h7=>?_⟩
    ·rcases List.mem_append.mp B with z|z <;> exact fM (p.rows r (List.mem_filter.mp z).1)
    ·have a0:=G.trans (s5.trans (X.trans s7));refine q L7 H7 (none_of (G.trans (s5.trans X)) a6) a0 ⟨Z,g7,?_⟩;have e7:oM e.t.hd m b e.t.pl (some mq) n U e.t.rows=_:=if_pos O;rw[e7];exact (gO h7).imp λ_ _ z=>z.same s7
  ·refine iY (by rw[v9 λz=>O (V.int.inj z)];rfl) ⟨_,rfl,q L H3 (none_of J hN) j ?_⟩;have e7:oM e.t.hd m b e.t.pl (some mq) n U e.t.rows=_:=if_neg O;rw[e7];exact y
def aWz (h:Ded qs W)(h':Ded qs' W)(b:∀r∈W,KdR ks r):srt qs=srt qs':=
 pN (λr a=>b r ((h.2.1 r).mp a)) ((bFX h.1 h'.1).mpr λr=>(h.2.1 r).trans (h'.2.1 r).symm)
def fY (t:Tb)(n:Str)(cs:List (V × Int))(num:Nat)(o:Option (List V)):List (List V):=t.rows.filter λr=>xP o r && fX t.hd n cs num r
inductive aJx (K:bF4)(C:Addr)(vs:List V)(H:Hp)(Q:VK)(E_:XK):Prop
 |mk (x d dm:Addr) (m:Int) (es:List En) (e:En) (mq:Mv) (n:Str) (h0:Int) (cs:List (V × Int)) (k:Nat) (_:vs=[.ref x,.str e.n,.int k]) (_:bC K H C x m d dm es) (_:e∈es) (_:MvD K H dm e.n (some mq)) (_:e.t.pl=.spans n h0 cs) (_:(∀q,mq.mark=some q->gC e.t.hd q)) (_:∀qs,Ded qs (fY e.t n cs mq.num mq.mark)->(((srt qs).take k=[]->∀H',Same H H'->Q (.int 0) H')/\∀r,((srt qs).take k).getLast?=some r->∀H',KP K (λb=>b≠dm) H H'->bC K H' C x m d dm es->MvD K H' dm e.n (some { mq with mark:=some r })->Q (.int ((fY e.t n cs mq.num mq.mark).length - (fY e.t n cs mq.num (some r)).length)) H'))
theorem aSc (T:Txt w K mg){C:Addr}(c:Cls K C)(D:eG K C "carry" "Store.carry" lO ["self","name","many"])(n3:bL K C "moves")(l:OkM P w K mg base C 4 "cut_table" n6 (aAx K C))(o:OkM P w K mg base C 1 "move_of" n6 (xY K C))(g:OkM P w K mg base C 4 "rows_to_come" n6 (aM4 K C)):OkM P w K mg base C 5 "carry" ["self","name","many"] (aJx K C):=by
 refine OkM.ofV c D qH (by trivial) (λf ao A ai s H vs Q E hr h=>?_)
 obtain⟨x,d,G,m,es,e,j,n,h0,J,k,rfl,hS,he,ad,R,ah,q⟩:=h;have hu:=pB hr;have hU:=hr.units;have nd:=qH.nd;refine⟨_,(aB (dJ (iB l (vv 0) (va1 (vv 1)))) (aB (aY 3 (iB o (vv 0) (va1 (vv 1)))) (aB (aY 4 (iB g (vv 0) (va1 (vv 1)))) (aB (aY 5 (dC wC (aL (tK rfl) (by rfl) T.dX dB (va1 (cC (aFt rfl hU) (by rfl) T.aPb aH1 (va1 (vv 4))))) fB (dW (aL (aQs rfl) (by rfl) T.bEe bCr (aH (vv 2) (va1 aA)))))) (aB (bM (cF (aJk (vv 5))) (aD (aJ aA)) aU) (aB (vV hu (cT (K:=K) (vv 0)) (vv 1) (bF wJ (dC aAu (vv 3) fB (dW aA)) (cN (va1 (aO bA (vv 5) (aZd aUh aA)))))) (aD (aJ (bF aCj (aL aZ (by rfl) T.eV cW (va1 (vv 4))) (aL aZ (by rfl) T.eV cW (va1 (iB g (vv 0) (va1 (vv 1)))))))))))))),?_⟩;obtain⟨dx,hx⟩:=hS.at_;have ok:=hS.ok e he;have af:=ok.few;refine⟨_,rfl,x,dx,_,rfl,hx,rfl,_,rfl,x,d,G,m,es,e,n,h0,J,rfl,hS,he,R,λH1 L=>?_⟩;obtain⟨v,hv,gm⟩:=ad.same L;refine⟨_,rfl,x,dx,_,rfl,L _ _ hx,rfl,_,rfl,x,d,G,m,es,e.n,v,rfl,hS.same L,gm,?_⟩;refine⟨_,rfl,x,dx,_,rfl,L _ _ hx,rfl,_,rfl,x,d,G,m,es,e,j,n,h0,J,rfl,hS.same L,he,⟨v,hv,gm⟩,R,ah,λW2 H2 a8 s2 am=>?_⟩;obtain⟨us,g2,a3⟩:=id am;have lu:=a3.len;have ac:=L.trans s2;have lW:(fY e.t n J j.num j.mark).length<=60:=bAE (bAY _ _) af;have kW:∀r∈fY e.t n J j.num j.mark,KdR (knds e.t.hd) r:=λr F=>fM (ok.rows r (List.mem_filter.mp F).1);have hW:us.length=(fY e.t n J j.num j.mark).length:=lu;refine⟨_,rfl,W2,us,fY e.t n J j.num j.mark,rfl,SqL.of g2,cP a3,λr F=>uX (ok.rows r (List.mem_filter.mp F).1),by lia,λD3 H3 as qs ap s3 g3 a2 I=>?_⟩;have la:=a2.len;have ld:=I.2.2;rw[j6] at la;refine⟨D3,as,qs,knds e.t.hd,rfl,g3,a2.imp λ_ _ z=>z.same s3,by lia,jP ok.hd.1,λr F=>kW r ((I.2.1 r).mp F),λB H4 y hB s4 g4 h4=>?_⟩;have U:=s3.trans s4;refine⟨_,rfl,(k:Int),0,rfl,(k:Int),by rw[if_neg (show ¬ (0:Int) > (k:Int) by lia)],B,y,rfl,SqL.of g4,λp H5 hp s5 g5=>?_⟩;rw[show mZ y none (some ((k:Nat):Int))=y.take k from oJ _ k] at g5;have a5:cG (cL K H5) (y.take k) ((srt qs).take k):=(yH (gO h4) k).imp λ_ _ z=>z.same (s4.trans s5);have ak:=ac.trans (U.trans s5);obtain⟨q0,q1⟩:=q qs I;refine⟨_,rfl,_,.inl ⟨_,SqL.of g5,rfl⟩,?_⟩;have uS:∀i u,(y.take k)[i]?=some u->∃r,((srt qs).take k)[i]?=some r/\cL K H5 u r:=λi u z=>cA a5 z;have lS:=a5.len;generalize y.take k=uk at g5 uS lS ⊢;cases uk with
 |nil=>refine iY rfl ?_;exact q0 (bAZ lS.symm) H5 ak
 |cons u0 ur=>
  refine dH rfl ?_;obtain⟨ul,a6⟩:∃ul,(u0::ur)[(u0::ur).length - 1]?=some ul:=⟨_,b8 (by rw[m8];lia)⟩;obtain⟨r,a1,aj⟩:=uS _ _ a6;have hl:((srt qs).take k).getLast?=some r:=by rw[List.getLast?_eq_getElem?,<-lS];exact a1
  have ag:gC e.t.hd r:=by have h1:=(I.2.1 r).mp (fC (bDV (t8 a1)));exact ok.rows r (List.mem_filter.mp h1).1
  obtain⟨a,vm,rfl,ha,hm⟩:=hv;have a0:=s2.trans (U.trans s5);refine⟨_,rfl,_,rfl,a,_,rfl,a0.aR ha,by show ¬ (HT.sIx 3 0 none=0/\HT.sIx 3 3 (some 2)=3);decide,λp6 H6 s6 g6=>?_⟩;rw[show mZ [V.int j.num,.int j.house,vm] none (some 2)=[V.int j.num,.int j.house] from oJ _ 2] at g6;refine⟨_,rfl,_,rfl,p,_,_,ul,rfl,rfl,SqL.of (s6 _ _ g5),aO1 a6,by show 1<=sizeLine;decide,λp7 H7 _ s7 g7=>?_⟩;refine⟨p6,p7,_,_,rfl,rfl,SqT.of (s7 _ _ g6),SqT.of g7,by show 3<=sizeLine;decide,λO H8 s8 g8=>?_⟩;have W:=s6.trans (s7.trans s8);have N:=a0.trans W;have M:=L.trans N;obtain⟨k1,k2⟩:=(hS.same M).mv (kvs':=[(Sum.inr e.n,.ref O)]) (N _ _ gm);refine⟨_,rfl,x,C,dx,_,_,rfl,M _ _ hx,c,n3,rfl,_,rfl,G,_,rfl,aHm.k (k:=Sum.inr e.n) (N _ _ gm) (jT (by show 1<1000;decide)),?_⟩;rw[show putK [((Sum.inr e.n:Key),V.ref a)] (Sum.inr e.n) (V.ref O)=[(Sum.inr e.n,.ref O)] by unfold putK;simp];have Z:MvD K (_root_.L2.upd H8 G (.dK [(Sum.inr e.n,.ref O)])) G e.n (some { j with mark:=some r }):=⟨.ref O,⟨O,ul,rfl,k1.tk _ _ g8,(aj.same W).imp λb ⟨e1,e2⟩=>⟨e1,k1.tk _ _ e2⟩⟩,aF⟩;have a9:=(KP.same (K:=K) (S:=λb=>b≠G) M).trans k1;have nW:W2≠G:=λz=>by rw[z,gm] at a8;cases a8
  have gW:=k1.st _ _ nW (W _ _ ((U.trans s5) _ _ g2));generalize _root_.L2.upd H8 G (.dK [(Sum.inr e.n,.ref O)])=H9 at k1 k2 Z a9 gW ⊢;obtain⟨al,ae⟩:=k2.at_;refine⟨_,rfl,W2,us,rfl,.inl (SqL.of gW),_,rfl,x,al,_,rfl,ae,rfl,_,rfl,x,d,G,m,es,e,{ j with mark:=some r },n,h0,J,rfl,k2,he,Z,R,λq' e'=>by cases e';exact ag,λW3 aa an X a4=>?_⟩;obtain⟨Y,ab,a7⟩:=a4;have l3:=a7.len;refine⟨W3,Y,rfl,.inl (SqL.of ab),_,_,rfl,rfl,?_⟩;have e1:(us.length:Int) - Y.length=((fY e.t n J j.num j.mark).length - (fY e.t n J j.num (some r)).length:Int):=by rw[hW,l3];rfl
  show Q (.int ((us.length:Int) - Y.length)) aa;rw[e1];exact q1 r hl aa (a9.trans (KP.same X)) (k2.same X) (Z.same X)
def aXh {κ:Type}[DecidableEq κ]{A B:List (κ × V)}{k:κ}{v e:V}(c:∀kv∈A,kv.1≠k)(d:∀kv∈B,kv.1≠k):putK (A++(k,v)::B) k e=A++(k,e)::B:=by
 have b:∀{L:List (κ × V)},(∀kv∈L,kv.1≠k)->L.map (λkv=>if kv.1=k then (kv.1,e) else kv)=L:=λ{L} h=>by
  conv=>rhs;rw[<-List.map_id L]
  exact List.map_congr_left λkv a=>by rw[if_neg (h kv a)];rfl
 unfold putK;rw[if_pos (List.any_eq_true.mpr ⟨(k,v),bAM _ j0,m9 rfl⟩),bBF,bAL,b c,b d,if_pos rfl]
def aGz {l1 l2:List En}{e e':En}(f:((l1++e::l2).map (·.n)).Nodup)(i:e'.n=e.n):putK (enK (l1++e::l2)) (Sum.inr e.n) e'.v=enK (l1++e'::l2):=by
 rw[bBF,bAL] at f;obtain⟨_,h,g⟩:=List.nodup_append.mp f;have c:=(List.nodup_cons.mp h).1;unfold enK;rw[bBF,bAL,bBF,bAL,i];refine aXh (λd a z=>?_) λd a z=>?_
 ·obtain⟨x,b,rfl⟩:=List.mem_map.mp a;exact g _ (bDC b) _ j0 (Sum.inr.inj z)
 ·obtain⟨x,b,rfl⟩:=List.mem_map.mp a;exact c (by rw[<-Sum.inr.inj z];exact bDC b)
def bC.put {H:Hp}{C x d dm:Addr}{m:Int}{l1 l2:List En}{e e':En}(h:bC K H C x m d dm (l1++e::l2))(j:e'.n=e.n)(p:lB K H e'.v e'.vh e'.vp e'.L e'.t)(o:iV m e'.t):KP K (λb=>b≠d) H (L2.upd H d (.dK (enK (l1++e'::l2))))/\bC K (L2.upd H d (.dK (enK (l1++e'::l2)))) C x m d dm (l1++e'::l2):=by
 have i:=eU.dK h.ens.at_;have b:But d H (L2.upd H d (.dK (enK (l1++e'::l2)))):=But.upd;have c:∀y∈l1++e'::l2,y=e'\/y∈l1++e::l2:=λy hy=>by
  rcases List.mem_append.mp hy with h|h
  ·exact .inr (bBQ _ h)
  ·rcases List.mem_cons.mp h with h|h
   ·exact .inl h
   ·exact .inr (bAM _ (j5 _ h))
 have a:=h.ens;have f:(l1++e'::l2).map (·.n)=(l1++e::l2).map (·.n):=by rw[bBF,bBF,bAL,bAL,j]
 obtain⟨k,g⟩:=h.at_;have l:x≠d:=λz=>by rw[z,a.at_] at g;cases g
 refine⟨.bEa i λz=>z rfl,⟨k,b _ _ l g⟩,⟨aF,by rw[f];exact a.nd,?_,λy hy=>?_,λy hy=>?_⟩,λy hy=>?_,h.ne⟩
 ·have:=congrArg List.length f;rw[j6,j6] at this;rw[this];exact a.few
 ·rcases c y hy with rfl|hy
  ·rw[j];exact a.nm e (bAM _ j0)
  ·exact a.nm y hy
 ·rcases c y hy with rfl|hy
  ·exact b.tb i p
  ·exact b.tb i (a.tb y hy)
 ·rcases c y hy with rfl|hy
  ·exact o
  ·exact h.ok y hy
inductive yL (K:bF4)(vs:List V)(H:Hp)(Q:VK)(E_:XK):Prop
 |mk (v vh vp:V) (L R:Addr) (t:Tb) (rows:List (List V)) (_:vs=[v,.ref R]) (_:lB K H v vh vp L t) (_:aQf t.hd) (_:bU K H R rows) (_:rows.length<=60) (_:(∀r∈rows,gC t.hd r)) (_:∀v' L' H',H L'=none->Same H H'->lB K H' v' vh vp L' { t with rows:=srt rows }->Q v' H')
def aGt (T:Txt w K mg):Ok P w K mg base 1 "with_rows" ["table","rows"] (yL K):=by
 refine Ok.ofV T.aJj aGb (by trivial) (λf S A k s H vs Q E hr h=>?_)
 obtain⟨v,y,x,L,R,t,d,rfl,⟨a,rfl,X,B,G,h3⟩,hd,O,M,n,q⟩:=h;refine⟨_,(aD (aJ (bF wJ (dC aAu (vv 0) fB (dW aA)) (cN (va1 (aL dU (by rfl) T.dX dB (va1 (vv 1)))))))),?_⟩;obtain⟨D,U,c⟩:=O;have lu:=c.len;refine⟨_,rfl,_,rfl,a,_,rfl,X,by show ¬ (HT.sIx 3 0 none=0/\HT.sIx 3 3 (some 2)=3);decide,λp Y g u=>?_⟩;rw[show mZ [y,x,.ref L] none (some 2)=[y,x] from oJ _ 2] at u;refine⟨_,rfl,R,D,d,knds t.hd,rfl,SqL.of (g _ _ U),cP (c.imp λ_ _ z=>z.same g),by lia,jP hd.1,λr j=>fM (n r j),λN H2 m l i F W=>?_⟩;refine⟨by show 1<=sizeLine;decide,λJ Z _ e C=>?_⟩;refine⟨p,J,_,_,rfl,rfl,SqT.of (e _ _ (i _ _ u)),SqT.of C,by show 3<=sizeLine;decide,λr V o I=>?_⟩;have b:=g.trans (i.trans (e.trans o));exact q _ N V (none_of g l) b ⟨r,rfl,I,B.same b,G.same b,m,o _ _ (e _ _ F),(gO W).imp λ_ _ z=>z.same (i.trans (e.trans o))⟩
inductive aV3 (K:bF4)(C:Addr)(vs:List V)(H:Hp)(Q:VK)(E_:XK):Prop
 |mk (x d dm:Addr) (m:Int) (l1 l2:List En) (e:En) (vr:V) (r:List V) (_:vs=[.ref x,.str e.n,vr]) (_:bC K H C x m d dm (l1++e::l2)) (_:cL K H vr r) (_:gC e.t.hd r) (_:e.t.rows.length<60) (_:∀v L H',KP K (λb=>b≠d) H H'->H L=none->bC K H' C x m d dm (l1++{ e with v:=v,L:=L,t:={ e.t with rows:=srt (e.t.rows++[r]) } }::l2)->Q .non H')
def aXm (T:Txt w K mg){C:Addr}(c:Cls K C)(D:eG K C "put" "Store.put" qU ["self","name","row"])(n1:bL K C "placed")(cB:Ok P w K mg base 3 "table_in" o5 (nU K))(qR:Ok P w K mg base 4 "is_row" u5 (aAy K))(rB:Ok P w K mg base 1 "with_rows" ["table","rows"] (yL K)):OkM P w K mg base C 5 "put" bQF (aV3 K C):=by
 refine OkM.ofV c D vD (by trivial) (λf a2 A S s H vs Q E hr h=>?_)
 obtain⟨x,d,dm,m,U,V,e,vr,r,rfl,i,F,j,a1,q⟩:=h;have hu:=pB hr;have nd:=vD.nd;refine⟨_,(aB (aY 3 (aV cB (aH (cT (K:=K) (vv 0)) (va1 (vv 1))))) (aB (bM (cF (bW (aV qR (aH (aO aP (vv 3) aA) (va1 (vv 2)))))) (aD dY) aU) (aD (vV hu (cT (K:=K) (vv 0)) (vv 1) (aV rB (aH (vv 3) (va1 (bF pI (aO aP (vv 3) aA) (cY (va1 (vv 2))))))))))),?_⟩;obtain⟨dx,hx⟩:=i.at_;have I:e∈U++e::V:=bAM _ j0;have B:=i.ok e I;have l8:=B.hd.1.2.2;refine⟨_,rfl,x,C,dx,_,_,rfl,hx,c,n1,rfl,_,rfl,d,_,e,rfl,i.ens,I,λH1 M=>?_⟩;obtain⟨a,Y,Z,h1,h2,⟨us,h3,h4⟩⟩:=(i.ens.tb e I).same M;have lu:=h4.len;refine⟨_,rfl,a,_,0,_,Y,rfl,Z,at0 _ _,_,rfl,e.vh,vr,e.t.hd,r,rfl,h1,by lia,F.same M,j,λH2 G=>⟨_,rfl,bY ?_⟩⟩;have N:=M.trans G;refine⟨_,rfl,_,rfl,a,_,2,_,Y,rfl,G.aR Z,at2 _ _ _ _,_,rfl,by show 1<=sizeLine;decide,λp H3 hp X g3=>?_⟩;refine⟨e.L,p,us,_,rfl,rfl,X _ _ (G _ _ h3),g3,small (by show _+1<=1000;lia),λR H4 hR s4 g4=>?_⟩;have b:=N.trans (X.trans s4);have g:bU K H4 R (e.t.rows++[r]):=⟨_,g4,cG.app (h4.imp λ_ _ z=>z.same (G.trans (X.trans s4))) (.cons (F.same b) .nil)⟩;refine⟨e.v,e.vh,e.vp,e.L,R,e.t,_,rfl,(i.ens.tb e I).same b,B.hd,g,by rw[w6];show _+1<=60;lia,λy hy=>?_,λW L' H5 J s5 hT=>?_⟩
 ·rcases List.mem_append.mp hy with hy|hy
  ·exact B.rows y hy
  ·rw[List.mem_singleton.mp hy];exact j
 have o:=b.trans s5;have l:=i.same o;have O:iV m { e.t with rows:=srt (e.t.rows++[r]) }:=⟨B.hd,B.pl,by show (srt _).length<=60;rw[nJ,w6];show _+1<=60;lia,λy hy=>by
  rcases List.mem_append.mp (fC hy) with hy|hy
  ·exact B.rows y hy
  ·rw[List.mem_singleton.mp hy];exact j⟩
 obtain⟨e',u⟩:∃e':En,e'={ e with v:=W,L:=L',t:={ e.t with rows:=srt (e.t.rows++[r]) } }:=⟨_,rfl⟩;obtain⟨k1,k2⟩:=l.put (e':=e') (by rw[u]) (by rw[u];exact hT) (by rw[u];exact O);have a0:=l.ens.few;refine⟨_,rfl,x,C,dx,_,_,rfl,o _ _ hx,c,n1,rfl,_,rfl,d,_,rfl,aHm.k (k:=Sum.inr e.n) l.ens.at_ (by rw[vB];exact jT (by lia)),?_⟩;have ek:putK (enK (U++e::V)) (Sum.inr e.n) W=enK (U++e'::V):=by have:=aGz (e':=e') i.ens.nd (by rw[u]);rw[u] at this ⊢;exact this
 rw[ek];rw[u] at k1 k2 ⊢;exact q W L' _ ((KP.same o).trans k1) (none_of b J) k2
theorem aJs {r:List V}:∀{rs:List (List V)},r∈rs->∃j,rs[j]?=some r/\∀(m:Nat) q,m<j->rs[m]?=some q->q≠r
 |[],h=>by cases h
 |a::rs,h=>by
  by_cases e:a=r
  ·exact⟨0,by rw[e];rfl,λm q c=>absurd c (bCX _)⟩
  ·rcases List.mem_cons.mp h with h|h
   ·exact absurd h.symm e
   ·obtain⟨j,d,f⟩:=aJs h;refine⟨j+1,by simpa using d,λm q c b=>?_⟩;cases m with
    |zero=>cases b;exact e
    |succ m=>exact f m q (by lia) (by simpa using b)
theorem aBz {α β:Type}{R:α->β->Prop}{as:List α}{bs:List β}(h:cG R as bs):∀n,cG R (as.eraseIdx n) (bs.eraseIdx n):=by
 induction h with
 |nil=>intro n;exact .nil
 |cons r t ih=>
  intro n;cases n with
  |zero=>exact t
  |succ n=>exact .cons r (ih n)
theorem tZ {α:Type}{r:α}:∀{rs:List α} {j:Nat},rs[j]?=some r->(r::rs.eraseIdx j).Perm rs
 |[],_,h=>by cases h
 |a::rs,0,h=>by cases h;exact .refl _
 |a::rs,j+1,h=>(List.Perm.swap a r _).trans ((tZ (by simpa using h)).cons a)
inductive aOe (K:bF4)(C:Addr)(vs:List V)(H:Hp)(Q:VK)(E_:XK):Prop
 |mk (x d dm:Addr) (m:Int) (l1 l2:List En) (e:En) (vr:V) (r:List V) (_:vs=[.ref x,.str e.n,vr]) (_:bC K H C x m d dm (l1++e::l2)) (_:cL K H vr r) (_:gC e.t.hd r) (_:r∈e.t.rows) (_:∀v L rows' H',(r::rows').Perm e.t.rows->KP K (λb=>b≠d) H H'->H L=none->bC K H' C x m d dm (l1++{ e with v:=v,L:=L,t:={ e.t with rows:=srt rows' } }::l2)->Q .non H')
def aT8 (T:Txt w K mg){C:Addr}(c:Cls K C)(D:eG K C "drop" "Store.drop" oU ["self","name","row"])(n1:bL K C "placed")(cB:Ok P w K mg base 3 "table_in" o5 (nU K))(qR:Ok P w K mg base 4 "is_row" u5 (aAy K))(rB:Ok P w K mg base 1 "with_rows" ["table","rows"] (yL K)):OkM P w K mg base C 5 "drop" bQF (aOe K C):=by
 refine OkM.ofV c D sS (by trivial) (λf a7 A a1 s H vs Q E V h=>?_)
 obtain⟨x,d,dm,m,l1,l2,e,vr,r,rfl,q,G,u,hm,qT⟩:=h;have hu:=pB V;have hU:=V.units;have nd:=sS.nd;refine⟨_,(aB (aY 3 (aV cB (aH (cT (K:=K) (vv 0)) (va1 (vv 1))))) (aB (bM (VW.pt (fK (cF (bW (aV qR (aH (aO aP (vv 3) aA) (va1 (vv 2)))))) (dZ (aO6 (aLw hU) (vv 2) (aO aP (vv 3) aA) (by with_unfolding_all rfl))))) (aD dY) aU) (aB (aY 4 (cC nA (by rfl) T.yE rJ (va1 (aO aP (vv 3) aA)))) (aB (dJ (tG PySem.F.plainAttrs_list PySem.F.slot_list_remove PySem.F.type_list_remove (aXb hU) (vv 4) (va1 (vv 2)))) (aD (vV hu (cT (K:=K) (vv 0)) (vv 1) (aV rB (aH (vv 3) (va1 (vv 4)))))))))),?_⟩;obtain⟨dx,hx⟩:=q.at_;have W:e∈l1++e::l2:=bAM _ j0;have g:=q.ok e W;have l8:=g.hd.1.2.2;have a4:=g.few;refine⟨_,rfl,x,C,dx,_,_,rfl,hx,c,n1,rfl,_,rfl,d,_,e,rfl,q.ens,W,λH1 U=>?_⟩;obtain⟨a,ev,ha,h1,h2,⟨o,h3,X⟩⟩:=(q.ens.tb e W).same U;have lu:=X.len;refine⟨_,rfl,a,_,0,_,ev,rfl,ha,at0 _ _,_,rfl,e.vh,vr,e.t.hd,r,rfl,h1,by lia,G.same U,u,λH2 i=>⟨_,rfl,bY ?_⟩⟩;have O:=U.trans i;have M:∀r∈e.t.rows,pG r:=λr V=>uX (g.rows r V);refine⟨_,rfl,_,rfl,a,_,2,_,ev,rfl,i.aR ha,at2 _ _ _ _,e.L,o,e.t.rows,r,rfl,SqL.of (i _ _ h3),cP (X.imp λ_ _ z=>z.same i),M,G.same O,uX u,_,rfl,?_⟩
 ·rw[m9 hm];refine bY ?_;obtain⟨j,hj,Z⟩:=aJs hm;refine⟨_,rfl,a,_,2,_,ev,rfl,i.aR ha,at2 _ _ _ _,e.L,o,rfl,.inl (SqL.of (i _ _ h3)),λR H3 hR s3 g3=>?_⟩;have a2:=O.trans s3;refine⟨_,rfl,.inl ⟨rfl,_,SqL.of g3⟩,_,rfl,R,o,vr,e.t.rows,r,j,rfl,rfl,g3,cP (X.imp λ_ _ z=>z.same (i.trans s3)),M,G.same a2,uX u,hj,Z,?_⟩;have p:Same H1 (L2.upd H3 R (.lst (o.eraseIdx j))):=i.trans (gG hR s3);have b:=U.trans p;have g4:L2.upd H3 R (.lst (o.eraseIdx j)) R=some (.lst (o.eraseIdx j)):=aF;generalize L2.upd H3 R (.lst (o.eraseIdx j))=H4 at p b g4 ⊢;obtain⟨a6,ej⟩:=List.getElem?_eq_some_iff.mp hj;have pm:(r::e.t.rows.eraseIdx j).Perm e.t.rows:=tZ hj;have S:∀y∈e.t.rows.eraseIdx j,y∈e.t.rows:=λy N=>List.mem_of_mem_eraseIdx N;have l:bU K H4 R (e.t.rows.eraseIdx j):=⟨_,g4,aBz (X.imp λ_ _ z=>z.same p) j⟩;have a5:=bER e.t.rows j;refine⟨_,rfl,_,rfl,e.v,e.vh,e.vp,e.L,R,e.t,e.t.rows.eraseIdx j,rfl,(q.ens.tb e W).same b,g.hd,l,by lia,λy N=>g.rows y (S y N),λv' L' H5 Y s5 hT=>?_⟩;have I:=b.trans s5;have B:=q.same I;have a0:iV m { e.t with rows:=srt (e.t.rows.eraseIdx j) }:=⟨g.hd,g.pl,by show (srt _).length<=60;rw[nJ];lia,λy N=>g.rows y (S y (fC N))⟩;obtain⟨e',J⟩:∃e':En,e'={ e with v:=v',L:=L',t:={ e.t with rows:=srt (e.t.rows.eraseIdx j) } }:=⟨_,rfl⟩;obtain⟨k1,k2⟩:=B.put (e':=e') (by rw[J]) (by rw[J];exact hT) (by rw[J];exact a0);have a3:=B.ens.few;refine⟨_,rfl,x,C,dx,_,_,rfl,I _ _ hx,c,n1,rfl,_,rfl,d,_,rfl,aHm.k (k:=Sum.inr e.n) B.ens.at_ (by rw[vB];exact jT (by lia)),?_⟩;have ek:putK (enK (l1++e::l2)) (Sum.inr e.n) v'=enK (l1++e'::l2):=by have:=aGz (e':=e') q.ens.nd (by rw[J]);rw[J] at this ⊢;exact this
  rw[ek];rw[J] at k1 k2 ⊢;exact qT v' L' _ _ pm ((KP.same I).trans k1) (none_of b Y) k2
end
end My
namespace L2
open PySem PySem.Spec PyProof.Rows
def aZs (K:bF4)(n:Nat)(t:TGs):TG:=λv σ H Q=>∃a xs,v=.ref a/\SqL K H a xs/\xs.length=n/\t xs σ H Q
def aXi (A:X.calm=true)(h:PGs X es t)
  (B:(assignEach es X.env).length=n:=by rfl) (w:(assignEach es X.env).findIdx? (·.1)=none:=by rfl):PG X (.Tuple es k pos) (aZs X.K n t):=by
 intro f s σ H v u Q I r c;obtain⟨a,l,x,p,m,c⟩:=c;subst x;cases r;obtain⟨d,i,q,z⟩:=I.list p;have g:(assignEach es X.env).length=d.toArray.size:=by rw[B,<-m,i.length,d9]
 rw[arm_assign_Tuple];refine b7 (bEC ?_);unfold unpack;rw[g,w];refine b7 (bAR (PySem.W.kun_itemsOf (I.ok.hd A) q.isList λC j=>?_));have y:=I.kept (t':=s.toks) λb o e=>j b o (v8 (j9 e)) e;exact h f _ σ H l _ Q y (by simpa using i) c
def aO2 (c:X.calm=true)(h:VGs X es t)(b:(assignEach es X.env).length=n:=by rfl)(a:(assignEach es X.env).findIdx? (·.1)=none:=by rfl):VG X (.Tuple es k pos) (aZs X.K n t):=⟨aXi c h.1 b a⟩
end L2
namespace My
open PySem PySem.Spec PyProof.Rows L2
section
variable {P:Program}{w:World}{K:bF4}{mg:bF7}{base:Heap}
theorem aRy (h:cD kd a)(f:cD kd b)(e:cD kd c)(d:vlt a b=true)(g:vlt b c=true):vlt a c=true:=by
 cases h with
 |num=>cases f;cases e;exact m9 (Int.lt_trans (of_decide_eq_true d) (of_decide_eq_true g))
 |wrd _ _=>cases f;cases e;exact m9 (List.lt_trans (of_decide_eq_true d) (of_decide_eq_true g))
theorem aKx {kd:Str}{v:V}{cs:List (V × Int)}(x:cD kd v)(o:∀c∈cs,cD kd c.1)(p:(cs.map (·.1)).Pairwise λa b=>vlt a b=true):∀k,k<=cs.length->iD v (cs.take k) 1 0<=k/\∀(i:Nat) (c:V × Int),i<k->cs[i]?=some c->(i<iD v (cs.take k) 1 0↔vlt v c.1=false)
 |0,_=>⟨d8 _,λi c h=>absurd h (bCX _)⟩
 |k+1,h=>by
  obtain⟨A,t⟩:=aKx x o p k (by lia);have g:cs[k]?=some cs[k]:=b8 (by lia);have u:cs.take (k+1)=cs.take k++[cs[k]]:=by rw[bBP,g];rfl
  have w:(cs.take k).length=k:=by rw[bAI];lia
  rw[u,zG,w];have l:=o _ (t8 g);cases f:vlt v cs[k].1 with
  |true=>
   rw[if_pos rfl];refine⟨by lia,λi c r d=>?_⟩;by_cases e:i=k
   ·subst e;rw[g] at d;cases d;rw[f];exact⟨λz=>absurd z (by lia),λz=>by cases z⟩
   ·exact t i c (by lia) d
  |false=>
   rw[if_neg v5];refine⟨by lia,λi c r d=>⟨λ_=>?_,λ_=>by lia⟩⟩;by_cases e:i=k
   ·subst e;rw[g] at d;cases d;exact f
   ·cases q:vlt v c.1 with
    |false=>rfl
    |true=>
     have j:=o c (t8 d);have y:i<(cs.map (·.1)).length:=by rw[j6];lia
     have m:k<(cs.map (·.1)).length:=by rw[j6];lia
     have n:=List.pairwise_iff_getElem.mp p i k y m (by lia);rw[List.getElem_map,List.getElem_map] at n;have s:=(List.getElem?_eq_some_iff.mp d).2;rw[s] at n;rw[aRy x j l q n] at f;cases f
theorem zQ {α:Type}{p:α->Bool}:∀{l:List α} {N:Nat},N<=l.length->(∀(i:Nat) (c:α),l[i]?=some c->(i<N↔p c=true))->l.filter p=l.take N
 |[],N,_,_=>by rw[bEE];rfl
 |a::l,0,h,hp=>by rw[List.take_zero];refine List.filter_eq_nil_iff.mpr λc b=>?_;obtain⟨i,d⟩:=List.mem_iff_getElem?.mp b;exact λz=>absurd ((hp i c d).mpr z) (bCX _)
 |a::l,N+1,h,hp=>by rw[bDG,if_pos ((hp 0 a rfl).mp (Nat.succ_pos _)),List.take_succ_cons];exact congrArg _ (zQ (by simpa using h) λi c e=>⟨λz=>(hp (i+1) c (by simpa using e)).mp (by lia),λz=>by have:=(hp (i+1) c (by simpa using e)).mpr z;lia⟩)
def oO (h:∀r∈rs,KdR ks r)(p:List V->Bool):srt (rs.filter p)=(srt rs).filter p:=by obtain⟨d,l⟩:=jR h;obtain⟨f,c⟩:=jR λr j=>h r (List.mem_filter.mp j).1;refine zB (f.trans (d.filter p).symm) (λa g b i e k=>?_) c (l.filter p);exact aUk (h a (List.mem_filter.mp (fC g)).1) (h b (List.mem_filter.mp (fC i)).1) e k
def aHt (T:Txt w K mg):Ok P w K mg base 1 "_law_spot" bQD (mH K):=by
 refine Ok.ofV T.aJz aHi (by trivial) (λf a0 A v s H vs Q E hr h=>?_)
 obtain⟨vh,n,hd,k,rfl,⟨b,U,rfl,u,O⟩,X,W,q⟩:=h;obtain⟨o,B⟩:=aG6 W;refine⟨_,(aD (aJ (tG PySem.F.plainAttrs_list PySem.F.slot_list_index PySem.F.type_list_index aEs (cI (N:=["_law_column","_law_kind"]) (by trivial) (kE (by decide +kernel)) rfl (pM (vv 0)) (λcl e g fp=>⟨(rK (K:=K) (n:=2) rfl (aX (bJ (i:=0) (show (["_law_column","_law_kind"]:List Str).Nodup from by decide +kernel) rfl (Or.inl rfl)) (aX (bJ (i:=1) (show (["_law_column","_law_kind"]:List Str).Nodup from by decide +kernel) rfl (Or.inl rfl)) eQ))),fW,(vv 0)⟩)) (va1 (vv 1))))),?_⟩;have lu:=O.len;dsimp only[rA,tBM];refine vL [none,none] rD ⟨_,rfl,b,rfl,⟨_,u⟩,aIv Same (aOr H) U (λ_=>true) (λi _ y=>∃d,hd[i]?=some d/\y=.str d.1) (λ_ _ h=>h) (λ_ _ _ h=>h) (λi σ=>∃d,hd[i]?=some d/\At2 [none,none] (.str d.1) (.str d.2) σ) (Ps2 [none,none]) ⟨none,none,rfl⟩ (small (by lia)) _ (aG8 λg e=>e.aR u) (uT λg e=>e.aR u) (λi x σ' g Q' t p e Z=>?_) (λi x C t I g R e r=>r g (Same.refl _)) (λi x C t I hp g R e r=>?_) λD H6 L s6 fD J l=>?_⟩
 ·obtain⟨d,a,p',rfl,G⟩:=cA O t;exact hg2 (e.aR G) p fun C o B=>Z C o ⟨d,a,B⟩
 ·obtain⟨d,a,rfl⟩:=I;exact⟨_,rfl,r _ _ (Same.refl g) ⟨d,a,rfl⟩⟩
 ·rw[qN] at l;obtain⟨l1,l2⟩:=oR l;have ey:L=(hd.map (·.1)).map V.str:=bCC λi=>by
   cases S:L[i]? with
   |some z=>obtain⟨d,a,rfl⟩:=l2 i z S;rw[v7,v7,a];rfl
   |none=>have:=List.getElem?_eq_none_iff.mp S;exact (bAA (by rw[j6,j6];lia)).symm
  subst ey;refine⟨.inl ⟨rfl,_,SqL.of J⟩,_,rfl,D,hd.map (·.1),n,plc hd n,rfl,rfl,SqL.of J,by rw[j6];exact X,by rw[v7,o];rfl,λj m hj M=>?_,q H6 s6⟩;rw[v7] at M;obtain⟨c,Y,rfl⟩:=Option.map_eq_some_iff.mp M;exact B j c hj Y
def aUl (i:Nat)(e:(y,NameKind.free)∈scope.names)(hi:X.N[i]?=some y)(d:σ[i]?=some (some u))(c:Vis X.env.scope y):Cap X scope [x,x2,y] σ [none,none,some u]:=
 ⟨rfl,λn q r b a=>by
  match n,b,a with
  |0,_,a=>cases a
  |1,_,a=>cases a
  |2,b,a=>cases b;cases a;exact⟨e,i,hi,d,c⟩
  |n+3,b,_=>cases b⟩
theorem aCq {α β:Type}(p:Nat->Bool):∀(k:Nat) (l:List α) (m:List β),l.length=m.length->(sel p k l).length=(sel p k m).length
 |_,[],[],_=>rfl
 |k,a::l,b::m,h=>by
  have c:=aCq p (k+1) l m (by simpa using h);unfold sel;cases p k with
  |true=>simpa using c
  |false=>simpa using c
theorem bCh (d:cD kd a)(c:cD kd b)(q:Q (.bl (!vlt b a)) H):bCe a b H Q:=by
 cases d with
 |num=>cases c;exact .inl ⟨_,_,rfl,rfl,q⟩
 |wrd _ _=>cases c;exact .inr ⟨_,_,rfl,rfl,q⟩
inductive aDg (K:bF4)(vs:List V)(H:Hp)(Q:VK)(E_:XK):Prop
 |mk (vc v:V) (kd:Str) (m h0:Int) (cs:List (V × Int)) (_:vs=[vc,v]) (_:lU K H (fJ K H) vc ((.non,h0)::cs)) (_:yI kd m h0 cs) (_:cD kd v) (_:∀H',Same H H'->Q (.int (iD v cs 1 0:Nat)) H')
def aHx (T:Txt w K mg):Ok P w K mg base 1 "_law_span" bQB (aDg K):=by
 refine Ok.ofV T.aJ9 aHz (by trivial) (λf a1 A J s H vs Q E hr h=>?_)
 obtain⟨vc,v,kd,m,h0,b,rfl,⟨a,Z,rfl,ha,hu⟩,C,X,q⟩:=h;have O:∀c∈b,cD kd c.1:=λc g=>(C.each c g).1;have a0:=C.few;refine⟨_,(aD (aJ (aL aZ (by rfl) T.eV cW (va1 (cI (N:=["_law_low","_law_house","_law_value_here"]) (by trivial) (eE (aC qP) rfl (by decide +kernel)) rfl (pM (dC aA1 (vv 0) (dW aA) fB)) (λcl d j fp=>⟨(rK (K:=K) (n:=2) rfl (aX (bJ (i:=0) (show (["_law_low","_law_house","_law_value_here"]:List Str).Nodup from by decide +kernel) rfl (Or.inl rfl)) (aX (bJ (i:=1) (show (["_law_low","_law_house","_law_value_here"]:List Str).Nodup from by decide +kernel) rfl (Or.inl rfl)) eQ))),(lM (cZ aVe (vv 0) (vv 2))),(vv 0)⟩)))))),?_⟩;obtain⟨M,k,rfl,_,l⟩:∃M k,Z=M::k/\fJ K H M (.non,h0)/\cG (fJ K H) k b:=by
  cases hu with
  |cons r t=>exact⟨_,_,rfl,r,t⟩
 have lt:=l.len;dsimp only[rA,tCB,dI];refine vL [none,none,some v] (aUl 1 (by decide +kernel) rfl rfl (by trivial)) ⟨_,rfl,_,rfl,a,_,rfl,ha,λts H5 S o=>?_⟩;rw[show (1:Int)=((1:Nat):Int) from rfl,rM,List.drop_one,List.tail_cons] at o;refine⟨ts,rfl,⟨_,o⟩,aIv Same (aOr H5) k (λi=>!vlt v (b.getD i (.non,0)).1) (λ_ _ _=>True) (λ_ _ h=>h) (λ_ _ _ h=>h) (λi σ=>∃c,b[i]?=some c/\At2 [none,none,some v] c.1 (.int c.2) σ) (Ps2 [none,none,some v]) ⟨none,none,rfl⟩ (small (by lia)) _ (aG8 λj d=>d.aR o) (uT λj d=>d.aR o) (λi x σ' j Q' I B d qq=>?_) (λi x L I F j R d u=>?_) (λi x L I F V j R d u=>?_) λD H6 ys s6 fD g6 y=>?_⟩
 ·obtain⟨c,g,p,rfl,V⟩:=cA l I;exact hg2 ((S.trans d).aR V) B fun L Y h2=>qq L Y ⟨c,g,h2⟩
 ·obtain⟨c,g,rfl⟩:=F;refine⟨_,rfl,_,rfl,bCh (O c (t8 g)) X ⟨_,rfl,?_⟩⟩;have e:(!vlt v (b.getD i (.non,0)).1)=!vlt v c.1:=by rw[j4,g];rfl
  rw[e] at u;exact u j (Same.refl _)
 ·obtain⟨c,g,rfl⟩:=F;exact⟨_,rfl,u _ j (Same.refl _) trivial⟩
 ·have W:=y.len;rw[aCq _ 0 (List.range k.length) b (by rw[bAH];lia),jV (p':=λc=>!vlt v c.1) λi c e=>by rw[bDN,j4,e];rfl] at W;obtain⟨U,G⟩:=aKx X O C.up b.length (d8 _);rw[bCW] at U G;rw[zQ (N:=iD v b 1 0) U λi c e=>⟨λz=>by rw[(G i c (List.getElem?_eq_some_iff.mp e).1 e).mp z];rfl,λz=>(G i c (List.getElem?_eq_some_iff.mp e).1 e).mpr (by simpa using z)⟩,bAI] at W;refine⟨D,_,rfl,.inl (SqL.of g6),?_⟩;rw[show ys.length=iD v b 1 0 by lia];exact q H6 (S.trans s6)
def mL (K:bF4)(H:Hp)(M:Addr)(vh vp:V)(R:Addr)(t:Tb)(vm:V):Prop:=H M=some (.lst [vh,vp,.ref R,vm])/\jG K H vh t.hd/\oK K H vp t.pl/\bU K H R t.rows
theorem mL.same (s:Same H H')(h:mL K H M vh vp R t vm):mL K H' M vh vp R t vm:=⟨s _ _ h.1,h.2.1.same s,h.2.2.1.same s,h.2.2.2.same s⟩
inductive yX (K:bF4)(vs:List V)(H:Hp)(Q:VK)(E_:XK):Prop
 |mk (M R:Addr) (vh vp vm:V) (t:Tb) (m house:Int) (n:Str) (h0:Int) (cs:List (V × Int)) (_:vs=[.ref M,.int m,.int house]) (_:mL K H M vh vp R t vm) (_:iV m t) (_:t.pl=.spans n h0 cs) (_:∀L H',H L=none->Same H H'->bU K H' L ((srt t.rows).filter λr=>bZ t.hd m r house t.pl)->Q (.ref L) H')
def aDx (T:Txt w K mg)(pQ:Ok P w K mg base 1 "_law_spot" bQD (mH K))(a7:Ok P w K mg base 1 "_law_home" ["_law_value_here","_law_houses"] aZy)(pK:Ok P w K mg base 1 "_law_span" bQB (aDg K)):Ok P w K mg base 2 "_law_stood" n8 (yX K):=by
 refine Ok.ofV T.aF5 sH (by trivial) (λf ab A a3 s H vs Q E hr h=>?_)
 obtain⟨M,R,vh,vp,vm,t,m,a,n,h0,p,rfl,⟨gM,hI,a5,⟨us,gR,k⟩⟩,x,j,q⟩:=h;have d:=a5;rw[j] at d;obtain⟨b,vo,rfl,D,I⟩:=d;obtain⟨cc,L,rfl,O,G⟩:=id I;have B:=x.pl;rw[j] at B;obtain⟨aa,kd,hk,a9,X⟩:=B;have l8:=x.hd.1.2.2;have lu:=k.len;have a8:=x.few;have nd:=sH.nd;refine⟨_,(aB (jH (vv 0) (aO2 rfl (aX (cR 3) (aX (cR 4) (aX (cR 5) (aX (cR 6) eQ)))))) (aB (bM (cZ dN (aO aP (vv 4) aA) bB) (aD (aJ (aL dU (by rfl) T.dX dB (va1 (vv 5))))) aU) (aB (aY 7 (aV pQ (aH (vv 3) (va1 (aO aP (vv 4) aA))))) (aB (bM (cZ dN (aO aP (vv 4) aA) bB) (aD (aJ (aL dU (by rfl) T.dX dB (va1 (cI (N:=["_law_row_here","_law_house","_law_houses","_law_spot_here"]) (by trivial) (eE (aC jL) rfl (by decide +kernel)) rfl (eO (vv 5)) (λcl c H' fp=>⟨(bJ (i:=0) (show (["_law_row_here","_law_house","_law_houses","_law_spot_here"]:List Str).Nodup from by decide +kernel) rfl (Or.inl rfl)),(lM (cZ dN (aV a7 (aH (aO (bK (K:=K)) (vv 0) (vv 3)) (va1 (vv 2)))) (vv 1))),(vv 0)⟩)))))) aU) (aD (aJ (aL dU (by rfl) T.dX dB (va1 (cI (N:=["_law_row_here","_law_house","_law_placing","_law_spot_here"]) (by trivial) (eE (aC jL) rfl (by decide +kernel)) rfl (eO (vv 5)) (λcl c H' fp=>⟨(bJ (i:=0) (show (["_law_row_here","_law_house","_law_placing","_law_spot_here"]:List Str).Nodup from by decide +kernel) rfl (Or.inl rfl)),(lM (cZ dN (aO (bK (K:=K)) (aO (bK (K:=K)) (aO (bK (K:=K)) (vv 2) aA) (aV pK (aH (aO (bK (K:=K)) (vv 2) aA) (va1 (aO (bK (K:=K)) (vv 0) (vv 3)))))) aA) (vv 1))),(vv 0)⟩)))))))))),?_⟩;refine⟨_,rfl,M,_,rfl,SqL.of gM,rfl,_,_,rfl,_,_,rfl,_,_,rfl,_,_,rfl,rfl,?_⟩;refine⟨_,rfl,b,_,0,_,rfl,rfl,D,at0 _ _,rfl,_,rfl,dH (by decide) ?_⟩;refine⟨_,rfl,_,rfl,b,_,1,_,rfl,rfl,D,at1 _ _ _,vh,n,t.hd,kd,rfl,hI,by lia,hk,λH1 y=>?_⟩;refine⟨_,rfl,b,_,0,_,rfl,rfl,y.aR D,at0 _ _,rfl,_,rfl,dH (by decide) ?_⟩;dsimp only[bO,aDz,aBs,rA,tCB,dI,List.set,tD];refine aFa us (λi=>bZ t.hd m (t.rows.getD i []) a t.pl) [none,some (.int a),some (.ref b),some (.int (plc t.hd n:Nat))] (aAz 2 4 7 (by decide +kernel) (by decide +kernel) (by decide +kernel) rfl rfl rfl rfl rfl rfl (by trivial) (by trivial) (by trivial)) (small (by lia)) (λR' r'=>aP7 (λH' S=>SqL.of (S _ _ (y _ _ gR))) (λR'' a4=>⟨_,rfl,a4⟩) R' r') (λi u ex H' R' l S rr=>?_) rfl λD7 H7 ac s7 g7=>?_
 ·obtain⟨r,J,ru,rfl,a0⟩:=cA k ex;have Z:=x.rows r (t8 J);obtain⟨v,hv,hg,U⟩:=aKw Z hk;have eg:t.rows.getD i []=r:=by rw[j4,J];rfl
  rw[eg,j] at rr;have c:=y.trans S;refine⟨_,rfl,b,_,2,_,rfl,rfl,c.aR D,at2 _ _ _ _,_,rfl,b,_,2,_,rfl,rfl,c.aR D,at2 _ _ _ _,_,rfl,_,rfl,ru,r,_,v,rfl,rfl,c.aR a0,bH hv,.ref cc,v,kd,m,h0,p,rfl,lU.same c (λ_ _ z=>z.same c) I,X,U,λH2 s2=>?_⟩;have hN:=aO3 v p;have lc:=G.len;rw[m8] at lc;have F:iD v p 1 0<L.length:=by lia
  obtain⟨c0,Y,pc,W,a6⟩:=cA G (b8 F);refine⟨cc,L,_,L[iD v p 1 0],rfl,rfl,(c.trans s2).aR O,bH (b8 F),pc,_,1,_,W,rfl,(c.trans s2).aR a6,at1 _ _ _,_,rfl,rfl,_,rfl,?_⟩;have e:decide (V.int c0.2=V.int a)=bZ t.hd m r a (.spans n h0 p):=by show _=decide ((((.non,h0)::p).map (·.2)).getD (iD (r.getD (plc t.hd n) .non) p 1 0) 0=a);rw[hg,j4,v7,Y];exact decide_eq_decide.mpr ⟨λz=>V.int.inj z,λz=>congrArg V.int z⟩
  rw[e];exact rr H2 s2
 have C:cG (cL K H7) (sel (λi=>bZ t.hd m (t.rows.getD i []) a t.pl) 0 us) (t.rows.filter λr=>bZ t.hd m r a t.pl):=by have eF:(t.rows.filter λr=>bZ t.hd m r a t.pl)=sel (λi=>bZ t.hd m (t.rows.getD i []) a t.pl) 0 t.rows:=(jV λi r J=>by rw[bDN,j4,J];rfl).symm;rw[eF];exact (aB8 k 0).imp λ_ _ r=>r.same (y.trans s7)
 have lF:=C.len;have lf:(t.rows.filter λr=>bZ t.hd m r a t.pl).length<=t.rows.length:=bAY _ _;have g:∀r∈t.rows,KdR (knds t.hd) r:=λr o=>fM (x.rows r o);refine⟨D7,_,_,knds t.hd,rfl,SqL.of g7,cP C,by lia,jP x.hd.1,λr o=>g r (List.mem_filter.mp o).1,λL8 H8 a2 a1 s8 g8 h8=>?_⟩;rw[oO g] at h8;exact q L8 H8 (none_of (y.trans s7) a1) (y.trans (s7.trans s8)) ⟨a2,g8,(gO h8).imp λ_ _ z=>z.same s8⟩
section
variable {X:Cx}{A0:Around}
def aYa (b:A0.units+64<cLine)(h:X.K=K:=by rfl)(a:X.A=A0:=by rfl):OpR X (compareOp .LtE) (bC4 K):=by subst h a;exact bAi b
def aXo (b:A0.units+64<cLine)(h:X.K=K:=by rfl)(a:X.A=A0:=by rfl):OpR X (compareOp .Gt) (bD4 K):=by subst h a;exact aUu b
end
def xK (h:∀r∈rs,KdR ks r):srt (srt rs)=srt rs:=(pN h (jR h).1.symm).symm
inductive xV (K:bF4)(vs:List V)(H:Hp)(Q:VK)(E_:XK):Prop
 |mk (M R:Addr) (vh vp vm:V) (t:Tb) (mq:Mv) (m:Int) (n:Str) (h0:Int) (cs:List (V × Int)) (_:vs=[.ref M]) (_:mL K H M vh vp R t vm) (_:mK K H vm mq) (_:iV m t) (_:t.pl=.spans n h0 cs) (_:∀L H',H L=none->Same H H'->bU K H' L ((srt t.rows).filter (fX t.hd n cs mq.num))->Q (.ref L) H')
def aAf (T:Txt w K mg)(pQ:Ok P w K mg base 1 "_law_spot" bQD (mH K))(pK:Ok P w K mg base 1 "_law_span" bQB (aDg K)):Ok P w K mg base 2 "_law_of_span" bQG (xV K):=by
 refine Ok.ofV T.aBx oY (by trivial) (λf a4 A O s H vs Q E hr h=>?_)
 obtain⟨M,R,vh,vp,vm,t,B,m,n,h0,x,rfl,⟨gM,hI,y,c⟩,⟨Y,vk,rfl,S,_⟩,g,o,q⟩:=h;rw[o] at y;obtain⟨b,vo,rfl,hb,U⟩:=y;obtain⟨us,gR,a2⟩:=id c;have j:=g.pl;rw[o] at j;obtain⟨a3,Z,W,a1,F⟩:=j;have l8:=g.hd.1.2.2;have a0:=g.few;have nd:=oY.nd;refine⟨_,(aB (jH (vv 0) (aO2 rfl (aX (cR 1) (aX (cR 2) (aX (cR 3) (aX (cR 4) eQ)))))) (aB (aY 5 (aV pQ (aH (vv 1) (va1 (aO aP (vv 2) aA))))) (aD (aJ (aL dU (by rfl) T.dX dB (va1 (cI (N:=["_law_row_here","_law_move","_law_placing","_law_spot_here"]) (by trivial) (eE (aC jY) rfl (by decide +kernel)) rfl (eO (vv 3)) (λcl k H' fp=>⟨(bJ (i:=0) (show (["_law_row_here","_law_move","_law_placing","_law_spot_here"]:List Str).Nodup from by decide +kernel) rfl (Or.inl rfl)),(lM (cZ dN (aV pK (aH (aO (bK (K:=K)) (vv 2) aA) (va1 (aO (bK (K:=K)) (vv 0) (vv 3))))) (aO (bK (K:=K)) (vv 1) aA))),(vv 0)⟩)))))))),?_⟩;refine⟨_,rfl,M,_,rfl,SqL.of gM,rfl,_,_,rfl,_,_,rfl,_,_,rfl,_,_,rfl,rfl,?_⟩;refine⟨_,rfl,_,rfl,b,_,1,_,rfl,rfl,hb,at1 _ _ _,vh,n,t.hd,Z,rfl,hI,by lia,W,λH1 p=>?_⟩;dsimp only[bO,aDz,aBs,rA,tCB,dI,List.set,tD];refine iW [none,some (.ref Y),some (.ref b),some (.int (plc t.hd n:Nat))] (aAz 4 2 5 (by decide +kernel) (by decide +kernel) (by decide +kernel) rfl rfl rfl rfl rfl rfl (by trivial) (by trivial) (by trivial)) ?_;refine⟨_,rfl,R,rfl,⟨_,SqL.of (p _ _ gR)⟩,rE (c.same p) (by lia) (fX t.hd n x B.num) rfl (λu r a H' R' l sm I rr=>?_) λD7 H7 a5 s7 D=>?_⟩
 ·obtain⟨ra,rfl,G⟩:=I;obtain⟨v,hv,hg,C⟩:=aKw (g.rows r a) W;have k:=p.trans sm;refine⟨_,rfl,b,_,2,_,rfl,rfl,k.aR hb,at2 _ _ _ _,_,rfl,_,rfl,ra,r,_,v,rfl,rfl,G,bH hv,vo,v,Z,m,h0,x,rfl,lU.same k (λ_ _ z=>z.same k) U,F,C,λH2 s2=>?_⟩;refine⟨_,rfl,Y,_,0,_,rfl,rfl,(k.trans s2).aR S,at0 _ _,rfl,_,rfl,?_⟩;have e:decide (V.int (iD v x 1 0:Nat)=V.int B.num)=fX t.hd n x B.num r:=by unfold fX;rw[hg];exact decide_eq_decide.mpr ⟨λz=>by have:=V.int.inj z;lia,λz=>by rw[z]⟩
  rw[e];exact rr H2 s2
 ·obtain⟨u7,g7,h7⟩:=D;have l7:=h7.len;have lf:=bAY (fX t.hd n x B.num) t.rows;have d:∀r∈t.rows,KdR (knds t.hd) r:=λr a=>fM (g.rows r a);refine⟨D7,u7,_,knds t.hd,rfl,SqL.of g7,cP h7,by lia,jP g.hd.1,λr a=>d r (List.mem_filter.mp a).1,λL8 H8 L J s8 g8 X=>?_⟩;rw[oO d] at X;exact q L8 H8 (none_of (p.trans s7) J) (p.trans (s7.trans s8)) ⟨L,g8,(gO X).imp λ_ _ z=>z.same s8⟩
inductive aDf (K:bF4)(vs:List V)(H:Hp)(Q:VK)(E_:XK):Prop
 |mk (M R:Addr) (vh vp vm:V) (t:Tb) (o:Option Mv) (m house:Int) (n:Str) (h0:Int) (cs:List (V × Int)) (_:vs=[.ref M,.int m,.int house]) (_:mL K H M vh vp R t vm) (_:MvV K H vm o) (_:iV m t) (_:t.pl=.spans n h0 cs) (_:(∀mq,o=some mq->mq.house≠jX mq.num h0 cs)) (_:(∀mq q,o=some mq->mq.mark=some q->gC t.hd q)) (_:∀L H',H L=none->Same H H'->bU K H' L (oM t.hd m house t.pl o n cs (srt t.rows))->Q (.ref L) H')
theorem aA8 (T:Txt w K mg)(oV:Ok P w K mg base 2 "_law_stood" n8 (yX K))(kO:Ok P w K mg base 2 "_law_of_span" bQG (xV K)):Ok P w K mg base 3 "_law_stands" n8 (aDf K):=by
 refine Ok.ofV T.aD2 pL (by trivial) (λf ad A a6 s H vs Q E hr h=>?_)
 obtain⟨M,R,vh,vp,vm,t,o,m,a,n,h0,x,rfl,hM,d,W,B,F,D,q⟩:=h;have a8:=W.few;have hU:=hr.units;have k:∀r∈t.rows,KdR (knds t.hd) r:=λr b=>fM (W.rows r b);have c:∀r∈srt t.rows,KdR (knds t.hd) r:=λr b=>k r (fC b);have ls:=nJ t.rows;have nd:=pL.nd;refine⟨_,(aB (aY 3 (aV oV (aH (vv 0) (aH (vv 1) (va1 (vv 2)))))) (aB (aY 4 (aO bA (vv 0) aA)) (aB (bM (VW.pt (aF0 (cZ vH (vv 4) fU) (aF0 (cZ dN (aO aP (vv 4) aA) (vv 2)) (aFx (cZ vH (aO (bK (K:=K)) (vv 4) aA) fU))))) (aD (aY 3 (bF pI (vv 3) (cI (N:=["_law_row_here","_law_move"]) (by trivial) (eE (aC lX) rfl (by decide +kernel)) rfl (eO (aV kO (va1 (vv 0)))) (λcl s' H' fp=>⟨(bJ (i:=0) (show (["_law_row_here","_law_move"]:List Str).Nodup from by decide +kernel) rfl (Or.inl rfl)),(lM (cZ (aYa (K:=K) hU) (vv 0) (aO (bK (K:=K)) (vv 1) aA))),(vv 0)⟩))))) aU) (aD (aJ (aL dU (by rfl) T.dX dB (va1 (vv 3)))))))),?_⟩;refine⟨_,rfl,_,rfl,_,rfl,M,R,vh,vp,vm,t,m,a,n,h0,x,rfl,hM,W,B,λL H1 hL C hR=>?_⟩;have U:=hM.same C;refine⟨_,rfl,M,_,3,_,rfl,rfl,SqL.of U.1,bH (j:=3) rfl,?_⟩;have v:∀Y L2 J,Same H1 Y->bU K Y L2 J->J.length<64->(∀r∈J,KdR (knds t.hd) r)->srt J=oM t.hd m a t.pl o n x (srt t.rows)->aMq K [.ref L2] Y Q:=λY L2 J S ⟨us,g,a0⟩ a9 a2 e=>⟨L2,us,J,knds t.hd,rfl,SqL.of g,cP a0,by have:=a0.len;lia,jP W.hd.1,a2,λL8 H8 a5 a4 s8 g8 h8=>q L8 H8 (none_of (C.trans S) a4) (C.trans (S.trans s8)) ⟨a5,g8,by rw[<-e];exact (gO h8).imp λ_ _ z=>z.same s8⟩⟩;have f1:=bAY (λr=>bZ t.hd m r a t.pl) (srt t.rows);have p:∀r∈(srt t.rows).filter λr=>bZ t.hd m r a t.pl,KdR (knds t.hd) r:=λr b=>c r (List.mem_filter.mp b).1;cases o with
 |none=>cases (show vm=.non from d);refine⟨_,rfl,rfl,_,rfl,dH rfl (bY ⟨_,rfl,v H1 L _ (Same.refl _) hR (by lia) p ?_⟩)⟩;show srt _=List.filter _ _;rw[oO c,xK k]
 |some mq=>
  have d:mK K H vm mq:=d;have F:=F mq rfl;have D:=λq=>D mq q rfl;obtain⟨X,vk,rfl,G,I⟩:=id d;refine⟨_,rfl,rfl,_,rfl,iY (by rw[v9 (λz=>by cases z)];rfl) ?_⟩;refine⟨_,rfl,X,_,1,_,rfl,rfl,C.aR G,at1 _ _ _,_,rfl,rfl,_,rfl,?_⟩;by_cases hh:mq.house=a
  ·refine iY (m9 (congrArg V.int hh)) ?_;have O:oM t.hd m a t.pl (some mq) n x (srt t.rows)=_:=if_pos hh;refine⟨_,rfl,X,_,2,_,rfl,rfl,C.aR G,at2 _ _ _ _,rfl,_,rfl,?_⟩;cases y:mq.mark with
   |none=>rw[y] at I O;have I:vk=.non:=I;subst I;refine dH rfl ⟨_,rfl,v H1 L _ (Same.refl _) hR (by lia) p ?_⟩;rw[O,show ((srt t.rows).filter λr=>nO none r && fX t.hd n x mq.num r)=[] from List.filter_eq_nil_iff.mpr λr _=>by show ¬ (false && _)=true;simp,bBB]
   |some r0=>
    rw[y] at I O;obtain⟨ka,rfl,a7⟩:=id I;refine iY (by rw[v9 (λz=>by cases z)];rfl) ?_;refine⟨_,rfl,?_⟩;refine iW [none,some (.ref X)] (jM 4 (by decide +kernel) rfl rfl (by trivial)) ?_;refine⟨_,rfl,M,R,vh,vp,.ref X,t,mq,m,n,h0,x,rfl,U,d.same C,W,B,λD2 Y ac S a1=>?_⟩;obtain⟨w2,g2,h2⟩:=id a1;have f2:=bAY (fX t.hd n x mq.num) (srt t.rows);refine⟨D2,rfl,⟨_,SqL.of g2⟩,rE a1 (by lia) (nO (some r0)) rfl (λu r b H' R' l sm a3 rr=>?_) λD3 H3 aa s3 Z=>?_⟩
    ·have s':=C.trans (S.trans sm);exact⟨_,rfl,_,rfl,X,_,2,_,rfl,rfl,s'.aR G,at2 _ _ _ _,knds t.hd,r,r0,a3,⟨ka,rfl,s'.aR a7⟩,c r (List.mem_filter.mp b).1,fM (D r0 y),_,rfl,rr H' (Same.refl _)⟩
    ·rw[bEP] at Z;obtain⟨u1,g1,h1⟩:=hR.same (S.trans s3);obtain⟨u3,g3,h3⟩:=Z;have l1:=h1.len;have l3:=h3.len;have f3:((srt t.rows).filter λr=>bZ t.hd m r a t.pl).length+((srt t.rows).filter λr=>nO (some r0) r && fX t.hd n x mq.num r).length<=(srt t.rows).length:=by rw[B];exact aFr (nO (some r0)) (srt t.rows) hh F
     refine⟨L,D3,u1,u3,rfl,rfl,g1,g3,small (by lia),λR4 H4 ab s4 g4=>?_⟩;refine⟨_,rfl,v H4 R4 _ (S.trans (s3.trans s4)) ⟨_,g4,cG.app (h1.imp λ_ _ z=>z.same s4) (h3.imp λ_ _ z=>z.same s4)⟩ (by rw[w6];lia) (λr b=>?_) O.symm⟩;rcases List.mem_append.mp b with z|z
     ·exact p r z
     ·exact c r (List.mem_filter.mp z).1
  ·refine dH (v9 λz=>hh (V.int.inj z)) (bY ⟨_,rfl,v H1 L _ (Same.refl _) hR (by lia) p ?_⟩);have O:oM t.hd m a t.pl (some mq) n x (srt t.rows)=_:=if_neg hh;rw[O,oO c,xK k]
def aPo (i j:Nat)(f:(y,NameKind.free)∈scope.names)(g:(z,NameKind.free)∈scope.names)(hi:X.N[i]?=some y)(k:X.N[j]?=some z)(d:σ[i]?=some (some u))(e:σ[j]?=some (some v))(c:Vis X.env.scope y)(h:Vis X.env.scope z):Cap X scope [x,y,z] σ [none,some u,some v]:=
 ⟨rfl,λn q r a b=>by
  match n,a,b with
  |0,_,b=>cases b
  |1,a,b=>cases a;cases b;exact⟨f,i,hi,d,c⟩
  |2,a,b=>cases a;cases b;exact⟨g,j,k,e,h⟩
  |n+3,a,_=>cases a⟩
def aT4 (e:((List.range n).map λi:Nat=>V.int (0+(i:Int)))[i]?=some x):i<n/\x=.int (0+(i:Int)):=by
 have a:i<n:=by have:=(List.getElem?_eq_some_iff.mp e).1;rw[j6,bAH] at this;exact this
 rw[v7,bCP a] at e;exact⟨a,(bAK e).symm⟩
def aJd (b:L2.St)(a:Cap X scope N σ b)(h:ta σ H λvs H1=>∃j:Int,vs=[.int j]/\-(2 ^ 62)<=j/\j<2 ^ 62/\pH (Itr 0 j.toNat) H1 b g tt te Q):jD X scope N (aTa ta) g tt te σ H Q:=⟨b,a,h⟩
theorem aOv {K:bF4}{H:Hp}{Pr:List V->Prop}:∀{ys:List V},(∀y∈ys,∃r,cL K H y r/\Pr r)->∃rs,cG (cL K H) ys rs/\∀r∈rs,Pr r
 |[],_=>⟨[],.nil,λr h=>by cases h⟩
 |y::ys,h=>by
  obtain⟨r,a,e⟩:=h y j0;obtain⟨rs,c,b⟩:=aOv λz d=>h z (j5 _ d);refine⟨r::rs,.cons a c,λx hx=>?_⟩;rcases List.mem_cons.mp hx with rfl|hx
  ·exact e
  ·exact b x hx
theorem aPz:∀{ys:List V},(∀y∈ys,cD k y)->∃ks:List Key,ys=ks.map kV/\∀x∈ks,cD k (kV x)
 |[],_=>⟨[],rfl,λx h=>by cases h⟩
 |y::ys,h=>by
  obtain⟨ks,e,b⟩:=aPz λz hz=>h z (j5 _ hz);have a:=h y j0;obtain⟨x,rfl⟩:∃x,y=kV x:=by
   cases a with
   |num=>exact⟨.inl _,rfl⟩
   |wrd _ _=>exact⟨.inr _,rfl⟩
  refine⟨x::ks,by rw[e];rfl,λz hz=>?_⟩;rcases List.mem_cons.mp hz with rfl|hz
  ·exact a
  ·exact b z hz
def aRj {k:Str}{ks:List Key}(h:∀x∈ks,cD k (kV x)):(∀x∈ks,∃n,x=Sum.inl n)\/∀x∈ks,∃n,x=Sum.inr n:=by
 by_cases d:k = "number"
 ·refine .inl λx b=>?_;cases x with
  |inl n=>exact⟨n,rfl⟩
  |inr n=>
   have:=h _ b;rw[d] at this;generalize a:kV (Sum.inr n)=v at this;generalize c:("number":Str)=k0 at this;cases this with
   |num=>cases a
   |wrd _ _=>exact absurd c (by decide)
 ·refine .inr λx b=>?_;cases x with
  |inr n=>exact⟨n,rfl⟩
  |inl n=>
   have:=h _ b;generalize a:kV (Sum.inl n)=v at this;cases this with
   |num=>exact absurd rfl d
   |wrd _ _=>cases a
def bAa (h:ltK a b):vlt (kV a) (kV b)=true:=by cases a <;> cases b <;> first|exact m9 h|exact absurd h id
def bE4 (J:It)(H:Hp)(σ:L2.St)(g:TG)(tb:TS)(D:Ends):Prop:=∃W:Nat->Nat->L2.St->Hp->Prop,(∃m,W 0 m σ H)/\∀i m σ H,W i m σ H ->
 (J.stop i H/\D.nx σ H)\/(J.go i H/\∃N:L2.St->Hp->Prop,(∀σ' H',N σ' H'->∃m',m'<m/\W (i+1) m' σ' H')/\∀x H',J.yld i H x H'->g x σ H' fun σ2 H2=>tb { D with nx:=N,ct:=N,bk:=D.nx } σ2 H2)
def aW3 (h:tl σ H λv H1=>∃a,v=.ref a/\(∃xs,SqL K H1 a xs)/\bE4 (Itl K a) H1 σ g tb D):bAy (aFh K tl) g tb D σ H:=h
inductive aLs (K:bF4)(C Pt:Addr)(vs:List V)(H:Hp)(Q:VK)(E_:XK):Prop
 |mk (a N:Addr) (ns:List Str) (_:vs=[.ref a,.ref N,.int 10]) (_:iG H a) (_:H N=some (.lst (ns.map V.str))) (_:N≠a) (_:wQ ns) (_:H Pt=some (.tab qC)) (_:∀(t x M R d dm:Addr) (m:Int) (vh vp:V) (tb:Tb) (e:En) (n:Str) (h0:Int) (cs:List (V × Int)) H',Fx a H H'->SqT K H' t [.ref x,.ref M,.int m]->mL K H' M vh vp R tb .non->bC K H' C x m d dm [e]->H' dm=some (.dK [])->some e.n=ns[0]?->e.t={ tb with rows:=srt tb.rows }->iV m tb->tb.rows.length<=10->tb.pl=.spans n h0 cs->2<=m->m<=4->H M=none->H R=none->H e.L=none->M≠R->e.L≠R->e.L≠M->Q (.ref t) H')
def rY (T:Txt w K mg){C Pt:Addr}(aN:Ok P w K mg base 1 "_law_next" n7 jK)(dr:Ok P w K mg base 2 "_law_head" ["_law_state","_law_names_here"] (aKe K))(oH:Ok P w K mg base 3 "_law_value" bQI aIb)(uI:Ok P w K mg base 4 "_law_row" bQA (aF3 K))(b9:OkC P w K mg base C 11 "Store" o8 (aKg K C Pt)):Ok P w K mg base 13 "_law_spans_begun" bQE (aLs K C Pt):=by
 refine Ok.ofV T.uP fH (by trivial) (λf df A cb s H vs Q E hr h=>?_)
 obtain⟨a,N,ns,rfl,hs,hN,nN,hn,aw,q⟩:=h;have hu:=pB hr;have dk:=hn.1;have c9:Pt≠a:=λz=>by obtain⟨_,e,_⟩:=hs;rw[z,e] at aw;cases aw
 have nd:=fH.nd;refine⟨_,(aB (aY 3 (bF dG aA (aV aN (aH (vv 0) (va1 aA))))) (aB (aY 4 (aV dr (aH (vv 0) (va1 (vv 1))))) (aB (jH (aO aP (vv 4) (aV aN (aH (vv 0) (va1 (aL aZ (by rfl) T.eV cW (va1 (vv 4))))))) (uJ rfl (aX (cR 5) (aX (cR 6) eQ)))) (aB (aY 7 (cY (va1 (cN (aH fU (va1 (aV aN (aH (vv 0) (va1 (vv 3)))))))))) (aB (iQ PassesOwn.never rfl (eO (aL (aHj rfl) (by rfl) T.dX dB (va1 (cC (aQv rfl) (by rfl) T.aPb aH1 (va1 (cI (N:=["_law_k","_law_state","_law_kind"]) (by trivial) (eE (aC dO) rfl (by decide +kernel)) rfl (fZ (by rfl) T.jO (va1 (aV aN (aH (vv 0) (va1 aA))))) (λcl s' n fp=>⟨(bJ (i:=0) (show (["_law_k","_law_state","_law_kind"]:List Str).Nodup from by decide +kernel) rfl (Or.inl rfl)),fW,(aV oH (aH (vv 1) (va1 (vv 2))))⟩))))))) (cR 8) (aD (dJ (tG PySem.F.plainAttrs_list PySem.F.slot_list_append PySem.F.type_list_append nH (vv 7) (va1 (cN (aH (vv 8) (va1 (aV aN (aH (vv 0) (va1 (vv 3)))))))))))) (aB (aY 9 (cN (aH bB (aH (vv 5) (va1 (cC lD (by rfl) T.gU eY (va1 (vv 7)))))))) (aB (aOg (i0:=10) fH.nd rfl (by trivial) (N:=["_law_k","_law_state","_law_head_here"]) (by trivial) (eE (aC dO) rfl (by decide +kernel)) rfl (fZ (by rfl) T.jO (va1 (aV aN (aH (vv 0) (va1 (bF dG (vv 2) aA)))))) (λcl s' n fp=>⟨(bJ (i:=0) (show (["_law_k","_law_state","_law_head_here"]:List Str).Nodup from by decide +kernel) rfl (Or.inl rfl)),fW,(aV uI (aH (vv 1) (va1 (vv 2))))⟩)) (aB (aY 11 (aP5 (b9.mono (by decide)) hr (by rfl) (aH (vv 3) (va1 (aYb (aUx (aO bA (vv 1) aA) (cN (aH (vv 4) (aH (vv 9) (va1 (vv 10))))) aX0) rfl rfl (by simp) (by decide)))))) (aD (aJ (cN (aH (vv 11) (aH (cY (aH (vv 4) (aH (vv 9) (aH (cC nA (by rfl) T.yE rJ (va1 (vv 10))) (va1 fU))))) (va1 (vv 3))))))))))))))),?_⟩;refine⟨_,rfl,a,3,rfl,hs,by decide,λz3 H1 f1 w0 w1=>⟨_,_,rfl,rfl,?_⟩⟩;obtain⟨m,em⟩:∃m:Int,m=2+z3:=⟨_,rfl⟩;show bO 3 (V.int (2+z3)) _ _ _;rw[<-em];have m2:2<=m:=by lia
 have m4:m<=4:=by lia
 refine⟨_,rfl,_,rfl,a,N,ns,rfl,f1.st,f1.same _ _ nN hN,nN,hn,λvh H2 hd f2 hI a0 _=>?_⟩;obtain⟨b,us,rfl,hb,bz⟩:=id hI;have lu:=bz.len;have l1:=a0.1.2.1;have l8:=a0.1.2.2;refine⟨_,rfl,_,rfl,_,rfl,b,us,rfl,.inr hb,a,_,rfl,f2.st,⟨by lia,by lia⟩,λz H3 f3 z0 z1=>?_⟩;obtain⟨zi,rfl⟩:∃zi:Nat,z=zi:=⟨z.toNat,by lia⟩;have hz:zi<us.length:=by lia
 obtain⟨c,hc,pc,cj,cg⟩:=cA bz (b8 hz);refine⟨b,us,_,.ref pc,rfl,rfl,f3.aR f2.st hb,bH (by rw[b8 hz,cj]),?_⟩;have bi:=t8 hc;have lk:=aSz a0.1.1 bi;obtain⟨cn,bm⟩:=a0.2 c bi;refine⟨pc,_,rfl,f3.aR f2.st cg,rfl,_,_,rfl,_,_,rfl,rfl,?_⟩;have c6:=f1.trans (f2.trans f3);refine⟨_,rfl,_,rfl,a,m,rfl,f3.st,⟨by lia,by lia⟩,λh0 H4 f4 ci cf=>?_⟩;refine⟨by show 2<=sizeLine;decide,λt1 H5 _ s5 g5=>⟨by show 1<=sizeLine;decide,λCc H6 hC s6 g6=>?_⟩⟩;have b1:=c6.trans f4;have ac:=(b1.sm s5).sm s6;have ae:Cc≠a:=(b1.sm s5).st.ne hC;have ch:H Cc=none:=b1.free (none_of s5 hC);dsimp only[bO,List.set];refine aW3 ?_;dsimp only[tCB,dI];refine aJd [none,some (.ref a),some (.str c.2)] (aPo 0 6 (by decide +kernel) (by decide +kernel) rfl rfl rfl rfl (by trivial) (by trivial)) ?_;refine⟨_,rfl,a,4,rfl,ac.st,by decide,λz H7 f7 de dd=>?_⟩;refine⟨z,rfl,by lia,by lia,?_⟩;refine aIv (Fx a) (aS0 f7.st) ((List.range z.toNat).map λi:Nat=>V.int (0+(i:Int))) (λ_=>true) (λ_ _ y=>cD c.2 y) (λ_ _ h=>h) (λ_ _ _ h=>h) (λi σ=>∃x,σ=[some x,some (.ref a),some (.str c.2)]) (fun σ=>∃l,σ=[l,some (.ref a),some (.str c.2)]) ⟨none,rfl⟩ (small (by rw[j6,bAH];lia)) (Itr 0 z.toNat) (λn i x _ ex=>?_) (λn _=>?_) (λi x σ' n Q' ex ps f' r=>?_) (λi x σ2 ex at2 n R f' r=>r n (Fx.refl f'.st)) (λi x σ2 ex at2 _ n R f' r=>?_) λL H8 ys f8 fL gL a8=>?_
 ·obtain⟨hi,rfl⟩:=aT4 ex;exact⟨hi,λy H2 hy=>hy⟩
 ·show z.toNat<=_;rw[j6,bAH];exact d8 _
 ·obtain⟨l,rfl⟩:=ps;exact r _ ⟨some x,rfl⟩ ⟨x,rfl⟩
 ·obtain⟨x',rfl⟩:=at2;exact⟨_,rfl,_,rfl,a,c.2,rfl,f'.st,bm,λv H2 f2 hv=>r v H2 f2 hv⟩
 rw[qN,j6,bAH] at a8;obtain⟨ly,hy⟩:=oR a8;have bf:=ac.trans (f7.trans f8);obtain⟨ks,rfl,c8⟩:=aPz (k:=c.2) (ys:=ys) λy hm=>by obtain⟨i,hi⟩:=List.mem_iff_getElem?.mp hm;exact hy i y hi
 rw[j6] at ly;have bp:=(f7.trans f8).same _ _ ae g6;refine⟨L,ks,rfl,SqL.of gL,by lia,λD dn kl dh a4 gD ay=>?_⟩;have bh:∀x∈kl,cD c.2 (kV x):=λx hx=>c8 x ((ay.2.1 x).mp hx);have dp:=ay.2.2;refine⟨D,kl,rfl,gD,by lia,ay.1,aRj bh,λB cp ad b5 ak gB ar pw=>?_⟩;have dq:=ar.length_eq;have br:=(bf.sm a4).sm ak;have bg:=ak _ _ (a4 _ _ bp);have c5:H B=none:=bf.free (none_of a4 b5);have ck:B≠a:=hs.ne c5;have c1:B≠Cc:=λz=>by rw[z,a4 _ _ bp] at b5;cases b5
 have cv:SqT K cp t1 [.non,.int h0]:=ak.aR (a4.aR ((f7.trans f8).aR ac.st (s6.aR (SqT.of g5))));refine⟨B,rfl,⟨_,SqL.of gB⟩,aK3 (xs:=ad.map kV) (λi σ n=>Fx a H n/\n B=some (.lst (ad.map kV))/\∃J X l,n Cc=some (.lst J)/\cG (fJ K n) J ((.non,h0)::X)/\X.map (·.1)=(ad.take i).map kV/\(∀x∈X,0<=x.2/\x.2<m)/\jG K n (.ref b) hd/\σ=[some (.ref a),some (.ref N),some (.int 10),some (.int m),some (.ref b),some (.str c.1),some (.str c.2),some (.ref Cc),l,none,none,none]) ⟨br,gB,_,[],none,bg,.cons ⟨t1,rfl,cv⟩ .nil,rfl,λx hx=>(by cases hx),?_,rfl⟩ (λi σ n _ p=>SqL.of p.2.1) (λi x σ n ex p=>?_) fun σ n p=>?_⟩
 ·have h1:jG K H4 (.ref b) hd:=hI.tk ((f3.trans f4).tk f2.st);have h2:jG K H8 (.ref b) hd:=((h1.same s5).same s6).tk ((f7.trans f8).tk ac.st);exact (h2.same a4).same ak
 ·obtain⟨fx,b6,J,X,l,a2,a9,U,ax,az,rfl⟩:=p;rw[v7] at ex;obtain⟨af,bo,rfl⟩:=Option.map_eq_some_iff.mp ex;have d1:=a9.len;have c2:X.length<=4:=by have:=congrArg List.length U;rw[j6,j6,bAI] at this;lia
  rw[m8] at d1;refine⟨_,rfl,.inl ⟨rfl,_,SqL.of a2⟩,_,rfl,_,rfl,_,rfl,a,m,rfl,fx.st,⟨by lia,by lia⟩,λhh c3 u c0 d0=>?_⟩;refine⟨by show 2<=sizeLine;decide,λt2 an ap S am=>?_⟩;have a6:=S _ _ (u.same _ _ ae a2);have be:=S _ _ (u.same _ _ ck b6);have cw:t2≠Cc:=λz=>by rw[z,u.same _ _ ae a2] at ap;cases ap
  refine⟨Cc,_,_,rfl,rfl,a6,mU (by lia),?_⟩;have kz:KP K (λb=>b≠Cc) an (L2.upd an Cc (.lst (J++[.ref t2]))):=.jA a6 λz=>z rfl;refine⟨((fx.trans u).sm S).upd ch ae,by rw[aK c1];exact be,J++[.ref t2],X++[(kV af,hh)],some (kV af),aF,?_,?_,λx hx=>?_,((az.tk (u.tk fx.st)).same S).tk kz.tk,rfl⟩
  ·rw[<-List.cons_append];exact (a9.imp λ_ _ ⟨p',ep,hp⟩=>⟨p',ep,(S.aR (u.aR fx.st hp)).jA a6⟩).app (.cons ⟨t2,rfl,SqT.of (by rw[aK cw];exact am)⟩ .nil)
  ·rw[bBF,U,bBP,bo,bBF];rfl
  ·rcases List.mem_append.mp hx with hx|hx
   ·exact ax x hx
   ·rw[bEM] at hx;subst hx;exact⟨c0,d0⟩
 ·obtain⟨fx,b6,J,X,l,a2,a9,U,ax,az,rfl⟩:=p;rw[j6,bCW] at U;have c2:X.length=ad.length:=by have:=congrArg List.length U;rw[j6,j6] at this;exact this
  refine⟨_,rfl,_,rfl,Cc,J,rfl,SqL.of a2,λt3 c3 _ cu bt=>⟨by show 3<=sizeLine;decide,λt4 an _ S am=>?_⟩⟩;have Y:=cu.trans S;have I:=fx.sm Y;have cx:oK K an (.ref t4) (.spans c.1 h0 X):=⟨t4,.ref t3,rfl,SqT.of am,t3,J,rfl,S.aR (SqT.of bt),a9.imp λ_ _ z=>z.same Y⟩;have bd:aW1 hd m (.spans c.1 h0 X):=⟨cn,c.2,lk,bm,⟨ci,cf⟩,λx hx=>⟨by have:x.1∈X.map (·.1):=bDC hx;rw[U] at this;obtain⟨af,cy,ct⟩:=List.mem_map.mp this;rw[<-ct];exact bh af (ar.mem_iff.mp cy),ax x hx⟩,by rw[U];exact List.pairwise_map.mpr (pw.imp λh=>bAa h),by lia⟩
  have aq:=az.same Y;clear a9 b6 a2 bt am;dsimp only[bO,aDz,aBs,List.set];refine aJd [none,some (.ref a),some (.ref b)] (aPo 0 4 (by decide +kernel) (by decide +kernel) rfl rfl rfl rfl (by trivial) (by trivial)) ?_;refine⟨_,rfl,_,rfl,_,_,rfl,rfl,a,_,rfl,I.st,(by show (0:Int)<10+1/\(10:Int)+1<2 ^ 64;decide),λy da O y0 y1=>?_⟩;have y1:y<10+1:=y1;refine⟨y,rfl,by lia,by lia,?_⟩;have bl:=aq.tk (O.tk (K:=K) I.st);refine aIv (Fx a) (aS0 O.st) ((List.range y.toNat).map λi:Nat=>V.int (0+(i:Int))) (λ_=>true) (λ_ n y=>∃r,cL K n y r/\gC hd r) (λf1 f2 ⟨r,⟨p,e,hp⟩,h⟩=>⟨r,⟨p,e,f2.aR f1.st hp⟩,h⟩) (λ_ _ gD ⟨r,⟨p,e,hp⟩,h⟩=>⟨r,⟨p,e,SqT.jA gD hp⟩,h⟩) (λi σ=>∃x,σ=[some x,some (.ref a),some (.ref b)]) (fun σ=>∃l,σ=[l,some (.ref a),some (.ref b)]) ⟨none,rfl⟩ (small (by rw[j6,bAH];lia)) (Itr 0 y.toNat) (λn i x _ ex=>?_) (λn _=>?_) (λi x σ' n Q' ex ps f' r=>?_) (λi x σ2 ex at2 n R f' r=>r n (Fx.refl f'.st)) (λi x σ2 ex at2 _ n R f' r=>?_) λa3 ab ys cz bv au a8=>?_
  ·obtain⟨hi,rfl⟩:=aT4 ex;exact⟨hi,λy H2 hy=>hy⟩
  ·show y.toNat<=_;rw[j6,bAH];exact d8 _
  ·obtain⟨l,rfl⟩:=ps;exact r _ ⟨some x,rfl⟩ ⟨x,rfl⟩
  ·obtain⟨x',rfl⟩:=at2;exact⟨_,rfl,_,rfl,a,.ref b,hd,rfl,f'.st,bl.tk (f'.tk O.st),a0,λt H2 r' f2 g2 hk=>r _ H2 f2 ⟨r',⟨t,rfl,SqT.of g2⟩,hk⟩⟩
  rw[qN,j6,bAH] at a8;obtain⟨d5,bk⟩:=oR a8;obtain⟨o,aa,cm⟩:=aOv (ys:=ys) λy hm=>by obtain⟨i,hi⟩:=List.mem_iff_getElem?.mp hm;exact bk i y hi
  have d3:=aa.len;have a7:=O.trans cz;have Z:=I.trans a7;have cr:H a3=none:=I.free (O.free bv);have dc:a3≠a:=hs.ne cr;have as:=a7.tk (K:=K) I.st;have ao:=aq.tk as;have a5:=cx.tk as;have bc:=Z.same _ _ nN hN;obtain⟨n0,b4⟩:∃n0,ns[0]?=some n0:=⟨_,b8 (by lia)⟩;refine⟨_,rfl,λp hp=>?_⟩;have sp:Same ab (L2.upd ab p (.dK [])):=aW hp _;have gp:L2.upd ab p (.dK []) p=some (.dK []):=aF;generalize L2.upd ab p (.dK [])=H16 at sp gp ⊢;refine⟨_,rfl,N,_,0,.str n0,rfl,rfl,SqL.of (sp _ _ bc),bH (j:=0) (by rw[v7,b4];rfl),_,rfl,_,rfl,_,rfl,by show 3<=sizeLine;decide,λg W d6 al b2=>?_⟩;refine⟨al _ _ gp,[(Sum.inr n0,.ref g)],rfl,by show 1<=15;decide,?_⟩;have em:mC [] [((Sum.inr n0:Key),V.ref g)]=[(Sum.inr n0,.ref g)]:=rfl;rw[em];obtain⟨e0,aj⟩:∃e0:En,e0=⟨n0,.ref g,.ref b,.ref t4,a3,⟨hd,.spans c.1 h0 X,o⟩⟩:=⟨_,rfl⟩;have b3:=sp.trans al;have bw:iV m ⟨hd,.spans c.1 h0 X,o⟩:=⟨a0,bd,by show o.length<=60;lia,cm⟩;have d4:eU W p:=eU.dK (al _ _ gp);have bn:But p W (L2.upd W p (.dK [(Sum.inr n0,.ref g)])):=But.upd;have bs:L2.upd W p (.dK [(Sum.inr n0,.ref g)]) p=some (.dK [(Sum.inr n0,.ref g)]):=aF;have d:Same ab (L2.upd W p (.dK [(Sum.inr n0,.ref g)])):=gG hp b3;have av:L2.upd W p (.dK [(Sum.inr n0,.ref g)]) g=some (.tup [.ref b,.ref t4,.ref a3]):=bn _ _ (λz=>by rw[z,al _ _ gp] at b2;cases b2) b2;generalize L2.upd W p (.dK [(Sum.inr n0,.ref g)])=H18 at bn bs d av ⊢;have ba:bU K H18 a3 o:=⟨ys,d _ _ au,aa.imp λ_ _ z=>z.same d⟩;have bb:lA K H18 p [e0]:=by
   rw[aj];refine⟨bs,List.nodup_cons.mpr ⟨(λh=>by cases h),List.nodup_nil⟩,by show 1<=60;decide,λy hy=>?_,λy hy=>?_⟩
   ·rw[List.mem_singleton.mp hy];exact hn.2.1 _ (t8 b4)
   ·rw[List.mem_singleton.mp hy];exact⟨g,rfl,SqT.of av,ao.same d,a5.same d,ba⟩
  have bx:H18 Pt=some (.tab qC):=d _ _ (Z.same _ _ c9 aw);intro x dx bq bu db;refine⟨H18,x,dx,p,m,[e0],rfl,aF,bq,gG bq (aW bu _),by lia,by lia,bb,λy hy=>by rw[List.mem_singleton.mp hy,aj];exact bw,bx,λd' dm ca cd ds di ai hS ce a1=>⟨rfl,?_⟩⟩;obtain⟨v',L',rfl,cq⟩:∃v' L',cd=[aCg e0 v' L']/\H18 L'=none:=by
   cases a1 with
   |cons r t=>cases t;obtain⟨v',L',e1,e2⟩:=r;exact⟨v',L',by rw[e1],e2⟩
  refine⟨_,rfl,_,rfl,_,rfl,_,rfl,a3,ys,rfl,.inl (SqL.of (ai _ _ (d _ _ au))),λR dg hR ah gR=>?_⟩;refine⟨by show 4<=sizeLine;decide,λM dl hM b0 gM=>?_⟩;refine⟨_,rfl,by show 3<=sizeLine;decide,λd2 co _ ag cc=>?_⟩;have G:=d.trans (ai.trans (ah.trans (b0.trans ag)));have sb:=ah.trans (b0.trans ag);have fr:∀{b},H18 b=none->H b=none:=λh=>Z.free (none_of d h);have c4:∃us,ca L'=some (.lst us):=by obtain⟨_,_,_,_,_,⟨us,h3,_⟩⟩:=hS.ens.tb _ j0;exact⟨us,h3⟩
  obtain⟨dj,bj⟩:=c4;refine q d2 x M R d' dm m (.ref b) (.ref t4) ⟨hd,.spans c.1 h0 X,o⟩ (aCg e0 v' L') c.1 h0 X co (Z.sm G) (SqT.of cc) ⟨ag _ _ gM,ao.same G,a5.same G,ys,ag _ _ (b0 _ _ gR),aa.imp λ_ _ z=>z.same G⟩ (hS.same sb) (sb _ _ ce) (by rw[aj];exact b4.symm) (by rw[aj];rfl) bw (by show o.length<=10;lia) rfl m2 m4 (fr (none_of (ai.trans ah) hM)) (fr (none_of ai hR)) (fr cq) ?_ ?_ ?_
  ·exact λz=>by rw[z,gR] at hM;cases hM
  ·exact λz=>by have z:L'=R:=z;rw[<-z,bj] at hR;cases hR
  ·exact λz=>by have z:L'=M:=z;rw[<-z,ah _ _ bj] at hM;cases hM
end
end My
namespace PySem
section
variable {prog:Program}{w:World}{κ:Type}[DecidableEq κ]{knd:KeyKind prog w κ}{A:Around}{E:bF5}{s:Shared}
open PySem.Spec PySem.Calls PyProof.Rows L2
end
end PySem
namespace L2
open PySem PySem.Spec PyProof.Rows
section
variable {X:Cx}
end
section
variable {P:Program}{w:World}
open AutoSeq1 (wpAny_loadPart')
open MeetsSeq MeetsSeq2 MeetsSeq3
end
section
variable {X:Cx}{bF8:bF6}{σ:L2.St}{H:Hp}{s:Shared}
end
end L2
namespace PySem
namespace LR
end LR
section
variable {prog:Program}{w:World}{A:Around}{E:bF5}{s:Shared}
open PySem.Calls PyProof.Rows
end
end PySem
namespace L2
open PySem PySem.Spec PyProof.Rows
section
variable {X:Cx}
def bB1 (K:bF4):R2:=λx y H Q=>∃a b us,x=.ref a/\y=.ref b/\SqL K H a us/\SqL K H b []/\Q (.bl (!us.isEmpty)) H
theorem aCn (hu':X.A.units+64<cLine):OpR X (compareOp .NotEq) (bB1 X.K):=by
 intro l s σ H x y v u Q I o z h;have f:X.A.units<cLine:=by lia
 obtain⟨a,b,B,rfl,rfl,p,w,q⟩:=h;cases o;cases z;obtain⟨k,m,d,D⟩:=I.list p;obtain⟨n,i,c,C⟩:=I.list w;cases i;cases m with
 |nil=>refine SeqAt.RcNeAt.lists (e:=λ_=>true) d.isList c.isList rfl f (λj g E=>by simp at g) _ _ _ _ ?_;exact⟨.bl _,H,I,rfl,q⟩
 |cons r t=>exact SeqAt.RcNeAt.lists_lengths d.isList c.isList (by simp) f _ _ _ _ ⟨.bl _,H,I,rfl,q⟩
def bC2:V->List V->Hp->VK->Prop:=λx vs H Q=>∃d kvs k v,x=.ref d/\vs=[kV k]/\H d=some (.dK kvs)/\nC kvs k=some v/\Q v (upd H d (.dK (zW kvs k)))
def aXw:MtR X "dict.pop" bC2:=by intro f s σ H x n v m Q I g j h;obtain⟨d,c,k,y,rfl,rfl,hd,e,q⟩:=h;cases g;obtain⟨u,rfl,b⟩:=vals1 j;exact bEg I hd b e (.inl rfl) λo l i a=>⟨y,_,i,a,q⟩
end
end L2
namespace My
open PySem PySem.Spec PyProof.Rows L2
section
variable {P:Program}{w:World}{K:bF4}{mg:bF7}{base:Heap}
def hinit (T:Txt w K mg)(fI:Addr):∀X,X.N=(["self","act"]:List Str)->X.env.scope=aC lZ->X.mg=mg->VSs X (cX lZ) (aDz (aIn (tVI X.K fI (dI (rP 0) (dI (rP 1) aAj)))) (aVy X.K fI (rP 0) (rP 1))):=by
 intro X d b f;have e:∀{a:Pos},VE X (.Name "self" a) (rP 0):=λ{a}=>vv 0 (by rw[d];rfl) (by left;rw[b];rfl);have c:∀{a:Pos},VE X (.Name "act" a) (rP 1):=λ{a}=>vv 1 (by rw[d];rfl) (by left;rw[b];rfl);have g:Gl X "ValueError":=by show X.env.scope.names.lookup _=_;rw[b];rfl
 exact aB ⟨aP0 (aUv (fI:=fI) g (by rw[f];exact T.aGr) (bBs e.1 (bBs c.1 aTd)))⟩ (aD ⟨bCv e.1 c.1⟩)
inductive aEn (K:bF4)(vs:List V)(H:Hp)(Q:VK)(E_:XK):Prop
 |mk (v vh vp vc:V) (L:Addr) (t:Tb) (n:Str) (h0 k0:Int) (cs ks:List (V × Int)) (_:vs=[v,vc]) (_:lB K H v vh vp L t) (_:t.pl=.spans n h0 cs) (_:lU K H (fJ K H) vc ((.non,k0)::ks)) (_:∀v' vp' H',Same H H'->lB K H' v' vh vp' L { t with pl:=.spans n k0 ks }->Q v' H')
def aG7 (T:Txt w K mg):Ok P w K mg base 1 "with_cuts" ["table","cuts"] (aEn K):=by
 refine Ok.ofV T.aKa aGm (by trivial) (λf I A e s H vs Q E hr h=>?_)
 obtain⟨v,vh,Z,G,L,t,n,h0,U,V,X,rfl,⟨a,rfl,i,o,k,J⟩,g,O,q⟩:=h;rw[g] at k;obtain⟨b,F,rfl,R,_⟩:=k;refine⟨_,(aD (aJ (cN (aH (aO aP (vv 0) aA) (aH (bF wJ (dC aAu (aO aP (vv 0) aA) fB (dW aA)) (cN (va1 (vv 1)))) (va1 (aO aP (vv 0) aA))))))),?_⟩;refine⟨_,rfl,a,_,0,_,rfl,rfl,i,at0 _ _,_,rfl,a,_,1,_,rfl,rfl,i,at1 _ _ _,?_⟩;refine⟨_,rfl,b,_,rfl,R,by show ¬ (HT.sIx 3 0 none=0/\HT.sIx 3 3 (some 2)=3);decide,λp S M l=>?_⟩;rw[show mZ [.str "spans",.str n,F] none (some 2)=[.str "spans",.str n] from oJ _ 2] at l;refine⟨_,rfl,by show 1<=sizeLine;decide,λC Y _ j y=>?_⟩;refine⟨p,C,_,_,rfl,rfl,SqT.of (j _ _ l),SqT.of y,by show 3<=sizeLine;decide,λr W D x=>?_⟩;have d:=M.trans (j.trans D);refine⟨_,rfl,a,_,2,_,rfl,rfl,d.aR i,at2 _ _ _ _,by show 3<=sizeLine;decide,λu N _ m B=>?_⟩;have c:=d.trans m;exact q _ (.ref r) N c ⟨u,rfl,SqT.of B,o.same c,⟨r,G,rfl,m.aR x,O.same c λ_ _ z=>z.same c⟩,J.same c⟩
def bEi (ho:Int):List (V × Int)->Nat->List (V × Int)
 |[],_=>[]
 |c::cs,0=>(c.1,ho)::cs
 |c::cs,k+1=>c::bEi ho cs k
abbrev aD6 (ho:Int)(k:Nat)(cs:List (V × Int)):List (V × Int):=bEi ho cs k
def rQ:Nat->Int->Int->Int
 |0,ho,_=>ho
 |_+1,_,h0=>h0
def rR:Nat->Int->List (V × Int)->List (V × Int)
 |0,_,cs=>cs
 |k+1,ho,cs=>aD6 ho k cs
def bDm (num:Nat)(ho h0:Int)(cs:List (V × Int)):aD6 ho num ((V.non,h0)::cs)=(V.non,rQ num ho h0)::rR num ho cs:=by cases num <;> rfl
theorem aB4:∀k cs,(aD6 ho k cs).map (·.1)=cs.map (·.1)
 |_,[]=>rfl
 |0,_::_=>rfl
 |k+1,c::cs=>by show c.1::(aD6 ho k cs).map (·.1)=_;rw[aB4 k cs];rfl
theorem aIo:∀{k:Nat} {cs:List (V × Int)},c∈aD6 ho k cs->∃c0∈cs,c.1=c0.1/\(c.2=c0.2\/c.2=ho)
 |_,[],h=>by cases h
 |0,c0::cs,h=>by
  rcases List.mem_cons.mp h with rfl|h
  ·exact⟨c0,j0,rfl,.inr rfl⟩
  ·exact⟨c,j5 _ h,rfl,.inl rfl⟩
 |k+1,c0::cs,h=>by
  rcases List.mem_cons.mp h with rfl|h
  ·exact⟨c,j0,rfl,.inl rfl⟩
  ·obtain⟨d,a,b⟩:=aIo h;exact⟨d,j5 _ a,b⟩
theorem aOs (num:Nat)(h:yI kd m h0 cs)(i:0<=ho)(e:ho<m):yI kd m (rQ num ho h0) (rR num ho cs):=by
 cases num with
 |zero=>exact⟨⟨i,e⟩,h.each,h.up,h.few⟩
 |succ k=>
  refine⟨h.first,λc d=>?_,?_,?_⟩
  ·obtain⟨g,a,f,e2⟩:=aIo (k:=k) d;obtain⟨b,l,j⟩:=h.each g a;rw[f];rcases e2 with e2|e2 <;> rw[e2]
   ·exact⟨b,l,j⟩
   ·exact⟨b,i,e⟩
  ·show ((aD6 ho k cs).map (·.1)).Pairwise _;rw[aB4];exact h.up
  ·have:=congrArg List.length (aB4 (ho:=ho) k cs);rw[j6,j6] at this;show (aD6 ho k cs).length<=7;rw[this];exact h.few
theorem aRr {R:V->V × Int->Prop}{ho:Int}{u:V}{us:List V}{cs:List (V × Int)}(h:cG R us cs):∀{k:Nat},(∀c,cs[k]?=some c->R u (c.1,ho))->cG R (us.set k u) (aD6 ho k cs):=by
 induction h with
 |nil=>intro k _;exact .nil
 |cons r h ih=>
  intro k a;cases k with
  |zero=>exact .cons (a _ rfl) h
  |succ k=>exact .cons r (ih λc b=>a c b)
inductive aFq (K:bF4)(C CN:Addr)(vs:List V)(H:Hp)(Q:VK)(E:XK):Prop
 |mk (x d dm:Addr) (m:Int) (e:En) (mq:Mv) (n:Str) (h0:Int) (cs:List (V × Int)) (_:vs=[.ref x,.str e.n]) (_:bC K H C x m d dm [e]) (_:e.t.pl=.spans n h0 cs) (_:MvD K H dm e.n (some mq)) (_:(∀q,mq.mark=some q->gC e.t.hd q)) (_:mq.num<=cs.length) (_:0<=mq.house) (_:mq.house<m) (_:(fY e.t n cs mq.num mq.mark=[]->∀v vp H',KP K (λb=>b≠d/\b≠dm) H H'->bC K H' C x m d dm [{ e with v:=v,vp:=vp,t:={ e.t with pl:=.spans n (rQ mq.num mq.house h0) (rR mq.num mq.house cs) } }]->MvD K H' dm e.n none->Q .non H')) (_:(fY e.t n cs mq.num mq.mark≠[]->∀a H',Same H H'->E (.ref CN) (some a) H'))
def aL2 (T:Txt w K mg){C CN S:Addr}(R:ExT K mg lZ "NotYet" "ShardError.__init__" CN S)(c:Cls K C)(D:eG K C "settle" "Store.settle" kY ["self","name"])(n1:bL K C "placed")(n3:bL K C "moves")(j:OkM P w K mg base C 4 "cut_table" n6 (aAx K C))(o:OkM P w K mg base C 1 "move_of" n6 (xY K C))(i:OkM P w K mg base C 4 "rows_to_come" n6 (aM4 K C))(ax:Ok P w K mg base 1 "with_cuts" ["table","cuts"] (aEn K)):aHh P w K mg base C 6 "settle" n6 (aFq K C CN):=by
 refine aHh.ofV c D oW (by trivial) (λf av A ao s H vs Q E hr h=>?_)
 obtain⟨x,d,M,m,e,mq,n,U,u,rfl,r,q,ag,am,G,b0,b1,qT,qF⟩:=h;have hu:=pB hr;have hinit:=λ{fI:Addr}=>hinit T fI;have nd:=oW.nd;refine⟨_,(aB (aY 2 (iB j (vv 0) (va1 (vv 1)))) (aB (aY 3 (iB o (vv 0) (va1 (vv 1)))) (aB (bM (aJk (iB i (vv 0) (va1 (vv 1)))) (aD (aTv R (λfI fd F=>aWw (k:=0) F aXu hinit) (hr.mono (by decide)) aQ8 rfl (by rfl) (va1 fU))) aU) (aB (aY 4 (aO aP (vv 3) aA)) (aB (aY 5 (cC nA (by rfl) T.yE rJ (va1 (aO aP (aO aP (vv 2) aA) aA)))) (aB (jH (cN (aH (aO aP (aO bA (vv 5) (vv 4)) aA) (va1 (aO aP (vv 3) aA)))) (xX (vv 5) (vv 4) set_list)) (aB (vV hu (cT (K:=K) (vv 0)) (vv 1) (aV ax (aH (vv 2) (va1 (cC lD (by rfl) T.gU eY (va1 (vv 5))))))) (aD (dJ (tG PySem.F.plainAttrs_dict PySem.F.slot_dict_pop PySem.F.type_dict_pop aXw (cT (K:=K) (vv 0)) (va1 (vv 1)))))))))))),?_⟩;obtain⟨dx,hx⟩:=r.at_;have he:e∈[e]:=j0;have ok:=r.ok e he;have a6:=ok.pl;rw[q] at a6;obtain⟨ah,k',ae,af,ad⟩:=a6;refine⟨_,rfl,x,dx,_,rfl,hx,rfl,_,rfl,x,d,M,m,_,e,n,U,u,rfl,r,he,q,λH1 Y=>?_⟩;have Z:=ag.same Y;obtain⟨v,hv,gm⟩:=id Z;have gm:H1 M=some (.dK [(Sum.inr e.n,v)]):=gm;have hv:mK K H1 v mq:=hv;refine⟨_,rfl,x,dx,_,rfl,Y _ _ hx,rfl,_,rfl,x,d,M,m,_,e.n,v,rfl,r.same Y,gm,?_⟩;refine⟨_,rfl,x,dx,_,rfl,Y _ _ hx,rfl,_,rfl,x,d,M,m,_,e,mq,n,U,u,rfl,r.same Y,he,Z,q,am,λW2 H2 ay s2 ar=>?_⟩;obtain⟨ab,g2,y⟩:=ar;have N:=Y.trans s2;by_cases hW:fY e.t n u mq.num mq.mark=[]
 ·have e2:ab=[]:=bAZ (y.len.trans (congrArg List.length hW));subst e2;refine⟨_,.inl ⟨_,SqL.of g2,rfl⟩,dH rfl ?_⟩;obtain⟨num,g,au⟩:=mq;obtain⟨a0,vm,rfl,a4,hm⟩:=hv;obtain⟨a,ev,ha,h1,h2,h3⟩:=(r.ens.tb e he).same N;rw[q] at h2;obtain⟨b,vo,eb,hb,⟨cc,B,rfl,aj,O⟩⟩:=h2;have lu:=O.len;rw[m8] at lu;have G:num<=u.length:=G;have aa:num<B.length:=by lia
  obtain⟨c0,al,pc,ac,aq⟩:=cA O (b8 aa);refine⟨_,rfl,a0,_,0,_,rfl,rfl,s2.aR a4,at0 _ _,?_⟩;refine⟨_,rfl,a,_,1,_,ev,rfl,ha,at1 _ _ _,b,_,2,_,eb,rfl,hb,at2 _ _ _ _,cc,_,rfl,.inr aj,λl H3 hl s3 g3=>?_⟩;refine⟨_,rfl,_,rfl,l,_,_,B[num],rfl,rfl,SqL.of g3,bH (b8 aa),pc,_,0,_,ac,rfl,s3.aR aq,at0 _ _,_,rfl,a0,_,1,_,rfl,rfl,(s2.trans s3).aR a4,at1 _ _ _,by show 2<=sizeLine;decide,λJ H4 _ s4 g4=>?_⟩;have a5:=s4 _ _ g3;refine⟨_,rfl,_,rfl,l,_,_,num,rfl,rfl,a5,by show ixN B.length (num:Int)=some num;unfold ixN;rw[if_pos (by lia),if_pos (by lia)];rfl,?_⟩;have a9:Same H2 (_root_.L2.upd H4 l (.lst (B.set num (.ref J)))):=gG hl (s3.trans s4);have g5:_root_.L2.upd H4 l (.lst (B.set num (.ref J))) l=some (.lst (B.set num (.ref J))):=aF;have a2:SqT K (_root_.L2.upd H4 l (.lst (B.set num (.ref J)))) J [c0.1,.int g]:=SqT.jA a5 (SqT.of g4);generalize _root_.L2.upd H4 l (.lst (B.set num (.ref J)))=H5 at a9 g5 a2 ⊢;refine⟨_,rfl,_,rfl,l,_,rfl,SqL.of g5,λp6 H6 _ s6 g6=>?_⟩;have V:=a9.trans s6;have a7:=N.trans V;have a8:lU K H6 (fJ K H6) (.ref p6) ((.non,rQ num g U)::rR num g u):=⟨p6,_,rfl,SqT.of g6,by rw[<-bDm];refine aRr (O.imp λ_ _ z=>z.same V) λc1 a3=>?_;rw[al] at a3;cases a3;exact⟨J,rfl,s6.aR a2⟩⟩
  refine⟨e.v,e.vh,e.vp,.ref p6,e.L,e.t,n,U,rQ num g U,u,rR num g u,rfl,(r.ens.tb e he).same a7,q,a8,λv' a1 H7 s7 hT=>?_⟩;have W:=a7.trans s7;have I:=r.same W;have an:iV m { e.t with pl:=.spans n (rQ num g U) (rR num g u) }:=⟨ok.hd,⟨ah,k',ae,af,aOs num ad b0 b1⟩,ok.few,ok.rows⟩;obtain⟨e',X⟩:∃e':En,e'={ e with v:=v',vp:=a1,t:={ e.t with pl:=.spans n (rQ num g U) (rR num g u) } }:=⟨_,rfl⟩;obtain⟨k1,k2⟩:=bC.put (l1:=[]) (l2:=[]) (e':=e') I (by rw[X]) (by rw[X];exact hT) (by rw[X];exact an);have as:=I.ens.few;refine⟨_,rfl,x,C,dx,_,_,rfl,W _ _ hx,c,n1,rfl,_,rfl,d,_,rfl,aHm.k (k:=Sum.inr e.n) I.ens.at_ (by rw[vB];exact jT (by lia)),?_⟩;have ek:putK (enK [e]) (Sum.inr e.n) v'=enK [e']:=by have:=aGz (l1:=[]) (l2:=[]) (e':=e') r.ens.nd (by rw[X]);rw[X] at this ⊢;exact this
  rw[ek];have ai:=s2.trans (V.trans s7);have p:=k1.st _ _ (Ne.symm r.ne) (ai _ _ gm);have k1:KP K (λb=>b≠d) H7 (_root_.L2.upd H7 d (.dK (enK [e']))):=k1;have k2:bC K (_root_.L2.upd H7 d (.dK (enK [e']))) C x m d M [e']:=k2;have p:_root_.L2.upd H7 d (.dK (enK [e'])) M=some (.dK [(Sum.inr e.n,.ref a0)]):=p;generalize _root_.L2.upd H7 d (.dK (enK [e']))=H8 at k1 k2 p ⊢;obtain⟨ak,ap⟩:=k2.at_;obtain⟨k3,k4⟩:=k2.mv (kvs':=zW [(Sum.inr e.n,.ref a0)] (Sum.inr e.n)) p;refine⟨_,rfl,x,C,ak,_,_,rfl,ap,c,n3,rfl,.inr (.inr (.inl ⟨rfl,.inl ⟨_,p⟩⟩)),_,rfl,M,_,Sum.inr e.n,_,rfl,rfl,p,mV rfl,?_⟩;rw[X] at k4;exact qT hW v' a1 _ (((KP.same W).trans (k1.mono λb z=>z.1)).trans (k3.mono λb z=>z.2)) k4 ⟨.non,rfl,by rw[aF];show some (HO.dK (zW _ _))=_;simp[zW]⟩
 ·refine⟨_,.inl ⟨_,SqL.of g2,rfl⟩,iY ?_ ⟨rfl,λa aw n1 n2 ne=>qF hW a _ (N.trans (aW n2 _))⟩⟩;cases ab with
  |nil=>exact absurd (bAZ y.len.symm) hW
  |cons _ _=>rfl
def aLn (h:cD kd v):iZ v=true:=by cases h <;> rfl
theorem aRt (d:∀c∈cs,iZ c.1=true)(h:cG (fJ K H) us cs)(h':cG (fJ K H) ws cs):Al2 (DEq K H 39) us ws:=by
 induction h generalizing ws with
 |nil=>cases h';exact .nil
 |cons r _ ih=>
  cases h' with
  |cons r' t'=>obtain⟨p,rfl,b⟩:=r;obtain⟨f,rfl,a⟩:=r';exact .cons (.inr ⟨p,f,_,_,rfl,rfl,b,a,.cons (.inl ⟨d _ j0,rfl⟩) (.cons (.inl ⟨rfl,rfl⟩) .nil)⟩) (ih (λc e=>d c (j5 _ e)) t')
def aYj (h:oK K H v (.spans n h0 cs))(h':oK K H v' (.spans n h0 cs))(r:yI kd m h0 cs):∃a b xs ys,v=.ref a/\v'=.ref b/\SqT K H a xs/\SqT K H b ys/\Al2 (DEq K H 40) xs ys:=by
 obtain⟨a,q,rfl,k,⟨c,e,rfl,i,l⟩⟩:=h;obtain⟨b,p,rfl,o,⟨g,j,rfl,d,f⟩⟩:=h';refine⟨a,b,_,_,rfl,rfl,k,o,.cons (.inl ⟨rfl,rfl⟩) (.cons (.inl ⟨rfl,rfl⟩) (.cons (.inr ⟨c,g,e,j,rfl,rfl,i,d,aRt (λx hx=>?_) l f⟩) .nil))⟩;rcases List.mem_cons.mp hx with rfl|hx
 ·rfl
 ·exact aLn (r.each x hx).1
def aOw (h:iG H a)(k:∀o,H a=some o->H' a=some o):iG H' a:=by obtain⟨s,e,r⟩:=h;exact⟨s,k _ e,r⟩
theorem bCx {H:Hp}{hd:Hdr}{v v':V}{m:Mv}(h:mK K H v m)(h':mK K H v' m)(o:∀q,m.mark=some q->gC hd q):∃a b xs ys,v=.ref a/\v'=.ref b/\SqT K H a xs/\SqT K H b ys/\Al2 (DEq K H 40) xs ys:=by
 obtain⟨a,u,rfl,k,d⟩:=h;obtain⟨b,n,rfl,l,c⟩:=h';refine⟨a,b,_,_,rfl,rfl,k,l,.cons (.inl ⟨rfl,rfl⟩) (.cons (.inl ⟨rfl,rfl⟩) (.cons ?_ .nil))⟩;cases e:m.mark with
 |none=>rw[e] at d c;cases d;cases c;exact .inl ⟨rfl,rfl⟩
 |some r=>rw[e] at d c;obtain⟨p,rfl,j⟩:=d;obtain⟨i,rfl,f⟩:=c;exact .inr ⟨p,i,r,r,rfl,rfl,j,f,aF2 (λx g=>aVm (fM (o r e)) x g) 39⟩
theorem MvV.tk (k:∀p xs,SqT K H p xs->SqT K H' p xs)(h:MvV K H v o):MvV K H' v o:=by
 cases o with
 |none=>exact h
 |some q=>exact mK.tk k h
def MvV.same (s:Same H H')(h:MvV K H v o):MvV K H' v o:=h.tk λ_ _=>s.aR
structure Sy (K:bF4)(H:Hp)(C x:Addr)(m:Int)(d dm M R:Addr)(e:En)(vh vp vm:V)(t:Tb)(n:Str)(h0:Int)(cs:List (V × Int))(o:Option Mv):Prop where
 st:bC K H C x m d dm [e]
 md:mL K H M vh vp R t vm
 mv:MvD K H dm e.n o
 vm:MvV K H vm o
 et:e.t={ t with rows:=srt t.rows }
 ok:iV m t
 pl:t.pl=.spans n h0 cs
 mk_:∀mq q,o=some mq->mq.mark=some q->gC t.hd q
 hn:∀mq,o=some mq->mq.house≠jX mq.num h0 cs/\mq.num<=cs.length/\0<=mq.house/\mq.house<m
 m2:2<=m
 m4:m<=4
 n1:M≠R
 n2:e.L≠R
 n3:e.L≠M
theorem Sy.same {H H':Hp}{C x d dm M R:Addr}{m:Int}{e:En}{vh vp vm:V}{t:Tb}{n:Str}{h0:Int}{cs:List (V × Int)}{o:Option Mv}(s:Same H H')(h:Sy K H C x m d dm M R e vh vp vm t n h0 cs o):Sy K H' C x m d dm M R e vh vp vm t n h0 cs o:=
 ⟨h.st.same s,h.md.same s,h.mv.same s,h.vm.same s,h.et,h.ok,h.pl,h.mk_,h.hn,h.m2,h.m4,h.n1,h.n2,h.n3⟩
theorem MvD.kp {S:Addr->Prop}{H H':Hp}{dm:Addr}{nm:Str}{o:Option Mv}(k:KP K S H H')(c:S dm)(h:MvD K H dm nm o):MvD K H' dm nm o:=by
 obtain⟨v,a,b⟩:=h;refine⟨v,?_,k.st _ _ c b⟩;cases o with
 |none=>exact a
 |some q=>exact mK.tk k.tk a
theorem mL.kp (k:KP K S H H')(a:S M)(b:S R)(h:mL K H M vh vp R t vm):mL K H' M vh vp R t vm:=⟨k.st _ _ a h.1,h.2.1.tk k.tk,h.2.2.1.tk k.tk,h.2.2.2.kp k b⟩
theorem Sy.kp {S:Addr->Prop}{H H':Hp}{C x d dm M R:Addr}{m:Int}{e:En}{vh vp vm:V}{t:Tb}{n:Str}{h0:Int}{cs:List (V × Int)}{o:Option Mv}(k:KP K S H H')(j:S x)(c:S d)(g:S dm)(b:S M)(f:S R)(i:S e.L)(h:Sy K H C x m d dm M R e vh vp vm t n h0 cs o):Sy K H' C x m d dm M R e vh vp vm t n h0 cs o:=
 ⟨h.st.kp k j c λy a=>by rw[List.mem_singleton.mp a];exact i,h.md.kp k b f,h.mv.kp k g,h.vm.tk k.tk,h.et,h.ok,h.pl,h.mk_,h.hn,h.m2,h.m4,h.n1,h.n2,h.n3⟩
theorem Sy.fx {H H':Hp}{a C x d dm M R:Addr}{m:Int}{e:En}{vh vp vm:V}{t:Tb}{n:Str}{h0:Int}{cs:List (V × Int)}{o:Option Mv}(f:Fx a H H')(j:iG H a)(p:M≠a)(r:R≠a)(l:e.L≠a)(h:Sy K H C x m d dm M R e vh vp vm t n h0 cs o):Sy K H' C x m d dm M R e vh vp vm t n h0 cs o:=by
 obtain⟨k,c,_⟩:=id j;obtain⟨q,g⟩:=h.st.at_;obtain⟨_,_,i⟩:=id h.mv;refine h.kp (S:=λb=>b≠a) (KP.fx f j λz=>z rfl) (λz=>?_) (λz=>?_) (λz=>?_) p r l
 ·rw[z,c] at g;cases g
 ·have:=h.st.ens.at_;rw[z,c] at this;cases this
 ·rw[z,c] at i;cases i
inductive aPt (K:bF4)(vs:List V)(H:Hp)(Q:VK)(E_:XK):Prop
 |mk (st M R:Addr) (m:Int) (vh vp vm:V) (t:Tb) (n:Str) (h0:Int) (cs:List (V × Int)) (_:vs=[.ref st,.ref M,.int m]) (_:iG H st) (_:mL K H M vh vp R t vm) (_:iV m t) (_:t.pl=.spans n h0 cs) (_:2<=m) (_:m<=4) (_:M≠st) (_:∀p num ho H',Fx st H H'->H' p=some (.tup [.int (num:Nat),.int ho,.non])->num<=cs.length->0<=ho->ho<m->ho≠jX num h0 cs->Q (.ref p) H')
def aH6 (T:Txt w K mg)(aN:Ok P w K mg base 1 "_law_next" n7 jK):Ok P w K mg base 2 "_law_lent" ["_law_state","_law_table","_law_houses"] (aPt K):=by
 refine Ok.ofV T.aIq uZ (by trivial) (λf a1 A D s H vs Q E hr h=>?_)
 obtain⟨J,M,R,m,vh,vp,vm,t,n,h0,cs,rfl,L,hM,W,y,m2,m4,nM,q⟩:=h;have nd:=uZ.nd;refine⟨_,(aB (aY 3 (aV aN (aH (vv 0) (va1 (aL aZ (by rfl) T.eV cW (va1 (aO aP (aO bA (vv 1) aA) aA))))))) (aB (aY 4 (bF jU (bF dG (bF dG (aO aP (aO aP (aO aP (aO bA (vv 1) aA) aA) (vv 3)) aA) aA) (aV aN (aH (vv 0) (va1 (bF aCj (vv 2) aA))))) (vv 2))) (aD (aJ (cN (aH (vv 3) (aH (vv 4) (va1 fU)))))))),?_⟩;obtain⟨G,hI,l,N⟩:=id hM;have g:=W.pl;rw[y] at l g;obtain⟨b,vo,rfl,I,⟨O,o,rfl,k,e⟩⟩:=id l;obtain⟨_,kd,_,_,c⟩:=g;have lc:=e.len;rw[m8] at lc;have lf:=c.few;refine⟨_,rfl,_,rfl,M,_,1,_,rfl,rfl,SqL.of G,at1 _ _ _,b,_,2,_,rfl,rfl,I,at2 _ _ _ _,O,o,rfl,.inr k,J,_,rfl,L,⟨by lia,by lia⟩,λz H1 u z0 z1=>?_⟩;obtain⟨num,rfl⟩:∃num:Nat,z=num:=⟨z.toNat,by lia⟩;have j:num<o.length:=by lia
 obtain⟨a,i,X,v,F⟩:=cA e (b8 j);have Z:jX num h0 cs=a.2:=by unfold jX;rw[j4,v7,i];rfl
 have U:0<=a.2/\a.2<m:=by
  rcases List.mem_cons.mp (t8 i) with e1|e1
  ·rw[e1];exact c.first
  ·exact (c.each a e1).2
 have x:=u.same _ _ nM G;have d:=u.tk (K:=K) L;refine⟨_,rfl,M,_,1,_,rfl,rfl,SqL.of x,at1 _ _ _,b,_,2,_,rfl,rfl,d _ _ I,at2 _ _ _ _,_,rfl,O,o,_,o[num],rfl,rfl,d _ _ k,bH (b8 j),X,_,1,_,v,rfl,d _ _ F,at1 _ _ _,?_⟩;refine⟨_,_,rfl,rfl,_,rfl,_,rfl,_,_,rfl,rfl,J,m - 1,rfl,u.st,⟨by lia,by lia⟩,λz H2 f2 a0 C=>⟨_,_,rfl,rfl,_,rfl,_,_,rfl,rfl,by lia,?_⟩⟩;obtain⟨r,p⟩:∃r:Int,r=(a.2+1+z) % m:=⟨_,rfl⟩;show bO 4 (V.int ((a.2+1+z) % m)) _ _ _;rw[<-p];have B:r≠a.2:=by rcases (show m=2\/m=3\/m=4 by lia) with e1|e1|e1 <;> rw[e1] at p U C <;> lia
 refine⟨_,rfl,_,rfl,by show 3<=sizeLine;decide,λS H3 _ s3 Y=>?_⟩;exact q S num r H3 ((u.trans f2).sm s3) Y (by lia) (by rw[p];exact bFO _ (by lia)) (by rw[p];exact bEO _ (by lia)) (by rw[Z];exact B)
inductive yM (K:bF4)(vs:List V)(H:Hp)(Q:VK)(E_:XK):Prop
 |mk (M R:Addr) (vh vp vm:V) (t:Tb) (mq:Mv) (m:Int) (n:Str) (h0:Int) (cs:List (V × Int)) (_:vs=[.ref M]) (_:mL K H M vh vp R t vm) (_:mK K H vm mq) (_:iV m t) (_:t.pl=.spans n h0 cs) (_:(∀q,mq.mark=some q->gC t.hd q)) (_:∀L H',H L=none->Same H H'->bU K H' L (fY { t with rows:=srt t.rows } n cs mq.num mq.mark)->Q (.ref L) H')
theorem aEa (T:Txt w K mg)(kO:Ok P w K mg base 2 "_law_of_span" bQG (xV K)):Ok P w K mg base 3 "_law_above" bQG (yM K):=by
 refine Ok.ofV T.aF1 sU (by trivial) (λf a1 A D s H vs Q E hr h=>?_)
 obtain⟨M,R,vh,vp,vm,t,j,m,n,h0,S,rfl,U,e,o,p,y,q⟩:=h;have hU:=hr.units;have nd:=sU.nd;refine⟨_,(aB (jH (aO bA (vv 0) aA) (uJ rfl (aX (cR 1) (aX (cR 2) (aX (cR 3) eQ))))) (aD (aJ (cI (N:=["_law_row_here","_law_mark"]) (by trivial) (eE (aC nG) rfl (by decide +kernel)) rfl (eO (aV kO (va1 (vv 0)))) (λcl s' F fp=>⟨(bJ (i:=0) (show (["_law_row_here","_law_mark"]:List Str).Nodup from by decide +kernel) rfl (Or.inl rfl)),(lM (VW.pt (fK (cZ aF6 (vv 1) fU) (dZ (cZ (aXo (K:=K) hU) (vv 0) (vv 1)))))),(vv 0)⟩))))),?_⟩;obtain⟨O,vk,rfl,I,B⟩:=id e;have Z:=o.few;have ls:=nJ t.rows;refine⟨_,rfl,M,_,3,_,rfl,rfl,SqL.of U.1,bH rfl,O,_,rfl,I,rfl,_,_,rfl,_,_,rfl,_,_,rfl,rfl,?_⟩;dsimp only[bO,rA,List.set];refine iW [none,some vk] (jM 3 (by decide +kernel) rfl rfl (by trivial)) ?_;refine⟨_,rfl,M,R,vh,vp,.ref O,t,j,m,n,h0,S,rfl,U,e,o,p,λD1 V X b d=>?_⟩;obtain⟨w1,x,W⟩:=id d;have f1:=bAY (fX t.hd n S j.num) (srt t.rows);refine⟨D1,rfl,⟨_,SqL.of x⟩,rE d (by lia) (xP j.mark) rfl (λu r C F R' l Y v k=>?_) λD2 L J G g=>q D2 L (none_of b J) (b.trans G) (by rw[bEP] at g;exact g)⟩;have c:=B.same (b.trans Y);cases a:j.mark with
 |none=>rw[a] at c k;have c:=c;subst c;exact⟨_,rfl,rfl,_,rfl,iY (m9 rfl) (k F (Same.refl _))⟩
 |some q0=>rw[a] at c k;obtain⟨ka,rfl,a0⟩:=id c;exact⟨_,rfl,rfl,_,rfl,dH (v9 λz=>by cases z) ⟨_,rfl,_,rfl,knds t.hd,r,q0,v,c,fM (o.rows r (fC (List.mem_filter.mp C).1)),fM (y q0 a),_,rfl,k F (Same.refl _)⟩⟩
theorem bCf {H:Hp}{hd:Hdr}{v l:V}{o:Option Mv}{Q:VK}(h:MvV K H v o)(h':MvV K H l o)(k:∀mq q,o=some mq->mq.mark=some q->gC hd q)(q:Q (.bl false) H):bDx K false v l H Q\/rNe v l H Q:=by
 cases o with
 |none=>cases (show v=.non from h);cases (show l=.non from h');exact .inr ⟨rfl,q⟩
 |some mq=>obtain⟨a,b,i,c,f,e,d,j,g⟩:=bCx h h' λq=>k mq q rfl;exact .inl ⟨a,b,i,c,f,e,d,j,g,q⟩
inductive aJ4 (K:bF4)(C Pt:Addr)(vs:List V)(H:Hp)(Q:VK)(E_:XK):Prop
 |mk (x d dm M R:Addr) (m:Int) (e:En) (vh vp vm:V) (t:Tb) (n:Str) (h0:Int) (cs:List (V × Int)) (o:Option Mv) (_:vs=[.ref x,.str e.n,.ref M,.int m]) (_:Sy K H C x m d dm M R e vh vp vm t n h0 cs o) (_:H Pt=some (.tab qC)) (_:∀H',Same H H'->Q (.bl true) H')
def aDp (T:Txt w K mg)(oV:Ok P w K mg base 2 "_law_stood" n8 (yX K))(av:Ok P w K mg base 3 "_law_stands" n8 (aDf K))(c:OkM P w K mg base C 4 "moving" n6 (yO K C))(B:OkM P w K mg base C 13 "town" ["self"] (aOq K C Ct Pt))(g:OkM P w K mg base C 5 "stands" bQC (aC6 K C))(k:OkM P w K mg base Ct 4 "placing" n6 (aBk K Ct))(F:OkM P w K mg base Ct 4 "whole" n6 (wB K Ct))(G:OkM P w K mg base Ct 5 "part" bQC (aOd K Ct)):Ok P w K mg base 14 "_law_right" o7 (aJ4 K C Pt):=by
 refine Ok.ofV T.aHn sX (by trivial) (λf au A ao s H vs Q E hr h=>?_)
 obtain⟨x,d,dm,M,R,m,e,vh,vp,vm,t,n,h0,cs,o,rfl,b,hP,q⟩:=h;have hU:=hr.units;have nd:=sX.nd;refine⟨_,(aB (bM (cZ ((aU3 hU).or wU) (iB c (vv 0) (va1 (vv 1))) (aO bA (vv 2) aA)) (aD (aJ fP)) aU) (aB (aY 4 (aTy (B.mono (by decide)) hr (vv 0))) (aB (bM (VW.pt (fK (cZ (zA hU) (iB F (vv 4) (va1 (vv 1))) (aL dU (by rfl) T.dX dB (va1 (aO bA (vv 2) aA)))) (dZ (cZ (aU3 hU) (iB k (vv 4) (va1 (vv 1))) (aO bA (vv 2) aA))))) (aD (aJ fP)) aU) (aB (iQ PassesOwn.never rfl (fZ (by rfl) T.jO (va1 (vv 3))) (cR 5) (aB (bM (cZ (zA hU) (iB g (vv 0) (aH (vv 1) (va1 (vv 5)))) (aV av (aH (vv 2) (aH (vv 3) (va1 (vv 5)))))) (aD (aJ fP)) aU) (aD (bM (cZ (zA hU) (iB G (vv 4) (aH (vv 1) (va1 (vv 5)))) (aV oV (aH (vv 2) (aH (vv 3) (va1 (vv 5)))))) (aD (aJ fP)) aU)))) (aD (aJ fP)))))),?_⟩;have ok:=b.ok;have ay:=ok.few;have m2:=b.m2;have m4:=b.m4;have D:∀r∈t.rows,KdR (knds t.hd) r:=λr a=>fM (ok.rows r a);have a2:∀r∈srt t.rows,∀x∈r,(∃i,x=.int i)\/∃z,x=.str z:=λr a x hx=>aVm (D r (fC a)) x hx;obtain⟨dx,hx⟩:=b.st.at_;refine⟨_,rfl,x,dx,_,rfl,hx,rfl,_,rfl,x,d,dm,m,[e],e,o,rfl,b.st,j0,b.mv,λv H1 s1 hv=>?_⟩;have U:=b.same s1;refine⟨_,rfl,M,_,3,_,rfl,rfl,SqL.of U.md.1,bH rfl,bCf hv U.vm b.mk_ ⟨_,rfl,bY ?_⟩⟩;refine⟨_,rfl,x,dx,_,rfl,s1 _ _ hx,rfl,x,d,dm,m,[e],rfl,U.st,by lia,by lia,s1 _ _ hP,λy d' H2 ap hy b0 s2 hT a1=>?_⟩;obtain⟨v2,L,rfl,_⟩:∃v2 L,ap=[aCg e v2 L]/\H1 L=none:=by
  cases a1 with
  |cons r t=>cases t;obtain⟨v',L',e1,e2⟩:=r;exact⟨v',L',by rw[e1],e2⟩
 obtain⟨l,ee⟩:∃l:En,l=aCg e v2 L:=⟨_,rfl⟩;have a3:l.n=e.n:=by rw[ee];rfl
 have am:l.vp=e.vp:=by rw[ee];rfl
 have a4:l.t={ t with rows:=srt t.rows }:=by rw[ee];show ({ e.t with rows:=srt e.t.rows }:Tb)=_;rw[b.et];rw[xK D]
 rw[<-ee] at hT;have V:=U.same s2;obtain⟨⟨dy,Z⟩,_,_⟩:=id hT;refine⟨_,rfl,y,dy,_,rfl,Z,rfl,_,rfl,y,d',m,[l],l,by rw[a3];rfl,hT,j0,λLw H3 as s3 J=>?_⟩;rw[a4] at J;have J:=J;have a7:=V.same s3;obtain⟨us,gR,a5⟩:=id a7.md.2.2.2;have b1:=a5.len;refine⟨_,rfl,M,_,2,_,rfl,rfl,SqL.of a7.md.1,at2 _ _ _ _,R,us,t.rows,knds t.hd,rfl,SqL.of gR,cP a5,by lia,jP ok.hd.1,D,λLb H4 ah aw s4 g4 h4=>?_⟩;obtain⟨uw,gw,hw⟩:=J.same s4;refine⟨Lw,Lb,uw,ah,srt t.rows,rfl,rfl,SqL.of gw,SqL.of g4,cP hw,cP ((gO h4).imp λ_ _ z=>z.same s4),a2,_,rfl,bY ?_⟩;have W:=s3.trans s4;have al:=V.same W;refine⟨_,rfl,y,dy,_,rfl,W _ _ Z,rfl,_,rfl,y,d',m,[l],l,by rw[a3];rfl,hT.same W,j0,λH5 s5=>?_⟩;have Y:=al.same s5;have a9:=ok.pl;rw[b.pl] at a9;obtain⟨_,kd,_,_,ad⟩:=a9;have p1:oK K H5 e.vp (.spans n h0 cs):=by obtain⟨_,_,_,_,hp,_⟩:=Y.st.ens.tb e j0;rw[b.et] at hp;rw[<-b.pl];exact hp
 have p2:oK K H5 vp (.spans n h0 cs):=by have:=Y.md.2.2.1;rw[b.pl] at this;exact this
 obtain⟨ra,rb,rx,ry,e3,e4,r1,r2,r3⟩:=aYj p1 p2 ad;refine⟨_,rfl,M,_,1,_,rfl,rfl,SqL.of Y.md.1,at1 _ _ _,ra,rb,rx,ry,by rw[am];exact e3,e4,r1,r2,r3,_,rfl,bY ?_⟩;have an:=W.trans s5;have a6:e.t.pl=.spans n h0 cs:=by rw[b.et];exact b.pl
 refine⟨_,rfl,m,rfl,by lia,by lia,iT (λj σ H'=>Same H2 H'/\∃l6,σ=[some (.ref x),some (.str e.n),some (.ref M),some (.int m),some (.ref y),l6]) ⟨an,_,rfl⟩ (λj σ H6 hj p=>?_) fun σ H6 p=>?_⟩
 ·obtain⟨s6,l6,rfl⟩:=p;have X:0<=(0:Int)+(j:Int):=by lia
  have a0:(0:Int)+(j:Int)<m:=by lia
  generalize (0:Int)+(j:Int)=house at X a0;have O:=V.same s6;obtain⟨ag,aq⟩:=O.st.at_;refine⟨_,rfl,x,ag,_,rfl,aq,rfl,_,rfl,_,rfl,x,d,dm,m,house,[e],e,o,n,h0,cs,rfl,O.st,j0,O.mv,a6,λu z1=>(b.hn u z1).1,λu q' z1 z2=>by rw[b.et];exact b.mk_ u q' z1 z2,X,a0,λL7 H7 b3 s7 S=>?_⟩;rw[b.et] at S;have S:=S;have aa:=O.same s7;refine⟨_,rfl,_,rfl,_,rfl,M,R,vh,vp,vm,t,o,m,house,n,h0,cs,rfl,aa.md,aa.vm,ok,b.pl,(λu z1=>(b.hn u z1).1),b.mk_,λL8 H8 az s8 ai=>?_⟩;obtain⟨u7,g7,h7⟩:=S.same s8;obtain⟨u8,g8,h8⟩:=ai;have ae:∀r∈oM t.hd m house t.pl o n cs (srt t.rows),∀x∈r,(∃i,x=.int i)\/∃z,x=.str z:=λr a=>a2 r (by
   unfold oM at a;cases o with
   |none=>exact (List.mem_filter.mp a).1
   |some mq=>
   dsimp only at a
   split at a
   ·rcases List.mem_append.mp (fC a) with z|z <;> exact (List.mem_filter.mp z).1
   ·exact (List.mem_filter.mp a).1)
  refine⟨L7,L8,u7,u8,_,rfl,rfl,SqL.of g7,SqL.of g8,cP h7,cP h8,ae,_,rfl,bY ?_⟩;have I:=s6.trans (s7.trans s8);refine⟨_,rfl,y,dy,_,rfl,I _ _ Z,rfl,_,rfl,_,rfl,y,d',m,house,[l],l,by rw[a3];rfl,hT.same I,j0,X,a0,λL9 H9 ax s9 N=>?_⟩;rw[a4] at N;have N:=N;refine⟨_,rfl,_,rfl,_,rfl,M,R,vh,vp,vm,t,m,house,n,h0,cs,rfl,(V.same (I.trans s9)).md,ok,b.pl,λaf b2 ar ab a8=>?_⟩;obtain⟨u9,g9,h9⟩:=N.same ab;obtain⟨ak,ac,aj⟩:=a8;exact⟨L9,af,u9,ak,_,rfl,rfl,SqL.of g9,SqL.of ac,cP h9,cP aj,λr a=>a2 r (List.mem_filter.mp a).1,_,rfl,bY ⟨I.trans (s9.trans ab),_,rfl⟩⟩
 ·obtain⟨s6,l6,rfl⟩:=p;exact q H6 (s1.trans (s2.trans s6))
theorem aN0 {α β:Type}{R:α->β->Prop}{as:List α}{bs:List β}(h:cG R as bs):∀n,cG R (as.drop n) (bs.drop n):=by
 induction h with
 |nil=>intro n;rw[List.drop_nil,List.drop_nil];exact .nil
 |cons r t ih=>
  intro n;cases n with
  |zero=>exact .cons r t
  |succ n=>exact ih n
def aTo (n:H e=none)(a:H T=none):Same H (up2 H e T C dx):=λb o h=>by unfold up2;rw[aK (aQ h n),aK (aQ h a)];exact h
def wO (J:L2.St->Hp->Prop)(a:∀N:L2.St->Hp->Prop,(∀σ' H',J σ' H'->N σ' H')->S { D with nx:=N } σ H)(b:∀σ' H',J σ' H'->R D σ' H'):aDz S R D σ H:=a _ b
inductive aBt (K:bF4)(C:Addr)(vs:List V)(H:Hp)(Q:VK)(E_:XK):Prop
 |mk (x d dm:Addr) (m:Int) (e:En) (mq:Mv) (n:Str) (h0:Int) (cs:List (V × Int)) (_:vs=[.ref x,.str e.n]) (_:bC K H C x m d dm [e]) (_:e.t.pl=.spans n h0 cs) (_:MvD K H dm e.n (some mq)) (_:(∀q,mq.mark=some q->gC e.t.hd q)) (_:mq.num<=cs.length) (_:0<=mq.house) (_:mq.house<m) (_:(fY e.t n cs mq.num mq.mark=[]->∀v vp H',KP K (λb=>b≠d/\b≠dm) H H'->bC K H' C x m d dm [{ e with v:=v,vp:=vp,t:={ e.t with pl:=.spans n (rQ mq.num mq.house h0) (rR mq.num mq.house cs) } }]->MvD K H' dm e.n none->Q (.str "done") H')) (_:(fY e.t n cs mq.num mq.mark≠[]->∀H',Same H H'->Q (.str "not yet") H'))
def aAi (T:Txt w K mg)(i:ExT K mg lZ "NotYet" "ShardError.__init__" CN S)(f2:PySem.W.mroIn K CN (.ref CN)=some true)(b:aHh P w K mg base C 6 "settle" n6 (aFq K C CN)):Ok P w K mg base 7 "_law_settled" ["_law_store","_law_name"] (aBt K C):=by
 refine Ok.ofV T.aBm pD (by trivial) (λf Z A l s H vs Q E hr h=>?_)
 obtain⟨x,d,dm,m,e,G,n,h0,I,rfl,z,p,k,t,j,V,U,Y,M⟩:=h;obtain⟨⟨fI,fd,J,F,B⟩,c,kp,g,y⟩:=i;have nd:=pD.nd;refine⟨_,(aB (aY 2 bB) (aB (aWn rfl rfl (by rfl) c g (λN σ₀ E R=>(aD (bM (cZ vH (aR3 R (b.mono (by decide)) hr (vv 0) (va1 (vv 1))) fU) (aD (aY 2 bB)) aU))) (λe=>(aD (aY 2 bB)))) (aD (aJ (vv 2))))),?_⟩;obtain⟨L,D⟩:=z.at_;refine⟨rfl,_,rfl,x,L,_,rfl,D,rfl,_,rfl,x,d,dm,m,e,G,n,h0,I,rfl,z,p,k,t,j,V,U,λq v vp u O o r=>?_,λq a u s1=>?_⟩
 ·exact⟨rfl,_,rfl,dH rfl ⟨_,rfl,Y q v vp u O o r⟩⟩
 ·refine⟨CN,a,fI,rfl,rfl,J,f2,λTb a0 X nT a1 hd=>?_⟩;exact⟨_,rfl,M q _ (s1.trans (aTo X nT))⟩
theorem bDf {ho:Int}:∀{k:Nat} {L:List (V × Int)} {c:V × Int},L[k]?=some c->L.take k++[(c.1,ho)]++L.drop (k+1)=aD6 ho k L
 |0,[],_,h=>by cases h
 |0,_::_,_,h=>by cases h;rfl
 |_+1,[],_,h=>by cases h
 |k+1,a::L,c,h=>by have:=bDf (ho:=ho) (k:=k) (L:=L) (c:=c) (by simpa using h);show a::(L.take k++[(c.1,ho)]++L.drop (k+1))=a::aD6 ho k L;rw[this]
inductive aPc (K:bF4)(C:Addr)(vs:List V)(H:Hp)(Q:VK)(E_:XK):Prop
 |mk (x d dm M R:Addr) (m:Int) (e:En) (vh vp vm:V) (t:Tb) (n:Str) (h0:Int) (cs:List (V × Int)) (mq:Mv) (_:vs=[.ref x,.str e.n,.ref M]) (_:Sy K H C x m d dm M R e vh vp vm t n h0 cs (some mq)) (_:∀e' vp' vm' t' h0' cs' o' H',KP K (λb=>b≠M/\b≠dm/\b≠d) H H'->Sy K H' C x m d dm M R e' vh vp' vm' t' n h0' cs' o'->e'.n=e.n->e'.L=e.L->t'.rows=t.rows->Q (.bl true) H')
theorem aI0 (T:Txt w K mg){C:Addr}(oN:Ok P w K mg base 3 "_law_above" bQG (yM K))(bh:Ok P w K mg base 7 "_law_settled" ["_law_store","_law_name"] (aBt K C)):Ok P w K mg base 8 "_law_try" ["_law_store","_law_name","_law_table"] (aPc K C):=by
 refine Ok.ofV T.aMb aAa (by trivial) (λf bi A bb s H vs Q E hr h=>?_)
 obtain⟨x,d,dm,M,R,m,e,O,vp,vm,t,n,B,l,o,rfl,i,q⟩:=h;have hU:=hr.units;have nd:=aAa.nd;refine⟨_,(aB (aY 3 (aO bA (cY (aH bB (va1 bB))) (cC xZ (by rfl) T.aPy aFw (va1 (wR (aCn hU) (aV oN (va1 (vv 2))) (cY xR)))))) (aB (bM (cZ wU (aV bh (aH (vv 0) (va1 (vv 1)))) (vv 3)) (aD (aJ fP)) aU) (aB (bM (cZ dN (vv 3) bB) (aB (jH (aO bA (vv 2) aA) (uJ rfl (aX (cR 4) (aX (cR 5) (aX (cR 6) eQ))))) (aB (aY 7 (aO aP (aO bA (vv 2) aA) aA)) (aB (aY 7 (bF wJ (bF wJ (dC aA1 (vv 7) fB (dW (vv 4))) (cN (va1 (cN (aH (aO aP (aO aP (vv 7) (vv 4)) aA) (va1 (vv 5))))))) (dC aA1 (vv 7) (dW (bF dG (vv 4) aA)) fB))) (aB (jH (cN (aH bB (aH (aO aP (aO bA (vv 2) aA) aA) (va1 (vv 7))))) (xX (vv 2) aA set_list)) (aD (jH fU (xX (vv 2) aA set_list))))))) aU) (aD (aJ fP))))),?_⟩;obtain⟨bg,D,b0,b1⟩:=i.hn o rfl;have ok:=i.ok;have ak:=ok.pl;rw[i.pl] at ak;obtain⟨b2,kd,hk,ax,ag⟩:=ak;have bl:=ag.few;have X:e.t.pl=.spans n B l:=by rw[i.et];exact i.pl
 refine⟨by show 2<=sizeLine;decide,λpd H1 bj s1 g1=>?_⟩;have al:=i.same s1;refine⟨_,rfl,M,R,O,vp,vm,t,o,m,n,B,l,rfl,al.md,al.vm,ok,i.pl,λq0 e0=>i.mk_ o q0 rfl e0,λL H2 hL s2 hR=>?_⟩;refine⟨by show 0<=sizeLine;decide,λp3 H3 bk s3 g3=>?_⟩;have a4:=s2.trans s3;have a6:=s1.trans a4;have g:=i.same a6;obtain⟨uL,gL,au⟩:=id hR;have lL:=au.len;refine⟨L,p3,uL,rfl,rfl,SqL.of (s3 _ _ gL),SqL.of g3,.inr ⟨_,rfl,?_⟩⟩;obtain⟨dx,ao⟩:=g.st.at_;have a2:∀q0,o.mark=some q0->gC e.t.hd q0:=λq0 e0=>by rw[i.et];exact i.mk_ o q0 rfl e0
 have eW:fY e.t n l o.num o.mark=fY { t with rows:=srt t.rows } n l o.num o.mark:=by rw[i.et]
 cases uL with
 |cons u0 ur=>
  have hW:fY e.t n l o.num o.mark≠[]:=λz=>by rw[<-eW,z] at lL;cases lL
  refine⟨pd,_,1,_,rfl,rfl,SqL.of (a4 _ _ g1),at1 _ _ _,?_⟩;dsimp only[bO,List.set];refine⟨_,rfl,_,rfl,x,d,dm,m,e,o,n,B,l,rfl,g.st,X,g.mv,a2,D,b0,b1,λz=>absurd z hW,λ_ H4 s4=>?_⟩;refine⟨_,rfl,rfl,_,rfl,dH rfl ?_⟩;refine⟨_,rfl,rfl,_,rfl,dH rfl ?_⟩;exact q e vp vm t B l (some o) H4 (.same (a6.trans s4)) (g.same s4) rfl rfl rfl
 |nil=>
  have hW:fY e.t n l o.num o.mark=[]:=by rw[eW];exact bAZ lL.symm
  refine⟨pd,_,0,_,rfl,rfl,SqL.of (a4 _ _ g1),at0 _ _,?_⟩;dsimp only[bO,List.set];refine⟨_,rfl,_,rfl,x,d,dm,m,e,o,n,B,l,rfl,g.st,X,g.mv,a2,D,b0,b1,λ_ v' bd H4 k4 bc ah=>?_,λz=>absurd hW z⟩;refine⟨_,rfl,rfl,_,rfl,dH rfl ?_⟩;refine⟨_,rfl,rfl,_,rfl,iY rfl ?_⟩;have ad:mK K H3 vm o:=g.vm;obtain⟨num,a,bf⟩:=o;have D:num<=l.length:=D;obtain⟨ma,vk,rfl,b3,bm⟩:=ad;obtain⟨N,b5,as,⟨uR,a7,ay⟩⟩:=id g.md;obtain⟨_,_,U⟩:=id g.mv;have u:=g.st.ens.at_;have Z:M≠dm:=λz=>by rw[<-z,N] at U;cases U
  have af:M≠d:=λz=>by rw[<-z,N] at u;cases u
  have ap:R≠dm:=λz=>by rw[<-z,a7] at U;cases U
  have ba:R≠d:=λz=>by rw[<-z,a7] at u;cases u
  have a0:=as;rw[i.pl] at a0;obtain⟨b,vo,rfl,hb,⟨cc,us,rfl,a9,a5⟩⟩:=a0;have lu:=a5.len;rw[m8] at lu;have aq:num<us.length:=by lia
  obtain⟨c0,b6,pc,aw,be⟩:=cA a5 (b8 aq);have S:=k4.st _ _ ⟨af,Z⟩ N;have k:=k4.tk;refine⟨_,rfl,M,_,3,_,rfl,rfl,SqL.of S,bH (j:=3) rfl,ma,_,rfl,k _ _ b3,rfl,_,_,rfl,_,_,rfl,_,_,rfl,rfl,?_⟩;refine⟨_,rfl,M,_,1,_,rfl,rfl,SqL.of S,at1 _ _ _,b,_,2,_,rfl,rfl,k _ _ hb,at2 _ _ _ _,?_⟩;dsimp only[bO,List.set];refine⟨_,rfl,_,rfl,_,rfl,cc,us,rfl,k _ _ a9,λp5 H5 s5 g5=>?_⟩;rw[oJ] at g5;refine⟨_,rfl,_,rfl,cc,us,_,us[num],rfl,rfl,s5.aR (k _ _ a9),bH (b8 aq),pc,_,0,_,aw,rfl,s5.aR (k _ _ be),at0 _ _,_,rfl,by show 2<=sizeLine;decide,λt6 H6 _ s6 g6=>⟨by show 1<=sizeLine;decide,λt7 H7 _ s7 g7=>?_⟩⟩;refine⟨p5,t7,_,_,rfl,rfl,(s6.trans s7).aR g5,SqT.of g7,small (by rw[bAI];show _+1<=1000;lia),λp8 H8 s8 g8=>?_⟩;have ae:=s5.trans (s6.trans (s7.trans s8));have eN:((num:Nat):Int)+1=((num+1:Nat):Int):=rfl;refine⟨_,rfl,_,rfl,_,_,rfl,rfl,_,rfl,cc,us,rfl,ae.aR (k _ _ a9),λp9 H9 s9 g9=>?_⟩;rw[eN,rM] at g9;refine⟨p8,p9,_,_,rfl,rfl,s9.aR g8,g9,small (by rw[w6,bAI,bBT];show _+1+_<=1000;lia),λab ac ar av=>?_⟩;have r:=ae.trans (s9.trans ar);have a3:lU K ac (fJ K ac) (.ref ab) ((.non,rQ num a B)::rR num a l):=⟨ab,_,rfl,av,by rw[<-bDm,<-bDf b6];have a1:cG (fJ K ac) us ((.non,B)::l):=a5.imp λ_ _ ⟨p',e1,e2⟩=>⟨p',e1,r.aR (k _ _ e2)⟩;exact cG.app (cG.app (yH a1 _) (.cons ⟨t6,rfl,SqT.of (ar _ _ (s9 _ _ (s8 _ _ (s7 _ _ g6))))⟩ .nil)) (aN0 a1 _)⟩
  have aj:=r _ _ S;refine⟨_,rfl,M,_,1,_,rfl,rfl,SqL.of aj,at1 _ _ _,b,_,1,_,rfl,rfl,r.aR (k _ _ hb),at1 _ _ _,_,rfl,by show 3<=sizeLine;decide,λc I _ a8 az=>?_⟩;have W:=r.trans a8;have Y:=W _ _ S;refine⟨_,rfl,M,_,1,1,rfl,rfl,Y,rfl,?_⟩;dsimp only[List.set];have F:KP K (λb=>b≠M) I (L2.upd I M (.lst [O,.ref c,.ref R,.ref ma])):=.jA Y λz=>z rfl;have J:L2.upd I M (.lst [O,.ref c,.ref R,.ref ma]) M=some (.lst [O,.ref c,.ref R,.ref ma]):=aF;generalize L2.upd I M (.lst [O,.ref c,.ref R,.ref ma])=H12 at F J ⊢;refine⟨_,rfl,M,_,3,3,rfl,rfl,J,rfl,?_⟩;dsimp only[List.set];have G:KP K (λb=>b≠M) H12 (L2.upd H12 M (.lst [O,.ref c,.ref R,.non])):=.jA J λz=>z rfl;have V:L2.upd H12 M (.lst [O,.ref c,.ref R,.non]) M=some (.lst [O,.ref c,.ref R,.non]):=aF;generalize L2.upd H12 M (.lst [O,.ref c,.ref R,.non])=H13 at G V ⊢;have kM:KP K (λb=>b≠M) H4 H13:=(KP.same W).trans (F.trans G);have b9:x≠M:=λz=>by rw[z,N] at ao;cases ao
  have am:=bc.kp kM b9 af.symm λy hy=>by rw[List.mem_singleton.mp hy];exact i.n3
  have ai:∀p xs,SqT K I p xs->SqT K H13 p xs:=λp xs z=>G.tk _ _ (F.tk _ _ z);have aa:oK K H13 (.ref c) (.spans n (rQ num a B) (rR num a l)):=oK.tk (pl:=.spans n (rQ num a B) (rR num a l)) ai ⟨c,.ref ab,rfl,SqT.of az,lU.same a8 (λ_ _ z=>z.same a8) a3⟩;have an:KP K (λb=>b≠M/\b≠dm/\b≠d) H H13:=((KP.same a6).trans (k4.mono λb z=>⟨z.2.2,z.2.1⟩)).trans (kM.mono λb z=>z.1);have b4:iV m { t with pl:=.spans n (rQ num a B) (rR num a l) }:=⟨ok.hd,⟨b2,kd,hk,ax,aOs num ag b0 b1⟩,ok.few,ok.rows⟩;refine q { e with v:=v',vp:=bd,t:={ e.t with pl:=.spans n (rQ num a B) (rR num a l) } } (.ref c) .non { t with pl:=.spans n (rQ num a B) (rR num a l) } (rQ num a B) (rR num a l) none H13 an ⟨am,⟨V,(b5.tk k).tk kM.tk,aa,?_⟩,ah.kp kM Z.symm,rfl,?_,b4,rfl,λ_ _ z=>(by cases z),λ_ z=>(by cases z),i.m2,i.m4,i.n1,i.n2,i.n3⟩ rfl rfl rfl
  ·exact (bU.kp k4 ⟨ba,ap⟩ ⟨uR,a7,ay⟩).kp kM i.n1.symm
  ·show ({ e.t with pl:=.spans n (rQ num a B) (rR num a l) }:Tb)=_;rw[i.et]
def aUg (Y N:Hp->Prop)(a:∀R:Bool->Hp->Prop,(∀H8,Y H8->R true H8)->(∀H8,N H8->R false H8)->c σ H R)(d:∀H8,Y H8->t D σ H8)(b:∀H8,N H8->u D σ H8):aG3 c t u D σ H:=
 a _ (λH8 y=>eX (d H8 y)) (λH8 y=>bY (b H8 y))
def qZ (o:Option (List V))(S:List (List V)):Option (List V):=match S.getLast? with|none=>o|some r=>some r
def Sy.upd {H H':Hp}{C x d s M R:Addr}{m:Int}{e e':En}{vh vp vm:V}{t:Tb}{n:Str}{h0:Int}{cs:List (V × Int)}{o:Option Mv}{rows':List (List V)}(h:Sy K H C x m d s M R e vh vp vm t n h0 cs o)(k:KP K (λb=>b≠R/\b≠d) H H')(l:bC K H' C x m d s [e'])(r:e'.n=e.n)(p:e'.t={ t with rows:=srt rows' })(i:H e'.L=none)(u:bU K H' R rows')(q:iV m { t with rows:=rows' }):Sy K H' C x m d s M R e' vh vp vm { t with rows:=rows' } n h0 cs o:=by
 obtain⟨_,_,g⟩:=id h.mv;obtain⟨j,f,_⟩:=id h.md.2.2.2;have c:M≠d:=λz=>by have:=h.st.ens.at_;rw[<-z,h.md.1] at this;cases this
 have a:s≠R:=λz=>by rw[z,f] at g;cases g
 refine⟨l,⟨k.st _ _ ⟨h.n1,c⟩ h.md.1,h.md.2.1.tk k.tk,h.md.2.2.1.tk k.tk,u⟩,by rw[r];exact h.mv.kp k ⟨a,h.st.ne.symm⟩,h.vm.tk k.tk,p,q,h.pl,h.mk_,h.hn,h.m2,h.m4,h.n1,(aQ f i).symm,(aQ h.md.1 i).symm⟩
inductive aP3 (K:bF4)(C:Addr)(vs:List V)(H:Hp)(Q:VK)(E_:XK):Prop
 |mk (st x d dm M R:Addr) (m:Int) (e:En) (vh vp vm:V) (t:Tb) (n:Str) (h0:Int) (cs:List (V × Int)) (o:Option Mv) (k:Nat) (_:vs=[.ref st,.ref x,.str e.n,.ref M]) (_:iG H st) (_:Sy K H C x m d dm M R e vh vp vm t n h0 cs o) (_:M≠st) (_:R≠st) (_:e.L≠st) (_:t.rows.length<=k) (_:k<59) (_:∀e' t' H',KP K (λb=>b≠st/\b≠d/\b≠R) H H'->iG H' st->Sy K H' C x m d dm M R e' vh vp vm t' n h0 cs o->e'.n=e.n->t'.rows.length<=k+1->e'.L≠st->Q .non H')
def aAp (T:Txt w K mg){C:Addr}(aN:Ok P w K mg base 1 "_law_next" n7 jK)(uI:Ok P w K mg base 4 "_law_row" bQA (aF3 K))(U:OkM P w K mg base C 5 "put" bQF (aV3 K C))(J:OkM P w K mg base C 5 "drop" bQF (aOe K C)):Ok P w K mg base 6 "_law_changed" o9 (aP3 K C):=by
 refine Ok.ofV T.aCp oZ (by trivial) (λf b4 A ay s H vs Q E hr h=>?_)
 obtain⟨st,x,d,dm,M,R,m,e,vh,vp,vm,t,n,h0,cs,o,k,rfl,hs,l,nM,nR,nL,fw,b3,q⟩:=h;have hU:=hr.units;have nd:=oZ.nd;refine⟨_,(aB (aY 4 (aV uI (aH (vv 0) (va1 (aO bA (vv 3) aA))))) (aD (bM (VW.pt (aF0 (cZ (aCn hU) (aO bA (vv 3) aA) (cY xR)) (aFx (cZ dN (aV aN (aH (vv 0) (va1 aA))) aA)))) (aB (aY 4 (tG PySem.F.plainAttrs_list PySem.F.slot_list_pop PySem.F.type_list_pop aQw (aO bA (vv 3) aA) (va1 (aV aN (aH (vv 0) (va1 (aL aZ (by rfl) T.eV cW (va1 (aO bA (vv 3) aA))))))))) (aD (dJ (iB J (vv 1) (aH (vv 2) (va1 (vv 4))))))) (aB (dJ (tG PySem.F.plainAttrs_list PySem.F.slot_list_append PySem.F.type_list_append nH (aO bA (vv 3) aA) (va1 (vv 4)))) (aD (dJ (iB U (vv 1) (aH (vv 2) (va1 (vv 4)))))))))),?_⟩;have W:=l.ok;have b6:=W.few;have a1:(srt t.rows).Perm t.rows:=(jR λr am=>fM (W.rows r am)).1;refine⟨_,rfl,_,rfl,M,_,0,_,rfl,rfl,SqL.of l.md.1,at0 _ _,st,vh,t.hd,rfl,hs,l.md.2.1,W.hd,λX H1 r f1 g1 ad=>?_⟩;have a9:=l.fx f1 hs nM nR nL;dsimp only[bO,List.set];have af:∀{Hq H5 e' a},Fx st H Hq->KP K (λb=>b≠R/\b≠d) Hq H5->Sy K H5 C x m d dm M R e' vh vp vm { t with rows:=a } n h0 cs o->e'.n=e.n->a.length<=k+1->e'.L≠st->Q .non H5:=λfq kk j en lr ar=>by
  have ac:=fq.st;have an:=l.fx fq hs nM nR nL;have aq:st≠d:=λz=>by obtain⟨_,e1,_⟩:=ac;have:=an.st.ens.at_;rw[<-z,e1] at this;cases this
  exact q _ _ _ (((KP.fx fq hs λz=>z rfl).mono λb z=>z.1).trans (kk.mono λb z=>⟨z.2.2,z.2.1⟩)) (aOw ac λo h=>kk.st _ _ ⟨nR.symm,aq⟩ h) j en lr ar
 refine aUg (λH8=>Fx st H H8/\t.rows≠[]) (λH8=>Fx st H H8/\cL K H8 (.ref X) r) (λRR hT hF=>?_) (λS ax=>?_) λS az=>?_
 ·obtain⟨g,p,c⟩:=id a9.md.2.2.2;have O:=c.len;refine⟨_,rfl,M,_,2,_,rfl,rfl,SqL.of a9.md.1,at2 _ _ _ _,by show 0<=sizeLine;decide,λp9 H9 b5 s9 g9=>⟨R,p9,g,rfl,rfl,SqL.of (s9 _ _ p),SqL.of g9,_,rfl,?_⟩⟩;have f9:=f1.sm s9;cases g with
  |nil=>exact dH rfl (hF _ ⟨f9,X,rfl,s9.aR (SqT.of g1)⟩)
  |cons u0 ur=>
   refine iY rfl ⟨_,rfl,st,2,rfl,f9.st,by decide,λz b9 a3 z0 z1=>⟨rfl,_,rfl,?_⟩⟩;cases decide (V.int z=V.int 0) with
   |true=>exact hT _ ⟨f9.trans a3,λz=>by rw[z] at O;cases O⟩
   |false=>exact hF _ ⟨f9.trans a3,X,rfl,a3.tk (K:=K) f9.st _ _ (s9.aR (SqT.of g1))⟩
 ·obtain⟨f2,ak⟩:=ax;have Y:=l.fx f2 hs nM nR nL;have ag:=f2.st;obtain⟨g,p,c⟩:=id Y.md.2.2.2;have O:=c.len;have b2:0<t.rows.length:=List.length_pos_iff.mpr ak;refine⟨_,rfl,M,_,2,_,rfl,rfl,SqL.of Y.md.1,at2 _ _ _ _,.inl ⟨rfl,_,SqL.of p⟩,_,rfl,_,rfl,M,_,2,_,rfl,rfl,SqL.of Y.md.1,at2 _ _ _ _,R,g,rfl,.inl (SqL.of p),st,_,rfl,ag,⟨by lia,by lia⟩,λz H3 f3 z0 z1=>?_⟩;have al:=f2.trans f3;have G:=Y.fx f3 ag nM nR nL;obtain⟨g,p,c⟩:=id G.md.2.2.2;have O:=c.len;obtain⟨i,rfl⟩:∃i:Nat,z=i:=⟨z.toNat,by lia⟩;have hz:i<g.length:=by lia
  obtain⟨q0,a2,qa,aw,as⟩:=cA c (b8 hz);refine⟨R,g,_,i,g[i],rfl,rfl,p,by lia,by lia,PySem.StrLaws.seqIndex_nonneg (by lia) (by lia),b8 hz,?_⟩;have B:KP K (λb=>b≠R) H3 (L2.upd H3 R (.lst (g.eraseIdx i))):=.jA p λz=>z rfl;have a4:L2.upd H3 R (.lst (g.eraseIdx i)) R=some (.lst (g.eraseIdx i)):=aF;have a5:∀{b},L2.upd H3 R (.lst (g.eraseIdx i)) b=none->H3 b=none:=λ{b} h=>by
   by_cases zz:b=R
   ·rw[zz,aF] at h;cases h
   ·rw[aK zz] at h;exact h
  generalize L2.upd H3 R (.lst (g.eraseIdx i))=H4 at B a4 a5 ⊢;obtain⟨dx,aa⟩:=G.st.at_;have no:∀{b u},H3 b=some u->(∀ys,u≠.lst ys)->b≠R:=λh hu z=>by rw[z,p] at h;cases h;exact hu _ rfl
  have D:=no aa λ_ z=>(by cases z);have N:=no G.st.ens.at_ λ_ z=>(by cases z);have b1:=G.st.kp B D N λy hy=>by rw[List.mem_singleton.mp hy];exact l.n2
  have ao:=W.rows q0 (t8 a2);have pe:=tZ a2;have ap:q0∈e.t.rows:=by rw[l.et];exact a1.mem_iff.mpr (t8 a2)
  dsimp only[bO,List.set];refine⟨_,rfl,x,dx,_,rfl,B.st _ _ D aa,rfl,_,rfl,_,rfl,x,d,dm,m,[],[],e,g[i],q0,rfl,b1,⟨qa,aw,B.tk _ _ as⟩,by rw[l.et];exact ao,ap,λv L a H5 pm k5 Z au=>?_⟩;rw[l.et] at pm;have pr:a.Perm (t.rows.eraseIdx i):=(List.Perm.trans pm (a1.trans pe.symm)).cons_inv;have I:∀y∈t.rows.eraseIdx i,gC t.hd y:=λy hy=>W.rows y (List.mem_of_mem_eraseIdx hy);have es:srt a=srt (t.rows.eraseIdx i):=(pN (λy hy=>fM (I y hy)) pr.symm).symm;have kk:KP K (λb=>b≠R/\b≠d) H3 H5:=(B.mono λb z=>z.1).trans (k5.mono λb z=>z.2);have le:=bER t.rows i;have av:bU K H4 R (t.rows.eraseIdx i):=⟨_,a4,aBz (c.imp λ_ _ ⟨b,e1,e2⟩=>⟨b,e1,B.tk _ _ e2⟩) i⟩;have a8:=a5 Z;refine af (e':={ e with v:=v,L:=L,t:={ e.t with rows:=srt a } }) al kk (G.upd kk au rfl ?_ a8 (av.kp k5 N.symm) ⟨W.hd,W.pl,by show (t.rows.eraseIdx i).length<=60;lia,I⟩) rfl (by lia) (f3.st.ne a8);show ({ e.t with rows:=srt a }:Tb)=_;rw[l.et,es]
 ·obtain⟨f5,ae⟩:=az;have j:=l.fx f5 hs nM nR nL;obtain⟨g,p,c⟩:=id j.md.2.2.2;have O:=c.len;refine⟨_,rfl,M,_,2,_,rfl,rfl,SqL.of j.md.1,at2 _ _ _ _,.inl ⟨rfl,_,SqL.of p⟩,_,rfl,R,_,_,rfl,rfl,p,mU (by lia),?_⟩;have B:KP K (λb=>b≠R) S (L2.upd S R (.lst (g++[.ref X]))):=.jA p λz=>z rfl;have a7:L2.upd S R (.lst (g++[.ref X])) R=some (.lst (g++[.ref X])):=aF;have a6:∀{b},L2.upd S R (.lst (g++[.ref X])) b=none->S b=none:=λ{b} h=>by
   by_cases zz:b=R
   ·rw[zz,aF] at h;cases h
   ·rw[aK zz] at h;exact h
  generalize L2.upd S R (.lst (g++[.ref X]))=H6 at B a7 a6 ⊢;obtain⟨dx,ab⟩:=j.st.at_;have no:∀{b u},S b=some u->(∀ys,u≠.lst ys)->b≠R:=λh hu z=>by rw[z,p] at h;cases h;exact hu _ rfl
  have D:=no ab λ_ z=>(by cases z);have N:=no j.st.ens.at_ λ_ z=>(by cases z);have aj:=j.st.kp B D N λy hy=>by rw[List.mem_singleton.mp hy];exact l.n2
  have a0:∀{u r},cL K S u r->cL K H6 u r:=λ⟨b,e1,e2⟩=>⟨b,e1,B.tk _ _ e2⟩;have lR:e.t.rows.length<60:=by rw[l.et];show (srt t.rows).length<60;rw[nJ];lia
  refine⟨_,rfl,x,dx,_,rfl,B.st _ _ D ab,rfl,_,rfl,_,rfl,x,d,dm,m,[],[],e,.ref X,r,rfl,aj,a0 ae,by rw[l.et];exact ad,lR,λv L H7 k7 b0 ah=>?_⟩;have kk:KP K (λb=>b≠R/\b≠d) S H7:=(B.mono λb z=>z.1).trans (k7.mono λb z=>z.2);have I:∀y∈t.rows++[r],gC t.hd y:=λy hy=>by
   rcases List.mem_append.mp hy with hy|hy
   ·exact W.rows y hy
   ·rw[List.mem_singleton.mp hy];exact ad
  have es:srt (e.t.rows++[r])=srt (t.rows++[r]):=by rw[l.et];exact (pN (λy hy=>fM (I y hy)) (a1.symm.append_right [r])).symm
  have ai:bU K H6 R (t.rows++[r]):=⟨_,a7,cG.app (c.imp λ_ _ z=>a0 z) (.cons (a0 ae) .nil)⟩;have Z:=a6 b0;have l1:(t.rows++[r]).length=t.rows.length+1:=by rw[w6];rfl
  refine af (e':={ e with v:=v,L:=L,t:={ e.t with rows:=srt (e.t.rows++[r]) } }) f5 kk (j.upd kk ah rfl ?_ Z (ai.kp k7 N.symm) ⟨W.hd,W.pl,by show (t.rows++[r]).length<=60;lia,I⟩) rfl (by lia) (f5.st.ne Z);show ({ e.t with rows:=srt (e.t.rows++[r]) }:Tb)=_;rw[es,l.et]
structure LI (K:bF4)(H:Hp)(C x:Addr)(m:Int)(d dm M R N W Pt st:Addr)(nms:List Str)(xs:List V)(e:En)(vh vp vm:V)(t:Tb)(n:Str)(h0:Int)(cs:List (V × Int))(o:Option Mv)(k:Nat):Prop where
 s:iG H st
 y:Sy K H C x m d dm M R e vh vp vm t n h0 cs o
 nm:some e.n=nms[0]?
 fw:t.rows.length<=k
 gN:H N=some (.lst (nms.map V.str))
 gW:H W=some (.lst xs)
 gP:H Pt=some (.tab qC)
 nM:M≠st
 nR:R≠st
 nL:e.L≠st
 nN:N≠st
 nW:W≠st
 a1:N≠M
 a2:N≠R
 a3:W≠M
 a4:W≠R
section
variable {H H':Hp}{C x d dm M R N W Pt st:Addr}{m:Int}{nms:List Str}{xs:List V}{e:En}{vh vp vm:V}{t:Tb}{n:Str}{h0:Int}{cs:List (V × Int)}{o:Option Mv}{k:Nat}
theorem LI.same (s:Same H H')(h:LI K H C x m d dm M R N W Pt st nms xs e vh vp vm t n h0 cs o k):LI K H' C x m d dm M R N W Pt st nms xs e vh vp vm t n h0 cs o k:=⟨h.s.same s,h.y.same s,h.nm,h.fw,s _ _ h.gN,s _ _ h.gW,s _ _ h.gP,h.nM,h.nR,h.nL,h.nN,h.nW,h.a1,h.a2,h.a3,h.a4⟩
def LI.at0 (h:LI K H C x m d dm M R N W Pt st nms xs e vh vp vm t n h0 cs o k):(nms.map V.str)[0]?=some (.str e.n):=by rw[v7,<-h.nm];rfl
def LI.nD (h:LI K H C x m d dm M R N W Pt st nms xs e vh vp vm t n h0 cs o k)(g:H b=some u)(c:∀l,u≠.dK l):b≠dm/\b≠d:=by obtain⟨_,_,a⟩:=id h.y.mv;exact⟨λz=>by rw[z,a] at g;cases g;exact c _ rfl,λz=>by rw[z,h.y.st.ens.at_] at g;cases g;exact c _ rfl⟩
def LI.go (h:LI K H C x m d dm M R N W Pt st nms xs e vh vp vm t n h0 cs o k)(f:KP K (λb=>b≠st/\b≠M/\b≠dm/\b≠d/\b≠R) H H')(v:iG H' st)(y:Sy K H' C x m d dm M R e' vh vp' vm' t' n h0' cs' o')(w:e'.n=e.n)(B:t'.rows.length<=k')(A:e'.L≠st):LI K H' C x m d dm M R N W Pt st nms xs e' vh vp' vm' t' n h0' cs' o' k':=by have r:∀{b u},H b=some u->(∀l,u≠.lst l)->b≠st/\b≠M/\b≠R:=λg c=>⟨λz=>by obtain⟨_,a,_⟩:=h.s;rw[z,a] at g;cases g;exact c _ rfl,λz=>by rw[z,h.y.md.1] at g;cases g;exact c _ rfl,λz=>by obtain⟨_,a,_⟩:=h.y.md.2.2.2;rw[z,a] at g;cases g;exact c _ rfl⟩;have p:=r h.gP λ_ z=>(by cases z);have j:=h.nD h.gP λ_ z=>(by cases z);have i:=h.nD h.gN λ_ z=>(by cases z);have q:=h.nD h.gW λ_ z=>(by cases z);exact⟨v,y,by rw[w];exact h.nm,B,f.st _ _ ⟨h.nN,h.a1,i.1,i.2,h.a2⟩ h.gN,f.st _ _ ⟨h.nW,h.a3,q.1,q.2,h.a4⟩ h.gW,f.st _ _ ⟨p.1,p.2.1,j.1,j.2,p.2.2⟩ h.gP,h.nM,h.nR,A,h.nN,h.nW,h.a1,h.a2,h.a3,h.a4⟩
theorem LI.fx (f:Fx st H H')(h:LI K H C x m d dm M R N W Pt st nms xs e vh vp vm t n h0 cs o k):LI K H' C x m d dm M R N W Pt st nms xs e vh vp vm t n h0 cs o k:=
 h.go ((KP.fx f h.s λz=>z rfl).mono λb z=>z.1) f.st (h.y.fx f h.s h.nM h.nR h.nL) rfl h.fw h.nL
end
inductive aOm (K:bF4)(Pt:Addr)(vs:List V)(H:Hp)(Q:VK)(E_:XK):Prop
 |mk (a:Addr) (ns:List Int) (_:vs=[.ref a]) (_:SqL K H a (ns.map V.int)) (_:ns.length<=63) (_:H Pt=some (.tab qC)) (_:∀H',H' Pt=some (.tab qC)->Q (.bl true) H')
def bB0 {f:Addr}{fd:FuncData}(F:Fun K "law" "law" aV1 f fd)(T:Txt w K mg){C Pt:Addr}(ex:Ok P w K mg base 1 "_law_seed" ["_law_script"] (aO4 K))(aN:Ok P w K mg base 1 "_law_next" n7 jK)(f7:Ok P w K mg base 2 "_law_names" n7 aU0)(uH:Ok P w K mg base 13 "_law_spans_begun" bQE (aLs K C Pt))(fb:Ok P w K mg base 2 "_law_lent" ["_law_state","_law_table","_law_houses"] (aPt K))(oN:Ok P w K mg base 3 "_law_above" bQG (yM K))(vM:Ok P w K mg base 14 "_law_right" o7 (aJ4 K C Pt))(ew:Ok P w K mg base 8 "_law_try" ["_law_store","_law_name","_law_table"] (aPc K C))(f2:Ok P w K mg base 6 "_law_changed" o9 (aP3 K C))(ao:OkM P w K mg base C 5 "lend" ["self","name","number","house"] (aO7 K C))(al:OkM P w K mg base C 5 "carry" ["self","name","many"] (aJx K C)):gJ P w K mg base CX0 15 f fd ["_law_script"] (aOm K Pt):=by
 refine Fun.okV F aT0 (λvs H Q E h=>?_) (λez A e4 s H vs Q E hr h=>?_)
 ·obtain⟨a,ns,rfl,_⟩:=h;rfl
 obtain⟨a,ns,rfl,ha,hn,dp,q⟩:=h;have hU:=hr.units;have nd:=aT0.nd;refine⟨_,(aB (aY 1 (cY (va1 (aV ex (va1 (vv 0)))))) (aB (aY 2 (aV f7 (aH (vv 1) (va1 aA)))) (aB (jH (aV uH (aH (vv 1) (aH (vv 2) (va1 aA)))) (uJ rfl (aX (cR 3) (aX (cR 4) (aX (cR 5) eQ))))) (aB (aY 6 aA) (aB (iQ PassesOwn.never rfl (eO (bF pI (cY (va1 aA)) (dC wC (vv 0) fB (dW aA)))) (cR 7) (aB (aY 1 (cY (va1 (bF dG (aO bA (vv 1) aA) (bF jU (vv 7) (bF aGn aA aA)))))) (aB (bM (VW.pt (aF0 (cZ aF6 (aO bA (vv 4) aA) fU) (aFx (cZ aS6 (vv 6) aA)))) (aB (jH (aV fb (aH (vv 1) (aH (vv 4) (va1 (vv 5))))) (xX (vv 4) aA set_list)) (aB (dJ (iB ao (vv 3) (aH (aO bA (vv 2) aA) (aH (aO aP (aO bA (vv 4) aA) aA) (va1 (aO aP (aO bA (vv 4) aA) aA)))))) (aD (aY 6 (bF dG (vv 6) aA))))) aU) (aB (bM (cZ dN (aV aN (aH (vv 1) (va1 aA))) aA) (aD (dJ (aV f2 (aH (vv 1) (aH (vv 3) (aH (aO bA (vv 2) aA) (va1 (vv 4)))))))) aU) (aB (bM (cZ vH (aO bA (vv 4) aA) fU) (aB (aY 8 (dC wC (aL (tK rfl) (by rfl) T.dX dB (va1 (cC (aFt rfl hU) (by rfl) T.aPb aH1 (va1 (aV oN (va1 (vv 4))))))) fB (dW (bF jU (vv 7) aA)))) (aB (dJ (iB al (vv 3) (aH (aO bA (vv 2) aA) (va1 (bF jU (vv 7) aA))))) (aB (bM (cZ (aCn hU) (vv 8) (cY xR)) (aD (jH (cN (aH (aO aP (aO bA (vv 4) aA) aA) (aH (aO aP (aO bA (vv 4) aA) aA) (va1 (aO bA (vv 8) (aZd aUh aA)))))) (xX (vv 4) aA set_list))) aU) (aD (bM (VW.pt (fK (cF (bW (aV vM (aH (vv 3) (aH (aO bA (vv 2) aA) (aH (vv 4) (va1 (vv 5)))))))) (dZ (cF (bW (aV ew (aH (vv 3) (aH (aO bA (vv 2) aA) (va1 (vv 4)))))))))) (aD (aJ fP)) aU))))) aU) (aD (bM (cF (bW (aV vM (aH (vv 3) (aH (aO bA (vv 2) aA) (aH (vv 4) (va1 (vv 5)))))))) (aD (aJ fP)) aU))))))) (aD (aJ fP))))))),?_⟩;refine⟨_,rfl,a,ns,rfl,ha,hn,λc0 H1 s1 _ _=>⟨by show 1<=sizeLine;decide,λst H2 e8 s2 g2=>?_⟩⟩;have c2:iG H2 st:=⟨c0,g2,trivial⟩;refine⟨_,rfl,st,rfl,c2,λN H3 ac f3 dc gN dy=>?_⟩;have bv:N≠st:=c2.ne dc;have bn:=s2 _ _ (s1 _ _ dp);have cr:Pt≠st:=λz=>by rw[z,g2] at bn;cases bn
 have cv:=f3.same _ _ cr bn;refine⟨_,rfl,_,rfl,st,N,ac,rfl,f3.st,gN,bv,dy,cv,λt x M R d Y m vh G tb e n J I H4 f4 ht hM hS cm eh cy cb lr d5 m2 m4 cw c5 ei dz dw ed=>?_⟩;refine⟨t,_,rfl,ht,rfl,_,_,rfl,_,_,rfl,_,_,rfl,rfl,?_⟩;have eo:N≠M:=aQ gN cw;have e9:N≠R:=aQ gN c5;have nM:=f3.st.ne cw;have nR:=f3.st.ne c5;have nL:=f3.st.ne ei;have ck:=f4.same _ _ bv gN;have c8:=f4.same _ _ cr cv;have ba:Sy K H4 C x m d Y M R e vh G .non tb n J I none:=⟨hS,hM,⟨.non,rfl,cm⟩,rfl,cy,cb,d5,λ_ _ z=>(by cases z),λ_ z=>(by cases z),m2,m4,dz,dw,ed⟩;have e5:SqL K H4 a (ns.map V.int):=by
  have go:∀{o},H1 a=some o->H4 a=some o:=λh1=>by have n1:=aQ h1 e8;exact f4.same _ _ n1 (f3.same _ _ n1 (s2 _ _ h1))
  rcases s1.seq ha with (h|⟨o,h⟩)|h
  ·exact .inl (.inl (go h))
  ·exact .inl (.inr ⟨o,go h⟩)
  ·exact .inr h
 dsimp only[bO,List.set];refine⟨by show 1<=sizeLine;decide,λz8 H8 f0 s8 g8=>?_⟩;refine⟨_,rfl,_,rfl,a,ns.map V.int,rfl,s8.seq e5,λp9 H9 dl s9 g9=>?_⟩;rw[show mZ (ns.map V.int) none (some 40)=(ns.map V.int).take 40 from oJ _ 40] at g9;have fa:((ns.map V.int).take 40).length<=40:=by rw[bAI];lia
 refine⟨z8,p9,_,_,rfl,rfl,s9 _ _ g8,g9,small (by show 1+_<=1000;lia),λW cn hW es am=>?_⟩;have ab:=s8.trans (s9.trans es);obtain⟨xs,bo⟩:∃xs,xs=[V.int 0]++(ns.map V.int).take 40:=⟨_,rfl⟩;have ej:∀y∈xs,∃c,y=.int c:=λy hy=>by
  rw[bo] at hy;rcases List.mem_append.mp hy with hy|hy
  ·exact⟨0,List.mem_singleton.mp hy⟩
  ·obtain⟨c,_,rfl⟩:=List.mem_map.mp (bDV hy);exact⟨c,rfl⟩
 have f9:xs.length<=41:=by rw[bo,w6];show 1+_<=41;lia
 have am:cn W=some (.lst xs):=by rw[bo];exact am
 have eg:W≠M:=(aQ ((s8.trans s9) _ _ ba.md.1) hW).symm;have da:W≠R:=by obtain⟨us,gR,_⟩:=ba.md.2.2.2;exact (aQ ((s8.trans s9) _ _ gR) hW).symm
 have e2:W≠st:=((f4.st.same s8).same s9).ne hW;have c1:LI K cn C x m d Y M R N W Pt st ac xs e vh G .non tb n J I none 10:=⟨f4.st.same ab,ba.same ab,eh,lr,ab _ _ ck,am,ab _ _ c8,nM,nR,nL,bv,e2,eo,e9,eg,da⟩;refine⟨W,rfl,⟨_,SqL.of am⟩,aK3 (xs:=xs) (λi σ H'=>∃(st:Addr) (e:En) (G U:V) (t:Tb) (J:Int) (I:List (V × Int)) (o:Option Mv) (O:Int) (l7 l8:Option V),LI K H' C x m d Y M R N W Pt st ac xs e vh G U t n J I o (10+i)/\σ=[some (.ref a),some (.ref st),some (.ref N),some (.ref x),some (.ref M),some (.int m),some (.int O),l7,l8]) ⟨st,e,_,_,tb,_,_,none,0,none,none,c1,rfl⟩ (λi σ H' _ p=>by obtain⟨st,e,G,U,t,J,I,o,O,l7,l8,k,_⟩:=p;exact SqL.of k.gW) (λi y σ bu ey p=>?_) fun σ bu p=>?_⟩
 ·clear c1 am ab ba c8 ck hM hS cy cb lr d5 cm ht;obtain⟨st,e,G,U,t,J,I,o,O,l7,l8,k,rfl⟩:=p;obtain⟨c,rfl⟩:=ej y (t8 ey);have hi:i<xs.length:=(List.getElem?_eq_some_iff.mp ey).1;obtain⟨sv,cp,_⟩:=k.s;refine⟨_,rfl,st,_,0,_,rfl,rfl,SqL.of cp,at0 _ _,_,rfl,_,_,rfl,rfl,⟨by decide,by decide,by decide⟩,_,_,rfl,rfl,(by show (0:Int)<10 ^ 18;decide),_,_,rfl,rfl,by show 1<=sizeLine;decide,λv aq bf ak b0=>?_⟩;have a8:LI K aq C x m d Y M R N W Pt v ac xs e vh G U t n J I o (10+i):=by have fr:∀{b o},bu b=some o->b≠v:=λh=>aQ h bf;have l:=k.same ak;obtain⟨us,gR,_⟩:=k.y.md.2.2.2;obtain⟨_,_,_,_,_,⟨fg,gL,_⟩⟩:=k.y.st.ens.tb e j0;exact⟨⟨_,b0,trivial⟩,l.y,l.nm,l.fw,l.gN,l.gW,l.gP,fr k.y.md.1,fr gR,fr gL,fr k.gN,fr k.gW,l.a1,l.a2,l.a3,l.a4⟩
  clear k cp ak b0 bf sv;dsimp only[bO,List.set];refine wO (S:=aG3 _ _ _) (fun σ H'=>∃U o O,LI K H' C x m d Y M R N W Pt v ac xs e vh G U t n J I o (10+i)/\σ=[some (.ref a),some (.ref v),some (.ref N),some (.ref x),some (.ref M),some (.int m),some (.int O),some (.int c),l8]) (λNX hN=>?_) fun σ' H' hJ=>?_
  ·refine aUg (λH8=>Same aq H8/\o=none) (λH8=>Same aq H8) (λRR hT hF=>?_) (λH8 y8=>?_) λH8 s8=>hN _ _ ⟨U,o,O,a8.same s8,rfl⟩
   ·refine⟨_,rfl,M,_,3,_,rfl,rfl,SqL.of a8.y.md.1,bH (j:=3) rfl,rfl,_,rfl,?_⟩;cases o with
    |some mq=>obtain⟨ma,vk,rfl,bk,f6⟩:=id (show mK K aq U mq from a8.y.vm);exact dH (v9 λz=>by cases z) (hF _ (Same.refl _))
    |none=>
     cases (show U=.non from a8.y.vm);refine iY (m9 rfl) ⟨_,rfl,_,_,rfl,rfl,_,rfl,?_⟩;cases decide (O<5) with
     |true=>exact hT _ ⟨Same.refl _,rfl⟩
     |false=>exact hF _ (Same.refl _)
   ·obtain⟨s8,rfl⟩:=y8;have k:=a8.same s8;refine⟨_,rfl,_,rfl,_,rfl,v,M,R,m,vh,G,U,t,n,J,I,rfl,k.s,k.y.md,k.y.ok,k.y.pl,k.y.m2,k.y.m4,k.nM,λp5 num ho H5 f5 g5 bg cx cj c9=>?_⟩;have Z:=k.fx f5;obtain⟨b9,ec,cc,bz⟩:=id Z.y.md;refine⟨_,rfl,M,_,3,3,rfl,rfl,b9,rfl,?_⟩;dsimp only[List.set];have kM:KP K (λb=>b≠M) H5 (L2.upd H5 M (.lst [vh,G,.ref R,.ref p5])):=.jA b9 λz=>z rfl;have g6:L2.upd H5 M (.lst [vh,G,.ref R,.ref p5]) M=some (.lst [vh,G,.ref R,.ref p5]):=aF;have b5:SqT K (L2.upd H5 M (.lst [vh,G,.ref R,.ref p5])) p5 [.int (num:Nat),.int ho,.non]:=SqT.jA b9 (SqT.of g5);generalize L2.upd H5 M (.lst [vh,G,.ref R,.ref p5])=H6 at kM g6 b5 ⊢;obtain⟨dx,cf⟩:=Z.y.st.at_;obtain⟨_,_,ai⟩:=id Z.y.mv;have ai:H5 Y=some (.dK []):=ai;have no:∀{b u},H5 b=some u->(∀l,u≠.lst l)->b≠M:=λg hu z=>by rw[z,b9] at g;cases g;exact hu _ rfl
    have cg:=no cf λ_ z=>(by cases z);have dr:=no Z.y.st.ens.at_ λ_ z=>(by cases z);have ca:=no ai λ_ z=>(by cases z);have dg:=Z.y.st.kp kM cg dr λy hy=>by rw[List.mem_singleton.mp hy];exact Z.y.n3
    have az:e.t.pl=.spans n J I:=by rw[Z.y.et];exact Z.y.pl
    refine⟨_,rfl,x,dx,_,rfl,kM.st _ _ cg cf,rfl,_,rfl,N,_,0,.str e.n,rfl,rfl,SqL.of (kM.st _ _ Z.a1 Z.gN),bH (j:=0) Z.at0,_,rfl,M,_,3,_,rfl,rfl,SqL.of g6,bH (j:=3) rfl,p5,_,0,_,rfl,rfl,b5,at0 _ _,_,rfl,M,_,3,_,rfl,rfl,SqL.of g6,bH (j:=3) rfl,p5,_,1,_,rfl,rfl,b5,at1 _ _ _,x,d,Y,m,[e],e,n,J,I,num,ho,rfl,dg,j0,az,kM.st _ _ ca ai,bg,cx,cj,c9,λH7 k7 db c3=>?_⟩;refine⟨_,rfl,_,_,rfl,rfl,?_⟩;have ap:KP K (λb=>b≠M/\b≠Y) H5 H7:=(kM.mono λb z=>z.1).trans (k7.mono λb z=>z.2);have ea:v≠Y:=λz=>by obtain⟨_,e1,_⟩:=Z.s;rw[z,ai] at e1;cases e1
    have d1:R≠Y:=λz=>by obtain⟨_,e1,_⟩:=bz;rw[z,ai] at e1;cases e1
    have y7:Sy K H7 C x m d Y M R e vh G (.ref p5) t n J I (some ⟨num,ho,none⟩):=⟨db,⟨k7.st _ _ ca.symm g6,ec.tk ap.tk,cc.tk ap.tk,bz.kp ap ⟨Z.y.n1.symm,d1⟩⟩,c3,⟨p5,.non,rfl,k7.tk _ _ b5,rfl⟩,Z.y.et,Z.y.ok,Z.y.pl,λ_ _ z1 z2=>(by cases z1;cases z2),λ_ z1=>(by cases z1;exact⟨c9,bg,cx,cj⟩),Z.y.m2,Z.y.m4,Z.y.n1,Z.y.n2,Z.y.n3⟩;exact hN _ _ ⟨.ref p5,_,O+1,Z.go (ap.mono λb z=>⟨z.2.1,z.2.2.1⟩) (aOw Z.s λo h=>ap.st _ _ ⟨Z.nM.symm,ea⟩ h) y7 rfl Z.fw Z.nL,rfl⟩
  clear a8;obtain⟨U,o,O,k,rfl⟩:=hJ;refine wO (S:=aG3 _ _ _) (fun σ H'=>∃e t,LI K H' C x m d Y M R N W Pt v ac xs e vh G U t n J I o (10+(i+1))/\σ=[some (.ref a),some (.ref v),some (.ref N),some (.ref x),some (.ref M),some (.int m),some (.int O),some (.int c),l8]) (λNX hN=>?_) fun σ' H' hJ=>?_
  ·refine⟨_,rfl,v,4,rfl,k.s,by decide,λz ep dq z0 z1=>⟨rfl,_,rfl,?_⟩⟩;have l:=k.fx dq;cases decide (V.int z=V.int 0) with
   |false=>exact bY (hN _ _ ⟨e,t,{ l with fw:=by have:=l.fw;lia },rfl⟩)
   |true=>refine eX ⟨_,rfl,_,rfl,_,rfl,N,_,0,.str e.n,rfl,rfl,SqL.of l.gN,bH (j:=0) l.at0,_,rfl,v,x,d,Y,M,R,m,e,vh,G,U,t,n,J,I,o,10+i,rfl,l.s,l.y,l.nM,l.nR,l.nL,l.fw,by lia,λe' t' H' k' de y' en lr ds=>?_⟩;exact hN _ _ ⟨e',t',l.go (k'.mono λb z=>⟨z.1,z.2.2.2.1,z.2.2.2.2⟩) de y' en (by lia) ds,rfl⟩
  clear k;obtain⟨e,t,k,rfl⟩:=hJ;refine wO (S:=aG3 _ _ _) (fun σ H'=>∃e G U t J I o l8,LI K H' C x m d Y M R N W Pt v ac xs e vh G U t n J I o (10+(i+1))/\σ=[some (.ref a),some (.ref v),some (.ref N),some (.ref x),some (.ref M),some (.int m),some (.int O),some (.int c),l8]) (λNX hN=>?_) fun σ' H' hJ=>?_
  ·cases o with
   |none=>cases (show U=.non from k.y.vm);exact⟨_,rfl,M,_,3,_,rfl,rfl,SqL.of k.y.md.1,bH (j:=3) rfl,rfl,_,rfl,dH rfl (hN _ _ ⟨e,G,.non,t,J,I,none,l8,k,rfl⟩)⟩
   |some mq=>
   have X:=k.y;have bb:mK K H' U mq:=X.vm;refine⟨_,rfl,M,_,3,_,rfl,rfl,SqL.of X.md.1,bH (j:=3) rfl,rfl,_,rfl,iY (by obtain⟨ma,vk,e1,_⟩:=bb;rw[e1];rfl) ?_⟩;have ok:=X.ok;have fe:=ok.few;have ls:=nJ t.rows;have bw:=λq0 e0=>X.mk_ mq q0 rfl e0;have b1:∀r∈t.rows,KdR (knds t.hd) r:=λr L=>fM (ok.rows r L);have f1:∀r∈srt t.rows,KdR (knds t.hd) r:=λr L=>b1 r (fC L);obtain⟨k2,ek⟩:∃k2:Nat,c % 4=k2:=⟨(c % 4).toNat,by lia⟩;refine⟨_,rfl,M,R,vh,G,U,t,mq,m,n,J,I,rfl,X.md,bb,ok,X.pl,bw,λD2 aq ef ak bx=>?_⟩;obtain⟨Wt,eW⟩:∃Wt,Wt=fY { t with rows:=srt t.rows } n I mq.num mq.mark:=⟨_,rfl⟩;rw[<-eW] at bx;have kW:∀r∈Wt,r∈t.rows:=λr L=>by rw[eW] at L;exact fC (List.mem_filter.mp L).1
   have lW:Wt.length<=60:=by rw[eW];exact bAE (bAY _ _) (by show (srt t.rows).length<=60;lia)
   obtain⟨u2,b0,bm⟩:=id bx;have ff:=bm.len;refine⟨D2,u2,Wt,rfl,SqL.of b0,cP bm,λr L=>uX (ok.rows r (kW r L)),by lia,λD3 ep as qs du b6 cu ay b3=>?_⟩;have la:=ay.len;have ld:=b3.2.2;rw[j6] at la;refine⟨D3,as,qs,knds t.hd,rfl,cu,ay.imp λ_ _ z=>z.same b6,by lia,jP ok.hd.1,λr L=>b1 r (kW r ((b3.2.1 r).mp L)),λB dd b4 hB ah cz cq=>?_⟩;refine⟨_,rfl,_,_,rfl,rfl,(by show (0:Int)<4;decide),_,rfl,B,b4,rfl,SqL.of cz,λp ad hp br bq=>?_⟩;rw[ek,show mZ b4 none (some ((k2:Nat):Int))=b4.take k2 from oJ _ k2] at bq;have ct:cG (cL K ad) (b4.take k2) ((srt qs).take k2):=(yH (gO cq) k2).imp λ_ _ z=>z.same (ah.trans br);have d4:=ak.trans (b6.trans (ah.trans br));have a7:=k.same d4;have D:=a7.y;have bl:mK K ad U mq:=D.vm;obtain⟨S,eS⟩:∃S,S=(srt qs).take k2:=⟨_,rfl⟩;have eu:∀r∈S,gC t.hd r:=λr L=>by rw[eS] at L;exact ok.rows r (kW r ((b3.2.1 r).mp (fC (bDV L))))
   rw[<-eS] at ct;have d2:bU K ad p S:=⟨_,bq,ct⟩;have fp:p≠M:=(aQ ((ak.trans (b6.trans ah)) _ _ X.md.1) hp).symm;have e3:∀r∈Wt,KdR (knds t.hd) r:=λr L=>b1 r (kW r L);clear ak b6 ah br bx b0 bm cu ay cz cq ef du hB;obtain⟨dx,bd⟩:=D.st.at_;have az:e.t.pl=.spans n J I:=by rw[X.et];exact X.pl
   obtain⟨_,_,bi⟩:=id D.mv;have nD:∀{b u},ad b=some u->(∀l,u≠.dK l)->b≠Y:=λh hu=>(a7.nD h hu).1;have df:=nD D.md.1 λ_ z=>(by cases z);dsimp only[bO,List.set];refine wO (S:=aIn _) (fun σ H'=>KP K (λb=>b≠Y) ad H'/\bC K H' C x m d Y [e]/\MvD K H' Y e.n (some { mq with mark:=qZ mq.mark S })/\σ=[some (.ref a),some (.ref v),some (.ref N),some (.ref x),some (.ref M),some (.int m),some (.int O),some (.int c),some (.ref p)]) (λNX ax=>?_) fun σ' bs hJ=>?_
   ·refine⟨_,rfl,x,dx,_,rfl,bd,rfl,_,rfl,N,_,0,.str e.n,rfl,rfl,SqL.of a7.gN,bH (j:=0) a7.at0,_,rfl,_,_,rfl,rfl,(by show (0:Int)<4;decide),x,d,Y,m,[e],e,mq,n,J,I,k2,(by show [V.ref x,V.str e.n,V.int (c % 4)]=_;rw[ek]),D.st,j0,D.mv,az,λq0 e0=>by rw[X.et];exact bw q0 e0,λee bc=>?_⟩;rw[X.et,<-eW] at bc;have eq:(srt ee).take k2=S:=by rw[eS,aWz bc b3 e3]
    rw[eq];refine⟨λcl bs bt=>ax _ _ ⟨.same bt,D.st.same bt,?_,rfl⟩,λr hl bs aj au ae=>ax _ _ ⟨aj,au,?_,rfl⟩⟩
    ·rw[cl];exact D.mv.same bt
    ·rw[show qZ mq.mark S=some r by unfold qZ;rw[hl]];exact ae
   obtain⟨aj,au,ae,rfl⟩:=hJ;have ce:=D.md.kp aj df (by obtain⟨uR,gR,_⟩:=id D.md.2.2.2;exact nD gR λ_ z=>(by cases z));have bj:=bl.tk aj.tk;obtain⟨co,ch,bh⟩:=id (d2.kp aj (nD bq λ_ z=>(by cases z)));have lS:=bh.len;have dv:∀q0,qZ mq.mark S=some q0->gC t.hd q0:=λq0 e0=>by
    unfold qZ at e0
    split at e0
    ·exact bw q0 e0
    ·rename_i r hl;cases e0;exact eu _ (List.mem_of_getLast? hl)
   refine wO (S:=aG3 _ _ _) (fun σ H'=>∃b2,Sy K H' C x m d Y M R e vh G b2 t n J I (some { mq with mark:=qZ mq.mark S })/\KP K (λb=>b≠M/\b≠Y) ad H'/\σ=[some (.ref a),some (.ref v),some (.ref N),some (.ref x),some (.ref M),some (.int m),some (.int O),some (.int c),some (.ref p)]) (λNX ax=>?_) fun σ' f8 hJ=>?_
   ·refine⟨_,rfl,by show 0<=sizeLine;decide,λp9 dn dl aa em=>⟨p,p9,_,rfl,rfl,SqL.of (aa _ _ ch),SqL.of em,_,rfl,?_⟩⟩;have ag:=ce.same aa;have aw:=bj.same aa;have be:=au.same aa;have av:=ae.same aa;have ci:KP K (λb=>b≠M/\b≠Y) ad dn:=(aj.mono λb z=>z.2).trans (.same aa);have c6:∀a5 q0,some { mq with mark:=qZ mq.mark S }=some a5->a5.mark=some q0->gC t.hd q0:=λa5 q0 z1 z2=>by cases z1;exact dv q0 z2
    have c4:∀a5,some { mq with mark:=qZ mq.mark S }=some a5->a5.house≠jX a5.num J I/\a5.num<=I.length/\0<=a5.house/\a5.house<m:=λa5 z1=>by cases z1;exact X.hn mq rfl
    have di:∀i u,co[i]?=some u->∃r,S[i]?=some r/\cL K bs u r:=λi u z=>cA bh z;cases co with
    |nil=>have e0:S=[]:=bAZ lS.symm;refine dH rfl (ax _ _ ⟨U,⟨be,ag,av,?_,X.et,ok,X.pl,c6,c4,X.m2,X.m4,X.n1,X.n2,X.n3⟩,ci,rfl⟩);rw[e0];exact aw
    |cons u0 ur=>
     refine iY rfl ?_;obtain⟨ul,d0⟩:∃ul,(u0::ur)[(u0::ur).length - 1]?=some ul:=⟨_,b8 (by rw[m8];lia)⟩;obtain⟨r,eb,e6⟩:=di _ _ d0;have hl:S.getLast?=some r:=by rw[List.getLast?_eq_getElem?,<-lS];exact eb
     obtain⟨ma,vk,rfl,bk,_⟩:=id aw;refine⟨_,rfl,M,_,3,_,rfl,rfl,SqL.of ag.1,bH (j:=3) rfl,ma,_,0,_,rfl,rfl,bk,at0 _ _,_,rfl,M,_,3,_,rfl,rfl,SqL.of ag.1,bH (j:=3) rfl,ma,_,1,_,rfl,rfl,bk,at1 _ _ _,_,rfl,_,rfl,p,_,_,ul,rfl,rfl,SqL.of (aa _ _ ch),aO1 d0,by show 3<=sizeLine;decide,λan bp _ af e7=>?_⟩;have a9:=ag.same af;refine⟨_,rfl,M,_,3,3,rfl,rfl,a9.1,rfl,?_⟩;rw[show ([vh,G,V.ref R,V.ref ma]:List V).set 3 (V.ref an)=[vh,G,.ref R,.ref an] from rfl];have a0:KP K (λb=>b≠M) bp (L2.upd bp M (.lst [vh,G,.ref R,.ref an])):=.jA a9.1 λz=>z rfl;have nM:∀{b u},ad b=some u->(∀l,u≠.lst l)->b≠M:=λh hu z=>by rw[z,D.md.1] at h;cases h;exact hu _ rfl
     refine ax _ _ ⟨.ref an,⟨(be.same af).kp a0 (nM bd λ_ z=>(by cases z)) (nM D.st.ens.at_ λ_ z=>(by cases z)) (λy hy=>by rw[List.mem_singleton.mp hy];exact X.n3),⟨aF,a9.2.1.tk a0.tk,a9.2.2.1.tk a0.tk,a9.2.2.2.kp a0 X.n1.symm⟩,(av.same af).kp a0 (nM bi λ_ z=>(by cases z)),⟨an,ul,rfl,a0.tk _ _ (SqT.of e7),?_⟩,X.et,ok,X.pl,c6,c4,X.m2,X.m4,X.n1,X.n2,X.n3⟩,ci.trans ((KP.same af).trans (a0.mono λb z=>z.1)),rfl⟩;show aH2 K _ ul (qZ mq.mark S);rw[show qZ mq.mark S=some r by unfold qZ;rw[hl]];obtain⟨b,e1,hb⟩:=e6;exact⟨b,e1,a0.tk _ _ ((aa.trans af).aR hb)⟩
   obtain⟨b2,d3,kk,rfl⟩:=hJ;have cd:v≠Y:=λz=>by obtain⟨_,e1,_⟩:=a7.s;rw[z,bi] at e1;cases e1
   have ar:=a7.go (kk.mono λb z=>⟨z.2.1,z.2.2.1⟩) (aOw a7.s λo h=>kk.st _ _ ⟨a7.nM.symm,cd⟩ h) d3 rfl a7.fw a7.nL;refine aUg (λ_=>False) (λH8=>∃e G U t J I o,LI K H8 C x m d Y M R N W Pt v ac xs e vh G U t n J I o (10+(i+1))) (λRR hT hF=>?_) (λ_ z=>z.elim) λH8 z=>?_
   ·refine⟨_,rfl,_,rfl,N,_,0,.str e.n,rfl,rfl,SqL.of ar.gN,bH (j:=0) ar.at0,_,rfl,_,rfl,x,d,Y,M,R,m,e,vh,G,b2,t,n,J,I,_,rfl,ar.y,ar.gP,λbp af=>⟨_,rfl,bY ?_⟩⟩;have a6:=ar.same af;refine⟨_,rfl,_,rfl,N,_,0,.str e.n,rfl,rfl,SqL.of a6.gN,bH (j:=0) a6.at0,_,rfl,x,d,Y,M,R,m,e,vh,G,b2,t,n,J,I,_,rfl,a6.y,λe' dj dk t' dh dt o' fc a0 d6 en eL er=>⟨_,rfl,?_⟩⟩;obtain⟨_,_,ev⟩:=id a6.y.mv;have el:=a6.y.st.ens.at_;have n1:v≠Y:=cd;have n2:v≠d:=λz=>by obtain⟨_,e1,_⟩:=a6.s;rw[z,el] at e1;cases e1
    exact hF _ ⟨e',dj,dk,t',dh,dt,o',a6.go (a0.mono λb z=>⟨z.2.1,z.2.2.1,z.2.2.2.1⟩) (aOw a6.s λo h=>a0.st _ _ ⟨a6.nM.symm,n1,n2⟩ h) d6 en (by rw[er];exact a6.fw) (by rw[eL];exact a6.nL)⟩
   ·obtain⟨e,G,U,t,J,I,o,k⟩:=z;exact hN _ _ ⟨e,G,U,t,J,I,o,_,k,rfl⟩
  clear k;obtain⟨e,G,U,t,J,I,o,l8,k,rfl⟩:=hJ;refine⟨_,rfl,_,rfl,N,_,0,.str e.n,rfl,rfl,SqL.of k.gN,bH (j:=0) k.at0,_,rfl,_,rfl,x,d,Y,M,R,m,e,vh,G,U,t,n,J,I,o,rfl,k.y,k.gP,λdd ah=>⟨_,rfl,bY ?_⟩⟩;exact⟨v,e,G,U,t,J,I,o,O,_,_,k.same ah,rfl⟩
 ·obtain⟨st,e,G,U,t,J,I,o,O,l7,l8,k,rfl⟩:=p;exact q bu k.gP
def bBi {fa Pt:Addr}(T:Txt w K mg)(CT:aSl K mg "are_cuts" Pt)(Q:mg "law"=some (.ref fa)) :
  ∃fd:FuncData,(∀(s:Shared) (u:Value),BindsTo s fd ⟨[u],[]⟩ [("_law_script",u)])/\∀base:Heap,K.In base->base.Ns mainGlobals mg->BM mg base->gJ P w K mg base CX0 15 fa fd ["_law_script"] (aOm K Pt):=by
 obtain⟨f,fd,F,B,m⟩:=T.bDc;have e:fa=f:=by rw[m] at Q;injection Q with e;injection e with e;exact e.symm
 subst e;refine⟨fd,?_,λbase hK _ N=>?_⟩
 ·obtain⟨⟨oc,od,kV,a0,pm,an,a5,H,a4,rfl,lk,a3⟩,kp⟩:=F;exact λs u=>.of_eq rfl
 ·obtain⟨Tc,D,m0,m3,m4,m6,I,a2⟩:=T.bAb;obtain⟨Sc,W,q0,q1,q2,q3,q4,q5,q6,q7,q8,qs,q9,qa,qb,i,E,j⟩:=T.aWh;obtain⟨CN,SN,t,fN⟩:=T.bE7;have c:=D.cls;have b:=W.cls;have p:=aKr (P:=P) (base:=base) T;have R:=aMw (P:=P) (base:=base) T;have G:=aM0 T R;have g4:=aJy T p R;have g5:=aNp T p;have Y:=aHd (P:=P) (base:=base) T;have O:=uD T p;have g:=aF4 (P:=P) (base:=base) T;have Z:=aCc T g4 g5;have J:=aNx (P:=P) (base:=base) T;have x:=aR2 (P:=P) (base:=base) T;have z:=aK0 T CT hK N (aAo T) (aRs T O) Z;have pl:=aDr T Y (aAs T G g) J z;have d:=aL4 T Z;have tb:=aJr T (aJt T (aH8 T G Y) (aBg T) (aD8 T) g) pl (aK9 T d);have S:=yZ T (aH5 T p G tb);have a:=aI5 T G;have X:=aL1 T O (aHf T (zN T g) (aYu T p (aA9 T)) x);have n:=aGe (P:=P) (base:=base) T;have V:=aD5 T n (aDt T n);have r:=aJn T V;have k:=aHt (P:=P) (base:=base) T;have l:=aHx (P:=P) (base:=base) T;have po:=zN T g;have y:=aN2 T b q9 i j a;have H:=aVi T b q1 i a;have U:=aGu T po x;have ab:=aIl (P:=P) (base:=base) T;have wr:=aGt (P:=P) (base:=base) T;have L:Ok P w K mg base 1 "_law_home" ["_law_value_here","_law_houses"] aZy:=Ok.ofV T.aLk aHe (λ_ _ _ _ h=>h.elim) λ_ _ _ _ _ _ _ _ _ _ h=>h.elim;have C:=aDx T k L l;have q:=aAf T k l;have v:=aL7 (P:=P) (w:=w) (mg:=mg) (base:=base) T b q3 j;have o:=aXt T b q7 i j U ab;have A:=aEa T q;have M:=aL2 T t b qs i j H v o (aG7 T);exact bB0 F T (aHr T) n (aD3 T n (aEb T)) (rY T n (aHu T n) V r (OkM.make W (aRe T b q0 i E j S))) (aH6 T n) A (aDp T C (aA8 T C q) y (aS7 T b qb i E (OkM.make D (aV8 T c m0 I a2 S))) (aLp T b qa i E a X y U ab) (aIp T c m3 I a) (aRo T c m4 I a) (aSv T c m6 I a2 a X)) (aI0 T A (aAi T t fN M)) (aAp T n r (aXm T b q4 i a d wr) (aT8 T b q5 i a d wr)) (aU9 T b q6 E j O H (aR0 (P:=P) (w:=w) (mg:=mg) (base:=base) T b q2 j)) (aSc T b q8 j H v o)
def aTr {Pt:Addr}{H:Hp}{a:Addr}{c:List Int}{E:XK}(e:c.length<=63)(d:sY [(Pt,qC)] H)(f:SqL K H a (c.map V.int)):aOm K Pt [.ref a] H (λv H'=>v=.bl true/\sY [(Pt,qC)] H') E:=
 ⟨a,c,rfl,f,e,d _ (List.mem_singleton.mpr rfl),λH' h=>⟨rfl,λp b=>by rcases List.mem_singleton.mp b with rfl;exact h⟩⟩
def aZ9 {h:Heap}{Pt f c:Addr}{o:Obj}{d:FuncData}(X:K.In h)(G:h.Ns mainGlobals mg)(a:PySem.W.nsIn K mainGlobals "are_cuts"=some (some (.ref f)))(l:K.lookup f=some o)(b:o.data=.func d)(g:d.code=.ref c)(e:PySem.W.codeHdIn K c Pt=true):aSl K mg "are_cuts" Pt:=
 ⟨f,o,d,c,bEG X G a,l,b,g,e⟩
def aXa {Pt f c:Addr}{o:Obj}{fd:FuncData}(a:PySem.W.nsIn K mainGlobals "are_cuts"=some (some (.ref f)))(l:K.lookup f=some o)(e1:o.data=.func fd)(e2:fd.code=.ref c)(d:PySem.W.codeHdIn K c Pt=true)(n:K.lookup Pt=none) :
  ∀p∈[(Pt,qC)],(∃c,PySem.W.codeHdIn K c p.1=true)/\K.lookup p.1=none:=λp b=>by
 rcases List.mem_singleton.mp b with rfl;exact⟨⟨c,d⟩,n⟩
def aW5 {Pt:Addr}{h:Heap}(x:∀P∈[Pt],h.get? P=some (PySem.W.tabObj #[])):∀p∈[(Pt,qC)],h.get? p.1=some { cls:=.none,data:=.fields #[] }:=λp a=>by rcases List.mem_singleton.mp a with rfl;exact x _ (List.mem_singleton.mpr rfl)
def aR9 {l:PySem.W.OpenLaw}{n k:Nat}{q:Program}{loose:List Str}{XP:(bF7)->Heap->Prop}{YP:World->Heap->Prop}{d:DefRec}{K:Params->bF4}{CX:CXT}{sp:bF4->Sp}{x:Str}
  (y:l.most=some n) (o:n<=sizeLine) (g:d.params.defaults=[]) (B:Room k callerA)
  (ts:List (Addr × Str)) (t:(ts.map (·.1)).Nodup)
  (z:∀(w:World) (h:Heap),YP w h->(K w.params).In h/\∀p∈ts,h.get? p.1=some { cls:=.none,data:=.fields #[] })
  (A:∀(w:World),∀p∈ts,(∃c,PySem.W.codeHdIn (K w.params) c p.1=true)/\(K w.params).lookup p.1=none)
  (F:∀(w:World) (mg:bF7) (fa:Addr) (h:Heap),(K w.params).In h->h.Ns mainGlobals mg->mg d.name=some (.ref fa) ->
   ∃fd:FuncData,(∀(s:Shared) (u:Value),BindsTo s fd ⟨[u],[]⟩ [(x,u)]) /\
    ∀base:Heap,(K w.params).In base->base.Ns mainGlobals mg->BM mg base->gJ l.prog w (K w.params) mg base CX k fa fd [x] (sp (K w.params)))
  (j:∀(K:bF4) (H:Hp) (a:Addr) (ns:List Int),ns.length<=n->sY ts H->SqL K H a (ns.map V.int)->sp K [.ref a] H (λv H'=>v=.bl true/\sY ts H') λ_ _ _=>False)
  (r:∀(H:Hp) (s:Shared) (e:Value) (s':Shared),CX [] H s (λ_ _ _=>False) e s'->False) :
  PySem.W.WalkO q loose XP YP l.row.toRowW d [] (λf vs=>PySem.call f vs):=
 aVt (K:=K) (CX:=λ_=>CX) (sp:=λw=>sp (K w.params)) y o g B ts t z A F (λw H a ns b m i=>j (K w.params) H a ns b m i) λ_ H s e s'=>r H s e s'
end
inductive FA (K:bF4)(n:Str)(s:Stmt)(f:Addr):Prop
 |mk {od an:Option Addr} {sl:Array (Option Value)} {kV dc pm cd ct:Value}:PySem.W.nsIn K mainGlobals n=some (some (.ref f))->K.lookup f=some ⟨.type "function",od,.func (PySem.W.fnOf n n (jN s) (cX s) (aC s) .none kV dc pm an cd ct),sl⟩->PySem.W.codeIn K cd n=true->PySem.W.keepIn K (.ref f)=true->FA K n s f
section
variable {K:bF4}{h:Heap}{mg:bF7}{n:Str}{s:Stmt}{f:Addr}{ps:List Str}
def aZv (X:K.In h)(G:h.Ns mainGlobals mg)(a:FA K n s f):mg n=some (.ref f):=by obtain⟨a,_,_,_⟩:=a;exact bEG X G a
def bC8 (X:K.In h)(G:h.Ns mainGlobals mg)(a:FA K n s f)(b:∀(kV doc pm:Value) (an:Option Addr) (cdv ct:Value) (us:List Value),us.length=ps.length->bindArgs (PySem.W.fnOf n n (jN s) (cX s) (aC s) .none kV doc pm an cdv ct) ⟨us,[]⟩=pure (ps.zip us)):Dn K mg n s ps:=by have m:=aZv X G a;obtain⟨_,l,c,k⟩:=a;exact⟨f,_,xQ l c k,(xQ l c k).binds b,m⟩
def bDz (X:K.In h)(G:h.Ns mainGlobals mg)(a:FA K n s f):∃f o,(∃u,mg n=some u/\RelV (.ref f) u)/\K.lookup f=some o/\o.cls=.type "function":=by have m:=aZv X G a;obtain⟨_,l,c,k⟩:=a;exact⟨f,_,⟨_,m,rfl⟩,l,rfl⟩
end
inductive CA (K:bF4)(x:Str)(C:Addr):Prop
 |mk:PySem.W.nsIn K mainGlobals x=some (some (.ref C))->PySem.W.plainGet K C Str.empty=true->PySem.W.hasDictIn K C=true->PySem.W.plainOver K C=true->PySem.W.findIn K (.ref C) "__setattr__"=some (some (.builtin "object.__setattr__"))->PySem.W.makesIn K C=true->PySem.W.keepIn K (.ref C)=true->CA K x C
def bEq {K:bF4}{h:Heap}{mg:bF7}{x:Str}{C:Addr}(X:K.In h)(G:h.Ns mainGlobals mg)(a:CA K x C):aVn K mg x C:=by obtain⟨a,c,f,e,d,g,b⟩:=a;exact⟨bEG X G a,⟨c,f,e,d⟩,g,b⟩
inductive MA (K:bF4)(C:Addr)(m qual:Str)(s:Stmt)(f:Addr):Prop
 |mk {od an:Option Addr} {sl:Array (Option Value)} {kV dc pm cd ct:Value}:PySem.W.findIn K (.ref C) m=some (some (.ref f))->PySem.W.isFn K (.ref f)=true->K.lookup f=some ⟨.type "function",od,.func (PySem.W.fnOf m qual (jN s) (cX s) (aC s) .none kV dc pm an cd ct),sl⟩->PySem.W.codeIn K cd qual=true->PySem.W.keepIn K (.ref f)=true->MA K C m qual s f
def bEj {K:bF4}{C:Addr}{m qual:Str}{s:Stmt}{f:Addr}{ps:List Str}(a:MA K C m qual s f)(b:∀(kV doc pm:Value) (an:Option Addr) (cdv ct:Value) (us:List Value),us.length=ps.length->bindArgs (PySem.W.fnOf m qual (jN s) (cX s) (aC s) .none kV doc pm an cdv ct) ⟨us,[]⟩=pure (ps.zip us)):eG K C m qual s ps:=by obtain⟨a,i,l,c,k⟩:=a;exact⟨f,_,⟨a,i,k⟩,xQ l c k,(xQ l c k).binds b⟩
theorem ln0 {P:List Value->Prop}(h:P []):∀us:List Value,us.length=0->P us
 |[],_=>h
theorem lnS {P:List Value->Prop}{n:Nat}(h:∀a us,us.length=n->P (a::us)):∀us:List Value,us.length=n+1->P us
 |[],e=>by cases e
 |a::us,e=>h a us (Nat.succ.inj e)
def ln1 {P:List Value->Prop}(h:∀a0,P [a0]):∀us:List Value,us.length=1->P us:=lnS λa0=>ln0 (h a0)
def ln2 {P:List Value->Prop}(h:∀a0 a1,P [a0,a1]):∀us:List Value,us.length=2->P us:=lnS λa0=>lnS λa1=>ln0 (h a0 a1)
def ln3 {P:List Value->Prop}(h:∀a0 a1 a2,P [a0,a1,a2]):∀us:List Value,us.length=3->P us:=lnS λa0=>lnS λa1=>lnS λa2=>ln0 (h a0 a1 a2)
def ln4 {P:List Value->Prop}(h:∀a0 a1 a2 a3,P [a0,a1,a2,a3]):∀us:List Value,us.length=4->P us:=lnS λa0=>lnS λa1=>lnS λa2=>lnS λa3=>ln0 (h a0 a1 a2 a3)
def ln5 {P:List Value->Prop}(h:∀a0 a1 a2 a3 a4,P [a0,a1,a2,a3,a4]):∀us:List Value,us.length=5->P us:=lnS λa0=>lnS λa1=>lnS λa2=>lnS λa3=>lnS λa4=>ln0 (h a0 a1 a2 a3 a4)
def ln6 {P:List Value->Prop}(h:∀a0 a1 a2 a3 a4 a5,P [a0,a1,a2,a3,a4,a5]):∀us:List Value,us.length=6->P us:=lnS λa0=>lnS λa1=>lnS λa2=>lnS λa3=>lnS λa4=>lnS λa5=>ln0 (h a0 a1 a2 a3 a4 a5)
inductive XA (K:bF4)(x:Str)(C S fI:Addr):Prop
 |mk {nm q:Str} {N:Addr} {bs bm:List Value} {sn:List Str} {sub:List Value} {ab:Bool} {col:Option Bool} {dd:Option Addr} {k0 k1 k2 k3 k5:Option Value} {cd:ClassData} {od an:Option Addr} {sl:Array (Option Value)} {kV dc pm cdv ct:Value} :
  PySem.W.nsIn K mainGlobals x=some (some (.ref C))->PySem.W.nsIn K mainGlobals "ShardError"=some (some (.ref S)) ->
  K.lookup C=some (excClassObj nm q C N bs bm true sn sub ab col dd k0 k1 k2 k3 k5 "ValueError.__new__") ->
  bm.contains (.type "ValueError")=true->bm.contains (.type "AttributeError")=false->bm.contains (.type "NameError")=false->bm.contains (.type "BaseException")=true ->
  PySem.W.clsIn K C=some cd->(aJ0 cd.mro && cd.hasDict)=true ->
  PySem.W.findIn K (.ref C) "__init__"=some (some (.ref fI))->PySem.W.typeIn K (.ref fI)=some (.type "function") ->
  PySem.W.findIn K (.ref C) "__setattr__"=some (some (.builtin "object.__setattr__"))->PySem.W.findIn K (.ref C) "__getattribute__"=some (some (.builtin "BaseException.__getattribute__")) ->
  PySem.W.findIn K (.ref C) "__getattr__"=some none->PySem.W.findIn K (.ref C) "act"=some none->PySem.W.findIn K (.ref C) "__class__"=some (some (.builtin "object.__class__")) ->
  K.lookup fI=some ⟨.type "function",od,.func (PySem.W.fnOf "__init__" "ShardError.__init__" (jN lZ) (cX lZ) (aC lZ) .none kV dc pm an cdv ct),sl⟩ ->
  PySem.W.codeIn K cdv "ShardError.__init__"=true->PySem.W.keepIn K (.ref fI)=true->PySem.W.keepIn K (.ref C)=true->PySem.W.typeIn K (.ref C)=some (.type "type") ->
  PySem.W.mroIn K C (.type "BaseException")=some true->PySem.W.mroIn K C (.ref S)=some true->PySem.W.mroIn K C (.ref C)=some true->XA K x C S fI
def bDj {K:bF4}{h:Heap}{mg:bF7}{x:Str}{C S fI:Addr}(X:K.In h)(G:h.Ns mainGlobals mg)(a:XA K x C S fI):∃C S,ExT K mg lZ x "ShardError.__init__" C S/\PySem.W.mroIn K C (.ref C)=some true:=by obtain⟨s,A,p,u,w,r,q,m,t,n,v,z,y,o,f,j,c,d,b,l,k,e,i,g⟩:=a;exact⟨C,S,⟨⟨fI,_,⟨⟨_,_,_,_,_,_,_,_,_,_,_,_,_,_,_,p,u,w,r,q⟩,n,v,by rw[m];exact t,z,y,o,f,j⟩,xQ c d b,(xQ c d b).binds λ_ _ _ _ _ _=>ln2 λ_ _=>rfl⟩,bEG X G s,l,⟨k,by rw[m];rfl,e⟩,i⟩,g⟩
def aZp {K:bF4}{h:Heap}{mg:bF7}{n:Str}{l:List V}{a:Addr}{o:Obj}{vs:Array Value}{m:Nat}(X:K.In h)(G:h.Ns mainGlobals mg)(q:PySem.W.nsIn K mainGlobals n=some (some (.ref a)))(r:K.lookup a=some o)(t:o.cls=.type "tuple")(y:o.dict=none)(u:o.data=.seq vs m)(v:Vals l vs.toList)(s:l.length<=1000):∃a,mg n=some (.ref a)/\∀H,SqT K H a l:=
 ⟨_,bEG X G q,λH=>.inr ⟨_,_,_,r,t,y,u,by have e:=v.length;simp only[v4] at e;rw[<-e];exact small s,v⟩⟩
def aZt {K:bF4}{h:Heap}{mg:bF7}{n:Str}{v:V}{u:Value}(X:K.In h)(G:h.Ns mainGlobals mg)(q:PySem.W.nsIn K mainGlobals n=some (some u))(r:RelV v u):∃u,mg n=some u/\RelV v u:=⟨u,bEG X G q,r⟩
def bEm {K:bF4}{h:Heap}{mg:bF7}{x:Str}{C:Addr}{R:Addr->Prop}(X:K.In h)(G:h.Ns mainGlobals mg)(a:CA K x C)(r:R C):∃C,aVn K mg x C/\R C:=⟨C,bEq X G a,r⟩
end My
open PySem PySem.W PyProof.Rows
namespace PySem.W.Fast
def tw17028276759578977883:=0
def tw6294741027192329911:=0
def tw17737917443398303407:=0
def tw9903831048770899315:=0
def tw16793940238233181419:=0
def tw3934206848638296143:=0
def tw967791365743464818:=0
def tw11334521317013846848:=0
def tw5425693572183494947:=0
def tw14176769610389375103:=0
def tw6094079443309240555:=0
def tw9402334557790210234:=0
def tw5862924523219431083:=0
def tw10172004350919987222:=0
def tw10048387046203412186:=0
def tw13081473573298778894:=0
def tw10728665713378713410:=0
def tw7432462698461793779:=0
def tw14046940761367415134:=0
def tw15758169420649187480:=0
def tw6860821150184820619:=0
def tw3604641170408429346:=0
def tw9484049287598295223:=0
def tw10652259767826753690:=0
def tw12028283323772486769:=0
def tw11610630207083376773:=0
def tw6745298249601859636:=0
def tw1968925098321117781:=0
def tw10506983070235950987:=0
def tw10857217587706303898:=0
def tw12401258825885934295:=0
def tw5476123735477928272:=0
def tw4523182742905577129:=0
def tw4360275516668264473:=0
def tw8118910608160976682:=0
def tw12498420610889596646:=0
def tw4819599807111418308:=0
def tw17237085128453958106:=0
def tw2190026769253098415:=0
def tw535327810609440949:=0
def tw14133312467852335109:=0
def tw6886625529581811680:=0
def tw12341047329637457492:=0
def tw11216586871899110633:=0
def tw10843581036687311904:=0
def tw3823416293827547529:=0
def tw3792372685837699904:=0
def tw8552198526978809159:=0
def tw12588226719412111950:=0
def tw10702403019959254267:=0
def tw3416197388972151671:=0
def tw3692399559551607089:=0
def tw431692128603762197:=0
def tw11271766779097438100:=0
def tw8199952803896200592:=0
def tw17932110157442707300:=0
def tw1949387335420888920:=0
def tw5868047857554994922:=0
def tw5363459776934305467:=0
def tw11858609761145377265:=0
def tw1869533297673119461:=0
def tw15160516764816509824:=0
def tw14338324695430339221:=0
def tw2685927606535736:=0
def tw12689729765958190138:=0
def tw5975060496555584466:=0
def tw1639022507876802523:=0
def tw13042443580532938181:=0
def tw7183667677463753880:=0
def tw5972074071843696132:=0
def tw2601502507335546018:=0
def tw10750577486050659998:=0
def tw6633230966565466820:=0
def tw5197956445900995063:=0
def tw15945699263546492386:=0
def tw10273187052406838072:=0
def tw9075386469663133154:=0
def tw9057961750194170078:=0
def tw4014071039111074724:=0
def tw18141050576224359707:=0
def tw7904193760905669506:=0
def tw334489093891959615:=0
def tw2736848111212164415:=0
def tw18377176852762098625:=0
def tw1764272828053998278:=0
def tw6869087471921220774:=0
def tw16858876328164710845:=0
def tw15784732035762350392:=0
def tw10510304632098027411:=0
def tw9016119542797871767:=0
def tw10008216810020097625:=0
def tw11874970195411522089:=0
def tw14960402962365151221:=0
def tw4322263644395434366:=0
def tw106978444643211398:=0
def tw17798364740884222974:=0
def tw17687915309788759029:=0
def tw7681209324117062458:=0
def tw14372959979209945939:=0
def tw4223593810123825706:=0
def tw2185048571642538449:=0
def tw12522760247193018541:=0
def tw10369351772183343541:=0
def tw14301634685404752232:=0
def tw13018571114314370207:=0
def tw12649285188656423819:=0
def tw14485872438539214389:=0
def tw11402725374622142732:=0
def tw14148917007445941502:=0
def tw13318111797593491980:=0
def tw1032137357373453640:=0
def tw17371194728114569300:=0
def tw9604125774059682604:=0
def tw6184072133061326519:=0
def tw10299241006459634056:=0
def tw14440713785548520384:=0
def tw12089690163889532818:=0
def tw8477661541653314962:=0
def tw608390113331951297:=0
def tw13658081971206578313:=0
def tw17878270746985165873:=0
def tw16602026054470121267:=0
def tw17290505140710749250:=0
def tw17193658729997383961:=0
def tw9223660035664621697:=0
def tw14787143962270177917:=0
def tw5568350503573078786:=0
def tw13037394155732582676:=0
def tw10265200817768457016:=0
def tw7848475280638494395:=0
def tw4029092818425975113:=0
def tw12691958079800649451:=0
def tw17279425909379089648:=0
def tw15712330322316820925:=0
def tw13558210232684357160:=0
def tw10526544727866820086:=0
def tw7229687179923921865:=0
def tw16610790698868906807:=0
def tw14180021942440610016:=0
def tw322740404870396464:=0
def tw10264926702134270823:=0
def tw1773514251634324983:=0
def tw4350919229071155952:=0
def tw5862904782595207493:=0
def tw8966368922819584789:=0
def tw9300992854726268116:=0
def tw3285417915487351423:=0
def tw7431738721614923724:=0
def tw2175446403733187793:=0
def tw8135663965372865745:=0
def tw784519679599548116:=0
def tw2256968950688775371:=0
def tw11222824633224334472:=0
def tw11379554245299732283:=0
def tw9446068462997626709:=0
def tw2253895139233594714:=0
def tw17719186919384278147:=0
def tw6570149734088314935:=0
def tw12715008425690958776:=0
def tw2419384124787084553:=0
def tw3652911265417001135:=0
def tw14545153752475311979:=0
def tw13458829285174016809:=0
def tw13220037183671524814:=0
def tw13192044292511984910:=0
def tw9381110813036082355:=0
def tw6302338053003983990:=0
def tw6361950846863587105:=0
def tw18045144014350174440:=0
def tw15913485711024013458:=0
def tw6023540240375425755:=0
def tw9121228255795823915:=0
def tw16144969939520436783:=0
def tw12706737717777073309:=0
def tw6806039347491769768:=0
def tw12854060186236991130:=0
def tw9147961239907052393:=0
def tw17298325837170150948:=0
def tw13481242453185426537:=0
def tw4261166716534169300:=0
def tw7206149893548274373:=0
def tw6957172669022371194:=0
def tw4193177350106382201:=0
def tw4971072113105728630:=0
def tw13040109948663648861:=0
def tw17682831597213229149:=0
def tw10519974918575714584:=0
def tw11178274959435348823:=0
def tw3581521479711416256:=0
def tw3353817139639709218:=0
def tw5473182383645477761:=0
def tw16127067663932228248:=0
def tw1903388218323548749:=0
def tw5710731156633212862:=0
def tw11903248000320649509:=0
def tw10662467721052402096:=0
def tw4932982368959695583:=0
def tw6222971420793495493:=0
def tw5503165648562408998:=0
def tw12233751242262940229:=0
def tw10932171838428547648:=0
def tw10877537247605562624:=0
def tw10247346110393909629:=0
def tw7564847223722559285:=0
def tw14681400442407797911:=0
def tw6022599633690360836:=0
def tw16077524783383209443:=0
def tw3774672569562684940:=0
def tw4271279378227058351:=0
def tw10919968556135368136:=0
def tw9171657570182771395:=0
def tw8873004934604522877:=0
def tw15538932709418481884:=0
def tw9707445120490732167:=0
def tw11854654911027525765:=0
def tw15000816126821372364:=0
def tw15288947355842731414:=0
def tw8077571759288130089:=0
def tw18060827383385120053:=0
def tw12682790554013171132:=0
def tw5451721780492055830:=0
def tw8429127742097626593:=0
def tw17899943925095415722:=0
def tw17692920830607055132:=0
def tw8227295297595046181:=0
def tw1925084451579131250:=0
def tw7853726620779909260:=0
def tw3411625809770441654:=0
def tw6924578332535340364:=0
def tw7060011782365980376:=0
def tw5914163021529499183:=0
def tw13804956741355878685:=0
def tw6657340171517565929:=0
def tw17681300549008257545:=0
def tw7983970640863021606:=0
def tw5695956492748102167:=0
def tw15282301018400512983:=0
def tw4977696690866518795:=0
def tw8826085968212299755:=0
def tw16201486760627863811:=0
def tw14330909733436643857:=0
def tw7019417328752542193:=0
def tw13547358979162419141:=0
def tw4966758660759808776:=0
def tw6925489555043166936:=0
def tw10257049293941091924:=0
def tw1060798389305278092:=0
def tw3464106876254380758:=0
def tw957347813717157947:=0
def tw8141999186059590453:=0
def tw6874021410527449082:=0
def tw289263879864819478:=0
def tw17680114980789284220:=0
def tw15541720882196683802:=0
def tw14428226527608402007:=0
def tw15508266909486728575:=0
def tw10978118604457104526:=0
def tw14014488860947823539:=0
def tw10112397549584526901:=0
def tw1590660583747281249:=0
def tw16054912038083618509:=0
def tw4773586145533685448:=0
def tw10978631198482781402:=0
def tw14212283694397555423:=0
def tw11010316556513990483:=0
def tw12301545044358051580:=0
def tw3159201596280512984:=0
def tw8834126518286540579:=0
def tw17411683427691074684:=0
def tw7279046884666028259:=0
def tw14390308541719473187:=0
def tw15787300968884090119:=0
def tw10343555001603537930:=0
def tw18159224557324546812:=0
def tw11050394160447072989:=0
def tw5903222570479055560:=0
def tw15883497531743022170:=0
def tw3527259191750003458:=0
def tw5169867234878787061:=0
def tw2374573933550650391:=0
def tw18195768843705040750:=0
def tw12497218805134008067:=0
def tw9050816951087460683:=0
def tw1454545609681427069:=0
def tw15302243392263350278:=0
def tw12151172934184528903:=0
def tw6571100735571881706:=0
def tw3736422128766129811:=0
def tw4398348451671715494:=0
def tw2403132967857266380:=0
def tw9107825244974912420:=0
def tw5240376465855538010:=0
def tw17669667562100445344:=0
def tw10046317173586558047:=0
def tw9957290042919275796:=0
def tw12881393759999024037:=0
def tw5121832696474588297:=0
def tw4774013758208408201:=0
def tw15402863406912056774:=0
def tw14839026926359204153:=0
def tw7686194029775389474:=0
def tw13263376490045523388:=0
def tw11262157135356187998:=0
def tw14274851376964174359:=0
def tw12081916233650792762:=0
def tw8785800671534102261:=0
def tw6408769313660864937:=0
def tw4282764361155879570:=0
def tw2199921361795469805:=0
def tw1655024239970496581:=0
def tw16209937949828260859:=0
def tw8014192363639294712:=0
def tw5060964780118020582:=0
def tw3917220096083780752:=0
def tw12050341281063161310:=0
def tw15033440433834311999:=0
def tw17175684265410740414:=0
def tw1369166481438705223:=0
def tw8895830558155302496:=0
def tw11448279663712746214:=0
def tw10109824284624943294:=0
def tw220855797323099367:=0
def tw7591175792119187185:=0
def tw17950324793859802112:=0
def tw12487030334206606085:=0
def tw10121043564416235881:=0
def tw693484845529437735:=0
def tw2331071488861767528:=0
def tw1625299378952124820:=0
def tw5861729556191361956:=0
def tw6989870103189382736:=0
def tw1020310599831093600:=0
def tw8209394180130164418:=0
def tw5767957315726114718:=0
def tw15164641614110956595:=0
def tw1345544639848488590:=0
def tw454715648786472865:=0
def tw3088921069870111296:=0
def tw16564809697126438480:=0
def tw11301062906376306865:=0
def tw1124745139378954979:=0
def tw10932710890086456844:=0
def tw8610715412555649274:=0
def tw8513680398626138355:=0
def tw253744472329179612:=0
def tw16577568729580409813:=0
def tw12494028946156044568:=0
def tw2583416372870022065:=0
def tw7587828522093467442:=0
def tw5356082038676217804:=0
def tw8350175261683134058:=0
def tw16538929575496945053:=0
def tw15538836294099383410:=0
def tw14640594378480786971:=0
def tw12104459257557028451:=0
def tw7982021177656989133:=0
def tw6432447669710266714:=0
def tw2455221295361054030:=0
def tw13164473689381469622:=0
def tw10049711865995010542:=0
def tw8458852184717926346:=0
def tw4232745579291192739:=0
def tw12518333513301478339:=0
def tw11449701397109952418:=0
def tw166724149484193958:=0
def tw2093506383783338070:=0
def tw12948389581635157794:=0
def tw9775189718653125666:=0
def tw12509638969355418700:=0
def tw11073178591535592763:=0
def tw4675157195039578139:=0
def tw10928372708344070930:=0
def tw7315724934847207069:=0
def tw400755266057776740:=0
def tw6729340073117883298:=0
def tw885862256006052532:=0
def tw7135353983420828418:=0
def tw7072518591840229216:=0
def tw5122297913989887115:=0
def tw3644575076903469747:=0
def tw17186085103809805649:=0
def tw15662759607308050372:=0
def tw15288646219910100494:=0
def tw18258330433026528453:=0
def tw14623884707263246902:=0
def tw13495396202622779389:=0
def tw2141474553918812448:=0
def tw6892621034861044576:=0
def tw10823907415993749822:=0
def tw6329180209691959181:=0
def tw5301809707998618351:=0
def tw5800608823600417120:=0
def tw10826596720060417312:=0
def tw12172525948906634288:=0
def tw3451154920266853067:=0
def tw7072352062765137017:=0
def tw17482418991687428129:=0
def tw7722327225009625081:=0
def tw13927397841856391459:=0
def tw17822613182157549743:=0
def tw12200543349873531210:=0
def tw118658699981789495:=0
def tw5916673283623942442:=0
def tw7887193782909068902:=0
def tw1798797901967100938:=0
def tw14967144757837349484:=0
def tw7519378157793132148:=0
def tw2507460474078475845:=0
def tw16759511182566318495:=0
def tw4773935734382464079:=0
def tw16205121652560942212:=0
def tw2204352558799403074:=0
def tw13630490701421025314:=0
def tw6505519047566352726:=0
def tw13912549124307105865:=0
def tw12905303570133060120:=0
def tw11807195332352564689:=0
def tw12498386248154591961:=0
def tw2607366171896946782:=0
def tw14405460601374279886:=0
def tw3420339839068933614:=0
def tw16125760542437797605:=0
def tw5316182609725366069:=0
def tw4211649896342872280:=0
def tw18185428554380092392:=0
def tw1627988377561250208:=0
def tw18114206013807662079:=0
def tw2722567829805902586:=0
def tw5481565147334907955:=0
def tw17754779327761473879:=0
def tw2407727717389615028:=0
def tw15945100933389834119:=0
def tw8782906411032348842:=0
def tw425972230398854473:=0
def tw2245851451842626674:=0
def tw7880594247819756404:=0
def tw5647568816799616311:=0
def tw10638711415582326316:=0
def tw15983113160713561149:=0
def tw3922138712373591393:=0
def tw3688261950227364770:=0
def tw16041522203348301594:=0
def tw6943359088392915307:=0
def tw4893367690632626938:=0
def tw2581251311841332412:=0
def tw14957201187647209835:=0
def tw12030823909084891807:=0
def tw9170183494618090314:=0
def tw6786703574113133500:=0
def tw5781032030065945987:=0
end PySem.W.Fast
set_option maxRecDepth 100000 in
set_option maxHeartbeats 0 in
theorem PySem.Challenge.cw_shardask_k64_settle_holds : PySem.Challenge.rw_shardask_k64_settle.Holds := by
 w_on;o_law;k_head;(case hw=>w_witness2)
 k_fill
 refine My.aR9 (l:=PySem.Challenge.rw_shardask_k64_settle) (n:=63) (k:=15) (x:="_law_script") (CX:=L2.CX0) (sp:=fun K=>My.aOm K 278) rfl (by decide) rfl ⟨rfl,by decide,by decide⟩ [(278,My.qC)] (by decide) (fun w h Y=>⟨PySem.W.km_in_of Y,My.aW5 (PySem.W.km_tabs_of Y)⟩) ?C ?F (fun K H a ns hl hO hS=>My.aTr hl hO hS) (fun _ _ _ _ z=>z)
 case C=>
  intro w
  refine' My.aXa ?a ?l ?e1 ?e2 ?h ?n
  (case a=>k_is)
  (case l=>k_is)
  (case e1=>rfl)
  (case e2=>rfl)
  (case h=>first|k_is|kernel_rfl|decide +kernel)
  (case n=>first|k_is|kernel_rfl|decide +kernel)
 case F=>
  intro w mg fa h KX G hmg
  have T:My.Txt w (L2.KOf KX) mg:=by
   dsimp only [L2.KOf]
   apply My.Txt.mk
   iterate 17 (refine' mg_none_of KX G ?_;k_is)
   (refine' My.aZp KX G ?gq ?gr ?gt ?gy ?gu ?gv ?gs;(case gq=>k_is);(case gr=>k_is);(case gt=>rfl);(case gy=>rfl);(case gu=>rfl);(case gv=>repeat (first|exact L2.aBv|refine L2.lG rfl ?_|refine L2.lG ⟨_,rfl⟩ ?_));(case gs=>decide))
   (refine' My.aZt KX G ?gq ?gr;(case gq=>k_is);(case gr=>exact ⟨_,rfl⟩))
   (refine' My.aZp KX G ?gq ?gr ?gt ?gy ?gu ?gv ?gs;(case gq=>k_is);(case gr=>k_is);(case gt=>rfl);(case gy=>rfl);(case gu=>rfl);(case gv=>repeat (first|exact L2.aBv|refine L2.lG rfl ?_|refine L2.lG ⟨_,rfl⟩ ?_));(case gs=>decide))
   iterate 5 (refine' My.aZt KX G ?gq ?gr;(case gq=>k_is);(case gr=>exact ⟨_,rfl⟩))
   (refine' My.bDz KX G (s:=My.pX) (My.FA.mk ?vj ?vl ?vc ?vk);(case vj=>k_is);(case vl=>k_is);(case vc=>k_is);(case vk=>k_is))
   iterate 56 (refine' My.bC8 KX G (My.FA.mk ?fj ?fl ?fc ?fk) ?fb;(case fj=>k_is);(case fl=>k_is);(case fc=>k_is);(case fk=>k_is);(case fb=>first|exact fun _ _ _ _ _ _=>My.ln1 fun _=>rfl|exact fun _ _ _ _ _ _=>My.ln2 fun _ _=>rfl|exact fun _ _ _ _ _ _=>My.ln3 fun _ _ _=>rfl|exact fun _ _ _ _ _ _=>My.ln4 fun _ _ _ _=>rfl|exact fun _ _ _ _ _ _=>My.ln5 fun _ _ _ _ _=>rfl|exact fun _ _ _ _ _ _=>My.ln6 fun _ _ _ _ _ _=>rfl|exact fun _ _ _ _ _ _=>My.ln0 rfl))
   iterate 2 (refine' My.bEm KX G (My.CA.mk ?cj ?c1 ?c2 ?c3 ?c4 ?c5 ?c6) ?cr;(case cj=>k_is);(case c1=>first|k_is|kernel_rfl|decide +kernel);(case c2=>first|k_is|kernel_rfl|decide +kernel);(case c3=>first|k_is|kernel_rfl|decide +kernel);(case c4=>first|k_is|kernel_rfl|decide +kernel);(case c5=>first|k_is|kernel_rfl|decide +kernel);(case c6=>first|k_is|kernel_rfl|decide +kernel);(case cr=>(repeat (refine' ⟨My.bEj (My.MA.mk ?mj ?mi ?ml ?mc ?mk) ?mb,?_⟩;(case mj=>k_is);(case mi=>first|k_is|kernel_rfl|decide +kernel);(case ml=>k_is);(case mc=>k_is);(case mk=>k_is);(case mb=>first|exact fun _ _ _ _ _ _=>My.ln1 fun _=>rfl|exact fun _ _ _ _ _ _=>My.ln2 fun _ _=>rfl|exact fun _ _ _ _ _ _=>My.ln3 fun _ _ _=>rfl|exact fun _ _ _ _ _ _=>My.ln4 fun _ _ _ _=>rfl|exact fun _ _ _ _ _ _=>My.ln5 fun _ _ _ _ _=>rfl|exact fun _ _ _ _ _ _=>My.ln6 fun _ _ _ _ _ _=>rfl|exact fun _ _ _ _ _ _=>My.ln0 rfl)));unfold L2.bL;(repeat (refine' ⟨?ma,?_⟩;(case ma=>k_is)));k_is))
   (refine' My.bDj KX G (My.XA.mk ?xy0 ?xy1 ?xy3 ?xr0 ?xr1 ?xr2 ?xr3 ?xy4 ?xr4 ?xy5 ?xy6 ?xy7 ?xy8 ?xy9 ?xy10 ?xy11 ?xy12 ?xy13 ?xy14 ?xy15 ?xy16 ?xy17 ?xy18 ?xy20);(case xy0=>k_is);(case xy1=>k_is);(case xy3=>k_is);(case xr0=>first|rfl|decide +kernel);(case xr1=>first|rfl|decide +kernel);(case xr2=>first|rfl|decide +kernel);(case xr3=>first|rfl|decide +kernel);(case xy4=>k_is);(case xr4=>first|rfl|decide +kernel);(case xy5=>k_is);(case xy6=>k_is);(case xy7=>k_is);(case xy8=>k_is);(case xy9=>k_is);(case xy10=>k_is);(case xy11=>k_is);(case xy12=>k_is);(case xy13=>k_is);(case xy14=>k_is);(case xy15=>k_is);(case xy16=>k_is);(case xy17=>k_is);(case xy18=>k_is);(case xy20=>k_is))
  have C:L2.aSl (L2.KOf KX) mg "are_cuts" 278:=by
   dsimp only [L2.KOf]
   refine' My.aZ9 KX G ?a ?l ?e1 ?e2 ?h
   (case a=>k_is)
   (case l=>k_is)
   (case e1=>rfl)
   (case e2=>rfl)
   (case h=>first|k_is|kernel_rfl|decide +kernel)
  exact My.bBi (P:=PySem.Challenge.rw_shardask_k64_settle.prog) T C hmg
