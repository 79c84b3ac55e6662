import PyProof.Rows.All
import Wide.All
import OpenK.AllK
import Wide.FinOn
import Lean
import PyProof.EqAt
import PyProof.EqKinds
import PyProof.TupleCall
import PyProof.ExcClass3
import PyProof.ExcBaseAll.ValueError
import PyProof.InstStoreFacts
import PyProof.ExcArgsOwn
import PyProof.ExcAttrAll.ValueError
import PyProof.CallType
import PyProof.WalkLemmas
import PyProof.StrOps
import PyProof.ForAny
import PyProof.IsInstanceH
import PyProof.IsiFacts
import PyProof.IsiFacts2
import PyProof.FactsAll.object
import PyProof.ListMulRoad
import PyProof.FactsAll.tuple_2
import PyProof.StrLawsIdx
import KE.KDictList
import PyProof.Rows.Range3
import PyProof.EnumMake
import PyProof.EnumFor
import PyProof.CompUse
import PyProof.ListStr
import PyProof.NeKinds
import KE.KIntText
import KE.KUnpack
import KE.IntTextText
import KE.KDictOf
import KE.KEqDict
import KE.KDictSum
import PyProof.AttrMissHeap
import PyProof.Rows.StrNews
import PyProof.StrLawsReplace
import PyProof.Rows.StrItems
import PyProof.MeetsStr2
import PyProof.ReprReads
import PyProof.IsInstanceT
import PySem.Challenge.RW_shardask_k72_no_words
set_option Elab.async false
set_option linter.all false
set_option compiler.extract_closed false
set_option maxRecDepth 100000
set_option maxHeartbeats 6400000
local macro_rules|`(tactic|trivial)=>`(tactic|(intro a b c d h;first|(cases h;subst_vars;rfl)|(repeat (first|(obtain ⟨e,_⟩:=h;subst e;rfl)|(obtain ⟨_,h⟩:=h)|fail))))
abbrev f9:List PySem.Str:=["thing"]
abbrev m5:List PySem.Str:=["self"]
abbrev m7:List PySem.Str:=["_law_state","_law_many"]
abbrev m8:List PySem.Str:=["_law_state","_law_question_here","_law_head_here","_law_other","_law_other_head","_law_names_here"]
abbrev n6:List PySem.Str:=["thing","least","most","is_part"]
abbrev n7:List PySem.Str:=["words","question","depth"]
abbrev o4:List PySem.Str:=["words","word","read_one"]
abbrev o5:List PySem.Str:=["_law_state","_law_question_here","_law_head_here","_law_names_here"]
abbrev o6:List PySem.Str:=["_law_question_here","_law_head_here","_law_own","_law_names_here"]
abbrev o7:List PySem.Str:=["self","word"]
abbrev o8:List PySem.Str:=["_law_state","_law_head_here","_law_least"]
abbrev o9:List PySem.Str:=["_law_state","_law_head_here"]
abbrev u9:List PySem.Str:=["words"]
abbrev v5:List PySem.Str:=["words","read_one"]
abbrev z8:List PySem.Str:=["_law_state","_law_heads","_law_names_here","_law_deep"]
abbrev bQA:List PySem.Str:=["self","act"]
abbrev bQB:List PySem.Str:=["_law_state","_law_head_here","_law_fresh_here"]
abbrev bQC:List PySem.Str:=["words","depth"]
abbrev bQD:List PySem.Str:=["text"]
abbrev bQE:List PySem.Str:=["thing","texts"]
abbrev bQF:List PySem.Str:=["_law_t","_law_c"]
abbrev bQG:List PySem.Str:=["word"]
abbrev bQH:List PySem.Str:=["self","text"]
abbrev bQI:List PySem.Str:=["_law_state","_law_names_here"]
abbrev bQJ:List PySem.Str:=["question"]
abbrev bQK:List PySem.Str:=["_law_script"]
abbrev bQL:List PySem.Str:=["_law_state","_law_kind"]
abbrev bQM:List PySem.Str:=["_law_state","_law_text"]
abbrev bQN:List PySem.Str:=["_law_value_here"]
abbrev bQO:List PySem.Str:=["_law_k","_law_fresh_here","_law_head_here"]
abbrev bQP:List PySem.Str:=["_law_question_here"]
abbrev bQQ:List PySem.Str:=["text","words","question"]
abbrev bQR:List PySem.Str:=["_law_name","_law_kind"]
abbrev bQS:List PySem.Str:=["_law_sums_here"]
section
open PySem PySem.Spec PySem.Calls PyProof.Rows
def c7:=@wpAny_bind
def d7:=@List.getElem?_eq_getElem
def d9:=@List.length_cons
def j4:=@Heap.get?_push_of_some
def j5:=@List.length_map
def j6:=@List.length_append
def j7:=@List.mem_cons_self
def j8:=@List.mem_cons_of_mem
def j9:=@wpAny_pure
def m9:=@decide_eq_false
def v7:=@Nat.le_refl
def v8:=@List.size_toArray
def v9:=@decide_eq_true
def w6:=@Bool.and_eq_true
def z9:=@Heap.get?_push_size
def bAA:=@Heap.lt_size
def bAB:=@List.append_assoc
def bAC:=@Bool.false_ne_true
def bAD:=@List.getElem?_map
def bAE:=@List.map_cons
def bAF:=@Nat.le_trans
def bAG:=@List.not_mem_nil
def bAH:=@List.map_append
def bAI:=@Nat.ne_of_lt
def bAJ:=@List.append_nil
def bAK:=@Nat.zero_le
def bAL:=@Nat.lt_of_lt_of_le
def bAM:=@Option.some.inj
def bAN:=@List.length_range
def bAO:=@List.mem_cons
def bAP:=@Array.getElem?_eq_getElem
def bAQ:=@List.mem_of_getElem?
def bAR:=@wpAny_field
def bAS:=@List.mem_append_right
def bAT:=@PySem.W.mg_of
def bAU:=@List.length_take
def bAV:=@List.getElem?_eq_none
def bAW:=@Array.length_toList
def bAX:=@Array.getElem?_setIfInBounds_ne
def bAY:=@Heap.get?_update_self
def bAZ:=@List.map_map
def bBA:=@List.cons_append
def bBB:=@wpAny_mono
def bBC:=@Heap.get?_update_other
def bBD:=@List.length_drop
def bBE:=@wpAny_newObj_type
def bBF:=@List.getD_eq_getElem?_getD
def bBG:=@wpAny_callSpecial?_slot
def bBH:=@Option.bind_some
def bBI:=@List.all_eq_true
def bBJ:=@wpAny_loadPart_at
def bBK:=@List.take_of_length_le
def bBL:=@List.count_append
def bBM:=@wpAny_holding
def bBN:=@List.contains_cons
def bBO:=@List.length_singleton
def bBP:=@Array.getElem?_toList
def bBQ:=@wpAny_truthy_bool
def bBR:=@Bool.true_and
def bBS:=@List.count_eq_zero_of_not_mem
def bBT:=@wpAny_Call_Name_kw
def bBU:=@List.flatMap_append
def bBV:=@List.take_sublist
def bBW:=@List.getElem?_append_right
def bBX:=@wpAny_call_entry
def bBY:=@List.take_length
def bBZ:=@Int.toNat_natCast
def bCA:=@Obj.isFreed_of_fields
def bCB:=@Bool.false_and
def bCC:=@wpAny_seqItems
def bCD:=@List.length_nil
def bCE:=@List.find?_cons
def bCF:=@Obj.data_mapFields
def bCG:=@List.getElem_mem
def bCH:=@List.ext_getElem?
def bCI:=@List.take_add_one
def bCJ:=@List.replicate_succ
def bCK:=@List.getElem?_range
def bCL:=@Bool.eq_iff_iff
def bCM:=@PyProof.Rows.slot_tuple_getitem
def bCN:=@List.getElem?_append_left
def bCO:=@wpAny_setField_rec
def bCP:=@Nat.lt_irrefl
def bCQ:=@List.set_set
def bCR:=@Heap.size_push
def bCS:=@codeAny_call_builtin
def bCT:=@wpAny_setField
def bCU:=@List.mem_of_mem_take
def bCV:=@List.mem_of_mem_drop
def bCW:=@List.flatMap_cons
def bCX:=@wpAny_isSubtype_exc
def bCY:=@PyProof.Rows.callWith_type1
def bCZ:=@Array.getD_eq_getD_getElem?
def bDA:=@List.lookup_cons
def bDB:=@Bool.false_eq_true
def bDC:=@wpAny_passesOwn
def bDD:=@Nat.ne_of_gt
def bDE:=@wpAny_pyIter_list
def bDF:=@codeAny_mono
def bDG:=@Bool.or_true
def bDH:=@wpAny_standAt
def bDI:=@Heap.SameBut.update
def bDJ:=@Nat.toDigits_of_lt_base
def bDK:=@List.eq_nil_of_length_eq_zero
def bDL:=@List.getElem?_set_self
def bDM:=@wpAny_call
def bDN:=@Nat.zero_add
def bDO:=@wpAny_execs_nil
def bDP:=@List.forIn_cons
def bDQ:=@codeAny_builtin
def bDR:=@List.flatten_cons
def bDS:=@List.mem_append_left
def bDT:=@Around.under_plainId
def bDU:=@List.range_eq_range'
def bDV:=@List.getElem_toArray
def bDW:=@Nat.le_of_lt
def bDX:=@Nat.le_add_right
def bDY:=@List.any_eq_true
def bDZ:=@List.filterMap_cons
def bEA:=@List.length_reverse
def bEB:=@Array.toList_append
def bEC:=@Int.toNat_of_nonneg
def bED:=@wpAny_onRaise
def bEE:=@wpAny_attempt
def bEF:=@List.Pairwise.imp_of_mem
def bEG:=@List.range_succ
def bEH:=@wpAny_pyIter_tuple
def bEI:=@Nat.lt_of_le_of_lt
def bEJ:=@wpAny_rule
def bEK:=@Nat.le_succ
def bEL:=@List.reverse_cons
def bEM:=@Bool.not_eq_true'
def bEN:=@List.length_replicate
def bEO:=@List.getElem?_zipWith
def bEP:=@PyProof.Rows.callWith_builtin1
def bEQ:=@List.range'_succ
def bER:=@List.any_cons
def bES:=@Bool.and_true
def bET:=@Heap.get?_none_of_le
def bEU:=@List.getElem?_set_ne
def bEV:=@List.length_dropLast
def bEW:=@List.of_mem_zip
def bEX:=@SeqAt.EqAt.same
def bEY:=@List.nil_append
def bEZ:=@Nat.min_eq_left
def bFA:=@Nat.toDigits_append_toDigits
def bFB:=@List.nodup_cons
def bFC:=@List.length_zipWith
def bFD:=@List.map_congr_left
def bFE:=@Nat.lt_trans
def bFF:=@Int.zero_add
def bFG:=@Calls.Name_function_global
def bFH:=@wpAny_newFunctionEnv_cells
def bFI:=@List.forIn_nil
def bFJ:=@List.drop_zero
def bFK:=@Int.emod_lt_of_pos
def bFL:=@Int.natAbs_natCast
def bFM:=@List.zip_cons_cons
def bFN:=@List.nodup_append
def bFO:=@List.drop_sublist
def bFP:=@Nat.lt_of_succ_lt
abbrev bFQ:=PySem.W.Frag
abbrev bFR:=Value->Shared->Prop
abbrev bFS:=List (Addr × Obj)
abbrev bFT:=Str->Option Value
end
local macro_rules
  | `(tactic| trivial) => `(tactic| first | exact Or.inl rfl | exact Or.inr rfl | exact Or.inr (Or.inl rfl) | exact Or.inr (Or.inr rfl) | exact⟨rfl, rfl, rfl, by decide +kernel, rfl, by decide +kernel, by decide +kernel⟩ | exact⟨by decide +kernel, rfl, by decide +kernel, by decide +kernel⟩ | decide +kernel | fail)
local macro_rules
|`(!Txt)=>let i:=Lean.mkIdent;`($(i `Txt) $(i `w) $(i `K) $(i `mg))
|`(!$f:ident $a*)=>let i:=Lean.mkIdent;if f.getId∈[`aGv,`iM,`Ok,`OkX,`Held,`OkM,`OkC,`qK,`aYq,`aEv,`aNa,`iU,`aT0,`aRm,`aA4,`aEj]then`($f $(i `P) $(i `w) $(i `K) $(i `mg) $(i `base) $a*)else Lean.Macro.throwUnsupported
namespace L2
open PySem PySem.Spec PyProof.Rows
abbrev Key:=Sum Int Str
def aGf:Key->Value->Bool
 |.inl k,v=>Value.isInt k v
 |.inr x,v=>Value.isStrOf x v
def bIh (w:World):Key->Int
 |.inl k=>hashInt k
 |.inr x=>hashStr w x
theorem gH:∀{k:Key} {v:Value},aGf k v=true->(∃i t,k=Sum.inl i/\v=Value.int i t)\/(∃x t,k=Sum.inr x/\v=Value.str x t)
 |.inl i,v,h=>by obtain⟨t,e⟩:=Value.isInt_shape h;exact .inl ⟨i,t,rfl,e⟩
 |.inr x,v,h=>by obtain⟨t,e⟩:=Value.isStrOf_shape h;exact .inr ⟨x,t,rfl,e⟩
def aS8 (i:Int)(t:Tok):aGf (.inl i) (.int i t)=true:=by simp[aGf,Value.isInt]
def aUh (x:Str)(t:Tok):aGf (.inr x) (.str x t)=true:=by simp[aGf,Value.isStrOf]
def bE2 (a b:Int):decide ((Sum.inl a:Key)=Sum.inl b)=(a == b):=by
 by_cases e:a=b
 ·subst e;simp
 ·have h:¬ (Sum.inl a:Key)=Sum.inl b:=λq=>e (Sum.inl.inj q);rw[m9 h];exact (beq_eq_false_iff_ne.mpr e).symm
def bEz (a b:Str):decide ((Sum.inr a:Key)=Sum.inr b)=decide (a=b):=by
 by_cases e:a=b
 ·subst e;simp
 ·have h:¬ (Sum.inr a:Key)=Sum.inr b:=λq=>e (Sum.inr.inj q);rw[m9 h,m9 e]
def bEb (a:Int)(b:Str):decide ((Sum.inl a:Key)=Sum.inr b)=false:=m9 (λq=>nomatch q)
def bC0 (a:Str)(b:Int):decide ((Sum.inr a:Key)=Sum.inl b)=false:=m9 (λq=>nomatch q)
def fP (prog:Program)(w:World):PySem.KeyKind prog w Key where
 is:=aGf
 hash:=bIh w
 inj:=λv a b ha hb=>by
  rcases gH ha with⟨i,t,rfl,rfl⟩|⟨x,t,rfl,rfl⟩
  ·rcases gH hb with⟨j,u,rfl,e⟩|⟨y,u,rfl,e⟩
   ·injection e with e1 _;rw[e1]
   ·exact nomatch e
  ·rcases gH hb with⟨j,u,rfl,e⟩|⟨y,u,rfl,e⟩
   ·exact nomatch e
   ·injection e with e1 _;rw[e1]
 byValue:=λk v h=>by rcases gH h with⟨i,t,rfl,rfl⟩|⟨x,t,rfl,rfl⟩ <;> rfl
 pyHash:=λhv h=>by
  rcases gH hv with⟨i,t,rfl,rfl⟩|⟨x,t,rfl,rfl⟩
  ·exact wpAny_pyHash_int h
  ·exact wpAny_pyHash_str h
 eqBool:=λhu hv h=>by
  rcases gH hu with⟨i,t,rfl,rfl⟩|⟨x,t,rfl,rfl⟩
  ·rcases gH hv with⟨j,u,rfl,rfl⟩|⟨y,u,rfl,rfl⟩
   ·rw[bE2] at h;exact wpAny_eqBool_int h
   ·rw[bEb] at h;exact SeqAt.EqAt.int_str i t y u _ _ _ _ h
  ·rcases gH hv with⟨j,u,rfl,rfl⟩|⟨y,u,rfl,rfl⟩
   ·rw[bC0] at h;exact SeqAt.EqAt.str_int x t j u _ _ _ _ h
   ·rw[bEz] at h;exact wpAny_eqBool_str h
 «strs»:=λk x t v h=>by
  rcases gH h with⟨i,u,rfl,e⟩|⟨y,u,rfl,e⟩
  ·exact nomatch e
  ·injection e with e1 _;subst e1;cases v <;> rfl
def aL6 (prog:Program)(w:World)(i:Int)(t:Tok):(fP prog w).is (.inl i) (.int i t)=true:=aS8 i t
def aOm (prog:Program)(w:World)(x:Str)(t:Tok):(fP prog w).is (.inr x) (.str x t)=true:=aUh x t
inductive V where
 |non|bl (b:Bool)|int (i:Int)|str (x:Str)|byt (b:Array UInt8)|flt (b:UInt64)|ref (a:Addr)|ty (n:String)
 deriving DecidableEq
def RelV:V->Value->Prop
 |.non,u=>u=Value.none
 |.bl b,u=>u=Value.bool b
 |.int i,u=>∃t,u=Value.int i t
 |.str x,u=>∃t,u=Value.str x t
 |.byt b,u=>∃t,u=Value.bytes b t
 |.flt b,u=>∃t,u=Value.float b t
 |.ref a,u=>u=Value.ref a
 |.ty n,u=>u=Value.type n
abbrev Vals:List V->List Value->Prop:=Paired RelV
def Vals.length (r:Vals xs us):xs.length=us.length:=Paired.length r
theorem Vals.get:∀{xs:List V} {us:List Value} {i:Nat} {x:V},Vals xs us->xs[i]?=some x->∃u,us[i]?=some u/\RelV x u
 |_,_,_,_,.nil,e=>by simp at e
 |_,_,0,_,.cons r _,e=>by simp at e;subst e;exact⟨_,rfl,r⟩
 |_,_,i+1,x,.cons _ t,e=>by obtain⟨u,a,b⟩:=Vals.get t (by simpa using e);exact⟨u,by simpa using a,b⟩
theorem Vals.set (r:RelV x u):∀{xs:List V} {us:List Value} (i:Nat),Vals xs us->Vals (xs.set i x) (us.set i u)
 |_,_,_,.nil=>.nil
 |_,_,0,.cons _ t=>.cons r t
 |_,_,i+1,.cons q t=>.cons q (Vals.set r i t)
theorem Vals.append:∀{xs ys:List V} {us ws:List Value},Vals xs us->Vals ys ws->Vals (xs++ys) (us++ws)
 |_,_,_,_,.nil,s=>s
 |_,_,_,_,.cons r t,s=>.cons r (Vals.append t s)
theorem Vals.take:∀{xs:List V} {us:List Value} (n:Nat),Vals xs us->Vals (xs.take n) (us.take n)
 |_,_,0,_=>.nil
 |_,_,_+1,.nil=>.nil
 |_,_,n+1,.cons r t=>.cons r (Vals.take n t)
theorem Vals.drop:∀{xs:List V} {us:List Value} (n:Nat),Vals xs us->Vals (xs.drop n) (us.drop n)
 |_,_,0,r=>r
 |_,_,_+1,.nil=>.nil
 |_,_,n+1,.cons _ t=>Vals.drop n t
def xF:Option V->Option Value->Prop
 |some v,some u=>RelV v u
 |none,none=>True
 |_,_=>False
def KV {κ:Type}:List (κ × V)->List (κ × Value)->Prop:=Paired λp q=>p.1=q.1/\RelV p.2 q.2
def kV:Key->V
 |.inl i=>.int i
 |.inr x=>.str x
inductive HO where
  |lst (xs:List V)
  |tup (xs:List V)
  |dK (kvs:List (Key × V))|dT (kvs:List (List Key × V))
  |set (S:Int->Bool) (n:Nat)
  |ins (C dx:Addr) (fs:List (Str × V))
  |own (x:Addr)
  |xd (fs:List (Str × V))
  |met (f x:Addr)
  |rng (lo hi:Int)
  |frz (o:Obj) (u:HO)
  |tbl (ps:Array Value)
  |tab (q:Str)
  |ext (φ:Heap->Prop)
abbrev Hp:=Addr->Option HO
def upd (H:Hp)(a:Addr)(o:HO):Hp:=λb=>if b=a then some o else H b
def aJ:upd H a o a=some o:=by unfold upd;rw[if_pos rfl]
def aR (h:b≠a):upd H a o b=H b:=by unfold upd;rw[if_neg h]
def aD1:upd (upd H a o) a u=upd H a u:=by funext b;unfold upd;split <;> rfl
def aCx {H:Hp}{a b:Addr}{o u:HO}(h:H a=some o)(h':H b=some u)(d:o≠u):a≠b:=by intro e;subst e;rw[h] at h';exact d (bAM h')
def aX {H:Hp}{a b:Addr}{o:HO}(h:H a=some o)(h':H b=none):a≠b:=by intro e;subst e;rw[h] at h';cases h'
def aBq (h:Heap)(a:Addr)(items:Array Value):Prop:=IsTup h a items/\∀o,h.get? a=some o->o.dict=none
def aBq.of (e:h.get? a=some o)(d:o.dict=none)(x:IsTup h a items):aBq h a items:=⟨x,λc b=>by rw[e] at b;cases b;exact d⟩
def aBq.new (h:Heap)(items:Array Value):aBq (h.push { cls:=.type "tuple",data:=.seq items }) h.objs.size items:=.of (z9 _ rfl) rfl (IsTup.new _ _)
def aBq.keep {h h':Heap}{a:Addr}{items:Array Value}(x:aBq h a items)(k:∀o,h.get? a=some o->h'.get? a=some o):aBq h' a items:=by obtain⟨⟨o,e,c⟩,d⟩:=x;exact .of (k o e) (d o e) ⟨o,k o e,c⟩
section
variable (P:Program)(w:World)
def iJ (H:Hp)(h:Heap)(a:Addr):HO->Prop
 |.lst xs=>xs.length<=sizeLine/\∃its n,Vals xs its/\h.get? a=some { cls:=.type "list",data:=.seq its.toArray n }
 |.tup xs=>xs.length<=sizeLine/\∃its:List Value,Vals xs its/\aBq h a its.toArray
 |.dK kvs=>kvs.length<=sizeLine/\(a == sysModules)=false/\∃vs,KV kvs vs/\h.DictOf (fP P w) a vs
 |.dT kvs=>kvs.length<=sizeLine/\(a == sysModules)=false/\∃xs:List (List Key × Addr × Value),
   Paired (λp q=>p.1=q.1/\H q.2.1=some (.tup (p.1.map kV))/\RelV p.2 q.2.2) kvs xs /\
   ∃o es ep,h.get? a=some o/\o.ExactDict/\o.data=.dict es ep/\es.toList=xs.map (entryOfKey (tupleKind (fP P w)))/\(xs.map (·.1)).Nodup
 |.set S n=>h.SetOf (intKind P w) a S n
 |.ins C dx fs=>H dx=some (.own a)/\fs.length<=1000/\dx≠a/\h.get? a=some (PySem.W.instObj C dx) /\
   ∃mA,h.Ns1 dx mA/\(∀f,xF (fs.lookup f) (mA f))/\PySem.Within mA (fs.map (·.1))
 |.own _=>∃o,h.get? a=some o
 |.xd fs=>∃mA,h.Ns1 a mA/\∀f,xF (fs.lookup f) (mA f)
 |.rng lo hi=>∃t u v,h.get? a=some { cls:=.type "range",data:=.fields #[.int lo t,.int hi u,.int 1 v] }
 |.frz o u=>h.get? a=some o/\iJ H h a u
 |.tbl ps=>h.get? a=some { cls:=.none,data:=.fields ps }
 |.tab q=>∃ps:Array Value,h.get? a=some { cls:=.none,data:=.fields ps }/\TriplesOk ps.toList/\∀pos cv,codeAmong pos ps.toList=some cv->∃c oc vs t,cv=.ref c/\H c=some (.own a)/\h.get? c=some oc/\oc.data=.fields vs/\vs[1]?=some (.str q t)
 |.met f x=>h.get? a=some (PySem.W.methodObj (.ref f) (.ref x))
 |.ext φ=>φ h/\(∃o,h.get? a=some o)/\∀h1 h2:Heap,φ h1->(∀o,h1.get? a=some o->h2.get? a=some o)->φ h2
def HOk (H:Hp)(h:Heap):Prop:=∀a o,H a=some o->iJ P w H h a o
end
def iJ.lt (x:iJ P w H h a o):a<h.objs.size:=by
 cases o with
 |lst xs=>obtain⟨_,_,_,_,e⟩:=x;exact bAA e
 |tup xs=>obtain⟨_,_,_,p⟩:=x;exact p.1.lt
 |dK kvs=>obtain⟨_,_,_,_,o,_,_,e,_⟩:=x;exact bAA e
 |dT kvs=>obtain⟨_,_,_,_,o,_,_,e,_⟩:=x;exact bAA e
 |set S n=>obtain⟨o,_,_,_,e,_⟩:=x;exact bAA e
 |ins C dx fs=>obtain⟨_,_,_,e,_⟩:=x;exact bAA e
 |own y=>obtain⟨_,e⟩:=x;exact bAA e
 |xd fs=>obtain⟨_,⟨_,_,_,e,_⟩,_⟩:=x;exact bAA e
 |rng lo hi=>obtain⟨_,_,_,e⟩:=x;exact bAA e
 |frz ob u=>obtain⟨e,_⟩:=x;exact bAA e
 |tbl ps=>exact bAA (show h.get? a=some _ from x)
 |tab q=>obtain⟨_,e,_⟩:=x;exact bAA e
 |met f y=>exact bAA (show h.get? a=some _ from x)
 |ext φ=>obtain⟨_,⟨_,e⟩,_⟩:=x;exact bAA e
theorem Paired.bG4 {α β:Type}{F G:α->β->Prop}:∀{l₁:List α} {l₂:List β},Paired F l₁ l₂->(∀a b,F a b->G a b)->Paired G l₁ l₂
 |_,_,.nil,_=>.nil
 |_,_,.cons r t,f=>.cons (f _ _ r) (Paired.bG4 t f)
def iJ.stay (x:iJ P w H h a o)(k:∀b u,(b=a\/H b=some (.own a))->h.get? b=some u->h'.get? b=some u)
  (I:∀b,H b=some (.own a)->H' b=some (.own a)) (K:∀b xs,H b=some (.tup xs)->H' b=some (.tup xs)):iJ P w H' h' a o:=by
 induction o with
 |lst xs=>obtain⟨z,l,n,r,e⟩:=x;exact⟨z,l,n,r,k _ _ (.inl rfl) e⟩
 |tup xs=>obtain⟨z,l,r,p⟩:=x;exact⟨z,l,r,p.keep λo e=>k _ _ (.inl rfl) e⟩
 |dK kvs=>obtain⟨z,y,B,r,j,i,g,e,c⟩:=x;exact⟨z,y,B,r,j,i,g,k _ _ (.inl rfl) e,c⟩
 |dT kvs=>obtain⟨z,y,xs,r,j,i,g,e,c⟩:=x;exact⟨z,y,xs,Paired.bG4 r λp q z=>⟨z.1,K _ _ z.2.1,z.2.2⟩,j,i,g,k _ _ (.inl rfl) e,c⟩
 |set S n=>obtain⟨j,i,g,t,e,c⟩:=x;exact⟨j,i,g,t,k _ _ (.inl rfl) e,c⟩
 |ins C dx fs=>obtain⟨d,z,G,e,s,⟨A,i,g,F,c⟩,r⟩:=x;exact⟨I _ d,z,G,k _ _ (.inl rfl) e,s,⟨A,i,g,k _ _ (.inr d) F,c⟩,r⟩
 |own y=>obtain⟨j,e⟩:=x;exact⟨j,k _ _ (.inl rfl) e⟩
 |xd fs=>obtain⟨s,⟨A,i,g,e,c⟩,r⟩:=x;exact⟨s,⟨A,i,g,k _ _ (.inl rfl) e,c⟩,r⟩
 |rng lo hi=>obtain⟨t,u,v,e⟩:=x;exact⟨t,u,v,k _ _ (.inl rfl) e⟩
 |frz j u ih=>obtain⟨e,q⟩:=x;exact⟨k _ _ (.inl rfl) e,ih q⟩
 |tab q=>obtain⟨m,e,t,c⟩:=x;exact⟨m,k _ _ (.inl rfl) e,t,λD J q=>let ⟨c',oc,B,tk,a1,a2,a3,a4⟩:=c D J q;⟨c',oc,B,tk,a1,I _ a2,k _ _ (.inr a2) a3,a4⟩⟩
 |tbl m=>have e:h.get? a=some { cls:=.none,data:=.fields m }:=x;show h'.get? a=some { cls:=.none,data:=.fields m };exact k a _ (.inl rfl) e
 |met f y=>have e:h.get? a=some (PySem.W.methodObj (.ref f) (.ref y)):=x;show h'.get? a=some (PySem.W.methodObj (.ref f) (.ref y));exact k a _ (.inl rfl) e
 |ext φ=>obtain⟨p,⟨o,e⟩,E⟩:=x;exact⟨E _ _ p λo q=>k _ _ (.inl rfl) q,⟨o,k _ _ (.inl rfl) e⟩,E⟩
def HOk.lt (x:HOk P w H h)(e:H a=some o):a<h.objs.size:=(x a o e).lt
def HOk.fresh (x:HOk P w H h)(e:h.objs.size<=a):H a=none:=by
 cases q:H a with
 |none=>rfl
 |some u=>exact absurd (bAL (x.lt q) e) (bCP _)
def HOk.kept (x:HOk P w H h)(k:∀b u,h.get? b=some u->h'.get? b=some u):HOk P w H h':=λa o e=>
 (x a o e).stay (λb u _ q=>k b u q) (λ_ q=>q) λ_ _ q=>q
def HOk.laid (x:HOk P w H h)(k:∀b u,h.get? b=some u->h'.get? b=some u)(j:h.objs.size<=a)(g:iJ P w (upd H a o) h' a o):HOk P w (upd H a o) h':=λb u e=>by
 have d:=x.fresh j;by_cases f:b=a
 ·subst f;rw[aJ] at e;cases e;exact g
 ·rw[aR f] at e;exact (x b u e).stay (λc v _ q=>k c v q) (λc q=>by rw[aR (aX q d)];exact q) λc i q=>by rw[aR (aX q d)];exact q
def Rd (H:Hp)(a:Addr)(u:HO):Prop:=H a=some u\/∃o,H a=some (.frz o u)
def Rd.ok (r:Rd H a u)(x:HOk P w H h):iJ P w H h a u:=by
 rcases r with r|⟨o,r⟩
 ·exact x a u r
 ·obtain⟨_,q⟩:=x a _ r;exact q
def Mut:Option HO->Prop
 |some (.lst _)=>True
 |some (.dK _)=>True
 |some (.dT _)=>True
 |some (.set _ _)=>True
 |some (.ins _ _ _)=>True
 |some (.ext _)=>True
 |some (.tab _)=>True
 |_=>False
def HOk.write (s:HOk P w H h)(j:Mut (H x))(m:e=x\/H e=some (.own x))(k:∀b u,b≠e->h.get? b=some u->h'.get? b=some u)(p:∃u,h'.get? e=some u)
  (n:iJ P w (upd H x o') h' x o'):HOk P w (upd H x o') h':=λb u q=>by
 have d:∀c y,H c=some (.own y)->c≠x:=λc y r z=>by subst z;rw[r] at j;exact j
 have f:∀c i,H c=some (.tup i)->c≠x:=λc i r z=>by subst z;rw[r] at j;exact j
 by_cases g:b=x
 ·subst g;rw[aJ] at q;cases q;exact n
 ·rw[aR g] at q;by_cases a:b=e
  ·have l:H b=some (.own x):=by
    rcases m with z|z
    ·exact absurd (a.trans z) g
    ·rw[a];exact z
   rw[q] at l;cases l;obtain⟨v,o⟩:=p;exact⟨v,by rw[a];exact o⟩
  ·refine (s b u q).stay (λc v hc r=>k c v ?_ r) (λc r=>by rw[aR (d c b r)];exact r) λc i r=>by rw[aR (f c i r)];exact r
   rcases hc with rfl|hc
   ·exact a
   ·rintro rfl;rcases m with z|z
    ·exact d c b hc z
    ·rw[hc] at z;cases z;exact g rfl
structure Un (fs ex:List Addr)(H H':Hp)(h h':Heap):Prop where
 keep:∀b o,h.get? b=some o->H b=none->b∉fs->b∉ex->h'.get? b=some o
 slot:∀b o,h.get? b=some o->H b=none->b∈fs->b∉ex->∃sl,h'.get? b=some { o with slots:=sl }
 free:∀b o,h.get? b=some o->H b=none->b∉ex->H' b=none
 there:∀b o,h.get? b=some o->b∉ex->∃o',h'.get? b=some o'
 tups:∀b xs,H b=some (.tup xs)->H' b=some (.tup xs)
 frzs:∀b o u,H b=some (.frz o u)->H' b=some (.frz o u)
 tbls:∀b ps,H b=some (.tbl ps)->∃more,H' b=some (.tbl (ps++more))
def Un.any (u:Un fs ex H H1 h h1)(q:h.get? b=some ob)(n:H b=none)(c:b∉ex):∃sl,h1.get? b=some { ob with slots:=sl }:=by
 by_cases a:b∈fs
 ·exact u.slot b ob q n a c
 ·exact⟨ob.slots,u.keep b ob q n a c⟩
def Un.kept (k:∀b u,h.get? b=some u->h'.get? b=some u):Un fs ex H H h h':=
 ⟨λb a q _ _ _=>k b a q,λb a q _ _ _=>⟨a.slots,k b a q⟩,λ_ _ _ n _=>n,λb a q _=>⟨a,k b a q⟩,λ_ _ q=>q,λ_ _ _ q=>q,λ_ c q=>⟨#[],by rw[q];simp⟩⟩
def Un.refl:Un fs ex H H h h:=Un.kept λ_ _ q=>q
def Un.laid (k:∀b u,h.get? b=some u->h'.get? b=some u)(e:h.objs.size<=a)(hn:H a=none):Un fs ex H (upd H a o) h h' where
 keep:=λb u q _ _ _=>k b u q
 slot:=λb u q _ _ _=>⟨u.slots,k b u q⟩
 free:=λb u q n _=>by rw[aR (bAI (bAL (bAA q) e))];exact n
 there:=λb u q _=>⟨u,k b u q⟩
 tups:=λb c q=>by rw[aR (aX q hn)];exact q
 frzs:=λb u c q=>by rw[aR (aX q hn)];exact q
 tbls:=λb d q=>⟨#[],by rw[aR (aX q hn),q];simp⟩
def Un.write (c:Mut (H x))(p:e=x\/H e=some (.own x))(k:∀b u,b≠e->h.get? b=some u->h'.get? b=some u)(j:∃u,h'.get? e=some u):Un fs ex H (upd H x o) h h':=by
 have f:∀b,H b=none->b≠x:=λb n z=>by subst z;rw[n] at c;exact c
 have g:∀b,H b=none->b≠e:=λb n z=>by
  subst z;rcases p with r|r
  ·exact f b n r
  ·rw[n] at r;cases r
 have d:∀b u,H b=some u->¬ Mut (some u)->b≠x:=λb u q i z=>by subst z;rw[q] at c;exact i c
 refine⟨λb u q n _ _=>k b u (g b n) q,λb u q n _ _=>⟨u.slots,k b u (g b n) q⟩,λb u q n _=>by rw[aR (f b n)];exact n,λb u q _=>?_,
  λb l q=>by rw[aR (d b _ q λz=>z)];exact q,λb u l q=>by rw[aR (d b _ q λz=>z)];exact q,λb m q=>⟨#[],by rw[aR (d b _ q λz=>z),q];simp⟩⟩
 by_cases a:b=e
 ·subst a;exact j
 ·exact⟨u,k b u a q⟩
def trk (h:Heap)(H:Hp):List Addr:=(List.range h.objs.size).filter λa=>(H a).isSome
def aLh (h:Heap)(H:Hp):Heap:=PySem.W.hideAll h (trk h H)
def aT8 (h:Heap)(H:Hp):(aLh h H).objs.size=h.objs.size:=PySem.W.hideAll_size _ _
def aV9 (e:h.get? b=some o)(n:H b=none):(aLh h H).get? b=some o:=
 PySem.W.hideAll_get _ e λa=>by have q:=(List.mem_filter.mp a).2;rw[n] at q;simp at q
def bBk (e:(aLh h H).get? b=some o):h.get? b=some o/\H b=none:=by
 have a:=PySem.W.of_hideAll (trk h H) e;refine⟨a,?_⟩;cases q:H b with
 |none=>rfl
 |some x=>have c:b∈trk h H:=List.mem_filter.mpr ⟨List.mem_range.mpr (bAA a),by simp[q]⟩;have z:(aLh h H).get? b=none:=PySem.W.hideAll_none (trk h H) c;rw[z] at e;cases e
structure Mod (K:bFQ)(mg:bFT)(base:Heap):Prop where
 kin:K.In base
 glob:base.Ns mainGlobals mg
 blt:∃mb,base.Ns builtinsNs mb/\∀x:Str,x≠"__name__"->mb x=bootBuiltins x
 nolimit:base.NoLimit
structure Cx where
 prog:Program
 w:World
 K:bFQ
 mg:bFT
 base:Heap
 A:Around
 N:List Str
 s₀:Shared
 H₀:Hp
 env:Env
 outer:List Env
 stack:List Env
 ex:List Addr
 fn:Str->Bool
 calm:Bool
 pn:bFS
 xe:bFR
def frs (l:List Env):List Addr:=l.filterMap (·.frame)
abbrev Cx.fs (X:Cx):List Addr:=frs X.outer
def Vis (sc:Scope)(x:Str):Prop:=sc.names.lookup x=some .local\/sc.names.lookup x=some .cell\/sc.names.lookup x=some .free
def Loc (sc:Scope)(x:Str):Prop:=sc.names.lookup x=some .local\/sc.names.lookup x=some .cell
def Look (env:Env)(h:Heap)(m:bFT)(x:Str)(u:Value):Prop:=
 (env.kindOf x=some .local/\m x=some u)\/((env.kindOf x=some .cell\/env.kindOf x=some .free)/\∃c,env.cells.lookup x=some c/\h.IsCell c (some u))
structure Cx.Ok (X:Cx):Prop where
 mod:Mod X.K X.mg X.base
 kind:X.env.scope.kind=.function
 glob:X.env.globals=mainGlobals
 blt:X.env.builtins=builtinsNs
 above:X.s₀.heap.objs.size<=X.env.locals
 inj:∀x y c,X.env.cells.lookup x=some c->X.env.cells.lookup y=some c->x=y
 has:∀x,(X.env.kindOf x=some .cell\/X.env.kindOf x=some .free)->∃c,X.env.cells.lookup x=some c
 cab:∀x c,X.fn x=true->X.env.cells.lookup x=some c->X.s₀.heap.objs.size<=c
 hd:X.calm=true->X.A.handled=none
 frames:X.A.frames=some X.stack
 stk:X.stack=X.outer\/(X.stack=X.env::X.outer/\X.env.frame=some X.env.locals)
 exf:∀b∈X.ex,b≠X.env.locals/\∀x c,X.env.cells.lookup x=some c->c≠b
 bs:∀b o,X.base.get? b=some o->X.s₀.heap.get? b=some o/\X.H₀ b=none
 bsz:X.base.objs.size<=X.s₀.heap.objs.size
 noex:∀b o,X.base.get? b=some o->b∉X.ex
 exfs:∀b∈X.ex,b∉X.fs
 funs:X.s₀.heap.FunFrames X.base X.outer
 frf:∀b∈X.fs,X.H₀ b=none
structure Inv (X:Cx)(bFU:bFS)(σ:List (Option V))(H:Hp)(s:Shared):Prop where
 ok:X.Ok
 os:s.os=X.s₀.os
 bare:AllBare s.gens
 base:Un X.fs X.ex X.H₀ H X.s₀.heap s.heap
 loc:∃m,s.heap.Ns X.env.locals m/\∀(i:Nat) (x:Str) (v:V),X.N[i]?=some x->σ[i]?=some (some v)->Vis X.env.scope x->∃u,RelV v u/\Look X.env s.heap m x u
 cell:∀x c,X.env.cells.lookup x=some c->∃v,s.heap.IsCell c v
 free:H X.env.locals=none
 freeC:∀x c,X.env.cells.lookup x=some c->H c=none
 pin:∀p∈X.pn++bFU,s.heap.get? p.1=some p.2/\H p.1=none/\p.1≠X.env.locals/\p.1∉X.fs/\∀v,p.2.data≠.cell v
 hok:HOk X.prog X.w H s.heap
 len:σ.length=X.N.length
section
variable {X:Cx}{bFU:bFS}{σ:List (Option V)}{H H':Hp}{s:Shared}{h':Heap}
def Cx.Ok.nofr (c:X.Ok)(e:X.base.get? b=some o):b∉X.fs:=λa=>by have:=(c.funs.mem a).1;rw[e] at this;cases this
def Inv.bs (I:Inv X bFU σ H s):∀b o,X.base.get? b=some o->s.heap.get? b=some o/\H b=none:=λb o e=>
 ⟨I.base.keep b o (I.ok.bs b o e).1 (I.ok.bs b o e).2 (I.ok.nofr e) (I.ok.noex b o e),I.base.free b o (I.ok.bs b o e).1 (I.ok.bs b o e).2 (I.ok.noex b o e)⟩
def Inv.bk (I:Inv X bFU σ H s):∀b o,X.base.get? b=some o->s.heap.get? b=some o:=λb o e=>(I.bs b o e).1
def Inv.mod (I:Inv X bFU σ H s):Mod X.K X.mg X.base:=I.ok.mod
def Inv.kIn (I:Inv X bFU σ H s):X.K.In s.heap:=I.ok.mod.kin.keeps I.bk
def Inv.fr (I:Inv X bFU σ H s):∃m,Fr X.base X.env.locals s.heap m:=
 let ⟨m,hn,_⟩:=I.loc
 ⟨m,hn,I.bk,bAF I.ok.bsz I.ok.above⟩
def Inv.lt (I:Inv X bFU σ H s):X.env.locals<s.heap.objs.size:=let ⟨_,hn,_⟩:=I.loc;hn.lt
def Inv.sz (I:Inv X bFU σ H s):X.s₀.heap.objs.size<=s.heap.objs.size:=bAF I.ok.above (bDW I.lt)
def Inv.nofs (I:Inv X bFU σ H s)(h:s.heap.objs.size<=a):a∉X.fs:=λb=>by obtain⟨_,o,c,_⟩:=I.ok.funs.mem b;exact absurd (bAL (bAA c) (bAF I.sz h)) (bCP _)
def Inv.cne (I:Inv X bFU σ H s):∀x c,X.env.cells.lookup x=some c->c≠X.env.locals:=λx c e z=>by obtain⟨v,o,f,d⟩:=I.cell x c e;obtain⟨m,⟨g,h,i,b,a,_⟩,_⟩:=I.loc;rw[z,b] at f;cases f;rw[a] at d;cases d
def Inv.funs (I:Inv X bFU σ H s):s.heap.FunFrames X.base X.outer:=by
 have f:∀l,(∀b∈frs l,b∈X.fs)->X.s₀.heap.FunFrames X.base l->s.heap.FunFrames X.base l:=by
  intro l
  induction l with
  |nil=>intro _ _;trivial
  |cons env r ih=>intro g n;obtain⟨i,⟨L,o,a,h,m,k⟩,j⟩:=n;have c:=g L (by unfold frs;rw[bDZ,a];exact j7);obtain⟨p,e⟩:=I.base.slot L o m (I.ok.frf L c) c λz=>I.ok.exfs L z c;exact⟨i,⟨L,_,a,h,e,k⟩,ih (λb d=>g b (by unfold frs;rw[bDZ,a];exact j8 _ d)) j⟩
 exact f X.outer (λ_ d=>d) I.ok.funs
def Inv.stack (I:Inv X bFU σ H s):s.heap.FunFrames X.base X.stack:=by
 rcases I.ok.stk with e|⟨e,a⟩
 ·rw[e];exact I.funs
 ·rw[e];obtain⟨m,b,_⟩:=I.loc;refine .cons (by rw[I.ok.kind];decide) a b ?_ I.funs;exact bET (bAF I.ok.bsz I.ok.above)
def Inv.aO3 (I:Inv X bFU σ H s):∀b∈frs X.stack,b∈X.env.locals::X.fs:=λb a=>by
 rcases I.ok.stk with e|⟨e,c⟩
 ·rw[e] at a;exact j8 _ a
 ·rw[e] at a;unfold frs at a;rw[bDZ,c] at a;exact a
def Inv.aKm (I:Inv X bFU σ H s):∀b∈frs X.stack,H b=none:=λb hb=>by
 rcases List.mem_cons.mp (I.aO3 b hb) with e|hb
 ·rw[e];exact I.free
 ·obtain⟨_,o,a,_⟩:=I.ok.funs.mem hb;exact I.base.free b o a (I.ok.frf b hb) λz=>I.ok.exfs b z hb
def Inv.step {g':Array GenState}{t':Nat}{d':Drawn}{ch:List Addr}(I:Inv X bFU σ H s)
  (y:∀b∈ch,(b∈X.ex\/X.s₀.heap.objs.size<=b)/\b≠X.env.locals/\(∀x c,X.env.cells.lookup x=some c->c≠b)/\∀p∈X.pn++bFU,p.1≠b)
  (A:∀b o,b≠X.env.locals->b∉X.fs->b∉ch->s.heap.get? b=some o->H b=none->h'.get? b=some o)
  (E:∀b o,b≠X.env.locals->b∈X.fs->b∉ch->s.heap.get? b=some o->H b=none->∃sl,h'.get? b=some { o with slots:=sl }) (g:∀b o,b∉ch->s.heap.get? b=some o->H b=none->H' b=none)
  (K:∀b o,b∉ch->s.heap.get? b=some o->∃o',h'.get? b=some o')
  (N:∀b xs,H b=some (.tup xs)->H' b=some (.tup xs)) (Q:∀b o u,H b=some (.frz o u)->H' b=some (.frz o u)) (P:∀b ps,H b=some (.tbl ps)->∃more,H' b=some (.tbl (ps++more)))
  (ns:∀m,s.heap.Ns X.env.locals m->h'.Ns X.env.locals m) (V:HOk X.prog X.w H' h') (Y:AllBare g') :
  Inv X bFU σ H' { s with heap:=h',gens:=g',drawn:=d',toks:=t' }:=by
 have F:∀b o,X.s₀.heap.get? b=some o->b≠X.env.locals:=λb o e=>bAI (bAL (bAA e) I.ok.above);have j:∀b o,X.s₀.heap.get? b=some o->b∉X.ex->b∉ch:=λb o e a B=>by
  rcases (y b B).1 with z|z
  ·exact a z
  ·exact absurd (bAL (bAA e) z) (bCP _)
 have f:∀x c,X.env.cells.lookup x=some c->∀v,s.heap.IsCell c v->h'.IsCell c v:=λx c e v ⟨o,C,G⟩=>by
  have h:c∉ch:=λz=>(y c z).2.2.1 x c e rfl;by_cases O:c∈X.fs
  ·obtain⟨sl,q⟩:=E c o (I.cne x c e) O h C (I.freeC x c e);exact⟨_,q,G⟩
  ·exact⟨o,A c o (I.cne x c e) O h C (I.freeC x c e),G⟩
 refine⟨I.ok,I.os,Y,⟨λb o e n B a=>?_,λb o e n B a=>?_,λb o e n a=>?_,λb o e a=>?_,λb xs e=>N b xs (I.base.tups b xs e),λb o xs e=>Q b o xs (I.base.frzs b o xs e),λb ps e=>?_⟩,?_,λx c e=>?_,?_,λx c e=>?_,λp L=>?_,V,I.len⟩
 ·exact A b o (F b o e) B (j b o e a) (I.base.keep b o e n B a) (I.base.free b o e n a)
 ·obtain⟨sl,t⟩:=I.base.slot b o e n B a;obtain⟨J,D⟩:=E b _ (F b o e) B (j b o e a) t (I.base.free b o e n a);exact⟨J,D⟩
 ·obtain⟨o',t⟩:=I.base.there b o e a;exact g b o' (j b o e a) t (I.base.free b o e n a)
 ·obtain⟨o',t⟩:=I.base.there b o e a;exact K b o' (j b o e a) t
 ·obtain⟨U,t⟩:=I.base.tbls b ps e;obtain⟨S,D⟩:=P b _ t;exact⟨U++S,by rw[D,Array.append_assoc]⟩
 ·obtain⟨m,T,W⟩:=I.loc;refine⟨m,ns m T,λi x v t D R=>?_⟩;obtain⟨u,r,l⟩:=W i x v t D R;refine⟨u,r,?_⟩;rcases l with l|⟨k,c,e,z⟩
  ·exact .inl l
  ·exact .inr ⟨k,c,e,f x c e _ z⟩
 ·obtain⟨v,z⟩:=I.cell x c e;exact⟨v,f x c e v z⟩
 ·obtain⟨m,⟨o,_,_,C,_⟩,_⟩:=I.loc;exact g _ o (λz=>(y _ z).2.1 rfl) C I.free
 ·obtain⟨v,o,C,G⟩:=I.cell x c e;exact g c o (λz=>(y c z).2.2.1 x c e rfl) C (I.freeC x c e)
 ·obtain⟨e,n,M,nf,d⟩:=I.pin p L;have h:p.1∉ch:=λz=>(y p.1 z).2.2.2 p L rfl;exact⟨A p.1 p.2 M nf h e n,g p.1 p.2 h e n,M,nf,d⟩
def Inv.un (I:Inv X bFU σ H s)(u:Un X.fs [] H H' s.heap h')(i:HOk X.prog X.w H' h'):Inv X bFU σ H' { s with heap:=h',toks:=t' }:=by
 obtain⟨m,⟨o,v,l,g,r⟩,_⟩:=id I.loc;obtain⟨p,h⟩:=u.any g I.free (by simp);exact I.step (g':=s.gens) (d':=s.drawn) (ch:=[]) (λ_ z=>nomatch z) (λb o _ d _ e n=>u.keep b o e n d (by simp)) (λb o _ d _ e n=>u.slot b o e n d (by simp)) (λb o _ e n=>u.free b o e n (by simp)) (λb o _ e=>u.there b o e (by simp)) u.tups u.frzs u.tbls (λq k=>by obtain⟨t,c,f,a,j⟩:=k;rw[g] at a;cases a;exact⟨_,c,f,h,j⟩) i I.bare
def Inv.call (I:Inv X bFU σ H s)(u:Un (frs X.stack) ch H H' s.heap h')(l:HOk X.prog X.w H' h')(B:AllBare g')
  (h:∀b∈ch,(b∈X.ex\/X.s₀.heap.objs.size<=b)/\b≠X.env.locals/\(∀x c,X.env.cells.lookup x=some c->c≠b)/\∀p∈X.pn++bFU,p.1≠b) :
  Inv X bFU σ H' { s with heap:=h',gens:=g',drawn:=d',toks:=t' }:=by
 obtain⟨m,⟨o,D,v,j,r⟩,_⟩:=id I.loc;obtain⟨y,g⟩:=u.any j I.free λz=>(h _ z).2.1 rfl;exact I.step (ch:=ch) h (λb o g k a e n=>u.keep b o e n (λz=>(List.mem_cons.mp (I.aO3 b z)).elim g k) a) (λb o _ _ a e n=>u.any e n a) (λb o a e n=>u.free b o e n a) (λb o a e=>u.there b o e a) u.tups u.frzs u.tbls (λA t=>by obtain⟨C,f,i,d,q⟩:=t;rw[j] at d;cases d;exact⟨_,f,i,g,q⟩) l B
def Inv.turned (I:Inv X bFU σ H s)(k:∀b o,b≠it->s.heap.get? b=some o->h'.get? b=some o)(hn:H it=none)(f:it≠X.env.locals)
  (y:it∈X.ex\/X.s₀.heap.objs.size<=it) (A:∀x c,X.env.cells.lookup x=some c->c≠it) (t:∀p∈X.pn++bFU,p.1≠it):Inv X bFU σ H { s with heap:=h',toks:=t' }:=by
 have d:∀b u,H b=some u->b≠it:=λb u e z=>by rw[z,hn] at e;cases e
 refine I.step (g':=s.gens) (d':=s.drawn) (ch:=[it]) (λb h=>?_) (λb o _ _ a e _=>k b o (λz=>a (by simp[z])) e) (λb o _ _ a e _=>⟨o.slots,k b o (λz=>a (by simp[z])) e⟩) (λ_ _ _ _ n=>n)
  (λb o a e=>⟨o,k b o (λz=>a (by simp[z])) e⟩) (λ_ _ e=>e) (λ_ _ _ e=>e) (λb w e=>⟨#[],by rw[e];simp⟩) (λm l=>?_) (λb u e=>?_) I.bare
 ·have e:b=it:=by simpa using h
  subst e;exact⟨y,f,A,t⟩
 ·obtain⟨o,j,g,i,r⟩:=l;exact⟨o,j,g,k _ o (Ne.symm f) i,r⟩
 ·refine (I.hok b u e).stay (λc v a q=>k c v ?_ q) (λ_ q=>q) λ_ _ q=>q;rcases a with z|z
  ·rw[z];exact d b u e
  ·exact d c _ z
def Inv.tok (I:Inv X bFU σ H s)(t:Nat):Inv X bFU σ H { s with toks:=t }:=I.un (h':=s.heap) (t':=t) Un.refl I.hok
def Inv.kept (I:Inv X bFU σ H s)(k:∀b u,s.heap.get? b=some u->h'.get? b=some u):Inv X bFU σ H { s with heap:=h',toks:=t' }:=I.un (Un.kept k) (I.hok.kept k)
def Inv.laid (I:Inv X bFU σ H s)(k:∀b u,s.heap.get? b=some u->h'.get? b=some u)(c:s.heap.objs.size<=a)(d:iJ X.prog X.w (upd H a o) h' a o) :
  Inv X bFU σ (upd H a o) { s with heap:=h',toks:=t' }:=I.un (Un.laid k c (I.hok.fresh c)) (I.hok.laid k c d)
def Inv.write (I:Inv X bFU σ H s)(d:Mut (H x))(c:e=x\/H e=some (.own x))(k:∀b u,b≠e->s.heap.get? b=some u->h'.get? b=some u)(a:∃u,h'.get? e=some u)
  (f:iJ X.prog X.w (upd H x o) h' x o):Inv X bFU σ (upd H x o) { s with heap:=h',toks:=t' }:=I.un (Un.write d c k a) (I.hok.write d c k a f)
def Inv.aRo (I:Inv X bFU σ H s)(h:∀p∈pins',s.heap.get? p.1=some p.2/\H p.1=none/\p.1≠X.env.locals/\p.1∉X.fs/\∀v,p.2.data≠.cell v):Inv X pins' σ H s:=
 ⟨I.ok,I.os,I.bare,I.base,I.loc,I.cell,I.free,I.freeC,λp a=>(List.mem_append.mp a).elim (λz=>I.pin p (bDS _ z)) (h p),I.hok,I.len⟩
def aFc {N:List Str}(f:N.Nodup){i j:Nat}{x:Str}(a:N[i]?=some x)(b:N[j]?=some x):i=j:=by obtain⟨e,d⟩:=List.getElem?_eq_some_iff.mp a;obtain⟨g,c⟩:=List.getElem?_eq_some_iff.mp b;exact (List.getElem_inj f).mp (d.trans c.symm)
def aIi {M:Model}{A:Around}{E:bFR}{i:Nat}{x:Str}{v:V}{u:Value}{Q:Unit->Shared->Prop}(I:Inv X bFU σ H s)(hN:X.N.Nodup)(Y:X.N[i]?=some x)(t:Loc X.env.scope x)(r:RelV v u)
  (h:∀s',Inv X bFU (σ.set i (some v)) H s'->(∃a,Heap.SameBut a s.heap s'.heap/\(a=X.env.locals\/X.env.cells.lookup x=some a))->Q () s') (hf:X.fn x=true\/X.env.scope.names.lookup x=some .local:=by first|exact .inl rfl|exact .inr rfl|assumption):wpAny M A (storeName X.env x u) Q E s:=by
 obtain⟨m,hn,hl⟩:=id I.loc;have O:(X.env.scope.kind == .class || (X.env.scope.kind == .module && X.env.locals != X.env.globals))=false:=by rw[I.ok.kind];rfl
 have P:i<σ.length:=by rw[I.len];exact (List.getElem?_eq_some_iff.mp Y).1
 have G:=I.cne;have g:∀{a:Addr} {K:Heap},(∃o,s.heap.get? a=some o/\H a=none)->Heap.SameBut a s.heap K->HOk X.prog X.w H K:=λ{a K} ha f b ob e=>by
  obtain⟨_,_,B⟩:=ha;refine (I.hok b ob e).stay (λc W hc q=>(f.2 c ?_).trans q) (λ_ q=>q) λ_ _ q=>q;rintro rfl;rcases hc with rfl|hc
  ·rw[B] at e;cases e
  ·rw[B] at hc;cases hc
 rcases t with hk|hk
 ·refine wpAny_storeName_local hk hn (λK a0 f=>?_) O;obtain⟨oL,_,_,a1,_⟩:=id hn;refine h _ ⟨I.ok,I.os,I.bare,⟨λb o e n D t=>?_,λb o e n D t=>?_,I.base.free,λb o e t=>?_,I.base.tups,I.base.frzs,I.base.tbls⟩,⟨_,a0,λj y v' l C e3=>?_⟩,λy c e=>?_,I.free,I.freeC,λp hp=>?_,g ⟨oL,a1,I.free⟩ f,by simpa using I.len⟩ ⟨_,f,.inl rfl⟩
  ·exact (f.2 b (bAI (bAL (bAA e) I.ok.above))).trans (I.base.keep b o e n D t)
  ·obtain⟨sl,l⟩:=I.base.slot b o e n D t;exact⟨sl,(f.2 b (bAI (bAL (bAA e) I.ok.above))).trans l⟩
  ·obtain⟨o',l⟩:=I.base.there b o e t;exact⟨o',(f.2 b (bAI (bAL (bAA e) I.ok.above))).trans l⟩
  ·by_cases J:j=i
   ·subst J;rw[Y] at l;cases l;rw[bDL P] at C;cases C;exact⟨u,r,.inl ⟨hk,by simp⟩⟩
   ·rw[bEU (Ne.symm J)] at C;obtain⟨u',r',q⟩:=hl j y v' l C e3;refine⟨u',r',?_⟩;rcases q with⟨k,e⟩|⟨k,c,e,z⟩
    ·refine .inl ⟨k,?_⟩;have:y≠x:=λe=>J (aFc hN l (e ▸ Y));simp[this,e]
    ·exact .inr ⟨k,c,e,z.sameBut f (G y c e)⟩
  ·obtain⟨W,z⟩:=I.cell y c e;exact⟨W,z.sameBut f (G y c e)⟩
  ·obtain⟨e,n,U,nf,d⟩:=I.pin p hp;exact⟨(f.2 p.1 U).trans e,n,U,nf,d⟩
 ·have F:X.fn x=true:=by
   rcases hf with z|z
   ·exact z
   ·rw[z] at hk;cases hk
  obtain⟨c,hc⟩:=I.ok.has x (.inl hk);obtain⟨W,z⟩:=I.cell x c hc;refine wpAny_storeName_cell I.ok.kind hk hc z (λK R f=>?_);obtain⟨oc,S,T⟩:=id z;refine h { s with heap:=K } ⟨I.ok,I.os,I.bare,⟨λb o e n D t=>?_,λb o e n D t=>?_,I.base.free,λb o e t=>?_,I.base.tups,I.base.frzs,I.base.tbls⟩,⟨m,hn.sameBut f (Ne.symm (G x c hc)),λj y v' l C e3=>?_⟩,λy Z e=>?_,I.free,I.freeC,λp hp=>?_,g ⟨oc,S,I.freeC x c hc⟩ f,by simpa using I.len⟩ ⟨c,f,.inr hc⟩
  ·exact (f.2 b (bAI (bAL (bAA e) (I.ok.cab x c F hc)))).trans (I.base.keep b o e n D t)
  ·obtain⟨sl,l⟩:=I.base.slot b o e n D t;exact⟨sl,(f.2 b (bAI (bAL (bAA e) (I.ok.cab x c F hc)))).trans l⟩
  ·obtain⟨o',l⟩:=I.base.there b o e t;exact⟨o',(f.2 b (bAI (bAL (bAA e) (I.ok.cab x c F hc)))).trans l⟩
  ·by_cases J:j=i
   ·subst J;rw[Y] at l;cases l;rw[bDL P] at C;cases C;exact⟨u,r,.inr ⟨.inl hk,c,hc,R⟩⟩
   ·rw[bEU (Ne.symm J)] at C;obtain⟨u',r',q⟩:=hl j y v' l C e3;refine⟨u',r',?_⟩;rcases q with q|⟨k,Z,e,z'⟩
    ·exact .inl q
    ·refine .inr ⟨k,Z,e,z'.sameBut f ?_⟩;rintro rfl;exact J (aFc hN l (I.ok.inj _ _ _ e hc ▸ Y))
  ·by_cases L:Z=c
   ·subst L;exact⟨_,R⟩
   ·obtain⟨w2,z2⟩:=I.cell y Z e;exact⟨w2,z2.sameBut f L⟩
  ·obtain⟨e,n,U,nf,d⟩:=I.pin p hp;refine⟨(f.2 p.1 ?_).trans e,n,U,nf,d⟩;intro q;rw[q,S] at e;have q':=bAM e;exact d W (by rw[<-q'];exact T)
def aFh (I:Inv X bFU σ H s)(d:X.N.Nodup)(e:X.N[i]?=some x)(b:Loc X.env.scope x)(r:RelV v u)
  (h:∀s',Inv X bFU (σ.set i (some v)) H s'->Q () s') (c:X.fn x=true\/X.env.scope.names.lookup x=some .local:=by first|exact .inl rfl|exact .inr rfl|assumption):wpAny M A (storeName X.env x u) Q E s:=
 aIi I d e b r (λs' a _=>h s' a) c
def Inv.call' (I:Inv X bFU σ H s)(h:s'.os=s.os)(u:Un (frs X.stack) ch H H' s.heap s'.heap)(d:HOk X.prog X.w H' s'.heap)(f:AllBare s'.gens)
  (a:∀b∈ch,(b∈X.ex\/X.s₀.heap.objs.size<=b)/\b≠X.env.locals/\(∀x c,X.env.cells.lookup x=some c->c≠b)/\∀p∈X.pn++bFU,p.1≠b):Inv X bFU σ H' s':=by
 obtain⟨i,g',d',t',g⟩:=s';have e:=h;subst e;exact I.call (g':=g') (t':=t') (d':=d') u d f a
end
abbrev XK:=Value->Option Addr->Hp->Prop
abbrev St:=List (Option V)
abbrev VK:=V->Hp->Prop
abbrev TE:=St->Hp->VK->Prop
abbrev TT:=St->Hp->(Bool->Hp->Prop)->Prop
abbrev TA:=St->Hp->(List V->Hp->Prop)->Prop
structure Ends where
 nx:St->Hp->Prop
 rt:VK
 bk:St->Hp->Prop:=λ_ _=>False
 ct:St->Hp->Prop:=λ_ _=>False
abbrev TS:=Ends->St->Hp->Prop
def EP (X:Cx)(bFU:bFS)(σ:St)(Q:VK)(u:Value)(s':Shared):Prop:=∃v H',Inv X bFU σ H' s'/\RelV v u/\Q v H'
def TP (X:Cx)(bFU:bFS)(σ:St)(Q:Bool->Hp->Prop)(b:Bool)(s':Shared):Prop:=∃H',Inv X bFU σ H' s'/\Q b H'
def AP (X:Cx)(bFU:bFS)(σ:St)(Q:List V->Hp->Prop)(us:List Value)(s':Shared):Prop:=∃vs H',Inv X bFU σ H' s'/\Vals vs us/\Q vs H'
def SP (X:Cx)(bFU:bFS)(D:Ends)(f:Flow)(s':Shared):Prop:=
 match f with
 |.next=>∃σ' H',Inv X bFU σ' H' s'/\D.nx σ' H'
 |.brk=>∃σ' H',Inv X bFU σ' H' s'/\D.bk σ' H'
 |.cont=>∃σ' H',Inv X bFU σ' H' s'/\D.ct σ' H'
 |.ret u=>∃v σ' H',Inv X bFU σ' H' s'/\RelV v u/\D.rt v H'
def PE (X:Cx)(e:Expr)(t:TE):Prop:=
 ∀bFU s σ H Q,Inv X bFU σ H s->t σ H Q->wpAny (model X.prog X.w) X.A (eval e X.env) (EP X bFU σ Q) X.xe s
def PT (X:Cx)(e:Expr)(t:TT):Prop:=
 ∀bFU s σ H Q,Inv X bFU σ H s->t σ H Q->wpAny (model X.prog X.w) X.A (isTrue e X.env (eval e X.env)) (TP X bFU σ Q) X.xe s
def PW (X:Cx)(e:Expr)(t:TT):Prop:=
 ∀whole bFU s σ H Q,Inv X bFU σ H s->t σ H Q->wpAny (model X.prog X.w) X.A (isTrue e X.env whole) (TP X bFU σ Q) X.xe s
def PW.pt (h:PW X e t):PT X e t:=h _
def PA (X:Cx)(es:List Expr)(t:TA):Prop:=
 ∀pos bFU s σ H Q,Inv X bFU σ H s->t σ H Q->wpAny (model X.prog X.w) X.A (spliced (backTo pos (starEach es X.env))) (AP X bFU σ Q) X.xe s
def PS (X:Cx)(st:Stmt)(t:TS):Prop:=
 ∀bFU s σ H D,Inv X bFU σ H s->t D σ H->wpAny (model X.prog X.w) X.A (exec st X.env) (SP X bFU D) X.xe s
def PSs (X:Cx)(st:List Stmt)(t:TS):Prop:=
 ∀bFU s σ H D,Inv X bFU σ H s->t D σ H->wpAny (model X.prog X.w) X.A (execs st X.env) (SP X bFU D) X.xe s
def thn {α:Type}{t:Sem α}{Q Q':α->Shared->Prop}{M:Model}{A:Around}{E:bFR}{s:Shared}(h:wpAny M A t Q E s)(b:∀a s,Q a s->Q' a s):wpAny M A t Q' E s:=bBB h b λ_ _ x=>x
inductive iK (i:Nat)(σ:St)(H:Hp)(Q:VK):Prop
 |mk (v:_) (h0:σ[i]?=some (some v)) (h1:Q v H):iK i σ H Q
def tC (v:V):TE:=λ_ H Q=>Q v H
def bDc (n:X.N[i]?=some x)(k:Vis X.env.scope x)(hd:(x == ("__debug__":Str))=false:=by decide)(g:(x == ("__classdict__":Str))=false:=by decide):PE X (.Name x pos) (iK i):=by
 intro b s σ H Q I h;obtain⟨v,e,h⟩:=h;obtain⟨m,d,f⟩:=I.loc;obtain⟨u,r,l⟩:=f i x v n e k;have a:EP X b σ Q u s:=⟨v,H,I,r,h⟩;rcases l with⟨hk,j⟩|⟨hk,c,hc,hcell⟩
 ·exact wpAny_Name (wpAny_loadName_local I.ok.kind hk d j a) hd
 ·rcases hk with hk|hk
  ·exact wpAny_Name (wpAny_loadName_cell I.ok.kind hk hc hcell a) hd
  ·exact wpAny_Name (wpAny_loadName_free I.ok.kind hk hc hcell a g) hd
def bF7 {i j pos}:PE X (.Constant (.int i) j pos) (tC (.int i)):=λ_ _ _ H _ I h=>wpAny_Constant_int ⟨.int i,H,I.tok _,⟨_,rfl⟩,h⟩
def bIb {b j pos}:PE X (.Constant (.bool b) j pos) (tC (.bl b)):=λ_ _ _ H _ I h=>Constant_bool ⟨.bl b,H,I,rfl,h⟩
def aW7 {j pos}:PE X (.Constant .none j pos) (tC .non):=λ_ _ _ H _ I h=>Constant_none ⟨.non,H,I,rfl,h⟩
def bD3 {x j pos}:PE X (.Constant (.str x) j pos) (tC (.str x)):=λ_ _ _ H _ I h=>Calls.Constant_str ⟨.str x,H,I.tok _,⟨_,rfl⟩,h⟩
def Gl (X:Cx)(x:Str):Prop:=X.env.kindOf x=some .globalImplicit
def nR (I:Inv X bFU σ H s)(a:Gl X x)(b:X.mg x=some u)(h:Q u s)
  (hd:(x == ("__debug__":Str))=false:=by decide):wpAny (model X.prog X.w) X.A (eval (.Name x pos) X.env) Q E s:=
 bFG I.ok.kind a (Calls.loadGlobal_global (by rw[I.ok.glob];exact I.mod.glob.keeps I.bk) b h) hd
def yZ (I:Inv X bFU σ H s)(c:Gl X x)(d:X.mg x=none)(e:bootBuiltins x=some u)(h:Q u s)
  (hn:x≠"__name__":=by decide) (hd:(x == ("__debug__":Str))=false:=by decide):wpAny (model X.prog X.w) X.A (eval (.Name x pos) X.env) Q E s:=by
 obtain⟨f,a,b⟩:=I.mod.blt;exact bFG I.ok.kind c (Calls.loadGlobal_builtin (by rw[I.ok.glob];exact I.mod.glob.keeps I.bk) d (by rw[I.ok.blt];exact a.keeps I.bk) ((b x hn).trans e) h) hd
def aZu (a:Gl X x)(b:X.mg x=some u)(r:RelV v u)(hd:(x == ("__debug__":Str))=false:=by decide):PE X (.Name x pos) (tC v):=
 λ_ _ _ H _ I h=>nR I a b ⟨v,H,I,r,h⟩ hd
def aZf (a:Gl X x)(c:X.mg x=none)(b:bootBuiltins x=some u)(r:RelV v u)(hn:x≠"__name__":=by decide)(hd:(x == ("__debug__":Str))=false:=by decide):PE X (.Name x pos) (tC v):=
 λ_ _ _ H _ I h=>yZ I a c b ⟨v,H,I,r,h⟩ hn hd
inductive bGx (Q:Bool->Hp->Prop)(x:V)(H1:Hp):Prop
 |mk (c:_) (h0:x=.bl c) (h1:Q c H1):bGx Q x H1
def tB (t:TE):TT:=fun σ H Q=>t σ H (bGx Q)
def bFz {e:Expr}{t:TE}(h:PE X e t)(j:∀whole,isTrue e X.env whole=(do let v <-whole;standAt e.pos;holding [v] (truthy v)):=by intro _;rfl):PT X e (tB t):=by intro a s σ H Q I b;refine isTrue_plain (thn (h a s σ H _ I b) λv k ⟨x,c,f,g,i⟩=>?_) (j _);obtain⟨d,rfl,q⟩:=i;cases g;exact bBQ ⟨c,f,q⟩
def bHq (t u:TT):TT:=fun σ H Q=>t σ H λc H1=>if c=true then u σ H1 Q else Q false H1
def tOr (t u:TT):TT:=fun σ H Q=>t σ H λc H1=>if c=true then Q true H1 else u σ H1 Q
def bFm (t:TT):TT:=fun σ H Q=>t σ H λc H1=>Q (!c) H1
def bBd (f:PT X a tA):PW X (.BoolOp .And [a] pos) tA:=by
 intro d b s σ H Q I h;refine isTrue_and (thn (f b s σ H Q I h) λc g e=>?_);cases c with
 |true=>exact isTrue_and_nil e
 |false=>exact e
def bDe (f:PT X a tA):PW X (.BoolOp .Or [a] pos) tA:=by
 intro d b s σ H Q I h;refine isTrue_or (thn (f b s σ H Q I h) λc g e=>?_);cases c with
 |false=>exact isTrue_or_nil e
 |true=>exact e
def bDg (k:PT X a tA)(l:PW X (.BoolOp .And (b::rest) pos) tB'):PW X (.BoolOp .And (a::b::rest) pos) (bHq tA tB'):=by
 intro i d s σ H Q I h;refine isTrue_and (thn (k d s σ H _ I h) λc j ⟨e,f,g⟩=>?_);cases c with
 |true=>exact l i d j σ e Q f g
 |false=>exact⟨e,f,g⟩
def bGi (k:PT X a tA)(l:PW X (.BoolOp .Or (b::rest) pos) tB'):PW X (.BoolOp .Or (a::b::rest) pos) (tOr tA tB'):=by
 intro i d s σ H Q I h;refine isTrue_or (thn (k d s σ H _ I h) λc j ⟨e,f,g⟩=>?_);cases c with
 |true=>exact⟨e,f,g⟩
 |false=>exact l i d j σ e Q f g
def bE8 (e:PT X a tA):PT X (.UnaryOp .Not a pos) (bFm tA):=by intro b s σ H Q I h;exact isTrue_not (e b s σ H (λc d=>Q (!c) d) I h)
def bCw (ta tb:TE):TE:=fun σ H Q=>ta σ H λx H1=>∃c,x=.bl c/\if c=true then tb σ H1 Q else Q (.bl false) H1
def bGf (ta tb:TE):TE:=fun σ H Q=>ta σ H λx H1=>∃c,x=.bl c/\if c=true then Q (.bl true) H1 else tb σ H1 Q
def bCd (ta:TE):TE:=fun σ H Q=>ta σ H λx H1=>∃c,x=.bl c/\Q (.bl (!c)) H1
def bF8 {op}(h:PE X a t):PE X (.BoolOp op [a] pos) t:=λb s σ H Q I c=>BoolOp_one (h b s σ H Q I c)
def bEy (l:PE X a ta)(k:PE X (.BoolOp .And (b::rest) pos) tb):PE X (.BoolOp .And (a::b::rest) pos) (bCw ta tb):=by
 intro d s σ H Q I h;refine BoolOp_and (thn (l d s σ H _ I h) λv j ⟨x,f,g,i,e⟩=>?_);obtain⟨c,rfl,e⟩:=e;cases i;refine bBQ ?_;cases c with
 |true=>exact k d j σ f Q g e
 |false=>exact⟨.bl false,f,g,rfl,e⟩
def bGt (l:PE X a ta)(k:PE X (.BoolOp .Or (b::rest) pos) tb):PE X (.BoolOp .Or (a::b::rest) pos) (bGf ta tb):=by
 intro d s σ H Q I h;refine BoolOp_or (thn (l d s σ H _ I h) λv j ⟨x,f,g,i,e⟩=>?_);obtain⟨c,rfl,e⟩:=e;cases i;refine bBQ ?_;cases c with
 |false=>exact k d j σ f Q g e
 |true=>exact⟨.bl true,f,g,rfl,e⟩
def bF0 (j:PE X a ta):PE X (.UnaryOp .Not a pos) (bCd ta):=by intro d s σ H Q I h;refine UnaryOp_ (thn (j d s σ H _ I h) λv i ⟨x,e,f,g,b⟩=>?_);obtain⟨c,rfl,b⟩:=b;cases g;exact not_of (bBQ ⟨.bl (!c),e,f,rfl,b⟩)
def tIf (t:TT)(ta tb:TE):TE:=fun σ H Q=>t σ H λc H1=>if c=true then ta σ H1 Q else tb σ H1 Q
def aXf {c:Expr}(l:PT X c tA)(k:PE X a ta)(m:PE X b tb):PE X (.IfExp c a b pos) (tIf tA ta tb):=by
 intro e s σ H Q I h;refine wpAny_IfExp (thn (l e s σ H _ I h) λd j ⟨f,g,i⟩=>?_);cases d with
 |true=>exact k e j σ f Q g i
 |false=>exact m e j σ f Q g i
def SqL (K:bFQ)(H:Hp)(a:Addr)(xs:List V):Prop:=
 Rd H a (.lst xs) \/
  ∃o its n,K.lookup a=some o/\o.cls=.type "list"/\o.dict=none/\o.data=.seq its n/\its.size<=sizeLine/\Vals xs its.toList
def SqT (K:bFQ)(H:Hp)(a:Addr)(xs:List V):Prop:=
 Rd H a (.tup xs) \/
  ∃o its n,K.lookup a=some o/\o.cls=.type "tuple"/\o.dict=none/\o.data=.seq its n/\its.size<=sizeLine/\Vals xs its.toList
def bIq:Value->Option V
 |.none=>some .non
 |.bool b=>some (.bl b)
 |.int i _=>some (.int i)
 |.str x _=>some (.str x)
 |.bytes b _=>some (.byt b)
 |.float b _=>some (.flt b)
 |.ref a=>some (.ref a)
 |.type n=>some (.ty n)
 |_=>none
def RelV.abs (r:RelV x u):bIq u=some x:=by
 cases x with
 |non=>cases r;rfl
 |bl _=>cases r;rfl
 |int _=>obtain⟨t,rfl⟩:=r;rfl
 |str _=>obtain⟨t,rfl⟩:=r;rfl
 |byt _=>obtain⟨t,rfl⟩:=r;rfl
 |flt _=>obtain⟨t,rfl⟩:=r;rfl
 |ref _=>cases r;rfl
 |ty _=>cases r;rfl
def RelV.inj (r:RelV x u)(q:RelV y u):x=y:=bAM (r.abs.symm.trans q.abs)
theorem Vals.inj:∀{xs ys:List V} {us:List Value},Vals xs us->Vals ys us->xs=ys
 |_,_,_,.nil,.nil=>rfl
 |_,_,_,.cons r t,.cons r' t'=>by rw[r.inj r',Vals.inj t t']
def SqL.of {K:bFQ}(h:H a=some (.lst xs)):SqL K H a xs:=.inl (.inl h)
def SqT.of {K:bFQ}(h:H a=some (.tup xs)):SqT K H a xs:=.inl (.inl h)
def Inv.list (I:Inv X bFU σ H s)(h:SqL X.K H a xs):∃its:List Value,Vals xs its/\PlainL s.heap a its.toArray/\xs.length<=sizeLine:=by
 rcases h with h|⟨o,its,n,f,c,b,d,g,r⟩
 ·obtain⟨z,its,n,r,e⟩:=h.ok I.hok;exact⟨its,r,⟨_,n,e,rfl,rfl,rfl⟩,z⟩
 ·refine⟨its.toList,r,⟨o,n,I.kIn a o f,c,b,by simpa using d⟩,?_⟩;have e:=r.length;simp only[bAW] at e;lia
def Inv.tuple (I:Inv X bFU σ H s)(h:SqT X.K H a xs):∃its:List Value,Vals xs its/\IsTup s.heap a its.toArray/\xs.length<=sizeLine:=by
 rcases h with h|⟨o,its,n,d,b,f,c,g,r⟩
 ·obtain⟨z,its,r,p⟩:=h.ok I.hok;exact⟨its,r,p.1,z⟩
 ·refine⟨its.toList,r,⟨o,I.kIn a o d,b,n,by simpa using c⟩,?_⟩;have e:=r.length;simp only[bAW] at e;lia
def Inv.bIi (I:Inv X bFU σ H s)(h:SqT X.K H a xs):∃its:List Value,Vals xs its/\aBq s.heap a its.toArray/\xs.length<=sizeLine:=by
 rcases h with h|⟨o,its,n,b,d,c,f,g,r⟩
 ·obtain⟨z,its,r,p⟩:=h.ok I.hok;exact⟨its,r,p,z⟩
 ·refine⟨its.toList,r,.of (I.kIn a o b) c ⟨o,I.kIn a o b,d,n,by simpa using f⟩,?_⟩;have e:=r.length;simp only[bAW] at e;lia
def Inv.aWv (I:Inv X bFU σ H s)(h:SqL X.K H a xs)(h':SqL X.K H a ys):xs=ys:=by
 obtain⟨c,r,⟨o,n,e,_,_,d⟩,_⟩:=I.list h;obtain⟨b,i,⟨j,k,g,_,_,f⟩,_⟩:=I.list h';rw[e] at g;cases g;rw[d] at f;injection f with d1 _;have:c=b:=by simpa using congrArg Array.toList d1
 subst this;exact r.inj i
def Inv.aT2 (I:Inv X bFU σ H s)(h:SqT X.K H a xs)(h':SqT X.K H a ys):xs=ys:=by
 obtain⟨c,r,⟨o,e,_,n,d⟩,_⟩:=I.tuple h;obtain⟨b,i,⟨j,g,_,k,f⟩,_⟩:=I.tuple h';rw[e] at g;cases g;rw[d] at f;injection f with d1 _;have:c=b:=by simpa using congrArg Array.toList d1
 subst this;exact r.inj i
abbrev Cx.wish (X:Cx)(E:bFR):Cx:={ X with xe:=E }
abbrev Cx.nox (X:Cx):Cx:=X.wish λ_ _=>False
def Cx.Ok.wish {X:Cx}(a:X.Ok)(E:bFR):(X.wish E).Ok:=
 ⟨a.mod,a.kind,a.glob,a.blt,a.above,a.inj,a.has,a.cab,a.hd,a.frames,a.stk,a.exf,a.bs,a.bsz,a.noex,a.exfs,a.funs,a.frf⟩
def Cx.Ok.wJ {X:Cx}{E:bFR}(a:(X.wish E).Ok):X.Ok:=
 ⟨a.mod,a.kind,a.glob,a.blt,a.above,a.inj,a.has,a.cab,a.hd,a.frames,a.stk,a.exf,a.bs,a.bsz,a.noex,a.exfs,a.funs,a.frf⟩
def Inv.wish (I:Inv X bFU σ H s)(E:bFR):Inv (X.wish E) bFU σ H s:=⟨I.ok.wish E,I.os,I.bare,I.base,I.loc,I.cell,I.free,I.freeC,I.pin,I.hok,I.len⟩
def Inv.wJ (I:Inv (X.wish E) bFU σ H s):Inv X bFU σ H s:=⟨I.ok.wJ,I.os,I.bare,I.base,I.loc,I.cell,I.free,I.freeC,I.pin,I.hok,I.len⟩
def SP.wJ (h:SP (X.wish E) bFU D f s'):SP X bFU D f s':=by
 cases f with
 |next=>obtain⟨a,b,I,q⟩:=h;exact⟨a,b,I.wJ,q⟩
 |brk=>obtain⟨a,b,I,q⟩:=h;exact⟨a,b,I.wJ,q⟩
 |cont=>obtain⟨a,b,I,q⟩:=h;exact⟨a,b,I.wJ,q⟩
 |ret u=>obtain⟨v,a,b,I,r,q⟩:=h;exact⟨v,a,b,I.wJ,r,q⟩
def PSs.nox {st:List Stmt}{t:TS}(h:PSs X.nox st t):PSs X st t:=λa s σ H D I b=>
 bBB (h a s σ H D (I.wish _) b) (λ_ _ q=>q.wJ) λ_ _ z=>False.elim z
section
variable {X:Cx}{st:Stmt}{rest:List Stmt}{t u:TS}
def aDd:TS:=λD σ H=>D.nx σ H
def rF (t u:TS):TS:=λD σ H=>t { D with nx:=u D } σ H
def aZe:PSs X [] aDd:=λ_ _ σ H _ I h=>bDO ⟨σ,H,I,h⟩
def aVv (g:PS X st t)(i:PSs X rest u):PSs X (st::rest) (rF t u):=by
 intro a s σ H D I h;refine wpAny_execs_cons (thn (g a s σ H { D with nx:=u D } I h) λf d q=>?_);cases f with
 |next=>obtain⟨b,e,c,q⟩:=q;exact i a d b e D c q
 |ret v=>exact q
 |brk=>exact q
 |cont=>exact q
def aSc (b:PS X st t):PSs X [st] t:=by
 intro a s σ H D I h;refine wpAny_execs_cons (thn (b a s σ H D I h) λf c q=>?_);cases f with
 |next=>exact bDO q
 |ret v=>exact q
 |brk=>exact q
 |cont=>exact q
def Inv.quiet (I:Inv X bFU σ H s):interactive X.env=false:=by simp[interactive,I.ok.kind]
def aDh (te:TE):TS:=λD σ H=>te σ H λ_ H1=>D.nx σ H1
def aRv (g:PE X e te)(hs:swapsWith e none pos.line X.env=pure false:=by rfl):PS X (.Expr e pos) (aDh te):=by intro a s σ H D I h;exact wpAny_Expr_any (thn (g a s σ H _ I h) λv i ⟨x,b,c,f,d⟩=>⟨σ,b,c,d⟩) I.quiet hs
def aHf (te:TE):TS:=λD σ H=>te σ H D.rt
def bFl (g:PE X e te):PS X (.Return (some e) pos) (aHf te):=by intro a s σ H D I h;exact wpAny_Return_some (thn (g a s σ H _ I h) λv i ⟨x,b,c,d,f⟩=>⟨x,σ,b,c,d,f⟩)
def bDt (c:TT)(t u:TS):TS:=λD σ H=>c σ H λb H1=>if b=true then t D σ H1 else u D σ H1
def bG6 {c:Expr}{a b:List Stmt}{tc:TT}(l:PT X c tc)(k:PSs X a t)(m:PSs X b u):PS X (.If c a b pos) (bDt tc t u):=by
 intro e s σ H D I h;refine wpAny_If (thn (l e s σ H _ I h) λd j ⟨f,g,i⟩=>?_);cases d with
 |true=>exact k e j σ f D g i
 |false=>exact m e j σ f D g i
def aXm:TS:=λ_ _ _=>False
def aVk:PS X st aXm:=λ_ _ _ _ _ _ h=>h.elim
end
abbrev TG:=V->St->Hp->(St->Hp->Prop)->Prop
abbrev TGs:=List V->St->Hp->(St->Hp->Prop)->Prop
def PG (X:Cx)(target:Expr)(t:TG):Prop:=
 ∀bFU s σ H v u Q,Inv X bFU σ H s->RelV v u->t v σ H Q ->
  wpAny (model X.prog X.w) X.A (assign target X.env u) (λ_ s'=>∃σ' H',Inv X bFU σ' H' s'/\Q σ' H') X.xe s
def PGs (X:Cx)(ts:List Expr)(t:TGs):Prop:=
 ∀bFU s σ H vs us Q,Inv X bFU σ H s->Vals vs us->t vs σ H Q ->
  wpAny (model X.prog X.w) X.A (assignInOrder ((assignEach ts X.env).map (·.2)) us) (λ_ s'=>∃σ' H',Inv X bFU σ' H' s'/\Q σ' H') X.xe s
abbrev bE0:=V->V->V->Hp->(Hp->Prop)->Prop
def bE3 (X:Cx)(t:bE0):Prop:=
 ∀bFU s σ H o i v ov iv u Q,Inv X bFU σ H s->RelV o ov->RelV i iv->RelV v u->t o i v H Q ->
  wpAny (model X.prog X.w) X.A (setItem ov iv u) (λ_ s'=>∃H',Inv X bFU σ H' s'/\Q H') X.xe s
def cY (i:Nat):TG:=λv σ H Q=>Q (σ.set i (some v)) H
def bAk (e:X.N.Nodup)(g:X.N[i]?=some x)(c:Loc X.env.scope x)(d:X.fn x=true\/X.env.scope.names.lookup x=some .local:=by first|exact .inl rfl|exact .inr rfl|assumption):PG X (.Name x pos) (cY i):=by intro a s σ H v u Q I r h;exact wpAny_assign_Name (aFh I e g c r (λf b=>⟨_,H,b,h⟩) d)
def aPp:TGs:=λvs σ H Q=>vs=[]/\Q σ H
def uN (t:TG)(u:TGs):TGs:=λvs σ H Q=>∃v r,vs=v::r/\t v σ H fun σ' H'=>u r σ' H' Q
def bAb:PGs X [] aPp:=by intro a s σ H b c Q I r h;obtain⟨e,h⟩:=h;subst e;cases r;exact assignInOrder_nil ⟨σ,H,I,h⟩
def aWa {e:Expr}{es:List Expr}{t:TG}{u:TGs}(l:PG X e t)(n:PGs X es u)
  (hs:(assignEach (e::es) X.env).map (·.2)=assign e X.env::(assignEach es X.env).map (·.2):=by rfl):PGs X (e::es) (uN t u):=by
 intro a s σ H m k Q I r h;obtain⟨v,j,i,h⟩:=h;subst i;cases r with
 |cons r rr=>rw[hs];refine assignInOrder_cons (thn (l a s σ H _ _ _ I r h) λ_ g ⟨c,b,d,f⟩=>?_);exact n a g c b _ _ Q d rr f
inductive aI3 (K:bFQ)(n:Nat)(t:TGs)(v:V)(σ:St)(H:Hp)(Q:St->Hp->Prop):Prop
 |mk (a:_) (xs:_) (h0:v=.ref a) (h1:SqT K H a xs) (h2:xs.length=n) (h3:t xs σ H Q):aI3 K n t v σ H Q
def bDs (A:X.calm=true)(h:PGs X es t)
  (hn:(assignEach es X.env).length=n:=by rfl) (p:(assignEach es X.env).findIdx? (·.1)=none:=by rfl):PG X (.Tuple es k pos) (aI3 X.K n t):=by
 intro d s σ H v u Q I r c;obtain⟨a,q,w,x,m,c⟩:=c;subst w;cases r;obtain⟨i,f,l,z⟩:=I.tuple x;refine assign_Tuple_tuple (I.ok.hd A) l (by simp[hn,<-m,f.length]) p λy g=>?_;have j:=I.kept (t':=s.toks) λb o e=>g b o (bAI (bAA e)) e;exact h d _ σ H q _ Q j (by simpa using f) c
def bGg (to ti:TE)(t:bE0):TG:=λv σ H Q=>to σ H λo H1=>ti σ H1 λi H2=>t o i v H2 λH3=>Q σ H3
def bEc {o i:Expr}{to ti:TE}{t:bE0}(A:PE X o to)(w:PE X i ti)(hs:bE3 X t)
  (B:∀v,assign (.Subscript o i pos) X.env v=(do
   let ov <-holding [v] (eval o X.env)
   let iv <-holding [v,ov] (eval i X.env)
   standAt pos
   holding [v,ov,iv] (setItem ov iv v)
   release [v,ov,iv] []):=by intro _;rfl):PG X (.Subscript o i pos) (bGg to ti t):=by
 intro a s σ H v u Q I r h;rw[B];refine c7 (bBM (thn (A a s σ H _ I h) λov j ⟨x,q,d,e,f⟩=>?_));refine c7 (bBM (thn (w a j σ q _ d f) λiv n ⟨y,b,k,p,g⟩=>?_));refine c7 (bDH (c7 (bBM (thn (hs a n σ b x y v ov iv u _ k e p r g) λ_ z ⟨c,m,l⟩=>?_))));exact wpAny_release ⟨σ,c,m,l⟩
def vH (te:TE)(g:TG):TS:=λD σ H=>te σ H λx H1=>g x σ H1 D.nx
def bFe {tg e:Expr}{te:TE}{g:TG}(l:PE X e te)(m:PG X tg g)(hs:swapsWithSole [tg] e pos.line X.env=pure false:=by rfl)(j:swappedStores [tg] e X.env=pure none:=by rfl)
  (k:(assignEach [tg] X.env).map (·.2)=[assign tg X.env]:=by rfl):PS X (.Assign [tg] e pos) (vH te g):=by
 intro a s σ H D I h;refine wpAny_Assign_stores (thn (l a s σ H _ I h) λv i ⟨x,b,c,d,f⟩=>?_) hs j;rw[k];exact thn (m a i σ b x v _ c d f) λ_ n q=>q
def bDr {i:Nat}{x:Str}{e:Expr}{te:TE}{pos':Pos}(o:X.N.Nodup)(l:X.N[i]?=some x)(j:Loc X.env.scope x)(m:PE X e te)(hs:swapsWith e (some (.Name x pos')) pos.line X.env=pure false:=by rfl)(k:X.fn x=true\/X.env.scope.names.lookup x=some .local:=by first|exact .inl rfl|exact .inr rfl|assumption) :
  PS X (.Assign [.Name x pos'] e pos) (vH te (cY i)):=by
 intro a s σ H D I h;refine wpAny_Assign_Name (thn (m a s σ H _ I h) λv n ⟨y,b,c,d,f⟩=>?_) hs;exact aFh c o l j d (λp g=>⟨_,b,g,f⟩) k
def aXw (c:TT)(tb:TS):TS:=λD σ H=>∃W:Nat->St->Hp->Prop,(∃m,W m σ H)/\∀m σ H,W m σ H ->
 c σ H λb H1=>if b=true then ∃N:St->Hp->Prop,(∀σ' H',N σ' H'->∃m',m'<m/\W m' σ' H')/\tb { D with nx:=N,ct:=N,bk:=D.nx } σ H1 else D.nx σ H1
def aVf (z:PassesOwn (model X.prog X.w) X.A X.env X.xe)(F:PT X c tc)(C:PSs X body tb):PS X (.While c body [] pos) (aXw tc tb):=by
 intro a s σ H D I h;obtain⟨W,⟨x,u⟩,g⟩:=h;refine wpAny_While (codeAny_whileLoop (λn y=>∃σ' H',Inv X a σ' H' y/\W n σ' H') ?_ x ⟨σ,H,I,u⟩);rintro n s1 ⟨σ1,H1,I1,w1⟩;refine bDC z (thn (F a s1 σ1 H1 _ I1 (g n σ1 H1 w1)) λb B ⟨q,r,j⟩=>?_);cases b with
 |true=>
  obtain⟨N,t,j⟩:=j;rw[if_pos rfl];refine bDC z (thn (C a B σ1 q _ r j) λf E i=>?_);cases f with
  |next=>obtain⟨e,d,m,o⟩:=i;obtain⟨l,p,k⟩:=t e d o;exact⟨l,p,e,d,m,k⟩
  |cont=>obtain⟨e,d,m,o⟩:=i;obtain⟨l,p,k⟩:=t e d o;exact⟨l,p,e,d,m,k⟩
  |brk=>exact i
  |ret v=>exact i
 |false=>rw[if_neg bAC];exact bDO ⟨σ1,q,r,j⟩
structure It where
 go:Nat->Hp->Prop
 yld:Nat->Hp->V->Hp->Prop
 stop:Nat->Hp->Prop
def xK (X:Cx)(bFU:bFS)(H:Hp)(b:Addr):Prop:=
 H b=none/\b≠X.env.locals/\b∉X.fs/\(b∈X.ex\/X.s₀.heap.objs.size<=b)/\(∀x c,X.env.cells.lookup x=some c->c≠b)/\∀p∈X.pn++bFU,p.1≠b
def Inv.aQl (I:Inv X bFU σ H s)(a:s.heap.objs.size<=b)(hn:H' b=none):xK X bFU H' b:=by
 refine⟨hn,bDD (bAL I.lt a),I.nofs a,.inr (bAF I.sz a),λx c e z=>?_,λp d z=>?_⟩
 ·obtain⟨v,q⟩:=I.cell x c e;exact absurd (bAL q.lt (by rw[z];exact a)) (bCP _)
 ·exact absurd (bAL (bAA (I.pin p d).1) (by rw[z];exact a)) (bCP _)
structure Turn (P:Program)(w:World)(K:bFQ)(tg:Expr)(J:It)(fp:List Addr)(it:Addr)(tn:Nat->Heap->Prop):Prop where
 mem:it∈fp
 obj:∀i h,tn i h->∀b∈fp,∃o,h.get? b=some o/\∀v,o.data≠.cell v
 keep:∀i h h',tn i h->(∀b∈fp,∀o,h.get? b=some o->h'.get? b=some o)->tn i h'
 item:∀(X:Cx),X.prog=P->X.w=w->X.K=K->X.calm=true->∀(i:Nat) (bFU:bFS) (s:Shared) (σ:St) (H:Hp) (E:bFR),Inv X bFU σ H s->(∀b∈fp,xK X bFU H b)->tn i s.heap->J.go i H ->
  wpAny (model P w) X.A (pyNext (.ref it)) (λr s1=>∃u,r=some u /\
   wpAny (model P w) X.A (letOwnedTupleGo tg (.ref it) u) (λ_ s2=>∃x H',Inv X bFU σ H' s2/\RelV x u/\J.yld i H x H'/\tn (i+1) s2.heap/\∀b∈fp,H' b=none) E s1) E s
 done:∀(X:Cx),X.prog=P->X.w=w->X.K=K->X.calm=true->∀(i:Nat) (bFU:bFS) (s:Shared) (σ:St) (H:Hp) (E:bFR),Inv X bFU σ H s->(∀b∈fp,xK X bFU H b)->tn i s.heap->J.stop i H ->
  wpAny (model P w) X.A (pyNext (.ref it)) (λr s1=>r=none/\Inv X bFU σ H s1) E s
 self:∀(A:Around) (i:Nat) (s:Shared) (Q:bFR) (E:bFR),tn i s.heap->Q (.ref it) s->wpAny (model P w) A (pyIter (.ref it)) Q E s
abbrev TI:=St->Hp->(It->Hp->Prop)->Prop
def PIE (X:Cx)(bFU:bFS)(σ:St)(tg:Expr)(R:It->Hp->Prop)(itv:Value)(s2:Shared):Prop:=
 ∃it fp tn J H',itv=.ref it/\Inv X bFU σ H' s2/\Turn X.prog X.w X.K tg J fp it tn/\tn 0 s2.heap/\(∀b∈fp,xK X bFU H' b)/\R J H'
def PI (X:Cx)(tg iter:Expr)(wi:TI):Prop:=
 ∀bFU s σ H R,Inv X bFU σ H s->wi σ H R ->
  wpAny (model X.prog X.w) X.A (eval iter X.env) (λv s1=>wpAny (model X.prog X.w) X.A (pyIter v) (PIE X bFU σ tg R) X.xe s1) X.xe s
def aMc (c:s.heap.get? it=some o)(b:o.cls=.type n)(hd:o.data=.fields vs)
  (hn:["enumerate","zip","dict_itemiterator","dict_reverseitemiterator","odict_iterator","itertools.zip_longest","itertools.pairwise"].contains n=false) (a:Q () s):wpAny M A (letOwnedTupleGo tg (.ref it) u) Q E s:=by
 unfold letOwnedTupleGo;cases tg <;> first
  |exact j9 a
  |(cases u <;> first
    |exact j9 a
    |(refine c7 (wpAny_load c ?_);rw[b,hd];show wpAny M A (if (["enumerate","zip","dict_itemiterator","dict_reverseitemiterator","odict_iterator","itertools.zip_longest","itertools.pairwise"].contains n && vs[0]? == some (rawInt _))=true then _ else _) Q E s;rw[if_neg (by intro h;rw[hn,bCB] at h;cases h)];exact j9 a))
def Itl (K:bFQ)(a:Addr):It:=
 ⟨λi H=>∃xs x,SqL K H a xs/\xs[i]?=some x,λi H x H'=>H'=H/\∀xs,SqL K H a xs->xs[i]?=some x,λi H=>∃xs,SqL K H a xs/\xs.length<=i⟩
def Itt (K:bFQ)(a:Addr):It:=
 ⟨λi H=>∃xs x,SqT K H a xs/\xs[i]?=some x,λi H x H'=>H'=H/\∀xs,SqT K H a xs->xs[i]?=some x,λi H=>∃xs,SqT K H a xs/\xs.length<=i⟩
def Itr (lo:Int)(n:Nat):It:=⟨λi _=>i<n,λi H x H'=>H'=H/\x=.int (lo+i),λi _=>n<=i⟩
def aS2 {P:Program}{w:World}{K:bFQ}{tg:Expr}(a it:Addr):Turn P w K tg (Itl K a) [it] it (λi h=>h.IsListIter it a i) where
 mem:=by simp
 obj:=λi h f b g=>by
  have e:b=it:=by simpa using g
  subst e;obtain⟨o,e,c,d⟩:=f;exact⟨o,e,λv z=>by rw[d] at z;cases z⟩
 keep:=λi h M f k=>f.at λo e=>k it (by simp) o e
 item:=by intro X G n J N i y s σ H E I m f t;subst G n J;obtain⟨S,x,l,D⟩:=t;obtain⟨q,A,p,W⟩:=I.list l;obtain⟨u,O,Y⟩:=A.get D;obtain⟨C,F,U,L,r,B⟩:=m it (by simp);refine wpAny_pyNext_list_item f p.isList (by simpa using O) λM j T=>?_;have V:=I.turned (t':=s.toks) (λb o g e=>(T.2 b g).trans e) C F L r B;obtain⟨o,e,c,d⟩:=id j;exact⟨u,rfl,aMc e c d (by decide) ⟨x,H,V,Y,⟨rfl,λZ Q=>by rw[I.aWv Q l];exact D⟩,j,λb g=>(m b g).1⟩⟩
 done:=by intro X G n J N i y s σ H E I m f t;subst G n J;obtain⟨S,l,D⟩:=t;obtain⟨q,A,p,W⟩:=I.list l;obtain⟨C,F,U,L,r,B⟩:=m it (by simp);have hl:=A.length;exact wpAny_pyNext_list_end (I.ok.hd N) f p.isList (by simp;lia) λM R=>⟨rfl,I.turned (t':=s.toks) (λb o g e=>R b o g e) C F L r B⟩
 self:=λ_ _ _ _ _ f h=>wpAny_pyIter_listiter f h
def aPn {P:Program}{w:World}{K:bFQ}{tg:Expr}(a it:Addr):Turn P w K tg (Itt K a) [it] it (λi h=>h.IsTupleIter it a i) where
 mem:=by simp
 obj:=λi h f b j=>by
  have e:b=it:=by simpa using j
  subst e;obtain⟨o,e,c,d⟩:=f;exact⟨o,e,λv z=>by rw[d] at z;cases z⟩
 keep:=λi h M f k=>f.at λo e=>k it (by simp) o e
 item:=by intro X G q J N i y s σ H E I n f t;subst G q J;obtain⟨S,x,m,D⟩:=t;obtain⟨g,A,p,W⟩:=I.tuple m;obtain⟨u,O,Y⟩:=A.get D;obtain⟨C,F,U,L,r,B⟩:=n it (by simp);refine wpAny_pyNext_tuple_item f (show s.heap.IsTuple a g.toArray from p) (by simpa using O) λM l T=>?_;have V:=I.turned (t':=s.toks) (λb o j e=>(T.2 b j).trans e) C F L r B;obtain⟨o,e,c,d⟩:=id l;exact⟨u,rfl,aMc e c d (by decide) ⟨x,H,V,Y,⟨rfl,λZ Q=>by rw[I.aT2 Q m];exact D⟩,l,λb j=>(n b j).1⟩⟩
 done:=by intro X G q J N i y s σ H E I n f t;subst G q J;obtain⟨S,m,D⟩:=t;obtain⟨g,A,p,W⟩:=I.tuple m;obtain⟨C,F,U,L,r,B⟩:=n it (by simp);have hl:=A.length;exact wpAny_pyNext_tuple_end (I.ok.hd N) f (show s.heap.IsTuple a g.toArray from p) (by simp;lia) λM R=>⟨rfl,I.turned (t':=s.toks) (λb o j e=>R b o j e) C F L r B⟩
 self:=λ_ _ _ _ _ f h=>wpAny_pyIter_tupleiter f h
def aOs {P:Program}{w:World}{K:bFQ}{tg:Expr}(it:Addr)(J:Int)(n:Nat):Turn P w K tg (Itr J n) [it] it (λi h=>IsRangeIter h it (J+(i:Nat) * 1) ((n:Int) - (i:Nat)) 1) where
 mem:=by simp
 obj:=λi h a b c=>by
  have e:b=it:=by simpa using c
  subst e;exact⟨_,a,λv z=>by have C:Data.fields _=Data.cell v:=z;cases C⟩
 keep:=λi h g a k=>k it (by simp) _ a
 item:=by intro X y l A r i d s σ H E I j a p;subst y l A;obtain⟨u,x,L,B,m,q⟩:=j it (by simp);have W:=Walks.range (prog:=X.prog) (w:=X.w) (I.ok.hd r) it J 1 n;refine W.item i s _ _ p a λv g tk F f D=>?_;obtain⟨t,rfl⟩:=F;have M:Inv X d σ H { s with heap:=g,toks:=tk }:=I.turned (λb o c e=>D b o (by simpa using c) e) u x B m q;refine⟨_,rfl,aMc (s:={ s with heap:=g,toks:=tk }) (n:="range_iterator") f rfl rfl (by decide) ⟨.int (J+i),H,M,⟨t,?_⟩,⟨rfl,rfl⟩,f,λb c=>(j b c).1⟩⟩;rw[Int.mul_one]
 done:=by intro X y l A r i d s σ H E I j a p;subst y l A;obtain⟨u,x,L,B,m,q⟩:=j it (by simp);exact wpAny_pyNext_range_end (I.ok.hd r) a (by have:n<=i:=p;lia) λg G=>⟨rfl,I.turned (t':=s.toks) (λb o c e=>G b o c e) u x B m q⟩
 self:=λ_ _ _ _ _ a h=>wpAny_pyIter_rangeiter a h
def aHy (K:bFQ)(tl:TE):TI:=fun σ H R=>tl σ H λx H1=>∃a,x=.ref a/\(∃xs,SqL K H1 a xs)/\R (Itl K a) H1
def aUt (K:bFQ)(tl:TE):TI:=fun σ H R=>tl σ H λx H1=>∃a,x=.ref a/\(∃xs,SqT K H1 a xs)/\R (Itt K a) H1
def aZj {l:Expr}{tl:TE}(u:PE X l tl):PI X tg l (aHy X.K tl):=by
 intro f s σ H R I h;refine thn (u f s σ H _ I h) λv d ⟨x,n,c,i,j⟩=>?_;obtain⟨a,e,⟨w,m⟩,q⟩:=j;subst e;cases i;obtain⟨g,t,p,r⟩:=c.list m;refine bDE p.isList ?_;refine⟨d.heap.objs.size,[d.heap.objs.size],_,_,n,rfl,c.kept (t':=d.toks) λb o e=>j4 _ e,aS2 a _,⟨_,z9 _ rfl,rfl,rfl⟩,λb k=>?_,q⟩;have e:b=d.heap.objs.size:=by simpa using k
 subst e;exact c.aQl (v7 _) (c.hok.fresh (v7 _))
def bFb {l:Expr}{tl:TE}(u:PE X l tl):PI X tg l (aUt X.K tl):=by
 intro g s σ H R I h;refine thn (u g s σ H _ I h) λv c ⟨x,n,d,i,j⟩=>?_;obtain⟨a,e,⟨w,m⟩,q⟩:=j;subst e;cases i;obtain⟨f,t,p,r⟩:=d.tuple m;refine bEH (show c.heap.IsTuple a f.toArray from p) ?_;refine⟨c.heap.objs.size,[c.heap.objs.size],_,_,n,rfl,d.kept (t':=c.toks) λb o e=>j4 _ e,aPn a _,⟨_,z9 _ rfl,rfl,rfl⟩,λb k=>?_,q⟩;have e:b=c.heap.objs.size:=by simpa using k
 subst e;exact d.aQl (v7 _) (d.hok.fresh (v7 _))
def aX0 {g:bFS}{σ:St}{H:Hp}{s:Shared}{R:It->Hp->Prop}{E:bFR}{a c:Int}{t u v:Tok}{tk:Nat}(I:Inv X g σ H s)(k:-(2 ^ 62)<=a)(m:a<2 ^ 62)(j:-(2 ^ 62)<=c)(l:c<2 ^ 62)
  (q:R (Itr a (c - a).toNat) H):wpAny (model X.prog X.w) X.A (pyIter (.ref s.heap.objs.size)) (PIE X g σ tg R) E { s with heap:=s.heap.push { cls:=.type "range",data:=.fields #[.int a t,.int c u,.int 1 v] },toks:=tk }:=by
 refine wpAny_pyIter_range (IsRange.new ..) (small_one k m j l) ?_;have d:Inv X g σ H { s with heap:=s.heap.push { cls:=.type "range",data:=.fields #[.int a t,.int c u,.int 1 v] },toks:=tk }:=I.kept λb o e=>j4 _ e;refine⟨(s.heap.push { cls:=.type "range",data:=.fields #[.int a t,.int c u,.int 1 v] }).objs.size,[(s.heap.push { cls:=.type "range",data:=.fields #[.int a t,.int c u,.int 1 v] }).objs.size],_,_,H,rfl,
  d.kept (t':=tk) λb o e=>j4 _ e,aOs _ a (c - a).toNat,?_,λb f=>?_,q⟩
 ·have i:a+((0:Nat):Int) * 1=a:=by simp
  have h:(((c - a).toNat:Nat):Int) - ((0:Nat):Int)=Builtin.Range.rangeSize a c 1:=by rw[rangeSize_one];split <;> lia
  show IsRangeIter _ _ (a+((0:Nat):Int) * 1) ((((c - a).toNat:Nat):Int) - ((0:Nat):Int)) 1;rw[i,h];exact z9 _ rfl
 ·have e:b=(s.heap.push { cls:=.type "range",data:=.fields #[.int a t,.int c u,.int 1 v] }).objs.size:=by simpa using f
  subst e;exact d.aQl (v7 _) (d.hok.fresh (v7 _))
def aXt (ta:TA):TI:=fun σ H R=>ta σ H λvs H1=>∃j:Int,vs=[.int j]/\-(2 ^ 62)<=j/\j<2 ^ 62/\R (Itr 0 j.toNat) H1
def aT3 (l:Gl X "range")(u:X.mg "range"=none)(m:PA X [a] ta)(hs:starEach [a] X.env=[(false,eval a X.env)]:=by rfl):PI X tg (.Call (.Name "range" p) [a] [] pos) (aXt ta):=by
 intro c s σ H R I h;refine Call_ (yZ I l u boot_range (bCY (thn (m pos c s σ H _ I h) λi k ⟨n,o,d,f,b⟩=>?_) hs rfl));obtain⟨j,e,b,g,q⟩:=b;subst e;cases f with
 |cons r rr=>cases rr;obtain⟨t,rfl⟩:=r;exact call_range_1 (aX0 d (by lia) (by lia) b g (by simpa using q))
def bG7 (wi:TI)(g:TG)(tb:TS):TS:=λD σ H=>wi σ H λJ H1=>∃W:Nat->Nat->St->Hp->Prop,(∃m,W 0 m σ H1)/\∀i m σ H,W i m σ H ->
 (J.stop i H/\D.nx σ H)\/(J.go i H/\∃N:St->Hp->Prop,(∀σ' H',N σ' H'->∃m',m'<m/\W (i+1) m' σ' H')/\∀x H',J.yld i H x H'->g x σ H' fun σ2 H2=>tb { D with nx:=N,ct:=N,bk:=D.nx } σ2 H2)
def aFe (fp:List Addr)(h:Heap):bFS:=fp.filterMap λb=>(h.get? b).map λo=>(b,o)
def uJ (a:b∈fp)(e:h.get? b=some o):(b,o)∈aFe fp h:=List.mem_filterMap.mpr ⟨b,a,by rw[e];rfl⟩
def aU0 (d:p∈aFe fp h):p.1∈fp/\h.get? p.1=some p.2:=by
 obtain⟨b,a,e⟩:=List.mem_filterMap.mp d;cases q:h.get? b with
 |none=>rw[q] at e;cases e
 |some o=>rw[q] at e;have c:=bAM e;subst c;exact⟨a,q⟩
def Inv.pinned (I:Inv X bFU σ H s)(j:∀b∈fp,xK X bFU H b)(k:∀b∈fp,∃o,s.heap.get? b=some o/\∀v,o.data≠.cell v):Inv X (bFU++aFe fp s.heap) σ H s:=
 I.aRo λp h=>(List.mem_append.mp h).elim (λz=>I.pin p (bAS _ z)) λz=>by obtain⟨a,e⟩:=aU0 z;obtain⟨i,g,f,_⟩:=j p.1 a;obtain⟨o,c,d⟩:=k p.1 a;rw[e] at c;cases c;exact⟨e,i,g,f,d⟩
def Inv.vI (I:Inv X (bFU++pl) σ H s):Inv X bFU σ H s:=I.aRo λp a=>I.pin p (bAS _ (bDS _ a))
def bFf {iter:Expr}{body:List Stmt}{wi:TI}{g:TG}{tb:TS}{pos:Pos}(F:PassesOwn (model X.prog X.w) X.A X.env X.xe)(hc:X.calm=true)(hi:PI X tg iter wi)(hg:PG X tg g)(q:PSs X body tb)
  (hs:∀x,foldedSetIterable iter X.env x=pure x:=by intro _;rfl):PS X (.For tg iter body [] pos) (bG7 wi g tb):=by
 intro a s σ H D I h;refine wpAny_For (thn (hi a s σ H _ I h) λv s1 h1=>thn h1 λa0 s2 h2=>?_) hs;obtain⟨it,z,S,J,Z,e,I2,T,M,P,W,⟨m0,w0⟩,C⟩:=h2;subst e;have j:∀{H':Hp},(∀b∈z,H' b=none)->∀b∈z,xK X a H' b:=λhn b q=>⟨hn b q,(P b q).2⟩;refine codeAny_forLoop_any (λn U=>∃i σ' H',Inv X a σ' H' U/\S i U.heap/\(∀b∈z,H' b=none)/\W i n σ' H') ?_ m0 ⟨0,σ,Z,I2,M,λb q=>(P b q).1,w0⟩;rintro n s3 ⟨i,σ3,H3,I3,st3,fr3,w3⟩;rcases C i n σ3 H3 w3 with⟨E,qn⟩|⟨go,N,hN,step⟩
 ·refine bDC F (thn (T.done X rfl rfl rfl hc i a s3 σ3 H3 X.xe I3 (j fr3) st3 E) λr s4 ⟨L,V⟩=>?_);subst L;exact bDO ⟨σ3,H3,V,qn⟩
 ·refine bDC F (thn (T.item X rfl rfl rfl hc i a s3 σ3 H3 X.xe I3 (j fr3) st3 go) λr s4 ⟨u,L,h4⟩=>?_);subst L;refine bDC F (thn h4 λ_ Q ⟨x,R,I5,r5,y5,y,O⟩=>?_);have K:=I5.pinned (j O) (T.obj _ _ y);refine bDC F (thn (hg _ Q σ3 R x u _ K r5 (step x R y5)) λ_ s6 ⟨σ6,H6,I6,q6⟩=>?_);refine bDC F (thn (q _ s6 σ6 H6 _ I6 q6) λf G t=>?_);have l:∀{c:St} {k:Hp},Inv X (a++aFe z Q.heap) c k G->N c k->∃m,m<n/\∃i σ' H',Inv X a σ' H' G/\S i G.heap/\(∀b∈z,H' b=none)/\W i m σ' H':=λ{c k} p B=>by obtain⟨m',Y,w7⟩:=hN c k B;refine⟨m',Y,i+1,c,k,p.vI,T.keep _ _ _ y λb q o e=>(p.pin (b,o) (bAS _ (bAS _ (uJ q e)))).1,λb q=>?_,w7⟩;obtain⟨o,e,d⟩:=T.obj _ _ y b q;exact (p.pin (b,o) (bAS _ (bAS _ (uJ q e)))).2.1
  cases f with
  |next=>obtain⟨c,k,p,B⟩:=t;exact l p B
  |cont=>obtain⟨c,k,p,B⟩:=t;exact l p B
  |brk=>obtain⟨c,k,p,t⟩:=t;exact⟨c,k,p.vI,t⟩
  |ret v=>obtain⟨x7,c,k,p,r7,t⟩:=t;exact⟨x7,c,k,p.vI,r7,t⟩
def aVx {K:bFQ}{a:Addr}{xs:List V}{g:TG}{tb:TS}{D:Ends}{σ:St}{H:Hp}(d:Nat->St->Hp->Prop)(f:d 0 σ H)(h:∀i σ H,i<=xs.length->d i σ H->SqL K H a xs)
  (hs:∀i x σ H,xs[i]?=some x->d i σ H->g x σ H fun σ2 H2=>tb { D with nx:=d (i+1),ct:=d (i+1),bk:=D.nx } σ2 H2) (hd:∀σ H,d xs.length σ H->D.nx σ H) :
  ∃W:Nat->Nat->St->Hp->Prop,(∃m,W 0 m σ H)/\∀i m σ H,W i m σ H ->
   ((Itl K a).stop i H/\D.nx σ H)\/((Itl K a).go i H/\∃N:St->Hp->Prop,(∀σ' H',N σ' H'->∃m',m'<m/\W (i+1) m' σ' H')/\∀x H',(Itl K a).yld i H x H'->g x σ H' fun σ2 H2=>tb { D with nx:=N,ct:=N,bk:=D.nx } σ2 H2):=by
 refine⟨λi m σ H=>m=xs.length - i/\i<=xs.length/\d i σ H,⟨xs.length,by simp,bAK _,f⟩,?_⟩;rintro i m σ H ⟨rfl,hi,p⟩;have q:=h i σ H hi p;by_cases b:i<xs.length
 ·refine .inr ⟨⟨xs,xs[i],q,by simp[b]⟩,d (i+1),fun σ' H' c=>⟨xs.length - (i+1),by lia,rfl,b,c⟩,λx H' y=>?_⟩;obtain⟨e,y⟩:=y;subst e;exact hs i x σ _ (y xs q) p
 ·have e:i=xs.length:=by lia
  subst e;exact .inl ⟨⟨xs,q,v7 _⟩,hd σ H p⟩
def tK {K:bFQ}{a:Addr}{xs:List V}{g:TG}{tb:TS}{D:Ends}{σ:St}{H:Hp}(d:Nat->St->Hp->Prop)(f:d 0 σ H)(h:∀i σ H,i<=xs.length->d i σ H->SqT K H a xs)
  (hs:∀i x σ H,xs[i]?=some x->d i σ H->g x σ H fun σ2 H2=>tb { D with nx:=d (i+1),ct:=d (i+1),bk:=D.nx } σ2 H2) (hd:∀σ H,d xs.length σ H->D.nx σ H) :
  ∃W:Nat->Nat->St->Hp->Prop,(∃m,W 0 m σ H)/\∀i m σ H,W i m σ H ->
   ((Itt K a).stop i H/\D.nx σ H)\/((Itt K a).go i H/\∃N:St->Hp->Prop,(∀σ' H',N σ' H'->∃m',m'<m/\W (i+1) m' σ' H')/\∀x H',(Itt K a).yld i H x H'->g x σ H' fun σ2 H2=>tb { D with nx:=N,ct:=N,bk:=D.nx } σ2 H2):=by
 refine⟨λi m σ H=>m=xs.length - i/\i<=xs.length/\d i σ H,⟨xs.length,by simp,bAK _,f⟩,?_⟩;rintro i m σ H ⟨rfl,hi,p⟩;have q:=h i σ H hi p;by_cases b:i<xs.length
 ·refine .inr ⟨⟨xs,xs[i],q,by simp[b]⟩,d (i+1),fun σ' H' c=>⟨xs.length - (i+1),by lia,rfl,b,c⟩,λx H' y=>?_⟩;obtain⟨e,y⟩:=y;subst e;exact hs i x σ _ (y xs q) p
 ·have e:i=xs.length:=by lia
  subst e;exact .inl ⟨⟨xs,q,v7 _⟩,hd σ H p⟩
def kE {lo:Int}{n:Nat}{g:TG}{tb:TS}{D:Ends}{σ:St}{H:Hp}(c:Nat->St->Hp->Prop)(d:c 0 σ H)
  (hs:∀i σ H,i<n->c i σ H->g (.int (lo+i)) σ H fun σ2 H2=>tb { D with nx:=c (i+1),ct:=c (i+1),bk:=D.nx } σ2 H2) (hd:∀σ H,c n σ H->D.nx σ H) :
  ∃W:Nat->Nat->St->Hp->Prop,(∃m,W 0 m σ H)/\∀i m σ H,W i m σ H ->
   ((Itr lo n).stop i H/\D.nx σ H)\/((Itr lo n).go i H/\∃N:St->Hp->Prop,(∀σ' H',N σ' H'->∃m',m'<m/\W (i+1) m' σ' H')/\∀x H',(Itr lo n).yld i H x H'->g x σ H' fun σ2 H2=>tb { D with nx:=N,ct:=N,bk:=D.nx } σ2 H2):=by
 refine⟨λi m σ H=>m=n - i/\i<=n/\c i σ H,⟨n,by simp,bAK _,d⟩,?_⟩;rintro i m σ H ⟨rfl,hi,p⟩;by_cases a:i<n
 ·refine .inr ⟨a,c (i+1),fun σ' H' b=>⟨n - (i+1),by lia,rfl,a,b⟩,λx H' y=>?_⟩;obtain⟨e,y⟩:=y;subst e y;exact hs i σ _ a p
 ·have e:i=n:=by lia
  subst e;exact .inl ⟨v7 _,hd σ H p⟩
abbrev R2:=V->V->Hp->VK->Prop
def OpR (X:Cx)(f:Value->Value->Sem Value)(r:R2):Prop:=
 ∀bFU s σ H x y v u Q,Inv X bFU σ H s->RelV x v->RelV y u->r x y H Q ->
  wpAny (model X.prog X.w) X.A (f v u) (EP X bFU σ Q) X.xe s
def UnR (X:Cx)(f:Value->Sem Value)(r:V->Hp->VK->Prop):Prop:=
 ∀bFU s σ H x v Q,Inv X bFU σ H s->RelV x v->r x H Q ->
  wpAny (model X.prog X.w) X.A (f v) (EP X bFU σ Q) X.xe s
def dW (X:Cx)(f:Value)(r:List V->Hp->VK->Prop):Prop:=
 ∀bFU s σ H xs us Q,Inv X bFU σ H s->Vals xs us->r xs H Q ->
  wpAny (model X.prog X.w) X.A (call f us) (EP X bFU σ Q) X.xe s
def bI6 (X:Cx)(r:V->Hp->(Bool->Hp->Prop)->Prop):Prop:=
 ∀bFU s σ H x v Q,Inv X bFU σ H s->RelV x v->r x H Q ->
  wpAny (model X.prog X.w) X.A (truthy v) (TP X bFU σ Q) X.xe s
def tOp (r:R2)(ta tb:TE):TE:=fun σ H Q=>ta σ H λx H1=>tb σ H1 λy H2=>r x y H2 Q
def tUn (r:V->Hp->VK->Prop)(ta:TE):TE:=fun σ H Q=>ta σ H λx H1=>r x H1 Q
inductive rI (C:Int->Int->Prop)(g:Int->Int->V)(x:V)(y:V)(H:Hp)(Q:VK):Prop
 |mk (i:_) (j:_) (h0:x=.int i) (h1:y=.int j) (h2:C i j) (h3:Q (g i j) H):rI C g x y H Q
inductive rI0 (g:Int->Int->V)(x:V)(y:V)(H:Hp)(Q:VK):Prop
 |mk (i:_) (j:_) (h0:x=.int i) (h1:y=.int j) (h2:Q (g i j) H):rI0 g x y H Q
def rU (g:Int->V):V->Hp->VK->Prop:=λx H Q=>∃i,x=.int i/\Q (g i) H
def aWk (o:PE X a ta)(n:PE X b tb){c:bFS}{s:Shared}{σ:St}{H:Hp}{R:V->V->Hp->Prop}(I:Inv X c σ H s)
  (h:ta σ H λx H1=>tb σ H1 λy H2=>R x y H2) {Q:bFR} {f:Value->Value->Sem Value}
  (m:∀v u s2 x y H2,Inv X c σ H2 s2->RelV x v->RelV y u->R x y H2->wpAny (model X.prog X.w) X.A (f v u) Q X.xe s2) :
  wpAny (model X.prog X.w) X.A (eval a X.env) (λv s₁=>wpAny (model X.prog X.w) X.A (eval b X.env) (λu s₂=>wpAny (model X.prog X.w) X.A (f v u) Q X.xe s₂) X.xe s₁) X.xe s:=by
 refine thn (o c s σ H _ I h) λv i ⟨x,H1,d,e,g⟩=>?_;refine thn (n c i σ H1 _ d g) λu s2 ⟨y,H2,j,k,l⟩=>?_;exact m v u s2 x y H2 j e k l
def bG2 {op:Operator}{r:R2}(k:OpR X (binaryOp op) r)(l:PE X a ta)(j:PE X b tb):PE X (.BinOp a op b pos) (tOp r ta tb):=by intro c s σ H Q I h;exact wpAny_BinOp (aWk l j I h λv u i x y d e f g q=>k c i σ d x y v u Q e f g q)
def bGq {op:UnaryOp}{r:V->Hp->VK->Prop}(i:UnR X (unaryOp op) r)(j:PE X a ta):PE X (.UnaryOp op a pos) (tUn r ta):=by intro b s σ H Q I h;exact UnaryOp_ (thn (j b s σ H _ I h) λv g ⟨x,c,d,e,f⟩=>i b g σ c x v Q d e f)
def opI {f:Value->Value->Sem Value}{C:Int->Int->Prop}{g:Int->Int->Int}
  (a:∀(i j:Int) (t u:Tok) (s:Shared) (Q:bFR) (E:bFR),C i j->Q (.int (g i j) s.toks) { s with toks:=s.toks+1 }->wpAny (model X.prog X.w) X.A (f (.int i t) (.int j u)) Q E s) :
  OpR X f (rI C λi j=>.int (g i j)):=by
 intro c s σ H x y v u Q I b d h;obtain⟨i,j,rfl,rfl,k,q⟩:=h;obtain⟨t,rfl⟩:=b;obtain⟨e,rfl⟩:=d;exact a i j t e s _ _ k ⟨.int (g i j),H,I.tok _,⟨_,rfl⟩,q⟩
def bGv {f:Value->Value->Sem Value}{g:Int->Int->Int}
  (a:∀(i j:Int) (t u:Tok) (s:Shared) (Q:bFR) (E:bFR),Q (.int (g i j) s.toks) { s with toks:=s.toks+1 }->wpAny (model X.prog X.w) X.A (f (.int i t) (.int j u)) Q E s) :
  OpR X f (rI0 λi j=>.int (g i j)):=by
 intro c s σ H x y v u Q I b d h;obtain⟨i,j,rfl,rfl,q⟩:=h;obtain⟨t,rfl⟩:=b;obtain⟨e,rfl⟩:=d;exact a i j t e s _ _ ⟨.int (g i j),H,I.tok _,⟨_,rfl⟩,q⟩
def aZw {f:Value->Value->Sem Value}{g:Int->Int->Bool}
  (a:∀(i j:Int) (t u:Tok) (s:Shared) (Q:bFR) (E:bFR),Q (.bool (g i j)) s->wpAny (model X.prog X.w) X.A (f (.int i t) (.int j u)) Q E s) :
  OpR X f (rI0 λi j=>.bl (g i j)):=by
 intro c s σ H x y v u Q I b d h;obtain⟨i,j,rfl,rfl,q⟩:=h;obtain⟨t,rfl⟩:=b;obtain⟨e,rfl⟩:=d;exact a i j t e s _ _ ⟨.bl (g i j),H,I,rfl,q⟩
def bI3 (i j:Int):Prop:=0<j/\j<1073741824
def bJd (i j:Int):Prop:=0<=j/\j<=1000000/\i.natAbs<2 ^ 64
def bFa (i j:Int):Prop:=(-(2 ^ 64)<i/\i<2 ^ 64)\/(-(2 ^ 64)<j/\j<2 ^ 64)
def bFa.ok (h:bFa i j):IntMulOk i j:=by
 rcases h with⟨a,b⟩|⟨a,b⟩
 ·exact .of_left (intBits_le_64 a b)
 ·exact .of_right (intBits_le_64 a b)
def dR:OpR X (binaryOp .Add) (rI0 λi j=>.int (i+j)):=bGv λ_ _ _ _ _ _ _ q=>add_int q
def aBt:OpR X (binaryOp .Sub) (rI0 λi j=>.int (i - j)):=bGv λ_ _ _ _ _ _ _ q=>sub_int q
def aFs:OpR X (binaryOp .Mult) (rI bFa λi j=>.int (i * j)):=opI λ_ _ _ _ _ _ _ a q=>mul_int q a.ok
def bAu:OpR X (binaryOp .FloorDiv) (rI bI3 λi j=>.int (i / j)):=opI λi j _ _ _ _ _ a q=>by have b:=a.1;have c:=a.2;exact floordiv_int (by lia) (by rw[Int.fdiv_eq_ediv_of_nonneg i (by lia)];exact q) (.inl (PyProof.noPylong_small (by lia)))
def zJ:OpR X (binaryOp .Mod) (rI (λ_ j=>0<j) λi j=>.int (i % j)):=opI λi j _ _ _ _ _ a q=>by have b:=a;exact mod_int' (by lia) (by rw[Int.fmod_eq_emod_of_nonneg i (by lia)];exact q)
def aP3:OpR X (binaryOp .Pow) (rI bJd λi j=>.int (i ^ j.toNat)):=opI λ_ _ _ _ _ _ _ a q=>pow_int_small a.1 a.2.1 a.2.2 q
def unI {f:Value->Sem Value}{g:Int->Int}
  (a:∀(i:Int) (t:Tok) (s:Shared) (Q:bFR) (E:bFR),Q (.int (g i) s.toks) { s with toks:=s.toks+1 }->wpAny (model X.prog X.w) X.A (f (.int i t)) Q E s) :
  UnR X f (rU λi=>.int (g i)):=by
 intro c s σ H x v Q I b h;obtain⟨i,rfl,q⟩:=h;obtain⟨t,rfl⟩:=b;exact a i t s _ _ ⟨.int (g i),H,I.tok _,⟨_,rfl⟩,q⟩
def aQr:UnR X (unaryOp .USub) (rU λi=>.int (-i)):=unI λ_ _ _ _ _ q=>neg_int q
def scal:V->V->Bool
 |.non,.non=>true|.non,.int _=>true|.int _,.non=>true|.non,.bl _=>true|.bl _,.non=>true|.non,.str _=>true|.str _,.non=>true
 |.int _,.int _=>true|.bl _,.bl _=>true|.str _,.str _=>true|.byt _,.byt _=>true
 |.int _,.str _=>true|.str _,.int _=>true|.bl _,.str _=>true|.str _,.bl _=>true
 |_,_=>false
def rEq:R2:=λx y H Q=>scal x y=true/\Q (.bl (decide (x=y))) H
def rNe:R2:=λx y H Q=>scal x y=true/\Q (.bl (!decide (x=y))) H
def aQ3:decide (V.int i=V.int j)=(i == j):=by rw[bCL];simp
def aXv:decide (V.bl i=V.bl j)=(i == j):=by rw[bCL];simp
def aSf:decide (V.str i=V.str j)=(i == j):=by rw[bCL];simp
def aRb:decide (V.byt i=V.byt j)=(i.toList == j.toList):=by rw[bCL];cases i;cases j;simp
section
variable {X:Cx}{a b c:Expr}
def dC (I:Inv X bFU σ H s)(q:Q (.bl k) H)(e:k=k'):EP X bFU σ Q (.bool k') s:=by subst e;exact⟨.bl k,H,I,rfl,q⟩
def cV:OpR X (compareOp .Eq) rEq:=by
 intro e s σ H x y v u Q I d a h;obtain⟨c,q⟩:=h;cases x with
 |non=>
  cases d;cases y with
  |non=>cases a;exact PySem.EqNone.eq_none_none (dC I q (by simp))
  |bl j=>cases a;exact PySem.EqNone.eq_none_bool (dC I q (by simp))
  |int j=>obtain⟨b,rfl⟩:=a;exact PySem.EqNone.eq_none_int (dC I q (by simp))
  |str j=>obtain⟨b,rfl⟩:=a;exact PySem.EqNone.eq_none_str (dC I q (by simp))
  |_=>exact absurd (show false=true from c) bAC
 |bl i=>
  cases d;cases y with
  |non=>cases a;exact PySem.EqNone.eq_bool_none (dC I q (by simp))
  |bl j=>cases a;exact eq_bool (dC I q aXv)
  |str j=>obtain⟨b,rfl⟩:=a;exact PySem.EqMixed.eq_bool_str (dC I q (by simp))
  |_=>exact absurd (show false=true from c) bAC
 |int i=>
  obtain⟨t,rfl⟩:=d;cases y with
  |non=>cases a;exact PySem.EqNone.eq_int_none (dC I q (by simp))
  |int j=>obtain⟨b,rfl⟩:=a;exact eq_int (dC I q aQ3)
  |str j=>obtain⟨b,rfl⟩:=a;exact PySem.EqMixed.eq_int_str (dC I q (by simp))
  |_=>exact absurd (show false=true from c) bAC
 |str i=>
  obtain⟨t,rfl⟩:=d;cases y with
  |non=>cases a;exact PySem.EqNone.eq_str_none (dC I q (by simp))
  |bl j=>cases a;exact PySem.EqMixed.eq_str_bool (dC I q (by simp))
  |int j=>obtain⟨b,rfl⟩:=a;exact PySem.EqMixed.eq_str_int (dC I q (by simp))
  |str j=>obtain⟨b,rfl⟩:=a;exact eq_str (dC I q aSf)
  |_=>exact absurd (show false=true from c) bAC
 |byt i=>
  obtain⟨t,rfl⟩:=d;cases y with
  |byt j=>obtain⟨b,rfl⟩:=a;exact PySem.W.eq_bytes (dC I q aRb)
  |_=>exact absurd (show false=true from c) bAC
 |_=>cases y <;> exact absurd (show false=true from c) bAC
def oX:OpR X (compareOp .NotEq) rNe:=by
 intro e s σ H x y v u Q I d a h;obtain⟨c,q⟩:=h;cases x with
 |non=>
  cases d;cases y with
  |non=>cases a;exact PySem.EqNone.ne_none_none (dC I q (by simp))
  |bl j=>cases a;exact PySem.EqNone.ne_none_bool (dC I q (by simp))
  |int j=>obtain⟨b,rfl⟩:=a;exact PySem.EqNone.ne_none_int (dC I q (by simp))
  |str j=>obtain⟨b,rfl⟩:=a;exact PySem.EqNone.ne_none_str (dC I q (by simp))
  |_=>exact absurd (show false=true from c) bAC
 |bl i=>
  cases d;cases y with
  |non=>cases a;exact PySem.EqNone.ne_bool_none (dC I q (by simp))
  |bl j=>cases a;exact ne_bool (dC I q (congrArg not aXv))
  |str j=>obtain⟨b,rfl⟩:=a;exact PySem.EqMixed.ne_bool_str (dC I q (by simp))
  |_=>exact absurd (show false=true from c) bAC
 |int i=>
  obtain⟨t,rfl⟩:=d;cases y with
  |non=>cases a;exact PySem.EqNone.ne_int_none (dC I q (by simp))
  |int j=>obtain⟨b,rfl⟩:=a;exact ne_int (dC I q (congrArg not aQ3))
  |str j=>obtain⟨b,rfl⟩:=a;exact PySem.EqMixed.ne_int_str (dC I q (by simp))
  |_=>exact absurd (show false=true from c) bAC
 |str i=>
  obtain⟨t,rfl⟩:=d;cases y with
  |non=>cases a;exact PySem.EqNone.ne_str_none (dC I q (by simp))
  |bl j=>cases a;exact PySem.EqMixed.ne_str_bool (dC I q (by simp))
  |int j=>obtain⟨b,rfl⟩:=a;exact PySem.EqMixed.ne_str_int (dC I q (by simp))
  |str j=>obtain⟨b,rfl⟩:=a;exact ne_str (dC I q (congrArg not aSf))
  |_=>exact absurd (show false=true from c) bAC
 |byt i=>
  obtain⟨t,rfl⟩:=d;cases y with
  |byt j=>obtain⟨b,rfl⟩:=a;exact PySem.W.ne_bytes (dC I q (congrArg not aRb))
  |_=>exact absurd (show false=true from c) bAC
 |_=>cases y <;> exact absurd (show false=true from c) bAC
def aV6:OpR X (compareOp .Lt) (rI0 λi j=>.bl (decide (i<j))):=aZw λ_ _ _ _ _ _ _ q=>lt_int q
def aIl:OpR X (compareOp .LtE) (rI0 λi j=>.bl (decide (i<=j))):=aZw λ_ _ _ _ _ _ _ q=>le_int q
def aN8:OpR X (compareOp .Gt) (rI0 λi j=>.bl (decide (j<i))):=aZw λ_ _ _ _ _ _ _ q=>gt_int q
def bH4:OpR X (compareOp .GtE) (rI0 λi j=>.bl (decide (j<=i))):=aZw λ_ _ _ _ _ _ _ q=>ge_int q
def aIq:OpR X (compareOp .In) (λx y H Q=>∃i j,x=.str i/\y=.str j/\Q (.bl (!(Builtin.Str.occurrences j i 0 j.length 1).isEmpty)) H):=by intro b s σ H x y v u Q I a c h;obtain⟨i,j,rfl,rfl,q⟩:=h;obtain⟨t,rfl⟩:=a;obtain⟨d,rfl⟩:=c;exact in_str (dC I q rfl)
def aPs:OpR X (compareOp .Is) (λx y H Q=>y=.non/\Q (.bl (decide (x=.non))) H):=by
 intro b s σ H x y v u Q I a c h;obtain⟨rfl,q⟩:=h;cases c;refine is_none_gen (dC I q ?_);cases x <;> first
  |(cases a;rfl)
  |(obtain⟨t,rfl⟩:=a;rfl)
def aAu:OpR X (compareOp .IsNot) (λx y H Q=>y=.non/\Q (.bl (!decide (x=.non))) H):=by
 intro b s σ H x y v u Q I a c h;obtain⟨rfl,q⟩:=h;cases c;refine isnot_none_gen (dC I q ?_);cases x <;> first
  |(cases a;rfl)
  |(obtain⟨t,rfl⟩:=a;rfl)
def OpR.or (h:OpR X f r)(h':OpR X f r'):OpR X f (λx y H Q=>r x y H Q\/r' x y H Q):=by
 intro a s σ H x y v u Q I b c q;rcases q with q|q
 ·exact h a s σ H x y v u Q I b c q
 ·exact h' a s σ H x y v u Q I b c q
def aXo (b:Expr)(h:op≠.In:=by decide)(d:op≠.NotIn:=by decide):behindInMarks op b=false:=by
 have c:(op == CmpOp.In)=false:=by cases op <;> first|rfl|exact absurd rfl h
 have a:(op == CmpOp.NotIn)=false:=by cases op <;> first|rfl|exact absurd rfl d
 cases b <;> simp[behindInMarks,c,a]
def bBr (k:OpR X (compareOp op) r)(l:PE X a ta)(j:PE X b tb)(m:behindInMarks op b=false):PE X (.Compare a [op] [b] pos) (tOp r ta tb):=by intro c s σ H Q I h;exact wpAny_Compare1 (aWk l j I h λv u i x y d e f g q=>k c i σ d x y v u Q e f g q) m
inductive aRx (Q:Bool->Hp->Prop)(x:V)(H':Hp):Prop
 |mk (k:_) (h0:x=.bl k) (h1:Q k H'):aRx Q x H'
def aM5 (t:TE):TT:=fun σ H Q=>t σ H (aRx Q)
def bA9 {op:CmpOp}{r:R2}(E:OpR X (compareOp op) r)(F:PE X a ta)(C:PE X b tb)(G:behindInMarks op b=false):PT X (.Compare a [op] [b] pos) (aM5 (tOp r ta tb)):=by
 intro d s σ H Q I h;refine wpAny_isTrue_Compare1 (thn (F d s σ H _ I h) λv o ⟨x,g,j,l,m⟩=>thn (C d o σ g _ j m) λu A ⟨y,f,p,B,n⟩=>
  thn (E d A σ f x y v u _ p l B n) λc D ⟨z,i,t,w,k,e,q⟩=>?_) G
 subst e;cases w;exact bBQ ⟨i,t,q⟩
def aI2 (r r':R2)(ta tb tc:TE):TE:=fun σ H Q=>ta σ H λx H1=>tb σ H1 λy H2=>r x y H2 λz H3=>∃k,z=.bl k /\
 (if k=true then tc σ H3 λw' H4=>r' y w' H4 Q else Q (.bl false) H3)
def aY8 {op op':CmpOp}{r r':R2}(P:OpR X (compareOp op) r)(L:OpR X (compareOp op') r')(T:PE X a ta)(O:PE X b tb)(R:PE X c tc)
  (S:lastMarks [op,op'] [b,c]=false:=by with_unfolding_all rfl):PE X (.Compare a [op,op'] [b,c] pos) (aI2 r r' ta tb tc):=by
 intro f s σ H Q I h;refine Compare_chain (thn (T f s σ H _ I h) λv q ⟨x,N,E,F,G⟩=>chain_link (thn (O f q σ N _ E G) λu B ⟨y,D,t,l,M⟩=>
  thn (P f B σ D x y v u _ t F l M) λd w ⟨z,g,i,A,k,e,j⟩=>?_)) S
 subst e;cases A;refine bBQ ?_;cases k with
 |false=>exact ite_ff ⟨.bl false,g,i,rfl,j⟩
 |true=>exact ite_tt (chain_last (thn (R f w σ g _ i j) λC m ⟨n,J,p,o,K⟩=>L f m σ J y n u C Q p l o K))
def aU6 {op op':CmpOp}{r r':R2}(Y:OpR X (compareOp op) r)(R:OpR X (compareOp op') r')(ha:PE X a ta)(W:PE X b tb)(Z:PE X c tc)
  (hm:lastMarks [op,op'] [b,c]=false:=by with_unfolding_all rfl):PT X (.Compare a [op,op'] [b,c] pos) (aM5 (aI2 r r' ta tb tc)):=by
 intro f s σ H Q I h;refine isTrue_chain (thn (ha f s σ H _ I h) λv w ⟨x,T,J,L,M⟩=>test_link (thn (W f w σ T _ J M) λu E ⟨y,G,A,l,S⟩=>
  thn (Y f E σ G x y v u _ A L l S) λd B ⟨z,g,i,C,k,e,j⟩=>?_)) hm
 subst e;cases C;refine bBQ ?_;cases k with
 |false=>obtain⟨k',t,K⟩:=j;cases t;exact ite_ff ⟨g,i,K⟩
 |true=>refine ite_tt (test_last (thn (Z f B σ g _ i j) λF m ⟨n,N,q,o,O⟩=>thn (R f m σ N y n u F _ q l o O) λd' s5 ⟨z2,V,P,p,k2,D,U⟩=>?_));subst D;cases p;exact bBQ ⟨V,P,U⟩
def bD6 (K:bFQ)(x:V)(H:Hp)(k:Bool):Prop:=
 match x with
 |.non=>k=false
 |.bl b=>k=b
 |.int i=>k=(i != 0)
 |.str y=>y.length<=sizeLine/\k=((y.length:Int) != 0)
 |.byt y=>y.size<=sizeLine/\k=((y.size:Int) != 0)
 |.ref p=>(∃xs,SqL K H p xs/\k=!xs.isEmpty)\/(∃xs,SqT K H p xs/\k=!xs.isEmpty)\/∃kvs,H p=some (.dK kvs)/\k=!kvs.isEmpty
 |_=>False
def aP9 {κ:Type}{kvs:List (κ × V)}{vs:List (κ × Value)}(r:KV kvs vs):(!vs.isEmpty)=!kvs.isEmpty:=by cases r <;> rfl
def aFx (r:Vals xs its):(!its.toArray.isEmpty)=!xs.isEmpty:=by cases r <;> simp
def aCk:(sizeLine:Nat)<2 ^ 63:=by rw[sizeLine_eq];decide
def bE4:bI6 X (λx H Q=>∃k,bD6 X.K x H k/\Q k H):=by
 intro z s σ H x v Q I f h;obtain⟨k,e,q⟩:=h;have C:=aCk;have B:sizeLine=16777216:=sizeLine_eq;cases x with
 |non=>cases f;have a:k=false:=e;subst a;exact truthy_none ⟨H,I,q⟩
 |bl b=>cases f;have a:k=b:=e;subst a;exact bBQ ⟨H,I,q⟩
 |int i=>obtain⟨t,rfl⟩:=f;have a:k=(i != 0):=e;subst a;exact PySem.P.truthy_int ⟨H,I,q⟩
 |str y=>obtain⟨t,rfl⟩:=f;obtain⟨u,a⟩:y.length<=sizeLine/\k=((y.length:Int) != 0):=e;subst a;exact PySem.P.truthy_str (by lia) ⟨H,I.tok _,q⟩
 |byt y=>obtain⟨t,rfl⟩:=f;obtain⟨u,a⟩:y.size<=sizeLine/\k=((y.size:Int) != 0):=e;subst a;exact PySem.W.truthy_bytes (by lia) ⟨H,I.tok _,q⟩
 |ref p=>
  cases f;have a:(∃d,SqL X.K H p d/\k=!d.isEmpty)\/(∃d,SqT X.K H p d/\k=!d.isEmpty)\/∃kvs,H p=some (.dK kvs)/\k=!kvs.isEmpty:=e;rcases a with⟨d,g,a⟩|⟨d,g,a⟩|⟨kvs,g,a⟩
  ·subst a;obtain⟨l,r,n,o⟩:=I.list g;have c:=r.length;exact wpAny_truthy_list n.isList (by simp only[v8];lia) ⟨H,I.tok _,by rw[aFx r];exact q⟩
  ·subst a;obtain⟨l,r,n,o⟩:=I.tuple g;have c:=r.length;exact truthy_tuple n (by simp only[v8];lia) ⟨H,I.tok _,by rw[aFx r];exact q⟩
  ·subst a;obtain⟨o,A,j,r,m⟩:kvs.length<=sizeLine/\(p == sysModules)=false/\∃j,KV kvs j/\s.heap.DictOf (fP X.prog X.w) p j:=I.hok p _ g;have c:kvs.length=j.length:=Paired.length r;exact wpAny_truthy_dict A m (by lia) ⟨H,I.tok _,by rw[aP9 r];exact q⟩
 |_=>exact (show False from e).elim
def aWd (i:PE X a ta)(j:∀whole,isTrue a X.env whole=(do let v <-whole;standAt a.pos;holding [v] (truthy v))) :
  PT X a (fun σ H Q=>ta σ H λx H'=>∃k,bD6 X.K x H' k/\Q k H'):=by
 intro b s σ H Q I h;exact isTrue_plain (thn (i b s σ H _ I h) λv g ⟨x,c,d,e,f⟩=>bE4 b g σ c x v Q d e f) (j _)
def aN:OpR X (binaryOp .Add) (λx y H Q=>∃i j,x=.str i/\y=.str j/\i.length+j.length<=sizeLine/\Q (.str (i++j)) H):=by intro c s σ H x y v u Q I b d h;obtain⟨i,j,rfl,rfl,a,q⟩:=h;obtain⟨t,rfl⟩:=b;obtain⟨e,rfl⟩:=d;exact add_str (λe tk=>⟨.str (i++j),H,I.tok _,⟨_,rfl⟩,q⟩) a
def aAs (b:Expr):Prop:=∀o i,subscripted b false o i=operate [o,i] (getItem o i)
def aN9 (C:PE X a ta)(A:PE X b tb)(hs:aAs b) :
  PE X (.Subscript a b pos) (tOp (λx y H Q=>∃z i c,x=.str z/\y=.int i/\0<=i/\i<2 ^ 63/\i<z.length/\z.cps[i.toNat]?=some c/\Q (.str ⟨#[c]⟩) H) ta tb):=by
 intro l s σ H Q I h;refine Subscript_ (aWk C A I h λv u p x y d j k n q=>?_);obtain⟨z,i,c,rfl,rfl,f,r,g,o,q⟩:=q;obtain⟨t,rfl⟩:=k;obtain⟨B,rfl⟩:=n;have e:seqIndex? i z.length=some i.toNat:=PySem.StrLaws.seqIndex_nonneg f g;exact tail_any (typeIs_str p z t) slot_str_getitem.lookup (getItem_str (c:=c) (by have w:decide (i < -(2 ^ 63:Int))=false:=m9 (by lia);have m:decide (i ≥ 2 ^ 63)=false:=m9 (by lia);rw[w,m] <;> rfl) (by rw[e];exact o) ⟨.str ⟨#[c]⟩,d,j.tok _,⟨_,rfl⟩,q⟩) (hs _ _)
def vals1 (r:Vals [x] us):∃u,us=[u]/\RelV x u:=by
 cases r with
 |cons r1 r2=>cases r2;exact⟨_,rfl,r1⟩
def vals2 (r:Vals [x,y] us):∃u w',us=[u,w']/\RelV x u/\RelV y w':=by
 cases r with
 |cons r1 r2=>
  cases r2 with
  |cons r3 r4=>cases r4;exact⟨_,_,rfl,r1,r3⟩
def aU2 (f:X.calm=true):dW X (.builtin "min") (λxs H Q=>∃i j,xs=[.int i,.int j]/\Q (.int (if j<i then j else i)) H):=by
 intro b s σ H xs c Q I r h;obtain⟨i,j,rfl,q⟩:=h;obtain⟨u,g,rfl,⟨t,rfl⟩,⟨e,rfl⟩⟩:=vals2 r;refine min_two_ints (I.ok.hd f) λd tk k=>⟨_,H,I.kept k,?_,q⟩;by_cases a:j<i
 ·rw[if_pos a,if_pos a];exact⟨_,rfl⟩
 ·rw[if_neg a,if_neg a];exact⟨_,rfl⟩
def xC:dW X (.type "int") (λxs H Q=>(∃i,xs=[.int i]/\Q (.int i) H)\/∃k,xs=[.bl k]/\Q (.int (if k then 1 else 0)) H):=by
 intro b s σ H xs c Q I r h;rcases h with⟨i,rfl,q⟩|⟨k,rfl,q⟩
 ·obtain⟨u,rfl,t,rfl⟩:=vals1 r;exact call_int_int ⟨.int i,H,I,⟨_,rfl⟩,q⟩
 ·obtain⟨u,rfl,a⟩:=vals1 r;cases a;exact call_int_bool ⟨.int (if k then 1 else 0),H,I.tok _,⟨_,rfl⟩,q⟩
def aAd:dW X (.type "str") (λxs H Q=>∃i,xs=[.int i]/\i.natAbs.log2<1920/\Q (.str (toString i)) H):=by intro b s σ H xs c Q I r h;obtain⟨i,rfl,a,q⟩:=h;obtain⟨u,rfl,t,rfl⟩:=vals1 r;exact PySem.P.str_of_int a ⟨.str _,H,I.tok _,⟨_,rfl⟩,q⟩
end
structure aPo (h:Heap)(x dx C:Addr)(mA:bFT):Prop where
 obj:h.get? x=some (PySem.W.instObj C dx)
 ns:h.Ns1 dx mA
 ne:dx≠x
def aT7 {h:Heap}{dx:Addr}{mA:bFT}(n:h.Ns1 dx mA):∃od,h.get? dx=some od/\∀name,PySem.W.lookIn name od=some (mA name):=by
 obtain⟨o,c,l,i,g,f,_,k⟩:=n;refine⟨o,i,λname=>?_⟩;have e:=k name;unfold nsFind findBy at e;rw[<-Array.find?_toList] at e;unfold PySem.W.lookIn;rw[g];dsimp only
 split
 ·rename_i y q;rw[q] at e;exact congrArg some e
 ·rename_i q;rw[q] at e;have a:c.toList.any (·.refKey)=false:=by rw[List.any_eq_false];intro y d;obtain⟨z,t,b⟩:=f y (Array.mem_toList_iff.mp d);simp[DictEntry.refKey,b]
  have j:¬ c.toList.any (·.refKey)=true:=by rw[a];exact bAC
  rw[if_neg j];exact congrArg some e
def aPo.look (I:aPo h x dx C mA):∃od,PySem.W.InstAt h x (PySem.W.instObj C dx) C (some od)/\∀name,PySem.W.lookIn name od=some (mA name):=
 let ⟨od,ho,hl⟩:=aT7 I.ns
 ⟨od,⟨I.obj,rfl,rfl,ho⟩,hl⟩
section
variable {prog:Program}{w:World}{A:Around}{E:bFR}{s:Shared}{K:bFQ}{x dx C f:Addr}{mA:bFT}{name:Str}{v:Value}
def bBi (X:K.In s.heap)(I:aPo s.heap x dx C mA)(c:PySem.W.plainGet K C name=true)(f:PySem.W.hasDictIn K C=true)
  (e:PySem.W.findIn K (.ref C) name=some none) (g:mA name=some v) (b:PySem.W.handedIn v=true) (h:Q v { s with toks:=s.toks+1 }) :
  wpAny (model prog w) A (getAttr (.ref x) name expr) Q E s:=by
 obtain⟨d,J,a⟩:=I.look;exact PySem.W.get_value X J (PySem.W.plainGet_of c).1 (PySem.W.findObj_own f e rfl (by rw[a,g])) b h
def aXz (X:K.In s.heap)(I:aPo s.heap x dx C mA)(a:PySem.W.plainGet K C name=true)
  (d:PySem.W.findIn K (.ref C) name=some (some (.ref f))) (e:PySem.W.isFn K (.ref f)=true) (g:mA name=none) (h:Q (.ref f,[.ref x]) s) :
  wpAny (model prog w) A (getMethod (.ref x) name pl) Q E s:=by
 obtain⟨b,J,c⟩:=I.look;exact PySem.W.method_fn X J (PySem.W.plainGet_of a).1 (PySem.W.plainGet_of a).2 d (beq_iff_eq.mp e) (by show (PySem.W.lookIn name b).map (·.isSome)=some false;rw[c,g];rfl) h
def bA1 (X:K.In s.heap)(I:aPo s.heap x dx C mA)
  (hs:PySem.W.findIn K (.ref C) "__setattr__"=some (some (.builtin "object.__setattr__"))) (o:PySem.W.plainOver K C=true) (q:PySem.W.takerIn K C name=some none) (u:PySem.W.hasDictIn K C=true)
  (m:PySem.Within mA ns) (hsz:ns.length<=sizeLine)
  (h:∀h',aPo h' x dx C (λy=>if y=name then some v else mA y)->Heap.SameBut dx s.heap h'->Q () { s with heap:=h',toks:=s.toks+2 }) :
  wpAny (model prog w) A (setAttr (.ref x) name v) Q E s:=by
 obtain⟨p,J,t⟩:=I.look;refine PySem.W.set_plain X J hs (PySem.W.osa_open X J o q λb=>?_);obtain⟨r,l,d⟩:=PySem.W.any_some u;have i:=I.obj;refine c7 (j9 (c7 (c7 (wpAny_loadPart i (c7 (PySem.W.Looks.here (PySem.W.looks_clsIn X l) ?_))))));rw[d];refine j9 (c7 (j9 (c7 ?_)));refine wpAny_nsSet1 I.ns λh' c a=>?_;obtain⟨n,j,k,g,f,e⟩:=c.count (PySem.Within.cons name v m);refine c7 (wpAny_lookBehind g (by rw[f];exact pastItsLine_dict (bAF e (by rw[d9];lia))) ?_);exact j9 (h _ ⟨(a.2 _ (Ne.symm I.ne)).trans I.obj,c,I.ne⟩ a)
def aXg (X:K.In s.heap)(j:PySem.W.makesIn K C=true)
  (e:PySem.W.findIn K (.ref C) "__init__"=some (some (.ref f))) (b:PySem.W.typeIn K (.ref f)=some (.type "function"))
  (h:codeAny (model prog w) (A.under (.builtin "type.__call__" ⟨.ref C::vs,kw⟩)) (.call (.ref f) ⟨.ref (s.heap.objs.size+1)::vs,kw⟩) (PySem.W.InitBack (s.heap.objs.size+1) R)
   { s with heap:=(s.heap.push PySem.W.emptyDict).push (PySem.W.instObj C s.heap.objs.size) }) :
  codeAny (model prog w) A (.call (.ref C) ⟨vs,kw⟩) R s:=by
 obtain⟨i,g,d,t,c⟩:=s;exact PySem.W.make_core (PySem.W.makes_of X j) (PySem.W.looks_findIn X e) (λa=>PySem.W.bind_fn X a b) (.inl rfl) h
end
def vC (f:Str)(v:V):List (Str × V)->List (Str × V)
 |[]=>[(f,v)]
 |(g,x)::r=>if g=f then (g,v)::r else (g,x)::vC f v r
theorem aDl (f g:Str)(v:V):∀fs:List (Str × V),(vC f v fs).lookup g=if g=f then some v else fs.lookup g
 |[]=>by
  show List.lookup g [(f,v)]=_;by_cases h:g=f
  ·have a:(g == f)=true:=beq_iff_eq.mpr h;simp only[List.lookup,a,if_pos h]
  ·have a:=beq_eq_false_iff_ne.mpr h;simp only[List.lookup,a,if_neg h]
 |(k,x)::r=>by
  have c:=aDl f g v r;rw[show vC f v ((k,x)::r)=(if k=f then (k,v)::r else (k,x)::vC f v r) from rfl];by_cases b:k=f
  ·rw[if_pos b];by_cases h:g=k
   ·have a:=beq_iff_eq.mpr h;simp only[List.lookup,a,if_pos (h.trans b)]
   ·have a:=beq_eq_false_iff_ne.mpr h;simp only[List.lookup,a,if_neg (λe:g=f=>h (e.trans b.symm))]
  ·rw[if_neg b];by_cases h:g=k
   ·have a:=beq_iff_eq.mpr h;simp only[List.lookup,a,if_neg (λe:g=f=>b (h.symm.trans e))]
   ·have a:=beq_eq_false_iff_ne.mpr h;simp only[List.lookup,a];exact c
theorem aB0 (f:Str)(v:V):∀fs:List (Str × V),f∈(vC f v fs).map (·.1)/\∀g,g∈fs.map (·.1)->g∈(vC f v fs).map (·.1)
 |[]=>⟨by simp[vC],λg h=>by simp at h⟩
 |(k,x)::r=>by
  obtain⟨b,c⟩:=aB0 f v r;rw[show vC f v ((k,x)::r)=(if k=f then (k,v)::r else (k,x)::vC f v r) from rfl];by_cases a:k=f
  ·rw[if_pos a];subst a;exact⟨by simp,λg h=>by simpa using h⟩
  ·rw[if_neg a];refine⟨?_,λg h=>?_⟩
   ·rw[bAE];exact j8 _ b
   ·rw[bAE] at h ⊢;rcases List.mem_cons.mp h with e|e
    ·exact List.mem_cons.mpr (.inl e)
    ·exact j8 _ (c g e)
theorem aC6 (f:Str)(v:V):∀fs:List (Str × V),(vC f v fs).length<=fs.length+1
 |[]=>by simp[vC]
 |(k,x)::r=>by
  have b:=aC6 f v r;rw[show vC f v ((k,x)::r)=(if k=f then (k,v)::r else (k,x)::vC f v r) from rfl];by_cases a:k=f
  ·rw[if_pos a,d9,d9];lia
  ·rw[if_neg a,d9,d9];lia
def xF.some_of (r:xF (some v) o):∃u,o=some u/\RelV v u:=by
 cases o with
 |none=>exact (show False from r).elim
 |some u=>exact⟨u,rfl,r⟩
def xF.none_of (r:xF none o):o=none:=by
 cases o with
 |none=>rfl
 |some u=>exact (show False from r).elim
def aTd (r:RelV v u):PySem.W.handedIn u=true:=by
 cases v with
 |non=>cases (show u=Value.none from r);rfl
 |bl b=>cases (show u=Value.bool b from r);rfl
 |int i=>obtain⟨t,e⟩:=(show ∃t,u=Value.int i t from r);cases e;rfl
 |str x=>obtain⟨t,e⟩:=(show ∃t,u=Value.str x t from r);cases e;rfl
 |byt b=>obtain⟨t,e⟩:=(show ∃t,u=Value.bytes b t from r);cases e;rfl
 |flt b=>obtain⟨t,e⟩:=(show ∃t,u=Value.float b t from r);cases e;rfl
 |ref a=>cases (show u=Value.ref a from r);rfl
 |ty n=>cases (show u=Value.type n from r);rfl
def aK8 (g:HOk P w H h)(e:H a=some (.ins C dx fs)):∃mA,aPo h a dx C mA/\(∀f,xF (fs.lookup f) (mA f))/\PySem.Within mA (fs.map (·.1))/\fs.length<=1000/\H dx=some (.own a):=by obtain⟨d,z,c,b,mA,n,r,q⟩:=(show iJ P w H h a (.ins C dx fs) from g a _ e);exact⟨mA,⟨b,n,c⟩,r,q,z,d⟩
structure Cls (K:bFQ)(C:Addr):Prop where
 pg:PySem.W.plainGet K C Str.empty=true
 hd:PySem.W.hasDictIn K C=true
 po:PySem.W.plainOver K C=true
 sa:PySem.W.findIn K (.ref C) "__setattr__"=some (some (.builtin "object.__setattr__"))
def Cls.get {K:bFQ}{C:Addr}(c:Cls K C)(f:Str):PySem.W.plainGet K C f=true:=c.pg
def iQ (K:bFQ)(C:Addr)(f:Str):Prop:=PySem.W.findIn K (.ref C) f=some none
def iQ.taker {K:bFQ}{C:Addr}{f:Str}(n:iQ K C f):PySem.W.takerIn K C f=some none:=by unfold PySem.W.takerIn;rw[show PySem.W.findIn K (.ref C) f=some none from n];rfl
structure Meth (K:bFQ)(C:Addr)(m:Str)(f:Addr):Prop where
 at_:PySem.W.findIn K (.ref C) m=some (some (.ref f))
 fn:PySem.W.isFn K (.ref f)=true
 kp:PySem.W.keepIn K (.ref f)=true
section
variable {X:Cx}{bFU:bFS}{σ:St}{H:Hp}{s:Shared}{a C dx:Addr}{fs:List (Str × V)}{f:Str}{v:V}{A:Around}{E:bFR}
def aQe (I:Inv X bFU σ H s)(e:H a=some (.ins C dx fs))(c:Cls X.K C)(n:iQ X.K C f)(l:fs.lookup f=some v)
  (h:∀u s',Inv X bFU σ H s'->RelV v u->Q u s'):wpAny (model X.prog X.w) A (getAttr (.ref a) f b) Q E s:=by
 obtain⟨i,O,r,_,_,_⟩:=aK8 I.hok e;obtain⟨u,g,d⟩:=xF.some_of (by rw[<-l];exact r f);exact bBi I.kIn O (c.get f) c.hd n g (aTd d) (h u _ (I.tok _) d)
def aGi (I:Inv X bFU σ H s)(e:H a=some (.ins C dx fs))(c:Cls X.K C)(k:Meth X.K C m g)(l:fs.lookup m=none)
  (h:Q (.ref g,[.ref a]) s):wpAny (model X.prog X.w) A (getMethod (.ref a) m pl) Q E s:=by
 obtain⟨d,O,r,_,_,_⟩:=aK8 I.hok e;have b:=xF.none_of (by rw[<-l];exact r m);exact aXz I.kIn O (c.get m) k.at_ k.fn b h
def aP1 {y:V}{u:Value}{Q:Unit->Shared->Prop}(I:Inv X bFU σ H s)(e:H a=some (.ins C dx fs))(c:Cls X.K C)(n:iQ X.K C f)(hl:fs.length<1000)(D:RelV y u)
  (h:∀s',Inv X bFU σ (upd H a (.ins C dx (vC f y fs))) s'->Q () s'):wpAny (model X.prog X.w) A (setAttr (.ref a) f u) Q E s:=by
 obtain⟨j,O,r,i,_,k⟩:=aK8 I.hok e;have p:(fs.map (·.1)).length<=sizeLine:=by rw[j5,sizeLine_eq];lia
 refine bA1 I.kIn O c.sa c.po n.taker c.hd i p λm d B=>h _ ?_;have v:∃o,m.get? dx=some o:=let ⟨o,_,_,e',_⟩:=d.ns;⟨o,e'⟩
 refine I.write (x:=a) (e:=dx) (by rw[e];exact True.intro) (.inr k) (λb q l z=>(B.2 b l).trans z) v ?_;refine⟨by rw[aR O.ne];exact k,?_,O.ne,d.obj,_,d.ns,λg=>?_,λg t=>?_⟩
 ·have:=aC6 f y fs;lia
 ·show xF ((vC f y fs).lookup g) (if g=f then some u else j g);rw[aDl];by_cases q:g=f
  ·rw[if_pos q,if_pos q];exact D
  ·rw[if_neg q,if_neg q];exact r g
 ·by_cases q:g=f
  ·rw[q];exact (aB0 f y fs).1
  ·refine (aB0 f y fs).2 g (i g λz=>t ?_);show (if g=f then some u else j g)=none;rw[if_neg q];exact z
def Inv.made (I:Inv X bFU σ H s):Inv X bFU σ (upd (upd H s.heap.objs.size (.own (s.heap.objs.size+1))) (s.heap.objs.size+1) (.ins C s.heap.objs.size []))
  { s with heap:=(s.heap.push PySem.W.emptyDict).push (PySem.W.instObj C s.heap.objs.size) }:=by
 have d:(s.heap.push PySem.W.emptyDict).get? s.heap.objs.size=some PySem.W.emptyDict:=z9 s.heap rfl;have f:((s.heap.push PySem.W.emptyDict).push (PySem.W.instObj C s.heap.objs.size)).get? (s.heap.objs.size+1)=some (PySem.W.instObj C s.heap.objs.size):=by
  have:=z9 (s.heap.push PySem.W.emptyDict) (o:=PySem.W.instObj C s.heap.objs.size) rfl
  rwa [bCR] at this
 have j:(s.heap.push PySem.W.emptyDict).Ns s.heap.objs.size (λ_=>none):=⟨PySem.W.emptyDict,#[],_,d,rfl,(λe h=>absurd h (by simp)),λ_=>rfl⟩;have g:=I.laid (a:=s.heap.objs.size) (o:=.own (s.heap.objs.size+1)) (h':=s.heap.push PySem.W.emptyDict) (t':=s.toks) (λb u q=>j4 _ q) (v7 _) ⟨_,d⟩;refine g.laid (a:=s.heap.objs.size+1) (o:=.ins C s.heap.objs.size []) (t':=s.toks) (λb u q=>j4 _ q) (Nat.le_of_eq (bCR _ _)) ?_;have c:s.heap.objs.size≠s.heap.objs.size+1:=bAI (Nat.lt_succ_self _);refine⟨by rw[aR c,aJ],bAK _,c,f,λ_=>none,(Heap.Ns1.of_empty j).at λo q=>j4 _ q,λ_=>True.intro,λy i=>absurd rfl i⟩
def aQ9 (a:attributeBase e f env (eval e env)=eval e env)
  (h:wpAny (model prog w) A (eval e env) (λo s₁=>wpAny (model prog w) A (getAttr o f true) Q E s₁) E s):wpAny (model prog w) A (eval (.Attribute e f pos) env) Q E s:=
 Attribute_any_ h (by rw[arm_eval_Attribute,a])
end
inductive aYj (K:bFQ)(f:Str)(Q:VK)(x:V)(H1:Hp):Prop
 |mk (a:_) (C:_) (dx:_) (fs:_) (v:_) (h0:x=.ref a) (h1:H1 a=some (.ins C dx fs)) (h2:Cls K C) (h3:iQ K C f) (h4:fs.lookup f=some v) (h5:Q v H1):aYj K f Q x H1
def bHg (K:bFQ)(ta:TE)(f:Str):TE:=fun σ H Q=>ta σ H (aYj K f Q)
def bG0 (K:bFQ)(ta tv:TE)(f:Str):TS:=λD σ H=>tv σ H λy H1=>ta σ H1 λx H2=>∃a C dx fs,x=.ref a/\H2 a=some (.ins C dx fs)/\Cls K C/\iQ K C f/\fs.length<1000 /\
 D.nx σ (upd H2 a (.ins C dx (vC f y fs)))
def bDm (y:PE X e ta)(w:attributeBase e f X.env (eval e X.env)=eval e X.env):PE X (.Attribute e f pos) (bHg X.K ta f):=by intro b s σ H Q I h;refine aQ9 w (thn (y b s σ H _ I h) λu z ⟨x,d,g,j,a,C,p,t,v,m,k,c,n,l,q⟩=>?_);subst m;obtain rfl:u=Value.ref a:=j;exact aQe g k c n l λr A i o=>⟨v,d,i,o,q⟩
def bC6 (G:PE X o ta)(w:PE X value tv)(hs:swapsWith value (some (.Attribute o f pos')) pos.line X.env=pure false):PS X (.Assign [.Attribute o f pos'] value pos) (bG0 X.K ta tv f):=by intro b s σ H D I h;refine plainObj_wpAny_Assign_Attribute (thn (w b s σ H _ I h) λu d ⟨y,v,j,p,q⟩=>thn (G b d σ v _ j q) λm A ⟨x,B,e,k,a,C,E,F,r,i,c,n,l,t⟩=>?_) hs;subst r;obtain rfl:m=Value.ref a:=k;exact aP1 e i c n l p λz g=>⟨σ,_,g,t⟩
structure Room (k:Nat)(A:Around):Prop where
 hd:A.handled=none
 dp:A.depth+3 * k+5<recursionLimit
 un:A.units+16 * k+200<cLine
def Room.mono (r:Room k A)(h:j<=k):Room j A:=⟨r.hd,by have:=r.dp;lia,by have:=r.un;lia⟩
def Room.deeper (r:Room (k+1) A)(env:Env):Room k (A.deeper env):=
 ⟨r.hd,by have:=r.dp;show A.depth+1+3 * k+5<_;lia,by have:=r.un;show A.units+3+16 * k+200<_;lia⟩
def aEt {A:Around}{C:Addr}{us:List Value}{kw:List (Str × Value)}:(A.under (.builtin "type.__call__" ⟨.ref C::us,kw⟩)).depth=A.depth+1:=by
 first|rfl|simp[Around.under,Code.weight,Code.isCreation,Code.isGuard,Code.isCaller,Code.frames,Code.isFrame,guardIds]
def aPh {A:Around}{C:Addr}{us:List Value}{kw:List (Str × Value)}:(A.under (.builtin "type.__call__" ⟨.ref C::us,kw⟩)).units=A.units+1:=by
 first|rfl|simp[Around.under,Code.cUnits,Code.frames,Code.isFrame]
def Room.make (r:Room (k+1) A)(C:Addr)(us:List Value)(kw:List (Str × Value)):Room k (A.under (.builtin "type.__call__" ⟨.ref C::us,kw⟩)):=
 ⟨r.hd,by have:=r.dp;rw[aEt];lia,by have:=r.un;rw[aPh];lia⟩
def Room.depth (r:Room k A):A.depth<recursionLimit:=by have:=r.dp;lia
def Room.units (r:Room k A):A.units+64<cLine:=by have:=r.un;lia
def pP:TA:=λ_ H Q=>Q [] H
def eE (ta:TE)(tr:TA):TA:=fun σ H Q=>ta σ H λx H1=>tr σ H1 λxs H2=>Q (x::xs) H2
def aPf:PA X [] pP:=λ_ _ _ _ H Q I h=>Calls.spliced_nil ⟨[],H,I,.nil,h⟩
def bAs (q:PE X e te)(p:PA X es t)(hs:starEach (e::es) X.env=(false,eval e X.env)::starEach es X.env:=by rfl):PA X (e::es) (eE te t):=by intro b a s σ H Q I h;rw[hs];show wpAny _ _ (spliced ((false,eval e X.env)::backTo b (starEach es X.env))) _ _ s;refine Calls.spliced_cons (thn (q a s σ H _ I h) λu j ⟨x,n,d,f,g⟩=>?_);exact thn (p b a j σ n _ d g) λo r ⟨l,c,k,m,i⟩=>⟨x::l,c,k,.cons f m,i⟩
abbrev Sp:=List V->Hp->VK->XK->Prop
abbrev CXT:=List Env->Hp->Shared->XK->Value->Shared->Prop
structure aGv (P:Program)(w:World)(K:bFQ)(mg:bFT)(base:Heap)(A:Around)(outer:List Env)(s:Shared)(H:Hp):Prop where
 frames:A.frames=some outer
 mod:Mod K mg base
 bs:∀b o,base.get? b=some o->s.heap.get? b=some o/\H b=none
 bsz:base.objs.size<=s.heap.objs.size
 funs:s.heap.FunFrames base outer
 frf:∀b∈frs outer,H b=none
 hok:HOk P w H s.heap
 bare:AllBare s.gens
def CE (outer:List Env)(P:Program)(w:World)(H:Hp)(s:Shared)(Q:VK)(u:Value)(s':Shared):Prop:=
 ∃v H',s'.os=s.os/\AllBare s'.gens/\Un (frs outer) [] H H' s.heap s'.heap/\HOk P w H' s'.heap/\RelV v u/\Q v H'
def CR (CX:CXT)(outer:List Env)(P:Program)(w:World)(H:Hp)(s:Shared)(Q:VK)(E:XK)(r:Result)(s':Shared):Prop:=
 match r with
 |.ok (.ret u)=>CE outer P w H s Q u s'
 |.ok _=>False
 |.error e=>CX outer H s E e s'
structure iM (P:Program)(w:World)(K:bFQ)(mg:bFT)(base:Heap)(CX:CXT)(k:Nat)(f:Addr)(fd:FuncData)(ps:List Str)(sp:Sp):Prop where
 len:∀vs H Q E,sp vs H Q E->vs.length=ps.length
 run:∀(A:Around) (outer:List Env) (s:Shared) (H:Hp) (args:Args) (us:List Value) (vs:List V) (Q:VK) (E:XK),Room k A->!aGv A outer s H->BindsTo s fd args (ps.zip us)->Vals vs us->sp vs H Q E ->
  codeAny (model P w) A (.call (.ref f) args) (CR CX outer P w H s Q E) s
def iM.mono {P:Program}{w:World}{K:bFQ}{mg:bFT}{base:Heap}{CX:CXT}{j k:Nat}{f:Addr}{fd:FuncData}{ps:List Str}{sp:Sp}(F:!iM CX j f fd ps sp)(h:j<=k) :
  !iM CX k f fd ps sp:=⟨F.len,λA a s H b d c Q E e=>F.run A a s H b d c Q E (e.mono h)⟩
def iM.imp {P:Program}{w:World}{K:bFQ}{mg:bFT}{base:Heap}{CX:CXT}{k:Nat}{f:Addr}{fd:FuncData}{ps:List Str}{sp sp':Sp}(F:!iM CX k f fd ps sp)
  (h:∀vs H Q E,sp' vs H Q E->sp vs H Q E):!iM CX k f fd ps sp':=
 ⟨λvs H Q E q=>F.len vs H Q E (h _ _ _ _ q),λA a s H b c vs Q E i g d j e=>F.run A a s H b c vs Q E i g d j (h _ _ _ _ e)⟩
def aGv.make {P:Program}{w:World}{K:bFQ}{mg:bFT}{base:Heap}{A:Around}{outer:List Env}{s:Shared}{H:Hp}(e:!aGv A outer s H)(C:Addr)(us:List Value)(kw:List (Str × Value)) :
  !aGv (A.under (.builtin "type.__call__" ⟨.ref C::us,kw⟩)) outer s H:=⟨by first|exact e.frames|(simpa [Around.under,Code.envs,Code.isFrame,pushEnvs] using e.frames),e.mod,e.bs,e.bsz,e.funs,e.frf,e.hok,e.bare⟩
def Inv.env0 (I:Inv X bFU σ H s):aGv X.prog X.w X.K X.mg X.base X.A X.stack s H:=
 ⟨I.ok.frames,I.ok.mod,I.bs,bAF I.ok.bsz I.sz,I.stack,I.aKm,I.hok,I.bare⟩
def Inv.after (I:Inv X bFU σ H s)(h:CE X.stack X.prog X.w H s Q u s'):EP X bFU σ Q u s':=by obtain⟨v,k,f,a,j,e,r,q⟩:=h;obtain⟨i,g,d,t,c⟩:=s';obtain rfl:c=s.os:=f;exact⟨v,k,I.call (h':=i) (g':=g) (d':=d) (t':=t) j e a (λb z=>absurd z (by simp)),r,q⟩
def aC1 (sp:Sp)(dvs:List V)(E:XK)(t:TA):TE:=fun σ H Q=>t σ H λvs H1=>sp (vs++dvs) H1 Q E
inductive aRz (C:Addr)(m:Str)(sp:Sp)(dvs:List V)(E:XK)(t:TA)(σ:St)(Q:VK)(x:V)(H1:Hp):Prop
 |mk (a:_) (dx:_) (fs:_) (h0:x=.ref a) (h1:H1 a=some (.ins C dx fs)) (h2:fs.lookup m=none) (h3:t σ H1 λvs H2=>sp (x::(vs++dvs)) H2 Q E):aRz C m sp dvs E t σ Q x H1
def aGa (C:Addr)(m:Str)(sp:Sp)(dvs:List V)(E:XK)(ta:TE)(t:TA):TE:=fun σ H Q=>ta σ H (aRz C m sp dvs E t σ Q)
def aYu (C:Addr)(sp:Sp)(dvs:List V)(E:XK)(t:TA):TE:=fun σ H Q=>t σ H λvs H1=>∀x dx,H1 x=none->H1 dx=none->dx≠x ->
 sp (.ref x::(vs++dvs)) (upd (upd H1 dx (.own x)) x (.ins C dx [])) (λv H2=>v=.non/\Q (.ref x) H2) E
def Binds (K:bFQ)(fd:FuncData)(ps:List Str)(ds:List Value):Prop:=
 ∀s us,K.In s.heap->(us++ds).length=ps.length->BindsTo s fd ⟨us,[]⟩ (ps.zip (us++ds))
def Binds.all {K:bFQ}{fd:FuncData}{ps:List Str}(h:∀us:List Value,us.length=ps.length->bindArgs fd ⟨us,[]⟩=pure (ps.zip us)):Binds K fd ps []:=λs us _ a=>by rw[bAJ] at a ⊢;exact .of_eq (h us a)
def oK (CX:CXT)(X:Cx)(E:XK):Prop:=∀bFU σ H s e s',Inv X bFU σ H s->CX X.stack H s E e s'->X.xe e s'
def aB9 (F:iM X.prog X.w X.K X.mg X.base CX k f fd ps sp)(j:Room k X.A)(i:Binds X.K fd ps ds)(hd:Vals dvs ds)(g:oK CX X E)
  (I:Inv X bFU σ H s) (r:Vals vs us) (h:sp (vs++dvs) H Q E):wpAny (model X.prog X.w) X.A (call (.ref f) us) (EP X bFU σ Q) X.xe s:=by
 have b:=r.append hd;have c:(us++ds).length=ps.length:=by rw[<-b.length];exact F.len _ _ _ _ h
 refine bDM (bDF (F.run X.A X.stack s H ⟨us,[]⟩ (us++ds) (vs++dvs) Q E j I.env0 (i s us I.kIn c) b h) λr d a=>?_);cases r with
 |error e=>exact g bFU σ H s e d I a
 |ok fl=>
  cases fl with
  |ret u=>exact I.after a
  |next=>exact False.elim a
  |brk=>exact False.elim a
  |cont=>exact False.elim a
def aSg (F:iM X.prog X.w X.K X.mg X.base CX k f fd ps sp)(n:Room k X.A)(u:Gl X x)(B:X.mg x=some (.ref f))(m:PySem.W.keepIn X.K (.ref f)=true)(j:Binds X.K fd ps ds)(hd:Vals dvs ds)(g:oK CX X E)
  (v:PA X (e::es) t) (c:(x == ("__debug__":Str))=false:=by decide) (l:starEach (e::es) X.env=(false,eval e X.env)::starEach es X.env:=by rfl) (d:(backTo pos (starEach es X.env)).any (·.1)=false:=by rfl) :
  PE X (.Call (.Name x p) (e::es) [] pos) (aC1 sp dvs E t):=by
 intro a s σ H Q I h;refine bBT (nR I u B ?_ c);refine PySem.W.callWith_K (h₀:=X.base) I.ok.mod.kin m (thn (v pos a s σ H _ I h) λi o ⟨y,z,b,r,q⟩=>⟨b.kIn,?_⟩) l d;exact aB9 F n j hd g b r q
def aVc (F:iM X.prog X.w X.K X.mg X.base CX k f fd ps sp)(e:Room k X.A)(d:Gl X x)(j:X.mg x=some (.ref f))(i:PySem.W.keepIn X.K (.ref f)=true)(g:Binds X.K fd ps ds)(hd:Vals dvs ds)(c:oK CX X E)
  (b:(x == ("__debug__":Str))=false:=by decide):PE X (.Call (.Name x p) [] [] pos) (aC1 sp dvs E pP):=by
 intro a s σ H Q I h;refine bBT (nR I d j ?_ b);exact PySem.W.callWith_K0 I.kIn i (aB9 F e g hd c I .nil h)
def aSh {pl:Sem Bool}(O:PE X o ta)(c:Cls X.K C)(D:Meth X.K C m f)(F:iM X.prog X.w X.K X.mg X.base CX k f fd ps sp)(P:Room k X.A)(N:Binds X.K fd ps ds)(hd:Vals dvs ds)(G:oK CX X E)(S:PA X (e::es) t)
  (z:starEach (e::es) X.env=(false,eval e X.env)::starEach es X.env:=by rfl) (j:(backTo pos (starEach es X.env)).any (·.1)=false:=by rfl)
  (R:eval (.Call (.Attribute o m apos) (e::es) [] pos) X.env=(do
   let ov <-eval o X.env
   standAt apos.atName
   let (f,first) <-holding [ov] (getMethod ov m pl)
   callWith pos f first (backTo pos (starEach (e::es) X.env)) (backToKw pos (keywordEach [] X.env))):=by rfl) :
  PE X (.Call (.Attribute o m apos) (e::es) [] pos) (aGa C m sp dvs E ta t):=by
 intro b s σ H Q I h;refine PySem.W.methodCall_KW (pl:=pl) (thn (O b s σ H _ I h) λu n ⟨x,B,d,p,a,L,M,y,v,l,q⟩=>?_) R;subst y;obtain rfl:u=Value.ref a:=p;refine aGi d v c D l ?_;refine PySem.W.callWith_K (first:=[.ref a]) (h₀:=X.base) I.ok.mod.kin D.kp (thn (S pos b n σ B _ d q) λus T ⟨vs,J,g,r,i⟩=>⟨g.kIn,?_⟩) z j;exact aB9 (us:=.ref a::us) (vs:=.ref a::vs) F P N hd G g (.cons rfl r) i
def aMk {pl:Sem Bool}(v:PE X o ta)(c:Cls X.K C)(j:Meth X.K C m f)(F:iM X.prog X.w X.K X.mg X.base CX k f fd ps sp)(y:Room k X.A)(t:Binds X.K fd ps ds)(hd:Vals dvs ds)(n:oK CX X E)
  (B:eval (.Call (.Attribute o m apos) [] [] pos) X.env=(do
   let ov <-eval o X.env
   standAt apos.atName
   let (f,first) <-holding [ov] (getMethod ov m pl)
   callWith pos f first (backTo pos (starEach [] X.env)) (backToKw pos (keywordEach [] X.env))):=by rfl) :
  PE X (.Call (.Attribute o m apos) [] [] pos) (aGa C m sp dvs E ta pP):=by
 intro d s σ H Q I h;refine PySem.W.methodCall_KW (pl:=pl) (thn (v d s σ H _ I h) λu z ⟨x,D,b,e,a,p,r,i,g,l,q⟩=>?_) B;subst i;obtain rfl:u=Value.ref a:=e;refine aGi b g c j l ?_;exact PySem.W.callWith_K0 (first:=[.ref a]) b.kIn j.kp (aB9 (us:=[.ref a]) (vs:=[.ref a]) F y t hd n b (.cons rfl .nil) q)
structure Mk (K:bFQ)(C f:Addr):Prop where
 makes:PySem.W.makesIn K C=true
 init:PySem.W.findIn K (.ref C) "__init__"=some (some (.ref f))
 fn:PySem.W.isFn K (.ref f)=true
 kp:PySem.W.keepIn K (.ref C)=true
def aXl {m:bFS}{σ:St}{H:Hp}{s:Shared}{Q:VK}{us:List Value}{vs:List V}(M:Mk X.K C f)(F:iM X.prog X.w X.K X.mg X.base CX k f fd ps sp)(y:Room (k+1) X.A)(t:Binds X.K fd ps ds)(hd:Vals dvs ds)
  (q:oK CX X E) (I:Inv X m σ H s) (r:Vals vs us)
  (h:∀x dx,H x=none->H dx=none->dx≠x->sp (.ref x::(vs++dvs)) (upd (upd H dx (.own x)) x (.ins C dx [])) (λv H2=>v=.non/\Q (.ref x) H2) E) :
  wpAny (model X.prog X.w) X.A (call (.ref C) us) (EP X m σ Q) X.xe s:=by
 have d:=h (s.heap.objs.size+1) s.heap.objs.size (I.hok.fresh (bEK _)) (I.hok.fresh (v7 _)) (bAI (Nat.lt_succ_self _));have b:=Inv.made (C:=C) I;have c:Vals (V.ref (s.heap.objs.size+1)::(vs++dvs)) (Value.ref (s.heap.objs.size+1)::(us++ds)):=.cons rfl (r.append hd);have o:(Value.ref (s.heap.objs.size+1)::us++ds).length=ps.length:=by have e:=c.length;rw[F.len _ _ _ _ d] at e;exact e.symm
 refine bDM (aXg (f:=f) I.kIn M.makes M.init (beq_iff_eq.mp M.fn) (bDF (F.run _ X.stack _ _ ⟨Value.ref (s.heap.objs.size+1)::us,[]⟩ (Value.ref (s.heap.objs.size+1)::(us++ds)) _ _ E (y.make C us [])
  (b.env0.make C us []) (t _ (Value.ref (s.heap.objs.size+1)::us) b.kIn o) c d) λr g a=>?_))
 cases r with
 |error e=>exact q m σ _ _ e g b a
 |ok fl=>
  cases fl with
  |ret u=>obtain⟨v,p,j,l,n,i⟩:=b.after a;subst n;exact⟨l,⟨V.ref (s.heap.objs.size+1),p,j,rfl,i⟩⟩
  |next=>exact False.elim a
  |brk=>exact False.elim a
  |cont=>exact False.elim a
def aSt (M:Mk X.K C f)(F:iM X.prog X.w X.K X.mg X.base CX k f fd ps sp)(m:Room (k+1) X.A)(o:Gl X x)(z:X.mg x=some (.ref C))(j:Binds X.K fd ps ds)(hd:Vals dvs ds)(g:oK CX X E)
  (u:PA X (e::es) t) (c:(x == ("__debug__":Str))=false:=by decide) (l:starEach (e::es) X.env=(false,eval e X.env)::starEach es X.env:=by rfl) (d:(backTo pos (starEach es X.env)).any (·.1)=false:=by rfl) :
  PE X (.Call (.Name x p) (e::es) [] pos) (aYu C sp dvs E t):=by
 intro a s σ H Q I h;refine bBT (nR I o z ?_ c);refine PySem.W.callWith_K (h₀:=X.base) I.ok.mod.kin M.kp (thn (u pos a s σ H _ I h) λi n ⟨v,y,b,r,q⟩=>⟨b.kIn,?_⟩) l d;exact aXl M F m j hd g b r q
structure aM (N P:List Str)(sc:Scope):Prop where
 kind:sc.kind=.function
 co:sc.isCoroutine=false
 gen:sc.isGenerator=false
 nd:N.Nodup
 pre:N.take P.length=P
 par:∀x∈P,sc.names.lookup x=some .local\/sc.names.lookup x=some .cell
 nofree:∀y∈sc.names,y.2≠.free
theorem aHx {kindOf:Str->Option NameKind}{x:Str}:∀{binds:List (Str × Value)} {m:bFT},(∀v,(x,v)∉binds)->bindL kindOf binds m x=m x
 |[],_,_=>rfl
 |(n,v)::r,m,h=>by
  unfold bindL;rw[aHx λw a=>h w (j8 _ a)]
  split
  ·have:x≠n:=by rintro rfl;exact h v j7
   simp[this]
  ·rfl
theorem aI1 {kindOf:Str->Option NameKind}{x:Str}:∀{binds:List (Str × Value)} {m:bFT},(∀v,(x,v)∉binds)->bindC kindOf binds m x=m x
 |[],_,_=>rfl
 |(n,v)::r,m,h=>by
  unfold bindC;rw[aI1 λw a=>h w (j8 _ a)]
  split
  ·rfl
  ·have:x≠n:=by rintro rfl;exact h v j7
   simp[this]
theorem aBs {a:Str->Option NameKind}{x:Str}{v:Value}:∀{P:List Str} {vs:List Value} {i:Nat} {m:bFT},P.Nodup->P[i]?=some x->vs[i]?=some v->a x=some .local ->
  bindL a (P.zip vs) m x=some v
 |[],_,_,_,_,h,_,_=>by simp at h
 |_::_,[],_,_,_,_,h,_=>by simp at h
 |p::P,w::vs,0,m,nd,h1,h2,hk=>by simp at h1 h2;subst h1;subst h2;show bindL a ((p,w)::P.zip vs) m p=_;unfold bindL;rw[aHx λv b=>(List.nodup_cons.mp nd).1 (bEW b).1,if_pos hk];simp
 |p::P,w::vs,i+1,m,nd,h1,h2,hk=>by show bindL a ((p,w)::P.zip vs) m x=_;unfold bindL;exact aBs (i:=i) (List.nodup_cons.mp nd).2 (by simpa using h1) (by simpa using h2) hk
theorem aBr {a:Str->Option NameKind}{x:Str}{v:Value}:∀{P:List Str} {vs:List Value} {i:Nat} {m:bFT},P.Nodup->P[i]?=some x->vs[i]?=some v->a x≠some .local ->
  bindC a (P.zip vs) m x=some v
 |[],_,_,_,_,h,_,_=>by simp at h
 |_::_,[],_,_,_,_,h,_=>by simp at h
 |p::P,w::vs,0,m,nd,h1,h2,hk=>by simp at h1 h2;subst h1;subst h2;show bindC a ((p,w)::P.zip vs) m p=_;unfold bindC;rw[aI1 λv b=>(List.nodup_cons.mp nd).1 (bEW b).1,if_neg hk];simp
 |p::P,w::vs,i+1,m,nd,h1,h2,hk=>by show bindC a ((p,w)::P.zip vs) m x=_;unfold bindC;exact aBr (i:=i) (List.nodup_cons.mp nd).2 (by simpa using h1) (by simpa using h2) hk
def start (N:List Str)(vs:List V):St:=vs.map some++List.replicate (N.length - vs.length) none
def uT (CX:CXT)(P:Program)(w:World)(K:bFQ)(mg:bFT)(base:Heap)(N:List Str)(qual:Str)(scope:Scope)(f:Addr)(cd:Value)(A:Around)(outer:List Env)(s:Shared)(H:Hp)(E:XK):Cx where
 prog:=P
 w:=w
 K:=K
 mg:=mg
 base:=base
 A:=A.deeper (envOfC qual scope s.heap.objs.size f cd)
 N:=N
 s₀:=s
 H₀:=H
 env:=envOfC qual scope s.heap.objs.size f cd
 outer:=outer
 stack:=envOfC qual scope s.heap.objs.size f cd::outer
 ex:=[]
 calm:=true
 fn:=λ_=>true
 pn:=[]
 xe:=λe s'=>wpAny (model P w) (A.deeper (envOfC qual scope s.heap.objs.size f cd)) (leaving (envOfC qual scope s.heap.objs.size f cd) e) (λ_ s''=>CX outer H s E e s'') (λe' s''=>CX outer H s E e' s'') s'
def aBb {a:Scope}{n:Nat}{x:Str}(h:a.names.lookup x=some .cell):∃c,(cellsFrom n a.names []).lookup x=some c:=by have q:=PySem.W.cellsFrom_some a.names n [] (.inl h);exact Option.isSome_iff_exists.mp q
def aTk {CX:CXT}{P:Program}{w:World}{K:bFQ}{mg:bFT}{base:Heap}{N C:List Str}{t:Str}{scope:Scope}{f:Addr}{L:Value}{A:Around}{outer:List Env}{s s1:Shared}{H:Hp}{E:XK}{us:List Value}{vs:List V}
  (S:aM N C scope) (hd:A.handled=none) (e0:!aGv A outer s H) (hl:vs.length=C.length) (r:Vals vs us)
  (x:InCallC s s.heap.objs.size (bindL (envOfC t scope s.heap.objs.size f L).kindOf (C.zip us) λ_=>none) (cellsFrom (s.heap.objs.size+1) scope.names []) (bindC (envOfC t scope s.heap.objs.size f L).kindOf (C.zip us) λ_=>none) s1) :
  Inv (uT CX P w K mg base N t scope f L A outer s H E) [] (start N vs) H s1:=by
 have F:C.length<=N.length:=by have:=congrArg List.length S.pre;rw[bAU] at this;lia
 obtain⟨o,tk,rfl,D⟩:=x.done;have g:∀b:Addr,b∉(uT CX P w K mg base N t scope f L A outer s H E).ex:=λb z=>absurd (show b∈([]:List Addr) from z) (by simp);refine⟨⟨e0.mod,S.kind,rfl,rfl,v7 _,λy z c o d=>?_,λy hy=>?_,λy c _ h=>?_,λ_=>hd,Around.frames_deeper e0.frames,.inr ⟨rfl,rfl⟩,λb z=>absurd z (g b),e0.bs,e0.bsz,λb _ _=>g b,λb z=>absurd z (g b),e0.funs,e0.frf⟩,
  rfl,e0.bare,Un.kept D,⟨_,x.toInCall.ns,λi y v o d J=>?_⟩,λy c h=>⟨_,x.cell y c h⟩,e0.hok.fresh (v7 _),λy c h=>?_,λp l=>absurd (show p∈([]:bFS) from l) (by simp),e0.hok.kept D,?_⟩
 ·exact name_of_addr x.apart (PySem.mem_of_lookup o) (PySem.mem_of_lookup d)
 ·have hy:scope.names.lookup y=some .cell\/scope.names.lookup y=some .free:=hy;rcases hy with hy|hy
  ·exact aBb hy
  ·exact absurd rfl (S.nofree _ (PySem.mem_of_lookup hy))
 ·exact bDW (x.above y c (PySem.mem_of_lookup h))
 ·have m:i<vs.length:=by
   unfold start at d;by_cases m:i<vs.length
   ·exact m
   ·rw[bBW (by simpa using m)] at d;rw[List.getElem?_replicate] at d
    split at d <;> cases d
  have I:vs[i]?=some v:=by
   unfold start at d;rw[bCN (by simpa using m),bAD] at d;cases e:vs[i]? with
   |none=>rw[e] at d;cases d
   |some a=>rw[e] at d;cases d;rfl
  obtain⟨u,B,G⟩:=r.get I;have l:C[i]?=some y:=by rw[<-S.pre,List.getElem?_take_of_lt (by lia)];exact o
  have j:C.Nodup:=by rw[<-S.pre];exact S.nd.sublist (bBV _ _)
  refine⟨u,G,?_⟩;rcases S.par y (bAQ l) with k|k
  ·exact .inl ⟨k,aBs j l B k⟩
  ·obtain⟨c,e⟩:=aBb (n:=s.heap.objs.size+1) k;refine .inr ⟨.inl k,c,e,?_⟩;have q:=x.cell y c e;rw[aBr j l B (by show scope.names.lookup y≠_;rw[k];decide)] at q;exact q
 ·exact e0.hok.fresh (bDW (x.above y c (PySem.mem_of_lookup h)))
 ·unfold start;show _=N.length;rw[j6,j5,bEN];lia
def aVo {CX:CXT}{P:Program}{w:World}{K:bFQ}{mg:bFT}{base:Heap}{k:Nat}{f:Addr}{name g:Str}{params:Arguments}{body:List Stmt}{scope:Scope}{dV kV doc pm D ct oc:Value}{an od:Option Addr}
  {osl:Array (Option Value)} {N ps:List Str} {sp:Sp} (lk:K.lookup f=some ⟨oc,od,.func (PySem.W.fnOf name g params body scope dV kV doc pm an D ct),osl⟩) (Y:PySem.W.codeIn K D g=true) (S:aM N ps scope)
  (B:∀vs H Q E,sp vs H Q E->vs.length=ps.length)
  (p:∀(A:Around) (outer:List Env) (s:Shared) (H:Hp) (vs:List V) (Q:VK) (E:XK),Room k (A.deeper (envOfC g scope s.heap.objs.size f D))->sp vs H Q E ->
   ∃t,PSs (uT CX P w K mg base N g scope f D A outer s H E) body t/\t { nx:=λ_ H'=>Q .non H',rt:=Q } (start N vs) H) :
  !iM CX (k+1) f (PySem.W.fnOf name g params body scope dV kV doc pm an D ct) ps sp:=by
 refine⟨B,λA outer s H L M vs Q E C i O r d=>?_⟩;have hl:=B _ _ _ _ d;have G:K.In s.heap:=i.mod.kin.keeps λb o e=>(i.bs b o e).1;have l:s.heap.NoLimit:=i.mod.nolimit.keeps λb o e=>(i.bs b o e).1;have a:∀y∈ps.zip M,scope.names.lookup y.1=some .local\/(scope.names.lookup y.1=some .cell/\((cellsFrom (s.heap.objs.size+1) scope.names []).lookup y.1).isSome=true):=λ⟨n,v⟩ R=>by
  rcases S.par n (bEW R).1 with q|q
  ·exact .inl q
  ·exact .inr ⟨q,PySem.W.cellsFrom_some _ _ _ (.inl q)⟩
 refine codeAny_call_function C.depth (G _ _ lk) rfl S.co S.gen rfl (PySem.W.codeRec_of G Y) (O _ _ _ _ ?_);refine bFH S.kind a λU T F x=>?_;subst T;refine⟨l.keeps x.toInCall.keep,codeAny_func ?_⟩;obtain⟨t,ht,X⟩:=p A outer s H vs Q E (C.deeper _) d;have I:Inv (uT CX P w K mg base N g scope f D A outer s H E) [] (start N vs) H F:=aTk S C.hd i hl r x;refine bBB (ht [] F (start N vs) H _ I X) (λZ z c=>?_) λe z c=>c;have h:∀{j:St} {H':Hp} {v:V} {u:Value},Inv (uT CX P w K mg base N g scope f D A outer s H E) [] j H' z->RelV v u->Q v H'->CE outer P w H s Q u z:=
  λ{j H' v u} J m q=>⟨v,H',J.os,J.bare,J.base,J.hok,m,q⟩
 cases Z with
 |ret u=>obtain⟨v,j,H',J,m,q⟩:=c;exact h J m q
 |next=>obtain⟨j,H',J,q⟩:=c;exact h (v:=V.non) (u:=Value.none) J rfl q
 |brk=>obtain⟨_,_,_,q⟩:=c;exact False.elim q
 |cont=>obtain⟨_,_,_,q⟩:=c;exact False.elim q
section
variable {X:Cx}{x:Str}{p pos:Pos}{e:Expr}{es:List Expr}{t:TA}{id T:String}{r:List V->Hp->VK->Prop}
def tCB (r:List V->Hp->VK->Prop)(t:TA):TE:=fun σ H Q=>t σ H λvs H1=>r vs H1 Q
def aVl (u:dW X (.builtin id) r)(o:Gl X x)(v:X.mg x=none)(n:bootBuiltins x=some (.builtin id))(q:PA X (e::es) t)(hn:x≠"__name__":=by decide)(d:(x == ("__debug__":Str))=false:=by decide)
  (m:starEach (e::es) X.env=(false,eval e X.env)::starEach es X.env:=by rfl) (i:(backTo pos (starEach es X.env)).any (·.1)=false:=by rfl):PE X (.Call (.Name x p) (e::es) [] pos) (tCB r t):=by
 intro a s σ H Q I h;refine bBT (yZ I o v n ?_ hn d);exact bEP (thn (q pos a s σ H _ I h) λc j ⟨k,l,b,f,g⟩=>u a j σ l k c Q b f g) m i
def aTx (u:dW X (.type T) r)(o:Gl X x)(v:X.mg x=none)(n:bootBuiltins x=some (.type T))(q:PA X (e::es) t)(hn:x≠"__name__":=by decide)(d:(x == ("__debug__":Str))=false:=by decide)
  (m:starEach (e::es) X.env=(false,eval e X.env)::starEach es X.env:=by rfl) (i:(backTo pos (starEach es X.env)).any (·.1)=false:=by rfl):PE X (.Call (.Name x p) (e::es) [] pos) (tCB r t):=by
 intro a s σ H Q I h;refine bBT (yZ I o v n ?_ hn d);exact bCY (thn (q pos a s σ H _ I h) λc j ⟨k,l,b,f,g⟩=>u a j σ l k c Q b f g) m i
end
end L2
namespace HT
open PySem PyProof.Rows
section
open PySem.SeqAt
open PySem.AutoSeq1 (wpAny_loadPart')
open PySem.MeetsSeq PySem.MeetsSeq2 PySem.MeetsSeq3
end
def bBl (y:IsTup s.heap t vs.toArray)(x:IsTup s.heap b ws.toArray)(u:vs≠[])
  (v:ws=[]->Q (.ref t) s) (z:ws≠[]->Q (.ref s.heap.objs.size) { s with heap:=s.heap.push { cls:=.type "tuple",data:=.seq (vs++ws).toArray } })
  (r:vs.length+ws.length<=sizeLine):wpAny (model prog w) A (binaryOp .Add (.ref t) (.ref b)) Q E s:=by
 obtain⟨⟨cls,p,data,k⟩,i,o,n,l⟩:=id y;obtain⟨⟨m,g,j,c⟩,a,f,q,d⟩:=id x;simp only at o l f d;subst o l f d;have e:vs.toArray++ws.toArray=(vs++ws).toArray:=by simp
 by_cases h:ws=[]
 ·exact concat_meets ⟨_,i,rfl⟩ ⟨_,a,rfl⟩ noFill_tuple_add seq_tuple_add PySem.F.slot_tuple_add PySem.F.entry_tuple_add (PySem.F.args_tuple_add_2 _ _)
   (tuple_addW1 t b vs.toArray ws.toArray n q p g k c (by simpa using u) (by simp[h])) ⟨i,a,v h⟩
 ·refine concat_meets ⟨_,i,rfl⟩ ⟨_,a,rfl⟩ noFill_tuple_add seq_tuple_add PySem.F.slot_tuple_add PySem.F.entry_tuple_add (PySem.F.args_tuple_add_2 _ _)
   (tuple_addW2 t b vs.toArray ws.toArray n q p g k c (by simpa using u) (by simpa using h) (by rw[v8,v8];exact r)) ⟨i,a,?_⟩
  rw[e];exact z h
def sIx (n d:Nat):Option Int->Nat
 |none=>d
 |some v=>if v<0 then (v+(n:Int)).toNat else min v.toNat n
def aAb (n d:Nat):sIx n d none=d:=rfl
def aAh (n d k:Nat):sIx n d (some (k:Int))=min k n:=by show (if (k:Int)<0 then ((k:Int)+(n:Int)).toNat else min (k:Int).toNat n)=min k n;rw[if_neg (by lia),bBZ]
def bEg (n d:Nat)(hd:d<=n)(o:Option Int):sIx n d o<=n:=by
 cases o with
 |none=>exact hd
 |some v=>
  show (if v<0 then (v+(n:Int)).toNat else min v.toNat n)<=n;by_cases a:v<0
  ·rw[if_pos a];lia
  ·rw[if_neg a];exact Nat.min_le_right _ _
def aRt (v:Int)(n d:Nat):(if v<0 then max (v+(n:Int)) 0 else min v (n:Int))=((sIx n d (some v):Nat):Int):=by
 show (if v<0 then max (v+(n:Int)) 0 else min v (n:Int))=(((if v<0 then (v+(n:Int)).toNat else min v.toNat n):Nat):Int);by_cases a:v<0
 ·simp only[if_pos a];lia
 ·simp only[if_neg a];lia
def aO6 (c b:Option Int)(n:Nat):Builtin.Slice.sliceAdjust c b 1 (n:Int)=(((sIx n 0 c:Nat):Int),((sIx n n b:Nat):Int)):=by
 have a:¬ ((1:Int)<0):=by lia
 unfold Builtin.Slice.sliceAdjust;simp only[a,if_false];refine Prod.ext ?_ ?_
 ·cases c with
  |none=>rfl
  |some v=>exact aRt v n 0
 ·cases b with
  |none=>rfl
  |some v=>exact aRt v n n
def aQk (i j:Nat):Builtin.Slice.slicePlaces (i:Int) (j:Int) 1=j - i:=by
 unfold Builtin.Slice.slicePlaces;have a:(1:Int) > 0:=by lia
 simp only[a,if_true,Int.ediv_one]
 split <;> lia
def aEe (p:IsPart v o)(h:Q o s):wpAny (model prog w) A (Builtin.Slice.slicePartIndex v) Q E s:=by
 cases p with
 |none=>exact slicePart_none h
 |int i t=>exact slicePart_int h
def sS {sl:Addr}{j f:Value}{c d:Option Int}{n:Nat}{Q:Int × Int × Nat->Shared->Prop}(hs:s.heap.IsSliceOf sl j f .none)(pl:IsPart j c)(g:IsPart f d)
  (h:Q (((sIx n 0 c:Nat):Int),1,sIx n n d - sIx n 0 c) s):wpAny (model prog w) A (Builtin.Slice.sliceApplied (.ref sl) (pure (n:Int))) Q E s:=by
 obtain⟨i,b,e,a⟩:=id hs;unfold Builtin.Slice.sliceApplied Builtin.Slice.sliceFields;refine c7 (c7 (bAR b a (x:=j) rfl (c7 (bAR b a (x:=f) rfl (c7 (bAR b a (x:=.none) rfl (j9 ?_)))))));refine c7 (slicePart_none ?_);show wpAny _ _ (if ((1:Int) == 0)=true then _ else _) _ _ s;rw[if_neg (by decide)];refine c7 (aEe pl (c7 (aEe g (c7 (j9 ?_)))));show wpAny _ _ (match Builtin.Slice.sliceAdjust c d 1 (n:Int) with|(c,d)=>pure (c,(1:Int),Builtin.Slice.slicePlaces c d 1)) _ _ s;rw[aO6 c d n];show wpAny _ _ (pure (((sIx n 0 c:Nat):Int),(1:Int),Builtin.Slice.slicePlaces ((sIx n 0 c:Nat):Int) ((sIx n n d:Nat):Int) 1)) _ _ s;rw[aQk];exact j9 h
def aX2 (xs:Array Value)(i k:Nat):((List.range k).filterMap λ(m:Nat)=>xs[((i:Int)+(m:Int) * 1).toNat]?).toArray=((xs.toList.drop i).take k).toArray:=by
 have e:(λ(m:Nat)=>xs[((i:Int)+(m:Int) * 1).toNat]?)=λm=>xs[i+m]?:=by
  funext m;have:((i:Int)+(m:Int) * 1).toNat=i+m:=by lia
  rw[this]
 rw[e];have:=pick_run xs i k;rw[List.filterMap_map] at this;have a:((λx=>xs[x]?) ∘ λx=>i+x)=λm=>xs[i+m]?:=rfl;rw[a] at this;rw[this]
def aA1 {t r:Addr}{a:Array Value}{vl vu:Value}{c d:Option Int}{Q:bFR}(i:IsTup s.heap t a)(hs:s.heap.IsSliceOf r vl vu .none)(pl:IsPart vl c)(u:IsPart vu d)
  (n:¬ (sIx a.size 0 c=0/\sIx a.size a.size d=a.size))
  (h:Q (.ref s.heap.objs.size) { s with heap:=s.heap.push { cls:=.type "tuple",data:=.seq ((a.toList.drop (sIx a.size 0 c)).take (sIx a.size a.size d - sIx a.size 0 c)).toArray } })
  (hsz:a.size<=sizeLine):wpAny (model prog w) A (getItem (.ref t) (.ref r)) Q E s:=by
 have b:sizeOk (.seq ((a.toList.drop (sIx a.size 0 c)).take (sIx a.size a.size d - sIx a.size 0 c)).toArray):=by show ((a.toList.drop (sIx a.size 0 c)).take (sIx a.size a.size d - sIx a.size 0 c)).toArray.size<=sizeLine;rw[v8,bAU,bBD,bAW];lia
 have o:sIx a.size a.size d<=a.size:=bEg _ _ (v7 _) d;obtain⟨l,e,g,k⟩:=id hs;have f:s.TypeIs (.ref r) "slice":=⟨l,e,g⟩;unfold getItem
 try with_reducible refine bBM ?_
 first|refine c7 (j9 ?_)|skip
 refine c7 (wpAny_sequenceKey i.typeIs (by decide) ?_);refine c7 (bBG (name:=Str.ofString "__getitem__") i.typeIs bCM
  (bBX bCM i.typeIs entry_tuple_getitem ?_ (args_tuple_getitem _ _)))
 show wpAny _ _ (Builtin.Tuple.tupleItemsOf (.ref t) >>= _) _ _ s;refine c7 (tupleItemsOf_ i ?_);refine c7 (wpAny_typeOf f ?_);rw[if_pos (by decide)];refine c7 (sS hs pl u ?_);have j:¬ ((((sIx a.size 0 c:Nat):Int) == 0 && (1:Int) == 1 && (sIx a.size a.size d - sIx a.size 0 c) == a.size)=true):=by intro q;rw[w6,w6] at q;have p:((sIx a.size 0 c:Nat):Int)=0:=eq_of_beq q.1.1;have v:sIx a.size a.size d - sIx a.size 0 c=a.size:=eq_of_beq q.2;exact n ⟨by lia,by lia⟩
 show wpAny _ _ (if (((sIx a.size 0 c:Nat):Int) == 0 && (1:Int) == 1 && (sIx a.size a.size d - sIx a.size 0 c) == a.size)=true then _ else _) _ _ s;rw[if_neg j,aX2];first
  |exact c7 (m:=Builtin.Tuple.tupleExact _) (bBE (j9 ⟨_,rfl,j9 h⟩) b)
  |exact c7 (m:=Builtin.Tuple.tupleExact _) (bBE (c7 (j9 (j9 ⟨_,rfl,j9 h⟩))) b)
  |exact c7 (c7 (m:=Builtin.Tuple.tupleExact _) (bBE (j9 (j9 ⟨_,rfl,j9 h⟩)) b))
  |exact c7 (c7 (m:=Builtin.Tuple.tupleExact _) (bBE (j9 ⟨_,rfl,j9 h⟩) b))
end HT
namespace L2
open PySem PySem.Spec PyProof.Rows
abbrev TO:=St->Hp->(Option Int->Hp->Prop)->Prop
def PO (X:Cx)(e:Option Expr)(t:TO):Prop:=
 ∀bFU s σ H Q,Inv X bFU σ H s->t σ H Q ->
  wpAny (model X.prog X.w) X.A (evalPart e X.env) (λu s'=>∃o H',Inv X bFU σ H' s'/\IsPart u o/\Q o H') X.xe s
def aSq:TO:=λ_ H Q=>Q none H
def bCt (t:TE):TO:=fun σ H Q=>t σ H λx H1=>∃i,x=.int i/\Q (some i) H1
section
variable {X:Cx}{e:Expr}{te:TE}{lo hi:Option Expr}{tl th:TO}{pos p2:Pos}
def aZ2:PO X none aSq:=by intro a s σ H Q I h;rw[evalPart_none];exact j9 ⟨none,H,I,.none,h⟩
def bBo (h:PE X e te):PO X (some e) (bCt te):=by intro a s σ H Q I b;rw[evalPart_some];refine thn (h a s σ H _ I b) λu j ⟨x,g,c,d,f⟩=>?_;obtain⟨i,rfl,q⟩:=f;obtain⟨t,rfl⟩:=d;exact⟨some i,g,c,.int i t,q⟩
def SlR (X:Cx)(r:V->Option Int->Option Int->Hp->VK->Prop):Prop:=
 ∀bFU s σ H x v vl vu lo hi sl Q,Inv X bFU σ H s->RelV x v->s.heap.IsSliceOf sl vl vu .none->IsPart vl lo->IsPart vu hi->r x lo hi H Q ->
  ∃T id,typeLookup (.type T) "__getitem__"=pure (some (.builtin id))/\s.TypeIs v T/\wpAny (model X.prog X.w) X.A (getItem v (.ref sl)) (EP X bFU σ Q) X.xe s
def tSl (r:V->Option Int->Option Int->Hp->VK->Prop)(te:TE)(tl th:TO):TE:=fun σ H Q=>te σ H λx H1=>tl σ H1 λl H2=>th σ H2 λu H3=>r x l u H3 Q
def aWh {r:V->Option Int->Option Int->Hp->VK->Prop}(O:SlR X r)(L:PE X e te)(P:PO X lo tl)(K:PO X hi th):PE X (.Subscript e (.Slice lo hi none p2) pos) (tSl r te tl th):=by intro a s σ H Q I h;refine Subscript_ (thn (L a s σ H _ I h) λv k ⟨x,y,z,B,C⟩=>?_);refine wpAny_Slice (thn (P a k σ y _ z C) λd p ⟨l,t,m,D,J⟩=>thn (K a p σ t _ m J) λf c ⟨u,g,o,G,E⟩=>?_);rw[evalPart_none];refine j9 ?_;have j:Inv X a σ g { c with heap:=c.heap.push { cls:=.type "slice",data:=.fields #[d,f,.none] } }:=o.kept (t':=c.toks) λb M q=>j4 _ q;obtain⟨T,N,i,F,n⟩:=O a { c with heap:=c.heap.push { cls:=.type "slice",data:=.fields #[d,f,.none] } } σ g x v d f l u c.heap.objs.size Q j B (Heap.IsSliceOf.new ..) D G E;show wpAny (model X.prog X.w) X.A (subscriptTail e (.Slice lo hi none p2) v (.ref c.heap.objs.size)) (EP X a σ Q) X.xe { c with heap:=c.heap.push { cls:=.type "slice",data:=.fields #[d,f,.none] } };exact tail_any (ops:=[.ref c.heap.objs.size,v]) F i n (by with_unfolding_all rfl)
def uC (xs:List V)(lo hi:Option Int):List V:=(xs.drop (HT.sIx xs.length 0 lo)).take (HT.sIx xs.length xs.length hi - HT.sIx xs.length 0 lo)
def aC9 (xs:List V)(lo hi:Option Int):(uC xs lo hi).length<=xs.length:=by unfold uC;rw[bAU,bBD];lia
def bJa (K:bFQ):V->Option Int->Option Int->Hp->VK->Prop:=λx lo hi H Q=>∃a xs,x=.ref a/\SqT K H a xs /\
 ¬ (HT.sIx xs.length 0 lo=0/\HT.sIx xs.length xs.length hi=xs.length)/\∀p,H p=none->Q (.ref p) (upd H p (.tup (uC xs lo hi)))
def bE5:SlR X (bJa X.K):=by
 intro p s σ H x v y u f g w Q I o n m t h;obtain⟨a,d,rfl,k,l,q⟩:=h;cases o;obtain⟨e,r,j,i⟩:=I.tuple k;have c:e.toArray.size=d.length:=by rw[v8];exact r.length.symm
 refine⟨"tuple",_,PyProof.Rows.slot_tuple_getitem.lookup,j.typeIs,?_⟩;refine HT.aA1 j n m t (by rw[c];exact l) ?_ (by rw[c];exact i);rw[c];refine⟨.ref s.heap.objs.size,_,I.laid (t':=s.toks) (λb z q=>j4 _ q) (v7 _) ?_,rfl,q _ (I.hok.fresh (v7 _))⟩;exact⟨bAF (aC9 d f g) i,_,(r.drop (HT.sIx d.length 0 f)).take (HT.sIx d.length d.length g - HT.sIx d.length 0 f),aBq.new _ _⟩
def bHe (K:bFQ):R2:=λx y H Q=>∃a b xs ys,x=.ref a/\y=.ref b/\SqT K H a xs/\SqT K H b ys/\xs≠[]/\xs.length+ys.length<=sizeLine /\
 (ys=[]->Q (.ref a) H)/\(ys≠[]->∀p,H p=none->Q (.ref p) (upd H p (.tup (xs++ys))))
def Vals.aJ2 (r:Vals xs us):us=[]↔xs=[]:=by
 cases r with
 |nil=>simp
 |cons _ _=>simp
def aZy:OpR X (binaryOp .Add) (bHe X.K):=by intro l s σ H x y v u Q I o r h;obtain⟨a,b,B,C,rfl,rfl,p,k,m,f,n,t⟩:=h;cases o;cases r;obtain⟨g,d,j,_⟩:=I.tuple p;obtain⟨e,c,i,_⟩:=I.tuple k;refine HT.bBl j i (λz=>m (d.aJ2.mp z)) (λz=>⟨.ref a,H,I,rfl,n (c.aJ2.mp z)⟩) (λz=>?_) (by rw[<-d.length,<-c.length];exact f);refine⟨.ref s.heap.objs.size,_,I.laid (t':=s.toks) (λb A q=>j4 _ q) (v7 _) ?_,rfl,t (λw=>z (c.aJ2.mpr w)) _ (I.hok.fresh (v7 _))⟩;exact⟨by rw[j6];exact f,_,d.append c,aBq.new _ _⟩
end
def ixN (n:Nat)(i:Int):Option Nat:=if 0<=i then (if i<n then some i.toNat else none) else if -(n:Int)<=i then some (i+n).toNat else none
def atI {α:Type}(xs:List α)(i:Int):Option α:=(ixN xs.length i).bind λj=>xs[j]?
def aRg (h:ixN n i=some j):seqIndex? i n=some j/\j<n/\-(n:Int)<=i/\i<n:=by
 unfold ixN at h;by_cases b:0<=i
 ·rw[if_pos b] at h;by_cases a:i<n
  ·rw[if_pos a] at h;have e:=bAM h;exact⟨by rw[seqIndex_of b a,e],by lia,by lia,a⟩
  ·rw[if_neg a] at h;cases h
 ·rw[if_neg b] at h;by_cases a:-(n:Int)<=i
  ·rw[if_pos a] at h;have e:=bAM h;exact⟨by rw[seqIndex_neg (by lia) a,e],by lia,a,by lia⟩
  ·rw[if_neg a] at h;cases h
def aR7 {α:Type}{xs:List α}{i:Int}{v:α}(h:atI xs i=some v):∃j,seqIndex? i xs.length=some j/\xs[j]?=some v/\j<xs.length/\-(xs.length:Int)<=i/\i<xs.length:=by
 unfold atI at h;cases e:ixN xs.length i with
 |none=>rw[e] at h;cases h
 |some j=>rw[e] at h;obtain⟨a,d,c,b⟩:=aRg e;exact⟨j,a,h,d,c,b⟩
def fQ {α:Type}{xs:List α}{j:Nat}{v:α}(h:xs[j]?=some v):atI xs (j:Int)=some v:=by
 have a:j<xs.length:=(List.getElem?_eq_some_iff.mp h).1;have e:ixN xs.length (j:Int)=some j:=by unfold ixN;rw[if_pos (by lia),if_pos (by lia)];simp
 unfold atI;rw[e];exact h
def aK2 (b:Expr):Prop:=∀o i,subscripted b false o i=operate [o,i] (getItem o i)
def IxR (X:Cx)(r:R2):Prop:=
 ∀value slice bFU s σ H x y v u Q,Inv X bFU σ H s->RelV x v->RelV y u->r x y H Q ->
  subscripted slice false v u=operate [v,u] (getItem v u)->wpAny (model X.prog X.w) X.A (subscriptTail value slice v u) (EP X bFU σ Q) X.xe s
def MtR (X:Cx)(id:String)(r:V->List V->Hp->VK->Prop):Prop:=
 ∀bFU s σ H x xs v us Q,Inv X bFU σ H s->RelV x v->Vals xs us->r x xs H Q ->
  wpAny (model X.prog X.w) X.A (call (.builtin id) (v::us)) (EP X bFU σ Q) X.xe s
section
variable {X:Cx}
def bHv (k:IxR X r)(l:PE X a ta)(j:PE X b tb)(hs:aK2 b):PE X (.Subscript a b pos) (tOp r ta tb):=by intro c s σ H Q I h;exact Subscript_ (aWk l j I h λv u i x y d e f g q=>k a b c i σ d x y v u Q e f g q (hs _ _))
inductive bEe (K:bFQ)(x:V)(y:V)(H:Hp)(Q:VK):Prop
 |mk (p:_) (xs:_) (i:_) (v:_) (h0:x=.ref p) (h1:y=.int i) (h2:SqL K H p xs) (h3:atI xs i=some v) (h4:Q v H):bEe K x y H Q
inductive bE9 (K:bFQ)(x:V)(y:V)(H:Hp)(Q:VK):Prop
 |mk (p:_) (xs:_) (i:_) (v:_) (h0:x=.ref p) (h1:y=.int i) (h2:SqT K H p xs) (h3:atI xs i=some v) (h4:Q v H):bE9 K x y H Q
def dF:IxR X (bEe X.K):=by
 intro e f a s σ H x y v u Q I E G h m;obtain⟨p,N,i,z,rfl,rfl,B,A,q⟩:=h;cases E;obtain⟨t,rfl⟩:=G;obtain⟨d,r,l,P⟩:=I.list B;obtain⟨j,c,L,M,F,D⟩:=aR7 A;obtain⟨w,o,g⟩:=r.get L;have J:=r.length;have O:=aCk;have b:EP X a σ Q w s:=⟨z,H,I,g,q⟩;by_cases n:0<=i
 ·have k:i.toNat=j:=by rw[seqIndex_of n D] at c;exact bAM c
  exact item_listR l.isList n (by lia) (by rw[k];simpa using o) b m
 ·have k:(i+(d.toArray.size:Int)).toNat=j:=by rw[seqIndex_neg (by lia) F] at c;rw[v8,<-J];exact bAM c
  exact subscriptTail_builtinR (x:=w) l.isList.typeIs slot_list_getitem.lookup
   (wpAny_getItem_list_neg (Q:=λr C=>r=w/\EP X a σ Q r C) l.isList (by lia) (by rw[v8] <;> lia) (by lia) (by rw[k];simpa using o) ⟨rfl,b⟩) m
def cM:IxR X (bE9 X.K):=by
 intro b c a s σ H x y v u Q I A B h k;obtain⟨p,G,i,z,rfl,rfl,m,l,q⟩:=h;cases A;obtain⟨t,rfl⟩:=B;obtain⟨g,r,f,L⟩:=I.tuple m;obtain⟨j,o,D,F,N,M⟩:=aR7 l;obtain⟨w,E,d⟩:=r.get D;have C:=r.length;have J:=aCk;have e:EP X a σ Q w s:=⟨z,H,I,d,q⟩;exact subscriptTail_builtinR (x:=w) f.typeIs slot_tuple_getitem.lookup
  (getItem_tuple (j:=j) (Q:=λr n=>r=w/\EP X a σ Q r n) f (by lia) (by lia) (by rw[v8,<-C];exact o) (by simpa using E) ⟨rfl,e⟩) k
def aQu (its:List Value)(n j:Nat)(u:Value):Obj.mapSeq (·.setIfInBounds j u) { cls:=.type "list",data:=.seq its.toArray n }={ cls:=.type "list",data:=.seq (its.set j u).toArray n }:=by simp[Obj.mapSeq]
def Inv.lst (I:Inv X bFU σ H s)(h:H p=some (.lst xs)) :
  ∃its n,Vals xs its/\s.heap.get? p=some { cls:=.type "list",data:=.seq its.toArray n }/\xs.length<=sizeLine:=by
 obtain⟨z,its,n,r,e⟩:=I.hok p _ h;exact⟨its,n,r,e,z⟩
def Inv.bDl {bFU:bFS}{σ:St}{H:Hp}{s:Shared}{p:Addr}{xs ys:List V}{its its':List Value}{n d:Nat}{f:Obj->Obj}(I:Inv X bFU σ H s)(h:H p=some (.lst xs))
  (g:s.heap.get? p=some { cls:=.type "list",data:=.seq its.toArray n }) (a:f { cls:=.type "list",data:=.seq its.toArray n }={ cls:=.type "list",data:=.seq its'.toArray d }) (r:Vals ys its') (i:ys.length<=sizeLine) (t:Nat) :
  Inv X bFU σ (upd H p (.lst ys)) { s with heap:=s.heap.update p f,toks:=t }:=by
 have e:(s.heap.update p f).get? p=some { cls:=.type "list",data:=.seq its'.toArray d }:=by rw[bAY f g (by rw[a] <;> rfl),a]
 refine I.write (x:=p) (e:=p) (by rw[h];trivial) (.inl rfl) (λb u c q=>(bBC _ _ (Ne.symm c)).trans q) ⟨_,e⟩ ?_;exact⟨i,its',d,r,e⟩
def bGz:V->V->V->Hp->(Hp->Prop)->Prop:=λo i v H Q=>∃p xs k j,o=.ref p/\i=.int k/\H p=some (.lst xs)/\ixN xs.length k=some j/\Q (upd H p (.lst (xs.set j v)))
def set_list:bE3 X bGz:=by
 intro c s σ H o i v G E u Q I B D y h;obtain⟨p,z,k,j,rfl,rfl,l,A,q⟩:=h;cases B;obtain⟨t,rfl⟩:=D;obtain⟨a,n,r,d,C⟩:=I.lst l;obtain⟨b,J,g,w⟩:=aRg A;have f:=r.length;have F:=aCk;have x:Inv X c σ (upd H p (.lst (z.set j v))) { s with heap:=s.heap.update p (Obj.mapSeq (·.setIfInBounds j u)) }:=
  I.bDl l d (aQu a n j u) (r.set y j) (by rw[List.length_set];exact C) s.toks
 by_cases m:0<=k
 ·have e:k.toNat=j:=by rw[seqIndex_of m w] at b;exact bAM b
  exact PySem.W.ki_setAt d m (by lia) (by rw[v8,<-f];exact w) (by rw[e];exact⟨_,x,q⟩)
 ·have e:(k+(a.toArray.size:Int)).toNat=j:=by rw[seqIndex_neg (by lia) g] at b;rw[v8,<-f];exact bAM b
  exact PySem.W.ki_setBack d (by lia) (by rw[v8,<-f];exact g) (by lia) (by rw[e];exact⟨_,x,q⟩)
def aJm (b a:Option Int)(n:Nat):(sliceBounds b a none n).1=((HT.sIx n 0 b:Nat):Int)/\(sliceBounds b a none n).2.1=((HT.sIx n n a:Nat):Int)/\(sliceBounds b a none n).2.2=1:=by
 refine⟨?_,?_,rfl⟩
 ·cases b with
  |none=>simp[sliceBounds,HT.sIx]
  |some i=>
   simp only[sliceBounds,HT.sIx,Option.getD_none,show (1:Int) > 0 by decide,if_true];by_cases h:i<0
   ·simp only[h,if_true] <;> lia
   ·simp only[h,if_false] <;> lia
 ·cases a with
  |none=>simp[sliceBounds,HT.sIx]
  |some i=>
   simp only[sliceBounds,HT.sIx,Option.getD_none,show (1:Int) > 0 by decide,if_true];by_cases h:i<0
   ·simp only[h,if_true] <;> lia
   ·simp only[h,if_false] <;> lia
def aG7 (its:List Value)(e d:Option Int):slicePick its.toArray e d none=((its.drop (HT.sIx its.length 0 e)).take (HT.sIx its.length its.length d - HT.sIx its.length 0 e)).toArray:=by obtain⟨a,c,b⟩:=aJm e d its.toArray.size;unfold slicePick;rw[a,c,b];simp only[sliceRange_one,pick_run,v8] <;> rfl
def bIf (K:bFQ):V->Option Int->Option Int->Hp->VK->Prop:=λx lo hi H Q=>∃a xs,x=.ref a/\SqL K H a xs/\∀p,H p=none->Q (.ref p) (upd H p (.lst (uC xs lo hi)))
def bA2:SlR X (bIf X.K):=by intro o s σ H x v w t e f u Q I n l k p h;obtain⟨a,d,rfl,i,q⟩:=h;cases n;obtain⟨j,r,g,m⟩:=I.list i;have c:=r.length;refine⟨"list",_,slot_list_getitem.lookup,g.isList.typeIs,?_⟩;refine wpAny_getItem_list_slice g.isList l k p .none (by simp) ?_ (by rw[v8] <;> lia);rw[aG7,<-c];refine⟨.ref s.heap.objs.size,_,I.laid (t':=s.toks) (λb y q=>j4 _ q) (v7 _) ?_,rfl,q _ (I.hok.fresh (v7 _))⟩;exact⟨bAF (aC9 d e f) m,_,0,(r.drop (HT.sIx d.length 0 e)).take (HT.sIx d.length d.length f - HT.sIx d.length 0 e),z9 _ rfl⟩
def kO:V->Bool
 |.non=>true
 |.bl _=>true
 |.int _=>true
 |.str _=>true
 |_=>false
def eqV:V->V->Bool
 |.non,.non=>true
 |.bl a,.bl b=>a == b
 |.bl a,.int b=>(if a then 1 else 0) == b
 |.int a,.bl b=>a == (if b then 1 else 0)
 |.int a,.int b=>a == b
 |.str a,.str b=>a == b
 |_,_=>false
def bFj (f:RelV y u)(c:RelV x v)(g:kO y=true)(e:kO x=true):SeqAt.EqAt A s u v (eqV y x):=by
 cases y with
 |non=>
  cases f;cases x with
  |non=>cases c;exact bEX _
  |bl b=>cases c;exact SeqAt.EqAt.none_bool b
  |int b=>obtain⟨t,rfl⟩:=c;exact SeqAt.EqAt.none_int b t
  |str b=>obtain⟨t,rfl⟩:=c;exact SeqAt.EqAt.none_str b t
  |_=>exact absurd (show false=true from e) bAC
 |bl a=>
  cases f;cases x with
  |non=>cases c;exact SeqAt.EqAt.bool_none a
  |bl b=>cases c;exact SeqAt.EqAt.bool_bool a b
  |int b=>obtain⟨t,rfl⟩:=c;exact SeqAt.EqAt.bool_int a b t
  |str b=>obtain⟨t,rfl⟩:=c;exact SeqAt.EqAt.bool_str a b t
  |_=>exact absurd (show false=true from e) bAC
 |int a=>
  obtain⟨d,rfl⟩:=f;cases x with
  |non=>cases c;exact SeqAt.EqAt.int_none a d
  |bl b=>cases c;exact SeqAt.EqAt.int_bool a d b
  |int b=>obtain⟨t,rfl⟩:=c;exact SeqAt.EqAt.int_int a d b t
  |str b=>obtain⟨t,rfl⟩:=c;exact SeqAt.EqAt.int_str a d b t
  |_=>exact absurd (show false=true from e) bAC
 |str a=>
  obtain⟨d,rfl⟩:=f;cases x with
  |non=>cases c;exact SeqAt.EqAt.str_none a d
  |bl b=>cases c;exact SeqAt.EqAt.str_bool a d b
  |int b=>obtain⟨t,rfl⟩:=c;exact SeqAt.EqAt.str_int a d b t
  |str b=>obtain⟨t,rfl⟩:=c;exact SeqAt.EqAt.str_str a d b t
  |_=>exact absurd (show false=true from e) bAC
 |_=>exact absurd (show false=true from g) bAC
def eqU (x:V)(u:Value):Bool:=match u with
 |.none=>eqV .non x
 |.bool b=>eqV (.bl b) x
 |.int i _=>eqV (.int i) x
 |.str z _=>eqV (.str z) x
 |_=>false
def aY5 (r:RelV y u)(f:kO y=true):eqU x u=eqV y x:=by
 cases y with
 |non=>cases r;rfl
 |bl b=>cases r;rfl
 |int i=>obtain⟨t,rfl⟩:=r;rfl
 |str z=>obtain⟨t,rfl⟩:=r;rfl
 |_=>exact absurd (show false=true from f) bAC
theorem aBm:∀{xs:List V} {us:List Value},Vals xs us->xs.all kO=true->us.any (eqU x)=xs.any λy=>eqV y x
 |_,_,.nil,_=>rfl
 |y::xs,u::us,.cons r t,f=>by rw[List.all_cons,w6] at f;rw[bER,bER,aY5 r f.1,aBm t f.2]
theorem wC (a:RelV x v)(b:kO x=true):∀{xs:List V} {us:List Value},Vals xs us->xs.all kO=true->∀u∈us,SeqAt.EqAt A s u v (eqU x u)
 |_,_,.nil,_=>λu hu=>by cases hu
 |y::xs,u::us,.cons r t,f=>λc hu=>by
  rw[List.all_cons,w6] at f;rcases List.mem_cons.mp hu with rfl|hu
  ·rw[aY5 r f.1];exact bFj r a f.1 b
  ·exact wC a b t f.2 c hu
def inV (x:V)(xs:List V):Bool:=xs.any λy=>eqV y x
def rIn (K:bFQ)(neg:Bool):R2:=λx y H Q=>∃p xs,y=.ref p/\(SqL K H p xs\/SqT K H p xs)/\kO x=true/\xs.all kO=true/\Q (.bl (if neg then !inV x xs else inV x xs)) H
def tE:OpR X (compareOp .In) (rIn X.K false):=by
 intro i s σ H x y v u Q I e j h;obtain⟨p,k,rfl,hq,f,b,q⟩:=h;cases j;rcases hq with hq|hq
 ·obtain⟨a,r,d,g⟩:=I.list hq;refine SeqAt.in_listAt (eqU x) d.isList (λw c=>wC e f r b w (by simpa using c)) ⟨.bl _,H,I,rfl,?_⟩;rw[show a.toArray.any (eqU x)=a.any (eqU x) by simp,aBm r b];exact q
 ·obtain⟨a,r,d,g⟩:=I.tuple hq;refine SeqAt.in_tupleAt (eqU x) d (λw c=>wC e f r b w (by simpa using c)) ⟨.bl _,H,I,rfl,?_⟩;rw[show a.toArray.any (eqU x)=a.any (eqU x) by simp,aBm r b];exact q
def aAw:OpR X (compareOp .NotIn) (rIn X.K true):=by
 intro i s σ H x y v u Q I e j h;obtain⟨p,k,rfl,hq,f,b,q⟩:=h;cases j;rcases hq with hq|hq
 ·obtain⟨a,r,d,g⟩:=I.list hq;refine SeqAt.notIn_listAt (eqU x) d.isList (λw c=>wC e f r b w (by simpa using c)) ⟨.bl _,H,I,rfl,?_⟩;rw[show a.toArray.any (eqU x)=a.any (eqU x) by simp,aBm r b];exact q
 ·obtain⟨a,r,d,g⟩:=I.tuple hq;refine SeqAt.notIn_tupleAt (eqU x) d (λw c=>wC e f r b w (by simpa using c)) ⟨.bl _,H,I,rfl,?_⟩;rw[show a.toArray.any (eqU x)=a.any (eqU x) by simp,aBm r b];exact q
def bD:dW X (.builtin "len") (λxs H Q=>∃p ys,xs=[.ref p]/\(SqL X.K H p ys\/SqT X.K H p ys)/\Q (.int ys.length) H):=by
 intro g s σ H xs i Q I r h;obtain⟨p,ys,rfl,hq,q⟩:=h;obtain⟨u,rfl,f⟩:=vals1 r;cases f;have j:=aCk;rcases hq with hq|hq
 ·obtain⟨b,d,c,e⟩:=I.list hq;have a:=d.length;exact Calls.call_len_list c.isList (by simp only[v8] <;> lia) ⟨.int ys.length,H,I.tok _,⟨s.toks+1,by rw[v8,a]⟩,q⟩
 ·obtain⟨b,d,c,e⟩:=I.tuple hq;have a:=d.length;exact len_tuple c (by simp only[v8] <;> lia) ⟨.int ys.length,H,I.tok _,⟨s.toks+1,by rw[v8,a]⟩,q⟩
def lB:dW X (.builtin "len") (λxs H Q=>∃z,xs=[.str z]/\z.length<=sizeLine/\Q (.int z.length) H):=by intro a s σ H xs b Q I r h;obtain⟨z,rfl,d,q⟩:=h;obtain⟨u,rfl,t,rfl⟩:=vals1 r;have c:=aCk;exact len_str (by lia) ⟨.int z.length,H,I.tok _,⟨_,rfl⟩,q⟩
def dW.or (h:dW X f r)(h':dW X f r'):dW X f (λxs H Q=>r xs H Q\/r' xs H Q):=by
 intro a s σ H xs b Q I c q;rcases q with q|q
 ·exact h a s σ H xs b Q I c q
 ·exact h' a s σ H xs b Q I c q
def aLi:dW X (.type "list") (λxs H Q=>∃p ys,xs=[.ref p]/\(SqL X.K H p ys\/SqT X.K H p ys)/\∀l,H l=none->Q (.ref l) (upd H l (.lst ys))):=by
 intro k s σ H xs z Q I r h;obtain⟨p,ys,rfl,hq,q⟩:=h;obtain⟨u,rfl,y⟩:=vals1 r;cases y;have i:∀a,Vals ys a->ys.length<=sizeLine->∀c d,(∀b o',s.heap.get? b=some o'->c.get? b=some o') ->
   c.get? s.heap.objs.size=some { cls:=.type "list",dict:=none,data:=.seq a.toArray d,slots:=#[] }->EP X k σ Q (.ref s.heap.objs.size) { s with heap:=c }:=λa f j c d kp e=>
  ⟨.ref s.heap.objs.size,_,I.laid (t':=s.toks) kp (v7 _) (show iJ X.prog X.w _ c _ (.lst ys) from ⟨j,a,d,f,e⟩),rfl,q _ (I.hok.fresh (v7 _))⟩
 rcases hq with hq|hq
 ·obtain⟨a,f,x,j⟩:=I.list hq;have g:=f.length;obtain⟨o,t,v,n,m⟩:=x.isList;exact call_list_seq p (.inl rfl) t v m (λc d kp e=>i a f j c d kp e) (by simp only[v8] <;> lia)
 ·obtain⟨a,f,x,j⟩:=I.tuple hq;have g:=f.length;obtain⟨o,t,v,n,m⟩:=x;exact call_list_seq p (.inr rfl) t v m (λc d kp e=>i a f j c d kp e) (by simp only[v8] <;> lia)
def aGy:dW X (.type "tuple") (λxs H Q=>∃p ys,xs=[.ref p]/\((SqL X.K H p ys/\∀l,H l=none->Q (.ref l) (upd H l (.tup ys)))\/(SqT X.K H p ys/\Q (.ref p) H))):=by
 intro f s σ H xs v Q I r h;obtain⟨p,ys,rfl,h⟩:=h;obtain⟨u,rfl,t⟩:=vals1 r;cases t;rcases h with⟨i,q⟩|⟨i,q⟩
 ·obtain⟨a,g,c,m⟩:=I.list i;have j:=g.length;refine call_tuple_list c.isList (λd kp=>?_) (by simp only[v8] <;> lia);have k:=I.kept (t':=s.toks) kp;have n:Inv X f σ (upd H d.objs.size (.tup ys)) { s with heap:=d.push { cls:=.type "tuple",data:=.seq a.toArray } }:=
   k.laid (t':=s.toks) (λb o e=>j4 _ e) (v7 _) (show iJ X.prog X.w _ _ _ (.tup ys) from ⟨m,a,g,aBq.new _ _⟩)
  exact⟨.ref d.objs.size,_,n,rfl,q _ (k.hok.fresh (v7 _))⟩
 ·obtain⟨a,g,c,m⟩:=I.tuple i;exact call_tuple_same c ⟨.ref p,H,I,rfl,q⟩
def tyV (K:bFQ)(T:String)(x:V)(H:Hp):Prop:=match x with
 |.str _=>T = "str"
 |.int _=>T = "int"
 |.ref p=>(T = "list"/\∃xs,SqL K H p xs)\/(T = "tuple"/\∃o,K.lookup p=some o/\o.cls=.type "tuple"/\o.dict=none) \/
   (T = "dict"/\((∃kvs,H p=some (.dK kvs))\/∃kvs,H p=some (.dT kvs)))\/(T = "set"/\∃S n,H p=some (.set S n))
 |_=>False
def aWc (I:Inv X bFU σ H s)(r:RelV x v)(f:tyV X.K T x H) :
  s.TypeIs v T/\∀a,v=.ref a->∃ob,s.heap.get? a=some ob/\ob.dict=none:=by
 cases x with
 |str z=>obtain⟨t,rfl⟩:=r;cases (show T = "str" from f);exact⟨typeIs_str s z t,λ_ e=>nomatch e⟩
 |int i=>obtain⟨t,rfl⟩:=r;cases (show T = "int" from f);exact⟨typeIs_int s i t,λ_ e=>nomatch e⟩
 |ref p=>
  cases r;rcases f with⟨rfl,q,m⟩|⟨rfl,o,b,hc,g⟩|⟨rfl,b⟩|⟨rfl,S,n,b⟩
  ·obtain⟨l,_,k,_⟩:=I.list m;refine⟨k.isList.typeIs,λa e=>?_⟩;cases e;obtain⟨o,n,e,c,g,_⟩:=k;exact⟨o,e,g⟩
  ·refine⟨⟨o,I.kIn p o b,hc⟩,λa e=>?_⟩;cases e;exact⟨o,I.kIn _ o b,g⟩
  ·have z:∃o,s.heap.get? p=some o/\o.ExactDict:=by
    rcases b with⟨j,b⟩|⟨j,b⟩
    ·obtain⟨_,_,_,_,o,_,_,e,d,_⟩:=I.hok p _ b;exact⟨o,e,d⟩
    ·obtain⟨_,_,_,_,o,_,_,e,d,_⟩:=I.hok p _ b;exact⟨o,e,d⟩
   obtain⟨o,e,d⟩:=z;refine⟨⟨o,e,d.1⟩,λa h=>?_⟩;cases h;exact⟨o,e,d.2.1⟩
  ·obtain⟨o,_,_,_,e,d,_⟩:=I.hok p _ b;refine⟨⟨o,e,d.1⟩,λa h=>?_⟩;cases h;exact⟨o,e,d.2.1⟩
 |_=>exact False.elim f
def bIa (K:bFQ)(T:String)(r:V->List V->Hp->VK->Prop)(to:TE):TE:=fun σ H Q=>to σ H λx H1=>tyV K T x H1/\r x [] H1 Q
def tBM (K:bFQ)(T:String)(r:V->List V->Hp->VK->Prop)(to:TE)(t:TA):TE:=fun σ H Q=>to σ H λx H1=>tyV K T x H1/\t σ H1 λxs H2=>r x xs H2 Q
variable {o e:Expr}{es:List Expr}{to:TE}{t:TA}{name:Str}{apos cpos:Pos}{T id:String}{r:V->List V->Hp->VK->Prop}
def bFs (p:PlainAttrs T)(f:Slot T name id)(k:typeOf (.builtin id)=pure (.type "method_descriptor"))(t:MtR X id r)(q:PE X o to)
  (b:attributeBase o name X.env (eval o X.env)=eval o X.env:=by rfl) (c:(apos.endLine == cpos.line)=true:=by rfl):PE X (.Call (.Attribute o name apos) [] [] cpos) (bIa X.K T r to):=by
 intro a s σ H Q I h;refine wpAny_Call_method0_late b c (thn (q a s σ H _ I h) λv l ⟨x,g,d,e,m,j⟩=>?_);obtain⟨i,n⟩:=aWc d e m;exact⟨T,id,p,f,k,i,n,Calls.callWith_builtin rfl (PySem.evalArgs_none (t a l σ g x [] v [] Q d e .nil j))⟩
def bGe (F:PlainAttrs T)(j:Slot T name id)(w:typeOf (.builtin id)=pure (.type "method_descriptor"))(L:MtR X id r)(J:PE X o to)(G:PA X (e::es) t)
  (c:attributeBase o name X.env (eval o X.env)=eval o X.env:=by rfl)
  (k:((backTo cpos (starEach (e::es) X.env)).all (λx=>!x.1) && (backToKw cpos (keywordEach [] X.env)).all (λx=>x.1.isSome)
   && decide ((e::es).length+([]:List Keyword).length+(if ([]:List Keyword).isEmpty then 0 else 1)<30))=true:=by rfl)
  (d:(apos.endLine == cpos.line)=true:=by rfl) (hs:starEach (e::es) X.env=(false,eval e X.env)::starEach es X.env:=by rfl) (b:(backTo cpos (starEach es X.env)).any (·.1)=false:=by rfl) :
  PE X (.Call (.Attribute o name apos) (e::es) [] cpos) (tBM X.K T r to t):=by
 intro a s σ H Q I h;refine wpAny_Call_method_late c k d rfl (thn (J a s σ H _ I h) λv y ⟨x,m,f,i,D,q⟩=>?_);obtain⟨p,E⟩:=aWc f i D;refine⟨T,id,F,j,w,p,E,?_⟩;have g:=G cpos a y σ m _ f q;rw[hs] at g ⊢;refine Calls.callWith_builtin (by show (false || (backTo cpos (starEach es X.env)).any (·.1))=false;rw[b] <;> rfl) (Calls.evalArgs_plain ?_);exact thn g λn B ⟨A,l,z,C,u⟩=>L a B σ l x A v n Q z i C u
end
def MtM (X:Cx)(id:String)(r:V->List V->Hp->VK->Prop):Prop:=
 ∀bFU s σ H x xs v us Q,Inv X bFU σ H s->RelV x v->Vals xs us->r x xs H Q ->
  wpAny (model X.prog X.w) X.A (call (.builtin id) (v::us)) (EP X bFU σ Q) X.xe s
theorem Vals.one:∀{x:V} {us:List Value},Vals [x] us->∃u,us=[u]/\RelV x u
 |_,_,.cons r .nil=>⟨_,rfl,r⟩
theorem Vals.two:∀{x y:V} {us:List Value},Vals [x,y] us->∃u v,us=[u,v]/\RelV x u/\RelV y v
 |_,_,_,.cons r t=>let ⟨_,e,q⟩:=Vals.one t;⟨_,_,e ▸ rfl,r,q⟩
theorem Vals.zero:∀{us:List Value},Vals [] us->us=[]
 |_,.nil=>rfl
def Vals.dropLast (h:Vals xs us):Vals xs.dropLast us.dropLast:=by
 induction h with
 |nil=>exact .nil
 |cons r t ih=>
  cases t with
  |nil=>exact .nil
  |cons q t'=>exact .cons r ih
def Vals.reverse (h:Vals xs us):Vals xs.reverse us.reverse:=by
 induction h with
 |nil=>exact .nil
 |cons r t ih=>rw[bEL,bEL];exact Vals.append ih (.cons r .nil)
theorem Vals.rep (h:Vals xs us):∀k:Nat,Vals (List.replicate k xs).flatten (List.replicate k us).flatten
 |0=>.nil
 |k+1=>by rw[bCJ,bCJ,bDR,bDR];exact Vals.append h (Vals.rep h k)
def aQm {α:Type}(l:List α):l.eraseIdx (l.length - 1)=l.dropLast:=by
 induction l with
 |nil=>rfl
 |cons a r ih=>
  cases r with
  |nil=>rfl
  |cons b r=>
   have e:(a::b::r).length - 1=((b::r).length - 1)+1:=by have d:(a::b::r).length=r.length+2:=rfl;have c:(b::r).length=r.length+1:=rfl;lia
   rw[e,List.eraseIdx_cons_succ,ih];all_goals rfl
theorem foldl_rep (its:List Value):∀k acc,
  List.foldl (λx1 x2=>x1++x2) acc.toArray (List.replicate k its.toArray)=(acc++(List.replicate k its).flatten).toArray
 |0,acc=>by simp
 |k+1,acc=>by
  have e:acc.toArray++its.toArray=(acc++its).toArray:=by simp
  have a:(acc++its)++(List.replicate k its).flatten=acc++(List.replicate (k+1) its).flatten:=by rw[bCJ,bDR,bAB]
  rw[<-a,<-foldl_rep its k (acc++its),<-e,bCJ,List.foldl_cons]
def Inv.lset {its its':List Value}{n:Nat}{f:Array Value->Array Value}{t':Nat}(I:Inv X bFU σ H s)(c:H l=some (.lst xs))
  (e:s.heap.get? l=some { cls:=.type "list",data:=.seq its.toArray n }) (g:f its.toArray=its'.toArray) (i:Vals ys its') (h:ys.length<=sizeLine) :
  Inv X bFU σ (upd H l (.lst ys)) { s with heap:=s.heap.update l (Obj.mapSeq f),toks:=t' }:=by
 have q:=PySem.IsL.update e f;rw[g] at q;refine I.write (x:=l) (e:=l) (by rw[c];exact trivial) (.inl rfl) (λd u b a=>(bBC s.heap (Obj.mapSeq f) (Ne.symm b)).trans a) ⟨_,q⟩ ?_;exact⟨h,its',_,i,q⟩
def Inv.lnew (I:Inv X bFU σ H s)(b:Vals ys its)(a:ys.length<=sizeLine) :
  Inv X bFU σ (upd H s.heap.objs.size (.lst ys)) { s with heap:=s.heap.push { cls:=.type "list",data:=.seq its.toArray },toks:=t' }:=
 I.laid (λ_ _ q=>j4 _ q) (v7 _) ⟨a,its,0,b,z9 _ rfl⟩
def Inv.fresh (I:Inv X bFU σ H s):H s.heap.objs.size=none:=I.hok.fresh (v7 _)
def Inv.aNd (I:Inv X bFU σ H s)(a:H l=some (.lst xs)):xs.length<=sizeLine/\∃its n,Vals xs its/\xs.length=its.length/\s.heap.get? l=some { cls:=.type "list",data:=.seq its.toArray n }:=by obtain⟨z,its,n,r,e⟩:=I.hok l _ a;exact⟨z,its,n,r,r.length,e⟩
def aMg (h:n<=sizeLine):Builtin.List.listTooLong n=false:=by unfold Builtin.List.listTooLong;exact m9 (by lia)
def aRe:V->List V->Hp->VK->Prop:=λx vs H Q=>∃l xs y,x=.ref l/\vs=[y]/\H l=some (.lst xs)/\xs.length<sizeLine/\Q .non (upd H l (.lst (xs++[y])))
def aHm:MtM X "list.append" aRe:=by intro d s σ H x m v i Q I c f h;obtain⟨l,o,y,rfl,rfl,b,j,q⟩:=h;cases c;obtain⟨u,rfl,g⟩:=f.one;obtain⟨z,a,n,r,k,e⟩:=I.aNd b;refine call_meets F.slot_list_append ⟨_,e,rfl⟩ F.entry_list_append (F.args_list_append_2 _ _) (PySem.list_append l a.toArray n u (by rw[v8];lia)) ⟨e,?_⟩;refine⟨.non,_,I.lset (its':=a++[u]) b e (by simp) (r.append (.cons g .nil)) ?_,rfl,q⟩;rw[j6,bBO];lia
def aSl:V->List V->Hp->VK->Prop:=λx vs H Q=>∃l b xs zs,x=.ref l/\vs=[.ref b]/\H l=some (.lst xs)/\H b=some (.lst zs)/\xs.length+zs.length<=sizeLine/\Q .non (upd H l (.lst (xs++zs)))
def aTt:MtM X "list.extend" aSl:=by
 intro i s σ H x C v A Q I p k h;obtain⟨l,b,D,B,rfl,rfl,g,o,E,q⟩:=h;cases p;obtain⟨u,rfl,y⟩:=k.one;cases y;obtain⟨z,c,n,r,G,e⟩:=I.aNd g;obtain⟨J,a,m,w,t,j⟩:=I.aNd o;have f:c.toArray.size+a.toArray.size<=sizeLine:=by rw[v8,v8];lia
 have d:¬ (!c.toArray.isEmpty && Builtin.List.listTooLong (c.toArray.size+a.toArray.size))=true:=by rw[aMg f,Bool.and_false];exact bAC
 refine call_meets F.slot_list_extend ⟨_,e,rfl⟩ F.entry_list_extend (F.args_list_extend_2 _ _)
  (AutoSeq1.list_extend_list_list_0 l c.toArray n b a.toArray m d (by rw[v8];lia) (by lia)) ⟨e,j,?_⟩
 refine⟨.non,_,I.lset (its':=c++a) g e (by simp) (r.append w) ?_,rfl,q⟩;rw[j6];lia
def bH9:V->List V->Hp->VK->Prop:=λx vs H Q=>∃l xs y,x=.ref l/\vs=[]/\H l=some (.lst xs)/\xs[xs.length - 1]?=some y/\Q y (upd H l (.lst xs.dropLast))
def bFh:MtM X "list.pop" bH9:=by
 intro i s σ H x t v p Q I j k h;obtain⟨l,w,y,rfl,rfl,d,g,q⟩:=h;cases j;have c:=k.zero;subst c;obtain⟨z,a,n,r,m,e⟩:=I.aNd d;obtain⟨u,f,o⟩:=r.get g;have b:a.toArray[a.toArray.size - 1]?=some u:=by show a.toArray[a.length - 1]?=some u;rw[<-bBP,<-m];exact f
 refine call_meets F.slot_list_pop ⟨_,e,rfl⟩ F.entry_list_pop (F.args_list_pop_1 _) (MeetsSeq.list_pop_last l a.toArray n u b (by rw[v8];lia)) ⟨e,?_⟩;refine⟨y,_,I.lset (its':=a.dropLast) d e ?_ r.dropLast ?_,o,q⟩
 ·rw[v8,List.eraseIdxIfInBounds_toArray,aQm]
 ·rw[bEV];lia
def aNt:V->List V->Hp->VK->Prop:=λx vs H Q=>∃l xs,x=.ref l/\vs=[]/\H l=some (.lst xs)/\Q .non (upd H l (.lst xs.reverse))
def aQo:MtM X "list.reverse" aNt:=by intro d s σ H x k v i Q I f g h;obtain⟨l,m,rfl,rfl,c,q⟩:=h;cases f;have b:=g.zero;subst b;obtain⟨z,a,n,r,j,e⟩:=I.aNd c;refine call_meets F.slot_list_reverse ⟨_,e,rfl⟩ F.entry_list_reverse (F.args_list_reverse_1 _) (AutoSeq1.list_reverse_list_0 l a.toArray n (by rw[v8];lia)) ⟨e,?_⟩;refine⟨.non,_,I.lset (its':=a.reverse) c e (by simp) r.reverse ?_,rfl,q⟩;rw[bEA];lia
def bI7:R2:=λx y H Q=>∃l b xs zs,x=.ref l/\y=.ref b/\H l=some (.lst xs)/\H b=some (.lst zs)/\xs.length+zs.length<=sizeLine/\∀p,H p=none->Q (.ref p) (upd H p (.lst (xs++zs)))
def bC2:OpR X (binaryOp .Add) bI7:=by
 intro f s σ H x y v u Q I k m h;obtain⟨l,b,A,t,rfl,rfl,d,j,C,q⟩:=h;cases k;cases m;obtain⟨z,c,n,r,D,e⟩:=I.aNd d;obtain⟨B,a,w,p,o,g⟩:=I.aNd j;refine PySem.P.add_list e g ?_ (by rw[v8,v8];lia);have i:c.toArray++a.toArray=(c++a).toArray:=by simp
 rw[i];exact⟨.ref _,_,I.lnew (t':=s.toks) (r.append p) (by rw[j6];lia),rfl,q _ I.fresh⟩
def bIx:R2:=λx y H Q=>∃l k xs,x=.ref l/\y=.int k/\H l=some (.lst xs)/\-(2 ^ 63)<=k/\k<2 ^ 63/\xs.length * k.toNat<=sizeLine /\
 ∀p,H p=none->Q (.ref p) (upd H p (.lst (List.replicate k.toNat xs).flatten))
def len_rep {α:Type}(xs:List α)(k:Nat):(List.replicate k xs).flatten.length=k * xs.length:=by
 induction k with
 |zero=>simp
 |succ k ih=>rw[bCJ,bDR,j6,ih,Nat.succ_mul,Nat.add_comm]
def bDj:OpR X (binaryOp .Mult) bIx:=by
 intro A s σ H x y v u Q I E G h;obtain⟨l,k,L,rfl,rfl,w,D,K,p,q⟩:=h;cases E;obtain⟨t,rfl⟩:=G;obtain⟨z,b,n,r,J,e⟩:=I.aNd w;have d:b.toArray.size * k.toNat<=sizeLine:=by rw[v8,<-J];exact p
 have i:¬ b.toArray.size * k.toNat > (2 ^ 63 - 1) / 8:=by
  have:(sizeLine:Nat)<=(2 ^ 63 - 1) / 8:=by decide
  lia
 have f:¬ (!Builtin.List.listFitsIndex k)=true:=by rw[fitsIndex_both D K];exact bAC
 have c:¬ Builtin.List.listTooLong (b.toArray.size * k.toNat)=true:=by rw[aMg d];exact bAC
 have g:List.foldl (λj o=>j++o) #[] (List.replicate (if b.toArray.isEmpty=true then 0 else k.toNat) b.toArray)=(List.replicate k.toNat b).flatten.toArray:=by
  have B:∀m:Nat,List.foldl (λj o=>j++o) #[] (List.replicate m b.toArray)=(List.replicate m b).flatten.toArray:=λm=>by have:=foldl_rep b m [];rw[bEY] at this;exact this
  rw[B];cases b with
  |nil=>simp
  |cons a r'=>rw[if_neg (by simp)]
 refine wpAny_binaryOp_repeat_ref (by decide) ⟨_,e,rfl⟩ (λC=>typeIs_int C k t) noFill_list_mul F.fills_int_mul F.slot_int_rmul repeat_list F.slot_int_index.lookup
  (call_meets F.slot_int_rmul (typeIs_int s k t) F.entry_int_rmul (F.args_int_rmul_2 _ _) (int___rmul___int_list k t l b.toArray n)
   ⟨e,rfl,⟨_,e,rfl⟩,call_meets F.slot_list_mul ⟨_,e,rfl⟩ F.entry_list_mul (F.args_list_mul_2 _ _) (AutoListH.list___mul___list_int_3 l b.toArray n k t f i c) ⟨e,?_⟩⟩)
 rw[g];exact⟨.ref _,_,I.lnew (t':=s.toks) (r.rep k.toNat) (by rw[len_rep,Nat.mul_comm];exact p),rfl,q _ I.fresh⟩
end L2
namespace Att
open PySem PySem.W PySem.Calls PyProof.Rows
def aDq:∀ns vs,WellAll P h vs (ns.map WData.int)->IntsAre vs ns:=by
 intro ns
 induction ns with
 |nil=>intro vs w;rw[List.map_nil] at w;cases w;exact .nil
 |cons n ns ih=>
  intro vs w;rw[bAE] at w;cases w with
  |cons a b=>cases a;exact .cons _ _ (ih _ b)
def aTa {l:OpenLaw}{n:Nat}(hn:l.most=some n){P:Params}{h:Heap}{args:List WData}{vals:List Value}
  (c:l.row.toRowW.claim.pre args=true) (o:WellAll P h vals args) :
  ∃a vs ns,vals=[Value.ref a]/\args=[WData.list (ns.map WData.int)]/\h.get? a=some { cls:=.type "list",data:=.seq vs.toArray }/\IntsAre vs ns/\ns.length<=n:=by
 have g:WShape.hasAll [] args [.list .int]=true:=(pre_splitW c).1;have i:l.pre.holds [] { args:=args }=true:=(pre_splitW c).2;obtain⟨d,r,rfl,k,p⟩:=hasAllW_cons g;obtain rfl:=hasAllW_nil p;obtain⟨s,rfl,j⟩:=hasW_list k;obtain⟨ns,rfl⟩:=items_int j;have b:ns.length<=n:=by
  unfold OpenLaw.pre at i;have e:(WTm.not (.lt (.lit (.int (n:Int))) (.len (.arg 0)))).holds [] { args:=[.list (ns.map .int)] }=true:=by have e:=(holds_andW i).1;rw[hn] at e;exact e
  have f:=condW_of e (w_not (w_lt w_lit (w_len_list (w_arg rfl))));rw[j5] at f;refine Nat.le_of_not_lt λq=>?_;have m:(n:Int)<((ns.length:Nat):Int):=by lia
  first
   |(rw[v9 m] at f;exact absurd f (by decide))
   |(simp at f;lia)
 cases o with
 |cons w1 w2=>
  cases w2;cases w1 with
  |list ho hall=>exact⟨_,_,ns,rfl,rfl,ho,aDq ns _ hall,b⟩
def aUf (l:OpenLaw)(args:List WData):l.row.toRowW.claim.post args (.bool true) args=true:=
 postW_of
  (show WShape.has [] (.bool true) .bool=true by first|rfl|decide|simp[WShape.has,WShape.arms,WShape.armsAll])
  (show (WTm.eq .res (.lit (.bool true))).value [] { args:=args,res:=some (.bool true),after:=args }=some (.bool (true == true)) from w_eq_bool (w_res rfl) w_lit) rfl
def aMd {l:OpenLaw}{n:Nat}{q:Program}{loose:List Str}{XP:(bFT)->Heap->Prop}{YP:World->Heap->Prop}{d:DefRec}
  (hn:l.most=some n) (C:d.params.defaults=[])
  (k:∀(w:World) (s₀ s₁:Shared) (mg mb:bFT) (fa:Addr) (o:Obj) (pm cd doc:Value) (a:Addr) (vs:List Value) (ns:List Int),
   Ground q loose [] XP w s₀ mg mb s₁.heap->YP w s₁.heap ->
   s₁.heap.get? fa=some o->o.data=.func (docDef d.name d.params d.body d.scope pm cd doc)->s₁.heap.CodeRec cd d.name->mg d.name=some (.ref fa) ->
   s₁.heap.get? a=some { cls:=.type "list",data:=.seq vs.toArray }->IntsAre vs ns->ns.length<=n->s₁.gens=#[] ->
   codeAny (model l.prog w) callerA (.call (.ref fa) ⟨[.ref a],[]⟩) (λr s'=>r=.ok (.ret (.bool true))/\OldK s₁.heap s'.heap/\s'.os=s₁.os/\AllBare s'.gens) s₁) :
  WalkO q loose XP YP l.row.toRowW d [] (λf vs=>PySem.call f vs):=by
 intro w s₀ s₁ mg mb G Y fa o pm cd doc F kV z y h m j x t s I e p u i E;obtain rfl:F=.none:=Dflts.none m C;obtain rfl:kV=.none:=Dflts.noKw m;obtain⟨a,vs,ns,rfl,rfl,g,b,c⟩:=aTa hn e i;refine enter_call (bDF (k w s₀ s₁ mg mb fa o pm cd doc a vs ns G Y z (fd_plain y) h j g b c x) λr s' A=>?_);obtain⟨rfl,H,v,D⟩:=A;exact⟨.inl ⟨.bool true,.bool true,[],rfl,λ_=>rfl,.bool true,aUf l _,λ_=>⟨List.Pairwise.nil,λ_ B=>(nomatch B)⟩⟩,H,v,D⟩
end Att
namespace L2
open PySem PySem.Spec PyProof.Rows
theorem aIy:∀{vs:List Value} {ns:List Int},IntsAre vs ns->Vals (ns.map V.int) vs
 |_,_,.nil=>.nil
 |_,_,.cons n t h=>.cons ⟨t,rfl⟩ (aIy h)
def Only (H:Hp):Prop:=∀b,H b=none\/∃o xs,H b=some (.frz o (.lst xs))
def aW8 {P:Program}{w:World}{K:bFQ}{mg mb:bFT}{CX:CXT}{k:Nat}{fa a:Addr}{fd:FuncData}{x:Str}{sp:Sp}{f:Shared}{vs:List Value}{ns:List Int}
  (KX:K.In f.heap) (I:f.heap.Ns mainGlobals mg) (g:f.heap.Ns builtinsNs mb) (a1:∀x:Str,x≠"__name__"->mb x=bootBuiltins x) (S:f.heap.NoLimit) (hg:f.gens=#[])
  (M:f.heap.get? a=some { cls:=.type "list",data:=.seq vs.toArray }) (hi:IntsAre vs ns) (hl:ns.length<=sizeLine) (hr:Room k callerA)
  (F:∀base:Heap,K.In base->base.Ns mainGlobals mg->!iM CX k fa fd [x] sp) (E:∀(s:Shared) (u:Value),BindsTo s fd ⟨[u],[]⟩ [(x,u)])
  (U:∀H:Hp,Only H->SqL K H a (ns.map V.int)->sp [.ref a] H (λv _=>v=.bl true) λ_ _ _=>False)
  (a0:∀H e s',CX [] H f (λ_ _ _=>False) e s'->False) :
  codeAny (model P w) callerA (.call (.ref fa) ⟨[.ref a],[]⟩) (λr s'=>r=.ok (.ret (.bool true))/\OldK f.heap s'.heap/\s'.os=f.os/\AllBare s'.gens) f:=by
 have O:=aIy hi;have B:=hi.length;have j:∀H:Hp,Only H->SqL K H a (ns.map V.int)->HOk P w H f.heap->(∀b,H b≠none->b=a)->(H a≠none->K.lookup a=none) ->
   codeAny (model P w) callerA (.call (.ref fa) ⟨[.ref a],[]⟩) (λr s'=>r=.ok (.ret (.bool true))/\OldK f.heap s'.heap/\s'.os=f.os/\AllBare s'.gens) f:=by
  intro H R hS t N hK;have c:∀{b:Addr} {o:Obj},f.heap.get? b=some o->H b=none->(aLh f.heap H).get? b=some o:=λe n=>aV9 e n;have J:∀{b:Addr} {o:Obj} {D:Array DictEntry} {C:Nat},f.heap.get? b=some o->o.data=.dict D C->H b=none:=λ{b o D C} e d=>by
   cases q:H b with
   |none=>rfl
   |some u=>have G:=N b (by rw[q];simp);subst G;rw[M] at e;cases e;have Y:=d;cases Y
  have i:∀{b:Addr} {m:bFT},f.heap.Ns b m->(aLh f.heap H).Ns b m:=λ{b m} ⟨o,D,C,e,d,r⟩=>⟨o,D,C,c e (J e d),d,r⟩;have A:K.In (aLh f.heap H):=λb o e=>c (KX b o e) (by
   cases q:H b with
   |none=>rfl
   |some u=>have G:=N b (by rw[q];simp);subst G;rw[hK (by rw[q];simp)] at e;cases e)
  have hM:Mod K mg (aLh f.heap H):=⟨A,i I,⟨mb,i g,a1⟩,let ⟨mc,h1,h2⟩:=S;⟨mc,i h1,h2⟩⟩;have e0:aGv P w K mg (aLh f.heap H) callerA [] f H:=⟨rfl,hM,λb o e=>bBk e,Nat.le_of_eq (aT8 _ _),trivial,λb g=>absurd (show b∈([]:List Addr) from g) (by simp),t,.of_eq hg⟩;refine bDF ((F _ A (i I)).run callerA [] f H ⟨[.ref a],[]⟩ [.ref a] [.ref a] _ _ hr e0 (E f (.ref a)) (.cons rfl .nil) (U H R hS)) λr s' h=>?_;cases r with
  |error e=>exact (a0 H e s' h).elim
  |ok fl=>
   cases fl with
   |next=>exact False.elim h
   |brk=>exact False.elim h
   |cont=>exact False.elim h
   |ret u=>
    obtain⟨v,H',os,y,T,p,r',q⟩:=h;have q':=q;subst q';obtain rfl:u=Value.bool true:=r';refine⟨rfl,OldK.of_keep λb o e=>?_,os,y⟩;cases q:H b with
    |none=>exact T.keep b o e q (by intro z;exact absurd (show b∈([]:List Addr) from z) (by simp)) (by simp)
    |some u=>
     rcases R b with z|⟨W,xs,z⟩
     ·rw[q] at z;cases z
     ·have Z:=T.frzs b W _ z;obtain⟨Q,_⟩:=t b _ z;obtain⟨X,_⟩:=p b _ Z;rw[e] at Q;cases Q;exact X
 cases L:K.lookup a with
 |some o=>have e:=KX a o L;rw[M] at e;cases e;refine j (λ_=>none) (λ_=>.inl rfl) (.inr ⟨_,vs.toArray,_,L,rfl,rfl,rfl,by rw[v8,B];exact hl,by simpa using O⟩) (λb u z=>by have l:=z;cases l) (λb z=>absurd rfl z) λz=>absurd rfl z
 |none=>
  refine j (λb=>if b=a then some (.frz { cls:=.type "list",data:=.seq vs.toArray } (.lst (ns.map V.int))) else none) (λb=>?_) (.inl (.inr ⟨{ cls:=.type "list",data:=.seq vs.toArray },if_pos rfl⟩)) (λb u z=>?_) (λb z=>?_) λ_=>L
  ·by_cases g:b=a
   ·exact .inr ⟨_,_,if_pos g⟩
   ·exact .inl (if_neg g)
  ·by_cases g:b=a
   ·have l:=(if_pos g).symm.trans z;cases l;subst g;exact⟨M,by rw[j5];exact hl,vs,_,O,M⟩
   ·have l:=(if_neg g).symm.trans z;cases l
  ·by_cases g:b=a
   ·exact g
   ·exact absurd (if_neg g) z
abbrev KOf {K:bFQ}{h:Heap}(_:K.In h):bFQ:=K
def aZ0 {l:PySem.W.OpenLaw}{n k:Nat}{q:Program}{loose:List Str}{XP:(bFT)->Heap->Prop}{YP:World->Heap->Prop}{d:DefRec}{K:Params->bFQ}{CX:World->CXT}{sp:World->Sp}{x:Str}
  (hn:l.most=some n) (B:n<=sizeLine) (J:d.params.defaults=[]) (R:Room k callerA)
  (M:∀(w:World) (h:Heap),YP w h->(K w.params).In h)
  (F:∀(w:World) (mg:bFT) (fa:Addr) (h:Heap),(K w.params).In h->h.Ns mainGlobals mg->mg d.name=some (.ref fa) ->
   ∃fd:FuncData,(∀(s:Shared) (u:Value),BindsTo s fd ⟨[u],[]⟩ [(x,u)]) /\
    ∀base:Heap,(K w.params).In base->base.Ns mainGlobals mg->iM l.prog w (K w.params) mg base (CX w) k fa fd [x] (sp w))
  (r:∀(w:World) (H:Hp) (a:Addr) (ns:List Int),ns.length<=n->Only H->SqL (K w.params) H a (ns.map V.int)->sp w [.ref a] H (λv _=>v=.bl true) λ_ _ _=>False)
  (C:∀(w:World) (H:Hp) (s:Shared) (e:Value) (s':Shared),CX w [] H s (λ_ _ _=>False) e s'->False) :
  PySem.W.WalkO q loose XP YP l.row.toRowW d [] (λf vs=>PySem.call f vs):=by
 refine Att.aMd hn J λw P D mg U fa o Q S y a vs ns G Y O N A m j i c z=>?_;have p:=M w _ Y;obtain⟨fd,t,I⟩:=F w mg fa _ p G.T.g m;exact aW8 p G.T.g G.T.b G.T.builtins G.T.nolimit z j i (bAF c B) R I t (λH E L=>r w H a ns c E L) λH e s'=>C w H D e s'
def aXi {l:PySem.W.OpenLaw}{n k:Nat}{q:Program}{loose:List Str}{XP:(bFT)->Heap->Prop}{YP:World->Heap->Prop}{d:DefRec}{K:Params->bFQ}{CX:CXT}{sp:bFQ->Sp}{x:Str}
  (hn:l.most=some n) (o:n<=sizeLine) (j:d.params.defaults=[]) (r:Room k callerA)
  (p:∀(w:World) (h:Heap),YP w h->(K w.params).In h)
  (F:∀(w:World) (mg:bFT) (fa:Addr) (h:Heap),(K w.params).In h->h.Ns mainGlobals mg->mg d.name=some (.ref fa) ->
   ∃fd:FuncData,(∀(s:Shared) (u:Value),BindsTo s fd ⟨[u],[]⟩ [(x,u)]) /\
    ∀base:Heap,(K w.params).In base->base.Ns mainGlobals mg->iM l.prog w (K w.params) mg base CX k fa fd [x] (sp (K w.params)))
  (i:∀(K:bFQ) (H:Hp) (a:Addr) (ns:List Int),ns.length<=n->Only H->SqL K H a (ns.map V.int)->sp K [.ref a] H (λv _=>v=.bl true) λ_ _ _=>False)
  (b:∀(H:Hp) (s:Shared) (e:Value) (s':Shared),CX [] H s (λ_ _ _=>False) e s'->False) :
  PySem.W.WalkO q loose XP YP l.row.toRowW d [] (λf vs=>PySem.call f vs):=
 aZ0 hn o j r p F (λw H a ns g m c=>i (K w.params) H a ns g m c) λ_ H s e s'=>b H s e s'
def inClass (s:Stmt)(j:Nat):Stmt:=match s with
 |.ClassDef _ _ _ body _ _ _ _ _ _ _=>body.getD j (.Pass ⟨0,0,0,0⟩)
 |_=>.Pass ⟨0,0,0,0⟩
def oG (s:Stmt):Arguments:=match s with
 |.FunctionDef _ a _ _ _ _ _ _ _ _=>a
 |_=>{ posonlyargs:=[],args:=[],vararg:=none,kwonlyargs:=[],kw_defaults:=[],kwarg:=none,defaults:=[] }
def dN (s:Stmt):List Stmt:=match s with
 |.FunctionDef _ _ b _ _ _ _ _ _ _=>b
 |_=>[]
def aC (s:Stmt):Scope:=match s with
 |.FunctionDef _ _ _ _ _ _ sc _ _ _=>sc
 |_=>{ kind:=.function,names:=[],isGenerator:=false,isCoroutine:=false }
abbrev CX0:CXT:=λ_ _ _ _ _ _=>False
abbrev E0:XK:=λ_ _ _=>False
def aGh:oK CX0 X E0:=λ_ _ _ _ _ _ _ h=>h.elim
structure Fun (K:bFQ)(x qual:Str)(st:Stmt)(f:Addr)(fd:FuncData):Prop where
 ex:∃(oc:Value) (od:Option Addr) (kV doc pm:Value) (an:Option Addr) (cdv ct:Value) (osl:Array (Option Value)),
  fd=PySem.W.fnOf x qual (oG st) (dN st) (aC st) .none kV doc pm an cdv ct/\K.lookup f=some ⟨oc,od,.func fd,osl⟩/\PySem.W.codeIn K cdv qual=true
 kp:PySem.W.keepIn K (.ref f)=true
section
variable {P:Program}{w:World}{K:bFQ}{mg:bFT}{base:Heap}
def Fun.ok {x qual:Str}{st:Stmt}{f:Addr}{fd:FuncData}{N ps:List Str}{k:Nat}{sp:Sp}(F:Fun K x qual st f fd)(S:aM N ps (aC st))(j:∀vs H Q E,sp vs H Q E->vs.length=ps.length)
  (b:∀(cdv:Value) (A:Around) (outer:List Env) (s:Shared) (H:Hp) (vs:List V) (Q:VK) (E:XK),Room k (A.deeper (envOfC qual (aC st) s.heap.objs.size f cdv))->sp vs H Q E ->
   ∃t,PSs (uT CX0 P w K mg base N qual (aC st) f cdv A outer s H E).nox (dN st) t/\t { nx:=λ_ H'=>Q .non H',rt:=Q } (start N vs) H):!iM CX0 (k+1) f fd ps sp:=by
 obtain⟨m,p,kV,e,l,n,cdv,o,g,rfl,i,c⟩:=F.ex;refine aVo i c S j λA outer s H vs Q E d a=>?_;obtain⟨t,h,q⟩:=b cdv A outer s H vs Q E d a;exact⟨t,h.nox,q⟩
def Fun.binds {x qual:Str}{st:Stmt}{f:Addr}{fd:FuncData}{ps:List Str}(F:Fun K x qual st f fd)
  (h:∀(kV doc pm:Value) (an:Option Addr) (cdv ct:Value) (us:List Value),us.length=ps.length->bindArgs (PySem.W.fnOf x qual (oG st) (dN st) (aC st) .none kV doc pm an cdv ct) ⟨us,[]⟩=pure (ps.zip us)):Binds K fd ps []:=by
 obtain⟨c,d,kV,doc,pm,an,cdv,ct,a,rfl,e,b⟩:=F.ex;exact .all (h kV doc pm an cdv ct)
def aCm {x qual:Str}{st:Stmt}{f:Addr}{g:Value}{h i:Option Addr}{a:Array (Option Value)}{kV b e d ct:Value}(l:K.lookup f=some ⟨g,h,.func (PySem.W.fnOf x qual (oG st) (dN st) (aC st) .none kV b e i d ct),a⟩)
  (c:PySem.W.codeIn K d qual=true) (k:PySem.W.keepIn K (.ref f)=true):Fun K x qual st f (PySem.W.fnOf x qual (oG st) (dN st) (aC st) .none kV b e i d ct):=⟨⟨g,h,kV,b,e,i,d,ct,a,rfl,l,c⟩,k⟩
end
def aOd (a:Room k A):A.units+1<cLine:=bEI (Nat.add_le_add_left (by decide:1<=64) _) a.units
def eG (h:n<=1000):n<sizeLine:=bEI h (by decide)
def pv (i:Nat)(b:X.N[i]?=some x:=by rfl)(c:Vis X.env.scope x:=by trivial)(hd:(x == ("__debug__":Str))=false:=by decide)
  (a:(x == ("__classdict__":Str))=false:=by decide):PE X (.Name x pos) (iK i):=bDc b c hd a
def aZ {A B:Prop}(h:B):if false=true then A else B:=by rw[if_neg bAC];exact h
def bV {A B:Prop}(h:A):if true=true then A else B:=by rw[if_pos rfl];exact h
def qY {c A B:Prop}[Decidable c](a:c->A)(b:¬ c->B):if c then A else B:=by
 by_cases h:c
 ·rw[if_pos h];exact a h
 ·rw[if_neg h];exact b h
def Same (H H':Hp):Prop:=∀b o,H b=some o->H' b=some o
def Same.refl (H:Hp):Same H H:=λ_ _ h=>h
def Same.trans (a:Same H H1)(b:Same H1 H2):Same H H2:=λc o h=>b c o (a c o h)
def Same.free (e:Same H H')(h:H' l=Option.none):H l=Option.none:=by
 cases q:H l with
 |none=>rfl
 |some o=>rw[e l o q] at h;cases h
def Same.seq {K:bFQ}{H H':Hp}{a:Addr}{xs:List V}(e:Same H H')(h:SqL K H a xs):SqL K H' a xs:=by
 rcases h with (h|⟨o,h⟩)|h
 ·exact .inl (.inl (e _ _ h))
 ·exact .inl (.inr ⟨o,e _ _ h⟩)
 ·exact .inr h
end L2
namespace PySem
open Sem (wp)
section
variable {M:Model}{prog:Program}{w:World}{A:Around}{E:bFR}{R:Result->Shared->Prop}{h:Heap}{g:Array GenState}{d:Drawn}{t:Nat}{os:OsState}
variable {nm q:Str}{C N:Addr}{bs bm bmN:List Value}{hdct:Bool}{sn:List Str}{sub:List Value}{ab:Bool}{col:Option Bool}{dd:Option Addr}{k0 k1 k2 k3 k5:Option Value}{Bn newId inN:String}
def aMa (e:ExcBaseFacts Bn newId inN bmN)(f:bm.contains (.type Bn)=true){rest:List Value}{Q:Unit->Shared->Prop}(b:h.get? C=some (excClassObj nm q C N bs bm hdct sn sub ab col dd k0 k1 k2 k3 k5 newId))
  (i:Q () ⟨h,g,d,t,os⟩):wpAny M A (checkBuiltinCall newId ⟨.ref C::rest,[]⟩) Q E ⟨h,g,d,t,os⟩:=by
 have a:(Value.ref C::bm).contains (.type Bn)=true:=by rw[bBN,f,bDG]
 have c:=e.noStar;simp only[checkBuiltinCall,e.newKind,e.newSplit,e.newRow]
 repeat (first|refine bBJ b ?_|(refine bCX b ?_;rw[a])|refine wpAny_staticBase_exc b ?_|refine wpAny_madeBy_exc b ?_|simp only[bne_self_eq_false,bDB,if_false]|wp_step)
 exact i
def bHz (f:ExcBaseFacts Bn newId inN bmN)(k:bm.contains (.type Bn)=true)(m:bm.contains (.type "AttributeError")=false)(l:bm.contains (.type "NameError")=false){rest:List Value}(j:h.get? C=some (excClassObj nm q C N bs bm hdct sn sub ab col dd k0 k1 k2 k3 k5 newId))
  (n:R (.ok (.ret (.ref (h.objs.size+1)))) ⟨(h.push { cls:=.type "tuple",data:=.seq rest.toArray }).push
   { cls:=.ref C,data:=.fields #[.ref h.objs.size,.none,.none,.none,.bool false,.none] },g,d,t,os⟩) (hrest:rest.length<=sizeLine:=by size_fits) :
  codeAny (model prog w) A (.builtin newId ⟨.ref C::rest,[]⟩) R ⟨h,g,d,t,os⟩:=by
 have a:=f.ends;have b:(Value.ref C::bm).contains (.type Bn)=true:=by rw[bBN,k,bDG]
 have e:(Value.ref C::bm).contains (.type "AttributeError")=false:=by rw[bBN,m];rfl
 have i:(Value.ref C::bm).contains (.type "NameError")=false:=by rw[bBN,l];rfl
 refine codeAny_builtinAt f.entry ?_;unfold Builtin.«BaseException.__new__»;refine wpAt_bind ?_;refine wpAt_bind (wpAt_stack λp c=>wpAt_of_wpAny ?_);wp_walk;refine wpAt_of_wpAny ?_;rw[f.owner]
 repeat (first|with_reducible refine wpAny_madeHere_exc f.canon j ?_|with_reducible refine bBJ j ?_|(with_reducible refine bCX j ?_;first|rw[b]|rw[e]|rw[i])|wp_step)
 rw[bCR];exact n
end
end PySem
namespace L2
open PySem PySem.Spec PyProof.Rows
def aGo:List Value->Bool
 |.ref _::r=>aGo r
 |l=>l == [.type "ValueError",.type "Exception",.type "BaseException",.type "object"]
theorem aA2 (a:Value):∀{l:List Value},aGo l=true->refuseLoop a "__setattr__" l=pure ()
 |[],e=>absurd e (by decide)
 |.ref c::r,e=>by rw[refuseLoop_ref];exact aA2 a e
 |.none::r,e|.bool _::r,e|.int _ _::r,e|.str _ _::r,e|.float _ _::r,e|.bytes _ _::r,e|.builtin _::r,e|.type _::r,e=>by have q:=beq_iff_eq.mp e;rw[q];exact PySem.F.store_ValueError.passes a
structure XC (K:bFQ)(C fI:Addr):Prop where
 at_:∃nm q N bs bm sn sub ab col dd k0 k1 k2 k3 k5,K.lookup C=some (excClassObj nm q C N bs bm true sn sub ab col dd k0 k1 k2 k3 k5 "ValueError.__new__")/\bm.contains (.type "ValueError")=true /\
  bm.contains (.type "AttributeError")=false/\bm.contains (.type "NameError")=false/\bm.contains (.type "BaseException")=true
 init:PySem.W.findIn K (.ref C) "__init__"=some (some (.ref fI))
 fn:PySem.W.typeIn K (.ref fI)=some (.type "function")
 row:(PySem.W.clsIn K C).any (λcd=>aGo cd.mro && cd.hasDict)=true
 sa:PySem.W.findIn K (.ref C) "__setattr__"=some (some (.builtin "object.__setattr__"))
 ga:PySem.W.findIn K (.ref C) "__getattribute__"=some (some (.builtin "BaseException.__getattribute__"))
 hook:PySem.W.findIn K (.ref C) "__getattr__"=some none
 act:PySem.W.findIn K (.ref C) "act"=some none
 cls:PySem.W.findIn K (.ref C) "__class__"=some (some (.builtin "object.__class__"))
section
variable {prog:Program}{w:World}{A:Around}{E:bFR}{h:Heap}{g:Array GenState}{d:Drawn}{t:Nat}{os:OsState}{K:bFQ}{C fI:Addr}
def aMu (X:K.In h)(c:XC K C fI){a:List Value}{Q:Fin->Shared->Prop}
  (T:∀h' e,Heap.MadeExcOf h h' e (.ref C) a->e=h.objs.size+1->h'.get? h.objs.size=some { cls:=.type "tuple",data:=.seq a.toArray } ->
   wpAny (model prog w) A (call (.ref fI) (.ref e::a)) (λr s'=>r=.none/\Q (.done (.ret (.ref e))) s') E ⟨h',g,d,t,os⟩) (m:a.length<=sizeLine) :
  wpAny (model prog w) A (Builtin.«type.__call__» ⟨.ref C::a,[]⟩) Q E ⟨h,g,d,t,os⟩:=by
 obtain⟨⟨J,q,N,Y,z,P,I,R,H,S,U,M,Z,V,L,v,n,s,u,O⟩,B,y,_⟩:=c;have j:=X _ _ v;have F:=PySem.F.excBase_ValueError
 repeat (first|with_reducible refine bBJ j ?_|with_reducible refine wpAny_madeBy_exc j ?_|wp_step)
 refine codeAny_call_builtin_code (Code.quiet_builtin _ F.quiet) (aMa F n j ?_);refine bHz F n s u j ?_ m;show wpAny _ _ _ _ _ _;have kp:∀b o,h.get? b=some o->((h.push { cls:=.type "tuple",data:=.seq a.toArray }).push { cls:=.ref C,data:=.fields #[.ref h.objs.size,.none,.none,.none,.bool false,.none] }).get? b=some o:=
  λb o e=>j4 _ (j4 _ e)
 have k:=kp _ _ j;have p:=X.keeps kp;have i:((h.push { cls:=.type "tuple",data:=.seq a.toArray }).push
   { cls:=.ref C,data:=.fields #[.ref h.objs.size,.none,.none,.none,.bool false,.none] }).get? (h.objs.size+1)=some
   { cls:=.ref C,data:=.fields #[.ref h.objs.size,.none,.none,.none,.bool false,.none] }:=by heap_get
 have f:((h.push { cls:=.type "tuple",data:=.seq a.toArray }).push
   { cls:=.ref C,data:=.fields #[.ref h.objs.size,.none,.none,.none,.bool false,.none] }).get? h.objs.size=some { cls:=.type "tuple",data:=.seq a.toArray }:=j4 _ (Heap.get?_push_at rfl rfl)
 have l:(Value.ref C::z).contains (.ref C)=true:=by simp
 unfold isInstance
 repeat (first|with_reducible refine bBJ i ?_|(with_reducible refine bCX k ?_;rw[l])|wp_step)
 show wpAny _ _ (typeLookup (.ref C) _) _ _ _;refine (PySem.W.looks_findIn p B).at ?_;refine bBM (c7 ?_);unfold bindSpecial;refine c7 ((PySem.W.looks_typeIn p y).at ?_);rw[if_pos (by decide)];refine j9 (c7 (bBB (T _ (h.objs.size+1) ⟨kp,bET (bEK _),h.objs.size,i,bET (v7 _),f⟩ rfl f) (λr s' D=>?_) λ_ _ x=>x));obtain⟨rfl,G⟩:=D;wp_walk;exact G
def x_call (X:K.In h)(c:XC K C fI)
  (M:∀h' e,Heap.MadeExcOf h h' e (.ref C) rest->e=h.objs.size+1->h'.get? h.objs.size=some { cls:=.type "tuple",data:=.seq rest.toArray } ->
   wpAny (model prog w) (A.under (.builtin "type.__call__" ⟨.ref C::rest,[]⟩)) (call (.ref fI) (.ref e::rest)) (λr s'=>r=.none/\Q (.ref e) s') E ⟨h',g,d,t,os⟩) (b:rest.length<=sizeLine) :
  wpAny (model prog w) A (call (.ref C) rest) Q E ⟨h,g,d,t,os⟩:=by
 obtain⟨p,q,N,L,u,F,l,G,k,I,n,B,O,o,y,j,J,z,H,D⟩:=c.at_;have a:=X _ _ j;have x:=tc_lookup;have s:=tc_bind (.ref C);have v:(⟨h,g,d,t,os⟩:Shared).TypeIs (.ref C) "type":=⟨_,a,rfl⟩;refine bDM (codeAny_of_tree ?_)
 repeat (any_goals (first|assumption|with_reducible refine bBJ a ?_|wp_step))
 refine⟨rfl,?_⟩;refine codeAny_call_builtin_at (Code.quiet_builtin _ (by trivial)) entry_typeCall (wpAny_check_type_call_sub a (aMu X c (λh' e f i m=>?_) b));exact M h' e f i m
end
def cxA:Addr:=56
def Sz (C:Addr)(vs:Array Value):Prop:=vs.size=6/\(vs[2]?=some .none\/C=cxA)
def XO (e C:Addr)(d:Option Addr):HO:=.ext λh=>∃vs:Array Value,h.get? e=some { cls:=.ref C,dict:=d,data:=.fields vs }/\Sz C vs/\vs[1]?=some .none
def XO.at (x:HOk P w H h)(q:H e=some (XO e C d)):∃vs:Array Value,h.get? e=some { cls:=.ref C,dict:=d,data:=.fields vs }/\Sz C vs/\vs[1]?=some .none:=(x e _ q).1
def XO.ok (q:h.get? e=some { cls:=.ref C,dict:=d,data:=.fields vs })(z:Sz C vs)(n:vs[1]?=some .none):iJ P w H h e (XO e C d):=
 ⟨⟨vs,q,z,n⟩,⟨_,q⟩,λg i ⟨f,a,b,c⟩ k=>⟨f,k _ a,b,c⟩⟩
def bAj (K:bFQ):PySem.W.findCls K (.type "ValueError") (.type "type") "__init__"=some (.val (.builtin "ValueError.__init__")):=
 show PySem.W.findCls [] (.type "ValueError") (.type "type") "__init__"=some (.val (.builtin "ValueError.__init__")) by kernel_rfl
section
variable {prog:Program}{w:World}{A:Around}{E:bFR}{s:Shared}{K:bFQ}{C fI e:Addr}
def bFv (X:K.In s.heap)(c:XC K C fI)(l:s.heap.get? e=some { cls:=.ref C,dict:=dx,data:=.fields vs,slots:=sl })(R:0<vs.size)(P:vs[0]?=some u0)(S:rest.length<=sizeLine)
  (h:Q .none { s with heap:=(s.heap.push { cls:=.type "tuple",data:=.seq rest.toArray }).update e (Obj.mapFields (·.setIfInBounds 0 (.ref s.heap.objs.size))) }) :
  wpAny (model prog w) A (call (.builtin "ValueError.__init__") (.ref e::rest)) Q E s:=by
 obtain⟨v,q,N,U,p,H,u,I,r,L,M,D,V,O,y,m,o,z,J,G⟩:=c.at_;have k:=X _ _ m;have F:=PySem.F.excBase_ValueError;obtain⟨B,g,d,t,T⟩:=s;have j:(Value.ref C::p).contains (.type "ValueError")=true:=by rw[bBN,o,bDG]
 refine bDM (bCS F.init.plain F.initEntry ?_);have i:=F.noStar;simp only[checkBuiltinCall,F.initKind,F.initSplit,F.initRow]
 repeat (first|with_reducible refine bBJ l ?_|with_reducible refine bBJ k ?_|(with_reducible refine bCX k ?_;rw[j])|wp_step)
 refine bED ?_;rw[show ∀a b n,Bind.check ⟨.positional,"*","ValueError",.self,[⟨"args",.varPos,false⟩]⟩ a b n (List.map (λx=>x.fst) ({ pos:=Value.ref e::rest }:Args).kw)=pure () from
  λa b n=>check_star_args _ _ _ _ _ _]
 refine j9 ?_;unfold Builtin.«BaseException.__init__» newTuple;refine c7 (bBE ?_ (by show rest.toArray.size<=sizeLine;rw[v8];exact S));have f:=j4 { cls:=.type "tuple",data:=.seq rest.toArray } l;refine c7 ?_;unfold Builtin.BaseException.bexcPut;refine c7 (bAR f rfl P ?_);refine c7 (bCT f rfl R ?_)
 split
 ·exact wpAny_letGo (j9 h)
 ·exact j9 (j9 h)
end
open PySem PySem.Spec PyProof.Rows Builtin Builtin.ObjectAttr
section
variable {prog:Program}{w:World}{A:Around}{E:bFR}{s:Shared}{K:bFQ}{C fI e:Addr}
def bBb (X:K.In s.heap)(c:XC K C fI){vs:Array Value}{v:Value}{Q:Unit->Shared->Prop}(j:s.heap.get? e=some { cls:=.ref C,data:=.fields vs })
  (Z:∀h' t',h'.get? e=some { cls:=.ref C,dict:=some s.heap.objs.size,data:=.fields vs }->h'.Ns1 s.heap.objs.size (λy=>if y = "act" then some v else none) ->
   (∀b o,b≠e->s.heap.get? b=some o->h'.get? b=some o)->Q () { s with heap:=h',toks:=t' }) :
  wpAny (model prog w) A (setAttr (.ref e) "act" v) Q E s:=by
 have I:PySem.W.InstAt s.heap e { cls:=.ref C,data:=.fields vs } C none:=⟨j,rfl,rfl,trivial⟩;refine PySem.W.set_plain X I c.sa ?_;obtain⟨V,D,M⟩:=PySem.W.any_some c.row;obtain⟨B,T⟩:=Bool.and_eq_true_iff.mp M;have m:=PySem.F.store_object;have SV:=PySem.F.store_ValueError;have U:PySem.W.Looks (model prog w) s.heap (mroOf (.ref C)) V.mro:=(PySem.W.looks_clsIn X D).andThen .now;have f:∀{l:List Value},aGo l=true->l.contains (.type "object")=true/\l.isEmpty=false:=by
  intro l
  induction l with
  |nil=>intro z;exact absurd z (by decide)
  |cons a r ih=>
   intro z;refine⟨?_,rfl⟩;cases a with
   |ref x=>rw[bBN,(ih z).1,bDG]
   |_=>have q:=beq_iff_eq.mp z;rw[q];decide +kernel
 have N:PySem.W.Looks (model prog w) s.heap (isInstance (.ref e) (.type "object")) true:=I.type.andThen (PySem.W.looks_mroIn X (by unfold PySem.W.mroIn;rw[D,bBH,if_neg (by rw[(f B).2];decide),(f B).1]));refine bCS m.slot.plain m.entry (@PySem.W.check_slot (model prog w) _ _ { s with toks:=s.toks+1 } "object.__setattr__" "object" "__setattr__" (.ref e) [.str "act" s.toks,v] [] _ m.kind m.split N (m.args (.ref e) (.str "act" s.toks) v) ?_);rw[PySem.W.osa_eq,refuse_eq];refine c7 (c7 (I.type _ _ _ _ (λ_ _ e=>e) (c7 (U _ _ _ _ (λ_ _ e=>e) ?_))));rw[aA2 _ B];refine j9 (c7 (I.type _ _ _ _ (λ_ _ e=>e) (c7 (PySem.W.looks_findIn X c.act _ _ _ _ (λ_ _ e=>e) (c7 ?_)))));refine j9 ?_;dsimp only;obtain⟨h,g,d,t,os⟩:=s;dsimp only at *;unfold storeInOwnDict;have n:e≠h.objs.size:=bAI (bAA j);have k:(h.push { cls:=.type "dict",data:=.dict #[] }).get? e=some { cls:=.ref C,data:=.fields vs }:=j4 _ j;refine c7 (j9 (c7 ?_));unfold ownDictForStores instanceDict;refine c7 (wpAny_loadPart j ?_);dsimp only;refine c7 ((PySem.W.looks_clsIn X D) _ _ _ _ (λ_ _ e=>e) ?_);rw[T,if_neg (by decide),if_neg (by simp[typeHasDict])];refine c7 (wpAny_alloc' ?_);refine c7 (wpAny_update' k ?_);refine j9 ?_;have p:((h.push { cls:=.type "dict",data:=.dict #[] }).update e λo=>{ cls:=o.cls,dict:=some h.objs.size,data:=o.data,slots:=o.slots }).get? h.objs.size
   = some { cls:=.type "dict",data:=.dict #[] }:=
  (Heap.get?_update_ne _ _ _ _ n.symm).trans (Heap.get?_push_at rfl rfl)
 have L:((h.push { cls:=.type "dict",data:=.dict #[] }).update e λo=>{ cls:=o.cls,dict:=some h.objs.size,data:=o.data,slots:=o.slots }).Ns h.objs.size (λ_=>none):=
  ⟨_,#[],_,p,rfl,λe j=>absurd j (by simp),λ_=>rfl⟩
 show wpAny _ _ (storeInDict h.objs.size (.str "act" _) "act" v) _ _ _;unfold storeInDict newKeyGuard;refine c7 (j9 (c7 (wpAny_nsSet1 (Heap.Ns1.of_empty L) λh' i O=>?_)));obtain⟨oD,R,S,H,G,u⟩:=i.count (Within.cons "act" v Within.nil);refine c7 (wpAny_lookBehind H (by rw[G];exact pastItsLine_dict (bAF u (by rw[d9,bCD,sizeLine_eq];lia))) ?_);refine j9 ?_;refine Z h' _ ?_ i λb Y J P=>(O.2 b (bAI (bAA P))).trans ((Heap.get?_update_ne _ _ _ _ J).trans (j4 _ P));exact (O.2 e n).trans (bAY _ k rfl)
def x_load (X:K.In s.heap)(c:XC K C fI){vs:Array Value}{dx:Addr}{v:Value}{mA:bFT}{n:Bool}{Q:bFR}(p:s.heap.get? e=some { cls:=.ref C,dict:=some dx,data:=.fields vs })
  (hn:s.heap.Ns1 dx mA) (Z:mA "act"=some v) (hh:PySem.W.handedIn v=true) (hq:Q v { s with toks:=s.toks+1 }) :
  wpAny (model prog w) A (getAttr (.ref e) "act" n) Q E s:=by
 obtain⟨H,a,m⟩:=PySem.W.any_some c.row;obtain⟨ho,u⟩:=Bool.and_eq_true_iff.mp m;obtain⟨h,g,d,t,M⟩:=s;have j:(Value.builtin "BaseException.__getattribute__" == Value.builtin "object.__getattribute__")=false:=by trivial
 have T:PySem.W.Looks (model prog w) h (typeOf (.ref e)) (.ref C):=(PySem.W.Looks.ld p).andThen .now;unfold getAttr;refine c7 (wpAny_mkText ?_);unfold getAttrBy;refine bBM (c7 (T.at (c7 ((PySem.W.looks_findIn X c.ga).at ?_))));dsimp only;rw[show (onTheHeap (Value.ref C) && Value.builtin "BaseException.__getattribute__" == Value.builtin "object.__getattribute__")=false by rw[j];rfl,if_neg (by decide)];unfold getAttrByItsOwn hookBefore;rw[if_pos (show onTheHeap (Value.ref C)=true from rfl)];refine c7 ((PySem.W.looks_findIn X c.hook).at (c7 (bEE (bBM ?_))));unfold callGetattribute;rw[show (n && onTheHeap (Value.builtin "BaseException.__getattribute__"))=false from Bool.and_false _,if_neg (by decide)];unfold boundAndCalled;have o:=PySem.F.attr_ValueError.ga;rw[o.bind];refine c7 (j9 ?_);show wpAny _ _ (call (.builtin "BaseException.__getattribute__") [.ref e,.str "act" t]) _ _ _;obtain⟨P,q,N,bs,G,Y,O,ab,J,dd,k0,V,k2,k3,R,x,hB,S,hN,r⟩:=c.at_;have k:H.mro=.ref C::G:=by unfold PySem.W.clsIn at a;rw[x] at a;cases a;rfl
 have z:PySem.W.Looks (model prog w) h (isInstance (.ref e) (.type "BaseException")) true:=T.andThen (PySem.W.looks_mroIn X (by unfold PySem.W.mroIn;rw[a,bBH,k,if_neg (by simp),bBN,r,bDG]));refine bDM (bCS o.plain PySem.F.entry_bexc_ga (@PySem.W.check_slot (model prog w) _ _ ⟨h,g,d,t+1,M⟩ "BaseException.__getattribute__" "BaseException" "__getattribute__" (.ref e) [.str "act" t] [] _ (by trivial) (by trivial) z (PySem.F.args_bexc_ga (.ref e) (.str "act" t)) ?_));obtain⟨f,es,U,i,l,-,-,D⟩:=hn;have I:PySem.W.InstAt h e { cls:=.ref C,dict:=some dx,data:=.fields vs } C (some f):=⟨p,rfl,rfl,i⟩;have L:PySem.W.lookIn "act" f=some (some v):=by have q:=(D "act").trans Z;unfold nsFind findBy at q;rw[<-Array.find?_toList] at q;unfold PySem.W.lookIn;rw[l];dsimp only;obtain⟨en,B,y⟩:=Option.map_eq_some_iff.mp q;rw[B];dsimp only;rw[y]
 have b:PySem.W.findObj K C (some f) "act"=some (.value v):=by unfold PySem.W.findObj;rw[a,bBH,c.act,bBH];dsimp only;rw[bBH,bBH];unfold PySem.W.ownOf;rw[u,if_pos rfl];dsimp only;rw[L];rfl
 refine c7 (j9 (c7 (j9 (c7 (T.at (c7 ((PySem.W.looks_find X I b).at ?_)))))));refine j9 ?_;show wpAny _ _ (handedOut v) _ _ _;rw[PySem.W.handedOut_of hh];exact j9 hq
def bB5 (c:XC K C fI):∃cd bm,PySem.W.clsIn K C=some cd/\cd.mro=.ref C::bm/\bm.contains (.type "BaseException")=true/\aGo cd.mro=true/\cd.hasDict=true/\bm.contains (.type "AttributeError")=false:=by obtain⟨cd,a,b⟩:=PySem.W.any_some c.row;obtain⟨h,f⟩:=Bool.and_eq_true_iff.mp b;obtain⟨m,q,N,v,bm,p,j,r,i,t,k,o,w,l,n,g,u,d,s,e⟩:=c.at_;refine⟨cd,bm,a,?_,e,h,f,d⟩;unfold PySem.W.clsIn at a;rw[g] at a;cases a;rfl
theorem aIn:∀{l:List Value},aGo l=true->l.contains (.type "object")=true
 |[],e=>absurd e (by decide)
 |.ref c::r,e=>by rw[bBN,aIn (l:=r) e,bDG]
 |.none::r,e|.bool _::r,e|.int _ _::r,e|.str _ _::r,e|.float _ _::r,e|.bytes _ _::r,e|.builtin _::r,e|.type _::r,e=>by have q:=beq_iff_eq.mp e;rw[q];decide +kernel
def aZp (X:K.In s.heap)(c:XC K C fI){vs:Array Value}{dx:Option Addr}{Q:Option Value->Shared->Prop}(l:s.heap.get? e=some { cls:=.ref C,dict:=dx,data:=.fields vs })(hd:∀a,dx=some a->∃o,s.heap.get? a=some o)
  (D:Q (some (.ref C)) { s with toks:=s.toks+1 }):wpAny (model prog w) A (getAttr? (.ref e) "__class__") Q E s:=by
 obtain⟨B,y,i,p,r,u,v,z⟩:=bB5 c;obtain⟨h,g,d,t,m⟩:=s;have j:(Value.builtin "BaseException.__getattribute__" == Value.builtin "object.__getattribute__")=false:=by trivial
 have T:PySem.W.Looks (model prog w) h (typeOf (.ref e)) (.ref C):=(PySem.W.Looks.ld l).andThen .now;unfold getAttr? getAttrBy?;refine c7 (wpAny_mkText (c7 (bEE ?_)));unfold getAttrBy;refine bBM (c7 (T.at (c7 ((PySem.W.looks_findIn X c.ga).at ?_))));dsimp only;rw[show (onTheHeap (Value.ref C) && Value.builtin "BaseException.__getattribute__" == Value.builtin "object.__getattribute__")=false by rw[j];rfl,if_neg (by decide)];unfold getAttrByItsOwn hookBefore;rw[if_pos (show onTheHeap (Value.ref C)=true from rfl)];refine c7 ((PySem.W.looks_findIn X c.hook).at (c7 (bEE (bBM ?_))));unfold callGetattribute;rw[show (false && onTheHeap (Value.builtin "BaseException.__getattribute__"))=false from rfl,if_neg (by decide)];unfold boundAndCalled;have n:=PySem.F.attr_ValueError.ga;rw[n.bind];refine c7 (j9 ?_);show wpAny _ _ (call (.builtin "BaseException.__getattribute__") [.ref e,.str "__class__" t]) _ _ _;have x:PySem.W.Looks (model prog w) h (isInstance (.ref e) (.type "BaseException")) true:=T.andThen (PySem.W.looks_mroIn X (by unfold PySem.W.mroIn;rw[i,bBH,p,if_neg (by simp),bBN,r,bDG]));refine bDM (bCS n.plain PySem.F.entry_bexc_ga (@PySem.W.check_slot (model prog w) _ _ ⟨h,g,d,t+1,m⟩ "BaseException.__getattribute__" "BaseException" "__getattribute__" (.ref e) [.str "__class__" t] [] _ (by trivial) (by trivial) x (PySem.F.args_bexc_ga (.ref e) (.str "__class__" t)) ?_));have I:∃f,PySem.W.InstAt h e { cls:=.ref C,dict:=dx,data:=.fields vs } C f:=by
  cases dx with
  |none=>exact⟨none,l,rfl,rfl,trivial⟩
  |some a=>obtain⟨o,q⟩:=hd a rfl;exact⟨some o,l,rfl,rfl,q⟩
 obtain⟨f,I⟩:=I;have b:PySem.W.findObj K C f "__class__"=some (.bind (.builtin "getset_descriptor.__get__") (.builtin "object.__class__")):=by unfold PySem.W.findObj;rw[i,bBH,c.cls,bBH];dsimp only;rw[show PySem.W.specialIn K (.builtin "object.__class__") "__get__"=some (some (.builtin "getset_descriptor.__get__")) from show PySem.W.specialIn [] (.builtin "object.__class__") "__get__"=some (some (.builtin "getset_descriptor.__get__")) by trivial,bBH];dsimp only;rw[show PySem.W.takesIn K (.builtin "object.__class__")=some true from show PySem.W.takesIn [] (.builtin "object.__class__")=some true by trivial,bBH]
 refine c7 (j9 (c7 (j9 (c7 (T.at (c7 ((PySem.W.looks_find X I b).at ?_)))))));have k:PySem.W.mroIn K C (.type "object")=some true:=by unfold PySem.W.mroIn;rw[i,bBH,if_neg (by rw[p];simp),aIn u]
 refine c7 (bBM (bDM (PySem.W.class_get (s:=⟨h,g,d,t+1,m⟩) X I k ?_)));exact j9 (j9 (j9 D))
def aJx (X:K.In s.heap)(c:XC K C fI){vs:Array Value}{dx:Option Addr}{D:Value}{b:Bool}{Q:Fin->Shared->Prop}(v:s.heap.get? e=some { cls:=.ref C,dict:=dx,data:=.fields vs })(hd:∀a,dx=some a->∃o,s.heap.get? a=some o)
  (hD:PySem.W.Looks (model prog w) s.heap (typeOf D) (.type "type")) (L:PySem.W.Looks (model prog w) s.heap (isType D) true) (m:PySem.W.mroIn K C D=some b) (B:∀t,Q (.done (.ret (.bool b))) { s with toks:=t }) :
  wpAny (model prog w) A (Builtin.«isinstance.nested» ⟨[.ref e,D,rawInt 0],[]⟩) Q E s:=by
 obtain⟨cd,F,y,n,S,Z,z,R⟩:=bB5 c;have j:PySem.W.mroIn K C (.ref C)=some true:=by unfold PySem.W.mroIn;rw[y,bBH,if_neg (by rw[n];simp),n];simp
 obtain⟨h,g,d,t,r⟩:=s;have T:PySem.W.Looks (model prog w) h (typeOf (.ref e)) (.ref C):=(PySem.W.Looks.ld v).andThen .now;have k:=PySem.W.looks_mroIn (M:=model prog w) X m;have u:PySem.W.Looks (model prog w) h (isInstance (.ref e) D) b:=T.andThen k;unfold Builtin.«isinstance.nested»;refine c7 (T.at ?_);by_cases q:(Value.ref C == D)=true
 ·rw[if_pos q];have G:=beq_iff_eq.mp q;subst G;rw[j] at m;cases m;exact c7 (bEJ (c7 (j9 (j9 (B t)))))
 ·rw[if_neg q];refine c7 (hD.at ?_);rw[if_pos (by decide)];have P:∀{i:Bool->Shared->Prop} {l:bFR} {p:Around},(∀t,i b ⟨h,g,d,t,r⟩)->wpAny (model prog w) p (do
    if !(<-isType D) then
     if <-Builtins.hasBases D then unsupported "isinstance:class-by-__bases__"
     rule "isinstance.not-a-class";raiseError "TypeError" "isinstance() arg 2 must be a type, a tuple of types, or a union"
    if <-isInstance (.ref e) D then return true
    let some c <-getAttr? (.ref e) "__class__"|return false
    if !(<-isType c) then return false
    rule "isinstance.by-__class__";isSubtype c D) i l ⟨h,g,d,t,r⟩:=by
   intro i l p f;refine c7 (L.at ?_);rw[if_neg (by decide)];refine c7 (u.at ?_);cases b with
   |true=>rw[if_pos rfl];exact j9 (f t)
   |false=>
    rw[if_neg (by decide)];refine c7 (aZp X c v hd ?_);dsimp only;have tC:PySem.W.Looks (model prog w) h (isType (.ref C)) true:=by obtain⟨J,q,N,bs,F,V,I,Y,H,dd,k0,U,k2,k3,O,x,-⟩:=c.at_;exact (PySem.W.Looks.ld (X _ _ x)).andThen .now
    refine c7 (tC _ _ _ _ (λ_ _ e=>e) ?_);rw[if_neg (by decide)];exact c7 (bEJ (k _ _ _ _ (λ_ _ e=>e) (f _)))
  exact c7 (P λt=>j9 (B t))
end
def aRs (w:A.frames=some (env::outer))(B:s.heap.FunFrames base (env::outer))(D:env.frame=some L)
  (y:s.heap.get? e=some oe) (hd:oe.data=.fields vs) (z:1<vs.size)
  (h:∀h',(∀b o,b≠e->b∉frs (env::outer)->s.heap.get? b=some o->h'.get? b=some o)->(∀b o,b≠e->s.heap.get? b=some o->∃sl,h'.get? b=some { o with slots:=sl }) ->
   h'.get? e=some (oe.mapFields (·.setIfInBounds 1 (.ref s.heap.objs.size)))->(∃oT ts,h'.get? s.heap.objs.size=some oT/\oT.data=.fields ts/\3<ts.size)->Q () { s with heap:=h' }) :
  wpAny M A (do let a <-frameOf env;let pl <-entryPlaceOf L hadNext;let b <-EntryCells.newEntry head a .none (rawInt L) .none pl;setField (.ref e) 1 b) Q E s:=by
 have i:e∉(env::outer).filterMap (·.frame):=λC=>by obtain⟨_,o,m,p⟩:=B.mem C;rw[y] at m;injection m with m;subst m;exact p vs hd
 refine c7 (wpAny_frameOf_fun w B D λg c=>?_);refine c7 (wpAny_entryPlaceOf λpl t=>?_);unfold EntryCells.newEntry newFields;refine c7 (bBE ?_ (t.sizeOk5 _ _ _ _ _));have l:=(c.2.1 e i).trans y;have k:=j4 { cls:=.type "traceback",dict:=none,data:=.fields ([head,.ref L,.none,rawInt L,.none]++(if pl.isEmpty then List.replicate 6 Value.none else pl)).toArray } l;have q:=bDD (bAA l);have u:=bCF hd (·.setIfInBounds 1 (Value.ref g.objs.size));have v:=bAY (Obj.mapFields (·.setIfInBounds 1 (Value.ref g.objs.size))) k (bCA u);have r:=(bBC (g.push { cls:=.type "traceback",dict:=none,data:=.fields ([head,.ref L,.none,rawInt L,.none]++(if pl.isEmpty then List.replicate 6 Value.none else pl)).toArray })
  (Obj.mapFields (·.setIfInBounds 1 (Value.ref g.objs.size))) (Ne.symm q)).trans (z9 g rfl)
 have f:∀b o,b≠e->g.get? b=some o ->
   ((g.push { cls:=.type "traceback",dict:=none,data:=.fields ([head,.ref L,.none,rawInt L,.none]++(if pl.isEmpty then List.replicate 6 Value.none else pl)).toArray }).update e (Obj.mapFields (·.setIfInBounds 1 (Value.ref g.objs.size)))).get? b=some o:=λb o d j=>by
  rw[bBC _ _ (Ne.symm d)];exact j4 _ j
 refine bCT k hd z (h _ (λb o d n j=>f b o d ((c.2.1 b n).trans j)) (λb o d j=>?_) ?_ ?_)
 ·obtain⟨sl,x⟩:=c.2.2 b o j;exact⟨sl,f b _ d x⟩
 ·rw[<-c.1];exact v
 ·rw[<-c.1];exact⟨_,_,r,rfl,by simp only[v8,j6,d9,bCD] <;> lia⟩
def bDn (T:Option Addr)(J:A.frames=some (env::outer))(S:s.heap.FunFrames base (env::outer))(B:env.frame=some L)
  (H:s.heap.get? e=some oe) (hd:oe.data=.fields vs) (F:vs[1]?=some (T.elim .none .ref)) (U:∀a,T=some a->a≠e/\∃oT ts,s.heap.get? a=some oT/\oT.data=.fields ts/\3<ts.size)
  (h:∀h' T',(∀b o,b≠e->T≠some b->b∉frs (env::outer)->s.heap.get? b=some o->h'.get? b=some o)->(∀b o,b≠e->T≠some b->s.heap.get? b=some o->∃sl,h'.get? b=some { o with slots:=sl })->(∀b o,s.heap.get? b=some o->∃o',h'.get? b=some o') ->
   (∃vs':Array Value,h'.get? e=some { oe with data:=.fields vs' }/\(vs'.size=vs.size/\vs'[2]?=vs[2]?)/\vs'[1]?=some (.ref T'))->(∃oT ts,h'.get? T'=some oT/\oT.data=.fields ts/\3<ts.size)->(T=some T'\/T'=s.heap.objs.size)->Q () { s with heap:=h' }) :
  wpAny M A (noteFrame (.ref e) env) Q E s:=by
 unfold noteFrame;simp only[B];obtain⟨u,N,F⟩:∃u:Value,u=T.elim .none .ref/\vs[1]?=some u:=⟨_,rfl,F⟩;refine c7 (bAR H hd F ?_);have p:=(Array.getElem?_eq_some_iff.mp F).1;have R:∀n:Addr,oe.mapFields (·.setIfInBounds 1 (.ref n))={ oe with data:=.fields (vs.setIfInBounds 1 (.ref n)) }:=λn=>by obtain⟨c,d,P,sl⟩:=oe;cases hd;rfl
 have l:∀{h':Heap} {n:Addr},h'.get? e=some (oe.mapFields (·.setIfInBounds 1 (.ref n)))->∃vs':Array Value,h'.get? e=some { oe with data:=.fields vs' }/\(vs'.size=vs.size/\vs'[2]?=vs[2]?)/\vs'[1]?=some (.ref n):=λ{h' n} q=>
  ⟨_,by rw[q,R n],⟨by simp,bAX (by decide)⟩,by simp[p]⟩
 cases T with
 |none=>
  obtain rfl:u=.none:=N;rw[if_neg (by decide)];refine aRs J S B H hd p λh' D x t C=>h h' _ (λb o g _ B q=>D b o g B q) (λb o g _ q=>x b o g q) (λb o q=>?_) (l t) C (.inr rfl);by_cases z:b=e
  ·subst z;exact⟨_,t⟩
  ·obtain⟨sl,r⟩:=x b o z q;exact⟨_,r⟩
 |some a=>
  obtain⟨I,oT,ts,k,j,G⟩:=U a rfl;obtain rfl:u=.ref a:=N;rw[if_pos (show (Value.ref a != Value.none)=true from by simp)];refine c7 (bAR k j (bAP G) ?_);by_cases O:(ts[3] == rawInt L)=true
  ·rw[if_pos O];refine j9 (h s.heap a (λb o _ _ _ q=>q) (λb o _ _ q=>⟨o.slots,q⟩) (λb o q=>⟨o,q⟩) ⟨vs,?_,⟨rfl,rfl⟩,F⟩ ⟨oT,ts,k,j,G⟩ (.inl rfl));rw[H];obtain⟨c,d,P,sl⟩:=oe;cases hd;rfl
  rw[if_neg O];refine c7 (bCT k j G ?_);have f:∀b,b≠a->(s.heap.update a (Obj.mapFields (·.setIfInBounds 3 Value.none))).get? b=s.heap.get? b:=λb g=>bBC _ _ (Ne.symm g);have i:∀b o,s.heap.get? b=some o->(∀vs,o.data≠.fields vs)->b≠a:=λb o g w q=>by rw[q,k] at g;injection g with g;subst g;exact w ts j
  have K:(s.heap.update a (Obj.mapFields (·.setIfInBounds 3 Value.none))).objs.size=s.heap.objs.size:=Heap.size_after_update ..;have m:=bAY (Obj.mapFields (·.setIfInBounds 3 Value.none)) k (bCA (bCF j _));refine aRs J (S.of_keeps λb o g w=>⟨o,(f b (i b o g w)).trans g,rfl⟩) B ((f e (Ne.symm I)).trans H) hd p λh' D x t C=>?_;dsimp only at D x t C;rw[K] at t C;refine h h' _ (λb o g v B q=>D b o g B ((f b λz=>v (by rw[z])).trans q)) (λb o g v q=>x b o g ((f b λz=>v (by rw[z])).trans q)) (λb o q=>?_) (l t) C (.inr rfl);by_cases z:b=e
  ·subst z;exact⟨_,t⟩
  ·by_cases y:b=a
   ·subst y;obtain⟨sl,r⟩:=x b _ z m;exact⟨_,r⟩
   ·obtain⟨sl,r⟩:=x b o z ((f b y).trans q);exact⟨_,r⟩
def zM (e T C dx:Addr):HO:=.ext λh=>∃vs:Array Value,h.get? e=some { cls:=.ref C,dict:=some dx,data:=.fields vs }/\Sz C vs/\vs[1]?=some (.ref T)
def TbO (T:Addr):HO:=.ext λh=>∃oT ts,h.get? T=some oT/\oT.data=.fields ts/\3<ts.size
def up2 (H:Hp)(e T C dx:Addr):Hp:=upd (upd H T (TbO T)) e (zM e T C dx)
abbrev xdA:HO:=.xd [(("act":Str),V.non)]
def zM.ok (q:h.get? e=some { cls:=.ref C,dict:=some dx,data:=.fields vs })(z:Sz C vs)(n:vs[1]?=some (.ref T)):iJ P w H h e (zM e T C dx):=
 ⟨⟨vs,q,z,n⟩,⟨_,q⟩,λf g ⟨d,a,b,c⟩ k=>⟨d,k _ a,b,c⟩⟩
def TbO.ok (q:∃oT ts,h.get? T=some oT/\oT.data=.fields ts/\3<ts.size):iJ P w H h T (TbO T):=by obtain⟨o,ts,a,b,c⟩:=q;exact⟨⟨o,ts,a,b,c⟩,⟨_,a⟩,λe f ⟨u,d,a,b,c⟩ k=>⟨u,d,k _ a,b,c⟩⟩
def bBe (h:H a=some o):upd H a o=H:=by
 funext b;unfold upd;split
 ·rename_i e;rw[e,h]
 ·rfl
def Xt:HO->Prop
 |.ext _=>True
 |_=>False
def aIz (I:Inv X bFU σ H s)(v:X.stack=X.env::X.outer)(a0:X.env.frame=some X.env.locals)(T:Option Addr)
  (he:s.heap.get? e=some { cls:=.ref C,dict:=some dx,data:=.fields vs }) (z:Sz C vs) (h1:vs[1]?=some (T.elim .none .ref))
  (x:∀a,T=some a->a≠e/\(∃oT ts,s.heap.get? a=some oT/\oT.data=.fields ts/\3<ts.size)/\∃o,H a=some o/\Xt o)
  (hx:∃o,H e=some o/\Xt o) (S:∀b o,H₁ b=some o->b≠e/\T≠some b/\H b=some o) (a1:∀b o,H b=some o->b≠e->T≠some b->H₁ b=some o)
  (q:∀T' s',Inv X bFU σ (up2 H₁ e T' C dx) s'->H₁ T'=none->T'≠e->Q () s') :
  wpAny M X.A (noteFrame (.ref e) X.env) Q E s:=by
 have y:=v ▸ I.stack;obtain⟨oE,F,G⟩:=hx;refine bDn T (by rw[<-v];exact I.ok.frames) y a0 he rfl h1 (λa ha=>⟨(x a ha).1,(x a ha).2.1⟩) λD T' R k2 k3 k4 k5 g=>?_;have L:∀b∈frs (X.env::X.outer),H b=none:=λb j=>I.aKm b (by rw[v];exact j);have Z:∀b,H b=none->H₁ b=none:=λb n=>by
  cases r:H₁ b with
  |none=>rfl
  |some o=>rw[(S b o r).2.2] at n;cases n
 have N:H₁ T'=none:=by
  rcases g with g|rfl
  ·cases r:H₁ T' with
   |none=>rfl
   |some o=>exact absurd g (S _ o r).2.1
  ·exact Z _ (I.hok.fresh (v7 _))
 have K:T'≠e:=by
  rcases g with g|rfl
  ·exact (x _ g).1
  ·exact bDD (bAA he)
 have h:∀b,b≠e->b≠T'->up2 H₁ e T' C dx b=H₁ b:=λb p l=>by unfold up2;rw[aR p,aR l]
 have trk:∀b o,H b=some o->T≠some b->b≠T':=λb o r n=>by
  rcases g with g|rfl
  ·exact λf=>n (by rw[f];exact g)
  ·exact bAI (I.hok.lt r)
 have J:∀b,H b=none->(∃o,s.heap.get? b=some o)->b≠T':=λb n ⟨o,r⟩=>by
  rcases g with g|rfl
  ·intro f;obtain⟨V,m,_⟩:=(x _ g).2.2;rw[f,m] at n;cases n
  ·exact bAI (bAA r)
 have k:∀b o,H b=some o->¬ Xt o->b≠e/\T≠some b:=λb o r n=>by
  refine⟨λf=>?_,λf=>?_⟩
  ·subst f;rw[F] at r;cases r;exact n G
  ·obtain⟨V,m,x'⟩:=(x b f).2.2;rw[m] at r;cases r;exact n x'
 have i:∀b o u,H b=some o->b≠e->T≠some b->s.heap.get? b=some u->D.get? b=some u:=λb o u r p l t=>
  R b u p l (λj=>by rw[L b j] at r;cases r) t
 have d:∀b o,H b=some o->¬ Xt o->up2 H₁ e T' C dx b=some o:=λb o r n=>by obtain⟨p,l⟩:=k b o r n;rw[h b p (trk b o r l)];exact a1 b o r p l
 have O:HOk X.prog X.w (up2 H₁ e T' C dx) D:=λb o r=>by
  by_cases P:b=e
  ·subst P;unfold up2 at r;rw[aJ] at r;cases r;obtain⟨a2,e1,W,e3⟩:=k4;exact zM.ok e1 ⟨W.1.trans z.1,by rw[W.2];exact z.2⟩ e3
  ·by_cases Y:b=T'
   ·subst Y;unfold up2 at r;rw[aR P,aJ] at r;cases r;exact TbO.ok k5
   ·rw[h b P Y] at r;obtain⟨p,l,m⟩:=S b o r;refine (I.hok b o m).stay (λc u hc t=>?_) (λc t=>d c _ t λz=>z) λc xs t=>d c _ t λz=>z;rcases hc with rfl|hc
    ·exact i c o u m p l t
    ·obtain⟨m1,m2⟩:=k c _ hc λz=>z;exact i c _ u hc m1 m2 t
 have B:∀b,T=some b->H b≠none:=λb j n=>by obtain⟨V,m,_⟩:=(x b j).2.2;rw[m] at n;cases n
 have U:Un (frs X.stack) [] H (up2 H₁ e T' C dx) s.heap D:=by
  refine⟨λb o r n j _=>?_,λb o r n j _=>?_,λb o r n _=>?_,λb o r _=>k3 b o r,λb xs r=>d b _ r λz=>z,λb o u r=>d b _ r λz=>z,λb ps r=>⟨#[],by rw[d b _ r λz=>z];simp⟩⟩
  ·exact R b o (λf=>by subst f;rw[F] at n;cases n) (λf=>B b f n) (by rw[<-v];exact j) r
  ·exact k2 b o (λf=>by subst f;rw[F] at n;cases n) (λf=>B b f n) r
  ·rw[h b (λf=>by subst f;rw[F] at n;cases n) (J b n ⟨o,r⟩)];exact Z b n
 exact q T' _ (I.call' (s':={ s with heap:=D }) rfl U O I.bare λb z=>absurd z (by simp)) N K
def jX {T:Addr}{A:Around}{n:Option Addr}(I:Inv X bFU σ (up2 H₁ e T C dx) s)(l:T≠e)(q:∀s',Inv X bFU σ (up2 H₁ e T C dx) s'->Q () s'):wpAny M A (setFlight (.ref e) n) Q E s:=by
 have p:up2 H₁ e T C dx e=some (zM e T C dx):=aJ;have i:up2 H₁ e T C dx T=some (TbO T):=by unfold up2;rw[aR l,aJ]
 obtain⟨w,j,r,g⟩:=(I.hok e _ p).1;obtain⟨v,t,d,a,c⟩:=(I.hok T _ i).1;unfold setFlight;refine c7 (bAR j rfl g ?_);rw[if_pos (show (Value.ref T != Value.none)=true from by simp)];refine bCT d a c (q _ ?_);have k:=bAY (h:=s.heap) (Obj.mapFields (·.setIfInBounds 3 (n.elim Value.none λf=>rawInt f))) d (bCA (bCF a _));have W:=I.write (x:=T) (e:=T) (o:=TbO T) (h':=s.heap.update T (Obj.mapFields (·.setIfInBounds 3 (n.elim Value.none λf=>rawInt f)))) (t':=s.toks) (by rw[i];trivial) (.inl rfl) (λb u m q=>(bBC _ _ (Ne.symm m)).trans q) ⟨_,k⟩
  (TbO.ok ⟨_,_,k,bCF a _,by simpa using c⟩)
 rw[bBe i] at W;exact W
def aIt (I:Inv X bFU σ (upd H₁ e (XO e C (some dx))) s)(h:X.stack=X.env::X.outer)(d:X.env.frame=some X.env.locals)(n:H₁ e=none)
  (q:∀T' s',Inv X bFU σ (up2 H₁ e T' C dx) s'->H₁ T'=none->T'≠e->Q () s') :
  wpAny M X.A (noteFrame (.ref e) X.env) Q E s:=by
 obtain⟨k,j,z,i⟩:=XO.at I.hok aJ;refine aIz I h d none j z i (λa g=>nomatch g) ⟨_,aJ,trivial⟩ (λb o r=>?_) (λb o r c _=>by rw[aR c] at r;exact r) q;have c:b≠e:=λf=>by subst f;rw[n] at r;cases r
 exact⟨c,(nomatch ·),by rw[aR c];exact r⟩
def aCe {T:Addr}(I:Inv X bFU σ (up2 H₁ e T C dx) s)(p:X.stack=X.env::X.outer)(j:X.env.frame=some X.env.locals)(n:H₁ e=none)(t:H₁ T=none)(g:T≠e)
  (q:∀T' s',Inv X bFU σ (up2 H₁ e T' C dx) s'->H₁ T'=none->T'≠e->Q () s') :
  wpAny M X.A (noteFrame (.ref e) X.env) Q E s:=by
 have i:up2 H₁ e T C dx e=some (zM e T C dx):=aJ;have h:up2 H₁ e T C dx T=some (TbO T):=by unfold up2;rw[aR g,aJ]
 obtain⟨u,l,z,k⟩:=(I.hok e _ i).1;refine aIz I p j (some T) l z k (λa m=>?_) ⟨_,i,trivial⟩ (λb o r=>?_) (λb o r f d=>?_) q
 ·cases m;exact⟨g,(I.hok T _ h).1,_,h,trivial⟩
 ·have f:b≠e:=λc=>by subst c;rw[n] at r;cases r
  have d:b≠T:=λc=>by subst c;rw[t] at r;cases r
  exact⟨f,λc=>d (bAM c).symm,by unfold up2;rw[aR f,aR d];exact r⟩
 ·unfold up2 at r;rw[aR f,aR (λc=>d (by rw[c]))] at r;exact r
def CXR (P:Program)(w:World):CXT:=λouter H s E v s'=>∃e T dx C H₁,v=.ref e/\s'.os=s.os/\AllBare s'.gens/\H₁ e=none/\H₁ T=none/\T≠e/\H₁ dx=some xdA /\
 Un (frs outer) [] H (up2 H₁ e T C dx) s.heap s'.heap/\HOk P w (up2 H₁ e T C dx) s'.heap/\E (.ref C) (some e) H₁
def Raises (X:Cx)(E:XK):Prop:=∀bFU σ H₁ s e C dx,Inv X bFU σ (upd H₁ e (XO e C (some dx))) s->H₁ e=none->H₁ dx=some xdA->E (.ref C) (some e) H₁->X.xe (.ref e) s
section
variable {P:Program}{w:World}{K:bFQ}{mg:bFT}{base:Heap}{N:List Str}{qual:Str}{scope:Scope}{f:Addr}{cd:Value}{A:Around}{outer:List Env}{s₀:Shared}{H₀:Hp}{E:XK}
def aHk (I:Inv (uT (CXR P w) P w K mg base N qual scope f cd A outer s₀ H₀ E) bFU σ (up2 H₁ e T C dx) s)(n:H₁ e=none)(b:H₁ T=none)(a:T≠e)(hd:H₁ dx=some xdA)(q:E (.ref C) (some e) H₁) :
  CXR P w outer H₀ s₀ E (.ref e) s:=⟨e,T,dx,C,H₁,rfl,I.os,I.bare,n,b,a,hd,I.base,I.hok,q⟩
def fZ:Raises (uT (CXR P w) P w K mg base N qual scope f cd A outer s₀ H₀ E) E:=by intro d σ m s e C i I n g q;show wpAny _ _ (leaving _ (.ref e)) _ _ s;unfold leaving;exact c7 (aIt I rfl rfl n λj l h b a=>jX h a λk c=>aHk c n b a g q)
def Thr (X:Cx)(E:XK):Prop:=∀bFU σ H₁ s e T C dx,Inv X bFU σ (up2 H₁ e T C dx) s->H₁ e=none->H₁ T=none->T≠e->H₁ dx=some xdA->E (.ref C) (some e) H₁->X.xe (.ref e) s
def Thr.passes (h:Thr X E):oK (CXR X.prog X.w) X E:=by intro f σ H s v s' I l;obtain⟨e,T,i,C,o,rfl,m,a,n,g,c,k,j,d,q⟩:=l;exact h f σ o s' e T C i (I.call' (s':=s') m j d a λb z=>absurd z (by simp)) n g c k q
def cH:Thr (uT (CXR P w) P w K mg base N qual scope f cd A outer s₀ H₀ E) E:=by intro h σ p s e T C k I n d c i q;show wpAny _ _ (leaving _ (.ref e)) _ _ s;unfold leaving;exact c7 (aCe I rfl rfl n d c λl o j b a=>jX j a λm g=>aHk g n b a i q)
end
def bF1 (h:H a=some o):upd H a o=H:=by
 funext b;unfold upd;split
 ·rename_i e;rw[e,h]
 ·rfl
def aMs (h:a≠b):upd (upd H a o) b u=upd (upd H b u) a o:=by
 funext c;unfold upd;by_cases e:c=b
 ·by_cases d:c=a
  ·exact absurd (d.symm.trans e) h
  ·simp[e,d,Ne.symm h]
 ·by_cases d:c=a
  ·simp[d,h]
  ·simp[e,d]
def tVI (K:bFQ)(fI:Addr)(t:TA):TE:=fun σ H Q=>t σ H λvs H1=>∃e C v,vs=[.ref e,v]/\H1 e=some (XO e C none)/\XC K C fI/\Q .non H1
def aE4 (K:bFQ)(fI:Addr)(ta tv:TE):TS:=λD σ H=>tv σ H λy H1=>ta σ H1 λx H2=>∃e C,y=.non/\x=.ref e/\H2 e=some (XO e C none)/\XC K C fI /\
 ∀dx,H2 dx=none->dx≠e->D.nx σ (upd (upd H2 dx xdA) e (XO e C (some dx)))
def aRl:bootBuiltins "ValueError"=some (.type "ValueError"):=by trivial
def bCy:typeOf (.type "ValueError")=pure (.type "type"):=by first|rfl|kernel_rfl
def aZi:PySem.W.handedIn (.builtin "ValueError.__init__")=true:=by trivial
def bBy:Manifest.isStub "ValueError"=false:=by trivial
def aYz (L:Gl X "ValueError")(M:X.mg "ValueError"=none)(N:PA X (e1::es) t)
  (E:starEach (e1::es) X.env=(false,eval e1 X.env)::starEach es X.env:=by rfl) (A:(backTo cpos (starEach es X.env)).any (·.1)=false:=by rfl)
  (O:eval (.Call (.Attribute (.Name "ValueError" p) "__init__" ap) (e1::es) [] cpos) X.env=(do
   let ov <-eval (.Name "ValueError" p) X.env
   standAt ap.atName
   let (f,first) <-holding [ov] (getMethod ov "__init__" pl)
   callWith cpos f first (backTo cpos (starEach (e1::es) X.env)) (backToKw cpos (keywordEach [] X.env))):=by rfl) :
  PE X (.Call (.Attribute (.Name "ValueError" p) "__init__" ap) (e1::es) [] cpos) (tVI X.K fI t):=by
 intro i s σ H Q I h;refine PySem.W.methodCall_KW (pl:=pl) (yZ I L M aRl ?_) O;obtain⟨m,F⟩:=I.fr;refine PySem.W.method_type (T:="ValueError") (name:="__init__") (v:=.builtin "ValueError.__init__") F I.ok.mod.kin bCy bBy (bAj X.K) aZi ?_;refine bEP (thn (N cpos i _ σ H _ (I.tok _) h) λJ a ⟨vs,G,j,r,e,C,v,D,g,c,q⟩=>?_) E A;subst D;cases r with
 |cons r0 r1=>
  cases r1 with
  |@cons _ u2 _ _ r2 r3=>
   cases r3;obtain rfl:=r0;obtain⟨n,d,k,z⟩:=XO.at j.hok g;have w:0<n.size:=by have:=k.1;lia
   refine bFv j.kIn c d w (bAP w) (by rw[sizeLine_eq,d9,bCD];lia) ?_;refine⟨.non,G,?_,rfl,q⟩;have y:=j.kept (h':=a.heap.push { cls:=.type "tuple",data:=.seq [u2].toArray }) (t':=a.toks) (λb u e=>j4 _ e);have hg2:=j4 (h:=a.heap) { cls:=.type "tuple",data:=.seq [u2].toArray } d;have l:=bAY (Obj.mapFields (·.setIfInBounds 0 (Value.ref a.heap.objs.size))) hg2 (bCA (bCF rfl _));have W:=y.write (x:=e) (e:=e) (o:=XO e C none) (t':=a.toks) (by rw[g];trivial) (.inl rfl) (λb u B q=>(bBC _ _ (Ne.symm B)).trans q) ⟨_,l⟩
    (XO.ok (vs:=n.setIfInBounds 0 (.ref a.heap.objs.size)) l ⟨by simp[k.1],by rw[bAX (by decide)];exact k.2⟩ (by rw[bAX (by decide)];exact z))
   rw[bF1 g] at W;exact W
def bEh (ha:PE X o ta)(Z:PE X value tv)(hs:swapsWith value (some (.Attribute o "act" pos')) pos.line X.env=pure false:=by rfl):PS X (.Assign [.Attribute o "act" pos'] value pos) (aE4 X.K fI ta tv):=by
 intro i s σ H D I h;refine plainObj_wpAny_Assign_Attribute (thn (Z i s σ H _ I h) λu E ⟨y,W,M,T,q⟩=>thn (ha i E σ W _ M q) λov d ⟨x,L,l,Q,e,C,R,U,w,c,v⟩=>?_) hs;subst U R;obtain rfl:=Q;obtain rfl:=T;obtain⟨Y,k,P,N⟩:=XO.at l.hok w;have p:L d.heap.objs.size=none:=l.hok.fresh (v7 _);have j:d.heap.objs.size≠e:=bDD (bAA k);refine bBb l.kIn c k λh' t' z V J=>⟨σ,_,?_,v _ p j⟩;obtain⟨A,G,B,g,t,r⟩:=id V;have F:=l.laid (a:=d.heap.objs.size) (o:=xdA) (h':=d.heap.push A) (t':=t') (λb u e=>j4 _ e) (v7 _)
  ⟨_,⟨A,G,B,z9 _ (Heap.get?_some_iff.mp g).2,t,r⟩,λf=>by
   by_cases e:f = "act"
   ·subst e;simp[xF,RelV]
   ·have n:(f == ("act":Str))=false:=by simpa using e
    simp[List.lookup,n,e,xF]⟩
 refine F.write (x:=e) (e:=e) (o:=XO e C (some d.heap.objs.size)) (h':=h') (t':=t') (by rw[aR (Ne.symm j),w];trivial) (.inl rfl) (λb u S q=>?_) ⟨_,z⟩ (XO.ok z P N);by_cases m:b=d.heap.objs.size
 ·subst m;rw[z9 _ (Heap.get?_some_iff.mp g).2] at q;cases q;exact g
 ·refine J b u S ?_;obtain⟨O,v⟩:=Heap.get?_some_iff.mp q;refine Heap.get?_some_iff.mpr ⟨?_,v⟩;rw[<-O];generalize d.heap=hh at m ⊢;cases hh;simp only at m;simp[Heap.push,Array.getElem?_push,m]
def vM (K:bFQ)(fI:Addr):Sp:=λvs H Q _=>∃e C,vs=[.ref e,.non]/\H e=some (XO e C none)/\XC K C fI/\∀dx,H dx=none->dx≠e->Q .non (upd (upd H dx xdA) e (XO e C (some dx)))
def aGc (C:Addr)(E:XK)(t:TA):TS:=λ_ σ H=>t σ H λvs H1=>vs=[.non]/\∀e dx,H1 e=none->H1 dx=none->dx≠e->E (.ref C) (some e) (upd H1 dx xdA)
section
variable {M:Model}{A:Around}{E:bFR}{env:Env}{K:bFQ}{C fI:Addr}
def aL4 (c:XC K C fI)(I:A.handled=none)
  (h:wpAny M A x (λv s₁=>∃e d vs,v=.ref e/\K.In s₁.heap/\s₁.heap.get? e=some { cls:=.ref C,dict:=d,data:=.fields vs }/\vs[1]?=some .none/\E (.ref e) s₁) E s) :
  wpAny M A (raiseStmt env (some x) none) Q E s:=by
 obtain⟨r,q,N,P,l,B,p,D,n,G,J,y,R,L,t,k,H,u,F,j⟩:=c.at_;have b:(Value.ref C::l).contains (.type "BaseException")=true:=by rw[bBN,j,bDG]
 unfold raiseStmt;refine c7 (bBB h (λv s₁ o=>?_) λ_ _ x=>x);obtain⟨e,z,vs,rfl,X,f,m,a⟩:=o;have i:=X _ _ k;obtain⟨w,g,d,tk,O⟩:=s₁
 repeat (first|with_reducible refine bBJ f ?_|with_reducible refine bBJ i ?_|(with_reducible refine bCX i ?_;rw[b])|with_reducible refine bAR f rfl m ?_|wp_step)
 exact wpAny_raiseNew_none I a
end
section
variable {X:Cx}{CX:CXT}{k:Nat}{C fI:Addr}{fd:FuncData}{ps:List Str}{E:XK}{x:Str}{np cpos pos:Pos}{a:Expr}{t:TA}
def bAg {l:bFS}{σ:St}{H:Hp}{s:Shared}{Q:VK}{u:Value}(c:XC X.K C fI)(F:iM X.prog X.w X.K X.mg X.base CX k fI fd ps (vM X.K fI))(S:Room (k+1) X.A)(O:Binds X.K fd ps [])(R:oK CX X E0)
  (I:Inv X l σ H s) (r:RelV .non u) (h:∀e dx,H e=none->H dx=none->dx≠e->Q (.ref e) (upd (upd H dx xdA) e (XO e C (some dx)))) :
  wpAny (model X.prog X.w) X.A (call (.ref C) [u]) (EP X l σ Q) X.xe s:=by
 obtain⟨P,g,d,tk,x⟩:=s;refine x_call I.kIn c (λh' e o t T=>?_) (by rw[sizeLine_eq,d9,bCD];lia);obtain⟨U,B,-,-⟩:=o.there;have m:H e=none:=I.hok.fresh (by rw[t];exact bEK _);have i:Inv X l σ (upd H e (XO e C none)) ⟨h',g,d,tk,x⟩:=I.laid (a:=e) (h':=h') (t':=tk) o.keeps (by rw[t];exact bEK _) (XO.ok B ⟨rfl,.inl rfl⟩ rfl);have p:vM X.K fI [.ref e,.non] (upd H e (XO e C none)) (λv E=>v=.non/\Q (.ref e) E) E0:=by refine⟨e,C,rfl,aJ,c,λdx n j=>⟨rfl,?_⟩⟩;rw[aR j] at n;have q:=h e dx m n j;rw[aMs (Ne.symm j),aD1];exact q
 have M:Vals [V.ref e,V.non] [Value.ref e,u]:=.cons rfl (.cons r .nil);have L:([Value.ref e,u]++[]).length=ps.length:=by have q:=F.len _ _ _ _ p;rw[bAJ];exact q
 have f:=O ⟨h',g,d,tk,x⟩ [Value.ref e,u] i.kIn L;rw[bAJ] at f;refine bDM (bDF (F.run _ X.stack _ _ ⟨[Value.ref e,u],[]⟩ [Value.ref e,u] _ _ E0 (S.make C [u] []) (i.env0.make C [u] []) f M p) λr D b=>?_);cases r with
 |error v=>exact R l σ _ _ v D i b
 |ok fl=>
  cases fl with
  |ret w=>obtain⟨v,N,y,z,J,G⟩:=i.after b;subst J;exact⟨z,⟨V.ref e,N,y,rfl,G⟩⟩
  |next=>exact False.elim b
  |brk=>exact False.elim b
  |cont=>exact False.elim b
def aVb (c:XC X.K C fI)(F:iM X.prog X.w X.K X.mg X.base CX k fI fd ps (vM X.K fI))(hr:Room (k+1) X.A)(U:Binds X.K fd ps [])(hx:oK CX X E0)(hR:Raises X E)(Z:X.calm=true)(hk:PySem.W.keepIn X.K (.ref C)=true)
  (Y:Gl X x) (hm:X.mg x=some (.ref C)) (ha:PA X [a] t) (M:(x == ("__debug__":Str))=false:=by decide) (V:starEach [a] X.env=(false,eval a X.env)::starEach [] X.env:=by rfl) :
  PS X (.Raise (some (.Call (.Name x np) [a] [] cpos)) none pos) (aGc C E t):=by
 intro f s σ H D I h;rw[arm_exec_Raise];refine c7 (bDH (aL4 c (I.ok.hd Z) ?_));refine c7 (bBB (Q:=EP X f σ λv B=>∃e b g,v=.ref e/\B=upd g e (XO e C (some b))/\g e=none/\g b=some xdA/\E (.ref C) (some e) g) (E:=X.xe) ?_ (λv l ⟨y,B,j,P,e,b,g,O,J,n,G,q⟩=>?_) λ_ _ z=>z)
 ·refine bBT (nR I Y hm ?_ M);refine PySem.W.callWith_K (h₀:=X.base) I.ok.mod.kin hk (thn (ha cpos f s σ H _ I h) λT l ⟨o,S,p,r,R,q⟩=>⟨p.kIn,?_⟩) V rfl;subst R;cases r with
  |cons r0 r1=>cases r1;exact bAg c F hr U hx p r0 λe b u L m=>⟨e,b,upd S b xdA,rfl,rfl,by rw[aR (Ne.symm m)];exact u,aJ,q e b u L m⟩
 ·subst O J;obtain rfl:=P;refine c7 (bDH (j9 ?_));obtain⟨o,i,hz,N⟩:=XO.at (d:=some b) j.hok aJ;exact⟨e,_,o,rfl,j.kIn,i,N,hR f σ g l e C b j n G q⟩
end
def name_goes (I:Inv X bFU σ H s)(hN:X.N.Nodup)(U:X.N[i]?=some n)(hk:X.env.scope.names.lookup n=some .local)(h:∀s',Inv X bFU (σ.set i none) H s'->Q () s') :
  wpAny M A (do bindName X.env n .none;unbindBehindTheSuite X.env n pos) Q E s:=by
 obtain⟨m,K,hl⟩:=id I.loc;have g:(X.env.scope.kind == .class || (X.env.scope.kind == .module && X.env.locals != X.env.globals))=false:=by rw[I.ok.kind];rfl
 have B:i<σ.length:=by rw[I.len];exact (List.getElem?_eq_some_iff.mp U).1
 have l:=I.cne;obtain⟨oL,_,_,W,_⟩:=id K;refine wpAny_nameGoes_keeps hk K g λL v u a=>?_;have F:∀b o,X.s₀.heap.get? b=some o->b≠X.env.locals:=λb o e=>bAI (bAL (bAA e) I.ok.above);have D:HOk X.prog X.w H L:=λb R e=>by
  refine (I.hok b R e).stay (λc J hc q=>(a.2 c ?_).trans q) (λ_ q=>q) λ_ _ q=>q;rintro rfl;rcases hc with rfl|hc
  ·rw[I.free] at e;cases e
  ·rw[I.free] at hc;cases hc
 refine h _ ⟨I.ok,I.os,I.bare,⟨λb o e n x r=>?_,λb o e n x r=>?_,I.base.free,λb o e r=>?_,I.base.tups,I.base.frzs,I.base.tbls⟩,⟨_,u,λj y Z f t P=>?_⟩,λy c e=>?_,I.free,I.freeC,λp O=>?_,D,by simpa using I.len⟩
 ·exact (a.2 b (F b o e)).trans (I.base.keep b o e n x r)
 ·obtain⟨V,f⟩:=I.base.slot b o e n x r;exact⟨V,(a.2 b (F b o e)).trans f⟩
 ·obtain⟨S,f⟩:=I.base.there b o e r;exact⟨S,(a.2 b (F b o e)).trans f⟩
 ·by_cases C:j=i
  ·subst C;rw[bDL B] at t;cases t
  ·rw[bEU (Ne.symm C)] at t;obtain⟨T,Y,q⟩:=hl j y Z f t P;refine⟨T,Y,?_⟩;rcases q with⟨k,e⟩|⟨k,c,e,z⟩
   ·refine .inl ⟨k,?_⟩;have:y≠n:=λe=>C (aFc hN f (e ▸ U));simp[this,e]
   ·exact .inr ⟨k,c,e,z.sameBut a (l y c e)⟩
 ·obtain⟨J,z⟩:=I.cell y c e;exact⟨J,z.sameBut a (l y c e)⟩
 ·obtain⟨e,n,G,nf,d⟩:=I.pin p O;exact⟨(a.2 p.1 G).trans e,n,G,nf,d⟩
def yC (X:Cx)(bFU:bFS)(σ₀:St)(E:XK):Cx:={ X with pn:=X.pn++bFU,xe:=λv s'=>∃e T dx C H₁,v=.ref e/\Inv X bFU σ₀ (up2 H₁ e T C dx) s'/\H₁ e=none/\H₁ T=none/\T≠e/\H₁ dx=some xdA/\E (.ref C) (some e) H₁ }
def tL (X:Cx)(e:Addr):Cx:={ X with A:=X.A.mark (some (.ref e)),calm:=false,xe:=λ_ _=>False }
def bF5 (a:X.Ok):(yC X bFU σ₀ E).Ok:=⟨a.mod,a.kind,a.glob,a.blt,a.above,a.inj,a.has,a.cab,a.hd,a.frames,a.stk,a.exf,a.bs,a.bsz,a.noex,a.exfs,a.funs,a.frf⟩
def bAd (a:X.Ok):(tL X e).Ok:=⟨a.mod,a.kind,a.glob,a.blt,a.above,a.inj,a.has,a.cab,(λz=>nomatch z),a.frames,a.stk,a.exf,a.bs,a.bsz,a.noex,a.exfs,a.funs,a.frf⟩
def Inv.bB9 (I:Inv X bFU σ H s):Inv (yC X bFU σ₀ E) [] σ H s:=⟨bF5 I.ok,I.os,I.bare,I.base,I.loc,I.cell,I.free,I.freeC,λp a=>I.pin p (by rw[bAJ] at a;exact a),I.hok,I.len⟩
def Inv.aBc (b:X.Ok)(I:Inv (yC X bFU σ₀ E) pins' σ H s):Inv X bFU σ H s:=⟨b,I.os,I.bare,I.base,I.loc,I.cell,I.free,I.freeC,λp a=>I.pin p (bDS _ a),I.hok,I.len⟩
def Inv.aPv (I:Inv X bFU σ H s):Inv (tL X e) bFU σ H s:=⟨bAd I.ok,I.os,I.bare,I.base,I.loc,I.cell,I.free,I.freeC,I.pin,I.hok,I.len⟩
def Inv.aK4 (a:X.Ok)(I:Inv (tL X e) bFU σ H s):Inv X bFU σ H s:=⟨a,I.os,I.bare,I.base,I.loc,I.cell,I.free,I.freeC,I.pin,I.hok,I.len⟩
def aRj (σ₀:St)(sp:Sp)(dvs:List V)(E:XK)(t:TA):TE:=fun σ H Q=>σ=σ₀/\t σ H λvs H1=>sp (vs++dvs) H1 Q E
def aU3 (ok:X.Ok)(F:iM X.prog X.w X.K X.mg X.base (CXR X.prog X.w) k f fd ps sp)(hr:Room k X.A)(Y:Gl X x)(Z:X.mg x=some (.ref f))(hk:PySem.W.keepIn X.K (.ref f)=true)(U:Binds X.K fd ps ds)(hd:Vals dvs ds)
  (ha:PA (yC X bFU₀ σ₀ E) (e::es) t) (J:(x == ("__debug__":Str))=false:=by decide) (V:starEach (e::es) X.env=(false,eval e X.env)::starEach es X.env:=by rfl) (M:(backTo pos (starEach es X.env)).any (·.1)=false:=by rfl) :
  PE (yC X bFU₀ σ₀ E) (.Call (.Name x p) (e::es) [] pos) (aRj σ₀ sp dvs E t):=by
 rintro bFU s σ H Q I ⟨rfl,h⟩;refine bBT (nR I Y Z ?_ J);refine PySem.W.callWith_K I.ok.mod.kin hk (thn (ha pos bFU s σ H _ I h) λi o ⟨B,R,d,r,q⟩=>⟨d.kIn,?_⟩) V M;have y:=r.append hd;have O:(i++ds).length=ps.length:=by rw[<-y.length];exact F.len _ _ _ _ q
 refine bDM (bDF (F.run X.A X.stack o R ⟨i,[]⟩ (i++ds) (B++dvs) Q E hr d.env0 (U o i d.kIn O) y q) λr s' c=>?_);cases r with
 |error v=>obtain⟨a,T,G,C,S,rfl,P,g,n,D,l,j,N,m,L⟩:=c;exact⟨a,T,G,C,S,rfl,(Inv.aBc ok d).call' (s':=s') P N m g (λb z=>absurd z (by simp)),n,D,l,j,L⟩
 |ok fl=>
  cases fl with
  |ret u=>exact d.after c
  |next=>exact False.elim c
  |brk=>exact False.elim c
  |cont=>exact False.elim c
structure XS (K:bFQ)(S:Addr):Prop where
 ty:PySem.W.typeIn K (.ref S)=some (.type "type")
 cls:(PySem.W.clsIn K S).isSome=true
 base:PySem.W.mroIn K S (.type "BaseException")=some true
def aIv {M:Model}{A:Around}{E:bFR}{s:Shared}{K:bFQ}{S C e:Addr}{oe:Obj}{Q:Bool->Shared->Prop}(X:K.In s.heap)(b:XS K S)(n:s.heap.get? e=some oe)(r:oe.cls=.ref C)(v:PySem.W.mroIn K C (.ref S)=some true)
  (u:Q true s):wpAny M A (excMatches (.ref e) (.ref S)) Q E s:=by
 obtain⟨h,g,d,t,p⟩:=s;have T:PySem.W.Looks M h (typeOf (.ref S)) (.type "type"):=PySem.W.looks_typeIn X b.ty;have j:PySem.W.Looks M h (isInstance (.ref S) (.type "tuple")) false:=T.andThen (PySem.W.Looks.of_pure tc_notTuple);have m:PySem.W.Looks M h (isType (.ref S)) true:=by
  obtain⟨o,q⟩:=Option.isSome_iff_exists.mp b.cls;unfold PySem.W.clsIn at q
  split at q
  ·rename_i k;exact (PySem.W.Looks.ld (X _ _ k)).andThen .now
  ·cases q
 have l:PySem.W.Looks M h (typeOf (.ref e)) (.ref C):=r ▸ (PySem.W.Looks.ld n).andThen .now;have i:=PySem.W.looks_mroIn (M:=M) X b.base;have c:=PySem.W.looks_mroIn (M:=M) X v;have f:PySem.W.Looks M h (isExcClass (.ref S)) true:=m.andThen i;unfold excMatches;refine c7 (j.at ?_);rw[if_neg (by decide)];refine c7 (j9 (a:=[Value.ref S]) ?_);simp only[bDP,bFI];refine c7 (c7 (c7 (f.at ?_)));simp only[Bool.not_true,bDB,if_false];refine j9 (j9 (c7 (l.at (c7 (c7 (c7 (c.at ?_)))))));simp only[if_true];exact j9 (j9 (j9 u))
def bG5 (D:Ends)(i:Nat):Ends:={ nx:=fun σ H=>D.nx (σ.set i none) H,rt:=D.rt,bk:=fun σ H=>D.bk (σ.set i none) H,ct:=fun σ H=>D.ct (σ.set i none) H }
def exE (K:bFQ)(S:Addr)(i:Nat)(th:TS)(D:Ends)(σ:St):XK:=λv o H₁=>∃C e fI,v=.ref C/\o=some e/\XC K C fI/\PySem.W.mroIn K C (.ref S)=some true /\
 ∀T dx,H₁ e=none->H₁ T=none->T≠e->H₁ dx=some xdA->th (bG5 D i) (σ.set i (some (.ref e))) (up2 H₁ e T C dx)
def bHk (K:bFQ)(S:Addr)(i:Nat)(tb:St->XK->TS)(th:TS):TS:=λD σ H=>tb σ (exE K S i th D σ) D σ H
def bGa (a3:X.stack=X.env::X.outer)(P:X.env.frame=some X.env.locals)(p:X.N.Nodup)(w:X.N[i]?=some n)(m:X.env.scope.names.lookup n=some .local)
  (hg:Gl X x) (hm:X.mg x=some (.ref S)) (hS:XS X.K S) (hb:∀bFU σ₀ E,X.Ok->PSs (yC X bFU σ₀ E) body (tb σ₀ E)) (hh:∀e,PSs (tL X e) (b₀::suite) th) (a1:(x == ("__debug__":Str))=false:=by decide) :
  PS X (.Try body [.ExceptHandler (some (.Name x np)) (some n) (b₀::suite) hpos] [] [] pos) (bHk X.K S i tb th):=by
 intro bFU s σ H D I h;refine wpAny_Try_except (bBB (hb bFU σ (exE X.K S i th D σ) I.ok [] s σ H D I.bB9 h) (λf W l=>?_) λv W l=>?_)
 ·cases f with
  |next=>obtain⟨d,b,a,q⟩:=l;exact bDO ⟨d,b,Inv.aBc I.ok a,q⟩
  |brk=>obtain⟨d,b,a,q⟩:=l;exact⟨d,b,Inv.aBc I.ok a,q⟩
  |cont=>obtain⟨d,b,a,q⟩:=l;exact⟨d,b,Inv.aBc I.ok a,q⟩
  |ret u=>obtain⟨v,d,b,a,r,q⟩:=l;exact⟨v,d,b,Inv.aBc I.ok a,r,q⟩
 ·obtain⟨e,T,t,C,R,rfl,I1,Q,nT,G,Y,C',e',fI,eC,ee,c,J,q⟩:=l;cases eC;cases ee;refine aCe I1 a3 P Q nT G λA a0 O F g=>jX O g λs2 o=>?_;have B:Inv (tL X e) bFU σ (up2 R e A C t) s2:=o.aPv;refine wpAny_handleBy_cons (codeAny_handlers_test ?_) (by intro q;cases q);refine nR (X:=tL X e) B hg hm ?_ a1;have e1:up2 R e A C t e=some (zM e A C t):=aJ;obtain⟨vs,M,hz,V⟩:=(o.hok e _ e1).1;refine aIv o.kIn hS M rfl J ?_;rw[if_pos rfl];refine codeAny_handlers_suite_as ?_;refine jX o g λa2 Z=>?_;refine aFh Z p w (.inl m) (v:=.ref e) rfl (λs3 U=>?_) (.inr m);refine bBB (hh e bFU s3 _ _ _ U.aPv (q A t Q F g Y)) (λf s4 y=>?_) λ_ _ z=>z.elim;cases f with
  |next=>obtain⟨d,b,a,j⟩:=y;exact name_goes (Inv.aK4 I.ok a) p w m λL k=>⟨_,b,k,j⟩
  |brk=>obtain⟨d,b,a,j⟩:=y;exact name_goes (Inv.aK4 I.ok a) p w m λL k=>⟨_,b,k,j⟩
  |cont=>obtain⟨d,b,a,j⟩:=y;exact name_goes (Inv.aK4 I.ok a) p w m λL k=>⟨_,b,k,j⟩
  |ret u=>obtain⟨v,d,b,a,r,j⟩:=y;exact name_goes (Inv.aK4 I.ok a) p w m λL k=>⟨v,_,b,k,r,j⟩
def bGs (K:bFQ)(ta:TE):TE:=fun σ H Q=>ta σ H λx H1=>∃e T C dx fI,x=.ref e/\H1 e=some (zM e T C dx)/\XC K C fI/\H1 dx=some xdA/\Q .non H1
def bF9 (A:PE X o ta)(w:attributeBase o "act" X.env (eval o X.env)=eval o X.env:=by rfl):PE X (.Attribute o "act" pos) (bGs X.K ta):=by
 intro d s σ H Q I h;refine aQ9 w (thn (A d s σ H _ I h) λu B ⟨x,v,a,n,e,T,C,l,F,p,j,c,r,q⟩=>?_);subst p;obtain rfl:u=Value.ref e:=n;obtain⟨D,f,E,i⟩:=(a.hok e _ j).1;obtain⟨g,m,k⟩:=a.hok l _ r;have b:=k "act";have t:g "act"=some .none:=by
  cases z:g "act" with
  |none=>rw[z] at b;exact False.elim b
  |some y=>rw[z] at b;exact congrArg some b
 exact x_load a.kIn c f m t rfl ⟨.non,v,a.tok _,rfl,q⟩
def aX6 (K:bFQ)(D:V)(Du:Value)(b:Bool->Prop):List V->Hp->VK->Prop:=λxs H Q=>∃e T C dx fI bb,xs=[.ref e,D]/\H e=some (zM e T C dx)/\XC K C fI/\H dx=some xdA/\PySem.W.mroIn K C Du=some bb/\b bb/\Q (.bl bb) H
def aL3 (x:∀u,RelV D u->u=Du)(p:∀(M:Model) (h:Heap),X.K.In h->PySem.W.Looks M h (typeOf Du) (.type "type"))(n:∀(M:Model) (h:Heap),X.K.In h->PySem.W.Looks M h (isType Du) true) :
  dW X (.builtin "isinstance") (aX6 X.K D Du λ_=>True):=by
 rintro bFU s σ H xs us Q I r ⟨e,T,C,dx,fI,bb,rfl,he,c,hd,hm,-,q⟩;cases r with
 |cons r0 r1=>
  cases r1 with
  |@cons _ u2 _ _ r2 r3=>
   cases r3;obtain rfl:=r0;have j:=(x _ r2).symm;subst j;obtain⟨m,f,v,k⟩:=(I.hok e _ he).1;have d:∃o,s.heap.get? dx=some o:=by obtain⟨y,⟨o,_,_,l,_⟩,_⟩:=I.hok dx _ hd;exact⟨o,l⟩
   have g:Meets (Builtin.«isinstance» ⟨[.ref e,Du],[]⟩) (λ_ R s=>X.K.In s.heap/\s.heap.get? e=some { cls:=.ref C,dict:=some dx,data:=.fields m }/\(∃o,s.heap.get? dx=some o)/\∀t,R (.ok (.ret (.bool bb))) { s with toks:=t }):=
    λi w A R s b=>isinstance_outer (aJx b.1 c b.2.1 (λa z=>by cases z;exact b.2.2.1) (p _ _ b.1) (n _ _ b.1) hm λt=>b.2.2.2 t) (by intro z;cases z)
   exact call_isinstance g ⟨I.kIn,f,d,λt=>⟨.bl bb,H,I.tok t,rfl,q⟩⟩
def bA5 (b:XS X.K D):dW X (.builtin "isinstance") (aX6 X.K (.ref D) (.ref D) λ_=>True):=by
 refine aL3 (λu r=>r) (λM h k=>PySem.W.looks_typeIn k b.ty) λM h k=>?_;obtain⟨c,q⟩:=Option.isSome_iff_exists.mp b.cls;unfold PySem.W.clsIn at q
 split at q
 ·rename_i a;exact (PySem.W.Looks.ld (k _ _ a)).andThen .now
 ·cases q
def bC4:dW X (.builtin "isinstance") (aX6 X.K (.ty "ValueError") (.type "ValueError") λ_=>True):=
 aL3 (λu r=>r) (λM h k=>PySem.W.Looks.of_pure bCy) λM h k=>.now
end L2
namespace PySem
namespace RvF
end RvF
end PySem
namespace L2
open PySem PySem.Spec PyProof.Rows
def aBz:bootBuiltins "int"=some (.type "int"):=by trivial
def bBt:bootBuiltins "bool"=some (.type "bool"):=by trivial
def vK:bootBuiltins "str"=some (.type "str"):=by trivial
def aQ5:bootBuiltins "list"=some (.type "list"):=by trivial
def cG:bootBuiltins "tuple"=some (.type "tuple"):=by trivial
def bBg:bootBuiltins "dict"=some (.type "dict"):=by trivial
def bE7:bootBuiltins "zip"=some (.type "zip"):=by trivial
def aJ4:bootBuiltins "enumerate"=some (.type "enumerate"):=by trivial
def bR:bootBuiltins "isinstance"=some (.builtin "isinstance"):=by trivial
def dJ:bootBuiltins "len"=some (.builtin "len"):=by trivial
def aJw:bootBuiltins "all"=some (.builtin "all"):=by trivial
def bCz:bootBuiltins "any"=some (.builtin "any"):=by trivial
def bEu:bootBuiltins "min"=some (.builtin "min"):=by trivial
def aS1:bootBuiltins "sorted"=some (.builtin "sorted"):=by trivial
def sgn (x:Str)(i:Nat):Str:=⟨#[x.cps.getD i 0]⟩
def aWy (h:x.cps[i]?=some c):(⟨#[c]⟩:Str)=sgn x i:=by unfold sgn;rw[bCZ,h];rfl
def Its (x:Str):It:=⟨λi _=>i<x.cps.size,λi H v H'=>H'=H/\v=.str (sgn x i),λi _=>x.cps.size<=i⟩
def aUi {P:Program}{w:World}{K:bFQ}{tg:Expr}(it:Addr)(x:Str)(t:Tok):Turn P w K tg (Its x) [it] it (λi h=>h.IsStrIter it "str_ascii_iterator" x t i) where
 mem:=by simp
 obj:=λi h a b f=>by
  have e:b=it:=by simpa using f
  subst e;obtain⟨o,e,c,d⟩:=a;exact⟨o,e,λv z=>by rw[d] at z;cases z⟩
 keep:=λi h l a k=>let ⟨o,ho,r⟩:=a;⟨o,k it (by simp) o ho,r⟩
 item:=by intro X F n G B i g s σ H E I m a y;subst F n G;obtain⟨C,D,O,J,p,A⟩:=m it (by simp);refine (Walks.strAscii (prog:=X.prog) (w:=X.w) (I.ok.hd B) it x t).item i s _ _ y a λv l tk M j L=>?_;obtain⟨c,u,q,rfl⟩:=M;have Q:Inv X g σ H { s with heap:=l,toks:=tk }:=I.turned (λb o f e=>L b o (by simpa using f) e) C D J p A;obtain⟨o,e,R,d⟩:=id j;exact⟨_,rfl,aMc (s:={ s with heap:=l,toks:=tk }) e R d (by decide) ⟨.str ⟨#[c]⟩,H,Q,⟨u,rfl⟩,⟨rfl,by rw[aWy q]⟩,j,λb f=>(m b f).1⟩⟩
 done:=by intro X F n G B i g s σ H E I m a y;subst F n G;obtain⟨C,D,O,J,p,A⟩:=m it (by simp);exact wpAny_pyNext_ascii_end (I.ok.hd B) a (Array.getElem?_eq_none_iff.mpr y) λl N=>⟨rfl,I.turned (t':=s.toks) (λb o f e=>N b o f e) C D J p A⟩
 self:=λ_ _ _ _ _ a h=>wpAny_pyIter_striter_ascii a h
def aTq {P:Program}{w:World}{K:bFQ}{tg:Expr}(it:Addr)(x:Str)(t:Tok):Turn P w K tg (Its x) [it] it (λi h=>h.IsStrIter it "str_iterator" x t i) where
 mem:=by simp
 obj:=λi h a b f=>by
  have e:b=it:=by simpa using f
  subst e;obtain⟨o,e,c,d⟩:=a;exact⟨o,e,λv z=>by rw[d] at z;cases z⟩
 keep:=λi h l a k=>let ⟨o,ho,r⟩:=a;⟨o,k it (by simp) o ho,r⟩
 item:=by intro X F n G B i g s σ H E I m a y;subst F n G;obtain⟨C,D,O,J,p,A⟩:=m it (by simp);refine (Walks.strWide (prog:=X.prog) (w:=X.w) (I.ok.hd B) it x t).item i s _ _ y a λv l tk M j L=>?_;obtain⟨c,u,q,rfl⟩:=M;have Q:Inv X g σ H { s with heap:=l,toks:=tk }:=I.turned (λb o f e=>L b o (by simpa using f) e) C D J p A;obtain⟨o,e,R,d⟩:=id j;exact⟨_,rfl,aMc (s:={ s with heap:=l,toks:=tk }) e R d (by decide) ⟨.str ⟨#[c]⟩,H,Q,⟨u,rfl⟩,⟨rfl,by rw[aWy q]⟩,j,λb f=>(m b f).1⟩⟩
 done:=by intro X F n G B i g s σ H E I m a y;subst F n G;obtain⟨C,D,O,J,p,A⟩:=m it (by simp);exact wpAny_pyNext_wide_end (I.ok.hd B) a (Array.getElem?_eq_none_iff.mpr y) λl N=>⟨rfl,I.turned (t':=s.toks) (λb o f e=>N b o f e) C D J p A⟩
 self:=λ_ _ _ _ _ a h=>wpAny_pyIter_striter_wide a h
def bDk (tl:TE):TI:=fun σ H R=>tl σ H λx H1=>∃z,x=.str z/\R (Its z) H1
def bE1 (n:PE X l tl):PI X tg l (bDk tl):=by
 intro c s σ H R I h;refine thn (n c s σ H _ I h) λv a ⟨x,f,d,j,k⟩=>?_;obtain⟨z,e,q⟩:=k;subst e;obtain⟨t,rfl⟩:=j;have g:∀b∈[a.heap.objs.size],xK X c f b:=λb m=>by
  have e:b=a.heap.objs.size:=by simpa using m
  subst e;exact d.aQl (v7 _) (d.hok.fresh (v7 _))
 cases i:z.cps.all (·<128)
 ·exact wpAny_pyIter_wide i ⟨a.heap.objs.size,[a.heap.objs.size],_,_,f,rfl,d.kept (t':=a.toks) λb o e=>j4 _ e,aTq _ z t,⟨_,z9 _ rfl,rfl,rfl⟩,g,q⟩
 ·exact wpAny_pyIter_ascii i ⟨a.heap.objs.size,[a.heap.objs.size],_,_,f,rfl,d.kept (t':=a.toks) λb o e=>j4 _ e,aUi _ z t,⟨_,z9 _ rfl,rfl,rfl⟩,g,q⟩
def aPq (x:V)(T:String):Option Bool:=match x with
 |.int _=>if T = "int" then some true else if T = "bool" then some false else if T = "str" then some false else none
 |.str _=>if T = "int" then some false else if T = "bool" then some false else if T = "str" then some true else none
 |.bl _=>if T = "int" then some true else if T = "bool" then some true else if T = "str" then some false else none
 |_=>none
def bGr:List V->Hp->VK->Prop:=λxs H Q=>∃x T b,xs=[x,.ty T]/\aPq x T=some b/\Q (.bl b) H
def mR:dW X (.builtin "isinstance") bGr:=by
 intro d s σ H m l Q I r h;obtain⟨x,T,b,rfl,e,q⟩:=h;obtain⟨u,v,rfl,g,j⟩:=r.two;cases j;have f:∀{k:Bool},some k=some b->EP X d σ Q (.bool k) s:=λe=>by cases e;exact⟨.bl _,H,I,rfl,q⟩
 have c:∀{k:Bool},some k=some b->EP X d σ Q (.bool k) { s with toks:=s.toks+1 }:=λe=>by cases e;exact⟨.bl _,H,I.tok _,rfl,q⟩
 cases x with
 |int i=>
  obtain⟨t,rfl⟩:=g;unfold aPq at e;dsimp only at e
  split at e
  ·rename_i a;subst a;exact IsiPair.int_int (f e)
  split at e
  ·rename_i a;subst a;exact IsiPair.int_bool (c e)
  split at e
  ·rename_i a;subst a;exact IsiPair.int_str (c e)
  ·cases e
 |str z=>
  obtain⟨t,rfl⟩:=g;unfold aPq at e;dsimp only at e
  split at e
  ·rename_i a;subst a;exact IsiPair.str_int (c e)
  split at e
  ·rename_i a;subst a;exact IsiPair.str_bool (c e)
  split at e
  ·rename_i a;subst a;exact IsiPair.str_str (f e)
  ·cases e
 |bl z=>
  cases g;unfold aPq at e;dsimp only at e
  split at e
  ·rename_i a;subst a;exact IsiPair.bool_int (f e)
  split at e
  ·rename_i a;subst a;exact IsiPair.bool_bool (f e)
  split at e
  ·rename_i a;subst a;exact IsiPair.bool_str (c e)
  ·cases e
 |_=>cases (show (none:Option Bool)=some b from e)
def small (h:n<=1000):n<=sizeLine:=bDW (eG h)
def iC:Vals [] []:=.nil
def cI (r:RelV x u)(t:Vals xs us):Vals (x::xs) (u::us):=.cons r t
def eU:Expr->Bool
 |.Starred ..=>false
 |_=>true
def bG (h:eU e=true):starEach (e::es) env=(false,eval e env)::starEach es env:=by cases e <;> first|rfl|cases h
def aZ1 (a:PE X e te)(b:PA X es t)(c:eU e=true:=by rfl) :
  PA X (e::es) (eE te t):=bAs a b (bG c)
def bG8 (b:Gl X x)(a:∃u,X.mg x=some u/\RelV v u)(hd:(x == ("__debug__":Str))=false:=by decide):PE X (.Name x pos) (tC v):=by obtain⟨u,a,r⟩:=a;exact aZu b a r hd
section
variable {P:Program}{w:World}{K:bFQ}{mg:bFT}{base:Heap}
def Dn (K:bFQ)(mg:bFT)(x:Str)(st:Stmt)(ps:List Str):Prop:=∃f fd,Fun K x x st f fd/\Binds K fd ps []/\mg x=some (.ref f)
def Ok (P:Program)(w:World)(K:bFQ)(mg:bFT)(base:Heap)(k:Nat)(x:Str)(ps:List Str)(sp:Sp):Prop:=
 ∃f fd,mg x=some (.ref f)/\PySem.W.keepIn K (.ref f)=true/\Binds K fd ps []/\!iM CX0 k f fd ps sp
def Ok.mono (h:!Ok j x ps sp)(g:j<=k):!Ok k x ps sp:=by obtain⟨f,b,a,e,d,c⟩:=h;exact⟨f,b,a,e,d,c.mono g⟩
def Ok.of {x:Str}{st:Stmt}{N ps:List Str}{k:Nat}{sp:Sp}(D:Dn K mg x st ps)(S:aM N ps (aC st))(d:∀vs H Q E,sp vs H Q E->vs.length=ps.length)
  (a:∀(f:Addr) (cdv:Value) (A:Around) (outer:List Env) (s:Shared) (H:Hp) (vs:List V) (Q:VK) (E:XK),Room k (A.deeper (envOfC x (aC st) s.heap.objs.size f cdv))->sp vs H Q E ->
   ∃t,PSs (uT CX0 P w K mg base N x (aC st) f cdv A outer s H E).nox (dN st) t/\t { nx:=λ_ H'=>Q .non H',rt:=Q } (start N vs) H):!Ok (k+1) x ps sp:=by
 obtain⟨f,b,F,B,m⟩:=D;exact⟨f,b,m,F.kp,B,F.ok S d λcdv A outer s H vs Q E c h=>a f cdv A outer s H vs Q E c h⟩
end
def bH5 (G:Ok X.prog X.w X.K X.mg X.base k x ps sp)(n:Room k X.A)(j:Gl X x)(l:PA X (e::es) t)(c:(x == ("__debug__":Str))=false:=by decide)
  (m:starEach (e::es) X.env=(false,eval e X.env)::starEach es X.env:=by rfl) (g:(backTo pos (starEach es X.env)).any (·.1)=false:=by rfl) :
  PE X (.Call (.Name x p) (e::es) [] pos) (aC1 sp [] E0 t):=by
 obtain⟨f,i,d,h,b,a⟩:=G;exact aSg a n j d h b .nil aGh l c m g
def bFc (G:Ok X.prog X.w X.K X.mg X.base k x ps sp)(i:Room k X.A)(h:Gl X x)(c:(x == ("__debug__":Str))=false:=by decide) :
  PE X (.Call (.Name x p) [] [] pos) (aC1 sp [] E0 pP):=by
 obtain⟨f,g,d,e,b,a⟩:=G;exact aVc a i h d e b .nil aGh c
theorem zT (f:Str × NameKind->List (Str × Addr)->Sem (ForInStep (List (Str × Addr))))
  (i:∀n r,f (n,.free) r=(cellOf env n >>= λa=>pure (.yield ((n,a)::r)))) (l:∀n k r,k≠.free->f (n,k) r=pure (.yield r)) :
  ∀(names:List (Str × NameKind)) (acc:List (Str × Addr)),(∀y∈names,y.2=.free->∃c,env.cells.lookup y.1=some c) ->
  ∃cl,forIn names acc f=(pure (cl++acc):Sem _)/\(∀p∈cl,env.cells.lookup p.1=some p.2/\(p.1,NameKind.free)∈names)/\∀y,(y,NameKind.free)∈names->∃c,(y,c)∈cl
 |[],acc,_=>⟨[],by simp,λ_ h=>(nomatch h),λ_ h=>(nomatch h)⟩
 |(n,k)::r,acc,h=>by
  by_cases g:k=.free
  ·subst g;obtain⟨c,j⟩:=h (n,.free) j7 rfl;obtain⟨cl,e,b,d⟩:=zT f i l r ((n,c)::acc) λy hy=>h y (j8 _ hy);refine⟨cl++[(n,c)],?_,λp hp=>?_,λy hy=>?_⟩
   ·rw[bDP,i];have o:cellOf env n=pure c:=by unfold cellOf;rw[j]
    rw[o,pure_bind,pure_bind];show forIn r ((n,c)::acc) f=_;rw[e,bAB];rfl
   ·rcases List.mem_append.mp hp with hp|hp
    ·exact⟨(b p hp).1,j8 _ (b p hp).2⟩
    ·obtain rfl:=List.mem_singleton.mp hp;exact⟨j,j7⟩
   ·rcases List.mem_cons.mp hy with e|hy
    ·cases e;exact⟨c,by simp⟩
    ·obtain⟨m,q⟩:=d y hy;exact⟨m,bDS _ q⟩
  ·obtain⟨cl,e,b,d⟩:=zT f i l r acc λy hy=>h y (j8 _ hy);refine⟨cl,?_,λp hp=>⟨(b p hp).1,j8 _ (b p hp).2⟩,λy hy=>?_⟩
   ·rw[bDP,l n k acc g,pure_bind];exact e
   ·rcases List.mem_cons.mp hy with e|hy
    ·cases e;exact absurd rfl g
    ·exact d y hy
def aPg (h:∀y∈scope.names,y.2=.free->∃c,env.cells.lookup y.1=some c) :
  ∃cl,closureFor scope env=pure cl/\(∀p∈cl,env.cells.lookup p.1=some p.2/\(p.1,NameKind.free)∈scope.names)/\∀y,(y,NameKind.free)∈scope.names->∃c,(y,c)∈cl:=by
 unfold closureFor;obtain⟨cl,e,d,b⟩:=zT (env:=env) (λx r=>match x with|(name,kind)=>if (kind == NameKind.free)=true then do let a <-cellOf env name;pure (.yield ((name,a)::r)) else pure (.yield r))
  (λn r=>rfl) (λn k r f=>by
   have:(k == NameKind.free)=false:=by simpa using f
   simp only[this,bDB,if_false]) scope.names [] h
 refine⟨cl,?_,d,b⟩;rw[bAJ] at e;refine Eq.trans ?_ e;first
 |rfl
 |simp
theorem lookup_mem {α β:Type}[BEq α][LawfulBEq α]{a:α}{b:β}:∀{l:List (α × β)},(a,b)∈l->∃b',l.lookup a=some b'
 |(x,y)::r,h=>by
  rw[bDA];by_cases e:(a == x)=true
  ·exact⟨y,by rw[e]⟩
  ·have c:(a == x)=false:=by simpa using e
   rw[c];rcases List.mem_cons.mp h with z|z
   ·cases z;simp at e
   ·exact lookup_mem z
theorem aAc {env:Env}{y:Str}{k:NameKind}:∀{names:List (Str × NameKind)},names.lookup y=some .free ->
  (names.map λx=>match x with|(n,k)=>if (k == NameKind.free && env.scope.kind == ScopeKind.function && env.kindOf n == some NameKind.cell) then (n,NameKind.cell) else (n,k)).lookup y=some .cell \/
  (names.map λx=>match x with|(n,k)=>if (k == NameKind.free && env.scope.kind == ScopeKind.function && env.kindOf n == some NameKind.cell) then (n,NameKind.cell) else (n,k)).lookup y=some .free
 |[],h=>by simp at h
 |(n,k')::r,h=>by
  rw[bAE];rw[bDA] at h;by_cases e:(y == n)=true
  ·rw[e] at h;cases h;by_cases q:((NameKind.free == NameKind.free) && env.scope.kind == ScopeKind.function && env.kindOf n == some NameKind.cell)=true
   ·left;simp only[q,if_true,bDA,e]
   ·right;have d:=Bool.eq_false_iff.mpr q;simp only[d,bDB,if_false,bDA,e]
  ·have b:(y == n)=false:=by simpa using e
   rw[b] at h;have c:=aAc (env:=env) (k:=k) h;have a:∀z:Str × NameKind,z.1=n->(List.lookup y (z::(r.map λx=>match x with|(n,k)=>if (k == NameKind.free && env.scope.kind == ScopeKind.function && env.kindOf n == some NameKind.cell) then (n,NameKind.cell) else (n,k)))) =
     List.lookup y (r.map λx=>match x with|(n,k)=>if (k == NameKind.free && env.scope.kind == ScopeKind.function && env.kindOf n == some NameKind.cell) then (n,NameKind.cell) else (n,k)):=λz f=>by
    obtain⟨i,j⟩:=z;cases f;rw[bDA,b]
   have g:(match ((n,k'):Str × NameKind) with|(n,k)=>if (k == NameKind.free && env.scope.kind == ScopeKind.function && env.kindOf n == some NameKind.cell) then (n,NameKind.cell) else (n,k)).1=n:=by
    dsimp only
    split <;> rfl
   rw[a _ g];exact c
theorem aA6 {env:Env}{y:Str}:∀{names:List (Str × NameKind)},(∀z∈names,z.2≠.cell) ->
  ((names.map λx=>match x with|(n,k)=>if (k == NameKind.free && env.scope.kind == ScopeKind.function && env.kindOf n == some NameKind.cell) then (n,NameKind.cell) else (n,k)).lookup y=some .cell \/
  (names.map λx=>match x with|(n,k)=>if (k == NameKind.free && env.scope.kind == ScopeKind.function && env.kindOf n == some NameKind.cell) then (n,NameKind.cell) else (n,k)).lookup y=some .free)->(y,NameKind.free)∈names
 |[],_,h=>by simp at h
 |(n,k')::r,hc,h=>by
  rw[bAE] at h;by_cases e:(y == n)=true
  ·have c:y=n:=by simpa using e
   subst c;have g:k'=.free:=by
    by_cases q:((k' == NameKind.free) && env.scope.kind == ScopeKind.function && env.kindOf y == some NameKind.cell)=true
    ·rw[w6,w6] at q;simpa using q.1.1
    ·have d:=Bool.eq_false_iff.mpr q;simp only[d,bDB,if_false,bDA,e] at h;rcases h with h|h
     ·cases h;exact absurd rfl (hc (y,.cell) j7)
     ·cases h;rfl
   subst g;exact j7
  ·have f:(y == n)=false:=by simpa using e
   have a:∀z:Str × NameKind,z.1=n->(List.lookup y (z::(r.map λx=>match x with|(n,k)=>if (k == NameKind.free && env.scope.kind == ScopeKind.function && env.kindOf n == some NameKind.cell) then (n,NameKind.cell) else (n,k)))) =
     List.lookup y (r.map λx=>match x with|(n,k)=>if (k == NameKind.free && env.scope.kind == ScopeKind.function && env.kindOf n == some NameKind.cell) then (n,NameKind.cell) else (n,k)):=λz b=>by
    obtain⟨j,l⟩:=z;cases b;rw[bDA,f]
   have i:(match ((n,k'):Str × NameKind) with|(n,k)=>if (k == NameKind.free && env.scope.kind == ScopeKind.function && env.kindOf n == some NameKind.cell) then (n,NameKind.cell) else (n,k)).1=n:=by
    dsimp only
    split <;> rfl
   rw[a _ i] at h;exact j8 _ (aA6 (λz b=>hc z (j8 _ b)) h)
def aUs (I:Nat->Shared->Prop)
  (d:∀n s,I n s->wpAny (model prog w) A (pyNext it) (λr s₁=>match r with
   |none=>R (.ok .next) s₁
   |some v=>wpAny (model prog w) A (letOwnedTupleGo target it v) (λ_ s'=>wpAny (model prog w) A (assign target env v) (λ_ s₂=>
     wpAny (model prog w) A (forIn ifs true λc r=>if r=true then do let ok <-isTrue c env (eval c env);pure (ForInStep.yield ok) else pure (ForInStep.yield r)) (λok s₃=>
      if ok=true then wpAny (model prog w) A (eval elt env) (λx s₄=>
       wpAny (model prog w) A (call (.builtin "list.append") [acc,x]) (λ_ s₅=>∃m,m<n/\I m s₅) (notedBy (model prog w) A env λe s'=>R (.error e) s') s₄) (notedBy (model prog w) A env λe s'=>R (.error e) s') s₃
      else ∃m,m<n/\I m s₃) (notedBy (model prog w) A env λe s'=>R (.error e) s') s₂) (notedBy (model prog w) A env λe s'=>R (.error e) s') s') (notedBy (model prog w) A env λe s'=>R (.error e) s') s₁)
   (notedBy (model prog w) A env λe s'=>R (.error e) s') s)
  (n:Nat) (h:I n s):codeAny (model prog w) A (.compLoop (.ListComp elt [⟨target,iter,ifs,0⟩] scope pos) 0 it acc env) R s:=by
 refine codeAny_loop rfl I (λn s i=>?_) n h;show wpAny _ A ((compTurn (.ListComp elt [⟨target,iter,ifs,0⟩] scope pos) 0 it acc env).onRaise (λx=>do noteFrame x env;theTreesLotGoes x)) _ _ s;refine wpAny_noted ?_;rw[compTurn_list];refine c7 (bDH (c7 (bBB (d n s i) (λr s₁ f=>?_) λ_ _ a=>a)));cases r with
 |none=>exact j9 f
 |some v=>
  refine c7 (bBB f (λ_ s' b=>c7 (bBB b (λ_ s₂ l=>c7 (bBB l (λok s₃ g=>?_) λ_ _ a=>a)) λ_ _ a=>a)) λ_ _ a=>a);cases ok with
  |false=>exact j9 ⟨rfl,g⟩
  |true=>exact c7 (c7 (bBB g (λx s₄ k=>c7 (bBB k (λ_ s₅ j=>j9 (j9 ⟨rfl,j⟩)) λ_ _ a=>a)) λ_ _ a=>a))
def cxC (X:Cx)(N:List Str)(scope:Scope)(cl:List (Str × Addr))(s:Shared)(H:Hp)(fp:List Addr):Cx:=
 { X with N:=N,s₀:=s,H₀:=H,env:=compEnvC scope cl s.heap.objs.size X.env,outer:=X.stack,stack:=X.stack,ex:=fp,fn:=λ_=>false,pn:=[],xe:=λ_ _=>False }
def aUq (X:Cx)(ifs:List Expr)(tt:TT):Prop:=
 ∀bFU s σ H Q,Inv X bFU σ H s->tt σ H Q ->
  wpAny (model X.prog X.w) X.A (forIn ifs true λc r=>if r=true then do let ok <-isTrue c X.env (eval c X.env);pure (ForInStep.yield ok) else pure (ForInStep.yield r)) (TP X bFU σ Q) X.xe s
def zR:TT:=λ_ H Q=>Q true H
def wI:aUq X [] zR:=λ_ _ _ H _ I h=>wpAny_tests_nil ⟨H,I,h⟩
def bEa (h:PT X c tc):aUq X [c] tc:=λa s σ H Q I q=>wpAny_tests_one (h a s σ H Q I q)
structure yM (scope:Scope)(N:List Str):Prop where
 cell:∀y∈scope.names,y.2≠.cell
 kind:scope.kind=.function
 names:∀y∈scope.names,y.2=.local->scope.names.lookup y.1=some .local
 free:∀y∈scope.names,y.2=.free->scope.names.lookup y.1=some .free
def Cap (X:Cx)(scope:Scope)(N:List Str)(σ σ':St):Prop:=
 σ'.length=N.length/\∀(i:Nat) (y:Str) (v:V),N[i]?=some y->σ'[i]?=some (some v)->(y,NameKind.free)∈scope.names/\∃j:Nat,X.N[j]?=some y/\σ[j]?=some (some v)/\Vis X.env.scope y
def aYc {X:Cx}{bFU:bFS}{σ σ':St}{H:Hp}{s:Shared}{scope:Scope}{N:List Str}{cl:List (Str × Addr)}{fp:List Addr}{h1:Heap}{tk:Nat}{m1:bFT}
  (I:Inv X bFU σ H s) (C:yM scope N) (a0:∀y,(y,NameKind.free)∈scope.names->X.env.kindOf y=some .cell\/X.env.kindOf y=some .free)
  (p1:∀p∈cl,X.env.cells.lookup p.1=some p.2/\(p.1,NameKind.free)∈scope.names) (p2:∀y,(y,NameKind.free)∈scope.names->∃c,(y,c)∈cl)
  (K:Cap X scope N σ σ') (O:∀b∈fp,xK X bFU H b) (Q:∀b∈fp,b<s.heap.objs.size)
  (hn:h1.Ns s.heap.objs.size m1) (F:∀b o,s.heap.get? b=some o->h1.get? b=some o) :
  Inv (cxC X N scope cl s H fp) [] σ' H { s with heap:=h1,toks:=tk }:=by
 have a:=I.ok;have g:∀y c,cl.lookup y=some c->X.env.cells.lookup y=some c:=λy c e=>(p1 _ (PySem.mem_of_lookup e)).1;have t:∀y,(y,NameKind.free)∈scope.names->∃c,cl.lookup y=some c/\X.env.cells.lookup y=some c:=λy d=>by obtain⟨c,Z⟩:=p2 y d;obtain⟨J,e⟩:=lookup_mem Z;exact⟨J,e,g y J e⟩
 have n:∀b∈fp,b∉frs X.stack:=λb f z=>by
  obtain⟨M,E,D,_⟩:=O b f;rcases List.mem_cons.mp (I.aO3 b z) with e|e
  ·exact E e
  ·exact D e
 have G:(cxC X N scope cl s H fp).Ok:=by
  refine⟨a.mod,C.kind,a.glob,a.blt,v7 _,λx y c h1 h2=>a.inj x y c (g x c h1) (g y c h2),λy d=>?_,λy c h _=>?_,a.hd,a.frames,.inl rfl,λb f=>?_,I.bs,bAF a.bsz I.sz,
   λb o e f=>?_,n,I.stack,I.aKm⟩
  ·obtain⟨c,e,_⟩:=t y (aA6 C.cell d);exact⟨c,e⟩
  ·exact absurd (show false=true from h) bAC
  ·obtain⟨M,E,D,P,L,W⟩:=O b f;exact⟨bAI (Q b f),λx c e=>L x c (g x c e)⟩
  ·obtain⟨M,E,D,P,L,W⟩:=O b f;rcases P with z|z
   ·exact a.noex b o e z
   ·exact absurd (bAL (bAA e) (bAF a.bsz z)) (bCP _)
 refine⟨G,rfl,I.bare,Un.kept F,⟨m1,hn,λi y v e1 Y e3=>?_⟩,λy c e=>?_,I.hok.fresh (v7 _),λy c e=>I.freeC y c (g y c e),λp S=>absurd (show p∈([]:bFS) from S) (by simp),I.hok.kept F,K.1⟩
 ·obtain⟨d,j,e4,U,V⟩:=K.2 i y v e1 Y;obtain⟨m,_,hl⟩:=I.loc;obtain⟨u,r,l⟩:=hl j y v e4 U V;refine⟨u,r,.inr ?_⟩;rcases l with⟨k,_⟩|⟨k,c,e,z⟩
  ·rcases a0 y d with q|q <;> (rw[k] at q;cases q)
  ·obtain⟨J,T,w⟩:=t y d;rw[e] at w;cases w;have R:=aAc (env:=X.env) (k:=.free) (C.free (y,.free) d rfl);refine⟨R,c,T,?_⟩;obtain⟨o,B,A⟩:=z;exact⟨o,F _ _ B,A⟩
 ·obtain⟨v,o,B,A⟩:=I.cell y c (g y c e);exact⟨v,o,F _ _ B,A⟩
def mU (X:Cx)(scope:Scope)(N:List Str)(wi:TI)(g:TG)(tt:TT)(te:TE):TE:=fun σ H Q=>∃σ0,Cap X scope N σ σ0/\wi σ H λJ H1=>∀D,H1 D=none->∃W:Nat->Nat->St->Hp->List V->Prop,(∃m,W 0 m σ0 (upd H1 D (.lst [])) []) /\
 ∀i m σ' H' ys,W i m σ' H' ys->H' D=some (.lst ys)/\((J.stop i H'/\Q (.ref D) H')\/(J.go i H'/\∀x H2,J.yld i H' x H2->g x σ' H2 fun σ3 H3=>tt σ3 H3 λb H4=>
  if b=true then te σ3 H4 λy H5=>H5 D=some (.lst ys)/\ys.length<sizeLine/\∃m',m'<m/\W (i+1) m' σ3 (upd H5 D (.lst (ys++[y]))) (ys++[y]) else H4 D=some (.lst ys)/\∃m',m'<m/\W (i+1) m' σ3 H4 ys))
theorem aHs {X:Cx}{ar a9 ap:Expr}{au:List Expr}{scope:Scope}{pos p9:Pos}{N:List Str}{wi:TI}{g:TG}{tt:TT}{te:TE}{use:Option (Value->Sem Unit)}{QQ:bFR}{a4:bFS}{s:Shared}{σ:St}{H:Hp}{Qv:VK}
  (C:yM scope N) (am:∀y,(y,NameKind.free)∈scope.names->X.env.kindOf y=some .cell\/X.env.kindOf y=some .free) (hc:X.calm=true)
  (hi:PI X a9 ap wi)
  (a:∀cl s H fp,PG (cxC X N scope cl s H fp) a9 g/\aUq (cxC X N scope cl s H fp) au tt/\PE (cxC X N scope cl s H fp) ar te)
  (hs:∀x,foldedSetIterable ap X.env x=pure x) (I:Inv X a4 σ H s) (hq:mU X scope N wi g tt te σ H Qv)
  (a2:∀(D fr:Addr) (H5:Hp) (s6:Shared),(∃m6,s6.heap.Ns fr m6)->(∀h',(∀b o,b≠fr->s6.heap.get? b=some o->h'.get? b=some o)->Inv X a4 σ H5 { s6 with heap:=h' })->xK X a4 H5 fr->Qv (.ref D) H5->compPost (model X.prog X.w) X.A X.xe use QQ (.ref D) fr (.ok .next) s6) :
  wpAny (model X.prog X.w) X.A (comprehension (.ListComp ar [⟨a9,ap,au,0⟩] scope pos) scope X.env p9 (newList []) false (eval ap X.env) use) QQ X.xe s:=by
 obtain⟨σ0,ao,hq⟩:=hq;obtain⟨cl,aj,p1,p2⟩:=aPg (scope:=scope) (env:=X.env) (λy hy hk=>by obtain⟨n,k⟩:=y;cases hk;exact I.ok.has n (am n hy))
 refine wpAny_comprehension_free (use:=use) rfl hs aj C.kind C.names (thn (hi a4 s σ H _ I hq) λxv s1 h1=>thn h1 λav f h2=>?_);obtain⟨it,fp,tn,J,G,rfl,I2,T,a5,f2,q2⟩:=h2;refine bBE (wpAny_newFunctionEnv C.cell (by intro y hy;simp at hy) (λh₁ E F=>?_) C.kind);dsimp only at E F ⊢;have hD:G f.heap.objs.size=none:=I2.hok.fresh (v7 _);have I3:Inv X a4 σ (upd G f.heap.objs.size (.lst [])) { f with heap:=f.heap.push { cls:=.type "list",dict:=none,data:=.seq ([]:List Value).toArray } }:=
  I2.laid (t':=f.toks) (λb u e=>j4 _ e) (v7 _) ⟨bAK _,[],0,.nil,z9 _ rfl⟩
 generalize a7:({ f with heap:=f.heap.push { cls:=.type "list",dict:=none,data:=.seq ([]:List Value).toArray } }:Shared)=s3 at I3;have S:f.heap.push { cls:=.type "list",dict:=none,data:=.seq ([]:List Value).toArray }=s3.heap:=by rw[<-a7]
 rw[S] at E F;have Z:∀b∈fp,b<f.heap.objs.size:=λb a=>by obtain⟨o,e,_⟩:=T.obj _ _ a5 b a;exact bAA e
 have af:∀b∈fp,b<s3.heap.objs.size:=λb a=>by rw[<-S,bCR];exact Nat.lt_succ_of_lt (Z b a)
 have f3:∀b∈fp,xK X a4 (upd G f.heap.objs.size (.lst [])) b:=λb a=>by obtain⟨f0,fr⟩:=f2 b a;exact⟨by rw[aR (bAI (Z b a))];exact f0,fr⟩
 have B:∀b o,s3.heap.get? b=some o->h₁.get? b=some o:=λb o e=>F.extBut b o (bAI (bAA e)) (j4 _ e);have I4:=aYc (tk:=s3.toks) I3 C am p1 p2 ao f3 af E B;have a0:tn 0 h₁:=T.keep _ _ _ a5 λb a o e=>B b o (by rw[<-S];exact j4 _ e);obtain⟨W,⟨m0,w0⟩,a1⟩:=q2 f.heap.objs.size hD;have U:∀{R:Hp},(∀b∈fp,R b=none)->∀b∈fp,xK (cxC X N scope cl s3 (upd G f.heap.objs.size (.lst [])) fp) [] R b:=λ{R} hn b a=>by obtain⟨e1,e2⟩:=I4.ok.exf b a;exact⟨hn b a,e1,I4.ok.exfs b a,.inl a,e2,λp hp=>absurd (show p∈([]:bFS) from hp) (by simp)⟩
 have L:∀s4:Shared,s4={ s3 with heap:=h₁,toks:=s3.toks } ->
   codeAny (model X.prog X.w) X.A (.compLoop (.ListComp ar [⟨a9,ap,au,0⟩] scope pos) 0 (.ref it) (.ref f.heap.objs.size) (compEnvC scope cl s3.heap.objs.size X.env))
    (compPost (model X.prog X.w) X.A X.xe use QQ (.ref f.heap.objs.size) s3.heap.objs.size) s4:=by
  rintro s4 rfl;refine aUs (λn s'=>∃i σ' R ys,Inv (cxC X N scope cl s3 (upd G f.heap.objs.size (.lst [])) fp) [] σ' R s'/\tn i s'.heap/\(∀b∈fp,R b=none)/\W i n σ' R ys) ?_ m0 ⟨0,σ0,_,[],I4,a0,λb a=>(f3 b a).1,w0⟩;rintro n s5 ⟨i,σ5,H5,ys,I5,st5,fr5,w5⟩;obtain⟨aq,w5⟩:=a1 i n σ5 H5 ys w5;have l:∀{α:Type} {t:Sem α} {Q':α->Shared->Prop} {E':bFR} {s':Shared},wpAny (model X.prog X.w) X.A t Q' (λ_ _=>False) s'->wpAny (model X.prog X.w) X.A t Q' E' s':=λh=>bBB h (λ_ _ q=>q) λ_ _ z=>z.elim;rcases w5 with⟨a8,qn⟩|⟨go,step⟩
  ·refine l (thn (T.done (cxC X N scope cl s3 (upd G f.heap.objs.size (.lst [])) fp) rfl rfl rfl hc i [] s5 σ5 H5 _ I5 (U fr5) st5 a8) λr s6 ⟨hr,O⟩=>?_);subst hr;obtain⟨m6,an,_⟩:=O.loc;refine a2 _ _ H5 s6 ⟨m6,an⟩ (λh' kp=>?_) (I3.aQl (v7 _) O.free) qn;have Q:∀b o,s3.heap.get? b=some o->b≠s3.heap.objs.size:=λb o e=>bAI (bAA e);have un:Un (frs X.stack) fp (upd G f.heap.objs.size (.lst [])) H5 s3.heap h':=by
    have u:=O.base;exact⟨λb o e n a hx=>kp b o (Q b o e) (u.keep b o e n a hx),λb o e n a hx=>by
     obtain⟨sl,e1⟩:=u.slot b o e n a hx;exact⟨sl,kp b _ (Q b o e) e1⟩,u.free,λb o e hx=>by
     obtain⟨o',e1⟩:=u.there b o e hx;exact⟨o',kp b _ (Q b o e) e1⟩,u.tups,u.frzs,u.tbls⟩
   have ac:HOk X.prog X.w H5 h':=λb u e=>by
    refine (O.hok b u e).stay (λc v ah q=>kp c v ?_ q) (λ_ q=>q) λ_ _ q=>q;have j:H5 s3.heap.objs.size=none:=O.free;rintro rfl;rcases ah with z|z
    ·rw[z] at j;rw[j] at e;cases e
    ·rw[j] at z;cases z
   refine I3.call' (s':={ s6 with heap:=h' }) O.os un ac O.bare λb a=>?_;obtain⟨f0,f1,as,aa,f4,f5⟩:=f3 b a;exact⟨aa,f1,f4,f5⟩
  ·refine l (thn (T.item (cxC X N scope cl s3 (upd G f.heap.objs.size (.lst [])) fp) rfl rfl rfl hc i [] s5 σ5 H5 (λ_ _=>False) I5 (U fr5) st5 go) λr s6 ⟨u,hr,h6⟩=>?_);subst hr;refine l (thn h6 λ_ s7 ⟨x,H7,I7,r7,y7,V,ab⟩=>?_);obtain⟨hg,ht,he⟩:=a cl s3 (upd G f.heap.objs.size (.lst [])) fp;have ad:=I7.pinned (U ab) (T.obj _ _ V);have m:∀{M:St} {H8:Hp} {s8:Shared},Inv (cxC X N scope cl s3 (upd G f.heap.objs.size (.lst [])) fp) ([]++aFe fp s7.heap) M H8 s8->tn (i+1) s8.heap/\∀b∈fp,H8 b=none:=λ{M H8 s8} I8=>
    ⟨T.keep _ _ _ V λb a o e=>(I8.pin (b,o) (bAS _ (bAS _ (uJ a e)))).1,λb a=>by obtain⟨o,e,d⟩:=T.obj _ _ V b a;exact (I8.pin (b,o) (bAS _ (bAS _ (uJ a e)))).2.1⟩
   refine l (thn (hg _ s7 σ5 H7 x u _ ad r7 (step x H7 y7)) λ_ s8 ⟨M,H8,I8,q8⟩=>?_);refine l (thn (ht _ s8 M H8 _ I8 q8) λb s9 ⟨H9,I9,q9⟩=>?_);cases b with
   |false=>rw[if_neg bAC] at q9 ⊢;obtain⟨_,m',hm,w9⟩:=q9;exact⟨m',hm,i+1,M,H9,ys,I9.vI,(m I9).1,(m I9).2,w9⟩
   |true=>rw[if_pos rfl] at q9 ⊢;refine l (thn (he _ s9 M H9 _ I9 q9) λyv ae ⟨y,a6,al,ak,K,a3,m',hm,ag⟩=>?_);refine l (thn (aHm _ ae M a6 (.ref f.heap.objs.size) [y] (.ref f.heap.objs.size) [yv] (λ_ Y=>Y=upd a6 f.heap.objs.size (.lst (ys++[y]))) al rfl (.cons ak .nil) ⟨_,_,_,rfl,rfl,K,a3,rfl⟩) λ_ aw ⟨z,Y,P,_,ai⟩=>?_);subst ai;exact⟨m',hm,i+1,M,_,ys++[y],P.vI,(m P).1,(m P).2,ag⟩
 have a2:=codeAny_compStart_list (L { s3 with heap:=h₁,toks:=s3.toks } rfl) (T.self _ _ _ _ _ a0 (L { s3 with heap:=h₁,toks:=s3.toks } rfl));subst a7;exact a2
def aZ7
  (C:yM scope N) (f:∀y,(y,NameKind.free)∈scope.names->X.env.kindOf y=some .cell\/X.env.kindOf y=some .free) (t:X.calm=true)
  (p:PI X target iter wi)
  (d:∀cl s H fp,PG (cxC X N scope cl s H fp) target g/\aUq (cxC X N scope cl s H fp) ifs tt/\PE (cxC X N scope cl s H fp) elt te)
  (hs:∀x,foldedSetIterable iter X.env x=pure x:=by intro _;rfl) :
  PE X (.ListComp elt [⟨target,iter,ifs,0⟩] scope pos) (mU X scope N wi g tt te):=by
 intro j s σ H Q I m;rw[eval_ListComp];exact aHs C f t p d hs I m λD r n q ⟨k,c⟩ a _ i=>⟨k,c,λh l=>⟨.ref D,n,a h λb o d e=>l.extBut b o d e,rfl,i⟩⟩
end L2
namespace PySem
open Sem (wp)
namespace IfF
def aWq:typeLookup (.type "function") "__class__"=pure (some (.builtin "object.__class__")):=by rw[typeLookup_type,builtinLookup_eq_fast];kernel_rfl
def aD5:Slot "function" "__getattribute__" "object.__getattribute__":=
 .of (owner:="object") (n:="__getattribute__") (by rw[typeLookup_type,builtinLookup_eq_fast];kernel_rfl) (by trivial) (by trivial) (by trivial)
  (by first|exact .inl (by trivial)|exact .inr (by trivial)) (by rw[isSubtype_type];kernel_rfl)
def aYe:entryFor table "object.__getattribute__"=some Builtin.«object.__getattribute__»:=entryFor_of_tree (by kernel_rfl)
def aD0:isSubtype (.type "function") (.type (".".intercalate ("object.__class__".cutAt '.').dropLast))=pure true:=by rw[F.owner_object_class,isSubtype_type];kernel_rfl
def sub_int:isSubtype (.type "function") (.type "int")=pure false:=by rw[isSubtype_type];kernel_rfl
def sub_bool:isSubtype (.type "function") (.type "bool")=pure false:=by rw[isSubtype_type];kernel_rfl
def bAm:isSubtype (.type "function") (.type "str")=pure false:=by rw[isSubtype_type];kernel_rfl
end IfF
section
variable {prog:Program}{w:World}{A:Around}{E:bFR}{h:Heap}{g:Array GenState}{d:Drawn}{t:Nat}{os:OsState}{a:Addr}{o:Obj}
def aKo (c:h.get? a=some o)(i:o.cls=.type "function")(hq:R (.ok (.ret (.type "function"))) ⟨h,g,d,t,os⟩) :
  codeAny (model prog w) A (.call (.builtin "getset_descriptor.__get__") ⟨[.builtin "object.__class__",.ref a,.type "function"],[]⟩) R ⟨h,g,d,t,os⟩:=by
 have e:(⟨h,g,d,t,os⟩:Shared).TypeIs (.ref a) "function":=⟨_,c,i⟩;have b:=F.typeOf_object_class;have f:=IfF.aD0;refine bCS F.slot_gs_get.plain F.entry_gs_get (F.slot_gs_get.check _ _ _ _ _ _ _ _ b (F.args_gs_get _ _ _) ?_)
 repeat (any_goals (first|assumption|wp_step))
 refine⟨Code.quiet_builtin _ (by trivial),bDQ F.entry_object_class ?_⟩
 repeat (any_goals (first|assumption|wp_step))
def aE8 (b:h.get? a=some o)(c:o.cls=.type "function")(hq:Q (.done (.ret (.type "function"))) ⟨h,g,d,t,os⟩) :
  wpAny (model prog w) A (Builtin.«object.__getattribute__» ⟨[.ref a,.str "__class__" tk],[]⟩) Q E ⟨h,g,d,t,os⟩:=by
 have f:(⟨h,g,d,t,os⟩:Shared).TypeIs (.ref a) "function":=⟨_,b,c⟩;have e:=F.typeOf_object_class;have k:=IfF.aWq;have i:=F.typeOf_object_class;have j:=F.slot_gs_get.lookup;have l:=F.slot_gs_set.lookup
 repeat (any_goals (first|assumption|wp_step))
 refine aKo b c ?_
 repeat (any_goals (first|assumption|wp_step))
def aOa (b:h.get? a=some o)(e:o.cls=.type "function")(hq:Q (.type "function") ⟨h,g,d,t,os⟩):wpAny (model prog w) A (getAttrBy (.ref a) (.str "__class__" tk) false) Q E ⟨h,g,d,t,os⟩:=by
 have c:(⟨h,g,d,t,os⟩:Shared).TypeIs (.ref a) "function":=⟨_,b,e⟩;have f:=IfF.aD5.lookup;have i:=IfF.aD5.bind (.ref a)
 repeat (any_goals (first|assumption|wp_step))
 refine bCS IfF.aD5.plain IfF.aYe (IfF.aD5.check _ _ _ _ _ _ _ _ c (F.args_object_getattribute_2 _ _) (aE8 b e ?_))
 repeat (any_goals (first|assumption|wp_step))
def aGw (b:h.get? a=some o)(c:o.cls=.type "function")(hq:Q (some (.type "function")) ⟨h,g,d,t+1,os⟩):wpAny (model prog w) A (getAttr? (.ref a) "__class__") Q E ⟨h,g,d,t,os⟩:=by
 unfold getAttr? getAttrBy?
 repeat (any_goals (first|assumption|with_reducible apply aOa b c|wp_step))
def aGu (b:h.get? a=some o)(c:o.cls=.type "function")(hne:(Value.type "function" == Value.type T)=false)(hty:typeOf (.type T)=pure (.type "type"))
  (hsub:isSubtype (.type "function") (.type T)=pure false) (hq:Q (.done (.ret (.bool false))) ⟨h,g,d,t+1,os⟩) :
  wpAny (model prog w) A (Builtin.«isinstance.nested» ⟨[.ref a,.type T,.int dep tk],[]⟩) Q E ⟨h,g,d,t,os⟩:=by
 have e:(⟨h,g,d,t,os⟩:Shared).TypeIs (.ref a) "function":=⟨_,b,c⟩
 repeat (any_goals (first|assumption|with_reducible apply aGw b c|wp_step))
end
def uE (e:(Value.type "function" == Value.type T)=false)(k:typeOf (.type T)=pure (.type "type"))(b:isSubtype (.type "function") (.type T)=pure false) :
  Meets (Builtin.«isinstance» ⟨[.ref a,.type T],[]⟩) (λ_ R s=>(∃o,s.heap.get? a=some o/\o.cls=.type "function")/\R (.ok (.ret (.bool false))) { s with toks:=s.toks+1 }):=
 λ_ _ _ _ s i=>by obtain⟨h,g,d,t,l⟩:=s;obtain⟨⟨o,c,f⟩,j⟩:=i;exact isinstance_outer (aGu c f e k b j)
def aPa (b:s.heap.get? a=some o)(c:o.cls=.type "function")(h:Q (.bool false) { s with toks:=s.toks+1 }):wpAny (model prog w) A (call (.builtin "isinstance") [.ref a,.type "int"]) Q E s:=
 call_isinstance (uE (by decide) F.isi_meta_int IfF.sub_int) ⟨⟨o,b,c⟩,h⟩
def aOn (b:s.heap.get? a=some o)(c:o.cls=.type "function")(h:Q (.bool false) { s with toks:=s.toks+1 }):wpAny (model prog w) A (call (.builtin "isinstance") [.ref a,.type "bool"]) Q E s:=
 call_isinstance (uE (by decide) F.isi_meta_bool IfF.sub_bool) ⟨⟨o,b,c⟩,h⟩
def aPb (b:s.heap.get? a=some o)(c:o.cls=.type "function")(h:Q (.bool false) { s with toks:=s.toks+1 }):wpAny (model prog w) A (call (.builtin "isinstance") [.ref a,.type "str"]) Q E s:=
 call_isinstance (uE (by decide) F.isi_meta_str IfF.bAm) ⟨⟨o,b,c⟩,h⟩
end PySem
namespace L2
open PySem PySem.Spec PyProof.Rows
def PE.imp (h:PE X e t)(k:∀σ H Q,t' σ H Q->t σ H Q):PE X e t':=λa s σ H Q I q=>h a s σ H Q I (k σ H Q q)
def bIj (K:bFQ):List V->Hp->VK->Prop:=λxs H Q=>∃(p:Addr) (bs:List Bool),xs=[.ref p]/\SqL K H p (bs.map V.bl)/\Q (.bl (bs.all id)) H
def all_range (bs:List Bool):(List.range bs.length).all (λi=>bs.getD i false)=bs.all id:=by
 rw[bCL,bBI,bBI];constructor
 ·intro h b c;obtain⟨i,a,e⟩:=List.mem_iff_getElem.mp c;have:=h i (List.mem_range.mpr a);rw[bBF,d7 a] at this;rw[<-e];exact this
 ·intro h i a;have a:=List.mem_range.mp a;rw[bBF,d7 a];exact h _ (bCG a)
def zX (M:X.calm=true):dW X (.builtin "all") (bIj X.K):=by
 intro y s σ H N G Q I r h;obtain⟨p,c,rfl,C,q⟩:=h;obtain⟨u,rfl,E⟩:=r.one;cases E;obtain⟨d,n,k,O⟩:=I.list C;have l:=n.length;rw[j5] at l;have j:p≠s.heap.objs.size:=by obtain⟨o,B,_⟩:=k.isList;exact bAI (bAA B)
 refine call_all_walk (bDE k.isList ?_);refine⟨s.heap.objs.size,_,_,_,_,_,λi=>c.getD i false,rfl,Walks.list (show X.A.in1.handled=none from I.ok.hd M) _ p j d.toArray,⟨⟨_,z9 _ rfl,rfl,rfl⟩,?_⟩,?_,λL tk kp=>?_⟩
 ·exact k.isList.at λo e=>j4 _ e
 ·intro i v D w J x a;have f:d[i]?=some v:=by simpa using x
  have t:i<c.length:=by rw[l];exact (List.getElem?_eq_some_iff.mp f).1
  obtain⟨u,m,F⟩:=n.get (by rw[bAD,d7 t];rfl);rw[f] at m;cases m;cases F;have e:c.getD i false=c[i]:=by rw[bBF,d7 t];rfl
  replace a:w (c.getD i false) D:=a;rw[e] at a;exact bBQ a
 ·have e:(List.range d.toArray.size).all (λi=>c.getD i false)=c.all id:=by rw[v8,<-l];exact all_range c
  rw[e];refine⟨.bl (c.all id),H,?_,rfl,q⟩;exact I.kept λb o g=>kp b o (by
   intro z;have:b=s.heap.objs.size:=by simpa using z
   rw[this] at g;exact absurd (bAA g) (bCP _)) (j4 _ g)
inductive Rk (K:bFQ)(H:Hp):V->String->Prop
 |non:Rk K H .non "NoneType"
 |lst {a xs}:SqL K H a xs->Rk K H (.ref a) "list"
 |tup {a xs}:SqT K H a xs->Rk K H (.ref a) "tuple"
 |dct {a kvs}:H a=some (.dK kvs)->Rk K H (.ref a) "dict"
 |fn {a o}:K.lookup a=some o->o.cls=.type "function"->Rk K H (.ref a) "function"
def bCn (K:bFQ):List V->Hp->VK->Prop:=λxs H Q=>∃x k T,xs=[x,.ty T]/\Rk K H x k/\(T = "int"\/T = "bool"\/T = "str")/\Q (.bl false) H
def kY:dW X (.builtin "isinstance") (bCn X.K):=by
 intro g s σ H w t Q I r h;obtain⟨x,k,T,rfl,j,b,q⟩:=h;obtain⟨u,v,rfl,d,p⟩:=r.two;cases p;have a:EP X g σ Q (.bool false) { s with toks:=s.toks+1 }:=⟨.bl _,H,I.tok _,rfl,q⟩;cases j with
 |non=>
  cases d;rcases b with rfl|rfl|rfl
  ·exact IsiPair.NoneType_int a
  ·exact IsiPair.NoneType_bool a
  ·exact IsiPair.NoneType_str a
 |lst hq=>
  cases d;obtain⟨f,m,⟨o,n,e,c,_⟩,l⟩:=I.list hq;rcases b with rfl|rfl|rfl
  ·exact IsiPair.list_int e c a
  ·exact IsiPair.list_bool e c a
  ·exact IsiPair.list_str e c a
 |tup hq=>
  cases d;obtain⟨f,m,⟨o,e,c,_⟩,l⟩:=I.tuple hq;rcases b with rfl|rfl|rfl
  ·exact IsiPair.tuple_int e c a
  ·exact IsiPair.tuple_bool e c a
  ·exact IsiPair.tuple_str e c a
 |dct hq=>
  cases d;obtain⟨_,_,_,_,o,_,_,e,i,_⟩:=I.hok _ _ hq;rcases b with rfl|rfl|rfl
  ·exact IsiPair.dict_int e i.1 a
  ·exact IsiPair.dict_bool e i.1 a
  ·exact IsiPair.dict_str e i.1 a
 |fn hk hc=>
  cases d;have e:=I.kIn _ _ hk;rcases b with rfl|rfl|rfl
  ·exact aPa e hc a
  ·exact aOn e hc a
  ·exact aPb e hc a
def lA {X:Cx}{scope:Scope}(h:∀z∈scope.names,z.2≠.free:=by trivial):∀y,(y,NameKind.free)∈scope.names->X.env.kindOf y=some .cell\/X.env.kindOf y=some .free:=λy a=>absurd rfl (h _ a)
def lW {X:Cx}{scope:Scope}(sc:Scope)(e:X.env.scope=sc:=by rfl)(h:∀z∈scope.names,z.2=.free->sc.names.lookup z.1=some .cell\/sc.names.lookup z.1=some .free:=by trivial) :
  ∀y,(y,NameKind.free)∈scope.names->X.env.kindOf y=some .cell\/X.env.kindOf y=some .free:=λy a=>by
 show X.env.scope.names.lookup y=some .cell\/X.env.scope.names.lookup y=some .free;rw[e];exact h _ a rfl
def Same.aV {K:bFQ}{H H':Hp}{a:Addr}{xs:List V}(e:Same H H')(h:SqT K H a xs):SqT K H' a xs:=by
 rcases h with (h|⟨o,h⟩)|h
 ·exact .inl (.inl (e _ _ h))
 ·exact .inl (.inr ⟨o,e _ _ h⟩)
 ·exact .inr h
def cF (h:H p=none)(o:HO):Same H (upd H p o):=λb u q=>by rw[aR (aX q h)];exact q
def Rk.same {K:bFQ}{H H':Hp}{v:V}{k:String}(e:Same H H')(h:Rk K H v k):Rk K H' v k:=by
 cases h with
 |non=>exact .non
 |lst q=>exact .lst (e.seq q)
 |tup q=>exact .tup (e.aV q)
 |dct q=>exact .dct (e _ _ q)
 |fn q c=>exact .fn q c
def aB7:Cap X scope [x] σ [none]:=⟨rfl,λi y v _ a=>by
 cases i with
 |zero=>cases a
 |succ i=>cases a⟩
def aHu (xs:List V)(f:V->V)(r:St)(t:Cap X scope N σ r)(hsz:xs.length<=sizeLine)
  (u:∀R:It->Hp->Prop,(∀J:It,(∀H' i x,Same H H'->xs[i]?=some x->J.go i H'/\∀y H2,J.yld i H' y H2->H2=H'/\y=x)->(∀H',Same H H'->J.stop xs.length H')->R J H)->wi σ H R)
  (w:∀x∈xs,∀H' R l,Same H H'->R (f x) H'->te ((r.set 0 l).set 0 (some x)) H' R) (v:r[0]?=some none)
  (q:∀D,H D=none->Q (.ref D) (upd H D (.lst (xs.map f)))) :
  mU X scope N wi (cY 0) zR te σ H Q:=by
 refine⟨r,t,u _ λJ go stop D g=>?_⟩;have d:∀c:List V,Same H (upd H D (.lst c)):=λc b o e=>by rw[aR (aX e g)];exact e
 refine⟨λi m h H' c=>i<=xs.length/\m=xs.length - i/\(∃l,h=r.set 0 l)/\H'=upd H D (.lst c)/\c=(xs.take i).map f,⟨xs.length,bAK _,rfl,⟨none,?_⟩,rfl,rfl⟩,?_⟩
 ·refine (bCH λj=>?_);rw[List.getElem?_set]
  split
  ·rename_i n;subst n
   split
   ·exact v
   ·rename_i a;exact List.getElem?_eq_none_iff.mpr (by lia)
  ·rfl
 ·rintro i m h H' c ⟨hi,rfl,⟨l,rfl⟩,rfl,rfl⟩;refine⟨aJ,?_⟩;by_cases a:i<xs.length
  ·right;obtain⟨k,s⟩:=go (upd H D (.lst ((xs.take i).map f))) i xs[i] (d _) (d7 a);refine⟨k,λx H2 p=>?_⟩;obtain⟨rfl,rfl⟩:=s x H2 p;unfold cY zR;dsimp only;rw[if_pos rfl];refine w xs[i] (bCG a) _ _ l (d _) ⟨aJ,?_,xs.length - (i+1),by lia,a,rfl,⟨some xs[i],?_⟩,?_,?_⟩
   ·rw[j5,bAU];lia
   ·rw[bCQ]
   ·rw[aD1]
   ·rw[bCI,d7 a,bAH];rfl
  ·left;have e:i=xs.length:=by lia
   subst e;refine⟨stop _ (d _),?_⟩;rw[bBY];exact q D g
def aV2 (h:∀R:VK,R (.str z) H->tl σ H R)(R:It->Hp->Prop)
  (q:∀J:It,(∀H' i x,Same H H'->((List.range z.cps.size).map λi=>V.str (sgn z i))[i]?=some x->J.go i H'/\∀y H2,J.yld i H' y H2->H2=H'/\y=x) ->
   (∀H',Same H H'->J.stop ((List.range z.cps.size).map λi=>V.str (sgn z i)).length H')->R J H):bDk tl σ H R:=by
 refine h _ ⟨z,rfl,q _ (λH' i x _ e=>?_) λH' _=>?_⟩
 ·rw[bAD] at e;have b:i<z.cps.size:=by
   cases a:(List.range z.cps.size)[i]? with
   |none=>rw[a] at e;cases e
   |some j=>have:=(List.getElem?_eq_some_iff.mp a).1;rwa [bAN] at this
  rw[bCK b] at e;cases e;exact⟨b,λy H2 c=>c⟩
 ·rw[j5,bAN];exact v7 _
section
variable {κ:Type}[DecidableEq κ]
def tZ (kvs:List (κ × V))(k:κ):Option V:=(kvs.find? λkv=>decide (kv.1=k)).map (·.2)
def putK (kvs:List (κ × V))(k:κ)(v:V):List (κ × V):=
 if (kvs.any λkv=>decide (kv.1=k))=true then kvs.map (λkv=>if kv.1=k then (kv.1,v) else kv) else kvs++[(k,v)]
def uW {p:κ × V}{r:List (κ × V)}{k:κ}(e:p.1=k):tZ (p::r) k=some p.2:=by simp[tZ,bCE,e]
def wF {p:κ × V}{r:List (κ × V)}{k:κ}(e:¬ p.1=k):tZ (p::r) k=tZ r k:=by simp[tZ,bCE,e]
theorem aEf (k:κ):∀kvs:List (κ × V),(kvs.any λkv=>decide (kv.1=k))=(tZ kvs k).isSome
 |[]=>rfl
 |p::r=>by
  rw[bER];by_cases e:p.1=k
  ·simp only[uW e,v9 e,Bool.true_or,Option.isSome_some]
  ·rw[wF e,m9 e,Bool.false_or];exact aEf k r
def aN5 (kvs:List (κ × V))(k:κ)(v:V):(putK kvs k v).length<=kvs.length+1:=by
 unfold putK
 split
 ·rw[j5];lia
 ·rw[j6,d9,bCD];lia
def aMf {kvs:List (κ × V)}{k:κ}(v:V)(h:tZ kvs k=none):putK kvs k v=kvs++[(k,v)]:=by unfold putK;rw[aEf,h];exact if_neg (by decide)
def KV.val (r:KV kvs vs)(k:κ):xF (tZ kvs k) (valueAt vs k):=by
 unfold KV at r
 induction r with
 |nil=>exact True.intro
 |@cons p q ps qs h t ih=>
  obtain⟨c,d⟩:=h;by_cases e:p.1=k
  ·have a:q.1=k:=c.symm.trans e;have b:valueAt (q::qs) k=some q.2:=by simp[valueAt,bCE,a]
   rw[uW e,b];exact d
  ·have a:¬ q.1=k:=λz=>e (c.trans z);have b:valueAt (q::qs) k=valueAt qs k:=by simp[valueAt,bCE,a]
   rw[wF e,b];exact ih
def KV.any (r:KV kvs vs)(k:κ):(kvs.any λkv=>decide (kv.1=k))=vs.any λkv=>decide (kv.1=k):=by
 unfold KV at r
 induction r with
 |nil=>rfl
 |cons h t ih=>rw[bER,bER,ih,h.1]
def KV.repl (r:KV kvs vs)(k:κ)(c:RelV y u) :
  KV (kvs.map λkv=>if kv.1=k then (kv.1,y) else kv) (vs.map λkv=>if kv.1=k then (kv.1,u) else kv):=by
 unfold KV at r ⊢
 induction r with
 |nil=>exact .nil
 |@cons p q ps qs h t ih=>
  rw[bAE,bAE];refine .cons ?_ ih;obtain⟨a,b⟩:=h;by_cases e:p.1=k
  ·rw[if_pos e,if_pos (a.symm.trans e)];exact⟨a,c⟩
  ·rw[if_neg e,if_neg (λz=>e (a.trans z))];exact⟨a,b⟩
def KV.put (r:KV kvs vs)(k:κ)(b:RelV y u):KV (putK kvs k y) (stored vs k u):=by
 unfold putK stored;rw[r.any k];by_cases e:(vs.any λa=>decide (a.1=k))=true
 ·rw[if_pos e,if_pos e];exact r.repl k b
 ·rw[if_neg e,if_neg e];exact Paired.snoc r ⟨rfl,b⟩
def KV.keys {kvs:List (κ × V)}{vs:List (κ × Value)}(r:KV kvs vs):kvs.map (·.1)=vs.map (·.1):=by
 unfold KV at r
 induction r with
 |nil=>rfl
 |cons h t ih=>rw[bAE,bAE,ih,h.1]
def KV.length {kvs:List (κ × V)}{vs:List (κ × Value)}(r:KV kvs vs):kvs.length=vs.length:=Paired.length r
end
def aR0 (r:RelV (kV k) u):(fP P w).is k u=true:=by
 cases k with
 |inl i=>obtain⟨t,e⟩:=(show ∃t,u=Value.int i t from r);subst e;exact aL6 P w i t
 |inr x=>obtain⟨t,e⟩:=(show ∃t,u=Value.str x t from r);subst e;exact aOm P w x t
theorem aIo:∀{ks:List Key} {us:List Value},Vals (ks.map kV) us->ItemsAre (fP P w) ks us
 |[],_,r=>by rw[List.map_nil] at r;cases r;exact .nil
 |k::ks,_,r=>by
  rw[bAE] at r;cases r with
  |cons h t=>exact .cons (aR0 h) (aIo t)
abbrev KT (H:Hp):List (List Key × V)->List (List Key × Addr × Value)->Prop:=Paired λp q=>p.1=q.1/\H q.2.1=some (.tup (p.1.map kV))/\RelV p.2 q.2.2
def KT.val (r:KT H kvs xs)(k:List Key):xF (tZ kvs k) ((atKey xs k).map (·.2)):=by
 induction r with
 |nil=>exact True.intro
 |@cons p q ps qs h t ih=>
  obtain⟨c,_,d⟩:=h;by_cases e:p.1=k
  ·have a:=c.symm.trans e;have b:atKey (q::qs) k=some q.2:=by simp[atKey,bCE,a]
   rw[uW e,b];exact d
  ·have a:¬ q.1=k:=λz=>e (c.trans z);have b:atKey (q::qs) k=atKey qs k:=by simp[atKey,bCE,a]
   rw[wF e,b];exact ih
def bCa (b:HOk P w H h)(e:Rd H a u):iJ P w H h a u:=e.ok b
def aQ6 (b:HOk P w H h)(e:Rd H a (.dK kvs)):kvs.length<=sizeLine/\(a == sysModules)=false/\∃vs,KV kvs vs/\h.DictOf (fP P w) a vs:=
 show iJ P w H h a (.dK kvs) from bCa b e
def bB8 (b:HOk P w H h)(e:H a=some (.dK kvs)):kvs.length<=sizeLine/\(a == sysModules)=false/\∃vs,KV kvs vs/\h.DictOf (fP P w) a vs:=aQ6 b (.inl e)
def aYl (g:HOk P w H h)(e:H a=some (.tup (ks.map kV))):(tupleKind (fP P w)).is h ks a:=by obtain⟨_,b,r,⟨o,d,f,n,c⟩,_⟩:=(show iJ P w H h a (.tup (ks.map kV)) from g a _ e);exact⟨o,b.toArray,n,d,f,c,by simpa using aIo r⟩
def bCe (i:HOk P w H h)(e:Rd H a (.dT kvs)):kvs.length<=sizeLine/\(a == sysModules)=false /\
  ∃xs,KT H kvs xs/\h.DictOfH (tupleKind (fP P w)) a xs:=by
 obtain⟨z,y,xs,r,o,k,d,f,n,c,j,g⟩:=(show iJ P w H h a (.dT kvs) from bCa i e);refine⟨z,y,xs,r,o,k,d,f,n,c,j,λx hx=>?_,g⟩;have b:∀{l:List (List Key × V)} {m:List (List Key × Addr × Value)},KT H l m->∀x∈m,(tupleKind (fP P w)).is h x.1 x.2.1:=by
  intro l m q
  induction q with
  |nil=>intro x hx;exact nomatch hx
  |@cons p q ps qs hq t ih=>
   intro x hx;rcases List.mem_cons.mp hx with e|hx
   ·subst e;exact aYl i (by rw[<-hq.1];exact hq.2.1)
   ·exact ih x hx
 exact b r x hx
def aL1 (H:Hp)(a:Addr)(y:V)(r:Option V):Prop:=
 (∃kvs k,Rd H a (.dK kvs)/\y=kV k/\r=tZ kvs k)\/∃kvs k b,Rd H a (.dT kvs)/\y=.ref b/\H b=some (.tup (k.map kV))/\r=tZ kvs k
theorem aL1.k {H:Hp}{a:Addr}{kvs:List (Key × V)}{k:Key}(e:H a=some (.dK kvs)):aL1 H a (kV k) (tZ kvs k):=.inl ⟨kvs,k,.inl e,rfl,rfl⟩
def Inv.big (I:Inv X bFU σ H s):sysModules<s.heap.objs.size:=by have h:=(I.mod.glob.keeps I.bk).lt;exact bFE (by decide) h
def aTr (t:A.units+1<cLine)(I:Inv X bFU σ H s)(g:aL1 H a y (some v))(r:RelV y u)(h:∀w' s',Inv X bFU σ H s'->RelV v w'->Q w' s') :
  wpAny (model X.prog X.w) A (getItem (.ref a) u) Q E s:=by
 rcases g with⟨n,k,e,j,l⟩|⟨n,k,b,e,j,eb,l⟩
 ·subst j;obtain⟨z,q,x,c,m⟩:=aQ6 I.hok e;obtain⟨w',f,d⟩:=xF.some_of (by rw[l];exact c.val k);exact wpAny_getItem_of (aR0 r) m.mapOf f (h w' _ (I.tok _) d)
 ·subst j;cases (show u=Value.ref b from r);obtain⟨z,q,B,c,m⟩:=bCe I.hok e;obtain⟨w',f,d⟩:=xF.some_of (by rw[l];exact c.val k);obtain⟨p,o,i⟩:=Option.map_eq_some_iff.mp f;refine wpAny_getItem_heap (tupleKind_room_in1 t) (aYl I.hok eb) m o ?_;rw[i];exact h w' _ (I.tok _) d
def bBp (I:Inv X bFU σ H s)(e:Mut (H a))(hs:Heap.SameBut a s.heap h')(f:∃q,h'.get? a=some q)(d:iJ X.prog X.w (upd H a ob) h' a ob) :
  Inv X bFU σ (upd H a ob) { s with heap:=h',toks:=t' }:=
 I.write e (.inl rfl) (λb q c z=>(hs.2 b c).trans z) f d
def bDd (z:kvs.length<=sizeLine)(hd:(a == sysModules)=false)(b:KV kvs vs)(c:h'.DictOf (fP P w) a vs) :
  iJ P w H' h' a (.dK kvs):=⟨z,hd,vs,b,c⟩
def bH0 (I:Inv X bFU σ H s)(e:Rd H a (.dK kvs))(h:∀t s',Inv X bFU σ H s'->Q (.int kvs.length t) s'):wpAny (model X.prog X.w) A (call (.builtin "len") [.ref a]) Q E s:=by obtain⟨z,c,f,b,d⟩:=aQ6 I.hok e;refine call_len_dict c d (by rw[<-b.length];rw[sizeLine_eq] at z;lia) ?_;rw[<-b.length];exact h _ _ (I.tok _)
def bFy (i:Expr):Prop:=∀ov iv,subscripted i false ov iv=operate [ov,iv] (getItem ov iv)
def aZa {prog:Program}{w:World}{A:Around}{E:bFR}{s:Shared}{env:Env}{c d:Expr}{pos:Pos}{T id:String}{Q:bFR}
  (k:typeLookup (.type T) "__getitem__"=pure (some (.builtin id))) (hs:bFy d)
  (h:wpAny (model prog w) A (eval c env) (λo s₁=>wpAny (model prog w) A (eval d env) (λi s₂=>s₂.TypeIs o T/\wpAny (model prog w) A (getItem o i) Q E s₂) E s₁) E s) :
  wpAny (model prog w) A (eval (.Subscript c d pos) env) Q E s:=by
 refine Subscript_ (bBB h (λo s₁ g=>bBB g (λi s₂ b=>?_) λ_ _ x=>x) λ_ _ x=>x);obtain⟨e,b⟩:=b;unfold subscriptTail;refine c7 ?_;rw[getitemInPython_of_ne e.not_modules];refine c7 (wpAny_specialOf e k ?_);have a:wpAny (model prog w) A (subscripted d false o i) (λr f=>wpAny (model prog w) A (letTemporaryGo c o r >>= λ_=>pure r) Q E f) E s₂:=by rw[hs o i];exact wpAny_operating (bBB b (λr f j=>c7 (wpAny_letTemporaryGo (j9 j))) λ_ _ x=>x)
 first
  |exact j9 (c7 a)
  |exact c7 (j9 (c7 a))
  |exact c7 a
def aMq (I:Inv X bFU σ H s)(g:aL1 H a y o):s.TypeIs (.ref a) "dict":=by
 rcases g with⟨c,k,e,_,_⟩|⟨c,k,b,e,_,_,_⟩
 ·obtain⟨_,_,h,_,d⟩:=aQ6 I.hok e;exact d.typeIs
 ·obtain⟨_,_,f,_,d⟩:=bCe I.hok e;exact d.typeIs
inductive aRa (Q:VK)(x:V)(y:V)(H2:Hp):Prop
 |mk (a:_) (v:_) (h0:x=.ref a) (h1:aL1 H2 a y (some v)) (h2:Q v H2):aRa Q x y H2
def bB1 (td ty:TE):TE:=fun σ H Q=>td σ H λx H1=>ty σ H1 (aRa Q x)
def aZv (w:X.A.units+1<cLine)(C:PE X o td)(t:PE X i ty)(hs:bFy i):PE X (.Subscript o i pos) (bB1 td ty):=by intro b s σ H Q I h;refine aZa PySem.F.slot_dict_getitem.lookup hs (thn (C b s σ H _ I h) λu l ⟨x,r,f,m,j⟩=>thn (t b l σ r _ f j) λz D ⟨y,e,d,p,a,v,q,g,k⟩=>?_);subst q;obtain rfl:u=Value.ref a:=m;exact⟨aMq d g,aTr w d g p λE B n c=>⟨v,e,n,c,k⟩⟩
def aXy (h:Heap)(a:sysModules<h.objs.size):iJ P w H (h.push { cls:=.type "dict",data:=.dict #[] }) h.objs.size (.dK []):=
 ⟨bAK _,beq_eq_false_iff_ne.mpr (Ne.symm (bAI a)),[],.nil,Heap.DictOf.new h⟩
def aQa:List (TE × TE)->St->Hp->(List (V × V)->Hp->Prop)->Prop
 |[],_,H,Q=>Q [] H
 |(tk,tv)::r,σ,H,Q=>tk σ H λx H1=>tv σ H1 λy H2=>aQa r σ H2 λps H3=>Q ((x,y)::ps) H3
abbrev VV:List (V × V)->List (Value × Value)->Prop:=Paired λp q=>RelV p.1 q.1/\RelV p.2 q.2
def PPs (X:Cx)(pos:Pos)(keys:List (Option Expr))(values:List Expr)(trs:List (TE × TE)):Prop:=
 ∀bFU s σ H Q,Inv X bFU σ H s->aQa trs σ H Q ->
  wpAny (model X.prog X.w) X.A (evalPairs (pairTrees keys values X.env pos)) (λvs s'=>∃ps H',Inv X bFU σ H' s'/\VV ps vs/\Q ps H') X.xe s
def aZ4:PPs X pos [] [] []:=λa s σ H Q I h=>pairTrees_nil_walk ⟨[],H,I,.nil,h⟩
def aY1 (w:PE X k tk)(B:PE X v tv)(A:PPs X pos ks vs trs) :
  PPs X pos (some k::ks) (v::vs) ((tk,tv)::trs):=λa s σ H Q I h=>
 pairTrees_cons_walk (thn (w a s σ H _ I h) λu j ⟨x,r,e,m,f⟩=>thn (B a j σ r _ e f) λz q ⟨y,c,l,p,i⟩=>
  thn (A a q σ c _ l i) λt C ⟨g,d,o,b,n⟩=>⟨(x,y)::g,d,o,.cons ⟨m,p⟩ b,n⟩)
def mZ (kvs more:List (Key × V)):List (Key × V):=more.foldl (λacc kv=>putK acc kv.1 kv.2) kvs
def KV.merge:∀{more:List (Key × V)} {rs:List (Key × Value)} {kvs:List (Key × V)} {vs:List (Key × Value)},KV more rs->KV kvs vs->KV (mZ kvs more) (merged vs rs):=by
 intro more rs kvs vs r;unfold KV at r
 induction r generalizing kvs vs with
 |nil=>intro q;exact q
 |@cons p q ps qs h t ih=>
  intro a;have e:KV (putK kvs p.1 p.2) (stored vs q.1 q.2):=by have:=a.put p.1 h.2;rw[<-h.1];exact this
  exact ih e
theorem rN:∀more kvs,(mZ kvs more).length<=kvs.length+more.length
 |[],kvs=>by show kvs.length<=kvs.length+0;lia
 |p::r,kvs=>by have a:=rN r (putK kvs p.1 p.2);have b:=aN5 kvs p.1 p.2;show (mZ (putK kvs p.1 p.2) r).length<=_;rw[d9];lia
theorem aF1:∀{kvs:List (Key × V)} {ws:List (Value × Value)},VV (kvs.map λkv=>(kV kv.1,kv.2)) ws->∃rs,Carries (fP P w) ws rs/\KV kvs rs
 |[],_,r=>by rw[List.map_nil] at r;cases r;exact⟨[],True.intro,.nil⟩
 |p::kvs,_,r=>by
  rw[bAE] at r;cases r with
  |@cons a b as bs h t=>obtain⟨rs,c,q⟩:=aF1 t;obtain⟨e,d⟩:=b;exact⟨(p.1,d)::rs,⟨aR0 h.1,rfl,c⟩,.cons ⟨rfl,h.2⟩ q⟩
def bCb (trs:List (TE × TE)):TE:=fun σ H Q=>∀p,H p=none->aQa trs σ (upd H p (.dK [])) λps H2=>H2 p=some (.dK [])/\∃kvs:List (Key × V),ps=kvs.map (λkv=>(kV kv.1,kv.2))/\kvs.length<=15/\Q (.ref p) (upd H2 p (.dK (mZ [] kvs)))
def bB0 {X:Cx}{pos:Pos}{keys:List (Option Expr)}{values:List Expr}{trs:List (TE × TE)}(h:PPs X pos keys values trs)(j:keys.all (·.isSome)=true)(M:keys.length=values.length)(L:keys≠[])
  (p:keys.length<=15):PE X (.Dict keys values pos) (bCb trs):=by
 intro g s σ H Q I q;have x:=I.hok.fresh (v7 s.heap.objs.size);have v:=I.laid (a:=s.heap.objs.size) (o:=.dK []) (h':=s.heap.push { cls:=.type "dict",data:=.dict #[] }) (t':=s.toks) (λ_ _ q=>j4 _ q) (v7 _) (aXy s.heap I.big);refine wpAny_Dict_walk (knd:=fP X.prog X.w) j M L p (thn (h g _ σ _ _ v (q _ x)) λF J ⟨E,K,i,f,e,d,l,G,D⟩=>?_);subst l;obtain⟨u,c,B⟩:=aF1 (P:=X.prog) (w:=X.w) f;obtain⟨z,r,k,C,t⟩:=bB8 i.hok e;cases C;refine⟨u,c,t,λh' b m=>⟨.ref s.heap.objs.size,_,?_,rfl,D⟩⟩;have A:(mZ [] d).length<=sizeLine:=by have y:=rN d [];rw[bCD] at y;rw[sizeLine_eq];lia
 have n:∃q,h'.get? s.heap.objs.size=some q:=let ⟨q,_,_,hq,_⟩:=b;⟨q,hq⟩
 exact bBp i (by rw[e];exact True.intro) m n (bDd A r (B.merge .nil) b)
def aUr:dW X (.builtin "len") (λxs H Q=>∃a kvs,xs=[V.ref a]/\H a=some (.dK kvs)/\Q (.int kvs.length) H):=by intro b s σ H xs f Q I r h;obtain⟨a,kvs,rfl,c,q⟩:=h;obtain⟨u,rfl,e⟩:=vals1 r;cases e;exact bH0 I (.inl c) λt g d=>⟨.int kvs.length,H,d,⟨t,rfl⟩,q⟩
section
variable {κ:Type}[DecidableEq κ]
def aRi {kvs:List (κ × V)}{k:κ}{v:V}(h:tZ kvs k=some v):k∈kvs.map (·.1):=by
 have q:(kvs.any λa=>decide (a.1=k))=true:=by rw[aEf,h];all_goals rfl
 obtain⟨p,b,e⟩:=List.any_eq_true.mp q;exact List.mem_map.mpr ⟨p,b,of_decide_eq_true e⟩
end
structure VE (X:Cx)(e:Expr)(t:TE):Prop where
 out:PE X e t
structure VT (X:Cx)(e:Expr)(t:TT):Prop where
 out:PT X e t
structure VW (X:Cx)(e:Expr)(t:TT):Prop where
 out:PW X e t
structure VA (X:Cx)(es:List Expr)(t:TA):Prop where
 out:PA X es t
structure VS (X:Cx)(st:Stmt)(t:TS):Prop where
 out:PS X st t
structure VSs (X:Cx)(st:List Stmt)(t:TS):Prop where
 out:PSs X st t
structure VI (X:Cx)(tg iter:Expr)(t:TI):Prop where
 out:PI X tg iter t
structure VG (X:Cx)(tg:Expr)(t:TG):Prop where
 out:PG X tg t
structure VGs (X:Cx)(tg:List Expr)(t:TGs):Prop where
 out:PGs X tg t
structure VO (X:Cx)(e:Option Expr)(t:TO):Prop where
 out:PO X e t
structure VF (X:Cx)(ifs:List Expr)(t:TT):Prop where
 out:aUq X ifs t
structure VP (X:Cx)(pos:Pos)(keys:List (Option Expr))(values:List Expr)(trs:List (TE × TE)):Prop where
 out:PPs X pos keys values trs
section
variable {X:Cx}
def vv (i:Nat)(b:X.N[i]?=some x:=by rfl)(c:Vis X.env.scope x:=by trivial)(hd:(x == ("__debug__":Str))=false:=by decide)
  (a:(x == ("__classdict__":Str))=false:=by decide):VE X (.Name x pos) (iK i):=⟨pv i b c hd a⟩
def dX (a:Gl X x)(b:∃u,X.mg x=some u/\RelV v u)(hd:(x == ("__debug__":Str))=false:=by decide):VE X (.Name x pos) (tC v):=⟨bG8 a b hd⟩
def gR (a:Gl X x)(c:X.mg x=none)(b:bootBuiltins x=some u)(r:RelV v u)(hn:x≠"__name__":=by decide)(hd:(x == ("__debug__":Str))=false:=by decide):VE X (.Name x pos) (tC v):=⟨aZf a c b r hn hd⟩
def aD {i j}:VE X (.Constant (.int i) j pos) (tC (.int i)):=⟨bF7⟩
def iT {b j}:VE X (.Constant (.bool b) j pos) (tC (.bl b)):=⟨bIb⟩
def dO {j}:VE X (.Constant .none j pos) (tC .non):=⟨aW7⟩
def aF {x j}:VE X (.Constant (.str x) j pos) (tC (.str x)):=⟨bD3⟩
def aO (c:OpR X (binaryOp op) r)(e:VE X a ta)(d:VE X b tb):VE X (.BinOp a op b pos) (tOp r ta tb):=⟨bG2 c e.1 d.1⟩
def aY9 (b:UnR X (unaryOp op) r)(c:VE X a ta):VE X (.UnaryOp op a pos) (tUn r ta):=⟨bGq b c.1⟩
def wX (c:OpR X (compareOp op) r)(f:VE X a ta)(d:VE X b tb)(e:behindInMarks op b=false):VE X (.Compare a [op] [b] pos) (tOp r ta tb):=⟨bBr c f.1 d.1 e⟩
def xD (c:OpR X (compareOp op) r)(f:VE X a ta)(d:VE X b tb)(e:behindInMarks op b=false):VT X (.Compare a [op] [b] pos) (aM5 (tOp r ta tb)):=⟨bA9 c f.1 d.1 e⟩
def aV5 (f:OpR X (compareOp op) r)(d:OpR X (compareOp op') r')(i:VE X a ta)(e:VE X b tb)(g:VE X c tc)
  (h:lastMarks [op,op'] [b,c]=false:=by with_unfolding_all rfl):VE X (.Compare a [op,op'] [b,c] pos) (aI2 r r' ta tb tc):=⟨aY8 f d i.1 e.1 g.1 h⟩
def aN4 (f:OpR X (compareOp op) r)(d:OpR X (compareOp op') r')(i:VE X a ta)(e:VE X b tb)(g:VE X c tc)
  (h:lastMarks [op,op'] [b,c]=false:=by with_unfolding_all rfl):VT X (.Compare a [op,op'] [b,c] pos) (aM5 (aI2 r r' ta tb tc)):=⟨aU6 f d i.1 e.1 g.1 h⟩
def pJ {op}(h:VE X a te):VE X (.BoolOp op [a] pos) te:=⟨bF8 h.1⟩
def lX (c:VE X a ta)(d:VE X (.BoolOp .And (b::rest) pos) tb):VE X (.BoolOp .And (a::b::rest) pos) (bCw ta tb):=⟨bEy c.1 d.1⟩
def bCl (c:VE X a ta)(d:VE X (.BoolOp .Or (b::rest) pos) tb):VE X (.BoolOp .Or (a::b::rest) pos) (bGf ta tb):=⟨bGt c.1 d.1⟩
def bFo (b:VE X a ta):VE X (.UnaryOp .Not a pos) (bCd ta):=⟨bF0 b.1⟩
def mW (f:VT X c tA)(d:VE X a ta)(e:VE X b tb):VE X (.IfExp c a b pos) (tIf tA ta tb):=⟨aXf f.1 d.1 e.1⟩
def jJ:VA X [] pP:=⟨aPf⟩
def aG (a:VE X e te)(b:VA X es t)(c:eU e=true:=by rfl):VA X (e::es) (eE te t):=⟨aZ1 a.1 b.1 c⟩
def iR (G:Ok X.prog X.w X.K X.mg X.base k x ps sp)(f:Room k X.A)(c:Gl X x)(g:VA X (e::es) t)(b:(x == ("__debug__":Str))=false:=by decide)
  (d:eU e=true:=by rfl) (a:(backTo pos (starEach es X.env)).any (·.1)=false:=by rfl) :
  VE X (.Call (.Name x p) (e::es) [] pos) (aC1 sp [] E0 t):=⟨bH5 G f c g.1 b (bG d) a⟩
def aYm (G:Ok X.prog X.w X.K X.mg X.base k x ps sp)(b:Room k X.A)(c:Gl X x)(a:(x == ("__debug__":Str))=false:=by decide) :
  VE X (.Call (.Name x p) [] [] pos) (aC1 sp [] E0 pP):=⟨bFc G b c a⟩
def aU {id:String}{r:List V->Hp->VK->Prop}(f:dW X (.builtin id) r)(c:Gl X x)(i:X.mg x=none)(h:bootBuiltins x=some (.builtin id))(d:VA X (e::es) t)(hn:x≠"__name__":=by decide)(a:(x == ("__debug__":Str))=false:=by decide)
  (g:eU e=true:=by rfl) (b:(backTo pos (starEach es X.env)).any (·.1)=false:=by rfl):VE X (.Call (.Name x p) (e::es) [] pos) (tCB r t):=⟨aVl f c i h d.1 hn a (bG g) b⟩
def bK (f:dW X (.type T) r)(c:Gl X x)(i:X.mg x=none)(h:bootBuiltins x=some (.type T))(d:VA X (e::es) t)(hn:x≠"__name__":=by decide)(a:(x == ("__debug__":Str))=false:=by decide)
  (g:eU e=true:=by rfl) (b:(backTo pos (starEach es X.env)).any (·.1)=false:=by rfl):VE X (.Call (.Name x p) (e::es) [] pos) (tCB r t):=⟨aTx f c i h d.1 hn a (bG g) b⟩
def iB {o:Expr}{to:TE}{name:Str}{apos cpos:Pos}{T id:String}{r:V->List V->Hp->VK->Prop}(k:PlainAttrs T)(d:Slot T name id)(g:typeOf (.builtin id)=pure (.type "method_descriptor"))(l:MtR X id r)(h:VE X o to)(i:VA X (e::es) t)
  (b:attributeBase o name X.env (eval o X.env)=eval o X.env:=by rfl)
  (f:((backTo cpos (starEach (e::es) X.env)).all (λx=>!x.1) && (backToKw cpos (keywordEach [] X.env)).all (λx=>x.1.isSome)
   && decide ((e::es).length+([]:List Keyword).length+(if ([]:List Keyword).isEmpty then 0 else 1)<30))=true:=by rfl)
  (c:(apos.endLine == cpos.line)=true:=by rfl) (j:eU e=true:=by rfl) (a:(backTo cpos (starEach es X.env)).any (·.1)=false:=by rfl) :
  VE X (.Call (.Attribute o name apos) (e::es) [] cpos) (tBM X.K T r to t):=⟨bGe k d g l h.1 i.1 b f c (bG j) a⟩
def kJ (d:VE X a ta)(e:VE X b tb)(hs:aAs b) :
  VE X (.Subscript a b pos) (tOp (λx y H Q=>∃z i c,x=.str z/\y=.int i/\0<=i/\i<2 ^ 63/\i<z.length/\z.cps[i.toNat]?=some c/\Q (.str ⟨#[c]⟩) H) ta tb):=⟨aN9 d.1 e.1 hs⟩
def dY:VO X none aSq:=⟨aZ2⟩
def cP (h:VE X e te):VO X (some e) (bCt te):=⟨bBo h.1⟩
def cL {r:V->Option Int->Option Int->Hp->VK->Prop}{lo hi:Option Expr}{tl th:TO}{p2:Pos}(d:SlR X r)(c:VE X e te)(a:VO X lo tl)(b:VO X hi th):VE X (.Subscript e (.Slice lo hi none p2) pos) (tSl r te tl th):=⟨aWh d c.1 a.1 b.1⟩
def bH8 (c:IxR X r)(e:VE X a ta)(d:VE X b tb)(hs:aK2 b):VE X (.Subscript a b pos) (tOp r ta tb):=⟨bHv c e.1 d.1 hs⟩
def aZo:VP X pos [] [] []:=⟨aZ4⟩
def aM8 (b:VE X k tk)(c:VE X v tv)(a:VP X pos ks vs trs):VP X pos (some k::ks) (v::vs) ((tk,tv)::trs):=⟨aY1 b.1 c.1 a.1⟩
def bAc (h:VP X pos keys values trs)(a:keys.all (·.isSome)=true)(d:keys.length=values.length)(c:keys≠[])(b:keys.length<=15):VE X (.Dict keys values pos) (bCb trs):=⟨bB0 h.1 a d c b⟩
def VE.imp {t t':TE}(h:VE X e t)(k:∀σ H Q,t' σ H Q->t σ H Q):VE X e t':=⟨PE.imp h.1 k⟩
def aLd (b:VT X a tA):VW X (.BoolOp .And [a] pos) tA:=⟨bBd b.1⟩
def pA (b:VT X a tA):VW X (.BoolOp .Or [a] pos) tA:=⟨bDe b.1⟩
def aQ2 (c:VT X a tA)(d:VW X (.BoolOp .And (b::rest) pos) tB'):VW X (.BoolOp .And (a::b::rest) pos) (bHq tA tB'):=⟨bDg c.1 d.1⟩
def uQ (c:VT X a tA)(d:VW X (.BoolOp .Or (b::rest) pos) tB'):VW X (.BoolOp .Or (a::b::rest) pos) (tOr tA tB'):=⟨bGi c.1 d.1⟩
def VW.pt (h:VW X e tA):VT X e tA:=⟨h.1.pt⟩
def fY (b:VT X a tA):VT X (.UnaryOp .Not a pos) (bFm tA):=⟨bE8 b.1⟩
def dB (h:VE X e te)(a:∀whole,isTrue e X.env whole=(do let v <-whole;standAt e.pos;holding [v] (truthy v)):=by intro _;rfl):VT X e (tB te):=⟨bFz h.1 a⟩
def aX7 (b:VE X a ta)(c:∀whole,isTrue a X.env whole=(do let v <-whole;standAt a.pos;holding [v] (truthy v)):=by intro _;rfl) :
  VT X a (fun σ H Q=>ta σ H λx H'=>∃k,bD6 X.K x H' k/\Q k H'):=⟨aWd b.1 c⟩
variable {st:Stmt}{rest:List Stmt}{u w':TS}
def aP:VSs X [] aDd:=⟨aZe⟩
def aA (a:VS X st u)(b:VSs X rest w'):VSs X (st::rest) (rF u w'):=⟨aVv a.1 b.1⟩
def aB (a:VS X st u):VSs X [st] u:=⟨aSc a.1⟩
def aK (a:VE X e te):VS X (.Return (some e) pos) (aHf te):=⟨bFl a.1⟩
def bH {a b:List Stmt}(f:VT X c tA)(d:VSs X a u)(e:VSs X b w'):VS X (.If c a b pos) (bDt tA u w'):=⟨bG6 f.1 d.1 e.1⟩
def bC7 (c:X.N.Nodup)(f:X.N[i]?=some x)(a:Loc X.env.scope x)(d:VE X e te)(hs:swapsWith e (some (.Name x pos')) pos.line X.env=pure false:=by rfl)(b:X.fn x=true\/X.env.scope.names.lookup x=some .local:=by first|exact .inl rfl|exact .inr rfl|assumption) :
  VS X (.Assign [.Name x pos'] e pos) (vH te (cY i)):=⟨bDr c f a d.1 hs b⟩
def dD (a:VE X e te)(hs:swapsWith e none pos.line X.env=pure false:=by rfl):VS X (.Expr e pos) (aDh te):=⟨aRv a.1 hs⟩
def jY {tg iter:Expr}{body:List Stmt}{wi:TI}{g:TG}{tb:TS}(e:PassesOwn (model X.prog X.w) X.A X.env X.xe)(b:X.calm=true)(c:VI X tg iter wi)(a:VG X tg g)(d:VSs X body tb)
  (hs:∀x,foldedSetIterable iter X.env x=pure x:=by intro _;rfl):VS X (.For tg iter body [] pos) (bG7 wi g tb):=⟨bFf e b c.1 a.1 d.1 hs⟩
def aSa (c:X.N.Nodup)(d:X.N[i]?=some x)(a:Loc X.env.scope x)(b:X.fn x=true\/X.env.scope.names.lookup x=some .local:=by first|exact .inl rfl|exact .inr rfl|assumption):VG X (.Name x pos) (cY i):=⟨bAk c d a b⟩
def eN:VGs X [] aPp:=⟨bAb⟩
def aY {t:TG}{u:TGs}(a:VG X e t)(b:VGs X es u)(hs:(assignEach (e::es) X.env).map (·.2)=assign e X.env::(assignEach es X.env).map (·.2):=by rfl):VGs X (e::es) (uN t u):=⟨aWa a.1 b.1 hs⟩
def lV {k:Nat}{t:TGs}{n:Nat}(b:X.calm=true)(h:VGs X es t)(hn:(assignEach es X.env).length=n:=by rfl)(a:(assignEach es X.env).findIdx? (·.1)=none:=by rfl):VG X (.Tuple es k pos) (aI3 X.K n t):=⟨bDs b h.1 hn a⟩
def qF (h:VE X e te):VI X tg e (aHy X.K te):=⟨aZj h.1⟩
def lC (h:VE X e te):VI X tg e (aUt X.K te):=⟨bFb h.1⟩
def aX4 (h:VE X e te):VI X tg e (bDk te):=⟨bE1 h.1⟩
def gV (c:Gl X "range")(e:X.mg "range"=none)(b:VA X [a] t)(d:eU a=true:=by rfl):VI X tg (.Call (.Name "range" p) [a] [] pos) (aXt t):=⟨aT3 c e b.1 (bG d)⟩
def jK:VF X [] zR:=⟨wI⟩
def aB2 (h:VT X c tA):VF X [c] tA:=⟨bEa h.1⟩
def gM
  (C:yM scope N) (b:∀y,(y,NameKind.free)∈scope.names->X.env.kindOf y=some .cell\/X.env.kindOf y=some .free) (c:X.calm=true)
  (d:VI X target iter wi)
  (a:∀cl s H fp,VG (cxC X N scope cl s H fp) target g/\VF (cxC X N scope cl s H fp) ifs tt/\VE (cxC X N scope cl s H fp) elt te)
  (hs:∀x,foldedSetIterable iter X.env x=pure x:=by intro _;rfl) :
  VE X (.ListComp elt [⟨target,iter,ifs,0⟩] scope pos) (mU X scope N wi g tt te):=
 ⟨aZ7 C b c d.1 (λcl s H fp=>⟨(a cl s H fp).1.1,(a cl s H fp).2.1.1,(a cl s H fp).2.2.1⟩) hs⟩
end
section
variable {P:Program}{w:World}{K:bFQ}{mg:bFT}{base:Heap}
def Fun.okV {x qual:Str}{st:Stmt}{f:Addr}{fd:FuncData}{N ps:List Str}{k:Nat}{sp:Sp}(F:Fun K x qual st f fd)(S:aM N ps (aC st))(b:∀vs H Q E,sp vs H Q E->vs.length=ps.length)
  (a:∀(cdv:Value) (A:Around) (outer:List Env) (s:Shared) (H:Hp) (vs:List V) (Q:VK) (E:XK),Room k (A.deeper (envOfC qual (aC st) s.heap.objs.size f cdv))->sp vs H Q E ->
   ∃t,VSs (uT CX0 P w K mg base N qual (aC st) f cdv A outer s H E).nox (dN st) t/\t { nx:=λ_ H'=>Q .non H',rt:=Q } (start N vs) H):!iM CX0 (k+1) f fd ps sp:=
 F.ok S b λcdv A outer s H vs Q E c h=>let ⟨t,h1,h2⟩:=a cdv A outer s H vs Q E c h;⟨t,h1.1,h2⟩
def Ok.ofV {x:Str}{st:Stmt}{N ps:List Str}{k:Nat}{sp:Sp}(D:Dn K mg x st ps)(S:aM N ps (aC st))(b:∀vs H Q E,sp vs H Q E->vs.length=ps.length)
  (a:∀(f:Addr) (cdv:Value) (A:Around) (outer:List Env) (s:Shared) (H:Hp) (vs:List V) (Q:VK) (E:XK),Room k (A.deeper (envOfC x (aC st) s.heap.objs.size f cdv))->sp vs H Q E ->
   ∃t,VSs (uT CX0 P w K mg base N x (aC st) f cdv A outer s H E).nox (dN st) t/\t { nx:=λ_ H'=>Q .non H',rt:=Q } (start N vs) H):!Ok (k+1) x ps sp:=
 Ok.of D S b λf cdv A outer s H vs Q E c h=>let ⟨t,h1,h2⟩:=a f cdv A outer s H vs Q E c h;⟨t,h1.1,h2⟩
def OkX (P:Program)(w:World)(K:bFQ)(mg:bFT)(base:Heap)(k:Nat)(x:Str)(ps:List Str)(sp:Sp):Prop:=
 ∃f fd,mg x=some (.ref f)/\PySem.W.keepIn K (.ref f)=true/\Binds K fd ps []/\!iM (CXR P w) k f fd ps sp
def OkX.mono (h:!OkX j x ps sp)(g:j<=k):!OkX k x ps sp:=by obtain⟨f,b,a,e,d,c⟩:=h;exact⟨f,b,a,e,d,c.mono g⟩
def OkX.ofV {x:Str}{st:Stmt}{N ps:List Str}{k:Nat}{sp:Sp}(D:Dn K mg x st ps)(S:aM N ps (aC st))(i:∀vs H Q E,sp vs H Q E->vs.length=ps.length)
  (b:∀(f:Addr) (cdv:Value) (A:Around) (outer:List Env) (s:Shared) (H:Hp) (vs:List V) (Q:VK) (E:XK),Room k (A.deeper (envOfC x (aC st) s.heap.objs.size f cdv))->sp vs H Q E ->
   ∃t,VSs (uT (CXR P w) P w K mg base N x (aC st) f cdv A outer s H E) (dN st) t/\t { nx:=λ_ H'=>Q .non H',rt:=Q } (start N vs) H):!OkX (k+1) x ps sp:=by
 obtain⟨f,l,F,B,m⟩:=D;obtain⟨n,q,kV,e,j,o,cdv,p,g,rfl,h,c⟩:=F.ex;exact⟨f,_,m,F.kp,B,aVo h c S i λA outer s H vs Q E d a=>let ⟨t,h1,h2⟩:=b f cdv A outer s H vs Q E d a;⟨t,h1.1,h2⟩⟩
def iM.calm (F:!iM (CXR P w) k f fd ps sp)(h:∀vs H Q E,sp' vs H Q E->sp vs H Q E0):!iM CX0 k f fd ps sp':=
 ⟨λvs H Q E q=>F.len vs H Q E0 (h _ _ _ _ q),λA a s H b d vs Q E j i e l g=>bDF (F.run A a s H b d vs Q E0 j i e l (h _ _ _ _ g)) λr m c=>by
  cases r with
  |error v=>obtain⟨_,_,_,_,_,_,_,_,_,_,_,_,_,_,z⟩:=c;exact z.elim
  |ok fl=>cases fl <;> exact c⟩
def OkX.calm (G:!OkX k x ps sp)(h:∀vs H Q E,sp' vs H Q E->sp vs H Q E0):!Ok k x ps sp':=by obtain⟨f,b,a,e,d,c⟩:=G;exact⟨f,b,a,e,d,c.calm h⟩
structure ExT (K:bFQ)(mg:bFT)(st:Stmt)(x y:Str)(C S:Addr):Prop where
 at_:∃fI fd,XC K C fI/\Fun K "__init__" y st fI fd/\Binds K fd bQA []
 mg:mg x=some (.ref C)
 kp:PySem.W.keepIn K (.ref C)=true
 cls:XS K C
 over:PySem.W.mroIn K C (.ref S)=some true
def jQ {k:Nat}{y:Str}{st:Stmt}{fI:Addr}{fd:FuncData}(F:Fun K "__init__" y st fI fd)(j:aM bQA bQA (aC st))
  (l:∀(X:Cx),X.N=(["self","act"]:List Str)->X.env.scope=aC st->X.mg=mg->VSs X (dN st) (rF (aDh (tVI X.K fI (eE (iK 0) (eE (iK 1) pP)))) (aE4 X.K fI (iK 0) (iK 1)))) :
  !iM CX0 (k+1) fI fd bQA (vM K fI):=by
 refine F.okV j (λh H Q E ⟨e,C,z,_⟩=>by rw[z];rfl) λi A a s H h Q E m ⟨e,C,g,b,c,q⟩=>⟨_,l _ rfl rfl rfl,?_⟩;subst g;refine⟨_,rfl,_,rfl,e,C,.non,rfl,b,c,?_⟩;exact⟨_,rfl,_,rfl,e,C,rfl,rfl,b,c,λd n f=>q d n f⟩
end
section
variable {X:Cx}{k j:Nat}{C S:Addr}{E:XK}{x y:Str}{np cpos pos:Pos}{a:Expr}{t:TA}{st:Stmt}
def iI (e:ExT X.K X.mg st x y C S)(h:∀fI fd,Fun X.K "__init__" y st fI fd->iM X.prog X.w X.K X.mg X.base CX0 k fI fd bQA (vM X.K fI))(j:Room (k+1) X.A)(l:Raises X E)(g:X.calm=true)
  (d:Gl X x) (f:VA X [a] t) (b:(x == ("__debug__":Str))=false:=by decide) (i:eU a=true:=by rfl) :
  VS X (.Raise (some (.Call (.Name x np) [a] [] cpos)) none pos) (aGc C E t):=by
 obtain⟨⟨fI,fd,c,F,B⟩,m,kp,_,_⟩:=e;exact⟨aVb c (h fI fd F) j B aGh l g kp d m f.1 b (bG i)⟩
def bD2 {K:bFQ}{o:Expr}{ta:TE}{f:Str}(c:VE X o ta)(d:X.K=K:=by rfl)(a:f = "act":=by first|rfl|decide)(b:attributeBase o f X.env (eval o X.env)=eval o X.env:=by rfl):VE X (.Attribute o f pos) (bGs K ta):=by subst a d;exact⟨bF9 c.1 b⟩
def aLv {K:bFQ}{D:Addr}(a:XS K D)(b:X.K=K:=by rfl):dW X (.builtin "isinstance") (aX6 K (.ref D) (.ref D) λ_=>True):=by subst b;exact bA5 a
def bA0 {K:bFQ}(a:X.K=K:=by rfl):dW X (.builtin "isinstance") (aX6 K (.ty "ValueError") (.type "ValueError") λ_=>True):=by subst a;exact bC4
def bFk (d:X.stack=X.env::X.outer)(a:X.env.frame=some X.env.locals)(k:X.N.Nodup)(f:X.N[i]?=some n)(h:X.env.scope.names.lookup n=some .local)
  (j:Gl X x) (o:X.mg x=some (.ref S)) (l:XS X.K S) (g:∀bFU σ₀ E,X.Ok->VSs (yC X bFU σ₀ E) body (tb σ₀ E)) (m:∀e,VSs (tL X e) (b₀::suite) th) (b:(x == ("__debug__":Str))=false:=by decide) :
  VS X (.Try body [.ExceptHandler (some (.Name x np)) (some n) (b₀::suite) hpos] [] [] pos) (bHk X.K S i tb th):=
 ⟨bGa d a k f h j o l (λbFU σ₀ E c=>(g bFU σ₀ E c).1) (λe=>(m e).1) b⟩
def xE (i:X.Ok)(G:OkX X.prog X.w X.K X.mg X.base k x ps sp)(o:Room k X.A)(l:Gl X x)
  (m:VA (yC X bFU₀ σ₀ E) (e::es) t) (c:(x == ("__debug__":Str))=false:=by decide) (n:eU e=true:=by rfl) (g:(backTo pos (starEach es X.env)).any (·.1)=false:=by rfl) :
  VE (yC X bFU₀ σ₀ E) (.Call (.Name x p) (e::es) [] pos) (aRj σ₀ sp [] E t):=by
 obtain⟨f,j,d,h,b,a⟩:=G;exact⟨aU3 i a o l d h b .nil m.1 c (bG n) g⟩
end
def gW (G:OkX X.prog X.w X.K X.mg X.base k x ps sp)(o:Room k X.A)(l:Thr X E)(j:Gl X x)
  (m:VA X (e::es) t) (c:(x == ("__debug__":Str))=false:=by decide) (n:eU e=true:=by rfl) (g:(backTo pos (starEach es X.env)).any (·.1)=false:=by rfl) :
  VE X (.Call (.Name x p) (e::es) [] pos) (aC1 sp [] E t):=by
 obtain⟨f,i,d,h,b,a⟩:=G;exact⟨aSg a o j d h b .nil l.passes m.1 c (bG n) g⟩
end L2
namespace PySem
abbrev bBu (t:Addr)(i:Nat):Obj:={ cls:=.type "tuple_iterator",data:=.fields #[.ref t,.int (i:Int) 0] }
abbrev aZm (t:Addr)(i:Nat):Obj:={ cls:=.type "list_iterator",data:=.fields #[.ref t,.int (i:Int) 0] }
abbrev aAk (f0:Value)(TI TO:Addr):Obj:={ cls:=.type "zip",dict:=none,data:=.fields #[f0,.bool false,.bool false,.ref TI,.ref TO],slots:=#[] }
abbrev pQ (a b:Value):Obj:={ cls:=.type "tuple",data:=.seq #[a,b] }
def aPw (a:s.heap.get? it=some (bBu t i))(f:s.heap.IsTuple t its)(e:its[i]?=some x)
  (q:∀h',h'.get? it=some (bBu t (i+1))->Heap.SameBut it s.heap h'->Q x { s with heap:=h' }):wpAny (model prog w) A (Builtin.SmallTypes.nextOf (.ref it)) Q E s:=by
 have d:s.TypeIs (.ref it) "tuple_iterator":=⟨_,a,rfl⟩;obtain⟨h,c,_,g,b⟩:=f;unfold Builtin.SmallTypes.nextOf;refine c7 (bBG d F.slot_tuple_iterator_next (bBX F.slot_tuple_iterator_next d F.entry_tuple_iterator_next ?_ (F.args_tuple_iterator_next_1 _)));refine c7 (m:=field (.ref it) 0) (bAR a rfl (x:=.ref t) rfl ?_);refine (if_neg (show ¬ ((Value.ref t == Value.none)=true) from bAC)).symm ▸ ?_;refine c7 (bAR a rfl rfl ?_);refine c7 (bCC c b ?_);simp only[bBZ,e];refine c7 (bCT a rfl (by simp) (j9 ⟨x,rfl,j9 (q _ ?_ (bDI ..))⟩));exact bAY _ a rfl
def aFf (f:A.handled=none)(c:s.heap.get? it=some (bBu t i))(h:s.heap.IsTuple t its)(g:its[i]?=none)
  (q:∀h' e,Heap.ExtBut it s.heap h'->(∃o,h'.get? e=some o/\o.cls=.type "StopIteration")->E (.ref e) { s with heap:=h' }):wpAny (model prog w) A (Builtin.SmallTypes.nextOf (.ref it)) Q E s:=by
 have d:s.TypeIs (.ref it) "tuple_iterator":=⟨_,c,rfl⟩;obtain⟨k,b,_,j,a⟩:=h;unfold Builtin.SmallTypes.nextOf;refine c7 (bBG d F.slot_tuple_iterator_next (bBX F.slot_tuple_iterator_next d F.entry_tuple_iterator_next ?_ (F.args_tuple_iterator_next_1 _)));refine c7 (m:=field (.ref it) 0) (bAR c rfl (x:=.ref t) rfl ?_);refine (if_neg (show ¬ ((Value.ref t == Value.none)=true) from bAC)).symm ▸ ?_;refine c7 (bAR c rfl rfl ?_);refine c7 (bCC b a ?_);simp only[bBZ,g];refine c7 (bEJ (c7 (bCT c rfl (by simp) ?_)));unfold Builtin.SmallTypes.stopIteration;refine c7 ?_;simp only[newExc,newTuple];refine c7 (bBE ?_ (by size_fits));refine c7 (wpAny_of_eq (by first|rfl|(simp only[firstArgMember];rfl)) ?_);refine bBE ?_ (by size_fits);simp only[raiseNew];refine c7 (wpAny_handled ?_);first|rw[show A.in1.handled=none from f]|rw[f]
 refine c7 (j9 (wpAny_throw ?_));exact q _ _ (((bDI ..).extBut.push _).push _) ⟨_,z9 _ rfl,rfl⟩
def aQs (a:s.heap.get? it=some (aZm t i))(f:s.heap.IsList t its)(e:its[i]?=some x)
  (q:∀h',h'.get? it=some (aZm t (i+1))->Heap.SameBut it s.heap h'->Q x { s with heap:=h' }):wpAny (model prog w) A (Builtin.SmallTypes.nextOf (.ref it)) Q E s:=by
 have d:s.TypeIs (.ref it) "list_iterator":=⟨_,a,rfl⟩;obtain⟨h,c,_,g,b⟩:=f;unfold Builtin.SmallTypes.nextOf;refine c7 (bBG d slot_listiter_next (bBX slot_listiter_next d entry_listiter_next ?_ (args_listiter_next _)));refine c7 (m:=field (.ref it) 0) (bAR a rfl (x:=.ref t) rfl ?_);refine (if_neg (show ¬ ((Value.ref t == Value.none)=true) from bAC)).symm ▸ ?_;refine c7 (bAR a rfl rfl ?_);refine c7 (bCC c b ?_);simp only[bBZ,e];refine c7 (bCT a rfl (by simp) (j9 ⟨x,rfl,j9 (q _ ?_ (bDI ..))⟩));exact bAY _ a rfl
def aF4 (f:A.handled=none)(c:s.heap.get? it=some (aZm t i))(h:s.heap.IsList t its)(g:its[i]?=none)
  (q:∀h' e,Heap.ExtBut it s.heap h'->(∃o,h'.get? e=some o/\o.cls=.type "StopIteration")->E (.ref e) { s with heap:=h' }):wpAny (model prog w) A (Builtin.SmallTypes.nextOf (.ref it)) Q E s:=by
 have d:s.TypeIs (.ref it) "list_iterator":=⟨_,c,rfl⟩;obtain⟨k,b,_,j,a⟩:=h;unfold Builtin.SmallTypes.nextOf;refine c7 (bBG d slot_listiter_next (bBX slot_listiter_next d entry_listiter_next ?_ (args_listiter_next _)));refine c7 (m:=field (.ref it) 0) (bAR c rfl (x:=.ref t) rfl ?_);refine (if_neg (show ¬ ((Value.ref t == Value.none)=true) from bAC)).symm ▸ ?_;refine c7 (bAR c rfl rfl ?_);refine c7 (bCC b a ?_);simp only[bBZ,g];refine c7 (bEJ (c7 (bCT c rfl (by simp) ?_)));unfold Builtin.SmallTypes.stopIteration;refine c7 ?_;simp only[newExc,newTuple];refine c7 (bBE ?_ (by size_fits));refine c7 (wpAny_of_eq (by first|rfl|(simp only[firstArgMember];rfl)) ?_);refine bBE ?_ (by size_fits);simp only[raiseNew];refine c7 (wpAny_handled ?_);first|rw[show A.in1.handled=none from f]|rw[f]
 refine c7 (j9 (wpAny_throw ?_));exact q _ _ (((bDI ..).extBut.push _).push _) ⟨_,z9 _ rfl,rfl⟩
def itO:Bool->Addr->Nat->Obj
 |true=>aZm
 |false=>bBu
def Heap.yO (h:Heap):Bool->Addr->Array Value->Prop
 |true=>h.IsList
 |false=>h.IsTuple
def Heap.yO.extBut (p:h.yO b t its)(e:Heap.ExtBut x h h')(n:t≠x):h'.yO b t its:=by
 cases b
 ·exact Heap.IsTuple.extBut p e n
 ·exact Heap.IsList.extBut p e n
def aCb (a:s.heap.get? it=some (itO L t i))(b:s.heap.yO L t its)(c:its[i]?=some x)
  (q:∀h',h'.get? it=some (itO L t (i+1))->Heap.SameBut it s.heap h'->Q x { s with heap:=h' }):wpAny (model prog w) A (Builtin.SmallTypes.nextOf (.ref it)) Q E s:=by
 cases L
 ·exact aPw a b c q
 ·exact aQs a b c q
def yK (d:A.handled=none)(c:s.heap.get? it=some (itO L t i))(b:s.heap.yO L t its)(a:its[i]?=none)
  (q:∀h' e,Heap.ExtBut it s.heap h'->(∃o,h'.get? e=some o/\o.cls=.type "StopIteration")->E (.ref e) { s with heap:=h' }):wpAny (model prog w) A (Builtin.SmallTypes.nextOf (.ref it)) Q E s:=by
 cases L
 ·exact aFf d c b a q
 ·exact aF4 d c b a q
structure aCn (z TI TO a b:Addr):Prop where
 h1:TI≠z
 h2:TO≠z
 h3:a≠z
 h4:b≠z
 h5:TI≠TO
 h6:TI≠a
 h7:TI≠b
 h8:TO≠a
 h9:TO≠b
 h10:a≠b
def aJ1 (c:s.heap.get? T=some (pQ a b))
  (q:∀h',h'.get? T=some { cls:=.type "tuple",data:=.seq ((#[a,b]:Array Value).setIfInBounds k x) }->Heap.SameBut T s.heap h'->Q () { s with heap:=h' }) :
  wpAny (model prog w) A (updateSeq T (·.setIfInBounds k x)) Q E s:=by
 refine wpAny_updateSeq c rfl (q _ ?_ (bDI ..));rw[bAY _ c rfl];simp[Obj.mapSeq]
def aUk {L:Bool}{z TI TO i1 Y t u:Addr}{k:Nat}{xs ys:Array Value}{x y a b:Value}{Q:Option Value->Shared->Prop}(D:aCn z TI TO i1 Y)
  (B:s.heap.get? z=some (aAk .none TI TO)) (a0:s.heap.get? TI=some (pQ (.ref i1) (.ref Y))) (a1:s.heap.get? TO=some (pQ a b))
  (g1:s.heap.get? i1=some (itO L t k)) (g2:s.heap.get? Y=some (itO L u k)) (ht:s.heap.yO L t xs) (hu:s.heap.yO L u ys) (hx:xs[k]?=some x) (hy:ys[k]?=some y)
  (t1:t≠z) (t2:t≠TO) (t3:t≠i1) (t4:t≠Y) (u1:u≠z) (u2:u≠TO) (u3:u≠i1) (u4:u≠Y)
  (q:∀h',h'.get? z=some (aAk (rawInt s.heap.objs.size) TI TO)->h'.get? TO=some (pQ x y)->h'.get? i1=some (itO L t (k+1))->h'.get? Y=some (itO L u (k+1))->h'.get? s.heap.objs.size=some (pQ x y) ->
   (∀c o,c≠z->c≠TO->c≠i1->c≠Y->s.heap.get? c=some o->h'.get? c=some o)->Q (some (.ref s.heap.objs.size)) { s with heap:=h' }) :
  wpAny (model prog w) A (pyNext (.ref z)) Q E s:=by
 have V:s.TypeIs (.ref z) "zip":=⟨_,B,rfl⟩;unfold pyNext;refine c7 (bEE (bBG (name:=Str.ofString "__next__") V F.slot_zip_next (bBX F.slot_zip_next V F.entry_zip_next ?_ (F.args_zip_next_1 _))));refine c7 (m:=field (.ref z) 2) (bAR B rfl (x:=.bool false) rfl ?_);refine c7 (m:=field (.ref z) 3) (bAR B rfl (x:=.ref TI) rfl (c7 (bCC a0 rfl ?_)));refine c7 (m:=Builtin.SmallTypes.ownedTupleIsFree (.ref z)) ?_;unfold Builtin.SmallTypes.ownedTupleIsFree;refine c7 (bAR B rfl (x:=.none) rfl (j9 ?_));simp only[if_true];refine c7 (bEJ (c7 (bAR B rfl (x:=.ref TO) rfl (c7 (bCO B (by simp) λh1 T i=>?_)))));replace T:h1.get? z=some (aAk .ellipsis TI TO):=T;refine c7 ?_;simp only[List.zipIdx_cons,List.zipIdx_nil,bDP,bFI];refine c7 (c7 (bED ?_));refine c7 (m:=Builtin.SmallTypes.nextOf (.ref i1)) (aCb (s:={ s with heap:=h1 }) (i.extBut _ _ D.h3 g1) (ht.extBut i.extBut t1) hx λh2 S l=>j9 ?_);have C:h2.get? TO=some (pQ a b):=l.extBut _ _ D.h8 (i.extBut _ _ D.h2 a1);refine c7 (bCC C rfl (c7 (aJ1 (s:={ s with heap:=h2 }) C λX h j=>c7 (wpAny_letGo (j9 ?_)))));replace h:X.get? TO=some (pQ x b):=h;refine c7 (c7 (bED ?_));refine c7 (m:=Builtin.SmallTypes.nextOf (.ref Y)) (aCb (s:={ s with heap:=X }) (j.extBut _ _ D.h9.symm (l.extBut _ _ D.h10.symm (i.extBut _ _ D.h4 g2))) (((hu.extBut i.extBut u1).extBut l.extBut u3).extBut j.extBut u2) hy λh4 K n=>j9 ?_);have p:h4.get? TO=some (pQ x b):=n.extBut _ _ D.h9 h;refine c7 (bCC p rfl (c7 (aJ1 (s:={ s with heap:=h4 }) p λd f r=>c7 (wpAny_letGo (j9 (j9 ?_))))));replace f:d.get? TO=some (pQ x y):=f;refine c7 (bCC f rfl (c7 (wpAny_newTuple ?_)));have v:d.objs.size=s.heap.objs.size:=by rw[r.1,n.1,j.1,l.1,i.1]
 have z5:d.get? z=some (aAk .ellipsis TI TO):=r.extBut _ _ D.h2.symm (n.extBut _ _ D.h4.symm (j.extBut _ _ D.h2.symm (l.extBut _ _ D.h3.symm T)));have kp:∀c o,c≠z->c≠TO->c≠i1->c≠Y->s.heap.get? c=some o->d.get? c=some o:=λc o g G O M e=>r.extBut _ _ G (n.extBut _ _ M (j.extBut _ _ G (l.extBut _ _ O (i.extBut _ _ g e))));have N:d.get? i1=some (itO L t (k+1)):=r.extBut _ _ D.h8.symm (n.extBut _ _ D.h10 (j.extBut _ _ D.h8.symm S));have P:d.get? Y=some (itO L u (k+1)):=r.extBut _ _ D.h9.symm K;refine c7 (m:=Builtin.SmallTypes.ownedTupleHandOut (.ref z) (.ref d.objs.size)) ?_;unfold Builtin.SmallTypes.ownedTupleHandOut;have z6:(d.push (pQ x y)).get? z=some (aAk .ellipsis TI TO):=j4 _ z5;refine c7 (bCO z6 (by simp) λh7 R Z=>?_);replace R:h7.get? z=some (aAk (rawInt d.objs.size) TI TO):=R;refine bCO R (by simp) λJ H s8=>?_;replace H:J.get? z=some (aAk (rawInt d.objs.size) TI TO):=H;have I:∀c o,c≠z->d.get? c=some o->J.get? c=some o:=λc o g e=>s8.extBut _ _ g (Z.extBut _ _ g (j4 _ e));have W:d.objs.size≠z:=bDD (bAA z5);have U:J.get? d.objs.size=some (pQ x y):=s8.extBut _ _ W (Z.extBut _ _ W (z9 _ rfl));rw[v] at H U;refine j9 ⟨_,rfl,j9 ?_⟩;show Q (some (.ref d.objs.size)) _;rw[v];exact q J H (I _ _ D.h2 f) (I _ _ D.h3 N) (I _ _ D.h4 P) U λc o g G O M e=>I c o g (kp c o g G O M e)
theorem aW3 (Z:A.handled=none)(D:aCn z TI TO i1 i2)
  (j:s.heap.get? z=some (aAk .none TI TO)) (O:s.heap.get? TI=some (pQ (.ref i1) (.ref i2))) (R:s.heap.get? TO=some (pQ a b))
  (T:s.heap.get? i1=some (itO L t k)) (Y:s.heap.get? i2=some (itO L u k)) (ht:s.heap.yO L t xs) (U:s.heap.yO L u ys) (hx:xs[k]?=some x) (W:ys[k]?=none) (t1:t≠z) (X:u≠z) (u2:u≠TO) (V:u≠i1)
  (q:∀h',(∀c o,c≠z->c≠TO->c≠i1->c≠i2->s.heap.get? c=some o->h'.get? c=some o)->Q none { s with heap:=h' }) :
  wpAny (model prog w) A (pyNext (.ref z)) Q E s:=by
 have B:s.TypeIs (.ref z) "zip":=⟨_,j,rfl⟩;unfold pyNext;refine c7 (bEE (bBG B F.slot_zip_next (bBX F.slot_zip_next B F.entry_zip_next ?_ (F.args_zip_next_1 _))));refine c7 (m:=field (.ref z) 2) (bAR j rfl (x:=.bool false) rfl ?_);refine c7 (bAR j rfl rfl (c7 (bCC O rfl ?_)));refine c7 ?_;unfold Builtin.SmallTypes.ownedTupleIsFree;refine c7 (bAR j rfl rfl (j9 ?_));simp only[if_true];refine c7 (bEJ (c7 (bAR j rfl rfl (c7 (bCO j (by simp) λP r f=>?_)))));replace r:P.get? z=some (aAk .ellipsis TI TO):=r;refine c7 ?_;simp only[List.zipIdx_cons,List.zipIdx_nil,bDP,bFI];refine c7 (c7 (bED ?_));refine c7 (aCb (f.extBut _ _ D.h3 T) (ht.extBut f.extBut t1) hx λh2 S h=>j9 ?_);have l:=h.extBut _ _ D.h8 (f.extBut _ _ D.h2 R);refine c7 (bCC l rfl (c7 (aJ1 l λI g n=>c7 (wpAny_letGo (j9 ?_)))));replace g:I.get? TO=some (pQ x b):=g;refine c7 (c7 (bED ?_));refine c7 (yK Z (n.extBut _ _ D.h9.symm (h.extBut _ _ D.h10.symm (f.extBut _ _ D.h4 Y))) (((U.extBut f.extBut X).extBut h.extBut V).extBut n.extBut u2) W λh4 e v K=>?_);obtain⟨N,d,i⟩:=K;have C:=v _ _ D.h4.symm (n.extBut _ _ D.h2.symm (h.extBut _ _ D.h3.symm r));have p:e≠z:=λx=>by subst x;rw[C] at d;cases d;simp at i
 refine bCO C (by simp) λh5 _ G=>?_;refine c7 (wpAny_isInstance ⟨N,G.extBut _ _ p d,i⟩ isSubtype_stop ?_);exact j9 (q _ λc o y H M J x=>G.extBut _ _ y (v _ _ J (n.extBut _ _ H (h.extBut _ _ M (f.extBut _ _ y x)))))
def aHw (M:A.handled=none)(D:aCn z TI TO i1 i2)
  (f:s.heap.get? z=some (aAk .none TI TO)) (C:s.heap.get? TI=some (pQ (.ref i1) (.ref i2))) (hTO:s.heap.get? TO=some (pQ a b))
  (I:s.heap.get? i1=some (itO L t k)) (K:s.heap.yO L t xs) (H:xs[k]?=none) (N:t≠z)
  (q:∀h',(∀c o,c≠z->c≠TO->c≠i1->c≠i2->s.heap.get? c=some o->h'.get? c=some o)->Q none { s with heap:=h' }) :
  wpAny (model prog w) A (pyNext (.ref z)) Q E s:=by
 have p:s.TypeIs (.ref z) "zip":=⟨_,f,rfl⟩;unfold pyNext;refine c7 (bEE (bBG p F.slot_zip_next (bBX F.slot_zip_next p F.entry_zip_next ?_ (F.args_zip_next_1 _))));refine c7 (m:=field (.ref z) 2) (bAR f rfl (x:=.bool false) rfl ?_);refine c7 (bAR f rfl rfl (c7 (bCC C rfl ?_)));refine c7 ?_;unfold Builtin.SmallTypes.ownedTupleIsFree;refine c7 (bAR f rfl rfl (j9 ?_));simp only[if_true];refine c7 (bEJ (c7 (bAR f rfl rfl (c7 (bCO f (by simp) λv j h=>?_)))));replace j:v.get? z=some (aAk .ellipsis TI TO):=j;refine c7 ?_;simp only[List.zipIdx_cons,List.zipIdx_nil,bDP,bFI];refine c7 (c7 (bED ?_));refine c7 (yK M (h.extBut _ _ D.h3 I) (K.extBut h.extBut N) H λO e u y=>?_);obtain⟨G,d,g⟩:=y;have l:=u _ _ D.h3.symm j;have i:e≠z:=λx=>by subst x;rw[l] at d;cases d;simp at g
 refine bCO l (by simp) λJ _ r=>?_;refine c7 (wpAny_isInstance ⟨G,r.extBut _ _ i d,g⟩ isSubtype_stop ?_);exact j9 (q _ λc o n _ B _ x=>r.extBut _ _ n (u _ _ B (h.extBut _ _ n x)))
abbrev zT1 (L:Bool)(h:Heap)(t:Addr):Heap:=h.push (itO L t 0)
abbrev zT2 (L:Bool)(h:Heap)(t u:Addr):Heap:=(zT1 L h t).push (itO L u 0)
abbrev zT3 (L:Bool)(h:Heap)(t u:Addr):Heap:=(zT2 L h t u).push (pQ (.ref h.objs.size) (.ref (zT1 L h t).objs.size))
abbrev zT4 (L:Bool)(h:Heap)(t u:Addr):Heap:=(zT3 L h t u).push (pQ .none .none)
abbrev zT5 (L:Bool)(h:Heap)(t u:Addr):Heap:=(zT4 L h t u).push (aAk .none (zT2 L h t u).objs.size (zT3 L h t u).objs.size)
def aQg (L:Bool)(t u:Addr)(xs m:Array Value):Meets (Builtin.«zip.__new__» ⟨[.type "zip",.ref t,.ref u],[]⟩)
  (λ_ R s=>s.heap.yO L t xs/\s.heap.yO L u m/\R (.ok (.ret (.ref (zT4 L s.heap t u).objs.size))) { s with heap:=zT5 L s.heap t u }):=
 .of_wp λl w A R s h=>by
  obtain⟨a,g,d,tk,b⟩:=s;obtain⟨i,j,h⟩:=h;have k:=sub_zip;cases L
  ·have e:Heap.IsTuple (Shared.heap ⟨a,g,d,tk,b⟩) t xs:=i;have c:Heap.IsTuple (Shared.heap ⟨a.push { cls:=.type "tuple_iterator",data:=.fields #[.ref t,.int 0 0] },g,d,tk,b⟩) u m:=by obtain⟨o,f,r⟩:=j;exact⟨o,j4 _ f,r⟩
   wp_walk using bEH e,bEH c;exact⟨_,rfl,h⟩
  ·have e:Heap.IsList (Shared.heap ⟨a,g,d,tk,b⟩) t xs:=i;have c:Heap.IsList (Shared.heap ⟨a.push { cls:=.type "list_iterator",data:=.fields #[.ref t,.int 0 0] },g,d,tk,b⟩) u m:=by obtain⟨o,f,r⟩:=j;exact⟨o,j4 _ f,r⟩
   wp_walk using bDE e,bDE c;exact⟨_,rfl,h⟩
def aTg (b:s.heap.yO L t xs)(c:s.heap.yO L u ys)(q:Q (.ref (zT4 L s.heap t u).objs.size) { s with heap:=zT5 L s.heap t u }) :
  wpAny (model prog w) A (call (.type "zip") [.ref t,.ref u]) Q E s:=by
 refine callType_new F.called_zip (by decide) (F.typeCall_zip_2 _ _) (F.newCall_zip_2 _ _) (λa=>F.args_object_init_3 a _ _) F.entry_zip_new (aQg L t u xs ys) ⟨b,c,?_⟩;exact⟨⟨_,z9 _ rfl,rfl⟩,q⟩
end PySem
namespace L2
open PySem PySem.Spec PyProof.Rows
def Inv.tup_ne (I:Inv X bFU σ H s)(h:SqT X.K H t xs)(f:xK X bFU H b):t≠b:=by
 rintro rfl;obtain⟨a,j,i,g,_⟩:=f;rcases h with (h|⟨o,h⟩)|⟨o,c,n,d,_⟩
 ·rw[a] at h;cases h
 ·rw[a] at h;cases h
 ·have e:=I.ok.mod.kin t o d;rcases g with z|z
  ·exact I.ok.noex t o e z
  ·exact absurd (bAL (bAA e) (bAF I.ok.bsz z)) (bCP _)
def Inv.bDb (I:Inv X bFU σ H s)(h:SqL X.K H t xs)(f:xK X bFU H b):t≠b:=by
 rintro rfl;obtain⟨a,j,i,g,_⟩:=f;rcases h with (h|⟨o,h⟩)|⟨o,c,n,d,_⟩
 ·rw[a] at h;cases h
 ·rw[a] at h;cases h
 ·have e:=I.ok.mod.kin t o d;rcases g with z|z
  ·exact I.ok.noex t o e z
  ·exact absurd (bAL (bAA e) (bAF I.ok.bsz z)) (bCP _)
def SqB (K:bFQ):Bool->Hp->Addr->List V->Prop
 |true=>SqL K
 |false=>SqT K
def Inv.sq (I:Inv X bFU σ H s)(h:SqB X.K L H t xs):∃its:List Value,Vals xs its/\s.heap.yO L t its.toArray:=by
 cases L
 ·obtain⟨its,a,b,_⟩:=I.tuple h;exact⟨its,a,b⟩
 ·obtain⟨its,a,b,_⟩:=I.list h;exact⟨its,a,b.isList⟩
def Inv.qC (I:Inv X bFU σ H s)(h:SqB X.K L H t xs)(f:xK X bFU H b):t≠b:=by
 cases L
 ·exact I.tup_ne h f
 ·exact I.bDb h f
def Inv.drawn {ch:List Addr}{h':Heap}{vs:List V}{its:List Value}{T:Addr}(I:Inv X bFU σ H s)(d:∀b∈ch,xK X bFU H b)(kp:∀b o,b∉ch->s.heap.get? b=some o->h'.get? b=some o)
  (l:s.heap.objs.size<=T) (F:Vals vs its) (E:vs.length<=sizeLine) (G:aBq h' T its.toArray) (hth:∀b∈ch,∃o,h'.get? b=some o):Inv X bFU σ (upd H T (.tup vs)) { s with heap:=h' }:=by
 have f:=I.hok.fresh l;have k:∀b o,s.heap.get? b=some o->b≠T:=λb o e=>bAI (bAL (bAA e) l);have g:∀b u,H b=some u->b∉ch:=λb u e z=>by rw[(d b z).1] at e;cases e
 refine I.step (g':=s.gens) (d':=s.drawn) (t':=s.toks) (λb h=>?_) (λb o _ _ a e _=>kp b o a e) (λb o _ _ a e _=>⟨o.slots,kp b o a e⟩) (λb o a e n=>by rw[aR (k b o e)];exact n)
  (λb o a e=>⟨o,kp b o a e⟩) (λb A e=>by rw[aR (aX e f)];exact e) (λb o u e=>by rw[aR (aX e f)];exact e) (λb D e=>⟨#[],by rw[aR (aX e f),e];simp⟩) (λm C=>?_) (λb u e=>?_) I.bare
 ·obtain⟨_,p,_,B,w,x⟩:=d b h;exact⟨B,p,w,x⟩
 ·obtain⟨o,y,t,j,r⟩:=C;exact⟨o,y,t,kp _ o (λz=>(d _ z).2.1 rfl) j,r⟩
 ·by_cases h:b=T
  ·subst h;rw[aJ] at e;cases e;exact⟨E,its,F,G⟩
  ·rw[aR h] at e;refine (I.hok b u e).stay (λc v i q=>kp c v ?_ q) (λc q=>by rw[aR (aX q f)];exact q) λc A q=>by rw[aR (aX q f)];exact q
   rcases i with z|z
   ·rw[z];exact g b u e
   ·exact g c _ z
def Inv.aQ4 {ch:List Addr}{h':Heap}(I:Inv X bFU σ H s)(a:∀b∈ch,xK X bFU H b)(kp:∀b o,b∉ch->s.heap.get? b=some o->h'.get? b=some o):Inv X bFU σ H { s with heap:=h' }:=by
 have f:∀b u,H b=some u->b∉ch:=λb u e z=>by rw[(a b z).1] at e;cases e
 refine I.step (g':=s.gens) (d':=s.drawn) (t':=s.toks) (λb k=>?_) (λb o _ _ d e _=>kp b o d e) (λb o _ _ d e _=>⟨o.slots,kp b o d e⟩) (λ_ _ _ _ n=>n)
  (λb o d e=>⟨o,kp b o d e⟩) (λ_ _ e=>e) (λ_ _ _ e=>e) (λb y e=>⟨#[],by rw[e];simp⟩) (λm x=>?_) (λb u e=>?_) I.bare
 ·obtain⟨_,i,_,w,l,p⟩:=a b k;exact⟨w,i,l,p⟩
 ·obtain⟨o,t,j,h,r⟩:=x;exact⟨o,t,j,kp _ o (λz=>(a _ z).2.1 rfl) h,r⟩
 ·refine (I.hok b u e).stay (λc v g q=>kp c v ?_ q) (λ_ q=>q) λ_ _ q=>q;rcases g with z|z
  ·rw[z];exact f b u e
  ·exact f c _ z
def ItB (K:bFQ)(L:Bool)(t u:Addr)(xs ys:List V):It:=
 ⟨λi H=>SqB K L H t xs/\SqB K L H u ys/\i<xs.length/\i<ys.length,λi H v H'=>∃T a b,H T=none/\v=.ref T/\H'=upd H T (.tup [a,b])/\xs[i]?=some a/\ys[i]?=some b,λi H=>(SqB K L H t xs/\xs.length<=i)\/(SqB K L H t xs/\SqB K L H u ys/\i=ys.length/\ys.length<=xs.length)⟩
def ztn (L:Bool)(z TI TO i1 i2 t u:Addr)(i:Nat)(h:Heap):Prop:=
 h.get? z=some (aAk .none TI TO)/\h.get? TI=some (pQ (.ref i1) (.ref i2))/\(∃a b,h.get? TO=some (pQ a b))/\h.get? i1=some (itO L t i)/\h.get? i2=some (itO L u i)
def Itz (K:bFQ)(t u:Addr)(xs ys:List V):It:=
 ⟨λi H=>SqT K H t xs/\SqT K H u ys/\i<xs.length/\i<ys.length,λi H v H'=>∃T a b,H T=none/\v=.ref T/\H'=upd H T (.tup [a,b])/\xs[i]?=some a/\ys[i]?=some b,λi H=>SqT K H t xs/\xs.length<=i⟩
def aU4 {P:Program}{w:World}{K:bFQ}{elts:List Expr}{kt:Nat}{pos:Pos}{L:Bool}{z TI TO J N t u:Addr}{xs ys:List V}(D:aCn z TI TO J N) :
  Turn P w K (.Tuple elts kt pos) (ItB K L t u xs ys) [z,TI,TO,J,N] z (ztn L z TI TO J N t u) where
 mem:=by simp
 obj:=λi h r b d=>by
  obtain⟨q,j,⟨a,c,p⟩,m,B⟩:=r;simp only[bAO,bAG,or_false] at d;rcases d with rfl|rfl|rfl|rfl|rfl
  ·exact⟨_,q,λv z=>by cases (show Data.fields _=Data.cell v from z)⟩
  ·exact⟨_,j,λv z=>by cases (show Data.seq _ _=Data.cell v from z)⟩
  ·exact⟨_,p,λv z=>by cases (show Data.seq _ _=Data.cell v from z)⟩
  ·exact⟨_,m,λv z=>by cases L <;> cases (show Data.fields _=Data.cell v from z)⟩
  ·exact⟨_,B,λv z=>by cases L <;> cases (show Data.fields _=Data.cell v from z)⟩
 keep:=λi h f r k=>by obtain⟨q,j,⟨a,c,p⟩,m,B⟩:=r;exact⟨k z (by simp) _ q,k TI (by simp) _ j,⟨a,c,k TO (by simp) _ p⟩,k J (by simp) _ m,k N (by simp) _ B⟩
 item:=by
  intro X hP W Z S i A s σ H E I l r hg;subst hP W Z;obtain⟨q,j,⟨a0,c0,p⟩,m,B⟩:=r;obtain⟨g,n,l1,l2⟩:=hg;obtain⟨its,O,G⟩:=I.sq g;obtain⟨a6,F,Y⟩:=I.sq n;obtain⟨x,T,rx⟩:=O.get (d7 l1);obtain⟨y,hy,ry⟩:=F.get (d7 l2);have C:=l z (by simp);have U:=l TO (by simp);have R:=l J (by simp);have f2:=l N (by simp);refine aUk D q j p m B G Y (by simpa using T) (by simpa using hy) (I.qC g C) (I.qC g U) (I.qC g R) (I.qC g f2)
   (I.qC n C) (I.qC n U) (I.qC n R) (I.qC n f2) λf a1 a2 a3 a4 a5 kp=>?_
  refine⟨_,rfl,?_⟩;have fT:H s.heap.objs.size=none:=I.hok.fresh (v7 _);have I1:Inv X A σ (upd H s.heap.objs.size (.tup [xs[i],ys[i]])) { s with heap:=f }:=by
   refine I.drawn (ch:=[z,TO,J,N]) (its:=[x,y]) (λb d=>?_) (λb o d e=>?_) (v7 _) (.cons rx (.cons ry .nil)) (small (by simp)) (.of a5 rfl ⟨_,a5,rfl,_,rfl⟩) (λb d=>?_)
   ·refine l b ?_;simp only[bAO,bAG,or_false] at d ⊢;rcases d with h|h|h|h <;> simp[h]
   ·simp only[bAO,bAG,or_false,not_or] at d;exact kp b o d.1 d.2.1 d.2.2.1 d.2.2.2 e
   ·simp only[bAO,bAG,or_false] at d;rcases d with rfl|rfl|rfl|rfl
    ·exact⟨_,a1⟩
    ·exact⟨_,a2⟩
    ·exact⟨_,a3⟩
    ·exact⟨_,a4⟩
  have nT:∀b∈[z,TI,TO,J,N],b≠s.heap.objs.size:=λb d=>by
   have e:∃o,s.heap.get? b=some o:=by
    simp only[bAO,bAG,or_false] at d;rcases d with rfl|rfl|rfl|rfl|rfl
    ·exact⟨_,q⟩
    ·exact⟨_,j⟩
    ·exact⟨_,p⟩
    ·exact⟨_,m⟩
    ·exact⟨_,B⟩
   obtain⟨o,e⟩:=e;exact bAI (bAA e)
  refine wpAny_letOwnedTupleGo_zip (s:={ s with heap:=f }) a1 λh2 z2 Q=>?_;obtain⟨g0,g1,g2,g3,g4,g5⟩:=C;have I2:Inv X A σ (upd H s.heap.objs.size (.tup [xs[i],ys[i]])) { s with heap:=h2 }:=Inv.turned (s:={ s with heap:=f }) I1 (t':=s.toks) (it:=z) (λb o d e=>(Q.2 b d).trans e) (by rw[aR (nT z (by simp))];exact g0) g1 g3 g4 g5;refine⟨.ref s.heap.objs.size,_,I2,rfl,⟨_,_,_,fT,rfl,rfl,d7 l1,d7 l2⟩,?_,λb d=>by rw[aR (nT b d)];exact (l b d).1⟩;exact⟨z2,Q.extBut _ _ D.h1 (kp TI _ D.h1 D.h5 D.h6 D.h7 j),⟨_,_,Q.extBut _ _ D.h2 a2⟩,Q.extBut _ _ D.h3 a3,Q.extBut _ _ D.h4 a4⟩
 done:=by
  intro X hP W Z S i A s σ H E I l r hg;subst hP W Z;obtain⟨q,j,⟨a0,c0,p⟩,m,B⟩:=r;have C:=l z (by simp);have U:=l TO (by simp);have R:=l J (by simp);refine (λ(go:∀f,(∀c o,c≠z->c≠TO->c≠J->c≠N->s.heap.get? c=some o->f.get? c=some o)->_)=>?_:_->_) (λf kp=>(⟨rfl,?_⟩:(none:Option Value)=none/\Inv X A σ H { s with heap:=f }))
  ·rcases hg with⟨g,hl⟩|⟨g,n,hl,hle⟩
   ·obtain⟨its,O,G⟩:=I.sq g;have M:=O.length;exact aHw (I.ok.hd S) D q j p m G (by simp;lia) (I.qC g C) λf kp=>go f kp
   ·obtain⟨its,O,G⟩:=I.sq g;obtain⟨a6,F,Y⟩:=I.sq n;have M:=O.length;have a7:=F.length;cases T:its[i]? with
    |none=>exact aHw (I.ok.hd S) D q j p m G (by simpa using T) (I.qC g C) λf kp=>go f kp
    |some x=>exact aW3 (I.ok.hd S) D q j p m B G Y (by simpa using T) (by simp;lia) (I.qC g C) (I.qC n C) (I.qC n U) (I.qC n R) λf kp=>go f kp
  refine Inv.aQ4 (ch:=[z,TO,J,N]) I (λb d=>l b ?_) λb o d e=>?_
  ·simp only[bAO,bAG,or_false] at d ⊢;rcases d with h|h|h|h <;> simp[h]
  ·simp only[bAO,bAG,or_false,not_or] at d;exact kp b o d.1 d.2.1 d.2.2.1 d.2.2.2 e
 self:=λ_ _ _ _ _ r h=>wpAny_pyIter_zip r.1 h
def aWi (K:bFQ)(ta:TA):TI:=fun σ H R=>ta σ H λvs H1=>∃t u xs ys,vs=[.ref t,.ref u]/\SqT K H1 t xs/\SqT K H1 u ys/\R (Itz K t u xs ys) H1
def bBw (L:Bool){J:Addr->Addr->List V->List V->It}{elts:List Expr}{kt:Nat}{tp:Pos}{a b:Expr}{ta:TA}{p pos:Pos}(T:∀{z TI TO i1 i2 t u xs ys},aCn z TI TO i1 i2->Turn X.prog X.w X.K (.Tuple elts kt tp) (J t u xs ys) [z,TI,TO,i1,i2] z (ztn L z TI TO i1 i2 t u))(W:Gl X "zip")(Z:X.mg "zip"=none)(ha:PA X [a,b] ta)(hs:starEach [a,b] X.env=(false,eval a X.env)::starEach [b] X.env:=by rfl)
  (F:starEach [b] X.env=[(false,eval b X.env)]:=by rfl):PI X (.Tuple elts kt tp) (.Call (.Name "zip" p) [a,b] [] pos) (fun σ H R=>ta σ H λvs H1=>∃t u xs ys,vs=[.ref t,.ref u]/\SqB X.K L H1 t xs/\SqB X.K L H1 u ys/\R (J t u xs ys) H1):=by
 intro d s σ H R I h;refine Call_ (yZ I W Z bE7 (bCY (thn (ha pos d s σ H _ I h) λU c ⟨vs,H1,g,G,M⟩=>?_) hs (by rw[F];rfl)));obtain⟨t,u,xs,ys,e,Q,y,q⟩:=M;subst e;obtain⟨x,Y,P⟩:=g.sq Q;obtain⟨E,C,S⟩:=g.sq y;cases G with
 |cons r rr=>
  cases rr with
  |cons r' rr'=>
   cases rr';cases r;cases r';refine aTg P S ?_;have j:(zT1 L c.heap t).objs.size=c.heap.objs.size+1:=bCR ..;have k:(zT2 L c.heap t u).objs.size=c.heap.objs.size+2:=by rw[bCR,j]
   have i:(zT3 L c.heap t u).objs.size=c.heap.objs.size+3:=by rw[bCR,k]
   have l:(zT4 L c.heap t u).objs.size=c.heap.objs.size+4:=by rw[bCR,i]
   have D:aCn (zT4 L c.heap t u).objs.size (zT2 L c.heap t u).objs.size (zT3 L c.heap t u).objs.size c.heap.objs.size (zT1 L c.heap t).objs.size:=by constructor <;> (show (_:Nat)≠(_:Nat);rw[Ne];intro h;simp only[j,k,i,l] at h;lia)
   have n:(zT5 L c.heap t u).get? (zT4 L c.heap t u).objs.size=some (aAk .none (zT2 L c.heap t u).objs.size (zT3 L c.heap t u).objs.size):=z9 _ rfl;have N:(zT5 L c.heap t u).get? (zT3 L c.heap t u).objs.size=some (pQ .none .none):=j4 _ (z9 _ rfl);have O:(zT5 L c.heap t u).get? (zT2 L c.heap t u).objs.size=some (pQ (.ref c.heap.objs.size) (.ref (zT1 L c.heap t).objs.size)):=j4 _ (j4 _ (z9 _ rfl));have A:(zT5 L c.heap t u).get? (zT1 L c.heap t).objs.size=some (itO L u 0):=j4 _ (j4 _ (j4 _ (z9 _ (by cases L <;> rfl))));have v:(zT5 L c.heap t u).get? c.heap.objs.size=some (itO L t 0):=j4 _ (j4 _ (j4 _ (j4 _ (z9 _ (by cases L <;> rfl)))));have B:Inv X d σ H1 { c with heap:=zT5 L c.heap t u }:=g.kept (t':=c.toks) λb o e=>j4 _ (j4 _ (j4 _ (j4 _ (j4 _ e))));refine wpAny_pyIter_zip (s:={ c with heap:=zT5 L c.heap t u }) n ⟨_,_,_,_,H1,rfl,B,T D,⟨n,O,⟨_,_,N⟩,v,A⟩,λb m=>?_,q⟩;have f:c.heap.objs.size<=b:=by
    simp only[bAO,bAG,or_false] at m;rcases m with rfl|rfl|rfl|rfl|rfl
    ·rw[l];exact bDX ..
    ·rw[k];exact bDX ..
    ·rw[i];exact bDX ..
    ·exact v7 _
    ·rw[j];exact bDX ..
   exact g.aQl f (g.hok.fresh f)
def bBq (d:Gl X "zip")(n:X.mg "zip"=none)(m:PA X [a,b] ta)(hs:starEach [a,b] X.env=(false,eval a X.env)::starEach [b] X.env:=by rfl)
  (e:starEach [b] X.env=[(false,eval b X.env)]:=by rfl):PI X (.Tuple elts kt tp) (.Call (.Name "zip" p) [a,b] [] pos) (aWi X.K ta):=
 bBw false (J:=Itz X.K) (λD=>let T:=aU4 (L:=false) D;⟨T.mem,T.obj,T.keep,T.item,λX h l g k i c s σ H E I f j d=>T.done X h l g k i c s σ H E I f j (.inl d),T.self⟩) d n m hs e
inductive Tk (K:bFQ)(H:Hp):V->Bool->Prop
 |int {i}:Tk K H (.int i) false
 |str {x}:Tk K H (.str x) false
 |bl {b}:Tk K H (.bl b) false
 |non:Tk K H .non false
 |lst {a xs}:SqL K H a xs->Tk K H (.ref a) false
 |dct {a kvs}:H a=some (.dK kvs)->Tk K H (.ref a) false
 |tup {a xs}:SqT K H a xs->Tk K H (.ref a) true
def bIe (K:bFQ):List V->Hp->VK->Prop:=λxs H Q=>∃x b,xs=[x,.ty "tuple"]/\Tk K H x b/\Q (.bl b) H
def lU:dW X (.builtin "isinstance") (bIe X.K):=by
 intro f s σ H y w Q I r h;obtain⟨x,b,rfl,i,q⟩:=h;obtain⟨u,v,rfl,a,p⟩:=r.two;cases p;have m:EP X f σ Q (.bool b) s:=⟨.bl _,H,I,rfl,q⟩;have d:EP X f σ Q (.bool b) { s with toks:=s.toks+1 }:=⟨.bl _,H,I.tok _,rfl,q⟩;cases i with
 |int=>obtain⟨t,rfl⟩:=a;exact IsiPair.int_tuple d
 |str=>obtain⟨t,rfl⟩:=a;exact IsiPair.str_tuple d
 |bl=>cases a;exact IsiPair.bool_tuple d
 |non=>cases a;exact IsiPair.NoneType_tuple d
 |lst hq=>cases a;obtain⟨g,k,⟨o,n,e,c,_⟩,j⟩:=I.list hq;exact IsiPair.list_tuple e c d
 |dct hq=>cases a;obtain⟨_,_,_,_,o,_,_,e,l,_⟩:=I.hok _ _ hq;exact IsiPair.dict_tuple e l.1 d
 |tup hq=>cases a;obtain⟨g,k,⟨o,e,c,_⟩,j⟩:=I.tuple hq;exact IsiPair.tuple_tuple e c m
def sZ {σ0:St}{j:Nat}(c:σ0[j]?=some none):σ0=σ0.set j none:=by
 refine (bCH λi=>?_);rw[List.getElem?_set]
 split
 ·rename_i a;subst a
  split
  ·exact c
  ·rename_i b;exact List.getElem?_eq_none_iff.mpr (by lia)
 ·rfl
def aPr {K:bFQ}{a:Addr}{xs:List V}{tl:TE}(b:SqT K H a xs)(h:∀R:VK,R (.ref a) H->tl σ H R)(R:It->Hp->Prop)
  (q:∀J:It,(∀H' i x,Same H H'->xs[i]?=some x->J.go i H'/\∀y H2,J.yld i H' y H2->H2=H'/\y=x)->(∀H',Same H H'->J.stop xs.length H')->R J H):aUt K tl σ H R:=by
 refine h _ ⟨a,rfl,⟨xs,b⟩,q _ (λH' i x s e=>⟨⟨xs,x,s.aV b,e⟩,λy H2 f=>?_⟩) λH' s=>⟨xs,s.aV b,v7 _⟩⟩;obtain⟨g,d⟩:=f;have c:=d xs (s.aV b);rw[e] at c;cases c;exact⟨g,rfl⟩
def Held (P:Program)(w:World)(K:bFQ)(mg:bFT)(base:Heap)(k:Nat)(f:Addr)(ps:List Str)(sp:Sp):Prop:=
 ∃fd,PySem.W.keepIn K (.ref f)=true/\Binds K fd ps []/\!iM CX0 k f fd ps sp
def Ok.held {P:Program}{w:World}{K:bFQ}{mg:bFT}{base:Heap}{k:Nat}{x:Str}{ps:List Str}{sp:Sp}(G:!Ok k x ps sp):∃f,mg x=some (.ref f)/\!Held k f ps sp:=by obtain⟨f,b,a,e,d,c⟩:=G;exact⟨f,a,b,e,d,c⟩
def Held.mono {P:Program}{w:World}{K:bFQ}{mg:bFT}{base:Heap}{j k:Nat}{f:Addr}{ps:List Str}{sp:Sp}(h:!Held j f ps sp)(e:j<=k):!Held k f ps sp:=by obtain⟨b,a,d,c⟩:=h;exact⟨b,a,d,c.mono e⟩
def aXb (P:Program)(w:World)(K:bFQ)(mg:bFT)(base:Heap)(k:Nat)(te:TE)(t:TA):TE:=fun σ H Q=>te σ H λv H1=>∃f ps sp,v=.ref f/\!Held k f ps sp/\t σ H1 λvs H2=>sp vs H2 Q E0
def aZb (J:Room k X.A)(B:PE X (.Name x p) te)(L:PA X (e::es) t)
  (G:starEach (e::es) X.env=(false,eval e X.env)::starEach es X.env:=by rfl) (m:(backTo pos (starEach es X.env)).any (·.1)=false:=by rfl) :
  PE X (.Call (.Name x p) (e::es) [] pos) (aXb X.prog X.w X.K X.mg X.base k te t):=by
 intro a s σ H Q I h;refine bBT (thn (B a s σ H _ I h) λu n ⟨v,o,b,d,i⟩=>?_);obtain⟨f,E,C,rfl,⟨y,l,g,F⟩,q⟩:=i;obtain rfl:u=Value.ref f:=d;refine PySem.W.callWith_K b.ok.mod.kin l (thn (L pos a n σ o _ b q) λD N ⟨M,z,c,r,j⟩=>⟨c.kIn,?_⟩) G m;exact aB9 F J g .nil aGh c r (by simpa using j)
end L2
namespace PySem
end PySem
namespace L2
open PySem PySem.Spec PyProof.Rows
def aZc:OpR X (binaryOp .Add) (λx y H Q=>∃a b ys,x=.ref a/\y=.ref b/\SqT X.K H a []/\SqT X.K H b ys/\Q (.ref b) H):=by
 intro A s σ H x y v u Q I J M h;obtain⟨a,b,ys,rfl,rfl,L,z,q⟩:=h;cases J;cases M;obtain⟨r,G,w,_⟩:=I.tuple L;obtain⟨e,N,t,_⟩:=I.tuple z;cases G;obtain⟨⟨D,B,k,E⟩,m,o,n,l⟩:=id w;obtain⟨⟨p,j,g,i⟩,f,d,C,c⟩:=id t;simp only at o l d c;subst o l d c;exact concat_meets ⟨_,m,rfl⟩ ⟨_,f,rfl⟩ noFill_tuple_add seq_tuple_add PySem.F.slot_tuple_add PySem.F.entry_tuple_add (PySem.F.args_tuple_add_2 _ _)
  (tuple_addW0 a b #[] e.toArray n C B j E i rfl) ⟨m,f,⟨.ref b,H,I,rfl,q⟩⟩
end L2
namespace PySem
end PySem
namespace L2
open PySem PySem.Spec PyProof.Rows
def tV (j:Nat)(c:(y,NameKind.free)∈scope.names)(d:X.N[j]?=some y)(hs:σ[j]?=some (some v))(e:Vis X.env.scope y):Cap X scope [x,y] σ [none,some v]:=
 ⟨rfl,λi z u a b=>by
  match i,a,b with
  |0,_,b=>cases b
  |1,a,b=>cases a;cases b;exact⟨c,j,d,hs,e⟩
  |i+2,a,_=>cases a⟩
def oJ:Cap X scope [x,y] σ [none,none]:=⟨rfl,λi z u b a=>by
  match i,b,a with
  |0,_,a=>cases a
  |1,_,a=>cases a
  |i+2,b,_=>cases b⟩
def bAh (d:Room k X.A)(b:VE X (.Name x p) te)(f:VA X (e::es) t)(c:eU e=true:=by rfl)(a:(backTo pos (starEach es X.env)).any (·.1)=false:=by rfl) :
  VE X (.Call (.Name x p) (e::es) [] pos) (aXb X.prog X.w X.K X.mg X.base k te t):=⟨aZb d b.1 f.1 (bG c) a⟩
def wB {P:Program}{w:World}{K:bFQ}{mg:bFT}{base:Heap}{k:Nat}(i:Room k X.A)(b:VE X (.Name x p) te)(d:VA X (e::es) t)(h:eU e=true:=by rfl)(a:(backTo pos (starEach es X.env)).any (·.1)=false:=by rfl)
  (g:X.prog=P:=by rfl) (l:X.w=w:=by rfl) (f:X.K=K:=by rfl) (c:X.mg=mg:=by rfl) (j:X.base=base:=by rfl) :
  VE X (.Call (.Name x p) (e::es) [] pos) (aXb P w K mg base k te t):=by
 subst g l f c j;exact bAh i b d h a
def wW {K:bFQ}(h:X.K=K:=by rfl):IxR X (bE9 K):=by subst h;exact cM
def nQ {K:bFQ}{k:Nat}{u:TGs}{n:Nat}(b:X.calm=true)(h:VGs X es u)(hn:(assignEach es X.env).length=n:=by rfl)(a:(assignEach es X.env).findIdx? (·.1)=none:=by rfl)(c:X.K=K:=by rfl):VG X (.Tuple es k pos) (aI3 K n u):=by subst c;exact lV b h hn a
def bA8 (d:Gl X "zip")(g:X.mg "zip"=none)(f:VA X [a,b] t)(e:eU a=true:=by rfl)(c:eU b=true:=by rfl) :
  VI X (.Tuple elts kt tp) (.Call (.Name "zip" p) [a,b] [] pos) (aWi X.K t):=⟨bBq d g f.1 (bG e) (bG c)⟩
def vJ (c:VE X e te)(b:VG X tg g)(hs:swapsWithSole [tg] e pos.line X.env=pure false:=by rfl)(d:swappedStores [tg] e X.env=pure none:=by rfl)
  (a:(assignEach [tg] X.env).map (·.2)=[assign tg X.env]:=by rfl):VS X (.Assign [tg] e pos) (vH te g):=⟨bFe c.1 b.1 hs d a⟩
def bI0:V->Option Int->Option Int->Hp->VK->Prop:=λx lo hi H Q=>∃z,x=.str z/\z.length<=sizeLine/\Q (.str (Txt.slice z lo hi)) H
def mK:SlR X bI0:=by
 intro f s σ H x v J L r C m Q I G p D n h;obtain⟨z,rfl,E,q⟩:=h;obtain⟨t,rfl⟩:=G;have a:∀l u:Option (Int × Tok),l.map (·.1)=r->u.map (·.1)=C->s.heap.IsSlice m l u none->wpAny (model X.prog X.w) X.A (getItem (.str z t) (.ref m)) (EP X f σ Q) X.xe s:=λl u B y e=>by subst B y;refine wpAny_getItem_str_slice e rfl ?_;unfold sliceMade;have g:=Txt.slice_le z (l.map (·.1)) (u.map (·.1));exact post_val_or_str ⟨bAF g E,λK k=>⟨.str (Txt.slice z (l.map (·.1)) (u.map (·.1))),H,I.tok _,⟨_,rfl⟩,q⟩⟩
 refine⟨"str",_,F.slot_str_getitem.lookup,typeIs_str _ _ _,?_⟩;obtain⟨o,c,d,b⟩:=p;cases D with
 |none=>
  cases n with
  |none=>exact a none none rfl rfl ⟨o,c,d,b⟩
  |int j u=>exact a none (some (j,u)) rfl rfl ⟨o,c,d,b⟩
 |int i t=>
  cases n with
  |none=>exact a (some (i,t)) none rfl rfl ⟨o,c,d,b⟩
  |int j u=>exact a (some (i,t)) (some (j,u)) rfl rfl ⟨o,c,d,b⟩
def aKl (n:Nat)(h:∀R:List V->Hp->Prop,R [.int n] H->ta σ H R)(hn:(n:Int)<2 ^ 62)(R:It->Hp->Prop)
  (q:∀J:It,(∀H' i x,Same H H'->((List.range n).map λi:Nat=>V.int (0+(i:Int)))[i]?=some x->J.go i H'/\∀y H2,J.yld i H' y H2->H2=H'/\y=x) ->
   (∀H',Same H H'->J.stop ((List.range n).map λi:Nat=>V.int (0+(i:Int))).length H')->R J H):aXt ta σ H R:=by
 refine h _ ⟨n,rfl,by lia,hn,?_⟩;refine q _ (λH' i x _ e=>?_) λH' _=>?_
 ·rw[bAD] at e;have b:i<n:=by
   cases a:(List.range n)[i]? with
   |none=>rw[a] at e;cases e
   |some j=>have:=(List.getElem?_eq_some_iff.mp a).1;rwa [bAN] at this
  rw[bCK b] at e;cases e;exact⟨show i<((n:Int)).toNat from by lia,λy H2 c=>c⟩
 ·rw[j5,bAN];simp[Itr]
def aW9 {x:Str}{j:Nat}(h:j<=x.length):(Txt.slice x none (some (j:Int))).cps.toList=x.cps.toList.take j:=by have e:=StrLaws.sliceText_to (x:=x) (j:=(j:Int)) ⟨by lia,by rw[bAW];exact Int.ofNat_le.mpr h⟩;show (StrLaws.sliceText x none (some (j:Int))).cps.toList=_;rw[e];simp
def aQw {x:Str}{j:Nat}(h:j<=x.length):(Txt.slice x (some (j:Int)) none).cps.toList=x.cps.toList.drop j:=by have e:=StrLaws.sliceText_from (x:=x) (i:=(j:Int)) ⟨by lia,by rw[bAW];exact Int.ofNat_le.mpr h⟩;show (StrLaws.sliceText x (some (j:Int)) none).cps.toList=_;rw[e];simp only[bBZ];refine bBK ?_;rw[bBD];lia
def put (x:Str)(a:Nat)(c:Nat):Str:=Txt.slice x none (some (a:Int))++⟨#[c]⟩++Txt.slice x (some (a:Int)) none
def aKh (h:a<=x.length):(put x a c).cps.toList=x.cps.toList.take a++c::x.cps.toList.drop a:=by show ((Txt.slice x none (some (a:Int))).cps++#[c]++(Txt.slice x (some (a:Int)) none).cps).toList=_;rw[bEB,bEB,aW9 h,aQw h];simp
def aZ5 (h:a<=x.length)(e:put x a c=put x a d):c=d:=by have b:=congrArg (λy:Str=>y.cps.toList) e;simp only[aKh h] at b;have f:=List.append_cancel_left b;exact (List.cons.inj f).1
def aZt {x:Str}{a c:Nat}(h:a<=x.length):(put x a c).length=x.length+1:=by
 have e:=congrArg List.length (aKh (c:=c) h);have l:x.length=x.cps.toList.length:=by rw[bAW];rfl
 rw[bAW,j6,d9,bAU,bBD] at e;show (put x a c).cps.size=_;lia
def aZs (h:a<=x.length)(m:d∈(put x a c).cps):d=c\/d∈x.cps:=by
 have b:=Array.mem_toList_iff.mpr m;rw[aKh h] at b;rcases List.mem_append.mp b with z|z
 ·exact .inr (Array.mem_toList_iff.mp (bCU z))
 ·rcases List.mem_cons.mp z with z|z
  ·exact .inl z
  ·exact .inr (Array.mem_toList_iff.mp (bCV z))
def aAl {K:bFQ}(h:X.K=K:=by rfl):IxR X (bEe K):=by subst h;exact dF
def bGn (t:TA):TE:=fun σ H Q=>t σ H λxs H1=>xs.length<=sizeLine/\∀p H',H1 p=none->Same H1 H'->H' p=some (.tup xs)->Q (.ref p) H'
def bCs (t:TA):TE:=fun σ H Q=>t σ H λxs H1=>xs.length<=sizeLine/\∀p H',H1 p=none->Same H1 H'->H' p=some (.lst xs)->Q (.ref p) H'
def aW {x1}(h:VA X es t):VE X (.Tuple es x1 pos) (bGn t):=⟨by intro c s σ H Q I j;refine wpAny_Tuple_spliced (thn (h.1 pos c s σ H _ I j) λg a ⟨i,k,f,r,z,q⟩=>⟨by rw[<-r.length];exact z,?_⟩);have d:=f.hok.fresh (v7 _);refine⟨.ref a.heap.objs.size,upd k a.heap.objs.size (.tup i),f.laid (t':=a.toks) (λb u e=>j4 _ e) (v7 _) ?_,rfl,q _ _ d (cF d _) aJ⟩;exact⟨z,g,r,.of (z9 _ rfl) rfl ⟨_,z9 _ rfl,rfl,_,rfl⟩⟩⟩
def bC (h:VA X es t):VE X (.List es pos) (bCs t):=⟨by intro c s σ H Q I j;refine wpAny_List_spliced (thn (h.1 pos c s σ H _ I j) λg a ⟨i,k,f,r,z,q⟩=>⟨by rw[<-r.length];exact z,?_⟩);have d:=f.hok.fresh (v7 _);refine⟨.ref a.heap.objs.size,upd k a.heap.objs.size (.lst i),f.laid (t':=a.toks) (λb u e=>j4 _ e) (v7 _) ?_,rfl,q _ _ d (cF d _) aJ⟩;exact⟨z,g,0,r,z9 _ rfl⟩⟩
def OpR.imp (h:OpR X f r)(k:∀x y H Q,r' x y H Q->r x y H Q):OpR X f r':=λa s σ H x y v u Q I b c q=>h a s σ H x y v u Q I b c (k _ _ _ _ q)
def dW.imp (h:dW X f r)(k:∀xs H Q,r' xs H Q->r xs H Q):dW X f r':=λa s σ H xs c Q I b q=>h a s σ H xs c Q I b (k _ _ _ q)
inductive bCx (K:bFQ)(x:V)(y:V)(H:Hp)(Q:VK):Prop
 |mk (a:_) (b:_) (xs:_) (ys:_) (h0:x=.ref a) (h1:y=.ref b) (h2:SqT K H a xs) (h3:SqT K H b ys) (h4:xs.length+ys.length<=sizeLine) (h5:∀r H',Same H H'->SqT K H' r (xs++ys)->Q (.ref r) H'):bCx K x y H Q
def aZ3:OpR X (binaryOp .Add) (bCx X.K):=OpR.imp (aZy.or aZc) λx y H Q ⟨a,b,i,e,g,f,d,c,k,q⟩=>by
 by_cases h:i=[]
 ·subst h;exact .inr ⟨a,b,e,g,f,d,c,q b H (Same.refl H) c⟩
 ·refine .inl ⟨a,b,i,e,g,f,d,c,h,k,λz=>?_,λ_ p j=>q p _ (cF j _) (SqT.of aJ)⟩;subst z;exact q a H (Same.refl H) (by rw[bAJ];exact d)
def bIv (K:bFQ):V->Option Int->Option Int->Hp->VK->Prop:=λx lo hi H Q=>∃a xs,x=.ref a/\SqT K H a xs /\
 ¬ (HT.sIx xs.length 0 lo=0/\HT.sIx xs.length xs.length hi=xs.length)/\∀p H',Same H H'->H' p=some (.tup (uC xs lo hi))->Q (.ref p) H'
def aLg:SlR X (bIv X.K):=λb s σ H x v k c l d g Q I m i h o ⟨a,r,e,n,f,q⟩=>
 bE5 b s σ H x v k c l d g Q I m i h o ⟨a,r,e,n,f,λp j=>q p _ (cF j _) aJ⟩
inductive aYo (x:V)(y:V)(H:Hp)(Q:VK):Prop
 |mk (l:_) (b:_) (xs:_) (zs:_) (h0:x=.ref l) (h1:y=.ref b) (h2:H l=some (.lst xs)) (h3:H b=some (.lst zs)) (h4:xs.length+zs.length<=sizeLine) (h5:∀p H',H p=none->Same H H'->H' p=some (.lst (xs++zs))->Q (.ref p) H'):aYo x y H Q
def dI:OpR X (binaryOp .Add) aYo:=OpR.imp bC2 λx y H Q ⟨l,b,i,e,h,f,g,c,d,q⟩=>⟨l,b,i,e,h,f,g,c,d,λp a=>q p _ a (cF a _) aJ⟩
def bEl (K:bFQ):List V->Hp->VK->Prop:=λxs H Q=>∃p ys,xs=[.ref p]/\(SqL K H p ys\/SqT K H p ys)/\∀l H',H l=none->Same H H'->H' l=some (.lst ys)->Q (.ref l) H'
def aO7:dW X (.type "list") (bEl X.K):=dW.imp aLi λc H Q ⟨p,b,e,h,q⟩=>⟨p,b,e,h,λl a=>q l _ a (cF a _) aJ⟩
def aRh (K:bFQ):List V->Hp->VK->Prop:=λxs H Q=>∃p ys,xs=[.ref p]/\SqL K H p ys/\∀l H',H l=none->Same H H'->H' l=some (.tup ys)->Q (.ref l) H'
def cA:dW X (.type "tuple") (aRh X.K):=dW.imp aGy λc H Q ⟨p,b,e,h,q⟩=>⟨p,b,e,.inl ⟨h,λl a=>q l _ a (cF a _) aJ⟩⟩
def eF:MtR X "list.append" aRe:=aHm
def rQ (f:H D=none)(s:Same H H'):Same H (upd H' D o):=λb u e=>by rw[aR (aX e f)];exact s _ _ e
end L2
namespace PySem
def aOo {Q:List Value->Shared->Prop}(v:PySem.W.KdlSrc prog w T r d n P OK)(C:A.handled=none)(t:OK s.heap)
  (B:∀h' tk acc,(∀b o,s.heap.get? b=some o->h'.get? b=some o)->ItemsOf P acc n->Q acc.toList { s with heap:=h',toks:=tk }) (hn:n<=sizeLine) :
  wpAny (model prog w) A (collect (.ref r)) Q E s:=by
 unfold collect;refine c7 (wpAny_runValue (bDQ F.entry_proto_collect ?_));rw[bDT F.plain_proto_collect _];show wpAny _ A.in1 (newList [] >>= λl=>again (.builtin "list.__iadd__" ⟨[l,.ref r],[]⟩)) _ _ s;refine c7 (bBE ?_);refine j9 ⟨plainId_quiet F.plain_list_iadd _,bDQ F.entry_list_iadd ?_⟩;rw[bDT F.plain_list_iadd _];show wpAny _ A.in1 (Builtin.List.listExtendWith (.ref s.heap.objs.size) (.ref r) (.ref s.heap.objs.size)) _ _ _;have z:(s.heap.push { cls:=.type "list",data:=.seq ([]:List Value).toArray }).get? s.heap.objs.size=some { cls:=.type "list",data:=.seq #[] 0 }:=z9 _ rfl;have m:=v.there _ t;have k:∀h' tk c j,(∀b o,b≠s.heap.objs.size->(s.heap.push { cls:=.type "list",data:=.seq ([]:List Value).toArray }).get? b=some o->h'.get? b=some o) ->
   h'.get? s.heap.objs.size=some { cls:=.type "list",dict:=none,data:=.seq c j,slots:=#[] }->ItemsOf P c n ->
   wpAny (model prog w) A (match Value.ref s.heap.objs.size with
   |Value.ref a=>do
    match (<-load a).data with
     |Data.seq xs _=>pure xs.toList
     |_=>unsupported "internal:collect"
   |_=>unsupported "internal:collect") Q E { s with heap:=h',toks:=tk }:=by
  intro h' tk c j kp i g;show wpAny _ A (load s.heap.objs.size >>= _) _ _ _;refine c7 (wpAny_load i ?_);refine j9 ?_;exact B h' tk c (λb o e=>kp b o (bAI (bAA e)) (j4 _ e)) g
 refine bBB (PySem.W.kdl_extend (A:=A) (R:=λq u=>∃h' tk c j,q=.ok (.ret (.ref s.heap.objs.size))/\u={ s with heap:=h',toks:=tk }/\(∀b o,b≠s.heap.objs.size->(s.heap.push { cls:=.type "list",data:=.seq ([]:List Value).toArray }).get? b=some o->h'.get? b=some o) /\
   h'.get? s.heap.objs.size=some { cls:=.type "list",dict:=none,data:=.seq c j,slots:=#[] }/\ItemsOf P c n)
  (s:={ s with heap:=s.heap.push { cls:=.type "list",data:=.seq ([]:List Value).toArray } }) v C (v.keep _ _ t λb _ o e=>j4 _ e) s.heap.objs.size (bDD m.1) (bDD m.2) (.ref s.heap.objs.size) 0 z
   (λh' tk c j kp i g=>⟨h',tk,c,j,rfl,rfl,kp,i,g⟩) hn) (λp u h=>?_) (λe u h=>?_)
 ·cases p with
  |done f=>obtain⟨h',tk,c,j,e,rfl,kp,i,g⟩:=h;cases e;exact k h' tk c j kp i g
  |again j=>exact⟨h.1,bDF h.2 λq x y=>by obtain⟨h',tk,c,j,rfl,rfl,kp,i,g⟩:=y;exact k h' tk c j kp i g⟩
 ·obtain⟨_,_,_,_,e,_⟩:=h;cases e
def vV (d:Addr)(kvs:List (Str × Value))(z:(d == sysModules)=false)(hn:kvs.length<=sizeLine) :
  MeetsIn prog w (Builtin.«tuple.__new__» ⟨[.type "tuple",.ref d],[]⟩)
   (λA R s=>A.handled=none/\(s.heap.DictOf (strKind prog w) d kvs)/\∀(h':Heap) (tk:Nat) (acc:Array Value),(∀b o,s.heap.get? b=some o->h'.get? b=some o) ->
    ItemsOf (λi v=>∃k x t,kvs[i]?=some (k,x)/\v=.str k t) acc kvs.length->R (.ok (.ret (.ref h'.objs.size))) { s with heap:=h'.push { cls:=.type "tuple",data:=.seq acc },toks:=tk }):=
 .of_wp λA R s h=>by
  obtain⟨y,g,h⟩:=h;have l:=sub_tuple_self;have hinit:=init_tuple_lookup;have q:=madeHere_tuple;have m:s.TypeIs (.ref d) "dict":=g.typeIs;have f:A.in1.handled=none:=y;obtain⟨ep,c⟩:=g.dictAt;obtain⟨o,B,r,C⟩:=id c;wp_walk using AutoSeq1.wpAny_loadPart' r,wpAny_typeOf m,aOo (hn:=hn) (PySem.W.kdl_dict (knd:=strKind prog w) (kvs:=kvs) (ep:=ep) z) f c;intro h' tk acc kp a;show wpAny _ _ (Builtin.Tuple.tupleExact acc.toList.toArray >>= λv=>ret v) _ _ _;unfold Builtin.Tuple.tupleExact;refine c7 (bBE ?_ (show acc.toList.toArray.size<=sizeLine by simp only[Array.toArray_toList];rw[a.1];exact hn));refine j9 ⟨_,rfl,?_⟩;have e:acc.toList.toArray=acc:=by simp
  rw[e];refine h h' tk acc kp ⟨a.1,λj v n=>?_⟩;obtain⟨k,x,u,p⟩:=a.2 j v n;obtain⟨t,rfl⟩:=Value.isStrOf_shape p;exact⟨k,x,t,u,rfl⟩
end PySem
namespace L2
open PySem PySem.Spec PyProof.Rows
def aWp (w:World)(K:bFQ)(d:Addr)(kvs:List (Str × Addr)):Prop:=∃o,K.lookup d=some o/\(d == sysModules)=false/\∀P:Program,o.IsDictOf (strKind P w) (kvs.map λp=>(p.1,Value.ref p.2))
def bIo (w:World)(K:bFQ):R2:=λx y H Q=>∃d kvs k p,x=.ref d/\y=.str k/\aWp w K d kvs/\(kvs.find? λq=>decide (q.1=k)).map (·.2)=some p/\Q (.ref p) H
def aYn (kvs:List (Str × Addr))(k:Str)(h:(kvs.find? λq=>decide (q.1=k)).map (·.2)=some p):valueAt (kvs.map λq=>(q.1,Value.ref q.2)) k=some (.ref p):=by
 unfold valueAt;rw[List.find?_map];cases e:kvs.find? λq=>decide (q.1=k) with
 |none=>rw[e] at h;cases h
 |some q=>rw[e] at h;have h:=bAM h;have b:kvs.find? ((λa:Str × Value=>decide (a.1=k)) ∘ λq=>(q.1,Value.ref q.2))=some q:=e;rw[b,<-h];rfl
def bAe:IxR X (bIo X.w X.K):=by intro b c l s σ H x y v u Q I j n h f;obtain⟨d,a,k,p,rfl,rfl,⟨o,i,r,m⟩,g,q⟩:=h;cases j;obtain⟨t,rfl⟩:=n;have e:s.heap.DictOf (strKind X.prog X.w) d (a.map λp=>(p.1,Value.ref p.2)):=Heap.dictOf_iff.mpr ⟨o,I.kIn _ _ i,m _⟩;exact tail_any e.typeIs slot_dict_getitem.lookup (wpAny_getItem_of (strKind_is _ _ _ _) e.mapOf (aYn a k g) ⟨.ref p,H,I.tok _,rfl,q⟩) f
def bHo (w:World)(K:bFQ):List V->Hp->VK->Prop:=λxs H Q=>∃d kvs,xs=[.ref d]/\aWp w K d kvs/\kvs.length<=1000/\∀p H',Same H H'->H' p=some (.tup (kvs.map λq=>V.str q.1))->Q (.ref p) H'
theorem aIg:∀(kvs:List (Str × Value)) (vs:List Value),vs.length=kvs.length->(∀(j:Nat) (v:Value),vs[j]?=some v->∃k x t,kvs[j]?=some (k,x)/\v=.str k t)->Vals (kvs.map λq=>V.str q.1) vs
 |[],[],_,_=>.nil
 |(k,x)::r,v::vs,hl,h=>by obtain⟨a,b,t,e,rfl⟩:=h 0 v rfl;cases e;exact .cons ⟨t,rfl⟩ (aIg r vs (by simpa using hl) λj u e=>h (j+1) u e)
def aU5 (E:X.calm=true):dW X (.type "tuple") (bHo X.w X.K):=by
 intro g s σ H G C Q I r h;obtain⟨d,a,rfl,⟨o,B,n,t⟩,m,q⟩:=h;obtain⟨u,rfl,x⟩:=vals1 r;cases x;have z:s.heap.DictOf (strKind X.prog X.w) d (a.map λp=>(p.1,Value.ref p.2))  :=Heap.dictOf_iff.mpr ⟨o,I.kIn _ _ B,t _⟩;have A:(a.map λp=>(p.1,Value.ref p.2)).length<=sizeLine:=small (by rw[j5];exact m);refine callType_newIn F.called_tuple (by decide) (F.typeCall_tuple_1 _) (F.newCall_tuple_1 _) (λi=>F.args_object_init_2 i _) F.entry_tuple_new
  (vV d _ n A) ⟨I.ok.hd E,z,λk tk acc kp c=>⟨⟨_,z9 _ rfl,rfl⟩,?_⟩⟩
 have f:=aIg (a.map λp=>(p.1,Value.ref p.2)) acc.toList (by rw[bAW];exact c.1) λj v e=>c.2 j v (by rw[<-bBP];exact e);rw[bAZ] at f;have f:Vals (a.map λq=>V.str q.1) acc.toList:=f;have l:Inv X g σ H { s with heap:=k,toks:=tk }:=I.kept (t':=tk) kp;refine⟨.ref k.objs.size,_,l.laid (t':=tk) (o:=.tup (a.map λq=>V.str q.1)) (λb D e=>j4 _ e) (v7 _) ?_,rfl,q _ _ (cF (l.hok.fresh (v7 _)) _) aJ⟩;have y:acc.toList.toArray=acc:=by simp
 refine⟨small (by rw[j5];exact m),acc.toList,f,?_⟩;rw[y];exact .of (z9 _ rfl) rfl ⟨_,z9 _ rfl,rfl,_,rfl⟩
def Ite (K:bFQ)(l:Addr)(xs:List V):It:=
 ⟨λi H=>SqL K H l xs/\i<xs.length,λi H v H'=>∃T a,H T=none/\v=.ref T/\H'=upd H T (.tup [.int (i:Nat),a])/\xs[i]?=some a,λi H=>SqL K H l xs/\xs.length<=i⟩
def etn (e it l:Addr)(i:Nat)(h:Heap):Prop:=(∃old,IsEnum h e it (i:Int) old)/\h.IsListIter it l i
def aT1 {P:Program}{w:World}{K:bFQ}{elts:List Expr}{kt:Nat}{pos:Pos}{e it l:Addr}{xs:List V}(C:e≠it) :
  Turn P w K (.Tuple elts kt pos) (Ite K l xs) [e,it] e (etn e it l) where
 mem:=by simp
 obj:=λi h f b a=>by
  obtain⟨⟨c,d⟩,o,j,c2,d2⟩:=f;simp only[bAO,bAG,or_false] at a;rcases a with rfl|rfl
  ·exact⟨_,d,λv z=>by cases (show Data.fields _=Data.cell v from z)⟩
  ·exact⟨_,j,λv z=>by rw[d2] at z;cases z⟩
 keep:=λi h m f k=>by obtain⟨⟨c,d⟩,o,j,r⟩:=f;exact⟨⟨c,k e (by simp) _ d⟩,o,k it (by simp) _ j,r⟩
 item:=by
  intro X G p y Q i g s σ H E I n f B;subst G p y;obtain⟨⟨c,d⟩,j⟩:=f;obtain⟨u,M⟩:=B;obtain⟨its,q,D,hz⟩:=I.list u;obtain⟨x,hx,rx⟩:=q.get (d7 M);have fe:=n e (by simp);have fi:=n it (by simp);refine wpAny_pyNext_enum_item d j D.isList (by simpa using hx) C λm L N O a4 kp=>?_;refine⟨_,rfl,?_⟩;have U:H s.heap.objs.size=none:=I.hok.fresh (v7 _);obtain⟨oi,F,_⟩:=id j;obtain⟨a0,t,_⟩:=id N;have I1:Inv X g σ (upd H s.heap.objs.size (.tup [.int (i:Nat),xs[i]])) { s with heap:=m }:=by
   refine I.drawn (ch:=[e,it]) (its:=[.int i s.toks,x]) (λb a=>n b a) (λb o a z=>?_) (v7 _) (.cons ⟨_,rfl⟩ (.cons rx .nil)) (small (by simp)) (.of O rfl ⟨_,O,rfl,_,rfl⟩) (λb a=>?_)
   ·simp only[bAO,bAG,or_false,not_or] at a;exact kp b o a.1 a.2 z
   ·simp only[bAO,bAG,or_false] at a;rcases a with rfl|rfl
    ·exact⟨_,L⟩
    ·exact⟨_,t⟩
  have A:Inv X g σ (upd H s.heap.objs.size (.tup [.int (i:Nat),xs[i]])) { s with heap:=m,toks:=s.toks+1 }:=I1.tok _;have S:∀b∈[e,it],b≠s.heap.objs.size:=λb a=>by
   simp only[bAO,bAG,or_false] at a;rcases a with rfl|rfl
   ·exact bAI (bAA d)
   ·exact bAI (bAA F)
  refine wpAny_letOwnedTupleGo_enum (s:={ s with heap:=m,toks:=s.toks+1 }) L λh2 Y R=>?_;obtain⟨g0,T,g2,W,g4,g5⟩:=fe;have Z:Inv X g σ (upd H s.heap.objs.size (.tup [.int (i:Nat),xs[i]])) { s with heap:=h2,toks:=s.toks+1 }:=Inv.turned (s:={ s with heap:=m,toks:=s.toks+1 }) A (t':=s.toks+1) (it:=e) (λb o a z=>(R.2 b a).trans z) (by rw[aR (S e (by simp))];exact g0) T W g4 g5;refine⟨.ref s.heap.objs.size,_,Z,rfl,⟨_,_,U,rfl,rfl,d7 M⟩,⟨⟨x,?_⟩,?_⟩,λb a=>by rw[aR (S b a)];exact (n b a).1⟩
  ·rw[show ((i+1:Nat):Int)=(i:Int)+1 from by lia];exact Y
  ·obtain⟨o,ho,r⟩:=N;exact⟨o,(R.2 it (Ne.symm C)).trans ho,r⟩
 done:=by intro X G p y Q i g s σ H E I n f B;subst G p y;obtain⟨⟨c,d⟩,j⟩:=f;obtain⟨u,hi⟩:=B;obtain⟨its,q,D,hz⟩:=I.list u;have J:=q.length;refine wpAny_pyNext_enum_end (I.ok.hd Q) d j D.isList (by simp;lia) λm kp=>⟨rfl,?_⟩;refine Inv.aQ4 (ch:=[it]) I (λb a=>n b (j8 _ a)) λb o a z=>kp b o (by simpa using a) z
 self:=λ_ _ _ _ _ f h=>by obtain⟨⟨c,d⟩,_⟩:=f;exact wpAny_pyIter_enum d h
def bB7 (K:bFQ)(ta:TA):TI:=fun σ H R=>ta σ H λvs H1=>∃l xs,vs=[.ref l]/\SqL K H1 l xs/\R (Ite K l xs) H1
def bA7 (B:Gl X "enumerate")(E:X.mg "enumerate"=none)(J:PA X [a] ta)(hs:starEach [a] X.env=[(false,eval a X.env)]:=by rfl) :
  PI X (.Tuple elts kt tp) (.Call (.Name "enumerate" p) [a] [] pos) (bB7 X.K ta):=by
 intro f s σ H R I h;refine Call_ (yZ I B E aJ4 (bCY (thn (J pos f s σ H _ I h) λy j ⟨C,w,d,o,r⟩=>?_) hs (by rfl)));obtain⟨l,D,e,v,q⟩:=r;subst e;obtain⟨k,A,n,F⟩:=d.list v;obtain⟨u,rfl,x⟩:=vals1 o;cases x;refine call_enumerate_list n.isList λz g t G kp=>?_;have m:=d.kept (t':=j.toks) kp;refine wpAny_pyIter_enum g ⟨_,_,_,_,w,rfl,m,aT1 (bDD (Nat.lt_succ_self _)),⟨⟨_,g⟩,t⟩,λb i=>?_,q⟩;have c:j.heap.objs.size<=b:=by
  simp only[bAO,bAG,or_false] at i;rcases i with rfl|rfl
  ·exact bEK _
  ·exact v7 _
 exact d.aQl c (d.hok.fresh c)
def aXs {K:bFQ}{l:Addr}{xs:List V}{g:TG}{tb:TS}{D:Ends}{σ:St}{H:Hp}(d:Nat->St->Hp->Prop)(k:d 0 σ H)(j:∀i σ H,i<=xs.length->d i σ H->SqL K H l xs)
  (hs:∀i σ H a T H',xs[i]?=some a->d i σ H->H T=none->H'=upd H T (.tup [.int (i:Nat),a])->g (.ref T) σ H' fun σ2 H2=>tb { D with nx:=d (i+1),ct:=d (i+1),bk:=D.nx } σ2 H2) (hd:∀σ H,d xs.length σ H->D.nx σ H) :
  ∃W:Nat->Nat->St->Hp->Prop,(∃m,W 0 m σ H)/\∀i m σ H,W i m σ H ->
   ((Ite K l xs).stop i H/\D.nx σ H)\/((Ite K l xs).go i H/\∃N:St->Hp->Prop,(∀σ' H',N σ' H'->∃m',m'<m/\W (i+1) m' σ' H')/\∀x H',(Ite K l xs).yld i H x H'->g x σ H' fun σ2 H2=>tb { D with nx:=N,ct:=N,bk:=D.nx } σ2 H2):=by
 refine⟨λi m σ H=>m=xs.length - i/\i<=xs.length/\d i σ H,⟨xs.length,by simp,bAK _,k⟩,?_⟩;rintro i m σ H ⟨rfl,hi,p⟩;by_cases b:i<xs.length
 ·refine .inr ⟨⟨j i σ H hi p,b⟩,d (i+1),fun σ' H' f=>⟨xs.length - (i+1),by lia,rfl,b,f⟩,λx H' y=>?_⟩;obtain⟨T,a,c,rfl,e,h⟩:=y;exact hs i σ H a T H' h p c e
 ·have e:i=xs.length:=by lia
  subst e;exact .inl ⟨⟨j _ σ H hi p,v7 _⟩,hd σ H p⟩
section
variable {X:Cx}{st:Stmt}
def oN:VS X st aXm:=⟨aVk⟩
def jL (b:PassesOwn (model X.prog X.w) X.A X.env X.xe)(d:VT X c tc)(a:VSs X body tb):VS X (.While c body [] pos) (aXw tc tb):=⟨aVf b d.1 a.1⟩
def bBh (c:Gl X "enumerate")(e:X.mg "enumerate"=none)(b:VA X [a] t)(d:eU a=true:=by rfl) :
  VI X (.Tuple elts kt tp) (.Call (.Name "enumerate" p) [a] [] pos) (bB7 X.K t):=⟨bA7 c e b.1 (bG d)⟩
def aZ8:MtR X "list.pop" bH9:=bFh
def aEk:MtR X "list.extend" aSl:=aTt
def aQz {o:Expr}{to:TE}{name:Str}{apos cpos:Pos}{T id:String}{r:V->List V->Hp->VK->Prop}(f:PlainAttrs T)(c:Slot T name id)(d:typeOf (.builtin id)=pure (.type "method_descriptor"))(g:MtR X id r)(e:VE X o to)
  (a:attributeBase o name X.env (eval o X.env)=eval o X.env:=by rfl) (b:(apos.endLine == cpos.line)=true:=by rfl):VE X (.Call (.Attribute o name apos) [] [] cpos) (bIa X.K T r to):=⟨bFs f c d g e.1 a b⟩
end
section
variable {P:Program}{w:World}{K:bFQ}{mg:bFT}{base:Heap}
def Ok.aVg (G:!Ok k x ps sp)(m:mg x=some (.ref f)):!Held k f ps sp:=by obtain⟨g,a,h⟩:=G.held;rw[m] at a;cases a;exact h
end
def aB8 (xs:List V)(Rel:Nat->Hp->V->Prop)(C:∀{i H1 H2 y},Same H1 H2->Rel i H1 y->Rel i H2 y)(F:∀{i H1 D ys zs y},H1 D=some (.lst ys)->Rel i H1 y->Rel i (upd H1 D (.lst zs)) y)
  (u:St) (w:Cap X scope N σ u) (hsz:xs.length<=sizeLine)
  (A:∀R:It->Hp->Prop,(∀J:It,(∀H' i x,Same H H'->xs[i]?=some x->J.go i H'/\∀y H2,J.yld i H' y H2->H2=H'/\y=x)->(∀H',Same H H'->J.stop xs.length H')->R J H)->wi σ H R)
  (E:∀(i:Nat) (x:V),xs[i]?=some x->∀H' R l,Same H H'->(∀y H2,Same H' H2->Rel i H2 y->R y H2)->te ((u.set 0 l).set 0 (some x)) H' R) (G:u[0]?=some none)
  (q:∀D H' ys,Same H H'->H' D=some (.lst ys)->ys.length=xs.length->(∀(i:Nat) (y:V),ys[i]?=some y->Rel i H' y)->Q (.ref D) H') :
  mU X scope N wi (cY 0) zR te σ H Q:=by
 refine⟨u,w,A _ λJ go stop D k=>?_⟩;refine⟨λi m h H' ys=>i<=xs.length/\m=xs.length - i/\(∃l,h=u.set 0 l)/\Same H H'/\H' D=some (.lst ys)/\ys.length=i/\∀j y,ys[j]?=some y->Rel j H' y,⟨xs.length,bAK _,rfl,⟨none,sZ G⟩,cF k _,aJ,rfl,λj y e=>by simp at e⟩,?_⟩;rintro i m h H' ys ⟨hi,rfl,⟨l,rfl⟩,sm,hL,hl,hR⟩;refine⟨hL,?_⟩;by_cases c:i<xs.length
 ·right;obtain⟨n,r⟩:=go H' i xs[i] sm (d7 c);refine⟨n,λx H2 p=>?_⟩;obtain⟨rfl,rfl⟩:=r x H2 p;unfold cY zR;dsimp only;rw[if_pos rfl];refine E i xs[i] (d7 c) _ _ l sm λy B d s=>⟨d _ _ hL,by lia,xs.length - (i+1),by lia,c,rfl,⟨some xs[i],?_⟩,?_,aJ,?_,?_⟩
  ·rw[bCQ]
  ·intro b o e;rw[aR (aX e k)];exact d _ _ (sm _ _ e)
  ·rw[j6,bBO,hl]
  ·intro j z a;refine F (d _ _ hL) ?_;by_cases t:j<ys.length
   ·rw[bCN t] at a;exact C d (hR j z a)
   ·rw[bBW (by lia)] at a;have f:j - ys.length=0:=by
     by_cases v:j - ys.length=0
     ·exact v
     ·rw[bAV (by simp;lia)] at a;cases a
    have g:j=i:=by lia
    subst g;rw[f] at a;cases a;exact s
 ·left;have e:i=xs.length:=by lia
  subst e;exact⟨stop _ sm,q D _ ys sm hL hl hR⟩
def aJj (xs d:List V)(g:d.length=xs.length)(t:St)(o:Cap X scope N σ t)(k:xs.length<=sizeLine)
  (p:∀R:It->Hp->Prop,(∀J:It,(∀H' i x,Same H H'->xs[i]?=some x->J.go i H'/\∀y H2,J.yld i H' y H2->H2=H'/\y=x)->(∀H',Same H H'->J.stop xs.length H')->R J H)->wi σ H R)
  (u:∀(i:Nat) (x y:V),xs[i]?=some x->d[i]?=some y->∀H' R l,Same H H'->(∀H2,Same H' H2->R y H2)->te ((t.set 0 l).set 0 (some x)) H' R) (s:t[0]?=some none)
  (q:∀D H',Same H H'->H' D=some (.lst d)->Q (.ref D) H') :
  mU X scope N wi (cY 0) zR te σ H Q:=by
 refine aB8 xs (λi _ y=>d[i]?=some y) (λ_ h=>h) (λ_ h=>h) t o k p (λi x f H' R l b r=>?_) s λD H' c b j v m=>?_
 ·have a:i<d.length:=by rw[g];exact (List.getElem?_eq_some_iff.mp f).1
  exact u i x d[i] f (d7 a) H' R l b λH2 n=>r _ H2 n (d7 a)
 ·have e:c=d:=by
   refine bCH λi=>?_;by_cases a:i<c.length
   ·rw[m i c[i] (d7 a),d7 a]
   ·rw[bAV (by lia),bAV (by lia)]
  subst e;exact q D H' b j
def aR3 (a:X.A.units+1<cLine)(c:VE X o td)(b:VE X i ty)(hs:bFy i):VE X (.Subscript o i pos) (bB1 td ty):=⟨aZv a c.1 b.1 hs⟩
def yH {X:Cx}{K:bFQ}(h:X.K=K:=by rfl):OpR X (compareOp .NotIn) (rIn K true):=by subst h;exact aAw
def sel {α:Type}(p:Nat->Bool):Nat->List α->List α
 |_,[]=>[]
 |i,x::r=>if p i then x::sel p (i+1) r else sel p (i+1) r
theorem aEh {α:Type}(p:Nat->Bool)(x:α):∀k xs,sel p k (xs++[x])=sel p k xs++(if p (k+xs.length) then [x] else [])
 |k,[]=>by show (if p k then x::sel p (k+1) [] else sel p (k+1) [])=[]++(if p (k+0) then [x] else []);rw[Nat.add_zero,bEY];rfl
 |k,y::r=>by
  show (if p k then y::sel p (k+1) (r++[x]) else sel p (k+1) (r++[x]))=(if p k then y::sel p (k+1) r else sel p (k+1) r)++_;rw[aEh p x (k+1) r,d9,show k+1+r.length=k+(r.length+1) by lia]
  split <;> rfl
theorem aBo {α:Type}(p:Nat->Bool):∀(k:Nat) (xs:List α),(sel p k xs).length<=xs.length
 |_,[]=>v7 _
 |k,y::r=>by
  have:=aBo p (k+1) r;show (if p k then y::sel p (k+1) r else sel p (k+1) r).length<=r.length+1
  split
  ·rw[d9];lia
  ·lia
def aY2 (xs:List V)(p:Nat->Bool)(d:L2.St)(u:Cap X scope N σ d)(hsz:xs.length<=sizeLine)
  (v:∀R:It->Hp->Prop,(∀J:It,(∀H' i x,Same H H'->xs[i]?=some x->J.go i H'/\∀y H2,J.yld i H' y H2->H2=H'/\y=x)->(∀H',Same H H'->J.stop xs.length H')->R J H)->wi σ H R)
  (A:∀(i:Nat) (x:V),xs[i]?=some x->∀H' R l,Same H H'->(∀H2,Same H' H2->R (p i) H2)->tt ((d.set 0 l).set 0 (some x)) H' R) (g:d[0]?=some none)
  (q:∀D H',Same H H'->H' D=some (.lst (sel p 0 xs))->Q (.ref D) H') :
  mU X scope N wi (cY 0) tt (iK 0) σ H Q:=by
 refine⟨d,u,v _ λJ go stop D h=>?_⟩;refine⟨λi m k H' f=>i<=xs.length/\m=xs.length - i/\(∃l,k=d.set 0 l)/\Same H H'/\H' D=some (.lst f)/\f=sel p 0 (xs.take i),⟨xs.length,bAK _,rfl,⟨none,sZ g⟩,cF h _,aJ,rfl⟩,?_⟩;rintro i m k H' f ⟨hi,rfl,⟨l,rfl⟩,sm,hL,rfl⟩;refine⟨hL,?_⟩;by_cases a:i<xs.length
 ·right;obtain⟨r,t⟩:=go H' i xs[i] sm (d7 a);refine⟨r,λx H2 s=>?_⟩;obtain⟨rfl,rfl⟩:=t x H2 s;unfold cY;dsimp only;have n:0<d.length:=by
   by_cases z:0<d.length
   ·exact z
   ·rw[bAV (by lia)] at g;cases g
  have tk:sel p 0 (xs.take (i+1))=sel p 0 (xs.take i)++(if p i then [xs[i]] else []):=by rw[bCI,d7 a];show sel p 0 (xs.take i++[xs[i]])=_;rw[aEh,bAU,bDN,bEZ (bDW a)]
  refine A i xs[i] (d7 a) _ _ l sm λw c=>?_;cases j:p i with
  |true=>
   rw[if_pos rfl];refine⟨xs[i],by rw[bCQ,bDL n],c _ _ hL,?_,xs.length - (i+1),by lia,a,rfl,⟨some xs[i],by rw[bCQ]⟩,?_,aJ,?_⟩
   ·have:=aBo p 0 (xs.take i);rw[bAU] at this;lia
   ·intro b o e;rw[aR (aX e h)];exact c _ _ (sm _ _ e)
   ·rw[tk,j];rfl
  |false=>rw[if_neg (by simp)];refine⟨c _ _ hL,xs.length - (i+1),by lia,a,rfl,⟨some xs[i],by rw[bCQ]⟩,sm.trans c,c _ _ hL,?_⟩;rw[tk,j];simp
 ·left;have e:i=xs.length:=by lia
  subst e;refine⟨stop _ sm,?_⟩;rw[bBY] at hL;exact q D _ sm hL
def aZz {X:Cx}{i0:Nat}{n:Str}{c spos:Pos}{K h f:Expr}{P:List Expr}{scope:Scope}{pos:Pos}{N:List Str}{wi:TI}{g:TG}{tt:TT}{te:TE}
  (hN:X.N.Nodup) (T:X.N[i0]?=some n) (F:Loc X.env.scope n) (C:yM scope N) (Q:∀y,(y,NameKind.free)∈scope.names->X.env.kindOf y=some .cell\/X.env.kindOf y=some .free) (hc:X.calm=true)
  (hi:PI X h f wi)
  (r:∀cl s H fp,PG (cxC X N scope cl s H fp) h g/\aUq (cxC X N scope cl s H fp) P tt/\PE (cxC X N scope cl s H fp) K te)
  (hs:∀x,foldedSetIterable f X.env x=pure x:=by intro _;rfl) (L:swapsWith (.ListComp K [⟨h,f,P,0⟩] scope pos) (some (.Name n c)) spos.line X.env=pure true:=by rfl)
  (hf:X.fn n=true\/X.env.scope.names.lookup n=some .local:=by first|exact .inl rfl|exact .inr rfl|assumption) :
  PS X (.Assign [.Name n c] (.ListComp K [⟨h,f,P,0⟩] scope pos) spos) (vH (mU X scope N wi g tt te) (cY i0)):=by
 intro d s σ H Dn I k;rw[exec_Assign_Name_used _ _ _ _ L];refine c7 (bDH (c7 ?_));show wpAny _ X.A (do let _ <-comprehension (.ListComp K [⟨h,f,P,0⟩] scope pos) scope X.env _ (newList []) false (eval f X.env) (some (assign (.Name n c) X.env))) _ _ s;refine c7 (bBB (aHs (use:=some (assign (.Name n c) X.env)) (QQ:=λ_ t=>SP X d Dn .next t) C Q hc hi r hs I k λD B E m ⟨Y,p⟩ j fp J=>?_)
  (λ_ t k=>j9 (j9 k)) λ_ _ e=>e)
 have V:Inv X d σ E m:=j m.heap λ_ _ _ e=>e;obtain⟨O,q,g2,S,u,U⟩:=fp;show wpAny (model X.prog X.w) X.A (assign (.Name n c) X.env (.ref D)) _ _ m;refine wpAny_assign_Name (aIi V hN T F (v:=.ref D) rfl (λR G ⟨a,M,W⟩=>?_) hf);have i:B≠a:=by
  rcases W with z|z
  ·rw[z];exact q
  ·exact λe=>u n a z e.symm
 refine⟨Y,p.sameBut M i,λZ l=>?_⟩;exact⟨_,E,Inv.turned G (t':=R.toks) (it:=B) (λb o r e=>l.extBut b o r e) O q S u U,J⟩
def zV
  (h:X.N.Nodup) (e:X.N[i0]?=some x0) (b:Loc X.env.scope x0) (C:yM scope N) (d:∀y,(y,NameKind.free)∈scope.names->X.env.kindOf y=some .cell\/X.env.kindOf y=some .free) (i:X.calm=true)
  (j:VI X target iter wi)
  (a:∀cl s H fp,VG (cxC X N scope cl s H fp) target g/\VF (cxC X N scope cl s H fp) ifs tt/\VE (cxC X N scope cl s H fp) elt te)
  (hs:∀x,foldedSetIterable iter X.env x=pure x:=by intro _;rfl) (c:swapsWith (.ListComp elt [⟨target,iter,ifs,0⟩] scope pos) (some (.Name x0 pos')) spos.line X.env=pure true:=by rfl)
  (f:X.fn x0=true\/X.env.scope.names.lookup x0=some .local:=by first|exact .inl rfl|exact .inr rfl|assumption) :
  VS X (.Assign [.Name x0 pos'] (.ListComp elt [⟨target,iter,ifs,0⟩] scope pos) spos) (vH (mU X scope N wi g tt te) (cY i0)):=
 ⟨aZz h e b C d i j.1 (λcl s H fp=>⟨(a cl s H fp).1.1,(a cl s H fp).2.1.1,(a cl s H fp).2.2.1⟩) hs c f⟩
section
variable {te:TE}{H:Hp}{Q:VK}
def aOy (xs:List V)(Rel:Nat->Hp->V->Prop)(w:∀{i H1 H2 y},Same H1 H2->Rel i H1 y->Rel i H2 y)(C:∀{i H1 D ys zs y},H1 D=some (.lst ys)->Rel i H1 y->Rel i (upd H1 D (.lst zs)) y)
  (A:St) (hsz:xs.length<=sizeLine)
  (J:It) (go:∀H' i x,Same H H'->xs[i]?=some x->J.go i H'/\∀y H2,J.yld i H' y H2->H2=H'/\y=x) (k:∀H',Same H H'->J.stop xs.length H')
  (B:∀(i:Nat) (x:V),xs[i]?=some x->∀H' R l,Same H H'->(∀y H2,Same H' H2->Rel i H2 y->R y H2)->te ((A.set 0 l).set 0 (some x)) H' R) (v:A[0]?=some none)
  (q:∀D H' ys,Same H H'->H' D=some (.lst ys)->ys.length=xs.length->(∀(i:Nat) (y:V),ys[i]?=some y->Rel i H' y)->Q (.ref D) H') :
  ∀D,H D=none->∃W:Nat->Nat->St->Hp->List V->Prop,(∃m,W 0 m A (upd H D (.lst [])) []) /\
   ∀i m σ' H' ys,W i m σ' H' ys->H' D=some (.lst ys)/\((J.stop i H'/\Q (.ref D) H')\/(J.go i H'/\∀x H2,J.yld i H' x H2->cY 0 x σ' H2 fun σ3 H3=>zR σ3 H3 λb H4=>
    if b=true then te σ3 H4 λy H5=>H5 D=some (.lst ys)/\ys.length<sizeLine/\∃m',m'<m/\W (i+1) m' σ3 (upd H5 D (.lst (ys++[y]))) (ys++[y]) else H4 D=some (.lst ys)/\∃m',m'<m/\W (i+1) m' σ3 H4 ys)):=by
 intro D h;refine⟨λi m σ' H' ys=>i<=xs.length/\m=xs.length - i/\(∃l,σ'=A.set 0 l)/\Same H H'/\H' D=some (.lst ys)/\ys.length=i/\∀j y,ys[j]?=some y->Rel j H' y,⟨xs.length,bAK _,rfl,⟨none,sZ v⟩,cF h _,aJ,rfl,λj y e=>by simp at e⟩,?_⟩;rintro i m σ' H' ys ⟨hi,rfl,⟨l,rfl⟩,sm,hL,hl,hR⟩;refine⟨hL,?_⟩;by_cases a:i<xs.length
 ·right;obtain⟨n,s⟩:=go H' i xs[i] sm (d7 a);refine⟨n,λx H2 r=>?_⟩;obtain⟨rfl,rfl⟩:=s x H2 r;unfold cY zR;dsimp only;rw[if_pos rfl];refine B i xs[i] (d7 a) _ _ l sm λy H3 d u=>⟨d _ _ hL,by lia,xs.length - (i+1),by lia,a,rfl,⟨some xs[i],?_⟩,?_,aJ,?_,?_⟩
  ·rw[bCQ]
  ·intro b o e;rw[aR (aX e h)];exact d _ _ (sm _ _ e)
  ·rw[j6,bBO,hl]
  ·intro j z c;refine C (d _ _ hL) ?_;by_cases p:j<ys.length
   ·rw[bCN p] at c;exact w d (hR j z c)
   ·rw[bBW (by lia)] at c;have f:j - ys.length=0:=by
     by_cases t:j - ys.length=0
     ·exact t
     ·rw[bAV (by simp;lia)] at c;cases c
    have g:j=i:=by lia
    subst g;rw[f] at c;cases c;exact u
 ·left;have e:i=xs.length:=by lia
  subst e;exact⟨k _ sm,q D _ ys sm hL hl hR⟩
end
section
variable {K:bFQ}
def bD1 (d:∀H',Same H H'->SqL K H' a xs):∀H' i x,Same H H'->xs[i]?=some x->(Itl K a).go i H'/\∀y H2,(Itl K a).yld i H' y H2->H2=H'/\y=x:=λH' i x s e=>
 ⟨⟨xs,x,d H' s,e⟩,λy H2 f=>by obtain⟨g,c⟩:=f;have b:=c xs (d H' s);rw[e] at b;cases b;exact⟨g,rfl⟩⟩
def aYk (b:∀H',Same H H'->SqL K H' a xs):∀H',Same H H'->(Itl K a).stop xs.length H':=λH' s=>⟨xs,b H' s,v7 _⟩
end
section
variable {X:Cx}{K:bFQ}{scope:Scope}{N:List Str}{tl te:TE}{σ:L2.St}{H:Hp}{Q:VK}
def aH4 (Pr:List V->Prop)(Rel:Nat->Hp->V->Prop)(m:∀{i H1 H2 y},Same H1 H2->Rel i H1 y->Rel i H2 y)(o:∀{i H1 D ys zs y},H1 D=some (.lst ys)->Rel i H1 y->Rel i (upd H1 D (.lst zs)) y)
  (d:L2.St) (h:Cap X scope N σ d) (k:d[0]?=some none)
  (j:∀R:VK,(∀D H1 us,Same H H1->H1 D=some (.lst us)->Pr us->R (.ref D) H1)->tl σ H R)
  (e:∀us,Pr us->us.length<=sizeLine)
  (n:∀us,Pr us->∀(i:Nat) (x:V),us[i]?=some x->∀H' R l,Same H H'->(∀y H2,Same H' H2->Rel i H2 y->R y H2)->te ((d.set 0 l).set 0 (some x)) H' R)
  (q:∀us,Pr us->∀D H' ys,Same H H'->H' D=some (.lst ys)->ys.length=us.length->(∀(i:Nat) (y:V),ys[i]?=some y->Rel i H' y)->Q (.ref D) H') :
  mU X scope N (aHy K tl) (cY 0) zR te σ H Q:=
 ⟨d,h,j _ λD H1 us c b p=>⟨D,rfl,⟨us,SqL.of b⟩,aOy us Rel m o d (e us p) (Itl K D) (bD1 λH' a=>SqL.of (a _ _ b)) (aYk λH' a=>SqL.of (a _ _ b))
  (λi x g H' R l a r=>n us p i x g H' R l (c.trans a) r) k λf H' ys a=>q us p f H' ys (c.trans a)⟩⟩
end
def SqT.aFt {K:bFQ}{H:Hp}{a D:Addr}{xs ys zs:List V}(b:H D=some (.lst ys))(h:SqT K H a xs):SqT K (upd H D (.lst zs)) a xs:=by
 rcases h with (h|⟨o,h⟩)|h
 ·exact .inl (.inl (by rw[aR (aCx h b (by intro z;cases z))];exact h))
 ·exact .inl (.inr ⟨o,by rw[aR (aCx h b (by intro z;cases z))];exact h⟩)
 ·exact .inr h
def bI4 (K:bFQ):List V->Hp->VK->Prop:=λxs H Q=>∃(p:Addr) (bs:List Bool),xs=[.ref p]/\SqL K H p (bs.map V.bl)/\Q (.bl (bs.any id)) H
def any_range (bs:List Bool):(List.range bs.length).any (λi=>bs.getD i false)=bs.any id:=by
 rw[bCL,bDY,bDY];constructor
 ·rintro⟨i,a,h⟩;have a:=List.mem_range.mp a;rw[bBF,d7 a] at h;exact⟨_,bCG a,h⟩
 ·rintro⟨b,c,h⟩;obtain⟨i,a,e⟩:=List.mem_iff_getElem.mp c;refine⟨i,List.mem_range.mpr a,?_⟩;rw[bBF,d7 a];rw[e];exact h
def aYd (M:X.calm=true):dW X (.builtin "any") (bI4 X.K):=by
 intro y s σ H N G Q I r h;obtain⟨p,c,rfl,C,q⟩:=h;obtain⟨u,rfl,E⟩:=r.one;cases E;obtain⟨d,n,k,O⟩:=I.list C;have l:=n.length;rw[j5] at l;have j:p≠s.heap.objs.size:=by obtain⟨o,B,_⟩:=k.isList;exact bAI (bAA B)
 refine call_any_walk (bDE k.isList ?_);refine⟨s.heap.objs.size,_,_,_,_,_,λi=>c.getD i false,rfl,Walks.list (show X.A.in1.handled=none from I.ok.hd M) _ p j d.toArray,⟨⟨_,z9 _ rfl,rfl,rfl⟩,?_⟩,?_,λL tk kp=>?_⟩
 ·exact k.isList.at λo e=>j4 _ e
 ·intro i v D w J x a;have f:d[i]?=some v:=by simpa using x
  have t:i<c.length:=by rw[l];exact (List.getElem?_eq_some_iff.mp f).1
  obtain⟨u,m,F⟩:=n.get (by rw[bAD,d7 t];rfl);rw[f] at m;cases m;cases F;have e:c.getD i false=c[i]:=by rw[bBF,d7 t];rfl
  replace a:w (c.getD i false) D:=a;rw[e] at a;exact bBQ a
 ·have e:(List.range d.toArray.size).any (λi=>c.getD i false)=c.any id:=by rw[v8,<-l];exact any_range c
  rw[e];refine⟨.bl (c.any id),H,?_,rfl,q⟩;exact I.kept λb o g=>kp b o (by
   intro z;have:b=s.heap.objs.size:=by simpa using z
   rw[this] at g;exact absurd (bAA g) (bCP _)) (j4 _ g)
def bEj:List V->Hp->VK->Prop:=λxs H Q=>∃z:Str,xs=[.str z]/\z.length<=1000/\∀l H',H l=none->Same H H'->H' l=some (.lst ((List.range z.cps.size).map λi=>V.str (sgn z i)))->Q (.ref l) H'
def aPc (z:Str)(n:Nat):∀(k:Nat) (vs:List Value),vs.length=n->(∀(j:Nat) (v:Value),vs[j]?=some v->∃t,v=.str (sgn z (k+j)) t)->Vals ((List.range' k n).map λi=>V.str (sgn z i)) vs:=by
 induction n with
 |zero=>intro k vs a _;cases bDK a;exact .nil
 |succ n ih=>
  intro k vs a h;cases vs with
  |nil=>cases a
  |cons v vs=>obtain⟨t,rfl⟩:=h 0 v rfl;rw[bEQ,bAE];refine .cons ⟨t,rfl⟩ (ih (k+1) vs (by simpa using a) λj u e=>?_);obtain⟨b,c⟩:=h (j+1) u e;exact⟨b,by rw[c,show k+(j+1)=k+1+j by lia]⟩
def aQi (B:X.calm=true):dW X (.type "list") bEj:=by
 intro k s σ H C y Q I r h;obtain⟨z,rfl,g,q⟩:=h;obtain⟨u,rfl,t,rfl⟩:=vals1 r;refine call_list_str (I.ok.hd B) z t (λA tk a w kp x b=>?_) (small g);have d:=aPc z z.cps.size 0 a.toList (by rw[bAW];exact b.1) λj v e=>by have p:=b.2 j v (by rw[<-bBP];exact e);obtain⟨c,t',n,l⟩:=p;refine⟨t',?_⟩;rw[l];unfold sgn;rw[bDN,bCZ,n];rfl
 rw[<-bDU] at d;have m:a.toList.toArray=a:=by simp
 have f:H s.heap.objs.size=none:=I.hok.fresh (v7 _);refine⟨.ref s.heap.objs.size,_,I.laid (t':=tk) (o:=.lst ((List.range z.cps.size).map λi=>V.str (sgn z i))) kp (v7 _) ?_,rfl,q _ _ f (cF f _) aJ⟩;refine⟨by rw[j5,bAN];exact small g,a.toList,w,d,?_⟩;rw[m];exact x
def aP7 {X:Cx}{K:bFQ}(h:X.K=K:=by rfl):OpR X (compareOp .In) (rIn K false):=by subst h;exact tE
structure bBf (E:Hp->Hp->Prop)(H:Hp):Prop where
 new:∀D o,H D=none->E H (upd H D o)
 trans:∀{H1 H2},E H H1->E H1 H2->E H H2
 upd:∀D o H',H D=none->E H H'->E H (upd H' D o)
 keep:∀D H1 H2 xs,H D=none->E H H1->H1 D=some (.lst xs)->E H1 H2->H2 D=some (.lst xs)
def xA (H:Hp):bBf Same H:=⟨λD o h=>cF h o,λa b=>a.trans b,λD o f h s=>rQ h s,λD e c d _ _ h s=>s _ _ h⟩
def aSi (J:It)(H1:Hp)(σ0:L2.St)(g:TG)(tt:TT)(te:TE)(Q:VK):Prop:=∀D,H1 D=none->∃W:Nat->Nat->L2.St->Hp->List V->Prop,(∃m,W 0 m σ0 (L2.upd H1 D (.lst [])) []) /\
 ∀i m σ' H' ys,W i m σ' H' ys->H' D=some (.lst ys)/\((J.stop i H'/\Q (.ref D) H')\/(J.go i H'/\∀x H2,J.yld i H' x H2->g x σ' H2 fun σ3 H3=>tt σ3 H3 λb H4=>
  if b=true then te σ3 H4 λy H5=>H5 D=some (.lst ys)/\ys.length<sizeLine/\∃m',m'<m/\W (i+1) m' σ3 (L2.upd H5 D (.lst (ys++[y]))) (ys++[y]) else H4 D=some (.lst ys)/\∃m',m'<m/\W (i+1) m' σ3 H4 ys))
section
variable {X:Cx}{K:bFQ}{scope:Scope}{N:List Str}{tl te:TE}{tt:TT}{g:TG}{σ:L2.St}{H:Hp}{Q:VK}
def aE6 (c:L2.St)(b:Cap X scope N σ c)(h:tl σ H λv H1=>∃a,v=.ref a/\(∃xs,SqL K H1 a xs)/\aSi (Itl K a) H1 c g tt te Q):mU X scope N (aHy K tl) g tt te σ H Q:=⟨c,b,h⟩
def wG (c:L2.St)(b:Cap X scope N σ c)(h:tl σ H λv H1=>∃a,v=.ref a/\(∃xs,SqT K H1 a xs)/\aSi (Itt K a) H1 c g tt te Q):mU X scope N (aUt K tl) g tt te σ H Q:=⟨c,b,h⟩
def aEn {a:Addr}{xs:List V}{E:Hp->Hp->Prop}(d:∀H',E H H'->SqT K H' a xs):∀H' i x,E H H'->xs[i]?=some x->(Itt K a).go i H'/\∀y H2,(Itt K a).yld i H' y H2->H2=H'/\y=x:=λH' i x s e=>
 ⟨⟨xs,x,d H' s,e⟩,λy H2 f=>by obtain⟨g,c⟩:=f;have b:=c xs (d H' s);rw[e] at b;cases b;exact⟨g,rfl⟩⟩
def vX {a:Addr}{xs:List V}{E:Hp->Hp->Prop}(b:∀H',E H H'->SqT K H' a xs):∀H',E H H'->(Itt K a).stop xs.length H':=λH' s=>⟨xs,b H' s,v7 _⟩
def aLa {a:Addr}{xs:List V}{E:Hp->Hp->Prop}(d:∀H',E H H'->SqL K H' a xs):∀H' i x,E H H'->xs[i]?=some x->(Itl K a).go i H'/\∀y H2,(Itl K a).yld i H' y H2->H2=H'/\y=x:=λH' i x s e=>
 ⟨⟨xs,x,d H' s,e⟩,λy H2 f=>by obtain⟨g,c⟩:=f;have b:=c xs (d H' s);rw[e] at b;cases b;exact⟨g,rfl⟩⟩
def aCf {a:Addr}{xs:List V}{E:Hp->Hp->Prop}(b:∀H',E H H'->SqL K H' a xs):∀H',E H H'->(Itl K a).stop xs.length H':=λH' s=>⟨xs,b H' s,v7 _⟩
inductive mX (R:Nat->V->Prop):List Nat->List V->Prop
 |nil:mX R [] []
 |cons {i y is ys}:R i y->mX R is ys->mX R (i::is) (y::ys)
def mX.snoc (h:mX R is ys)(r:R i y):mX R (is++[i]) (ys++[y]):=by
 induction h with
 |nil=>exact .cons r .nil
 |cons r' _ ih=>exact .cons r' ih
def mX.imp (h:mX R is ys)(k:∀i y,R i y->S i y):mX S is ys:=by
 induction h with
 |nil=>exact .nil
 |cons r _ ih=>exact .cons (k _ _ r) ih
def mX.len (h:mX R is ys):is.length=ys.length:=by
 induction h with
 |nil=>rfl
 |cons _ _ ih=>rw[d9,d9,ih]
def aEq (E:Hp->Hp->Prop)(l:bBf E H)(xs:List V)(p:Nat->Bool)(Rel:Nat->Hp->V->Prop)
  (v:∀{i H1 H2 y},E H H1->E H1 H2->Rel i H1 y->Rel i H2 y) (I:∀{i H1 D ys zs y},H D=none->E H H1->H1 D=some (.lst ys)->Rel i H1 y->Rel i (L2.upd H1 D (.lst zs)) y)
  (At:Nat->L2.St->Prop) (P:L2.St->Prop) (O:P σ0) (hsz:xs.length<=sizeLine)
  (J:It) (go:∀H' i x,E H H'->xs[i]?=some x->J.go i H'/\∀y H2,J.yld i H' y H2->H2=H'/\y=x) (w:∀H',E H H'->J.stop xs.length H')
  (M:∀(i:Nat) (x:V) σ' H' Q',xs[i]?=some x->P σ'->E H H'->(∀σ2,P σ2->At i σ2->Q' σ2 H')->g x σ' H' Q')
  (T:∀(i:Nat) (x:V) σ2,xs[i]?=some x->At i σ2->∀H' R,E H H'->(∀H2,E H' H2->R (p i) H2)->tt σ2 H' R)
  (L:∀(i:Nat) (x:V) σ2,xs[i]?=some x->At i σ2->p i=true->∀H' R,E H H'->(∀y H2,E H' H2->Rel i H2 y->R y H2)->te σ2 H' R)
  (q:∀D H' ys,E H H'->H D=none->H' D=some (.lst ys)->mX (λi y=>Rel i H' y) (sel p 0 (List.range xs.length)) ys->Q (.ref D) H'):aSi J H σ0 g tt te Q:=by
 intro D c;refine⟨λi m σ' H' ys=>i<=xs.length/\m=xs.length - i/\P σ'/\E H H'/\H' D=some (.lst ys)/\mX (λi y=>Rel i H' y) (sel p 0 (List.range i)) ys,⟨xs.length,bAK _,rfl,O,l.new _ _ c,aJ,.nil⟩,?_⟩;rintro i m σ' H' ys ⟨hi,rfl,hps,sm,hL,hR⟩;refine⟨hL,?_⟩;by_cases h:i<xs.length
 ·right;have s:=d7 h;obtain⟨A,G⟩:=go H' i xs[i] sm s;refine⟨A,λx H2 C=>?_⟩;obtain⟨rfl,rfl⟩:=G x H2 C;have tk:sel p 0 (List.range (i+1))=sel p 0 (List.range i)++(if p i then [i] else []):=by rw[bEG,aEh,bAN,bDN]
  have N:=hR.len;have F:=aBo p 0 (List.range i);rw[bAN] at F;refine M i xs[i] σ' _ _ s hps sm fun σ2 n k=>?_;refine T i xs[i] σ2 s k _ _ sm λK o=>?_;have a:=l.trans sm o;have b:=l.keep D _ _ _ c sm hL o;cases u:p i with
  |true=>rw[if_pos rfl];refine L i xs[i] σ2 s k u _ _ a λy S t B=>?_;have d:=l.trans a t;have f:=l.keep D _ _ _ c a b t;refine⟨f,by lia,xs.length - (i+1),by lia,h,rfl,n,l.upd D _ _ c d,aJ,?_⟩;rw[tk,u];exact mX.snoc (hR.imp λj z r=>I c d f (v a t (v sm o r))) (I c d f B)
  |false=>rw[if_neg (by simp)];refine⟨b,xs.length - (i+1),by lia,h,rfl,n,a,b,?_⟩;rw[tk,u];simp only[bDB,if_false,bAJ];exact hR.imp λj z r=>v sm o r
 ·left;have e:i=xs.length:=by lia
  subst e;exact⟨w _ sm,q D _ ys sm c hL hR⟩
def bGh (E:Hp->Hp->Prop)(n:bBf E H)(xs:List V)(Rel:Nat->Hp->V->Prop)
  (u:∀{i H1 H2 y},E H H1->E H1 H2->Rel i H1 y->Rel i H2 y) (G:∀{i H1 D ys zs y},H D=none->E H H1->H1 D=some (.lst ys)->Rel i H1 y->Rel i (L2.upd H1 D (.lst zs)) y)
  (At:Nat->L2.St->Prop) (P:L2.St->Prop) (O:P σ0) (hsz:xs.length<=sizeLine)
  (J:It) (go:∀H' i x,E H H'->xs[i]?=some x->J.go i H'/\∀y H2,J.yld i H' y H2->H2=H'/\y=x) (v:∀H',E H H'->J.stop xs.length H')
  (M:∀(i:Nat) (x:V) σ' H' Q',xs[i]?=some x->P σ'->E H H'->(∀σ2,P σ2->At i σ2->Q' σ2 H')->g x σ' H' Q')
  (T:∀(i:Nat) (x:V) σ2,xs[i]?=some x->At i σ2->∀H' R,E H H'->(∀b H2,E H' H2->R b H2)->tt σ2 H' R)
  (L:∀(i:Nat) (x:V) σ2,xs[i]?=some x->At i σ2->∀H' R,E H H'->(∀y H2,E H' H2->Rel i H2 y->R y H2)->te σ2 H' R)
  (q:∀D H' ys,E H H'->H D=none->H' D=some (.lst ys)->(∃is:List Nat,is.Sublist (List.range xs.length)/\mX (λi y=>Rel i H' y) is ys)->Q (.ref D) H'):aSi J H σ0 g tt te Q:=by
 intro D d;refine⟨λi m σ' H' ys=>i<=xs.length/\m=xs.length - i/\P σ'/\E H H'/\H' D=some (.lst ys)/\∃is:List Nat,is.Sublist (List.range i)/\mX (λi y=>Rel i H' y) is ys,⟨xs.length,bAK _,rfl,O,n.new _ _ d,aJ,[],List.nil_sublist _,.nil⟩,?_⟩;rintro i m σ' H' ys ⟨hi,rfl,hps,sm,hL,is,hsub,hR⟩;refine⟨hL,?_⟩;by_cases k:i<xs.length
 ·right;have s:=d7 k;obtain⟨w,F⟩:=go H' i xs[i] sm s;refine⟨w,λx H2 B=>?_⟩;obtain⟨rfl,rfl⟩:=F x H2 B;have N:=hR.len;have C:=hsub.length_le;rw[bAN] at C;refine M i xs[i] σ' _ _ s hps sm fun σ2 o l=>?_;refine T i xs[i] σ2 s l _ _ sm λI K p=>?_;have a:=n.trans sm p;have c:=n.keep D _ _ _ d sm hL p;cases I with
  |true=>rw[if_pos rfl];refine L i xs[i] σ2 s l _ _ a λy S t A=>?_;have f:=n.trans a t;have h:=n.keep D _ _ _ d a c t;refine⟨h,by lia,xs.length - (i+1),by lia,k,rfl,o,n.upd D _ _ d f,aJ,is++[i],by rw[bEG];exact hsub.append (List.Sublist.refl _),?_⟩;exact mX.snoc (hR.imp λj z r=>G d f h (u a t (u sm p r))) (G d f h A)
  |false=>rw[if_neg (by simp)];refine⟨c,xs.length - (i+1),by lia,k,rfl,o,a,c,is,by rw[bEG];exact hsub.trans (List.sublist_append_left _ _),?_⟩;exact hR.imp λj z r=>u sm p r
 ·left;have e:i=xs.length:=by lia
  subst e;exact⟨v _ sm,q D _ ys sm d hL ⟨is,hsub,hR⟩⟩
end
def At1 (σ0:L2.St)(v:V)(σ:L2.St):Prop:=∃l,σ=(σ0.set 0 l).set 0 (some v)
def Ps1 (σ0:L2.St)(σ:L2.St):Prop:=∃l,σ=σ0.set 0 l
def At2 (σ0:L2.St)(a b:V)(σ:L2.St):Prop:=σ=(σ0.set 0 (some a)).set 1 (some b)
def Ps2 (σ0:L2.St)(σ:L2.St):Prop:=∃l m,σ=(σ0.set 0 l).set 1 m
def hg1 {σ0:L2.St}{i:Nat}{x:V}{σ':L2.St}{H':Hp}{Q':L2.St->Hp->Prop}(h:Ps1 σ0 σ')(q:∀σ2,Ps1 σ0 σ2->At1 σ0 x σ2->Q' σ2 H'):cY 0 x σ' H' Q':=by obtain⟨l,rfl⟩:=h;exact q _ ⟨some x,by rw[bCQ]⟩ ⟨l,rfl⟩
def hg2 {K:bFQ}{c:L2.St}{p:Addr}{a b:V}{σ':L2.St}{H':Hp}{Q':L2.St->Hp->Prop}(d:SqT K H' p [a,b])(h:Ps2 c σ')(q:∀σ2,Ps2 c σ2->At2 c a b σ2->Q' σ2 H'):aI3 K 2 (uN (cY 0) (uN (cY 1) aPp)) (.ref p) σ' H' Q':=by
 obtain⟨l,m,rfl⟩:=h;have e:(((c.set 0 l).set 1 m).set 0 (some a)).set 1 (some b)=(c.set 0 (some a)).set 1 (some b):=by rw[List.set_comm _ _ (show (1:Nat)≠0 by decide),bCQ,bCQ]
 refine⟨p,_,rfl,d,rfl,_,_,rfl,_,_,rfl,rfl,?_⟩;rw[e];exact q _ ⟨some a,some b,rfl⟩ rfl
def aEb (xs:List V)(n:Nat):uC xs none (some (n:Int))=xs.take n:=by
 unfold uC;rw[HT.aAb,HT.aAh,bFJ,Nat.sub_zero];by_cases h:n<=xs.length
 ·rw[bEZ h]
 ·rw[Nat.min_eq_right (by lia),bBY,bBK (by lia)]
def aH7 (xs:List V)(n:Nat):uC xs (some (n:Int)) none=xs.drop n:=by
 unfold uC;rw[HT.aAb,HT.aAh];by_cases h:n<=xs.length
 ·rw[bEZ h];exact bBK (by rw[bBD];lia)
 ·rw[Nat.min_eq_right (by lia),List.drop_length,List.drop_of_length_le (by lia),List.take_nil]
def bGl (K:bFQ):V->Option Int->Option Int->Hp->VK->Prop:=λx lo hi H Q=>∃a xs,x=.ref a/\SqL K H a xs/\∀p H',H p=none->Same H H'->H' p=some (.lst (uC xs lo hi))->Q (.ref p) H'
def gZ:SlR X (bGl X.K):=λb s σ H x v j d k f g Q I l i h n ⟨a,o,e,m,q⟩=>
 bA2 b s σ H x v j d k f g Q I l i h n ⟨a,o,e,m,λp c=>q p _ c (cF c _) aJ⟩
inductive Al2 {α β:Type}(R:α->β->Prop):List α->List β->Prop
 |nil:Al2 R [] []
 |cons {a b as bs}:R a b->Al2 R as bs->Al2 R (a::as) (b::bs)
def Al2.len {α β:Type}{R:α->β->Prop}{as:List α}{bs:List β}(h:Al2 R as bs):as.length=bs.length:=by
 induction h with
 |nil=>rfl
 |cons _ _ ih=>rw[d9,d9,ih]
theorem Al2.at {α β:Type}{R:α->β->Prop}{as:List α}{bs:List β}(h:Al2 R as bs):∀{j:Nat} {a:α},as[j]?=some a->∃b,bs[j]?=some b/\R a b:=by
 induction h with
 |nil=>intro j a e;simp at e
 |cons r _ ih=>
  intro j a e;cases j with
  |zero=>cases e;exact⟨_,rfl,r⟩
  |succ j=>exact ih (by simpa using e)
def DEq (K:bFQ)(H:Hp):Nat->V->V->Prop
 |0,x,y=>kO x=true/\x=y
 |n+1,x,y=>(kO x=true/\x=y)\/∃a b xs ys,x=.ref a/\y=.ref b/\SqT K H a xs/\SqT K H b ys/\Al2 (DEq K H n) xs ys
def aCp (h:kO x=true)(c:RelV x v)(d:RelV x u):SeqAt.EqAt A s v u true:=by
 cases x with
 |non=>cases c;cases d;exact bEX _
 |bl b=>cases c;cases d;exact bEX _
 |int i=>obtain⟨t,rfl⟩:=c;obtain⟨a,rfl⟩:=d;have z:=SeqAt.EqAt.int_int (A:=A) (s:=s) i t i a;simpa using z
 |str y=>obtain⟨t,rfl⟩:=c;obtain⟨a,rfl⟩:=d;have z:=SeqAt.EqAt.str_str (A:=A) (s:=s) y t y a;simpa using z
 |_=>cases h
def aQy (I:Inv X bFU σ H s)(o:Vals xs its)(m:Vals ys jts)(h:Al2 (DEq X.K H n) xs ys)
  (q:∀{x y v u},DEq X.K H n x y->RelV x v->RelV y u->SeqAt.EqAt A s v u true):∀(j:Nat) (h1:j<its.toArray.size) (h2:j<jts.toArray.size),SeqAt.EqAt A s its.toArray[j] jts.toArray[j] ((λ_=>true) j):=λj h1 h2=>by
 have r:=o.length;have a:j<xs.length:=by rw[v8] at h1;lia
 obtain⟨y,g,d⟩:=h.at (d7 a);obtain⟨i,c,f⟩:=o.get (d7 a);obtain⟨l,b,p⟩:=m.get g;have e:its.toArray[j]=i:=by rw[bDV];exact (List.getElem?_eq_some_iff.mp c).2
 have k:jts.toArray[j]=l:=by rw[bDV];exact (List.getElem?_eq_some_iff.mp b).2
 rw[e,k];exact q d f p
def aE1 (n:Nat):(List.range n).all (λ_=>true)=true:=by rw[bBI];intro _ _;rfl
theorem aHl (I:Inv X bFU σ H s):∀(n:Nat) {A:Around} {x y:V} {v u:Value},DEq X.K H n x y->RelV x v->RelV y u->A.units+n<cLine->SeqAt.EqAt A s v u true
 |0,A,x,y,v,u,h,rv,ru,_=>by obtain⟨h,rfl⟩:=h;exact aCp h rv ru
 |n+1,A,x,y,v,u,h,rv,ru,hu=>by
  rcases h with⟨h,rfl⟩|⟨a,b,xs,ys,rfl,rfl,ha,hb,h⟩
  ·exact aCp h rv ru
  cases rv;cases ru;by_cases e:a=b
  ·subst e;exact bEX _
  obtain⟨c,g,k,q⟩:=I.tuple ha;obtain⟨f,i,j,p⟩:=I.tuple hb;refine SeqAt.EqAt.of_refs e ?_;have z:=SeqAt.RcAt.tuples (A:=A) (e:=λ_=>true) (show s.heap.IsTuple a c.toArray from k) (show s.heap.IsTuple b f.toArray from j) (by lia) (aQy I g i h λd l m=>aHl I n d l m (by show A.units+1+n<cLine;lia));have o:(c.toArray.size == f.toArray.size)=true:=by rw[v8,v8];have:=g.length;have:=i.length;have:=h.len;simp;lia
  rw[aE1,o] at z;exact z
def aUg:dW X (.type "int") (λxs H Q=>∃x n,xs=[.str x]/\PySem.intText? x=some n/\x.length<=640/\Q (.int n) H):=by rintro bFU s σ H xs us Q I r ⟨x,n,rfl,hn,hl,q⟩;obtain⟨u,rfl,t,rfl⟩:=r.one;exact PySem.W.KIN.call_text hn hl ⟨.int n,H,I.tok _,⟨_,rfl⟩,q⟩
def rJoin (K:bFQ):V->List V->Hp->VK->Prop:=λx vs H Q=>∃sep a ts,x=.str sep/\vs=[.ref a]/\SqL K H a (ts.map V.str)/\JoinOk sep ts=true/\Q (.str (Txt.join sep ts)) H
theorem aD9:∀{ts:List Str} {us:List Value},Vals (ts.map V.str) us->∃l:List (Str × Tok),us=strValues l/\l.map (·.1)=ts
 |[],_,.nil=>⟨[],rfl,rfl⟩
 |x::ts,_,.cons r t=>by obtain⟨l,rfl,e⟩:=aD9 t;obtain⟨k,rfl⟩:=r;exact⟨(x,k)::l,rfl,by rw[bAE,e]⟩
def pZ:MtR X "str.join" (rJoin X.K):=by intro j s σ H x y v p Q I i m h;obtain⟨g,a,w,rfl,rfl,n,c,q⟩:=h;obtain⟨t,rfl⟩:=i;obtain⟨u,rfl,o⟩:=m.one;cases o;obtain⟨d,b,f,r⟩:=I.list n;obtain⟨l,rfl,e⟩:=aD9 b;exact SC.join f.isList e c λz k=>⟨.str _,H,I.tok _,⟨_,rfl⟩,q⟩
def aJ3 (A:PE X a ta)(r:PE X b tb)(hs:aAs b) :
  PE X (.Subscript a b pos) (tOp (λx y H Q=>∃z i c,x=.str z/\y=.int i/\-(2 ^ 63)<=i/\i<2 ^ 63/\(seqIndex? i z.length).bind (z.cps[·]?)=some c/\Q (.str ⟨#[c]⟩) H) ta tb):=by
 intro g s σ H Q I h;refine Subscript_ (aWk A r I h λv u m x y d e f k q=>?_);obtain⟨z,i,c,rfl,rfl,p,n,l,q⟩:=q;obtain⟨t,rfl⟩:=f;obtain⟨w,rfl⟩:=k;exact tail_any (typeIs_str m z t) slot_str_getitem.lookup (getItem_str (by have o:decide (i < -(2 ^ 63:Int))=false:=m9 (by lia);have j:decide (i ≥ 2 ^ 63)=false:=m9 (by lia);rw[o,j] <;> rfl) l ⟨.str ⟨#[c]⟩,d,e.tok _,⟨_,rfl⟩,q⟩) (hs _ _)
def aKq (d:VE X a ta)(e:VE X b tb)(hs:aAs b) :
  VE X (.Subscript a b pos) (tOp (λx y H Q=>∃z i c,x=.str z/\y=.int i/\-(2 ^ 63)<=i/\i<2 ^ 63/\(seqIndex? i z.length).bind (z.cps[·]?)=some c/\Q (.str ⟨#[c]⟩) H) ta tb):=⟨aJ3 d.1 e.1 hs⟩
def Fl2:List V->List V->Prop:=Al2 λx y=>kO x=true/\x=y
theorem Fl2.refl:∀{xs:List V},(∀x∈xs,kO x=true)->Fl2 xs xs
 |[],_=>.nil
 |x::xs,h=>.cons ⟨h x (.head _),rfl⟩ (Fl2.refl λy a=>h y (.tail _ a))
def aN1 {A:Around}{s:Shared}{xs ys:List V}{its jts:List Value}(n:Vals xs its)(m:Vals ys jts)(h:Fl2 xs ys):∀(j:Nat) (h1:j<its.toArray.size) (h2:j<jts.toArray.size),SeqAt.EqAt A s its.toArray[j] jts.toArray[j] ((λ_=>true) j):=λj h1 h2=>by
 have q:=n.length;have a:j<xs.length:=by rw[v8] at h1;lia
 obtain⟨y,g,d,p⟩:=h.at (d7 a);obtain⟨i,c,e⟩:=n.get (d7 a);obtain⟨l,b,o⟩:=m.get g;have f:its.toArray[j]=i:=by rw[bDV];exact (List.getElem?_eq_some_iff.mp c).2
 have k:jts.toArray[j]=l:=by rw[bDV];exact (List.getElem?_eq_some_iff.mp b).2
 rw[f,k];rw[p] at e d;exact aCp d e o
def bIl (K:bFQ):R2:=λx y H Q=>∃a b xs ys,x=.ref a/\y=.ref b/\SqL K H a xs/\SqL K H b ys/\Fl2 xs ys/\Q (.bl false) H
def bEn (p:X.A.units<cLine):OpR X (compareOp .NotEq) (bIl X.K):=by intro k s σ H x y v u Q I j n h;obtain⟨a,b,w,t,rfl,rfl,m,i,h,q⟩:=h;cases j;cases n;obtain⟨f,c,g,r⟩:=I.list m;obtain⟨l,d,e,o⟩:=I.list i;refine SeqAt.RcNeAt.lists g.isList e.isList (by rw[v8,v8];have:=c.length;have:=d.length;have:=h.len;lia) p (aN1 c d h) _ _ _ _ ?_;rw[aE1];exact⟨.bl _,H,I,rfl,q⟩
inductive Tg where
 |non
 |int (i:Int)
 |bl (b:Bool)
 |str (x:Str)
 |tup (ts:List Tg)
 |lst (ts:List Tg)
 |dct
mutual
inductive bU (K:bFQ)(H:Hp):V->Tg->Prop
 |non:bU K H .non .non
 |int {i}:bU K H (.int i) (.int i)
 |bl {b}:bU K H (.bl b) (.bl b)
 |str {x:Str}:x.length<=100000->bU K H (.str x) (.str x)
 |tup {a vs ts}:SqT K H a vs->vs.length<=1000->eX K H vs ts->bU K H (.ref a) (.tup ts)
 |lst {a vs ts}:H a=some (.lst vs)->vs.length<=1000->eX K H vs ts->(∀i,vs≠[.int i])->bU K H (.ref a) (.lst ts)
 |dct {a}:H a=some (.dK [])->bU K H (.ref a) .dct
inductive eX (K:bFQ)(H:Hp):List V->List Tg->Prop
 |nil:eX K H [] []
 |cons {v t vs ts}:bU K H v t->eX K H vs ts->eX K H (v::vs) (t::ts)
end
mutual
theorem bU.same {K:bFQ}{H H':Hp}(e:Same H H'):∀{v:V} {t:Tg},bU K H v t->bU K H' v t
 |_,_,.non=>.non
 |_,_,.int=>.int
 |_,_,.bl=>.bl
 |_,_,.str h=>.str h
 |_,_,.tup g l h=>.tup (e.aV g) l (eX.same e h)
 |_,_,.lst g l h n=>.lst (e _ _ g) l (eX.same e h) n
 |_,_,.dct g=>.dct (e _ _ g)
theorem eX.same {K:bFQ}{H H':Hp}(e:Same H H'):∀{vs:List V} {ts:List Tg},eX K H vs ts->eX K H' vs ts
 |_,_,.nil=>.nil
 |_,_,.cons h t=>.cons (bU.same e h) (eX.same e t)
end
theorem eX.len {K:bFQ}{H:Hp}:∀{vs:List V} {ts:List Tg},eX K H vs ts->vs.length=ts.length
 |_,_,.nil=>rfl
 |_,_,.cons _ t=>by rw[d9,d9,eX.len t]
theorem eX.at {K:bFQ}{H:Hp}:∀{vs:List V} {ts:List Tg},eX K H vs ts->∀{i:Nat} {v:V},vs[i]?=some v->∃t,ts[i]?=some t/\bU K H v t
 |_,_,.cons h t,0,v,e=>by cases e;exact⟨_,rfl,h⟩
 |_,_,.cons h t,i+1,v,e=>by obtain⟨b,a,c⟩:=eX.at t (by simpa using e);exact⟨b,by simpa using a,c⟩
def classAt:Stmt->Nat->Stmt
 |.ClassDef _ _ _ body _ _ _ _ _ _ _,j=>body.getD j (.Pass ⟨0,0,0,0⟩)
 |st,_=>st
structure aWu (K:bFQ)(mg:bFT)(x:Str)(C:Addr):Prop where
 at_:mg x=some (.ref C)
 cls:Cls K C
 mks:PySem.W.makesIn K C=true
 kp:PySem.W.keepIn K (.ref C)=true
def lN (K:bFQ)(C:Addr)(m qual:Str)(st:Stmt)(ps:List Str):Prop:=∃f fd,Meth K C m f/\Fun K m qual st f fd/\Binds K fd ps []
section
variable {P:Program}{w:World}{K:bFQ}{mg:bFT}{base:Heap}
def OkM (P:Program)(w:World)(K:bFQ)(mg:bFT)(base:Heap)(C:Addr)(k:Nat)(m:Str)(ps:List Str)(sp:Sp):Prop:=
 ∃f fd,Cls K C/\Meth K C m f/\Binds K fd ps []/\!iM CX0 k f fd ps sp
def OkM.mono (h:!OkM C j m ps sp)(g:j<=k):!OkM C k m ps sp:=by obtain⟨f,b,a,e,d,c⟩:=h;exact⟨f,b,a,e,d,c.mono g⟩
def OkM.ofV {C:Addr}{m qual:Str}{st:Stmt}{N ps:List Str}{k:Nat}{sp:Sp}(c:Cls K C)(D:lN K C m qual st ps)(S:aM N ps (aC st))(g:∀vs H Q E,sp vs H Q E->vs.length=ps.length)
  (a:∀(f:Addr) (cdv:Value) (A:Around) (outer:List Env) (s:Shared) (H:Hp) (vs:List V) (Q:VK) (E:XK),Room k (A.deeper (envOfC qual (aC st) s.heap.objs.size f cdv))->sp vs H Q E ->
   ∃t,VSs (uT CX0 P w K mg base N qual (aC st) f cdv A outer s H E).nox (dN st) t/\t { nx:=λ_ H'=>Q .non H',rt:=Q } (start N vs) H):!OkM C (k+1) m ps sp:=by
 obtain⟨f,b,d,F,B⟩:=D;exact⟨f,b,c,d,B,Fun.okV F S g λcdv A outer s H vs Q E e h=>a f cdv A outer s H vs Q E e h⟩
def OkC (P:Program)(w:World)(K:bFQ)(mg:bFT)(base:Heap)(C:Addr)(k:Nat)(x:Str)(ps:List Str)(sp:Sp):Prop:=
 ∃f fd,mg x=some (.ref C)/\Mk K C f/\Binds K fd ps []/\!iM CX0 k f fd ps sp
def OkC.mono (h:!OkC C j x ps sp)(g:j<=k):!OkC C k x ps sp:=by obtain⟨f,b,a,e,d,c⟩:=h;exact⟨f,b,a,e,d,c.mono g⟩
def OkM.make (c:aWu K mg x C)(h:!OkM C k "__init__" ps sp):!OkC C k x ps sp:=by obtain⟨f,b,g,a,e,d⟩:=h;exact⟨f,b,c.at_,⟨c.mks,a.at_,a.fn,c.kp⟩,e,d⟩
end
section
variable {X:Cx}{e o value:Expr}{es:List Expr}{f m x:Str}{p pos pos' apos:Pos}{t:TA}{C:Addr}{k:Nat}{ps:List Str}{sp:Sp}
def zF {K:bFQ}(b:VE X e ta)(a:attributeBase e f X.env (eval e X.env)=eval e X.env:=by rfl)(h:X.K=K:=by rfl):VE X (.Attribute e f pos) (bHg K ta f):=by subst h;exact⟨bDm b.1 a⟩
def zQ {K:bFQ}(a:VE X o ta)(b:VE X value tv)(hs:swapsWith value (some (.Attribute o f pos')) pos.line X.env=pure false:=by rfl)(h:X.K=K:=by rfl):VS X (.Assign [.Attribute o f pos'] value pos) (bG0 K ta tv f):=by subst h;exact⟨bC6 a.1 b.1 hs⟩
def qI (G:OkM X.prog X.w X.K X.mg X.base C k m ps sp)(p:Room k X.A)(n:VE X o ta)(j:VA X (e::es) t)
  (l:eU e=true:=by rfl) (d:(backTo pos (starEach es X.env)).any (·.1)=false:=by rfl)
  (i:eval (.Call (.Attribute o m apos) (e::es) [] pos) X.env=(do
   let ov <-eval o X.env
   standAt apos.atName
   let (f,first) <-holding [ov] (getMethod ov m pl)
   callWith pos f first (backTo pos (starEach (e::es) X.env)) (backToKw pos (keywordEach [] X.env))):=by rfl):VE X (.Call (.Attribute o m apos) (e::es) [] pos) (aGa C m sp [] E0 ta t):=by
 obtain⟨f,h,c,g,b,a⟩:=G;exact⟨aSh n.1 c g a p b .nil aGh j.1 (bG l) d i⟩
def bN (G:OkM X.prog X.w X.K X.mg X.base C k m ps sp)(i:Room k X.A)(h:VE X o ta)
  (g:eval (.Call (.Attribute o m apos) [] [] pos) X.env=(do
   let ov <-eval o X.env
   standAt apos.atName
   let (f,first) <-holding [ov] (getMethod ov m pl)
   callWith pos f first (backTo pos (starEach [] X.env)) (backToKw pos (keywordEach [] X.env))):=by rfl):VE X (.Call (.Attribute o m apos) [] [] pos) (aGa C m sp [] E0 ta pP):=by
 obtain⟨f,e,c,d,b,a⟩:=G;exact⟨aMk h.1 c d a i b .nil aGh g⟩
def bBx (G:OkC X.prog X.w X.K X.mg X.base C k x ps sp)(n:Room (k+1) X.A)(j:Gl X x)(l:VA X (e::es) t)(c:(x == ("__debug__":Str))=false:=by decide)(m:eU e=true:=by rfl)(g:(backTo pos (starEach es X.env)).any (·.1)=false:=by rfl) :
  VE X (.Call (.Name x p) (e::es) [] pos) (aYu C sp [] E0 t):=by
 obtain⟨f,i,d,h,b,a⟩:=G;exact⟨aSt h a n j d b .nil aGh l.1 c (bG m) g⟩
end
end L2
namespace My
open PySem PySem.Spec PyProof.Rows L2 PySem.NumText
abbrev figs:Str:="0123456789"
abbrev cs (x:Str):List Nat:=x.cps.toList
def isD (c:Nat):Bool:=decide (48<=c) && decide (c<=57)
def isL (c:Nat):Bool:=decide (97<=c) && decide (c<=122)
def inS (S y:Str):Bool:=!(Builtin.Str.occurrences S y 0 S.length 1).isEmpty
def aZ6:cs figs=[48,49,50,51,52,53,54,55,56,57]:=by trivial
def inF (c:Nat):inS figs ⟨#[c]⟩=isD c:=by unfold inS;rw[PySem.StrLaws.found_one];show decide (c∈cs figs)=isD c;rw[aZ6,bCL];simp only[isD,decide_eq_true_eq,w6,bAO,bAG,or_false];omega
def xN (l:List Nat):Bool:=(decide (1<=l.length) && (decide (l.length<=60) && l.all isD)) && (decide (l=[48]) || !decide (l.head?=some 48))
def aDw (l:List Nat):Bool:=if l.head?=some 45 then xN l.tail && !decide (l=[45,48]) else xN l
def inn (l:List Nat):List Nat:=l.tail.dropLast
def aKd (l:List Nat):Bool:=decide (2<=l.length) && (decide (l.head?=some 39) && (decide (l.getLast?=some 39) && (decide ((inn l).length<=8) && (inn l).all isL)))
def aMh (l:List Nat):Int:=if l.head?=some 45 then -((digitsVal l.tail:Nat):Int) else ((digitsVal l:Nat):Int)
def rdV (x:Str):Option V:=if aDw (cs x) then some (.int (aMh (cs x))) else if aKd (cs x) then some (.str ⟨(inn (cs x)).toArray⟩) else none
def jH:x=y↔cs x=cs y:=by obtain⟨⟨a⟩⟩:=x;obtain⟨⟨b⟩⟩:=y;simp[cs]
def range_all (x:Str)(f:Nat->Bool):((List.range x.cps.size).map λi=>f (x.cps.getD i 0)).all id=(cs x).all f:=by
 have e:(List.range x.cps.size).map (λi=>f (x.cps.getD i 0))=(cs x).map f:=by
  apply bCH;intro i;rw[bAD,bAD];by_cases h:i<x.cps.size
  ·rw[bCK h,bBP,bAP h];simp[bCZ,bAP h]
  ·rw[bAV (by simpa using h),bAV (by simpa using h)];rfl
 rw[e,List.all_map];rfl
def uV (h:xN l=true):AllDigits l/\l≠[]/\l.length<=60:=by unfold xN at h;simp only[w6,decide_eq_true_eq,bBI,isD] at h;obtain⟨⟨a,f,b⟩,_⟩:=h;exact⟨λc d=>b c d,λe=>by rw[e] at a;simp at a,f⟩
def aSo (h:aDw (cs x)=true):intText? x=some (aMh (cs x))/\x.length<=640:=by
 unfold aDw at h;have g:x.length=(cs x).length:=by simp[cs,Str.length]
 split at h
 ·rename_i d;simp only[w6] at h;obtain⟨a,b,c⟩:=uV h.1;have f:cs x=45::(cs x).tail:=by
   cases e:cs x with
   |nil=>rw[e] at d;cases d
   |cons y t=>rw[e] at d;cases d;rfl
  have i:x.length<=61:=by rw[g,f,d9];lia
  refine⟨?_,by lia⟩;rw[intText_neg f a b (by lia)];unfold aMh;rw[if_pos d]
 ·rename_i d;obtain⟨a,b,c⟩:=uV h;refine⟨?_,by lia⟩;rw[intText_digits a b (by lia)];unfold aMh;rw[if_neg d]
open PySem PySem.Spec PyProof.Rows L2 PySem.NumText Builtin Builtin.Str
def lF (x:Str):x.length=(cs x).length:=by simp[cs,Str.length]
def aBp (x:Str)(l u:Option Int):Txt.slice x l u=PySem.StrLaws.sliceText x l u:=rfl
def bH1 (x:Str):Txt.slice x none (some 1)=⟨((cs x).take 1).toArray⟩:=by
 rw[aBp];by_cases h:(cs x).length=0
 ·have e:x = "":=jH.mpr (by rw[bDK h];decide +kernel);subst e;decide +kernel
 ·rw[PySem.StrLaws.sliceText_to (show (0:Int)<=1/\(1:Int)<=((cs x).length:Nat) by lia)];rfl
def aZ9 (h:1<=(cs x).length):Txt.slice x (some 1) none=⟨((cs x).tail).toArray⟩:=by
 rw[aBp,PySem.StrLaws.sliceText_from (show (0:Int)<=1/\(1:Int)<=((cs x).length:Nat) by lia)];have e:((x.cps.toList.length:Int) - 1).toNat=((cs x).drop 1).length:=by rw[bBD];show ((cs x).length - 1:Int).toNat=_;lia
 rw[e];show (⟨((((cs x).drop 1).take ((cs x).drop 1).length)).toArray⟩:Str)=_;rw[bBY,List.drop_one]
def bG1 (h:2<=(cs x).length):Txt.slice x (some 1) (some (-1))=⟨(inn (cs x)).toArray⟩:=by
 have e:strSliceIndices (some 1) (some (-1)) 1 x.length=strSliceIndices (some 1) (some ((x.length:Int) - 1)) 1 x.length:=by
  have b:=lF x;unfold strSliceIndices;simp only;have a:¬ ((x.length:Int) - 1<0):=by lia
  rw[if_pos (show (-1:Int)<0 by decide),if_neg a]
  congr 1
 rw[aBp];have c:PySem.StrLaws.sliceText x (some 1) (some (-1))=PySem.StrLaws.sliceText x (some 1) (some ((x.length:Int) - 1)):=by unfold PySem.StrLaws.sliceText;rw[e]
 rw[c,PySem.StrLaws.sliceText_plain (show (0:Int)<=1/\(1:Int)<=(x.length:Int) - 1/\(x.length:Int) - 1<=((cs x).length:Nat) by have b:=lF x;lia)];refine jH.mpr ?_;show ((cs x).drop 1).take ((x.length:Int) - 1 - 1).toNat=inn (cs x);unfold inn;rw[List.drop_one,List.dropLast_eq_take,List.length_tail,lF]
 congr 1
 lia
def shw:V->Str
 |.int i=>Str.ofString (toString i)
 |.str x=>"'"++x++"'"
 |_=>""
def Lets (x:Str):Prop:=∀c∈x.cps,97<=c/\c<=122
def Vl (v:V):Prop:=(∃i:Int,v=.int i/\i.natAbs<10 ^ 60)\/∃x,v=.str x/\Lets x/\x.length<=8
def jZ (x y:Str):cs (x++y)=cs x++cs y:=by show (x.cps++y.cps).toList=_;rw[bEB]
def bEs:cs "'"=[39]:=by trivial
def oH (x:Str):cs (shw (.str x))=39::(cs x++[39]):=by show cs ("'"++x++"'")=_;rw[jZ,jZ,bEs];rfl
def aWj (h:Lets x):(cs x).all isL=true:=by rw[bBI];intro c d;obtain⟨a,b⟩:=h c (Array.mem_toList_iff.mp d);simp[isL,a,b]
theorem aBn:∀k m,m<10 ^ (k+1)->(Nat.toDigits 10 m).length<=k+1
 |0,m,h=>by rw[bDJ (by simpa using h)];simp
 |k+1,m,h=>by
  by_cases a:m<10
  ·rw[bDJ a];simp
  ·have b:m % 10<10:=Nat.mod_lt m (by decide);have t:Nat.toDigits 10 (m / 10)++Nat.toDigits 10 (m % 10)=Nat.toDigits 10 (10 * (m / 10)+m % 10):=bFA (by decide) (by lia) b;rw[Nat.div_add_mod] at t;rw[<-t,j6,bDJ b];have c:=aBn k (m / 10) (by rw[Nat.pow_succ] at h;exact Nat.div_lt_of_lt_mul (by rw[Nat.mul_comm];exact h));simp only[bBO];lia
def bI5:∀d:Nat,d<10->d≠0->(Nat.digitChar d).toNat≠48:=by decide
def aI0 (m:Nat)(h:m≠0):((Nat.toDigits 10 m).map Char.toNat).head?≠some 48:=by
 induction m using Nat.strongRecOn with
 |_ m ih=>
  by_cases a:m<10
  ·rw[bDJ a];intro e;exact bI5 m a h (bAM e)
  ·have b:m % 10<10:=Nat.mod_lt m (by decide);have t:Nat.toDigits 10 (m / 10)++Nat.toDigits 10 (m % 10)=Nat.toDigits 10 (10 * (m / 10)+m % 10):=bFA (by decide) (by lia) b;rw[Nat.div_add_mod] at t;rw[<-t,bAH,List.head?_append];have i:=ih (m / 10) (by lia) (by lia);cases e:((Nat.toDigits 10 (m / 10)).map Char.toNat).head? with
   |none=>rw[List.head?_eq_none_iff] at e;have z:=toDigits_len_ge 10 (m / 10);rw[List.map_eq_nil_iff.mp e] at z;exact absurd z (by decide)
   |some c=>rw[e] at i;simpa using i
def vP (m:Nat):AllDigits ((Nat.toDigits 10 m).map Char.toNat):=by intro c b;obtain⟨d,a,e⟩:=List.mem_map.mp b;have r:=digit_range (Nat.isDigit_of_mem_toDigits (by decide) (by decide) a);rw[<-e];exact r
def aK5 (m:Nat):(Nat.toDigits 10 m).map Char.toNat≠[]:=λe=>by have h:=toDigits_len_ge 10 m;rw[List.map_eq_nil_iff.mp e] at h;exact absurd h (by decide)
def aLt (h:m<10 ^ 60):xN ((Nat.toDigits 10 m).map Char.toNat)=true:=by
 have i:=aBn 59 m h;have g:1<=((Nat.toDigits 10 m).map Char.toNat).length:=List.length_pos_iff.mpr (aK5 m);have e:((Nat.toDigits 10 m).map Char.toNat).all isD=true:=by rw[bBI];intro c f;obtain⟨a,b⟩:=vP m c f;simp[isD,a,b]
 unfold xN;rw[v9 g,v9 (by rw[j5];lia),e];simp only[bBR,bES];by_cases d:m=0
 ·subst d;decide
 ·rw[m9 (aI0 m d)];simp
def bAy (n:Nat):toString (Int.negSucc n) = "-"++toString (n+1):=rfl
def yW (n:Nat):cs (Str.ofString (toString (Int.negSucc n)))=45::(Nat.toDigits 10 (n+1)).map Char.toNat:=by show (Str.ofString (toString (Int.negSucc n))).cps.toList=_;rw[signs_ofString,bAy];show (String.append "-" (Nat.repr (n+1))).toList.map Char.toNat=_;rw[show String.append "-" (Nat.repr (n+1)) = "-"++Nat.repr (n+1) from rfl,String.toList_append,Nat.toList_repr,bAH];rfl
def bF6 (h:Vl v):rdV (shw v)=some v:=by
 rcases h with⟨i,rfl,f⟩|⟨x,rfl,hx,h8⟩
 ·cases i with
  |ofNat m=>
   have e:cs (shw (.int (Int.ofNat m)))=(Nat.toDigits 10 m).map Char.toNat:=PySem.W.KIN.signs_num m;have d:¬ ((Nat.toDigits 10 m).map Char.toNat).head?=some 45:=λz=>by have:=(vP m 45 (List.mem_of_mem_head? z)).1;lia
   unfold rdV aDw aMh;rw[e,if_neg d,if_neg d,if_pos (aLt (by simpa using f)),PySem.W.KIN.val_back];rfl
  |negSucc n=>
   have g:=aLt (by simpa [Int.natAbs] using f);have c:¬ (45::(Nat.toDigits 10 (n+1)).map Char.toNat=[45,48]):=λz=>by injection z with _ z;exact aI0 (n+1) (by lia) (by rw[z];rfl)
   unfold rdV aDw aMh;rw[show cs (shw (.int (Int.negSucc n)))=45::(Nat.toDigits 10 (n+1)).map Char.toNat from yW n];simp only[List.head?_cons,List.tail_cons,if_true,g,c,decide_false,Bool.not_false,bES,PySem.W.KIN.val_back];rfl
 ·have b:inn (cs (shw (.str x)))=cs x:=by rw[oH];show (cs x++[39]).dropLast=cs x;simp
  have a:aDw (cs (shw (.str x)))=false:=by rw[oH];unfold aDw xN;simp[isD]
  have j:aKd (cs (shw (.str x)))=true:=by
   unfold aKd;have l:(cs x).length<=8:=by rw[<-lF];exact h8
   have k:(39::(cs x++[39])).getLast?=some 39:=by rw[<-bBA,List.getLast?_append];rfl
   rw[b,aWj hx,v9 l,oH,k];simp
  unfold rdV;rw[a,j,b];simp
def aQ8 (h:Vl v):(shw v).length<=61:=by
 rcases h with⟨i,rfl,a⟩|⟨x,rfl,hx,h8⟩
 ·rw[lF];cases i with
  |ofNat m=>rw[show cs (shw (.int (Int.ofNat m)))=(Nat.toDigits 10 m).map Char.toNat from PySem.W.KIN.signs_num m,j5];have:=aBn 59 m (by simpa using a);lia
  |negSucc n=>rw[show cs (shw (.int (Int.negSucc n)))=45::(Nat.toDigits 10 (n+1)).map Char.toNat from yW n,d9,j5];have:=aBn 59 (n+1) (by simpa [Int.natAbs] using a);lia
 ·rw[lF,oH,d9,j6,<-lF,bBO];lia
end My
namespace PySem
end PySem
namespace L2
open PySem PySem.Spec PyProof.Rows
def aQ (i:Nat)(d:VE X e te)(c:X.N.Nodup:=by assumption)(f:X.N[i]?=some x:=by rfl)(a:Loc X.env.scope x:=by first|exact Or.inl rfl|exact Or.inr rfl)(hs:swapsWith e (some (.Name x pos')) pos.line X.env=pure false:=by rfl)(b:X.fn x=true\/X.env.scope.names.lookup x=some .local:=by first|exact .inl rfl|exact .inr rfl|assumption):VS X (.Assign [.Name x pos'] e pos) (vH te (cY i)):=bC7 c f a d hs b
def dZ (i:Nat)(c:X.N.Nodup:=by assumption)(d:X.N[i]?=some x:=by rfl)(a:Loc X.env.scope x:=by first|exact Or.inl rfl|exact Or.inr rfl)(b:X.fn x=true\/X.env.scope.names.lookup x=some .local:=by first|exact .inl rfl|exact .inr rfl|assumption):VG X (.Name x pos) (cY i):=aSa c d a b
def bY (G:Ok X.prog X.w X.K X.mg X.base k0 x ps sp)(d:VA X (e::es) t)(h:Room k X.A:=by assumption)(g:k0<=k:=by decide)(c:Gl X x:=by rfl)(a:(x == ("__debug__":Str))=false:=by decide)(f:eU e=true:=by rfl)(b:(backTo pos (starEach es X.env)).any (·.1)=false:=by rfl):VE X (.Call (.Name x p) (e::es) [] pos) (aC1 sp [] E0 t):=iR (G.mono g) h c d a f b
def bB4 (G:OkM X.prog X.w X.K X.mg X.base C k0 m ps sp)(g:VE X o ta)(b:VA X (e::es) t)(i:Room k X.A:=by assumption)(h:k0<=k:=by decide)(d:eU e=true:=by rfl)(a:(backTo pos (starEach es X.env)).any (·.1)=false:=by rfl)
  (c:eval (.Call (.Attribute o m apos) (e::es) [] pos) X.env=(do
   let ov <-eval o X.env
   standAt apos.atName
   let (f,first) <-holding [ov] (getMethod ov m pl)
   callWith pos f first (backTo pos (starEach (e::es) X.env)) (backToKw pos (keywordEach [] X.env))):=by rfl):VE X (.Call (.Attribute o m apos) (e::es) [] pos) (aGa C m sp [] E0 ta t):=qI (G.mono h) i g b d a c
def cR (c:IxR X r)(e:VE X a ta)(d:VE X b tb)(hs:aK2 b:=by exact λ_ _=>rfl):VE X (.Subscript a b pos) (tOp r ta tb):=bH8 c e d hs
def cU (c:OpR X (compareOp op) r)(f:VE X a ta)(d:VE X b tb)(e:behindInMarks op b=false:=by exact aXo _):VT X (.Compare a [op] [b] pos) (aM5 (tOp r ta tb)):=xD c f d e
def aDs (c:OpR X (compareOp op) r)(f:VE X a ta)(d:VE X b tb)(e:behindInMarks op b=false:=by exact aXo _):VE X (.Compare a [op] [b] pos) (tOp r ta tb):=wX c f d e
def va1 (a:VE X e te)(b:eU e=true:=by rfl):VA X [e] (eE te pP):=aG a jJ b
def bM (a:sc.kind=.function:=by rfl)(g:sc.isCoroutine=false:=by rfl)(d:sc.isGenerator=false:=by rfl)(c:N.Nodup:=by trivial)(f:N.take ps.length=ps:=by rfl)(e:∀x∈ps,sc.names.lookup x=some .local\/sc.names.lookup x=some .cell:=by trivial)(b:∀y∈sc.names,y.2≠.free:=by trivial):aM N ps sc:=⟨a,g,d,c,f,e,b⟩
def jW (i:Nat)(c:N.Nodup:=by trivial)(d:N[i]?=some x:=by rfl)(a:Loc (cxC X N scope cl s H fp).env.scope x:=by exact Or.inl rfl)(b:(cxC X N scope cl s H fp).fn x=true\/(cxC X N scope cl s H fp).env.scope.names.lookup x=some .local:=by first|exact .inl rfl|exact .inr rfl|assumption):VG (cxC X N scope cl s H fp) (.Name x pos) (cY i):=aSa c d a b
def ck (a:∀y∈scope.names,y.2≠.cell:=by trivial)(c:scope.kind=.function:=by rfl)(b:∀y∈scope.names,y.2=.local->scope.names.lookup y.1=some .local:=by trivial)(d:∀y∈scope.names,y.2=.free->scope.names.lookup y.1=some .free:=by trivial):yM scope N:=⟨a,c,b,d⟩
end L2
namespace My
open PySem PySem.Spec PyProof.Rows L2
def sz0:0<=sizeLine:=by decide
def sz1:1<=sizeLine:=by decide
def sz2:2<=sizeLine:=by decide
def sz3:3<=sizeLine:=by decide
def sz4:4<=sizeLine:=by decide
def sz5:5<=sizeLine:=by decide
def sz6:6<=sizeLine:=by decide
def sz8:8<=sizeLine:=by decide
def top (i:Nat):Stmt:=PySem.Challenge.pw_shardask_k72_no_words.main.body.getD i (.Pass ⟨0,0,0,0⟩)
abbrev aFl:Stmt:=top 8
abbrev aHz:Stmt:=top 9
abbrev aDp:Stmt:=top 10
abbrev rG:Stmt:=top 11
abbrev aIx:Stmt:=top 12
abbrev aEo:Stmt:=top 13
abbrev aFv:Stmt:=top 25
abbrev aHq:Stmt:=top 26
abbrev aH8:Stmt:=top 27
abbrev aMm:Stmt:=top 28
abbrev aL7:Stmt:=top 29
abbrev aHr:Stmt:=top 30
abbrev aCw:Stmt:=top 31
abbrev aCy:Stmt:=top 32
abbrev qM:Stmt:=top 33
abbrev aDf:Stmt:=top 34
abbrev aEw:Stmt:=top 35
abbrev aGp:Stmt:=top 36
abbrev pX:Stmt:=top 37
abbrev aE3:Stmt:=top 39
abbrev wA:Stmt:=top 40
abbrev aEp:Stmt:=top 41
abbrev aH0:Stmt:=top 42
abbrev xR:Stmt:=top 46
abbrev sH:Stmt:=top 47
abbrev wK:Stmt:=top 48
abbrev aBk:Stmt:=top 49
abbrev jB:Stmt:=classAt (top 50) 0
abbrev rO:Stmt:=classAt (top 50) 1
abbrev nY:Stmt:=classAt (top 50) 2
abbrev nZ:Stmt:=classAt (top 50) 3
abbrev mG:Stmt:=classAt (top 50) 4
abbrev mL:Stmt:=classAt (top 50) 5
abbrev rA:Stmt:=classAt (top 50) 6
abbrev nP:Stmt:=classAt (top 50) 7
abbrev jC:Stmt:=classAt (top 50) 8
abbrev aAo:Stmt:=top 51
abbrev aDi:Stmt:=top 52
abbrev aCv:Stmt:=top 53
abbrev aFb:Stmt:=top 54
abbrev aFk:Stmt:=top 55
abbrev vB:Stmt:=top 56
abbrev xU:Stmt:=top 57
abbrev aC4:Stmt:=top 58
abbrev aDk:Stmt:=top 59
abbrev xY:Stmt:=top 60
abbrev iH:Stmt:=top 61
abbrev aCt:Stmt:=top 63
abbrev aDm:Stmt:=top 64
abbrev aAq:Stmt:=top 65
abbrev uH:Stmt:=top 66
abbrev aBf:Stmt:=top 67
abbrev aA9:Stmt:=top 68
abbrev aC5:Stmt:=top 69
abbrev uI:Stmt:=top 70
abbrev vU:Stmt:=top 71
abbrev aC0:Stmt:=top 72
abbrev tM:Stmt:=top 73
abbrev uY:Stmt:=top 74
abbrev nO:Stmt:=top 75
abbrev qG:Stmt:=top 76
abbrev jR:Stmt:=top 77
abbrev oU:Stmt:=top 78
abbrev qL:Stmt:=top 79
abbrev qJ:Stmt:=top 80
abbrev aAa:Stmt:=top 81
abbrev aDe:Stmt:=top 82
abbrev rW:Stmt:=top 83
abbrev yD:Stmt:=top 84
abbrev vG:Stmt:=top 85
abbrev yI:Stmt:=top 86
abbrev aVj:Stmt:=top 87
abbrev gQ:Stmt:=inClass (top 1) 0
inductive Exn where
 |ques|words
 deriving DecidableEq
def Exn.nm:Exn->Str
 |.ques=>"NoQuestion"
 |.words=>"NoWords"
structure Txt (w:World)(K:bFQ)(mg:bFT):Prop where
 aAp:mg "ValueError"=none
 aRk:mg "all"=none
 bGk:mg "any"=none
 bEp:mg "bool"=none
 bD9:mg "dict"=none
 aNf:mg "enumerate"=none
 aHp:mg "int"=none
 bZ:mg "isinstance"=none
 fX:mg "len"=none
 aWt:mg "list"=none
 bHh:mg "min"=none
 lG:mg "range"=none
 aYp:mg "sorted"=none
 aCz:mg "str"=none
 cW:mg "tuple"=none
 bHn:mg "zip"=none
 lQ:∃a,mg "QUESTION_WORDS"=some (.ref a)/\∀H,SqT K H a [.str "and",.str "by",.str "count",.str "down",.str "first",.str "group",.str "join",.str "keep",.str "least",.str "most",.str "named",.str "on",.str "sum",.str "table",.str "up",.str "where",.str "with"]
 aUn:∃u,mg "LETTERS"=some u/\RelV (.str "abcdefghijklmnopqrstuvwxyz") u
 aF9:∃u,mg "MOST_LETTERS"=some u/\RelV (.int 8) u
 aJn:∃a,mg "SIGNS"=some (.ref a)/\∀H,SqT K H a [.str "=",.str "<",.str ">",.str "!"]
 vL:∃a,mg "SUM_WORDS"=some (.ref a)/\∀H,SqT K H a [.str "count",.str "sum",.str "least",.str "most"]
 aQ1:∃a,mg "WAYS"=some (.ref a)/\∀H,SqT K H a [.str "up",.str "down"]
 aKz:∃u,mg "MOST_TESTS"=some u/\RelV (.int 3) u
 aBj:∃u,mg "MOST_NAMES"=some u/\RelV (.int 8) u
 aKu:∃u,mg "MOST_PAIRS"=some u/\RelV (.int 3) u
 aLw:∃u,mg "MOST_SUMS"=some u/\RelV (.int 4) u
 aLm:∃u,mg "MOST_KEYS"=some u/\RelV (.int 3) u
 aN7:∃u,mg "MOST_ROWS"=some u/\RelV (.int 60) u
 qN:∃u,mg "MOST_SIZE"=some u/\RelV (.int 20) u
 aD3:∃d t0 t1 t2 t3 t4 t5 t6:Addr,mg "FORMS"=some (.ref d)/\aWp w K d [("table",t0),("where",t1),("keep",t2),("named",t3),("join",t4),("group",t5),("first",t6)]/\(∃f0:Addr,(∀H,SqT K H t0 [.ref f0])/\mg "is_name"=some (.ref f0))/\(∃f0 f1:Addr,(∀H,SqT K H t1 [.ref f0,.ref f1])/\mg "may_be_question"=some (.ref f0)/\mg "are_tests"=some (.ref f1))/\(∃f0 f1:Addr,(∀H,SqT K H t2 [.ref f0,.ref f1])/\mg "may_be_question"=some (.ref f0)/\mg "are_names"=some (.ref f1))/\(∃f0 f1:Addr,(∀H,SqT K H t3 [.ref f0,.ref f1])/\mg "may_be_question"=some (.ref f0)/\mg "are_names"=some (.ref f1))/\(∃f0 f1 f2:Addr,(∀H,SqT K H t4 [.ref f0,.ref f1,.ref f2])/\mg "may_be_question"=some (.ref f0)/\mg "may_be_question"=some (.ref f1)/\mg "are_pairs"=some (.ref f2))/\(∃f0 f1 f2:Addr,(∀H,SqT K H t5 [.ref f0,.ref f1,.ref f2])/\mg "may_be_question"=some (.ref f0)/\mg "are_group_names"=some (.ref f1)/\mg "are_sums"=some (.ref f2))/\(∃f0 f1 f2:Addr,(∀H,SqT K H t6 [.ref f0,.ref f1,.ref f2])/\mg "may_be_question"=some (.ref f0)/\mg "are_keys"=some (.ref f1)/\mg "is_many"=some (.ref f2))
 aTu:∃u,mg "FIGURES"=some u/\RelV (.str "0123456789") u
 aGk:∃u,mg "MOST_FIGURES"=some u/\RelV (.int 60) u
 aO8:Dn K mg "is_whole" aFl f9
 aTi:Dn K mg "is_word" aHz f9
 aMr:Dn K mg "is_one_of" aDp bQE
 aHh:Dn K mg "is_tuple_of" rG n6
 aTe:Dn K mg "is_name" aIx f9
 aOv:Dn K mg "is_value" aEo f9
 aPt:Dn K mg "is_other" aFv f9
 aTo:Dn K mg "is_test" aHq f9
 aS6:Dn K mg "is_pair" aH8 f9
 aV3:Dn K mg "is_sum" aMm f9
 aVi:Dn K mg "is_key" aL7 f9
 aUc:Dn K mg "is_many" aHr f9
 aNv:Dn K mg "are_tests" aCw f9
 aMz:Dn K mg "are_names" aCy f9
 aAn:Dn K mg "are_group_names" qM f9
 aMn:Dn K mg "are_pairs" aDf f9
 aOt:Dn K mg "are_sums" aEw f9
 aPz:Dn K mg "are_keys" aGp f9
 aA8:Dn K mg "may_be_question" pX f9
 aQp:Dn K mg "has_form" aE3 f9
 aEs:Dn K mg "questions_in" wA bQJ
 aO1:Dn K mg "own_size" aEp bQJ
 aT4:Dn K mg "checked" aH0 f9
 aHb:Dn K mg "are_figures" xR bQD
 aBw:Dn K mg "is_number_text" sH bQD
 aFw:Dn K mg "is_word_text" wK bQD
 aKk:Dn K mg "read_value" aBk bQG
 aA7:Dn K mg "read_other" aAo bQG
 aC7:Dn K mg "read_test" aDi u9
 aCs:Dn K mg "read_pair" aCv u9
 aEr:Dn K mg "read_sum" aFb u9
 aF0:Dn K mg "read_key" aFk u9
 vO:Dn K mg "one_and_more" vB v5
 yL:Dn K mg "each_behind" xU o4
 aC2:Dn K mg "read_join" aC4 n7
 wD:Dn K mg "read_step" aDk n7
 mH:Dn K mg "read_within" xY bQC
 aDt:Dn K mg "read_question" iH bQD
 aLo:Dn K mg "_law_seed" aCt bQK
 aLy:Dn K mg "_law_next" aDm m7
 aK1:Dn K mg "_law_words" aAq []
 aKe:Dn K mg "_law_names" uH m7
 aKf:Dn K mg "_law_great" aBf ["_law_state"]
 aKt:Dn K mg "_law_value" aA9 bQL
 aOh:Dn K mg "_law_head" aC5 bQI
 aJ0:Dn K mg "_law_tests" uI o9
 aN0:Dn K mg "_law_some" vU o8
 aMo:Dn K mg "_law_sums" aC0 bQB
 aKs:Dn K mg "_law_group" tM o5
 aNh:Dn K mg "_law_keys" uY o9
 aJb:Dn K mg "_law_fresh" nO o6
 aNr:Dn K mg "_law_join" qG m8
 uK:Dn K mg "_law_question" jR z8
 yX:Dn K mg "_law_shown_value" oU bQN
 aAt:Dn K mg "_law_shown_test" qL ["_law_test"]
 zW:Dn K mg "_law_shown_sums" qJ bQS
 aAi:Dn K mg "_law_shown" aAa bQP
 aN6:Dn K mg "_law_read" aDe ["_law_text"]
 aCo:Dn K mg "_law_odd_words" rW []
 aG1:Dn K mg "_law_behind" yD bQF
 aLr:Dn K mg "_law_none" vG bQF
 aGt:Dn K mg "_law_spoilt" yI bQM
 bG9:Dn K mg "law" aVj bQK
 bAw:∃C,aWu K mg "Words" C/\lN K C "__init__" "Words.__init__" jB ["self","text"]/\lN K C "ahead" "Words.ahead" rO ["self"]/\lN K C "word" "Words.word" nY ["self"]/\lN K C "name" "Words.name" nZ ["self"]/\lN K C "names" "Words.names" mG ["self"]/\lN K C "value" "Words.value" mL ["self"]/\lN K C "takes" "Words.takes" rA ["self","word"]/\lN K C "need" "Words.need" nP ["self","word"]/\lN K C "need_end" "Words.need_end" jC ["self"]/\iQ K C "words"/\iQ K C "taken_count"
 aS7:∃(S:Addr) (ad:Exn->Addr),mg "ShardError"=some (.ref S)/\XS K S/\(∀c,ExT K mg gQ c.nm "ShardError.__init__" (ad c) S)/\(∀c d,PySem.W.mroIn K (ad c) (.ref (ad d))=some (decide (c=d)))/\∀c,PySem.W.mroIn K (ad c) (.type "ValueError")=some true
 bIp:∀C,mg "NoWords"=some (.ref C)->C=cxA
 bJc:∀C,mg "NoQuestion"=some (.ref C)->C≠cxA
def iG:aM bQA bQA (aC gQ):=bM
abbrev abc:Str:="abcdefghijklmnopqrstuvwxyz"
abbrev words:List V:=[.str "and",.str "by",.str "count",.str "down",.str "first",.str "group",.str "join",.str "keep",.str "least",.str "most",.str "named",.str "on",.str "sum",.str "table",.str "up",.str "where",.str "with"]
def big (h:n<=100000):n<=sizeLine:=bAF h (by decide)
def Th (K:bFQ)(H:Hp)(v:V):Prop:=(∃x,v=.str x/\x.length<=100000)\/(∃i,v=.int i)\/(∃b,v=.bl b)\/∃k,Rk K H v k
def Th.same {K:bFQ}{H H':Hp}{v:V}(e:Same H H')(h:Th K H v):Th K H' v:=by
 rcases h with h|h|h|⟨k,h⟩
 ·exact .inl h
 ·exact .inr (.inl h)
 ·exact .inr (.inr (.inl h))
 ·exact .inr (.inr (.inr ⟨k,h.same e⟩))
def aX3:V->String->Bool
 |.int _,T=>T == "int"
 |.str _,T=>T == "str"
 |.bl _,T=>T == "int" || T == "bool"
 |_,_=>false
def isS:V->Bool
 |.str _=>true
 |_=>false
def whole:V->Bool
 |.int _=>true
 |_=>false
def qX {K:bFQ}{H:Hp}{v:V}{T:String}{Q:VK}(c:Th K H v)(a:T = "int"\/T = "bool"\/T = "str")(q:Q (.bl (aX3 v T)) H):bGr [v,.ty T] H Q\/bCn K [v,.ty T] H Q:=by
 rcases c with⟨x,rfl,_⟩|⟨i,rfl⟩|⟨b,rfl⟩|⟨k,h⟩
 ·refine .inl ⟨_,_,_,rfl,?_,q⟩;rcases a with rfl|rfl|rfl <;> simp[aPq,aX3]
 ·refine .inl ⟨_,_,_,rfl,?_,q⟩;rcases a with rfl|rfl|rfl <;> simp[aPq,aX3]
 ·refine .inl ⟨_,_,_,rfl,?_,q⟩;rcases a with rfl|rfl|rfl <;> simp[aPq,aX3]
 ·refine .inr ⟨_,_,_,rfl,h,a,?_⟩;cases h <;> exact q
def inA (y:Str):Bool:=!(Builtin.Str.occurrences abc y 0 abc.length 1).isEmpty
def allIn (x:Str):Bool:=((List.range x.cps.size).map λi=>inA (sgn x i)).all id
def lO (l:Nat):V->Bool
 |.str x=>decide (l<=x.length) && (decide (x.length<=8) && allIn x)
 |_=>false
def nameB (v:V):Bool:=lO 1 v && !inV v words
def aOf (v:V):Bool:=whole v || lO 0 v
def aAr (K:bFQ):Sp:=λvs H Q _=>∃v,vs=[v]/\Th K H v/\Q (.bl (whole v)) H
def pM (K:bFQ)(f:V->Bool):Sp:=λvs H Q _=>∃v,vs=[v]/\Th K H v/\∀H',Same H H'->Q (.bl (f v)) H'
inductive aJr (K:bFQ)(vs:List V)(H:Hp)(Q:VK)(E_:XK):Prop
 |mk (a:Addr) (ns:List Int) (_:vs=[.ref a]) (_:SqL K H a (ns.map V.int)) (_:ns.length<=63) (_:∀H',Q (.bl true) H')
def aTn {K:bFQ}{H:Hp}{a:Addr}{ns:List Int}(h:ns.length<=63)(b:SqL K H a (ns.map V.int)):aJr K [.ref a] H (λv _=>v=.bl true) λ_ _ _=>False:=
 ⟨a,ns,rfl,b,h,λ_=>rfl⟩
def aNb:aM f9 f9 (aC aFl):=bM
def aPj:aM f9 f9 (aC aHz):=bM
def aKv:aM bQE bQE (aC aDp):=bM
def aGd:aM n6 n6 (aC rG):=bM
def aQt:aM f9 f9 (aC aIx):=bM
def aL5:aM f9 f9 (aC aEo):=bM
def aNg:aM f9 f9 (aC aFv):=bM
def aPu:aM f9 f9 (aC aHq):=bM
def aPi:aM f9 f9 (aC aH8):=bM
def aT6:aM f9 f9 (aC aMm):=bM
def aSz:aM f9 f9 (aC aL7):=bM
def aP4:aM f9 f9 (aC aHr):=bM
def aJk:aM f9 f9 (aC aCw):=bM
def aLk:aM f9 f9 (aC aCy):=bM
def zA:aM f9 f9 (aC qM):=bM
def aKp:aM f9 f9 (aC aDf):=bM
def aNn:aM f9 f9 (aC aEw):=bM
def aNy:aM f9 f9 (aC aGp):=bM
def zK:aM f9 f9 (aC pX):=bM
def aC8:aM ["thing","form"] f9 (aC aE3):=bM
def aDu:aM bQJ bQJ (aC wA):=bM
def aNl:aM bQJ bQJ (aC aEp):=bM
def aFo:aM ["thing","size","waiting","part"] f9 (aC aH0):=bM
def aFq:aM bQD bQD (aC xR):=bM
def aAg:aM bQD bQD (aC sH):=bM
def aDy:aM bQD bQD (aC wK):=bM
def aHa:aM bQG bQG (aC aBk):=bM
def qQ:aM bQH bQH (aC jB):=bM
def aEm:aM m5 m5 (aC rO):=bM
def mD:aM ["self","told"] m5 (aC nY):=bM
def mO:aM ["self","told"] m5 (aC nZ):=bM
def lK:aM ["self","told"] m5 (aC mG):=bM
def uX:aM m5 m5 (aC mL):=bM
def aEx:aM o7 o7 (aC rA):=bM
def xZ:aM o7 o7 (aC nP):=bM
def qO:aM m5 m5 (aC jC):=bM
def xW:aM bQG bQG (aC aAo):=bM
def zZ:aM u9 u9 (aC aDi):=bM
def aAf:aM u9 u9 (aC aCv):=bM
def qH:aM ["words","word","column"] u9 (aC aFb):=bM
def aDg:aM u9 u9 (aC aFk):=bM
def jU:aM ["words","read_one","told"] v5 (aC vB):=bM
def lM:aM ["words","word","read_one","told"] o4 (aC xU):=bM
def oF:aM ["words","question","depth","other"] n7 (aC aC4):=bM
def kZ:aM ["words","question","depth","sort","names","many"] n7 (aC aDk):=bM
def fM:aM ["words","depth","question"] bQC (aC xY):=bM
def jE:aM bQQ bQD (aC iH):=bM
def aAe:aM ["_law_script","_law_seed_here","_law_k","_law_cell"] bQK (aC aCt):=bM
def aKw:aM m7 m7 (aC aDm):=bM
def xO:aM ["_law_words_here"] [] (aC aAq):=bM
def xX:aM ["_law_state","_law_many","_law_small","_law_odd","_law_base","_law_k","_law_at","_law_names_here"] m7 (aC uH):=bM
def yE:aM ["_law_state","_law_number","_law_k"] ["_law_state"] (aC aBf):=bM
def xT:aM ["_law_state","_law_kind","_law_way","_law_word","_law_k"] bQL (aC aA9):=bM
def aAv:aM ["_law_state","_law_names_here","_law_start","_law_head_here","_law_k","_law_kind"] bQI (aC aC5):=bM
def rC:aM ["_law_state","_law_head_here","_law_tests_here","_law_k","_law_name","_law_kind","_law_other","_law_alike"] o9 (aC uI):=bM
def tO:aM ["_law_state","_law_head_here","_law_least","_law_some_here"] o8 (aC vU):=bM
def aBi:aM ["_law_state","_law_head_here","_law_fresh_here","_law_sums_here","_law_k","_law_name","_law_kind","_law_many","_law_word"] bQB (aC aC0):=bM
def rD:aM ["_law_state","_law_question_here","_law_head_here","_law_names_here","_law_got","_law_some_here","_law_fresh_here","_law_sums_here","_law_word","_law_name","_law_new","_law_kind"] o5 (aC tM):=bM
def aBg:aM ["_law_state","_law_head_here","_law_some_here"] o9 (aC uY):=bM
def rK:aM ["_law_question_here","_law_head_here","_law_own","_law_names_here","_law_used","_law_fresh_here","_law_got"] o6 (aC nO):=bM
def aAj:aM ["_law_state","_law_question_here","_law_head_here","_law_other","_law_other_head","_law_names_here","_law_pairs","_law_c","_law_kind","_law_pair","_law_left"] m8 (aC qG):=bM
def jD:aM ["_law_state","_law_heads","_law_names_here","_law_deep","_law_name","_law_way","_law_question_here","_law_head_here","_law_some_here","_law_turn","_law_fresh_here","_law_got","_law_other","_law_other_head"] z8 (aC jR):=bM
def xM:aM bQN bQN (aC oU):=bM
def oV:aM ["_law_test","_law_name","_law_sign","_law_other"] ["_law_test"] (aC qL):=bM
def oM:aM ["_law_sums_here","_law_text","_law_word","_law_name","_law_new"] bQS (aC qJ):=bM
def rH:aM ["_law_question_here","_law_sort","_law_text","_law_pairs","_law_name","_law_way"] bQP (aC aAa):=bM
def tY:aM ["_law_text","_law_kinds","_law_found","e"] ["_law_text"] (aC aDe):=bM
def pW:aM ["_law_some_here"] [] (aC rW):=bM
def vA:aM ["_law_t","_law_c","_law_some_here"] bQF (aC yD):=bM
def aA0:aM ["_law_t","_law_c","_law_some_here"] bQF (aC vG):=bM
def vW:aM ["_law_state","_law_text","_law_words_here","_law_at","_law_odd","_law_way","_law_spot"] bQM (aC yI):=bM
def aYr:aM ["_law_script","_law_state","_law_names_here","_law_heads","_law_k","_law_question_here","_law_text","_law_bad","_law_kinds","_law_found","_law_deep","_law_thing"] bQK (aC aVj):=bM
section
variable {P:Program}{w:World}{K:bFQ}{mg:bFT}{base:Heap}
def aM6 (T:!Txt):!Ok 1 "is_whole" f9 (aAr K):=by
 refine Ok.ofV T.aO8 aNb (by trivial) (λf d A c s H g Q E e h=>?_)
 obtain⟨v,rfl,a,q⟩:=h;refine⟨_,(aB (aK (lX (aU (mR.or kY) (by rfl) T.bZ bR (aG (vv 0) (va1 (gR (v:=.ty "int") (by rfl) T.aHp aBz rfl)))) (pJ (bFo (aU (mR.or kY) (by rfl) T.bZ bR (aG (vv 0) (va1 (gR (v:=.ty "bool") (by rfl) T.bEp bBt rfl))))))))),?_⟩;refine⟨_,rfl,qX a (.inl rfl) ⟨_,rfl,?_⟩⟩;rcases id a with⟨x,rfl,_⟩|⟨i,rfl⟩|⟨b,rfl⟩|⟨k,h⟩
 ·exact aZ q
 ·exact bV ⟨_,rfl,qX a (.inr (.inl rfl)) ⟨_,rfl,q⟩⟩
 ·exact bV ⟨_,rfl,qX a (.inr (.inl rfl)) ⟨_,rfl,q⟩⟩
 ·cases h <;> exact aZ q
def aYv (x:Str):(((List.range x.cps.size).map λi=>V.str (sgn x i)).map λv=>match v with|.str y=>V.bl (inA y)|_=>.bl false)=(((List.range x.cps.size).map λi=>inA (sgn x i)).map V.bl):=by rw[bAZ,bAZ];rfl
def aO0 (T:!Txt):!Ok 1 "is_word" f9 (pM K (lO 0)):=by
 refine Ok.ofV T.aTi aPj (by trivial) (λf u A a s H G Q E M h=>?_)
 obtain⟨v,rfl,j,q⟩:=h;refine⟨_,(aA (bH (VW.pt (uQ (fY (dB (aU (mR.or kY) (by rfl) T.bZ bR (aG (vv 0) (va1 (gR (v:=.ty "str") (by rfl) T.aCz vK rfl)))))) (pA (cU aN8 (aU lB (by rfl) T.fX dJ (va1 (vv 0))) (dX (by rfl) T.aF9))))) (aB (aK iT)) aP) (aB (aK (aU (zX rfl) (by rfl) T.aRk aJw (va1 (gM (N:=["sign"]) ck lA rfl (aX4 (vv 0)) (λJ I B C=>⟨(jW 0),jK,(wX aIq (vv 0) (dX (by rfl) T.aUn) (by with_unfolding_all rfl))⟩))))))),?_⟩;refine⟨_,rfl,qX j (.inr (.inr rfl)) ⟨_,rfl,?_⟩⟩;have d:isS v=false->Q (.bl false) H:=λe=>by
  have z:lO 0 v=false:=by cases v <;> first|rfl|cases e
  rw[<-z];exact q H (Same.refl H)
 rcases id j with⟨x,rfl,m⟩|⟨i,rfl⟩|⟨b,rfl⟩|⟨k,h⟩
 ·refine aZ ⟨_,rfl,_,rfl,big m,_,_,rfl,rfl,_,rfl,?_⟩;refine qY (λc=>?_) (λc=>?_)
  ·have o:(8:Int)<x.length:=of_decide_eq_true c;have z:lO 0 (.str x)=false:=by show (decide (0<=x.length) && (decide (x.length<=8) && allIn x))=false;rw[m9 (p:=x.length<=8) (by lia)];simp
   rw[<-z];exact q H (Same.refl H)
  ·have o:¬ (8:Int)<x.length:=of_decide_eq_false (Bool.eq_false_iff.mpr c);dsimp only[aDd,aHf,tCB,eE];refine aHu ((List.range x.cps.size).map λi=>V.str (sgn x i)) (λv=>match v with|.str y=>V.bl (inA y)|_=>.bl false) [none] aB7 ?_
    (λR r=>aV2 (z:=x) (λF t=>⟨_,rfl,t⟩) R r) (λv g B R l L r=>?_) rfl λD n=>?_
   ·rw[j5,bAN];exact big m
   ·obtain⟨i,_,rfl⟩:=List.mem_map.mp g;exact⟨_,rfl,_,_,rfl,rfl,r⟩
   ·refine⟨D,(List.range x.cps.size).map λi=>inA (sgn x i),rfl,SqL.of (by rw[aJ,aYv]),?_⟩;have z:lO 0 (.str x)=allIn x:=by show (decide (0<=x.length) && (decide (x.length<=8) && allIn x))=allIn x;rw[v9 (p:=x.length<=8) (by lia)];simp
    show Q (.bl (allIn x)) _;rw[<-z];exact q _ (cF n _)
 ·exact bV (d rfl)
 ·exact bV (d rfl)
 ·cases h <;> exact bV (d rfl)
def tU (h:lO l v=true):∃x,v=.str x/\l<=x.length/\x.length<=8/\allIn x=true:=by
 cases v with
 |str x=>have h:(decide (l<=x.length) && (decide (x.length<=8) && allIn x))=true:=h;rw[w6,w6] at h;exact⟨x,rfl,of_decide_eq_true h.1,of_decide_eq_true h.2.1,h.2.2⟩
 |_=>cases h
def aHn:x=("":Str)↔x.length=0:=by
 constructor
 ·rintro rfl;decide +kernel
 ·intro h;obtain⟨a⟩:=x;have h:a.size=0:=h;rw[Array.size_eq_zero_iff] at h;subst h;decide +kernel
def aGm:words.all kO=true:=rfl
def aOu (T:!Txt)(C:!Ok 1 "is_word" f9 (pM K (lO 0))):!Ok 2 "is_name" f9 (pM K nameB):=by
 refine Ok.ofV T.aTe aQt (by trivial) (λf B A i s H D Q E G h=>?_)
 obtain⟨v,rfl,m,q⟩:=h;obtain⟨l,n,b⟩:=T.lQ;have o:∃u,mg "QUESTION_WORDS"=some u/\RelV (.ref l) u:=⟨_,n,rfl⟩;refine⟨_,(aB (aK (lX (bY C (va1 (vv 0))) (lX (aDs oX (vv 0) aF) (pJ (wX aAw (vv 0) (dX (by rfl) o) (by with_unfolding_all rfl))))))),?_⟩;refine⟨_,rfl,_,rfl,m,λa g=>⟨_,rfl,?_⟩⟩;refine qY (λc=>?_) (λc=>?_)
 ·obtain⟨x,rfl,_,k,j⟩:=tU c;refine⟨_,rfl,rfl,_,rfl,?_⟩;by_cases e:x.length=0
  ·have y:=aHn.mpr e;subst y;refine aZ ?_;have z:nameB (.str "")=false:=by trivial
   rw[<-z];exact q a g
  ·have r:¬ (V.str x=V.str ""):=λz=>e (aHn.mp (V.str.inj z));have t:(!decide (V.str x=V.str ""))=true:=by rw[m9 r];rfl
   rw[t];refine bV ⟨_,rfl,l,words,rfl,.inr (b _),rfl,aGm,?_⟩;have z:nameB (.str x)=!inV (.str x) words:=by show ((decide (1<=x.length) && (decide (x.length<=8) && allIn x)) && !inV (.str x) words)=!inV (.str x) words;rw[v9 (p:=1<=x.length) (by lia),v9 k,j];rfl
   show Q (.bl (!inV (.str x) words)) a;rw[<-z];exact q a g
 ·have z:nameB v=false:=by
   show (lO 1 v && !inV v words)=false;cases d:lO 1 v with
   |false=>rfl
   |true=>obtain⟨x,rfl,F,k,j⟩:=tU d;refine absurd ?_ c;show (decide (0<=x.length) && (decide (x.length<=8) && allIn x))=true;rw[v9 k,j,v9 (bAK _)];rfl
  rw[<-z];exact q a g
def aLx (T:!Txt)(k:!Ok 1 "is_whole" f9 (aAr K))(i:!Ok 1 "is_word" f9 (pM K (lO 0))) :
  !Ok 2 "is_value" f9 (pM K aOf):=by
 refine Ok.ofV T.aOv aL5 (by trivial) (λf g A a s H l Q E j h=>?_)
 obtain⟨v,rfl,c,q⟩:=h;refine⟨_,(aB (aK (bCl (bY k (va1 (vv 0))) (pJ (bY i (va1 (vv 0))))))),?_⟩;refine⟨_,rfl,_,rfl,c,_,rfl,?_⟩;cases b:whole v with
 |true=>
  refine bV ?_;have z:aOf v=true:=by show (whole v || lO 0 v)=true;rw[b];rfl
  rw[<-z];exact q H (Same.refl H)
 |false=>
  refine aZ ⟨_,rfl,_,rfl,c,λd e=>?_⟩;have z:aOf v=lO 0 v:=by show (whole v || lO 0 v)=lO 0 v;rw[b];rfl
  rw[<-z];exact q d e
def at0 (x:V)(r:List V):atI (x::r) 0=some x:=by unfold atI ixN;simp
def at1 (x y:V)(r:List V):atI (x::y::r) 1=some y:=by unfold atI ixN;simp only[d9];rw[if_pos (by lia),if_pos (by lia)];rfl
def jG (R:Hp->V->Bool->Prop):Sp:=λvs H Q _=>∃v b,vs=[v]/\R H v b/\∀H',Same H H'->Q (.bl b) H'
def aCa (K:bFQ):Sp:=λvs H Q _=>∃v a xs,vs=[v,.ref a]/\Th K H v/\SqT K H a xs/\xs.all kO=true/\Q (.bl (isS v && inV v xs)) H
def aKj (T:!Txt):!Ok 1 "is_one_of" bQE (aCa K):=by
 refine Ok.ofV T.aMr aKv (by trivial) (λf l A c s H n Q E m h=>?_)
 obtain⟨v,a,j,rfl,d,g,e,q⟩:=h;refine⟨_,(aB (aK (lX (aU (mR.or kY) (by rfl) T.bZ bR (aG (vv 0) (va1 (gR (v:=.ty "str") (by rfl) T.aCz vK rfl)))) (pJ (wX tE (vv 0) (vv 1) (by with_unfolding_all rfl)))))),?_⟩;refine⟨_,rfl,qX d (.inr (.inr rfl)) ⟨_,rfl,?_⟩⟩;rcases id d with⟨x,rfl,_⟩|⟨i,rfl⟩|⟨b,rfl⟩|⟨k,h⟩
 ·exact bV ⟨_,rfl,_,rfl,a,j,rfl,.inr g,rfl,e,q⟩
 ·exact aZ q
 ·exact aZ q
 ·cases h <;> exact aZ q
def Vl.th (h:Vl v):Th K H v:=by
 rcases h with⟨i,rfl,_⟩|⟨x,rfl,_,h⟩
 ·exact .inr (.inl ⟨i,rfl⟩)
 ·exact .inl ⟨x,rfl,by lia⟩
def at2 (x y z:V)(r:List V):atI (x::y::z::r) 2=some z:=by unfold atI ixN;simp only[d9];rw[if_pos (by lia),if_pos (by lia)];rfl
def bFu (h:x.length<=8):Th K H (.str x):=.inl ⟨x,rfl,by lia⟩
def Nm (x:Str):Prop:=nameB (.str x)=true
def fJ (h:nameB (.str x)=true):x.length<=8:=by have h:(lO 1 (.str x) && !inV (.str x) words)=true:=h;rw[w6] at h;obtain⟨y,e,_,a,_⟩:=tU h.1;cases e;exact a
def Nm.th (h:Nm x):Th K H (.str x):=bFu (fJ h)
abbrev signs:List V:=[.str "=",.str "<",.str ">",.str "!"]
abbrev iW:List V:=[.str "count",.str "sum",.str "least",.str "most"]
abbrev xV:List V:=[.str "up",.str "down"]
inductive Oth where
 |val (x:V)
 |col (d:Str)
structure Tst where
 c:Str
 sg:Str
 o:Oth
structure Sm where
 wd:Str
 c:Option Str
 new:Str
def IsO (K:bFQ)(H:Hp)(v:V):Oth->Prop
 |.val x=>∃a,v=.ref a/\SqT K H a [.str "value",x]/\Th K H x/\Vl x
 |.col d=>∃a,v=.ref a/\SqT K H a [.str "column",.str d]/\Nm d
def bBa (x:Str):Prop:=x = "="\/x = "<"\/x = ">"\/x = "!"
def IsT (K:bFQ)(H:Hp)(v:V)(t:Tst):Prop:=∃a w,v=.ref a/\SqT K H a [.str t.c,.str t.sg,w]/\Nm t.c/\bBa t.sg/\IsO K H w t.o
def rB (K:bFQ)(H:Hp)(v:V)(p:Str × Str):Prop:=∃a,v=.ref a/\SqT K H a [.str p.1,.str p.2]/\Nm p.1/\Nm p.2
def qZ (K:bFQ)(H:Hp)(v:V)(p:Str × Str):Prop:=∃a,v=.ref a/\SqT K H a [.str p.1,.str p.2]/\Nm p.1/\(p.2 = "up"\/p.2 = "down")
def bDy (x:Str):Prop:=x = "sum"\/x = "least"\/x = "most"
def nU (K:bFQ)(H:Hp)(v:V)(s:Sm):Prop:=∃a,v=.ref a/\Nm s.new/\((s.wd = "count"/\s.c=none/\SqT K H a [.str "count",.non,.str s.new])\/(∃c,s.c=some c/\Nm c/\bDy s.wd/\SqT K H a [.str s.wd,.str c,.str s.new]))
def IsN (v:V)(x:Str):Prop:=v=.str x/\Nm x
inductive cN {α β:Type}(R:α->β->Prop):List α->List β->Prop
 |nil:cN R [] []
 |cons {a b as bs}:R a b->cN R as bs->cN R (a::as) (b::bs)
def cN.len {α β:Type}{R:α->β->Prop}{as:List α}{bs:List β}(h:cN R as bs):as.length=bs.length:=by
 induction h with
 |nil=>rfl
 |cons _ _ ih=>rw[d9,d9,ih]
def cN.imp {α β:Type}{R S:α->β->Prop}{as:List α}{bs:List β}(h:cN R as bs)(k:∀a b,R a b->S a b):cN S as bs:=by
 induction h with
 |nil=>exact .nil
 |cons r _ ih=>exact .cons (k _ _ r) ih
def cN.mem {α β:Type}{R:α->β->Prop}{as:List α}{bs:List β}(h:cN R as bs){a:α}(m:a∈as):∃b,b∈bs/\R a b:=by
 induction h with
 |nil=>cases m
 |cons r _ ih=>
  rcases List.mem_cons.mp m with rfl|m
  ·exact⟨_,j7 ..,r⟩
  ·obtain⟨b,c,q⟩:=ih m;exact⟨b,j8 _ c,q⟩
def cN.app {α β:Type}{R:α->β->Prop}{as cs:List α}{bs ds:List β}(h:cN R as bs)(k:cN R cs ds):cN R (as++cs) (bs++ds):=by
 induction h with
 |nil=>exact k
 |cons r _ ih=>exact .cons r ih
def aCl {α:Type}(K:bFQ)(H:Hp)(R:V->α->Prop)(v:V)(xs:List α):Prop:=∃a vs,v=.ref a/\SqT K H a vs/\cN R vs xs
def aCl.same {α:Type}{K:bFQ}{H H':Hp}{R S:V->α->Prop}{v:V}{xs:List α}(e:Same H H')(k:∀a b,R a b->S a b)(h:aCl K H R v xs):aCl K H' S v xs:=by obtain⟨a,f,rfl,d,c⟩:=h;exact⟨a,f,rfl,e.aV d,c.imp k⟩
def IsO.same (e:Same H H')(h:IsO K H v o):IsO K H' v o:=by
 cases o with
 |val x=>obtain⟨a,rfl,b,c,g⟩:=h;exact⟨a,rfl,e.aV b,c.same e,g⟩
 |col d=>obtain⟨a,rfl,b,f⟩:=h;exact⟨a,rfl,e.aV b,f⟩
def IsT.same (e:Same H H')(h:IsT K H v t):IsT K H' v t:=by obtain⟨a,w,rfl,d,b,f,c⟩:=h;exact⟨a,w,rfl,e.aV d,b,f,c.same e⟩
def rB.same (e:Same H H')(h:rB K H v t):rB K H' v t:=by obtain⟨a,rfl,b,c⟩:=h;exact⟨a,rfl,e.aV b,c⟩
def qZ.same (e:Same H H')(h:qZ K H v t):qZ K H' v t:=by obtain⟨a,rfl,b,c⟩:=h;exact⟨a,rfl,e.aV b,c⟩
def nU.same (e:Same H H')(h:nU K H v t):nU K H' v t:=by
 obtain⟨a,rfl,d,b⟩:=h;refine⟨a,rfl,d,?_⟩;rcases b with⟨x,y,z⟩|⟨c,x,y,z,u⟩
 ·exact .inl ⟨x,y,e.aV z⟩
 ·exact .inr ⟨c,x,y,z,e.aV u⟩
def qU (_:bFQ)(_:Hp)(v:V)(x:Str):Prop:=IsN v x
def pR {α:Type}(S:bFQ->Hp->V->α->Prop)(lo hi:Nat):bFQ->Hp->V->List α->Prop:=λK H v xs=>aCl K H (S K H) v xs/\lo<=xs.length/\xs.length<=hi
def bCq (h:bBa x):(isS (.str x) && inV (.str x) signs)=true/\x.length<=8:=by rcases h with rfl|rfl|rfl|rfl <;> exact⟨by trivial,by trivial⟩
def yS (T:!Txt):!Ok 1 "may_be_question" f9 (λvs H Q _=>∃v,vs=[v]/\Q (.bl true) H):=by
 refine Ok.ofV T.aA8 zK (by trivial) (λf b A a s H vs Q E c h=>?_)
 obtain⟨v,rfl,q⟩:=h;exact⟨_,(aB (aK iT)),q⟩
def isTup:Tg->Bool
 |.tup _=>true
 |_=>false
def aIf (h:bU K H v t):Tk K H v (isTup t):=by
 cases h with
 |non=>exact .non
 |int=>exact .int
 |bl=>exact .bl
 |str _=>exact .str
 |tup g _ _=>exact .tup g
 |lst g _ _ _=>exact .lst (SqL.of g)
 |dct g=>exact .dct g
def qW (h:bU K H v t):Th K H v:=by
 cases h with
 |non=>exact .inr (.inr (.inr ⟨_,.non⟩))
 |int=>exact .inr (.inl ⟨_,rfl⟩)
 |bl=>exact .inr (.inr (.inl ⟨_,rfl⟩))
 |str h=>exact .inl ⟨_,rfl,h⟩
 |tup g _ _=>exact .inr (.inr (.inr ⟨_,.tup g⟩))
 |lst g _ _ _=>exact .inr (.inr (.inr ⟨_,.lst (SqL.of g)⟩))
 |dct g=>exact .inr (.inr (.inr ⟨_,.dct g⟩))
def flat:Tg->V
 |.int i=>.int i
 |.bl b=>.bl b
 |.str x=>.str x
 |_=>.non
def bF (t:Tg):Bool:=nameB (flat t)
def bEx (t:Tg):Bool:=aOf (flat t)
def lH (t:Tg)(xs:List V):Bool:=isS (flat t) && inV (flat t) xs
def wU (h:bU K H v t):nameB v=bF t:=by cases h <;> rfl
def bFg (h:bU K H v t):aOf v=bEx t:=by cases h <;> rfl
def aB4 (h:bU K H v t):(isS v && inV v xs)=lH t xs:=by cases h <;> rfl
def TgR (K:bFQ)(f:Tg->Bool):Hp->V->Bool->Prop:=λH v b=>∃t,bU K H v t/\b=f t
def rM:Tg->Bool
 |.tup [a,b]=>if lH a [.str "value"] then bEx b else (lH a [.str "column"] && bF b)
 |_=>false
def bHc (h:eX K H vs ts)(l:vs.length=2):∃v u a b,vs=[v,u]/\ts=[a,b]/\bU K H v a/\bU K H u b:=by
 match vs,h,l with
 |[v,u],.cons h1 (.cons h2 .nil),_=>exact⟨v,u,_,_,rfl,rfl,h1,h2⟩
def aTj (h:isTup t=false):rM t=false:=by
 cases t with
 |tup ts=>cases h
 |_=>rfl
def aPd (h:ts.length≠2):rM (.tup ts)=false:=by
 match ts,h with
 |[],_=>rfl
 |[_],_=>rfl
 |[_,_],h=>exact absurd rfl h
 |_::_::_::_,_=>rfl
def aK6 (T:!Txt)(G:!Ok 1 "is_one_of" bQE (aCa K))(I:!Ok 2 "is_value" f9 (pM K aOf))(N:!Ok 2 "is_name" f9 (pM K nameB)) :
  !Ok 3 "is_other" f9 (jG (TgR K rM)):=by
 refine Ok.ofV T.aPt aNg (by trivial) (λf L A l s H o Q E O h=>?_)
 obtain⟨v,b,rfl,⟨t,r,rfl⟩,q⟩:=h;refine⟨_,(aA (bH (VW.pt (uQ (fY (dB (aU lU (by rfl) T.bZ bR (aG (vv 0) (va1 (gR (v:=.ty "tuple") (by rfl) T.cW cG rfl)))))) (pA (cU oX (aU bD (by rfl) T.fX dJ (va1 (vv 0))) aD)))) (aB (aK iT)) aP) (aA (bH (dB (bY G (aG (cR cM (vv 0) aD) (va1 (aW (va1 aF)))))) (aB (aK (bY I (va1 (cR cM (vv 0) aD))))) aP) (aB (aK (lX (bY G (aG (cR cM (vv 0) aD) (va1 (aW (va1 aF))))) (pJ (bY N (va1 (cR cM (vv 0) aD))))))))),?_⟩;refine⟨_,rfl,_,_,rfl,aIf r,_,rfl,?_⟩;cases e:isTup t with
 |false=>rw[aTj e] at q;exact bV (q H (Same.refl H))
 |true=>
  cases r with
  |tup ha hl hts=>
   rename_i a o R;refine aZ ⟨_,rfl,_,_,rfl,.inr ha,rfl,_,rfl,?_⟩;have M:=hts.len;by_cases J:o.length=2
   ·obtain⟨v,u,g,k,rfl,rfl,i,j⟩:=bHc hts J;refine aZ ?_;refine⟨_,rfl,a,_,0,_,rfl,rfl,ha,at0 _ _,(by decide),λC S _ c x=>⟨_,C,_,rfl,qW (i.same c),SqT.of x,rfl,_,rfl,?_⟩⟩;rw[aB4 i];rw[show rM (.tup [g,k])=if lH g [.str "value"] then bEx k else (lH g [.str "column"] && bF k) from rfl] at q;cases p:lH g [.str "value"] with
    |true=>rw[p,if_pos rfl] at q;refine bV ⟨_,rfl,a,_,1,_,rfl,rfl,c.aV ha,at1 _ _ _,u,rfl,qW (j.same c),λm d=>?_⟩;rw[bFg j];exact q m (c.trans d)
    |false=>
     rw[p,if_neg (by decide)] at q;refine aZ ⟨_,rfl,a,_,0,_,rfl,rfl,c.aV ha,at0 _ _,(by decide),λB m _ d D=>⟨_,B,_,rfl,qW (i.same (c.trans d)),SqT.of D,rfl,_,rfl,?_⟩⟩;rw[aB4 i];cases n:lH g [.str "column"] with
     |true=>rw[n,bBR] at q;refine bV ⟨_,rfl,a,_,1,_,rfl,rfl,d.aV (c.aV ha),at1 _ _ _,u,rfl,qW (j.same (c.trans d)),λy F=>?_⟩;rw[wU j];exact q y (c.trans (d.trans F))
     |false=>rw[n,bCB] at q;exact aZ (q m (c.trans d))
   ·rw[aPd (by lia)] at q;rw[m9 (by intro z;injection z with z;lia)];exact bV (q H (Same.refl H))
  |_=>cases e
def pH:Tg->Bool
 |.tup [a,b,c]=>bF a && (lH b signs && rM c)
 |_=>false
def bHb (h:eX K H vs ts)(l:vs.length=3):∃v u x a b c,vs=[v,u,x]/\ts=[a,b,c]/\bU K H v a/\bU K H u b/\bU K H x c:=by
 match vs,h,l with
 |[v,u,x],.cons h1 (.cons h2 (.cons h3 .nil)),_=>exact⟨v,u,x,_,_,_,rfl,rfl,h1,h2,h3⟩
def aV8 (h:isTup t=false):pH t=false:=by
 cases t with
 |tup ts=>cases h
 |_=>rfl
def aUv (h:ts.length≠3):pH (.tup ts)=false:=by
 match ts,h with
 |[],_=>rfl
 |[_],_=>rfl
 |[_,_],_=>rfl
 |[_,_,_],h=>exact absurd rfl h
 |_::_::_::_::_,_=>rfl
def aL2 (T:!Txt)(O:!Ok 1 "is_one_of" bQE (aCa K))(R:!Ok 2 "is_name" f9 (pM K nameB))(F:!Ok 3 "is_other" f9 (jG (TgR K rM))) :
  !Ok 4 "is_test" f9 (jG (TgR K pH)):=by
 refine Ok.ofV T.aTo aPu (by trivial) (λf M A i s H o Q E S h=>?_)
 obtain⟨v,b,rfl,⟨t,B,rfl⟩,q⟩:=h;obtain⟨n,G,g⟩:=T.aJn;have j:∃u,mg "SIGNS"=some u/\RelV (.ref n) u:=⟨_,G,rfl⟩;refine⟨_,(aA (bH (VW.pt (uQ (fY (dB (aU lU (by rfl) T.bZ bR (aG (vv 0) (va1 (gR (v:=.ty "tuple") (by rfl) T.cW cG rfl)))))) (pA (cU oX (aU bD (by rfl) T.fX dJ (va1 (vv 0))) aD)))) (aB (aK iT)) aP) (aB (aK (lX (bY R (va1 (cR cM (vv 0) aD))) (lX (bY O (aG (cR cM (vv 0) aD) (va1 (dX (by rfl) j)))) (pJ (bY F (va1 (cR cM (vv 0) aD))))))))),?_⟩;refine⟨_,rfl,_,_,rfl,aIf B,_,rfl,?_⟩;cases e:isTup t with
 |false=>rw[aV8 e] at q;exact bV (q H (Same.refl H))
 |true=>
  cases B with
  |tup ha hl hts=>
   rename_i a o U;refine aZ ⟨_,rfl,_,_,rfl,.inr ha,rfl,_,rfl,?_⟩;have N:=hts.len;by_cases J:o.length=3
   ·obtain⟨v,u,x,k,d,l,rfl,rfl,y,C,D⟩:=bHb hts J;refine aZ ?_;rw[show pH (.tup [k,d,l])=(bF k && (lH d signs && rM l)) from rfl] at q;refine⟨_,rfl,a,_,0,_,rfl,rfl,ha,at0 _ _,v,rfl,qW y,λr c=>⟨_,rfl,?_⟩⟩;rw[wU y];cases p:bF k with
    |false=>rw[p,bCB] at q;exact aZ (q r c)
    |true=>
     rw[p,bBR] at q;refine bV ⟨_,rfl,a,_,1,_,rfl,rfl,c.aV ha,at1 _ _ _,u,n,signs,rfl,qW (C.same c),g _,rfl,_,rfl,?_⟩;rw[aB4 C];cases m:lH d signs with
     |false=>rw[m,bCB] at q;exact aZ (q r c)
     |true=>rw[m,bBR] at q;exact bV ⟨_,rfl,a,_,2,_,rfl,rfl,c.aV ha,at2 _ _ _ _,x,_,rfl,⟨l,D.same c,rfl⟩,λL I=>q L (c.trans I)⟩
   ·rw[aUv (by lia)] at q;rw[m9 (by intro z;injection z with z;lia)];exact bV (q H (Same.refl H))
  |_=>cases e
def yU:Tg->Bool
 |.tup [a,b]=>bF a && lH b xV
 |_=>false
def bAx (h:isTup t=false):yU t=false:=by
 cases t with
 |tup ts=>cases h
 |_=>rfl
def aY3 (h:ts.length≠2):yU (.tup ts)=false:=by
 match ts,h with
 |[],_=>rfl
 |[_],_=>rfl
 |[_,_],h=>exact absurd rfl h
 |_::_::_::_,_=>rfl
def aPm (T:!Txt)(F:!Ok 1 "is_one_of" bQE (aCa K))(G:!Ok 2 "is_name" f9 (pM K nameB)):!Ok 3 "is_key" f9 (jG (TgR K yU)):=by
 refine Ok.ofV T.aVi aSz (by trivial) (λf C A i s H m Q E I h=>?_)
 obtain⟨v,b,rfl,⟨t,p,rfl⟩,q⟩:=h;obtain⟨l,y,g⟩:=T.aQ1;have d:∃u,mg "WAYS"=some u/\RelV (.ref l) u:=⟨_,y,rfl⟩;refine⟨_,(aA (bH (VW.pt (uQ (fY (dB (aU lU (by rfl) T.bZ bR (aG (vv 0) (va1 (gR (v:=.ty "tuple") (by rfl) T.cW cG rfl)))))) (pA (cU oX (aU bD (by rfl) T.fX dJ (va1 (vv 0))) aD)))) (aB (aK iT)) aP) (aB (aK (lX (bY G (va1 (cR cM (vv 0) aD))) (pJ (bY F (aG (cR cM (vv 0) aD) (va1 (dX (by rfl) d))))))))),?_⟩;refine⟨_,rfl,_,_,rfl,aIf p,_,rfl,?_⟩;cases e:isTup t with
 |false=>rw[bAx e] at q;exact bV (q H (Same.refl H))
 |true=>
  cases p with
  |tup ha hl hts=>
   rename_i a m J;refine aZ ⟨_,rfl,_,_,rfl,.inr ha,rfl,_,rfl,?_⟩;have D:=hts.len;by_cases B:m.length=2
   ·obtain⟨v,u,j,k,rfl,rfl,o,x⟩:=bHc hts B;refine aZ ?_;rw[show yU (.tup [j,k])=(bF j && lH k xV) from rfl] at q;refine⟨_,rfl,a,_,0,_,rfl,rfl,ha,at0 _ _,v,rfl,qW o,λr c=>⟨_,rfl,?_⟩⟩;rw[wU o];cases n:bF j with
    |false=>rw[n,bCB] at q;exact aZ (q r c)
    |true=>rw[n,bBR] at q;refine bV ⟨_,rfl,a,_,1,_,rfl,rfl,c.aV ha,at1 _ _ _,u,l,xV,rfl,qW (x.same c),g _,rfl,?_⟩;rw[aB4 x];exact q r c
   ·rw[aY3 (by lia)] at q;rw[m9 (by intro z;injection z with z;lia)];exact bV (q H (Same.refl H))
  |_=>cases e
def aGg:Tg->Bool
 |.int i=>decide (0<=i) && decide (i<=60)
 |_=>false
def aXx (h:bU K H v t):whole v=whole (flat t):=by cases h <;> rfl
def aMv (T:!Txt)(j:!Ok 1 "is_whole" f9 (aAr K)):!Ok 2 "is_many" f9 (jG (TgR K aGg)):=by
 refine Ok.ofV T.aUc aP4 (by trivial) (λf e A c s H k Q E g h=>?_)
 obtain⟨v,b,rfl,⟨t,a,rfl⟩,q⟩:=h;refine⟨_,(aB (aK (lX (bY j (va1 (vv 0))) (pJ (aV5 aIl aIl aD (vv 0) (dX (by rfl) T.aN7)))))),?_⟩;refine⟨_,rfl,_,rfl,qW a,_,rfl,?_⟩;rw[aXx a];cases a with
 |int=>
  rename_i i;refine bV ⟨_,rfl,_,_,rfl,rfl,_,rfl,?_⟩;rw[show aGg (.int i)=(decide (0<=i) && decide (i<=60)) from rfl] at q;cases d:decide ((0:Int)<=i) with
  |false=>rw[d,bCB] at q;exact aZ (q H (Same.refl H))
  |true=>rw[d,bBR] at q;exact bV ⟨_,_,rfl,rfl,q H (Same.refl H)⟩
 |_=>exact aZ (q H (Same.refl H))
def dM (f:Tg->Bool)(lo hi:Nat):Tg->Bool
 |.tup ts=>decide (lo<=ts.length) && (decide (ts.length<=hi) && ts.all f)
 |_=>false
def bAa {f:Tg->Bool}{lo hi:Nat}{t:Tg}(h:isTup t=false):dM f lo hi t=false:=by
 cases t with
 |tup ts=>cases h
 |_=>rfl
inductive qK (P:Program)(w:World)(K:bFQ)(mg:bFT)(base:Heap)(k:Nat)(vs:List V)(H:Hp)(Q:VK)(E_:XK):Prop
 |mk (v:V) (lo hi:Nat) (g:Addr) (ps:List Str) (f:Tg->Bool) (t:Tg) (_:vs=[v,.int (lo:Nat),.int (hi:Nat),.ref g]) (_:hi<=1000) (_:!Held k g ps (jG (TgR K f))) (_:bU K H v t) (_:∀H',Same H H'->Q (.bl (dM f lo hi t)) H')
def eV (T:!Txt):!Ok (k+1) "is_tuple_of" n6 (!qK k):=by
 refine Ok.ofV T.aHh aGd (by trivial) (λf W A p s H c Q E S h=>?_)
 obtain⟨v,d,j,g,I,f,t,rfl,m,L,G,q⟩:=h;refine⟨_,(aA (bH (VW.pt (uQ (fY (dB (aU lU (by rfl) T.bZ bR (aG (vv 0) (va1 (gR (v:=.ty "tuple") (by rfl) T.cW cG rfl)))))) (pA (fY (aN4 aIl aIl (vv 1) (aU bD (by rfl) T.fX dJ (va1 (vv 0))) (vv 2)))))) (aB (aK iT)) aP) (aB (aK (aU (zX rfl) (by rfl) T.aRk aJw (va1 (gM (N:=["part","is_part"]) ck (lW (aC rG)) rfl (lC (vv 0)) (λcl s' z Y=>⟨(jW 0),jK,(wB (P:=P) (w:=w) (K:=K) (mg:=mg) (base:=base) S (vv 1) (va1 (vv 0)))⟩))))))),?_⟩;refine⟨_,rfl,_,_,rfl,aIf G,_,rfl,?_⟩;cases e:isTup t with
 |false=>rw[bAa e] at q;exact bV (q H (Same.refl H))
 |true=>
  cases G with
  |tup ha hl hts=>
   rename_i a c b;have J:=hts.len;rw[show dM f d j (.tup b)=(decide (d<=b.length) && (decide (b.length<=j) && b.all f)) from rfl] at q;refine aZ ⟨_,rfl,_,rfl,_,_,rfl,.inr ha,_,_,rfl,rfl,_,rfl,?_⟩;by_cases B:d<=b.length
   ·rw[v9 B,bBR] at q;have o:decide ((d:Int)<=(c.length:Int))=true:=v9 (by lia);rw[o];refine bV ⟨_,rfl,_,_,rfl,rfl,_,rfl,?_⟩;by_cases C:b.length<=j
    ·rw[v9 C,bBR] at q;have n:decide ((c.length:Int)<=(j:Int))=true:=v9 (by lia);rw[n];refine aZ ?_;dsimp only[aDd,aHf,tCB,eE];refine aJj c (b.map λt=>.bl (f t)) (by rw[j5,J]) [none,some (.ref g)] ?_ (small (by lia)) (λR r=>aPr ha (λZ U=>⟨_,rfl,U⟩) R r) (λi x y V F z R l u r=>?_) rfl λD z u O=>?_
     ·exact tV 3 (by trivial) rfl rfl (by trivial)
     ·obtain⟨t,M,X⟩:=hts.at V;rw[bAD,M] at F;cases F;exact⟨_,rfl,g,I,_,rfl,L,_,rfl,x,f t,rfl,⟨t,X.same u,rfl⟩,r⟩
     ·refine⟨D,b.map f,rfl,SqL.of (by rw[O,bAZ];rfl),?_⟩;rw[List.all_map];exact q z u
    ·rw[m9 C,bCB] at q;have n:decide ((c.length:Int)<=(j:Int))=false:=m9 (by lia);rw[n];exact bV (q H (Same.refl H))
   ·rw[m9 B,bCB] at q;have o:decide ((d:Int)<=(c.length:Int))=false:=m9 (by lia);rw[o];exact aZ ⟨_,rfl,bV (q H (Same.refl H))⟩
  |_=>cases e
def aXj (G:!Ok k x ps sp)(h:∀vs H Q E,sp' vs H Q E->sp vs H Q E):!Ok k x ps sp':=
 let ⟨f,fd,h1,h2,h3,h4⟩:=G;⟨f,fd,h1,h2,h3,h4.imp h⟩
def bD4 (G:!Ok 2 "is_name" f9 (pM K nameB)):!Ok 2 "is_name" f9 (jG (TgR K bF)):=aXj G λd H Q E ⟨v,b,e,⟨t,h,a⟩,q⟩=>⟨v,e,qW h,λc s=>by rw[wU h,<-a];exact q c s⟩
def aLs (T:!Txt)(m:!Ok 2 "is_name" f9 (jG (TgR K bF)))(o:!Ok 3 "is_tuple_of" n6 (!qK 2)):!Ok 4 "is_pair" f9 (jG (TgR K (dM bF 2 2))):=by
 refine Ok.ofV T.aS6 aPi (by trivial) (λf l A c s H p Q E n h=>?_)
 obtain⟨v,b,rfl,⟨t,k,rfl⟩,q⟩:=h;obtain⟨d,j,e⟩:=m.held;have a:∃u,mg "is_name"=some u/\RelV (.ref d) u:=⟨_,j,rfl⟩;refine⟨_,(aB (aK (bY o (aG (vv 0) (aG aD (aG aD (va1 (dX (by rfl) a)))))))),?_⟩;exact⟨_,rfl,v,2,2,d,_,bF,t,rfl,by decide,e,k,λg i=>q g i⟩
def aG2 (T:!Txt)(l:!Ok 4 "is_test" f9 (jG (TgR K pH)))(o:!Ok 5 "is_tuple_of" n6 (!qK 4)):!Ok 6 "are_tests" f9 (jG (TgR K (dM pH 1 3))):=by
 refine Ok.ofV T.aNv aJk (by trivial) (λf m A c s H p Q E n h=>?_)
 obtain⟨v,b,rfl,⟨t,k,rfl⟩,q⟩:=h;obtain⟨d,j,e⟩:=l.held;have a:∃u,mg "is_test"=some u/\RelV (.ref d) u:=⟨_,j,rfl⟩;refine⟨_,(aB (aK (bY o (aG (vv 0) (aG aD (aG (dX (by rfl) T.aKz) (va1 (dX (by rfl) a)))))))),?_⟩;exact⟨_,rfl,v,1,3,d,_,pH,t,rfl,by decide,e,k,λg i=>q g i⟩
def aHj (T:!Txt)(m:!Ok 2 "is_name" f9 (jG (TgR K bF)))(o:!Ok 3 "is_tuple_of" n6 (!qK 2)):!Ok 4 "are_names" f9 (jG (TgR K (dM bF 1 8))):=by
 refine Ok.ofV T.aMz aLk (by trivial) (λf l A c s H p Q E n h=>?_)
 obtain⟨v,b,rfl,⟨t,k,rfl⟩,q⟩:=h;obtain⟨d,j,e⟩:=m.held;have a:∃u,mg "is_name"=some u/\RelV (.ref d) u:=⟨_,j,rfl⟩;refine⟨_,(aB (aK (bY o (aG (vv 0) (aG aD (aG (dX (by rfl) T.aBj) (va1 (dX (by rfl) a)))))))),?_⟩;exact⟨_,rfl,v,1,8,d,_,bF,t,rfl,by decide,e,k,λg i=>q g i⟩
def xG (T:!Txt)(m:!Ok 2 "is_name" f9 (jG (TgR K bF)))(o:!Ok 3 "is_tuple_of" n6 (!qK 2)):!Ok 4 "are_group_names" f9 (jG (TgR K (dM bF 0 8))):=by
 refine Ok.ofV T.aAn zA (by trivial) (λf l A c s H p Q E n h=>?_)
 obtain⟨v,b,rfl,⟨t,k,rfl⟩,q⟩:=h;obtain⟨d,j,e⟩:=m.held;have a:∃u,mg "is_name"=some u/\RelV (.ref d) u:=⟨_,j,rfl⟩;refine⟨_,(aB (aK (bY o (aG (vv 0) (aG aD (aG (dX (by rfl) T.aBj) (va1 (dX (by rfl) a)))))))),?_⟩;exact⟨_,rfl,v,0,8,d,_,bF,t,rfl,by decide,e,k,λg i=>q g i⟩
def aG9 (T:!Txt)(i:!Ok 4 "is_pair" f9 (jG (TgR K (dM bF 2 2))))(o:!Ok 5 "is_tuple_of" n6 (!qK 4)):!Ok 6 "are_pairs" f9 (jG (TgR K (dM (dM bF 2 2) 1 3))):=by
 refine Ok.ofV T.aMn aKp (by trivial) (λf m A c s H p Q E n h=>?_)
 obtain⟨v,b,rfl,⟨t,l,rfl⟩,q⟩:=h;obtain⟨d,k,e⟩:=i.held;have a:∃u,mg "is_pair"=some u/\RelV (.ref d) u:=⟨_,k,rfl⟩;refine⟨_,(aB (aK (bY o (aG (vv 0) (aG aD (aG (dX (by rfl) T.aKu) (va1 (dX (by rfl) a)))))))),?_⟩;exact⟨_,rfl,v,1,3,d,_,(dM bF 2 2),t,rfl,by decide,e,l,λg j=>q g j⟩
def aJp (T:!Txt)(l:!Ok 3 "is_key" f9 (jG (TgR K yU)))(o:!Ok 4 "is_tuple_of" n6 (!qK 3)):!Ok 5 "are_keys" f9 (jG (TgR K (dM yU 0 3))):=by
 refine Ok.ofV T.aPz aNy (by trivial) (λf m A c s H p Q E n h=>?_)
 obtain⟨v,b,rfl,⟨t,k,rfl⟩,q⟩:=h;obtain⟨d,j,e⟩:=l.held;have a:∃u,mg "is_key"=some u/\RelV (.ref d) u:=⟨_,j,rfl⟩;refine⟨_,(aB (aK (bY o (aG (vv 0) (aG aD (aG (dX (by rfl) T.aLm) (va1 (dX (by rfl) a)))))))),?_⟩;exact⟨_,rfl,v,0,3,d,_,yU,t,rfl,by decide,e,k,λg i=>q g i⟩
def aIk:Tg->Bool
 |.non=>true
 |_=>false
def bDu (h:bU K H v t):decide (v=.non)=aIk t:=by cases h <;> rfl
def aJf:Tg->Bool
 |.str x=>decide (V.str x=V.str "count")
 |_=>false
def yV:Tg->Bool
 |.tup [a,b,c]=>lH a iW && (bF c && (if aJf a then aIk b else bF b))
 |_=>false
def bBn (h:isTup t=false):yV t=false:=by
 cases t with
 |tup ts=>cases h
 |_=>rfl
def aU7 (h:ts.length≠3):yV (.tup ts)=false:=by
 match ts,h with
 |[],_=>rfl
 |[_],_=>rfl
 |[_,_],_=>rfl
 |[_,_,_],h=>exact absurd rfl h
 |_::_::_::_::_,_=>rfl
def aR6 (h:bU K H v t)(o:lH t xs=true):∃x,v=.str x/\t=.str x:=by
 cases h with
 |str _=>exact⟨_,rfl,rfl⟩
 |_=>cases o
def aPx (T:!Txt)(S:!Ok 1 "is_one_of" bQE (aCa K))(M:!Ok 2 "is_name" f9 (pM K nameB)):!Ok 3 "is_sum" f9 (jG (TgR K yV)):=by
 refine Ok.ofV T.aV3 aT6 (by trivial) (λf O A l s H C Q E U h=>?_)
 obtain⟨v,b,rfl,⟨t,D,rfl⟩,q⟩:=h;obtain⟨B,G,j⟩:=T.vL;have N:∃u,mg "SUM_WORDS"=some u/\RelV (.ref B) u:=⟨_,G,rfl⟩;refine⟨_,(aA (bH (VW.pt (uQ (fY (dB (aU lU (by rfl) T.bZ bR (aG (vv 0) (va1 (gR (v:=.ty "tuple") (by rfl) T.cW cG rfl)))))) (pA (cU oX (aU bD (by rfl) T.fX dJ (va1 (vv 0))) aD)))) (aB (aK iT)) aP) (aA (bH (VW.pt (uQ (fY (dB (bY S (aG (cR cM (vv 0) aD) (va1 (dX (by rfl) N)))))) (pA (fY (dB (bY M (va1 (cR cM (vv 0) aD)))))))) (aB (aK iT)) aP) (aB (aK (mW (cU cV (cR cM (vv 0) aD) aF) (aDs aPs (cR cM (vv 0) aD) dO) (bY M (va1 (cR cM (vv 0) aD)))))))),?_⟩;refine⟨_,rfl,_,_,rfl,aIf D,_,rfl,?_⟩;cases e:isTup t with
 |false=>rw[bBn e] at q;exact bV (q H (Same.refl H))
 |true=>
  cases D with
  |tup ha hl hts=>
   rename_i a C W;refine aZ ⟨_,rfl,_,_,rfl,.inr ha,rfl,_,rfl,?_⟩;have R:=hts.len;by_cases J:C.length=3
   ·obtain⟨v,u,x,d,g,n,rfl,rfl,m,o,p⟩:=bHb hts J;refine aZ ?_;rw[show yV (.tup [d,g,n])=(lH d iW && (bF n && (if aJf d then aIk g else bF g))) from rfl] at q;refine⟨_,rfl,a,_,0,_,rfl,rfl,ha,at0 _ _,v,B,iW,rfl,qW m,j _,rfl,_,rfl,?_⟩;rw[aB4 m];cases k:lH d iW with
    |false=>rw[k,bCB] at q;exact bV (q H (Same.refl H))
    |true=>
     rw[k,bBR] at q;obtain⟨i,rfl,rfl⟩:=aR6 m k;refine aZ ⟨_,rfl,a,_,2,_,rfl,rfl,ha,at2 _ _ _ _,x,rfl,qW p,λF c=>⟨_,rfl,?_⟩⟩;rw[wU p];cases y:bF n with
     |false=>rw[y,bCB] at q;exact bV (q F c)
     |true=>
      rw[y,bBR] at q;refine aZ ⟨_,rfl,a,_,0,_,rfl,rfl,c.aV ha,at0 _ _,rfl,_,rfl,?_⟩;cases r:decide (V.str i=V.str "count") with
      |true=>rw[show aJf (.str i)=true from r,if_pos rfl] at q;refine bV ⟨_,rfl,a,_,1,_,rfl,rfl,c.aV ha,at1 _ _ _,rfl,?_⟩;rw[bDu o];exact q F c
      |false=>rw[show aJf (.str i)=false from r,if_neg (by decide)] at q;refine aZ ⟨_,rfl,a,_,1,_,rfl,rfl,c.aV ha,at1 _ _ _,u,rfl,qW (o.same c),λL I=>?_⟩;rw[wU o];exact q L (c.trans I)
   ·rw[aU7 (by lia)] at q;rw[m9 (by intro z;injection z with z;lia)];exact bV (q H (Same.refl H))
  |_=>cases e
def aJl (T:!Txt)(i:!Ok 3 "is_sum" f9 (jG (TgR K yV)))(o:!Ok 4 "is_tuple_of" n6 (!qK 3)):!Ok 5 "are_sums" f9 (jG (TgR K (dM yV 0 4))):=by
 refine Ok.ofV T.aOt aNn (by trivial) (λf m A c s H p Q E n h=>?_)
 obtain⟨v,b,rfl,⟨t,l,rfl⟩,q⟩:=h;obtain⟨d,k,e⟩:=i.held;have a:∃u,mg "is_sum"=some u/\RelV (.ref d) u:=⟨_,k,rfl⟩;refine⟨_,(aB (aK (bY o (aG (vv 0) (aG aD (aG (dX (by rfl) T.aLw) (va1 (dX (by rfl) a)))))))),?_⟩;exact⟨_,rfl,v,0,4,d,_,yV,t,rfl,by decide,e,l,λg j=>q g j⟩
def nA (_:Tg):Bool:=true
def aJq:List (Str × List (Tg->Bool)):=[("table",[bF]),("where",[nA,dM pH 1 3]),("keep",[nA,dM bF 1 8]),("named",[nA,dM bF 1 8]),("join",[nA,nA,dM (dM bF 2 2) 1 3]),("group",[nA,dM bF 0 8,dM yV 0 4]),("first",[nA,dM yU 0 3,aGg])]
def eO (k:Str):Option (List (Tg->Bool)):=(aJq.find? λz=>decide (z.1=k)).map (·.2)
def kW:Tg->Bool
 |.tup (.str k::ts)=>match eO k with
  |some fs=>decide (ts.length=fs.length) && (List.zipWith (λf t=>f t) fs ts).all id
  |none=>false
 |_=>false
def oA {n:Str}{ss:List Str}:inV (.str n) (ss.map V.str)=decide (n∈ss):=by
 unfold inV;rw[List.any_map];rw[bCL,bDY,decide_eq_true_iff];constructor
 ·rintro⟨x,a,e⟩;have e:=e;rw[<-of_decide_eq_true e];exact a
 ·intro h;exact⟨n,h,v9 rfl⟩
def aYq (P:Program)(w:World)(K:bFQ)(mg:bFT)(base:Heap)(u:V)(f:Tg->Bool):Prop:=∃fa ps sp,u=.ref fa/\!Held 6 fa ps sp/\∀H v t,bU K H v t->∀Q:VK,(∀H2,Same H H2->Q (.bl (f t)) H2)->sp [v] H Q E0
def aBa (G:!Ok k x ps (jG (TgR K f)))(b:k<=6)(m:mg x=some (.ref fa)):!aYq (.ref fa) f:=
 ⟨fa,_,_,rfl,(G.aVg m).mono b,λH v t a Q q=>⟨v,f t,rfl,⟨t,a,rfl⟩,q⟩⟩
def aF8 (G:!Ok 1 "may_be_question" f9 (λvs H Q _=>∃v,vs=[v]/\Q (.bl true) H))(m:mg "may_be_question"=some (.ref fa)):!aYq (.ref fa) nA:=
 ⟨fa,_,_,rfl,(G.aVg m).mono (by decide),λH v t a Q q=>⟨v,rfl,q H (Same.refl H)⟩⟩
structure aQb (P:Program)(w:World)(K:bFQ)(mg:bFT)(base:Heap):Prop where
 name:!Ok 2 "is_name" f9 (jG (TgR K bF))
 any:!Ok 1 "may_be_question" f9 (λvs H Q _=>∃v,vs=[v]/\Q (.bl true) H)
 tests:!Ok 6 "are_tests" f9 (jG (TgR K (dM pH 1 3)))
 names:!Ok 4 "are_names" f9 (jG (TgR K (dM bF 1 8)))
 gnames:!Ok 4 "are_group_names" f9 (jG (TgR K (dM bF 0 8)))
 pairs:!Ok 6 "are_pairs" f9 (jG (TgR K (dM (dM bF 2 2) 1 3)))
 sums:!Ok 5 "are_sums" f9 (jG (TgR K (dM yV 0 4)))
 keys:!Ok 5 "are_keys" f9 (jG (TgR K (dM yU 0 3)))
 many:!Ok 2 "is_many" f9 (jG (TgR K aGg))
abbrev forms:List Str:=["table","where","keep","named","join","group","first"]
def zN (h:eO k=some fs):k∈forms:=by
 unfold eO at h;cases e:aJq.find? λz=>decide (z.1=k) with
 |none=>rw[e] at h;cases h
 |some z=>have a:=List.find?_some e;have c:=List.mem_of_find?_eq_some e;have b:=of_decide_eq_true a;subst b;have:z.1∈aJq.map (·.1):=List.mem_map_of_mem c;exact this
def bAq (h:eO k=none):k∉forms:=by intro m;unfold eO at h;rw[Option.map_eq_none_iff,List.find?_eq_none] at h;have m:k∈aJq.map (·.1):=m;obtain⟨z,a,e⟩:=List.mem_map.mp m;exact h z a (v9 e)
def aX1 (T:!Txt)(F:aQb P w K mg base):∃d kvs,mg "FORMS"=some (.ref d)/\aWp w K d kvs/\kvs.length<=1000/\(kvs.map λq=>V.str q.1)=forms.map V.str /\
  ∀k fs,eO k=some fs->∃t us,(kvs.find? λz=>decide (z.1=k)).map (·.2)=some t/\(∀H,SqT K H t us)/\us.length<=8/\cN (aYq P w K mg base) us fs:=by
 obtain⟨d,N,t1,t2,D,M,U,R,A,E,⟨a3,S,s⟩,⟨a1,Z,W,b,n⟩,⟨x,G,h2,i,e⟩,⟨a2,L,y,c,r⟩,⟨O,C,I,h4,j,l,h⟩,⟨Q,X,J,h5,o,u,f⟩,⟨B,Y,a0,h6,p,g,m⟩⟩:=T.aD3;refine⟨d,_,A,E,(by show 7<=1000;decide),rfl,λk fs a=>?_⟩;have v:=zN a;simp only[forms,bAO,bAG,or_false] at v;rcases v with rfl|rfl|rfl|rfl|rfl|rfl|rfl
 ·cases (show eO "table"=some [bF] from rfl) ▸ a;exact⟨N,_,rfl,S,(by show 1<=8;decide),.cons (aBa F.name (by decide) s) .nil⟩
 ·cases (show eO "where"=some [nA,dM pH 1 3] from rfl) ▸ a;exact⟨t1,_,rfl,W,(by show 2<=8;decide),.cons (aF8 F.any b) (.cons (aBa F.tests (by decide) n) .nil)⟩
 ·cases (show eO "keep"=some [nA,dM bF 1 8] from rfl) ▸ a;exact⟨t2,_,rfl,h2,(by show 2<=8;decide),.cons (aF8 F.any i) (.cons (aBa F.names (by decide) e) .nil)⟩
 ·cases (show eO "named"=some [nA,dM bF 1 8] from rfl) ▸ a;exact⟨D,_,rfl,y,(by show 2<=8;decide),.cons (aF8 F.any c) (.cons (aBa F.names (by decide) r) .nil)⟩
 ·cases (show eO "join"=some [nA,nA,dM (dM bF 2 2) 1 3] from rfl) ▸ a;exact⟨M,_,rfl,h4,(by show 3<=8;decide),.cons (aF8 F.any j) (.cons (aF8 F.any l) (.cons (aBa F.pairs (by decide) h) .nil))⟩
 ·cases (show eO "group"=some [nA,dM bF 0 8,dM yV 0 4] from rfl) ▸ a;exact⟨U,_,rfl,h5,(by show 3<=8;decide),.cons (aF8 F.any o) (.cons (aBa F.gnames (by decide) u) (.cons (aBa F.sums (by decide) f) .nil))⟩
 ·cases (show eO "first"=some [nA,dM yU 0 3,aGg] from rfl) ▸ a;exact⟨R,_,rfl,h6,(by show 3<=8;decide),.cons (aF8 F.any p) (.cons (aBa F.keys (by decide) g) (.cons (aBa F.many (by decide) m) .nil))⟩
theorem aMp {α β:Type}{R:α->β->Prop}:∀{as:List α} {bs:List β},cN R as bs->∀{i:Nat} {a:α} {b:β},as[i]?=some a->bs[i]?=some b->R a b
 |_,_,.cons r t,0,_,_,h1,h2=>by cases h1;cases h2;exact r
 |_,_,.cons r t,i+1,a,b,h1,h2=>aMp t (by simpa using h1) (by simpa using h2)
def bI9 (x:V)(xs:List V):uC (x::xs) (some 1) none=xs:=by
 unfold uC;have e:HT.sIx (x::xs).length 0 (some 1)=1:=by rw[show (1:Int)=((1:Nat):Int) from rfl,HT.aAh,d9];lia
 rw[e,HT.aAb,d9];simp
def nw1 (x:V)(xs:List V):¬ (HT.sIx (x::xs).length 0 (some 1)=0/\HT.sIx (x::xs).length (x::xs).length none=(x::xs).length):=by rw[show (1:Int)=((1:Nat):Int) from rfl,HT.aAh,d9];lia
section
variable {X:Cx}{scope:Scope}{N:List Str}{te:TE}{σ:L2.St}{H:Hp}{Q:VK}
def aTv (xs O n:List V)(C:L2.St)(F:Cap X scope N σ C)(hsz:xs.length<=sizeLine)(hl:xs.length=O.length)(hz:n.length=xs.length)
  (G:∀R:List V->Hp->Prop,(∀t u H1,Same H H1->SqT K H1 t xs->SqT K H1 u O->R [.ref t,.ref u] H1)->tl σ H R)
  (J:∀(i:Nat) (x y z:V),xs[i]?=some x->O[i]?=some y->n[i]?=some z->∀H' R l1 l2,Same H H'->(∀H2,Same H' H2->R z H2)->te ((((C.set 0 l1).set 1 l2).set 0 (some x)).set 1 (some y)) H' R) (L:C[0]?=some none) (M:C[1]?=some none)
  (q:∀D H',Same H H'->H' D=some (.lst n)->Q (.ref D) H') :
  mU X scope N (aWi K tl) (aI3 K 2 (uN (cY 0) (uN (cY 1) aPp))) zR te σ H Q:=by
 refine⟨C,F,G _ λt u H1 l j k=>⟨t,u,xs,O,rfl,j,k,λD s=>?_⟩⟩;refine⟨λi m r H' g=>i<=xs.length/\m=xs.length - i/\(∃l1 l2,r=(C.set 0 l1).set 1 l2)/\Same H1 H'/\H' D=some (.lst g)/\g=n.take i,⟨xs.length,bAK _,rfl,⟨none,none,?_⟩,cF s _,aJ,rfl⟩,?_⟩
 ·rw[<-sZ L];exact sZ M
 rintro i m r H' g ⟨hi,rfl,⟨l1,l2,rfl⟩,sm,hL,rfl⟩;refine⟨hL,?_⟩;by_cases f:i<xs.length
 ·right;refine⟨⟨sm.aV j,sm.aV k,f,by lia⟩,λv H2 B=>?_⟩;obtain⟨T,a,b,w,rfl,rfl,E,A⟩:=B;have h:Same H' (upd H' T (.tup [a,b])):=cF w _;refine⟨T,[a,b],rfl,.inl (.inl aJ),rfl,a,[b],rfl,b,[],rfl,rfl,?_⟩;unfold zR;dsimp only;rw[if_pos rfl];have d:i<n.length:=by lia
  refine J i a b n[i] E A (d7 d) _ _ l1 l2 (λb o e=>h _ _ (sm _ _ (l _ _ e))) λI p=>⟨p _ _ (h _ _ hL),?_,xs.length - (i+1),by lia,f,rfl,⟨some a,some b,?_⟩,?_,aJ,?_⟩
  ·rw[bAU];lia
  ·rw[List.set_comm _ _ (show (1:Nat)≠0 by decide),bCQ,bCQ]
  ·intro c o e;rw[aR (aX e s)];exact p _ _ (h _ _ (sm _ _ e))
  ·rw[bCI,d7 d];rfl
 ·left;have e:i=xs.length:=by lia
  subst e;refine⟨⟨sm.aV j,v7 _⟩,?_⟩;rw[bBK (by lia)] at hL;exact q D _ (l.trans sm) hL
end
def aWw (h:isTup t=false):kW t=false:=by
 cases t with
 |tup ts=>cases h
 |_=>rfl
def aUw (h:lH t (forms.map V.str)=false):kW (.tup (t::ts))=false:=by
 cases t with
 |str k=>
  have h:inV (.str k) (forms.map V.str)=false:=h;rw[oA] at h;show (match eO k with|some fs=>decide (ts.length=fs.length) && (List.zipWith (λ(f:Tg->Bool) t=>f t) fs ts).all id|none=>false)=false;cases e:eO k with
  |none=>rfl
  |some fs=>exact absurd (zN e) (of_decide_eq_false h)
 |_=>rfl
def aP8:(forms.map V.str).all kO=true:=rfl
def aWx (h:eX K H vs ts)(n:vs.length≠0):∃v us t rs,vs=v::us/\ts=t::rs/\bU K H v t/\eX K H us rs:=by
 cases h with
 |nil=>exact absurd rfl n
 |cons a b=>exact⟨_,_,_,_,rfl,rfl,a,b⟩
def aKb (T:!Txt)(F:aQb P w K mg base)(fH:!Ok 1 "is_one_of" bQE (aCa K)):!Ok 7 "has_form" f9 (jG (TgR K kW)):=by
 refine Ok.ofV T.aQp aC8 (by trivial) (λf a0 A J s H I Q E hr h=>?_)
 obtain⟨v,b,rfl,⟨t,ht,rfl⟩,q⟩:=h;obtain⟨d,p,md,hd,hl,g,C⟩:=aX1 T F;have l:∃u,mg "FORMS"=some u/\RelV (.ref d) u:=⟨_,md,rfl⟩;have a2:=aC8.nd;refine⟨_,(aA (bH (VW.pt (uQ (fY (dB (aU lU (by rfl) T.bZ bR (aG (vv 0) (va1 (gR (v:=.ty "tuple") (by rfl) T.cW cG rfl)))))) (uQ (cU cV (aU bD (by rfl) T.fX dJ (va1 (vv 0))) aD) (pA (fY (dB (bY fH (aG (cR cM (vv 0) aD) (va1 (bK (aU5 rfl) (by rfl) T.cW cG (va1 (dX (by rfl) l)))))))))))) (aB (aK iT)) aP) (aA (aQ 1 (cR bAe (dX (by rfl) l) (cR cM (vv 0) aD))) (aA (bH (cU oX (aU bD (by rfl) T.fX dJ (va1 (vv 0))) (aO dR (aU bD (by rfl) T.fX dJ (va1 (vv 1))) aD)) (aB (aK iT)) aP) (aB (aK (aU (zX rfl) (by rfl) T.aRk aJw (va1 (gM (N:=["is_part","part"]) ck lA rfl (bA8 (by rfl) T.bHn (aG (vv 1) (va1 (cL aLg (vv 0) (cP aD) dY)))) (λcl s' y fp=>⟨(nQ (K:=K) (n:=2) rfl (aY (jW 0) (aY (jW 1) eN))),jK,(wB (P:=P) (w:=w) (K:=K) (mg:=mg) (base:=base) hr (vv 0) (va1 (vv 1)))⟩))))))))),?_⟩;refine⟨_,rfl,_,_,rfl,aIf ht,_,rfl,?_⟩;cases e:isTup t with
 |false=>rw[aWw e] at q;exact bV (q H (Same.refl H))
 |true=>
  cases ht with
  |tup ha hlen hts=>
   rename_i a I ts;refine aZ ⟨_,rfl,_,_,rfl,.inr ha,rfl,_,rfl,?_⟩;have ll:=hts.len;by_cases l0:I.length=0
   ·have:I=[]:=List.length_eq_zero_iff.mp l0;subst this;cases hts;exact bV (q H (Same.refl H))
   ·obtain⟨v,B,tk,j,rfl,rfl,X,h2⟩:=aWx hts l0;rw[m9 (by intro z;injection z with z;lia)];refine aZ ⟨_,rfl,a,_,0,_,rfl,rfl,ha,at0 _ _,d,p,rfl,hd,hl,λp1 H1 c Z=>?_⟩;rw[g] at Z;refine⟨v,p1,_,rfl,qW (X.same c),SqT.of Z,aP8,_,rfl,?_⟩;rw[aB4 X];cases U:lH tk (forms.map V.str) with
    |false=>rw[aUw U] at q;exact bV (q H1 c)
    |true=>
     obtain⟨k,rfl,rfl⟩:=aR6 X U;have o:inV (.str k) (forms.map V.str)=true:=U;rw[oA] at o;cases W:eO k with
     |none=>exact absurd (of_decide_eq_true o) (bAq W)
     |some fs=>
      obtain⟨t,O,hf,m,a1,hp⟩:=C k fs W;have lw:=hp.len;have l2:=h2.len;rw[show kW (.tup (.str k::j))=(match eO k with|some fs=>decide (j.length=fs.length) && (List.zipWith (λf t=>f t) fs j).all id|none=>false) from rfl,W] at q;dsimp only at q;refine aZ ⟨_,rfl,a,_,0,_,rfl,rfl,c.aV ha,at0 _ _,d,p,k,t,rfl,rfl,hd,hf,?_⟩;refine⟨_,rfl,_,_,rfl,.inr (c.aV ha),_,rfl,_,_,rfl,.inr (m _),_,_,rfl,rfl,rfl,_,rfl,?_⟩;by_cases Y:j.length=fs.length
      ·have G:(!decide (V.int (((V.str k::B).length:Nat):Int)=V.int ((O.length:Nat)+1:Int)))=false:=by rw[d9,lw,l2,Y];simp
       rw[G];rw[v9 Y,bBR] at q;refine aZ ?_;dsimp only[aDd,aHf,tCB,eE];refine aTv O B ((List.zipWith (λf t=>f t) fs j).map V.bl) [none,none] oJ (small (by lia)) (by lia) (by rw[j5,bFC];lia) (λR r=>⟨_,rfl,_,rfl,_,rfl,a,_,rfl,c.aV ha,nw1 _ _,λp2 L S g2=>?_⟩) (λi fv x z ef ex ez y R l1 l2 M r=>?_) rfl rfl λD y M hD=>?_
       ·rw[bI9] at g2;exact r t p2 L S (m _) (SqT.of g2)
       ·obtain⟨tx,e3,h3⟩:=h2.at ex;have hi:i<fs.length:=by have:=(List.getElem?_eq_some_iff.mp e3).1;lia
        obtain⟨fa,ps,sp,rfl,hh,hc⟩:=aMp hp ef (d7 hi);rw[bAD,bEO,e3,d7 hi] at ez;cases ez;exact⟨_,rfl,fa,ps,sp,rfl,hh,_,rfl,hc y x tx (h3.same (c.trans M)) R λL S=>r L S⟩
       ·refine⟨D,List.zipWith (λf t=>f t) fs j,rfl,SqL.of hD,?_⟩;exact q y (c.trans M)
      ·have G:(!decide (V.int (((V.str k::B).length:Nat):Int)=V.int ((O.length:Nat)+1:Int)))=true:=by rw[m9 (by intro z;injection z with z;rw[d9] at z;lia)];rfl
       rw[G];rw[m9 Y,bCB] at q;exact bV (q H1 c)
  |_=>cases e
def Rf (mg:bFT)(c:Exn)(H:Hp)(E:XK):Prop:=∀C e H',mg c.nm=some (.ref C)->Same H H'->E (.ref C) (some e) H'
def aNs {st:Stmt}{y x:Str}{C S:Addr}{c:Exn}{H H1:Hp}{E:XK}{D:Ends}{σ:L2.St}(d:ExT K mg st x y C S)(g:c.nm=x)(s:Same H H1)(h:Rf mg c H E):aGc C E (eE (tC V.non) pP) D σ H1:=
 ⟨rfl,λa f i b e=>h _ a _ (by rw[g];exact d.mg) (s.trans (cF b _))⟩
def hinit (T:!Txt)(fI:Addr):∀X,X.N=(["self","act"]:List Str)->X.env.scope=aC gQ->X.mg=mg->VSs X (dN gQ) (rF (aDh (tVI X.K fI (eE (iK 0) (eE (iK 1) pP)))) (aE4 X.K fI (iK 0) (iK 1))):=by
 intro X c b f;have d:∀{a:Pos},VE X (.Name "self" a) (iK 0):=λ{a}=>vv 0 (by rw[c];rfl) (by left;rw[b];rfl);have e:∀{a:Pos},VE X (.Name "act" a) (iK 1):=λ{a}=>vv 1 (by rw[c];rfl) (by left;rw[b];rfl);have g:Gl X "ValueError":=by show X.env.scope.names.lookup _=_;rw[b];rfl
 exact aA ⟨aRv (aYz (fI:=fI) g (by rw[f];exact T.aAp) (aZ1 d.1 (aZ1 e.1 aPf)))⟩ (aB ⟨bEh d.1 e.1⟩)
def aUz {α β:Type}{R:α->β->Prop}{i:List α}{j:List β}(h:cN R i j)(g:i≠[]):∃as' a bs' b,i=as'++[a]/\j=bs'++[b]/\cN R as' bs'/\R a b:=by
 induction h with
 |nil=>exact absurd rfl g
 |@cons a b i j r t ih=>
  cases t with
  |nil=>exact⟨[],a,[],b,rfl,rfl,.nil,r⟩
  |cons r' t'=>obtain⟨as',x,bs',y,e,c,d,f⟩:=ih (by simp);exact⟨a::as',x,b::bs',y,by rw[e];rfl,by rw[c];rfl,.cons r d,f⟩
def rP:Tg->List Tg
 |.tup (.str k::ts)=>if k = "table" then [] else if k = "join" then ts.take 2 else ts.take 1
 |_=>[]
def bIn:Tg->Nat
 |.tup ts=>ts.length
 |_=>1
def tG:Tg->Nat
 |.tup (.str k::ts)=>if k = "where" then bIn (ts.getD 1 .non) else 1
 |_=>1
inductive Fm:Tg->Prop
 |table {n}:Fm (.tup [.str "table",n])
 |whr {q ts}:1<=ts.length->ts.length<=3->Fm (.tup [.str "where",q,.tup ts])
 |join {q r x}:Fm (.tup [.str "join",q,r,x])
 |two {k:Str} {q x}:k≠"table"->k≠"where"->k≠"join"->Fm (.tup [.str k,q,x])
 |three {k:Str} {q x y}:k≠"table"->k≠"where"->k≠"join"->Fm (.tup [.str k,q,x,y])
def bIy {α:Type}{l:List α}(h:l.length=1):∃a,l=[a]:=by
 match l,h with
 |[a],_=>exact⟨a,rfl⟩
def bEv {α:Type}{l:List α}(h:l.length=2):∃a b,l=[a,b]:=by
 match l,h with
 |[a,b],_=>exact⟨a,b,rfl⟩
def bFp {α:Type}{l:List α}(h:l.length=3):∃a b c,l=[a,b,c]:=by
 match l,h with
 |[a,b,c],_=>exact⟨a,b,c,rfl⟩
def aVe {f:Tg->Bool}{b a:Nat}{t:Tg}(h:dM f b a t=true):∃ts,t=.tup ts/\b<=ts.length/\ts.length<=a/\ts.all f=true:=by
 cases t with
 |tup ts=>have h:(decide (b<=ts.length) && (decide (ts.length<=a) && ts.all f))=true:=h;rw[w6,w6] at h;exact⟨ts,rfl,of_decide_eq_true h.1,of_decide_eq_true h.2.1,h.2.2⟩
 |_=>cases h
def aU9 (h:kW t=true):∃k rs fs,t=.tup (.str k::rs)/\eO k=some fs/\rs.length=fs.length/\(List.zipWith (λf t=>f t) fs rs).all id=true:=by
 cases t with
 |tup ts=>
  match ts with
  |[]=>cases h
  |a::rs=>
   cases a with
   |str k=>
    have h:(match eO k with|some fs=>decide (rs.length=fs.length) && (List.zipWith (λ(f:Tg->Bool) t=>f t) fs rs).all id|none=>false)=true:=h;cases e:eO k with
    |none=>rw[e] at h;cases h
    |some fs=>rw[e] at h;dsimp only at h;rw[w6] at h;exact⟨k,rs,fs,rfl,e,of_decide_eq_true h.1,h.2⟩
   |_=>cases h
 |_=>cases h
def aJe (h:kW t=true):Fm t:=by
 obtain⟨k,m,l,rfl,d,e,f⟩:=aU9 h;have g:=zN d;simp only[forms,bAO,bAG,or_false] at g;rcases g with rfl|rfl|rfl|rfl|rfl|rfl|rfl
 ·cases (show eO "table"=some [bF] from rfl) ▸ d;obtain⟨a,rfl⟩:=bIy e;exact .table
 ·cases (show eO "where"=some [nA,dM pH 1 3] from rfl) ▸ d;obtain⟨a,b,rfl⟩:=bEv e;have f:(nA a && (dM pH 1 3 b && true))=true:=f;rw[w6,bES] at f;obtain⟨n,rfl,i,j,_⟩:=aVe f.2;exact .whr i j
 ·cases (show eO "keep"=some [nA,dM bF 1 8] from rfl) ▸ d;obtain⟨a,b,rfl⟩:=bEv e;exact .two (by trivial) (by trivial) (by trivial)
 ·cases (show eO "named"=some [nA,dM bF 1 8] from rfl) ▸ d;obtain⟨a,b,rfl⟩:=bEv e;exact .two (by trivial) (by trivial) (by trivial)
 ·cases (show eO "join"=some [nA,nA,dM (dM bF 2 2) 1 3] from rfl) ▸ d;obtain⟨a,b,c,rfl⟩:=bFp e;exact .join
 ·cases (show eO "group"=some [nA,dM bF 0 8,dM yV 0 4] from rfl) ▸ d;obtain⟨a,b,c,rfl⟩:=bFp e;exact .three (by trivial) (by trivial) (by trivial)
 ·cases (show eO "first"=some [nA,dM yU 0 3,aGg] from rfl) ▸ d;obtain⟨a,b,c,rfl⟩:=bFp e;exact .three (by trivial) (by trivial) (by trivial)
def Fm.own {t:Tg}(h:Fm t):1<=tG t/\(rP t).length<=2:=by
 cases h with
 |table=>exact⟨by show 1<=1;decide,bAK _⟩
 |whr h1 h2=>exact⟨h1,by show 1<=2;decide⟩
 |join=>exact⟨by show 1<=1;decide,by show 2<=2;decide⟩
 |two a b c=>unfold tG rP;dsimp only;rw[if_neg b,if_neg a,if_neg c];exact⟨v7 _,by show 1<=2;decide⟩
 |three a b c=>unfold tG rP;dsimp only;rw[if_neg b,if_neg a,if_neg c];exact⟨v7 _,by show 1<=2;decide⟩
def aKx (h:eX K H vs [a,b]):∃v u,vs=[v,u]/\bU K H v a/\bU K H u b:=by
 cases h with
 |cons h1 h=>cases h with
  |cons h2 h=>cases h;exact⟨_,_,rfl,h1,h2⟩
def sW (h:eX K H vs [a,b,c]):∃v u x,vs=[v,u,x]/\bU K H v a/\bU K H u b/\bU K H x c:=by
 cases h with
 |cons h1 h=>obtain⟨v,u,rfl,e,d⟩:=aKx h;exact⟨_,_,_,rfl,h1,e,d⟩
def zY (h:eX K H vs [a,b,c,d]):∃v u x y,vs=[v,u,x,y]/\bU K H v a/\bU K H u b/\bU K H x c/\bU K H y d:=by
 cases h with
 |cons h1 h=>obtain⟨v,u,x,rfl,g,f,e⟩:=sW h;exact⟨_,_,_,_,rfl,h1,g,f,e⟩
def dH (h:bU K H v (.str x)):v=.str x:=by cases h;rfl
def nH (h:bU K H v (.tup ts)):∃a vs,v=.ref a/\SqT K H a vs/\vs.length<=1000/\eX K H vs ts:=by
 cases h with
 |tup a b c=>exact⟨_,_,rfl,a,b,c⟩
def aY7 (K:bFQ):Sp:=λvs H Q _=>∃v t H0,vs=[v]/\Same H0 H/\bU K H0 v t/\kW t=true/\∀D H' us,H D=none->Same H H'->H' D=some (.lst us)->eX K H0 us (rP t)->Q (.ref D) H'
def aCd (T:!Txt):!Ok 1 "questions_in" bQJ (aY7 K):=by
 refine Ok.ofV T.aEs aDu (by trivial) (λf L A u s H l Q E O h=>?_)
 obtain⟨v,t,M,rfl,e,m,C,q⟩:=h;refine⟨_,(aA (bH (cU cV (cR cM (vv 0) aD) aF) (aB (aK (bC jJ))) aP) (aB (aK (mW (cU cV (cR cM (vv 0) aD) aF) (bK aO7 (by rfl) T.aWt aQ5 (va1 (cL aLg (vv 0) (cP aD) (cP aD)))) (bC (va1 (cR cM (vv 0) aD))))))),?_⟩;have J:=aJe C;clear C;cases J with
 |table=>obtain⟨p,l,rfl,a,_,c⟩:=nH m;obtain⟨r,o,rfl,i,j⟩:=aKx c;cases dH i;exact⟨_,rfl,_,_,0,_,rfl,rfl,(e.aV a),at0 _ _,rfl,_,rfl,bV ⟨sz0,λD b f d g=>q D b _ f d g .nil⟩⟩
 |whr _ _=>obtain⟨p,l,rfl,a,_,c⟩:=nH m;obtain⟨r,o,x,rfl,i,j,n⟩:=sW c;cases dH i;exact⟨_,rfl,_,_,0,_,rfl,rfl,(e.aV a),at0 _ _,rfl,_,rfl,aZ ⟨_,rfl,_,_,0,_,rfl,rfl,(e.aV a),at0 _ _,rfl,_,rfl,aZ ⟨_,rfl,_,_,1,_,rfl,rfl,(e.aV a),at1 _ _ _,sz1,λD b f d g=>q D b _ f d g (.cons j .nil)⟩⟩⟩
 |join=>obtain⟨p,l,rfl,a,_,c⟩:=nH m;obtain⟨r,o,x,F,rfl,i,j,n,I⟩:=zY c;cases dH i;refine⟨_,rfl,_,_,0,_,rfl,rfl,(e.aV a),at0 _ _,rfl,_,rfl,aZ ⟨_,rfl,_,_,0,_,rfl,rfl,(e.aV a),at0 _ _,rfl,_,rfl,bV ⟨_,rfl,_,rfl,_,rfl,_,_,rfl,(e.aV a),(by show ¬ (HT.sIx 4 0 (some 1)=0/\HT.sIx 4 4 (some 3)=4);decide),λp N B G=>⟨p,_,rfl,.inr (SqT.of G),λD b f d g=>q D b _ (B.free f) (B.trans d) g (.cons j (.cons n .nil))⟩⟩⟩⟩
 |@two k tq tx n1 n2 n3=>
  obtain⟨p,l,rfl,a,_,c⟩:=nH m;obtain⟨r,o,x,rfl,i,j,n⟩:=sW c;cases dH i;have y:rP (.tup [.str k,tq,tx])=[tq]:=by unfold rP;dsimp only;rw[if_neg n1,if_neg n3];rfl
  rw[y] at q;refine⟨_,rfl,_,_,0,_,rfl,rfl,(e.aV a),at0 _ _,rfl,_,rfl,?_⟩;rw[m9 (by intro z;exact n1 (V.str.inj z))];refine aZ ⟨_,rfl,_,_,0,_,rfl,rfl,(e.aV a),at0 _ _,rfl,_,rfl,?_⟩;rw[m9 (by intro z;exact n3 (V.str.inj z))];exact aZ ⟨_,rfl,_,_,1,_,rfl,rfl,(e.aV a),at1 _ _ _,sz1,λD b f d g=>q D b _ f d g (.cons j .nil)⟩
 |@three k tq tx ty n1 n2 n3=>
  obtain⟨p,l,rfl,a,_,c⟩:=nH m;obtain⟨r,o,x,F,rfl,i,j,n,I⟩:=zY c;cases dH i;have y:rP (.tup [.str k,tq,tx,ty])=[tq]:=by unfold rP;dsimp only;rw[if_neg n1,if_neg n3];rfl
  rw[y] at q;refine⟨_,rfl,_,_,0,_,rfl,rfl,(e.aV a),at0 _ _,rfl,_,rfl,?_⟩;rw[m9 (by intro z;exact n1 (V.str.inj z))];refine aZ ⟨_,rfl,_,_,0,_,rfl,rfl,(e.aV a),at0 _ _,rfl,_,rfl,?_⟩;rw[m9 (by intro z;exact n3 (V.str.inj z))];exact aZ ⟨_,rfl,_,_,1,_,rfl,rfl,(e.aV a),at1 _ _ _,sz1,λD b f d g=>q D b _ f d g (.cons j .nil)⟩
def aR2 (K:bFQ):Sp:=λvs H Q _=>∃v t,vs=[v]/\bU K H v t/\kW t=true/\Q (.int (tG t:Nat)) H
def aLb (T:!Txt):!Ok 1 "own_size" bQJ (aR2 K):=by
 refine Ok.ofV T.aO1 aNl (by trivial) (λf D A o s H d Q E I h=>?_)
 obtain⟨v,t,rfl,e,u,q⟩:=h;refine⟨_,(aB (aK (mW (cU cV (cR cM (vv 0) aD) aF) (aU bD (by rfl) T.fX dJ (va1 (cR cM (vv 0) aD))) aD))),?_⟩;have C:=aJe u;clear u;cases C with
 |whr _ _=>obtain⟨p,d,rfl,a,_,b⟩:=nH e;obtain⟨j,i,r,rfl,c,l,g⟩:=sW b;cases dH c;obtain⟨G,F,rfl,y,_,m⟩:=nH g;refine⟨_,rfl,_,_,0,_,rfl,rfl,a,at0 _ _,rfl,_,rfl,bV ⟨_,rfl,_,_,2,_,rfl,rfl,a,at2 _ _ _ _,_,_,rfl,.inr y,?_⟩⟩;rw[m.len];exact q
 |table=>obtain⟨p,d,rfl,a,_,b⟩:=nH e;obtain⟨j,i,rfl,c,l⟩:=aKx b;cases dH c;exact⟨_,rfl,_,_,0,_,rfl,rfl,a,at0 _ _,rfl,_,rfl,aZ q⟩
 |join=>obtain⟨p,d,rfl,a,_,b⟩:=nH e;obtain⟨j,i,r,x,rfl,c,l,g,B⟩:=zY b;cases dH c;exact⟨_,rfl,_,_,0,_,rfl,rfl,a,at0 _ _,rfl,_,rfl,aZ q⟩
 |@two k tq tx n1 n2 n3=>
  obtain⟨p,d,rfl,a,_,b⟩:=nH e;obtain⟨j,i,r,rfl,c,l,g⟩:=sW b;cases dH c;have n:tG (.tup [.str k,tq,tx])=1:=by unfold tG;dsimp only;rw[if_neg n2]
  rw[n] at q;refine⟨_,rfl,_,_,0,_,rfl,rfl,a,at0 _ _,rfl,_,rfl,?_⟩;rw[m9 (by intro z;exact n2 (V.str.inj z))];exact aZ q
 |@three k tq tx ty n1 n2 n3=>
  obtain⟨p,d,rfl,a,_,b⟩:=nH e;obtain⟨j,i,r,x,rfl,c,l,g,B⟩:=zY b;cases dH c;have n:tG (.tup [.str k,tq,tx,ty])=1:=by unfold tG;dsimp only;rw[if_neg n2]
  rw[n] at q;refine⟨_,rfl,_,_,0,_,rfl,rfl,a,at0 _ _,rfl,_,rfl,?_⟩;rw[m9 (by intro z;exact n2 (V.str.inj z))];exact aZ q
mutual
inductive SzT:Tg->Nat->Prop
 |mk {t m}:kW t=true->zL (rP t) m->SzT t (tG t+m)
inductive zL:List Tg->Nat->Prop
 |nil:zL [] 0
 |cons {t n ts m}:SzT t n->zL ts m->zL (t::ts) (n+m)
end
def aE7 (h:SzT t n):kW t=true/\∃m,zL (rP t) m/\n=tG t+m:=by
 cases h with
 |mk a b=>exact⟨a,_,b,rfl⟩
def aAm (h:zL (t::ts) n):∃a b,SzT t a/\zL ts b/\n=a+b:=by
 cases h with
 |cons x y=>exact⟨_,_,x,y,rfl⟩
theorem tR:∀{as:List Tg} {n:Nat},zL (as++bs) n↔∃a b,zL as a/\zL bs b/\n=a+b
 |[],n=>⟨λh=>⟨0,n,.nil,h,by lia⟩,λ⟨a,b,f,g,e⟩=>by cases f;rw[bDN] at e;subst e;exact g⟩
 |x::as,n=>by
  constructor
  ·intro h;obtain⟨a,b,f,g,rfl⟩:=aAm h;obtain⟨c,d,j,i,rfl⟩:=tR.mp g;exact⟨a+c,d,.cons f j,i,by lia⟩
  ·rintro⟨a,b,f,g,rfl⟩;obtain⟨c,d,j,i,rfl⟩:=aAm f;rw[show c+d+b=c+(d+b) by lia];exact .cons j (tR.mpr ⟨d,b,i,g,rfl⟩)
def iY:zL [t] n↔SzT t n:=
 ⟨λh=>by obtain⟨a,b,c,d,rfl⟩:=aAm h;cases d;exact c,λh=>by rw[show n=n+0 from rfl];exact .cons h .nil⟩
def aF7 (f:kW p=true):zL (ts++[p]) n↔∃m,zL (ts++rP p) m/\n=tG p+m:=by
 constructor
 ·intro h;obtain⟨a,b,c,d,rfl⟩:=tR.mp h;obtain⟨_,m,e,rfl⟩:=aE7 (iY.mp d);exact⟨a+m,tR.mpr ⟨a,m,c,e,rfl⟩,by lia⟩
 ·rintro⟨m,h,rfl⟩;obtain⟨a,b,c,d,rfl⟩:=tR.mp h;exact tR.mpr ⟨a,tG p+b,c,iY.mpr (.mk f d),by lia⟩
theorem aSj:∀{vs:List V} {ts:List Tg},eX K H vs ts->cN (bU K H) vs ts
 |_,_,.nil=>.nil
 |_,_,.cons a b=>.cons a (aSj b)
def Right (t:Tg):Prop:=∃n,SzT t n/\n<=20
def aBe (K:bFQ)(mg:bFT):Sp:=λvs H Q E=>∃v t,vs=[v]/\bU K H v t/\(Right t->∀H',Same H H'->Q v H')/\(¬ Right t->Rf mg .ques H E)
def aOj (T:!Txt)(a3:!Ok 7 "has_form" f9 (jG (TgR K kW)))(a4:!Ok 1 "questions_in" bQJ (aY7 K))(a0:!Ok 1 "own_size" bQJ (aR2 K)):!OkX 8 "checked" f9 (aBe K mg):=by
 refine OkX.ofV T.aT4 aFo (by trivial) (λf a1 A G s H vs Q E X h=>?_)
 obtain⟨v,B,rfl,ht,q,qx⟩:=h;obtain⟨S,ad,mS,hS,R,_⟩:=T.aS7;have c:ExT K mg gQ "NoQuestion" "ShardError.__init__" (ad .ques) S:=R .ques;have a5:=aFo.nd;refine⟨_,(aA (aQ 1 aD) (aA (aQ 2 (bC (va1 (vv 0)))) (aA (jL PassesOwn.leaving (aX7 (vv 2)) (aA (aQ 3 (aQz PySem.F.plainAttrs_list PySem.F.slot_list_pop PySem.F.type_list_pop aZ8 (vv 2))) (aA (bH (fY (dB (bY a3 (va1 (vv 3))))) (aB (iI c (λL fd F=>jQ (k:=0) F iG (hinit T L)) (X.mono (by first|decide|lia)) fZ rfl (by rfl) (va1 dO))) aP) (aA (aQ 1 (aO dR (vv 1) (bY a0 (va1 (vv 3))))) (aA (bH (cU aN8 (vv 1) (dX (by rfl) T.qN)) (aB (iI c (λL fd F=>jQ (k:=0) F iG (hinit T L)) (X.mono (by first|decide|lia)) fZ rfl (by rfl) (va1 dO))) aP) (aB (dD (iB PySem.F.plainAttrs_list PySem.F.slot_list_extend PySem.F.type_list_extend aEk (vv 2) (va1 (bY a4 (va1 (vv 3)))))))))))) (aB (aK (vv 0)))))),?_⟩;refine⟨_,rfl,sz1,λW H1 V s1 g1=>?_⟩;refine⟨λm σ g=>∃sz us ts l,σ=[some v,some (.int (sz:Nat)),some (.ref W),l]/\Same H g/\g W=some (.lst us)/\cN (bU K H) us ts/\sz<=20/\us.length<=1+sz/\((∃n,zL ts n/\sz+n<=20)↔Right B)/\m=20 - sz,⟨_,0,_,[B],_,rfl,s1,g1,.cons ht .nil,by decide,by simp,⟨λ⟨n,e,x⟩=>⟨n,iY.mp e,by lia⟩,λ⟨n,e,x⟩=>⟨n,iY.mpr e,by lia⟩⟩,rfl⟩,?_⟩;rintro m σ g ⟨sz,us,ts,l,rfl,sm,eW,hu,h20,hul,hiff,rfl⟩;by_cases y:us=[]
 ·subst y;cases hu;refine⟨_,rfl,false,.inl ⟨[],SqL.of eW,rfl⟩,?_⟩;refine aZ ?_;exact⟨_,rfl,q (hiff.mp ⟨0,.nil,by lia⟩) g sm⟩
 ·obtain⟨d,u,J,p,rfl,rfl,I,M⟩:=aUz hu y;refine⟨_,rfl,true,.inl ⟨_,SqL.of eW,by cases d <;> rfl⟩,?_⟩;refine bV ?_;refine⟨fun Z t=>∃m',m'<20 - sz/\∃sz us ts l,Z=[some v,some (.int (sz:Nat)),some (.ref W),l]/\Same H t/\t W=some (.lst us)/\cN (bU K H) us ts/\sz<=20/\us.length<=1+sz/\((∃n,zL ts n/\sz+n<=20)↔Right B)/\m'=20 - sz,fun Z t h=>h,?_⟩;refine⟨_,rfl,.inl ⟨rfl,_,SqL.of eW⟩,W,_,u,rfl,rfl,eW,?_,?_⟩
  ·rw[j6,bBO,Nat.add_sub_cancel,bBW (v7 _),Nat.sub_self];rfl
  rw[List.dropLast_concat];have r:Same H (upd g W (.lst d)):=rQ V sm;have O:upd g W (.lst d) W=some (.lst d):=aJ;generalize upd g W (.lst d)=Hx at r O;refine⟨_,rfl,u,kW p,rfl,⟨p,M.same r,rfl⟩,λH2 j=>⟨_,rfl,?_⟩⟩;cases o:kW p with
  |false=>
   have C:¬ Right B:=λz=>by obtain⟨n,e,_⟩:=hiff.mpr z;obtain⟨a,b,_,x,_⟩:=tR.mp e;have:=(aE7 (iY.mp x)).1;rw[o] at this;cases this
   exact bV (aNs c rfl (r.trans j) (qx C))
  |true=>
   have a2:=(aJe o).own;refine aZ ?_;refine⟨_,rfl,_,rfl,u,p,rfl,M.same (r.trans j),o,_,_,rfl,rfl,?_⟩;refine⟨_,rfl,_,_,rfl,rfl,_,rfl,?_⟩;by_cases N:sz+tG p<=20
   ·have i:decide ((20:Int)<(sz:Int)+(tG p:Int))=false:=m9 (by lia);rw[i];refine aZ ?_;refine⟨_,rfl,.inl ⟨rfl,_,SqL.of (j _ _ O)⟩,?_⟩;refine⟨_,rfl,u,p,H,rfl,r.trans j,M,o,λD H3 ws fD Y gD U=>?_⟩;have lw:=U.len;rw[j6,bBO] at hul;refine⟨W,D,_,_,rfl,rfl,Y _ _ (j _ _ O),gD,small (by lia),?_⟩;refine⟨_,?_,sz+tG p,d++ws,J++rP p,some u,?_,rQ V (r.trans (j.trans Y)),aJ,I.app (aSj U),N,by rw[j6];lia,?_,rfl⟩
    ·lia
    ·rw[show ((sz+tG p:Nat):Int)=(sz:Int)+(tG p:Int) from by lia];rfl
    ·rw[<-hiff];constructor
     ·rintro⟨n,e,x⟩;exact⟨tG p+n,(aF7 o).mpr ⟨n,e,rfl⟩,by lia⟩
     ·rintro⟨n,e,x⟩;obtain⟨m,h3,rfl⟩:=(aF7 o).mp e;exact⟨m,h3,by lia⟩
   ·have i:decide ((20:Int)<(sz:Int)+(tG p:Int))=true:=v9 (by lia);rw[i];have C:¬ Right B:=λz=>by obtain⟨n,e,x⟩:=hiff.mpr z;obtain⟨m,_,rfl⟩:=(aF7 o).mp e;lia
    exact bV (aNs c rfl (r.trans j) (qx C))
end
section
variable {w:World}{K:bFQ}
def aSm {z:Str}{j:Int}(h0:0<=j)(h1:j<z.length):∃c,z.cps[j.toNat]?=some c:=
 ⟨_,bAP (by show j.toNat<z.length;lia)⟩
def aH (x y:Str):(x++y).length=x.length+y.length:=by show (x.cps++y.cps).size=_;rw[Array.size_append];rfl
def at_of {xs:List V}{j:Int}(h0:0<=j)(h1:j<xs.length):∃v,atI xs j=some v/\v∈xs:=by
 have b:j.toNat<xs.length:=by lia
 refine⟨xs[j.toNat],?_,bCG b⟩;have a:=fQ (d7 b);rw[show ((j.toNat:Nat):Int)=j by lia] at a;exact a
def bBz:∀k:_root_.Fin 26,inA ⟨#[97+k.val]⟩=true:=by trivial
def bGd (h1:97<=c)(h2:c<=122):inA ⟨#[c]⟩=true:=by have:=bBz ⟨c - 97,by lia⟩;simp only at this;rw[show 97+(c - 97)=c by lia] at this;exact this
def allIn_of (h:Lets x):allIn x=true:=by
 unfold allIn;rw[bBI];intro b f;obtain⟨i,c,rfl⟩:=List.mem_map.mp f;have a:=List.mem_range.mp c;have e:x.cps.getD i 0=x.cps[i]:=by rw[bCZ,bAP a];rfl
 obtain⟨d,g⟩:=h _ (Array.getElem_mem a);unfold sgn;rw[e];exact bGd d g
def Lets.add (b:Lets x)(d:Lets y):Lets (x++y):=λc a=>by
 have a:=a;rcases Array.mem_append.mp a with h|h
 ·exact b c h
 ·exact d c h
def Lets.one {z:Str}{i c:Nat}(b:Lets z)(h:z.cps[i]?=some c):Lets ⟨#[c]⟩:=λd a=>by
 have a:=a;have e:d=c:=by simpa using a
 subst e;exact b _ (Array.mem_of_getElem? h)
def aNc:Lets abc:=by
 have h:(abc.cps.all λc=>decide (97<=c) && decide (c<=122))=true:=by trivial
 intro c a;have:=(Array.all_eq_true_iff_forall_mem.mp h) c a;rw[w6] at this;exact⟨of_decide_eq_true this.1,of_decide_eq_true this.2⟩
inductive Qn where
 |table (T:Str)
 |whr (q:Qn) (ts:List Tst)
 |keep (q:Qn) (ns:List Str)
 |nmd (q:Qn) (ns:List Str)
 |join (q r:Qn) (ps:List (Str × Str))
 |group (q:Qn) (ns:List Str) (ss:List Sm)
 |first (q:Qn) (ks:List (Str × Str)) (m:Nat)
inductive IsQ (K:bFQ)(H:Hp):V->Qn->Prop
 |table {a T}:SqT K H a [.str "table",.str T]->Nm T->IsQ K H (.ref a) (.table T)
 |whr {a v q w ts}:SqT K H a [.str "where",v,w]->IsQ K H v q->pR IsT 1 3 K H w ts->IsQ K H (.ref a) (.whr q ts)
 |keep {a v q w ns}:SqT K H a [.str "keep",v,w]->IsQ K H v q->pR qU 1 8 K H w ns->IsQ K H (.ref a) (.keep q ns)
 |nmd {a v q w ns}:SqT K H a [.str "named",v,w]->IsQ K H v q->pR qU 1 8 K H w ns->IsQ K H (.ref a) (.nmd q ns)
 |join {a v q u r w ps}:SqT K H a [.str "join",v,u,w]->IsQ K H v q->IsQ K H u r->pR rB 1 3 K H w ps->IsQ K H (.ref a) (.join q r ps)
 |group {a v q w ns u ss}:SqT K H a [.str "group",v,w,u]->IsQ K H v q->pR qU 0 8 K H w ns->pR nU 0 4 K H u ss->IsQ K H (.ref a) (.group q ns ss)
 |first {a v q w ks m}:SqT K H a [.str "first",v,w,.int (m:Nat)]->IsQ K H v q->pR qZ 0 3 K H w ks->m<=60->IsQ K H (.ref a) (.first q ks m)
def pR.same {α:Type}{S:bFQ->Hp->V->α->Prop}{lo hi:Nat}{K:bFQ}{H H':Hp}{v:V}{xs:List α}(e:Same H H')(k:∀{v t},S K H v t->S K H' v t)(h:pR S lo hi K H v xs):pR S lo hi K H' v xs:=
 ⟨h.1.same e λ_ _=>k,h.2⟩
def IsQ.same {K:bFQ}{H H':Hp}{v:V}{q:Qn}(e:Same H H')(h:IsQ K H v q):IsQ K H' v q:=by
 induction h with
 |table a b=>exact .table (e.aV a) b
 |whr a _ c ih=>exact .whr (e.aV a) ih (c.same e λh=>h.same e)
 |keep a _ c ih=>exact .keep (e.aV a) ih (c.same e λh=>h)
 |nmd a _ c ih=>exact .nmd (e.aV a) ih (c.same e λh=>h)
 |join a _ _ c ih1 ih2=>exact .join (e.aV a) ih1 ih2 (c.same e λh=>h.same e)
 |group a _ c d ih=>exact .group (e.aV a) ih (c.same e λh=>h) (d.same e λh=>h.same e)
 |first a _ c d ih=>exact .first (e.aV a) ih (c.same e λh=>h.same e) d
def kids:Qn->List Qn
 |.table _=>[]
 |.whr q _=>[q]
 |.keep q _=>[q]
 |.nmd q _=>[q]
 |.join q r _=>[q,r]
 |.group q _ _=>[q]
 |.first q _ _=>[q]
def size:Qn->Nat
 |.table _=>1
 |.whr q ts=>size q+ts.length
 |.keep q _=>size q+1
 |.nmd q _=>size q+1
 |.join q r _=>size q+size r+1
 |.group q _ _=>size q+1
 |.first q _ _=>size q+1
abbrev Hdr:=List (Str × Str)
def IsC (K:bFQ)(H:Hp)(v:V)(c:Str × Str):Prop:=∃p,v=.ref p/\SqT K H p [.str c.1,.str c.2]
def IsC.same (e:Same H H')(h:IsC K H v c):IsC K H' v c:=by obtain⟨p,rfl,a⟩:=h;exact⟨p,rfl,e.aV a⟩
def nG (K:bFQ)(H:Hp)(v:V)(hd:Hdr):Prop:=aCl K H (IsC K H) v hd
def nG.same (e:Same H H')(h:nG K H v hd):nG K H' v hd:=aCl.same e (λ_ _ q=>q.same e) h
def look (hd:Hdr)(n:Str):Option Str:=(hd.find? λc=>decide (c.1=n)).map (·.2)
theorem gJ {α β:Type}{R:α->β->Prop}:∀{as:List α} {bs:List β},cN R as bs->∀{i:Nat} {a:α},as[i]?=some a->∃b,bs[i]?=some b/\R a b
 |_,_,.cons r t,0,_,h1=>by cases h1;exact⟨_,rfl,r⟩
 |_,_,.cons r t,i+1,a,h1=>by obtain⟨b,e,q⟩:=gJ t (by simpa using h1);exact⟨b,by simpa using e,q⟩
theorem aSk {α β:Type}{R:α->β->Prop}:∀{as:List α} {bs:List β},as.length=bs.length->(∀(i:Nat) (a:α) (b:β),as[i]?=some a->bs[i]?=some b->R a b)->cN R as bs
 |[],[],_,_=>.nil
 |a::as,b::bs,hl,h=>.cons (h 0 a b rfl rfl) (aSk (by simpa using hl) λi x y c d=>h (i+1) x y (by simpa using c) (by simpa using d))
def aKc (h:cN (qU K H) us ns):us=ns.map V.str:=by
 induction h with
 |nil=>rfl
 |cons r _ ih=>rw[bAE,ih,r.1]
def kindS (v:V):Str:=if whole v then "number" else "word"
def bC5 (hd:Hdr):Oth->Option Str
 |.val x=>some (kindS x)
 |.col d=>look hd d
def aPy (hd:Hdr)(t:Tst):Prop:=∃k,look hd t.c=some k/\bC5 hd t.o=some k
def aBy {α:Type}{f:α->V}{xs:List α}{i:Nat}{y:V}(h:(xs.map f)[i]?=some y):∃x,xs[i]?=some x/\y=f x:=by
 rw[bAD] at h;cases e:xs[i]? with
 |none=>rw[e] at h;cases h
 |some x=>rw[e] at h;cases h;exact⟨x,rfl,rfl⟩
def Looks (hd:Hdr)(ns ks:List Str):Prop:=cN (λn k=>look hd n=some k) ns ks
def lY (K:bFQ)(cs:Hdr):Nat->Hp->V->Prop:=λi H y=>∃c p,cs[i]?=some c/\y=.ref p/\H p=some (.tup [.str c.1,.str c.2])
def lY.st {cs:Hdr}{i:Nat}{H1 H2:Hp}{y:V}(e:Same H1 H2)(h:lY K cs i H1 y):lY K cs i H2 y:=by obtain⟨c,p,b,d,a⟩:=h;exact⟨c,p,b,d,e _ _ a⟩
def lY.su {cs:Hdr}{i:Nat}{H1:Hp}{D:Addr}{ys zs:List V}{y:V}(e:H1 D=some (.lst ys))(h:lY K cs i H1 y):lY K cs i (upd H1 D (.lst zs)) y:=by obtain⟨c,p,b,d,a⟩:=h;exact⟨c,p,b,d,by rw[aR (aCx a e (by intro z;cases z))];exact a⟩
def aRy {cs:Hdr}{H:Hp}{a:Addr}{l:List V}(j:SqT K H a l)(k:l.length=cs.length)(h:∀(i:Nat) (y:V),l[i]?=some y->lY K cs i H y):nG K H (.ref a) cs:=by refine⟨a,l,rfl,j,aSk k λi y c f d=>?_⟩;obtain⟨m,p,b,g,e⟩:=h i y f;rw[d] at b;cases b;exact⟨p,g,SqT.of e⟩
def aE0 {ss:List Str}:(ss.map V.str).all kO=true:=by rw[bBI];intro v a;obtain⟨z,_,rfl⟩:=List.mem_map.mp a;rfl
theorem zP {α:Type}{p:Nat->Bool}{p':α->Bool}:∀{k:Nat} {xs:List α},(∀(i:Nat) (x:α),xs[i]?=some x->p (k+i)=p' x)->sel p k xs=xs.filter p'
 |_,[],_=>rfl
 |k,x::r,h=>by have a:=h 0 x rfl;rw[Nat.add_zero] at a;show (if p k then x::sel p (k+1) r else sel p (k+1) r)=_;rw[List.filter_cons,a,zP (k:=k+1) (xs:=r) λi y e=>by rw[show k+1+i=k+(i+1) by lia];exact h (i+1) y (by simpa using e)]
def aVw {α β:Type}{R:α->β->Prop}{p:Nat->Bool}{d:List α}{c:List β}(h:cN R d c):∀k,cN R (sel p k d) (sel p k c):=by
 induction h with
 |nil=>exact λ_=>.nil
 |@cons a b d c r _ ih=>
  intro k;show cN R (if p k then a::sel p (k+1) d else sel p (k+1) d) (if p k then b::sel p (k+1) c else sel p (k+1) c)
  split
  ·exact .cons r (ih _)
  ·exact ih _
def smK (hd:Hdr)(s:Sm):Option Str:=match s.c with
 |none=>some "number"
 |some c=>look hd c
def aK3 (hd:Hdr)(ss:List Sm)(js:List Str):Prop:=cN (λs j=>smK hd s=some j/\(s.wd = "sum"->j≠"word")) ss js
def Good (hd:Hdr):Prop:=(hd.map (·.1)).Nodup/\1<=hd.length/\hd.length<=8
inductive HH (hs:Str->Option Hdr):Qn->List Hdr->Hdr->Prop
 |table {T hd}:hs T=some hd->HH hs (.table T) [] hd
 |whr {q ts hd}:(∀t∈ts,aPy hd t)->HH hs (.whr q ts) [hd] hd
 |keep {q ns hd ks}:Looks hd ns ks->HH hs (.keep q ns) [hd] (ns.zip ks)
 |nmd {q ns hd}:ns.length=hd.length->HH hs (.nmd q ns) [hd] (List.zipWith (λn c=>(n,c.2)) ns hd)
 |join {q r ps hd ho ks}:cN (λp k=>look hd p.1=some k/\look ho p.2=some k) ps ks->(ps.map (·.1)).Nodup->(ps.map (·.2)).Nodup->HH hs (.join q r ps) [hd,ho] (hd++ho.filter λc=>!decide (c.1∈ps.map (·.2)))
 |group {q ns ss hd ks js}:Looks hd ns ks->aK3 hd ss js->HH hs (.group q ns ss) [hd] (ns.zip ks++(ss.map Sm.new).zip js)
 |first {q ps m hd ks}:Looks hd (ps.map (·.1)) ks->(ps.map (·.1)).Nodup->HH hs (.first q ps m) [hd] hd
inductive HQ (hs:Str->Option Hdr):Qn->Hdr->Prop
 |mk0 {q hd}:kids q=[]->HH hs q [] hd->Good hd->HQ hs q hd
 |mk1 {q k h1 hd}:kids q=[k]->HQ hs k h1->HH hs q [h1] hd->Good hd->HQ hs q hd
 |mk2 {q k l h1 h2 hd}:kids q=[k,l]->HQ hs k h1->HQ hs l h2->HH hs q [h1,h2] hd->Good hd->HQ hs q hd
def bDf (h:IsN v x):∃t,bU K H v t/\bF t=true:=by obtain⟨rfl,n⟩:=h;exact⟨.str x,.str (by have:=fJ n;lia),n⟩
def lJ (n:Nm x):bU K H (.str x) (.str x):=.str (by have:=fJ n;lia)
def bF4 (h:Vl v):aOf v=true:=by
 rcases h with⟨i,rfl,_⟩|⟨x,rfl,hx,h8⟩
 ·rfl
 ·show (false || (decide (0<=x.length) && (decide (x.length<=8) && allIn x)))=true;rw[v9 (bAK _),v9 h8,allIn_of hx];rfl
def bI2 (h:IsO K H v o):∃t,bU K H v t/\rM t=true:=by
 cases o with
 |val x=>
  obtain⟨a,rfl,e,g,c⟩:=h;have c:=bF4 c;rcases g with⟨y,rfl,j⟩|⟨i,rfl⟩|⟨b,rfl⟩|⟨k,hk⟩
  ·exact⟨.tup [.str "value",.str y],.tup e (by show 2<=1000;decide) (.cons (.str (by trivial)) (.cons (.str j) .nil)),c⟩
  ·exact⟨.tup [.str "value",.int i],.tup e (by show 2<=1000;decide) (.cons (.str (by trivial)) (.cons .int .nil)),c⟩
  ·cases c
  ·cases hk <;> cases c
 |col d=>obtain⟨a,rfl,e,f⟩:=h;exact⟨.tup [.str "column",.str d],.tup e (by show 2<=1000;decide) (.cons (.str (by trivial)) (.cons (lJ f) .nil)),f⟩
def bIk (h:IsT K H v o):∃t,bU K H v t/\pH t=true:=by obtain⟨a,w,rfl,e,b,i,d⟩:=h;obtain⟨t,f,j⟩:=bI2 d;have g:=bCq i;refine⟨.tup [.str o.c,.str o.sg,t],.tup e (by show 3<=1000;decide) (.cons (lJ b) (.cons (.str (by lia)) (.cons f .nil))),?_⟩;show (bF (.str o.c) && (lH (.str o.sg) signs && rM t))=true;rw[j,show bF (.str o.c)=true from b,show lH (.str o.sg) signs=true from g.1];rfl
def bG3 (h:rB K H v p):∃t,bU K H v t/\dM bF 2 2 t=true:=by obtain⟨a,rfl,d,b,c⟩:=h;refine⟨.tup [.str p.1,.str p.2],.tup d (by show 2<=1000;decide) (.cons (lJ b) (.cons (lJ c) .nil)),?_⟩;show (bF (.str p.1) && (bF (.str p.2) && true))=true;rw[show bF (.str p.1)=true from b,show bF (.str p.2)=true from c];rfl
def bGy (h:qZ K H v p):∃t,bU K H v t/\yU t=true:=by
 obtain⟨a,rfl,d,b,f⟩:=h;have c:lH (.str p.2) xV=true/\p.2.length<=100000:=by rcases f with e|e <;> rw[e] <;> exact⟨by trivial,by trivial⟩
 refine⟨.tup [.str p.1,.str p.2],.tup d (by show 2<=1000;decide) (.cons (lJ b) (.cons (.str c.2) .nil)),?_⟩;show (bF (.str p.1) && lH (.str p.2) xV)=true;rw[show bF (.str p.1)=true from b,c.1];rfl
def bHp (h:nU K H v p):∃t,bU K H v t/\yV t=true:=by
 obtain⟨a,rfl,d,h⟩:=h;rcases h with⟨_,_,f⟩|⟨c,_,hc,hw,f⟩
 ·refine⟨.tup [.str "count",.non,.str p.new],.tup f (by show 3<=1000;decide) (.cons (.str (by trivial)) (.cons .non (.cons (lJ d) .nil))),?_⟩;show (lH (.str "count") iW && (bF (.str p.new) && (if aJf (.str "count") then aIk .non else bF .non)))=true;rw[show bF (.str p.new)=true from d,show lH (.str "count") iW=true by trivial,show aJf (.str "count")=true by trivial];rfl
 ·have b:lH (.str p.wd) iW=true/\p.wd.length<=100000/\aJf (.str p.wd)=false:=by rcases hw with e|e|e <;> rw[e] <;> exact⟨by trivial,by trivial,by trivial⟩
  refine⟨.tup [.str p.wd,.str c,.str p.new],.tup f (by show 3<=1000;decide) (.cons (.str b.2.1) (.cons (lJ hc) (.cons (lJ d) .nil))),?_⟩;show (lH (.str p.wd) iW && (bF (.str p.new) && (if aJf (.str p.wd) then aIk (.str c) else bF (.str c))))=true;rw[show bF (.str p.new)=true from d,b.1,b.2.2,show bF (.str c)=true from hc];rfl
def bD7 {α:Type}{S:V->α->Prop}{f:Tg->Bool}{H:Hp}{vs:List V}{xs:List α}(k:∀v x,S v x->∃t,bU K H v t/\f t=true)(h:cN S vs xs):∃ts,eX K H vs ts/\ts.length=xs.length/\ts.all f=true:=by
 induction h with
 |nil=>exact⟨[],.nil,rfl,rfl⟩
 |cons r _ ih=>obtain⟨t,c,d⟩:=k _ _ r;obtain⟨ts,b,a,e⟩:=ih;exact⟨t::ts,.cons c b,by rw[d9,d9,a],by rw[List.all_cons,d,e];rfl⟩
def uG {α:Type}{S:bFQ->Hp->V->α->Prop}{f:Tg->Bool}{g i:Nat}{H:Hp}{v:V}{xs:List α}(k:∀v x,S K H v x->∃t,bU K H v t/\f t=true)(hh:i<=1000)(h:pR S g i K H v xs):∃ts,bU K H v (.tup ts)/\ts.length=xs.length/\dM f g i (.tup ts)=true:=by obtain⟨⟨a,l,rfl,d,b⟩,m,n⟩:=h;obtain⟨ts,e,c,j⟩:=bD7 k b;refine⟨ts,.tup d (by have:=b.len;lia) e,c,?_⟩;show (decide (g<=ts.length) && (decide (ts.length<=i) && ts.all f))=true;rw[j,v9 (show g<=ts.length by lia),v9 (show ts.length<=i by lia)];rfl
def aGn (d:eO k=some [f,g])(c:f a=true)(e:g b=true):kW (.tup [.str k,a,b])=true:=by show (match eO k with|some fs=>decide (([a,b]:List Tg).length=fs.length) && (List.zipWith (λ(f:Tg->Bool) t=>f t) fs [a,b]).all id|none=>false)=true;rw[d];show (f a && (g b && true))=true;rw[c,e];rfl
def zB (e:eO k=some [f,g,h])(d:f a=true)(j:g b=true)(i:h c=true):kW (.tup [.str k,a,b,c])=true:=by show (match eO k with|some fs=>decide (([a,b,c]:List Tg).length=fs.length) && (List.zipWith (λ(f:Tg->Bool) t=>f t) fs [a,b,c]).all id|none=>false)=true;rw[e];show (f a && (g b && (h c && true)))=true;rw[d,j,i];rfl
def aOw (h:Nm x):kW (.tup [.str "table",.str x])=true:=by show (bF (.str x) && true)=true;rw[show bF (.str x)=true from h];rfl
def aW6 (h:Nm x):SzT (.tup [.str "table",.str x]) 1:=SzT.mk (aOw h) .nil
def aYx (a:SzT q n)(h:dM pH 1 3 (.tup ts)=true):SzT (.tup [.str "where",q,.tup ts]) (ts.length+n):=
 SzT.mk (aGn rfl rfl h) (iY.mpr a)
def bAr (a:SzT q n)(h:dM bF 1 8 x=true):SzT (.tup [.str "keep",q,x]) (1+n):=
 SzT.mk (aGn rfl rfl h) (iY.mpr a)
def aVt (a:SzT q n)(h:dM bF 1 8 x=true):SzT (.tup [.str "named",q,x]) (1+n):=
 SzT.mk (aGn rfl rfl h) (iY.mpr a)
def aZl (b:SzT q n)(a:SzT r m)(h:dM (dM bF 2 2) 1 3 x=true):SzT (.tup [.str "join",q,r,x]) (1+(n+m)):=
 SzT.mk (zB rfl rfl rfl h) (.cons b (iY.mpr a))
def aVq (a:SzT q n)(h:dM bF 0 8 x=true)(h':dM yV 0 4 y=true):SzT (.tup [.str "group",q,x,y]) (1+n):=
 SzT.mk (zB rfl rfl h h') (iY.mpr a)
def aW4 (a:SzT q n)(h:dM yU 0 3 x=true)(h':aGg y=true):SzT (.tup [.str "first",q,x,y]) (1+n):=
 SzT.mk (zB rfl rfl h h') (iY.mpr a)
def bI1 {H:Hp}{v:V}{q:Qn}(h:IsQ K H v q):∃t,bU K H v t/\SzT t (size q):=by
 induction h with
 |table a b=>exact⟨_,.tup a (by show 2<=1000;decide) (.cons (.str (by trivial)) (.cons (lJ b) .nil)),aW6 b⟩
 |@whr a v q w ts ha _ c ih=>obtain⟨t,g,j⟩:=ih;obtain⟨l,e,k,i⟩:=uG (λ_ _=>bIk) (by decide) c;refine⟨_,.tup ha (by show 3<=1000;decide) (.cons (.str (by trivial)) (.cons g (.cons e .nil))),?_⟩;rw[show size (.whr q ts)=l.length+size q by rw[k];simp only[size];lia];exact aYx j i
 |@keep a v q w ns ha _ c ih=>obtain⟨t,g,j⟩:=ih;obtain⟨l,e,k,i⟩:=uG (S:=qU) (f:=bF) (λ_ _=>bDf) (by decide) c;refine⟨_,.tup ha (by show 3<=1000;decide) (.cons (.str (by trivial)) (.cons g (.cons e .nil))),?_⟩;rw[show size (.keep q ns)=1+size q by simp only[size];lia];exact bAr j i
 |@nmd a v q w ns ha _ c ih=>obtain⟨t,g,j⟩:=ih;obtain⟨l,e,k,i⟩:=uG (S:=qU) (f:=bF) (λ_ _=>bDf) (by decide) c;refine⟨_,.tup ha (by show 3<=1000;decide) (.cons (.str (by trivial)) (.cons g (.cons e .nil))),?_⟩;rw[show size (.nmd q ns)=1+size q by simp only[size];lia];exact aVt j i
 |@join a v q u r w ps ha _ _ c ih1 ih2=>obtain⟨t,g,j⟩:=ih1;obtain⟨z,s,n⟩:=ih2;obtain⟨l,e,k,i⟩:=uG (S:=rB) (f:=dM bF 2 2) (λ_ _=>bG3) (by decide) c;refine⟨_,.tup ha (by show 4<=1000;decide) (.cons (.str (by trivial)) (.cons g (.cons s (.cons e .nil)))),?_⟩;rw[show size (.join q r ps)=1+(size q+size r) by simp only[size];lia];exact aZl j n i
 |@group a v q w ns u ss ha _ c d ih=>obtain⟨t,g,j⟩:=ih;obtain⟨l,e,k,i⟩:=uG (S:=qU) (f:=bF) (λ_ _=>bDf) (by decide) c;obtain⟨x,p,y,o⟩:=uG (S:=nU) (f:=yV) (λ_ _=>bHp) (by decide) d;refine⟨_,.tup ha (by show 4<=1000;decide) (.cons (.str (by trivial)) (.cons g (.cons e (.cons p .nil)))),?_⟩;rw[show size (.group q ns ss)=1+size q by simp only[size];lia];exact aVq j i o
 |@first a v q w ks m ha _ c d ih=>obtain⟨t,g,j⟩:=ih;obtain⟨l,e,k,i⟩:=uG (S:=qZ) (f:=yU) (λ_ _=>bGy) (by decide) c;refine⟨_,.tup ha (by show 4<=1000;decide) (.cons (.str (by trivial)) (.cons g (.cons e (.cons .int .nil)))),?_⟩;rw[show size (.first q ks m)=1+size q by simp only[size];lia];refine aW4 j i ?_;show (decide ((0:Int)<=(m:Int)) && decide ((m:Int)<=60))=true;rw[v9 (by lia),v9 (by lia)];rfl
def bEf:cs abc=(List.range 26).map (97+·):=by trivial
def bHy (c:Nat):inS abc ⟨#[c]⟩=isL c:=by unfold inS;rw[PySem.StrLaws.found_one];show decide (c∈cs abc)=isL c;rw[bEf,bCL];simp only[isL,decide_eq_true_eq,w6,List.mem_map,List.mem_range];exact⟨λ⟨i,h,e⟩=>by lia,λh=>⟨c - 97,by lia,by lia⟩⟩
def aTw (S x:Str)(f:Nat->Bool)(h:∀c,inS S ⟨#[c]⟩=f c):(((List.range x.cps.size).map λi=>V.str (sgn x i)).map λv=>match v with|.str y=>V.bl (inS S y)|_=>.bl false)=(((List.range x.cps.size).map λi=>f (x.cps.getD i 0)).map V.bl):=by rw[bAZ,bAZ];apply bFD;intro i _;show V.bl (inS S ⟨#[_]⟩)=V.bl _;rw[h]
def aLp (f:Str->Bool):Sp:=λvs H Q _=>∃x:Str,vs=[.str x]/\x.length<=100000/\∀H',Same H H'->Q (.bl (f x)) H'
def aDc (x:Str):Bool:=decide (x.length<=8) && (cs x).all isL
def aA5 (x:Str):lO 0 (.str x)=aDc x:=by
 show (decide (0<=x.length) && (decide (x.length<=8) && allIn x))=(decide (x.length<=8) && (cs x).all isL);rw[v9 (bAK _),bBR]
 congr 1
 unfold allIn;rw[<-range_all x isL]
 congr 1
 apply bFD;intro i _;exact bHy _
def aXp (G:!Ok 1 "is_word" f9 (pM K (lO 0))):!Ok 1 "is_word" f9 (aLp aDc):=
 aXj G λb H Q E ⟨x,e,h,q⟩=>⟨_,e,.inl ⟨x,rfl,h⟩,λa s=>by rw[aA5];exact q a s⟩
def aEi (x:Str):Bool:=xN (cs x)
def aFn (T:!Txt):!Ok 1 "are_figures" bQD (aLp aEi):=by
 refine Ok.ofV T.aHb aFq (by trivial) (λf M A d s H W Q E Z h=>?_)
 obtain⟨x,rfl,m,q⟩:=h;refine⟨_,(aA (bH (VW.pt (uQ (fY (aN4 aIl aIl aD (aU lB (by rfl) T.fX dJ (va1 (vv 0))) (dX (by rfl) T.aGk))) (pA (fY (dB (aU (zX rfl) (by rfl) T.aRk aJw (va1 (gM (N:=["sign"]) ck lA rfl (aX4 (vv 0)) (λY X O S=>⟨(jW 0),jK,(wX aIq (vv 0) (dX (by rfl) T.aTu) (by with_unfolding_all rfl))⟩))))))))) (aB (aK iT)) aP) (aB (aK (bCl (aDs cV (vv 0) aF) (pJ (aDs oX (kJ (vv 0) aD (λ_ _=>rfl)) aF)))))),?_⟩;refine⟨_,rfl,_,rfl,big m,_,_,rfl,rfl,_,rfl,?_⟩;have hl:=lF x;have n:aEi x=false->Q (.bl false) H:=λe=>by rw[<-e];exact q H (Same.refl H)
 refine qY (λc=>⟨_,_,rfl,rfl,_,rfl,?_⟩) (λc=>?_)
 ·have B:=of_decide_eq_true c;by_cases C:x.length<=60
  ·rw[v9 (by lia)];refine aZ ?_;dsimp only[aDd,aHf,tCB,eE,tB,bFm];refine aHu ((List.range x.cps.size).map λi=>V.str (sgn x i)) (λv=>match v with|.str y=>V.bl (inS figs y)|_=>.bl false) [none] aB7 ?_
    (λR r=>aV2 (λU L=>⟨_,rfl,L⟩) R r) (λv j O R l t r=>?_) rfl λD I=>?_
   ·rw[j5,bAN];exact big m
   ·obtain⟨i,_,rfl⟩:=List.mem_map.mp j;exact⟨_,rfl,_,_,rfl,rfl,r⟩
   ·refine⟨D,(List.range x.cps.size).map λi=>isD (x.cps.getD i 0),rfl,SqL.of (by rw[aJ,aTw _ _ _ inF]),?_⟩;rw[range_all];have t:=cF I (.lst (((List.range x.cps.size).map λi=>V.str (sgn x i)).map λv=>match v with|.str y=>V.bl (inS figs y)|_=>.bl false));have z:aEi x=((cs x).all isD && (decide (cs x=[48]) || !decide ((cs x).head?=some 48))):=by unfold aEi xN;rw[v9 (by lia),v9 (by lia)];rfl
    have a:∀b,aEi x=b->Q (.bl b) _:=λb e=>by rw[<-e];exact q _ t
    refine⟨_,rfl,?_⟩;cases u:(cs x).all isD with
    |false=>rw[u] at z;exact bV (a _ z)
    |true=>
     rw[u] at z;refine aZ ⟨_,rfl,rfl,_,rfl,?_⟩;have J:∀y:Str,decide (V.str x=V.str y)=decide (cs x=cs y):=λy=>decide_eq_decide.mpr ⟨λe=>jH.mp (V.str.inj e),λe=>congrArg V.str (jH.mpr e)⟩;rw[J,show cs "0"=[48] by trivial];cases o:decide (cs x=[48]) with
     |true=>rw[o] at z;exact bV (a _ z)
     |false=>
      rw[o] at z;refine aZ ?_;have g:0<x.cps.size:=by have:x.length=x.cps.size:=rfl;lia
      refine⟨_,rfl,_,_,_,rfl,rfl,(by decide),(by decide),(by lia),bAP g,rfl,?_⟩;have G:(!decide (V.str ⟨#[x.cps[0]]⟩=V.str "0"))=!decide ((cs x).head?=some 48):=by
       congr 1
       refine decide_eq_decide.mpr ⟨λe=>?_,λe=>?_⟩
       ·have k:=jH.mp (V.str.inj e);rw[show cs "0"=[48] by trivial] at k;have F:x.cps[0]=48:=by simpa [cs] using k
        rw[List.head?_eq_getElem?,bBP,bAP g,F]
       ·rw[List.head?_eq_getElem?,bBP,bAP g] at e;rw[bAM e];decide +kernel
      rw[G];exact a _ z
  ·rw[m9 (by lia)];refine bV (n ?_);unfold aEi xN;rw[m9 (p:=(cs x).length<=60) (by lia)];simp
 ·have B:=of_decide_eq_false (Bool.eq_false_iff.mpr c);refine⟨_,rfl,bV (n ?_)⟩;unfold aEi xN;rw[m9 (by lia)];simp
def aJs (x:Str):Bool:=aDw (cs x)
def qtB (x:Str):Bool:=aKd (cs x)
def bHt (x:Str):decide (V.str ⟨((cs x).take 1).toArray⟩=V.str "-")=decide ((cs x).head?=some 45):=by
 refine decide_eq_decide.mpr ⟨λe=>?_,λe=>?_⟩
 ·have c:=jH.mp (V.str.inj e);rw[show cs "-"=[45] by trivial] at c;have b:(cs x).take 1=[45]:=by simpa [cs] using c
  cases h:cs x with
  |nil=>rw[h] at b;cases b
  |cons a t=>rw[h] at b;simp at b;rw[b];rfl
 ·cases h:cs x with
  |nil=>rw[h] at e;cases e
  |cons a t=>rw[h] at e;cases e;exact congrArg V.str (jH.mpr (by rw[show cs "-"=[45] by trivial];rfl))
def qP (T:!Txt)(n:!Ok 1 "are_figures" bQD (aLp aEi)):!Ok 2 "is_number_text" bQD (aLp aJs):=by
 refine Ok.ofV T.aBw aAg (by trivial) (λf r A j s H v Q E t h=>?_)
 obtain⟨x,rfl,g,q⟩:=h;refine⟨_,(aA (bH (cU cV (cL mK (vv 0) dY (cP aD)) aF) (aB (aK (lX (bY n (va1 (cL mK (vv 0) (cP aD) dY))) (pJ (aDs oX (vv 0) aF))))) aP) (aB (aK (bY n (va1 (vv 0)))))),?_⟩;have u:=lF x;refine⟨_,rfl,_,rfl,_,rfl,big g,?_⟩;rw[bH1];refine⟨rfl,_,rfl,?_⟩;rw[bHt];refine qY (λc=>?_) (λc=>?_)
 ·have d:=of_decide_eq_true c;have m:1<=(cs x).length:=by cases h:cs x with
   |nil=>rw[h] at d;cases d
   |cons _ _=>simp
  refine⟨_,rfl,_,rfl,_,rfl,big g,?_⟩;rw[aZ9 m];refine⟨_,rfl,(by show (List.toArray _).size<=100000;rw[v8,List.length_tail];lia),λl i=>⟨_,rfl,?_⟩⟩;have z:aJs x=(xN (cs x).tail && !decide (cs x=[45,48])):=by unfold aJs aDw;rw[if_pos d]
  have p:aEi ⟨(cs x).tail.toArray⟩=xN (cs x).tail:=rfl;rw[p];have a:∀b,aJs x=b->Q (.bl b) l:=λb e=>by rw[<-e];exact q _ i
  cases k:xN (cs x).tail with
  |false=>rw[k] at z;exact aZ (a _ z)
  |true=>rw[k] at z;refine bV ⟨_,rfl,rfl,?_⟩;have o:decide (V.str x=V.str "-0")=decide (cs x=[45,48]):=decide_eq_decide.mpr ⟨λe=>by rw[jH.mp (V.str.inj e)];decide +kernel,λe=>congrArg V.str (jH.mpr (by rw[e];decide +kernel))⟩;rw[o];exact a _ z
 ·have d:=of_decide_eq_false (Bool.eq_false_iff.mpr c);refine⟨_,rfl,_,rfl,g,λl i=>?_⟩;have z:aJs x=aEi x:=by unfold aJs aDw aEi;rw[if_neg d]
  rw[<-z];exact q _ i
def first_is (hn:0<x.cps.size)(y:Str)(c:Nat)(f:cs y=[c]):decide (V.str ⟨#[x.cps[0]]⟩=V.str y)=decide ((cs x).head?=some c):=by
 have a:(cs x).head?=some x.cps[0]:=by rw[List.head?_eq_getElem?,bBP,bAP hn]
 refine decide_eq_decide.mpr ⟨λe=>?_,λe=>?_⟩
 ·have b:=jH.mp (V.str.inj e);rw[f] at b;have d:x.cps[0]=c:=by simpa [cs] using b
  rw[a,d]
 ·rw[a] at e;rw[bAM e];exact congrArg V.str (jH.mpr (by rw[f]))
def aZr {x:Str}(hn:0<x.cps.size):(seqIndex? (-1) x.length).bind (x.cps[·]?)=some (x.cps[x.cps.size - 1]'(by lia)):=by have a:x.length=x.cps.size:=rfl;rw[PySem.StrLaws.seqIndex_neg (by decide) (by lia)];show x.cps[((-1:Int)+x.length).toNat]?=_;rw[show ((-1:Int)+x.length).toNat=x.cps.size - 1 by lia,bAP (by lia)]
def bAp (hn:0<x.cps.size)(y:Str)(c:Nat)(f:cs y=[c]):decide (V.str ⟨#[x.cps[x.cps.size - 1]'(by lia)]⟩=V.str y)=decide ((cs x).getLast?=some c):=by
 have a:(cs x).getLast?=some (x.cps[x.cps.size - 1]'(by lia)):=by rw[List.getLast?_eq_getElem?,bBP,bAW,bAP (by lia)]
 refine decide_eq_decide.mpr ⟨λe=>?_,λe=>?_⟩
 ·have b:=jH.mp (V.str.inj e);rw[f] at b;have d:x.cps[x.cps.size - 1]'(by lia)=c:=by simpa [cs] using b
  rw[a,d]
 ·rw[a] at e;rw[bAM e];exact congrArg V.str (jH.mpr (by rw[f]))
def uP (T:!Txt)(r:!Ok 1 "is_word" f9 (aLp aDc)):!Ok 2 "is_word_text" bQD (aLp qtB):=by
 refine Ok.ofV T.aFw aDy (by trivial) (λf p A k s H v Q E t h=>?_)
 obtain⟨x,rfl,l,q⟩:=h;refine⟨_,(aB (aK (lX (aDs bH4 (aU lB (by rfl) T.fX dJ (va1 (vv 0))) aD) (lX (aDs cV (kJ (vv 0) aD (λ_ _=>rfl)) aF) (lX (aDs cV (aKq (vv 0) (aY9 aQr aD) (λ_ _=>rfl)) aF) (pJ (bY r (va1 (cL mK (vv 0) (cP aD) (cP (aY9 aQr aD))))))))))),?_⟩;have u:=lF x;have n:=bEs;have a:∀b,qtB x=b->Q (.bl b) H:=λb e=>by rw[<-e];exact q _ (Same.refl H)
 refine⟨_,rfl,_,rfl,big l,_,_,rfl,rfl,_,rfl,?_⟩;unfold qtB aKd at a;refine qY (λc=>?_) (λc=>?_)
 ·have d:2<=(cs x).length:=by have:(2:Int)<=x.length:=of_decide_eq_true c;lia
  have g:0<x.cps.size:=by have:x.length=x.cps.size:=rfl;lia
  rw[v9 d] at a;refine⟨_,rfl,_,_,_,rfl,rfl,(by decide),(by decide),(by lia),bAP g,rfl,_,rfl,?_⟩;rw[first_is g _ _ n];cases i:decide ((cs x).head?=some 39) with
  |false=>rw[i] at a;exact aZ (a _ rfl)
  |true=>
   rw[i] at a;refine bV ⟨_,rfl,_,rfl,_,_,_,rfl,rfl,(by decide),(by decide),aZr g,rfl,_,rfl,?_⟩;rw[bAp g _ _ n];cases j:decide ((cs x).getLast?=some 39) with
   |false=>rw[j] at a;exact aZ (a _ rfl)
   |true=>
    rw[j] at a;refine bV ⟨_,rfl,_,rfl,_,rfl,_,rfl,_,rfl,big l,?_⟩;rw[bG1 d];have m:(⟨(inn (cs x)).toArray⟩:Str).length=(inn (cs x)).length:=by show (List.toArray _).size=_;rw[v8]
    have y:(inn (cs x)).length<=(cs x).length:=by unfold inn;rw[bEV,List.length_tail];lia
    refine⟨_,rfl,by rw[m];lia,λB o=>?_⟩;have z:aDc ⟨(inn (cs x)).toArray⟩=qtB x:=by unfold aDc qtB aKd;rw[m,v9 d,i,j];rfl
    rw[z];exact q _ o
 ·have d:¬ 2<=(cs x).length:=by have:¬ (2:Int)<=x.length:=of_decide_eq_false (Bool.eq_false_iff.mpr c);lia
  rw[m9 d] at a;exact a _ rfl
def rdT (v:V):Option V:=match v with
 |.str x=>rdV x
 |_=>none
def aD8 (K:bFQ)(C:Addr):Sp:=λvs H Q E=>∃v,vs=[v]/\Th K H v/\match rdT v with
 |some u=>∀H',Same H H'->Q u H'
 |none=>∀e H',Same H H'->E (.ref C) (some e) H'
def yG (T:!Txt)(c:ExT K mg gQ "NoWords" "ShardError.__init__" C S)(J:!Ok 2 "is_number_text" bQD (aLp aJs))(z:!Ok 2 "is_word_text" bQD (aLp qtB)) :
  !OkX 3 "read_value" bQG (aD8 K C):=by
 refine OkX.ofV T.aKk aHa (by trivial) (λf L A o s H O Q E y h=>?_)
 obtain⟨v,rfl,t,q⟩:=h;refine⟨_,(aA (bH (fY (dB (aU (mR.or kY) (by rfl) T.bZ bR (aG (vv 0) (va1 (gR (v:=.ty "str") (by rfl) T.aCz vK rfl)))))) (aB (iI c (λr G F=>jQ (k:=0) F iG (hinit T r)) (y.mono (by first|decide|lia)) fZ rfl (by rfl) (va1 dO))) aP) (aA (bH (dB (bY J (va1 (vv 0)))) (aB (aK (bK aUg (by rfl) T.aHp aBz (va1 (vv 0))))) aP) (aA (bH (dB (bY z (va1 (vv 0)))) (aB (aK (cL mK (vv 0) (cP aD) (cP (aY9 aQr aD))))) aP) (aB (iI c (λr G F=>jQ (k:=0) F iG (hinit T r)) (y.mono (by first|decide|lia)) fZ rfl (by rfl) (va1 dO)))))),?_⟩;refine⟨_,rfl,qX t (.inr (.inr rfl)) ⟨_,rfl,?_⟩⟩;have l:∀{g:Hp} {D:Ends} {σ:L2.St},Same H g->rdT v=none->aGc C E (eE (tC V.non) pP) D σ g:=λ{g D σ} d e=>by rw[e] at q;exact⟨rfl,λa R W B N=>q a _ (d.trans (cF B _))⟩
 rcases id t with⟨x,rfl,p⟩|⟨i,rfl⟩|⟨b,rfl⟩|⟨k,h⟩
 ·refine aZ ⟨_,rfl,_,rfl,p,λg d=>⟨_,rfl,?_⟩⟩;have U:=lF x;have j:rdT (.str x)=if aJs x then some (.int (aMh (cs x))) else if qtB x then some (.str ⟨(inn (cs x)).toArray⟩) else none:=rfl
  rw[j] at q;cases m:aJs x with
  |true=>rw[m,if_pos rfl] at q;exact bV ⟨_,rfl,_,_,rfl,(aSo m).1,(aSo m).2,q g d⟩
  |false=>
   rw[m,if_neg (by decide)] at q j;refine aZ ⟨_,rfl,_,rfl,p,λI u=>⟨_,rfl,?_⟩⟩;cases n:qtB x with
   |true=>
    rw[n,if_pos rfl] at q;have M:2<=(cs x).length:=by have:=n;unfold qtB aKd at this;exact of_decide_eq_true (Bool.and_eq_true_iff.mp this).1
    refine bV ⟨_,rfl,_,rfl,_,rfl,_,rfl,_,rfl,big p,?_⟩;rw[bG1 M];exact q I (d.trans u)
   |false=>rw[n,if_neg (by decide)] at j;exact aZ (l (D:={ nx:=λ_ _=>True,rt:=Q }) (σ:=[]) (d.trans u) j)
 ·exact bV (l (Same.refl H) rfl)
 ·exact bV (l (Same.refl H) rfl)
 ·cases h <;> exact bV (l (Same.refl H) rfl)
def aMl:Sp:=λvs H Q _=>∃v,vs=[v]/\Vl v/\Q (.str (shw v)) H
def aXn {i:Int}(h:i.natAbs<10 ^ 60):i.natAbs.log2<1920:=by
 by_cases z:i.natAbs=0
 ·rw[z];decide
 ·exact (Nat.log2_lt z).mpr (bFE h (by trivial))
end
end My
namespace HT
open PySem PySem.Spec PyProof.Rows L2
def xJ {t z:Addr}{a:Array Value}{vl vu:Value}{j q:Option Int}{Q:bFR}(c:IsTup s.heap t a)(hs:s.heap.IsSliceOf z vl vu .none)(pl:IsPart vl j)(D:IsPart vu q)
  (p:sIx a.size 0 j=0/\sIx a.size a.size q=a.size) (h:Q (.ref t) s):wpAny (model prog w) A (getItem (.ref t) (.ref z)) Q E s:=by
 obtain⟨x,e,i,o⟩:=id hs;have f:s.TypeIs (.ref z) "slice":=⟨x,e,i⟩;obtain⟨⟨y,C,k,r⟩,v,m,n,l⟩:=id c;simp only at m l;subst m l;unfold getItem
 try with_reducible refine bBM ?_
 first|refine c7 (j9 ?_)|skip
 refine c7 (wpAny_sequenceKey c.typeIs (by decide) ?_);refine c7 (bBG c.typeIs bCM
  (bBX bCM c.typeIs entry_tuple_getitem ?_ (args_tuple_getitem _ _)))
 show wpAny _ _ (Builtin.Tuple.tupleItemsOf (.ref t) >>= _) _ _ s;refine c7 (tupleItemsOf_ c ?_);refine c7 (wpAny_typeOf f ?_);rw[if_pos (by decide)];refine c7 (sS hs pl D ?_);have b:((((sIx a.size 0 j:Nat):Int) == 0 && (1:Int) == 1 && (sIx a.size a.size q - sIx a.size 0 j) == a.size)=true):=by rw[p.1,p.2];simp
 show wpAny _ _ (if (((sIx a.size 0 j:Nat):Int) == 0 && (1:Int) == 1 && (sIx a.size a.size q - sIx a.size 0 j) == a.size)=true then _ else _) _ _ s;rw[if_pos b];obtain⟨B,g,d,tk,u⟩:=s;wp_walk using AutoSeq1.wpAny_loadPart' v;exact⟨_,rfl,j9 h⟩
end HT
namespace L2
open PySem PySem.Spec PyProof.Rows
def bIz (K:bFQ):V->Option Int->Option Int->Hp->VK->Prop:=λx lo hi H Q=>∃a xs,x=.ref a/\SqT K H a xs/\∀p H',Same H H'->SqT K H' p (uC xs lo hi)->Q (.ref p) H'
def bAv:SlR X (bIz X.K):=by
 intro i s σ H x v u z g k A Q I n l m t h;obtain⟨a,b,rfl,j,q⟩:=h;by_cases d:HT.sIx b.length 0 g=0/\HT.sIx b.length b.length k=b.length
 ·cases n;obtain⟨f,r,o,C⟩:=I.tuple j;have c:f.toArray.size=b.length:=by rw[v8];exact r.length.symm
  refine⟨"tuple",_,PyProof.Rows.slot_tuple_getitem.lookup,o.typeIs,?_⟩;refine HT.xJ o l m t (by rw[c];exact d) ⟨.ref a,H,I,rfl,q a H (Same.refl H) ?_⟩;have e:uC b g k=b:=by unfold uC;rw[d.1,d.2,bFJ,Nat.sub_zero,bBY]
  rw[e];exact j
 ·exact aLg i s σ H _ v u z g k A Q I n l m t ⟨a,b,rfl,j,d,λp B y w=>q p B y (SqT.of w)⟩
def bIg (K:bFQ):R2:=λx y H Q=>∃a b xs,x=.ref a/\y=.ref b/\SqL K H a xs/\SqL K H b []/\Q (.bl xs.isEmpty) H
def aV0 (k:X.A.units<cLine):OpR X (compareOp .Eq) (bIg X.K):=by
 intro m s σ H x y v u Q I w C h;obtain⟨a,b,r,rfl,rfl,B,l,q⟩:=h;cases w;cases C;obtain⟨i,n,g,F⟩:=I.list B;obtain⟨p,c,f,E⟩:=I.list l;have d:=n.length;have o:=c.length;have z:=List.length_eq_zero_iff.mp o.symm;subst z;cases r with
 |nil=>have D:=List.length_eq_zero_iff.mp d.symm;subst D;refine SeqAt.RcAt.lists (e:=λ_=>true) g.isList f.isList rfl k (λj t G=>by simp at t) _ _ _ _ ?_;exact⟨.bl true,H,I,rfl,q⟩
 |cons y ys=>
  refine SeqAt.RcAt.lists_lengths g.isList f.isList ?_ k _ _ _ _ ?_
  ·rw[d9] at d;simp only[v8,bCD];rw[<-d];simp
  ·exact⟨.bl false,H,I,rfl,q⟩
inductive PH (P:Program)(w:World):List DictEntry->List (Str × Value)->Prop
 |nil:PH P w [] []
 |cons {e:DictEntry} {kv:Str × Value} {es:List DictEntry} {kvs:List (Str × Value)}:(strKind P w).is kv.1 e.key=true->e.hash=(strKind P w).hash kv.1->e.val=kv.2->PH P w es kvs->PH P w (e::es) (kv::kvs)
def PH.keys (h:PH P w es kvs):∀e∈es,∃k,(strKind P w).is k e.key=true/\e.hash=(strKind P w).hash k:=by
 induction h with
 |nil=>intro e he;cases he
 |cons a b c _ ih=>
  intro e he;rcases List.mem_cons.mp he with rfl|he
  ·exact⟨_,a,b⟩
  ·exact ih e he
def PH.pairs (h:PH P w es kvs):Pairs (strKind P w) es kvs:=by
 induction h with
 |nil=>exact .nil
 |cons a b c _ ih=>exact .cons a c ih
def aT9 {P:Program}{w:World}{o:Obj}{d:Array DictEntry}{ep:Nat}{kvs:List (Str × Value)}(b:o.ExactDict)(hd:o.data=.dict d ep)(h:PH P w d.toList kvs)(c:(kvs.map (·.1)).Nodup):o.IsDictOf (strKind P w) kvs:=
 ⟨d,ep,b,hd,λe a=>h.keys e (Array.mem_toList_iff.mpr a),h.pairs,c⟩
end L2
namespace PySem
def aDr:typeLookup (.type "tuple") "keys"=pure none:=am_miss_of_fast (by trivial)
def aEg:typeLookup (.type "list") "keys"=pure none:=am_miss_of_fast (by trivial)
def sqN:Bool->String
 |true=>"list"
 |false=>"tuple"
def aI7 (m:s.heap.get? a=some o)(r:o.cls=.type "tuple")(i:o.data=.seq xs k)(hd:o.dict=none)(z:A.handled=none)
  (h:∀h' tk,(∀b u,s.heap.get? b=some u->h'.get? b=some u)->Q none { s with heap:=h',toks:=tk }):wpAny (model prog w) A (getAttr? (.ref a) "keys") Q E s:=by
 obtain⟨c,v,n,p⟩:=o;simp only at r i hd;subst r i hd;obtain⟨q,g,d,tk,t⟩:=s;have l:∀j,(⟨q,g,d,j,t⟩:Shared).TypeIs (.ref a) "tuple":=λ_=>⟨_,m,rfl⟩;have x:=sub_AttributeError;have H:=F.slot_tuple_getattribute.lookup;have C:=F.slot_tuple_getattribute.bind (.ref a);have D:=am_tuple_getattr_none;unfold getAttr? getAttrBy? getAttrBy
 repeat (any_goals (first|assumption|exact l _|((with_reducible show wpAny _ _ (call (Value.builtin "tuple.__getattribute__") _ _) _ _ _);refine call_meets F.slot_tuple_getattribute (l _) am_entry_tuple_getattribute (F.args_tuple_getattribute_2 _ _) (meets_getattribute_miss_tuple a xs k p "keys" _ aDr (by trivial) (by size_fits)) ⟨m,z,λh' j e f=>?_⟩)|wp_step))
 obtain⟨G,y,B⟩:=f.there;unfold getattributeRaised
 repeat (any_goals (first|assumption|wp_step))
 exact h _ _ f.keeps
def aNq (m:s.heap.get? a=some o)(r:o.cls=.type "list")(i:o.data=.seq xs k)(hd:o.dict=none)(z:A.handled=none)
  (h:∀h' tk,(∀b u,s.heap.get? b=some u->h'.get? b=some u)->Q none { s with heap:=h',toks:=tk }):wpAny (model prog w) A (getAttr? (.ref a) "keys") Q E s:=by
 obtain⟨c,v,n,p⟩:=o;simp only at r i hd;subst r i hd;obtain⟨q,g,d,tk,t⟩:=s;have l:∀j,(⟨q,g,d,j,t⟩:Shared).TypeIs (.ref a) "list":=λ_=>⟨_,m,rfl⟩;have x:=sub_AttributeError;have H:=F.slot_list_getattribute.lookup;have C:=F.slot_list_getattribute.bind (.ref a);have D:=am_list_getattr_none;unfold getAttr? getAttrBy? getAttrBy
 repeat (any_goals (first|assumption|exact l _|((with_reducible show wpAny _ _ (call (Value.builtin "list.__getattribute__") _ _) _ _ _);refine call_meets F.slot_list_getattribute (l _) am_entry_list_getattribute (F.args_list_getattribute_2 _ _) (meets_getattribute_miss_list a xs k p "keys" _ aEg (by trivial) (by size_fits)) ⟨m,z,λh' j e f=>?_⟩)|wp_step))
 obtain⟨G,y,B⟩:=f.there;unfold getattributeRaised
 repeat (any_goals (first|assumption|wp_step))
 exact h _ _ f.keeps
def aT5 (d:s.heap.get? a=some o)(e:o.cls=.type (sqN L))(c:o.data=.seq xs k)(hd:o.dict=none)(f:A.handled=none)
  (h:∀h' tk,(∀b u,s.heap.get? b=some u->h'.get? b=some u)->Q none { s with heap:=h',toks:=tk }):wpAny (model prog w) A (getAttr? (.ref a) "keys") Q E s:=by
 cases L
 ·exact aI7 d e c hd f h
 ·exact aNq d e c hd f h
def lL:entryFor table "dict.update.loop"=some Builtin.«dict.update.loop»:=entryFor_of_tree (by kernel_rfl)
def eY:plainId "dict.update.loop"=true:=by trivial
section
variable {prog:Program}{w:World}{κ:Type}[DecidableEq κ]{knd:KeyKind prog w κ}
def yR (knd:KeyKind prog w κ)(h:Heap)(v:Value)(kv:κ × Value):Prop:=∃p key,v=.ref p/\PyProof.Rows.IsTup h p #[key,kv.2]/\knd.is kv.1 key=true
def yR.at (x:yR knd h v kv)(k:∀p,v=.ref p->∀o,h.get? p=some o->h'.get? p=some o):yR knd h' v kv:=by obtain⟨p,a,rfl,⟨o,c,r⟩,b⟩:=x;exact⟨p,a,rfl,⟨o,k p rfl o c,r⟩,b⟩
def aDz (W:Walks prog w A.in1 I fp wr n P St)(D:Addr)(hD:D∉fp)
  (kvs:List (κ × Value)) (Z:kvs.length=n) (hb:n<=1000) (hP:∀i v,P i v->∀p,v=.ref p->p∉D::wr) :
  ∀k i s t,i+k=n->St i s.heap->s.heap.DictOf knd D (merged [] (kvs.take i))->(∀j v kv,P j v->kvs[j]?=some kv->yR knd s.heap v kv) ->
   (∀h' tk,(∀b o,b∉D::wr->s.heap.get? b=some o->h'.get? b=some o)->h'.DictOf knd D (merged [] kvs)->R (.ok (.ret .none)) { s with heap:=h',toks:=tk }) ->
   codeAny (model prog w) A (.builtin "dict.update.loop" ⟨[.ref D,.ref I,.int (i:Nat) t,.none],[]⟩) R s:=by
 have x:D∉wr:=λq=>hD (W.sub _ q);intro k
 induction k with
 |zero=>
  intro i s t hi G C hp q;obtain rfl:i=n:=by lia
  refine bDQ lL ?_;rw[bDT eY _];refine c7 (W.done s _ _ G λh' tk kp=>?_);refine c7 (j9 (j9 (q h' tk (λb o l e=>kp b o (λz=>l (j8 _ z)) e) ?_)));rw[bBK (Nat.le_of_eq Z)] at C;exact C.at λo e=>kp D o x e
 |succ k ih=>
  intro i s t hi G C hp q;refine bDQ lL ?_;rw[bDT eY _];refine c7 (W.item i s _ _ (by lia) G λv F a hv L c=>?_);have U:i<kvs.length:=by lia
  have B:=d7 U;have K:=C.at λo e=>c D o x e;have y:∀j v kv,P j v->kvs[j]?=some kv->yR knd F v kv:=λj v kv u e=>(hp j v kv u e).at λp M o H=>c p o (λz=>hP j v u p M (j8 _ z)) H;obtain⟨p,Y,rfl,⟨⟨oc,od,ox,a0⟩,ho,hc,m,hx⟩,hk⟩:=y i v _ hv B;simp only at hc hx;subst hc hx;have T:(merged [] (kvs.take i)).length<=i:=by have:=merged_length_le [] (kvs.take i);rw[bAU] at this;simp only[bCD] at this;lia
  obtain⟨X,g,d,tk,V⟩:=s;have hT:(⟨F,g,d,a,V⟩:Shared).TypeIs (.ref p) "tuple":=⟨_,ho,rfl⟩;have S:∀Q E,Q [Y,kvs[i].2] ⟨F,g,d,a,V⟩->wpAny (model prog w) A.in1 (Builtin.Dict.pairItems (.ref p)) Q E ⟨F,g,d,a,V⟩:=by intro Q E h;unfold Builtin.Dict.pairItems;wp_walk;exact h
  refine c7 (bBM (c7 (wpAny_tryCatch (S _ _ ?_))));refine bBM (wpAny_dictSet_pairs hk K (λh2 r f=>?_) (bAF T (bAF (by lia) (show 1000<=sizeLine by decide))));have e1:=merged_take_succ [] kvs i _ B;rw[<-e1] at r;refine j9 ⟨plainId_quiet eY _,?_⟩;have N:∀b o,b∉D::wr->X.get? b=some o->h2.get? b=some o:=λb o l e=>by rw[f.2 b (λz=>l (by rw[z];exact j7))];exact c b o (λz=>l (j8 _ z)) e
  refine ih (i+1) _ _ (by lia) (W.frame _ _ _ L λb hb o e=>?_) r (λj v kv u e=>(y j v kv u e).at λp' M o H=>?_) λh' J kp O=>q h' J (λb o l e=>kp b o l (N b o l e)) O
  ·rw[f.2 b (λz=>hD (by rw[<-z];exact hb))];exact e
  ·rw[f.2 p' (λz=>hP j v u p' M (by rw[z];exact j7))];exact H
end
section
variable {prog:Program}{w:World}{κ:Type}[DecidableEq κ]{knd:KeyKind prog w κ}{A:Around}{E:bFR}{s:Shared}
def bBv (L:Bool)(d:h2.get? t=some o)(f:o.cls=.type (sqN L))(c:o.data=.seq its n)(g:A.handled=none)(b:t≠h2.objs.size) :
  ∃io St,Walks prog w A h2.objs.size [h2.objs.size,t] [h2.objs.size] its.size (λi v=>its[i]?=some v) St/\St 0 (h2.push io)/\∀s:Shared,s.heap=h2->∀Q E,Q (.ref h2.objs.size) { s with heap:=h2.push io }->wpAny (model prog w) A (pyIter (.ref t)) Q E s:=by
 cases L
 ·have a:h2.IsTuple t its:=⟨o,d,f,n,c⟩;exact⟨_,_,Walks.tuple g _ t b its,⟨⟨_,z9 _ rfl,rfl,rfl⟩,a.push _⟩,λs e Q E q=>by subst e;exact bEH a q⟩
 ·have a:h2.IsList t its:=⟨o,d,f,n,c⟩;exact⟨_,_,Walks.list g _ t b its,⟨⟨_,z9 _ rfl,rfl,rfl⟩,a.push _⟩,λs e Q E q=>by subst e;exact bDE a q⟩
def aLe (L:Bool){t n:Nat}{its:Array Value}{kvs:List (κ × Value)}{o:Obj}{Q:bFR}(r:A.handled=none)(J:s.heap.get? t=some o)(B:o.cls=.type (sqN L))(P:o.data=.seq its n)(K:o.dict=none)(g:kvs.length=its.size)(V:its.size<=1000)
  (G:∀(j:Nat) (v:Value) (kv:κ × Value),its[j]?=some v->kvs[j]?=some kv->yR knd s.heap v kv)
  (q:∀h' tk,h'.DictOf knd s.heap.objs.size (merged [] kvs)->(∀b o,s.heap.get? b=some o->h'.get? b=some o)->Q (.ref s.heap.objs.size) { s with heap:=h',toks:=tk }) :
  wpAny (model prog w) A (call (.type "dict") [.ref t]) Q E s:=by
 refine callType_codes (Q₁:=λk C=>k=.ref s.heap.objs.size/\C={ s with heap:=s.heap.push { cls:=.type "dict",data:=.dict #[] } }) F.kt_called_dict (F.kt_typeCall_dict_1 _) F.entry_dict_init (kt_code_dict_new _ ⟨rfl,rfl⟩) ?_;rintro k C ⟨rfl,rfl⟩;have a:(s.heap.push { cls:=.type "dict",data:=.dict #[] }).DictOf knd s.heap.objs.size []:=Heap.DictOf.new s.heap;have f:(s.heap.push { cls:=.type "dict",data:=.dict #[] }).get? t=some o:=j4 _ J;have D:Shared.TypeIs { s with heap:=s.heap.push { cls:=.type "dict",data:=.dict #[] } } (.ref t) (sqN L):=⟨o,f,B⟩;have i:t<s.heap.objs.size:=bAA J;refine⟨a.typeIs,F.args_dict_init_2 _ _,?_⟩;unfold Builtin.«dict.__init__»;refine c7 ?_;unfold Builtin.Dict.selfAndRest;refine c7 (wpAny_notOrdered_dict a.typeIs ?_);show wpAny _ _ (pure (s.heap.objs.size,[Value.ref t])) _ _ _;refine j9 ?_;show wpAny _ _ (Builtin.Dict.updateFrom "dict.__init__" s.heap.objs.size (.ref t) [] .none) _ _ _;unfold Builtin.Dict.updateFrom;refine c7 (wpAny_typeOf D ?_);rw[if_pos (by cases L <;> decide)];refine c7 (aT5 (L:=L) f B P K (by first|exact r|simp[r]) λz S c=>?_);rw[if_pos (show (none:Option Value).isNone=true from rfl)];have y:z.get? t=some o:=c _ _ f;have H:(s.heap.push { cls:=.type "dict",data:=.dict #[] }).objs.size=s.heap.objs.size+1:=bCR ..;have d:s.heap.objs.size<z.objs.size:=by obtain⟨Z,_,_,I,_⟩:=id a;exact bAA (c _ _ I)
 have u:t≠z.objs.size:=bAI (bFE i d);obtain⟨io,St,W,m,O⟩:=bBv (prog:=prog) (w:=w) (A:=A.in1.in1) L y B P (by first|exact r|simp[r]) u;refine c7 (bEJ (c7 (O _ rfl _ _ ?_)));refine j9 ⟨plainId_quiet eY _,?_⟩;refine aDz (knd:=knd) W s.heap.objs.size ?_ kvs g V ?_ its.size 0 _ _ (by lia) m ?_ ?_ λh' tk kp l=>?_
 ·simp only[bAO,bAG,or_false,not_or];exact⟨bAI d,bDD i⟩
 ·intro j v e p T;have R:j<kvs.length:=by rw[g];exact (Array.getElem?_eq_some_iff.mp e).1
  obtain⟨X,U,h,⟨Y,x,_⟩,_⟩:=G j v _ e (d7 R);rw[T] at h;cases h;have:=bAA x;simp only[bAO,bAG,or_false,not_or];exact⟨bAI this,bAI (bFE this d)⟩
 ·exact (a.at λo e=>c _ _ e).at λo e=>j4 _ e
 ·intro j v kv e N;exact (G j v kv e N).at λp _ o M=>j4 _ (c _ _ (j4 _ M))
 ·refine⟨rfl,q h' tk l λb o e=>kp b o ?_ (j4 _ (c _ _ (j4 _ e)))⟩;have:=bAA e;simp only[bAO,bAG,or_false,not_or];exact⟨bAI this,bAI (bFE this d)⟩
end
open PySem.Calls PyProof.Rows
section
variable {prog:Program}{w:World}{κ:Type}[DecidableEq κ]{knd:PySem.KeyKind prog w κ}{A:Around}{E:bFR}{s:Shared}
def aD9 (nm:κ->Str)(kvs:List (κ × Value)):∀(vs:List Value),vs.length=kvs.length->(∀(j:Nat) (v:Value),vs[j]?=some v->∃kv t,kvs[j]?=some kv/\v=.str (nm kv.1) t)->StrsAre vs (kvs.map λkv=>nm kv.1):=by
 induction kvs with
 |nil=>intro vs a _;cases bDK a;exact .nil
 |cons kv kvs ih=>
  intro vs a h;cases vs with
  |nil=>cases a
  |cons v vs=>obtain⟨b,t,e,rfl⟩:=h 0 v rfl;cases e;exact .cons _ t (ih vs (by simpa using a) λj v e=>h (j+1) v (by simpa using e))
theorem aBv {d:Addr}{kvs:List (κ × Value)}{Q:bFR}(J:κ->Str)(O:A.handled=none)(M:(d == sysModules)=false)(P:s.heap.DictOf knd d kvs)(D:∀k v,knd.is k v=true->(∃x,(k,x)∈kvs)->∃t,v=Value.str (J k) t)(u:kvs.length<64)
  (q:∀(h1 h':Heap) (tk:Nat) (B:Addr) (vs:List Value) (ss:List Str) (e:Nat),StrsAre vs ss->ss.Perm (kvs.map λkv=>J kv.1)->h'.get? B=some (seqObj "list" vs.toArray e)->(∀b o,s.heap.get? b=some o->h1.get? b=some o)->(∀b o,h1.get? b=some o->h'.get? b=some o)->h1.objs.size<=B->Q (.ref B) { s with heap:=h',toks:=tk }) :
  wpAny (model prog w) A (call (.builtin "sorted") [.ref d]) Q E s:=by
 obtain⟨K,h⟩:=P.dictAt;refine call_function_entry kind_sorted plain_sorted entry_sorted (args_sorted1 _) ?_;unfold Builtin.«sorted»;refine c7 (j9 ?_);refine c7 (PySem.W.kdu_collect (PySem.W.kdl_dict M) O h (by rw[sizeLine_eq];lia) λh' tk acc H a=>?_);have r:acc.toList.length=kvs.length:=by rw[bAW];exact a.1
 have l:=aD9 J kvs _ r λj v e=>by obtain⟨k,x,n,G⟩:=a.2 j v (by rw[<-bBP];exact e);obtain⟨t,rfl⟩:=D k v G ⟨x,bAQ n⟩;exact⟨(k,x),t,n,rfl⟩
 refine c7 (wpAny_newList ?_ (by rw[sizeLine_eq];lia));have c:(h'.push (seqObj "list" acc.toList.toArray 0)).get? h'.objs.size=some (seqObj "list" acc.toList.toArray 0):=z9 _ rfl;refine c7 (bBM (bBX slot_list_sort ⟨_,c,rfl⟩ entry_list_sort (list_sort_treeK strKind_oneLt c l.keysOf (λL N p e=>keyKind_strs (by rw[<-e];exact l)) (by rw[r];exact u) λi y I=>⟨_,rfl,?_⟩) (args_list_sort _)));obtain⟨g,F,z,R⟩:=sorted_out_str l y I;obtain⟨e,C⟩:=sortedHeap_at c;refine j9 ⟨_,rfl,q h' _ tk h'.objs.size ((arrOf i).map (·.2)).toList g e F z (by rw[Array.toArray_toList];exact C) H (λb o m=>?_) (v7 _)⟩;have f:=bAA m;rw[sortedHeap_old (bAI f) (by rw[size_push'];exact Nat.lt_succ_of_lt f)];exact j4 _ m
end
end PySem
namespace L2
open PySem PySem.Spec PyProof.Rows
abbrev aXh (K:bFQ)(H:Hp):List V->List (Key × V)->Prop:=Paired λu kv=>∃p,u=.ref p/\SqT K H p [kV kv.1,kv.2]
def bE6 (I:Inv X bFU σ H s)(h:aXh X.K H us kvs):∀{its:List Value},Vals us its ->
  ∃vs:List (Key × Value),KV kvs vs/\vs.length=its.length/\∀(j:Nat) (v:Value) (kv:Key × Value),its[j]?=some v->vs[j]?=some kv->yR (fP X.prog X.w) s.heap v kv:=by
 induction h with
 |nil=>intro its b;cases b;exact⟨[],.nil,rfl,λj v kv e _=>by simp at e⟩
 |@cons u kv us kvs r t ih=>
  intro its b;cases b with
  |cons q z=>
   obtain⟨p,rfl,l⟩:=r;cases q;obtain⟨A,o,i,y⟩:=I.tuple l;obtain⟨vs,k,x,g⟩:=ih z;obtain⟨d,a,rfl,m,n⟩:=vals2 o;refine⟨(kv.1,a)::vs,.cons ⟨rfl,n⟩ k,by rw[d9,d9,x],λj v c e f=>?_⟩;cases j with
   |zero=>cases e;cases f;exact⟨p,d,rfl,i,aR0 m⟩
   |succ j=>exact g j v c (by simpa using e) (by simpa using f)
def bF2 (K:bFQ):List V->Hp->VK->Prop:=λxs H Q=>∃t us kvs,xs=[.ref t]/\SqT K H t us/\aXh K H us kvs/\us.length<=1000/\∀p H',H p=none->Same H H'->H' p=some (.dK (mZ [] kvs))->Q (.ref p) H'
def aO5 (M:X.calm=true):dW X (.type "dict") (bF2 X.K):=by intro y s σ H N k Q I r h;obtain⟨t,k,kvs,rfl,F,l,R,q⟩:=h;obtain⟨u,rfl,A⟩:=vals1 r;cases A;obtain⟨g,b,⟨E,x⟩,P⟩:=I.bIi F;have O:=b.length;obtain⟨B,f,G,i⟩:=bE6 I l b;have L:=KV.length f;obtain⟨o,c,a,n,D⟩:=E;refine aLe false (knd:=fP X.prog X.w) (kvs:=B) (I.ok.hd M) c a D (x o c) (by rw[v8];exact G) (by rw[v8];lia) (λj v C e m=>i j v C (by simpa using e) m) λJ tk z kp=>?_;have d:H s.heap.objs.size=none:=I.hok.fresh (v7 _);refine⟨.ref s.heap.objs.size,_,I.laid (t':=tk) (o:=.dK (mZ [] kvs)) kp (v7 _) ?_,rfl,q _ _ d (cF d _) aJ⟩;have p:=rN kvs [];simp only[bCD] at p;exact⟨small (by lia),beq_eq_false_iff_ne.mpr (Ne.symm (bAI I.big)),_,KV.merge f .nil,z⟩
theorem aE9:∀kvs acc,((acc++kvs).map (·.1)).Nodup->mZ acc kvs=acc++kvs
 |[],acc,_=>by simp[mZ]
 |kv::r,acc,h=>by
  have a:tZ acc kv.1=none:=by
   cases e:tZ acc kv.1 with
   |none=>rfl
   |some v=>exfalso;have:=aRi e;rw[bAH,bFN] at h;exact h.2.2 _ this _ (by rw[bAE];exact j7 ..) rfl
  show mZ (putK acc kv.1 kv.2) r=_;rw[aMf _ a,aE9 r _ (by rw[bAB];exact h),bAB];rfl
def aTh (h:(kvs.map (·.1)).Nodup):mZ [] kvs=kvs:=aE9 kvs [] h
def bEi:List V->Hp->VK->Prop:=λxs H Q=>∃(d:Addr) (kvs:List (Key × V)) (ns:List Str),xs=[.ref d]/\H d=some (.dK kvs)/\kvs.map (·.1)=(ns.map λn=>(Sum.inr n:Key))/\kvs.length<64/\∀(p:Addr) (H':Hp) (ss:List Str),H p=none->Same H H'->ss.Perm ns->H' p=some (.lst (ss.map V.str))->Q (.ref p) H'
theorem aHo:∀{vs:List Value} {ss:List Str},StrsAre vs ss->Vals (ss.map V.str) vs
 |_,_,.nil=>.nil
 |_,_,.cons x t h=>.cons ⟨t,rfl⟩ (aHo h)
def aQ0 (Y:X.calm=true):dW X (.builtin "sorted") bEi:=by
 intro K s σ H Z T Q I r h;obtain⟨d,f,A,rfl,L,w,G,q⟩:=h;obtain⟨u,rfl,S⟩:=vals1 r;cases S;obtain⟨z,O,j,a,M⟩:=bB8 I.hok L;have W:=KV.length a;have C:=KV.keys a
 let nm:Key->Str:=λk=>match k with|.inr n=>n|.inl _=>⟨#[]⟩
 have y:(j.map λm=>nm m.1)=A:=by
  have:(j.map λm=>nm m.1)=(j.map (·.1)).map nm:=by rw[bAZ];rfl
  rw[this,<-C,w,bAZ];exact List.map_id _
 refine aBv nm (I.ok.hd Y) O M (λk v F p=>?_) (by lia) λh1 V tk B o P e R i N l g c=>?_
 ·obtain⟨x,p⟩:=p;have b:k∈f.map (·.1):=by rw[C];exact List.mem_map.mpr ⟨_,p,rfl⟩
  rw[w] at b;obtain⟨n,_,rfl⟩:=List.mem_map.mp b;cases v with
  |str x t=>
   have e:x=n:=by simpa [fP,aGf,Value.isStrOf] using F
   exact⟨t,by rw[e]⟩
  |_=>exact absurd (show false=true from F) bAC
 ·rw[y] at i;have E:=I.kept (t':=tk) l;have D:=E.hok.fresh c;refine⟨.ref B,_,E.laid (t':=tk) g c ?_,rfl,q B _ P D (cF D _) i aJ⟩;have J:=aHo R;have U:=i.length_eq;have l2:A.length=f.length:=by have:=congrArg List.length w;simpa using this.symm
  exact⟨small (by rw[j5];lia),o,e,J,N⟩
def SqT.bIm {K:bFQ}{H:Hp}{a D:Addr}{xs:List V}{kvs:List (Key × V)}{u:HO}(b:H D=some (.dK kvs))(h:SqT K H a xs):SqT K (upd H D u) a xs:=by
 rcases h with (h|⟨o,h⟩)|h
 ·exact .inl (.inl (by rw[aR (aCx h b (by intro z;cases z))];exact h))
 ·exact .inl (.inr ⟨o,by rw[aR (aCx h b (by intro z;cases z))];exact h⟩)
 ·exact .inr h
def bDv (a:VE X o to)(b:VE X i ti)(hs:bE3 X t)
  (c:∀v,assign (.Subscript o i pos) X.env v=(do
   let ov <-holding [v] (eval o X.env)
   let iv <-holding [v,ov] (eval i X.env)
   standAt pos
   holding [v,ov,iv] (setItem ov iv v)
   release [v,ov,iv] []):=by intro _;rfl):VG X (.Subscript o i pos) (bGg to ti t):=⟨bEc a.1 b.1 hs c⟩
def aCq:MtR X "list.reverse" aNt:=aQo
abbrev M61:Int:=2305843009213693951
def mQ (H:Hp)(a:Addr):Prop:=∃s:Int,H a=some (.lst [.int s])/\0<=s/\s<M61
structure Fx (a:Addr)(H H':Hp):Prop where
 same:∀b o,b≠a->H b=some o->H' b=some o
 st:mQ H' a
def Fx.trans (f:Fx a H H1)(g:Fx a H1 H2):Fx a H H2:=⟨λb o n e=>g.same b o n (f.same b o n e),g.st⟩
def mQ.same (h:mQ H a)(e:Same H H'):mQ H' a:=by obtain⟨s,b,c⟩:=h;exact⟨s,e _ _ b,c⟩
def Fx.of (h:mQ H a)(e:Same H H'):Fx a H H':=⟨λb o _ q=>e b o q,h.same e⟩
def Fx.refl (h:mQ H a):Fx a H H:=.of h (Same.refl H)
def Fx.sm (f:Fx a H H1)(e:Same H1 H2):Fx a H H2:=f.trans (.of f.st e)
def mQ.ne (h:mQ H a)(f:H p=none):p≠a:=by obtain⟨s,b,_⟩:=h;exact (aX b f).symm
def Fx.aV {K:bFQ}{a p:Addr}{H H':Hp}{xs:List V}(f:Fx a H H')(h:mQ H a)(e:SqT K H p xs):SqT K H' p xs:=by
 obtain⟨s,b,_⟩:=h;rcases e with (e|⟨o,e⟩)|e
 ·exact .inl (.inl (f.same p _ (aCx e b (by intro z;cases z)) e))
 ·exact .inl (.inr ⟨o,f.same p _ (aCx e b (by intro z;cases z)) e⟩)
 ·exact .inr e
def Fx.upd (f:Fx a H H')(h:H D=none)(g:D≠a):Fx a H (L2.upd H' D o):=⟨λb u n e=>by rw[aR (aX e h)];exact f.same b u n e,by obtain⟨s,c,d⟩:=f.st;exact⟨s,by rw[aR g.symm];exact c,d⟩⟩
def Fx.free (f:Fx a H H')(h:H' p=none):H p=none:=by
 cases e:H p with
 |none=>rfl
 |some o=>
  by_cases z:p=a
  ·subst z;obtain⟨s,b,_⟩:=f.st;rw[b] at h;cases h
  ·rw[f.same p o z e] at h;cases h
def bB2 (h:mQ H a):bBf (Fx a) H:=⟨λD o c=>.of h (cF c o),λa b=>a.trans b,λD o j c f=>f.upd c (h.ne c),λD i d g c _ e f=>f.same _ _ (h.ne c) e⟩
end L2
namespace My
open PySem PySem.Spec PyProof.Rows L2
section
variable {P:Program}{w:World}{K:bFQ}{mg:bFT}{base:Heap}
inductive aCi:Str->V->Prop
 |num {i:Int}:i.natAbs<10 ^ 60->aCi "number" (.int i)
 |wrd {x}:Lets x->x.length<=8->aCi "word" (.str x)
def aDv (k:Str):Prop:=k = "number"\/k = "word"
inductive aQ7 (K:bFQ)(vs:List V)(H:Hp)(Q:VK)(E_:XK):Prop
 |mk (a:Addr) (ns:List Int) (_:vs=[.ref a]) (_:SqL K H a (ns.map V.int)) (_:ns.length<=63) (_:∀c H',Same H H'->0<=c->c<M61->Q (.int c) H')
def aJa (T:!Txt):!Ok 1 "_law_seed" bQK (aQ7 K):=by
 refine Ok.ofV T.aLo aAe (by trivial) (λf m A d s H p Q E o h=>?_)
 obtain⟨a,j,rfl,g,k,q⟩:=h;have l:=aAe.nd;refine⟨_,(aA (aQ 1 aD) (aA (jY PassesOwn.never rfl (bBh (by rfl) T.aNf (va1 (vv 0))) (lV rfl (aY (dZ 2) (aY (dZ 3) eN))) (aB (aQ 1 (aO zJ (aO dR (aO dR (aO dR (aO aFs (vv 1) aD) (aO zJ (vv 3) (aO aP3 aD aD))) (aO aFs aD (vv 2))) aD) aD)))) (aB (aK (vv 1))))),?_⟩;refine⟨_,rfl,a,j.map V.int,rfl,g,aXs (λi σ b=>Same H b/\∃c l2 l3,0<=c/\c<M61/\σ=[some (.ref a),some (.int c),l2,l3]) ⟨Same.refl H,7,_,_,by decide,by decide,rfl⟩ (λi σ b _ ⟨e,_⟩=>e.seq g) ?_ ?_⟩
 ·rintro i σ b x Tp H'' ex ⟨sm,c,l2,l3,c0,c1,rfl⟩ hT rfl;obtain⟨z,n,rfl⟩:=aBy ex;refine⟨Tp,_,rfl,SqT.of aJ,rfl,_,_,rfl,_,_,rfl,rfl,?_⟩;refine⟨_,rfl,_,_,rfl,rfl,.inr ⟨by decide,by decide⟩,_,rfl,_,_,rfl,rfl,⟨by decide,by decide,by decide⟩,_,_,rfl,rfl,(by decide),_,_,rfl,rfl,_,rfl,_,_,rfl,rfl,.inl ⟨by decide,by decide⟩,_,_,rfl,rfl,_,_,rfl,rfl,_,_,rfl,rfl,(by decide),?_⟩;exact⟨sm.trans (cF hT _),_,_,_,Int.emod_nonneg _ (by decide),bFK _ (by decide),rfl⟩
 ·rintro σ b ⟨sm,c,l2,l3,c0,c1,rfl⟩;exact⟨_,rfl,q c b sm c0 c1⟩
inductive jA (vs:List V)(H:Hp)(Q:VK)(E_:XK):Prop
 |mk (a:Addr) (m:Int) (_:vs=[.ref a,.int m]) (_:mQ H a) (_:0<m) (_:∀c H',Fx a H H'->0<=c->c<m->Q (.int c) H')
def aJt (T:!Txt):!Ok 1 "_law_next" m7 jA:=by
 refine Ok.ofV T.aLy aKw (by trivial) (λf i A c s H l Q E j h=>?_)
 obtain⟨a,m,rfl,⟨d,e,p,k⟩,g,q⟩:=h;refine⟨_,(aA (vJ (aO zJ (aO dR (aO aFs (cR dF (vv 0) aD) aD) aD) aD) (bDv (vv 0) aD set_list)) (aB (aK (aO zJ (aO bAu (cR dF (vv 0) aD) aD) (vv 1))))),?_⟩;refine⟨_,rfl,a,_,0,_,rfl,rfl,SqL.of e,at0 _ _,_,_,rfl,rfl,.inr ⟨by decide,by decide⟩,_,_,rfl,rfl,_,_,rfl,rfl,(by decide),?_⟩;refine⟨_,rfl,a,_,0,0,rfl,rfl,e,rfl,?_⟩;refine⟨_,rfl,a,[.int ((d * 1181783497276652981+12345678910987) % 2305843009213693951)],0,_,rfl,rfl,SqL.of aJ,at0 _ _,_,_,rfl,rfl,⟨by decide,by decide⟩,_,rfl,_,_,rfl,rfl,g,?_⟩;exact q _ _ ⟨λb o n h=>by rw[aR n];exact h,(d * 1181783497276652981+12345678910987) % 2305843009213693951,aJ,Int.emod_nonneg _ (by decide),bFK _ (by decide)⟩ (Int.emod_nonneg _ (by lia)) (bFK _ g)
def aNm:Sp:=λvs H Q _=>∃a:Addr,vs=[.ref a]/\mQ H a/\∀i H',Fx a H H'->i.natAbs<10 ^ 60->Q (.int i) H'
def bGo (i:Nat):((10:Int) ^ 15) ^ (i+1)=((10:Int) ^ 15) ^ i * 10 ^ 15:=Int.pow_succ _ _
def aHg (T:!Txt)(F:!Ok 1 "_law_next" m7 jA):!Ok 2 "_law_great" ["_law_state"] aNm:=by
 refine Ok.ofV T.aKf yE (by trivial) (λf I A g s H N Q E R h=>?_)
 obtain⟨a,rfl,u,q⟩:=h;have G:=yE.nd;refine⟨_,(aA (aQ 1 aD) (aA (jY PassesOwn.never rfl (gV (by rfl) T.lG (va1 aD)) (dZ 2) (aB (aQ 1 (aO dR (aO aFs (vv 1) (aO aP3 aD aD)) (bY F (aG (vv 0) (va1 (aO aP3 aD aD)))))))) (aB (aK (cR dF (bC (aG (vv 1) (va1 (aO aBt aD (vv 1))))) (bY F (aG (vv 0) (va1 aD)))))))),?_⟩;refine⟨_,rfl,by decide,by decide,kE (n:=4) (λi σ k=>Fx a H k/\∃(c:Int) (l2:Option V),0<=c/\c<(10 ^ 15) ^ i/\σ=[some (.ref a),some (.int c),l2]) ⟨.refl u,0,_,by decide,by decide,rfl⟩ ?_ ?_⟩
 ·rintro i σ k hi ⟨fx,c,l2,c0,c1,rfl⟩;refine⟨_,rfl,_,_,rfl,rfl,⟨by decide,by decide,by decide⟩,_,_,rfl,rfl,.inr ⟨by decide,by decide⟩,_,rfl,_,_,rfl,rfl,⟨by decide,by decide,by decide⟩,a,_,rfl,fx.st,(by show (0:Int)<10 ^ 15;decide),λd M z o m=>?_⟩;refine⟨_,_,rfl,rfl,fx.trans z,_,_,?_,?_,rfl⟩
  ·have:=Int.mul_nonneg c0 (show (0:Int)<=10 ^ 15 by decide);have C:(10:Int) ^ 15=1000000000000000:=by decide
   show 0<=c * (10:Int) ^ 15+d;lia
  ·have L:d<(10:Int) ^ 15:=m;have B:c+1<=((10:Int) ^ 15) ^ i:=c1;have J:=Int.mul_le_mul_of_nonneg_right B (show (0:Int)<=10 ^ 15 by decide);rw[Int.add_mul,Int.one_mul] at J;show c * (10:Int) ^ 15+d<((10:Int) ^ 15) ^ (i+1);rw[bGo];lia
 ·rintro σ k ⟨fx,c,l2,c0,c1,rfl⟩;have D:c<(10:Int) ^ 60:=by
   have e:((10:Int) ^ 15) ^ 4=10 ^ 60:=by decide
   rw[<-e];exact c1
  refine⟨_,rfl,_,rfl,_,_,rfl,rfl,sz2,λp M x b t=>?_⟩;refine⟨_,rfl,a,2,rfl,fx.st.same b,by decide,λd O j o m=>?_⟩;obtain⟨v,y,r⟩:=at_of (xs:=[.int c,.int (0 - c)]) o (by show d<2;lia);refine⟨p,_,_,v,rfl,rfl,SqL.of (j.same _ _ (fx.st.ne x) t),y,?_⟩;simp only[bAO,bAG,or_false] at r;have l:c.natAbs<10 ^ 60:=by
   have:((c.natAbs:Nat):Int)=c:=Int.natAbs_of_nonneg c0;have e:((10 ^ 60:Nat):Int)=(10:Int) ^ 60:=by decide
   lia
  rcases r with rfl|rfl
  ·exact q _ _ ((fx.sm b).trans j) l
  ·exact q _ _ ((fx.sm b).trans j) (by rw[Int.zero_sub,Int.natAbs_neg];exact l)
abbrev aP5:List V:=[.str "",.str "a",.str "b",.str "ab"]
inductive aSe (vs:List V)(H:Hp)(Q:VK)(E_:XK):Prop
 |mk (a:Addr) (kd:Str) (_:vs=[.ref a,.str kd]) (_:mQ H a) (_:aDv kd) (_:∀v H',Fx a H H'->aCi kd v->Q v H')
def aQc (h:v∈aP5):aCi "word" v:=by
 simp only[aP5,bAO,bAG,or_false] at h;have a:∀x:Str,(x.cps.all λc=>decide (97<=c) && decide (c<=122))=true->Lets x:=λx b c d=>by have:=(Array.all_eq_true_iff_forall_mem.mp b) c d;rw[w6] at this;exact⟨of_decide_eq_true this.1,of_decide_eq_true this.2⟩
 rcases h with rfl|rfl|rfl|rfl
 ·exact .wrd (a _ (by trivial)) (by trivial)
 ·exact .wrd (a _ (by trivial)) (by trivial)
 ·exact .wrd (a _ (by trivial)) (by trivial)
 ·exact .wrd (a _ (by trivial)) (by trivial)
def aGz (T:!Txt)(C:!Ok 1 "_law_next" m7 jA)(U:!Ok 2 "_law_great" ["_law_state"] aNm):!Ok 3 "_law_value" bQL aSe:=by
 refine Ok.ofV T.aKt xT (by trivial) (λf X A t s H Z Q E hr h=>?_)
 obtain⟨a,Y,rfl,I,O,q⟩:=h;have W:=xT.nd;refine⟨_,(aA (aQ 2 (bY C (aG (vv 0) (va1 aD)))) (aA (bH (cU cV (vv 1) aF) (aB (aK (cR dF (bC (aG (aO aBt (bY C (aG (vv 0) (va1 aD))) aD) (va1 (bY U (va1 (vv 0)))))) (bK xC (by rfl) T.aHp aBz (va1 (aDs cV (vv 2) aD)))))) aP) (aA (bH (cU aV6 (vv 2) aD) (aB (aK (cR dF (bC (aG aF (aG aF (aG aF (va1 aF))))) (aO zJ (vv 2) aD)))) aP) (aA (aQ 3 aF) (aA (jY PassesOwn.never rfl (gV (by rfl) T.lG (va1 (bY C (aG (vv 0) (va1 aD))))) (dZ 4) (aB (aQ 3 (aO aN (vv 3) (kJ aF (bY C (aG (vv 0) (va1 aD))) (λ_ _=>rfl)))))) (aB (aK (vv 3)))))))),?_⟩;refine⟨_,rfl,a,10,rfl,I,by decide,λb H1 k w0 w1=>?_⟩;rcases O with rfl|rfl
 ·refine⟨_,rfl,rfl,_,rfl,bV ?_⟩;refine⟨_,rfl,a,4,rfl,k.st,by decide,λd N m B u=>?_⟩;refine⟨_,_,rfl,rfl,_,rfl,a,rfl,m.st,λg G y L=>?_⟩;refine⟨sz2,λp R _ r o=>?_⟩;have c:=(k.trans (m.trans y)).sm r;refine⟨_,rfl,rfl,.inr ⟨_,rfl,?_⟩⟩;by_cases e:b=9
  ·rw[v9 (congrArg V.int e)];exact⟨p,_,_,_,rfl,rfl,SqL.of o,fQ (j:=1) rfl,q _ _ c (.num L)⟩
  ·rw[m9 (by intro z;exact e (V.int.inj z))];exact⟨p,_,_,_,rfl,rfl,SqL.of o,fQ (j:=0) rfl,q _ _ c (.num (by lia))⟩
 ·refine⟨_,rfl,rfl,_,rfl,aZ ?_⟩;refine⟨_,rfl,_,_,rfl,rfl,_,rfl,qY (λ_=>?_) (λ_=>?_)⟩
  ·refine⟨sz4,λp R _ r o=>?_⟩;obtain⟨v,J,S⟩:=at_of (xs:=aP5) (j:=b % 4) (by lia) (by show b % 4<4;lia);exact⟨_,rfl,_,_,rfl,rfl,(by show (0:Int)<4;decide),p,_,_,v,rfl,rfl,SqL.of o,J,q _ _ (k.sm r) (aQc S)⟩
  ·refine⟨_,rfl,a,9,rfl,k.st,by decide,λn N m n0 n1=>?_⟩;refine⟨_,rfl,by lia,by lia,kE (n:=n.toNat) (λi σ D=>Fx a H D/\∃(x:Str) (l4:Option V),σ=[some (.ref a),some (.str "word"),some (.int b),some (.str x),l4]/\x.length<=i/\Lets x) ⟨k.trans m,_,_,rfl,by trivial,λd M=>by simp[show (("":Str).cps)=#[] from rfl] at M⟩ ?_ ?_⟩
   ·rintro i σ D hi ⟨c,x,l4,rfl,hl,hx⟩;have F:abc.length=26:=by trivial
    refine⟨_,rfl,_,rfl,a,26,rfl,c.st,by decide,λd G y B u=>?_⟩;obtain⟨ch,l⟩:=aSm (z:=abc) B (by rw[F];exact u);refine⟨_,_,_,rfl,rfl,B,(by lia),(by rw[F];exact u),l,_,_,rfl,rfl,?_,c.trans y,_,_,rfl,?_,hx.add (aNc.one l)⟩
    ·show x.length+1<=sizeLine;exact small (by lia)
    ·rw[aH];show x.length+1<=i+1;lia
   ·rintro σ D ⟨c,x,l4,rfl,hl,hx⟩;exact⟨_,rfl,q _ _ c (.wrd hx (by lia))⟩
def aH2:Sp:=λvs H Q _=>vs=[]/\∀p H',H p=none->Same H H'->H' p=some (.lst words)->Q (.ref p) H'
def aGr (T:!Txt):!Ok 1 "_law_words" [] aH2:=by
 refine Ok.ofV T.aK1 xO (by trivial) (λf o A b s H u Q E t h=>?_)
 obtain⟨rfl,q⟩:=h;have n:=xO.nd;refine⟨_,(aA (aQ 0 (bC (aG aF (aG aF (aG aF (aG aF (aG aF (aG aF (aG aF (aG aF (va1 aF))))))))))) (aB (aK (aO dI (vv 0) (bC (aG aF (aG aF (aG aF (aG aF (aG aF (aG aF (aG aF (va1 aF))))))))))))),?_⟩;refine⟨(by decide),λi v _ c d=>?_⟩;refine⟨_,rfl,(by decide),λg r _ a l=>?_⟩;exact⟨i,g,_,_,rfl,rfl,a _ _ d,l,(by decide),λp e j m k=>q p e ((c.trans a).free j) (c.trans (a.trans m)) k⟩
def nM (ns:List Str):Prop:=ns.length=17/\(∀n∈ns,Nm n)/\ns.Nodup
def nM.rev (h:nM ns):nM ns.reverse:=⟨by rw[bEA];exact h.1,λn a=>h.2.1 n (List.mem_reverse.mp a),List.pairwise_reverse.mpr (h.2.2.imp λq=>Ne.symm q)⟩
def bFx:∀j:_root_.Fin 26,abc.cps[j.val]?=some (97+j.val):=by trivial
def bBm (h:j<26):abc.cps[j]?=some (97+j):=bFx ⟨j,h⟩
def sgl (o:Nat):List Str:=(List.range 17).map λk=>⟨#[97+(o+k)]⟩
def aR1:∀o:_root_.Fin 10,((sgl o.val).all λn=>nameB (.str n))=true/\(Txt.slice abc (some (o.val:Int)) (some ((o.val:Int)+17))).cps.size=17/\((List.range 17).all λi=>decide (sgn (Txt.slice abc (some (o.val:Int)) (some ((o.val:Int)+17))) i=⟨#[97+(o.val+i)]⟩))=true:=by trivial
def aXe (h:(⟨#[a]⟩:Str)=⟨#[b]⟩):a=b:=by have:=congrArg (λx:Str=>x.cps.toList) h;simpa using this
def aWm (h:o<10):nM (sgl o):=by
 refine⟨by simp[sgl],λn b=>?_,?_⟩
 ·have:=(aR1 ⟨o,h⟩).1;rw[bBI] at this;exact this n b
 ·refine List.pairwise_map.mpr (bEF ?_ List.nodup_range);intro k l _ _ a e;have:=aXe e;exact a (by lia)
def bA6 {o:Nat}(h:o<10):((List.range (Txt.slice abc (some (o:Int)) (some ((o:Int)+17))).cps.size).map λi=>V.str (sgn (Txt.slice abc (some (o:Int)) (some ((o:Int)+17))) i))=(sgl o).map V.str:=by obtain⟨_,a,b⟩:=aR1 ⟨o,h⟩;have a:=a;rw[a];unfold sgl;rw[bAZ];refine bFD λi c=>?_;rw[bBI] at b;have:=of_decide_eq_true (b i c);exact congrArg V.str this
def stm (b:Str)(a o:Nat):Nat->List Str:=λi=>(List.range i).map λk=>put b a (97+(o+k))
def bC9 (y:Lets b)(hl:b.length<=7)(j:a<=b.length)(ho:o<10)(x:∀w∈words,inV w ((stm b a o 17).map V.str)=false):nM (stm b a o 17):=by
 refine⟨by simp[stm],λn h=>?_,?_⟩
 ·obtain⟨k,i,rfl⟩:=List.mem_map.mp h;have i:=List.mem_range.mp i;have d:inV (.str (put b a (97+(o+k)))) words=false:=by
   cases e:inV (.str (put b a (97+(o+k)))) words with
   |false=>rfl
   |true=>
    exfalso;unfold inV at e;rw[bDY] at e;obtain⟨v,f,t⟩:=e;have g:∃z:Str,v=.str z:=by simp only[words,bAO,bAG,or_false] at f;rcases f with rfl|rfl|rfl|rfl|rfl|rfl|rfl|rfl|rfl|rfl|rfl|rfl|rfl|rfl|rfl|rfl|rfl <;> exact⟨_,rfl⟩
    obtain⟨z,rfl⟩:=g;have r:(z == put b a (97+(o+k)))=true:=t;have q:z=put b a (97+(o+k)):=by simpa using r
    have:=x _ f;rw[oA,decide_eq_false_iff_not] at this;exact this (by rw[q];exact h)
  show ((decide (1<=(put b a (97+(o+k))).length) && (decide ((put b a (97+(o+k))).length<=8) && allIn (put b a (97+(o+k))))) && !inV (.str (put b a (97+(o+k)))) words)=true;have m:Lets (put b a (97+(o+k))):=λc u=>by
   rcases aZs j u with rfl|z
   ·lia
   ·exact y c z
  rw[aZt j,v9 (p:=1<=b.length+1) (by lia),v9 (p:=b.length+1<=8) (by lia),allIn_of m,d];rfl
 ·refine List.pairwise_map.mpr (bEF ?_ List.nodup_range);intro k l _ _ s e;have:=aZ5 j e;exact s (by lia)
def aVh:Sp:=λvs H Q _=>∃a:Addr,vs=[.ref a,.int 17]/\mQ H a/\∀p H' ns,Fx a H H'->H p=none->H' p=some (.lst (ns.map V.str))->nM ns->Q (.ref p) H'
def aHi (T:!Txt)(U:!Ok 1 "_law_next" m7 jA)(a9:!Ok 1 "_law_words" [] aH2):!Ok 2 "_law_names" m7 aVh:=by
 refine Ok.ofV T.aKe xX (by trivial) (λf a8 A a3 s H vs Q E hr h=>?_)
 obtain⟨a,rfl,hs,q⟩:=h;have aa:=xX.nd;refine⟨_,(aA (aQ 2 aF) (aA (aQ 3 (bY U (aG (vv 0) (va1 (aO aBt aD (vv 1)))))) (aA (aQ 4 aF) (aA (jY PassesOwn.never rfl (gV (by rfl) T.lG (va1 (bY U (aG (vv 0) (va1 aD))))) (dZ 5) (aB (aQ 4 (aO aN (vv 4) (kJ (vv 2) (bY U (aG (vv 0) (va1 aD))) (λ_ _=>rfl)))))) (aA (aQ 6 (bY U (aG (vv 0) (va1 (aO dR (aU lB (by rfl) T.fX dJ (va1 (vv 4))) aD))))) (aA (aQ 7 (bC jJ)) (aA (jY PassesOwn.never rfl (gV (by rfl) T.lG (va1 (vv 1))) (dZ 5) (aB (dD (iB PySem.F.plainAttrs_list PySem.F.slot_list_append PySem.F.type_list_append eF (vv 7) (va1 (aO aN (aO aN (cL mK (vv 4) dY (cP (vv 6))) (kJ (vv 2) (aO dR (vv 3) (vv 5)) (λ_ _=>rfl))) (cL mK (vv 4) (cP (vv 6)) dY))))))) (aA (bH (dB (aU (aYd rfl) (by rfl) T.bGk bCz (va1 (gM (N:=["_law_word","_law_names_here"]) ck (lW (aC uH)) rfl (qF (aYm (a9.mono (by decide)) hr (by rfl))) (λcl s' u fp=>⟨(jW 0),jK,(wX (aP7 (K:=K)) (vv 0) (vv 1) (by with_unfolding_all rfl))⟩))))) (aB (aQ 7 (bK (aQi rfl) (by rfl) T.aWt aQ5 (va1 (cL mK (vv 2) (cP (vv 3)) (cP (aO dR (vv 3) (vv 1)))))))) aP) (aA (bH (cU cV (bY U (aG (vv 0) (va1 aD))) aD) (aB (dD (aQz PySem.F.plainAttrs_list PySem.F.slot_list_reverse PySem.F.type_list_reverse aCq (vv 7)))) aP) (aB (aK (vv 7)))))))))))),?_⟩;have J:abc.length=26:=by trivial
 refine⟨_,rfl,_,rfl,_,_,rfl,rfl,a,10,rfl,hs,by decide,λod H1 f1 o0 o1=>?_⟩;obtain⟨o,rfl⟩:∃o:Nat,od=o:=⟨od.toNat,by lia⟩;have ho:o<10:=by lia
 refine⟨_,rfl,a,8,rfl,f1.st,by decide,λn H2 f2 n0 n1=>?_⟩;refine⟨_,rfl,by lia,by lia,kE (n:=n.toNat) (λi σ u=>Fx a H u/\∃(x:Str) (l5:Option V),σ=[some (.ref a),some (.int 17),some (.str abc),some (.int (o:Nat)),some (.str x),l5,none,none]/\x.length<=i/\Lets x) ⟨f1.trans f2,_,_,rfl,by trivial,λd hd=>by simp[show (("":Str).cps)=#[] from rfl] at hd⟩ ?_ ?_⟩
 ·rintro i σ u Z ⟨fx,x,l5,rfl,hl,hx⟩;refine⟨_,rfl,_,rfl,_,rfl,a,26,rfl,fx.st,by decide,λd H3 X S O=>?_⟩;obtain⟨ch,t⟩:=aSm (z:=abc) S (by rw[J];exact O);refine⟨_,_,_,rfl,rfl,S,(by lia),(by rw[J];exact O),t,_,_,rfl,rfl,?_,fx.trans X,_,_,rfl,?_,hx.add (aNc.one t)⟩
  ·show x.length+1<=sizeLine;exact small (by lia)
  ·rw[aH];show x.length+1<=i+1;lia
 rintro σ H3 ⟨X,b,l5,rfl,hl,hb⟩;have a5:b.length<=7:=by lia
 refine⟨_,rfl,_,rfl,_,rfl,small (by lia),_,_,rfl,rfl,a,_,rfl,X.st,(by show (0:Int)<(b.length:Int)+1;lia),λai H4 f4 a0 a1=>?_⟩;obtain⟨g,rfl⟩:∃g:Nat,ai=g:=⟨ai.toNat,by lia⟩;have ha:g<=b.length:=by have:(g:Int)<(b.length:Int)+1:=a1;lia
 have I:=X.trans f4;refine⟨sz0,λp H5 fp s5 g5=>?_⟩;have k:H p=none:=I.free fp;have C:p≠a:=hs.ne k;refine⟨_,rfl,_,rfl,by decide,by decide,kE (n:=17) (λi σ u=>Fx a H u/\u p=some (.lst ((stm b g o i).map V.str))/\∃l5,σ=[some (.ref a),some (.int 17),some (.str abc),some (.int (o:Nat)),some (.str b),l5,some (.int (g:Nat)),some (.ref p)]) ⟨I.sm s5,g5,_,rfl⟩ ?_ ?_⟩
 ·rintro i σ u Z ⟨fx,gp,l5,rfl⟩;have s1:=Txt.slice_le b none (some ((g:Nat):Int));have s2:=Txt.slice_le b (some ((g:Nat):Int)) none;have ej:((o:Int)+(0+(i:Int))).toNat=o+i:=by lia
  have t:abc.cps[((o:Int)+(0+(i:Int))).toNat]?=some (97+(o+i)):=by rw[ej];exact bBm (by lia)
  refine⟨_,rfl,.inl ⟨rfl,_,SqL.of gp⟩,_,rfl,_,rfl,_,rfl,_,rfl,small (by lia),_,rfl,_,rfl,_,rfl,_,_,rfl,rfl,_,_,_,rfl,rfl,(by show 0<=(o:Int)+(0+(i:Int));lia),(by show (o:Int)+(0+(i:Int))<2 ^ 63;lia),(by rw[J];show (o:Int)+(0+(i:Int))<26;lia),t,_,_,rfl,rfl,?_,_,rfl,_,rfl,_,rfl,_,rfl,small (by lia),_,_,rfl,rfl,?_,?_⟩
  ·show (Txt.slice b none (some ((g:Nat):Int))).length+1<=sizeLine;exact small (by lia)
  ·rw[aH];show (Txt.slice b none (some ((g:Nat):Int))).length+1+_<=sizeLine;exact small (by lia)
  refine⟨p,_,_,rfl,rfl,gp,?_,fx.upd k C,?_,_,rfl⟩
  ·rw[j5];exact eG (by simp[stm];lia)
  ·rw[aJ];unfold stm;rw[bEG,bAH,bAH];rfl
 rintro σ H6 ⟨f6,g6,l5',rfl⟩;dsimp only[rF,bDt,tB,tCB,eE];refine aH4 (λL=>L=words) (λi _ y=>∃m,words[i]?=some m/\y=.bl (inV m ((stm b g o 17).map V.str))) (λ_ h=>h) (λ_ h=>h) [none,some (.ref p)] ?_ rfl (λR r=>⟨rfl,λW H7 _ M g7=>r W H7 _ M g7 rfl⟩) (λL e=>by subst e;exact small (by decide)) (λL e i x ex u R l sm r=>?_) λL e D H7 ys M g7 a7 hR=>?_
 ·exact tV 7 (by trivial) rfl rfl (by trivial)
 ·subst e;have fl:kO x=true:=by have:=aGm;rw[bBI] at this;exact this x (bAQ ex)
  exact⟨_,rfl,_,rfl,p,_,rfl,.inl (SqL.of (sm _ _ g6)),fl,aE0,r _ _ (Same.refl _) ⟨x,ex,rfl⟩⟩
 subst e;have ey:ys=(words.map λm=>inV m ((stm b g o 17).map V.str)).map V.bl:=by
  rw[bAZ];refine bCH λi=>?_;by_cases Z:i<ys.length
  ·obtain⟨m,h1,h2⟩:=hR i ys[i] (d7 Z);rw[d7 Z,bAD,h1,h2];rfl
  ·rw[bAV (by lia),bAV (by rw[j5];lia)]
 rw[ey] at g7;refine⟨D,_,rfl,SqL.of g7,_,rfl,?_⟩;have G:=f6.sm M;refine qY (λc=>?_) (λc=>?_)
 ·refine⟨_,rfl,_,rfl,_,rfl,_,rfl,_,rfl,_,_,rfl,rfl,_,rfl,abc,rfl,small (by rw[J];decide),?_⟩;refine⟨_,rfl,?_,λY H8 a2 s8 g8=>?_⟩
  ·have:=Txt.slice_le abc (some (o:Int)) (some ((o:Int)+17));rw[J] at this;exact bAF this (by decide)
  have a6:H8 Y=some (.lst ((sgl o).map V.str)):=by rw[g8];exact congrArg (λz=>some (HO.lst z)) (bA6 ho)
  have f8:=G.sm s8;have j:=G.free a2;refine⟨_,rfl,a,2,rfl,f8.st,by decide,λd H9 B S O=>?_⟩;have v:=B.same _ _ (hs.ne j) a6;refine⟨rfl,_,rfl,qY (λ_=>?_) (λ_=>?_)⟩
  ·refine⟨_,rfl,.inl ⟨rfl,_,SqL.of v⟩,Y,_,rfl,rfl,v,?_⟩;refine⟨_,rfl,q Y _ (sgl o).reverse ((f8.trans B).upd j (hs.ne j)) j ?_ (aWm ho).rev⟩;rw[aJ,List.map_reverse]
  ·exact⟨_,rfl,q Y _ (sgl o) (f8.trans B) j v (aWm ho)⟩
 ·have hw:∀m∈words,inV m ((stm b g o 17).map V.str)=false:=λm a4=>by
   cases e:inV m ((stm b g o 17).map V.str) with
   |false=>rfl
   |true=>exfalso;apply c;rw[bDY];exact⟨true,List.mem_map.mpr ⟨m,a4,e⟩,rfl⟩
  have hn:=bC9 hb a5 ha ho hw;refine⟨_,rfl,a,2,rfl,G.st,by decide,λd H9 B S O=>?_⟩;have v:=B.same _ _ C (M _ _ g6);refine⟨rfl,_,rfl,qY (λ_=>?_) (λ_=>?_)⟩
  ·refine⟨_,rfl,.inl ⟨rfl,_,SqL.of v⟩,p,_,rfl,rfl,v,?_⟩;refine⟨_,rfl,q p _ (stm b g o 17).reverse ((G.trans B).upd k C) k ?_ hn.rev⟩;rw[aJ,List.map_reverse]
  ·exact⟨_,rfl,q p _ (stm b g o 17) (G.trans B) k v hn⟩
def aBh (hd:Hdr):Prop:=Good hd/\∀c∈hd,Nm c.1/\aDv c.2
inductive aM7 (K:bFQ)(vs:List V)(H:Hp)(Q:VK)(E_:XK):Prop
 |mk (a N:Addr) (ns:List Str) (_:vs=[.ref a,.ref N]) (_:mQ H a) (_:H N=some (.lst (ns.map V.str))) (_:N≠a) (_:nM ns) (_:∀v H' hd,Fx a H H'->nG K H' v hd->aBh hd->hd.length<=7->Q v H')
def aQn {α:Type}{l:List α}(h:l.Nodup){i j:Nat}{x:α}(f:l[i]?=some x)(g:l[j]?=some x):i=j:=by
 have d:=List.pairwise_iff_getElem.mp h;obtain⟨c,e⟩:=List.getElem?_eq_some_iff.mp f;obtain⟨b,a⟩:=List.getElem?_eq_some_iff.mp g;rcases Nat.lt_trichotomy i j with q|q|q
 ·exact absurd (e.trans a.symm) (d i j c b q)
 ·exact q
 ·exact absurd (a.trans e.symm) (d j i b c q)
def bIc {α:Type}{l:List α}(h:∀(i j:Nat) (x:α),l[i]?=some x->l[j]?=some x->i=j):l.Nodup:=by refine List.pairwise_iff_getElem.mpr λi j c b a e=>?_;have:=h i j l[i] (d7 c) (by rw[d7 b,e]);lia
def aWn {ns:List Str}(hn:nM ns){n:Nat}{hd:Hdr}(hl:hd.length<=8)(h:∀(j:Nat) (c:Str × Str),hd[j]?=some c->ns[3+(n+j) % 8]?=some c.1):(hd.map (·.1)).Nodup:=by
 refine bIc λi j x d f=>?_;have g:∀k,(hd.map (·.1))[k]?=some x->k<hd.length/\ns[3+(n+k) % 8]?=some x:=λk a=>by
  rw[bAD] at a;cases e:hd[k]? with
  |none=>rw[e] at a;cases a
  |some c=>rw[e] at a;cases a;exact⟨(List.getElem?_eq_some_iff.mp e).1,h k c e⟩
 obtain⟨m,b⟩:=g i d;obtain⟨o,l⟩:=g j f;have:=aQn hn.2.2 b l;lia
def aKr (T:!Txt)(X:!Ok 1 "_law_next" m7 jA):!Ok 2 "_law_head" bQI (aM7 K):=by
 refine Ok.ofV T.aOh aAv (by trivial) (λf a7 A M s H vs Q E hr h=>?_)
 obtain⟨a,N,G,rfl,hs,hN,nN,S,q⟩:=h;have a9:=aAv.nd;refine⟨_,(aA (aQ 2 (bY X (aG (vv 0) (va1 aD)))) (aA (aQ 3 (bC jJ)) (aA (jY PassesOwn.never rfl (gV (by rfl) T.lG (va1 (aO dR aD (aO aFs (bY X (aG (vv 0) (va1 aD))) (aO dR aD (bK xC (by rfl) T.aHp aBz (va1 (aDs cV (bY X (aG (vv 0) (va1 aD))) aD)))))))) (dZ 4) (aA (aQ 5 (cR dF (bC (aG aF (aG aF (va1 aF)))) (bY X (aG (vv 0) (va1 aD))))) (aB (dD (iB PySem.F.plainAttrs_list PySem.F.slot_list_append PySem.F.type_list_append eF (vv 3) (va1 (aW (aG (cR dF (vv 1) (aO dR aD (aO zJ (aO dR (vv 2) (vv 4)) aD))) (va1 (vv 5)))))))))) (aB (aK (bK cA (by rfl) T.cW cG (va1 (vv 3)))))))),?_⟩;have a8:=S.1;refine⟨_,rfl,a,8,rfl,hs,by decide,λv H1 f1 a6 a5=>?_⟩;obtain⟨b,rfl⟩:∃b:Nat,v=b:=⟨v.toNat,by lia⟩;refine⟨sz0,λp H2 fp s2 g2=>?_⟩;have f2:=f1.sm s2;have r:H p=none:=f1.free fp;have k:p≠a:=hs.ne r;refine⟨_,rfl,a,4,rfl,f2.st,by decide,λm H3 Y m0 m1=>?_⟩;refine⟨_,rfl,a,8,rfl,Y.st,by decide,λe H4 f4 e0 e1=>?_⟩;have R:=f2.trans (Y.trans f4);have g4:=f4.same _ _ k (Y.same _ _ k g2);refine⟨rfl,.inr ⟨_,rfl,?_⟩⟩;have bnd:∃z:Nat,1+m * (1+(if decide (V.int e=V.int 0) then 1 else 0))=(z:Int)/\1<=z/\z<=7:=by
  cases decide (V.int e=V.int 0)
  ·exact⟨(1+m).toNat,by simp;lia,by lia,by lia⟩
  ·exact⟨(1+m * 2).toNat,by simp;lia,by lia,by lia⟩
 obtain⟨z,ez,z1,z7⟩:=bnd;refine⟨_,_,rfl,rfl,_,_,rfl,rfl,.inl ⟨by lia,by lia⟩,_,_,rfl,rfl,?_⟩;refine⟨(z:Int),?_,by lia,by lia,?_⟩
 ·show [V.int (1+m * (1+(if decide (V.int e=V.int 0) then 1 else 0)))]=_;rw[ez]
 rw[bBZ];refine kE (n:=z) (λi σ u=>Fx a H u/\∃(us:List V) (hd:Hdr) (l4 l5:Option V),u p=some (.lst us)/\hd.length=i/\cN (IsC K u) us hd/\(∀(j:Nat) (c:Str × Str),hd[j]?=some c->G[3+(b+j) % 8]?=some c.1/\aDv c.2)/\σ=[some (.ref a),some (.ref N),some (.int (b:Nat)),some (.ref p),l4,l5]) ⟨R,[],[],_,_,g4,rfl,.nil,λj c h=>by simp at h,rfl⟩ ?_ ?_
 ·rintro i σ u hi ⟨fx,us,hd,l4,l5,gp,hl,hu,hc,rfl⟩;have lu:=hu.len;refine⟨sz3,λp1 H5 a3 l g5=>?_⟩;refine⟨_,rfl,a,3,rfl,fx.st.same l,by decide,λd H6 B d0 d1=>?_⟩;obtain⟨kv,a2,o⟩:=at_of (xs:=[.str "number",.str "number",.str "word"]) d0 (by show d<3;lia);obtain⟨D,rfl,U⟩:∃D:Str,kv=.str D/\aDv D:=by
   simp only[bAO,bAG,or_false] at o;rcases o with rfl|rfl|rfl
   ·exact⟨_,rfl,.inl rfl⟩
   ·exact⟨_,rfl,.inl rfl⟩
   ·exact⟨_,rfl,.inr rfl⟩
  have x:=(fx.sm l).trans B;refine⟨p1,_,_,_,rfl,rfl,SqL.of (B.same _ _ (fx.st.ne a3) g5),a2,?_⟩;have g:=B.same _ _ k (l _ _ gp);have W:=x.same _ _ nN hN;have L:cN (IsC K H6) us hd:=hu.imp λ_ _ ⟨J,I,Z⟩=>⟨J,I,B.aV (fx.st.same l) (l.aV Z)⟩;have y:3+(b+i) % 8<G.length:=by lia
  refine⟨_,rfl,.inl ⟨rfl,_,SqL.of g⟩,?_⟩;refine⟨_,rfl,_,rfl,_,rfl,_,_,rfl,rfl,_,_,rfl,rfl,(by show (0:Int)<8;decide),_,_,rfl,rfl,N,_,_,.str G[3+(b+i) % 8],rfl,rfl,SqL.of W,?_,_,rfl,sz2,λt H7 ft C g7=>?_⟩
  ·have e8:(3:Int)+((b:Int)+(0+(i:Int))) % 8=((3+(b+i) % 8:Nat):Int):=by lia
   rw[e8];exact fQ (by rw[bAD,d7 y];rfl)
  refine⟨p,_,_,rfl,rfl,C _ _ g,eG (by lia),?_⟩;have a0:=(aX g ft).symm;refine⟨(x.sm C).upd r k,us++[.ref t],hd++[(G[3+(b+i) % 8],D)],_,_,aJ,by rw[j6,hl];rfl,?_,λj c h=>?_,rfl⟩
  ·refine (L.imp λ_ _ ⟨J,I,Z⟩=>⟨J,I,(C.aV Z).aFt (C _ _ g)⟩).app (.cons ⟨t,rfl,SqT.of (by rw[aR a0];exact g7)⟩ .nil)
  ·by_cases O:j<hd.length
   ·rw[bCN O] at h;exact hc j c h
   ·rw[bBW (by lia)] at h;have a1:j - hd.length=0:=by
     by_cases z0:j - hd.length=0
     ·exact z0
     ·rw[bAV (by simp;lia)] at h;cases h
    rw[a1] at h;cases h;have:j=i:=by lia
    subst this;exact⟨d7 y,U⟩
 ·rintro σ u ⟨fx,us,hd,l4,l5,gp,hl,hu,hc,rfl⟩;refine⟨_,rfl,p,us,rfl,SqL.of gp,λt H5 _ l g5=>q _ _ hd (fx.sm l) ⟨t,us,rfl,SqT.of g5,hu.imp λ_ _ h=>h.same l⟩ ⟨⟨aWn S (by lia) λj c h=>(hc j c h).1,by lia,by lia⟩,λc a4=>?_⟩ (by lia)⟩;obtain⟨j,O,e⟩:=List.getElem_of_mem a4;have h2:=hc j c (by rw[d7 O,e]);exact⟨S.2.1 _ (bAQ h2.1),h2.2⟩
def TK (K:bFQ)(H H':Hp):Prop:=∀p xs,SqT K H p xs->SqT K H' p xs
def _root_.L2.Fx.tk (f:Fx a H H')(h:mQ H a):TK K H H':=λ_ _ e=>f.aV h e
def TK.of (s:Same H H'):TK K H H':=λ_ _ e=>s.aV e
def IsC.tk (e:TK K H H')(h:IsC K H v c):IsC K H' v c:=by obtain⟨p,rfl,a⟩:=h;exact⟨p,rfl,e _ _ a⟩
def wV {α:Type}{K:bFQ}{H H':Hp}{R S:V->α->Prop}{v:V}{xs:List α}(e:TK K H H')(k:∀a b,R a b->S a b)(h:aCl K H R v xs):aCl K H' S v xs:=by obtain⟨a,f,rfl,d,c⟩:=h;exact⟨a,f,rfl,e _ _ d,c.imp k⟩
def nG.tk (e:TK K H H')(h:nG K H v hd):nG K H' v hd:=wV e (λ_ _ q=>q.tk e) h
def IsO.tk (e:TK K H H')(h:IsO K H v o):IsO K H' v o:=by
 cases o with
 |val x=>obtain⟨a,rfl,b,g,c⟩:=h;exact⟨a,rfl,e _ _ b,c.th,c⟩
 |col d=>obtain⟨a,rfl,b,f⟩:=h;exact⟨a,rfl,e _ _ b,f⟩
def IsT.tk (e:TK K H H')(h:IsT K H v t):IsT K H' v t:=by obtain⟨a,w,rfl,d,b,f,c⟩:=h;exact⟨a,w,rfl,e _ _ d,b,f,c.tk e⟩
def rB.tk (e:TK K H H')(h:rB K H v t):rB K H' v t:=by obtain⟨a,rfl,b,c⟩:=h;exact⟨a,rfl,e _ _ b,c⟩
def qZ.tk (e:TK K H H')(h:qZ K H v t):qZ K H' v t:=by obtain⟨a,rfl,b,c⟩:=h;exact⟨a,rfl,e _ _ b,c⟩
def nU.tk (e:TK K H H')(h:nU K H v t):nU K H' v t:=by
 obtain⟨a,rfl,d,b⟩:=h;refine⟨a,rfl,d,?_⟩;rcases b with⟨x,y,z⟩|⟨c,x,y,z,u⟩
 ·exact .inl ⟨x,y,e _ _ z⟩
 ·exact .inr ⟨c,x,y,z,e _ _ u⟩
def pR.tk {α:Type}{S:bFQ->Hp->V->α->Prop}{lo hi:Nat}{K:bFQ}{H H':Hp}{v:V}{xs:List α}(e:TK K H H')(k:∀{v t},S K H v t->S K H' v t)(h:pR S lo hi K H v xs):pR S lo hi K H' v xs:=
 ⟨wV e (λ_ _=>k) h.1,h.2⟩
def IsQ.tk {K:bFQ}{H H':Hp}{v:V}{q:Qn}(e:TK K H H')(h:IsQ K H v q):IsQ K H' v q:=by
 induction h with
 |table a b=>exact .table (e _ _ a) b
 |whr a _ c ih=>exact .whr (e _ _ a) ih (c.tk e λh=>h.tk e)
 |keep a _ c ih=>exact .keep (e _ _ a) ih (c.tk e λh=>h)
 |nmd a _ c ih=>exact .nmd (e _ _ a) ih (c.tk e λh=>h)
 |join a _ _ c ih1 ih2=>exact .join (e _ _ a) ih1 ih2 (c.tk e λh=>h.tk e)
 |group a _ c d ih=>exact .group (e _ _ a) ih (c.tk e λh=>h) (d.tk e λh=>h.tk e)
 |first a _ c d ih=>exact .first (e _ _ a) ih (c.tk e λh=>h.tk e) d
def tD (a:(hd.map (·.1)).Nodup)(h:c∈hd):look hd c.1=some c.2:=by
 induction hd with
 |nil=>cases h
 |cons x r ih=>
  rw[bAE,bFB] at a;unfold look;rw[bCE];rcases List.mem_cons.mp h with rfl|h
  ·rw[v9 rfl];rfl
  ·have b:¬ x.1=c.1:=λz=>a.1 (by rw[z];exact List.mem_map.mpr ⟨c,h,rfl⟩);rw[m9 b];exact ih a.2 h
def bB3 (h:aCi k x):Vl x:=by
 cases h with
 |num h=>exact .inl ⟨_,rfl,h⟩
 |wrd hx hl=>exact .inr ⟨_,rfl,hx,hl⟩
def bDa (h:aCi k x):aOf x=true/\kindS x=k:=by
 cases h with
 |num=>exact⟨rfl,rfl⟩
 |@wrd y hx hl=>refine⟨?_,rfl⟩;show (false || (decide (0<=y.length) && (decide (y.length<=8) && allIn y)))=true;rw[v9 (bAK _),v9 hl,allIn_of hx];rfl
def kp (hd:Hdr)(k:Str)(i:Nat):Bool:=match hd[i]? with
 |some c=>decide (c.2=k)
 |none=>false
abbrev sgs:Str:="=<>!"
def bCr:∀j:_root_.Fin 4,∃c,sgs.cps[j.val]?=some c/\((⟨#[c]⟩:Str) = "="\/(⟨#[c]⟩:Str) = "<"\/(⟨#[c]⟩:Str) = ">"\/(⟨#[c]⟩:Str) = "!"):=by
 intro j
 match j with
 |⟨0,_⟩=>exact⟨61,(by show sgs.cps[0]?=some 61;decide +kernel),.inl (by trivial)⟩
 |⟨1,_⟩=>exact⟨60,(by show sgs.cps[1]?=some 60;decide +kernel),.inr (.inl (by trivial))⟩
 |⟨2,_⟩=>exact⟨62,(by show sgs.cps[2]?=some 62;decide +kernel),.inr (.inr (.inl (by trivial)))⟩
 |⟨3,_⟩=>exact⟨33,(by show sgs.cps[3]?=some 33;decide +kernel),.inr (.inr (.inr (by trivial)))⟩
 |⟨n+4,h⟩=>exact absurd h (by lia)
inductive aIr (K:bFQ)(vs:List V)(H:Hp)(Q:VK)(E_:XK):Prop
 |mk (a:Addr) (vh:V) (hd:Hdr) (_:vs=[.ref a,vh]) (_:mQ H a) (_:nG K H vh hd) (_:aBh hd) (_:∀v H' ts,Fx a H H'->pR IsT 1 2 K H' v ts->(∀t∈ts,aPy hd t)->Q v H')
def aX8 (h:mX R is ys):∀y∈ys,∃i∈is,R i y:=by
 induction h with
 |nil=>intro y b;cases b
 |cons r _ ih=>
  intro z hz;rcases List.mem_cons.mp hz with rfl|hz
  ·exact⟨_,j7 ..,r⟩
  ·obtain⟨i,a,q⟩:=ih z hz;exact⟨i,j8 _ a,q⟩
theorem aJv:∀{k n:Nat} {i:Nat},i∈sel p k (List.range' k n)->p i=true/\k<=i/\i<k+n
 |k,0,i,h=>by cases h
 |k,n+1,i,h=>by
  rw[bEQ] at h;have h:i∈(if p k then k::sel p (k+1) (List.range' (k+1) n) else sel p (k+1) (List.range' (k+1) n)):=h
  split at h
  ·rcases List.mem_cons.mp h with rfl|h
   ·exact⟨by assumption,by lia,by lia⟩
   ·obtain⟨a,b,c⟩:=aJv h;exact⟨a,by lia,by lia⟩
  ·obtain⟨a,b,c⟩:=aJv h;exact⟨a,by lia,by lia⟩
theorem aR8 {p:Nat->Bool}:∀{k n:Nat} {i:Nat},p i=true->k<=i->i<k+n->i∈sel p k (List.range' k n)
 |k,0,i,_,_,_=>by lia
 |k,n+1,i,h,h1,h2=>by
  rw[bEQ];show i∈(if p k then k::sel p (k+1) (List.range' (k+1) n) else sel p (k+1) (List.range' (k+1) n));by_cases e:i=k
  ·subst e;rw[if_pos h];exact j7 ..
  ·have:=aR8 (k:=k+1) (n:=n) h (by lia) (by lia)
   split
   ·exact j8 _ this
   ·exact this
def aG5 (T:!Txt)(aL:!Ok 1 "_law_next" m7 jA)(bd:!Ok 3 "_law_value" bQL aSe):!Ok 4 "_law_tests" o9 (aIr K):=by
 refine Ok.ofV T.aJ0 rC (by trivial) (λf b7 A al s H vs Q E hr h=>?_)
 obtain⟨a,vh,o,rfl,hs,⟨b,us,rfl,hb,hu⟩,⟨⟨nd,l1,l8⟩,hc⟩,q⟩:=h;have bf:=rC.nd;refine⟨_,(aA (aQ 2 (bC jJ)) (aA (jY PassesOwn.never rfl (gV (by rfl) T.lG (va1 (aO dR aD (bY aL (aG (vv 0) (va1 aD)))))) (dZ 3) (aA (vJ (cR cM (vv 1) (bY aL (aG (vv 0) (va1 (aU bD (by rfl) T.fX dJ (va1 (vv 1))))))) (lV rfl (aY (dZ 4) (aY (dZ 5) eN)))) (aA (aQ 6 (aW (aG aF (va1 (bY bd (aG (vv 0) (va1 (vv 5)))))))) (aA (zV (i0:=7) rC.nd rfl (by trivial) (N:=["_law_column","_law_sort","_law_kind"]) ck (lW (aC uI)) rfl (lC (vv 1)) (λcl W l fp=>⟨(nQ (K:=K) (n:=2) rfl (aY (jW 0) (aY (jW 1) eN))),(aB2 (cU cV (vv 1) (vv 2))),(vv 0)⟩)) (aA (bH (cU cV (bY aL (aG (vv 0) (va1 aD))) aD) (aB (aQ 6 (aW (aG aF (va1 (cR dF (vv 7) (bY aL (aG (vv 0) (va1 (aU bD (by rfl) T.fX dJ (va1 (vv 7)))))))))))) aP) (aB (dD (iB PySem.F.plainAttrs_list PySem.F.slot_list_append PySem.F.type_list_append eF (vv 2) (va1 (aW (aG (vv 4) (aG (kJ aF (bY aL (aG (vv 0) (va1 aD))) (λ_ _=>rfl)) (va1 (vv 6)))))))))))))) (aB (aK (bK cA (by rfl) T.cW cG (va1 (vv 2))))))),?_⟩;have lu:=hu.len;refine⟨sz0,λp H1 fp s1 g1=>?_⟩;have f1:=Fx.of hs s1;have j:p≠a:=hs.ne fp;refine⟨_,rfl,a,2,rfl,f1.st,by decide,λm H2 f2 m0 m1=>?_⟩;have as:=f1.trans f2;have g2:=f2.same _ _ j g1;refine⟨_,_,rfl,rfl,_,rfl,(by show -(2 ^ 62)<=1+m;lia),(by show 1+m<2 ^ 62;lia),?_⟩;refine kE (n:=(1+m).toNat) (λi σ l=>Fx a H l/\∃(ws:List V) (ts:List Tst) (l3 l4 l5 l6 l7:Option V),l p=some (.lst ws)/\ts.length=i/\cN (IsT K l) ws ts/\(∀t∈ts,aPy o t)/\σ=[some (.ref a),some (.ref b),some (.ref p),l3,l4,l5,l6,l7]) ⟨as,[],[],_,_,_,_,_,g2,rfl,.nil,(λt h=>by cases h),rfl⟩ ?_ ?_
 ·rintro i σ l hi ⟨fx,ws,ts,l3,l4,l5,l6,l7,gp,hl,hw,hts,rfl⟩;have lw:=hw.len;have ap:TK K H l:=fx.tk hs;refine⟨_,rfl,_,rfl,_,rfl,_,_,rfl,.inr (ap _ _ hb),a,_,rfl,fx.st,(by show (0:Int)<(us.length:Int);lia),λd H3 f3 d0 d1=>?_⟩;obtain⟨u,ak,ag⟩:=at_of (xs:=us) d0 d1;obtain⟨c,a6,pc,rfl,b3⟩:=hu.mem ag;obtain⟨ah,au⟩:=hc c a6;have bb:=f3;have a3:=fx.trans f3;have af:TK K H H3:=a3.tk hs;refine⟨b,_,_,_,rfl,rfl,af _ _ hb,ak,pc,_,rfl,af _ _ b3,rfl,_,_,rfl,_,_,rfl,rfl,?_⟩;refine⟨_,rfl,_,rfl,a,c.2,rfl,a3.st,au,λv H4 f4 hv=>?_⟩;refine⟨sz2,λt1 H5 be s5 g5=>?_⟩;have b0:=(f3.trans f4).sm s5;have aa:=(a3.trans f4).sm s5;have O:TK K H H5:=aa.tk hs;have aj:IsO K H5 (.ref t1) (.val v):=⟨t1,rfl,SqT.of g5,(bB3 hv).th,bB3 hv⟩;have av:bC5 o (.val v)=some c.2:=by show some (kindS v)=some c.2;rw[(bDa hv).2]
  have b2:=s5 _ _ (f4.same _ _ j (f3.same _ _ j gp));dsimp only[rF,vH,cY];refine wG [none,none,some (.str c.2)] ?_ ⟨_,rfl,b,rfl,⟨_,O _ _ hb⟩,aEq Same (xA H5) us (kp o c.2) (λi _ y=>∃g,o[i]?=some g/\y=.str g.1) (λ_ _ h=>h) (λ_ _ _ h=>h) (λi σ=>∃g,o[i]?=some g/\At2 [none,none,some (.str c.2)] (.str g.1) (.str g.2) σ) (Ps2 [none,none,some (.str c.2)]) ⟨none,none,rfl⟩ (small (by lia)) _ (aEn λl W=>W.aV (O _ _ hb)) (vX λl W=>W.aV (O _ _ hb)) (λi x σ' l Q' ex az W qq=>?_) (λi x σ2 ex hA l R W r=>?_) (λi x σ2 ex hA hp l R W r=>?_) λD H6 ys s6 fD g6 a0=>?_⟩
  ·refine⟨rfl,λi y v h1 I=>?_⟩
   match i,h1,I with
   |0,_,I=>cases I
   |1,_,I=>cases I
   |2,h1,I=>cases h1;cases I;exact⟨by trivial,5,rfl,rfl,by trivial⟩
   |i+3,h1,_=>cases h1
  ·obtain⟨g,k,p',rfl,ar⟩:=gJ hu ex;exact hg2 (W.aV (O _ _ ar)) az fun σ2 h1 I=>qq σ2 h1 ⟨g,k,I⟩
  ·obtain⟨g,k,rfl⟩:=hA;refine⟨_,rfl,_,rfl,rfl,_,rfl,?_⟩;have e:kp o c.2 i=decide (V.str g.2=V.str c.2):=by unfold kp;rw[k];exact decide_eq_decide.mpr ⟨λz=>congrArg V.str z,λz=>V.str.inj z⟩
   rw[<-e];exact r l (Same.refl l)
  ·obtain⟨g,k,rfl⟩:=hA;exact⟨_,rfl,r _ _ (Same.refl l) ⟨g,k,rfl⟩⟩
  have ao:=b0.sm s6;have M:=aa.sm s6;have b9:TK K H H6:=M.tk hs;have ac:D≠a:=aa.st.ne fD;obtain⟨j0,b4,ax⟩:=List.getElem_of_mem a6;have bc:0<ys.length:=by
   have b1:j0∈sel (kp o c.2) 0 (List.range us.length):=by rw[bDU];refine aR8 ?_ (bAK _) (by lia);unfold kp;rw[d7 b4,ax];exact v9 rfl
   rw[<-a0.len];exact List.length_pos_of_mem b1
  have ay:∀y∈ys,∃g∈o,y=.str g.1/\g.2=c.2:=λy hy=>by obtain⟨i,hi,g,k,rfl⟩:=aX8 a0 y hy;rw[bDU] at hi;have hp:=(aJv hi).1;unfold kp at hp;rw[k] at hp;exact⟨g,bAQ k,rfl,of_decide_eq_true hp⟩
  have ba:ys.length<=8:=by have:=aBo (kp o c.2) 0 (List.range us.length);rw[bAN,a0.len] at this;lia
  have ad:look o c.1=some c.2:=tD nd a6;refine⟨_,rfl,a,3,rfl,M.st,by decide,λd3 H7 f7 _ _=>⟨rfl,_,rfl,?_⟩⟩;have J:=ao.trans f7;have ai:=M.trans f7;have S:=f7.same _ _ j (s6 _ _ b2);have ae:=f7.same _ _ ac g6;refine qY (λ_=>?_) (λ_=>?_)
  ·refine⟨_,rfl,_,rfl,_,rfl,D,_,rfl,.inl (SqL.of ae),a,_,rfl,ai.st,(by show (0:Int)<(ys.length:Int);lia),λd8 H8 f8 aq b5=>?_⟩;obtain⟨y,hy,my⟩:=at_of (xs:=ys) aq b5;obtain⟨g,X,rfl,ab⟩:=ay y my;refine⟨D,_,_,_,rfl,rfl,SqL.of (f8.same _ _ ac ae),hy,sz2,λt2 H9 b8 s9 g9=>?_⟩;have a5:=(J.trans f8).sm s9;have b6:=(ai.trans f8).sm s9;have aw:IsO K H9 (.ref t2) (.col g.1):=⟨t2,rfl,SqT.of g9,(hc g X).1⟩;have am:bC5 o (.col g.1)=some c.2:=by show look o g.1=some c.2;rw[tD nd X,ab]
   have a8:=s9 _ _ (f8.same _ _ j S);refine⟨_,rfl,.inl ⟨rfl,_,SqL.of a8⟩,_,rfl,_,rfl,a,4,rfl,a5.st,by decide,λdz Hz L a1 Y=>?_⟩;obtain⟨ch,Z,a4⟩:=bCr ⟨dz.toNat,by lia⟩;have sl:sgs.length=4:=by trivial
   refine⟨_,_,_,rfl,rfl,a1,(by lia),(by rw[sl];exact Y),Z,_,rfl,sz3,λU Hy a9 sy gy=>?_⟩;have C:=(a5.trans L).sm sy;have G:=sy _ _ (L.same _ _ j a8);have a7:U≠p:=(aX (L.same _ _ j a8) a9).symm;have B:∀zs,TK K Hy (upd Hy p (.lst zs)):=λzs _ _ e=>e.aFt G;have a2:=(aw.tk (λ_ _ e=>sy.aV (L.aV a5.st e))).tk (B (ws++[.ref U]));refine⟨p,_,_,rfl,rfl,G,eG (by lia),?_⟩;refine⟨(fx.trans C).upd fp j,ws++[.ref U],ts++[⟨c.1,⟨#[ch]⟩,(.col g.1)⟩],_,_,_,_,_,aJ,by rw[j6,hl];rfl,(hw.imp λ_ _ h=>(h.tk (C.tk fx.st)).tk (B _)).app (.cons (b:=(⟨c.1,⟨#[ch]⟩,.col g.1⟩:Tst)) ⟨U,_,rfl,SqT.of (by rw[aR a7];exact gy),ah,a4,a2⟩ .nil),λt ht=>?_,rfl⟩;rcases List.mem_append.mp ht with ht|ht
   ·exact hts t ht
   ·rw[List.mem_singleton.mp ht];exact⟨c.2,ad,am⟩
  ·have an:IsO K H7 (.ref t1) (.val v):=aj.tk λ_ _ e=>f7.aV M.st (s6.aV e);refine⟨_,rfl,.inl ⟨rfl,_,SqL.of S⟩,_,rfl,_,rfl,a,4,rfl,J.st,by decide,λdz Hz L a1 Y=>?_⟩;obtain⟨ch,Z,a4⟩:=bCr ⟨dz.toNat,by lia⟩;have sl:sgs.length=4:=by trivial
   refine⟨_,_,_,rfl,rfl,a1,(by lia),(by rw[sl];exact Y),Z,_,rfl,sz3,λU Hy a9 sy gy=>?_⟩;have C:=(J.trans L).sm sy;have G:=sy _ _ (L.same _ _ j S);have a7:U≠p:=(aX (L.same _ _ j S) a9).symm;have B:∀zs,TK K Hy (upd Hy p (.lst zs)):=λzs _ _ e=>e.aFt G;have a2:=(an.tk (λ_ _ e=>sy.aV (L.aV J.st e))).tk (B (ws++[.ref U]));refine⟨p,_,_,rfl,rfl,G,eG (by lia),?_⟩;refine⟨(fx.trans C).upd fp j,ws++[.ref U],ts++[⟨c.1,⟨#[ch]⟩,(.val v)⟩],_,_,_,_,_,aJ,by rw[j6,hl];rfl,(hw.imp λ_ _ h=>(h.tk (C.tk fx.st)).tk (B _)).app (.cons (b:=(⟨c.1,⟨#[ch]⟩,.val v⟩:Tst)) ⟨U,_,rfl,SqT.of (by rw[aR a7];exact gy),ah,a4,a2⟩ .nil),λt ht=>?_,rfl⟩;rcases List.mem_append.mp ht with ht|ht
   ·exact hts t ht
   ·rw[List.mem_singleton.mp ht];exact⟨c.2,ad,av⟩
 ·rintro σ l ⟨fx,ws,ts,l3,l4,l5,l6,l7,gp,hl,hw,hts,rfl⟩;exact⟨_,rfl,p,ws,rfl,SqL.of gp,λt H5 _ s5 g5=>q _ _ ts (fx.sm s5) ⟨⟨t,ws,rfl,SqT.of g5,hw.imp λ_ _ h=>h.same s5⟩,by lia,by lia⟩ hts⟩
end
end My
namespace L2
open PySem PySem.Spec PyProof.Rows PySem.Builtin PySem.Builtin.Str
theorem aIu:∀l:List (Str × Tok),Vals ((l.map (·.1)).map V.str) (strValues l)
 |[]=>.nil
 |p::l=>.cons ⟨p.2,rfl⟩ (aIu l)
def bEq:V->List V->Hp->VK->Prop:=λx vs H Q=>∃z w,x=.str z/\vs=[.str w]/\(w.length == 0)=false/\z.length+2<=sizeLine /\
 ∀p H',H p=none->Same H H'->H' p=some (.lst ((Txt.split z w).map V.str))->Q (.ref p) H'
def aF6:MtR X "str.split" bEq:=by
 intro g s σ H p w v r Q I o j h;obtain⟨x,y,rfl,rfl,i,n,q⟩:=h;obtain⟨t,rfl⟩:=o;obtain⟨A,rfl,u,rfl⟩:=j.one;have d:=I.hok.fresh (v7 _);have a:∀l k,l.map (·.1)=Txt.split x y->EP X g σ Q (.ref s.heap.objs.size) { s with heap:=s.heap.push { cls:=.type "list",data:=.seq (strValues l).toArray },toks:=k }:=by intro l k e;refine⟨.ref s.heap.objs.size,upd H s.heap.objs.size (.lst ((Txt.split x y).map V.str)),I.laid (t':=k) (λb u e=>j4 _ e) (v7 _) ?_,rfl,q _ _ d (cF d _) aJ⟩;exact⟨by rw[j5];exact bAF (split_le x y) n,_,0,e ▸ aIu l,z9 _ rfl⟩
 have m:(partsBetween x (occurrences x y 0 x.length (x.length+1)) y.length).length<=sizeLine:=by have z:=StrLaws.occ_length_le x y 0 x.length (x.length+1);rw[length_partsBetween];lia
 cases c:(decide (x.length<y.length) || decide (strKind x<strKind y))
 ·cases f:(occurrences x y 0 x.length (x.length+1)).isEmpty
  ·refine call_meets F.slot_str_split (typeIs_str _ _ _) F.entry_str_split (F.args_str_split_2 _ _) (meets_str_split_sep x y t u c i f (by lia) m) ?_;rw[strsFrom_eq];exact a (numbered s.toks _) _ ((numbered_texts _ _).trans ((if_neg (ne_true_of_eq_false c)).trans (if_neg (ne_true_of_eq_false f))).symm)
  ·exact call_meets F.slot_str_split (typeIs_str _ _ _) F.entry_str_split (F.args_str_split_2 _ _) (meets_str_split_not_found x y t u c i f)
    (a [(x,t)] s.toks ((if_neg (ne_true_of_eq_false c)).trans (if_pos f)).symm)
 ·exact call_meets F.slot_str_split (typeIs_str _ _ _) F.entry_str_split (F.args_str_split_2 _ _) (meets_str_split_cannot_occur x y t u c)
   (a [(x,t)] s.toks (if_pos c).symm)
theorem aSr:∀{a b:List Nat} {r q:List Nat},c∉a->c∉b->(r=[]\/r.head?=some c)->(q=[]\/q.head?=some c)->a++r=b++q->a=b/\r=q
 |[],[],_,_,_,_,_,_,e=>⟨rfl,e⟩
 |[],y::b,r,q,_,hb,hr,_,e=>by
  rcases hr with rfl|hr
  ·cases e
  ·rw[bEY] at e;rw[e] at hr;cases hr;exact absurd (j7 ..) hb
 |x::a,[],r,q,ha,_,_,hq,e=>by
  rcases hq with rfl|hq
  ·cases e
  ·rw[bEY] at e;rw[<-e] at hq;cases hq;exact absurd (j7 ..) ha
 |x::a,y::b,r,q,ha,hb,hr,hq,e=>by obtain⟨g,d⟩:=List.cons.inj e;obtain⟨i,f⟩:=aSr (λh=>ha (j8 _ h)) (λh=>hb (j8 _ h)) hr hq d;exact⟨by rw[g,i],f⟩
def behind (c:Nat):List Str->List Nat
 |[]=>[]
 |t::ts=>c::(Str.join ⟨#[c]⟩ (t::ts)).cps.toList
def aSs (a b:Str):(a++b).cps.toList=a.cps.toList++b.cps.toList:=by exact bEB
def aDa (c:Nat)(t:Str)(ts:List Str):(Str.join ⟨#[c]⟩ (t::ts)).cps.toList=t.cps.toList++behind c ts:=by
 cases ts with
 |nil=>show t.cps.toList=_;exact (bAJ _).symm
 |cons u us=>rw[show Str.join ⟨#[c]⟩ (t::u::us)=t++⟨#[c]⟩++Str.join ⟨#[c]⟩ (u::us) from rfl,aSs,aSs,bAB];rfl
def aHv (c:Nat)(ts:List Str):behind c ts=[]\/(behind c ts).head?=some c:=by
 cases ts with
 |nil=>exact .inl rfl
 |cons u us=>exact .inr rfl
def aRc {a b:Str}(h:a.cps.toList=b.cps.toList):a=b:=by cases a;cases b;exact congrArg Str.mk (Array.toList_inj.mp h)
theorem aGj {c:Nat}:∀{ts us:List Str},(∀t∈ts,c∉t.cps.toList)->(∀t∈us,c∉t.cps.toList)->behind c ts=behind c us->ts=us
 |[],[],_,_,_=>rfl
 |[],u::us,_,_,e=>by cases e
 |t::ts,[],_,_,e=>by cases e
 |t::ts,u::us,ht,hu,e=>by have a:=(List.cons.inj e).2;rw[aDa,aDa] at a;obtain⟨b,d⟩:=aSr (ht _ (j7 ..)) (hu _ (j7 ..)) (aHv c ts) (aHv c us) a;rw[aRc b,aGj (λx h=>ht x (j8 _ h)) (λx h=>hu x (j8 _ h)) d]
def aO9 (d:ts≠[])(h:∀t∈ts,c∉t.cps.toList):Txt.split (Txt.join ⟨#[c]⟩ ts) ⟨#[c]⟩=ts:=by
 rw[show Txt.join ⟨#[c]⟩ ts=Str.join ⟨#[c]⟩ ts from StrLaws.glued_eq_join _ _];have e:=StrLaws.join_split (Str.join ⟨#[c]⟩ ts) ⟨#[c]⟩;have a:=StrLaws.split_free (Str.join ⟨#[c]⟩ ts) c;have b:=split_pos (Str.join ⟨#[c]⟩ ts) ⟨#[c]⟩;generalize Txt.split (Str.join ⟨#[c]⟩ ts) ⟨#[c]⟩=us at e a b;refine aGj a h ?_;cases us with
 |nil=>exact absurd b (by decide)
 |cons u us=>
  cases ts with
  |nil=>exact absurd rfl d
  |cons t ts=>show c::_=c::_;rw[e]
def vN (x:Str)(c:Nat):Txt.join ⟨#[c]⟩ (Txt.split x ⟨#[c]⟩)=x:=(StrLaws.glued_eq_join _ _).trans (StrLaws.join_split x _)
def aK7 (a:∀y∈ts,y.length<=B)(h:ts.length * B+ts.length * sep.length<=16777216):JoinOk sep ts=true:=by unfold JoinOk;rw[PySem.StrLaws.joinFits a h];rfl
end L2
namespace My
open PySem PySem.Spec PyProof.Rows L2
section
variable {w:World}{K:bFQ}
def wO:Oth->Str
 |.val x=>shw x
 |.col d=>d
def wT (t:Tst):List Str:=[t.c,t.sg,wO t.o]
def wP (p:Str × Str):List Str:=[p.1,p.2]
def wS (s:Sm):List Str:=match s.c with
 |none=>[s.wd,s.new]
 |some c=>[s.wd,c,s.new]
def dU:List (List Str)->List Str
 |[]=>[]
 |[a]=>a
 |a::b::r=>a++("and":Str)::dU (b::r)
def bJ (x:Str):List (List Str)->List Str
 |[]=>[]
 |a::r=>x::(a++bJ x r)
def wq:Qn->List Str
 |.table T=>[T]
 |.whr q ts=>wq q++("where":Str)::dU (ts.map wT)
 |.keep q ns=>wq q++("keep":Str)::ns
 |.nmd q ns=>wq q++("named":Str)::ns
 |.join q r ps=>wq q++("join":Str)::("(":Str)::(wq r++(")":Str)::("on":Str)::dU (ps.map wP))
 |.group q ns ss=>wq q++("group":Str)::(ns++bJ "with" (ss.map wS))
 |.first q ks m=>wq q++("first":Str)::shw (.int m)::bJ "by" (ks.map wP)
inductive Stp:Qn->Qn->List Str->Prop
 |whr {q ts}:Stp q (.whr q ts) (("where":Str)::dU (ts.map wT))
 |keep {q ns}:Stp q (.keep q ns) (("keep":Str)::ns)
 |nmd {q ns}:Stp q (.nmd q ns) (("named":Str)::ns)
 |join {q r ps}:Stp q (.join q r ps) (("join":Str)::("(":Str)::(wq r++(")":Str)::("on":Str)::dU (ps.map wP)))
 |group {q ns ss}:Stp q (.group q ns ss) (("group":Str)::(ns++bJ "with" (ss.map wS)))
 |first {q ks} {m:Nat}:Stp q (.first q ks m) (("first":Str)::shw (.int m)::bJ "by" (ks.map wP))
inductive Aft:Qn->Qn->List Str->Prop
 |refl (q:Qn):Aft q q []
 |more {q0 q q':Qn} {l w:List Str}:Aft q0 q l->Stp q q' w->Aft q0 q' (l++w)
def Aft.first {q0 q:Qn}{l:List Str}(h:Aft q0 q l):(q0=q/\l=[])\/∃q1 w l',Stp q0 q1 w/\Aft q1 q l'/\l=w++l':=by
 induction h with
 |refl=>exact .inl ⟨rfl,rfl⟩
 |more a s ih=>
  refine .inr ?_;rcases ih with⟨e,f⟩|⟨q1,w,l',s1,a1,e⟩
  ·rw[f,e];exact⟨_,_,[],s,.refl _,(bAJ _).symm⟩
  ·exact⟨q1,w,_,s1,.more a1 s,by rw[e,bAB]⟩
def tab0:Qn->Str
 |.table T=>T
 |.whr q _=>tab0 q
 |.keep q _=>tab0 q
 |.nmd q _=>tab0 q
 |.join q _ _=>tab0 q
 |.group q _ _=>tab0 q
 |.first q _ _=>tab0 q
def rR {T:Str}{q q':Qn}{w:List Str}(h:∃l,Aft (.table T) q l/\wq q=T::l)(s:Stp q q' w)(e:wq q'=wq q++w):∃l,Aft (.table T) q' l/\wq q'=T::l:=by obtain⟨l,a,f⟩:=h;exact⟨_,.more a s,by rw[e,f,bBA]⟩
def aR4 (q:Qn):∃l,Aft (.table (tab0 q)) q l/\wq q=tab0 q::l:=by
 induction q with
 |table T=>exact⟨[],.refl _,rfl⟩
 |whr q ts ih=>exact rR ih .whr rfl
 |keep q ns ih=>exact rR ih .keep rfl
 |nmd q ns ih=>exact rR ih .nmd rfl
 |join q r ps ih _=>exact rR ih .join rfl
 |group q ns ss ih=>exact rR ih .group rfl
 |first q ks m ih=>exact rR ih .first rfl
def Stp.hd {q q':Qn}{w:List Str}(h:Stp q q' w):∃x r,w=x::r/\x≠")":=by cases h;all_goals exact⟨_,_,rfl,by decide⟩
def txt (l:List Str):Str:=PySem.Txt.join " " l
def cO (a b:Str)(l:List Str):txt (a::b::l)=a++" "++txt (b::l):=by unfold txt PySem.Txt.join;rw[StrLaws.glued_eq_join,StrLaws.glued_eq_join];rfl
def gC (a:Str):txt [a]=a:=by unfold txt PySem.Txt.join;rw[StrLaws.glued_eq_join];rfl
theorem uA:∀{a b:List Str},a≠[]->b≠[]->txt (a++b)=txt a++" "++txt b
 |[x],y::b,_,_=>by rw[gC];exact cO x y b
 |x::z::a,b,_,hb=>by have c:=uA (a:=z::a) (b:=b) (λe=>by cases e) hb;rw[bBA] at c;rw[bBA,bBA,cO,cO,c];simp only[PySem.Str.append_assoc]
 |[],_,h,_=>absurd rfl h
 |_,[],_,h=>absurd rfl h
def aCj (a:l≠[])(h:∀t∈l,32∉t.cps.toList):PySem.Txt.split (txt l) " "=l:=aO9 a h
theorem aPl:∀{ls:List (List Str)},ls≠[]->(∀l∈ls,l≠[])->dU ls≠[]
 |[a],_,h=>h a (j7 ..)
 |a::b::r,_,h=>λe=>by have c:=List.append_eq_nil_iff.mp e;cases c.2
 |[],h,_=>absurd rfl h
def aH3 (s a b:Str)(l:List Str):PySem.Txt.join s (a::b::l)=a++s++PySem.Txt.join s (b::l):=by unfold PySem.Txt.join;rw[StrLaws.glued_eq_join,StrLaws.glued_eq_join];rfl
def join_one (s a:Str):PySem.Txt.join s [a]=a:=by unfold PySem.Txt.join;rw[StrLaws.glued_eq_join];rfl
def yP (h:l≠[]):txt (x::l)=x++" "++txt l:=by
 cases l with
 |nil=>exact absurd rfl h
 |cons y l=>exact cO x y l
theorem aEa:∀{ls:List (List Str)},ls≠[]->(∀l∈ls,l≠[])->PySem.Txt.join " and " (ls.map txt)=txt (dU ls)
 |[a],_,_=>join_one _ _
 |a::b::r,_,h=>by have c:∀l∈b::r,l≠[]:=λl m=>h l (j8 _ m);have d:=aEa (λe=>by cases e) c;rw[bAE] at d;rw[bAE,bAE,aH3,d];show _=txt (a++("and":Str)::dU (b::r));rw[uA (h a (j7 ..)) (λe=>by cases e),yP (aPl (λe=>by cases e) c)];rw[show (" and ":Str) = " "++"and"++" " by decide];simp only[PySem.Str.append_assoc]
 |[],h,_=>absurd rfl h
theorem aFj:∀ls {l:List Str},l≠[]->(∀l∈ls,l≠[])->(ls.foldl (λt a=>t++" "++x++" "++txt a) (txt l))=txt (l++bJ x ls)
 |[],l,_,_=>by rw[show bJ x []=[] from rfl,bAJ];rfl
 |a::r,l,h0,h=>by
  have b:=h a (j7 ..);have e:txt l++" "++x++" "++txt a=txt (l++x::a):=by rw[uA h0 (λe=>by cases e),yP b];simp only[PySem.Str.append_assoc]
  show List.foldl _ (txt l++" "++x++" "++txt a) r=_;rw[e,aFj r (λe=>by cases (List.append_eq_nil_iff.mp e).2) (λl m=>h l (j8 _ m)),bAB];rfl
theorem wM:∀ns {l:List Str},l≠[]->ns.foldl (λt n=>t++(" ":Str)++n) (txt l)=txt (l++ns)
 |[],l,_=>by rw[bAJ];rfl
 |n::ns,l,h0=>by show List.foldl _ (txt l++" "++n) ns=_;rw[show txt l++" "++n=txt (l++[n]) by rw[uA h0 (λe=>by cases e),gC],wM ns (λe=>by cases (List.append_eq_nil_iff.mp e).2),bAB];rfl
def aJ9 (F:Str->Prop):Qn->Prop
 |.table T=>F T
 |.whr q ts=>aJ9 F q/\∀t∈ts,F t.c/\F t.sg/\F (wO t.o)
 |.keep q ns=>aJ9 F q/\∀n∈ns,F n
 |.nmd q ns=>aJ9 F q/\∀n∈ns,F n
 |.join q r ps=>aJ9 F q/\aJ9 F r/\∀p∈ps,F p.1/\F p.2
 |.group q ns ss=>aJ9 F q/\(∀n∈ns,F n)/\∀s∈ss,F s.wd/\F s.new/\∀c,s.c=some c->F c
 |.first q ks m=>aJ9 F q/\F (shw (.int m))/\∀p∈ks,F p.1/\F p.2
abbrev aNj:List Str:=["and","where","keep","named","join","(",")","on","group","with","first","by"]
theorem wR {F:Str->Prop}(h:F "and"):∀{ls:List (List Str)},(∀l∈ls,∀t∈l,F t)->∀t∈dU ls,F t
 |[],_,t,m=>by cases m
 |[a],k,t,m=>k a (j7 ..) t m
 |a::b::r,k,t,m=>by
  rcases List.mem_append.mp m with m|m
  ·exact k a (j7 ..) t m
  ·rcases List.mem_cons.mp m with rfl|m
   ·exact h
   ·exact wR h (λl z=>k l (j8 _ z)) t m
theorem wH {F:Str->Prop}{x:Str}(h:F x):∀{ls:List (List Str)},(∀l∈ls,∀t∈l,F t)->∀t∈bJ x ls,F t
 |[],_,t,m=>by cases m
 |a::r,k,t,m=>by
  rcases List.mem_cons.mp m with rfl|m
  ·exact h
  ·rcases List.mem_append.mp m with m|m
   ·exact k a (j7 ..) t m
   ·exact wH h (λl z=>k l (j8 _ z)) t m
def aVm {F:Str->Prop}{ps:List (Str × Str)}(h:∀p∈ps,F p.1/\F p.2):∀l∈ps.map wP,∀t∈l,F t:=by
 intro l m t mt;obtain⟨p,a,rfl⟩:=List.mem_map.mp m;rcases List.mem_cons.mp mt with rfl|mt
 ·exact (h p a).1
 ·rw[List.mem_singleton.mp mt];exact (h p a).2
def bD0 {F:Str->Prop}(h:∀x∈aNj,F x)(q:Qn):aJ9 F q->∀t∈wq q,F t:=by
 have k:∀x:Str,aNj.contains x=true->F x:=λx m=>h x (List.contains_iff_mem.mp m)
 induction q with
 |table T=>intro a t m;rw[List.mem_singleton.mp m];exact a
 |whr q ts ih=>
  intro a t m;rcases List.mem_append.mp m with m|m
  ·exact ih a.1 t m
  rcases List.mem_cons.mp m with rfl|m
  ·exact k _ (by decide)
  refine wR (k _ (by decide)) (λl i t mt=>?_) t m;obtain⟨p,e,rfl⟩:=List.mem_map.mp i;obtain⟨b,d,f⟩:=a.2 p e;rcases List.mem_cons.mp mt with rfl|mt
  ·exact b
  rcases List.mem_cons.mp mt with rfl|mt
  ·exact d
  rw[List.mem_singleton.mp mt];exact f
 |keep q ns ih=>
  intro a t m;rcases List.mem_append.mp m with m|m
  ·exact ih a.1 t m
  rcases List.mem_cons.mp m with rfl|m
  ·exact k _ (by decide)
  exact a.2 t m
 |nmd q ns ih=>
  intro a t m;rcases List.mem_append.mp m with m|m
  ·exact ih a.1 t m
  rcases List.mem_cons.mp m with rfl|m
  ·exact k _ (by decide)
  exact a.2 t m
 |join q r ps ih ir=>
  intro a t m;rcases List.mem_append.mp m with m|m
  ·exact ih a.1 t m
  rcases List.mem_cons.mp m with rfl|m
  ·exact k _ (by decide)
  rcases List.mem_cons.mp m with rfl|m
  ·exact k _ (by decide)
  rcases List.mem_append.mp m with m|m
  ·exact ir a.2.1 t m
  rcases List.mem_cons.mp m with rfl|m
  ·exact k _ (by decide)
  rcases List.mem_cons.mp m with rfl|m
  ·exact k _ (by decide)
  exact wR (k _ (by decide)) (aVm a.2.2) t m
 |group q ns ss ih=>
  intro a t m;rcases List.mem_append.mp m with m|m
  ·exact ih a.1 t m
  rcases List.mem_cons.mp m with rfl|m
  ·exact k _ (by decide)
  rcases List.mem_append.mp m with m|m
  ·exact a.2.1 t m
  refine wH (k _ (by decide)) (λl i t mt=>?_) t m;obtain⟨p,e,rfl⟩:=List.mem_map.mp i;obtain⟨b,d,f⟩:=a.2.2 p e;unfold wS at mt;cases g:p.c with
  |none=>
   rw[g] at mt;rcases List.mem_cons.mp mt with rfl|mt
   ·exact b
   rw[List.mem_singleton.mp mt];exact d
  |some c=>
   rw[g] at mt;rcases List.mem_cons.mp mt with rfl|mt
   ·exact b
   rcases List.mem_cons.mp mt with rfl|mt
   ·exact f _ g
   rw[List.mem_singleton.mp mt];exact d
 |first q ks m' ih=>
  intro a t m;rcases List.mem_append.mp m with m|m
  ·exact ih a.1 t m
  rcases List.mem_cons.mp m with rfl|m
  ·exact k _ (by decide)
  rcases List.mem_cons.mp m with rfl|m
  ·exact a.2.1
  exact wH (k _ (by decide)) (aVm a.2.2) t m
def aC3 (q:Qn):wq q≠[]:=by obtain⟨l,_,e⟩:=aR4 q;rw[e];exact λz=>by cases z
def aYh {q q':Qn}{w:List Str}(h:Stp q q' w):wq q'=wq q++w:=by cases h <;> rfl
def qD {q q':Qn}{w:List Str}(h:Stp q q' w):txt (wq q')=txt (wq q)++" "++txt w:=by obtain⟨x,r,e,_⟩:=h.hd;rw[aYh h,uA (aC3 q) (by rw[e];exact λz=>by cases z)]
def aCg {α β:Type}{f:α->β}{l:List α}(h:l≠[]):l.map f≠[]:=λe=>h (List.map_eq_nil_iff.mp e)
def bCg (ts:List Tst):∀l∈ts.map wT,l≠[]:=by intro l m;obtain⟨t,_,rfl⟩:=List.mem_map.mp m;exact λz=>by cases z
def aRd (ps:List (Str × Str)):∀l∈ps.map wP,l≠[]:=by intro l m;obtain⟨t,_,rfl⟩:=List.mem_map.mp m;exact λz=>by cases z
def bHd (ss:List Sm):∀l∈ss.map wS,l≠[]:=by intro l m;obtain⟨t,_,rfl⟩:=List.mem_map.mp m;unfold wS;cases t.c <;> exact λz=>by cases z
def aIc (h:ts≠[]):txt (("where":Str)::dU (ts.map wT)) = "where"++" "++PySem.Txt.join " and " (ts.map λt=>txt (wT t)):=by rw[yP (aPl (aCg h) (bCg ts)),<-aEa (aCg h) (bCg ts),bAZ];rfl
def aTy (h:ps≠[]):txt (("join":Str)::("(":Str)::(wq r++(")":Str)::("on":Str)::dU (ps.map wP)))=txt ["join","(",txt (wq r),")","on",PySem.Txt.join " and " (ps.map λp=>txt (wP p))]:=by
 have e:PySem.Txt.join " and " (ps.map λp=>txt (wP p))=txt (dU (ps.map wP)):=by rw[<-aEa (aCg h) (aRd ps),bAZ];rfl
 rw[e,yP (λz=>by cases z),yP (λz=>by cases (List.append_eq_nil_iff.mp z).2),uA (aC3 r) (λz=>by cases z),yP (λz=>by cases z),yP (aPl (aCg h) (aRd ps))];rw[cO,cO,cO,cO,cO,gC]
def aS4 (h:ts≠[]):txt (wq q)++" "++"where"++" "++PySem.Txt.join " and " (ts.map λt=>txt (wT t))=txt (wq (.whr q ts)):=by rw[qD .whr,aIc h];simp only[PySem.Str.append_assoc]
def aVn (h:ps≠[]):txt (wq q)++" "++"join"++" ( "++txt (wq r)++" ) on "++PySem.Txt.join " and " (ps.map λp=>txt (wP p))=txt (wq (.join q r ps)):=by rw[qD .join,aTy h,cO,cO,cO,cO,cO,gC,show (" ( ":Str) = " "++"("++" " by decide,show (" ) on ":Str) = " "++")"++" "++"on"++" " by decide];simp only[PySem.Str.append_assoc]
def txt_snoc (x:Str)(h:l≠[]):txt l++" "++x=txt (l++[x]):=by rw[uA h (λz=>by cases z),gC]
def aV1:ns.foldl (λt n=>t++(" ":Str)++n) (txt (wq q)++" "++"keep")=txt (wq (.keep q ns)):=by rw[txt_snoc _ (aC3 q),wM ns (λe=>by cases (List.append_eq_nil_iff.mp e).2),bAB];rfl
def aUj:ns.foldl (λt n=>t++(" ":Str)++n) (txt (wq q)++" "++"named")=txt (wq (.nmd q ns)):=by rw[txt_snoc _ (aC3 q),wM ns (λe=>by cases (List.append_eq_nil_iff.mp e).2),bAB];rfl
def aS3:(ks.map wP).foldl (λt a=>t++(" ":Str)++"by"++" "++txt a) (txt (wq q)++" "++"first"++" "++shw (.int m))=txt (wq (.first q ks m)):=by
 have b:∀{l:List Str} {x:Str},l++[x]≠[]:=λ{l x} e=>by cases (List.append_eq_nil_iff.mp e).2
 rw[txt_snoc _ (aC3 q),txt_snoc _ b,aFj (ks.map wP) b (aRd ks)];simp only[bAB];rfl
def uO (ss:List Sm):Str:=(ss.map wS).foldl (λt a=>t++(" ":Str)++"with"++" "++txt a) ""
theorem aL8 {x:Str}:∀(ls:List (List Str)) (t u:Str),t++ls.foldl (λ(t:Str) (a:List Str)=>t++(" ":Str)++x++" "++txt a) u=ls.foldl (λ(t:Str) (a:List Str)=>t++(" ":Str)++x++" "++txt a) (t++u)
 |[],_,_=>rfl
 |a::r,t,u=>by show t++List.foldl _ _ r=List.foldl _ _ r;rw[aL8 r];simp only[PySem.Str.append_assoc]
def aIe {q:Qn}{ns:List Str}{ss:List Sm}:ns.foldl (λ(t:Str) (n:Str)=>t++(" ":Str)++n) (txt (wq q)++" "++"group")++uO ss=txt (wq (.group q ns ss)):=by
 have a:∀{l:List Str} {x:Str} {r:List Str},l++[x]++r≠[]:=λ{l x r} e=>by cases (List.append_eq_nil_iff.mp (List.append_eq_nil_iff.mp e).1).2
 rw[txt_snoc _ (aC3 q),wM ns (λe=>by cases (List.append_eq_nil_iff.mp e).2)];unfold uO;rw[aL8,show ∀t:Str,t++("":Str)=t from PySem.Str.append_empty,aFj (ss.map wS) a (bHd ss)];simp only[bAB];rfl
def OkO:Oth->Prop
 |.val x=>Vl x
 |.col d=>Nm d
def OkT (t:Tst):Prop:=Nm t.c/\bBa t.sg/\OkO t.o
def OkP (p:Str × Str):Prop:=Nm p.1/\Nm p.2
def OkK (p:Str × Str):Prop:=Nm p.1/\(p.2 = "up"\/p.2 = "down")
def OkS (s:Sm):Prop:=Nm s.new/\((s.wd = "count"/\s.c=none)\/∃c,s.c=some c/\Nm c/\bDy s.wd)
def Wf:Qn->Prop
 |.table T=>Nm T
 |.whr q ts=>Wf q/\1<=ts.length/\ts.length<=3/\∀t∈ts,OkT t
 |.keep q ns=>Wf q/\1<=ns.length/\ns.length<=8/\∀n∈ns,Nm n
 |.nmd q ns=>Wf q/\1<=ns.length/\ns.length<=8/\∀n∈ns,Nm n
 |.join q r ps=>Wf q/\Wf r/\1<=ps.length/\ps.length<=3/\∀p∈ps,OkP p
 |.group q ns ss=>Wf q/\ns.length<=8/\(∀n∈ns,Nm n)/\ss.length<=4/\∀s∈ss,OkS s
 |.first q ks m=>Wf q/\ks.length<=3/\(∀k∈ks,OkK k)/\m<=60
def IsO.ok (h:IsO K H v o):OkO o:=by
 cases o with
 |val x=>obtain⟨a,rfl,c,f,e⟩:=h;exact e
 |col d=>obtain⟨a,rfl,c,b⟩:=h;exact b
def IsT.ok (h:IsT K H v t):OkT t:=by obtain⟨a,w,rfl,e,b,d,c⟩:=h;exact⟨b,d,c.ok⟩
def rB.ok (h:rB K H v t):OkP t:=by obtain⟨a,rfl,c,b⟩:=h;exact b
def qZ.ok (h:qZ K H v t):OkK t:=by obtain⟨a,rfl,c,b⟩:=h;exact b
def nU.ok (h:nU K H v t):OkS t:=by
 obtain⟨a,rfl,d,b⟩:=h;refine⟨d,?_⟩;rcases b with⟨x,y,z⟩|⟨c,x,y,z,u⟩
 ·exact .inl ⟨x,y⟩
 ·exact .inr ⟨c,x,y,z⟩
def aUd {α β:Type}{R:α->β->Prop}{as:List α}{bs:List β}(h:cN R as bs){b:β}(m:b∈bs):∃a,a∈as/\R a b:=by
 induction h with
 |nil=>cases m
 |cons r _ ih=>
  rcases List.mem_cons.mp m with rfl|m
  ·exact⟨_,j7 ..,r⟩
  ·obtain⟨b,c,q⟩:=ih m;exact⟨b,j8 _ c,q⟩
def pR.ok {α:Type}{S:bFQ->Hp->V->α->Prop}{F:α->Prop}{lo hi:Nat}{H:Hp}{v:V}{xs:List α}(h:pR S lo hi K H v xs)(k:∀v x,S K H v x->F x):∀x∈xs,F x:=by obtain⟨⟨a,d,rfl,c,b⟩,_⟩:=h;intro x m;obtain⟨u,_,r⟩:=aUd b m;exact k _ _ r
def IsQ.wf {H:Hp}{v:V}{q:Qn}(h:IsQ K H v q):Wf q:=by
 induction h with
 |table a b=>exact b
 |whr a _ c ih=>exact⟨ih,c.2.1,c.2.2,c.ok λ_ _ h=>h.ok⟩
 |keep a _ c ih=>exact⟨ih,c.2.1,c.2.2,c.ok λ_ _ h=>h.2⟩
 |nmd a _ c ih=>exact⟨ih,c.2.1,c.2.2,c.ok λ_ _ h=>h.2⟩
 |join a _ _ c ih1 ih2=>exact⟨ih1,ih2,c.2.1,c.2.2,c.ok λ_ _ h=>h.ok⟩
 |group a _ c d ih=>exact⟨ih,c.2.2,c.ok λ_ _ h=>h.2,d.2.2,d.ok λ_ _ h=>h.ok⟩
 |first a _ c d ih=>exact⟨ih,c.2.2,c.ok λ_ _ h=>h.ok,d⟩
def Wrd (x:Str):Prop:=32∉x.cps.toList/\x.length<=61
def gP (h:Nm x):Wrd x:=by
 have f:=fJ h;have b:(lO 1 (.str x) && !inV (.str x) words)=true:=h;rw[w6] at b;have a:lO 0 (.str x)=true:=by obtain⟨y,e,_,d,c⟩:=tU b.1;cases e;show (decide (0<=x.length) && (decide (x.length<=8) && allIn x))=true;rw[v9 d,c,v9 (bAK _)];rfl
 rw[aA5] at a;unfold aDc at a;rw[w6] at a;refine⟨λm=>?_,by lia⟩;have:=(List.all_eq_true.mp a.2) 32 m;exact absurd this (by decide)
def aQh (h:Vl v):Wrd (shw v):=by
 refine⟨?_,aQ8 h⟩;rcases h with⟨i,rfl,b⟩|⟨x,rfl,hx,h8⟩
 ·have a:∀m:Nat,32∉(Nat.toDigits 10 m).map Char.toNat:=λm z=>by have:=(vP m 32 z).1;lia
  cases i with
  |ofNat m=>show 32∉cs _;rw[show cs (shw (.int (Int.ofNat m)))=(Nat.toDigits 10 m).map Char.toNat from PySem.W.KIN.signs_num m];exact a m
  |negSucc n=>
   show 32∉cs _;rw[show cs (shw (.int (Int.negSucc n)))=45::(Nat.toDigits 10 (n+1)).map Char.toNat from yW n];intro z;rcases List.mem_cons.mp z with z|z
   ·exact absurd z (by decide)
   ·exact a _ z
 ·show 32∉cs _;rw[oH];intro z;rcases List.mem_cons.mp z with z|z
  ·exact absurd z (by decide)
  rcases List.mem_append.mp z with z|z
  ·have:=(hx 32 (Array.mem_toList_iff.mp z)).1;lia
  ·exact absurd (List.mem_singleton.mp z) (by decide)
def aKn {m:Nat}(h:m<=60):Vl (.int (m:Int)):=.inl ⟨_,rfl,by rw[bFL];exact bEI h (by decide)⟩
instance:DecidablePred Wrd:=λx=>by unfold Wrd;exact inferInstance
def aXc (h:OkO o):Wrd (wO o):=by
 cases o with
 |val x=>exact aQh h
 |col d=>exact gP h
def bFr {q:Qn}(h:Wf q):aJ9 Wrd q:=by
 induction q with
 |table T=>exact gP h
 |whr q ts ih=>refine⟨ih h.1,λt m=>?_⟩;obtain⟨a,b,c⟩:=h.2.2.2 t m;refine⟨gP a,?_,aXc c⟩;rcases b with b|b|b|b <;> rw[b] <;> decide +kernel
 |keep q ns ih=>exact⟨ih h.1,λn m=>gP (h.2.2.2 n m)⟩
 |nmd q ns ih=>exact⟨ih h.1,λn m=>gP (h.2.2.2 n m)⟩
 |join q r ps ih ir=>exact⟨ih h.1,ir h.2.1,λp m=>⟨gP (h.2.2.2.2 p m).1,gP (h.2.2.2.2 p m).2⟩⟩
 |group q ns ss ih=>
  refine⟨ih h.1,λn m=>gP (h.2.2.1 n m),λs m=>?_⟩;obtain⟨a,b⟩:=h.2.2.2.2 s m;rcases b with⟨b,c⟩|⟨c,e,n,b⟩
  ·exact⟨by rw[b];decide +kernel,gP a,λd z=>by rw[c] at z;cases z⟩
  ·refine⟨?_,gP a,λd z=>?_⟩
   ·rcases b with b|b|b <;> rw[b] <;> decide +kernel
   ·rw[e] at z;cases z;exact gP n
 |first q ks m ih=>refine⟨ih h.1,aQh (aKn h.2.2.2),λp f=>?_⟩;obtain⟨a,b⟩:=h.2.2.1 p f;refine⟨gP a,?_⟩;rcases b with b|b <;> rw[b] <;> decide +kernel
def aGb (h:Wf q):∀x∈wq q,Wrd x:=bD0 (by trivial) q (bFr h)
def rY (h:Wf q):PySem.Txt.split (txt (wq q)) " "=wq q:=aCj (aC3 q) λx m=>(aGb h x m).1
theorem aD2:∀{ls:List (List Str)},(∀l∈ls,l.length<=n)->(dU ls).length<=ls.length * (n+1)
 |[],_=>bAK _
 |[a],h=>by have:=h a (j7 ..);show a.length<=_;rw[bBO];lia
 |a::b::r,h=>by have c:=h a (j7 ..);have d:=aD2 λl m=>h l (j8 _ m);show (a++("and":Str)::dU (b::r)).length<=_;rw[j6,d9,d9,Nat.add_mul];lia
theorem aEu {n:Nat}{x:Str}:∀{ls:List (List Str)},(∀l∈ls,l.length<=n)->(bJ x ls).length<=ls.length * (n+1)
 |[],_=>bAK _
 |a::r,h=>by have b:=h a (j7 ..);have c:=aEu (x:=x) (ls:=r) λl m=>h l (j8 _ m);show (x::(a++bJ x r)).length<=_;rw[d9,j6,d9,Nat.add_mul];lia
def bGc (ts:List Tst):∀l∈ts.map wT,l.length<=3:=by intro l m;obtain⟨t,_,rfl⟩:=List.mem_map.mp m;exact v7 _
def aQq (ts:List (Str × Str)):∀l∈ts.map wP,l.length<=2:=by intro l m;obtain⟨t,_,rfl⟩:=List.mem_map.mp m;exact v7 _
def bFw (ts:List Sm):∀l∈ts.map wS,l.length<=3:=by
 intro l m;obtain⟨t,_,rfl⟩:=List.mem_map.mp m;unfold wS;cases t.c
 ·exact (by decide:2<=3)
 ·exact v7 _
def aI9 (h:Wf q):(wq q).length<=25 * size q:=by
 induction q with
 |table T=>exact (by decide:1<=25)
 |whr q ts ih=>have a:=ih h.1;have b:=aD2 (bGc ts);have c:=h.2.1;rw[j5] at b;simp only[wq,size,j6,d9];lia
 |keep q ns ih=>have a:=ih h.1;have c:=h.2.2.1;simp only[wq,size,j6,d9];lia
 |nmd q ns ih=>have a:=ih h.1;have c:=h.2.2.1;simp only[wq,size,j6,d9];lia
 |join q r ps ih ir=>have a:=ih h.1;have e:=ir h.2.1;have b:=aD2 (aQq ps);have c:=h.2.2.2.1;rw[j5] at b;simp only[wq,size,j6,d9];lia
 |group q ns ss ih=>have a:=ih h.1;have b:=aEu (x:="with") (bFw ss);have c:=h.2.1;have d:=h.2.2.2.1;rw[j5] at b;simp only[wq,size,j6,d9];lia
 |first q ks m ih=>have a:=ih h.1;have b:=aEu (x:="by") (aQq ks);have c:=h.2.1;rw[j5] at b;simp only[wq,size,j6,d9];lia
theorem tH:∀{l:List Str},(∀x∈l,x.length<=61)->(txt l).length<=62 * l.length
 |[],_=>by trivial
 |[a],h=>by have:=h a (j7 ..);rw[gC,bBO];lia
 |a::b::r,h=>by have c:=h a (j7 ..);have d:=tH λl m=>h l (j8 _ m);have e:=aH;rw[cO,e,e,d9,show Str.length " "=1 by trivial];lia
def aF3 (h:Wf q):(txt (wq q)).length<=1550 * size q:=by have a:=tH λx m=>(aGb h x m).2;have b:=aI9 h;lia
abbrev wZ:List Str:=[")","where","keep","named","join","group","first"]
def Fin (rest:List Str):Prop:=∀y,rest.head?=some y->y∈wZ
def Stp.fin {q q':Qn}{w r:List Str}(h:Stp q q' w):Fin (w++r):=by cases h;all_goals (intro y z;cases z;decide)
def Aft.fin {q q':Qn}{l r:List Str}(h:Aft q q' l)(k:Fin r):Fin (l++r):=by
 rcases h.first with⟨_,e⟩|⟨q1,w,l',s,_,e⟩
 ·rw[e];exact k
 ·rw[e,bAB];exact s.fin
def Fin.no (h:Fin rest)(a:wZ.contains x=false):rest.head?≠some x:=λz=>by have:=h x z;rw[List.contains_eq_mem,v9 this] at a;cases a
def aZk:∀y∈wZ,¬ Nm y:=by
 have h:∀y∈wZ,nameB (.str y)=false:=by trivial
 intro y m z;have:=h y m;rw[show nameB (.str y)=true from z] at this;cases this
def Fin.nm (h:Fin rest):∀y,rest.head?=some y->¬ Nm y:=λy z=>aZk y (h y z)
def Aft.wf (h:Aft q q' l):Wf q'->Wf q:=by
 induction h with
 |refl=>exact id
 |more _ s ih=>intro k;exact ih (by cases s <;> exact k.1)
def But (d:Addr)(H H':Hp):Prop:=∀b o,b≠d->H b=some o->H' b=some o
structure lD (H:Hp)(C x L:Addr)(ws:List Str)(i:Nat):Prop where
 at_:∃dx,H x=some (.ins C dx [("words",.ref L),("taken_count",.int (i:Nat))])
 ls:H L=some (.lst (ws.map V.str))
 le:i<=ws.length
def lD.same (s:Same H H')(h:lD H C x L ws i):lD H' C x L ws i:=
 ⟨let ⟨dx,h1⟩:=h.at_;⟨dx,s _ _ h1⟩,s _ _ h.ls,h.le⟩
def lD.ne (h:lD H C x L ws i):L≠x:=λz=>by obtain⟨c,b⟩:=h.at_;have a:=h.ls;rw[z,b] at a;cases a
structure Rd (C x L:Addr)(ws:List Str)(H H':Hp)(j:Nat):Prop where
 but:But x H H'
 wd:lD H' C x L ws j
section
variable {C x L:Addr}{ws:List Str}{H H1 H2:Hp}{i j k:Nat}
def Rd.refl (h:lD H C x L ws i):Rd C x L ws H H i:=⟨λ_ _ _ e=>e,h⟩
def Rd.trans (a:Rd C x L ws H H1 j)(b:Rd C x L ws H1 H2 k):Rd C x L ws H H2 k:=⟨λc o n e=>b.but c o n (a.but c o n e),b.wd⟩
def Rd.sm (a:Rd C x L ws H H1 j)(s:Same H1 H2):Rd C x L ws H H2 j:=⟨λc o n e=>s _ _ (a.but c o n e),a.wd.same s⟩
theorem Rd.at (h:lD H C x L ws i)(a:Rd C x L ws H H1 j)(e:H b=some o)(n:∀d fs,o≠.ins C d fs):H1 b=some o:=a.but _ _ (λz=>by obtain⟨f,c⟩:=h.at_;rw[z,c] at e;cases e;exact n _ _ rfl) e
def Rd.lst (h:lD H C x L ws i)(a:Rd C x L ws H H1 j)(e:H b=some (.lst xs)):H1 b=some (.lst xs):=a.at h e λ_ _ z=>by cases z
def Rd.tk (h:lD H C x L ws i)(a:Rd C x L ws H H1 j):TK K H H1:=λp b e=>by
 rcases e with (e|⟨o,e⟩)|e
 ·exact .inl (.inl (a.at h e λ_ _ z=>by cases z))
 ·exact .inl (.inr ⟨o,a.at h e λ_ _ z=>by cases z⟩)
 ·exact .inr e
def Rd.upd (h:lD H C x L ws i)(a:Rd C x L ws H H1 j)(c:H D=none):Rd C x L ws H (L2.upd H1 D o) j:=by
 obtain⟨l,f⟩:=h.at_;have k:=h.ls;refine⟨λb u n e=>by rw[aR (aX e c)];exact a.but b u n e,?_,?_,a.wd.le⟩
 ·obtain⟨d,g⟩:=a.wd.at_;exact⟨d,by rw[aR (aX f c)];exact g⟩
 ·rw[aR (aX k c)];exact a.wd.ls
def Rd.one (h:lD H C x L ws i)(hx:H x=some (.ins C dx [("words",.ref L),("taken_count",.int (i:Nat))]))(a:j=i+1)(hl:i<ws.length):Rd C x L ws H (L2.upd H x (.ins C dx (vC "taken_count" (.int ((i:Int)+1)) [("words",.ref L),("taken_count",.int (i:Nat))]))) j:=
 ⟨λb o n e=>by rw[aR n];exact e,⟨dx,by rw[aJ,a];rfl⟩,by rw[aR h.ne];exact h.ls,by lia⟩
end
def none_of (s:Same H0 H)(h:H a=none):H0 a=none:=by
 cases e:H0 a with
 |none=>rfl
 |some o=>rw[s _ _ e] at h;cases h
def cC {b r:List Str}{i:Nat}{a:Str}(h:b.drop i=a::r):b[i]?=some a/\b.drop (i+1)=r:=by
 constructor
 ·have:(b.drop i)[0]?=some a:=by rw[h];rfl
  rw[List.getElem?_drop] at this;simpa using this
 ·rw[<-List.drop_drop,h];rfl
def iV {ws a r:List Str}{i:Nat}(h:ws.drop i=a++r):ws.drop (i+a.length)=r:=by rw[<-List.drop_drop,h,List.drop_left]
inductive aF5 (C:Addr)(vs:List V)(H:Hp)(Q:VK)(E_:XK):Prop
 |mk (H0:Hp) (x dx:Addr) (t:Str) (_:vs=[.ref x,.str t]) (_:H x=some (.ins C dx [])) (_:H0 x=none) (_:Same H0 H) (_:t.length+2<=sizeLine) (_:∀L H',H0 L=none->Same H0 H'->lD H' C x L (PySem.Txt.split t " ") 0->Q .non H')
def aTf (T:!Txt)(c:Cls K C)(D:lN K C "__init__" "Words.__init__" jB bQH)(M:iQ K C "words")(I:iQ K C "taken_count"):!OkM C 1 "__init__" bQH (aF5 C):=by
 refine OkM.ofV c D qQ (by trivial) (λf y A a s H G Q E J h=>?_)
 obtain⟨B,x,g,t,rfl,k,r,l,u,q⟩:=h;refine⟨_,(aA (bH (fY (dB (aU (mR.or kY) (by rfl) T.bZ bR (aG (vv 1) (va1 (gR (v:=.ty "str") (by rfl) T.aCz vK rfl)))))) (aB oN) aP) (aA (zQ (K:=K) (vv 0) (iB PySem.F.plainAttrs_str PySem.F.slot_str_split PySem.F.type_str_split aF6 (vv 1) (va1 aF))) (aB (zQ (K:=K) (vv 0) aD)))),?_⟩;refine⟨_,rfl,.inl ⟨_,_,_,rfl,rfl,_,rfl,aZ ?_⟩⟩;refine⟨_,rfl,rfl,_,_,rfl,rfl,(by trivial),u,λL N d j p=>?_⟩;have i:=j _ _ k;refine⟨_,rfl,x,C,g,[],rfl,i,c,M,by decide,?_⟩;refine⟨_,rfl,x,C,g,_,rfl,aJ,c,I,by show 1<1000;decide,?_⟩;have m:L≠x:=λz=>by rw[z,k] at d;cases d
 refine q L _ (none_of l d) (λb o e=>?_) ⟨⟨g,aJ⟩,by rw[aR m,aR m];exact p,bAK _⟩;have n:b≠x:=λz=>by rw[z,r] at e;cases e
 rw[aR n,aR n];exact j _ _ (l _ _ e)
def hdV:List Str->V
 |[]=>.non
 |a::_=>.str a
inductive jN (C:Addr)(vs:List V)(H:Hp)(Q:VK)(E_:XK):Prop
 |mk (x L:Addr) (ws:List Str) (i:Nat) (_:vs=[.ref x]) (_:lD H C x L ws i) (_:Q (hdV (ws.drop i)) H)
def aUe (T:!Txt)(c:Cls K C)(D:lN K C "ahead" "Words.ahead" rO m5)(o:iQ K C "words")(n:iQ K C "taken_count"):!OkM C 1 "ahead" m5 (jN C):=by
 refine OkM.ofV c D aEm (by trivial) (λf p A j s H u Q E t h=>?_)
 obtain⟨x,L,k,i,rfl,g,q⟩:=h;refine⟨_,(aB (aK (mW (cU aV6 (zF (K:=K) (vv 0)) (aU bD (by rfl) T.fX dJ (va1 (zF (K:=K) (vv 0))))) (cR dF (zF (K:=K) (vv 0)) (zF (K:=K) (vv 0))) dO))),?_⟩;obtain⟨d,b⟩:=g.at_;refine⟨_,rfl,x,C,d,_,_,rfl,b,c,n,rfl,_,rfl,x,C,d,_,_,rfl,b,c,o,rfl,L,_,rfl,.inl (SqL.of g.ls),_,_,rfl,rfl,_,rfl,?_⟩;rw[j5];cases e:k.drop i with
 |nil=>have m:k.length<=i:=List.drop_eq_nil_iff.mp e;rw[m9 (by lia)];rw[e] at q;exact aZ q
 |cons a r=>have l:=(cC e).1;have m:=(List.getElem?_eq_some_iff.mp l).1;rw[v9 (by lia)];rw[e] at q;refine bV ⟨_,rfl,x,C,d,_,_,rfl,b,c,o,rfl,_,rfl,x,C,d,_,_,rfl,b,c,n,rfl,L,_,i,_,rfl,rfl,SqL.of g.ls,fQ (by rw[bAD,l];rfl),q⟩
inductive iD (C:Addr)(F:Str->Prop)(vs:List V)(H:Hp)(Q:VK)(E_:XK):Prop
 |mk (x L:Addr) (ws:List Str) (i:Nat) (a:Str) (r:List Str) (_:vs=[.ref x]) (_:lD H C x L ws i) (_:ws.drop i=a::r) (_:F a) (_:∀H',Rd C x L ws H H' (i+1)->Q (.str a) H')
def aVz (T:!Txt){C:Addr}(c:Cls K C)(D:lN K C "word" "Words.word" nY m5)(o:iQ K C "taken_count")(b:!OkM C 1 "ahead" m5 (jN C)):!OkM C 2 "word" m5 (iD C λ_=>True):=by
 refine OkM.ofV c D mD (by trivial) (λf t A j s H u Q E m h=>?_)
 obtain⟨x,L,l,i,a,r,rfl,g,k,_,q⟩:=h;have p:=mD.nd;refine⟨_,(aA (aQ 1 (bN (b.mono (by decide)) m (vv 0))) (aA (bH (cU aPs (vv 1) dO) (aB oN) aP) (aA (zQ (K:=K) (vv 0) (aO dR (zF (K:=K) (vv 0)) aD)) (aB (aK (vv 1)))))),?_⟩;obtain⟨e,d⟩:=g.at_;have n:=(List.getElem?_eq_some_iff.mp (cC k).1).1;refine⟨_,rfl,x,e,_,rfl,d,rfl,x,L,l,i,rfl,g,?_⟩;rw[k];refine⟨_,rfl,rfl,_,rfl,aZ ?_⟩;refine⟨_,rfl,x,C,e,_,_,rfl,d,c,o,rfl,_,_,rfl,rfl,_,rfl,x,C,e,_,rfl,d,c,o,by show 2<1000;decide,?_⟩;exact⟨_,rfl,q _ (Rd.one g d rfl n)⟩
def aY4 (T:!Txt)(c:Cls K C)(D:lN K C "name" "Words.name" nZ m5)(y:!Ok 2 "is_name" f9 (pM K nameB))(b:!OkM C 2 "word" m5 (iD C λ_=>True)):!OkM C 3 "name" m5 (iD C Nm):=by
 refine OkM.ofV c D mO (by trivial) (λf v A d s H z Q E o h=>?_)
 obtain⟨x,L,n,i,a,r,rfl,g,p,e,q⟩:=h;have u:=mO.nd;refine⟨_,(aA (aQ 1 (bN (b.mono (by decide)) o (vv 0))) (aA (bH (fY (dB (bY y (va1 (vv 1))))) (aB oN) aP) (aB (aK (vv 1))))),?_⟩;obtain⟨l,j⟩:=g.at_;refine⟨_,rfl,x,l,_,rfl,j,rfl,x,L,n,i,a,r,rfl,g,p,trivial,λB m=>?_⟩;refine⟨_,rfl,_,rfl,e.th,λk t=>⟨_,rfl,?_⟩⟩;rw[show nameB (.str a)=true from e];exact aZ ⟨_,rfl,q k (m.sm t)⟩
def aWo (h:∀a∈ws,a.length<=100000):Th K H (hdV ws):=by
 cases ws with
 |nil=>exact .inr (.inr (.inr ⟨_,.non⟩))
 |cons a r=>exact .inl ⟨a,rfl,h a (j7 ..)⟩
inductive aIa (K:bFQ)(C:Addr)(vs:List V)(H:Hp)(Q:VK)(E_:XK):Prop
 |mk (x L:Addr) (ws:List Str) (i:Nat) (ns r:List Str) (_:vs=[.ref x]) (_:lD H C x L ws i) (_:ws.drop i=ns++r) (_:(∀n∈ns,Nm n)) (_:ns.length<=8) (_:(∀a∈ws,a.length<=100000)) (_:(∀y,r.head?=some y->¬ Nm y)) (_:∀t H',Rd C x L ws H H' (i+ns.length)->SqT K H' t (ns.map V.str)->Q (.ref t) H')
def aXk (h:¬ Nm y):nameB (.str y)=false:=Bool.eq_false_iff.mpr h
def aSy (T:!Txt)(c:Cls K C)(D:lN K C "names" "Words.names" mG m5)(cB:!Ok 2 "is_name" f9 (pM K nameB))(b:!OkM C 1 "ahead" m5 (jN C))(g:!OkM C 2 "word" m5 (iD C λ_=>True)):!OkM C 3 "names" m5 (aIa K C):=by
 refine OkM.ofV c D lK (by trivial) (λf a1 A G s H vs Q E S h=>?_)
 obtain⟨x,L,l,i,p,r,rfl,U,Z,hn,h8,hl,u,q⟩:=h;have a0:=lK.nd;refine⟨_,(aA (aQ 1 (bC jJ)) (aA (jL PassesOwn.never (dB (bY cB (va1 (bN (b.mono (by decide)) S (vv 0))))) (aB (dD (iB PySem.F.plainAttrs_list PySem.F.slot_list_append PySem.F.type_list_append eF (vv 1) (va1 (bN (g.mono (by decide)) S (vv 0))))))) (aB (aK (bK cA (by rfl) T.cW cG (va1 (vv 1))))))),?_⟩;refine⟨(by decide),λn H1 fD X W=>?_⟩;have r1:=(Rd.refl U).sm X;refine⟨λm σ J=>∃done rest,p=done++rest/\m=rest.length/\σ=[some (.ref x),some (.ref n)]/\Rd C x L l H J (i+done.length)/\J n=some (.lst (done.map V.str)),⟨p.length,[],p,rfl,rfl,rfl,r1,W⟩,?_⟩;rintro m σ J ⟨done,rest,en,rfl,rfl,rd,gD⟩;obtain⟨dx,hx⟩:=rd.wd.at_;have o:l.drop (i+done.length)=rest++r:=iV (by rw[Z,en,bAB]);refine⟨_,rfl,x,dx,_,rfl,hx,rfl,x,L,l,_,rfl,rd.wd,?_⟩;have v:∀a∈l.drop (i+done.length),a.length<=100000:=λa m=>hl a (bCV m);refine⟨_,rfl,aWo v,λH2 R=>⟨_,rfl,?_⟩⟩;rw[o];have d:=rd.sm R;have j:=R _ _ gD;cases rest with
 |nil=>
  have e:nameB (hdV ([]++r))=false:=by
   cases r with
   |nil=>rfl
   |cons y r=>exact aXk (u y rfl)
  rw[e];refine aZ ⟨_,rfl,n,_,rfl,SqL.of j,λt M ft Y g3=>?_⟩;rw[bAJ] at en;subst en;exact q t M (d.sm Y) (SqT.of g3)
 |cons a rest=>
  have ha:=hn a (by rw[en];exact bAS _ (j7 ..));rw[show nameB (hdV (a::rest++r))=true from ha];refine bV ⟨fun N k=>∃m',m'<(a::rest).length/\∃done rest,p=done++rest/\m'=rest.length/\N=[some (.ref x),some (.ref n)]/\Rd C x L l H k (i+done.length)/\k n=some (.lst (done.map V.str)),fun N k h=>h,?_⟩;obtain⟨I,B⟩:=d.wd.at_;refine⟨_,rfl,.inl ⟨rfl,_,SqL.of j⟩,_,rfl,x,I,_,rfl,B,rfl,x,L,l,_,a,_,rfl,d.wd,o,trivial,λM O=>?_⟩;have z:=O.lst d.wd j;refine⟨n,_,_,rfl,rfl,z,?_,?_⟩
  ·have:=congrArg List.length en;rw[j6] at this;rw[j5];exact eG (by lia)
  ·refine⟨rest.length,by rw[d9];lia,done++[a],rest,by rw[en,bAB];rfl,rfl,rfl,?_,?_⟩
   ·rw[j6];exact (d.trans O).upd U fD
   ·rw[aJ,bAH];rfl
def aWz:Sp:=λvs H Q _=>∃v,vs=[.str (shw v)]/\Vl v/\∀H',Same H H'->Q v H'
def bHl (a:!OkX 3 "read_value" bQG (aD8 K C)):!Ok 3 "read_value" bQG aWz:=
 a.calm λc H Q E ⟨v,e,b,q⟩=>⟨_,e,.inl ⟨_,rfl,by have:=aQ8 b;lia⟩,by show (match rdV (shw v) with|some u=>∀H',Same H H'->Q u H'|none=>∀e H',Same H H'->E0 (.ref C) (some e) H');rw[bF6 b];exact q⟩
inductive aIj (C:Addr)(vs:List V)(H:Hp)(Q:VK)(E_:XK):Prop
 |mk (x L:Addr) (ws:List Str) (i:Nat) (v:V) (r:List Str) (_:vs=[.ref x]) (_:lD H C x L ws i) (_:ws.drop i=shw v::r) (_:Vl v) (_:∀H',Rd C x L ws H H' (i+1)->Q v H')
def aTl (T:!Txt)(c:Cls K C)(D:lN K C "value" "Words.value" mL m5)(y:!Ok 3 "read_value" bQG aWz)(a:!OkM C 2 "word" m5 (iD C λ_=>True)):!OkM C 4 "value" m5 (aIj C):=by
 refine OkM.ofV c D uX (by trivial) (λf t A b s H z Q E m h=>?_)
 obtain⟨x,L,l,i,v,r,rfl,d,o,n,q⟩:=h;refine⟨_,(aB (aK (bY y (va1 (bN (a.mono (by decide)) m (vv 0)))))),?_⟩;obtain⟨j,e⟩:=d.at_;exact⟨_,rfl,x,j,_,rfl,e,rfl,x,L,l,i,_,r,rfl,d,o,trivial,λu k=>⟨v,rfl,n,λg p=>q g (k.sm p)⟩⟩
inductive pF (C:Addr)(vs:List V)(H:Hp)(Q:VK)(E_:XK):Prop
 |mk (x L:Addr) (ws:List Str) (i:Nat) (y:Str) (_:vs=[.ref x,.str y]) (_:lD H C x L ws i) (_:((ws.drop i).head?=some y->∀H',Rd C x L ws H H' (i+1)->Q (.bl true) H')) (_:((ws.drop i).head?≠some y->Q (.bl false) H))
def aUa (T:!Txt)(c:Cls K C)(D:lN K C "takes" "Words.takes" rA o7)(q:iQ K C "taken_count")(b:!OkM C 1 "ahead" m5 (jN C)):!OkM C 2 "takes" o7 (pF C):=by
 refine OkM.ofV c D aEx (by trivial) (λf t A l s H v Q E o h=>?_)
 obtain⟨x,L,n,i,y,rfl,k,m,g⟩:=h;refine⟨_,(aA (bH (cU oX (bN (b.mono (by decide)) o (vv 0)) (vv 1)) (aB (aK iT)) aP) (aA (zQ (K:=K) (vv 0) (aO dR (zF (K:=K) (vv 0)) aD)) (aB (aK iT)))),?_⟩;obtain⟨j,d⟩:=k.at_;refine⟨_,rfl,x,j,_,rfl,d,rfl,x,L,n,i,rfl,k,_,rfl,?_⟩;cases e:n.drop i with
 |nil=>rw[e] at g;exact⟨rfl,_,rfl,bV (g (λz=>by cases z))⟩
 |cons a r=>
  have p:=(List.getElem?_eq_some_iff.mp (cC e).1).1;rw[e] at m g;refine⟨rfl,_,rfl,?_⟩;by_cases z:a=y
  ·subst z;rw[show (!decide (hdV (a::r)=V.str a))=false by rw[v9 (show hdV (a::r)=V.str a from rfl)];rfl];refine aZ ⟨_,rfl,x,C,j,_,_,rfl,d,c,q,rfl,_,_,rfl,rfl,_,rfl,x,C,j,_,rfl,d,c,q,by show 2<1000;decide,?_⟩;exact m rfl _ (Rd.one k d rfl p)
  ·rw[show (!decide (hdV (a::r)=V.str y))=true by rw[m9 (show ¬ hdV (a::r)=V.str y from λu=>z (V.str.inj u))];rfl];exact bV (g (λu=>z (bAM u)))
inductive aSw (C:Addr)(vs:List V)(H:Hp)(Q:VK)(E_:XK):Prop
 |mk (x L:Addr) (ws:List Str) (i:Nat) (y:Str) (r:List Str) (_:vs=[.ref x,.str y]) (_:lD H C x L ws i) (_:ws.drop i=y::r) (_:∀H',Rd C x L ws H H' (i+1)->Q .non H')
def aWr (T:!Txt)(c:Cls K C)(D:lN K C "need" "Words.need" nP o7)(a:!OkM C 2 "takes" o7 (pF C)):!OkM C 3 "need" o7 (aSw C):=by
 refine OkM.ofV c D xZ (by trivial) (λf m A b s H p Q E o h=>?_)
 obtain⟨x,L,k,i,y,r,rfl,d,l,q⟩:=h;refine⟨_,(aB (bH (fY (dB (bB4 a (vv 0) (va1 (vv 1))))) (aB oN) aP)),?_⟩;obtain⟨g,e⟩:=d.at_;refine⟨_,rfl,x,g,_,rfl,e,rfl,_,rfl,x,L,k,i,y,rfl,d,λ_ n j=>⟨_,rfl,aZ (q n j)⟩,λz=>absurd (by rw[l];rfl) z⟩
inductive aJ8 (C:Addr)(vs:List V)(H:Hp)(Q:VK)(E_:XK):Prop
 |mk (x L:Addr) (ws:List Str) (i:Nat) (_:vs=[.ref x]) (_:lD H C x L ws i) (_:ws.drop i=[]) (_:Q .non H)
def bBs (T:!Txt)(c:Cls K C)(D:lN K C "need_end" "Words.need_end" jC m5)(a:!OkM C 1 "ahead" m5 (jN C)):!OkM C 2 "need_end" m5 (aJ8 C):=by
 refine OkM.ofV c D qO (by trivial) (λf m A b s H n Q E k h=>?_)
 obtain⟨x,L,j,i,rfl,d,l,q⟩:=h;refine⟨_,(aB (bH (cU aAu (bN (a.mono (by decide)) k (vv 0)) dO) (aB oN) aP)),?_⟩;obtain⟨g,e⟩:=d.at_;refine⟨_,rfl,x,g,_,rfl,e,rfl,x,L,j,i,rfl,d,?_⟩;rw[l];exact⟨rfl,_,rfl,aZ q⟩
def bB6 (K:bFQ):Sp:=λvs H Q _=>∃o,vs=[.str (wO o)]/\OkO o/\∀v H',Same H H'->IsO K H' v o->Q v H'
def bDo (h:Vl v):nameB (.str (shw v))=false:=by
 refine aXk λz=>?_;have f:(lO 1 (.str (shw v)) && !inV (.str (shw v)) words)=true:=z;rw[w6] at f;obtain⟨y,e,o,k,j⟩:=tU f.1;cases e;have b:lO 0 (.str (shw v))=true:=by show (decide (0<=(shw v).length) && (decide ((shw v).length<=8) && allIn (shw v)))=true;rw[v9 k,j,v9 (bAK _)];rfl
 rw[aA5] at b;unfold aDc at b;rw[w6] at b;have a:=List.all_eq_true.mp b.2;rcases h with⟨i,rfl,l⟩|⟨x,rfl,hx,h8⟩
 ·cases i with
  |ofNat m=>
   rw[show cs (shw (.int (Int.ofNat m)))=(Nat.toDigits 10 m).map Char.toNat from PySem.W.KIN.signs_num m] at a;cases c:(Nat.toDigits 10 m).map Char.toNat with
   |nil=>exact aK5 m c
   |cons d r=>have g:=a d (by rw[c];exact j7 ..);have p:=vP m d (by rw[c];exact j7 ..);simp only[isL,w6,decide_eq_true_eq] at g;lia
  |negSucc n=>rw[show cs (shw (.int (Int.negSucc n)))=45::(Nat.toDigits 10 (n+1)).map Char.toNat from yW n] at a;exact absurd (a 45 (j7 ..)) (by decide)
 ·rw[oH] at a;exact absurd (a 39 (j7 ..)) (by decide)
def aHc (T:!Txt)(m:!Ok 2 "is_name" f9 (pM K nameB))(r:!Ok 3 "read_value" bQG aWz):!Ok 4 "read_other" bQG (bB6 K):=by
 refine Ok.ofV T.aA7 xW (by trivial) (λf k A g s H t Q E n h=>?_)
 obtain⟨o,rfl,a,q⟩:=h;refine⟨_,(aB (aK (mW (dB (bY m (va1 (vv 0)))) (aW (aG aF (va1 (vv 0)))) (aW (aG aF (va1 (bY r (va1 (vv 0))))))))),?_⟩;refine⟨_,rfl,_,rfl,.inl ⟨_,rfl,by have:=(aXc a).2;lia⟩,λu i=>⟨_,rfl,?_⟩⟩;cases o with
 |val v=>rw[show nameB (.str (wO (.val v)))=false from bDo a];exact aZ ⟨_,rfl,v,rfl,a,λl j=>⟨sz2,λp b _ e c=>q _ b (i.trans (j.trans e)) ⟨p,rfl,SqT.of c,a.th,a⟩⟩⟩
 |col d=>rw[show nameB (.str (wO (.col d)))=true from a];exact bV ⟨_,rfl,sz2,λp b _ e c=>q _ b (i.trans e) ⟨p,rfl,SqT.of c,a⟩⟩
def xP {α:Type}(K:bFQ)(C:Addr)(S:bFQ->Hp->V->α->Prop)(wd:α->List Str)(F:α->Prop):Sp:=λvs H Q _=>∃x L ws i a r,vs=[.ref x]/\lD H C x L ws i/\ws.drop i=wd a++r/\F a/\∀v H',Rd C x L ws H H' (i+(wd a).length)->S K H' v a->Q v H'
section
variable {C:Addr}
def aJi (T:!Txt)(b:!OkM C 3 "name" m5 (iD C Nm))(a:!OkM C 2 "word" m5 (iD C λ_=>True))(R:!Ok 4 "read_other" bQG (bB6 K)):!Ok 5 "read_test" u9 (xP K C IsT wT OkT):=by
 refine Ok.ofV T.aC7 zZ (by trivial) (λf W A e s H Z Q E l h=>?_)
 obtain⟨x,L,c,i,t,r,rfl,D,J,⟨y,X,G⟩,q⟩:=h;refine⟨_,(aB (aK (aW (aG (bN (b.mono (by decide)) l (vv 0)) (aG (bN (a.mono (by decide)) l (vv 0)) (va1 (bY R (va1 (bN (a.mono (by decide)) l (vv 0)))))))))),?_⟩;obtain⟨O,N⟩:=D.at_;have B:=J;have u:=(cC B).2;have V:=(cC u).2;refine⟨_,rfl,x,O,_,rfl,N,rfl,x,L,c,i,_,_,rfl,D,B,y,λH1 j=>?_⟩;obtain⟨g,k⟩:=j.wd.at_;refine⟨_,rfl,x,g,_,rfl,k,rfl,x,L,c,_,_,_,rfl,j.wd,u,trivial,λH2 n=>?_⟩;obtain⟨m,d⟩:=n.wd.at_;refine⟨_,rfl,x,m,_,rfl,d,rfl,x,L,c,_,_,_,rfl,n.wd,V,trivial,λY M=>⟨t.o,rfl,G,λv H4 F I=>⟨sz3,λp S _ z U=>?_⟩⟩⟩;exact q _ S ((j.trans (n.trans M)).sm (F.trans z)) ⟨p,v,rfl,SqT.of U,y,X,I.same z⟩
def aI5 (T:!Txt)(a:!OkM C 3 "name" m5 (iD C Nm)):!Ok 4 "read_pair" u9 (xP K C rB wP OkP):=by
 refine Ok.ofV T.aCs aAf (by trivial) (λf G A b s H I Q E l h=>?_)
 obtain⟨x,L,g,i,t,r,rfl,m,o,⟨j,n⟩,q⟩:=h;refine⟨_,(aB (aK (aW (aG (bN (a.mono (by decide)) l (vv 0)) (va1 (bN (a.mono (by decide)) l (vv 0))))))),?_⟩;obtain⟨v,u⟩:=m.at_;have k:=o;have y:=(cC k).2;refine⟨_,rfl,x,v,_,rfl,u,rfl,x,L,g,i,_,_,rfl,m,k,j,λM d=>?_⟩;obtain⟨c,e⟩:=d.wd.at_;refine⟨_,rfl,x,c,_,rfl,e,rfl,x,L,g,_,_,_,rfl,d.wd,y,n,λJ F=>⟨sz2,λp z _ B D=>?_⟩⟩;exact q _ z ((d.trans F).sm B) ⟨p,rfl,SqT.of D,j,n⟩
def aLn (T:!Txt)(b:!OkM C 3 "name" m5 (iD C Nm))(a:!OkM C 2 "word" m5 (iD C λ_=>True)):!Ok 4 "read_key" u9 (xP K C qZ wP OkK):=by
 refine Ok.ofV T.aF0 aDg (by trivial) (λf G A c s H J Q E m h=>?_)
 obtain⟨x,L,j,i,t,r,rfl,n,o,⟨k,I⟩,q⟩:=h;refine⟨_,(aB (aK (aW (aG (bN (b.mono (by decide)) m (vv 0)) (va1 (bN (a.mono (by decide)) m (vv 0))))))),?_⟩;obtain⟨v,u⟩:=n.at_;have l:=o;have y:=(cC l).2;refine⟨_,rfl,x,v,_,rfl,u,rfl,x,L,j,i,_,_,rfl,n,l,k,λN e=>?_⟩;obtain⟨d,g⟩:=e.wd.at_;refine⟨_,rfl,x,d,_,rfl,g,rfl,x,L,j,_,_,_,rfl,e.wd,y,trivial,λM F=>⟨sz2,λp z _ B D=>?_⟩⟩;exact q _ z ((e.trans F).sm B) ⟨p,rfl,SqT.of D,k,I⟩
def aOl (T:!Txt)(a:!OkM C 3 "name" m5 (iD C Nm))(b:!OkM C 2 "word" m5 (iD C λ_=>True)):!Ok 4 "read_sum" u9 (xP K C nU wS OkS):=by
 refine Ok.ofV T.aEr qH (by trivial) (λf Z A y s H vs Q E F h=>?_)
 obtain⟨x,L,d,i,t,r,rfl,J,n,⟨u,h2⟩,q⟩:=h;have X:=qH.nd;refine⟨_,(aA (aQ 1 (bN (b.mono (by decide)) F (vv 0))) (aA (aQ 2 (mW (cU cV (vv 1) aF) dO (bN (a.mono (by decide)) F (vv 0)))) (aB (aK (aW (aG (vv 1) (aG (vv 2) (va1 (bN (a.mono (by decide)) F (vv 0)))))))))),?_⟩;obtain⟨R,O⟩:=J.at_;rcases h2 with⟨N,k⟩|⟨c,k,h3,h4⟩
 ·have M:wS t=[t.wd,t.new]:=by unfold wS;rw[k]
  rw[M] at n q;have l:d.drop i=t.wd::(t.new::r):=n;have o:=(cC l).2;refine⟨_,rfl,x,R,_,rfl,O,rfl,x,L,d,i,_,_,rfl,J,l,trivial,λH1 g=>?_⟩;obtain⟨e,j⟩:=g.wd.at_;refine⟨_,rfl,rfl,_,rfl,?_⟩;rw[N];refine bV ?_;refine⟨_,rfl,_,rfl,_,rfl,x,e,_,rfl,j,rfl,x,L,d,_,_,_,rfl,g.wd,o,u,λW m=>⟨sz3,λp B _ D G=>?_⟩⟩;exact q _ B ((g.trans m).sm D) ⟨p,rfl,u,.inl ⟨N,k,SqT.of G⟩⟩
 ·have M:wS t=[t.wd,c,t.new]:=by unfold wS;rw[k]
  rw[M] at n q;have l:d.drop i=t.wd::(c::t.new::r):=n;have o:=(cC l).2;have Y:=(cC o).2;refine⟨_,rfl,x,R,_,rfl,O,rfl,x,L,d,i,_,_,rfl,J,l,trivial,λH1 g=>?_⟩;obtain⟨e,j⟩:=g.wd.at_;refine⟨_,rfl,rfl,_,rfl,?_⟩;have S:decide (V.str t.wd=V.str "count")=false:=m9 λz=>by have z:=V.str.inj z;rcases h4 with h4|h4|h4 <;> rw[h4] at z <;> exact absurd z (by trivial)
  rw[S];refine aZ ⟨_,rfl,x,e,_,rfl,j,rfl,x,L,d,_,_,_,rfl,g.wd,o,h3,λW m=>?_⟩;obtain⟨I,v⟩:=m.wd.at_;refine⟨_,rfl,_,rfl,_,rfl,x,I,_,rfl,v,rfl,x,L,d,_,_,_,rfl,m.wd,Y,u,λH3 U=>⟨sz3,λp B _ D G=>?_⟩⟩;exact q _ B ((g.trans (m.trans U)).sm D) ⟨p,rfl,u,.inr ⟨c,k,h3,h4,SqT.of G⟩⟩
end
theorem vR (a:List Str):∀r:List (List Str),dU (a::r)=a++bJ "and" r
 |[]=>by rw[show bJ "and" []=[] from rfl,bAJ];rfl
 |b::r=>by show a++("and":Str)::dU (b::r)=a++("and":Str)::(b++bJ "and" r);rw[vR b r]
def Stays {α:Type}(K:bFQ)(S:bFQ->Hp->V->α->Prop):Prop:=∀{H H' v a},TK K H H'->S K H v a->S K H' v a
def vY (e:H D=some (.lst xs)):TK K H (upd H D (.lst ys)):=λ_ _ h=>h.aFt e
section
variable {C:Addr}{α:Type}{S:bFQ->Hp->V->α->Prop}{wd:α->List Str}{F:α->Prop}
inductive aEv (P:Program)(w:World)(K:bFQ)(mg:bFT)(base:Heap)(k:Nat)(C:Addr)(S:bFQ->Hp->V->α->Prop)(wd:α->List Str)(F:α->Prop)(vs:List V)(H:Hp)(Q:VK)(E_:XK):Prop
 |mk (x L:Addr) (ws:List Str) (i:Nat) (as:List α) (r:List Str) (g:Addr) (ps:List Str) (_:vs=[.ref x,.ref g]) (_:!Held k g ps (xP K C S wd F)) (_:lD H C x L ws i) (_:ws.drop i=dU (as.map wd)++r) (_:1<=as.length) (_:as.length<=900) (_:(∀a∈as,F a)) (_:r.head?≠some "and") (_:∀v H',Rd C x L ws H H' (i+(dU (as.map wd)).length)->aCl K H' (S K H') v as->Q v H')
def uM (T:!Txt)(hk:2<=k)(I:Stays K S)(b:!OkM C 2 "takes" o7 (pF C)):!Ok (k+1) "one_and_more" v5 (!aEv k C S wd F):=by
 refine Ok.ofV T.vO jU (by trivial) (λf a2 A V s H d Q E W h=>?_)
 obtain⟨x,L,v,i,as,r,g,ps,rfl,hg,hW,M,h1,h9,hF,R,q⟩:=h;have b:=b.mono hk;have a3:=jU.nd;refine⟨_,(aA (aQ 2 (bC (va1 (wB (P:=P) (w:=w) (K:=K) (mg:=mg) (base:=base) W (vv 1) (va1 (vv 0)))))) (aA (jL PassesOwn.never (dB (qI (b.mono (by lia)) W (vv 0) (va1 aF))) (aB (dD (iB PySem.F.plainAttrs_list PySem.F.slot_list_append PySem.F.type_list_append eF (vv 2) (va1 (wB (P:=P) (w:=w) (K:=K) (mg:=mg) (base:=base) W (vv 1) (va1 (vv 0)))))))) (aB (aK (bK cA (by rfl) T.cW cG (va1 (vv 2))))))),?_⟩;obtain⟨n,c,rfl⟩:∃n c,as=n::c:=by
  cases as with
  |nil=>cases h1
  |cons a l=>exact⟨a,l,rfl⟩
 rw[bAE,vR] at M q;rw[bAB] at M;refine⟨_,rfl,g,ps,_,rfl,hg,_,rfl,x,L,v,i,n,_,rfl,hW,M,hF _ (j7 ..),λv0 H1 r1 a1=>?_⟩;refine⟨sz1,λu H2 O s2 g2=>?_⟩;have X:H u=none:=by
  cases e:H u with
  |none=>rfl
  |some o=>obtain⟨dx,Z⟩:=r1.wd.at_;rw[r1.but _ _ (λz=>by rw[z,Z] at O;cases O) e] at O;cases O
 refine⟨λm σ J=>∃done rest d j,n::c=done++rest/\m=rest.length/\σ=[some (.ref x),some (.ref g),some (.ref u)]/\Rd C x L v H J j/\J u=some (.lst d)/\cN (S K J) d done/\v.drop j=bJ "and" (rest.map wd)++r/\j+(bJ "and" (rest.map wd)).length=i+(wd n++bJ "and" (c.map wd)).length,⟨c.length,[n],c,[v0],i+(wd n).length,rfl,rfl,rfl,r1.sm s2,g2,.cons (I (TK.of s2) a1) .nil,iV M,by rw[j6];lia⟩,?_⟩;rintro m σ J ⟨done,rest,d,j,en,rfl,rfl,rd,gD,hvs,hdj,hj⟩;obtain⟨dx,Z⟩:=rd.wd.at_;refine⟨_,rfl,x,dx,_,rfl,Z,rfl,x,L,v,j,_,rfl,rd.wd,?_,?_⟩
 ·intro G H3 N;cases rest with
  |nil=>rw[hdj] at G;exact absurd G R
  |cons a rest=>
   refine⟨_,rfl,bV ⟨fun σ' p=>∃m',m'<(a::rest).length/\∃done rest d j,n::c=done++rest/\m'=rest.length/\σ'=[some (.ref x),some (.ref g),some (.ref u)]/\Rd C x L v H p j/\p u=some (.lst d)/\cN (S K p) d done/\v.drop j=bJ "and" (rest.map wd)++r/\j+(bJ "and" (rest.map wd)).length=i+(wd n++bJ "and" (c.map wd)).length,fun σ' p h=>h,?_⟩⟩;have B:=N.lst rd.wd gD;have d0:v.drop j=("and":Str)::(wd a++(bJ "and" (rest.map wd)++r)):=by rw[hdj];show ("and":Str)::(wd a++bJ "and" (rest.map wd))++r=_;rw[bBA,bAB]
   have d1:=(cC d0).2;refine⟨_,rfl,.inl ⟨rfl,_,SqL.of B⟩,_,rfl,g,ps,_,rfl,hg,_,rfl,x,L,v,_,a,_,rfl,N.wd,d1,hF a (by rw[en];exact bAS _ (j7 ..)),λv4 H4 r4 Y=>?_⟩;have D:=N.trans r4;have y:=r4.lst N.wd B;refine⟨u,_,_,rfl,rfl,y,?_,?_⟩
   ·have:=congrArg List.length en;have l2:=hvs.len;rw[j6] at this;exact eG (by lia)
   ·have l3:(bJ "and" ((a::rest).map wd)).length=1+((wd a).length+(bJ "and" (rest.map wd)).length):=by show (("and":Str)::(wd a++bJ "and" (rest.map wd))).length=_;rw[d9,j6];lia
    refine⟨rest.length,by rw[d9];lia,done++[a],rest,d++[v4],_,by rw[en,bAB];rfl,rfl,rfl,(rd.trans D).upd hW X,aJ,?_,iV d1,by lia⟩;exact (hvs.imp λ_ _ h=>I (vY y) (I (D.tk rd.wd) h)).app (.cons (I (vY y) Y) .nil)
 ·intro G;cases rest with
  |cons a rest=>rw[hdj] at G;exact absurd rfl G
  |nil=>rw[bAJ] at en;subst en;refine⟨_,rfl,aZ ⟨_,rfl,u,_,rfl,SqL.of gD,λt H3 ft s3 g3=>?_⟩⟩;have U:=hj;subst U;exact q _ H3 (rd.sm s3) ⟨t,d,rfl,SqT.of g3,hvs.imp λ_ _ h=>I (TK.of s3) h⟩
inductive aNa (P:Program)(w:World)(K:bFQ)(mg:bFT)(base:Heap)(k:Nat)(C:Addr)(S:bFQ->Hp->V->α->Prop)(wd:α->List Str)(F:α->Prop)(vs:List V)(H:Hp)(Q:VK)(E_:XK):Prop
 |mk (x L:Addr) (ws:List Str) (i:Nat) (as:List α) (r:List Str) (y:Str) (g:Addr) (ps:List Str) (_:vs=[.ref x,.str y,.ref g]) (_:!Held k g ps (xP K C S wd F)) (_:lD H C x L ws i) (_:ws.drop i=bJ y (as.map wd)++r) (_:as.length<=900) (_:(∀a∈as,F a)) (_:r.head?≠some y) (_:∀v H',Rd C x L ws H H' (i+(bJ y (as.map wd)).length)->aCl K H' (S K H') v as->Q v H')
def uU (T:!Txt)(hk:2<=k)(G:Stays K S)(b:!OkM C 2 "takes" o7 (pF C)):!Ok (k+1) "each_behind" o4 (!aNa k C S wd F):=by
 refine Ok.ofV T.yL lM (by trivial) (λf a1 A M s H c Q E X h=>?_)
 obtain⟨x,L,e,i,n,r,y,g,ps,rfl,hg,Y,hd,h9,hF,D,q⟩:=h;have b:=b.mono hk;have a0:=lM.nd;refine⟨_,(aA (aQ 3 (bC jJ)) (aA (jL PassesOwn.never (dB (qI (b.mono (by lia)) X (vv 0) (va1 (vv 1)))) (aB (dD (iB PySem.F.plainAttrs_list PySem.F.slot_list_append PySem.F.type_list_append eF (vv 3) (va1 (wB (P:=P) (w:=w) (K:=K) (mg:=mg) (base:=base) X (vv 2) (va1 (vv 0)))))))) (aB (aK (bK cA (by rfl) T.cW cG (va1 (vv 3))))))),?_⟩;refine⟨(by decide),λo H2 N s2 g2=>?_⟩;refine⟨λm σ B=>∃done rest c j,n=done++rest/\m=rest.length/\σ=[some (.ref x),some (.str y),some (.ref g),some (.ref o)]/\Rd C x L e H B j/\B o=some (.lst c)/\cN (S K B) c done/\e.drop j=bJ y (rest.map wd)++r/\j+(bJ y (rest.map wd)).length=i+(bJ y (n.map wd)).length,⟨n.length,[],n,[],i,rfl,rfl,rfl,(Rd.refl Y).sm s2,g2,.nil,hd,rfl⟩,?_⟩;rintro m σ B ⟨done,rest,c,j,en,rfl,rfl,rd,gD,hvs,hdj,hj⟩;obtain⟨dx,hx⟩:=rd.wd.at_;refine⟨_,rfl,x,dx,_,rfl,hx,rfl,_,rfl,x,L,e,j,_,rfl,rd.wd,?_,?_⟩
 ·intro u O z;cases rest with
  |nil=>rw[hdj] at u;exact absurd u D
  |cons a rest=>
   refine⟨_,rfl,bV ⟨fun U d=>∃m',m'<(a::rest).length/\∃done rest c j,n=done++rest/\m'=rest.length/\U=[some (.ref x),some (.str y),some (.ref g),some (.ref o)]/\Rd C x L e H d j/\d o=some (.lst c)/\cN (S K d) c done/\e.drop j=bJ y (rest.map wd)++r/\j+(bJ y (rest.map wd)).length=i+(bJ y (n.map wd)).length,fun U d h=>h,?_⟩⟩;have p:=z.lst rd.wd gD;have d0:e.drop j=y::(wd a++(bJ y (rest.map wd)++r)):=by rw[hdj];show y::(wd a++bJ y (rest.map wd))++r=_;rw[bBA,bAB]
   have W:=(cC d0).2;refine⟨_,rfl,.inl ⟨rfl,_,SqL.of p⟩,_,rfl,g,ps,_,rfl,hg,_,rfl,x,L,e,_,a,_,rfl,z.wd,W,hF a (by rw[en];exact bAS _ (j7 ..)),λZ H4 R J=>?_⟩;have v:=z.trans R;have l:=R.lst z.wd p;refine⟨o,_,_,rfl,rfl,l,?_,?_⟩
   ·have:=congrArg List.length en;have l2:=hvs.len;rw[j6] at this;exact eG (by lia)
   ·have l3:(bJ y ((a::rest).map wd)).length=1+((wd a).length+(bJ y (rest.map wd)).length):=by show (y::(wd a++bJ y (rest.map wd))).length=_;rw[d9,j6];lia
    refine⟨rest.length,by rw[d9];lia,done++[a],rest,c++[Z],_,by rw[en,bAB];rfl,rfl,rfl,(rd.trans v).upd Y N,aJ,?_,iV W,by lia⟩;exact (hvs.imp λ_ _ h=>G (vY l) (G (v.tk rd.wd) h)).app (.cons (G (vY l) J) .nil)
 ·intro u;cases rest with
  |cons a rest=>rw[hdj] at u;exact absurd rfl u
  |nil=>rw[bAJ] at en;subst en;refine⟨_,rfl,aZ ⟨_,rfl,o,_,rfl,SqL.of gD,λt O ft V g3=>?_⟩⟩;have I:=hj;subst I;exact q _ O (rd.sm V) ⟨t,c,rfl,SqT.of g3,hvs.imp λ_ _ h=>G (TK.of V) h⟩
end
def jd:Qn->Nat
 |.table _=>0
 |.whr q _=>jd q
 |.keep q _=>jd q
 |.nmd q _=>jd q
 |.join q r _=>max (jd q) (jd r+1)
 |.group q _ _=>jd q
 |.first q _ _=>jd q
def bAt (h:Wf q):2 * jd q+1<=My.size q:=by
 induction q with
 |table T=>exact v7 _
 |whr q ts ih=>have:=ih h.1;simp only[jd,My.size];lia
 |keep q ns ih=>have:=ih h.1;simp only[jd,My.size];lia
 |nmd q ns ih=>have:=ih h.1;simp only[jd,My.size];lia
 |join q r ps ih ir=>have:=ih h.1;have:=ir h.2.1;simp only[jd,My.size];lia
 |group q ns ss ih=>have:=ih h.1;simp only[jd,My.size];lia
 |first q ks m ih=>have:=ih h.1;simp only[jd,My.size];lia
inductive aM9 (K:bFQ)(C:Addr)(n:Nat)(vs:List V)(H:Hp)(Q:VK)(E_:XK):Prop
 |mk (x L:Addr) (ws:List Str) (i d:Nat) (q:Qn) (r:List Str) (_:vs=[.ref x,.int (d:Nat)]) (_:lD H C x L ws i) (_:ws.drop i=wq q++r) (_:Wf q) (_:(∀y,r.head?=some y->y = ")")) (_:jd q<n) (_:d+jd q<=20) (_:(∀a∈ws,a.length<=100000)) (_:∀v H',Rd C x L ws H H' (i+(wq q).length)->IsQ K H' v q->Q v H')
inductive bCp (K:bFQ)(C:Addr)(n:Nat)(vs:List V)(H:Hp)(Q:VK)(E_:XK):Prop
 |mk (x L:Addr) (ws:List Str) (i d:Nat) (v:V) (q r:Qn) (ps:List (Str × Str)) (rest:List Str) (_:vs=[.ref x,v,.int (d:Nat)]) (_:lD H C x L ws i) (_:IsQ K H v q) (_:ws.drop i=("(":Str)::(wq r++(")":Str)::("on":Str)::(dU (ps.map wP)++rest))) (_:Wf r) (_:(1<=ps.length/\ps.length<=3/\∀p∈ps,OkP p)) (_:Fin rest) (_:jd r<n) (_:d+1+jd r<=20) (_:(∀a∈ws,a.length<=100000)) (_:∀v H',Rd C x L ws H H' (i+(1+((wq r).length+(2+(dU (ps.map wP)).length))))->IsQ K H' v (.join q r ps)->Q v H')
inductive bCj (K:bFQ)(C:Addr)(n:Nat)(vs:List V)(H:Hp)(Q:VK)(E_:XK):Prop
 |mk (x L:Addr) (ws:List Str) (i d:Nat) (v:V) (q q':Qn) (u rest:List Str) (_:vs=[.ref x,v,.int (d:Nat)]) (_:lD H C x L ws i) (_:IsQ K H v q) (_:Stp q q' u) (_:ws.drop i=u++rest) (_:Wf q') (_:Fin rest) (_:jd q'<=n) (_:d+jd q'<=20) (_:(∀a∈ws,a.length<=100000)) (_:∀v H',Rd C x L ws H H' (i+u.length)->IsQ K H' v q'->Q v H')
section
variable {C:Addr}
def aJ5 (T:!Txt)(a:!OkM C 3 "need" o7 (aSw C))(jM:!Ok (6+3 * n) "read_within" bQC (aM9 K C n))(oR:!Ok 5 "one_and_more" v5 (!aEv 4 C rB wP OkP))(a1:!Ok 4 "read_pair" u9 (xP K C rB wP OkP)):!Ok (7+3 * n) "read_join" n7 (bCp K C n):=by
 rw[show 7+3 * n=(6+3 * n)+1 by lia];refine Ok.ofV T.aC2 oF (by trivial) (λf a0 A F s H vs Q E c h=>?_)
 obtain⟨x,L,g,i,d,v,q,r,M,k,rfl,I,hv,Y,m,⟨U,p3,hp⟩,hf,hn,hz,hl,qq⟩:=h;obtain⟨X,mf,B⟩:=a1.held;have b:∃u,mg "read_pair"=some u/\RelV (.ref X) u:=⟨_,mf,rfl⟩;have a2:=oF.nd;refine⟨_,(aA (dD (qI (a.mono (by lia)) c (vv 0) (va1 aF))) (aA (aQ 3 (iR (jM.mono (by lia)) c (by rfl) (aG (vv 0) (va1 (aO dR (vv 2) aD))))) (aA (dD (qI (a.mono (by lia)) c (vv 0) (va1 aF))) (aA (dD (qI (a.mono (by lia)) c (vv 0) (va1 aF))) (aB (aK (aW (aG aF (aG (vv 1) (aG (vv 3) (va1 (iR (oR.mono (by lia)) c (by rfl) (aG (vv 0) (va1 (dX (by rfl) b))))))))))))))),?_⟩;obtain⟨dx,hx⟩:=I.at_;refine⟨_,rfl,x,dx,_,rfl,hx,rfl,x,L,g,i,_,_,rfl,I,Y,λH1 Z=>?_⟩;have V:=(cC Y).2;refine⟨_,rfl,_,rfl,_,_,rfl,rfl,x,L,g,i+1,d+1,r,_,rfl,Z.wd,V,m,(λy z=>by cases z;rfl),hn,by lia,hl,λu H2 l hu=>?_⟩;have d2:=iV V;obtain⟨S,D⟩:=l.wd.at_;refine⟨_,rfl,x,S,_,rfl,D,rfl,x,L,g,_,_,_,rfl,l.wd,d2,λH3 N=>?_⟩;have d3:=(cC d2).2;obtain⟨J,G⟩:=N.wd.at_;refine⟨_,rfl,x,J,_,rfl,G,rfl,x,L,g,_,_,_,rfl,N.wd,d3,λH4 W=>?_⟩;have d4:=(cC d3).2;refine⟨_,rfl,_,rfl,_,rfl,x,L,g,_,M,k,X,_,rfl,B,W.wd,d4,U,by lia,hp,hf.no (by decide),λt H5 r5 ht=>⟨sz4,λp H6 _ R g6=>?_⟩⟩;have j:=(N.trans (W.trans r5)).sm R;have O:=l.trans j;have o:=Z.trans O;have e:i+1+(wq r).length+1+1+(dU (M.map wP)).length=i+(1+((wq r).length+(2+(dU (M.map wP)).length))):=by lia
 rw[e] at o;exact qq _ H6 o (.join (SqT.of g6) (hv.tk (o.tk I)) (hu.tk (j.tk l.wd)) ⟨wV (TK.of R) (λ_ _ h=>h.same R) ht,U,p3⟩)
def aBx (h:SqT K H t (ns.map V.str))(hn:∀n∈ns,Nm n):aCl K H (qU K H) (.ref t) ns:=by
 refine⟨t,_,rfl,h,?_⟩;clear h
 induction ns with
 |nil=>exact .nil
 |cons a r ih=>exact .cons ⟨rfl,hn a (j7 ..)⟩ (ih λn m=>hn n (j8 _ m))
def aJu {n:Nat}(T:!Txt)(V:!OkM C 2 "word" m5 (iD C λ_=>True))(c:!OkM C 3 "names" m5 (aIa K C))(R:!OkM C 4 "value" m5 (aIj C))(aa:!Ok (7+3 * n) "read_join" n7 (bCp K C n))(oR:!Ok 6 "one_and_more" v5 (!aEv 5 C IsT wT OkT))(ab:!Ok 5 "read_test" u9 (xP K C IsT wT OkT))
  (a6:!Ok 5 "each_behind" o4 (!aNa 4 C nU wS OkS)) (ac:!Ok 4 "read_sum" u9 (xP K C nU wS OkS)) (a8:!Ok 5 "each_behind" o4 (!aNa 4 C qZ wP OkK)) (a7:!Ok 4 "read_key" u9 (xP K C qZ wP OkK)):!Ok (8+3 * n) "read_step" n7 (bCj K C n):=by
 rw[show 8+3 * n=(7+3 * n)+1 by lia];refine Ok.ofV T.wD kZ (by trivial) (λf a9 A a4 s H vs Q E hr h=>?_)
 obtain⟨x,L,B,i,d,v,q,q',u,b,rfl,N,hv,hS,D,hw,hf,hn,hz,hl,qq⟩:=h;obtain⟨ft,mt,a2⟩:=ab.held;have j:∃u,mg "read_test"=some u/\RelV (.ref ft) u:=⟨_,mt,rfl⟩;obtain⟨fs,ms,a5⟩:=ac.held;have o:∃u,mg "read_sum"=some u/\RelV (.ref fs) u:=⟨_,ms,rfl⟩;obtain⟨fk,mk,a3⟩:=a7.held;have k:∃u,mg "read_key"=some u/\RelV (.ref fk) u:=⟨_,mk,rfl⟩;have ad:=kZ.nd;refine⟨_,(aA (aQ 3 (bN (V.mono (by lia)) hr (vv 0))) (aA (bH (cU cV (vv 3) aF) (aB (aK (aW (aG aF (aG (vv 1) (va1 (iR (oR.mono (by lia)) hr (by rfl) (aG (vv 0) (va1 (dX (by rfl) j)))))))))) aP) (aA (bH (xD tE (vv 3) (aW (aG aF (va1 aF))) (by with_unfolding_all rfl)) (aB (aK (aW (aG (vv 3) (aG (vv 1) (va1 (bN (c.mono (by lia)) hr (vv 0)))))))) aP) (aA (bH (cU cV (vv 3) aF) (aB (aK (iR (aa.mono (by lia)) hr (by rfl) (aG (vv 0) (aG (vv 1) (va1 (vv 2))))))) aP) (aA (bH (cU cV (vv 3) aF) (aA (aQ 4 (bN (c.mono (by lia)) hr (vv 0))) (aB (aK (aW (aG aF (aG (vv 1) (aG (vv 4) (va1 (iR (a6.mono (by lia)) hr (by rfl) (aG (vv 0) (aG aF (va1 (dX (by rfl) o))))))))))))) aP) (aA (bH (cU cV (vv 3) aF) (aA (aQ 5 (bN (R.mono (by lia)) hr (vv 0))) (aB (aK (aW (aG aF (aG (vv 1) (aG (iR (a8.mono (by lia)) hr (by rfl) (aG (vv 0) (aG aF (va1 (dX (by rfl) k))))) (va1 (vv 5))))))))) aP) (aB oN))))))),?_⟩;obtain⟨dx,hx⟩:=N.at_;cases hS with
 |@whr ts=>obtain⟨w1,M,I,O⟩:=hw;refine⟨_,rfl,x,dx,_,rfl,hx,rfl,x,L,B,i,_,_,rfl,N,D,trivial,λH1 U=>?_⟩;have J:=(cC D).2;refine⟨_,rfl,rfl,_,rfl,bV ?_⟩;refine⟨_,rfl,_,rfl,x,L,B,_,ts,b,ft,_,rfl,a2,U.wd,J,M,by lia,O,hf.no (by decide),λt H5 S ht=>⟨sz3,λp H6 _ Z g6=>?_⟩⟩;have e:=(U.trans S).sm Z;rw[show i+1+(dU (ts.map wT)).length=i+(("where":Str)::dU (ts.map wT)).length by rw[d9];lia] at e;exact qq _ H6 e (.whr (SqT.of g6) (hv.tk (e.tk N)) ⟨wV (TK.of Z) (λ_ _ h=>h.same Z) ht,M,I⟩)
 |@keep ns=>obtain⟨w1,M,I,O⟩:=hw;refine⟨_,rfl,x,dx,_,rfl,hx,rfl,x,L,B,i,_,_,rfl,N,D,trivial,λH1 U=>?_⟩;have J:=(cC D).2;refine⟨_,rfl,rfl,_,rfl,aZ ?_⟩;refine⟨_,rfl,sz2,λW H2 _ Y X=>⟨W,_,rfl,.inr (SqT.of X),rfl,rfl,_,rfl,bV ?_⟩⟩;have g:=U.sm Y;obtain⟨G,F⟩:=g.wd.at_;refine⟨_,rfl,_,rfl,_,rfl,x,G,_,rfl,F,rfl,x,L,B,_,ns,b,rfl,g.wd,J,O,I,hl,hf.nm,λt H5 S ht=>⟨sz3,λp H6 _ Z g6=>?_⟩⟩;have e:=(g.trans S).sm Z;rw[show i+1+ns.length=i+(("keep":Str)::ns).length by rw[d9];lia] at e;exact qq _ H6 e (.keep (SqT.of g6) (hv.tk (e.tk N)) ⟨aBx (Z.aV ht) O,M,I⟩)
 |@nmd ns=>obtain⟨w1,M,I,O⟩:=hw;refine⟨_,rfl,x,dx,_,rfl,hx,rfl,x,L,B,i,_,_,rfl,N,D,trivial,λH1 U=>?_⟩;have J:=(cC D).2;refine⟨_,rfl,rfl,_,rfl,aZ ?_⟩;refine⟨_,rfl,sz2,λW H2 _ Y X=>⟨W,_,rfl,.inr (SqT.of X),rfl,rfl,_,rfl,bV ?_⟩⟩;have g:=U.sm Y;obtain⟨G,F⟩:=g.wd.at_;refine⟨_,rfl,_,rfl,_,rfl,x,G,_,rfl,F,rfl,x,L,B,_,ns,b,rfl,g.wd,J,O,I,hl,hf.nm,λt H5 S ht=>⟨sz3,λp H6 _ Z g6=>?_⟩⟩;have e:=(g.trans S).sm Z;rw[show i+1+ns.length=i+(("named":Str)::ns).length by rw[d9];lia] at e;exact qq _ H6 e (.nmd (SqT.of g6) (hv.tk (e.tk N)) ⟨aBx (Z.aV ht) O,M,I⟩)
 |@join r ps=>
  obtain⟨w1,M,I⟩:=hw;have D:B.drop i=("join":Str)::(("(":Str)::(wq r++(")":Str)::("on":Str)::(dU (ps.map wP)++b))):=by rw[D];simp only[bBA,bAB]
  refine⟨_,rfl,x,dx,_,rfl,hx,rfl,x,L,B,i,_,_,rfl,N,D,trivial,λH1 U=>?_⟩;have J:=(cC D).2;refine⟨_,rfl,rfl,_,rfl,aZ ?_⟩;refine⟨_,rfl,sz2,λW H2 _ Y X=>⟨W,_,rfl,.inr (SqT.of X),rfl,rfl,_,rfl,aZ ?_⟩⟩;have g:=U.sm Y;simp only[jd] at hn hz;refine⟨_,rfl,rfl,_,rfl,bV ⟨_,rfl,_,rfl,_,rfl,x,L,B,_,d,v,q,r,ps,b,rfl,g.wd,hv.tk (g.tk N),J,M,I,hf,by lia,by lia,hl,λv' H' r3 hq=>qq _ H' ?_ hq⟩⟩;have e:=g.trans r3;rw[show i+1+(1+((wq r).length+(2+(dU (ps.map wP)).length)))=i+(("join":Str)::("(":Str)::(wq r++(")":Str)::("on":Str)::dU (ps.map wP))).length by simp only[d9,j6];lia] at e;exact e
 |@group ns ss=>
  obtain⟨w1,M,I,O,w5⟩:=hw;have D:B.drop i=("group":Str)::(ns++(bJ "with" (ss.map wS)++b)):=by rw[D];simp only[bBA,bAB]
  refine⟨_,rfl,x,dx,_,rfl,hx,rfl,x,L,B,i,_,_,rfl,N,D,trivial,λH1 U=>?_⟩;have J:=(cC D).2;refine⟨_,rfl,rfl,_,rfl,aZ ?_⟩;refine⟨_,rfl,sz2,λW H2 _ Y X=>⟨W,_,rfl,.inr (SqT.of X),rfl,rfl,_,rfl,aZ ?_⟩⟩;have g:=U.sm Y;obtain⟨G,F⟩:=g.wd.at_;refine⟨_,rfl,rfl,_,rfl,aZ ⟨_,rfl,rfl,_,rfl,bV ?_⟩⟩;refine⟨_,rfl,x,G,_,rfl,F,rfl,x,L,B,_,ns,_,rfl,g.wd,J,I,M,hl,?_,λt H5 S ht=>?_⟩
  ·cases ss with
   |nil=>exact hf.nm
   |cons a l=>intro y z;cases z;intro hh;exact absurd (show nameB (.str "with")=true from hh) (by trivial)
  refine⟨_,rfl,_,rfl,_,rfl,x,L,B,_,ss,b,_,fs,_,rfl,a5,S.wd,iV J,by lia,w5,hf.no (by decide),λt' H6 r6 a0=>⟨sz4,λp H7 _ s7 g7=>?_⟩⟩;have a1:=r6.sm s7;have e:=(g.trans S).trans a1;rw[show i+1+ns.length+(bJ "with" (ss.map wS)).length=i+(("group":Str)::(ns++bJ "with" (ss.map wS))).length by simp only[d9,j6];lia] at e;exact qq _ H7 e (.group (SqT.of g7) (hv.tk (e.tk N)) ⟨aBx (a1.tk S.wd _ _ ht) I,bAK _,M⟩ ⟨wV (TK.of s7) (λ_ _ h=>h.same s7) a0,bAK _,O⟩)
 |@first ks m=>obtain⟨w1,M,I,O⟩:=hw;refine⟨_,rfl,x,dx,_,rfl,hx,rfl,x,L,B,i,_,_,rfl,N,D,trivial,λH1 U=>?_⟩;have J:=(cC D).2;refine⟨_,rfl,rfl,_,rfl,aZ ?_⟩;refine⟨_,rfl,sz2,λW H2 _ Y X=>⟨W,_,rfl,.inr (SqT.of X),rfl,rfl,_,rfl,aZ ?_⟩⟩;have g:=U.sm Y;obtain⟨G,F⟩:=g.wd.at_;refine⟨_,rfl,rfl,_,rfl,aZ ⟨_,rfl,rfl,_,rfl,aZ ⟨_,rfl,rfl,_,rfl,bV ?_⟩⟩⟩;refine⟨_,rfl,x,G,_,rfl,F,rfl,x,L,B,_,_,_,rfl,g.wd,J,aKn O,λH5 S=>?_⟩;have d2:=(cC J).2;refine⟨_,rfl,_,rfl,x,L,B,_,ks,b,_,fk,_,rfl,a3,S.wd,d2,by lia,I,hf.no (by decide),λt' H6 r6 a0=>⟨_,rfl,sz4,λp H7 _ s7 g7=>?_⟩⟩;have e:=(g.trans S).trans (r6.sm s7);rw[show i+1+1+(bJ "by" (ks.map wP)).length=i+(("first":Str)::shw (.int m)::bJ "by" (ks.map wP)).length by simp only[d9];lia] at e;exact qq _ H7 e (.first (SqT.of g7) (hv.tk (e.tk N)) ⟨wV (TK.of s7) (λ_ _ h=>h.same s7) a0,bAK _,M⟩ O)
end
def Aft.jd (h:Aft q q' l):My.jd q<=My.jd q':=by
 induction h with
 |refl=>exact v7 _
 |more _ s ih=>refine bAF ih ?_;cases s <;> simp only[My.jd] <;> lia
def Stp.len (h:Stp q q' u):1<=u.length:=by obtain⟨x,r,e,_⟩:=h.hd;rw[e,d9];lia
section
variable {C:Addr}
theorem wL (T:!Txt)(a:!OkM C 1 "ahead" m5 (jN C))(b:!OkM C 3 "name" m5 (iD C Nm))
  (J:∀n,!Ok (6+3 * n) "read_within" bQC (aM9 K C n)->!Ok (8+3 * n) "read_step" n7 (bCj K C n)) :
  ∀n:Nat,!Ok (6+3 * n) "read_within" bQC (aM9 K C n)
 |0=>by
  refine Ok.ofV T.mH fM (λI H Q E h=>?_) (λf N A g s H I Q E D h=>?_)
  ·obtain⟨x,L,c,i,d,q,r,rfl,_⟩:=h;rfl
  ·obtain⟨x,L,c,i,d,q,r,rfl,_,_,_,_,hn,_⟩:=h;lia
 |n+1=>by
  have S:=J n (wL T a b J n);rw[show 6+3 * (n+1)=(8+3 * n)+1 by lia];refine Ok.ofV T.mH fM (λI H Q E h=>?_) (λf N A g s H I Q E D h=>?_)
  ·obtain⟨x,L,c,i,d,q,r,rfl,_⟩:=h;rfl
  obtain⟨x,L,c,i,d,q,r,rfl,Y,R,U,B,hn,hz,hl,Z⟩:=h;have a1:=fM.nd;refine⟨_,(aA (bH (cU aN8 (vv 1) (dX (by rfl) T.qN)) (aB oN) aP) (aA (aQ 2 (aW (aG aF (va1 (bN (b.mono (by lia)) D (vv 0)))))) (aA (jL PassesOwn.never (VW.pt (aQ2 (cU aAu (bN (a.mono (by lia)) D (vv 0)) dO) (aLd (cU oX (bN (a.mono (by lia)) D (vv 0)) aF)))) (aB (aQ 2 (iR (S.mono (by lia)) D (by rfl) (aG (vv 0) (aG (vv 2) (va1 (vv 1)))))))) (aB (aK (vv 2)))))),?_⟩;refine⟨_,rfl,_,_,rfl,rfl,_,rfl,?_⟩;rw[m9 (by lia)];refine aZ ?_;obtain⟨l,ha,el⟩:=aR4 q;rw[el] at R Z;obtain⟨dx,hx⟩:=Y.at_;have W:=ha.wf U;refine⟨_,rfl,x,dx,_,rfl,hx,rfl,x,L,c,i,_,_,rfl,Y,R,W,λH1 r1=>⟨sz2,λp H2 _ s2 g2=>?_⟩⟩;have d1:=(cC R).2;refine⟨λm σ F=>∃q1 u v j,m=u.length/\σ=[some (.ref x),some (.int (d:Nat)),some v]/\Rd C x L c H F j/\IsQ K F v q1/\Aft q1 q u/\c.drop j=u++r/\j+u.length=i+(tab0 q::l).length,⟨_,_,l,_,i+1,rfl,rfl,r1.sm s2,.table (SqT.of g2) W,ha,d1,by rw[d9];lia⟩,?_⟩;rintro m σ F ⟨q1,u,v,j,rfl,rfl,rd,hv,hA,hdj,hj⟩;obtain⟨k,o⟩:=rd.wd.at_;refine⟨_,rfl,x,k,_,rfl,o,rfl,x,L,c,j,rfl,rd.wd,?_⟩;rcases hA.first with⟨rfl,rfl⟩|⟨q2,u1,u2,hs,hA2,rfl⟩
  ·have G:Q v F:=by refine Z v F ?_ hv;have e:=hj;rw[<-e];exact rd
   cases r with
   |nil=>rw[hdj];exact⟨rfl,_,rfl,aZ ⟨_,rfl,G⟩⟩
   |cons y r=>have ey:=B y rfl;subst ey;rw[hdj];refine⟨rfl,_,rfl,bV ⟨_,rfl,x,k,_,rfl,o,rfl,x,L,c,j,rfl,rd.wd,?_⟩⟩;rw[hdj];exact⟨rfl,_,rfl,aZ ⟨_,rfl,G⟩⟩
  ·obtain⟨y,O,eu,ny⟩:=hs.hd;have X:c.drop j=y::(O++u2++r):=by rw[hdj,eu];rfl
   rw[X];refine⟨rfl,_,rfl,bV ⟨_,rfl,x,k,_,rfl,o,rfl,x,L,c,j,rfl,rd.wd,?_⟩⟩;rw[X];refine⟨rfl,_,rfl,?_⟩;rw[show (!decide (hdV (y::(O++u2++r))=V.str ")"))=true by rw[m9 (show ¬ hdV (y::(O++u2++r))=V.str ")" from λz=>ny (V.str.inj z))];rfl];have a0:=hA2.jd;have l1:=hs.len;refine bV ⟨fun σ' t=>∃m',m'<(u1++u2).length/\∃q1 u v j,m'=u.length/\σ'=[some (.ref x),some (.int (d:Nat)),some v]/\Rd C x L c H t j/\IsQ K t v q1/\Aft q1 q u/\c.drop j=u++r/\j+u.length=i+(tab0 q::l).length,fun σ' t h=>h,?_⟩;have fr:Fin r:=λy z=>by rw[B y z];decide
   refine⟨_,rfl,_,rfl,_,rfl,x,L,c,j,d,v,q1,q2,u1,u2++r,rfl,rd.wd,hv,hs,by rw[hdj,bAB],hA2.wf U,hA2.fin fr,by lia,by lia,hl,λv' H3 r3 M=>?_⟩;rw[j6] at hj;exact⟨u2.length,by rw[j6];lia,q2,u2,v',j+u1.length,rfl,rfl,rd.trans r3,M,hA2,iV (by rw[hdj,bAB]),by lia⟩
end
end
end My
namespace L2
open PySem PySem.Spec PyProof.Rows
section
variable {P:Program}{w:World}{K:bFQ}{mg:bFT}{base:Heap}
def iU (P:Program)(w:World)(K:bFQ)(mg:bFT)(base:Heap)(C:Addr)(k:Nat)(m:Str)(ps:List Str)(sp:Sp):Prop:=
 ∃f fd,Cls K C/\Meth K C m f/\Binds K fd ps []/\!iM (CXR P w) k f fd ps sp
def iU.mono (h:!iU C j m ps sp)(g:j<=k):!iU C k m ps sp:=by obtain⟨f,b,a,e,d,c⟩:=h;exact⟨f,b,a,e,d,c.mono g⟩
def iU.ofV {C:Addr}{m qual:Str}{st:Stmt}{N ps:List Str}{k:Nat}{sp:Sp}(c:Cls K C)(D:lN K C m qual st ps)(S:aM N ps (aC st))(j:∀vs H Q E,sp vs H Q E->vs.length=ps.length)
  (b:∀(f:Addr) (cdv:Value) (A:Around) (outer:List Env) (s:Shared) (H:Hp) (vs:List V) (Q:VK) (E:XK),Room k (A.deeper (envOfC qual (aC st) s.heap.objs.size f cdv))->sp vs H Q E ->
   ∃t,VSs (uT (CXR P w) P w K mg base N qual (aC st) f cdv A outer s H E) (dN st) t/\t { nx:=λ_ H'=>Q .non H',rt:=Q } (start N vs) H):!iU C (k+1) m ps sp:=by
 obtain⟨f,o,l,F,B⟩:=D;obtain⟨p,u,kV,g,n,q,cdv,r,h,rfl,i,d⟩:=F.ex;exact⟨f,_,c,l,B,aVo i d S j λA outer s H vs Q E e a=>let ⟨t,h1,h2⟩:=b f cdv A outer s H vs Q E e a;⟨t,h1.1,h2⟩⟩
end
end L2
namespace My
open PySem PySem.Spec PyProof.Rows L2
section
variable {K:bFQ}
def bBc (h:IsQ K H v q)(c:My.size q<=20):∃t,bU K H v t/\Right t:=by obtain⟨t,a,b⟩:=bI1 h;exact⟨t,a,_,b,c⟩
theorem aWe {α:Type}(l:List α):∀n,(List.range n).filterMap (λi=>l[i]?)=l.take n
 |0=>by simp
 |n+1=>by
  rw[bEG,List.filterMap_append,aWe l n,bCI];cases e:l[n]? with
  |none=>simp[e]
  |some x=>simp[e]
def aS5 (b:cN (IsC K H) us hd)(h:mX (λi y=>us[i]?=some y) is ys):cN (IsC K H) ys (is.filterMap λi=>hd[i]?):=by
 induction h with
 |nil=>exact .nil
 |@cons i y is ys r _ ih=>obtain⟨c,a,q⟩:=gJ b r;rw[bDZ,a];exact .cons q ih
def aXd {α β:Type}{R:α->β->Prop}{as:List α}{bs:List β}(h:cN R as bs):cN R as.reverse bs.reverse:=by
 induction h with
 |nil=>exact .nil
 |cons r _ ih=>rw[bEL,bEL];exact ih.app (.cons r .nil)
def aB6 {α β:Type}{R:α->β->Prop}{as:List α}{bs:List β}(h:cN R as bs):∀n,cN R (as.take n) (bs.take n):=by
 induction h with
 |nil=>intro n;rw[List.take_nil,List.take_nil];exact .nil
 |cons r _ ih=>
  intro n;cases n with
  |zero=>exact .nil
  |succ n=>exact .cons r (ih n)
def aE5 (hd' hd:Hdr):Prop:=(∀c∈hd',c∈hd)/\(hd'.map (·.1)).Nodup/\hd'.length<=hd.length
def aM1 (h:hd'.Sublist hd)(b:(hd.map (·.1)).Nodup):aE5 hd' hd:=⟨λc a=>h.subset a,b.sublist (h.map _),h.length_le⟩
def aE5.rev (h:aE5 hd' hd):aE5 hd'.reverse hd:=⟨λc a=>h.1 c (List.mem_reverse.mp a),by rw[List.map_reverse];exact List.pairwise_reverse.mpr (h.2.1.imp λq=>Ne.symm q),by rw[bEA];exact h.2.2⟩
def aE5.take (h:aE5 hd' hd)(n:Nat):aE5 (hd'.take n) hd:=⟨λc a=>h.1 c (bCU a),h.2.1.sublist ((bBV n hd').map _),by have:=h.2.2;rw[bAU];lia⟩
inductive aEc (K:bFQ)(vs:List V)(H:Hp)(Q:VK)(E_:XK):Prop
 |mk (a:Addr) (vh:V) (hd:Hdr) (n:Nat) (_:vs=[.ref a,vh,.int (n:Nat)]) (_:mQ H a) (_:nG K H vh hd) (_:Good hd) (_:n<=1) (_:∀D H' us hd',Fx a H H'->H D=none->H' D=some (.lst us)->cN (IsC K H') us hd'->aE5 hd' hd->n<=hd'.length->Q (.ref D) H')
def aJd (T:!Txt)(aL:!Ok 1 "_law_next" m7 jA):!Ok 2 "_law_some" o8 (aEc K):=by
 refine Ok.ofV T.aN0 tO (by trivial) (λf aa A a3 s H vs Q E hr h=>?_)
 obtain⟨a,vh,S,n,rfl,o,⟨b,M,rfl,U,hu⟩,⟨nd,l1,l8⟩,hn,q⟩:=h;have ab:=tO.nd;refine⟨_,(aA (zV (i0:=3) tO.nd rfl (by trivial) (N:=["_law_column","_law_state"]) ck (lW (aC vU)) rfl (lC (vv 1)) (λcl Z k fp=>⟨(jW 0),(aB2 (cU cV (bY aL (aG (vv 1) (va1 aD))) aD)),(vv 0)⟩)) (aA (bH (cU aV6 (aU bD (by rfl) T.fX dJ (va1 (vv 3))) (vv 2)) (aB (aQ 3 (bC (va1 (cR cM (vv 1) (bY aL (aG (vv 0) (va1 (aU bD (by rfl) T.fX dJ (va1 (vv 1))))))))))) aP) (aA (bH (cU cV (bY aL (aG (vv 0) (va1 aD))) aD) (aB (dD (aQz PySem.F.plainAttrs_list PySem.F.slot_list_reverse PySem.F.type_list_reverse aCq (vv 3)))) aP) (aB (aK (vv 3)))))),?_⟩;have lu:=hu.len;have a0:∀D k G g,Fx a H k->H D=none->k D=some (.lst G)->cN (IsC K k) G g->aE5 g S->n<=g.length->∀t,Fx a k t->Q (.ref D) t/\Q (.ref D) (upd t D (.lst G.reverse)):=by intro D k G g fx hD gD hz j a1 t v;have V:D≠a:=o.ne hD;have g2:=v.same _ _ V gD;have Y:cN (IsC K t) G g:=hz.imp λ_ _ h=>h.tk (v.tk fx.st);refine⟨q D t G g (fx.trans v) hD g2 Y j a1,q D _ G.reverse g.reverse ((fx.trans v).upd hD V) hD aJ ?_ j.rev (by rw[bEA];exact a1)⟩;exact aXd (Y.imp λ_ _ h=>h.tk λ_ _ e=>e.aFt g2)
 dsimp only[rF,vH];refine wG [none,some (.ref a)] ?_ ⟨_,rfl,b,rfl,⟨_,U⟩,bGh (Fx a) (bB2 o) M (λi _ y=>M[i]?=some y) (λ_ _ h=>h) (λ_ _ _ h=>h) (λi σ=>∃x,M[i]?=some x/\At1 [none,some (.ref a)] x σ) (Ps1 [none,some (.ref a)]) ⟨none,rfl⟩ (small (by lia)) _ (aEn λk f'=>f'.aV o U) (vX λk f'=>f'.aV o U) (λi x σ' k Q' ex a4 Z qq=>hg1 (i:=i) a4 fun σ2 h1 h2=>qq σ2 h1 ⟨x,ex,h2⟩) (λi x σ2 ex hA k R Z r=>?_) (λi x σ2 ex hA k R Z r=>?_) λD H1 ys O fD g1 I=>?_⟩
 ·exact tV 0 (by trivial) rfl rfl (by trivial)
 ·obtain⟨x',_,l,rfl⟩:=hA;exact⟨_,rfl,a,2,rfl,Z.st,by decide,λd t v _ _=>⟨rfl,_,rfl,r _ _ v⟩⟩
 ·obtain⟨x',X,l,rfl⟩:=hA;rw[ex] at X;cases X;exact⟨_,rfl,r _ _ (.refl Z.st) ex⟩
 obtain⟨is,j,I⟩:=I;have a8:cN (IsC K H1) M S:=hu.imp λ_ _ h=>h.tk (O.tk o);have z:=aS5 a8 I;have J:aE5 (is.filterMap λi=>S[i]?) S:=by refine aM1 ?_ nd;have:=j.filterMap (λi=>S[i]?);rw[aWe,lu,bBY] at this;exact this
 have a9:=z.len;dsimp only[cY];refine⟨_,rfl,D,_,rfl,.inl (SqL.of g1),_,rfl,_,_,rfl,rfl,_,rfl,qY (λc=>?_) (λc=>?_)⟩
 ·refine⟨_,rfl,_,rfl,_,rfl,_,_,rfl,.inr (O.aV o U),a,_,rfl,O.st,(by show (0:Int)<(M.length:Int);lia),λd t v d0 d1=>?_⟩;obtain⟨u,a2,hm⟩:=at_of (xs:=M) d0 d1;obtain⟨cc,a7,a5⟩:=hu.mem hm;have B:=O.trans v;refine⟨b,_,_,u,rfl,rfl,B.aV o U,a2,sz1,λp H3 fp s3 g3=>?_⟩;have L:=B.sm s3;have W:H p=none:=B.free fp;have m:=a0 p H3 [u] [cc] L W g3 (.cons (a5.tk (L.tk o)) .nil) ⟨λc' a6=>by rw[List.mem_singleton.mp a6];exact a7,by simp,by show 1<=S.length;exact l1⟩ (by show n<=1;exact hn);refine⟨_,rfl,a,2,rfl,L.st,by decide,λe H4 C _ _=>⟨rfl,_,rfl,?_⟩⟩;refine qY (λ_=>?_) (λ_=>⟨_,rfl,(m H4 C).1⟩);have g4:=C.same _ _ (o.ne W) g3;exact⟨_,rfl,.inl ⟨rfl,_,SqL.of g4⟩,p,_,rfl,rfl,g4,_,rfl,(m H4 C).2⟩
 ·have c':¬ (ys.length:Int)<(n:Int):=of_decide_eq_false (Bool.eq_false_iff.mpr c);have m:=a0 D H1 ys _ O fD g1 z J (by lia);refine⟨_,rfl,a,2,rfl,O.st,by decide,λe H4 C _ _=>⟨rfl,_,rfl,?_⟩⟩;refine qY (λ_=>?_) (λ_=>⟨_,rfl,(m H4 C).1⟩);have g4:=C.same _ _ (o.ne fD) g1;exact⟨_,rfl,.inl ⟨rfl,_,SqL.of g4⟩,D,_,rfl,rfl,g4,_,rfl,(m H4 C).2⟩
def aBl {hd hd':Hdr}(b:(hd.map (·.1)).Nodup)(h:∀c∈hd',c∈hd):Looks hd (hd'.map (·.1)) (hd'.map (·.2)):=by
 induction hd' with
 |nil=>exact .nil
 |cons c r ih=>exact .cons (tD b (h c (j7 ..))) (ih λx a=>h x (j8 _ a))
inductive aOg (K:bFQ)(vs:List V)(H:Hp)(Q:VK)(E_:XK):Prop
 |mk (a:Addr) (vh:V) (hd:Hdr) (_:vs=[.ref a,vh]) (_:mQ H a) (_:nG K H vh hd) (_:aBh hd) (_:∀v H' ps ks,Fx a H H'->pR qZ 0 3 K H' v ps->Looks hd (ps.map (·.1)) ks->(ps.map (·.1)).Nodup->Q v H')
theorem uZ {α:Type}:∀(k:Nat) (xs:List α),sel (λ_=>true) k xs=xs
 |_,[]=>rfl
 |k,x::r=>by show (if true=true then x::sel (λ_=>true) (k+1) r else _)=_;rw[if_pos rfl,uZ (k+1) r]
def tW (h:mX R (List.range n) ys):ys.length=n/\∀i y,ys[i]?=some y->R i y:=by
 have d:∀{b:List Nat} {ys:List V},mX R b ys->∀(i:Nat) (y:V),ys[i]?=some y->∃j,b[i]?=some j/\R j y:=by
  intro b ys h
  induction h with
  |nil=>intro i y e;simp at e
  |cons r _ ih=>
   intro i y e;cases i with
   |zero=>cases e;exact⟨_,rfl,r⟩
   |succ i=>obtain⟨j,a,c⟩:=ih i y (by simpa using e);exact⟨j,by simpa using a,c⟩
 have l:=h.len;rw[bAN] at l;refine⟨l.symm,λi y e=>?_⟩;obtain⟨j,a,c⟩:=d h i y e;have f:i<n:=by have:=(List.getElem?_eq_some_iff.mp e).1;lia
 rw[bCK f] at a;cases a;exact c
def aK0 (T:!Txt)(aL:!Ok 1 "_law_next" m7 jA)(kI:!Ok 2 "_law_some" o8 (aEc K)):!Ok 3 "_law_keys" o9 (aOg K):=by
 refine Ok.ofV T.aNh aBg (by trivial) (λf a9 A a0 s H vs Q E hr h=>?_)
 obtain⟨a,vh,hd,rfl,hs,hh,⟨hg,hc⟩,q⟩:=h;have ac:=aBg.nd;refine⟨_,(aA (aQ 2 (cL gZ (bY kI (aG (vv 0) (aG (vv 1) (va1 aD)))) dY (cP aD))) (aB (aK (bK cA (by rfl) T.cW cG (va1 (gM (N:=["_law_name","_law_kind","_law_state"]) ck (lW (aC uY)) rfl (qF (vv 2)) (λcl F U fp=>⟨(nQ (K:=K) (n:=2) rfl (aY (jW 0) (aY (jW 1) eN))),jK,(aW (aG (vv 0) (va1 (cR (aAl (K:=K)) (bC (aG aF (va1 aF))) (bY aL (aG (vv 2) (va1 aD)))))))⟩))))))),?_⟩;refine⟨_,rfl,_,rfl,a,vh,hd,0,rfl,hs,hh,hg,by decide,λD H1 us I f1 fD g1 hu O _=>?_⟩;refine⟨_,rfl,D,_,rfl,SqL.of g1,λp H2 fp s2 Z=>?_⟩;rw[show (3:Int)=((3:Nat):Int) from rfl,aEb] at Z;have G:=f1.sm s2;have C:cN (IsC K H2) (us.take 3) (I.take 3):=aB6 (hu.imp λ_ _ h=>h.same s2) 3;have g:=O.take 3;have a2:H p=none:=f1.free fp;have Y:p≠a:=hs.ne a2;generalize us.take 3=zs at Z C;have l3:(I.take 3).length<=3:=by rw[bAU];lia
 generalize I.take 3=j at C g l3;have lz:=C.len;dsimp only[cY,aHf,tCB,eE];refine aE6 [none,none,some (.ref a)] ?_ ⟨_,rfl,p,rfl,⟨_,SqL.of Z⟩,aEq (Fx a) (bB2 G.st) zs (λ_=>true) (λi H y=>∃c b t,j[i]?=some c/\y=.ref t/\SqT K H t [.str c.1,.str b]/\(b = "up"\/b = "down")) (λe1 e2 h=>?_) (λ_ _ e h=>?_) (λi σ=>∃c,j[i]?=some c/\At2 [none,none,some (.ref a)] (.str c.1) (.str c.2) σ) (Ps2 [none,none,some (.ref a)]) ⟨none,none,rfl⟩ (small (by lia)) _ (aLa λU f'=>SqL.of (f'.same _ _ Y Z)) (aCf λU f'=>SqL.of (f'.same _ _ Y Z)) (λi x σ' U Q' ex u F qq=>?_) (λi x σ2 ex hA U R F r=>r _ (.refl F.st)) (λi x σ2 ex hA _ U R F r=>?_) λD2 H3 o f3 aa g3 M=>?_⟩
 ·refine⟨rfl,λi y v m k=>?_⟩
  match i,m,k with
  |0,_,k=>cases k
  |1,_,k=>cases k
  |2,m,k=>cases m;cases k;exact⟨by trivial,0,rfl,rfl,by trivial⟩
  |i+3,m,_=>cases m
 ·obtain⟨c,b,t,m,k,L,h4⟩:=h;exact⟨c,b,t,m,k,e2.aV e1.st L,h4⟩
 ·obtain⟨c,b,t,m,k,L,h4⟩:=h;exact⟨c,b,t,m,k,L.aFt e,h4⟩
 ·obtain⟨c,J,p',rfl,a5⟩:=gJ C ex;exact hg2 (F.aV G.st a5) u fun σ2 m k=>qq σ2 m ⟨c,J,k⟩
 ·obtain⟨c,J,rfl⟩:=hA;refine⟨_,rfl,sz2,λl1 H4 a4 W g4=>?_⟩;refine⟨_,rfl,a,2,rfl,F.st.same W,by decide,λd H5 f5 d0 d1=>?_⟩;obtain⟨v,hv,mv⟩:=at_of (xs:=xV) d0 (by show d<2;lia);obtain⟨b,rfl,a1⟩:∃b:Str,v=.str b/\(b = "up"\/b = "down"):=by
   simp only[xV,bAO,bAG,or_false] at mv;rcases mv with rfl|rfl
   ·exact⟨_,rfl,.inl rfl⟩
   ·exact⟨_,rfl,.inr rfl⟩
  refine⟨l1,_,_,_,rfl,rfl,SqL.of (f5.same _ _ (F.st.ne a4) g4),hv,sz2,λt H6 _ s6 g6=>?_⟩;exact r _ _ (((Fx.of F.st W).trans f5).sm s6) ⟨c,b,t,J,rfl,SqT.of g6,a1⟩
 rw[uZ] at M;obtain⟨ab,l⟩:=tW M;have a6:∃B:List (Str × Str),cN (qZ K H3) o B/\B.map (·.1)=j.map (·.1):=by
  have a3:∀(n:Nat) (o:List V) (j:Hdr),o.length=j.length->(∀c∈j,Nm c.1)->(∀(i:Nat) (y:V),o[i]?=some y->∃c b t,j[i]?=some c/\y=.ref t/\SqT K H3 t [.str c.1,.str b]/\(b = "up"\/b = "down"))->∃B:List (Str × Str),cN (qZ K H3) o B/\B.map (·.1)=j.map (·.1):=by
   intro n o
   induction o with
   |nil=>intro j hl _ _;cases j with
    |nil=>exact⟨[],.nil,rfl⟩
    |cons _ _=>simp at hl
   |cons y o ih=>
    intro j hl S l;cases j with
    |nil=>simp at hl
    |cons c j=>obtain⟨c',b,t,m,k,L,h4⟩:=l 0 y rfl;cases m;obtain⟨B,h5,h6⟩:=ih j (by simpa using hl) (λd hd=>S d (j8 _ hd)) λi z e=>l (i+1) z (by simpa using e);exact⟨(c.1,b)::B,.cons ⟨t,k,L,S c (j7 ..),h4⟩ h5,by rw[bAE,h6];rfl⟩
  exact a3 0 o j (by lia) (λc a7=>(hc c (g.1 c a7)).1) l
 obtain⟨B,u,X⟩:=a6;have a8:=u.len;refine⟨D2,_,rfl,SqL.of g3,λt H4 _ W g4=>q _ _ B (j.map (·.2)) ((G.trans f3).sm W) ⟨⟨t,o,rfl,SqT.of g4,u.imp λ_ _ h=>h.same W⟩,bAK _,by lia⟩ ?_ ?_⟩
 ·rw[X];exact aBl hg.1 g.1
 ·rw[X];exact g.2.1
abbrev bI8:List V:=[.str "count",.str "least",.str "most",.str "sum"]
inductive aM4 (K:bFQ)(vs:List V)(H:Hp)(Q:VK)(E_:XK):Prop
 |mk (a F:Addr) (vh:V) (hd:Hdr) (fs:List Str) (_:vs=[.ref a,vh,.ref F]) (_:mQ H a) (_:nG K H vh hd) (_:aBh hd) (_:H F=some (.lst (fs.map V.str))) (_:F≠a) (_:2<=fs.length) (_:(∀n∈fs,Nm n)) (_:∀v H' ss js,Fx a H H'->pR nU 1 2 K H' v ss->aK3 hd ss js->ss.map Sm.new=fs.take ss.length->(∀(s:Sm) (j:Str),(s,j)∈ss.zip js->aDv j)->Q v H')
def aZd {w:Int}(h0:0<=w)(a:w<4):∃x:Str,atI bI8 w=some (.str x)/\((w=0/\x = "count")\/(w=1/\x = "least")\/(w=2/\x = "most")\/(w=3/\x = "sum")):=by
 obtain⟨n,rfl⟩:∃n:Nat,w=n:=⟨w.toNat,by lia⟩
 match n,a with
 |0,_=>exact⟨_,fQ rfl,.inl ⟨rfl,rfl⟩⟩
 |1,_=>exact⟨_,fQ rfl,.inr (.inl ⟨rfl,rfl⟩)⟩
 |2,_=>exact⟨_,fQ rfl,.inr (.inr (.inl ⟨rfl,rfl⟩))⟩
 |3,_=>exact⟨_,fQ rfl,.inr (.inr (.inr ⟨rfl,rfl⟩))⟩
 |n+4,h=>lia
theorem aOp {α β:Type}:∀{as:List α} {bs:List β} {a:α} {b:β},as.length=bs.length->(as++[a]).zip (bs++[b])=as.zip bs++[(a,b)]
 |[],[],_,_,_=>rfl
 |x::as,y::bs,a,b,h=>by rw[bBA,bBA,bFM,bFM,aOp (by simpa using h)];rfl
def aI6 (T:!Txt)(aL:!Ok 1 "_law_next" m7 jA):!Ok 2 "_law_sums" bQB (aM4 K):=by
 refine Ok.ofV T.aMo aBi (by trivial) (λf ak A a4 s H vs Q E hr h=>?_)
 obtain⟨a,F,vh,hd,k,rfl,hs,⟨b,us,rfl,hb,hu⟩,⟨⟨nd,l1,l8⟩,hc⟩,hF,nF,lf,a9,q⟩:=h;have am:=aBi.nd;refine⟨_,(aA (aQ 3 (bC jJ)) (aA (jY PassesOwn.never rfl (gV (by rfl) T.lG (va1 (aO dR aD (bY aL (aG (vv 0) (va1 aD)))))) (dZ 4) (aA (vJ (cR cM (vv 1) (bY aL (aG (vv 0) (va1 (aU bD (by rfl) T.fX dJ (va1 (vv 1))))))) (lV rfl (aY (dZ 5) (aY (dZ 6) eN)))) (aA (aQ 7 (aO dR aD (bK xC (by rfl) T.aHp aBz (va1 (aDs cV (vv 6) aF))))) (aA (aQ 8 (cR dF (bC (aG aF (aG aF (aG aF (va1 aF))))) (bY aL (aG (vv 0) (va1 (vv 7)))))) (aA (bH (cU cV (vv 8) aF) (aB (aQ 5 dO)) aP) (aB (dD (iB PySem.F.plainAttrs_list PySem.F.slot_list_append PySem.F.type_list_append eF (vv 3) (va1 (aW (aG (vv 8) (aG (vv 5) (va1 (cR dF (vv 2) (vv 4))))))))))))))) (aB (aK (bK cA (by rfl) T.cW cG (va1 (vv 3))))))),?_⟩;have lu:=hu.len;refine⟨sz0,λp H1 fp s1 g1=>?_⟩;have f1:=Fx.of hs s1;have v:p≠a:=hs.ne fp;refine⟨_,rfl,a,2,rfl,f1.st,by decide,λm H2 f2 m0 m1=>?_⟩;have aa:=f1.trans f2;have g2:=f2.same _ _ v g1;refine⟨_,_,rfl,rfl,_,rfl,(by show -(2 ^ 62)<=1+m;lia),(by show 1+m<2 ^ 62;lia),?_⟩;refine kE (n:=(1+m).toNat) (λi σ M=>Fx a H M/\∃(ws:List V) (ss:List Sm) (js:List Str) (l4 l5 l6 l7 l8:Option V),M p=some (.lst ws)/\ss.length=i/\cN (nU K M) ws ss/\aK3 hd ss js/\ss.map Sm.new=k.take i/\(∀(s:Sm) (j:Str),(s,j)∈ss.zip js->aDv j)/\σ=[some (.ref a),some (.ref b),some (.ref F),some (.ref p),l4,l5,l6,l7,l8]) ⟨aa,[],[],[],_,_,_,_,_,g2,rfl,.nil,.nil,rfl,(λs j h=>by cases h),rfl⟩ ?_ ?_
 ·rintro i σ M hi ⟨fx,ws,ss,js,l4,l5,l6,l7,l8,gp,hl,hw,hsj,hnw,hkj,rfl⟩;have lw:=hw.len;have lj:=hsj.len;have a5:TK K H M:=fx.tk hs;refine⟨_,rfl,_,rfl,_,rfl,_,_,rfl,.inr (a5 _ _ hb),a,_,rfl,fx.st,(by show (0:Int)<(us.length:Int);lia),λd H3 f3 d0 d1=>?_⟩;obtain⟨u,a2,Z⟩:=at_of (xs:=us) d0 d1;obtain⟨c,X,pc,rfl,ai⟩:=hu.mem Z;obtain⟨ad,ab⟩:=hc c X;have J:=fx.trans f3;have U:TK K H H3:=J.tk hs;refine⟨b,_,_,_,rfl,rfl,U _ _ hb,a2,pc,_,rfl,U _ _ ai,rfl,_,_,rfl,_,_,rfl,rfl,?_⟩;have a8:look hd c.1=some c.2:=tD nd X;have ac:k.take (i+1)=k.take i++[k[i]'(by lia)]:=by rw[bCI,d7 (by lia)];rfl
  have a1:Nm (k[i]'(by lia)):=a9 _ (bCG _);have G:∀D,Fx a H D->SqL K D F (k.map V.str):=λD fz=>SqL.of (fz.same _ _ nF hF);have W:atI (k.map V.str) (0+(i:Int))=some (.str (k[i]'(by lia))):=by rw[bFF];exact fQ (by rw[bAD,d7 (by lia)];rfl)
  refine⟨_,rfl,rfl,.inr ⟨_,rfl,_,_,rfl,rfl,?_⟩⟩;obtain⟨O,a7,al,ah⟩:∃O:Int,(3+(if decide (V.str c.2=V.str "number") then 1 else 0):Int)=O/\3<=O/\(O<=3\/(O=4/\c.2 = "number")):=by
   by_cases e:c.2 = "number"
   ·exact⟨4,by rw[v9 (congrArg V.str e)];rfl,by decide,.inr ⟨rfl,e⟩⟩
   ·exact⟨3,by rw[m9 (by intro z;exact e (V.str.inj z))];rfl,by decide,.inl (by decide)⟩
  dsimp only[cY];rw[a7];refine⟨sz4,λp4 H4 aj s4 g4=>?_⟩;have R:=J.sm s4;refine⟨_,rfl,_,rfl,a,O,rfl,R.st,by lia,λw' H5 f5 w0 w1=>?_⟩;have N:=R.trans f5;have af:Fx a M H5:=(f3.sm s4).trans f5;have B:=f5.same _ _ v (s4 _ _ (f3.same _ _ v gp));obtain⟨x,hx,Y⟩:=aZd w0 (show w'<4 by lia);refine⟨p4,_,_,_,rfl,rfl,SqL.of (f5.same _ _ (J.st.ne aj) g4),hx,?_⟩;have I:∀(nv:V) (y:Sm) (j:Str),(∀D g,SqT K D g [.str x,nv,.str (k[i]'(by lia))]->nU K D (.ref g) y)->y.new=k[i]'(by lia)->smK hd y=some j->(y.wd = "sum"->j≠"word")->aDv j->∀g r,H5 g=none->Same H5 r->r g=some (.tup [.str x,nv,.str (k[i]'(by lia))]) ->
    r p=some (.lst ws)/\(Fx a H (upd r p (.lst (ws++[.ref g])))/\cN (nU K (upd r p (.lst (ws++[.ref g])))) (ws++[.ref g]) (ss++[y])/\aK3 hd (ss++[y]) (js++[j])/\(ss++[y]).map Sm.new=k.take (i+1)/\∀(s:Sm) (j':Str),(s,j')∈(ss++[y]).zip (js++[j])->aDv j'):=by
   intro nv y j ae a0 hk l a6 g r o L gy;have S:=L _ _ B;have ag:g≠p:=(aX B o).symm;refine⟨S,(N.sm L).upd fp v,?_,?_,?_,?_⟩
   ·exact (hw.imp λ_ _ h=>(h.tk ((af.sm L).tk fx.st)).tk λ_ _ e=>e.aFt S).app (.cons (ae _ g (SqT.of (by rw[aR ag];exact gy))) .nil)
   ·exact cN.app hsj (.cons ⟨hk,l⟩ .nil)
   ·rw[bAH,hnw,ac,List.map_singleton,a0]
   ·intro s j' hm;rw[aOp (by lia)] at hm;rcases List.mem_append.mp hm with hm|hm
    ·exact hkj s j' hm
    ·cases List.mem_singleton.mp hm;exact a6
  refine⟨_,rfl,rfl,_,rfl,?_⟩;by_cases ec:x = "count"
  ·subst ec;rw[v9 rfl];refine bV ?_;refine⟨_,rfl,.inl ⟨rfl,_,SqL.of B⟩,_,rfl,_,rfl,_,rfl,_,rfl,F,_,_,_,rfl,rfl,G _ N,W,sz3,λg r o L gy=>?_⟩;obtain⟨k1,k2,k3,k4,k5,k6⟩:=I .non ⟨"count",none,k[i]'(by lia)⟩ "number" (λD g h=>⟨g,rfl,a1,.inl ⟨rfl,rfl,h⟩⟩) rfl rfl (λ_=>by trivial) (.inl rfl) g r o L gy;exact⟨p,_,_,rfl,rfl,k1,eG (by lia),k2,_,_,_,_,_,_,_,_,aJ,by rw[j6,hl];rfl,k3,k4,k5,k6,rfl⟩
  ·rw[m9 (by intro z;exact ec (V.str.inj z))];refine aZ ?_;have a3:bDy x:=by
    rcases Y with⟨_,e⟩|⟨_,e⟩|⟨_,e⟩|⟨_,e⟩
    ·exact absurd e ec
    ·exact .inr (.inl e)
    ·exact .inr (.inr e)
    ·exact .inl e
   have l:x = "sum"->c.2≠"word":=λe=>by
    rcases Y with⟨_,C⟩|⟨_,C⟩|⟨_,C⟩|⟨e3,C⟩
    ·exact absurd C ec
    ·rw[e] at C;exact absurd C (by trivial)
    ·rw[e] at C;exact absurd C (by trivial)
    ·rcases ah with z|⟨_,z⟩
     ·lia
     ·rw[z];decide +kernel
   refine⟨_,rfl,.inl ⟨rfl,_,SqL.of B⟩,_,rfl,_,rfl,_,rfl,_,rfl,F,_,_,_,rfl,rfl,G _ N,W,sz3,λg r o L gy=>?_⟩;obtain⟨k1,k2,k3,k4,k5,k6⟩:=I (.str c.1) ⟨x,some c.1,k[i]'(by lia)⟩ c.2 (λD g h=>⟨g,rfl,a1,.inr ⟨c.1,rfl,ad,a3,h⟩⟩) rfl a8 l ab g r o L gy;exact⟨p,_,_,rfl,rfl,k1,eG (by lia),k2,_,_,_,_,_,_,_,_,aJ,by rw[j6,hl];rfl,k3,k4,k5,k6,rfl⟩
 ·rintro σ M ⟨fx,ws,ss,js,l4,l5,l6,l7,l8,gp,hl,hw,hsj,hnw,hkj,rfl⟩;exact⟨_,rfl,p,ws,rfl,SqL.of gp,λt H5 _ s5 g5=>q _ _ ss js (fx.sm s5) ⟨⟨t,ws,rfl,SqT.of g5,hw.imp λ_ _ h=>h.same s5⟩,by lia,by lia⟩ hsj (by rw[hnw,hl]) hkj⟩
theorem aSp:∀{l:List Str},l.Nodup->l.length<=(l.filter λx=>!decide (x=n)).length+1
 |[],_=>by simp
 |x::r,h=>by
  rw[bFB] at h;rw[List.filter_cons,d9];by_cases e:x=n
  ·subst e;rw[v9 rfl];have:r.filter (λy=>!decide (y=x))=r:=List.filter_eq_self.mpr λy a=>by rw[m9 (λz=>h.1 (by rw[<-z];exact a))];rfl
   simp[this]
  ·rw[m9 e];have:=aSp (n:=n) h.2;simp only[Bool.not_false,if_true,d9];lia
theorem aOi {l:List Str}(h:l.Nodup):∀S:List Str,l.length<=(l.filter λx=>!decide (x∈S)).length+S.length
 |[]=>by have e:(l.filter λx=>!decide (x∈([]:List Str)))=l:=List.filter_eq_self.mpr (by intro x _;simp);rw[e];exact bDX _ _
 |s::S=>by
  have e:(l.filter λx=>!decide (x∈s::S))=(l.filter λx=>!decide (x∈S)).filter λx=>!decide (x=s):=by rw[List.filter_filter];refine List.filter_congr λx _=>?_;by_cases a:x=s <;> by_cases b:x∈S <;> simp[a,b]
  have c:=aOi h S;have d:=aSp (n:=s) (h.sublist (List.filter_sublist (p:=λx=>!decide (x∈S))));rw[e,d9];lia
theorem aMb:∀{k:Nat} {l:List Str} {ys:List V},(∀(j:Nat) (n:Str),l[j]?=some n->∀y,R (k+j) y->y=.str n)->mX R (sel p k (List.range' k l.length)) ys->ys=(sel p k l).map V.str
 |k,[],ys,_,h=>by cases h;rfl
 |k,n::r,ys,hR,h=>by
  rw[d9,bEQ] at h;have h:mX R (if p k then k::sel p (k+1) (List.range' (k+1) r.length) else sel p (k+1) (List.range' (k+1) r.length)) ys:=h;have c:∀{b:List V},mX R (sel p (k+1) (List.range' (k+1) r.length)) b->b=(sel p (k+1) r).map V.str:=λ{b} f=>
   aMb (k:=k+1) (l:=r) (λj m d y e=>hR (j+1) m (by simpa using d) y (by rw[show k+(j+1)=k+1+j by lia];exact e)) f
  show ys=(if p k then n::sel p (k+1) r else sel p (k+1) r).map V.str
  split at h
  ·rename_i a;rw[if_pos a];cases h with
   |cons r' t=>rw[bAE,<-c t,hR 0 n rfl _ r']
  ·rename_i a;rw[if_neg a];exact c h
def aMi {d:List V}{cs:Hdr}(hl:d.length=cs.length)(h:∀(i:Nat) (y:V),d[i]?=some y->∃c,cs[i]?=some c/\y=.str c.1):d=(cs.map (·.1)).map V.str:=by
 rw[bAZ];refine bCH λi=>?_;by_cases a:i<d.length
 ·obtain⟨c,b,e⟩:=h i d[i] (d7 a);rw[d7 a,bAD,b,e];rfl
 ·rw[bAV (by lia),bAV (by rw[j5];lia)]
def aFd {X:Cx}{scope:Scope}{N:List Str}{tl:TE}{σ:L2.St}{H:Hp}{Q:VK}{b:Addr}{us:List V}{cs:Hdr}(n:SqT K H b us)(s:cN (IsC K H) us cs)(h8:cs.length<=100)(A:Cap X scope N σ [none,none])(E:∀R:VK,R (.ref b) H->tl σ H R)
  (q:∀D H',H D=none->Same H H'->H' D=some (.lst ((cs.map (·.1)).map V.str))->Q (.ref D) H'):mU X scope N (aUt K tl) (aI3 K 2 (uN (cY 0) (uN (cY 1) aPp))) zR (iK 0) σ H Q:=by
 have I:=s.len;refine wG [none,none] A (E _ ⟨b,rfl,⟨_,n⟩,aEq Same (xA H) us (λ_=>true) (λi _ y=>∃c,cs[i]?=some c/\y=.str c.1) (λ_ _ h=>h) (λ_ _ _ h=>h) (λi σ=>∃c,cs[i]?=some c/\At2 [none,none] (.str c.1) (.str c.2) σ) (Ps2 [none,none]) ⟨none,none,rfl⟩ (small (by lia)) _ (aEn λH' a=>a.aV n) (vX λH' a=>a.aV n) (λi x G H' F j e a o=>?_) (λi x g j m H' R a r=>r _ (Same.refl _)) (λi x g j m _ H' R a r=>?_) λD B J u w k d=>?_⟩)
 ·obtain⟨c,f,p,rfl,t⟩:=gJ s j;exact hg2 (a.aV t) e fun g z C=>o g z ⟨c,f,C⟩
 ·obtain⟨c,f,rfl⟩:=m;exact⟨_,rfl,r _ _ (Same.refl H') ⟨c,f,rfl⟩⟩
 ·rw[uZ] at d;obtain⟨l,v⟩:=tW d;rw[aMi (by lia) v] at k;exact q D B w u k
def frP (l used:List Str)(i:Nat):Bool:=match l[i]? with
 |some n=>!decide (n∈used)
 |none=>false
def mJ (ns used:List Str):List Str:=(ns.drop 3).filter λn=>!decide (n∈used)
def aOk (h:nM ns):(mJ ns used).Nodup/\(∀n∈mJ ns used,Nm n/\n∉used)/\14<=(mJ ns used).length+used.length/\(mJ ns used).length<=14:=by
 have a:=h.2.2.sublist (bFO 3 ns);have e:(ns.drop 3).length=14:=by rw[bBD,h.1]
 refine⟨a.sublist List.filter_sublist,λn d=>?_,?_,?_⟩
 ·obtain⟨b,c⟩:=List.mem_filter.mp d;exact⟨h.2.1 n (bCV b),by simpa using c⟩
 ·have:=aOi a used;unfold mJ;lia
 ·have:=List.length_filter_le (λn=>!decide (n∈used)) (ns.drop 3);unfold mJ;lia
def aE2 (hn:nM ns)(G:Cap X scope Nn σ [none,some U])(J:∀R:VK,(∀p H1,H p=none->Same H H1->H1 p=some (.lst ((ns.drop 3).map V.str))->R (.ref p) H1)->tl σ H R)
  (P:∀(n:Str) l H' R,Same H H'->(∀H2,Same H' H2->R (!decide (n∈used)) H2)->tt (([none,some U].set 0 l).set 0 (some (.str n))) H' R)
  (q:∀D H',H D=none->Same H H'->H' D=some (.lst ((mJ ns used).map V.str))->Q (.ref D) H'):mU X scope Nn (aHy K tl) (cY 0) tt (iK 0) σ H Q:=by
 have S:(ns.drop 3).length=14:=by rw[bBD,hn.1]
 refine aE6 [none,some U] G (J _ λp H1 L o f=>⟨p,rfl,⟨_,SqL.of f⟩,aEq Same (xA H1) ((ns.drop 3).map V.str) (frP (ns.drop 3) used) (λi _ y=>∃n,(ns.drop 3)[i]?=some n/\y=.str n) (λ_ _ h=>h) (λ_ _ _ h=>h) (λi σ=>∃n,(ns.drop 3)[i]?=some n/\At1 [none,some U] (.str n) σ) (Ps1 [none,some U]) ⟨none,rfl⟩ (small (by rw[j5];lia)) _ (aLa λH' b=>SqL.of (b _ _ f)) (aCf λH' b=>SqL.of (b _ _ f)) (λi x N H' M d g b w=>?_) (λi x t d k H' R b r=>?_) (λi x t d k _ H' R b r=>?_) λD H2 O s B u c=>?_⟩)
 ·obtain⟨n,a,rfl⟩:=aBy d;exact hg1 (i:=i) g fun t E I=>w t E ⟨n,a,I⟩
 ·obtain⟨n,a,l,rfl⟩:=k;refine P n l H' _ (o.trans b) λH2 s=>?_;have e:frP (ns.drop 3) used i=!decide (n∈used):=by unfold frP;rw[a]
  rw[<-e];exact r H2 s
 ·obtain⟨n,a,l,rfl⟩:=k;exact⟨_,by cases l <;> rfl,r _ _ (Same.refl H') ⟨n,a,rfl⟩⟩
 ·rw[j5,bDU] at c;have F:=aMb (λj n C y z=>by obtain⟨m,v,e⟩:=z;rw[bDN,C] at v;cases v;exact e) c
  have A:sel (frP (ns.drop 3) used) 0 (ns.drop 3)=mJ ns used:=zP λi x d=>by unfold frP;rw[bDN,d]
  rw[F,A] at u;exact q D H2 (o.free B) (o.trans s) u
theorem zip_fst_snd:∀(hd:Hdr),(hd.map (·.1)).zip (hd.map (·.2))=hd
 |[]=>rfl
 |c::r=>by rw[bAE,bAE,bFM,zip_fst_snd r]
theorem aGq:∀{ns:List Str} {hd:Hdr},ns.length=hd.length->(List.zipWith (λn c=>(n,c.2)) ns hd).map (·.1)=ns
 |[],[],_=>rfl
 |n::ns,c::hd,h=>by rw[List.zipWith_cons_cons,bAE,aGq (by simpa using h)]
theorem aJo:∀{ns:List Str} {hd:Hdr} {x:Str × Str},x∈List.zipWith (λn c=>(n,c.2)) ns hd->x.1∈ns/\∃c∈hd,x.2=c.2
 |[],_,x,h=>by simp at h
 |_::_,[],x,h=>by simp at h
 |n::ns,c::hd,x,h=>by
  rw[List.zipWith_cons_cons] at h;rcases List.mem_cons.mp h with rfl|h
  ·exact⟨j7 ..,c,j7 ..,rfl⟩
  ·obtain⟨a,d,e,b⟩:=aJo h;exact⟨j8 _ a,d,j8 _ e,b⟩
def oZ {lo hi:Nat}{H:Hp}{t:Addr}{ns:List Str}(h:SqT K H t (ns.map V.str))(hn:∀n∈ns,Nm n)(a:lo<=ns.length)(b:ns.length<=hi):pR qU lo hi K H (.ref t) ns:=by
 refine⟨⟨t,_,rfl,h,?_⟩,a,b⟩;clear h a b
 induction ns with
 |nil=>exact .nil
 |cons n r ih=>exact .cons ⟨rfl,hn n (j7 ..)⟩ (ih λm c=>hn m (j8 _ c))
inductive aL9 (K:bFQ)(vs:List V)(H:Hp)(Q:VK)(E_:XK):Prop
 |mk (vq vh vo:V) (N:Addr) (q:Qn) (hd ow:Hdr) (ns:List Str) (hs:Str->Option Hdr) (_:vs=[vq,vh,vo,.ref N]) (_:IsQ K H vq q) (_:nG K H vh hd) (_:aBh hd) (_:HQ hs q hd) (_:nG K H vo ow) (_:aBh ow) (_:H N=some (.lst (ns.map V.str))) (_:nM ns) (_:∀p H' v1 v2 q' hd',Same H H'->H' p=some (.tup [v1,v2])->IsQ K H' v1 q'->nG K H' v2 hd'->HQ hs q' hd'->aBh hd'->(∀c∈hd',c.1∉ow.map (·.1))->size q'=size q+2->hd'.length+ow.length<=9->Q (.ref p) H')
def aG6 (T:!Txt):!Ok 1 "_law_fresh" o6 (aL9 K):=by
 refine Ok.ofV T.aJb rK (by trivial) (λf az A ad s H vs Q E hr h=>?_)
 obtain⟨vq,vh,vo,N,q0,O,ow,ns,hs,rfl,hq,⟨b,us,rfl,hb,hu⟩,⟨⟨nd,l1,l8⟩,hc⟩,ah,⟨o,zs,rfl,ho,hz⟩,⟨⟨b3,b1,b6⟩,b4⟩,hN,hn,q⟩:=h;have b7:=rK.nd;refine⟨_,(aA (aQ 4 (gM (N:=["_law_column","_law_kind"]) ck lA rfl (lC (vv 2)) (λcl X u Z=>⟨(nQ (K:=K) (n:=2) rfl (aY (jW 0) (aY (jW 1) eN))),jK,(vv 0)⟩))) (aA (aQ 5 (gM (N:=["_law_name","_law_used"]) ck (lW (aC nO)) rfl (qF (cL gZ (vv 3) (cP aD) dY)) (λcl X u Z=>⟨(jW 0),(aB2 (xD (yH (K:=K)) (vv 0) (vv 1) (by with_unfolding_all rfl))),(vv 0)⟩))) (aA (aQ 1 (cL bAv (vv 1) dY (cP (aU (aU2 rfl) (by rfl) T.bHh bEu (aG (aU bD (by rfl) T.fX dJ (va1 (vv 5))) (va1 (aO aBt aD (aU bD (by rfl) T.fX dJ (va1 (vv 2)))))))))) (aA (aQ 0 (aW (aG aF (aG (vv 0) (va1 (bK cA (by rfl) T.cW cG (va1 (gM (N:=bQR) ck lA rfl (lC (vv 1)) (λcl X u Z=>⟨(nQ (K:=K) (n:=2) rfl (aY (jW 0) (aY (jW 1) eN))),jK,(vv 0)⟩))))))))) (aA (zV (i0:=6) rK.nd rfl (by trivial) (N:=bQO) ck (lW (aC nO)) rfl (gV (by rfl) T.lG (va1 (aU bD (by rfl) T.fX dJ (va1 (vv 1))))) (λcl X u Z=>⟨(jW 0),jK,(aW (aG (cR (aAl (K:=K)) (vv 1) (vv 0)) (va1 (cR (wW (K:=K)) (cR (wW (K:=K)) (vv 2) (vv 0)) aD))))⟩)) (aB (aK (aW (aG (aW (aG aF (aG (vv 0) (va1 (bK cA (by rfl) T.cW cG (va1 (cL gZ (vv 5) dY (cP (aU bD (by rfl) T.fX dJ (va1 (vv 1))))))))))) (va1 (bK cA (by rfl) T.cW cG (va1 (vv 6))))))))))))),?_⟩;have lu:=hu.len;have lz:=hz.len
 try dsimp only[rF,vH]
 refine aFd ho hz (by lia) oJ (λR r=>⟨_,rfl,r⟩) λU H1 fU s1 gU=>?_
 try dsimp only[cY,rF,vH]
 refine aE2 (K:=K) (U:=.ref U) (used:=ow.map (·.1)) hn ?_ (λR r=>?_) (λn l u R X r=>?_) λF H2 fF s2 gF=>?_
 ·exact tV 4 (by trivial) rfl rfl (by trivial)
 ·refine⟨_,rfl,_,rfl,N,_,rfl,SqL.of (s1 _ _ hN),λp u Z X g'=>r p u Z X ?_⟩;rw[g',show (3:Int)=((3:Nat):Int) from rfl,aH7,List.map_drop]
 ·refine⟨_,rfl,_,rfl,U,_,rfl,.inl (SqL.of (X _ _ gU)),rfl,aE0,_,rfl,?_⟩;rw[oA];exact r u (Same.refl u)
 obtain⟨a8,a6,z,M⟩:=aOk (used:=ow.map (·.1)) hn;rw[j5] at z;generalize b5:mJ ns (ow.map (·.1))=fr at gF a8 a6 z M;have t2:=s1.trans s2
 try dsimp only[cY]
 refine⟨_,rfl,_,rfl,F,_,rfl,.inl (SqL.of gF),_,rfl,o,_,rfl,.inr (t2.aV ho),_,_,rfl,rfl,_,_,rfl,_,rfl,b,_,rfl,t2.aV hb,λd H3 s3 g3=>?_⟩;obtain⟨k,ek,hk⟩:∃k:Nat,(if ((9:Int) - (zs.length:Int))<(((fr.map V.str).length:Nat):Int) then ((9:Int) - (zs.length:Int)) else (((fr.map V.str).length:Nat):Int))=(k:Int)/\k=min fr.length (9 - zs.length):=by
  rw[j5];refine⟨min fr.length (9 - zs.length),?_,rfl⟩
  split <;> lia
 have J:SqT K H3 d (us.take k):=by have e:=aEb us k;rw[<-ek] at e;rw[<-e];exact g3
 have t3:=t2.trans s3;have j:cN (IsC K H3) (us.take k) (O.take k):=aB6 (hu.imp λ_ _ h=>h.same t3) k;have a:aE5 (O.take k) O:=aM1 (bBV k O) nd;have aq:(O.take k).length=min k O.length:=bAU;have ay:1<=k:=by lia
 generalize b0:O.take k=hd1 at j a aq;generalize us.take k=us1 at J j;have a3:=j.len;have a0:∀c∈hd1,Nm c.1/\aDv c.2:=λc h=>hc c (a.1 c h)
 try dsimp only[cY]
 refine⟨_,rfl,?_⟩
 try dsimp only[tCB,eE]
 refine aFd J j (by lia) oJ (λR r=>⟨_,rfl,r⟩) λD4 H4 _ s4 g4=>?_;refine⟨D4,_,rfl,SqL.of g4,λt4 H5 _ s5 g5=>?_⟩;refine⟨sz3,λqk H6 _ s6 g6=>?_⟩;have t6:=t3.trans (s4.trans (s5.trans s6));have L:=s4.trans (s5.trans s6);have ak:IsQ K H6 (.ref qk) (.keep q0 (hd1.map (·.1))):=.keep (SqT.of g6) (hq.same t6) (oZ (SqT.of (s6 _ _ g5)) (λn ar=>by obtain⟨c,D,rfl⟩:=List.mem_map.mp ar;exact (a0 c D).1) (by rw[j5];lia) (by rw[j5];lia))
 have a4:=(s3.trans L) _ _ gF;have an:cN (IsC K H6) us1 hd1:=j.imp λ_ _ h=>h.same L;have Y:=L.aV J
 try dsimp only[cY,rF,vH]
 refine aB8 ((List.range hd1.length).map λi:Nat=>V.int (0+(i:Int))) (lY K (List.zipWith (λn c=>(n,c.2)) (fr.take hd1.length) hd1)) lY.st lY.su [none,some (.ref F),some (.ref d)] ?_ (small (by rw[j5,bAN];lia)) (λR r=>aKl hd1.length (λR' r'=>⟨_,rfl,d,_,rfl,.inr Y,by rw[<-a3] at r';exact r'⟩) (by lia) R r) (λi x ex u R l sm r=>?_) rfl λD7 H7 ys s7 g7 ao hR=>?_
 ·refine⟨rfl,λi y v d G=>?_⟩
  match i,d,G with
  |0,_,G=>cases G
  |1,d,G=>cases d;cases G;exact⟨by trivial,5,rfl,rfl,by trivial⟩
  |2,d,G=>cases d;cases G;exact⟨by trivial,1,rfl,rfl,by trivial⟩
  |i+3,d,_=>cases d
 ·have hi:i<hd1.length:=by have:=(List.getElem?_eq_some_iff.mp ex).1;rw[j5,bAN] at this;exact this
  have au:x=.int (0+(i:Int)):=by rw[bAD,bCK hi] at ex;exact (bAM ex).symm
  subst au;obtain⟨B,ag,aw⟩:∃B,us1[i]?=some (.ref B)/\SqT K H6 B [.str (hd1[i]'hi).1,.str (hd1[i]'hi).2]:=by
   have aa:i<us1.length:=by lia
   obtain⟨c,a5,B,e1,e2⟩:=gJ an (d7 aa);rw[d7 hi] at a5;cases a5;exact⟨B,by rw[d7 aa,e1],e2⟩
  have hF:i<fr.length:=by lia
  have a1:atI (fr.map V.str) (0+(i:Int))=some (.str (fr[i]'hF)):=by rw[bFF];exact fQ (by rw[bAD,d7 hF];rfl)
  have a2:atI us1 (0+(i:Int))=some (.ref B):=by rw[bFF];exact fQ ag
  refine⟨_,rfl,_,rfl,F,_,_,_,rfl,rfl,SqL.of (sm _ _ a4),a1,_,rfl,_,rfl,d,_,_,_,rfl,rfl,sm.aV Y,a2,B,_,1,_,rfl,rfl,sm.aV aw,at1 _ _ _,sz2,λt H8 _ s8 g8=>r _ _ s8 ⟨(fr[i]'hF,(hd1[i]'hi).2),t,?_,rfl,g8⟩⟩;rw[bEO,List.getElem?_take,if_pos hi,d7 hF,d7 hi]
 rw[j5,bAN] at ao;have I:(fr.take hd1.length).length=hd1.length:=by rw[bAU];lia
 have am:(List.zipWith (λn c=>(n,c.2)) (fr.take hd1.length) hd1).length=hd1.length:=by rw[bFC,I,Nat.min_self]
 try dsimp only[cY]
 refine⟨_,rfl,?_⟩
 try dsimp only[tCB,eE]
 refine⟨_,rfl,_,rfl,d,_,rfl,.inr (s7.aV Y),_,rfl,F,_,rfl,SqL.of (s7 _ _ a4),λp8 H8 _ s8 g8=>?_⟩;rw[a3,aEb,<-List.map_take] at g8;refine⟨p8,_,rfl,SqL.of g8,λt9 H9 _ s9 g9=>?_⟩;refine⟨sz3,λqn b2 _ C av=>?_⟩;refine⟨_,rfl,D7,_,rfl,SqL.of ((s8.trans (s9.trans C)) _ _ g7),λae ax _ S ai=>?_⟩;refine⟨sz2,λac aj _ m al=>?_⟩;have g:=s8.trans (s9.trans (C.trans (S.trans m)));have W:∀n∈fr.take hd1.length,Nm n/\n∉ow.map (·.1):=λn h=>a6 n (bCU h);have as:(fr.take hd1.length).Nodup:=a8.sublist (bBV _ _);have af:Good hd1:=⟨a.2.1,by lia,by lia⟩;have a7:Good (List.zipWith (λn c=>(n,c.2)) (fr.take hd1.length) hd1):=⟨by rw[aGq I];exact as,by lia,by lia⟩;have ab:HQ hs (.keep q0 (hd1.map (·.1))) hd1:=by have h:=HH.keep (hs:=hs) (q:=q0) (aBl nd a.1);rw[zip_fst_snd] at h;exact .mk1 rfl ah h af
 have a9:HQ hs (.nmd (.keep q0 (hd1.map (·.1))) (fr.take hd1.length)) (List.zipWith (λn c=>(n,c.2)) (fr.take hd1.length) hd1):=.mk1 rfl ab (.nmd I) a7;refine q ac aj (.ref qn) (.ref ae) (.nmd (.keep q0 (hd1.map (·.1))) (fr.take hd1.length)) _ (t6.trans (s7.trans g)) al ?_ ?_ a9 ⟨a7,λx hx=>?_⟩ (λx hx=>?_) rfl ?_
 ·refine .nmd (SqT.of ((S.trans m) _ _ av)) (ak.same (s7.trans g)) (oZ (SqT.of ((C.trans (S.trans m)) _ _ g9)) (λn h=>(W n h).1) (by lia) (by lia))
 ·exact aRy (SqT.of (m _ _ ai)) (by lia) λi y e=>(hR i y e).st g
 ·obtain⟨ap,c,D,e⟩:=aJo hx;exact⟨(W _ ap).1,by rw[e];exact (a0 c D).2⟩
 ·exact (W _ (aJo hx).1).2
 ·rw[am];lia
inductive aNe (K:bFQ)(vs:List V)(H:Hp)(Q:VK)(E_:XK):Prop
 |mk (a N:Addr) (vq vh vo voh:V) (q qo:Qn) (hd ho:Hdr) (ns:List Str) (hs:Str->Option Hdr) (_:vs=[.ref a,vq,vh,vo,voh,.ref N]) (_:mQ H a) (_:N≠a) (_:IsQ K H vq q) (_:nG K H vh hd) (_:aBh hd) (_:HQ hs q hd) (_:IsQ K H vo qo) (_:nG K H voh ho) (_:aBh ho) (_:HQ hs qo ho) (_:H N=some (.lst (ns.map V.str))) (_:nM ns) (_:∀p H' v1 v2 q' hd',Fx a H H'->H' p=some (.tup [v1,v2])->IsQ K H' v1 q'->nG K H' v2 hd'->HQ hs q' hd'->aBh hd'->size q'<=size q+size qo+3->Q (.ref p) H')
def bDz (hd ho:Hdr)(pr:Str × Str):Prop:=∃k,(pr.1,k)∈hd/\(pr.2,k)∈ho
def aPk {H:Hp}{ho:Hdr}{c:Str × Str}{k:List Nat}{m:List V}(l:Nm c.1)(hn:∀x∈ho,Nm x.1)(h:mX (λi y=>∃c' t,ho[i]?=some c'/\c'.2=c.2/\y=.ref t/\SqT K H t [.str c.1,.str c'.1]) k m):∃prs:List (Str × Str),cN (rB K H) m prs/\∀pr∈prs,pr.1=c.1/\(pr.2,c.2)∈ho:=by
 induction h with
 |nil=>exact⟨[],.nil,λpr h=>by cases h⟩
 |@cons i y k m r _ ih=>
  obtain⟨c',t,e,j,d,b⟩:=r;obtain⟨prs,g,f⟩:=ih;have a:=bAQ e;refine⟨(c.1,c'.1)::prs,.cons ⟨t,d,b,l,hn c' a⟩ g,λpr hp=>?_⟩;rcases List.mem_cons.mp hp with rfl|hp
  ·exact⟨rfl,by rw[<-j];exact a⟩
  ·exact f pr hp
def leP (ho:Hdr)(d:Str)(i:Nat):Bool:=match ho[i]? with
 |some c=>!decide (c.1=d)
 |none=>false
def aS9 {g:Hdr}(a:(g.map (·.1)).Nodup){d k:Str}(h:(d,k)∈g):(g.filter λc=>!decide (c.1=d)).length+1=g.length:=by
 induction g with
 |nil=>cases h
 |cons c r ih=>
  rw[bAE,bFB] at a;rw[List.filter_cons,d9];rcases List.mem_cons.mp h with e|h
  ·subst e;have:r.filter (λc=>!decide (c.1=d))=r:=List.filter_eq_self.mpr λy f=>by rw[m9 (λz=>a.1 (by rw[<-z];exact List.mem_map.mpr ⟨y,f,rfl⟩))];rfl
   simp[this]
  ·have b:¬ c.1=d:=λz=>a.1 (by rw[z];exact List.mem_map.mpr ⟨_,h,rfl⟩);have:=ih a.2 h;rw[m9 b];simp only[Bool.not_false,if_true,d9];lia
def aLj (T:!Txt)(aL:!Ok 1 "_law_next" m7 jA)(bt:!Ok 1 "_law_fresh" o6 (aL9 K)) :
  !Ok 2 "_law_join" m8 (aNe K):=by
 refine Ok.ofV T.aNr aAj (by trivial) (λf bn A aw s H vs Q E hr h=>?_)
 obtain⟨a,N,vq,vh,vo,bg,q0,qo,hd,ho,ns,hs,rfl,C,bk,hq,hh,a2,ai,bh,b8,aa,ah,hN,hn,q⟩:=h;have hu:=aOd hr;have c0:=aAj.nd;refine⟨_,(aA (vJ (bY bt (aG (vv 3) (aG (vv 4) (aG (vv 2) (va1 (vv 5)))))) (lV rfl (aY (dZ 3) (aY (dZ 4) eN)))) (aA (aQ 6 (bC jJ)) (aA (jY PassesOwn.never rfl (lC (vv 2)) (lV rfl (aY (dZ 7) (aY (dZ 8) eN))) (aB (dD (iB PySem.F.plainAttrs_list PySem.F.slot_list_extend PySem.F.type_list_extend aEk (vv 6) (va1 (gM (N:=["_law_d","_law_sort","_law_c","_law_kind"]) ck (lW (aC qG)) rfl (lC (vv 4)) (λcl X L fp=>⟨(nQ (K:=K) (n:=2) rfl (aY (jW 0) (aY (jW 1) eN))),(aB2 (cU cV (vv 3) (vv 1))),(aW (aG (vv 2) (va1 (vv 0))))⟩))))))) (aA (bH (cU (aV0 (bFP hu)) (vv 6) (bC jJ)) (aB (aK (aW (aG (vv 1) (va1 (vv 2)))))) aP) (aA (aQ 9 (cR dF (vv 6) (bY aL (aG (vv 0) (va1 (aU bD (by rfl) T.fX dJ (va1 (vv 6)))))))) (aA (aQ 10 (bK cA (by rfl) T.cW cG (va1 (gM (N:=["_law_column","_law_pair"]) ck (lW (aC qG)) rfl (lC (vv 4)) (λcl X L fp=>⟨(jW 0),(aB2 (cU oX (cR (wW (K:=K)) (vv 0) aD) (cR (wW (K:=K)) (vv 1) aD))),(vv 0)⟩))))) (aB (aK (aW (aG (aW (aG aF (aG (vv 1) (aG (vv 3) (va1 (aW (va1 (vv 9)))))))) (va1 (aO aZ3 (vv 2) (vv 10))))))))))))),?_⟩;obtain⟨⟨nd,l1,l8⟩,hc⟩:=id a2;refine⟨_,rfl,_,rfl,_,rfl,_,rfl,vo,bg,vh,N,qo,ho,hd,ns,hs,rfl,bh,b8,aa,ah,hh,a2,hN,hn,λr H1 v1 v2 q1 g s1 g1 az b2 aj aq ag bp bz=>?_⟩;obtain⟨⟨a6,bx,bv⟩,ad⟩:=id aq;refine⟨r,_,rfl,SqT.of g1,rfl,_,_,rfl,_,_,rfl,rfl,?_⟩;refine⟨sz0,λp H2 fp s2 g2=>?_⟩;have b9:H p=none:=s1.free fp;have b0:p≠a:=C.ne b9;have t2:=s1.trans s2;obtain⟨b,us,rfl,hb,S⟩:=hh;obtain⟨o,zs,rfl,Y,U⟩:=b2;have bq:=S.len;have bs:=U.len;refine⟨_,rfl,b,rfl,⟨_,t2.aV hb⟩,tK (xs:=us) (λi σ L=>Same H1 L/\∃(ws:List V) (prs:List (Str × Str)) (l7 l8:Option V),L p=some (.lst ws)/\cN (rB K L) ws prs/\(∀B∈prs,bDz hd g B)/\ws.length<=8 * i/\σ=[some (.ref a),some vq,some (.ref b),some v1,some (.ref o),some (.ref N),some (.ref p),l7,l8,none,none]) ⟨s2,[],[],_,_,g2,.nil,(λB h=>by cases h),bAK _,rfl⟩ (λi σ L _ ⟨e,_⟩=>e.aV (s1.aV hb)) ?_ ?_⟩
 ·rintro i x σ L hx ⟨sm,ws,prs,l7,l8',gp,hw,hpr,lw,rfl⟩;obtain⟨c,b5,pc,rfl,bf⟩:=gJ S hx;have a1:=bAQ b5;refine⟨pc,_,rfl,sm.aV (s1.aV bf),rfl,_,_,rfl,_,_,rfl,rfl,?_⟩;refine⟨_,rfl,.inl ⟨rfl,_,SqL.of gp⟩,?_⟩
  try dsimp only[eE]
  refine wG [none,none,some (.str c.1),some (.str c.2)] ?_ ⟨_,rfl,o,rfl,⟨_,sm.aV Y⟩,aEq Same (xA L) zs (kp g c.2) (λi H y=>∃j t,g[i]?=some j/\j.2=c.2/\y=.ref t/\SqT K H t [.str c.1,.str j.1]) (λ_ e h=>?_) (λ_ _ e h=>?_) (λi σ=>∃j,g[i]?=some j/\At2 [none,none,some (.str c.1),some (.str c.2)] (.str j.1) (.str j.2) σ) (Ps2 [none,none,some (.str c.1),some (.str c.2)]) ⟨none,none,rfl⟩ (small (by lia)) _ (aEn λG X=>X.aV (sm.aV Y)) (vX λG X=>X.aV (sm.aV Y)) (λi x σ' G Q' ex ba X qq=>?_) (λi x σ2 ex hA G R X rr=>?_) (λi x σ2 ex hA hp G R X rr=>?_) λD H3 ys s3 fD g3 ab=>?_⟩
  ·refine⟨rfl,λi y v g J=>?_⟩
   match i,g,J with
   |0,_,J=>cases J
   |1,_,J=>cases J
   |2,g,J=>cases g;cases J;exact⟨by trivial,7,rfl,rfl,by trivial⟩
   |3,g,J=>cases g;cases J;exact⟨by trivial,8,rfl,rfl,by trivial⟩
   |i+4,g,_=>cases g
  ·obtain⟨j,t,e1,e2,e3,e4⟩:=h;exact⟨j,t,e1,e2,e3,e.aV e4⟩
  ·obtain⟨j,t,e1,e2,e3,e4⟩:=h;exact⟨j,t,e1,e2,e3,e4.aFt e⟩
  ·obtain⟨j,hc',p',rfl,a4⟩:=gJ U ex;exact hg2 (X.aV (sm.aV a4)) ba fun σ2 g J=>qq σ2 g ⟨j,hc',J⟩
  ·obtain⟨j,hc',rfl⟩:=hA;refine⟨_,rfl,_,rfl,rfl,_,rfl,?_⟩;have e:kp g c.2 i=decide (V.str c.2=V.str j.2):=by unfold kp;rw[hc'];exact decide_eq_decide.mpr ⟨λz=>by rw[show j.2=c.2 from z],λz=>(V.str.inj z).symm⟩
   rw[<-e];exact rr G (Same.refl G)
  ·obtain⟨j,hc',rfl⟩:=hA;unfold kp at hp;rw[hc'] at hp;exact⟨_,rfl,_,rfl,sz2,λt H4 _ s4 g4=>rr _ _ s4 ⟨j,t,hc',of_decide_eq_true hp,rfl,SqT.of g4⟩⟩
  have bo:ys.length<=8:=by have:=aBo (kp g c.2) 0 (List.range zs.length);rw[bAN,ab.len] at this;lia
  obtain⟨ay,a3,am⟩:=aPk (hc c a1).1 (λx hx=>(ad x hx).1) ab;have as:=s3 _ _ gp;have bw:i<8:=by have:=(List.getElem?_eq_some_iff.mp hx).1;lia
  have bl:D≠p:=(aX gp fD).symm;refine⟨p,D,_,_,rfl,rfl,as,g3,small (by lia),?_⟩;refine⟨rQ fp (sm.trans s3),ws++ys,prs++ay,_,_,aJ,((hw.imp λ_ _ h=>h.same s3).app a3).imp (λ_ _ h=>h.tk λ_ _ e=>e.aFt as),λB hp=>?_,by rw[j6];lia,rfl⟩;rcases List.mem_append.mp hp with hp|hp
  ·exact hpr B hp
  ·obtain⟨e1,e2⟩:=am B hp;exact⟨c.2,by rw[e1];exact a1,e2⟩
 ·rintro σ H3 ⟨sm,ws,prs,l7,l8',gp,hw,hpr,lw,rfl⟩;have t3:=s1.trans sm;have br:=hw.len;refine⟨_,rfl,sz0,λe H4 _ s4 g4=>⟨p,e,ws,rfl,rfl,SqL.of (s4 _ _ gp),SqL.of g4,_,rfl,?_⟩⟩;have t4:=t3.trans s4;by_cases a5:ws=[]
  ·have ee:ws.isEmpty=true:=by rw[a5];rfl
   rw[ee];refine bV ?_;exact⟨_,rfl,_,rfl,sz2,λp5 H5 _ s5 g5=>q p5 H5 _ _ q0 hd (.of C (t4.trans s5)) g5 (hq.same (t4.trans s5)) ⟨b,us,rfl,(t4.trans s5).aV hb,S.imp λ_ _ h=>h.same (t4.trans s5)⟩ ai a2 (by lia)⟩
  ·have bj:0<ws.length:=List.length_pos_iff.mpr a5;have ee:ws.isEmpty=false:=by cases ws with
    |nil=>exact absurd rfl a5
    |cons _ _=>rfl
   rw[ee];refine aZ ?_;have ap:=s4 _ _ gp;refine⟨_,rfl,_,rfl,_,rfl,p,_,rfl,.inl (SqL.of ap),a,_,rfl,C.same t4,(by show (0:Int)<(ws.length:Int);lia),λd H5 f5 d0 d1=>?_⟩;have ar:Fx a H H5:=(Fx.of C t4).trans f5;obtain⟨u,av,bd⟩:=at_of (xs:=ws) d0 d1;obtain⟨B,a9,pp,rfl,b1,b4,a3⟩:=hw.mem bd;obtain⟨k,au,a8⟩:=hpr B a9;have M:TK K H1 H5:=λ_ _ e=>f5.aV (C.same t4) (s4.aV (sm.aV e));have bc:TK K H H5:=ar.tk C;have a0:SqT K H5 pp [.str B.1,.str B.2]:=f5.aV (C.same t4) (s4.aV b1);refine⟨p,_,_,_,rfl,rfl,SqL.of (f5.same _ _ b0 ap),av,?_⟩
   try dsimp only[cY,rF,vH,tCB,eE]
   refine aY2 zs (leP g B.2) [none,some (.ref pp)] ?_ (small (by lia)) (λR rr=>aPr (M _ _ Y) (λR' r'=>⟨_,rfl,r'⟩) R rr) (λi x ex L R l ak rr=>?_) rfl λD H6 s6 g6=>?_
   ·exact tV 9 (by trivial) rfl rfl (by trivial)
   ·obtain⟨j,hc',p',rfl,a4⟩:=gJ U ex;refine⟨_,rfl,p',_,0,_,rfl,rfl,ak.aV (M _ _ a4),at0 _ _,_,rfl,pp,_,1,_,rfl,rfl,ak.aV a0,at1 _ _ _,rfl,_,rfl,?_⟩;have e:leP g B.2 i=!decide (V.str j.1=V.str B.2):=by unfold leP;rw[hc'];exact congrArg not (decide_eq_decide.mpr ⟨λz=>congrArg V.str z,λz=>V.str.inj z⟩)
    rw[<-e];exact rr L (Same.refl L)
   refine⟨D,_,rfl,SqL.of g6,λt7 H7 _ s7 g7=>?_⟩;refine⟨_,rfl,_,rfl,_,rfl,sz1,λt8 H8 _ s8 g8=>?_⟩;refine⟨sz4,λqj H9 _ s9 g9=>?_⟩;have ac:=s8.trans s9;have W:=s6.trans (s7.trans ac);have af:TK K H H9:=λ_ _ e=>W.aV (bc _ _ e);have an:TK K H1 H9:=λ_ _ e=>W.aV (M _ _ e);have es:sel (leP g B.2) 0 g=g.filter λc=>!decide (c.1∈[B].map (·.2)):=zP λi x ex=>by unfold leP;rw[bDN,ex];simp
   have a7:=aVw (p:=leP g B.2) U 0;rw[es] at a7;have bi:=a7.len;have bb:=aS9 a6 a8;have bm:(g.filter λc=>!decide (c.1∈[B].map (·.2))).length+1=g.length:=by
    rw[<-bb]
    congr 2
    refine List.filter_congr λx _=>?_;simp
   refine⟨_,rfl,_,rfl,b,t7,_,_,rfl,rfl,af _ _ hb,SqT.of (ac _ _ g7),small (by lia),λb7 bu ax be=>?_⟩;refine⟨sz2,λb6 O _ ao b3=>?_⟩;have m:=ax.trans ao;have ae:Fx a H O:=ar.sm (W.trans m);have Z:TK K H O:=λ_ _ e=>m.aV (af _ _ e);have I:TK K H1 O:=λ_ _ e=>m.aV (an _ _ e);have al:Good (hd++g.filter λc=>!decide (c.1∈[B].map (·.2))):=by refine⟨?_,by rw[j6];lia,by rw[j6];lia⟩;rw[bAH,bFN];refine⟨nd,a6.sublist (List.filter_sublist.map _),λx hx y hy e=>?_⟩;subst e;obtain⟨j,hc',rfl⟩:=List.mem_map.mp hy;exact ag j (List.mem_filter.mp hc').1 hx
   refine q b6 O _ _ (.join q0 q1 [B]) (hd++g.filter λc=>!decide (c.1∈[B].map (·.2))) ae b3 ?_ ?_ ?_ ⟨al,λj hc'=>?_⟩ ?_
   ·refine .join (SqT.of (m _ _ g9)) (hq.tk Z) (az.tk I) ⟨⟨t8,_,rfl,SqT.of ((s9.trans m) _ _ g8),.cons ⟨pp,rfl,(W.trans m).aV a0,b4,a3⟩ .nil⟩,v7 _,by show 1<=3;decide⟩
   ·exact⟨b7,_,rfl,ao.aV be,(S.imp λ_ _ h=>h.tk Z).app (a7.imp λ_ _ h=>h.tk I)⟩
   ·exact .mk2 rfl ai aj (.join (ks:=[k]) (.cons ⟨tD nd au,tD a6 a8⟩ .nil) (by simp) (by simp)) al
   ·rcases List.mem_append.mp hc' with hc'|hc'
    ·exact hc j hc'
    ·exact ad j (List.mem_filter.mp hc').1
   ·show size q0+size q1+1<=_;lia
def hdK (hd:Hdr):List (Key × V):=hd.map λc=>((Sum.inr c.1:Key),V.str c.2)
def bDx (h:cN (IsC K H) us hd):aXh K H us (hdK hd):=by
 induction h with
 |nil=>exact .nil
 |cons r _ ih=>obtain⟨p,rfl,a⟩:=r;exact .cons ⟨p,rfl,a⟩ ih
def bFi (h:(hd.map (·.1)).Nodup):((hdK hd).map (·.1)).Nodup:=by unfold hdK;rw[bAZ];have e:((λx:Key × V=>x.1) ∘ λc:Str × Str=>((Sum.inr c.1:Key),V.str c.2))=(λn:Str=>(Sum.inr n:Key)) ∘ λc:Str × Str=>c.1:=rfl;rw[e,<-bAZ];exact List.pairwise_map.mpr (h.imp λa z=>a (Sum.inr.inj z))
theorem aRn (n:Str):∀hd:Hdr,tZ (hdK hd) (Sum.inr n)=(look hd n).map V.str
 |[]=>rfl
 |c::r=>by
  show tZ (((Sum.inr c.1:Key),V.str c.2)::hdK r) (Sum.inr n)=_;unfold look;rw[bCE];by_cases e:c.1=n
  ·rw[uW (by rw[e]),v9 e];rfl
  ·rw[wF (by intro z;exact e (Sum.inr.inj z)),m9 e];exact aRn n r
def aDb {X:Cx}{scope:Scope}{N:List Str}{tl:TE}{σ:L2.St}{H:Hp}{Q:VK}{b:Addr}{us:List V}{cs:Hdr}(n:H b=some (.lst us))(s:cN (IsC K H) us cs)(h8:cs.length<=100)(A:Cap X scope N σ [none,none])(E:∀R:VK,R (.ref b) H->tl σ H R)
  (q:∀D H',H D=none->Same H H'->H' D=some (.lst ((cs.map (·.1)).map V.str))->Q (.ref D) H'):mU X scope N (aHy K tl) (aI3 K 2 (uN (cY 0) (uN (cY 1) aPp))) zR (iK 0) σ H Q:=by
 have I:=s.len;refine aE6 [none,none] A (E _ ⟨b,rfl,⟨_,SqL.of n⟩,aEq Same (xA H) us (λ_=>true) (λi _ y=>∃c,cs[i]?=some c/\y=.str c.1) (λ_ _ h=>h) (λ_ _ _ h=>h) (λi σ=>∃c,cs[i]?=some c/\At2 [none,none] (.str c.1) (.str c.2) σ) (Ps2 [none,none]) ⟨none,none,rfl⟩ (small (by lia)) _ (aLa λH' a=>SqL.of (a _ _ n)) (aCf λH' a=>SqL.of (a _ _ n)) (λi x G H' F j e a o=>?_) (λi x g j m H' R a r=>r _ (Same.refl _)) (λi x g j m _ H' R a r=>?_) λD B J u w k d=>?_⟩)
 ·obtain⟨c,f,p,rfl,t⟩:=gJ s j;exact hg2 (a.aV t) e fun g z C=>o g z ⟨c,f,C⟩
 ·obtain⟨c,f,rfl⟩:=m;exact⟨_,rfl,r _ _ (Same.refl H') ⟨c,f,rfl⟩⟩
 ·rw[uZ] at d;obtain⟨l,v⟩:=tW d;rw[aMi (by lia) v] at k;exact q D B w u k
inductive aH6 (K:bFQ)(vs:List V)(H:Hp)(Q:VK)(E_:XK):Prop
 |mk (a N:Addr) (vq vh:V) (q:Qn) (hd:Hdr) (ns:List Str) (hs:Str->Option Hdr) (_:vs=[.ref a,vq,vh,.ref N]) (_:mQ H a) (_:N≠a) (_:IsQ K H vq q) (_:nG K H vh hd) (_:aBh hd) (_:HQ hs q hd) (_:H N=some (.lst (ns.map V.str))) (_:nM ns) (_:∀p H' v1 v2 q' hd',Fx a H H'->H' p=some (.tup [v1,v2])->IsQ K H' v1 q'->nG K H' v2 hd'->HQ hs q' hd'->aBh hd'->size q'<=size q+1->Q (.ref p) H')
abbrev lmW:List V:=[.str "least",.str "most"]
def aG0 (T:!Txt)(kI:!Ok 2 "_law_some" o8 (aEc K))(bo:!Ok 2 "_law_sums" bQB (aM4 K)) :
  !Ok 3 "_law_group" o5 (aH6 K):=by
 refine Ok.ofV T.aKs rD (by trivial) (λf bf A b0 s H vs Q E hr h=>?_)
 obtain⟨a,N,vq,vh,q0,hd,ns,hs,rfl,B,aw,hq,hh,af,b4,hN,hn,q⟩:=h;have hu:=aOd hr;have bt:=rD.nd;refine⟨_,(aA (aQ 4 (cL gZ (bY kI (aG (vv 0) (aG (vv 2) (va1 aD)))) dY (cP aD))) (aA (aQ 5 (bK cA (by rfl) T.cW cG (va1 (gM (N:=bQR) ck lA rfl (qF (vv 4)) (λcl s' g fp=>⟨(nQ (K:=K) (n:=2) rfl (aY (jW 0) (aY (jW 1) eN))),jK,(vv 0)⟩))))) (aA (zV (i0:=6) rD.nd rfl (by trivial) (N:=["_law_name","_law_some_here"]) ck (lW (aC tM)) rfl (qF (cL gZ (vv 3) (cP aD) dY)) (λcl s' g fp=>⟨(jW 0),(aB2 (xD (yH (K:=K)) (vv 0) (vv 1) (by with_unfolding_all rfl))),(vv 0)⟩)) (aA (aQ 7 (bY bo (aG (vv 0) (aG (vv 2) (va1 (vv 6)))))) (aA (jY PassesOwn.never rfl (lC (vv 7)) (lV rfl (aY (dZ 8) (aY (dZ 9) (aY (dZ 10) eN)))) (aA (aQ 11 aF) (aA (bH (xD tE (vv 8) (aW (aG aF (va1 aF))) (by with_unfolding_all rfl)) (aB (aQ 11 (aR3 hu (bK (aO5 rfl) (by rfl) T.bD9 bBg (va1 (vv 2))) (vv 9) (λ_ _=>rfl)))) aP) (aB (dD (iB PySem.F.plainAttrs_list PySem.F.slot_list_append PySem.F.type_list_append eF (vv 4) (va1 (aW (aG (vv 10) (va1 (vv 11))))))))))) (aB (aK (aW (aG (aW (aG aF (aG (vv 1) (aG (vv 5) (va1 (vv 7)))))) (va1 (bK cA (by rfl) T.cW cG (va1 (vv 4))))))))))))),?_⟩;obtain⟨⟨nd,l1,l8⟩,hc⟩:=id af;refine⟨_,rfl,_,rfl,a,vh,hd,0,rfl,B,hh,⟨nd,l1,l8⟩,by decide,λD H1 us a7 f1 fD g1 ay ag _=>?_⟩;refine⟨_,rfl,D,_,rfl,SqL.of g1,λp H2 fp s2 g2=>?_⟩;rw[show (6:Int)=((6:Nat):Int) from rfl,aEb] at g2;have b7:=f1.sm s2;have G:cN (IsC K H2) (us.take 6) (a7.take 6):=aB6 (ay.imp λ_ _ h=>h.same s2) 6;have d:=ag.take 6;have ar:H p=none:=f1.free fp;have C:p≠a:=B.ne ar;generalize us.take 6=zs at g2 G;have l6:(a7.take 6).length<=6:=by rw[bAU];lia
 generalize a7.take 6=hz at G d l6;have lz:=G.len;have am:∀c∈hz,Nm c.1/\aDv c.2:=λc h=>hc c (d.1 c h)
 try dsimp only[cY,rF,vH,tCB,eE]
 refine aDb g2 G (by lia) oJ (λR r=>⟨_,rfl,r⟩) λD3 H3 bm s3 g3=>?_;refine⟨D3,_,rfl,SqL.of g3,λt4 H4 bl s4 g4=>?_⟩;have a4:=(b7.sm s3).sm s4;have bc:=(s3.trans s4) _ _ g2
 try dsimp only[cY,rF,vH]
 refine aE2 (K:=K) (U:=.ref t4) (used:=hz.map (·.1)) hn ?_ (λR r=>?_) (λn l g R s' r=>?_) λF H5 fF s5 gF=>?_
 ·exact tV 5 (by trivial) rfl rfl (by trivial)
 ·refine⟨_,rfl,_,rfl,N,_,rfl,SqL.of (a4.same _ _ aw hN),λp' g b6 s' g'=>r p' g b6 s' ?_⟩;rw[g',show (3:Int)=((3:Nat):Int) from rfl,aH7,List.map_drop]
 ·refine⟨_,rfl,_,rfl,t4,_,rfl,.inr (SqT.of (s' _ _ g4)),rfl,aE0,_,rfl,?_⟩;rw[oA];exact r g (Same.refl g)
 obtain⟨as,W,X,a8⟩:=aOk (used:=hz.map (·.1)) hn;rw[j5] at X;generalize br:mJ ns (hz.map (·.1))=fr at gF as W X a8;have L:=a4.sm s5;have ax:F≠a:=a4.st.ne fF
 try dsimp only[cY]
 refine⟨_,rfl,_,rfl,_,rfl,a,F,vh,hd,fr,rfl,L.st,hh.tk (L.tk B),af,gF,ax,by lia,λn h=>(W n h).1,λbk H6 o O f6 b9 a9 a0 au=>?_⟩;obtain⟨⟨sa,xs,rfl,a5,a1⟩,bj,bq⟩:=b9;have bi:=a1.len;have be:=a9.len;have aa:=L.trans f6;have b1:=f6.same _ _ C (s5 _ _ bc);obtain⟨ai,an,rfl,bd,ab⟩:=id hh;have bg:=ab.len;refine⟨_,rfl,sa,rfl,⟨_,a5⟩,tK (xs:=xs) (λi σ g=>(Fx a H g/\TK K H6 g)/\∃(ws:List V) (l8 l9 l10 l11:Option V),g p=some (.lst (zs++ws))/\ws.length=i/\cN (IsC K g) ws (((o.map Sm.new).zip O).take i)/\σ=[some (.ref a),some vq,some (.ref ai),some (.ref N),some (.ref p),some (.ref t4),some (.ref F),some (.ref sa),l8,l9,l10,l11]) ⟨⟨aa,λ_ _ e=>e⟩,[],_,_,_,_,by rw[bAJ];exact b1,rfl,.nil,rfl⟩ (λi σ g _ ⟨e,_⟩=>e.2 _ _ a5) ?_ ?_⟩
 ·rintro i x σ g hx ⟨⟨fl,tk6⟩,ws,l8',l9,l10,l11,gp,lws,hws,rfl⟩;obtain⟨M,t,ak⟩:=gJ a1 hx;obtain⟨j,ao,v,b8⟩:=gJ a9 t;have hi:i<o.length:=(List.getElem?_eq_some_iff.mp t).1;have b2:aDv j:=au M j (bAQ (List.getElem?_zip_eq_some.mpr ⟨t,ao⟩));obtain⟨b,rfl,bn,a3⟩:=ak;have b5:((o.map Sm.new).zip O).take (i+1)=((o.map Sm.new).zip O).take i++[(M.new,j)]:=by have e:((o.map Sm.new).zip O)[i]?=some (M.new,j):=List.getElem?_zip_eq_some.mpr ⟨by rw[bAD,t];rfl,ao⟩;rw[bCI,e];rfl
  have al:∀Hc,Fx a g Hc->∀m I,Hc m=none->Same Hc I->I m=some (.tup [.str M.new,.str j])->I p=some (.lst (zs++ws))/\(Fx a H (upd I p (.lst (zs++ws++[V.ref m])))/\TK K H6 (upd I p (.lst (zs++ws++[V.ref m]))))/\(ws++[V.ref m]).length=i+1/\cN (IsC K (upd I p (.lst (zs++ws++[V.ref m])))) (ws++[V.ref m]) (((o.map Sm.new).zip O).take (i+1)):=by
   intro Hc fc m I J Y gy;have ac:=fc.same _ _ C gp;have a6:=Y _ _ ac;have bb:m≠p:=(aX ac J).symm;refine⟨a6,⟨((fl.trans fc).sm Y).upd ar C,λ_ _ e=>(Y.aV (fc.aV fl.st (tk6 _ _ e))).aFt a6⟩,by rw[j6,lws];rfl,?_⟩
   ·rw[b5];exact (hws.imp λ_ _ h=>(h.tk ((fc.sm Y).tk fl.st)).tk λ_ _ e=>e.aFt a6).app (.cons ⟨m,rfl,SqT.of (by rw[aR bb];exact gy)⟩ .nil)
  have ap:∃cv,SqT K H6 b [.str M.wd,cv,.str M.new]/\((inV (.str M.wd) lmW=true/\∃c,cv=.str c/\look hd c=some j)\/(inV (.str M.wd) lmW=false/\j = "number")):=by
   rcases a3 with⟨e,ec,hb⟩|⟨c,ec,hcn,hwd,hb⟩
   ·refine⟨_,by rw[e];exact hb,.inr ⟨by rw[e];decide +kernel,?_⟩⟩;unfold smK at v;rw[ec] at v;exact (bAM v).symm
   ·have S:look hd c=some j:=by unfold smK at v;rw[ec] at v;exact v
    refine⟨_,hb,?_⟩;rcases hwd with e|e|e
    ·refine .inr ⟨by rw[e];decide +kernel,?_⟩;rcases b2 with z|z
     ·exact z
     ·exact absurd z (b8 e)
    ·exact .inl ⟨by rw[e];decide +kernel,c,rfl,S⟩
    ·exact .inl ⟨by rw[e];decide +kernel,c,rfl,S⟩
  obtain⟨cv,hb,az⟩:=ap;refine⟨b,_,rfl,tk6 _ _ hb,rfl,_,_,rfl,_,_,rfl,_,_,rfl,rfl,?_⟩;refine⟨_,rfl,sz2,λtt Ht bp st gt=>⟨tt,lmW,rfl,.inr (SqT.of gt),rfl,rfl,_,rfl,?_⟩⟩;have a2:Fx a g Ht:=.of fl.st st;rcases az with⟨ew,c,rfl,S⟩|⟨ew,rfl⟩
  ·show if inV (.str M.wd) lmW=true then _ else _
   rw[ew];refine bV ?_;have aq:cN (IsC K Ht) an hd:=ab.imp λ_ _ h=>h.tk λ_ _ e=>st.aV (tk6 _ _ (aa.tk B _ _ e));refine⟨_,rfl,ai,_,_,rfl,st.aV (tk6 _ _ (aa.tk B _ _ bd)),bDx aq,by lia,λdd Hd bh sd gd=>?_⟩;rw[aTh (bFi nd)] at gd;refine⟨_,rfl,dd,.str j,rfl,?_,?_⟩
   ·have hg:=aL1.k (k:=(Sum.inr c:Key)) gd;rw[aRn,S] at hg;exact hg
   ·have ah:Fx a g Hd:=a2.sm sd;refine⟨_,rfl,.inl ⟨rfl,_,SqL.of (ah.same _ _ C gp)⟩,_,rfl,_,rfl,sz2,λm I J Y gy=>?_⟩;obtain⟨k1,k2,k3,k4⟩:=al Hd ah m I J Y gy;exact⟨p,_,_,rfl,rfl,k1,eG (by rw[j6];lia),k2,ws++[V.ref m],_,_,_,_,by rw[<-bAB];exact aJ,k3,k4,rfl⟩
  ·show if inV (.str M.wd) lmW=true then _ else _
   rw[ew];refine aZ ?_;refine⟨_,rfl,.inl ⟨rfl,_,SqL.of (a2.same _ _ C gp)⟩,_,rfl,_,rfl,sz2,λm I J Y gy=>?_⟩;obtain⟨k1,k2,k3,k4⟩:=al Ht a2 m I J Y gy;exact⟨p,_,_,rfl,rfl,k1,eG (by rw[j6];lia),k2,ws++[V.ref m],_,_,_,_,by rw[<-bAB];exact aJ,k3,k4,rfl⟩
 ·rintro σ g ⟨⟨fl,tk6⟩,ws,l8',l9,l10,l11,gp,lws,hws,rfl⟩;have bs:((o.map Sm.new).zip O).length=o.length:=by rw[List.length_zip,j5];lia
  rw[bBK (by lia)] at hws;have Z:((o.map Sm.new).zip O).map (·.1)=o.map Sm.new:=List.map_fst_zip (by rw[j5];lia);have aj:Good (hz++(o.map Sm.new).zip O):=by refine⟨?_,by rw[j6];lia,by rw[j6];lia⟩;rw[bAH,Z,a0,bFN];refine⟨d.2.1,as.sublist (bBV _ _),λx hx y hy e=>?_⟩;subst e;exact (W x (bCU hy)).2 hx
  refine⟨_,rfl,_,rfl,_,rfl,sz4,λqj H7 _ s7 g7=>⟨_,rfl,p,_,rfl,SqL.of (s7 _ _ gp),λt8 H8 _ s8 g8=>⟨sz2,λp9 H9 _ s9 g9=>?_⟩⟩⟩;have t9:=s7.trans (s8.trans s9);have ae:=fl.sm t9;have b3:TK K H H9:=ae.tk B;have u:TK K H6 H9:=λ_ _ e=>t9.aV (tk6 _ _ e);have ad:TK K H2 H9:=λ_ _ e=>u _ _ (f6.aV L.st (s5.aV (s4.aV (s3.aV e))));have av:TK K H4 H9:=λ_ _ e=>u _ _ (f6.aV L.st (s5.aV e));refine q p9 H9 _ _ (.group q0 (hz.map (·.1)) o) (hz++(o.map Sm.new).zip O) ae g9 ?_ ?_ ?_ ⟨aj,λc hcm=>?_⟩ (v7 _)
  ·refine .group (SqT.of ((s8.trans s9) _ _ g7)) (hq.tk b3) (oZ (av _ _ (SqT.of g4)) (λn ba=>?_) (bAK _) (by rw[j5];lia)) ⟨⟨sa,xs,rfl,u _ _ a5,a1.imp λ_ _ h=>h.tk u⟩,bAK _,by lia⟩;obtain⟨c,hcm,rfl⟩:=List.mem_map.mp ba;exact (am c hcm).1
  ·exact⟨t8,_,rfl,SqT.of (s9 _ _ g8),(G.imp λ_ _ h=>h.tk ad).app (hws.imp λ_ _ h=>h.same t9)⟩
  ·have h:=HH.group (hs:=hs) (q:=q0) (aBl nd d.1) a9;rw[zip_fst_snd] at h;exact .mk1 rfl b4 h aj
  ·rcases List.mem_append.mp hcm with hcm|hcm
   ·exact am c hcm
   ·refine⟨(W c.1 (bCU (l:=fr) (i:=o.length) ?_)).1,?_⟩
    ·rw[<-a0,<-Z];exact List.mem_map.mpr ⟨c,hcm,rfl⟩
    ·rw[List.zip_map_left] at hcm;obtain⟨⟨s',j'⟩,hm,rfl⟩:=List.mem_map.mp hcm;exact au s' j' hm
def aDo (ts:List (Str × Hdr))(n:Str):Option Hdr:=(ts.find? λt=>decide (t.1=n)).map (·.2)
def aYy (K:bFQ)(H:Hp)(d:Addr)(ts:List (Str × Hdr)):Prop:=∃kvs,H d=some (.dK kvs)/\cN (λkv t=>kv.1=Sum.inr t.1/\nG K H kv.2 t.2) kvs ts
structure bGp (ts:List (Str × Hdr)):Prop where
 nd:(ts.map (·.1)).Nodup
 nm:∀t∈ts,Nm t.1/\aBh t.2
 l1:1<=ts.length
 l3:ts.length<=3
def aYy.fx (h:aYy K H d ts)(hs:mQ H a)(f:Fx a H H'):aYy K H' d ts:=by obtain⟨b,c,g⟩:=h;obtain⟨i,e,_⟩:=id hs;exact⟨b,f.same d _ (aCx c e (by intro z;cases z)) c,g.imp λ_ _ q=>⟨q.1,q.2.tk (f.tk hs)⟩⟩
def aIb (h:cN (λ(kv:Key × V) (t:Str × Hdr)=>kv.1=Sum.inr t.1/\nG K H kv.2 t.2) kvs ts):kvs.map (·.1)=(ts.map (·.1)).map λn=>(Sum.inr n:Key):=by
 induction h with
 |nil=>rfl
 |cons r _ ih=>rw[bAE,bAE,bAE,ih,r.1]
def aNk (h:cN (λ(kv:Key × V) (t:Str × Hdr)=>kv.1=Sum.inr t.1/\nG K H kv.2 t.2) kvs ts)(n:Str)(hd:Hdr):aDo ts n=some hd->∃v,tZ kvs (Sum.inr n)=some v/\nG K H v hd:=by
 induction h with
 |nil=>intro e;cases e
 |@cons kv t kvs ts r _ ih=>
  intro e;unfold aDo at e;rw[bCE] at e;by_cases a:t.1=n
  ·rw[v9 a] at e;have e:=bAM e;exact⟨kv.2,uW (by rw[r.1,a]),by rw[<-e];exact r.2⟩
  ·rw[m9 a] at e;rw[wF (by rw[r.1];intro z;exact a (Sum.inr.inj z))];exact ih e
def wN (a:(ts.map (·.1)).Nodup)(h:t∈ts):aDo ts t.1=some t.2:=by
 induction ts with
 |nil=>cases h
 |cons x r ih=>
  rw[bAE,bFB] at a;unfold aDo;rw[bCE];rcases List.mem_cons.mp h with rfl|h
  ·rw[v9 rfl];rfl
  ·rw[m9 (λz=>a.1 (by rw[z];exact List.mem_map.mpr ⟨t,h,rfl⟩))];exact ih a.2 h
def bnd:Nat->Nat
 |0=>1
 |1=>5
 |_=>13
theorem aRp:∀m,1<=bnd m
 |0=>by decide
 |1=>by decide
 |_+2=>by show 1<=13;decide
theorem aWs:∀{m},m<=1->bnd m+4<=bnd (m+1)
 |0,_=>by decide
 |1,_=>by decide
 |_+2,h=>by lia
inductive bCc (K:bFQ)(n:Nat)(vs:List V)(H:Hp)(Q:VK)(E_:XK):Prop
 |mk (a d N:Addr) (m:Nat) (ts:List (Str × Hdr)) (ns:List Str) (_:vs=[.ref a,.ref d,.ref N,.int (m:Nat)]) (_:m<n) (_:m<=2) (_:mQ H a) (_:N≠a) (_:aYy K H d ts) (_:bGp ts) (_:H N=some (.lst (ns.map V.str))) (_:nM ns) (_:∀p H' v1 v2 q' hd',Fx a H H'->H' p=some (.tup [v1,v2])->IsQ K H' v1 q'->nG K H' v2 hd'->HQ (aDo ts) q' hd'->aBh hd'->size q'<=bnd m->Q (.ref p) H')
def turned (ns:List Str)(t n:Nat):List Str:=(List.range n).map λi=>ns.getD (3+(t+i) % 14) ""
def aTc (h:nM ns)(t:Nat)(hn:n<=14):(turned ns t n).Nodup/\∀x∈turned ns t n,Nm x:=by
 have b:∀i,ns.getD (3+(t+i) % 14) ""∈ns/\ns[3+(t+i) % 14]?=some (ns.getD (3+(t+i) % 14) ""):=λi=>by
  have a:3+(t+i) % 14<ns.length:=by rw[h.1];lia
  rw[bBF,d7 a];exact⟨bCG a,rfl⟩
 refine⟨?_,λx f=>?_⟩
 ·refine List.pairwise_map.mpr (bEF ?_ List.nodup_range);intro i j a c k e;have a:=List.mem_range.mp a;have c:=List.mem_range.mp c;have g:=(b i).2;have d:=(b j).2;rw[<-e] at d;have:=aQn h.2.2 g d;lia
 ·obtain⟨i,_,rfl⟩:=List.mem_map.mp f;exact h.2.1 _ (b i).1
def aUu (h:nM ns)(e:(turned ns t n)[i]?=some x):ns[3+(t+i) % 14]?=some x:=by
 have b:i<n:=by have:=(List.getElem?_eq_some_iff.mp e).1;simpa [turned] using this
 unfold turned at e;rw[bAD,bCK b] at e;have e:ns.getD (3+(t+i) % 14) ""=x:=bAM e;have a:3+(t+i) % 14<ns.length:=by rw[h.1];lia
 rw[bBF,d7 a] at e;rw[d7 a];exact congrArg some e
def aWl (e:((List.range n).map λi:Nat=>V.int (0+(i:Int)))[i]?=some x):i<n/\x=.int (0+(i:Int)):=by
 have a:i<n:=by have:=(List.getElem?_eq_some_iff.mp e).1;rw[j5,bAN] at this;exact this
 rw[bAD,bCK a] at e;exact⟨a,(bAM e).symm⟩
theorem sU (T:!Txt)(aL:!Ok 1 "_law_next" m7 jA)(kI:!Ok 2 "_law_some" o8 (aEc K))(c3:!Ok 3 "_law_keys" o9 (aOg K))
  (c4:!Ok 4 "_law_tests" o9 (aIr K)) (br:!Ok 3 "_law_group" o5 (aH6 K))
  (c5:!Ok 2 "_law_join" m8 (aNe K)) :
  ∀n:Nat,!Ok (n+6) "_law_question" z8 (bCc K n)
 |0=>by
  refine Ok.ofV T.uK jD (λvs H Q E h=>?_) (λf bs A aq s H vs Q E Z h=>?_)
  ·obtain⟨a,d,N,m,ts,ns,rfl,_⟩:=h;rfl
  ·obtain⟨a,d,N,m,ts,ns,rfl,hm,_⟩:=h;lia
 |n+1=>by
  have jP:=sU T aL kI c3 c4 br c5 n;refine Ok.ofV T.uK jD (λvs H Q E h=>?_) (λf bs A aq s H vs Q E Z h=>?_)
  ·obtain⟨a,d,N,m,ts,ns,rfl,_⟩:=h;rfl
  obtain⟨a,d,N,m,ts,ns,rfl,cw,cj,L,J,hD,j,hN,hn,q⟩:=h;have hu:=aOd Z;have cx:=jD.nd;refine⟨_,(aA (bH (VW.pt (uQ (cU cV (vv 3) aD) (pA (cU cV (iR (aL.mono (by lia)) Z (by rfl) (aG (vv 0) (va1 aD))) aD)))) (aA (aQ 4 (cR dF (aU (aQ0 rfl) (by rfl) T.aYp aS1 (va1 (vv 1))) (iR (aL.mono (by lia)) Z (by rfl) (aG (vv 0) (va1 (aU aUr (by rfl) T.fX dJ (va1 (vv 1)))))))) (aB (aK (aW (aG (aW (aG aF (va1 (vv 4)))) (va1 (aR3 hu (vv 1) (vv 4) (λ_ _=>rfl)))))))) aP) (aA (aQ 5 (iR (aL.mono (by lia)) Z (by rfl) (aG (vv 0) (va1 aD)))) (aA (vJ (iR (jP.mono (by lia)) Z (by rfl) (aG (vv 0) (aG (vv 1) (aG (vv 2) (va1 (aO aBt (vv 3) aD)))))) (lV rfl (aY (dZ 6) (aY (dZ 7) eN)))) (aA (bH (cU cV (vv 5) aD) (aB (aK (aW (aG (aW (aG aF (aG (vv 6) (va1 (iR (c4.mono (by lia)) Z (by rfl) (aG (vv 0) (va1 (vv 7)))))))) (va1 (vv 7)))))) aP) (aA (bH (cU cV (vv 5) aD) (aA (aQ 8 (iR (kI.mono (by lia)) Z (by rfl) (aG (vv 0) (aG (vv 7) (va1 aD))))) (aB (aK (aW (aG (aW (aG aF (aG (vv 6) (va1 (bK cA (by rfl) T.cW cG (va1 (gM (N:=bQR) ck lA rfl (qF (vv 8)) (λcl s' H' fp=>⟨(nQ (K:=K) (n:=2) rfl (aY (jW 0) (aY (jW 1) eN))),jK,(vv 0)⟩)))))))) (va1 (bK cA (by rfl) T.cW cG (va1 (vv 8))))))))) aP) (aA (bH (cU cV (vv 5) aD) (aA (aQ 9 (iR (aL.mono (by lia)) Z (by rfl) (aG (vv 0) (va1 aD)))) (aA (aQ 10 (gM (N:=["_law_k","_law_names_here","_law_turn"]) ck (lW (aC jR)) rfl (gV (by rfl) T.lG (va1 (aU bD (by rfl) T.fX dJ (va1 (vv 7))))) (λcl s' H' fp=>⟨(jW 0),jK,(cR (aAl (K:=K)) (vv 1) (aO dR aD (aO zJ (aO dR (vv 2) (vv 0)) aD)))⟩))) (aA (zV (i0:=11) jD.nd rfl (by trivial) (N:=bQO) ck (lW (aC jR)) rfl (gV (by rfl) T.lG (va1 (aU bD (by rfl) T.fX dJ (va1 (vv 7))))) (λcl s' H' fp=>⟨(jW 0),jK,(aW (aG (cR (aAl (K:=K)) (vv 1) (vv 0)) (va1 (cR (wW (K:=K)) (cR (wW (K:=K)) (vv 2) (vv 0)) aD))))⟩)) (aB (aK (aW (aG (aW (aG aF (aG (vv 6) (va1 (bK cA (by rfl) T.cW cG (va1 (vv 10))))))) (va1 (bK cA (by rfl) T.cW cG (va1 (vv 11))))))))))) aP) (aA (bH (cU cV (vv 5) aD) (aA (vJ (iR (jP.mono (by lia)) Z (by rfl) (aG (vv 0) (aG (vv 1) (aG (vv 2) (va1 (bK xC (by rfl) T.aHp aBz (va1 (aDs cV (vv 3) aD)))))))) (lV rfl (aY (dZ 12) (aY (dZ 13) eN)))) (aB (aK (iR (c5.mono (by lia)) Z (by rfl) (aG (vv 0) (aG (vv 6) (aG (vv 7) (aG (vv 12) (aG (vv 13) (va1 (vv 2))))))))))) aP) (aA (bH (cU cV (vv 5) aD) (aB (aK (iR (br.mono (by lia)) Z (by rfl) (aG (vv 0) (aG (vv 6) (aG (vv 7) (va1 (vv 2)))))))) aP) (aB (aK (aW (aG (aW (aG aF (aG (vv 6) (aG (iR (c3.mono (by lia)) Z (by rfl) (aG (vv 0) (va1 (vv 7)))) (va1 (iR (aL.mono (by lia)) Z (by rfl) (aG (vv 0) (va1 aD)))))))) (va1 (vv 7)))))))))))))),?_⟩;refine⟨_,rfl,rfl,_,rfl,?_⟩;by_cases em:m=0
  ·have e:decide (V.int (m:Int)=V.int 0)=true:=by rw[em];rfl
   rw[e];refine bV ?_;have f1:Fx a H H:=.refl L;obtain⟨W,a5,a8⟩:=hD.fx L f1;have as:=a8.len;obtain⟨bp,cd⟩:=And.intro j.l1 j.l3;refine⟨_,rfl,d,W,_,rfl,a5,aIb a8,by lia,λB H2 ss fB s2 hp g2=>⟨_,rfl,_,rfl,d,W,rfl,s2 _ _ a5,a,_,rfl,f1.st.same s2,(by show (0:Int)<(W.length:Int);lia),λk H3 f3 k0 k1=>?_⟩⟩;have a6:=hp.length_eq;rw[j5] at a6;obtain⟨u,ap,b5⟩:=at_of (xs:=ss.map V.str) k0 (by rw[j5,a6,<-as];exact k1);obtain⟨nm,b4,rfl⟩:=List.mem_map.mp b5;obtain⟨t,C,rfl⟩:=List.mem_map.mp (hp.mem_iff.mp b4);have aw:B≠a:=f1.st.ne fB;refine⟨B,_,_,_,rfl,rfl,SqL.of (f3.same _ _ aw g2),ap,?_⟩;have b:=(f1.sm s2).trans f3;obtain⟨bi,ab,ac⟩:=hD.fx L b;obtain⟨v,hv,ax⟩:=aNk ac t.1 t.2 (wN j.nd C);refine⟨_,rfl,sz2,λt4 H4 _ s4 g4=>⟨_,rfl,_,rfl,d,v,rfl,?_,sz2,λp5 H5 _ S g5=>?_⟩⟩
   ·have hg:=aL1.k (k:=(Sum.inr t.1:Key)) (s4 _ _ ab);rw[hv] at hg;exact hg
   ·exact q p5 H5 _ _ (.table t.1) t.2 (b.sm (s4.trans S)) g5 (.table (SqT.of (S _ _ g4)) (j.nm t C).1) (ax.same (s4.trans S)) (.mk0 rfl (.table (wN j.nd C)) (j.nm t C).2.1) (j.nm t C).2 (aRp m)
  have e:decide (V.int (m:Int)=V.int 0)=false:=m9 (by intro z;have:=V.int.inj z;lia);rw[e];refine aZ ?_;refine⟨_,rfl,a,6,rfl,L,by decide,λd0 H1 f1 _ _=>⟨rfl,_,rfl,?_⟩⟩;refine qY (λ_=>?_) (λ_=>?_)
  ·obtain⟨W,a5,a8⟩:=hD.fx L f1;have as:=a8.len;obtain⟨bp,cd⟩:=And.intro j.l1 j.l3;refine⟨_,rfl,d,W,_,rfl,a5,aIb a8,by lia,λB H2 ss fB s2 hp g2=>⟨_,rfl,_,rfl,d,W,rfl,s2 _ _ a5,a,_,rfl,f1.st.same s2,(by show (0:Int)<(W.length:Int);lia),λk H3 f3 k0 k1=>?_⟩⟩;have a6:=hp.length_eq;rw[j5] at a6;obtain⟨u,ap,b5⟩:=at_of (xs:=ss.map V.str) k0 (by rw[j5,a6,<-as];exact k1);obtain⟨nm,b4,rfl⟩:=List.mem_map.mp b5;obtain⟨t,C,rfl⟩:=List.mem_map.mp (hp.mem_iff.mp b4);have aw:B≠a:=f1.st.ne fB;refine⟨B,_,_,_,rfl,rfl,SqL.of (f3.same _ _ aw g2),ap,?_⟩;have b:=(f1.sm s2).trans f3;obtain⟨bi,ab,ac⟩:=hD.fx L b;obtain⟨v,hv,ax⟩:=aNk ac t.1 t.2 (wN j.nd C);refine⟨_,rfl,sz2,λt4 H4 _ s4 g4=>⟨_,rfl,_,rfl,d,v,rfl,?_,sz2,λp5 H5 _ S g5=>?_⟩⟩
   ·have hg:=aL1.k (k:=(Sum.inr t.1:Key)) (s4 _ _ ab);rw[hv] at hg;exact hg
   ·exact q p5 H5 _ _ (.table t.1) t.2 (b.sm (s4.trans S)) g5 (.table (SqT.of (S _ _ g4)) (j.nm t C).1) (ax.same (s4.trans S)) (.mk0 rfl (.table (wN j.nd C)) (j.nm t C).2.1) (j.nm t C).2 (aRp m)
  refine⟨_,rfl,a,6,rfl,f1.st,by decide,λcm H2 f2 w0 w1=>?_⟩;have ad:=f1.trans f2;obtain⟨m',rfl⟩:∃m',m=m'+1:=⟨m - 1,by lia⟩;have cb:(((m'+1:Nat):Int) - 1)=(m':Nat):=by lia
  refine⟨_,rfl,_,rfl,_,rfl,_,rfl,_,_,rfl,rfl,a,d,N,m',ts,ns,?_,by lia,by lia,ad.st,J,hD.fx L ad,j,ad.same _ _ J hN,hn,λr H3 v1 v2 q1 g f3 g3 a4 O I o co=>?_⟩
  ·exact congrArg (λz=>[V.ref a,V.ref d,V.ref N,V.int z]) cb
  have b:=ad.trans f3;refine⟨r,_,rfl,SqT.of g3,rfl,_,_,rfl,_,_,rfl,rfl,?_⟩;obtain⟨⟨cc,l1,l8⟩,b9⟩:=id o;have bm:m'<=1:=by lia
  have cp:=aWs bm;refine⟨_,rfl,rfl,_,rfl,qY (λ_=>?_) (λ_=>?_)⟩
  ·refine⟨_,rfl,_,rfl,_,rfl,a,v2,g,rfl,b.st,O,o,λvt H4 b8 U an bf=>⟨sz3,λt5 H5 _ S g5=>⟨_,rfl,sz2,λp6 H6 _ s6 g6=>?_⟩⟩⟩;have ao:=S.trans s6;have aj:TK K H3 H6:=λ_ _ e=>ao.aV (U.aV b.st e);have al:TK K H4 H6:=λ_ _ e=>ao.aV e;refine q p6 H6 _ _ (.whr q1 b8) g ((b.trans U).sm ao) g6 (.whr (SqT.of (s6 _ _ g5)) (a4.tk aj) ?_) (O.tk aj) (.mk1 rfl I (.whr bf) o.1) o ?_
   ·obtain⟨x1,x2,x3⟩:=an.tk al (λh=>h.tk al);exact⟨x1,x2,by lia⟩
   ·show size q1+b8.length<=_;have:=an.2.2;lia
  refine⟨_,rfl,rfl,_,rfl,qY (λ_=>?_) (λ_=>?_)⟩
  ·refine⟨_,rfl,_,rfl,a,v2,g,1,rfl,b.st,O,o.1,by decide,λD H4 us M U fD g4 a3 Y bb=>?_⟩;have b3:=a3.len;have cn:=Y.2.2;refine⟨_,rfl,?_⟩
   try dsimp only[tCB,eE]
   refine aDb g4 a3 (by lia) oJ (λR r=>⟨_,rfl,r⟩) λD5 H5 _ S g5=>⟨D5,_,rfl,SqL.of g5,λt6 H6 _ s6 g6=>⟨sz3,λq7 H7 _ s7 g7=>⟨_,rfl,D,_,rfl,SqL.of ((S.trans (s6.trans s7)) _ _ g4),λt8 H8 _ s8 g8=>⟨sz2,λp9 H9 _ s9 g9=>?_⟩⟩⟩⟩;have au:=S.trans (s6.trans (s7.trans (s8.trans s9)));have bg:TK K H3 H9:=λ_ _ e=>au.aV (U.aV b.st e);have bj:Good M:=⟨Y.2.1,bb,by lia⟩;have be:∀c∈M,Nm c.1/\aDv c.2:=λc h=>b9 c (Y.1 c h);refine q p9 H9 _ _ (.keep q1 (M.map (·.1))) M ((b.trans U).sm au) g9 (.keep (SqT.of ((s8.trans s9) _ _ g7)) (a4.tk bg) (oZ (SqT.of ((s7.trans (s8.trans s9)) _ _ g6)) (λn c0=>?_) (by rw[j5];exact bb) (by rw[j5];lia))) ⟨t8,us,rfl,SqT.of (s9 _ _ g8),a3.imp λ_ _ h=>h.same au⟩ ?_ ⟨bj,be⟩ (by show size q1+1<=_;lia)
   ·obtain⟨c,av,rfl⟩:=List.mem_map.mp c0;exact (be c av).1
   ·have h:=HH.keep (hs:=aDo ts) (q:=q1) (aBl cc Y.1);rw[zip_fst_snd] at h;exact .mk1 rfl I h bj
  refine⟨_,rfl,rfl,_,rfl,qY (λ_=>?_) (λ_=>?_)⟩
  ·refine⟨_,rfl,a,14,rfl,b.st,by decide,λtz H4 U t0 t1=>?_⟩;obtain⟨tn,rfl⟩:∃tn:Nat,tz=tn:=⟨tz.toNat,by lia⟩;have a0:=b.trans U;obtain⟨hb,us,rfl,c1,a3⟩:=id O;have b3:=a3.len;have G:TK K H3 H4:=U.tk b.st;have ag:=G _ _ c1;have aa:(turned ns tn g.length).length=g.length:=by simp[turned]
   obtain⟨bd,b2⟩:=aTc hn tn (n:=g.length) (by lia)
   try dsimp only[cY,rF,vH]
   refine aJj ((List.range g.length).map λi:Nat=>V.int (0+(i:Int))) ((turned ns tn g.length).map V.str) (by rw[j5,j5,bAN,aa]) [none,some (.ref N),some (.int (tn:Nat))] ?_ (small (by rw[j5,bAN];lia)) (λR r=>aKl g.length (λR' r'=>⟨_,rfl,hb,_,rfl,.inr ag,by rw[<-b3] at r';exact r'⟩) (by lia) R r) (λi x y ex ey H' R l sm r=>?_) rfl λF H5 S g5=>?_
   ·refine⟨rfl,λi y v g X=>?_⟩
    match i,g,X with
    |0,_,X=>cases X
    |1,g,X=>cases g;cases X;exact⟨by trivial,2,rfl,rfl,by trivial⟩
    |2,g,X=>cases g;cases X;exact⟨by trivial,9,rfl,rfl,by trivial⟩
    |i+3,g,_=>cases g
   ·obtain⟨hi,rfl⟩:=aWl ex;obtain⟨fn,bu,rfl⟩:=aBy ey;have bq:ns[3+(tn+i) % 14]?=some fn:=aUu hn bu;refine⟨_,rfl,_,rfl,_,rfl,_,_,rfl,rfl,_,_,rfl,rfl,(by show (0:Int)<14;decide),_,_,rfl,rfl,N,_,_,_,rfl,rfl,SqL.of (sm _ _ (a0.same _ _ J hN)),?_,r _ (Same.refl H')⟩;have e:(3+((tn:Int)+(0+(i:Int))) % 14)=((3+(tn+i) % 14:Nat):Int):=by lia
    rw[e];exact fQ (by rw[bAD,bq];rfl)
   have bl:cN (IsC K H5) us g:=a3.imp λ_ _ h=>(h.tk G).same S;have af:=S.aV ag;generalize ci:turned ns tn g.length=fr at g5 aa bd b2
   try dsimp only[cY,rF,vH]
   refine aB8 ((List.range g.length).map λi:Nat=>V.int (0+(i:Int))) (lY K (List.zipWith (λn c=>(n,c.2)) fr g)) lY.st lY.su [none,some (.ref F),some (.ref hb)] ?_ (small (by rw[j5,bAN];lia)) (λR r=>aKl g.length (λR' r'=>⟨_,rfl,hb,_,rfl,.inr af,by rw[<-b3] at r';exact r'⟩) (by lia) R r) (λi x ex H' R l sm r=>?_) rfl λD7 H7 ys s7 g7 bx hR=>?_
   ·refine⟨rfl,λi y v g X=>?_⟩
    match i,g,X with
    |0,_,X=>cases X
    |1,g,X=>cases g;cases X;exact⟨by trivial,10,rfl,rfl,by trivial⟩
    |2,g,X=>cases g;cases X;exact⟨by trivial,7,rfl,rfl,by trivial⟩
    |i+3,g,_=>cases g
   ·obtain⟨hi,rfl⟩:=aWl ex;obtain⟨p',bt,cf⟩:∃p',us[i]?=some (.ref p')/\SqT K H5 p' [.str (g[i]'hi).1,.str (g[i]'hi).2]:=by
     have bo:i<us.length:=by lia
     obtain⟨c,ba,p',e1,e2⟩:=gJ bl (d7 bo);rw[d7 hi] at ba;cases ba;exact⟨p',by rw[d7 bo,e1],e2⟩
    have hF:i<fr.length:=by lia
    have a1:atI (fr.map V.str) (0+(i:Int))=some (.str (fr[i]'hF)):=by rw[bFF];exact fQ (by rw[bAD,d7 hF];rfl)
    have a2:atI us (0+(i:Int))=some (.ref p'):=by rw[bFF];exact fQ bt
    refine⟨_,rfl,_,rfl,F,_,_,_,rfl,rfl,SqL.of (sm _ _ g5),a1,_,rfl,_,rfl,hb,_,_,_,rfl,rfl,sm.aV af,a2,p',_,1,_,rfl,rfl,sm.aV cf,at1 _ _ _,sz2,λt H8 _ s8 g8=>r _ _ s8 ⟨(fr[i]'hF,(g[i]'hi).2),t,?_,rfl,g8⟩⟩;rw[bEO,d7 hF,d7 hi]
   rw[j5,bAN] at bx;have cu:(List.zipWith (λn c=>(n,c.2)) fr g).length=g.length:=by rw[bFC,aa,Nat.min_self]
   try dsimp only[cY]
   refine⟨_,rfl,_,rfl,F,_,rfl,SqL.of (s7 _ _ g5),λt8 H8 _ s8 g8=>⟨sz3,λq9 H9 _ s9 g9=>⟨_,rfl,D7,_,rfl,SqL.of ((s8.trans s9) _ _ g7),λc8 cv _ b1 ce=>⟨sz2,λc6 b6 _ ae bv=>?_⟩⟩⟩⟩;have am:=s8.trans (s9.trans (b1.trans ae));have ak:=S.trans (s7.trans am);have b0:TK K H3 b6:=λ_ _ e=>ak.aV (G _ _ e);have bn:Good (List.zipWith (λn c=>(n,c.2)) fr g):=⟨by rw[aGq aa];exact bd,by lia,by lia⟩;refine q c6 b6 (.ref q9) (.ref c8) (.nmd q1 fr) _ (a0.sm ak) bv (.nmd (SqT.of ((b1.trans ae) _ _ g9)) (a4.tk b0) (oZ (SqT.of ((s9.trans (b1.trans ae)) _ _ g8)) b2 (by lia) (by lia))) (aRy (SqT.of (ae _ _ ce)) (by lia) λi y e=>(hR i y e).st am) (.mk1 rfl I (.nmd aa) bn) ⟨bn,λx hx=>?_⟩ (by show size q1+1<=_;lia);obtain⟨c9,c,av,e⟩:=aJo hx;exact⟨b2 _ c9,by rw[e];exact (b9 c av).2⟩
  refine⟨_,rfl,rfl,_,rfl,qY (λ_=>?_) (λ_=>?_)⟩
  ·obtain⟨k,ek,cq,ct⟩:∃k:Nat,(if decide (V.int ((m'+1:Nat):Int)=V.int 2)=true then (1:Int) else 0)=(k:Nat)/\k<=m'/\bnd m'+bnd k+3<=bnd (m'+1):=by
    match m',bm with
    |0,_=>exact⟨0,by rw[m9 (by intro z;have:=V.int.inj z;lia)];rfl,v7 _,by decide⟩
    |1,_=>exact⟨1,by rw[v9 (show V.int ((1+1:Nat):Int)=V.int 2 from rfl)];rfl,v7 _,by decide⟩
   refine⟨_,rfl,_,rfl,_,rfl,_,rfl,rfl,.inr ⟨_,rfl,a,d,N,k,ts,ns,?_,by lia,by lia,b.st,J,hD.fx L b,j,b.same _ _ J hN,hn,λr2 H4 vo ch qo ho U g4 c2 bw bk b7 cr=>?_⟩⟩
   ·exact congrArg (λz=>[V.ref a,V.ref d,V.ref N,V.int z]) ek
   have a0:=b.trans U;refine⟨r2,_,rfl,SqT.of g4,rfl,_,_,rfl,_,_,rfl,rfl,?_⟩;have G:TK K H3 H4:=U.tk b.st;refine⟨_,rfl,_,rfl,_,rfl,_,rfl,_,rfl,_,rfl,a,N,v1,v2,vo,ch,q1,qo,g,ho,ns,aDo ts,rfl,a0.st,J,a4.tk G,O.tk G,o,I,c2,bw,b7,bk,a0.same _ _ J hN,hn,λp H' w1 w2 q' M f' g' ar ay a9 a7 cg=>q p H' _ _ q' M (a0.trans f') g' ar ay a9 a7 (by lia)⟩
  refine⟨_,rfl,rfl,_,rfl,qY (λ_=>?_) (λ_=>?_)⟩
  ·exact⟨_,rfl,_,rfl,_,rfl,_,rfl,a,N,v1,v2,q1,g,ns,aDo ts,rfl,b.st,J,a4,O,o,I,b.same _ _ J hN,hn,λp H' w1 w2 q' M f' g' ar ay a9 a7 cg=>q p H' _ _ q' M (b.trans f') g' ar ay a9 a7 (by lia)⟩
  ·refine⟨_,rfl,_,rfl,_,rfl,a,v2,g,rfl,b.st,O,o,λvk H4 ps ks U bz ca bc=>⟨_,rfl,a,7,rfl,(b.trans U).st,by decide,λmm H5 f5 m0 m1=>⟨sz4,λt6 H6 _ s6 g6=>⟨_,rfl,sz2,λp7 H7 _ s7 g7=>?_⟩⟩⟩⟩;obtain⟨mn,rfl⟩:∃mn:Nat,mm=mn:=⟨mm.toNat,by lia⟩;have bh:=U.trans f5;have az:=s6.trans s7;have ah:TK K H3 H7:=λ_ _ e=>az.aV (bh.aV b.st e);have ai:TK K H4 H7:=λ_ _ e=>az.aV (f5.aV (b.trans U).st e);refine q p7 H7 _ _ (.first q1 ps mn) g ((b.trans bh).sm az) g7 (.first (SqT.of (s7 _ _ g6)) (a4.tk ah) (bz.tk ai λh=>h.tk ai) (by lia)) (O.tk ah) (.mk1 rfl I (.first ca bc) o.1) o (by show size q1+1<=_;lia)
end
end My
namespace L2
open PySem PySem.Spec PyProof.Rows
section
variable {P:Program}{w:World}{K:bFQ}{mg:bFT}{base:Heap}
def aT0 (P:Program)(w:World)(K:bFQ)(mg:bFT)(base:Heap)(C:Addr)(k:Nat)(x:Str)(ps:List Str)(sp:Sp):Prop:=
 ∃f fd,mg x=some (.ref C)/\Mk K C f/\Binds K fd ps []/\!iM (CXR P w) k f fd ps sp
def aT0.mono (h:!aT0 C j x ps sp)(g:j<=k):!aT0 C k x ps sp:=by obtain⟨f,b,a,e,d,c⟩:=h;exact⟨f,b,a,e,d,c.mono g⟩
def iU.make (c:aWu K mg x C)(h:!iU C k "__init__" ps sp):!aT0 C k x ps sp:=by obtain⟨f,b,g,a,e,d⟩:=h;exact⟨f,b,c.at_,⟨c.mks,a.at_,a.fn,c.kp⟩,e,d⟩
end
def aRm (P:Program)(w:World)(K:bFQ)(mg:bFT)(base:Heap)(k:Nat)(f:Addr)(ps:List Str)(sp:Sp):Prop:=
 ∃fd,PySem.W.keepIn K (.ref f)=true/\Binds K fd ps []/\!iM (CXR P w) k f fd ps sp
def OkX.held {P:Program}{w:World}{K:bFQ}{mg:bFT}{base:Heap}{k:Nat}{x:Str}{ps:List Str}{sp:Sp}(G:!OkX k x ps sp):∃f,mg x=some (.ref f)/\!aRm k f ps sp:=by obtain⟨f,b,a,e,d,c⟩:=G;exact⟨f,a,b,e,d,c⟩
def bFq (P:Program)(w:World)(K:bFQ)(mg:bFT)(base:Heap)(k:Nat)(E:XK)(te:TE)(t:TA):TE:=fun σ H Q=>te σ H λv H1=>∃f ps sp,v=.ref f/\!aRm k f ps sp/\t σ H1 λvs H2=>sp vs H2 Q E
def aF2 (G:iU X.prog X.w X.K X.mg X.base C k m ps sp)(q:Room k X.A)(i:Thr X E)(p:VE X o ta)(l:VA X (e::es) t)
  (n:eU e=true:=by rfl) (d:(backTo pos (starEach es X.env)).any (·.1)=false:=by rfl)
  (j:eval (.Call (.Attribute o m apos) (e::es) [] pos) X.env=(do
   let ov <-eval o X.env
   standAt apos.atName
   let (f,first) <-holding [ov] (getMethod ov m pl)
   callWith pos f first (backTo pos (starEach (e::es) X.env)) (backToKw pos (keywordEach [] X.env))):=by rfl):VE X (.Call (.Attribute o m apos) (e::es) [] pos) (aGa C m sp [] E ta t):=by
 obtain⟨f,h,c,g,b,a⟩:=G;exact⟨aSh p.1 c g a q b .nil i.passes l.1 (bG n) d j⟩
def dG (G:iU X.prog X.w X.K X.mg X.base C k m ps sp)(j:Room k X.A)(g:Thr X E)(i:VE X o ta)
  (h:eval (.Call (.Attribute o m apos) [] [] pos) X.env=(do
   let ov <-eval o X.env
   standAt apos.atName
   let (f,first) <-holding [ov] (getMethod ov m pl)
   callWith pos f first (backTo pos (starEach [] X.env)) (backToKw pos (keywordEach [] X.env))):=by rfl):VE X (.Call (.Attribute o m apos) [] [] pos) (aGa C m sp [] E ta pP):=by
 obtain⟨f,e,c,d,b,a⟩:=G;exact⟨aMk i.1 c d a j b .nil g.passes h⟩
def aFy {P:Program}{w:World}{K:bFQ}{mg:bFT}{base:Heap}{k:Nat}(S:Room k X.A)(y:Thr X E)(M:VE X (.Name x p) te)(V:VA X (e::es) t)(D:eU e=true:=by rfl)(n:(backTo pos (starEach es X.env)).any (·.1)=false:=by rfl)
  (R:X.prog=P:=by rfl) (Y:X.w=w:=by rfl) (z:X.K=K:=by rfl) (U:X.mg=mg:=by rfl) (T:X.base=base:=by rfl) :
  VE X (.Call (.Name x p) (e::es) [] pos) (bFq P w K mg base k E te t):=by
 subst R Y z U T;refine⟨?_⟩;intro a s σ H Q I h;refine bBT (thn (M.1 a s σ H _ I h) λu g ⟨v,i,c,j,l⟩=>?_);obtain⟨f,C,O,rfl,⟨L,m,d,F⟩,q⟩:=l;obtain rfl:u=Value.ref f:=j;refine PySem.W.callWith_K c.ok.mod.kin m (thn (V.1 pos a g σ i _ c q) λB J ⟨G,N,b,r,o⟩=>⟨b.kIn,?_⟩) (bG D) n;exact aB9 F S d .nil y.passes b r (by simpa using o)
def aLq (G:aT0 X.prog X.w X.K X.mg X.base C k x ps sp)(o:Room (k+1) X.A)(l:Thr X E)(j:Gl X x)(m:VA X (e::es) t)(c:(x == ("__debug__":Str))=false:=by decide)(n:eU e=true:=by rfl)(g:(backTo pos (starEach es X.env)).any (·.1)=false:=by rfl) :
  VE X (.Call (.Name x p) (e::es) [] pos) (aYu C sp [] E t):=by
 obtain⟨f,i,d,h,b,a⟩:=G;exact⟨aSt h a o j d b .nil l.passes m.1 c (bG n) g⟩
end L2
namespace My
open PySem PySem.Spec PyProof.Rows L2 PySem.NumText
def bAo:∀c:Nat,48<=c->c<=57->(Char.ofNat c).toNat=c:=by
 have h:∀k:_root_.Fin 10,(Char.ofNat (48+k.val)).toNat=48+k.val:=by decide
 intro c a b;have:=h ⟨c - 48,by lia⟩;simp only at this;rw[show 48+(c - 48)=c by lia] at this;exact this
def aN2 (h:xN l=true):(Nat.toDigits 10 (digitsVal l)).map Char.toNat=l:=by
 obtain⟨a,f,_⟩:=uV h;have g:l=[48]\/l.head?≠some 48:=by unfold xN at h;simp only[w6,Bool.or_eq_true,decide_eq_true_eq,bEM,decide_eq_false_iff_not] at h;exact h.2
 have e:Nat.toDigits 10 (digitsVal l)=l.map Char.ofNat:=by
  cases l with
  |nil=>exact absurd rfl f
  |cons c r=>
   refine toDigits_digitsVal r.length (c::r) rfl a ?_;rcases g with z|z
   ·injection z with z1 z2;rw[z2];exact .inl rfl
   ·refine .inr ⟨c,r,rfl,?_⟩;have b:=(a c (j7 ..)).1;have:c≠48:=λy=>z (by rw[y];rfl);lia
 rw[e,bAZ];have:∀l:List Nat,AllDigits l->l.map (Char.toNat ∘ Char.ofNat)=l:=λl a=>by
  induction l with
  |nil=>rfl
  |cons c r ih=>
   have b:=a c (j7 ..);rw[bAE,ih λd m=>a d (j8 _ m)]
   congr 1
   exact bAo c b.1 b.2
 exact this l a
theorem aQf:∀n l,l.length=n->AllDigits l->digitsVal l<10 ^ n
 |0,[],_,_=>by decide
 |n+1,l,hl,ha=>by
  have a:l≠[]:=λz=>by rw[z] at hl;cases hl
  have e:=List.dropLast_concat_getLast a;have b:l.dropLast.length=n:=by rw[bEV,hl];rfl
  have c:=ha (l.getLast a) (List.getLast_mem a);have f:=aQf n l.dropLast b λd m=>ha d (List.dropLast_subset l m);rw[<-e,digitsVal_snoc,Nat.pow_succ];lia
def aYf (h:rdV x=some v):shw v=x/\Vl v:=by
 unfold rdV at h;cases d:aDw (cs x) with
 |true=>
  rw[d,if_pos rfl] at h;cases h;unfold aDw at d;unfold aMh;by_cases f:(cs x).head?=some 45
  ·rw[if_pos f,w6] at d;obtain⟨u,w⟩:=d;rw[if_pos f];have l:cs x=45::(cs x).tail:=by
    cases e:cs x with
    |nil=>rw[e] at f;cases f
    |cons a t=>rw[e] at f;cases f;rfl
   obtain⟨p,n,g⟩:=uV u;have j:=aN2 u;have r:=aQf _ _ rfl p;have y:digitsVal (cs x).tail≠0:=λz=>by
    rw[z] at j;have:(cs x).tail=[48]:=by rw[<-j];decide
    rw[l,this] at w;exact absurd w (by decide)
   obtain⟨m,s⟩:∃m,digitsVal (cs x).tail=m+1:=⟨digitsVal (cs x).tail - 1,by lia⟩;have e:(-((digitsVal (cs x).tail:Nat):Int))=Int.negSucc m:=by rw[s];rfl
   rw[e];refine⟨jH.mpr ?_,.inl ⟨_,rfl,?_⟩⟩
   ·rw[show cs (shw (.int (Int.negSucc m)))=45::(Nat.toDigits 10 (m+1)).map Char.toNat from yW m,<-s,j];exact l.symm
   ·rw[Int.natAbs_negSucc,Nat.succ_eq_add_one,<-s];exact bAL r (Nat.pow_le_pow_right (by decide) g)
  ·rw[if_neg f] at d;rw[if_neg f];obtain⟨p,n,g⟩:=uV d;have j:=aN2 d;refine⟨jH.mpr ?_,.inl ⟨_,rfl,?_⟩⟩
   ·rw[show cs (shw (.int ((digitsVal (cs x):Nat):Int)))=(Nat.toDigits 10 (digitsVal (cs x))).map Char.toNat from PySem.W.KIN.signs_num _,j]
   ·rw[bFL];exact bAL (aQf _ _ rfl p) (Nat.pow_le_pow_right (by decide) g)
 |false=>
  rw[d,if_neg (by decide)] at h;cases i:aKd (cs x) with
  |false=>rw[i,if_neg (by decide)] at h;cases h
  |true=>
   rw[i,if_pos rfl] at h;cases h;unfold aKd at i;simp only[w6,decide_eq_true_eq] at i;obtain⟨A,k,o,D,C⟩:=i;have l:cs x=39::(inn (cs x)++[39]):=by
    cases e:cs x with
    |nil=>rw[e] at k;cases k
    |cons a t=>
     rw[e] at k o A;cases k;show 39::t=39::(t.dropLast++[39])
     congr 1
     cases t with
     |nil=>exact absurd A (by decide)
     |cons b t=>rw[List.getLast?_cons_cons] at o;obtain⟨_,B⟩:=List.getLast?_eq_some_iff.mp o;rw[B,List.dropLast_concat]
   refine⟨jH.mpr ?_,.inr ⟨_,rfl,λc q=>?_,?_⟩⟩
   ·rw[oH];exact l.symm
   ·have q:c∈inn (cs x):=by simpa using q
    have:=List.all_eq_true.mp C c q;simp only[isL,w6,decide_eq_true_eq] at this;exact this
   ·rw[lF];exact D
end My
namespace L2
open PySem PySem.Spec PyProof.Rows
def cxH (CX:CXT)(P:Program)(w:World)(K:bFQ)(mg:bFT)(base:Heap)(N:List Str)(qual:Str)(scope:Scope)(f:Addr)(cd:Value)(A:Around)(outer:List Env)(s:Shared)(H:Hp)(E:XK):Cx:={ uT CX P w K mg base N qual scope f cd A outer s H E with calm:=false }
def aP2 {CX:CXT}{P:Program}{w:World}{K:bFQ}{mg:bFT}{base:Heap}{N B:List Str}{o:Str}{scope:Scope}{f:Addr}{J:Value}{A:Around}{outer:List Env}{s s1:Shared}{H:Hp}{E:XK}{us:List Value}{vs:List V}
  (S:aM N B scope) (e0:!aGv A outer s H) (hl:vs.length=B.length) (r:Vals vs us)
  (x:InCallC s s.heap.objs.size (bindL (envOfC o scope s.heap.objs.size f J).kindOf (B.zip us) λ_=>none) (cellsFrom (s.heap.objs.size+1) scope.names []) (bindC (envOfC o scope s.heap.objs.size f J).kindOf (B.zip us) λ_=>none) s1) :
  Inv (cxH CX P w K mg base N o scope f J A outer s H E) [] (start N vs) H s1:=by
 have D:B.length<=N.length:=by have:=congrArg List.length S.pre;rw[bAU] at this;lia
 obtain⟨n,tk,rfl,C⟩:=x.done;have g:∀b:Addr,b∉(uT CX P w K mg base N o scope f J A outer s H E).ex:=λb z=>absurd (show b∈([]:List Addr) from z) (by simp);refine⟨⟨e0.mod,S.kind,rfl,rfl,v7 _,λy z c n d=>?_,λy hy=>?_,λy c _ h=>?_,(λz=>nomatch z),Around.frames_deeper e0.frames,.inr ⟨rfl,rfl⟩,λb z=>absurd z (g b),e0.bs,e0.bsz,λb _ _=>g b,λb z=>absurd z (g b),e0.funs,e0.frf⟩,
  rfl,e0.bare,Un.kept C,⟨_,x.toInCall.ns,λi y v n d I=>?_⟩,λy c h=>⟨_,x.cell y c h⟩,e0.hok.fresh (v7 _),λy c h=>?_,λp l=>absurd (show p∈([]:bFS) from l) (by simp),e0.hok.kept C,?_⟩
 ·exact name_of_addr x.apart (PySem.mem_of_lookup n) (PySem.mem_of_lookup d)
 ·have hy:=hy;rcases hy with hy|hy
  ·exact aBb hy
  ·exact absurd rfl (S.nofree _ (PySem.mem_of_lookup hy))
 ·exact bDW (x.above y c (PySem.mem_of_lookup h))
 ·have m:i<vs.length:=by
   unfold start at d;by_cases m:i<vs.length
   ·exact m
   ·rw[bBW (by simpa using m)] at d;rw[List.getElem?_replicate] at d
    split at d <;> cases d
  have G:vs[i]?=some v:=by
   unfold start at d;rw[bCN (by simpa using m),bAD] at d;cases e:vs[i]? with
   |none=>rw[e] at d;cases d
   |some a=>rw[e] at d;cases d;rfl
  obtain⟨u,t,F⟩:=r.get G;have l:B[i]?=some y:=by rw[<-S.pre,List.getElem?_take_of_lt (by lia)];exact n
  have j:B.Nodup:=by rw[<-S.pre];exact S.nd.sublist (bBV _ _)
  refine⟨u,F,?_⟩;rcases S.par y (bAQ l) with k|k
  ·exact .inl ⟨k,aBs j l t k⟩
  ·obtain⟨c,e⟩:=aBb k;refine .inr ⟨.inl k,c,e,?_⟩;have q:=x.cell y c e;rw[aBr j l t (by show scope.names.lookup y≠_;rw[k];decide)] at q;exact q
 ·exact e0.hok.fresh (bDW (x.above y c (PySem.mem_of_lookup h)))
 ·unfold start;show _=N.length;rw[j6,j5,bEN];lia
def bGb {CX:CXT}{P:Program}{w:World}{K:bFQ}{mg:bFT}{base:Heap}{k:Nat}{f:Addr}{name g:Str}{params:Arguments}{body:List Stmt}{scope:Scope}{dV kV doc pm B ct oc:Value}{an od:Option Addr}
  {osl:Array (Option Value)} {N ps:List Str} {sp:Sp} (lk:K.lookup f=some ⟨oc,od,.func (PySem.W.fnOf name g params body scope dV kV doc pm an B ct),osl⟩) (R:PySem.W.codeIn K B g=true) (S:aM N ps scope)
  (T:∀vs H Q E,sp vs H Q E->vs.length=ps.length)
  (p:∀(A:Around) (outer:List Env) (s:Shared) (H:Hp) (vs:List V) (Q:VK) (E:XK),sp vs H Q E ->
   ∃t,PSs (cxH CX P w K mg base N g scope f B A outer s H E) body t/\t { nx:=λ_ H'=>Q .non H',rt:=Q } (start N vs) H) :
  ∀(A:Around) (outer:List Env) (s:Shared) (H:Hp) (args:Args) (us:List Value) (vs:List V) (Q:VK) (E:XK),A.depth<recursionLimit->!aGv A outer s H->BindsTo s (PySem.W.fnOf name g params body scope dV kV doc pm an B ct) args (ps.zip us)->Vals vs us->sp vs H Q E ->
  codeAny (model P w) A (.call (.ref f) args) (CR CX outer P w H s Q E) s:=by
 intro A outer s H args us vs Q E U i F r d;have Z:=T _ _ _ _ d;have D:K.In s.heap:=i.mod.kin.keeps λb o e=>(i.bs b o e).1;have l:s.heap.NoLimit:=i.mod.nolimit.keeps λb o e=>(i.bs b o e).1;have a:∀y∈ps.zip us,scope.names.lookup y.1=some .local\/(scope.names.lookup y.1=some .cell/\((cellsFrom (s.heap.objs.size+1) scope.names []).lookup y.1).isSome=true):=λ⟨n,v⟩ G=>by
  rcases S.par n (bEW G).1 with q|q
  ·exact .inl q
  ·exact .inr ⟨q,PySem.W.cellsFrom_some _ _ _ (.inl q)⟩
 refine codeAny_call_function U (D _ _ lk) rfl S.co S.gen rfl (PySem.W.codeRec_of D R) (F _ _ _ _ ?_);refine bFH S.kind a λM L C x=>?_;subst L;refine⟨l.keeps x.toInCall.keep,codeAny_func ?_⟩;obtain⟨t,Y,O⟩:=p A outer s H vs Q E d;have I:Inv (cxH CX P w K mg base N g scope f B A outer s H E) [] (start N vs) H C:=aP2 S i Z r x;refine bBB (Y [] C (start N vs) H _ I O) (λX z c=>?_) λe z c=>c;have h:∀{j:St} {H':Hp} {v:V} {u:Value},Inv (cxH CX P w K mg base N g scope f B A outer s H E) [] j H' z->RelV v u->Q v H'->CE outer P w H s Q u z:=
  λ{j H' v u} J m q=>⟨v,H',J.os,J.bare,J.base,J.hok,m,q⟩
 cases X with
 |ret u=>obtain⟨v,j,H',J,m,q⟩:=c;exact h J m q
 |next=>obtain⟨j,H',J,q⟩:=c;exact h (v:=V.non) (u:=Value.none) J rfl q
 |brk=>obtain⟨_,_,_,q⟩:=c;exact False.elim q
 |cont=>obtain⟨_,_,_,q⟩:=c;exact False.elim q
def aG4:entryFor table "proto.unchain"=some Builtin.«proto.unchain»:=entryFor_of_tree (by kernel_rfl)
section
variable {prog:Program}{w:World}{A:Around}{E:bFR}{env:Env}{K:bFQ}{C fI:Addr}
def aUx (b:h=.ref hd)(d:s.heap.get? hd=some oh)(a:oh.data=.fields hs)(c:hs[2]?=some .none)(q:Q .none s) :
  wpAny (model prog w) A (runValue (.builtin "proto.unchain" ⟨[e,h,h,.bool false],[]⟩)) Q E s:=by
 subst b;refine wpAny_runValue (bDQ aG4 ?_);unfold Builtin.«proto.unchain»;refine c7 (bAR d a c ?_);exact j9 q
def aL0 {α:Type}{s:Shared}{e hd:Addr}{oe oh:Obj}{vs hs:Array Value}{Q:α->Shared->Prop}(d:A.handled=some (.ref hd))(c:hd≠e)(f:s.heap.get? e=some oe)(a:oe.data=.fields vs)(g:2<vs.size)
  (h:s.heap.get? hd=some oh) (b:oh.data=.fields hs) (i:hs[2]?=some .none) (q:E (.ref e) { s with heap:=s.heap.update e (Obj.mapFields (·.setIfInBounds 2 (.ref hd))) }) :
  wpAny (model prog w) A (raiseNew (.ref e):Sem α) Q E s:=by
 unfold raiseNew;refine c7 (wpAny_handled ?_);rw[d];show wpAny _ _ (if (Value.ref hd != Value.ref e)=true then (do
    let _ <-holding [Value.ref e] (runValue (Code.builtin "proto.unchain" { pos:=[Value.ref e,.ref hd,.ref hd,Value.bool false] }))
    let __r <-updateField e 2 (.ref hd)
    throw (Value.ref e)) else throw (Value.ref e)) _ _ _
 rw[if_pos (by simpa using c)];refine c7 (bBM (aUx rfl h b i ?_));refine c7 (bBB (bCT f a g ?_) (λ_ _ z=>z) λ_ _ z=>z);exact wpAny_throw q
def aOr (cX:XC K C fI)(hA:A.handled=some (.ref hd))
  (hc:∀(s:Shared) (R:bFR),R .none s->wpAny (model prog w) A c R E s)
  (h:wpAny (model prog w) A x (λv s₁=>∃e d vs oh hs,v=.ref e/\K.In s₁.heap/\s₁.heap.get? e=some { cls:=.ref C,dict:=d,data:=.fields vs }/\vs.size=6/\vs[1]?=some .none/\hd≠e/\s₁.heap.get? hd=some oh/\oh.data=.fields hs/\hs[2]?=some .none /\
   ∀h',(∀b,b≠e->h'.get? b=s₁.heap.get? b)->h'.get? e=some { cls:=.ref C,dict:=d,data:=.fields (((vs.setIfInBounds 3 .none).setIfInBounds 4 (.bool true)).setIfInBounds 2 (.ref hd)) }->E (.ref e) { s₁ with heap:=h' }) E s) :
  wpAny (model prog w) A (raiseStmt env (some x) (some c)) Q E s:=by
 obtain⟨Y,q,N,bs,P,sn,W,ab,U,dd,k0,k1,k2,k3,Z,M,hB,S,hN,L⟩:=cX.at_;have B:(Value.ref C::P).contains (.type "BaseException")=true:=by rw[bBN,L,bDG]
 unfold raiseStmt;refine c7 (bBB h (λv s₁ V=>?_) λ_ _ x=>x);obtain⟨e,n,vs,oh,hs,rfl,X,j,T,I,H,O,G,D,y⟩:=V;have f:=X _ _ M;refine c7 (bBM (hc _ _ (c7 (j9 ?_))));obtain⟨k,g,d,tk,os⟩:=s₁
 repeat (first|with_reducible refine bBJ j ?_|with_reducible refine bBJ f ?_|(with_reducible refine bCX f ?_;rw[B])|with_reducible refine bAR j rfl I ?_|wp_step)
 have t:e≠C:=λz=>by subst z;have j:=j;have f:=f;rw[j] at f;cases f
 have F:∀p i u,Obj.mapFields (·.setIfInBounds i u) { cls:=.ref C,dict:=n,data:=.fields p }={ cls:=.ref C,dict:=n,data:=.fields (p.setIfInBounds i u) }:=λp i u=>rfl;have r:(k.update e (Obj.mapFields λx=>x.setIfInBounds 3 Value.none)).get? e=some { cls:=.ref C,dict:=n,data:=.fields (vs.setIfInBounds 3 .none) }:=by rw[bAY _ j (bCA (bCF rfl _)),F]
 have a:((k.update e (Obj.mapFields λx=>x.setIfInBounds 3 Value.none)).update e (Obj.mapFields λx=>x.setIfInBounds 4 (Value.bool true))).get? e=some { cls:=.ref C,dict:=n,data:=.fields ((vs.setIfInBounds 3 .none).setIfInBounds 4 (.bool true)) }:=by rw[bAY _ r (bCA (bCF rfl _)),F]
 have o:∀b,b≠e->((k.update e (Obj.mapFields λx=>x.setIfInBounds 3 Value.none)).update e (Obj.mapFields λx=>x.setIfInBounds 4 (Value.bool true))).get? b=k.get? b:=λb m=>by rw[bBC _ _ (Ne.symm m),bBC _ _ (Ne.symm m)]
 have l:=(o C (Ne.symm t)).trans f;generalize ((k.update e (Obj.mapFields λx=>x.setIfInBounds 3 Value.none)).update e (Obj.mapFields λx=>x.setIfInBounds 4 (Value.bool true)))=h2 at a o l ⊢;refine bBJ l (j9 ?_);refine j9 ?_;have J:((vs.setIfInBounds 3 .none).setIfInBounds 4 (.bool true))[1]?=some .none:=by rw[bAX (by decide),bAX (by decide)];exact I
 unfold setFlight;refine c7 (c7 (bAR a rfl J ?_));show wpAny _ _ (pure ()) _ _ _;refine j9 (aL0 hA H a rfl (by simp[T]) ((o hd H).trans O) G D ?_);refine y _ (λb m=>by rw[bBC _ _ (Ne.symm m)];exact o b m) ?_;rw[bAY _ a (bCA (bCF rfl _)),F]
end
section
variable {P:Program}{w:World}{K:bFQ}{mg:bFT}{base:Heap}
def aTb {y:Str}{st:Stmt}{fI:Addr}{fd:FuncData}(F:Fun K "__init__" y st fI fd)(t:aM bQA bQA (aC st))
  (u:∀(X:Cx),X.N=(["self","act"]:List Str)->X.env.scope=aC st->X.mg=mg->VSs X (dN st) (rF (aDh (tVI X.K fI (eE (iK 0) (eE (iK 1) pP)))) (aE4 X.K fI (iK 0) (iK 1))))
  (A:Around) (outer:List Env) (s:Shared) (H:Hp) (args:Args) (us:List Value) (vs:List V) (Q:VK) (E:XK) (G:A.depth<recursionLimit) (e0:!aGv A outer s H) (o:BindsTo s fd args ((["self","act"]:List Str).zip us)) (r:Vals vs us) (d:vM K fI vs H Q E) :
  codeAny (model P w) A (.call (.ref fI) args) (CR CX0 outer P w H s Q E) s:=by
 obtain⟨B,v,kV,f,x,p,m,D,g,rfl,h,a⟩:=F.ex;refine bGb (k:=0) h a t (sp:=vM K fI) (λvs H Q E ⟨e,C,z,_⟩=>by rw[z];rfl) (λA outer s H vs Q E ⟨e,C,l,b,c,q⟩=>⟨_,(u _ rfl rfl rfl).1,?_⟩) A outer s H args us vs Q E G e0 o r d;subst l;refine⟨_,rfl,_,rfl,e,C,.non,rfl,b,c,?_⟩;exact⟨_,rfl,_,rfl,e,C,rfl,rfl,b,c,λj n i=>q j n i⟩
end
def nJ (X:Cx)(e:Addr)(xe:bFR):Cx:={ X with A:=X.A.mark (some (.ref e)),calm:=false,xe:=xe }
section
variable {X:Cx}{xe:bFR}{e0 e:Addr}{bFU:bFS}{σ:St}{H:Hp}{s:Shared}{C S fI:Addr}{fd:FuncData}{x y:Str}{st:Stmt}
def aYs (a:X.Ok):(nJ X e xe).Ok:=⟨a.mod,a.kind,a.glob,a.blt,a.above,a.inj,a.has,a.cab,(λz=>nomatch z),a.frames,a.stk,a.exf,a.bs,a.bsz,a.noex,a.exfs,a.funs,a.frf⟩
def Inv.aSb (I:Inv X bFU σ H s):Inv (nJ X e xe) bFU σ H s:=⟨aYs I.ok,I.os,I.bare,I.base,I.loc,I.cell,I.free,I.freeC,I.pin,I.hok,I.len⟩
def Inv.wQ (a:X.Ok)(I:Inv (nJ X e xe) bFU σ H s):Inv X bFU σ H s:=⟨a,I.os,I.bare,I.base,I.loc,I.cell,I.free,I.freeC,I.pin,I.hok,I.len⟩
def aYi {Q:VK}{u:Value}(c:XC X.K C fI)(F:Fun X.K "__init__" y st fI fd)(M:aM bQA bQA (aC st))
  (O:∀(X':Cx),X'.N=(["self","act"]:List Str)->X'.env.scope=aC st->X'.mg=X.mg->VSs X' (dN st) (rF (aDh (tVI X'.K fI (eE (iK 0) (eE (iK 1) pP)))) (aE4 X'.K fI (iK 0) (iK 1))))
  (R:Room 2 X.A) (z:Binds X.K fd bQA []) (I:Inv (nJ X e0 xe) bFU σ H s) (r:RelV .non u) (h:∀e dx,H e=none->H dx=none->dx≠e->Q (.ref e) (upd (upd H dx xdA) e (XO e C (some dx)))) :
  wpAny (model X.prog X.w) (nJ X e0 xe).A (call (.ref C) [u]) (EP (nJ X e0 xe) bFU σ Q) xe s:=by
 obtain⟨P,g,d,tk,o⟩:=s;refine x_call I.kIn c (λh' e m l S=>?_) (by rw[sizeLine_eq,d9,bCD];lia);obtain⟨T,J,-,-⟩:=m.there;have k:H e=none:=I.hok.fresh (by rw[l];exact bEK _);have i:Inv (nJ X e0 xe) bFU σ (upd H e (XO e C none)) ⟨h',g,d,tk,o⟩:=I.laid (a:=e) (h':=h') (t':=tk) m.keeps (by rw[l];exact bEK _) (XO.ok J ⟨rfl,.inl rfl⟩ rfl);have t:vM X.K fI [.ref e,.non] (upd H e (XO e C none)) (λv p=>v=.non/\Q (.ref e) p) E0:=by refine⟨e,C,rfl,aJ,c,λdx n j=>⟨rfl,?_⟩⟩;rw[aR j] at n;have q:=h e dx k n j;rw[aMs (Ne.symm j),aD1];exact q
 have G:Vals [V.ref e,V.non] [Value.ref e,u]:=.cons rfl (.cons r .nil);have f:=z ⟨h',g,d,tk,o⟩ [Value.ref e,u] i.kIn rfl;rw[bAJ] at f;refine bDM (bDF (aTb F M O _ X.stack _ _ ⟨[Value.ref e,u],[]⟩ [Value.ref e,u] _ _ E0 ?_ (i.env0.make C [u] []) f G t) λr U b=>?_)
 ·rw[aEt];have:=R.dp;show X.A.depth+1<recursionLimit;lia
 cases r with
 |error v=>exact False.elim b
 |ok fl=>
  cases fl with
  |ret w=>obtain⟨v,L,B,D,E,x⟩:=i.after b;subst E;exact⟨D,⟨V.ref e,L,B,rfl,x⟩⟩
  |next=>exact False.elim b
  |brk=>exact False.elim b
  |cont=>exact False.elim b
end
section
variable {X:Cx}{xe:bFR}{e0:Addr}{C S S' fI:Addr}{fd:FuncData}{x y:Str}{st:Stmt}{E:XK}{np cpos pos p1 p2:Pos}{j1 j2:Nat}
def bAn (e0 C:Addr)(E:XK):TS:=λ_ σ H=>∃T C0 dx0,H e0=some (zM e0 T C0 dx0)/\C0≠cxA/\C=cxA/\∀e dx,H e=none->H dx=none->dx≠e->E (.ref C) (some e) (upd H dx xdA)
def aTp (ok:X.Ok)(hT:ExT X.K X.mg st x y C S)(Sc:aM bQA bQA (aC st))
  (hb:∀fI,∀(X':Cx),X'.N=(["self","act"]:List Str)->X'.env.scope=aC st->X'.mg=X.mg->VSs X' (dN st) (rF (aDh (tVI X'.K fI (eE (iK 0) (eE (iK 1) pP)))) (aE4 X'.K fI (iK 0) (iK 1))))
  (hr:Room 2 X.A) (hR:∀(bFU:bFS) (σ:St) (H₁:Hp) (s:Shared) (e dx:Addr),Inv X bFU σ (upd H₁ e (XO e C (some dx))) s->H₁ e=none->H₁ dx=some xdA->E (.ref C) (some e) H₁->xe (.ref e) s) (hg:Gl X x) (a0:(x == ("__debug__":Str))=false:=by decide) :
  PS (nJ X e0 xe) (.Raise (some (.Call (.Name x np) [.Constant .none j1 p1] [] cpos)) (some (.Constant .none j2 p2)) pos) (bAn e0 C E):=by
 obtain⟨⟨fI,fd,c,F,p⟩,hm,hk,_,_⟩:=hT;intro bFU s σ H D I h;obtain⟨T,L,i,a,nc,ec,q⟩:=h;rw[arm_exec_Raise];refine c7 (bDH (aOr (hd:=e0) c rfl (λs R r=>c7 (Constant_none (c7 (bDH (j9 r))))) ?_));refine c7 (bBB (Q:=EP (nJ X e0 xe) bFU σ λv O=>∃e dx H₁,v=.ref e/\O=upd H₁ e (XO e C (some dx))/\H₁ e=none/\H₁ dx=some xdA/\H₁ e0=some (zM e0 T L i)/\e0≠e/\E (.ref C) (some e) H₁) (E:=xe) ?_ (λv U ⟨y,O,l,ry,e,dx,H₁,ey,w,n,nd,h0,g,q'⟩=>?_) λ_ _ z=>z)
 ·refine bBT (nR (X:=nJ X e0 xe) I hg hm ?_ a0);refine PySem.W.callWith_K (h₀:=X.base) I.ok.mod.kin hk (thn ((aZ1 (X:=nJ X e0 xe) aW7 aPf) cpos bFU s σ H _ I (show (eE (tC V.non) pP) σ H (λk J=>k=[V.non]/\J=H) from ⟨rfl,rfl⟩)) λus U ⟨k,J,Y,r,ev,w⟩=>⟨Y.kIn,?_⟩) rfl rfl;subst ev w;cases r with
  |cons r0 r1=>
   cases r1;refine aYi (X:=X) c F Sc (hb fI) hr p Y r0 λe dx G M g=>⟨e,dx,upd J dx xdA,rfl,rfl,by rw[aR (Ne.symm g)];exact G,aJ,?_,?_,q e dx G M g⟩
   ·rw[aR (λz=>by rw[z] at a;rw[M] at a;cases a)];exact a
   ·exact λz=>by rw[z] at a;rw[G] at a;cases a
 ·subst ey w;obtain rfl:=ry;refine c7 (bDH (j9 ?_));obtain⟨k,B,hz,Z⟩:=XO.at (d:=some dx) l.hok aJ;obtain⟨P,m,t,a1⟩:=(l.hok e0 _ (show upd H₁ e (XO e C (some dx)) e0=some (zM e0 T L i) by rw[aR g];exact h0)).1;have h2:P[2]?=some .none:=t.2.resolve_right nc;refine⟨e,_,k,_,P,rfl,l.kIn,B,hz.1,Z,g,m,rfl,h2,λh' ot j=>?_⟩;have f:upd (upd H₁ e (XO e C (some dx))) e (XO e C (some dx))=upd H₁ e (XO e C (some dx)):=by rw[aD1]
  have W:=(l.wQ ok).write (x:=e) (e:=e) (o:=XO e C (some dx)) (h':=h') (t':=U.toks) (by rw[aJ];trivial) (.inl rfl) (λb u nb q=>by rw[ot b nb];exact q) ⟨_,j⟩
   (XO.ok j ⟨by simp[hz.1],.inr ec⟩ (by rw[bAX (by decide),bAX (by decide),bAX (by decide)];exact Z))
  rw[f] at W;exact hR bFU σ H₁ _ e dx W n nd q'
def exF (K:bFQ)(S C:Addr)(E:XK):XK:=λv o H₁=>∃C0 e fI,v=.ref C0/\o=some e/\XC K C0 fI/\PySem.W.mroIn K C0 (.ref S)=some true/\C0≠cxA/\C=cxA /\
 ∀T dx,H₁ e=none->H₁ T=none->T≠e->H₁ dx=some xdA->∀e' dx',up2 H₁ e T C0 dx e'=none->up2 H₁ e T C0 dx dx'=none->dx'≠e'->E (.ref C) (some e') (upd (up2 H₁ e T C0 dx) dx' xdA)
def bGu (K:bFQ)(S C:Addr)(E:XK)(tb:St->XK->TS):TS:=λD σ H=>tb σ (exF K S C E) D σ H
variable {x':Str}{np' hpos pos':Pos}{body:List Stmt}{tb:St->XK->TS}
def aJc (W:X.stack=X.env::X.outer)(G:X.env.frame=some X.env.locals)
  (a4:Gl X x') (a2:X.mg x'=some (.ref S')) (hS:XS X.K S') (a0:∀bFU σ₀ E,X.Ok->VSs (yC X bFU σ₀ E) body (tb σ₀ E))
  (hT:ExT X.K X.mg st x y C S) (Sc:aM bQA bQA (aC st))
  (hb:∀fI,∀(X':Cx),X'.N=(["self","act"]:List Str)->X'.env.scope=aC st->X'.mg=X.mg->VSs X' (dN st) (rF (aDh (tVI X'.K fI (eE (iK 0) (eE (iK 1) pP)))) (aE4 X'.K fI (iK 0) (iK 1))))
  (hr:Room 2 X.A) (hR:Thr X E) (hg:Gl X x) (a3:(x == ("__debug__":Str))=false:=by decide) (Z:(x' == ("__debug__":Str))=false:=by decide) :
  VS X (.Try body [.ExceptHandler (some (.Name x' np')) none [.Raise (some (.Call (.Name x np) [.Constant .none j1 p1] [] cpos)) (some (.Constant .none j2 p2)) pos] hpos] [] [] pos') (bGu X.K S' C E tb):=⟨by
 intro bFU s σ H D I h;refine wpAny_Try_except (bBB ((a0 bFU σ (exF X.K S' C E) I.ok).1 [] s σ H D I.bB9 h) (λf s1 t=>?_) λv s1 t=>?_)
 ·cases f with
  |next=>obtain⟨d,b,g,q⟩:=t;exact bDO ⟨d,b,Inv.aBc I.ok g,q⟩
  |brk=>obtain⟨d,b,g,q⟩:=t;exact⟨d,b,Inv.aBc I.ok g,q⟩
  |cont=>obtain⟨d,b,g,q⟩:=t;exact⟨d,b,Inv.aBc I.ok g,q⟩
  |ret u=>obtain⟨v,d,b,g,r,q⟩:=t;exact⟨v,d,b,Inv.aBc I.ok g,r,q⟩
 ·obtain⟨e,T,i,B,k,rfl,I1,n1,nT,U,hd,C0,e',fI,eC,ee,c,Q,nc,ec,q⟩:=t;cases eC;cases ee;refine aCe I1 W G n1 nT U λl a1 R m a=>jX R a λs2 L=>?_;have O:Inv (tL X e) bFU σ (up2 k e l B i) s2:=L.aPv;refine wpAny_handleBy_cons (codeAny_handlers_test ?_) (by intro q;cases q);refine nR (X:=tL X e) O a4 a2 ?_ Z;have e1:up2 k e l B i e=some (zM e l B i):=aJ;obtain⟨vs,p,hz,F⟩:=(L.hok e _ e1).1;refine aIv L.kIn hS p rfl Q ?_;rw[if_pos rfl];refine codeAny_handlers_suite ?_;refine jX L a λV I3=>?_;have RX:∀(bFU:bFS) (σ:St) (k:Hp) (s:Shared) (j i:Addr),Inv X bFU σ (upd k j (XO j C (some i))) s->k j=none->k i=some xdA->E (.ref C) (some j) k->notedBy (model X.prog X.w) (X.A.mark (some (.ref e))) X.env (λx P=>cameBackBy (model X.prog X.w) X.A X.env X.xe x P) (.ref j) s:=by intro bFU σ k s j i J n nd q;unfold notedBy;refine aIt (X:=nJ X e X.xe) J.aSb W G n λl s' J' m a=>?_;have Y:Inv X bFU σ (up2 k j l C i) s':=J'.wQ I.ok;unfold cameBackBy;obtain⟨us,p,hz,F⟩:=(Y.hok j _ (show up2 k j l C i j=some (zM j l C i) from aJ)).1;refine c7 (bAR p rfl F ?_);show wpAny _ _ (setFlight (.ref j) X.env.frame) _ _ _;exact jX Y a λs3 J3=>hR bFU σ k s3 j l C i J3 n m a nd q
  have RR:=aSc (aTp (xe:=notedBy (model X.prog X.w) (X.A.mark (some (.ref e))) X.env λx P=>cameBackBy (model X.prog X.w) X.A X.env X.xe x P) (e0:=e) (np:=np) (cpos:=cpos) (pos:=pos) (p1:=p1) (p2:=p2) (j1:=j1) (j2:=j2) I.ok hT Sc hb hr RX hg a3) bFU V σ (up2 k e l B i) D I3.aSb ⟨l,B,i,e1,nc,ec,q l i n1 m a hd⟩;refine bBB RR (λf s4 M=>?_) λ_ _ z=>z;cases f with
  |next=>obtain⟨d,b,g,o⟩:=M;exact⟨d,b,Inv.wQ I.ok g,o⟩
  |brk=>obtain⟨d,b,g,o⟩:=M;exact⟨d,b,Inv.wQ I.ok g,o⟩
  |cont=>obtain⟨d,b,g,o⟩:=M;exact⟨d,b,Inv.wQ I.ok g,o⟩
  |ret u=>obtain⟨v,d,b,g,r,o⟩:=M;exact⟨v,d,b,Inv.wQ I.ok g,r,o⟩⟩
end
end L2
namespace My
open PySem PySem.Spec PyProof.Rows L2
section
variable {P:Program}{w:World}{K:bFQ}{mg:bFT}{base:Heap}
def aW1 (h:OkT t):∀y∈wT t,y.length<=61:=by
 obtain⟨a,c,b⟩:=h;intro y m;rcases List.mem_cons.mp m with rfl|m
 ·exact (gP a).2
 rcases List.mem_cons.mp m with rfl|m
 ·exact bAF (bCq c).2 (by decide)
 rw[List.mem_singleton.mp m];exact (aXc b).2
def aW5 (h:OkP t):∀y∈wP t,y.length<=61:=by
 intro y m;rcases List.mem_cons.mp m with rfl|m
 ·exact (gP h.1).2
 rw[List.mem_singleton.mp m];exact (gP h.2).2
def bEr (h:OkK t):∀y∈wP t,y.length<=61:=by
 intro y m;rcases List.mem_cons.mp m with rfl|m
 ·exact (gP h.1).2
 rw[List.mem_singleton.mp m];rcases h.2 with e|e <;> rw[e] <;> decide +kernel
def bEm (h:OkS t):∀y∈wS t,y.length<=61:=by
 obtain⟨b,f⟩:=h;intro y m;rcases f with⟨d,a⟩|⟨c,a,h3,h4⟩
 ·rw[show wS t=[t.wd,t.new] by unfold wS;rw[a],d] at m;rcases List.mem_cons.mp m with rfl|m
  ·decide +kernel
  rw[List.mem_singleton.mp m];exact (gP b).2
 ·rw[show wS t=[t.wd,c,t.new] by unfold wS;rw[a]] at m;rcases List.mem_cons.mp m with rfl|m
  ·rcases h4 with e|e|e <;> rw[e] <;> decide +kernel
  rcases List.mem_cons.mp m with rfl|m
  ·exact (gP h3).2
  rw[List.mem_singleton.mp m];exact (gP b).2
def tgV:V->Tg
 |.int i=>.int i
 |.str x=>.str x
 |_=>.non
def tgO:Oth->Tg
 |.val v=>.tup [.str "value",tgV v]
 |.col d=>.tup [.str "column",.str d]
def tgT (t:Tst):Tg:=.tup [.str t.c,.str t.sg,tgO t.o]
def tgP (p:Str × Str):Tg:=.tup [.str p.1,.str p.2]
def tgC:Option Str->Tg
 |none=>.non
 |some c=>.str c
def tgS (s:Sm):Tg:=.tup [.str s.wd,tgC s.c,.str s.new]
def tgq:Qn->Tg
 |.table T=>.tup [.str "table",.str T]
 |.whr q ts=>.tup [.str "where",tgq q,.tup (ts.map tgT)]
 |.keep q ns=>.tup [.str "keep",tgq q,.tup (ns.map Tg.str)]
 |.nmd q ns=>.tup [.str "named",tgq q,.tup (ns.map Tg.str)]
 |.join q r ps=>.tup [.str "join",tgq q,tgq r,.tup (ps.map tgP)]
 |.group q ns ss=>.tup [.str "group",tgq q,.tup (ns.map Tg.str),.tup (ss.map tgS)]
 |.first q ks m=>.tup [.str "first",tgq q,.tup (ks.map tgP),.int m]
section
variable {H:Hp}
def bCo (h:Vl v):bU K H v (tgV v):=by
 rcases h with⟨i,rfl,_⟩|⟨x,rfl,_,h8⟩
 ·exact .int
 ·exact .str (by lia)
def IsO.tg (h:IsO K H v o):bU K H v (tgO o):=by
 cases o with
 |val x=>obtain⟨a,rfl,b,f,e⟩:=h;exact .tup b (by show 2<=1000;decide) (.cons (.str (by trivial)) (.cons (bCo e) .nil))
 |col d=>obtain⟨a,rfl,b,c⟩:=h;exact .tup b (by show 2<=1000;decide) (.cons (.str (by trivial)) (.cons (lJ c) .nil))
def aNw {α:Type}{S:V->α->Prop}{f:α->Tg}{vs:List V}{xs:List α}(k:∀v x,S v x->bU K H v (f x))(h:cN S vs xs):eX K H vs (xs.map f):=by
 induction h with
 |nil=>exact .nil
 |cons r _ ih=>exact .cons (k _ _ r) ih
def aD6 (h:bU K H v (.tup ts)):∃a vs,v=.ref a/\SqT K H a vs/\eX K H vs ts:=by
 cases h with
 |tup g l h=>exact⟨_,_,rfl,g,h⟩
def tg2 (h:bU K H v (.tup [x,y])):∃a u1 u2,v=.ref a/\SqT K H a [u1,u2]/\bU K H u1 x/\bU K H u2 y:=by obtain⟨a,b,rfl,g,h⟩:=aD6 h;cases h with|cons h1 h=>cases h with|cons h2 h=>cases h;exact⟨_,_,_,rfl,g,h1,h2⟩
def tg3 (h:bU K H v (.tup [x,y,z])):∃a u1 u2 u3,v=.ref a/\SqT K H a [u1,u2,u3]/\bU K H u1 x/\bU K H u2 y/\bU K H u3 z:=by obtain⟨a,b,rfl,g,h⟩:=aD6 h;cases h with|cons h1 h=>cases h with|cons h2 h=>cases h with|cons h3 h=>cases h;exact⟨_,_,_,_,rfl,g,h1,h2,h3⟩
def tg4 (h:bU K H v (.tup [x,y,z,t])):∃a u1 u2 u3 u4,v=.ref a/\SqT K H a [u1,u2,u3,u4]/\bU K H u1 x/\bU K H u2 y/\bU K H u3 z/\bU K H u4 t:=by obtain⟨a,b,rfl,g,h⟩:=aD6 h;cases h with|cons h1 h=>cases h with|cons h2 h=>cases h with|cons h3 h=>cases h with|cons h4 h=>cases h;exact⟨_,_,_,_,_,rfl,g,h1,h2,h3,h4⟩
def bD8 (h:bU K H u (tgV v))(a:Vl v):u=v:=by rcases a with⟨i,rfl,_⟩|⟨x,rfl,_,h8⟩ <;> (cases h;rfl)
def bDh (h:bU K H v (tgO o))(k:OkO o):IsO K H v o:=by
 cases o with
 |val x=>obtain⟨a,e,f,rfl,g,b,c⟩:=tg2 h;cases dH b;cases bD8 c k;exact⟨a,rfl,g,k.th,k⟩
 |col d=>obtain⟨a,e,f,rfl,g,b,c⟩:=tg2 h;cases dH b;cases dH c;exact⟨a,rfl,g,k⟩
def bDq (h:bU K H v (tgT t))(k:OkT t):IsT K H v t:=by obtain⟨a,f,i,d,rfl,g,c,e,b⟩:=tg3 h;cases dH c;cases dH e;exact⟨a,d,rfl,g,k.1,k.2.1,bDh b k.2.2⟩
def aW2 (h:bU K H v (tgP p)):∃a,v=.ref a/\SqT K H a [.str p.1,.str p.2]:=by obtain⟨a,d,e,rfl,g,b,c⟩:=tg2 h;cases dH b;cases dH c;exact⟨a,rfl,g⟩
def bC1 (h:bU K H v (tgS s))(k:OkS s):nU K H v s:=by
 obtain⟨a,l,m,j,rfl,g,i,d,f⟩:=tg3 h;cases dH i;cases dH f;refine⟨a,rfl,k.1,?_⟩;rcases k.2 with⟨e,b⟩|⟨c,b,hc,h4⟩
 ·rw[b] at d;cases d;rw[e] at g;exact .inl ⟨e,b,g⟩
 ·rw[b] at d;cases dH d;exact .inr ⟨c,b,hc,h4,g⟩
def bEt {α:Type}{S:V->α->Prop}{f:α->Tg}{vs:List V}{xs:List α}(h:eX K H vs (xs.map f))(k:∀v x,x∈xs->bU K H v (f x)->S v x):cN S vs xs:=by
 induction xs generalizing vs with
 |nil=>cases h;exact .nil
 |cons x xs ih=>cases h with|cons h1 h=>exact .cons (k _ _ (j7 ..) h1) (ih h λv x m=>k v x (j8 _ m))
def uF {α:Type}{S:bFQ->Hp->V->α->Prop}{f:α->Tg}{lo hi:Nat}{v:V}{xs:List α}(h:bU K H v (.tup (xs.map f)))(c:lo<=xs.length)(d:xs.length<=hi)(k:∀v x,x∈xs->bU K H v (f x)->S K H v x):pR S lo hi K H v xs:=by obtain⟨a,b,rfl,g,h⟩:=aD6 h;exact⟨⟨a,b,rfl,g,bEt h k⟩,c,d⟩
def bD5 {q:Qn}:∀{v:V},bU K H v (tgq q)->Wf q->IsQ K H v q:=by
 induction q with
 |table T=>intro v h k;obtain⟨a,f,i,rfl,g,b,c⟩:=tg2 h;cases dH b;cases dH c;exact .table g k
 |whr q ts ih=>intro v h k;obtain⟨a,f,i,j,rfl,g,b,c,d⟩:=tg3 h;cases dH b;exact .whr g (ih c k.1) (uF d k.2.1 k.2.2.1 λv x m h=>bDq h (k.2.2.2 x m))
 |keep q ns ih=>intro v h k;obtain⟨a,f,i,j,rfl,g,b,c,d⟩:=tg3 h;cases dH b;exact .keep g (ih c k.1) (uF d k.2.1 k.2.2.1 λv x m h=>⟨dH h,k.2.2.2 x m⟩)
 |nmd q ns ih=>intro v h k;obtain⟨a,f,i,j,rfl,g,b,c,d⟩:=tg3 h;cases dH b;exact .nmd g (ih c k.1) (uF d k.2.1 k.2.2.1 λv x m h=>⟨dH h,k.2.2.2 x m⟩)
 |join q r ps ih ir=>intro v h k;obtain⟨a,f,i,j,n,rfl,g,b,c,d,l⟩:=tg4 h;cases dH b;exact .join g (ih c k.1) (ir d k.2.1) (uF l k.2.2.1 k.2.2.2.1 λv x m h=>let ⟨a,e,g⟩:=aW2 h;⟨a,e,g,k.2.2.2.2 x m⟩)
 |group q ns ss ih=>intro v h k;obtain⟨a,f,i,j,n,rfl,g,b,c,d,l⟩:=tg4 h;cases dH b;exact .group g (ih c k.1) (uF d (bAK _) k.2.1 λv x m h=>⟨dH h,k.2.2.1 x m⟩) (uF l (bAK _) k.2.2.2.1 λv x m h=>bC1 h (k.2.2.2.2 x m))
 |first q ks m ih=>intro v h k;obtain⟨a,f,i,j,n,rfl,g,b,c,d,l⟩:=tg4 h;cases dH b;cases l;exact .first g (ih c k.1) (uF d (bAK _) k.2.1 λv x m h=>let ⟨a,e,g⟩:=aW2 h;⟨a,e,g,k.2.2.1 x m⟩) k.2.2.2
end
inductive Tre:Tg->Nat->Prop
 |non {n}:Tre .non (n+1)
 |int {i n}:Tre (.int i) (n+1)
 |str {x n}:Tre (.str x) (n+1)
 |tup {ts n}:(∀t,t∈ts->Tre t n)->Tre (.tup ts) (n+1)
def Tre.up (h:Tre t n):∀{m},n<=m->Tre t m:=by
 induction h with
 |non=>intro m l;obtain⟨k,rfl⟩:∃k,m=k+1:=⟨m - 1,by lia⟩;exact .non
 |int=>intro m l;obtain⟨k,rfl⟩:∃k,m=k+1:=⟨m - 1,by lia⟩;exact .int
 |str=>intro m l;obtain⟨k,rfl⟩:∃k,m=k+1:=⟨m - 1,by lia⟩;exact .str
 |tup _ ih=>intro m l;obtain⟨k,rfl⟩:∃k,m=k+1:=⟨m - 1,by lia⟩;exact .tup λt h=>ih t h (by lia)
def tQ {α:Type}{f:α->Tg}{xs:List α}{n:Nat}(h:∀x,Tre (f x) n):Tre (.tup (xs.map f)) (n+1):=.tup λt m=>by obtain⟨x,_,rfl⟩:=List.mem_map.mp m;exact h x
def bCh (v:V):Tre (tgV v) 1:=by cases v <;> first|exact .int|exact .str|exact .non
def bQ (h:Tre t n)(k:Tre (.tup ts) (n+1)):Tre (.tup (t::ts)) (n+1):=.tup λx m=>by
 rcases List.mem_cons.mp m with rfl|m
 ·exact h
 ·cases k with
  |tup k=>exact k x m
def jT:Tre (.tup []) (n+1):=.tup λx m=>by cases m
def bHm (o:Oth):Tre (tgO o) 2:=by
 cases o with
 |val v=>exact bQ .str (bQ (bCh v) jT)
 |col d=>exact bQ .str (bQ .str jT)
def bCm (t:Tst):Tre (tgT t) 3:=bQ .str (bQ .str (bQ (bHm _) jT))
def aSd (p:Str × Str):Tre (tgP p) 3:=bQ .str (bQ .str jT)
def bCf (s:Sm):Tre (tgS s) 3:=bQ .str (bQ (by cases s.c <;> first|exact .non|exact .str) (bQ .str jT))
def aYb (a:vs.length=ts.length)(h:∀(i:Nat) (v:V) (t:Tg),vs[i]?=some v->ts[i]?=some t->bU K H v t):eX K H vs ts:=by
 induction ts generalizing vs with
 |nil=>
  cases vs with
  |nil=>exact .nil
  |cons v vs=>cases a
 |cons t ts ih=>
  cases vs with
  |nil=>cases a
  |cons v vs=>exact .cons (h 0 v t rfl rfl) (ih (by simpa using a) λi x y b c=>h (i+1) x y (by simpa using b) (by simpa using c))
def bDi {H:Hp}{vs:List V}{ts:List Tg}(h:eX K H vs ts){i:Nat}{v:V}{t:Tg}(a:vs[i]?=some v)(c:ts[i]?=some t):bU K H v t:=by obtain⟨b,e,r⟩:=h.at a;rw[c] at e;cases e;exact r
def rJ {H H':Hp}(e:TK K H H'){t:Tg}{n:Nat}(d:Tre t n):∀{v:V},bU K H v t->bU K H' v t:=by
 induction d with
 |non=>intro v h;cases h;exact .non
 |int=>intro v h;cases h;exact .int
 |str=>intro v h;cases h with|str h=>exact .str h
 |tup _ ih=>intro v h;obtain⟨a,f,rfl,g,l,r⟩:=nH h;exact .tup (e _ _ g) l (aYb r.len λi v t c b=>ih t (bAQ b) (bDi r c b))
def Nw (mg:bFT)(x:Addr)(H:Hp)(E:XK):Prop:=∀C e H',mg "NoWords"=some (.ref C)->But x H H'->E (.ref C) (some e) H'
structure Ct (mg:bFT)(H:Hp)(E:XK)(C x L:Addr)(ws:List Str)(i:Nat):Prop where
 wd:lD H C x L ws i
 ln:∀a∈ws,a.length<=100000
 fw:ws.length<=1000
 nw:Nw mg x H E
section
variable {H H1:Hp}{E:XK}{C x L:Addr}{ws:List Str}{i j:Nat}
def Nw.go (h:Nw mg x H E)(b:But x H H1):Nw mg x H1 E:=λC e d m a=>h C e d m λc o n q=>a c o n (b c o n q)
def Ct.go (h:Ct mg H E C x L ws i)(r:Rd C x L ws H H1 j):Ct mg H1 E C x L ws j:=⟨r.wd,h.ln,h.fw,h.nw.go r.but⟩
def Ct.rf (h:Ct mg H E C x L ws i):Rf mg .words H E:=λC e a m s=>h.nw C e a m λb o _ q=>s _ _ q
def Ct.raise (h:Ct mg H E C x L ws i)(d:ExT K mg gQ "NoWords" "ShardError.__init__" Cw S)(b:But x H H1):aGc Cw E (eE (tC V.non) pP) D σ H1:=
 ⟨rfl,λe g j a f=>h.nw Cw e _ d.mg λc o n q=>by have q:=b c o n q;rw[aR (aX q a)];exact q⟩
end
inductive oO (mg:bFT)(C:Addr)(vs:List V)(H:Hp)(Q:VK)(E:XK):Prop
 |mk (x L:Addr) (ws:List Str) (i:Nat) (_:vs=[.ref x]) (_:Ct mg H E C x L ws i) (_:∀a r H',ws.drop i=a::r->Rd C x L ws H H' (i+1)->Q (.str a) H')
def aVu (T:!Txt)(b:ExT K mg gQ "NoWords" "ShardError.__init__" Cw S)(c:Cls K C)(D:lN K C "word" "Words.word" nY m5)(u:iQ K C "taken_count")(d:!OkM C 1 "ahead" m5 (jN C)):!iU C 3 "word" m5 (oO mg C):=by
 refine iU.ofV c D mD (by trivial) (λf y A m s H G Q E p h=>?_)
 obtain⟨x,L,n,i,rfl,o,q⟩:=h;have v:=mD.nd;refine⟨_,(aA (aQ 1 (bN (d.mono (by decide)) p (vv 0))) (aA (bH (cU aPs (vv 1) dO) (aB (iI b (λz B F=>jQ (k:=0) F iG (hinit T z)) (p.mono (by first|decide|lia)) fZ rfl (by rfl) (va1 dO))) aP) (aA (zQ (K:=K) (vv 0) (aO dR (zF (K:=K) (vv 0)) aD)) (aB (aK (vv 1)))))),?_⟩;have l:=o.wd;obtain⟨j,g⟩:=l.at_;refine⟨_,rfl,x,j,_,rfl,g,rfl,x,L,n,i,rfl,l,?_⟩;cases e:n.drop i with
 |nil=>exact⟨_,rfl,rfl,_,rfl,bV (o.raise b λ_ _ _ q=>q)⟩
 |cons a r=>have t:=(List.getElem?_eq_some_iff.mp (cC e).1).1;refine⟨_,rfl,rfl,_,rfl,aZ ?_⟩;refine⟨_,rfl,x,C,j,_,_,rfl,g,c,u,rfl,_,_,rfl,rfl,_,rfl,x,C,j,_,rfl,g,c,u,by show 2<1000;decide,?_⟩;exact⟨_,rfl,q a r _ e (Rd.one l g rfl t)⟩
inductive sX (mg:bFT)(C:Addr)(vs:List V)(H:Hp)(Q:VK)(E:XK):Prop
 |mk (x L:Addr) (ws:List Str) (i:Nat) (_:vs=[.ref x]) (_:Ct mg H E C x L ws i) (_:∀a r H',ws.drop i=a::r->Nm a->Rd C x L ws H H' (i+1)->Q (.str a) H')
def mV {ws r:List Str}{i:Nat}{a:Str}(h:ws.drop i=a::r):a∈ws:=bCV (by rw[h];exact j7 ..)
def aVy (T:!Txt){C Cw S:Addr}(b:ExT K mg gQ "NoWords" "ShardError.__init__" Cw S)(c:Cls K C)(D:lN K C "name" "Words.name" nZ m5)(J:!Ok 2 "is_name" f9 (pM K nameB))(d:!iU C 3 "word" m5 (oO mg C)):!iU C 4 "name" m5 (sX mg C):=by
 refine iU.ofV c D mO (by trivial) (λf B A g s H G Q E n h=>?_)
 obtain⟨x,L,o,i,rfl,e,q⟩:=h;have z:=mO.nd;refine⟨_,(aA (aQ 1 (dG (d.mono (by decide)) n cH (vv 0))) (aA (bH (fY (dB (bY J (va1 (vv 1))))) (aB (iI b (λy I F=>jQ (k:=0) F iG (hinit T y)) (n.mono (by first|decide|lia)) fZ rfl (by rfl) (va1 dO))) aP) (aB (aK (vv 1))))),?_⟩;obtain⟨u,p⟩:=e.wd.at_;refine⟨_,rfl,x,u,_,rfl,p,rfl,x,L,o,i,rfl,e,λa r M j m=>?_⟩;refine⟨_,rfl,_,rfl,.inl ⟨a,rfl,e.ln a (mV j)⟩,λt l=>⟨_,rfl,?_⟩⟩;cases v:nameB (.str a) with
 |true=>exact aZ ⟨_,rfl,q a r t j v (m.sm l)⟩
 |false=>exact bV (e.raise b (m.sm l).but)
inductive aH5 (mg:bFT)(C:Addr)(vs:List V)(H:Hp)(Q:VK)(E:XK):Prop
 |mk (x L:Addr) (ws:List Str) (i:Nat) (_:vs=[.ref x]) (_:Ct mg H E C x L ws i) (_:∀v r H',ws.drop i=shw v::r->Vl v->Rd C x L ws H H' (i+1)->Q v H')
def aUo (T:!Txt){C z S:Addr}(j:ExT K mg gQ "NoWords" "ShardError.__init__" z S)(c:Cls K C)(D:lN K C "value" "Words.value" mL m5)(d:!OkX 3 "read_value" bQG (aD8 K z))(b:!iU C 3 "word" m5 (oO mg C)):!iU C 4 "value" m5 (aH5 mg C):=by
 refine iU.ofV c D uX (by trivial) (λf I A l s H J Q E p h=>?_)
 obtain⟨x,L,B,i,rfl,k,q⟩:=h;refine⟨_,(aB (aK (gW (d.mono (by decide)) p cH (by rfl) (va1 (dG (b.mono (by decide)) p cH (vv 0)))))),?_⟩;obtain⟨y,v⟩:=k.wd.at_;refine⟨_,rfl,x,y,_,rfl,v,rfl,x,L,B,i,rfl,k,λa r n t o=>⟨_,rfl,.inl ⟨a,rfl,k.ln a (mV t)⟩,?_⟩⟩;show (match rdV a with|some u=>∀g,Same n g->Q u g|none=>∀e g,Same n g->E (.ref z) (some e) g);cases e:rdV a with
 |some u=>obtain⟨G,F⟩:=aYf e;intro g m;exact q u r g (by rw[G];exact t) F (o.sm m)
 |none=>exact λe g m=>k.nw z e g j.mg (o.sm m).but
inductive aLz (mg:bFT)(C:Addr)(vs:List V)(H:Hp)(Q:VK)(E:XK):Prop
 |mk (x L:Addr) (ws:List Str) (i:Nat) (y:Str) (_:vs=[.ref x,.str y]) (_:Ct mg H E C x L ws i) (_:∀r H',ws.drop i=y::r->Rd C x L ws H H' (i+1)->Q .non H')
def aX9 (T:!Txt)(b:ExT K mg gQ "NoWords" "ShardError.__init__" Cw S)(c:Cls K C)(D:lN K C "need" "Words.need" nP o7)(d:!OkM C 2 "takes" o7 (pF C)):!iU C 3 "need" o7 (aLz mg C):=by
 refine iU.ofV c D xZ (by trivial) (λf u A l s H G Q E t h=>?_)
 obtain⟨x,L,m,i,y,rfl,j,q⟩:=h;refine⟨_,(aB (bH (fY (dB (bB4 d (vv 0) (va1 (vv 1))))) (aB (iI b (λv B F=>jQ (k:=0) F iG (hinit T v)) (t.mono (by first|decide|lia)) fZ rfl (by rfl) (va1 dO))) aP)),?_⟩;obtain⟨o,n⟩:=j.wd.at_;refine⟨_,rfl,x,o,_,rfl,n,rfl,_,rfl,x,L,m,i,y,rfl,j.wd,λg z p=>⟨_,rfl,aZ ?_⟩,λ_=>⟨_,rfl,bV (j.raise b λ_ _ _ q=>q)⟩⟩;cases e:m.drop i with
 |nil=>rw[e] at g;cases g
 |cons a r=>rw[e] at g;cases g;exact q r z e p
inductive aRr (mg:bFT)(C:Addr)(vs:List V)(H:Hp)(Q:VK)(E:XK):Prop
 |mk (x L:Addr) (ws:List Str) (i:Nat) (_:vs=[.ref x]) (_:Ct mg H E C x L ws i) (_:(ws.drop i=[]->Q .non H))
def aZg (T:!Txt)(b:ExT K mg gQ "NoWords" "ShardError.__init__" Cw S)(c:Cls K C)(D:lN K C "need_end" "Words.need_end" jC m5)(d:!OkM C 1 "ahead" m5 (jN C)):!iU C 3 "need_end" m5 (aRr mg C):=by
 refine iU.ofV c D qO (by trivial) (λf p A j s H v Q E m h=>?_)
 obtain⟨x,L,l,i,rfl,g,q⟩:=h;refine⟨_,(aB (bH (cU aAu (bN (d.mono (by decide)) m (vv 0)) dO) (aB (iI b (λt u F=>jQ (k:=0) F iG (hinit T t)) (m.mono (by first|decide|lia)) fZ rfl (by rfl) (va1 dO))) aP)),?_⟩;obtain⟨o,n⟩:=g.wd.at_;refine⟨_,rfl,x,o,_,rfl,n,rfl,x,L,l,i,rfl,g.wd,?_⟩;cases e:l.drop i with
 |nil=>exact⟨rfl,_,rfl,aZ (q e)⟩
 |cons a r=>exact⟨rfl,_,rfl,bV (g.raise b λ_ _ _ q=>q)⟩
inductive aGl (K:bFQ)(C:Addr)(vs:List V)(H:Hp)(Q:VK)(E_:XK):Prop
 |mk (x L:Addr) (ws:List Str) (i:Nat) (_:vs=[.ref x]) (_:lD H C x L ws i) (_:(∀a∈ws,a.length<=100000)) (_:ws.length<=1000) (_:∀t H' ns r,ws.drop i=ns++r->(∀n∈ns,Nm n)->Rd C x L ws H H' (i+ns.length)->SqT K H' t (ns.map V.str)->Q (.ref t) H')
def aPe (T:!Txt)(c:Cls K C)(D:lN K C "names" "Words.names" mG m5)(cB:!Ok 2 "is_name" f9 (pM K nameB))(d:!OkM C 1 "ahead" m5 (jN C))(j:!OkM C 2 "word" m5 (iD C λ_=>True)):!OkM C 3 "names" m5 (aGl K C):=by
 refine OkM.ofV c D lK (by trivial) (λf a1 A B s H vs Q E R h=>?_)
 obtain⟨x,L,b,i,rfl,S,hl,hf,q⟩:=h;have a0:=lK.nd;refine⟨_,(aA (aQ 1 (bC jJ)) (aA (jL PassesOwn.never (dB (bY cB (va1 (bN (d.mono (by decide)) R (vv 0))))) (aB (dD (iB PySem.F.plainAttrs_list PySem.F.slot_list_append PySem.F.type_list_append eF (vv 1) (va1 (bN (j.mono (by decide)) R (vv 0))))))) (aB (aK (bK cA (by rfl) T.cW cG (va1 (vv 1))))))),?_⟩;refine⟨(by decide),λl H1 fD X W=>?_⟩;have r1:=(Rd.refl S).sm X;refine⟨λm σ r=>∃done,(∀n∈done,Nm n)/\b.drop i=done++b.drop (i+done.length)/\m=(b.drop (i+done.length)).length/\σ=[some (.ref x),some (.ref l)]/\Rd C x L b H r (i+done.length)/\r l=some (.lst (done.map V.str)),⟨_,[],(λn h=>by cases h),rfl,rfl,rfl,r1,W⟩,?_⟩;rintro m σ r ⟨done,hn,hd,rfl,rfl,rd,gD⟩;obtain⟨dx,Z⟩:=rd.wd.at_;refine⟨_,rfl,x,dx,_,rfl,Z,rfl,x,L,b,_,rfl,rd.wd,?_⟩;have v:∀a∈b.drop (i+done.length),a.length<=100000:=λa m=>hl a (bCV m);refine⟨_,rfl,aWo v,λH2 O=>⟨_,rfl,?_⟩⟩;have g:=rd.sm O;have k:=O _ _ gD;have p:aHf (tCB (aRh K) (eE (iK 1) pP)) { nx:=λ_ r=>Q .non r,rt:=Q } [some (.ref x),some (.ref l)] H2:=
  ⟨_,rfl,l,_,rfl,SqL.of k,λt J ft Y g3=>q t J done _ hd hn (g.sm Y) (SqT.of g3)⟩
 cases e:b.drop (i+done.length) with
 |nil=>exact aZ p
 |cons a rest=>
  show if nameB (.str a)=true then _ else _
  cases G:nameB (.str a) with
  |false=>exact aZ p
  |true=>
   refine bV ⟨fun M o=>∃m',m'<(a::rest).length/\∃done,(∀n∈done,Nm n)/\b.drop i=done++b.drop (i+done.length)/\m'=(b.drop (i+done.length)).length/\M=[some (.ref x),some (.ref l)]/\Rd C x L b H o (i+done.length)/\o l=some (.lst (done.map V.str)),fun M o h=>h,?_⟩;obtain⟨I,z⟩:=g.wd.at_;refine⟨_,rfl,.inl ⟨rfl,_,SqL.of k⟩,_,rfl,x,I,_,rfl,z,rfl,x,L,b,_,a,_,rfl,g.wd,e,trivial,λJ N=>?_⟩;have u:=N.lst g.wd k;have U:=(cC e).2;refine⟨l,_,_,rfl,rfl,u,?_,?_⟩
   ·have:=congrArg List.length hd;rw[j6,bBD] at this;rw[j5];exact eG (by lia)
   ·have y:i+(done++[a]).length=i+done.length+1:=by rw[j6];rfl
    refine⟨rest.length,by rw[d9];lia,done++[a],λn h=>?_,?_,?_,rfl,?_,?_⟩
    ·rcases List.mem_append.mp h with h|h
     ·exact hn n h
     ·rw[List.mem_singleton.mp h];exact G
    ·rw[y,U,hd,e,bAB];rfl
    ·rw[y,U]
    ·rw[y];exact (g.trans N).upd S fD
    ·rw[aJ,bAH];rfl
def aW0 (K:bFQ)(mg:bFT):Sp:=λvs H Q E=>∃a,vs=[.str a]/\a.length<=100000/\Rf mg .words H E/\∀v o H',wO o=a->OkO o->Same H H'->bU K H' v (tgO o)->Q v H'
def aFu (T:!Txt)(c:ExT K mg gQ "NoWords" "ShardError.__init__" Cw S)(F:!Ok 2 "is_name" f9 (pM K nameB))(b:!OkX 3 "read_value" bQG (aD8 K Cw)):!OkX 4 "read_other" bQG (aW0 K mg):=by
 refine OkX.ofV T.aA7 xW (by trivial) (λf C A m s H G Q E x h=>?_)
 obtain⟨a,rfl,r,y,q⟩:=h;refine⟨_,(aB (aK (mW (dB (bY F (va1 (vv 0)))) (aW (aG aF (va1 (vv 0)))) (aW (aG aF (va1 (gW (b.mono (by decide)) x cH (by rfl) (va1 (vv 0))))))))),?_⟩;refine⟨_,rfl,_,rfl,.inl ⟨_,rfl,r⟩,λt j=>⟨_,rfl,?_⟩⟩;cases n:nameB (.str a) with
 |true=>exact bV ⟨_,rfl,sz2,λp g _ k i=>q _ (.col a) g rfl n (j.trans k) (IsO.tg (o:=.col a) ⟨p,rfl,SqT.of i,n⟩)⟩
 |false=>
  refine aZ ⟨_,rfl,_,rfl,.inl ⟨_,rfl,r⟩,?_⟩;show (match rdV a with|some u=>∀d,Same t d->_|none=>∀e d,Same t d->E (.ref Cw) (some e) d);cases e:rdV a with
  |some u=>obtain⟨B,l⟩:=aYf e;intro D z;exact⟨sz2,λp g _ k i=>q _ (.val u) g B l (j.trans (z.trans k)) (IsO.tg (o:=.val u) ⟨p,rfl,SqT.of i,l.th,l⟩)⟩
  |none=>exact λe d v=>y Cw e d c.mg (j.trans v)
theorem aCc:∀ls:List (List Str),bJ x (ls++[a])=bJ x ls++x::a
 |[]=>by show x::(a++[])=_;rw[bAJ];rfl
 |b::r=>by show x::(b++bJ x (r++[a]))=x::(b++bJ x r)++x::a;rw[aCc r,bBA,bAB]
def aV4 (h:ls≠[]):dU (ls++[a])=dU ls++("and":Str)::a:=by
 cases ls with
 |nil=>exact absurd rfl h
 |cons b r=>rw[bBA,vR,vR,aCc,bAB]
theorem aJg {x:Str}:∀ls:List (List Str),ls.length<=(bJ x ls).length
 |[]=>v7 _
 |a::r=>by have:=aJg (x:=x) r;show _<=(x::(a++bJ x r)).length;rw[d9,d9,j6];lia
def bEd (h:∀l∈ls,l≠[]):ls.length<=(dU ls).length:=by
 cases ls with
 |nil=>exact v7 _
 |cons a r=>have b:=aJg (x:="and") r;have c:=List.length_pos_iff.mpr (h a (j7 ..));rw[vR,d9,j6];lia
def RwT (t:Tst):Prop:=Nm t.c/\OkO t.o/\t.sg.length<=100000
def RwK (p:Str × Str):Prop:=Nm p.1/\p.2.length<=100000
def RwS (s:Sm):Prop:=Nm s.new/\s.wd.length<=100000/\((s.wd = "count"/\s.c=none)\/(s.wd≠"count"/\∃c,s.c=some c/\Nm c))
def xQ {α:Type}(K:bFQ)(mg:bFT)(C:Addr)(f:α->Tg)(wd:α->List Str)(F:α->Prop):Sp:=λvs H Q E=>∃x L ws i,vs=[.ref x]/\Ct mg H E C x L ws i/\∀v a r H',ws.drop i=wd a++r->F a->Rd C x L ws H H' (i+(wd a).length)->bU K H' v (f a)->Q v H'
section
variable {C Cw S:Addr}
def aGs (T:!Txt)(e:!iU C 4 "name" m5 (sX mg C))(d:!iU C 3 "word" m5 (oO mg C))(g:!OkX 4 "read_other" bQG (aW0 K mg)):!OkX 5 "read_test" u9 (xQ K mg C tgT wT RwT):=by
 refine OkX.ofV T.aC7 zZ (by trivial) (λf a0 A r s H vs Q E m h=>?_)
 obtain⟨x,L,k,i,rfl,j,q⟩:=h;refine⟨_,(aB (aK (aW (aG (dG (e.mono (by decide)) m cH (vv 0)) (aG (dG (d.mono (by decide)) m cH (vv 0)) (va1 (gW (g.mono (by decide)) m cH (by rfl) (va1 (dG (d.mono (by decide)) m cH (vv 0)))))))))),?_⟩;obtain⟨Z,Y⟩:=j.wd.at_;refine⟨_,rfl,x,Z,_,rfl,Y,rfl,x,L,k,i,rfl,j,λa ra H1 J N u=>?_⟩;have F:=j.go u;have X:=(cC J).2;obtain⟨t,y⟩:=u.wd.at_;refine⟨_,rfl,x,t,_,rfl,y,rfl,x,L,k,_,rfl,F,λb rb H2 l B=>?_⟩;have D:=F.go B;have V:=(cC l).2;obtain⟨z,n⟩:=B.wd.at_;refine⟨_,rfl,x,z,_,rfl,n,rfl,x,L,k,_,rfl,D,λc M H3 O G=>⟨c,rfl,j.ln c (mV O),(D.go G).rf,λv o H4 W S R U=>⟨sz3,λp H5 _ I g5=>?_⟩⟩⟩;refine q _ ⟨a,b,o⟩ M H5 ?_ ⟨N,S,j.ln b (mV l)⟩ ((u.trans (B.trans G)).sm (R.trans I)) (.tup (SqT.of g5) (by show 3<=1000;decide) (.cons (lJ N) (.cons (.str (j.ln b (mV l))) (.cons (U.same I) .nil))));show k.drop i=a::b::wO o::M;rw[J,<-X,l,<-V,O,W]
def aG3 (T:!Txt)(c:!iU C 4 "name" m5 (sX mg C)):!OkX 5 "read_pair" u9 (xQ K mg C tgP wP OkP):=by
 refine OkX.ofV T.aCs aAf (by trivial) (λf J A e s H N Q E n h=>?_)
 obtain⟨x,L,d,i,rfl,k,q⟩:=h;refine⟨_,(aB (aK (aW (aG (dG (c.mono (by decide)) n cH (vv 0)) (va1 (dG (c.mono (by decide)) n cH (vv 0))))))),?_⟩;obtain⟨z,y⟩:=k.wd.at_;refine⟨_,rfl,x,z,_,rfl,y,rfl,x,L,d,i,rfl,k,λa M R o t j=>?_⟩;have u:=k.go j;have v:=(cC o).2;obtain⟨g,l⟩:=j.wd.at_;refine⟨_,rfl,x,g,_,rfl,l,rfl,x,L,d,_,rfl,u,λb m O B r I=>⟨sz2,λp D _ F G=>?_⟩⟩;refine q _ (a,b) m D ?_ ⟨t,r⟩ ((j.trans I).sm F) (.tup (SqT.of G) (by show 2<=1000;decide) (.cons (lJ t) (.cons (lJ r) .nil)));show d.drop i=a::b::m;rw[o,<-v,B]
def aKy (T:!Txt)(d:!iU C 4 "name" m5 (sX mg C))(c:!iU C 3 "word" m5 (oO mg C)):!OkX 5 "read_key" u9 (xQ K mg C tgP wP RwK):=by
 refine OkX.ofV T.aF0 aDg (by trivial) (λf J A j s H N Q E r h=>?_)
 obtain⟨x,L,g,i,rfl,e,q⟩:=h;refine⟨_,(aB (aK (aW (aG (dG (d.mono (by decide)) r cH (vv 0)) (va1 (dG (c.mono (by decide)) r cH (vv 0))))))),?_⟩;obtain⟨B,z⟩:=e.wd.at_;refine⟨_,rfl,x,B,_,rfl,z,rfl,x,L,g,i,rfl,e,λa M R t u m=>?_⟩;have v:=e.go m;have y:=(cC t).2;obtain⟨k,n⟩:=m.wd.at_;refine⟨_,rfl,x,k,_,rfl,n,rfl,x,L,g,_,rfl,v,λb o O l I=>⟨sz2,λp D _ F G=>?_⟩⟩;refine q _ (a,b) o D ?_ ⟨u,e.ln b (mV l)⟩ ((m.trans I).sm F) (.tup (SqT.of G) (by show 2<=1000;decide) (.cons (lJ u) (.cons (.str (e.ln b (mV l))) .nil)));show g.drop i=a::b::o;rw[t,<-y,l]
def aK9 (T:!Txt)(d:!iU C 4 "name" m5 (sX mg C))(e:!iU C 3 "word" m5 (oO mg C)):!OkX 5 "read_sum" u9 (xQ K mg C tgS wS RwS):=by
 refine OkX.ofV T.aEr qH (by trivial) (λf a1 A F s H vs Q E J h=>?_)
 obtain⟨x,L,g,i,rfl,u,q⟩:=h;have a0:=qH.nd;refine⟨_,(aA (aQ 1 (dG (e.mono (by decide)) J cH (vv 0))) (aA (aQ 2 (mW (cU cV (vv 1) aF) dO (dG (d.mono (by decide)) J cH (vv 0)))) (aB (aK (aW (aG (vv 1) (aG (vv 2) (va1 (dG (d.mono (by decide)) J cH (vv 0)))))))))),?_⟩;obtain⟨dx,Y⟩:=u.wd.at_;refine⟨_,rfl,x,dx,_,rfl,Y,rfl,x,L,g,i,rfl,u,λa ra H1 v t=>?_⟩;have y:=u.go t;have R:=(cC v).2;have r:=u.ln a (mV v);obtain⟨j,k⟩:=t.wd.at_;refine⟨_,rfl,rfl,_,rfl,?_⟩;by_cases n:a = "count"
 ·rw[v9 (show V.str a=V.str "count" by rw[n])];refine bV ?_;refine⟨_,rfl,_,rfl,_,rfl,x,j,_,rfl,k,rfl,x,L,g,_,rfl,y,λb D Z o l m=>⟨sz3,λp G _ I M=>?_⟩⟩;refine q _ ⟨a,none,b⟩ D G ?_ ⟨l,r,.inl ⟨n,rfl⟩⟩ ((t.trans m).sm I) (.tup (SqT.of M) (by show 3<=1000;decide) (.cons (.str r) (.cons .non (.cons (lJ l) .nil))));show g.drop i=a::b::D;rw[v,<-R,o]
 ·rw[m9 (show ¬ V.str a=V.str "count" from λz=>n (V.str.inj z))];refine aZ ⟨_,rfl,x,j,_,rfl,k,rfl,x,L,g,_,rfl,y,λb D Z o l m=>?_⟩;have U:=y.go m;have W:=(cC o).2;obtain⟨N,B⟩:=m.wd.at_;refine⟨_,rfl,_,rfl,_,rfl,x,N,_,rfl,B,rfl,x,L,g,_,rfl,U,λc S H3 d2 O X=>⟨sz3,λp G _ I M=>?_⟩⟩;refine q _ ⟨a,some b,c⟩ S G ?_ ⟨O,r,.inr ⟨n,b,rfl,l⟩⟩ ((t.trans (m.trans X)).sm I) (.tup (SqT.of M) (by show 3<=1000;decide) (.cons (.str r) (.cons (lJ l) (.cons (lJ O) .nil))));show g.drop i=a::b::c::S;rw[v,<-R,o,<-W,d2]
end
section
variable {C:Addr}{α:Type}{f:α->Tg}{wd:α->List Str}{F:α->Prop}
inductive aA4 (P:Program)(w:World)(K:bFQ)(mg:bFT)(base:Heap)(k:Nat)(C:Addr)(f:α->Tg)(wd:α->List Str)(F:α->Prop)(vs:List V)(H:Hp)(Q:VK)(E:XK):Prop
 |mk (x L:Addr) (ws:List Str) (i:Nat) (g:Addr) (ps:List Str) (_:vs=[.ref x,.ref g]) (_:!aRm k g ps (xQ K mg C f wd F)) (_:Ct mg H E C x L ws i) (_:∀v (as:List α) r H',as≠[]->ws.drop i=dU (as.map wd)++r->(∀a∈as,F a)->Rd C x L ws H H' (i+(dU (as.map wd)).length)->bU K H' v (.tup (as.map f))->Q v H')
def sV {k:Nat}(T:!Txt)(hk:2<=k)(tr:∀a,Tre (f a) 3)(ne:∀a,wd a≠[])(c:!OkM C 2 "takes" o7 (pF C)):!OkX (k+1) "one_and_more" v5 (!aA4 k C f wd F):=by
 refine OkX.ofV T.vO jU (λp H Q E h=>?_) (λf' a7 A Z s H p Q E hr h=>?_)
 ·obtain⟨x,L,d,i,g,ps,rfl,_⟩:=h;rfl
 obtain⟨x,L,d,i,g,ps,rfl,hg,R,q⟩:=h;have c:=c.mono hk;have a8:=jU.nd;refine⟨_,(aA (aQ 2 (bC (va1 (aFy (P:=P) (w:=w) (K:=K) (mg:=mg) (base:=base) hr cH (vv 1) (va1 (vv 0)))))) (aA (jL PassesOwn.leaving (dB (qI (c.mono (by lia)) hr (vv 0) (va1 aF))) (aB (dD (iB PySem.F.plainAttrs_list PySem.F.slot_list_append PySem.F.type_list_append eF (vv 2) (va1 (aFy (P:=P) (w:=w) (K:=K) (mg:=mg) (base:=base) hr cH (vv 1) (va1 (vv 0)))))))) (aB (aK (bK cA (by rfl) T.cW cG (va1 (vv 2))))))),?_⟩;have hW:=R.wd;refine⟨_,rfl,g,ps,_,rfl,hg,_,rfl,x,L,d,i,rfl,R,λv0 a0 r0 H1 J a2 r1 a6=>?_⟩;refine⟨sz1,λu H2 W s2 g2=>?_⟩;have a1:H u=none:=by
  cases e:H u with
  |none=>rfl
  |some o=>obtain⟨dx,hx⟩:=r1.wd.at_;rw[r1.but _ _ (λz=>by rw[z,hx] at W;cases W) e] at W;cases W
 have y:∀{H D:Hp} {v:V} {a:α},TK K H D->bU K H v (f a)->bU K D v (f a):=λe h=>rJ e (tr _) h;refine⟨λm σ D=>∃(done:List α) (p:List V),done≠[]/\d.drop i=dU (done.map wd)++d.drop (i+(dU (done.map wd)).length)/\(∀a∈done,F a)/\done.length<=1000/\m=(d.drop (i+(dU (done.map wd)).length)).length/\σ=[some (.ref x),some (.ref g),some (.ref u)]/\Rd C x L d H D (i+(dU (done.map wd)).length)/\D u=some (.lst p)/\cN (λv a=>bU K D v (f a)) p done,⟨_,[a0],[v0],(λz=>by cases z),?_,?_,(by show 1<=1000;decide),rfl,rfl,r1.sm s2,g2,.cons (a6.same s2) .nil⟩,?_⟩
 ·show d.drop i=wd a0++d.drop (i+(wd a0).length);rw[iV J];exact J
 ·intro a h;rw[List.mem_singleton.mp h];exact a2
 rintro m σ D ⟨done,p,hne,hd,hF,hl,rfl,rfl,rd,gD,hvs⟩;generalize hj:i+(dU (done.map wd)).length=j at *;obtain⟨dx,hx⟩:=rd.wd.at_;refine⟨_,rfl,x,dx,_,rfl,hx,rfl,x,L,d,j,_,rfl,rd.wd,?_,?_⟩
 ·intro O H3 U;refine⟨_,rfl,bV ⟨fun σ' r=>∃m',m'<(d.drop j).length/\∃(done:List α) (p:List V),done≠[]/\d.drop i=dU (done.map wd)++d.drop (i+(dU (done.map wd)).length)/\(∀a∈done,F a)/\done.length<=1000/\m'=(d.drop (i+(dU (done.map wd)).length)).length/\σ'=[some (.ref x),some (.ref g),some (.ref u)]/\Rd C x L d H r (i+(dU (done.map wd)).length)/\r u=some (.lst p)/\cN (λv a=>bU K r v (f a)) p done,fun σ' r h=>h,?_⟩⟩;obtain⟨rr,er⟩:∃rr,d.drop j=("and":Str)::rr:=by
   cases e:d.drop j with
   |nil=>rw[e] at O;cases O
   |cons a t=>rw[e] at O;cases O;exact⟨_,rfl⟩
  have I:=U.lst rd.wd gD;have c3:=(R.go rd).go U;refine⟨_,rfl,.inl ⟨rfl,_,SqL.of I⟩,_,rfl,g,ps,_,rfl,hg,_,rfl,x,L,d,_,rfl,c3,λv4 n N H4 G a5 r4 a3=>?_⟩;have M:=U.trans r4;have B:=r4.lst U.wd I;have lv:=hvs.len;refine⟨u,_,_,rfl,rfl,B,eG (by lia),?_⟩;have ea:=aV4 (a:=wd n) (aCg (f:=wd) hne);have em:(done++[n]).map wd=done.map wd++[wd n]:=by rw[bAH];rfl
  have Y:i+(dU ((done++[n]).map wd)).length=j+1+(wd n).length:=by rw[em,ea,j6,d9];lia
  have ed:d.drop (j+1+(wd n).length)=N:=iV G;have e4:=(cC er).2;have hw:d.drop i=dU ((done++[n]).map wd)++d.drop (i+(dU ((done++[n]).map wd)).length):=by rw[Y,ed,em,ea,hd,er,<-e4,G,bAB];rfl
  have lc:=congrArg List.length er;have X:=congrArg List.length (e4.symm.trans G);rw[d9] at lc;rw[j6] at X;refine⟨N.length,by lia,done++[n],p++[v4],(λz=>by cases (List.append_eq_nil_iff.mp z).2),hw,λa h=>?_,?_,by rw[Y,ed],rfl,by rw[Y];exact (rd.trans M).upd hW a1,aJ,(hvs.imp λ_ _ h=>y (vY B) (y (M.tk rd.wd) h)).app (.cons (y (vY B) a3) .nil)⟩
  ·rcases List.mem_append.mp h with h|h
   ·exact hF a h
   ·rw[List.mem_singleton.mp h];exact a5
  ·have h1:=bEd (ls:=(done++[n]).map wd) λl h=>by obtain⟨b,_,rfl⟩:=List.mem_map.mp h;exact ne b
   have h2:=congrArg List.length hw;rw[j6,bBD] at h2;rw[j5] at h1;have:=R.fw;lia
 ·intro O;refine⟨_,rfl,aZ ⟨_,rfl,u,_,rfl,SqL.of gD,λt H3 ft s3 g3=>?_⟩⟩;refine q _ done (d.drop j) H3 hne hd hF (by rw[hj];exact rd.sm s3) (.tup (SqT.of g3) (by have:=hvs.len;lia) (aNw (S:=λv a=>bU K H3 v (f a)) (λ_ _ h=>h) (hvs.imp λ_ _ h=>h.same s3)))
inductive aEj (P:Program)(w:World)(K:bFQ)(mg:bFT)(base:Heap)(k:Nat)(C:Addr)(f:α->Tg)(wd:α->List Str)(F:α->Prop)(vs:List V)(H:Hp)(Q:VK)(E:XK):Prop
 |mk (x L:Addr) (ws:List Str) (i:Nat) (y:Str) (g:Addr) (ps:List Str) (_:vs=[.ref x,.str y,.ref g]) (_:!aRm k g ps (xQ K mg C f wd F)) (_:Ct mg H E C x L ws i) (_:∀v (as:List α) r H',ws.drop i=bJ y (as.map wd)++r->(∀a∈as,F a)->Rd C x L ws H H' (i+(bJ y (as.map wd)).length)->bU K H' v (.tup (as.map f))->Q v H')
def uL (T:!Txt)(hk:2<=k)(tr:∀a,Tre (f a) 3)(b:!OkM C 2 "takes" o7 (pF C)):!OkX (k+1) "each_behind" o4 (!aEj k C f wd F):=by
 refine OkX.ofV T.yL lM (λl H Q E h=>?_) (λf' a0 A O s H l Q E Z h=>?_)
 ·obtain⟨x,L,c,i,y,g,ps,rfl,_⟩:=h;rfl
 obtain⟨x,L,c,i,y,g,ps,rfl,hg,R,q⟩:=h;have b:=b.mono hk;have a1:=lM.nd;refine⟨_,(aA (aQ 3 (bC jJ)) (aA (jL PassesOwn.leaving (dB (qI (b.mono (by lia)) Z (vv 0) (va1 (vv 1)))) (aB (dD (iB PySem.F.plainAttrs_list PySem.F.slot_list_append PySem.F.type_list_append eF (vv 3) (va1 (aFy (P:=P) (w:=w) (K:=K) (mg:=mg) (base:=base) Z cH (vv 2) (va1 (vv 0)))))))) (aB (aK (bK cA (by rfl) T.cW cG (va1 (vv 3))))))),?_⟩;have hW:=R.wd;refine⟨sz0,λz H2 S s2 g2=>?_⟩;have u:∀{H p:Hp} {v:V} {a:α},TK K H p->bU K H v (f a)->bU K p v (f a):=λe h=>rJ e (tr _) h;refine⟨λm σ p=>∃(done:List α) (l:List V),c.drop i=bJ y (done.map wd)++c.drop (i+(bJ y (done.map wd)).length)/\(∀a∈done,F a)/\done.length<=1000/\m=(c.drop (i+(bJ y (done.map wd)).length)).length/\σ=[some (.ref x),some (.str y),some (.ref g),some (.ref z)]/\Rd C x L c H p (i+(bJ y (done.map wd)).length)/\p z=some (.lst l)/\cN (λv a=>bU K p v (f a)) l done,⟨_,[],[],rfl,(λa h=>by cases h),(by show 0<=1000;decide),rfl,rfl,(Rd.refl hW).sm s2,g2,.nil⟩,?_⟩;rintro m σ p ⟨done,l,hd,hF,hl,rfl,rfl,rd,gD,hvs⟩;generalize hj:i+(bJ y (done.map wd)).length=j at *;obtain⟨dx,hx⟩:=rd.wd.at_;refine⟨_,rfl,x,dx,_,rfl,hx,rfl,_,rfl,x,L,c,j,_,rfl,rd.wd,?_,?_⟩
 ·intro I H3 J;refine⟨_,rfl,bV ⟨fun σ' n=>∃m',m'<(c.drop j).length/\∃(done:List α) (l:List V),c.drop i=bJ y (done.map wd)++c.drop (i+(bJ y (done.map wd)).length)/\(∀a∈done,F a)/\done.length<=1000/\m'=(c.drop (i+(bJ y (done.map wd)).length)).length/\σ'=[some (.ref x),some (.str y),some (.ref g),some (.ref z)]/\Rd C x L c H n (i+(bJ y (done.map wd)).length)/\n z=some (.lst l)/\cN (λv a=>bU K n v (f a)) l done,fun σ' n h=>h,?_⟩⟩;obtain⟨rr,U⟩:∃rr,c.drop j=y::rr:=by
   cases e:c.drop j with
   |nil=>rw[e] at I;cases I
   |cons a t=>rw[e] at I;cases I;exact⟨_,rfl⟩
  have B:=J.lst rd.wd gD;have c3:=(R.go rd).go J;refine⟨_,rfl,.inl ⟨rfl,_,SqL.of B⟩,_,rfl,g,ps,_,rfl,hg,_,rfl,x,L,c,_,rfl,c3,λv4 d G H4 r X r4 W=>?_⟩;have D:=J.trans r4;have o:=r4.lst J.wd B;have lv:=hvs.len;refine⟨z,_,_,rfl,rfl,o,eG (by lia),?_⟩;have ea:=aCc (x:=y) (a:=wd d) (done.map wd);have em:(done++[d]).map wd=done.map wd++[wd d]:=by rw[bAH];rfl
  have N:i+(bJ y ((done++[d]).map wd)).length=j+1+(wd d).length:=by rw[em,ea,j6,d9];lia
  have ed:c.drop (j+1+(wd d).length)=G:=iV r;have e4:=(cC U).2;have Y:c.drop i=bJ y ((done++[d]).map wd)++c.drop (i+(bJ y ((done++[d]).map wd)).length):=by rw[N,ed,em,ea,hd,U,<-e4,r,bAB];rfl
  have lc:=congrArg List.length U;have M:=congrArg List.length (e4.symm.trans r);rw[d9] at lc;rw[j6] at M;refine⟨G.length,by lia,done++[d],l++[v4],Y,λa h=>?_,?_,by rw[N,ed],rfl,by rw[N];exact (rd.trans D).upd hW S,aJ,(hvs.imp λ_ _ h=>u (vY o) (u (D.tk rd.wd) h)).app (.cons (u (vY o) W) .nil)⟩
  ·rcases List.mem_append.mp h with h|h
   ·exact hF a h
   ·rw[List.mem_singleton.mp h];exact X
  ·have h1:=aJg (x:=y) ((done++[d]).map wd);have h2:=congrArg List.length Y;rw[j6,bBD] at h2;rw[j5] at h1;have:=R.fw;lia
 ·intro I;refine⟨_,rfl,aZ ⟨_,rfl,z,_,rfl,SqL.of gD,λt H3 ft s3 g3=>?_⟩⟩;refine q _ done (c.drop j) H3 hd hF (by rw[hj];exact rd.sm s3) (.tup (SqT.of g3) (by have:=hvs.len;lia) (aNw (λ_ _ h=>h) (hvs.imp λ_ _ h=>h.same s3)))
end
end
section
variable {K:bFQ}
def Raw (t:Tg)(us:List Str):Prop:=∀n,SzT t n->∃q,t=tgq q/\Wf q/\wq q=us/\My.size q=n
def QT (K:bFQ)(H:Hp)(v:V)(us:List Str):Prop:=∃t n,bU K H v t/\Tre t n/\Raw t us
def QT.tk (e:TK K H H')(h:QT K H v us):QT K H' v us:=by obtain⟨t,n,b,a,c⟩:=h;exact⟨t,n,rJ e a b,a,c⟩
def aFi (h:SzT t n)(d:rP t=[q]):kW t=true/\∃m,SzT q m/\n=tG t+m:=by obtain⟨b,m,a,c⟩:=aE7 h;rw[d] at a;exact⟨b,m,iY.mp a,c⟩
def aFm (c:eO k=some [f,g])(h:kW (.tup [.str k,a,b])=true):f a=true/\g b=true:=by have h:(match eO k with|some fs=>decide (([a,b]:List Tg).length=fs.length) && (List.zipWith (λ(f:Tg->Bool) t=>f t) fs [a,b]).all id|none=>false)=true:=h;rw[c] at h;have h:(f a && (g b && true))=true:=h;rw[bES,w6] at h;exact h
def zH (d:eO k=some [f,g,e])(h:kW (.tup [.str k,a,b,c])=true):f a=true/\g b=true/\e c=true:=by have h:(match eO k with|some fs=>decide (([a,b,c]:List Tg).length=fs.length) && (List.zipWith (λ(f:Tg->Bool) t=>f t) fs [a,b,c]).all id|none=>false)=true:=h;rw[d] at h;have h:(f a && (g b && (e c && true)))=true:=h;rw[bES,w6,w6] at h;exact h
def oY {f:Tg->Bool}{α:Type}{g:α->Tg}{b a:Nat}{xs:List α}(h:dM f b a (.tup (xs.map g))=true):b<=xs.length/\xs.length<=a/\∀x∈xs,f (g x)=true:=by have h:(decide (b<=(xs.map g).length) && (decide ((xs.map g).length<=a) && (xs.map g).all f))=true:=h;rw[w6,w6,j5,decide_eq_true_eq,decide_eq_true_eq,List.all_map,bBI] at h;exact h
def bA3 (h:pH (tgT t)=true)(r:RwT t):OkT t:=by have h:(bF (.str t.c) && (lH (.str t.sg) signs && rM (tgO t.o)))=true:=h;rw[w6,w6] at h;refine⟨r.1,?_,r.2.1⟩;have a:(true && inV (.str t.sg) signs)=true:=h.2.1;rw[bBR,show signs=(["=","<",">","!"]:List Str).map V.str from rfl,oA,decide_eq_true_eq] at a;simpa [bBa] using a
def bFd (h:yU (tgP p)=true)(r:RwK p):OkK p:=by have h:(bF (.str p.1) && lH (.str p.2) xV)=true:=h;rw[w6] at h;refine⟨r.1,?_⟩;have a:(true && inV (.str p.2) xV)=true:=h.2;rw[bBR,show xV=(["up","down"]:List Str).map V.str from rfl,oA,decide_eq_true_eq] at a;simpa using a
def bC3 (h:yV (tgS s)=true)(r:RwS s):OkS s:=by
 have h:(lH (.str s.wd) iW && (bF (.str s.new) && (if aJf (.str s.wd) then aIk (tgC s.c) else bF (tgC s.c))))=true:=h;rw[w6] at h;refine⟨r.1,?_⟩;rcases r.2.2 with⟨b,a⟩|⟨ne,c,a,hc⟩
 ·exact .inl ⟨b,a⟩
 ·refine .inr ⟨c,a,hc,?_⟩;have h2:(true && inV (.str s.wd) iW)=true:=h.1;rw[bBR,show iW=(["count","sum","least","most"]:List Str).map V.str from rfl,oA,decide_eq_true_eq] at h2;simp only[bAO,bAG,or_false] at h2;rcases h2 with h2|h2|h2|h2
  ·exact absurd h2 ne
  ·exact .inl h2
  ·exact .inr (.inl h2)
  ·exact .inr (.inr h2)
def aUp (h:Nm T):Raw (.tup [.str "table",.str T]) [T]:=λn s=>by
 obtain⟨_,m,a,b⟩:=aE7 s;have:m=0:=by have a:=a;cases a;rfl
 exact⟨.table T,rfl,h,rfl,by rw[b,this];rfl⟩
def aTm {ts:List Tst}(k:Raw t us)(j:∀x∈ts,RwT x):Raw (.tup [.str "where",t,.tup (ts.map tgT)]) (us++("where":Str)::dU (ts.map wT)):=λn s=>by obtain⟨a,m,i,c⟩:=aFi s rfl;obtain⟨q,rfl,b,h,e⟩:=k m i;obtain⟨_,a⟩:=aFm rfl a;obtain⟨d,f,g⟩:=oY a;refine⟨.whr q ts,rfl,⟨b,d,f,λx m=>bA3 (g x m) (j x m)⟩,by rw[<-h];rfl,?_⟩;rw[c,<-e];show My.size q+ts.length=(ts.map tgT).length+My.size q;rw[j5];lia
def aWb (l:Raw t us)(o:∀x∈ns,Nm x):Raw (.tup [.str "keep",t,.tup (ns.map Tg.str)]) (us++("keep":Str)::ns):=λn s=>by obtain⟨a,m,j,d⟩:=aFi s rfl;obtain⟨q,rfl,c,i,h⟩:=l m j;obtain⟨_,a⟩:=aFm (f:=nA) (g:=dM bF 1 8) rfl a;obtain⟨e,b,k⟩:=oY a;exact⟨.keep q ns,rfl,⟨c,e,b,o⟩,by rw[<-i];rfl,by rw[d,<-h];show My.size q+1=1+My.size q;lia⟩
def aTs (l:Raw t us)(o:∀x∈ns,Nm x):Raw (.tup [.str "named",t,.tup (ns.map Tg.str)]) (us++("named":Str)::ns):=λn s=>by obtain⟨a,m,j,d⟩:=aFi s rfl;obtain⟨q,rfl,c,i,h⟩:=l m j;obtain⟨_,a⟩:=aFm (f:=nA) (g:=dM bF 1 8) rfl a;obtain⟨e,b,k⟩:=oY a;exact⟨.nmd q ns,rfl,⟨c,e,b,o⟩,by rw[<-i];rfl,by rw[d,<-h];show My.size q+1=1+My.size q;lia⟩
def aU1 {ns:List Str}{ss:List Sm}(l:Raw t us)(k:∀x∈ns,Nm x)(o:∀x∈ss,RwS x):Raw (.tup [.str "group",t,.tup (ns.map Tg.str),.tup (ss.map tgS)]) (us++("group":Str)::(ns++bJ "with" (ss.map wS))):=λn s=>by obtain⟨a,m,j,c⟩:=aFi s rfl;obtain⟨q,rfl,b,i,d⟩:=l m j;obtain⟨_,a,e⟩:=zH rfl a;obtain⟨_,f,_⟩:=oY a;obtain⟨_,g,h⟩:=oY e;exact⟨.group q ns ss,rfl,⟨b,f,k,g,λx m=>bC3 (h x m) (o x m)⟩,by rw[<-i];rfl,by rw[c,<-d];show My.size q+1=1+My.size q;lia⟩
def aUl {ks:List (Str × Str)}{v:V}(l:Raw t us)(o:Vl v)(p:∀x∈ks,RwK x):Raw (.tup [.str "first",t,.tup (ks.map tgP),tgV v]) (us++("first":Str)::shw v::bJ "by" (ks.map wP)):=λn s=>by
 obtain⟨b,m,j,d⟩:=aFi s rfl;obtain⟨q,rfl,c,h,e⟩:=l m j;obtain⟨_,b,a⟩:=zH rfl b;obtain⟨_,f,g⟩:=oY b;rcases o with⟨i,rfl,_⟩|⟨x,rfl,_,_⟩
 ·have a:(decide (0<=i) && decide (i<=60))=true:=a;rw[w6,decide_eq_true_eq,decide_eq_true_eq] at a;obtain⟨k,rfl⟩:∃k:Nat,i=(k:Int):=⟨i.toNat,by lia⟩;exact⟨.first q ks k,rfl,⟨c,f,λx m=>bFd (g x m) (p x m),by lia⟩,by rw[<-h];rfl,by rw[d,<-e];show My.size q+1=1+My.size q;lia⟩
 ·cases a
def aXq {t':Tg}{us':List Str}{ps:List (Str × Str)}(y:Raw t us)(r:Raw t' us')(z:∀x∈ps,OkP x):Raw (.tup [.str "join",t,t',.tup (ps.map tgP)]) (us++("join":Str)::("(":Str)::(us'++(")":Str)::("on":Str)::dU (ps.map wP))):=λn s=>by obtain⟨c,m,i,k⟩:=aE7 s;have i:=i;obtain⟨a,b,v,o,f⟩:=aAm i;obtain⟨q,rfl,j,w,p⟩:=y a v;obtain⟨e,rfl,g,h,d⟩:=r b (iY.mp o);obtain⟨_,_,c⟩:=zH rfl c;obtain⟨l,u,_⟩:=oY c;exact⟨.join q e ps,rfl,⟨j,g,l,u,z⟩,by rw[<-w,<-h];rfl,by rw[k,f,<-p,<-d];show My.size q+My.size e+1=1+(My.size q+My.size e);lia⟩
inductive aKg (K:bFQ)(mg:bFT)(C:Addr)(n:Nat)(vs:List V)(H:Hp)(Q:VK)(E:XK):Prop
 |mk (x L:Addr) (ws:List Str) (i d:Nat) (_:vs=[.ref x,.int (d:Nat)]) (_:Ct mg H E C x L ws i) (_:21<=d+n) (_:∀v u H',ws.drop i=u++ws.drop (i+u.length)->Rd C x L ws H H' (i+u.length)->QT K H' v u->Q v H')
inductive aVa (K:bFQ)(mg:bFT)(C:Addr)(n:Nat)(vs:List V)(H:Hp)(Q:VK)(E:XK):Prop
 |mk (x L:Addr) (ws:List Str) (i d:Nat) (v:V) (us:List Str) (_:vs=[.ref x,v,.int (d:Nat)]) (_:Ct mg H E C x L ws i) (_:QT K H v us) (_:21<=d+1+n) (_:∀v u H',ws.drop i=u++ws.drop (i+u.length)->Rd C x L ws H H' (i+u.length)->QT K H' v (us++("join":Str)::u)->Q v H')
inductive aY6 (K:bFQ)(mg:bFT)(C:Addr)(n:Nat)(vs:List V)(H:Hp)(Q:VK)(E:XK):Prop
 |mk (x L:Addr) (ws:List Str) (i d:Nat) (v:V) (us:List Str) (_:vs=[.ref x,v,.int (d:Nat)]) (_:Ct mg H E C x L ws i) (_:QT K H v us) (_:21<=d+1+n) (_:∀v u H',u≠[]->ws.drop i=u++ws.drop (i+u.length)->Rd C x L ws H H' (i+u.length)->QT K H' v (us++u)->Q v H')
def iZ {ws u r:List Str}{i:Nat}{a:Str}(h:ws.drop i=a::r)(b:ws.drop (i+1)=u++ws.drop (i+1+u.length)):ws.drop i=(a::u)++ws.drop (i+(a::u).length):=by have e:=(cC h).2;rw[h,<-e,d9,show i+(u.length+1)=i+1+u.length by lia,bBA,<-b]
def aEd {ws u u':List Str}{i:Nat}(h:ws.drop i=u++ws.drop (i+u.length))(a:ws.drop (i+u.length)=u'++ws.drop (i+u.length+u'.length)):ws.drop i=(u++u')++ws.drop (i+(u++u').length):=by rw[j6,<-Nat.add_assoc,bAB,<-a];exact h
def lZ {ws u r:List Str}{i:Nat}(h:ws.drop i=u++r):ws.drop i=u++ws.drop (i+u.length):=by rw[iV h];exact h
section
variable {C Cw S:Addr}
def aHd {n:Nat}(T:!Txt)(a:!iU C 3 "need" o7 (aLz mg C))(e:!OkX (7+3 * n) "read_within" bQC (aKg K mg C n))(c:!OkX 6 "one_and_more" v5 (!aA4 5 C tgP wP OkP))(g:!OkX 5 "read_pair" u9 (xQ K mg C tgP wP OkP)):!OkX (8+3 * n) "read_join" n7 (aVa K mg C n):=by
 rw[show 8+3 * n=(7+3 * n)+1 by lia];refine OkX.ofV T.aC2 oF (by trivial) (λf a1 A z s H vs Q E j h=>?_)
 obtain⟨x,L,k,i,d,v,us,rfl,m,hv,hn,qq⟩:=h;obtain⟨V,mf,r⟩:=g.held;have b:∃u,mg "read_pair"=some u/\RelV (.ref V) u:=⟨_,mf,rfl⟩;have a5:=oF.nd;refine⟨_,(aA (dD (aF2 (a.mono (by lia)) j cH (vv 0) (va1 aF))) (aA (aQ 3 (gW (e.mono (by lia)) j cH (by rfl) (aG (vv 0) (va1 (aO dR (vv 2) aD))))) (aA (dD (aF2 (a.mono (by lia)) j cH (vv 0) (va1 aF))) (aA (dD (aF2 (a.mono (by lia)) j cH (vv 0) (va1 aF))) (aB (aK (aW (aG aF (aG (vv 1) (aG (vv 3) (va1 (gW (c.mono (by lia)) j cH (by rfl) (aG (vv 0) (va1 (dX (by rfl) b))))))))))))))),?_⟩;obtain⟨dx,hx⟩:=m.wd.at_;refine⟨_,rfl,x,dx,_,rfl,hx,rfl,x,L,k,i,_,rfl,m,λr0 H1 d0 W=>?_⟩;have M:=m.go W;refine⟨_,rfl,_,rfl,_,_,rfl,rfl,x,L,k,i+1,d+1,rfl,M,by lia,λv2 R H2 d2 o J=>?_⟩;have S:=M.go o;obtain⟨I,y⟩:=o.wd.at_;refine⟨_,rfl,x,I,_,rfl,y,rfl,x,L,k,_,_,rfl,S,λa0 H3 d3 G=>?_⟩;have N:=S.go G;obtain⟨D,B⟩:=G.wd.at_;refine⟨_,rfl,x,D,_,rfl,B,rfl,x,L,k,_,_,rfl,N,λa2 H4 d4 U=>?_⟩;have c4:=N.go U;refine⟨_,rfl,_,rfl,_,rfl,x,L,k,_,V,_,rfl,r,c4,λt F a4 H5 a3 d5 hF r5 ht=>⟨sz4,λp H6 _ X g6=>?_⟩⟩;obtain⟨t0,n0,i0,O,w0⟩:=hv;obtain⟨t2,n2,Z,Y,w2⟩:=J;have l:=(G.trans (U.trans r5)).sm X;have q:=W.trans (o.trans l);have e5:=lZ d5;have e4:=iZ d4 e5;have e3:=iZ d3 e4;have e2:=aEd d2 e3;have e1:=iZ d0 e2;have el:i+1+R.length+1+1+(dU (F.map wP)).length=i+(("(":Str)::(R++(")":Str)::("on":Str)::dU (F.map wP))).length:=by simp only[d9,j6];lia
 rw[el] at q;refine qq _ _ H6 e1 q ⟨.tup [.str "join",t0,t2,.tup (F.map tgP)],max n0 (max n2 4)+1,.tup (SqT.of g6) (by show 4<=1000;decide) (.cons (.str (by trivial)) (.cons (rJ (q.tk m.wd) O i0) (.cons (rJ (l.tk o.wd) Y Z) (.cons (ht.same X) .nil)))),bQ (Tre.str.up (n:=1) (by lia)) (bQ (O.up (by lia)) (bQ (Y.up (by lia)) (bQ ((tQ aSd).up (by lia)) jT))),aXq w0 w2 hF⟩
def aMx {H:Hp}{t:Addr}{ns:List Str}(h:SqT K H t (ns.map V.str))(hn:∀n∈ns,Nm n)(b:ns.length<=1000):bU K H (.ref t) (.tup (ns.map Tg.str)):=by
 refine .tup h (by rw[j5];exact b) ?_;clear h b
 induction ns with
 |nil=>exact .nil
 |cons a r ih=>exact .cons (lJ (hn a (j7 ..))) (ih λn m=>hn n (j8 _ m))
def aG8 {n:Nat}(T:!Txt)(q:ExT K mg gQ "NoWords" "ShardError.__init__" Cw S)(O:!iU C 3 "word" m5 (oO mg C))(c:!OkM C 3 "names" m5 (aGl K C))(J:!iU C 4 "value" m5 (aH5 mg C))(X:!OkX (8+3 * n) "read_join" n7 (aVa K mg C n))(G:!OkX 6 "one_and_more" v5 (!aA4 5 C tgT wT RwT))(W:!OkX 5 "read_test" u9 (xQ K mg C tgT wT RwT))
  (M:!OkX 6 "each_behind" o4 (!aEj 5 C tgS wS RwS)) (a0:!OkX 5 "read_sum" u9 (xQ K mg C tgS wS RwS)) (I:!OkX 6 "each_behind" o4 (!aEj 5 C tgP wP RwK)) (a1:!OkX 5 "read_key" u9 (xQ K mg C tgP wP RwK)):!OkX (9+3 * n) "read_step" n7 (aY6 K mg C n):=by
 rw[show 9+3 * n=(8+3 * n)+1 by lia];refine OkX.ofV T.wD kZ (by trivial) (λf af A ab s H vs Q E hr h=>?_)
 obtain⟨x,L,ws,i,d,v,us,rfl,B,hv,hn,qq⟩:=h;obtain⟨ft,mt,a9⟩:=W.held;have l:∃u,mg "read_test"=some u/\RelV (.ref ft) u:=⟨_,mt,rfl⟩;obtain⟨fs,ms,ad⟩:=a0.held;have y:∃u,mg "read_sum"=some u/\RelV (.ref fs) u:=⟨_,ms,rfl⟩;obtain⟨fk,mk,aa⟩:=a1.held;have o:∃u,mg "read_key"=some u/\RelV (.ref fk) u:=⟨_,mk,rfl⟩;have ah:=kZ.nd;refine⟨_,(aA (aQ 3 (dG (O.mono (by lia)) hr cH (vv 0))) (aA (bH (cU cV (vv 3) aF) (aB (aK (aW (aG aF (aG (vv 1) (va1 (gW (G.mono (by lia)) hr cH (by rfl) (aG (vv 0) (va1 (dX (by rfl) l)))))))))) aP) (aA (bH (xD tE (vv 3) (aW (aG aF (va1 aF))) (by with_unfolding_all rfl)) (aB (aK (aW (aG (vv 3) (aG (vv 1) (va1 (bN (c.mono (by lia)) hr (vv 0)))))))) aP) (aA (bH (cU cV (vv 3) aF) (aB (aK (gW (X.mono (by lia)) hr cH (by rfl) (aG (vv 0) (aG (vv 1) (va1 (vv 2))))))) aP) (aA (bH (cU cV (vv 3) aF) (aA (aQ 4 (bN (c.mono (by lia)) hr (vv 0))) (aB (aK (aW (aG aF (aG (vv 1) (aG (vv 4) (va1 (gW (M.mono (by lia)) hr cH (by rfl) (aG (vv 0) (aG aF (va1 (dX (by rfl) y))))))))))))) aP) (aA (bH (cU cV (vv 3) aF) (aA (aQ 5 (dG (J.mono (by lia)) hr cH (vv 0))) (aB (aK (aW (aG aF (aG (vv 1) (aG (gW (I.mono (by lia)) hr cH (by rfl) (aG (vv 0) (aG aF (va1 (dX (by rfl) o))))) (va1 (vv 5))))))))) aP) (aB (iI q (λfI fd F=>jQ (k:=0) F iG (hinit T fI)) (hr.mono (by first|decide|lia)) fZ rfl (by rfl) (va1 dO))))))))),?_⟩;obtain⟨dx,hx⟩:=B.wd.at_;refine⟨_,rfl,x,dx,_,rfl,hx,rfl,x,L,ws,i,rfl,B,λa r0 H1 d0 r1=>?_⟩;have c1:=B.go r1;have no:∀{b:Str},a≠b->decide (V.str a=V.str b)=false:=λh=>m9 λz=>h (V.str.inj z);obtain⟨t0,n0,i0,R,w0⟩:=id hv;have fw:=B.fw;have a8:∀{N r:List Str} {j:Nat},ws.drop j=N++r->N.length<=1000:=λ{N r j} h=>by have:=congrArg List.length h;rw[j6,bBD] at this;lia
 refine⟨_,rfl,rfl,_,rfl,?_⟩;by_cases h1:a = "where"
 ·subst h1;refine bV ?_;refine⟨_,rfl,_,rfl,x,L,ws,_,ft,_,rfl,a9,c1,λt ts a4 H5 ag d5 hF Y ht=>⟨sz3,λp H6 _ s6 g6=>?_⟩⟩;have g:=(r1.trans Y).sm s6;have Z:=iZ d0 (lZ d5);rw[show i+1+(dU (ts.map wT)).length=i+(("where":Str)::dU (ts.map wT)).length by rw[d9];lia] at g;exact qq _ _ H6 (λz=>by cases z) Z g ⟨.tup [.str "where",t0,.tup (ts.map tgT)],max n0 4+1,.tup (SqT.of g6) (by show 3<=1000;decide) (.cons (.str (by trivial)) (.cons (rJ (g.tk B.wd) R i0) (.cons (ht.same s6) .nil))),bQ (Tre.str.up (n:=1) (by lia)) (bQ (R.up (by lia)) (bQ ((tQ bCm).up (by lia)) jT)),aTm w0 hF⟩
 rw[no h1];refine aZ ?_;refine⟨_,rfl,sz2,λp2 H2 _ s2 g2=>⟨p2,_,rfl,.inr (SqT.of g2),rfl,rfl,_,rfl,?_⟩⟩;have U:=r1.sm s2;have c2:=B.go U;obtain⟨a5,a2⟩:=U.wd.at_;rw[show ([V.str "keep",V.str "named"]:List V)=(["keep","named"]:List Str).map V.str from rfl,oA];have ae:=hv.tk (U.tk B.wd);by_cases h2:a∈(["keep","named"]:List Str)
 ·rw[v9 h2];refine bV ?_;refine⟨_,rfl,_,rfl,_,rfl,x,a5,_,rfl,a2,rfl,x,L,ws,_,rfl,U.wd,B.ln,B.fw,λt H5 N a4 d5 hF Y ht=>⟨sz3,λp H6 _ s6 g6=>?_⟩⟩;have g:=(U.trans Y).sm s6;have Z:=iZ d0 (lZ d5);rw[show i+1+N.length=i+(a::N).length by rw[d9];lia] at g;have a6:=aMx (s6.aV ht) hF (a8 d5);simp only[bAO,bAG,or_false] at h2;rcases h2 with rfl|rfl
  ·exact qq _ _ H6 (λz=>by cases z) Z g ⟨.tup [.str "keep",t0,.tup (N.map Tg.str)],max n0 4+1,.tup (SqT.of g6) (by show 3<=1000;decide) (.cons (.str (by trivial)) (.cons (rJ (g.tk B.wd) R i0) (.cons a6 .nil))),bQ (Tre.str.up (n:=1) (by lia)) (bQ (R.up (by lia)) (bQ ((tQ λ_=>Tre.str (n:=0)).up (by lia)) jT)),aWb w0 hF⟩
  ·exact qq _ _ H6 (λz=>by cases z) Z g ⟨.tup [.str "named",t0,.tup (N.map Tg.str)],max n0 4+1,.tup (SqT.of g6) (by show 3<=1000;decide) (.cons (.str (by trivial)) (.cons (rJ (g.tk B.wd) R i0) (.cons a6 .nil))),bQ (Tre.str.up (n:=1) (by lia)) (bQ (R.up (by lia)) (bQ ((tQ λ_=>Tre.str (n:=0)).up (by lia)) jT)),aTs w0 hF⟩
 rw[m9 h2];refine aZ ⟨_,rfl,rfl,_,rfl,?_⟩;by_cases h3:a = "join"
 ·subst h3;refine bV ⟨_,rfl,_,rfl,_,rfl,x,L,ws,_,d,v,us,rfl,c2,ae,hn,λv' u H' e r3 hq=>?_⟩;have Z:=iZ d0 e;have g:=U.trans r3;rw[show i+1+u.length=i+(("join":Str)::u).length by rw[d9];lia] at g;exact qq _ _ H' (λz=>by cases z) Z g hq
 rw[no h3];refine aZ ⟨_,rfl,rfl,_,rfl,?_⟩;by_cases h4:a = "group"
 ·subst h4;refine bV ⟨_,rfl,x,a5,_,rfl,a2,rfl,x,L,ws,_,rfl,U.wd,B.ln,B.fw,λt H5 N a4 d5 hF Y ht=>?_⟩;have c5:=c2.go Y;refine⟨_,rfl,_,rfl,_,rfl,x,L,ws,_,_,fs,_,rfl,ad,c5,λt' ss ac H6 d6 hS r6 a3=>⟨sz4,λp H7 _ s7 g7=>?_⟩⟩;have a7:=r6.sm s7;have g:=(U.trans Y).trans a7;have Z:=iZ d0 (aEd (lZ d5) (lZ d6));rw[show i+1+N.length+(bJ "with" (ss.map wS)).length=i+(("group":Str)::(N++bJ "with" (ss.map wS))).length by simp only[d9,j6];lia] at g;exact qq _ _ H7 (λz=>by cases z) Z g ⟨.tup [.str "group",t0,.tup (N.map Tg.str),.tup (ss.map tgS)],max n0 4+1,.tup (SqT.of g7) (by show 4<=1000;decide) (.cons (.str (by trivial)) (.cons (rJ (g.tk B.wd) R i0) (.cons (aMx (a7.tk Y.wd _ _ ht) hF (a8 d5)) (.cons (a3.same s7) .nil)))),bQ (Tre.str.up (n:=1) (by lia)) (bQ (R.up (by lia)) (bQ ((tQ λ_=>Tre.str (n:=0)).up (by lia)) (bQ ((tQ bCf).up (by lia)) jT))),aU1 w0 hF hS⟩
 rw[no h4];refine aZ ⟨_,rfl,rfl,_,rfl,?_⟩;by_cases h5:a = "first"
 ·subst h5;refine bV ⟨_,rfl,x,a5,_,rfl,a2,rfl,x,L,ws,_,rfl,c2,λm a4 H5 d5 hm Y=>?_⟩;have c5:=c2.go Y;refine⟨_,rfl,_,rfl,x,L,ws,_,_,fk,_,rfl,aa,c5,λt' ks ac H6 d6 hS r6 a3=>⟨_,rfl,sz4,λp H7 _ s7 g7=>?_⟩⟩;have g:=(U.trans Y).trans (r6.sm s7);have Z:=iZ d0 (iZ d5 (lZ d6));rw[show i+1+1+(bJ "by" (ks.map wP)).length=i+(("first":Str)::shw m::bJ "by" (ks.map wP)).length by simp only[d9];lia] at g;exact qq _ _ H7 (λz=>by cases z) Z g ⟨.tup [.str "first",t0,.tup (ks.map tgP),tgV m],max n0 4+1,.tup (SqT.of g7) (by show 4<=1000;decide) (.cons (.str (by trivial)) (.cons (rJ (g.tk B.wd) R i0) (.cons (a3.same s7) (.cons (bCo hm) .nil)))),bQ (Tre.str.up (n:=1) (by lia)) (bQ (R.up (by lia)) (bQ ((tQ aSd).up (by lia)) (bQ ((bCh m).up (by lia)) jT))),aUl w0 hm hS⟩
 rw[no h5];refine aZ ?_;exact B.raise (D:={ nx:=λ_ H'=>Q .non H',rt:=Q }) (σ:=[]) q U.but
def aDx (T:!Txt)(g:ExT K mg gQ "NoWords" "ShardError.__init__" Cw S)(b:!OkM C 1 "ahead" m5 (jN C))(l:!iU C 4 "name" m5 (sX mg C))
  (J:∀n,!OkX (7+3 * n) "read_within" bQC (aKg K mg C n)->!OkX (9+3 * n) "read_step" n7 (aY6 K mg C n)) :
  ∀n:Nat,!OkX (7+3 * n) "read_within" bQC (aKg K mg C n):=by
 intro n
 induction n with
 |zero=>
  have c:!OkX 1 "read_step" n7 (λ_ _ _ _=>False):=OkX.ofV T.wD kZ (λM H Q E h=>h.elim) (λf U A z s H M Q E t h=>h.elim);refine OkX.ofV (k:=6) T.mH fM (λM H Q E h=>?_) (λf U A z s H M Q E t h=>?_)
  ·obtain⟨x,L,o,i,d,rfl,_⟩:=h;rfl
  obtain⟨x,L,o,i,d,rfl,G,hn,qq⟩:=h;have a0:=fM.nd;refine⟨_,(aA (bH (cU aN8 (vv 1) (dX (by rfl) T.qN)) (aB (iI g (λZ fd F=>jQ (k:=0) F iG (hinit T Z)) (t.mono (by first|decide|lia)) fZ rfl (by rfl) (va1 dO))) aP) (aA (aQ 2 (aW (aG aF (va1 (dG (l.mono (by lia)) t cH (vv 0)))))) (aA (jL PassesOwn.leaving (VW.pt (aQ2 (cU aAu (bN (b.mono (by lia)) t (vv 0)) dO) (aLd (cU oX (bN (b.mono (by lia)) t (vv 0)) aF)))) (aB (aQ 2 (gW (c.mono (by lia)) t cH (by rfl) (aG (vv 0) (aG (vv 2) (va1 (vv 1)))))))) (aB (aK (vv 2)))))),?_⟩;refine⟨_,rfl,_,_,rfl,rfl,_,rfl,?_⟩;rw[v9 (by lia)];exact bV (G.raise (D:={ nx:=λ_ I=>Q .non I,rt:=Q }) (σ:=[]) g λ_ _ _ q=>q)
 |succ n ih=>
  have c:=J n ih;rw[show 7+3 * (n+1)=(9+3 * n)+1 by lia];refine OkX.ofV T.mH fM (λM H Q E h=>?_) (λf U A z s H M Q E t h=>?_)
  ·obtain⟨x,L,o,i,d,rfl,_⟩:=h;rfl
  obtain⟨x,L,o,i,d,rfl,G,hn,qq⟩:=h;have a0:=fM.nd;refine⟨_,(aA (bH (cU aN8 (vv 1) (dX (by rfl) T.qN)) (aB (iI g (λZ fd F=>jQ (k:=0) F iG (hinit T Z)) (t.mono (by first|decide|lia)) fZ rfl (by rfl) (va1 dO))) aP) (aA (aQ 2 (aW (aG aF (va1 (dG (l.mono (by lia)) t cH (vv 0)))))) (aA (jL PassesOwn.leaving (VW.pt (aQ2 (cU aAu (bN (b.mono (by lia)) t (vv 0)) dO) (aLd (cU oX (bN (b.mono (by lia)) t (vv 0)) aF)))) (aB (aQ 2 (gW (c.mono (by lia)) t cH (by rfl) (aG (vv 0) (aG (vv 2) (va1 (vv 1)))))))) (aB (aK (vv 2)))))),?_⟩;refine⟨_,rfl,_,_,rfl,rfl,_,rfl,?_⟩;refine qY (λ_=>G.raise g λ_ _ _ q=>q) (λ_=>?_);obtain⟨dx,hx⟩:=G.wd.at_;refine⟨_,rfl,x,dx,_,rfl,hx,rfl,x,L,o,i,rfl,G,λa r0 H1 d0 na r1=>⟨sz2,λp H2 _ s2 g2=>?_⟩⟩;refine⟨λm σ I=>∃u v,o.drop i=u++o.drop (i+u.length)/\m=(o.drop (i+u.length)).length/\σ=[some (.ref x),some (.int (d:Nat)),some v]/\Rd C x L o H I (i+u.length)/\QT K I v u,⟨_,[a],_,lZ (r:=r0) d0,rfl,rfl,r1.sm s2,_,2,.tup (SqT.of g2) (by show 2<=1000;decide) (.cons (.str (by trivial)) (.cons (lJ na) .nil)),bQ .str (bQ .str jT),aUp na⟩,?_⟩;rintro m σ I ⟨u,v,hd,rfl,rfl,rd,hv⟩;generalize W:i+u.length=j at *;have cj:=G.go rd;obtain⟨O,R⟩:=rd.wd.at_;have N:=qq v u I (by rw[W];exact hd) (by rw[W];exact rd) hv;refine⟨_,rfl,x,O,_,rfl,R,rfl,x,L,o,j,rfl,rd.wd,?_⟩;cases e:o.drop j with
  |nil=>exact⟨rfl,_,rfl,aZ ⟨_,rfl,N⟩⟩
  |cons y r=>
   refine⟨rfl,_,rfl,bV ⟨_,rfl,x,O,_,rfl,R,rfl,x,L,o,j,rfl,rd.wd,?_⟩⟩;rw[e];refine⟨rfl,_,rfl,?_⟩;refine qY (λ_=>?_) (λ_=>⟨_,rfl,N⟩);refine⟨fun σ' B=>∃m',m'<(y::r).length/\∃u v,o.drop i=u++o.drop (i+u.length)/\m'=(o.drop (i+u.length)).length/\σ'=[some (.ref x),some (.int (d:Nat)),some v]/\Rd C x L o H B (i+u.length)/\QT K B v u,fun σ' B h=>h,?_⟩;refine⟨_,rfl,_,rfl,_,rfl,x,L,o,j,d,v,u,rfl,cj,hv,by lia,λv' X H3 V e3 r3 Y=>?_⟩;subst W;have e4:=aEd hd e3;have el:i+(u++X).length=i+u.length+X.length:=by rw[j6];lia
   have l1:=congrArg List.length e3;rw[j6,e] at l1;have l2:=List.length_pos_iff.mpr V;exact⟨_,by rw[el];lia,u++X,v',e4,rfl,rfl,by rw[el];exact rd.trans r3,Y⟩
end
def bA4 (T:!Txt)(k:!OkC C 1 "Words" bQH (aF5 C))(jM:!Ok 36 "read_within" bQC (aM9 K C 10))(h:!OkM C 2 "need_end" m5 (aJ8 C))(i:!OkX 8 "checked" f9 (aBe K mg))
  (f:Addr) (cdv:Value) (A:Around) (outer:List Env) (s:Shared) (H:Hp) (Q:VK) (E:XK) (D:Room 71 (A.deeper (envOfC "read_question" (aC iH) s.heap.objs.size f cdv))) (n:Wf q) (hz:My.size q<=20) (qq:∀v H',Same H H'->IsQ K H' v q->Q v H') :
  ∃t,VSs (uT (CXR P w) P w K mg base bQQ "read_question" (aC iH) f cdv A outer s H E) (dN iH) t/\t { nx:=λ_ H'=>Q .non H',rt:=Q } (L2.start bQQ [.str (txt (wq q))]) H:=by
 obtain⟨S,ad,mS,hS,l,N,_⟩:=T.aS7;have g:=l .words;obtain⟨⟨U,fd,xc,F,B⟩,c,kp,d,O⟩:=l .ques;have a1:=jE.nd;refine⟨_,(aA (aQ 1 (bBx (k.mono (by decide)) D (by rfl) (va1 (vv 0)))) (aA (aQ 2 (bY jM (aG (vv 1) (va1 aD)))) (aA (dD (bN (h.mono (by decide)) D (vv 1))) (aB (aJc rfl rfl (by rfl) c d (λX σ₀ E ok=>(aB (aK (xE ok (i.mono (by decide)) D (by rfl) (va1 (vv 2)))))) g iG (λU=>hinit T U) (D.mono (by decide)) cH (by rfl)))))),?_⟩;have a2:=aF3 n;refine⟨_,rfl,λx u j r a0=>?_⟩;have s0:Same H (upd (upd H u (.own x)) x (.ins C u [])):=λb o e=>by rw[aR (aX e j),aR (aX e r)];exact e
 refine⟨H,x,u,_,rfl,aJ,j,s0,?_,λL H1 hL W R=>⟨rfl,?_⟩⟩
 ·have:sizeLine=2 ^ 24:=rfl;lia
 rw[rY n] at R;have hj:=bAt n;refine⟨_,rfl,x,L,wq q,0,0,q,[],rfl,R,by rw[bFJ,bAJ],n,(λy z=>by cases z),by lia,by lia,λa m=>bAF (aGb n a m).2 (by decide),λv Z I J=>?_⟩;have Y:Same H Z:=λb o e=>I.but _ _ (λz=>by rw[z,j] at e;cases e) (W _ _ e);obtain⟨G,p⟩:=I.wd.at_;refine⟨_,rfl,x,G,_,rfl,p,rfl,x,L,wq q,_,rfl,I.wd,by rw[bDN,List.drop_length],?_⟩;obtain⟨t,ht,hR⟩:=bBc J hz;exact⟨rfl,_,rfl,v,t,rfl,ht,λ_ V M=>qq v V (Y.trans M) (J.same M),λz=>absurd hR z⟩
def aNu (n:H e=none)(a:H T=none):Same H (up2 H e T C dx):=λb o h=>by unfold up2;rw[aR (aX h n),aR (aX h a)];exact h
inductive aIp (K:bFQ)(mg:bFT)(C:Addr)(vs:List V)(H:Hp)(Q:VK)(E:XK):Prop
 |mk (H0:Hp) (x dx:Addr) (v:V) (_:vs=[.ref x,v]) (_:H x=some (.ins C dx [])) (_:H0 x=none) (_:Same H0 H) (_:((∃t,v=.str t/\t.length+2<=sizeLine/\∀L H',H0 L=none->Same H0 H'->lD H' C x L (PySem.Txt.split t " ") 0->Q .non H')\/(Th K H v/\(∀t,v≠.str t)/\Rf mg .words H0 E)))
def aS0 (T:!Txt)(a:ExT K mg gQ "NoWords" "ShardError.__init__" Cw S)(c:Cls K C)(D:lN K C "__init__" "Words.__init__" jB bQH)(J:iQ K C "words")(n:iQ K C "taken_count"):!iU C 3 "__init__" bQH (aIp K mg C):=by
 refine iU.ofV c D qQ (by trivial) (λf N A g s H U Q E I h=>?_)
 obtain⟨O,x,d,v,rfl,p,B,j,h⟩:=h;refine⟨_,(aA (bH (fY (dB (aU (mR.or kY) (by rfl) T.bZ bR (aG (vv 1) (va1 (gR (v:=.ty "str") (by rfl) T.aCz vK rfl)))))) (aB (iI a (λM V F=>jQ (k:=0) F iG (hinit T M)) (I.mono (by first|decide|lia)) fZ rfl (by rfl) (va1 dO))) aP) (aA (zQ (K:=K) (vv 0) (iB PySem.F.plainAttrs_str PySem.F.slot_str_split PySem.F.type_str_split aF6 (vv 1) (va1 aF))) (aB (zQ (K:=K) (vv 0) aD)))),?_⟩;rcases h with⟨t,rfl,G,q⟩|⟨hv,nv,q⟩
 ·refine⟨_,rfl,.inl ⟨_,_,_,rfl,rfl,_,rfl,aZ ?_⟩⟩;refine⟨_,rfl,rfl,_,_,rfl,rfl,(by trivial),G,λL W i m y=>?_⟩;have l:=m _ _ p;refine⟨_,rfl,x,C,d,[],rfl,l,c,J,by decide,?_⟩;refine⟨_,rfl,x,C,d,_,rfl,aJ,c,n,by show 1<1000;decide,?_⟩;have r:L≠x:=λz=>by rw[z,p] at i;cases i
  refine q L _ (none_of j i) (λb o e=>?_) ⟨⟨d,aJ⟩,by rw[aR r,aR r];exact y,bAK _⟩;have u:b≠x:=λz=>by rw[z,B] at e;cases e
  rw[aR u,aR u];exact m _ _ (j _ _ e)
 ·refine⟨_,rfl,qX hv (.inr (.inr rfl)) ⟨_,rfl,?_⟩⟩;have e:aX3 v "str"=false:=by
   cases v with
   |str t=>exact absurd rfl (nv t)
   |_=>rfl
  rw[e];refine bV ?_;exact⟨rfl,λe d J n R=>q Cw e _ a.mg (j.trans (cF n _))⟩
def Few (t:Str):Prop:=t.length<=100000/\(PySem.Txt.split t " ").length<=1000
def bAf (h:Few t):∀a∈PySem.Txt.split t " ",a.length<=100000:=λa m=>by have c:=join_mem_le " " _ a m;have b:=vN t 32;unfold PySem.Txt.join at b;rw[StrLaws.glued_eq_join] at b;have b:Str.join " " (PySem.Txt.split t " ")=t:=b;rw[b] at c;exact bAF c h.1
inductive Rq (K:bFQ)(mg:bFT)(H:Hp)(Q:VK)(E:XK):V->Prop
 |right {q}:Wf q->My.size q<=20->(∀v H',Same H H'->IsQ K H' v q->Q v H')->Rq K mg H Q E (.str (txt (wq q)))
 |text {t}:Few t->Rf mg .words H E->(∀v q H',t=txt (wq q)->Wf q->My.size q<=20->Same H H'->IsQ K H' v q->Q v H')->Rq K mg H Q E (.str t)
 |none {v}:Th K H v->(∀t,v≠.str t)->Rf mg .words H E->Rq K mg H Q E v
def aOx (K:bFQ)(mg:bFT):Sp:=λvs H Q E=>∃v,vs=[v]/\Rq K mg H Q E v
def aAx (T:!Txt)(l:!aT0 C 3 "Words" bQH (aIp K mg C))(k:!OkX 70 "read_within" bQC (aKg K mg C 21))(i:!iU C 3 "need_end" m5 (aRr mg C))(j:!OkX 8 "checked" f9 (aBe K mg))
  (O:!OkC C 1 "Words" bQH (aF5 C)) (jM:!Ok 36 "read_within" bQC (aM9 K C 10)) (p:!OkM C 2 "need_end" m5 (aJ8 C)):!OkX 72 "read_question" bQD (aOx K mg):=by
 refine OkX.ofV T.aDt jE (by trivial) (λf a1 A I s H vs Q E y h=>?_)
 obtain⟨v,rfl,h⟩:=h;cases h with
 |right W hz qq=>exact bA4 T O jM p j f a1 A I s H Q E y W hz qq
 |@text t hF hR qq=>
  obtain⟨S,ad,mS,hS,D,G,_⟩:=T.aS7;have d:=D .words;obtain⟨⟨N,fd,xc,F,B⟩,a,kp,g,R⟩:=D .ques;have a4:=jE.nd;refine⟨_,(aA (aQ 1 (aLq (l.mono (by decide)) y cH (by rfl) (va1 (vv 0)))) (aA (aQ 2 (gW (k.mono (by decide)) y cH (by rfl) (aG (vv 1) (va1 aD)))) (aA (dD (dG (i.mono (by decide)) y cH (vv 1))) (aB (aJc rfl rfl (by rfl) a g (λZ σ₀ E ok=>(aB (aK (xE ok (j.mono (by decide)) y (by rfl) (va1 (vv 2)))))) d iG (λN=>hinit T N) (y.mono (by decide)) cH (by rfl)))))),?_⟩;refine⟨_,rfl,λx J r M a2=>?_⟩;have V:Same H (upd (upd H J (.own x)) x (.ins C J [])):=λb o e=>by rw[aR (aX e r),aR (aX e M)];exact e
  refine⟨H,x,J,_,rfl,aJ,r,V,.inl ⟨t,rfl,?_,λL H1 hL s1 hW=>⟨rfl,?_⟩⟩⟩
  ·have:sizeLine=2 ^ 24:=rfl;have:=hF.1;lia
  have fr:∀{H2:Hp},But x H1 H2->Same H H2:=λb c o e=>b _ _ (λz=>by rw[z,r] at e;cases e) (s1 _ _ e);have c1:Ct mg H1 E C x L (PySem.Txt.split t " ") 0:=⟨hW,bAf hF,hF.2,λC e H' m b=>hR C e H' m (fr b)⟩;refine⟨_,rfl,x,L,_,0,0,rfl,c1,by decide,λv u H2 d2 r2 Y=>?_⟩;have c2:=c1.go r2;obtain⟨a3,a0⟩:=r2.wd.at_;refine⟨_,rfl,x,a3,_,rfl,a0,rfl,x,L,_,_,rfl,c2,λe2=>?_⟩;rw[e2,bFJ,bAJ] at d2;obtain⟨tt,n,hi,ht,W⟩:=Y;have s2:=fr r2.but;refine⟨rfl,_,rfl,v,tt,rfl,hi,λ⟨m,hs,a6⟩ H3 s3=>?_,λ_ C0 e H' mC s'=>?_⟩
  ·obtain⟨q,rfl,U,X,hz⟩:=W m hs;have et:t=txt (wq q):=by rw[X,<-d2];exact (vN t 32).symm
   exact qq v q H3 et U (by lia) (s2.trans s3) ((bD5 hi U).same s3)
  ·rw[a] at mC;cases mC;refine⟨_,e,N,rfl,rfl,xc,G .ques .ques,T.bJc _ a,T.bIp _ d.mg,λT' a9 n1 nT a7 hd e' a5 m1 m2 a8=>hR _ e' _ d.mg ?_⟩;exact (s2.trans (s'.trans (aNu n1 nT))).trans (cF m2 _)
 |none Y nv hR=>
  obtain⟨S,ad,mS,hS,D,G,_⟩:=T.aS7;have d:=D .words;obtain⟨⟨N,fd,xc,F,B⟩,a,kp,g,R⟩:=D .ques;have a4:=jE.nd;refine⟨_,(aA (aQ 1 (aLq (l.mono (by decide)) y cH (by rfl) (va1 (vv 0)))) (aA (aQ 2 (gW (k.mono (by decide)) y cH (by rfl) (aG (vv 1) (va1 aD)))) (aA (dD (dG (i.mono (by decide)) y cH (vv 1))) (aB (aJc rfl rfl (by rfl) a g (λZ σ₀ E ok=>(aB (aK (xE ok (j.mono (by decide)) y (by rfl) (va1 (vv 2)))))) d iG (λN=>hinit T N) (y.mono (by decide)) cH (by rfl)))))),?_⟩;refine⟨_,rfl,λx J r M a2=>?_⟩;have V:Same H (upd (upd H J (.own x)) x (.ins C J [])):=λb o e=>by rw[aR (aX e r),aR (aX e M)];exact e
  exact⟨H,x,J,_,rfl,aJ,r,V,.inr ⟨Y.same V,nv,hR⟩⟩
def bW:Str.length " "=1:=by trivial
def aRf (b:∀y∈ts,y.length<=B)(a:B<=40000)(h:ts.length<=100):JoinOk " and " ts=true:=by refine aK7 b ?_;rw[show Str.length " and "=5 by trivial];have:ts.length * B<=100 * 40000:=Nat.mul_le_mul h a;lia
def dp:Qn->Nat
 |.table _=>0
 |.whr q _=>dp q+1
 |.keep q _=>dp q+1
 |.nmd q _=>dp q+1
 |.join q r _=>max (dp q) (dp r)+1
 |.group q _ _=>dp q+1
 |.first q _ _=>dp q+1
def aR5 (h:Wf q):dp q+1<=My.size q:=by
 induction q with
 |table T=>exact v7 _
 |whr q ts ih=>have:=ih h.1;have:=h.2.1;simp only[dp,My.size];lia
 |keep q ns ih=>have:=ih h.1;simp only[dp,My.size];lia
 |nmd q ns ih=>have:=ih h.1;simp only[dp,My.size];lia
 |join q r ps ih ir=>have:=ih h.1;have:=ir h.2.1;simp only[dp,My.size];lia
 |group q ns ss ih=>have:=ih h.1;simp only[dp,My.size];lia
 |first q ks m ih=>have:=ih h.1;simp only[dp,My.size];lia
def aIm (h:Stp q q' u)(c:Wf q')(hz:My.size q'<=20):(txt u).length<=31000:=by have e:=aYh h;have a:=tH λx m=>(aGb c x (by rw[e];exact bAS _ m)).2;have b:=aI9 c;rw[e,j6] at b;lia
def pY (a:Wf q)(hz:My.size q<=20):(txt (wq q)).length<=31000:=by have:=aF3 a;lia
def aZq {α:Type}{f:α->V}{as:List α}{i:Nat}{a:α}{y:V}(h:as[i]?=some a)(e:(as.map f)[i]?=some y):y=f a:=by rw[bAD,h] at e;exact (bAM e).symm
def aMj {ps:List (Str × Str)}(p1:1<=ps.length)(p3:ps.length<=3)(h:∀p∈ps,OkP p):(PySem.Txt.join " and " (ps.map λp=>txt (wP p))).length<=1000:=by
 have c:=aEa (aCg (λz=>by rw[z] at p1;cases p1)) (aRd ps);rw[bAZ] at c;have e:PySem.Txt.join " and " (ps.map λp=>txt (wP p))=txt (dU (ps.map wP)):=c;rw[e];have b:=aD2 (aQq ps);rw[j5] at b;have a:=tH (wR (by trivial) λl m t f=>by obtain⟨p,d,rfl⟩:=List.mem_map.mp m;exact aW5 (h p d) t f)
 lia
def xH (T:!Txt):!Ok 1 "_law_shown_value" bQN aMl:=by
 refine Ok.ofV T.yX xM (by trivial) (λf d A a s H j Q E e h=>?_)
 obtain⟨v,rfl,b,q⟩:=h;refine⟨_,(aA (bH (dB (aU (mR.or kY) (by rfl) T.bZ bR (aG (vv 0) (va1 (gR (v:=.ty "str") (by rfl) T.aCz vK rfl))))) (aB (aK (aO aN (aO aN aF (vv 0)) aF))) aP) (aB (aK (bK aAd (by rfl) T.aCz vK (va1 (vv 0)))))),?_⟩;refine⟨_,rfl,qX b.th (.inr (.inr rfl)) ⟨_,rfl,?_⟩⟩;rcases b with⟨i,rfl,c⟩|⟨x,rfl,hx,h8⟩
 ·exact aZ ⟨_,rfl,_,rfl,aXn c,q⟩
 ·refine bV ⟨_,rfl,_,_,rfl,rfl,?_,_,_,rfl,rfl,?_,q⟩
  ·have:Str.length "'"=1:=by trivial
   exact small (by lia)
  ·have k:Str.length "'"=1:=by trivial
   have g:(("'":Str)++x).length=1+x.length:=by rw[lF,jZ,bEs,j6,<-lF];rfl
   exact small (by lia)
def le2 {a b:Str}(ha:a.length<=100000)(hb:b.length<=100000):a.length+b.length<=sizeLine:=by have:sizeLine=2 ^ 24:=rfl;lia
def aU8 (K:bFQ):Sp:=λvs H Q _=>∃v t,vs=[v]/\IsT K H v t/\Q (.str (txt (wT t))) H
def zG (T:!Txt)(M:!Ok 1 "_law_shown_value" bQN aMl):!Ok 2 "_law_shown_test" ["_law_test"] (aU8 K):=by
 refine Ok.ofV T.aAt oV (by trivial) (λf C A k s H F Q E L h=>?_)
 obtain⟨v,t,rfl,m,q⟩:=h;have l:=aW1 m.ok;obtain⟨a,b,rfl,z,J,N,g⟩:=m;have D:=l _ (j7 ..);have G:=l _ (j8 _ (j7 ..));have i:=l _ (j8 _ (j8 _ (j7 ..)));rw[show wT t=[t.c,t.sg,wO t.o] from rfl,cO,cO,gC,show t.c++" "++(t.sg++" "++wO t.o)=t.c++" "++t.sg++" "++wO t.o by simp only[PySem.Str.append_assoc]] at q;have B:=oV.nd;refine⟨_,(aA (vJ (vv 0) (lV rfl (aY (dZ 1) (aY (dZ 2) (aY (dZ 3) eN))))) (aA (bH (cU cV (cR cM (vv 3) aD) aF) (aB (aK (aO aN (aO aN (aO aN (aO aN (vv 1) aF) (vv 2)) aF) (bY M (va1 (cR cM (vv 3) aD)))))) aP) (aB (aK (aO aN (aO aN (aO aN (aO aN (vv 1) aF) (vv 2)) aF) (cR cM (vv 3) aD)))))),?_⟩;have n:(t.c++" ").length<=100000:=by rw[aH,bW];lia
 have p:(t.c++" "++t.sg).length<=100000:=by rw[aH,aH,bW];lia
 have y:(t.c++" "++t.sg++" ").length<=100000:=by rw[aH,aH,aH,bW];lia
 have j:Str.length " "<=100000:=by rw[bW];decide
 refine⟨_,rfl,a,_,rfl,z,rfl,_,_,rfl,_,_,rfl,_,_,rfl,rfl,?_⟩;cases u:t.o with
 |val x=>rw[u] at g q i;obtain⟨c,rfl,e,I,r⟩:=g;refine⟨_,rfl,c,_,0,_,rfl,rfl,e,at0 _ _,rfl,_,rfl,bV ?_⟩;exact⟨_,rfl,_,_,rfl,rfl,le2 (by lia) j,_,rfl,_,_,rfl,rfl,le2 n (by lia),_,_,rfl,rfl,le2 p j,_,rfl,c,_,1,_,rfl,rfl,e,at1 _ _ _,x,rfl,r,_,_,rfl,rfl,le2 y (bAF i (by decide)),q⟩
 |col d=>rw[u] at g q i;obtain⟨c,rfl,e,r⟩:=g;refine⟨_,rfl,c,_,0,_,rfl,rfl,e,at0 _ _,rfl,_,rfl,aZ ?_⟩;exact⟨_,rfl,_,_,rfl,rfl,le2 (by lia) j,_,rfl,_,_,rfl,rfl,le2 n (by lia),_,_,rfl,rfl,le2 p j,_,rfl,c,_,1,_,rfl,rfl,e,at1 _ _ _,_,_,rfl,rfl,le2 y (bAF i (by decide)),q⟩
def aVs (K:bFQ):Sp:=λvs H Q _=>∃v ss,vs=[v]/\pR nU 0 4 K H v ss/\Q (.str (uO ss)) H
def aTz {ss:List Sm}{i:Nat}{t:Sm}(h:ss[i]?=some t):uO (ss.take (i+1))=uO (ss.take i)++" "++"with"++" "++txt (wS t):=by unfold uO;rw[bCI,h,bAH,List.foldl_append];rfl
def yN (T:!Txt):!Ok 1 "_law_shown_sums" bQS (aVs K):=by
 refine Ok.ofV T.zW oM (by trivial) (λf O A u s H I Q E Y h=>?_)
 obtain⟨v,g,rfl,⟨⟨c,I,rfl,D,B⟩,R,Z⟩,q⟩:=h;have lv:=B.len;have N:=oM.nd;refine⟨_,(aA (aQ 1 aF) (aA (jY PassesOwn.never rfl (lC (vv 0)) (lV rfl (aY (dZ 2) (aY (dZ 3) (aY (dZ 4) eN)))) (aA (aQ 1 (aO aN (aO aN (vv 1) aF) (vv 2))) (aA (bH (cU oX (vv 2) aF) (aB (aQ 1 (aO aN (aO aN (vv 1) aF) (vv 3)))) aP) (aB (aQ 1 (aO aN (aO aN (vv 1) aF) (vv 4))))))) (aB (aK (vv 1))))),?_⟩;refine⟨_,rfl,c,rfl,⟨_,D⟩,tK (λi σ n=>n=H/\∃l2 l3 l4,(uO (g.take i)).length<=300 * i/\σ=[some (.ref c),some (.str (uO (g.take i))),l2,l3,l4]) ⟨rfl,_,_,_,(by rw[List.take_zero];decide +kernel),rfl⟩ (λi σ n _ ⟨e,_⟩=>e ▸ D) ?_ ?_⟩
 ·rintro i x σ n hx ⟨rfl,l2,l3,l4,hl,rfl⟩;obtain⟨t,F,l⟩:=gJ B hx;have M:=l.ok;have y:=bEm M;obtain⟨b,rfl,L,l⟩:=l;have W:i<g.length:=(List.getElem?_eq_some_iff.mp F).1;have o:=aTz F;have U:=fJ L;have a:Str.length " with "=6:=by trivial
  have C:(" with ":Str) = " "++"with"++" ":=by trivial
  generalize hX:uO (g.take i)=X at *;rcases l with⟨J,r,p⟩|⟨d,r,hd,h4,p⟩
  ·have m:wS t=[("count":Str),t.new]:=by unfold wS;rw[r,J]
   rw[m,cO,gC] at o;have k:X++" with "++"count"++" "++t.new=uO (g.take (i+1)):=by rw[o,C];simp only[PySem.Str.append_assoc]
   have j:Str.length "count"=5:=by trivial
   refine⟨b,_,rfl,p,rfl,_,_,rfl,_,_,rfl,_,_,rfl,rfl,?_⟩;refine⟨_,rfl,_,_,rfl,rfl,le2 (by lia) (by rw[a];decide),_,rfl,_,_,rfl,rfl,le2 (by rw[aH,a];lia) (by rw[j];decide),?_⟩;refine⟨_,rfl,rfl,_,rfl,aZ ?_⟩;refine⟨_,rfl,_,_,rfl,rfl,le2 (by rw[aH,aH,a,j];lia) (by rw[bW];decide),_,rfl,_,_,rfl,rfl,le2 (by rw[aH,aH,aH,a,j,bW];lia) (by lia),?_⟩;refine⟨rfl,_,_,_,?_,congrArg (λz=>[some (V.ref c),some (V.str z),_,_,_]) k⟩;rw[<-k,aH,aH,aH,aH,a,j,bW];lia
  ·have m:wS t=[t.wd,d,t.new]:=by unfold wS;rw[r]
   rw[m] at y;rw[m,cO,cO,gC] at o;have j:=y _ (j7 ..);have S:=fJ hd;have G:(!decide (V.str t.wd=V.str "count"))=true:=by
    rw[m9 λz=>by have z:=V.str.inj z;rcases h4 with h4|h4|h4 <;> rw[h4] at z <;> exact absurd z (by trivial)]
    rfl
   have k:X++" with "++t.wd++" "++d++" "++t.new=uO (g.take (i+1)):=by rw[o,C];simp only[PySem.Str.append_assoc]
   refine⟨b,_,rfl,p,rfl,_,_,rfl,_,_,rfl,_,_,rfl,rfl,?_⟩;refine⟨_,rfl,_,_,rfl,rfl,le2 (by lia) (by rw[a];decide),_,rfl,_,_,rfl,rfl,le2 (by rw[aH,a];lia) (by lia),?_⟩;refine⟨_,rfl,rfl,_,rfl,?_⟩;rw[G];refine bV ⟨_,rfl,_,_,rfl,rfl,le2 (by rw[aH,aH,a];lia) (by rw[bW];decide),_,rfl,_,_,rfl,rfl,le2 (by rw[aH,aH,aH,a,bW];lia) (by lia),?_⟩;refine⟨_,rfl,_,_,rfl,rfl,le2 (by rw[aH,aH,aH,aH,a,bW];lia) (by rw[bW];decide),_,rfl,_,_,rfl,rfl,le2 (by rw[aH,aH,aH,aH,aH,a,bW];lia) (by lia),?_⟩;refine⟨rfl,_,_,_,?_,congrArg (λz=>[some (V.ref c),some (V.str z),_,_,_]) k⟩;rw[<-k,aH,aH,aH,aH,aH,aH,a,bW];lia
 ·rintro σ n ⟨rfl,l2,l3,l4,hl,rfl⟩;rw[bBK (by lia)];exact⟨_,rfl,q⟩
def aX5 (K:bFQ)(n:Nat):Sp:=λvs H Q _=>∃v q,vs=[v]/\IsQ K H v q/\My.size q<=20/\dp q<n/\∀H',Same H H'->Q (.str (txt (wq q))) H'
def wY {α:Type}{f:Str->α->Str}{l:List α}{i:Nat}{a:α}{x:Str}(h:l[i]?=some a):(l.take (i+1)).foldl f x=f ((l.take i).foldl f x) a:=by rw[bCI,h,List.foldl_append];rfl
def aQv (o:SqT K H b us)(v:cN (rB K H) us ps)(h8:ps.length<=100)(F:Cap X scope N σ [none,none])(J:∀R:VK,R (.ref b) H->tl σ H R)
  (L:∀(p:Str × Str),p∈ps->∀H' R,R (.str (txt (wP p))) H'->te [some (.str p.1),some (.str p.2)] H' R)
  (q:∀D H',H D=none->Same H H'->H' D=some (.lst ((ps.map λp=>txt (wP p)).map V.str))->Q (.ref D) H'):mU X scope N (aUt K tl) (aI3 K 2 (uN (cY 0) (uN (cY 1) aPp))) zR te σ H Q:=by
 have P:=v.len;refine wG [none,none] F (J _ ⟨b,rfl,⟨_,o⟩,aEq Same (xA H) us (λ_=>true) (λi _ y=>∃c,ps[i]?=some c/\y=.str (txt (wP c))) (λ_ _ h=>h) (λ_ _ _ h=>h) (λi σ=>∃c,ps[i]?=some c/\At2 [none,none] (.str c.1) (.str c.2) σ) (Ps2 [none,none]) ⟨none,none,rfl⟩ (small (by lia)) _ (aEn λH' a=>a.aV o) (vX λH' a=>a.aV o) (λi x O H' M k g a u=>?_) (λi x j k n H' R a r=>r _ (Same.refl _)) (λi x j k n _ H' R a r=>?_) λD G t A C m f=>?_⟩)
 ·obtain⟨c,d,p,rfl,w,_⟩:=gJ v k;exact hg2 (a.aV w) g fun j E I=>u j E ⟨c,d,I⟩
 ·obtain⟨c,d,rfl⟩:=n;exact L c (bAQ d) H' R (r _ _ (Same.refl H') ⟨c,d,rfl⟩)
 ·rw[uZ] at f;obtain⟨l,B⟩:=tW f;have e:t=(ps.map λp=>txt (wP p)).map V.str:=by
   refine bCH λi=>?_;cases s:t[i]? with
   |some z=>obtain⟨c,d,rfl⟩:=B i z s;rw[bAZ,bAD,d];rfl
   |none=>have:=List.getElem?_eq_none_iff.mp s;exact (bAV (by rw[j5,j5];lia)).symm
  rw[e] at m;exact q D G C A m
theorem yF (T:!Txt)(pU:!Ok 2 "_law_shown_test" ["_law_test"] (aU8 K))(qR:!Ok 1 "_law_shown_sums" bQS (aVs K)) :
  ∀n:Nat,!Ok (n+3) "_law_shown" bQP (aX5 K n)
 |0=>by
  refine Ok.ofV T.aAi rH (λI H Q E h=>?_) (λf a4 A U s H I Q E hr h=>?_)
  ·obtain⟨v,q,rfl,_⟩:=h;rfl
  ·obtain⟨v,q,rfl,_,_,W,_⟩:=h;lia
 |n+1=>by
  have lE:=yF T pU qR n;refine Ok.ofV T.aAi rH (λI H Q E h=>?_) (λf a4 A U s H I Q E hr h=>?_)
  ·obtain⟨v,q,rfl,_⟩:=h;rfl
  obtain⟨v,q',rfl,hq,M,W,Y⟩:=h;have a8:=rH.nd;refine⟨_,(aA (aQ 1 (cR cM (vv 0) aD)) (aA (bH (cU cV (vv 1) aF) (aB (aK (cR cM (vv 0) aD))) aP) (aA (aQ 2 (aO aN (aO aN (iR (lE.mono (by lia)) hr (by rfl) (va1 (cR cM (vv 0) aD))) aF) (vv 1))) (aA (bH (cU cV (vv 1) aF) (aB (aK (aO aN (aO aN (vv 2) aF) (iB PySem.F.plainAttrs_str PySem.F.slot_str_join PySem.F.type_str_join pZ aF (va1 (gM (N:=["_law_test"]) ck lA rfl (lC (cR cM (vv 0) aD)) (λcl s' g fp=>⟨(jW 0),jK,(iR (pU.mono (by lia)) hr (by rfl) (va1 (vv 0)))⟩))))))) aP) (aA (bH (cU cV (vv 1) aF) (aA (aQ 3 (iB PySem.F.plainAttrs_str PySem.F.slot_str_join PySem.F.type_str_join pZ aF (va1 (gM (N:=["_law_c","_law_d"]) ck lA rfl (lC (cR cM (vv 0) aD)) (λcl s' g fp=>⟨(nQ (K:=K) (n:=2) rfl (aY (jW 0) (aY (jW 1) eN))),jK,(aO aN (aO aN (vv 0) aF) (vv 1))⟩))))) (aB (aK (aO aN (aO aN (aO aN (aO aN (vv 2) aF) (iR (lE.mono (by lia)) hr (by rfl) (va1 (cR cM (vv 0) aD)))) aF) (vv 3))))) aP) (aA (bH (cU cV (vv 1) aF) (aA (aQ 2 (aO aN (aO aN (vv 2) aF) (bK aAd (by rfl) T.aCz vK (va1 (cR cM (vv 0) aD))))) (aA (jY PassesOwn.never rfl (lC (cR cM (vv 0) aD)) (lV rfl (aY (dZ 4) (aY (dZ 5) eN))) (aB (aQ 2 (aO aN (aO aN (aO aN (aO aN (vv 2) aF) (vv 4)) aF) (vv 5))))) (aB (aK (vv 2))))) aP) (aA (jY PassesOwn.never rfl (lC (cR cM (vv 0) aD)) (dZ 4) (aB (aQ 2 (aO aN (aO aN (vv 2) aF) (vv 4))))) (aA (bH (cU cV (vv 1) aF) (aB (aQ 2 (aO aN (vv 2) (iR (qR.mono (by lia)) hr (by rfl) (va1 (cR cM (vv 0) aD)))))) aP) (aB (aK (vv 2))))))))))),?_⟩;have B:=hq.wf;have hQ:=pY B M;have u:Str.length " "<=100000:=by rw[bW];decide
  cases hq with
  |@table a Tn ha _=>refine⟨_,rfl,a,_,0,_,rfl,rfl,ha,at0 _ _,?_⟩;refine⟨_,rfl,rfl,_,rfl,bV ?_⟩;refine⟨_,rfl,a,_,1,_,rfl,rfl,ha,at1 _ _ _,?_⟩;have:=Y H (Same.refl H);rw[show wq (.table Tn)=[Tn] from rfl,gC] at this;exact this
  |@whr a v1 q b ts ha h1 h3=>
   obtain⟨⟨c,I,rfl,k,o⟩,C,p3⟩:=h3;have lv:=o.len;have a3:=aIm (.whr (q:=q) (ts:=ts)) B M;have j:Str.length "where"=5:=by trivial
   simp only[dp,My.size] at W M;have G:=pY h1.wf (by lia);have S:(txt (wq q)++" "++"where").length<=31100:=by rw[aH,aH,bW,j];lia
   refine⟨_,rfl,a,_,0,_,rfl,rfl,ha,at0 _ _,?_⟩;refine⟨_,rfl,rfl,_,rfl,aZ ?_⟩;refine⟨_,rfl,a,_,1,_,rfl,rfl,ha,at1 _ _ _,v1,q,rfl,h1,by lia,by lia,λO d=>⟨_,_,rfl,rfl,le2 (bAF G (by decide)) u,_,rfl,_,_,rfl,rfl,le2 (by rw[aH,bW];lia) (by rw[j];decide),?_⟩⟩;refine⟨_,rfl,rfl,_,rfl,bV ?_⟩;refine⟨_,rfl,_,_,rfl,rfl,le2 (by lia) u,rfl,?_⟩;dsimp only[rF,aDd,aHf,tBM,eE,tC,tOp];refine aJj I ((ts.map λt=>txt (wT t)).map V.str) (by rw[j5,j5,lv]) [none] aB7 (small (by lia)) (λR r=>aPr (d.aV k) (λR' r'=>⟨_,rfl,a,_,2,_,rfl,rfl,d.aV ha,rfl,r'⟩) R r) (λi x y ex ey g R l sm r=>?_) rfl λD H2 s2 hD=>?_
   ·obtain⟨t,ht,hT⟩:=gJ o ex;rw[bAZ] at ey;have e:=aZq ht ey;subst e;exact⟨_,rfl,x,t,rfl,hT.same (d.trans sm),r g (Same.refl g)⟩
   ·have hB:∀y∈ts.map λt=>txt (wT t),y.length<=200:=λy m=>by obtain⟨p,mp,rfl⟩:=List.mem_map.mp m;have:=tH (aW1 (B.2.2.2 p mp));have e:(wT p).length=3:=rfl;lia
    have e2:=aIc (ts:=ts) (λz=>by rw[z] at C;cases C);have e3:=congrArg Str.length e2;rw[aH] at e3;refine⟨_,D,_,rfl,rfl,SqL.of hD,aRf hB (by decide) (by rw[j5];lia),_,_,rfl,rfl,le2 (by rw[aH,bW];lia) (by lia),?_⟩;show Q (.str (txt (wq q)++" "++"where"++" "++PySem.Txt.join " and " (ts.map λt=>txt (wT t)))) H2;rw[aS4 (λz=>by rw[z] at C;cases C)];exact Y H2 (d.trans s2)
  |@keep a v1 q b ns ha h1 h3=>
   obtain⟨⟨c,I,rfl,k,o⟩,C,p3⟩:=h3;have ev:=aKc o;subst ev;have j:Str.length "keep"=4:=by trivial
   simp only[dp,My.size] at W M;have G:=pY h1.wf (by lia);have S:(txt (wq q)++" "++"keep").length<=31100:=by rw[aH,aH,bW,j];lia
   refine⟨_,rfl,a,_,0,_,rfl,rfl,ha,at0 _ _,?_⟩;refine⟨_,rfl,rfl,_,rfl,aZ ?_⟩;refine⟨_,rfl,a,_,1,_,rfl,rfl,ha,at1 _ _ _,v1,q,rfl,h1,by lia,by lia,λO d=>⟨_,_,rfl,rfl,le2 (bAF G (by decide)) u,_,rfl,_,_,rfl,rfl,le2 (by rw[aH,bW];lia) (by rw[j];decide),?_⟩⟩;refine⟨_,rfl,rfl,_,rfl,aZ ⟨_,rfl,rfl,_,rfl,aZ ⟨_,rfl,rfl,_,rfl,aZ ?_⟩⟩⟩;refine⟨_,rfl,a,_,2,_,rfl,rfl,d.aV ha,at2 _ _ _ _,c,rfl,⟨_,d.aV k⟩,tK (xs:=ns.map V.str) (λi σ g=>g=O/\∃(l4:Option V),((ns.take i).foldl (λ(t:Str) (n:Str)=>t++(" ":Str)++n) (txt (wq q)++" "++"keep")).length<=31100+100 * i/\σ=[some (.ref a),some (.str "keep"),some (.str ((ns.take i).foldl (λ(t:Str) (n:Str)=>t++(" ":Str)++n) (txt (wq q)++" "++"keep"))),none,l4,none]) ⟨rfl,_,S,rfl⟩ (λi σ g _ ⟨e,_⟩=>e ▸ d.aV k) ?_ ?_⟩
   ·rintro i x σ g hx ⟨rfl,l4,hl,rfl⟩;obtain⟨y,J,rfl⟩:=aBy hx;have hi:i<ns.length:=(List.getElem?_eq_some_iff.mp J).1;have ly:=fJ (B.2.2.2 y (bAQ J));have L:=wY (f:=λ(t:Str) (n:Str)=>t++(" ":Str)++n) (x:=txt (wq q)++" "++"keep") J;refine⟨_,rfl,_,_,rfl,rfl,le2 (by lia) u,_,rfl,_,_,rfl,rfl,le2 (by rw[aH,bW];lia) (by lia),?_⟩;refine⟨rfl,_,?_,by rw[L];rfl⟩;rw[L,aH,aH,bW];lia
   ·rintro σ g ⟨rfl,l4,hl,rfl⟩;rw[j5,bBY] at *;refine⟨_,rfl,rfl,_,rfl,aZ ⟨_,rfl,?_⟩⟩;rw[aV1];exact Y _ d
  |@nmd a v1 q b ns ha h1 h3=>
   obtain⟨⟨c,I,rfl,k,o⟩,C,p3⟩:=h3;have ev:=aKc o;subst ev;have j:Str.length "named"=5:=by trivial
   simp only[dp,My.size] at W M;have G:=pY h1.wf (by lia);have S:(txt (wq q)++" "++"named").length<=31100:=by rw[aH,aH,bW,j];lia
   refine⟨_,rfl,a,_,0,_,rfl,rfl,ha,at0 _ _,?_⟩;refine⟨_,rfl,rfl,_,rfl,aZ ?_⟩;refine⟨_,rfl,a,_,1,_,rfl,rfl,ha,at1 _ _ _,v1,q,rfl,h1,by lia,by lia,λO d=>⟨_,_,rfl,rfl,le2 (bAF G (by decide)) u,_,rfl,_,_,rfl,rfl,le2 (by rw[aH,bW];lia) (by rw[j];decide),?_⟩⟩;refine⟨_,rfl,rfl,_,rfl,aZ ⟨_,rfl,rfl,_,rfl,aZ ⟨_,rfl,rfl,_,rfl,aZ ?_⟩⟩⟩;refine⟨_,rfl,a,_,2,_,rfl,rfl,d.aV ha,at2 _ _ _ _,c,rfl,⟨_,d.aV k⟩,tK (xs:=ns.map V.str) (λi σ g=>g=O/\∃(l4:Option V),((ns.take i).foldl (λ(t:Str) (n:Str)=>t++(" ":Str)++n) (txt (wq q)++" "++"named")).length<=31100+100 * i/\σ=[some (.ref a),some (.str "named"),some (.str ((ns.take i).foldl (λ(t:Str) (n:Str)=>t++(" ":Str)++n) (txt (wq q)++" "++"named"))),none,l4,none]) ⟨rfl,_,S,rfl⟩ (λi σ g _ ⟨e,_⟩=>e ▸ d.aV k) ?_ ?_⟩
   ·rintro i x σ g hx ⟨rfl,l4,hl,rfl⟩;obtain⟨y,J,rfl⟩:=aBy hx;have hi:i<ns.length:=(List.getElem?_eq_some_iff.mp J).1;have ly:=fJ (B.2.2.2 y (bAQ J));have L:=wY (f:=λ(t:Str) (n:Str)=>t++(" ":Str)++n) (x:=txt (wq q)++" "++"named") J;refine⟨_,rfl,_,_,rfl,rfl,le2 (by lia) u,_,rfl,_,_,rfl,rfl,le2 (by rw[aH,bW];lia) (by lia),?_⟩;refine⟨rfl,_,?_,by rw[L];rfl⟩;rw[L,aH,aH,bW];lia
   ·rintro σ g ⟨rfl,l4,hl,rfl⟩;rw[j5,bBY] at *;refine⟨_,rfl,rfl,_,rfl,aZ ⟨_,rfl,?_⟩⟩;rw[aUj];exact Y _ d
  |@join a v1 q v2 r b ps ha h1 h2 h3=>
   obtain⟨⟨c,I,rfl,k,o⟩,C,p3⟩:=h3;have j:Str.length "join"=4:=by trivial
   simp only[dp,My.size] at W M;have G:=pY h1.wf (by lia);have S:(txt (wq q)++" "++"join").length<=31100:=by rw[aH,aH,bW,j];lia
   refine⟨_,rfl,a,_,0,_,rfl,rfl,ha,at0 _ _,?_⟩;refine⟨_,rfl,rfl,_,rfl,aZ ?_⟩;refine⟨_,rfl,a,_,1,_,rfl,rfl,ha,at1 _ _ _,v1,q,rfl,h1,by lia,by lia,λO d=>⟨_,_,rfl,rfl,le2 (bAF G (by decide)) u,_,rfl,_,_,rfl,rfl,le2 (by rw[aH,bW];lia) (by rw[j];decide),?_⟩⟩;refine⟨_,rfl,rfl,_,rfl,aZ ⟨_,rfl,rfl,_,rfl,bV ?_⟩⟩;dsimp only[rF,aDd,aHf,tBM,eE,tC,tOp];refine⟨rfl,aQv (d.aV k) (o.imp λ_ _ h=>h.same d) (by lia) oJ (λR r=>⟨_,rfl,a,_,3,_,rfl,rfl,d.aV ha,rfl,r⟩) (λp mp g R r=>?_) λD H2 _ s2 hD=>?_⟩
   ·have Z:=(gP (B.2.2.2.2 p mp).1).2;have l2:=(gP (B.2.2.2.2 p mp).2).2;rw[show wP p=[p.1,p.2] from rfl,cO,gC] at r;exact⟨_,rfl,_,_,rfl,rfl,le2 (bAF Z (by decide)) u,_,rfl,_,_,rfl,rfl,le2 (by rw[aH,bW];lia) (bAF l2 (by decide)),r⟩
   ·have hB:∀y∈ps.map λp=>txt (wP p),y.length<=200:=λy m=>by obtain⟨p,mp,rfl⟩:=List.mem_map.mp m;have:=tH (aW5 (B.2.2.2.2 p mp));have e:(wP p).length=2:=rfl;lia
    have hk:=aMj C p3 B.2.2.2.2;have k2:=pY B.2.1 (by lia);have Z:Str.length " ( "=3:=by trivial
    have l2:Str.length " ) on "=6:=by trivial
    refine⟨_,D,_,rfl,rfl,SqL.of hD,aRf hB (by decide) (by rw[j5];lia),?_⟩;refine⟨_,rfl,_,_,rfl,rfl,le2 (by lia) (by rw[Z];decide),_,rfl,a,_,2,_,rfl,rfl,(d.trans s2).aV ha,at2 _ _ _ _,v2,r,rfl,h2.same (d.trans s2),by lia,by lia,λH3 s3=>⟨_,_,rfl,rfl,le2 (by rw[aH,Z];lia) (bAF k2 (by decide)),_,_,rfl,rfl,le2 (by rw[aH,aH,Z];lia) (by rw[l2];decide),_,rfl,_,_,rfl,rfl,le2 (by rw[aH,aH,aH,Z,l2];lia) (by lia),?_⟩⟩;show Q (.str (txt (wq q)++" "++"join"++" ( "++txt (wq r)++" ) on "++PySem.Txt.join " and " (ps.map λp=>txt (wP p)))) H3;rw[aVn (λz=>by rw[z] at C;cases C)];exact Y H3 (d.trans (s2.trans s3))
  |@group a v1 q b ns b2 ss ha h1 h3 h4=>
   obtain⟨⟨c,I,rfl,k,o⟩,C,p3⟩:=h3;have ev:=aKc o;subst ev;have a3:=aIm (.group (q:=q) (ns:=ns) (ss:=ss)) B M;have j:Str.length "group"=5:=by trivial
   simp only[dp,My.size] at W M;have G:=pY h1.wf (by lia);have S:(txt (wq q)++" "++"group").length<=31100:=by rw[aH,aH,bW,j];lia
   refine⟨_,rfl,a,_,0,_,rfl,rfl,ha,at0 _ _,?_⟩;refine⟨_,rfl,rfl,_,rfl,aZ ?_⟩;refine⟨_,rfl,a,_,1,_,rfl,rfl,ha,at1 _ _ _,v1,q,rfl,h1,by lia,by lia,λO d=>⟨_,_,rfl,rfl,le2 (bAF G (by decide)) u,_,rfl,_,_,rfl,rfl,le2 (by rw[aH,bW];lia) (by rw[j];decide),?_⟩⟩;refine⟨_,rfl,rfl,_,rfl,aZ ⟨_,rfl,rfl,_,rfl,aZ ⟨_,rfl,rfl,_,rfl,aZ ?_⟩⟩⟩;refine⟨_,rfl,a,_,2,_,rfl,rfl,d.aV ha,at2 _ _ _ _,c,rfl,⟨_,d.aV k⟩,tK (xs:=ns.map V.str) (λi σ g=>g=O/\∃(l4:Option V),((ns.take i).foldl (λ(t:Str) (n:Str)=>t++(" ":Str)++n) (txt (wq q)++" "++"group")).length<=31100+100 * i/\σ=[some (.ref a),some (.str "group"),some (.str ((ns.take i).foldl (λ(t:Str) (n:Str)=>t++(" ":Str)++n) (txt (wq q)++" "++"group"))),none,l4,none]) ⟨rfl,_,S,rfl⟩ (λi σ g _ ⟨e,_⟩=>e ▸ d.aV k) ?_ ?_⟩
   ·rintro i x σ g hx ⟨rfl,l4,hl,rfl⟩;obtain⟨y,J,rfl⟩:=aBy hx;have hi:i<ns.length:=(List.getElem?_eq_some_iff.mp J).1;have ly:=fJ (B.2.2.1 y (bAQ J));have L:=wY (f:=λ(t:Str) (n:Str)=>t++(" ":Str)++n) (x:=txt (wq q)++" "++"group") J;refine⟨_,rfl,_,_,rfl,rfl,le2 (by lia) u,_,rfl,_,_,rfl,rfl,le2 (by rw[aH,bW];lia) (by lia),?_⟩;refine⟨rfl,_,?_,by rw[L];rfl⟩;rw[L,aH,aH,bW];lia
   ·rintro σ g ⟨rfl,l4,hl,rfl⟩;rw[j5,bBY] at *;have e3:=congrArg Str.length (aIe (q:=q) (ns:=ns) (ss:=ss));rw[aH] at e3;refine⟨_,rfl,rfl,_,rfl,bV ⟨_,rfl,_,rfl,a,_,3,_,rfl,rfl,d.aV ha,rfl,b2,ss,rfl,h4.same d (λh=>h.same d),_,_,rfl,rfl,le2 (by lia) (by lia),?_⟩⟩;refine⟨_,rfl,?_⟩;show Q (.str (ns.foldl (λ(t:Str) (n:Str)=>t++(" ":Str)++n) (txt (wq q)++" "++"group")++uO ss)) _;rw[aIe];exact Y _ d
  |@first a v1 q b ks m ha h1 h3 h4=>
   obtain⟨⟨c,I,rfl,k,o⟩,C,p3⟩:=h3;have lv:=o.len;have a0:((m:Int)).natAbs<10 ^ 60:=by rw[bFL];exact bEI h4 (by decide)
   have lm:=(aQh (aKn h4)).2;have j:Str.length "first"=5:=by trivial
   simp only[dp,My.size] at W M;have G:=pY h1.wf (by lia);have S:(txt (wq q)++" "++"first").length<=31100:=by rw[aH,aH,bW,j];lia
   refine⟨_,rfl,a,_,0,_,rfl,rfl,ha,at0 _ _,?_⟩;refine⟨_,rfl,rfl,_,rfl,aZ ?_⟩;refine⟨_,rfl,a,_,1,_,rfl,rfl,ha,at1 _ _ _,v1,q,rfl,h1,by lia,by lia,λO d=>⟨_,_,rfl,rfl,le2 (bAF G (by decide)) u,_,rfl,_,_,rfl,rfl,le2 (by rw[aH,bW];lia) (by rw[j];decide),?_⟩⟩;have gY:(txt (wq q)++" "++"first"++" "++shw (.int m)).length<=31200:=by rw[aH,aH,bW];lia
   refine⟨_,rfl,rfl,_,rfl,aZ ⟨_,rfl,rfl,_,rfl,aZ ⟨_,rfl,rfl,_,rfl,bV ?_⟩⟩⟩;refine⟨_,rfl,_,_,rfl,rfl,le2 (by lia) u,_,rfl,a,_,3,_,rfl,rfl,d.aV ha,rfl,_,rfl,aXn a0,_,_,rfl,rfl,le2 (by rw[aH,bW];lia) (bAF lm (by decide)),?_⟩;refine⟨_,rfl,a,_,2,_,rfl,rfl,d.aV ha,at2 _ _ _ _,c,rfl,⟨_,d.aV k⟩,tK (xs:=I) (λi σ g=>g=O/\∃(l4 l5:Option V),(((ks.map wP).take i).foldl (λ(t:Str) (a:List Str)=>t++(" ":Str)++"by"++" "++txt a) (txt (wq q)++" "++"first"++" "++shw (.int m))).length<=31200+200 * i/\σ=[some (.ref a),some (.str "first"),some (.str (((ks.map wP).take i).foldl (λ(t:Str) (a:List Str)=>t++(" ":Str)++"by"++" "++txt a) (txt (wq q)++" "++"first"++" "++shw (.int m)))),none,l4,l5]) ⟨rfl,_,_,gY,rfl⟩ (λi σ g _ ⟨e,_⟩=>e ▸ d.aV k) ?_ ?_⟩
   ·rintro i x σ g hx ⟨rfl,l4,l5,hl,rfl⟩;obtain⟨p,hp,hK⟩:=gJ o hx;have hi:i<ks.length:=(List.getElem?_eq_some_iff.mp hp).1;have a2:=bEr hK.ok;obtain⟨pc,rfl,a5,a6,a7⟩:=hK;have ly:=fJ a6;have l2:p.2.length<=61:=a2 _ (j8 _ (j7 ..));have L:=wY (f:=λ(t:Str) (a:List Str)=>t++(" ":Str)++"by"++" "++txt a) (x:=txt (wq q)++" "++"first"++" "++shw (.int m)) (show (ks.map wP)[i]?=some (wP p) by rw[bAD,hp];rfl);rw[show wP p=[p.1,p.2] from rfl,cO,gC] at L;have lb:Str.length " by "=4:=by trivial
    have wb:(" by ":Str) = " "++"by"++" ":=by trivial
    generalize hX:((ks.map wP).take i).foldl (λ(t:Str) (a:List Str)=>t++(" ":Str)++"by"++" "++txt a) (txt (wq q)++" "++"first"++" "++shw (.int m))=X at *;have a1:X++" by "++p.1++" "++p.2=((ks.map wP).take (i+1)).foldl (λ(t:Str) (a:List Str)=>t++(" ":Str)++"by"++" "++txt a) (txt (wq q)++" "++"first"++" "++shw (.int m)):=by rw[L,wb];simp only[PySem.Str.append_assoc]
    refine⟨pc,_,rfl,d.aV a5,rfl,_,_,rfl,_,_,rfl,rfl,?_⟩;refine⟨_,rfl,_,_,rfl,rfl,le2 (by lia) (by rw[lb];decide),_,rfl,_,_,rfl,rfl,le2 (by rw[aH,lb];lia) (by lia),_,_,rfl,rfl,le2 (by rw[aH,aH,lb];lia) u,_,rfl,_,_,rfl,rfl,le2 (by rw[aH,aH,aH,lb,bW];lia) (by lia),?_⟩;refine⟨rfl,_,_,?_,congrArg (λz=>[some (V.ref a),some (V.str "first"),some (V.str z),none,_,_]) a1⟩;rw[<-a1,aH,aH,aH,aH,lb,bW];lia
   ·rintro σ g ⟨rfl,l4,l5,hl,rfl⟩;refine⟨_,rfl,?_⟩;rw[bBK (by rw[j5];lia),aS3];exact Y _ d
end
end My
namespace L2
open PySem PySem.Spec PyProof.Rows Builtin Builtin.ObjectAttr
end L2
namespace My
open PySem PySem.Spec PyProof.Rows L2
section
variable {P:Program}{w:World}{K:bFQ}{mg:bFT}{base:Heap}
def bIs (K:bFQ)(H:Hp)(v:V)(l:Addr)(u:V):Prop:=(∃q,v=.str (txt (wq q))/\Wf q/\My.size q<=20/\H l=some (.lst [])/\IsQ K H u q)\/((¬ ∃q,v=.str (txt (wq q))/\Wf q/\My.size q<=20)/\H l=some (.lst [.bl true,.bl true,.bl false,.non])/\u=.non)
def LR (K:bFQ)(H:Hp)(v:V):Prop:=(∃q,v=.str (txt (wq q))/\Wf q/\My.size q<=20)\/(∃t,v=.str t/\Few t)\/(Th K H v/\∀t,v≠.str t)
def aNx (K:bFQ):Sp:=λvs H Q _=>∃v,vs=[v]/\((∃q,v=.str (txt (wq q))/\Wf q/\My.size q<=20/\∀p l u H',Same H H'->H' p=some (.tup [.ref l,u])->H l=none->H' l=some (.lst [])->IsQ K H' u q->Q (.ref p) H') \/
 (LR K H v/\∀p l u H',Same H H'->H' p=some (.tup [.ref l,u])->bIs K H' v l u->Q (.ref p) H'))
def aLc (T:!Txt)(o:!OkX 72 "read_question" bQD (aOx K mg)):!Ok 73 "_law_read" ["_law_text"] (aNx K):=by
 refine Ok.ofV (k:=72) T.aN6 tY (by trivial) (λf a4 A a0 s H vs Q E hr h=>?_)
 obtain⟨v,rfl,h⟩:=h;have hu:=aOd hr;obtain⟨S,r,c,d,x,z,a1⟩:=T.aS7;have j:∃u,mg "NoWords"=some u/\RelV (.ref (r .words)) u:=⟨_,(x .words).mg,rfl⟩;have b:∃u,mg "NoQuestion"=some u/\RelV (.ref (r .ques)) u:=⟨_,(x .ques).mg,rfl⟩;have g:=(x .ques).cls;have m:=(x .words).cls;have a:=aRl;have a6:=tY.nd;refine⟨_,(aA (aQ 1 (bC jJ)) (aA (aQ 2 dO) (aA (bFk (i:=3) rfl rfl tY.nd rfl rfl (by rfl) c d (λa3 σ₀ E ok=>(aB (aQ 2 (xE ok (o.mono (by decide)) hr (by rfl) (va1 (vv 0)))))) (λe=>(aB (aQ 1 (bC (aG (aU (aLv (K:=K) m) (by rfl) T.bZ bR (aG (vv 3) (va1 (dX (by rfl) j)))) (aG (aU (bA0 (K:=K)) (by rfl) T.bZ bR (aG (vv 3) (va1 (gR (v:=.ty "ValueError") (by rfl) T.aAp a rfl)))) (aG (aU (aLv (K:=K) g) (by rfl) T.bZ bR (aG (vv 3) (va1 (dX (by rfl) b)))) (va1 (bD2 (K:=K) (vv 3))))))))))) (aB (aK (aW (aG (vv 1) (va1 (vv 2))))))))),?_⟩;refine⟨sz0,λl H1 fl X g1=>?_⟩;rcases h with⟨q0,rfl,U,Z,q⟩|⟨hv,q⟩
 ·refine⟨rfl,_,rfl,_,rfl,.right U Z λu L I J=>?_⟩;refine⟨_,rfl,_,rfl,sz2,λp H3 _ G g3=>?_⟩;exact q p l u H3 (X.trans (I.trans G)) g3 fl (G _ _ (I _ _ g1)) (J.same G)
 have a2:∀{W:XK},(¬ ∃q,v=.str (txt (wq q))/\Wf q/\My.size q<=20)->((∃t,v=.str t/\Few t)\/(Th K H v/\∀t,v≠.str t))->Rf mg .words H1 W->∀{R:VK},Rq K mg H1 R W v:=by
  intro W no h hR R;rcases h with⟨t,rfl,hF⟩|⟨h1,h2⟩
  ·exact .text hF hR λv q H' e h3 h4 _ _=>absurd ⟨q,by rw[e],h3,h4⟩ no
  ·exact .none (h1.same X) h2 hR
 by_cases Y:∃q,v=.str (txt (wq q))/\Wf q/\My.size q<=20
 ·obtain⟨q0,rfl,U,Z⟩:=Y;refine⟨rfl,_,rfl,_,rfl,.right U Z λu L I J=>?_⟩;refine⟨_,rfl,_,rfl,sz2,λp H3 _ G g3=>?_⟩;exact q p l u H3 (X.trans (I.trans G)) g3 (.inl ⟨q0,rfl,U,Z,G _ _ (I _ _ g1),J.same G⟩)
 ·refine⟨rfl,_,rfl,v,rfl,a2 Y (hv.resolve_left Y) λC e L mC I=>?_⟩;obtain⟨⟨N,fd,O,F,B⟩,mc,kp,hc,M⟩:=x .words;rw[mc] at mC;cases mC;refine⟨r .words,e,N,rfl,rfl,O,M,λD dx n nT a5 hd=>?_⟩;have su:=aNu (C:=r .words) (dx:=dx) n nT;have V:up2 L e D (r .words) dx e=some (zM e D (r .words) dx):=aJ;have y:up2 L e D (r .words) dx dx=some xdA:=su _ _ hd;have sa:Same H (up2 L e D (r .words) dx):=(X.trans I).trans su;refine⟨_,rfl,e,D,r .words,dx,N,_,rfl,V,O,y,z .words .words,trivial,?_⟩;refine⟨_,rfl,e,D,r .words,dx,N,_,rfl,V,O,y,a1 .words,trivial,?_⟩;refine⟨_,rfl,e,D,r .words,dx,N,_,rfl,V,O,y,z .words .ques,trivial,?_⟩;refine⟨_,rfl,e,D,r .words,dx,N,rfl,V,O,y,sz4,λl4 H4 f4 s4 g4=>?_⟩;refine⟨_,rfl,_,rfl,sz2,λp H5 _ s5 g5=>?_⟩;exact q p l4 .non H5 (sa.trans (s4.trans s5)) g5 (.inr ⟨Y,s5 _ _ g4,rfl⟩)
end
end My
namespace L2
open PySem PySem.Spec PyProof.Rows
def sY (x:Str):Nat->Str
 |0=>""
 |n+1=>sY x n++x
def aKa (x:Str):("":Str)++x=x:=by cases x;exact congrArg Str.mk (Array.empty_append)
def aUm (x:Str)(n:Nat):x++sY x n=sY x n++x:=by
 induction n with
 |zero=>exact (PySem.Str.append_empty x).trans (aKa x).symm
 |succ n ih=>show x++(sY x n++x)=sY x n++x++x;rw[<-PySem.Str.append_assoc,ih]
def aWf (x:Str)(n:Nat):∀acc:Str,(⟨(List.replicate n x.cps).foldl (·++·) acc.cps⟩:Str)=acc++sY x n:=by
 induction n with
 |zero=>intro acc;exact (PySem.Str.append_empty acc).symm
 |succ n ih=>intro acc;have:=ih (acc++x);show (⟨(List.replicate n x.cps).foldl (·++·) (acc++x).cps⟩:Str)=acc++(sY x n++x);rw[this,<-aUm,PySem.Str.append_assoc]
def aXr (h:x.length=0)(n:Nat):sY x n=x:=by
 have e:x = "":=by
  cases x with
  |mk a=>exact congrArg Str.mk (Array.size_eq_zero_iff.mp h)
 subst e
 induction n with
 |zero=>rfl
 |succ n ih=>show sY "" n++""=_;rw[ih];rfl
def bHw:R2:=λx y H Q=>∃z,∃n:Nat,x=.str z/\y=.int n/\n<=1000/\z.length * n<=sizeLine/\(∀t,t=sY z n->Q (.str t) H)
def aD7:OpR X (binaryOp .Mult) bHw:=by
 intro d s σ H x y v u Q I c f h;obtain⟨z,n,rfl,rfl,g,b,q⟩:=h;obtain⟨t,rfl⟩:=c;obtain⟨j,rfl⟩:=f;have i:sizeLine=2 ^ 24:=rfl;refine PySem.P.mul_str ?_ (λa _=>?_) (λ_ _=>?_) ?_
 ·rw[m9 (by lia),m9 (by lia)];rfl
 ·have e:=Int.ofNat_le.mpr b;have:(z.length:Int)<=(2 ^ 63 - 1) / (n:Int):=by rw[Int.le_ediv_iff_mul_le (by lia)];rw[Int.natCast_mul] at e;lia
  lia
 ·rw[bBZ];exact m9 (Nat.not_lt.mpr b)
 ·by_cases a:(n:Int)<1
  ·rw[if_pos a];have:n=0:=by lia
   subst this;exact⟨by decide,⟨.str Str.empty,H,I.tok _,⟨_,rfl⟩,q _ rfl⟩⟩
  ·rw[if_neg a];by_cases h2:(((n:Int) == 1) || z.length == 0)=true
   ·rw[if_pos h2];rw[Bool.or_eq_true,beq_iff_eq,beq_iff_eq] at h2;refine⟨.str z,H,I,⟨_,rfl⟩,q _ ?_⟩;rcases h2 with h2|h2
    ·have:n=1:=by lia
     subst this;exact (aKa z).symm
    ·exact (aXr h2 n).symm
   ·rw[if_neg h2,bBZ];have e:=aWf z n "";rw[aKa] at e;have e:(⟨(List.replicate n z.cps).foldl (·++·) #[]⟩:Str)=sY z n:=e;rw[e];refine⟨?_,⟨.str _,H,I.tok _,⟨_,rfl⟩,q _ rfl⟩⟩;have l:∀k,(sY z k).length=z.length * k:=λk=>by
     induction k with
     |zero=>rfl
     |succ k ih=>show (sY z k++z).length=_;rw[show (sY z k++z).length=(sY z k).length+z.length from Array.size_append,ih,Nat.mul_succ]
    rw[l];exact b
def aY0:R2:=λx y H Q=>∃l k xs,x=.ref l/\y=.int k/\H l=some (.lst xs)/\-(2 ^ 63)<=k/\k<2 ^ 63/\xs.length * k.toNat<=sizeLine /\
 ∀p H',H p=none->Same H H'->H' p=some (.lst (List.replicate k.toNat xs).flatten)->Q (.ref p) H'
def aN3:OpR X (binaryOp .Mult) aY0:=OpR.imp bDj λx y H Q ⟨l,k,g,f,d,e,b,h,c,q⟩=>⟨l,k,g,f,d,e,b,h,c,λp a=>q p _ a (cF a _) aJ⟩
def bHs (K:bFQ):R2:=λx y H Q=>∃p q a b xs ys f g,x=.ref p/\y=.ref q/\SqT K H p [.ref a,f]/\SqT K H q [.ref b,g]/\DEq K H 40 f g/\SqL K H a xs/\SqL K H b ys/\Fl2 xs ys/\a≠b/\Q (.bl false) H
def aRu (hu:X.A.units+64<cLine):OpR X (compareOp .NotEq) (bHs X.K):=by
 intro C s σ H x y v u Q I O R h;obtain⟨p,M,a,b,U,W,f,g,rfl,rfl,B,G,L,P,w,h,E,q⟩:=h;cases O;cases R;obtain⟨r,c,N,V⟩:=I.tuple B;obtain⟨F,d,J,T⟩:=I.tuple G;obtain⟨Y,m,i,_⟩:=I.list P;obtain⟨Z,o,k,_⟩:=I.list w;have D:∀{A:Around},A.units<cLine->SeqAt.EqAt A s (.ref a) (.ref b) true:=λ{A} t=>by refine SeqAt.EqAt.of_refs E ?_;have z:=SeqAt.RcAt.lists (A:=A) (e:=λ_=>true) i.isList k.isList (by rw[v8,v8];have:=m.length;have:=o.length;have:=h.len;lia) t (aN1 m o h);rw[aE1] at z;exact z
 cases c with
 |@cons _ i1 _ _ q1 c=>cases c with
  |@cons _ i2 _ _ q2 c=>
   cases c;cases d with
   |@cons _ j1 _ _ q3 d=>cases d with
    |@cons _ j2 _ _ q4 d=>
     cases d;cases q1;cases q3;refine SeqAt.RcNeAt.tuples (e:=λ_=>true) (show s.heap.IsTuple p _ from N) (show s.heap.IsTuple M _ from J) (by lia) (λj l S=>?_) _ _ _ _ ?_
     ·match j,l,S with
      |0,_,_=>exact D (by show X.A.units+1<cLine;lia)
      |1,_,_=>exact aHl I 40 L q2 q4 (by show X.A.units+1+40<cLine;lia)
      |n+2,l,_=>exact absurd l (by simp)
     ·exact⟨.bl _,H,I,rfl,q⟩
end L2
namespace My
open PySem PySem.Spec PyProof.Rows L2
section
variable {P:Program}{w:World}{K:bFQ}{mg:bFT}{base:Heap}
def tok (x:Str):Option Str:=if nameB (.str x) then none else some x
def kw (h:nameB (.str x)=false):tok x=some x:=if_neg λe=>by rw[h] at e;cases e
def mY (h:Nm x):tok x=none:=if_pos h
abbrev Sa:=Nat × Nat
def gen:Option Str->Option Sa
 |none=>none
 |some y=>if y = "where" then some (2,0) else if y = "keep" then some (6,0) else if y = "named" then some (6,0) else if y = "join" then some (7,0) else if y = "group" then some (12,0) else if y = "first" then some (17,0) else if y = ")" then some (8,0) else none
abbrev nums:List Str:=(List.range 61).map λm:Nat=>shw (.int m)
def go:Sa->Option Str->Option Sa
 |(0,_),t=>if t=none then some (1,0) else none
 |(1,_),t=>gen t
 |(2,k),t=>if t=none then some (3,k) else none
 |(3,k),t=>if t=some ("=":Str)\/t=some ("<":Str)\/t=some (">":Str)\/t=some ("!":Str) then some (4,k) else none
 |(4,k),t=>if t=some ("":Str) then none else some (5,k+1)
 |(5,k),t=>if t=some ("and":Str) then (if k<3 then some (2,k) else none) else gen t
 |(6,k),t=>if t=none then (if k<8 then some (6,k+1) else none) else if k=0 then none else gen t
 |(7,_),t=>if t=some ("(":Str) then some (0,0) else none
 |(8,_),t=>if t=some ("on":Str) then some (9,0) else none
 |(9,k),t=>if t=none then some (10,k) else none
 |(10,k),t=>if t=none then some (11,k+1) else none
 |(11,k),t=>if t=some ("and":Str) then (if k<3 then some (9,k) else none) else gen t
 |(12,k),t=>if t=none then (if k<8 then some (12,k+1) else none) else if t=some ("with":Str) then some (13,0) else gen t
 |(13,k),t=>if t=some ("count":Str) then some (15,k) else if t=some ("sum":Str)\/t=some ("least":Str)\/t=some ("most":Str) then some (14,k) else none
 |(14,k),t=>if t=none then some (15,k) else none
 |(15,k),t=>if t=none then some (16,k+1) else none
 |(16,k),t=>if t=some ("with":Str) then (if k<4 then some (13,k) else none) else gen t
 |(17,_),t=>if t.any (nums.contains ·) then some (18,0) else none
 |(18,k),t=>if t=some ("by":Str) then (if k<3 then some (19,k) else none) else gen t
 |(19,k),t=>if t=none then some (20,k) else none
 |(20,k),t=>if t=some ("up":Str)\/t=some ("down":Str) then some (18,k+1) else none
 |_,_=>none
def acc (s:Sa):Bool:=[1,5,11,12,16,18].contains s.1 || (s.1 == 6 && s.2 != 0)
def run:Sa->List (Option Str)->Option Sa
 |s,[]=>some s
 |s,t::r=>match go s t with
  |some s'=>run s' r
  |none=>none
def eZ (h:go s t=some s'):run s (t::r)=run s' r:=by show (match go s t with|some s'=>run s' r|none=>none)=_;rw[h]
def aLl (h:run s a=some s'):run s (a++b)=run s' b:=by
 induction a generalizing s with
 |nil=>cases h;rfl
 |cons t a ih=>
  have h:(match go s t with|some s'=>run s' a|none=>none)=some s':=h;cases e:go s t with
  |none=>rw[e] at h;cases h
  |some s2=>rw[e] at h;rw[bBA,eZ e];exact ih h
def aXa (h:acc s=true)(hy:(go (6,1) (some y)).isSome=true)(hn:y≠"and"/\y≠"with"/\y≠"by"):go s (some y)=gen (some y):=by
 have n:∀{x:Str},y≠x->some y≠some x:=λh e=>h (bAM e);obtain⟨a,k⟩:=s;have h:(([1,5,11,12,16,18]:List Nat).contains a || (a == 6 && k != 0))=true:=h;rw[Bool.or_eq_true,List.contains_iff_mem,w6,beq_iff_eq,bne_iff_ne] at h;rcases h with h|⟨rfl,b⟩
 ·simp only[bAO,bAG,or_false] at h;rcases h with rfl|rfl|rfl|rfl|rfl|rfl
  ·rfl
  ·exact if_neg (n hn.1)
  ·exact if_neg (n hn.1)
  ·exact (show go (12,k) (some y)=(if some y=some ("with":Str) then some (13,0) else gen (some y)) from rfl).trans (if_neg (n hn.2.1))
  ·exact if_neg (n hn.2.1)
  ·exact if_neg (n hn.2.2)
 ·exact (show go (6,k) (some y)=(if k=0 then none else gen (some y)) from rfl).trans (if_neg b)
def Whole (ws:List Str):Prop:=∃s,run (0,0) (ws.map tok)=some s/\acc s=true
def jV (h:Whole ws)(c:tok x=some x)(f:(go (6,1) (some x)).isSome=true)(hn:x≠"and"/\x≠"with"/\x≠"by")(d:gen (some x)=some s)(g:run s (us.map tok)=some s')(e:acc s'=true):Whole (ws++x::us):=by obtain⟨i,a,b⟩:=h;refine⟨s',?_,e⟩;rw[bAH,aLl a,bAE,c,eZ ((aXa b f hn).trans d)];exact g
theorem xB (b:a=6\/a=12):∀{ns:List Str} {k:Nat},(∀n∈ns,Nm n)->k+ns.length<=8->run (a,k) (ns.map tok)=some (a,k+ns.length)
 |[],_,_,_=>rfl
 |n::ns,k,h,hk=>by
  rw[d9] at hk;have e:go (a,k) none=some (a,k+1):=by
   rcases b with rfl|rfl
   ·exact (show go (6,k) none=(if k<8 then some (6,k+1) else none) from rfl).trans (if_pos (by lia))
   ·exact (show go (12,k) none=(if k<8 then some (12,k+1) else none) from rfl).trans (if_pos (by lia))
  rw[bAE,mY (h n (j7 ..)),eZ e,xB b (λx m=>h x (j8 _ m)) (by lia),d9]
  congr 2
  lia
def aSn (h:Vl v)(e:c≠45/\c≠39/\(c<48\/57<c)/\(c<97\/122<c)):c∉cs (shw v):=by
 obtain⟨d,a,j,g⟩:=e;rcases h with⟨i,rfl,f⟩|⟨x,rfl,hx,h8⟩
 ·have b:∀m:Nat,c∉(Nat.toDigits 10 m).map Char.toNat:=λm z=>by have:=vP m c z;lia
  cases i with
  |ofNat m=>rw[show cs (shw (.int (Int.ofNat m)))=(Nat.toDigits 10 m).map Char.toNat from PySem.W.KIN.signs_num m];exact b m
  |negSucc n=>
   rw[show cs (shw (.int (Int.negSucc n)))=45::(Nat.toDigits 10 (n+1)).map Char.toNat from yW n];intro z;rcases List.mem_cons.mp z with z|z
   ·exact d z
   ·exact b _ z
 ·rw[oH];intro z;rcases List.mem_cons.mp z with z|z
  ·exact a z
  rcases List.mem_append.mp z with z|z
  ·have:=hx c (Array.mem_toList_iff.mp z);lia
  ·exact a (List.mem_singleton.mp z)
def bHa (h:Vl v):shw v≠"":=λe=>by
 have e:cs (shw v)=[]:=by rw[e];rfl
 rcases h with⟨i,rfl,a⟩|⟨x,rfl,hx,h8⟩
 ·cases i with
  |ofNat m=>rw[show cs (shw (.int (Int.ofNat m)))=(Nat.toDigits 10 m).map Char.toNat from PySem.W.KIN.signs_num m] at e;exact aK5 m e
  |negSucc n=>rw[show cs (shw (.int (Int.negSucc n)))=45::(Nat.toDigits 10 (n+1)).map Char.toNat from yW n] at e;cases e
 ·rw[oH] at e;cases e
def qT (h:Nm x)(g:isL c=false):c∉cs x:=λm=>by
 have b:(lO 1 (.str x) && !inV (.str x) words)=true:=h;rw[w6] at b;have a:lO 0 (.str x)=true:=by obtain⟨y,e,_,f,d⟩:=tU b.1;cases e;show (decide (0<=x.length) && (decide (x.length<=8) && allIn x))=true;rw[v9 f,d,v9 (bAK _)];rfl
 rw[aA5] at a;unfold aDc at a;rw[w6] at a;have:=(List.all_eq_true.mp a.2) c m;rw[g] at this;cases this
def aQx (h:Nm x):1<=(cs x).length:=by have a:(lO 1 (.str x) && !inV (.str x) words)=true:=h;rw[w6] at a;obtain⟨y,e,b,_⟩:=tU a.1;cases e;exact b
def bIu (h:OkO o)(k:Nat):go (4,k) (tok (wO o))=some (5,k+1):=by
 refine if_neg λe=>?_;cases o with
 |val x=>
  have e:(if nameB (.str (shw x)) then none else some (shw x))=some ("":Str):=e;by_cases a:nameB (.str (shw x))=true
  ·rw[if_pos a] at e;cases e
  ·rw[if_neg a] at e;exact bHa h (bAM e)
 |col d=>rw[show tok (wO (.col d))=none from mY h] at e;cases e
def aNz (h:OkT t)(k:Nat):run (2,k) ((wT t).map tok++r)=run (5,k+1) r:=by
 obtain⟨a,h2,b⟩:=h;show run (2,k) (tok t.c::tok t.sg::tok (wO t.o)::r)=_;have e:go (3,k) (tok t.sg)=some (4,k):=by rcases h2 with h2|h2|h2|h2 <;> rw[h2,kw (by trivial)] <;> rfl
 rw[mY a,eZ (show go (2,k) none=some (3,k) from rfl),eZ e,eZ (bIu b k)]
theorem aIs:∀{ts:List Tst} {k:Nat},ts≠[]->(∀t∈ts,OkT t)->k+ts.length<=3->run (2,k) ((dU (ts.map wT)).map tok)=some (5,k+ts.length)
 |[],_,h,_,_=>absurd rfl h
 |[t],k,_,h,_=>by have e:=aNz (h t (j7 ..)) k (r:=[]);rw[bAJ] at e;exact e
 |t::u::r,k,_,h,hk=>by
  rw[d9,d9] at hk;show run (2,k) ((wT t++("and":Str)::dU ((u::r).map wT)).map tok)=_;have e:go (5,k+1) (some ("and":Str))=some (2,k+1):=(show go (5,k+1) (some ("and":Str))=(if k+1<3 then some (2,k+1) else none) from rfl).trans (if_pos (by lia));rw[bAH,aNz (h t (j7 ..)),bAE,show tok "and"=some ("and":Str) by trivial,eZ e,aIs (λz=>by cases z) (λx m=>h x (j8 _ m)) (by rw[d9];lia)]
  congr 2
  simp only[d9];lia
def aOq (h:OkP p)(k:Nat):run (9,k) ((wP p).map tok++r)=run (11,k+1) r:=by show run (9,k) (tok p.1::tok p.2::r)=_;rw[mY h.1,mY h.2,eZ (show go (9,k) none=some (10,k) from rfl),eZ (show go (10,k) none=some (11,k+1) from rfl)]
theorem aH1:∀{ts:List (Str × Str)} {k:Nat},ts≠[]->(∀t∈ts,OkP t)->k+ts.length<=3->run (9,k) ((dU (ts.map wP)).map tok)=some (11,k+ts.length)
 |[],_,h,_,_=>absurd rfl h
 |[t],k,_,h,_=>by have e:=aOq (h t (j7 ..)) k (r:=[]);rw[bAJ] at e;exact e
 |t::u::r,k,_,h,hk=>by
  rw[d9,d9] at hk;show run (9,k) ((wP t++("and":Str)::dU ((u::r).map wP)).map tok)=_;have e:go (11,k+1) (some ("and":Str))=some (9,k+1):=(show go (11,k+1) (some ("and":Str))=(if k+1<3 then some (9,k+1) else none) from rfl).trans (if_pos (by lia));rw[bAH,aOq (h t (j7 ..)),bAE,show tok "and"=some ("and":Str) by trivial,eZ e,aH1 (λz=>by cases z) (λx m=>h x (j8 _ m)) (by rw[d9];lia)]
  congr 2
  simp only[d9];lia
def aRw (h:OkS s)(k:Nat):run (13,k) ((wS s).map tok++r)=run (16,k+1) r:=by
 obtain⟨a,b⟩:=h;rcases b with⟨e,f⟩|⟨c,f,hc,e⟩
 ·unfold wS;rw[f];show run (13,k) (tok s.wd::tok s.new::r)=_;rw[e,mY a,kw (by trivial),eZ (show go (13,k) (some ("count":Str))=some (15,k) from rfl),eZ (show go (15,k) none=some (16,k+1) from rfl)]
 ·unfold wS;rw[f];show run (13,k) (tok s.wd::tok c::tok s.new::r)=_;have g:go (13,k) (tok s.wd)=some (14,k):=by rcases e with e|e|e <;> rw[e,kw (by trivial)] <;> rfl
  rw[mY a,mY hc,eZ g,eZ (show go (14,k) none=some (15,k) from rfl),eZ (show go (15,k) none=some (16,k+1) from rfl)]
theorem aNi:∀{ss:List Sm} {k:Nat},(∀s∈ss,OkS s)->k+ss.length<=4->run (16,k) ((bJ "with" (ss.map wS)).map tok)=some (16,k+ss.length)
 |[],_,_,_=>rfl
 |s::r,k,h,hk=>by
  rw[d9] at hk;show run (16,k) (tok "with"::(wS s++bJ "with" (r.map wS)).map tok)=_;have e:go (16,k) (tok "with")=some (13,k):=(if_pos (by trivial)).trans (if_pos (by lia));rw[eZ e,bAH,aRw (h s (j7 ..)),aNi (λx m=>h x (j8 _ m)) (by lia),d9]
  congr 2
  lia
theorem aMe:∀{ks:List (Str × Str)} {k:Nat},(∀s∈ks,OkK s)->k+ks.length<=3->run (18,k) ((bJ "by" (ks.map wP)).map tok)=some (18,k+ks.length)
 |[],_,_,_=>rfl
 |s::r,k,h,hk=>by
  rw[d9] at hk;show run (18,k) (tok "by"::tok s.1::tok s.2::(bJ "by" (r.map wP)).map tok)=_;have e:go (18,k) (tok "by")=some (19,k):=(if_pos (by trivial)).trans (if_pos (by lia));obtain⟨a,h2⟩:=h s (j7 ..);have g:go (20,k) (tok s.2)=some (18,k+1):=by rcases h2 with h2|h2 <;> rw[h2,kw (by trivial)] <;> rfl
  rw[eZ e,mY a,eZ (show go (19,k) none=some (20,k) from rfl),eZ g,aMe (λx m=>h x (j8 _ m)) (by lia),d9]
  congr 2
  lia
def bFt:∀m:Nat,m<61->go (17,0) (tok (shw (.int m)))=some (18,0):=by trivial
def aNo (h:Wf q):Whole (wq q):=by
 induction q with
 |table T=>exact⟨(1,0),by rw[show (wq (.table T)).map tok=[tok T] from rfl,mY h];rfl,rfl⟩
 |whr q ts ih=>exact jV (ih h.1) (by trivial) (by trivial) (by trivial) rfl (aIs (λz=>by have:=h.2.1;rw[z] at this;cases this) h.2.2.2 (by have:=h.2.2.1;lia)) rfl
 |keep q ns ih=>exact jV (ih h.1) (by trivial) (by trivial) (by trivial) rfl (xB (.inl rfl) h.2.2.2 (by have:=h.2.2.1;lia)) (by cases ns with
  |nil=>exact absurd h.2.1 (by decide)
  |cons n ns=>rw[d9,<-Nat.add_assoc];rfl)
 |nmd q ns ih=>exact jV (ih h.1) (by trivial) (by trivial) (by trivial) rfl (xB (.inl rfl) h.2.2.2 (by have:=h.2.2.1;lia)) (by cases ns with
  |nil=>exact absurd h.2.1 (by decide)
  |cons n ns=>rw[d9,<-Nat.add_assoc];rfl)
 |join q r ps ih ir=>obtain⟨g,f,c⟩:=ir h.2.1;refine jV (ih h.1) (by trivial) (by trivial) (by trivial) rfl (s':=(11,0+ps.length)) ?_ rfl;rw[bAE,eZ (show go (7,0) (tok "(")=some (0,0) by trivial),bAH,aLl f,bAE,bAE,show tok ")"=some (")":Str) by trivial,eZ ((aXa c (by trivial) (by trivial)).trans (show gen (some (")":Str))=some (8,0) by trivial)),eZ (show go (8,0) (tok "on")=some (9,0) by trivial)];exact aH1 (λz=>by have:=h.2.2.1;rw[z] at this;cases this) h.2.2.2.2 (by have:=h.2.2.2.1;lia)
 |group q ns ss ih=>
  have a:run (12,0) (ns.map tok)=some (12,0+ns.length):=xB (.inr rfl) h.2.2.1 (by have:=h.2.1;lia);cases ss with
  |nil=>exact jV (ih h.1) (by trivial) (by trivial) (by trivial) rfl (s':=(12,0+ns.length)) (by rw[show (ns++bJ "with" (([]:List Sm).map wS))=ns from bAJ ns];exact a) rfl
  |cons s r=>have b:=h.2.2.2.2;have d:=h.2.2.2.1;rw[d9] at d;refine jV (ih h.1) (by trivial) (by trivial) (by trivial) rfl (s':=(16,0+1+r.length)) ?_ rfl;rw[bAH,aLl a];show run (12,0+ns.length) (tok "with"::(wS s++bJ "with" (r.map wS)).map tok)=_;have e:go (12,0+ns.length) (tok "with")=some (13,0):=(if_neg (by trivial)).trans (if_pos (by trivial));rw[eZ e,bAH,aRw (b s (j7 ..)),aNi (λx m=>b x (j8 _ m)) (by lia)]
 |first q ks m ih=>refine jV (ih h.1) (by trivial) (by trivial) (by trivial) rfl (s':=(18,0+ks.length)) ?_ rfl;rw[bAE,eZ (bFt m (by have:=h.2.2.2;lia))];exact aMe h.2.2.1 (by have:=h.2.1;lia)
inductive Tx where
 |T
 |c
 |l (s:Str)
 |cat (a b:Tx)
 |rep (a:Tx) (n:Nat)
 |join (s:Str) (a:Tx) (n:Nat)
def den (T c:Str):Tx->Str
 |.T=>T
 |.c=>c
 |.l s=>s
 |.cat a b=>den T c a++den T c b
 |.rep a n=>sY (den T c a) n
 |.join s a n=>PySem.Txt.join s (List.replicate n (den T c a))
abbrev Sn:=Int
abbrev litN (s:Str):List Sn:=(cs s).map Int.ofNat
def aZx (x:List Sn):Nat->List Sn
 |0=>[]
 |n+1=>aZx x n++x
def aRq (s x:List Sn):Nat->List Sn
 |0=>[]
 |n+1=>match n with
  |0=>x
  |_+1=>x++s++aRq s x n
def nf:Tx->List Sn
 |.T=>[-1]
 |.c=>[-2]
 |.l s=>litN s
 |.cat a b=>nf a++nf b
 |.rep a n=>aZx (nf a) n
 |.join s a n=>aRq (litN s) (nf a) n
def sg (T c:Str):Sn->List Nat
 |.ofNat n=>[n]
 |.negSucc 0=>cs T
 |.negSucc _=>cs c
def aOz (T c:Str)(x:List Nat):(x.map Int.ofNat).flatMap (sg T c)=x:=by
 induction x with
 |nil=>rfl
 |cons a x ih=>rw[bAE,bCW,ih];rfl
def rE (T c:Str)(t:Tx):cs (den T c t)=(nf t).flatMap (sg T c):=by
 induction t with
 |T=>exact (bAJ _).symm
 |c=>exact (bAJ _).symm
 |l s=>exact (aOz T c _).symm
 |cat a b iha ihb=>show cs (den T c a++den T c b)=(nf a++nf b).flatMap _;rw[jZ,iha,ihb,bBU]
 |rep a n ih=>
  show cs (sY (den T c a) n)=(aZx (nf a) n).flatMap _
  induction n with
  |zero=>rfl
  |succ n i2=>show cs (sY (den T c a) n++den T c a)=(aZx (nf a) n++nf a).flatMap _;rw[jZ,i2,ih,bBU]
 |join s a n ih=>
  show cs (PySem.Txt.join s (List.replicate n (den T c a)))=(aRq (litN s) (nf a) n).flatMap _
  induction n with
  |zero=>rfl
  |succ n i2=>
   cases n with
   |zero=>exact (congrArg cs (join_one s _)).trans ih
   |succ n=>show cs (PySem.Txt.join s (den T c a::den T c a::List.replicate n (den T c a)))=(nf a++litN s++aRq (litN s) (nf a) (n+1)).flatMap _;rw[aH3,jZ,jZ,bBU,bBU,<-i2,ih,aOz];rfl
inductive Wd where
 |T
 |c
 |l (s:List Nat)
def wv (T c:Str):Wd->Str
 |.T=>T
 |.c=>c
 |.l s=>⟨s.toArray⟩
def nW:Wd->List Sn
 |.T=>[-1]
 |.c=>[-2]
 |.l s=>s.map Int.ofNat
def tk:Wd->Option Str
 |.l s=>tok ⟨s.toArray⟩
 |_=>none
def aEy:List Wd->List Sn
 |[]=>[]
 |[a]=>nW a
 |a::b::r=>nW a++32::aEy (b::r)
def bCv (T c:Str)(a:Wd):cs (wv T c a)=(nW a).flatMap (sg T c):=by
 cases a with
 |T=>exact (bAJ _).symm
 |c=>exact (bAJ _).symm
 |l s=>exact (aOz T c _).symm
theorem aIh (T c:Str):∀L:List Wd,cs (txt (L.map (wv T c)))=(aEy L).flatMap (sg T c)
 |[]=>show cs (txt [])=[] by decide
 |[a]=>by show cs (txt [wv T c a])=_;rw[gC];exact bCv T c a
 |a::b::r=>by have d:=aIh T c (b::r);show cs (txt (wv T c a::wv T c b::r.map (wv T c)))=(nW a++32::aEy (b::r)).flatMap _;rw[cO,jZ,jZ,bCv,bBU,bCW,<-d,bAB];rfl
def mkW:List Sn->Wd
 |[-1]=>.T
 |[-2]=>.c
 |l=>.l (l.map Int.toNat)
def aLu:List Sn->List Sn->List Wd
 |a,[]=>[mkW a]
 |a,x::r=>if x=32 then mkW a::aLu [] r else aLu (a++[x]) r
def okW:Wd->Bool
 |.l s=>!s.contains 32
 |_=>true
def ends (o:Option Sa):Bool:=match o with
 |some s=>acc s
 |none=>false
def chk (t:Tx):Bool:=let L:=aLu [] (nf t);!L.isEmpty && (decide (nf t=aEy L) && (L.all okW && !ends (run (0,0) (L.map tk))))
def bEk {T c:Str}(i:Nm T)(u:Nm c){t:Tx}(h:chk t=true){q:Qn}(j:Wf q):den T c t≠txt (wq q):=λe=>by
 have h:(!(aLu [] (nf t)).isEmpty && (decide (nf t=aEy (aLu [] (nf t))) && ((aLu [] (nf t)).all okW && !ends (run (0,0) ((aLu [] (nf t)).map tk)))))=true:=h;generalize aLu [] (nf t)=L at h;rw[w6,w6,w6,decide_eq_true_eq,bEM,bEM,bBI] at h;obtain⟨g,A,n,b⟩:=h;have w:den T c t=txt (L.map (wv T c)):=aRc (by show cs (den T c t)=cs (txt (L.map (wv T c)));rw[rE,A,aIh])
 have f:∀x∈L.map (wv T c),32∉x.cps.toList:=λx m=>by
  obtain⟨a,r,rfl⟩:=List.mem_map.mp m;cases a with
  |T=>exact qT i (by decide)
  |c=>exact qT u (by decide)
  |l s=>intro z;have:=n _ r;have k:(!s.contains 32)=true:=this;rw[bEM,List.contains_eq_mem,decide_eq_false_iff_not] at k;exact k z
 have y:L.map (wv T c)≠[]:=λz=>by rw[List.map_eq_nil_iff] at z;rw[z] at g;cases g
 have p:L.map (wv T c)=wq q:=by rw[<-aCj y f,<-rY j,<-w,e]
 obtain⟨s,d,v⟩:=aNo j;rw[<-p,bAZ] at d;have o:(tok ∘ wv T c)=tk:=funext λa=>by
  cases a with
  |T=>exact mY i
  |c=>exact mY u
  |l s=>rfl
 rw[o] at d;rw[d] at b;have b:acc s=false:=b;rw[v] at b;cases b
theorem vQ:∀{l:List Str},l≠[]->(∀x∈l,32∉cs x)->(cs (txt l)).count 32+1=l.length
 |[],h,_=>absurd rfl h
 |[a],_,h=>by rw[gC,bBS (h a (j7 ..))];rfl
 |a::b::r,_,h=>by have c:=vQ (λe=>by cases e) λx m=>h x (j8 _ m);rw[cO,jZ,jZ,bBL,bBL,bBS (h a (j7 ..)),show (cs " ").count 32=1 by decide,d9,<-c];lia
def split_len (t:Str):(PySem.Txt.split t " ").length=(cs t).count 32+1:=by have e:txt (PySem.Txt.split t " ")=t:=vN t 32;have p:=split_pos t " ";have b:=vQ (l:=PySem.Txt.split t " ") (λz=>by rw[z] at p;exact absurd p (by decide)) (StrLaws.split_free t 32);rw[e] at b;exact b.symm
def aJ6 (a:t.length<=100000)(h2:(cs t).count 32<=999):(t.length<=100000/\(PySem.Txt.split t " ").length<=1000):=⟨a,by rw[split_len];lia⟩
def vD (f:Nm T)(d:Nm c)(hn:isL n=false)(l:List Sn):(l.flatMap (sg T c)).count n=l.count (Int.ofNat n):=by
 induction l with
 |nil=>rfl
 |cons a l ih=>
  rw[bCW,bBL,ih,List.count_cons];cases a with
  |ofNat m=>
   show ([m]:List Nat).count n+_=_;rw[List.count_cons,List.count_nil];by_cases e:m=n
   ·rw[e,if_pos (beq_self_eq_true _),if_pos (beq_self_eq_true _)];lia
   ·rw[if_neg (λz=>e (beq_iff_eq.mp z)),if_neg (λz=>e (Int.ofNat.inj (beq_iff_eq.mp z)))];lia
  |negSucc b=>
   have z:(sg T c (.negSucc b)).count n=0:=by
    cases b
    ·exact bBS (qT f hn)
    ·exact bBS (qT d hn)
   rw[z,if_neg (λz=>by have:=beq_iff_eq.mp z;cases this)];lia
def wt:List Sn->Nat
 |[]=>0
 |.ofNat _::l=>1+wt l
 |.negSucc _::l=>8+wt l
def aCh (e:Nm T)(d:Nm c)(l:List Sn):l.length<=(l.flatMap (sg T c)).length/\(l.flatMap (sg T c)).length<=wt l:=by
 induction l with
 |nil=>exact⟨v7 _,v7 _⟩
 |cons a l ih=>
  rw[bCW,j6,d9];cases a with
  |ofNat m=>show _<=1+_/\1+_<=1+_;lia
  |negSucc b=>
   have z:1<=(sg T c (.negSucc b)).length/\(sg T c (.negSucc b)).length<=8:=by
    cases b
    ·exact⟨aQx e,fJ e⟩
    ·exact⟨aQx d,fJ d⟩
   show _/\_<=8+_;lia
def bH6 (t:Tx):Bool:=decide (wt (nf t)<=100000) && decide ((nf t).count (32)<=999)
def bAl (b:Nm T)(d:Nm c)(h:bH6 t=true):(den T c t).length<=100000/\(PySem.Txt.split (den T c t) " ").length<=1000:=by
 have h:(decide (wt (nf t)<=100000) && decide ((nf t).count (32)<=999))=true:=h;rw[w6,decide_eq_true_eq,decide_eq_true_eq] at h;refine aJ6 ?_ ?_
 ·have e:(den T c t).length=(cs (den T c t)).length:=rfl;have a:=(aCh b d (nf t)).2;rw[e,rE];lia
 ·rw[rE,vD b d (by decide)];exact h.2
abbrev bx0:List Tx:=[.l "",.l "where",.cat (.l "where ") .c,.cat (.cat (.l "where ") .c) (.l " = "),.cat (.cat (.l "where ") .c) (.l " ="),.cat (.cat (.l "where ") .c) (.l " ~ 1"),.c,.l "keep"]
abbrev bx1:List Tx:=[.cat (.l "where 1 = ") .c,.l "keep 1",.l "named",.cat (.cat (.l "keep ") .c) (.l " by"),.cat (.cat (.cat (.cat (.cat (.l "join ") .T) (.l " on ")) .c) (.l " ")) .c]
abbrev bx2:List Tx:=[.cat (.cat (.cat (.l "join ( ") .T) (.l " ) on ")) .c,.cat (.cat (.l "join ( ") .T) (.l " )"),.cat (.cat (.cat (.l "join ( ) on ") .c) (.l " ")) .c,.l ")"]
abbrev bx3:List Tx:=[.l "group with"]
abbrev bx4:List Tx:=[.cat (.cat (.cat (.cat (.cat (.l "join ( ") .T) (.l " on ")) .c) (.l " ")) .c,.cat (.cat (.cat (.l "group ") .c) (.l " with sum ")) .c,.l "group with count"]
abbrev bx5:List Tx:=[.cat (.cat (.cat (.l "group with count ") .c) (.l " ")) .c,.cat (.cat (.cat (.l "group with mean ") .c) (.l " ")) .c,.l "first",.l "first 61"]
abbrev bx6:List Tx:=[.l "first -1",.l "first 03",.cat (.l "first 3 by ") .c,.l "first 3 by",.cat (.cat (.l "first 3 ") .c) (.l " up")]
abbrev bx7:List Tx:=[.cat (.cat (.l "first 3 by ") .c) (.l " Up"),.cat (.cat (.l "where ") .c) (.l " = 1 and"),.cat (.l "where ") (.join " and " (.cat .c (.l " = 1")) 4)]
abbrev bx8:List Tx:=[.cat (.l "group") (.rep (.cat (.l " with count ") .c) 5),.cat (.l "group") (.rep (.cat (.l " ") .c) 9),.cat (.l "named") (.rep (.cat (.l " ") .c) 9)]
abbrev bx9:List Tx:=[.cat (.cat (.cat (.l "join ( ") .T) (.l " ) on ")) (.join " and " (.cat (.cat .c (.l " ")) .c) 4)]
abbrev bJb:List Tx:=[.cat (.l "keep") (.rep (.cat (.l " ") .c) 9),.cat (.l "first 3") (.rep (.cat (.cat (.l " by ") .c) (.l " up")) 4)]
abbrev bxs:List Tx:=(((((((((bx0++bx1)++bx2)++bx3)++bx4)++bx5)++bx6)++bx7)++bx8)++bx9)++bJb
abbrev nx:List Tx:=[.l "",.l " ",.l "where",.l "7",.l "'ab'",.cat (.l " ") .T,.cat (.cat (.l "( ") .T) (.l " )"),.cat .T (.l "\n")]
def ahead (t:Tx):Tx:=.cat (.cat .T (.l " ")) t
def nxs:List Tx:=nx++bxs.map ahead
def aYt:∀t∈nxs,bH6 t=true/\(chk t=true\/nf t=nf (.cat .T (.l "\n"))):=by trivial
def bGm (g:Nm T)(h:nf t=nf (.cat .T (.l "\n")))(d:Wf q):den T c t≠txt (wq q):=λe=>by
 have f:32∉cs (den T c t)/\10∈cs (den T c t):=by
  rw[rE,h];have k:(nf (.cat .T (.l "\n"))).flatMap (sg T c)=cs T++[10]:=rfl;rw[k];refine⟨λm=>?_,bAS _ (j7 ..)⟩;rcases List.mem_append.mp m with m|m
  ·exact qT g (by decide) m
  ·exact absurd (List.mem_singleton.mp m) (by decide)
 have b:[den T c t]=wq q:=by
  rw[<-rY d,<-e]
  conv=>rhs;rw[<-gC (den T c t)]
  exact (aCj (λz=>by cases z) λx m=>by rw[List.mem_singleton.mp m];exact f.1).symm
 obtain⟨s,a,i⟩:=aNo d;rw[<-b,bAE,kw (by
  cases k:nameB (.str (den T c t)) with
  |false=>rfl
  |true=>exact absurd f.2 (qT (show Nm _ from k) (by decide)))] at a
 have a:=a;cases a
def bDw (a:Nm T)(d:Nm c)(m:t∈nxs)(b:Wf q):den T c t≠txt (wq q):=by
 rcases (aYt t m).2 with h|h
 ·exact bEk a d h b
 ·exact bGm a h b
abbrev fV:Tx:=.cat (.cat (.rep (.cat .T (.l " join ( ")) 90) .T) (.rep (.cat (.cat (.cat (.l " ) on ") .c) (.l " ")) .c) 90)
def oW:wt (nf fV)<=100000/\(nf fV).count 32=630/\wt ((nf fV).take 540)<=1000/\1000<=(nf fV).length/\((nf fV).take 540).count 40=60/\((nf fV).take 1000).count 41<=59:=by trivial
def bBj (f:Nm T)(g:Nm c)(d:Wf q)(hz:size q<=20):den T c fV≠txt (wq q):=λe=>by have a:=aI9 d;have b:=split_len (txt (wq q));rw[rY d,<-e,rE,vD f g (by decide),show (nf fV).count (Int.ofNat 32)=630 from oW.2.1] at b;lia
def Bl (l:List Str):Prop:=(l.flatMap cs).count 40=(l.flatMap cs).count 41
def aB1 (c:Bl a)(d:Bl b):Bl (a++b):=by unfold Bl at *;rw[bBU,bBL,bBL,c,d]
def Pf (x:Str):Prop:=40∉cs x/\41∉cs x
def zO (h:∀x∈l,Pf x):Bl l:=by
 unfold Bl;rw[bBS λm=>?_,bBS λm=>?_]
 ·obtain⟨x,a,z⟩:=List.mem_flatMap.mp m;exact (h x a).2 z
 ·obtain⟨x,a,z⟩:=List.mem_flatMap.mp m;exact (h x a).1 z
def uR (h:Nm x):Pf x:=⟨qT h (by decide),qT h (by decide)⟩
def bCk (h:Vl v):Pf (shw v):=⟨aSn h (by decide),aSn h (by decide)⟩
instance:DecidablePred Pf:=λx=>by unfold Pf;exact inferInstance
def eQ (a:Pf x)(h:∀y∈l,Pf y):∀y∈x::l,Pf y:=λy m=>by
 rcases List.mem_cons.mp m with rfl|m
 ·exact a
 ·exact h y m
def aAz {α:Type}{f:α->List Str}{xs:List α}(h:∀a∈xs,∀y∈f a,Pf y):∀l∈xs.map f,∀y∈l,Pf y:=λl m=>by obtain⟨a,b,rfl⟩:=List.mem_map.mp m;exact h a b
def wI:∀y∈([]:List Str),Pf y:=λy m=>by cases m
def bId {q:Qn}(h:Wf q):Bl (wq q):=by
 induction q with
 |table T=>exact zO (eQ (uR h) wI)
 |whr q ts ih=>
  refine aB1 (ih h.1) (zO (eQ (by trivial) (wR (by trivial) (aAz λt m=>?_))));obtain⟨a,b,d⟩:=h.2.2.2 t m;refine eQ (uR a) (eQ ?_ (eQ ?_ wI))
  ·rcases b with b|b|b|b <;> rw[b] <;> decide +kernel
  ·cases e:t.o with
   |val x=>rw[e] at d;exact bCk d
   |col x=>rw[e] at d;exact uR d
 |keep q ns ih=>exact aB1 (ih h.1) (zO (eQ (by trivial) λn m=>uR (h.2.2.2 n m)))
 |nmd q ns ih=>exact aB1 (ih h.1) (zO (eQ (by trivial) λn m=>uR (h.2.2.2 n m)))
 |join q r ps ih ir=>have e:(("join":Str)::("(":Str)::(wq r++(")":Str)::("on":Str)::dU (ps.map wP)))=[("join":Str)]++([("(":Str)]++(wq r++([(")":Str)]++(("on":Str)::dU (ps.map wP))))):=rfl;have k:Bl (("on":Str)::dU (ps.map wP)):=zO (eQ (by trivial) (wR (by trivial) (aAz λt m=>eQ (uR (h.2.2.2.2 t m).1) (eQ (uR (h.2.2.2.2 t m).2) wI))));have c:=ir h.2.1;refine aB1 (ih h.1) ?_;rw[e];unfold Bl at *;simp only[bBU,bBL,bCW,List.flatMap_nil,List.count_nil] at *;rw[k,c,show (cs "join").count 40=0 by trivial,show (cs "join").count 41=0 by trivial,show (cs "(").count 40=1 by trivial,show (cs "(").count 41=0 by trivial,show (cs ")").count 40=0 by trivial,show (cs ")").count 41=1 by trivial];lia
 |group q ns ss ih=>
  refine aB1 (ih h.1) (zO (eQ (by trivial) λy m=>?_));rcases List.mem_append.mp m with m|m
  ·exact uR (h.2.2.1 y m)
  ·refine wH (by trivial) (aAz λs f=>?_) y m;obtain⟨a,b⟩:=h.2.2.2.2 s f;unfold wS;rcases b with⟨b,d⟩|⟨d,e,n,b⟩
   ·rw[d];exact eQ (by rw[b];decide +kernel) (eQ (uR a) wI)
   ·rw[e];exact eQ (by rcases b with b|b|b <;> rw[b] <;> decide +kernel) (eQ (uR n) (eQ (uR a) wI))
 |first q ks m ih=>refine aB1 (ih h.1) (zO (eQ (by trivial) (eQ (bCk (aKn h.2.2.2)) (wH (by trivial) (aAz λt m=>?_)))));obtain⟨a,b⟩:=h.2.2.1 t m;exact eQ (uR a) (eQ (by rcases b with b|b <;> rw[b] <;> decide +kernel) wI)
theorem aB5 (hn:n≠32):∀l:List Str,(cs (txt l)).count n=(l.flatMap cs).count n
 |[]=>by rw[show cs (txt [])=[] by decide];rfl
 |[a]=>by rw[gC,bCW];simp
 |a::b::r=>by rw[cO,jZ,jZ,bBL,bBL,aB5 hn (b::r),show (a::b::r).flatMap cs=cs a++(b::r).flatMap cs from bCW,bBL,show (cs " ")=[32] by decide,List.count_cons,List.count_nil,if_neg (λz=>hn (beq_iff_eq.mp z).symm)];lia
def bDp (a:Nm T)(d:Nm c)(n:cs t=(cs (den T c fV)).take 1000)(o:Wf q):t≠txt (wq q):=λe=>by
 have b:=bId o;unfold Bl at b;rw[<-aB5 (by decide),<-aB5 (by decide),<-e,n,rE] at b;obtain⟨_,_,j,g,f,h⟩:=oW;have m:60<=(((nf fV).flatMap (sg T c)).take 1000).count 40:=by
  have l:=(aCh a d ((nf fV).take 540)).2;have k:(nf fV).flatMap (sg T c)=((nf fV).take 540).flatMap (sg T c)++((nf fV).drop 540).flatMap (sg T c):=by rw[<-bBU,List.take_append_drop]
  rw[k,List.take_append,bBK (by lia),bBL,vD a d (by decide)];have f:((nf fV).take 540).count (Int.ofNat 40)=60:=f;lia
 have i:(((nf fV).flatMap (sg T c)).take 1000).count 41<=59:=by
  have l:=(aCh a d ((nf fV).take 1000)).1;rw[bAU,bEZ g] at l;have k:(nf fV).flatMap (sg T c)=((nf fV).take 1000).flatMap (sg T c)++((nf fV).drop 1000).flatMap (sg T c):=by rw[<-bBU,List.take_append_drop]
  rw[k,List.take_append_of_le_length l];have s:(List.take 1000 (((nf fV).take 1000).flatMap (sg T c))).count 41<=(((nf fV).take 1000).flatMap (sg T c)).count 41:=(bBV _ _).count_le _;rw[vD a d (by decide) ((nf fV).take 1000)] at s;exact bAF s h
 lia
def aVd (f:Nm T)(g:Nm c)(d:∃n,cs t=(cs (den T c fV)).take n):t.length<=100000/\(PySem.Txt.split t " ").length<=1000:=by
 obtain⟨n,d⟩:=d;have e:t.length=(cs t).length:=rfl;refine aJ6 ?_ ?_
 ·have a:=(aCh f g (nf fV)).2;have b:=oW.1;rw[e,d,bAU,rE];lia
 ·have s:=(bBV n (cs (den T c fV))).count_le 32;have k:((nf fV).flatMap (sg T c)).count 32=(nf fV).count 32:=vD f g (by decide) _;rw[oW.2.1] at k;rw[d];rw[rE] at s ⊢;lia
structure C2 (Tn cn:Str)(σ:L2.St):Prop where
 t:σ[0]?=some (some (.str Tn))
 c:σ[1]?=some (some (.str cn))
 nt:Nm Tn
 nc:Nm cn
def tX (Tn cn:Str)(t:Tx):TE:=fun σ H Q=>C2 Tn cn σ/\∀H',Same H H'->Q (.str (den Tn cn t)) H'
def tXs (Tn cn:Str)(ts:List Tx):TA:=fun σ H Q=>C2 Tn cn σ/\∀H',Same H H'->Q (ts.map λt=>.str (den Tn cn t)) H'
def aMt (h:VE X e (iK 0)):VE X e (tX Tn cn .T):=h.imp fun σ H Q k=>⟨_,k.1.t,k.2 _ (Same.refl _)⟩
def jO (h:VE X e (iK 1)):VE X e (tX Tn cn .c):=h.imp fun σ H Q k=>⟨_,k.1.c,k.2 _ (Same.refl _)⟩
def cT {j}:VE X (.Constant (.str s) j pos) (tX Tn cn (.l s)):=aF.imp fun σ H Q k=>k.2 _ (Same.refl _)
def aBd (b:Nm Tn)(a:Nm cn)(t:Tx):(den Tn cn t).length<=wt (nf t):=by rw[show (den Tn cn t).length=(cs (den Tn cn t)).length from rfl,rE];exact (aCh b a _).2
def bA (g:VE X e (tX Tn cn t))(h:VE X e' (tX Tn cn u))(i:wt (nf t)+wt (nf u)<=16777216:=by trivial):VE X (.BinOp e .Add e' pos) (tX Tn cn (.cat t u)):=(aO aN g h).imp fun σ H Q k=>⟨k.1,λj d=>⟨k.1,λf c=>⟨_,_,rfl,rfl,by have a:=aBd k.1.nt k.1.nc t;have b:=aBd k.1.nt k.1.nc u;exact bAF (Nat.add_le_add a b) i,k.2 _ (d.trans c)⟩⟩⟩
def aFz {j}(b:VE X e (tX Tn cn t))(d:0<=i:=by decide)(hn:i.toNat<=1000:=by decide)(f:wt (nf t) * i.toNat<=16777216:=by trivial):VE X (.BinOp e .Mult (.Constant (.int i) j pos') pos) (tX Tn cn (.rep t i.toNat)):=(aO aD7 b aD).imp fun σ H Q k=>⟨k.1,λg a=>⟨_,i.toNat,rfl,congrArg V.int (bEC d).symm,hn,bAF (Nat.mul_le_mul_right _ (aBd k.1.nt k.1.nc t)) f,λc e=>by rw[e];exact k.2 _ a⟩⟩
def aVp {t t':TA}(h:VA X es t)(k:∀σ H Q,t' σ H Q->t σ H Q):VA X es t':=⟨λb a s σ H Q I q=>h.1 b a s σ H Q I (k σ H Q q)⟩
def aR9 {s:Str}{i:Int}(h:VE X e (tBM X.K "str" (rJoin X.K) (tC (.str s)) (eE (tOp aY0 (bCs (eE (tX Tn cn t) pP)) (tC (.int i))) pP)))(hi:0<=i:=by decide)(hz:i.toNat<=1000:=by decide)(q:i.toNat * wt (nf t)+i.toNat * s.length<=16777216:=by trivial):VE X e (tX Tn cn (.join s t i.toNat)):=h.imp fun σ H Q k=>⟨rfl,k.1,λo d=>⟨sz1,λp j l g c=>⟨p,i,_,rfl,rfl,c,by lia,by lia,(by
 have u:sizeLine=2 ^ 24:=rfl;show 1 * i.toNat<=_;lia),λa r v f b=>⟨s,a,List.replicate i.toNat (den Tn cn t),rfl,rfl,SqL.of (by
 rw[b,List.map_replicate];have:∀n:Nat,(List.replicate n [V.str (den Tn cn t)]).flatten=List.replicate n (V.str (den Tn cn t)):=λn=>by
  induction n with
  |zero=>rfl
  |succ n ih=>rw[bCJ,bDR,ih,bCJ];rfl
 rw[this]),aK7 (λy m=>by rw[List.eq_of_mem_replicate m];exact aBd k.1.nt k.1.nc t) (by rw[bEN];exact q),k.2 _ (d.trans (g.trans f))⟩⟩⟩⟩
def mF (Tn cn:Str):VA X [] (tXs Tn cn []):=aVp jJ fun σ H Q k=>k.2 _ (Same.refl _)
def cZ (f:VE X e (tX Tn cn t))(d:VA X es (tXs Tn cn ts))(g:eU e=true:=by rfl):VA X (e::es) (tXs Tn cn (t::ts)):=aVp (aG f d g) fun σ H Q k=>⟨k.1,λh b=>⟨k.1,λc a=>k.2 _ (b.trans a)⟩⟩
abbrev bIt:List Str:=["","where","and","keep","named","join","(",")","on","group","with","count","sum","least"]
abbrev bIr:List Str:=["most","first","by","up","down","table","=","<","!","==","0","-7","61","007"]
abbrev odds:List Str:=bIt++bIr++(["=<","<>","'ab'","'Ab'","abcdefghi"]:List Str)
def aVr:Sp:=λvs H Q _=>vs=[]/\∀p H',H p=none->Same H H'->H' p=some (.lst (odds.map V.str))->Q (.ref p) H'
def zU (T:!Txt):!Ok 1 "_law_odd_words" [] aVr:=by
 refine Ok.ofV T.aCo pW (by trivial) (λf x A c s H B Q E F h=>?_)
 obtain⟨rfl,q⟩:=h;have v:=pW.nd;refine⟨_,(aA (aQ 0 (bC (aG aF (aG aF (aG aF (aG aF (aG aF (aG aF (aG aF (aG aF (aG aF (aG aF (aG aF (aG aF (aG aF (va1 aF)))))))))))))))) (aA (aQ 0 (aO dI (vv 0) (bC (aG aF (aG aF (aG aF (aG aF (aG aF (aG aF (aG aF (aG aF (aG aF (aG aF (aG aF (aG aF (aG aF (va1 aF))))))))))))))))) (aB (aK (aO dI (vv 0) (bC (aG aF (aG aF (aG aF (aG aF (va1 aF))))))))))),?_⟩;refine⟨(by decide),λj D _ d g=>?_⟩;refine⟨_,rfl,(by decide),λi C _ b k=>?_⟩;refine⟨j,i,_,_,rfl,rfl,b _ _ g,k,(by decide),λl z I e n=>?_⟩;refine⟨_,rfl,(by decide),λu G _ a o=>?_⟩;exact⟨l,u,_,_,rfl,rfl,a _ _ n,o,(by decide),λp y m r t=>q p y ((d.trans (b.trans (e.trans a))).free m) (d.trans (b.trans (e.trans (a.trans r)))) t⟩
def aHt:Sp:=λvs H Q _=>∃Tn cn,vs=[.str Tn,.str cn]/\Nm Tn/\Nm cn/\∀p H',H p=none->Same H H'->H' p=some (.lst (bxs.map λt=>V.str (den Tn cn t)))->Q (.ref p) H'
def aFp (T:!Txt):!Ok 1 "_law_behind" bQF aHt:=by
 refine Ok.ofV T.aG1 vA (by trivial) (λf a1 A l s H vs Q E hr h=>?_)
 obtain⟨Tn,cn,rfl,S,N,q⟩:=h;have a2:=vA.nd;refine⟨_,(aA (aQ 2 (bC (cZ cT (cZ cT (cZ (bA cT (jO (vv 1))) (cZ (bA (bA cT (jO (vv 1))) cT) (cZ (bA (bA cT (jO (vv 1))) cT) (cZ (bA (bA cT (jO (vv 1))) cT) (cZ (jO (vv 1)) (cZ cT (mF Tn cn))))))))))) (aA (aQ 2 (aO dI (vv 2) (bC (cZ (bA cT (jO (vv 1))) (cZ cT (cZ cT (cZ (bA (bA cT (jO (vv 1))) cT) (cZ (bA (bA (bA (bA (bA cT (aMt (vv 0))) cT) (jO (vv 1))) cT) (jO (vv 1))) (mF Tn cn))))))))) (aA (aQ 2 (aO dI (vv 2) (bC (cZ (bA (bA (bA cT (aMt (vv 0))) cT) (jO (vv 1))) (cZ (bA (bA cT (aMt (vv 0))) cT) (cZ (bA (bA (bA cT (jO (vv 1))) cT) (jO (vv 1))) (cZ cT (mF Tn cn)))))))) (aA (dD (iB PySem.F.plainAttrs_list PySem.F.slot_list_append PySem.F.type_list_append eF (vv 2) (va1 (cT (Tn:=Tn) (cn:=cn))))) (aA (aQ 2 (aO dI (vv 2) (bC (cZ (bA (bA (bA (bA (bA cT (aMt (vv 0))) cT) (jO (vv 1))) cT) (jO (vv 1))) (cZ (bA (bA (bA cT (jO (vv 1))) cT) (jO (vv 1))) (cZ cT (mF Tn cn))))))) (aA (aQ 2 (aO dI (vv 2) (bC (cZ (bA (bA (bA cT (jO (vv 1))) cT) (jO (vv 1))) (cZ (bA (bA (bA cT (jO (vv 1))) cT) (jO (vv 1))) (cZ cT (cZ cT (mF Tn cn)))))))) (aA (aQ 2 (aO dI (vv 2) (bC (cZ cT (cZ cT (cZ (bA cT (jO (vv 1))) (cZ cT (cZ (bA (bA cT (jO (vv 1))) cT) (mF Tn cn))))))))) (aA (aQ 2 (aO dI (vv 2) (bC (cZ (bA (bA cT (jO (vv 1))) cT) (cZ (bA (bA cT (jO (vv 1))) cT) (cZ (bA cT (aR9 (iB PySem.F.plainAttrs_str PySem.F.slot_str_join PySem.F.type_str_join pZ aF (va1 (aO aN3 (bC (va1 (bA (jO (vv 1)) cT))) aD))))) (mF Tn cn))))))) (aA (aQ 2 (aO dI (vv 2) (bC (cZ (bA cT (aFz (bA cT (jO (vv 1))))) (cZ (bA cT (aFz (bA cT (jO (vv 1))))) (cZ (bA cT (aFz (bA cT (jO (vv 1))))) (mF Tn cn))))))) (aA (dD (iB PySem.F.plainAttrs_list PySem.F.slot_list_append PySem.F.type_list_append eF (vv 2) (va1 (bA (Tn:=Tn) (cn:=cn) (bA (bA cT (aMt (vv 0))) cT) (aR9 (iB PySem.F.plainAttrs_str PySem.F.slot_str_join PySem.F.type_str_join pZ aF (va1 (aO aN3 (bC (va1 (bA (bA (jO (vv 1)) cT) (jO (vv 1))))) aD)))))))) (aB (aK (aO dI (vv 2) (bC (cZ (bA cT (aFz (bA cT (jO (vv 1))))) (cZ (bA cT (aFz (bA (bA cT (jO (vv 1))) cT))) (mF Tn cn))))))))))))))))),?_⟩;have k:∀{v:V},C2 Tn cn [some (.str Tn),some (.str cn),some v]:=λ{v}=>⟨rfl,rfl,S,N⟩;have sz:∀{m n:Nat},m<=100->n<=100->m+n<=sizeLine:=λ{m n} a b=>by have hs:sizeLine=2 ^ 24:=rfl;lia
 refine⟨⟨rfl,rfl,S,N⟩,λH0 s0=>⟨sz8,λp0 H1 f1 s1 g1=>?_⟩⟩;have I:=s0.trans s1;refine⟨_,rfl,k,λH2 C=>⟨sz5,λp2 H3 f3 B g3=>⟨p0,p2,_,_,rfl,rfl,B _ _ (C _ _ g1),g3,(by show 8+5<=sizeLine;decide),λp4 H4 f4 s4 g4=>?_⟩⟩⟩;have b4:=I.trans (C.trans (B.trans s4));have h4:=(I.trans (C.trans B)).free f4;refine⟨_,rfl,k,λH5 r=>⟨sz4,λp5 H6 f6 G g6=>⟨p4,p5,_,_,rfl,rfl,G _ _ (r _ _ g4),g6,(by show 13+4<=sizeLine;decide),λt H7 f7 s7 g7=>?_⟩⟩⟩;have b7:=b4.trans (r.trans (G.trans s7));have h7:=(b4.trans (r.trans G)).free f7;refine⟨_,rfl,.inl ⟨rfl,_,SqL.of g7⟩,k,λp e=>⟨t,_,_,rfl,rfl,e _ _ g7,(by show 17<sizeLine;decide),?_⟩⟩;have b8:∀{o},Same H (L2.upd p t o):=λ{o}=>rQ h7 (b7.trans e);refine⟨_,rfl,k,λH9 d=>⟨sz3,λg HA fA c i=>⟨t,g,_,_,rfl,rfl,c _ _ (d _ _ aJ),i,(by show 18+3<=sizeLine;decide),λj R J x D=>?_⟩⟩⟩;have bB:=b8.trans (d.trans (c.trans x));refine⟨_,rfl,k,λHC X=>⟨sz4,λpD HD fD U gD=>⟨j,pD,_,_,rfl,rfl,U _ _ (X _ _ D),gD,(by show 21+4<=sizeLine;decide),λpE HE fE sE gE=>?_⟩⟩⟩;have bE:=bB.trans (X.trans (U.trans sE));refine⟨_,rfl,k,λHF sF=>⟨sz5,λpG HG fG L gG=>⟨pE,pG,_,_,rfl,rfl,L _ _ (sF _ _ gE),gG,(by show 25+5<=sizeLine;decide),λpI HI fI sI gI=>?_⟩⟩⟩;have bI:=bE.trans (sF.trans (L.trans sI));refine⟨_,rfl,k,λHJ Z=>⟨sz3,λpK HK fK M gK=>⟨pI,pK,_,_,rfl,rfl,M _ _ (Z _ _ gI),gK,(by show 30+3<=sizeLine;decide),λpL HL fL sL gL=>?_⟩⟩⟩;have O:=bI.trans (Z.trans (M.trans sL));refine⟨_,rfl,k,λHM u=>⟨sz3,λpN HN fN y gN=>⟨pL,pN,_,_,rfl,rfl,y _ _ (u _ _ gL),gN,(by show 33+3<=sizeLine;decide),λz a0 fO sO Y=>?_⟩⟩⟩;have hO:=(O.trans (u.trans y)).free fO;have bO:=O.trans (u.trans (y.trans sO));refine⟨_,rfl,.inl ⟨rfl,_,SqL.of Y⟩,k,λp e=>⟨z,_,_,rfl,rfl,e _ _ Y,(by show 36<sizeLine;decide),?_⟩⟩;have W:∀{o},Same H (L2.upd p z o):=λ{o}=>rQ hO (bO.trans e);refine⟨_,rfl,k,λH9 d=>⟨sz2,λg HA fA c i=>⟨z,g,_,_,rfl,rfl,c _ _ (d _ _ aJ),i,(by show 37+2<=sizeLine;decide),λj R J x D=>?_⟩⟩⟩;exact q j R ((W.trans (d.trans c)).free J) (W.trans (d.trans (c.trans x))) D
def aOe:Sp:=λvs H Q _=>∃Tn cn,vs=[.str Tn,.str cn]/\Nm Tn/\Nm cn/\∀p H',H p=none->Same H H'->H' p=some (.lst (nxs.map λt=>V.str (den Tn cn t)))->Q (.ref p) H'
def aKi (T:!Txt)(Y:!Ok 1 "_law_behind" bQF aHt):!Ok 2 "_law_none" bQF aOe:=by
 refine Ok.ofV T.aLr aA0 (by trivial) (λf a0 A o s H vs Q E hr h=>?_)
 obtain⟨a,b,rfl,d,n,q⟩:=h;have Z:=aA0.nd;refine⟨_,(aA (aQ 2 (bC (cZ cT (cZ cT (cZ cT (cZ cT (cZ cT (cZ (bA cT (aMt (vv 0))) (cZ (bA (bA cT (aMt (vv 0))) cT) (cZ (bA (aMt (vv 0)) cT) (mF a b))))))))))) (aB (aK (aO dI (vv 2) (gM (N:=["_law_words_here","_law_t"]) ck (lW (aC vG)) rfl (qF (bY Y (aG (vv 0) (va1 (vv 1))))) (λcl s' H' fp=>⟨(jW 0),jK,(aO aN (aO aN (vv 1) aF) (vv 0))⟩)))))),?_⟩;refine⟨⟨rfl,rfl,d,n⟩,λH0 s0=>⟨sz8,λW H1 f1 M I=>?_⟩⟩;have v:=s0.trans M;have lb:bxs.length<=100:=by decide
 refine⟨_,rfl,aH4 (K:=K) (λg=>g=bxs.map λt=>V.str (den a b t)) (λi _ y=>∃t,bxs[i]?=some t/\y=.str (den a b (ahead t))) (λ_ h=>h) (λ_ h=>h) [none,some (.str a)] (tV 0 (by trivial) rfl rfl (by trivial)) rfl (λR r=>⟨_,rfl,_,rfl,a,b,rfl,d,n,λD C _ c m=>r D C _ c m rfl⟩) (λg e=>by subst e;rw[j5];exact small (by lia)) (λg e i x F H' R l sm r=>?_) λg e D C k c m u X=>?_⟩
 ·subst e;rw[bAD,Option.map_eq_some_iff] at F;obtain⟨t,j,rfl⟩:=F;have G:∀t∈bxs,wt (nf t)<=1000:=by trivial
  have l1:=aBd d n t;have l2:=G t (bAQ j);have l3:=fJ d;have L:sizeLine=2 ^ 24:=rfl;refine⟨_,rfl,a," ",rfl,rfl,by show a.length+1<=_;lia,_,rfl,_,_,rfl,rfl,?_,r _ _ (Same.refl _) ⟨t,j,rfl⟩⟩;rw[aH,show Str.length " "=1 by trivial];lia
 ·subst e;rw[j5] at u;have e:k=(bxs.map ahead).map λt=>V.str (den a b t):=by
   refine bCH λi=>?_;cases B:k[i]? with
   |some z=>obtain⟨t,j,rfl⟩:=X i z B;rw[bAZ,bAD,j];rfl
   |none=>have:=List.getElem?_eq_none_iff.mp B;exact (bAV (by rw[j5,j5];lia)).symm
  refine⟨W,D,_,k,rfl,rfl,c _ _ I,m,?_,λp J S O U=>q p J ((v.trans c).free S) (v.trans (c.trans O)) ?_⟩
  ·have L:sizeLine=2 ^ 24:=rfl;show 8+k.length<=_;lia
  ·rw[U,e];rfl
def bAz (h:∀x∈l,Wrd x)(hl:l.length<=1000):Few (txt l):=by
 refine aJ6 ?_ ?_
 ·have:=tH λx m=>(h x m).2;lia
 ·cases l with
  |nil=>rw[show cs (txt [])=[] by decide];exact bAK _
  |cons a l=>have:=vQ (λe=>by cases e) λx m=>(h x m).1;lia
def cut_str (l:List Str)(a b:Option Int):∃l':List Str,uC (l.map V.str) a b=l'.map V.str/\l'.length<=l.length/\∀x∈l',x∈l:=by
 refine⟨(l.drop (HT.sIx (l.map V.str).length 0 a)).take (HT.sIx (l.map V.str).length (l.map V.str).length b - HT.sIx (l.map V.str).length 0 a),?_,?_,λx m=>?_⟩
 ·unfold uC;rw[List.map_take,List.map_drop]
 ·rw[bAU,bBD];lia
 ·exact bCV (bCU m)
def aUy {l l':List Str}{i:Int}(h0:0<=i)(e:uC (l.map V.str) none (some i)=l'.map V.str):l'.length<=i.toNat:=by have h:=congrArg List.length e;unfold uC at h;rw[show i=((i.toNat:Nat):Int) by lia] at h;simp only[HT.aAb,HT.aAh,bAU,bBD,j5] at h;lia
def aCr (z:Str)(c d:Option Int)(h:(c=none/\∃j:Int,d=some j/\0<=j/\j<=(cs z).length)\/(d=none/\∃j:Int,c=some j/\0<=j/\j<=(cs z).length)):(cs (PySem.Txt.slice z c d)).count 32<=(cs z).count 32/\(PySem.Txt.slice z c d).length<=z.length:=by
 refine⟨?_,PySem.Txt.slice_le z c d⟩;rw[aBp];rcases h with⟨rfl,j,rfl,b,a⟩|⟨rfl,j,rfl,b,a⟩
 ·rw[PySem.StrLaws.sliceText_to ⟨b,a⟩];exact ((bBV _ _).trans (bFO _ _)).count_le _
 ·rw[PySem.StrLaws.sliceText_from ⟨b,a⟩];exact ((bBV _ _).trans (bFO _ _)).count_le _
def aZh (h:Wf q):0<(txt (wq q)).length:=by
 induction q with
 |table T=>show 0<(txt [T]).length;rw[gC];exact aQx h
 |whr q ts ih=>rw[qD .whr,aH,aH];have:=ih h.1;lia
 |keep q ns ih=>rw[qD .keep,aH,aH];have:=ih h.1;lia
 |nmd q ns ih=>rw[qD .nmd,aH,aH];have:=ih h.1;lia
 |join q r ps ih _=>rw[qD .join,aH,aH];have:=ih h.1;lia
 |group q ns ss ih=>rw[qD .group,aH,aH];have:=ih h.1;lia
 |first q ks m ih=>rw[qD .first,aH,aH];have:=ih h.1;lia
abbrev six:List Str:=["","a"," ","1","'","-"]
def aZn:∀x∈six,x.length<=1:=by trivial
def aJ7 (z:Str)(k:Nat):(sY z k).length=z.length * k:=by
 induction k with
 |zero=>rfl
 |succ k ih=>show (sY z k++z).length=_;rw[aH,ih,Nat.mul_succ]
def bAi:∀x∈odds,Wrd x:=by trivial
def aD4 {p:Prop}[Decidable p]{A B:Prop}(a:p->A)(b:¬ p->B):if decide p=true then A else B:=by
 by_cases h:p
 ·rw[if_pos (v9 h)];exact a h
 ·rw[if_neg (λz=>h (of_decide_eq_true z))];exact b h
def aIw:Sp:=λvs H Q _=>∃a q,vs=[.ref a,.str (txt (wq q))]/\mQ H a/\Wf q/\My.size q<=20/\∀b H',Fx a H H'->Few b->Q (.str b) H'
def aEz (T:!Txt)(aL:!Ok 1 "_law_next" m7 jA)(af:!Ok 1 "_law_odd_words" [] aVr):!Ok 2 "_law_spoilt" bQM aIw:=by
 refine Ok.ofV T.aGt vW (by trivial) (λf ag A a7 s H vs Q E hr h=>?_)
 obtain⟨a,b,rfl,ha,X,hz,q⟩:=h;have al:=vW.nd;refine⟨_,(aA (aQ 2 (iB PySem.F.plainAttrs_str PySem.F.slot_str_split PySem.F.type_str_split aF6 (vv 1) (va1 aF))) (aA (aQ 3 (bY aL (aG (vv 0) (va1 (aU bD (by rfl) T.fX dJ (va1 (vv 2))))))) (aA (aQ 4 (cR dF (aO dI (aYm (af.mono (by decide)) hr (by rfl)) (vv 2)) (bY aL (aG (vv 0) (va1 (aO dR aD (aU bD (by rfl) T.fX dJ (va1 (vv 2))))))))) (aA (aQ 5 (bY aL (aG (vv 0) (va1 aD)))) (aA (bH (cU cV (vv 5) aD) (aB (aK (iB PySem.F.plainAttrs_str PySem.F.slot_str_join PySem.F.type_str_join pZ aF (va1 (aO dI (cL gZ (vv 2) dY (cP (vv 3))) (cL gZ (vv 2) (cP (aO dR (vv 3) aD)) dY)))))) aP) (aA (bH (cU cV (vv 5) aD) (aB (aK (iB PySem.F.plainAttrs_str PySem.F.slot_str_join PySem.F.type_str_join pZ aF (va1 (aO dI (cL gZ (vv 2) dY (cP (aO dR (vv 3) aD))) (cL gZ (vv 2) (cP (vv 3)) dY)))))) aP) (aA (bH (cU cV (vv 5) aD) (aB (aK (iB PySem.F.plainAttrs_str PySem.F.slot_str_join PySem.F.type_str_join pZ aF (va1 (aO dI (aO dI (cL gZ (vv 2) dY (cP (vv 3))) (bC (va1 (vv 4)))) (cL gZ (vv 2) (cP (aO dR (vv 3) aD)) dY)))))) aP) (aA (bH (cU cV (vv 5) aD) (aB (aK (iB PySem.F.plainAttrs_str PySem.F.slot_str_join PySem.F.type_str_join pZ aF (va1 (aO dI (aO dI (cL gZ (vv 2) dY (cP (vv 3))) (bC (va1 (vv 4)))) (cL gZ (vv 2) (cP (vv 3)) dY)))))) aP) (aA (aQ 6 (bY aL (aG (vv 0) (va1 (aU lB (by rfl) T.fX dJ (va1 (vv 1))))))) (aB (aK (aO aN (aO aN (cL mK (vv 1) dY (cP (vv 6))) (aO aD7 (cR dF (bC (aG aF (aG aF (aG aF (aG aF (aG aF (va1 aF))))))) (bY aL (aG (vv 0) (va1 aD)))) (aO aBt (vv 5) aD))) (cL mK (vv 1) (cP (aO dR (vv 6) aD)) dY))))))))))))),?_⟩;have hl:=aI9 X;have hl:(wq b).length<=500:=by lia
 have ae:=aF3 X;have ae:(txt (wq b)).length<=31000:=by lia
 have hW:=aGb X;have hp:=List.length_pos_iff.mpr (aC3 b);have hs:sizeLine=2 ^ 24:=rfl;refine⟨_,rfl,rfl,_,_,rfl,rfl,(by trivial),by lia,λL H1 fL s1 g1=>?_⟩;rw[rY X] at g1;have nL:=ha.ne fL;have f1:=Fx.of ha s1;have M:∀{H2:Hp},Fx a H1 H2->H2 L=some (.lst ((wq b).map V.str)):=λf=>f.same L _ nL g1;refine⟨_,rfl,_,rfl,L,_,rfl,.inl (SqL.of g1),a,_,rfl,f1.st,by rw[j5];lia,λk H2 f2 at0 at1=>?_⟩;have ak:=f1.trans f2;refine⟨rfl,λpO H3 fO s3 g3=>⟨_,rfl,pO,L,_,_,rfl,rfl,g3,M (f2.sm s3),(by rw[j5,j5];show 33+_<=_;lia),λpC H4 fC s4 g4=>?_⟩⟩;have W:Fx a H1 H4:=(f2.sm s3).sm s4;refine⟨_,rfl,_,rfl,L,_,rfl,.inl (SqL.of (M W)),_,_,rfl,rfl,a,_,rfl,W.st,by rw[j5];lia,λc2 H5 f5 ad a9=>?_⟩;rw[j5] at a9 at1;have nC:pC≠a:=(f2.sm s3).st.ne fC;have g5:=f5.same pC _ nC g4;rw[<-bAH] at g5;have J:c2.toNat<(odds++wq b).length:=by rw[j6];show _<33+_;lia
 have ho:Wrd ((odds++wq b)[c2.toNat]):=by
  rcases List.mem_append.mp (bCG J) with m|m
  ·exact bAi _ m
  ·exact hW _ m
 generalize aa:(odds++wq b)[c2.toNat]=od at ho;refine⟨pC,_,c2,.str od,rfl,rfl,SqL.of g5,?_,?_⟩
 ·have e:=fQ (j:=c2.toNat) (v:=V.str od) (xs:=(odds++wq b).map V.str) (by rw[bAD,d7 J,aa];rfl);rw[bEC ad] at e;exact e
 have a4:=W.trans f5;refine⟨_,rfl,a,_,rfl,a4.st,by decide,λo H6 f6 w0 w1=>?_⟩;have N:=a4.trans f6;have C:=f1.trans N;have jn:∀{H':Hp} {p:Addr} {l:List Str},Fx a H H'->H' p=some (.lst (l.map V.str))->(∀x∈l,Wrd x)->l.length<=1000->rJoin K (.str " ") [.ref p] H' Q:=λ{H' p l} f g h n=>⟨" ",p,l,rfl,rfl,SqL.of g,aK7 (B:=61) (λy m=>(h y m).2) (by rw[show Str.length " "=1 by trivial];lia),q _ _ f (bAz h n)⟩;have I:=M N;obtain⟨l1,G,n1,m1⟩:=cut_str (wq b) none (some k);obtain⟨l2,e2,n2,m2⟩:=cut_str (wq b) (some (k+1)) none;obtain⟨l3,e3,n3,m3⟩:=cut_str (wq b) none (some (k+1));obtain⟨l4,e4,n4,m4⟩:=cut_str (wq b) (some k) none;have k1:=aUy at0 G;have a1:∀{l l':List Str},(∀x∈l,x∈wq b)->(∀x∈l',Wrd x)->∀x∈l++l',Wrd x:=λh h' x m=>(List.mem_append.mp m).elim (λm=>hW x (h x m)) λm=>h' x m;refine⟨_,rfl,rfl,_,rfl,aD4 (λ_=>?_) λac=>?_⟩
 ·refine⟨rfl,_,rfl,_,rfl,k,rfl,L,_,rfl,SqL.of I,λp H7 f7 z U=>⟨_,rfl,_,rfl,_,_,rfl,rfl,_,rfl,L,_,rfl,SqL.of (z _ _ I),λR H8 f8 u D=>⟨p,R,_,_,rfl,rfl,u _ _ U,D,?_,λp3 H9 Y O r=>?_⟩⟩⟩
  ·rw[G,e2,j5,j5];lia
  ·rw[G,e2,<-bAH] at r;exact jn (((C.sm z).sm u).sm O) r (a1 m1 λx m=>hW x (m2 x m)) (by rw[j6];lia)
 refine⟨_,rfl,rfl,_,rfl,aD4 (λ_=>?_) λab=>?_⟩
 ·refine⟨rfl,_,rfl,_,rfl,_,_,rfl,rfl,_,rfl,L,_,rfl,SqL.of I,λp H7 f7 z U=>⟨_,rfl,_,rfl,_,rfl,L,_,rfl,SqL.of (z _ _ I),λR H8 f8 u D=>⟨p,R,_,_,rfl,rfl,u _ _ U,D,?_,λp3 H9 Y O r=>?_⟩⟩⟩
  ·rw[e3,e4,j5,j5];lia
  ·rw[e3,e4,<-bAH] at r;exact jn (((C.sm z).sm u).sm O) r (a1 m3 λx m=>hW x (m4 x m)) (by rw[j6];lia)
 have Z:∀{l l':List Str},(∀x∈l',x∈wq b)->∀x∈od::l',Wrd x:=λh x m=>(List.mem_cons.mp m).elim (λe=>e ▸ ho) λm=>hW x (h x m);refine⟨_,rfl,rfl,_,rfl,aD4 (λ_=>?_) λa8=>?_⟩
 ·refine⟨rfl,_,rfl,_,rfl,k,rfl,L,_,rfl,SqL.of I,λp H7 f7 z U=>⟨_,rfl,sz1,λpo Ho fo S go=>⟨p,po,_,_,rfl,rfl,S _ _ U,go,?_,λpq Hq fq sq gq=>⟨_,rfl,_,rfl,_,_,rfl,rfl,_,rfl,L,_,rfl,SqL.of (sq _ _ (S _ _ (z _ _ I))),λR H8 f8 u D=>⟨pq,R,_,_,rfl,rfl,u _ _ gq,D,?_,λp3 H9 Y O r=>?_⟩⟩⟩⟩⟩
  ·rw[G,j5];show _+1<=_;lia
  ·rw[G,e2,j6,j5,j5];show _+1+_<=_;lia
  ·rw[G,e2,show ([V.str od]:List V)=[od].map V.str from rfl,<-bAH,<-bAH,bAB] at r;exact jn (((((C.sm z).sm S).sm sq).sm u).sm O) r (a1 m1 (Z (l:=[]) m2)) (by rw[j6];show _+(l2.length+1)<=_;lia)
 refine⟨_,rfl,rfl,_,rfl,aD4 (λ_=>?_) λa6=>?_⟩
 ·refine⟨rfl,_,rfl,_,rfl,k,rfl,L,_,rfl,SqL.of I,λp H7 f7 z U=>⟨_,rfl,sz1,λpo Ho fo S go=>⟨p,po,_,_,rfl,rfl,S _ _ U,go,?_,λpq Hq fq sq gq=>⟨_,rfl,_,rfl,_,rfl,L,_,rfl,SqL.of (sq _ _ (S _ _ (z _ _ I))),λR H8 f8 u D=>⟨pq,R,_,_,rfl,rfl,u _ _ gq,D,?_,λp3 H9 Y O r=>?_⟩⟩⟩⟩⟩
  ·rw[G,j5];show _+1<=_;lia
  ·rw[G,e4,j6,j5,j5];show _+1+_<=_;lia
  ·rw[G,e4,show ([V.str od]:List V)=[od].map V.str from rfl,<-bAH,<-bAH,bAB] at r;exact jn (((((C.sm z).sm S).sm sq).sm u).sm O) r (a1 m1 (Z (l:=[]) m4)) (by rw[j6];show _+(l4.length+1)<=_;lia)
 have w4:o=4\/o=5:=by have n:∀i:Int,¬ V.int o=V.int i->o≠i:=λi h e=>h (by rw[e]);have:=n 0 ac;have:=n 1 ab;have:=n 2 a8;have:=n 3 a6;lia
 have ai:(cs (txt (wq b))).count 32<=499:=by have:=split_len (txt (wq b));rw[rY X] at this;lia
 refine⟨_,rfl,_,rfl,_,rfl,by lia,a,_,rfl,N.st,by have:=aZh X;lia,λd H7 f7 p0 p1=>?_⟩;have a0:=C.trans f7;have cl:(cs (txt (wq b))).length=(txt (wq b)).length:=rfl;have c1:=aCr (txt (wq b)) none (some d) (.inl ⟨rfl,d,rfl,p0,by lia⟩);have ah:=aCr (txt (wq b)) (some (d+1)) none (.inr ⟨rfl,d+1,rfl,by lia,by lia⟩);refine⟨_,rfl,_,rfl,d,rfl,_,rfl,by lia,sz6,λp H8 f8 u D=>?_⟩;have a5:=a0.sm u;have n8:p≠a:=a0.st.ne f8;refine⟨_,rfl,a,_,rfl,a5.st,by decide,λc H9 Y c0 aj=>?_⟩;have r:=Y.same p _ n8 D;have a2:c.toNat<six.length:=by show _<6;lia
 have hx:=aZn _ (bCG a2);generalize a3:six[c.toNat]=x at hx;refine⟨p,six.map V.str,c,.str x,rfl,rfl,SqL.of r,?_,?_⟩
 ·have e:=fQ (j:=c.toNat) (v:=V.str x) (xs:=six.map V.str) (by rw[bAD,d7 a2,a3];rfl);rw[bEC c0] at e;exact e
 have hm:x.length * (o - 4).toNat<=1:=by
  rcases w4 with e|e <;> rw[e]
  ·show x.length * 0<=1;lia
  ·show x.length * 1<=1;lia
 refine⟨_,rfl,_,_,rfl,rfl,x,(o - 4).toNat,rfl,congrArg V.int (bEC (by lia)).symm,by lia,by lia,λt et=>?_⟩;have lt:t.length<=1:=by rw[et,aJ7];exact hm
 have ct:(cs t).count 32<=1:=bAF List.count_le_length lt;refine⟨_,_,rfl,rfl,by lia,_,rfl,_,rfl,_,_,rfl,rfl,_,rfl,_,rfl,by lia,_,_,rfl,rfl,by rw[aH];lia,q _ _ (a5.trans Y) (aJ6 ?_ ?_)⟩
 ·rw[aH,aH];lia
 ·rw[jZ,jZ,bBL,bBL];lia
theorem jF:∀n m {x y:V},n<=m->DEq K H n x y->DEq K H m x y
 |0,0,x,y,_,h=>h
 |0,m+1,x,y,_,h=>.inl h
 |n+1,0,x,y,l,_=>by lia
 |n+1,m+1,x,y,l,h=>by
  rcases h with h|⟨a,b,g,i,f,c,d,e,h⟩
  ·exact .inl h
  refine .inr ⟨a,b,g,i,f,c,d,e,?_⟩;clear d e f c
  induction h with
  |nil=>exact .nil
  |cons r _ ih=>exact .cons (jF n m (by lia) r) ih
def uB {α:Type}{H:Hp}{n:Nat}{R:V->α->Prop}{v u:V}{ts:List α}(k:∀a b t,R a t->R b t->DEq K H n a b)(h:aCl K H R v ts)(h':aCl K H R u ts):DEq K H (n+1) v u:=by
 obtain⟨a,g,rfl,c,i⟩:=h;obtain⟨b,d,rfl,e,f⟩:=h';refine .inr ⟨a,b,g,d,rfl,rfl,c,e,?_⟩;clear c e
 induction i generalizing d with
 |nil=>cases f;exact .nil
 |cons r _ ih=>
  cases f with
  |cons r2 t2=>exact .cons (k _ _ _ r r2) (ih _ t2)
def cJ (h:kO v=true):DEq K H n v v:=by
 cases n with
 |zero=>exact⟨h,rfl⟩
 |succ n=>exact .inl ⟨h,rfl⟩
def aYg (h:Vl v):kO v=true:=by rcases h with⟨i,rfl,_⟩|⟨x,rfl,_⟩ <;> rfl
def bH7 (h:IsO K H v o)(h':IsO K H u o):DEq K H 1 v u:=by
 cases o with
 |val x=>obtain⟨a,rfl,c,g,f⟩:=h;obtain⟨b,rfl,e,_⟩:=h';exact .inr ⟨a,b,_,_,rfl,rfl,c,e,.cons (cJ rfl) (.cons (cJ (aYg f)) .nil)⟩
 |col d=>obtain⟨a,rfl,c,_⟩:=h;obtain⟨b,rfl,e,_⟩:=h';exact .inr ⟨a,b,_,_,rfl,rfl,c,e,.cons (cJ rfl) (.cons (cJ rfl) .nil)⟩
def bGw (h:IsT K H v t)(h':IsT K H u t):DEq K H 2 v u:=by obtain⟨a,w,rfl,d,_,_,e⟩:=h;obtain⟨b,g,rfl,f,_,_,c⟩:=h';exact .inr ⟨a,b,_,_,rfl,rfl,d,f,.cons (cJ rfl) (.cons (cJ rfl) (.cons (bH7 e c) .nil))⟩
def bC8 (h:rB K H v t)(h':rB K H u t):DEq K H 2 v u:=by obtain⟨a,rfl,d,_⟩:=h;obtain⟨b,rfl,c,_⟩:=h';exact .inr ⟨a,b,_,_,rfl,rfl,d,c,.cons (cJ rfl) (.cons (cJ rfl) .nil)⟩
def bF3 (h:qZ K H v t)(h':qZ K H u t):DEq K H 2 v u:=by obtain⟨a,rfl,d,_⟩:=h;obtain⟨b,rfl,c,_⟩:=h';exact .inr ⟨a,b,_,_,rfl,rfl,d,c,.cons (cJ rfl) (.cons (cJ rfl) .nil)⟩
def bEw (h:nU K H v t)(h':nU K H u t):DEq K H 2 v u:=by
 obtain⟨a,rfl,_,h⟩:=h;obtain⟨b,rfl,_,h'⟩:=h';rcases h with⟨x,y,z⟩|⟨c,x,y,z,g⟩
 ·rcases h' with⟨d,f,e⟩|⟨c',d,f,e,g'⟩
  ·exact .inr ⟨a,b,_,_,rfl,rfl,z,e,.cons (cJ rfl) (.cons (cJ rfl) (.cons (cJ rfl) .nil))⟩
  ·rw[y] at d;cases d
 ·rcases h' with⟨d,f,e⟩|⟨c',d,f,e,g'⟩
  ·rw[f] at x;cases x
  ·rw[x] at d;cases d;exact .inr ⟨a,b,_,_,rfl,rfl,g,g',.cons (cJ rfl) (.cons (cJ rfl) (.cons (cJ rfl) .nil))⟩
def aWg (h:qU K H v t)(h':qU K H u t):DEq K H 2 v u:=by obtain⟨rfl,_⟩:=h;obtain⟨rfl,_⟩:=h';exact cJ rfl
def aH9 {H:Hp}{v:V}{q:Qn}(h:IsQ K H v q):∀{u:V},IsQ K H u q->∃a b xs ys,v=.ref a/\u=.ref b/\SqT K H a xs/\SqT K H b ys/\Al2 (DEq K H (size q+3)) xs ys:=by
 have go:∀{v u:V} {q:Qn},(∃a b xs ys,v=.ref a/\u=.ref b/\SqT K H a xs/\SqT K H b ys/\Al2 (DEq K H (size q+3)) xs ys)->DEq K H (size q+4) v u:=λ⟨a,b,xs,ys,j,f,g,i,h⟩=>.inr ⟨a,b,xs,ys,j,f,g,i,h⟩
 induction h with
 |table a _=>
  intro u e;cases e with
  |table a' _=>exact⟨_,_,_,_,rfl,rfl,a,a',.cons (cJ rfl) (.cons (cJ rfl) .nil)⟩
 |whr a _ c ih=>
  intro u e;cases e with
  |whr a' b' c'=>have:=c.2.1;exact⟨_,_,_,_,rfl,rfl,a,a',.cons (cJ rfl) (.cons (jF (size _+4) _ (by simp only[size];lia) (go (ih b'))) (.cons (jF 3 _ (by lia) (uB (n:=2) (R:=IsT K H) (λ_ _ _=>bGw) c.1 c'.1)) .nil))⟩
 |keep a _ c ih=>
  intro u e;cases e with
  |keep a' b' c'=>exact⟨_,_,_,_,rfl,rfl,a,a',.cons (cJ rfl) (.cons (jF (size _+4) _ (by simp only[size];lia) (go (ih b'))) (.cons (jF 3 _ (by lia) (uB (n:=2) (R:=qU K H) (λ_ _ _=>aWg) c.1 c'.1)) .nil))⟩
 |nmd a _ c ih=>
  intro u e;cases e with
  |nmd a' b' c'=>exact⟨_,_,_,_,rfl,rfl,a,a',.cons (cJ rfl) (.cons (jF (size _+4) _ (by simp only[size];lia) (go (ih b'))) (.cons (jF 3 _ (by lia) (uB (n:=2) (R:=qU K H) (λ_ _ _=>aWg) c.1 c'.1)) .nil))⟩
 |join a _ _ c ih1 ih2=>
  intro u e;cases e with
  |join a' b' d' c'=>exact⟨_,_,_,_,rfl,rfl,a,a',.cons (cJ rfl) (.cons (jF (size _+4) _ (by simp only[size];lia) (go (ih1 b'))) (.cons (jF (size _+4) _ (by simp only[size];lia) (go (ih2 d'))) (.cons (jF 3 _ (by lia) (uB (n:=2) (R:=rB K H) (λ_ _ _=>bC8) c.1 c'.1)) .nil)))⟩
 |group a _ c d ih=>
  intro u e;cases e with
  |group a' b' c' d'=>exact⟨_,_,_,_,rfl,rfl,a,a',.cons (cJ rfl) (.cons (jF (size _+4) _ (by simp only[size];lia) (go (ih b'))) (.cons (jF 3 _ (by lia) (uB (n:=2) (R:=qU K H) (λ_ _ _=>aWg) c.1 c'.1)) (.cons (jF 3 _ (by lia) (uB (n:=2) (R:=nU K H) (λ_ _ _=>bEw) d.1 d'.1)) .nil)))⟩
 |first a _ c d ih=>
  intro u e;cases e with
  |first a' b' c' d'=>exact⟨_,_,_,_,rfl,rfl,a,a',.cons (cJ rfl) (.cons (jF (size _+4) _ (by simp only[size];lia) (go (ih b'))) (.cons (jF 3 _ (by lia) (uB (n:=2) (R:=qZ K H) (λ_ _ _=>bF3) c.1 c'.1)) (.cons (cJ rfl) .nil)))⟩
def aSu (h:IsQ K H v q)(h':IsQ K H u q)(hz:size q<=20):DEq K H 40 v u:=by obtain⟨a,b,e,i,g,c,d,f,h⟩:=aH9 h h';exact jF (size q+4) 40 (by lia) (.inr ⟨a,b,e,i,g,c,d,f,h⟩)
theorem bHf:∀m,bnd m<=13
 |0=>by decide
 |1=>by decide
 |_+2=>v7 _
def bFn {f:Addr}{fd:FuncData}(F:Fun K "law" "law" aVj f fd)(T:!Txt)(bq:!Ok 1 "_law_seed" bQK (aQ7 K))(aL:!Ok 1 "_law_next" m7 jA)
  (br:!Ok 2 "_law_names" m7 aVh) (b4:!Ok 2 "_law_head" bQI (aM7 K))
  (jP:!Ok 9 "_law_question" z8 (bCc K 3)) (lE:!Ok 23 "_law_shown" bQP (aX5 K 20)) (bt:!Ok 2 "_law_spoilt" bQM aIw) (vZ:!Ok 73 "_law_read" ["_law_text"] (aNx K)) (c2:!Ok 2 "_law_none" bQF aOe) :
  !iM CX0 74 f fd bQK (aJr K):=by
 refine Fun.okV F aYr (λvs H Q E h=>?_) (λbs A b6 s H vs Q E hr h=>?_)
 ·obtain⟨a,g,rfl,_⟩:=h;rfl
 obtain⟨sc,sn,rfl,hS,bd,q⟩:=h;have hu:=aOd hr;have hU:=hr.units;have c4:=aYr.nd;refine⟨_,(aA (aQ 1 (bC (va1 (bY bq (va1 (vv 0)))))) (aA (aQ 2 (bY br (aG (vv 1) (va1 aD)))) (aA (aQ 3 (bAc (aM8 (cR dF (vv 2) aD) (bY b4 (aG (vv 1) (va1 (vv 2)))) (aM8 (cR dF (vv 2) aD) (bY b4 (aG (vv 1) (va1 (vv 2)))) aZo)) rfl rfl (λz=>by cases z) (by decide))) (aA (jY PassesOwn.never rfl (gV (by rfl) T.lG (va1 aD)) (dZ 4) (aA (aQ 5 (cR cM (bY jP (aG (vv 1) (aG (vv 3) (aG (vv 2) (va1 (bY aL (aG (vv 1) (va1 aD)))))))) aD)) (aA (aQ 6 (bY lE (va1 (vv 5)))) (aA (aQ 7 (bY bt (aG (vv 1) (va1 (vv 6))))) (aA (vJ (bY vZ (va1 (vv 7))) (lV rfl (aY (dZ 8) (aY (dZ 9) eN)))) (aA (bH (cU (aV0 (bFP hu)) (vv 8) (bC jJ)) (aB (bH (VW.pt (uQ (fY (dB (aU lU (by rfl) T.bZ bR (aG (vv 9) (va1 (gR (v:=.ty "tuple") (by rfl) T.cW cG rfl)))))) (pA (cU oX (bY lE (va1 (vv 9))) (vv 7))))) (aB (aK iT)) aP)) (aB (bH (cU (bEn (bFP hu)) (vv 8) (bC (aG iT (aG iT (aG iT (va1 dO)))))) (aB (aK iT)) aP))) (aB (bH (cU (aRu hU) (bY vZ (va1 (vv 6))) (aW (aG (bC jJ) (va1 (vv 5))))) (aB (aK iT)) aP)))))))) (aA (aQ 10 (aO aN (aO aN (aO aD7 (aO aN (cR dF (vv 2) aD) aF) aD) (cR dF (vv 2) aD)) (aO aD7 (aO aN (aO aN (aO aN aF (cR dF (vv 2) aD)) aF) (cR dF (vv 2) aD)) aD))) (aA (jY PassesOwn.never rfl (qF (aO dI (bY c2 (aG (cR dF (vv 2) aD) (va1 (cR dF (vv 2) aD)))) (bC (aG dO (aG aD (aG (bC (va1 (cR dF (vv 2) aD))) (aG (aW (aG aF (va1 (cR dF (vv 2) aD)))) (aG (vv 10) (va1 (cL mK (vv 10) dY (cP aD))))))))))) (dZ 11) (aB (bH (cU (aRu hU) (bY vZ (va1 (vv 11))) (aW (aG (bC (aG iT (aG iT (aG iT (va1 dO))))) (va1 dO)))) (aB (aK iT)) aP))) (aB (aK iT)))))))),?_⟩;refine⟨_,rfl,sc,sn,rfl,hS,bd,λc H1 s1 c0 c1=>⟨sz1,λa H2 fa s2 g2=>?_⟩⟩;have aw:mQ H2 a:=⟨c,g2,c0,c1⟩;refine⟨_,rfl,a,rfl,aw,λN H3 g f3 fN g3 hn=>?_⟩;have B:N≠a:=aw.ne fN;have a3:=f3.st;have bv:=hn.1;have U:(0:Nat)<g.length:=by lia
 have i1:(1:Nat)<g.length:=by lia
 have i3:(3:Nat)<g.length:=by lia
 have k:∀{i:Nat} (h:i<g.length),atI (g.map V.str) (i:Int)=some (.str g[i]):=λ{i} h=>fQ (by rw[bAD,d7 h];rfl);have nm:∀{i:Nat} (h:i<g.length),Nm g[i]:=λh=>hn.2.1 _ (bCG h);refine λd ah=>?_;have a2:d≠a:=a3.ne ah;have W:Fx a H3 (L2.upd H3 d (.dK [])):=(Fx.refl a3).upd ah a2;have aq:L2.upd H3 d (.dK []) d=some (.dK []):=aJ;have Y:L2.upd H3 d (.dK []) N=some (.lst (g.map V.str)):=W.same _ _ B g3;generalize L2.upd H3 d (.dK [])=H4 at W aq Y;refine⟨_,rfl,N,_,0,_,rfl,rfl,SqL.of Y,k U,_,rfl,_,rfl,a,N,g,rfl,W.st,Y,B,hn,λR H5 as f5 ax bk _=>?_⟩;have av:=f5.same _ _ B Y;refine⟨_,rfl,N,_,1,_,rfl,rfl,SqL.of av,k i1,_,rfl,_,rfl,a,N,g,rfl,f5.st,av,B,hn,λX H6 ar f6 ba ay _=>?_⟩;have ap:=f6.same _ _ a2 (f5.same _ _ a2 aq);refine⟨ap,[((Sum.inr g[0]:Key),R),((Sum.inr g[1]:Key),X)],rfl,(by show 2<=15;decide),?_⟩;have a6:g[0]≠g[1]:=λe=>by have:=aQn hn.2.2 (d7 U) (show g[1]?=some g[0] by rw[d7 i1,e]);lia
 have em:mZ [] [((Sum.inr g[0]:Key),R),((Sum.inr g[1]:Key),X)]=[((Sum.inr g[0]:Key),R),((Sum.inr g[1]:Key),X)]:=by
  show putK [((Sum.inr g[0]:Key),R)] (Sum.inr g[1]) X=_;refine aMf X ?_;cases e:tZ [((Sum.inr g[0]:Key),R)] (Sum.inr g[1]:Key) with
  |none=>rfl
  |some v=>exact absurd (Sum.inr.inj (List.mem_singleton.mp (aRi e))).symm a6
 rw[em];have al:TK K H6 (L2.upd H6 d (.dK [((Sum.inr g[0]:Key),R),((Sum.inr g[1]:Key),X)])):=λ_ _ e=>e.bIm ap;have a0:Fx a H3 (L2.upd H6 d (.dK [((Sum.inr g[0]:Key),R),((Sum.inr g[1]:Key),X)])):=((W.trans f5).trans f6).upd ah a2;have au:aYy K (L2.upd H6 d (.dK [((Sum.inr g[0]:Key),R),((Sum.inr g[1]:Key),X)])) d [(g[0],as),(g[1],ar)]:=⟨_,aJ,.cons ⟨rfl,(ax.tk (f6.tk f5.st)).tk al⟩ (.cons ⟨rfl,ba.tk al⟩ .nil)⟩;generalize L2.upd H6 d (.dK [((Sum.inr g[0]:Key),R),((Sum.inr g[1]:Key),X)])=H7 at a0 au;have bl:bGp [(g[0],as),(g[1],ar)]:=⟨by
  show [g[0],g[1]].Nodup;exact List.nodup_cons.mpr ⟨λm=>a6 (List.mem_singleton.mp m),List.nodup_cons.mpr ⟨bAG,List.nodup_nil⟩⟩,λt ht=>by
  rcases List.mem_cons.mp ht with rfl|ht
  ·exact⟨nm U,bk⟩
  ·rw[List.mem_singleton.mp ht];exact⟨nm i1,ay⟩,by show 1<=2;decide,by show 2<=_;decide⟩
 have an:=a0.same _ _ B g3;refine⟨_,rfl,by decide,by decide,kE (n:=8) (λi σ I=>Fx a H7 I/\∃(l4 l5 l6 l7 l8 l9:Option V),σ=[some (.ref sc),some (.ref a),some (.ref N),some (.ref d),l4,l5,l6,l7,l8,l9,none,none]) ⟨Fx.refl a0.st,_,_,_,_,_,_,rfl⟩ ?_ ?_⟩
 ·rintro i σ I hi ⟨fx,l4,l5,l6,l7,l8,l9,rfl⟩;refine⟨_,rfl,_,rfl,_,rfl,_,rfl,a,3,rfl,fx.st,by decide,λm Hm fm m0 m1=>?_⟩;have Z:=fx.trans fm;refine⟨a,d,N,m.toNat,_,g,?_,by lia,by lia,Z.st,B,au.fx a0.st Z,bl,Z.same _ _ B an,hn,λr H8 w1 w2 q1 h1 f8 g8 ab _ _ _ bx=>?_⟩
  ·exact congrArg (λz=>[V.ref a,V.ref d,V.ref N,V.int z]) (by lia)
  have hb:=bHf m.toNat;have o:My.size q1<=20:=by lia
  have S:=ab.wf;have bn:=aR5 S;have b5:=Z.trans f8;refine⟨r,_,0,_,rfl,rfl,SqT.of g8,at0 _ _,?_⟩;refine⟨_,rfl,w1,q1,rfl,ab,o,by lia,λH9 s9=>?_⟩;have aa:=b5.sm s9;refine⟨_,rfl,_,rfl,a,q1,rfl,aa.st,S,o,λb bz ao bm=>?_⟩;have O:=aa.trans ao;have a5:=(ab.same s9).tk (ao.tk aa.st);refine⟨_,rfl,.str b,rfl,.inr ⟨.inr (.inl ⟨b,rfl,bm⟩),λp l u bp ak bb J=>?_⟩⟩;have bo:=O.sm ak;refine⟨p,_,rfl,SqT.of bb,rfl,?_⟩;refine⟨_,_,rfl,_,_,rfl,rfl,?_⟩;rcases J with⟨q2,e2,a8,ae,gl,af⟩|⟨no,gl,rfl⟩
  ·cases e2;have bw:=aR5 a8;obtain⟨ua,_,bu,_,rfl,_,bi,_⟩:=aH9 af af;refine⟨_,rfl,sz0,λa7 bc _ C ag=>⟨l,a7,_,rfl,rfl,SqL.of (C _ _ gl),SqL.of ag,_,rfl,bV ?_⟩⟩;refine⟨_,rfl,_,_,rfl,.tup (C.aV bi),_,rfl,aZ ?_⟩;refine⟨_,rfl,_,q2,rfl,af.same C,ae,by lia,λbj a1=>⟨_,rfl,rfl,_,rfl,?_⟩⟩;rw[show (!decide (V.str (txt (wq q2))=V.str (txt (wq q2))))=false by rw[v9 rfl];rfl];refine aZ ?_;refine⟨_,rfl,_,rfl,.inl ⟨q1,rfl,S,o,λp l u b0 aj a9 fl G M=>?_⟩⟩;refine⟨sz0,λpl b8 ai y ac=>⟨_,rfl,sz2,λpt bg b7 j ad=>?_⟩⟩;have sA:=ak.trans ((C.trans a1).trans (aj.trans (y.trans j)));have nl:l≠pl:=λe=>by rw[e,ai] at G;cases G
   refine⟨p,pt,l,pl,[],[],u,w1,rfl,rfl,SqT.of ((y.trans j) _ _ a9),SqT.of ad,aSu (M.same (y.trans j)) (a5.same sA) o,SqL.of ((y.trans j) _ _ G),SqL.of (j _ _ ac),.nil,nl,_,rfl,aZ ?_⟩;exact⟨O.sm sA,_,_,_,_,_,_,rfl⟩
  ·refine⟨_,rfl,sz0,λa7 bc _ C ag=>⟨l,a7,_,rfl,rfl,SqL.of (C _ _ gl),SqL.of ag,_,rfl,aZ ?_⟩⟩;refine⟨_,rfl,sz4,λbf bj _ a1 b9=>⟨l,bf,_,_,rfl,rfl,SqL.of (a1 _ _ (C _ _ gl)),SqL.of b9,Fl2.refl (by decide),_,rfl,aZ ?_⟩⟩;refine⟨_,rfl,_,rfl,.inl ⟨q1,rfl,S,o,λp l u b0 aj a9 fl G M=>?_⟩⟩;refine⟨sz0,λpl b8 ai y ac=>⟨_,rfl,sz2,λpt bg b7 j ad=>?_⟩⟩;have sA:=ak.trans ((C.trans a1).trans (aj.trans (y.trans j)));have nl:l≠pl:=λe=>by rw[e,ai] at G;cases G
   refine⟨p,pt,l,pl,[],[],u,w1,rfl,rfl,SqT.of ((y.trans j) _ _ a9),SqT.of ad,aSu (M.same (y.trans j)) (a5.same sA) o,SqL.of ((y.trans j) _ _ G),SqL.of (j _ _ ac),.nil,nl,_,rfl,aZ ?_⟩;exact⟨O.sm sA,_,_,_,_,_,_,rfl⟩
 ·rintro σ I ⟨fx,l4,l5,l6,l7,l8,l9,rfl⟩;have gN:=fx.same _ _ B an;have hT:=nm U;have hc:=nm i3;have lT:=fJ hT;have lc:=fJ hc;have hs:sizeLine=2 ^ 24:=rfl;have b1:Str.length " join ( "=8:=by trivial
  have b2:Str.length " ) on "=6:=by trivial
  have b3:Str.length " "=1:=by trivial
  refine⟨_,rfl,N,_,0,_,rfl,rfl,SqL.of gN,k U,_,_,rfl,rfl,by lia,_,90,rfl,rfl,by decide,by rw[aH];lia,λt1 e1=>?_⟩;have n1:t1.length<=1440:=by rw[e1,aJ7,aH];lia
  refine⟨_,rfl,N,_,0,_,rfl,rfl,SqL.of gN,k U,_,_,rfl,rfl,by lia,?_⟩;refine⟨_,rfl,N,_,3,_,rfl,rfl,SqL.of gN,k i3,_,_,rfl,rfl,by lia,_,_,rfl,rfl,by rw[aH];lia,_,rfl,N,_,3,_,rfl,rfl,SqL.of gN,k i3,_,_,rfl,rfl,by rw[aH,aH];lia,_,90,rfl,rfl,by decide,by rw[aH,aH,aH];lia,λt2 e2=>?_⟩;have n2:t2.length<=2070:=by rw[e2,aJ7,aH,aH,aH];lia
  refine⟨_,_,rfl,rfl,by rw[aH];lia,?_⟩;have eD:t1++g[0]++t2=den g[0] g[3] fV:=by rw[e1,e2];rfl
  have nD:(t1++g[0]++t2).length<=4000:=by rw[aH,aH];lia
  generalize t1++g[0]++t2=D at eD nD;have a4:∀{t:Str},(∃n,cs t=(cs D).take n)->Few t:=λh=>aVd hT hc (by rw[<-eD];exact h);refine⟨_,rfl,N,_,0,_,rfl,rfl,SqL.of gN,k U,_,rfl,N,_,3,_,rfl,rfl,SqL.of gN,k i3,_,_,rfl,hT,hc,λpn H1 fn s1 g1=>?_⟩;refine⟨_,rfl,N,_,0,_,rfl,rfl,SqL.of (s1 _ _ gN),k U,sz1,λpl H2 f2 s2 g2=>?_⟩;refine⟨_,rfl,N,_,0,_,rfl,rfl,SqL.of (s2 _ _ (s1 _ _ gN)),k U,sz2,λpt H3 f3 s3 g3=>?_⟩;refine⟨_,rfl,_,rfl,1000,rfl,_,rfl,by lia,sz6,λp6 H4 f4 s4 g4=>⟨pn,p6,_,_,rfl,rfl,s4 _ _ (s3 _ _ (s2 _ _ g1)),g4,?_,λL H5 f5 s5 g5=>?_⟩⟩
  ·rw[j5];show nxs.length+6<=_;have:nxs.length<=100:=by decide
   lia
  have be:∀x∈(nxs.map λt=>V.str (den g[0] g[3] t))++[V.non,.int 7,.ref pl,.ref pt,.str D,.str (PySem.Txt.slice D none (some 1000))],(∀I,Same H5 I->LR K I x)/\∀q,x=.str (txt (wq q))->Wf q->My.size q<=20->False:=by
   intro x hx;rcases List.mem_append.mp hx with hx|hx
   ·obtain⟨t,mt,rfl⟩:=List.mem_map.mp hx;exact⟨λ_ _=>.inr (.inl ⟨_,rfl,bAl hT hc (aYt t mt).1⟩),λq e hw _=>bDw hT hc mt hw (V.str.inj e)⟩
   simp only[bAO,bAG,or_false] at hx;rcases hx with rfl|rfl|rfl|rfl|rfl|rfl
   ·exact⟨λ_ _=>.inr (.inr ⟨.inr (.inr (.inr ⟨_,.non⟩)),λt e=>by cases e⟩),λq e=>by cases e⟩
   ·exact⟨λ_ _=>.inr (.inr ⟨.inr (.inl ⟨7,rfl⟩),λt e=>by cases e⟩),λq e=>by cases e⟩
   ·exact⟨λI s'=>.inr (.inr ⟨.inr (.inr (.inr ⟨_,.lst (SqL.of ((s3.trans (s4.trans (s5.trans s'))) _ _ g2))⟩)),λt e=>by cases e⟩),λq e=>by cases e⟩
   ·exact⟨λI s'=>.inr (.inr ⟨.inr (.inr (.inr ⟨_,.tup (SqT.of ((s4.trans (s5.trans s')) _ _ g3))⟩)),λt e=>by cases e⟩),λq e=>by cases e⟩
   ·exact⟨λ_ _=>.inr (.inl ⟨_,rfl,a4 ⟨(cs D).length,(bBY).symm⟩⟩),λq e hw hz=>bBj hT hc hw hz (eD ▸ V.str.inj e)⟩
   ·have eS:cs (PySem.Txt.slice D none (some 1000))=(cs D).take 1000:=by
     rw[aBp,PySem.StrLaws.sliceText_to ⟨by decide,?_⟩]
     ·rfl
     ·have:=oW.2.2.2.1;have:=(aCh hT hc (nf fV)).1;rw[<-rE,<-eD] at this;show (1000:Int)<=((cs D).length:Nat);lia
    exact⟨λ_ _=>.inr (.inl ⟨_,rfl,a4 ⟨1000,eS⟩⟩),λq e hw hz=>bDp hT hc (by rw[<-eD];exact eS) hw (V.str.inj e)⟩
  refine⟨L,rfl,⟨_,SqL.of g5⟩,aVx (xs:=(nxs.map λt=>V.str (den g[0] g[3] t))++[V.non,.int 7,.ref pl,.ref pt,.str D,.str (PySem.Txt.slice D none (some 1000))]) (λi σ I=>Same H5 I/\∃l11:Option V,σ=[some (.ref sc),some (.ref a),some (.ref N),some (.ref d),l4,l5,l6,l7,l8,l9,some (.str D),l11]) ⟨Same.refl _,_,rfl⟩ (λi σ I _ ⟨sm,_⟩=>SqL.of (sm _ _ g5)) ?_ ?_⟩
  ·rintro i x σ I hx ⟨sm,l11,rfl⟩;obtain⟨k1,k2⟩:=be x (bAQ hx);refine⟨_,rfl,x,rfl,.inr ⟨k1 I sm,λp l u H6 s6 g6 J=>?_⟩⟩;rcases J with⟨q2,e2,a8,ae,_⟩|⟨_,gl,rfl⟩
   ·exact (k2 q2 e2 a8 ae).elim
   refine⟨sz4,λam c3 bh s7 g7=>⟨sz2,λaz H8 f8 s8 g8=>?_⟩⟩;have nl:l≠am:=λe=>by rw[e,bh] at gl;cases gl
   refine⟨p,az,l,am,_,_,.non,.non,rfl,rfl,SqT.of ((s7.trans s8) _ _ g6),SqT.of g8,cJ rfl,SqL.of ((s7.trans s8) _ _ gl),SqL.of (s8 _ _ g7),Fl2.refl (by decide),nl,_,rfl,aZ ?_⟩;exact⟨sm.trans (s6.trans (s7.trans s8)),_,rfl⟩
  ·rintro σ I ⟨sm,l11,rfl⟩;exact q I
def aM0 (T:!Txt)(e:!Ok 1 "is_whole" f9 (aAr K))(g:!Ok 1 "is_word" f9 (pM K (lO 0)))(c:!Ok 2 "is_name" f9 (pM K nameB)):!OkX 8 "checked" f9 (aBe K mg):=by have d:=aLx T e g;have a:=aKj (P:=P) (base:=base) T;have b:=bD4 c;have f:aQb P w K mg base:=⟨b,yS T,aG2 T (aL2 T a c (aK6 T a d c)) (eV T),aHj T b (eV T),xG T b (eV T),aG9 T (aLs T b (eV T)) (eV T),aJl T (aPx T a c) (eV T),aJp T (aPm T a c) (eV T),aMv T e⟩;exact aOj T (aKb T f a) (aCd T) (aLb T)
def aYw (T:!Txt)(I:!Ok 1 "is_word" f9 (pM K (lO 0)))(l:!Ok 2 "is_name" f9 (pM K nameB))(ck:!OkX 8 "checked" f9 (aBe K mg)):!OkX 72 "read_question" bQD (aOx K mg):=by obtain⟨C,o,r,W,y,s,B,A,m6,v,t,q,j⟩:=T.bAw;have c:=o.cls;obtain⟨S,ad,mS,hS,b,_⟩:=T.aS7;have z:=aFn (P:=P) (base:=base) T;have u:=bHl (yG T (b .words) (qP T z) (uP T (aXp I)));have f:=aUe (P:=P) (base:=base) T c W q j;have g:=aVz T c y j f;have m:=aY4 T c s l g;have E:=aSy T c B l f g;have Z:=aTl T c A u g;have d:=aUa T c m6 j f;have H:=aJi T m g (aHc T l u);have rp:=aI5 T m;have Y:=aLn T m g;have L:=aOl T m g;have ot:!Ok 6 "one_and_more" v5 (!aEv 5 C IsT wT OkT):=uM T (by decide) (λe h=>h.tk e) d;have F:!Ok 5 "one_and_more" v5 (!aEv 4 C rB wP OkP):=uM T (by decide) (λe h=>h.tk e) d;have M:!Ok 5 "each_behind" o4 (!aNa 4 C nU wS OkS):=uU T (by decide) (λe h=>h.tk e) d;have Q:!Ok 5 "each_behind" o4 (!aNa 4 C qZ wP OkK):=uU T (by decide) (λe h=>h.tk e) d;have p:=wL T f m (λn G=>aJu T g E Z (aJ5 T (aWr T c v d) G F rp) ot H M L Q Y) 10;have x:=yG T (b .words) (qP T z) (uP T (aXp I));have i:=aVu T (b .words) c y j f;have k:=aVy T (b .words) c s l i;have D:=aUo T (b .words) c A x i;have V:=aX9 T (b .words) c v d;have U:=aGs T k i (aFu T (b .words) l x);have xp:=aG3 T k;have R:=aKy T k i;have O:=aK9 T k i;have oT:!OkX 6 "one_and_more" v5 (!aA4 5 C tgT wT RwT):=sV T (by decide) (λa=>bCm a) (λa e=>by cases e) d;have J:!OkX 6 "one_and_more" v5 (!aA4 5 C tgP wP OkP):=sV T (by decide) (λa=>(aSd a).up (by decide)) (λa e=>by cases e) d;have X:!OkX 6 "each_behind" o4 (!aEj 5 C tgS wS RwS):=uL T (by decide) (λa=>(bCf a).up (by decide)) d;have N:!OkX 6 "each_behind" o4 (!aEj 5 C tgP wP RwK):=uL T (by decide) (λa=>(aSd a).up (by decide)) d;have xw:=aDx T (b .words) f k (λn G=>aG8 T (b .words) i (aPe T c B l f g) D (aHd T V G J xp) oT U X O N R) 21;exact aAx T ((aS0 T (b .words) c r q j).make o) xw (aZg T (b .words) c t f) ck ((aTf T c r q j).make o) p (bBs T c t f)
def bEo (T:!Txt)(c:mg "law"=some (.ref fa)) :
  ∃fd:FuncData,(∀(s:Shared) (u:Value),BindsTo s fd ⟨[u],[]⟩ [("_law_script",u)])/\∀base:Heap,K.In base->base.Ns mainGlobals mg->!iM CX0 74 fa fd bQK (aJr K):=by
 obtain⟨f,fd,F,B,m⟩:=T.bG9;have e:fa=f:=by rw[m] at c;injection c with e;injection e with e;exact e.symm
 subst e;refine⟨fd,?_,λbase _ _=>?_⟩
 ·obtain⟨⟨o,r,kV,i,n,p,k,q,j,rfl,t,l⟩,kp⟩:=F;exact λs u=>.of_eq rfl
 ·have a:=aJt (P:=P) (base:=base) T;have h:=aM6 (P:=P) (base:=base) T;have b:=aO0 (P:=P) (base:=base) T;have g:=aOu T b;have ck:=aM0 T h b g;have d:=aJd T a;exact bFn F T (aJa T) a (aHi T a (aGr T)) (aKr T a) (sU T a d (aK0 T a d) (aG5 T a (aGz T a (aHg T a))) (aG0 T d (aI6 T a)) (aLj T a (aG6 T)) 3) (yF T (zG T (xH T)) (yN T) 20) (aEz T a (zU T)) (aLc T (aYw T b g ck)) (aKi T (aFp T))
end
inductive FA (K:bFQ)(n:Str)(s:Stmt)(f:Addr):Prop
 |mk {od an:Option Addr} {sl:Array (Option Value)} {kV dc pm cd ct:Value}:PySem.W.nsIn K mainGlobals n=some (some (.ref f))->K.lookup f=some ⟨.type "function",od,.func (PySem.W.fnOf n n (oG s) (dN s) (aC s) .none kV dc pm an cd ct),sl⟩->PySem.W.codeIn K cd n=true->PySem.W.keepIn K (.ref f)=true->FA K n s f
section
variable {K:bFQ}{h:Heap}{mg:bFT}{n:Str}{s:Stmt}{f:Addr}{ps:List Str}
def bCi (X:K.In h)(G:h.Ns mainGlobals mg)(a:FA K n s f):mg n=some (.ref f):=by obtain⟨a,_,_,_⟩:=a;exact bAT X G a
def bGj (X:K.In h)(G:h.Ns mainGlobals mg)(a:FA K n s f)(b:∀(kV doc pm:Value) (an:Option Addr) (cdv ct:Value) (us:List Value),us.length=ps.length->bindArgs (PySem.W.fnOf n n (oG s) (dN s) (aC s) .none kV doc pm an cdv ct) ⟨us,[]⟩=pure (ps.zip us)):Dn K mg n s ps:=by have m:=bCi X G a;obtain⟨_,l,c,k⟩:=a;exact⟨f,_,aCm l c k,(aCm l c k).binds b,m⟩
def bJe (X:K.In h)(G:h.Ns mainGlobals mg)(a:FA K n s f):∃f o,(∃u,mg n=some u/\RelV (.ref f) u)/\K.lookup f=some o/\o.cls=.type "function":=by have m:=bCi X G a;obtain⟨_,l,c,k⟩:=a;exact⟨f,_,⟨_,m,rfl⟩,l,rfl⟩
end
inductive CA (K:bFQ)(x:Str)(C:Addr):Prop
 |mk:PySem.W.nsIn K mainGlobals x=some (some (.ref C))->PySem.W.plainGet K C Str.empty=true->PySem.W.hasDictIn K C=true->PySem.W.plainOver K C=true->PySem.W.findIn K (.ref C) "__setattr__"=some (some (.builtin "object.__setattr__"))->PySem.W.makesIn K C=true->PySem.W.keepIn K (.ref C)=true->CA K x C
def bHu {K:bFQ}{h:Heap}{mg:bFT}{x:Str}{C:Addr}(X:K.In h)(G:h.Ns mainGlobals mg)(a:CA K x C):aWu K mg x C:=by obtain⟨a,f,e,b,c,g,d⟩:=a;exact⟨bAT X G a,⟨f,e,b,c⟩,g,d⟩
inductive MA (K:bFQ)(C:Addr)(m qual:Str)(s:Stmt)(f:Addr):Prop
 |mk {od an:Option Addr} {sl:Array (Option Value)} {kV dc pm cd ct:Value}:PySem.W.findIn K (.ref C) m=some (some (.ref f))->PySem.W.isFn K (.ref f)=true->K.lookup f=some ⟨.type "function",od,.func (PySem.W.fnOf m qual (oG s) (dN s) (aC s) .none kV dc pm an cd ct),sl⟩->PySem.W.codeIn K cd qual=true->PySem.W.keepIn K (.ref f)=true->MA K C m qual s f
def bHx {K:bFQ}{C:Addr}{m qual:Str}{s:Stmt}{f:Addr}{ps:List Str}(a:MA K C m qual s f)(b:∀(kV doc pm:Value) (an:Option Addr) (cdv ct:Value) (us:List Value),us.length=ps.length->bindArgs (PySem.W.fnOf m qual (oG s) (dN s) (aC s) .none kV doc pm an cdv ct) ⟨us,[]⟩=pure (ps.zip us)):lN K C m qual s ps:=by obtain⟨a,i,l,c,k⟩:=a;exact⟨f,_,⟨a,i,k⟩,aCm l c k,(aCm l c k).binds b⟩
theorem ln0 {P:List Value->Prop}(h:P []):∀us:List Value,us.length=0->P us
 |[],_=>h
theorem lnS {P:List Value->Prop}{n:Nat}(h:∀a us,us.length=n->P (a::us)):∀us:List Value,us.length=n+1->P us
 |[],e=>by cases e
 |a::us,e=>h a us (Nat.succ.inj e)
def ln1 {P:List Value->Prop}(h:∀a0,P [a0]):∀us:List Value,us.length=1->P us:=lnS λa0=>ln0 (h a0)
def ln2 {P:List Value->Prop}(h:∀a0 a1,P [a0,a1]):∀us:List Value,us.length=2->P us:=lnS λa0=>lnS λa1=>ln0 (h a0 a1)
def ln3 {P:List Value->Prop}(h:∀a0 a1 a2,P [a0,a1,a2]):∀us:List Value,us.length=3->P us:=lnS λa0=>lnS λa1=>lnS λa2=>ln0 (h a0 a1 a2)
def ln4 {P:List Value->Prop}(h:∀a0 a1 a2 a3,P [a0,a1,a2,a3]):∀us:List Value,us.length=4->P us:=lnS λa0=>lnS λa1=>lnS λa2=>lnS λa3=>ln0 (h a0 a1 a2 a3)
def ln5 {P:List Value->Prop}(h:∀a0 a1 a2 a3 a4,P [a0,a1,a2,a3,a4]):∀us:List Value,us.length=5->P us:=lnS λa0=>lnS λa1=>lnS λa2=>lnS λa3=>lnS λa4=>ln0 (h a0 a1 a2 a3 a4)
def ln6 {P:List Value->Prop}(h:∀a0 a1 a2 a3 a4 a5,P [a0,a1,a2,a3,a4,a5]):∀us:List Value,us.length=6->P us:=lnS λa0=>lnS λa1=>lnS λa2=>lnS λa3=>lnS λa4=>lnS λa5=>ln0 (h a0 a1 a2 a3 a4 a5)
inductive X1 (K:bFQ)(S fI:Addr)(n:Str)(C:Addr):Prop
 |mk {nm q:Str} {N:Addr} {bs bm:List Value} {sn:List Str} {sub:List Value} {ab:Bool} {col:Option Bool} {dd:Option Addr} {k0 k1 k2 k3 k5:Option Value} {cd:ClassData} :
  PySem.W.nsIn K mainGlobals n=some (some (.ref C)) ->
  K.lookup C=some (excClassObj nm q C N bs bm true sn sub ab col dd k0 k1 k2 k3 k5 "ValueError.__new__") ->
  bm.contains (.type "ValueError")=true ->
  bm.contains (.type "AttributeError")=false ->
  bm.contains (.type "NameError")=false ->
  bm.contains (.type "BaseException")=true ->
  PySem.W.clsIn K C=some cd ->
  (aGo cd.mro && cd.hasDict)=true ->
  PySem.W.findIn K (.ref C) "__init__"=some (some (.ref fI)) ->
  PySem.W.typeIn K (.ref fI)=some (.type "function") ->
  PySem.W.findIn K (.ref C) "__setattr__"=some (some (.builtin "object.__setattr__")) ->
  PySem.W.findIn K (.ref C) "__getattribute__"=some (some (.builtin "BaseException.__getattribute__")) ->
  PySem.W.findIn K (.ref C) "__getattr__"=some none ->
  PySem.W.findIn K (.ref C) "act"=some none ->
  PySem.W.findIn K (.ref C) "__class__"=some (some (.builtin "object.__class__")) ->
  PySem.W.keepIn K (.ref C)=true ->
  PySem.W.typeIn K (.ref C)=some (.type "type") ->
  PySem.W.mroIn K C (.type "BaseException")=some true ->
  PySem.W.mroIn K C (.ref S)=some true ->
  PySem.W.mroIn K C (.type "ValueError")=some true->X1 K S fI n C
inductive X0 (K:bFQ)(S fI:Addr):Prop
 |mk {cS:ClassData} {od an:Option Addr} {sl:Array (Option Value)} {kV dc pm cdv ct:Value} :
  K.lookup fI=some ⟨.type "function",od,.func (PySem.W.fnOf "__init__" "ShardError.__init__" (oG gQ) (dN gQ) (aC gQ) .none kV dc pm an cdv ct),sl⟩ ->
  PySem.W.codeIn K cdv "ShardError.__init__"=true ->
  PySem.W.keepIn K (.ref fI)=true ->
  PySem.W.typeIn K (.ref S)=some (.type "type") ->
  PySem.W.clsIn K S=some cS ->
  PySem.W.mroIn K S (.type "BaseException")=some true->X0 K S fI
def aSv {K:bFQ}{h:Heap}{mg:bFT}{S fI C:Addr}{n:Str}(X:K.In h)(G:h.Ns mainGlobals mg)(a:X1 K S fI n C)(b:X0 K S fI):ExT K mg gQ n "ShardError.__init__" C S/\PySem.W.mroIn K C (.type "ValueError")=some true:=by obtain⟨s,v,x,q,y,u,o,p,A,z,t,w,r,l,m,i,j,f,g,k⟩:=a;obtain⟨d,e,c,_,_,_⟩:=b;exact⟨⟨⟨fI,_,⟨⟨_,_,_,_,_,_,_,_,_,_,_,_,_,_,_,v,x,q,y,u⟩,A,z,by rw[o];exact p,t,w,r,l,m⟩,aCm d e c,(aCm d e c).binds λ_ _ _ _ _ _=>ln2 λ_ _=>rfl⟩,bAT X G s,i,⟨j,by rw[o];rfl,f⟩,g⟩,k⟩
def bIw (c0 c1:Addr):Exn->Addr
 |.ques=>c0
 |.words=>c1
inductive XM (K:bFQ)(c0 c1:Addr):Prop
 |mk:PySem.W.mroIn K c0 (.ref c0)=some true->PySem.W.mroIn K c0 (.ref c1)=some false->PySem.W.mroIn K c1 (.ref c0)=some false->PySem.W.mroIn K c1 (.ref c1)=some true->XM K c0 c1
def bHj {K:bFQ}{h:Heap}{mg:bFT}{S fI p o:Addr}(X:K.In h)(G:h.Ns mainGlobals mg)(s:PySem.W.nsIn K mainGlobals "ShardError"=some (some (.ref S)))(n:X1 K S fI "NoQuestion" p)(l:X1 K S fI "NoWords" o)(b:X0 K S fI)(m:XM K p o) :
  ∃(S:Addr) (ad:Exn->Addr),mg "ShardError"=some (.ref S)/\XS K S/\(∀c,ExT K mg gQ c.nm "ShardError.__init__" (ad c) S)/\(∀c d,PySem.W.mroIn K (ad c) (.ref (ad d))=some (decide (c=d)))/\∀c,PySem.W.mroIn K (ad c) (.type "ValueError")=some true:=by
 refine⟨S,bIw p o,bAT X G s,?_,λc=>?_,λc d=>?_,λc=>?_⟩
 ·obtain⟨_,_,_,j,i,k⟩:=b;exact⟨j,by rw[i];rfl,k⟩
 ·cases c
  ·exact (aSv X G n b).1
  ·exact (aSv X G l b).1
 ·obtain⟨f,a,e,g⟩:=m;cases c
  ·cases d
   ·exact f
   ·exact a
  ·cases d
   ·exact e
   ·exact g
 ·cases c
  ·exact (aSv X G n b).2
  ·exact (aSv X G l b).2
def bH2 {K:bFQ}{h:Heap}{mg:bFT}{c1:Addr}(X:K.In h)(G:h.Ns mainGlobals mg)(q:PySem.W.nsIn K mainGlobals "NoWords"=some (some (.ref c1)))(e:c1=cxA):∀C,mg "NoWords"=some (.ref C)->C=cxA:=λC h=>by rw[bAT X G q] at h;injection h with h;injection h with h;rw[<-h];exact e
def bH3 {K:bFQ}{h:Heap}{mg:bFT}{c0:Addr}(X:K.In h)(G:h.Ns mainGlobals mg)(q:PySem.W.nsIn K mainGlobals "NoQuestion"=some (some (.ref c0)))(e:c0≠cxA):∀C,mg "NoQuestion"=some (.ref C)->C≠cxA:=λC h=>by rw[bAT X G q] at h;injection h with h;injection h with h;rw[<-h];exact e
def bCu {K:bFQ}{h:Heap}{mg:bFT}{n:Str}{l:List V}{a:Addr}{o:Obj}{vs:Array Value}{m:Nat}(X:K.In h)(G:h.Ns mainGlobals mg)(q:PySem.W.nsIn K mainGlobals n=some (some (.ref a)))(r:K.lookup a=some o)(t:o.cls=.type "tuple")(y:o.dict=none)(u:o.data=.seq vs m)(v:Vals l vs.toList)(s:l.length<=1000):∃a,mg n=some (.ref a)/\∀H,SqT K H a l:=
 ⟨_,bAT X G q,λH=>.inr ⟨_,_,_,r,t,y,u,by have e:=v.length;simp only[bAW] at e;rw[<-e];exact small s,v⟩⟩
def aV7 {K:bFQ}{h:Heap}{mg:bFT}{n:Str}{v:V}{u:Value}(X:K.In h)(G:h.Ns mainGlobals mg)(q:PySem.W.nsIn K mainGlobals n=some (some u))(r:RelV v u):∃u,mg n=some u/\RelV v u:=⟨u,bAT X G q,r⟩
def bHi {K:bFQ}{h:Heap}{mg:bFT}{x:Str}{C:Addr}{R:Addr->Prop}(X:K.In h)(G:h.Ns mainGlobals mg)(a:CA K x C)(r:R C):∃C,aWu K mg x C/\R C:=⟨C,bHu X G a,r⟩
def bHr {K:bFQ}{h:Heap}{mg:bFT}{w:World}{ca:Addr}{co:Obj}{ce:Array DictEntry}{cp:Nat}{f0 f1 f2 z D M N J f8:Addr}{c g f n k i j:Addr}{to0 to1 to2 to3 to4 to5 to6:Obj}{ti0 ti1 ti2 ti3 ti4 ti5 ti6:Array Value}{tn0 tn1 tn2 tn3 tn4 tn5 tn6:Nat}(X:K.In h)(G:h.Ns mainGlobals mg)(Q:PySem.W.nsIn K mainGlobals "is_name"=some (some (.ref f0)))(b:PySem.W.nsIn K mainGlobals "may_be_question"=some (some (.ref f1)))(T:PySem.W.nsIn K mainGlobals "are_tests"=some (some (.ref f2)))(p:PySem.W.nsIn K mainGlobals "are_names"=some (some (.ref z)))(C:PySem.W.nsIn K mainGlobals "are_pairs"=some (some (.ref D)))(a5:PySem.W.nsIn K mainGlobals "are_group_names"=some (some (.ref M)))(a6:PySem.W.nsIn K mainGlobals "are_sums"=some (some (.ref N)))(R:PySem.W.nsIn K mainGlobals "are_keys"=some (some (.ref J)))(a8:PySem.W.nsIn K mainGlobals "is_many"=some (some (.ref f8)))(q:PySem.W.nsIn K mainGlobals "FORMS"=some (some (.ref ca)))(r:K.lookup ca=some co)(x:co.ExactDict)(o:(ca == sysModules)=false)(u:co.data=.dict ce cp)(hh:∀P:Program,PH P w ce.toList [("table",Value.ref c),("where",Value.ref g),("keep",Value.ref f),("named",Value.ref n),("join",Value.ref k),("group",Value.ref i),("first",Value.ref j)])(Z:K.lookup c=some to0)(t0:to0.cls=.type "tuple")(y0:to0.dict=none)(A:to0.data=.seq ti0 tn0)(B:Vals [.ref f0] ti0.toList)(r1:K.lookup g=some to1)(t1:to1.cls=.type "tuple")(y1:to1.dict=none)(I:to1.data=.seq ti1 tn1)(Y:Vals [.ref f1,.ref f2] ti1.toList)(r2:K.lookup f=some to2)(t2:to2.cls=.type "tuple")(L:to2.dict=none)(U:to2.data=.seq ti2 tn2)(v2:Vals [.ref f1,.ref z] ti2.toList)(r3:K.lookup n=some to3)(t3:to3.cls=.type "tuple")(y3:to3.dict=none)(u3:to3.data=.seq ti3 tn3)(O:Vals [.ref f1,.ref z] ti3.toList)(r4:K.lookup k=some to4)(t4:to4.cls=.type "tuple")(S:to4.dict=none)(u4:to4.data=.seq ti4 tn4)(v4:Vals [.ref f1,.ref f1,.ref D] ti4.toList)(r5:K.lookup i=some to5)(t5:to5.cls=.type "tuple")(y5:to5.dict=none)(u5:to5.data=.seq ti5 tn5)(F:Vals [.ref f1,.ref M,.ref N] ti5.toList)(E:K.lookup j=some to6)(t6:to6.cls=.type "tuple")(y6:to6.dict=none)(u6:to6.data=.seq ti6 tn6)(v6:Vals [.ref f1,.ref J,.ref f8] ti6.toList):∃d t0 t1 t2 t3 t4 t5 t6:Addr,mg "FORMS"=some (.ref d)/\aWp w K d [("table",t0),("where",t1),("keep",t2),("named",t3),("join",t4),("group",t5),("first",t6)]/\(∃f0:Addr,(∀H,SqT K H t0 [.ref f0])/\mg "is_name"=some (.ref f0))/\(∃f0 f1:Addr,(∀H,SqT K H t1 [.ref f0,.ref f1])/\mg "may_be_question"=some (.ref f0)/\mg "are_tests"=some (.ref f1))/\(∃f0 f1:Addr,(∀H,SqT K H t2 [.ref f0,.ref f1])/\mg "may_be_question"=some (.ref f0)/\mg "are_names"=some (.ref f1))/\(∃f0 f1:Addr,(∀H,SqT K H t3 [.ref f0,.ref f1])/\mg "may_be_question"=some (.ref f0)/\mg "are_names"=some (.ref f1))/\(∃f0 f1 f2:Addr,(∀H,SqT K H t4 [.ref f0,.ref f1,.ref f2])/\mg "may_be_question"=some (.ref f0)/\mg "may_be_question"=some (.ref f1)/\mg "are_pairs"=some (.ref f2))/\(∃f0 f1 f2:Addr,(∀H,SqT K H t5 [.ref f0,.ref f1,.ref f2])/\mg "may_be_question"=some (.ref f0)/\mg "are_group_names"=some (.ref f1)/\mg "are_sums"=some (.ref f2))/\(∃f0 f1 f2:Addr,(∀H,SqT K H t6 [.ref f0,.ref f1,.ref f2])/\mg "may_be_question"=some (.ref f0)/\mg "are_keys"=some (.ref f1)/\mg "is_many"=some (.ref f2)):=
 have a:∀{t:Addr} {o:Obj} {vs:Array Value} {m:Nat} {l:List V},K.lookup t=some o->o.cls=.type "tuple"->o.dict=none->o.data=.seq vs m->Vals l vs.toList->l.length<=1000->∀H,SqT K H t l:=λr t y u v s H=>.inr ⟨_,_,_,r,t,y,u,by have e:=v.length;simp only[bAW] at e;rw[<-e];exact small s,v⟩
 ⟨ca,c,g,f,n,k,i,j,bAT X G q,⟨co,r,o,λP=>aT9 x u (hh P) (by show (List.map (λx:Str × Value=>x.1) [("table",Value.ref c),("where",Value.ref g),("keep",Value.ref f),("named",Value.ref n),("join",Value.ref k),("group",Value.ref i),("first",Value.ref j)]).Nodup;exact (by trivial:(["table","where","keep","named","join","group","first"]:List Str).Nodup))⟩,⟨f0,a Z t0 y0 A B (by show 1<=1000;decide),bAT X G Q⟩,⟨f1,f2,a r1 t1 y1 I Y (by show 2<=1000;decide),bAT X G b,bAT X G T⟩,⟨f1,z,a r2 t2 L U v2 (by show 2<=1000;decide),bAT X G b,bAT X G p⟩,⟨f1,z,a r3 t3 y3 u3 O (by show 2<=1000;decide),bAT X G b,bAT X G p⟩,⟨f1,f1,D,a r4 t4 S u4 v4 (by show 3<=1000;decide),bAT X G b,bAT X G b,bAT X G C⟩,⟨f1,M,N,a r5 t5 y5 u5 F (by show 3<=1000;decide),bAT X G b,bAT X G a5,bAT X G a6⟩,⟨f1,J,f8,a E t6 y6 u6 v6 (by show 3<=1000;decide),bAT X G b,bAT X G R,bAT X G a8⟩⟩
end My
open PySem PySem.W PyProof.Rows
namespace PySem.W.Fast
def tw13091735974761349792:=Nat
def tw12110946799641509803:=Nat
def tw5311967943754332506:=Nat
def tw3091847049346471206:=Nat
def tw804060813637317355:=Nat
def tw13579382778361348159:=Nat
def tw14550816186471488487:=Nat
def tw6292941486917369351:=Nat
def tw6889130328729887711:=Nat
def tw4125193623704164830:=Nat
def tw738616309190655631:=Nat
def tw11105023978934100989:=Nat
def tw7166418866713494484:=Nat
def tw8571551614984853968:=Nat
def tw8542076469288725501:=Nat
def tw15930660904412792549:=Nat
def tw16031322603634129964:=Nat
def tw2178244485650771264:=Nat
def tw17413661223571936379:=Nat
def tw1218834883648071331:=Nat
def tw6232813186550251084:=Nat
def tw10513406824994497901:=Nat
def tw17588490426703579901:=Nat
def tw4710099616257774518:=Nat
def tw17304040383736345457:=Nat
def tw17071308150680187915:=Nat
def tw11822857443824812134:=Nat
def tw11209438691454786087:=Nat
def tw4350557606796212729:=Nat
def tw806758309378251128:=Nat
def tw1920324990101143355:=Nat
def tw16754791333205881621:=Nat
def tw4146875222228747643:=Nat
def tw14916947264215411848:=Nat
def tw1956007030633407989:=Nat
def tw4398712524936687473:=Nat
def tw1059153628203778072:=Nat
def tw6773476991398130193:=Nat
def tw13081974770970378269:=Nat
def tw6703753267003936194:=Nat
def tw16230841293011283351:=Nat
def tw9142157388770708080:=Nat
def tw11598793205937669828:=Nat
def tw11587735969104847403:=Nat
def tw13851739892992254153:=Nat
def tw12990023401344670777:=Nat
def tw13222333415998075510:=Nat
def tw14932230336530579171:=Nat
def tw1741558684002930461:=Nat
def tw2424655347537447829:=Nat
def tw13196118099831760087:=Nat
def tw5379647629640880071:=Nat
def tw9812940930871275689:=Nat
def tw4193783800809650251:=Nat
def tw8063680984353033627:=Nat
def tw5033539850275998357:=Nat
def tw10401467868986206887:=Nat
def tw7768253393167404822:=Nat
def tw2448565609796678059:=Nat
def tw18368637866958999246:=Nat
def tw11436837617059638577:=Nat
def tw9142922907567851287:=Nat
def tw3397523563500887646:=Nat
def tw1331665254996206146:=Nat
def tw2639828750275241170:=Nat
def tw1610745831233176975:=Nat
def tw11560418959876413050:=Nat
def tw13865296541443802938:=Nat
def tw5011143904277826072:=Nat
def tw9995689840899982995:=Nat
def tw16284927025152221454:=Nat
def tw15090251021440911194:=Nat
def tw2704112468199543393:=Nat
def tw5415380485436991951:=Nat
def tw12432071611447908354:=Nat
def tw1383284524864814333:=Nat
def tw8797958337792365112:=Nat
def tw17447758054599153958:=Nat
def tw3548642087049134725:=Nat
def tw11316692078524689430:=Nat
def tw14918435210582672537:=Nat
def tw63940365261346647:=Nat
def tw15786912843216060975:=Nat
def tw9259741506868022150:=Nat
def tw6520434755634329181:=Nat
def tw5581521106935465210:=Nat
def tw5671260310075519465:=Nat
def tw14680747882175762035:=Nat
def tw2483000680911814669:=Nat
def tw15769237519629920908:=Nat
def tw9854069652335774991:=Nat
def tw5644258823052112867:=Nat
def tw9727897942554701675:=Nat
def tw11986087740847314737:=Nat
def tw14822104655806903842:=Nat
def tw16194984621781291068:=Nat
def tw7049432362903963006:=Nat
def tw4935159849268922717:=Nat
def tw10086691141638820857:=Nat
def tw17850963567977053642:=Nat
def tw3685277164133741619:=Nat
def tw14554561784307886214:=Nat
def tw17360010243507516787:=Nat
def tw11207481917836635055:=Nat
def tw16114022388684343781:=Nat
def tw5852369024122321093:=Nat
def tw9099867385336218075:=Nat
def tw16052469937823998439:=Nat
def tw8508826291265572923:=Nat
def tw2992255347618141974:=Nat
def tw11409772597513112964:=Nat
def tw14751805617566278174:=Nat
def tw7900853798939687197:=Nat
def tw9814312670533637809:=Nat
def tw11085933515621922637:=Nat
def tw13377636369729761282:=Nat
def tw18206023697670373303:=Nat
def tw10411768583164164999:=Nat
def tw16590248564466791719:=Nat
def tw13244022310522865334:=Nat
def tw5754487439651523563:=Nat
def tw6536008619044490274:=Nat
def tw15088782559645569218:=Nat
def tw18167267262146943405:=Nat
def tw367188495437689973:=Nat
def tw627386274375049287:=Nat
def tw11210685036544776136:=Nat
def tw6317494517665449909:=Nat
def tw16178534230105959986:=Nat
def tw12850861247826065246:=Nat
def tw1141674264341764334:=Nat
def tw6464562260818213016:=Nat
def tw10710075826792708086:=Nat
def tw4148236517889504976:=Nat
def tw5841854376883193967:=Nat
def tw7788622985453282439:=Nat
def tw3253396435161239840:=Nat
def tw1665785062602612744:=Nat
def tw8845227103882402369:=Nat
def tw11890275786669462242:=Nat
def tw646223059237311844:=Nat
def tw13889589593235183810:=Nat
def tw11695991293737449019:=Nat
def tw8777528879090740016:=Nat
def tw17411384908640057649:=Nat
def tw15121348222216121071:=Nat
def tw9099843967708745704:=Nat
def tw3846628735181106550:=Nat
def tw3484498993126142911:=Nat
def tw9066130149175701674:=Nat
def tw4425626816660376200:=Nat
def tw4576792609422938433:=Nat
def tw14226948726570427662:=Nat
def tw9957552058385745841:=Nat
def tw14721034544433815998:=Nat
def tw2794511757374569819:=Nat
def tw15399013993888989541:=Nat
def tw13203362647274407068:=Nat
def tw17833441850831539857:=Nat
def tw7065178818023058723:=Nat
def tw3862450098573334135:=Nat
def tw13130406575838106075:=Nat
def tw4186559418712330873:=Nat
def tw9112340377253259075:=Nat
def tw13245825698393516317:=Nat
def tw13780341037553464077:=Nat
def tw189645509818143134:=Nat
def tw4214665999463348706:=Nat
def tw3674104211833492792:=Nat
def tw15510950851427849012:=Nat
def tw6028650573524624493:=Nat
def tw939303333815965201:=Nat
def tw3362008091536518342:=Nat
def tw1585072584944731863:=Nat
def tw12504741355430593875:=Nat
def tw8090310773714472532:=Nat
def tw17191876694672566143:=Nat
def tw12927719870944484293:=Nat
def tw2403327477119171650:=Nat
def tw5212924123027244182:=Nat
def tw9135426406773469319:=Nat
def tw18013192455779127666:=Nat
def tw1523579350214333049:=Nat
def tw7850384890860392047:=Nat
def tw10067615051549131677:=Nat
def tw10004426366730204426:=Nat
def tw441273785277077312:=Nat
def tw13446333040447934302:=Nat
def tw10211328033960878328:=Nat
def tw4933976465284855741:=Nat
def tw9367462328309340413:=Nat
def tw12928570252393671497:=Nat
def tw18181657430159878742:=Nat
def tw14107068041471032434:=Nat
def tw17619013689222390297:=Nat
def tw7767803813786920695:=Nat
def tw7589818907555036023:=Nat
def tw15883737677151827284:=Nat
def tw18137606548499315978:=Nat
def tw12741450064580520431:=Nat
def tw1468134133436598513:=Nat
def tw11681482130330734143:=Nat
def tw11127452910231882640:=Nat
def tw8964419820696247286:=Nat
def tw16688067601934729288:=Nat
def tw15072620387083675623:=Nat
def tw12904639379885287688:=Nat
def tw8775182797214763093:=Nat
def tw4173671526520216618:=Nat
def tw11465673819613544603:=Nat
def tw3033692541517466163:=Nat
def tw15565996779889378015:=Nat
def tw12435515272740555284:=Nat
def tw7040478923839420461:=Nat
def tw4379463556398066054:=Nat
def tw1531235110885358399:=Nat
def tw1233017946550209552:=Nat
def tw13205235444166438724:=Nat
def tw15981070052786547375:=Nat
def tw7784453090347943445:=Nat
def tw5810043569209464441:=Nat
def tw4685260786325319045:=Nat
def tw10650365952803766401:=Nat
def tw5053135612756482766:=Nat
def tw3009693577651601000:=Nat
def tw15738686222861250443:=Nat
def tw9561147623975645076:=Nat
def tw14755372856476322200:=Nat
def tw18309942552751054798:=Nat
def tw12700382857336538423:=Nat
def tw5228898856987084875:=Nat
def tw3243927586979516753:=Nat
def tw12904133150532625727:=Nat
def tw9787649055895111282:=Nat
def tw13222123774694676779:=Nat
def tw9704764974556552035:=Nat
def tw8976501318616519096:=Nat
def tw17211586201001784350:=Nat
def tw16323292213510069890:=Nat
def tw15541765261442452126:=Nat
end PySem.W.Fast
set_option maxRecDepth 100000 in
set_option maxHeartbeats 0 in
theorem PySem.Challenge.cw_shardask_k72_no_words_holds : PySem.Challenge.rw_shardask_k72_no_words.Holds := by
 w_on;o_law;k_head;(case hw=>w_witness2)
 k_fill
 refine L2.aXi (l:=PySem.Challenge.rw_shardask_k72_no_words) (n:=63) (k:=74) (x:="_law_script") (CX:=L2.CX0) (sp:=My.aJr) rfl (by decide) rfl ⟨rfl,by decide,by decide⟩ (fun w h Y=>PySem.W.kIn_of Y) ?F (fun K H a ns hl hO hS=>My.aTn hl hS) (fun _ _ _ _ z=>z)
 case F=>
  intro w mg fa h KX G hmg
  have T:My.Txt w (L2.KOf KX) mg:=by
   dsimp only [L2.KOf]
   apply My.Txt.mk
   iterate 16 (refine' mg_none_of KX G ?_;k_is)
   (refine' My.bCu KX G ?gq ?gr ?gt ?gy ?gu ?gv ?gs;(case gq=>k_is);(case gr=>k_is);(case gt=>rfl);(case gy=>rfl);(case gu=>rfl);(case gv=>repeat (first|exact L2.iC|refine L2.cI rfl ?_|refine L2.cI ⟨_,rfl⟩ ?_));(case gs=>decide))
   iterate 2 (refine' My.aV7 KX G ?gq ?gr;(case gq=>k_is);(case gr=>exact ⟨_,rfl⟩))
   iterate 3 (refine' My.bCu KX G ?gq ?gr ?gt ?gy ?gu ?gv ?gs;(case gq=>k_is);(case gr=>k_is);(case gt=>rfl);(case gy=>rfl);(case gu=>rfl);(case gv=>repeat (first|exact L2.iC|refine L2.cI rfl ?_|refine L2.cI ⟨_,rfl⟩ ?_));(case gs=>decide))
   iterate 7 (refine' My.aV7 KX G ?gq ?gr;(case gq=>k_is);(case gr=>exact ⟨_,rfl⟩))
   (refine' My.bHr KX G ?ea0 ?ea1 ?ea2 ?ea3 ?ea4 ?ea5 ?ea6 ?ea7 ?ea8 ?eq ?er ?ex ?eo ?eu ?ehh ?er0 ?et0 ?ey0 ?eu0 ?ev0 ?er1 ?et1 ?ey1 ?eu1 ?ev1 ?er2 ?et2 ?ey2 ?eu2 ?ev2 ?er3 ?et3 ?ey3 ?eu3 ?ev3 ?er4 ?et4 ?ey4 ?eu4 ?ev4 ?er5 ?et5 ?ey5 ?eu5 ?ev5 ?er6 ?et6 ?ey6 ?eu6 ?ev6;(case ea0=>k_is);(case ea1=>k_is);(case ea2=>k_is);(case ea3=>k_is);(case ea4=>k_is);(case ea5=>k_is);(case ea6=>k_is);(case ea7=>k_is);(case ea8=>k_is);(case eq=>k_is);(case er=>k_is);(case ex=>exact ⟨rfl,rfl,rfl⟩);(case eo=>first|rfl|decide +kernel);(case eu=>rfl);(case ehh=>intro P;repeat (first|exact L2.PH.nil|refine L2.PH.cons rfl rfl rfl ?_));(case er0=>k_is);(case et0=>rfl);(case ey0=>rfl);(case eu0=>rfl);(case ev0=>repeat (first|exact L2.iC|refine L2.cI rfl ?_|refine L2.cI ⟨_,rfl⟩ ?_));(case er1=>k_is);(case et1=>rfl);(case ey1=>rfl);(case eu1=>rfl);(case ev1=>repeat (first|exact L2.iC|refine L2.cI rfl ?_|refine L2.cI ⟨_,rfl⟩ ?_));(case er2=>k_is);(case et2=>rfl);(case ey2=>rfl);(case eu2=>rfl);(case ev2=>repeat (first|exact L2.iC|refine L2.cI rfl ?_|refine L2.cI ⟨_,rfl⟩ ?_));(case er3=>k_is);(case et3=>rfl);(case ey3=>rfl);(case eu3=>rfl);(case ev3=>repeat (first|exact L2.iC|refine L2.cI rfl ?_|refine L2.cI ⟨_,rfl⟩ ?_));(case er4=>k_is);(case et4=>rfl);(case ey4=>rfl);(case eu4=>rfl);(case ev4=>repeat (first|exact L2.iC|refine L2.cI rfl ?_|refine L2.cI ⟨_,rfl⟩ ?_));(case er5=>k_is);(case et5=>rfl);(case ey5=>rfl);(case eu5=>rfl);(case ev5=>repeat (first|exact L2.iC|refine L2.cI rfl ?_|refine L2.cI ⟨_,rfl⟩ ?_));(case er6=>k_is);(case et6=>rfl);(case ey6=>rfl);(case eu6=>rfl);(case ev6=>repeat (first|exact L2.iC|refine L2.cI rfl ?_|refine L2.cI ⟨_,rfl⟩ ?_)))
   iterate 2 (refine' My.aV7 KX G ?gq ?gr;(case gq=>k_is);(case gr=>exact ⟨_,rfl⟩))
   iterate 63 (refine' My.bGj KX G (My.FA.mk ?fj ?fl ?fc ?fk) ?fb;(case fj=>k_is);(case fl=>k_is);(case fc=>k_is);(case fk=>k_is);(case fb=>first|exact fun _ _ _ _ _ _=>My.ln1 fun _=>rfl|exact fun _ _ _ _ _ _=>My.ln2 fun _ _=>rfl|exact fun _ _ _ _ _ _=>My.ln3 fun _ _ _=>rfl|exact fun _ _ _ _ _ _=>My.ln4 fun _ _ _ _=>rfl|exact fun _ _ _ _ _ _=>My.ln5 fun _ _ _ _ _=>rfl|exact fun _ _ _ _ _ _=>My.ln6 fun _ _ _ _ _ _=>rfl|exact fun _ _ _ _ _ _=>My.ln0 rfl))
   (refine' My.bHi KX G (My.CA.mk ?cj ?c1 ?c2 ?c3 ?c4 ?c5 ?c6) ?cr;(case cj=>k_is);(case c1=>first|k_is|kernel_rfl|decide +kernel);(case c2=>first|k_is|kernel_rfl|decide +kernel);(case c3=>first|k_is|kernel_rfl|decide +kernel);(case c4=>first|k_is|kernel_rfl|decide +kernel);(case c5=>first|k_is|kernel_rfl|decide +kernel);(case c6=>first|k_is|kernel_rfl|decide +kernel);(case cr=>(repeat (refine' ⟨My.bHx (My.MA.mk ?mj ?mi ?ml ?mc ?mk) ?mb,?_⟩;(case mj=>k_is);(case mi=>first|k_is|kernel_rfl|decide +kernel);(case ml=>k_is);(case mc=>k_is);(case mk=>k_is);(case mb=>first|exact fun _ _ _ _ _ _=>My.ln1 fun _=>rfl|exact fun _ _ _ _ _ _=>My.ln2 fun _ _=>rfl|exact fun _ _ _ _ _ _=>My.ln3 fun _ _ _=>rfl|exact fun _ _ _ _ _ _=>My.ln4 fun _ _ _ _=>rfl|exact fun _ _ _ _ _ _=>My.ln5 fun _ _ _ _ _=>rfl|exact fun _ _ _ _ _ _=>My.ln6 fun _ _ _ _ _ _=>rfl|exact fun _ _ _ _ _ _=>My.ln0 rfl)));unfold L2.iQ;(repeat (refine' ⟨?ma,?_⟩;(case ma=>k_is)));k_is))
   (refine' My.bHj KX G ?xs ?xc0 ?xc1 ?xb ?xm;(case xs=>k_is);(case xc0=>refine' My.X1.mk ?zy0 ?zy1 ?zr0 ?zr1 ?zr2 ?zr3 ?zy2 ?zr4 ?zy3 ?zy4 ?zy5 ?zy6 ?zy7 ?zy8 ?zy9 ?zy10 ?zy11 ?zy12 ?zy13 ?zy14;(case zy0=>k_is);(case zy1=>k_is);(case zr0=>first|rfl|decide +kernel);(case zr1=>first|rfl|decide +kernel);(case zr2=>first|rfl|decide +kernel);(case zr3=>first|rfl|decide +kernel);(case zy2=>k_is);(case zr4=>first|rfl|decide +kernel);(case zy3=>k_is);(case zy4=>k_is);(case zy5=>k_is);(case zy6=>k_is);(case zy7=>k_is);(case zy8=>k_is);(case zy9=>k_is);(case zy10=>k_is);(case zy11=>k_is);(case zy12=>k_is);(case zy13=>k_is);(case zy14=>k_is));(case xc1=>refine' My.X1.mk ?zy0 ?zy1 ?zr0 ?zr1 ?zr2 ?zr3 ?zy2 ?zr4 ?zy3 ?zy4 ?zy5 ?zy6 ?zy7 ?zy8 ?zy9 ?zy10 ?zy11 ?zy12 ?zy13 ?zy14;(case zy0=>k_is);(case zy1=>k_is);(case zr0=>first|rfl|decide +kernel);(case zr1=>first|rfl|decide +kernel);(case zr2=>first|rfl|decide +kernel);(case zr3=>first|rfl|decide +kernel);(case zy2=>k_is);(case zr4=>first|rfl|decide +kernel);(case zy3=>k_is);(case zy4=>k_is);(case zy5=>k_is);(case zy6=>k_is);(case zy7=>k_is);(case zy8=>k_is);(case zy9=>k_is);(case zy10=>k_is);(case zy11=>k_is);(case zy12=>k_is);(case zy13=>k_is);(case zy14=>k_is));(case xb=>refine' My.X0.mk ?zy0 ?zy1 ?zy2 ?zy3 ?zy4 ?zy5;(case zy0=>k_is);(case zy1=>k_is);(case zy2=>k_is);(case zy3=>k_is);(case zy4=>k_is);(case zy5=>k_is));(case xm=>refine' My.XM.mk ?zy0_0 ?zy0_1 ?zy1_0 ?zy1_1;(case zy0_0=>k_is);(case zy0_1=>k_is);(case zy1_0=>k_is);(case zy1_1=>k_is)))
   (refine' My.bH2 KX G ?pq ?pe;(case pq=>k_is);(case pe=>rfl))
   (refine' My.bH3 KX G ?pq ?pe;(case pq=>k_is);(case pe=>decide))
  exact My.bEo (P:=PySem.Challenge.rw_shardask_k72_no_words.prog) T hmg
