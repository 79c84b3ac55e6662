import PyProof.Rows.All
import Wide.All
import OpenK.AllK
import Wide.FinOn
import Lean
import PyProof.EqAt
import PyProof.EqKinds
import PyProof.TupleCall
import PyProof.CallType
import PyProof.WalkLemmas
import PyProof.StrOps
import PyProof.ForAny
import PyProof.IsInstanceH
import PyProof.IsiFacts
import PyProof.IsiFacts2
import PyProof.FactsAll.object
import PyProof.ListMulRoad
import PyProof.FactsAll.tuple_2
import PyProof.StrLawsIdx
import KE.KDictList
import PyProof.Rows.Range3
import PyProof.EnumMake
import PyProof.EnumFor
import PyProof.CompUse
import PyProof.ListStr
import PyProof.NeKinds
import PyProof.IsInstanceT
import PyProof.FString5
import PyProof.Rows.SeqMore2
import PyProof.IsiPairs
import PyProof.StrCalls3
import KE.KSortTup
import KE.KSortKey
import PyProof.Rows.SortStr
import KE.KLam
import KE.KDictOf
import KE.KEqDict
import KE.KDictSum
import PyProof.AttrMissHeap
import PyProof.DictWalks
import PyProof.Rows.TupTab
import PyProof.DictItems
import PyProof.RulesTry
import KE.KIntText
import KE.KxText
import PyProof.FactsAll.set_1
import PyProof.Cells
import PySem.Challenge.RW_shardask_k30_senses_by_rules
set_option Elab.async false
set_option linter.all false
set_option compiler.extract_closed false
set_option bootstrap.genMatcherCode false
set_option genSizeOf false
set_option genSizeOfSpec false
set_option maxRecDepth 100000
set_option maxHeartbeats 6400000
local macro_rules|`(tactic|trivial)=>`(tactic|(intro a b c d h;first|(cases h;subst_vars;rfl)|(repeat (first|(obtain ⟨e,_⟩:=h;subst e;rfl)|(obtain ⟨_,h⟩:=h)|fail))))
abbrev n6:List PySem.Str:=["thing"]
abbrev n7:List PySem.Str:=["_law_state","_law_many"]
abbrev n8:List PySem.Str:=["thing","least","most","is_part"]
abbrev o4:List PySem.Str:=["_law_state","_law_done","_law_a","_law_names_here"]
abbrev o5:List PySem.Str:=["_law_state","_law_done","_law_tables","_law_names_here","_law_houses"]
abbrev o6:List PySem.Str:=["_law_state","_law_head"]
abbrev o7:List PySem.Str:=["thing","texts"]
abbrev o8:List PySem.Str:=["head","name"]
abbrev o9:List PySem.Str:=["_law_one","_law_two","_law_pairs_here"]
abbrev q7:List PySem.Str:=["heads","question"]
abbrev u5:List PySem.Str:=["_law_spread","_law_names_here"]
abbrev u9:List PySem.Str:=["_law_state","_law_done","_law_a","_law_houses"]
abbrev v4:List PySem.Str:=["head","names"]
abbrev v5:List PySem.Str:=["thing","houses"]
abbrev v6:List PySem.Str:=["_law_script"]
abbrev w7:List PySem.Str:=["_law_state","_law_names_here","_law_most"]
abbrev z7:List PySem.Str:=["_law_state","_law_head","_law_names_here"]
abbrev bQA:List PySem.Str:=["_law_state","_law_done","_law_a","_law_b"]
abbrev bQB:List PySem.Str:=["houses","tables"]
abbrev bQC:List PySem.Str:=["_law_question"]
abbrev bQD:List PySem.Str:=["question"]
abbrev bQE:List PySem.Str:=["head","thing"]
abbrev bQF:List PySem.Str:=["_law_state","_law_head","_law_other"]
abbrev bQG:List PySem.Str:=["_law_script","_law_most","_law_acts"]
abbrev bQH:List PySem.Str:=["number","heads","question"]
abbrev bQI:List PySem.Str:=["number","act","question","town"]
abbrev bQJ:List PySem.Str:=["act","inner"]
abbrev bQK:List PySem.Str:=["spread","other","pairs"]
abbrev bQL:List PySem.Str:=["act","question","inner"]
abbrev bQM:List PySem.Str:=["_law_state","_law_kind"]
abbrev bQN:List PySem.Str:=["self","houses","tables"]
abbrev bQO:List PySem.Str:=["act"]
abbrev bQP:List PySem.Str:=["spread","head","names"]
abbrev bQQ:List PySem.Str:=["thing","head","houses"]
abbrev bQR:List PySem.Str:=["_law_head","_law_name"]
abbrev bQS:List PySem.Str:=["_law_found","_law_due"]
abbrev bQT:List PySem.Str:=["number","act","inner","town"]
abbrev bQU:List PySem.Str:=["names"]
abbrev bQV:List PySem.Str:=["thing","many"]
abbrev bQW:List PySem.Str:=["heads","question","inner"]
abbrev bQX:List PySem.Str:=["kinds","others"]
abbrev bQY:List PySem.Str:=["question","spread"]
abbrev bQZ:List PySem.Str:=["question","inner"]
abbrev bXA:List PySem.Str:=["thing","kind","houses"]
abbrev bXB:List PySem.Str:=["thing","kind"]
abbrev bXC:List PySem.Str:=["head","other","pairs"]
abbrev bXD:List PySem.Str:=["head","names","sums"]
abbrev bXE:List PySem.Str:=["thing","number"]
abbrev bXF:List PySem.Str:=["spread","names"]
abbrev bXG:List PySem.Str:=["act","inner","town"]
abbrev bXH:List PySem.Str:=["self"]
abbrev bXI:List PySem.Str:=["placed","name"]
abbrev bXJ:List PySem.Str:=["heads","name"]
abbrev bXK:List PySem.Str:=["head","other"]
abbrev bXL:List PySem.Str:=["head","tests"]
abbrev bXM:List PySem.Str:=["thing","head"]
abbrev bXN:List PySem.Str:=["head","part"]
abbrev bXO:List PySem.Str:=["self","name"]
abbrev bXP:List PySem.Str:=["spread","pairs"]
section
open PySem PySem.Spec PySem.Calls PyProof.Rows
def b7:=@List.getElem?_eq_getElem
def b8:=@wpAny_bind
def c7:=@Heap.get?_push_of_some
def d7:=@List.length_map
def d9:=@wpAny_pure
def j4:=@decide_eq_true
def j5:=@List.getElem?_map
def j6:=@Nat.le_refl
def j7:=@List.size_toArray
def j8:=@List.mem_cons_of_mem
def j9:=@decide_eq_false
def m5:=@Heap.get?_push_size
def p8:=@List.length_cons
def v7:=@List.mem_cons_self
def v8:=@Heap.lt_size
def v9:=@List.mem_of_getElem?
def w6:=@List.length_append
def z9:=@Bool.false_ne_true
def bAA:=@Nat.ne_of_lt
def bAB:=@List.getD_eq_getElem?_getD
def bAC:=@Array.getElem?_eq_getElem
def bAD:=@Array.length_toList
def bAE:=@List.map_cons
def bAF:=@Nat.lt_of_lt_of_le
def bAG:=@List.length_range
def bAH:=@List.not_mem_nil
def bAI:=@Nat.zero_le
def bAJ:=@List.getElem?_eq_none
def bAK:=@List.length_take
def bAL:=@Option.some.inj
def bAM:=@Nat.le_trans
def bAN:=@wpAny_call_entry
def bAO:=@Nat.le_of_ble_eq_true
def bAP:=@wpAny_callSpecial?_slot
def bAQ:=@Int.toNat_natCast
def bAR:=@List.getElem_mem
def bAS:=@List.mem_cons
def bAT:=@PySem.W.mg_of
def bAU:=@Array.getD_eq_getD_getElem?
def bAV:=@List.mem_append_right
def bAW:=@List.map_append
def bAX:=@Bool.and_eq_true
def bAY:=@wpAny_setField_rec
def bAZ:=@wpAny_newObj_type
def bBA:=@List.find?_cons
def bBB:=@List.take_of_length_le
def bBC:=@wpAny_holding
def bBD:=@Around.under_plainId
def bBE:=@List.take_add_one
def bBF:=@List.getElem?_append_right
def bBG:=@List.length_singleton
def bBH:=@List.set_set
def bBI:=@Nat.lt_of_le_of_lt
def bBJ:=@wpAny_mono
def bBK:=@List.length_drop
def bBL:=@wpAny_truthy_bool
def bBM:=@List.ext_getElem?
def bBN:=@List.map_map
def bBO:=@List.length_nil
def bBP:=@codeAny_builtin
def bBQ:=@List.length_zipWith
def bBR:=@List.length_replicate
def bBS:=@Array.getElem?_toList
def bBT:=@Heap.size_push
def bBU:=@List.mem_singleton
def bBV:=@Nat.lt_irrefl
def bBW:=@Nat.le_add_right
def bBX:=@List.getElem?_append_left
def bBY:=@List.getElem?_range
def bBZ:=@List.getElem_of_mem
def bCA:=@wpAny_field
def bCB:=@Nat.lt_succ_of_lt
def bCC:=@List.eq_of_mem_replicate
def bCD:=@wpAny_Call_Name_kw
def bCE:=@Bool.false_eq_true
def bCF:=@List.mem_append_left
def bCG:=@List.mem_of_mem_take
def bCH:=@List.getElem_toArray
def bCI:=@Array.getElem?_eq_none
def bCJ:=@Heap.SameBut.update
def bCK:=@List.mem_map_of_mem
def bCL:=@Bool.eq_iff_iff
def bCM:=@List.append_nil
def bCN:=@PyProof.Rows.slot_tuple_getitem
def bCO:=@Heap.get?_update_self
def bCP:=@List.getElem?_zipWith
def bCQ:=@Calls.spliced_cons
def bCR:=@SeqAt.EqAt.str_str
def bCS:=@List.all_eq_true
def bCT:=@wpAny_typeNameOfWhole_itemiter
def bCU:=@plainId_quiet
def bCV:=@List.eq_nil_of_length_eq_zero
def bCW:=@wpAny_pyIter_list
def bCX:=@List.take_sublist
def bCY:=@List.append_assoc
def bCZ:=@PyProof.Rows.F.plain_set_update_loop
def bDA:=@Nat.ne_of_gt
def bDB:=@PyProof.Rows.callWith_type1
def bDC:=@codeAny_mono
def bDD:=@Option.getD_some
def bDE:=@wpAny_seqItems
def bDF:=@List.map_replicate
def bDG:=@wpAny_passesOwn
def bDH:=@List.nil_append
def bDI:=@Nat.le_add_left
def bDJ:=@Nat.le_of_lt
def bDK:=@wpAny_setState_of
def bDL:=@List.range_eq_range'
def bDM:=@List.filterMap_cons
def bDN:=@Array.toList_append
def bDO:=@wpAny_setEntries_of
def bDP:=@Nat.lt_succ_self
def bDQ:=@List.getElem?_replicate
def bDR:=@List.take_length
def bDS:=@wpAny_isInstance
def bDT:=@wpAny_askSetting
def bDU:=@Heap.get?_update_other
def bDV:=@List.zip_cons_cons
def bDW:=@SeqAt.EqAt.same
def bDX:=@List.nodup_cons
def bDY:=@wpAny_attempt
def bDZ:=@List.nodup_append
def bEA:=@Calls.Name_function_global
def bEB:=@List.nodup_nil
def bEC:=@wpAny_fieldsOf
def bED:=@PyProof.Rows.F.entry_set_update_loop
def bEE:=@List.getElem?_take_of_lt
def bEF:=@wpAny_execs_nil
def bEG:=@List.length_zip
def bEH:=@wpAny_pyIter_tuple
def bEI:=@Int.emod_lt_of_pos
def bEJ:=@Nat.le_succ
def bEK:=@List.getElem?_set_self
def bEL:=@wpAny_typeOf
def bEM:=@Calls.callWith_builtin
def bEN:=@wpAny_setField
def bEO:=@Nat.lt_trans
def bEP:=@Nat.zero_add
def bEQ:=@SeqAt.RcAt.tuples
def bER:=@Heap.get?_push_ne
def bES:=@wpAny_isOneOf_itemiter
def bET:=@wpAny_pyIter_slot
def bEU:=@List.eraseIdxIfInBounds_toArray
def bEV:=@List.getElem?_toArray
def bEW:=@List.take_append_drop
def bEX:=@List.any_eq_true
def bEY:=@List.any_cons
def bEZ:=@List.set_comm
def bFA:=@List.map_take
def bFB:=@List.mem_of_mem_drop
def bFC:=@Array.toArray_toList
def bFD:=@Nat.min_eq_left
def bFE:=@Nat.not_lt_zero
def bFF:=@List.mem_append
def bFG:=@Int.emod_nonneg
def bFH:=@Nat.le_of_eq
def bFI:=@List.map_nil
def bFJ:=@Int.fdiv_eq_ediv_of_nonneg
def bFK:=@Int.fmod_eq_emod_of_nonneg
def bFL:=@wpAny_call
def bFM:=@SeqAt.EqAt.int_int
def bFN:=@Bool.and_false
def bFO:=@wpAny_rule
def bFP:=@wpAny_newTuple
def bFQ:=@SeqAt.RcNeAt.lists
def bFR:=@SeqAt.EqAt.of_refs
def bFS:=@List.length_eraseIdx_of_lt
def bFT:=@List.mem_of_find?_eq_some
def bFU:=@Calls.spliced_nil
def bFV:=@Array.toList_push
def bFW:=@List.drop_sublist
def bFX:=@wpAny_dictEntries
def bFY:=@Nat.lt_of_succ_lt
def bFZ:=@List.all_cons
def bGA:=@wpAny_newList
def bGB:=@List.drop_nil
abbrev bGC:=PySem.W.Frag
abbrev bGD:=Value->Shared->Prop
abbrev bGE:=List (Addr × Obj)
abbrev bGF:=Str->Option Value
end
local macro_rules
  | `(tactic| trivial) => `(tactic| first | exact Or.inl rfl | exact Or.inr rfl | exact Or.inr (Or.inl rfl) | exact Or.inr (Or.inr rfl) | decide +kernel | (constructor <;> first | rfl | decide +kernel) | fail)
local macro_rules
|`(!Txt)=>let i:=Lean.mkIdent;`($(i `Txt) $(i `w) $(i `K) $(i `mg))
|`(!$f:ident $a*)=>let i:=Lean.mkIdent;if f.getId∈[`aIy,`mZ,`Ok,`Held,`OkM,`OkC,`kZ,`Part,`aUg]then`($f $(i `P) $(i `w) $(i `K) $(i `mg) $(i `base) $a*)else Lean.Macro.throwUnsupported
section
def My.xx1 (l:Array Lean.Term):Lean.MacroM (Array Lean.Term):=do
 let a<-`(by decide)
 let b<-`(by simp)
 let c<-`(by rfl)
 let d<-`(by lia)
 let e<-`(rfl)
 let f<-`(?_)
 let g<-`(_)
 let T:=#[#[g],#[g,g],#[e,e],#[g,e],#[e],#[d],#[a],#[c],#[f],#[b]]
 return l.flatMap λx=>match x.raw.isLit? `num with|some z=>if z.toNat?.isNone\/z.length==1&&z.front<'3' then #[x] else z.foldl (λr d=>r++T[d.toNat-48]!) #[]|none=>#[x]
def My.xx2:Nat->Lean.Term->Lean.MacroM (Lean.TSyntax `Lean.Parser.Tactic.rcasesPatLo)
 |0,_=>Lean.Macro.throwUnsupported
 |n+1,x=>match x with
  |`($i:ident)=>`(Lean.Parser.Tactic.rcasesPatLo|$i:ident)
  |`(($a,$b,*))=>do let l<-(#[a]++b.getElems).mapM (My.xx2 n);`(Lean.Parser.Tactic.rcasesPatLo|⟨$l,*⟩)
  |_=>`(Lean.Parser.Tactic.rcasesPatLo|_)
local macro_rules
|`(($a,$b,*))=>do if b.elemsAndSeps.size%2==0 then Lean.Macro.throwUnsupported else let l<-My.xx1 (#[a]++b.getElems);`(⟨$l,*⟩)
local macro_rules
|`((0))=>`((by trivial))
|`((1))=>`((by with_unfolding_all rfl))
|`(($n:num))=>do let l<-My.xx1 #[n];if let#[x]:=l then`(($x))else`(⟨$l,*⟩)
local macro_rules
|`(tactic|exists $b,*)=>do let l<-My.xx1 (b.getElems.push (<-`(?_)));`(tactic|refine ⟨$l,*⟩)
local macro_rules
|`(tactic|have ($a,$b,*):=$e)=>do let l<-(#[a]++b.getElems).mapM (My.xx2 9);`(tactic|obtain ⟨$l,*⟩:=$e)
local macro_rules
|`(!($p))=>`(autoParam $p $(Lean.mkIdent `bK._auto_1))
|`(!($p,$n:num))=>`(autoParam $p $(Lean.mkIdent (#[`bK._auto_1,`iV._auto_1,`aEu._auto_1,`aB1._auto_1,`bDp._auto_1,`bDa._auto_1,`bLd._auto_1][n.getNat]!)))
def aEu (_:True:=by trivial):True:=trivial
def iV (_:True:=by decide):True:=trivial
def aB1 (_:True:=by intro _;rfl):True:=trivial
def bK (_:True:=by rfl):True:=trivial
def bDp (_:True:=by with_unfolding_all rfl):True:=trivial
def bDa (_:True:=by assumption):True:=trivial
def bLd (_:True:=by exact λ_ _=>rfl):True:=trivial
namespace L2
open PySem PySem.Spec PyProof.Rows
abbrev Key:=Sum Int Str
def tZ:Key->Value->Bool
 |.inl k,v=>Value.isInt k v
 |.inr x,v=>Value.isStrOf x v
def bLf (w:World):Key->Int
 |.inl k=>hashInt k
 |.inr x=>hashStr w x
theorem eN:∀{k:Key} {v:Value},tZ k v=true->(∃i t,k=Sum.inl i/\v=Value.int i t)\/(∃x t,k=Sum.inr x/\v=Value.str x t)
 |.inl i,v,h=>by have(t,e):=Value.isInt_shape h;exact .inl (i,t,4,e)
 |.inr x,v,h=>by have(t,e):=Value.isStrOf_shape h;exact .inr (x,t,4,e)
def aHx (i:Int)(t:Tok):tZ (.inl i) (.int i t)=true:=by simp[tZ,Value.isInt]
def aIp (x:Str)(t:Tok):tZ (.inr x) (.str x t)=true:=by simp[tZ,Value.isStrOf]
def bIb (a b:Int):decide ((Sum.inl a:Key)=Sum.inl b)=(a == b):=by
 by_cases e:a=b
 .subst e;simp
 .have h:¬ (Sum.inl a:Key)=Sum.inl b:=λq=>e (Sum.inl.inj q);rw[j9 h];exact (beq_eq_false_iff_ne.mpr e).symm
def bGy (a b:Str):decide ((Sum.inr a:Key)=Sum.inr b)=decide (a=b):=by
 by_cases e:a=b
 .subst e;simp
 .have h:¬ (Sum.inr a:Key)=Sum.inr b:=λq=>e (Sum.inr.inj q);rw[j9 h,j9 e]
def bGz (a:Int)(b:Str):decide ((Sum.inl a:Key)=Sum.inr b)=false:=j9 (λq=>nomatch q)
def bIc (a:Str)(b:Int):decide ((Sum.inr a:Key)=Sum.inl b)=false:=j9 (λq=>nomatch q)
def cO (prog:Program)(w:World):PySem.KeyKind prog w Key where
 is:=tZ
 hash:=bLf w
 inj:=λv a b ha hb=>by
  rcases eN ha with⟨i,t,rfl,rfl⟩|⟨x,t,rfl,rfl⟩
  .rcases eN hb with⟨j,u,rfl,e⟩|⟨y,u,rfl,e⟩
   .injection e with e1 _;rw[e1]
   .exact nomatch e
  .rcases eN hb with⟨j,u,rfl,e⟩|⟨y,u,rfl,e⟩
   .exact nomatch e
   .injection e with e1 _;rw[e1]
 byValue:=λk v h=>by rcases eN h with⟨i,t,rfl,rfl⟩|⟨x,t,rfl,rfl⟩ <;> rfl
 pyHash:=λhv h=>by
  rcases eN hv with⟨i,t,rfl,rfl⟩|⟨x,t,rfl,rfl⟩
  .exact wpAny_pyHash_int h
  .exact wpAny_pyHash_str h
 eqBool:=λhu hv h=>by
  rcases eN hu with⟨i,t,rfl,rfl⟩|⟨x,t,rfl,rfl⟩
  .rcases eN hv with⟨j,u,rfl,rfl⟩|⟨y,u,rfl,rfl⟩
   .rw[bIb] at h;exact wpAny_eqBool_int h
   .rw[bGz] at h;exact SeqAt.EqAt.int_str i t y u _ _ _ _ h
  .rcases eN hv with⟨j,u,rfl,rfl⟩|⟨y,u,rfl,rfl⟩
   .rw[bIc] at h;exact SeqAt.EqAt.str_int x t j u _ _ _ _ h
   .rw[bGy] at h;exact wpAny_eqBool_str h
 «strs»:=λk x t v h=>by
  rcases eN h with⟨i,u,rfl,e⟩|⟨y,u,rfl,e⟩
  .exact nomatch e
  .injection e with e1 _;subst e1;cases v <;> rfl
def aLr (prog:Program)(w:World)(i:Int)(t:Tok):(cO prog w).is (.inl i) (.int i t)=true:=aHx i t
def aNf (prog:Program)(w:World)(x:Str)(t:Tok):(cO prog w).is (.inr x) (.str x t)=true:=aIp x t
inductive V where
 |non|bl (b:Bool)|int (i:Int)|str (x:Str)|byt (b:Array UInt8)|flt (b:UInt64)|ref (a:Addr)|ty (n:String)
 deriving DecidableEq
def RelV:V->Value->Prop
 |.non,u=>u=Value.none
 |.bl b,u=>u=Value.bool b
 |.int i,u=>∃t,u=Value.int i t
 |.str x,u=>∃t,u=Value.str x t
 |.byt b,u=>∃t,u=Value.bytes b t
 |.flt b,u=>∃t,u=Value.float b t
 |.ref a,u=>u=Value.ref a
 |.ty n,u=>u=Value.type n
abbrev Vals:List V->List Value->Prop:=Paired RelV
def Vals.length (r:Vals xs us):xs.length=us.length:=Paired.length r
theorem Vals.get:∀{xs:List V} {us:List Value} {i:Nat} {x:V},Vals xs us->xs[i]?=some x->∃u,us[i]?=some u/\RelV x u
 |_,_,_,_,.nil,e=>by simp at e
 |_,_,0,_,.cons r _,e=>by simp at e;subst e;exact(3,r)
 |_,_,i+1,x,.cons _ t,e=>by have(u,a,b):=Vals.get t (by simpa using e);exact(u,by simpa using a,b)
theorem Vals.set (r:RelV x u):∀{xs:List V} {us:List Value} (i:Nat),Vals xs us->Vals (xs.set i x) (us.set i u)
 |_,_,_,.nil=>.nil
 |_,_,0,.cons _ t=>.cons r t
 |_,_,i+1,.cons q t=>.cons q (Vals.set r i t)
def Vals.append:∀{xs ys:List V} {us ws:List Value},Vals xs us->Vals ys ws->Vals (xs++ys) (us++ws):=by
 intro xs ys us ws h s
 induction h with
 |nil=>exact s
 |cons r t ih=>exact .cons r ih
theorem Vals.take:∀{xs:List V} {us:List Value} (n:Nat),Vals xs us->Vals (xs.take n) (us.take n)
 |_,_,0,_=>.nil
 |_,_,_+1,.nil=>.nil
 |_,_,n+1,.cons r t=>.cons r (Vals.take n t)
theorem Vals.drop:∀{xs:List V} {us:List Value} (n:Nat),Vals xs us->Vals (xs.drop n) (us.drop n)
 |_,_,0,r=>r
 |_,_,_+1,.nil=>.nil
 |_,_,n+1,.cons _ t=>Vals.drop n t
def uV:Option V->Option Value->Prop
 |some v,some u=>RelV v u
 |none,none=>True
 |_,_=>False
def KV {κ:Type}:List (κ × V)->List (κ × Value)->Prop:=Paired λp q=>p.1=q.1/\RelV p.2 q.2
def kV:Key->V
 |.inl i=>.int i
 |.inr x=>.str x
inductive HO where
  |lst (xs:List V)
  |tup (xs:List V)
  |dK (kvs:List (Key × V))|dT (kvs:List (List Key × V))
  |set (S:Int->Bool) (n:Nat)
  |ins (C dx:Addr) (fs:List (Str × V))
  |own (x:Addr)
  |xd (fs:List (Str × V))
  |met (f x:Addr)
  |rng (lo hi:Int)
  |frz (o:Obj) (u:HO)
  |tbl (ps:Array Value)
  |tab (q:Str)
  |ext (φ:Heap->Prop)
abbrev Hp:=Addr->Option HO
def upd (H:Hp)(a:Addr)(o:HO):Hp:=λb=>if b=a then some o else H b
def aO:upd H a o a=some o:=by unfold upd;rw[if_pos rfl]
def bC (h:b≠a):upd H a o b=H b:=by unfold upd;rw[if_neg h]
def bCi:upd (upd H a o) a u=upd H a u:=by funext b;unfold upd;split <;> rfl
def aHg {H:Hp}{a b:Addr}{o u:HO}(h:H a=some o)(h':H b=some u)(d:o≠u):a≠b:=by intro e;subst e;rw[h] at h';exact d (bAL h')
def bV {H:Hp}{a b:Addr}{o:HO}(h:H a=some o)(h':H b=none):a≠b:=by intro e;subst e;rw[h] at h';cases h'
def aAl (h:Heap)(a:Addr)(items:Array Value):Prop:=IsTup h a items/\∀o,h.get? a=some o->o.dict=none
def aAl.of (e:h.get? a=some o)(d:o.dict=none)(x:IsTup h a items):aAl h a items:=(x,λc b=>by rw[e] at b;cases b;exact d)
def aAl.new (h:Heap)(items:Array Value):aAl (h.push { cls:=.type "tuple",data:=.seq items }) h.objs.size items:=.of (m5 _ rfl) rfl (IsTup.new _ _)
def aAl.keep {h h':Heap}{a:Addr}{items:Array Value}(x:aAl h a items)(k:∀o,h.get? a=some o->h'.get? a=some o):aAl h' a items:=by have((o,e,c),d):=x;exact .of (k o e) (d o e) (o,k o e,c)
section
variable (P:Program)(w:World)
def gK (H:Hp)(h:Heap)(a:Addr):HO->Prop
 |.lst xs=>xs.length<=sizeLine/\∃its n,Vals xs its/\h.get? a=some { cls:=.type "list",data:=.seq its.toArray n }
 |.tup xs=>xs.length<=sizeLine/\∃its:List Value,Vals xs its/\aAl h a its.toArray
 |.dK kvs=>kvs.length<=sizeLine/\(a == sysModules)=false/\∃vs,KV kvs vs/\h.DictOf (cO P w) a vs
 |.dT kvs=>kvs.length<=sizeLine/\(a == sysModules)=false/\∃xs:List (List Key × Addr × Value),
   Paired (λp q=>p.1=q.1/\H q.2.1=some (.tup (p.1.map kV))/\RelV p.2 q.2.2) kvs xs /\
   ∃o es ep,h.get? a=some o/\o.ExactDict/\o.data=.dict es ep/\es.toList=xs.map (entryOfKey (tupleKind (cO P w)))/\(xs.map (·.1)).Nodup
 |.set S n=>h.SetOf (intKind P w) a S n
 |.ins C dx fs=>H dx=some (.own a)/\fs.length<=1000/\dx≠a/\h.get? a=some (PySem.W.instObj C dx) /\
   ∃mA,h.Ns1 dx mA/\(∀f,uV (fs.lookup f) (mA f))/\PySem.Within mA (fs.map (·.1))
 |.own _=>∃o,h.get? a=some o
 |.xd fs=>∃mA,h.Ns1 a mA/\∀f,uV (fs.lookup f) (mA f)
 |.rng lo hi=>∃t u v,h.get? a=some { cls:=.type "range",data:=.fields #[.int lo t,.int hi u,.int 1 v] }
 |.frz o u=>h.get? a=some o/\gK H h a u
 |.tbl ps=>h.get? a=some { cls:=.none,data:=.fields ps }
 |.tab q=>∃ps:Array Value,h.get? a=some { cls:=.none,data:=.fields ps }/\TriplesOk ps.toList/\∀pos cv,codeAmong pos ps.toList=some cv->∃c oc vs t,cv=.ref c/\H c=some (.own a)/\h.get? c=some oc/\oc.data=.fields vs/\vs[1]?=some (.str q t)
 |.met f x=>h.get? a=some (PySem.W.methodObj (.ref f) (.ref x))
 |.ext φ=>φ h/\(∃o,h.get? a=some o)/\∀h1 h2:Heap,φ h1->(∀o,h1.get? a=some o->h2.get? a=some o)->φ h2
def HOk (H:Hp)(h:Heap):Prop:=∀a o,H a=some o->gK P w H h a o
end
def gK.lt (x:gK P w H h a o):a<h.objs.size:=by
 cases o with
 |lst xs=>have(_,_,_,_,e):=x;exact v8 e
 |tup xs=>have(_,_,_,p):=x;exact p.1.lt
 |dK kvs=>have(_,_,_,_,o,_,_,e,_):=x;exact v8 e
 |dT kvs=>have(_,_,_,_,o,_,_,e,_):=x;exact v8 e
 |set S n=>have(o,_,_,_,e,_):=x;exact v8 e
 |ins C dx fs=>have(_,_,_,e,_):=x;exact v8 e
 |own y=>have(_,e):=x;exact v8 e
 |xd fs=>have(_,(_,_,_,e,_),_):=x;exact v8 e
 |rng lo hi=>have(_,_,_,e):=x;exact v8 e
 |frz ob u=>have(e,_):=x;exact v8 e
 |tbl ps=>exact v8 (show h.get? a=some _ from x)
 |tab q=>have(_,e,_):=x;exact v8 e
 |met f y=>exact v8 (show h.get? a=some _ from x)
 |ext φ=>have(_,(_,e),_):=x;exact v8 e
def Paired.bKs {α β:Type}{F G:α->β->Prop}:∀{l₁:List α} {l₂:List β},Paired F l₁ l₂->(∀a b,F a b->G a b)->Paired G l₁ l₂:=by
 intro l₁ l₂ h f
 induction h with
 |nil=>exact .nil
 |cons r t ih=>exact .cons (f _ _ r) ih
def gK.stay (x:gK P w H h a o)(k:∀b u,(b=a\/H b=some (.own a))->h.get? b=some u->h'.get? b=some u)
  (F:∀b,H b=some (.own a)->H' b=some (.own a)) (K:∀b xs,H b=some (.tup xs)->H' b=some (.tup xs)):gK P w H' h' a o:=by
 induction o with
 |lst xs=>have(z,l,n,r,e):=x;exact(z,l,n,r,k _ _ (.inl rfl) e)
 |tup xs=>have(z,l,r,p):=x;exact(z,l,r,p.keep λo e=>k _ _ (.inl rfl) e)
 |dK kvs=>have(z,y,A,r,j,i,g,e,c):=x;exact(z,y,A,r,j,i,g,k _ _ (.inl rfl) e,c)
 |dT kvs=>have(z,y,xs,r,j,i,g,e,c):=x;exact(z,y,xs,Paired.bKs r λp q z=>(z.1,K _ _ z.2.1,z.2.2),j,i,g,k _ _ (.inl rfl) e,c)
 |set S n=>have(j,i,g,t,e,c):=x;exact(j,i,g,t,k _ _ (.inl rfl) e,c)
 |ins C dx fs=>have(d,z,I,e,s,(B,i,g,J,c),r):=x;exact(F _ d,z,I,k _ _ (.inl rfl) e,s,(B,i,g,k _ _ (.inr d) J,c),r)
 |own y=>have(j,e):=x;exact(j,k _ _ (.inl rfl) e)
 |xd fs=>have(s,(B,i,g,e,c),r):=x;exact(s,(B,i,g,k _ _ (.inl rfl) e,c),r)
 |rng lo hi=>have(t,u,v,e):=x;exact(t,u,v,k _ _ (.inl rfl) e)
 |frz j u ih=>have(e,q):=x;exact(k _ _ (.inl rfl) e,ih q)
 |tab q=>have(m,e,t,c):=x;exact(m,k _ _ (.inl rfl) e,t,λD G q=>let (c',oc,A,tk,a1,a2,a3,a4):=c D G q;(c',oc,A,tk,a1,F _ a2,k _ _ (.inr a2) a3,a4))
 |tbl m=>have e:h.get? a=some { cls:=.none,data:=.fields m }:=x;show h'.get? a=some { cls:=.none,data:=.fields m };exact k a _ (.inl rfl) e
 |met f y=>have e:h.get? a=some (PySem.W.methodObj (.ref f) (.ref y)):=x;show h'.get? a=some (PySem.W.methodObj (.ref f) (.ref y));exact k a _ (.inl rfl) e
 |ext φ=>have(p,(o,e),E):=x;exact(E _ _ p λo q=>k _ _ (.inl rfl) q,(o,k _ _ (.inl rfl) e),E)
def HOk.lt (x:HOk P w H h)(e:H a=some o):a<h.objs.size:=(x a o e).lt
def HOk.fresh (x:HOk P w H h)(e:h.objs.size<=a):H a=none:=by
 cases q:H a with
 |none=>rfl
 |some u=>exact absurd (bAF (x.lt q) e) (bBV _)
def HOk.kept (x:HOk P w H h)(k:∀b u,h.get? b=some u->h'.get? b=some u):HOk P w H h':=λa o e=>
 (x a o e).stay (λb u _ q=>k b u q) (λ_ q=>q) λ_ _ q=>q
def HOk.laid (x:HOk P w H h)(k:∀b u,h.get? b=some u->h'.get? b=some u)(i:h.objs.size<=a)(g:gK P w (upd H a o) h' a o):HOk P w (upd H a o) h':=λb u e=>by
 have f:=x.fresh i;by_cases d:b=a
 .subst d;rw[aO] at e;cases e;exact g
 .rw[bC d] at e;exact (x b u e).stay (λc v _ q=>k c v q) (λc q=>by rw[bC (bV q f)];exact q) λc j q=>by rw[bC (bV q f)];exact q
def Rd (H:Hp)(a:Addr)(u:HO):Prop:=H a=some u\/∃o,H a=some (.frz o u)
def Rd.ok (r:Rd H a u)(x:HOk P w H h):gK P w H h a u:=by
 rcases r with r|⟨o,r⟩
 .exact x a u r
 .have(_,q):=x a _ r;exact q
def Mut:Option HO->Prop
 |some (.lst _)=>True
 |some (.dK _)=>True
 |some (.dT _)=>True
 |some (.set _ _)=>True
 |some (.ins _ _ _)=>True
 |some (.ext _)=>True
 |some (.tab _)=>True
 |_=>False
def HOk.write (s:HOk P w H h)(j:Mut (H x))(p:e=x\/H e=some (.own x))(k:∀b u,b≠e->h.get? b=some u->h'.get? b=some u)(o:∃u,h'.get? e=some u)
  (m:gK P w (upd H x o') h' x o'):HOk P w (upd H x o') h':=λb u q=>by
 have d:∀c y,H c=some (.own y)->c≠x:=λc y r z=>by subst z;rw[r] at j;exact j
 have f:∀c g,H c=some (.tup g)->c≠x:=λc g r z=>by subst z;rw[r] at j;exact j
 by_cases i:b=x
 .subst i;rw[aO] at q;cases q;exact m
 .rw[bC i] at q;by_cases a:b=e
  .have l:H b=some (.own x):=by
    rcases p with z|z
    .exact absurd (a.trans z) i
    .rw[a];exact z
   rw[q] at l;cases l;have(v,n):=o;exact(v,by rw[a];exact n)
  .refine (s b u q).stay (λc v hc r=>k c v ?_ r) (λc r=>by rw[bC (d c b r)];exact r) λc g r=>by rw[bC (f c g r)];exact r
   rcases hc with rfl|hc
   .exact a
   .rintro rfl;rcases p with z|z
    .exact d c b hc z
    .rw[hc] at z;cases z;exact i rfl
structure Un (fs ex:List Addr)(H H':Hp)(h h':Heap):Prop where
 keep:∀b o,h.get? b=some o->H b=none->b∉fs->b∉ex->h'.get? b=some o
 slot:∀b o,h.get? b=some o->H b=none->b∈fs->b∉ex->∃sl,h'.get? b=some { o with slots:=sl }
 free:∀b o,h.get? b=some o->H b=none->b∉ex->H' b=none
 there:∀b o,h.get? b=some o->b∉ex->∃o',h'.get? b=some o'
 tups:∀b xs,H b=some (.tup xs)->H' b=some (.tup xs)
 frzs:∀b o u,H b=some (.frz o u)->H' b=some (.frz o u)
 tbls:∀b ps,H b=some (.tbl ps)->∃more,H' b=some (.tbl (ps++more))
def Un.any (u:Un fs ex H H1 h h1)(q:h.get? b=some ob)(n:H b=none)(c:b∉ex):∃sl,h1.get? b=some { ob with slots:=sl }:=by
 by_cases a:b∈fs
 .exact u.slot b ob q n a c
 .exact(ob.slots,u.keep b ob q n a c)
def Un.kept (k:∀b u,h.get? b=some u->h'.get? b=some u):Un fs ex H H h h':=
 (λb a q _ _ _=>k b a q,λb a q _ _ _=>(a.slots,k b a q),λ_ _ _ n _=>n,λb a q _=>(a,k b a q),λ_ _ q=>q,λ_ _ _ q=>q,λ_ c q=>(#[],by rw[q];simp))
def Un.refl:Un fs ex H H h h:=Un.kept λ_ _ q=>q
def Un.laid (k:∀b u,h.get? b=some u->h'.get? b=some u)(e:h.objs.size<=a)(hn:H a=none):Un fs ex H (upd H a o) h h' where
 keep:=λb u q _ _ _=>k b u q
 slot:=λb u q _ _ _=>(u.slots,k b u q)
 free:=λb u q n _=>by rw[bC (bAA (bAF (v8 q) e))];exact n
 there:=λb u q _=>(u,k b u q)
 tups:=λb c q=>by rw[bC (bV q hn)];exact q
 frzs:=λb u c q=>by rw[bC (bV q hn)];exact q
 tbls:=λb d q=>(#[],by rw[bC (bV q hn),q];simp)
def Un.write (d:Mut (H x))(p:e=x\/H e=some (.own x))(k:∀b u,b≠e->h.get? b=some u->h'.get? b=some u)(l:∃u,h'.get? e=some u):Un fs ex H (upd H x o) h h':=by
 have g:∀b,H b=none->b≠x:=λb n z=>by subst z;rw[n] at d;exact d
 have f:∀b,H b=none->b≠e:=λb n z=>by
  subst z;rcases p with r|r
  .exact g b n r
  .rw[n] at r;cases r
 have c:∀b u,H b=some u->¬ Mut (some u)->b≠x:=λb u q i z=>by subst z;rw[q] at d;exact i d
 refine(λb u q n _ _=>k b u (f b n) q,λb u q n _ _=>(u.slots,k b u (f b n) q),λb u q n _=>by rw[bC (g b n)];exact n,λb u q _=>?_,
  λb j q=>by rw[bC (c b _ q λz=>z)];exact q,λb u j q=>by rw[bC (c b _ q λz=>z)];exact q,λb m q=>(#[],by rw[bC (c b _ q λz=>z),q];simp))
 by_cases a:b=e
 .subst a;exact l
 .exact(u,k b u a q)
def trk (h:Heap)(H:Hp):List Addr:=(List.range h.objs.size).filter λa=>(H a).isSome
def aFr (h:Heap)(H:Hp):Heap:=PySem.W.hideAll h (trk h H)
def aW6 (h:Heap)(H:Hp):(aFr h H).objs.size=h.objs.size:=PySem.W.hideAll_size _ _
def bAa (e:h.get? b=some o)(n:H b=none):(aFr h H).get? b=some o:=
 PySem.W.hideAll_get _ e λa=>by have q:=(List.mem_filter.mp a).2;rw[n] at q;simp at q
def bCo (e:(aFr h H).get? b=some o):h.get? b=some o/\H b=none:=by
 have a:=PySem.W.of_hideAll (trk h H) e;exists a;cases q:H b with
 |none=>rfl
 |some x=>have c:b∈trk h H:=List.mem_filter.mpr (List.mem_range.mpr (v8 a),by simp[q]);have z:(aFr h H).get? b=none:=PySem.W.hideAll_none (trk h H) c;rw[z] at e;cases e
structure Mod (K:bGC)(mg:bGF)(base:Heap):Prop where
 kin:K.In base
 glob:base.Ns mainGlobals mg
 blt:∃mb,base.Ns builtinsNs mb/\∀x:Str,x≠"__name__"->mb x=bootBuiltins x
 nolimit:base.NoLimit
structure Cx where
 prog:Program
 w:World
 K:bGC
 mg:bGF
 base:Heap
 A:Around
 N:List Str
 s₀:Shared
 H₀:Hp
 env:Env
 outer:List Env
 stack:List Env
 ex:List Addr
 fn:Str->Bool
 calm:Bool
 pn:bGE
 xe:bGD
def frs (l:List Env):List Addr:=l.filterMap (·.frame)
abbrev Cx.fs (X:Cx):List Addr:=frs X.outer
def Vis (sc:Scope)(x:Str):Prop:=sc.names.lookup x=some .local\/sc.names.lookup x=some .cell\/sc.names.lookup x=some .free
def Loc (sc:Scope)(x:Str):Prop:=sc.names.lookup x=some .local\/sc.names.lookup x=some .cell
def Look (env:Env)(h:Heap)(m:bGF)(x:Str)(u:Value):Prop:=
 (env.kindOf x=some .local/\m x=some u)\/((env.kindOf x=some .cell\/env.kindOf x=some .free)/\∃c,env.cells.lookup x=some c/\h.IsCell c (some u))
structure Cx.Ok (X:Cx):Prop where
 mod:Mod X.K X.mg X.base
 kind:X.env.scope.kind=.function
 glob:X.env.globals=mainGlobals
 blt:X.env.builtins=builtinsNs
 above:X.s₀.heap.objs.size<=X.env.locals
 inj:∀x y c,X.env.cells.lookup x=some c->X.env.cells.lookup y=some c->x=y
 has:∀x,(X.env.kindOf x=some .cell\/X.env.kindOf x=some .free)->∃c,X.env.cells.lookup x=some c
 cab:∀x c,X.fn x=true->X.env.cells.lookup x=some c->X.s₀.heap.objs.size<=c
 hd:X.calm=true->X.A.handled=none
 frames:X.A.frames=some X.stack
 stk:X.stack=X.outer\/(X.stack=X.env::X.outer/\X.env.frame=some X.env.locals)
 exf:∀b∈X.ex,b≠X.env.locals/\∀x c,X.env.cells.lookup x=some c->c≠b
 bs:∀b o,X.base.get? b=some o->X.s₀.heap.get? b=some o/\X.H₀ b=none
 bsz:X.base.objs.size<=X.s₀.heap.objs.size
 noex:∀b o,X.base.get? b=some o->b∉X.ex
 exfs:∀b∈X.ex,b∉X.fs
 funs:X.s₀.heap.FunFrames X.base X.outer
 frf:∀b∈X.fs,X.H₀ b=none
structure Inv (X:Cx)(bGG:bGE)(σ:List (Option V))(H:Hp)(s:Shared):Prop where
 ok:X.Ok
 os:s.os=X.s₀.os
 bare:AllBare s.gens
 base:Un X.fs X.ex X.H₀ H X.s₀.heap s.heap
 loc:∃m,s.heap.Ns X.env.locals m/\∀(i:Nat) (x:Str) (v:V),X.N[i]?=some x->σ[i]?=some (some v)->Vis X.env.scope x->∃u,RelV v u/\Look X.env s.heap m x u
 cell:∀x c,X.env.cells.lookup x=some c->∃v,s.heap.IsCell c v
 free:H X.env.locals=none
 freeC:∀x c,X.env.cells.lookup x=some c->H c=none
 pin:∀p∈X.pn++bGG,s.heap.get? p.1=some p.2/\H p.1=none/\p.1≠X.env.locals/\p.1∉X.fs/\∀v,p.2.data≠.cell v
 hok:HOk X.prog X.w H s.heap
 len:σ.length=X.N.length
section
variable {X:Cx}{bGG:bGE}{σ:List (Option V)}{H H':Hp}{s:Shared}{h':Heap}
def Cx.Ok.nofr (c:X.Ok)(e:X.base.get? b=some o):b∉X.fs:=λa=>by have:=(c.funs.mem a).1;rw[e] at this;cases this
def Inv.bs (I:Inv X bGG σ H s):∀b o,X.base.get? b=some o->s.heap.get? b=some o/\H b=none:=λb o e=>
 (I.base.keep b o (I.ok.bs b o e).1 (I.ok.bs b o e).2 (I.ok.nofr e) (I.ok.noex b o e),I.base.free b o (I.ok.bs b o e).1 (I.ok.bs b o e).2 (I.ok.noex b o e))
def Inv.bk (I:Inv X bGG σ H s):∀b o,X.base.get? b=some o->s.heap.get? b=some o:=λb o e=>(I.bs b o e).1
def Inv.mod (I:Inv X bGG σ H s):Mod X.K X.mg X.base:=I.ok.mod
def Inv.kIn (I:Inv X bGG σ H s):X.K.In s.heap:=I.ok.mod.kin.keeps I.bk
def Inv.nolimit (I:Inv X bGG σ H s):s.heap.NoLimit:=I.ok.mod.nolimit.keeps I.bk
def Inv.lt (I:Inv X bGG σ H s):X.env.locals<s.heap.objs.size:=let (_,hn,_):=I.loc;hn.lt
def Inv.sz (I:Inv X bGG σ H s):X.s₀.heap.objs.size<=s.heap.objs.size:=bAM I.ok.above (bDJ I.lt)
def Inv.nofs (I:Inv X bGG σ H s)(h:s.heap.objs.size<=a):a∉X.fs:=λb=>by have(_,o,c,_):=I.ok.funs.mem b;exact absurd (bAF (v8 c) (bAM I.sz h)) (bBV _)
def Inv.cne (I:Inv X bGG σ H s):∀x c,X.env.cells.lookup x=some c->c≠X.env.locals:=λx c e z=>by have(v,o,f,d):=I.cell x c e;have(m,(g,i,h,a,b,_),_):=I.loc;rw[z,a] at f;cases f;rw[b] at d;cases d
def Inv.funs (I:Inv X bGG σ H s):s.heap.FunFrames X.base X.outer:=by
 have a:∀l,(∀b∈frs l,b∈X.fs)->X.s₀.heap.FunFrames X.base l->s.heap.FunFrames X.base l:=by
  intro l
  induction l with
  |nil=>intro _ _;trivial
  |cons env r ih=>intro g m;have(h,(L,o,c,n,i,k),j):=m;have d:=g L (by unfold frs;rw[bDM,c];exact v7);have(p,e):=I.base.slot L o i (I.ok.frf L d) d λz=>I.ok.exfs L z d;exact(h,(L,_,c,n,e,k),ih (λb f=>g b (by unfold frs;rw[bDM,c];exact j8 _ f)) j)
 exact a X.outer (λ_ f=>f) I.ok.funs
def Inv.stack (I:Inv X bGG σ H s):s.heap.FunFrames X.base X.stack:=by
 rcases I.ok.stk with e|⟨e,a⟩
 .rw[e];exact I.funs
 .rw[e];have(m,b,_):=I.loc;refine .cons (by rw[I.ok.kind];decide) a b ?_ I.funs;exact Heap.get?_none_of_le (bAM I.ok.bsz I.ok.above)
def Inv.aKq (I:Inv X bGG σ H s):∀b∈frs X.stack,b∈X.env.locals::X.fs:=λb a=>by
 rcases I.ok.stk with e|⟨e,c⟩
 .rw[e] at a;exact j8 _ a
 .rw[e] at a;unfold frs at a;rw[bDM,c] at a;exact a
def Inv.yG (I:Inv X bGG σ H s):∀b∈frs X.stack,H b=none:=λb hb=>by
 rcases List.mem_cons.mp (I.aKq b hb) with e|hb
 .rw[e];exact I.free
 .have(_,o,a,_):=I.ok.funs.mem hb;exact I.base.free b o a (I.ok.frf b hb) λz=>I.ok.exfs b z hb
def Inv.step {g':Array GenState}{t':Nat}{d':Drawn}{ch:List Addr}(I:Inv X bGG σ H s)
  (t:∀b∈ch,(b∈X.ex\/X.s₀.heap.objs.size<=b)/\b≠X.env.locals/\(∀x c,X.env.cells.lookup x=some c->c≠b)/\∀p∈X.pn++bGG,p.1≠b)
  (A:∀b o,b≠X.env.locals->b∉X.fs->b∉ch->s.heap.get? b=some o->H b=none->h'.get? b=some o)
  (slot:∀b o,b≠X.env.locals->b∈X.fs->b∉ch->s.heap.get? b=some o->H b=none->∃sl,h'.get? b=some { o with slots:=sl }) (g:∀b o,b∉ch->s.heap.get? b=some o->H b=none->H' b=none)
  (F:∀b o,b∉ch->s.heap.get? b=some o->∃o',h'.get? b=some o')
  (M:∀b xs,H b=some (.tup xs)->H' b=some (.tup xs)) (O:∀b o u,H b=some (.frz o u)->H' b=some (.frz o u)) (N:∀b ps,H b=some (.tbl ps)->∃more,H' b=some (.tbl (ps++more)))
  (Z:∀m,s.heap.Ns X.env.locals m->h'.Ns X.env.locals m) (R:HOk X.prog X.w H' h') (Y:AllBare g') :
  Inv X bGG σ H' { s with heap:=h',gens:=g',drawn:=d',toks:=t' }:=by
 have D:∀b o,X.s₀.heap.get? b=some o->b≠X.env.locals:=λb o e=>bAA (bAF (v8 e) I.ok.above);have y:∀b o,X.s₀.heap.get? b=some o->b∉X.ex->b∉ch:=λb o e a B=>by
  rcases (t b B).1 with z|z
  .exact a z
  .exact absurd (bAF (v8 e) z) (bBV _)
 have h:∀x c,X.env.cells.lookup x=some c->∀v,s.heap.IsCell c v->h'.IsCell c v:=by
  rintro x c e v ⟨o,C,G⟩;have f:c∉ch:=λz=>(t c z).2.2.1 x c e rfl;by_cases L:c∈X.fs
  .have(sl,q):=slot c o (I.cne x c e) L f C (I.freeC x c e);exact(_,q,G)
  .exact(o,A c o (I.cne x c e) L f C (I.freeC x c e),G)
 refine(I.ok,I.os,Y,(λb o e n B a=>?_,λb o e n B a=>?_,λb o e n a=>?_,λb o e a=>?_,λb xs e=>M b xs (I.base.tups b xs e),λb o xs e=>O b o xs (I.base.frzs b o xs e),λb ps e=>?_),8,λx c e=>?_,8,λx c e=>?_,λp P=>?_,R,I.len)
 .exact A b o (D b o e) B (y b o e a) (I.base.keep b o e n B a) (I.base.free b o e n a)
 .have(sl,j):=I.base.slot b o e n B a;have(J,E):=slot b _ (D b o e) B (y b o e a) j (I.base.free b o e n a);exact(J,E)
 .have(o',j):=I.base.there b o e a;exact g b o' (y b o e a) j (I.base.free b o e n a)
 .have(o',j):=I.base.there b o e a;exact F b o' (y b o e a) j
 .have(V,j):=I.base.tbls b ps e;have(T,E):=N b _ j;exact(V++T,by rw[E,Array.append_assoc])
 .have(m,W,U):=I.loc;refine(m,Z m W,λi x v j E S=>?_);have(u,r,l):=U i x v j E S;exists u,r;rcases l with l|⟨k,c,e,z⟩
  .exact .inl l
  .exact .inr (k,c,e,h x c e _ z)
 .have(v,z):=I.cell x c e;exact(v,h x c e v z)
 .have(m,(o,_,_,C,_),_):=I.loc;exact g _ o (λz=>(t _ z).2.1 rfl) C I.free
 .have(v,o,C,G):=I.cell x c e;exact g c o (λz=>(t c z).2.2.1 x c e rfl) C (I.freeC x c e)
 .have(e,n,Q,K,d):=I.pin p P;have f:p.1∉ch:=λz=>(t p.1 z).2.2.2 p P rfl;exact(A p.1 p.2 Q K f e n,g p.1 p.2 f e n,Q,K,d)
def Inv.un {t':Nat}(I:Inv X bGG σ H s)(u:Un X.fs [] H H' s.heap h')(i:HOk X.prog X.w H' h'):Inv X bGG σ H' { s with heap:=h',toks:=t' }:=by
 have(m,(o,v,t,g,r),_):=id I.loc;have(q,j):=u.any g I.free (9);exact I.step (g':=s.gens) (d':=s.drawn) (ch:=[]) (λ_ z=>nomatch z) (λb o _ f _ e n=>u.keep b o e n f (9)) (λb o _ f _ e n=>u.slot b o e n f (9)) (λb o _ e n=>u.free b o e n (9)) (λb o _ e=>u.there b o e (9)) u.tups u.frzs u.tbls (λl h=>by have(p,d,c,a,k):=h;rw[g] at a;cases a;exact(_,d,c,j,k)) i I.bare
def Inv.call {g':Array GenState}{t':Nat}{d':Drawn}{ch:List Addr}(I:Inv X bGG σ H s)(u:Un (frs X.stack) ch H H' s.heap h')(l:HOk X.prog X.w H' h')(C:AllBare g')
  (h:∀b∈ch,(b∈X.ex\/X.s₀.heap.objs.size<=b)/\b≠X.env.locals/\(∀x c,X.env.cells.lookup x=some c->c≠b)/\∀p∈X.pn++bGG,p.1≠b) :
  Inv X bGG σ H' { s with heap:=h',gens:=g',drawn:=d',toks:=t' }:=by
 have(m,(o,D,B,j,r),_):=id I.loc;have(A,i):=u.any j I.free λz=>(h _ z).2.1 rfl;exact I.step (ch:=ch) h (λb o i t a e n=>u.keep b o e n (λz=>(List.mem_cons.mp (I.aKq b z)).elim i t) a) (λb o _ _ a e n=>u.any e n a) (λb o a e n=>u.free b o e n a) (λb o a e=>u.there b o e a) u.tups u.frzs u.tbls (λv k=>by have(y,g,f,d,q):=k;rw[j] at d;cases d;exact(_,g,f,i,q)) l C
def Inv.turned {t':Nat}{it:Addr}(I:Inv X bGG σ H s)(k:∀b o,b≠it->s.heap.get? b=some o->h'.get? b=some o)(hn:H it=none)(h:it≠X.env.locals)
  (y:it∈X.ex\/X.s₀.heap.objs.size<=it) (t:∀x c,X.env.cells.lookup x=some c->c≠it) (w:∀p∈X.pn++bGG,p.1≠it):Inv X bGG σ H { s with heap:=h',toks:=t' }:=by
 have d:∀b u,H b=some u->b≠it:=λb u e z=>by rw[z,hn] at e;cases e
 refine I.step (g':=s.gens) (d':=s.drawn) (ch:=[it]) (λb j=>?_) (λb o _ _ a e _=>k b o (λz=>a (by simp[z])) e) (λb o _ _ a e _=>(o.slots,k b o (λz=>a (by simp[z])) e)) (λ_ _ _ _ n=>n)
  (λb o a e=>(o,k b o (λz=>a (by simp[z])) e)) (λ_ _ e=>e) (λ_ _ _ e=>e) (λb A e=>(#[],by rw[e];simp)) (λm f=>?_) (λb u e=>?_) I.bare
 .have e:b=it:=by simpa using j
  subst e;exact(y,h,t,w)
 .have(o,l,i,g,r):=f;exact(o,l,i,k _ o (Ne.symm h) g,r)
 .refine (I.hok b u e).stay (λc v a q=>k c v ?_ q) (λ_ q=>q) λ_ _ q=>q;rcases a with z|z
  .rw[z];exact d b u e
  .exact d c _ z
def Inv.tok (I:Inv X bGG σ H s)(t:Nat):Inv X bGG σ H { s with toks:=t }:=I.un (h':=s.heap) (t':=t) Un.refl I.hok
def Inv.kept (I:Inv X bGG σ H s)(k:∀b u,s.heap.get? b=some u->h'.get? b=some u):Inv X bGG σ H { s with heap:=h',toks:=t' }:=I.un (Un.kept k) (I.hok.kept k)
def Inv.laid (I:Inv X bGG σ H s)(k:∀b u,s.heap.get? b=some u->h'.get? b=some u)(c:s.heap.objs.size<=a)(d:gK X.prog X.w (upd H a o) h' a o) :
  Inv X bGG σ (upd H a o) { s with heap:=h',toks:=t' }:=I.un (Un.laid k c (I.hok.fresh c)) (I.hok.laid k c d)
def Inv.write (I:Inv X bGG σ H s)(f:Mut (H x))(d:e=x\/H e=some (.own x))(k:∀b u,b≠e->s.heap.get? b=some u->h'.get? b=some u)(a:∃u,h'.get? e=some u)
  (c:gK X.prog X.w (upd H x o) h' x o):Inv X bGG σ (upd H x o) { s with heap:=h',toks:=t' }:=I.un (Un.write f d k a) (I.hok.write f d k a c)
def Inv.aUp (I:Inv X bGG σ H s)(h:∀p∈pins',s.heap.get? p.1=some p.2/\H p.1=none/\p.1≠X.env.locals/\p.1∉X.fs/\∀v,p.2.data≠.cell v):Inv X pins' σ H s:=
 (I.ok,I.os,I.bare,I.base,I.loc,I.cell,I.free,I.freeC,λp a=>(List.mem_append.mp a).elim (λz=>I.pin p (bCF _ z)) (h p),I.hok,I.len)
def aOe {N:List Str}(f:N.Nodup){i j:Nat}{x:Str}(a:N[i]?=some x)(b:N[j]?=some x):i=j:=by have(g,c):=List.getElem?_eq_some_iff.mp a;have(e,d):=List.getElem?_eq_some_iff.mp b;exact (List.getElem_inj f).mp (c.trans d.symm)
def aIh (I:Inv X bGG σ H s)(hN:X.N.Nodup)(hi:X.N[i]?=some x)(t:Loc X.env.scope x)(r:RelV v u)
  (h:∀s',Inv X bGG (σ.set i (some v)) H s'->(∃a,Heap.SameBut a s.heap s'.heap/\(a=X.env.locals\/X.env.cells.lookup x=some a))->Q () s') (hf:!(X.fn x=true\/X.env.scope.names.lookup x=some .local,2)):wpAny M A (storeName X.env x u) Q E s:=by
 have(m,hn,hl):=id I.loc;have O:(X.env.scope.kind == .class || (X.env.scope.kind == .module && X.env.locals != X.env.globals))=false:=by rw[I.ok.kind];rfl
 have L:i<σ.length:=by rw[I.len];exact (List.getElem?_eq_some_iff.mp hi).1
 have F:=I.cne;have l:∀{a:Addr} {K:Heap},(∃o,s.heap.get? a=some o/\H a=none)->Heap.SameBut a s.heap K->HOk X.prog X.w H K:=λ{a K} ha f b ob e=>by
  have(_,_,B):=ha;refine (I.hok b ob e).stay (λc V hc q=>(f.2 c ?_).trans q) (λ_ q=>q) λ_ _ q=>q;rintro rfl;rcases hc with rfl|hc
  .rw[B] at e;cases e
  .rw[B] at hc;cases hc
 rcases t with hk|hk
 .refine wpAny_storeName_local hk hn (λK a1 f=>?_) O;have(oL,_,_,a0,_):=id hn;refine h _ (I.ok,I.os,I.bare,(λb o e n G t=>?_,λb o e n G t=>?_,I.base.free,λb o e t=>?_,I.base.tups,I.base.frzs,I.base.tbls),(_,a1,λj y v' g C Y=>?_),λy c e=>?_,I.free,I.freeC,λp hp=>?_,l (oL,a0,I.free) f,by simpa using I.len) (_,f,.inl rfl)
  .exact (f.2 b (bAA (bAF (v8 e) I.ok.above))).trans (I.base.keep b o e n G t)
  .have(sl,g):=I.base.slot b o e n G t;exact(sl,(f.2 b (bAA (bAF (v8 e) I.ok.above))).trans g)
  .have(o',g):=I.base.there b o e t;exact(o',(f.2 b (bAA (bAF (v8 e) I.ok.above))).trans g)
  .by_cases D:j=i
   .subst D;rw[hi] at g;cases g;rw[bEK L] at C;cases C;exact(u,r,.inl (hk,9))
   .rw[List.getElem?_set_ne (Ne.symm D)] at C;have(u',r',q):=hl j y v' g C Y;exists u',r';rcases q with⟨k,e⟩|⟨k,c,e,z⟩
    .refine .inl (k,8);have:y≠x:=λe=>D (aOe hN g (e ▸ hi));simp[this,e]
    .exact .inr (k,c,e,z.sameBut f (F y c e))
  .have(V,z):=I.cell y c e;exact(V,z.sameBut f (F y c e))
  .have(e,n,W,Z,d):=I.pin p hp;exact((f.2 p.1 W).trans e,n,W,Z,d)
 .have J:X.fn x=true:=by
   rcases hf with z|z
   .exact z
   .rw[z] at hk;cases hk
  have(c,hc):=I.ok.has x (.inl hk);have(V,z):=I.cell x c hc;refine wpAny_storeName_cell I.ok.kind hk hc z (λK S f=>?_);have(oc,R,P):=id z;refine h { s with heap:=K } (I.ok,I.os,I.bare,(λb o e n G t=>?_,λb o e n G t=>?_,I.base.free,λb o e t=>?_,I.base.tups,I.base.frzs,I.base.tbls),(m,hn.sameBut f (Ne.symm (F x c hc)),λj y v' g C Y=>?_),λy U e=>?_,I.free,I.freeC,λp hp=>?_,l (oc,R,I.freeC x c hc) f,by simpa using I.len) (c,f,.inr hc)
  .exact (f.2 b (bAA (bAF (v8 e) (I.ok.cab x c J hc)))).trans (I.base.keep b o e n G t)
  .have(sl,g):=I.base.slot b o e n G t;exact(sl,(f.2 b (bAA (bAF (v8 e) (I.ok.cab x c J hc)))).trans g)
  .have(o',g):=I.base.there b o e t;exact(o',(f.2 b (bAA (bAF (v8 e) (I.ok.cab x c J hc)))).trans g)
  .by_cases D:j=i
   .subst D;rw[hi] at g;cases g;rw[bEK L] at C;cases C;exact(u,r,.inr (.inl hk,c,hc,S))
   .rw[List.getElem?_set_ne (Ne.symm D)] at C;have(u',r',q):=hl j y v' g C Y;exists u',r';rcases q with q|⟨k,U,e,z'⟩
    .exact .inl q
    .refine .inr (k,U,e,z'.sameBut f ?_);rintro rfl;exact D (aOe hN g (I.ok.inj _ _ _ e hc ▸ hi))
  .by_cases T:U=c
   .subst T;exact(_,S)
   .have(w2,z2):=I.cell y U e;exact(w2,z2.sameBut f T)
  .have(e,n,W,Z,d):=I.pin p hp;refine((f.2 p.1 ?_).trans e,n,W,Z,d);intro q;rw[q,R] at e;have q':=bAL e;exact d V (by rw[<-q'];exact P)
def aN4 (I:Inv X bGG σ H s)(d:X.N.Nodup)(hi:X.N[i]?=some x)(c:Loc X.env.scope x)(r:RelV v u)
  (h:∀s',Inv X bGG (σ.set i (some v)) H s'->Q () s') (b:!(X.fn x=true\/X.env.scope.names.lookup x=some .local,2)):wpAny M A (storeName X.env x u) Q E s:=
 aIh I d hi c r (λs' a _=>h s' a) b
def Inv.call' (I:Inv X bGG σ H s)(g:s'.os=s.os)(u:Un (frs X.stack) ch H H' s.heap s'.heap)(a:HOk X.prog X.w H' s'.heap)(h:AllBare s'.gens)
  (d:∀b∈ch,(b∈X.ex\/X.s₀.heap.objs.size<=b)/\b≠X.env.locals/\(∀x c,X.env.cells.lookup x=some c->c≠b)/\∀p∈X.pn++bGG,p.1≠b):Inv X bGG σ H' s':=by
 have(i,g',d',t',f):=s';have e:=g;subst e;exact I.call (g':=g') (t':=t') (d':=d') u a h d
end
abbrev XK:=Value->Option Addr->Hp->Prop
abbrev St:=List (Option V)
abbrev VK:=V->Hp->Prop
abbrev TE:=St->Hp->VK->Prop
abbrev TT:=St->Hp->(Bool->Hp->Prop)->Prop
abbrev TA:=St->Hp->(List V->Hp->Prop)->Prop
structure Ends where
 nx:St->Hp->Prop
 rt:VK
 bk:St->Hp->Prop:=λ_ _=>False
 ct:St->Hp->Prop:=λ_ _=>False
abbrev TS:=Ends->St->Hp->Prop
def EP (X:Cx)(bGG:bGE)(σ:St)(Q:VK)(u:Value)(s':Shared):Prop:=∃v H',Inv X bGG σ H' s'/\RelV v u/\Q v H'
def TP (X:Cx)(bGG:bGE)(σ:St)(Q:Bool->Hp->Prop)(b:Bool)(s':Shared):Prop:=∃H',Inv X bGG σ H' s'/\Q b H'
def AP (X:Cx)(bGG:bGE)(σ:St)(Q:List V->Hp->Prop)(us:List Value)(s':Shared):Prop:=∃vs H',Inv X bGG σ H' s'/\Vals vs us/\Q vs H'
def SP (X:Cx)(bGG:bGE)(D:Ends)(f:Flow)(s':Shared):Prop:=
 match f with
 |.next=>∃σ' H',Inv X bGG σ' H' s'/\D.nx σ' H'
 |.brk=>∃σ' H',Inv X bGG σ' H' s'/\D.bk σ' H'
 |.cont=>∃σ' H',Inv X bGG σ' H' s'/\D.ct σ' H'
 |.ret u=>∃v σ' H',Inv X bGG σ' H' s'/\RelV v u/\D.rt v H'
def PE (X:Cx)(e:Expr)(t:TE):Prop:=
 ∀bGG s σ H Q,Inv X bGG σ H s->t σ H Q->wpAny (model X.prog X.w) X.A (eval e X.env) (EP X bGG σ Q) X.xe s
def PT (X:Cx)(e:Expr)(t:TT):Prop:=
 ∀bGG s σ H Q,Inv X bGG σ H s->t σ H Q->wpAny (model X.prog X.w) X.A (isTrue e X.env (eval e X.env)) (TP X bGG σ Q) X.xe s
def PW (X:Cx)(e:Expr)(t:TT):Prop:=
 ∀whole bGG s σ H Q,Inv X bGG σ H s->t σ H Q->wpAny (model X.prog X.w) X.A (isTrue e X.env whole) (TP X bGG σ Q) X.xe s
def PW.pt (h:PW X e t):PT X e t:=h _
def PA (X:Cx)(es:List Expr)(t:TA):Prop:=
 ∀pos bGG s σ H Q,Inv X bGG σ H s->t σ H Q->wpAny (model X.prog X.w) X.A (spliced (backTo pos (starEach es X.env))) (AP X bGG σ Q) X.xe s
def PS (X:Cx)(st:Stmt)(t:TS):Prop:=
 ∀bGG s σ H D,Inv X bGG σ H s->t D σ H->wpAny (model X.prog X.w) X.A (exec st X.env) (SP X bGG D) X.xe s
def PSs (X:Cx)(st:List Stmt)(t:TS):Prop:=
 ∀bGG s σ H D,Inv X bGG σ H s->t D σ H->wpAny (model X.prog X.w) X.A (execs st X.env) (SP X bGG D) X.xe s
def thn {α:Type}{t:Sem α}{Q Q':α->Shared->Prop}{M:Model}{A:Around}{E:bGD}{s:Shared}(h:wpAny M A t Q E s)(b:∀a s,Q a s->Q' a s):wpAny M A t Q' E s:=bBJ h b λ_ _ x=>x
inductive wR (i:Nat)(σ:St)(H:Hp)(Q:VK):Prop
 |mk (v:_)(h0:σ[i]?=some (some v))(h1:Q v H):wR i σ H Q
def tC (v:V):TE:=λ_ H Q=>Q v H
def bHo (n:X.N[i]?=some x)(o:Vis X.env.scope x)(d:!((x == ("__debug__":Str))=false,1))(g:!((x == ("__classdict__":Str))=false,1)):PE X (.Name x pos) (wR i):=by
 intro b s σ H Q I h;have(v,e,h):=h;have(m,k,j):=I.loc;have(u,r,l):=j i x v n e o;have a:EP X b σ Q u s:=(v,H,I,r,h);rcases l with⟨hk,f⟩|⟨hk,c,hc,hcell⟩
 .exact wpAny_Name (wpAny_loadName_local I.ok.kind hk k f a) d
 .rcases hk with hk|hk
  .exact wpAny_Name (wpAny_loadName_cell I.ok.kind hk hc hcell a) d
  .exact wpAny_Name (wpAny_loadName_free I.ok.kind hk hc hcell a g) d
def bF3 {i j pos}:PE X (.Constant (.int i) j pos) (tC (.int i)):=λ_ _ _ H _ I h=>wpAny_Constant_int (.int i,H,I.tok _,(3),h)
def bI5 {b j pos}:PE X (.Constant (.bool b) j pos) (tC (.bl b)):=λ_ _ _ H _ I h=>Constant_bool (.bl b,H,I,4,h)
def bF7 {j pos}:PE X (.Constant .none j pos) (tC .non):=λ_ _ _ H _ I h=>Constant_none (.non,H,I,4,h)
def bGh {x j pos}:PE X (.Constant (.str x) j pos) (tC (.str x)):=λ_ _ _ H _ I h=>Calls.Constant_str (.str x,H,I.tok _,(3),h)
def Gl (X:Cx)(x:Str):Prop:=X.env.kindOf x=some .globalImplicit
def aCg (I:Inv X bGG σ H s)(c:Gl X x)(a:X.mg x=some u)(h:Q u s)
  (b:!((x == ("__debug__":Str))=false,1)):wpAny (model X.prog X.w) X.A (eval (.Name x pos) X.env) Q E s:=
 bEA I.ok.kind c (Calls.loadGlobal_global (by rw[I.ok.glob];exact I.mod.glob.keeps I.bk) a h) b
def zK (I:Inv X bGG σ H s)(e:Gl X x)(c:X.mg x=none)(g:bootBuiltins x=some u)(h:Q u s)
  (hn:!(x≠"__name__",1)) (d:!((x == ("__debug__":Str))=false,1)):wpAny (model X.prog X.w) X.A (eval (.Name x pos) X.env) Q E s:=by
 have(f,a,b):=I.mod.blt;exact bEA I.ok.kind e (Calls.loadGlobal_builtin (by rw[I.ok.glob];exact I.mod.glob.keeps I.bk) c (by rw[I.ok.blt];exact a.keeps I.bk) ((b x hn).trans g) h) d
def bDn (c:Gl X x)(a:X.mg x=some u)(r:RelV v u)(b:!((x == ("__debug__":Str))=false,1)):PE X (.Name x pos) (tC v):=
 λ_ _ _ H _ I h=>aCg I c a (v,H,I,r,h) b
def bD7 (c:Gl X x)(a:X.mg x=none)(d:bootBuiltins x=some u)(r:RelV v u)(hn:!(x≠"__name__",1))(b:!((x == ("__debug__":Str))=false,1)):PE X (.Name x pos) (tC v):=
 λ_ _ _ H _ I h=>zK I c a d (v,H,I,r,h) hn b
def PC (X:Cx)(op:CmpOp)(a b:Expr)(t:TE):Prop:=
 ∀bGG s σ H Q,Inv X bGG σ H s->t σ H Q ->
  wpAny (model X.prog X.w) X.A (eval a X.env) (λv s₁=>wpAny (model X.prog X.w) X.A (eval b X.env) (λu s₂=>wpAny (model X.prog X.w) X.A (compareOp op v u) (EP X bGG σ Q) X.xe s₂) X.xe s₁) X.xe s
inductive bJy (Q:Bool->Hp->Prop)(x:V)(H1:Hp):Prop
 |mk (c:_)(h0:x=.bl c)(h1:Q c H1):bJy Q x H1
def tB (t:TE):TT:=fun σ H Q=>t σ H (bJy Q)
def bG9 {op:CmpOp}{t:TE}(h:PC X op a b t)(f:behindInMarks op b=false:=by first|exact nobehind _ (6) (6)|rfl):PT X (.Compare a [op] [b] pos) (tB t):=by intro e s σ H Q I k;refine wpAny_isTrue_Compare1 (thn (h e s σ H _ I k) λv p f=>thn f λu n l=>thn l λc o (x,i,g,j,m)=>?_) f;have(d,rfl,q):=m;cases j;exact bBL (i,g,q)
def bHr (h:PE X e t)(k:!(∀whole,isTrue e X.env whole=(do let v <-whole;standAt e.pos;holding [v] (truthy v)),3)):PT X e (tB t):=by intro a s σ H Q I g;refine isTrue_plain (thn (h a s σ H _ I g) λv j (x,c,b,f,i)=>?_) (k _);have(d,rfl,q):=i;cases f;exact bBL (c,b,q)
def bKg (t u:TT):TT:=fun σ H Q=>t σ H λc H1=>if c=true then u σ H1 Q else Q false H1
def tOr (t u:TT):TT:=fun σ H Q=>t σ H λc H1=>if c=true then Q true H1 else u σ H1 Q
def aX7 (t:TT):TT:=fun σ H Q=>t σ H λc H1=>Q (!c) H1
def bEv (f:PT X a tA):PW X (.BoolOp .And [a] pos) tA:=by
 intro d b s σ H Q I h;refine isTrue_and (thn (f b s σ H Q I h) λc g e=>?_);cases c with
 |true=>exact isTrue_and_nil e
 |false=>exact e
def bF4 (f:PT X a tA):PW X (.BoolOp .Or [a] pos) tA:=by
 intro d b s σ H Q I h;refine isTrue_or (thn (f b s σ H Q I h) λc g e=>?_);cases c with
 |false=>exact isTrue_or_nil e
 |true=>exact e
def bF9 (f:PT X a tA)(g:PW X (.BoolOp .And (b::rest) pos) tB'):PW X (.BoolOp .And (a::b::rest) pos) (bKg tA tB'):=by
 intro e d s σ H Q I h;refine isTrue_and (thn (f d s σ H _ I h) ?_);rintro c s1 ⟨H1,I1,q1⟩;cases c with
 |true=>exact g e d s1 σ H1 Q I1 q1
 |false=>exact(H1,I1,q1)
def bKi (f:PT X a tA)(g:PW X (.BoolOp .Or (b::rest) pos) tB'):PW X (.BoolOp .Or (a::b::rest) pos) (tOr tA tB'):=by
 intro e d s σ H Q I h;refine isTrue_or (thn (f d s σ H _ I h) ?_);rintro c s1 ⟨H1,I1,q1⟩;cases c with
 |true=>exact(H1,I1,q1)
 |false=>exact g e d s1 σ H1 Q I1 q1
def bF5 (e:PT X a tA):PT X (.UnaryOp .Not a pos) (aX7 tA):=by intro b s σ H Q I h;exact isTrue_not (e b s σ H (λc d=>Q (!c) d) I h)
def bAi (ta tb:TE):TE:=fun σ H Q=>ta σ H λx H1=>∃c,x=.bl c/\if c=true then tb σ H1 Q else Q (.bl false) H1
def bJq (ta tb:TE):TE:=fun σ H Q=>ta σ H λx H1=>∃c,x=.bl c/\if c=true then Q (.bl true) H1 else tb σ H1 Q
def bFv (ta:TE):TE:=fun σ H Q=>ta σ H λx H1=>∃c,x=.bl c/\Q (.bl (!c)) H1
def bH5 {op}(h:PE X a t):PE X (.BoolOp op [a] pos) t:=λb s σ H Q I c=>BoolOp_one (h b s σ H Q I c)
def bG4 (f:PE X a ta)(g:PE X (.BoolOp .And (b::rest) pos) tb):PE X (.BoolOp .And (a::b::rest) pos) (bAi ta tb):=by
 intro d s σ H Q I h;refine BoolOp_and (thn (f d s σ H _ I h) ?_);rintro v s1 ⟨x,H1,I1,r1,e⟩;have(c,rfl,e):=e;cases r1;refine bBL ?_;cases c with
 |true=>exact g d s1 σ H1 Q I1 e
 |false=>exact(.bl false,H1,I1,4,e)
def bKn (f:PE X a ta)(g:PE X (.BoolOp .Or (b::rest) pos) tb):PE X (.BoolOp .Or (a::b::rest) pos) (bJq ta tb):=by
 intro d s σ H Q I h;refine BoolOp_or (thn (f d s σ H _ I h) ?_);rintro v s1 ⟨x,H1,I1,r1,e⟩;have(c,rfl,e):=e;cases r1;refine bBL ?_;cases c with
 |false=>exact g d s1 σ H1 Q I1 e
 |true=>exact(.bl true,H1,I1,4,e)
def bHu (e:PE X a ta):PE X (.UnaryOp .Not a pos) (bFv ta):=by intro b s σ H Q I h;refine UnaryOp_ (thn (e b s σ H _ I h) ?_);rintro v s1 ⟨x,H1,I1,r1,d⟩;have(c,rfl,d):=d;cases r1;exact not_of (bBL (.bl (!c),H1,I1,4,d))
def tIf (t:TT)(ta tb:TE):TE:=fun σ H Q=>t σ H λc H1=>if c=true then ta σ H1 Q else tb σ H1 Q
def bAf (g:PT X c tA)(f:PE X a ta)(i:PE X b tb):PE X (.IfExp c a b pos) (tIf tA ta tb):=by
 intro e s σ H Q I h;refine wpAny_IfExp (thn (g e s σ H _ I h) ?_);rintro d s1 ⟨H1,I1,q1⟩;cases d with
 |true=>exact f e s1 σ H1 Q I1 q1
 |false=>exact i e s1 σ H1 Q I1 q1
def SqL (K:bGC)(H:Hp)(a:Addr)(xs:List V):Prop:=
 Rd H a (.lst xs) \/
  ∃o its n,K.lookup a=some o/\o.cls=.type "list"/\o.dict=none/\o.data=.seq its n/\its.size<=sizeLine/\Vals xs its.toList
def SqT (K:bGC)(H:Hp)(a:Addr)(xs:List V):Prop:=
 Rd H a (.tup xs) \/
  ∃o its n,K.lookup a=some o/\o.cls=.type "tuple"/\o.dict=none/\o.data=.seq its n/\its.size<=sizeLine/\Vals xs its.toList
def bK9:Value->Option V
 |.none=>some .non
 |.bool b=>some (.bl b)
 |.int i _=>some (.int i)
 |.str x _=>some (.str x)
 |.bytes b _=>some (.byt b)
 |.float b _=>some (.flt b)
 |.ref a=>some (.ref a)
 |.type n=>some (.ty n)
 |_=>none
def RelV.abs (r:RelV x u):bK9 u=some x:=by
 cases x with
 |non=>cases r;rfl
 |bl _=>cases r;rfl
 |int _=>have(t,rfl):=r;rfl
 |str _=>have(t,rfl):=r;rfl
 |byt _=>have(t,rfl):=r;rfl
 |flt _=>have(t,rfl):=r;rfl
 |ref _=>cases r;rfl
 |ty _=>cases r;rfl
def RelV.inj (r:RelV x u)(q:RelV y u):x=y:=bAL (r.abs.symm.trans q.abs)
def Vals.inj:∀{xs ys:List V} {us:List Value},Vals xs us->Vals ys us->xs=ys:=by
 intro xs ys us h
 induction h generalizing ys with
 |nil=>intro h;cases h;rfl
 |cons r t ih=>intro h;cases h with
  |cons r' t'=>rw[r.inj r',ih t']
def SqL.of {K:bGC}(h:H a=some (.lst xs)):SqL K H a xs:=.inl (.inl h)
def SqT.of {K:bGC}(h:H a=some (.tup xs)):SqT K H a xs:=.inl (.inl h)
def Inv.list (I:Inv X bGG σ H s)(h:SqL X.K H a xs):∃its:List Value,Vals xs its/\PlainL s.heap a its.toArray/\xs.length<=sizeLine:=by
 rcases h with h|⟨o,its,n,d,b,c,f,g,r⟩
 .have(z,its,n,r,e):=h.ok I.hok;exact(its,r,(_,n,e,24),z)
 .exists its.toList,r,((o,n,I.kIn a o d,b,c,by simpa using f));have e:=r.length;simp only[bAD] at e;lia
def Inv.tuple (I:Inv X bGG σ H s)(h:SqT X.K H a xs):∃its:List Value,Vals xs its/\IsTup s.heap a its.toArray/\xs.length<=sizeLine:=by
 rcases h with h|⟨o,its,n,c,b,f,d,g,r⟩
 .have(z,its,r,p):=h.ok I.hok;exact(its,r,p.1,z)
 .exists its.toList,r,((o,I.kIn a o c,b,n,by simpa using d));have e:=r.length;simp only[bAD] at e;lia
def Inv.bLg (I:Inv X bGG σ H s)(h:SqT X.K H a xs):∃its:List Value,Vals xs its/\aAl s.heap a its.toArray/\xs.length<=sizeLine:=by
 rcases h with h|⟨o,its,n,b,c,d,f,g,r⟩
 .have(z,its,r,p):=h.ok I.hok;exact(its,r,p,z)
 .exists its.toList,r,(.of (I.kIn a o b) d (o,I.kIn a o b,c,n,by simpa using f));have e:=r.length;simp only[bAD] at e;lia
def Inv.bAl (I:Inv X bGG σ H s)(h:SqL X.K H a xs)(h':SqL X.K H a ys):xs=ys:=by
 have(c,r,(o,n,e,_,_,d),_):=I.list h;have(b,i,(j,k,g,_,_,f),_):=I.list h';rw[e] at g;cases g;rw[d] at f;injection f with d1 _;have:c=b:=by simpa using congrArg Array.toList d1
 subst this;exact r.inj i
def Inv.aHr (I:Inv X bGG σ H s)(h:SqT X.K H a xs)(h':SqT X.K H a ys):xs=ys:=by
 have(c,r,(o,e,_,n,d),_):=I.tuple h;have(b,i,(j,g,_,k,f),_):=I.tuple h';rw[e] at g;cases g;rw[d] at f;injection f with d1 _;have:c=b:=by simpa using congrArg Array.toList d1
 subst this;exact r.inj i
abbrev Cx.wish (X:Cx)(E:bGD):Cx:={ X with xe:=E }
abbrev Cx.nox (X:Cx):Cx:=X.wish λ_ _=>False
def Cx.Ok.wish {X:Cx}(a:X.Ok)(E:bGD):(X.wish E).Ok:=
 (a.mod,a.kind,a.glob,a.blt,a.above,a.inj,a.has,a.cab,a.hd,a.frames,a.stk,a.exf,a.bs,a.bsz,a.noex,a.exfs,a.funs,a.frf)
def Cx.Ok.tX {X:Cx}{E:bGD}(a:(X.wish E).Ok):X.Ok:=
 (a.mod,a.kind,a.glob,a.blt,a.above,a.inj,a.has,a.cab,a.hd,a.frames,a.stk,a.exf,a.bs,a.bsz,a.noex,a.exfs,a.funs,a.frf)
def Inv.wish (I:Inv X bGG σ H s)(E:bGD):Inv (X.wish E) bGG σ H s:=(I.ok.wish E,I.os,I.bare,I.base,I.loc,I.cell,I.free,I.freeC,I.pin,I.hok,I.len)
def Inv.tX (I:Inv (X.wish E) bGG σ H s):Inv X bGG σ H s:=(I.ok.tX,I.os,I.bare,I.base,I.loc,I.cell,I.free,I.freeC,I.pin,I.hok,I.len)
def SP.tX (h:SP (X.wish E) bGG D f s'):SP X bGG D f s':=by
 cases f with
 |next=>have(b,a,I,q):=h;exact(b,a,I.tX,q)
 |brk=>have(b,a,I,q):=h;exact(b,a,I.tX,q)
 |cont=>have(b,a,I,q):=h;exact(b,a,I.tX,q)
 |ret u=>have(v,b,a,I,r,q):=h;exact(v,b,a,I.tX,r,q)
def PSs.nox {st:List Stmt}{t:TS}(h:PSs X.nox st t):PSs X st t:=λa s σ H D I b=>
 bBJ (h a s σ H D (I.wish _) b) (λ_ _ q=>q.tX) λ_ _ z=>False.elim z
section
variable {X:Cx}{st:Stmt}{rest:List Stmt}{t u:TS}
def oM:TS:=λD σ H=>D.nx σ H
def nO (t u:TS):TS:=λD σ H=>t { D with nx:=u D } σ H
def bEx:PSs X [] oM:=λ_ _ σ H _ I h=>bEF (σ,H,I,h)
def bBc (g:PS X st t)(i:PSs X rest u):PSs X (st::rest) (nO t u):=by
 intro a s σ H D I h;refine wpAny_execs_cons (thn (g a s σ H { D with nx:=u D } I h) λf b q=>?_);cases f with
 |next=>have(d,c,e,q):=q;exact i a b d c D e q
 |ret v=>exact q
 |brk=>exact q
 |cont=>exact q
def bCq (c:PS X st t):PSs X [st] t:=by
 intro a s σ H D I h;refine wpAny_execs_cons (thn (c a s σ H D I h) λf b q=>?_);cases f with
 |next=>exact bEF q
 |ret v=>exact q
 |brk=>exact q
 |cont=>exact q
def Inv.quiet (I:Inv X bGG σ H s):interactive X.env=false:=by simp[interactive,I.ok.kind]
def aUh (te:TE):TS:=λD σ H=>te σ H λ_ H1=>D.nx σ H1
def bCl (b:PE X e te)(hs:!(swapsWith e none pos.line X.env=pure false)):PS X (.Expr e pos) (aUh te):=by intro a s σ H D I h;exact wpAny_Expr_any (thn (b a s σ H _ I h) (by rintro v s1 ⟨x,H1,I1,r1,q1⟩;exact(σ,H1,I1,q1))) I.quiet hs
def qI (te:TE):TS:=λD σ H=>te σ H D.rt
def bGg (b:PE X e te):PS X (.Return (some e) pos) (qI te):=by intro a s σ H D I h;exact wpAny_Return_some (thn (b a s σ H _ I h) (by rintro v s1 ⟨x,H1,I1,r1,q1⟩;exact(x,σ,H1,I1,r1,q1)))
def aGw (c:TT)(t u:TS):TS:=λD σ H=>c σ H λb H1=>if b=true then t D σ H1 else u D σ H1
def bKr (g:PT X c tc)(f:PSs X a t)(i:PSs X b u):PS X (.If c a b pos) (aGw tc t u):=by
 intro e s σ H D I h;refine wpAny_If (thn (g e s σ H _ I h) ?_);rintro d s1 ⟨H1,I1,q1⟩;cases d with
 |true=>exact f e s1 σ H1 D I1 q1
 |false=>exact i e s1 σ H1 D I1 q1
def aZr:TS:=λ_ _ _=>False
def bBv:PS X st aZr:=λ_ _ _ _ _ _ h=>h.elim
end
abbrev TG:=V->St->Hp->(St->Hp->Prop)->Prop
abbrev TGs:=List V->St->Hp->(St->Hp->Prop)->Prop
def PG (X:Cx)(target:Expr)(t:TG):Prop:=
 ∀bGG s σ H v u Q,Inv X bGG σ H s->RelV v u->t v σ H Q ->
  wpAny (model X.prog X.w) X.A (assign target X.env u) (λ_ s'=>∃σ' H',Inv X bGG σ' H' s'/\Q σ' H') X.xe s
def PGs (X:Cx)(ts:List Expr)(t:TGs):Prop:=
 ∀bGG s σ H vs us Q,Inv X bGG σ H s->Vals vs us->t vs σ H Q ->
  wpAny (model X.prog X.w) X.A (assignInOrder ((assignEach ts X.env).map (·.2)) us) (λ_ s'=>∃σ' H',Inv X bGG σ' H' s'/\Q σ' H') X.xe s
abbrev bKa:=V->V->V->Hp->(Hp->Prop)->Prop
def bH6 (X:Cx)(t:bKa):Prop:=
 ∀bGG s σ H o i v ov iv u Q,Inv X bGG σ H s->RelV o ov->RelV i iv->RelV v u->t o i v H Q ->
  wpAny (model X.prog X.w) X.A (setItem ov iv u) (λ_ s'=>∃H',Inv X bGG σ H' s'/\Q H') X.xe s
def cF (i:Nat):TG:=λv σ H Q=>Q (σ.set i (some v)) H
def bD6 (f:X.N.Nodup)(hi:X.N[i]?=some x)(e:Loc X.env.scope x)(d:!(X.fn x=true\/X.env.scope.names.lookup x=some .local,2)):PG X (.Name x pos) (cF i):=by intro a s σ H v u Q I r h;exact wpAny_assign_Name (aN4 I f hi e r (λc b=>(_,H,b,h)) d)
def aGe:TGs:=λvs σ H Q=>vs=[]/\Q σ H
def lX (t:TG)(u:TGs):TGs:=λvs σ H Q=>∃v r,vs=v::r/\t v σ H fun σ' H'=>u r σ' H' Q
def bDg:PGs X [] aGe:=by intro a s σ H c b Q I r h;have(e,h):=h;subst e;cases r;exact assignInOrder_nil (σ,H,I,h)
def aX5 (f:PG X e t)(i:PGs X es u)
  (hs:!((assignEach (e::es) X.env).map (·.2)=assign e X.env::(assignEach es X.env).map (·.2))):PGs X (e::es) (lX t u):=by
 intro a s σ H g d Q I r h;have(v,c,b,h):=h;subst b;cases r with
 |cons r rr=>rw[hs];refine assignInOrder_cons (thn (f a s σ H _ _ _ I r h) ?_);rintro _ s1 ⟨σ1,H1,I1,q1⟩;exact i a s1 σ1 H1 _ _ Q I1 rr q1
inductive aBt (K:bGC)(n:Nat)(t:TGs)(v:V)(σ:St)(H:Hp)(Q:St->Hp->Prop):Prop
 |mk (a xs:_)(h0:v=.ref a)(h1:SqT K H a xs)(h2:xs.length=n)(h3:t xs σ H Q):aBt K n t v σ H Q
def bHg (A:X.calm=true)(h:PGs X es t)
  (hn:!((assignEach es X.env).length=n)) (i:!((assignEach es X.env).findIdx? (·.1)=none)):PG X (.Tuple es k pos) (aBt X.K n t):=by
 intro c s σ H v u Q I r d;have(a,p,l,j,q,d):=d;subst l;cases r;have(x,f,m,z):=I.tuple j;refine assign_Tuple_tuple (I.ok.hd A) m (by simp[hn,<-q,f.length]) i λy w=>?_;have g:=I.kept (t':=s.toks) λb o e=>w b o (bAA (v8 e)) e;exact h c _ σ H p _ Q g (by simpa using f) d
def bJ4 (to ti:TE)(t:bKa):TG:=λv σ H Q=>to σ H λo H1=>ti σ H1 λi H2=>t o i v H2 λH3=>Q σ H3
def bG3 (c:PE X o to)(hi:PE X i ti)(hs:bH6 X t)
  (b:!(∀v,assign (.Subscript o i pos) X.env v=(do
   let ov <-holding [v] (eval o X.env)
   let iv <-holding [v,ov] (eval i X.env)
   standAt pos
   holding [v,ov,iv] (setItem ov iv v)
   release [v,ov,iv] []),3)):PG X (.Subscript o i pos) (bJ4 to ti t):=by
 intro a s σ H v u Q I r h;rw[b];refine b8 (bBC (thn (c a s σ H _ I h) ?_));rintro ov s1 ⟨x,H1,I1,r1,q1⟩;refine b8 (bBC (thn (hi a s1 σ H1 _ I1 q1) ?_));rintro iv s2 ⟨y,H2,I2,r2,q2⟩;refine b8 (wpAny_standAt (b8 (bBC (thn (hs a s2 σ H2 x y v ov iv u _ I2 r1 r2 r q2) ?_))));rintro _ s3 ⟨H3,I3,q3⟩;exact wpAny_release (σ,H3,I3,q3)
def kO (te:TE)(g:TG):TS:=λD σ H=>te σ H λx H1=>g x σ H1 D.nx
def bIg (n:PE X e te)(m:PG X tg g)(hs:!(swapsWithSole [tg] e pos.line X.env=pure false))(k:!(swappedStores [tg] e X.env=pure none))
  (l:!((assignEach [tg] X.env).map (·.2)=[assign tg X.env])):PS X (.Assign [tg] e pos) (kO te g):=by
 intro a s σ H D I h;refine wpAny_Assign_stores (thn (n a s σ H _ I h) λv f (x,c,b,d,i)=>?_) hs k;rw[l];exact thn (m a f σ c x v _ b d i) λ_ j q=>q
def bIj (k:X.N.Nodup)(hi:X.N[i]?=some x)(o:Loc X.env.scope x)(n:PE X e te)(hs:!(swapsWith e (some (.Name x pos')) pos.line X.env=pure false))(l:!(X.fn x=true\/X.env.scope.names.lookup x=some .local,2)) :
  PS X (.Assign [.Name x pos'] e pos) (kO te (cF i)):=by
 intro a s σ H D I h;refine wpAny_Assign_Name (thn (n a s σ H _ I h) λv m (y,c,b,d,f)=>?_) hs;exact aN4 b k hi o d (λj g=>(_,c,g,f)) l
def bAz (c:TT)(tb:TS):TS:=λD σ H=>∃W:Nat->St->Hp->Prop,(∃m,W m σ H)/\∀m σ H,W m σ H ->
 c σ H λb H1=>if b=true then ∃N:St->Hp->Prop,(∀σ' H',N σ' H'->∃m',m'<m/\W m' σ' H')/\tb { D with nx:=N,ct:=N,bk:=D.nx } σ H1 else D.nx σ H1
def aXz (u:PassesOwn (model X.prog X.w) X.A X.env X.xe)(z:PT X c tc)(B:PSs X body tb):PS X (.While c body [] pos) (bAz tc tb):=by
 intro a s σ H D I h;have(W,(x,t),e):=h;refine wpAny_While (codeAny_whileLoop (λn r=>∃σ' H',Inv X a σ' H' r/\W n σ' H') ?_ x (σ,H,I,t));rintro n s1 ⟨σ1,H1,I1,w1⟩;refine bDG u (thn (z a s1 σ1 H1 _ I1 (e n σ1 H1 w1)) ?_);rintro b s2 ⟨H2,I2,j⟩;cases b with
 |true=>
  have(N,q,j):=j;rw[if_pos rfl];refine bDG u (thn (B a s2 σ1 H2 _ I2 j) λf y i=>?_);cases f with
  |next=>have(g,d,p,o):=i;have(l,k,m):=q g d o;exact(l,k,g,d,p,m)
  |cont=>have(g,d,p,o):=i;have(l,k,m):=q g d o;exact(l,k,g,d,p,m)
  |brk=>exact i
  |ret v=>exact i
 |false=>rw[if_neg z9];exact bEF (σ1,H2,I2,j)
structure It where
 go:Nat->Hp->Prop
 yld:Nat->Hp->V->Hp->Prop
 stop:Nat->Hp->Prop
def uU (X:Cx)(bGG:bGE)(H:Hp)(b:Addr):Prop:=
 H b=none/\b≠X.env.locals/\b∉X.fs/\(b∈X.ex\/X.s₀.heap.objs.size<=b)/\(∀x c,X.env.cells.lookup x=some c->c≠b)/\∀p∈X.pn++bGG,p.1≠b
def Inv.aMk (I:Inv X bGG σ H s)(a:s.heap.objs.size<=b)(hn:H' b=none):uU X bGG H' b:=by
 refine(hn,bDA (bAF I.lt a),I.nofs a,.inr (bAM I.sz a),λx c e z=>?_,λp d z=>?_)
 .have(v,q):=I.cell x c e;exact absurd (bAF q.lt (by rw[z];exact a)) (bBV _)
 .exact absurd (bAF (v8 (I.pin p d).1) (by rw[z];exact a)) (bBV _)
structure Turn (P:Program)(w:World)(K:bGC)(tg:Expr)(J:It)(fp:List Addr)(it:Addr)(tn:Nat->Heap->Prop):Prop where
 mem:it∈fp
 obj:∀i h,tn i h->∀b∈fp,∃o,h.get? b=some o/\∀v,o.data≠.cell v
 keep:∀i h h',tn i h->(∀b∈fp,∀o,h.get? b=some o->h'.get? b=some o)->tn i h'
 item:∀(X:Cx),X.prog=P->X.w=w->X.K=K->X.calm=true->∀(i:Nat) (bGG:bGE) (s:Shared) (σ:St) (H:Hp) (E:bGD),Inv X bGG σ H s->(∀b∈fp,uU X bGG H b)->tn i s.heap->J.go i H ->
  wpAny (model P w) X.A (pyNext (.ref it)) (λr s1=>∃u,r=some u /\
   wpAny (model P w) X.A (letOwnedTupleGo tg (.ref it) u) (λ_ s2=>∃x H',Inv X bGG σ H' s2/\RelV x u/\J.yld i H x H'/\tn (i+1) s2.heap/\∀b∈fp,H' b=none) E s1) E s
 done:∀(X:Cx),X.prog=P->X.w=w->X.K=K->X.calm=true->∀(i:Nat) (bGG:bGE) (s:Shared) (σ:St) (H:Hp) (E:bGD),Inv X bGG σ H s->(∀b∈fp,uU X bGG H b)->tn i s.heap->J.stop i H ->
  wpAny (model P w) X.A (pyNext (.ref it)) (λr s1=>r=none/\Inv X bGG σ H s1) E s
 self:∀(A:Around) (i:Nat) (s:Shared) (Q:bGD) (E:bGD),tn i s.heap->Q (.ref it) s->wpAny (model P w) A (pyIter (.ref it)) Q E s
abbrev TI:=St->Hp->(It->Hp->Prop)->Prop
def PIE (X:Cx)(bGG:bGE)(σ:St)(tg:Expr)(R:It->Hp->Prop)(itv:Value)(s2:Shared):Prop:=
 ∃it fp tn J H',itv=.ref it/\Inv X bGG σ H' s2/\Turn X.prog X.w X.K tg J fp it tn/\tn 0 s2.heap/\(∀b∈fp,uU X bGG H' b)/\R J H'
def PI (X:Cx)(tg iter:Expr)(wi:TI):Prop:=
 ∀bGG s σ H R,Inv X bGG σ H s->wi σ H R ->
  wpAny (model X.prog X.w) X.A (eval iter X.env) (λv s1=>wpAny (model X.prog X.w) X.A (pyIter v) (PIE X bGG σ tg R) X.xe s1) X.xe s
def aM4 (d:s.heap.get? it=some o)(b:o.cls=.type n)(c:o.data=.fields vs)
  (hn:["enumerate","zip","dict_itemiterator","dict_reverseitemiterator","odict_iterator","itertools.zip_longest","itertools.pairwise"].contains n=false) (a:Q () s):wpAny M A (letOwnedTupleGo tg (.ref it) u) Q E s:=by
 unfold letOwnedTupleGo;cases tg <;> first
  |exact d9 a
  |(cases u <;> first
    |exact d9 a
    |(refine b8 (wpAny_load d ?_);rw[b,c];show wpAny M A (if (["enumerate","zip","dict_itemiterator","dict_reverseitemiterator","odict_iterator","itertools.zip_longest","itertools.pairwise"].contains n && vs[0]? == some (rawInt _))=true then _ else _) Q E s;rw[if_neg (by intro h;rw[hn,Bool.false_and] at h;cases h)];exact d9 a))
def Itl (K:bGC)(a:Addr):It:=
 (λi H=>∃xs x,SqL K H a xs/\xs[i]?=some x,λi H x H'=>H'=H/\∀xs,SqL K H a xs->xs[i]?=some x,λi H=>∃xs,SqL K H a xs/\xs.length<=i)
def Itt (K:bGC)(a:Addr):It:=
 (λi H=>∃xs x,SqT K H a xs/\xs[i]?=some x,λi H x H'=>H'=H/\∀xs,SqT K H a xs->xs[i]?=some x,λi H=>∃xs,SqT K H a xs/\xs.length<=i)
def Itr (lo:Int)(n:Nat):It:=(λi _=>i<n,λi H x H'=>H'=H/\x=.int (lo+i),λi _=>n<=i)
def aVr {P:Program}{w:World}{K:bGC}{tg:Expr}(a it:Addr):Turn P w K tg (Itl K a) [it] it (λi h=>h.IsListIter it a i) where
 mem:=by simp
 obj:=λi h f b g=>by
  have e:b=it:=by simpa using g
  subst e;have(o,e,c,d):=f;exact(o,e,λv z=>by rw[d] at z;cases z)
 keep:=λi h M f k=>f.at λo e=>k it (9) o e
 item:=by intro X q C r N i n s σ H E I m f y;subst q C r;have(T,x,l,F):=y;have(G,D,p,Q):=I.list l;have(u,R,V):=D.get F;have(J,L,W,B,A,t):=m it (9);refine wpAny_pyNext_list_item f p.isList (by simpa using R) λM j U=>?_;have O:=I.turned (t':=s.toks) (λb o g e=>(U.2 b g).trans e) J L B A t;have(o,e,c,d):=id j;exact(u,4,aM4 e c d (6) (x,H,O,V,(4,λys S=>by rw[I.bAl S l];exact F),j,λb g=>(m b g).1))
 done:=by intro X q C r N i n s σ H E I m f y;subst q C r;have(T,l,F):=y;have(G,D,p,Q):=I.list l;have(J,L,W,B,A,t):=m it (9);have Z:=D.length;exact wpAny_pyNext_list_end (I.ok.hd N) f p.isList (by simp;lia) λM Y=>(4,I.turned (t':=s.toks) (λb o g e=>Y b o g e) J L B A t)
 self:=λ_ _ _ _ _ f h=>wpAny_pyIter_listiter f h
def aR7 {P:Program}{w:World}{K:bGC}{tg:Expr}(a it:Addr):Turn P w K tg (Itt K a) [it] it (λi h=>h.IsTupleIter it a i) where
 mem:=by simp
 obj:=λi h f b g=>by
  have e:b=it:=by simpa using g
  subst e;have(o,e,c,d):=f;exact(o,e,λv z=>by rw[d] at z;cases z)
 keep:=λi h M f k=>f.at λo e=>k it (9) o e
 item:=by intro X r D t N i q s σ H E I n f A;subst r D t;have(T,x,m,G):=A;have(j,F,p,Q):=I.tuple m;have(u,R,V):=F.get G;have(J,L,W,C,B,y):=n it (9);refine wpAny_pyNext_tuple_item f (show s.heap.IsTuple a j.toArray from p) (by simpa using R) λM l U=>?_;have O:=I.turned (t':=s.toks) (λb o g e=>(U.2 b g).trans e) J L C B y;have(o,e,c,d):=id l;exact(u,4,aM4 e c d (6) (x,H,O,V,(4,λys S=>by rw[I.aHr S m];exact G),l,λb g=>(n b g).1))
 done:=by intro X r D t N i q s σ H E I n f A;subst r D t;have(T,m,G):=A;have(j,F,p,Q):=I.tuple m;have(J,L,W,C,B,y):=n it (9);have Z:=F.length;exact wpAny_pyNext_tuple_end (I.ok.hd N) f (show s.heap.IsTuple a j.toArray from p) (by simp;lia) λM Y=>(4,I.turned (t':=s.toks) (λb o g e=>Y b o g e) J L C B y)
 self:=λ_ _ _ _ _ f h=>wpAny_pyIter_tupleiter f h
def aQm {P:Program}{w:World}{K:bGC}{tg:Expr}(it:Addr)(lo:Int)(n:Nat):Turn P w K tg (Itr lo n) [it] it (λi h=>IsRangeIter h it (lo+(i:Nat) * 1) ((n:Int) - (i:Nat)) 1) where
 mem:=by simp
 obj:=λi h a b c=>by
  have e:b=it:=by simpa using c
  subst e;exact(_,a,λv z=>by have M:Data.fields _=Data.cell v:=z;cases M)
 keep:=λi h g a k=>k it (9) _ a
 item:=by intro X l y p m i d s σ H E I j a r;subst l y p;have(A,B,J,x,u,q):=j it (9);have W:=Walks.range (prog:=X.prog) (w:=X.w) (I.ok.hd m) it lo 1 n;refine W.item i s _ _ r a λv g C G f F=>?_;have(t,rfl):=G;have D:Inv X d σ H { s with heap:=g,toks:=C }:=I.turned (λb o c e=>F b o (by simpa using c) e) A B x u q;refine(3,aM4 (s:={ s with heap:=g,toks:=C }) (n:="range_iterator") f rfl rfl (6) (.int (lo+i),H,D,(t,8),(44),f,λb c=>(j b c).1));rw[Int.mul_one]
 done:=by intro X l y p m i d s σ H E I j a r;subst l y p;have(A,B,J,x,u,q):=j it (9);exact wpAny_pyNext_range_end (I.ok.hd m) a (by have:n<=i:=r;lia) λg L=>(4,I.turned (t':=s.toks) (λb o c e=>L b o c e) A B x u q)
 self:=λ_ _ _ _ _ a h=>wpAny_pyIter_rangeiter a h
def tL (K:bGC)(tl:TE):TI:=fun σ H R=>tl σ H λx H1=>∃a,x=.ref a/\(∃xs,SqL K H1 a xs)/\R (Itl K a) H1
def aQ2 (K:bGC)(tl:TE):TI:=fun σ H R=>tl σ H λx H1=>∃a,x=.ref a/\(∃xs,SqT K H1 a xs)/\R (Itt K a) H1
def aTm (m:PE X l tl):PI X tg l (tL X.K tl):=by
 intro c s σ H R I h;refine thn (m c s σ H _ I h) ?_;rintro v s1 ⟨x,H1,I1,r1,q1⟩;have(a,e,(k,d),q):=q1;subst e;cases r1;have(g,j,p,i):=I1.list d;refine bCW p.isList ?_;refine(s1.heap.objs.size,[s1.heap.objs.size],00,H1,4,I1.kept (t':=s1.toks) λb o e=>c7 _ e,aVr a _,(_,m5 _ rfl,44),λb f=>?_,q);have e:b=s1.heap.objs.size:=by simpa using f
 subst e;exact I1.aMk (j6 _) (I1.hok.fresh (j6 _))
def bBd (m:PE X l tl):PI X tg l (aQ2 X.K tl):=by
 intro c s σ H R I h;refine thn (m c s σ H _ I h) ?_;rintro v s1 ⟨x,H1,I1,r1,q1⟩;have(a,e,(k,f),q):=q1;subst e;cases r1;have(d,j,p,i):=I1.tuple f;refine bEH (show s1.heap.IsTuple a d.toArray from p) ?_;refine(s1.heap.objs.size,[s1.heap.objs.size],00,H1,4,I1.kept (t':=s1.toks) λb o e=>c7 _ e,aR7 a _,(_,m5 _ rfl,44),λb g=>?_,q);have e:b=s1.heap.objs.size:=by simpa using g
 subst e;exact I1.aMk (j6 _) (I1.hok.fresh (j6 _))
def aZc {c:bGE}{σ:St}{H:Hp}{s:Shared}{R:It->Hp->Prop}{E:bGD}{lo hi:Int}{t u v:Tok}{tk:Nat}(I:Inv X c σ H s)(j:-(2 ^ 62)<=lo)(k:lo<2 ^ 62)(h:-(2 ^ 62)<=hi)(i:hi<2 ^ 62)
  (q:R (Itr lo (hi - lo).toNat) H):wpAny (model X.prog X.w) X.A (pyIter (.ref s.heap.objs.size)) (PIE X c σ tg R) E { s with heap:=s.heap.push { cls:=.type "range",data:=.fields #[.int lo t,.int hi u,.int 1 v] },toks:=tk }:=by
 refine wpAny_pyIter_range (IsRange.new ..) (small_one j k h i) ?_;have a:Inv X c σ H { s with heap:=s.heap.push { cls:=.type "range",data:=.fields #[.int lo t,.int hi u,.int 1 v] },toks:=tk }:=I.kept λb o e=>c7 _ e;refine((s.heap.push { cls:=.type "range",data:=.fields #[.int lo t,.int hi u,.int 1 v] }).objs.size,[(s.heap.push { cls:=.type "range",data:=.fields #[.int lo t,.int hi u,.int 1 v] }).objs.size],00,H,4,
  a.kept (t':=tk) λb o e=>c7 _ e,aQm _ lo (hi - lo).toNat,8,λb f=>?_,q)
 .have d:lo+((0:Nat):Int) * 1=lo:=by simp
  have g:(((hi - lo).toNat:Nat):Int) - ((0:Nat):Int)=Builtin.Range.rangeSize lo hi 1:=by rw[rangeSize_one];split <;> lia
  show IsRangeIter _ _ (lo+((0:Nat):Int) * 1) ((((hi - lo).toNat:Nat):Int) - ((0:Nat):Int)) 1;rw[d,g];exact m5 _ rfl
 .have e:b=(s.heap.push { cls:=.type "range",data:=.fields #[.int lo t,.int hi u,.int 1 v] }).objs.size:=by simpa using f
  subst e;exact a.aMk (j6 _) (a.hok.fresh (j6 _))
def aTy (ta:TA):TI:=fun σ H R=>ta σ H λvs H1=>∃j:Int,vs=[.int j]/\-(2 ^ 62)<=j/\j<2 ^ 62/\R (Itr 0 j.toNat) H1
def aXd (u:Gl X "range")(i:X.mg "range"=none)(k:PA X [a] ta)(hs:!(starEach [a] X.env=[(false,eval a X.env,)])):PI X tg (.Call (.Name "range" p) [a] [] pos) (aTy ta):=by
 intro b s σ H R I h;refine Call_ (zK I u i boot_range (bDB (thn (k pos b s σ H _ I h) λm n (o,l,d,f,c)=>?_) hs rfl));have(j,e,c,g,q):=c;subst e;cases f with
 |cons r rr=>cases rr;have(t,rfl):=r;exact call_range_1 (aZc d (5) (5) c g (by simpa using q))
def bKu (wi:TI)(g:TG)(tb:TS):TS:=λD σ H=>wi σ H λJ H1=>∃W:Nat->Nat->St->Hp->Prop,(∃m,W 0 m σ H1)/\∀i m σ H,W i m σ H ->
 (J.stop i H/\D.nx σ H)\/(J.go i H/\∃N:St->Hp->Prop,(∀σ' H',N σ' H'->∃m',m'<m/\W (i+1) m' σ' H')/\∀x H',J.yld i H x H'->g x σ H' fun σ2 H2=>tb { D with nx:=N,ct:=N,bk:=D.nx } σ2 H2)
def aDu (fp:List Addr)(h:Heap):bGE:=fp.filterMap λb=>(h.get? b).map λo=>(b,o,)
def rB (a:b∈fp)(e:h.get? b=some o):(b,o,)∈aDu fp h:=List.mem_filterMap.mpr (b,a,by rw[e];rfl)
def aUy (d:p∈aDu fp h):p.1∈fp/\h.get? p.1=some p.2:=by
 have(b,a,e):=List.mem_filterMap.mp d;cases q:h.get? b with
 |none=>rw[q] at e;cases e
 |some o=>rw[q] at e;have c:=bAL e;subst c;exact(a,q)
def Inv.pinned (I:Inv X bGG σ H s)(j:∀b∈fp,uU X bGG H b)(k:∀b∈fp,∃o,s.heap.get? b=some o/\∀v,o.data≠.cell v):Inv X (bGG++aDu fp s.heap) σ H s:=
 I.aUp λp f=>(List.mem_append.mp f).elim (λz=>I.pin p (bAV _ z)) λz=>by have(c,e):=aUy z;have(g,h,i,_):=j p.1 c;have(o,a,d):=k p.1 c;rw[e] at a;cases a;exact(e,g,h,i,d)
def Inv.sG (I:Inv X (bGG++pl) σ H s):Inv X bGG σ H s:=I.aUp λp a=>I.pin p (bAV _ (bCF _ a))
def bHa (E:PassesOwn (model X.prog X.w) X.A X.env X.xe)(hc:X.calm=true)(hi:PI X tg iter wi)(hg:PG X tg g)(q:PSs X body tb)
  (hs:!(∀x,foldedSetIterable iter X.env x=pure x,3)):PS X (.For tg iter body [] pos) (bKu wi g tb):=by
 intro a s σ H D I h;refine wpAny_For (thn (hi a s σ H _ I h) λv s1 h1=>thn h1 λZ s2 Y=>?_) hs;have(it,y,M,J,H2,e,I2,T,F,O,W,(m0,w0),B):=Y;subst e;have p:∀{H':Hp},(∀b∈y,H' b=none)->∀b∈y,uU X a H' b:=λhn b q=>(hn b q,(O b q).2);refine codeAny_forLoop_any (λn L=>∃i σ' H',Inv X a σ' H' L/\M i L.heap/\(∀b∈y,H' b=none)/\W i n σ' H') ?_ m0 (0,σ,H2,I2,F,λb q=>(O b q).1,w0);rintro n s3 ⟨i,σ3,H3,I3,st3,fr3,w3⟩;rcases B i n σ3 H3 w3 with⟨C,V⟩|⟨go,N,hN,step⟩
 .refine bDG E (thn (T.done X rfl rfl rfl hc i a s3 σ3 H3 X.xe I3 (p fr3) st3 C) ?_);rintro r s4 ⟨hr,I4⟩;subst hr;exact bEF (σ3,H3,I4,V)
 .refine bDG E (thn (T.item X rfl rfl rfl hc i a s3 σ3 H3 X.xe I3 (p fr3) st3 go) ?_);rintro r s4 ⟨u,hr,h4⟩;subst hr;refine bDG E (thn h4 ?_);rintro _ s5 ⟨x,H5,I5,r5,y5,st5,fr5⟩;have K:=I5.pinned (p fr5) (T.obj _ _ st5);refine bDG E (thn (hg _ s5 σ3 H5 x u _ K r5 (step x H5 y5)) ?_);rintro _ s6 ⟨σ6,H6,I6,q6⟩;refine bDG E (thn (q _ s6 σ6 H6 _ I6 q6) λf G t=>?_);have k:∀{l:St} {c:Hp},Inv X (a++aDu y s5.heap) l c G->N l c->∃m,m<n/\∃i σ' H',Inv X a σ' H' G/\M i G.heap/\(∀b∈y,H' b=none)/\W i m σ' H':=λ{l c} j z=>by have(R,P,Q):=hN l c z;refine(R,P,i+1,l,c,j.sG,T.keep _ _ _ st5 λb q o e=>(j.pin (b,o,) (bAV _ (bAV _ (rB q e)))).1,λb q=>?_,Q);have(o,e,d):=T.obj _ _ st5 b q;exact (j.pin (b,o,) (bAV _ (bAV _ (rB q e)))).2.1
  cases f with
  |next=>have(l,c,j,z):=t;exact k j z
  |cont=>have(l,c,j,z):=t;exact k j z
  |brk=>have(l,c,j,t):=t;exact(l,c,j.sG,t)
  |ret v=>have(S,l,c,j,U,t):=t;exact(S,l,c,j.sG,U,t)
def aJe {K:bGC}{a:Addr}{xs:List V}{g:TG}{tb:TS}{D:Ends}{σ:St}{H:Hp}(c:Nat->St->Hp->Prop)(f:c 0 σ H)(j:∀i σ H,i<=xs.length->c i σ H->SqT K H a xs)
  (hs:∀i x σ H,xs[i]?=some x->c i σ H->g x σ H fun σ2 H2=>tb { D with nx:=c (i+1),ct:=c (i+1),bk:=D.nx } σ2 H2) (h:∀σ H,c xs.length σ H->D.nx σ H) :
  ∃W:Nat->Nat->St->Hp->Prop,(∃m,W 0 m σ H)/\∀i m σ H,W i m σ H ->
   ((Itt K a).stop i H/\D.nx σ H)\/((Itt K a).go i H/\∃N:St->Hp->Prop,(∀σ' H',N σ' H'->∃m',m'<m/\W (i+1) m' σ' H')/\∀x H',(Itt K a).yld i H x H'->g x σ H' fun σ2 H2=>tb { D with nx:=N,ct:=N,bk:=D.nx } σ2 H2):=by
 exists λi m σ H=>m=xs.length - i/\i<=xs.length/\c i σ H,((xs.length,9,bAI _,f));rintro i m σ H ⟨rfl,hi,p⟩;have q:=j i σ H hi p;by_cases b:i<xs.length
 .refine .inr ((xs,xs[i],q,by simp[b]),c (i+1),fun σ' H' d=>(xs.length - (i+1),54,b,d),λx H' y=>?_);have(e,y):=y;subst e;exact hs i x σ _ (y xs q) p
 .have e:i=xs.length:=by lia
  subst e;exact .inl ((xs,q,j6 _),h σ H p)
def qK {lo:Int}{n:Nat}{g:TG}{tb:TS}{D:Ends}{σ:St}{H:Hp}(b:Nat->St->Hp->Prop)(d:b 0 σ H)
  (hs:∀i σ H,i<n->b i σ H->g (.int (lo+i)) σ H fun σ2 H2=>tb { D with nx:=b (i+1),ct:=b (i+1),bk:=D.nx } σ2 H2) (f:∀σ H,b n σ H->D.nx σ H) :
  ∃W:Nat->Nat->St->Hp->Prop,(∃m,W 0 m σ H)/\∀i m σ H,W i m σ H ->
   ((Itr lo n).stop i H/\D.nx σ H)\/((Itr lo n).go i H/\∃N:St->Hp->Prop,(∀σ' H',N σ' H'->∃m',m'<m/\W (i+1) m' σ' H')/\∀x H',(Itr lo n).yld i H x H'->g x σ H' fun σ2 H2=>tb { D with nx:=N,ct:=N,bk:=D.nx } σ2 H2):=by
 exists λi m σ H=>m=n - i/\i<=n/\b i σ H,((n,9,bAI _,d));rintro i m σ H ⟨rfl,hi,p⟩;by_cases a:i<n
 .refine .inr (a,b (i+1),fun σ' H' c=>(n - (i+1),54,a,c),λx H' y=>?_);have(e,y):=y;subst e y;exact hs i σ _ a p
 .have e:i=n:=by lia
  subst e;exact .inl (j6 _,f σ H p)
abbrev R2:=V->V->Hp->VK->Prop
def OpR (X:Cx)(f:Value->Value->Sem Value)(r:R2):Prop:=
 ∀bGG s σ H x y v u Q,Inv X bGG σ H s->RelV x v->RelV y u->r x y H Q ->
  wpAny (model X.prog X.w) X.A (f v u) (EP X bGG σ Q) X.xe s
def UnR (X:Cx)(f:Value->Sem Value)(r:V->Hp->VK->Prop):Prop:=
 ∀bGG s σ H x v Q,Inv X bGG σ H s->RelV x v->r x H Q ->
  wpAny (model X.prog X.w) X.A (f v) (EP X bGG σ Q) X.xe s
def cZ (X:Cx)(f:Value)(r:List V->Hp->VK->Prop):Prop:=
 ∀bGG s σ H xs us Q,Inv X bGG σ H s->Vals xs us->r xs H Q ->
  wpAny (model X.prog X.w) X.A (call f us) (EP X bGG σ Q) X.xe s
def bLe (X:Cx)(r:V->Hp->(Bool->Hp->Prop)->Prop):Prop:=
 ∀bGG s σ H x v Q,Inv X bGG σ H s->RelV x v->r x H Q ->
  wpAny (model X.prog X.w) X.A (truthy v) (TP X bGG σ Q) X.xe s
def tOp (r:R2)(ta tb:TE):TE:=fun σ H Q=>ta σ H λx H1=>tb σ H1 λy H2=>r x y H2 Q
def tUn (r:V->Hp->VK->Prop)(ta:TE):TE:=fun σ H Q=>ta σ H λx H1=>r x H1 Q
inductive rI (C:Int->Int->Prop)(g:Int->Int->V)(x:V)(y:V)(H:Hp)(Q:VK):Prop
 |mk (i j:_)(h0:x=.int i)(h1:y=.int j)(h2:C i j)(h3:Q (g i j) H):rI C g x y H Q
inductive rI0 (g:Int->Int->V)(x:V)(y:V)(H:Hp)(Q:VK):Prop
 |mk (i j:_)(h0:x=.int i)(h1:y=.int j)(h2:Q (g i j) H):rI0 g x y H Q
def rU (g:Int->V):V->Hp->VK->Prop:=λx H Q=>∃i,x=.int i/\Q (g i) H
def bEb (e:PE X a ta)(d:PE X b tb){c:bGE}{s:Shared}{σ:St}{H:Hp}{R:V->V->Hp->Prop}(I:Inv X c σ H s)
  (h:ta σ H λx H1=>tb σ H1 λy H2=>R x y H2) {Q:bGD} {f:Value->Value->Sem Value}
  (g:∀v u s2 x y H2,Inv X c σ H2 s2->RelV x v->RelV y u->R x y H2->wpAny (model X.prog X.w) X.A (f v u) Q X.xe s2) :
  wpAny (model X.prog X.w) X.A (eval a X.env) (λv s₁=>wpAny (model X.prog X.w) X.A (eval b X.env) (λu s₂=>wpAny (model X.prog X.w) X.A (f v u) Q X.xe s₂) X.xe s₁) X.xe s:=by
 refine thn (e c s σ H _ I h) ?_;rintro v s1 ⟨x,H1,I1,r1,q1⟩;refine thn (d c s1 σ H1 _ I1 q1) ?_;rintro u s2 ⟨y,H2,I2,r2,q2⟩;exact g v u s2 x y H2 I2 r1 r2 q2
def bKh {op:Operator}{r:R2}(k:OpR X (binaryOp op) r)(j:PE X a ta)(l:PE X b tb):PE X (.BinOp a op b pos) (tOp r ta tb):=by intro c s σ H Q I h;exact wpAny_BinOp (bEb j l I h λv u f x y d i g e q=>k c f σ d x y v u Q i g e q)
def bJw (d:UnR X (unaryOp op) r)(c:PE X a ta):PE X (.UnaryOp op a pos) (tUn r ta):=by intro b s σ H Q I h;exact UnaryOp_ (thn (c b s σ H _ I h) (by rintro v s1 ⟨x,H1,I1,r1,q1⟩;exact d b s1 σ H1 x v Q I1 r1 q1))
def opI {f:Value->Value->Sem Value}{C:Int->Int->Prop}{g:Int->Int->Int}
  (a:∀(i j:Int) (t u:Tok) (s:Shared) (Q:bGD) (E:bGD),C i j->Q (.int (g i j) s.toks) { s with toks:=s.toks+1 }->wpAny (model X.prog X.w) X.A (f (.int i t) (.int j u)) Q E s) :
  OpR X f (rI C λi j=>.int (g i j)):=by
 intro b s σ H x y v u Q I d c h;have(i,j,rfl,rfl,e,q):=h;have(t,rfl):=d;have(k,rfl):=c;exact a i j t k s _ _ e (.int (g i j),H,I.tok _,(3),q)
def bKj {f:Value->Value->Sem Value}{g:Int->Int->Int}
  (a:∀(i j:Int) (t u:Tok) (s:Shared) (Q:bGD) (E:bGD),Q (.int (g i j) s.toks) { s with toks:=s.toks+1 }->wpAny (model X.prog X.w) X.A (f (.int i t) (.int j u)) Q E s) :
  OpR X f (rI0 λi j=>.int (g i j)):=by
 intro b s σ H x y v u Q I d c h;have(i,j,rfl,rfl,q):=h;have(t,rfl):=d;have(e,rfl):=c;exact a i j t e s _ _ (.int (g i j),H,I.tok _,(3),q)
def bGm {f:Value->Value->Sem Value}{g:Int->Int->Bool}
  (a:∀(i j:Int) (t u:Tok) (s:Shared) (Q:bGD) (E:bGD),Q (.bool (g i j)) s->wpAny (model X.prog X.w) X.A (f (.int i t) (.int j u)) Q E s) :
  OpR X f (rI0 λi j=>.bl (g i j)):=by
 intro b s σ H x y v u Q I d c h;have(i,j,rfl,rfl,q):=h;have(t,rfl):=d;have(e,rfl):=c;exact a i j t e s _ _ (.bl (g i j),H,I,4,q)
def bK4 (i j:Int):Prop:=0<j/\j<1073741824
def bK0 (i j:Int):Prop:=0<=j/\j<=1000000/\i.natAbs<2 ^ 64
def bH7 (i j:Int):Prop:=(-(2 ^ 64)<i/\i<2 ^ 64)\/(-(2 ^ 64)<j/\j<2 ^ 64)
def bH7.ok (h:bH7 i j):IntMulOk i j:=by
 rcases h with⟨a,b⟩|⟨a,b⟩
 .exact .of_left (intBits_le_64 a b)
 .exact .of_right (intBits_le_64 a b)
def dX:OpR X (binaryOp .Add) (rI0 λi j=>.int (i+j)):=bKj λ_ _ _ _ _ _ _ q=>add_int q
def qO:OpR X (binaryOp .Sub) (rI0 λi j=>.int (i - j)):=bKj λ_ _ _ _ _ _ _ q=>sub_int q
def zZ:OpR X (binaryOp .Mult) (rI bH7 λi j=>.int (i * j)):=opI λ_ _ _ _ _ _ _ a q=>mul_int q a.ok
def aUf:OpR X (binaryOp .FloorDiv) (rI bK4 λi j=>.int (i / j)):=opI λi j _ _ _ _ _ a q=>by have c:=a.1;have b:=a.2;exact floordiv_int (5) (by rw[bFJ i (5)];exact q) (.inl (PyProof.noPylong_small (5)))
def wI:OpR X (binaryOp .Mod) (rI (λ_ j=>0<j) λi j=>.int (i % j)):=opI λi j _ _ _ _ _ a q=>by have b:=a;exact mod_int' (5) (by rw[bFK i (5)];exact q)
def aK0:OpR X (binaryOp .Pow) (rI bK0 λi j=>.int (i ^ j.toNat)):=opI λ_ _ _ _ _ _ _ a q=>pow_int_small a.1 a.2.1 a.2.2 q
def unI {f:Value->Sem Value}{g:Int->Int}
  (a:∀(i:Int) (t:Tok) (s:Shared) (Q:bGD) (E:bGD),Q (.int (g i) s.toks) { s with toks:=s.toks+1 }->wpAny (model X.prog X.w) X.A (f (.int i t)) Q E s) :
  UnR X f (rU λi=>.int (g i)):=by
 intro b s σ H x v Q I c h;have(i,rfl,q):=h;have(t,rfl):=c;exact a i t s _ _ (.int (g i),H,I.tok _,(3),q)
def aPy:UnR X (unaryOp .USub) (rU λi=>.int (-i)):=unI λ_ _ _ _ _ q=>neg_int q
def scal:V->V->Bool
 |.non,.non=>true|.non,.int _=>true|.int _,.non=>true|.non,.bl _=>true|.bl _,.non=>true|.non,.str _=>true|.str _,.non=>true
 |.int _,.int _=>true|.bl _,.bl _=>true|.str _,.str _=>true|.byt _,.byt _=>true
 |.int _,.str _=>true|.str _,.int _=>true|.bl _,.str _=>true|.str _,.bl _=>true
 |_,_=>false
def rEq:R2:=λx y H Q=>scal x y=true/\Q (.bl (decide (x=y))) H
def rNe:R2:=λx y H Q=>scal x y=true/\Q (.bl (!decide (x=y))) H
def aUi:decide (V.int i=V.int j)=(i == j):=by rw[bCL];simp
def aZ5:decide (V.bl i=V.bl j)=(i == j):=by rw[bCL];simp
def aUj:decide (V.str i=V.str j)=(i == j):=by rw[bCL];simp
def aT3:decide (V.byt i=V.byt j)=(i.toList == j.toList):=by rw[bCL];cases i;cases j;simp
section
variable {X:Cx}{a b c:Expr}
def dB (I:Inv X bGG σ H s)(q:Q (.bl k) H)(e:k=k'):EP X bGG σ Q (.bool k') s:=by subst e;exact(.bl k,H,I,4,q)
def bZ:OpR X (compareOp .Eq) rEq:=by
 intro e s σ H x y v u Q I d a h;have(c,q):=h;cases x with
 |non=>
  cases d;cases y with
  |non=>cases a;exact PySem.EqNone.eq_none_none (dB I q (9))
  |bl j=>cases a;exact PySem.EqNone.eq_none_bool (dB I q (9))
  |int j=>have(b,rfl):=a;exact PySem.EqNone.eq_none_int (dB I q (9))
  |str j=>have(b,rfl):=a;exact PySem.EqNone.eq_none_str (dB I q (9))
  |_=>exact absurd (show false=true from c) z9
 |bl i=>
  cases d;cases y with
  |non=>cases a;exact PySem.EqNone.eq_bool_none (dB I q (9))
  |bl j=>cases a;exact eq_bool (dB I q aZ5)
  |str j=>have(b,rfl):=a;exact PySem.EqMixed.eq_bool_str (dB I q (9))
  |_=>exact absurd (show false=true from c) z9
 |int i=>
  have(t,rfl):=d;cases y with
  |non=>cases a;exact PySem.EqNone.eq_int_none (dB I q (9))
  |int j=>have(b,rfl):=a;exact eq_int (dB I q aUi)
  |str j=>have(b,rfl):=a;exact PySem.EqMixed.eq_int_str (dB I q (9))
  |_=>exact absurd (show false=true from c) z9
 |str i=>
  have(t,rfl):=d;cases y with
  |non=>cases a;exact PySem.EqNone.eq_str_none (dB I q (9))
  |bl j=>cases a;exact PySem.EqMixed.eq_str_bool (dB I q (9))
  |int j=>have(b,rfl):=a;exact PySem.EqMixed.eq_str_int (dB I q (9))
  |str j=>have(b,rfl):=a;exact eq_str (dB I q aUj)
  |_=>exact absurd (show false=true from c) z9
 |byt i=>
  have(t,rfl):=d;cases y with
  |byt j=>have(b,rfl):=a;exact PySem.W.eq_bytes (dB I q aT3)
  |_=>exact absurd (show false=true from c) z9
 |_=>cases y <;> exact absurd (show false=true from c) z9
def pY:OpR X (compareOp .NotEq) rNe:=by
 intro e s σ H x y v u Q I d a h;have(c,q):=h;cases x with
 |non=>
  cases d;cases y with
  |non=>cases a;exact PySem.EqNone.ne_none_none (dB I q (9))
  |bl j=>cases a;exact PySem.EqNone.ne_none_bool (dB I q (9))
  |int j=>have(b,rfl):=a;exact PySem.EqNone.ne_none_int (dB I q (9))
  |str j=>have(b,rfl):=a;exact PySem.EqNone.ne_none_str (dB I q (9))
  |_=>exact absurd (show false=true from c) z9
 |bl i=>
  cases d;cases y with
  |non=>cases a;exact PySem.EqNone.ne_bool_none (dB I q (9))
  |bl j=>cases a;exact ne_bool (dB I q (congrArg not aZ5))
  |str j=>have(b,rfl):=a;exact PySem.EqMixed.ne_bool_str (dB I q (9))
  |_=>exact absurd (show false=true from c) z9
 |int i=>
  have(t,rfl):=d;cases y with
  |non=>cases a;exact PySem.EqNone.ne_int_none (dB I q (9))
  |int j=>have(b,rfl):=a;exact ne_int (dB I q (congrArg not aUi))
  |str j=>have(b,rfl):=a;exact PySem.EqMixed.ne_int_str (dB I q (9))
  |_=>exact absurd (show false=true from c) z9
 |str i=>
  have(t,rfl):=d;cases y with
  |non=>cases a;exact PySem.EqNone.ne_str_none (dB I q (9))
  |bl j=>cases a;exact PySem.EqMixed.ne_str_bool (dB I q (9))
  |int j=>have(b,rfl):=a;exact PySem.EqMixed.ne_str_int (dB I q (9))
  |str j=>have(b,rfl):=a;exact ne_str (dB I q (congrArg not aUj))
  |_=>exact absurd (show false=true from c) z9
 |byt i=>
  have(t,rfl):=d;cases y with
  |byt j=>have(b,rfl):=a;exact PySem.W.ne_bytes (dB I q (congrArg not aT3))
  |_=>exact absurd (show false=true from c) z9
 |_=>cases y <;> exact absurd (show false=true from c) z9
def aM9:OpR X (compareOp .Lt) (rI0 λi j=>.bl (decide (i<j))):=bGm λ_ _ _ _ _ _ _ q=>lt_int q
def oV:OpR X (compareOp .LtE) (rI0 λi j=>.bl (decide (i<=j))):=bGm λ_ _ _ _ _ _ _ q=>le_int q
def aBb:OpR X (compareOp .Gt) (rI0 λi j=>.bl (decide (j<i))):=bGm λ_ _ _ _ _ _ _ q=>gt_int q
def aXa:OpR X (compareOp .In) (λx y H Q=>∃i j,x=.str i/\y=.str j/\Q (.bl (not (Builtin.Str.occurrences j i 0 j.length 1).isEmpty)) H):=by intro a s σ H x y v u Q I c b h;have(i,j,rfl,rfl,q):=h;have(t,rfl):=c;have(d,rfl):=b;exact in_str (dB I q rfl)
def aR0:OpR X (compareOp .Is) (λx y H Q=>y=.non/\Q (.bl (decide (x=.non))) H):=by
 intro b s σ H x y v u Q I a c h;have(rfl,q):=h;cases c;refine is_none_gen (dB I q ?_);cases x <;> first
  |(cases a;rfl)
  |(have(t,rfl):=a;rfl)
def aTx:OpR X (compareOp .IsNot) (λx y H Q=>y=.non/\Q (.bl (!decide (x=.non))) H):=by
 intro b s σ H x y v u Q I a c h;have(rfl,q):=h;cases c;refine isnot_none_gen (dB I q ?_);cases x <;> first
  |(cases a;rfl)
  |(have(t,rfl):=a;rfl)
def OpR.or (h:OpR X f r)(h':OpR X f r'):OpR X f (λx y H Q=>r x y H Q\/r' x y H Q):=by
 intro a s σ H x y v u Q I c b q;rcases q with q|q
 .exact h a s σ H x y v u Q I c b q
 .exact h' a s σ H x y v u Q I c b q
def tQ (b:Expr)(h:!(op≠.In,1))(d:!(op≠.NotIn,1)):behindInMarks op b=false:=by
 have a:(op == CmpOp.In)=false:=by cases op <;> first|rfl|exact absurd rfl h
 have c:(op == CmpOp.NotIn)=false:=by cases op <;> first|rfl|exact absurd rfl d
 cases b <;> simp[behindInMarks,a,c]
def bEy {op:CmpOp}{r:R2}(l:OpR X (compareOp op) r)(k:PE X a ta)(m:PE X b tb)(j:behindInMarks op b=false):PE X (.Compare a [op] [b] pos) (tOp r ta tb):=by intro c s σ H Q I h;exact wpAny_Compare1 (bEb k m I h λv u f x y d i g e q=>l c f σ d x y v u Q i g e q) j
inductive aS5 (Q:Bool->Hp->Prop)(x:V)(H':Hp):Prop
 |mk (k:_)(h0:x=.bl k)(h1:Q k H'):aS5 Q x H'
def aHj (t:TE):TT:=fun σ H Q=>t σ H (aS5 Q)
def bC2 {op:CmpOp}{r:R2}(E:OpR X (compareOp op) r)(D:PE X a ta)(G:PE X b tb)(C:behindInMarks op b=false):PT X (.Compare a [op] [b] pos) (aHj (tOp r ta tb)):=by
 intro d s σ H Q I h;refine wpAny_isTrue_Compare1 (thn (D d s σ H _ I h) λv q (x,j,g,l,t)=>thn (G d q σ j _ g t) λu n (y,i,B,o,w)=>
  thn (E d n σ i x y v u _ B l o w) λc F (z,f,A,p,k,e,m)=>?_) C
 subst e;cases p;exact bBL (f,A,m)
def aIv (r r':R2)(ta tb tc:TE):TE:=fun σ H Q=>ta σ H λx H1=>tb σ H1 λy H2=>r x y H2 λz H3=>∃k,z=.bl k /\
 (if k=true then tc σ H3 λw' H4=>r' y w' H4 Q else Q (.bl false) H3)
def aYr (J:OpR X (compareOp op) r)(D:OpR X (compareOp op') r')(G:PE X a ta)(L:PE X b tb)(K:PE X c tc)
  (F:!(lastMarks [op,op'] [b,c]=false,4)):PE X (.Compare a [op,op'] [b,c] pos) (aIv r r' ta tb tc):=by
 intro f s σ H Q I h;refine Compare_chain (thn (G f s σ H _ I h) λv A (x,o,m,p,B)=>chain_link (thn (L f A σ o _ m B) λu q (y,n,E,j,C)=>
  thn (J f q σ n x y v u _ E p j C) λd t (z,g,l,w,k,e,i)=>?_)) F
 subst e;cases w;refine bBL ?_;cases k with
 |false=>exact ite_ff (.bl false,g,l,4,i)
 |true=>exact ite_tt (chain_last (thn (K f t σ g _ l i) (by rintro w' s4 ⟨z',H4,I4,r4,q4⟩;exact D f s4 σ H4 y z' u w' Q I4 j r4 q4)))
def aY4 (L:OpR X (compareOp op) r)(q:OpR X (compareOp op') r')(K:PE X a ta)(O:PE X b tb)(M:PE X c tc)
  (J:!(lastMarks [op,op'] [b,c]=false,4)):PT X (.Compare a [op,op'] [b,c] pos) (aHj (aIv r r' ta tb tc)):=by
 intro f s σ H Q I h;refine isTrue_chain (thn (K f s σ H _ I h) λv D (x,A,m,n,E)=>test_link (thn (O f D σ A _ m E) λu o (y,w,G,l,F)=>
  thn (L f o σ w x y v u _ G n l F) λd B (z,g,i,p,k,e,j)=>?_)) J
 subst e;cases p;refine bBL ?_;cases k with
 |false=>have(N,t,C):=j;cases t;exact ite_ff (g,i,C)
 |true=>refine ite_tt (test_last (thn (M f B σ g _ i j) ?_));rintro w' s4 ⟨z',H4,I4,r4,q4⟩;refine thn (q f s4 σ H4 y z' u w' _ I4 l r4 q4) ?_;rintro d' s5 ⟨z2,H5,I5,r5,k2,e2,q5⟩;subst e2;cases r5;exact bBL (H5,I5,q5)
def bGt (K:bGC)(x:V)(H:Hp)(k:Bool):Prop:=
 match x with
 |.non=>k=false
 |.bl b=>k=b
 |.int i=>k=(i != 0)
 |.str y=>y.length<=sizeLine/\k=((y.length:Int) != 0)
 |.byt y=>y.size<=sizeLine/\k=((y.size:Int) != 0)
 |.ref p=>(∃xs,SqL K H p xs/\k=!xs.isEmpty)\/(∃xs,SqT K H p xs/\k=!xs.isEmpty)\/∃kvs,H p=some (.dK kvs)/\k=!kvs.isEmpty
 |_=>False
def aSg {κ:Type}{kvs:List (κ × V)}{vs:List (κ × Value)}(r:KV kvs vs):(!vs.isEmpty)=!kvs.isEmpty:=by cases r <;> rfl
def aE5 (r:Vals xs its):(!its.toArray.isEmpty)=!xs.isEmpty:=by cases r <;> simp
def aAc:(sizeLine:Nat)<2 ^ 63:=by rw[sizeLine_eq];decide
def bGj:bLe X (λx H Q=>∃k,bGt X.K x H k/\Q k H):=by
 intro u s σ H x v Q I f h;have(k,e,q):=h;have B:=aAc;have C:sizeLine=16777216:=sizeLine_eq;cases x with
 |non=>cases f;have a:k=false:=e;subst a;exact truthy_none (H,I,q)
 |bl b=>cases f;have a:k=b:=e;subst a;exact bBL (H,I,q)
 |int i=>have(t,rfl):=f;have a:k=(i != 0):=e;subst a;exact PySem.P.truthy_int (H,I,q)
 |str y=>have(t,rfl):=f;obtain⟨A,a⟩:y.length<=sizeLine/\k=((y.length:Int) != 0):=e;subst a;exact PySem.P.truthy_str (5) (H,I.tok _,q)
 |byt y=>have(t,rfl):=f;obtain⟨A,a⟩:y.size<=sizeLine/\k=((y.size:Int) != 0):=e;subst a;exact PySem.W.truthy_bytes (5) (H,I.tok _,q)
 |ref p=>
  cases f;have a:(∃d,SqL X.K H p d/\k=!d.isEmpty)\/(∃d,SqT X.K H p d/\k=!d.isEmpty)\/∃kvs,H p=some (.dK kvs)/\k=!kvs.isEmpty:=e;rcases a with⟨d,g,a⟩|⟨d,g,a⟩|⟨kvs,g,a⟩
  .subst a;have(n,r,l,o):=I.list g;have c:=r.length;exact wpAny_truthy_list l.isList (by simp only[j7];lia) (H,I.tok _,by rw[aE5 r];exact q)
  .subst a;have(n,r,l,o):=I.tuple g;have c:=r.length;exact truthy_tuple l (by simp only[j7];lia) (H,I.tok _,by rw[aE5 r];exact q)
  .subst a;obtain⟨o,z,j,r,m⟩:kvs.length<=sizeLine/\(p == sysModules)=false/\∃j,KV kvs j/\s.heap.DictOf (cO X.prog X.w) p j:=I.hok p _ g;have c:kvs.length=j.length:=Paired.length r;exact wpAny_truthy_dict z m (5) (H,I.tok _,by rw[aSg r];exact q)
 |_=>exact (show False from e).elim
def aZu (c:PE X a ta)(d:∀whole,isTrue a X.env whole=(do let v <-whole;standAt a.pos;holding [v] (truthy v))) :
  PT X a (fun σ H Q=>ta σ H λx H'=>∃k,bGt X.K x H' k/\Q k H'):=by
 intro b s σ H Q I h;exact isTrue_plain (thn (c b s σ H _ I h) (by rintro v s1 ⟨x,H1,I1,r1,q1⟩;exact bGj b s1 σ H1 x v Q I1 r1 q1)) (d _)
def aDg:OpR X (binaryOp .Add) (λx y H Q=>∃i j,x=.str i/\y=.str j/\i.length+j.length<=sizeLine/\Q (.str (i++j)) H):=by intro a s σ H x y v u Q I c b h;have(i,j,rfl,rfl,d,q):=h;have(t,rfl):=c;have(e,rfl):=b;exact add_str (λe f=>(.str (i++j),H,I.tok _,(3),q)) d
def aO9 (b:Expr):Prop:=∀o i,subscripted b false o i=operate [o,i] (getItem o i)
def aNd (A:PE X a ta)(B:PE X b tb)(hs:aO9 b) :
  PE X (.Subscript a b pos) (tOp (λx y H Q=>∃z i c,x=.str z/\y=.int i/\0<=i/\i<2 ^ 63/\i<z.length/\z.cps[i.toNat]?=some c/\Q (.str ⟨#[c]⟩) H) ta tb):=by
 intro d s σ H Q I h;refine Subscript_ (bEb A B I h λv u j x y f w l g q=>?_);have(z,i,c,rfl,rfl,m,o,p,n,q):=q;have(t,rfl):=l;have(C,rfl):=g;have e:seqIndex? i z.length=some i.toNat:=PySem.StrLaws.seqIndex_nonneg m p;exact tail_any (typeIs_str j z t) slot_str_getitem.lookup (getItem_str (c:=c) (by have k:decide (i < -(2 ^ 63:Int))=false:=j9 (5);have r:decide (i ≥ 2 ^ 63)=false:=j9 (5);rw[k,r] <;> rfl) (by rw[e];exact n) (.str ⟨#[c]⟩,f,w.tok _,(3),q)) (hs _ _)
def vals1 (r:Vals [x] us):∃u,us=[u]/\RelV x u:=by
 cases r with
 |cons r1 r2=>cases r2;exact(3,r1)
def vals2 (r:Vals [x,y] us):∃u w',us=[u,w']/\RelV x u/\RelV y w':=by
 cases r with
 |cons r1 r2=>
  cases r2 with
  |cons r3 r4=>cases r4;exact(03,r1,r3)
def aYp:cZ X (.builtin "abs") (λxs H Q=>∃i,xs=[.int i]/\Q (.int (if i<0 then -i else i)) H):=by intro a s σ H xs b Q I r h;have(i,rfl,q):=h;have(u,rfl,t,rfl):=vals1 r;exact call_abs_int λu c=>(.int (if i<0 then -i else i),H,I.tok _,(3),q)
def aH8 (g:X.calm=true):cZ X (.builtin "min") (λxs H Q=>∃i j,xs=[.int i,.int j]/\Q (.int (if j<i then j else i)) H):=by
 intro b s σ H xs c Q I r h;have(i,j,rfl,q):=h;have(u,d,rfl,(t,rfl),(l,rfl)):=vals2 r;refine min_two_ints (I.ok.hd g) λe f k=>(_,H,I.kept k,8,q);by_cases a:j<i
 .rw[if_pos a,if_pos a];exact(3)
 .rw[if_neg a,if_neg a];exact(3)
def gU:cZ X (.type "int") (λxs H Q=>(∃i,xs=[.int i]/\Q (.int i) H)\/∃k,xs=[.bl k]/\Q (.int (if k then 1 else 0)) H):=by
 intro a s σ H xs c Q I r h;rcases h with⟨i,rfl,q⟩|⟨k,rfl,q⟩
 .have(u,rfl,t,rfl):=vals1 r;exact call_int_int (.int i,H,I,(3),q)
 .have(u,rfl,b):=vals1 r;cases b;exact call_int_bool (.int (if k then 1 else 0),H,I.tok _,(3),q)
end
structure aRo (h:Heap)(x dx C:Addr)(mA:bGF):Prop where
 obj:h.get? x=some (PySem.W.instObj C dx)
 ns:h.Ns1 dx mA
 ne:dx≠x
def aU0 {h:Heap}{dx:Addr}{mA:bGF}(n:h.Ns1 dx mA):∃od,h.get? dx=some od/\∀name,PySem.W.lookIn name od=some (mA name):=by
 have(o,c,l,g,k,f,_,d):=n;refine(o,g,λname=>?_);have e:=d name;unfold nsFind findBy at e;rw[<-Array.find?_toList] at e;unfold PySem.W.lookIn;rw[k];dsimp only
 split
 .rename_i y q;rw[q] at e;exact congrArg some e
 .rename_i q;rw[q] at e;have a:c.toList.any (·.refKey)=false:=by rw[List.any_eq_false];intro y i;have(z,t,b):=f y (Array.mem_toList_iff.mp i);simp[DictEntry.refKey,b]
  have j:¬ c.toList.any (·.refKey)=true:=by rw[a];exact z9
  rw[if_neg j];exact congrArg some e
def aRo.look (I:aRo h x dx C mA):∃od,PySem.W.InstAt h x (PySem.W.instObj C dx) C (some od)/\∀name,PySem.W.lookIn name od=some (mA name):=
 let (od,ho,hl):=aU0 I.ns
 (od,(I.obj,44,ho),hl)
section
variable {prog:Program}{w:World}{A:Around}{E:bGD}{s:Shared}{K:bGC}{x dx C f:Addr}{mA:bGF}{name:Str}{v:Value}
def bDl (X:K.In s.heap)(I:aRo s.heap x dx C mA)(d:PySem.W.plainGet K C name=true)(f:PySem.W.hasDictIn K C=true)
  (c:PySem.W.findIn K (.ref C) name=some none) (g:mA name=some v) (a:PySem.W.handedIn v=true) (h:Q v { s with toks:=s.toks+1 }) :
  wpAny (model prog w) A (getAttr (.ref x) name expr) Q E s:=by
 have(e,J,b):=I.look;exact PySem.W.get_value X J (PySem.W.plainGet_of d).1 (PySem.W.findObj_own f c rfl (by rw[b,g])) a h
def aX3 (X:K.In s.heap)(I:aRo s.heap x dx C mA)(a:PySem.W.plainGet K C name=true)
  (d:PySem.W.findIn K (.ref C) name=some (some (.ref f))) (e:PySem.W.isFn K (.ref f)=true) (g:mA name=none) (h:Q (.ref f,[.ref x],) s) :
  wpAny (model prog w) A (getMethod (.ref x) name pl) Q E s:=by
 have(b,J,c):=I.look;exact PySem.W.method_fn X J (PySem.W.plainGet_of a).1 (PySem.W.plainGet_of a).2 d (beq_iff_eq.mp e) (by show (PySem.W.lookIn name b).map (·.isSome)=some false;rw[c,g];rfl) h
def bEw (X:K.In s.heap)(I:aRo s.heap x dx C mA)
  (hs:PySem.W.findIn K (.ref C) "__setattr__"=some (some (.builtin "object.__setattr__"))) (q:PySem.W.plainOver K C=true) (p:PySem.W.takerIn K C name=some none) (o:PySem.W.hasDictIn K C=true)
  (n:PySem.Within mA ns) (hsz:ns.length<=sizeLine)
  (h:∀h',aRo h' x dx C (λy=>if y=name then some v else mA y)->Heap.SameBut dx s.heap h'->Q () { s with heap:=h',toks:=s.toks+2 }) :
  wpAny (model prog w) A (setAttr (.ref x) name v) Q E s:=by
 have(r,J,t):=I.look;refine PySem.W.set_plain X J hs (PySem.W.osa_open X J q p λb=>?_);have(m,j,g):=PySem.W.any_some o;have k:=I.obj;refine b8 (d9 (b8 (b8 (wpAny_loadPart k (b8 (PySem.W.Looks.here (PySem.W.looks_clsIn X j) ?_))))));rw[g];refine d9 (b8 (d9 (b8 ?_)));refine wpAny_nsSet1 I.ns λh' a c=>?_;have(u,l,i,e,f,d):=a.count (PySem.Within.cons name v n);refine b8 (wpAny_lookBehind e (by rw[f];exact pastItsLine_dict (bAM d (by rw[p8];lia))) ?_);exact d9 (h _ ((c.2 _ (Ne.symm I.ne)).trans I.obj,a,I.ne) c)
def aXp (X:K.In s.heap)(b:PySem.W.makesIn K C=true)
  (hi:PySem.W.findIn K (.ref C) "__init__"=some (some (.ref f))) (c:PySem.W.typeIn K (.ref f)=some (.type "function"))
  (h:codeAny (model prog w) (A.under (.builtin "type.__call__" (.ref C::vs,kw))) (.call (.ref f) (.ref (s.heap.objs.size+1)::vs,kw)) (PySem.W.InitBack (s.heap.objs.size+1) R)
   { s with heap:=(s.heap.push PySem.W.emptyDict).push (PySem.W.instObj C s.heap.objs.size) }) :
  codeAny (model prog w) A (.call (.ref C) (vs,kw)) R s:=by
 have(i,g,d,t,e):=s;exact PySem.W.make_core (PySem.W.makes_of X b) (PySem.W.looks_findIn X hi) (λa=>PySem.W.bind_fn X a c) (.inl rfl) h
end
def uT (f:Str)(v:V):List (Str × V)->List (Str × V)
 |[]=>[(f,v,)]
 |(g,x,)::r=>if g=f then (g,v,)::r else (g,x,)::uT f v r
def aOo (f g:Str)(v:V):∀fs:List (Str × V),(uT f v fs).lookup g=if g=f then some v else fs.lookup g:=by
 intro d
 induction d with
 |nil=>
  show List.lookup g [(f,v,)]=_;by_cases h:g=f
  .have a:(g == f)=true:=beq_iff_eq.mpr h;simp only[List.lookup,a,if_pos h]
  .have a:=beq_eq_false_iff_ne.mpr h;simp only[List.lookup,a,if_neg h]
 |cons pz r c=>
  have(k,x):=pz;have c:=c;rw[show uT f v ((k,x,)::r)=(if k=f then (k,v,)::r else (k,x,)::uT f v r) from rfl];by_cases b:k=f
  .rw[if_pos b];by_cases h:g=k
   .have a:=beq_iff_eq.mpr h;simp only[List.lookup,a,if_pos (h.trans b)]
   .have a:=beq_eq_false_iff_ne.mpr h;simp only[List.lookup,a,if_neg (λe:g=f=>h (e.trans b.symm))]
  .rw[if_neg b];by_cases h:g=k
   .have a:=beq_iff_eq.mpr h;simp only[List.lookup,a,if_neg (λe:g=f=>b (h.symm.trans e))]
   .have a:=beq_eq_false_iff_ne.mpr h;simp only[List.lookup,a];exact c
def aHo (f:Str)(v:V):∀fs:List (Str × V),f∈(uT f v fs).map (·.1)/\∀g,g∈fs.map (·.1)->g∈(uT f v fs).map (·.1):=by
 intro b
 induction b with
 |nil=>exact(by simp[uT],λg h=>by simp at h)
 |cons pz r ih=>
  have(k,x):=pz;have(c,d):=ih;rw[show uT f v ((k,x,)::r)=(if k=f then (k,v,)::r else (k,x,)::uT f v r) from rfl];by_cases a:k=f
  .rw[if_pos a];subst a;exact(9,λg h=>by simpa using h)
  .rw[if_neg a];refine(8,λg h=>?_)
   .rw[bAE];exact j8 _ c
   .rw[bAE] at h ⊢;rcases List.mem_cons.mp h with e|e
    .exact List.mem_cons.mpr (.inl e)
    .exact j8 _ (d g e)
def aPd (f:Str)(v:V):∀fs:List (Str × V),(uT f v fs).length<=fs.length+1:=by
 intro c
 induction c with
 |nil=>simp[uT]
 |cons pz r a=>
  have(k,x):=pz;have a:=a;rw[show uT f v ((k,x,)::r)=(if k=f then (k,v,)::r else (k,x,)::uT f v r) from rfl];by_cases b:k=f
  .rw[if_pos b,p8,p8];lia
  .rw[if_neg b,p8,p8];lia
def uV.some_of (r:uV (some v) o):∃u,o=some u/\RelV v u:=by
 cases o with
 |none=>exact (show False from r).elim
 |some u=>exact(u,4,r)
def uV.none_of (r:uV none o):o=none:=by
 cases o with
 |none=>rfl
 |some u=>exact (show False from r).elim
def aU6 (r:RelV v u):PySem.W.handedIn u=true:=by
 cases v with
 |non=>cases (show u=Value.none from r);rfl
 |bl b=>cases (show u=Value.bool b from r);rfl
 |int i=>have(t,e):=(show ∃t,u=Value.int i t from r);cases e;rfl
 |str x=>have(t,e):=(show ∃t,u=Value.str x t from r);cases e;rfl
 |byt b=>have(t,e):=(show ∃t,u=Value.bytes b t from r);cases e;rfl
 |flt b=>have(t,e):=(show ∃t,u=Value.float b t from r);cases e;rfl
 |ref a=>cases (show u=Value.ref a from r);rfl
 |ty n=>cases (show u=Value.type n from r);rfl
def aLg (g:HOk P w H h)(e:H a=some (.ins C dx fs)):∃mA,aRo h a dx C mA/\(∀f,uV (fs.lookup f) (mA f))/\PySem.Within mA (fs.map (·.1))/\fs.length<=1000/\H dx=some (.own a):=by have(d,z,c,b,mA,n,r,q):=(show gK P w H h a (.ins C dx fs) from g a _ e);exact(mA,(b,n,c),r,q,z,d)
structure Cls (K:bGC)(C:Addr):Prop where
 pg:PySem.W.plainGet K C Str.empty=true
 hd:PySem.W.hasDictIn K C=true
 po:PySem.W.plainOver K C=true
 sa:PySem.W.findIn K (.ref C) "__setattr__"=some (some (.builtin "object.__setattr__"))
def Cls.get {K:bGC}{C:Addr}(c:Cls K C)(f:Str):PySem.W.plainGet K C f=true:=c.pg
def lG (K:bGC)(C:Addr)(f:Str):Prop:=PySem.W.findIn K (.ref C) f=some none
def lG.taker {K:bGC}{C:Addr}{f:Str}(n:lG K C f):PySem.W.takerIn K C f=some none:=by unfold PySem.W.takerIn;rw[show PySem.W.findIn K (.ref C) f=some none from n];rfl
structure Meth (K:bGC)(C:Addr)(m:Str)(f:Addr):Prop where
 at_:PySem.W.findIn K (.ref C) m=some (some (.ref f))
 fn:PySem.W.isFn K (.ref f)=true
 kp:PySem.W.keepIn K (.ref f)=true
section
variable {X:Cx}{bGG:bGE}{σ:St}{H:Hp}{s:Shared}{a C dx:Addr}{fs:List (Str × V)}{f:Str}{v:V}{A:Around}{E:bGD}
def aQb (I:Inv X bGG σ H s)(e:H a=some (.ins C dx fs))(c:Cls X.K C)(n:lG X.K C f)(l:fs.lookup f=some v)
  (h:∀u s',Inv X bGG σ H s'->RelV v u->Q u s'):wpAny (model X.prog X.w) A (getAttr (.ref a) f b) Q E s:=by
 have(i,O,r,_,_,_):=aLg I.hok e;have(u,g,d):=uV.some_of (by rw[<-l];exact r f);exact bDl I.kIn O (c.get f) c.hd n g (aU6 d) (h u _ (I.tok _) d)
def aD9 (I:Inv X bGG σ H s)(e:H a=some (.ins C dx fs))(c:Cls X.K C)(k:Meth X.K C m g)(l:fs.lookup m=none)
  (h:Q (.ref g,[.ref a],) s):wpAny (model X.prog X.w) A (getMethod (.ref a) m pl) Q E s:=by
 have(d,O,r,_,_,_):=aLg I.hok e;have b:=uV.none_of (by rw[<-l];exact r m);exact aX3 I.kIn O (c.get m) k.at_ k.fn b h
def aRq {y:V}{u:Value}{Q:Unit->Shared->Prop}(I:Inv X bGG σ H s)(e:H a=some (.ins C dx fs))(c:Cls X.K C)(n:lG X.K C f)(hl:fs.length<1000)(D:RelV y u)
  (h:∀s',Inv X bGG σ (upd H a (.ins C dx (uT f y fs))) s'->Q () s'):wpAny (model X.prog X.w) A (setAttr (.ref a) f u) Q E s:=by
 have(j,O,r,k,_,i):=aLg I.hok e;have p:(fs.map (·.1)).length<=sizeLine:=by rw[d7,sizeLine_eq];lia
 refine bEw I.kIn O c.sa c.po n.taker c.hd k p λm d l=>h _ ?_;have t:∃o,m.get? dx=some o:=let (o,00,e',_):=d.ns;(o,e')
 refine I.write (x:=a) (e:=dx) (by rw[e];exact True.intro) (.inr i) (λb q B z=>(l.2 b B).trans z) t ?_;refine(by rw[bC O.ne];exact i,8,O.ne,d.obj,_,d.ns,λg=>?_,λg v=>?_)
 .have:=aPd f y fs;lia
 .show uV ((uT f y fs).lookup g) (if g=f then some u else j g);rw[aOo];by_cases q:g=f
  .rw[if_pos q,if_pos q];exact D
  .rw[if_neg q,if_neg q];exact r g
 .by_cases q:g=f
  .rw[q];exact (aHo f y fs).1
  .refine (aHo f y fs).2 g (k g λz=>v ?_);show (if g=f then some u else j g)=none;rw[if_neg q];exact z
def Inv.made (I:Inv X bGG σ H s):Inv X bGG σ (upd (upd H s.heap.objs.size (.own (s.heap.objs.size+1))) (s.heap.objs.size+1) (.ins C s.heap.objs.size []))
  { s with heap:=(s.heap.push PySem.W.emptyDict).push (PySem.W.instObj C s.heap.objs.size) }:=by
 have c:(s.heap.push PySem.W.emptyDict).get? s.heap.objs.size=some PySem.W.emptyDict:=m5 s.heap rfl;have g:((s.heap.push PySem.W.emptyDict).push (PySem.W.instObj C s.heap.objs.size)).get? (s.heap.objs.size+1)=some (PySem.W.instObj C s.heap.objs.size):=by
  have:=m5 (s.heap.push PySem.W.emptyDict) (o:=PySem.W.instObj C s.heap.objs.size) rfl
  rwa [bBT] at this
 have h:(s.heap.push PySem.W.emptyDict).Ns s.heap.objs.size (λ_=>none):=(PySem.W.emptyDict,#[],_,c,4,(λe i=>absurd i (9)),λ_=>rfl);have f:=I.laid (a:=s.heap.objs.size) (o:=.own (s.heap.objs.size+1)) (h':=s.heap.push PySem.W.emptyDict) (t':=s.toks) (λb u q=>c7 _ q) (j6 _) (_,c);refine f.laid (a:=s.heap.objs.size+1) (o:=.ins C s.heap.objs.size []) (t':=s.toks) (λb u q=>c7 _ q) (bFH (bBT _ _)) ?_;have d:s.heap.objs.size≠s.heap.objs.size+1:=bAA (bDP _);refine(by rw[bC d,aO],bAI _,d,g,λ_=>none,(Heap.Ns1.of_empty h).at λo q=>c7 _ q,λ_=>True.intro,λy j=>absurd rfl j)
def bC3 (a:attributeBase e f env (eval e env)=eval e env)
  (h:wpAny (model prog w) A (eval e env) (λo s₁=>wpAny (model prog w) A (getAttr o f true) Q E s₁) E s):wpAny (model prog w) A (eval (.Attribute e f pos) env) Q E s:=
 Attribute_any_ h (by rw[arm_eval_Attribute,a])
end
inductive aY1 (K:bGC)(f:Str)(Q:VK)(x:V)(H1:Hp):Prop
 |mk (a C dx fs v:_)(h0:x=.ref a)(h1:H1 a=some (.ins C dx fs))(h2:Cls K C)(h3:lG K C f)(h4:fs.lookup f=some v)(h5:Q v H1):aY1 K f Q x H1
def bKm (K:bGC)(ta:TE)(f:Str):TE:=fun σ H Q=>ta σ H (aY1 K f Q)
def bJs (K:bGC)(ta tv:TE)(f:Str):TS:=λD σ H=>tv σ H λy H1=>ta σ H1 λx H2=>∃a C dx fs,x=.ref a/\H2 a=some (.ins C dx fs)/\Cls K C/\lG K C f/\fs.length<1000 /\
 D.nx σ (upd H2 a (.ins C dx (uT f y fs)))
def bHd (j:PE X e ta)(k:attributeBase e f X.env (eval e X.env)=eval e X.env):PE X (.Attribute e f pos) (bKm X.K ta f):=by intro b s σ H Q I h;refine bC3 k (thn (j b s σ H _ I h) ?_);rintro u s1 ⟨x,H1,I1,rx,a,C,dx,fs,v,ex,ea,c,n,l,q⟩;subst ex;obtain rfl:u=Value.ref a:=rx;exact aQb I1 ea c n l λm i g d=>(v,H1,g,d,q)
def bGn (w:PE X o ta)(A:PE X value tv)(hs:swapsWith value (some (.Attribute o f pos')) pos.line X.env=pure false):PS X (.Assign [.Attribute o f pos'] value pos) (bJs X.K ta tv f):=by intro b s σ H D I h;refine plainObj_wpAny_Assign_Attribute (thn (A b s σ H _ I h) λu p (y,j,d,k,q)=>thn (w b p σ j _ d q) λt z (x,E,v,g,a,C,B,G,e,m,c,n,l,r)=>?_) hs;subst e;obtain rfl:t=Value.ref a:=g;exact aRq v m c n l k λF i=>(σ,_,i,r)
structure Room (k:Nat)(A:Around):Prop where
 hd:A.handled=none
 dp:A.depth+3 * k+5<recursionLimit
 un:A.units+16 * k+200<cLine
def Room.mono (r:Room k A)(h:j<=k):Room j A:=(r.hd,by have:=r.dp;lia,by have:=r.un;lia)
def Room.deeper (r:Room (k+1) A)(env:Env):Room k (A.deeper env):=
 (r.hd,by have:=r.dp;show A.depth+1+3 * k+5<_;lia,by have:=r.un;show A.units+3+16 * k+200<_;lia)
def aQd {A:Around}{C:Addr}{us:List Value}{kw:List (Str × Value)}:(A.under (.builtin "type.__call__" (.ref C::us,kw))).depth=A.depth+1:=by
 first|rfl|simp[Around.under,Code.weight,Code.isCreation,Code.isGuard,Code.isCaller,Code.frames,Code.isFrame,guardIds]
def aQ5 {A:Around}{C:Addr}{us:List Value}{kw:List (Str × Value)}:(A.under (.builtin "type.__call__" (.ref C::us,kw))).units=A.units+1:=by
 first|rfl|simp[Around.under,Code.cUnits,Code.frames,Code.isFrame]
def Room.make (r:Room (k+1) A)(C:Addr)(us:List Value)(kw:List (Str × Value)):Room k (A.under (.builtin "type.__call__" (.ref C::us,kw))):=
 (r.hd,by have:=r.dp;rw[aQd];lia,by have:=r.un;rw[aQ5];lia)
def Room.depth (r:Room k A):A.depth<recursionLimit:=by have:=r.dp;lia
def Room.units (r:Room k A):A.units+64<cLine:=by have:=r.un;lia
def aJl:TA:=λ_ H Q=>Q [] H
def cX (ta:TE)(tr:TA):TA:=fun σ H Q=>ta σ H λx H1=>tr σ H1 λxs H2=>Q (x::xs) H2
def bGo:PA X [] aJl:=λ_ _ _ _ H Q I h=>bFU ([],H,I,.nil,h)
def bCc (d:PE X e te)(c:PA X es t)(hs:!(starEach (e::es) X.env=(false,eval e X.env,)::starEach es X.env)):PA X (e::es) (cX te t):=by intro b a s σ H Q I h;rw[hs];refine bCQ (thn (d a s σ H _ I h) ?_);rintro u s1 ⟨x,H1,I1,r1,q1⟩;exact thn (c b a s1 σ H1 _ I1 q1) (by rintro us s2 ⟨xs,H2,I2,r2,q2⟩;exact(x::xs,H2,I2,.cons r1 r2,q2))
abbrev Sp:=List V->Hp->VK->XK->Prop
abbrev CXT:=List Env->Hp->Shared->XK->Value->Shared->Prop
structure aIy (P:Program)(w:World)(K:bGC)(mg:bGF)(base:Heap)(A:Around)(outer:List Env)(s:Shared)(H:Hp):Prop where
 frames:A.frames=some outer
 mod:Mod K mg base
 bs:∀b o,base.get? b=some o->s.heap.get? b=some o/\H b=none
 bsz:base.objs.size<=s.heap.objs.size
 funs:s.heap.FunFrames base outer
 frf:∀b∈frs outer,H b=none
 hok:HOk P w H s.heap
 bare:AllBare s.gens
def CE (outer:List Env)(P:Program)(w:World)(H:Hp)(s:Shared)(Q:VK)(u:Value)(s':Shared):Prop:=
 ∃v H',s'.os=s.os/\AllBare s'.gens/\Un (frs outer) [] H H' s.heap s'.heap/\HOk P w H' s'.heap/\RelV v u/\Q v H'
def CR (CX:CXT)(outer:List Env)(P:Program)(w:World)(H:Hp)(s:Shared)(Q:VK)(E:XK)(r:Result)(s':Shared):Prop:=
 match r with
 |.ok (.ret u)=>CE outer P w H s Q u s'
 |.ok _=>False
 |.error e=>CX outer H s E e s'
structure mZ (P:Program)(w:World)(K:bGC)(mg:bGF)(base:Heap)(CX:CXT)(k:Nat)(f:Addr)(fd:FuncData)(ps:List Str)(sp:Sp):Prop where
 len:∀vs H Q E,sp vs H Q E->vs.length=ps.length
 run:∀(A:Around) (outer:List Env) (s:Shared) (H:Hp) (args:Args) (us:List Value) (vs:List V) (Q:VK) (E:XK),Room k A->!aIy A outer s H->BindsTo s fd args (ps.zip us)->Vals vs us->sp vs H Q E ->
  codeAny (model P w) A (.call (.ref f) args) (CR CX outer P w H s Q E) s
def mZ.mono {P:Program}{w:World}{K:bGC}{mg:bGF}{base:Heap}{CX:CXT}{j k:Nat}{f:Addr}{fd:FuncData}{ps:List Str}{sp:Sp}(F:!mZ CX j f fd ps sp)(h:j<=k) :
  !mZ CX k f fd ps sp:=(F.len,λA a s H b d e Q E c=>F.run A a s H b d e Q E (c.mono h))
def mZ.imp {P:Program}{w:World}{K:bGC}{mg:bGF}{base:Heap}{CX:CXT}{k:Nat}{f:Addr}{fd:FuncData}{ps:List Str}{sp sp':Sp}(F:!mZ CX k f fd ps sp)
  (h:∀vs H Q E,sp' vs H Q E->sp vs H Q E):!mZ CX k f fd ps sp':=
 (λvs H Q E q=>F.len vs H Q E (h _ _ _ _ q),λA a s H b c vs Q E e j g d i=>F.run A a s H b c vs Q E e j g d (h _ _ _ _ i))
def aIy.make {P:Program}{w:World}{K:bGC}{mg:bGF}{base:Heap}{A:Around}{outer:List Env}{s:Shared}{H:Hp}(e:!aIy A outer s H)(C:Addr)(us:List Value)(kw:List (Str × Value)) :
  !aIy (A.under (.builtin "type.__call__" (.ref C::us,kw))) outer s H:=(by first|exact e.frames|(simpa [Around.under,Code.envs,Code.isFrame,pushEnvs] using e.frames),e.mod,e.bs,e.bsz,e.funs,e.frf,e.hok,e.bare)
def Inv.env0 (I:Inv X bGG σ H s):aIy X.prog X.w X.K X.mg X.base X.A X.stack s H:=
 (I.ok.frames,I.ok.mod,I.bs,bAM I.ok.bsz I.sz,I.stack,I.yG,I.hok,I.bare)
def Inv.after (I:Inv X bGG σ H s)(h:CE X.stack X.prog X.w H s Q u s'):EP X bGG σ Q u s':=by have(v,f,j,a,i,c,r,q):=h;have(k,g,d,t,e):=s';obtain rfl:e=s.os:=j;exact(v,f,I.call (h':=k) (g':=g) (d':=d) (t':=t) i c a (λb z=>absurd z (9)),r,q)
def aEh (sp:Sp)(dvs:List V)(E:XK)(t:TA):TE:=fun σ H Q=>t σ H λvs H1=>sp (vs++dvs) H1 Q E
inductive aUr (C:Addr)(m:Str)(sp:Sp)(dvs:List V)(E:XK)(t:TA)(σ:St)(Q:VK)(x:V)(H1:Hp):Prop
 |mk (a:_) (dx:_) (fs:_) (h0:x=.ref a) (h1:H1 a=some (.ins C dx fs)) (h2:fs.lookup m=none) (h3:t σ H1 λvs H2=>sp (x::(vs++dvs)) H2 Q E):aUr C m sp dvs E t σ Q x H1
def aOg (C:Addr)(m:Str)(sp:Sp)(dvs:List V)(E:XK)(ta:TE)(t:TA):TE:=fun σ H Q=>ta σ H (aUr C m sp dvs E t σ Q)
def bE1 (C:Addr)(sp:Sp)(dvs:List V)(E:XK)(t:TA):TE:=fun σ H Q=>t σ H λvs H1=>∀x dx,H1 x=none->H1 dx=none->dx≠x ->
 sp (.ref x::(vs++dvs)) (upd (upd H1 dx (.own x)) x (.ins C dx [])) (λv H2=>v=.non/\Q (.ref x) H2) E
def Binds (K:bGC)(fd:FuncData)(ps:List Str)(ds:List Value):Prop:=
 ∀s us,K.In s.heap->(us++ds).length=ps.length->BindsTo s fd (us,[]) (ps.zip (us++ds))
def Binds.all {K:bGC}{fd:FuncData}{ps:List Str}(h:∀us:List Value,us.length=ps.length->bindArgs fd (us,[])=pure (ps.zip us)):Binds K fd ps []:=λs us _ a=>by rw[bCM] at a ⊢;exact .of_eq (h us a)
def wV (CX:CXT)(X:Cx)(E:XK):Prop:=∀bGG σ H s e s',Inv X bGG σ H s->CX X.stack H s E e s'->X.xe e s'
def aKe (F:mZ X.prog X.w X.K X.mg X.base CX k f fd ps sp)(g:Room k X.A)(j:Binds X.K fd ps ds)(i:Vals dvs ds)(l:wV CX X E)
  (I:Inv X bGG σ H s) (r:Vals vs us) (h:sp (vs++dvs) H Q E):wpAny (model X.prog X.w) X.A (call (.ref f) us) (EP X bGG σ Q) X.xe s:=by
 have b:=r.append i;have c:(us++ds).length=ps.length:=by rw[<-b.length];exact F.len _ _ _ _ h
 refine bFL (bDC (F.run X.A X.stack s H (us,[]) (us++ds) (vs++dvs) Q E g I.env0 (j s us I.kIn c) b h) λr d a=>?_);cases r with
 |error e=>exact l bGG σ H s e d I a
 |ok fl=>
  cases fl with
  |ret u=>exact I.after a
  |next=>exact False.elim a
  |brk=>exact False.elim a
  |cont=>exact False.elim a
def bCd (F:mZ X.prog X.w X.K X.mg X.base CX k f fd ps sp)(n:Room k X.A)(y:Gl X x)(g:X.mg x=some (.ref f))(m:PySem.W.keepIn X.K (.ref f)=true)(z:Binds X.K fd ps ds)(o:Vals dvs ds)(B:wV CX X E)
  (l:PA X (e::es) t) (c:!((x == ("__debug__":Str))=false,1)) (C:!(starEach (e::es) X.env=(false,eval e X.env,)::starEach es X.env)) (d:!((backTo pos (starEach es X.env)).any (·.1)=false)) :
  PE X (.Call (.Name x p) (e::es) [] pos) (aEh sp dvs E t):=by
 intro a s σ H Q I h;refine bCD (aCg I y g ?_ c);refine PySem.W.callWith_K I.ok.mod.kin m (thn (l pos a s σ H _ I h) λj u (v,i,b,r,q)=>(b.kIn,8)) C d;exact aKe F n z o B b r q
def bDq (O:PE X o ta)(c:Cls X.K C)(i:Meth X.K C m f)(F:mZ X.prog X.w X.K X.mg X.base CX k f fd ps sp)(M:Room k X.A)(T:Binds X.K fd ps ds)(N:Vals dvs ds)(U:wV CX X E)(G:PA X (e::es) t)
  (p:!(starEach (e::es) X.env=(false,eval e X.env,)::starEach es X.env)) (D:!((backTo pos (starEach es X.env)).any (·.1)=false))
  (L:!(eval (.Call (.Attribute o m apos) (e::es) [] pos) X.env=(do
   let ov <-eval o X.env
   standAt apos.atName
   let (f,first,) <-holding [ov] (getMethod ov m pl)
   callWith pos f first (backTo pos (starEach (e::es) X.env)) (backToKw pos (keywordEach [] X.env))))) :
  PE X (.Call (.Attribute o m apos) (e::es) [] pos) (aOg C m sp dvs E ta t):=by
 intro b s σ H Q I h;refine PySem.W.methodCall_KW (thn (O b s σ H _ I h) λu z (x,v,d,n,a,P,S,j,y,l,q)=>?_) L;subst j;obtain rfl:u=Value.ref a:=n;refine aD9 d y c i l ?_;refine PySem.W.callWith_K I.ok.mod.kin i.kp (thn (G pos b z σ v _ d q) λus J (vs,R,g,r,B)=>(g.kIn,8)) p D;exact aKe (us:=.ref a::us) (vs:=.ref a::vs) F M T N U g (.cons rfl r) B
def bBi (D:PE X o ta)(c:Cls X.K C)(e:Meth X.K C m f)(F:mZ X.prog X.w X.K X.mg X.base CX k f fd ps sp)(r:Room k X.A)(z:Binds X.K fd ps ds)(t:Vals dvs ds)(B:wV CX X E)
  (p:!(eval (.Call (.Attribute o m apos) [] [] pos) X.env=(do
   let ov <-eval o X.env
   standAt apos.atName
   let (f,first,) <-holding [ov] (getMethod ov m pl)
   callWith pos f first (backTo pos (starEach [] X.env)) (backToKw pos (keywordEach [] X.env))))) :
  PE X (.Call (.Attribute o m apos) [] [] pos) (aOg C m sp dvs E ta aJl):=by
 intro b s σ H Q I h;refine PySem.W.methodCall_KW (thn (D b s σ H _ I h) λu v (x,n,d,i,a,G,y,g,j,l,q)=>?_) p;subst g;obtain rfl:u=Value.ref a:=i;refine aD9 d j c e l ?_;exact PySem.W.callWith_K0 (first:=[.ref a]) d.kIn e.kp (aKe (us:=[.ref a]) (vs:=[.ref a]) F r z t B d (.cons rfl .nil) q)
structure Mk (K:bGC)(C f:Addr):Prop where
 makes:PySem.W.makesIn K C=true
 init:PySem.W.findIn K (.ref C) "__init__"=some (some (.ref f))
 fn:PySem.W.isFn K (.ref f)=true
 kp:PySem.W.keepIn K (.ref C)=true
def bA6 {g:bGE}{σ:St}{H:Hp}{s:Shared}{Q:VK}{us:List Value}{vs:List V}(M:Mk X.K C f)(F:mZ X.prog X.w X.K X.mg X.base CX k f fd ps sp)(q:Room (k+1) X.A)(y:Binds X.K fd ps ds)(t:Vals dvs ds)
  (z:wV CX X E) (I:Inv X g σ H s) (r:Vals vs us)
  (h:∀x dx,H x=none->H dx=none->dx≠x->sp (.ref x::(vs++dvs)) (upd (upd H dx (.own x)) x (.ins C dx [])) (λv H2=>v=.non/\Q (.ref x) H2) E) :
  wpAny (model X.prog X.w) X.A (call (.ref C) us) (EP X g σ Q) X.xe s:=by
 have c:=h (s.heap.objs.size+1) s.heap.objs.size (I.hok.fresh (bEJ _)) (I.hok.fresh (j6 _)) (bAA (bDP _));have b:=Inv.made (C:=C) I;have d:Vals (V.ref (s.heap.objs.size+1)::(vs++dvs)) (Value.ref (s.heap.objs.size+1)::(us++ds)):=.cons rfl (r.append t);have p:(Value.ref (s.heap.objs.size+1)::us++ds).length=ps.length:=by have e:=d.length;rw[F.len _ _ _ _ c] at e;exact e.symm
 refine bFL (aXp (f:=f) I.kIn M.makes M.init (beq_iff_eq.mp M.fn) (bDC (F.run _ X.stack _ _ (Value.ref (s.heap.objs.size+1)::us,[]) (Value.ref (s.heap.objs.size+1)::(us++ds)) _ _ E (q.make C us [])
  (b.env0.make C us []) (y _ (Value.ref (s.heap.objs.size+1)::us) b.kIn p) d c) λr j a=>?_))
 cases r with
 |error e=>exact z g σ _ _ e j b a
 |ok fl=>
  cases fl with
  |ret u=>have(v,n,o,m,l,i):=b.after a;subst l;exact(m,(V.ref (s.heap.objs.size+1),n,o,4,i))
  |next=>exact False.elim a
  |brk=>exact False.elim a
  |cont=>exact False.elim a
def bCz (M:Mk X.K C f)(F:mZ X.prog X.w X.K X.mg X.base CX k f fd ps sp)(m:Room (k+1) X.A)(v:Gl X x)(g:X.mg x=some (.ref C))(y:Binds X.K fd ps ds)(n:Vals dvs ds)(z:wV CX X E)
  (l:PA X (e::es) t) (c:!((x == ("__debug__":Str))=false,1)) (B:!(starEach (e::es) X.env=(false,eval e X.env,)::starEach es X.env)) (d:!((backTo pos (starEach es X.env)).any (·.1)=false)) :
  PE X (.Call (.Name x p) (e::es) [] pos) (bE1 C sp dvs E t):=by
 intro a s σ H Q I h;refine bCD (aCg I v g ?_ c);refine PySem.W.callWith_K I.ok.mod.kin M.kp (thn (l pos a s σ H _ I h) λj o (u,i,b,r,q)=>(b.kIn,8)) B d;exact bA6 M F m y n z b r q
structure aN (N P:List Str)(sc:Scope):Prop where
 kind:sc.kind=.function
 co:sc.isCoroutine=false
 gen:sc.isGenerator=false
 nd:N.Nodup
 pre:N.take P.length=P
 par:∀x∈P,sc.names.lookup x=some .local\/sc.names.lookup x=some .cell
 nofree:∀y∈sc.names,y.2≠.free
def aU1 {kindOf:Str->Option NameKind}{x:Str}:∀{binds:List (Str × Value)} {m:bGF},(∀v,(x,v,)∉binds)->bindL kindOf binds m x=m x:=by
 intro a
 induction a with
 |nil=>rintro _ _;exact rfl
 |cons pz r ih=>
  rintro m h;have(n,v):=pz;unfold bindL;rw[ih λw b=>h w (j8 _ b)]
  split
  .have:x≠n:=by rintro rfl;exact h v v7
   simp[this]
  .rfl
def aW5 {kindOf:Str->Option NameKind}{x:Str}:∀{binds:List (Str × Value)} {m:bGF},(∀v,(x,v,)∉binds)->bindC kindOf binds m x=m x:=by
 intro a
 induction a with
 |nil=>rintro _ _;exact rfl
 |cons pz r ih=>
  rintro m h;have(n,v):=pz;unfold bindC;rw[ih λw b=>h w (j8 _ b)]
  split
  .rfl
  .have:x≠n:=by rintro rfl;exact h v v7
   simp[this]
theorem aIj {a:Str->Option NameKind}{x:Str}{v:Value}:∀{P:List Str} {vs:List Value} {i:Nat} {m:bGF},P.Nodup->P[i]?=some x->vs[i]?=some v->a x=some .local ->
  bindL a (P.zip vs) m x=some v
 |[],_,_,_,_,h,_,_=>by simp at h
 |_::_,[],_,_,_,_,h,_=>by simp at h
 |p::P,w::vs,0,m,nd,h1,h2,hk=>by simp at h1 h2;subst h1;subst h2;show bindL a ((p,w,)::P.zip vs) m p=_;unfold bindL;rw[aU1 λv b=>(List.nodup_cons.mp nd).1 (List.of_mem_zip b).1,if_pos hk];simp
 |p::P,w::vs,i+1,m,nd,h1,h2,hk=>by show bindL a ((p,w,)::P.zip vs) m x=_;unfold bindL;exact aIj (i:=i) (List.nodup_cons.mp nd).2 (by simpa using h1) (by simpa using h2) hk
theorem aH3 {a:Str->Option NameKind}{x:Str}{v:Value}:∀{P:List Str} {vs:List Value} {i:Nat} {m:bGF},P.Nodup->P[i]?=some x->vs[i]?=some v->a x≠some .local ->
  bindC a (P.zip vs) m x=some v
 |[],_,_,_,_,h,_,_=>by simp at h
 |_::_,[],_,_,_,_,h,_=>by simp at h
 |p::P,w::vs,0,m,nd,h1,h2,hk=>by simp at h1 h2;subst h1;subst h2;show bindC a ((p,w,)::P.zip vs) m p=_;unfold bindC;rw[aW5 λv b=>(List.nodup_cons.mp nd).1 (List.of_mem_zip b).1,if_neg hk];simp
 |p::P,w::vs,i+1,m,nd,h1,h2,hk=>by show bindC a ((p,w,)::P.zip vs) m x=_;unfold bindC;exact aH3 (i:=i) (List.nodup_cons.mp nd).2 (by simpa using h1) (by simpa using h2) hk
def start (N:List Str)(vs:List V):St:=vs.map some++List.replicate (N.length - vs.length) none
def aBj (CX:CXT)(P:Program)(w:World)(K:bGC)(mg:bGF)(base:Heap)(N:List Str)(qual:Str)(scope:Scope)(f:Addr)(cd:Value)(A:Around)(outer:List Env)(s:Shared)(H:Hp)(E:XK):Cx where
 prog:=P
 w:=w
 K:=K
 mg:=mg
 base:=base
 A:=A.deeper (envOfC qual scope s.heap.objs.size f cd)
 N:=N
 s₀:=s
 H₀:=H
 env:=envOfC qual scope s.heap.objs.size f cd
 outer:=outer
 stack:=envOfC qual scope s.heap.objs.size f cd::outer
 ex:=[]
 calm:=true
 fn:=λ_=>true
 pn:=[]
 xe:=λe s'=>wpAny (model P w) (A.deeper (envOfC qual scope s.heap.objs.size f cd)) (leaving (envOfC qual scope s.heap.objs.size f cd) e) (λ_ s''=>CX outer H s E e s'') (λe' s''=>CX outer H s E e' s'') s'
def aMx {sc:Scope}{n:Nat}{x:Str}(h:sc.names.lookup x=some .cell):∃c,(cellsFrom n sc.names []).lookup x=some c:=by have q:=PySem.W.cellsFrom_some sc.names n [] (.inl h);exact Option.isSome_iff_exists.mp q
def aU3 {CX:CXT}{P:Program}{w:World}{K:bGC}{mg:bGF}{base:Heap}{N F:List Str}{D:Str}{scope:Scope}{f:Addr}{L:Value}{A:Around}{outer:List Env}{s s1:Shared}{H:Hp}{E:XK}{us:List Value}{vs:List V}
  (S:aN N F scope) (Q:A.handled=none) (g:!aIy A outer s H) (hl:vs.length=F.length) (r:Vals vs us)
  (x:InCallC s s.heap.objs.size (bindL (envOfC D scope s.heap.objs.size f L).kindOf (F.zip us) λ_=>none) (cellsFrom (s.heap.objs.size+1) scope.names []) (bindC (envOfC D scope s.heap.objs.size f L).kindOf (F.zip us) λ_=>none) s1) :
  Inv (aBj CX P w K mg base N D scope f L A outer s H E) [] (start N vs) H s1:=by
 have J:F.length<=N.length:=by have:=congrArg List.length S.pre;rw[bAK] at this;lia
 have(o,M,rfl,B):=x.done;have j:∀b:Addr,b∉(aBj CX P w K mg base N D scope f L A outer s H E).ex:=λb z=>absurd (show b∈([]:List Addr) from z) (9);exists (g.mod,S.kind,44,j6 _,λy z c o d=>?_,λy hy=>?_,λy c _ h=>?_,λ_=>Q,Around.frames_deeper g.frames,.inr (44),λb z=>absurd z (j b),g.bs,g.bsz,λb _ _=>j b,λb z=>absurd z (j b),g.funs,g.frf),
  rfl,g.bare,Un.kept B,(_,x.toInCall.ns,λi y v o d O=>?_),λy c h=>(_,x.cell y c h),g.hok.fresh (j6 _),λy c h=>?_,λp m=>absurd (show p∈([]:bGE) from m) (9),g.hok.kept B
 .exact name_of_addr x.apart (PySem.mem_of_lookup o) (PySem.mem_of_lookup d)
 .have hy:scope.names.lookup y=some .cell\/scope.names.lookup y=some .free:=hy;rcases hy with hy|hy
  .exact aMx hy
  .exact absurd rfl (S.nofree _ (PySem.mem_of_lookup hy))
 .exact bDJ (x.above y c (PySem.mem_of_lookup h))
 .have t:i<vs.length:=by
   unfold start at d;by_cases t:i<vs.length
   .exact t
   .rw[bBF (by simpa using t)] at d;rw[bDQ] at d
    split at d <;> cases d
  have G:vs[i]?=some v:=by
   unfold start at d;rw[bBX (by simpa using t),j5] at d;cases e:vs[i]? with
   |none=>rw[e] at d;cases d
   |some a=>rw[e] at d;cases d;rfl
  have(u,C,I):=r.get G;have m:F[i]?=some y:=by rw[<-S.pre,bEE (5)];exact o
  have l:F.Nodup:=by rw[<-S.pre];exact S.nd.sublist (bCX _ _)
  exists u,I;rcases S.par y (v9 m) with k|k
  .exact .inl (k,aIj l m C k)
  .have(c,e):=aMx (n:=s.heap.objs.size+1) k;refine .inr (.inl k,c,e,8);have q:=x.cell y c e;rw[aH3 l m C (by show scope.names.lookup y≠_;rw[k];decide)] at q;exact q
 .exact g.hok.fresh (bDJ (x.above y c (PySem.mem_of_lookup h)))
 .unfold start;show _=N.length;rw[w6,d7,bBR];lia
def bFa {CX:CXT}{P:Program}{w:World}{K:bGC}{mg:bGF}{base:Heap}{k:Nat}{f:Addr}{name d:Str}{params:Arguments}{body:List Stmt}{scope:Scope}{dV kV doc pm D ct oc:Value}{an od:Option Addr}
  {osl:Array (Option Value)} {N ps:List Str} {sp:Sp} (lk:K.lookup f=some (oc,od,.func (PySem.W.fnOf name d params body scope dV kV doc pm an D ct),osl)) (R:PySem.W.codeIn K D d=true) (S:aN N ps scope)
  (z:∀vs H Q E,sp vs H Q E->vs.length=ps.length)
  (m:∀(A:Around) (outer:List Env) (s:Shared) (H:Hp) (vs:List V) (Q:VK) (E:XK),Room k (A.deeper (envOfC d scope s.heap.objs.size f D))->sp vs H Q E ->
   ∃t,PSs (aBj CX P w K mg base N d scope f D A outer s H E) body t/\t { nx:=λ_ H'=>Q .non H',rt:=Q } (start N vs) H) :
  !mZ CX (k+1) f (PySem.W.fnOf name d params body scope dV kV doc pm an D ct) ps sp:=by
 refine(z,λA outer s H L Y vs Q E B i hb r h=>?_);have U:=z _ _ _ _ h;have F:K.In s.heap:=i.mod.kin.keeps λb o e=>(i.bs b o e).1;have l:s.heap.NoLimit:=i.mod.nolimit.keeps λb o e=>(i.bs b o e).1;have a:∀y∈ps.zip Y,scope.names.lookup y.1=some .local\/(scope.names.lookup y.1=some .cell/\((cellsFrom (s.heap.objs.size+1) scope.names []).lookup y.1).isSome=true):=by
  rintro⟨n,v⟩ hy;rcases S.par n (List.of_mem_zip hy).1 with q|q
  .exact .inl q
  .exact .inr (q,PySem.W.cellsFrom_some _ _ _ (.inl q))
 refine codeAny_call_function B.depth (F _ _ lk) rfl S.co S.gen rfl (PySem.W.codeRec_of F R) (hb _ _ _ _ ?_);refine wpAny_newFunctionEnv_cells S.kind a λO X G x=>?_;subst X;refine(l.keeps x.toInCall.keep,codeAny_func ?_);have(t,T,Z):=m A outer s H vs Q E (B.deeper _) h;have I:Inv (aBj CX P w K mg base N d scope f D A outer s H E) [] (start N vs) H G:=aU3 S B.hd i U r x;refine bBJ (T [] G (start N vs) H _ I Z) (λM p c=>?_) λe p c=>c;have g:∀{j:St} {H':Hp} {v:V} {u:Value},Inv (aBj CX P w K mg base N d scope f D A outer s H E) [] j H' p->RelV v u->Q v H'->CE outer P w H s Q u p:=
  λ{j H' v u} J C q=>(v,H',J.os,J.bare,J.base,J.hok,C,q)
 cases M with
 |ret u=>have(v,j,H',J,C,q):=c;exact g J C q
 |next=>have(j,H',J,q):=c;exact g (v:=V.non) (u:=Value.none) J rfl q
 |brk=>have(_,_,_,q):=c;exact False.elim q
 |cont=>have(_,_,_,q):=c;exact False.elim q
section
variable {X:Cx}{x:Str}{p pos:Pos}{e:Expr}{es:List Expr}{t:TA}{id T:String}{r:List V->Hp->VK->Prop}
def tCB (r:List V->Hp->VK->Prop)(t:TA):TE:=fun σ H Q=>t σ H λvs H1=>r vs H1 Q
def bAw (g:cZ X (.builtin id) r)(j:Gl X x)(d:X.mg x=none)(i:bootBuiltins x=some (.builtin id))(f:PA X (e::es) t)(hn:!(x≠"__name__",1))(b:!((x == ("__debug__":Str))=false,1))
  (k:!(starEach (e::es) X.env=(false,eval e X.env,)::starEach es X.env)) (c:!((backTo pos (starEach es X.env)).any (·.1)=false)):PE X (.Call (.Name x p) (e::es) [] pos) (tCB r t):=by
 intro a s σ H Q I h;refine bCD (zK I j d i ?_ hn b);exact PyProof.Rows.callWith_builtin1 (thn (f pos a s σ H _ I h) (by rintro us s1 ⟨vs,H1,I1,r1,q1⟩;exact g a s1 σ H1 vs us Q I1 r1 q1)) k c
def aV2 (g:cZ X (.type T) r)(j:Gl X x)(d:X.mg x=none)(i:bootBuiltins x=some (.type T))(f:PA X (e::es) t)(hn:!(x≠"__name__",1))(b:!((x == ("__debug__":Str))=false,1))
  (k:!(starEach (e::es) X.env=(false,eval e X.env,)::starEach es X.env)) (c:!((backTo pos (starEach es X.env)).any (·.1)=false)):PE X (.Call (.Name x p) (e::es) [] pos) (tCB r t):=by
 intro a s σ H Q I h;refine bCD (zK I j d i ?_ hn b);exact bDB (thn (f pos a s σ H _ I h) (by rintro us s1 ⟨vs,H1,I1,r1,q1⟩;exact g a s1 σ H1 vs us Q I1 r1 q1)) k c
end
end L2
namespace HT
open PySem PyProof.Rows
section
open PySem.SeqAt
open PySem.AutoSeq1 (wpAny_loadPart')
open PySem.MeetsSeq PySem.MeetsSeq2 PySem.MeetsSeq3
end
def bB4 (x:IsTup s.heap t vs.toArray)(z:IsTup s.heap b ws.toArray)(u:vs≠[])
  (y:ws=[]->Q (.ref t) s) (v:ws≠[]->Q (.ref s.heap.objs.size) { s with heap:=s.heap.push { cls:=.type "tuple",data:=.seq (vs++ws).toArray } })
  (r:vs.length+ws.length<=sizeLine):wpAny (model prog w) A (binaryOp .Add (.ref t) (.ref b)) Q E s:=by
 have((cls,o,data,m),h,k,n,l):=id x;have((p,c,j,d),a,f,q,g):=id z;simp only at k l f g;subst k l f g;have e:vs.toArray++ws.toArray=(vs++ws).toArray:=by simp
 by_cases i:ws=[]
 .exact concat_meets (_,h,4) (_,a,4) noFill_tuple_add seq_tuple_add PySem.F.slot_tuple_add PySem.F.entry_tuple_add (PySem.F.args_tuple_add_2 _ _)
   (tuple_addW1 t b vs.toArray ws.toArray n q o c m d (by simpa using u) (by simp[i])) (h,a,y i)
 .refine concat_meets (_,h,4) (_,a,4) noFill_tuple_add seq_tuple_add PySem.F.slot_tuple_add PySem.F.entry_tuple_add (PySem.F.args_tuple_add_2 _ _)
   (tuple_addW2 t b vs.toArray ws.toArray n q o c m d (by simpa using u) (by simpa using i) (by rw[j7,j7];exact r)) (h,a,8)
  rw[e];exact v i
def sIx (n d:Nat):Option Int->Nat
 |none=>d
 |some v=>if v<0 then (v+(n:Int)).toNat else min v.toNat n
def aCu (n d:Nat):sIx n d none=d:=rfl
def aCh (n d k:Nat):sIx n d (some (k:Int))=min k n:=by show (if (k:Int)<0 then ((k:Int)+(n:Int)).toNat else min (k:Int).toNat n)=min k n;rw[if_neg (5),bAQ]
def bIr (n d:Nat)(b:d<=n)(o:Option Int):sIx n d o<=n:=by
 cases o with
 |none=>exact b
 |some v=>
  show (if v<0 then (v+(n:Int)).toNat else min v.toNat n)<=n;by_cases a:v<0
  .rw[if_pos a];lia
  .rw[if_neg a];exact Nat.min_le_right _ _
def aS2 (v:Int)(n d:Nat):(if v<0 then max (v+(n:Int)) 0 else min v (n:Int))=((sIx n d (some v):Nat):Int):=by
 show (if v<0 then max (v+(n:Int)) 0 else min v (n:Int))=(((if v<0 then (v+(n:Int)).toNat else min v.toNat n):Nat):Int);by_cases a:v<0
 .simp only[if_pos a];lia
 .simp only[if_neg a];lia
def aSz (lo hi:Option Int)(n:Nat):Builtin.Slice.sliceAdjust lo hi 1 (n:Int)=(((sIx n 0 lo:Nat):Int),((sIx n n hi:Nat):Int),):=by
 have a:¬ ((1:Int)<0):=by lia
 unfold Builtin.Slice.sliceAdjust;simp only[a,if_false];refine Prod.ext ?_ ?_
 .cases lo with
  |none=>rfl
  |some v=>exact aS2 v n 0
 .cases hi with
  |none=>rfl
  |some v=>exact aS2 v n n
def aP8 (i j:Nat):Builtin.Slice.slicePlaces (i:Int) (j:Int) 1=j - i:=by
 unfold Builtin.Slice.slicePlaces;have a:(1:Int) > 0:=by lia
 simp only[a,if_true,Int.ediv_one]
 split <;> lia
def aDt (p:IsPart v o)(h:Q o s):wpAny (model prog w) A (Builtin.Slice.slicePartIndex v) Q E s:=by
 cases p with
 |none=>exact slicePart_none h
 |int i t=>exact slicePart_int h
def pZ {sl:Addr}{d e:Value}{lo hi:Option Int}{n:Nat}{Q:Int × Int × Nat->Shared->Prop}(hs:s.heap.IsSliceOf sl d e .none)(i:IsPart d lo)(f:IsPart e hi)
  (h:Q (((sIx n 0 lo:Nat):Int),1,sIx n n hi - sIx n 0 lo,) s):wpAny (model prog w) A (Builtin.Slice.sliceApplied (.ref sl) (pure (n:Int))) Q E s:=by
 have(g,a,c,b):=id hs;unfold Builtin.Slice.sliceApplied Builtin.Slice.sliceFields;refine b8 (b8 (bCA a b (x:=d) rfl (b8 (bCA a b (x:=e) rfl (b8 (bCA a b (x:=.none) rfl (d9 ?_)))))));refine b8 (slicePart_none ?_);show wpAny _ _ (if ((1:Int) == 0)=true then _ else _) _ _ s;rw[if_neg (6)];refine b8 (aDt i (b8 (aDt f (b8 (d9 ?_)))));show wpAny _ _ (match Builtin.Slice.sliceAdjust lo hi 1 (n:Int) with|(lo,hi,)=>pure (lo,(1:Int),Builtin.Slice.slicePlaces lo hi 1,)) _ _ s;rw[aSz lo hi n];show wpAny _ _ (pure (((sIx n 0 lo:Nat):Int),(1:Int),Builtin.Slice.slicePlaces ((sIx n 0 lo:Nat):Int) ((sIx n n hi:Nat):Int) 1,)) _ _ s;rw[aP8];exact d9 h
def aX4 (xs:Array Value)(i k:Nat):((List.range k).filterMap λ(m:Nat)=>xs[((i:Int)+(m:Int) * 1).toNat]?).toArray=((xs.toList.drop i).take k).toArray:=by
 have e:(λ(m:Nat)=>xs[((i:Int)+(m:Int) * 1).toNat]?)=λm=>xs[i+m]?:=by
  funext m;have:((i:Int)+(m:Int) * 1).toNat=i+m:=by lia
  rw[this]
 rw[e];have:=pick_run xs i k;rw[List.filterMap_map] at this;have a:((λx=>xs[x]?) ∘ λx=>i+x)=λm=>xs[i+m]?:=rfl;rw[a] at this;rw[this]
def yW {t n:Addr}{a:Array Value}{vl vu:Value}{lo hi:Option Int}{Q:bGD}(e:IsTup s.heap t a)(hs:s.heap.IsSliceOf n vl vu .none)(l:IsPart vl lo)(u:IsPart vu hi)
  (k:¬ (sIx a.size 0 lo=0/\sIx a.size a.size hi=a.size))
  (h:Q (.ref s.heap.objs.size) { s with heap:=s.heap.push { cls:=.type "tuple",data:=.seq ((a.toList.drop (sIx a.size 0 lo)).take (sIx a.size a.size hi - sIx a.size 0 lo)).toArray } })
  (hsz:a.size<=sizeLine):wpAny (model prog w) A (getItem (.ref t) (.ref n)) Q E s:=by
 have b:sizeOk (.seq ((a.toList.drop (sIx a.size 0 lo)).take (sIx a.size a.size hi - sIx a.size 0 lo)).toArray):=by show ((a.toList.drop (sIx a.size 0 lo)).take (sIx a.size a.size hi - sIx a.size 0 lo)).toArray.size<=sizeLine;rw[j7,bAK,bBK,bAD];lia
 have o:sIx a.size a.size hi<=a.size:=bIr _ _ (j6 _) hi;have(i,g,f,j):=id hs;have d:s.TypeIs (.ref n) "slice":=(i,g,f);unfold getItem
 try with_reducible refine bBC ?_
 first|refine b8 (d9 ?_)|skip
 refine b8 (wpAny_sequenceKey e.typeIs (6) ?_);refine b8 (bAP (name:=Str.ofString "__getitem__") e.typeIs bCN
  (bAN bCN e.typeIs entry_tuple_getitem ?_ (args_tuple_getitem _ _)))
 show wpAny _ _ (Builtin.Tuple.tupleItemsOf (.ref t) >>= _) _ _ s;refine b8 (tupleItemsOf_ e ?_);refine b8 (bEL d ?_);rw[if_pos (6)];refine b8 (pZ hs l u ?_);have c:¬ ((((sIx a.size 0 lo:Nat):Int) == 0 && (1:Int) == 1 && (sIx a.size a.size hi - sIx a.size 0 lo) == a.size)=true):=by intro q;rw[bAX,bAX] at q;have p:((sIx a.size 0 lo:Nat):Int)=0:=eq_of_beq q.1.1;have r:sIx a.size a.size hi - sIx a.size 0 lo=a.size:=eq_of_beq q.2;exact k (55)
 show wpAny _ _ (if (((sIx a.size 0 lo:Nat):Int) == 0 && (1:Int) == 1 && (sIx a.size a.size hi - sIx a.size 0 lo) == a.size)=true then _ else _) _ _ s;rw[if_neg c,aX4];first
  |exact b8 (m:=Builtin.Tuple.tupleExact _) (bAZ (d9 (3,d9 h)) b)
  |exact b8 (m:=Builtin.Tuple.tupleExact _) (bAZ (b8 (d9 (d9 (3,d9 h)))) b)
  |exact b8 (b8 (m:=Builtin.Tuple.tupleExact _) (bAZ (d9 (d9 (3,d9 h))) b))
  |exact b8 (b8 (m:=Builtin.Tuple.tupleExact _) (bAZ (d9 (3,d9 h)) b))
end HT
namespace L2
open PySem PySem.Spec PyProof.Rows
abbrev TO:=St->Hp->(Option Int->Hp->Prop)->Prop
def PO (X:Cx)(e:Option Expr)(t:TO):Prop:=
 ∀bGG s σ H Q,Inv X bGG σ H s->t σ H Q ->
  wpAny (model X.prog X.w) X.A (evalPart e X.env) (λu s'=>∃o H',Inv X bGG σ H' s'/\IsPart u o/\Q o H') X.xe s
def aT0:TO:=λ_ H Q=>Q none H
def bFg (t:TE):TO:=fun σ H Q=>t σ H λx H1=>∃i,x=.int i/\Q (some i) H1
section
variable {X:Cx}{e:Expr}{te:TE}{lo hi:Option Expr}{tl th:TO}{pos p2:Pos}
def bCw:PO X none aT0:=by intro a s σ H Q I h;rw[evalPart_none];exact d9 (none,H,I,.none,h)
def bDy (h:PE X e te):PO X (some e) (bFg te):=by intro a s σ H Q I b;rw[evalPart_some];refine thn (h a s σ H _ I b) ?_;rintro u s1 ⟨x,H1,I1,r1,q1⟩;have(i,rfl,q):=q1;have(t,rfl):=r1;exact(some i,H1,I1,.int i t,q)
def SlR (X:Cx)(r:V->Option Int->Option Int->Hp->VK->Prop):Prop:=
 ∀bGG s σ H x v vl vu lo hi sl Q,Inv X bGG σ H s->RelV x v->s.heap.IsSliceOf sl vl vu .none->IsPart vl lo->IsPart vu hi->r x lo hi H Q ->
  ∃T id,typeLookup (.type T) "__getitem__"=pure (some (.builtin id))/\s.TypeIs v T/\wpAny (model X.prog X.w) X.A (getItem v (.ref sl)) (EP X bGG σ Q) X.xe s
def tSl (r:V->Option Int->Option Int->Hp->VK->Prop)(te:TE)(tl th:TO):TE:=fun σ H Q=>te σ H λx H1=>tl σ H1 λl H2=>th σ H2 λu H3=>r x l u H3 Q
def aZi {r:V->Option Int->Option Int->Hp->VK->Prop}(k:SlR X r)(o:PE X e te)(n:PO X lo tl)(j:PO X hi th):PE X (.Subscript e (.Slice lo hi none p2) pos) (tSl r te tl th):=by intro a s σ H Q I h;refine Subscript_ (thn (o a s σ H _ I h) ?_);rintro v s1 ⟨x,H1,I1,r1,q1⟩;refine wpAny_Slice (thn (n a s1 σ H1 _ I1 q1) ?_);rintro vl s2 ⟨l,H2,I2,pl,q2⟩;refine thn (j a s2 σ H2 _ I2 q2) ?_;rintro vu s3 ⟨u,H3,I3,pu,q3⟩;rw[evalPart_none];refine d9 ?_;have f:Inv X a σ H3 { s3 with heap:=s3.heap.push { cls:=.type "slice",data:=.fields #[vl,vu,.none] } }:=I3.kept (t':=s3.toks) λb m q=>c7 _ q;have(T,i,c,d,g):=k a { s3 with heap:=s3.heap.push { cls:=.type "slice",data:=.fields #[vl,vu,.none] } } σ H3 x v vl vu l u s3.heap.objs.size Q f r1 (Heap.IsSliceOf.new ..) pl pu q3;show wpAny (model X.prog X.w) X.A (subscriptTail e (.Slice lo hi none p2) v (.ref s3.heap.objs.size)) (EP X a σ Q) X.xe { s3 with heap:=s3.heap.push { cls:=.type "slice",data:=.fields #[vl,vu,.none] } };exact tail_any (ops:=[.ref s3.heap.objs.size,v]) d c g (1)
def uF (xs:List V)(lo hi:Option Int):List V:=(xs.drop (HT.sIx xs.length 0 lo)).take (HT.sIx xs.length xs.length hi - HT.sIx xs.length 0 lo)
def pJ (xs:List V)(lo hi:Option Int):(uF xs lo hi).length<=xs.length:=by unfold uF;rw[bAK,bBK];lia
def bK3 (K:bGC):V->Option Int->Option Int->Hp->VK->Prop:=λx lo hi H Q=>∃a xs,x=.ref a/\SqT K H a xs /\
 ¬ (HT.sIx xs.length 0 lo=0/\HT.sIx xs.length xs.length hi=xs.length)/\∀p,H p=none->Q (.ref p) (upd H p (.tup (uF xs lo hi)))
def bG2:SlR X (bK3 X.K):=by
 intro k s σ H x v u y e j w Q I m t n p h;have(a,d,rfl,o,l,q):=h;cases m;have(f,r,i,g):=I.tuple o;have c:f.toArray.size=d.length:=by rw[j7];exact r.length.symm
 exists "tuple",_,PyProof.Rows.slot_tuple_getitem.lookup,i.typeIs;refine HT.yW i t n p (by rw[c];exact l) ?_ (by rw[c];exact g);rw[c];refine(.ref s.heap.objs.size,_,I.laid (t':=s.toks) (λb z q=>c7 _ q) (j6 _) ?_,4,q _ (I.hok.fresh (j6 _)));exact(bAM (pJ d e j) g,_,(r.drop (HT.sIx d.length 0 e)).take (HT.sIx d.length d.length j - HT.sIx d.length 0 e),aAl.new _ _)
def bKw (K:bGC):R2:=λx y H Q=>∃a b xs ys,x=.ref a/\y=.ref b/\SqT K H a xs/\SqT K H b ys/\xs≠[]/\xs.length+ys.length<=sizeLine /\
 (ys=[]->Q (.ref a) H)/\(ys≠[]->∀p,H p=none->Q (.ref p) (upd H p (.tup (xs++ys))))
def Vals.aLa (r:Vals xs us):us=[]↔xs=[]:=by
 cases r with
 |nil=>simp
 |cons _ _=>simp
def bEi:OpR X (binaryOp .Add) (bKw X.K):=by intro i s σ H x y v u Q I j k h;have(a,b,B,C,rfl,rfl,g,p,r,e,n,o):=h;cases j;cases k;have(t,d,l,_):=I.tuple g;have(f,c,m,_):=I.tuple p;refine HT.bB4 l m (λz=>r (d.aLa.mp z)) (λz=>(.ref a,H,I,4,n (c.aLa.mp z))) (λz=>?_) (by rw[<-d.length,<-c.length];exact e);refine(.ref s.heap.objs.size,_,I.laid (t':=s.toks) (λb A q=>c7 _ q) (j6 _) ?_,4,o (λw=>z (c.aLa.mpr w)) _ (I.hok.fresh (j6 _)));exact(by rw[w6];exact e,_,d.append c,aAl.new _ _)
end
def ixN (n:Nat)(i:Int):Option Nat:=if 0<=i then (if i<n then some i.toNat else none) else if -(n:Int)<=i then some (i+n).toNat else none
def atI {α:Type}(xs:List α)(i:Int):Option α:=(ixN xs.length i).bind λj=>xs[j]?
def aUq (h:ixN n i=some j):seqIndex? i n=some j/\j<n/\-(n:Int)<=i/\i<n:=by
 unfold ixN at h;by_cases b:0<=i
 .rw[if_pos b] at h;by_cases a:i<n
  .rw[if_pos a] at h;have e:=bAL h;exact(by rw[seqIndex_of b a,e],55,a)
  .rw[if_neg a] at h;cases h
 .rw[if_neg b] at h;by_cases a:-(n:Int)<=i
  .rw[if_pos a] at h;have e:=bAL h;exact(by rw[seqIndex_neg (5) a,e],5,a,5)
  .rw[if_neg a] at h;cases h
def aUb {α:Type}{xs:List α}{i:Int}{v:α}(h:atI xs i=some v):∃j,seqIndex? i xs.length=some j/\xs[j]?=some v/\j<xs.length/\-(xs.length:Int)<=i/\i<xs.length:=by
 unfold atI at h;cases e:ixN xs.length i with
 |none=>rw[e] at h;cases h
 |some j=>rw[e] at h;have(d,b,a,c):=aUq e;exact(j,d,h,b,a,c)
def aX {α:Type}{xs:List α}{j:Nat}{v:α}(h:xs[j]?=some v):atI xs (j:Int)=some v:=by
 have a:j<xs.length:=(List.getElem?_eq_some_iff.mp h).1;have e:ixN xs.length (j:Int)=some j:=by unfold ixN;rw[if_pos (5),if_pos (5)];simp
 unfold atI;rw[e];exact h
def aK2 (b:Expr):Prop:=∀o i,subscripted b false o i=operate [o,i] (getItem o i)
def IxR (X:Cx)(r:R2):Prop:=
 ∀value slice bGG s σ H x y v u Q,Inv X bGG σ H s->RelV x v->RelV y u->r x y H Q ->
  subscripted slice false v u=operate [v,u] (getItem v u)->wpAny (model X.prog X.w) X.A (subscriptTail value slice v u) (EP X bGG σ Q) X.xe s
def MtR (X:Cx)(id:String)(r:V->List V->Hp->VK->Prop):Prop:=
 ∀bGG s σ H x xs v us Q,Inv X bGG σ H s->RelV x v->Vals xs us->r x xs H Q ->
  wpAny (model X.prog X.w) X.A (call (.builtin id) (v::us)) (EP X bGG σ Q) X.xe s
section
variable {X:Cx}
def bI1 {r:R2}(k:IxR X r)(j:PE X a ta)(l:PE X b tb)(hs:aK2 b):PE X (.Subscript a b pos) (tOp r ta tb):=by intro c s σ H Q I h;exact Subscript_ (bEb j l I h λv u f x y d i g e q=>k a b c f σ d x y v u Q i g e q (hs _ _))
inductive bHn (K:bGC)(x:V)(y:V)(H:Hp)(Q:VK):Prop
 |mk (p xs i v:_)(h0:x=.ref p)(h1:y=.int i)(h2:SqL K H p xs)(h3:atI xs i=some v)(h4:Q v H):bHn K x y H Q
inductive aSf (K:bGC)(x:V)(y:V)(H:Hp)(Q:VK):Prop
 |mk (p xs i v:_)(h0:x=.ref p)(h1:y=.int i)(h2:SqT K H p xs)(h3:atI xs i=some v)(h4:Q v H):aSf K x y H Q
def bB:IxR X (bHn X.K):=by
 intro d g a s σ H x y v u Q I A G h o;have(p,N,i,z,rfl,rfl,J,L,q):=h;cases A;have(t,rfl):=G;have(l,r,e,M):=I.list J;have(j,c,B,O,F,D):=aUb L;have(w,m,k):=r.get B;have E:=r.length;have P:=aAc;have b:EP X a σ Q w s:=(z,H,I,k,q);by_cases n:0<=i
 .have f:i.toNat=j:=by rw[seqIndex_of n D] at c;exact bAL c
  exact item_listR e.isList n (5) (by rw[f];simpa using m) b o
 .have f:(i+(l.toArray.size:Int)).toNat=j:=by rw[seqIndex_neg (5) F] at c;rw[j7,<-E];exact bAL c
  exact subscriptTail_builtinR (x:=w) e.isList.typeIs slot_list_getitem.lookup
   (wpAny_getItem_list_neg (Q:=λr C=>r=w/\EP X a σ Q r C) e.isList (5) (by rw[j7] <;> lia) (5) (by rw[f];simpa using m) (4,b)) o
def aK:IxR X (aSf X.K):=by
 intro b d a s σ H x y v u Q I g o h D;have(p,J,i,z,rfl,rfl,A,E,q):=h;cases g;have(t,rfl):=o;have(C,r,f,F):=I.tuple A;have(j,B,k,M,L,G):=aUb E;have(w,m,e):=r.get k;have n:=r.length;have N:=aAc;have c:EP X a σ Q w s:=(z,H,I,e,q);exact subscriptTail_builtinR (x:=w) f.typeIs slot_tuple_getitem.lookup
  (getItem_tuple (j:=j) (Q:=λr l=>r=w/\EP X a σ Q r l) f (5) (5) (by rw[j7,<-n];exact B) (by simpa using m) (4,c)) D
def aPm (its:List Value)(n j:Nat)(u:Value):Obj.mapSeq (·.setIfInBounds j u) { cls:=.type "list",data:=.seq its.toArray n }={ cls:=.type "list",data:=.seq (its.set j u).toArray n }:=by simp[Obj.mapSeq]
def Inv.lst (I:Inv X bGG σ H s)(h:H p=some (.lst xs)) :
  ∃its n,Vals xs its/\s.heap.get? p=some { cls:=.type "list",data:=.seq its.toArray n }/\xs.length<=sizeLine:=by
 have(z,its,n,r,e):=I.hok p _ h;exact(its,n,r,e,z)
def Inv.bGk {bGG:bGE}{σ:St}{H:Hp}{s:Shared}{p:Addr}{xs ys:List V}{its its':List Value}{n d:Nat}{f:Obj->Obj}(I:Inv X bGG σ H s)(h:H p=some (.lst xs))
  (g:s.heap.get? p=some { cls:=.type "list",data:=.seq its.toArray n }) (a:f { cls:=.type "list",data:=.seq its.toArray n }={ cls:=.type "list",data:=.seq its'.toArray d }) (r:Vals ys its') (i:ys.length<=sizeLine) (t:Nat) :
  Inv X bGG σ (upd H p (.lst ys)) { s with heap:=s.heap.update p f,toks:=t }:=by
 have e:(s.heap.update p f).get? p=some { cls:=.type "list",data:=.seq its'.toArray d }:=by rw[bCO f g (by rw[a] <;> rfl),a]
 refine I.write (x:=p) (e:=p) (by rw[h];trivial) (.inl rfl) (λb u c q=>(bDU _ _ (Ne.symm c)).trans q) (_,e) ?_;exact(i,its',d,r,e)
def bJ9:V->V->V->Hp->(Hp->Prop)->Prop:=λo i v H Q=>∃p xs k j,o=.ref p/\i=.int k/\H p=some (.lst xs)/\ixN xs.length k=some j/\Q (upd H p (.lst (xs.set j v)))
def set_list:bH6 X bJ9:=by
 intro c s σ H o i v G F u Q I D B C h;have(p,A,k,j,rfl,rfl,x,z,q):=h;cases D;have(t,rfl):=B;have(a,n,r,d,y):=I.lst x;have(b,E,m,l):=aUq z;have e:=r.length;have J:=aAc;have g:Inv X c σ (upd H p (.lst (A.set j v))) { s with heap:=s.heap.update p (Obj.mapSeq (·.setIfInBounds j u)) }:=
  I.bGk x d (aPm a n j u) (r.set C j) (by rw[List.length_set];exact y) s.toks
 by_cases w:0<=k
 .have f:k.toNat=j:=by rw[seqIndex_of w l] at b;exact bAL b
  exact PySem.W.ki_setAt d w (5) (by rw[j7,<-e];exact l) (by rw[f];exact(_,g,q))
 .have f:(k+(a.toArray.size:Int)).toNat=j:=by rw[seqIndex_neg (5) m] at b;rw[j7,<-e];exact bAL b
  exact PySem.W.ki_setBack d (5) (by rw[j7,<-e];exact m) (5) (by rw[f];exact(_,g,q))
def aLf (lo hi:Option Int)(n:Nat):(sliceBounds lo hi none n).1=((HT.sIx n 0 lo:Nat):Int)/\(sliceBounds lo hi none n).2.1=((HT.sIx n n hi:Nat):Int)/\(sliceBounds lo hi none n).2.2=1:=by
 refine(884)
 .cases lo with
  |none=>simp[sliceBounds,HT.sIx]
  |some i=>
   simp only[sliceBounds,HT.sIx,Option.getD_none,show (1:Int) > 0 by decide,if_true];by_cases h:i<0
   .simp only[h,if_true] <;> lia
   .simp only[h,if_false] <;> lia
 .cases hi with
  |none=>simp[sliceBounds,HT.sIx]
  |some i=>
   simp only[sliceBounds,HT.sIx,Option.getD_none,show (1:Int) > 0 by decide,if_true];by_cases h:i<0
   .simp only[h,if_true] <;> lia
   .simp only[h,if_false] <;> lia
def aGd (its:List Value)(lo hi:Option Int):slicePick its.toArray lo hi none=((its.drop (HT.sIx its.length 0 lo)).take (HT.sIx its.length its.length hi - HT.sIx its.length 0 lo)).toArray:=by have(b,c,a):=aLf lo hi its.toArray.size;unfold slicePick;rw[b,c,a];simp only[sliceRange_one,pick_run,j7] <;> rfl
def bLl (K:bGC):V->Option Int->Option Int->Hp->VK->Prop:=λx lo hi H Q=>∃a xs,x=.ref a/\SqL K H a xs/\∀p,H p=none->Q (.ref p) (upd H p (.lst (uF xs lo hi)))
def bB7:SlR X (bLl X.K):=by intro i s σ H x v t w e g u Q I j p l n h;have(a,d,rfl,m,q):=h;cases j;have(o,r,f,k):=I.list m;have c:=r.length;exists "list",_,slot_list_getitem.lookup,f.isList.typeIs;refine wpAny_getItem_list_slice f.isList p l n .none (9) ?_ (by rw[j7] <;> lia);rw[aGd,<-c];refine(.ref s.heap.objs.size,_,I.laid (t':=s.toks) (λb y q=>c7 _ q) (j6 _) ?_,4,q _ (I.hok.fresh (j6 _)));exact(bAM (pJ d e g) k,_,0,(r.drop (HT.sIx d.length 0 e)).take (HT.sIx d.length d.length g - HT.sIx d.length 0 e),m5 _ rfl)
def lY:V->Bool
 |.non=>true
 |.bl _=>true
 |.int _=>true
 |.str _=>true
 |_=>false
def eqV:V->V->Bool
 |.non,.non=>true
 |.bl a,.bl b=>a == b
 |.bl a,.int b=>(if a then 1 else 0) == b
 |.int a,.bl b=>a == (if b then 1 else 0)
 |.int a,.int b=>a == b
 |.str a,.str b=>a == b
 |_,_=>false
def bAc (e:RelV y u)(c:RelV x v)(g:lY y=true)(f:lY x=true):SeqAt.EqAt A s u v (eqV y x):=by
 cases y with
 |non=>
  cases e;cases x with
  |non=>cases c;exact bDW _
  |bl b=>cases c;exact SeqAt.EqAt.none_bool b
  |int b=>have(t,rfl):=c;exact SeqAt.EqAt.none_int b t
  |str b=>have(t,rfl):=c;exact SeqAt.EqAt.none_str b t
  |_=>exact absurd (show false=true from f) z9
 |bl a=>
  cases e;cases x with
  |non=>cases c;exact SeqAt.EqAt.bool_none a
  |bl b=>cases c;exact SeqAt.EqAt.bool_bool a b
  |int b=>have(t,rfl):=c;exact SeqAt.EqAt.bool_int a b t
  |str b=>have(t,rfl):=c;exact SeqAt.EqAt.bool_str a b t
  |_=>exact absurd (show false=true from f) z9
 |int a=>
  have(d,rfl):=e;cases x with
  |non=>cases c;exact SeqAt.EqAt.int_none a d
  |bl b=>cases c;exact SeqAt.EqAt.int_bool a d b
  |int b=>have(t,rfl):=c;exact bFM a d b t
  |str b=>have(t,rfl):=c;exact SeqAt.EqAt.int_str a d b t
  |_=>exact absurd (show false=true from f) z9
 |str a=>
  have(d,rfl):=e;cases x with
  |non=>cases c;exact SeqAt.EqAt.str_none a d
  |bl b=>cases c;exact SeqAt.EqAt.str_bool a d b
  |int b=>have(t,rfl):=c;exact SeqAt.EqAt.str_int a d b t
  |str b=>have(t,rfl):=c;exact bCR a d b t
  |_=>exact absurd (show false=true from f) z9
 |_=>exact absurd (show false=true from g) z9
def eqU (x:V)(u:Value):Bool:=match u with
 |.none=>eqV .non x
 |.bool b=>eqV (.bl b) x
 |.int i _=>eqV (.int i) x
 |.str z _=>eqV (.str z) x
 |_=>false
def aYa (r:RelV y u)(f:lY y=true):eqU x u=eqV y x:=by
 cases y with
 |non=>cases r;rfl
 |bl b=>cases r;rfl
 |int i=>have(t,rfl):=r;rfl
 |str z=>have(t,rfl):=r;rfl
 |_=>exact absurd (show false=true from f) z9
theorem xV:∀{xs:List V} {us:List Value},Vals xs us->xs.all lY=true->us.any (eqU x)=xs.any λy=>eqV y x
 |_,_,.nil,_=>rfl
 |y::xs,u::us,.cons r t,f=>by rw[bFZ,bAX] at f;rw[bEY,bEY,aYa r f.1,xV t f.2]
theorem tD (b:RelV x v)(c:lY x=true):∀{xs:List V} {us:List Value},Vals xs us->xs.all lY=true->∀u∈us,SeqAt.EqAt A s u v (eqU x u)
 |_,_,.nil,_=>λu hu=>by cases hu
 |y::xs,u::us,.cons r t,f=>λa hu=>by
  rw[bFZ,bAX] at f;rcases List.mem_cons.mp hu with rfl|hu
  .rw[aYa r f.1];exact bAc r b f.1 c
  .exact tD b c t f.2 a hu
def inV (x:V)(xs:List V):Bool:=xs.any λy=>eqV y x
def rIn (K:bGC)(neg:Bool):R2:=λx y H Q=>∃p xs,y=.ref p/\(SqL K H p xs\/SqT K H p xs)/\lY x=true/\xs.all lY=true/\Q (.bl (if neg then !inV x xs else inV x xs)) H
def fU:OpR X (compareOp .In) (rIn X.K false):=by
 intro g s σ H x y v u Q I e i h;have(p,k,rfl,hq,f,b,q):=h;cases i;rcases hq with hq|hq
 .have(a,r,d,j):=I.list hq;refine SeqAt.in_listAt (eqU x) d.isList (λw c=>tD e f r b w (by simpa using c)) (.bl _,H,I,48);rw[show a.toArray.any (eqU x)=a.any (eqU x) by simp,xV r b];exact q
 .have(a,r,d,j):=I.tuple hq;refine SeqAt.in_tupleAt (eqU x) d (λw c=>tD e f r b w (by simpa using c)) (.bl _,H,I,48);rw[show a.toArray.any (eqU x)=a.any (eqU x) by simp,xV r b];exact q
def iB:OpR X (compareOp .NotIn) (rIn X.K true):=by
 intro g s σ H x y v u Q I e i h;have(p,k,rfl,hq,f,b,q):=h;cases i;rcases hq with hq|hq
 .have(a,r,d,j):=I.list hq;refine SeqAt.notIn_listAt (eqU x) d.isList (λw c=>tD e f r b w (by simpa using c)) (.bl _,H,I,48);rw[show a.toArray.any (eqU x)=a.any (eqU x) by simp,xV r b];exact q
 .have(a,r,d,j):=I.tuple hq;refine SeqAt.notIn_tupleAt (eqU x) d (λw c=>tD e f r b w (by simpa using c)) (.bl _,H,I,48);rw[show a.toArray.any (eqU x)=a.any (eqU x) by simp,xV r b];exact q
def aM:cZ X (.builtin "len") (λxs H Q=>∃p ys,xs=[.ref p]/\(SqL X.K H p ys\/SqT X.K H p ys)/\Q (.int ys.length) H):=by
 intro e s σ H xs i Q I r h;have(p,ys,rfl,hq,q):=h;have(u,rfl,f):=vals1 r;cases f;have j:=aAc;rcases hq with hq|hq
 .have(d,c,b,g):=I.list hq;have a:=c.length;exact Calls.call_len_list b.isList (by simp only[j7] <;> lia) (.int ys.length,H,I.tok _,(s.toks+1,by rw[j7,a]),q)
 .have(d,c,b,g):=I.tuple hq;have a:=c.length;exact len_tuple b (by simp only[j7] <;> lia) (.int ys.length,H,I.tok _,(s.toks+1,by rw[j7,a]),q)
def xM:cZ X (.builtin "len") (λxs H Q=>∃z,xs=[.str z]/\z.length<=sizeLine/\Q (.int z.length) H):=by intro a s σ H xs b Q I r h;have(z,rfl,c,q):=h;have(u,rfl,t,rfl):=vals1 r;have d:=aAc;exact len_str (5) (.int z.length,H,I.tok _,(3),q)
def cZ.or (h:cZ X f r)(h':cZ X f r'):cZ X f (λxs H Q=>r xs H Q\/r' xs H Q):=by
 intro a s σ H xs b Q I c q;rcases q with q|q
 .exact h a s σ H xs b Q I c q
 .exact h' a s σ H xs b Q I c q
def aI4:cZ X (.type "list") (λxs H Q=>∃p ys,xs=[.ref p]/\(SqL X.K H p ys\/SqT X.K H p ys)/\∀l,H l=none->Q (.ref l) (upd H l (.lst ys))):=by
 intro k s σ H xs z Q I r h;have(p,ys,rfl,hq,q):=h;have(u,rfl,y):=vals1 r;cases y;have i:∀a,Vals ys a->ys.length<=sizeLine->∀c d,(∀b o',s.heap.get? b=some o'->c.get? b=some o') ->
   c.get? s.heap.objs.size=some { cls:=.type "list",dict:=none,data:=.seq a.toArray d,slots:=#[] }->EP X k σ Q (.ref s.heap.objs.size) { s with heap:=c }:=λa f g c d kp e=>
  (.ref s.heap.objs.size,_,I.laid (t':=s.toks) kp (j6 _) (show gK X.prog X.w _ c _ (.lst ys) from (g,a,d,f,e)),4,q _ (I.hok.fresh (j6 _)))
 rcases hq with hq|hq
 .have(a,f,t,g):=I.list hq;have j:=f.length;have(o,m,v,n,x):=t.isList;exact call_list_seq p (.inl rfl) m v x (λc d kp e=>i a f g c d kp e) (by simp only[j7] <;> lia)
 .have(a,f,t,g):=I.tuple hq;have j:=f.length;have(o,m,v,n,x):=t;exact call_list_seq p (.inr rfl) m v x (λc d kp e=>i a f g c d kp e) (by simp only[j7] <;> lia)
def aFo:cZ X (.type "tuple") (λxs H Q=>∃p ys,xs=[.ref p]/\((SqL X.K H p ys/\∀l,H l=none->Q (.ref l) (upd H l (.tup ys)))\/(SqT X.K H p ys/\Q (.ref p) H))):=by
 intro c s σ H xs v Q I r h;have(p,ys,rfl,h):=h;have(u,rfl,n):=vals1 r;cases n;rcases h with⟨d,q⟩|⟨d,q⟩
 .have(a,i,g,k):=I.list d;have m:=i.length;refine call_tuple_list g.isList (λf kp=>?_) (by simp only[j7] <;> lia);have j:=I.kept (t':=s.toks) kp;have t:Inv X c σ (upd H f.objs.size (.tup ys)) { s with heap:=f.push { cls:=.type "tuple",data:=.seq a.toArray } }:=
   j.laid (t':=s.toks) (λb o e=>c7 _ e) (j6 _) (show gK X.prog X.w _ _ _ (.tup ys) from (k,a,i,aAl.new _ _))
  exact(.ref f.objs.size,_,t,4,q _ (j.hok.fresh (j6 _)))
 .have(a,i,g,k):=I.tuple d;exact call_tuple_same g (.ref p,H,I,4,q)
def tyV (K:bGC)(T:String)(x:V)(H:Hp):Prop:=match x with
 |.str _=>T = "str"
 |.int _=>T = "int"
 |.ref p=>(T = "list"/\∃xs,SqL K H p xs)\/(T = "tuple"/\∃o,K.lookup p=some o/\o.cls=.type "tuple"/\o.dict=none) \/
   (T = "dict"/\((∃kvs,H p=some (.dK kvs))\/∃kvs,H p=some (.dT kvs)))\/(T = "set"/\∃S n,H p=some (.set S n))
 |_=>False
def aP0 (I:Inv X bGG σ H s)(r:RelV x v)(h:tyV X.K T x H) :
  s.TypeIs v T/\∀a,v=.ref a->∃ob,s.heap.get? a=some ob/\ob.dict=none:=by
 cases x with
 |str z=>have(t,rfl):=r;cases (show T = "str" from h);exact(typeIs_str s z t,λ_ e=>nomatch e)
 |int i=>have(t,rfl):=r;cases (show T = "int" from h);exact(typeIs_int s i t,λ_ e=>nomatch e)
 |ref p=>
  cases r;rcases h with⟨rfl,q,l⟩|⟨rfl,o,b,hc,g⟩|⟨rfl,b⟩|⟨rfl,S,n,b⟩
  .have(m,_,k,_):=I.list l;refine(k.isList.typeIs,λa e=>?_);cases e;have(o,n,e,c,g,_):=k;exact(o,e,g)
  .refine((o,I.kIn p o b,hc),λa e=>?_);cases e;exact(o,I.kIn _ o b,g)
  .have z:∃o,s.heap.get? p=some o/\o.ExactDict:=by
    rcases b with⟨f,b⟩|⟨f,b⟩
    .have(_,_,_,_,o,_,_,e,d,_):=I.hok p _ b;exact(o,e,d)
    .have(_,_,_,_,o,_,_,e,d,_):=I.hok p _ b;exact(o,e,d)
   have(o,e,d):=z;refine((o,e,d.1),λa j=>?_);cases j;exact(o,e,d.2.1)
  .have(o,_,_,_,e,d,_):=I.hok p _ b;refine((o,e,d.1),λa j=>?_);cases j;exact(o,e,d.2.1)
 |_=>exact False.elim h
def bJ6 (K:bGC)(T:String)(r:V->List V->Hp->VK->Prop)(to:TE):TE:=fun σ H Q=>to σ H λx H1=>tyV K T x H1/\r x [] H1 Q
def tBM (K:bGC)(T:String)(r:V->List V->Hp->VK->Prop)(to:TE)(t:TA):TE:=fun σ H Q=>to σ H λx H1=>tyV K T x H1/\t σ H1 λxs H2=>r x xs H2 Q
variable {o e:Expr}{es:List Expr}{to:TE}{t:TA}{name:Str}{apos cpos:Pos}{T id:String}{r:V->List V->Hp->VK->Prop}
def bId (i:PlainAttrs T)(slot:Slot T name id)(e:typeOf (.builtin id)=pure (.type "method_descriptor"))(g:MtR X id r)(j:PE X o to)
  (b:!(attributeBase o name X.env (eval o X.env)=eval o X.env)) (c:!((apos.endLine == cpos.line)=true)):PE X (.Call (.Attribute o name apos) [] [] cpos) (bJ6 X.K T r to):=by
 intro a s σ H Q I h;refine wpAny_Call_method0_late b c (thn (j a s σ H _ I h) ?_);rintro v s1 ⟨x,H1,I1,r1,ty,q1⟩;have(d,f):=aP0 I1 r1 ty;exact(T,id,i,slot,e,d,f,bEM rfl (PySem.evalArgs_none (g a s1 σ H1 x [] v [] Q I1 r1 .nil q1)))
def bJx (m:PlainAttrs T)(slot:Slot T name id)(k:typeOf (.builtin id)=pure (.type "method_descriptor"))(l:MtR X id r)(p:PE X o to)(n:PA X (e::es) t)
  (c:!(attributeBase o name X.env (eval o X.env)=eval o X.env))
  (g:!(((backTo cpos (starEach (e::es) X.env)).all (λx=>!x.1) && (backToKw cpos (keywordEach [] X.env)).all (λx=>x.1.isSome)
   && decide ((e::es).length+([]:List Keyword).length+(if ([]:List Keyword).isEmpty then 0 else 1)<30))=true))
  (d:!((apos.endLine == cpos.line)=true)) (hs:!(starEach (e::es) X.env=(false,eval e X.env,)::starEach es X.env)) (b:!((backTo cpos (starEach es X.env)).any (·.1)=false)) :
  PE X (.Call (.Attribute o name apos) (e::es) [] cpos) (tBM X.K T r to t):=by
 intro a s σ H Q I h;refine wpAny_Call_method_late c g d rfl (thn (p a s σ H _ I h) ?_);rintro v s1 ⟨x,H1,I1,r1,ty,q1⟩;have(j,i):=aP0 I1 r1 ty;exists T,id,m,slot,k,j,i;have f:=n cpos a s1 σ H1 _ I1 q1;rw[hs] at f ⊢;refine bEM (by show (false || (backTo cpos (starEach es X.env)).any (·.1))=false;rw[b] <;> rfl) (Calls.evalArgs_plain ?_);exact thn f (by rintro us s2 ⟨vs,H2,I2,r2,q2⟩;exact l a s2 σ H2 x vs v us Q I2 r1 r2 q2)
end
def MtM (X:Cx)(id:String)(r:V->List V->Hp->VK->Prop):Prop:=
 ∀bGG s σ H x xs v us Q,Inv X bGG σ H s->RelV x v->Vals xs us->r x xs H Q ->
  wpAny (model X.prog X.w) X.A (call (.builtin id) (v::us)) (EP X bGG σ Q) X.xe s
def Vals.one:∀{x:V} {us:List Value},Vals [x] us->∃u,us=[u]/\RelV x u:=by
 intro x us h;cases h with
 |cons r t=>cases t;exact(3,r)
theorem Vals.two:∀{x y:V} {us:List Value},Vals [x,y] us->∃u v,us=[u,v]/\RelV x u/\RelV y v
 |_,_,_,.cons r t=>let (_,e,q):=Vals.one t;(00,e ▸ rfl,r,q)
theorem Vals.zero:∀{us:List Value},Vals [] us->us=[]
 |_,.nil=>rfl
def Vals.dropLast (h:Vals xs us):Vals xs.dropLast us.dropLast:=by
 induction h with
 |nil=>exact .nil
 |cons r t ih=>
  cases t with
  |nil=>exact .nil
  |cons q t'=>exact .cons r ih
def Vals.reverse (h:Vals xs us):Vals xs.reverse us.reverse:=by
 induction h with
 |nil=>exact .nil
 |cons r t ih=>rw[List.reverse_cons,List.reverse_cons];exact Vals.append ih (.cons r .nil)
def aPu {α:Type}(l:List α):l.eraseIdx (l.length - 1)=l.dropLast:=by
 induction l with
 |nil=>rfl
 |cons a r ih=>
  cases r with
  |nil=>rfl
  |cons b r=>
   have e:(a::b::r).length - 1=((b::r).length - 1)+1:=by have c:(a::b::r).length=r.length+2:=rfl;have d:(b::r).length=r.length+1:=rfl;lia
   rw[e,List.eraseIdx_cons_succ,ih];all_goals rfl
def Inv.lset {its its':List Value}{n:Nat}{f:Array Value->Array Value}{t':Nat}(I:Inv X bGG σ H s)(d:H l=some (.lst xs))
  (e:s.heap.get? l=some { cls:=.type "list",data:=.seq its.toArray n }) (g:f its.toArray=its'.toArray) (i:Vals ys its') (h:ys.length<=sizeLine) :
  Inv X bGG σ (upd H l (.lst ys)) { s with heap:=s.heap.update l (Obj.mapSeq f),toks:=t' }:=by
 have q:=PySem.IsL.update e f;rw[g] at q;refine I.write (x:=l) (e:=l) (by rw[d];exact trivial) (.inl rfl) (λc u a b=>(bDU s.heap (Obj.mapSeq f) (Ne.symm a)).trans b) (_,q) ?_;exact(h,its',_,i,q)
def Inv.lnew (I:Inv X bGG σ H s)(b:Vals ys its)(a:ys.length<=sizeLine) :
  Inv X bGG σ (upd H s.heap.objs.size (.lst ys)) { s with heap:=s.heap.push { cls:=.type "list",data:=.seq its.toArray },toks:=t' }:=
 I.laid (λ_ _ q=>c7 _ q) (j6 _) (a,its,0,b,m5 _ rfl)
def Inv.fresh (I:Inv X bGG σ H s):H s.heap.objs.size=none:=I.hok.fresh (j6 _)
def Inv.aOh (I:Inv X bGG σ H s)(a:H l=some (.lst xs)):xs.length<=sizeLine/\∃its n,Vals xs its/\xs.length=its.length/\s.heap.get? l=some { cls:=.type "list",data:=.seq its.toArray n }:=by have(z,its,n,r,e):=I.hok l _ a;exact(z,its,n,r,r.length,e)
def aYw (h:n<=sizeLine):Builtin.List.listTooLong n=false:=by unfold Builtin.List.listTooLong;exact j9 (5)
def aT1:V->List V->Hp->VK->Prop:=λx vs H Q=>∃l xs y,x=.ref l/\vs=[y]/\H l=some (.lst xs)/\xs.length<sizeLine/\Q .non (upd H l (.lst (xs++[y])))
def aH0:MtM X "list.append" aT1:=by intro c s σ H x k v i Q I d g h;have(l,m,y,rfl,rfl,b,j,q):=h;cases d;have(u,rfl,f):=g.one;have(z,a,n,r,o,e):=I.aOh b;refine call_meets F.slot_list_append (_,e,4) F.entry_list_append (F.args_list_append_2 _ _) (PySem.list_append l a.toArray n u (by rw[j7];lia)) (e,8);refine(.non,_,I.lset (its':=a++[u]) b e (9) (r.append (.cons f .nil)) ?_,4,q);rw[w6,bBG];lia
def aTb:V->List V->Hp->VK->Prop:=λx vs H Q=>∃l b xs zs,x=.ref l/\vs=[.ref b]/\H l=some (.lst xs)/\H b=some (.lst zs)/\xs.length+zs.length<=sizeLine/\Q .non (upd H l (.lst (xs++zs)))
def aU8:MtM X "list.extend" aTb:=by
 intro i s σ H x B v E Q I j w h;have(l,b,C,J,rfl,rfl,g,k,A,q):=h;cases j;have(u,rfl,p):=w.one;cases p;have(z,c,n,r,D,e):=I.aOh g;have(G,a,m,t,o,y):=I.aOh k;have f:c.toArray.size+a.toArray.size<=sizeLine:=by rw[j7,j7];lia
 have d:¬ (!c.toArray.isEmpty && Builtin.List.listTooLong (c.toArray.size+a.toArray.size))=true:=by rw[aYw f,bFN];exact z9
 refine call_meets F.slot_list_extend (_,e,4) F.entry_list_extend (F.args_list_extend_2 _ _)
  (AutoSeq1.list_extend_list_list_0 l c.toArray n b a.toArray m d (by rw[j7];lia) (5)) (e,y,8)
 refine(.non,_,I.lset (its':=c++a) g e (9) (r.append t) ?_,4,q);rw[w6];lia
def bI6:V->List V->Hp->VK->Prop:=λx vs H Q=>∃l xs y,x=.ref l/\vs=[]/\H l=some (.lst xs)/\xs[xs.length - 1]?=some y/\Q y (upd H l (.lst xs.dropLast))
def bGr:MtM X "list.pop" bI6:=by
 intro f s σ H x t v p Q I g m h;have(l,w,y,rfl,rfl,d,k,q):=h;cases g;have c:=m.zero;subst c;have(z,a,n,r,o,e):=I.aOh d;have(u,j,i):=r.get k;have b:a.toArray[a.toArray.size - 1]?=some u:=by show a.toArray[a.length - 1]?=some u;rw[<-bBS,<-o];exact j
 refine call_meets F.slot_list_pop (_,e,4) F.entry_list_pop (F.args_list_pop_1 _) (MeetsSeq.list_pop_last l a.toArray n u b (by rw[j7];lia)) (e,8);refine(y,_,I.lset (its':=a.dropLast) d e ?_ r.dropLast ?_,i,q)
 .rw[j7,bEU,aPu]
 .rw[List.length_dropLast];lia
def aMc:V->List V->Hp->VK->Prop:=λx vs H Q=>∃l xs,x=.ref l/\vs=[]/\H l=some (.lst xs)/\Q .non (upd H l (.lst xs.reverse))
def aQ9:MtM X "list.reverse" aMc:=by intro d s σ H x j v i Q I f g h;have(l,k,rfl,rfl,c,q):=h;cases f;have b:=g.zero;subst b;have(z,a,n,r,m,e):=I.aOh c;refine call_meets F.slot_list_reverse (_,e,4) F.entry_list_reverse (F.args_list_reverse_1 _) (AutoSeq1.list_reverse_list_0 l a.toArray n (by rw[j7];lia)) (e,8);refine(.non,_,I.lset (its':=a.reverse) c e (9) r.reverse ?_,4,q);rw[List.length_reverse];lia
def bKy:R2:=λx y H Q=>∃l b xs zs,x=.ref l/\y=.ref b/\H l=some (.lst xs)/\H b=some (.lst zs)/\xs.length+zs.length<=sizeLine/\∀p,H p=none->Q (.ref p) (upd H p (.lst (xs++zs)))
def bHb:OpR X (binaryOp .Add) bKy:=by
 intro d s σ H x y v u Q I f k h;have(l,b,w,D,rfl,rfl,g,i,t,q):=h;cases f;cases k;have(z,c,n,r,A,e):=I.aOh g;have(C,a,B,m,j,p):=I.aOh i;refine PySem.P.add_list e p ?_ (by rw[j7,j7];lia);have o:c.toArray++a.toArray=(c++a).toArray:=by simp
 rw[o];exact(.ref _,_,I.lnew (t':=s.toks) (r.append m) (by rw[w6];lia),4,q _ I.fresh)
end L2
namespace Att
open PySem PySem.W PySem.Calls PyProof.Rows
def aB8:∀ns vs,WellAll P h vs (ns.map WData.int)->IntsAre vs ns:=by
 intro ns
 induction ns with
 |nil=>intro vs w;rw[bFI] at w;cases w;exact .nil
 |cons n ns ih=>
  intro vs w;rw[bAE] at w;cases w with
  |cons a b=>cases a;exact .cons _ _ (ih _ b)
def aV8 {l:OpenLaw}{n:Nat}(hn:l.most=some n){P:Params}{h:Heap}{args:List WData}{vals:List Value}
  (b:l.row.toRowW.claim.pre args=true) (j:WellAll P h vals args) :
  ∃a vs ns,vals=[Value.ref a]/\args=[WData.list (ns.map WData.int)]/\h.get? a=some { cls:=.type "list",data:=.seq vs.toArray }/\IntsAre vs ns/\ns.length<=n:=by
 have g:WShape.hasAll [] args [.list .int]=true:=(pre_splitW b).1;have i:l.pre.holds [] { args:=args }=true:=(pre_splitW b).2;have(d,r,rfl,p,m):=hasAllW_cons g;obtain rfl:=hasAllW_nil m;have(s,rfl,o):=hasW_list p;have(ns,rfl):=items_int o;have c:ns.length<=n:=by
  unfold OpenLaw.pre at i;have f:(WTm.not (.lt (.lit (.int (n:Int))) (.len (.arg 0)))).holds [] { args:=[.list (ns.map .int)] }=true:=by have f:=(holds_andW i).1;rw[hn] at f;exact f
  have e:=condW_of f (w_not (w_lt w_lit (w_len_list (w_arg rfl))));rw[d7] at e;refine Nat.le_of_not_lt λq=>?_;have k:(n:Int)<((ns.length:Nat):Int):=by lia
  first
   |(rw[j4 k] at e;exact absurd e (6))
   |(simp at e;lia)
 cases j with
 |cons w1 w2=>
  cases w2;cases w1 with
  |list ho hall=>exact(00,ns,44,ho,aB8 ns _ hall,c)
def aVo (l:OpenLaw)(args:List WData):l.row.toRowW.claim.post args (.bool true) args=true:=
 postW_of
  (show WShape.has [] (.bool true) .bool=true by first|rfl|decide|simp[WShape.has,WShape.arms,WShape.armsAll])
  (show (WTm.eq .res (.lit (.bool true))).value [] { args:=args,res:=some (.bool true),after:=args }=some (.bool (true == true)) from w_eq_bool (w_res rfl) w_lit) rfl
def aOu {l:OpenLaw}{n:Nat}{q:Program}{loose:List Str}{XP:(bGF)->Heap->Prop}{YP:World->Heap->Prop}{d:DefRec}
  (hn:l.most=some n) (H:d.params.defaults=[])
  (t:∀(w:World) (s₀ s₁:Shared) (mg mb:bGF) (fa:Addr) (o:Obj) (pm cd doc:Value) (a:Addr) (vs:List Value) (ns:List Int),
   Ground q loose [] XP w s₀ mg mb s₁.heap->YP w s₁.heap ->
   s₁.heap.get? fa=some o->o.data=.func (docDef d.name d.params d.body d.scope pm cd doc)->s₁.heap.CodeRec cd d.name->mg d.name=some (.ref fa) ->
   s₁.heap.get? a=some { cls:=.type "list",data:=.seq vs.toArray }->IntsAre vs ns->ns.length<=n->s₁.gens=#[] ->
   codeAny (model l.prog w) callerA (.call (.ref fa) ([.ref a],[])) (λr s'=>r=.ok (.ret (.bool true))/\OldK s₁.heap s'.heap/\s'.os=s₁.os/\AllBare s'.gens) s₁) :
  WalkO q loose XP YP l.row.toRowW d [] (λf vs=>PySem.call f vs):=by
 intro w s₀ s₁ mg mb G Y fa o pm cd doc D kV v y i m j z s k I c p B h F;obtain rfl:D=.none:=Dflts.none m H;obtain rfl:kV=.none:=Dflts.noKw m;have(a,vs,ns,rfl,rfl,e,b,g):=aV8 hn c h;refine enter_call (bDC (t w s₀ s₁ mg mb fa o pm cd doc a vs ns G Y v (fd_plain y) i j e b g z) λr s' C=>?_);have(rfl,x,E,A):=C;exact(.inl (.bool true,.bool true,[],4,λ_=>rfl,.bool true,aVo l _,λ_=>(List.Pairwise.nil,λ_ u=>(nomatch u))),x,E,A)
end Att
namespace L2
open PySem PySem.Spec PyProof.Rows
def aWb:∀{vs:List Value} {ns:List Int},IntsAre vs ns->Vals (ns.map V.int) vs:=by
 intro vs ns h
 induction h with
 |nil=>exact .nil
 |cons n t h ih=>exact .cons (t,4) ih
def pB (s:Stmt):Arguments:=match s with
 |.FunctionDef _ a _ _ _ _ _ _ _ _=>a
 |_=>{ posonlyargs:=[],args:=[],vararg:=none,kwonlyargs:=[],kw_defaults:=[],kwarg:=none,defaults:=[] }
def iG (s:Stmt):List Stmt:=match s with
 |.FunctionDef _ _ b _ _ _ _ _ _ _=>b
 |_=>[]
def aD (s:Stmt):Scope:=match s with
 |.FunctionDef _ _ _ _ _ _ sc _ _ _=>sc
 |_=>{ kind:=.function,names:=[],isGenerator:=false,isCoroutine:=false }
abbrev CX0:CXT:=λ_ _ _ _ _ _=>False
abbrev E0:XK:=λ_ _ _=>False
def aOx:wV CX0 X E0:=λ_ _ _ _ _ _ _ h=>h.elim
structure Fun (K:bGC)(x qual:Str)(st:Stmt)(f:Addr)(fd:FuncData):Prop where
 ex:∃(oc:Value) (od:Option Addr) (kV doc pm:Value) (an:Option Addr) (cdv ct:Value) (osl:Array (Option Value)),
  fd=PySem.W.fnOf x qual (pB st) (iG st) (aD st) .none kV doc pm an cdv ct/\K.lookup f=some (oc,od,.func fd,osl)/\PySem.W.codeIn K cdv qual=true
 kp:PySem.W.keepIn K (.ref f)=true
section
variable {P:Program}{w:World}{K:bGC}{mg:bGF}{base:Heap}
def Fun.ok {x qual:Str}{st:Stmt}{f:Addr}{fd:FuncData}{N ps:List Str}{k:Nat}{sp:Sp}(F:Fun K x qual st f fd)(S:aN N ps (aD st))(j:∀vs H Q E,sp vs H Q E->vs.length=ps.length)
  (c:∀(cdv:Value) (A:Around) (outer:List Env) (s:Shared) (H:Hp) (vs:List V) (Q:VK) (E:XK),Room k (A.deeper (envOfC qual (aD st) s.heap.objs.size f cdv))->sp vs H Q E ->
   ∃t,PSs (aBj CX0 P w K mg base N qual (aD st) f cdv A outer s H E).nox (iG st) t/\t { nx:=λ_ H'=>Q .non H',rt:=Q } (start N vs) H):!mZ CX0 (k+1) f fd ps sp:=by
 have(p,n,kV,g,l,m,cdv,o,e,rfl,d,b):=F.ex;refine bFa d b S j λA outer s H vs Q E i a=>?_;have(t,h,q):=c cdv A outer s H vs Q E i a;exact(t,h.nox,q)
def Fun.binds {x qual:Str}{st:Stmt}{f:Addr}{fd:FuncData}{ps:List Str}(F:Fun K x qual st f fd)
  (h:∀(kV doc pm:Value) (an:Option Addr) (cdv ct:Value) (us:List Value),us.length=ps.length->bindArgs (PySem.W.fnOf x qual (pB st) (iG st) (aD st) .none kV doc pm an cdv ct) (us,[])=pure (ps.zip us)):Binds K fd ps []:=by
 have(e,d,kV,doc,pm,an,cdv,ct,b,rfl,c,a):=F.ex;exact .all (h kV doc pm an cdv ct)
def aLq {x qual:Str}{st:Stmt}{f:Addr}{h:Value}{g i:Option Addr}{a:Array (Option Value)}{kV b e d ct:Value}(l:K.lookup f=some (h,g,.func (PySem.W.fnOf x qual (pB st) (iG st) (aD st) .none kV b e i d ct),a))
  (c:PySem.W.codeIn K d qual=true) (k:PySem.W.keepIn K (.ref f)=true):Fun K x qual st f (PySem.W.fnOf x qual (pB st) (iG st) (aD st) .none kV b e i d ct):=((h,g,kV,b,e,i,d,ct,a,4,l,c),k)
end
abbrev KOf {K:bGC}{h:Heap}(_:K.In h):bGC:=K
def xP (a:Room k A):A.units+1<cLine:=bBI (Nat.add_le_add_left (by decide:1<=64) _) a.units
def kJ (h:n<=1000):n<sizeLine:=bBI h (6)
def pv (i:Nat)(c:!(X.N[i]?=some x))(b:!(Vis X.env.scope x,2))(d:!((x == ("__debug__":Str))=false,1))
  (a:!((x == ("__classdict__":Str))=false,1)):PE X (.Name x pos) (wR i):=bHo c b d a
def aU {A B:Prop}(h:B):if false=true then A else B:=by rw[if_neg z9];exact h
def bI {A B:Prop}(h:A):if true=true then A else B:=by rw[if_pos rfl];exact h
def aAr {c A B:Prop}[Decidable c](a:c->A)(b:¬ c->B):if c then A else B:=by
 by_cases h:c
 .rw[if_pos h];exact a h
 .rw[if_neg h];exact b h
def Same (H H':Hp):Prop:=∀b o,H b=some o->H' b=some o
def Same.refl (H:Hp):Same H H:=λ_ _ h=>h
def Same.trans (a:Same H H1)(b:Same H1 H2):Same H H2:=λc o h=>b c o (a c o h)
def Same.free (e:Same H H')(h:H' l=Option.none):H l=Option.none:=by
 cases q:H l with
 |none=>rfl
 |some o=>rw[e l o q] at h;cases h
def Same.seq {K:bGC}{H H':Hp}{a:Addr}{xs:List V}(e:Same H H')(h:SqL K H a xs):SqL K H' a xs:=by
 rcases h with (h|⟨o,h⟩)|h
 .exact .inl (.inl (e _ _ h))
 .exact .inl (.inr (o,e _ _ h))
 .exact .inr h
end L2
set_option tactic.hygienic  false
namespace PySem
namespace RvF
end RvF
def rE {α:Type}{Q:α->Shared->Prop}(c:A.handled=none)
  (q:∀h' e,(∀b o,s.heap.get? b=some o->h'.get? b=some o)->Shared.TypeIs { s with heap:=h' } (.ref e) "StopIteration"->E (.ref e) { s with heap:=h' }) :
  wpAny M A (newExc (.type "StopIteration") [] >>= λe=>(raiseNew e:Sem α)) Q E s:=by
 refine b8 ?_;simp only[newExc,newTuple,raiseNew];refine b8 (bAZ ?_ (by size_fits));refine b8 (m:=firstArgMember _ _) (wpAny_of_eq (a:=Value.none) (by simp only[firstArgMember];rfl) ?_);refine bAZ (b8 (wpAny_handled ?_)) (by size_fits);rw[c];exact b8 (d9 (wpAny_throw (q _ _ (λb o e=>c7 _ (c7 _ e)) (_,m5 _ rfl,4))))
end PySem
namespace L2
open PySem PySem.Spec PyProof.Rows
def nG:bootBuiltins "int"=some (.type "int"):=by trivial
def aI9:bootBuiltins "bool"=some (.type "bool"):=by trivial
def bBm:bootBuiltins "str"=some (.type "str"):=by trivial
def uM:bootBuiltins "list"=some (.type "list"):=by trivial
def cB:bootBuiltins "tuple"=some (.type "tuple"):=by trivial
def uO:bootBuiltins "dict"=some (.type "dict"):=by trivial
def bA2:bootBuiltins "set"=some (.type "set"):=by trivial
def bIs:bootBuiltins "zip"=some (.type "zip"):=by trivial
def aJd:bootBuiltins "enumerate"=some (.type "enumerate"):=by trivial
def bH:bootBuiltins "isinstance"=some (.builtin "isinstance"):=by trivial
def bM:bootBuiltins "len"=some (.builtin "len"):=by trivial
def mH:bootBuiltins "all"=some (.builtin "all"):=by trivial
def bHm:bootBuiltins "any"=some (.builtin "any"):=by trivial
def aYl:bootBuiltins "min"=some (.builtin "min"):=by trivial
def zL:bootBuiltins "sorted"=some (.builtin "sorted"):=by trivial
def bGb:bootBuiltins "abs"=some (.builtin "abs"):=by trivial
def sgn (x:Str)(i:Nat):Str:=⟨#[x.cps.getD i 0]⟩
def bAu (h:x.cps[i]?=some c):(⟨#[c]⟩:Str)=sgn x i:=by unfold sgn;rw[bAU,h];rfl
def Its (x:Str):It:=(λi _=>i<x.cps.size,λi H v H'=>H'=H/\v=.str (sgn x i),λi _=>x.cps.size<=i)
def aWn {P:Program}{w:World}{K:bGC}{tg:Expr}(it:Addr)(x:Str)(t:Tok):Turn P w K tg (Its x) [it] it (λi h=>h.IsStrIter it "str_ascii_iterator" x t i) where
 mem:=by simp
 obj:=λi h a b f=>by
  have e:b=it:=by simpa using f
  subst e;have(o,e,c,d):=a;exact(o,e,λv z=>by rw[d] at z;cases z)
 keep:=λi h l a k=>let (o,ho,r):=a;(o,k it (9) o ho,r)
 item:=by intro X n D q p i g s σ H E I m a A;subst n D q;have(G,J,R,C,B,y):=m it (9);refine (Walks.strAscii (prog:=X.prog) (w:=X.w) (I.ok.hd p) it x t).item i s _ _ A a λv l L O j N=>?_;have(c,u,F,rfl):=O;have M:Inv X g σ H { s with heap:=l,toks:=L }:=I.turned (λb o f e=>N b o (by simpa using f) e) G J C B y;have(o,e,Q,d):=id j;exact(3,aM4 (s:={ s with heap:=l,toks:=L }) e Q d (6) (.str ⟨#[c]⟩,H,M,(u,4),(4,by rw[bAu F]),j,λb f=>(m b f).1))
 done:=by intro X n D q p i g s σ H E I m a A;subst n D q;have(G,J,R,C,B,y):=m it (9);exact wpAny_pyNext_ascii_end (I.ok.hd p) a (Array.getElem?_eq_none_iff.mpr A) λl S=>(4,I.turned (t':=s.toks) (λb o f e=>S b o f e) G J C B y)
 self:=λ_ _ _ _ _ a h=>wpAny_pyIter_striter_ascii a h
def aW9 {P:Program}{w:World}{K:bGC}{tg:Expr}(it:Addr)(x:Str)(t:Tok):Turn P w K tg (Its x) [it] it (λi h=>h.IsStrIter it "str_iterator" x t i) where
 mem:=by simp
 obj:=λi h a b f=>by
  have e:b=it:=by simpa using f
  subst e;have(o,e,c,d):=a;exact(o,e,λv z=>by rw[d] at z;cases z)
 keep:=λi h l a k=>let (o,ho,r):=a;(o,k it (9) o ho,r)
 item:=by intro X n D q p i g s σ H E I m a A;subst n D q;have(G,J,R,C,B,y):=m it (9);refine (Walks.strWide (prog:=X.prog) (w:=X.w) (I.ok.hd p) it x t).item i s _ _ A a λv l L O j N=>?_;have(c,u,F,rfl):=O;have M:Inv X g σ H { s with heap:=l,toks:=L }:=I.turned (λb o f e=>N b o (by simpa using f) e) G J C B y;have(o,e,Q,d):=id j;exact(3,aM4 (s:={ s with heap:=l,toks:=L }) e Q d (6) (.str ⟨#[c]⟩,H,M,(u,4),(4,by rw[bAu F]),j,λb f=>(m b f).1))
 done:=by intro X n D q p i g s σ H E I m a A;subst n D q;have(G,J,R,C,B,y):=m it (9);exact wpAny_pyNext_wide_end (I.ok.hd p) a (Array.getElem?_eq_none_iff.mpr A) λl S=>(4,I.turned (t':=s.toks) (λb o f e=>S b o f e) G J C B y)
 self:=λ_ _ _ _ _ a h=>wpAny_pyIter_striter_wide a h
def bG5 (tl:TE):TI:=fun σ H R=>tl σ H λx H1=>∃z,x=.str z/\R (Its z) H1
def bHj (g:PE X l tl):PI X tg l (bG5 tl):=by
 intro a s σ H R I h;refine thn (g a s σ H _ I h) ?_;rintro v s1 ⟨x,H1,I1,r1,q1⟩;have(z,e,q):=q1;subst e;have(t,rfl):=r1;have d:∀b∈[s1.heap.objs.size],uU X a H1 b:=λb f=>by
  have e:b=s1.heap.objs.size:=by simpa using f
  subst e;exact I1.aMk (j6 _) (I1.hok.fresh (j6 _))
 cases c:z.cps.all (·<128)
 .exact wpAny_pyIter_wide c (s1.heap.objs.size,[s1.heap.objs.size],00,H1,4,I1.kept (t':=s1.toks) λb o e=>c7 _ e,aW9 _ z t,(_,m5 _ rfl,44),d,q)
 .exact wpAny_pyIter_ascii c (s1.heap.objs.size,[s1.heap.objs.size],00,H1,4,I1.kept (t':=s1.toks) λb o e=>c7 _ e,aWn _ z t,(_,m5 _ rfl,44),d,q)
def aQa (x:V)(T:String):Option Bool:=match x with
 |.int _=>if T = "int" then some true else if T = "bool" then some false else if T = "str" then some false else none
 |.str _=>if T = "int" then some false else if T = "bool" then some false else if T = "str" then some true else none
 |.bl _=>if T = "int" then some true else if T = "bool" then some true else if T = "str" then some false else none
 |_=>none
def bKd:List V->Hp->VK->Prop:=λxs H Q=>∃x T b,xs=[x,.ty T]/\aQa x T=some b/\Q (.bl b) H
def pW:cZ X (.builtin "isinstance") bKd:=by
 intro c s σ H m l Q I r h;have(x,T,b,rfl,e,q):=h;have(u,v,rfl,g,j):=r.two;cases j;have f:∀{k:Bool},some k=some b->EP X c σ Q (.bool k) s:=λe=>by cases e;exact(.bl _,H,I,4,q)
 have d:∀{k:Bool},some k=some b->EP X c σ Q (.bool k) { s with toks:=s.toks+1 }:=λe=>by cases e;exact(.bl _,H,I.tok _,4,q)
 cases x with
 |int i=>
  have(t,rfl):=g;unfold aQa at e;dsimp only at e
  split at e
  .rename_i a;subst a;exact IsiPair.int_int (f e)
  split at e
  .rename_i a;subst a;exact IsiPair.int_bool (d e)
  split at e
  .rename_i a;subst a;exact IsiPair.int_str (d e)
  .cases e
 |str z=>
  have(t,rfl):=g;unfold aQa at e;dsimp only at e
  split at e
  .rename_i a;subst a;exact IsiPair.str_int (d e)
  split at e
  .rename_i a;subst a;exact IsiPair.str_bool (d e)
  split at e
  .rename_i a;subst a;exact IsiPair.str_str (f e)
  .cases e
 |bl z=>
  cases g;unfold aQa at e;dsimp only at e
  split at e
  .rename_i a;subst a;exact IsiPair.bool_int (f e)
  split at e
  .rename_i a;subst a;exact IsiPair.bool_bool (f e)
  split at e
  .rename_i a;subst a;exact IsiPair.bool_str (d e)
  .cases e
 |_=>cases (show (none:Option Bool)=some b from e)
def small (h:n<=1000):n<=sizeLine:=bDJ (kJ h)
def eZ:Vals [] []:=.nil
def bW (r:RelV x u)(t:Vals xs us):Vals (x::xs) (u::us):=.cons r t
def fJ:Expr->Bool
 |.Starred ..=>false
 |_=>true
def bO (h:fJ e=true):starEach (e::es) env=(false,eval e env,)::starEach es env:=by cases e <;> first|rfl|cases h
def bLj (b:PE X e te)(a:PA X es t)(c:!(fJ e=true)) :
  PA X (e::es) (cX te t):=bCc b a (bO c)
def bJn (c:Gl X x)(a:∃u,X.mg x=some u/\RelV v u)(b:!((x == ("__debug__":Str))=false,1)):PE X (.Name x pos) (tC v):=by have(u,a,r):=a;exact bDn c a r b
section
variable {P:Program}{w:World}{K:bGC}{mg:bGF}{base:Heap}
def Dn (K:bGC)(mg:bGF)(x:Str)(st:Stmt)(ps:List Str):Prop:=∃f fd,Fun K x x st f fd/\Binds K fd ps []/\mg x=some (.ref f)
def Ok (P:Program)(w:World)(K:bGC)(mg:bGF)(base:Heap)(k:Nat)(x:Str)(ps:List Str)(sp:Sp):Prop:=
 ∃f fd,mg x=some (.ref f)/\PySem.W.keepIn K (.ref f)=true/\Binds K fd ps []/\!mZ CX0 k f fd ps sp
def Ok.mono (h:!Ok j x ps sp)(g:j<=k):!Ok k x ps sp:=by have(f,b,e,c,a,d):=h;exact(f,b,e,c,a,d.mono g)
def Ok.of {x:Str}{st:Stmt}{N ps:List Str}{k:Nat}{sp:Sp}(D:Dn K mg x st ps)(S:aN N ps (aD st))(c:∀vs H Q E,sp vs H Q E->vs.length=ps.length)
  (a:∀(f:Addr) (cdv:Value) (A:Around) (outer:List Env) (s:Shared) (H:Hp) (vs:List V) (Q:VK) (E:XK),Room k (A.deeper (envOfC x (aD st) s.heap.objs.size f cdv))->sp vs H Q E ->
   ∃t,PSs (aBj CX0 P w K mg base N x (aD st) f cdv A outer s H E).nox (iG st) t/\t { nx:=λ_ H'=>Q .non H',rt:=Q } (start N vs) H):!Ok (k+1) x ps sp:=by
 have(f,b,F,B,m):=D;exact(f,b,m,F.kp,B,F.ok S c λcdv A outer s H vs Q E d h=>a f cdv A outer s H vs Q E d h)
end
def bI8 (G:Ok X.prog X.w X.K X.mg X.base k x ps sp)(i:Room k X.A)(m:Gl X x)(j:PA X (e::es) t)(a:!((x == ("__debug__":Str))=false,1))
  (n:!(starEach (e::es) X.env=(false,eval e X.env,)::starEach es X.env)) (d:!((backTo pos (starEach es X.env)).any (·.1)=false)) :
  PE X (.Call (.Name x p) (e::es) [] pos) (aEh sp [] E0 t):=by
 have(f,l,c,g,b,h):=G;exact bCd h i m c g b .nil aOx j a n d
def aQq (f:Str × NameKind->List (Str × Addr)->Sem (ForInStep (List (Str × Addr))))
  (s:∀n r,f (n,.free,) r=(cellOf env n >>= λa=>pure (.yield ((n,a,)::r)))) (o:∀n k r,k≠.free->f (n,k,) r=pure (.yield r)) :
  ∀(names:List (Str × NameKind)) (acc:List (Str × Addr)),(∀y∈names,y.2=.free->∃c,env.cells.lookup y.1=some c) ->
  ∃cl,forIn names acc f=(pure (cl++acc):Sem _)/\(∀p∈cl,env.cells.lookup p.1=some p.2/\(p.1,NameKind.free,)∈names)/\∀y,(y,NameKind.free,)∈names->∃c,(y,c,)∈cl:=by
 intro j
 induction j with
 |nil=>rintro acc _;exact([],9,λ_ h=>(nomatch h),λ_ h=>(nomatch h))
 |cons pz r ih=>
  rintro acc h;have(n,k):=pz;by_cases d:k=.free
  .subst d;have(c,i):=h (n,.free,) v7 rfl;have(cl,e,b,g):=ih ((n,c,)::acc) λy hy=>h y (j8 _ hy);refine(cl++[(n,c,)],8,λp hp=>?_,λy hy=>?_)
   .rw[List.forIn_cons,s];have l:cellOf env n=pure c:=by unfold cellOf;rw[i]
    rw[l,pure_bind,pure_bind];show forIn r ((n,c,)::acc) f=_;rw[e,bCY];rfl
   .rcases List.mem_append.mp hp with hp|hp
    .exact((b p hp).1,j8 _ (b p hp).2)
    .obtain rfl:=List.mem_singleton.mp hp;exact(i,v7)
   .rcases List.mem_cons.mp hy with e|hy
    .cases e;exact(c,9)
    .have(m,q):=g y hy;exact(m,bCF _ q)
  .have(cl,e,b,g):=ih acc λy hy=>h y (j8 _ hy);refine(cl,8,λp hp=>((b p hp).1,j8 _ (b p hp).2),λy hy=>?_)
   .rw[List.forIn_cons,o n k acc d,pure_bind];exact e
   .rcases List.mem_cons.mp hy with e|hy
    .cases e;exact absurd rfl d
    .exact g y hy
def aQi (h:∀y∈scope.names,y.2=.free->∃c,env.cells.lookup y.1=some c) :
  ∃cl,closureFor scope env=pure cl/\(∀p∈cl,env.cells.lookup p.1=some p.2/\(p.1,NameKind.free,)∈scope.names)/\∀y,(y,NameKind.free,)∈scope.names->∃c,(y,c,)∈cl:=by
 unfold closureFor;have(cl,e,f,b):=aQq (env:=env) (λx r=>match x with|(name,kind,)=>if (kind == NameKind.free)=true then do let a <-cellOf env name;pure (.yield ((name,a,)::r)) else pure (.yield r))
  (λn r=>rfl) (λn k r d=>by
   have:(k == NameKind.free)=false:=by simpa using d
   simp only[this,bCE,if_false]) scope.names [] h
 refine(cl,8,f,b);rw[bCM] at e;refine Eq.trans ?_ e;first
 |rfl
 |simp
theorem lookup_mem {α β:Type}[BEq α][LawfulBEq α]{a:α}{b:β}:∀{l:List (α × β)},(a,b,)∈l->∃b',l.lookup a=some b'
 |(x,y,)::r,h=>by
  rw[List.lookup_cons];by_cases e:(a == x)=true
  .exact(y,by rw[e])
  .have c:(a == x)=false:=by simpa using e
   rw[c];rcases List.mem_cons.mp h with z|z
   .cases z;simp at e
   .exact lookup_mem z
abbrev rl (env:Env)(x:Str × NameKind):Str × NameKind:=match x with|(n,k,)=>if (k == NameKind.free && env.scope.kind == ScopeKind.function && env.kindOf n == some NameKind.cell) then (n,NameKind.cell,) else (n,k,)
def bBa (env:Env)(x:Str × NameKind):(rl env x).1=x.1:=by
 have(n,k):=x;simp only[rl]
 split <;> rfl
def bHz {env:Env}{x:Str × NameKind}(h:x.2≠.free):(rl env x).2=x.2:=by have(n,k):=x;simp only[rl];rw[if_neg (by simp[show k≠.free from h])]
def aFl {y:Str}(f:Str × NameKind->Str × NameKind)(a:∀x,(f x).1=x.1)(l:List (Str × NameKind)):(l.map f).lookup y=(l.find? λx=>y == x.1).map λx=>(f x).2:=by
 induction l with
 |nil=>rfl
 |cons x l ih=>rw[bAE,bBA,show f x=((f x).1,(f x).2,) from rfl,List.lookup_cons,a,ih];cases y == x.1 <;> rfl
def aXe {y:Str}{k:NameKind}{l:List (Str × NameKind)}(h:l.lookup y=some k):(l.find? λx=>y == x.1)=some (y,k,):=by have e:=aFl (y:=y) id (λ_=>rfl) l;rw[List.map_id,h] at e;have(x,c,e):=Option.map_eq_some_iff.mp e.symm;have(a,b):=x;cases e;have q:(y == a)=true:=List.find?_some (p:=λx:Str × NameKind=>y == x.1) c;rw[c,eq_of_beq q];rfl
def aJ0 {env:Env}{y:Str}{names:List (Str × NameKind)}(h:names.lookup y=some .free):(names.map (rl env)).lookup y=some .cell\/(names.map (rl env)).lookup y=some .free:=by
 rw[aFl _ (bBa env),aXe h];show some (rl env (y,.free,)).2=_\/some (rl env (y,.free,)).2=_;simp only[rl]
 split
 .exact .inl rfl
 .exact .inr rfl
def aJg {env:Env}{y:Str}{names:List (Str × NameKind)}(g:∀z∈names,z.2≠.cell)
  (h:(names.map (rl env)).lookup y=some .cell\/(names.map (rl env)).lookup y=some .free):(y,NameKind.free,)∈names:=by
 rw[aFl _ (bBa env)] at h;obtain⟨x,d,e⟩:∃x,(names.find? λx=>y == x.1)=some x/\((rl env x).2=.cell\/(rl env x).2=.free):=by rcases h with h|h <;> (have(x,a,b):=Option.map_eq_some_iff.mp h;exact(x,a,by first|exact .inl b|exact .inr b))
 have m:=bFT d;have f:=eq_of_beq (show (y == x.1)=true from List.find?_some (p:=λx:Str × NameKind=>y == x.1) d);have(n,k):=x;by_cases c:k=.free
 .subst c;rw[f];exact m
 .rw[bHz c] at e;rcases e with e|e
  .exact absurd e (g _ m)
  .exact absurd e c
def aWh (I:Nat->Shared->Prop)
  (f:∀n s,I n s->wpAny (model prog w) A (pyNext it) (λr s₁=>match r with
   |none=>R (.ok .next) s₁
   |some v=>wpAny (model prog w) A (letOwnedTupleGo target it v) (λ_ s'=>wpAny (model prog w) A (assign target env v) (λ_ s₂=>
     wpAny (model prog w) A (forIn ifs true λc r=>if r=true then do let ok <-isTrue c env (eval c env);pure (ForInStep.yield ok) else pure (ForInStep.yield r)) (λok s₃=>
      if ok=true then wpAny (model prog w) A (eval elt env) (λx s₄=>
       wpAny (model prog w) A (call (.builtin "list.append") [acc,x]) (λ_ s₅=>∃m,m<n/\I m s₅) (notedBy (model prog w) A env λe s'=>R (.error e) s') s₄) (notedBy (model prog w) A env λe s'=>R (.error e) s') s₃
      else ∃m,m<n/\I m s₃) (notedBy (model prog w) A env λe s'=>R (.error e) s') s₂) (notedBy (model prog w) A env λe s'=>R (.error e) s') s') (notedBy (model prog w) A env λe s'=>R (.error e) s') s₁)
   (notedBy (model prog w) A env λe s'=>R (.error e) s') s)
  (n:Nat) (h:I n s):codeAny (model prog w) A (.compLoop (.ListComp elt [(target,iter,ifs,0)] scope pos) 0 it acc env) R s:=by
 refine codeAny_loop rfl I (λn s j=>?_) n h;show wpAny _ A ((compTurn (.ListComp elt [(target,iter,ifs,0)] scope pos) 0 it acc env).onRaise (λx=>do noteFrame x env;theTreesLotGoes x)) _ _ s;refine wpAny_noted ?_;rw[compTurn_list];refine b8 (wpAny_standAt (b8 (bBJ (f n s j) (λr s₁ g=>?_) λ_ _ a=>a)));cases r with
 |none=>exact d9 g
 |some v=>
  refine b8 (bBJ g (λ_ s' b=>b8 (bBJ b (λ_ s₂ l=>b8 (bBJ l (λok s₃ d=>?_) λ_ _ a=>a)) λ_ _ a=>a)) λ_ _ a=>a);cases ok with
  |false=>exact d9 (4,d)
  |true=>exact b8 (b8 (bBJ d (λx s₄ i=>b8 (bBJ i (λ_ s₅ k=>d9 (d9 (4,k))) λ_ _ a=>a)) λ_ _ a=>a))
def cxC (X:Cx)(N:List Str)(scope:Scope)(cl:List (Str × Addr))(s:Shared)(H:Hp)(fp:List Addr):Cx:=
 { X with N:=N,s₀:=s,H₀:=H,env:=compEnvC scope cl s.heap.objs.size X.env,outer:=X.stack,stack:=X.stack,ex:=fp,fn:=λ_=>false,pn:=[],xe:=λ_ _=>False }
def aVz (X:Cx)(ifs:List Expr)(tt:TT):Prop:=
 ∀bGG s σ H Q,Inv X bGG σ H s->tt σ H Q ->
  wpAny (model X.prog X.w) X.A (forIn ifs true λc r=>if r=true then do let ok <-isTrue c X.env (eval c X.env);pure (ForInStep.yield ok) else pure (ForInStep.yield r)) (TP X bGG σ Q) X.xe s
def lO:TT:=λ_ H Q=>Q true H
def bF8:aVz X [] lO:=λ_ _ _ H _ I h=>wpAny_tests_nil (H,I,h)
def bGd (h:PT X c tc):aVz X [c] tc:=λa s σ H Q I q=>wpAny_tests_one (h a s σ H Q I q)
structure uG (scope:Scope)(N:List Str):Prop where
 cell:∀y∈scope.names,y.2≠.cell
 kind:scope.kind=.function
 names:∀y∈scope.names,y.2=.local->scope.names.lookup y.1=some .local
 free:∀y∈scope.names,y.2=.free->scope.names.lookup y.1=some .free
def Cap (X:Cx)(scope:Scope)(N:List Str)(σ σ':St):Prop:=
 σ'.length=N.length/\∀(i:Nat) (y:Str) (v:V),N[i]?=some y->σ'[i]?=some (some v)->(y,NameKind.free,)∈scope.names/\∃j:Nat,X.N[j]?=some y/\σ[j]?=some (some v)/\Vis X.env.scope y
def bBp {X:Cx}{bGG:bGE}{σ σ':St}{H:Hp}{s:Shared}{scope:Scope}{N:List Str}{cl:List (Str × Addr)}{fp:List Addr}{h1:Heap}{tk:Nat}{m1:bGF}
  (I:Inv X bGG σ H s) (C:uG scope N) (T:∀y,(y,NameKind.free,)∈scope.names->X.env.kindOf y=some .cell\/X.env.kindOf y=some .free)
  (p1:∀p∈cl,X.env.cells.lookup p.1=some p.2/\(p.1,NameKind.free,)∈scope.names) (p2:∀y,(y,NameKind.free,)∈scope.names->∃c,(y,c,)∈cl)
  (G:Cap X scope N σ σ') (O:∀b∈fp,uU X bGG H b) (a0:∀b∈fp,b<s.heap.objs.size)
  (hn:h1.Ns s.heap.objs.size m1) (E:∀b o,s.heap.get? b=some o->h1.get? b=some o) :
  Inv (cxC X N scope cl s H fp) [] σ' H { s with heap:=h1,toks:=tk }:=by
 have a:=I.ok;have f:∀y c,cl.lookup y=some c->X.env.cells.lookup y=some c:=λy c e=>(p1 _ (PySem.mem_of_lookup e)).1;have n:∀y,(y,NameKind.free,)∈scope.names->∃c,cl.lookup y=some c/\X.env.cells.lookup y=some c:=λy d=>by have(c,U):=p2 y d;have(B,e):=lookup_mem U;exact(B,e,f y B e)
 have t:∀b∈fp,b∉frs X.stack:=λb g z=>by
  have(P,K,J,_):=O b g;rcases List.mem_cons.mp (I.aKq b z) with e|e
  .exact K e
  .exact J e
 have F:(cxC X N scope cl s H fp).Ok:=by
  refine(a.mod,C.kind,a.glob,a.blt,j6 _,λx y c h1 S=>a.inj x y c (f x c h1) (f y c S),λy d=>?_,λy c h _=>?_,a.hd,a.frames,.inl rfl,λb g=>?_,I.bs,bAM a.bsz I.sz,
   λb o e g=>?_,t,I.stack,I.yG)
  .have(c,e,_):=n y (aJg C.cell d);exact(c,e)
  .exact absurd (show false=true from h) z9
  .have(P,K,J,M,L,V):=O b g;exact(bAA (a0 b g),λx c e=>L x c (f x c e))
  .have(P,K,J,M,L,V):=O b g;rcases M with z|z
   .exact a.noex b o e z
   .exact absurd (bAF (v8 e) (bAM a.bsz z)) (bBV _)
 refine(F,4,I.bare,Un.kept E,(m1,hn,λi y v Q e2 e3=>?_),λy c e=>?_,I.hok.fresh (j6 _),λy c e=>I.freeC y c (f y c e),λp hp=>absurd (show p∈([]:bGE) from hp) (9),I.hok.kept E,G.1)
 .have(d,j,e4,Z,R):=G.2 i y v Q e2;have(m,_,W):=I.loc;have(u,r,l):=W j y v e4 Z R;refine(u,r,.inr ?_);rcases l with⟨k,_⟩|⟨k,c,e,z⟩
  .rcases T y d with q|q <;> (rw[k] at q;cases q)
  .have(B,Y,w):=n y d;rw[e] at w;cases w;have rl:=aJ0 (env:=X.env) (C.free (y,.free,) d rfl);exists rl,c,Y;have(o,A,D):=z;exact(o,E _ _ A,D)
 .have(v,o,A,D):=I.cell y c (f y c e);exact(v,o,E _ _ A,D)
def jB (X:Cx)(scope:Scope)(N:List Str)(wi:TI)(g:TG)(tt:TT)(te:TE):TE:=fun σ H Q=>∃σ0,Cap X scope N σ σ0/\wi σ H λJ H1=>∀D,H1 D=none->∃W:Nat->Nat->St->Hp->List V->Prop,(∃m,W 0 m σ0 (upd H1 D (.lst [])) []) /\
 ∀i m σ' H' ys,W i m σ' H' ys->H' D=some (.lst ys)/\((J.stop i H'/\Q (.ref D) H')\/(J.go i H'/\∀x H2,J.yld i H' x H2->g x σ' H2 fun σ3 H3=>tt σ3 H3 λb H4=>
  if b=true then te σ3 H4 λy H5=>H5 D=some (.lst ys)/\ys.length<sizeLine/\∃m',m'<m/\W (i+1) m' σ3 (upd H5 D (.lst (ys++[y]))) (ys++[y]) else H4 D=some (.lst ys)/\∃m',m'<m/\W (i+1) m' σ3 H4 ys))
def aHb {X:Cx}{ak a5 ag:Expr}{ah:List Expr}{scope:Scope}{ai p9:Pos}{N:List Str}{wi:TI}{g:TG}{tt:TT}{te:TE}{use:Option (Value->Sem Unit)}{QQ:bGD}{R:bGE}{s:Shared}{σ:St}{H:Hp}{Qv:VK}
  (C:uG scope N) (a7:∀y,(y,NameKind.free,)∈scope.names->X.env.kindOf y=some .cell\/X.env.kindOf y=some .free) (hc:X.calm=true)
  (hi:PI X a5 ag wi)
  (a:∀cl s H fp,PG (cxC X N scope cl s H fp) a5 g/\aVz (cxC X N scope cl s H fp) ah tt/\PE (cxC X N scope cl s H fp) ak te)
  (hs:∀x,foldedSetIterable ag X.env x=pure x) (I:Inv X R σ H s) (hq:jB X scope N wi g tt te σ H Qv)
  (Y:∀(D fr:Addr) (H5:Hp) (s6:Shared),(∃m6,s6.heap.Ns fr m6)->(∀h',(∀b o,b≠fr->s6.heap.get? b=some o->h'.get? b=some o)->Inv X R σ H5 { s6 with heap:=h' })->uU X R H5 fr->Qv (.ref D) H5->compPost (model X.prog X.w) X.A X.xe use QQ (.ref D) fr (.ok .next) s6) :
  wpAny (model X.prog X.w) X.A (comprehension (.ListComp ak [(a5,ag,ah,0)] scope ai) scope X.env p9 (newList []) false (eval ag X.env) use) QQ X.xe s:=by
 have(σ0,ae,hq):=hq;have(cl,ab,p1,p2):=aQi (scope:=scope) (env:=X.env) (λy hy hk=>by have(n,k):=y;cases hk;exact I.ok.has n (a7 n hy))
 refine wpAny_comprehension_free (use:=use) rfl hs ab C.kind C.names (thn (hi R s σ H _ I hq) λxv s1 h1=>thn h1 λaj f h2=>?_);have(it,fp,tn,J,G,rfl,I2,T,a1,f2,q2):=h2;refine bAZ (wpAny_newFunctionEnv C.cell (by intro y hy;simp at hy) (λh₁ E B=>?_) C.kind);dsimp only at E B ⊢;have hD:G f.heap.objs.size=none:=I2.hok.fresh (j6 _);have I3:Inv X R σ (upd G f.heap.objs.size (.lst [])) { f with heap:=f.heap.push { cls:=.type "list",dict:=none,data:=.seq ([]:List Value).toArray } }:=
  I2.laid (t':=f.toks) (λb u e=>c7 _ e) (j6 _) (bAI _,[],0,.nil,m5 _ rfl)
 generalize V:({ f with heap:=f.heap.push { cls:=.type "list",dict:=none,data:=.seq ([]:List Value).toArray } }:Shared)=s3 at I3;have O:f.heap.push { cls:=.type "list",dict:=none,data:=.seq ([]:List Value).toArray }=s3.heap:=by rw[<-V]
 rw[O] at E B;have a4:∀b∈fp,b<f.heap.objs.size:=λb a=>by have(o,e,_):=T.obj _ _ a1 b a;exact v8 e
 have a9:∀b∈fp,b<s3.heap.objs.size:=λb a=>by rw[<-O,bBT];exact bCB (a4 b a)
 have f3:∀b∈fp,uU X R (upd G f.heap.objs.size (.lst [])) b:=λb a=>by have(f0,fr):=f2 b a;exact(by rw[bC (bAA (a4 b a))];exact f0,fr)
 have F:∀b o,s3.heap.get? b=some o->h₁.get? b=some o:=λb o e=>B.extBut b o (bAA (v8 e)) (c7 _ e);have I4:=bBp (tk:=s3.toks) I3 C a7 p1 p2 ae f3 a9 E F;have Z:tn 0 h₁:=T.keep _ _ _ a1 λb a o e=>F b o (by rw[<-O];exact c7 _ e);have(W,(m0,w0),a3):=q2 f.heap.objs.size hD;have M:∀{Q:Hp},(∀b∈fp,Q b=none)->∀b∈fp,uU (cxC X N scope cl s3 (upd G f.heap.objs.size (.lst [])) fp) [] Q b:=λ{Q} hn b a=>by have(S,e2):=I4.ok.exf b a;exact(hn b a,S,I4.ok.exfs b a,.inl a,e2,λp hp=>absurd (show p∈([]:bGE) from hp) (9))
 have K:∀s4:Shared,s4={ s3 with heap:=h₁,toks:=s3.toks } ->
   codeAny (model X.prog X.w) X.A (.compLoop (.ListComp ak [(a5,ag,ah,0)] scope ai) 0 (.ref it) (.ref f.heap.objs.size) (compEnvC scope cl s3.heap.objs.size X.env))
    (compPost (model X.prog X.w) X.A X.xe use QQ (.ref f.heap.objs.size) s3.heap.objs.size) s4:=by
  rintro s4 rfl;refine aWh (λn s'=>∃i σ' Q ys,Inv (cxC X N scope cl s3 (upd G f.heap.objs.size (.lst [])) fp) [] σ' Q s'/\tn i s'.heap/\(∀b∈fp,Q b=none)/\W i n σ' Q ys) ?_ m0 (0,σ0,_,[],I4,Z,λb a=>(f3 b a).1,w0);rintro n s5 ⟨i,σ5,H5,ys,I5,st5,fr5,w5⟩;have(af,w5):=a3 i n σ5 H5 ys w5;have l:∀{α:Type} {t:Sem α} {Q':α->Shared->Prop} {E':bGD} {s':Shared},wpAny (model X.prog X.w) X.A t Q' (λ_ _=>False) s'->wpAny (model X.prog X.w) X.A t Q' E' s':=λh=>bBJ h (λ_ _ q=>q) λ_ _ z=>z.elim;rcases w5 with⟨a0,qn⟩|⟨go,step⟩
  .refine l (thn (T.done (cxC X N scope cl s3 (upd G f.heap.objs.size (.lst [])) fp) rfl rfl rfl hc i [] s5 σ5 H5 _ I5 (M fr5) st5 a0) ?_);rintro r s6 ⟨hr,I6⟩;subst hr;have(m6,aa,_):=I6.loc;refine Y _ _ H5 s6 (m6,aa) (λh' kp=>?_) (I3.aMk (j6 _) I6.free) qn;have P:∀b o,s3.heap.get? b=some o->b≠s3.heap.objs.size:=λb o e=>bAA (v8 e);have un:Un (frs X.stack) fp (upd G f.heap.objs.size (.lst [])) H5 s3.heap h':=by
    have u:=I6.base;exact(λb o e n a hx=>kp b o (P b o e) (u.keep b o e n a hx),λb o e n a hx=>by
     have(sl,S):=u.slot b o e n a hx;exact(sl,kp b _ (P b o e) S),u.free,λb o e hx=>by
     have(o',S):=u.there b o e hx;exact(o',kp b _ (P b o e) S),u.tups,u.frzs,u.tbls)
   have a6:HOk X.prog X.w H5 h':=λb u e=>by
    refine (I6.hok b u e).stay (λc v ac q=>kp c v ?_ q) (λ_ q=>q) λ_ _ q=>q;have j:H5 s3.heap.objs.size=none:=I6.free;rintro rfl;rcases ac with z|z
    .rw[z] at j;rw[j] at e;cases e
    .rw[j] at z;cases z
   refine I3.call' (s':={ s6 with heap:=h' }) I6.os un a6 I6.bare λb a=>?_;have(f0,f1,al,ad,f4,f5):=f3 b a;exact(ad,f1,f4,f5)
  .refine l (thn (T.item (cxC X N scope cl s3 (upd G f.heap.objs.size (.lst [])) fp) rfl rfl rfl hc i [] s5 σ5 H5 (λ_ _=>False) I5 (M fr5) st5 go) ?_);rintro r s6 ⟨u,hr,h6⟩;subst hr;refine l (thn h6 ?_);rintro _ s7 ⟨x,H7,I7,r7,y7,st7,fr7⟩;have(hg,ht,he):=a cl s3 (upd G f.heap.objs.size (.lst [])) fp;have a8:=I7.pinned (M fr7) (T.obj _ _ st7);have m:∀{L:St} {U:Hp} {s8:Shared},Inv (cxC X N scope cl s3 (upd G f.heap.objs.size (.lst [])) fp) ([]++aDu fp s7.heap) L U s8->tn (i+1) s8.heap/\∀b∈fp,U b=none:=λ{L U s8} I8=>
    (T.keep _ _ _ st7 λb a o e=>(I8.pin (b,o,) (bAV _ (bAV _ (rB a e)))).1,λb a=>by have(o,e,d):=T.obj _ _ st7 b a;exact (I8.pin (b,o,) (bAV _ (bAV _ (rB a e)))).2.1)
   refine l (thn (hg _ s7 σ5 H7 x u _ a8 r7 (step x H7 y7)) ?_);rintro _ s8 ⟨L,U,I8,q8⟩;refine l (thn (ht _ s8 L U _ I8 q8) ?_);rintro b s9 ⟨H9,I9,q9⟩;cases b with
   |false=>rw[if_neg z9] at q9 ⊢;have(_,m',hm,w9):=q9;exact(m',hm,i+1,L,H9,ys,I9.sG,(m I9).1,(m I9).2,w9)
   |true=>rw[if_pos rfl] at q9 ⊢;refine l (thn (he _ s9 L H9 _ I9 q9) ?_);rintro yv s10 ⟨y,H10,I10,r10,hacc10,hlen,m',hm,w10⟩;refine l (thn (aH0 _ s10 L H10 (.ref f.heap.objs.size) [y] (.ref f.heap.objs.size) [yv] (λ_ a2=>a2=upd H10 f.heap.objs.size (.lst (ys++[y]))) I10 rfl (.cons r10 .nil) (012,hacc10,hlen,4)) ?_);rintro _ s11 ⟨z,a2,I11,_,e11⟩;subst e11;exact(m',hm,i+1,L,_,ys++[y],I11.sG,(m I11).1,(m I11).2,w10)
 have Y:=codeAny_compStart_list (K { s3 with heap:=h₁,toks:=s3.toks } rfl) (T.self _ _ _ _ _ Z (K { s3 with heap:=h₁,toks:=s3.toks } rfl));subst V;exact Y
def bD4
  (C:uG scope N) (i:∀y,(y,NameKind.free,)∈scope.names->X.env.kindOf y=some .cell\/X.env.kindOf y=some .free) (j:X.calm=true)
  (hi:PI X target iter wi)
  (a:∀cl s H fp,PG (cxC X N scope cl s H fp) target g/\aVz (cxC X N scope cl s H fp) ifs tt/\PE (cxC X N scope cl s H fp) elt te)
  (hs:!(∀x,foldedSetIterable iter X.env x=pure x,3)) :
  PE X (.ListComp elt [(target,iter,ifs,0)] scope pos) (jB X scope N wi g tt te):=by
 intro c s σ H Q I f;rw[eval_ListComp];exact aHb C i j hi a hs I f (by rintro D fr H5 s6 ⟨m6,hn6⟩ inv _ qn;exact(m6,hn6,λh d=>(.ref D,H5,inv h λb o a e=>d.extBut b o a e,4,qn)))
def PE.imp (h:PE X e t)(k:∀σ H Q,t' σ H Q->t σ H Q):PE X e t':=λa s σ H Q I q=>h a s σ H Q I (k σ H Q q)
def bK8 (K:bGC):List V->Hp->VK->Prop:=λxs H Q=>∃(p:Addr) (bs:List Bool),xs=[.ref p]/\SqL K H p (bs.map V.bl)/\Q (.bl (bs.all id)) H
def all_range (bs:List Bool):(List.range bs.length).all (λi=>bs.getD i false)=bs.all id:=by
 rw[bCL,bCS,bCS];constructor
 .intro h b c;have(i,a,e):=List.mem_iff_getElem.mp c;have:=h i (List.mem_range.mpr a);rw[bAB,b7 a] at this;rw[<-e];exact this
 .intro h i a;have a:=List.mem_range.mp a;rw[bAB,b7 a];exact h _ (bAR a)
def any_range (bs:List Bool):(List.range bs.length).any (λi=>bs.getD i false)=bs.any id:=by
 rw[bCL,bEX,bEX];constructor
 .rintro⟨i,a,h⟩;have a:=List.mem_range.mp a;rw[bAB,b7 a] at h;exact(_,bAR a,h)
 .rintro⟨b,c,h⟩;have(i,a,e):=List.mem_iff_getElem.mp c;exists i,List.mem_range.mpr a;rw[bAB,b7 a];rw[e];exact h
def aUa (o:Bool)(J:X.calm=true):cZ X (.builtin (bif o then "any" else "all")) (λxs H Q=>∃(p:Addr) (bs:List Bool),xs=[.ref p]/\SqL X.K H p (bs.map V.bl)/\Q (.bl (bif o then bs.any id else bs.all id)) H):=by
 intro t s σ H xs L Q I r h;have(p,bs,rfl,C,q):=h;have(u,rfl,x):=r.one;cases x;have(c,n,f,G):=I.list C;have g:=n.length;rw[d7] at g;have k:p≠s.heap.objs.size:=by have(o,w,_):=f.isList;exact bAA (v8 w)
 cases o
 case' false=>refine call_all_walk (bCW f.isList ?_)
 case' true=>refine call_any_walk (bCW f.isList ?_)
 all_goals
  refine(s.heap.objs.size,011,λi=>bs.getD i false,4,Walks.list (show X.A.in1.handled=none from I.ok.hd J) _ p k c.toArray,((_,m5 _ rfl,44),8),8,λF M kp=>?_)
  .exact f.isList.at λo e=>c7 _ e
  .intro i v y D N B a;have d:c[i]?=some v:=by simpa using B
   have m:i<bs.length:=by rw[g];exact (List.getElem?_eq_some_iff.mp d).1
   have(u,l,E):=n.get (by rw[j5,b7 m];rfl);rw[d] at l;cases l;cases E;have e:bs.getD i false=bs[i]:=by rw[bAB,b7 m];rfl
   replace a:D (bs.getD i false) y:=a;rw[e] at a;exact bBL a
  .first
    |rw[show (List.range c.toArray.size).all (λi=>bs.getD i false)=bs.all id by rw[j7,<-g];exact all_range bs]
    |rw[show (List.range c.toArray.size).any (λi=>bs.getD i false)=bs.any id by rw[j7,<-g];exact any_range bs]
   refine(.bl _,H,84,q);exact I.kept λb o j=>kp b o (by
    intro z;have:b=s.heap.objs.size:=by simpa using z
    rw[this] at j;exact absurd (v8 j) (bBV _)) (c7 _ j)
def gQ (a:X.calm=true):cZ X (.builtin "all") (bK8 X.K):=aUa false a
inductive Rk (K:bGC)(H:Hp):V->String->Prop
 |non:Rk K H .non "NoneType"
 |lst {a xs}:SqL K H a xs->Rk K H (.ref a) "list"
 |tup {a xs}:SqT K H a xs->Rk K H (.ref a) "tuple"
 |dct {a kvs}:H a=some (.dK kvs)->Rk K H (.ref a) "dict"
def bFw (K:bGC):List V->Hp->VK->Prop:=λxs H Q=>∃x k T,xs=[x,.ty T]/\Rk K H x k/\(T = "int"\/T = "bool"\/T = "str")/\Q (.bl false) H
def oE:cZ X (.builtin "isinstance") (bFw X.K):=by
 intro f s σ H w t Q I r h;have(x,k,T,rfl,p,d,q):=h;have(u,v,rfl,b,l):=r.two;cases l;have a:EP X f σ Q (.bool false) { s with toks:=s.toks+1 }:=(.bl _,H,I.tok _,4,q);cases p with
 |non=>
  cases b;rcases d with rfl|rfl|rfl
  .exact IsiPair.NoneType_int a
  .exact IsiPair.NoneType_bool a
  .exact IsiPair.NoneType_str a
 |lst hq=>
  cases b;have(i,m,(o,n,e,c,_),j):=I.list hq;rcases d with rfl|rfl|rfl
  .exact IsiPair.list_int e c a
  .exact IsiPair.list_bool e c a
  .exact IsiPair.list_str e c a
 |tup hq=>
  cases b;have(i,m,(o,e,c,_),j):=I.tuple hq;rcases d with rfl|rfl|rfl
  .exact IsiPair.tuple_int e c a
  .exact IsiPair.tuple_bool e c a
  .exact IsiPair.tuple_str e c a
 |dct hq=>
  cases b;have(_,_,_,_,o,_,_,e,g,_):=I.hok _ _ hq;rcases d with rfl|rfl|rfl
  .exact IsiPair.dict_int e g.1 a
  .exact IsiPair.dict_bool e g.1 a
  .exact IsiPair.dict_str e g.1 a
def dH {X:Cx}{scope:Scope}(h:!(∀z∈scope.names,z.2≠.free,2)):∀y,(y,NameKind.free,)∈scope.names->X.env.kindOf y=some .cell\/X.env.kindOf y=some .free:=λy a=>absurd rfl (h _ a)
def dC {X:Cx}{scope:Scope}(sc:Scope)(e:!(X.env.scope=sc))(h:!(∀z∈scope.names,z.2=.free->sc.names.lookup z.1=some .cell\/sc.names.lookup z.1=some .free,2)) :
  ∀y,(y,NameKind.free,)∈scope.names->X.env.kindOf y=some .cell\/X.env.kindOf y=some .free:=λy a=>by
 show X.env.scope.names.lookup y=some .cell\/X.env.scope.names.lookup y=some .free;rw[e];exact h _ a rfl
def Same.aG {K:bGC}{H H':Hp}{a:Addr}{xs:List V}(e:Same H H')(h:SqT K H a xs):SqT K H' a xs:=by
 rcases h with (h|⟨o,h⟩)|h
 .exact .inl (.inl (e _ _ h))
 .exact .inl (.inr (o,e _ _ h))
 .exact .inr h
def bJ (h:H p=none)(o:HO):Same H (upd H p o):=λb u q=>by rw[bC (bV q h)];exact q
def Rk.same {K:bGC}{H H':Hp}{v:V}{k:String}(e:Same H H')(h:Rk K H v k):Rk K H' v k:=by
 cases h with
 |non=>exact .non
 |lst q=>exact .lst (e.seq q)
 |tup q=>exact .tup (e.aG q)
 |dct q=>exact .dct (e _ _ q)
def iM:Cap X scope [x] σ [none]:=(4,λi y v _ a=>by
 cases i with
 |zero=>cases a
 |succ i=>cases a)
def aWy (xs:List V)(f:V->V)(n:St)(r:Cap X scope N σ n)(hsz:xs.length<=sizeLine)
  (u:∀R:It->Hp->Prop,(∀J:It,(∀H' i x,Same H H'->xs[i]?=some x->J.go i H'/\∀y H2,J.yld i H' y H2->H2=H'/\y=x)->(∀H',Same H H'->J.stop xs.length H')->R J H)->wi σ H R)
  (w:∀x∈xs,∀H' R l,Same H H'->R (f x) H'->te ((n.set 0 l).set 0 (some x)) H' R) (v:n[0]?=some none)
  (q:∀D,H D=none->Q (.ref D) (upd H D (.lst (xs.map f)))) :
  jB X scope N wi (cF 0) lO te σ H Q:=by
 refine(n,r,u _ λJ go stop D h=>?_);have d:∀c:List V,Same H (upd H D (.lst c)):=λc b o e=>by rw[bC (bV e h)];exact e
 exists λi m g H' c=>i<=xs.length/\m=xs.length - i/\(∃l,g=n.set 0 l)/\H'=upd H D (.lst c)/\c=(xs.take i).map f,(xs.length,bAI _,4,(none,8),44)
 .refine (bBM λj=>?_);rw[List.getElem?_set]
  split
  .rename_i t;subst t
   split
   .exact v
   .rename_i a;exact List.getElem?_eq_none_iff.mpr (5)
  .rfl
 .rintro i m g H' c ⟨hi,rfl,⟨l,rfl⟩,rfl,rfl⟩;exists aO;by_cases a:i<xs.length
  .right;have(k,p):=go (upd H D (.lst ((xs.take i).map f))) i xs[i] (d _) (b7 a);refine(k,λx H2 s=>?_);have(rfl,rfl):=p x H2 s;unfold cF lO;dsimp only;rw[if_pos rfl];refine w xs[i] (bAR a) _ _ l (d _) (aO,8,xs.length - (i+1),5,a,4,(some xs[i],8),88)
   .rw[d7,bAK];lia
   .rw[bBH]
   .rw[bCi]
   .rw[bBE,b7 a,bAW];rfl
  .left;have e:i=xs.length:=by lia
   subst e;exists stop _ (d _);rw[bDR];exact q D h
def bIh (h:∀R:VK,R (.str z) H->tl σ H R)(R:It->Hp->Prop)
  (q:∀J:It,(∀H' i x,Same H H'->((List.range z.cps.size).map λi=>V.str (sgn z i))[i]?=some x->J.go i H'/\∀y H2,J.yld i H' y H2->H2=H'/\y=x) ->
   (∀H',Same H H'->J.stop ((List.range z.cps.size).map λi=>V.str (sgn z i)).length H')->R J H):bG5 tl σ H R:=by
 refine h _ (z,4,q _ (λH' i x _ e=>?_) λH' _=>?_)
 .rw[j5] at e;have b:i<z.cps.size:=by
   cases a:(List.range z.cps.size)[i]? with
   |none=>rw[a] at e;cases e
   |some j=>have:=(List.getElem?_eq_some_iff.mp a).1;rwa [bAG] at this
  rw[bBY b] at e;cases e;exact(b,λy H2 c=>c)
 .rw[d7,bAG];exact j6 _
def qU {K:bGC}{a:Addr}{xs:List V}{tl:TE}{σ:St}{H:Hp}(b:∀H',Same H H'->SqL K H' a xs)(h:∀R:VK,R (.ref a) H->tl σ H R)(R:It->Hp->Prop)
  (q:∀J:It,(∀H' i x,Same H H'->xs[i]?=some x->J.go i H'/\∀y H2,J.yld i H' y H2->H2=H'/\y=x)->(∀H',Same H H'->J.stop xs.length H')->R J H):tL K tl σ H R:=by
 refine h _ (a,4,(xs,b H (Same.refl H)),q _ (λH' i x s e=>((xs,x,b H' s,e),λy H2 g=>?_)) λH' s=>(xs,b H' s,j6 _));have(d,f):=g;have c:=f xs (b H' s);rw[e] at c;cases c;exact(d,4)
end L2
namespace PySem
abbrev bLs (t:Addr)(i:Nat):Obj:={ cls:=.type "tuple_iterator",data:=.fields #[.ref t,.int (i:Int) 0] }
abbrev bK7 (t:Addr)(i:Nat):Obj:={ cls:=.type "list_iterator",data:=.fields #[.ref t,.int (i:Int) 0] }
abbrev aB9 (f0:Value)(TI TO:Addr):Obj:={ cls:=.type "zip",dict:=none,data:=.fields #[f0,.bool false,.bool false,.ref TI,.ref TO],slots:=#[] }
abbrev sX (a b:Value):Obj:={ cls:=.type "tuple",data:=.seq #[a,b] }
section
variable {prog:Program}{w:World}{A:Around}{E:bGD}{s:Shared}
def itO:Bool->Addr->Nat->Obj
 |true=>bK7
 |false=>bLs
def Heap.aBw (h:Heap):Bool->Addr->Array Value->Prop
 |true=>h.IsList
 |false=>h.IsTuple
def Heap.aBw.extBut (p:h.aBw b t its)(e:Heap.ExtBut x h h')(n:t≠x):h'.aBw b t its:=by
 cases b
 .exact Heap.IsTuple.extBut p e n
 .exact Heap.IsList.extBut p e n
def aHh (a:s.heap.get? it=some (itO L t i))(f:s.heap.aBw L t its)(e:its[i]?=some x)
  (q:∀h',h'.get? it=some (itO L t (i+1))->Heap.SameBut it s.heap h'->Q x { s with heap:=h' }):wpAny (model prog w) A (Builtin.SmallTypes.nextOf (.ref it)) Q E s:=by
 unfold Builtin.SmallTypes.nextOf;cases L
 case' false=>have b:s.TypeIs (.ref it) "tuple_iterator":=(_,a,4);refine b8 (bAP (name:=Str.ofString "__next__") b F.slot_tuple_iterator_next (bAN F.slot_tuple_iterator_next b F.entry_tuple_iterator_next ?_ (F.args_tuple_iterator_next_1 _)))
 case' true=>have b:s.TypeIs (.ref it) "list_iterator":=(_,a,4);refine b8 (bAP (name:=Str.ofString "__next__") b slot_listiter_next (bAN slot_listiter_next b entry_listiter_next ?_ (args_listiter_next _)))
 all_goals
  have(h,d,_,g,c):=f;refine b8 (m:=field (.ref it) 0) (bCA a rfl (x:=.ref t) rfl ?_);refine (if_neg (show ¬ ((Value.ref t == Value.none)=true) from z9)).symm ▸ ?_;refine b8 (m:=field (.ref it) 1) (bCA a rfl (x:=.int i 0) rfl ?_);refine b8 (m:=seqItems? (.ref t)) (bDE d c ?_);simp only[bAQ,e];exact b8 (bEN a rfl (9) (d9 (x,4,d9 (q _ (bCO _ a rfl) (bCJ ..)))))
def vA (h:A.handled=none)(c:s.heap.get? it=some (itO L t i))(l:s.heap.aBw L t its)(j:its[i]?=none)
  (q:∀h' e,Heap.ExtBut it s.heap h'->(∃o,h'.get? e=some o/\o.cls=.type "StopIteration")->E (.ref e) { s with heap:=h' }):wpAny (model prog w) A (Builtin.SmallTypes.nextOf (.ref it)) Q E s:=by
 unfold Builtin.SmallTypes.nextOf;cases L
 case' false=>have a:s.TypeIs (.ref it) "tuple_iterator":=(_,c,4);refine b8 (bAP (name:=Str.ofString "__next__") a F.slot_tuple_iterator_next (bAN F.slot_tuple_iterator_next a F.entry_tuple_iterator_next ?_ (F.args_tuple_iterator_next_1 _)))
 case' true=>have a:s.TypeIs (.ref it) "list_iterator":=(_,c,4);refine b8 (bAP (name:=Str.ofString "__next__") a slot_listiter_next (bAN slot_listiter_next a entry_listiter_next ?_ (args_listiter_next _)))
 all_goals
  have(p,f,_,n,d):=l;refine b8 (m:=field (.ref it) 0) (bCA c rfl (x:=.ref t) rfl ?_);refine (if_neg (show ¬ ((Value.ref t == Value.none)=true) from z9)).symm ▸ ?_;refine b8 (m:=field (.ref it) 1) (bCA c rfl (x:=.int i 0) rfl ?_);refine b8 (m:=seqItems? (.ref t)) (bDE f d ?_);simp only[bAQ,j];refine b8 (bFO (b8 (bEN c rfl (9) ?_)));exact rE (by first|exact h|exact show A.in1.handled=none from h) λh' e k t=>q _ _ (λb o g z=>k b o ((bCJ ..).extBut b o g z)) t
structure aK4 (z TI TO a b:Addr):Prop where
 h1:TI≠z
 h2:TO≠z
 h3:a≠z
 h4:b≠z
 h5:TI≠TO
 h6:TI≠a
 h7:TI≠b
 h8:TO≠a
 h9:TO≠b
 h10:a≠b
def aTc (c:s.heap.get? T=some (sX a b))
  (q:∀h',h'.get? T=some { cls:=.type "tuple",data:=.seq ((#[a,b]:Array Value).setIfInBounds k x) }->Heap.SameBut T s.heap h'->Q () { s with heap:=h' }) :
  wpAny (model prog w) A (updateSeq T (·.setIfInBounds k x)) Q E s:=by
 refine wpAny_updateSeq c rfl (q _ ?_ (bCJ ..));rw[bCO _ c rfl];simp[Obj.mapSeq]
theorem zM (hh:A.handled=none)(D:aK4 z TI TO i1 i2)
  (J:s.heap.get? z=some (aB9 .none TI TO)) (a5:s.heap.get? TI=some (sX (.ref i1) (.ref i2))) (a4:s.heap.get? TO=some (sX a b))
  (g1:s.heap.get? i1=some (itO L t k)) (g2:s.heap.get? i2=some (itO L u k)) (ht:s.heap.aBw L t xs) (t1:t≠z) (Y:∀x,xs[k]?=some x->s.heap.aBw L u ys/\u≠z/\u≠TO/\u≠i1)
  (q:∀x y,xs[k]?=some x->ys[k]?=some y->∀h',h'.get? z=some (aB9 (rawInt s.heap.objs.size) TI TO)->h'.get? TO=some (sX x y)->h'.get? i1=some (itO L t (k+1))->h'.get? i2=some (itO L u (k+1))->h'.get? s.heap.objs.size=some (sX x y) ->
   (∀c o,c≠z->c≠TO->c≠i1->c≠i2->s.heap.get? c=some o->h'.get? c=some o)->Q (some (.ref s.heap.objs.size)) { s with heap:=h' })
  (q0:xs[k]?=none\/ys[k]?=none->∀h',(∀c o,c≠z->c≠TO->c≠i1->c≠i2->s.heap.get? c=some o->h'.get? c=some o)->Q none { s with heap:=h' }) :
  wpAny (model prog w) A (pyNext (.ref z)) Q E s:=by
 have hT:s.TypeIs (.ref z) "zip":=(_,J,4);unfold pyNext;refine b8 (bDY (bAP (name:=Str.ofString "__next__") hT F.slot_zip_next (bAN F.slot_zip_next hT F.entry_zip_next ?_ (F.args_zip_next_1 _))));refine b8 (m:=field (.ref z) 2) (bCA J rfl (x:=.bool false) rfl ?_);refine b8 (m:=field (.ref z) 3) (bCA J rfl (x:=.ref TI) rfl (b8 (bDE a5 rfl ?_)));refine b8 (m:=Builtin.SmallTypes.ownedTupleIsFree (.ref z)) ?_;unfold Builtin.SmallTypes.ownedTupleIsFree;refine b8 (bCA J rfl (x:=.none) rfl (d9 ?_));simp only[if_true];refine b8 (bFO (b8 (bCA J rfl (x:=.ref TO) rfl (b8 (bAY J (9) λh1 O j=>?_)))));replace O:h1.get? z=some (aB9 .ellipsis TI TO):=O;refine b8 ?_;simp only[List.zipIdx_cons,List.zipIdx_nil,List.forIn_cons,List.forIn_nil];refine b8 (b8 (wpAny_onRaise ?_));cases N:xs[k]? with
 |none=>
  refine b8 (m:=Builtin.SmallTypes.nextOf (.ref i1)) (vA (s:={ s with heap:=h1 }) hh (j.extBut _ _ D.h3 g1) (ht.extBut j.extBut t1) N λP e g he=>?_);have(oe,f,l):=he;have z2:P.get? z=some (aB9 .ellipsis TI TO):=g _ _ D.h3.symm O;have C:e≠z:=λx=>by subst x;rw[z2] at f;cases f;simp at l
  refine bAY z2 (9) λX _ h=>?_;refine b8 (bDS (T:="StopIteration") (b:=true) (oe,h.extBut _ _ C f,l) isSubtype_stop ?_);exact d9 (q0 (.inl N) _ λc o i _ B _ x=>h.extBut _ _ i (g _ _ B (j.extBut _ _ i x)))
 |some x=>
  have(Y,u1,u2,u3):=Y x N;refine b8 (m:=Builtin.SmallTypes.nextOf (.ref i1)) (aHh (s:={ s with heap:=h1 }) (j.extBut _ _ D.h3 g1) (ht.extBut j.extBut t1) N λP a1 g=>d9 ?_);have K:P.get? TO=some (sX a b):=g.extBut _ _ D.h8 (j.extBut _ _ D.h2 a4);refine b8 (bDE K rfl (b8 (aTc (s:={ s with heap:=P }) K λX v h=>b8 (wpAny_letGo (d9 ?_)))));replace v:X.get? TO=some (sX x b):=v;refine b8 (b8 (wpAny_onRaise ?_));cases R:ys[k]? with
  |none=>
   refine b8 (m:=Builtin.SmallTypes.nextOf (.ref i2)) (vA (s:={ s with heap:=X }) hh (h.extBut _ _ D.h9.symm (g.extBut _ _ D.h10.symm (j.extBut _ _ D.h4 g2))) (((Y.extBut j.extBut u1).extBut g.extBut u3).extBut h.extBut u2) R λU e p he=>?_);have(oe,f,l):=he;have z4:U.get? z=some (aB9 .ellipsis TI TO):=p _ _ D.h4.symm (h.extBut _ _ D.h2.symm (g.extBut _ _ D.h3.symm O));have C:e≠z:=λx=>by subst x;rw[z4] at f;cases f;simp at l
   refine bAY z4 (9) λd _ r=>?_;refine b8 (bDS (T:="StopIteration") (b:=true) (oe,r.extBut _ _ C f,l) isSubtype_stop ?_);exact d9 (q0 (.inr R) _ λc o i G B I x=>r.extBut _ _ i (p _ _ I (h.extBut _ _ G (g.extBut _ _ B (j.extBut _ _ i x)))))
  |some y=>
   refine b8 (m:=Builtin.SmallTypes.nextOf (.ref i2)) (aHh (s:={ s with heap:=X }) (h.extBut _ _ D.h9.symm (g.extBut _ _ D.h10.symm (j.extBut _ _ D.h4 g2))) (((Y.extBut j.extBut u1).extBut g.extBut u3).extBut h.extBut u2) R λU a2 p=>d9 ?_);have H:U.get? TO=some (sX x b):=p.extBut _ _ D.h9 v;refine b8 (bDE H rfl (b8 (aTc (s:={ s with heap:=U }) H λd n r=>b8 (wpAny_letGo (d9 (d9 ?_))))));replace n:d.get? TO=some (sX x y):=n;refine b8 (bDE n rfl (b8 (bFP ?_)));have M:d.objs.size=s.heap.objs.size:=by rw[r.1,p.1,h.1,g.1,j.1]
   have z5:d.get? z=some (aB9 .ellipsis TI TO):=r.extBut _ _ D.h2.symm (p.extBut _ _ D.h4.symm (h.extBut _ _ D.h2.symm (g.extBut _ _ D.h3.symm O)));have kp:∀c o,c≠z->c≠TO->c≠i1->c≠i2->s.heap.get? c=some o->d.get? c=some o:=λc o i G B I e=>r.extBut _ _ G (p.extBut _ _ I (h.extBut _ _ G (g.extBut _ _ B (j.extBut _ _ i e))));have a0:d.get? i1=some (itO L t (k+1)):=r.extBut _ _ D.h8.symm (p.extBut _ _ D.h10 (h.extBut _ _ D.h8.symm a1));have a3:d.get? i2=some (itO L u (k+1)):=r.extBut _ _ D.h9.symm a2;refine b8 (m:=Builtin.SmallTypes.ownedTupleHandOut (.ref z) (.ref d.objs.size)) ?_;unfold Builtin.SmallTypes.ownedTupleHandOut;have z6:(d.push (sX x y)).get? z=some (aB9 .ellipsis TI TO):=c7 _ z5;refine b8 (bAY z6 (9) λh7 Z s7=>?_);replace Z:h7.get? z=some (aB9 (rawInt d.objs.size) TI TO):=Z;refine bAY Z (9) λV W s8=>?_;replace W:V.get? z=some (aB9 (rawInt d.objs.size) TI TO):=W;have S:∀c o,c≠z->d.get? c=some o->V.get? c=some o:=λc o i e=>s8.extBut _ _ i (s7.extBut _ _ i (c7 _ e));have nz:d.objs.size≠z:=bDA (v8 z5);have T8:V.get? d.objs.size=some (sX x y):=s8.extBut _ _ nz (s7.extBut _ _ nz (m5 _ rfl));rw[M] at W T8;refine d9 (3,d9 ?_);show Q (some (.ref d.objs.size)) _;rw[M];exact q x y N R V W (S _ _ D.h2 n) (S _ _ D.h3 a0) (S _ _ D.h4 a3) T8 λc o i G B I e=>S c o i (kp c o i G B I e)
end
abbrev zT1 (L:Bool)(h:Heap)(t:Addr):Heap:=h.push (itO L t 0)
abbrev zT2 (L:Bool)(h:Heap)(t u:Addr):Heap:=(zT1 L h t).push (itO L u 0)
abbrev zT3 (L:Bool)(h:Heap)(t u:Addr):Heap:=(zT2 L h t u).push (sX (.ref h.objs.size) (.ref (zT1 L h t).objs.size))
abbrev zT4 (L:Bool)(h:Heap)(t u:Addr):Heap:=(zT3 L h t u).push (sX .none .none)
abbrev zT5 (L:Bool)(h:Heap)(t u:Addr):Heap:=(zT4 L h t u).push (aB9 .none (zT2 L h t u).objs.size (zT3 L h t u).objs.size)
def aQo (L:Bool)(t u:Addr)(xs ys:Array Value):Meets (Builtin.«zip.__new__» ([.type "zip",.ref t,.ref u],[]))
  (λ_ R s=>s.heap.aBw L t xs/\s.heap.aBw L u ys/\R (.ok (.ret (.ref (zT4 L s.heap t u).objs.size))) { s with heap:=zT5 L s.heap t u }):=
 .of_wp λk w A R s h=>by
  have(b,g,d,a,c):=s;have(l,j,h):=h;have m:=sub_zip;cases L
  .have f:Heap.IsTuple (Shared.heap (b,g,d,a,c)) t xs:=l;have i:Heap.IsTuple (Shared.heap (b.push { cls:=.type "tuple_iterator",data:=.fields #[.ref t,.int 0 0] },g,d,a,c)) u ys:=by have(o,e,r):=j;exact(o,c7 _ e,r)
   wp_walk using bEH f,bEH i;exact(3,h)
  .have f:Heap.IsList (Shared.heap (b,g,d,a,c)) t xs:=l;have i:Heap.IsList (Shared.heap (b.push { cls:=.type "list_iterator",data:=.fields #[.ref t,.int 0 0] },g,d,a,c)) u ys:=by have(o,e,r):=j;exact(o,c7 _ e,r)
   wp_walk using bCW f,bCW i;exact(3,h)
def aWz (b:s.heap.aBw L t xs)(c:s.heap.aBw L u ys)(q:Q (.ref (zT4 L s.heap t u).objs.size) { s with heap:=zT5 L s.heap t u }) :
  wpAny (model prog w) A (call (.type "zip") [.ref t,.ref u]) Q E s:=by
 refine callType_new F.called_zip (6) (F.typeCall_zip_2 _ _) (F.newCall_zip_2 _ _) (λa=>F.args_object_init_3 a _ _) F.entry_zip_new (aQo L t u xs ys) (b,c,8);exact((_,m5 _ rfl,4),q)
end PySem
namespace L2
open PySem PySem.Spec PyProof.Rows
def Inv.tup_ne (I:Inv X bGG σ H s)(h:SqT X.K H t xs)(f:uU X bGG H b):t≠b:=by
 rintro rfl;have(a,i,j,g,_):=f;rcases h with (h|⟨o,h⟩)|⟨o,d,n,c,_⟩
 .rw[a] at h;cases h
 .rw[a] at h;cases h
 .have e:=I.ok.mod.kin t o c;rcases g with z|z
  .exact I.ok.noex t o e z
  .exact absurd (bAF (v8 e) (bAM I.ok.bsz z)) (bBV _)
def Inv.bHl (I:Inv X bGG σ H s)(h:SqL X.K H t xs)(f:uU X bGG H b):t≠b:=by
 rintro rfl;have(a,i,j,g,_):=f;rcases h with (h|⟨o,h⟩)|⟨o,d,n,c,_⟩
 .rw[a] at h;cases h
 .rw[a] at h;cases h
 .have e:=I.ok.mod.kin t o c;rcases g with z|z
  .exact I.ok.noex t o e z
  .exact absurd (bAF (v8 e) (bAM I.ok.bsz z)) (bBV _)
def SqB (K:bGC):Bool->Hp->Addr->List V->Prop
 |true=>SqL K
 |false=>SqT K
def Inv.sq (I:Inv X bGG σ H s)(h:SqB X.K L H t xs):∃its:List Value,Vals xs its/\s.heap.aBw L t its.toArray:=by
 cases L
 .have(its,a,b,_):=I.tuple h;exact(its,a,b)
 .have(its,a,b,_):=I.list h;exact(its,a,b.isList)
def Inv.xT (I:Inv X bGG σ H s)(h:SqB X.K L H t xs)(f:uU X bGG H b):t≠b:=by
 cases L
 .exact I.tup_ne h f
 .exact I.bHl h f
def Inv.drawn {ch:List Addr}{h':Heap}{vs:List V}{its:List Value}{T:Addr}(I:Inv X bGG σ H s)(f:∀b∈ch,uU X bGG H b)(kp:∀b o,b∉ch->s.heap.get? b=some o->h'.get? b=some o)
  (p:s.heap.objs.size<=T) (F:Vals vs its) (E:vs.length<=sizeLine) (D:aAl h' T its.toArray) (hth:∀b∈ch,∃o,h'.get? b=some o):Inv X bGG σ (upd H T (.tup vs)) { s with heap:=h' }:=by
 have d:=I.hok.fresh p;have l:∀b o,s.heap.get? b=some o->b≠T:=λb o e=>bAA (bAF (v8 e) p);have g:∀b u,H b=some u->b∉ch:=λb u e z=>by rw[(f b z).1] at e;cases e
 refine I.step (g':=s.gens) (d':=s.drawn) (t':=s.toks) (λb h=>?_) (λb o _ _ a e _=>kp b o a e) (λb o _ _ a e _=>(o.slots,kp b o a e)) (λb o a e n=>by rw[bC (l b o e)];exact n)
  (λb o a e=>(o,kp b o a e)) (λb C e=>by rw[bC (bV e d)];exact e) (λb o u e=>by rw[bC (bV e d)];exact e) (λb G e=>(#[],by rw[bC (bV e d),e];simp)) (λm k=>?_) (λb u e=>?_) I.bare
 .have(_,B,_,A,x,w):=f b h;exact(A,B,x,w)
 .have(o,y,t,i,r):=k;exact(o,y,t,kp _ o (λz=>(f _ z).2.1 rfl) i,r)
 .by_cases h:b=T
  .subst h;rw[aO] at e;cases e;exact(E,its,F,D)
  .rw[bC h] at e;refine (I.hok b u e).stay (λc v j q=>kp c v ?_ q) (λc q=>by rw[bC (bV q d)];exact q) λc C q=>by rw[bC (bV q d)];exact q
   rcases j with z|z
   .rw[z];exact g b u e
   .exact g c _ z
def Inv.aTu {ch:List Addr}{h':Heap}(I:Inv X bGG σ H s)(a:∀b∈ch,uU X bGG H b)(kp:∀b o,b∉ch->s.heap.get? b=some o->h'.get? b=some o):Inv X bGG σ H { s with heap:=h' }:=by
 have f:∀b u,H b=some u->b∉ch:=λb u e z=>by rw[(a b z).1] at e;cases e
 refine I.step (g':=s.gens) (d':=s.drawn) (t':=s.toks) (λb t=>?_) (λb o _ _ d e _=>kp b o d e) (λb o _ _ d e _=>(o.slots,kp b o d e)) (λ_ _ _ _ n=>n)
  (λb o d e=>(o,kp b o d e)) (λ_ _ e=>e) (λ_ _ _ e=>e) (λb y e=>(#[],by rw[e];simp)) (λm i=>?_) (λb u e=>?_) I.bare
 .have(_,w,_,x,l,k):=a b t;exact(x,w,l,k)
 .have(o,p,j,g,r):=i;exact(o,p,j,kp _ o (λz=>(a _ z).2.1 rfl) g,r)
 .refine (I.hok b u e).stay (λc v h q=>kp c v ?_ q) (λ_ q=>q) λ_ _ q=>q;rcases h with z|z
  .rw[z];exact f b u e
  .exact f c _ z
def ItB (K:bGC)(L:Bool)(t u:Addr)(xs ys:List V):It:=
 (λi H=>SqB K L H t xs/\SqB K L H u ys/\i<xs.length/\i<ys.length,λi H v H'=>∃T a b,H T=none/\v=.ref T/\H'=upd H T (.tup [a,b])/\xs[i]?=some a/\ys[i]?=some b,λi H=>(SqB K L H t xs/\xs.length<=i)\/(SqB K L H t xs/\SqB K L H u ys/\i=ys.length/\ys.length<=xs.length))
def ztn (L:Bool)(z TI TO i1 i2 t u:Addr)(i:Nat)(h:Heap):Prop:=
 h.get? z=some (aB9 .none TI TO)/\h.get? TI=some (sX (.ref i1) (.ref i2))/\(∃a b,h.get? TO=some (sX a b))/\h.get? i1=some (itO L t i)/\h.get? i2=some (itO L u i)
def Itz (K:bGC)(t u:Addr)(xs ys:List V):It:=
 (λi H=>SqT K H t xs/\SqT K H u ys/\i<xs.length/\i<ys.length,λi H v H'=>∃T a b,H T=none/\v=.ref T/\H'=upd H T (.tup [a,b])/\xs[i]?=some a/\ys[i]?=some b,λi H=>SqT K H t xs/\xs.length<=i)
def aHp {P:Program}{w:World}{K:bGC}{elts:List Expr}{kt:Nat}{pos:Pos}{L:Bool}{z TI TO J M t u:Addr}{xs ys:List V}(D:aK4 z TI TO J M) :
  Turn P w K (.Tuple elts kt pos) (ItB K L t u xs ys) [z,TI,TO,J,M] z (ztn L z TI TO J M t u) where
 mem:=by simp
 obj:=λi h A b d=>by
  have(m,j,(a,c,p),q,r):=A;simp only[bAS,bAH,or_false] at d;rcases d with rfl|rfl|rfl|rfl|rfl
  .exact(_,m,λv z=>by cases (show Data.fields _=Data.cell v from z))
  .exact(_,j,λv z=>by cases (show Data.seq _ _=Data.cell v from z))
  .exact(_,p,λv z=>by cases (show Data.seq _ _=Data.cell v from z))
  .exact(_,q,λv z=>by cases L <;> cases (show Data.fields _=Data.cell v from z))
  .exact(_,r,λv z=>by cases L <;> cases (show Data.fields _=Data.cell v from z))
 keep:=λi h f A k=>by have(m,j,(a,c,p),q,r):=A;exact(k z (9) _ m,k TI (9) _ j,(a,c,k TO (9) _ p),k J (9) _ q,k M (9) _ r)
 item:=by
  intro X hP W hK U i l s σ H E I g A hg;subst hP W hK;have(m,j,(a0,c0,p),q,r):=A;have(B,n,l1,l2):=hg;have(its,S,O):=I.sq B;have(C,F,Y):=I.sq n;have(x,T,rx):=S.get (b7 l1);have(y,hy,ry):=F.get (b7 l2);have G:=g z (9);have fO:=g TO (9);have Z:=g J (9);have f2:=g M (9);have Q:its.toArray[i]?=some x:=by simpa using T
  have R:C.toArray[i]?=some y:=by simpa using hy
  refine zM (I.ok.hd U) D m j p q r O (I.xT B G) (λ_ _=>(Y,I.xT n G,I.xT n fO,I.xT n Z)) (λx' y' ex ey f a1 a2 a3 a4 a5 kp=>?_) λz=>by rw[Q,R] at z;exact (z.elim nofun nofun)
  obtain rfl:=bAL (Q.symm.trans ex);obtain rfl:=bAL (R.symm.trans ey);exists 3;have fT:H s.heap.objs.size=none:=I.hok.fresh (j6 _);have I1:Inv X l σ (upd H s.heap.objs.size (.tup [xs[i],ys[i]])) { s with heap:=f }:=by
   refine I.drawn (ch:=[z,TO,J,M]) (its:=[x,y]) (λb d=>?_) (λb o d e=>?_) (j6 _) (.cons rx (.cons ry .nil)) (small (9)) (.of a5 rfl (_,a5,43)) (λb d=>?_)
   .refine g b ?_;simp only[bAS,bAH,or_false] at d ⊢;rcases d with h|h|h|h <;> simp[h]
   .simp only[bAS,bAH,or_false,not_or] at d;exact kp b o d.1 d.2.1 d.2.2.1 d.2.2.2 e
   .simp only[bAS,bAH,or_false] at d;rcases d with rfl|rfl|rfl|rfl
    .exact(_,a1)
    .exact(_,a2)
    .exact(_,a3)
    .exact(_,a4)
  have nT:∀b∈[z,TI,TO,J,M],b≠s.heap.objs.size:=λb d=>by
   have e:∃o,s.heap.get? b=some o:=by
    simp only[bAS,bAH,or_false] at d;rcases d with rfl|rfl|rfl|rfl|rfl
    .exact(_,m)
    .exact(_,j)
    .exact(_,p)
    .exact(_,q)
    .exact(_,r)
   have(o,e):=e;exact bAA (v8 e)
  refine wpAny_letOwnedTupleGo_zip (s:={ s with heap:=f }) a1 λh2 z2 N=>?_;have(g0,g1,g2,g3,g4,g5):=G;have I2:Inv X l σ (upd H s.heap.objs.size (.tup [xs[i],ys[i]])) { s with heap:=h2 }:=Inv.turned (s:={ s with heap:=f }) I1 (t':=s.toks) (it:=z) (λb o d e=>(N.2 b d).trans e) (by rw[bC (nT z (9))];exact g0) g1 g3 g4 g5;refine(.ref s.heap.objs.size,_,I2,4,(01,fT,44,b7 l1,b7 l2),8,λb d=>by rw[bC (nT b d)];exact (g b d).1);exact(z2,N.extBut _ _ D.h1 (kp TI _ D.h1 D.h5 D.h6 D.h7 j),(00,N.extBut _ _ D.h2 a2),N.extBut _ _ D.h3 a3,N.extBut _ _ D.h4 a4)
 done:=by
  intro X hP W hK U i l s σ H E I g A hg;subst hP W hK;have(m,j,(a0,c0,p),q,r):=A;have G:=g z (9);have fO:=g TO (9);have Z:=g J (9);refine (λ(go:∀f,(∀c o,c≠z->c≠TO->c≠J->c≠M->s.heap.get? c=some o->f.get? c=some o)->_)=>?_:_->_) (λf kp=>((48):(none:Option Value)=none/\Inv X l σ H { s with heap:=f }))
  .rcases hg with⟨B,hl⟩|⟨B,n,hl,hle⟩
   .have(its,S,O):=I.sq B;have a7:=S.length;have T:its.toArray[i]?=none:=by simp;lia
    exact zM (ys:=#[]) (I.ok.hd U) D m j p q r O (I.xT B G) (λx e=>by rw[T] at e;cases e) (λx y e=>by rw[T] at e;cases e) λ_ f kp=>go f kp
   .have(its,S,O):=I.sq B;have(C,F,Y):=I.sq n;have a6:=F.length;have hy:C.toArray[i]?=none:=by simp;lia
    exact zM (I.ok.hd U) D m j p q r O (I.xT B G) (λ_ _=>(Y,I.xT n G,I.xT n fO,I.xT n Z)) (λx y _ e=>by rw[hy] at e;cases e) λ_ f kp=>go f kp
  refine Inv.aTu (ch:=[z,TO,J,M]) I (λb d=>g b ?_) λb o d e=>?_
  .simp only[bAS,bAH,or_false] at d ⊢;rcases d with h|h|h|h <;> simp[h]
  .simp only[bAS,bAH,or_false,not_or] at d;exact kp b o d.1 d.2.1 d.2.2.1 d.2.2.2 e
 self:=λ_ _ _ _ _ A h=>wpAny_pyIter_zip A.1 h
def aO2 (K:bGC)(ta:TA):TI:=fun σ H R=>ta σ H λvs H1=>∃t u xs ys,vs=[.ref t,.ref u]/\SqT K H1 t xs/\SqT K H1 u ys/\R (Itz K t u xs ys) H1
def aTd (L:Bool){J:Addr->Addr->List V->List V->It}{elts:List Expr}{kt:Nat}{tp:Pos}{a b:Expr}{ta:TA}{p T:Pos}(Y:∀{z TI TO i1 i2 t u xs ys},aK4 z TI TO i1 i2->Turn X.prog X.w X.K (.Tuple elts kt tp) (J t u xs ys) [z,TI,TO,i1,i2] z (ztn L z TI TO i1 i2 t u))(Z:Gl X "zip")(U:X.mg "zip"=none)(W:PA X [a,b] ta)(hs:!(starEach [a,b] X.env=(false,eval a X.env,)::starEach [b] X.env))
  (C:!(starEach [b] X.env=[(false,eval b X.env,)])):PI X (.Tuple elts kt tp) (.Call (.Name "zip" p) [a,b] [] T) (fun σ H R=>ta σ H λvs H1=>∃t u xs ys,vs=[.ref t,.ref u]/\SqB X.K L H1 t xs/\SqB X.K L H1 u ys/\R (J t u xs ys) H1):=by
 intro d s σ H R I h;refine Call_ (zK I Z U bIs (bDB (thn (W T d s σ H _ I h) λus c (vs,H1,f,v,N)=>?_) hs (by rw[C];rfl)));have(t,u,xs,ys,e,A,y,q):=N;subst e;have(Q,rv,B):=f.sq A;have(O,M,P):=f.sq y;cases v with
 |cons r rr=>
  cases rr with
  |cons r' rr'=>
   cases rr';cases r;cases r';refine aWz B P ?_;have k:(zT1 L c.heap t).objs.size=c.heap.objs.size+1:=bBT ..;have j:(zT2 L c.heap t u).objs.size=c.heap.objs.size+2:=by rw[bBT,k]
   have i:(zT3 L c.heap t u).objs.size=c.heap.objs.size+3:=by rw[bBT,j]
   have l:(zT4 L c.heap t u).objs.size=c.heap.objs.size+4:=by rw[bBT,i]
   have D:aK4 (zT4 L c.heap t u).objs.size (zT2 L c.heap t u).objs.size (zT3 L c.heap t u).objs.size c.heap.objs.size (zT1 L c.heap t).objs.size:=by constructor <;> (show (_:Nat)≠(_:Nat);rw[Ne];intro h;simp only[k,j,i,l] at h;lia)
   have n:(zT5 L c.heap t u).get? (zT4 L c.heap t u).objs.size=some (aB9 .none (zT2 L c.heap t u).objs.size (zT3 L c.heap t u).objs.size):=m5 _ rfl;have G:(zT5 L c.heap t u).get? (zT3 L c.heap t u).objs.size=some (sX .none .none):=c7 _ (m5 _ rfl);have F:(zT5 L c.heap t u).get? (zT2 L c.heap t u).objs.size=some (sX (.ref c.heap.objs.size) (.ref (zT1 L c.heap t).objs.size)):=c7 _ (c7 _ (m5 _ rfl));have x:(zT5 L c.heap t u).get? (zT1 L c.heap t).objs.size=some (itO L u 0):=c7 _ (c7 _ (c7 _ (m5 _ (by cases L <;> rfl))));have E:(zT5 L c.heap t u).get? c.heap.objs.size=some (itO L t 0):=c7 _ (c7 _ (c7 _ (c7 _ (m5 _ (by cases L <;> rfl)))));have S:Inv X d σ H1 { c with heap:=zT5 L c.heap t u }:=f.kept (t':=c.toks) λb o e=>c7 _ (c7 _ (c7 _ (c7 _ (c7 _ e))));refine wpAny_pyIter_zip (s:={ c with heap:=zT5 L c.heap t u }) n (11,H1,4,S,Y D,(n,F,(00,G),E,x),λb m=>?_,q);have g:c.heap.objs.size<=b:=by
    simp only[bAS,bAH,or_false] at m;rcases m with rfl|rfl|rfl|rfl|rfl
    .rw[l];exact bBW ..
    .rw[j];exact bBW ..
    .rw[i];exact bBW ..
    .exact j6 _
    .rw[k];exact bBW ..
   exact f.aMk g (f.hok.fresh g)
def bC0 (d:Gl X "zip")(m:X.mg "zip"=none)(n:PA X [a,b] ta)(hs:!(starEach [a,b] X.env=(false,eval a X.env,)::starEach [b] X.env))
  (h:!(starEach [b] X.env=[(false,eval b X.env,)])):PI X (.Tuple elts kt tp) (.Call (.Name "zip" p) [a,b] [] pos) (aO2 X.K ta):=
 aTd false (J:=Itz X.K) (λD=>let T:=aHp (L:=false) D;(T.mem,T.obj,T.keep,T.item,λX l f j e i c s σ H E I k g d=>T.done X l f j e i c s σ H E I k g (.inl d),T.self)) d m n hs h
inductive Tk (K:bGC)(H:Hp):V->Bool->Prop
 |int {i}:Tk K H (.int i) false
 |str {x}:Tk K H (.str x) false
 |bl {b}:Tk K H (.bl b) false
 |non:Tk K H .non false
 |lst {a xs}:SqL K H a xs->Tk K H (.ref a) false
 |dct {a kvs}:H a=some (.dK kvs)->Tk K H (.ref a) false
 |tup {a xs}:SqT K H a xs->Tk K H (.ref a) true
def bKc (K:bGC):List V->Hp->VK->Prop:=λxs H Q=>∃x b,xs=[x,.ty "tuple"]/\Tk K H x b/\Q (.bl b) H
def dY:cZ X (.builtin "isinstance") (bKc X.K):=by
 intro f s σ H y w Q I r h;have(x,b,rfl,m,q):=h;have(u,v,rfl,a,k):=r.two;cases k;have p:EP X f σ Q (.bool b) s:=(.bl _,H,I,4,q);have d:EP X f σ Q (.bool b) { s with toks:=s.toks+1 }:=(.bl _,H,I.tok _,4,q);cases m with
 |int=>have(t,rfl):=a;exact IsiPair.int_tuple d
 |str=>have(t,rfl):=a;exact IsiPair.str_tuple d
 |bl=>cases a;exact IsiPair.bool_tuple d
 |non=>cases a;exact IsiPair.NoneType_tuple d
 |lst hq=>cases a;have(g,l,(o,n,e,c,_),j):=I.list hq;exact IsiPair.list_tuple e c d
 |dct hq=>cases a;have(_,_,_,_,o,_,_,e,i,_):=I.hok _ _ hq;exact IsiPair.dict_tuple e i.1 d
 |tup hq=>cases a;have(g,l,(o,e,c,_),j):=I.tuple hq;exact IsiPair.tuple_tuple e c p
def gA {σ0:St}{j:Nat}(c:σ0[j]?=some none):σ0=σ0.set j none:=by
 refine (bBM λi=>?_);rw[List.getElem?_set]
 split
 .rename_i b;subst b
  split
  .exact c
  .rename_i a;exact List.getElem?_eq_none_iff.mpr (5)
 .rfl
def aHy (xs:List V)(f:V->V)(k:St)(p:Cap X scope N σ k)(hsz:xs.length<=sizeLine)
  (t:∀R:It->Hp->Prop,(∀J:It,(∀H' i x,Same H H'->xs[i]?=some x->J.go i H'/\∀y H2,J.yld i H' y H2->H2=H'/\y=x)->(∀H',Same H H'->J.stop xs.length H')->R J H)->wi σ H R)
  (v:∀x∈xs,∀H' R l,Same H H'->(∀H2,Same H' H2->R (f x) H2)->te ((k.set 0 l).set 0 (some x)) H' R) (u:k[0]?=some none)
  (q:∀D H',Same H H'->H' D=some (.lst (xs.map f))->Q (.ref D) H') :
  jB X scope N wi (cF 0) lO te σ H Q:=by
 refine(k,p,t _ λJ go stop D h=>?_);exists λi m d H' c=>i<=xs.length/\m=xs.length - i/\(∃l,d=k.set 0 l)/\Same H H'/\H' D=some (.lst c)/\c=(xs.take i).map f,(xs.length,bAI _,4,(none,gA u),bJ h _,aO,4);rintro i m d H' c ⟨hi,rfl,⟨l,rfl⟩,sm,hL,rfl⟩;exists hL;by_cases a:i<xs.length
 .right;have(j,n):=go H' i xs[i] sm (b7 a);refine(j,λx H2 r=>?_);have(rfl,rfl):=n x H2 r;unfold cF lO;dsimp only;rw[if_pos rfl];refine v xs[i] (bAR a) _ _ l sm λs g=>(g _ _ hL,8,xs.length - (i+1),5,a,4,(some xs[i],8),8,aO,8)
  .rw[d7,bAK];lia
  .rw[bBH]
  .intro b o e;rw[bC (bV e h)];exact g _ _ (sm _ _ e)
  .rw[bBE,b7 a,bAW];rfl
 .left;have e:i=xs.length:=by lia
  subst e;exists stop _ sm;rw[bDR] at hL;exact q D _ sm hL
def aYs {K:bGC}{tl:TA}{t u:Addr}(xs ys:List V)(f:V->V->V)(s:St)(A:Cap X scope N σ s)(hsz:xs.length<=sizeLine)(hl:xs.length=ys.length)
  (n:SqT K H t xs) (w:SqT K H u ys) (E:∀R:List V->Hp->Prop,R [.ref t,.ref u] H->tl σ H R)
  (I:∀(i:Nat) (x y:V),xs[i]?=some x->ys[i]?=some y->∀H' R l1 l2,Same H H'->(∀H2,Same H' H2->R (f x y) H2)->te ((((s.set 0 l1).set 1 l2).set 0 (some x)).set 1 (some y)) H' R) (F:s[0]?=some none) (G:s[1]?=some none)
  (q:∀D H',Same H H'->H' D=some (.lst (List.zipWith f xs ys))->Q (.ref D) H') :
  jB X scope N (aO2 K tl) (aBt K 2 (lX (cF 0) (lX (cF 1) aGe))) lO te σ H Q:=by
 refine(s,A,E _ (t,u,xs,ys,4,n,w,λD p=>?_));exists λi m k H' h=>i<=xs.length/\m=xs.length - i/\(∃l1 l2,k=(s.set 0 l1).set 1 l2)/\Same H H'/\H' D=some (.lst h)/\h=(List.zipWith f xs ys).take i,(xs.length,bAI _,4,(none,none,8),bJ p _,aO,4)
 .rw[<-gA F];exact gA G
 rintro i m k H' h ⟨hi,rfl,⟨l1,l2,rfl⟩,sm,hL,rfl⟩;exists hL;by_cases d:i<xs.length
 .right;refine((sm.aG n,sm.aG w,d,5),λv H2 B=>?_);have(T,a,b,z,rfl,rfl,j,r):=B;have g:Same H' (upd H' T (.tup [a,b])):=bJ z _;exists T,[a,b],4,.inl (.inl aO),4,a,[b],4,b,[],44;unfold lO;dsimp only;rw[if_pos rfl];refine I i a b j r _ _ l1 l2 (λb o e=>g _ _ (sm _ _ e)) λC l=>(l _ _ (g _ _ hL),8,xs.length - (i+1),5,d,4,(some a,some b,8),8,aO,8)
  .rw[bAK,bBQ];lia
  .rw[bEZ _ _ (show (1:Nat)≠0 by decide),bBH,bBH]
  .intro c o e;rw[bC (bV e p)];exact l _ _ (g _ _ (sm _ _ e))
  .rw[bBE,bCP,j,r];rfl
 .left;have e:i=xs.length:=by lia
  subst e;exists (sm.aG n,j6 _);rw[bBB (by rw[bBQ];lia)] at hL;exact q D _ sm hL
def nF {K:bGC}{a:Addr}{xs:List V}{tl:TE}(b:SqT K H a xs)(h:∀R:VK,R (.ref a) H->tl σ H R)(R:It->Hp->Prop)
  (q:∀J:It,(∀H' i x,Same H H'->xs[i]?=some x->J.go i H'/\∀y H2,J.yld i H' y H2->H2=H'/\y=x)->(∀H',Same H H'->J.stop xs.length H')->R J H):aQ2 K tl σ H R:=by
 refine h _ (a,4,(xs,b),q _ (λH' i x s e=>((xs,x,s.aG b,e),λy H2 g=>?_)) λH' s=>(xs,s.aG b,j6 _));have(d,f):=g;have c:=f xs (s.aG b);rw[e] at c;cases c;exact(d,4)
section
variable {κ:Type}[DecidableEq κ]
def nP (kvs:List (κ × V))(k:κ):Option V:=(kvs.find? λkv=>decide (kv.1=k)).map (·.2)
def putK (kvs:List (κ × V))(k:κ)(v:V):List (κ × V):=
 if (kvs.any λkv=>decide (kv.1=k))=true then kvs.map (λkv=>if kv.1=k then (kv.1,v,) else kv) else kvs++[(k,v,)]
def mY {p:κ × V}{r:List (κ × V)}{k:κ}(e:p.1=k):nP (p::r) k=some p.2:=by simp[nP,bBA,e]
def mW {p:κ × V}{r:List (κ × V)}{k:κ}(e:¬ p.1=k):nP (p::r) k=nP r k:=by simp[nP,bBA,e]
def aFf (k:κ):∀kvs:List (κ × V),(kvs.any λkv=>decide (kv.1=k))=(nP kvs k).isSome:=by
 intro a
 induction a with
 |nil=>exact rfl
 |cons p r ih=>
  rw[bEY];by_cases e:p.1=k
  .simp only[mY e,j4 e,Bool.true_or,Option.isSome_some]
  .rw[mW e,j9 e,Bool.false_or];exact ih
def tR (kvs:List (κ × V))(k:κ)(v:V):(putK kvs k v).length<=kvs.length+1:=by
 unfold putK
 split
 .rw[d7];lia
 .rw[w6,p8,bBO];lia
def aEq {kvs:List (κ × V)}{k:κ}(v:V)(h:nP kvs k=none):putK kvs k v=kvs++[(k,v,)]:=by unfold putK;rw[aFf,h];exact if_neg (6)
def uV.zU (r:uV o u):o.isSome=u.isSome:=by
 cases o with
 |none=>cases u with
  |none=>rfl
  |some _=>exact (show False from r).elim
 |some _=>cases u with
  |none=>exact (show False from r).elim
  |some _=>rfl
def KV.val (r:KV kvs vs)(k:κ):uV (nP kvs k) (valueAt vs k):=by
 unfold KV at r
 induction r with
 |nil=>exact True.intro
 |@cons p q ps qs h t ih=>
  have(c,d):=h;by_cases e:p.1=k
  .have a:q.1=k:=c.symm.trans e;have b:valueAt (q::qs) k=some q.2:=by simp[valueAt,bBA,a]
   rw[mY e,b];exact d
  .have a:¬ q.1=k:=λz=>e (c.trans z);have b:valueAt (q::qs) k=valueAt qs k:=by simp[valueAt,bBA,a]
   rw[mW e,b];exact ih
def KV.any (r:KV kvs vs)(k:κ):(kvs.any λkv=>decide (kv.1=k))=vs.any λkv=>decide (kv.1=k):=by
 unfold KV at r
 induction r with
 |nil=>rfl
 |cons h t ih=>rw[bEY,bEY,ih,h.1]
def KV.repl (r:KV kvs vs)(k:κ)(c:RelV y u) :
  KV (kvs.map λkv=>if kv.1=k then (kv.1,y,) else kv) (vs.map λkv=>if kv.1=k then (kv.1,u,) else kv):=by
 unfold KV at r ⊢
 induction r with
 |nil=>exact .nil
 |@cons p q ps qs h t ih=>
  rw[bAE,bAE];refine .cons ?_ ih;have(a,b):=h;by_cases e:p.1=k
  .rw[if_pos e,if_pos (a.symm.trans e)];exact(a,c)
  .rw[if_neg e,if_neg (λz=>e (a.trans z))];exact(a,b)
def KV.put (r:KV kvs vs)(k:κ)(a:RelV y u):KV (putK kvs k y) (stored vs k u):=by
 unfold putK stored;rw[r.any k];by_cases e:(vs.any λb=>decide (b.1=k))=true
 .rw[if_pos e,if_pos e];exact r.repl k a
 .rw[if_neg e,if_neg e];exact Paired.snoc r (4,a)
def KV.keys {kvs:List (κ × V)}{vs:List (κ × Value)}(r:KV kvs vs):kvs.map (·.1)=vs.map (·.1):=by
 unfold KV at r
 induction r with
 |nil=>rfl
 |cons h t ih=>rw[bAE,bAE,ih,h.1]
def KV.length {kvs:List (κ × V)}{vs:List (κ × Value)}(r:KV kvs vs):kvs.length=vs.length:=Paired.length r
end
def aHv (r:RelV (kV k) u):(cO P w).is k u=true:=by
 cases k with
 |inl i=>have(t,e):=(show ∃t,u=Value.int i t from r);subst e;exact aLr P w i t
 |inr x=>have(t,e):=(show ∃t,u=Value.str x t from r);subst e;exact aNf P w x t
def aUv:∀{ks:List Key} {us:List Value},Vals (ks.map kV) us->ItemsAre (cO P w) ks us:=by
 intro a
 induction a with
 |nil=>rintro _ r;rw[bFI] at r;cases r;exact .nil
 |cons k ks ih=>
  rintro _ r;rw[bAE] at r;cases r with
  |cons h t=>exact .cons (aHv h) (ih t)
abbrev KT (H:Hp):List (List Key × V)->List (List Key × Addr × Value)->Prop:=Paired λp q=>p.1=q.1/\H q.2.1=some (.tup (p.1.map kV))/\RelV p.2 q.2.2
def KT.val (r:KT H kvs xs)(k:List Key):uV (nP kvs k) ((atKey xs k).map (·.2)):=by
 induction r with
 |nil=>exact True.intro
 |@cons p q ps qs h t ih=>
  have(c,_,d):=h;by_cases e:p.1=k
  .have a:q.1=k:=c.symm.trans e;have b:atKey (q::qs) k=some q.2:=by simp[atKey,bBA,a]
   rw[mY e,b];exact d
  .have a:¬ q.1=k:=λz=>e (c.trans z);have b:atKey (q::qs) k=atKey qs k:=by simp[atKey,bBA,a]
   rw[mW e,b];exact ih
def KT.repl (r:KT H kvs xs)(k:List Key)(d:RelV y u) :
  KT H (kvs.map λkv=>if kv.1=k then (kv.1,y,) else kv) (xs.map (putAt k u)):=by
 induction r with
 |nil=>exact .nil
 |@cons p q ps qs h t ih=>
  rw[bAE,bAE];refine .cons ?_ ih;have(a,b,c):=h;unfold putAt;by_cases e:p.1=k
  .rw[if_pos e,if_pos (a.symm.trans e)];exact(a,b,d)
  .rw[if_neg e,if_neg (λz=>e (a.trans z))];exact(a,b,c)
def KT.put (r:KT H kvs xs)(k:List Key)(d:H b=some (.tup (k.map kV)))(a:RelV y u) :
  KT H (putK kvs k y) (storedH xs k b u):=by
 have e:(kvs.any λc=>decide (c.1=k))=(atKey xs k).isSome:=by rw[aFf,(r.val k).zU,Option.isSome_map]
 unfold putK storedH;rw[e];by_cases q:(atKey xs k).isSome=true
 .rw[if_pos q,if_pos q];exact r.repl k a
 .rw[if_neg q,if_neg q];exact Paired.snoc r (4,d,a)
def KT.keeps (r:KT H kvs xs)(a:∀b ys,H b=some (.tup ys)->H' b=some (.tup ys)):KT H' kvs xs:=
 Paired.bKs r λ_ _ z=>(z.1,a _ _ z.2.1,z.2.2)
def bFb (b:HOk P w H h)(e:Rd H a u):gK P w H h a u:=e.ok b
def aMa (b:HOk P w H h)(e:Rd H a (.dK kvs)):kvs.length<=sizeLine/\(a == sysModules)=false/\∃vs,KV kvs vs/\h.DictOf (cO P w) a vs:=
 show gK P w H h a (.dK kvs) from bFb b e
def aIe (b:HOk P w H h)(e:H a=some (.dK kvs)):kvs.length<=sizeLine/\(a == sysModules)=false/\∃vs,KV kvs vs/\h.DictOf (cO P w) a vs:=aMa b (.inl e)
def aK5 (g:HOk P w H h)(e:H a=some (.tup (ks.map kV))):(tupleKind (cO P w)).is h ks a:=by have(_,b,r,(o,d,f,n,c),_):=(show gK P w H h a (.tup (ks.map kV)) from g a _ e);exact(o,b.toArray,n,d,f,c,by simpa using aUv r)
def aUl (g:HOk P w H h)(e:Rd H a (.dT kvs)):kvs.length<=sizeLine/\(a == sysModules)=false /\
  ∃xs,KT H kvs xs/\h.DictOfH (tupleKind (cO P w)) a xs:=by
 have(z,y,xs,r,o,k,i,j,c,d,n,f):=(show gK P w H h a (.dT kvs) from bFb g e);refine(z,y,xs,r,o,k,i,j,c,d,n,λx hx=>?_,f);have b:∀{l:List (List Key × V)} {m:List (List Key × Addr × Value)},KT H l m->∀x∈m,(tupleKind (cO P w)).is h x.1 x.2.1:=by
  intro l m q
  induction q with
  |nil=>intro x hx;exact nomatch hx
  |@cons p q ps qs hq t ih=>
   intro x hx;rcases List.mem_cons.mp hx with e|hx
   .subst e;exact aK5 g (by rw[<-hq.1];exact hq.2.1)
   .exact ih x hx
 exact b r x hx
def bKf (b:HOk P w H h)(e:H a=some (.dT kvs)):kvs.length<=sizeLine/\(a == sysModules)=false /\
  ∃xs,KT H kvs xs/\h.DictOfH (tupleKind (cO P w)) a xs:=aUl b (.inl e)
def aB2 (H:Hp)(a:Addr)(y:V)(r:Option V):Prop:=
 (∃kvs k,Rd H a (.dK kvs)/\y=kV k/\r=nP kvs k)\/∃kvs k b,Rd H a (.dT kvs)/\y=.ref b/\H b=some (.tup (k.map kV))/\r=nP kvs k
def aZn (H:Hp)(a:Addr)(y v:V)(H':Hp):Prop:=
 (∃kvs k,H a=some (.dK kvs)/\y=kV k/\kvs.length<sizeLine/\H'=upd H a (.dK (putK kvs k v))) \/
 ∃kvs k b,H a=some (.dT kvs)/\y=.ref b/\H b=some (.tup (k.map kV))/\kvs.length<sizeLine/\H'=upd H a (.dT (putK kvs k v))
theorem aB2.k {H:Hp}{a:Addr}{kvs:List (Key × V)}{k:Key}(e:H a=some (.dK kvs)):aB2 H a (kV k) (nP kvs k):=.inl (kvs,k,.inl e,44)
theorem aZn.k {H:Hp}{a:Addr}{kvs:List (Key × V)}{k:Key}{v:V}(e:H a=some (.dK kvs))(b:kvs.length<sizeLine):aZn H a (kV k) v (upd H a (.dK (putK kvs k v))):=.inl (kvs,k,e,4,b,4)
def Inv.big (I:Inv X bGG σ H s):sysModules<s.heap.objs.size:=by have h:=(I.mod.glob.keeps I.bk).lt;exact bEO (6) h
def aW1 (t:A.units+1<cLine)(I:Inv X bGG σ H s)(g:aB2 H a y (some v))(o:RelV y u)(h:∀w' s',Inv X bGG σ H s'->RelV v w'->Q w' s') :
  wpAny (model X.prog X.w) A (getItem (.ref a) u) Q E s:=by
 rcases g with⟨j,k,e,i,l⟩|⟨j,k,b,e,i,eb,l⟩
 .subst i;have(z,q,x,d,m):=aMa I.hok e;have(w',f,c):=uV.some_of (by rw[l];exact d.val k);exact wpAny_getItem_of (aHv o) m.mapOf f (h w' _ (I.tok _) c)
 .subst i;cases (show u=Value.ref b from o);have(z,q,B,d,m):=aUl I.hok e;have(w',f,c):=uV.some_of (by rw[l];exact d.val k);have(p,r,n):=Option.map_eq_some_iff.mp f;refine wpAny_getItem_heap (tupleKind_room_in1 t) (aK5 I.hok eb) m r ?_;rw[n];exact h w' _ (I.tok _) c
def bC8 (r:A.units+1<cLine)(I:Inv X bGG σ H s)(g:aB2 H a y o)(m:RelV y u)(h:∀s',Inv X bGG σ H s'->Q (.bool (!o.isSome)) s') :
  wpAny (model X.prog X.w) A (compareOp .NotIn u (.ref a)) Q E s:=by
 rcases g with⟨d,k,e,j,l⟩|⟨d,k,b,e,j,eb,l⟩
 .subst j;have(z,f,n,c,i):=aMa I.hok e;refine wpAny_notIn_of (aHv m) f i.mapOf ?_;rw[<-(c.val k).zU,<-l];exact h _ (I.tok _)
 .subst j;cases (show u=Value.ref b from m);have(z,f,p,c,i):=aUl I.hok e;refine wpAny_notIn_heap (tupleKind_room_in1 r) (aK5 I.hok eb) f i ?_;have q:=(c.val k).zU;rw[Option.isSome_map] at q;rw[<-q,<-l];exact h _ (I.tok _)
def aKg (I:Inv X bGG σ H s)(e:Mut (H a))(hs:Heap.SameBut a s.heap h')(f:∃q,h'.get? a=some q)(d:gK X.prog X.w (upd H a ob) h' a ob) :
  Inv X bGG σ (upd H a ob) { s with heap:=h',toks:=t' }:=
 I.write e (.inl rfl) (λb q c z=>(hs.2 b c).trans z) f d
def bBh (z:kvs.length<=sizeLine)(d:(a == sysModules)=false)(b:KV kvs vs)(c:h'.DictOf (cO P w) a vs) :
  gK P w H' h' a (.dK kvs):=(z,d,vs,b,c)
def aWx (T:A.units+1<cLine)(I:Inv X bGG σ H s)(g:aZn H a y v H')(D:RelV y u)(L:RelV v r)(h:∀s',Inv X bGG σ H' s'->Q () s') :
  wpAny (model X.prog X.w) A (setItem (.ref a) u r) Q E s:=by
 rcases g with⟨d,k,e,m,l,t⟩|⟨d,k,b,e,m,eb,l,t⟩
 .subst m t;have(z,n,N,f,o):=aIe I.hok e;have G:N.length<=sizeLine:=by rw[<-f.length];exact z
  have p:(putK d k v).length<=sizeLine:=by have:=tR d k v;lia
  refine wpAny_setItem_pairs (aHv D) o λC i x=>h _ ?_;have S:∃q,C.get? a=some q:=let (q,00,j,_):=i;(q,j)
  exact aKg I (by rw[e];exact True.intro) x S (bBh p n (f.put k L) i)
 .subst m t;cases (show u=Value.ref b from D);have(z,n,O,f,o):=bKf I.hok e;have G:O.length<=sizeLine:=by rw[<-Paired.length f];exact z
  have p:(putK d k v).length<=sizeLine:=by have:=tR d k v;lia
  refine wpAny_setItem_heap (tupleKind_room_in1 T) (aK5 I.hok eb) o λC i x=>h _ ?_;have(q,P,M,j,F,J,R,_,K):=i;refine aKg I (by rw[e];exact True.intro) x (q,j) (p,n,_,(f.put k eb L).keeps λc U B=>?_,q,P,M,j,F,J,R,K);rw[bC (aHg B e (λz=>nomatch z))];exact B
def bKe (I:Inv X bGG σ H s)(e:Rd H a (.dK kvs))(h:∀t s',Inv X bGG σ H s'->Q (.int kvs.length t) s'):wpAny (model X.prog X.w) A (call (.builtin "len") [.ref a]) Q E s:=by have(z,c,f,b,d):=aMa I.hok e;refine call_len_dict c d (by rw[<-b.length];rw[sizeLine_eq] at z;lia) ?_;rw[<-b.length];exact h _ _ (I.tok _)
def bG1 (i:Expr):Prop:=∀ov iv,subscripted i false ov iv=operate [ov,iv] (getItem ov iv)
def bEf {prog:Program}{w:World}{A:Around}{E:bGD}{s:Shared}{env:Env}{b d:Expr}{pos:Pos}{T id:String}{Q:bGD}
  (k:typeLookup (.type T) "__getitem__"=pure (some (.builtin id))) (hs:bG1 d)
  (h:wpAny (model prog w) A (eval b env) (λo s₁=>wpAny (model prog w) A (eval d env) (λi s₂=>s₂.TypeIs o T/\wpAny (model prog w) A (getItem o i) Q E s₂) E s₁) E s) :
  wpAny (model prog w) A (eval (.Subscript b d pos) env) Q E s:=by
 refine Subscript_ (bBJ h (λo s₁ j=>bBJ j (λi s₂ c=>?_) λ_ _ x=>x) λ_ _ x=>x);have(f,c):=c;unfold subscriptTail;refine b8 ?_;rw[getitemInPython_of_ne f.not_modules];refine b8 (wpAny_specialOf f k ?_);have a:wpAny (model prog w) A (subscripted d false o i) (λr e=>wpAny (model prog w) A (letTemporaryGo b o r >>= λ_=>pure r) Q E e) E s₂:=by rw[hs o i];exact wpAny_operating (bBJ c (λr e g=>b8 (wpAny_letTemporaryGo (d9 g))) λ_ _ x=>x)
 first
  |exact d9 (b8 a)
  |exact b8 (d9 (b8 a))
  |exact b8 a
def aO1 (I:Inv X bGG σ H s)(g:aB2 H a y o):s.TypeIs (.ref a) "dict":=by
 rcases g with⟨c,k,e,_,_⟩|⟨c,k,b,e,_,_,_⟩
 .have(_,_,f,_,d):=aMa I.hok e;exact d.typeIs
 .have(_,_,h,_,d):=aUl I.hok e;exact d.typeIs
inductive aT7 (Q:VK)(x:V)(y:V)(H2:Hp):Prop
 |mk (a v:_)(h0:x=.ref a)(h1:aB2 H2 a y (some v))(h2:Q v H2):aT7 Q x y H2
def bFo (td ty:TE):TE:=fun σ H Q=>td σ H λx H1=>ty σ H1 (aT7 Q x)
def aUe (ty td:TE):TE:=fun σ H Q=>ty σ H λy H1=>td σ H1 λx H2=>∃a o,x=.ref a/\aB2 H2 a y o/\Q (.bl (!o.isSome)) H2
def bFl (td ty tv:TE):TS:=λD σ H=>tv σ H λv H1=>td σ H1 λx H2=>ty σ H2 λy H3=>∃a H4,x=.ref a/\aZn H3 a y v H4/\D.nx σ H4
def bEp (e:X.A.units+1<cLine)(f:PE X o td)(hi:PE X i ty)(hs:bG1 i):PE X (.Subscript o i pos) (bFo td ty):=by intro b s σ H Q I h;refine bEf PySem.F.slot_dict_getitem.lookup hs (thn (f b s σ H _ I h) ?_);rintro u s1 ⟨x,H1,I1,rx,q1⟩;refine thn (hi b s1 σ H1 _ I1 q1) ?_;rintro iv s2 ⟨y,H2,I2,ry,a,v,ex,g,q2⟩;subst ex;obtain rfl:u=Value.ref a:=rx;exact(aO1 I2 g,aW1 e I2 g ry λk j d c=>(v,H2,d,c,q2))
def aVx (d:X.A.units+1<cLine)(hi:PE X i ty)(e:PE X o td):PC X .NotIn i o (aUe ty td):=by intro b s σ H Q I h;refine thn (hi b s σ H _ I h) ?_;rintro iv s1 ⟨y,H1,I1,ry,q1⟩;refine thn (e b s1 σ H1 _ I1 q1) ?_;rintro u s2 ⟨x,H2,I2,rx,a,ov,ex,g,q2⟩;subst ex;obtain rfl:u=Value.ref a:=rx;exact bC8 d I2 g ry λf c=>(.bl (!ov.isSome),H2,c,4,q2)
def bEk (J:X.A.units+1<cLine)(F:PE X o td)(hi:PE X i ty)(K:PE X value tv)(hs:swapsWith value (some (.Subscript o i pos')) pos.line X.env=pure false) :
  PS X (.Assign [.Subscript o i pos'] value pos) (bFl td ty tv):=by
 intro b s σ H D I h;refine wpAny_Assign_Subscript (thn (K b s σ H _ I h) λr t (v,n,c,q,w)=>thn (F b t σ n _ c w) λu e (x,l,C,f,z)=>thn (hi b e σ l _ C z) λG M (y,E,k,p,a,j,d,g,m)=>?_) hs;subst d;obtain rfl:u=Value.ref a:=f;exact aWx J k g p q λL B=>(σ,j,B,m)
def aOb (h:Heap)(a:sysModules<h.objs.size):gK P w H (h.push { cls:=.type "dict",data:=.dict #[] }) h.objs.size (.dK []):=
 (bAI _,beq_eq_false_iff_ne.mpr (Ne.symm (bAA a)),[],.nil,Heap.DictOf.new h)
def aZb:TE:=λ_ H Q=>∀p,H p=none->Q (.ref p) (upd H p (.dK []))
def aZp:PE X (.Dict [] [] pos) aZb:=λa s σ H Q I h=>
 wpAny_Dict_empty (.ref s.heap.objs.size,_,I.laid (t':=s.toks) (λ_ _ q=>c7 _ q) (j6 _) (aOb s.heap I.big),4,h _ (I.hok.fresh (j6 _)))
def aRv:List (TE × TE)->St->Hp->(List (V × V)->Hp->Prop)->Prop
 |[],_,H,Q=>Q [] H
 |(tk,tv,)::r,σ,H,Q=>tk σ H λx H1=>tv σ H1 λy H2=>aRv r σ H2 λps H3=>Q ((x,y,)::ps) H3
abbrev VV:List (V × V)->List (Value × Value)->Prop:=Paired λp q=>RelV p.1 q.1/\RelV p.2 q.2
def PPs (X:Cx)(pos:Pos)(keys:List (Option Expr))(values:List Expr)(trs:List (TE × TE)):Prop:=
 ∀bGG s σ H Q,Inv X bGG σ H s->aRv trs σ H Q ->
  wpAny (model X.prog X.w) X.A (evalPairs (pairTrees keys values X.env pos)) (λvs s'=>∃ps H',Inv X bGG σ H' s'/\VV ps vs/\Q ps H') X.xe s
def bCh:PPs X pos [] [] []:=λa s σ H Q I h=>pairTrees_nil_walk ([],H,I,.nil,h)
def aYe (t:PE X k tk)(A:PE X v tv)(B:PPs X pos ks vs trs) :
  PPs X pos (some k::ks) (v::vs) ((tk,tv,)::trs):=λa s σ H Q I h=>
 pairTrees_cons_walk (thn (t a s σ H _ I h) λu m (x,f,d,l,n)=>thn (A a m σ f _ d n) λz j (y,e,r,g,o)=>
  thn (B a j σ e _ r o) λC w (q,c,p,b,i)=>((x,y,)::q,c,p,.cons (l,g) b,i))
def jO (kvs more:List (Key × V)):List (Key × V):=more.foldl (λacc kv=>putK acc kv.1 kv.2) kvs
def KV.merge:∀{more:List (Key × V)} {rs:List (Key × Value)} {kvs:List (Key × V)} {vs:List (Key × Value)},KV more rs->KV kvs vs->KV (jO kvs more) (merged vs rs):=by
 intro more rs kvs vs r;unfold KV at r
 induction r generalizing kvs vs with
 |nil=>intro q;exact q
 |@cons p q ps qs h t ih=>
  intro a;have e:KV (putK kvs p.1 p.2) (stored vs q.1 q.2):=by have:=a.put p.1 h.2;rw[<-h.1];exact this
  exact ih e
def mK:∀more kvs,(jO kvs more).length<=kvs.length+more.length:=by
 intro a
 induction a with
 |nil=>rintro kvs;show kvs.length<=kvs.length+0;lia
 |cons p r ih=>rintro kvs;have b:=ih (putK kvs p.1 p.2);have c:=tR kvs p.1 p.2;show (jO (putK kvs p.1 p.2) r).length<=_;rw[p8];lia
def aPi:∀{kvs:List (Key × V)} {ws:List (Value × Value)},VV (kvs.map λkv=>(kV kv.1,kv.2,)) ws->∃rs,Carries (cO P w) ws rs/\KV kvs rs:=by
 intro d
 induction d with
 |nil=>rintro _ r;rw[bFI] at r;cases r;exact([],True.intro,.nil)
 |cons p kvs ih=>
  rintro _ r;rw[bAE] at r;cases r with
  |@cons a b as bs h t=>have(rs,c,q):=ih t;have(f,e):=b;exact((p.1,e,)::rs,(aHv h.1,4,c),.cons (4,h.2) q)
def bFu (trs:List (TE × TE)):TE:=fun σ H Q=>∀p,H p=none->aRv trs σ (upd H p (.dK [])) λps H2=>H2 p=some (.dK [])/\∃kvs:List (Key × V),ps=kvs.map (λkv=>(kV kv.1,kv.2,))/\kvs.length<=15/\Q (.ref p) (upd H2 p (.dK (jO [] kvs)))
def bCa {X:Cx}{pos:Pos}{keys:List (Option Expr)}{values:List Expr}{trs:List (TE × TE)}(h:PPs X pos keys values trs)(f:keys.all (·.isSome)=true)(A:keys.length=values.length)(y:keys≠[])
  (m:keys.length<=15):PE X (.Dict keys values pos) (bFu trs):=by
 intro d s σ H Q I q;have u:=I.hok.fresh (j6 s.heap.objs.size);have g:=I.laid (a:=s.heap.objs.size) (o:=.dK []) (h':=s.heap.push { cls:=.type "dict",data:=.dict #[] }) (t':=s.toks) (λ_ _ q=>c7 _ q) (j6 _) (aOb s.heap I.big);refine wpAny_Dict_walk (knd:=cO X.prog X.w) f A y m (thn (h d _ σ _ _ g (q _ u)) ?_);rintro ws s2 ⟨ps,H2,I2,rel,e,kvs,ep,lk,q2⟩;subst ep;have(n,c,i):=aPi (P:=X.prog) (w:=X.w) rel;have(z,p,k,l,r):=aIe I2.hok e;cases l;refine(n,c,r,λh' b v=>(.ref s.heap.objs.size,084,q2));have j:(jO [] kvs).length<=sizeLine:=by have t:=mK kvs [];rw[bBO] at t;rw[sizeLine_eq];lia
 have x:∃q,h'.get? s.heap.objs.size=some q:=let (q,00,hq,_):=b;(q,hq)
 exact aKg I2 (by rw[e];exact True.intro) v x (bBh j p (i.merge .nil) b)
def aH5:cZ X (.builtin "len") (λxs H Q=>∃a kvs,xs=[V.ref a]/\H a=some (.dK kvs)/\Q (.int kvs.length) H):=by intro c s σ H xs f Q I r h;have(a,kvs,rfl,b,q):=h;have(u,rfl,d):=vals1 r;cases d;exact bKe I (.inl b) λt g e=>(.int kvs.length,H,e,(t,4),q)
section
variable {κ:Type}[DecidableEq κ]
def bD0 {kvs:List (κ × V)}{k:κ}{v:V}(h:nP kvs k=some v):k∈kvs.map (·.1):=by
 have q:(kvs.any λa=>decide (a.1=k))=true:=by rw[aFf,h];all_goals rfl
 have(p,b,e):=List.any_eq_true.mp q;exact List.mem_map.mpr (p,b,of_decide_eq_true e)
end
structure VE (X:Cx)(e:Expr)(t:TE):Prop where
 out:PE X e t
structure VT (X:Cx)(e:Expr)(t:TT):Prop where
 out:PT X e t
structure VW (X:Cx)(e:Expr)(t:TT):Prop where
 out:PW X e t
structure VA (X:Cx)(es:List Expr)(t:TA):Prop where
 out:PA X es t
structure VS (X:Cx)(st:Stmt)(t:TS):Prop where
 out:PS X st t
structure VSs (X:Cx)(st:List Stmt)(t:TS):Prop where
 out:PSs X st t
structure VI (X:Cx)(tg iter:Expr)(t:TI):Prop where
 out:PI X tg iter t
structure VG (X:Cx)(tg:Expr)(t:TG):Prop where
 out:PG X tg t
structure VGs (X:Cx)(tg:List Expr)(t:TGs):Prop where
 out:PGs X tg t
structure VO (X:Cx)(e:Option Expr)(t:TO):Prop where
 out:PO X e t
structure VF (X:Cx)(ifs:List Expr)(t:TT):Prop where
 out:aVz X ifs t
structure VP (X:Cx)(pos:Pos)(keys:List (Option Expr))(values:List Expr)(trs:List (TE × TE)):Prop where
 out:PPs X pos keys values trs
section
variable {X:Cx}
def vv (i:Nat)(c:!(X.N[i]?=some x))(b:!(Vis X.env.scope x,2))(d:!((x == ("__debug__":Str))=false,1))
  (a:!((x == ("__classdict__":Str))=false,1)):VE X (.Name x pos) (wR i):=⟨pv i c b d a⟩
def dG (c:Gl X x)(a:∃u,X.mg x=some u/\RelV v u)(b:!((x == ("__debug__":Str))=false,1)):VE X (.Name x pos) (tC v):=⟨bJn c a b⟩
def dJ (d:Gl X x)(a:X.mg x=none)(c:bootBuiltins x=some u)(r:RelV v u)(hn:!(x≠"__name__",1))(b:!((x == ("__debug__":Str))=false,1)):VE X (.Name x pos) (tC v):=⟨bD7 d a c r hn b⟩
def aA {i j}:VE X (.Constant (.int i) j pos) (tC (.int i)):=⟨bF3⟩
def eO {b j}:VE X (.Constant (.bool b) j pos) (tC (.bl b)):=⟨bI5⟩
def mG {j}:VE X (.Constant .none j pos) (tC .non):=⟨bF7⟩
def aL {x j}:VE X (.Constant (.str x) j pos) (tC (.str x)):=⟨bGh⟩
def cA (d:OpR X (binaryOp op) r)(e:VE X a ta)(c:VE X b tb):VE X (.BinOp a op b pos) (tOp r ta tb):=⟨bKh d e.1 c.1⟩
def bBw (b:UnR X (unaryOp op) r)(c:VE X a ta):VE X (.UnaryOp op a pos) (tUn r ta):=⟨bJw b c.1⟩
def gY (e:OpR X (compareOp op) r)(f:VE X a ta)(d:VE X b tb)(c:behindInMarks op b=false):VE X (.Compare a [op] [b] pos) (tOp r ta tb):=⟨bEy e f.1 d.1 c⟩
def fP (e:OpR X (compareOp op) r)(f:VE X a ta)(d:VE X b tb)(c:behindInMarks op b=false):VT X (.Compare a [op] [b] pos) (aHj (tOp r ta tb)):=⟨bC2 e f.1 d.1 c⟩
def aL8 (i:OpR X (compareOp op) r)(d:OpR X (compareOp op') r')(g:VE X a ta)(f:VE X b tb)(h:VE X c tc)
  (e:!(lastMarks [op,op'] [b,c]=false,4)):VE X (.Compare a [op,op'] [b,c] pos) (aIv r r' ta tb tc):=⟨aYr i d g.1 f.1 h.1 e⟩
def uE (i:OpR X (compareOp op) r)(d:OpR X (compareOp op') r')(g:VE X a ta)(f:VE X b tb)(h:VE X c tc)
  (e:!(lastMarks [op,op'] [b,c]=false,4)):VT X (.Compare a [op,op'] [b,c] pos) (aHj (aIv r r' ta tb tc)):=⟨aY4 i d g.1 f.1 h.1 e⟩
def dN {op}(h:VE X a te):VE X (.BoolOp op [a] pos) te:=⟨bH5 h.1⟩
def dI (d:VE X a ta)(c:VE X (.BoolOp .And (b::rest) pos) tb):VE X (.BoolOp .And (a::b::rest) pos) (bAi ta tb):=⟨bG4 d.1 c.1⟩
def aS6 (d:VE X a ta)(c:VE X (.BoolOp .Or (b::rest) pos) tb):VE X (.BoolOp .Or (a::b::rest) pos) (bJq ta tb):=⟨bKn d.1 c.1⟩
def bHs (b:VE X a ta):VE X (.UnaryOp .Not a pos) (bFv ta):=⟨bHu b.1⟩
def gJ (f:VT X c tA)(e:VE X a ta)(d:VE X b tb):VE X (.IfExp c a b pos) (tIf tA ta tb):=⟨bAf f.1 e.1 d.1⟩
def cW:VA X [] aJl:=⟨bGo⟩
def aF (b:VE X e te)(a:VA X es t)(c:!(fJ e=true)):VA X (e::es) (cX te t):=⟨bLj b.1 a.1 c⟩
def jG (G:Ok X.prog X.w X.K X.mg X.base k x ps sp)(c:Room k X.A)(g:Gl X x)(d:VA X (e::es) t)(b:!((x == ("__debug__":Str))=false,1))
  (f:!(fJ e=true)) (a:!((backTo pos (starEach es X.env)).any (·.1)=false)) :
  VE X (.Call (.Name x p) (e::es) [] pos) (aEh sp [] E0 t):=⟨bI8 G c g d.1 b (bO f) a⟩
def aJ {id:String}{r:List V->Hp->VK->Prop}(f:cZ X (.builtin id) r)(h:Gl X x)(c:X.mg x=none)(i:bootBuiltins x=some (.builtin id))(d:VA X (e::es) t)(hn:!(x≠"__name__",1))(a:!((x == ("__debug__":Str))=false,1))
  (g:!(fJ e=true)) (b:!((backTo pos (starEach es X.env)).any (·.1)=false)):VE X (.Call (.Name x p) (e::es) [] pos) (tCB r t):=⟨bAw f h c i d.1 hn a (bO g) b⟩
def bF (f:cZ X (.type T) r)(h:Gl X x)(c:X.mg x=none)(i:bootBuiltins x=some (.type T))(d:VA X (e::es) t)(hn:!(x≠"__name__",1))(a:!((x == ("__debug__":Str))=false,1))
  (g:!(fJ e=true)) (b:!((backTo pos (starEach es X.env)).any (·.1)=false)):VE X (.Call (.Name x p) (e::es) [] pos) (tCB r t):=⟨aV2 f h c i d.1 hn a (bO g) b⟩
def qM {o:Expr}{to:TE}{name:Str}{apos cpos:Pos}{T id:String}{r:V->List V->Hp->VK->Prop}(h:PlainAttrs T)(slot:Slot T name id)(f:typeOf (.builtin id)=pure (.type "method_descriptor"))(g:MtR X id r)(j:VE X o to)(i:VA X (e::es) t)
  (b:!(attributeBase o name X.env (eval o X.env)=eval o X.env))
  (d:!(((backTo cpos (starEach (e::es) X.env)).all (λx=>!x.1) && (backToKw cpos (keywordEach [] X.env)).all (λx=>x.1.isSome)
   && decide ((e::es).length+([]:List Keyword).length+(if ([]:List Keyword).isEmpty then 0 else 1)<30))=true))
  (c:!((apos.endLine == cpos.line)=true)) (k:!(fJ e=true)) (a:!((backTo cpos (starEach es X.env)).any (·.1)=false)) :
  VE X (.Call (.Attribute o name apos) (e::es) [] cpos) (tBM X.K T r to t):=⟨bJx h slot f g j.1 i.1 b d c (bO k) a⟩
def sW (e:VE X a ta)(d:VE X b tb)(hs:aO9 b) :
  VE X (.Subscript a b pos) (tOp (λx y H Q=>∃z i c,x=.str z/\y=.int i/\0<=i/\i<2 ^ 63/\i<z.length/\z.cps[i.toNat]?=some c/\Q (.str ⟨#[c]⟩) H) ta tb):=⟨aNd e.1 d.1 hs⟩
def fK:VO X none aT0:=⟨bCw⟩
def eE (h:VE X e te):VO X (some e) (bFg te):=⟨bDy h.1⟩
def dM {r:V->Option Int->Option Int->Hp->VK->Prop}{lo hi:Option Expr}{tl th:TO}{p2:Pos}(a:SlR X r)(d:VE X e te)(b:VO X lo tl)(c:VO X hi th):VE X (.Subscript e (.Slice lo hi none p2) pos) (tSl r te tl th):=⟨aZi a d.1 b.1 c.1⟩
def aTe (c:IxR X r)(e:VE X a ta)(d:VE X b tb)(hs:aK2 b):VE X (.Subscript a b pos) (tOp r ta tb):=⟨bI1 c e.1 d.1 hs⟩
def aZt:VE X (.Dict [] [] pos) aZb:=⟨aZp⟩
def bB2:VP X pos [] [] []:=⟨bCh⟩
def aE8 (a:VE X k tk)(b:VE X v tv)(c:VP X pos ks vs trs):VP X pos (some k::ks) (v::vs) ((tk,tv,)::trs):=⟨aYe a.1 b.1 c.1⟩
def bCp (h:VP X pos keys values trs)(a:keys.all (·.isSome)=true)(c:keys.length=values.length)(d:keys≠[])(b:keys.length<=15):VE X (.Dict keys values pos) (bFu trs):=⟨bCa h.1 a c d b⟩
def VE.imp {t t':TE}(h:VE X e t)(k:∀σ H Q,t' σ H Q->t σ H Q):VE X e t':=⟨PE.imp h.1 k⟩
def iU (b:VT X a tA):VW X (.BoolOp .And [a] pos) tA:=⟨bEv b.1⟩
def dO (b:VT X a tA):VW X (.BoolOp .Or [a] pos) tA:=⟨bF4 b.1⟩
def jH (d:VT X a tA)(c:VW X (.BoolOp .And (b::rest) pos) tB'):VW X (.BoolOp .And (a::b::rest) pos) (bKg tA tB'):=⟨bF9 d.1 c.1⟩
def dZ (d:VT X a tA)(c:VW X (.BoolOp .Or (b::rest) pos) tB'):VW X (.BoolOp .Or (a::b::rest) pos) (tOr tA tB'):=⟨bKi d.1 c.1⟩
def VW.pt (h:VW X e tA):VT X e tA:=⟨h.1.pt⟩
def cJ (b:VT X a tA):VT X (.UnaryOp .Not a pos) (aX7 tA):=⟨bF5 b.1⟩
def cD (h:VE X e te)(a:!(∀whole,isTrue e X.env whole=(do let v <-whole;standAt e.pos;holding [v] (truthy v)),3)):VT X e (tB te):=⟨bHr h.1 a⟩
def aYd (c:VE X a ta)(b:!(∀whole,isTrue a X.env whole=(do let v <-whole;standAt a.pos;holding [v] (truthy v)),3)) :
  VT X a (fun σ H Q=>ta σ H λx H'=>∃k,bGt X.K x H' k/\Q k H'):=⟨aZu c.1 b⟩
variable {st:Stmt}{rest:List Stmt}{u w':TS}
def aV:VSs X [] oM:=⟨bEx⟩
def aB (a:VS X st u)(b:VSs X rest w'):VSs X (st::rest) (nO u w'):=⟨bBc a.1 b.1⟩
def aC (a:VS X st u):VSs X [st] u:=⟨bCq a.1⟩
def aH (a:VE X e te):VS X (.Return (some e) pos) (qI te):=⟨bGg a.1⟩
def bL {a b:List Stmt}(f:VT X c tA)(e:VSs X a u)(d:VSs X b w'):VS X (.If c a b pos) (aGw tA u w'):=⟨bKr f.1 e.1 d.1⟩
def aIu (a:X.N.Nodup)(hi:X.N[i]?=some x)(b:Loc X.env.scope x)(c:VE X e te)(hs:!(swapsWith e (some (.Name x pos')) pos.line X.env=pure false))(d:!(X.fn x=true\/X.env.scope.names.lookup x=some .local,2)) :
  VS X (.Assign [.Name x pos'] e pos) (kO te (cF i)):=⟨bIj a hi b c.1 hs d⟩
def eV (a:VE X e te)(hs:!(swapsWith e none pos.line X.env=pure false)):VS X (.Expr e pos) (aUh te):=⟨bCl a.1 hs⟩
def nH {tg iter:Expr}{body:List Stmt}{wi:TI}{g:TG}{tb:TS}(b:PassesOwn (model X.prog X.w) X.A X.env X.xe)(a:X.calm=true)(hi:VI X tg iter wi)(c:VG X tg g)(d:VSs X body tb)
  (hs:!(∀x,foldedSetIterable iter X.env x=pure x,3)):VS X (.For tg iter body [] pos) (bKu wi g tb):=⟨bHa b a hi.1 c.1 d.1 hs⟩
def aJt (b:X.N.Nodup)(hi:X.N[i]?=some x)(a:Loc X.env.scope x)(c:!(X.fn x=true\/X.env.scope.names.lookup x=some .local,2)):VG X (.Name x pos) (cF i):=⟨bD6 b hi a c⟩
def cV:VGs X [] aGe:=⟨bDg⟩
def aW {t:TG}{u:TGs}(a:VG X e t)(b:VGs X es u)(hs:!((assignEach (e::es) X.env).map (·.2)=assign e X.env::(assignEach es X.env).map (·.2))):VGs X (e::es) (lX t u):=⟨aX5 a.1 b.1 hs⟩
def iY {k:Nat}{t:TGs}{n:Nat}(b:X.calm=true)(h:VGs X es t)(hn:!((assignEach es X.env).length=n))(a:!((assignEach es X.env).findIdx? (·.1)=none)):VG X (.Tuple es k pos) (aBt X.K n t):=⟨bHg b h.1 hn a⟩
def iD (h:VE X e te):VI X tg e (tL X.K te):=⟨aTm h.1⟩
def fV (h:VE X e te):VI X tg e (aQ2 X.K te):=⟨bBd h.1⟩
def bIk (h:VE X e te):VI X tg e (bG5 te):=⟨bHj h.1⟩
def dW (e:Gl X "range")(b:X.mg "range"=none)(c:VA X [a] t)(d:!(fJ a=true)):VI X tg (.Call (.Name "range" p) [a] [] pos) (aTy t):=⟨aXd e b c.1 (bO d)⟩
def cI:VF X [] lO:=⟨bF8⟩
def zY (h:VT X c tA):VF X [c] tA:=⟨bGd h.1⟩
def bY
  (C:uG scope N) (b:∀y,(y,NameKind.free,)∈scope.names->X.env.kindOf y=some .cell\/X.env.kindOf y=some .free) (c:X.calm=true)
  (hi:VI X target iter wi)
  (a:∀cl s H fp,VG (cxC X N scope cl s H fp) target g/\VF (cxC X N scope cl s H fp) ifs tt/\VE (cxC X N scope cl s H fp) elt te)
  (hs:!(∀x,foldedSetIterable iter X.env x=pure x,3)) :
  VE X (.ListComp elt [(target,iter,ifs,0)] scope pos) (jB X scope N wi g tt te):=
 ⟨bD4 C b c hi.1 (λcl s H fp=>((a cl s H fp).1.1,(a cl s H fp).2.1.1,(a cl s H fp).2.2.1)) hs⟩
end
section
variable {P:Program}{w:World}{K:bGC}{mg:bGF}{base:Heap}
def Fun.okV {x qual:Str}{st:Stmt}{f:Addr}{fd:FuncData}{N ps:List Str}{k:Nat}{sp:Sp}(F:Fun K x qual st f fd)(S:aN N ps (aD st))(c:∀vs H Q E,sp vs H Q E->vs.length=ps.length)
  (a:∀(cdv:Value) (A:Around) (outer:List Env) (s:Shared) (H:Hp) (vs:List V) (Q:VK) (E:XK),Room k (A.deeper (envOfC qual (aD st) s.heap.objs.size f cdv))->sp vs H Q E ->
   ∃t,VSs (aBj CX0 P w K mg base N qual (aD st) f cdv A outer s H E).nox (iG st) t/\t { nx:=λ_ H'=>Q .non H',rt:=Q } (start N vs) H):!mZ CX0 (k+1) f fd ps sp:=
 F.ok S c λcdv A outer s H vs Q E b h=>let (t,h1,h2):=a cdv A outer s H vs Q E b h;(t,h1.1,h2)
def Ok.ofV {x:Str}{st:Stmt}{N ps:List Str}{k:Nat}{sp:Sp}(D:Dn K mg x st ps)(S:aN N ps (aD st))(c:∀vs H Q E,sp vs H Q E->vs.length=ps.length)
  (a:∀(f:Addr) (cdv:Value) (A:Around) (outer:List Env) (s:Shared) (H:Hp) (vs:List V) (Q:VK) (E:XK),Room k (A.deeper (envOfC x (aD st) s.heap.objs.size f cdv))->sp vs H Q E ->
   ∃t,VSs (aBj CX0 P w K mg base N x (aD st) f cdv A outer s H E).nox (iG st) t/\t { nx:=λ_ H'=>Q .non H',rt:=Q } (start N vs) H):!Ok (k+1) x ps sp:=
 Ok.of D S c λf cdv A outer s H vs Q E b h=>let (t,h1,h2):=a f cdv A outer s H vs Q E b h;(t,h1.1,h2)
end
def Held (P:Program)(w:World)(K:bGC)(mg:bGF)(base:Heap)(k:Nat)(f:Addr)(ps:List Str)(sp:Sp):Prop:=
 ∃fd,PySem.W.keepIn K (.ref f)=true/\Binds K fd ps []/\!mZ CX0 k f fd ps sp
def Ok.held {P:Program}{w:World}{K:bGC}{mg:bGF}{base:Heap}{k:Nat}{x:Str}{ps:List Str}{sp:Sp}(G:!Ok k x ps sp):∃f,mg x=some (.ref f)/\!Held k f ps sp:=by have(f,b,e,c,a,d):=G;exact(f,e,b,c,a,d)
def Held.mono {P:Program}{w:World}{K:bGC}{mg:bGF}{base:Heap}{j k:Nat}{f:Addr}{ps:List Str}{sp:Sp}(h:!Held j f ps sp)(e:j<=k):!Held k f ps sp:=by have(b,d,c,a):=h;exact(b,d,c,a.mono e)
def aZe (P:Program)(w:World)(K:bGC)(mg:bGF)(base:Heap)(k:Nat)(te:TE)(t:TA):TE:=fun σ H Q=>te σ H λv H1=>∃f ps sp,v=.ref f/\!Held k f ps sp/\t σ H1 λvs H2=>sp vs H2 Q E0
def bB8 (l:Room k X.A)(m:PE X (.Name x p) te)(g:PA X (e::es) t)
  (o:!(starEach (e::es) X.env=(false,eval e X.env,)::starEach es X.env)) (c:!((backTo pos (starEach es X.env)).any (·.1)=false)) :
  PE X (.Call (.Name x p) (e::es) [] pos) (aZe X.prog X.w X.K X.mg X.base k te t):=by
 intro a s σ H Q I h;refine bCD (thn (m a s σ H _ I h) ?_);rintro u s1 ⟨v,H1,I1,r1,q1⟩;have(f,n,j,rfl,(i,b,d,F),q):=q1;obtain rfl:u=Value.ref f:=r1;refine PySem.W.callWith_K I1.ok.mod.kin b (thn (g pos a s1 σ H1 _ I1 q) ?_) o c;rintro us s2 ⟨vs,H2,I2,r,q2⟩;exists I2.kIn;exact aKe F l d .nil aOx I2 r (by simpa using q2)
end L2
namespace PySem
end PySem
namespace L2
open PySem PySem.Spec PyProof.Rows
def bCj:OpR X (binaryOp .Add) (λx y H Q=>∃a b ys,x=.ref a/\y=.ref b/\SqT X.K H a []/\SqT X.K H b ys/\Q (.ref b) H):=by
 intro t s σ H x y v u Q I z C h;have(a,b,ys,rfl,rfl,r,L,q):=h;cases z;cases C;have(M,w,D,_):=I.tuple r;have(d,N,E,_):=I.tuple L;cases w;have((A,J,o,G),k,l,n,m):=id D;have((p,g,i,j),f,e,B,c):=id E;simp only at l m e c;subst l m e c;exact concat_meets (_,k,4) (_,f,4) noFill_tuple_add seq_tuple_add PySem.F.slot_tuple_add PySem.F.entry_tuple_add (PySem.F.args_tuple_add_2 _ _)
  (tuple_addW0 a b #[] d.toArray n B J g G j rfl) (k,f,(.ref b,H,I,4,q))
end L2
namespace PySem
abbrev dR (led:Bool):Obj:={ cls:=.type "set",dict:=none,data:=.set #[] 0 (.fresh 0 0 led) }
end PySem
namespace L2
open PySem PySem.Spec PyProof.Rows
def eX (j:Nat)(c:(y,NameKind.free,)∈scope.names)(d:X.N[j]?=some y)(hs:σ[j]?=some (some v))(e:Vis X.env.scope y):Cap X scope [x,y] σ [none,some v]:=
 (4,λi z u b a=>by
  match i,b,a with
  |0,_,a=>cases a
  |1,b,a=>cases b;cases a;exact(c,j,d,hs,e)
  |i+2,b,_=>cases b)
def gR:Cap X scope [x,y] σ [none,none]:=(4,λi z u b a=>by
  match i,b,a with
  |0,_,a=>cases a
  |1,_,a=>cases a
  |i+2,b,_=>cases b)
def bDi (b:Room k X.A)(d:VE X (.Name x p) te)(c:VA X (e::es) t)(f:!(fJ e=true))(a:!((backTo pos (starEach es X.env)).any (·.1)=false)) :
  VE X (.Call (.Name x p) (e::es) [] pos) (aZe X.prog X.w X.K X.mg X.base k te t):=⟨bB8 b d.1 c.1 (bO f) a⟩
def aOt {P:Program}{w:World}{K:bGC}{mg:bGF}{base:Heap}{k:Nat}(b:Room k X.A)(g:VE X (.Name x p) te)(d:VA X (e::es) t)(h:!(fJ e=true))(a:!((backTo pos (starEach es X.env)).any (·.1)=false))
  (i:!(X.prog=P)) (j:!(X.w=w)) (c:!(X.K=K)) (l:!(X.mg=mg)) (f:!(X.base=base)) :
  VE X (.Call (.Name x p) (e::es) [] pos) (aZe P w K mg base k te t):=by
 subst i j c l f;exact bDi b g d h a
def cT {K:bGC}(h:!(X.K=K)):IxR X (aSf K):=by subst h;exact aK
def iT {K:bGC}{k:Nat}{u:TGs}{n:Nat}(b:X.calm=true)(h:VGs X es u)(hn:!((assignEach es X.env).length=n))(a:!((assignEach es X.env).findIdx? (·.1)=none))(c:!(X.K=K)):VG X (.Tuple es k pos) (aBt K n u):=by subst c;exact iY b h hn a
def aCf (g:Gl X "zip")(d:X.mg "zip"=none)(e:VA X [a,b] t)(f:!(fJ a=true))(c:!(fJ b=true)) :
  VI X (.Tuple elts kt tp) (.Call (.Name "zip" p) [a,b] [] pos) (aO2 X.K t):=⟨bC0 g d e.1 (bO f) (bO c)⟩
def nJ (a:VE X e te)(d:VG X tg g)(hs:!(swapsWithSole [tg] e pos.line X.env=pure false))(c:!(swappedStores [tg] e X.env=pure none))
  (b:!((assignEach [tg] X.env).map (·.2)=[assign tg X.env])):VS X (.Assign [tg] e pos) (kO te g):=⟨bIg a.1 d.1 hs c b⟩
def bLh:V->Option Int->Option Int->Hp->VK->Prop:=λx lo hi H Q=>∃z,x=.str z/\z.length<=sizeLine/\Q (.str (Txt.slice z lo hi)) H
def aTn:SlR X bLh:=by
 intro e s σ H x v K J B D m Q I r E C n h;have(z,rfl,y,q):=h;have(t,rfl):=r;have a:∀l u:Option (Int × Tok),l.map (·.1)=B->u.map (·.1)=D->s.heap.IsSlice m l u none->wpAny (model X.prog X.w) X.A (getItem (.str z t) (.ref m)) (EP X e σ Q) X.xe s:=λl u p G g=>by subst p G;refine wpAny_getItem_str_slice g rfl ?_;unfold sliceMade;have f:=Txt.slice_le z (l.map (·.1)) (u.map (·.1));exact post_val_or_str (bAM f y,λL k=>(.str (Txt.slice z (l.map (·.1)) (u.map (·.1))),H,I.tok _,(3),q))
 exists "str",_,F.slot_str_getitem.lookup,typeIs_str _ _ _;have(o,b,c,d):=E;cases C with
 |none=>
  cases n with
  |none=>exact a none none rfl rfl (o,b,c,d)
  |int j u=>exact a none (some (j,u,)) rfl rfl (o,b,c,d)
 |int i t=>
  cases n with
  |none=>exact a (some (i,t,)) none rfl rfl (o,b,c,d)
  |int j u=>exact a (some (i,t,)) (some (j,u,)) rfl rfl (o,b,c,d)
def aTw (n:Nat)(h:∀R:List V->Hp->Prop,R [.int n] H->ta σ H R)(hn:(n:Int)<2 ^ 62)(R:It->Hp->Prop)
  (q:∀J:It,(∀H' i x,Same H H'->((List.range n).map λi:Nat=>V.int (0+(i:Int)))[i]?=some x->J.go i H'/\∀y H2,J.yld i H' y H2->H2=H'/\y=x) ->
   (∀H',Same H H'->J.stop ((List.range n).map λi:Nat=>V.int (0+(i:Int))).length H')->R J H):aTy ta σ H R:=by
 refine h _ (n,45,hn,8);refine q _ (λH' i x _ e=>?_) λH' _=>?_
 .rw[j5] at e;have c:i<n:=by
   cases a:(List.range n)[i]? with
   |none=>rw[a] at e;cases e
   |some j=>have:=(List.getElem?_eq_some_iff.mp a).1;rwa [bAG] at this
  rw[bBY c] at e;cases e;exact(show i<((n:Int)).toNat from by lia,λy H2 b=>b)
 .rw[d7,bAG];simp[Itr]
def bAq {x:Str}{j:Nat}(h:j<=x.length):(Txt.slice x none (some (j:Int))).cps.toList=x.cps.toList.take j:=by have e:=StrLaws.sliceText_to (x:=x) (j:=(j:Int)) (5,by rw[bAD];exact Int.ofNat_le.mpr h);show (StrLaws.sliceText x none (some (j:Int))).cps.toList=_;rw[e];simp
def aSr {x:Str}{j:Nat}(h:j<=x.length):(Txt.slice x (some (j:Int)) none).cps.toList=x.cps.toList.drop j:=by have e:=StrLaws.sliceText_from (x:=x) (i:=(j:Int)) (5,by rw[bAD];exact Int.ofNat_le.mpr h);show (StrLaws.sliceText x (some (j:Int)) none).cps.toList=_;rw[e];simp only[bAQ];refine bBB ?_;rw[bBK];lia
def put (x:Str)(a:Nat)(c:Nat):Str:=Txt.slice x none (some (a:Int))++⟨#[c]⟩++Txt.slice x (some (a:Int)) none
def aCl (h:a<=x.length):(put x a c).cps.toList=x.cps.toList.take a++c::x.cps.toList.drop a:=by show ((Txt.slice x none (some (a:Int))).cps++#[c]++(Txt.slice x (some (a:Int)) none).cps).toList=_;rw[bDN,bDN,bAq h,aSr h];simp
def bC6 (h:a<=x.length)(e:put x a c=put x a d):c=d:=by have b:=congrArg (λy:Str=>y.cps.toList) e;simp only[aCl h] at b;have f:=List.append_cancel_left b;exact (List.cons.inj f).1
def aTa {x:Str}{a c:Nat}(h:a<=x.length):(put x a c).length=x.length+1:=by
 have e:=congrArg List.length (aCl (c:=c) h);have l:x.length=x.cps.toList.length:=by rw[bAD];rfl
 rw[bAD,w6,p8,bAK,bBK] at e;show (put x a c).cps.size=_;lia
def bEm (h:a<=x.length)(m:d∈(put x a c).cps):d=c\/d∈x.cps:=by
 have b:=Array.mem_toList_iff.mpr m;rw[aCl h] at b;rcases List.mem_append.mp b with z|z
 .exact .inr (Array.mem_toList_iff.mp (bCG z))
 .rcases List.mem_cons.mp z with z|z
  .exact .inl z
  .exact .inr (Array.mem_toList_iff.mp (bFB z))
def nA {K:bGC}(h:!(X.K=K)):IxR X (bHn K):=by subst h;exact bB
def aWl {K:bGC}{tl:TA}(xs ys:List V)(f:V->V->V)(B:St)(C:Cap X scope N σ B)(hsz:xs.length<=sizeLine)(hl:xs.length=ys.length)
  (G:∀R:List V->Hp->Prop,(∀t u H1,Same H H1->SqT K H1 t xs->SqT K H1 u ys->R [.ref t,.ref u] H1)->tl σ H R)
  (F:∀(i:Nat) (x y:V),xs[i]?=some x->ys[i]?=some y->∀H' R l1 l2,Same H H'->(∀H2,Same H' H2->R (f x y) H2)->te ((((B.set 0 l1).set 1 l2).set 0 (some x)).set 1 (some y)) H' R) (I:B[0]?=some none) (J:B[1]?=some none)
  (q:∀D H',Same H H'->H' D=some (.lst (List.zipWith f xs ys))->Q (.ref D) H') :
  jB X scope N (aO2 K tl) (aBt K 2 (lX (cF 0) (lX (cF 1) aGe))) lO te σ H Q:=by
 refine(B,C,G _ λt u H1 s h n=>(t,u,xs,ys,4,h,n,λD r=>?_));exists λi m l H' j=>i<=xs.length/\m=xs.length - i/\(∃l1 l2,l=(B.set 0 l1).set 1 l2)/\Same H1 H'/\H' D=some (.lst j)/\j=(List.zipWith f xs ys).take i,(xs.length,bAI _,4,(none,none,8),bJ r _,aO,4)
 .rw[<-gA I];exact gA J
 rintro i m l H' j ⟨hi,rfl,⟨l1,l2,rfl⟩,sm,hL,rfl⟩;exists hL;by_cases d:i<xs.length
 .right;refine((sm.aG h,sm.aG n,d,5),λv H2 A=>?_);have(T,a,b,z,rfl,rfl,k,w):=A;have g:Same H' (upd H' T (.tup [a,b])):=bJ z _;exists T,[a,b],4,.inl (.inl aO),4,a,[b],4,b,[],44;unfold lO;dsimp only;rw[if_pos rfl];refine F i a b k w _ _ l1 l2 (λb o e=>g _ _ (sm _ _ (s _ _ e))) λE p=>(p _ _ (g _ _ hL),8,xs.length - (i+1),5,d,4,(some a,some b,8),8,aO,8)
  .rw[bAK,bBQ];lia
  .rw[bEZ _ _ (show (1:Nat)≠0 by decide),bBH,bBH]
  .intro c o e;rw[bC (bV e r)];exact p _ _ (g _ _ (sm _ _ e))
  .rw[bBE,bCP,k,w];rfl
 .left;have e:i=xs.length:=by lia
  subst e;exists (sm.aG h,j6 _);rw[bBB (by rw[bBQ];lia)] at hL;exact q D _ (s.trans sm) hL
def aX8 (t:TA):TE:=fun σ H Q=>t σ H λxs H1=>xs.length<=sizeLine/\∀p H',H1 p=none->Same H1 H'->H' p=some (.tup xs)->Q (.ref p) H'
def bFm (t:TA):TE:=fun σ H Q=>t σ H λxs H1=>xs.length<=sizeLine/\∀p H',H1 p=none->Same H1 H'->H' p=some (.lst xs)->Q (.ref p) H'
def bHe:TE:=λ_ H Q=>∀p H',H p=none->Same H H'->H' p=some (.dK [])->Q (.ref p) H'
def aP {x1}(h:VA X es t):VE X (.Tuple es x1 pos) (aX8 t):=⟨by intro a s σ H Q I j;refine wpAny_Tuple_spliced (thn (h.1 pos a s σ H _ I j) λi c (k,g,d,r,z,q)=>(by rw[<-r.length];exact z,8));have f:=d.hok.fresh (j6 _);refine(.ref c.heap.objs.size,upd g c.heap.objs.size (.tup k),d.laid (t':=c.toks) (λb u e=>c7 _ e) (j6 _) ?_,4,q _ _ f (bJ f _) aO);exact(z,i,r,.of (m5 _ rfl) rfl (_,m5 _ rfl,43))⟩
def cU (h:VA X es t):VE X (.List es pos) (bFm t):=⟨by intro a s σ H Q I j;refine wpAny_List_spliced (thn (h.1 pos a s σ H _ I j) λi c (k,g,d,r,z,q)=>(by rw[<-r.length];exact z,8));have f:=d.hok.fresh (j6 _);refine(.ref c.heap.objs.size,upd g c.heap.objs.size (.lst k),d.laid (t':=c.toks) (λb u e=>c7 _ e) (j6 _) ?_,4,q _ _ f (bJ f _) aO);exact(z,i,0,r,m5 _ rfl)⟩
def aX0:VE X (.Dict [] [] pos) bHe:=VE.imp aZt fun σ H Q h p a=>h p _ a (bJ a _) aO
def OpR.imp (h:OpR X f r)(k:∀x y H Q,r' x y H Q->r x y H Q):OpR X f r':=λa s σ H x y v u Q I c b q=>h a s σ H x y v u Q I c b (k _ _ _ _ q)
def cZ.imp (h:cZ X f r)(k:∀xs H Q,r' xs H Q->r xs H Q):cZ X f r':=λa s σ H xs c Q I b q=>h a s σ H xs c Q I b (k _ _ _ q)
inductive bFd (K:bGC)(x:V)(y:V)(H:Hp)(Q:VK):Prop
 |mk (a b xs ys:_)(h0:x=.ref a)(h1:y=.ref b)(h2:SqT K H a xs)(h3:SqT K H b ys)(h4:xs.length+ys.length<=sizeLine)(h5:∀r H',Same H H'->SqT K H' r (xs++ys)->Q (.ref r) H'):bFd K x y H Q
def jX:OpR X (binaryOp .Add) (bFd X.K):=OpR.imp (bEi.or bCj) λx y H Q (a,b,i,g,e,f,c,d,j,q)=>by
 by_cases h:i=[]
 .subst h;exact .inr (a,b,g,e,f,c,d,q b H (Same.refl H) d)
 .refine .inl (a,b,i,g,e,f,c,d,h,j,λz=>?_,λ_ p k=>q p _ (bJ k _) (SqT.of aO));subst z;exact q a H (Same.refl H) (by rw[bCM];exact c)
def bLc (K:bGC):V->Option Int->Option Int->Hp->VK->Prop:=λx lo hi H Q=>∃a xs,x=.ref a/\SqT K H a xs /\
 ¬ (HT.sIx xs.length 0 lo=0/\HT.sIx xs.length xs.length hi=xs.length)/\∀p H',Same H H'->H' p=some (.tup (uF xs lo hi))->Q (.ref p) H'
def yZ:SlR X (bLc X.K):=λb s σ H x v c k h r j Q I g f i n (a,m,e,d,o,q)=>
 bG2 b s σ H x v c k h r j Q I g f i n (a,m,e,d,o,λp l=>q p _ (bJ l _) aO)
inductive aXx (x:V)(y:V)(H:Hp)(Q:VK):Prop
 |mk (l b xs zs:_)(h0:x=.ref l)(h1:y=.ref b)(h2:H l=some (.lst xs))(h3:H b=some (.lst zs))(h4:xs.length+zs.length<=sizeLine)(h5:∀p H',H p=none->Same H H'->H' p=some (.lst (xs++zs))->Q (.ref p) H'):aXx x y H Q
def aNe:OpR X (binaryOp .Add) aXx:=OpR.imp bHb (by rintro x y H Q ⟨l,b,xs,zs,ex,ey,hl,hb,hz,q⟩;exact(l,b,xs,zs,ex,ey,hl,hb,hz,λp a=>q p _ a (bJ a _) aO))
def bHx (K:bGC):List V->Hp->VK->Prop:=λxs H Q=>∃p ys,xs=[.ref p]/\(SqL K H p ys\/SqT K H p ys)/\∀l H',H l=none->Same H H'->H' l=some (.lst ys)->Q (.ref l) H'
def wL:cZ X (.type "list") (bHx X.K):=cZ.imp aI4 (by rintro xs H Q ⟨p,ys,e,h,q⟩;exact(p,ys,e,h,λl a=>q l _ a (bJ a _) aO))
def aUk (K:bGC):List V->Hp->VK->Prop:=λxs H Q=>∃p ys,xs=[.ref p]/\SqL K H p ys/\∀l H',H l=none->Same H H'->H' l=some (.tup ys)->Q (.ref l) H'
def cQ:cZ X (.type "tuple") (aUk X.K):=cZ.imp aFo (by rintro xs H Q ⟨p,ys,e,h,q⟩;exact(p,ys,e,.inl (h,λl a=>q l _ a (bJ a _) aO)))
def iW:MtR X "list.append" aT1:=aH0
def jV (f:H D=none)(s:Same H H'):Same H (upd H' D o):=λb u e=>by rw[bC (bV e f)];exact s _ _ e
end L2
namespace PySem
def aN2 {Q:List Value->Shared->Prop}(v:PySem.W.KdlSrc prog w T r d n P OK)(B:A.handled=none)(p:OK s.heap)
  (C:∀h' tk acc,(∀b o,s.heap.get? b=some o->h'.get? b=some o)->ItemsOf P acc n->Q acc.toList { s with heap:=h',toks:=tk }) (hn:n<=sizeLine) :
  wpAny (model prog w) A (collect (.ref r)) Q E s:=by
 unfold collect;refine b8 (wpAny_runValue (bBP F.entry_proto_collect ?_));rw[bBD F.plain_proto_collect _];show wpAny _ A.in1 (newList [] >>= λl=>again (.builtin "list.__iadd__" ([l,.ref r],[]))) _ _ s;refine b8 (bAZ ?_);refine d9 (bCU F.plain_list_iadd _,bBP F.entry_list_iadd ?_);rw[bBD F.plain_list_iadd _];show wpAny _ A.in1 (Builtin.List.listExtendWith (.ref s.heap.objs.size) (.ref r) (.ref s.heap.objs.size)) _ _ _;have x:(s.heap.push { cls:=.type "list",data:=.seq ([]:List Value).toArray }).get? s.heap.objs.size=some { cls:=.type "list",data:=.seq #[] 0 }:=m5 _ rfl;have m:=v.there _ p;have k:∀h' tk c j,(∀b o,b≠s.heap.objs.size->(s.heap.push { cls:=.type "list",data:=.seq ([]:List Value).toArray }).get? b=some o->h'.get? b=some o) ->
   h'.get? s.heap.objs.size=some { cls:=.type "list",dict:=none,data:=.seq c j,slots:=#[] }->ItemsOf P c n ->
   wpAny (model prog w) A (match Value.ref s.heap.objs.size with
   |Value.ref a=>do
    match (<-load a).data with
     |Data.seq xs _=>pure xs.toList
     |_=>unsupported "internal:collect"
   |_=>unsupported "internal:collect") Q E { s with heap:=h',toks:=tk }:=by
  intro h' tk c j kp i g;show wpAny _ A (load s.heap.objs.size >>= _) _ _ _;refine b8 (wpAny_load i ?_);refine d9 ?_;exact C h' tk c (λb o e=>kp b o (bAA (v8 e)) (c7 _ e)) g
 refine bBJ (PySem.W.kdl_extend (A:=A) (R:=λq t=>∃h' tk c j,q=.ok (.ret (.ref s.heap.objs.size))/\t={ s with heap:=h',toks:=tk }/\(∀b o,b≠s.heap.objs.size->(s.heap.push { cls:=.type "list",data:=.seq ([]:List Value).toArray }).get? b=some o->h'.get? b=some o) /\
   h'.get? s.heap.objs.size=some { cls:=.type "list",dict:=none,data:=.seq c j,slots:=#[] }/\ItemsOf P c n)
  (s:={ s with heap:=s.heap.push { cls:=.type "list",data:=.seq ([]:List Value).toArray } }) v B (v.keep _ _ p λb _ o e=>c7 _ e) s.heap.objs.size (bDA m.1) (bDA m.2) (.ref s.heap.objs.size) 0 x
   (λh' tk c j kp i g=>(h',tk,c,j,44,kp,i,g)) hn) (λu t h=>?_) (λe t h=>?_)
 .cases u with
  |done f=>have(h',tk,c,j,e,rfl,kp,i,g):=h;cases e;exact k h' tk c j kp i g
  |again j=>exact(h.1,bDC h.2 λq z y=>by have(h',tk,c,j,rfl,rfl,kp,i,g):=y;exact k h' tk c j kp i g)
 .have(_,_,_,_,e,_):=h;cases e
def uA (d:Addr)(kvs:List (Str × Value))(lo:(d == sysModules)=false)(hn:kvs.length<=sizeLine) :
  MeetsIn prog w (Builtin.«tuple.__new__» ([.type "tuple",.ref d],[]))
   (λA R s=>A.handled=none/\(s.heap.DictOf (strKind prog w) d kvs)/\∀(h':Heap) (tk:Nat) (acc:Array Value),(∀b o,s.heap.get? b=some o->h'.get? b=some o) ->
    ItemsOf (λi v=>∃k x t,kvs[i]?=some (k,x,)/\v=.str k t) acc kvs.length->R (.ok (.ret (.ref h'.objs.size))) { s with heap:=h'.push { cls:=.type "tuple",data:=.seq acc },toks:=tk }):=
 .of_wp λA R s h=>by
  have(q,l,h):=h;have m:=sub_tuple_self;have g:=init_tuple_lookup;have y:=madeHere_tuple;have r:s.TypeIs (.ref d) "dict":=l.typeIs;have f:A.in1.handled=none:=q;have(ep,c):=l.dictAt;have(o,B,n,C):=id c;wp_walk using AutoSeq1.wpAny_loadPart' n,bEL r,aN2 (hn:=hn) (PySem.W.kdl_dict (knd:=strKind prog w) (kvs:=kvs) (ep:=ep) lo) f c;intro h' tk acc kp a;show wpAny _ _ (Builtin.Tuple.tupleExact acc.toList.toArray >>= λv=>ret v) _ _ _;unfold Builtin.Tuple.tupleExact;refine b8 (bAZ ?_ (show acc.toList.toArray.size<=sizeLine by simp only[bFC];rw[a.1];exact hn));refine d9 (38);have e:acc.toList.toArray=acc:=by simp
  rw[e];refine h h' tk acc kp (a.1,λj v u=>?_);have(k,x,p,z):=a.2 j v u;have(t,rfl):=Value.isStrOf_shape z;exact(k,x,t,p,4)
end PySem
namespace L2
open PySem PySem.Spec PyProof.Rows
def aW0:∀(kvs:List (Str × Value)) (vs:List Value),vs.length=kvs.length->(∀(j:Nat) (v:Value),vs[j]?=some v->∃k x t,kvs[j]?=some (k,x,)/\v=.str k t)->Vals (kvs.map λq=>V.str q.1) vs:=by
 intro kvs
 induction kvs with
 |nil=>intro vs a _;cases vs with
  |nil=>exact .nil
  |cons=>cases a
 |cons p r ih=>intro vs a h;cases vs with
  |nil=>cases a
  |cons v vs=>have(b,c,t,e,rfl):=h 0 v rfl;cases e;exact .cons (t,4) (ih vs (by simpa using a) λj u e=>h (j+1) u e)
def Ite (K:bGC)(l:Addr)(xs:List V):It:=
 (λi H=>SqL K H l xs/\i<xs.length,λi H v H'=>∃T a,H T=none/\v=.ref T/\H'=upd H T (.tup [.int (i:Nat),a])/\xs[i]?=some a,λi H=>SqL K H l xs/\xs.length<=i)
def etn (e it l:Addr)(i:Nat)(h:Heap):Prop:=(∃old,IsEnum h e it (i:Int) old)/\h.IsListIter it l i
def aV4 {P:Program}{w:World}{K:bGC}{elts:List Expr}{kt:Nat}{pos:Pos}{e it l:Addr}{xs:List V}(F:e≠it) :
  Turn P w K (.Tuple elts kt pos) (Ite K l xs) [e,it] e (etn e it l) where
 mem:=by simp
 obj:=λi h g b a=>by
  have((c,d),o,j,c2,Z):=g;simp only[bAS,bAH,or_false] at a;rcases a with rfl|rfl
  .exact(_,d,λv z=>by cases (show Data.fields _=Data.cell v from z))
  .exact(_,j,λv z=>by rw[Z] at z;cases z)
 keep:=λi h m g k=>by have((c,d),o,j,r):=g;exact((c,k e (9) _ d),o,k it (9) _ j,r)
 item:=by
  intro X A u C Q i f s σ H E I n g D;subst A u C;have((c,d),j):=g;have(t,M):=D;have(its,y,q,hz):=I.list t;have(x,hx,W):=y.get (b7 M);have fe:=n e (9);have fi:=n it (9);refine wpAny_pyNext_enum_item d j q.isList (by simpa using hx) F λm L J R a4 kp=>?_;exists 3;have fT:H s.heap.objs.size=none:=I.hok.fresh (j6 _);have(oi,p,_):=id j;have(a0,B,_):=id J;have T:Inv X f σ (upd H s.heap.objs.size (.tup [.int (i:Nat),xs[i]])) { s with heap:=m }:=by
   refine I.drawn (ch:=[e,it]) (its:=[.int i s.toks,x]) (λb a=>n b a) (λb o a z=>?_) (j6 _) (.cons (3) (.cons W .nil)) (small (9)) (.of R rfl (_,R,43)) (λb a=>?_)
   .simp only[bAS,bAH,or_false,not_or] at a;exact kp b o a.1 a.2 z
   .simp only[bAS,bAH,or_false] at a;rcases a with rfl|rfl
    .exact(_,L)
    .exact(_,B)
  have G:Inv X f σ (upd H s.heap.objs.size (.tup [.int (i:Nat),xs[i]])) { s with heap:=m,toks:=s.toks+1 }:=T.tok _;have N:∀b∈[e,it],b≠s.heap.objs.size:=λb a=>by
   simp only[bAS,bAH,or_false] at a;rcases a with rfl|rfl
   .exact bAA (v8 d)
   .exact bAA (v8 p)
  refine wpAny_letOwnedTupleGo_enum (s:={ s with heap:=m,toks:=s.toks+1 }) L λY z2 O=>?_;have(g0,g1,g2,g3,g4,g5):=fe;have I2:Inv X f σ (upd H s.heap.objs.size (.tup [.int (i:Nat),xs[i]])) { s with heap:=Y,toks:=s.toks+1 }:=Inv.turned (s:={ s with heap:=m,toks:=s.toks+1 }) G (t':=s.toks+1) (it:=e) (λb o a z=>(O.2 b a).trans z) (by rw[bC (N e (9))];exact g0) g1 g3 g4 g5;refine(.ref s.heap.objs.size,_,I2,4,(00,fT,44,b7 M),((x,8),8),λb a=>by rw[bC (N b a)];exact (n b a).1)
  .rw[show ((i+1:Nat):Int)=(i:Int)+1 from by lia];exact z2
  .have(o,U,r):=J;exact(o,(O.2 it (Ne.symm F)).trans U,r)
 done:=by intro X A u C Q i f s σ H E I n g D;subst A u C;have((c,d),j):=g;have(t,hi):=D;have(its,y,q,hz):=I.list t;have S:=y.length;refine wpAny_pyNext_enum_end (I.ok.hd Q) d j q.isList (by simp;lia) λm kp=>(48);refine Inv.aTu (ch:=[it]) I (λb a=>n b (j8 _ a)) λb o a z=>kp b o (by simpa using a) z
 self:=λ_ _ _ _ _ g h=>by have((c,d),_):=g;exact wpAny_pyIter_enum d h
def aXt (K:bGC)(ta:TA):TI:=fun σ H R=>ta σ H λvs H1=>∃l xs,vs=[.ref l]/\SqL K H1 l xs/\R (Ite K l xs) H1
def bCk (D:Gl X "enumerate")(y:X.mg "enumerate"=none)(z:PA X [a] ta)(hs:!(starEach [a] X.env=[(false,eval a X.env,)])) :
  PI X (.Tuple elts kt tp) (.Call (.Name "enumerate" p) [a] [] pos) (aXt X.K ta):=by
 intro f s σ H R I h;refine Call_ (zK I D y aJd (bDB (thn (z pos f s σ H _ I h) λG i (C,r,d,m,v)=>?_) hs (7)));have(l,E,e,o,q):=v;subst e;have(w,J,n,B):=d.list o;have(u,rfl,t):=vals1 m;cases t;refine call_enumerate_list n.isList λA g k F kp=>?_;have x:=d.kept (t':=i.toks) kp;refine wpAny_pyIter_enum g (11,r,4,x,aV4 (bDA (bDP _)),((_,g),k),λb j=>?_,q);have c:i.heap.objs.size<=b:=by
  simp only[bAS,bAH,or_false] at j;rcases j with rfl|rfl
  .exact bEJ _
  .exact j6 _
 exact d.aMk c (d.hok.fresh c)
def aMf {K:bGC}{l:Addr}{xs:List V}{g:TG}{tb:TS}{D:Ends}{σ:St}{H:Hp}(f:Nat->St->Hp->Prop)(k:f 0 σ H)(j:∀i σ H,i<=xs.length->f i σ H->SqL K H l xs)
  (hs:∀i σ H a T H',xs[i]?=some a->f i σ H->H T=none->H'=upd H T (.tup [.int (i:Nat),a])->g (.ref T) σ H' fun σ2 H2=>tb { D with nx:=f (i+1),ct:=f (i+1),bk:=D.nx } σ2 H2) (n:∀σ H,f xs.length σ H->D.nx σ H) :
  ∃W:Nat->Nat->St->Hp->Prop,(∃m,W 0 m σ H)/\∀i m σ H,W i m σ H ->
   ((Ite K l xs).stop i H/\D.nx σ H)\/((Ite K l xs).go i H/\∃N:St->Hp->Prop,(∀σ' H',N σ' H'->∃m',m'<m/\W (i+1) m' σ' H')/\∀x H',(Ite K l xs).yld i H x H'->g x σ H' fun σ2 H2=>tb { D with nx:=N,ct:=N,bk:=D.nx } σ2 H2):=by
 exists λi m σ H=>m=xs.length - i/\i<=xs.length/\f i σ H,((xs.length,9,bAI _,k));rintro i m σ H ⟨rfl,hi,p⟩;by_cases b:i<xs.length
 .refine .inr ((j i σ H hi p,b),f (i+1),fun σ' H' h=>(xs.length - (i+1),54,b,h),λx H' y=>?_);have(T,a,d,rfl,e,c):=y;exact hs i σ H a T H' c p d e
 .have e:i=xs.length:=by lia
  subst e;exact .inl ((j _ σ H hi p,j6 _),n σ H p)
section
variable {X:Cx}{st:Stmt}
def fB:VS X st aZr:=⟨bBv⟩
def bAt (d:PassesOwn (model X.prog X.w) X.A X.env X.xe)(b:VT X c tc)(a:VSs X body tb):VS X (.While c body [] pos) (bAz tc tb):=⟨aXz d b.1 a.1⟩
def aLl (e:Gl X "enumerate")(b:X.mg "enumerate"=none)(c:VA X [a] t)(d:!(fJ a=true)) :
  VI X (.Tuple elts kt tp) (.Call (.Name "enumerate" p) [a] [] pos) (aXt X.K t):=⟨bCk e b c.1 (bO d)⟩
def bCv:MtR X "list.pop" bI6:=bGr
def aSj:MtR X "list.extend" aTb:=aU8
def aZ0 {o:Expr}{to:TE}{name:Str}{apos cpos:Pos}{T id:String}{r:V->List V->Hp->VK->Prop}(e:PlainAttrs T)(slot:Slot T name id)(c:typeOf (.builtin id)=pure (.type "method_descriptor"))(d:MtR X id r)(f:VE X o to)
  (a:!(attributeBase o name X.env (eval o X.env)=eval o X.env)) (b:!((apos.endLine == cpos.line)=true)):VE X (.Call (.Attribute o name apos) [] [] cpos) (bJ6 X.K T r to):=⟨bId e slot c d f.1 a b⟩
end
section
variable {P:Program}{w:World}{K:bGC}{mg:bGF}{base:Heap}
def Ok.aYv (G:!Ok k x ps sp)(m:mg x=some (.ref f)):!Held k f ps sp:=by have(g,a,h):=G.held;rw[m] at a;cases a;exact h
end
def qN (xs:List V)(Rel:Nat->Hp->V->Prop)(E:∀{i H1 H2 y},Same H1 H2->Rel i H1 y->Rel i H2 y)(B:∀{i H1 D ys zs y},H1 D=some (.lst ys)->Rel i H1 y->Rel i (upd H1 D (.lst zs)) y)
  (u:St) (v:Cap X scope N σ u) (hsz:xs.length<=sizeLine)
  (C:∀R:It->Hp->Prop,(∀J:It,(∀H' i x,Same H H'->xs[i]?=some x->J.go i H'/\∀y H2,J.yld i H' y H2->H2=H'/\y=x)->(∀H',Same H H'->J.stop xs.length H')->R J H)->wi σ H R)
  (G:∀(i:Nat) (x:V),xs[i]?=some x->∀H' R l,Same H H'->(∀y H2,Same H' H2->Rel i H2 y->R y H2)->te ((u.set 0 l).set 0 (some x)) H' R) (F:u[0]?=some none)
  (q:∀D H' ys,Same H H'->H' D=some (.lst ys)->ys.length=xs.length->(∀(i:Nat) (y:V),ys[i]?=some y->Rel i H' y)->Q (.ref D) H') :
  jB X scope N wi (cF 0) lO te σ H Q:=by
 refine(u,v,C _ λJ go stop D k=>?_);exists λi m h H' ys=>i<=xs.length/\m=xs.length - i/\(∃l,h=u.set 0 l)/\Same H H'/\H' D=some (.lst ys)/\ys.length=i/\∀j y,ys[j]?=some y->Rel j H' y,((xs.length,bAI _,4,(none,gA F),bJ k _,aO,4,λj y e=>by simp at e));rintro i m h H' ys ⟨hi,rfl,⟨l,rfl⟩,sm,hL,hl,hR⟩;exists hL;by_cases a:i<xs.length
 .right;have(t,n):=go H' i xs[i] sm (b7 a);refine(t,λx H2 p=>?_);have(rfl,rfl):=n x H2 p;unfold cF lO;dsimp only;rw[if_pos rfl];refine G i xs[i] (b7 a) _ _ l sm λy A d r=>(d _ _ hL,5,xs.length - (i+1),5,a,4,(some xs[i],8),8,aO,88)
  .rw[bBH]
  .intro b o e;rw[bC (bV e k)];exact d _ _ (sm _ _ e)
  .rw[w6,bBG,hl]
  .intro j z c;refine B (d _ _ hL) ?_;by_cases s:j<ys.length
   .rw[bBX s] at c;exact E d (hR j z c)
   .rw[bBF (5)] at c;have g:j - ys.length=0:=by
     by_cases w:j - ys.length=0
     .exact w
     .rw[bAJ (by simp;lia)] at c;cases c
    have f:j=i:=by lia
    subst f;rw[g] at c;cases c;exact r
 .left;have e:i=xs.length:=by lia
  subst e;exact(stop _ sm,q D _ ys sm hL hl hR)
def jY (xs ys:List V)(n:ys.length=xs.length)(p:St)(k:Cap X scope N σ p)(g:xs.length<=sizeLine)
  (o:∀R:It->Hp->Prop,(∀J:It,(∀H' i x,Same H H'->xs[i]?=some x->J.go i H'/\∀y H2,J.yld i H' y H2->H2=H'/\y=x)->(∀H',Same H H'->J.stop xs.length H')->R J H)->wi σ H R)
  (u:∀(i:Nat) (x y:V),xs[i]?=some x->ys[i]?=some y->∀H' R l,Same H H'->(∀H2,Same H' H2->R y H2)->te ((p.set 0 l).set 0 (some x)) H' R) (s:p[0]?=some none)
  (q:∀D H',Same H H'->H' D=some (.lst ys)->Q (.ref D) H') :
  jB X scope N wi (cF 0) lO te σ H Q:=by
 refine qN xs (λi _ y=>ys[i]?=some y) (λ_ h=>h) (λ_ h=>h) p k g o (λi x d H' R l c r=>?_) s λD H' b c m t f=>?_
 .have a:i<ys.length:=by rw[n];exact (List.getElem?_eq_some_iff.mp d).1
  exact u i x ys[i] d (b7 a) H' R l c λH2 j=>r _ H2 j (b7 a)
 .have e:b=ys:=by
   refine bBM λi=>?_;by_cases a:i<b.length
   .rw[f i b[i] (b7 a),b7 a]
   .rw[bAJ (5),bAJ (5)]
  subst e;exact q D H' c m
def aVy {K:bGC}{tl:TA}(xs ys:List V)(Rel:Nat->Hp->V->Prop)(J:∀{i H1 H2 y},Same H1 H2->Rel i H1 y->Rel i H2 y)(P:∀{i H1 D ys zs y},H1 D=some (.lst ys)->Rel i H1 y->Rel i (upd H1 D (.lst zs)) y)
  (G:St) (I:Cap X scope N σ G) (hsz:xs.length<=sizeLine) (hl:xs.length=ys.length)
  (S:∀R:List V->Hp->Prop,(∀t u H1,Same H H1->SqT K H1 t xs->SqT K H1 u ys->R [.ref t,.ref u] H1)->tl σ H R)
  (Y:∀(i:Nat) (x y:V),xs[i]?=some x->ys[i]?=some y->∀H' R l1 l2,Same H H'->(∀z H2,Same H' H2->Rel i H2 z->R z H2)->te ((((G.set 0 l1).set 1 l2).set 0 (some x)).set 1 (some y)) H' R) (U:G[0]?=some none) (W:G[1]?=some none)
  (q:∀D H' zs,Same H H'->H' D=some (.lst zs)->zs.length=xs.length->(∀(i:Nat) (z:V),zs[i]?=some z->Rel i H' z)->Q (.ref D) H') :
  jB X scope N (aO2 K tl) (aBt K 2 (lX (cF 0) (lX (cF 1) aGe))) lO te σ H Q:=by
 refine(G,I,S _ λt u H1 w l r=>(t,u,xs,ys,4,l,r,λD s=>?_));exists λi m p H' zs=>i<=xs.length/\m=xs.length - i/\(∃l1 l2,p=(G.set 0 l1).set 1 l2)/\Same H1 H'/\H' D=some (.lst zs)/\zs.length=i/\∀j z,zs[j]?=some z->Rel j H' z,((xs.length,bAI _,4,(none,none,8),bJ s _,aO,4,λj y e=>by simp at e))
 .rw[<-gA U];exact gA W
 rintro i m p H' zs ⟨hi,rfl,⟨l1,l2,rfl⟩,sm,hL,hlz,hR⟩;exists hL;by_cases g:i<xs.length
 .right;refine((sm.aG l,sm.aG r,g,5),λv H2 C=>?_);have(T,a,b,B,rfl,rfl,A,M):=C;have f:Same H' (upd H' T (.tup [a,b])):=bJ B _;exists T,[a,b],4,.inl (.inl aO),4,a,[b],4,b,[],44;unfold lO;dsimp only;rw[if_pos rfl];refine Y i a b A M _ _ l1 l2 (λb o e=>f _ _ (sm _ _ (w _ _ e))) λy O h E=>(h _ _ (f _ _ hL),5,xs.length - (i+1),5,g,4,(some a,some b,8),8,aO,88)
  .rw[bEZ _ _ (show (1:Nat)≠0 by decide),bBH,bBH]
  .intro c o e;rw[bC (bV e s)];exact h _ _ (f _ _ (sm _ _ e))
  .rw[w6,bBG,hlz]
  .intro j z d;refine P (h _ _ (f _ _ hL)) ?_;by_cases F:j<zs.length
   .rw[bBX F] at d;exact J h (J f (hR j z d))
   .rw[bBF (5)] at d;have n:j - zs.length=0:=by
     by_cases L:j - zs.length=0
     .exact L
     .rw[bAJ (by simp;lia)] at d;cases d
    have k:j=i:=by lia
    subst k;rw[n] at d;cases d;exact E
 .left;have e:i=xs.length:=by lia
  subst e;exact((sm.aG l,j6 _),q D _ zs (w.trans sm) hL hlz hR)
def bGv (h:VE X e te):VI X tg e (fun σ H R=>tL X.K te σ H R\/aQ2 X.K te σ H R):=⟨λa s σ H R I q=>q.elim (aTm h.1 a s σ H R I) (bBd h.1 a s σ H R I)⟩
def xY (b:X.A.units+1<cLine)(a:VE X o td)(hi:VE X i ty)(hs:bG1 i):VE X (.Subscript o i pos) (bFo td ty):=⟨bEp b a.1 hi.1 hs⟩
def bLa (K:bGC):R2:=λx y H Q=>∃(a b:Addr) (xs:List Str),x=.ref a/\y=.ref b/\SqL K H a (xs.map V.str)/\SqL K H b (xs.map V.str)/\Q (.bl false) H
def bGe (P:X.A.units<cLine):OpR X (compareOp .NotEq) (bLa X.K):=by
 intro t s σ H x y v u Q I B F h;have(a,b,c,rfl,rfl,r,L,q):=h;cases B;cases F;have(g,p,D,N):=I.list r;have(m,f,E,R):=I.list L;have w:=p.length;have M:=f.length;rw[d7] at w M;refine bFQ (e:=λ_=>true) D.isList E.isList (by rw[j7,j7];lia) P (λj J O=>?_) _ _ _ _ ?_
 .have d:j<c.length:=by rw[j7] at J;lia
  have(T,l,o,rfl):=p.get (i:=j) (x:=.str c[j]) (by rw[j5,b7 d];rfl);have(S,k,n,rfl):=f.get (i:=j) (x:=.str c[j]) (by rw[j5,b7 d];rfl);have G:g.toArray[j]=Value.str c[j] o:=by rw[bCH];exact (List.getElem?_eq_some_iff.mp l).2
  have C:m.toArray[j]=Value.str c[j] n:=by rw[bCH];exact (List.getElem?_eq_some_iff.mp k).2
  rw[G,C];have z:=bCR (A:=X.A.in1) (s:=s) c[j] o c[j] n;simpa using z
 .have z:(List.range g.toArray.size).all (λ_=>true)=true:=by rw[bCS];intro _ _;rfl
  rw[z];exact(.bl _,H,I,4,q)
def bDt {K:bGC}{t u:Addr}{xs ys:List V}{g:TG}{tb:TS}{D:Ends}{σ:St}{H:Hp}(j:Nat->St->Hp->Prop)(hxy:xs.length=ys.length)(n:j 0 σ H)(d:∀i σ H,i<=xs.length->j i σ H->SqT K H t xs/\SqT K H u ys)
  (hs:∀i σ H a b T H',xs[i]?=some a->ys[i]?=some b->j i σ H->H T=none->H'=upd H T (.tup [a,b])->g (.ref T) σ H' fun σ2 H2=>tb { D with nx:=j (i+1),ct:=j (i+1),bk:=D.nx } σ2 H2) (o:∀σ H,j xs.length σ H->D.nx σ H) :
  ∃W:Nat->Nat->St->Hp->Prop,(∃m,W 0 m σ H)/\∀i m σ H,W i m σ H ->
   ((Itz K t u xs ys).stop i H/\D.nx σ H)\/((Itz K t u xs ys).go i H/\∃N:St->Hp->Prop,(∀σ' H',N σ' H'->∃m',m'<m/\W (i+1) m' σ' H')/\∀x H',(Itz K t u xs ys).yld i H x H'->g x σ H' fun σ2 H2=>tb { D with nx:=N,ct:=N,bk:=D.nx } σ2 H2):=by
 exists λi m σ H=>m=xs.length - i/\i<=xs.length/\j i σ H,((xs.length,9,bAI _,n));rintro i m σ H ⟨rfl,hi,p⟩;by_cases c:i<xs.length
 .refine .inr (((d i σ H hi p).1,(d i σ H hi p).2,c,5),j (i+1),fun σ' H' k=>(xs.length - (i+1),54,c,k),λx H' y=>?_);have(T,a,b,h,rfl,e,f,l):=y;exact hs i σ H a b T H' f l p h e
 .have e:i=xs.length:=by lia
  subst e;exact .inl (((d _ σ H hi p).1,j6 _),o σ H p)
def zV (c:X.A.units+1<cLine)(hi:VE X i ty)(a:VE X o td)(b:behindInMarks .NotIn o=false:=by first|exact nobehind _ (6) (6)|rfl):VT X (.Compare i [.NotIn] [o] pos) (tB (aUe ty td)):=⟨bG9 (aVx c hi.1 a.1) b⟩
def vR {X:Cx}{K:bGC}(h:!(X.K=K)):OpR X (compareOp .NotIn) (rIn K true):=by subst h;exact iB
def sel {α:Type}(p:Nat->Bool):Nat->List α->List α
 |_,[]=>[]
 |i,x::r=>if p i then x::sel p (i+1) r else sel p (i+1) r
theorem aEa {α:Type}(p:Nat->Bool)(x:α):∀k xs,sel p k (xs++[x])=sel p k xs++(if p (k+xs.length) then [x] else [])
 |k,[]=>by show (if p k then x::sel p (k+1) [] else sel p (k+1) [])=[]++(if p (k+0) then [x] else []);rw[Nat.add_zero,bDH];rfl
 |k,y::r=>by
  show (if p k then y::sel p (k+1) (r++[x]) else sel p (k+1) (r++[x]))=(if p k then y::sel p (k+1) r else sel p (k+1) r)++_;rw[aEa p x (k+1) r,p8,show k+1+r.length=k+(r.length+1) by lia]
  split <;> rfl
theorem oY {α:Type}(p:Nat->Bool):∀(k:Nat) (xs:List α),(sel p k xs).length<=xs.length
 |_,[]=>j6 _
 |k,y::r=>by
  have:=oY p (k+1) r;show (if p k then y::sel p (k+1) r else sel p (k+1) r).length<=r.length+1
  split
  .rw[p8];lia
  .lia
def aL7 (xs:List V)(p:Nat->Bool)(d:L2.St)(t:Cap X scope N σ d)(hsz:xs.length<=sizeLine)
  (A:∀R:It->Hp->Prop,(∀J:It,(∀H' i x,Same H H'->xs[i]?=some x->J.go i H'/\∀y H2,J.yld i H' y H2->H2=H'/\y=x)->(∀H',Same H H'->J.stop xs.length H')->R J H)->wi σ H R)
  (B:∀(i:Nat) (x:V),xs[i]?=some x->∀H' R l,Same H H'->(∀H2,Same H' H2->R (p i) H2)->tt ((d.set 0 l).set 0 (some x)) H' R) (k:d[0]?=some none)
  (q:∀D H',Same H H'->H' D=some (.lst (sel p 0 xs))->Q (.ref D) H') :
  jB X scope N wi (cF 0) tt (wR 0) σ H Q:=by
 refine(d,t,A _ λJ go stop D j=>?_);exists λi m g H' f=>i<=xs.length/\m=xs.length - i/\(∃l,g=d.set 0 l)/\Same H H'/\H' D=some (.lst f)/\f=sel p 0 (xs.take i),(xs.length,bAI _,4,(none,gA k),bJ j _,aO,4);rintro i m g H' f ⟨hi,rfl,⟨l,rfl⟩,sm,hL,rfl⟩;exists hL;by_cases a:i<xs.length
 .right;have(r,s):=go H' i xs[i] sm (b7 a);refine(r,λx H2 u=>?_);have(rfl,rfl):=s x H2 u;unfold cF;dsimp only;have v:0<d.length:=by
   by_cases z:0<d.length
   .exact z
   .rw[bAJ (5)] at k;cases k
  have h:sel p 0 (xs.take (i+1))=sel p 0 (xs.take i)++(if p i then [xs[i]] else []):=by rw[bBE,b7 a];show sel p 0 (xs.take i++[xs[i]])=_;rw[aEa,bAK,bEP,bFD (bDJ a)]
  refine B i xs[i] (b7 a) _ _ l sm λw c=>?_;cases n:p i with
  |true=>
   rw[if_pos rfl];exists xs[i],by rw[bBH,bEK v],c _ _ hL,8,xs.length - (i+1),5,a,4,(some xs[i],by rw[bBH]),8,aO
   .have:=oY p 0 (xs.take i);rw[bAK] at this;lia
   .intro b o e;rw[bC (bV e j)];exact c _ _ (sm _ _ e)
   .rw[h,n];rfl
  |false=>rw[if_neg (9)];exists c _ _ hL,xs.length - (i+1),5,a,4,(some xs[i],by rw[bBH]),sm.trans c,c _ _ hL;rw[h,n];simp
 .left;have e:i=xs.length:=by lia
  subst e;exists stop _ sm;rw[bDR] at hL;exact q D _ sm hL
def bCn {X:Cx}{i0:Nat}{i:Str}{c spos:Pos}{T h f:Expr}{V:List Expr}{scope:Scope}{W:Pos}{N:List Str}{wi:TI}{g:TG}{tt:TT}{te:TE}
  (hN:X.N.Nodup) (M:X.N[i0]?=some i) (L:Loc X.env.scope i) (C:uG scope N) (O:∀y,(y,NameKind.free,)∈scope.names->X.env.kindOf y=some .cell\/X.env.kindOf y=some .free) (hc:X.calm=true)
  (hi:PI X h f wi)
  (E:∀cl s H fp,PG (cxC X N scope cl s H fp) h g/\aVz (cxC X N scope cl s H fp) V tt/\PE (cxC X N scope cl s H fp) T te)
  (hs:!(∀x,foldedSetIterable f X.env x=pure x,3)) (K:!(swapsWith (.ListComp T [(h,f,V,0)] scope W) (some (.Name i c)) spos.line X.env=pure true))
  (hf:!(X.fn i=true\/X.env.scope.names.lookup i=some .local,2)) :
  PS X (.Assign [.Name i c] (.ListComp T [(h,f,V,0)] scope W) spos) (kO (jB X scope N wi g tt te) (cF i0)):=by
 intro d s σ H Dn I p;rw[exec_Assign_Name_used _ _ _ _ K];refine b8 (wpAny_standAt (b8 ?_));show wpAny _ X.A (do let _ <-comprehension (.ListComp T [(h,f,V,0)] scope W) scope X.env _ (newList []) false (eval f X.env) (some (assign (.Name i c) X.env))) _ _ s;refine b8 (bBJ (aHb (use:=some (assign (.Name i c) X.env)) (QQ:=λ_ q=>SP X d Dn .next q) C O hc hi E hs I p λD u r k (U,l) n fp Y=>?_)
  (λ_ q p=>d9 (d9 p)) λ_ _ e=>e)
 have P:Inv X d σ r k:=n k.heap λ_ _ _ e=>e;have(Q,t,g2,S,B,Z):=fp;show wpAny (model X.prog X.w) X.A (assign (.Name i c) X.env (.ref D)) _ _ k;refine wpAny_assign_Name (aIh P hN M L (v:=.ref D) rfl (λF J (a,R,G)=>?_) hf);have j:u≠a:=by
  rcases G with z|z
  .rw[z];exact t
  .exact λe=>B i a z e.symm
 refine(U,l.sameBut R j,λh' m=>?_);exact(_,r,Inv.turned J (t':=F.toks) (it:=u) (λb o E e=>m.extBut b o E e) Q t S B Z,Y)
def lF
  (i:X.N.Nodup) (c:X.N[i0]?=some x0) (b:Loc X.env.scope x0) (C:uG scope N) (e:∀y,(y,NameKind.free,)∈scope.names->X.env.kindOf y=some .cell\/X.env.kindOf y=some .free) (f:X.calm=true)
  (hi:VI X target iter wi)
  (a:∀cl s H fp,VG (cxC X N scope cl s H fp) target g/\VF (cxC X N scope cl s H fp) ifs tt/\VE (cxC X N scope cl s H fp) elt te)
  (hs:!(∀x,foldedSetIterable iter X.env x=pure x,3)) (d:!(swapsWith (.ListComp elt [(target,iter,ifs,0)] scope pos) (some (.Name x0 pos')) spos.line X.env=pure true))
  (h:!(X.fn x0=true\/X.env.scope.names.lookup x0=some .local,2)) :
  VS X (.Assign [.Name x0 pos'] (.ListComp elt [(target,iter,ifs,0)] scope pos) spos) (kO (jB X scope N wi g tt te) (cF i0)):=
 ⟨bCn i c b C e f hi.1 (λcl s H fp=>((a cl s H fp).1.1,(a cl s H fp).2.1.1,(a cl s H fp).2.2.1)) hs d h⟩
section
variable {te:TE}{H:Hp}{Q:VK}
def aSb (xs:List V)(Rel:Nat->Hp->V->Prop)(A:∀{i H1 H2 y},Same H1 H2->Rel i H1 y->Rel i H2 y)(C:∀{i H1 D ys zs y},H1 D=some (.lst ys)->Rel i H1 y->Rel i (upd H1 D (.lst zs)) y)
  (v:St) (hsz:xs.length<=sizeLine)
  (J:It) (w:∀H' i x,Same H H'->xs[i]?=some x->J.go i H'/\∀y H2,J.yld i H' y H2->H2=H'/\y=x) (k:∀H',Same H H'->J.stop xs.length H')
  (E:∀(i:Nat) (x:V),xs[i]?=some x->∀H' R l,Same H H'->(∀y H2,Same H' H2->Rel i H2 y->R y H2)->te ((v.set 0 l).set 0 (some x)) H' R) (B:v[0]?=some none)
  (q:∀D H' ys,Same H H'->H' D=some (.lst ys)->ys.length=xs.length->(∀(i:Nat) (y:V),ys[i]?=some y->Rel i H' y)->Q (.ref D) H') :
  ∀D,H D=none->∃W:Nat->Nat->St->Hp->List V->Prop,(∃m,W 0 m v (upd H D (.lst [])) []) /\
   ∀i m σ' H' ys,W i m σ' H' ys->H' D=some (.lst ys)/\((J.stop i H'/\Q (.ref D) H')\/(J.go i H'/\∀x H2,J.yld i H' x H2->cF 0 x σ' H2 fun σ3 H3=>lO σ3 H3 λb H4=>
    if b=true then te σ3 H4 λy H5=>H5 D=some (.lst ys)/\ys.length<sizeLine/\∃m',m'<m/\W (i+1) m' σ3 (upd H5 D (.lst (ys++[y]))) (ys++[y]) else H4 D=some (.lst ys)/\∃m',m'<m/\W (i+1) m' σ3 H4 ys)):=by
 intro D h;exists λi m σ' H' ys=>i<=xs.length/\m=xs.length - i/\(∃l,σ'=v.set 0 l)/\Same H H'/\H' D=some (.lst ys)/\ys.length=i/\∀j y,ys[j]?=some y->Rel j H' y,((xs.length,bAI _,4,(none,gA B),bJ h _,aO,4,λj y e=>by simp at e));rintro i m σ' H' ys ⟨hi,rfl,⟨l,rfl⟩,sm,hL,hl,hR⟩;exists hL;by_cases a:i<xs.length
 .right;have(n,p):=w H' i xs[i] sm (b7 a);refine(n,λx H2 r=>?_);have(rfl,rfl):=p x H2 r;unfold cF lO;dsimp only;rw[if_pos rfl];refine E i xs[i] (b7 a) _ _ l sm λy H3 d s=>(d _ _ hL,5,xs.length - (i+1),5,a,4,(some xs[i],8),8,aO,88)
  .rw[bBH]
  .intro b o e;rw[bC (bV e h)];exact d _ _ (sm _ _ e)
  .rw[w6,bBG,hl]
  .intro j z c;refine C (d _ _ hL) ?_;by_cases t:j<ys.length
   .rw[bBX t] at c;exact A d (hR j z c)
   .rw[bBF (5)] at c;have f:j - ys.length=0:=by
     by_cases u:j - ys.length=0
     .exact u
     .rw[bAJ (by simp;lia)] at c;cases c
    have g:j=i:=by lia
    subst g;rw[f] at c;cases c;exact s
 .left;have e:i=xs.length:=by lia
  subst e;exact(k _ sm,q D _ ys sm hL hl hR)
end
section
variable {K:bGC}
def aSu (d:∀H',Same H H'->SqL K H' a xs):∀H' i x,Same H H'->xs[i]?=some x->(Itl K a).go i H'/\∀y H2,(Itl K a).yld i H' y H2->H2=H'/\y=x:=λH' i x s e=>
 ((xs,x,d H' s,e),λy H2 g=>by have(c,f):=g;have b:=f xs (d H' s);rw[e] at b;cases b;exact(c,4))
def aD0 (b:∀H',Same H H'->SqL K H' a xs):∀H',Same H H'->(Itl K a).stop xs.length H':=λH' s=>(xs,b H' s,j6 _)
end
section
variable {X:Cx}{K:bGC}{scope:Scope}{N:List Str}{tl te:TE}{σ:L2.St}{H:Hp}{Q:VK}
def zN (Pr:List V->Prop)(Rel:Nat->Hp->V->Prop)(k:∀{i H1 H2 y},Same H1 H2->Rel i H1 y->Rel i H2 y)(n:∀{i H1 D ys zs y},H1 D=some (.lst ys)->Rel i H1 y->Rel i (upd H1 D (.lst zs)) y)
  (g:L2.St) (h:Cap X scope N σ g) (m:g[0]?=some none)
  (j:∀R:VK,(∀D H1 us,Same H H1->H1 D=some (.lst us)->Pr us->R (.ref D) H1)->tl σ H R)
  (f:∀us,Pr us->us.length<=sizeLine)
  (o:∀us,Pr us->∀(i:Nat) (x:V),us[i]?=some x->∀H' R l,Same H H'->(∀y H2,Same H' H2->Rel i H2 y->R y H2)->te ((g.set 0 l).set 0 (some x)) H' R)
  (q:∀us,Pr us->∀D H' ys,Same H H'->H' D=some (.lst ys)->ys.length=us.length->(∀(i:Nat) (y:V),ys[i]?=some y->Rel i H' y)->Q (.ref D) H') :
  jB X scope N (tL K tl) (cF 0) lO te σ H Q:=
 (g,h,j _ λD H1 us c b p=>(D,4,(us,SqL.of b),aSb us Rel k n g (f us p) (Itl K D) (aSu λH' a=>SqL.of (a _ _ b)) (aD0 λH' a=>SqL.of (a _ _ b))
  (λi x d H' R l a r=>o us p i x d H' R l (c.trans a) r) m λe H' ys a=>q us p e H' ys (c.trans a)))
end
def SqT.jK {K:bGC}{H:Hp}{a D:Addr}{xs ys zs:List V}(b:H D=some (.lst ys))(h:SqT K H a xs):SqT K (upd H D (.lst zs)) a xs:=by
 rcases h with (h|⟨o,h⟩)|h
 .exact .inl (.inl (by rw[bC (aHg h b (by intro z;cases z))];exact h))
 .exact .inl (.inr (o,by rw[bC (aHg h b (by intro z;cases z))];exact h))
 .exact .inr h
end L2
namespace PySem
end PySem
namespace L2
open PySem PySem.Spec PyProof.Rows
def classAt:Stmt->Nat->Stmt
 |.ClassDef _ _ _ body _ _ _ _ _ _ _,j=>body.getD j (.Pass (0,0,0,0))
 |st,_=>st
structure bEd (K:bGC)(mg:bGF)(x:Str)(C:Addr):Prop where
 at_:mg x=some (.ref C)
 cls:Cls K C
 mks:PySem.W.makesIn K C=true
 kp:PySem.W.keepIn K (.ref C)=true
def aFy (K:bGC)(C:Addr)(m qual:Str)(st:Stmt)(ps:List Str):Prop:=∃f fd,Meth K C m f/\Fun K m qual st f fd/\Binds K fd ps []
section
variable {P:Program}{w:World}{K:bGC}{mg:bGF}{base:Heap}
def OkM (P:Program)(w:World)(K:bGC)(mg:bGF)(base:Heap)(C:Addr)(k:Nat)(m:Str)(ps:List Str)(sp:Sp):Prop:=
 ∃f fd,Cls K C/\Meth K C m f/\Binds K fd ps []/\!mZ CX0 k f fd ps sp
def OkM.mono (h:!OkM C j m ps sp)(g:j<=k):!OkM C k m ps sp:=by have(f,b,e,c,a,d):=h;exact(f,b,e,c,a,d.mono g)
def OkM.ofV {C:Addr}{m qual:Str}{st:Stmt}{N ps:List Str}{k:Nat}{sp:Sp}(c:Cls K C)(D:aFy K C m qual st ps)(S:aN N ps (aD st))(e:∀vs H Q E,sp vs H Q E->vs.length=ps.length)
  (a:∀(f:Addr) (cdv:Value) (A:Around) (outer:List Env) (s:Shared) (H:Hp) (vs:List V) (Q:VK) (E:XK),Room k (A.deeper (envOfC qual (aD st) s.heap.objs.size f cdv))->sp vs H Q E ->
   ∃t,VSs (aBj CX0 P w K mg base N qual (aD st) f cdv A outer s H E).nox (iG st) t/\t { nx:=λ_ H'=>Q .non H',rt:=Q } (start N vs) H):!OkM C (k+1) m ps sp:=by
 have(f,d,b,F,B):=D;exact(f,d,c,b,B,Fun.okV F S e λcdv A outer s H vs Q E g h=>a f cdv A outer s H vs Q E g h)
def OkC (P:Program)(w:World)(K:bGC)(mg:bGF)(base:Heap)(C:Addr)(k:Nat)(x:Str)(ps:List Str)(sp:Sp):Prop:=
 ∃f fd,mg x=some (.ref C)/\Mk K C f/\Binds K fd ps []/\!mZ CX0 k f fd ps sp
def OkC.mono (h:!OkC C j x ps sp)(g:j<=k):!OkC C k x ps sp:=by have(f,b,e,c,a,d):=h;exact(f,b,e,c,a,d.mono g)
def OkM.make (c:bEd K mg x C)(h:!OkM C k "__init__" ps sp):!OkC C k x ps sp:=by have(f,d,g,a,b,e):=h;exact(f,d,c.at_,(c.mks,a.at_,a.fn,c.kp),b,e)
end
section
variable {X:Cx}{e o value:Expr}{es:List Expr}{f m x:Str}{p pos pos' apos:Pos}{t:TA}{C:Addr}{k:Nat}{ps:List Str}{sp:Sp}
def aR5 {K:bGC}(b:VE X e ta)(a:!(attributeBase e f X.env (eval e X.env)=eval e X.env))(h:!(X.K=K)):VE X (.Attribute e f pos) (bKm K ta f):=by subst h;exact⟨bHd b.1 a⟩
def aY0 {K:bGC}(a:VE X o ta)(b:VE X value tv)(hs:!(swapsWith value (some (.Attribute o f pos')) pos.line X.env=pure false))(h:!(X.K=K)):VS X (.Assign [.Attribute o f pos'] value pos) (bJs K ta tv f):=by subst h;exact⟨bGn a.1 b.1 hs⟩
def bEn (G:OkM X.prog X.w X.K X.mg X.base C k m ps sp)(h:Room k X.A)(p:VE X o ta)(i:VA X (e::es) t)
  (l:!(fJ e=true)) (c:!((backTo pos (starEach es X.env)).any (·.1)=false))
  (n:!(eval (.Call (.Attribute o m apos) (e::es) [] pos) X.env=(do
   let ov <-eval o X.env
   standAt apos.atName
   let (f,first,) <-holding [ov] (getMethod ov m pl)
   callWith pos f first (backTo pos (starEach (e::es) X.env)) (backToKw pos (keywordEach [] X.env))))):VE X (.Call (.Attribute o m apos) (e::es) [] pos) (aOg C m sp [] E0 ta t):=by
 have(f,j,b,d,a,g):=G;exact⟨bDq p.1 b d g h a .nil aOx i.1 (bO l) c n⟩
def aEj (G:OkM X.prog X.w X.K X.mg X.base C k m ps sp)(e:Room k X.A)(i:VE X o ta)
  (h:!(eval (.Call (.Attribute o m apos) [] [] pos) X.env=(do
   let ov <-eval o X.env
   standAt apos.atName
   let (f,first,) <-holding [ov] (getMethod ov m pl)
   callWith pos f first (backTo pos (starEach [] X.env)) (backToKw pos (keywordEach [] X.env))))):VE X (.Call (.Attribute o m apos) [] [] pos) (aOg C m sp [] E0 ta aJl):=by
 have(f,g,b,c,a,d):=G;exact⟨bBi i.1 b c d e a .nil aOx h⟩
def bCx (G:OkC X.prog X.w X.K X.mg X.base C k x ps sp)(i:Room (k+1) X.A)(n:Gl X x)(j:VA X (e::es) t)(a:!((x == ("__debug__":Str))=false,1))(m:!(fJ e=true))(d:!((backTo pos (starEach es X.env)).any (·.1)=false)) :
  VE X (.Call (.Name x p) (e::es) [] pos) (bE1 C sp [] E0 t):=by
 have(f,l,c,g,b,h):=G;exact⟨bCz g h i n c b .nil aOx j.1 a (bO m) d⟩
end
def aGy (w:World)(K:bGC)(d:Addr)(kvs:List (Str × V)):Prop:=∃o us,K.lookup d=some o/\(d == sysModules)=false/\Vals (kvs.map (·.2)) us/\∀P:Program,o.IsDictOf (strKind P w) ((kvs.map (·.1)).zip us)
def aLy:∀{kvs:List (Str × V)} {us:List Value},Vals (kvs.map (·.2)) us ->
  ((kvs.find? λq=>decide (q.1=k))=none/\valueAt ((kvs.map (·.1)).zip us) k=none)\/∃q u,(kvs.find? λq=>decide (q.1=k))=some q/\valueAt ((kvs.map (·.1)).zip us) k=some u/\RelV q.2 u:=by
 intro kvs
 induction kvs with
 |nil=>intro us h;cases h;exact .inl (44)
 |cons p r ih=>intro us h;cases h with
  |cons h t=>
   unfold valueAt;rw[bAE,bDV,bBA,bBA];by_cases e:p.1=k
   .rw[j4 e];exact .inr (12,h)
   .rw[j9 e];exact ih t
def aGy.rd (I:Inv X bGG σ H s)(h:aGy X.w X.K d kvs):∃us,Vals (kvs.map (·.2)) us/\(d == sysModules)=false/\s.heap.DictOf (strKind X.prog X.w) d ((kvs.map (·.1)).zip us):=by have(o,us,b,a,c,e):=h;exact(us,c,a,Heap.dictOf_iff.mpr (o,I.kIn _ _ b,e _))
def bLo (w:World)(K:bGC):R2:=λx y H Q=>∃d kvs k p,x=.ref d/\y=.str k/\aGy w K d kvs/\(kvs.find? λq=>decide (q.1=k)).map (·.2)=some p/\Q p H
def aS9:IxR X (bLo X.w X.K):=by
 intro b c g s σ H x y v u Q I j i h o;have(d,m,k,p,rfl,rfl,n,a,q):=h;cases j;have(t,rfl):=i;have(r,l,_,f):=n.rd I;rcases aLy l with⟨e,_⟩|⟨z,z',e,e',rz⟩
 .rw[e] at a;cases a
 .rw[e] at a;cases a;exact tail_any f.typeIs slot_dict_getitem.lookup (wpAny_getItem_of (strKind_is _ _ _ _) f.mapOf e' (z.2,H,I.tok _,rz,q)) o
def bK2 (w:World)(K:bGC):R2:=λx y H Q=>∃d kvs k,x=.str k/\y=.ref d/\aGy w K d kvs/\Q (.bl (kvs.find? λq=>decide (q.1=k)).isSome) H
def aSe:OpR X (compareOp .In) (bK2 X.w X.K):=by intro c s σ H x y v u Q I g f h;have(d,l,k,rfl,rfl,m,q):=h;cases f;have(t,rfl):=g;have(n,j,i,b):=m.rd I;refine wpAny_in_of (strKind_is _ _ _ _) i b.mapOf (.bl _,H,I.tok _,8,q);rcases aLy j with⟨e,a⟩|⟨z,z',e,a,_⟩ <;> rw[e,a] <;> rfl
def bKb (w:World)(K:bGC):List V->Hp->VK->Prop:=λxs H Q=>∃d kvs,xs=[.ref d]/\aGy w K d kvs/\kvs.length<=1000/\∀p H',Same H H'->H' p=some (.tup (kvs.map λq=>V.str q.1))->Q (.ref p) H'
def aHa (J:X.calm=true):cZ X (.type "tuple") (bKb X.w X.K):=by
 intro l s σ H M N Q I r h;have(d,a,rfl,D,A,q):=h;have(u,rfl,E):=vals1 r;cases E;have(i,n,C,B):=D.rd I;have z:((a.map (·.1)).zip i).map (·.1)=a.map (·.1):=List.map_fst_zip (by have:=n.length;rw[d7] at this ⊢;lia);have m:((a.map (·.1)).zip i).length<=1000:=by rw[<-d7 (f:=(·.1)),z,d7];exact A
 refine callType_newIn F.called_tuple (6) (F.typeCall_tuple_1 _) (F.newCall_tuple_1 _) (λp=>F.args_object_init_2 p _) F.entry_tuple_new
  (uA d _ C (small m)) (I.ok.hd J,B,λy t c kp g=>((_,m5 _ rfl,4),8))
 have k:=aW0 ((a.map (·.1)).zip i) c.toList (by rw[bAD];exact g.1) λj v e=>g.2 j v (by rw[<-bBS];exact e);rw[show (((a.map (·.1)).zip i).map λq=>V.str q.1)=(((a.map (·.1)).zip i).map (·.1)).map V.str from by rw[bBN];rfl,z,bBN] at k;have k:Vals (a.map λq=>V.str q.1) c.toList:=k;have x:Inv X l σ H { s with heap:=y,toks:=t }:=I.kept (t':=t) kp;refine(.ref y.objs.size,_,x.laid (t':=t) (o:=.tup (a.map λq=>V.str q.1)) (λb L e=>c7 _ e) (j6 _) ?_,4,q _ _ (bJ (x.hok.fresh (j6 _)) _) aO);have G:c.toList.toArray=c:=by simp
 exists small (by rw[d7];exact A),c.toList,k;rw[G];exact .of (m5 _ rfl) rfl (_,m5 _ rfl,43)
end L2
namespace PySem
def Ris (xs:Array Nat):Prop:=∀a b (ha:a<xs.size) (hb:b<xs.size),a<b->xs[a]<xs[b]
def bAg (i:Ris xs):∀fuel lo hi,hi - lo<=fuel->lo<=hi->hi<=xs.size->(∀k h,k<lo->xs[k]<j)->(∀k h,hi<=k->j<=xs[k]) ->
  SetTable.below.go xs j fuel lo hi<=xs.size/\(∀k (h:k<xs.size),k<SetTable.below.go xs j fuel lo hi->xs[k]<j)/\∀k (h:k<xs.size),SetTable.below.go xs j fuel lo hi<=k->j<=xs[k]:=by
 intro d
 induction d with
 |zero=>
  rintro lo hi hf h1 h2 h3 h4;have e:lo=hi:=by lia
  subst e;exact(h2,h3,h4)
 |succ fuel ih=>
  rintro lo hi hf h1 h2 h3 h4;unfold SetTable.below.go
  split
  .rename_i g;have n:(lo+hi) / 2<hi:=by lia
   have m:lo<=(lo+hi) / 2:=by lia
   have a:(lo+hi) / 2<xs.size:=by lia
   dsimp only;rw[bAU,bAC a,bDD]
   split
   .rename_i b;refine ih _ _ (5) (5) h2 (λk c f=>?_) h4;by_cases e:k=(lo+hi) / 2
    .subst e;exact b
    .exact bEO (i k _ c a (5)) b
   .rename_i b;refine ih _ _ (5) (5) (5) h3 λk c l=>?_;by_cases e:k=(lo+hi) / 2
    .subst e;lia
    .exact bAM (Nat.le_of_not_lt b) (bDJ (i _ k a c (5)))
  .have e:lo=hi:=by lia
   subst e;exact(h2,h3,h4)
def zA (b:Ris xs)(j:Nat):SetTable.below xs j<=xs.size/\(∀k h,k<SetTable.below xs j->xs[k]<j)/\∀k h,SetTable.below xs j<=k->j<=xs[k]:=
 bAg b xs.size 0 xs.size (5) (bAI _) (j6 _) (λk _ h=>absurd h (bFE _)) (λk a c=>absurd a (5))
def aGz {α:Type}(xs:Array α)(p:Nat)(x:α)(hp:p<=xs.size):(SetTable.insertAt xs p x).toList=xs.toList.take p++x::xs.toList.drop p:=by unfold SetTable.insertAt;rw[bDN,bFV,Array.toList_extract,Array.toList_extract];simp only[List.extract_eq_drop_take,List.drop_zero,Nat.sub_zero,bCY,List.singleton_append];have e:(xs.toList.drop p).take (xs.size - p)=xs.toList.drop p:=bBB (by rw[bBK,bAD];exact j6 _);rw[e]
def aL0 {xs:Array Nat}:Ris xs↔xs.toList.Pairwise (·<·):=by
 rw[List.pairwise_iff_getElem];unfold Ris;constructor
 .intro h i j k f c;exact h i j (by simpa using k) (by simpa using f) c
 .intro h a b e g d;exact h a b (by simpa using e) (by simpa using g) d
def aCo {xs:Array Nat}{j:Nat}(n:Ris xs)(hn:xs[SetTable.below xs j]?≠some j):Ris (SetTable.insertAt xs (SetTable.below xs j) j):=by
 have(o,q,l):=zA n j;rw[aL0,aGz _ _ _ o,List.pairwise_append,List.pairwise_cons];have m:=aL0.mp n;have below:∀a∈xs.toList.take (SetTable.below xs j),a<j:=λa d=>by
  have(i,k,rfl):=bBZ d;rw[List.getElem_take];rw[bAK] at k;have f:i<xs.toList.length:=by lia
  exact q i (by simpa using f) (5)
 have c:∀a∈xs.toList.drop (SetTable.below xs j),j<a:=λa d=>by
  have(i,k,rfl):=bBZ d;rw[List.getElem_drop];rw[bBK] at k;have e:SetTable.below xs j+i<xs.toList.length:=by lia
  have g:SetTable.below xs j+i<xs.size:=by simpa using e
  have p:=l _ g (bBW _ _);rw[Array.getElem_toList];rcases Nat.lt_or_eq_of_le p with h|h
  .exact h
  .exfalso;cases i with
   |zero=>exact hn ((bAC g).trans (congrArg some h.symm))
   |succ i=>
    have hb:SetTable.below xs j<xs.size:=by lia
    have r:=l _ hb (j6 _);have s:=n _ _ hb g (5);lia
 refine(m.sublist (bCX _ _),(c,m.sublist (bFW _ _)),λa d b hb=>?_);rcases List.mem_cons.mp hb with rfl|hb
 .exact below a d
 .exact bEO (below a d) (c b hb)
def aRw {t:SetTable}{j:Nat}(h:t.slot j=.empty):t.place[SetTable.below t.place j]?≠some j:=by unfold SetTable.slot at h;intro e;simp[e] at h
def aI3 {t:SetTable}(a:t.dummies=#[])(j:Nat):t.slot j≠.dummy:=by
 unfold SetTable.slot;rw[a];dsimp only
 split
 .intro z;cases z
 .have:SetTable.has #[] j=false:=by unfold SetTable.has;simp
  rw[this];intro z;cases z
def aX6 {t:SetTable}{g:Nat->Int}{h:Int}(f:t.dummies=#[]):∀(fuel:Nat) (p:SetTable.Probe) (j:Nat) (dm:Option Nat),p.dummy=none->SetTable.probe.go t g h fuel p=some (.empty j dm)->dm=none/\t.slot j=.empty:=by
 intro d
 induction d with
 |zero=>rintro p j dm _ e;cases e
 |succ fuel ih=>
  rintro p j dm hp e;unfold SetTable.probe.go at e;have b:∀q:SetTable.Probe,q.dummy=none->(t.advance q).dummy=none:=λq c=>by
   unfold SetTable.advance
   split
   .exact c
   .exact c
  split at e
  .rename_i a;cases e;exact(hp,a)
  .rename_i a;exact absurd a (aI3 f _)
  .split at e
   .cases e
   .exact ih _ j dm (b p hp) e
set_option tactic.hygienic true in
def aNz {t:SetTable}{h:Int}{j:Nat}{b:Bool}(f:t.dummies=#[])(e:t.freeSlot h=some (j,b,)):t.place[SetTable.below t.place j]?≠some j:=by
 unfold SetTable.freeSlot at e
 split at e
 .rename_i g d a;unfold SetTable.probe at a;have(rfl,c):=aX6 f _ _ _ _ rfl a;cases e;exact aRw c
 .cases e
def TabOk (b:Bool)(t:SetTable):Prop:=(b=false->t.led=true)/\t.dummies=#[]/\7<=t.mask/\(t.plain=true->Ris t.place)
def TabOk.stand {b:Bool}{t:SetTable}{n:Nat}(h:TabOk b t)(hn:1<=n):TabOk b (t.standIn n):=(h.1,4,by show 7<=4 * n+4;lia,λz=>by cases z)
def TabOk.off (h:TabOk b t):TabOk b { t with plain:=false }:=(h.1,h.2.1,h.2.2.1,λz=>by cases z)
set_option tactic.hygienic true in
def TabOk.new {b:Bool}{t:SetTable}{es:Array (Int × Value)}{h:Int}{x:Value}(c:TabOk b t):TabOk b (layNew t es h x).2.1:=by
 unfold layNew
 split
 .rename_i a g e;have f:=aNz c.2.1 e;dsimp only[SetTable.put];have d:(if SetTable.has t.dummies a=true then SetTable.eraseAt t.dummies (SetTable.below t.dummies a) else t.dummies)=#[]:=by
   rw[c.2.1];have:SetTable.has #[] a=false:=by unfold SetTable.has;simp
   rw[this];rfl
  rw[d];unfold SetTable.orStandIn
  split
  .exact(c.1,4,c.2.2.1,λz=>aCo (c.2.2.2 z) f)
  .refine TabOk.stand (c.1,4,c.2.2.1,λz=>aCo (c.2.2.2 z) f) ?_;unfold SetTable.insertAt;simp only[Array.size_append,Array.size_push,Array.size_extract];lia
 .exact c.stand (Nat.succ_le_succ (bAI _))
def TabOk.room (c:TabOk b t)(a:t.fits n=true)(hn:n<=4):t.tooFull=false:=by unfold SetTable.fits at a;rw[bAX,beq_iff_eq] at a;unfold SetTable.tooFull SetTable.fill;rw[a.1,c.2.1];have:=c.2.2.1;simp only[Array.size_empty,Nat.add_zero,decide_eq_false_iff_not];lia
def aBc {α β:Type}{R:α->β->Prop}{bs' bs:List β}(p:bs'.Perm bs):∀{as:List α},Paired R as bs->∃as',Paired R as' bs'/\as'.Perm as:=by
 induction p with
 |nil=>intro as h;exact(as,h,.refl _)
 |cons x _ ih=>
  intro as h;cases h with
  |cons r t=>have(as',a,b):=ih t;exact(_,.cons r a,b.cons _)
 |swap x y l=>
  intro as h;cases h with
  |cons r t=>
   cases t with
   |cons r2 t2=>exact(_,.cons r2 (.cons r t2),.swap ..)
 |trans _ _ ih1 ih2=>intro as h;have(f,a,b):=ih2 h;have(d,c,e):=ih1 a;exact(d,c,e.trans b)
def aOl {α β:Type}{R:α->β->Prop}{as:List α}{bs:List β}{a:α}{b:β}(h:Paired R as bs)(r:R a b):Paired R (as++[a]) (bs++[b]):=by
 induction h with
 |nil=>exact .cons r .nil
 |cons q _ ih=>exact .cons q ih
def aO8 {α β:Type}{R:α->β->Prop}{as:List α}{bs:List β}(h:Paired R as bs):∀a∈as,∃b∈bs,R a b:=by
 induction h with
 |nil=>intro a ha;cases ha
 |cons q _ ih=>
  intro a ha;rcases List.mem_cons.mp ha with rfl|ha
  .exact(_,v7,q)
  .have(b,c,r):=ih a ha;exact(b,j8 _ c,r)
def aA3 {α β:Type}{R:α->β->Prop}{as:List α}{bs:List β}(h:Paired R as bs):∀b∈bs,∃a∈as,R a b:=by
 induction h with
 |nil=>intro a c;cases c
 |cons q _ ih=>
  intro b hb;rcases List.mem_cons.mp hb with rfl|hb
  .exact(_,v7,q)
  .have(a,c,r):=ih b hb;exact(a,j8 _ c,r)
section
variable {prog:Program}{w:World}{κ:Type}[DecidableEq κ]{knd:KeyKind prog w κ}{A:Around}{E:bGD}{s:Shared}
def byT (w:World):Bool:=w.params.followText "set-order"
abbrev ElK (knd:KeyKind prog w κ):κ->Int × Value->Prop:=λk e=>knd.is k e.2=true/\e.1=knd.hash k/\e.2.scannable=true
def xX (knd:KeyKind prog w κ)(h:Heap)(D:Addr)(kl:List κ):Prop:=∃o es ep t,h.get? D=some o/\o.ExactSet/\o.data=.set es ep t/\t.fits es.size=true/\TabOk (byT w) t/\Paired (ElK knd) kl es.toList
def xX.at (x:xX knd h D kl)(e:∀o,h.get? D=some o->h'.get? D=some o):xX knd h' D kl:=by have(o,a,c,t,b,r):=x;exact(o,a,c,t,e o b,r)
def bBk (v:knd.is k x=true)(K:x.scannable=true)(hS:xX knd s.heap D kl)(hroom:kl.length<4)
  (h:∀h' kl' b,Heap.SameBut D s.heap h'->xX knd h' D kl'->kl'.Perm (if k∈kl then kl else kl++[k])->Q b { s with heap:=h' }):wpAny (model prog w) A (setAddHashed D x (knd.hash k)) Q E s:=by
 have(o,l,ep,t,B,G,p,W,H,n):=hS;have hn:kl.length=l.size:=by rw[Paired.length n,bAD]
 have C:ElemsOf knd l.toList:=λe Y=>by have(V,_,y,r2,r3):=aA3 n e Y;exact((V,y,r2),r3)
 have hb:l.size<scanBound:=by unfold scanBound;lia
 unfold setAddHashed setAddHashedIn;refine bBC (b8 (bDK B p W ?_));dsimp only;rw[byScan_of K hb C];simp only[↓reduceIte];unfold setAddByScan;refine b8 (b8 (bFO (b8 (wpAny_setScan_of v B p W C ?_))));cases hr:List.findIdx? (λe=>knd.is k e.2) l.toList with
 |some j=>
  dsimp only;have(hj,T,_):=List.findIdx?_eq_some_iff_getElem.mp hr;have(V,M,y,_):=aA3 n _ (bAR hj);have O:k∈kl:=by rw[knd.inj _ k V T y];exact M
  refine d9 (d9 ?_);have e:s={ s with heap:=s.heap }:=by cases s;rfl
  rw[e];exact h s.heap kl _ (Heap.SameBut.refl D s.heap) (o,l,ep,t,B,G,p,W,H,n) (by rw[if_pos O])
 |none=>
  dsimp only;have J:k∉kl:=λz=>by have(e,Y,y,_):=aO8 n k z;have:=List.findIdx?_eq_none_iff.mp hr e Y;rw[y] at this;cases this
  have N:∀b {g:Shared} {U:Unit->Shared->Prop},U () g->wpAny (model prog w) A (match b with|true=>rule "set.scan.the-table-gave-way"|false=>pure ()) U E g:=λb g U hq=>match b with
   |true=>bFO hq
   |false=>d9 hq
  have a:=layNew_perm t l (knd.hash k) x;have c:=layNew_fits t l (knd.hash k) x;have d:TabOk (byT w) (layNew t l (knd.hash k) x).2.1:=H.new;generalize hL:layNew t l (knd.hash k) x=L at a c d ⊢;have(f,P,u,a0):=L;dsimp only at a c d ⊢;rw[bFV] at a;have(kl',X,pm):=aBc a (aOl n (show ElK knd k (knd.hash k,x,) from (v,4,K)));have a1:f.size=l.size+1:=by rw[<-bAD,a.length_eq,w6,bAD];rfl
  refine b8 (N _ ?_);have F:∀i:SetTable,TabOk (byT w) i->i.fits f.size=true->∀(R:Option Bool->Shared->Prop),(∀h',Heap.SameBut D s.heap h'->xX knd h' D kl'->R (some true) { s with heap:=h' }) ->
    wpAny (model prog w) A (storeSet D f i) (λ_ g=>i.tooFull=false/\R (some true) g) E s:=λi Z f2 R hR=>by
   refine wpAny_storeSet_of B p (Z.room f2 (5),8) (fits_of_scanBound (by unfold scanBound;lia));have hg:=bCO (Obj.putSet f i) B (by rw[putSet_of f i p];rfl);rw[putSet_of f i p] at hg;exact hR _ (bCJ s.heap D (Obj.putSet f i)) (_,f,ep+1,i,hg,G,4,f2,Z,X)
  have m:∀h',Heap.SameBut D s.heap h'->xX knd h' D kl'->Q true { s with heap:=h' }:=λh' I q=>h h' kl' true I q (by rw[if_neg J];exact pm)
  split
  .refine b8 ?_;rw[hashByValue_scannable 8 K];refine d9 ?_;refine b8 (bBJ (F (if plainKind x=true then P else { P with plain:=false }) (by split;exact d;exact d.off) (by split;exact c;exact SetTable.fits_plain_off c) (λr g=>wpAny (model prog w) A (match r with|some b=>pure b|none=>unsupported "x") Q E g) λh' I q=>d9 (m h' I q)) (λ_ g (S,q)=>?_) λ_ _ z=>z);rw[S];simp only[bFN,bCE,↓reduceIte];exact d9 q
  .refine b8 (d9 ?_);simp only[↓reduceIte];refine b8 (bBJ (F P d c (λr g=>wpAny (model prog w) A (match r with|some b=>pure b|none=>unsupported "x") Q E g) λh' I q=>d9 (m h' I q)) (λ_ g (S,q)=>?_) λ_ _ z=>z);rw[S];simp only[bFN,bCE,↓reduceIte];exact d9 q
def Ded (kl xs:List κ):Prop:=kl.Nodup/\(∀k,k∈kl↔k∈xs)/\kl.length<=xs.length
def Ded.more {l kl' xs:List κ}{k:κ}(h:Ded l xs)(p:kl'.Perm (if k∈l then l else l++[k])):Ded kl' (xs++[k]):=by
 have(f,d,i):=h;by_cases c:k∈l
 .rw[if_pos c] at p;refine(p.nodup_iff.mpr f,λy=>?_,by rw[p.length_eq,w6];lia);rw[p.mem_iff,d,bFF,bBU];exact(.inl,λz=>z.elim id λe=>e ▸ (d k).mp c)
 .rw[if_neg c] at p;refine(p.nodup_iff.mpr (List.nodup_append.mpr (f,9,λa j b g e=>?_)),λy=>?_,by rw[p.length_eq,w6,w6];exact Nat.add_le_add_right i _)
  .rw[bBU] at g;exact c (g ▸ e ▸ j)
  .rw[p.mem_iff,bFF,bFF,d]
def aYm (d:h.get? D=some (dR (!byT w))):xX knd h D []:=by refine(_,#[],0,_,d,(24),44,(λe=>?_,4,j6 _,λ_=>λa b c=>absurd c (by show ¬ (a<0);lia)),.nil);rw[e];rfl
def aM2 (a:Value)(h:Q₁ (.ref s.heap.objs.size) { s with heap:=s.heap.push (dR (!byT w)) }):codeAny (model prog w) A (.call (.builtin "set.__new__") ([.type "set",a],[])) (wants Q₁ E) s:=by have b:=sub_set_self;refine codeAny_of_tree (show wpAny _ A.in1 (do checkBuiltinCall "set.__new__" ([.type "set",a],[]);again (.builtin "set.__new__" ([.type "set",a],[]))) _ _ s from b8 (wpAny_of_eq (F.newCall_set_1 a) (d9 (bCU F.plain_set_new _,bBP F.entry_set_new ?_))));rw[bBD F.plain_set_new _];unfold Builtin.«set.__new__» Builtin.Frozenset.newClass;have(f,g,d,e,c):=s;dsimp only;wp_walk;refine bDT (d9 ?_);dsimp only;simp only[newObj];exact b8 (wpAny_alloc (d9 (d9 h)))
def Ex (h0 h:Heap):Prop:=∀b o,h0.get? b=some o->h.get? b=some o
structure Kset (prog:Program)(w:World)(κ:Type)[DecidableEq κ](A:Around)(h0:Heap)(D:Addr)(S:Heap->List κ->Prop)(V:κ->Value->Prop)(m:Nat):Prop where
 at_:∀{h h':Heap} {kl:List κ},S h kl->(∀o,h.get? D=some o->h'.get? D=some o)->S h' kl
 add:∀{A':Around} {E:bGD} {s:Shared} {kl:List κ} {k:κ} {v:Value} {Q:Bool->Shared->Prop},A'.units<=A.units+9->Ex h0 s.heap->V k v->S s.heap kl->kl.length<m->(∀h' tk kl' b,Heap.SameBut D s.heap h'->S h' kl'->kl'.Perm (if k∈kl then kl else kl++[k])->Q b { s with heap:=h',toks:=tk })->wpAny (model prog w) A' (setAdd D v) Q E s
 new:∀{h:Heap},h.get? D=some (dR (!byT w))->S h []
variable {h0:Heap}
def aWr (W:Walks prog w A.in1 I fp wr n P St)(Q:D∉fp)(Z:Kset prog w κ A0 h0 D S V m)(hA:A.units+1<=A0.units+9)(Y:∀b∈D::wr,h0.get? b=none)
  (ks:List κ) (J:ks.length=n) (E:∀i v,P i v->∃k,ks[i]?=some k/\V k v) (U:n<=m) :
  ∀k i s kl,i+k=n->St i s.heap->Ex h0 s.heap->S s.heap kl->Ded kl (ks.take i) ->
   (∀h' tk kl',(∀b o,b∉D::wr->s.heap.get? b=some o->h'.get? b=some o)->S h' kl'->Ded kl' ks->R (.ok (.ret .none)) { s with heap:=h',toks:=tk }) ->
   codeAny (model prog w) A (.builtin "set.update.loop" ([.ref D,.ref I],[])) R s:=by
 have d:D∉wr:=λq=>Q (W.sub _ q);have g:∀{b:Addr} {o:Obj},h0.get? b=some o->b∉D::wr:=λe z=>by rw[Y _ z] at e;cases e
 intro k
 induction k with
 |zero=>
  intro i s kl M u C r h q;obtain rfl:i=n:=by lia
  refine bBP bED ?_;rw[bBD bCZ _];refine b8 (W.done s _ _ u λh' tk kp=>?_);rw[bBB (bFH J)] at h;exact d9 (q h' tk kl (λb o c e=>kp b o (λz=>c (j8 _ z)) e) (Z.at_ r λo e=>kp D o d e) h)
 |succ k ih=>
  intro i s kl M u C r h q;refine bBP bED ?_;rw[bBD bCZ _];refine b8 (W.item i s _ _ (5) u λv T O G t a=>?_);have(F,K,y):=E i v G;have B:Ex h0 T:=λb o e=>a b o (λz=>g e (j8 _ z)) (C b o e);show wpAny _ A.in1 (holding [v] (setAdd D v) >>= _) _ _ _;refine b8 (bBC ?_);have lt:(ks.take i).length=i:=by rw[bAK];lia
  refine Z.add hA B y (Z.at_ r λo e=>a D o d e) (by have:=h.2.2;lia) λH L l b2 j x N=>?_;have et:ks.take (i+1)=ks.take i++[F]:=by rw[bBE,K];rfl
  have f:∀b o,b∉D::wr->s.heap.get? b=some o->H.get? b=some o:=λb o c e=>by rw[j.2 b (λz=>c (by rw[z];exact v7))];exact a b o (λz=>c (j8 _ z)) e
  refine d9 (bCU bCZ _,ih (i+1) _ l (5) (W.frame _ _ _ t λb U o e=>?_) (λb o e=>f b o (g e) (C b o e)) x (by rw[et];exact h.more N) λh' tk kl' kp p X=>q h' tk kl' (λb o c e=>kp b o c (f b o c e)) p X);rw[j.2 b (λz=>Q (by rw[<-z];exact U))];exact e
def aVe {A:Around}{R:Fin->Shared->Prop}{E:bGD}{s:Shared}{l:Addr}{its:Array Value}{ks:List κ}(H:A.handled=none)(Z:Kset prog w κ A0 s.heap s.heap.objs.size S V m)(M:A.units+1<=A0.units+9)(N:s.heap.IsList l its)(D:ks.length=its.size)
  (G:∀(i:Nat) (v:Value),its[i]?=some v->∃k,ks[i]?=some k/\V k v) (a:its.size<=m)
  (q:∀h' tk kl,S h' kl->Ded kl ks->(∀b o,b<s.heap.objs.size->s.heap.get? b=some o->h'.get? b=some o)->R (.done (.ret .none)) { s with heap:=h',toks:=tk }) :
  wpAny (model prog w) A (Builtin.«set.__init__» ([.ref s.heap.objs.size,.ref l],[])) R E { s with heap:=s.heap.push (dR (!byT w)) }:=by
 have((T,J,Q,r),n,d,B,h):=id N;simp only at d h;subst d h;have C:(s.heap.push (dR (!byT w))).get? s.heap.objs.size=some (dR (!byT w)):=m5 _ rfl;have L:Shared.TypeIs { s with heap:=s.heap.push (dR (!byT w)) } (.ref s.heap.objs.size) "set":=(_,C,4);have f:(s.heap.push (dR (!byT w))).get? l=some { cls:=.type "list",dict:=J,data:=.seq its B,slots:=r }:=c7 _ n;have U:=F.sub_list_set;have P:=F.sub_list_frozenset;have O:(Value.type "list" == Value.type "dict")=false:=by decide
 have j:(s.heap.push (dR (!byT w))).IsList l its:=(_,f,4,B,4);have c:l<s.heap.objs.size:=v8 n;unfold Builtin.«set.__init__» noKeywords Builtin.Frozenset.updateFrom;generalize y:pyIter=PI;wp_walk;subst y;refine bCW j ?_;refine b8 (wpAny_runValue ?_);have p:(s.heap.push (dR (!byT w))).objs.size=s.heap.objs.size+1:=bBT ..;have u:l≠(s.heap.push (dR (!byT w))).objs.size:=by rw[p];exact bAA (bCB c)
 have x:s.heap.objs.size∉[(s.heap.push (dR (!byT w))).objs.size,l]:=by rw[p];simp only[bAS,bAH,or_false,not_or];exact(bAA (bDP _),bDA c)
 have z:∀b,s.heap.objs.size<=b->s.heap.get? b=none:=λb a=>by
  cases e:s.heap.get? b with
  |none=>rfl
  |some o=>exact absurd (v8 e) (Nat.not_lt.mpr a)
 refine aWr (Walks.list (by first|exact H|simp[H]) _ l u its) x Z M (λb a=>?_) ks D G a its.size 0 _ [] (5) ((_,m5 _ rfl,44),j.push _) (λb o e=>c7 _ (c7 _ e)) ?_ (bEB,λk=>by simp,bAI _) λh' tk kl kp t K=>?_
 .rw[p] at a;simp only[bAS,bAH,or_false] at a;rcases a with rfl|rfl
  .exact z _ (j6 _)
  .exact z _ (bEJ _)
 .have I:((s.heap.push (dR (!byT w))).push { cls:=.type "list_iterator",data:=.fields #[.ref l,.int 0 0] }).get? s.heap.objs.size=some (dR (!byT w)):=c7 _ C;exact Z.new I
 .refine d9 (d9 (q h' tk kl t K λb o g e=>kp b o ?_ (c7 _ (c7 _ e))));rw[p];simp only[bAS,bAH,or_false,not_or];exact(bAA g,bAA (bCB g))
def aG4 {l:Addr}{its:Array Value}{ks:List κ}{Q:bGD}(z:A.handled=none)(Z:Kset prog w κ A s.heap s.heap.objs.size S V m)(J:s.heap.IsList l its)(p:ks.length=its.size)
  (t:∀(i:Nat) (v:Value),its[i]?=some v->∃k,ks[i]?=some k/\V k v) (L:its.size<=m)
  (q:∀h' tk kl,S h' kl->Ded kl ks->(∀b o,b<s.heap.objs.size->s.heap.get? b=some o->h'.get? b=some o)->Q (.ref s.heap.objs.size) { s with heap:=h',toks:=tk }) :
  wpAny (model prog w) A (call (.type "set") [.ref l]) Q E s:=by
 have d:=F.called_set;have(c,G,j):=d.mro;have B:=d.made;have D:=d.sub;have C:=d.notType;have H:=d.canCreate;have M:=F.typeCall_set_1 (.ref l);refine bFL (codeAny_of_tree (show wpAny _ _ (callAny (.type "set") _) _ _ _ from d9 (Code.quiet_builtin _ (0),bBP F.entry_type_call ?_)));rw[Around.under_plain (weight_type_call_type "set" [.ref l] []) (7)]
 repeat (any_goals (first|assumption|wp_step))
 refine bDC (aM2 (.ref l) (Q₁:=λobj n=>obj=.ref s.heap.objs.size/\n={ s with heap:=s.heap.push (dR (!byT w)) }) (E:=E) (44)) λr n f=>?_;rcases r with e|fl
 .exact f
 rcases fl with _|_|_|obj
 .exact f.elim
 .exact f.elim
 .exact f.elim
 have(rfl,rfl):=f;have y:Shared.TypeIs { s with heap:=s.heap.push (dR (!byT w)) } (.ref s.heap.objs.size) "set":=(_,m5 _ rfl,4);have K:=d.init.lookup;have I:=d.init.bind (.ref s.heap.objs.size)
 repeat (any_goals (first|assumption|wp_step))
 refine bDC (codeAny_call_builtin (R:=wants (λr h=>r=.none/\∃h' tk kl,h={ s with heap:=h',toks:=tk }/\S h' kl/\Ded kl ks/\∀b o,b<s.heap.objs.size->s.heap.get? b=some o->h'.get? b=some o) E)
  d.init.plain F.entry_set_init (check_set_init_1 y (aVe (by first|exact z|simp[z]) Z (by simp only[Around.in1_units];lia) J p t L λh' tk kl x g kp=>(4,h',tk,kl,4,x,g,kp)))) λu h a=>?_
 rcases u with e|fl
 .exact a
 rcases fl with _|_|_|v
 .exact a.elim
 .exact a.elim
 .exact a.elim
 have(rfl,h',tk,kl,rfl,x,g,kp):=a
 repeat (any_goals (first|assumption|wp_step))
 exact q h' tk kl x g kp
def bHc (A:Around)(h0:Heap)(D:Addr):Kset prog w κ A h0 D (λh kl=>xX knd h D kl) (λk v=>knd.is k v=true/\v.scannable=true) 4:=(λx e=>x.at e,λ_ _ d i f q=>by unfold setAdd;exact bBC (b8 (knd.pyHash d.1 (bBk d.1 d.2 i f λl a j c b g=>q l _ a j c b g))),aYm)
def aUx (f:A.handled=none)(d:s.heap.IsList l its)(a:ks.length=its.size)
  (c:∀(i:Nat) (v:Value),its[i]?=some v->∃k,ks[i]?=some k/\knd.is k v=true/\v.scannable=true) (e:its.size<=4)
  (q:∀h' tk kl,xX knd h' s.heap.objs.size kl->Ded kl ks->(∀b o,b<s.heap.objs.size->s.heap.get? b=some o->h'.get? b=some o)->Q (.ref s.heap.objs.size) { s with heap:=h',toks:=tk }) :
  wpAny (model prog w) A (call (.type "set") [.ref l]) Q E s:=aG4 f (bHc A s.heap s.heap.objs.size) d a c e q
end
open PySem.Spec PyProof.Rows
section
def TxS (prog:Program)(w:World)(h:Heap)(D:Addr)(kl:List Str):Prop:=h.SetOf (strKind prog w) D (λy=>decide (y∈kl)) kl.length
def TxS.at (x:TxS prog w h D kl)(e:∀o,h.get? D=some o->h'.get? D=some o):TxS prog w h' D kl:=by have(o,a,c,t,b,r):=x;exact(o,a,c,t,e o b,r)
def bGf (A:Around)(h0:Heap)(D:Addr):Kset prog w Str A h0 D (λh kl=>TxS prog w h D kl) (λk v=>∃t,v=.str k t) 1000:=(λx e=>x.at e,λ{l E s kl k v Q} _ _ g d j q=>by
 have(t,rfl):=g;unfold setAdd;refine bBC (b8 ((strKind prog w).pyHash (k:=k) (strKind_is _ _ _ _) ?_));refine wpAny_setAddHashed_of (knd:=strKind prog w) (strKind_is _ _ _ _) rfl d (by unfold scanBound;lia) λf b a=>q f _ (if k∈kl then kl else kl++[k]) _ b ?_ (.refl _);have c:(λy=>decide (y∈if k∈kl then kl else kl++[k]))=λy=>(decide (y∈kl) || decide (y=k)):=funext λy=>by
  by_cases z:k∈kl
  .rw[if_pos z,bCL];simp only[Bool.or_eq_true,decide_eq_true_eq];exact(.inl,λh=>h.elim id λe=>e ▸ z)
  .rw[if_neg z,bCL];simp only[Bool.or_eq_true,decide_eq_true_eq,bFF,bBU]
 show Heap.SetOf _ _ _ _ _;rw[c];by_cases z:k∈kl
 .rw[if_pos (j4 z)] at a;rw[if_pos z];exact a
 .rw[if_neg (by rw[j9 z];exact z9)] at a;rw[if_neg z,w6];exact a,λi=>(PyProof.Rows.setObjOf_fresh (knd:=strKind prog w) (!byT w)).setOf i (6))
set_option tactic.hygienic true in
def bA8:∀(ss kl:List Str),kl.Nodup->(∀x∈kl,x∈ss)->kl.length<=ss.length/\(kl.length=ss.length->ss.Nodup):=by
 intro f
 induction f with
 |nil=>
  rintro kl _ h;cases kl with
  |nil=>exact(j6 _,λ_=>bEB)
  |cons a l=>exact absurd (h a v7) bAH
 |cons a r ih=>
  rintro kl nd h;by_cases z:a∈kl
  .have n:=List.length_erase_of_mem z;have i:∀x∈kl.erase a,x∈r:=λx b=>by have(c,d):=(nd.mem_erase_iff).mp b;exact (List.mem_cons.mp (h x d)).resolve_left c
   have(m,k):=ih _ (nd.erase a) i;have j:=List.length_pos_of_mem z;refine(by rw[p8];lia,λe=>?_);rw[p8] at e;refine List.nodup_cons.mpr (λg=>?_,k (5));have:=(ih kl nd λx b=>(List.mem_cons.mp (h x b)).elim (λe=>e ▸ g) id).1;lia
  .have:=(ih kl nd λx b=>(List.mem_cons.mp (h x b)).resolve_left λe=>z (e ▸ b)).1;exact(by rw[p8];lia,λe=>by rw[p8] at e;lia)
def aOr {e c:List Str}(d:Ded e c):e.length=c.length↔c.Nodup:=
 ((bA8 c e d.1 λx a=>(d.2.1 x).mp a).2,λb=>Nat.le_antisymm d.2.2 (bA8 e c b λx a=>(d.2.1 x).mpr a).1)
end
end PySem
namespace L2
open PySem PySem.Spec PyProof.Rows
def aY2 (P:Program)(w:World)(D:Addr)(kl:List Str):HO:=.ext λh=>TxS P w h D kl
def bIl (P:Program)(w:World)(K:bGC):List V->Hp->VK->Prop:=λxs H Q=>∃p ss,xs=[.ref p]/\SqL K H p (ss.map V.str)/\ss.length<=1000/\∀D kl,H D=none->Ded kl ss->Q (.ref D) (upd H D (aY2 P w D kl))
def aSa (N:X.calm=true):cZ X (.type "set") (bIl X.prog X.w X.K):=by
 intro z s σ H O P Q I r h;have(p,G,rfl,F,E,q):=h;have(u,rfl,B):=r.one;cases B;have(d,n,C,L):=I.list F;have a:=n.length;rw[d7] at a;refine aG4 (I.ok.hd N) (bGf _ _ _) C.isList (by rw[j7];exact a) (λi v D=>?_) (by rw[j7,<-a];exact E) λf R j x J kp=>?_
 .have c:d[i]?=some v:=by simpa using D
  have l:i<G.length:=by rw[a];exact (List.getElem?_eq_some_iff.mp c).1
  have(u,g,t,rfl):=n.get (by rw[j5,b7 l];rfl);rw[c] at g;cases g;exact(_,b7 l,t,4)
 .have e:∃o,f.get? s.heap.objs.size=some o:=by have(o,_,_,_,A,_):=x;exact(o,A)
  exact(.ref s.heap.objs.size,_,I.laid (o:=aY2 X.prog X.w s.heap.objs.size j) (λb o m=>kp b o (v8 m) m) (j6 _) (show TxS X.prog X.w f s.heap.objs.size j/\_/\_ from (x,e,λS M y k=>y.at k)),4,q _ _ (I.hok.fresh (j6 _)) J)
def aR8:cZ X (.builtin "len") (λxs H Q=>∃D kl,xs=[.ref D]/\H D=some (aY2 X.prog X.w D kl)/\Q (.int (kl.length:Nat)) H):=by intro c s σ H xs n Q I r h;have(D,l,rfl,i,q):=h;have(u,rfl,e):=r.one;cases e;have((o,v,p,t,d,a,j,g,b,m,k,f),_):=I.hok D _ i;refine call_len_set d a j k (by unfold scanBound at m;lia) ?_;rw[f];exact(.int (l.length:Nat),H,I.tok _,(3),q)
def bK1 (K:bGC):List V->Hp->VK->Prop:=λxs H Q=>∃(p:Addr) (bs:List Bool),xs=[.ref p]/\SqL K H p (bs.map V.bl)/\Q (.bl (bs.any id)) H
def aXy (a:X.calm=true):cZ X (.builtin "any") (bK1 X.K):=aUa true a
structure bGq (E:Hp->Hp->Prop)(H:Hp):Prop where
 new:∀D o,H D=none->E H (upd H D o)
 trans:∀{H1 H2},E H H1->E H1 H2->E H H2
 upd:∀D o H',H D=none->E H H'->E H (upd H' D o)
 keep:∀D H1 H2 xs,H D=none->E H H1->H1 D=some (.lst xs)->E H1 H2->H2 D=some (.lst xs)
def oX (H:Hp):bGq Same H:=(λD o h=>bJ h o,λa b=>a.trans b,λD o e h s=>jV h s,λD d c f _ _ h s=>s _ _ h)
def rW (J:It)(H1:Hp)(σ0:L2.St)(g:TG)(tt:TT)(te:TE)(Q:VK):Prop:=∀D,H1 D=none->∃W:Nat->Nat->L2.St->Hp->List V->Prop,(∃m,W 0 m σ0 (L2.upd H1 D (.lst [])) []) /\
 ∀i m σ' H' ys,W i m σ' H' ys->H' D=some (.lst ys)/\((J.stop i H'/\Q (.ref D) H')\/(J.go i H'/\∀x H2,J.yld i H' x H2->g x σ' H2 fun σ3 H3=>tt σ3 H3 λb H4=>
  if b=true then te σ3 H4 λy H5=>H5 D=some (.lst ys)/\ys.length<sizeLine/\∃m',m'<m/\W (i+1) m' σ3 (L2.upd H5 D (.lst (ys++[y]))) (ys++[y]) else H4 D=some (.lst ys)/\∃m',m'<m/\W (i+1) m' σ3 H4 ys))
section
variable {X:Cx}{K:bGC}{scope:Scope}{N:List Str}{tl te:TE}{tt:TT}{g:TG}{σ:L2.St}{H:Hp}{Q:VK}
def uJ (c:L2.St)(b:Cap X scope N σ c)(h:tl σ H λv H1=>∃a,v=.ref a/\(∃xs,SqL K H1 a xs)/\rW (Itl K a) H1 c g tt te Q):jB X scope N (tL K tl) g tt te σ H Q:=(c,b,h)
def mX (c:L2.St)(b:Cap X scope N σ c)(h:tl σ H λv H1=>∃a,v=.ref a/\(∃xs,SqT K H1 a xs)/\rW (Itt K a) H1 c g tt te Q):jB X scope N (aQ2 K tl) g tt te σ H Q:=(c,b,h)
def tO {a:Addr}{xs:List V}{E:Hp->Hp->Prop}(d:∀H',E H H'->SqT K H' a xs):∀H' i x,E H H'->xs[i]?=some x->(Itt K a).go i H'/\∀y H2,(Itt K a).yld i H' y H2->H2=H'/\y=x:=λH' i x s e=>
 ((xs,x,d H' s,e),λy H2 g=>by have(c,f):=g;have b:=f xs (d H' s);rw[e] at b;cases b;exact(c,4))
def mR {a:Addr}{xs:List V}{E:Hp->Hp->Prop}(b:∀H',E H H'->SqT K H' a xs):∀H',E H H'->(Itt K a).stop xs.length H':=λH' s=>(xs,b H' s,j6 _)
def aCm {a:Addr}{xs:List V}{E:Hp->Hp->Prop}(d:∀H',E H H'->SqL K H' a xs):∀H' i x,E H H'->xs[i]?=some x->(Itl K a).go i H'/\∀y H2,(Itl K a).yld i H' y H2->H2=H'/\y=x:=λH' i x s e=>
 ((xs,x,d H' s,e),λy H2 g=>by have(c,f):=g;have b:=f xs (d H' s);rw[e] at b;cases b;exact(c,4))
def uN {a:Addr}{xs:List V}{E:Hp->Hp->Prop}(b:∀H',E H H'->SqL K H' a xs):∀H',E H H'->(Itl K a).stop xs.length H':=λH' s=>(xs,b H' s,j6 _)
inductive pR (R:Nat->V->Prop):List Nat->List V->Prop
 |nil:pR R [] []
 |cons {i y is ys}:R i y->pR R is ys->pR R (i::is) (y::ys)
def pR.snoc (h:pR R is ys)(r:R i y):pR R (is++[i]) (ys++[y]):=by
 induction h with
 |nil=>exact .cons r .nil
 |cons r' _ ih=>exact .cons r' ih
def pR.imp (h:pR R is ys)(k:∀i y,R i y->S i y):pR S is ys:=by
 induction h with
 |nil=>exact .nil
 |cons r _ ih=>exact .cons (k _ _ r) ih
def pR.len {R:Nat->V->Prop}{is:List Nat}{ys:List V}(h:pR R is ys):is.length=ys.length:=by
 induction h with
 |nil=>rfl
 |cons _ _ ih=>rw[p8,p8,ih]
def vH (E:Hp->Hp->Prop)(l:bGq E H)(xs:List V)(p:Nat->Bool)(Rel:Nat->Hp->V->Prop)
  (w:∀{i H1 H2 y},E H H1->E H1 H2->Rel i H1 y->Rel i H2 y) (F:∀{i H1 D ys zs y},H D=none->E H H1->H1 D=some (.lst ys)->Rel i H1 y->Rel i (L2.upd H1 D (.lst zs)) y)
  (At:Nat->L2.St->Prop) (Ps:L2.St->Prop) (U:Ps σ0) (hsz:xs.length<=sizeLine)
  (J:It) (T:∀H' i x,E H H'->xs[i]?=some x->J.go i H'/\∀y H2,J.yld i H' y H2->H2=H'/\y=x) (A:∀H',E H H'->J.stop xs.length H')
  (O:∀(i:Nat) (x:V) σ' H' Q',xs[i]?=some x->Ps σ'->E H H'->(∀σ2,Ps σ2->At i σ2->Q' σ2 H')->g x σ' H' Q')
  (M:∀(i:Nat) (x:V) σ2,xs[i]?=some x->At i σ2->∀H' R,E H H'->(∀H2,E H' H2->R (p i) H2)->tt σ2 H' R)
  (S:∀(i:Nat) (x:V) σ2,xs[i]?=some x->At i σ2->p i=true->∀H' R,E H H'->(∀y H2,E H' H2->Rel i H2 y->R y H2)->te σ2 H' R)
  (q:∀D H' ys,E H H'->H D=none->H' D=some (.lst ys)->pR (λi y=>Rel i H' y) (sel p 0 (List.range xs.length)) ys->Q (.ref D) H'):rW J H σ0 g tt te Q:=by
 intro D f;exists λi m σ' H' ys=>i<=xs.length/\m=xs.length - i/\Ps σ'/\E H H'/\H' D=some (.lst ys)/\pR (λi y=>Rel i H' y) (sel p 0 (List.range i)) ys,(xs.length,bAI _,4,U,l.new _ _ f,aO,.nil);rintro i m σ' H' ys ⟨hi,rfl,hps,sm,hL,hR⟩;exists hL;by_cases b:i<xs.length
 .right;have s:=b7 b;have(G,B):=T H' i xs[i] sm s;refine(G,λx H2 C=>?_);have(rfl,rfl):=B x H2 C;have v:sel p 0 (List.range (i+1))=sel p 0 (List.range i)++(if p i then [i] else []):=by rw[List.range_succ,aEa,bAG,bEP]
  have P:=hR.len;have K:=oY p 0 (List.range i);rw[bAG] at K;refine O i xs[i] σ' _ _ s hps sm fun σ2 k n=>?_;refine M i xs[i] σ2 s n _ _ sm λL o=>?_;have a:=l.trans sm o;have h:=l.keep D _ _ _ f sm hL o;cases u:p i with
  |true=>rw[if_pos rfl];refine S i xs[i] σ2 s n u _ _ a λy N t I=>?_;have c:=l.trans a t;have d:=l.keep D _ _ _ f a h t;exists d,5,xs.length - (i+1),5,b,4,k,l.upd D _ _ f c,aO;rw[v,u];exact pR.snoc (hR.imp λj z r=>F f c d (w a t (w sm o r))) (F f c d I)
  |false=>rw[if_neg (9)];exists h,xs.length - (i+1),5,b,4,k,a,h;rw[v,u];simp only[bCE,if_false,bCM];exact hR.imp λj z r=>w sm o r
 .left;have e:i=xs.length:=by lia
  subst e;exact(A _ sm,q D _ ys sm f hL hR)
end
def At1 (σ0:L2.St)(v:V)(σ:L2.St):Prop:=∃l,σ=(σ0.set 0 l).set 0 (some v)
def Ps1 (σ0:L2.St)(σ:L2.St):Prop:=∃l,σ=σ0.set 0 l
def At2 (σ0:L2.St)(a b:V)(σ:L2.St):Prop:=σ=(σ0.set 0 (some a)).set 1 (some b)
def Ps2 (σ0:L2.St)(σ:L2.St):Prop:=∃l m,σ=(σ0.set 0 l).set 1 m
def hg1 {σ0:L2.St}{i:Nat}{x:V}{σ':L2.St}{H':Hp}{Q':L2.St->Hp->Prop}(h:Ps1 σ0 σ')(q:∀σ2,Ps1 σ0 σ2->At1 σ0 x σ2->Q' σ2 H'):cF 0 x σ' H' Q':=by have(l,rfl):=h;exact q _ (some x,by rw[bBH]) (l,4)
def hg2 {K:bGC}{c:L2.St}{p:Addr}{a b:V}{σ':L2.St}{H':Hp}{Q':L2.St->Hp->Prop}(d:SqT K H' p [a,b])(h:Ps2 c σ')(q:∀σ2,Ps2 c σ2->At2 c a b σ2->Q' σ2 H'):aBt K 2 (lX (cF 0) (lX (cF 1) aGe)) (.ref p) σ' H' Q':=by
 have(l,m,rfl):=h;have e:(((c.set 0 l).set 1 m).set 0 (some a)).set 1 (some b)=(c.set 0 (some a)).set 1 (some b):=by rw[bEZ _ _ (show (1:Nat)≠0 by decide),bBH,bBH]
 exists p,3,d,40312;rw[e];exact q _ (some a,some b,4) rfl
def pF (xs:List V)(n:Nat):uF xs none (some (n:Int))=xs.take n:=by
 unfold uF;rw[HT.aCu,HT.aCh,List.drop_zero,Nat.sub_zero];by_cases h:n<=xs.length
 .rw[bFD h]
 .rw[Nat.min_eq_right (5),bDR,bBB (5)]
def kI (xs:List V)(n:Nat):uF xs (some (n:Int)) none=xs.drop n:=by
 unfold uF;rw[HT.aCu,HT.aCh];by_cases h:n<=xs.length
 .rw[bFD h];exact bBB (by rw[bBK];lia)
 .rw[Nat.min_eq_right (5),List.drop_length,List.drop_of_length_le (5),List.take_nil]
def bJf (K:bGC):V->Option Int->Option Int->Hp->VK->Prop:=λx lo hi H Q=>∃a xs,x=.ref a/\SqL K H a xs/\∀p H',H p=none->Same H H'->H' p=some (.lst (uF xs lo hi))->Q (.ref p) H'
def aPc:SlR X (bJf X.K):=λb s σ H x v d l i o k Q I h g j n (a,m,e,f,q)=>
 bB7 b s σ H x v d l i o k Q I h g j n (a,m,e,f,λp c=>q p _ c (bJ c _) aO)
inductive Al2 {α β:Type}(R:α->β->Prop):List α->List β->Prop
 |nil:Al2 R [] []
 |cons {a b as bs}:R a b->Al2 R as bs->Al2 R (a::as) (b::bs)
def Al2.len {α β:Type}{R:α->β->Prop}{as:List α}{bs:List β}(h:Al2 R as bs):as.length=bs.length:=by
 induction h with
 |nil=>rfl
 |cons _ _ ih=>rw[p8,p8,ih]
theorem Al2.at {α β:Type}{R:α->β->Prop}{as:List α}{bs:List β}(h:Al2 R as bs):∀{j:Nat} {a:α},as[j]?=some a->∃b,bs[j]?=some b/\R a b:=by
 induction h with
 |nil=>intro j a e;simp at e
 |cons r _ ih=>
  intro j a e;cases j with
  |zero=>cases e;exact(3,r)
  |succ j=>exact ih (by simpa using e)
def DEq (K:bGC)(H:Hp):Nat->V->V->Prop
 |0,x,y=>lY x=true/\x=y
 |n+1,x,y=>(lY x=true/\x=y)\/∃a b xs ys,x=.ref a/\y=.ref b/\SqT K H a xs/\SqT K H b ys/\Al2 (DEq K H n) xs ys
def aHl (h:lY x=true)(a:RelV x v)(d:RelV x u):SeqAt.EqAt A s v u true:=by
 cases x with
 |non=>cases a;cases d;exact bDW _
 |bl b=>cases a;cases d;exact bDW _
 |int i=>have(t,rfl):=a;have(c,rfl):=d;have z:=bFM (A:=A) (s:=s) i t i c;simpa using z
 |str y=>have(t,rfl):=a;have(c,rfl):=d;have z:=bCR (A:=A) (s:=s) y t y c;simpa using z
 |_=>cases h
def aPz (I:Inv X bGG σ H s)(o:Vals xs its)(m:Vals ys jts)(h:Al2 (DEq X.K H n) xs ys)
  (r:∀{x y v u},DEq X.K H n x y->RelV x v->RelV y u->SeqAt.EqAt A s v u true):∀(j:Nat) (h1:j<its.toArray.size) (h2:j<jts.toArray.size),SeqAt.EqAt A s its.toArray[j] jts.toArray[j] ((λ_=>true) j):=λj h1 h2=>by
 have q:=o.length;have a:j<xs.length:=by rw[j7] at h1;lia
 have(y,l,d):=h.at (b7 a);have(p,b,e):=o.get (b7 a);have(g,c,k):=m.get l;have f:its.toArray[j]=p:=by rw[bCH];exact (List.getElem?_eq_some_iff.mp b).2
 have i:jts.toArray[j]=g:=by rw[bCH];exact (List.getElem?_eq_some_iff.mp c).2
 rw[f,i];exact r d e k
def aEw (n:Nat):(List.range n).all (λ_=>true)=true:=by rw[bCS];intro _ _;rfl
def aWc (I:Inv X bGG σ H s):∀(n:Nat) {A:Around} {x y:V} {v u:Value},DEq X.K H n x y->RelV x v->RelV y u->A.units+n<cLine->SeqAt.EqAt A s v u true:=by
 intro k
 induction k with
 |zero=>rintro A x y v u h rv ru _;have(h,rfl):=h;exact aHl h rv ru
 |succ n ih=>
  rintro A x y v u h rv ru hu;rcases h with⟨h,rfl⟩|⟨a,b,xs,ys,rfl,rfl,ha,hb,h⟩
  .exact aHl h rv ru
  cases rv;cases ru;by_cases e:a=b
  .subst e;exact bDW _
  have(f,g,l,r):=I.tuple ha;have(c,i,j,q):=I.tuple hb;refine bFR e ?_;have z:=bEQ (A:=A) (e:=λ_=>true) (show s.heap.IsTuple a f.toArray from l) (show s.heap.IsTuple b c.toArray from j) (5) (aPz I g i h λd o p=>ih d o p (by show A.units+1+n<cLine;lia));have m:(f.toArray.size == c.toArray.size)=true:=by rw[j7,j7];have:=g.length;have:=i.length;have:=h.len;simp;lia
  rw[aEw,m] at z;exact z
def bJ1:R2:=λx y H Q=>(∃a b,x=.int a/\y=.int b/\Q (.bl (decide (a<b))) H)\/∃a b:Str,x=.str a/\y=.str b/\Q (.bl (decide (a.cps.toList<b.cps.toList))) H
def bG0:OpR X (compareOp .Lt) bJ1:=by
 intro e s σ H x y v u Q I d c h;rcases h with⟨a,b,rfl,rfl,q⟩|⟨a,b,rfl,rfl,q⟩
 .have(t,rfl):=d;have(f,rfl):=c;exact lt_int (.bl _,H,I,4,q)
 .have(t,rfl):=d;have(f,rfl):=c;exact lt_str (.bl _,H,I,4,q)
def bB0 (K:bGC):V->List V->Hp->VK->Prop:=λx vs H Q=>∃(l:Addr) (ss:List Str) (n:Str) (i:Nat),x=.ref l/\vs=[.str n]/\SqL K H l (ss.map V.str)/\ss.length<=1000/\ss[i]?=some n/\(∀(j:Nat) (m:Str),j<i->ss[j]?=some m->m≠n)/\Q (.int (i:Nat)) H
def aRg (n:Str):Value->Bool
 |.str x _=>x == n
 |_=>false
def aIq:MtR X "list.index" (bB0 X.K):=by
 intro L s σ H x vs v us Q I M Y h;have(l,f,n,i,rfl,rfl,O,B,G,z,q):=h;cases M;have(u,rfl,W):=Y.one;have(t,rfl):=W;have(a,r,N,hz):=I.list O;have T:=r.length;rw[d7] at T;have((P,dd,J,Z),C,D,S,E):=id N.isList;simp only at D E;subst D E;have R:=(List.getElem?_eq_some_iff.mp G).1;have b:∀{j:Nat} (e:j<a.length),∃m c,f[j]?=some m/\a[j]=.str m c:=λ{j} e=>by
  have g:j<f.length:=by lia
  have(w,U,A):=r.get (show (f.map V.str)[j]?=some (.str f[j]) by rw[j5,b7 g];rfl);have(c,rfl):=A;exact(f[j],c,b7 g,(List.getElem?_eq_some_iff.mp U).2)
 refine call_meets PySem.F.slot_list_index (_,C,4) PySem.F.entry_list_index (PySem.F.args_list_index_2 _ _)
  (SeqAt.list_indexAt l a.toArray S dd Z (.str n t) (aRg n) i (by rw[j7];lia) (5) ?_ ?_) (C,λy o=>?_,(.int _,H,I.tok _,(3),q))
 .have(m,c,k,d):=b (j:=i) (5);rw[G] at k;cases k;show aRg n a[i]=true;rw[d];show (n == n)=true;simp
 .intro j e p;have(m,c,k,d):=b (j:=j) (by simpa using e);show aRg n a[j]=false;rw[d];have:=z j m p k;show (m == n)=false;simpa using this
 .have o:y∈a:=by simpa using o
  have(j,e,rfl):=bBZ o;have(m,c,k,d):=b (j:=j) e;rw[d];exact bCR m c n t
open PySem PySem.Spec PyProof.Rows Builtin
def bJh (K:bGC):List V->Hp->VK->Prop:=λxs H Q=>∃l us,xs=[.ref l,.ty "list"]/\SqL K H l us/\Q (.bl true) H
def aAf:cZ X (.builtin "isinstance") (bJh X.K):=by intro a s σ H n j Q I r h;have(l,m,rfl,g,q):=h;have(u,v,rfl,c,e):=r.two;obtain rfl:v=Value.type "list":=e;obtain rfl:u=Value.ref l:=c;have(i,k,d,_):=I.list g;have(o,b,f,_):=id d.isList;exact call_isinstance (isinstance_true F.isi_meta_list F.isi_self_list) ((o,b,f),(.bl true,H,I,4,q))
def bU (i:Nat)(c:VE X e te)(a:!(X.N.Nodup,5))(hi:!(X.N[i]?=some x))(b:!(Loc X.env.scope x,2))(hs:!(swapsWith e (some (.Name x pos')) pos.line X.env=pure false))(d:!(X.fn x=true\/X.env.scope.names.lookup x=some .local,2)):VS X (.Assign [.Name x pos'] e pos) (kO te (cF i)):=aIu a hi b c hs d
def cP (i:Nat)(b:!(X.N.Nodup,5))(hi:!(X.N[i]?=some x))(a:!(Loc X.env.scope x,2))(c:!(X.fn x=true\/X.env.scope.names.lookup x=some .local,2)):VG X (.Name x pos) (cF i):=aJt b hi a c
def aY (G:Ok X.prog X.w X.K X.mg X.base k0 x ps sp)(d:VA X (e::es) t)(c:!(Room k X.A,5))(f:!(k0<=k,1))(h:!(Gl X x))(a:!((x == ("__debug__":Str))=false,1))(g:!(fJ e=true))(b:!((backTo pos (starEach es X.env)).any (·.1)=false)):VE X (.Call (.Name x p) (e::es) [] pos) (aEh sp [] E0 t):=jG (G.mono f) c h d a g b
def bJb (G:OkM X.prog X.w X.K X.mg X.base C k0 m ps sp)(i:VE X o ta)(c:VA X (e::es) t)(b:!(Room k X.A,5))(d:!(k0<=k,1))(g:!(fJ e=true))(a:!((backTo pos (starEach es X.env)).any (·.1)=false))
  (h:!(eval (.Call (.Attribute o m apos) (e::es) [] pos) X.env=(do
   let ov <-eval o X.env
   standAt apos.atName
   let (f,first,) <-holding [ov] (getMethod ov m pl)
   callWith pos f first (backTo pos (starEach (e::es) X.env)) (backToKw pos (keywordEach [] X.env))))):VE X (.Call (.Attribute o m apos) (e::es) [] pos) (aOg C m sp [] E0 ta t):=bEn (G.mono d) b i c g a h
def aQ (c:IxR X r)(e:VE X a ta)(d:VE X b tb)(hs:!(aK2 b,6)):VE X (.Subscript a b pos) (tOp r ta tb):=aTe c e d hs
def cL (e:OpR X (compareOp op) r)(f:VE X a ta)(d:VE X b tb)(c:behindInMarks op b=false:=by exact tQ _):VT X (.Compare a [op] [b] pos) (aHj (tOp r ta tb)):=fP e f d c
def lW (e:OpR X (compareOp op) r)(f:VE X a ta)(d:VE X b tb)(c:behindInMarks op b=false:=by exact tQ _):VE X (.Compare a [op] [b] pos) (tOp r ta tb):=gY e f d c
def va1 (a:VE X e te)(b:!(fJ e=true)):VA X [e] (cX te aJl):=aF a cW b
def bA (g:!(sc.kind=.function))(c:!(sc.isCoroutine=false))(a:!(sc.isGenerator=false))(d:!(N.Nodup,2))(b:!(N.take ps.length=ps))(f:!(∀x∈ps,sc.names.lookup x=some .local\/sc.names.lookup x=some .cell,2))(e:!(∀y∈sc.names,y.2≠.free,2)):aN N ps sc:=(g,c,a,d,b,f,e)
def dF (i:Nat)(b:!(N.Nodup,2))(hi:!(N[i]?=some x))(a:!(Loc (cxC X N scope cl s H fp).env.scope x,2))(c:!((cxC X N scope cl s H fp).fn x=true\/(cxC X N scope cl s H fp).env.scope.names.lookup x=some .local,2)):VG (cxC X N scope cl s H fp) (.Name x pos) (cF i):=aJt b hi a c
def ck (b:!(∀y∈scope.names,y.2≠.cell,2))(c:!(scope.kind=.function))(a:!(∀y∈scope.names,y.2=.local->scope.names.lookup y.1=some .local,2))(d:!(∀y∈scope.names,y.2=.free->scope.names.lookup y.1=some .free,2)):uG scope N:=(b,c,a,d)
section
variable {K:bGC}{σ:St}{H:Hp}{Q:VK}{i:Nat}{a:Addr}{x y z:V}{xs:List V}
def rd0 (c:σ[i]?=some (some (.ref a)))(b:SqT K H a (x::xs))(q:Q x H):tOp (aSf K) (wR i) (tC (.int 0)) σ H Q:=(_,c,a,_,0,02,b,aX rfl,q)
def rd1 (c:σ[i]?=some (some (.ref a)))(b:SqT K H a (x::y::xs))(q:Q y H):tOp (aSf K) (wR i) (tC (.int 1)) σ H Q:=(_,c,a,_,1,02,b,aX rfl,q)
def rd2 (c:σ[i]?=some (some (.ref a)))(b:SqT K H a (x::y::z::xs))(q:Q z H):tOp (aSf K) (wR i) (tC (.int 2)) σ H Q:=(_,c,a,_,2,02,b,aX rfl,q)
end
section
variable {P:Program}{w:World}{K:bGC}{mg:bGF}{base:Heap}
structure Zx where
 f:Addr
 cd:Value
 A:Around
 o:List Env
 s:Shared
 H:Hp
 E:XK
def cxZ (N:List Str)(x:Str)(st:Stmt)(P:Program)(w:World)(K:bGC)(mg:bGF)(base:Heap)(Z:Zx):Cx:=(aBj CX0 P w K mg base N x (aD st) Z.f Z.cd Z.A Z.o Z.s Z.H Z.E).nox
def eQ (Q:VK):Ends:={ nx:=λ_ H'=>Q .non H',rt:=Q }
def Ok.ofW {x:Str}{st:Stmt}{N ps:List Str}{k:Nat}{sp:Sp}(D:Dn K mg x st ps)(S:aN N ps (aD st))
  (a:∀(Z:Zx) (H:Hp) (vs:List V) (Q:VK),Room k (cxZ N x st P w K mg base Z).A->sp vs H Q Z.E ->
   ∃t,VSs (cxZ N x st P w K mg base Z) (iG st) t/\t (eQ Q) (start N vs) H) (d:!(∀vs H Q E,sp vs H Q E->vs.length=ps.length,2)):!Ok (k+1) x ps sp:=Ok.ofV D S d λf c A o s H vs Q E b h=>a (f,c,A,o,s,H,E) H vs Q b h
end
end L2
namespace PySem.W
open PySem PySem.Calls PyProof.Rows
def KasT.ev {α:Type}(f:Nat->Nat->Bool):KasT α->α
 |.ret a=>a
 |.ask i j k=>(k (f i j)).ev f
inductive KasT.Low {α:Type}(n:Nat)(P:α->Prop):KasT α->Prop
 |ret {a}:P a->KasT.Low n P (.ret a)
 |ask {i j k}:i<n->j<n->(∀b,KasT.Low n P (k b))->KasT.Low n P (.ask i j k)
def KasT.Low.bind {α β:Type}{n:Nat}{P:α->Prop}{R:β->Prop}{t:KasT α}{f:α->KasT β}(h:t.Low n P)(c:∀a,P a->(f a).Low n R):(t.bind f).Low n R:=by
 induction h with
 |ret h=>exact c _ h
 |ask a b _ ih=>exact .ask a b ih
def KasT.Low.of {α:Type}{n:Nat}{P:α->Prop}{t:KasT α}(h:t.Low n P)(f:Nat->Nat->Bool):P (t.ev f):=by
 induction h with
 |ret h=>exact h
 |@ask i j k a b _ ih=>exact ih (f i j)
def bIa {α:Type}{n:Nat}{P:α->Prop}{f:Nat->Nat->Bool}{cmp:Nat->Nat->(Bool->Shared->Prop)->Shared->Prop}{s:Shared}(c:∀i j C,i<n->j<n->C (f i j) s->cmp i j C s){t:KasT α}(h:t.Low n P){Q:α->Shared->Prop}(q:Q (t.ev f) s):t.kasWp cmp Q s:=by
 induction h with
 |ret h=>exact q
 |@ask i j k a b _ ih=>exact c i j _ a b (ih (f i j) q)
def Pl (n:Nat)(p:Array Nat):Prop:=p.size=n/\∀k,p.getD k 0<n
def Pl.perm (h:Pl n p)(e:q.Perm p)(g:0<n):Pl n q:=by
 refine(e.size_eq.trans h.1,λk=>?_);by_cases c:k<q.size
 .have b:q[k]∈p.toList:=(Array.perm_iff_toList_perm.mp e).mem_iff.mp (9);have(j,d,f):=bBZ b;have a:j<p.size:=by simpa using d
  have:=h.2 j;rw[bAU,bAC a,bDD] at this;rw[bAU,bAC c,bDD,<-f];simpa using this
 .rw[bAU,bCI (5)];exact g
def aUo (h:Pl n p):∀f m,(kas_asc p f m).Low n (λr=>m<=r/\r<=m+f):=by
 intro d
 induction d with
 |zero=>rintro m;exact .ret (j6 _,j6 _)
 |succ f ih=>
  rintro m;refine .ask (h.2 _) (h.2 _) λc=>?_;by_cases e:c=true
  .rw[if_pos e];exact .ret (j6 _,5)
  .rw[if_neg e];have z:=ih (m+1);generalize kas_asc p f (m+1)=t at z
   induction z with
   |ret q=>exact .ret (55)
   |ask a b _ ih=>exact .ask a b ih
def aZj (i:0<n):∀f p m q,Pl n p->(kas_desc f p m q).Low n (λr=>Pl n r.1):=by
 intro g
 induction g with
 |zero=>rintro p m q h;exact .ret h
 |succ f ih=>
  rintro p m q h;refine .ask (h.2 _) (h.2 _) λc=>?_;by_cases e:c=true
  .rw[if_pos e];by_cases a:q > 0
   .rw[if_pos a];exact ih _ _ _ (h.perm (mirror_perm _ _ _ _) i)
   .rw[if_neg a];exact ih _ _ _ h
  .rw[if_neg e];refine .ask (h.2 _) (h.2 _) λd=>?_;by_cases b:d=true
   .rw[if_pos b];exact .ret h
   .rw[if_neg b];exact ih _ _ _ h
def aHw {n:Nat}(b:0<n){p:Array Nat}(h:Pl n p)(m nrem:Nat):(kas_tail3 m nrem p).Low n (λr=>Pl n r.2):=by have a:Pl n (kas_rev p 0 m):=h.perm (mirror_perm _ _ _ _) b;exact (aUo a _ _).bind λ_ _=>.ret a
def yO {n:Nat}(a:0<n){p:Array Nat}(h:Pl n p)(m nrem:Nat):(kas_descPart m nrem p).Low n (λr=>Pl n r.2):=by
 refine (aZj a _ _ _ _ h).bind λr b=>?_;by_cases e:r.2.2 > 0
 .rw[if_pos e];exact aHw a (b.perm (mirror_perm _ _ _ _) a) _ _
 .rw[if_neg e];exact aHw a b _ _
def aVj {n:Nat}(a:0<n){p:Array Nat}(h:Pl n p)(d:Nat):(kas_count d p).Low n (λr=>Pl n r.2):=by
 refine (aUo h _ _).bind λm _=>?_;by_cases e:(m == d)=true
 .rw[if_pos e];exact .ret h
 .rw[if_neg e];by_cases b:m > 1
  .rw[if_pos b];refine .ask (h.2 _) (h.2 _) λc=>?_;by_cases f:c=true
   .rw[if_pos f];exact .ret h
   .rw[if_neg f];exact yO a (h.perm (mirror_perm _ _ _ _) a) _ _
  .rw[if_neg b];exact yO a h _ _
def aWm (h:Pl n p)(k:Nat):∀f l r,(kas_place p k f l r).Low n (λ_=>True):=by
 intro b
 induction b with
 |zero=>rintro l r;exact .ret trivial
 |succ f ih=>
  rintro l r;unfold kas_place;by_cases e:l ≥ r
  .rw[if_pos e];exact .ret trivial
  .rw[if_neg e];refine .ask (h.2 _) (h.2 _) λc=>?_;by_cases a:c=true
   .rw[if_pos a];exact ih _ _
   .rw[if_neg a];exact ih _ _
def bEo {n:Nat}(b:0<n):∀(f:Nat) (p:Array Nat) (k:Nat),Pl n p->(kas_bin f p k).Low n (Pl n):=by
 intro a
 induction a with
 |zero=>rintro p k h;exact .ret h
 |succ f ih=>rintro p k h;exact (aWm h k k 0 k).bind λl _=>ih _ _ (h.perm (bubble_perm _ _ _) b)
def aXr (a:0<n):Pl n (List.toArray (List.range n)):=by
 refine(9,λk=>?_);rw[bAU,bEV];by_cases h:k<n
 .rw[bBY h];exact h
 .rw[bAJ (by simpa using h)];exact a
def aDe {n:Nat}(b:0<n):(kas_sort n).Low n (Pl n):=by
 refine (aVj b (aXr b) n).bind λr a=>?_;by_cases e:r.1<n
 .rw[if_pos e];exact bEo b _ _ _ a
 .rw[if_neg e];exact .ret a
def rR (n:Nat)(f:Nat->Nat->Bool):List Nat:=if n<2 then List.range n else ((kas_sort n).ev f).toList
def aIk (n:Nat)(f:Nat->Nat->Bool):(rR n f).length=n:=by
 unfold rR;by_cases h:n<2
 .rw[if_pos h,bAG]
 .rw[if_neg h,bAD];exact ((aDe (5)).of f).1
def aAs (h:i∈rR n f):i<n:=by
 unfold rR at h;by_cases b:n<2
 .rw[if_pos b] at h;exact List.mem_range.mp h
 .rw[if_neg b] at h;have z:=(aDe (n:=n) (5)).of f;have(j,c,e):=bBZ h;have a:j<((kas_sort n).ev f).size:=by simpa using c
  have:=z.2 j;rw[bAU,bAC a,bDD] at this;rw[<-e];simpa using this
def aCa (z:s.heap.get? a=some (seqObj "list" vs.toArray n))(L:vs.length<64)
  (G:2<=vs.length->∀h',(∀b o,b≠a->s.heap.get? b=some o->h'.get? b=some o)->∃κ,(∀(Q:SortKind->Shared->Prop),Q κ { s with heap:=h' }->wpAny (model prog w) A (keyKind' vs.toArray) Q (λ_ _=>False) { s with heap:=h' })/\∀i j (C:Bool->Shared->Prop),i<vs.length->j<vs.length->C (f i j) { s with heap:=h' }->kas_ask prog w A κ vs i j C { s with heap:=h' })
  (h:P (.done (.ret .none)) { s with heap:=sortedHeap s.heap a vs (List.toArray ((rR vs.length f).map λi=>vs.getD i Value.none)) }) :
  wpAny (model prog w) A (Builtin.«list.sort» ([.ref a],[])) P E s:=by
 rw[list_sort_plain];have I:a<s.heap.objs.size:=v8 z;refine b8 (listItems_at z rfl ?_);refine b8 (listUpdate_at z rfl ?_ (by rw[j7,sizeLine_eq];lia) (bAI _));obtain⟨B,l⟩:∃B,(s.heap.update a (Obj.mapSeq λ_=>#[])).get? a=some (seqObj "list" #[] B):=(_,get?_update_seq z (λ_=>#[]));refine b8 (seqEpoch_at l rfl ?_);refine b8 (bFP ?_ (by show vs.length<=_;rw[sizeLine_eq];lia));refine b8 (bGA ?_ (bAI _));refine bBC ?_;have c:(((s.heap.update a (Obj.mapSeq λ_=>#[])).push (seqObj "tuple" vs.toArray 0)).push (seqObj "list" #[] 0)).get? a=some (seqObj "list" #[] B):=by rw[bER _ _ _ (by rw[size_push',Heap.size_update];exact bAA (bCB I)),bER _ _ _ (by rw[Heap.size_update];exact bAA I)];exact l
 have k:∀b o,b≠a->s.heap.get? b=some o->(((s.heap.update a (Obj.mapSeq λ_=>(#[]:Array Value))).push (seqObj "tuple" vs.toArray 0)).push (seqObj "list" #[] 0)).get? b=some o:=λb o S q=>by refine c7 _ (c7 _ ?_);rw[Heap.get?_update_ne _ _ _ _ S];exact q
 show wpAny (model prog w) A _ P E { s with heap:=((s.heap.update a (Obj.mapSeq λ_=>#[])).push (seqObj "tuple" vs.toArray 0)).push (seqObj "list" #[] 0) };dsimp only;have F:vs.toArray.size=vs.length:=by simp
 by_cases m:vs.toArray.size<2
 .rw[if_pos m,if_pos m];refine b8 (d9 ?_);rw[StateT.run_pure];refine b8 (d9 ?_);dsimp only;refine b8 (seqEpoch_at c rfl ?_);refine b8 (listUpdate_at c rfl ?_ (hsz2:=by rw[Array.size_map];show (pairsOf vs).size<=_;rw[pairsOf_size,sizeLine_eq];lia));simp only[bne_self_eq_false,bCE,if_false];refine d9 ?_;have e:((arrOf (SortSt.mk' general' (vs.toArray.zip vs.toArray) #[] 7 none)).map (·.2))=List.toArray ((rR vs.length f).map λi=>vs.getD i Value.none):=by
   show ((vs.toArray.zip vs.toArray).map (·.2))=_;unfold rR;rw[if_pos (5)];clear G h k c l z;rcases vs with _|⟨x,_|⟨y,r⟩⟩
   .simp
   .simp[List.range,List.range.loop]
   .rw[F,p8,p8] at m;lia
  rw[e];exact h
 .rw[if_neg m,if_neg m];have u:2<=vs.length:=by lia
  have(κ,D,H):=G u _ k;refine b8 (bBJ (D (fun J d=>(kas_sort vs.length).kasWp (kas_ask prog w A J vs) (λp d=>d={ s with heap:=((s.heap.update a (Obj.mapSeq λ_=>#[])).push (seqObj "tuple" vs.toArray 0)).push (seqObj "list" #[] 0) }/\p=(kas_sort vs.length).ev f) d) (bIa (n:=vs.length) (P:=Pl vs.length) (f:=f) (cmp:=kas_ask prog w A κ vs) (t:=kas_sort vs.length) H (aDe (5)) (Q:=λp d=>d={ s with heap:=((s.heap.update a (Obj.mapSeq λ_=>#[])).push (seqObj "tuple" vs.toArray 0)).push (seqObj "list" #[] 0) }/\p=(kas_sort vs.length).ev f) (44))) (fun J T G=>?_) λ_ _ x=>x.elim);refine b8 (bBJ (kat_run (Q:=λg d=>∃p:Array Nat,p.size=vs.length/\arrOf g=p.map (kas_item (vs.toArray.zip vs.toArray))/\failedOf g=none/\d={ s with heap:=((s.heap.update a (Obj.mapSeq λ_=>#[])).push (seqObj "tuple" vs.toArray 0)).push (seqObj "list" #[] 0) }/\p=(kas_sort vs.length).ev f)
   rfl u L (λN g d O K R M=>(N,O,K,R,M)) G) ?_ λ_ _ e=>e)
  rintro⟨⟨⟩,g⟩ d ⟨p,hp,har,hf,rfl,rfl⟩;dsimp only;have v:=kat_snds rfl har;rw[v];refine b8 (seqEpoch_at c rfl ?_);refine b8 (listUpdate_at c rfl ?_ (bAI _) (by rw[j7,d7,bAD,hp,sizeLine_eq];lia));rw[hf];simp only[bne_self_eq_false,bCE,if_false];refine d9 ?_;have e:rR vs.length f=((kas_sort vs.length).ev f).toList:=by unfold rR;rw[if_neg (5)]
  rw[e] at h;exact h
def aK8 (n:s.heap.IsList l vs.toArray)(g:vs.length<64)
  (m:2<=vs.length->∀h',(∀b o,s.heap.get? b=some o->h'.get? b=some o)->∃κ,(∀(Q:SortKind->Shared->Prop),Q κ { s with heap:=h' }->wpAny (model prog w) A.in1.in1 (keyKind' vs.toArray) Q (λ_ _=>False) { s with heap:=h' })/\∀i j (C:Bool->Shared->Prop),i<vs.length->j<vs.length->C (f i j) { s with heap:=h' }->kas_ask prog w A.in1.in1 κ vs i j C { s with heap:=h' })
  (h:Q (.ref (s.heap.objs.size+1)) { s with heap:=sortedAll s.heap vs (List.toArray ((rR vs.length f).map λi=>vs.getD i Value.none)) }) :
  wpAny (model prog w) A (call (.builtin "sorted") [.ref l]) Q E s:=by
 refine Calls.call_function_entry kind_sorted plain_sorted entry_sorted (args_sorted1 _) ?_;unfold Builtin.«sorted»;refine b8 (d9 ?_);refine b8 (collect_list n ?_ (by rw[sizeLine_eq];lia));refine b8 (bGA ?_ (by rw[sizeLine_eq];lia));have c:((s.heap.push (seqObj "list" #[] 0)).update s.heap.objs.size (Obj.mapSeq (·++vs.toArray))).objs.size=s.heap.objs.size+1:=by rw[Heap.size_update,size_push']
 have d:(((s.heap.push (seqObj "list" #[] 0)).update s.heap.objs.size (Obj.mapSeq (·++vs.toArray))).push (seqObj "list" vs.toArray 0)).get? (s.heap.objs.size+1)=some (seqObj "list" vs.toArray 0):=by rw[<-c];exact m5 _ rfl
 have e:∀b o,s.heap.get? b=some o->(((s.heap.push (seqObj "list" #[] 0)).update s.heap.objs.size (Obj.mapSeq (·++vs.toArray))).push (seqObj "list" vs.toArray 0)).get? b=some o:=λb o q=>by have a:=v8 q;rw[bER _ _ _ (by rw[c];exact bAA (bCB a)),Heap.get?_update_ne _ _ _ _ (bAA a),bER _ _ _ (bAA a)];exact q
 rw[c];refine b8 (bBC (bAN slot_list_sort (_,d,4) entry_list_sort (aCa d g (λk h' kp=>m k h' λb o q=>kp b o (bAA (bCB (v8 q))) (e b o q)) (38)) (args_list_sort _)));exact d9 (3,h)
def aDi (l:List Value)(h:TriplesOk l)(d:codeAmong pos (l++[rawInt a,rawInt b,c])=some cv):codeAmong pos l=some cv\/cv=c:=by
 fun_induction TriplesOk l with
 |case1=>
  simp only[bDH,codeAmong,rawInt] at d
  split at d
  .exact .inr (bAL d).symm
  .cases d
 |case2 a' t b' u x rest ih=>
  simp only[List.cons_append,codeAmong] at d ⊢
  split at d
  .rename_i e;rw[if_pos e];exact .inl d
  .rename_i e;rw[if_neg e];exact ih h d
 |case3 l h1 h2=>exact h.elim
end PySem.W
namespace L2
open PySem PySem.Spec PyProof.Rows
def BM (mg:bGF)(base:Heap):Prop:=∃bm ob,mg "__builtins__"=some (.ref bm)/\bm≠builtinsNs/\base.get? bm=some ob/\ob.cls=.type "module"/\ob.dict=some builtinsNs/\ob.data=.plain
def ExO (a:Addr)(o:Obj):HO:=.ext λh=>h.get? a=some o
def bHf (e:h.get? a=some o):gK P w H h a (ExO a o):=(e,(o,e),λ_ _ b k=>k o b)
def bLq (g x y:Str)(p0 p1 p2 p3:Pos):Expr:=.Call (.Name g p0) [.Name x p1,.Name y p2] [] p3
structure bF1 (qual g x y:Str)(params:Arguments)(bd:Expr)(scope:Scope):Prop where
 body:∃p0 p1 p2 p3,bd=bLq g x y p0 p1 p2 p3
 bind:∀(cp c':Addr) (pm ctv v:Value),bindArgs (PySem.W.kla_fn "<lambda>" qual params bd scope [(y,cp,)] pm (.ref c') ctv) ([v],[])=pure [(x,v,)]
 co:scope.isCoroutine=false
 gen:scope.isGenerator=false
 kind:scope.kind=.function
 cell:∀z∈scope.names,z.2≠.cell
 hx:scope.names.lookup x=some .local
 hy:scope.names.lookup y=some .free
 hg:scope.names.lookup g=some .globalImplicit
 dx:(x == ("__debug__":Str))=false
 dy:(y == ("__debug__":Str))=false
 dg:(g == ("__debug__":Str))=false
 cy:(y == ("__classdict__":Str))=false
 xy:(y == x)=false
def zF (H:Hp)(f:Addr)(qual g x y:Str)(v:V):Prop:=∃params body scope cp c' pm ctv oc ol u vs t,
 bF1 qual g x y params body scope/\H f=some (ExO f (PySem.W.kla_obj "<lambda>" qual params body scope [(y,cp,)] pm c' ctv))/\H cp=some (ExO cp ol)/\(∀h:Heap,h.get? cp=some ol->h.IsCell cp (some u))/\RelV v u/\H c'=some (ExO c' oc)/\oc.data=.fields vs/\vs[1]?=some (.str qual t)
def zF.same (L:zF H f qual g x y v)(s:Same H H'):zF H' f qual g x y v:=by have(b,n,e,o,i,c,a,p,w,u,m,t,S,l,h,k,q,j,d,r):=L;exact(b,n,e,o,i,c,a,p,w,u,m,t,S,s _ _ l,s _ _ h,k,q,s _ _ j,d,r)
section
def bDv {bGG:bGE}{σ:St}{H:Hp}{s:Shared}{Q:VK}{f ga:Addr}{qual g x y:Str}{v a:V}{D:Value}{k:Nat}{fd:FuncData}{ps:List Str}{sp:Sp}
  (L:zF H f qual g x y v) (hr:Room (k+1) X.A) (hm:X.mg g=some (.ref ga)) (hk:PySem.W.keepIn X.K (.ref ga)=true) (hb:Binds X.K fd ps []) (F:mZ X.prog X.w X.K X.mg X.base CX0 k ga fd ps sp)
  (I:Inv X bGG σ H s) (r:RelV a D) (h:sp [a,v] H Q E0):wpAny (model X.prog X.w) X.A (call (.ref f) [D]) (EP X bGG σ Q) X.xe s:=by
 have(pa,bo,sc,T,U,pm,a0,oc,ol,u,vs,t,S,h1,h2,h3,h4,h5,h6,h7):=L;have e1:s.heap.get? f=some _:=(I.hok f _ h1).1;have e2:s.heap.get? T=some ol:=(I.hok T _ h2).1;have e5:s.heap.get? U=some oc:=(I.hok U _ h5).1;refine bFL (PySem.W.kla_callFunE hr.depth e1 rfl S.co S.gen rfl (U,oc,vs,t,4,e5,h6,h7) ?_);rw[S.bind];refine d9 (wpAny_newFunctionEnv S.cell (λz hz=>?_) (λB E p=>(I.nolimit.fresh _ p,8)) S.kind)
 .have e:z=(x,D,):=by simpa using hz
  rw[e];exact S.hx
 have kp:∀b o,s.heap.get? b=some o->B.get? b=some o:=λb o e=>p.extBut b o (bAA (v8 e)) (c7 _ e);have P:s.heap.objs.size<=B.objs.size:=by have:=p.1;rw[bBT] at this;lia
 refine PySem.W.kla_codeExpr ?_;have(p0,p1,p2,p3,rfl):=S.body;have hG:B.Ns mainGlobals X.mg:=(I.mod.glob.keeps I.bk).keeps kp;refine bCD (bEA S.kind S.hg (Calls.loadGlobal_global hG hm ?_) S.dg);refine PySem.W.callWith_K (h₀:=X.base) I.ok.mod.kin hk (bCQ (wpAny_Name (wpAny_loadName_local S.kind S.hx E (v:=D) (9) ?_) S.dx)) rfl rfl;refine bCQ (wpAny_Name (wpAny_loadName_free S.kind S.hy (c:=T) (by simp[newEnv,PySem.W.kla_fn]) (v:=u) (h3 B (kp _ _ e2)) ?_ S.cy) S.dy);have J:X.K.In B:=I.kIn.keeps kp;refine bFU (J,8);generalize i:newEnv _ s.heap.objs.size _ _ _ _ _ _ _=env;have l:env.frame=some s.heap.objs.size:=by rw[<-i];rfl
 have Y:env.scope.kind≠.module:=by rw[<-i];show sc.kind≠_;rw[S.kind];decide
 have C:X.base.get? s.heap.objs.size=none:=Heap.get?_none_of_le (bAM I.ok.bsz I.sz);have d:H s.heap.objs.size=none:=I.hok.fresh (j6 _);have E1:aIy X.prog X.w X.K X.mg X.base (X.A.deeper env) (env::X.stack) { s with heap:=B,toks:=s.toks+1 } H:=by
  refine(Around.frames_deeper I.ok.frames,I.ok.mod,λb o e=>(kp _ _ (I.bs b o e).1,(I.bs b o e).2),bAM (bAM I.ok.bsz I.sz) P,.cons Y l E C ?_,8,I.hok.kept kp,I.bare)
  .exact I.stack.of_keeps λb o e _=>(o,kp _ _ e,4)
  .intro b hb;unfold frs at hb;rw[bDM,l] at hb;rcases List.mem_cons.mp hb with e|hb
   .rw[e];exact d
   .exact I.yG b hb
 have Z:Vals [a,v] [D,u]:=.cons r (.cons h4 .nil);have hl:([D,u]++([]:List Value)).length=ps.length:=by rw[bCM,<-Z.length];exact F.len _ _ _ _ h
 refine bFL (bDC (F.run (X.A.deeper env) (env::X.stack) _ H ([D,u],[]) [D,u] [a,v] Q E0 (hr.deeper env) E1 (by simpa using hb { s with heap:=B,toks:=s.toks+1 } [D,u] J hl) Z h) λrr s' G=>?_);cases rr with
 |error e=>exact G.elim
 |ok fl=>
  cases fl with
  |next=>exact False.elim G
  |brk=>exact False.elim G
  |cont=>exact False.elim G
  |ret uu=>
   have(v',H',os,M,j,N,R,q):=G;refine I.after (Q:=Q) (u:=uu) (s':=s') (v',H',os,M,8,N,R,q);have O:∀b o,s.heap.get? b=some o->b≠s.heap.objs.size:=λb o e=>bAA (v8 e);have fe:frs (env::X.stack)=s.heap.objs.size::frs X.stack:=by unfold frs;rw[bDM,l]
   rw[fe] at j;exact(λb o e n hb m=>j.keep b o (kp b o e) n (λz=>(List.mem_cons.mp z).elim (O b o e) hb) m,λb o e n hb m=>j.slot b o (kp b o e) n (j8 _ hb) m,λb o e n m=>j.free b o (kp b o e) n m,λb o e m=>j.there b o (kp b o e) m,j.tups,j.frzs,j.tbls)
def aYz (P:Program)(w:World)(K:bGC)(mg:bGF)(base:Heap)(k:Nat)(te:TE)(t:TA):TE:=fun σ H Q=>te σ H λv H1=>∃f qual g x y z ps sp,v=.ref f/\zF H1 f qual g x y z/\!Ok k g ps sp /\
 t σ H1 λvs H2=>∃a,vs=[a]/\zF H2 f qual g x y z/\sp [a,z] H2 Q E0
def aZq (hr:Room (k+1) X.A)(hf:PE X (.Name n p) te)(Y:PA X (e::es) t)
  (he:!(starEach (e::es) X.env=(false,eval e X.env,)::starEach es X.env)) (T:!((backTo pos (starEach es X.env)).any (·.1)=false)) :
  PE X (.Call (.Name n p) (e::es) [] pos) (aYz X.prog X.w X.K X.mg X.base k te t):=by
 intro c s σ H Q I h;refine bCD (thn (hf c s σ H _ I h) ?_);rintro u s1 ⟨v,H1,I1,r1,q1⟩;have(f,d,g,x,y,z,ps,sp,rfl,L,G,q):=q1;obtain rfl:u=Value.ref f:=r1;have(ga,V,E,N,U,F):=G;have B:=Y pos c s1 σ H1 _ I1 q;rw[he] at B ⊢;refine PySem.W.callWith_of (P:=λh=>∃j o m cl l i b,h.get? f=some (PySem.W.kla_obj "<lambda>" d j o m cl l i b)) (by show ((false || (backTo pos (starEach es X.env)).any (·.1)) || false)=false;rw[T];rfl) (by rintro h ⟨j,o,m,cl,l,i,b,eh⟩;exact(.frame,.inl rfl,(PySem.W.Looks.ld (part:=none) eh).andThen .now)) (Calls.evalArgs_plain (thn B λus Z (J,H2,C,r,O)=>?_));have(a,rfl,D,M):=O;cases r with
 |cons r rn=>cases rn;refine(8,bDv D hr E N U F C r M);have(j,o,m,cp,i,l,b,oc,ol,u,J,t,S,R,_):=D;exact(j,o,m,_,l,i,b,(C.hok f _ R).1)
def aVv
  (I:Inv X bGG σ H s) (j:X.env.code=.ref c) (CH:PySem.W.CodeHd X.base c P) (i:H P=some (.tab (X.env.qual++"<lambda>"))) (a7:BM X.mg X.base) (V:closureFor scope X.env=pure clos) (a6:defaultsOf params X.env=([],[],))
  (q:∀f c' pm ctv H' h' tk,Inv X bGG σ H' { s with heap:=h',toks:=tk }->Same H H'->s.heap.objs.size<=f->H' f=none->H' c'=some (.own P)->H' P=some (.tab (X.env.qual++"<lambda>"))->h'.get? f=some (PySem.W.kla_obj "<lambda>" (X.env.qual++"<lambda>") params body scope clos pm c' ctv)->h'.CodeRec (.ref c') (X.env.qual++"<lambda>")->Q (.ref f) { s with heap:=h',toks:=tk }) :
  wpAny (model X.prog X.w) X.A (eval (.Lambda params body scope pos) X.env) Q E s:=by
 have(ps,hp,K,g):=I.hok P _ i;have hg:=I.mod.glob.keeps I.bk;have(M,ob,b1,b2,L,b4,b5,b6):=a7;have bG:M≠mainGlobals:=λz=>by have(o,Y,ep,e,d,_):=I.mod.glob;rw[z,e] at L;cases L;rw[d] at b6;cases b6
 have bP:M≠P:=λz=>by have:=(I.bs M ob L).2;rw[z,i] at this;cases this
 have gP:mainGlobals≠P:=λz=>by have(o,Y,ep,e,d,_):=I.mod.glob;have:=(I.bs _ o e).2;rw[z,i] at this;cases this
 have hB:s.heap.BuiltinsAt X.mg P:=(M,ob,b1,b2,bG,bP,I.bk _ _ L,b4,b5,b6);refine PySem.W.kla_eval a6 ?_;cases k:codeAmong pos ps.toList with
 |some cv=>have(c',J,N,t,rfl,B,Z,R,a5):=g pos cv k;refine PySem.W.kla_makeFunctionHit V I.ok.glob hg j (CH.keeps I.bk) hp K k hB λctv h' tk hk C=>?_;exact q _ c' _ ctv H _ tk (I.kept (t':=tk) λb o e=>c7 _ (hk b o e)) (λ_ _ e=>e) C (I.hok.fresh C) B i (m5 _ rfl) (c',J,N,t,4,c7 _ (hk _ _ Z),R,a5)
 |none=>
  refine PySem.W.kla_makeFunction V I.ok.glob hg j (CH.keeps I.bk) hp K k gP hB λc' ctv h' tk hx h l D G=>?_;have(c2,J,N,t,e2,p,hd,hv):=D;cases e2;have nc:=I.hok.fresh h;have a8:∀b u,b≠P->H b=some u->∀o,s.heap.get? b=some o->(h'.push (PySem.W.kla_obj "<lambda>" (X.env.qual++"<lambda>") params body scope clos ((X.mg "__name__").getD .none) c' ctv)).get? b=some o:=λb u T _ o e=>c7 _ (hx b o T e);have kp:∀b o,b≠P->s.heap.get? b=some o->(h'.push (PySem.W.kla_obj "<lambda>" (X.env.qual++"<lambda>") params body scope clos ((X.mg "__name__").getD .none) c' ctv)).get? b=some o:=λb o T e=>c7 _ (hx b o T e);have x:∀b,H b=none->b≠P:=λb e z=>by rw[z,i] at e;cases e
  have a:∀{b u},H b=some u->upd H c' (.own P) b=some u:=λ{b u} e=>by rw[bC (bV e nc)];exact e
  refine q _ c' _ ctv (upd H c' (.own P)) _ tk (I.step (g':=s.gens) (d':=s.drawn) (ch:=[]) (λ_ z=>nomatch z) (λb o _ _ _ e n=>kp b o (x b n) e) (λb o _ _ _ e n=>(o.slots,kp b o (x b n) e)) (λb o _ e n=>?_) (λb o _ e=>?_)
   (λb xs e=>a e) (λb o u e=>a e) (λb qs e=>(#[],by rw[a e];simp)) (λm hm=>?_) (λb u e=>?_) I.bare) (λb o e=>a e) (bDJ (bBI h l)) (by rw[bC (bDA l)];exact I.hok.fresh (bDJ (bBI h l))) aO (a i) (m5 _ rfl) (c',J,N,t,4,c7 _ p,hd,hv)
  .rw[bC (bAA (bAF (v8 e) h))];exact n
  .by_cases z:b=P
   .subst z;exact(_,c7 _ G)
   .exact(o,kp b o z e)
  .have(o,Y,ep,e,r):=hm;exact(o,Y,ep,kp _ o (x _ I.free) e,r)
  .by_cases z:b=c'
   .subst z;rw[aO] at e;cases e;exact(J,c7 _ p)
   .rw[bC z] at e;by_cases y:b=P
    .subst y;rw[i] at e;cases e;refine(_,c7 _ G,by rw[bDN];exact TriplesOk_snoc _ _ _ _ K,λF S O=>?_);rw[bDN] at O;rcases PySem.W.aDi _ K O with O|rfl
     .have(c2,a1,a0,t2,rfl,B,Z,R,a5):=g F S O;exact(c2,a1,a0,t2,4,a B,kp _ _ (λz=>by rw[z,i] at B;cases B) Z,R,a5)
     .exact(c',J,N,t,4,aO,c7 _ p,hd,hv)
    .refine (I.hok b u e).stay (λd v U r=>kp d v ?_ r) (λd r=>a r) λd xs r=>a r;rcases U with rfl|r'
     .exact y
     .intro z;rw[z,i] at r';cases r'
open Classical in
noncomputable def aGu (S:Addr->Prop) (h:Heap) (H:Hp):Hp:=λb=>if S b then (h.get? b).map (ExO b) else H b
open Classical in
noncomputable def aIb (S:Addr->Prop) (H Z:Hp):Hp:=λb=>if S b then H b else Z b
def rD (a:S b)(e:h.get? b=some o):aGu S h H b=some (ExO b o):=by unfold aGu;rw[if_pos a,e];rfl
def gG (a:¬ S b):aGu S h H b=H b:=by unfold aGu;rw[if_neg a]
def aEt (a:S b):aIb S H Z b=H b:=by unfold aIb;rw[if_pos a]
def kE (a:¬ S b):aIb S H Z b=Z b:=by unfold aIb;rw[if_neg a]
structure aE2 (X:Cx)(H:Hp)(h:Heap)(S:Addr->Prop):Prop where
 there:∀b,S b->∃o,h.get? b=some o
 own:∀d a o,¬ S a->H a=some o->H d=some (.own a)->¬ S d
 own2:∀d a o,S a->H a=some o->(∃e,o=.own e)\/(H d=some (.own a)->S d)
 tup:∀d xs,H d=some (.tup xs)->¬ S d
 frz:∀d o u,H d=some (.frz o u)->¬ S d
 tbl:∀d ps,H d=some (.tbl ps)->¬ S d
 base:∀b o,X.base.get? b=some o->¬ S b
 frs:∀b∈frs X.stack,¬ S b
def aE2.hok (p:aE2 X H s.heap S)(I:Inv X bGG σ H s):HOk X.prog X.w (aGu S s.heap H) s.heap:=by
 intro b o e;by_cases a:S b
 .have(g,c):=p.there b a;rw[rD a c] at e;cases e;exact bHf c
 .rw[gG a] at e;refine (I.hok b o e).stay (λ_ _ _ q=>q) (λd q=>?_) λd f q=>?_
  .rw[gG (p.own d b o a e q)];exact q
  .rw[gG (p.tup d f q)];exact q
def aE2.env0 (p:aE2 X H s.heap S)(I:Inv X bGG σ H s):aIy X.prog X.w X.K X.mg X.base X.A X.stack s (aGu S s.heap H):=
 (I.ok.frames,I.ok.mod,λb o e=>((I.bs b o e).1,by rw[gG (p.base b o e)];exact (I.bs b o e).2),bAM I.ok.bsz I.sz,I.stack,λb a=>by rw[gG (p.frs b a)];exact I.yG b a,p.hok I,I.bare)
def aE2.after (p:aE2 X H s.heap S)(I:Inv X bGG σ H s)(h:CE X.stack X.prog X.w (aGu S s.heap H) s (λv Z=>Same (aGu S s.heap H) Z/\∀H4,Same H H4->Q v H4) u s'):EP X bGG σ Q u s':=by
 have(v,Z,G,y,l,r,C,B,q):=h;have m:∀b o,S b->s.heap.get? b=some o->s'.heap.get? b=some o:=λb o g e=>(r b _ (B _ _ (rD g e))).1;have f:Same H (aIb S H Z):=λb o e=>by
  by_cases g:S b
  .rw[aEt g];exact e
  .rw[kE g];exact B _ _ (by rw[gG g];exact e)
 refine I.after (v,aIb S H Z,G,y,(λb o e n g A=>?_,λb o e n g A=>?_,λb o e n A=>?_,l.there,λb t e=>?_,λb o u e=>?_,λb D e=>?_),λb o e=>?_,C,q _ f)
 .by_cases a:S b
  .exact m b o a e
  .exact l.keep b o e (by rw[gG a];exact n) g A
 .exact l.slot b o e (by rw[gG (p.frs b g)];exact n) g A
 .by_cases a:S b
  .rw[aEt a];exact n
  .rw[kE a];exact l.free b o e (by rw[gG a];exact n) A
 .rw[kE (p.tup b t e)];exact l.tups b t (by rw[gG (p.tup b t e)];exact e)
 .rw[kE (p.frz b o u e)];exact l.frzs b o u (by rw[gG (p.frz b o u e)];exact e)
 .rw[kE (p.tbl b D e)];exact l.tbls b D (by rw[gG (p.tbl b D e)];exact e)
 .by_cases a:S b
  .rw[aEt a] at e;rcases p.own2 b b o a e with⟨x,rfl⟩|_
   .have(j,k):=p.there b a;exact(j,m b j a k)
   .by_cases E:∃x,o=.own x
    .have(x,rfl):=E;have(j,k):=p.there b a;exact(j,m b j a k)
    .refine (I.hok b o e).stay (λc u hc F=>?_) (λd q=>f _ _ q) λd t q=>f _ _ q;rcases hc with rfl|hc
     .exact m _ _ a F
     .rcases p.own2 c b o a e with z|z
      .exact absurd z E
      .exact m _ _ (z hc) F
  .rw[kE a] at e;refine (r b o e).stay (λ_ _ _ q=>q) (λd q=>?_) λd t q=>?_
   .by_cases i:S d
    .have(j,k):=p.there d i;rw[B _ _ (rD i k)] at q;cases q
    .rw[kE i];exact q
   .by_cases i:S d
    .have(j,k):=p.there d i;rw[B _ _ (rD i k)] at q;cases q
    .rw[kE i];exact q
end
def aZo (X:Cx)(iy:Nat)(P:Addr)(g x y:Str)(sp:Sp)(t:TA):TE:=fun σ H Q=>t σ H λvs H1=>∃z,σ[iy]?=some (some z)/\H1 P=some (.tab (X.env.qual++"<lambda>")) /\
 ∀f H2,zF H2 f (X.env.qual++"<lambda>") g x y z->(∀a xs,SqT X.K H1 a xs->SqT X.K H2 a xs)->sp (vs++[.ref f]) H2 (λr H3=>Same H2 H3/\∀H4,Same H1 H4->Q r H4) E0
def aRz
  (F:mZ X.prog X.w X.K X.mg X.base CX0 k fa fd ps sp) (hr:Room k X.A) (af:Gl X fn) (hm:X.mg fn=some (.ref fa)) (hk:PySem.W.keepIn X.K (.ref fa)=true) (hb:Binds X.K fd ps [])
  (h1:PE X e1 te1) (h2:PE X e2 te2) (h3:PE X e3 te3)
  (a1:X.env.code=.ref c) (CH:PySem.W.CodeHd X.base c P) (ah:BM X.mg X.base) (S:bF1 (X.env.qual++"<lambda>") g x y params body scope) (hN:X.N[iy]?=some y) (a4:X.env.kindOf y=some .cell) (D:X.env.cells.lookup y=some cp) (ab:X.fn y=true) (ai:closureFor scope X.env=pure [(y,cp,)]) (ae:defaultsOf params X.env=([],[],))
  (ag:!((fn == ("__debug__":Str))=false,1))
  (a2:!(starEach [e1,e2,e3,.Lambda params body scope lpos] X.env=[(false,eval e1 X.env,),(false,eval e2 X.env,),(false,eval e3 X.env,),(false,eval (.Lambda params body scope lpos) X.env,)]))
  (a5:!(starEach [e2,e3,.Lambda params body scope lpos] X.env=[(false,eval e2 X.env,),(false,eval e3 X.env,),(false,eval (.Lambda params body scope lpos) X.env,)])) :
  PE X (.Call (.Name fn p) [e1,e2,e3,.Lambda params body scope lpos] [] pos) (aZo X iy P g x y sp (cX te1 (cX te2 (cX te3 aJl)))):=by
 intro E s σ H Q I h;refine bCD (aCg I af hm ?_ ag);refine PySem.W.callWith_K I.ok.mod.kin hk ?_ (by rw[a2,a5]) (by rw[a5];rfl);rw[a2];refine bCQ (thn (h1 E s σ H _ I h) ?_);rintro u1 s1 ⟨v1,H1,I1,r1,q1⟩;refine bCQ (thn (h2 E s1 σ H1 _ I1 q1) ?_);rintro u2 s2 ⟨v2,H2,I2,r2,q2⟩;refine bCQ (thn (h3 E s2 σ H2 _ I2 q2) ?_);rintro u3 s3 ⟨v3,H3,I3,r3,q3⟩;have(z,hz,hP,q):=q3;refine bCQ (aVv I3 a1 CH hP ah ai ae λf c' pm ad M h' tk v s4 J V a7 l ef U=>bFU (v.kIn,8));generalize a9:({ s3 with heap:=h',toks:=tk }:Shared)=s4' at v;have hh:s4'.heap=h':=by rw[<-a9]
 rw[<-hh] at ef U;have(m,hn,hl):=v.loc;have(u,ru,lk):=hl iy y z hN hz (.inr (.inl a4));have L:s4'.heap.IsCell cp (some u):=by
  rcases lk with⟨k',_⟩|⟨_,c2,e,hc⟩
  .rw[a4] at k';cases k'
  .rw[D] at e;cases e;exact hc
 have(ol,G,O):=id L;have(c2,oc,vs,t,aa,a8,a6,hv):=U;cases aa;have j:=v.freeC y cp D;have(v0,ov,ac,_):=I3.cell y cp D;have aj:=bAF (v8 ac) J;have PO:aE2 X M s4'.heap (λb=>b=f\/b=cp\/b=P\/M b=some (.own P)):=by
  refine(λb hb=>?_,λd a o ha n B hd=>?_,λd a o ha n=>?_,λd xs e hd=>?_,λd o u e hd=>?_,λd ps e hd=>?_,λb o e hd=>?_,λb hb hd=>?_)
  .rcases hb with rfl|rfl|rfl|hb
   .exact(_,ef)
   .exact(_,G)
   .have(ps,e,_):=v.hok _ _ l;exact(_,e)
   .exact v.hok _ _ hb
  .rcases hd with rfl|rfl|rfl|hd
   .rw[V] at B;cases B
   .rw[j] at B;cases B
   .rw[l] at B;cases B
   .rw[hd] at B;cases B;exact ha (.inr (.inr (.inl rfl)))
  .rcases ha with rfl|rfl|rfl|ha
   .rw[V] at n;cases n
   .rw[j] at n;cases n
   .exact .inr λq=>.inr (.inr (.inr q))
   .rw[ha] at n;cases n;exact .inl (3)
  .rcases hd with rfl|rfl|rfl|hd
   .rw[V] at e;cases e
   .rw[j] at e;cases e
   .rw[l] at e;cases e
   .rw[hd] at e;cases e
  .rcases hd with rfl|rfl|rfl|hd
   .rw[V] at e;cases e
   .rw[j] at e;cases e
   .rw[l] at e;cases e
   .rw[hd] at e;cases e
  .rcases hd with rfl|rfl|rfl|hd
   .rw[V] at e;cases e
   .rw[j] at e;cases e
   .rw[l] at e;cases e
   .rw[hd] at e;cases e
  .have i:=(v.bs b o e).2;have R:=bAF (v8 e) I.ok.bsz;rcases hd with rfl|rfl|rfl|hd
   .exact absurd (bAF R (bAM I3.sz J)) (bBV _)
   .exact absurd (bAF R (I.ok.cab y _ ab D)) (bBV _)
   .rw[l] at i;cases i
   .rw[hd] at i;cases i
  .have i:=v.yG b hb;rcases hd with rfl|rfl|rfl|hd
   .have(_,o,n,_):=I3.stack.mem hb;exact absurd (bAF (v8 n) J) (bBV _)
   .rcases List.mem_cons.mp (v.aKq _ hb) with e|hb'
    .have(o,es,ep,n,B,_):=hn;rw[<-e,G] at n;cases n;rw[O] at B;cases B
    .have(_,o,n,_):=I.ok.funs.mem hb';exact absurd (bAF (v8 n) (I.ok.cab y _ ab D)) (bBV _)
   .rw[l] at i;cases i
   .rw[hd] at i;cases i
 have LA:zF (aGu (λb=>b=f\/b=cp\/b=P\/M b=some (.own P)) s4'.heap M) f (X.env.qual++"<lambda>") g x y z:=
  (params,body,scope,cp,c',pm,ad,oc,ol,u,vs,t,S,rD (.inl rfl) ef,rD (.inr (.inl rfl)) G,λh e=>(ol,e,O),ru,rD (.inr (.inr (.inr a7))) a8,a6,hv)
 have hq:=q f _ LA λb xs e=>by
  rcases s4.aG e with (e|⟨ob,e⟩)|e
  .exact .inl (.inl (by rw[gG (PO.tup b xs e)];exact e))
  .exact .inl (.inr (ob,by rw[gG (PO.frz b ob _ e)];exact e))
  .exact .inr e
 have r:Vals [v1,v2,v3,.ref f] [u1,u2,u3,.ref f]:=.cons r1 (.cons r2 (.cons r3 (.cons rfl .nil)));have Y:([u1,u2,u3,Value.ref f]++([]:List Value)).length=ps.length:=by rw[bCM,<-r.length];exact F.len _ _ _ _ hq
 refine bFL (bDC (F.run X.A X.stack s4' (aGu (λb=>b=f\/b=cp\/b=P\/M b=some (.own P)) s4'.heap M) ([u1,u2,u3,.ref f],[]) [u1,u2,u3,.ref f] [v1,v2,v3,.ref f] _ E0 hr (PO.env0 v) (by simpa using hb s4' [u1,u2,u3,.ref f] v.kIn Y) r hq) λrr s' C=>?_);cases rr with
 |error e=>exact C.elim
 |ok fl=>
  cases fl with
  |next=>exact False.elim C
  |brk=>exact False.elim C
  |cont=>exact False.elim C
  |ret uu=>have(v',Z,os,T,un,a0,a3,sm,qq):=C;exact PO.after v (v',Z,os,T,un,a0,a3,sm,λH4 s5=>qq H4 (s4.trans s5))
def aV1 {n:Str}{p pos:Pos}{e:Expr}{es:List Expr}{te:TE}{t:TA}{P:Program}{w:World}{K:bGC}{mg:bGF}{base:Heap}{k:Nat}(b:Room (k+1) X.A)(g:VE X (.Name n p) te)(d:VA X (e::es) t)(h:!(fJ e=true))(a:!((backTo pos (starEach es X.env)).any (·.1)=false))
  (i:!(X.prog=P)) (j:!(X.w=w)) (c:!(X.K=K)) (l:!(X.mg=mg)) (f:!(X.base=base)) :
  VE X (.Call (.Name n p) (e::es) [] pos) (aYz P w K mg base k te t):=by
 subst i j c l f;exact⟨aZq b g.1 d.1 (bO h) a⟩
def aRb
  (G:Ok X.prog X.w X.K X.mg X.base k fn ps sp) (C:Room k X.A) (j:Gl X fn) (F:VE X e1 te1) (B:VE X e2 te2) (D:VE X e3 te3)
  (a:X.env.code=.ref c) (E:PySem.W.CodeHd X.base c P) (o:BM X.mg X.base) (S:bF1 (X.env.qual++"<lambda>") g x y params body scope) (H:X.N[iy]?=some y) (m:X.env.kindOf y=some .cell) (q:X.env.cells.lookup y=some cp) (u:X.fn y=true) (s:closureFor scope X.env=pure [(y,cp,)]) (e:defaultsOf params X.env=([],[],))
  (r:!(fJ e1=true)) (b:!(fJ e2=true)) (d:!(fJ e3=true)) (f:!((fn == ("__debug__":Str))=false,1))
  (t:!(starEach [.Lambda params body scope lpos] X.env=[(false,eval (.Lambda params body scope lpos) X.env,)])) :
  VE X (.Call (.Name fn p) [e1,e2,e3,.Lambda params body scope lpos] [] pos) (aZo X iy P g x y sp (cX te1 (cX te2 (cX te3 aJl)))):=by
 have(z,v,h,l,i,n):=G;refine⟨aRz n C j h l i F.1 B.1 D.1 a E o S H m q u s e f ?_ ?_⟩
 .rw[bO r,bO b,bO d,t]
 .rw[bO b,bO d,t]
end L2
namespace HT
open PySem PySem.Spec PyProof.Rows L2
def uW {t z:Addr}{a:Array Value}{vl vu:Value}{lo hi:Option Int}{Q:bGD}(c:IsTup s.heap t a)(hs:s.heap.IsSliceOf z vl vu .none)(y:IsPart vl lo)(D:IsPart vu hi)
  (o:sIx a.size 0 lo=0/\sIx a.size a.size hi=a.size) (h:Q (.ref t) s):wpAny (model prog w) A (getItem (.ref t) (.ref z)) Q E s:=by
 have(r,i,f,v):=id hs;have e:s.TypeIs (.ref z) "slice":=(r,i,f);have((q,B,l,p),m,j,n,k):=id c;simp only at j k;subst j k;unfold getItem
 try with_reducible refine bBC ?_
 first|refine b8 (d9 ?_)|skip
 refine b8 (wpAny_sequenceKey c.typeIs (6) ?_);refine b8 (bAP c.typeIs bCN
  (bAN bCN c.typeIs entry_tuple_getitem ?_ (args_tuple_getitem _ _)))
 show wpAny _ _ (Builtin.Tuple.tupleItemsOf (.ref t) >>= _) _ _ s;refine b8 (tupleItemsOf_ c ?_);refine b8 (bEL e ?_);rw[if_pos (6)];refine b8 (pZ hs y D ?_);have b:((((sIx a.size 0 lo:Nat):Int) == 0 && (1:Int) == 1 && (sIx a.size a.size hi - sIx a.size 0 lo) == a.size)=true):=by rw[o.1,o.2];simp
 show wpAny _ _ (if (((sIx a.size 0 lo:Nat):Int) == 0 && (1:Int) == 1 && (sIx a.size a.size hi - sIx a.size 0 lo) == a.size)=true then _ else _) _ _ s;rw[if_pos b];have(C,g,d,x,u):=s;wp_walk using AutoSeq1.wpAny_loadPart' m;exact(3,d9 h)
end HT
namespace L2
open PySem PySem.Spec PyProof.Rows
def bLb (K:bGC):V->Option Int->Option Int->Hp->VK->Prop:=λx lo hi H Q=>∃a xs,x=.ref a/\SqT K H a xs/\∀p H',Same H H'->SqT K H' p (uF xs lo hi)->Q (.ref p) H'
def jZ:SlR X (bLb X.K):=by
 intro f s σ H x v A y g i B Q I l t m o h;have(a,b,rfl,j,q):=h;by_cases d:HT.sIx b.length 0 g=0/\HT.sIx b.length b.length i=b.length
 .cases l;have(k,r,n,C):=I.tuple j;have c:k.toArray.size=b.length:=by rw[j7];exact r.length.symm
  exists "tuple",_,PyProof.Rows.slot_tuple_getitem.lookup,n.typeIs;refine HT.uW n t m o (by rw[c];exact d) (.ref a,H,I,4,q a H (Same.refl H) ?_);have e:uF b g i=b:=by unfold uF;rw[d.1,d.2,List.drop_zero,Nat.sub_zero,bDR]
  rw[e];exact j
 .exact yZ f s σ H _ v A y g i B Q I l t m o (a,b,4,j,d,λp w u z=>q p w u (SqT.of z))
def bLp (K:bGC):R2:=λx y H Q=>∃a b xs,x=.ref a/\y=.ref b/\SqL K H a xs/\SqL K H b []/\Q (.bl xs.isEmpty) H
def bAr (n:X.A.units<cLine):OpR X (compareOp .Eq) (bLp X.K):=by
 intro k s σ H x y v u Q I m r h;have(a,b,o,rfl,rfl,i,z,q):=h;cases m;cases r;have(C,t,f,E):=I.list i;have(B,d,g,G):=I.list z;have c:=t.length;have D:=d.length;have p:=List.length_eq_zero_iff.mp D.symm;subst p;cases o with
 |nil=>have l:=List.length_eq_zero_iff.mp c.symm;subst l;refine SeqAt.RcAt.lists (e:=λ_=>true) f.isList g.isList rfl n (λj w F=>by simp at w) _ _ _ _ ?_;exact(.bl true,H,I,4,q)
 |cons y ys=>
  refine SeqAt.RcAt.lists_lengths f.isList g.isList ?_ n _ _ _ _ ?_
  .rw[p8] at c;simp only[j7,bBO];rw[<-c];simp
  .exact(.bl false,H,I,4,q)
def bIi:List V->Hp->VK->Prop:=λxs H Q=>∃d kvs,xs=[.ref d]/\H d=some (.dK kvs)/\∀p H',H p=none->Same H H'->H' p=some (.dK kvs)->Q (.ref p) H'
def aRx:cZ X (.type "dict") bIi:=by
 intro k s σ H x v Q I r h;have(d,m,rfl,n,q):=h;have(u,rfl,l):=vals1 r;cases l;have(z,j,i,a,p):=aIe I.hok n;have t:i.length<=sizeLine:=by have:=Paired.length a;lia
 refine kt_call_dict j p t λw f c=>?_;have g:=I.hok.fresh (j6 _);refine(.ref s.heap.objs.size,_,I.laid (t':=s.toks) (λb o e=>c.extBut b o (bAA (v8 e)) (c7 _ e)) (j6 _) ?_,4,q _ _ g (bJ g _) aO);exact(z,beq_eq_false_iff_ne.mpr (Ne.symm (bAA I.big)),i,a,f)
inductive PH (P:Program)(w:World):List DictEntry->List (Str × Value)->Prop
 |nil:PH P w [] []
 |cons {e:DictEntry}{kv:Str × Value}{es:List DictEntry}{kvs:List (Str × Value)}:(strKind P w).is kv.1 e.key=true->e.hash=(strKind P w).hash kv.1->e.val=kv.2->PH P w es kvs->PH P w (e::es) (kv::kvs)
def PH.keys (h:PH P w es kvs):∀e∈es,∃k,(strKind P w).is k e.key=true/\e.hash=(strKind P w).hash k:=by
 induction h with
 |nil=>intro e he;cases he
 |cons a b c _ ih=>
  intro e he;rcases List.mem_cons.mp he with rfl|he
  .exact(_,a,b)
  .exact ih e he
def PH.pairs (h:PH P w es kvs):Pairs (strKind P w) es kvs:=by
 induction h with
 |nil=>exact .nil
 |cons a b c _ ih=>exact .cons a c ih
def aIl {P:Program}{w:World}{o:Obj}{es:Array DictEntry}{ep:Nat}{kvs:List (Str × Value)}(c:o.ExactDict)(d:o.data=.dict es ep)(h:PH P w es.toList kvs)(b:(kvs.map (·.1)).Nodup):o.IsDictOf (strKind P w) kvs:=
 (es,ep,c,d,λe a=>h.keys e (Array.mem_toList_iff.mpr a),h.pairs,b)
end L2
namespace PySem
def aB7:typeLookup (.type "tuple") "keys"=pure none:=am_miss_of_fast (0)
def aFc:typeLookup (.type "list") "keys"=pure none:=am_miss_of_fast (0)
def sqN:Bool->String
 |true=>"list"
 |false=>"tuple"
def aKn (v:s.heap.get? a=some o)(n:o.cls=.type "tuple")(j:o.data=.seq xs k)(p:o.dict=none)(y:A.handled=none)
  (h:∀h' tk,(∀b u,s.heap.get? b=some u->h'.get? b=some u)->Q none { s with heap:=h',toks:=tk }):wpAny (model prog w) A (getAttr? (.ref a) "keys") Q E s:=by
 have(c,m,x,q):=o;simp only at n j p;subst n j p;have(r,g,d,tk,t):=s;have l:∀f,((r,g,d,f,t):Shared).TypeIs (.ref a) "tuple":=λ_=>(_,v,4);have I:=sub_AttributeError;have G:=F.slot_tuple_getattribute.lookup;have B:=F.slot_tuple_getattribute.bind (.ref a);have z:=am_tuple_getattr_none;unfold getAttr? getAttrBy? getAttrBy
 repeat (any_goals (first|assumption|exact l _|((with_reducible show wpAny _ _ (call (Value.builtin "tuple.__getattribute__") _ _) _ _ _);refine call_meets F.slot_tuple_getattribute (l _) am_entry_tuple_getattribute (F.args_tuple_getattribute_2 _ _) (meets_getattribute_miss_tuple a xs k q "keys" _ aB7 (0) (by size_fits)) (v,y,λh' f e i=>?_))|wp_step))
 have(D,C,H):=i.there;unfold getattributeRaised
 repeat (any_goals (first|assumption|wp_step))
 exact h _ _ i.keeps
def aMm (v:s.heap.get? a=some o)(n:o.cls=.type "list")(j:o.data=.seq xs k)(p:o.dict=none)(y:A.handled=none)
  (h:∀h' tk,(∀b u,s.heap.get? b=some u->h'.get? b=some u)->Q none { s with heap:=h',toks:=tk }):wpAny (model prog w) A (getAttr? (.ref a) "keys") Q E s:=by
 have(c,m,x,q):=o;simp only at n j p;subst n j p;have(r,g,d,tk,t):=s;have l:∀f,((r,g,d,f,t):Shared).TypeIs (.ref a) "list":=λ_=>(_,v,4);have I:=sub_AttributeError;have G:=F.slot_list_getattribute.lookup;have B:=F.slot_list_getattribute.bind (.ref a);have z:=am_list_getattr_none;unfold getAttr? getAttrBy? getAttrBy
 repeat (any_goals (first|assumption|exact l _|((with_reducible show wpAny _ _ (call (Value.builtin "list.__getattribute__") _ _) _ _ _);refine call_meets F.slot_list_getattribute (l _) am_entry_list_getattribute (F.args_list_getattribute_2 _ _) (meets_getattribute_miss_list a xs k q "keys" _ aFc (0) (by size_fits)) (v,y,λh' f e i=>?_))|wp_step))
 have(D,C,H):=i.there;unfold getattributeRaised
 repeat (any_goals (first|assumption|wp_step))
 exact h _ _ i.keeps
def aVn (d:s.heap.get? a=some o)(e:o.cls=.type (sqN L))(c:o.data=.seq xs k)(f:o.dict=none)(g:A.handled=none)
  (h:∀h' tk,(∀b u,s.heap.get? b=some u->h'.get? b=some u)->Q none { s with heap:=h',toks:=tk }):wpAny (model prog w) A (getAttr? (.ref a) "keys") Q E s:=by
 cases L
 .exact aKn d e c f g h
 .exact aMm d e c f g h
def kY:entryFor table "dict.update.loop"=some Builtin.«dict.update.loop»:=entryFor_of_tree (by kernel_rfl)
def fH:plainId "dict.update.loop"=true:=by trivial
section
variable {prog:Program}{w:World}{κ:Type}[DecidableEq κ]{knd:KeyKind prog w κ}
def wJ (knd:KeyKind prog w κ)(h:Heap)(v:Value)(kv:κ × Value):Prop:=∃p key,v=.ref p/\PyProof.Rows.IsTup h p #[key,kv.2]/\knd.is kv.1 key=true
def wJ.at (x:wJ knd h v kv)(k:∀p,v=.ref p->∀o,h.get? p=some o->h'.get? p=some o):wJ knd h' v kv:=by have(p,a,rfl,(o,c,r),b):=x;exact(p,a,4,(o,k p rfl o c,r),b)
def aBz (W:Walks prog w A.in1 I fp wr n P St)(D:Addr)(hD:D∉fp)
  (kvs:List (κ × Value)) (a0:kvs.length=n) (hb:n<=1000) (hP:∀i v,P i v->∀p,v=.ref p->p∉D::wr) :
  ∀k i s t,i+k=n->St i s.heap->s.heap.DictOf knd D (merged [] (kvs.take i))->(∀j v kv,P j v->kvs[j]?=some kv->wJ knd s.heap v kv) ->
   (∀h' tk,(∀b o,b∉D::wr->s.heap.get? b=some o->h'.get? b=some o)->h'.DictOf knd D (merged [] kvs)->R (.ok (.ret .none)) { s with heap:=h',toks:=tk }) ->
   codeAny (model prog w) A (.builtin "dict.update.loop" ([.ref D,.ref I,.int (i:Nat) t,.none],[])) R s:=by
 have u:D∉wr:=λq=>hD (W.sub _ q);intro k
 induction k with
 |zero=>
  intro i s t hi Y C hp q;obtain rfl:i=n:=by lia
  refine bBP kY ?_;rw[bBD fH _];refine b8 (W.done s _ _ Y λh' tk kp=>?_);refine b8 (d9 (d9 (q h' tk (λb o l e=>kp b o (λz=>l (j8 _ z)) e) ?_)));rw[bBB (bFH a0)] at C;exact C.at λo e=>kp D o u e
 |succ k ih=>
  intro i s t hi Y C hp q;refine bBP kY ?_;rw[bBD fH _];refine b8 (W.item i s _ _ (5) Y λv F c hv X a=>?_);have S:i<kvs.length:=by lia
  have y:=b7 S;have T:=C.at λo e=>a D o u e;have x:∀j v kv,P j v->kvs[j]?=some kv->wJ knd F v kv:=λj v kv B e=>(hp j v kv B e).at λp K o J=>a p o (λz=>hP j v B p K (j8 _ z)) J;have(p,U,rfl,((oc,od,ox,a1),ho,hc,m,hx),hk):=x i v _ hv y;simp only at hc hx;subst hc hx;have N:(merged [] (kvs.take i)).length<=i:=by have:=merged_length_le [] (kvs.take i);rw[bAK] at this;simp only[bBO] at this;lia
  have(O,g,d,tk,H):=s;have hT:((F,g,d,c,H):Shared).TypeIs (.ref p) "tuple":=(_,ho,4);have G:∀Q E,Q [U,kvs[i].2] (F,g,d,c,H)->wpAny (model prog w) A.in1 (Builtin.Dict.pairItems (.ref p)) Q E (F,g,d,c,H):=by intro Q E h;unfold Builtin.Dict.pairItems;wp_walk;exact h
  refine b8 (bBC (b8 (wpAny_tryCatch (G _ _ ?_))));refine bBC (wpAny_dictSet_pairs hk T (λh2 r f=>?_) (bAM N (bAM (5) (show 1000<=sizeLine by decide))));have e1:=merged_take_succ [] kvs i _ y;rw[<-e1] at r;refine d9 (bCU fH _,8);have V:∀b o,b∉D::wr->O.get? b=some o->h2.get? b=some o:=λb o l e=>by rw[f.2 b (λz=>l (by rw[z];exact v7))];exact a b o (λz=>l (j8 _ z)) e
  refine ih (i+1) _ _ (5) (W.frame _ _ _ X λb hb o e=>?_) r (λj v kv B e=>(x j v kv B e).at λZ K o J=>?_) λh' M kp L=>q h' M (λb o l e=>kp b o l (V b o l e)) L
  .rw[f.2 b (λz=>hD (by rw[<-z];exact hb))];exact e
  .rw[f.2 Z (λz=>hP j v B Z K (by rw[z];exact v7))];exact J
end
section
variable {prog:Program}{w:World}{κ:Type}[DecidableEq κ]{knd:KeyKind prog w κ}{A:Around}{E:bGD}{s:Shared}
def bEe (L:Bool)(d:h2.get? t=some o)(c:o.cls=.type (sqN L))(f:o.data=.seq its n)(g:A.handled=none)(b:t≠h2.objs.size) :
  ∃io St,Walks prog w A h2.objs.size [h2.objs.size,t] [h2.objs.size] its.size (λi v=>its[i]?=some v) St/\St 0 (h2.push io)/\∀s:Shared,s.heap=h2->∀Q E,Q (.ref h2.objs.size) { s with heap:=h2.push io }->wpAny (model prog w) A (pyIter (.ref t)) Q E s:=by
 cases L
 .have a:h2.IsTuple t its:=(o,d,c,n,f);exact(00,Walks.tuple g _ t b its,((_,m5 _ rfl,44),a.push _),λs e Q E q=>by subst e;exact bEH a q)
 .have a:h2.IsList t its:=(o,d,c,n,f);exact(00,Walks.list g _ t b its,((_,m5 _ rfl,44),a.push _),λs e Q E q=>by subst e;exact bCW a q)
def zH (L:Bool){t n:Nat}{its:Array Value}{kvs:List (κ × Value)}{o:Obj}{Q:bGD}(m:A.handled=none)(D:s.heap.get? t=some o)(B:o.cls=.type (sqN L))(U:o.data=.seq its n)(O:o.dict=none)(k:kvs.length=its.size)(hb:its.size<=1000)
  (T:∀(j:Nat) (v:Value) (kv:κ × Value),its[j]?=some v->kvs[j]?=some kv->wJ knd s.heap v kv)
  (q:∀h' tk,h'.DictOf knd s.heap.objs.size (merged [] kvs)->(∀b o,s.heap.get? b=some o->h'.get? b=some o)->Q (.ref s.heap.objs.size) { s with heap:=h',toks:=tk }) :
  wpAny (model prog w) A (call (.type "dict") [.ref t]) Q E s:=by
 refine callType_codes (Q₁:=λh C=>h=.ref s.heap.objs.size/\C={ s with heap:=s.heap.push { cls:=.type "dict",data:=.dict #[] } }) F.kt_called_dict (F.kt_typeCall_dict_1 _) F.entry_dict_init (kt_code_dict_new _ (44)) ?_;rintro h C ⟨rfl,rfl⟩;have a:(s.heap.push { cls:=.type "dict",data:=.dict #[] }).DictOf knd s.heap.objs.size []:=Heap.DictOf.new s.heap;have f:(s.heap.push { cls:=.type "dict",data:=.dict #[] }).get? t=some o:=c7 _ D;have H:Shared.TypeIs { s with heap:=s.heap.push { cls:=.type "dict",data:=.dict #[] } } (.ref t) (sqN L):=(o,f,B);have g:t<s.heap.objs.size:=v8 D;exists a.typeIs,F.args_dict_init_2 _ _;unfold Builtin.«dict.__init__»;refine b8 ?_;unfold Builtin.Dict.selfAndRest;refine b8 (wpAny_notOrdered_dict a.typeIs ?_);show wpAny _ _ (pure (s.heap.objs.size,[Value.ref t],)) _ _ _;refine d9 ?_;show wpAny _ _ (Builtin.Dict.updateFrom "dict.__init__" s.heap.objs.size (.ref t) [] .none) _ _ _;unfold Builtin.Dict.updateFrom;refine b8 (bEL H ?_);rw[if_pos (by cases L <;> decide)];refine b8 (aVn (L:=L) f B U O (by first|exact m|simp[m]) λr K c=>?_);rw[if_pos (show (none:Option Value).isNone=true from rfl)];have y:r.get? t=some o:=c _ _ f;have G:(s.heap.push { cls:=.type "dict",data:=.dict #[] }).objs.size=s.heap.objs.size+1:=bBT ..;have d:s.heap.objs.size<r.objs.size:=by have(X,_,_,N,_):=id a;exact v8 (c _ _ N)
 have x:t≠r.objs.size:=bAA (bEO g d);have(Z,St,W,l,M):=bEe (prog:=prog) (w:=w) (A:=A.in1.in1) L y B U (by first|exact m|simp[m]) x;refine b8 (bFO (b8 (M _ rfl _ _ ?_)));refine d9 (bCU fH _,8);refine aBz (knd:=knd) W s.heap.objs.size ?_ kvs k hb ?_ its.size 0 _ _ (5) l ?_ ?_ λh' tk kp z=>?_
 .simp only[bAS,bAH,or_false,not_or];exact(bAA d,bDA g)
 .intro j v e p S;have J:j<kvs.length:=by rw[k];exact (Array.getElem?_eq_some_iff.mp e).1
  have(V,P,i,(Y,u,_),_):=T j v _ e (b7 J);rw[S] at i;cases i;have:=v8 u;simp only[bAS,bAH,or_false,not_or];exact(bAA this,bAA (bEO this d))
 .exact (a.at λo e=>c _ _ e).at λo e=>c7 _ e
 .intro j v kv e I;exact (T j v kv e I).at λp _ o R=>c7 _ (c _ _ (c7 _ R))
 .refine(4,q h' tk z λb o e=>kp b o ?_ (c7 _ (c _ _ (c7 _ e))));have:=v8 e;simp only[bAS,bAH,or_false,not_or];exact(bAA this,bAA (bEO this d))
end
open PySem.Calls PyProof.Rows
section
variable {prog:Program}{w:World}{κ:Type}[DecidableEq κ]{knd:PySem.KeyKind prog w κ}{A:Around}{E:bGD}{s:Shared}
def bD2 (nm:κ->Str)(kvs:List (κ × Value)):∀(vs:List Value),vs.length=kvs.length->(∀(j:Nat) (v:Value),vs[j]?=some v->∃kv t,kvs[j]?=some kv/\v=.str (nm kv.1) t)->StrsAre vs (kvs.map λkv=>nm kv.1):=by
 induction kvs with
 |nil=>intro vs a _;cases bCV a;exact .nil
 |cons kv kvs ih=>
  intro vs a h;cases vs with
  |nil=>cases a
  |cons v vs=>have(b,t,e,rfl):=h 0 v rfl;cases e;exact .cons _ t (ih vs (by simpa using a) λj v e=>h (j+1) v (by simpa using e))
def aAw {d:Addr}{kvs:List (κ × Value)}{Q:bGD}(N:κ->Str)(L:A.handled=none)(lo:(d == sysModules)=false)(K:s.heap.DictOf knd d kvs)(C:∀k v,knd.is k v=true->(∃x,(k,x,)∈kvs)->∃t,v=Value.str (N k) t)(z:kvs.length<64)
  (q:∀(h1 h':Heap) (tk:Nat) (B:Addr) (vs:List Value) (ss:List Str) (e:Nat),StrsAre vs ss->ss.Perm (kvs.map λkv=>N kv.1)->h'.get? B=some (seqObj "list" vs.toArray e)->(∀b o,s.heap.get? b=some o->h1.get? b=some o)->(∀b o,h1.get? b=some o->h'.get? b=some o)->h1.objs.size<=B->Q (.ref B) { s with heap:=h',toks:=tk }) :
  wpAny (model prog w) A (call (.builtin "sorted") [.ref d]) Q E s:=by
 have(P,m):=K.dictAt;refine call_function_entry kind_sorted plain_sorted entry_sorted (args_sorted1 _) ?_;unfold Builtin.«sorted»;refine b8 (d9 ?_);refine b8 (PySem.W.kdu_collect (PySem.W.kdl_dict lo) L m (by rw[sizeLine_eq];lia) λh' tk c H a=>?_);have p:c.toList.length=kvs.length:=by rw[bAD];exact a.1
 have l:=bD2 N kvs _ p λj v e=>by have(k,x,u,G):=a.2 j v (by rw[<-bBS];exact e);have(t,rfl):=C k v G (x,v9 u);exact((k,x,),t,u,4)
 refine b8 (bGA ?_ (by rw[sizeLine_eq];lia));have f:(h'.push (seqObj "list" c.toList.toArray 0)).get? h'.objs.size=some (seqObj "list" c.toList.toArray 0):=m5 _ rfl;refine b8 (bBC (bAN slot_list_sort (_,f,4) entry_list_sort (list_sort_treeK strKind_oneLt f l.keysOf (λR O n e=>keyKind_strs (by rw[<-e];exact l)) (by rw[p];exact z) λi F y=>(38)) (args_list_sort _)));have(h,I,D,M):=sorted_out_str l F y;have(e,J):=sortedHeap_at f;refine d9 (3,q h' _ tk h'.objs.size ((arrOf i).map (·.2)).toList h e I D (by rw[bFC];exact J) H (λb o r=>?_) (j6 _));have g:=v8 r;rw[sortedHeap_old (bAA g) (by rw[size_push'];exact bCB g)];exact c7 _ r
end
end PySem
namespace L2
open PySem PySem.Spec PyProof.Rows
abbrev uI (K:bGC)(H:Hp):List V->List (Key × V)->Prop:=Paired λu kv=>∃p,u=.ref p/\SqT K H p [kV kv.1,kv.2]
def bAs (I:Inv X bGG σ H s)(h:uI X.K H us kvs):∀{its:List Value},Vals us its ->
  ∃vs:List (Key × Value),KV kvs vs/\vs.length=its.length/\∀(j:Nat) (v:Value) (kv:Key × Value),its[j]?=some v->vs[j]?=some kv->wJ (cO X.prog X.w) s.heap v kv:=by
 induction h with
 |nil=>intro its b;cases b;exact([],.nil,4,λj v kv e _=>by simp at e)
 |@cons u kv us kvs r t ih=>
  intro its b;cases b with
  |cons q z=>
   have(p,rfl,o):=r;cases q;have(A,n,l,y):=I.tuple o;have(vs,x,k,m):=ih z;have(a,d,rfl,g,i):=vals2 n;refine((kv.1,d,)::vs,.cons (4,i) x,by rw[p8,p8,k],λj v c e f=>?_);cases j with
   |zero=>cases e;cases f;exact(p,a,4,l,aHv g)
   |succ j=>exact m j v c (by simpa using e) (by simpa using f)
def bAe (K:bGC):List V->Hp->VK->Prop:=λxs H Q=>∃t us kvs,xs=[.ref t]/\SqT K H t us/\uI K H us kvs/\us.length<=1000/\∀p H',H p=none->Same H H'->H' p=some (.dK (jO [] kvs))->Q (.ref p) H'
def aDy (P:X.calm=true):cZ X (.type "dict") (bAe X.K):=by intro g s σ H S z Q I r h;have(t,z,kvs,rfl,k,E,R,q):=h;have(u,rfl,B):=vals1 r;cases B;have(J,c,(F,y),O):=I.bLg k;have M:=c.length;have(m,f,i,D):=bAs I E c;have L:=KV.length f;have(o,b,a,n,G):=F;refine zH false (knd:=cO X.prog X.w) (kvs:=m) (I.ok.hd P) b a G (y o b) (by rw[j7];exact i) (by rw[j7];lia) (λj v p e x=>D j v p (by simpa using e) x) λN C l kp=>?_;have d:H s.heap.objs.size=none:=I.hok.fresh (j6 _);refine(.ref s.heap.objs.size,_,I.laid (t':=C) (o:=.dK (jO [] kvs)) kp (j6 _) ?_,4,q _ _ d (bJ d _) aO);have A:=mK kvs [];simp only[bBO] at A;exact(small (5),beq_eq_false_iff_ne.mpr (Ne.symm (bAA I.big)),_,KV.merge f .nil,l)
def aMj {K:bGC}(a:X.calm=true)(h:!(X.K=K)):cZ X (.type "dict") (bAe K):=by subst h;exact aDy a
def wC:∀kvs acc,((acc++kvs).map (·.1)).Nodup->jO acc kvs=acc++kvs:=by
 intro b
 induction b with
 |nil=>rintro acc _;simp[jO]
 |cons kv r ih=>
  rintro acc h;have a:nP acc kv.1=none:=by
   cases e:nP acc kv.1 with
   |none=>rfl
   |some v=>exfalso;have:=bD0 e;rw[bAW,bDZ] at h;exact h.2.2 _ this _ (by rw[bAE];exact v7 ..) rfl
  show jO (putK acc kv.1 kv.2) r=_;rw[aEq _ a,ih _ (by rw[bCY];exact h),bCY];rfl
def aH1 (h:(kvs.map (·.1)).Nodup):jO [] kvs=kvs:=wC kvs [] h
def bH8:List V->Hp->VK->Prop:=λxs H Q=>∃(d:Addr) (kvs:List (Key × V)) (ns:List Str),xs=[.ref d]/\H d=some (.dK kvs)/\kvs.map (·.1)=(ns.map λn=>(Sum.inr n:Key))/\kvs.length<64/\∀(p:Addr) (H':Hp) (ss:List Str),H p=none->Same H H'->ss.Perm ns->H' p=some (.lst (ss.map V.str))->Q (.ref p) H'
def aV5:∀{vs:List Value} {ss:List Str},StrsAre vs ss->Vals (ss.map V.str) vs:=by
 intro vs ss h
 induction h with
 |nil=>exact .nil
 |cons x t h ih=>exact .cons (t,4) ih
def aSm (W:X.calm=true):cZ X (.builtin "sorted") bH8:=by
 intro L s σ H Y Z Q I r h;have(d,a,D,rfl,N,o,K,q):=h;have(u,rfl,R):=vals1 r;cases R;have(z,J,j,c,T):=aIe I.hok N;have U:=KV.length c;have C:=KV.keys c
 let nm:Key->Str:=λk=>match k with|.inr n=>n|.inl _=>⟨#[]⟩
 have p:(j.map λl=>nm l.1)=D:=by
  have:(j.map λl=>nm l.1)=(j.map (·.1)).map nm:=by rw[bBN];rfl
  rw[this,<-C,o,bBN];exact List.map_id _
 refine aAw nm (I.ok.hd W) J T (λk v E y=>?_) (5) λh1 V F B g S e P w O i m b=>?_
 .have(x,y):=y;have f:k∈a.map (·.1):=by rw[C];exact List.mem_map.mpr (_,y,4)
  rw[o] at f;have(n,_,rfl):=List.mem_map.mp f;cases v with
  |str x t=>
   have e:x=n:=by simpa [cO,tZ,Value.isStrOf] using E
   exact(t,by rw[e])
  |_=>exact absurd (show false=true from E) z9
 .rw[p] at w;have A:=I.kept (t':=F) i;have G:=A.hok.fresh b;refine(.ref B,_,A.laid (t':=F) m b ?_,4,q B _ S G (bJ G _) w aO);have M:=aV5 P;have l1:=w.length_eq;have l2:D.length=a.length:=by have:=congrArg List.length o;simpa using this.symm
  exact(small (by rw[d7];lia),g,e,M,O)
def bCr (c:X.A.units+1<cLine)(a:VE X o td)(hi:VE X i ty)(b:VE X value tv)(hs:!(swapsWith value (some (.Subscript o i pos')) pos.line X.env=pure false)):VS X (.Assign [.Subscript o i pos'] value pos) (bFl td ty tv):=⟨bEk c a.1 hi.1 b.1 hs⟩
def aY6 (a:VE X o to)(hi:VE X i ti)(hs:bH6 X t)
  (b:!(∀v,assign (.Subscript o i pos) X.env v=(do
   let ov <-holding [v] (eval o X.env)
   let iv <-holding [v,ov] (eval i X.env)
   standAt pos
   holding [v,ov,iv] (setItem ov iv v)
   release [v,ov,iv] []),3)):VG X (.Subscript o i pos) (bJ4 to ti t):=⟨bG3 a.1 hi.1 hs b⟩
def aN0:MtR X "list.reverse" aMc:=aQ9
end L2
namespace PySem
section
variable {κ:Type}[DecidableEq κ]
end
end PySem
namespace L2
open PySem PySem.Spec PyProof.Rows
def Itw (K:bGC)(t u:Addr)(xs ys:List V):It:=
 (λi H=>SqL K H t xs/\SqL K H u ys/\i<xs.length/\i<ys.length,λi H v H'=>∃T a b,H T=none/\v=.ref T/\H'=upd H T (.tup [a,b])/\xs[i]?=some a/\ys[i]?=some b,λi H=>SqL K H t xs/\SqL K H u ys/\i=ys.length/\ys.length<=xs.length)
def aR9 (K:bGC)(ta:TA):TI:=fun σ H R=>ta σ H λvs H1=>∃t u xs ys,vs=[.ref t,.ref u]/\SqL K H1 t xs/\SqL K H1 u ys/\R (Itw K t u xs ys) H1
def bA5 (d:Gl X "zip")(m:X.mg "zip"=none)(n:PA X [a,b] ta)(hs:!(starEach [a,b] X.env=(false,eval a X.env,)::starEach [b] X.env))
  (h:!(starEach [b] X.env=[(false,eval b X.env,)])):PI X (.Tuple elts kt tp) (.Call (.Name "zip" p) [a,b] [] pos) (aR9 X.K ta):=
 aTd true (λD=>let T:=aHp D;(T.mem,T.obj,T.keep,T.item,λX l f j e i c s σ H E I k g d=>T.done X l f j e i c s σ H E I k g (.inr d),T.self)) d m n hs h
def aYx (g:Gl X "zip")(d:X.mg "zip"=none)(e:VA X [a,b] t)(f:!(fJ a=true))(c:!(fJ b=true)) :
  VI X (.Tuple elts kt tp) (.Call (.Name "zip" p) [a,b] [] pos) (aR9 X.K t):=⟨bA5 g d e.1 (bO f) (bO c)⟩
def aO3 {K:bGC}{t u:Addr}{xs ys:List V}{H:Hp}{C:L2.St}{te:TE}{Q:VK}(w:SqL K H t xs)(s:SqL K H u ys)(A:ys.length<=xs.length)(E:Ps2 C C)(hsz:ys.length<=1000)(l:List V)(hzl:l.length=ys.length)
  (F:∀(i:Nat) (x y z:V),xs[i]?=some x->ys[i]?=some y->l[i]?=some z->∀H' R,Same H H'->(∀H2,Same H' H2->R z H2)->te ((C.set 0 (some x)).set 1 (some y)) H' R)
  (q:∀D H',Same H H'->H' D=some (.lst l)->Q (.ref D) H'):rW (Itw K t u xs ys) H C (aBt K 2 (lX (cF 0) (lX (cF 1) aGe))) lO te Q:=by
 intro D r;exists λi m o H' n=>m=ys.length - i/\i<=ys.length/\Same H H'/\H' D=some (.lst n)/\n=l.take i/\Ps2 C o,((ys.length,9,bAI _,bJ r _,aO,4,E));rintro i m o H' n ⟨rfl,hi,sm,gD,rfl,hps⟩;exists gD;by_cases k:i<ys.length
 .right;exists ((sm.seq w,sm.seq s,5,k));rintro v H2 ⟨T,a,b,hT,rfl,rfl,ha,hb⟩;have g:Same H' (L2.upd H' T (.tup [a,b])):=bJ hT _;refine hg2 (SqT.of aO) hps fun G f h=>?_;have c:=h;subst c;dsimp only[lO];rw[if_pos rfl];have d:i<l.length:=by lia
  refine F i a b l[i] ha hb (b7 d) _ _ (sm.trans g) λB p=>?_;have j:=p _ _ (g _ _ gD);refine(j,bBI (show (l.take i).length<=1000 by rw[bAK];lia) (6),ys.length - (i+1),545,jV r (sm.trans (g.trans p)),aO,8,f);rw[bBE,b7 d];rfl
 .left;have e:i=ys.length:=by lia
  subst e;rw[bBB (5)] at gD;exact((sm.seq w,sm.seq s,4,A),q D H' sm gD)
def aRe {J:It}{H:Hp}{xs:List V}{t:L2.St}{te:TE}{Q:VK}(u:∀H' i x,Same H H'->xs[i]?=some x->J.go i H'/\∀y H2,J.yld i H' y H2->H2=H'/\y=x)(n:∀H',Same H H'->J.stop xs.length H')(w:Ps1 t t)(hsz:xs.length<=1000)
  (g:List V) (hzl:g.length=xs.length) (A:∀(i:Nat) (x z:V),xs[i]?=some x->g[i]?=some z->∀H' R l,Same H H'->(∀H2,Same H' H2->R z H2)->te ((t.set 0 l).set 0 (some x)) H' R)
  (q:∀D H',Same H H'->H D=none->H' D=some (.lst g)->Q (.ref D) H'):rW J H t (cF 0) lO te Q:=by
 intro D f;exists λi m j H' h=>m=xs.length - i/\i<=xs.length/\Same H H'/\H' D=some (.lst h)/\h=g.take i/\Ps1 t j,((xs.length,9,bAI _,bJ f _,aO,4,w));rintro i m j H' h ⟨rfl,hi,sm,gD,rfl,hps⟩;exists gD;by_cases a:i<xs.length
 .right;have(o,p):=u H' i xs[i] sm (b7 a);refine(o,λv H2 r=>?_);have(rfl,rfl):=p v H2 r;refine hg1 (i:=i) hps fun B c d=>?_;have(l,rfl):=d;dsimp only[lO];rw[if_pos rfl];have b:i<g.length:=by lia
  refine A i _ g[i] (b7 a) (b7 b) _ _ l sm λs k=>?_;refine(k _ _ gD,bBI (show (g.take i).length<=1000 by rw[bAK];lia) (6),xs.length - (i+1),545,jV f (sm.trans k),aO,8,c);rw[bBE,b7 b];rfl
 .left;have e:i=xs.length:=by lia
  subst e;rw[bBB (5)] at gD;exact(n H' sm,q D H' sm f gD)
def bBg {X:Cx}{K:bGC}{scope:Scope}{N:List Str}{tl:TA}{te:TE}{tt:TT}{g:TG}{σ:L2.St}{H:Hp}{Q:VK}(b:L2.St)(a:Cap X scope N σ b)(h:tl σ H λvs H1=>∃t u xs ys,vs=[.ref t,.ref u]/\SqL K H1 t xs/\SqL K H1 u ys/\rW (Itw K t u xs ys) H1 b g tt te Q):jB X scope N (aR9 K tl) g tt te σ H Q:=(b,a,h)
def vK (ts:List (Addr × Str))(H:Hp):Prop:=∀p∈ts,H p.1=some (.tab p.2)
def qH:List (Addr × Str)->Addr->Option Str
 |[],_=>none
 |p::r,b=>if b=p.1 then some p.2 else qH r b
def aXl:∀{ts:List (Addr × Str)},(∀p∈ts,b≠p.1)->qH ts b=none:=by
 intro a
 induction a with
 |nil=>rintro _;exact rfl
 |cons p r ih=>rintro h;unfold qH;rw[if_neg (h p v7)];exact ih λq c=>h q (j8 _ c)
theorem sV:∀{ts:List (Addr × Str)},qH ts b=some q->∃p∈ts,p.1=b/\p.2=q
 |p::r,h=>by
  unfold qH at h;by_cases e:b=p.1
  .rw[if_pos e] at h;exact(p,v7,e.symm,bAL h)
  .rw[if_neg e] at h;have(a,c,d):=sV h;exact(a,j8 _ c,d)
theorem aTp:∀{ts:List (Addr × Str)},(ts.map (·.1)).Nodup->∀{p:Addr × Str},p∈ts->qH ts p.1=some p.2
 |p::r,nd,q,hq=>by
  rw[bAE,bDX] at nd;unfold qH;rcases List.mem_cons.mp hq with rfl|hq
  .rw[if_pos rfl]
  .rw[if_neg λz=>nd.1 (by rw[<-z];exact List.mem_map.mpr (q,hq,4))];exact aTp nd.2 hq
def aVg {P:Program}{w:World}{K:bGC}{mg mb:bGF}{CX:CXT}{k:Nat}{fa a:Addr}{fd:FuncData}{x:Str}{sp:Sp}{i:Shared}{vs:List Value}{ns:List Int}
  (KX:K.In i.heap) (T:i.heap.Ns mainGlobals mg) (f:i.heap.Ns builtinsNs mb) (a7:∀x:Str,x≠"__name__"->mb x=bootBuiltins x) (a1:i.heap.NoLimit) (hg:i.gens=#[])
  (N:i.heap.get? a=some { cls:=.type "list",data:=.seq vs.toArray }) (hi:IntsAre vs ns) (hl:ns.length<=sizeLine) (hr:Room k callerA)
  (ts:List (Addr × Str)) (l:∀p∈ts,i.heap.get? p.1=some { cls:=.none,data:=.fields #[] }/\isCodeTable i.heap p.1/\K.lookup p.1=none) (a2:(ts.map (·.1)).Nodup) (a4:BM mg i.heap)
  (F:∀base:Heap,K.In base->base.Ns mainGlobals mg->BM mg base->!mZ CX k fa fd [x] sp) (a0:∀(s:Shared) (u:Value),BindsTo s fd ([u],[]) [(x,u,)])
  (a3:∀H:Hp,vK ts H->SqL K H a (ns.map V.int)->sp [.ref a] H (λv H'=>v=.bl true/\vK ts H') λ_ _ _=>False)
  (a6:∀H e s',CX [] H i (λ_ _ _=>False) e s'->False) :
  codeAny (model P w) callerA (.call (.ref fa) ([.ref a],[])) (λr s'=>r=.ok (.ret (.bool true))/\OldK i.heap s'.heap/\s'.os=i.os/\AllBare s'.gens) i:=by
 have rv:=aWb hi;have L:=hi.length;have B:∀H:Hp,vK ts H->(∀b,(∀p∈ts,b≠p.1)->H b=none\/∃o xs,H b=some (.frz o (.lst xs)))->SqL K H a (ns.map V.int)->HOk P w H i.heap->(∀b,H b≠none->b=a\/∃p∈ts,b=p.1)->(H a≠none->K.lookup a=none) ->
   codeAny (model P w) callerA (.call (.ref fa) ([.ref a],[])) (λr s'=>r=.ok (.ret (.bool true))/\OldK i.heap s'.heap/\s'.os=i.os/\AllBare s'.gens) i:=by
  intro H hT hO hS G W hK;have g:∀{b:Addr} {o:Obj},i.heap.get? b=some o->H b=none->(aFr i.heap H).get? b=some o:=λe n=>bAa e n;have U:∀{b:Addr} {o:Obj} {D:Array DictEntry} {E:Nat},i.heap.get? b=some o->o.data=.dict D E->H b=none:=λ{b o D E} e d=>by
   cases q:H b with
   |none=>rfl
   |some u=>
    rcases W b (by rw[q];simp) with e'|⟨p,c,e'⟩
    .subst e';rw[N] at e;cases e;have d':Data.seq vs.toArray _=Data.dict D E:=d;cases d'
    .subst e';rw[(l p c).1] at e;cases e;have d':Data.fields _=Data.dict D E:=d;cases d'
  have A:∀{b:Addr} {m:bGF},i.heap.Ns b m->(aFr i.heap H).Ns b m:=λ{b m} (o,D,E,e,d,r)=>(o,D,E,g e (U e d),d,r);have I:K.In (aFr i.heap H):=λb o e=>g (KX b o e) (by
   cases q:H b with
   |none=>rfl
   |some u=>
    rcases W b (by rw[q];simp) with e'|⟨p,c,e'⟩
    .subst e';rw[hK (by rw[q];simp)] at e;cases e
    .subst e';rw[(l p c).2.2] at e;cases e)
  have O:BM mg (aFr i.heap H):=by
   have(X,Y,b1,b2,Q,b4,b5,b6):=a4;refine(X,Y,b1,b2,g Q ?_,b4,b5,b6);cases q:H X with
   |none=>rfl
   |some u=>
    rcases W X (by rw[q];simp) with e'|⟨p,c,e'⟩
    .rw[e',N] at Q;cases Q;cases (show Data.seq vs.toArray _=Data.plain from b6)
    .rw[e',(l p c).1] at Q;cases Q;cases (show Data.fields _=Data.plain from b6)
  have hM:Mod K mg (aFr i.heap H):=(I,A T,(mb,A f,a7),let (mc,h1,h2):=a1;(mc,A h1,h2));have e0:aIy P w K mg (aFr i.heap H) callerA [] i H:=(4,hM,λb o e=>bCo e,bFH (aW6 _ _),trivial,λb f=>absurd (show b∈([]:List Addr) from f) (9),G,.of_eq hg);refine bDC ((F _ I (A T) O).run callerA [] i H ([.ref a],[]) [.ref a] [.ref a] _ _ hr e0 (a0 i (.ref a)) (.cons rfl .nil) (a3 H hT hS)) λr s' h=>?_;cases r with
  |error e=>exact (a6 H e s' h).elim
  |ok fl=>
   cases fl with
   |next=>exact False.elim h
   |brk=>exact False.elim h
   |cont=>exact False.elim h
   |ret u=>
    have(v,H',os,S,un,t,r',q):=h;have(q',qT):=(show v=.bl true/\vK ts H' from q);subst q';obtain rfl:u=Value.bool true:=r';have kp:∀b o,i.heap.get? b=some o->(∀p∈ts,b≠p.1)->s'.heap.get? b=some o:=λb o e f=>by
     cases q:H b with
     |none=>exact un.keep b o e q (by intro z;exact absurd (show b∈([]:List Addr) from z) (9)) (9)
     |some u=>
      rcases hO b f with z|⟨Y,xs,z⟩
      .rw[q] at z;cases z
      .have z2:=un.frzs b Y _ z;have(j,_):=G b _ z;have(M,_):=t b _ z2;rw[e] at j;cases j;exact M
    refine(4,(λb o e=>?_,λb o e=>?_),os,S)
    .by_cases f:∃p∈ts,b=p.1
     .have(p,c,rfl):=f;have(ps,j,_):=t p.1 _ (qT p c);rw[(l p c).1] at e;cases e;exact .inr (.inl ((l p c).2.1,4,#[],ps,4,by rw[j];simp))
     .exact .inl (kp b o e λp c z=>f (p,c,z))
    .by_cases f:∃p∈ts,b=p.1
     .have(p,c,rfl):=f;have(ps,j,_):=t p.1 _ (qT p c);exact(_,j)
     .exact(o,kp b o e λp c z=>f (p,c,z))
 have aT:∀p∈ts,p.1≠a:=λp c z=>by have:=(l p c).1;rw[z,N] at this;cases this
 have J:∀p∈ts,qH ts p.1=some p.2:=λp c=>aTp a2 c;have C:∀b,(∀p∈ts,b≠p.1)->qH ts b=none:=λb f=>aXl f;have R:∀(H:Hp) (p:Addr × Str),p∈ts->gK P w H i.heap p.1 (.tab p.2):=λH p c=>(#[],(l p c).1,trivial,λa5 cv z=>by cases z);cases Z:K.lookup a with
 |some o=>
  have e:=KX a o Z;rw[N] at e;cases e;refine B (λb=>(qH ts b).map .tab) (λp c=>by show (qH ts p.1).map _=_;rw[J p c];rfl) (λb f=>.inl (by show (qH ts b).map _=_;rw[C b f];rfl)) (.inr (_,vs.toArray,_,Z,24,by rw[j7,L];exact hl,by simpa using rv)) (λb u z=>?_) (λb z=>?_) λz=>?_
  .have(qn,y,rfl):=Option.map_eq_some_iff.mp (show (qH ts b).map .tab=some u from z);have(p,c,j,M):=sV y;subst j M;exact R _ p c
  .refine .inr ?_;cases y:qH ts b with
   |none=>exact absurd (show (qH ts b).map HO.tab=none by rw[y];rfl) z
   |some qn=>have(p,c,j,_):=sV y;exact(p,c,j.symm)
  .exact absurd (show (qH ts a).map HO.tab=none by rw[C a λp c z=>aT p c z.symm];rfl) z
 |none=>
  refine B (λb=>if b=a then some (.frz { cls:=.type "list",data:=.seq vs.toArray } (.lst (ns.map V.int))) else (qH ts b).map .tab) (λp c=>by show (if p.1=a then _ else (qH ts p.1).map HO.tab)=_;rw[if_neg (aT p c),J p c];rfl) (λb f=>?_) (.inl (.inr ({ cls:=.type "list",data:=.seq vs.toArray },if_pos rfl))) (λb u z=>?_) (λb z=>?_) λ_=>Z
  .by_cases h:b=a
   .exact .inr (00,if_pos h)
   .exact .inl (by rw[if_neg h,C b f];rfl)
  .by_cases f:b=a
   .have z':=(if_pos f).symm.trans z;cases z';subst f;exact(N,by rw[d7];exact hl,vs,_,rv,N)
   .have z':=(if_neg f).symm.trans z;have(qn,y,rfl):=Option.map_eq_some_iff.mp z';have(p,c,j,M):=sV y;subst j M;exact R _ p c
  .by_cases f:b=a
   .exact .inl f
   .refine .inr ?_;cases y:qH ts b with
    |none=>exact absurd (show (if b=a then _ else (qH ts b).map HO.tab)=none by rw[if_neg f,y];rfl) z
    |some qn=>have(p,c,j,_):=sV y;exact(p,c,j.symm)
def aZk {l:PySem.W.OpenLaw}{n k:Nat}{q:Program}{loose:List Str}{XP:(bGF)->Heap->Prop}{YP:World->Heap->Prop}{d:DefRec}{K:Params->bGC}{CX:World->CXT}{sp:World->Sp}{x:Str}
  (hn:l.most=some n) (B:n<=sizeLine) (R:d.params.defaults=[]) (hr:Room k callerA)
  (ts:List (Addr × Str)) (L:(ts.map (·.1)).Nodup)
  (hY:∀(w:World) (h:Heap),YP w h->(K w.params).In h/\∀p∈ts,h.get? p.1=some { cls:=.none,data:=.fields #[] })
  (O:∀(w:World),∀p∈ts,(∃c,PySem.W.codeHdIn (K w.params) c p.1=true)/\(K w.params).lookup p.1=none)
  (F:∀(w:World) (mg:bGF) (fa:Addr) (h:Heap),(K w.params).In h->h.Ns mainGlobals mg->mg d.name=some (.ref fa) ->
   ∃fd:FuncData,(∀(s:Shared) (u:Value),BindsTo s fd ([u],[]) [(x,u,)]) /\
    ∀base:Heap,(K w.params).In base->base.Ns mainGlobals mg->BM mg base->mZ l.prog w (K w.params) mg base (CX w) k fa fd [x] (sp w))
  (N:∀(w:World) (H:Hp) (a:Addr) (ns:List Int),ns.length<=n->vK ts H->SqL (K w.params) H a (ns.map V.int)->sp w [.ref a] H (λv H'=>v=.bl true/\vK ts H') λ_ _ _=>False)
  (J:∀(w:World) (H:Hp) (s:Shared) (e:Value) (s':Shared),CX w [] H s (λ_ _ _=>False) e s'->False) :
  PySem.W.WalkO q loose XP YP l.row.toRowW d [] (λf vs=>PySem.call f vs):=by
 refine Att.aOu hn R λw s₀ M mg Z fa o pm X C a vs ns G Y U hd A z r m j I=>?_;have(y,i):=hY w _ Y;have(fd,S,D):=F w mg fa _ y G.T.g z;refine aVg y G.T.g G.T.b G.T.builtins G.T.nolimit I r m (bAM j B) hr ts (λp t=>(i p t,8,(O w p t).2)) L G.T.bmain D S (λH Q P=>N w H a ns j Q P) λH e s'=>J w H M e s';have(c,E):=(O w p t).1;exact Heap.TableAt.isCodeTable ((PySem.W.codeHd_of_K y E).tab (i p t))
def dU (K:bGC)(H:Hp)(u:V)(r:List V):Prop:=∃a,u=.ref a/\SqT K H a r
def dU.same {K:bGC}{H H':Hp}{u:V}{r:List V}(e:Same H H')(h:dU K H u r):dU K H' u r:=by have(a,rfl,b):=h;exact(a,4,e.aG b)
def KdV:Bool->V->Prop
 |true,x=>∃i,x=.int i
 |false,x=>∃z,x=.str z
def KdR (ks:List Bool)(r:List V):Prop:=Al2 KdV ks r
def rlt:List V->List V->Bool
 |.int a::xs,.int b::ys=>if (a == b)=true then rlt xs ys else decide (a<b)
 |.str a::xs,.str b::ys=>if (a == b)=true then rlt xs ys else decide (a.cps.toList<b.cps.toList)
 |_,_=>false
def srt (rs:List (List V)):List (List V):=(PySem.W.rR rs.length λi j=>rlt (rs.getD i []) (rs.getD j [])).map λi=>rs.getD i []
def bDw (rs:List (List V)):(srt rs).length=rs.length:=by unfold srt;rw[d7,PySem.W.aIk]
def bDd (h:r∈srt rs):r∈rs:=by
 have(i,a,rfl):=List.mem_map.mp h;have:=PySem.W.aAs a;have e:rs.getD i []=rs[i]:=by simp[this]
 rw[e];exact bAR this
def Al2.get {α β:Type}{R:α->β->Prop}{as:List α}{bs:List β}(h:Al2 R as bs){i:Nat}{a:α}{b:β}(d:as[i]?=some a)(f:bs[i]?=some b):R a b:=by have(c,e,r):=h.at d;rw[f] at e;cases e;exact r
def bC5 (ks:List Bool):∀{r1 r2:List V} {i1 i2:List Value},KdR ks r1->KdR ks r2->Vals r1 i1->Vals r2 i2->∀i:Nat,Q (rlt r1 r2) s->PySem.W.KatLex prog w A b false Q (i1.zip i2) i s:=by
 induction ks with
 |nil=>intro r1 r2 i1 i2 d a c f i q;cases d;cases a;cases c;cases f;exact q
 |cons k ks ih=>
  intro r1 r2 i1 i2 d a c f i q;cases d with
  |cons a1 t1=>
   cases a with
   |cons a2 t2=>
    cases c with
    |cons p1 w1=>
     cases f with
     |cons p2 w2=>
      cases k with
      |true=>
       have(x,rfl):=a1;have(y,rfl):=a2;have(t,rfl):=p1;have(u,rfl):=p2;refine (bFM x t y u) prog w _ _ ?_;change Q (if (x == y)=true then rlt _ _ else decide (x<y)) s at q;by_cases e:(x == y)=true
       .rw[e,if_pos rfl];rw[if_pos e] at q;exact ih t1 t2 w1 w2 (i+1) q
       .rw[if_neg e] at q;rw[Bool.not_eq_true] at e;rw[e,if_neg (6)];cases g:(b && i == 0) with
        |true=>exact oneLt_int q
        |false=>exact PySem.W.kat_one _ _ (lt_int q)
      |false=>
       have(x,rfl):=a1;have(y,rfl):=a2;have(t,rfl):=p1;have(u,rfl):=p2;refine (bCR x t y u) prog w _ _ ?_;change Q (if (x == y)=true then rlt _ _ else decide (x.cps.toList<y.cps.toList)) s at q;by_cases e:(x == y)=true
       .rw[e,if_pos rfl];rw[if_pos e] at q;exact ih t1 t2 w1 w2 (i+1) q
       .rw[if_neg e] at q;rw[Bool.not_eq_true] at e;rw[e,if_neg (6)];cases g:(b && i == 0) with
        |true=>exact oneLt_str q
        |false=>exact PySem.W.kat_one _ _ (lt_str q)
def bAy (K:bGC):List V->Hp->VK->Prop:=λxs H Q=>∃l us rs ks,xs=[.ref l]/\SqL K H l us/\Al2 (dU K H) us rs/\us.length<64/\ks≠[]/\(∀r∈rs,KdR ks r) /\
 ∀D H' us',H D=none->Same H H'->H' D=some (.lst us')->Al2 (dU K H) us' (srt rs)->Q (.ref D) H'
def bDm (I:Inv X bGG σ H s)(kp:∀b o,s.heap.get? b=some o->h'.get? b=some o):∀{us:List V} {rs:List (List V)} {its:List Value},Al2 (dU X.K H) us rs->Vals us its->(∀r∈rs,KdR (k::ks) r) ->
  ∃fs,PySem.W.KatTups h' its fs/\fs.length=its.length/\∀f∈fs,∀M:Model,PySem.W.Looks M h' (typeOf f) (.type (if k=true then "int" else "str")):=by
 intro us rs its v
 induction v generalizing its with
 |nil=>intro d _;cases d;exact([],.nil,4,λf h=>by cases h)
 |@cons a0 r as0 bs0 hr t ih=>intro d e;cases d with
  |cons q z=>
   have(fs,B,p,w):=ih z λr m=>e r (j8 _ m);have(a,rfl,j):=hr;cases q;have(C,x,(o,l,y,n,A),_):=I.tuple j;have c:=e r (v7 ..);cases c with
   |cons hx _=>
    cases x with
    |@cons _ f _ fr rx _=>
     refine(f::fs,.cons (kp _ _ l) y A (9) B,by rw[p8,p8,p],λg hg M=>?_);rcases List.mem_cons.mp hg with rfl|hg
     .cases k with
      |true=>have(i,rfl):=hx;have(u,rfl):=rx;exact .now
      |false=>have(i,rfl):=hx;have(u,rfl):=rx;exact .now
     .exact w g hg M
def aY9 (I:Inv X bGG σ H s)(G:Vals us its)(z:Al2 (dU X.K H) us rs)(a0:ks≠[])(U:∀r∈rs,KdR ks r)(A:Around)(h2:2<=its.length)(h':Heap)(kp:∀b o,s.heap.get? b=some o->h'.get? b=some o) :
  ∃κ,(∀Q,Q κ { s with heap:=h' }->wpAny (model X.prog X.w) A (keyKind' its.toArray) Q (λ_ _=>False) { s with heap:=h' })/\∀i j C,i<its.length->j<its.length->C (rlt (rs.getD i []) (rs.getD j [])) { s with heap:=h' }->PySem.W.kas_ask X.prog X.w A κ its i j C { s with heap:=h' }:=by
 have e1:=G.length;have e2:=z.len;obtain⟨k,c,rfl⟩:∃k c,ks=k::c:=by
  cases ks with
  |nil=>exact absurd rfl a0
  |cons k c=>exact(k,c,4)
 have(fs,S,t2,t3):=bDm I kp z G U;refine(_,λQ Z=>PySem.W.kat_kind (s:={ s with heap:=h' }) (T:=.type (if k=true then "int" else "str")) S (5) (λv q=>t3 v q _) (9) Z,λi j C D R E=>?_);have g:∀{i:Nat},i<its.length->∃a o r l n,its.getD i Value.none=.ref a/\h'.get? a=some o/\o.data=.seq (List.toArray l) n/\Vals r l/\rs.getD i []=r/\KdR (k::c) r:=λ{i} D=>by
  have e:i<us.length:=by lia
  have d:i<rs.length:=by lia
  have(a,ea,J):=z.get (b7 e) (b7 d);have(v,q,y):=G.get (b7 e);rw[ea] at y;cases y;have(l,O,(o,L,hc,n,P),_):=I.tuple J;refine(a,o,rs[i],l,n,8,kp _ _ L,P,O,by simp[d],U _ (bAR d));rw[bAB,q];rfl
 have(a,o,r1,M,n1,V,N,Y,F,g5,B):=g D;have(b,o',r2,x2,n2,u,m,t,f,p,h):=g R;show wpAny _ _ (keyLt' _ (its.getD i Value.none) (its.getD j Value.none)) C _ _;rw[V,u];refine PySem.W.kat_lt N Y m t ?_;have x:decide ((List.toArray M).size<(List.toArray x2).size)=false:=by rw[j7,j7];have:=F.length;have:=f.length;have:=Al2.len B;have:=Al2.len h;exact j9 (5)
 rw[x];refine bC5 (k::c) B h F f 0 ?_;rw[g5,p] at E;exact E
def aXk (f:Vals us its):∀L:List Nat,(∀i∈L,i<us.length)->Vals (L.map λi=>us.getD i .non) (L.map λi=>its.getD i Value.none):=by
 intro L
 induction L with
 |nil=>intro _;exact .nil
 |cons i L ih=>intro a;have b:=a i (v7 ..);have(v,e,d):=f.get (b7 b);refine .cons ?_ (ih λj c=>a j (j8 _ c));show RelV (us.getD i .non) (its.getD i Value.none);rw[bAB,b7 b,bAB,e];exact d
def aVp {K:bGC}{H:Hp}{us:List V}{f:List (List V)}(d:Al2 (dU K H) us f):∀L:List Nat,(∀i∈L,i<us.length)->Al2 (dU K H) (L.map λi=>us.getD i .non) (L.map λi=>f.getD i []):=by
 intro L
 induction L with
 |nil=>intro _;exact .nil
 |cons i L ih=>
  intro b;have c:=b i (v7 ..);have a:i<f.length:=by have:=d.len;lia
  refine .cons ?_ (ih λj e=>b j (j8 _ e));show dU K H (us.getD i .non) (f.getD i []);rw[bAB,b7 c,bAB,b7 a];exact d.get (b7 c) (b7 a)
def aP3:cZ X (.builtin "sorted") (bAy X.K):=by
 intro p s σ H E A Q I r h;have(l,F,g,D,rfl,v,c,n,f,y,q):=h;have(u,rfl,z):=vals1 r;cases z;have(a,k,t,C):=I.list v;have B:=k.length;have G:=c.len;refine PySem.W.aK8 t.isList (5) (aY9 I k c f y _) ?_;have(e,x):=sortedAll_at s.heap a (List.toArray ((PySem.W.rR a.length λi j=>rlt (g.getD i []) (g.getD j [])).map λi=>a.getD i Value.none));have m:=I.hok.fresh (bEJ _);have w:a.length=g.length:=by lia
 refine(.ref (s.heap.objs.size+1),_,I.laid (t':=s.toks) (λb o q=>sortedAll_old q) (bEJ _) ?_,4,q _ _ _ m (bJ m _) aO (aVp c _ λi d=>by have:=PySem.W.aAs d;lia));refine(small (by rw[d7,PySem.W.aIk];lia),_,e,8,x);rw[w];exact aXk k _ λi d=>by have:=PySem.W.aAs d;lia
section
variable {P:Program}{w:World}{K:bGC}{mg:bGF}{base:Heap}
def bBl (K:bGC)(mg:bGF)(x:Str)(Pt:Addr):Prop:=∃f o fd c,mg x=some (.ref f)/\K.lookup f=some o/\o.data=.func fd/\fd.code=.ref c/\PySem.W.codeHdIn K c Pt=true
def Ok.bLm {x:Str}{st:Stmt}{N ps:List Str}{k:Nat}{sp:Sp}{Pt:Addr}(D:Dn K mg x st ps)(C:bBl K mg x Pt)(I:K.In base)(S:aN N ps (aD st))(v:∀vs H Q E,sp vs H Q E->vs.length=ps.length)
  (d:∀(f c:Addr) (A:Around) (outer:List Env) (s:Shared) (H:Hp) (vs:List V) (Q:VK) (E:XK),PySem.W.CodeHd base c Pt->Room k (A.deeper (envOfC x (aD st) s.heap.objs.size f (.ref c)))->sp vs H Q E ->
   ∃t,VSs (aBj CX0 P w K mg base N x (aD st) f (.ref c) A outer s H E).nox (iG st) t/\t { nx:=λ_ H'=>Q .non H',rt:=Q } (start N vs) H):!Ok (k+1) x ps sp:=by
 have(f,o,F,B,m):=D;have(R,O,z,c,l,a,j,g,r):=C;rw[m] at l;cases l;exists f,o,m,F.kp,B;have(U,J,kV,u,M,T,G,L,p,rfl,n,b):=F.ex;rw[n] at a;cases a;cases j;have e:=g;subst e;refine bFa n b S v λA outer s H vs Q E y i=>?_;have(t,h,q):=d f c A outer s H vs Q E (PySem.W.codeHd_of_K I r) y i;exact(t,h.1.nox,q)
end
section
variable {X:Cx}{H:Hp}{s:Shared}{d:Addr}
def bDs (j:HOk X.prog X.w H s.heap)(i:H d=some u)(k:∀xs,u≠.tup xs)(l:∀a,u≠.own a)(h:gK X.prog X.w H s.heap d u'):HOk X.prog X.w (upd H d u') s.heap:=by
 have f:∀{b v},gK X.prog X.w H s.heap b v->gK X.prog X.w (upd H d u') s.heap b v:=λ{b v} z=>z.stay (λ_ _ _ q=>q) (λc q=>by
  rw[bC (λe=>by subst e;rw[i] at q;exact l _ (bAL q))];exact q) λc xs q=>by
  rw[bC (λe=>by subst e;rw[i] at q;exact k _ (bAL q))];exact q
 intro b v e;by_cases g:b=d
 .subst g;rw[aO] at e;cases e;exact f h
 .rw[bC g] at e;exact f (j b v e)
def Inv.setd (I:Inv X bGG σ H s)(i:H d=some u)(l:∀xs,u≠.tup xs)(t:∀a,u≠.own a)(A:∀ps,u≠.tbl ps)(y:∀ob v,X.H₀ d≠some (.frz ob v))(h:gK X.prog X.w H s.heap d u'):Inv X bGG σ (upd H d u') s:=by
 have g:∀{b},H b=none->upd H d u' b=none:=λ{b} e=>by rw[bC (λz=>by subst z;rw[i] at e;cases e)];exact e
 refine(I.ok,I.os,I.bare,(I.base.keep,I.base.slot,λb ob e n r=>g (I.base.free b ob e n r),I.base.there,λb xs e=>?_,λb ob v e=>?_,λb ps e=>?_),I.loc,I.cell,g I.free,λx c e=>g (I.freeC x c e),λp o=>?_,bDs I.hok i l t h,I.len)
 .have q:=I.base.tups b xs e;rw[bC (λz=>by subst z;rw[i] at q;exact l _ (bAL q))];exact q
 .have q:=I.base.frzs b ob v e;rw[bC (λz=>by subst z;exact y _ _ e)];exact q
 .have(f,q):=I.base.tbls b ps e;exists f;rw[bC (λz=>by subst z;rw[i] at q;exact A _ (bAL q))];exact q
 .have(m,j,k):=I.pin p o;exact(m,g j,k)
end
def aTr (a:o.data=.dict es ep)(m:gK P w H h d (.frz o (.dK kvs))):∃vs,KV kvs vs/\h.DictAt (cO P w) d vs ep:=by have(e,_,_,vs,b,(l,i,g,f,j,c,k)):=m;rw[e] at f;cases f;rw[a] at c;cases c;exact(vs,b,o,es,e,j,a,k)
def bJ7 (d:Addr)(kvs:List (Key × V))(D:Ends):Ends:={ nx:=fun σ H=>(∃o,H d=some (.frz o (.dK kvs)))/\D.nx σ (upd H d (.dK kvs)),rt:=λv H=>(∃o,H d=some (.frz o (.dK kvs)))/\D.rt v (upd H d (.dK kvs)) }
def bJv (X:Cx)(t:TS):TS:=λD σ H=>∃d kvs,H d=some (.dK kvs)/\((∀ob u,X.H₀ d≠some (.frz ob u))->t (bJ7 d kvs D) σ H)
def bD5 {st:Stmt}{t:TS}(h:VS X st t):VS X st (bJv X t):=⟨by
 rintro bGG s σ H D I ⟨d,kvs,hd,q⟩;have n:∀m u,X.H₀ d≠some (.frz m u):=λm u e=>by have:=I.base.frzs d m u e;rw[hd] at this;cases this
 have a:∀{b i j o},Inv X bGG b i j->i d=some (.frz o (.dK kvs))->Inv X bGG b (upd i d (.dK kvs)) j:=λ{b i j o} g c=>g.setd c (λ_ z=>by cases z) (λ_ z=>by cases z) (λ_ z=>by cases z) n (g.hok d _ c).2;refine thn (h.1 bGG s σ H _ I (q n)) λf j k=>?_;cases f with
 |next=>have(b,i,g,(o,c),l):=k;exact(b,_,a g c,l)
 |brk=>have(_,_,_,z):=k;exact z.elim
 |cont=>have(_,_,_,z):=k;exact z.elim
 |ret u=>have(v,b,i,g,r,(o,c),l):=k;exact(v,b,_,a g c,r,l)⟩
end L2
namespace PySem
section
variable {K:Type}[DecidableEq K]
end
end PySem
namespace L2
open PySem PySem.Spec PyProof.Rows
end L2
namespace PySem
end PySem
namespace L2
open PySem PySem.Spec PyProof.Rows
end L2
namespace PySem
def bEh {it d:Addr}{i ep:Nat}{od:Obj}{es:Array DictEntry}{C k:Value}{Q:Option Value->Shared->Prop}(n:IsItemIter s.heap it d i es.size ep C k)(R:s.heap.get? d=some od)(V:od.data=.dict es ep)(lt:i<es.size)
  (q:∀h',IsItemIterOut h' it d (i+1) es.size ep es[i].key es[i].val s.heap.objs.size->h'.get? s.heap.objs.size=some { cls:=.type "tuple",data:=.seq #[es[i].key,es[i].val] }->h'.objs.size=s.heap.objs.size+1 ->
   (∀b o,b≠it->s.heap.get? b=some o->h'.get? b=some o)->Q (some (.ref s.heap.objs.size)) { s with heap:=h' }):wpAny (model prog w) A (pyNext (.ref it)) Q E s:=by
 have j:s.TypeIs (.ref it) "dict_itemiterator":=(_,n,4);have S:it<s.heap.objs.size:=v8 n;unfold pyNext;refine b8 (bDY (bAP (name:="__next__") j F.slot_dict_itemiterator_next (bAN F.slot_dict_itemiterator_next j F.entry_dict_itemiterator_next (b8 (d9 (b8 (b8 ?_)))) (F.args_dict_itemiterator_next_1 _))));refine b8 (bCT j (d9 (b8 (bEC n rfl ?_))));rw[show Builtin.Dict_items.ownsTuple "dict_itemiterator"=true from by decide];simp only[if_true];have J:¬ ((Value.ref d == Value.none)=true):=z9;show wpAny _ _ (ite ((Value.ref d == Value.none)=true) _ _) _ _ _;rw[if_neg J];refine b8 (d9 (b8 (bFX R V ?_)));rw[if_neg (9)];refine b8 (d9 (b8 (wpAny_dictEpoch R V ?_)));rw[if_neg (9)];have U:¬ ((i:Int)<0):=by lia
 refine d9 ?_;simp only[U,if_false,bAQ,bAC lt];refine b8 (b8 (bCT j (d9 (b8 (bES j ?_)))));show wpAny _ _ (setField (.ref it) 3 (rawInt ((i:Int)+1)) >>= _) _ _ s;refine b8 (bAY n (9) λa K H=>?_);have I:IsItemIter a it d (i+1) es.size ep C k:=by
  have z:((i+1:Nat):Int)=(i:Int)+1:=by lia
  unfold IsItemIter;rw[z];simpa [rawInt] using K
 have h:Shared.TypeIs { s with heap:=a } (.ref it) "dict_itemiterator":=(_,I,4);refine b8 (bBC (b8 (bES h (b8 (bES h ?_)))));have sz1:a.objs.size=s.heap.objs.size:=H.1;show wpAny _ _ (Builtin.Dict_items.pairFromOwner (.ref it) 6 es[i].key es[i].val) _ _ { s with heap:=a };unfold Builtin.Dict_items.pairFromOwner;refine b8 (bFP ?_);have g:IsItemIter (a.push { cls:=.type "tuple",data:=.seq #[es[i].key,es[i].val] }) it d (i+1) es.size ep C k:=c7 _ I;have t:(a.push { cls:=.type "tuple",data:=.seq #[es[i].key,es[i].val] }).get? s.heap.objs.size=some { cls:=.type "tuple",data:=.seq #[es[i].key,es[i].val] }:=by rw[<-sz1];exact m5 _ rfl
 have sz2:(a.push { cls:=.type "tuple",data:=.seq #[es[i].key,es[i].val] }).objs.size=s.heap.objs.size+1:=by rw[bBT,sz1]
 have u:∀b o,b≠it->s.heap.get? b=some o->(a.push { cls:=.type "tuple",data:=.seq #[es[i].key,es[i].val] }).get? b=some o:=λb o c e=>c7 _ (H.extBut b o c e);rw[show ({ s with heap:=a }:Shared).heap.objs.size=s.heap.objs.size from sz1];show wpAny _ _ (Builtin.Dict_items.ownedTupleIsFree (.ref it) >>= _) _ _ { s with heap:=a.push { cls:=.type "tuple",data:=.seq #[es[i].key,es[i].val] } };generalize a.push { cls:=.type "tuple",data:=.seq #[es[i].key,es[i].val] }=h2 at g t sz2 u ⊢;unfold Builtin.Dict_items.ownedTupleIsFree;refine b8 (b8 (bCA g rfl (x:=.none) rfl (d9 ?_)));simp only[if_true];refine b8 (bCA g rfl (x:=C) rfl (b8 (bCA g rfl (x:=k) rfl (b8 (bAY g (9) λp L D=>?_)))));have P:IsItemIter p it d (i+1) es.size ep es[i].key k:=L;refine b8 (bAY P (9) λm W v=>?_);have O:IsItemIter m it d (i+1) es.size ep es[i].key es[i].val:=W;refine b8 (bAY O (9) λl T y=>?_);have N:IsItemIterOut l it d (i+1) es.size ep es[i].key es[i].val s.heap.objs.size:=T;refine b8 (bAY N (9) λf X B=>?_);have M:IsItemIterOut f it d (i+1) es.size ep es[i].key es[i].val s.heap.objs.size:=X;have G:∀b o,b≠it->h2.get? b=some o->f.get? b=some o:=λb o c e=>B.extBut b o c (y.extBut b o c (v.extBut b o c (D.extBut b o c e)));have r:f.objs.size=s.heap.objs.size+1:=by have Z:p.objs.size=h2.objs.size:=D.1;have Y:m.objs.size=p.objs.size:=v.1;have a5:l.objs.size=m.objs.size:=y.1;have a6:f.objs.size=l.objs.size:=B.1;lia
 exact b8 (wpAny_letGo (d9 (d9 (3,d9 (q f M (G _ _ (bDA S) t) r λb o c e=>G b o c (u b o c e))))))
def aSy (l:A.handled=none)(c:IsItemIter s.heap it d es.size es.size ep k0 v0)(j:s.heap.get? d=some od)(h:od.data=.dict es ep)
  (q:∀h',Heap.ExtBut it s.heap h'->Q none { s with heap:=h' }):wpAny (model prog w) A (pyNext (.ref it)) Q E s:=by
 have a:s.TypeIs (.ref it) "dict_itemiterator":=(_,c,4);unfold pyNext;refine b8 (bDY (bAP (name:="__next__") a F.slot_dict_itemiterator_next (bAN F.slot_dict_itemiterator_next a F.entry_dict_itemiterator_next (b8 (d9 (b8 (b8 ?_)))) (F.args_dict_itemiterator_next_1 _))));refine b8 (bCT a (d9 (b8 (bEC c rfl ?_))));rw[show Builtin.Dict_items.ownsTuple "dict_itemiterator"=true from by decide];simp only[if_true];have f:¬ ((Value.ref d == Value.none)=true):=z9;show wpAny _ _ (ite ((Value.ref d == Value.none)=true) _ _) _ _ _;rw[if_neg f];refine b8 (d9 (b8 (bFX j h ?_)));rw[if_neg (9)];refine b8 (d9 (b8 (wpAny_dictEpoch j h ?_)));rw[if_neg (9)];have g:¬ ((es.size:Int)<0):=by lia
 refine d9 ?_;simp only[g,if_false,bAQ,bCI (j6 es.size)];refine b8 (b8 (bCT a (d9 ?_)));show wpAny _ _ (setField (.ref it) 2 .none >>= _) _ _ s;refine b8 (bEN c rfl (9) ?_);exact rE (show A.in1.handled=none from l) λh' e k t=>b8 (bDS (b:=true) t isSubtype_stop (d9 (q _ λb o i z=>k b o ((bCJ ..).extBut b o i z))))
def bBe (b:(d == sysModules)=false)(a:s.TypeIs (.ref d) "dict")
  (q:Q (.ref s.heap.objs.size) { s with heap:=s.heap.push { cls:=.type "dict_items",data:=.fields #[.ref d] } }):wpAny (model prog w) A (call (.builtin "dict.items") [.ref d]) Q E s:=by
 refine bAN F.slot_dict_items a F.entry_dict_items ?_ (F.args_dict_items_1 _);unfold Builtin.«dict.items» Builtin.Dict.noArgs;refine b8 (b8 (wpAny_notOrdered_dict a ?_));show wpAny _ _ (pure d) _ _ s;refine d9 ?_;show wpAny _ _ (Builtin.Dict.showsAll d >>= _) _ _ _;unfold Builtin.Dict.showsAll;rw[if_neg (show ¬ (d == sysModules)=true by rw[b];exact z9)];exact b8 (d9 (b8 (bAZ (d9 (3,q)))))
def aNm (a:s.heap.IsItemsView v d)(b:s.heap.get? d=some od)(e:od.data=.dict es ep)
  (q:Q (.ref s.heap.objs.size) { s with heap:=s.heap.push { cls:=.type "dict_itemiterator",data:=.fields #[.none,.bool false,.ref d,.int 0 0,.int es.size 0,.int ep 0,.none,.none] } }):wpAny (model prog w) A (pyIter (.ref v)) Q E s:=by
 have(h,c,g,f):=id a;refine bET a.typeIs F.slot_dict_items_iter (bAN F.slot_dict_items_iter a.typeIs F.entry_dict_items_iter ?_ (F.args_dict_items_iter_1 _));unfold Builtin.«dict_items.__iter__» Builtin.Dict_items.dictOf;refine b8 (d9 (b8 (b8 (bCA c f rfl (d9 ?_)))));refine b8 ?_;unfold Builtin.Dict_items.newIterator;refine b8 (bFX b e (b8 (wpAny_dictEpoch b e ?_)));rw[show Builtin.Dict_items.ownsTuple "dict_itemiterator"=true from by decide];simp only[if_true];refine bAZ (d9 (3,"dict_itemiterator",_,(_,m5 _ rfl,4),F.slot_dict_itemiterator_next.lookup,8)) (by simp only[sizeOk,Builtin.Dict_items.ownedTupleFields,j7,w6,p8,bBO,sizeLine_eq];lia);simpa [rawInt,Builtin.Dict_items.ownedTupleFields] using q
open Builtin in
def aD2:entryFor table "dict_itemiterator.__iter__"=some Builtin.«dict_keyiterator.__iter__»:=entryFor_alias (id':="dict_keyiterator.__iter__") (by kernel_rfl) rfl (0) (by kernel_rfl)
end PySem
namespace L2
open PySem PySem.Spec PyProof.Rows
def aRa (d:Addr)(o:Obj)(kvs:List (Key × V)):It:=
 (λi H=>H d=some (.frz o (.dK kvs))/\i<kvs.length,λi H x H'=>∃T kv,H T=none/\x=.ref T/\kvs[i]?=some kv/\H'=upd H T (.tup [kV kv.1,kv.2]),λi H=>H d=some (.frz o (.dK kvs))/\i=kvs.length)
def bJi (r:KV kvs vs):∀{i:Nat} {kv:Key × V},kvs[i]?=some kv->∃q,vs[i]?=some q/\kv.1=q.1/\RelV kv.2 q.2:=by
 unfold KV at r
 induction r with
 |nil=>intro i kv h;cases h
 |cons a _ ih=>
  intro i kv h;cases i with
  |zero=>cases h;exact(3,a)
  |succ i=>exact ih h
def bEs (h:(cO P w).is (Sum.inr n) key=true):∃t,key=.str n t:=by
 cases key with
 |str x t=>
  have e:x=n:=by simpa [cO,tZ,Value.isStrOf] using h
  exact(t,by rw[e])
 |_=>exact absurd (show false=true from h) z9
def bCt (h:(cO P w).is k key=true):RelV (kV k) key:=by
 cases k with
 |inr n=>exact bEs h
 |inl i=>
  cases key with
  |int j t=>
   have e:j=i:=by simpa [cO,tZ,Value.isInt] using h
   exact(t,by rw[e])
  |_=>exact absurd (show false=true from h) z9
def aLt {P:Program}{w:World}{K:bGC}{elts:List Expr}{kt:Nat}{pos:Pos}(d it:Addr)(o:Obj)(kvs:List (Key × V))(es:Array DictEntry)(ep:Nat)(g:o.data=.dict es ep) :
  Turn P w K (.Tuple elts kt pos) (aRa d o kvs) [it] it (λi h=>∃k0 v0,IsItemIter h it d i kvs.length ep k0 v0) where
 mem:=by simp
 obj:=λi h a b f=>by
  have e:b=it:=by simpa using f
  subst e;have(k0,v0,Y):=a;exact(_,Y,λv z=>by cases (show Data.fields _=Data.cell v from z))
 keep:=λi h O a k=>by have(k0,v0,Y):=a;exact(k0,v0,k it (9) _ Y)
 item:=by
  intro X N L R Z i m s σ H E I W a S;subst N L R;have(k0,v0,a):=a;have(n,T):=S;have(vs,l,od,D,B,_,c,_,j,_):=aTr g (I.hok d _ n);have t:=(I.hok d _ n).1;rw[t] at B;cases B;rw[g] at c;cases c;have C:es.size=kvs.length:=by rw[KV.length l,<-j.length,bAD]
  have u:=b7 T;have(x,hx,e1,e3):=bJi l u;have r:i<es.size:=by lia
  have(p,U):=j.get? (by rw[bBS];exact bAC r) hx;rw[<-e1] at p;have rk:=bCt p;have q:=W it (9);rw[<-C] at a;refine bEh a t g r λO J G a3 kp=>?_;rw[U] at J G;exists 3;have fT:=I.hok.fresh (j6 _);have y:=bAA (v8 a);have I1:Inv X m σ (upd H s.heap.objs.size (.tup [kV kvs[i].1,kvs[i].2])) { s with heap:=O }:=by
   refine I.drawn (ch:=[it]) (its:=[_,x.2]) (λb f=>?_) (λb o f e=>kp b o (by simpa using f) e) (j6 _) (.cons rk (.cons e3 .nil)) (small (9)) (.of G rfl (_,G,43)) (λb f=>?_)
   .have:b=it:=by simpa using f
    rw[this];exact q
   .have:b=it:=by simpa using f
    rw[this];exact(_,J)
  refine wpAny_letOwnedTupleGo_items J λh2 z2 s2=>?_;have(g0,g1,g2,g3,g4,g5):=q;have I2:=Inv.turned I1 (t':=s.toks) (λb o f e=>(s2.2 b f).trans e) (by rw[bC y];exact g0) g1 g3 g4 g5;refine(.ref s.heap.objs.size,_,I2,4,(_,kvs[i],fT,4,u,4),(00,by rw[<-C];exact z2),λb f=>?_);have:b=it:=by simpa using f
  rw[this,bC y];exact g0
 done:=by
  intro X N L R Z i m s σ H E I W a S;subst N L R;have(k0,v0,a):=a;have(f0,f1,f2,f3,f4,f5):=W it (9);have(n,T):=S;have(vs,l,od,D,B,_,c,_,j,_):=aTr g (I.hok d _ n);have t:=(I.hok d _ n).1;rw[t] at B;cases B;rw[g] at c;cases c;have C:es.size=kvs.length:=by rw[KV.length l,<-j.length,bAD]
  rw[T,<-C] at a;exact aSy (I.ok.hd Z) a t g λO eb=>(4,I.turned (t':=s.toks) (λb o f e=>eb b o f e) f0 f1 f3 f4 f5)
 self:=λA i s Q E a h=>by have(k0,v0,a):=a;have M:s.TypeIs (.ref it) "dict_itemiterator":=(_,a,4);refine bET M PySem.F.slot_dict_itemiterator_iter (bAN PySem.F.slot_dict_itemiterator_iter M PySem.aD2 ?_ (PySem.F.args_dict_itemiterator_iter_1 _));exact d9 (3,"dict_itemiterator",_,M,PySem.F.slot_dict_itemiterator_next.lookup,h)
section
variable {X:Cx}
def aTk (te:TE):TI:=fun σ H R=>te σ H λv H1=>∃d kvs,v=.ref d/\H1 d=some (.dK kvs)/\(∀kv∈kvs,∃n,kv.1=Sum.inr n)/\(∀ob u,X.H₀ d≠some (.frz ob u))/\∀o,R (aRa d o kvs) (upd H1 d (.frz o (.dK kvs)))
def aAe {elts:List Expr}{kt:Nat}{tp apos cpos:Pos}{e:Expr}{te:TE}(h:VE X e te)(k:!(attributeBase e "items" X.env (eval e X.env)=eval e X.env))(l:!((apos.endLine == cpos.line)=true)) :
  VI X (.Tuple elts kt tp) (.Call (.Attribute e "items" apos) [] [] cpos) (aTk (X:=X) te):=⟨by
 intro c s σ H R I C;refine wpAny_Call_method0_late k l (thn (h.1 c s σ H _ I C) ?_);rintro v s1 ⟨x,H1,I1,r1,q1⟩;have(d,a,e,g,P,G,q):=q1;subst e;cases r1;have(z,y,J,n,(o,j,u,p,D,m,K,f,B)):=aIe I1.hok g;have A:j.size=a.length:=by rw[KV.length n,<-f.length,bAD]
 have L:s1.TypeIs (.ref d) "dict":=(show s1.heap.DictOf (cO X.prog X.w) d J from (o,j,u,p,D,m,K,f,B)).typeIs;have(E,O):=aP0 (T:="dict") I1 (show RelV (.ref d) (.ref d) from rfl) (.inr (.inr (.inl (4,.inl (a,g)))));refine("dict","dict.items",PySem.F.plainAttrs_dict,PySem.F.slot_dict_items,PySem.F.type_dict_items,E,O,bEM rfl (PySem.evalArgs_none ?_));refine bBe y L ?_;have N:Inv X c σ (upd H1 d (.frz o (.dK a))) s1:=I1.setd g (λ_ z=>by cases z) (λ_ z=>by cases z) (λ_ z=>by cases z) G (p,I1.hok d _ g);have i:Inv X c σ (upd H1 d (.frz o (.dK a))) { s1 with heap:=s1.heap.push { cls:=.type "dict_items",data:=.fields #[.ref d] } }:=N.kept (t':=s1.toks) λb o e=>c7 _ e;have r:(s1.heap.push { cls:=.type "dict_items",data:=.fields #[.ref d] }).IsItemsView s1.heap.objs.size d:=(_,m5 _ rfl,44);have t:(s1.heap.push { cls:=.type "dict_items",data:=.fields #[.ref d] }).get? d=some o:=c7 _ p;generalize s1.heap.push { cls:=.type "dict_items",data:=.fields #[.ref d] }=hp at i r t ⊢;refine aNm (s:={ s1 with heap:=hp }) r t m ?_;refine(hp.objs.size,[hp.objs.size],13,i.kept (t':=s1.toks) λb o e=>c7 _ e,aLt d _ o a j u m,8,λb M=>?_,q o)
 .rw[<-A];exact(00,m5 _ rfl)
 .have e:b=hp.objs.size:=by simpa using M
  subst e;exact i.aMk (j6 _) (i.hok.fresh (j6 _))⟩
end
def aPo {d:Addr}{o:Obj}{kvs:List (Key × V)}{g:TG}{tb:TS}{D:Ends}{σ:L2.St}{H:Hp}(b:Nat->L2.St->Hp->Prop)(c:b 0 σ H)(j:∀i σ H,i<=kvs.length->b i σ H->H d=some (.frz o (.dK kvs)))
  (hs:∀i kv T σ H,kvs[i]?=some kv->b i σ H->H T=none->g (.ref T) σ (upd H T (.tup [kV kv.1,kv.2])) fun σ2 H2=>tb { D with nx:=b (i+1),ct:=b (i+1),bk:=D.nx } σ2 H2) (f:∀σ H,b kvs.length σ H->D.nx σ H) :
  ∃W:Nat->Nat->L2.St->Hp->Prop,(∃m,W 0 m σ H)/\∀i m σ H,W i m σ H ->
   ((aRa d o kvs).stop i H/\D.nx σ H)\/((aRa d o kvs).go i H/\∃N:L2.St->Hp->Prop,(∀σ' H',N σ' H'->∃m',m'<m/\W (i+1) m' σ' H')/\∀x H',(aRa d o kvs).yld i H x H'->g x σ H' fun σ2 H2=>tb { D with nx:=N,ct:=N,bk:=D.nx } σ2 H2):=by
 exists λi m σ H=>m=kvs.length - i/\i<=kvs.length/\b i σ H,((kvs.length,9,bAI _,c));rintro i m σ H ⟨rfl,hi,p⟩;have q:=j i σ H hi p;by_cases a:i<kvs.length
 .right;exists (q,a),b (i+1),(fun σ' H' h=>(kvs.length - (i+1),545,h));rintro x H' ⟨T,kv,hT,rfl,hkv,rfl⟩;exact hs i kv T σ H hkv p hT
 .left;have e:i=kvs.length:=by lia
  subst e;exact((q,4),f σ H p)
def bHw (X:Cx)(t:TE):TE:=fun σ H Q=>∃d kvs,H d=some (.dK kvs)/\((∀ob u,X.H₀ d≠some (.frz ob u))->t σ H λv H'=>(∃o,H' d=some (.frz o (.dK kvs)))/\Q v (upd H' d (.dK kvs)))
def aTi (h:VE X e t):VE X e (bHw X t):=⟨by
 rintro bGG s σ H Q I ⟨d,kvs,hd,q⟩;have b:∀a u,X.H₀ d≠some (.frz a u):=λa u e=>by have:=I.base.frzs d a u e;rw[hd] at this;cases this
 refine thn (h.1 bGG s σ H _ I (q b)) ?_;rintro u s' ⟨v,H',I',r,⟨o,ho⟩,q'⟩;exact(v,_,I'.setd ho (λ_ z=>by cases z) (λ_ z=>by cases z) (λ_ z=>by cases z) b (I'.hok d _ ho).2,r,q')⟩
def aBg {K:bGC}{d:Addr}{o:Obj}{kvs:List (Key × V)}{H:Hp}{A:L2.St}{te:TE}{Q:VK}(u:H d=some (.frz o (.dK kvs)))(B:Ps2 A A)(hsz:kvs.length<=1000)
  (Rel:Addr->Nat->Hp->V->Prop) (C:∀{D i H1 H2 y},Same H1 H2->Rel D i H1 y->Rel D i H2 y) (v:∀{D i H1 ys zs y},H1 D=some (.lst ys)->Rel D i H1 y->Rel D i (L2.upd H1 D (.lst zs)) y)
  (E:∀(i:Nat) (kv:Key × V),kvs[i]?=some kv->∀H' R D ys,Same H H'->H D=none->H' D=some (.lst ys)->(∀y H2,Same H' H2->Rel D i H2 y->R y H2)->te ((A.set 0 (some (kV kv.1))).set 1 (some kv.2)) H' R)
  (q:∀D H' ys,Same H H'->H D=none->H' D=some (.lst ys)->ys.length=kvs.length->(∀i y,ys[i]?=some y->Rel D i H' y)->Q (.ref D) H'):rW (aRa d o kvs) H A (aBt K 2 (lX (cF 0) (lX (cF 1) aGe))) lO te Q:=by
 intro D g;exists λi m p H' ys=>m=kvs.length - i/\i<=kvs.length/\Same H H'/\H' D=some (.lst ys)/\ys.length=i/\Ps2 A p/\∀j y,ys[j]?=some y->Rel D j H' y,((kvs.length,9,bAI _,bJ g _,aO,4,B,λj y e=>by cases e));rintro i m p H' ys ⟨rfl,hi,sm,gD,ly,hps,hr⟩;exists gD;by_cases n:i<kvs.length
 .right;exists (sm _ _ u,n);rintro x H2 ⟨T,kv,hT,rfl,hkv,rfl⟩;have c:Same H' (L2.upd H' T (.tup [kV kv.1,kv.2])):=bJ hT _;refine hg2 (SqT.of aO) hps fun F f l=>?_;have b:=l;subst b;dsimp only[lO];rw[if_pos rfl];refine E i kv hkv _ _ D ys (sm.trans c) g (c _ _ gD) λy w k s=>?_;have a:=k _ _ (c _ _ gD);have h:=sm.trans (c.trans k);refine(a,bBI (show ys.length<=1000 by lia) (6),kvs.length - (i+1),545,jV g h,aO,by rw[w6,ly];rfl,f,λj z e=>?_);by_cases t:j<ys.length
  .rw[bBX t] at e;exact v a (C (c.trans k) (hr j z e))
  .rw[bBF (5)] at e;have r:j - ys.length=0:=by have:=(List.getElem?_eq_some_iff.mp e).1;simpa using this
   rw[r] at e;cases e;have:j=i:=by lia
   rw[this];exact v a s
 .left;have e:i=kvs.length:=by lia
  subst e;exact((sm _ _ u,4),q D H' ys sm g gD ly hr)
def aNg {X:Cx}{scope:Scope}{N:List Str}{tl:TE}{te:TE}{tt:TT}{g:TG}{σ:L2.St}{H:Hp}{Q:VK}(b:L2.St)(a:Cap X scope N σ b)(h:tl σ H λv H1=>∃d kvs,v=.ref d/\H1 d=some (.dK kvs)/\(∀kv∈kvs,∃n,kv.1=Sum.inr n)/\(∀ob u,X.H₀ d≠some (.frz ob u))/\∀o,rW (aRa d o kvs) (upd H1 d (.frz o (.dK kvs))) b g tt te Q):jB X scope N (aTk (X:=X) tl) g tt te σ H Q:=(b,a,h)
def bDk:List V->Hp->VK->Prop:=λxs H Q=>∃d kvs,xs=[.ref d,.ty "dict"]/\H d=some (.dK kvs)/\Q (.bl true) H
def aLz:cZ X (.builtin "isinstance") bDk:=by intro b s σ H p m Q I r h;have(d,f,rfl,j,q):=h;have(u,v,rfl,e,g):=r.two;obtain rfl:v=Value.type "dict":=g;obtain rfl:u=Value.ref d:=e;have(z,l,n,k,a):=aIe I.hok j;have(o,c,i):=(show s.TypeIs (.ref d) "dict" from a.typeIs);exact call_isinstance (isinstance_true F.isi_meta_dict F.isi_self_dict) ((o,c,i),(.bl true,H,I,4,q))
def bHt (K:bGC):List V->Hp->VK->Prop:=λxs H Q=>∃t us kvs,xs=[.ref t]/\H t=some (.lst us)/\uI K H us kvs/\us.length<=1000/\∀p H',H p=none->Same H H'->H' p=some (.dK (jO [] kvs))->Q (.ref p) H'
def aEm (G:X.calm=true):cZ X (.type "dict") (bHt X.K):=by intro f s σ H M p Q I r h;have(t,p,a,rfl,k,A,L,q):=h;have(u,rfl,x):=vals1 r;cases x;have(F,B,n,b,g):=I.hok t _ k;have D:=b.length;have(J,d,i,z):=bAs I A b;have C:=KV.length d;refine zH true (I.ok.hd G) g rfl rfl rfl (by rw[j7];exact i) (by rw[j7];lia) (λj v m e o=>z j v m (by simpa using e) o) λE y l kp=>?_;have c:=I.hok.fresh (j6 _);refine(.ref s.heap.objs.size,_,I.laid (t':=y) kp (j6 _) ?_,4,q _ _ c (bJ c _) aO);have w:=mK a [];simp only[bBO] at w;exact(small (5),beq_eq_false_iff_ne.mpr (Ne.symm (bAA I.big)),_,KV.merge d .nil,l)
def bD3 (j:∀v s,X.xe v s->False)(i:PSs X body tb):PS X (.Try body (h₀::hs) [] [] pos) tb:=by
 intro b s σ H D I h;refine wpAny_Try_except (bBJ (i b s σ H D I h) (λf c a=>?_) λv c a=>(j _ _ a).elim);cases f with
 |next=>have(e,d,g,q):=a;exact bEF (e,d,g,q)
 |_=>exact a
def bEl (b:∀v s,X.xe v s->False)(a:VSs X body tb):VS X (.Try body (h₀::hs) [] [] pos) tb:=⟨bD3 b a.1⟩
def aWw {K:bGC}{tl:TA}{l:Addr}(xs:List V)(c:V)(n:St)(r:Cap X scope N σ n)(hsz:xs.length<=sizeLine)(k:SqL K H l xs)
  (w:∀R:List V->Hp->Prop,R [.ref l] H->tl σ H R)
  (A:∀(i:Nat) (x:V),xs[i]?=some x->∀H' R l1 l2,Same H H'->(∀H2,Same H' H2->R c H2)->te ((((n.set 0 l1).set 1 l2).set 0 (some (.int (i:Nat)))).set 1 (some x)) H' R) (y:n[0]?=some none) (z:n[1]?=some none)
  (q:∀D H',Same H H'->H' D=some (.lst (List.replicate xs.length c))->Q (.ref D) H') :
  jB X scope N (aXt K tl) (aBt K 2 (lX (cF 0) (lX (cF 1) aGe))) lO te σ H Q:=by
 refine(n,r,w _ (l,xs,4,k,λD j=>?_));exists λi m g H' f=>i<=xs.length/\m=xs.length - i/\(∃l1 l2,g=(n.set 0 l1).set 1 l2)/\Same H H'/\H' D=some (.lst f)/\f=List.replicate i c,(xs.length,bAI _,4,(none,none,8),bJ j _,aO,4)
 .rw[<-gA y];exact gA z
 rintro i m g H' f ⟨hi,rfl,⟨l1,l2,rfl⟩,sm,hL,rfl⟩;exists hL;by_cases a:i<xs.length
 .right;refine((sm.seq k,a),λv H2 s=>?_);have(T,b,p,rfl,rfl,t):=s;have d:Same H' (upd H' T (.tup [.int (i:Nat),b])):=bJ p _;exists T,[.int (i:Nat),b],4,.inl (.inl aO),40,[b],4,b,[],44;unfold lO;dsimp only;rw[if_pos rfl];refine A i b t _ _ l1 l2 (sm.trans d) λu h=>(h _ _ (d _ _ hL),8,xs.length - (i+1),5,a,4,(some (.int (i:Nat)),some b,8),8,aO,8)
  .rw[bBR];lia
  .rw[bEZ _ _ (show (1:Nat)≠0 by decide),bBH,bBH]
  .intro c o e;rw[bC (bV e j)];exact h _ _ (d _ _ (sm _ _ e))
  .rw[List.replicate_succ']
 .left;have e:i=xs.length:=by lia
  subst e;exact((sm.seq k,j6 _),q D _ sm hL)
def bLr (K:bGC):R2:=λx y H Q=>∃a b xs,x=.ref a/\y=.ref b/\SqT K H a xs/\SqT K H b []/\Q (.bl xs.isEmpty) H
def aZ2 (D:X.A.units<cLine):OpR X (compareOp .Eq) (bLr X.K):=by
 intro k s σ H x y v u Q I m r h;have(a,b,g,rfl,rfl,i,z,q):=h;cases m;cases r;have(c,l,n,C):=I.tuple i;have(d,t,p,E):=I.tuple z;have f:=l.length;have B:=t.length;cases d with
 |cons _ _=>cases B
 |nil=>
  refine bEQ (e:=λ_=>true) (show s.heap.IsTuple a c.toArray from n) (show s.heap.IsTuple b ([]:List Value).toArray from p) D (λj F o=>by simp at o) _ _ _ _ ?_;rw[aEw];have w:(c.toArray.size == ([]:List Value).toArray.size)=g.isEmpty:=by
   cases g with
   |nil=>cases c with
    |nil=>rfl
    |cons _ _=>cases f
   |cons _ _=>cases c with
    |nil=>cases f
    |cons _ _=>rfl
  rw[w];exact(.bl _,H,I,4,q)
def bK6 (K:bGC):R2:=λx y H Q=>∃a b xs,x=.ref a/\y=.ref b/\SqL K H a xs/\SqL K H b []/\Q (.bl (!xs.isEmpty)) H
def bIw (p:X.A.units<cLine):OpR X (compareOp .NotEq) (bK6 X.K):=by
 intro l s σ H x y v u Q I n t h;have(a,b,r,rfl,rfl,k,z,q):=h;cases n;cases t;have(c,m,g,C):=I.list k;have(d,w,i,D):=I.list z;have f:=m.length;have B:=w.length;cases d with
 |cons _ _=>cases B
 |nil=>
  cases r with
  |nil=>cases c with
   |cons _ _=>cases f
   |nil=>refine bFQ (e:=λ_=>true) g.isList i.isList rfl p (λj E o=>by simp at o) _ _ _ _ ?_;exact(.bl _,H,I,4,q)
  |cons _ _=>cases c with
   |nil=>cases f
   |cons _ _=>refine SeqAt.RcNeAt.lists_lengths g.isList i.isList rfl p _ _ _ _ ?_;exact(.bl _,H,I,4,q)
end L2
namespace PySem
open PySem.Spec
def lC:entryFor table "list.remove.loop"=some Builtin.«list.remove.loop»:=entryFor_of_tree (by kernel_rfl)
def aGt (hs:s.heap.get? l=some { cls:=Value.type "list",dict:=dd,data:=Data.seq items n,slots:=sl })(f:j<items.size)
  (g:SeqAt.EqAt A.in1 s items[j] x true) (e:∀(m:Nat) (hm:m<items.size),m<j->SeqAt.EqAt A.in1 s items[m] x false) (c:items.size<=sizeLine)
  (q:R (.ok (.ret .none)) { s with heap:=s.heap.update l (Obj.mapSeq λxs=>xs.eraseIdxIfInBounds j) }) :
  ∀k i,i+k=j->codeAny (model prog w) A (.builtin "list.remove.loop" ([.ref l,x,rawInt (i:Nat)],[])) R s:=by
 intro k
 induction k with
 |zero=>
  intro i d;obtain rfl:i=j:=by lia
  refine bBP lC ?_;rw[bBD MeetsSeq.plain_remove_loop _];refine b8 (wpAny_listItems hs rfl ?_);have b:items[Int.toNat (i:Nat)]?=some items[i]:=by rw[bAQ];exact bAC f
  simp only[b];refine b8 (g _ _ _ _ ?_);simp only[if_true];refine b8 (PyProof.Rows.listUpdate_at hs rfl ?_ c ?_)
  .rw[bAQ];exact d9 q
  .unfold Array.eraseIdxIfInBounds
   split
   .rw[Array.size_eraseIdx];lia
   .lia
 |succ k ih=>
  intro i d;refine bBP lC ?_;rw[bBD MeetsSeq.plain_remove_loop _];have a:i<items.size:=by lia
  refine b8 (wpAny_listItems hs rfl ?_);have b:items[Int.toNat (i:Nat)]?=some items[i]:=by rw[bAQ];exact bAC a
  simp only[b];refine b8 (e i a (5) _ _ _ _ ?_);refine d9 (bCU MeetsSeq.plain_remove_loop _,8);exact ih (i+1) (5)
def aGg (l:Addr)(items:Array Value)(n:Nat)(dd:Option Addr)(sl:Array (Option Value))(x:Value)(j:Nat)(b:j<items.size)(a:items.size<=sizeLine) :
  Meets (Builtin.«list.remove» ([.ref l,x],[])) λA R s=>s.heap.get? l=some { cls:=Value.type "list",dict:=dd,data:=Data.seq items n,slots:=sl } /\
   SeqAt.EqAt A.in1 s items[j] x true/\(∀m hm,m<j->SeqAt.EqAt A.in1 s items[m] x false) /\
   R (.ok (.ret .none)) { s with heap:=s.heap.update l (Obj.mapSeq λxs=>xs.eraseIdxIfInBounds j) }:=by
 rintro prog w A R s ⟨hs,ht,hf,q⟩;refine d9 (bCU MeetsSeq.plain_remove_loop _,8);exact aGt hs b ht hf a q j 0 (5)
end PySem
namespace L2
open PySem PySem.Spec PyProof.Rows
def UnT (K:bGC)(H:Hp)(x y:V):Prop:=∃(a b:Addr) (p q:Str × Str),x=.ref a/\y=.ref b/\SqT K H a [.str p.1,.str p.2]/\SqT K H b [.str q.1,.str q.2]/\p.1≠q.1
def bDz {X:Cx}{bGG:bGE}{σ:L2.St}{H:Hp}{s:Shared}(I:Inv X bGG σ H s){A:Around}{x y:V}{v u:Value}(h:UnT X.K H x y)(N:RelV x v)(M:RelV y u)(hu:A.units+2<cLine):SeqAt.EqAt A s v u false:=by
 have(a,b,p,q,rfl,rfl,d,k,c):=h;cases N;cases M;have e:a≠b:=by intro e;subst e;have:=I.aHr d k;simp at this;exact c this.1
 have(D,m,o,E):=I.tuple d;have(C,t,r,J):=I.tuple k;have(G,P,rfl,(g,rfl),(f,rfl)):=m.two;have(O,L,rfl,(l,rfl),(i,rfl)):=t.two;refine bFR e ?_;have z:=bEQ (A:=A) (s:=s) (e:=λj=>if j=0 then p.1 == q.1 else p.2 == q.2) (show s.heap.IsTuple a _ from o) (show s.heap.IsTuple b _ from r) (5) (λj B F=>by
  rcases j with _|_|j
  .exact bCR (A:=A.in1) (s:=s) p.1 g q.1 l
  .exact bCR (A:=A.in1) (s:=s) p.2 f q.2 i
  .exact absurd (show j+2<2 from B) (5))
 have w:(p.1 == q.1)=false:=by simpa using c
 have n:((List.range (min [Value.str p.1 g,Value.str p.2 f].toArray.size [Value.str q.1 l,Value.str q.2 i].toArray.size)).all (λj=>if j=0 then p.1 == q.1 else p.2 == q.2))=false:=by show (List.range 2).all _=false;simp[List.range_succ,w]
 rw[n,Bool.false_and] at z;exact z
def aQs:∀{xs:List V} {its:List Value},Vals xs its->∀j,Vals (xs.eraseIdx j) (its.eraseIdx j):=by
 intro xs its h
 induction h with
 |nil=>intro j;cases j <;> exact .nil
 |cons r t ih=>intro j;cases j with
  |zero=>exact t
  |succ j=>exact .cons r (ih j)
def bC1 (K:bGC):V->List V->Hp->VK->Prop:=λx vs H Q=>∃l xs y j z,x=.ref l/\vs=[y]/\H l=some (.lst xs)/\xs[j]?=some z/\DEq K H 2 z y/\(∀m z',m<j->xs[m]?=some z'->UnT K H z' y)/\Q .non (upd H l (.lst (xs.eraseIdx j)))
def aV0 {X:Cx}(hu:X.A.units+64<cLine):MtR X "list.remove" (bC1 X.K):=by
 intro B s σ H x O v R Q I D J h;have(l,i,y,j,S,rfl,rfl,t,p,E,M,q):=h;cases D;have(u,rfl,w):=J.one;have(z,a,n,r,P,e):=I.aOh t;have N:j<i.length:=(List.getElem?_eq_some_iff.mp p).1;have b:j<a.toArray.size:=by rw[j7];lia
 have c:∀(m:Nat) (d:m<a.toArray.size) (k:V),i[m]?=some k->RelV k a.toArray[m]:=λm d k f=>by
  have(L,o,C):=r.get f;have G:a.toArray[m]=L:=by rw[bCH];exact (List.getElem?_eq_some_iff.mp o).2
  rw[G];exact C
 refine call_meets F.slot_list_remove (_,e,4) F.entry_list_remove (F.args_list_remove_2 _ _) (aGg l a.toArray n none #[] u j b (by rw[j7];lia)) (e,aWc I 2 E (c j b _ p) w ?_,λm d g=>bDz I (M m _ g (b7 (5))) (c m d _ (b7 (5))) w ?_,8)
 .show X.A.units+1+2<cLine;lia
 .show X.A.units+1+2<cLine;lia
 .refine(.non,_,I.lset (its':=a.eraseIdx j) t e ?_ ?_ ?_,4,q)
  .show a.toArray.eraseIdxIfInBounds j=(a.eraseIdx j).toArray;rw[bEU]
  .exact aQs r j
  .have:=List.length_eraseIdx_le i j;lia
def rY (r:List V):Prop:=∀x∈r,(∃i,x=.int i)\/∃z,x=.str z
def aTv (a:(∃i,x=.int i)\/∃z,x=.str z)(b:(∃i,y=.int i)\/∃z,y=.str z):eqV x y=decide (x=y):=by
 rcases a with⟨i,rfl⟩|⟨z,rfl⟩ <;> rcases b with⟨j,rfl⟩|⟨w,rfl⟩
 .by_cases e:i=j
  .subst e;rw[j4 rfl];exact beq_self_eq_true _
  .rw[j9 λq=>e (V.int.inj q)];exact beq_eq_false_iff_ne.mpr e
 .rw[j9 λq=>by cases q];rfl
 .rw[j9 λq=>by cases q];rfl
 .by_cases e:z=w
  .subst e;rw[j4 rfl];exact beq_self_eq_true _
  .rw[j9 λq=>e (V.str.inj q)];exact beq_eq_false_iff_ne.mpr e
def bDh:∀{r q:List V},rY r->rY q->((List.range (min r.length q.length)).all (λj=>eqV (r.getD j .non) (q.getD j .non)) && r.length == q.length)=decide (r=q):=by
 intro r q b f;by_cases e:r=q
 .subst e;rw[j4 rfl,beq_self_eq_true,Bool.and_true,bCS];intro j a;rw[List.mem_range,Nat.min_self] at a;rw[bAB,b7 a,bDD,aTv (b _ (bAR a)) (b _ (bAR a)),j4 rfl]
 .rw[j9 e];by_cases l:r.length=q.length
  .cases h:(List.range (min r.length q.length)).all (λj=>eqV (r.getD j .non) (q.getD j .non)) with
   |false=>rfl
   |true=>refine absurd (List.ext_getElem l λj c d=>?_) e;have:=List.all_eq_true.mp h j (List.mem_range.mpr (5));rw[bAB,b7 c,bDD,bAB,b7 d,bDD,aTv (b _ (bAR c)) (f _ (bAR d))] at this;exact of_decide_eq_true this
  .rw[show (r.length == q.length)=false from beq_eq_false_iff_ne.mpr l,bFN]
def aXw (h:Vals r its):∀{q:List V},Vals q its->rY r->rY q->r=q:=by
 induction h with
 |nil=>intro q h _ _;cases h;rfl
 |@cons x _ r _ a t ih=>
  intro q h d f;cases h with
  |@cons y _ q _ b u=>
   have e:x=y:=by rcases d x v7 with⟨i,rfl⟩|⟨z,rfl⟩ <;> rcases f y v7 with⟨j,rfl⟩|⟨w,rfl⟩ <;> have(_,a):=a <;> have(_,b):=b <;> rw[a] at b <;> cases b <;> rfl
   rw[e,ih u (λz c=>d z (j8 _ c)) λz c=>f z (j8 _ c)]
def aDc (I:Inv X bGG σ H s)(n:SqT X.K H a r)(x:SqT X.K H a q)(p:rY r)(w:rY q):r=q:=by
 have(d,g,j,_):=I.tuple n;have(c,i,f,_):=I.tuple x;have l:d=c:=by have(o,h,v,t,k):=j;have(m,b,u,y,e):=f;rw[h] at b;cases b;rw[k] at e;have:=Data.seq.inj e;simpa using congrArg Array.toList this.1
 subst l;exact aXw g i p w
def aTt (I:Inv X bGG σ H s){A:Around}(hA:A.units+2<cLine){a b:Addr}{r q:List V}(L:SqT X.K H a r)(M:SqT X.K H b q)(y:rY r)(D:rY q):SeqAt.RcAt A s (.ref a) (.ref b) (decide (r=q)):=by
 have(d,h,w,_):=I.tuple L;have(c,m,n,_):=I.tuple M;have u:=h.length;have p:=m.length;have z:=bEQ (A:=A) (e:=λj=>eqV (r.getD j .non) (q.getD j .non)) (show s.heap.IsTuple a d.toArray from w) (show s.heap.IsTuple b c.toArray from n) (5) λj E v=>by
  rw[j7] at E v;have k:r[j]?=some r[j]:=b7 (5);have l:q[j]?=some q[j]:=b7 (5);have(F,f,C):=h.get k;have(t,g,x):=m.get l;have J:d.toArray[j]=F:=by rw[bCH];exact (List.getElem?_eq_some_iff.mp f).2
  have o:c.toArray[j]=t:=by rw[bCH];exact (List.getElem?_eq_some_iff.mp g).2
  rw[J,o,bAB,k,bAB,l];have G:=y r[j] (bAR _);have B:=D q[j] (bAR _);refine bAc C x ?_ ?_
  .rcases G with⟨i,e⟩|⟨i,e⟩ <;> rw[show (Option.some r[j]).getD V.non=r[j] from rfl,e] <;> rfl
  .rcases B with⟨i,e⟩|⟨i,e⟩ <;> rw[show (Option.some q[j]).getD V.non=q[j] from rfl,e] <;> rfl
 rw[j7,j7,<-u,<-p,bDh y D] at z;exact z
def aW4 (I:Inv X bGG σ H s)(l:A.units+2<cLine)(i:dU X.K H x r)(k:dU X.K H y q)(g:rY r)(f:rY q)(h:RelV x v)(j:RelV y u):SeqAt.EqAt A s v u (decide (r=q)):=by
 have(a,rfl,c):=i;have(b,rfl,d):=k;cases h;cases j;by_cases e:a=b
 .subst e;rw[aDc I c d g f,j4 rfl];exact bDW _
 exact bFR e (aTt I l c d g f)
def bDu (I:Inv X bGG σ H s)(O:A.units+2<cLine)(G:Vals us its)(h:Al2 (dU X.K H) us rs)(L:∀r∈rs,rY r)(P:dU X.K H y q)(J:rY q)(Q:RelV y u):∃e:Value->Bool,(∀v∈its,SeqAt.EqAt A s v u (e v))/\its.any e=decide (q∈rs):=by
 have n:∀v∈its,∃i x r,us[i]?=some x/\rs[i]?=some r/\dU X.K H x r/\RelV x v:=λv c=>by
  have(i,l):=List.mem_iff_getElem?.mp c;have j:i<us.length:=by rw[G.length];exact (List.getElem?_eq_some_iff.mp l).1
  have(r,t,D):=h.at (b7 j);have(R,m,g):=G.get (b7 j);rw[l] at m;cases m;exact(i,_,r,b7 j,t,D,g)
 exists λv=>@decide (∃x,dU X.K H x q/\RelV x v) (Classical.propDecidable _),λv c=>?_
 .have(i,x,r,_,w,o,k):=n v c;have F:=L r (v9 w);have e:@decide (∃x,dU X.K H x q/\RelV x v) (Classical.propDecidable _)=decide (r=q):=by
   by_cases z:r=q
   .subst z;rw[j4 rfl];exact @decide_eq_true _ (Classical.propDecidable _) (x,o,k)
   .rw[j9 z];refine @decide_eq_false _ (Classical.propDecidable _) ?_;rintro⟨N,d,f⟩;refine z ?_;have(a,rfl,B):=o;have(b,rfl,E):=d;have C:=k;have p:=f;rw[C] at p;cases p;exact aDc I B E F J
  show SeqAt.EqAt A s v u (@decide (∃x,dU X.K H x q/\RelV x v) (Classical.propDecidable _));rw[e];exact aW4 I O o P F J k Q
 .by_cases z:q∈rs
  .rw[j4 z];have(i,l):=List.mem_iff_getElem?.mp z;have j:i<us.length:=by rw[h.len];exact (List.getElem?_eq_some_iff.mp l).1
   have(r,t,D):=h.at (b7 j);rw[l] at t;cases t;have(v,c,g):=G.get (b7 j);exact List.any_eq_true.mpr (v,v9 c,@decide_eq_true _ (Classical.propDecidable _) (_,D,g))
  .rw[j9 z];refine List.any_eq_false.mpr λv c M=>z ?_;have(N,d,f):=@of_decide_eq_true _ (Classical.propDecidable _) M;have(i,x,r,_,w,o,k):=n v c;have(a,rfl,B):=o;have(b,rfl,E):=d;have C:=k;have p:=f;rw[C] at p;cases p;rw[<-aDc I B E (L r (v9 w)) J];exact v9 w
def bJz (K:bGC):R2:=λx y H Q=>∃r q,dU K H x r/\dU K H y q/\rY r/\rY q/\Q (.bl (decide (r=q))) H
def sH (hu:X.A.units+64<cLine):OpR X (compareOp .Eq) (bJz X.K):=by intro d s σ H x y v u Q I f e h;have(r,q,(a,rfl,c),(b,rfl,j),g,i,k):=h;cases f;cases e;exact aTt I (5) c j g i _ _ _ _ (.bl _,H,I,4,k)
def aJi {X:Cx}{K:bGC}(a:X.A.units+64<cLine)(h:!(X.K=K)):OpR X (compareOp .Eq) (bJz K):=by subst h;exact sH a
def bLi (K:bGC):R2:=λx y H Q=>∃l us rs q,y=.ref l/\SqT K H l us/\Al2 (dU K H) us rs/\(∀r∈rs,rY r)/\dU K H x q/\rY q/\Q (.bl (decide (q∈rs))) H
def bH3 (hu:X.A.units+64<cLine):OpR X (compareOp .In) (bLi X.K):=by
 intro c s σ H x y v u Q I f m h;have(l,B,n,q,rfl,j,r,o,t,p,k):=h;cases m;have(a,d,g,_):=I.tuple j;have(e,w,b):=bDu I (A:=X.A.in1) (show X.A.units+1+2<cLine by lia) d r o t p f;refine SeqAt.in_tupleAt e g (λy i=>w y (by simpa using i)) ?_;have z:a.toArray.any e=decide (q∈n):=by rw[<-b];simp
 rw[z];exact(.bl _,H,I,4,k)
abbrev M61:Int:=2305843009213693951
def lJ (H:Hp)(a:Addr):Prop:=∃s d:Int,H a=some (.lst [.int s,.int d])/\(0<=s/\s<M61)/\0<=d
structure Fx (a:Addr)(H H':Hp):Prop where
 same:∀b o,b≠a->H b=some o->H' b=some o
 st:lJ H' a
def Fx.trans (f:Fx a H H1)(g:Fx a H1 H2):Fx a H H2:=(λb o n e=>g.same b o n (f.same b o n e),g.st)
def lJ.same (h:lJ H a)(e:Same H H'):lJ H' a:=by have(s,d,c,b):=h;exact(s,d,e _ _ c,b)
def Fx.of (h:lJ H a)(e:Same H H'):Fx a H H':=(λb o _ q=>e b o q,h.same e)
def Fx.refl (h:lJ H a):Fx a H H:=.of h (Same.refl H)
def Fx.sm (f:Fx a H H1)(e:Same H1 H2):Fx a H H2:=f.trans (.of f.st e)
def lJ.ne (h:lJ H a)(f:H p=none):p≠a:=by have(s,d,b,_):=h;exact (bV b f).symm
def Fx.aG {K:bGC}{a p:Addr}{H H':Hp}{xs:List V}(f:Fx a H H')(h:lJ H a)(e:SqT K H p xs):SqT K H' p xs:=by
 have(s,d,b,_):=h;rcases e with (e|⟨o,e⟩)|e
 .exact .inl (.inl (f.same p _ (aHg e b (by intro z;cases z)) e))
 .exact .inl (.inr (o,f.same p _ (aHg e b (by intro z;cases z)) e))
 .exact .inr e
def Fx.upd (f:Fx a H H')(h:H D=none)(i:D≠a):Fx a H (L2.upd H' D o):=(λb u n e=>by rw[bC (bV e h)];exact f.same b u n e,by have(s,d,c,g):=f.st;exact(s,d,by rw[bC i.symm];exact c,g))
def Fx.free (f:Fx a H H')(h:H' p=none):H p=none:=by
 cases e:H p with
 |none=>rfl
 |some o=>
  by_cases z:p=a
  .subst z;have(s,d,b,_):=f.st;rw[b] at h;cases h
  .rw[f.same p o z e] at h;cases h
def bFt (h:lJ H a):bGq (Fx a) H:=(λD o c=>.of h (bJ c o),λa b=>a.trans b,λD o i c f=>f.upd c (h.ne c),λD g d j c _ e f=>f.same _ _ (h.ne c) e)
def aVu:bootBuiltins "divmod"=some (.builtin "divmod"):=by trivial
def bI9:List V->Hp->VK->Prop:=λxs H Q=>∃i j,xs=[.int i,.int j]/\(0<j/\j<2 ^ 64)/\∀p H',H p=none->Same H H'->H' p=some (.tup [.int (i / j),.int (i % j)])->Q (.ref p) H'
def aWp:cZ X (.builtin "divmod") bI9:=by
 intro f s σ H n g Q I r h;have(i,j,rfl,(m,l),q):=h;have(u,k,rfl,(t,rfl),(p,rfl)):=vals2 r;have c:j.natAbs<2 ^ 64:=by lia
 have a:j.natAbs.log2<9000:=by have:=(Nat.log2_lt (show j.natAbs≠0 by lia)).mpr c;lia
 refine divmod_int (5) ?_ (.inl (PyProof.noPylong_of_log2 a));rw[bFJ i (5),bFK i (5)];have d:=I.hok.fresh (j6 _);refine(.ref s.heap.objs.size,upd H s.heap.objs.size (.tup [.int (i / j),.int (i % j)]),84,q _ _ d (bJ d _) aO);refine I.laid (λb o e=>c7 _ e) (j6 _) (by simp only[p8,bBO];rw[sizeLine_eq];decide,[.int (i / j) s.toks,.int (i % j) (s.toks+1)],.cons (3) (.cons (3) .nil),8);exact .of (m5 s.heap rfl) rfl (_,m5 s.heap rfl,4,0,4)
def rJoin (K:bGC):V->List V->Hp->VK->Prop:=λx vs H Q=>∃sep a ts,x=.str sep/\vs=[.ref a]/\SqL K H a (ts.map V.str)/\JoinOk sep ts=true/\Q (.str (Txt.join sep ts)) H
def aXn:∀{ts:List Str} {us:List Value},Vals (ts.map V.str) us->∃l:List (Str × Tok),us=strValues l/\l.map (·.1)=ts:=by
 intro ts
 induction ts with
 |nil=>intro us h;cases h;exact([],44)
 |cons x ts ih=>intro us h;cases h with
  |cons r t=>have(l,rfl,e):=ih t;have(k,rfl):=r;exact((x,k,)::l,4,by rw[bAE,e])
def bB3:MtR X "str.join" (rJoin X.K):=by intro d s σ H x w v p Q I f j h;have(o,a,y,rfl,rfl,m,c,q):=h;have(t,rfl):=f;have(u,rfl,g):=j.one;cases g;have(n,b,i,r):=I.list m;have(l,rfl,e):=aXn b;exact SC.join i.isList e c λz k=>(.str _,H,I.tok _,(3),q)
def bD1 (a:∀y∈ts,y.length<=B)(h:ts.length * B+ts.length * sep.length<=16777216):JoinOk sep ts=true:=by unfold JoinOk;rw[PySem.StrLaws.joinFits a h];rfl
def bKz (X:Cx)(b:List Stmt):TS:=λD σ H=>∃t,VSs X b t/\t D σ H
def aZ:VSs X b (bKz X b):=⟨(by rintro bGG s σ H D I ⟨_,h1,h2⟩;exact h1.1 bGG s σ H D I h2)⟩
def qD (J:St->Hp->Prop)(a:∀N:Ends,(∀σ' H',J σ' H'->N.nx σ' H')->S N σ H)(b:∀σ' H',J σ' H'->R D σ' H'):nO S R D σ H:=a _ b
end L2
namespace PySem
theorem wN {α:Type}:∀(l:List α) (i:Nat) (h:i<l.length),(l[i]::l.eraseIdx i).Perm l
 |x::l,0,_=>.refl _
 |x::l,i+1,h=>by have a:=wN l i (Nat.lt_of_succ_lt_succ h);exact (List.Perm.swap x _ (l.eraseIdx i)).trans (a.cons x)
def aIt (hn:n≠0)(h:∀i dr,i<n->Q i { s with drawn:=dr }):wpAny (model prog w) A (choose src n) Q E s:=
 λ_ _ _=>(hn,h _ _ (Nat.mod_lt _ (Nat.pos_of_ne_zero hn)))
def aBu {α:Type}:∀(n:Nat) (xs:List α) (s:Shared) (Q:List α->Shared->Prop),xs.length=n->(∀ys dr,ys.Perm xs->Q ys { s with drawn:=dr })->wpAny (model prog w) A (drawOrder n xs) Q E s:=by
 intro c
 induction c with
 |zero=>rintro xs s Q hl h;have e:=bCV hl;subst e;unfold drawOrder;exact d9 (h [] s.drawn (.refl _))
 |succ n ih=>
  rintro xs s Q hl h;cases xs with
  |nil=>cases hl
  |cons x xs=>unfold drawOrder;refine b8 (aIt (by rw[hl];lia) λi dr b=>?_);rw[b7 b];dsimp only;refine b8 (ih _ _ _ (by rw[bFS b,hl];rfl) λys a p=>d9 ?_);refine h _ a ?_;have e:=wN _ _ b;exact (p.cons _).trans e
def bCb {α:Type}(b:Nat->Nat):∀(fuel k:Nat) (left:List α) (out:Array α),left.length=fuel->(pickOrder.go b fuel k left out).toList.Perm (out.toList++left):=by
 intro c
 induction c with
 |zero=>rintro k left out h;have e:left=[]:=bCV h;subst e;unfold pickOrder.go;rw[bCM]
 |succ fuel ih=>rintro k left out h;have a:b k % left.length<left.length:=Nat.mod_lt _ (5);unfold pickOrder.go;rw[b7 a];dsimp only;refine (ih (k+1) _ _ (by rw[bFS a,h];rfl)).trans ?_;rw[bFV,bCY];exact List.Perm.append_left _ (wN _ _ a)
def zT {α:Type}(a:Nat->Nat)(xs:Array α):(pickOrder a xs).toList.Perm xs.toList:=by unfold pickOrder;exact bCb a xs.size 0 xs.toList #[] (by rw[bAD])
def cY:Slot "set_iterator" "__next__" "set_iterator.__next__":=.of (owner:="set_iterator") (n:="__next__") (by rw[typeLookup_type,builtinLookup_eq_fast];kernel_rfl) (0) (0) (0) (by first|exact .inl (0)|exact .inr (0)) (by rw[isSubtype_type];kernel_rfl)
def uH:Slot "set_iterator" "__iter__" "set_iterator.__iter__":=.of (owner:="set_iterator") (n:="__iter__") (by rw[typeLookup_type,builtinLookup_eq_fast];kernel_rfl) (0) (0) (0) (by first|exact .inl (0)|exact .inr (0)) (by rw[isSubtype_type];kernel_rfl)
def jW:entryFor table "set_iterator.__next__"=some Builtin.«set_iterator.__next__»:=entryFor_of_tree (by kernel_rfl)
def aBo:entryFor table "set_iterator.__iter__"=some Builtin.«dict_keyiterator.__iter__»:=entryFor_alias (id':="dict_keyiterator.__iter__") (by kernel_rfl) rfl (0) (by kernel_rfl)
def aFa:entryFor table "set.__iter__"=some Builtin.«frozenset.__iter__»:=entryFor_alias (id':="frozenset.__iter__") (by kernel_rfl) rfl (0) (by kernel_rfl)
def aE1:Manifest.owners.lookup (String.ofList ['r','o','t','a','r','e','t','i','_','t','e','s'].reverse)=some Manifest.sig_set_iterator:=by kernel_rfl
def lK (a:Value):argsOk "set_iterator.__next__" ([a],[]):=by unfold argsOk;rw[signature?_of (id:="set_iterator.__next__") (n:=['_','_','t','x','e','n','_','_']) (o:=['r','o','t','a','r','e','t','i','_','t','e','s']) (by kernel_rfl) aE1];kernel_rfl
def aFm (a:Value):argsOk "set_iterator.__iter__" ([a],[]):=by unfold argsOk;rw[signature?_of (id:="set_iterator.__iter__") (n:=['_','_','r','e','t','i','_','_']) (o:=['r','o','t','a','r','e','t','i','_','t','e','s']) (by kernel_rfl) aE1];kernel_rfl
def iZ (h:Heap)(I:Addr)(first:Value)(i:Nat)(D:Addr)(n ep:Nat):Prop:=h.get? I=some { cls:=.type "set_iterator",data:=.fields #[first,.int i 0,.ref D,.int n 0,.int ep 0] }
def wM (h:Heap)(D:Addr)(es:Array (Int × Value))(ep:Nat)(t:SetTable):Prop:=∃o,h.get? D=some o/\o.ExactSet/\o.data=.set es ep t/\t.fits es.size=true
def aJf (prog:Program)(w:World)(D:Addr)(es:Array (Int × Value))(ep:Nat)(t:SetTable)(slot i:Nat)(r:Option (Value × Nat)):Prop:=
 ∀A E s Q,wM s.heap D es ep t->Q r s->wpAny (model prog w) A (setNext D slot i ep) Q E s
def aHm {I D:Addr}{es:Array (Int × Value)}{ep slot i a:Nat}{t:SetTable}{x:Value}{Q:Option Value->Shared->Prop}(c:iZ s.heap I (.int slot 0) i D es.size ep)(h:wM s.heap D es ep t)(hne:D≠I)
  (nx:aJf prog w D es ep t slot i (some (x,a,)))
  (q:∀h',iZ h' I (.int a 0) (i+1) D es.size ep->(∀b o,b≠I->s.heap.get? b=some o->h'.get? b=some o)->Q (some x) { s with heap:=h' }):wpAny (model prog w) A (pyNext (.ref I)) Q E s:=by
 have f:s.TypeIs (.ref I) "set_iterator":=(_,c,4);have(o,j,y,p,n):=id h;unfold pyNext;refine b8 (bDY (bAP f cY (bAN cY f jW (b8 (d9 (b8 (bEC c rfl ?_)))) (lK _))));refine b8 (bDO j p n ?_);dsimp only;rw[if_neg (9)];simp only[bAQ];refine b8 (nx _ _ _ _ h ?_);dsimp only;refine b8 (bAY c (9) λu l r=>?_);have B:iZ u I (.int a 0) i D es.size ep:=by simpa [rawInt,iZ] using l
 refine b8 (bAY B (9) λd v k=>?_);have m:iZ d I (.int a 0) (i+1) D es.size ep:=by
  have z:((i+1:Nat):Int)=(i:Int)+1:=by lia
  unfold iZ;rw[z];simpa [rawInt] using v
 exact d9 (3,d9 (q d m λb o g e=>k.extBut b o g (r.extBut b o g e)))
def aG5 {I D:Addr}{es:Array (Int × Value)}{ep slot i:Nat}{t:SetTable}{Q:Option Value->Shared->Prop}(m:A.handled=none)(c:iZ s.heap I (.int slot 0) i D es.size ep)(d:wM s.heap D es ep t)
  (nx:aJf prog w D es ep t slot i none) (q:∀h',(∀b o,b≠I->s.heap.get? b=some o->h'.get? b=some o)->Q none { s with heap:=h' }):wpAny (model prog w) A (pyNext (.ref I)) Q E s:=by
 have a:s.TypeIs (.ref I) "set_iterator":=(_,c,4);have(o,h,l,g,f):=id d;unfold pyNext;refine b8 (bDY (bAP a cY (bAN cY a jW (b8 (d9 (b8 (bEC c rfl ?_)))) (lK _))));refine b8 (bDO h g f ?_);dsimp only;rw[if_neg (9)];simp only[bAQ];refine b8 (nx _ _ _ _ d ?_);dsimp only;refine b8 (bEN c rfl (9) ?_);exact rE (show A.in1.handled=none from m) λh' e k t=>b8 (bDS (b:=true) t isSubtype_stop (d9 (q _ λb o j z=>k b o ((bCJ ..).extBut b o j z))))
def aRn {I D T:Addr}{es:Array (Int × Value)}{ep i j:Nat}{t:SetTable}{pl:Array Value}{e:Int × Value}{Q:Option Value->Shared->Prop}(c:iZ s.heap I (.ref T) i D es.size ep)(r:wM s.heap D es ep t)(v:s.heap.get? T=some { cls:=.type "tuple",data:=.seq pl })
  (u:pl[i]?=some (.int j 0)) (x:es[j]?=some e)
  (q:∀h',iZ h' I (.ref T) (i+1) D es.size ep->(∀b o,b≠I->s.heap.get? b=some o->h'.get? b=some o)->Q (some e.2) { s with heap:=h' }):wpAny (model prog w) A (pyNext (.ref I)) Q E s:=by
 have h:s.TypeIs (.ref I) "set_iterator":=(_,c,4);have(o,a,p,g,f):=id r;unfold pyNext;refine b8 (bDY (bAP h cY (bAN cY h jW (b8 (d9 (b8 (bEC c rfl ?_)))) (lK _))));refine b8 (bDO a g f ?_);dsimp only;rw[if_neg (9)];simp only[bAQ];refine b8 (bDE v rfl ?_);dsimp only;rw[u];dsimp only;unfold setNextDrawn;refine b8 (b8 (bDK a g f ?_));dsimp only;rw[if_neg (9)];refine b8 (d9 ?_);simp only[bAQ,x];refine d9 (b8 (bAY c (9) λd n k=>?_));have l:iZ d I (.ref T) (i+1) D es.size ep:=by
  have z:((i+1:Nat):Int)=(i:Int)+1:=by lia
  unfold iZ;rw[z];simpa [rawInt] using n
 exact d9 (3,d9 (q d l λb o m e=>k.extBut b o m e))
def aRp (p:A.handled=none)(a:iZ s.heap I (.ref T) i D es.size ep)(n:wM s.heap D es ep t)(v:s.heap.get? T=some { cls:=.type "tuple",data:=.seq pl })
  (u:pl[i]?=none) (q:∀h',(∀b o,b≠I->s.heap.get? b=some o->h'.get? b=some o)->Q none { s with heap:=h' }):wpAny (model prog w) A (pyNext (.ref I)) Q E s:=by
 have c:s.TypeIs (.ref I) "set_iterator":=(_,a,4);have(o,f,m,j,h):=id n;unfold pyNext;refine b8 (bDY (bAP c cY (bAN cY c jW (b8 (d9 (b8 (bEC a rfl ?_)))) (lK _))));refine b8 (bDO f j h ?_);dsimp only;rw[if_neg (9)];simp only[bAQ];refine b8 (bDE v rfl ?_);dsimp only;rw[u];dsimp only;refine b8 (bAY a (9) λr l g=>?_);refine b8 (bEN l rfl (9) ?_);exact rE (show A.in1.handled=none from p) λh' e k t=>b8 (bDS (b:=true) t isSubtype_stop (d9 (q _ λb o d z=>k b o ((bCJ ..).extBut b o d (g.extBut b o d z)))))
def aIf (h:byT w=true):aJf prog w D es ep t slot i (((pickOrder (w.params.setOrder D ep) es)[i]?).map λe=>(e.2,slot,)):=by intro A E s Q f q;have(o,d,g,c,b):=f;have a:(((model prog w).prog,(model prog w).w.params):Setting).params.followText "set-order"=true:=h;unfold setNext setsByText setWalk;refine b8 (bDK d c b ?_);dsimp only;refine b8 (b8 (bDT (d9 ?_)));rw[if_pos a,if_neg (9)];refine b8 (b8 (bDK d c b ?_));dsimp only;unfold setsByText;refine b8 (b8 (bDT (d9 ?_)));rw[if_pos a];exact b8 (bDT (d9 (d9 q)))
def aD7 (l:byT w=false)(m:t.led=true)(k:t.plain=true\/es.size<=1) :
  aJf prog w D es ep t slot i (match es[SetTable.below t.place slot]?,t.place[SetTable.below t.place slot]? with|some (_,x,),some j=>some (x,j+1,)|_,_=>none):=by
 intro A E s Q c q;have(o,f,g,e,d):=c;have b:(((model prog w).prog,(model prog w).w.params):Setting).params.followText "set-order"=false:=l;unfold setNext setsByText;refine b8 (bDK f e d ?_);dsimp only;refine b8 (b8 (bDT (d9 ?_)));rw[if_neg (by rw[b];exact z9)]
 split
 .rename_i a;have z:(!t.plain && decide (es.size > 1))=true:=a;rw[bAX,decide_eq_true_eq] at z;rcases k with h|h
  .rw[h] at z;cases z.1
  .lia
 .refine b8 (show wpAny _ _ (if (!t.led && !es.isEmpty)=true then unsupported "set:maker-not-led" else pure ()) _ _ _ from ?_);rw[if_neg (by rw[m];exact z9)];exact d9 (d9 q)
def aAi (b:iZ s.heap I first i D n ep)(h:Q (.ref I) s):wpAny (model prog w) A (pyIter (.ref I)) Q E s:=by have a:s.TypeIs (.ref I) "set_iterator":=(_,b,4);refine bET a uH (bAN uH a aBo ?_ (aFm _));exact d9 (3,"set_iterator",_,a,cY.lookup,h)
def wM.at (x:wM h D es ep t)(e:∀o,h.get? D=some o->h'.get? D=some o):wM h' D es ep t:=by have(o,a,r):=x;exact(o,e o a,r)
def aR6 {I D:Addr}{es:Array (Int × Value)}{ep:Nat}{t:SetTable}(c:byT w=true)(p:A.handled=none)(k:D≠I) :
  Walks prog w A I [I,D] [I] es.size (λi v=>((pickOrder (w.params.setOrder D ep) es).toList.map (·.2))[i]?=some v) (λi h=>iZ h I (.int (0:Nat) 0) i D es.size ep/\wM h D es ep t) where
 sub:=λb c=>by simp at c;simp[c]
 frame:=λ_ _ _ a l=>(l I (9) _ a.1,a.2.at λo e=>l D (9) o e)
 item:=λi s Q E q a g=>by
  have n:(pickOrder (w.params.setOrder D ep) es).size=es.size:=by rw[<-bAD,(zT _ es).length_eq,bAD]
  have f:i<(pickOrder (w.params.setOrder D ep) es).size:=by lia
  have d:=aIf (prog:=prog) (D:=D) (es:=es) (ep:=ep) (slot:=0) (i:=i) (t:=t) c;rw[bAC f] at d;refine aHm a.1 a.2 k d λj m kp=>?_;exact g _ j s.toks (by rw[j5,bBS,bAC f];rfl) (m,a.2.at λo e=>kp D o k e) λb o c e=>kp b o (λz=>c (by simp[z])) e
 done:=λs Q E a g=>by
  have n:(pickOrder (w.params.setOrder D ep) es).size=es.size:=by rw[<-bAD,(zT _ es).length_eq,bAD]
  have d:=aIf (prog:=prog) (D:=D) (es:=es) (ep:=ep) (slot:=0) (i:=es.size) (t:=t) c;rw[bCI (5)] at d;exact aG5 p a.1 a.2 d λj kp=>g j s.toks λb o c e=>kp b o (λz=>c (by simp[z])) e
 self:=λ_ _ _ _ a g=>aAi a.1 g
def aOm {I D:Addr}{es:Array (Int × Value)}{ep:Nat}{t:SetTable}(a:byT w=false)(r:t.led=true)(p:t.plain=true\/es.size<=1)(m:Ris t.place)(hsz:t.place.size=es.size)(x:A.handled=none)(j:D≠I) :
  Walks prog w A I [I,D] [I] es.size (λi v=>(es.toList.map (·.2))[i]?=some v) (λi h=>∃slot,iZ h I (.int (slot:Nat) 0) i D es.size ep/\wM h D es ep t/\SetTable.below t.place slot=i) where
 sub:=λb a=>by simp at a;simp[a]
 frame:=(by rintro _ _ _ ⟨sl,s1,s2,s3⟩ d;exact(sl,d I (9) _ s1,s2.at λo e=>d D (9) o e,s3))
 item:=by
  rintro i s Q E hi ⟨sl,s1,s2,s3⟩ hQ;have f:=aD7 (prog:=prog) (D:=D) (es:=es) (ep:=ep) (slot:=sl) (i:=i) (t:=t) a r p;have c:i<t.place.size:=by lia
  rw[s3,bAC hi,bAC c] at f;refine aHm s1 s2 j f λg l kp=>?_;refine hQ _ g s.toks (by rw[j5,bBS,bAC hi];rfl) (_,l,s2.at λo e=>kp D o j e,8) λb o a e=>kp b o (λz=>a (by simp[z])) e;have(u,q,k):=zA m (t.place[i]+1);have n:i<SetTable.below t.place (t.place[i]+1):=Nat.lt_of_not_le λz=>by have:=k i c z;lia
  rcases Nat.lt_or_eq_of_le (Nat.succ_le_of_lt n) with h2|h2
  .exfalso;have d:i+1<t.place.size:=by lia
   have y:=q (i+1) d h2;have B:=m i (i+1) c d (bDP _);lia
  .exact h2.symm
 done:=by rintro s Q E ⟨sl,s1,s2,s3⟩ hQ;have f:=aD7 (prog:=prog) (D:=D) (es:=es) (ep:=ep) (slot:=sl) (i:=es.size) (t:=t) a r p;rw[s3,bCI (j6 _)] at f;exact aG5 x s1 s2 f λg kp=>hQ g s.toks λb o a e=>kp b o (λz=>a (by simp[z])) e
 self:=(by rintro _ _ _ _ ⟨_,s1,_⟩ hQ;exact aAi s1 hQ)
def aNl {I D T:Addr}{es:Array (Int × Value)}{ep:Nat}{t:SetTable}{ys:List Nat}(m:ys.Perm (List.range es.size))(u:A.handled=none)(q:D≠I)(p:T≠I) :
  Walks prog w A I [I,D,T] [I] es.size (λi v=>((ys.map λj=>es.getD j (0,.none,)).map (·.2))[i]?=some v) (λi h=>iZ h I (.ref T) i D es.size ep/\wM h D es ep t/\h.get? T=some { cls:=.type "tuple",data:=.seq (ys.map λj=>rawInt (j:Nat)).toArray }) where
 sub:=λb d=>by simp at d;simp[d]
 frame:=λ_ _ _ a k=>(k I (9) _ a.1,a.2.1.at λo e=>k D (9) o e,k T (9) _ a.2.2)
 item:=λi s Q E x a f=>by
  have g:ys.length=es.size:=by rw[m.length_eq,bAG]
  have c:i<ys.length:=by lia
  have n:=List.mem_range.mp (m.mem_iff.mp (bAR c));refine aRn a.1 a.2.1 a.2.2 (by rw[bEV,j5,b7 c];rfl) (bAC n) λl r kp=>?_;refine f _ l s.toks ?_ (r,a.2.1.at λo e=>kp D o q e,kp T _ p a.2.2) λb o d e=>kp b o (λz=>d (by simp[z])) e;rw[j5,j5,b7 c];show some (es.getD ys[i] (0,.none,)).2=some es[ys[i]].2;rw[bAU,bAC n];rfl
 done:=λs Q E a f=>by
  have g:ys.length=es.size:=by rw[m.length_eq,bAG]
  exact aRp u a.1 a.2.1 a.2.2 (by rw[bEV,j5,bAJ (5)];rfl) λl kp=>f l s.toks λb o d e=>kp b o (λz=>d (by simp[z])) e
 self:=λ_ _ _ _ a f=>aAi a.1 f
def aZ1 {D:Addr}{es:Array (Int × Value)}{ep:Nat}{t:SetTable}{Q:bGD}(H:A.handled=none)(N:wM s.heap D es ep t)(y:TabOk (byT w) t)(hn:es.size<=1000)
  (h:∀I fp (order:List (Int × Value)) St h1 dr,(∀b o,s.heap.get? b=some o->h1.get? b=some o)->Walks prog w A I fp [I] es.size (λi v=>(order.map (·.2))[i]?=some v) St->St 0 h1->(∀b∈fp,b=D\/s.heap.objs.size<=b)->s.heap.objs.size<=I->order.Perm es.toList ->
   Q (.ref I) { s with heap:=h1,drawn:=dr }):wpAny (model prog w) A (pyIter (.ref D)) Q E s:=by
 have(o,g,l,k,d):=id N;have L:s.TypeIs (.ref D) "set":=(o,g,l.1);refine bET L F.slot_set_iter (bAN F.slot_set_iter L aFa ?_ (F.args_set_iter_1 _));unfold Builtin.«frozenset.__iter__» Builtin.Frozenset.slot0 slotArgs;simp only[List.isEmpty_nil,Bool.not_true,bCE,↓reduceIte,bind_assoc,bBO,bne_self_eq_false];unfold Builtin.Frozenset.addrOf Builtin.Frozenset.sizeOf setDrawn setsByText;refine b8 (d9 ?_)
 try dsimp only
 refine b8 (d9 ?_);refine b8 (b8 (bDO g k d (d9 ?_)));refine b8 (b8 (bDK g k d ?_));dsimp only;refine b8 (b8 (bDT (d9 (d9 ?_))));have f:D<s.heap.objs.size:=v8 g;have V:((0:Nat):Int)=0:=rfl
 split
 .rename_i J;refine b8 (aBu _ _ _ _ (bAG ..) λC dr r=>?_);refine b8 (bFP ?_ (by rw[d7,r.length_eq,bAG];exact bAM hn (6)));have p:({ s with drawn:=dr,heap:=s.heap.push { cls:=.type "tuple",data:=.seq (C.map λi=>rawInt (i:Nat)).toArray } }:Shared).heap.get? D=some o:=c7 _ g;refine b8 (wpAny_setEpoch_of p k d ?_);refine b8 ?_;unfold newFields;refine bAZ (d9 (3,"set_iterator",_,(_,m5 _ rfl,4),cY.lookup,8));have q:(s.heap.push { cls:=.type "tuple",data:=.seq (C.map λi=>rawInt (i:Nat)).toArray }).objs.size=s.heap.objs.size+1:=bBT ..;refine h _ [_,D,s.heap.objs.size] (C.map λj=>es.getD j (0,.none,)) _ _ dr (λb o e=>c7 _ (c7 _ e)) (aNl (t:=t) (ep:=ep) r H ?_ ?_) (888) (λb c=>?_) ?_ ?_
  .show D≠Array.size _;rw[q];exact bAA (bCB f)
  .show s.heap.objs.size≠Array.size _;rw[q];exact bAA (bDP _)
  .exact m5 _ rfl
  .exact(o,c7 _ p,l,k,d)
  .exact c7 _ (m5 _ rfl)
  .simp only[bAS,bAH,or_false] at c;rcases c with rfl|rfl|rfl
   .right;rw[q];exact bEJ _
   .left;rfl
   .right;exact j6 _
  .rw[q];exact bEJ _
  .have e:(List.range es.size).map (λj=>es.getD j (0,.none,))=es.toList:=by
    refine bBM λj=>?_;rw[j5,show es.toList[j]?=es[j]? from bBS];by_cases x:j<es.size
    .rw[bBY x,bAC x];show some (es.getD j (0,.none,))=_;rw[bAU,bAC x];rfl
    .rw[bAJ (by rw[bAG];lia),bCI (5)];rfl
   exact (r.map _).trans (by rw[e])
 .rename_i J;refine b8 (d9 (b8 (wpAny_setEpoch_of g k d (b8 ?_))));unfold newFields;refine bAZ (d9 (3,"set_iterator",_,(_,m5 _ rfl,4),cY.lookup,8));have K:iZ (s.heap.push { cls:=.type "set_iterator",data:=.fields [rawInt 0,rawInt 0,Value.ref D,rawInt (es.size:Nat),rawInt (ep:Nat)].toArray }) s.heap.objs.size (.int (0:Nat) 0) 0 D es.size ep:=m5 _ rfl;have m:wM (s.heap.push { cls:=.type "set_iterator",data:=.fields [rawInt 0,rawInt 0,Value.ref D,rawInt (es.size:Nat),rawInt (ep:Nat)].toArray }) D es ep t:=N.at λo e=>c7 _ e;have n:∀b∈[s.heap.objs.size,D],b=D\/s.heap.objs.size<=b:=λb c=>by
   simp only[bAS,bAH,or_false] at c;rcases c with rfl|rfl
   .right;exact j6 _
   .left;rfl
  cases c:byT w with
  |true=>exact h _ [s.heap.objs.size,D] _ _ _ s.drawn (λb o e=>c7 _ e) (aR6 (t:=t) (ep:=ep) c H (bAA f)) (K,m) n (j6 _) (zT _ es)
  |false=>
   have O:t.led=true:=y.1 c;have B:t.place.size=es.size:=by unfold SetTable.fits at d;rw[bAX,beq_iff_eq] at d;exact d.1
   have M:t.plain=true\/es.size<=1:=by
    have z:¬ (!byT w && (!t.plain && decide (es.size > 1)))=true:=J;rw[c] at z;cases G:t.plain with
    |true=>exact .inl rfl
    |false=>rw[G] at z;right;simpa using z
   have u:Ris t.place:=by
    rcases M with z|z
    .exact y.2.2.2 z
    .intro a b U R T;lia
   refine h _ [s.heap.objs.size,D] es.toList _ _ s.drawn (λb o e=>c7 _ e) (aOm (t:=t) (ep:=ep) c O M u B H (bAA f)) (0,K,m,8) n (j6 _) (.refl _);have(_,P,_):=zA u 0;rcases Nat.eq_zero_or_pos (SetTable.below t.place 0) with z|z
   .exact z
   .by_cases S:0<t.place.size
    .exact absurd (P 0 S z) (bFE _)
    .have:=(zA u 0).1;lia
def bA0 (c:s.TypeIs (.ref D) "set")(h:Q false s):wpAny (model prog w) A (Builtin.List.listLengthHint (.ref D)) Q E s:=by unfold Builtin.List.listLengthHint;refine b8 (wpAny_specialOf c F.slot_set_len.lookup ?_);generalize b:("set.__len__":String)=id0;wp_delta;rw[show splitId id0=some ("set","__len__",) from by subst b;decide +kernel];subst b;refine b8 (bDS c sub_set_self (wpAny_ite_split (λa=>absurd a (6)) (λ_=>wpAny_ite_split (λ_=>?_) (λa=>absurd (0) a))));exact b8 (bEL c (d9 h))
def aPx (hh:A.handled=none)(O:wM s.heap D es ep t)(U:TabOk (byT w) t)(hn:es.size<=1000)(S:Addr)(y:S≠D)(res:Value)(X:s.heap.get? S=some { cls:=.type "list",data:=.seq #[] })
  (hR:∀h' tk dr acc c (order:List (Int × Value)),(∀b o,b≠S->s.heap.get? b=some o->h'.get? b=some o)->h'.get? S=some { cls:=.type "list",dict:=none,data:=.seq acc c,slots:=#[] }->order.Perm es.toList->acc.toList=order.map (·.2)->R (.ok (.ret res)) { s with heap:=h',toks:=tk,drawn:=dr }) :
  wpAny (model prog w) A.in1 (Builtin.List.listExtendWith (.ref S) (.ref D) res) (λfin s'=>match fin with|.done f=>R (.ok f) s'|.again c'=>c'.quiet=true/\codeAny (model prog w) A c' R s') (λe s'=>R (.error e) s') s:=by
 have(o,L,p,hd,hf):=id O;have Y:s.TypeIs (.ref D) "set":=(o,L,p.1);have n:=v8 X;unfold Builtin.List.listExtendWith;refine b8 (bEL Y ?_);have Z:Builtin.List.listSameRef (.ref S) (.ref D)=false:=by simp[Builtin.List.listSameRef,y]
 simp only[Z,show (Value.type "set" == Value.type "list")=false by decide,show (Value.type "set" == Value.type "tuple")=false by decide,Bool.or_false,bCE,if_false];refine b8 (aZ1 hh O U hn λI P order St x dr d W N H v a=>?_);have u:S∉P:=λz=>(H S z).elim y λz=>absurd n (Nat.not_lt.mpr z);have l:=d _ _ X;have q:∀h G tk,St 0 h->(∀b o,b≠S->s.heap.get? b=some o->h.get? b=some o)->h.get? S=some { cls:=.type "list",data:=.seq #[] G } ->
   codeAny (model prog w) A (.builtin "list.extend.loop" ([.ref S,.ref I,res],[])) R { s with heap:=h,toks:=tk,drawn:=dr }:=λh G tk B V E=>by
  refine codeAny_extend_loopS W.toS (bAM hn (6)) S u res es.size 0 _ #[] G rfl (bAI _) B E (ItemsOf.nil _) λs' k c' K C i=>?_;rw[Moved.eq_with K];refine hR s'.heap s'.toks dr k c' order (λb o g e=>K.heap b o (λhmem=>?_) (V b o g e)) C a ?_
  .rcases List.mem_cons.mp hmem with T|hmem
   .exact g T
   .rw[List.mem_singleton.mp hmem] at e;exact absurd (v8 e) (Nat.not_lt.mpr v)
  .have Q:order.length=es.size:=by rw[a.length_eq,bAD]
   refine bBM λj=>?_;rw[bBS];by_cases M:j<k.size
   .rw[bAC M];exact (i.2 j _ (bAC M)).symm
   .rw[bCI (5),bAJ (by rw[d7,Q,<-i.1];lia)]
 refine b8 (bBC (bA0 (o,d _ _ L,p.1) ?_));refine wpAny_ite_split (λ_=>?_) (λ_=>d9 (bCU F.plain_extend_loop _,q x _ _ N (λb o _ e=>d b o e) l));refine b8 (bFO (b8 ?_));refine b8 (wpAny_updateSeq l rfl ?_);have m:=bCO (Obj.mapSeq (·.push Value.none)) l rfl;refine wpAny_updateSeq m rfl ?_;have J:=bCO (Obj.mapSeq (·.pop)) m rfl;have r:∀b o,b≠S->x.get? b=some o->((x.update S (Obj.mapSeq (·.push Value.none))).update S (Obj.mapSeq (·.pop))).get? b=some o:=λb o g e=>(bDU _ _ (Ne.symm g)).trans ((bDU _ _ (Ne.symm g)).trans e);exact d9 (bCU F.plain_extend_loop _,q _ _ _ (W.frame 0 _ _ N λb g o e=>r b o (λz=>u (z ▸ g)) e) (λb o g e=>r b o g (d b o e)) J)
open PySem.Calls PyProof.Rows
section
variable {prog:Program}{w:World}{κ:Type}[DecidableEq κ]{knd:PySem.KeyKind prog w κ}{A:Around}{E:bGD}{s:Shared}
def aLd (L:A.handled=none)(J:wM s.heap D es ep t)(I:TabOk (byT w) t)(z:es.size<=1000)
  (h:∀h' tk dr (order:List (Int × Value)),(∀b o,s.heap.get? b=some o->h'.get? b=some o)->order.Perm es.toList->R (order.map (·.2)) { s with heap:=h',toks:=tk,drawn:=dr }):wpAny (model prog w) A (collect (.ref D)) R E s:=by
 have(o,v,u,G,C):=J;have p:=v8 v;unfold collect;refine b8 (wpAny_runValue (bBP entry_proto_collect' ?_));rw[bBD PySem.F.plain_proto_collect _];show wpAny _ A.in1 (newList [] >>= λl=>again (.builtin "list.__iadd__" ([l,.ref D],[]))) _ _ s;refine b8 (bAZ (d9 (bCU PySem.F.plain_list_iadd _,bBP entry_list_iadd' ?_)));rw[bBD PySem.F.plain_list_iadd _];have r:(s.heap.push { cls:=.type "list",data:=.seq ([]:List Value).toArray }).get? s.heap.objs.size=some { cls:=.type "list",data:=.seq #[] }:=m5 _ rfl;show wpAny _ A.in1 (Builtin.List.listExtendWith (.ref s.heap.objs.size) (.ref D) (.ref s.heap.objs.size)) _ _ _;have m:=aPx (prog:=prog) (w:=w) (A:=A) (s:={ s with heap:=s.heap.push { cls:=.type "list",data:=.seq ([]:List Value).toArray } })
  (R:=λ(q:Result) (n:Shared)=>∃(h':Heap) (tk:Nat) (dr:Drawn) (a:Array Value) (c:Nat) (order:List (Int × Value)),q=.ok (.ret (.ref s.heap.objs.size))/\n={ s with heap:=h',toks:=tk,drawn:=dr }/\(∀b o,s.heap.get? b=some o->h'.get? b=some o)/\h'.get? s.heap.objs.size=some { cls:=.type "list",dict:=none,data:=.seq a c,slots:=#[] }/\order.Perm es.toList/\a.toList=order.map (·.2))
  L (o,c7 _ v,u,G,C) I z s.heap.objs.size (bDA p) (.ref s.heap.objs.size) r
  (λh' tk dr a c order i d j g=>(h',tk,dr,a,c,order,44,λb o e=>i b o (bAA (v8 e)) (c7 _ e),d,j,g))
 have k:∀(h':Heap) (tk:Nat) (dr:Drawn) (a:Array Value) (c:Nat) (order:List (Int × Value)),(∀b o,s.heap.get? b=some o->h'.get? b=some o)->h'.get? s.heap.objs.size=some { cls:=.type "list",dict:=none,data:=.seq a c,slots:=#[] }->order.Perm es.toList->a.toList=order.map (·.2) ->
   wpAny (model prog w) A (load s.heap.objs.size >>= λo=>match o.data with|.seq xs _=>pure xs.toList|_=>unsupported "internal:collect") R E { s with heap:=h',toks:=tk,drawn:=dr }:=λh' tk dr a c order i d j g=>by
  refine b8 (wpAny_load d (d9 ?_));rw[g];exact h h' tk dr order i j
 refine bBJ m (λB n x=>?_) λe n x=>?_
 .cases B with
  |done f=>have(h',tk,dr,a,c,order,e,rfl,i,d,j,g):=x;cases e;exact k h' tk dr a c order i d j g
  |again c₁=>refine(x.1,bDC x.2 λq K y=>?_);have(h',tk,dr,a,c,order,rfl,rfl,i,d,j,g):=y;exact k h' tk dr a c order i d j g
 .have(_,_,_,_,_,_,H,_):=x;cases H
def aL3 (p:A.handled=none)(q:xX knd s.heap D kl)(hn:kl.length<=1000)
  (h:∀h' tk dr acc kl',(∀b o,s.heap.get? b=some o->h'.get? b=some o)->kl'.Perm kl->Paired (λk v=>knd.is k v=true) kl' acc->R acc { s with heap:=h',toks:=tk,drawn:=dr }):wpAny (model prog w) A (collect (.ref D)) R E s:=by
 have(o,x,u,t,l,c,m,n,e,g):=q;refine aLd p (o,l,c,m,n) e (by rw[<-bAD,<-Paired.length g];exact hn) λh' tk dr a j i=>?_;have(kl',d,f):=aBc i g;refine h h' tk dr _ kl' j f ?_;clear i f
 induction d with
 |nil=>exact .nil
 |cons r _ ih=>exact .cons r.1 ih
end
end PySem
namespace L2
open PySem PySem.Spec PyProof.Rows PySem.Calls
section
variable {prog:Program}{w:World}{A:Around}{E:bGD}{s:Shared}
def aWi (h:Paired (λk v=>(cO prog w).is k v=true) kl acc)(hi:∀k∈kl,∃n,k=Sum.inl n):∃ns:List Int,kl=ns.map Sum.inl/\IntsAre acc ns:=by
 induction h with
 |nil=>exact([],4,.nil)
 |@cons k v kl acc r _ ih=>
  have(ns,rfl,b):=ih λk a=>hi k (j8 _ a);have(n,rfl):=hi k v7;rcases eN (show tZ (Sum.inl n) v=true from r) with⟨i,t,e,rfl⟩|⟨x,t,e,_⟩
  .cases e;exact(n::ns,4,.cons n t b)
  .cases e
def aUz (h:Paired (λk v=>(cO prog w).is k v=true) kl acc)(hi:∀k∈kl,∃n,k=Sum.inr n):∃ns:List Str,kl=ns.map Sum.inr/\StrsAre acc ns:=by
 induction h with
 |nil=>exact([],4,.nil)
 |@cons k v kl acc r _ ih=>
  have(ns,rfl,b):=ih λk a=>hi k (j8 _ a);have(n,rfl):=hi k v7;rcases eN (show tZ (Sum.inr n) v=true from r) with⟨i,t,e,_⟩|⟨x,t,e,rfl⟩
  .cases e
  .cases e;exact(n::ns,4,.cons n t b)
def ltK:Key->Key->Prop
 |.inl a,.inl b=>a<b
 |.inr a,.inr b=>a.cps.toList<b.cps.toList
 |_,_=>False
def aVc:∀l p,risingS p l=true->∀x∈l,¬ x.cps.toList<p.cps.toList:=by
 intro a
 induction a with
 |nil=>rintro _ _ x hx;cases hx
 |cons y r ih=>
  rintro p h x hx;unfold risingS at h;rw[bAX,ltCps_eq,Bool.not_eq_true',decide_eq_false_iff_not] at h;rcases List.mem_cons.mp hx with rfl|hx
  .exact h.1
  .intro z;have b:=ih y h.2 x hx;exact h.1 (List.lt_of_le_of_lt (show y.cps.toList<=x.cps.toList from b) z)
def aKd:∀l p,risingS p l=true->l.Nodup->l.Pairwise λa b=>a.cps.toList<b.cps.toList:=by
 intro d
 induction d with
 |nil=>rintro _ _ _;exact .nil
 |cons y r ih=>
  rintro p h nd;unfold risingS at h;rw[bAX] at h;rw[bDX] at nd;refine .cons (λx c=>?_) (ih y h.2 nd.2);have f:=aVc r y h.2 x c;rcases Classical.em (y.cps.toList<x.cps.toList) with z|z
  .exact z
  .exfalso;have e:=List.le_antisymm f z;have:y=x:=by cases y;cases x;exact congrArg Str.mk (Array.toList_inj.mp e)
   exact nd.1 (this ▸ c)
def aEr (h:IntsAre vs ns):Vals ((ns.map Sum.inl).map kV) vs:=by
 induction h with
 |nil=>exact .nil
 |cons n t _ ih=>exact .cons (t,4) ih
def aEx (h:StrsAre vs ns):Vals ((ns.map Sum.inr).map kV) vs:=by
 induction h with
 |nil=>exact .nil
 |cons n t _ ih=>exact .cons (t,4) ih
def zJ {α β:Type}{f:α->β}{l:List α}(h:(l.map f).Nodup):l.Nodup:=List.Pairwise.imp (λa e=>a (congrArg f e)) (List.pairwise_map.mp h)
def aPj (T:A.handled=none)(X:xX (cO prog w) s.heap D kl)(hn:kl.length<=60)(W:kl.Nodup)(hi:(∀k∈kl,∃n,k=Sum.inl n)\/∀k∈kl,∃n,k=Sum.inr n)
  (q:∀(h1 h':Heap) (tk:Nat) (dr:Drawn) (B:Addr) (vs:List Value) (ks:List Key) (e:Nat),Vals (ks.map kV) vs->ks.Perm kl->ks.Pairwise ltK->h'.get? B=some (seqObj "list" vs.toArray e)->(∀b o,s.heap.get? b=some o->h1.get? b=some o)->(∀b o,h1.get? b=some o->h'.get? b=some o)->h1.objs.size<=B->Q (.ref B) { s with heap:=h',toks:=tk,drawn:=dr }) :
  wpAny (model prog w) A (call (.builtin "sorted") [.ref D]) Q E s:=by
 refine call_function_entry kind_sorted plain_sorted entry_sorted (args_sorted1 _) ?_;unfold Builtin.«sorted»;refine b8 (m:=checkCount "sorted" 1 1 _) (d9 (b8 (aL3 (A:=A.in1) T X (5) λh' tk dr c j v u G=>?_)));have V:c.length=kl.length:=by rw[<-Paired.length G,u.length_eq]
 have t:j.Nodup:=u.nodup_iff.mpr W;have f:c.length<64:=by lia
 refine b8 (bGA ?_ (by rw[sizeLine_eq];lia));have d:(h'.push (seqObj "list" c.toArray 0)).get? h'.objs.size=some (seqObj "list" c.toArray 0):=m5 _ rfl;have p:∀(out:Array Value) (ks:List Key),Vals (ks.map kV) out.toList->ks.Perm j->ks.Pairwise ltK->Q (.ref h'.objs.size) { s with heap:=sortedHeap (h'.push (seqObj "list" c.toArray 0)) h'.objs.size c out,toks:=tk,drawn:=dr }:=λout ks K L M=>by have(e,S):=sortedHeap_at (out:=out) d;refine q h' _ tk dr h'.objs.size out.toList ks e K (L.trans u) M (by rw[bFC];exact S) v (λb o x=>?_) (j6 _);have i:=v8 x;rw[sortedHeap_old (bAA i) (by rw[size_push'];exact bCB i)];exact c7 _ x
 rcases hi with hi|hi
 .have(O,rfl,h):=aWi G λk v=>hi k (u.mem_iff.mp v);refine b8 (bBC (bAN slot_list_sort (_,d,4) entry_list_sort (list_sort_tree d h f λout l C z P=>(3,d9 (3,p out (l.map Sum.inl) (aEr C) (z.map _) ?_))) (args_list_sort _)));rw[List.pairwise_map];have F:l.Nodup:=z.nodup_iff.mpr (zJ t);refine (List.pairwise_and_iff.mpr (P,F)).imp λ{a b} (h1,U)=>?_;show a<b;lia
 .have(O,rfl,h):=aUz G λk v=>hi k (u.mem_iff.mp v);refine b8 (bBC (bAN slot_list_sort (_,d,4) entry_list_sort (list_sort_treeK strKind_oneLt d h.keysOf (λZ Y H e=>keyKind_strs (by rw[<-e];exact h)) f λN C z=>(3,d9 (38))) (args_list_sort _)));have(g,R,I,J):=sorted_out_str h C z;refine p _ (g.map Sum.inr) (aEx R) (I.map _) ?_;rw[List.pairwise_map];have F:=I.nodup_iff.mpr (zJ t);cases g with
  |nil=>exact .nil
  |cons y r=>have:=aKd (y::r) y (by unfold risingS;rw[bAX,ltCps_eq];exact(by simpa using List.lt_irrefl _,J)) F;exact this
end
def aYq (P:Program)(w:World)(D:Addr)(kl:List Key):HO:=.ext λh=>xX (cO P w) h D kl
section
variable {X:Cx}
def Inv.drew (I:Inv X bGG σ H s)(dr:Drawn):Inv X bGG σ H { s with drawn:=dr }:=(I.ok,I.os,I.bare,I.base,I.loc,I.cell,I.free,I.freeC,I.pin,I.hok,I.len)
def bJl (P:Program)(w:World)(K:bGC):List V->Hp->VK->Prop:=λxs H Q=>∃p ks,xs=[.ref p]/\SqL K H p (ks.map kV)/\ks.length<=4/\∀D H' kl,H D=none->Same H H'->H' D=some (aYq P w D kl)->Ded kl ks->Q (.ref D) H'
def bBy (h:RelV (kV k) v):(cO X.prog X.w).is k v=true/\v.scannable=true:=by
 cases k with
 |inl n=>have(t,rfl):=h;exact(aHx n t,4)
 |inr n=>have(t,rfl):=h;exact(aIp n t,4)
def aWe (O:X.calm=true):cZ X (.type "set") (bJl X.prog X.w X.K):=by
 intro z s σ H P R Q I r h;have(p,ks,rfl,F,E,q):=h;have(u,rfl,B):=r.one;cases B;have(f,n,C,M):=I.list F;have a:=n.length;rw[d7] at a;refine aUx (knd:=cO X.prog X.w) (ks:=ks) (I.ok.hd O) C.isList (by rw[j7];exact a) (λi v D=>?_) (by rw[j7,<-a];exact E) λg G d x L kp=>?_
 .have c:f[i]?=some v:=by simpa using D
  have l:i<ks.length:=by rw[a];exact (List.getElem?_eq_some_iff.mp c).1
  have(u,j,J):=n.get (i:=i) (x:=kV ks[i]) (by rw[j5,b7 l];rfl);rw[c] at j;cases j;exact(ks[i],b7 l,bBy J)
 .have e:∃o,g.get? s.heap.objs.size=some o:=by have(o,_,_,_,A,_):=x;exact(o,A)
  have t:H s.heap.objs.size=none:=I.hok.fresh (j6 _);exact(.ref s.heap.objs.size,_,I.laid (t':=G) (o:=aYq X.prog X.w s.heap.objs.size d) (λb o m=>kp b o (v8 m) m) (j6 _) (show xX (cO X.prog X.w) g s.heap.objs.size d/\_/\_ from (x,e,λS N y k=>y.at k)),4,q _ _ d t (bJ t _) aO L)
def bBj (P:Program)(w:World):List V->Hp->VK->Prop:=λxs H Q=>∃D kl,xs=[.ref D]/\H D=some (aYq P w D kl)/\kl.length<=60/\kl.Nodup/\((∀k∈kl,∃n,k=Sum.inl n)\/∀k∈kl,∃n,k=Sum.inr n) /\
 ∀(B:Addr) (H':Hp) (ks:List Key),H B=none->Same H H'->H' B=some (.lst (ks.map kV))->ks.Perm kl->ks.Pairwise ltK->Q (.ref B) H'
def aJb (J:X.calm=true):cZ X (.builtin "sorted") (bBj X.prog X.w):=by
 intro k s σ H K M Q I r h;have(D,L,rfl,E,b,C,A,q):=h;have(u,rfl,n):=r.one;cases n;have x:=(I.hok D _ E).1;refine aPj (I.ok.hd J) x b C A λN G f p B y a e t d v m z l c=>?_;have j:=I.kept (t':=f) z;have i:=j.drew p;have g:=i.hok.fresh c;have F:a.length<=60:=by rw[d.length_eq];exact b
 exact(.ref B,_,i.laid (t':=f) (o:=.lst (a.map kV)) l c (small (by rw[d7];lia),y,e,t,m),4,q B _ a g (bJ g _) aO d v)
end
def bIf (M:List Str)(sc scope:Scope)(N:List Str)(σ σ':St):Prop:=
 σ'.length=N.length/\∀(i:Nat) (y:Str) (v:V),N[i]?=some y->σ'[i]?=some (some v)->(y,NameKind.free,)∈scope.names/\∃j:Nat,M[j]?=some y/\σ[j]?=some (some v)/\Vis sc y
def aYu (M:List Str)(sc scope:Scope)(N:List Str)(wi:TI)(g:TG)(tt:TT)(te:TE):TE:=fun σ H Q=>∃σ0,bIf M sc scope N σ σ0/\wi σ H λJ H1=>∀D,H1 D=none->∃W:Nat->Nat->St->Hp->List V->Prop,(∃m,W 0 m σ0 (upd H1 D (.lst [])) []) /\
 ∀i m σ' H' ys,W i m σ' H' ys->H' D=some (.lst ys)/\((J.stop i H'/\Q (.ref D) H')\/(J.go i H'/\∀x H2,J.yld i H' x H2->g x σ' H2 fun σ3 H3=>tt σ3 H3 λb H4=>
  if b=true then te σ3 H4 λy H5=>H5 D=some (.lst ys)/\ys.length<sizeLine/\∃m',m'<m/\W (i+1) m' σ3 (upd H5 D (.lst (ys++[y]))) (ys++[y]) else H4 D=some (.lst ys)/\∃m',m'<m/\W (i+1) m' σ3 H4 ys))
def aYk {X:Cx}{M:List Str}{sc:Scope}{elt target iter:Expr}{ifs:List Expr}{scope:Scope}{pos:Pos}{N:List Str}{wi:TI}{g:TG}{tt:TT}{te:TE}(e:X.N=M)(d:X.env.scope=sc)
  (C:uG scope N) (a:∀y,(y,NameKind.free,)∈scope.names->X.env.kindOf y=some .cell\/X.env.kindOf y=some .free) (b:X.calm=true)
  (hi:VI X target iter wi)
  (c:∀cl s H fp,VG (cxC X N scope cl s H fp) target g/\VF (cxC X N scope cl s H fp) ifs tt/\VE (cxC X N scope cl s H fp) elt te)
  (hs:!(∀x,foldedSetIterable iter X.env x=pure x,3)) :
  VE X (.ListComp elt [(target,iter,ifs,0)] scope pos) (aYu M sc scope N wi g tt te):=by
 subst e d;exact bY C a b hi c hs
end L2
namespace PySem.SeqAt
open PySem PySem.Spec
end PySem.SeqAt
namespace L2
open PySem PySem.Spec PyProof.Rows
end L2
namespace PySem
section
variable {κ:Type}[DecidableEq κ]
open PySem.Spec PySem.Calls PyProof.Rows L2
end
end PySem
namespace L2
open PySem PySem.Spec PyProof.Rows
def bK5 (K:bGC):R2:=λx y H Q=>∃a b us,x=.ref a/\y=.ref b/\SqL K H a us/\SqL K H b us/\(∀u∈us,∃p,u=.ref p)/\Q (.bl false) H
def aXf (h:Vals us its):∀{jts:List Value},(∀u∈us,∃p,u=V.ref p)->Vals us jts->its=jts:=by
 induction h with
 |nil=>intro jts _ k;cases k;rfl
 |cons r _ ih=>
  intro jts a k;cases k with
  |cons r' k=>have(p,rfl):=a _ v7;cases r;cases r';rw[ih (λu b=>a u (j8 _ b)) k]
def bF2 (w:X.A.units<cLine):OpR X (compareOp .NotEq) (bK5 X.K):=by intro d s σ H x y v u Q I f l h;have(a,b,z,rfl,rfl,c,n,i,q):=h;cases f;cases l;have(p,e,g,r):=I.list c;have(o,m,k,B):=I.list n;cases aXf e i m;refine bFQ g.isList k.isList rfl w (λj C t=>bDW _) _ _ _ _ ?_;rw[aEw];exact(.bl _,H,I,4,q)
end L2
namespace My
open PySem PySem.Spec PyProof.Rows L2
def sz0:0<=sizeLine:=by decide
def sz1:1<=sizeLine:=by decide
def sz2:2<=sizeLine:=by decide
def sz3:3<=sizeLine:=by decide
def sz4:4<=sizeLine:=by decide
def sz5:5<=sizeLine:=by decide
def top (i:Nat):Stmt:=PySem.Challenge.pw_shardask_k30_senses_by_rules.main.body.getD i (.Pass (0,0,0,0))
abbrev aCt:Stmt:=top 20
abbrev pC:Stmt:=top 21
abbrev aHk:Stmt:=top 22
abbrev aBe:Stmt:=top 23
abbrev mJ:Stmt:=top 24
abbrev xK:Stmt:=top 25
abbrev aE7:Stmt:=top 26
abbrev zX:Stmt:=top 27
abbrev aFg:Stmt:=top 28
abbrev aG7:Stmt:=top 29
abbrev vD:Stmt:=top 30
abbrev aA8:Stmt:=top 31
abbrev aH6:Stmt:=top 32
abbrev aOv:Stmt:=top 33
abbrev aFi:Stmt:=top 47
abbrev aAn:Stmt:=top 48
abbrev aAq:Stmt:=top 49
abbrev aDr:Stmt:=top 50
abbrev aEk:Stmt:=top 51
abbrev aHz:Stmt:=top 52
abbrev aA9:Stmt:=top 53
abbrev aA6:Stmt:=top 54
abbrev oZ:Stmt:=top 55
abbrev aAy:Stmt:=top 56
abbrev aD3:Stmt:=top 57
abbrev aC5:Stmt:=top 58
abbrev pH:Stmt:=top 59
abbrev aFn:Stmt:=top 61
abbrev sZ:Stmt:=top 62
abbrev qF:Stmt:=top 63
abbrev aFj:Stmt:=top 64
abbrev aHt:Stmt:=top 65
abbrev aG9:Stmt:=top 66
abbrev pI:Stmt:=top 67
abbrev vQ:Stmt:=top 68
abbrev yU:Stmt:=top 69
abbrev yS:Stmt:=top 70
abbrev nY:Stmt:=top 71
abbrev sJ:Stmt:=top 72
abbrev yP:Stmt:=top 73
abbrev mV:Stmt:=top 74
abbrev aCq:Stmt:=top 75
abbrev qP:Stmt:=top 76
abbrev xZ:Stmt:=top 77
abbrev aA5:Stmt:=top 78
abbrev pL:Stmt:=top 79
abbrev aHf:Stmt:=top 80
abbrev aEc:Stmt:=top 82
abbrev vV:Stmt:=top 90
abbrev aHd:Stmt:=top 91
abbrev tU:Stmt:=top 92
abbrev tH:Stmt:=top 93
abbrev aC9:Stmt:=top 94
abbrev aH4:Stmt:=top 95
abbrev aHc:Stmt:=top 96
abbrev tY:Stmt:=top 97
abbrev vN:Stmt:=top 98
abbrev uY:Stmt:=top 99
abbrev vL:Stmt:=top 100
abbrev vM:Stmt:=top 101
abbrev tG:Stmt:=top 102
abbrev rO:Stmt:=top 103
abbrev vP:Stmt:=top 104
abbrev vY:Stmt:=top 105
abbrev aAx:Stmt:=top 106
abbrev vW:Stmt:=top 107
abbrev aCv:Stmt:=top 108
abbrev aDn:Stmt:=top 109
abbrev aDs:Stmt:=top 110
abbrev aMs:Stmt:=top 114
abbrev wW:Stmt:=top 115
abbrev sO:Stmt:=top 116
abbrev zG:Stmt:=top 117
abbrev xE:Stmt:=top 118
abbrev aE0:Stmt:=top 119
abbrev aBd:Stmt:=top 120
abbrev rM:Stmt:=top 121
abbrev aE4:Stmt:=top 122
abbrev nM:Stmt:=classAt (top 126) 0
abbrev pN:Stmt:=classAt (top 126) 1
abbrev qW:Stmt:=classAt (top 126) 2
abbrev oN:Stmt:=classAt (top 126) 3
abbrev aBf:Stmt:=top 128
abbrev xQ:Stmt:=top 129
abbrev aAz:Stmt:=top 130
abbrev nU:Stmt:=top 131
abbrev yC:Stmt:=top 132
abbrev aIo:Stmt:=top 133
abbrev jA:Stmt:=top 134
abbrev aA2:Stmt:=top 135
abbrev qX:Stmt:=top 136
abbrev qQ:Stmt:=top 137
abbrev sI:Stmt:=top 138
abbrev aA1:Stmt:=top 139
abbrev lH:Stmt:=top 140
abbrev rK:Stmt:=top 141
abbrev qR:Stmt:=top 142
abbrev rJ:Stmt:=top 143
abbrev sY:Stmt:=top 144
abbrev vC:Stmt:=top 145
abbrev aBh:Stmt:=top 146
abbrev aDw:Stmt:=top 147
abbrev xJ:Stmt:=top 148
abbrev rG:Stmt:=top 149
abbrev aT8:Stmt:=top 150
structure Txt (w:World)(K:bGC)(mg:bGF):Prop where
 bB9:mg "ValueError"=none
 bJt:mg "abs"=none
 pU:mg "all"=none
 bJc:mg "any"=none
 aPk:mg "bool"=none
 aAa:mg "dict"=none
 aY8:mg "divmod"=none
 uD:mg "enumerate"=none
 rQ:mg "int"=none
 bN:mg "isinstance"=none
 cH:mg "len"=none
 zO:mg "list"=none
 bFy:mg "min"=none
 gW:mg "range"=none
 bE5:mg "set"=none
 aC4:mg "sorted"=none
 bFz:mg "str"=none
 cM:mg "tuple"=none
 aN6:mg "zip"=none
 mD:∃a,mg "QUESTION_WORDS"=some (.ref a)/\∀H,SqT K H a [.str "and",.str "by",.str "count",.str "down",.str "first",.str "group",.str "join",.str "keep",.str "least",.str "most",.str "named",.str "on",.str "sum",.str "table",.str "up",.str "where",.str "with"]
 aW2:∃u,mg "LETTERS"=some u/\RelV (.str "abcdefghijklmnopqrstuvwxyz") u
 aJ3:∃a,mg "KINDS"=some (.ref a)/\∀H,SqT K H a [.str "number",.str "word"]
 aEo:∃u,mg "MOST_LETTERS"=some u/\RelV (.int 8) u
 sS:∃u,mg "MOST_COLUMNS"=some u/\RelV (.int 8) u
 bFn:∃u,mg "WORD_BASE"=some u/\RelV (.int 27) u
 aLm:∃a,mg "SIGNS"=some (.ref a)/\∀H,SqT K H a [.str "=",.str "<",.str ">",.str "!"]
 tK:∃a,mg "SUM_WORDS"=some (.ref a)/\∀H,SqT K H a [.str "count",.str "sum",.str "least",.str "most"]
 aQ1:∃a,mg "WAYS"=some (.ref a)/\∀H,SqT K H a [.str "up",.str "down"]
 aI6:∃u,mg "MOST_TESTS"=some u/\RelV (.int 3) u
 yV:∃u,mg "MOST_NAMES"=some u/\RelV (.int 8) u
 aJ9:∃u,mg "MOST_PAIRS"=some u/\RelV (.int 3) u
 aLv:∃u,mg "MOST_SUMS"=some u/\RelV (.int 4) u
 aO5:∃u,mg "MOST_KEYS"=some u/\RelV (.int 3) u
 aMl:∃u,mg "MOST_ROWS"=some u/\RelV (.int 60) u
 aM5:∃u,mg "MOST_SIZE"=some u/\RelV (.int 20) u
 aCj:∃d t0 t1 t2 t3 t4 t5 t6:Addr,mg "FORMS"=some (.ref d)/\aGy w K d [("table",.ref t0,),("where",.ref t1,),("keep",.ref t2,),("named",.ref t3,),("join",.ref t4,),("group",.ref t5,),("first",.ref t6,)]/\(∃f0:Addr,(∀H,SqT K H t0 [.ref f0])/\mg "is_name"=some (.ref f0))/\(∃f0 f1:Addr,(∀H,SqT K H t1 [.ref f0,.ref f1])/\mg "may_be_question"=some (.ref f0)/\mg "are_tests"=some (.ref f1))/\(∃f0 f1:Addr,(∀H,SqT K H t2 [.ref f0,.ref f1])/\mg "may_be_question"=some (.ref f0)/\mg "are_names"=some (.ref f1))/\(∃f0 f1:Addr,(∀H,SqT K H t3 [.ref f0,.ref f1])/\mg "may_be_question"=some (.ref f0)/\mg "are_names"=some (.ref f1))/\(∃f0 f1 f2:Addr,(∀H,SqT K H t4 [.ref f0,.ref f1,.ref f2])/\mg "may_be_question"=some (.ref f0)/\mg "may_be_question"=some (.ref f1)/\mg "are_pairs"=some (.ref f2))/\(∃f0 f1 f2:Addr,(∀H,SqT K H t5 [.ref f0,.ref f1,.ref f2])/\mg "may_be_question"=some (.ref f0)/\mg "are_group_names"=some (.ref f1)/\mg "are_sums"=some (.ref f2))/\(∃f0 f1 f2:Addr,(∀H,SqT K H t6 [.ref f0,.ref f1,.ref f2])/\mg "may_be_question"=some (.ref f0)/\mg "are_keys"=some (.ref f1)/\mg "is_many"=some (.ref f2))
 cR:∃d:Addr,mg "MADE_SORTS"=some (.ref d)/\aGy w K d [("scan",.str "table",),("where",.str "where",),("keep",.str "keep",),("named",.str "named",),("join",.str "join",),("group",.str "group",),("first",.str "first",),("part",.str "group",),("cut",.str "first",)]
 aDl:∃a,mg "HALVES"=some (.ref a)/\∀H,SqT K H a [.str "part",.str "cut"]
 oF:∃a,mg "SENDING"=some (.ref a)/\∀H,SqT K H a [.str "deal",.str "copy",.str "bring"]
 aMe:∃u,mg "MOST_ACTS"=some u/\RelV (.int 60) u
 jT:∃a,mg "COPIED"=some (.ref a)/\∀H,SqT K H a [.str "copied"]
 uQ:∃a,mg "LOOSE"=some (.ref a)/\∀H,SqT K H a [.str "loose"]
 aGv:∃u,mg "MOST_HOUSES"=some u/\RelV (.int 6) u
 aOw:∃u,mg "MOST_CUTS"=some u/\RelV (.int 8) u
 oA:∃f o,(∃u,mg "is_name"=some u/\RelV (.ref f) u)/\K.lookup f=some o/\o.cls=.type "function"
 aHn:∃f o,(∃u,mg "is_test"=some u/\RelV (.ref f) u)/\K.lookup f=some o/\o.cls=.type "function"
 aIa:∃f o,(∃u,mg "is_pair"=some u/\RelV (.ref f) u)/\K.lookup f=some o/\o.cls=.type "function"
 aOp:∃f o,(∃u,mg "is_sum"=some u/\RelV (.ref f) u)/\K.lookup f=some o/\o.cls=.type "function"
 aNy:∃f o,(∃u,mg "is_key"=some u/\RelV (.ref f) u)/\K.lookup f=some o/\o.cls=.type "function"
 aR3:Dn K mg "is_whole" aCt n6
 yE:Dn K mg "is_number_below" pC bQV
 aVw:Dn K mg "is_word" aHk n6
 aOc:Dn K mg "is_one_of" aBe o7
 vB:Dn K mg "is_tuple_of" mJ n8
 aJo:Dn K mg "are_unlike" xK bQU
 aRc:Dn K mg "names_of" aE7 ["head"]
 aWq:Dn K mg "is_name" zX n6
 aSc:Dn K mg "is_value" aFg n6
 aV9:Dn K mg "kind_of" aG7 ["value"]
 aGi:Dn K mg "is_value_of" vD bXB
 aNb:Dn K mg "is_column" aA8 n6
 aWa:Dn K mg "is_head" aH6 n6
 bA9:Dn K mg "is_row" aOv bQE
 aP9:Dn K mg "is_other" aFi n6
 aWf:Dn K mg "is_test" aAn n6
 aWo:Dn K mg "is_pair" aAq n6
 bA1:Dn K mg "is_sum" aDr n6
 aZl:Dn K mg "is_key" aEk n6
 aVq:Dn K mg "is_many" aHz n6
 aM6:Dn K mg "are_tests" aA9 n6
 aPf:Dn K mg "are_names" aA6 n6
 yQ:Dn K mg "are_group_names" oZ n6
 aPb:Dn K mg "are_pairs" aAy n6
 aR4:Dn K mg "are_sums" aD3 n6
 aQh:Dn K mg "are_keys" aC5 n6
 yF:Dn K mg "may_be_question" pH n6
 aQy:Dn K mg "has_form" aFn n6
 aDf:Dn K mg "questions_in" sZ bQD
 aAj:Dn K mg "with_questions" qF bQZ
 aR2:Dn K mg "own_size" aFj bQD
 aXj:Dn K mg "checked" aHt n6
 aVm:Dn K mg "kind_in" aG9 o8
 yL:Dn K mg "need_like_kinds" pI bQX
 aFt:Dn K mg "need_unlike" vQ bQU
 aI2:Dn K mg "table_head" yU bXJ
 aI0:Dn K mg "other_kind" yS bXK
 aKy:Dn K mg "where_head" nY bXL
 aNj:Dn K mg "keep_head" sJ v4
 aIz:Dn K mg "named_head" yP v4
 aO7:Dn K mg "join_head" mV bXC
 aQ6:Dn K mg "sum_kind" aCq bXN
 aLn:Dn K mg "group_head" qP bXD
 aJ4:Dn K mg "first_head" xZ ["head","keys"]
 aMn:Dn K mg "head_here" aA5 bQW
 vX:Dn K mg "head_within" pL q7
 aW7:Dn K mg "head_of" aHf q7
 aSk:Dn K mg "place_of" aEc o8
 aG1:Dn K mg "as_question" vV bQO
 aV7:Dn K mg "acts_in" aHd bQO
 aCn:Dn K mg "has_own_form" tU n6
 aFd:Dn K mg "has_act_form" tH n6
 aYj:Dn K mg "is_act" aC9 bXE
 aWu:Dn K mg "is_plan" aH4 n6
 aWt:Dn K mg "head_at" aHc bQH
 aDk:Dn K mg "need_fitting" tY bQI
 aFp:Dn K mg "question_at" vN bQJ
 aG0:Dn K mg "is_whole_at" uY bQJ
 aGc:Dn K mg "scan_spread" vL ["placing"]
 aGo:Dn K mg "kept_spread" vM bXF
 aDq:Dn K mg "named_spread" tG bQP
 aBq:Dn K mg "paired_spread" rO bXP
 aGl:Dn K mg "join_spread" vP bQK
 aGs:Dn K mg "sent_spread" vY bQO
 aOd:Dn K mg "spread_at" aAx bXG
 aF4:Dn K mg "is_gathered" vW bQY
 aPp:Dn K mg "is_sound" aCv bQL
 aSd:Dn K mg "sense_at" aDn bQT
 aZw:Dn K mg "senses" aDs ["town","plan"]
 aZh:Dn K mg "is_cut" aMs v5
 aQn:Dn K mg "are_cuts" wW bXA
 aDp:Dn K mg "is_column_in" sO bQE
 aLe:Dn K mg "is_placing" zG bQQ
 aRl:Dn K mg "are_rows" xE bXM
 aRd:Dn K mg "is_table" aE0 v5
 aMo:Dn K mg "need_town" aBd bQB
 aBl:Dn K mg "placed_tables" rM bQB
 aRh:Dn K mg "table_in" aE4 bXI
 aNq:Dn K mg "_law_seed" aBf v6
 aJu:Dn K mg "_law_begin" xQ v6
 aNp:Dn K mg "_law_next" aAz n7
 aJ7:Dn K mg "_law_names" nU n7
 aKt:Dn K mg "_law_value" yC bQM
 aXh:Dn K mg "_law_at" aIo bQR
 aNh:Dn K mg "_law_town" jA w7
 aOy:Dn K mg "_law_some" aA2 o6
 aJp:Dn K mg "_law_tests" qX o6
 aLk:Dn K mg "_law_group" qQ z7
 aDm:Dn K mg "_law_sending" sI u9
 aM1:Dn K mg "_law_lost" aA1 u5
 aJ2:Dn K mg "_law_alone" lH o4
 aBs:Dn K mg "_law_gathered" rK o4
 aSq:Dn K mg "_law_met" qR o9
 aIr:Dn K mg "_law_pairs" rJ bQF
 aNr:Dn K mg "_law_both" sY bQA
 wA:Dn K mg "_law_leaves" vC bQC
 aA4:Dn K mg "_law_size" aBh bQC
 aPl:Dn K mg "_law_act" aDw o5
 aLj:Dn K mg "_law_drawn" xJ bQG
 yJ:Dn K mg "_law_alike" rG bQS
 bKp:Dn K mg "law" aT8 v6
 bIe:∃C,bEd K mg "Town" C/\aFy K C "__init__" "Town.__init__" nM ["self","houses","tables"]/\aFy K C "houses" "Town.houses" pN ["self"]/\aFy K C "heads" "Town.heads" qW ["self"]/\aFy K C "placing" "Town.placing" oN ["self","name"]/\lG K C "placed"/\lG K C "house_count"
abbrev abc:Str:="abcdefghijklmnopqrstuvwxyz"
abbrev words:List V:=[.str "and",.str "by",.str "count",.str "down",.str "first",.str "group",.str "join",.str "keep",.str "least",.str "most",.str "named",.str "on",.str "sum",.str "table",.str "up",.str "where",.str "with"]
def Th (K:bGC)(H:Hp)(v:V):Prop:=(∃x,v=.str x/\x.length<=1000)\/(∃i,v=.int i)\/(∃b,v=.bl b)\/∃k,Rk K H v k
def Th.same {K:bGC}{H H':Hp}{v:V}(e:Same H H')(h:Th K H v):Th K H' v:=by
 rcases h with h|h|h|⟨k,h⟩
 .exact .inl h
 .exact .inr (.inl h)
 .exact .inr (.inr (.inl h))
 .exact .inr (.inr (.inr (k,h.same e)))
def bCm:V->String->Bool
 |.int _,T=>T == "int"
 |.str _,T=>T == "str"
 |.bl _,T=>T == "int" || T == "bool"
 |_,_=>false
def isS:V->Bool
 |.str _=>true
 |_=>false
def whole:V->Bool
 |.int _=>true
 |_=>false
def zB {K:bGC}{H:Hp}{v:V}{T:String}{Q:VK}(c:Th K H v)(a:T = "int"\/T = "bool"\/T = "str")(q:Q (.bl (bCm v T)) H):bKd [v,.ty T] H Q\/bFw K [v,.ty T] H Q:=by
 rcases c with⟨x,rfl,_⟩|⟨i,rfl⟩|⟨b,rfl⟩|⟨k,h⟩
 .refine .inl (138,q);rcases a with rfl|rfl|rfl <;> simp[aQa,bCm]
 .refine .inl (138,q);rcases a with rfl|rfl|rfl <;> simp[aQa,bCm]
 .refine .inl (138,q);rcases a with rfl|rfl|rfl <;> simp[aQa,bCm]
 .refine .inr (13,h,a,8);cases h <;> exact q
def inA (y:Str):Bool:=not (Builtin.Str.occurrences abc y 0 abc.length 1).isEmpty
def allIn (x:Str):Bool:=((List.range x.cps.size).map λi=>inA (sgn x i)).all id
def tW (l:Nat):V->Bool
 |.str x=>decide (l<=x.length) && (decide (x.length<=8) && allIn x)
 |_=>false
def nameB (v:V):Bool:=tW 1 v && !inV v words
def aEd (v:V):Bool:=whole v || tW 0 v
def oJ (K:bGC):Sp:=λvs H Q _=>∃v,vs=[v]/\Th K H v/\Q (.bl (whole v)) H
def uB (K:bGC)(f:V->Bool):Sp:=λvs H Q _=>∃v,vs=[v]/\Th K H v/\∀H',Same H H'->Q (.bl (f v)) H'
def aK3 (K:bGC):Sp:=λvs H Q _=>∃v,vs=[v]/\Th K H v/\Q (.str (if whole v then "number" else "word")) H
inductive bH2 (K:bGC)(vs:List V)(H:Hp)(Q:VK)(E_:XK):Prop
 |mk (a:Addr)(ns:List Int)(_:vs=[.ref a])(_:SqL K H a (ns.map V.int))(_:ns.length<=63)(_:∀H',Q (.bl true) H')
def bIz {K:bGC}{H:Hp}{a:Addr}{b:List Int}(h:b.length<=63)(c:SqL K H a (b.map V.int)):bH2 K [.ref a] H (λv _=>v=.bl true) λ_ _ _=>False:=
 (a,b,4,c,h,λ_=>rfl)
def aL1:aN n6 n6 (aD aCt):=bA
def wZ:aN bQV bQV (aD pC):=bA
def aQk:aN n6 n6 (aD aHk):=bA
def aKc:aN o7 o7 (aD aBe):=bA
def uC:aN n8 n8 (aD mJ):=bA
def aF6:aN bQU bQU (aD xK):=bA
def aOz:aN ["head"] ["head"] (aD aE7):=bA
def aRj:aN n6 n6 (aD zX):=bA
def aNv:aN n6 n6 (aD aFg):=bA
def aSp:aN ["value"] ["value"] (aD aG7):=bA
def aCp:aN bXB bXB (aD vD):=bA
def aK6:aN n6 n6 (aD aA8):=bA
def aPt:aN n6 n6 (aD aH6):=bA
def aXi:aN bQE bQE (aD aOv):=bA
def aM8:aN n6 n6 (aD aFi):=bA
def aPv:aN n6 n6 (aD aAn):=bA
def aS0:aN n6 n6 (aD aAq):=bA
def aV3:aN n6 n6 (aD aDr):=bA
def aWg:aN n6 n6 (aD aEk):=bA
def aPw:aN n6 n6 (aD aHz):=bA
def aKb:aN n6 n6 (aD aA9):=bA
def aI7:aN n6 n6 (aD aA6):=bA
def wG:aN n6 n6 (aD oZ):=bA
def aK1:aN n6 n6 (aD aAy):=bA
def aO4:aN n6 n6 (aD aD3):=bA
def aLw:aN n6 n6 (aD aC5):=bA
def wY:aN n6 n6 (aD pH):=bA
def aBi:aN ["thing","form"] n6 (aD aFn):=bA
def aB0:aN bQD bQD (aD sZ):=bA
def zE:aN bQZ bQZ (aD qF):=bA
def aNk:aN bQD bQD (aD aFj):=bA
def aEn:aN ["thing","size","waiting","part"] n6 (aD aHt):=bA
def aE9:aN ["head","name","column"] o8 (aD aG9):=bA
def xA:aN bQX bQX (aD pI):=bA
def aDx:aN bQU bQU (aD vQ):=bA
def aFu:aN bXJ bXJ (aD yU):=bA
def aGn:aN bXK bXK (aD yS):=bA
def aFx:aN bXL bXL (aD nY):=bA
def aJz:aN v4 v4 (aD sJ):=bA
def aF2:aN v4 v4 (aD yP):=bA
def qY:aN ["head","other","pairs","here","there"] bXC (aD mV):=bA
def aMb:aN bXN bXN (aD aCq):=bA
def vI:aN ["head","names","sums","kept","made","part","column"] bXD (aD qP):=bA
def vU:aN ["head","keys","names"] ["head","keys"] (aD xZ):=bA
def xU:aN ["heads","question","inner","sort"] bQW (aD aA5):=bA
def lN:aN ["heads","question","inner","head"] q7 (aD pL):=bA
def aSh:aN q7 q7 (aD aHf):=bA
def aO0:aN o8 o8 (aD aEc):=bA
def aCy:aN bQO bQO (aD vV):=bA
def aQx:aN bQO bQO (aD aHd):=bA
def aB5:aN n6 n6 (aD tU):=bA
def aBp:aN n6 n6 (aD tH):=bA
def aVl:aN bXE bXE (aD aC9):=bA
def aRy:aN n6 n6 (aD aH4):=bA
def aP5:aN bQH bQH (aD aHc):=bA
def rN:aN ["number","act","question","town","head"] bQI (aD tY):=bA
def tV:aN ["act","inner","questions"] bQJ (aD vN):=bA
def aCr:aN bQJ bQJ (aD uY):=bA
def aEb:aN ["placing"] ["placing"] (aD vL):=bA
def aE3:aN bXF bXF (aD vM):=bA
def aBk:aN bQP bQP (aD tG):=bA
def qJ:aN ["spread","pairs","pair"] bXP (aD rO):=bA
def aDj:aN bQK bQK (aD vP):=bA
def aD4:aN bQO bQO (aD vY):=bA
def xN:aN ["act","inner","town","spread"] bXG (aD aAx):=bA
def aDd:aN bQY bQY (aD vW):=bA
def aOn:aN bQL bQL (aD aCv):=bA
def aBa:aN ["number","act","inner","town","question","spread"] bQT (aD aDn):=bA
def aH2:aN ["town","plan","told","number","act"] ["town","plan"] (aD aDs):=bA
def aVh:aN v5 v5 (aD aMs):=bA
def aA0:aN ["thing","kind","houses","lows"] bXA (aD wW):=bA
def aB6:aN bQE bQE (aD sO):=bA
def aFq:aN bQQ bQQ (aD zG):=bA
def aL4:aN bXM bXM (aD xE):=bA
def aNn:aN v5 v5 (aD aE0):=bA
def xG:aN ["houses","tables","name","table"] bQB (aD aBd):=bA
def zP:aN bQB bQB (aD rM):=bA
def aNw:aN bXI bXI (aD aE4):=bA
def zR:aN bQN bQN (aD nM):=bA
def aEy:aN bXH bXH (aD pN):=bA
def aG2:aN bXH bXH (aD qW):=bA
def aBx:aN bXO bXO (aD oN):=bA
def yI:aN ["_law_script","_law_seed_here","_law_k","_law_cell"] v6 (aD aBf):=bA
def uZ:aN ["_law_script","_law_digits"] v6 (aD xQ):=bA
def yK:aN ["_law_state","_law_many","_law_digit"] n7 (aD aAz):=bA
def vJ:aN ["_law_state","_law_many","_law_odd","_law_base","_law_at_here"] n7 (aD nU):=bA
def vG:aN ["_law_state","_law_kind","_law_way"] bQM (aD yC):=bA
def aSo:aN bQR bQR (aD aIo):=bA
def gZ:aN ["_law_state","_law_names_here","_law_most","_law_houses","_law_tables","_law_k","_law_start","_law_many","_law_kinds","_law_head","_law_name","_law_kind","_law_lows","_law_cuts","_law_placing","_law_rows"] w7 (aD jA):=bA
def xH:aN ["_law_state","_law_head","_law_turn"] o6 (aD aA2):=bA
def jU:aN ["_law_state","_law_head","_law_tests_here","_law_k","_law_name","_law_kind","_law_alike_here","_law_others"] o6 (aD qX):=bA
def iK:aN ["_law_state","_law_head","_law_names_here","_law_some_here","_law_fresh","_law_sums","_law_k","_law_name","_law_kind","_law_word"] z7 (aD qQ):=bA
def rP:aN ["_law_state","_law_done","_law_a","_law_houses","_law_full","_law_question","_law_head","_law_spread","_law_c","_law_house","_law_acts","_law_way"] u9 (aD sI):=bA
def aJa:aN u5 u5 (aD aA1):=bA
def eF:aN ["_law_state","_law_done","_law_a","_law_names_here","_law_act_here","_law_full","_law_question","_law_head","_law_spread","_law_way","_law_some_here","_law_shown","_law_tests_here","_law_turn","_law_fresh","_law_asked"] o4 (aD lH):=bA
def fQ:aN ["_law_state","_law_done","_law_a","_law_names_here","_law_act_here","_law_full","_law_question","_law_head","_law_spread","_law_some_here","_law_sums","_law_shown"] o4 (aD rK):=bA
def aNx:aN o9 o9 (aD qR):=bA
def gM:aN ["_law_state","_law_head","_law_other","_law_turn","_law_left","_law_pairs_here","_law_c","_law_kind","_law_some_here","_law_column"] bQF (aD rJ):=bA
def lA:aN ["_law_state","_law_done","_law_a","_law_b","_law_head","_law_pairs_here","_law_ends","_law_made","_law_spread"] bQA (aD sY):=bA
def sU:aN bQC bQC (aD vC):=bA
def yX:aN bQC bQC (aD aBh):=bA
def gV:aN ["_law_state","_law_done","_law_tables","_law_names_here","_law_houses","_law_way","_law_name","_law_placing","_law_spread","_law_a","_law_act_here","_law_full","_law_question","_law_head","_law_fits"] o5 (aD aDw):=bA
def jQ:aN ["_law_script","_law_most","_law_acts","_law_state","_law_names_here","_law_houses","_law_tables","_law_done","_law_k","_law_entry"] bQG (aD xJ):=bA
def vO:aN bQS bQS (aD rG):=bA
def wX:aN ["_law_script","_law_state","_law_names_here","_law_houses","_law_tables","_law_plan","_law_town_here","_law_acts","_law_due","_law_k","_law_handed","_law_found"] v6 (aD aT8):=bA
section
variable {P:Program}{w:World}{K:bGC}{mg:bGF}{base:Heap}
def aNi (T:!Txt):!Ok 1 "is_whole" n6 (oJ K):=by
 refine Ok.ofW T.aR3 aL1 λZ H d Q c h=>?_;have(v,rfl,a,q):=h;exists _,(aC (aH (dI (aJ (pW.or oE) (7) T.bN bH (aF (vv 0) (va1 (dJ (v:=.ty "int") (7) T.rQ nG rfl)))) (dN (bHs (aJ (pW.or oE) (7) T.bN bH (aF (vv 0) (va1 (dJ (v:=.ty "bool") (7) T.aPk aI9 rfl)))))))));refine(3,zB a (.inl rfl) (38));rcases id a with⟨x,rfl,_⟩|⟨i,rfl⟩|⟨b,rfl⟩|⟨k,h⟩
 .exact aU q
 .exact bI (3,zB a (.inr (.inl rfl)) (3,q))
 .exact bI (3,zB a (.inr (.inl rfl)) (3,q))
 .cases h <;> exact aU q
def bAb (x:Str):(((List.range x.cps.size).map λi=>V.str (sgn x i)).map λv=>match v with|.str y=>V.bl (inA y)|_=>.bl false)=(((List.range x.cps.size).map λi=>inA (sgn x i)).map V.bl):=by rw[bBN,bBN];rfl
def aRr (T:!Txt):!Ok 1 "is_word" n6 (uB K (tW 0)):=by
 refine Ok.ofW T.aVw aQk λZ H C Q A h=>?_;have(v,rfl,f,q):=h;exists _,(aB (bL (VW.pt (dZ (cJ (cD (aJ (pW.or oE) (7) T.bN bH (aF (vv 0) (va1 (dJ (v:=.ty "str") (7) T.bFz bBm rfl)))))) (dO (cL aBb (aJ xM (7) T.cH bM (va1 (vv 0))) (dG (7) T.aEo))))) (aC (aH eO)) aV) (aC (aH (aJ (gQ rfl) (7) T.pU mH (va1 (bY (N:=["sign"]) ck dH rfl (bIk (vv 0)) (λu t m s=>((dF 0),cI,(gY aXa (vv 0) (dG (7) T.aW2) (1))))))))));refine(3,zB f (.inr (.inr rfl)) (38));have a:isS v=false->Q (.bl false) H:=λe=>by
  have z:tW 0 v=false:=by cases v <;> first|rfl|cases e
  rw[<-z];exact q H (Same.refl H)
 rcases id f with⟨x,rfl,g⟩|⟨i,rfl⟩|⟨b,rfl⟩|⟨k,h⟩
 .refine aU (33,small g,1238);refine aAr (λc=>?_) (λc=>?_)
  .have j:(8:Int)<x.length:=of_decide_eq_true c;have z:tW 0 (.str x)=false:=by show (decide (0<=x.length) && (decide (x.length<=8) && allIn x))=false;rw[j9 (p:=x.length<=8) (5)];simp
   rw[<-z];exact q H (Same.refl H)
  .have j:¬ (8:Int)<x.length:=of_decide_eq_false (Bool.eq_false_iff.mpr c);dsimp only[oM,qI,tCB,cX];refine aWy ((List.range x.cps.size).map λi=>V.str (sgn x i)) (λv=>match v with|.str y=>V.bl (inA y)|_=>.bl false) [none] iM ?_
    (λR r=>bIh (z:=x) (λB o=>(3,o)) R r) (λv d m R l E r=>?_) rfl λD n=>?_
   .rw[d7,bAG];exact small g
   .have(i,_,rfl):=List.mem_map.mp d;exact(312,r)
   .exists D,(List.range x.cps.size).map λi=>inA (sgn x i),4,(SqL.of (by rw[aO,bAb]));have z:tW 0 (.str x)=allIn x:=by show (decide (0<=x.length) && (decide (x.length<=8) && allIn x))=allIn x;rw[j4 (p:=x.length<=8) (5)];simp
    show Q (.bl (allIn x)) _;rw[<-z];exact q _ (bJ n _)
 .exact bI (a rfl)
 .exact bI (a rfl)
 .cases h <;> exact bI (a rfl)
def aCi (h:tW l v=true):∃x,v=.str x/\l<=x.length/\x.length<=8/\allIn x=true:=by
 cases v with
 |str x=>have h:(decide (l<=x.length) && (decide (x.length<=8) && allIn x))=true:=h;rw[bAX,bAX] at h;exact(x,4,of_decide_eq_true h.1,of_decide_eq_true h.2.1,h.2.2)
 |_=>cases h
def aIc:x=("":Str)↔x.length=0:=by
 constructor
 .rintro rfl;decide +kernel
 .intro h;obtain⟨a⟩:=x;have h:a.size=0:=h;rw[Array.size_eq_zero_iff] at h;subst h;decide +kernel
def aP4:words.all lY=true:=rfl
def aSv (T:!Txt)(m:!Ok 1 "is_word" n6 (uB K (tW 0))):!Ok 2 "is_name" n6 (uB K nameB):=by
 refine Ok.ofW T.aWq aRj λZ H A Q t h=>?_;have(v,rfl,n,q):=h;have(j,k,f):=T.mD;have o:∃u,mg "QUESTION_WORDS"=some u/\RelV (.ref j) u:=(_,k,4);exists _,(aC (aH (dI (aY m (va1 (vv 0))) (dI (lW pY (vv 0) aL) (dN (gY iB (vv 0) (dG (7) o) (1)))))));refine(33,n,λa g=>(38));refine aAr (λc=>?_) (λc=>?_)
 .have(x,rfl,_,i,b):=aCi c;exists 023;by_cases e:x.length=0
  .have l:=aIc.mpr e;subst l;refine aU ?_;have z:nameB (.str "")=false:=by trivial
   rw[<-z];exact q a g
  .have r:¬ (V.str x=V.str ""):=λz=>e (aIc.mp (V.str.inj z));have s:(!decide (V.str x=V.str ""))=true:=by rw[j9 r];rfl
   rw[s];refine bI (3,j,words,4,.inr (f _),4,aP4,8);have z:nameB (.str x)=!inV (.str x) words:=by show ((decide (1<=x.length) && (decide (x.length<=8) && allIn x)) && !inV (.str x) words)=!inV (.str x) words;rw[j4 (p:=1<=x.length) (5),j4 i,b];rfl
   show Q (.bl (!inV (.str x) words)) a;rw[<-z];exact q a g
 .have z:nameB v=false:=by
   show (tW 1 v && !inV v words)=false;cases d:tW 1 v with
   |false=>rfl
   |true=>have(x,rfl,y,i,b):=aCi d;refine absurd ?_ c;show (decide (0<=x.length) && (decide (x.length<=8) && allIn x))=true;rw[j4 i,b,j4 (bAI _)];rfl
  rw[<-z];exact q a g
def aN8 (T:!Txt)(i:!Ok 1 "is_whole" n6 (oJ K))(e:!Ok 1 "is_word" n6 (uB K (tW 0))) :
  !Ok 2 "is_value" n6 (uB K aEd):=by
 refine Ok.ofW T.aSc aNv λZ H g Q f h=>?_;have(v,rfl,b,q):=h;exists _,(aC (aH (aS6 (aY i (va1 (vv 0))) (dN (aY e (va1 (vv 0)))))));exists 33,b,3;cases a:whole v with
 |true=>
  refine bI ?_;have z:aEd v=true:=by show (whole v || tW 0 v)=true;rw[a];rfl
  rw[<-z];exact q H (Same.refl H)
 |false=>
  refine aU (33,b,λc d=>?_);have z:aEd v=tW 0 v:=by show (whole v || tW 0 v)=tW 0 v;rw[a];rfl
  rw[<-z];exact q c d
def aRk (T:!Txt)(e:!Ok 1 "is_whole" n6 (oJ K)):!Ok 2 "kind_of" ["value"] (aK3 K):=by
 refine Ok.ofW T.aV9 aSp λZ H d Q c h=>?_;have(v,rfl,b,q):=h;exists _,(aC (aH (gJ (cD (aY e (va1 (vv 0)))) aL aL)));exists 33,b,3;cases a:whole v with
 |true=>rw[a] at q;exact bI q
 |false=>rw[a] at q;exact aU q
def at0 (x:V)(r:List V):atI (x::r) 0=some x:=by unfold atI ixN;simp
def at1 (x y:V)(r:List V):atI (x::y::r) 1=some y:=by unfold atI ixN;simp only[p8];rw[if_pos (5),if_pos (5)];rfl
def Tk.same (e:Same H H')(h:Tk K H v b):Tk K H' v b:=by
 cases h with
 |int=>exact .int
 |str=>exact .str
 |bl=>exact .bl
 |non=>exact .non
 |lst q=>exact .lst (e.seq q)
 |dct q=>exact .dct (e _ _ q)
 |tup q=>exact .tup (e.aG q)
structure Tells (R:Hp->V->Bool->Prop):Prop where
 same:∀{H H' v b},Same H H'->R H v b->R H' v b
inductive jN (R:Hp->V->Bool->Prop)(vs:List V)(H:Hp)(Q:VK)(E_:XK):Prop
 |mk (v b:_)(_:vs=[v])(_:R H v b)(_:∀H',Same H H'->Q (.bl b) H')
inductive aA7 (K:bGC)(R:Hp->V->Bool->Prop)(lo hi:Nat)(H:Hp):V->Bool->Prop
 |no {v}:Tk K H v false->aA7 K R lo hi H v false
 |len {a xs}:SqT K H a xs->¬ (lo<=xs.length/\xs.length<=hi)->aA7 K R lo hi H (.ref a) false
 |yes {a xs}(f:V->Bool):SqT K H a xs->lo<=xs.length->xs.length<=hi->(∀x∈xs,R H x (f x))->aA7 K R lo hi H (.ref a) (xs.all f)
inductive pM (K:bGC)(vs:List V)(H:Hp)(Q:VK)(E_:XK):Prop
 |mk (v a xs:_)(_:vs=[v,.ref a])(_:Th K H v)(_:SqT K H a xs)(_:xs.all lY=true)(_:Q (.bl (isS v && inV v xs)) H)
inductive kZ (P:Program)(w:World)(K:bGC)(mg:bGF)(base:Heap)(k:Nat)(vs:List V)(H:Hp)(Q:VK)(E_:XK):Prop
 |mk (v lo hi f ps R b:_)(_:vs=[v,.int (lo:Nat),.int (hi:Nat),.ref f])(_:hi<=1000)(_:!Held k f ps (jN R))(_:Tells R)(_:aA7 K R lo hi H v b)(_:∀H',Same H H'->Q (.bl b) H')
inductive aAv (K:bGC)(vs:List V)(H:Hp)(Q:VK)(E_:XK):Prop
 |mk (a:Addr)(ss:List Str)(_:vs=[.ref a])(_:SqL K H a (ss.map V.str))(_:ss.length<=1000)(_:∀H',Same H H'->Q (.bl (decide ss.Nodup)) H')
def aLc (T:!Txt):!Ok 1 "is_one_of" o7 (pM K):=by
 refine Ok.ofW T.aOc aKc λZ H j Q g h=>?_;have(v,a,f,rfl,c,d,e,q):=h;exists _,(aC (aH (dI (aJ (pW.or oE) (7) T.bN bH (aF (vv 0) (va1 (dJ (v:=.ty "str") (7) T.bFz bBm rfl)))) (dN (gY fU (vv 0) (vv 1) (1))))));refine(3,zB c (.inr (.inr rfl)) (38));rcases id c with⟨x,rfl,_⟩|⟨i,rfl⟩|⟨b,rfl⟩|⟨k,h⟩
 .exact bI (33,a,f,4,.inr d,4,e,q)
 .exact aU q
 .exact aU q
 .cases h <;> exact aU q
def eG (T:!Txt):!Ok (k+1) "is_tuple_of" n8 (!kZ k):=by
 refine Ok.ofW T.vB uC λZ H M Q u h=>?_;have(v,m,n,g,C,R,b,rfl,i,y,o,s,q):=h;exists _,(aB (bL (VW.pt (dZ (cJ (cD (aJ dY (7) T.bN bH (aF (vv 0) (va1 (dJ (v:=.ty "tuple") (7) T.cM cB rfl)))))) (dO (cJ (uE oV oV (vv 1) (aJ aM (7) T.cH bM (va1 (vv 0))) (vv 2)))))) (aC (aH eO)) aV) (aC (aH (aJ (gQ rfl) (7) T.pU mH (va1 (bY (N:=["part","is_part"]) ck (dC (aD mJ)) rfl (fV (vv 0)) (λJ G d F=>((dF 0),cI,(aOt (P:=P) (w:=w) (K:=K) (mg:=mg) (base:=base) u (vv 1) (va1 (vv 0)))))))))));cases s with
 |no h=>exact(303,h,3,bI (q H (Same.refl H)))
 |@len a xs ha hn=>refine(303,.tup ha,3,aU ?_);exists 3303,.inr ha,123;refine aAr (λc=>(31238)) (λc=>(3,bI (q H (Same.refl H))));have I:(m:Int)<=xs.length:=of_decide_eq_true c;have e:decide ((xs.length:Int)<=(n:Int))=false:=j9 λz=>hn (55);rw[e];exact bI (q H (Same.refl H))
 |@yes a xs t ha h1 h2 hx=>
  refine(303,.tup ha,3,aU ?_);exists 3303,.inr ha,123;have p:decide ((m:Int)<=(xs.length:Int))=true:=j4 (5);have E:decide ((xs.length:Int)<=(n:Int))=true:=j4 (5);rw[p];refine bI (31238);rw[E];refine aU ?_;dsimp only[oM,qI,tCB,cX];refine aHy xs (λx=>.bl (t x)) [none,some (.ref g)] ?_ (small (5)) (λR r=>nF ha (λL B=>(3,B)) R r) (λx f d R l j r=>?_) rfl λD d j A=>?_
  .exact eX 3 (0) rfl rfl (0)
  .exact(3,g,C,3,y,3,x,t x,4,o.same j (hx x f),r)
  .exists D,xs.map t,4,(SqL.of (by rw[A,bBN];rfl));rw[List.all_map];exact q d j
def vZ (T:!Txt):!Ok 1 "are_unlike" bQU (aAv K):=by
 refine Ok.ofW T.aJo aF6 λZ H k Q j h=>?_;have(a,b,rfl,c,i,q):=h;exists _,(aC (aH (lW bZ (aJ aR8 (7) T.cH bM (va1 (bF (aSa rfl) (7) T.bE5 bA2 (va1 (vv 0))))) (aJ aM (7) T.cH bM (va1 (vv 0))))));refine(3,a,b,4,c,i,λD g d f=>(D,g,4,aO,3,a,3,.inl ((bJ d _).seq c),48));have e:decide (V.int (g.length:Nat)=V.int (b.map V.str).length)=decide b.Nodup:=by rw[d7];exact decide_eq_decide.mpr (λz=>(aOr f).mp (by have:=V.int.inj z;lia),λz=>by rw[(aOr f).mpr z])
 rw[e];exact q _ (bJ d _)
def at2 (x y z:V)(r:List V):atI (x::y::z::r) 2=some z:=by unfold atI ixN;simp only[p8];rw[if_pos (5),if_pos (5)];rfl
def gO (h:x.length<=8):Th K H (.str x):=.inl (x,45)
def Nm (x:Str):Prop:=nameB (.str x)=true
def aY3 (h:nameB (.str x)=true):x.length<=8:=by have h:(tW 1 (.str x) && !inV (.str x) words)=true:=h;rw[bAX] at h;have(y,e,_,a,_):=aCi h.1;cases e;exact a
def Nm.th (h:Nm x):Th K H (.str x):=gO (aY3 h)
abbrev signs:List V:=[.str "=",.str "<",.str ">",.str "!"]
abbrev aEi:List V:=[.str "count",.str "sum",.str "least",.str "most"]
abbrev bFe:List V:=[.str "up",.str "down"]
inductive Oth where
 |val (x:V)
 |col (d:Str)
structure Tst where
 c:Str
 sg:Str
 o:Oth
structure Sm where
 wd:Str
 c:Option Str
 new:Str
def IsO (K:bGC)(H:Hp)(v:V):Oth->Prop
 |.val x=>∃a,v=.ref a/\SqT K H a [.str "value",x]/\Th K H x/\aEd x=true
 |.col d=>∃a,v=.ref a/\SqT K H a [.str "column",.str d]/\Nm d
def bKq (x:Str):Prop:=x = "="\/x = "<"\/x = ">"\/x = "!"
def IsT (K:bGC)(H:Hp)(v:V)(t:Tst):Prop:=∃a w,v=.ref a/\SqT K H a [.str t.c,.str t.sg,w]/\Nm t.c/\bKq t.sg/\IsO K H w t.o
def pP (K:bGC)(H:Hp)(v:V)(p:Str × Str):Prop:=∃a,v=.ref a/\SqT K H a [.str p.1,.str p.2]/\Nm p.1/\Nm p.2
def rC (K:bGC)(H:Hp)(v:V)(p:Str × Str):Prop:=∃a,v=.ref a/\SqT K H a [.str p.1,.str p.2]/\Nm p.1/\(p.2 = "up"\/p.2 = "down")
def bKk (x:Str):Prop:=x = "sum"\/x = "least"\/x = "most"
def oR (K:bGC)(H:Hp)(v:V)(s:Sm):Prop:=∃a,v=.ref a/\Nm s.new/\((s.wd = "count"/\s.c=none/\SqT K H a [.str "count",.non,.str s.new])\/(∃c,s.c=some c/\Nm c/\bKk s.wd/\SqT K H a [.str s.wd,.str c,.str s.new]))
def IsN (v:V)(x:Str):Prop:=v=.str x/\Nm x
inductive bR {α β:Type}(R:α->β->Prop):List α->List β->Prop
 |nil:bR R [] []
 |cons {a b as bs}:R a b->bR R as bs->bR R (a::as) (b::bs)
def bR.len {α β:Type}{R:α->β->Prop}{as:List α}{bs:List β}(h:bR R as bs):as.length=bs.length:=by
 induction h with
 |nil=>rfl
 |cons _ _ ih=>rw[p8,p8,ih]
def bR.imp {α β:Type}{R S:α->β->Prop}{as:List α}{bs:List β}(h:bR R as bs)(k:∀a b,R a b->S a b):bR S as bs:=by
 induction h with
 |nil=>exact .nil
 |cons r _ ih=>exact .cons (k _ _ r) ih
def bR.mem {α β:Type}{R:α->β->Prop}{as:List α}{bs:List β}(h:bR R as bs){a:α}(m:a∈as):∃b,b∈bs/\R a b:=by
 induction h with
 |nil=>cases m
 |cons r _ ih=>
  rcases List.mem_cons.mp m with rfl|m
  .exact(_,v7 ..,r)
  .have(b,c,q):=ih m;exact(b,j8 _ c,q)
def bR.app {α β:Type}{R:α->β->Prop}{as cs:List α}{bs ds:List β}(h:bR R as bs)(k:bR R cs ds):bR R (as++cs) (bs++ds):=by
 induction h with
 |nil=>exact k
 |cons r _ ih=>exact .cons r ih
def qL {α:Type}(K:bGC)(H:Hp)(R:V->α->Prop)(v:V)(xs:List α):Prop:=∃a vs,v=.ref a/\SqT K H a vs/\bR R vs xs
def qL.same {α:Type}{K:bGC}{H H':Hp}{R S:V->α->Prop}{v:V}{xs:List α}(e:Same H H')(k:∀a b,R a b->S a b)(h:qL K H R v xs):qL K H' S v xs:=by have(a,f,rfl,d,c):=h;exact(a,f,4,e.aG d,c.imp k)
def IsO.same (e:Same H H')(h:IsO K H v o):IsO K H' v o:=by
 cases o with
 |val x=>have(a,rfl,b,c,g):=h;exact(a,4,e.aG b,c.same e,g)
 |col d=>have(a,rfl,b,f):=h;exact(a,4,e.aG b,f)
def IsT.same (e:Same H H')(h:IsT K H v t):IsT K H' v t:=by have(a,w,rfl,c,f,d,b):=h;exact(a,w,4,e.aG c,f,d,b.same e)
def pP.same (e:Same H H')(h:pP K H v t):pP K H' v t:=by have(a,rfl,b,c):=h;exact(a,4,e.aG b,c)
def rC.same (e:Same H H')(h:rC K H v t):rC K H' v t:=by have(a,rfl,b,c):=h;exact(a,4,e.aG b,c)
def oR.same (e:Same H H')(h:oR K H v t):oR K H' v t:=by
 have(a,rfl,b,d):=h;exists a,4,b;rcases d with⟨x,y,z⟩|⟨c,x,y,z,u⟩
 .exact .inl (x,y,e.aG z)
 .exact .inr (c,x,y,z,e.aG u)
def jM {α:Type}(K:bGC)(S:bGC->Hp->V->α->Prop):Hp->V->Bool->Prop:=λH v b=>b=true/\∃t,S K H v t
def mF {α:Type}{K:bGC}{S:bGC->Hp->V->α->Prop}(a:∀{H H' v t},Same H H'->S K H v t->S K H' v t):Tells (jM K S):=⟨λe h=>(h.1,let (t,q):=h.2;(t,a e q))⟩
def iI (_:bGC)(_:Hp)(v:V)(x:Str):Prop:=IsN v x
def tupof {α:Type}{S:bGC->Hp->V->α->Prop}{lo hi:Nat}{H:Hp}{v:V}{xs:List α}(h:qL K H (S K H) v xs)(i:lo<=xs.length)(j:xs.length<=hi):aA7 K (jM K S) lo hi H v true:=by
 have(a,f,rfl,d,c):=h;have z:=aA7.yes (K:=K) (R:=jM K S) (lo:=lo) (hi:=hi) (λ_=>true) d (by rw[c.len];exact i) (by rw[c.len];exact j) (λx g=>by have(b,_,q):=c.mem g;exact(4,b,q))
 have e:f.all (λ_=>true)=true:=by rw[bCS];intro _ _;rfl
 rw[e] at z;exact z
def fY {α:Type}(S:bGC->Hp->V->α->Prop)(lo hi:Nat):bGC->Hp->V->List α->Prop:=λK H v xs=>qL K H (S K H) v xs/\lo<=xs.length/\xs.length<=hi
def aM3 (T:!Txt)(r:!Ok 1 "is_one_of" o7 (pM K))(A:!Ok 2 "is_value" n6 (uB K aEd))(z:!Ok 2 "is_name" n6 (uB K nameB)) :
  !Ok 3 "is_other" n6 (jN (jM K IsO)):=by
 refine Ok.ofW T.aP9 aM8 λZ H C Q B h=>?_;have(v,b,rfl,(rfl,o,k),q):=h;exists _,(aB (bL (VW.pt (dZ (cJ (cD (aJ dY (7) T.bN bH (aF (vv 0) (va1 (dJ (v:=.ty "tuple") (7) T.cM cB rfl)))))) (dO (cL pY (aJ aM (7) T.cH bM (va1 (vv 0))) aA)))) (aC (aH eO)) aV) (aB (bL (cD (aY r (aF (aQ aK (vv 0) aA) (va1 (aP (va1 aL)))))) (aC (aH (aY A (va1 (aQ aK (vv 0) aA))))) aV) (aC (aH (dI (aY r (aF (aQ aK (vv 0) aA) (va1 (aP (va1 aL))))) (dN (aY z (va1 (aQ aK (vv 0) aA)))))))));cases o with
 |val x=>have(a,rfl,c,y,t):=k;refine(303,.tup c,3,aU ?_);refine(303,.inr c,43,aU ?_);refine (rd0 rfl c ((6),λi n _ e g=>(_,i,3,gO (0),SqT.of g,43,bI ?_)));refine (rd1 rfl (e.aG c) (x,4,y.same e,λj f=>?_));rw[t];exact q j (e.trans f)
 |col d=>have(a,rfl,c,l):=k;refine(303,.tup c,3,aU ?_);refine(303,.inr c,43,aU ?_);refine (rd0 rfl c ((6),λi n _ e g=>(_,i,3,gO (0),SqT.of g,43,aU ?_)));refine (rd0 rfl (e.aG c) ((6),λu j _ f s=>(_,u,3,gO (0),SqT.of s,43,bI ?_)));refine (rd1 rfl (f.aG (e.aG c)) (3,l.th,λm p=>?_));rw[show nameB (.str d)=true from l];exact q m (e.trans (f.trans p))
def bE3 (h:bKq x):(isS (.str x) && inV (.str x) signs)=true/\x.length<=8:=by rcases h with rfl|rfl|rfl|rfl <;> exact(by trivial,by trivial)
def aQu (T:!Txt)(y:!Ok 1 "is_one_of" o7 (pM K))(x:!Ok 2 "is_name" n6 (uB K nameB))(p:!Ok 3 "is_other" n6 (jN (jM K IsO))) :
  !Ok 4 "is_test" n6 (jN (jM K IsT)):=by
 refine Ok.ofW T.aWf aPv λZ H A Q z h=>?_;have(v,b,rfl,(rfl,t,a,o,rfl,d,i,k,m),q):=h;have(j,r,g):=T.aLm;have f:∃u,mg "SIGNS"=some u/\RelV (.ref j) u:=(_,r,4);exists _,(aB (bL (VW.pt (dZ (cJ (cD (aJ dY (7) T.bN bH (aF (vv 0) (va1 (dJ (v:=.ty "tuple") (7) T.cM cB rfl)))))) (dO (cL pY (aJ aM (7) T.cH bM (va1 (vv 0))) aA)))) (aC (aH eO)) aV) (aC (aH (dI (aY x (va1 (aQ aK (vv 0) aA))) (dI (aY y (aF (aQ aK (vv 0) aA) (va1 (dG (7) f)))) (dN (aY p (va1 (aQ aK (vv 0) aA)))))))));refine(303,.tup d,3,aU ?_);refine(303,.inr d,43,aU ?_);refine (rd0 rfl d (3,i.th,λs e=>(38)));rw[show nameB (.str t.c)=true from i];refine bI (rd1 rfl (e.aG d) (_,j,signs,4,gO (bE3 k).2,g _,438));rw[(bE3 k).1];refine bI (rd2 rfl (e.aG d) (o,true,4,(40,m.same e),λl n=>q l (e.trans n)))
def aQ7 (T:!Txt)(m:!Ok 2 "is_name" n6 (jN (jM K iI)))(o:!Ok 3 "is_tuple_of" n8 (!kZ 2)) :
  !Ok 4 "is_pair" n6 (jN (jM K pP)):=by
 refine Ok.ofW T.aWo aS0 λZ H r Q n h=>?_;have(v,b,rfl,(rfl,p,a,rfl,d,k,f),q):=h;have(c,l,i):=m.held;have g:∃u,mg "is_name"=some u/\RelV (.ref c) u:=(_,l,4);exists _,(aC (aH (aY o (aF (vv 0) (aF aA (aF aA (va1 (dG (7) g))))))));exact(30,2,2,c,136,i,mF (S:=iI) (λ_ h=>h),tupof (S:=iI) (xs:=[p.1,p.2]) (a,3,d,.cons (4,k) (.cons (4,f) .nil)) (j6 _) (j6 _),λe j=>q e j)
def aVi (T:!Txt)(r:!Ok 1 "is_one_of" o7 (pM K))(p:!Ok 2 "is_name" n6 (uB K nameB)):!Ok 3 "is_key" n6 (jN (jM K rC)):=by
 refine Ok.ofW T.aZl aWg λZ H t Q s h=>?_;have(v,b,rfl,(rfl,(c,f),a,rfl,d,j,n),q):=h;have(k,o,g):=T.aQ1;have i:∃u,mg "WAYS"=some u/\RelV (.ref k) u:=(_,o,4);exists _,(aB (bL (VW.pt (dZ (cJ (cD (aJ dY (7) T.bN bH (aF (vv 0) (va1 (dJ (v:=.ty "tuple") (7) T.cM cB rfl)))))) (dO (cL pY (aJ aM (7) T.cH bM (va1 (vv 0))) aA)))) (aC (aH eO)) aV) (aC (aH (dI (aY p (va1 (aQ aK (vv 0) aA))) (dN (aY r (aF (aQ aK (vv 0) aA) (va1 (dG (7) i)))))))));refine(303,.tup d,3,aU ?_);refine(303,.inr d,43,aU ?_);refine (rd0 rfl d (3,j.th,λm l=>(38)));rw[show nameB (.str c)=true from j];have e:(isS (.str f) && inV (.str f) bFe)=true/\f.length<=8:=by rcases n with e|e <;> (have e:=e;subst e;exact(by trivial,by trivial))
 refine bI (rd1 rfl (l.aG d) (_,k,bFe,4,gO e.2,g _,48));rw[e.1];exact q m l
def aWd (T:!Txt)(z:!Ok 1 "is_one_of" o7 (pM K))(p:!Ok 2 "is_name" n6 (uB K nameB)):!Ok 3 "is_sum" n6 (jN (jM K oR)):=by
 refine Ok.ofW T.bA1 aV3 λZ H B Q A h=>?_;have(v,b,rfl,(rfl,(j,C,s),a,rfl,m,y),q):=h;have(l,x,g):=T.tK;have t:∃u,mg "SUM_WORDS"=some u/\RelV (.ref l) u:=(_,x,4);exists _,(aB (bL (VW.pt (dZ (cJ (cD (aJ dY (7) T.bN bH (aF (vv 0) (va1 (dJ (v:=.ty "tuple") (7) T.cM cB rfl)))))) (dO (cL pY (aJ aM (7) T.cH bM (va1 (vv 0))) aA)))) (aC (aH eO)) aV) (aB (bL (VW.pt (dZ (cJ (cD (aY z (aF (aQ aK (vv 0) aA) (va1 (dG (7) t)))))) (dO (cJ (cD (aY p (va1 (aQ aK (vv 0) aA)))))))) (aC (aH eO)) aV) (aC (aH (gJ (cL bZ (aQ aK (vv 0) aA) aL) (lW aR0 (aQ aK (vv 0) aA) mG) (aY p (va1 (aQ aK (vv 0) aA))))))));have i:=m;rcases y with⟨e,_,d⟩|⟨c,e,hc,hw,d⟩
 .refine(303,.tup d,3,aU ?_);refine(303,.inr d,43,aU ?_);refine (rd0 rfl d (_,l,aEi,4,gO (0),g _,43,aU ?_));refine (rd2 rfl d (3,m.th,λn f=>(38)));rw[i];refine aU (rd0 rfl (f.aG d) (43,bI ?_));exact (rd1 rfl (f.aG d) (4,q n f))
 .have k:(isS (.str j) && inV (.str j) aEi)=true/\j.length<=8/\decide (V.str j=V.str "count")=false:=by rcases hw with e|e|e <;> (have e:=e;subst e;exact(by trivial,by trivial,by trivial))
  refine(303,.tup d,3,aU ?_);refine(303,.inr d,43,aU ?_);refine (rd0 rfl d (_,l,aEi,4,gO k.2.1,g _,438));rw[k.1];refine aU (rd2 rfl d (3,m.th,λn f=>(38)));rw[i];refine aU (rd0 rfl (f.aG d) (438));rw[k.2.2];refine aU (rd1 rfl (f.aG d) (3,hc.th,λo r=>?_));rw[show nameB (.str c)=true from hc];exact q o (f.trans r)
def bFp (_:bGC)(_:Hp)(v:V)(n:Nat):Prop:=v=.int n/\n<=60
def aQt (T:!Txt)(g:!Ok 1 "is_whole" n6 (oJ K)):!Ok 2 "is_many" n6 (jN (jM K bFp)):=by refine Ok.ofW T.aVq aPw λZ H e Q d h=>?_;have(v,b,rfl,(rfl,n,rfl,f),q):=h;exists _,(aC (aH (dI (aY g (va1 (vv 0))) (dN (aL8 oV oV aA (vv 0) (dG (7) T.aMl))))));refine(33,.inr (.inl (3)),3,bI ?_);exists 3123;have a:decide ((0:Int)<=(n:Int))=true:=j4 (5);have c:decide ((n:Int)<=60)=true:=j4 (5);rw[a];refine bI (128);rw[c];exact q H (Same.refl H)
def wQ (T:!Txt):!Ok 1 "may_be_question" n6 (λvs H Q _=>∃v,vs=[v]/\Q (.bl true) H):=by refine Ok.ofW T.yF wY λZ H vs Q a h=>?_;have(v,rfl,q):=h;exact(_,(aC (aH eO)),q)
def aPr (G:!Ok k x ps sp)(h:∀vs H Q E,sp' vs H Q E->sp vs H Q E):!Ok k x ps sp':=by have(f,b,e,c,a,d):=G;exact(f,b,e,c,a,d.imp h)
def aXo (G:!Ok 2 "is_name" n6 (uB K nameB)):!Ok 2 "is_name" n6 (jN (jM K iI)):=
 aPr G λe H Q E h=>by have(v,b,rfl,(rfl,x,rfl,a),q):=h;exact(3,Nm.th a,λd c=>by rw[show nameB (.str x)=true from a];exact q d c)
def aJy (T:!Txt)(i:!Ok 4 "is_test" n6 (jN (jM K IsT)))(o:!Ok 5 "is_tuple_of" n8 (!kZ 4)) :
  !Ok 6 "are_tests" n6 (jN (jM K (fY IsT 1 3))):=by
 refine Ok.ofW T.aM6 aKb λZ H p Q n h=>?_;have(v,b,rfl,(rfl,r,m,g,f),q):=h;have(c,l,j):=i.held;have a:∃u,mg "is_test"=some u/\RelV (.ref c) u:=(_,l,4);exists _,(aC (aH (aY o (aF (vv 0) (aF aA (aF (dG (7) T.aI6) (va1 (dG (7) a))))))));exact(30,1,0o3,c,136,j,mF (λe h=>h.same e),tupof m g f,λd k=>q d k)
def aI8 (T:!Txt)(m:!Ok 2 "is_name" n6 (jN (jM K iI)))(o:!Ok 3 "is_tuple_of" n8 (!kZ 2)) :
  !Ok 4 "are_names" n6 (jN (jM K (fY iI 1 8))):=by
 refine Ok.ofW T.aPf aI7 λZ H p Q n h=>?_;have(v,b,rfl,(rfl,r,l,f,d),q):=h;have(a,k,i):=m.held;have g:∃u,mg "is_name"=some u/\RelV (.ref a) u:=(_,k,4);exists _,(aC (aH (aY o (aF (vv 0) (aF aA (aF (dG (7) T.yV) (va1 (dG (7) g))))))));exact(30,1,0o10,a,136,i,mF (λe h=>h),tupof l f d,λc j=>q c j)
def xB (T:!Txt)(m:!Ok 2 "is_name" n6 (jN (jM K iI)))(o:!Ok 3 "is_tuple_of" n8 (!kZ 2)) :
  !Ok 4 "are_group_names" n6 (jN (jM K (fY iI 0 8))):=by
 refine Ok.ofW T.yQ wG λZ H p Q n h=>?_;have(v,b,rfl,(rfl,r,l,f,d),q):=h;have(a,k,i):=m.held;have g:∃u,mg "is_name"=some u/\RelV (.ref a) u:=(_,k,4);exists _,(aC (aH (aY o (aF (vv 0) (aF aA (aF (dG (7) T.yV) (va1 (dG (7) g))))))));exact(30,0,0o10,a,136,i,mF (λe h=>h),tupof l f d,λc j=>q c j)
def aKj (T:!Txt)(i:!Ok 4 "is_pair" n6 (jN (jM K pP)))(o:!Ok 5 "is_tuple_of" n8 (!kZ 4)) :
  !Ok 6 "are_pairs" n6 (jN (jM K (fY pP 1 3))):=by
 refine Ok.ofW T.aPb aK1 λZ H p Q n h=>?_;have(v,b,rfl,(rfl,r,m,g,f),q):=h;have(c,l,j):=i.held;have a:∃u,mg "is_pair"=some u/\RelV (.ref c) u:=(_,l,4);exists _,(aC (aH (aY o (aF (vv 0) (aF aA (aF (dG (7) T.aJ9) (va1 (dG (7) a))))))));exact(30,1,0o3,c,136,j,mF (λe h=>h.same e),tupof m g f,λd k=>q d k)
def aNu (T:!Txt)(i:!Ok 3 "is_sum" n6 (jN (jM K oR)))(o:!Ok 4 "is_tuple_of" n8 (!kZ 3)) :
  !Ok 5 "are_sums" n6 (jN (jM K (fY oR 0 4))):=by
 refine Ok.ofW T.aR4 aO4 λZ H p Q n h=>?_;have(v,b,rfl,(rfl,r,m,g,f),q):=h;have(c,l,j):=i.held;have a:∃u,mg "is_sum"=some u/\RelV (.ref c) u:=(_,l,4);exists _,(aC (aH (aY o (aF (vv 0) (aF aA (aF (dG (7) T.aLv) (va1 (dG (7) a))))))));exact(30,0,0o4,c,136,j,mF (λe h=>h.same e),tupof m g f,λd k=>q d k)
def aOq (T:!Txt)(m:!Ok 3 "is_key" n6 (jN (jM K rC)))(o:!Ok 4 "is_tuple_of" n8 (!kZ 3)) :
  !Ok 5 "are_keys" n6 (jN (jM K (fY rC 0 3))):=by
 refine Ok.ofW T.aQh aLw λZ H p Q n h=>?_;have(v,b,rfl,(rfl,r,l,g,f),q):=h;have(c,k,i):=m.held;have a:∃u,mg "is_key"=some u/\RelV (.ref c) u:=(_,k,4);exists _,(aC (aH (aY o (aF (vv 0) (aF aA (aF (dG (7) T.aO5) (va1 (dG (7) a))))))));exact(30,0,0o3,c,136,i,mF (λe h=>h.same e),tupof l g f,λd j=>q d j)
inductive Qn where
 |table (T:Str)
 |whr (q:Qn)(ts:List Tst)
 |keep (q:Qn)(ns:List Str)
 |nmd (q:Qn)(ns:List Str)
 |join (q r:Qn)(ps:List (Str × Str))
 |group (q:Qn)(ns:List Str)(ss:List Sm)
 |first (q:Qn)(ks:List (Str × Str))(m:Nat)
inductive IsQ (K:bGC)(H:Hp):V->Qn->Prop
 |table {a T}:SqT K H a [.str "table",.str T]->Nm T->IsQ K H (.ref a) (.table T)
 |whr {a v q w ts}:SqT K H a [.str "where",v,w]->IsQ K H v q->fY IsT 1 3 K H w ts->IsQ K H (.ref a) (.whr q ts)
 |keep {a v q w ns}:SqT K H a [.str "keep",v,w]->IsQ K H v q->fY iI 1 8 K H w ns->IsQ K H (.ref a) (.keep q ns)
 |nmd {a v q w ns}:SqT K H a [.str "named",v,w]->IsQ K H v q->fY iI 1 8 K H w ns->IsQ K H (.ref a) (.nmd q ns)
 |join {a v q u r w ps}:SqT K H a [.str "join",v,u,w]->IsQ K H v q->IsQ K H u r->fY pP 1 3 K H w ps->IsQ K H (.ref a) (.join q r ps)
 |group {a v q w ns u ss}:SqT K H a [.str "group",v,w,u]->IsQ K H v q->fY iI 0 8 K H w ns->fY oR 0 4 K H u ss->IsQ K H (.ref a) (.group q ns ss)
 |first {a v q w ks m}:SqT K H a [.str "first",v,w,.int (m:Nat)]->IsQ K H v q->fY rC 0 3 K H w ks->m<=60->IsQ K H (.ref a) (.first q ks m)
def fY.same {α:Type}{S:bGC->Hp->V->α->Prop}{lo hi:Nat}{K:bGC}{H H':Hp}{v:V}{xs:List α}(e:Same H H')(k:∀{v t},S K H v t->S K H' v t)(h:fY S lo hi K H v xs):fY S lo hi K H' v xs:=
 (h.1.same e λ_ _=>k,h.2)
def IsQ.same {K:bGC}{H H':Hp}{v:V}{q:Qn}(e:Same H H')(h:IsQ K H v q):IsQ K H' v q:=by
 induction h with
 |table a b=>exact .table (e.aG a) b
 |whr a _ c ih=>exact .whr (e.aG a) ih (c.same e λh=>h.same e)
 |keep a _ c ih=>exact .keep (e.aG a) ih (c.same e λh=>h)
 |nmd a _ c ih=>exact .nmd (e.aG a) ih (c.same e λh=>h)
 |join a _ _ c ih1 ih2=>exact .join (e.aG a) ih1 ih2 (c.same e λh=>h.same e)
 |group a _ c d ih=>exact .group (e.aG a) ih (c.same e λh=>h) (d.same e λh=>h.same e)
 |first a _ c d ih=>exact .first (e.aG a) ih (c.same e λh=>h.same e) d
def Part (P:Program)(w:World)(K:bGC)(mg:bGF)(base:Heap)(H:Hp)(f x:V):Prop:=∃fa ps sp,f=.ref fa/\!Held 6 fa ps sp/\∀H' Q,Same H H'->(∀H2,Same H' H2->Q (.bl true) H2)->sp [x] H' Q E0
def lQ {k:Nat}{x:Str}{ps:List Str}{α:Type}{S:bGC->Hp->V->α->Prop}{f:Addr}{H:Hp}{v:V}{t:α}(G:!Ok k x ps (jN (jM K S)))(c:k<=6)(m:mg x=some (.ref f))(b:∀{H H' v t},Same H H'->S K H v t->S K H' v t)(h:S K H v t):!Part H (.ref f) v:=
 (f,03,(G.aYv m).mono c,λH' Q a q=>(v,true,4,(4,t,b a h),q))
abbrev forms:List Str:=["table","where","keep","named","join","group","first"]
inductive Nd (α:Type) where
 |table (T:Str)
 |whr (q:α)(ts:List Tst)
 |keep (q:α)(ns:List Str)
 |nmd (q:α)(ns:List Str)
 |join (q r:α)(ps:List (Str × Str))
 |group (q:α)(ns:List Str)(ss:List Sm)
 |first (q:α)(ks:List (Str × Str))(m:Nat)
inductive Ps {α:Type}(K:bGC)(H:Hp)(I:V->α->Prop):List V->Nd α->Prop
 |table {T}:Nm T->Ps K H I [.str T] (.table T)
 |whr {v q w ts}:I v q->fY IsT 1 3 K H w ts->Ps K H I [v,w] (.whr q ts)
 |keep {v q w ns}:I v q->fY iI 1 8 K H w ns->Ps K H I [v,w] (.keep q ns)
 |nmd {v q w ns}:I v q->fY iI 1 8 K H w ns->Ps K H I [v,w] (.nmd q ns)
 |join {v q u r w ps}:I v q->I u r->fY pP 1 3 K H w ps->Ps K H I [v,u,w] (.join q r ps)
 |group {v q w ns u ss}:I v q->fY iI 0 8 K H w ns->fY oR 0 4 K H u ss->Ps K H I [v,w,u] (.group q ns ss)
 |first {v q w ks m}:I v q->fY rC 0 3 K H w ks->m<=60->Ps K H I [v,w,.int (m:Nat)] (.first q ks m)
def yN {α:Type}:Nd α->Str
 |.table _=>"table"|.whr _ _=>"where"|.keep _ _=>"keep"|.nmd _ _=>"named"|.join _ _ _=>"join"|.group _ _ _=>"group"|.first _ _ _=>"first"
def bBq {α:Type}:Nd α->List α
 |.table _=>[]|.whr q _=>[q]|.keep q _=>[q]|.nmd q _=>[q]|.join q r _=>[q,r]|.group q _ _=>[q]|.first q _ _=>[q]
def bCe {α:Type}(K:bGC)(H:Hp)(I:V->α->Prop)(v:V)(n:Nd α):Prop:=∃a xs,v=.ref a/\SqT K H a (.str (yN n)::xs)/\Ps K H I xs n
def bKx:Qn->Nd Qn
 |.table T=>.table T|.whr q ts=>.whr q ts|.keep q ns=>.keep q ns|.nmd q ns=>.nmd q ns|.join q r ps=>.join q r ps|.group q ns ss=>.group q ns ss|.first q ks m=>.first q ks m
def IsQ.nd (h:IsQ K H v q):bCe K H (IsQ K H) v (bKx q):=by
 cases h with
 |table a b=>exact(03,a,.table b)
 |whr a b c=>exact(03,a,.whr b c)
 |keep a b c=>exact(03,a,.keep b c)
 |nmd a b c=>exact(03,a,.nmd b c)
 |join a b c d=>exact(03,a,.join b c d)
 |group a b c d=>exact(03,a,.group b c d)
 |first a b c d=>exact(03,a,.first b c d)
inductive aYb (K:bGC)(vs:List V)(H:Hp)(Q:VK)(E_:XK):Prop
 |mk (α:Type)(I:V->α->Prop)(v:V)(n:Nd α)(_:vs=[v])(_:bCe K H I v n)(_:∀H',Same H H'->Q (.bl true) H')
inductive bJ5 (K:bGC)(vs:List V)(H:Hp)(Q:VK)(E_:XK):Prop
 |mk (v q:_)(_:vs=[v])(_:IsQ K H v q)(_:∀H',Same H H'->Q (.bl true) H')
def oH (G:!Ok 1 "may_be_question" n6 (λvs H Q _=>∃v,vs=[v]/\Q (.bl true) H))(m:mg "may_be_question"=some (.ref f)):!Part H (.ref f) v:=
 (f,03,(G.aYv m).mono (6),λa Q b q=>(v,4,q a (Same.refl a)))
structure Forms (P:Program)(w:World)(K:bGC)(mg:bGF)(base:Heap):Prop where
 name:!Ok 2 "is_name" n6 (jN (jM K iI))
 any:!Ok 1 "may_be_question" n6 (λvs H Q _=>∃v,vs=[v]/\Q (.bl true) H)
 tests:!Ok 6 "are_tests" n6 (jN (jM K (fY IsT 1 3)))
 names:!Ok 4 "are_names" n6 (jN (jM K (fY iI 1 8)))
 gnames:!Ok 4 "are_group_names" n6 (jN (jM K (fY iI 0 8)))
 pairs:!Ok 6 "are_pairs" n6 (jN (jM K (fY pP 1 3)))
 sums:!Ok 5 "are_sums" n6 (jN (jM K (fY oR 0 4)))
 keys:!Ok 5 "are_keys" n6 (jN (jM K (fY rC 0 3)))
 many:!Ok 2 "is_many" n6 (jN (jM K bFp))
def bEt (T:!Txt)(F:Forms P w K mg base):∃d kvs,mg "FORMS"=some (.ref d)/\aGy w K d kvs/\kvs.length<=1000/\(kvs.map λq=>V.str q.1).all lY=true /\
  ∀(α:Type) (I:V->α->Prop) H v (n:Nd α),bCe K H I v n->∃a k xs t fs,v=.ref a/\SqT K H a (.str k::xs)/\k.length<=8/\inV (.str k) (kvs.map λq=>V.str q.1)=true/\(kvs.find? λz=>decide (z.1=k)).map (·.2)=some (.ref t)/\(∀H,SqT K H t fs)/\fs.length<=8/\bR (!Part H) fs xs:=by
 have(d,t0,t1,t2,t3,t4,Y,t6,md,Q,(a1,h0,m),(a6,M,h1,B,j),(a0,S,J,x,l),(X,U,Z,s,u),(a5,a2,N,h4,r,g,i),(a3,a7,a4,O,y,A,o),(R,L,E,G,p,D,C)):=T.aCj;refine(d,_,md,Q,(by show 7<=1000;decide),4,fun α I H v n W=>?_);have(a,xs,rfl,f,hp):=W;cases hp with
 |table b=>exact(_,"table",_,t0,3,f,by trivial,(by show inV (.str "table") (forms.map V.str)=true;decide +kernel),4,h0,(by show 1<=8;decide),.cons (lQ F.name (6) m (λ_ h=>h) (4,b)) .nil)
 |whr _ c=>exact(_,"where",_,t1,3,f,by trivial,(by show inV (.str "where") (forms.map V.str)=true;decide +kernel),4,h1,(by show 2<=8;decide),.cons (oH F.any B) (.cons (lQ F.tests (6) j (λe h=>h.same e λq=>q.same e) c) .nil))
 |keep _ c=>exact(_,"keep",_,t2,3,f,by trivial,(by show inV (.str "keep") (forms.map V.str)=true;decide +kernel),4,J,(by show 2<=8;decide),.cons (oH F.any x) (.cons (lQ F.names (6) l (λe h=>h.same e λq=>q) c) .nil))
 |nmd _ c=>exact(_,"named",_,t3,3,f,by trivial,(by show inV (.str "named") (forms.map V.str)=true;decide +kernel),4,Z,(by show 2<=8;decide),.cons (oH F.any s) (.cons (lQ F.names (6) u (λe h=>h.same e λq=>q) c) .nil))
 |join _ _ c=>exact(_,"join",_,t4,3,f,by trivial,(by show inV (.str "join") (forms.map V.str)=true;decide +kernel),4,h4,(by show 3<=8;decide),.cons (oH F.any r) (.cons (oH F.any g) (.cons (lQ F.pairs (6) i (λe h=>h.same e λq=>q.same e) c) .nil)))
 |group _ c e=>exact(_,"group",_,Y,3,f,by trivial,(by show inV (.str "group") (forms.map V.str)=true;decide +kernel),4,O,(by show 3<=8;decide),.cons (oH F.any y) (.cons (lQ F.gnames (6) A (λe h=>h.same e λq=>q) c) (.cons (lQ F.sums (6) o (λe h=>h.same e λq=>q.same e) e) .nil)))
 |first _ c e=>exact(_,"first",_,t6,3,f,by trivial,(by show inV (.str "first") (forms.map V.str)=true;decide +kernel),4,G,(by show 3<=8;decide),.cons (oH F.any p) (.cons (lQ F.keys (6) D (λe h=>h.same e λq=>q.same e) c) (.cons (lQ F.many (6) C (λ_ h=>h) (4,e)) .nil)))
def mQ {α β:Type}{R:α->β->Prop}:∀{as:List α} {bs:List β},bR R as bs->∀{i:Nat} {a:α} {b:β},as[i]?=some a->bs[i]?=some b->R a b:=by
 intro as bs h
 induction h with
 |nil=>intro i a b c;simp at c
 |cons r t ih=>intro i a b c d;cases i with
  |zero=>cases c;cases d;exact r
  |succ i=>exact ih (i:=i) (by simpa using c) (by simpa using d)
def bBz:(List.zipWith (λ_ _:V=>V.bl true) xs ys)=(List.zipWith (λ_ _:V=>true) xs ys).map V.bl:=by rw[List.map_zipWith]
theorem aYn:∀xs ys,((List.zipWith (λ_ _:V=>true) xs ys).all id)=true
 |[],_=>by simp
 |_::_,[]=>by simp
 |x::xs,y::ys=>by rw[List.zipWith_cons_cons,bFZ,aYn xs ys];rfl
def bGs (x:V)(xs:List V):uF (x::xs) (some 1) none=xs:=by
 unfold uF;have e:HT.sIx (x::xs).length 0 (some 1)=1:=by rw[show (1:Int)=((1:Nat):Int) from rfl,HT.aCh,p8];lia
 rw[e,HT.aCu,p8];simp
def nw1 (x:V)(xs:List V):¬ (HT.sIx (x::xs).length 0 (some 1)=0/\HT.sIx (x::xs).length (x::xs).length none=(x::xs).length):=by rw[show (1:Int)=((1:Nat):Int) from rfl,HT.aCh,p8];lia
def aL6 (T:!Txt)(F:Forms P w K mg base)(cC:!Ok 1 "is_one_of" o7 (pM K)):!Ok 7 "has_form" n6 (aYb K):=by
 refine Ok.ofW T.aQy aBi λZ H vs Q W h=>?_;have(α,I,v,q0,rfl,hq,q):=h;have(d,c,md,J,X,p,o):=bEt T F;have f:∃u,mg "FORMS"=some u/\RelV (.ref d) u:=(_,md,4);have(a,k,l,t,s,rfl,e,m,A,hf,G,a1,L):=o α I H v q0 hq;have b:=L.len;have a0:=aBi.nd;exists _,(aB (bL (VW.pt (dZ (cJ (cD (aJ dY (7) T.bN bH (aF (vv 0) (va1 (dJ (v:=.ty "tuple") (7) T.cM cB rfl)))))) (dZ (cL bZ (aJ aM (7) T.cH bM (va1 (vv 0))) aA) (dO (cJ (cD (aY cC (aF (aQ aK (vv 0) aA) (va1 (bF (aHa rfl) (7) T.cM cB (va1 (dG (7) f)))))))))))) (aC (aH eO)) aV) (aB (bU 1 (aQ aS9 (dG (7) f) (aQ aK (vv 0) aA))) (aB (bL (cL pY (aJ aM (7) T.cH bM (va1 (vv 0))) (cA dX (aJ aM (7) T.cH bM (va1 (vv 1))) aA)) (aC (aH eO)) aV) (aC (aH (aJ (gQ rfl) (7) T.pU mH (va1 (bY (N:=["is_part","part"]) ck dH rfl (aCf (7) T.aN6 (aF (vv 1) (va1 (dM yZ (vv 0) (eE aA) fK)))) (λcl s' j fp=>((iT (K:=K) (n:=2) rfl (aW (dF 0) (aW (dF 1) cV))),cI,(aOt (P:=P) (w:=w) (K:=K) (mg:=mg) (base:=base) W (vv 0) (va1 (vv 1)))))))))))));refine(303,.tup e,3,aU ?_);exists 303,.inr e,43;have e0:decide (V.int (((V.str k::l).length:Nat):Int)=V.int 0)=false:=j9 (by intro z;have:=V.int.inj z;rw[p8] at this;lia);rw[e0];refine aU (rd0 rfl e (d,c,4,J,X,λp1 H1 g Y=>(_,p1,3,gO m,SqT.of Y,p,38)));have S:(isS (.str k) && inV (.str k) (c.map λq=>V.str q.1))=true:=by rw[A];rfl
 rw[S];refine aU (rd0 rfl (g.aG e) (d,c,k,.ref t,44,J,hf,8));exists 303,.inr (g.aG e),303,.inr (G _),0323;have e2:(!decide (V.int (((V.str k::l).length:Nat):Int)=V.int ((s.length:Nat)+1:Int)))=false:=by rw[p8,b];simp
 rw[e2];refine aU ?_;dsimp only[oM,qI,tCB,cX];refine aWl s l (λ_ _=>.bl true) [none,none] gR (small (5)) b (λR r=>(333,a,3,g.aG e,nw1 _ _,λp2 B y E=>?_)) (λi fv x ef M j R l1 l2 C r=>?_) rfl rfl λD j C hD=>?_
 .rw[bGs] at E;exact r t p2 B y (G _) (SqT.of E)
 .have(O,ps,sp,rfl,U,hc):=mQ L ef M;exact(3,O,ps,sp,4,U,3,hc j R (g.trans C) λB y=>r B y)
 .exists D,List.zipWith (λ_ _=>true) s l,4,(SqL.of (by rw[hD,bBz]));rw[aYn];exact q j (g.trans C)
def bIm (G:!Ok 7 "has_form" n6 (aYb K)):!Ok 7 "has_form" n6 (bJ5 K):=
 aPr G (by rintro vs H Q E ⟨v,q,e,h,k⟩;exact(00,v,_,e,h.nd,k))
def kids:Qn->List Qn
 |.table _=>[]
 |.whr q _=>[q]
 |.keep q _=>[q]
 |.nmd q _=>[q]
 |.join q r _=>[q,r]
 |.group q _ _=>[q]
 |.first q _ _=>[q]
def own:Qn->Nat
 |.whr _ ts=>ts.length
 |_=>1
def size:Qn->Nat
 |.table _=>1
 |.whr q ts=>size q+ts.length
 |.keep q _=>size q+1
 |.nmd q _=>size q+1
 |.join q r _=>size q+size r+1
 |.group q _ _=>size q+1
 |.first q _ _=>size q+1
def sizes (qs:List Qn):Nat:=(qs.map size).sum
def qG (q:Qn):size q=own q+sizes (kids q):=by cases q <;> simp[size,own,sizes,kids] <;> lia
def uL (h:IsQ K H v q):1<=own q:=by
 cases h with
 |whr _ _ c=>exact c.2.1
 |_=>exact j6 _
inductive aRt (K:bGC)(vs:List V)(H:Hp)(Q:VK)(E_:XK):Prop
 |mk (α:Type)(I:V->α->Prop)(v:V)(n:Nd α)(H0:Hp)(_:vs=[v])(_:Same H0 H)(_:bCe K H0 I v n)(_:∀D H' us,H D=none->Same H H'->H' D=some (.lst us)->bR I us (bBq n)->Q (.ref D) H')
inductive bBx (K:bGC)(vs:List V)(H:Hp)(Q:VK)(E_:XK):Prop
 |mk (v q H0:_)(_:vs=[v])(_:Same H0 H)(_:IsQ K H0 v q)(_:∀D H' us,H D=none->Same H H'->H' D=some (.lst us)->bR (IsQ K H0) us (kids q)->Q (.ref D) H')
def aBy (T:!Txt):!Ok 1 "questions_in" bQD (aRt K):=by
 refine Ok.ofW T.aDf aB0 λZ H s Q r h=>?_;have(α,I,v,o,x,rfl,e,(t,u,rfl,a,m),q):=h;exists _,(aB (bL (cL bZ (aQ aK (vv 0) aA) aL) (aC (aH (cU cW))) aV) (aC (aH (gJ (cL bZ (aQ aK (vv 0) aA) aL) (bF wL (7) T.zO uM (va1 (dM yZ (vv 0) (eE aA) (eE aA)))) (cU (va1 (aQ aK (vv 0) aA)))))));cases m with
 |table b=>exact (rd0 rfl (e.aG a) (43,bI (sz0,λD j f i g=>q D j _ f i g .nil)))
 |whr b c=>exact (rd0 rfl (e.aG a) (43,aU (rd0 rfl (e.aG a) (43,aU (rd1 rfl (e.aG a) (sz1,λD j f i g=>q D j _ f i g (.cons b .nil)))))))
 |keep b c=>exact (rd0 rfl (e.aG a) (43,aU (rd0 rfl (e.aG a) (43,aU (rd1 rfl (e.aG a) (sz1,λD j f i g=>q D j _ f i g (.cons b .nil)))))))
 |nmd b c=>exact (rd0 rfl (e.aG a) (43,aU (rd0 rfl (e.aG a) (43,aU (rd1 rfl (e.aG a) (sz1,λD j f i g=>q D j _ f i g (.cons b .nil)))))))
 |group b c d=>exact (rd0 rfl (e.aG a) (43,aU (rd0 rfl (e.aG a) (43,aU (rd1 rfl (e.aG a) (sz1,λD j f i g=>q D j _ f i g (.cons b .nil)))))))
 |first b c d=>exact (rd0 rfl (e.aG a) (43,aU (rd0 rfl (e.aG a) (43,aU (rd1 rfl (e.aG a) (sz1,λD j f i g=>q D j _ f i g (.cons b .nil)))))))
 |join b c d=>refine (rd0 rfl (e.aG a) (43,aU (rd0 rfl (e.aG a) (43,bI (33303,(e.aG a),(by show ¬ (HT.sIx 4 0 (some 1)=0/\HT.sIx 4 4 (some 3)=4);decide),λp n k l=>(p,3,.inr (SqT.of l),λD j f i g=>q D j _ (k.free f) (k.trans i) g (.cons b (.cons c .nil))))))))
def bLk (G:!Ok 1 "questions_in" bQD (aRt K)):!Ok 1 "questions_in" bQD (bBx K):=
 aPr G (by rintro vs H Q E ⟨v,q,H0,e,s,h,k⟩;exact(00,v,_,H0,e,s,h.nd,λD c b f d g a=>k D c b f d g (by cases q <;> exact a)))
inductive aY7 (K:bGC)(vs:List V)(H:Hp)(Q:VK)(E_:XK):Prop
 |mk (v q:_)(_:vs=[v])(_:IsQ K H v q)(_:Q (.int (own q:Nat)) H)
def aPh (T:!Txt):!Ok 1 "own_size" bQD (aY7 K):=by
 refine Ok.ofW T.aR2 aNk λZ H l Q k h=>?_;have(v,j,rfl,f,q):=h;exists _,(aC (aH (gJ (cL bZ (aQ aK (vv 0) aA) aL) (aJ aM (7) T.cH bM (va1 (aQ aK (vv 0) aA))) aA)));cases f with
 |whr a b c=>have((p,i,rfl,g,e),_):=c;refine (rd0 rfl a (43,bI (rd2 rfl a (03,.inr g,8))));rw[e.len];exact q
 |table a b=>exact (rd0 rfl a (43,aU q))
 |keep a b c=>exact (rd0 rfl a (43,aU q))
 |nmd a b c=>exact (rd0 rfl a (43,aU q))
 |group a b c d=>exact (rd0 rfl a (43,aU q))
 |first a b c d=>exact (rd0 rfl a (43,aU q))
 |join a b c d=>exact (rd0 rfl a (43,aU q))
inductive aYy (K:bGC)(vs:List V)(H:Hp)(Q:VK)(E_:XK):Prop
 |mk (v q:_)(_:vs=[v])(_:IsQ K H v q)(_:size q<=20)(_:∀H',Same H H'->Q v H')
def aWj {α β:Type}{R:α->β->Prop}{g:List α}{i:List β}(h:bR R g i)(j:g≠[]):∃as' a bs' b,g=as'++[a]/\i=bs'++[b]/\bR R as' bs'/\R a b:=by
 induction h with
 |nil=>exact absurd rfl j
 |@cons a b g i r t ih=>
  cases t with
  |nil=>exact([],a,[],b,44,.nil,r)
  |cons r' t'=>have(as',x,bs',y,d,e,c,f):=ih (9);exact(a::as',x,b::bs',y,by rw[d];rfl,by rw[e];rfl,.cons r c,f)
def aAg (xs ys:List Qn):sizes (xs++ys)=sizes xs+sizes ys:=by unfold sizes;rw[bAW,List.sum_append]
def aXb (h:bR (IsQ K H) us qs):us.length<=sizes qs:=by
 induction h with
 |nil=>exact j6 _
 |@cons v q us qs r _ ih=>have:=uL r;have e:=qG q;show us.length+1<=(((q::qs).map size).sum);rw[bAE,List.sum_cons];unfold sizes at ih;lia
def aQ4 (T:!Txt)(wB:!Ok 7 "has_form" n6 (bJ5 K))(U:!Ok 1 "questions_in" bQD (bBx K))(A:!Ok 1 "own_size" bQD (aY7 K)):!Ok 8 "checked" n6 (aYy K):=by
 refine Ok.ofW T.aXj aEn λZ H S Q R h=>?_;have(v,n,rfl,G,B,q):=h;have M:=aEn.nd;exists _,(aB (bU 1 aA) (aB (bU 2 (cU (va1 (vv 0)))) (aB (bAt PassesOwn.never (aYd (vv 2)) (aB (bU 3 (aZ0 PySem.F.plainAttrs_list PySem.F.slot_list_pop PySem.F.type_list_pop bCv (vv 2))) (aB (bL (cJ (cD (aY wB (va1 (vv 3))))) (aC fB) aV) (aB (bU 1 (cA dX (vv 1) (aY A (va1 (vv 3))))) (aB (bL (cL aBb (vv 1) (dG (7) T.aM5)) (aC fB) aV) (aC (eV (qM PySem.F.plainAttrs_list PySem.F.slot_list_extend PySem.F.type_list_extend aSj (vv 2) (va1 (aY U (va1 (vv 3)))))))))))) (aC (aH (vv 0))))));refine(3,sz1,λW V x J E=>?_);exists λm σ c=>∃sz us qs l,σ=[some v,some (.int (sz:Nat)),some (.ref W),l]/\Same H c/\c W=some (.lst us)/\bR (IsQ K H) us qs/\sz+sizes qs=size n/\m=sizes qs,((_,0,_,[n],3,J,E,.cons G .nil,by simp[sizes],4));rintro m σ c ⟨sz,us,qs,l,rfl,sm,eW,hu,hs,rfl⟩;by_cases i:us=[]
 .subst i;exists 3,false,.inl ([],SqL.of eW,4);refine aU ?_;exact(3,q c sm)
 .have(a,u,b,p,rfl,rfl,g,j):=aWj hu i;exists 3,true,(.inl (_,SqL.of eW,by cases a <;> rfl));refine bI ?_;have I:=qG p;have y:=uL j;have C:sizes (b++[p])=sizes b+size p:=by rw[aAg];simp[sizes]
  exists fun r d=>∃m',m'<sizes (b++[p])/\∃sz us qs l,r=[some v,some (.int (sz:Nat)),some (.ref W),l]/\Same H d/\d W=some (.lst us)/\bR (IsQ K H) us qs/\sz+sizes qs=size n/\m'=sizes qs,fun r d h=>h;exists 3,.inl (40,SqL.of eW),W,_,u,44,eW,8
  .rw[w6,bBG,Nat.add_sub_cancel,bBF (j6 _),Nat.sub_self];rfl
  rw[List.dropLast_concat];have f:Same H (upd c W (.lst a)):=jV x sm;have k:upd c W (.lst a) W=some (.lst a):=aO;generalize upd c W (.lst a)=Hx at f k;refine(3,u,p,4,j.same f,λX e=>(3,aU ?_));exists 33,u,p,4,j.same (f.trans e),12;exists 3123;have o:decide ((20:Int)<(sz:Int)+(own p:Int))=false:=j9 (5);rw[o];refine aU ?_;exists 3,.inl (40,SqL.of (e _ _ k));refine(3,u,p,H,4,f.trans e,j,λD N L fD s z t=>?_);have lw:=t.len;have Y:=aXb g;have O:(kids p).length<=2:=by cases p <;> simp[kids]
  exists W,D,12,s _ _ (e _ _ k),z,(small (5));refine(08,sz+own p,a++L,b++kids p,some u,8,jV x (f.trans (e.trans s)),aO,g.app t,84)
  .rw[aAg];lia
  .rw[show ((sz+own p:Nat):Int)=(sz:Int)+(own p:Int) from by lia];rfl
  .rw[aAg];lia
abbrev Hdr:=List (Str × Str)
def IsC (K:bGC)(H:Hp)(v:V)(c:Str × Str):Prop:=∃p,v=.ref p/\SqT K H p [.str c.1,.str c.2]
def IsC.same (e:Same H H')(h:IsC K H v c):IsC K H' v c:=by have(p,rfl,a):=h;exact(p,4,e.aG a)
def eU (K:bGC)(H:Hp)(v:V)(hd:Hdr):Prop:=qL K H (IsC K H) v hd
def eU.same (e:Same H H')(h:eU K H v hd):eU K H' v hd:=qL.same e (λ_ _ q=>q.same e) h
def look (hd:Hdr)(n:Str):Option Str:=(hd.find? λc=>decide (c.1=n)).map (·.2)
def aTh {n k:Str}:∀{hd:Hdr},look hd n=some k->∃i,hd[i]?=some (n,k,)/\∀(j:Nat) (c:Str × Str),j<i->hd[j]?=some c->c.1≠n:=by
 intro f
 induction f with
 |nil=>rintro h;cases h
 |cons pz r ih=>
  rintro h;have(m,j):=pz;unfold look at h;rw[bBA] at h;by_cases e:m=n
  .rw[j4 e] at h;have l:=bAL h;subst e l;exact(0,4,λj c d=>absurd d (bFE _))
  .rw[j9 e] at h;have(i,g,o):=ih h;refine(i+1,by simpa using g,λa c d b=>?_);cases a with
   |zero=>cases b;exact e
   |succ a=>exact o a c (5) (by simpa using b)
def bQ {α β:Type}{R:α->β->Prop}:∀{as:List α} {bs:List β},bR R as bs->∀{i:Nat} {a:α},as[i]?=some a->∃b,bs[i]?=some b/\R a b:=by
 intro as bs h
 induction h with
 |nil=>intro i a c;simp at c
 |cons r t ih=>intro i a c;cases i with
  |zero=>cases c;exact(3,r)
  |succ i=>have(b,e,q):=ih (i:=i) (a:=a) (by simpa using c);exact(b,by simpa using e,q)
def pA {α β:Type}{R:α->β->Prop}:∀{as:List α} {bs:List β},as.length=bs.length->(∀(i:Nat) (a:α) (b:β),as[i]?=some a->bs[i]?=some b->R a b)->bR R as bs:=by
 intro as
 induction as with
 |nil=>intro bs c _;cases bs with
  |nil=>exact .nil
  |cons=>cases c
 |cons a as ih=>intro bs c h;cases bs with
  |nil=>cases c
  |cons b bs=>exact .cons (h 0 a b rfl rfl) (ih (by simpa using c) λi x y d e=>h (i+1) x y (by simpa using d) (by simpa using e))
def qZ (h:bR (iI K H) us ns):us=ns.map V.str:=by
 induction h with
 |nil=>rfl
 |cons r _ ih=>rw[bAE,ih,r.1]
inductive wU (K:bGC)(vs:List V)(H:Hp)(Q:VK)(E_:XK):Prop
 |mk (vh n hd k:_)(_:vs=[vh,.str n])(_:eU K H vh hd)(_:look hd n=some k)(_:Q (.str k) H)
def aSs (T:!Txt):!Ok 1 "kind_in" o8 (wU K):=by
 refine Ok.ofW T.aVm aE9 λZ H C Q A h=>?_;have(D,n,B,k,rfl,(a,m,rfl,g,j),t,q):=h;have v:=aE9.nd;exists _,(aB (nH PassesOwn.never rfl (fV (vv 0)) (cP 2) (aC (bL (cL bZ (aQ (cT (K:=K)) (vv 2) aA) (vv 1)) (aC (aH (aQ (cT (K:=K)) (vv 2) aA))) aV))) (aC fB));have(f,o,u):=aTh t;have s:f<m.length:=by rw[j.len];exact (List.getElem?_eq_some_iff.mp o).1
 refine(3,a,4,(_,g),aJe (xs:=m) (λi σ b=>b=H/\i<=f/\∃l,σ=[some (.ref a),some (.str n),l]) (4,bAI _,3) (λi σ b _ (e,_)=>by rw[e];exact g) ?_ ?_)
 .rintro i x σ b hx ⟨rfl,hi,l,rfl⟩;have(c,d,p,rfl,r):=bQ j hx;refine (rd0 rfl r (0238));by_cases e:i=f
  .subst e;rw[o] at d;cases d;rw[j4 rfl];exact bI (rd1 rfl r q)
  .have y:=u i c (5) d;rw[j9 (by intro z;exact y (V.str.inj z))];exact aU (453)
 .rintro σ b ⟨rfl,hi,_⟩;lia
inductive aJv (K:bGC)(vs:List V)(H:Hp)(Q:VK)(E_:XK):Prop
 |mk (a b:Addr)(xs:List Str)(_:vs=[.ref a,.ref b])(_:SqL K H a (xs.map V.str))(_:SqL K H b (xs.map V.str))(_:Q .non H)
def xD (T:!Txt):!Ok 1 "need_like_kinds" bQX (aJv K):=by refine Ok.ofW T.yL xA λZ H i Q c h=>?_;have(a,b,e,rfl,d,f,q):=h;have g:=xP c;exact(_,(aC (bL (fP (bGe (bFY g)) (vv 0) (vv 1) (tQ _)) (aC fB) aV)),(33,a,b,e,44,d,f,3,aU q))
inductive aKh (K:bGC)(vs:List V)(H:Hp)(Q:VK)(E_:XK):Prop
 |mk (a:Addr)(ss:List Str)(_:vs=[.ref a])(_:SqL K H a (ss.map V.str))(_:ss.length<=1000)(_:ss.Nodup)(_:∀H',Same H H'->Q .non H')
def aD1 (T:!Txt)(k:!Ok 1 "are_unlike" bQU (aAv K)):!Ok 2 "need_unlike" bQU (aKh K):=by refine Ok.ofW T.aFt aDx λZ H j Q i h=>?_;have(a,f,rfl,b,g,c,q):=h;exists _,(aC (bL (cJ (cD (aY k (va1 (vv 0))))) (aC fB) aV));refine(3,a,f,4,b,g,λd e=>(38));rw[j4 c];exact aU (q d e)
inductive bFq (vs:List V)(H:Hp)(Q:VK)(E_:XK):Prop
 |mk (d n v kvs:_)(_:vs=[.ref d,.str n])(_:H d=some (.dK kvs))(_:nP kvs (Sum.inr n)=some v)(_:Q v H)
def aGa (T:!Txt):!Ok 1 "table_head" bXJ bFq:=by refine Ok.ofW T.aI2 aFu λZ H i Q c h=>?_;have(d,n,v,e,rfl,f,b,q):=h;have a:=xP c;exists _,(aB (bL (zV a (vv 1) (vv 0)) (aC fB) aV) (aC (aH (xY a (vv 0) (vv 1) (λ_ _=>rfl)))));have g:=aB2.k (k:=Sum.inr n) f;rw[b] at g;exact(33,d,3,g,3,aU (33,d,v,4,g,q))
def kindS (v:V):Str:=if whole v then "number" else "word"
def bBn (hd:Hdr):Oth->Option Str
 |.val x=>some (kindS x)
 |.col d=>look hd d
inductive aXu (K:bGC)(vs:List V)(H:Hp)(Q:VK)(E_:XK):Prop
 |mk (vh u hd o k:_)(_:vs=[vh,u])(_:eU K H vh hd)(_:IsO K H u o)(_:bBn hd o=some k)(_:Q (.str k) H)
def aF1 (T:!Txt)(i:!Ok 2 "kind_of" ["value"] (aK3 K))(l:!Ok 1 "kind_in" o8 (wU K)):!Ok 3 "other_kind" bXK (aXu K):=by
 refine Ok.ofW T.aI0 aGn λZ H p Q n h=>?_;have(m,u,g,o,k,rfl,f,e,c,q):=h;exists _,(aC (aH (gJ (cL bZ (aQ aK (vv 1) aA) aL) (aY i (va1 (aQ aK (vv 1) aA))) (aY l (aF (vv 0) (va1 (aQ aK (vv 1) aA)))))));cases o with
 |val x=>have(a,rfl,b,j,_):=e;cases c;exact (rd0 rfl b (43,bI (rd1 rfl b (x,4,j,q))))
 |col d=>have(a,rfl,b,_):=e;exact (rd0 rfl b (43,aU (3,rd1 rfl b (00,g,k,4,f,c,q))))
def aEv (hd:Hdr)(t:Tst):Prop:=∃k,look hd t.c=some k/\bBn hd t.o=some k
inductive bFk (K:bGC)(vs:List V)(H:Hp)(Q:VK)(E_:XK):Prop
 |mk (vh u hd ts:_)(_:vs=[vh,u])(_:eU K H vh hd)(_:qL K H (IsT K H) u ts)(_:ts.length<=8)(_:(∀t∈ts,aEv hd t))(_:∀H',Same H H'->Q vh H')
def kinds_of {α:Type}{p:α->Str->Prop}:∀{ts:List α},(∀t∈ts,∃k,p t k)->∃ks,bR p ts ks:=by
 intro b
 induction b with
 |nil=>rintro _;exact([],.nil)
 |cons t r ih=>rintro h;have(k,d):=h t (v7 ..);have(ks,a):=ih λu c=>h u (j8 _ c);exact(k::ks,.cons d a)
def iR {α:Type}{f:α->V}{xs:List α}{i:Nat}{y:V}(h:(xs.map f)[i]?=some y):∃x,xs[i]?=some x/\y=f x:=by
 rw[j5] at h;cases e:xs[i]? with
 |none=>rw[e] at h;cases h
 |some x=>rw[e] at h;cases h;exact(x,44)
def aF0 (T:!Txt)(lD:!Ok 1 "need_like_kinds" bQX (aJv K))(fZ:!Ok 1 "kind_in" o8 (wU K))(U:!Ok 3 "other_kind" bXK (aXu K)) :
  !Ok 4 "where_head" bXL (bFk K):=by
 refine Ok.ofW T.aKy aFx λZ H vs Q hr h=>?_;have(J,u,G,ts,rfl,F,(a,I,rfl,C,m),Y,g,q):=h;exists _,(aB (eV (aY lD (aF (bY (N:=["test","head"]) ck (dC (aD nY)) rfl (fV (vv 1)) (λW S c L=>((dF 0),cI,(aY fZ (aF (vv 1) (va1 (aQ (cT (K:=K)) (vv 0) aA))))))) (va1 (bY (N:=["test","head"]) ck (dC (aD nY)) rfl (fV (vv 1)) (λW S c L=>((dF 0),cI,(aY U (aF (vv 1) (va1 (aQ (cT (K:=K)) (vv 0) aA))))))))))) (aC (aH (vv 0))));have(s,b):=kinds_of g;have l1:=m.len;have l2:=b.len;dsimp only[nO,aUh,aEh,cX];refine jY I (s.map V.str) (by rw[d7];lia) [none,some J] ?_ (small (5)) (λR r=>nF C (λX B=>(3,B)) R r) (λi x y f j c R l d r=>?_) rfl λD1 H1 e g1=>?_
 .exact eX 0 (0) rfl rfl (0)
 .have(t,n,p,w',rfl,A,_,_,D):=bQ m f;have(k,v,rfl):=iR j;have z:=mQ b n v;exact(3,rd0 rfl (d.aG A) (00,G,k,4,F.same d,z.1,r c (Same.refl c)))
 refine jY I (s.map V.str) (by rw[d7];lia) [none,some J] ?_ (small (5)) (λR r=>nF (e.aG C) (λX B=>(3,B)) R r) (λi x y f j c R l d r=>?_) rfl λM H2 E O=>?_
 .exact eX 0 (0) rfl rfl (0)
 .have(t,n,p,w',rfl,A,_,_,D):=bQ m f;have(k,v,rfl):=iR j;have z:=mQ b n v;exact(3,rd2 rfl (d.aG (e.aG A)) (00,G,t.o,k,4,F.same (e.trans d),D.same (e.trans d),z.2,r c (Same.refl c)))
 exact(D1,M,s,4,SqL.of (E _ _ g1),SqL.of O,(3,q H2 (e.trans E)))
def aYg (K:bGC)(H:Hp)(v:V)(ns:List Str):Prop:=∃a,v=.ref a/\(SqL K H a (ns.map V.str)\/SqT K H a (ns.map V.str))
def aZ8 {lo hi:Nat}{H:Hp}{v:V}{ns:List Str}(h:fY iI lo hi K H v ns):aYg K H v ns:=by have((a,d,rfl,b,c),_):=h;rw[qZ c] at b;exact(a,4,.inr b)
def Looks (hd:Hdr)(ns ks:List Str):Prop:=bR (λn k=>look hd n=some k) ns ks
inductive aTf (K:bGC)(vs:List V)(H:Hp)(Q:VK)(E_:XK):Prop
 |mk (vh u hd ns ks:_)(_:vs=[vh,u])(_:eU K H vh hd)(_:aYg K H u ns)(_:ns.length<=1000)(_:Looks hd ns ks)(_:∀v H',Same H H'->eU K H' v (ns.zip ks)->Q v H')
def bG6 (hS:SqL K H a xs\/SqT K H a xs)(h:∀R:VK,R (.ref a) H->tl σ H R)(R:It->Hp->Prop)
  (q:∀J:It,(∀H' i x,Same H H'->xs[i]?=some x->J.go i H'/\∀y H2,J.yld i H' y H2->H2=H'/\y=x)->(∀H',Same H H'->J.stop xs.length H')->R J H):tL K tl σ H R\/aQ2 K tl σ H R:=by
 rcases hS with hS|hS
 .exact .inl (qU (λH' b=>b.seq hS) h R q)
 .exact .inr (nF hS h R q)
def jJ (K:bGC)(cs:Hdr):Nat->Hp->V->Prop:=λi H y=>∃c p,cs[i]?=some c/\y=.ref p/\H p=some (.tup [.str c.1,.str c.2])
def jJ.st {cs:Hdr}{i:Nat}{H1 H2:Hp}{y:V}(e:Same H1 H2)(h:jJ K cs i H1 y):jJ K cs i H2 y:=by have(c,p,d,b,a):=h;exact(c,p,d,b,e _ _ a)
def jJ.su {cs:Hdr}{i:Nat}{H1:Hp}{D:Addr}{ys zs:List V}{y:V}(e:H1 D=some (.lst ys))(h:jJ K cs i H1 y):jJ K cs i (upd H1 D (.lst zs)) y:=by have(c,p,b,d,a):=h;exact(c,p,b,d,by rw[bC (aHg a e (by intro z;cases z))];exact a)
def aJm {cs:Hdr}{H:Hp}{a:Addr}{ys:List V}(j:SqT K H a ys)(k:ys.length=cs.length)(h:∀(i:Nat) (y:V),ys[i]?=some y->jJ K cs i H y):eU K H (.ref a) cs:=by refine(a,ys,4,j,pA k λi y c e g=>?_);have(l,p,b,f,d):=h i y e;rw[g] at b;cases b;exact(p,f,SqT.of d)
def aPs {ns ks:List Str}{i:Nat}{n k:Str}(a:ns[i]?=some n)(b:ks[i]?=some k):(ns.zip ks)[i]?=some (n,k,):=by rw[List.zip,bCP,a,b]
def aKz (T:!Txt)(U:!Ok 1 "kind_in" o8 (wU K)):!Ok 2 "keep_head" v4 (aTf K):=by
 refine Ok.ofW T.aNj aJz λZ H vs Q Y h=>?_;have(L,u,F,o,G,rfl,E,(a,rfl,z),I,s,q):=h;exists _,(aC (aH (bF cQ (7) T.cM cB (va1 (bY (N:=["name","head"]) ck (dC (aD sJ)) rfl (bGv (vv 1)) (λX W m S=>((dF 0),cI,(aP (aF (vv 0) (va1 (aY U (aF (vv 1) (va1 (vv 0))))))))))))));have C:=s.len;dsimp only[qI,tCB,cX];refine qN (o.map V.str) (jJ K (o.zip G)) jJ.st jJ.su [none,some L] ?_ (small (by rw[d7];exact I)) (λR r=>bG6 z (λR' O=>(3,O)) R r) (λi x B m R l j r=>?_) rfl λD m ys j M d A=>?_
 .exact eX 0 (0) rfl rfl (0)
 .have(n,v,rfl):=iR B;have(k,f,g):=bQ s v;exact(3331,F,k,4,E.same j,g,sz2,λp J _ b c=>r _ _ b ((n,k,),p,aPs v f,4,c))
 .refine(D,3,SqL.of M,λt J _ b c=>q _ _ (j.trans b) (aJm (SqT.of c) ?_ λi y e=>(A i y e).st b));rw[d,d7,bEG];lia
inductive aYi (K:bGC)(vs:List V)(H:Hp)(Q:VK)(E_:XK):Prop
 |mk (vh:_) (u:_) (hd:_) (ns:_) (_:vs=[vh,u]) (_:eU K H vh hd) (_:(∃a,u=.ref a/\SqT K H a (ns.map V.str))) (_:ns.length<=1000) (_:ns.length=hd.length) (_:∀v H',Same H H'->eU K H' v (List.zipWith (λn c=>(n,c.2,)) ns hd)->Q v H')
def aF5 (T:!Txt):!Ok 1 "named_head" v4 (aYi K):=by
 refine Ok.ofW T.aIz aF2 λZ H Y Q X h=>?_;have(vh,u,G,g,rfl,(b,z,rfl,A,s),(a,rfl,o),I,j,q):=h;exists _,(aB (bL (cL pY (aJ aM (7) T.cH bM (va1 (vv 1))) (aJ aM (7) T.cH bM (va1 (vv 0)))) (aC fB) aV) (aC (aH (bF cQ (7) T.cM cB (va1 (bY (N:=["name","column"]) ck dH rfl (aCf (7) T.aN6 (aF (vv 1) (va1 (vv 0)))) (λW U v S=>((iT (K:=K) (n:=2) rfl (aW (dF 0) (aW (dF 1) cV))),cI,(aP (aF (vv 0) (va1 (aQ (cT (K:=K)) (vv 1) aA))))))))))));have k:=s.len;exists 303,.inr o,303,.inr A,43;have e:(!decide (V.int ((g.map V.str).length:Nat)=V.int (z.length:Nat)))=false:=by rw[d7,j,k];simp
 rw[e];refine aU ?_;dsimp only[oM,qI,tCB,cX];refine aVy (g.map V.str) z (jJ K (List.zipWith (λn c=>(n,c.2,)) g G)) jJ.st jJ.su [none,none] gR (small (by rw[d7];exact I)) (by rw[d7];lia) (λR r=>(33,r a b H (Same.refl H) o A)) (λi x y C E v R l1 l2 l r=>?_) rfl rfl λD v zs l M m B=>?_
 .have(n,L,rfl):=iR C;have(c,F,p,rfl,O):=bQ s E;refine(3,rd1 rfl (l.aG O) (sz2,λt J _ d f=>r _ _ d ((n,c.2,),t,84,f)));rw[bCP,L,F]
 .refine(D,3,SqL.of M,λt J _ d f=>q _ _ (l.trans d) (aJm (SqT.of f) ?_ λi y e=>(B i y e).st d));rw[m,d7,bBQ];lia
inductive bF0 (K:bGC)(vs:List V)(H:Hp)(Q:VK)(E_:XK):Prop
 |mk (vh:_) (vo:_) (u:_) (hd:_) (ho:_) (ps:_) (ks:_) (_:vs=[vh,vo,u]) (_:eU K H vh hd) (_:eU K H vo ho) (_:qL K H (pP K H) u ps) (_:ps.length<=8) (_:hd.length<=100) (_:ho.length<=100) (_:bR (λp k=>look hd p.1=some k/\look ho p.2=some k) ps ks) (_:(ps.map (·.1)).Nodup) (_:(ps.map (·.2)).Nodup) (_:∀v H',Same H H'->eU K H' v (hd++ho.filter λc=>!decide (c.1∈ps.map (·.2)))->Q v H')
def lV {n:Str}{ss:List Str}:inV (.str n) (ss.map V.str)=decide (n∈ss):=by
 unfold inV;rw[bCL,bEX,decide_eq_true_eq];constructor
 .rintro⟨v,d,e⟩;have(z,a,rfl):=List.mem_map.mp d;have b:(z == n)=true:=e;have c:z=n:=by simpa using b
  rw[<-c];exact a
 .intro h;exists .str n,List.mem_map.mpr (n,h,4);show (n == n)=true;simp
def lU {ss:List Str}:(ss.map V.str).all lY=true:=by rw[bCS];intro v a;have(z,_,rfl):=List.mem_map.mp a;rfl
theorem rH {α:Type}{p:Nat->Bool}{p':α->Bool}:∀{k:Nat} {xs:List α},(∀(i:Nat) (x:α),xs[i]?=some x->p (k+i)=p' x)->sel p k xs=xs.filter p'
 |_,[],_=>rfl
 |k,x::r,h=>by have a:=h 0 x rfl;rw[Nat.add_zero] at a;show (if p k then x::sel p (k+1) r else sel p (k+1) r)=_;rw[List.filter_cons,a,rH (k:=k+1) (xs:=r) λi y e=>by rw[show k+1+i=k+(i+1) by lia];exact h (i+1) y (by simpa using e)]
def aN5 {α β:Type}{R:α->β->Prop}{p:Nat->Bool}{d:List α}{c:List β}(h:bR R d c):∀k,bR R (sel p k d) (sel p k c):=by
 induction h with
 |nil=>exact λ_=>.nil
 |@cons a b d c r _ ih=>
  intro k;show bR R (if p k then a::sel p (k+1) d else sel p (k+1) d) (if p k then b::sel p (k+1) c else sel p (k+1) c)
  split
  .exact .cons r (ih _)
  .exact ih _
def oW (ho:Hdr)(ss:List Str)(i:Nat):Bool:=match ho[i]? with
 |some c=>!decide (c.1∈ss)
 |none=>false
def aJc (T:!Txt)(lD:!Ok 1 "need_like_kinds" bQX (aJv K))(fZ:!Ok 1 "kind_in" o8 (wU K))(iQ:!Ok 2 "need_unlike" bQU (aKh K)) :
  !Ok 3 "join_head" bXC (bF0 K):=by
 refine Ok.ofW T.aO7 qY λZ H vs Q hr h=>?_;have(vh,vo,u,hd,z,j,ks,rfl,hh,F,(a,us,rfl,ha,Y),a3,a4,a6,B,W,a0,q):=h;have a5:=qY.nd;exists _,(aB (lF (i0:=3) qY.nd rfl (0) (N:=["pair"]) ck dH rfl (fV (vv 2)) (λJ S f O=>((dF 0),cI,(aQ (cT (K:=K)) (vv 0) aA)))) (aB (bU 4 (bY (N:=["pair"]) ck dH rfl (fV (vv 2)) (λJ S f O=>((dF 0),cI,(aQ (cT (K:=K)) (vv 0) aA))))) (aB (eV (aY lD (aF (bY (N:=["name","head"]) ck (dC (aD mV)) rfl (iD (vv 3)) (λJ S f O=>((dF 0),cI,(aY fZ (aF (vv 1) (va1 (vv 0))))))) (va1 (bY (N:=["name","other"]) ck (dC (aD mV)) rfl (iD (vv 4)) (λJ S f O=>((dF 0),cI,(aY fZ (aF (vv 1) (va1 (vv 0))))))))))) (aB (eV (aY iQ (va1 (vv 3)))) (aB (eV (aY iQ (va1 (vv 4)))) (aC (aH (cA jX (vv 0) (bF cQ (7) T.cM cB (va1 (bY (N:=["column","there"]) ck (dC (aD mV)) rfl (fV (vv 1)) (λJ S f O=>((dF 0),(zY (fP (vR (K:=K)) (aQ (cT (K:=K)) (vv 0) aA) (vv 1) (1))),(vv 0))))))))))))));have lu:=Y.len;have lk:=B.len;dsimp only[nO,kO];refine jY us ((j.map (·.1)).map V.str) (by rw[d7,d7];lia) [none] iM (small (5)) (λR r=>nF ha (λL s=>(3,s)) R r) (λi x y o A f R l m r=>?_) rfl λD1 H1 I g1=>?_
 .have(p,v,b,rfl,D,_):=bQ Y o;have(n,g,rfl):=iR A;rw[j5,v] at g;cases g;exact (rd0 rfl (m.aG D) (r f (Same.refl f)))
 dsimp only[cF,nO,kO];refine jY us ((j.map (·.2)).map V.str) (by rw[d7,d7];lia) [none] iM (small (5)) (λR r=>nF (I.aG ha) (λL s=>(3,s)) R r) (λi x y o A f R l m r=>?_) rfl λU H2 E X=>?_
 .have(p,v,b,rfl,D,_):=bQ Y o;have(n,g,rfl):=iR A;rw[j5,v] at g;cases g;exact (rd1 rfl (m.aG (I.aG D)) (r f (Same.refl f)))
 dsimp only[cF,nO,kO,aUh,aEh,cX];refine jY ((j.map (·.1)).map V.str) (ks.map V.str) (by rw[d7,d7,d7];lia) [none,some vh] ?_ (small (by rw[d7,d7];lia)) (λR r=>qU (λf m=>SqL.of (m _ _ (E _ _ g1))) (λL s=>(3,s)) R r) (λi x y o A f R l m r=>?_) rfl λD3 H3 C g3=>?_
 .exact eX 0 (0) rfl rfl (0)
 .have(n,g,rfl):=iR o;have(k,hk,rfl):=iR A;obtain⟨p,v,rfl⟩:∃p,j[i]?=some p/\n=p.1:=by
   rw[j5] at g;cases e:j[i]? with
   |none=>rw[e] at g;cases g
   |some p=>rw[e] at g;cases g;exact(p,44)
  exact(331,hd,k,4,hh.same (I.trans (E.trans m)),(mQ B v hk).1,r f (Same.refl f))
 refine jY ((j.map (·.2)).map V.str) (ks.map V.str) (by rw[d7,d7,d7];lia) [none,some vo] ?_ (small (by rw[d7,d7];lia)) (λR r=>qU (λf m=>SqL.of (m _ _ (C _ _ X))) (λL s=>(3,s)) R r) (λi x y o A f R l m r=>?_) rfl λD4 H4 G g4=>?_
 .exact eX 1 (0) rfl rfl (0)
 .have(n,g,rfl):=iR o;have(k,hk,rfl):=iR A;obtain⟨p,v,rfl⟩:∃p,j[i]?=some p/\n=p.2:=by
   rw[j5] at g;cases e:j[i]? with
   |none=>rw[e] at g;cases g
   |some p=>rw[e] at g;cases g;exact(p,44)
  exact(331,z,k,4,F.same (I.trans (E.trans (C.trans m))),(mQ B v hk).2,r f (Same.refl f))
 exists D3,D4,ks,4,SqL.of (G _ _ g3),SqL.of g4;have t4:=I.trans (E.trans (C.trans G));refine(3,D1,3,SqL.of ((E.trans (C.trans G)) _ _ g1),(by rw[d7];lia),W,λH5 s5=>?_);refine(3,U,3,SqL.of ((C.trans (G.trans s5)) _ _ X),(by rw[d7];lia),a0,λH6 s6=>?_);have t6:=t4.trans (s5.trans s6);have g6:=(C.trans (G.trans (s5.trans s6))) _ _ X;have(b,ws,rfl,D,hw):=F;have(c,zs,rfl,hc,hz):=hh;have lw:=hw.len;have lz:=hz.len;exists 3;dsimp only[nO,tCB,cX];refine aL7 ws (oW z (j.map (·.2))) [none,some (.ref U)] ?_ (small (5)) (λR r=>nF (t6.aG D) (λL s=>(3,s)) R r) (λi x o f R l m r=>?_) rfl λD7 H7 s7 g7=>?_
 .exact eX 4 (0) rfl rfl (0)
 .have(d,a1,p,rfl,v):=bQ hw o;refine (rd0 rfl (m.aG (t6.aG v)) (3,U,3,.inl (SqL.of (m _ _ g6)),4,lU,38));have e:oW z (j.map (·.2)) i=!decide (d.1∈j.map (·.2)):=by unfold oW;rw[a1]
  rw[lV];rw[e] at r;exact r f (Same.refl f)
 refine(D7,3,SqL.of g7,λt H8 _ s8 g8=>?_);have M:=t6.trans (s7.trans s8);have a2:=oY (oW z (j.map (·.2))) 0 ws;refine(c,t,12,M.aG hc,SqT.of g8,small (5),λr H9 s9 g9=>?_);refine q _ _ (M.trans s9) (r,3,g9,(hz.imp λ_ _ h=>h.same (M.trans s9)).app ?_);have e:sel (oW z (j.map (·.2))) 0 z=z.filter λc=>!decide (c.1∈j.map (·.2)):=rH λi x o=>by unfold oW;rw[bEP,o]
 rw[<-e];exact (aN5 hw 0).imp λ_ _ h=>h.same (M.trans s9)
def smK (hd:Hdr)(s:Sm):Option Str:=match s.c with
 |none=>some "number"
 |some c=>look hd c
inductive bFj (K:bGC)(vs:List V)(H:Hp)(Q:VK)(E_:XK):Prop
 |mk (vh u hd s k:_)(_:vs=[vh,u])(_:eU K H vh hd)(_:oR K H u s)(_:smK hd s=some k)(_:Q (.str k) H)
def bKv (h:bKk x):decide (V.str x=V.str "count")=false:=by rcases h with rfl|rfl|rfl <;> decide +kernel
def aNs (T:!Txt)(n:!Ok 1 "kind_in" o8 (wU K)):!Ok 2 "sum_kind" bXN (bFj K):=by
 refine Ok.ofW T.aQ6 aMb λZ H r Q p h=>?_;have(o,u,i,s,k,rfl,j,(a,rfl,t,m),b,q):=h;exists _,(aC (aH (gJ (cL bZ (aQ aK (vv 1) aA) aL) aL (aY n (aF (vv 0) (va1 (aQ aK (vv 1) aA)))))));rcases m with⟨e,g,d⟩|⟨c,g,hc,hw,d⟩
 .have l:k = "number":=by unfold smK at b;rw[g] at b;exact (bAL b).symm
  subst l;exact (rd0 rfl d (43,bI q))
 .have f:look i c=some k:=by unfold smK at b;rw[g] at b;exact b
  refine (rd0 rfl d (438));rw[bKv hw];exact aU (3,rd1 rfl d (00,i,k,4,j,f,q))
def bFi (h:oR K H u s):∃a x,u=.ref a/\SqT K H a [.str s.wd,x,.str s.new]:=by
 have(a,rfl,g,d):=h;rcases d with⟨e,f,b⟩|⟨c,f,hc,hw,b⟩
 .exact(a,3,by rw[e];exact b)
 .exact(a,3,b)
def aJ1 (hd:Hdr)(ss:List Sm)(js:List Str):Prop:=bR (λs j=>smK hd s=some j/\(s.wd = "sum"->j≠"word")) ss js
inductive bE8 (K:bGC)(vs:List V)(H:Hp)(Q:VK)(E_:XK):Prop
 |mk (vh u x hd ns ss ks js:_)(_:vs=[vh,u,x])(_:eU K H vh hd)(_:aYg K H u ns)(_:ns.length<=100)(_:qL K H (oR K H) x ss)(_:ss.length<=100)(_:Looks hd ns ks)(_:aJ1 hd ss js)(_:∀v H',Same H H'->eU K H' v (ns.zip ks++(ss.map Sm.new).zip js)->Q v H')
def aGr (T:!Txt)(mU:!Ok 2 "keep_head" v4 (aTf K))(a3:!Ok 2 "sum_kind" bXN (bFj K)):!Ok 3 "group_head" bXD (bE8 K):=by
 refine Ok.ofW T.aLn vI λZ H vs Q hr h=>?_;have(vh,u,x,hd,ns,ss,ks,js,rfl,hh,M,hl,(a,us,rfl,W,L),a4,B,k,q):=h;have a2:=vI.nd;exists _,(aB (bU 3 (aY mU (aF (vv 0) (va1 (vv 1))))) (aB (bU 4 (bF cQ (7) T.cM cB (va1 (bY (N:=["part","head"]) ck (dC (aD qP)) rfl (fV (vv 2)) (λcl s' g fp=>((dF 0),cI,(aP (aF (aQ (cT (K:=K)) (vv 0) aA) (va1 (aY a3 (aF (vv 1) (va1 (vv 0))))))))))))) (aB (nH PassesOwn.never rfl (aCf (7) T.aN6 (aF (vv 2) (va1 (vv 4)))) (iY rfl (aW (cP 5) (aW (cP 6) cV))) (aC (bL (VW.pt (jH (cL bZ (aQ aK (vv 5) aA) aL) (iU (cL bZ (aQ aK (vv 6) aA) aL)))) (aC fB) aV))) (aC (aH (cA jX (vv 3) (vv 4)))))));have lu:=L.len;have lj:=k.len;have lk:=B.len;refine(33,vh,u,hd,ns,ks,4,hh,M,5,B,λA H1 F n=>?_);dsimp only[cF,nO,kO,tCB,cX];refine qN us (jJ K ((ss.map Sm.new).zip js)) jJ.st jJ.su [none,some vh] ?_ (small (5)) (λR r=>nF (F.aG W) (λR' r'=>(3,r')) R r) (λi y Y g R l d r=>?_) rfl λD H2 ys X hD v hR=>?_
 .exact eX 0 (0) rfl rfl (0)
 .have(p,G,f):=bQ L Y;have(j,hj,C,_):=bQ k G;have(b,z,rfl,S):=bFi f;refine (rd2 rfl (d.aG (F.aG S)) (331,hd,p,j,4,hh.same (F.trans d),f.same (F.trans d),C,sz2,λt H3 _ o E=>r _ _ o ((p.new,j,),t,aPs (by rw[j5,G];rfl) hj,4,E)))
 refine(D,3,SqL.of hD,λt H3 _ o E=>?_);have lz:((ss.map Sm.new).zip js).length=ss.length:=by rw[bEG,d7];lia
 have m:=aJm (SqT.of E) (by rw[v,lz];exact lu) λi y e=>(hR i y e).st o;have J:=F.trans (X.trans o);dsimp only[cF,nO];refine(33,a,t,us,ys,4,J.aG W,SqT.of E,bDt (λi σ g=>Same H3 g/\∃l5 l6,σ=[some vh,some u,some (.ref a),some A,some (.ref t),l5,l6]) (by rw[v]) (Same.refl _,03) (by rintro i σ g _ ⟨e,_⟩;exact(e.aG (J.aG W),e.aG (SqT.of E))) ?_ ?_)
 .rintro i σ g x y Tp H'' ex Y ⟨d,l5,l6,rfl⟩ hT rfl;have s4:Same g (upd g Tp (.tup [x,y])):=bJ hT _;have I:=d.trans s4;have(p,G,f):=bQ L ex;have(j,hj,C,O):=bQ k G;have(b,z,rfl,S):=bFi f;have(c,p2,e1,rfl,U):=hR i y Y;have ec:c=(p.new,j,):=by rw[aPs (by rw[j5,G];rfl) hj] at e1;exact (bAL e1).symm
  subst ec;exists Tp,3,SqT.of aO,40312;refine (rd0 rfl (I.aG (J.aG S)) (438));refine aAr (λcs=>?_) (λcs=>aU (I,03));have ew:=V.str.inj (of_decide_eq_true cs);refine (rd1 rfl (SqT.of (I _ _ (o _ _ U))) (438));rw[j9 (by intro zz;exact O ew (V.str.inj zz))];exact aU (I,03)
 .rintro σ g ⟨d,l5,l6,rfl⟩;have(c,zs,rfl,hc,hz):=n;have(c2,a1,e2,a0,s):=m;cases e2;have l1:=hz.len;have l2:=s.len;have l3:(ns.zip ks).length<=100:=by rw[bEG];lia
  refine(33,c,t,12,(X.trans (o.trans d)).aG hc,d.aG a0,small (5),λr H5 s5 U=>?_);refine q _ _ (J.trans (d.trans s5)) (r,3,U,(hz.imp λ_ _ h=>h.same (X.trans (o.trans (d.trans s5)))).app (s.imp λ_ _ h=>h.same (d.trans s5)))
inductive bE2 (K:bGC)(vs:List V)(H:Hp)(Q:VK)(E_:XK):Prop
 |mk (vh u hd ps ks:_)(_:vs=[vh,u])(_:eU K H vh hd)(_:qL K H (rC K H) u ps)(_:ps.length<=100)(_:Looks hd (ps.map (·.1)) ks)(_:(ps.map (·.1)).Nodup)(_:∀H',Same H H'->Q vh H')
def aFz (T:!Txt)(mU:!Ok 2 "keep_head" v4 (aTf K))(S:!Ok 2 "need_unlike" bQU (aKh K)):!Ok 3 "first_head" ["head","keys"] (bE2 K):=by
 refine Ok.ofW T.aJ4 vU λZ H vs Q Y h=>?_;have(G,u,B,M,C,rfl,A,(a,E,rfl,s,f),hl,c,D,q):=h;exists _,(aB (lF (i0:=2) vU.nd rfl (0) (N:=["key"]) ck dH rfl (fV (vv 1)) (λX W d U=>((dF 0),cI,(aQ (cT (K:=K)) (vv 0) aA)))) (aB (eV (aY mU (aF (vv 0) (va1 (vv 2))))) (aB (eV (aY S (va1 (vv 2)))) (aC (aH (vv 0))))));have lu:=f.len;dsimp only[cF,nO,kO];refine jY E ((M.map (·.1)).map V.str) (by rw[d7,d7];lia) [none] iM (small (5)) (λR r=>nF s (λR' I=>(3,I)) R r) (λi x y t z d R l O r=>?_) rfl λg H1 k j=>?_
 .have(p,J,b,rfl,L,_):=bQ f t;have(n,m,rfl):=iR z;rw[j5,J] at m;cases m;exact (rd0 rfl (O.aG L) (r d (Same.refl d)))
 refine(33,G,_,B,_,C,4,A.same k,(g,4,.inl (SqL.of j)),by rw[d7];lia,c,λv H2 e _=>?_);refine(3,g,3,SqL.of (e _ _ j),by rw[d7];lia,D,λo F=>?_);exact(3,q o (k.trans (e.trans F)))
def Good (hd:Hdr):Prop:=(hd.map (·.1)).Nodup/\1<=hd.length/\hd.length<=8
inductive HH (hs:Str->Option Hdr):Qn->List Hdr->Hdr->Prop
 |table {T hd}:hs T=some hd->HH hs (.table T) [] hd
 |whr {q ts hd}:(∀t∈ts,aEv hd t)->HH hs (.whr q ts) [hd] hd
 |keep {q ns hd ks}:Looks hd ns ks->HH hs (.keep q ns) [hd] (ns.zip ks)
 |nmd {q ns hd}:ns.length=hd.length->HH hs (.nmd q ns) [hd] (List.zipWith (λn c=>(n,c.2,)) ns hd)
 |join {q r ps hd ho ks}:bR (λp k=>look hd p.1=some k/\look ho p.2=some k) ps ks->(ps.map (·.1)).Nodup->(ps.map (·.2)).Nodup->HH hs (.join q r ps) [hd,ho] (hd++ho.filter λc=>!decide (c.1∈ps.map (·.2)))
 |group {q ns ss hd ks js}:Looks hd ns ks->aJ1 hd ss js->HH hs (.group q ns ss) [hd] (ns.zip ks++(ss.map Sm.new).zip js)
 |first {q ps m hd ks}:Looks hd (ps.map (·.1)) ks->(ps.map (·.1)).Nodup->HH hs (.first q ps m) [hd] hd
def pD (K:bGC)(H:Hp)(d:Addr)(hs:Str->Option Hdr):Prop:=∃kvs,H d=some (.dK kvs)/\∀n hd,hs n=some hd->∃v,nP kvs (Sum.inr n)=some v/\eU K H v hd
def pD.same (e:Same H H')(h:pD K H d hs):pD K H' d hs:=by have(a,b,f):=h;refine(a,e _ _ b,λn b i=>?_);have(v,c,g):=f n b i;exact(v,c,g.same e)
inductive bE9 (K:bGC)(vs:List V)(H:Hp)(Q:VK)(E_:XK):Prop
 |mk (d v x us hs q ihds hd:_)(_:vs=[.ref d,v,.ref x])(_:pD K H d hs)(_:IsQ K H v q)(_:SqL K H x us)(_:bR (eU K H) us ihds)(_:(∀h∈ihds,h.length<=100))(_:HH hs q ihds hd)(_:∀v' H',Same H H'->eU K H' v' hd->Q v' H')
def aKp (T:!Txt)(F:!Ok 1 "table_head" bXJ bFq)(D:!Ok 4 "where_head" bXL (bFk K))(O:!Ok 2 "keep_head" v4 (aTf K))
  (E:!Ok 1 "named_head" v4 (aYi K)) (I:!Ok 3 "join_head" bXC (bF0 K)) (J:!Ok 3 "group_head" bXD (bE8 K))
  (A:!Ok 3 "first_head" ["head","keys"] (bE2 K)):!Ok 5 "head_here" bQW (bE9 K):=by
 refine Ok.ofW T.aMn xU λZ H S Q N h=>?_;have(d,v,x,U,Y,M,y,R,rfl,u,j,k,l,g,B,q):=h;have L:=xU.nd;exists _,(aB (bU 3 (aQ aK (vv 1) aA)) (aB (bL (cL bZ (vv 3) aL) (aC (aH (aY F (aF (vv 0) (va1 (aQ aK (vv 1) aA)))))) aV) (aB (bL (cL bZ (vv 3) aL) (aC (aH (aY D (aF (aQ bB (vv 2) aA) (va1 (aQ aK (vv 1) aA)))))) aV) (aB (bL (cL bZ (vv 3) aL) (aC (aH (aY O (aF (aQ bB (vv 2) aA) (va1 (aQ aK (vv 1) aA)))))) aV) (aB (bL (cL bZ (vv 3) aL) (aC (aH (aY E (aF (aQ bB (vv 2) aA) (va1 (aQ aK (vv 1) aA)))))) aV) (aB (bL (cL bZ (vv 3) aL) (aC (aH (aY I (aF (aQ bB (vv 2) aA) (aF (aQ bB (vv 2) aA) (va1 (aQ aK (vv 1) aA))))))) aV) (aB (bL (cL bZ (vv 3) aL) (aC (aH (aY J (aF (aQ bB (vv 2) aA) (aF (aQ aK (vv 1) aA) (va1 (aQ aK (vv 1) aA))))))) aV) (aC (aH (aY A (aF (aQ bB (vv 2) aA) (va1 (aQ aK (vv 1) aA)))))))))))));cases B with
 |table hT=>
  cases j with
  |table a b=>have(r,s,m):=u;have(p,t,C):=m _ _ hT;refine (rd0 rfl a ?_);exact(023,bI (3,rd1 rfl a (d,_,p,r,4,s,t,q _ _ (Same.refl H) C)))
 |whr ht=>
  cases j with
  |whr a b c=>
   cases l with
   |cons h1 t1=>cases t1;refine (rd0 rfl a ?_);refine(023,aU (023,bI ?_));exact(3,x,_,0,02,k,at0 _ _,31,2,02,a,at2 _ _ _ _,013,h1,c.1,by have:=c.2.2;lia,ht,λo f=>q _ _ f (h1.same f))
 |keep hk=>
  cases j with
  |keep a b c=>
   cases l with
   |cons h1 t1=>cases t1;refine (rd0 rfl a ?_);refine(023,aU (023,aU (023,bI ?_)));exact(3,x,_,0,02,k,at0 _ _,31,2,02,a,at2 _ _ _ _,113,h1,aZ8 c,by have:=c.2.2;lia,hk,λp o f i=>q _ _ f i)
 |nmd hl=>
  cases j with
  |nmd a b c=>
   cases l with
   |cons h1 t1=>cases t1;have((n,X,rfl,z,G),W,V):=c;rw[qZ G] at z;refine (rd0 rfl a ?_);refine(023,aU (023,aU (023,aU (023,bI ?_))));exact(3,x,_,0,02,k,at0 _ _,31,2,02,a,at2 _ _ _ _,013,h1,(n,4,z),5,hl,λp o f i=>q _ _ f i)
 |join hk n1 n2=>
  cases j with
  |join a b c e=>
   cases l with
   |cons h1 t1=>
    cases t1 with
    |cons h2 t2=>cases t2;refine (rd0 rfl a ?_);refine(023,aU (023,aU (023,aU (023,aU (023,bI ?_)))));exact(3,x,_,0,02,k,at0 _ _,3,x,_,1,02,k,at1 _ _ _,31,0o3,02,a,aX rfl,1113,h1,h2,e.1,by have:=e.2.2;lia,g _ (9),g _ (9),hk,n1,n2,λp o f i=>q _ _ f i)
 |group hk hj=>
  cases j with
  |group a b c e=>
   cases l with
   |cons h1 t1=>cases t1;refine (rd0 rfl a ?_);refine(023,aU (023,aU (023,aU (023,aU (023,aU (023,bI ?_))))));exact(3,x,_,0,02,k,at0 _ _,31,2,02,a,at2 _ _ _ _,31,0o3,02,a,aX rfl,01113,h1,aZ8 c,by have:=c.2.2;lia,e.1,by have:=e.2.2;lia,hk,hj,λp o f i=>q _ _ f i)
 |first hk nd=>
  cases j with
  |first a b c e=>
   cases l with
   |cons h1 t1=>cases t1;refine (rd0 rfl a ?_);refine(023,aU (023,aU (023,aU (023,aU (023,aU (023,aU ?_))))));exact(3,x,_,0,02,k,at0 _ _,31,2,02,a,at2 _ _ _ _,113,h1,c.1,by have:=c.2.2;lia,hk,nd,λo f=>q _ _ f (h1.same f))
inductive HQ (hs:Str->Option Hdr):Qn->Hdr->Prop
 |mk0 {q hd}:kids q=[]->HH hs q [] hd->Good hd->HQ hs q hd
 |mk1 {q k h1 hd}:kids q=[k]->HQ hs k h1->HH hs q [h1] hd->Good hd->HQ hs q hd
 |mk2 {q k l h1 h2 hd}:kids q=[k,l]->HQ hs k h1->HQ hs l h2->HH hs q [h1,h2] hd->Good hd->HQ hs q hd
def HQ.good (h:HQ hs q hd):Good hd:=by cases h <;> assumption
def HQ.in (h:HQ hs q hd):∃ihds,bR (HQ hs) (kids q) ihds/\HH hs q ihds hd/\Good hd:=by
 cases h with
 |mk0 e a b=>exact([],by rw[e];exact .nil,a,b)
 |mk1 e k a b=>exact([_],by rw[e];exact .cons k .nil,a,b)
 |mk2 e k l a b=>exact([_,_],by rw[e];exact .cons k (.cons l .nil),a,b)
inductive aAd (K:bGC)(vs:List V)(H:Hp)(Q:VK)(E_:XK):Prop
 |mk (v hd:_)(_:vs=[v])(_:eU K H v hd)(_:hd.length<=1000)(_:∀D H',Same H H'->H' D=some (.lst ((hd.map (·.1)).map V.str))->Q (.ref D) H')
def aKm (T:!Txt):!Ok 1 "names_of" ["head"] (aAd K):=by refine Ok.ofW T.aRc aOz λZ H G Q E h=>?_;have(v,o,rfl,(a,s,rfl,g,e),I,q):=h;exists _,(aC (aH (bY (N:=["column"]) ck dH rfl (fV (vv 0)) (λC B b A=>((dF 0),cI,(aQ (cT (K:=K)) (vv 0) aA))))));have J:=e.len;refine jY s ((o.map (·.1)).map V.str) (by rw[d7,d7];lia) [none] iM (small (5)) (λR r=>nF g (λF z=>(3,z)) R r) (λi x y j k b R l d r=>?_) rfl λD b d t=>q D b d t;have(c,m,p,rfl,u):=bQ e j;have(n,f,rfl):=iR k;rw[j5,m] at f;cases f;exact (rd0 rfl (d.aG u) (r b (Same.refl b)))
inductive bFs (K:bGC)(n:Nat)(vs:List V)(H:Hp)(Q:VK)(E_:XK):Prop
 |mk (d v hs q hd:_)(_:vs=[.ref d,v])(_:pD K H d hs)(_:IsQ K H v q)(_:size q<=n)(_:HQ hs q hd)(_:∀v' H',Same H H'->eU K H' v' hd->Q v' H')
theorem aG6:∀{qs:List Qn},k∈qs->size k<=sizes qs
 |q::qs,h=>by
  show size k<=(((q::qs).map size).sum);rw[bAE,List.sum_cons];rcases List.mem_cons.mp h with rfl|h
  .lia
  .have:=aG6 h;unfold sizes at this;lia
def aCw (h:k∈kids q)(a:IsQ K H v q):size k<size q:=by
 have e:=qG q;have o:=uL a;have:size k<=sizes (kids q):=by exact aG6 h
 lia
def aKi {α:Type}{l:List α}{i:Nat}{x:α}(h:l[i]?=some x):x∈l:=v9 h
def aE6 (T:!Txt)(jC:!Ok 1 "questions_in" bQD (bBx K))(a2:!Ok 5 "head_here" bQW (bE9 K))(iQ:!Ok 2 "need_unlike" bQU (aKh K))(iC:!Ok 1 "names_of" ["head"] (aAd K)) :
  ∀n:Nat,!Ok (n+6) "head_within" q7 (bFs K n):=by
 intro pa
 induction pa with
 |zero=>
  refine Ok.ofW T.vX lN λZ H Y Q m h=>?_
  .have(d,v,S,q,E,rfl,_,u,hz,_):=h;have e:=qG q;have o:=uL u;lia
 |succ n ih=>
  have pK:=ih;refine Ok.ofW T.vX lN λZ H Y Q m h=>?_;have(d,v,S,s,E,rfl,C,u,hz,hh,q):=h;have(c,j,B,f):=hh.in;have a5:=lN.nd;exists _,(aB (lF (i0:=2) lN.nd rfl (0) (N:=["part","heads"]) ck (dC (aD pL)) rfl (iD (jG (jC.mono (5)) m (7) (va1 (vv 1)))) (λcl s' H' fp=>((dF 0),cI,(jG (pK.mono (5)) m (7) (aF (vv 1) (va1 (vv 0))))))) (aB (bU 3 (jG (a2.mono (5)) m (7) (aF (vv 0) (aF (vv 1) (va1 (vv 2)))))) (aB (eV (jG (iQ.mono (5)) m (7) (va1 (jG (iC.mono (5)) m (7) (va1 (vv 3)))))) (aB (bL (cJ (uE oV oV aA (aJ aM (7) T.cH bM (va1 (vv 3))) (dG (7) T.sS))) (aC fB) aV) (aC (aH (vv 3)))))));have l2:=j.len;have lk:(kids s).length<=2:=by cases s <;> simp[kids]
  dsimp only[nO,kO];refine zN (K:=K) (λt=>bR (IsQ K H) t (kids s)) (λi H y=>∃h,c[i]?=some h/\eU K H y h) (λe h=>?_) (λe h=>?_) [none,some (.ref d)] ?_ rfl (λR r=>(3,v,s,H,4,Same.refl H,u,λD H1 t fD s1 gD b=>r D H1 t s1 gD b)) (λt b=>small (by have:=b.len;lia)) (λt b i x ex H' R l sm r=>?_) λt b D2 H2 ys X g2 a3 hR=>?_
  .have(h,h1,h2):=h;exact(h,h1,h2.same e)
  .have(h,h1,(a,Y,rfl,G,hv)):=h;exact(h,h1,a,Y,4,G.jK e,hv.imp (by rintro _ _ ⟨p,ep,hp⟩;exact(p,ep,hp.jK e)))
  .exact eX 0 (0) rfl rfl (0)
  .have(k,hk,L):=bQ b ex;have(h,W,a0):=bQ j hk;have a4:=aCw (aKi hk) u;exact(33,d,x,S,k,h,4,C.same sm,L.same sm,5,a0,λv' H3 s3 F=>r _ _ s3 (h,W,F))
  have l1:=b.len;have z:bR (eU K H2) ys c:=pA (5) λi y h M V=>by have(h',e3,q3):=hR i y M;rw[V] at e3;cases e3;exact q3
  have g:∀h∈c,h.length<=100:=λh hm=>by
   have(i,hi,e):=bBZ hm;have O:i<(kids s).length:=by lia
   have:=(mQ j (b7 O) (by rw[b7 hi,e])).good;have:=this.2.2;lia
  refine(333,d,v,D2,ys,S,s,c,E,4,C.same X,u.same X,SqL.of g2,z,g,B,λv' H3 s3 F=>?_);have(g1,a1,g3):=f;refine(3,v',E,4,F,5,λD4 H4 I g4=>?_);refine(D4,E.map (·.1),4,SqL.of g4,(by rw[d7];lia),g1,λH5 J=>?_);have(a,U,rfl,G,A):=F;have lz:=A.len;exists 303,.inr ((I.trans J).aG G),123;have M:decide ((1:Int)<=(U.length:Int))=true:=j4 (5);have V:decide ((U.length:Int)<=8)=true:=j4 (5);rw[M];refine bI (1238);rw[V];exact aU (3,q _ _ (X.trans (s3.trans (I.trans J))) (a,U,4,(I.trans J).aG G,A.imp λ_ _ h=>h.same (I.trans J)))
inductive aZ9 (K:bGC)(vs:List V)(H:Hp)(Q:VK)(E_:XK):Prop
 |mk (d v hs q hd:_)(_:vs=[.ref d,v])(_:pD K H d hs)(_:IsQ K H v q)(_:size q<=20)(_:HQ hs q hd)(_:∀v' H',Same H H'->eU K H' v' hd->Q v' H')
def aP1 (T:!Txt)(t:!Ok 26 "head_within" q7 (bFs K 20))(l:!Ok 8 "checked" n6 (aYy K)):!Ok 27 "head_of" q7 (aZ9 K):=by refine Ok.ofW T.aW7 aSh λZ H s Q p h=>?_;have(d,v,m,f,k,rfl,b,c,e,i,q):=h;exists _,(aC (aH (aY t (aF (vv 0) (va1 (aY l (va1 (vv 1))))))));exact(33,v,f,4,c,e,λo a=>(d,v,m,f,k,4,b.same a,c.same a,e,i,λr n g j=>q _ _ (a.trans g) j))
abbrev kinds:List V:=[.str "number",.str "word"]
inductive aI5 (K:bGC)(H:Hp):V->Bool->Prop
 |no {v}:Tk K H v false->aI5 K H v false
 |len {a xs}:SqT K H a xs->xs.length≠2->aI5 K H (.ref a) false
 |two {a x y}:SqT K H a [x,y]->Th K H x->Th K H y->aI5 K H (.ref a) (nameB x && (isS y && inV y kinds))
def aVk (K:bGC):Tells (aI5 K):=⟨λe h=>by
 cases h with
 |no q=>exact .no (Tk.same e q)
 |len q n=>exact .len (e.aG q) n
 |two q x y=>exact .two (e.aG q) (x.same e) (y.same e)⟩
def aKf (T:!Txt)(n:!Ok 2 "is_name" n6 (uB K nameB))(m:!Ok 1 "is_one_of" o7 (pM K)):!Ok 3 "is_column" n6 (jN (aI5 K)):=by
 refine Ok.ofW T.aNb aK6 λZ H p Q o h=>?_;have(v,b,rfl,k,q):=h;have(j,l,g):=T.aJ3;have f:∃u,mg "KINDS"=some u/\RelV (.ref j) u:=(_,l,4);exists _,(aB (bL (VW.pt (dZ (cJ (cD (aJ dY (7) T.bN bH (aF (vv 0) (va1 (dJ (v:=.ty "tuple") (7) T.cM cB rfl)))))) (dO (cL pY (aJ aM (7) T.cH bM (va1 (vv 0))) aA)))) (aC (aH eO)) aV) (aC (aH (dI (aY n (va1 (aQ aK (vv 0) aA))) (dN (aY m (aF (aQ aK (vv 0) aA) (va1 (dG (7) f)))))))));cases k with
 |no h=>exact(303,h,3,bI (q H (Same.refl H)))
 |@len a xs ha d=>
  refine(303,.tup ha,3,aU ?_);exists 303,.inr ha,43;have e:(!decide (V.int (xs.length:Nat)=V.int 2))=true:=by rw[j9 (by intro y;apply d;have:=V.int.inj y;lia)];rfl
  rw[e];exact bI (q H (Same.refl H))
 |@two a x y ha hx hy=>
  refine(303,.tup ha,3,aU ?_);refine(303,.inr ha,43,aU ?_);refine (rd0 rfl ha (x,4,hx,λi c=>(38)));cases d:nameB x with
  |false=>rw[d] at q;exact aU (q i c)
  |true=>rw[d] at q;refine bI (rd1 rfl (c.aG ha) (y,j,kinds,4,hy.same c,g _,4,q i c))
inductive aSl (K:bGC)(vs:List V)(H:Hp)(Q:VK)(E_:XK):Prop
 |mk (v k:_)(_:vs=[v,.str k])(_:Th K H v)(_:∀H',Same H H'->Q (.bl (aEd v && decide (kindS v=k))) H')
def aFk (T:!Txt)(f:!Ok 2 "is_value" n6 (uB K aEd))(e:!Ok 2 "kind_of" ["value"] (aK3 K)):!Ok 3 "is_value_of" bXB (aSl K):=by
 refine Ok.ofW T.aGi aCp λZ H i Q g h=>?_;have(v,k,rfl,d,q):=h;exists _,(aC (aH (dI (aY f (va1 (vv 0))) (dN (lW bZ (aY e (va1 (vv 0))) (vv 1))))));refine(3,v,4,d,λc b=>(38));cases a:aEd v with
 |false=>rw[a] at q;exact aU (q c b)
 |true=>rw[a] at q;refine bI (3,v,4,d.same b,028);have z:decide (V.str (if whole v then "number" else "word")=V.str k)=decide (kindS v=k):=decide_eq_decide.mpr (λy=>V.str.inj y,λy=>congrArg V.str y);rw[z];exact q c b
def plc:Hdr->Str->Nat
 |[],_=>0
 |c::r,n=>if c.1=n then 0 else plc r n+1
def xC:∀{hd:Hdr},look hd n=some k->hd[plc hd n]?=some (n,k,)/\∀j c,j<plc hd n->hd[j]?=some c->c.1≠n:=by
 intro d
 induction d with
 |nil=>rintro h;cases h
 |cons pz r ih=>
  rintro h;have(m,q):=pz;unfold look at h;rw[bBA] at h;by_cases e:m=n
  .rw[j4 e] at h;have g:=bAL h;subst e g;have z:plc ((m,q,)::r) m=0:=if_pos rfl;rw[z];exact(4,λj c b=>absurd b (bFE _))
  .rw[j9 e] at h;have(f,i):=ih h;have z:plc ((m,q,)::r) n=plc r n+1:=if_neg e;rw[z];refine(by simpa using f,λj c b a=>?_);cases j with
   |zero=>cases a;exact e
   |succ j=>exact i j c (5) (by simpa using a)
inductive xF (K:bGC)(vs:List V)(H:Hp)(Q:VK)(E_:XK):Prop
 |mk (vh n hd k:_)(_:vs=[vh,.str n])(_:eU K H vh hd)(_:hd.length<=1000)(_:look hd n=some k)(_:∀H',Same H H'->Q (.int (plc hd n:Nat)) H')
def aMp (T:!Txt)(u:!Ok 1 "names_of" ["head"] (aAd K)):!Ok 2 "place_of" o8 (xF K):=by refine Ok.ofW T.aSk aO0 λZ H x Q v h=>?_;have(l,n,a,k,rfl,o,e,g,q):=h;have(t,i):=xC g;exists _,(aC (aH (qM PySem.F.plainAttrs_list PySem.F.slot_list_index PySem.F.type_list_index aIq (aY u (va1 (vv 0))) (va1 (vv 1)))));refine(3,l,a,4,o,e,λD f r d=>?_);refine(.inl (40,SqL.of d),3,D,a.map (·.1),n,plc a n,44,SqL.of d,by rw[d7];exact e,by rw[j5,t];rfl,λj m s b=>?_,q f r);rw[j5] at b;have(c,p,rfl):=Option.map_eq_some_iff.mp b;exact i j c s p
def bB1 (x y:Str):(x++y).length=x.length+y.length:=by show (x.cps++y.cps).size=_;rw[Array.size_append];rfl
def at_of {xs:List V}{j:Int}(h0:0<=j)(h1:j<xs.length):∃v,atI xs j=some v/\v∈xs:=by
 have a:j.toNat<xs.length:=by lia
 refine(xs[j.toNat],8,bAR a);have b:=aX (b7 a);rw[show ((j.toNat:Nat):Int)=j by lia] at b;exact b
def Lets (x:Str):Prop:=∀c∈x.cps,97<=c/\c<=122
def bEq:∀k:_root_.Fin 26,inA ⟨#[97+k.val]⟩=true:=by trivial
def bH4 (h1:97<=c)(h2:c<=122):inA ⟨#[c]⟩=true:=by have:=bEq (c - 97,5);simp only at this;rw[show 97+(c - 97)=c by lia] at this;exact this
def allIn_of (h:Lets x):allIn x=true:=by
 unfold allIn;rw[bCS];intro b d;have(i,g,rfl):=List.mem_map.mp d;have a:=List.mem_range.mp g;have e:x.cps.getD i 0=x.cps[i]:=by rw[bAU,bAC a];rfl
 have(c,f):=h _ (Array.getElem_mem a);unfold sgn;rw[e];exact bH4 c f
inductive jD:Str->V->Prop
 |num {i}:jD "number" (.int i)
 |wrd {x}:Lets x->x.length<=8->jD "word" (.str x)
def Vl (v:V):Prop:=(∃i,v=.int i)\/∃x,v=.str x/\Lets x/\x.length<=8
def Vl.th (h:Vl v):Th K H v:=by
 rcases h with⟨i,rfl⟩|⟨x,rfl,_,h8⟩
 .exact .inr (.inl (i,4))
 .exact .inl (x,45)
def yH:Sp:=λvs H Q _=>∃i m:Int,vs=[.int i,.int m]/\Q (.bl (decide (0<=i) && decide (i<m))) H
def wF (T:!Txt)(d:!Ok 1 "is_whole" n6 (oJ K)):!Ok 2 "is_number_below" bQV yH:=by
 refine Ok.ofW T.yE wZ λZ H c Q b h=>?_;have(i,m,rfl,q):=h;exists _,(aC (aH (dI (aY d (va1 (vv 0))) (dN (aL8 oV aM9 aA (vv 0) (vv 1))))));refine(33,.inr (.inl (i,4)),3,bI ?_);exists 3123;cases a:decide (0<=i) with
 |false=>rw[a] at q;exact aU q
 |true=>rw[a] at q;exact bI (312,q)
def vlt:V->V->Bool
 |.int a,.int b=>decide (a<b)
 |.str a,.str b=>decide (a.cps.toList<b.cps.toList)
 |_,_=>false
def aDb (k:Str):Prop:=k = "number"\/k = "word"
def qC:Str:="are_cuts.<locals>.<lambda>"
inductive aUg (P:Program)(w:World)(K:bGC)(mg:bGF)(base:Heap)(k:Nat)(vs:List V)(H:Hp)(Q:VK)(E_:XK):Prop
 |mk (a:Addr)(lo hi:Nat)(f:Addr)(xs:List V)(qual g x y:Str)(z:V)(ps:List Str)(sp:Sp)(_:vs=[.ref a,.int (lo:Nat),.int (hi:Nat),.ref f])(_:SqT K H a xs)(_:lo<=xs.length)(_:xs.length<=hi)(_:hi<=1000)(_:zF H f qual g x y z)(_:!Ok k g ps sp)(_:(∀v∈xs,∀(H':Hp) (R:VK),Same H H'->(∀H2,Same H' H2->R (.bl true) H2)->sp [v,z] H' R E0))(_:∀H',Same H H'->Q (.bl true) H')
def aCd (T:!Txt):!Ok (k+2) "is_tuple_of" n8 (!aUg k):=by
 refine Ok.ofW T.vB uC λZ H S Q u h=>?_;have(a,p,A,g,c,b,n,x,y,z,F,s,rfl,f,U,J,j,m,B,i,q):=h;exists _,(aB (bL (VW.pt (dZ (cJ (cD (aJ dY (7) T.bN bH (aF (vv 0) (va1 (dJ (v:=.ty "tuple") (7) T.cM cB rfl)))))) (dO (cJ (uE oV oV (vv 1) (aJ aM (7) T.cH bM (va1 (vv 0))) (vv 2)))))) (aC (aH eO)) aV) (aC (aH (aJ (gQ rfl) (7) T.pU mH (va1 (bY (N:=["part","is_part"]) ck (dC (aD mJ)) rfl (fV (vv 0)) (λM L e I=>((dF 0),cI,(aV1 (P:=P) (w:=w) (K:=K) (mg:=mg) (base:=base) u (vv 1) (va1 (vv 0)))))))))));refine(303,.tup f,3,aU ?_);exists 3303,.inr f,123;have o:decide ((p:Int)<=(c.length:Int))=true:=j4 (5);have G:decide ((c.length:Int)<=(A:Int))=true:=j4 (5);rw[o];refine bI (31238);rw[G];refine aU ?_;dsimp only[oM,qI,tCB,cX];refine aHy c (λ_=>.bl true) [none,some (.ref g)] ?_ (small (5)) (λR r=>nF f (λO E=>(3,E)) R r) (λv t e R l d r=>?_) rfl λD e d C=>?_
 .exact eX 3 (0) rfl rfl (0)
 .exact(3,g,b,n,x,y,z,F,s,4,m.same d,B,3,v,4,m.same d,i v t e R d r)
 .exists D,c.map λ_=>true,4,(SqL.of (by rw[C,bBN];rfl));rw[show (c.map λ_=>true).all id=true by rw[List.all_map];exact List.all_eq_true.mpr λ_ _=>rfl];exact q e d
inductive bBo (K:bGC)(vs:List V)(H:Hp)(Q:VK)(E_:XK):Prop
 |mk (p:Addr)(v:V)(h m:Int)(_:vs=[.ref p,.int m])(_:SqT K H p [v,.int h])(_:0<=h)(_:h<m)(_:∀H',Same H H'->Q (.bl true) H')
def aWv (T:!Txt)(f:!Ok 2 "is_number_below" bQV yH):!Ok 3 "is_cut" v5 (bBo K):=by refine Ok.ofW T.aZh aVh λZ H e Q d h=>?_;have(p,v,h,m,rfl,a,b,c,q):=h;exists _,(aC (aH (dI (aJ dY (7) T.bN bH (aF (vv 0) (va1 (dJ (v:=.ty "tuple") (7) T.cM cB rfl)))) (dI (lW bZ (aJ aM (7) T.cH bM (va1 (vv 0))) aA) (dN (aY f (aF (aQ aK (vv 0) aA) (va1 (vv 1)))))))));refine(303,.tup a,3,bI (303,.inr a,438));refine bI (rd1 rfl a (3,h,m,48));rw[j4 b,j4 c];exact q H (Same.refl H)
def aXm (h:env.cells.lookup y=some cp):closureFor { kind:=.function,names:=[(x,.local,),(y,.free,),(g,.globalImplicit,)],isGenerator:=false,isCoroutine:=false,more:=[] } env=pure [(y,cp,)]:=by
 have a:cellOf env y=pure cp:=by unfold cellOf;rw[h]
 simp[closureFor,a]
def pG (K:bGC)(H:Hp)(v:V)(c:V × Int):Prop:=∃p,v=.ref p/\SqT K H p [c.1,.int c.2]
def pG.same (e:Same H H')(h:pG K H v c):pG K H' v c:=by have(p,rfl,a):=h;exact(p,4,e.aG a)
structure aY5 (kd:Str)(m:Int)(h0:Int)(cs:List (V × Int)):Prop where
 first:0<=h0/\h0<m
 each:∀c∈cs,jD kd c.1/\0<=c.2/\c.2<m
 up:(cs.map (·.1)).Pairwise λa b=>vlt a b=true
 few:cs.length<=7
def aEp (h:jD kd v):aEd v=true/\kindS v=kd:=by
 cases h with
 |num=>exact(44)
 |@wrd x hx h8=>refine(84);show (false || (decide (0<=x.length) && (decide (x.length<=8) && allIn x)))=true;rw[allIn_of hx,j4 h8];rfl
def aHq (h:jD kd v):Vl v:=by
 cases h with
 |num=>exact .inl (3)
 |wrd hx h8=>exact .inr (3,hx,h8)
def bIv (h:vlt a b=true)(q:Q (.bl true) H):bJ1 a b H Q:=by
 unfold vlt at h
 split at h
 .exact .inl (12,by rw[h];exact q)
 .exact .inr (12,by rw[h];exact q)
 .cases h
inductive aT5 (K:bGC)(Pt:Addr)(vs:List V)(H:Hp)(Q:VK)(E_:XK):Prop
 |mk (v:V)(kd:Str)(m h0:Int)(cs:List (V × Int))(_:vs=[v,.str kd,.int m])(_:qL K H (pG K H) v ((.non,h0,)::cs))(_:aDb kd)(_:aY5 kd m h0 cs)(_:H Pt=some (.tab qC))(_:∀H',Same H H'->Q (.bl true) H')
def aOj (T:!Txt)(C:bBl K mg "are_cuts" Pt)(hK:K.In base)(a5:BM mg base)(cG:!Ok 5 "is_tuple_of" n8 (!aUg 3))(a4:!Ok 3 "is_cut" v5 (bBo K))
  (pO:!Ok 3 "is_value_of" bXB (aSl K)):!Ok 6 "are_cuts" bXA (aT5 K Pt):=by
 refine Ok.bLm T.aQn C hK aA0 (λvs H Q E h=>?_) (λf c A a2 s H vs Q E CH hr h=>?_)
 .have(v,Z,m,h0,k,rfl,_):=h;rfl
 have(v,Z,m,h0,k,rfl,(a,us,rfl,ha,X),a8,J,hP,q):=h;have a7:=xP hr;exists _,(aB (bL (VW.pt (dZ (cJ (cD (aRb (iy:=2) cG hr (7) (vv 0) aA (dG (7) T.aOw) rfl CH a5 ((013),λ_ _ _ _ _=>rfl,24,by trivial,24,by trivial,by trivial,by trivial,by trivial,by trivial) rfl rfl rfl rfl (aXm rfl) rfl))) (dO (cL aTx (aQ aK (aQ aK (vv 0) aA) aA) mG)))) (aC (aH eO)) aV) (aB (lF (i0:=3) aA0.nd rfl (0) (N:=["cut"]) ck dH rfl (fV (dM jZ (vv 0) (eE aA) fK)) (λcl e d fp=>((dF 0),cI,(aQ (cT (K:=K)) (vv 0) aA)))) (aB (bL (cJ (cD (aJ (gQ rfl) (7) T.pU mH (va1 (bY (N:=["low","kind"]) ck (dC (aD wW)) rfl (iD (vv 3)) (λcl e d fp=>((dF 0),cI,(aY pO (aF (vv 0) (va1 (vv 1))))))))))) (aC (aH eO)) aV) (aC (aH (aJ (gQ rfl) (7) T.pU mH (va1 (bY (N:=["low","after"]) ck dH rfl (aYx (7) T.aN6 (aF (vv 3) (va1 (dM aPc (vv 3) (eE aA) fK)))) (λcl e d fp=>((iT (K:=K) (n:=2) rfl (aW (dF 0) (aW (dF 1) cV))),cI,(lW bG0 (vv 0) (vv 1))))))))))));have lu:=X.len;have a6:=J.few;rw[p8] at lu;refine(3,.int m,4,hP,λlf V hL hT=>(a,1,0o10,lf,us,1113,hT _ _ ha,556,hL,a4,λv hv d R M r=>?_,λH3 s3=>(s3,λH4 I=>?_)))
 .have(c,hc,p,rfl,hp):=X.mem hv;have S:0<=c.2/\c.2<m:=by
   rcases List.mem_cons.mp hc with rfl|hc
   .exact J.first
   .exact (J.each c hc).2
  exact(p,c.1,c.2,m,4,M.aG (hT _ _ hp),S.1,S.2,λV s2=>r V s2)
 obtain⟨u0,W,rfl,⟨p0,rfl,a0⟩,G⟩:∃u0 W,us=u0::W/\pG K H u0 (.non,h0)/\bR (pG K H) W k:=by
  cases X with
  |cons r t=>exact(03,r,t)
 refine(3,aU ?_);refine (rd0 rfl (I.aG ha) (p0,_,0,02,I.aG a0,at0 _ _,43,aU ?_));dsimp only[oM,cF,nO,kO];have lt:=G.len;refine mX [none] iM (33,a,3,I.aG ha,λts H5 s5 U=>?_);rw[show (1:Int)=((1:Nat):Int) from rfl,kI,List.drop_one,List.tail_cons] at U;refine(ts,4,(_,U),aRe (tO λd e=>e.aG U) (mR λd e=>e.aG U) (none,4) (5) (k.map (·.1)) (by rw[d7];lia) (λi x z B F d R l M r=>?_) λL H6 s6 nL O=>?_)
 .have(c',u,p',rfl,a3):=bQ G B;rw[j5,u] at F;cases F;exact (rd0 rfl ((I.trans (s5.trans M)).aG a3) (r d (Same.refl _)))
 have g:∀n:Nat,(List.replicate n true).all id=true:=λn=>List.all_eq_true.mpr λb S=>(bCC S);dsimp only[aGw,aX7,tB,tCB,cX,List.set];refine uJ [none,some (.str Z)] (eX 1 (0) rfl rfl (0)) (3,L,4,(_,SqL.of O),aRe (aSu λd e=>SqL.of (e _ _ O)) (aD0 λd e=>SqL.of (e _ _ O)) (none,4) (by rw[d7];lia) (List.replicate k.length (.bl true)) (by rw[bBR,d7]) (λi x z B F d R l M r=>?_) λD H7 s7 _ g7=>?_)
 .rw[j5] at B;have(c',u,rfl):=Option.map_eq_some_iff.mp B;have j:=bCC (v9 F);subst j;have hk:=(J.each c' (v9 u)).1;have(v1,v2):=aEp hk;refine(33,c'.1,Z,4,(aHq hk).th,λV s2=>?_);rw[v1,v2,j4 rfl];exact r V s2
 exists D,List.replicate k.length true,4,(SqL.of (by rw[g7,bDF]));rw[g];refine(3,aU ?_);dsimp only[oM,qI,tCB,cX];have o:=s7 _ _ O;refine bBg [none,none] gR (333,L,3,SqL.of o,λa1 H8 _ s8 Y=>?_);rw[show (1:Int)=((1:Nat):Int) from rfl,kI] at Y;refine(L,a1,03,SqL.of (s8 _ _ o),SqL.of Y,aO3 (SqL.of (s8 _ _ o)) (SqL.of Y) (by rw[bBK];lia) (none,none,4) (by rw[bBK,d7];lia) (List.replicate ((k.map (·.1)).drop 1).length (.bl true)) (by rw[bBR]) (λi x y z B ey F d R M r=>?_) λD2 H9 s9 g9=>?_)
 .have j:=bCC (v9 F);subst j;rw[List.getElem?_drop] at ey;have(hi,rfl):=List.getElem?_eq_some_iff.mp B;have(hj,rfl):=List.getElem?_eq_some_iff.mp ey;exact(33,bIv ((List.pairwise_iff_getElem.mp J.up) i (1+i) hi hj (5)) (r d (Same.refl _)))
 .exists D2,List.replicate ((k.map (·.1)).drop 1).length true,4,(SqL.of (by rw[g9,bDF]));rw[g];exact q H9 (I.trans (s5.trans (s6.trans (s7.trans (s8.trans s9)))))
def rZ (hd:Hdr):Prop:=Good hd/\∀c∈hd,Nm c.1/\aDb c.2
inductive aMg (K:bGC)(vs:List V)(H:Hp)(Q:VK)(E_:XK):Prop
 |mk (v:V)(hd:Hdr)(_:vs=[v])(_:eU K H v hd)(_:rZ hd)(_:∀H',Same H H'->Q (.bl true) H')
def oG (K:bGC)(H:Hp)(D:Addr)(rs:List (List V)):Prop:=∃us,H D=some (.lst us)/\bR (dU K H) us rs
def oG.same (e:Same H H')(h:oG K H D rs):oG K H' D rs:=by have(b,c,a):=h;exact(b,e _ _ c,a.imp λ_ _ r=>r.same e)
def aM7 (T:!Txt)(B:!Ok 3 "is_column" n6 (jN (aI5 K)))(N:!Ok 4 "is_tuple_of" n8 (!kZ 3))
  (Y:!Ok 1 "are_unlike" bQU (aAv K)) (L:!Ok 1 "names_of" ["head"] (aAd K)):!Ok 5 "is_head" n6 (aMg K):=by
 refine Ok.ofW T.aWa aPt λZ H O Q M h=>?_;have(v,l,rfl,(a,m,rfl,j,g),d,q):=h;have(k,G,F):=B.held;have b:∃u,mg "is_column"=some u/\RelV (.ref k) u:=(_,G,4);exists _,(aC (aH (dI (aY N (aF (vv 0) (aF aA (aF (dG (7) T.sS) (va1 (dG (7) b)))))) (dN (aY Y (va1 (aY L (va1 (vv 0)))))))));have V:=g.len;have X:=d.1.2.1;have W:=d.1.2.2;have f:m.all (λ_=>true)=true:=List.all_eq_true.mpr λ_ _=>rfl;have y:aA7 K (aI5 K) 1 8 H (.ref a) true:=by
  have:=aA7.yes (K:=K) (R:=aI5 K) (lo:=1) (hi:=8) (H:=H) (λ_=>true) j (5) (5) (λx J=>by
   have(c,A,p,rfl,I):=g.mem J;have(r,n):=d.2 c A;have i:Th K H (.str c.2):=gO (by rcases n with e|e <;> rw[e] <;> decide +kernel);have z:=aI5.two (K:=K) (H:=H) I r.th i;have e:(nameB (.str c.1) && (isS (.str c.2) && inV (.str c.2) kinds))=true:=by rw[show nameB (.str c.1)=true from r];rcases n with e|e <;> rw[e] <;> decide +kernel
   rw[e] at z;exact z)
  rw[f] at this;exact this
 refine(30,1,0o10,k,136,F,aVk K,y,λU o=>(3,bI ?_));refine(3,.ref a,l,4,eU.same o (a,m,4,j,g),5,λD S t E=>?_);refine(D,l.map (·.1),4,SqL.of E,by rw[d7];lia,λs C=>?_);rw[j4 d.1.1];exact q s ((o.trans t).trans C)
def aSx (hd:Hdr)(r:List V):Prop:=bR (λc v=>jD c.2 v) hd r
inductive aTj (K:bGC)(vs:List V)(H:Hp)(Q:VK)(E_:XK):Prop
 |mk (vh v:V)(hd:Hdr)(r:List V)(_:vs=[vh,v])(_:eU K H vh hd)(_:hd.length<=1000)(_:dU K H v r)(_:aSx hd r)(_:∀H',Same H H'->Q (.bl true) H')
def aQc (T:!Txt)(pO:!Ok 3 "is_value_of" bXB (aSl K)):!Ok 4 "is_row" bQE (aTj K):=by
 refine Ok.ofW T.bA9 aXi λZ H Y Q U h=>?_;have(vh,v,W,r,rfl,(b,j,rfl,u,s),hl,(a,rfl,k),f,q):=h;have lc:=s.len;have X:=f.len;exists _,(aB (bL (VW.pt (dZ (cJ (cD (aJ dY (7) T.bN bH (aF (vv 1) (va1 (dJ (v:=.ty "tuple") (7) T.cM cB rfl)))))) (dO (cL pY (aJ aM (7) T.cH bM (va1 (vv 1))) (aJ aM (7) T.cH bM (va1 (vv 0))))))) (aC (aH eO)) aV) (aC (aH (aJ (gQ rfl) (7) T.pU mH (va1 (bY (N:=["value","column"]) ck dH rfl (aCf (7) T.aN6 (aF (vv 1) (va1 (vv 0)))) (λS O l M=>((iT (K:=K) (n:=2) rfl (aW (dF 0) (aW (dF 1) cV))),cI,(aY pO (aF (vv 0) (va1 (aQ (cT (K:=K)) (vv 1) aA))))))))))));refine(303,.tup k,3,aU ?_);exists 303,.inr k,303,.inr u,43;have e:(!decide (V.int (r.length:Nat)=V.int (j.length:Nat)))=false:=by rw[show r.length=j.length by lia];simp
 rw[e];refine aU ?_;dsimp only[oM,qI,tCB,cX];refine aYs r j (λ_ _=>.bl true) [none,none] gR (small (5)) (5) k u (λR r=>(33,r)) (λi x c y z l R l1 l2 o I=>?_) rfl rfl λD l o E=>?_
 .have(A,m,p,rfl,G):=bQ s z;have(x',g,t):=bQ f m;rw[y] at g;cases g;have(B,L):=aEp t;refine(3,rd1 rfl (o.aG G) (x,A.2,4,(aHq t).th,λC F=>?_));rw[B,L,j4 rfl];exact I C F
 .have J:List.zipWith (λ_ _:V=>V.bl true) r j=(List.replicate r.length true).map V.bl:=by rw[bDF];refine List.eq_replicate_iff.mpr (by rw[bBQ];lia,λb d=>?_);have(i,hi,rfl):=bBZ d;rw[List.getElem_zipWith]
  exists D,List.replicate r.length true,4,(SqL.of (by rw[E,J]));rw[show (List.replicate r.length true).all id=true from List.all_eq_true.mpr λb d=>bCC d];exact q l o
inductive aOs (K:bGC)(vs:List V)(H:Hp)(Q:VK)(E_:XK):Prop
 |mk (vh:V)(hd:Hdr)(n:Str)(_:vs=[vh,.str n])(_:eU K H vh hd)(_:hd.length<=1000)(_:Nm n)(_:n∈hd.map (·.1))(_:∀H',Same H H'->Q (.bl true) H')
def aCe (T:!Txt)(o:!Ok 2 "is_name" n6 (uB K nameB))(l:!Ok 1 "names_of" ["head"] (aAd K)):!Ok 3 "is_column_in" bQE (aOs K):=by refine Ok.ofW T.aDp aB6 λZ H r Q p h=>?_;have(f,j,n,rfl,g,k,b,c,q):=h;exists _,(aC (aH (dI (aY o (va1 (vv 1))) (dN (gY fU (vv 1) (aY l (va1 (vv 0))) (1))))));refine(33,b.th,λm a=>(38));rw[show nameB (.str n)=true from b];refine bI (33,f,j,4,g.same a,k,λD d e i=>?_);exists D,3,.inl (SqL.of i),4,lU;rw[lV,j4 c];exact q d (a.trans e)
inductive Plc where
 |copies
 |keys (n:Str)
 |spans (n:Str)(h0:Int)(cs:List (V × Int))
def aAu (K:bGC)(H:Hp)(v:V):Plc->Prop
 |.copies=>∃a,v=.ref a/\SqT K H a [.str "copies"]
 |.keys n=>∃a,v=.ref a/\SqT K H a [.str "keys",.str n]
 |.spans n h0 cs=>∃a vc,v=.ref a/\SqT K H a [.str "spans",.str n,vc]/\qL K H (pG K H) vc ((.non,h0,)::cs)
def aAu.same (e:Same H H')(h:aAu K H v pl):aAu K H' v pl:=by
 cases pl with
 |copies=>have(a,rfl,b):=h;exact(a,4,e.aG b)
 |keys n=>have(a,rfl,b):=h;exact(a,4,e.aG b)
 |spans n h0 cs=>have(a,d,rfl,b,c):=h;exact(a,d,4,e.aG b,qL.same e (λ_ _ q=>q.same e) c)
def bIp (hd:Hdr)(m:Int):Plc->Prop
 |.copies=>True
 |.keys n=>Nm n/\∃k,look hd n=some k
 |.spans n h0 cs=>Nm n/\∃k,look hd n=some k/\aDb k/\aY5 k m h0 cs
def wK (h:look hd n=some k):n∈hd.map (·.1):=by have(i,a,_):=aTh h;exact List.mem_map.mpr (_,v9 a,4)
def bFc {p q:Prop}(h:c=true)(a:p):if c=true then p else q:=by rw[if_pos h];exact a
def aUd {p q:Prop}(h:c=false)(a:q):if c=true then p else q:=by rw[if_neg (by rw[h];exact z9)];exact a
inductive bE4 (K:bGC)(Pt:Addr)(vs:List V)(H:Hp)(Q:VK)(E_:XK):Prop
 |mk (v vh:V)(m:Int)(hd:Hdr)(pl:Plc)(_:vs=[v,vh,.int m])(_:aAu K H v pl)(_:eU K H vh hd)(_:hd.length<=1000)(_:bIp hd m pl)(_:H Pt=some (.tab qC))(_:∀H',Same H H'->Q (.bl true) H')
def th8 (h:x.length<=8):Th K H (.str x):=gO h
def aFv (T:!Txt)(G:!Ok 1 "is_one_of" o7 (pM K))(N:!Ok 3 "is_column_in" bQE (aOs K))(Y:!Ok 1 "kind_in" o8 (wU K))(U:!Ok 6 "are_cuts" bXA (aT5 K Pt)):!Ok 7 "is_placing" bQQ (bE4 K Pt):=by
 refine Ok.ofW T.aLe aFq λZ H vs Q hr h=>?_;have(v,C,m,y,J,rfl,g,x,F,i,I,q):=h;exists _,(aB (bL (VW.pt (dZ (cJ (cD (aJ dY (7) T.bN bH (aF (vv 0) (va1 (dJ (v:=.ty "tuple") (7) T.cM cB rfl)))))) (dO (cL bZ (aJ aM (7) T.cH bM (va1 (vv 0))) aA)))) (aC (aH eO)) aV) (aB (bL (cD (aY G (aF (aQ aK (vv 0) aA) (va1 (aP (va1 aL)))))) (aC (aH (lW bZ (aJ aM (7) T.cH bM (va1 (vv 0))) aA))) aV) (aB (bL (cD (aY G (aF (aQ aK (vv 0) aA) (va1 (aP (va1 aL)))))) (aC (aH (dI (lW bZ (aJ aM (7) T.cH bM (va1 (vv 0))) aA) (dN (aY N (aF (vv 1) (va1 (aQ aK (vv 0) aA)))))))) aV) (aB (bL (VW.pt (dZ (cJ (cD (aY G (aF (aQ aK (vv 0) aA) (va1 (aP (va1 aL))))))) (dZ (cL pY (aJ aM (7) T.cH bM (va1 (vv 0))) aA) (dO (cJ (cD (aY N (aF (vv 1) (va1 (aQ aK (vv 0) aA)))))))))) (aC (aH eO)) aV) (aC (aH (aY U (aF (aQ aK (vv 0) aA) (aF (aY Y (aF (vv 1) (va1 (aQ aK (vv 0) aA)))) (va1 (vv 2)))))))))));cases J with
 |copies=>have(a,rfl,b):=g;refine(303,.tup b,3,aU (303,.inr b,43,aU ?_));refine (rd0 rfl b (6,λj B _ f l=>(_,j,3,th8 (0),SqT.of l,43,bFc (0) ?_)));exists 303,.inr (f.aG b),4;exact q B f
 |keys n=>have(a,rfl,b):=g;have(E,k,o):=i;refine(303,.tup b,3,aU (303,.inr b,43,aU ?_));refine (rd0 rfl b (6,λj B _ f l=>(_,j,3,th8 (0),SqT.of l,43,aUd (0) ?_)));refine (rd0 rfl (f.aG b) (6,λp O _ r s=>(_,p,3,th8 (0),SqT.of s,43,bFc (0) ?_)));have d:=f.trans r;refine(303,.inr (d.aG b),43,bI ?_);exact(3,rd1 rfl (d.aG b) (C,y,n,4,x.same d,F,E,wK o,λA t=>q A (d.trans t)))
 |spans n h0 cs=>have(a,V,rfl,b,M):=g;have(E,k,o,D,u):=i;refine(303,.tup b,3,aU (303,.inr b,43,aU ?_));refine (rd0 rfl b (6,λj B _ f l=>(_,j,3,th8 (0),SqT.of l,43,aUd (0) ?_)));refine (rd0 rfl (f.aG b) (6,λp O _ r s=>(_,p,3,th8 (0),SqT.of s,43,aUd (0) ?_)));have d:=f.trans r;refine (rd0 rfl (d.aG b) (6,λW X _ S R=>(_,W,3,th8 (0),SqT.of R,43,aUd (0) ?_)));have e:=d.trans S;refine(303,.inr (e.aG b),43,aU ?_);refine(3,rd1 rfl (e.aG b) (C,y,n,4,x.same e,F,E,wK o,λH4 L=>(3,aU ?_)));have c:=e.trans L;refine (rd2 rfl (c.aG b) (3,rd1 rfl (c.aG b) (C,n,y,k,4,x.same c,o,38)));exact(V,k,m,h0,cs,4,qL.same c (λ_ _ z=>z.same c) M,D,u,c _ _ I,λA t=>q A (c.trans t))
inductive aN7 (K:bGC)(vs:List V)(H:Hp)(Q:VK)(E_:XK):Prop
 |mk (L:Addr)(vh:V)(hd:Hdr)(rows:List (List V))(_:vs=[.ref L,vh])(_:eU K H vh hd)(_:hd.length<=1000)(_:oG K H L rows)(_:rows.length<=1000)(_:(∀r∈rows,aSx hd r))(_:∀H',Same H H'->Q (.bl true) H')
def aN9 (T:!Txt)(I:!Ok 4 "is_row" bQE (aTj K)):!Ok 5 "are_rows" bXM (aN7 K):=by
 refine Ok.ofW T.aRl aL4 λZ H V Q U h=>?_;have(L,o,C,m,rfl,B,E,(d,c,n),X,e,q):=h;exists _,(aC (aH (dI (aJ aAf (7) T.bN bH (aF (vv 0) (va1 (dJ (v:=.ty "list") (7) T.zO uM rfl)))) (dN (aJ (gQ rfl) (7) T.pU mH (va1 (bY (N:=["row","head"]) ck (dC (aD xE)) rfl (iD (vv 0)) (λS a g O=>((dF 0),cI,(aY I (aF (vv 1) (va1 (vv 0)))))))))))));have W:=n.len;refine(3,L,d,4,SqL.of c,3,bI ?_);dsimp only[qI,tCB,cX];refine uJ [none,some o] (eX 1 (0) rfl rfl (0)) (3,L,4,(_,SqL.of c),aRe (aSu λg a=>SqL.of (a _ _ c)) (aD0 λg a=>SqL.of (a _ _ c)) (none,4) (5) (List.replicate d.length (.bl true)) (by rw[bBR]) (λi x z t M g R l s r=>?_) λD u A _ F=>?_)
 .have j:=bCC (v9 M);subst j;have(p,f,J):=bQ n t;exact(33,o,x,C,p,4,B.same s,E,J.same s,e p (v9 f),λG y=>r G y)
 .exists D,List.replicate d.length true,4,(SqL.of (by rw[F,bDF]));rw[show (List.replicate d.length true).all id=true from List.all_eq_true.mpr λb k=>bCC k];exact q u A
structure Tb where
 hd:Hdr
 pl:Plc
 rows:List (List V)
def aAp (K:bGC)(H:Hp)(v:V)(vh vp:V)(L:Addr)(t:Tb):Prop:=∃a,v=.ref a/\SqT K H a [vh,vp,.ref L]/\eU K H vh t.hd/\aAu K H vp t.pl/\oG K H L t.rows
structure xW (m:Int)(t:Tb):Prop where
 hd:rZ t.hd
 pl:bIp t.hd m t.pl
 few:t.rows.length<=60
 rows:∀r∈t.rows,aSx t.hd r
inductive bFx (K:bGC)(Pt:Addr)(vs:List V)(H:Hp)(Q:VK)(E_:XK):Prop
 |mk (v vh vp:V)(L:Addr)(m:Int)(t:Tb)(_:vs=[v,.int m])(_:aAp K H v vh vp L t)(_:xW m t)(_:H Pt=some (.tab qC))(_:∀H',Same H H'->Q (.bl true) H')
def aL9 (T:!Txt)(x:!Ok 5 "is_head" n6 (aMg K))(j:!Ok 7 "is_placing" bQQ (bE4 K Pt))(u:!Ok 5 "are_rows" bXM (aN7 K)):!Ok 8 "is_table" v5 (bFx K Pt):=by refine Ok.ofW T.aRd aNn λZ H C Q A h=>?_;have(v,f,n,L,m,t,rfl,(a,rfl,c,g,i,l),e,r,q):=h;have B:=e.hd.1.2.2;have s:=e.few;exists _,(aB (bL (VW.pt (dZ (cJ (cD (aJ dY (7) T.bN bH (aF (vv 0) (va1 (dJ (v:=.ty "tuple") (7) T.cM cB rfl)))))) (dZ (cL pY (aJ aM (7) T.cH bM (va1 (vv 0))) aA) (dO (cJ (cD (aY x (va1 (aQ aK (vv 0) aA))))))))) (aC (aH eO)) aV) (aC (aH (dI (aY j (aF (aQ aK (vv 0) aA) (aF (aQ aK (vv 0) aA) (va1 (vv 1))))) (dN (aY u (aF (aQ aK (vv 0) aA) (va1 (aQ aK (vv 0) aA)))))))));refine(303,.tup c,3,aU (303,.inr c,43,aU ?_));refine (rd0 rfl c (f,t.hd,4,g,e.hd,λy d=>(3,aU ?_)));refine (rd1 rfl (d.aG c) (rd0 rfl (d.aG c) (3,n,f,m,t.hd,t.pl,4,i.same d,g.same d,5,e.pl,d _ _ r,λz o=>(3,bI ?_))));have b:=d.trans o;exact (rd2 rfl (b.aG c) (rd0 rfl (b.aG c) (L,f,t.hd,t.rows,4,g.same b,5,l.same b,5,e.rows,λk p=>q k (b.trans p))))
def bFr (k:Str):Bool:=decide (k = "number")
def knds (hd:Hdr):List Bool:=hd.map λc=>bFr c.2
def aOf (h:!(X.K=K)):cZ X (.builtin "sorted") (bAy K):=by subst h;exact aP3
def none_of (e:Same H H')(h:H' D=none):H D=none:=by
 cases g:H D with
 |none=>rfl
 |some o=>rw[e _ _ g] at h;cases h
def But (d:Addr)(H H':Hp):Prop:=∀b o,b≠d->H b=some o->H' b=some o
section
variable {K:bGC}{H H':Hp}{d:Addr}{kvs:List (Key × V)}
def iH (H:Hp)(d:Addr):Prop:=(∀xs,H d≠some (.tup xs))/\(∀ob xs,H d≠some (.frz ob (.tup xs)))/\∀xs,H d≠some (.lst xs)
def iH.dK (h:H d=some (.dK kvs)):iH H d:=(λ_ z=>(by rw[h] at z;cases z),λ_ _ z=>(by rw[h] at z;cases z),λ_ z=>(by rw[h] at z;cases z))
def iH.fz (h:H d=some (.frz o (.dK kvs))):iH H d:=(λ_ z=>(by rw[h] at z;cases z),λ_ _ z=>(by rw[h] at z;cases z),λ_ z=>(by rw[h] at z;cases z))
def But.aG (b:But d H H')(c:iH H d)(h:SqT K H a xs):SqT K H' a xs:=by
 rcases h with (h|⟨o,h⟩)|h
 .exact .inl (.inl (b _ _ (λz=>c.1 _ (z ▸ h)) h))
 .exact .inl (.inr (o,b _ _ (λz=>c.2.1 _ _ (z ▸ h)) h))
 .exact .inr h
def But.lst (b:But d H H')(c:iH H d)(h:H a=some (.lst xs)):H' a=some (.lst xs):=b _ _ (λz=>c.2.2 _ (z ▸ h)) h
def But.hdr (b:But d H H')(i:iH H d)(h:eU K H v hr):eU K H' v hr:=by have(a,g,rfl,c,f):=h;exact(a,g,4,b.aG i c,f.imp (by rintro _ _ ⟨p,e,hp⟩;exact(p,e,b.aG i hp)))
def But.pl {v:V}{m:Plc}(b:But d H H')(g:iH H d)(h:aAu K H v m):aAu K H' v m:=by
 cases m with
 |copies=>have(a,rfl,f):=h;exact(a,4,b.aG g f)
 |keys n=>have(a,rfl,f):=h;exact(a,4,b.aG g f)
 |spans n h0 cs=>have(a,l,rfl,f,(c,j,rfl,i,k)):=h;exact(a,3,b.aG g f,c,j,4,b.aG g i,k.imp (by rintro _ _ ⟨p,e,hp⟩;exact(p,e,b.aG g hp)))
def But.rows (b:But d H H')(f:iH H d)(h:oG K H L rs):oG K H' L rs:=by have(c,g,a):=h;exact(c,b.lst f g,a.imp (by rintro _ _ ⟨p,e,hp⟩;exact(p,e,b.aG f hp)))
def But.tb (b:But d H H')(c:iH H d)(h:aAp K H v vh vp L t):aAp K H' v vh vp L t:=by have(a,rfl,f,i,g,e):=h;exact(a,4,b.aG c f,b.hdr c i,b.pl c g,b.rows c e)
def But.upd:But d H (L2.upd H d u):=λb o a h=>by rw[bC a];exact h
def But.same (b:But d H H')(s:Same H' H2):But d H H2:=λc o a h=>s _ _ (b c o a h)
def But.thaw (b:But d H H2)(a:H d=some (.dK kvs)):Same H (L2.upd H2 d (.dK kvs)):=λc o h=>by
 by_cases e:c=d
 .rw[e,aO,<-a,<-e];exact h
 .rw[bC e];exact b c o e h
end
structure En where
 n:Str
 v:V
 vh:V
 vp:V
 L:Addr
 t:Tb
def enK (es:List En):List (Key × V):=es.map λe=>(Sum.inr e.n,e.v,)
structure lZ (K:bGC)(H:Hp)(d:Addr)(es:List En):Prop where
 at_:H d=some (.dK (enK es))
 nd:(es.map (·.n)).Nodup
 few:es.length<=60
 nm:∀e∈es,Nm e.n
 tb:∀e∈es,aAp K H e.v e.vh e.vp e.L e.t
def aAp.same (s:Same H H')(h:aAp K H v vh vp L t):aAp K H' v vh vp L t:=by have(a,rfl,c,e,d,b):=h;exact(a,4,s.aG c,e.same s,d.same s,b.same s)
def lZ.same (s:Same H H')(h:lZ K H d es):lZ K H' d es:=(s _ _ h.at_,h.nd,h.few,h.nm,λe a=>(h.tb e a).same s)
def aQj {es:List En}{i:Nat}{kv:Key × V}(h:(enK es)[i]?=some kv):∃e,es[i]?=some e/\kv=(Sum.inr e.n,e.v,):=by unfold enK at h;rw[j5] at h;have(e,a,rfl):=Option.map_eq_some_iff.mp h;exact(e,a,4)
def aJh:∀kv∈enK es,∃n,kv.1=Sum.inr n:=λkv h=>by unfold enK at h;have(e,_,rfl):=List.mem_map.mp h;exact(3)
def uP:(enK es).length=es.length:=d7 _
inductive aS4 (K:bGC)(Pt:Addr)(vs:List V)(H:Hp)(Q:VK)(E_:XK):Prop
 |mk (d:Addr)(m:Int)(es:List En)(_:vs=[.int m,.ref d])(_:1<=m)(_:m<=6)(_:lZ K H d es)(_:(∀e∈es,xW m e.t))(_:H Pt=some (.tab qC))(_:∀H',Same H H'->Q .non H')
def aLh (T:!Txt){Y:Addr}(fX:!Ok 1 "is_whole" n6 (oJ K))(cN:!Ok 2 "is_name" n6 (uB K nameB))(O:!Ok 8 "is_table" v5 (bFx K Y)):!Ok 9 "need_town" bQB (aS4 K Y):=by
 refine Ok.ofW T.aMo xG λZ H W Q V h=>?_;have(d,m,e,rfl,J,N,b,l,k,q):=h;have R:=xG.nd;exists _,(aB (bL (VW.pt (dZ (cJ (cD (aY fX (va1 (vv 0))))) (dZ (cJ (uE oV oV aA (vv 0) (dG (7) T.aGv))) (dO (cJ (cD (aJ aLz (7) T.bN bH (aF (vv 1) (va1 (dJ (v:=.ty "dict") (7) T.aAa uO rfl)))))))))) (aC fB) aV) (aC (bD5 (nH PassesOwn.never rfl (aAe (vv 1)) (iY rfl (aW (cP 2) (aW (cP 3) cV))) (aC (bL (VW.pt (dZ (cJ (cD (aY cN (va1 (vv 2))))) (dO (cJ (cD (aY O (aF (vv 3) (va1 (vv 0))))))))) (aC fB) aV))))));refine(33,.inr (.inl (m,4)),3,aU ?_);exists 3123;rw[j4 J];refine bI (1238);rw[j4 N];refine aU (3,d,3,b.at_,3,aU ?_);refine(d,enK e,b.at_,λG=>(3,d,3,b.at_,aJh,G,λo=>?_));have r:Y≠d:=λz=>by rw[z,b.at_] at k;cases k
 have j:But d H (L2.upd H d (.frz o (.dK (enK e)))):=But.upd;have s:L2.upd H d (.frz o (.dK (enK e))) d=some (.frz o (.dK (enK e))):=aO;generalize L2.upd H d (.frz o (.dK (enK e)))=B at j s ⊢;refine aPo (λi σ c=>Same B c/\∃x u,σ=[some (.int m),some (.ref d),x,u]) (Same.refl B,03) (λi σ c _ p=>p.1 _ _ s) (λi X y σ c I p F=>?_) fun σ c p=>?_
 .have(f,x,u,rfl):=p;have(a,S,rfl):=aQj I;have g:=v9 S;have D:Same c (L2.upd c y (.tup [kV (Sum.inr a.n),a.v])):=bJ F _;have E:But d H (L2.upd c y (.tup [kV (Sum.inr a.n),a.v])):=(j.same f).same D;exists y,3,SqT.of aO,40312;refine(33,(b.nm a g).th,λH2 A=>(38));rw[show nameB (kV (Sum.inr a.n,a.v,).fst)=true from b.nm a g];refine aU ?_;have C:=E.same A;refine(33,a.v,a.vh,a.vp,a.L,m,a.t,4,C.tb (iH.dK b.at_) (b.tb a g),l a g,C _ _ r k,λU M=>(3,aU ?_));exact(f.trans (D.trans (A.trans M)),03)
 .have(f,x,u,rfl):=p;exact((o,f _ _ s),q _ ((j.same f).thaw b.at_))
def aEe (e:En)(v:V)(L:Addr):En:={ e with v:=v,L:=L,t:={ e.t with rows:=srt e.t.rows } }
inductive aIm (K:bGC)(Pt:Addr)(vs:List V)(H:Hp)(Q:VK)(E_:XK):Prop
 |mk (d:Addr) (m:Int) (es:List En) (_:vs=[.int m,.ref d]) (_:1<=m) (_:m<=6) (_:lZ K H d es) (_:(∀e∈es,xW m e.t)) (_:H Pt=some (.tab qC)) (_:∀d' H' es',H d'=none->Same H H'->lZ K H' d' es'->bR (λe e'=>∃v L,e'=aEe e v L/\H L=none) es es'->Q (.ref d') H')
def bJm (h:jD kd v):KdV (bFr kd) v:=by
 cases h with
 |num=>exact(3)
 |wrd _ _=>exact(3)
def bI3 (h:aSx hd r):KdR (knds hd) r:=by
 unfold aSx at h;unfold KdR knds
 induction h with
 |nil=>exact .nil
 |cons a _ ih=>exact .cons (bJm a) ih
def bD9 (h:Good hd):knds hd≠[]:=λz=>by have e:=congrArg List.length z;unfold knds at e;rw[d7] at e;have:=h.2.1;rw[e] at this;exact absurd this (6)
def aXs {α β:Type}{R:α->β->Prop}{as:List α}{bs:List β}(h:bR R as bs):Al2 R as bs:=by
 induction h with
 |nil=>exact .nil
 |cons r _ ih=>exact .cons r ih
def bA3 {α β:Type}{R:α->β->Prop}{as:List α}{bs:List β}(h:Al2 R as bs):bR R as bs:=by
 induction h with
 |nil=>exact .nil
 |cons r _ ih=>exact .cons r ih
def PlR (K:bGC)(H0:Hp)(es:List En)(D:Addr)(i:Nat)(H:Hp)(y:V):Prop:=∃e v L tp,es[i]?=some e/\y=.ref tp/\SqT K H tp [.str e.n,v]/\aAp K H v e.vh e.vp L { e.t with rows:=srt e.t.rows }/\L≠D/\H0 L=none
def aAp.jK (f:H D=some (.lst ys))(o:L≠D)(h:aAp K H v vh vp L t):aAp K (L2.upd H D (.lst zs)) v vh vp L t:=by
 have(a,rfl,m,(b,k,rfl,u,l),i,(s,q,w)):=h;refine(a,4,SqT.jK f m,(b,k,4,SqT.jK f u,l.imp (by rintro _ _ ⟨p,e,hp⟩;exact(p,e,SqT.jK f hp))),8,(s,by rw[bC o];exact q,w.imp (by rintro _ _ ⟨p,e,hp⟩;exact(p,e,SqT.jK f hp))));cases g:t.pl with
 |copies=>rw[g] at i;have(j,rfl,d):=i;exact(j,4,SqT.jK f d)
 |keys n=>rw[g] at i;have(j,rfl,d):=i;exact(j,4,SqT.jK f d)
 |spans n h0 cs=>rw[g] at i;have(j,x,rfl,d,(c,k,rfl,r,l)):=i;exact(j,3,SqT.jK f d,c,k,4,SqT.jK f r,l.imp (by rintro _ _ ⟨p,e,hp⟩;exact(p,e,SqT.jK f hp)))
def bCu:∀{ys:List V},ys.length=es.length->(∀i y,ys[i]?=some y->PlR K H0 es D i H y) ->
  ∃es',bR (λe e'=>∃v L,e'=aEe e v L/\H0 L=none) es es'/\bR (λy e'=>∃tp,y=.ref tp/\SqT K H tp [.str e'.n,e'.v]) ys es'/\∀e'∈es',aAp K H e'.v e'.vh e'.vp e'.L e'.t:=by
 induction es with
 |nil=>intro ys a _;cases bCV a;exact([],.nil,.nil,λe h=>by cases h)
 |cons en es ih=>
  intro ys a h;cases ys with
  |nil=>cases a
  |cons y ys=>
   have(es',l,d,c):=ih (Nat.succ.inj a) λi y g=>by have(e,v,L,tp,b,r):=h (i+1) y (by simpa using g);exact(e,v,L,tp,by simpa using b,r)
   have(e,v,L,tp,b,rfl,f,k,_,j):=h 0 y rfl;cases b;refine(aEe en v L::es',.cons (v,L,4,j) l,.cons (tp,4,f) d,λe' h'=>?_);rcases List.mem_cons.mp h' with rfl|h'
   .exact k
   .exact c e' h'
def bIq (h:bR (λy (e':En)=>∃tp,y=.ref tp/\SqT K H tp [.str e'.n,e'.v]) ys es'):uI K H ys (enK es'):=by
 unfold enK
 induction h with
 |nil=>exact .nil
 |cons r _ ih=>exact .cons r ih
def aMt {H0:Hp}{es es':List En}(h:bR (λe e'=>∃v L,e'=aEe e v L/\H0 L=none) es es'):es'.map (·.n)=es.map (·.n):=by
 induction h with
 |nil=>rfl
 |cons r _ ih=>have(v,L,rfl,_):=r;rw[bAE,bAE,ih];rfl
def aAh (T:!Txt){Pt:Addr}(a9:!Ok 9 "need_town" bQB (aS4 K Pt)):!Ok 10 "placed_tables" bQB (aIm K Pt):=by
 refine Ok.ofW T.aBl zP λZ H vs Q hr h=>?_;have(d,m,c,rfl,m1,m6,A,I,hP,q):=h;exists _,(aB (eV (aY a9 (aF (vv 0) (va1 (vv 1))))) (aC (aH (bF (aEm rfl) (7) T.aAa uO (va1 (aTi (bY (N:=["name","table"]) ck dH rfl (aAe (vv 1)) (λcl s' k fp=>((iT (K:=K) (n:=2) rfl (aW (dF 0) (aW (dF 1) cV))),cI,(aP (aF (vv 0) (va1 (aP (aF (aQ (cT (K:=K)) (vv 1) aA) (aF (aQ (cT (K:=K)) (vv 1) aA) (va1 (aJ (aOf (K:=K)) (7) T.aC4 zL (va1 (aQ (cT (K:=K)) (vv 1) aA)))))))))))))))))));refine(33,d,m,c,4,m1,m6,A,I,hP,λu U=>?_);have g:=A.same U;dsimp only[qI,tCB,cX];refine(d,enK c,g.at_,λnf=>aNg [none,none] gR (3,d,3,g.at_,aJh,nf,λo=>?_));have b0:But d u (L2.upd u d (.frz o (.dK (enK c)))):=But.upd;have g0:L2.upd u d (.frz o (.dK (enK c))) d=some (.frz o (.dK (enK c))):=aO;have n0:∀b,L2.upd u d (.frz o (.dK (enK c))) b=none->u b=none:=λb h=>by
  by_cases e:b=d
  .rw[e,aO] at h;cases h
  .rw[bC e] at h;exact h
 generalize L2.upd u d (.frz o (.dK (enK c)))=B at b0 g0 n0 ⊢;refine aBg g0 (none,none,4) (by rw[uP];have:=A.few;lia) (PlR K H c) ?_ ?_ (λi kv ek k R D X G hD E r=>?_) λD k X G hD E ly hy=>?_
 .rintro D i H2 H3 y O ⟨e,v,L,tp,C,rfl,ht,hb,hne⟩;exact(e,v,L,tp,C,4,O.aG ht,hb.same O,hne)
 .rintro D i H2 X zs y E ⟨e,v,L,tp,C,rfl,ht,hb,hne,h0⟩;exact(e,v,L,tp,C,4,SqT.jK E ht,hb.jK E hne,hne,h0)
 .have(F,C,rfl):=aQj ek;have hm:=v9 C;have j:=I F hm;have(a,ev,ha,h1,h2,(us,h3,h4)):=(b0.same G).tb (iH.dK g.at_) (g.tb F hm);have lu:=h4.len;have a8:=j.few;refine(33,a,_,0,_,ev,4,ha,at0 _ _,3,a,_,1,_,ev,4,ha,at1 _ _ _,3,a,_,2,_,ev,4,ha,at2 _ _ _ _,F.L,us,F.t.rows,knds F.t.hd,4,SqL.of h3,aXs h4,5,bD9 j.hd.1,λr a6=>bI3 (j.rows r a6),λL' H2 a4 M O g2 h5=>?_);refine(sz3,λt1 H3 _ s3 g3=>(sz2,λt2 H4 _ s4 g4=>r _ H4 (O.trans (s3.trans s4)) ?_));have l:=O.trans (s3.trans s4);refine(F,.ref t1,L',t2,C,4,SqT.of g4,(t1,4,s4.aG (SqT.of g3),h1.same l,h2.same l,(a4,(s3.trans s4) _ _ g2,(bA3 h5).imp λ_ _ z=>z.same l)),λz=>?_,none_of U (n0 _ (none_of G M)));rw[z,E] at M;cases M
 .rw[uP] at ly;have(f,W,a2,a3):=bCu ly hy;have bD:=b0.same G;exists (o,G _ _ g0);have nz:iH k d:=iH.fz (G _ _ g0);have Y:But d k (L2.upd k d (.dK (enK c))):=But.upd;have x:Same u (L2.upd k d (.dK (enK c))):=bD.thaw g.at_;have V:=Y.lst nz E;have S:bR (λy (s:En)=>∃tp,y=.ref tp/\SqT K (L2.upd k d (.dK (enK c))) tp [.str s.n,s.v]) X f:=a2.imp (by rintro y s ⟨tp,ey,ht⟩;exact(tp,ey,Y.aG nz ht));have a7:H D=none:=none_of U (n0 _ hD);generalize L2.upd k d (.dK (enK c))=H5 at Y x V S;have le:=a2.len;have la:=W.len;have fw:=A.few;refine(D,X,enK f,4,V,bIq S,5,λp H6 M s6 g6=>?_);have J:(f.map (·.n)).Nodup:=by rw[aMt W];exact A.nd
  have a5:((enK f).map (·.1)).Nodup:=by unfold enK;rw[bBN];exact List.pairwise_map.mpr ((List.pairwise_map.mp J).imp λ{a b} a0 z=>a0 (Sum.inr.inj z))
  rw[wC _ [] (by rw[bDH];exact a5),bDH] at g6;refine q p H6 f (none_of U (none_of x M)) (U.trans (x.trans s6)) (g6,J,5,λs h'=>?_,λs h'=>(Y.tb nz (a3 s h')).same s6) W;have:s.n∈c.map (·.n):=by rw[<-aMt W];exact bCK h'
  have(e0,h0,e1):=List.mem_map.mp this;rw[<-e1];exact A.nm e0 h0
inductive aX1 (K:bGC)(vs:List V)(H:Hp)(Q:VK)(E_:XK):Prop
 |mk (d:Addr)(es:List En)(e:En)(_:vs=[.ref d,.str e.n])(_:lZ K H d es)(_:e∈es)(_:∀H',Same H H'->Q e.v H')
def aT2:∀{es:List En} {e:En},(es.map (·.n)).Nodup->e∈es->nP (enK es) (Sum.inr e.n)=some e.v:=by
 intro b
 induction b with
 |nil=>rintro e nd h;cases h
 |cons a es ih=>
  rintro e nd h;rw[bAE,bDX] at nd;rcases List.mem_cons.mp h with rfl|h
  .exact mY rfl
  .have:a.n≠e.n:=λz=>nd.1 (z ▸ bCK h);show nP ((Sum.inr a.n,a.v,)::enK es) (Sum.inr e.n)=_;rw[mW (λz=>this (Sum.inr.inj z))];exact ih nd.2 h
def aOk (T:!Txt)(k:!Ok 2 "is_name" n6 (uB K nameB)):!Ok 3 "table_in" bXI (aX1 K):=by refine Ok.ofW T.aRh aNw λZ H l Q j h=>?_;have(d,m,e,rfl,a,c,q):=h;have f:=xP j;exists _,(aB (bL (VW.pt (dZ (cJ (cD (aY k (va1 (vv 1))))) (dO (zV f (vv 1) (vv 0))))) (aC fB) aV) (aC (aH (xY f (vv 0) (vv 1) (λ_ _=>rfl)))));refine(33,(a.nm e c).th,λi b=>(38));rw[show nameB (.str e.n)=true from a.nm e c];refine aU ?_;have g:=aT2 a.nd c;exists 33,d,3,.inl (_,Sum.inr e.n,.inl (b _ _ a.at_),44),3;rw[g];refine aU ?_;exact(33,d,e.v,4,.inl (_,Sum.inr e.n,.inl (b _ _ a.at_),4,g.symm),q i b)
def oO (K:bGC)(H:Hp)(C x:Addr)(m:Int)(d:Addr)(es:List En):Prop:=(∃dx,H x=some (.ins C dx [("placed",.ref d,),("house_count",.int m,)]))/\lZ K H d es/\∀e∈es,xW m e.t
def oO.same (s:Same H H')(h:oO K H C x m d es):oO K H' C x m d es:=by have((a,e),c,b):=h;exact((a,s _ _ e),c.same s,b)
def iH.ins (h:H x=some (.ins C dx fs)):iH H x:=(λ_ z=>(by rw[h] at z;cases z),λ_ _ z=>(by rw[h] at z;cases z),λ_ z=>(by rw[h] at z;cases z))
def aU2 {α β:Type}{R:α->β->Prop}{as:List α}{bs:List β}(h:bR R as bs){b:β}(hb:b∈bs):∃a∈as,R a b:=by
 induction h with
 |nil=>cases hb
 |cons r _ ih=>
  rcases List.mem_cons.mp hb with rfl|hb
  .exact(_,v7,r)
  .have(a,c,d):=ih hb;exact(a,j8 _ c,d)
def xW.sorted (h:xW m t):xW m { t with rows:=srt t.rows }:=(h.hd,h.pl,by rw[bDw];exact h.few,λr a=>h.rows r (bDd a))
inductive aUt (K:bGC)(C Pt:Addr)(vs:List V)(H:Hp)(Q:VK)(E_:XK):Prop
 |mk (H0:Hp) (x dx d:Addr) (m:Int) (es:List En) (_:vs=[.ref x,.int m,.ref d]) (_:H x=some (.ins C dx [])) (_:H0 x=none) (_:Same H0 H) (_:1<=m) (_:m<=6) (_:lZ K H0 d es) (_:(∀e∈es,xW m e.t)) (_:H0 Pt=some (.tab qC)) (_:∀d' H' es',H0 d'=none->Same H0 H'->oO K H' C x m d' es'->bR (λe e'=>∃v L,e'=aEe e v L/\H0 L=none) es es'->Q .non H')
def aZy (T:!Txt)(c:Cls K C)(D:aFy K C "__init__" "Town.__init__" nM bQN)(n1:lG K C "placed")(n2:lG K C "house_count")(R:!Ok 10 "placed_tables" bQB (aIm K Pt)):!OkM C 11 "__init__" bQN (aUt K C Pt):=by
 refine OkM.ofV c D zR (0) (λf a0 A u s H vs Q E hr h=>?_)
 have(H0,x,i,d,m,O,rfl,J,X,k,U,Y,V,B,N,q):=h;exists _,(aB (aY0 (K:=K) (vv 0) (aY R (aF (vv 1) (va1 (vv 2))))) (aC (aY0 (K:=K) (vv 0) (vv 1))));refine(33,d,m,O,4,U,Y,V.same k,B,k _ _ N,λj r n g G a F=>?_);have l:=G _ _ J;exists 3,x,C,i,[],4,l,c,n1,6;exists 33,x,C,i,3,aO,c,n2,(by show 1<1000;decide);have S:=iH.ins l;have y:j≠x:=λz=>by rw[z,J] at g;cases g
 have t:But x r (L2.upd (L2.upd r x (.ins C i [("placed",.ref j,)])) x (.ins C i [("placed",.ref j,),("house_count",.int m,)])):=λb o I h=>by rw[bC I,bC I];exact h
 have M:Same H0 (L2.upd (L2.upd r x (.ins C i [("placed",.ref j,)])) x (.ins C i [("placed",.ref j,),("house_count",.int m,)])):=λb o h=>t _ _ (λz=>by rw[z,X] at h;cases h) (G _ _ (k _ _ h));refine q j _ n (none_of k g) M ((i,aO),(t _ _ y a.at_,a.nd,a.few,a.nm,λe p=>t.tb S (a.tb e p)),λe p=>?_) (F.imp (by rintro e e' ⟨v,L,e1,e2⟩;exact(v,L,e1,none_of k e2)));have(W,Z,v,L,rfl,_):=aU2 F p;exact (B W Z).sorted
inductive aIn (K:bGC)(C:Addr)(vs:List V)(H:Hp)(Q:VK)(E_:XK):Prop
 |mk (x d:Addr)(m:Int)(es:List En)(_:vs=[.ref x])(_:oO K H C x m d es)(_:Q (.int m) H)
def aPq (T:!Txt)(c:Cls K C)(D:aFy K C "houses" "Town.houses" pN bXH)(i:lG K C "house_count"):!OkM C 1 "houses" bXH (aIn K C):=by
 refine OkM.ofV c D aEy (0) (λf b A a s H n Q E k h=>?_)
 have(x,d,m,o,rfl,((g,e),j,l),q):=h;exists _,(aC (aH (aR5 (K:=K) (vv 0))));exact(3,x,C,g,03,e,c,i,4,q)
inductive aDo (K:bGC)(C:Addr)(vs:List V)(H:Hp)(Q:VK)(E_:XK):Prop
 |mk (x d:Addr)(m:Int)(es:List En)(e:En)(_:vs=[.ref x,.str e.n])(_:oO K H C x m d es)(_:e∈es)(_:∀H',Same H H'->Q e.vp H')
def aMv (T:!Txt)(c:Cls K C)(D:aFy K C "placing" "Town.placing" oN bXO)(z:lG K C "placed")(p:!Ok 3 "table_in" bXI (aX1 K)):!OkM C 4 "placing" bXO (aDo K C):=by
 refine OkM.ofV c D aBx (0) (λf n A b s H I Q E y h=>?_)
 have(x,d,m,r,e,rfl,((u,t),g,F),j,q):=h;exists _,(aC (aH (aQ (cT (K:=K)) (aY p (aF (aR5 (K:=K) (vv 0)) (va1 (vv 1)))) aA)));have(a,o,k,G,v,B):=g.tb e j;exact(3,x,C,u,03,t,c,z,43,d,r,e,4,g,j,λl i=>(a,_,1,_,o,4,i.aG k,at1 _ _ _,q l i))
def aZf {K:bGC}{H:Hp}{W:En->V->Prop}:∀{es:List En} {ys:List V},ys.length=es.length->(∀(i:Nat) (y:V),ys[i]?=some y->∃e v tp,es[i]?=some e/\y=.ref tp/\SqT K H tp [.str e.n,v]/\W e v) ->
  ∃vs,bR W es vs/\uI K H ys ((es.zip vs).map λe=>(Sum.inr e.1.n,e.2,)):=by
 intro es
 induction es with
 |nil=>intro ys a _;cases ys with
  |nil=>exact([],.nil,.nil)
  |cons=>cases a
 |cons en es ih=>intro ys a h;cases ys with
  |nil=>cases a
  |cons y ys=>
   have(vs,j,c):=ih (ys:=ys) (Nat.succ.inj a) λi y g=>by have(e,v,tp,b,r):=h (i+1) y (by simpa using g);exact(e,v,tp,by simpa using b,r)
   have(e,v,tp,b,rfl,f,d):=h 0 y rfl;cases b;exact(v::vs,.cons d j,.cons (tp,4,f) c)
def bAh {W:En->V->Prop}{es:List En}{vs:List V}(h:bR W es vs):((es.zip vs).map λe=>((Sum.inr e.1.n:Key),e.2,)).map (·.1)=es.map λe=>Sum.inr e.n:=by
 induction h with
 |nil=>rfl
 |cons _ _ ih=>exact congrArg _ ih
def bF6 {es:List En}(h:(es.map (·.n)).Nodup):(es.map λe=>(Sum.inr e.n:Key)).Nodup:=
 List.pairwise_map.mpr ((List.pairwise_map.mp h).imp λ{a b} c z=>c (Sum.inr.inj z))
def aVs (h:bR (λ(e:En) v=>v=e.vh) es vs):((es.zip vs).map λe=>((Sum.inr e.1.n:Key),e.2,))=es.map λe=>(Sum.inr e.n,e.vh,):=by
 induction h with
 |nil=>rfl
 |cons r _ ih=>rw[bDV,bAE,bAE,ih,r]
def uI.but (h:uI K H ys kvs)(b:But d H H')(n:iH H d):uI K H' ys kvs:=by
 induction h with
 |nil=>exact .nil
 |cons r _ ih=>have(c,e,a):=r;exact .cons (c,e,b.aG n a) ih
inductive aFh (K:bGC)(C:Addr)(vs:List V)(H:Hp)(Q:VK)(E_:XK):Prop
 |mk (x d:Addr) (m:Int) (es:List En) (_:vs=[.ref x]) (_:oO K H C x m d es) (_:∀p H',H p=none->Same H H'->H' p=some (.dK (es.map λe=>(Sum.inr e.n,e.vh,)))->Q (.ref p) H')
def aXc (T:!Txt){C:Addr}(c:Cls K C)(D:aFy K C "heads" "Town.heads" qW bXH)(n1:lG K C "placed"):!OkM C 2 "heads" bXH (aFh K C):=by
 refine OkM.ofV c D aG2 (0) (λf a0 A U s H S Q E hr h=>?_)
 have(x,d,m,g,rfl,((dx,hx),k,ok),q):=h;exists _,(aC (aH (bF (aEm rfl) (7) T.aAa uO (va1 (aTi (bY (N:=["name","table"]) ck dH rfl (aAe (aR5 (K:=K) (vv 0))) (λcl s' j fp=>((iT (K:=K) (n:=2) rfl (aW (dF 0) (aW (dF 1) cV))),cI,(aP (aF (vv 0) (va1 (aQ (cT (K:=K)) (vv 1) aA))))))))))));dsimp only[qI,tCB,cX];refine(d,enK g,k.at_,λnf=>aNg [none,none] gR (3,x,C,dx,03,hx,c,n1,4,d,3,k.at_,aJh,nf,λo=>?_));have L:But d H (L2.upd H d (.frz o (.dK (enK g)))):=But.upd;have J:L2.upd H d (.frz o (.dK (enK g))) d=some (.frz o (.dK (enK g))):=aO;have n0:∀b,L2.upd H d (.frz o (.dK (enK g))) b=none->H b=none:=λb h=>by
  by_cases e:b=d
  .rw[e,aO] at h;cases h
  .rw[bC e] at h;exact h
 generalize L2.upd H d (.frz o (.dK (enK g)))=B at L J n0 ⊢;refine aBg J (none,none,4) (by rw[uP];have:=k.few;lia) (λD i j y=>∃e v tp,g[i]?=some e/\y=.ref tp/\SqT K j tp [.str e.n,v]/\v=e.vh) ?_ ?_ (λi kv ek j R D G F hD I r=>?_) λD j G F hD I Z hy=>?_
 .rintro D i H2 H3 y s2 ⟨e,v,tp,t,rfl,ht,hv⟩;exact(e,v,tp,t,4,s2.aG ht,hv)
 .rintro D i H2 G zs y I ⟨e,v,tp,t,rfl,ht,hv⟩;exact(e,v,tp,t,4,SqT.jK I ht,hv)
 .have(V,t,rfl):=aQj ek;have hm:=v9 t;have(a,ev,ha,h1,h2,h3):=(L.same F).tb (iH.dK k.at_) (k.tb V hm);exists 33,a,_,0,_,ev,4,ha,at0 _ _;exact(sz2,λt2 H4 _ s4 g4=>r _ H4 s4 (V,V.vh,t2,t,4,SqT.of g4,4))
 .rw[uP] at Z;have(S,W,a2):=aZf Z hy;have bD:=L.same F;exists (o,F _ _ J);have Y:iH j d:=iH.fz (F _ _ J);have O:But d j (L2.upd j d (.dK (enK g))):=But.upd;have l:Same H (L2.upd j d (.dK (enK g))):=bD.thaw k.at_;have z:=O.lst Y I;have u:uI K (L2.upd j d (.dK (enK g))) G ((g.zip S).map λe=>(Sum.inr e.1.n,e.2,)):=uI.but a2 O Y;generalize L2.upd j d (.dK (enK g))=H5 at O l z u;have fw:=k.few;refine(D,G,3,z,u,5,λp H6 hN s6 X=>?_);have M:(((g.zip S).map λe=>((Sum.inr e.1.n:Key),e.2,)).map (·.1)).Nodup:=by rw[bAh W];exact bF6 k.nd
  rw[wC _ [] (by rw[bDH];exact M),bDH] at X;refine q p H6 (none_of l hN) (l.trans s6) ?_;rw[X];exact congrArg _ (congrArg _ (aVs W))
inductive Act where
 |made (s:Str)(n:Nd Nat)
 |merge (a:Nat)
 |copy (a:Nat)
 |deal (a:Nat)(c:Str)
 |bring (a h:Nat)
abbrev NI:V->Nat->Prop:=λv i=>v=.int (i:Nat)
abbrev mks:List (Str × V):=[("scan",.str "table",),("where",.str "where",),("keep",.str "keep",),("named",.str "named",),("join",.str "join",),("group",.str "group",),("first",.str "first",),("part",.str "group",),("cut",.str "first",)]
inductive MkS:Str->Str->Prop
 |scan:MkS "scan" "table"
 |whr:MkS "where" "where"
 |keep:MkS "keep" "keep"
 |nmd:MkS "named" "named"
 |join:MkS "join" "join"
 |group:MkS "group" "group"
 |first:MkS "first" "first"
 |part:MkS "part" "group"
 |cut:MkS "cut" "first"
def MkS.find (h:MkS s r):(mks.find? λq=>decide (q.1=s))=some (s,.str r,):=by cases h <;> rfl
def MkS.short (h:MkS s r):s.length<=8:=by cases h <;> decide +kernel
def MkS.inF (h:MkS s r):inV (.str s) (mks.map λq=>V.str q.1)=true:=by cases h <;> decide +kernel
inductive IsA (K:bGC)(H:Hp):V->Act->Prop
 |made {a s xs n}:SqT K H a (.str s::xs)->MkS s (yN n)->Ps K H NI xs n->IsA K H (.ref a) (.made s n)
 |merge {a i}:SqT K H a [.str "merge",.int (i:Nat)]->IsA K H (.ref a) (.merge i)
 |copy {a i}:SqT K H a [.str "copy",.int (i:Nat)]->IsA K H (.ref a) (.copy i)
 |deal {a i c}:SqT K H a [.str "deal",.int (i:Nat),.str c]->Nm c->IsA K H (.ref a) (.deal i c)
 |bring {a i h}:SqT K H a [.str "bring",.int (i:Nat),.int (h:Nat)]->IsA K H (.ref a) (.bring i h)
def acs:Act->List Nat
 |.made _ n=>bBq n
 |.merge a=>[a]
 |.copy a=>[a]
 |.deal a _=>[a]
 |.bring a _=>[a]
def Ps.same {α:Type}{K:bGC}{H H':Hp}{I J:V->α->Prop}{xs:List V}{n:Nd α}(e:Same H H')(a:∀v x,I v x->J v x)(h:Ps K H I xs n):Ps K H' J xs n:=by
 cases h with
 |table b=>exact .table b
 |whr b c=>exact .whr (a _ _ b) (c.same e λh=>h.same e)
 |keep b c=>exact .keep (a _ _ b) (c.same e λh=>h)
 |nmd b c=>exact .nmd (a _ _ b) (c.same e λh=>h)
 |join b c d=>exact .join (a _ _ b) (a _ _ c) (d.same e λh=>h.same e)
 |group b c d=>exact .group (a _ _ b) (c.same e λh=>h) (d.same e λh=>h.same e)
 |first b c d=>exact .first (a _ _ b) (c.same e λh=>h.same e) d
def Ps.len {α:Type}{K:bGC}{H:Hp}{I:V->α->Prop}{xs:List V}{n:Nd α}(h:Ps K H I xs n):1<=xs.length/\xs.length<=3:=by cases h <;> exact(bDI ..,9)
def IsA.same (e:Same H H')(h:IsA K H v a):IsA K H' v a:=by
 cases h with
 |made a b c=>exact .made (e.aG a) b (c.same e λ_ _ h=>h)
 |merge a=>exact .merge (e.aG a)
 |copy a=>exact .copy (e.aG a)
 |deal a b=>exact .deal (e.aG a) b
 |bring a=>exact .bring (e.aG a)
inductive aKs (K:bGC)(vs:List V)(H:Hp)(Q:VK)(E_:XK):Prop
 |mk (a:Addr)(s r:Str)(xs:List V)(_:vs=[.ref a])(_:SqT K H a (.str s::xs))(_:MkS s r)(_:xs.length<=5)(_:∀p H',Same H H'->SqT K H' p (.str r::xs)->Q (.ref p) H')
def aEs (T:!Txt):!Ok 1 "as_question" bQO (aKs K):=by refine Ok.ofW T.aG1 aCy λZ H y Q x h=>?_;have(a,l,r,z,rfl,b,g,A,q):=h;have(d,k,m):=T.cR;have n:∃u,mg "MADE_SORTS"=some u/\RelV (.ref d) u:=(_,k,4);exists _,(aC (aH (cA jX (aP (va1 (aQ aS9 (dG (7) n) (aQ aK (vv 0) aA)))) (dM yZ (vv 0) (eE aA) fK))));refine (rd0 rfl b (d,_,l,.str r,44,m,by rw[g.find];rfl,sz1,λt C D f o=>?_));refine(33,a,3,f.aG b,nw1 _ _,λv B c e=>?_);rw[bGs] at e;refine(t,v,12,c.aG (SqT.of o),SqT.of e,small (by simp only[p8,bBO];lia),λj i s p=>q j i (f.trans (c.trans s)) p)
inductive aQe (K:bGC)(vs:List V)(H:Hp)(Q:VK)(E_:XK):Prop
 |mk (v:V) (a:Act) (_:vs=[v]) (_:IsA K H v a) (_:∀D H',Same H H'->H' D=some (.lst ((acs a).map λi=>.int (i:Nat)))->Q (.ref D) H')
def bGc (h:bR NI us is):us=is.map λi=>.int (i:Nat):=by
 induction h with
 |nil=>rfl
 |cons r _ ih=>rw[bAE,<-ih,r]
def aSt (T:!Txt)(F:!Ok 1 "questions_in" bQD (aRt K))(G:!Ok 1 "as_question" bQO (aKs K)):!Ok 2 "acts_in" bQO (aQe K):=by
 refine Ok.ofW T.aV7 aQx λZ H E Q C h=>?_;have(v,a,rfl,l,q):=h;have(d,t,j):=T.cR;have x:∃u,mg "MADE_SORTS"=some u/\RelV (.ref d) u:=(_,t,4);exists _,(aC (aH (gJ (fP aSe (aQ aK (vv 0) aA) (dG (7) x) (1)) (aY F (va1 (aY G (va1 (vv 0))))) (cU (va1 (aQ aK (vv 0) aA))))));cases l with
 |@made p s xs n a b c=>refine (rd0 rfl a (d,12,j,38));rw[b.find];have I:=c.len;exact bI (3,p,00,xs,4,a,b,5,λB z k A=>(Nat,NI,_,n,z,4,Same.refl _,(B,xs,4,A,c.same k λ_ _ h=>h),λD y J L m o r=>q D y (k.trans m) (by rw[o,bGc r];rfl)))
 |merge a=>exact (rd0 rfl a (d,12,j,3,aU (rd1 rfl a (sz1,λD i f e g=>q D i e g))))
 |copy a=>exact (rd0 rfl a (d,12,j,3,aU (rd1 rfl a (sz1,λD i f e g=>q D i e g))))
 |deal a b=>exact (rd0 rfl a (d,12,j,3,aU (rd1 rfl a (sz1,λD i f e g=>q D i e g))))
 |bring a=>exact (rd0 rfl a (d,12,j,3,aU (rd1 rfl a (sz1,λD i f e g=>q D i e g))))
inductive aUm (K:bGC)(vs:List V)(H:Hp)(Q:VK)(E_:XK):Prop
 |mk (v:V)(a:Act)(_:vs=[v])(_:IsA K H v a)(_:(∀s n,a≠.made s n))(_:∀H',Same H H'->Q (.bl true) H')
def aBr (T:!Txt)(o:!Ok 1 "is_one_of" o7 (pM K))(x:!Ok 2 "is_name" n6 (uB K nameB))(y:!Ok 1 "is_whole" n6 (oJ K)):!Ok 3 "has_own_form" n6 (aUm K):=by
 refine Ok.ofW T.aCn aB5 λZ H A Q z h=>?_;have(v,a,rfl,p,u,q):=h;exists _,(aB (bL (cD (aY o (aF (aQ aK (vv 0) aA) (va1 (aP (aF aL (va1 aL))))))) (aC (aH (lW bZ (aJ aM (7) T.cH bM (va1 (vv 0))) aA))) aV) (aB (bL (cD (aY o (aF (aQ aK (vv 0) aA) (va1 (aP (va1 aL)))))) (aC (aH (dI (lW bZ (aJ aM (7) T.cH bM (va1 (vv 0))) aA) (dN (aY x (va1 (aQ aK (vv 0) aA))))))) aV) (aC (aH (dI (aY o (aF (aQ aK (vv 0) aA) (va1 (aP (va1 aL))))) (dI (lW bZ (aJ aM (7) T.cH bM (va1 (vv 0))) aA) (dN (aY y (va1 (aQ aK (vv 0) aA))))))))));cases p with
 |made a b c=>exact absurd rfl (u _ _)
 |merge a=>exact (rd0 rfl a ((6),λf j _ d e=>(_,f,3,gO (0),SqT.of e,43,bI (303,.inr (d.aG a),4,q j d))))
 |copy a=>exact (rd0 rfl a ((6),λf j _ d e=>(_,f,3,gO (0),SqT.of e,43,bI (303,.inr (d.aG a),4,q j d))))
 |deal a b=>refine (rd0 rfl a ((6),λf j _ d e=>(_,f,3,gO (0),SqT.of e,43,aU ?_)));refine (rd0 rfl (d.aG a) ((6),λn r _ g m=>(_,n,3,gO (0),SqT.of m,43,bI ?_)));have i:=g.aG (d.aG a);refine(303,.inr i,43,bI ?_);refine (rd2 rfl i (3,b.th,λl k=>?_));rw[show nameB (.str _)=true from b];exact q l (d.trans (g.trans k))
 |bring a=>refine (rd0 rfl a ((6),λf j _ d e=>(_,f,3,gO (0),SqT.of e,43,aU ?_)));refine (rd0 rfl (d.aG a) ((6),λn r _ g m=>(_,n,3,gO (0),SqT.of m,43,aU ?_)));refine (rd0 rfl (g.aG (d.aG a)) ((6),λs l _ k t=>(_,s,3,gO (0),SqT.of t,43,bI ?_)));have i:=k.aG (g.aG (d.aG a));refine(303,.inr i,43,bI ?_);exact (rd2 rfl i (3,.inr (.inl (3)),q l (d.trans (g.trans k))))
inductive aS1 (K:bGC)(vs:List V)(H:Hp)(Q:VK)(E_:XK):Prop
 |mk (v:V)(a:Act)(_:vs=[v])(_:IsA K H v a)(_:∀H',Same H H'->Q (.bl true) H')
def IsA.tup {K:bGC}{H:Hp}{v:V}{a:Act}(h:IsA K H v a):∃p s x xs,v=.ref p/\SqT K H p (.str s::x::xs)/\s.length<=8/\xs.length<=2 /\
  ((∃n,a=.made s n/\MkS s (yN n)/\Ps K H NI (x::xs) n)\/(∀s n,a≠.made s n)/\inV (.str s) (mks.map λq=>V.str q.1)=false):=by
 cases h with
 |@made p s xs n a b c=>
  have l:=c.len;cases xs with
  |nil=>exact absurd l.1 (6)
  |cons x xs=>exact(p,s,x,xs,4,a,b.short,by rw[p8] at l;lia,.inl (n,4,b,c))
 |merge a=>exact(_,"merge",03,a,by trivial,6,.inr (λ_ _ z=>(by cases z),by trivial))
 |copy a=>exact(_,"copy",03,a,by trivial,6,.inr (λ_ _ z=>(by cases z),by trivial))
 |deal a b=>exact(_,"deal",03,a,by trivial,9,.inr (λ_ _ z=>(by cases z),by trivial))
 |bring a=>exact(_,"bring",03,a,by trivial,9,.inr (λ_ _ z=>(by cases z),by trivial))
def aBn (T:!Txt)(O:!Ok 1 "is_one_of" o7 (pM K))(R:!Ok 7 "has_form" n6 (aYb K))(M:!Ok 1 "as_question" bQO (aKs K))(r:!Ok 3 "has_own_form" n6 (aUm K)) :
  !Ok 8 "has_act_form" n6 (aS1 K):=by
 refine Ok.ofW T.aFd aBp λZ H L Q I h=>?_;have(v,a,rfl,j,q):=h;have(d,o,t):=T.cR;have y:∃u,mg "MADE_SORTS"=some u/\RelV (.ref d) u:=(_,o,4);exists _,(aB (bL (VW.pt (dZ (cJ (cD (aJ dY (7) T.bN bH (aF (vv 0) (va1 (dJ (v:=.ty "tuple") (7) T.cM cB rfl)))))) (dO (cL bZ (aJ aM (7) T.cH bM (va1 (vv 0))) aA)))) (aC (aH eO)) aV) (aB (bL (cD (aY O (aF (aQ aK (vv 0) aA) (va1 (bF (aHa rfl) (7) T.cM cB (va1 (dG (7) y))))))) (aC (aH (aY R (va1 (aY M (va1 (vv 0))))))) aV) (aC (aH (aY r (va1 (vv 0)))))));have(p,e,x,A,rfl,i,B,J,s):=j.tup;have F:decide (V.int (((V.str e::x::A).length:Nat):Int)=V.int 0)=false:=j9 (by intro z;have:=V.int.inj z;rw[p8] at this;lia);refine(303,.tup i,3,aU (303,.inr i,438));rw[F];refine aU (rd0 rfl i (d,3,t,(by show 9<=1000;decide),λE N f C=>(_,E,3,gO B,SqT.of C,438)));rcases s with⟨n,rfl,b,c⟩|⟨hn,hi⟩
 .rw[show (isS (.str e) && inV (.str e) (mks.map λq=>V.str q.1))=true from by rw[b.inF];rfl];exact bI (3,p,e,03,f.aG i,b,by rw[p8];lia,λG k g m=>(Nat,NI,_,n,4,(G,3,m,c.same (f.trans g) λ_ _ h=>h),λl D=>q l (f.trans (g.trans D))))
 .rw[show (isS (.str e) && inV (.str e) (mks.map λq=>V.str q.1))=false from by rw[hi];rfl];exact aU (30,a,4,j.same f,hn,λk g=>q k (f.trans g))
def aTo (a:Act):(acs a).length<=2:=by
 cases a with
 |made s n=>cases n <;> simp[acs,bBq]
 |_=>simp[acs]
def bDx:∀{ys:List V},(∀(i:Nat) y,ys[i]?=some y->y=.bl true)->ys=(List.replicate ys.length true).map V.bl:=by
 intro a
 induction a with
 |nil=>rintro _;exact rfl
 |cons y ys ih=>rintro h;rw[p8,List.replicate_succ,bAE,<-ih λi z e=>h (i+1) z e,h 0 y rfl]
def yM (n:Nat):(List.replicate n true).all id=true:=by
 induction n with
 |zero=>rfl
 |succ n ih=>rw[List.replicate_succ,bFZ,ih];rfl
inductive aMq (K:bGC)(vs:List V)(H:Hp)(Q:VK)(E_:XK):Prop
 |mk (v:V)(a:Act)(n:Nat)(_:vs=[v,.int (n:Nat)])(_:IsA K H v a)(_:(∀i∈acs a,i<n))(_:∀H',Same H H'->Q (.bl true) H')
def aXg (T:!Txt)(z:!Ok 8 "has_act_form" n6 (aS1 K))(u:!Ok 2 "acts_in" bQO (aQe K))(U:!Ok 2 "is_number_below" bQV yH):!Ok 9 "is_act" bXE (aMq K):=by
 refine Ok.ofW T.aYj aVl λZ H O Q M h=>?_;have(v,a,n,rfl,g,G,q):=h;exists _,(aC (aH (dI (aY z (va1 (vv 0))) (dN (aJ (gQ rfl) (7) T.pU mH (va1 (bY (N:=["ahead","number"]) ck (dC (aD aC9)) rfl (iD (aY u (va1 (vv 0)))) (λL J B I=>((dF 0),cI,(aY U (aF (vv 0) (va1 (vv 1)))))))))))));refine(30,a,4,g,λS k=>(3,bI ?_));dsimp only[oM,qI,tCB,cX];refine zN (K:=K) (λc=>c=(acs a).map λi=>V.int (i:Nat)) (λi H y=>y=.bl true) (λe h=>h) (λe h=>h) [none,some (.int (n:Nat))] ?_ rfl (λR r=>(30,a,4,g.same k,λD f t d=>r D f _ t d rfl)) (λc b=>small (by rw[b,d7];have:=aTo a;lia)) (λc b i x o B R l W r=>?_) λc b s f F m d C p=>?_
 .exact eX 1 (0) rfl rfl (0)
 .subst b;have(j,A,rfl):=iR o;have E:=G j (aKi A);exists 33,j,n,4;rw[show (decide ((0:Int)<=(j:Int)) && decide ((j:Int)<(n:Int)))=true from by rw[j4 (5),j4 (5)];rfl];exact r _ _ (Same.refl _) rfl
 .exists s,List.replicate F.length true,4,(SqL.of (by rw[d,<-bDx λi y e=>p i y e]));rw[yM];exact q f (k.trans m)
inductive aHu (K:bGC)(vs:List V)(H:Hp)(Q:VK)(E_:XK):Prop
 |mk (l:Addr)(us:List V)(as:List Act)(_:vs=[.ref l])(_:SqL K H l us)(_:bR (IsA K H) us as)(_:1<=as.length)(_:as.length<=60)(_:(∀(k:Nat) a,as[k]?=some a->∀i∈acs a,i<k))(_:∀H',Same H H'->Q (.bl true) H')
def aRf (T:!Txt)(o:!Ok 9 "is_act" bXE (aMq K)):!Ok 10 "is_plan" n6 (aHu K):=by
 refine Ok.ofW T.aWu aRy λZ H E Q C h=>?_;have(l,b,G,rfl,d,g,u,t,s,q):=h;exists _,(aB (bL (VW.pt (dZ (cJ (cD (aJ aAf (7) T.bN bH (aF (vv 0) (va1 (dJ (v:=.ty "list") (7) T.zO uM rfl)))))) (dO (cJ (uE oV oV aA (aJ aM (7) T.cH bM (va1 (vv 0))) (dG (7) T.aMe)))))) (aC (aH eO)) aV) (aC (aH (aJ (gQ rfl) (7) T.pU mH (va1 (bY (N:=["number","act"]) ck dH rfl (aLl (7) T.uD (va1 (vv 0))) (λB A c z=>((iT (K:=K) (n:=2) rfl (aW (dF 0) (aW (dF 1) cV))),cI,(aY o (aF (vv 1) (va1 (vv 0))))))))))));have F:=g.len;refine(3,l,b,4,d,3,aU ?_);exists 303,.inl d,123;rw[show decide ((1:Int)<=(b.length:Int))=true from j4 (5)];refine bI (1238);rw[show decide ((b.length:Int)<=60)=true from j4 (5)];refine aU ?_;dsimp only[oM,qI,tCB,cX];refine aWw b (.bl true) [none,none] gR (small (5)) d (λR r=>(3,r)) (λi x k c R u t f r=>?_) rfl rfl λD c f y=>?_
 .have(a,j,e):=bQ g k;exact(33,x,a,i,4,e.same f,s i a j,λp m=>r p m)
 .exists D,List.replicate b.length true,4,(SqL.of (by rw[y,bDF]));rw[yM];exact q c f
inductive bE6 (K:bGC)(vs:List V)(H:Hp)(Q:VK)(E_:XK):Prop
 |mk (a x xs us:_)(_:vs=[.ref a,.ref x])(_:SqT K H a xs)(_:SqL K H x us)(_:us.length+1<=xs.length)(_:2<=xs.length)(_:xs.length<=5)(_:∀p H',Same H H'->SqT K H' p (xs.take 1++us++xs.drop (1+us.length))->Q (.ref p) H')
def yD (T:!Txt):!Ok 1 "with_questions" bQZ (bE6 K):=by
 refine Ok.ofW T.aAj zE λZ H G Q E h=>?_;have(a,x,b,c,rfl,e,j,N,M,O,q):=h;exists _,(aC (aH (cA jX (cA jX (dM jZ (vv 0) fK (eE aA)) (bF cQ (7) T.cM cB (va1 (vv 1)))) (dM jZ (vv 0) (eE (cA dX aA (aJ aM (7) T.cH bM (va1 (vv 1))))) fK))));refine(33,a,b,4,e,λy L i t=>(3,x,c,4,i.seq j,λl J _ f o=>?_));have I:=pJ b none (some 1);refine(y,l,_,c,44,f.aG t,SqT.of o,small (5),λm C v u=>?_);have d:=i.trans (f.trans v);refine(33,x,c,4,.inl (d.seq j),123,a,b,4,d.aG e,λr D g z=>?_);have n:uF b none (some 1)=b.take 1:=pF b 1;have B:uF b (some (1+(c.length:Int))) none=b.drop (1+c.length):=by have:=kI b (1+c.length);rw[<-this];rfl
 have F:=pJ b (some (1+(c.length:Int))) none;refine(m,r,12,g.aG u,z,small (by rw[w6];lia),λA s p k=>?_);rw[n,B] at k;exact q A s (d.trans (g.trans p)) k
inductive Spr where
 |copied
 |loose
 |dealt (c:Str)
 |at_ (h:Nat)
 deriving DecidableEq
def kW:Spr->List V
 |.copied=>[.str "copied"]
 |.loose=>[.str "loose"]
 |.dealt c=>[.str "dealt",.str c]
 |.at_ h=>[.str "at",.int (h:Nat)]
def fG:kW a=kW b↔a=b:=by
 constructor
 .intro h;cases a <;> cases b <;> simp[kW] at h ⊢ <;> first|exact h|exact absurd h (0)|lia
 .rintro rfl;rfl
def eY (a:Spr):rY (kW a):=by intro x b;cases a <;> simp[kW] at b <;> (try rcases b with rfl|rfl) <;> (try subst b) <;> first|exact .inr (3)|exact .inl (3)
abbrev oU (K:bGC)(H:Hp)(v:V)(s:Spr):Prop:=dU K H v (kW s)
def aCx:Plc->Spr
 |.copies=>.copied
 |.keys n=>.dealt n
 |.spans _ _ _=>.loose
def lost (ns:List Str):Spr->Spr
 |.dealt c=>if c∈ns then .dealt c else .loose
 |s=>s
def aIx (h:c∈ns):lost ns (.dealt c)=.dealt c:=if_pos h
def aEz (h:c∉ns):lost ns (.dealt c)=.loose:=if_neg h
inductive aTs (K:bGC)(vs:List V)(H:Hp)(Q:VK)(E_:XK):Prop
 |mk (v pl:_)(_:vs=[v])(_:aAu K H v pl)(_:∀v' H',Same H H'->oU K H' v' (aCx pl)->Q v' H')
def aEf (T:!Txt):!Ok 1 "scan_spread" ["placing"] (aTs K):=by
 refine Ok.ofW T.aGc aEb λZ H y Q x h=>?_;have(v,l,rfl,c,q):=h;have(e,j,t):=T.jT;have o:∃u,mg "COPIED"=some u/\RelV (.ref e) u:=(_,j,4);have(d,m,k):=T.uQ;have i:∃u,mg "LOOSE"=some u/\RelV (.ref d) u:=(_,m,4);exists _,(aB (bL (cL bZ (aQ aK (vv 0) aA) aL) (aC (aH (dG (7) o))) aV) (aC (aH (gJ (cL bZ (aQ aK (vv 0) aA) aL) (aP (aF aL (va1 (aQ aK (vv 0) aA)))) (dG (7) i)))));cases l with
 |copies=>have(a,rfl,b):=c;exact (rd0 rfl b (43,bI (q _ H (Same.refl _) (e,4,t H))))
 |keys n=>have(a,rfl,b):=c;refine (rd0 rfl b (43,aU (rd0 rfl b (43,bI (rd1 rfl b (sz2,λp r f s g=>?_))))));exact q _ r s (p,4,SqT.of g)
 |spans n h0 cs=>have(a,z,rfl,b,_):=c;exact (rd0 rfl b (43,aU (rd0 rfl b (43,aU (q _ H (Same.refl _) (d,4,k H))))))
def bHi (K:bGC)(H:Hp)(v:V)(ns:List Str):Prop:=∃a,v=.ref a/\SqT K H a (ns.map V.str)
inductive xO (K:bGC)(vs:List V)(H:Hp)(Q:VK)(E_:XK):Prop
 |mk (v w sp ns:_)(_:vs=[v,w])(_:oU K H v sp)(_:bHi K H w ns)(_:∀v' H',Same H H'->oU K H' v' (lost ns sp)->Q v' H')
def aC2 (T:!Txt):!Ok 1 "kept_spread" bXF (xO K):=by
 refine Ok.ofW T.aGo aE3 λZ H n Q m h=>?_;have(v,w,i,l,rfl,(a,rfl,d),(b,rfl,k),q):=h;have(e,j,g):=T.uQ;have f:∃u,mg "LOOSE"=some u/\RelV (.ref e) u:=(_,j,4);exists _,(aC (aH (gJ (VW.pt (jH (cL bZ (aQ aK (vv 0) aA) aL) (iU (fP iB (aQ aK (vv 0) aA) (vv 1) (1))))) (dG (7) f) (vv 0))));cases i with
 |copied=>exact (rd0 rfl d (43,aU (aU (3,q _ H (Same.refl _) (a,4,d)))))
 |loose=>exact (rd0 rfl d (43,aU (aU (3,q _ H (Same.refl _) (a,4,d)))))
 |at_ h=>exact (rd0 rfl d (43,aU (aU (3,q _ H (Same.refl _) (a,4,d)))))
 |dealt c=>
  refine (rd0 rfl d (43,bI (rd1 rfl d (3,b,3,.inr k,4,lU,38))));rw[if_pos (rfl:true=true),lV];by_cases h:c∈l
  .rw[j4 h];exact aU (3,q _ H (Same.refl _) (by rw[aIx h];exact(a,4,d)))
  .rw[j9 h];exact bI (q _ H (Same.refl _) (by rw[aEz h];exact(e,4,g H)))
def rnm (hd:Hdr)(ns:List Str):Spr->Spr
 |.dealt c=>.dealt (ns.getD (plc hd c) "")
 |s=>s
inductive aS3 (K:bGC)(vs:List V)(H:Hp)(Q:VK)(E_:XK):Prop
 |mk (v vh w sp hd ns:_)(_:vs=[v,vh,w])(_:oU K H v sp)(_:eU K H vh hd)(_:hd.length<=8)(_:bHi K H w ns)(_:ns.length=hd.length)(_:(∀c,sp=.dealt c->∃k,look hd c=some k))(_:∀v' H',Same H H'->oU K H' v' (rnm hd ns sp)->Q v' H')
def aB4 (T:!Txt)(o:!Ok 2 "place_of" o8 (xF K)):!Ok 3 "named_spread" bQP (aS3 K):=by
 refine Ok.ofW T.aDq aBk λZ H A Q z h=>?_;have(v,D,w,s,j,l,rfl,(a,rfl,d),r,B,(b,rfl,y),t,i,q):=h;exists _,(aC (aH (gJ (cL bZ (aQ aK (vv 0) aA) aL) (aP (aF aL (va1 (aQ aK (vv 2) (aY o (aF (vv 1) (va1 (aQ aK (vv 0) aA)))))))) (vv 0))));cases s with
 |copied=>exact (rd0 rfl d (43,aU (3,q _ H (Same.refl _) (a,4,d))))
 |loose=>exact (rd0 rfl d (43,aU (3,q _ H (Same.refl _) (a,4,d))))
 |at_ h=>exact (rd0 rfl d (43,aU (3,q _ H (Same.refl _) (a,4,d))))
 |dealt c=>
  have(k,i):=i c rfl;have u:=xC i;have e:plc j c<l.length:=by rw[t];exact (List.getElem?_eq_some_iff.mp u.1).1
  refine (rd0 rfl d (43,bI (33,rd1 rfl d (00,j,k,4,r,5,i,λC m=>?_))));refine(b,00,.str (l.getD (plc j c) ""),44,m.aG y,8,sz2,λp x f n g=>q _ x (m.trans n) (p,4,SqT.of g));rw[bAB,b7 e];exact aX (by rw[j5,b7 e];rfl)
def prd (s:Spr):List (Str × Str)->Spr
 |[]=>s
 |p::ps=>if s=.dealt p.2 then .dealt p.1 else prd s ps
def bGi (K:bGC)(H:Hp)(v:V)(ps:List (Str × Str)):Prop:=qL K H (pP K H) v ps
inductive aTz (K:bGC)(vs:List V)(H:Hp)(Q:VK)(E_:XK):Prop
 |mk (v w sp ps:_)(_:vs=[v,w])(_:oU K H v sp)(_:bGi K H w ps)(_:ps.length<=8)(_:∀v' H',Same H H'->oU K H' v' (prd sp ps)->Q v' H')
def aAo (T:!Txt):!Ok 1 "paired_spread" bXP (aTz K):=by
 refine Ok.ofW T.aBq qJ λZ H I Q y h=>?_;have(v,w,g,k,rfl,(a,rfl,n),(b,C,rfl,s,o),J,q):=h;have A:=y.units;have G:=qJ.nd;exists _,(aB (nH PassesOwn.never rfl (fV (vv 1)) (cP 2) (aC (bL (cL (sH A) (vv 0) (aP (aF aL (va1 (aQ aK (vv 2) aA))))) (aC (aH (aP (aF aL (va1 (aQ aK (vv 2) aA)))))) aV))) (aC (aH (vv 0))));refine(3,b,4,(_,s),aJe (xs:=C) (λi σ d=>Same H d/\prd g k=prd g (k.drop i)/\∃l,σ=[some (.ref a),some (.ref b),l]) (Same.refl _,43) (by rintro i σ d _ ⟨e,_⟩;exact e.aG s) ?_ ?_)
 .rintro i x σ d hx ⟨sm,hp,l,rfl⟩;have(c,r,p,rfl,f,_):=bQ o hx;refine(3,rd1 rfl (sm.aG f) (sz2,λE L N j D=>?_));exists kW g,kW (.dealt c.2),(a,4,j.aG (sm.aG n)),(E,4,SqT.of D),eY _,eY _,3;have m:k.drop i=c::k.drop (i+1):=List.drop_eq_getElem_cons (List.getElem?_eq_some_iff.mp r).1 ▸ by rw[(List.getElem?_eq_some_iff.mp r).2]
  rw[m] at hp;by_cases e:g=.dealt c.2
  .rw[j4 (fG.mpr e)];refine bI (rd0 rfl (j.aG (sm.aG f)) (sz2,λF B M t u=>q _ B (sm.trans (j.trans t)) ?_));rw[hp,prd,if_pos e];exact(F,4,SqT.of u)
  .rw[j9 λz=>e (fG.mp z)];refine aU (sm.trans j,83);rw[hp,prd,if_neg e]
 .rintro σ d ⟨sm,hp,l,rfl⟩;refine(3,q _ d sm ?_);rw[hp,o.len,List.drop_length];exact(a,4,sm.aG n)
def jn3 (s o:Spr)(ps:List (Str × Str)):Option Spr:=match s,o with
 |.dealt c,.dealt d=>if (c,d,)∈ps then some s else none
 |.at_ h,.at_ k=>if h=k then some s else none
 |_,_=>none
def jnd (s o:Spr)(ps:List (Str × Str)):Option Spr:=if o=.copied then some s else if s=.copied then some (prd o ps) else jn3 s o ps
abbrev prow (p:Str × Str):List V:=[.str p.1,.str p.2]
def aYf {c d:Str}{ps:List (Str × Str)}:prow (c,d,)∈ps.map prow↔(c,d,)∈ps:=by
 rw[List.mem_map];constructor
 .rintro⟨⟨x,y⟩,h,e⟩;cases e;exact h
 .intro h;exact(_,h,4)
def bAd (h:bR (pP K H) us ps):Al2 (dU K H) us (ps.map prow):=by
 induction h with
 |nil=>exact .nil
 |cons r _ ih=>have(a,e,h,_):=r;exact .cons (a,e,h) ih
def aUu (p:Str × Str):rY (prow p):=by intro x a;simp at a;rcases a with rfl|rfl <;> exact .inr (3)
inductive aUn (K:bGC)(vs:List V)(H:Hp)(Q:VK)(E_:XK):Prop
 |mk (v u w s o sp ps:_)(_:vs=[v,u,w])(_:oU K H v s)(_:oU K H u o)(_:bGi K H w ps)(_:ps.length<=8)(_:jnd s o ps=some sp)(_:∀v' H',Same H H'->oU K H' v' sp->Q v' H')
def aCs (T:!Txt)(V:!Ok 1 "paired_spread" bXP (aTz K)):!Ok 2 "join_spread" bQK (aUn K):=by
 refine Ok.ofW T.aGl aDj λZ H X Q s h=>?_;have(v,u,w,y,o,W,A,rfl,(a,rfl,f),(b,rfl,i),C,L,e,q):=h;have n:=s.units;have(x,M,D):=T.jT;have B:∃u,mg "COPIED"=some u/\RelV (.ref x) u:=(_,M,4);exists _,(aB (bL (cL (sH n) (vv 1) (dG (7) B)) (aC (aH (vv 0))) aV) (aB (bL (cL (sH n) (vv 0) (dG (7) B)) (aC (aH (aY V (aF (vv 1) (va1 (vv 2)))))) aV) (aB (bL (VW.pt (jH (cL bZ (aQ aK (vv 0) aA) aL) (jH (cL bZ (aQ aK (vv 1) aA) aL) (iU (fP (bH3 n) (aP (aF (aQ aK (vv 0) aA) (va1 (aQ aK (vv 1) aA)))) (vv 2) (1)))))) (aC (aH (vv 0))) aV) (aC (aH (gJ (VW.pt (jH (cL bZ (aQ aK (vv 0) aA) aL) (iU (cL (sH n) (vv 0) (vv 1))))) (vv 0) mG))))));exists 3,kW o,kW .copied,(b,4,i),(x,4,D H),eY _,eY _,3;unfold jnd at e;by_cases l:o=.copied
 .rw[j4 (fG.mpr l)];rw[if_pos l] at e;cases e;exact bI (3,q _ H (Same.refl _) (a,4,f))
 rw[j9 λz=>l (fG.mp z)];rw[if_neg l] at e;refine aU (3,kW y,kW .copied,(a,4,f),(x,4,D H),eY _,eY _,38);by_cases j:y=.copied
 .rw[j4 (fG.mpr j)];rw[if_pos j] at e;cases e;exact bI (331,o,A,4,(b,4,i),C,L,λU J I F=>q U J I F)
 rw[j9 λz=>j (fG.mp z)];rw[if_neg j] at e;unfold jn3 at e;cases y with
 |copied=>exact absurd rfl j
 |loose=>cases e
 |dealt c=>
  cases o with
  |dealt d=>
   dsimp only at e;by_cases g:(c,d,)∈A
   .rw[if_pos g] at e;cases e;have(E,N,rfl,t,G):=C;refine aU (rd0 rfl f (43,bI (rd0 rfl i (43,bI ?_))));refine (rd1 rfl f (rd1 rfl i (sz2,λS O Y m R=>?_)));exists 3,E,N,A.map prow,prow (c,d,),4,m.aG t,bAd (G.imp λ_ _ h=>h.same m),λr s=>?_,(S,4,SqT.of R),aUu _,3
    .have(p,_,rfl):=List.mem_map.mp s;exact aUu p
    rw[j4 (aYf.mpr g)];exact bI (3,q _ O m (a,4,m.aG f))
   .rw[if_neg g] at e;cases e
  |_=>cases e
 |at_ h=>
  cases o with
  |at_ k=>
   dsimp only at e;by_cases g:h=k
   .rw[if_pos g] at e;cases e;subst g;refine aU (rd0 rfl f (43,aU (aU ?_)));refine (rd0 rfl f (43,bI (33,kW (.at_ h),kW (.at_ h),(a,4,f),(b,4,i),eY _,eY _,38)));rw[j4 rfl];exact bI (3,q _ H (Same.refl _) (a,4,f))
   .rw[if_neg g] at e;cases e
  |_=>cases e
inductive aTg (K:bGC)(vs:List V)(H:Hp)(Q:VK)(E_:XK):Prop
 |mk (v a sp:_)(_:vs=[v])(_:IsA K H v a)(_:((∃i,a=.copy i/\sp=.copied)\/(∃i c,a=.deal i c/\sp=.dealt c)\/∃i h,a=.bring i h/\sp=.at_ h))(_:∀v' H',Same H H'->oU K H' v' sp->Q v' H')
def aD6 (T:!Txt):!Ok 1 "sent_spread" bQO (aTg K):=by
 refine Ok.ofW T.aGs aD4 λZ H t Q r h=>?_;have(v,a,o,rfl,d,n,q):=h;have(j,k,m):=T.jT;have l:∃u,mg "COPIED"=some u/\RelV (.ref j) u:=(_,k,4);exists _,(aB (bL (cL bZ (aQ aK (vv 0) aA) aL) (aC (aH (aP (aF aL (va1 (aQ aK (vv 0) aA)))))) aV) (aC (aH (gJ (cL bZ (aQ aK (vv 0) aA) aL) (dG (7) l) (aP (aF aL (va1 (aQ aK (vv 0) aA))))))));rcases n with⟨i,rfl,rfl⟩|⟨i,c,rfl,rfl⟩|⟨i,h,rfl,rfl⟩
 .cases d with
  |copy a=>exact (rd0 rfl a (43,aU (rd0 rfl a (43,bI (q _ H (Same.refl _) (j,4,m H))))))
 .cases d with
  |deal a b=>exact (rd0 rfl a (43,bI (rd2 rfl a (sz2,λp e f s g=>q _ e s (p,4,SqT.of g)))))
 .cases d with
  |bring a=>exact (rd0 rfl a (43,aU (rd0 rfl a (43,aU (rd2 rfl a (sz2,λp e f s g=>q _ e s (p,4,SqT.of g)))))))
structure Sns where
 w:Bool
 q:Qn
 sp:Spr
def pQ (K:bGC)(H:Hp)(v:V)(s:Sns):Prop:=∃a vq vs,v=.ref a/\SqT K H a [.bl s.w,vq,vs]/\IsQ K H vq s.q/\oU K H vs s.sp
def dU.same (e:Same H H')(h:dU K H v r):dU K H' v r:=by have(a,rfl,b):=h;exact(a,4,e.aG b)
def pQ.same (e:Same H H')(h:pQ K H v s):pQ K H' v s:=by have(a,d,g,rfl,f,c,b):=h;exact(a,d,g,4,e.aG f,c.same e,dU.same e b)
def QAt (a:Act)(L:List Qn)(q:Qn):Prop:=match a with
 |.made _ (.table T)=>L=[]/\q=.table T
 |.made _ (.whr _ ts)=>∃k,L=[k]/\q=.whr k ts
 |.made _ (.keep _ ns)=>∃k,L=[k]/\q=.keep k ns
 |.made _ (.nmd _ ns)=>∃k,L=[k]/\q=.nmd k ns
 |.made _ (.join _ _ ps)=>∃k l,L=[k,l]/\q=.join k l ps
 |.made _ (.group _ ns ss)=>∃k,L=[k]/\q=.group k ns ss
 |.made _ (.first _ ks m)=>∃k,L=[k]/\q=.first k ks m
 |_=>L=[q]
inductive aYt (K:bGC)(vs:List V)(H:Hp)(Q:VK)(E_:XK):Prop
 |mk (v x a us ss q:_)(_:vs=[v,.ref x])(_:IsA K H v a)(_:SqL K H x us)(_:bR (pQ K H) us ss)(_:ss.length<=2)(_:QAt a (ss.map (·.q)) q)(_:∀v' H',Same H H'->IsQ K H' v' q->Q v' H')
def bI7 {K:bGC}{H:Hp}{us:List V}{ss:List Sns}(h:bR (pQ K H) us ss):∃qs,bR (IsQ K H) qs (ss.map (·.q))/\∀(i:Nat) u z,us[i]?=some u->qs[i]?=some z->∃a vs b,u=.ref a/\SqT K H a [b,z,vs]:=by
 induction h with
 |nil=>exact([],.nil,λi u z e=>by simp at e)
 |cons r _ ih=>
  have(qs,l,j):=ih;have(a,k,vs,rfl,f,g,_):=r;refine(k::qs,.cons g l,λi u z c d=>?_);cases i with
  |zero=>cases c;cases d;exact(a,vs,3,f)
  |succ i=>exact j i u z (by simpa using c) (by simpa using d)
def bCg (c:Ps K H NI xs n)(a:QAt (.made s n) L q):L.length<=xs.length:=by
 cases c with
 |table _=>have(rfl,_):=a;exact bAI _
 |join _ _ _=>have(_,_,rfl,_):=a;exact bDI ..
 |_=>have(_,rfl,_):=a;exact bDI ..
def bGw (c:Ps K H NI xs n)(b:QAt (.made s n) L q)(a:bR (IsQ K H) qs L)(g:SqT K H p ((.str (yN n)::xs).take 1++qs++(.str (yN n)::xs).drop (1+qs.length))):IsQ K H (.ref p) q:=by
 cases c with
 |table h=>have(rfl,rfl):=b;cases a;exact .table g h
 |whr _ h=>have(_,rfl,rfl):=b;obtain _|⟨h1,h2⟩:=a;cases h2;exact .whr g h1 h
 |keep _ h=>have(_,rfl,rfl):=b;obtain _|⟨h1,h2⟩:=a;cases h2;exact .keep g h1 h
 |nmd _ h=>have(_,rfl,rfl):=b;obtain _|⟨h1,h2⟩:=a;cases h2;exact .nmd g h1 h
 |join _ _ h=>have(_,_,rfl,rfl):=b;obtain _|⟨h1,h2⟩:=a;obtain _|⟨h3,h4⟩:=h2;cases h4;exact .join g h1 h3 h
 |group _ h k=>have(_,rfl,rfl):=b;obtain _|⟨h1,h2⟩:=a;cases h2;exact .group g h1 h k
 |first _ h k=>have(_,rfl,rfl):=b;obtain _|⟨h1,h2⟩:=a;cases h2;exact .first g h1 h k
def IsA.two {K:bGC}{H:Hp}{v:V}{a:Act}(h:IsA K H v a):∃p s xs,v=.ref p/\SqT K H p (.str s::xs)/\((∃n,a=.made s n/\MkS s (yN n)/\Ps K H NI xs n)\/(mks.find? λq=>decide (q.1=s))=none/\∀L q,QAt a L q->L=[q]):=by
 cases h with
 |made a b c=>exact(13,a,.inl (3,b,c))
 |merge a=>exact(13,a,.inr (4,λ_ _ h=>h))
 |copy a=>exact(13,a,.inr (4,λ_ _ h=>h))
 |deal a _=>exact(13,a,.inr (4,λ_ _ h=>h))
 |bring a=>exact(13,a,.inr (4,λ_ _ h=>h))
def aCz (T:!Txt)(I:!Ok 1 "with_questions" bQZ (bE6 K))(jR:!Ok 1 "as_question" bQO (aKs K)):!Ok 2 "question_at" bQJ (aYt K):=by
 refine Ok.ofW T.aFp tV λZ H S Q hr h=>?_;have(v,x,a,V,B,q0,rfl,L,J,s,l2,j,q):=h;have(d,O,F):=T.cR;have G:∃u,mg "MADE_SORTS"=some u/\RelV (.ref d) u:=(_,O,4);exists _,(aB (lF (i0:=2) tV.nd rfl (0) (N:=["sense"]) ck dH rfl (iD (vv 1)) (λcl m g fp=>((dF 0),cI,(aQ (cT (K:=K)) (vv 0) aA)))) (aC (aH (gJ (fP aSe (aQ aK (vv 0) aA) (dG (7) G) (1)) (aY I (aF (aY jR (va1 (vv 0))) (va1 (vv 2)))) (aQ bB (vv 2) aA)))));have(y,e,k):=bI7 s;have lu:=s.len;have lq:=e.len;have lL:(B.map (·.q)).length=B.length:=d7 _;dsimp only[nO,kO];refine jY V y (5) [none] iM (small (5)) (λR r=>qU (λg m=>m.seq J) (λR' r'=>(3,r')) R r) (λi u z M ez g R l sm r=>?_) rfl λD W f t=>?_
 .have(p,S,b,rfl,hp):=k i u z M ez;exact (rd1 rfl (sm.aG hp) (r g (Same.refl g)))
 have(p,m,U,rfl,a,h):=L.two;refine (rd0 rfl (f.aG a) (d,12,F,38));rcases h with⟨n,rfl,b,c⟩|⟨hf,hl⟩
 .rw[b.find];have lc:=c.len;have lk:=bCg c j;exact bI (3,p,00,U,4,f.aG a,b,5,λp1 H2 A E=>(3,p1,D,_,y,4,E,SqL.of (A _ _ t),by rw[p8];lia,by rw[p8];lia,by rw[p8];lia,λp3 C Y X=>have o:=f.trans (A.trans Y);q _ C o (bGw (c.same o λ_ _ h=>h) j (e.imp λ_ _ h=>h.same o) X)))
 .rw[hf];rw[hl _ _ j] at e;obtain _|⟨h1,h2⟩:=e;cases h2;exact aU (3,D,_,0,02,SqL.of t,at0 _ _,q _ W f (h1.same f))
inductive aZd (K:bGC)(vs:List V)(H:Hp)(Q:VK)(E_:XK):Prop
 |mk (i d v hs q hd:_)(_:vs=[.int i,.ref d,v])(_:pD K H d hs)(_:IsQ K H v q)(_:size q<=20)(_:HQ hs q hd)(_:∀v' H',Same H H'->eU K H' v' hd->Q v' H')
def aSi (T:!Txt)(k:!Ok 27 "head_of" q7 (aZ9 K)):!Ok 28 "head_at" bQH (aZd K):=by refine Ok.ofW T.aWt aP5 λZ H m Q l h=>?_;have(i,d,v,j,f,g,rfl,a,b,e,c,q):=h;exists _,(aC (bEl (λ_ _ h=>h) (aC (aH (aY k (aF (vv 1) (va1 (vv 2))))))));exact(33,d,v,j,f,g,4,a,b,e,c,q)
def uX (es:List En)(n:Str):Option Hdr:=(es.find? λe=>decide (e.n=n)).map (·.t.hd)
def bDe {es:List En}(b:(es.map (·.n)).Nodup){e:En}(h:e∈es):(es.find? λx=>decide (x.n=e.n))=some e:=by
 induction es with
 |nil=>cases h
 |cons a es ih=>
  rw[bAE,bDX] at b;rw[bBA];rcases List.mem_cons.mp h with rfl|h
  .rw[j4 rfl]
  .have:a.n≠e.n:=λz=>b.1 (z ▸ List.mem_map.mpr (e,h,4));rw[j9 this];exact ih b.2 h
def aNo (h:lZ K H d es)(i:H p=some (.dK (es.map λe=>(Sum.inr e.n,e.vh,)))):pD K H p (uX es):=by
 refine(_,i,λn g e=>?_);unfold uX at e;cases a:es.find? λe=>decide (e.n=n) with
 |none=>rw[a] at e;cases e
 |some x=>
  rw[a] at e;cases e;have b:=bFT a;have j:x.n=n:=by simpa using List.find?_some a
  have(_,_,_,c,_):=h.tb x b;refine(x.vh,8,c);unfold nP;rw[List.find?_map];have:(λe:En=>decide (e.n=n))=((λf:Key × V=>decide (f.1=Sum.inr n)) ∘ λe:En=>((Sum.inr e.n:Key),e.vh,)):=by funext e;exact decide_eq_decide.mpr (λz=>congrArg _ z,λz=>Sum.inr.inj z)
  rw[<-this,a];rfl
def MkS.own (h:MkS s r):s≠"deal"/\s≠"bring":=by cases h <;> exact(by trivial,by trivial)
def IsA.sd (h:IsA K H v a):∃p s xs,v=.ref p/\SqT K H p (.str s::xs)/\((s≠"deal"/\s≠"bring")\/(∃i c,a=.deal i c/\s = "deal"/\xs=[.int i,.str c])\/∃i h,a=.bring i h/\s = "bring"/\xs=[.int i,.int h]):=by
 cases h with
 |made a b c=>exact(13,a,.inl b.own)
 |merge a=>exact(13,a,.inl (by trivial,by trivial))
 |copy a=>exact(13,a,.inl (by trivial,by trivial))
 |deal a _=>exact(13,a,.inr (.inl (032)))
 |bring a=>exact(13,a,.inr (.inr (032)))
inductive bE7 (K:bGC)(C:Addr)(vs:List V)(H:Hp)(Q:VK)(E_:XK):Prop
 |mk (i:Int)(va vq:V)(x d:Addr)(m:Int)(es:List En)(a:Act)(q:Qn)(hd:Hdr)(_:vs=[.int i,va,vq,.ref x])(_:oO K H C x m d es)(_:IsA K H va a)(_:IsQ K H vq q)(_:size q<=20)(_:HQ (uX es) q hd)(_:(∀i c,a=.deal i c->c∈hd.map (·.1)))(_:(∀i h,a=.bring i h->(h:Int)<m))(_:∀H',Same H H'->Q .non H')
def aCb (T:!Txt)(e:!OkM C 2 "heads" bXH (aFh K C))(b:!OkM C 1 "houses" bXH (aIn K C))(W:!Ok 28 "head_at" bQH (aZd K))(Y:!Ok 1 "names_of" ["head"] (aAd K))(gH:!Ok 2 "is_number_below" bQV yH) :
  !Ok 29 "need_fitting" bQI (bE7 K C):=by
 refine Ok.ofW T.aDk rN λZ H vs Q s h=>?_;have(i,va,G,x,d,m,k,a,F,t,rfl,g,A,N,E,r,n,l,q):=h;have U:=rN.nd;exists _,(aB (bU 4 (aY W (aF (vv 0) (aF (aEj (e.mono (6)) s (vv 3)) (va1 (vv 2)))))) (aB (bL (VW.pt (jH (cL bZ (aQ aK (vv 1) aA) aL) (iU (fP iB (aQ aK (vv 1) aA) (aY Y (va1 (vv 4))) (1))))) (aC fB) aV) (aC (bL (VW.pt (jH (cL bZ (aQ aK (vv 1) aA) aL) (iU (cJ (cD (aY gH (aF (aQ aK (vv 1) aA) (va1 (aEj (b.mono (6)) s (vv 3)))))))))) (aC fB) aV))));have(u,v):=g.1;refine(33,x,u,3,v,4,x,d,m,k,4,g,λp H1 f1 o M=>?_);refine(3,i,p,G,uX k,F,t,4,aNo (g.2.1.same o) M,N.same o,E,r,λS H2 B J=>?_);have f:=o.trans B;have h8:=r.good.2.2;have(p',s',xs,rfl,a,h):=A.sd;refine (rd0 rfl (f.aG a) (438));rcases h with⟨I,L⟩|⟨j,c,rfl,rfl,rfl⟩|⟨j,h,rfl,rfl,rfl⟩
 .rw[j9 λz=>I (V.str.inj z)];refine aU (aU (rd0 rfl (f.aG a) (438)));rw[j9 λz=>L (V.str.inj z)];exact aU (aU (q _ f))
 .refine bI (rd2 rfl (f.aG a) (3,S,t,4,J,5,λD X R O=>(D,3,.inl (SqL.of O),4,lU,38)));rw[if_pos (rfl:true=true),lV,j4 (n _ _ rfl)];have y:=f.trans R;exact aU (rd0 rfl (y.aG a) (43,aU (aU (q _ y))))
 .refine aU (aU (rd0 rfl (f.aG a) (43,bI (rd2 rfl (f.aG a) (3,x,u,3,f _ _ v,4,x,d,m,k,4,g.same f,0338)))));rw[show (decide ((0:Int)<=(h:Int)) && decide ((h:Int)<m))=true from by rw[j4 (5),j4 (l _ _ rfl)];rfl];exact aU (q _ f)
def jE (J:L2.St->Hp->Prop)(a:∀N:L2.St->Hp->Prop,(∀σ' H',J σ' H'->N σ' H')->S { D with nx:=N } σ H)(b:∀σ' H',J σ' H'->R D σ' H'):nO S R D σ H:=a _ b
def gth (q:Qn):Spr->Prop
 |.copied=>True
 |.at_ _=>True
 |.dealt c=>∃k ns ss,q=.group k ns ss/\c∈ns
 |.loose=>False
inductive Fit (es:List En)(m:Int):Act->List Sns->Sns->Prop
 |scan {e}:e∈es->Fit es m (.made "scan" (.table e.n)) [] (true,.table e.n,aCx e.t.pl)
 |whr {i q ts sp}:Fit es m (.made "where" (.whr i ts)) [(true,q,sp)] (true,.whr q ts,sp)
 |keep {i q ns sp}:Fit es m (.made "keep" (.keep i ns)) [(true,q,sp)] (true,.keep q ns,lost ns sp)
 |nmd {i q ns sp hd}:HQ (uX es) q hd->size q<=20->ns.length=hd.length->(∀c,sp=.dealt c->∃k,look hd c=some k)->Fit es m (.made "named" (.nmd i ns)) [(true,q,sp)] (true,.nmd q ns,rnm hd ns sp)
 |join {i j q r ps s o sp}:jnd s o ps=some sp->Fit es m (.made "join" (.join i j ps)) [(true,q,s),(true,r,o)] (true,.join q r ps,sp)
 |group {i q ns ss sp}:gth (.group q ns ss) sp->Fit es m (.made "group" (.group i ns ss)) [(true,q,sp)] (true,.group q ns ss,lost ns sp)
 |part {i q ns ss sp}:Fit es m (.made "part" (.group i ns ss)) [(true,q,sp)] (false,.group q ns ss,lost ns sp)
 |first {i q ks k sp}:gth (.first q ks k) sp->Fit es m (.made "first" (.first i ks k)) [(true,q,sp)] (true,.first q ks k,sp)
 |cut {i q ks k sp}:Fit es m (.made "cut" (.first i ks k)) [(true,q,sp)] (false,.first q ks k,sp)
 |merge {i q sp}:gth q sp->Fit es m (.merge i) [(false,q,sp)] (true,q,sp)
 |copy {i w q sp}:Fit es m (.copy i) [(w,q,sp)] (w,q,.copied)
 |deal {i c w q sp}:Fit es m (.deal i c) [(w,q,sp)] (w,q,.dealt c)
 |bring {i:Nat}{h:Nat}{w q sp}:(h:Int)<m->Fit es m (.bring i h) [(w,q,sp)] (w,q,.at_ h)
structure Fits (es:List En)(m:Int)(a:Act)(ss:List Sns)(s:Sns)(hd:Hdr):Prop where
 fit:Fit es m a ss s
 head:HQ (uX es) s.q hd
 few:size s.q<=20
 deal:∀i c,a=.deal i c->c∈hd.map (·.1)
def Fit.qat (h:Fit es m a ss s):QAt a (ss.map (·.q)) s.q:=by
 cases h with
 |scan=>exact(44)
 |join=>exact(12)
 |merge=>rfl
 |copy=>rfl
 |deal=>rfl
 |bring=>rfl
 |_=>exact(02)
def nmA:Act->Str
 |.made s _=>s
 |.merge _=>"merge"
 |.copy _=>"copy"
 |.deal _ _=>"deal"
 |.bring _ _=>"bring"
def IsA.word (h:IsA K H v a):∃p xs,v=.ref p/\SqT K H p (.str (nmA a)::xs):=by
 cases h with
 |made a _ _=>exact(03,a)
 |merge a=>exact(03,a)
 |copy a=>exact(03,a)
 |deal a _=>exact(03,a)
 |bring a=>exact(03,a)
abbrev nW:List V:=[.str "deal",.str "copy",.str "bring"]
abbrev bBt:List V:=[.str "part",.str "cut"]
inductive bFh (K:bGC)(vs:List V)(H:Hp)(Q:VK)(E_:XK):Prop
 |mk (v x a us ss w:_)(_:vs=[v,.ref x])(_:IsA K H v a)(_:SqL K H x us)(_:bR (pQ K H) us ss)(_:((inV (.str (nmA a)) nW=true/\∃s r,ss=s::r/\s.w=w)\/(inV (.str (nmA a)) nW=false/\w=!inV (.str (nmA a)) bBt)))(_:Q (.bl w) H)
def aC8 (T:!Txt):!Ok 1 "is_whole_at" bQJ (bFh K):=by
 refine Ok.ofW T.aG0 aCr λZ H m Q B h=>?_;have(v,x,a,D,F,w,rfl,i,z,j,s,q):=h;have(f,o,t):=T.oF;have n:∃u,mg "SENDING"=some u/\RelV (.ref f) u:=(_,o,4);have(d,l,k):=T.aDl;have c:∃u,mg "HALVES"=some u/\RelV (.ref d) u:=(_,l,4);exists _,(aB (bL (fP fU (aQ aK (vv 0) aA) (dG (7) n) (1)) (aC (aH (aQ aK (aQ bB (vv 1) aA) aA))) aV) (aC (aH (gY iB (aQ aK (vv 0) aA) (dG (7) c) (1)))));have(p,C,rfl,g):=i.word;refine (rd0 rfl g (f,3,.inr (t H),238));rw[if_neg (by decide:¬ (false=true))];rcases s with⟨e,E,r,rfl,rfl⟩|⟨e,rfl⟩
 .rw[e];obtain _|⟨hs,_⟩:=j;have(b,A,m,rfl,y,_):=hs;exact bI (3,x,_,0,02,z,at0 _ _,b,_,0,02,y,at0 _ _,q)
 .rw[e];refine aU (rd0 rfl g (d,3,.inr (k H),28));rw[if_pos (rfl:true=true)];exact q
def Fit.iw (h:Fit es m a ss s):(inV (.str (nmA a)) nW=true/\∃t r,ss=t::r/\t.w=s.w)\/(inV (.str (nmA a)) nW=false/\s.w=!inV (.str (nmA a)) bBt):=by
 cases h
 case copy=>exact .inl (412)
 case deal=>exact .inl (412)
 case bring=>exact .inl (412)
 all_goals exact .inr (44)
inductive aZx (K:bGC)(vs:List V)(H:Hp)(Q:VK)(E_:XK):Prop
 |mk (v u q sp:_)(_:vs=[v,u])(_:IsQ K H v q)(_:oU K H u sp)(_:gth q sp)(_:∀H',Same H H'->Q (.bl true) H')
def aC0 (T:!Txt):!Ok 1 "is_gathered" bQY (aZx K):=by
 refine Ok.ofW T.aF4 aDd λZ H A Q x h=>?_;have(v,u,t,s,rfl,o,(a,rfl,e),j,q):=h;exists _,(aB (bL (fP fU (aQ aK (vv 1) aA) (aP (aF aL (va1 aL))) (1)) (aC (aH eO)) aV) (aC (aH (dI (lW bZ (aQ aK (vv 0) aA) aL) (dI (lW bZ (aQ aK (vv 1) aA) aL) (dN (gY fU (aQ aK (vv 1) aA) (aQ aK (vv 0) aA) (1))))))));cases s with
 |loose=>exact absurd j id
 |copied=>exact (rd0 rfl e ((6),λp f l d g=>(p,3,.inr (SqT.of g),23,bI (q f d))))
 |at_ h=>exact (rd0 rfl e ((6),λp f l d g=>(p,3,.inr (SqT.of g),23,bI (q f d))))
 |dealt c=>
  have(k,B,y,rfl,m):=j;cases o with
  |group b _ i _=>have((n,z,rfl,i,r),_):=i;rw[qZ r] at i;refine (rd0 rfl e ((6),λp f l d g=>(p,3,.inr (SqT.of g),23,aU ?_)));refine (rd0 rfl (d.aG b) (43,bI ?_));refine (rd0 rfl (d.aG e) (43,bI ?_));refine (rd1 rfl (d.aG e) (rd2 rfl (d.aG b) (n,3,.inr (d.aG i),4,lU,8)));rw[if_neg (by decide:¬ (false=true)),lV,j4 m];exact q f d
def MkS.mrg (h:MkS s r):s≠"merge":=by cases h <;> decide +kernel
def IsA.made' (h:IsA K H v a)(e:(mks.find? λq=>decide (q.1=nmA a)).isSome=true):∃s n,a=.made s n:=by
 cases h with
 |made _ _ _=>exact(03)
 |_=>cases e
def IsA.mrg (h:IsA K H v a)(e:nmA a = "merge"):∃i,a=.merge i:=by
 cases h with
 |made _ b _=>exact absurd e b.mrg
 |merge _=>exact(3)
 |copy _=>exact absurd (show ("copy":Str) = "merge" from e) (0)
 |deal _ _=>exact absurd (show ("deal":Str) = "merge" from e) (0)
 |bring _=>exact absurd (show ("bring":Str) = "merge" from e) (0)
inductive bAn (K:bGC)(vs:List V)(H:Hp)(Q:VK)(E_:XK):Prop
 |mk (v u x a q us ss:_)(_:vs=[v,u,.ref x])(_:IsA K H v a)(_:IsQ K H u q)(_:SqL K H x us)(_:bR (pQ K H) us ss)(_:ss.length<=2)(_:((∃s n,a=.made s n)->∀s∈ss,s.w=true))(_:(∀i,a=.merge i->∃s r,ss=s::r/\s.w=false))(_:(inV (.str (nmA a)) [.str "group",.str "first",.str "merge"]=true->∃s r,ss=s::r/\gth q s.sp))(_:∀H',Same H H'->Q (.bl true) H')
def aPa (T:!Txt)(U:!Ok 1 "is_gathered" bQY (aZx K)):!Ok 2 "is_sound" bQL (bAn K):=by
 refine Ok.ofW T.aPp aOn λZ H C Q hr h=>?_;have(v,u,x,a,q0,E,ss,rfl,B,hq,A,m,l2,t,S,hg,q):=h;have(d,md,Y):=T.cR;have cR:∃u,mg "MADE_SORTS"=some u/\RelV (.ref d) u:=(_,md,4);exists _,(aB (bL (VW.pt (jH (fP aSe (aQ aK (vv 0) aA) (dG (7) cR) (1)) (iU (cJ (cD (aJ (gQ rfl) (7) T.pU mH (va1 (bY (N:=["sense"]) ck dH rfl (iD (vv 2)) (λcl L s fp=>((dF 0),cI,(aQ (cT (K:=K)) (vv 0) aA))))))))))) (aC (aH eO)) aV) (aB (bL (VW.pt (jH (cL bZ (aQ aK (vv 0) aA) aL) (iU (cD (aQ aK (aQ bB (vv 2) aA) aA))))) (aC (aH eO)) aV) (aC (aH (aS6 (gY iB (aQ aK (vv 0) aA) (aP (aF aL (aF aL (va1 aL)))) (1)) (dN (aY U (aF (vv 1) (va1 (aQ aK (aQ bB (vv 2) aA) aA))))))))));have(p,xs,rfl,I):=B.word;refine jE (fun σ F=>σ=[some (.ref p),some u,some (.ref x)]/\Same H F) (λN k=>?_) ?_
 .refine (rd0 rfl I (d,12,Y,38));cases G:(mks.find? λq=>decide (q.1=nmA a)).isSome with
  |false=>exact aU (aU (k _ _ (4,Same.refl _)))
  |true=>
   have t:=t (B.made' G);have lu:=m.len;refine bI ?_;dsimp only[aX7,tB,tCB,cX];refine jY E (List.replicate E.length (V.bl true)) (bBR ..) [none] iM (small (5)) (λR r=>qU (λs L=>L.seq A) (λR' r'=>(3,r')) R r) (λi v y ev o s R l sm r=>?_) rfl λD F f g1=>?_
   .have(n,J,b,M,C,rfl,c,_):=bQ m ev;rw[t n (aKi J)] at c;have:y=.bl true:=by
     rw[bDQ] at o
     split at o
     .cases o;rfl
     .cases o
    subst this;exact (rd0 rfl (sm.aG c) (r s (Same.refl s)))
   .exists D,List.replicate E.length true,4,SqL.of (by rw[g1,bDF]),3;rw[yM];exact aU (k _ _ (4,f))
 rintro σ' F ⟨rfl,f⟩;refine jE (fun σ O=>σ=[some (.ref p),some u,some (.ref x)]/\Same H O) (λN k=>?_) ?_
 .refine (rd0 rfl (f.aG I) (438));by_cases e:nmA a = "merge"
  .rw[j4 (congrArg V.str e)];have(j,rfl):=B.mrg e;have(n,r,rfl,G):=S j rfl;obtain _|⟨⟨b,M,C,rfl,c,_⟩,_⟩:=m;rw[G] at c;exact bI (3,x,_,0,02,f.seq A,at0 _ _,b,_,0,02,f.aG c,at0 _ _,3,aU (k _ _ (4,f)))
  .rw[j9 λz=>e (V.str.inj z)];exact aU (aU (k _ _ (4,f)))
 rintro σ' O ⟨rfl,s2⟩;refine (rd0 rfl (s2.aG I) ((6),λX W f3 s3 g3=>(X,3,.inr (SqT.of g3),238)));have g:=s2.trans s3;rw[if_pos (rfl:true=true)];cases hi:inV (.str (nmA a)) [.str "group",.str "first",.str "merge"] with
 |false=>exact bI (q W g)
 |true=>have(n,r,rfl,hg2):=hg hi;obtain _|⟨⟨b,M,C,rfl,c,_,J⟩,_⟩:=m;exact aU (33,x,_,0,02,g.seq A,at0 _ _,b,_,2,02,g.aG c,at2 _ _ _ _,00,q0,n.sp,4,hq.same g,dU.same g J,hg2,λH4 s4=>q H4 (g.trans s4))
set_option tactic.hygienic true in
def Fit.snd (h:Fit es m a ss s):ss.length<=2/\((∃s n,a=.made s n)->∀s∈ss,s.w=true)/\(∀i,a=.merge i->∃s r,ss=s::r/\s.w=false)/\(inV (.str (nmA a)) [.str "group",.str "first",.str "merge"]=true->∃t r,ss=t::r/\gth s.q t.sp):=by
 cases h
 case group g=>exact(9,λ_ s b=>by simp at b;rw[b],λi z=>(by cases z),λ_=>(03,g))
 case first g=>exact(9,λ_ s b=>by simp at b;rw[b],λi z=>(by cases z),λ_=>(03,g))
 case merge g=>exact(9,(by rintro⟨_,_,z⟩;exact (by cases z)),λ_ _=>(12),λ_=>(03,g))
 case copy=>exact(9,(by rintro⟨_,_,z⟩;exact (by cases z)),λi z=>(by cases z),λz=>Bool.noConfusion (show false=true from z))
 case deal=>exact(9,(by rintro⟨_,_,z⟩;exact (by cases z)),λi z=>(by cases z),λz=>Bool.noConfusion (show false=true from z))
 case bring=>exact(9,(by rintro⟨_,_,z⟩;exact (by cases z)),λi z=>(by cases z),λz=>Bool.noConfusion (show false=true from z))
 all_goals exact(9,λ_ s b=>by simp at b <;> first|rw[b]|(rcases b with rfl|rfl <;> rfl),λi z=>(by cases z),λz=>Bool.noConfusion (show false=true from z))
abbrev kgp:List V:=[.str "keep",.str "group",.str "part"]
def nsA:Act->List Str
 |.made _ (.keep _ ns)=>ns
 |.made _ (.nmd _ ns)=>ns
 |.made _ (.group _ ns _)=>ns
 |_=>[]
inductive Way (es:List En)(a:Act)(ss:List Sns)(s:Sns):Prop
 |scan {e}:nmA a = "scan"->e∈es->a=.made "scan" (.table e.n)->s.sp=aCx e.t.pl->Way es a ss s
 |sent:nmA a≠"scan"->inV (.str (nmA a)) nW=true->((∃i,a=.copy i/\s.sp=.copied)\/(∃i c,a=.deal i c/\s.sp=.dealt c)\/∃i h,a=.bring i h/\s.sp=.at_ h)->Way es a ss s
 |kept {t r}:nmA a≠"scan"->inV (.str (nmA a)) nW=false->ss=t::r->inV (.str (nmA a)) kgp=true->s.sp=lost (nsA a) t.sp->Way es a ss s
 |nmd {t r hd}:nmA a≠"scan"->inV (.str (nmA a)) nW=false->ss=t::r->inV (.str (nmA a)) kgp=false->nmA a = "named"->HQ (uX es) t.q hd->size t.q<=20->(nsA a).length=hd.length->(∀c,t.sp=.dealt c->∃k,look hd c=some k)->s.sp=rnm hd (nsA a) t.sp->Way es a ss s
 |join {t u r i j ps}:nmA a≠"scan"->inV (.str (nmA a)) nW=false->ss=t::u::r->inV (.str (nmA a)) kgp=false->nmA a≠"named"->nmA a = "join"->a=.made "join" (.join i j ps)->jnd t.sp u.sp ps=some s.sp->Way es a ss s
 |same {t r}:nmA a≠"scan"->inV (.str (nmA a)) nW=false->ss=t::r->inV (.str (nmA a)) kgp=false->nmA a≠"named"->nmA a≠"join"->s.sp=t.sp->Way es a ss s
set_option tactic.hygienic true in
def Fit.way (h:Fit es m a ss s):Way es a ss s:=by
 cases h
 case scan e he=>exact .scan rfl he rfl rfl
 case copy=>exact .sent (by unfold nmA;dsimp only;decide +kernel) rfl (.inl (02))
 case deal=>exact .sent (by unfold nmA;dsimp only;decide +kernel) rfl (.inr (.inl (12)))
 case bring=>exact .sent (by unfold nmA;dsimp only;decide +kernel) rfl (.inr (.inr (12)))
 case keep=>exact .kept (by unfold nmA;dsimp only;decide +kernel) rfl rfl rfl rfl
 case group=>exact .kept (by unfold nmA;dsimp only;decide +kernel) rfl rfl rfl rfl
 case part=>exact .kept (by unfold nmA;dsimp only;decide +kernel) rfl rfl rfl rfl
 case nmd h1 h2 h3 h4=>exact .nmd (by unfold nmA;dsimp only;decide +kernel) rfl rfl rfl rfl h1 h2 h3 h4 rfl
 case join h=>exact .join (by unfold nmA;dsimp only;decide +kernel) rfl rfl rfl (by unfold nmA;dsimp only;decide +kernel) rfl rfl h
 all_goals exact .same (by unfold nmA;dsimp only;decide +kernel) rfl rfl rfl (by unfold nmA;dsimp only;decide +kernel) (by unfold nmA;dsimp only;decide +kernel) rfl
def IsA.ns (h:IsA K H v a)(e:inV (.str (nmA a)) kgp=true\/nmA a = "named"):∃p x w xs,v=.ref p/\SqT K H p (.str (nmA a)::x::w::xs)/\bHi K H w (nsA a):=by
 have g:∀{s:Str},inV (.str s) kgp=false->s≠"named"->¬ (inV (.str s) kgp=true\/s = "named"):=λf d h=>by
  rcases h with h|h
  .rw[f] at h;cases h
  .exact d h
 cases h with
 |made a b c=>
  cases c with
  |keep f d=>have((n,l,rfl,i,k),_):=d;rw[qZ k] at i;exact(013,a,n,4,i)
  |nmd f d=>have((n,l,rfl,i,k),_):=d;rw[qZ k] at i;exact(013,a,n,4,i)
  |group f d h3=>have((n,l,rfl,i,k),_):=d;rw[qZ k] at i;exact(013,a,n,4,i)
  |table f=>generalize j:yN _=r at b;cases b <;> first|exact absurd e (g (7) (by unfold nmA;dsimp only;decide +kernel))|exact absurd j (by unfold yN;dsimp only;decide +kernel)
  |whr f d=>generalize j:yN _=r at b;cases b <;> first|exact absurd e (g (7) (by unfold nmA;dsimp only;decide +kernel))|exact absurd j (by unfold yN;dsimp only;decide +kernel)
  |join f d h3=>generalize j:yN _=r at b;cases b <;> first|exact absurd e (g (7) (by unfold nmA;dsimp only;decide +kernel))|exact absurd j (by unfold yN;dsimp only;decide +kernel)
  |first f d h3=>generalize j:yN _=r at b;cases b <;> first|exact absurd e (g (7) (by unfold nmA;dsimp only;decide +kernel))|exact absurd j (by unfold yN;dsimp only;decide +kernel)
 |merge _=>exact absurd e (g (s:="merge") rfl (0))
 |copy _=>exact absurd e (g (s:="copy") rfl (0))
 |deal _ _=>exact absurd e (g (s:="deal") rfl (0))
 |bring _=>exact absurd e (g (s:="bring") rfl (0))
inductive aT9 (K:bGC)(C:Addr)(vs:List V)(H:Hp)(Q:VK)(E_:XK):Prop
 |mk (v:V)(x y d:Addr)(m:Int)(es:List En)(a:Act)(us:List V)(ss:List Sns)(s:Sns)(_:vs=[v,.ref x,.ref y])(_:oO K H C y m d es)(_:IsA K H v a)(_:SqL K H x us)(_:bR (pQ K H) us ss)(_:Fit es m a ss s)(_:∀v' H',Same H H'->oU K H' v' s.sp->Q v' H')
def aKw (T:!Txt)(s:!OkM C 2 "heads" bXH (aFh K C))(o:!OkM C 4 "placing" bXO (aDo K C))(a7:!Ok 1 "scan_spread" ["placing"] (aTs K))(a4:!Ok 1 "sent_spread" bQO (aTg K))
  (a6:!Ok 1 "kept_spread" bXF (xO K)) (a5:!Ok 3 "named_spread" bQP (aS3 K)) (a2:!Ok 2 "join_spread" bQK (aUn K)) (zQ:!Ok 27 "head_of" q7 (aZ9 K)) :
  !Ok 28 "spread_at" bXG (aT9 K C):=by
 refine Ok.ofW T.aOd xN λZ H W Q hr h=>?_;have(v,x,y,d,m,X,a,us,ss,sn,rfl,J,G,F,R,hf,q):=h;have(I,m1,N):=T.oF;have oF:∃u,mg "SENDING"=some u/\RelV (.ref I) u:=(_,m1,4);have a3:=xN.nd;exists _,(aB (bL (cL bZ (aQ aK (vv 0) aA) aL) (aC (aH (aY a7 (va1 (bJb o (vv 2) (va1 (aQ aK (vv 0) aA))))))) aV) (aB (bL (fP fU (aQ aK (vv 0) aA) (dG (7) oF) (1)) (aC (aH (aY a4 (va1 (vv 0))))) aV) (aB (bU 3 (aQ aK (aQ bB (vv 1) aA) aA)) (aB (bL (fP fU (aQ aK (vv 0) aA) (aP (aF aL (aF aL (va1 aL)))) (1)) (aC (aH (aY a6 (aF (vv 3) (va1 (aQ aK (vv 0) aA)))))) aV) (aB (bL (cL bZ (aQ aK (vv 0) aA) aL) (aC (aH (aY a5 (aF (vv 3) (aF (aY zQ (aF (aEj (s.mono (6)) hr (vv 2)) (va1 (aQ aK (aQ bB (vv 1) aA) aA)))) (va1 (aQ aK (vv 0) aA))))))) aV) (aC (aH (gJ (cL bZ (aQ aK (vv 0) aA) aL) (aY a2 (aF (vv 3) (aF (aQ aK (aQ bB (vv 1) aA) aA) (va1 (aQ aK (vv 0) aA))))) (vv 3)))))))));have(p,xs,rfl,l):=G.word;have(dx,hy):=J.1;have g:∀{b k:Str},b≠k->decide (V.str b=V.str k)=false:=λh=>j9 λz=>h (V.str.inj z);refine (rd0 rfl l (438));cases hf.way with
 |scan e1 he ea X=>
  rw[j4 (congrArg V.str e1)];subst ea;cases G with
  |made a b c=>
   cases c with
   |table Y=>refine bI (3,y,dx,3,hy,4,rd1 rfl a (y,d,m,03,J,he,λH1 s1=>?_));have(_,_,_,_,a1,_):=J.2.1.tb _ he;exact(03,a1.same s1,λD H2 s2 h2=>q D H2 (s1.trans s2) (by rw[X];exact h2))
 |sent e1 e2 hs=>rw[g e1];refine aU (rd0 rfl l (I,3,.inr (N H),238));rw[if_neg (by decide:¬ (false=true)),e2];exact bI (30,a,sn.sp,4,G,hs,q)
 |kept e1 e2 e3 e4 e5=>rw[g e1];refine aU (rd0 rfl l (I,3,.inr (N H),238));rw[if_neg (by decide:¬ (false=true)),e2];subst e3;obtain _|⟨⟨b,vq,W,rfl,hb,hq,hsp⟩,htl⟩:=R;refine aU (3,x,_,0,02,F,at0 _ _,b,_,2,02,hb,at2 _ _ _ _,8);refine (rd0 rfl l ((6),λA O f3 f E=>(A,3,.inr (SqT.of E),238)));rw[if_neg (by decide:¬ (false=true)),e4];have(p',x0,w,a0,e,B,n,rfl,Y):=G.ns (.inl e4);cases e;exact bI (3,rd2 rfl (f.aG B) (01,nsA a,4,dU.same f hsp,(n,4,f.aG Y),λD U L h4=>q D U (f.trans L) (by rw[e5];exact h4)))
 |@nmd t r hd e1 e2 e3 e4 e5 k1 k2 k3 k4 k5=>rw[g e1];refine aU (rd0 rfl l (I,3,.inr (N H),238));rw[if_neg (by decide:¬ (false=true)),e2];subst e3;obtain _|⟨⟨b,vq,W,rfl,hb,hq,hsp⟩,htl⟩:=R;refine aU (3,x,_,0,02,F,at0 _ _,b,_,2,02,hb,at2 _ _ _ _,8);refine (rd0 rfl l ((6),λA O f3 f E=>(A,3,.inr (SqT.of E),238)));rw[if_neg (by decide:¬ (false=true)),e4];have(p',x0,w,a0,e,B,n,rfl,Y):=G.ns (.inr e5);cases e;refine aU (rd0 rfl (f.aG l) (438));rw[j4 (congrArg V.str e5)];refine bI (33,y,dx,3,f _ _ hy,4,y,d,m,X,4,J.same f,λp4 U f4 L g4=>?_);have M:=f.trans L;refine(3,x,_,0,02,M.seq F,at0 _ _,b,_,1,02,M.aG hb,at1 _ _ _,p4,_,uX X,t.q,hd,4,aNo (J.2.1.same M) g4,hq.same M,k2,k1,λvh H5 s5 hI=>?_);have S:=M.trans s5;exact (rd2 rfl (S.aG B) (_,vh,_,t.sp,hd,nsA a,4,dU.same S hsp,hI,k1.good.2.2,(n,4,S.aG Y),k3,k4,λD H6 s6 h6=>q D H6 (S.trans s6) (by rw[k5];exact h6)))
 |@join t u r i j ps e1 e2 e3 e4 e5 e6 ea hj=>
  rw[g e1];refine aU (rd0 rfl l (I,3,.inr (N H),238));rw[if_neg (by decide:¬ (false=true)),e2];subst e3;obtain _|⟨⟨b,vq,W,rfl,hb,hq,hsp⟩,htl⟩:=R;refine aU (3,x,_,0,02,F,at0 _ _,b,_,2,02,hb,at2 _ _ _ _,8);refine (rd0 rfl l ((6),λA O f3 f E=>(A,3,.inr (SqT.of E),238)));rw[if_neg (by decide:¬ (false=true)),e4];refine aU (rd0 rfl (f.aG l) (438));rw[g e5];refine aU (rd0 rfl (f.aG l) (438));rw[j4 (congrArg V.str e6)];subst ea;obtain _|⟨⟨b2,vq2,vs2,rfl,hb2,hq2,hsp2⟩,_⟩:=htl;cases G with
  |made a _ c=>
   cases c with
   |join _ _ hw=>exact bI (33,x,_,1,02,f.seq F,at1 _ _ _,b2,_,2,02,f.aG hb2,at2 _ _ _ _,3,p,_,0o3,02,f.aG a,aX rfl,01,t.sp,u.sp,sn.sp,ps,4,dU.same f hsp,dU.same f hsp2,(hw.same f λh=>h.same f).1,by have:=hw.2.2;lia,hj,λD U L h4=>q D U (f.trans L) h4)
 |same e1 e2 e3 e4 e5 e6 e7=>rw[g e1];refine aU (rd0 rfl l (I,3,.inr (N H),238));rw[if_neg (by decide:¬ (false=true)),e2];subst e3;obtain _|⟨⟨b,vq,W,rfl,hb,hq,hsp⟩,htl⟩:=R;refine aU (3,x,_,0,02,F,at0 _ _,b,_,2,02,hb,at2 _ _ _ _,8);refine (rd0 rfl l ((6),λA O f3 f E=>(A,3,.inr (SqT.of E),238)));rw[if_neg (by decide:¬ (false=true)),e4];refine aU (rd0 rfl (f.aG l) (438));rw[g e5];refine aU (rd0 rfl (f.aG l) (438));rw[g e6];exact aU (3,q _ O f (by rw[e7];exact dU.same f hsp))
inductive aTl (K:bGC)(C:Addr)(vs:List V)(H:Hp)(Q:VK)(E_:XK):Prop
 |mk (i:Int)(v:V)(x y d:Addr)(m:Int)(es:List En)(a:Act)(us:List V)(ss:List Sns)(s:Sns)(hd:Hdr)(_:vs=[.int i,v,.ref x,.ref y])(_:oO K H C y m d es)(_:IsA K H v a)(_:SqL K H x us)(_:bR (pQ K H) us ss)(_:Fits es m a ss s hd)(_:∀v' H',Same H H'->pQ K H' v' s->Q v' H')
def aL2 (T:!Txt)(O:!Ok 2 "question_at" bQJ (aYt K))(a1:!Ok 29 "need_fitting" bQI (bE7 K C))(S:!Ok 28 "spread_at" bXG (aT9 K C))(a0:!Ok 2 "is_sound" bQL (bAn K))(R:!Ok 1 "is_whole_at" bQJ (bFh K)) :
  !Ok 30 "sense_at" bQT (aTl K C):=by
 refine Ok.ofW T.aSd aBa λZ H W Q hr h=>?_;have(i,v,x,y,d,m,L,a,k,n,g,U,rfl,J,c,o,j,b,q):=h;have a2:=aBa.nd;exists _,(aB (bU 4 (aY O (aF (vv 1) (va1 (vv 2))))) (aB (eV (aY a1 (aF (vv 0) (aF (vv 1) (aF (vv 4) (va1 (vv 3))))))) (aB (bU 5 (aY S (aF (vv 1) (aF (vv 2) (va1 (vv 3)))))) (aB (bL (VW.pt (dZ (cL aR0 (vv 5) mG) (dO (cJ (cD (aY a0 (aF (vv 1) (aF (vv 4) (va1 (vv 2)))))))))) (aC fB) aV) (aC (aH (aP (aF (aY R (aF (vv 1) (va1 (vv 2)))) (aF (vv 4) (va1 (vv 5)))))))))));refine(33,v,x,a,k,n,g.q,4,c,o,j,b.fit.snd.1,b.fit.qat,λu H1 I D=>?_);refine(3333,i,v,u,y,d,m,L,a,g.q,U,4,J.same I,c.same I,D,b.few,b.head,b.deal,λi h e=>?_,λH2 s=>?_)
 .subst e;have:=b.fit;cases this
  assumption
 have f:=I.trans s;have t:=j.imp λ_ _ h=>h.same f;refine(333,v,x,y,d,m,L,a,k,n,g,4,J.same f,c.same f,f.seq o,t,b.fit,λW H3 E B=>?_);have p:=f.trans E;have F:=j.imp λ_ _ h=>h.same p;have(M,rfl,r):=B;have(Y,hw,N,V):=b.fit.snd;refine(023,aU (333,v,u,x,a,g.q,k,n,4,c.same p,D.same (s.trans E),p.seq o,F,Y,hw,N,V,λH4 z=>(3,aU ?_)));have l:=p.trans z;have G:=j.imp λ_ _ h=>h.same l;refine(33,v,x,a,k,n,g.w,4,c.same l,l.seq o,G,b.fit.iw,33,sz3,λp5 X f5 A g5=>?_);exact q _ X (l.trans A) (p5,u,.ref M,4,SqT.of g5,D.same (s.trans (E.trans (z.trans A))),M,4,A.aG (z.aG r))
def TK (K:bGC)(H H':Hp):Prop:=∀p xs,SqT K H p xs->SqT K H' p xs
def IsC.tk (e:TK K H H')(h:IsC K H v c):IsC K H' v c:=by have(p,rfl,a):=h;exact(p,4,e _ _ a)
def aK9 {α:Type}{K:bGC}{H H':Hp}{R S:V->α->Prop}{v:V}{xs:List α}(e:TK K H H')(k:∀a b,R a b->S a b)(h:qL K H R v xs):qL K H' S v xs:=by have(a,f,rfl,d,c):=h;exact(a,f,4,e _ _ d,c.imp k)
def eU.tk (e:TK K H H')(h:eU K H v hd):eU K H' v hd:=aK9 e (λ_ _ q=>q.tk e) h
def aX9 (h:aEd x=true):Th K H x:=by
 cases x with
 |int i=>exact .inr (.inl (i,4))
 |str z=>have h:(false || tW 0 (.str z))=true:=h;rw[Bool.false_or] at h;have(y,e,_,a,_):=aCi h;cases e;exact gO a
 |_=>cases h
def IsO.tk (e:TK K H H')(h:IsO K H v o):IsO K H' v o:=by
 cases o with
 |val x=>have(a,rfl,b,g,c):=h;exact(a,4,e _ _ b,aX9 c,c)
 |col d=>have(a,rfl,b,f):=h;exact(a,4,e _ _ b,f)
def IsT.tk (e:TK K H H')(h:IsT K H v t):IsT K H' v t:=by have(a,w,rfl,c,f,d,b):=h;exact(a,w,4,e _ _ c,f,d,b.tk e)
def pP.tk (e:TK K H H')(h:pP K H v t):pP K H' v t:=by have(a,rfl,b,c):=h;exact(a,4,e _ _ b,c)
def rC.tk (e:TK K H H')(h:rC K H v t):rC K H' v t:=by have(a,rfl,b,c):=h;exact(a,4,e _ _ b,c)
def oR.tk (e:TK K H H')(h:oR K H v t):oR K H' v t:=by
 have(a,rfl,b,d):=h;exists a,4,b;rcases d with⟨x,y,z⟩|⟨c,x,y,z,u⟩
 .exact .inl (x,y,e _ _ z)
 .exact .inr (c,x,y,z,e _ _ u)
def fY.tk {α:Type}{S:bGC->Hp->V->α->Prop}{lo hi:Nat}{K:bGC}{H H':Hp}{v:V}{xs:List α}(e:TK K H H')(k:∀{v t},S K H v t->S K H' v t)(h:fY S lo hi K H v xs):fY S lo hi K H' v xs:=
 (aK9 e (λ_ _=>k) h.1,h.2)
def IsQ.tk {K:bGC}{H H':Hp}{v:V}{q:Qn}(e:TK K H H')(h:IsQ K H v q):IsQ K H' v q:=by
 induction h with
 |table a b=>exact .table (e _ _ a) b
 |whr a _ c ih=>exact .whr (e _ _ a) ih (c.tk e λh=>h.tk e)
 |keep a _ c ih=>exact .keep (e _ _ a) ih (c.tk e λh=>h)
 |nmd a _ c ih=>exact .nmd (e _ _ a) ih (c.tk e λh=>h)
 |join a _ _ c ih1 ih2=>exact .join (e _ _ a) ih1 ih2 (c.tk e λh=>h.tk e)
 |group a _ c d ih=>exact .group (e _ _ a) ih (c.tk e λh=>h) (d.tk e λh=>h.tk e)
 |first a _ c d ih=>exact .first (e _ _ a) ih (c.tk e λh=>h.tk e) d
def dU.tk (e:TK K H H')(h:dU K H v r):dU K H' v r:=by have(a,rfl,b):=h;exact(a,4,e _ _ b)
def pQ.tk (e:TK K H H')(h:pQ K H v s):pQ K H' v s:=by have(a,d,g,rfl,f,c,b):=h;exact(a,d,g,4,e _ _ f,c.tk e,dU.tk e b)
structure Plan (es:List En)(m:Int)(as:List Act)(ss:List Sns):Prop where
 len:as.length=ss.length
 ahead:∀(k:Nat) a,as[k]?=some a->∀i∈acs a,i<k
 fit:∀(k:Nat) a s,as[k]?=some a->ss[k]?=some s->∃ts hd,bR (λi t=>ss[i]?=some t) (acs a) ts/\Fits es m a ts s hd
inductive bAv (K:bGC)(C:Addr)(vs:List V)(H:Hp)(Q:VK)(E_:XK):Prop
 |mk (y l d:Addr)(m:Int)(es:List En)(us:List V)(as:List Act)(ss:List Sns)(_:vs=[.ref y,.ref l])(_:oO K H C y m d es)(_:SqL K H l us)(_:bR (IsA K H) us as)(_:1<=as.length)(_:as.length<=60)(_:Plan es m as ss)(_:∀D H' ws,H D=none->Same H H'->H' D=some (.lst ws)->bR (pQ K H') ws ss->Q (.ref D) H')
def aVt (T:!Txt)(a4:!Ok 10 "is_plan" n6 (aHu K))(a1:!Ok 30 "sense_at" bQT (aTl K C))(a5:!Ok 2 "acts_in" bQO (aQe K)):!Ok 31 "senses" ["town","plan"] (bAv K C):=by
 refine Ok.ofW T.aZw aH2 λZ H vs Q hr h=>?_;have(y,l,d,m,es,us,as,B,rfl,ht,M,L,l1,l2,g,q):=h;have a3:=aH2.nd;exists _,(aB (bL (cJ (cD (aY a4 (va1 (vv 1))))) (aC fB) aV) (aB (bU 2 (cU cW)) (aB (nH PassesOwn.never rfl (aLl (7) T.uD (va1 (vv 1))) (iY rfl (aW (cP 3) (aW (cP 4) cV))) (aC (eV (qM PySem.F.plainAttrs_list PySem.F.slot_list_append PySem.F.type_list_append iW (vv 2) (va1 (aY a1 (aF (vv 3) (aF (vv 4) (aF (bY (N:=["ahead","told"]) ck (dC (aD aDs)) rfl (iD (aY a5 (va1 (vv 4)))) (λcl s' c fp=>((dF 0),cI,(aQ (nA (K:=K)) (vv 1) (vv 0))))) (va1 (vv 0))))))))))) (aC (aH (vv 2))))));have lu:=L.len;refine(3,l,us,as,4,M,L,l1,l2,g.ahead,λH1 s1=>(3,aU ?_));refine(sz0,λD H2 f2 s2 g2=>?_);have hD:H D=none:=by
  cases e:H D with
  |none=>rfl
  |some o=>rw[s1 _ _ e] at f2;cases f2
 refine(3,l,us,4,(s1.trans s2).seq M,aMf (λi σ c=>Same H c/\∃(ws:List V) (l3 l4:Option V),c D=some (.lst ws)/\bR (pQ K c) ws (B.take i)/\σ=[some (.ref y),some (.ref l),some (.ref D),l3,l4]) (s1.trans s2,[],00,g2,.nil,4) (by rintro i σ c _ ⟨e,_⟩;exact e.seq M) ?_ ?_)
 .rintro i σ c v Tt H3 hv ⟨sm,ws,l3,l4,hw,hse,rfl⟩ hTt rfl;have f:Same c (upd c Tt (.tup [.int (i:Nat),v])):=bJ hTt _;have(a,S,E):=bQ L hv;have X:i<B.length:=by rw[<-g.len];exact (List.getElem?_eq_some_iff.mp S).1
  have(W,hd,s,hf):=g.fit i a B[i] S (b7 X);exists Tt,3,.inl (.inl aO),40,[v],4,v,[],44;generalize upd c Tt (.tup [.int (i:Nat),v])=H3 at f;have t3:=sm.trans f;have lw:=hse.len;have lp:=g.len;rw[bAK,bFD (bDJ X)] at lw;have la:=aTo a;have lt:=s.len;exists 3,.inl (40,SqL.of (f _ _ hw)),33;dsimp only[cX];refine zN (K:=K) (λu=>u=(acs a).map λi=>V.int (i:Nat)) (λj H y=>∃t,W[j]?=some t/\pQ K H y t) (λe h=>?_) (λe h=>?_) [none,some (.ref D)] ?_ rfl (λR r=>(3,v,a,4,E.same t3,λD4 H4 s4 g4=>r D4 H4 _ s4 g4 rfl)) (λu x=>small (by rw[x,d7];lia)) (λu x j z ez H5 R l A r=>?_) λu x D5 H5 ys A g5 a2 hR=>?_
  .have(t,n,p):=h;exact(t,n,p.same e)
  .have(t,n,p):=h;exact(t,n,p.tk λ_ _ k=>k.jK e)
  .exact eX 2 (0) rfl rfl (0)
  .subst x;have(b,hb,rfl):=iR ez;have(t,a0,Y):=bQ s hb;have U:=g.ahead i a S b (aKi hb);have G:ws[b]?=some (ws[b]'(5)):=b7 (5);have O:=mQ hse G (show (B.take i)[b]?=some t by rw[bEE U];exact Y);exact(33,D,ws,b,02,SqL.of (A _ _ (f _ _ hw)),aX G,r _ _ (Same.refl _) (t,a0,O.same (f.trans A)))
  .have t5:=t3.trans A;have lz:u.length=(acs a).length:=by rw[x,d7]
   have J:bR (pQ K H5) ys W:=pA (5) λj y t G e2=>by have(t',n,p):=hR j y G;rw[e2] at n;cases n;exact p
   refine(3,i,v,D5,y,d,m,es,a,ys,W,B[i],hd,4,ht.same t5,E.same t5,SqL.of g5,J,hf,λv' H6 s6 h6=>?_);have I:=f.trans (A.trans s6);refine(D,ws,v',44,I _ _ hw,small (5),jV hD (sm.trans I),01,aO,84);have k:TK K H6 (upd H6 D (.lst (ws++[v']))):=λ_ _ k=>k.jK (I _ _ hw);rw[bBE,b7 X];exact (hse.imp λ_ _ h=>(h.same I).tk k).app (.cons (h6.tk k) .nil)
 .rintro σ c ⟨sm,ws,l3,l4,hw,hse,rfl⟩;refine(3,q D c ws hD sm hw ?_);rw[lu,g.len,bDR] at hse;exact hse
inductive aI1 (K:bGC)(vs:List V)(H:Hp)(Q:VK)(E_:XK):Prop
 |mk (a:Addr)(ns:List Int)(_:vs=[.ref a])(_:SqL K H a (ns.map V.int))(_:ns.length<=63)(_:∀c H',Same H H'->0<=c->c<M61->Q (.int c) H')
def aKo (T:!Txt):!Ok 1 "_law_seed" v6 (aI1 K):=by
 refine Ok.ofW T.aNq yI λZ H m Q l h=>?_;have(a,j,rfl,d,f,q):=h;have g:=yI.nd;exists _,(aB (bU 1 aA) (aB (nH PassesOwn.never rfl (aLl (7) T.uD (va1 (vv 0))) (iY rfl (aW (cP 2) (aW (cP 3) cV))) (aC (bU 1 (cA wI (cA dX (cA dX (cA dX (cA zZ (vv 1) aA) (cA wI (vv 3) (cA aK0 aA aA))) (cA zZ aA (vv 2))) aA) aA)))) (aC (aH (vv 1)))));refine(3,a,j.map V.int,4,d,aMf (λi σ b=>Same H b/\∃c l2 l3,0<=c/\c<M61/\σ=[some (.ref a),some (.int c),l2,l3]) (Same.refl H,0o7,1664) (by rintro i σ b _ ⟨e,_⟩;exact e.seq d) ?_ ?_)
 .rintro i σ b x Tp H'' ex ⟨sm,c,l2,l3,c0,c1,rfl⟩ hT rfl;have(z,k,rfl):=iR ex;exists Tp,3,SqT.of aO,40312;exists 312,.inr (66),312,(666),12,(6),12312,.inl (66),121212,(6);exact(sm.trans (bJ hT _),01,bFG _ (6),bEI _ (6),4)
 .rintro σ b ⟨sm,c,l2,l3,c0,c1,rfl⟩;exact(3,q c b sm c0 c1)
inductive jF (vs:List V)(H:Hp)(Q:VK)(E_:XK):Prop
 |mk (a:Addr)(m:Int)(_:vs=[.ref a,.int m])(_:lJ H a)(_:(0<m/\m<2 ^ 64))(_:∀c H',Fx a H H'->0<=c->c<m->Q (.int c) H')
def aKv (T:!Txt):!Ok 1 "_law_next" n7 jF:=by
 refine Ok.ofW T.aNp yK λZ H x Q v h=>?_;have(a,m,rfl,(g,i,d,r,k),(e,f),q):=h;have s:=yK.nd;exists _,(aB (bL (cL aBb (aQ bB (vv 0) aA) aA) (aB (nJ (aJ aWp (7) T.aY8 aVu (aF (aQ bB (vv 0) aA) (va1 (vv 1)))) (iY rfl (aW (aY6 (vv 0) aA set_list) (aW (cP 2) cV)))) (aC (aH (vv 2)))) aV) (aB (nJ (cA wI (cA dX (cA zZ (aQ bB (vv 0) aA) aA) aA) aA) (aY6 (vv 0) aA set_list)) (aC (aH (cA wI (cA aUf (aQ bB (vv 0) aA) aA) (vv 1))))));refine(3,a,_,1,02,SqL.of d,at1 _ _ _,123,aAr (λc=>?_) λc=>?_)
 .refine(3,a,_,1,02,SqL.of d,at1 _ _ _,303,(e,f),λp u t j l=>?_);refine(p,3,SqT.of l,403,(3,a,_,1,1,44,j _ _ d,48));exists 123;exact q _ _ (λb o n h=>by rw[bC n];exact j _ _ h,g,i / m,aO,r,Int.ediv_nonneg k (5)) (bFG _ (5)) (bEI _ e)
 .exists 3,a,_,0,02,SqL.of d,at0 _ _,12,.inr (66),1212,(6);exists 3,a,_,0,0,44,d,4;exists 3,a,[.int ((g * 1181783497276652981+12345678910987) % 2305843009213693951),.int i],0,02,SqL.of aO,at0 _ _,12,(66),312,e;exact q _ _ (λb o n h=>by rw[bC n];exact h,(g * 1181783497276652981+12345678910987) % 2305843009213693951,i,aO,(bFG _ (6),bEI _ (6)),k) (bFG _ (5)) (bEI _ e)
inductive aNt (K:bGC)(vs:List V)(H:Hp)(Q:VK)(E_:XK):Prop
 |mk (a:Addr)(ns:List Int)(_:vs=[.ref a])(_:SqL K H a (ns.map V.int))(_:ns.length<=63)(_:∀p H',H p=none->Same H H'->lJ H' p->Q (.ref p) H')
def aGj (T:!Txt)(i:!Ok 1 "_law_seed" v6 (aI1 K)):!Ok 2 "_law_begin" v6 (aNt K):=by
 refine Ok.ofW T.aJu uZ λZ H z Q y h=>?_;have(a,g,rfl,d,e,q):=h;have u:=uZ.nd;exists _,(aB (bU 1 aA) (aB (bL (VW.pt (jH (cL aBb (aJ aM (7) T.cH bM (va1 (vv 0))) aA) (iU (cL bZ (cA wI (aQ bB (vv 0) aA) aA) aA)))) (aC (bU 1 (cA aUf (aJ aYp (7) T.bJt bGb (va1 (aQ bB (vv 0) aA))) aA))) aV) (aC (aH (cU (aF (aY i (va1 (vv 0))) (va1 (vv 1))))))));have b:∀dg:Int,0<=dg->∀σ,σ=[some (.ref a),some (.int dg)]->(qI (bFm (cX (aEh (aI1 K) [] E0 (cX (wR 0) aJl)) (cX (wR 1) aJl)))) { nx:=λ_ t=>Q V.non t,rt:=Q } σ H:=by rintro dg d0 σ rfl;exact(3,a,g,4,d,e,λc x f v s=>(3,sz2,λp j k l o=>q p j (f.free k) (f.trans l) (c,dg,o,(v,s),d0)))
 exists 3,a,3,.inl d,123;cases g with
 |nil=>exact aU (b 0 (6) _ rfl)
 |cons n r=>
  have m:decide ((0:Int)<((n::r).map V.int).length)=true:=j4 (9);rw[show (decide (((((n::r).map V.int).length:Nat):Int) > 0))=true from m];refine bI (3,a,_,0,.int n,44,d,at0 _ _,12,(6),43,aAr (λc=>?_) λc=>?_)
  .exact(3,a,_,0,.int n,44,d,at0 _ _,312,(66),b _ (Int.ediv_nonneg (by split <;> lia) (6)) _ rfl)
  .exact b 0 (6) _ rfl
def _root_.L2.Fx.tk (f:Fx a H H')(h:lJ H a):TK K H H':=λ_ _ e=>f.aG h e
abbrev aR1:List V:=[.str "",.str "a",.str "b",.str "ab",.str "",.str "a",.str "b",.str "ab",.str "zz",.str "abcdefgh"]
inductive aLi (vs:List V)(H:Hp)(Q:VK)(E_:XK):Prop
 |mk (a:Addr)(kd:Str)(_:vs=[.ref a,.str kd])(_:lJ H a)(_:aDb kd)(_:∀v H',Fx a H H'->jD kd v->Q v H')
def aRu (h:v∈aR1):jD "word" v:=by
 have b:∀x∈(["","a","b","ab","zz","abcdefgh"]:List Str),(x.cps.all λc=>decide (97<=c) && decide (c<=122))=true/\x.length<=8:=by trivial
 have:∃x∈(["","a","b","ab","zz","abcdefgh"]:List Str),v=.str x:=by simp only[aR1,bAS,bAH,or_false] at h;rcases h with rfl|rfl|rfl|rfl|rfl|rfl|rfl|rfl|rfl|rfl <;> exact(094)
 have(x,a,rfl):=this;refine .wrd (λc d=>?_) (b x a).2;have:=(Array.all_eq_true_iff_forall_mem.mp (b x a).1) c d;rw[bAX] at this;exact(of_decide_eq_true this.1,of_decide_eq_true this.2)
def aGq (T:!Txt)(m:!Ok 1 "_law_next" n7 jF):!Ok 2 "_law_value" bQM aLi:=by
 refine Ok.ofW T.aKt vG λZ H I Q F h=>?_;have(a,O,rfl,D,y,q):=h;have C:=vG.nd;exists _,(aB (bU 2 (aY m (aF (vv 0) (va1 aA)))) (aB (bL (cL bZ (vv 1) aL) (aC (aH (aQ bB (cU (aF (cA qO (aY m (aF (vv 0) (va1 aA))) aA) (va1 (cA zZ (cA qO (aY m (aF (vv 0) (va1 (cA aK0 aA aA)))) (cA zZ aA (cA aK0 aA aA))) (cA aK0 aA aA))))) (bF gU (7) T.rQ nG (va1 (lW bZ (vv 2) aA)))))) aV) (aC (aH (aQ bB (cU (aF aL (aF aL (aF aL (aF aL (aF aL (aF aL (aF aL (aF aL (aF aL (va1 aL))))))))))) (vv 2))))));refine(3,a,0o12,4,D,6,λb N l s t=>?_);rcases y with rfl|rfl
 .refine(023,bI ?_);refine(3,a,0o4,4,l.st,6,λd M o J G=>?_);refine(12312,(666),a,3,o.st,6,λg E x L A=>?_);have i:((10:Int) ^ (15:Int).toNat)=1000000000000000:=by decide
  have k:(5 * (10:Int) ^ (14:Int).toNat)=500000000000000:=by decide
  rw[i] at A;refine(12,(666),12,.inl (66),1212,(666),12,.inl (by rw[k];lia),sz2,λp u _ f c=>?_);have n:=(l.trans (o.trans x)).sm f;refine(02,.inr (38));by_cases e:b=9
  .rw[j4 (congrArg V.int e)];exact(p,012,SqL.of c,aX rfl,q _ _ n .num)
  .rw[j9 (by intro z;exact e (V.int.inj z))];exact(p,012,SqL.of c,aX rfl,q _ _ n .num)
 .refine(023,aU ((6),λp u _ f c=>?_));have(v,r,B):=at_of (xs:=aR1) (j:=b) s t;exact(3,p,00,v,44,SqL.of c,r,q _ _ (l.sm f) (aRu B))
theorem oK {α:Type}:∀(k:Nat) (xs:List α),sel (λ_=>true) k xs=xs
 |_,[]=>rfl
 |k,x::r=>by show (if true=true then x::sel (λ_=>true) (k+1) r else _)=_;rw[if_pos rfl,oK (k+1) r]
def mC (h:pR R (List.range n) ys):ys.length=n/\∀i y,ys[i]?=some y->R i y:=by
 have b:∀{d:List Nat} {ys:List V},pR R d ys->∀(i:Nat) (y:V),ys[i]?=some y->∃j,d[i]?=some j/\R j y:=by
  intro d ys h
  induction h with
  |nil=>intro i y e;simp at e
  |cons r _ ih=>
   intro i y e;cases i with
   |zero=>cases e;exact(3,r)
   |succ i=>have(j,a,c):=ih i y (by simpa using e);exact(j,by simpa using a,c)
 have l:=h.len;rw[bAG] at l;refine(l.symm,λi y e=>?_);have(j,a,c):=b h i y e;have f:i<n:=by have:=(List.getElem?_eq_some_iff.mp e).1;lia
 rw[bBY f] at a;cases a;exact c
def uR (i j:Nat)(c:(y,NameKind.free,)∈scope.names)(f:(z,NameKind.free,)∈scope.names)(hi:X.N[i]?=some y)(d:X.N[j]?=some z)(hs:σ[i]?=some (some u))(g:σ[j]?=some (some v))(h:Vis X.env.scope y)(e:Vis X.env.scope z):Cap X scope [x,y,z] σ [none,some u,some v]:=
 (4,λn q r a b=>by
  match n,a,b with
  |0,_,b=>cases b
  |1,a,b=>cases a;cases b;exact(c,i,hi,hs,h)
  |2,a,b=>cases a;cases b;exact(f,j,d,g,e)
  |n+3,a,_=>cases a)
def oG.fx (f:Fx a H H')(h:lJ H a)(g:D≠a)(r:oG K H D rs):oG K H' D rs:=by have(c,d,b):=r;exact(c,f.same _ _ g d,b.imp (by rintro _ _ ⟨p,e,hp⟩;exact(p,e,f.aG h hp)))
def aFe (e:((List.range n).map λi:Nat=>V.int (0+(i:Int)))[i]?=some x):i<n/\x=.int (0+(i:Int)):=by
 have a:i<n:=by have:=(List.getElem?_eq_some_iff.mp e).1;rw[d7,bAG] at this;exact this
 rw[j5,bBY a] at e;exact(a,(bAL e).symm)
def mL (b:L2.St)(a:Cap X scope N σ b)(h:ta σ H λvs H1=>∃j:Int,vs=[.int j]/\-(2 ^ 62)<=j/\j<2 ^ 62/\rW (Itr 0 j.toNat) H1 b g tt te Q):jB X scope N (aTy ta) g tt te σ H Q:=(b,a,h)
def bEz {K:bGC}{H:Hp}{Pr:List V->Prop}:∀{ys:List V},(∀y∈ys,∃r,dU K H y r/\Pr r)->∃rs,bR (dU K H) ys rs/\∀r∈rs,Pr r:=by
 intro a
 induction a with
 |nil=>rintro _;exact([],.nil,λr h=>by cases h)
 |cons y ys ih=>
  rintro h;have(r,c,d):=h y v7;have(rs,b,e):=ih λz f=>h z (j8 _ f);refine(r::rs,.cons c b,λx hx=>?_);rcases List.mem_cons.mp hx with rfl|hx
  .exact d
  .exact e x hx
def bC7 (i j k:Nat)(f:(y,NameKind.free,)∈scope.names)(m:(z,NameKind.free,)∈scope.names)(c:(y3,NameKind.free,)∈scope.names)(hi:X.N[i]?=some y)(g:X.N[j]?=some z)(h:X.N[k]?=some y3)(hs:σ[i]?=some (some u))(o:σ[j]?=some (some v))(d:σ[k]?=some (some u3))(p:Vis X.env.scope y)(l:Vis X.env.scope z)(e:Vis X.env.scope y3):Cap X scope [x,y,z,y3] σ [none,some u,some v,some u3]:=
 (4,λn q r a b=>by
  match n,a,b with
  |0,_,b=>cases b
  |1,a,b=>cases a;cases b;exact(f,i,hi,hs,p)
  |2,a,b=>cases a;cases b;exact(m,j,g,o,l)
  |3,a,b=>cases a;cases b;exact(c,k,h,d,e)
  |n+4,a,_=>cases a)
def xR (ns:List Str):Prop:=ns.length=17/\(∀n∈ns,Nm n)/\ns.Nodup
def bGu:∀j:_root_.Fin 26,abc.cps[j.val]?=some (97+j.val):=by trivial
def bDf (h:j<26):abc.cps[j]?=some (97+j):=bGu (j,h)
def stm (b:Str)(a o:Nat):Nat->List Str:=λi=>(List.range i).map λk=>put b a (97+(o+k))
def bIx (y:Lets b)(hl:b.length<=7)(h:a<=b.length)(ho:o<10)(x:∀w∈words,inV w ((stm b a o 17).map V.str)=false):xR (stm b a o 17):=by
 exists by simp[stm],λn j=>?_
 .have(k,i,rfl):=List.mem_map.mp j;have i:=List.mem_range.mp i;have d:inV (.str (put b a (97+(o+k)))) words=false:=by
   cases e:inV (.str (put b a (97+(o+k)))) words with
   |false=>rfl
   |true=>
    exfalso;unfold inV at e;rw[bEX] at e;have(v,f,q):=e;have g:∃z:Str,v=.str z:=by simp only[words,bAS,bAH,or_false] at f;rcases f with rfl|rfl|rfl|rfl|rfl|rfl|rfl|rfl|rfl|rfl|rfl|rfl|rfl|rfl|rfl|rfl|rfl <;> exact(3)
    have(z,rfl):=g;have u:(z == put b a (97+(o+k)))=true:=q;have m:z=put b a (97+(o+k)):=by simpa using u
    have:=x _ f;rw[lV,decide_eq_false_iff_not] at this;exact this (by rw[m];exact j)
  show ((decide (1<=(put b a (97+(o+k))).length) && (decide ((put b a (97+(o+k))).length<=8) && allIn (put b a (97+(o+k))))) && !inV (.str (put b a (97+(o+k)))) words)=true;have s:Lets (put b a (97+(o+k))):=λc r=>by
   rcases bEm h r with rfl|z
   .lia
   .exact y c z
  rw[aTa h,j4 (p:=1<=b.length+1) (5),j4 (p:=b.length+1<=8) (5),allIn_of s,d];rfl
 .refine List.pairwise_map.mpr (List.Pairwise.imp_of_mem ?_ List.nodup_range);intro k l _ _ t e;have:=bC6 h e;exact t (5)
def aZ3:Sp:=λvs H Q _=>∃a:Addr,vs=[.ref a,.int 17]/\lJ H a/\∀p H' ns,Fx a H H'->H p=none->H' p=some (.lst (ns.map V.str))->xR ns->Q (.ref p) H'
def uK (hs:lJ H a)(hn:n<=1000)(Rel:Nat->Hp->V->Prop)
  (s:∀{i H1 H2 y},Fx a H H1->Fx a H1 H2->Rel i H1 y->Rel i H2 y) (t:∀{i H1 D ys zs y},H D=none->Fx a H H1->H1 D=some (.lst ys)->Rel i H1 y->Rel i (L2.upd H1 D (.lst zs)) y)
  (u:∀(i:Nat) H' R,i<n->Fx a H H'->(∀y H2,Fx a H' H2->Rel i H2 y->R y H2)->te (some (.int (i:Nat))::vs) H' R)
  (q:∀D H' ys,Fx a H H'->H D=none->H' D=some (.lst ys)->ys.length=n->(∀(i:Nat) y,ys[i]?=some y->Rel i H' y)->Q (.ref D) H'):rW (Itr 0 n) H (none::vs) (cF 0) lO te Q:=by
 refine vH (Fx a) (bFt hs) ((List.range n).map λi:Nat=>V.int (0+(i:Int))) (λ_=>true) Rel s t (λi σ=>σ=some (.int (i:Nat))::vs) (fun σ=>∃l,σ=l::vs) (none,4) (small (by rw[d7,bAG];exact hn)) (Itr 0 n) (λH' i x _ b=>?_) (λH' _=>?_) (λi x o H' p b k c r=>?_) (λi x m b at2 H' R c r=>r H' (Fx.refl c.st)) (λi x m b at2 _ H' R c r=>?_) λD H' ys c h j d=>?_
 .have(f,rfl):=aFe b;exact(f,λy H2 e=>e)
 .rw[d7,bAG];exact j6 _
 .have(l,rfl):=k;have(f,rfl):=aFe b;rw[Int.zero_add];exact r _ (3) rfl
 .subst at2;exact u i H' R (aFe b).1 c r
 .rw[oK,d7,bAG] at d;have(g,e):=mC d;exact q D H' ys c h j g e
def Qxz (b:Str):Prop:=∀c∈b.cps,c=113\/c=120\/c=122
abbrev wl:List Str:=["and","by","count","down","first","group","join","keep","least","most","named","on","sum","table","up","where","with"]
def bKo:∀z∈wl,2<=z.length/\(z.cps.all λc=>decide (c≠113) && (decide (c≠120) && decide (c≠122)))=true:=by trivial
def bIu {b:Str}{a o:Nat}(s:Qxz b)(l:a<=b.length):∀w∈words,inV w ((stm b a o 17).map V.str)=false:=by
 intro w m;have:∃z∈wl,w=.str z:=List.mem_map.mp (show w∈wl.map V.str from m) |>.imp λz h=>(h.1,h.2.symm)
 have(z,n,rfl):=this;rw[lV];refine j9 λj=>?_;have(k,q,e):=List.mem_map.mp j;have(r,f):=bKo z n;have p:=aTa (c:=97+(o+k)) l;rw[e] at p;have d:0<b.cps.size:=by have:b.length=b.cps.size:=rfl;lia
 have i:=Array.getElem_mem d;have g:b.cps[0]∈z.cps:=by
  rw[<-e,<-Array.mem_toList_iff,aCl l];have:b.cps[0]∈b.cps.toList:=Array.mem_toList_iff.mpr i;rw[<-bEW a b.cps.toList] at this;rcases List.mem_append.mp this with h|h
  .exact bCF _ h
  .exact bAV _ (j8 _ h)
 have:=(Array.all_eq_true_iff_forall_mem.mp f) _ g;rw[bAX,bAX] at this;rcases s _ i with h|h|h
 .exact of_decide_eq_true this.1 h
 .exact of_decide_eq_true this.2.1 h
 .exact of_decide_eq_true this.2.2 h
theorem aH9:∀ts,(∀t∈ts,Qxz t)->Qxz (Str.join "" ts)
 |[],_=>λc hc=>absurd (show c∈(#[]:Array Nat) from hc) (Array.not_mem_empty _)
 |[x],h=>h x (List.mem_singleton.mpr rfl)
 |x::y::r,h=>by
  have a:=aH9 (y::r) λt b=>h t (j8 _ b);intro c hc;have hc:=hc;rcases Array.mem_append.mp hc with hc|hc
  .rcases Array.mem_append.mp hc with hc|hc
   .exact h x v7 c hc
   .exact absurd hc (Array.not_mem_empty _)
  .exact a c hc
def aZs (ts:List Str)(h:∀t∈ts,Qxz t):Qxz (Txt.join "" ts):=by show Qxz (Builtin.Str.glued "" ts);rw[StrLaws.glued_eq_join];exact aH9 ts h
def bDc {ys:List V}{p:Str->Prop}(h:∀(i:Nat) y,ys[i]?=some y->∃x,y=.str x/\p x):∃ts:List Str,ys=ts.map V.str/\∀t∈ts,p t:=by
 induction ys with
 |nil=>exact([],4,λt a=>by cases a)
 |cons y ys ih=>have(x,rfl,b):=h 0 y rfl;have(ts,rfl,a):=ih λi z e=>h (i+1) z e;exact(x::ts,4,λt m=>by rcases List.mem_cons.mp m with rfl|m;exact b;exact a t m)
def bG7:∀j:_root_.Fin 3,∃c,("qxz":Str).cps[j.val]?=some c/\(c=113\/c=120\/c=122):=by
 intro j
 match j with
 |(0,_)=>exact(0o161,(by show ("qxz":Str).cps[0]?=some 113;decide +kernel),.inl rfl)
 |(1,_)=>exact(0o170,(by show ("qxz":Str).cps[1]?=some 120;decide +kernel),.inr (.inl rfl))
 |(2,_)=>exact(0o172,(by show ("qxz":Str).cps[2]?=some 122;decide +kernel),.inr (.inr rfl))
 |(n+3,h)=>exact absurd h (5)
def aF9 (T:!Txt)(L:!Ok 1 "_law_next" n7 jF):!Ok 2 "_law_names" n7 aZ3:=by
 refine Ok.ofW T.aJ7 vJ λZ H vs Q hr h=>?_;have(a,rfl,hs,q):=h;have a2:=vJ.nd;exists _,(aB (bU 2 (aY L (aF (vv 0) (va1 (cA qO aA (vv 1)))))) (aB (bU 3 (qM PySem.F.plainAttrs_str PySem.F.slot_str_join PySem.F.type_str_join bB3 aL (va1 (bY (N:=["_law_k","_law_state"]) ck (dC (aD nU)) rfl (dW (7) T.gW (va1 (aY L (aF (vv 0) (va1 aA))))) (λcl s' J fp=>((dF 0),cI,(sW aL (aY L (aF (vv 1) (va1 aA))) (λ_ _=>rfl)))))))) (aB (bU 4 (aY L (aF (vv 0) (va1 (cA dX (aJ xM (7) T.cH bM (va1 (vv 3))) aA))))) (aC (aH (bY (N:=["_law_k","_law_base","_law_at_here","_law_odd"]) ck (dC (aD nU)) rfl (dW (7) T.gW (va1 (vv 1))) (λcl s' J fp=>((dF 0),cI,(cA aDg (cA aDg (dM aTn (vv 1) fK (eE (vv 2))) (sW aL (cA dX (vv 3) (vv 0)) (λ_ _=>rfl))) (dM aTn (vv 1) (eE (vv 2)) fK))))))))));refine(3312,a,0o12,4,hs,6,λU H1 f1 o0 o1=>?_);obtain⟨o,rfl⟩:∃o:Nat,U=o:=(U.toNat,5);have ho:o<10:=by lia
 exists 4;dsimp only[cX];refine mL [none,some (.ref a)] (eX 0 (0) rfl rfl (0)) ?_;refine(3,a,0o10,4,f1.st,6,λn H2 X n0 n1=>(n,455,uK X.st (n:=n.toNat) (5) (λ_ _ y=>∃x:Str,y=.str x/\x.length=1/\Qxz x) (λ_ _ h=>h) (λ_ _ _ h=>h) (λi J R s u r=>?_) λD H3 A f3 Y I ly E=>?_))
 .refine(3,a,0o3,4,u.st,6,λz H4 p z0 z1=>?_);obtain⟨v,rfl⟩:∃v:Nat,z=v:=(z.toNat,5);have(c,G,hq):=bG7 (v,5);refine(00,c,44,z0,5,by rw[show (("qxz":Str).length:Int)=3 by trivial];exact z1,G,r _ _ p (02,λd hd=>?_));have:d=c:=by simpa using hd
  rw[this];exact hq
 have(g,rfl,j):=bDc E;rw[d7] at ly;have k:=f1.trans (X.trans f3);have M:(Txt.join "" g).length=g.length:=PySem.W.KT.join_ones g λt m=>(j t m).1;exists "",D,g,44,SqL.of I,(bD1 (B:=1) (λt m=>bFH (j t m).1) (by show g.length * 1+g.length * 0<=16777216;lia));have C:=aZs g λt m=>(j t m).2;generalize Txt.join "" g=b at M C;have O:b.length<=7:=by lia
 refine(333,small (5),12,a,3,k.st,(by show (0:Int)<(b.length:Int)+1/\(b.length:Int)+1<2 ^ 64;lia),λai H4 p a0 a1=>?_);obtain⟨f,rfl⟩:∃f:Nat,ai=f:=(ai.toNat,5);have ha:f<=b.length:=by have:(f:Int)<(b.length:Int)+1:=a1;lia
 have l:=k.trans p;have al:abc.length=26:=by trivial
 refine mL [none,some (.str b),some (.int (f:Nat)),some (.int (o:Nat))] (bC7 3 4 2 (0) (0) (0) rfl rfl rfl rfl rfl rfl (0) (0) (0)) ?_;refine(3,0o21,466,uK p.st (n:=17) (6) (λi _ y=>y=.str (put b f (97+(o+i)))) (λ_ _ h=>h) (λ_ _ _ h=>h) (λi J R s u r=>?_) λD H5 A f5 Y I ly E=>?_)
 .have s1:=Txt.slice_le b none (some ((f:Nat):Int));have s2:=Txt.slice_le b (some ((f:Nat):Int)) none;have S:abc.cps[((o:Int)+(i:Int)).toNat]?=some (97+(o+i)):=by rw[show ((o:Int)+(i:Int)).toNat=o+i by lia];exact bDf (5)
  exists 3333,small (5),3312012,(by show 0<=(o:Int)+(i:Int);lia),(by show (o:Int)+(i:Int)<2 ^ 63;lia),(by show (o:Int)+(i:Int)<(abc.length:Int);rw[al];lia),S,1283333,small (5),128
  .show (Txt.slice b none (some ((f:Nat):Int))).length+1<=sizeLine;exact small (5)
  .rw[bB1];show (Txt.slice b none (some ((f:Nat):Int))).length+1+_<=sizeLine;exact small (5)
  .exact r _ _ (Fx.refl u.st) rfl
 .have e:A=(stm b f o 17).map V.str:=by
   refine bBM λi=>?_;by_cases s:i<A.length
   .rw[b7 s,E i _ (b7 s)];unfold stm;rw[j5,j5,bBY (5)];rfl
   .rw[bAJ (5),bAJ (by simp[stm];lia)]
  subst e;exact q D H5 _ (l.trans f5) (l.free Y) I (bIx (λc G=>by rcases C c G with rfl|rfl|rfl <;> lia) O ha ho (bIu C ha))
def aJx (T:!Txt):!Ok 1 "_law_lost" u5 (xO K):=by
 refine Ok.ofW T.aM1 aJa λZ H m Q l h=>?_;have(v,w,e,k,rfl,(a,rfl,d),(b,rfl,j),q):=h;exists _,(aB (bL (VW.pt (jH (cL bZ (aQ aK (vv 0) aA) aL) (iU (fP iB (aQ aK (vv 0) aA) (vv 1) (1))))) (aC (aH (aP (va1 aL)))) aV) (aC (aH (vv 0))));cases e with
 |copied=>exact (rd0 rfl d (43,aU (aU (3,q _ H (Same.refl _) (a,4,d)))))
 |loose=>exact (rd0 rfl d (43,aU (aU (3,q _ H (Same.refl _) (a,4,d)))))
 |at_ h=>exact (rd0 rfl d (43,aU (aU (3,q _ H (Same.refl _) (a,4,d)))))
 |dealt c=>
  refine (rd0 rfl d (43,bI (rd1 rfl d (3,b,3,.inr j,4,lU,38))));rw[if_pos (rfl:true=true),lV];by_cases h:c∈k
  .rw[j4 h];exact aU (3,q _ H (Same.refl _) (by rw[aIx h];exact(a,4,d)))
  .rw[j9 h];exact bI ((6),λp i f s g=>q _ i s (by rw[aEz h];exact(p,4,SqT.of g)))
def lvs:Qn->Nat
 |.table _=>1
 |.whr q _=>lvs q
 |.keep q _=>lvs q
 |.nmd q _=>lvs q
 |.join q r _=>lvs q+lvs r
 |.group q _ _=>lvs q
 |.first q _ _=>lvs q
def IsQ.one (h:IsQ K H v q):(∃a T,v=.ref a/\q=.table T/\SqT K H a [.str "table",.str T])\/(∃a x k y l w ps,v=.ref a/\q=.join k l ps/\SqT K H a [.str "join",x,y,w]/\IsQ K H x k/\IsQ K H y l) \/
  ∃a s x k b ws r,v=.ref a/\SqT K H a (.str s::x::.ref b::r)/\s≠"table"/\s≠"join"/\IsQ K H x k/\k∈kids q/\SqT K H b ws/\lvs q=lvs k/\size q=size k+(if s = "where" then ws.length else 1):=by
 cases h with
 |table a b=>exact .inl (12,a)
 |join a b c d=>exact .inr (.inl (01112,a,b,c))
 |whr a b c=>have((n,ws,rfl,e,f),_):=c;exact .inr (.inr (11,n,ws,3,a,by trivial,by trivial,b,v7,e,4,by rw[if_pos rfl,f.len];rfl))
 |keep a b c=>have((n,ws,rfl,e,f),_):=c;exact .inr (.inr (11,n,ws,3,a,by trivial,by trivial,b,v7,e,44))
 |nmd a b c=>have((n,ws,rfl,e,f),_):=c;exact .inr (.inr (11,n,ws,3,a,by trivial,by trivial,b,v7,e,44))
 |group a b c d=>have((n,ws,rfl,e,f),_):=c;exact .inr (.inr (11,n,ws,3,a,by trivial,by trivial,b,v7,e,44))
 |first a b c d=>have((n,ws,rfl,e,f),_):=c;exact .inr (.inr (11,n,ws,3,a,by trivial,by trivial,b,v7,e,44))
inductive aZa (K:bGC)(n:Nat)(vs:List V)(H:Hp)(Q:VK)(E_:XK):Prop
 |mk (v q:_)(_:vs=[v])(_:IsQ K H v q)(_:size q<=n)(_:Q (.int (lvs q:Nat)) H)
def aC6 (T:!Txt):∀n:Nat,!Ok (n+1) "_law_leaves" bQC (aZa K n):=by
 intro j
 induction j with
 |zero=>
  refine Ok.ofW T.wA sU λZ H s Q g h=>?_
  .have(v,q,rfl,f,m,_):=h;have e:=qG q;have o:=uL f;lia
 |succ n ih=>
  have i:=ih;refine Ok.ofW T.wA sU λZ H s Q g h=>?_;have(v,p,rfl,f,m,q):=h;exists _,(aB (bL (cL bZ (aQ aK (vv 0) aA) aL) (aC (aH aA)) aV) (aB (bL (cL bZ (aQ aK (vv 0) aA) aL) (aC (aH (cA dX (jG (i.mono (5)) g (7) (va1 (aQ aK (vv 0) aA))) (jG (i.mono (5)) g (7) (va1 (aQ aK (vv 0) aA)))))) aV) (aC (aH (jG (i.mono (5)) g (7) (va1 (aQ aK (vv 0) aA)))))));have d:∀k∈kids p,size k<=n:=λk d=>by have:=aCw d f;lia
  rcases f.one with⟨a,t,rfl,rfl,a⟩|⟨a,x,k,y,l,u,ps,rfl,rfl,a,b,c⟩|⟨a,s',x,k,b',ws,r,rfl,a,n1,n2,b,hm,_,e,_⟩
  .exact (rd0 rfl a (43,bI q))
  .exact (rd0 rfl a (43,aU (rd0 rfl a (43,bI (rd1 rfl a (03,b,d _ v7,rd2 rfl a (03,c,d _ (j8 _ v7),12,q)))))))
  .rw[e] at q;refine (rd0 rfl a (438));rw[j9 λz=>n1 (V.str.inj z)];refine aU (rd0 rfl a (438));rw[j9 λz=>n2 (V.str.inj z)];exact aU (rd1 rfl a (03,b,d _ hm,q))
inductive bBu (K:bGC)(n:Nat)(vs:List V)(H:Hp)(Q:VK)(E_:XK):Prop
 |mk (v q:_)(_:vs=[v])(_:IsQ K H v q)(_:size q<=n)(_:∀H',Same H H'->Q (.int (size q:Nat)) H')
def aKa (T:!Txt):∀n:Nat,!Ok (n+1) "_law_size" bQC (bBu K n):=by
 intro s
 induction s with
 |zero=>
  refine Ok.ofW T.aA4 yX λZ H E Q m h=>?_
  .have(v,q,rfl,j,B,_):=h;have e:=qG q;have o:=uL j;lia
 |succ n ih=>
  have p:=ih;refine Ok.ofW T.aA4 yX λZ H E Q m h=>?_;have(v,C,rfl,j,B,q):=h;exists _,(aB (bL (cL bZ (aQ aK (vv 0) aA) aL) (aC (aH aA)) aV) (aB (bL (cL bZ (aQ aK (vv 0) aA) aL) (aC (aH (cA dX (cA dX aA (jG (p.mono (5)) m (7) (va1 (aQ aK (vv 0) aA)))) (jG (p.mono (5)) m (7) (va1 (aQ aK (vv 0) aA)))))) aV) (aC (aH (cA dX (jG (p.mono (5)) m (7) (va1 (aQ aK (vv 0) aA))) (aQ bB (cU (aF aA (va1 (aJ aM (7) T.cH bM (va1 (aQ aK (vv 0) aA)))))) (bF gU (7) T.rQ nG (va1 (lW bZ (aQ aK (vv 0) aA) aL)))))))));have f:∀k∈kids C,size k<=n:=λk f=>by have:=aCw f j;lia
  rcases j.one with⟨a,F,rfl,rfl,a⟩|⟨a,x,k,y,l,u,ps,rfl,rfl,a,b,c⟩|⟨a,s',x,k,b',ws,r,rfl,a,n1,n2,b,hm,hb,_,e⟩
  .exact (rd0 rfl a (43,bI (q H (Same.refl _))))
  .refine (rd0 rfl a (43,aU (rd0 rfl a (43,bI (rd1 rfl a (03,b,f _ v7,λt d=>(12,rd2 rfl (d.aG a) (03,c.same d,f _ (j8 _ v7),λg i=>(128)))))))));show Q (V.int ((1:Int)+(size k:Int)+(size l:Int))) g;rw[show (1:Int)+(size k:Int)+(size l:Int)=((size (.join k l ps):Nat):Int) from by show _=((size k+size l+1:Nat):Int);lia];exact q g (d.trans i)
  .rw[e] at q;refine (rd0 rfl a (438));rw[j9 λz=>n1 (V.str.inj z)];refine aU (rd0 rfl a (438));rw[j9 λz=>n2 (V.str.inj z)];refine aU (rd1 rfl a (03,b,f _ hm,λt d=>(rd2 rfl (d.aG a) (03,.inr (d.aG hb),sz2,λD g G i A=>(rd0 rfl (i.aG (d.aG a)) (4,.inr (3,D,00,.int (if s' = "where" then (ws.length:Nat) else (1:Nat)),44,SqL.of A,8128)))))))
   .by_cases z:s' = "where"
    .rw[j4 (congrArg V.str z),if_pos z];exact aX rfl
    .rw[j9 λk=>z (V.str.inj k),if_neg z];exact aX rfl
   .have q:=q g (d.trans i)
    split at q
    .rename_i z;rw[if_pos z];exact q
    .rename_i z;rw[if_neg z];exact q
def pX {α β:Type}{R:α->β->Prop}{as:List α}{bs:List β}(h:bR R as bs):∀n,bR R (as.take n) (bs.take n):=by
 induction h with
 |nil=>intro n;rw[List.take_nil,List.take_nil];exact .nil
 |cons r _ ih=>
  intro n;cases n with
  |zero=>exact .nil
  |succ n=>exact .cons r (ih n)
def aEg {α β:Type}{R:α->β->Prop}{as:List α}{bs:List β}(h:bR R as bs):∀n,bR R (as.drop n) (bs.drop n):=by
 induction h with
 |nil=>intro n;rw[bGB,bGB];exact .nil
 |cons r t ih=>
  intro n;cases n with
  |zero=>exact .cons r t
  |succ n=>exact ih n
def aPn (T:!Txt):!Ok 1 "_law_at" bQR (xF K):=by
 refine Ok.ofW T.aXh aSo λZ H vs Q hr h=>?_;have(vh,n,l,k,rfl,(b,X,rfl,v,C),U,Y,q):=h;have(u,s):=xC Y;exists _,(aC (aH (qM PySem.F.plainAttrs_list PySem.F.slot_list_index PySem.F.type_list_index aIq (bY (N:=["_law_column","_law_kind"]) ck dH rfl (fV (vv 0)) (λcl e f fp=>((iT (K:=K) (n:=2) rfl (aW (dF 0) (aW (dF 1) cV))),cI,(vv 0)))) (va1 (vv 1)))));have lu:=C.len;dsimp only[qI,tBM];refine mX [none,none] gR (3,b,4,(_,v),vH Same (oX H) X (λ_=>true) (λi _ y=>∃a,l[i]?=some a/\y=.str a.1) (λ_ _ h=>h) (λ_ _ _ h=>h) (λi σ=>∃a,l[i]?=some a/\At2 [none,none] (.str a.1) (.str a.2) σ) (Ps2 [none,none]) (none,none,4) (small (5)) _ (tO λf e=>e.aG v) (mR λf e=>e.aG v) (λi x σ' f Q' p o e qq=>?_) (λi x A p E f R e r=>r f (Same.refl _)) (λi x A p E hp f R e r=>?_) λD W I S fD G g=>?_)
 .have(a,d,p',rfl,t):=bQ C p;exact hg2 (e.aG t) o fun A u s=>qq A u (a,d,s)
 .have(a,d,rfl):=E;exact(3,r _ _ (Same.refl f) (a,d,4))
 .rw[oK] at g;have(l1,l2):=mC g;have L:I=(l.map (·.1)).map V.str:=bBM λi=>by
   cases J:I[i]? with
   |some z=>have(a,d,rfl):=l2 i z J;rw[j5,j5,d];rfl
   |none=>have:=List.getElem?_eq_none_iff.mp J;exact (bAJ (by rw[d7,d7];lia)).symm
  subst L;refine(.inl (40,SqL.of G),3,D,l.map (·.1),n,plc l n,44,SqL.of G,by rw[d7];exact U,by rw[j5,u];rfl,λj m O B=>?_,q W S);rw[j5] at B;have(c,M,rfl):=Option.map_eq_some_iff.mp B;exact s j c O M
structure Some (hd hd':Hdr):Prop where
 nd:(hd'.map (·.1)).Nodup
 ne:1<=hd'.length
 le:hd'.length<=hd.length
 mem:∀c∈hd',c∈hd
def aW8 {a:Hdr}(d:(a.map (·.1)).Nodup){t k:Nat}(ht:t<a.length):Some a ((a.drop t++a.take t).take (1+k)):=by
 have p:(a.drop t++a.take t).Perm a:=List.perm_append_comm.trans (by rw[bEW]);refine(888,λc b=>p.mem_iff.mp (bCG b))
 .rw[bFA];exact ((p.map (·.1)).nodup_iff.mpr d).sublist (bCX _ _)
 .rw[bAK,p.length_eq];lia
 .rw[bAK,p.length_eq];lia
inductive aQg (K:bGC)(vs:List V)(H:Hp)(Q:VK)(E_:XK):Prop
 |mk (a:Addr)(vh:V)(hd:Hdr)(_:vs=[.ref a,vh])(_:lJ H a)(_:eU K H vh hd)(_:Good hd)(_:∀v H' hd',Fx a H H'->eU K H' v hd'->Some hd hd'->Q v H')
def aLp (T:!Txt)(D:!Ok 1 "_law_next" n7 jF):!Ok 2 "_law_some" o6 (aQg K):=by
 refine Ok.ofW T.aOy xH λZ H W Q U h=>?_;have(a,vh,V,rfl,j,(b,e,rfl,x,m),(J,R,g3),q):=h;have M:=xH.nd;exists _,(aB (bU 2 (aY D (aF (vv 0) (va1 (aJ aM (7) T.cH bM (va1 (vv 1))))))) (aC (aH (dM jZ (cA jX (dM jZ (vv 1) (eE (vv 2)) fK) (dM jZ (vv 1) fK (eE (vv 2)))) fK (eE (cA dX aA (aY D (aF (vv 0) (va1 (aJ aM (7) T.cH bM (va1 (vv 1))))))))))));have lu:=m.len;refine(33,b,e,4,.inr x,a,3,j,(55),λt H1 y N X=>?_);obtain⟨g,rfl⟩:∃g:Nat,t=g:=(t.toNat,5);have c:=y.aG j x;refine(333,b,e,4,c,λL H2 l s=>?_);refine(333,b,e,4,l.aG c,λz O p v=>?_);rw[kI] at s;rw[pF] at v;have A:g<e.length:=by lia
 refine(L,z,12,p.aG s,v,small (by rw[bBK,bAK];lia),λF S C B=>?_);have r:=l.trans (p.trans C);have i:=y.sm r;refine(33,b,e,4,.inr (r.aG c),a,3,i.st,(55),λk H5 o k0 Y=>?_);obtain⟨f,rfl⟩:∃f:Nat,k=f:=(k.toNat,5);refine(123,F,3,o.aG i.st B,λG I E u=>?_);rw[show ((1:Int)+(f:Int))=((1+f:Nat):Int) by lia,pF] at u;have n:=(i.trans o).sm E;have d:=m.imp λ_ _ h=>h.tk (n.tk j);exact q _ I _ n (G,3,u,pX ((aEg d g).app (pX d g)) (1+f)) (aW8 J (5))
def jP (a:(hd.map (·.1)).Nodup)(h:c∈hd):look hd c.1=some c.2:=by
 induction hd with
 |nil=>cases h
 |cons x r ih=>
  rw[bAE,bDX] at a;unfold look;rw[bBA];rcases List.mem_cons.mp h with rfl|h
  .rw[j4 rfl];rfl
  .have b:¬ x.1=c.1:=λz=>a.1 (by rw[z];exact List.mem_map.mpr (c,h,4));rw[j9 b];exact ih a.2 h
def aRm (h:jD k x):aEd x=true/\kindS x=k:=by
 cases h with
 |num=>exact(44)
 |@wrd y hx hl=>refine(84);show (false || (decide (0<=y.length) && (decide (y.length<=8) && allIn y)))=true;rw[j4 (bAI _),j4 hl,allIn_of hx];rfl
def kp (hd:Hdr)(k:Str)(i:Nat):Bool:=match hd[i]? with
 |some c=>decide (c.2=k)
 |none=>false
abbrev sgs:Str:="=<>!"
def bJe:∀j:_root_.Fin 4,∃c,sgs.cps[j.val]?=some c/\((⟨#[c]⟩:Str) = "="\/(⟨#[c]⟩:Str) = "<"\/(⟨#[c]⟩:Str) = ">"\/(⟨#[c]⟩:Str) = "!"):=by
 intro j
 match j with
 |(0,_)=>exact(0o75,(by show sgs.cps[0]?=some 61;decide +kernel),.inl (0))
 |(1,_)=>exact(0o74,(by show sgs.cps[1]?=some 60;decide +kernel),.inr (.inl (0)))
 |(2,_)=>exact(0o76,(by show sgs.cps[2]?=some 62;decide +kernel),.inr (.inr (.inl (0))))
 |(0o3,_)=>exact(0o41,(by show sgs.cps[3]?=some 33;decide +kernel),.inr (.inr (.inr (0))))
 |(n+4,h)=>exact absurd h (5)
def aZ4 (h:pR R is ys):∀y∈ys,∃i∈is,R i y:=by
 induction h with
 |nil=>intro y a;cases a
 |cons r _ ih=>
  intro z hz;rcases List.mem_cons.mp hz with rfl|hz
  .exact(_,v7 ..,r)
  .have(i,b,q):=ih z hz;exact(i,j8 _ b,q)
theorem aCk:∀{k n:Nat} {i:Nat},i∈sel p k (List.range' k n)->p i=true/\k<=i/\i<k+n
 |k,0,i,h=>by cases h
 |k,n+1,i,h=>by
  rw[List.range'_succ] at h;have h:i∈(if p k then k::sel p (k+1) (List.range' (k+1) n) else sel p (k+1) (List.range' (k+1) n)):=h
  split at h
  .rcases List.mem_cons.mp h with rfl|h
   .exact(by assumption,55)
   .have(a,b,c):=aCk h;exact(a,55)
  .have(a,b,c):=aCk h;exact(a,55)
theorem aJs {p:Nat->Bool}:∀{k n:Nat} {i:Nat},p i=true->k<=i->i<k+n->i∈sel p k (List.range' k n)
 |k,0,i,_,_,_=>by lia
 |k,n+1,i,h,h1,h2=>by
  rw[List.range'_succ];show i∈(if p k then k::sel p (k+1) (List.range' (k+1) n) else sel p (k+1) (List.range' (k+1) n));by_cases e:i=k
  .subst e;rw[if_pos h];exact v7 ..
  .have:=aJs (k:=k+1) (n:=n) h (5) (5)
   split
   .exact j8 _ this
   .exact this
inductive aG8 (K:bGC)(vs:List V)(H:Hp)(Q:VK)(E_:XK):Prop
 |mk (a:Addr)(vh:V)(hd:Hdr)(_:vs=[.ref a,vh])(_:lJ H a)(_:eU K H vh hd)(_:rZ hd)(_:∀v H' ts,Fx a H H'->fY IsT 1 3 K H' v ts->(∀t∈ts,aEv hd t)->Q v H')
def aGm (T:!Txt)(aR:!Ok 1 "_law_next" n7 jF)(nZ:!Ok 2 "_law_value" bQM aLi):!Ok 3 "_law_tests" o6 (aG8 K):=by
 refine Ok.ofW T.aJp jU λZ H vs Q hr h=>?_;have(a,vh,s,rfl,hs,(b,us,rfl,hb,hu),((nd,l1,l8),hc),q):=h;have a1:=jU.nd;exists _,(aB (bU 2 (cU cW)) aZ);have lu:=hu.len;refine(sz0,λp H1 fp s1 g1=>?_);have f1:=Fx.of hs s1;have A:p≠a:=hs.ne fp;have a1:=jU.nd;exists _,(aB (nH PassesOwn.never rfl (dW (7) T.gW (va1 (cA dX aA (aY aR (aF (vv 0) (va1 aA)))))) (cP 3) (aB (nJ (aQ aK (vv 1) (aY aR (aF (vv 0) (va1 (aJ aM (7) T.cH bM (va1 (vv 1))))))) (iY rfl (aW (cP 4) (aW (cP 5) cV)))) aZ)) (aC (aH (bF cQ (7) T.cM cB (va1 (vv 2))))));refine(3,a,0o3,4,f1.st,6,λm H2 f2 m0 m1=>?_);have aq:=f1.trans f2;have g2:=f2.same _ _ A g1;exists 123,(by show -(2 ^ 62)<=1+m;lia),(by show 1+m<2 ^ 62;lia);refine qK (n:=(1+m).toNat) (λi σ k=>Fx a H k/\∃(ws:List V) (ts:List Tst) (l3 l4 l5 l6 l7:Option V),k p=some (.lst ws)/\ts.length=i/\bR (IsT K k) ws ts/\(∀t∈ts,aEv s t)/\σ=[some (.ref a),some (.ref b),some (.ref p),l3,l4,l5,l6,l7]) (aq,[],[],011,g2,4,.nil,(λt h=>by cases h),4) ?_ ?_
 .rintro i σ k hi ⟨fx,ws,ts,l3,l4,l5,l6,l7,gp,hl,hw,hts,rfl⟩;have lw:=hw.len;have ad:TK K H k:=fx.tk hs;refine(33303,.inr (ad _ _ hb),a,3,fx.st,(by show (0:Int)<(us.length:Int)/\(us.length:Int)<2 ^ 64;lia),λd H3 f3 d0 d1=>?_);have(u,av,a4):=at_of (xs:=us) d0 d1;have(c,S,pc,rfl,an):=hu.mem a4;have(as,ai):=hc c S;have bc:=f3;have M:=fx.trans f3;have l:TK K H H3:=M.tk hs;exists b,012,l _ _ hb,av,pc,3,l _ _ an,40312;exists _,(aB (lF (i0:=6) jU.nd rfl (0) (N:=["_law_column","_law_sort","_law_kind"]) ck (dC (aD qX)) rfl (fV (vv 1)) (λcl G k fp=>((iT (K:=K) (n:=2) rfl (aW (dF 0) (aW (dF 1) cV))),(zY (cL bZ (vv 1) (vv 2))),(vv 0)))) aZ);dsimp only[nO,kO,cF];refine mX [none,none,some (.str c.2)] ?_ (3,b,4,(_,l _ _ hb),vH Same (oX H3) us (kp s c.2) (λi _ y=>∃f,s[i]?=some f/\y=.str f.1) (λ_ _ h=>h) (λ_ _ _ h=>h) (λi σ=>∃f,s[i]?=some f/\At2 [none,none,some (.str c.2)] (.str f.1) (.str f.2) σ) (Ps2 [none,none,some (.str c.2)]) (none,none,4) (small (5)) _ (tO λk G=>G.aG (l _ _ hb)) (mR λk G=>G.aG (l _ _ hb)) (λi x σ' k Q' ex ay G qq=>?_) (λi x σ2 ex hA k R G r=>?_) (λi x σ2 ex hA hp k R G r=>?_) λD H6 ys s6 fD g6 J=>?_)
  .refine(4,λi y v U C=>?_)
   match i,U,C with
   |0,_,C=>cases C
   |1,_,C=>cases C
   |2,U,C=>cases U;cases C;exact(by trivial,0o5,44,by trivial)
   |i+3,U,_=>cases U
  .have(f,g,p',rfl,ar):=bQ hu ex;exact hg2 (G.aG (l _ _ ar)) ay fun σ2 U C=>qq σ2 U (f,g,C)
  .have(f,g,rfl):=hA;exists 3023;have e:kp s c.2 i=decide (V.str f.2=V.str c.2):=by unfold kp;rw[g];exact decide_eq_decide.mpr (λz=>congrArg V.str z,λz=>V.str.inj z)
   rw[<-e];exact r k (Same.refl k)
  .have(f,g,rfl):=hA;exact(3,r _ _ (Same.refl k) (f,g,4))
  have az:=f3.sm s6;have W:=M.sm s6;have be:TK K H H6:=W.tk hs;have a3:D≠a:=M.st.ne fD;have(j0,ao,ae):=bBZ S;have bg:0<ys.length:=by
   have b1:j0∈sel (kp s c.2) 0 (List.range us.length):=by rw[bDL];refine aJs ?_ (bAI _) (5);unfold kp;rw[b7 ao,ae];exact j4 rfl
   rw[<-J.len];exact List.length_pos_of_mem b1
  have aw:∀y∈ys,∃f∈s,y=.str f.1/\f.2=c.2:=λy hy=>by have(i,hi,f,g,rfl):=aZ4 J y hy;rw[bDL] at hi;have hp:=(aCk hi).1;unfold kp at hp;rw[g] at hp;exact(f,v9 g,4,of_decide_eq_true hp)
  have ba:ys.length<=8:=by have:=oY (kp s c.2) 0 (List.range us.length);rw[bAG,J.len] at this;lia
  have ah:look s c.1=some c.2:=jP nd S;have ag:=s6 _ _ (f3.same _ _ A gp);have a1:=jU.nd;exists _,(aB (bU 7 (cU (aF (aP (aF aL (va1 (aY nZ (aF (vv 0) (va1 (vv 5))))))) (va1 (aP (aF aL (va1 (aQ bB (vv 6) (aY aR (aF (vv 0) (va1 (aJ aM (7) T.cH bM (va1 (vv 6)))))))))))))) aZ);refine(33,a,c.2,4,W.st,ai,λv H4 f4 hv=>?_);refine(sz2,λt1 H5 bd X g5=>?_);have b3:=(az.trans f4).sm X;have E:=(W.trans f4).sm X;have ap:IsO K H5 (.ref t1) (.val v):=(t1,4,SqT.of g5,aX9 (aRm hv).1,(aRm hv).1);have ax:bBn s (.val v)=some c.2:=by show some (kindS v)=some c.2;rw[(aRm hv).2]
  have a5:=X _ _ (f4.same _ _ a3 g6);refine(333,D,3,.inl (SqL.of a5),a,3,E.st,(by show (0:Int)<(ys.length:Int)/\(ys.length:Int)<2 ^ 64;lia),λd8 H8 Y al b9=>?_);have(y,hy,my):=at_of (xs:=ys) al b9;have(f,I,rfl,ab):=aw y my;refine(D,012,SqL.of (Y.same _ _ a3 a5),hy,sz2,λt2 H9 bf s9 g9=>?_);refine(sz2,λL HL fL sL gL=>?_);have O:=(b3.trans Y).sm (s9.trans sL);have bb:=(E.trans Y).sm (s9.trans sL);have a0:TK K H5 HL:=λ_ _ e=>(s9.trans sL).aG (Y.aG E.st e);have b0:IsO K HL (.ref t2) (.col f.1):=(t2,4,sL.aG (SqT.of g9),(hc f I).1);have b2:bBn s (.col f.1)=some c.2:=by show look s f.1=some c.2;rw[jP nd I,ab]
  have b4:L≠a:=((E.trans Y).sm s9).st.ne fL;have ac:=sL _ _ (s9 _ _ (Y.same _ _ A (X _ _ (f4.same _ _ A ag))));exists _,(aC (eV (qM PySem.F.plainAttrs_list PySem.F.slot_list_append PySem.F.type_list_append iW (vv 2) (va1 (aP (aF (vv 4) (aF (sW aL (aY aR (aF (vv 0) (va1 aA))) (λ_ _=>rfl)) (va1 (aQ bB (vv 7) (bF gU (7) T.rQ nG (va1 (lW bZ (aY aR (aF (vv 0) (va1 aA))) aA))))))))))));refine(3,.inl (40,SqL.of ac),33,a,0o4,4,O.st,6,λdz Hz fz aj ak=>?_);have(ch,b6,au):=bJe (dz.toNat,5);have sl:sgs.length=4:=by trivial
  refine(012,aj,(5),(by rw[sl];exact ak),b6,33,a,0o3,4,fz.st,6,λd3 H7 f7 _ _=>(4,.inr (38)));have B:=fz.trans f7;have aa:TK K HL H7:=B.tk O.st;have hO:∃(vo:V) (o:Oth),atI [.ref t1,.ref t2] (if decide (V.int d3=V.int 0)=true then 1 else 0)=some vo/\IsO K H7 vo o/\bBn s o=some c.2:=by
   by_cases e:d3=0
   .exact(00,by rw[j4 (congrArg V.int e)];exact aX (j:=1) rfl,b0.tk aa,b2)
   .exact(00,by rw[j9 λz=>e (V.int.inj z)];exact aX (j:=0) rfl,(ap.tk a0).tk aa,ax)
  have(vo,o,a7,hO,hT):=hO;refine(L,00,vo,44,SqL.of (B.same _ _ b4 gL),a7,sz3,λtz Hy am sy gy=>?_);have a8:=(O.trans B).sm sy;have a6:=B.same _ _ A ac;have a2:=sy _ _ a6;have af:tz≠p:=(bV a6 am).symm;have a9:∀zs,TK K Hy (upd Hy p (.lst zs)):=λzs _ _ e=>e.jK a2;have b5:=(hO.tk (λ_ _ e=>sy.aG e)).tk (a9 (ws++[.ref tz]));exists p,12,a2,(kJ (5));refine((fx.trans a8).upd fp A,ws++[.ref tz],ts++[(c.1,⟨#[ch]⟩,o)],011,aO,by rw[w6,hl];rfl,(hw.imp λ_ _ h=>(h.tk (a8.tk fx.st)).tk (a9 _)).app (.cons (b:=((c.1,⟨#[ch]⟩,o):Tst)) (tz,3,SqT.of (by rw[bC af];exact gy),as,au,b5) .nil),λt ht=>?_,4);rcases List.mem_append.mp ht with ht|ht
  .exact hts t ht
  .rw[List.mem_singleton.mp ht];exact(c.2,ah,hT)
 .rintro σ k ⟨fx,ws,ts,l3,l4,l5,l6,l7,gp,hl,hw,hts,rfl⟩;exact(3,p,ws,4,SqL.of gp,λt H5 _ X g5=>q _ _ ts (fx.sm X) ((t,ws,4,SqT.of g5,hw.imp λ_ _ h=>h.same X),55) hts)
structure Ent where
 a:Act
 s:Sns
 hd:Hdr
def IsE (K:bGC)(H:Hp)(v:V)(e:Ent):Prop:=∃p va vq vh vs,v=.ref p/\SqT K H p [va,.bl e.s.w,vq,vh,vs]/\IsA K H va e.a/\IsQ K H vq e.s.q/\eU K H vh e.hd/\oU K H vs e.s.sp
def Ps.tk {α:Type}{K:bGC}{H H':Hp}{I:V->α->Prop}{xs:List V}{n:Nd α}(e:TK K H H')(h:Ps K H I xs n):Ps K H' I xs n:=by
 cases h with
 |table b=>exact .table b
 |whr b c=>exact .whr b (c.tk e λh=>h.tk e)
 |keep b c=>exact .keep b (c.tk e λh=>h)
 |nmd b c=>exact .nmd b (c.tk e λh=>h)
 |join b c d=>exact .join b c (d.tk e λh=>h.tk e)
 |group b c d=>exact .group b (c.tk e λh=>h) (d.tk e λh=>h.tk e)
 |first b c d=>exact .first b (c.tk e λh=>h.tk e) d
def IsA.tk (e:TK K H H')(h:IsA K H v a):IsA K H' v a:=by
 cases h with
 |made a b c=>exact .made (e _ _ a) b (c.tk e)
 |merge a=>exact .merge (e _ _ a)
 |copy a=>exact .copy (e _ _ a)
 |deal a b=>exact .deal (e _ _ a) b
 |bring a=>exact .bring (e _ _ a)
def IsE.tk (e:TK K H H')(h:IsE K H v x):IsE K H' v x:=by have(p,g,k,j,f,rfl,d,i,a,c,b):=h;exact(p,g,k,j,f,4,e _ _ d,i.tk e,a.tk e,c.tk e,dU.tk e b)
inductive Sent (m:Int)(i:Nat)(x:Ent):Ent->Prop
 |deal {c}:c∈x.hd->Sent m i x (.deal i c.1,(x.s.w,x.s.q,.dealt c.1),x.hd)
 |copy:Sent m i x (.copy i,(x.s.w,x.s.q,.copied),x.hd)
 |bring {h:Nat}:(h:Int)<m->Sent m i x (.bring i h,(x.s.w,x.s.q,.at_ h),x.hd)
inductive aMw (K:bGC)(vs:List V)(H:Hp)(Q:VK)(E_:XK):Prop
 |mk (a D:Addr)(us:List V)(i:Nat)(u:V)(x:Ent)(m:Int)(_:vs=[.ref a,.ref D,.int (i:Nat),.int m])(_:lJ H a)(_:H D=some (.lst us))(_:us[i]?=some u)(_:IsE K H u x)(_:rZ x.hd)(_:1<=m)(_:m<=6)(_:∀v H' y,Fx a H H'->IsE K H' v y->Sent m i x y->Q v H')
def aB3 (T:!Txt)(aR:!Ok 1 "_law_next" n7 jF):!Ok 2 "_law_sending" u9 (aMw K):=by
 refine Ok.ofW T.aDm rP λZ H vs Q hr h=>?_;have(a,D,us,i,u,x,m,rfl,J,hD,hu,(p,va,I,vh,vs,rfl,hp,h2,G,y,h5),k,m1,m6,q):=h;have ab:=rP.nd;exists _,(aB (nJ (dM yZ (aQ bB (vv 1) (vv 2)) (eE aA) fK) (iY rfl (aW (cP 4) (aW (cP 5) (aW (cP 6) (aW (cP 7) cV)))))) (aB (bU 8 (aQ aK (aQ aK (vv 6) (aY aR (aF (vv 0) (va1 (aJ aM (7) T.cH bM (va1 (vv 6))))))) aA)) (aB (bU 9 (aY aR (aF (vv 0) (va1 (vv 3))))) (aB (bU 10 (cU (aF (aP (aF aL (aF (vv 2) (va1 (vv 8))))) (aF (aP (aF aL (aF (vv 2) (va1 (vv 8))))) (aF (aP (aF aL (va1 (vv 2)))) (va1 (aP (aF aL (aF (vv 2) (va1 (vv 9))))))))))) (aB (bU 11 (aY aR (aF (vv 0) (va1 aA)))) (aC (aH (aP (aF (aQ bB (vv 10) (vv 11)) (aF (vv 4) (aF (vv 5) (aF (vv 6) (va1 (aQ bB (cU (aF (aP (aF aL (va1 (vv 8)))) (aF (aP (aF aL (va1 (vv 8)))) (aF (aP (va1 aL)) (va1 (aP (aF aL (va1 (vv 9))))))))) (vv 11)))))))))))))));have(b,ws,rfl,hb,hw):=id y;have lw:=hw.len;have g1:=k.1.2.1;have g8:=k.1.2.2;refine(33,D,us,i,02,SqL.of hD,aX hu,3,p,3,hp,(by show ¬ (HT.sIx 5 0 (some 1)=0/\HT.sIx 5 5 none=5);decide),λp1 H1 s1 c1=>?_);rw[bGs] at c1;exists p1,3,SqT.of c1,403030312;have f1:=Fx.of J s1;have W:TK K H H1:=f1.tk J;refine(333,b,ws,4,.inr (W _ _ hb),a,3,f1.st,(55),λd H2 f2 d0 d1=>?_);have(u,a5,v):=at_of (xs:=ws) d0 d1;have(c,l,pc,rfl,a0):=hw.mem v;have g:=f1.trans f2;have A:TK K H H2:=g.tk J;exists b,ws,12,A _ _ hb,a5,pc,_,0,02,A _ _ a0,at0 _ _;refine(33,a,m,4,g.st,(55),λhh H3 f3 h0 h1=>?_);obtain⟨U,rfl⟩:∃U:Nat,hh=U:=(hh.toNat,5);refine(33,sz3,λq1 G1 af e1 a6=>?_);refine(33,sz3,λq2 G2 ac e2 Y=>?_);refine(3,sz2,λq3 G3 aj M a2=>?_);refine(33,sz3,λq4 G4 ai o a4=>?_);refine(sz4,λL GL fL r gL=>?_);have f4:=(g.trans f3).sm (e1.trans (e2.trans (M.trans (o.trans r))));have a9:L≠a:=((g.trans f3).sm (e1.trans (e2.trans (M.trans o)))).st.ne fL;refine(3,a,0o4,4,f4.st,6,λF H5 f5 w0 w1=>?_);obtain⟨j,rfl⟩:∃j:Nat,F=j:=(F.toNat,5);have C:j<4:=by lia
 exists 33,L,012,SqL.of (f5.same _ _ a9 gL),aX (b7 (show j<[V.ref q1,.ref q2,.ref q3,.ref q4].length from C));exists 333;refine(3,sz2,λr1 R1 ae d1 X=>?_);refine(3,sz2,λr2 R2 aa d2 a8=>?_);refine(sz1,λr3 R3 ah d3 a7=>?_);refine(3,sz2,λr4 R4 ad O a3=>?_);refine(sz4,λL2 RL ag B a1=>?_);refine(3,L2,012,SqL.of a1,aX (b7 (show j<[V.ref r1,.ref r2,.ref r3,.ref r4].length from C)),sz5,λN n ft E R=>?_);have t1:=d1.trans (d2.trans (d3.trans (O.trans (B.trans E))));have t:=(f4.trans f5).sm t1;have f:TK K H n:=t.tk J;have S:∀{p xs},SqT K GL p xs->SqT K n p xs:=λe=>t1.aG (f5.aG f4.st e);have z:=(k.2 c l).1
 match j,C with
 |0,_=>exact q _ n (.deal i c.1,(x.s.w,x.s.q,.dealt c.1),x.hd) t (N,_,I,03,SqT.of R,.deal (S (r.aG (o.aG (M.aG (e2.aG (SqT.of a6)))))) z,G.tk f,y.tk f,r1,4,(d2.trans (d3.trans (O.trans (B.trans E)))).aG (SqT.of X)) (.deal l)
 |1,_=>exact q _ n (.deal i c.1,(x.s.w,x.s.q,.dealt c.1),x.hd) t (N,_,I,03,SqT.of R,.deal (S (r.aG (o.aG (M.aG (SqT.of Y))))) z,G.tk f,y.tk f,r2,4,(d3.trans (O.trans (B.trans E))).aG (SqT.of a8)) (.deal l)
 |2,_=>exact q _ n (.copy i,(x.s.w,x.s.q,.copied),x.hd) t (N,_,I,03,SqT.of R,.copy (S (r.aG (o.aG (SqT.of a2)))),G.tk f,y.tk f,r3,4,(O.trans (B.trans E)).aG (SqT.of a7)) .copy
 |3,_=>exact q _ n (.bring i U,(x.s.w,x.s.q,.at_ U),x.hd) t (N,_,I,03,SqT.of R,.bring (S (r.aG (SqT.of a4))),G.tk f,y.tk f,r4,4,(B.trans E).aG (SqT.of a3)) (.bring h1)
 |j+4,C=>exact absurd C (5)
def aO6 (h:lY v=true):DEq K H n v v:=by
 cases n with
 |zero=>exact(h,4)
 |succ n=>exact .inl (h,4)
def rot {α:Type}(k:Nat)(l:List α):List α:=l.drop k++l.take k
def aD8 {α:Type}(k:Nat)(l:List α):(rot k l).Perm l:=List.perm_append_comm.trans (by rw[bEW])
def bC4 {α β:Type}(f:α->β)(k:Nat)(l:List α):(rot k l).map f=rot k (l.map f):=by unfold rot;rw[bAW,List.map_drop,bFA]
def aT4 {α:Type}(k:Nat)(l:List α):(rot k l).length=l.length:=(aD8 k l).length_eq
def aWs {α β:Type}{R:α->β->Prop}{as:List α}{bs:List β}(h:bR R as bs):∀n,bR R (as.drop n) (bs.drop n):=by
 induction h with
 |nil=>intro n;rw[bGB,bGB];exact .nil
 |cons r t ih=>
  intro n;cases n with
  |zero=>exact .cons r t
  |succ n=>exact ih n
def bA4 {α β:Type}{R:α->β->Prop}{as:List α}{bs:List β}(h:bR R as bs)(k:Nat):bR R (rot k as) (rot k bs):=(aWs h k).app (pX h k)
def aQ0 {α β:Type}{R:α->β->Prop}{as:List α}{bs:List β}(h:bR R as bs):∀n,bR R (as.eraseIdx n) (bs.eraseIdx n):=by
 induction h with
 |nil=>intro n;exact .nil
 |cons r t ih=>
  intro n;cases n with
  |zero=>exact t
  |succ n=>exact .cons r (ih n)
def bIt (hd ho:Hdr)(ps:List (Str × Str)):Prop:=(∃ks,bR (λp k=>look hd p.1=some k/\look ho p.2=some k) ps ks)/\(ps.map (·.1)).Nodup/\(ps.map (·.2)).Nodup
structure aDz (hd ho hr:Hdr)(i:Nat)(hl:Hdr)(ps:List (Str × Str)):Prop where
 sub:hl.Sublist ho
 mem:∀p∈ps,∃kd,(p.1,kd,)∈hd/\(p.2,kd,)∈ho/\p.2∉hl.map (·.1)/\p.1∈(hr.take i).map (·.1)
 n1:(ps.map (·.1)).Nodup
 n2:(ps.map (·.2)).Nodup
 len:ps.length<=3
def bI2:aDz hd ho hr 0 ho []:=(List.Sublist.refl _,λp h=>absurd h (9),bEB,bEB,9)
def aHi {hr:Hdr}{i:Nat}{n:Str}(h:n∈(hr.take i).map (·.1)):n∈(hr.take (i+1)).map (·.1):=by rw[bBE,bAW];exact bCF _ h
def aDz.next {hd ho hr hl:Hdr}{i:Nat}{ps:List (Str × Str)}(h:aDz hd ho hr i hl ps):aDz hd ho hr (i+1) hl ps:=(h.sub,λp b=>by have(d,c,e,a,f):=h.mem p b;exact(d,c,e,a,aHi f),h.n1,h.n2,h.len)
def aYh {b:Hdr}(h:(b.map (·.1)).Nodup){i j:Nat}{c d:Str × Str}(k:b[i]?=some c)(l:b[j]?=some d)(e:c.1=d.1):i=j:=by
 have a:(b.map (·.1))[i]?=some c.1:=by rw[j5,k];rfl
 have f:(b.map (·.1))[j]?=some c.1:=by rw[j5,l,e];rfl
 have g:=(List.getElem?_eq_some_iff.mp a).1;exact (List.getElem?_inj g h).mp (a.trans f.symm)
def bH9 {hl:Hdr}(f:(hl.map (·.1)).Nodup){j:Nat}{d:Str × Str}(g:hl[j]?=some d):d.1∉(hl.eraseIdx j).map (·.1):=by intro h;have(x,b,e):=List.mem_map.mp h;have(i,c,a):=List.mem_eraseIdx_iff_getElem?.mp b;exact c (aYh f a g e)
def bEg {hr:Hdr}(f:(hr.map (·.1)).Nodup){i:Nat}{d:Str × Str}(g:hr[i]?=some d):d.1∉(hr.take i).map (·.1):=by
 intro h;have(x,c,e):=List.mem_map.mp h;have(j,a):=List.getElem?_of_mem c;rw[List.getElem?_take] at a
 split at a
 .rename_i b;have:=aYh f a g e;lia
 .cases a
def aDz.add (h:aDz hd ho hr i hl ps)(u:(hr.map (·.1)).Nodup)(q:(ho.map (·.1)).Nodup)(t:∀c∈hr,c∈hd)(n:hr[i]?=some c)(o:hl[j]?=some cx)(e:cx.2=c.2)(l3:ps.length<3) :
  aDz hd ho hr (i+1) (hl.eraseIdx j) (ps++[(c.1,cx.1,)]):=by
 have k:(hl.map (·.1)).Nodup:=q.sublist (h.sub.map _);exists (List.eraseIdx_sublist hl j).trans h.sub,λp hp=>?_,88
 .rcases List.mem_append.mp hp with hp|hp
  .have(l,s,r,d,f):=h.mem p hp;exact(l,s,r,λz=>d (((List.eraseIdx_sublist hl j).map _).subset z),aHi f)
  .rw[bBU] at hp;subst hp;exists c.2,t c (v9 n),8,bH9 k o
   .rw[<-e];exact h.sub.subset (v9 o)
   .rw[bBE,n,bAW];exact bAV _ (9)
 .rw[bAW,bDZ];refine(h.n1,9,λx a y b m=>?_);rw[bAE,bFI,bBU] at b;subst m b;have(p,hp,g):=List.mem_map.mp a;have(l,_,_,_,f):=h.mem p hp;rw[g] at f;exact bEg u n f
 .rw[bAW,bDZ];refine(h.n2,9,λx a y b m=>?_);rw[bAE,bFI,bBU] at b;subst m b;have(p,hp,g):=List.mem_map.mp a;have(l,_,_,d,_):=h.mem p hp;rw[g] at d;exact d (List.mem_map.mpr (cx,v9 o,4))
 .rw[w6];show ps.length+1<=3;lia
def aDz.fin (h:aDz hd ho hr i hl ps)(k:(hd.map (·.1)).Nodup)(f:(ho.map (·.1)).Nodup):bIt hd ho ps:=by
 refine(8,h.n1,h.n2);have a:=h.mem;clear h
 induction ps with
 |nil=>exact([],.nil)
 |cons p r ih=>have(d,b):=ih λp e=>a p (j8 _ e);have(g,c,j,_):=a p (v7 ..);exact(g::d,.cons (jP k c,jP f j) b)
def bEj (h:pR R is ys):∀y∈ys,∃i,R i y:=by
 induction h with
 |nil=>intro y hy;cases hy
 |cons r _ ih=>
  intro y hy;rcases List.mem_cons.mp hy with e|hy
  .subst e;exact(_,r)
  .exact ih y hy
def kdP (hl:Hdr)(kd:Str)(i:Nat):Bool:=match hl[i]? with
 |some c=>decide (V.str c.2=V.str kd)
 |none=>false
def aW3 (v:H L=some (.lst vs))(u:bR (IsC K H) vs hl)(h8:hl.length<=100)(C:Cap X scope Nn σ [none,some (.str kd)])(I:∀R:VK,R (.ref L) H->tl σ H R)
  (q:∀D H' ys,H D=none->Same H H'->H' D=some (.lst ys)->(ys.length<=vs.length)->(∀y∈ys,∃(j:Nat) (c:Str × Str),vs[j]?=some y/\hl[j]?=some c/\c.2=kd)->Q (.ref D) H') :
  jB X scope Nn (tL K tl) (cF 0) (aHj (tOp rEq (tOp (aSf K) (wR 0) (tC (.int 1))) (wR 1))) (wR 0) σ H Q:=by
 have M:=u.len;refine uJ [none,some (.str kd)] C (I _ (L,4,(_,SqL.of v),vH Same (oX H) vs (kdP hl kd) (λi _ y=>∃c,vs[i]?=some y/\hl[i]?=some c/\c.2=kd) (λ_ _ h=>h) (λ_ _ _ h=>h) (λi σ=>∃y,vs[i]?=some y/\At1 [none,some (.str kd)] y σ) (Ps1 [none,some (.str kd)]) (none,4) (small (5)) _ (aCm λH' b=>SqL.of (b _ _ v)) (uN λH' b=>SqL.of (b _ _ v)) (λi x G H' J a m b B=>?_) (λi x t a o H' R b r=>?_) (λi x t a o g H' R b r=>?_) λD A ys w E z f=>?_))
 .exact hg1 (i:=i) m fun t s n=>B t s (x,a,n)
 .have(y,d,l,rfl):=o;rw[a] at d;cases d;have(c,k,p,rfl,g):=bQ u a;have e:kdP hl kd i=decide (V.str c.2=V.str kd):=by unfold kdP;rw[k]
  exists _,by cases l <;> rfl,p,_,1,02,b.aG g,at1 _ _ _,_,by cases l <;> rfl,43;rw[<-e];exact r H' (Same.refl H')
 .have(y,d,l,rfl):=o;rw[a] at d;cases d;have(c,k,_):=bQ u a;unfold kdP at g;rw[k] at g;exact(_,by cases l <;> rfl,r _ _ (Same.refl H') (c,a,k,V.str.inj (of_decide_eq_true g)))
 .refine q D A ys E w z ?_ λy d=>?_
  .rw[<-f.len];have:=oY (kdP hl kd) 0 (List.range vs.length);rw[bAG] at this;exact this
  .have(i,c,s,n,F):=bEj f y d;exact(i,c,s,n,F)
def bJa (Y N:Hp->Prop)(b:∀R:Bool->Hp->Prop,(∀H8,Y H8->R true H8)->(∀H8,N H8->R false H8)->c σ H R)(d:∀H8,Y H8->t D σ H8)(a:∀H8,N H8->u D σ H8):aGw c t u D σ H:=
 b _ (λH8 y=>bI (d H8 y)) (λH8 y=>aU (a H8 y))
inductive aMr (K:bGC)(vs:List V)(H:Hp)(Q:VK)(E_:XK):Prop
 |mk (a:Addr)(vh vo:V)(hd ho:Hdr)(_:vs=[.ref a,vh,vo])(_:lJ H a)(_:eU K H vh hd)(_:rZ hd)(_:eU K H vo ho)(_:rZ ho)(_:∀p H' us ps,Fx a H H'->H' p=some (.tup us)->bR (pP K H') us ps->bIt hd ho ps->ps.length<=3->Q (.ref p) H')
def aGf (T:!Txt)(aR:!Ok 1 "_law_next" n7 jF) :
  !Ok 2 "_law_pairs" bQF (aMr K):=by
 refine Ok.ofW T.aIr gM λZ H v Q hr h=>?_;have(a,vh,vo,J,ho,rfl,u,(b,us,rfl,hb,af),ak,(o,os,rfl,hO,ag),ab,q):=h;have hu:=xP hr;have hU:=hr.units;have C:=gM.nd;exists _,(aB (bU 3 (aY aR (aF (vv 0) (va1 (aJ aM (7) T.cH bM (va1 (vv 1))))))) aZ);have((nd,l1,l8),hc):=id ak;have((a2,m1,m8),ay):=id ab;have lu:=af.len;have lo:=ag.len;refine(33,b,3,.inr hb,a,3,u,(by show (0:Int)<(us.length:Int)/\(us.length:Int)<2 ^ 64;lia),λt H1 f1 t0 t1=>?_);obtain⟨k,rfl⟩:∃k:Nat,t=k:=(t.toNat,5);have C:=gM.nd;exists _,(aB (bU 4 (bF wL (7) T.zO uM (va1 (vv 2)))) aZ);refine(3,o,3,.inr (f1.aG u hO),λL H2 fL s2 g2=>?_);have C:=gM.nd;exists _,(aB (bU 5 (cU cW)) aZ);refine(sz0,λD H3 fD s3 g3=>?_);have f3:Fx a H H3:=(f1.sm s2).sm s3;have a8:TK K H H3:=f3.tk u;have a9:H L=none:=f1.free fL;have ae:H D=none:=(f1.sm s2).free fD;have a5:L≠a:=u.ne a9;have a0:D≠a:=u.ne ae;have a7:L≠D:=bV g2 fD;have C:=gM.nd;exists _,(aB (nH PassesOwn.never rfl (fV (cA jX (dM jZ (vv 1) (eE (vv 3)) fK) (dM jZ (vv 1) fK (eE (vv 3))))) (iY rfl (aW (cP 6) (aW (cP 7) cV))) (aB (lF (i0:=8) gM.nd rfl (0) (N:=["_law_column","_law_kind"]) ck (dC (aD rJ)) rfl (iD (vv 4)) (λcl s' l fp=>((dF 0),(zY (cL bZ (aQ (cT (K:=K)) (vv 0) aA) (vv 1))),(vv 0)))) aZ)) (aC (aH (bF cQ (7) T.cM cB (va1 (vv 5))))));refine(333,b,3,a8 _ _ hb,λp4 H4 s4 g4=>(333,b,3,s4.aG (a8 _ _ hb),λp5 H5 s5 g5=>(p4,p5,12,s5.aG g4,g5,8,λp6 H6 s6 g6=>?_)))
 .rw[kI,pF,<-w6];show (rot k us).length<=_;rw[aT4];exact small (5)
 rw[kI,pF] at g6;have g6:SqT K H6 p6 (rot k us):=g6;have a1:=s4.trans (s5.trans s6);have f6:Fx a H H6:=f3.sm a1;have aj:TK K H H6:=f6.tk u;have ad:bR (IsC K H6) (rot k us) (rot k J):=bA4 (af.imp λ_ _ h=>h.tk aj) k;have am:((rot k J).map (·.1)).Nodup:=by rw[bC4];exact ((aD8 k _).nodup_iff).mpr nd
 have pm:∀c∈rot k J,c∈J:=λc h=>(aD8 k J).mem_iff.mp h;have lr:=aT4 k us;refine(p6,4,(_,g6),aJe (xs:=rot k us) (λi σ l=>(Fx a H l/\TK K H6 l)/\∃(v ws:List V) (hl:Hdr) (ps:List (Str × Str)) (l6 l7 l8 l9:Option V),l L=some (.lst v)/\l D=some (.lst ws)/\bR (IsC K l) v hl/\bR (pP K l) ws ps/\aDz J ho (rot k J) i hl ps/\σ=[some (.ref a),some (.ref b),some (.ref o),some (.int k),some (.ref L),some (.ref D),l6,l7,l8,l9]) ((f6,λ_ _ e=>e),00,ho,[],11,a1 _ _ (s3 _ _ g2),a1 _ _ g3,ag.imp λ_ _ h=>h.tk aj,.nil,bI2,4) (by rintro i σ l _ ⟨e,_⟩;exact e.2 _ _ g6) ?_ ?_)
 .rintro i x σ l hx ⟨⟨fl,tk'⟩,v,ws,hl,ps,l6,l7,l8',l9,gL,gD,hvs,hws,pi,rfl⟩;have(c,ac,bx,rfl,au):=bQ ad hx;have lv:=hvs.len;have lw:=hws.len;have lh:=pi.sub.length_le;have as:(hl.map (·.1)).Nodup:=a2.sublist (pi.sub.map _);exists bx,3,tk' _ _ au,40312;dsimp only[cF,nO,kO];refine aW3 (kd:=c.2) gL hvs (5) ?_ (λR r=>(3,r)) λS H7 O fS s7 g7 ly hy=>?_
  .exact eX 7 (0) rfl rfl (0)
  have no:∀g,Fx a H7 g->(Fx a H g/\TK K H6 g)/\∃(v ws:List V) (hl:Hdr) (ps:List (Str × Str)) (m6 m7 m8 m9:Option V),g L=some (.lst v)/\g D=some (.lst ws)/\bR (IsC K g) v hl/\bR (pP K g) ws ps/\aDz J ho (rot k J) (i+1) hl ps/\[some (.ref a),some (.ref b),some (.ref o),some (.int k),some (.ref L),some (.ref D),some (.str c.1),some (.str c.2),some (.ref S),l9]=[some (V.ref a),some (.ref b),some (.ref o),some (.int k),some (.ref L),some (.ref D),m6,m7,m8,m9]:=by intro g W;have p:Fx a l g:=(Fx.of fl.st s7).trans W;have M:TK K l g:=p.tk fl.st;exact((fl.trans p,λ_ _ e=>M _ _ (tk' _ _ e)),v,ws,hl,ps,11,p.same _ _ a5 gL,p.same _ _ a0 gD,hvs.imp λ_ _ h=>h.tk M,hws.imp λ_ _ h=>h.tk M,pi.next,4)
  have C:=gM.nd;exists _,(aC (bL (VW.pt (jH (cL (bIw (bFY hu)) (vv 8) (cU cW)) (jH (cL aM9 (aJ aM (7) T.cH bM (va1 (vv 5))) aA) (iU (VW.pt (dZ (cL (bAr (bFY hu)) (vv 5) (cU cW)) (dO (cL aBb (aY aR (aF (vv 0) (va1 aA))) aA)))))))) (aB (bU 9 (aQ bB (vv 8) (aY aR (aF (vv 0) (va1 (aJ aM (7) T.cH bM (va1 (vv 8)))))))) aZ) aV));refine bJa (λg=>Fx a H7 g/\1<=O.length/\ps.length<3) (λg=>Fx a H7 g) (λR y n=>?_) (λg hY=>?_) (λg W=>no g W)
  .have A:=fl.st.same s7;refine(3,sz0,λE8 g _ X g8=>(S,E8,O,44,SqL.of (X _ _ g7),SqL.of g8,3,aAr (λc1=>?_) (λ_=>n g (.of A X))));have a3:1<=O.length:=by
    cases O with
    |nil=>cases c1
    |cons _ _=>rw[p8];lia
   refine(3,D,3,.inl (SqL.of (X _ _ (s7 _ _ gD))),123,aAr (λc2=>?_) (λ_=>n g (.of A X)));have I:ps.length<3:=by have:=of_decide_eq_true c2;lia
   refine(3,sz0,λE9 H9 _ s9 g9=>(D,E9,ws,44,SqL.of (s9 _ _ (X _ _ (s7 _ _ gD))),SqL.of g9,3,aAr (λ_=>y H9 (.of A (X.trans s9),a3,I)) (λ_=>?_)));refine(3,a,0o3,4,A.same (X.trans s9),6,λd ah ap d0 d1=>(1238));have f:=(Fx.of A (X.trans s9)).trans ap;cases e:decide (0<d) with
   |true=>exact y ah (f,a3,I)
   |false=>exact n ah f
  .have(W,a3,I):=hY;have p:Fx a l g:=(Fx.of fl.st s7).trans W;have M:TK K l g:=p.tk fl.st;have a4:S≠a:=fl.st.ne fS;refine(333,S,3,.inl (SqL.of (W.same _ _ a4 g7)),a,3,W.st,(by show (0:Int)<(O.length:Int)/\(O.length:Int)<2 ^ 64;lia),λd H9 f9 d0 d1=>?_);obtain⟨m,rfl⟩:∃m:Nat,d=m:=(d.toNat,5);have G:Fx a l H9:=p.trans f9;have Y:TK K l H9:=G.tk fl.st;have hm:m<O.length:=by lia
   have(j,cx,hj,B,ek):=hy O[m] (bAR hm);have(b0,U,px,ai,az):=bQ hvs hj;rw[B] at U;cases U;have aq:O[m]?=some (.ref px):=by rw[b7 hm,ai]
   rw[ai] at hj;exists S,012,SqL.of (f9.same _ _ a4 (W.same _ _ a4 g7)),aX aq;have E:=G.same _ _ a5 gL;have ar:=G.same _ _ a0 gD;have s:=Y _ _ az;exists _,(aB (eV (qM PySem.F.plainAttrs_list PySem.F.slot_list_remove PySem.F.type_list_remove (aV0 hU) (vv 4) (va1 (vv 9)))) (aC (eV (qM PySem.F.plainAttrs_list PySem.F.slot_list_append PySem.F.type_list_append iW (vv 5) (va1 (aP (aF (vv 6) (va1 (aQ aK (vv 9) aA)))))))));exists 3,.inl (40,SqL.of E),3,L,v,_,j,02,E,hj,.inr (px,px,12,s,s,.cons (aO6 rfl) (.cons (aO6 rfl) .nil)),λm' z' b1 ax=>?_
   .have(cz,aw,pz,rfl,al):=bQ hvs ax;refine(pz,px,cz,cx,44,Y _ _ al,s,λe=>?_);have:=aYh as aw B e;lia
   have z:(upd H9 L (.lst (v.eraseIdx j))) D=some (.lst ws):=by rw[bC a7.symm];exact ar
   refine(3,.inl (40,SqL.of z),3,rd0 rfl (s.jK E) (sz2,λtz Hy an sy gy=>?_));have aa:=sy _ _ z;have av:Hy L=some (.lst (v.eraseIdx j)):=sy _ _ aO;have ao:tz≠D:=(bV z an).symm;have a6:TK K l (upd Hy D (.lst (ws++[.ref tz]))):=λ_ _ e=>(sy.aG ((Y _ _ e).jK E)).jK aa;refine(D,12,aa,kJ (5),(8,λ_ _ e=>a6 _ _ (tk' _ _ e)),v.eraseIdx j,ws++[.ref tz],hl.eraseIdx j,ps++[(c.1,cx.1,)],11,by rw[bC a7];exact av,aO,(aQ0 hvs j).imp λ_ _ h=>h.tk a6,(hws.imp λ_ _ h=>h.tk a6).app (.cons (tz,4,SqT.of (by rw[bC ao];exact gy),(hc c (pm c (v9 ac))).1,(ay cx (pi.sub.subset (v9 B))).1) .nil),pi.add am a2 pm ac B ek I,4);exact (((fl.trans G).upd a9 a5).sm sy).upd ae a0
 .rintro σ l ⟨⟨fl,tk'⟩,v,ws,hl,ps,l6,l7,l8',l9,gL,gD,hvs,hws,pi,rfl⟩;refine(3,D,3,SqL.of gD,λp9 H9 _ s9 g9=>?_);exact q p9 H9 ws ps (fl.sm s9) g9 (hws.imp λ_ _ h=>h.same s9) (pi.fin nd a2) pi.len
def aZ6:∀{ps:List (Str × Str)},(∀p∈ps,o≠.dealt p.2)->prd o ps=o:=by
 intro a
 induction a with
 |nil=>rintro _;exact rfl
 |cons p ps ih=>rintro h;rw[prd,if_neg (h p v7)];exact ih λx b=>h x (j8 _ b)
theorem aH7:∀{ps:List (Str × Str)} {i:Nat} {p:Str × Str},ps[i]?=some p->o=.dealt p.2->(∀j x,j<i->ps[j]?=some x->o≠.dealt x.2)->prd o ps=.dealt p.1
 |[],_,_,h,_,_=>by simp at h
 |x::ps,0,p,h,e,_=>by cases h;rw[prd,if_pos e]
 |x::ps,i+1,p,h,e,n=>by rw[prd,if_neg (n 0 x (5) rfl)];exact aH7 (by simpa using h) e λj y b a=>n (j+1) y (5) (by simpa using a)
def bD8 (h:p∈ps)(a:s=.dealt p.1)(b:o=.dealt p.2):jn3 s o ps=some s:=by subst a b;exact if_pos h
def aC3 (a:∀p∈ps,¬ (s=.dealt p.1/\o=.dealt p.2))(b:∀h,s=o->s≠.at_ h):jn3 s o ps=none:=by
 unfold jn3;cases s with
 |copied=>rfl
 |loose=>rfl
 |dealt c=>
  cases o with
  |dealt d=>exact if_neg λh=>a _ h (44)
  |_=>rfl
 |at_ h=>
  cases o with
  |at_ k=>exact if_neg λe=>b h (by rw[e]) rfl
  |_=>rfl
def dlP (o:Spr)(ps:List (Str × Str))(i:Nat):Bool:=match ps[i]? with
 |some p=>decide (o=.dealt p.2)
 |none=>false
theorem aJ5:∀{k:Nat} {xs:List Nat},(sel p k xs).Sublist xs
 |_,[]=>List.Sublist.refl _
 |k,x::xs=>by
  show (if p k then x::sel p (k+1) xs else sel p (k+1) xs).Sublist _
  split
  .exact List.Sublist.cons₂ _ aJ5
  .exact List.Sublist.cons _ aJ5
inductive bAk (K:bGC)(vs:List V)(H:Hp)(Q:VK)(E_:XK):Prop
 |mk (v u w s o ps:_)(_:vs=[v,u,w])(_:oU K H v s)(_:oU K H u o)(_:bGi K H w ps)(_:ps.length<=8)(_:∀r H',Same H H'->((∃sp,jnd s o ps=some sp/\oU K H' r sp)\/(jnd s o ps=none/\r=.non))->Q r H')
def aLx (T:!Txt):!Ok 1 "_law_met" o9 (bAk K):=by
 refine Ok.ofW T.aSq aNx λZ H vs Q hr h=>?_;have(v,u,w,C,o,t,rfl,(a,rfl,F),(b,rfl,hb),(c,U,rfl,hc,hu),hl,q):=h;have Y:=hr.units;exists _,(aB (bL (cL (sH Y) (vv 1) (aP (va1 aL))) (aC (aH (vv 0))) aV) (aB (bL (cL (sH Y) (vv 0) (aP (va1 aL))) (aC (aH (aQ bB (cA aNe (bY (N:=["_law_c","_law_d","_law_two"]) ck (dC (aD qR)) rfl (fV (vv 2)) (λcl m B fp=>((iT (K:=K) (n:=2) rfl (aW (dF 0) (aW (dF 1) cV))),(zY (cL (aJi (K:=K) Y) (vv 2) (aP (aF aL (va1 (vv 1)))))),(aP (aF aL (va1 (vv 0))))))) (cU (va1 (vv 1)))) aA))) aV) (aB (bL (VW.pt (dZ (cD (aJ (aXy rfl) (7) T.bJc bHm (va1 (bY (N:=["_law_c","_law_d","_law_one","_law_two"]) ck (dC (aD qR)) rfl (fV (vv 2)) (λcl m B fp=>((iT (K:=K) (n:=2) rfl (aW (dF 0) (aW (dF 1) cV))),cI,(dI (lW (aJi (K:=K) Y) (vv 2) (aP (aF aL (va1 (vv 0))))) (dN (lW (aJi (K:=K) Y) (vv 3) (aP (aF aL (va1 (vv 1))))))))))))) (dO (VW.pt (jH (cL (sH Y) (vv 0) (vv 1)) (iU (cL bZ (aQ aK (vv 0) aA) aL))))))) (aC (aH (vv 0))) aV) (aC (aH mG)))));have lu:=hu.len;refine(3,sz1,λp1 H1 f1 t1 g1=>(kW o,kW .copied,(b,4,t1.aG hb),(p1,4,SqT.of g1),eY _,eY _,38));unfold jnd at q;by_cases e1:o=.copied
 .rw[j4 (fG.mpr e1)];rw[if_pos e1] at q;exact bI (3,q _ H1 t1 (.inl (3,a,4,t1.aG F)))
 rw[j9 λz=>e1 (fG.mp z)];rw[if_neg e1] at q;refine aU (3,sz1,λp2 H2 f2 t2 g2=>(kW C,kW .copied,(a,4,t2.aG (t1.aG F)),(p2,4,SqT.of g2),eY _,eY _,38));have f:=t1.trans t2;by_cases e2:C=.copied
 .rw[j4 (fG.mpr e2)];rw[if_pos e2] at q;refine bI ?_;dsimp only[qI,tOp];refine mX [none,none,some (.ref b)] ?_ (3,c,4,(_,f.aG hc),vH Same (oX H2) U (dlP o t) (λi H y=>∃p,t[i]?=some p/\oU K H y (.dealt p.1)) (λ_ e h=>?_) (λ_ _ e h=>?_) (λi σ=>∃p,t[i]?=some p/\At2 [none,none,some (.ref b)] (.str p.1) (.str p.2) σ) (Ps2 [none,none,some (.ref b)]) (none,none,4) (small (5)) _ (tO λB m=>m.aG (f.aG hc)) (mR λB m=>m.aG (f.aG hc)) (λi x σ' B Q' J O m qq=>?_) (λi x M J hA B R m r=>?_) (λi x M J hA g B R m r=>?_) λD H6 ys s6 fD g6 s=>?_)
  .refine(4,λi y v l d=>?_)
   match i,l,d with
   |0,_,d=>cases d
   |1,_,d=>cases d
   |2,l,d=>cases l;cases d;exact(by trivial,1,44,by trivial)
   |i+3,l,_=>cases l
  .have(p,l,d):=h;exact(p,l,dU.same e d)
  .have(p,l,d):=h;exact(p,l,dU.tk (λ_ _ k=>k.jK e) d)
  .have(p,g,p',rfl,X,_):=bQ hu J;exact hg2 (m.aG (f.aG X)) O fun M l d=>qq M l (p,g,d)
  .have(p,g,rfl):=hA;refine(33,sz2,λp4 H4 f4 S g4=>(kW o,kW (.dealt p.2),(b,4,S.aG (m.aG (f.aG hb))),(p4,4,SqT.of g4),eY _,eY _,38));have e:decide (kW o=kW (.dealt p.2))=dlP o t i:=by unfold dlP;rw[g];exact decide_eq_decide.mpr fG
   rw[e];exact r H4 S
  .have(p,g,rfl):=hA;exact(3,sz2,λp5 H5 f5 s5 g5=>r _ H5 s5 (p,g,p5,4,SqT.of g5))
  .have ly:ys.length<=8:=by have:=oY (dlP o t) 0 (List.range U.length);rw[bAG,s.len] at this;lia
   refine(3,sz1,λL H7 f7 s7 g7=>?_);refine(D,L,ys,02,s7 _ _ g6,g7,small (by simp only[p8,bBO];lia),λL2 H8 f8 s8 g8=>?_);have t8:=f.trans (s6.trans (s7.trans s8));have G:∀{j:Nat} {x:Str × Str},t[j]?=some x->o=.dealt x.2->j∈sel (dlP o t) 0 (List.range U.length):=λ{j x} hx e=>by rw[bDL];refine aJs ?_ (bAI _) (by have:=(List.getElem?_eq_some_iff.mp hx).1;lia);unfold dlP;rw[hx];exact j4 e
   cases hE:sel (dlP o t) 0 (List.range U.length) with
   |nil=>rw[hE] at s G;cases s;refine(L2,_,0,02,SqL.of g8,at0 _ _,q _ H8 t8 (.inl (38)));rw[aZ6 λp g e=>by have(j,hj):=List.mem_iff_getElem?.mp g;exact absurd (G hj e) (9)];exact(b,4,t8.aG hb)
   |cons i rest=>
    have I:i∈sel (dlP o t) 0 (List.range U.length):=by rw[hE];exact v7
    have a0:(i::rest).Sublist (List.range U.length):=by rw[<-hE];exact aJ5
    have a2:=(List.pairwise_cons.mp (List.pairwise_lt_range.sublist a0)).1;rw[hE] at s G;cases s with
    |cons r _=>
     have(p,g,hy):=r;refine(L2,_,0,02,SqL.of g8,at0 _ _,q _ H8 t8 (.inl (38)));have ho:o=.dealt p.2:=by rw[bDL] at I;have:=(aCk I).1;unfold dlP at this;rw[g] at this;exact of_decide_eq_true this
     rw[aH7 g ho λj x hj hx e=>by
      rcases List.mem_cons.mp (G hx e) with h|h
      .lia
      .have:=a2 j h;lia]
     exact dU.same (s7.trans s8) hy
 rw[j9 λz=>e2 (fG.mp z)];rw[if_neg e2] at q;refine aU ?_;dsimp only[oM,nO,aGw,tOr,tB,tCB,cX];refine mX [none,none,some (.ref a),some (.ref b)] ?_ (3,c,4,(_,f.aG hc),vH Same (oX H2) U (λ_=>true) (λi H y=>∃p,t[i]?=some p/\y=.bl (decide (C=.dealt p.1) && decide (o=.dealt p.2))) (λ_ _ h=>h) (λ_ _ _ h=>h) (λi σ=>∃p,t[i]?=some p/\At2 [none,none,some (.ref a),some (.ref b)] (.str p.1) (.str p.2) σ) (Ps2 [none,none,some (.ref a),some (.ref b)]) (none,none,4) (small (5)) _ (tO λB m=>m.aG (f.aG hc)) (mR λB m=>m.aG (f.aG hc)) (λi x σ' B Q' J O m qq=>?_) (λi x M J hA B R m r=>r B (Same.refl _)) (λi x M J hA g B R m r=>?_) λD H6 ys s6 fD g6 s=>?_)
 .refine(4,λi y v l d=>?_)
  match i,l,d with
  |0,_,d=>cases d
  |1,_,d=>cases d
  |2,l,d=>cases l;cases d;exact(by trivial,0,44,by trivial)
  |3,l,d=>cases l;cases d;exact(by trivial,1,44,by trivial)
  |i+4,l,_=>cases l
 .have(p,g,p',rfl,X,_):=bQ hu J;exact hg2 (m.aG (f.aG X)) O fun M l d=>qq M l (p,g,d)
 .have(p,g,rfl):=hA;have t3:=f.trans m;refine(33,sz2,λp4 H4 f4 S g4=>(kW C,kW (.dealt p.1),(a,4,S.aG (t3.aG F)),(p4,4,SqT.of g4),eY _,eY _,38));by_cases z:C=.dealt p.1
  .rw[j4 (fG.mpr z)];refine bI (33,sz2,λp5 H5 f5 s5 g5=>(kW o,kW (.dealt p.2),(b,4,s5.aG (S.aG (t3.aG hb))),(p5,4,SqT.of g5),eY _,eY _,8));refine r _ H5 (S.trans s5) (p,g,8);rw[j4 z,Bool.true_and];exact congrArg V.bl (decide_eq_decide.mpr fG)
  .rw[j9 λk=>z (fG.mp k)];exact aU (r _ H4 S (p,g,by rw[j9 z];rfl))
 rw[oK] at s;have(l1,l2):=mC s;have A:=f.trans s6
 let fb:Str × Str->Bool:=λp=>decide (C=.dealt p.1) && decide (o=.dealt p.2)
 have ey:ys=(t.map fb).map V.bl:=bBM λi=>by
  cases ez:ys[i]? with
  |some z=>have(p,g,rfl):=l2 i z ez;rw[j5,j5,g];rfl
  |none=>have:=List.getElem?_eq_none_iff.mp ez;exact (bAJ (by rw[d7,d7];lia)).symm
 exists D,t.map fb,4,SqL.of (by rw[g6,ey]),3;cases a1:(t.map fb).any id with
 |true=>have(x,hx,E):=List.any_eq_true.mp a1;have(p,g,rfl):=List.mem_map.mp hx;have E:(decide (C=.dealt p.1) && decide (o=.dealt p.2))=true:=E;rw[bAX] at E;exact bI (bI (3,q _ H6 A (.inl (_,bD8 g (of_decide_eq_true E.1) (of_decide_eq_true E.2),a,4,A.aG F))))
 |false=>
  have W:∀p∈t,¬ (C=.dealt p.1/\o=.dealt p.2):=by rintro p g ⟨k1,k2⟩;have:=List.any_eq_false.mp a1 _ (List.mem_map.mpr (p,g,4));exact this (by show (decide (C=.dealt p.1) && decide (o=.dealt p.2))=true;rw[j4 k1,j4 k2];rfl)
  refine aU (33,kW C,kW o,(a,4,A.aG F),(b,4,A.aG hb),eY _,eY _,38);by_cases z:C=o
  .rw[j4 (fG.mpr z)];refine bI ?_;subst z;cases C with
   |copied=>exact absurd rfl e2
   |loose=>exact (rd0 rfl (A.aG F) (43,aU (q _ H6 A (.inr (aC3 W (λh _ k=>by cases k),4)))))
   |dealt c=>exact (rd0 rfl (A.aG F) (43,aU (q _ H6 A (.inr (aC3 W (λh _ k=>by cases k),4)))))
   |at_ h=>exact (rd0 rfl (A.aG F) (43,bI (3,q _ H6 A (.inl (_,if_pos rfl,a,4,A.aG F)))))
  .rw[j9 λk=>z (fG.mp k)];exact aU (aU (q _ H6 A (.inr (aC3 W (λh k=>absurd k z),4))))
def hdK (hd:Hdr):List (Key × V):=hd.map λc=>((Sum.inr c.1:Key),V.str c.2,)
def bAp (h:bR (IsC K H) us hd):uI K H us (hdK hd):=by
 induction h with
 |nil=>exact .nil
 |cons r _ ih=>have(p,rfl,a):=r;exact .cons (p,4,a) ih
def aQp:∀kvs acc,(acc.map (·.1)).Nodup->acc.length+kvs.length<=(jO acc kvs).length->((acc++kvs).map (·.1)).Nodup:=by
 intro c
 induction c with
 |nil=>rintro acc h _;rw[bCM];exact h
 |cons kv r ih=>
  rintro acc h hl;have e:jO acc (kv::r)=jO (putK acc kv.1 kv.2) r:=rfl;rw[e,p8] at hl;have i:=mK r (putK acc kv.1 kv.2);by_cases a:(acc.any λx=>decide (x.1=kv.1))=true
  .have:(putK acc kv.1 kv.2).length=acc.length:=by unfold putK;rw[if_pos a,d7]
   lia
  .have d:putK acc kv.1 kv.2=acc++[kv]:=by unfold putK;rw[if_neg a]
   rw[d] at hl;have:=ih (acc++[kv]) ?_ (by rw[w6,bBG];lia)
   .rw[bCY] at this;exact this
   .rw[bAW,bDZ];refine(h,(9),λx f y b e=>a ?_);have(z,g,rfl):=List.mem_map.mp f;have b:y=kv.1:=by simpa using b
    exact List.any_eq_true.mpr (z,g,j4 (e.trans b))
structure Both (i j:Nat)(x z y:Ent):Prop where
 ps:∃ps sp,y=(.made "join" (.join i j ps),(true,.join x.s.q z.s.q ps,sp),x.hd++z.hd.filter λc=>!decide (c.1∈ps.map (·.2)))/\jnd x.s.sp z.s.sp ps=some sp/\bIt x.hd z.hd ps/\1<=ps.length/\ps.length<=3
 w:z.s.w=true
 few:y.hd.length<=8
 nd:(y.hd.map (·.1)).Nodup
inductive aMu (K:bGC)(vs:List V)(H:Hp)(Q:VK)(E_:XK):Prop
 |mk (a D:Addr)(us:List V)(i j:Nat)(u1 u2:V)(x z:Ent)(_:vs=[.ref a,.ref D,.int (i:Nat),.int (j:Nat)])(_:lJ H a)(_:H D=some (.lst us))(_:D≠a)(_:us[i]?=some u1)(_:us[j]?=some u2)(_:IsE K H u1 x)(_:IsE K H u2 z)(_:rZ x.hd)(_:rZ z.hd)(_:size x.s.q<=20)(_:size z.s.q<=20)(_:∀v H',Fx a H H'->(v=.non\/∃y,IsE K H' v y/\Both i j x z y)->Q v H')
def aIw (T:!Txt)(ba:!Ok 2 "_law_pairs" bQF (aMr K))(iJ:!Ok 21 "_law_leaves" bQC (aZa K 20))(b3:!Ok 1 "_law_met" o9 (bAk K)) :
  !Ok 22 "_law_both" bQA (aMu K):=by
 refine Ok.ofW T.aNr lA λZ H vs Q hr h=>?_;have(a,D,C,i,j,u1,u2,x,z,rfl,U,hD,ah,hi,hj,hx,hz,ox,oz,sx,sz,q):=h;have(p1,b5,bc,au,b9,rfl,e1,_,q1,h1,r1):=id hx;have(p2,bf,b4,bg,b6,rfl,X,_,q2,h2,r2):=id hz;have hU:=hr.units;have a1:=lA.nd;exists _,(aB (bU 4 (aQ aK (aQ bB (vv 1) (vv 2)) aA)) aZ);exists 33,D,C,i,02,SqL.of hD,aX hi,p1,_,0o3,02,e1,aX (j:=3) rfl;have a1:=lA.nd;exists _,(aB (bU 5 (aY ba (aF (vv 0) (aF (vv 4) (va1 (aQ aK (aQ bB (vv 1) (vv 3)) aA)))))) aZ);refine(3333,D,C,j,02,SqL.of hD,aX hj,p2,_,0o3,02,X,aX (j:=3) rfl,a,00,x.hd,z.hd,4,U,h1,ox,h2,oz,λpp H1 ws f f1 g1 F ad l3=>?_);have lw:=F.len;have o:TK K H H1:=f1.tk U;have G:=f1.same _ _ ah hD;dsimp only[cF];exists _,(aB (bL (VW.pt (dZ (cL (aZ2 (bBI (bBW _ 64) hU)) (vv 5) (aP cW)) (dZ (cJ (cD (aQ aK (aQ bB (vv 1) (vv 3)) aA))) (dO (cL aBb (cA dX (aY iJ (va1 (aQ aK (aQ bB (vv 1) (vv 2)) aA))) (aY iJ (va1 (aQ aK (aQ bB (vv 1) (vv 3)) aA)))) aA))))) (aC (aH mG)) aV) aZ);refine jE (fun σ b=>Same H1 b/\σ=[some (.ref a),some (.ref D),some (.int (i:Nat)),some (.int (j:Nat)),some au,some (.ref pp),none,none,none]/\1<=f.length/\z.s.w=true) (λN hN=>?_) ?_
 .refine(3,sz0,λp3 H3 f3 g g3=>(pp,p3,ws,44,g.aG (SqT.of g1),SqT.of g3,38));have Y:∀b,Same H1 b->Q .non b:=λb u=>q .non b (f1.sm u) (.inl rfl);cases hw:ws with
  |nil=>exact bI (bI (Y _ g))
  |cons w0 wr=>
   refine aU (33,D,C,j,02,SqL.of (g _ _ G),aX hj,p2,_,1,02,g.aG (o _ _ X),at1 _ _ _,38);cases hb:z.s.w with
   |false=>exact bI (bI (Y _ g))
   |true=>refine aU (33,D,C,i,02,SqL.of (g _ _ G),aX hi,p1,_,2,02,g.aG (o _ _ e1),at2 _ _ _ _,03,(q1.tk o).same g,sx,8);exists 33,D,C,j,02,SqL.of (g _ _ G),aX hj,p2,_,2,02,g.aG (o _ _ X),at2 _ _ _ _,03,(q2.tk o).same g,sz,12123;exact aAr (λ_=>Y _ g) (λ_=>hN _ _ (g,4,by rw[<-lw,hw];exact bDI ..,hb))
 rintro σ' H2 ⟨s2,rfl,lp,hzw⟩;have bb:TK K H H2:=λ_ _ k=>s2.aG (o _ _ k);have f2:=f1.sm s2;have a1:=lA.nd;exists _,(aB (bU 6 (bY (N:=["_law_c","_law_d"]) ck dH rfl (fV (vv 5)) (λcl u b fp=>((iT (K:=K) (n:=2) rfl (aW (dF 0) (aW (dF 1) cV))),cI,(vv 1))))) aZ);dsimp only[nO,kO];refine mX [none,none] gR (3,pp,4,(_,s2.aG (SqT.of g1)),vH Same (oX H2) ws (λ_=>true) (λi _ y=>∃p,f[i]?=some p/\y=.str p.2) (λ_ _ h=>h) (λ_ _ _ h=>h) (λi σ=>∃p,f[i]?=some p/\At2 [none,none] (.str p.1) (.str p.2) σ) (Ps2 [none,none]) (none,none,4) (small (5)) _ (tO λb u=>u.aG (s2.aG (SqT.of g1))) (mR λb u=>u.aG (s2.aG (SqT.of g1))) (λi x σ' b Q' ex av u qq=>?_) (λi x σ2 ex hA b R u r=>r b (Same.refl _)) (λi x σ2 ex hA S b R u r=>?_) λD3 H3 ys g b0 g3 a6=>?_)
 .have(p,S,p',rfl,ak,_):=bQ F ex;exact hg2 (u.aG (s2.aG ak)) av fun σ2 k1 k2=>qq σ2 k1 (p,S,k2)
 .have(p,S,rfl):=hA;exact(3,r _ _ (Same.refl b) (p,S,4))
 rw[oK] at a6;have(ly,hy):=mC a6;have ey:ys=(f.map (·.2)).map V.str:=bBM λi=>by
  cases ez:ys[i]? with
  |some z=>have(p,S,rfl):=hy i z ez;rw[j5,j5,S];rfl
  |none=>have:=List.getElem?_eq_none_iff.mp ez;exact (bAJ (by rw[d7,d7];lia)).symm
 subst ey;have(b1,ab,rfl,ai,M):=id h1;have(b2,E,rfl,ar,A):=id h2;have l1:=M.len;have l2:=A.len;have x8:=ox.1.2.2;have z8:=oz.1.2.2;have f3:=f2.sm g;have a0:TK K H H3:=f3.tk U;have ac:=g _ _ (s2 _ _ G);have a1:=lA.nd;exists _,(aB (bU 7 (cA jX (vv 4) (bF cQ (7) T.cM cB (va1 (bY (N:=["_law_column","_law_ends"]) ck (dC (aD sY)) rfl (fV (aQ aK (aQ bB (vv 1) (vv 3)) aA)) (λcl u b fp=>((dF 0),(zY (fP (vR (K:=K)) (aQ (cT (K:=K)) (vv 0) aA) (vv 1) (1))),(vv 0)))))))) (aB (bU 8 (aY b3 (aF (aQ aK (aQ bB (vv 1) (vv 2)) aA) (aF (aQ aK (aQ bB (vv 1) (vv 3)) aA) (va1 (vv 5)))))) (aB (bL (VW.pt (dZ (cL aR0 (vv 8) mG) (dZ (cL aBb (aJ aM (7) T.cH bM (va1 (vv 7))) aA) (dO (cL aM9 (aJ aH5 (7) T.cH bM (va1 (bF (aDy rfl) (7) T.aAa uO (va1 (vv 7))))) (aJ aM (7) T.cH bM (va1 (vv 7)))))))) (aC (aH mG)) aV) (aC (aH (aP (aF (aP (aF aL (aF (vv 2) (aF (vv 3) (va1 (vv 5)))))) (aF eO (aF (aP (aF aL (aF (aQ aK (aQ bB (vv 1) (vv 2)) aA) (aF (aQ aK (aQ bB (vv 1) (vv 3)) aA) (va1 (vv 5)))))) (aF (vv 7) (va1 (vv 8))))))))))));exists 3;dsimp only[tCB,cX];refine aL7 E (oW z.hd (f.map (·.2))) [none,some (.ref D3)] ?_ (small (5)) (λR r=>nF (a0 _ _ ar) (λR' r'=>(33,D,C,j,02,SqL.of ac,aX hj,p2,_,0o3,02,a0 _ _ X,aX (j:=3) rfl,r')) R r) (λi x ex b R l sm r=>?_) rfl λD7 H7 s7 g7=>?_
 .exact eX 6 (0) rfl rfl (0)
 .have(d,ap,p,rfl,S):=bQ A ex;refine (rd0 rfl (sm.aG (a0 _ _ S)) (3,D3,3,.inl (SqL.of (sm _ _ g3)),4,lU,38));have e:oW z.hd (f.map (·.2)) i=!decide (d.1∈f.map (·.2)):=by unfold oW;rw[ap]
  rw[lV];rw[e] at r;exact r b (Same.refl b)
 refine(D7,3,SqL.of g7,λt H8 _ s8 g8=>?_);have ay:=oY (oW z.hd (f.map (·.2))) 0 E;have f8:=f3.sm (s7.trans s8);have ae:TK K H H8:=f8.tk U;refine(b1,t,12,ae _ _ ai,SqT.of g8,small (5),λr H9 s9 g9=>?_);have f9:=f8.sm s9;have I:TK K H H9:=f9.tk U;have a4:=s9 _ _ (s8 _ _ (s7 _ _ ac));have a5:=s2.trans (g.trans (s7.trans (s8.trans s9)));exists 33,D,C,i,02,SqL.of a4,aX hi,p1,_,0o4,02,I _ _ e1,aX (j:=4) rfl;exists 33,D,C,j,02,SqL.of a4,aX hj,p2,_,0o4,02,I _ _ X,aX (j:=4) rfl;refine(301,x.s.sp,z.s.sp,f,4,dU.tk I r1,dU.tk I r2,(pp,ws,4,a5.aG (SqT.of g1),F.imp λ_ _ h=>h.same a5),5,λvr a3 m am=>?_);have a2:=f9.sm m;have Y:∀b,Same a3 b->Q .non b:=λb u=>q .non b (a2.sm u) (.inl rfl);rcases am with⟨sp,as,pv,rfl,ax⟩|⟨_,rfl⟩
 .refine(023,aU ?_);have e:sel (oW z.hd (f.map (·.2))) 0 z.hd=z.hd.filter λc=>!decide (c.1∈f.map (·.2)):=rH λi x ex=>by unfold oW;rw[bEP,ex]
  have O:TK K H a3:=a2.tk U;have hM:bR (IsC K a3) (ab++sel (oW z.hd (f.map (·.2))) 0 E) (x.hd++z.hd.filter λc=>!decide (c.1∈f.map (·.2))):=by rw[<-e];exact (M.imp λ_ _ h=>h.tk O).app (aN5 (A.imp λ_ _ h=>h.tk O) 0)
  have lM:=hM.len;have aq:(ab++sel (oW z.hd (f.map (·.2))) 0 E).length<=1000:=by rw[w6];lia
  refine(3,r,3,.inr (m.aG g9),123,aAr (λ_=>bI (Y _ (Same.refl _))) (λc8=>?_));refine(3,r,03,m.aG g9,bAp hM,aq,λdD bh a7 v aw=>(dD,3,aw,3,r,3,.inr (v.aG (m.aG g9)),123,aAr (λ_=>Y _ v) (λcd=>?_)));have a7:=a2.sm v;have W:=v _ _ (m _ _ a4);have aj:=a5.trans (m.trans v);refine(333,sz4,λt1 G1 bd k1 ao=>?_);have a9:=a7.sm k1;have J:TK K H G1:=a9.tk U;exists 33,D,C,i,02,SqL.of (k1 _ _ W),aX hi,p1,_,2,02,J _ _ e1,at2 _ _ _ _;refine(33,D,C,j,02,SqL.of (k1 _ _ W),aX hj,p2,_,2,02,J _ _ X,at2 _ _ _ _,3,sz4,λt2 G2 be k2 al=>?_);refine(33,sz5,λtt Ht az kt an=>?_);have a8:=a9.sm (k2.trans kt);have L:TK K H Ht:=a8.tk U;have tb:=aj.trans (k1.trans (k2.trans kt));have hP:fY pP 1 3 K Ht (.ref pp) f:=((pp,ws,4,tb.aG (SqT.of g1),F.imp λ_ _ h=>h.same tb),lp,l3);have B:=v.trans (k1.trans (k2.trans kt));have aa:(x.hd++z.hd.filter λc=>!decide (c.1∈f.map (·.2))).length<=8:=by have:=of_decide_eq_false (Bool.eq_false_iff.mpr c8);lia
  have ag:((x.hd++z.hd.filter λc=>!decide (c.1∈f.map (·.2))).map (·.1)).Nodup:=by have af:=of_decide_eq_false (Bool.eq_false_iff.mpr cd);have:=aQp (hdK (x.hd++z.hd.filter λc=>!decide (c.1∈f.map (·.2)))) [] bEB (by rw[bBO];unfold hdK at af ⊢;rw[d7];lia);rw[bDH] at this;unfold hdK at this;rw[bBN] at this;have X:((λx:Key × V=>x.1) ∘ λc:Str × Str=>((Sum.inr c.1:Key),V.str c.2,))=(λn:Str=>(Sum.inr n:Key)) ∘ λc:Str × Str=>c.1:=rfl;rw[X,<-bBN] at this;exact (List.pairwise_map.mp this).imp λne z=>ne (congrArg _ z)
  exact q _ Ht a8 (.inr ((.made "join" (.join i j f),(true,.join x.s.q z.s.q f,sp),x.hd++z.hd.filter λc=>!decide (c.1∈f.map (·.2))),
   (tt,013,SqT.of an,.made ((k2.trans kt).aG (SqT.of ao)) .join (.join rfl rfl hP),.join (kt.aG (SqT.of al)) (q1.tk L) (q2.tk L) hP,(r,3,B.aG (m.aG g9),hM.imp λ_ _ h=>h.same B),pv,4,B.aG ax),
   ((f,sp,4,as,ad,lp,l3),hzw,aa,ag)))
 .exact(023,bI (bI (Y _ (Same.refl _))))
def bH0 (h:(hd.map (·.1)).Nodup):((hdK hd).map (·.1)).Nodup:=by unfold hdK;rw[bBN];have e:((λx:Key × V=>x.1) ∘ λc:Str × Str=>((Sum.inr c.1:Key),V.str c.2,))=(λn:Str=>(Sum.inr n:Key)) ∘ λc:Str × Str=>c.1:=rfl;rw[e,<-bBN];exact List.pairwise_map.mpr (h.imp λa z=>a (Sum.inr.inj z))
def bCs:∀{l:List Str},l.Nodup->l.length<=(l.filter λx=>!decide (x=n)).length+1:=by
 intro a
 induction a with
 |nil=>rintro _;simp
 |cons x r ih=>
  rintro h;rw[bDX] at h;rw[List.filter_cons,p8];by_cases e:x=n
  .subst e;rw[j4 rfl];have:r.filter (λy=>!decide (y=x))=r:=List.filter_eq_self.mpr λy b=>by rw[j9 (λz=>h.1 (by rw[<-z];exact b))];rfl
   simp[this]
  .rw[j9 e];have:=ih h.2;simp only[Bool.not_false,if_true,p8];lia
def aZm {l:List Str}(h:l.Nodup):∀S:List Str,l.length<=(l.filter λx=>!decide (x∈S)).length+S.length:=by
 intro c
 induction c with
 |nil=>have e:(l.filter λx=>!decide (x∈([]:List Str)))=l:=List.filter_eq_self.mpr (by intro x _;simp);rw[e];exact bBW _ _
 |cons s S ih=>
  have e:(l.filter λx=>!decide (x∈s::S))=(l.filter λx=>!decide (x∈S)).filter λx=>!decide (x=s):=by rw[List.filter_filter];refine List.filter_congr λx _=>?_;by_cases a:x=s <;> by_cases b:x∈S <;> simp[a,b]
  have d:=ih;have f:=bCs (n:=s) (h.sublist (List.filter_sublist (p:=λx=>!decide (x∈S))));rw[e,p8];lia
def aXq {ys:List V}{cs:Hdr}(hl:ys.length=cs.length)(h:∀(i:Nat) (y:V),ys[i]?=some y->∃c,cs[i]?=some c/\y=.str c.1):ys=(cs.map (·.1)).map V.str:=by
 rw[bBN];refine bBM λi=>?_;by_cases a:i<ys.length
 .have(c,d,b):=h i ys[i] (b7 a);rw[b7 a,j5,d,b];rfl
 .rw[bAJ (5),bAJ (by rw[d7];lia)]
def aOa (h8:cs.length<=100)(w:Cap X scope N σ [none,none])(I:∀R:VK,(∀b H1 us,Same H H1->SqT K H1 b us->bR (IsC K H1) us cs->R (.ref b) H1)->tl σ H R)
  (q:∀D H',H D=none->Same H H'->H' D=some (.lst ((cs.map (·.1)).map V.str))->Q (.ref D) H'):jB X scope N (aQ2 K tl) (aBt K 2 (lX (cF 0) (lX (cF 1) aGe))) lO (wR 0) σ H Q:=by
 refine mX [none,none] w (I _ λb E us s k g=>(b,4,(_,k),vH Same (oX E) us (λ_=>true) (λi _ y=>∃c,cs[i]?=some c/\y=.str c.1) (λ_ _ h=>h) (λ_ _ _ h=>h) (λi σ=>∃c,cs[i]?=some c/\At2 [none,none] (.str c.1) (.str c.2) σ) (Ps2 [none,none]) (none,none,4) (small (by have:=g.len;lia)) _ (tO λH' a=>a.aG k) (mR λH' a=>a.aG k) (λi x F H' J f e a v=>?_) (λi x m f n H' R a r=>r _ (Same.refl _)) (λi x m f n _ H' R a r=>?_) λD H1 L A z o d=>?_))
 .have(c,j,p,rfl,B):=bQ g f;exact hg2 (a.aG B) e fun m C t=>v m C (c,j,t)
 .have(c,j,rfl):=n;exact(3,r _ _ (Same.refl H') (c,j,4))
 .have G:=g.len;rw[oK] at d;have(l,u):=mC d;rw[aXq (5) u] at o;exact q D H1 (s.free z) (s.trans A) o
theorem aNa:∀{k:Nat} {l:List Str} {ys:List V},(∀(j:Nat) (n:Str),l[j]?=some n->∀y,R (k+j) y->y=.str n)->pR R (sel p k (List.range' k l.length)) ys->ys=(sel p k l).map V.str
 |k,[],ys,_,h=>by cases h;rfl
 |k,n::r,ys,hR,h=>by
  rw[p8,List.range'_succ] at h;have h:pR R (if p k then k::sel p (k+1) (List.range' (k+1) r.length) else sel p (k+1) (List.range' (k+1) r.length)) ys:=h;have c:∀{a:List V},pR R (sel p (k+1) (List.range' (k+1) r.length)) a->a=(sel p (k+1) r).map V.str:=λ{a} e=>
   aNa (k:=k+1) (l:=r) (λj m d y f=>hR (j+1) m (by simpa using d) y (by rw[show k+(j+1)=k+1+j by lia];exact f)) e
  show ys=(if p k then n::sel p (k+1) r else sel p (k+1) r).map V.str
  split at h
  .rename_i b;rw[if_pos b];cases h with
   |cons r' t=>rw[bAE,<-c t,hR 0 n rfl _ r']
  .rename_i b;rw[if_neg b];exact c h
def frP (l used:List Str)(i:Nat):Bool:=match l[i]? with
 |some n=>!decide (n∈used)
 |none=>false
def nQ (ns used:List Str):List Str:=(ns.drop 3).filter λn=>!decide (n∈used)
def bBs (h:xR ns):(nQ ns used).Nodup/\(∀n∈nQ ns used,Nm n/\n∉used)/\14<=(nQ ns used).length+used.length/\(nQ ns used).length<=14:=by
 have a:=h.2.2.sublist (bFW 3 ns);have e:(ns.drop 3).length=14:=by rw[bBK,h.1]
 exists a.sublist List.filter_sublist,λn c=>?_,8
 .have(d,b):=List.mem_filter.mp c;exact(h.2.1 n (bFB d),by simpa using b)
 .have:=aZm a used;unfold nQ;lia
 .have:=List.length_filter_le (λn=>!decide (n∈used)) (ns.drop 3);unfold nQ;lia
def aQr (hn:xR ns)(F:Cap X scope Nn σ [none,some U])(O:∀R:VK,(∀p H1,H p=none->Same H H1->H1 p=some (.lst ((ns.drop 3).map V.str))->R (.ref p) H1)->tl σ H R)
  (M:∀(n:Str) l H' R,Same H H'->(∀H2,Same H' H2->R (!decide (n∈used)) H2)->tt (([none,some U].set 0 l).set 0 (some (.str n))) H' R)
  (q:∀D H',H D=none->Same H H'->H' D=some (.lst ((nQ ns used).map V.str))->Q (.ref D) H'):jB X scope Nn (tL K tl) (cF 0) tt (wR 0) σ H Q:=by
 have N:(ns.drop 3).length=14:=by rw[bBK,hn.1]
 refine uJ [none,some U] F (O _ λp H1 J s o=>(p,4,(_,SqL.of o),vH Same (oX H1) ((ns.drop 3).map V.str) (frP (ns.drop 3) used) (λi _ y=>∃n,(ns.drop 3)[i]?=some n/\y=.str n) (λ_ _ h=>h) (λ_ _ _ h=>h) (λi σ=>∃n,(ns.drop 3)[i]?=some n/\At1 [none,some U] (.str n) σ) (Ps1 [none,some U]) (none,4) (small (by rw[d7];lia)) _ (aCm λH' b=>SqL.of (b _ _ o)) (uN λH' b=>SqL.of (b _ _ o)) (λi x L H' P c f b E=>?_) (λi x t c k H' R b r=>?_) (λi x t c k _ H' R b r=>?_) λD H2 S g G v d=>?_))
 .have(n,a,rfl):=iR c;exact hg1 (i:=i) f fun t I z=>E t I (n,a,z)
 .have(n,a,l,rfl):=k;refine M n l H' _ (s.trans b) λH2 g=>?_;have e:frP (ns.drop 3) used i=!decide (n∈used):=by unfold frP;rw[a]
  rw[<-e];exact r H2 g
 .have(n,a,l,rfl):=k;exact(_,by cases l <;> rfl,r _ _ (Same.refl H') (n,a,4))
 .rw[d7,bDL] at d;have w:=aNa (λj n B y A=>by have(m,u,e):=A;rw[bEP,B] at u;cases u;exact e) d
  have C:sel (frP (ns.drop 3) used) 0 (ns.drop 3)=nQ ns used:=rH λi x c=>by unfold frP;rw[bEP,c]
  rw[w,C] at v;exact q D H2 (s.free G) (s.trans g) v
def zip_fst_snd:∀(hd:Hdr),(hd.map (·.1)).zip (hd.map (·.2))=hd:=by
 intro a
 induction a with
 |nil=>exact rfl
 |cons c r ih=>rw[bAE,bAE,bDV,ih]
def wO {lo hi:Nat}{H:Hp}{t:Addr}{ns:List Str}(h:SqT K H t (ns.map V.str))(hn:∀n∈ns,Nm n)(c:lo<=ns.length)(b:ns.length<=hi):fY iI lo hi K H (.ref t) ns:=by
 refine((t,3,h,8),c,b);clear h c b
 induction ns with
 |nil=>exact .nil
 |cons n r ih=>exact .cons (4,hn n (v7 ..)) (ih λm a=>hn m (j8 _ a))
abbrev bLn:List V:=[.str "count",.str "least",.str "most",.str "sum"]
def bEa {w:Int}(h0:0<=w)(a:w<4):∃x:Str,atI bLn w=some (.str x)/\((w=0/\x = "count")\/(w=1/\x = "least")\/(w=2/\x = "most")\/(w=3/\x = "sum")):=by
 obtain⟨n,rfl⟩:∃n:Nat,w=n:=(w.toNat,5)
 match n,a with
 |0,_=>exact(_,aX rfl,.inl (44))
 |1,_=>exact(_,aX rfl,.inr (.inl (44)))
 |2,_=>exact(_,aX rfl,.inr (.inr (.inl (44))))
 |3,_=>exact(_,aX rfl,.inr (.inr (.inr (44))))
 |n+4,h=>lia
theorem aC1 {α β:Type}:∀{as:List α} {bs:List β} {a:α} {b:β},as.length=bs.length->(as++[a]).zip (bs++[b])=as.zip bs++[(a,b,)]
 |[],[],_,_,_=>rfl
 |x::as,y::bs,a,b,h=>by rw[List.cons_append,List.cons_append,bDV,bDV,aC1 (by simpa using h)];rfl
def aFb {hd hd':Hdr}(b:(hd.map (·.1)).Nodup)(h:∀c∈hd',c∈hd):Looks hd (hd'.map (·.1)) (hd'.map (·.2)):=by
 induction hd' with
 |nil=>exact .nil
 |cons c r ih=>exact .cons (jP b (h c (v7 ..))) (ih λx a=>h x (j8 _ a))
def bDb (n:Str):∀hd:Hdr,nP (hdK hd) (Sum.inr n)=(look hd n).map V.str:=by
 intro a
 induction a with
 |nil=>exact rfl
 |cons c r ih=>
  show nP (((Sum.inr c.1:Key),V.str c.2,)::hdK r) (Sum.inr n)=_;unfold look;rw[bBA];by_cases e:c.1=n
  .rw[mY (by rw[e]),j4 e];rfl
  .rw[mW (by intro z;exact e (Sum.inr.inj z)),j9 e];exact ih
def bCf (n:Str)(f:Hdr)(d:(f.map (·.1)).Nodup):(nP (jO [] (hdK f)) (Sum.inr n)).isSome=decide (n∈f.map (·.1)):=by
 rw[aH1 (bH0 d),bDb];cases e:look f n with
 |some k=>have a:=xC e;rw[j4 (List.mem_map.mpr (_,v9 a.1,4))];rfl
 |none=>refine (j9 λh=>?_).symm;have(c,b,rfl):=List.mem_map.mp h;rw[jP d b] at e;cases e
def bEr (e:Bool)(h0:0<=d)(a:d<5):∃c:Int,atI [V.int 1,.int 2,.int 1,.int 4,.int (if e=true then 1 else 0)] d=some (.int c)/\0<=c/\c<=4/\(e=true->1<=c):=by
 obtain⟨n,rfl⟩:∃n:Nat,d=n:=(d.toNat,5)
 match n,a with
 |0,_=>exact(_,aX rfl,66,λ_=>by decide)
 |1,_=>exact(_,aX rfl,66,λ_=>by decide)
 |2,_=>exact(_,aX rfl,66,λ_=>by decide)
 |3,_=>exact(_,aX rfl,66,λ_=>by decide)
 |4,_=>exact(_,aX rfl,by split <;> decide,by split <;> decide,λe=>by rw[if_pos e];decide)
 |n+5,h=>lia
structure Grp (hd hz:Hdr)(ss:List Sm)(js:List Str):Prop where
 mem:∀c∈hz,c∈hd
 sums:aJ1 hd ss js
 ok:rZ (hz++(ss.map Sm.new).zip js)
inductive aS8 (K:bGC)(vs:List V)(H:Hp)(Q:VK)(E_:XK):Prop
 |mk (a N:Addr)(vh:V)(hd:Hdr)(ns:List Str)(_:vs=[.ref a,vh,.ref N])(_:lJ H a)(_:N≠a)(_:eU K H vh hd)(_:rZ hd)(_:H N=some (.lst (ns.map V.str)))(_:xR ns)(_:∀p H' t v2 v3 hz ss js,Fx a H H'->SqT K H' p [.ref t,v2,v3]->SqT K H' t ((hz.map (·.1)).map V.str)->fY oR 0 4 K H' v2 ss->eU K H' v3 (hz++(ss.map Sm.new).zip js)->Grp hd hz ss js->Q (.ref p) H')
abbrev csW:List V:=[.str "count",.str "sum"]
def aGh (T:!Txt)(aR:!Ok 1 "_law_next" n7 jF)(tE:!Ok 2 "_law_some" o6 (aQg K)) :
  !Ok 3 "_law_group" z7 (aS8 K):=by
 refine Ok.ofW T.aLk iK λZ H vs Q hr h=>?_;have(a,N,vh,hd,ns,rfl,am,bh,hh,bq,hN,hn,q):=h;have hu:=xP hr;have hU:=hr.units;have a6:=iK.nd;exists _,(aB (bU 3 (dM jZ (dM jZ (aY tE (aF (vv 0) (va1 (vv 1)))) (eE (aY aR (aF (vv 0) (va1 aA)))) fK) fK (eE aA))) aZ);have((nd,l1,l8),hc):=id bq;refine(33,a,vh,hd,4,am,hh,(nd,l1,l8),λv1 H1 A f1 c6 C=>?_);have(b1,a7,rfl,be,bf):=c6;refine(3,a,2,4,f1.st,6,λc H2 f2 c0 c1=>?_);obtain⟨G,rfl⟩:∃G:Nat,c=G:=(c.toNat,5);refine(3,b1,a7,4,f2.aG f1.st be,λp3 H3 s3 c3=>?_);rw[kI] at c3;refine(3,p3,3,c3,λp4 H4 s4 c4=>?_);rw[show (6:Int)=((6:Nat):Int) from rfl,pF] at c4;have ac:=((f1.trans f2).sm s3).sm s4;have B:bR (IsC K H4) ((a7.drop G).take 6) ((A.drop G).take 6):=pX (aEg (bf.imp λ_ _ h=>h.tk λ_ _ e=>s4.aG (s3.aG (f2.aG f1.st e))) G) 6;have l6:((A.drop G).take 6).length<=6:=by rw[bAK];lia
 have ab:(((A.drop G).take 6).map (·.1)).Nodup:=by rw[bFA,List.map_drop];exact (C.nd.sublist (bFW _ _)).sublist (bCX _ _)
 have ad:∀c∈(A.drop G).take 6,c∈hd:=λc h=>C.mem c (bFB (bCG h));generalize (a7.drop G).take 6=zs at c4 B;generalize (A.drop G).take 6=hz at B l6 ab ad;have lz:=B.len;exists _,(aB (lF (i0:=4) iK.nd rfl (0) (N:=["_law_name","_law_some_here"]) ck (dC (aD qQ)) rfl (iD (dM aPc (vv 2) (eE aA) fK)) (λcl E m fp=>((dF 0),(zY (zV hu (vv 0) (bF (aMj (K:=K) rfl) (7) T.aAa uO (va1 (vv 1))))),(vv 0)))) aZ);dsimp only[cF,nO,kO,tCB,cX];refine aQr (K:=K) (U:=.ref p4) (used:=hz.map (·.1)) hn ?_ (λR r=>?_) (λn l m R E r=>?_) λF H5 fF s5 gF=>?_
 .exact eX 3 (0) rfl rfl (0)
 .refine(33,N,3,SqL.of (ac.same _ _ bh hN),λp' m bk E g'=>r p' m bk E ?_);rw[g',show (3:Int)=((3:Nat):Int) from rfl,kI,List.map_drop]
 .refine(33,p4,03,E.aG c4,bAp (B.imp λ_ _ h=>h.same E),5,λd H2 f2 s2 g2=>?_);exists d,3,aB2.k (k:=(Sum.inr n:Key)) g2,3;rw[bCf n hz ab];exact r H2 s2
 have(ao,J,X,al):=bBs (used:=hz.map (·.1)) hn;rw[d7] at X;generalize co:nQ ns (hz.map (·.1))=fr at gF ao J X al;have g:=ac.sm s5;have ar:F≠a:=ac.st.ne fF;have a6:=iK.nd;exists _,(aB (bU 5 (cU cW)) (aB (nH PassesOwn.never rfl (dW (7) T.gW (va1 (aJ (aH8 rfl) (7) T.bFy aYl (aF (cA qO aA (aJ aM (7) T.cH bM (va1 (vv 3)))) (va1 (aQ bB (cU (aF aA (aF aA (aF aA (aF aA (va1 (bF gU (7) T.rQ nG (va1 (lW (aZ2 (bBI (bBW _ 64) hU)) (vv 3) (aP cW)))))))))) (aY aR (aF (vv 0) (va1 aA))))))))) (cP 6) (aB (nJ (aQ aK (vv 1) (aY aR (aF (vv 0) (va1 (aJ aM (7) T.cH bM (va1 (vv 1))))))) (iY rfl (aW (cP 7) (aW (cP 8) cV)))) aZ)) aZ));refine(sz0,λp H6 fp s6 g6=>?_);have f6:=Fx.of g.st s6;have S:p≠a:=g.st.ne fp;exists 3,p4,3,.inr (s6.aG (s5.aG c4)),12;refine(3,sz0,λp7 H7 f7 s7 g7=>(p4,p7,zs,44,s7.aG (s6.aG (s5.aG c4)),SqT.of g7,.inr (38)));refine(sz5,λL H8 f8 s8 g8=>?_);have b5:=(f6.sm s7).sm s8;refine(3,a,0o5,4,b5.st,6,λd H9 f9 d0 d1=>?_);have(c,bu,cb,ca,bv):=bEr zs.isEmpty d0 d1;have c9:L≠a:=(f6.sm s7).st.ne f8;exists L,012,SqL.of (f9.same _ _ c9 g8),bu,03;have ak:=b5.trans f9;have(b0,ah,rfl,b2,aq):=id hh;have cj:=aq.len;have lf:hz.length+fr.length ≥ 14:=by lia
 obtain⟨O,ek,k0,k4,k8,kz⟩:∃O:Int,(if c<8 - ((zs.length:Nat):Int) then c else 8 - ((zs.length:Nat):Int))=O/\0<=O/\O<=4/\O+hz.length<=8/\(hz.length=0->1<=O):=by
  exists 3;have bo:hz.length=0->1<=c:=λz=>bv (by rw[List.isEmpty_iff];exact List.length_eq_zero_iff.mp (5))
  split <;> refine(555,λz=>?_) <;> have:=bo z <;> lia
 rw[ek];exists O,455;refine qK (n:=O.toNat) (λi σ m=>Fx a H5 m/\∃(t:Addr) (ys ws:List V) (ss:List Sm) (js:List Str) (l6 l7 l8 l9:Option V),m p=some (.lst ws)/\ss.length=i/\SqT K m t ys/\bR (IsC K m) ys (hz++(ss.map Sm.new).zip js)/\bR (oR K m) ws ss/\aJ1 hd ss js/\ss.map Sm.new=fr.take i/\(∀(s:Sm) (j:Str),(s,j,)∈ss.zip js->aDb j)/\σ=[some (.ref a),some (.ref b0),some (.ref N),some (.ref t),some (.ref F),some (.ref p),l6,l7,l8,l9]) (ak,p4,zs,[],[],[],11,f9.same _ _ S (s8 _ _ (s7 _ _ g6)),4,ak.aG g.st (s5.aG c4),8,.nil,.nil,4,(λs j h=>by cases h),4) ?_ ?_
 .rw[show hz++(List.map Sm.new []).zip ([]:List Str)=hz from bCM _];exact B.imp λ_ _ h=>(h.same s5).tk (ak.tk g.st)
 .rintro i σ m hi ⟨fx,t,ys,ws,ss,js,l6',l7,l8',l9,gp,hl,gt,hys,hws,hsj,hnw,hkj,rfl⟩;have bp:TK K H m:=(g.trans fx).tk am;have lw:=hws.len;have lj:=hsj.len;refine(33303,.inr (bp _ _ b2),a,3,fx.st,(by show (0:Int)<(ah.length:Int)/\(ah.length:Int)<2 ^ 64;lia),λd' Hb fb c2 b9=>?_);have(u,bz,az):=at_of (xs:=ah) c2 b9;have(f,hcm,pc,rfl,bd):=aq.mem az;have(a9,a5):=hc f hcm;have an:=fx.trans fb;have as:TK K H Hb:=(g.trans an).tk am;exists b0,012,as _ _ b2,bz,pc,3,as _ _ bd,40312;have a4:look hd f.1=some f.2:=jP nd hcm;have aw:fr.take (i+1)=fr.take i++[fr[i]'(5)]:=by rw[bBE,b7 (5)];rfl
  have v:Nm (fr[i]'(5)):=(J _ (bAR _)).1;have ag:atI (fr.map V.str) (0+(i:Int))=some (.str (fr[i]'(5))):=by rw[Int.zero_add];exact aX (by rw[j5,b7 (5)];rfl)
  generalize ce:fr[i]'(5)=fi at aw v ag;have a6:=iK.nd;exists _,(aB (bU 9 (aQ bB (cU (aF aL (aF aL (aF aL (va1 aL))))) (aY aR (aF (vv 0) (va1 (cA dX aA (bF gU (7) T.rQ nG (va1 (lW bZ (vv 8) aL))))))))) aZ);refine(sz4,λbs Hc bj sc gc=>?_);have ai:=an.sm sc;refine(302,.inr (3128));obtain⟨mn,bb,cc,bl⟩:∃mn:Int,(3+(if decide (V.str f.2=V.str "number")=true then 1 else 0):Int)=mn/\3<=mn/\(mn<=3\/(mn=4/\f.2 = "number")):=by
   by_cases e:f.2 = "number"
   .exact(0o4,by rw[j4 (congrArg V.str e)];rfl,6,.inr (4,e))
   .exact(0o3,by rw[j9 (by intro z;exact e (V.str.inj z))];rfl,6,.inl (6))
  refine(a,mn,congrArg (λz=>[V.ref a,V.int z]) bb,ai.st,5,λw' Hd fd w0 w1=>?_);have b3:=ai.trans fd;have(x,hx,bg):=bEa w0 (show w'<4 by lia);exists bs,012,SqL.of (fd.same _ _ (an.st.ne bj) gc),hx;obtain⟨nv,sm,j,bw,ba,a2,hk,au,bx,hj⟩:∃nv sm j,atI [V.str f.1,.non] (if decide (V.str x=V.str "count")=true then 1 else 0)=some nv/\(∀Hz b,SqT K Hz b [.str x,nv,.str fi]->oR K Hz (.ref b) sm)/\sm.new=fi/\smK hd sm=some j/\(sm.wd = "sum"->j≠"word")/\aDb j/\atI [V.str f.2,.str "number"] (if inV (.str x) csW=true then 1 else 0)=some (.str j):=by
   rcases bg with⟨_,rfl⟩|⟨_,rfl⟩|⟨_,rfl⟩|⟨e3,rfl⟩
   .exact(.non,("count",none,fi),"number",aX (j:=1) rfl,λHz b h=>(b,4,v,.inl (44,h)),44,λ_=>by trivial,.inl rfl,aX (j:=1) rfl)
   .exact(.str f.1,("least",some f.1,fi),f.2,aX (j:=0) rfl,λHz b h=>(b,4,v,.inr (f.1,4,a9,.inr (.inl rfl),h)),4,a4,λz=>absurd (show ("least":Str) = "sum" from z) (0),a5,aX (j:=0) rfl)
   .exact(.str f.1,("most",some f.1,fi),f.2,aX (j:=0) rfl,λHz b h=>(b,4,v,.inr (f.1,4,a9,.inr (.inr rfl),h)),4,a4,λz=>absurd (show ("most":Str) = "sum" from z) (0),a5,aX (j:=0) rfl)
   .have e:f.2 = "number":=by
     rcases bl with z|⟨_,z⟩
     .lia
     .exact z
    exact(.str f.1,("sum",some f.1,fi),f.2,aX (j:=0) rfl,λHz b h=>(b,4,v,.inr (f.1,4,a9,.inl rfl,h)),4,a4,λ_=>by rw[e];decide +kernel,a5,by rw[e];exact aX (j:=1) rfl)
  have aj:=fd.same _ _ S (sc _ _ (fb.same _ _ S gp));have c5:=b3.same _ _ ar gF;exists _,(aB (eV (qM PySem.F.plainAttrs_list PySem.F.slot_list_append PySem.F.type_list_append iW (vv 5) (va1 (aP (aF (vv 9) (aF (aQ bB (cU (aF (vv 7) (va1 mG))) (bF gU (7) T.rQ nG (va1 (lW bZ (vv 9) aL)))) (va1 (aQ bB (vv 4) (vv 6))))))))) aZ);refine(3,.inl (40,SqL.of aj),33,sz2,λL2 He cq se ge=>(02,.inr (3,L2,012,SqL.of ge,bw,8)));refine(33,F,012,SqL.of (se _ _ c5),ag,sz3,λb Hf bc sf gf=>?_);have b4:=sf _ _ (se _ _ aj);have bn:=se _ _ aj;have ch:b≠p:=(bV bn bc).symm;exists p,12,b4,(kJ (5));have a3:=(b3.sm (se.trans sf)).upd fp S (o:=.lst (ws++[.ref b]));have I:TK K Hf (upd Hf p (.lst (ws++[.ref b]))):=λ_ _ e=>e.jK b4;have av:upd Hf p (.lst (ws++[.ref b])) p=some (.lst (ws++[.ref b])):=aO;have ae:TK K m Hf:=λ_ _ e=>sf.aG (se.aG (fd.aG ai.st (sc.aG (fb.aG fx.st e))));have bi:SqT K (upd Hf p (.lst (ws++[.ref b]))) b [.str x,nv,.str fi]:=I _ _ (SqT.of gf);have a1:bR (oR K (upd Hf p (.lst (ws++[.ref b])))) (ws++[.ref b]) (ss++[sm]):=(hws.imp λ_ _ h=>(h.tk ae).tk I).app (.cons (ba _ _ bi) .nil);have Y:bR (IsC K (upd Hf p (.lst (ws++[.ref b])))) ys (hz++(ss.map Sm.new).zip js):=hys.imp λ_ _ h=>(h.tk ae).tk I;have ay:=I _ _ (ae _ _ gt);have ax:=a3.same _ _ ar gF;generalize upd Hf p (.lst (ws++[.ref b]))=Hg at a3 av a1 Y ay ax;have a6:=iK.nd;exists _,(aC (bU 3 (cA jX (vv 3) (aP (va1 (aP (aF (aQ bB (vv 4) (vv 6)) (va1 (aQ bB (cU (aF (vv 8) (va1 aL))) (bF gU (7) T.rQ nG (va1 (gY fU (vv 9) (aP (aF aL (va1 aL))) (1)))))))))))));refine(333,F,012,SqL.of ax,ag,3,sz2,λM Hh fM sh gh=>?_);refine(3,sz2,λqq Hi cp si gi=>(qq,csW,4,.inr (SqT.of gi),44,.inr (3,M,012,SqL.of (si _ _ gh),hj,8)));refine(sz2,λt1 Hj cf sj gj=>(sz1,λt2 Hk cg sk gk=>?_));have ap:=sh.trans (si.trans (sj.trans sk));have af:=hys.len;have a8:((ss.map Sm.new).zip js).length=ss.length:=by rw[bEG,d7];lia
  rw[w6,a8] at af;refine(t,t2,12,ap.aG ay,SqT.of gk,small (by rw[bBG];lia),λt3 Hl sl gl=>?_);have tl:=ap.trans sl;refine(a3.sm tl,t3,_,ws++[.ref b],ss++[sm],js++[j],11,tl _ _ av,by rw[w6,hl];rfl,gl,8,a1.imp λ_ _ h=>h.same tl,bR.app hsj (.cons (hk,au) .nil),by rw[bAW,hnw,aw,List.map_singleton,a2],λE j' hm=>?_,4)
  .rw[bAW,List.map_singleton,aC1 (by rw[d7];exact lj),<-bCY,a2];exact (Y.imp λ_ _ h=>h.same tl).app (.cons (t1,4,(sk.trans sl).aG (SqT.of gj)) .nil)
  .rw[aC1 (5)] at hm;rcases List.mem_append.mp hm with hm|hm
   .exact hkj E j' hm
   .cases List.mem_singleton.mp hm;exact bx
 .rintro σ m ⟨fx,t,ys,ws,ss,js,l6',l7,l8',l9,gp,hl,gt,hys,hws,hsj,hnw,hkj,rfl⟩;have af:=hys.len;have cn:=hws.len;have lj:=hsj.len;have a8:((ss.map Sm.new).zip js).length=ss.length:=by rw[bEG,d7];lia
  rw[w6,a8] at af;exists _,(aC (aH (aP (aF (bF cQ (7) T.cM cB (va1 (bY (N:=["_law_name","_law_kind"]) ck dH rfl (fV (dM jZ (vv 3) fK (eE (cA qO (aJ aM (7) T.cH bM (va1 (vv 3))) (aJ aM (7) T.cH bM (va1 (vv 5))))))) (λcl E m fp=>((iT (K:=K) (n:=2) rfl (aW (dF 0) (aW (dF 1) cV))),cI,(vv 0)))))) (aF (bF cQ (7) T.cM cB (va1 (vv 5))) (va1 (vv 3)))))));dsimp only[qI,aX8,tCB,cX];refine aOa (K:=K) (cs:=hz) (5) gR (λR r=>?_) λD H1 fD s1 gD=>?_
  .refine(33,t,ys,4,.inr gt,3,p,ws,4,.inl (SqL.of gp),123,t,ys,4,gt,λp' H1 s1 c1=>?_);have e:((ys.length:Nat):Int) - ((ws.length:Nat):Int)=((hz.length:Nat):Int):=by lia
   rw[e,pF] at c1;refine r p' H1 _ s1 c1 ?_;have:=pX (hys.imp λ_ _ h=>h.same s1) hz.length;rw[List.take_left] at this;exact this
  refine(D,3,SqL.of gD,λt4 H2 cr s2 g4=>(3,p,ws,4,SqL.of (s2 _ _ (s1 _ _ gp)),λt5 H3 cm s3 g5=>(3,sz3,λt6 br cd aa bt=>?_)));have W:=s1.trans (s2.trans (s3.trans aa));have b6:=(g.trans fx).sm W;have bm:∀c∈hz,Nm c.1/\aDb c.2:=λc h=>hc c (ad c h);have a0:((ss.map Sm.new).zip js).map (·.1)=ss.map Sm.new:=List.map_fst_zip (by rw[d7];lia);have c8:Good (hz++(ss.map Sm.new).zip js):=by
   refine(88,by rw[w6];lia)
   .rw[bAW,a0,hnw,bDZ];refine(ab,ao.sublist (bCX _ _),λx hx y hy e=>?_);subst e;exact (J x (bCG hy)).2 hx
   .rw[w6];by_cases z:hz.length=0
    .have:=kz z;lia
    .lia
  refine q t6 br t4 _ _ hz ss js b6 (SqT.of bt) ((s3.trans aa).aG (SqT.of g4)) ((t5,ws,4,aa.aG (SqT.of g5),hws.imp λ_ _ h=>h.same W),bAI _,5) (t,ys,4,W.aG gt,hys.imp λ_ _ h=>h.same W) (ad,hsj,c8,λc hcm=>?_);rcases List.mem_append.mp hcm with hcm|hcm
  .exact bm c hcm
  .exists (J c.1 (bCG (l:=fr) (i:=O.toNat) ?_)).1
   .rw[<-hnw,<-a0];exact List.mem_map.mpr (c,hcm,4)
   .rw[List.zip_map_left] at hcm;have((E,j'),hm,rfl):=List.mem_map.mp hcm;exact hkj E j' hm
inductive Gath (i:Nat)(x:Ent):Ent->Prop
 |part {hz ss js}:Grp x.hd hz ss js->Gath i x (.made "part" (.group i (hz.map (·.1)) ss),(false,.group x.s.q (hz.map (·.1)) ss,lost (hz.map (·.1)) x.s.sp),hz++(ss.map Sm.new).zip js)
 |group {hz ss js}:Grp x.hd hz ss js->gth (.group x.s.q (hz.map (·.1)) ss) x.s.sp->Gath i x (.made "group" (.group i (hz.map (·.1)) ss),(true,.group x.s.q (hz.map (·.1)) ss,lost (hz.map (·.1)) x.s.sp),hz++(ss.map Sm.new).zip js)
inductive aPg (K:bGC)(vs:List V)(H:Hp)(Q:VK)(E_:XK):Prop
 |mk (a D N:Addr)(us:List V)(i:Nat)(u:V)(x:Ent)(ns:List Str)(_:vs=[.ref a,.ref D,.int (i:Nat),.ref N])(_:lJ H a)(_:H D=some (.lst us))(_:us[i]?=some u)(_:IsE K H u x)(_:rZ x.hd)(_:N≠a)(_:H N=some (.lst (ns.map V.str)))(_:xR ns)(_:∀v H' y,Fx a H H'->IsE K H' v y->Gath i x y->Q v H')
def zW (T:!Txt)(aR:!Ok 1 "_law_next" n7 jF)(ah:!Ok 3 "_law_group" z7 (aS8 K))(sE:!Ok 1 "_law_lost" u5 (xO K)) :
  !Ok 4 "_law_gathered" o4 (aPg K):=by
 refine Ok.ofW T.aBs fQ λZ H vs Q hr h=>?_;have(a,D,N,us,i,u,x,ns,rfl,hs,hD,hu,(p,va,vq,vh,vs,rfl,hp,h2,h3,h4,h5),S,af,hN,hn,q):=h;have C:=fQ.nd;exists _,(aB (nJ (aQ bB (vv 1) (vv 2)) (iY rfl (aW (cP 4) (aW (cP 5) (aW (cP 6) (aW (cP 7) (aW (cP 8) cV))))))) aZ);exists 33,D,us,i,02,SqL.of hD,aX hu,p,3,hp,40303030312;have C:=fQ.nd;exists _,(aB (nJ (aY ah (aF (vv 0) (aF (vv 7) (va1 (vv 3))))) (iY rfl (aW (cP 9) (aW (cP 10) (aW (cP 11) cV))))) aZ);refine(333,a,N,vh,x.hd,ns,4,hs,af,h4,S,hN,hn,λp1 H1 t O v3 m B js Y g1 gt g2 g3 hG=>?_);exists p1,3,g1,4030312;have a7:TK K H H1:=Y.tk hs;have(ps,rfl,aa):=id h5;have G:=a7 _ _ aa;dsimp only[cF];have C:=fQ.nd;exists _,(aB (bU 5 (aS6 (gY fU (aQ aK (vv 8) aA) (aP (aF aL (va1 aL))) (1)) (dN (dI (lW bZ (aQ aK (vv 8) aA) aL) (dN (gY fU (aQ aK (vv 8) aA) (vv 9) (1))))))) aZ);refine jE (fun σ H'=>Same H1 H'/\∃b,(b=true->gth (.group x.s.q (m.map (·.1)) B) x.s.sp)/\σ=[some (.ref a),some (.ref D),some (.int (i:Nat)),some (.ref N),some va,some (.bl b),some vq,some vh,some (.ref ps),some (.ref t),some O,some v3]) (λM J=>?_) ?_
 .have f:=G;cases o:x.s.sp with
  |copied=>rw[o] at f;exact (rd0 rfl f (sz2,λy G2 E r g=>(y,3,.inr (SqT.of g),23,bI (J _ _ (r,true,λ_=>by rw[o];trivial,4)))))
  |at_ h=>rw[o] at f;exact (rd0 rfl f (sz2,λy G2 E r g=>(y,3,.inr (SqT.of g),23,bI (J _ _ (r,true,λ_=>by rw[o];trivial,4)))))
  |loose=>rw[o] at f;exact (rd0 rfl f (sz2,λy G2 E r g=>(y,3,.inr (SqT.of g),23,aU (rd0 rfl (r.aG f) (43,aU (J _ _ (r,false,λz=>(by cases z),4)))))))
  |dealt c=>rw[o] at f;refine (rd0 rfl f (sz2,λy G2 E r g=>(y,3,.inr (SqT.of g),23,aU (rd0 rfl (r.aG f) (43,bI (rd1 rfl (r.aG f) (3,t,3,.inr (r.aG gt),4,lU,8)))))));rw[if_neg (by decide:¬ (false=true)),lV];exact J _ _ (r,decide (c∈m.map (·.1)),λz=>by rw[o];exact(13,of_decide_eq_true z),4)
 rintro σ' H2 ⟨s2,b,hb,rfl⟩;have C:=fQ.nd;exists _,(aB (bU 5 (dI (vv 5) (dN (lW bZ (aY aR (aF (vv 0) (va1 aA))) aA)))) aZ);refine jE (fun σ H'=>Fx a H2 H'/\∃b,(b=true->gth (.group x.s.q (m.map (·.1)) B) x.s.sp)/\σ=[some (.ref a),some (.ref D),some (.int (i:Nat)),some (.ref N),some va,some (.bl b),some vq,some vh,some (.ref ps),some (.ref t),some O,some v3]) (λM J=>?_) ?_
 .cases b with
  |false=>exact(33,aU (J _ _ (Fx.of (Y.sm s2).st (Same.refl _),false,λz=>(by cases z),4)))
  |true=>exact(33,bI (3,a,2,4,(Y.sm s2).st,6,λd H3 f3 d0 d1=>(4,J _ _ (f3,_,λ_=>hb rfl,4))))
 clear hb b;rintro σ' H3 ⟨f3,b,hb,rfl⟩;have U:=(Y.sm s2).trans f3;have ag:TK K H H3:=U.tk hs;have X:TK K H1 H3:=λ_ _ e=>f3.aG (Y.sm s2).st (s2.aG e);have C:=fQ.nd;exists _,(aB (bU 4 (cA jX (aQ bB (cU (aF (aP (aF aL (va1 (vv 2)))) (va1 (aP (aF aL (va1 (vv 2))))))) (bF gU (7) T.rQ nG (va1 (vv 5)))) (aP (aF (vv 9) (va1 (vv 10)))))) aZ);refine(3,sz2,λt1 G1 ak k1 a8=>(3,sz2,λy G2 E r g=>(sz2,λL G3 fL k3 gL=>?_)));obtain⟨tw,wd,a9,a4,a0⟩:∃tw wd,atI [V.ref t1,.ref y] (if b=true then 1 else 0)=some (.ref tw)/\SqT K G3 tw [.str wd,.int (i:Nat)]/\wd=(if b=true then ("group":Str) else "part"):=by
  cases b with
  |true=>exact(y,"group",aX (j:=1) rfl,k3.aG (SqT.of g),4)
  |false=>exact(t1,"part",aX (j:=0) rfl,k3.aG (r.aG (SqT.of a8)),4)
 refine(3,.inr (3,L,012,SqL.of gL,a9,8));refine(33,sz2,λt4 G4 al k4 ab=>(tw,t4,12,k4.aG a4,SqT.of ab,small (by show 4<=1000;decide),λt5 G5 k5 a3=>?_));exists _,(aC (aH (aP (aF (vv 4) (aF (vv 5) (aF (aP (aF aL (aF (vv 6) (aF (vv 9) (va1 (vv 10)))))) (aF (vv 11) (va1 (aY sE (aF (vv 8) (va1 (vv 9))))))))))));refine(33333,sz4,λt6 G6 ai k6 a5=>(38));have W:=k1.trans (r.trans (k3.trans (k4.trans (k5.trans k6))));have v:TK K H1 G6:=λ_ _ e=>W.aG (X _ _ e);refine(331,x.s.sp,m.map (·.1),4,(ps,4,v _ _ G),(t,4,v _ _ gt),λv' G7 k7 F=>?_);refine(sz5,λt8 A aj R a1=>?_);have ac:=W.trans (k7.trans R);have I:=U.sm ac;have a6:TK K H A:=I.tk hs;have k:TK K H1 A:=λ_ _ e=>(k7.trans R).aG (v _ _ e);have a2:∀n∈m.map (·.1),Nm n:=λn ad=>by have(c,ae,rfl):=List.mem_map.mp ad;exact (S.2 c (hG.mem c ae)).1
 have l8:(m.map (·.1)).length<=8:=by have:=hG.ok.1.2.2;rw[w6] at this;rw[d7];lia
 have hT:fY iI 0 8 K A (.ref t) (m.map (·.1)):=wO (k _ _ gt) a2 (bAI _) l8;have hS:fY oR 0 4 K A O B:=g2.tk k λh=>h.tk k;have l:SqT K A t5 [.str wd,.int (i:Nat),.ref t,O]:=(k6.trans (k7.trans R)).aG a3;have hQ:IsQ K A (.ref t6) (.group x.s.q (m.map (·.1)) B):=.group ((k7.trans R).aG (SqT.of a5)) (h3.tk a6) hT hS;cases b with
 |true=>
  have l:SqT K A t5 [.str "group",.int (i:Nat),.ref t,O]:=by rw[a0] at l;exact l
  exact q _ A (.made "group" (.group i (m.map (·.1)) B),(true,.group x.s.q (m.map (·.1)) B,lost (m.map (·.1)) x.s.sp),m++(B.map Sm.new).zip js) I (t8,013,SqT.of a1,.made l .group (.group rfl hT hS),hQ,g3.tk k,dU.same R F) (.group hG (hb rfl))
 |false=>
  have l:SqT K A t5 [.str "part",.int (i:Nat),.ref t,O]:=by rw[a0] at l;exact l
  exact q _ A (.made "part" (.group i (m.map (·.1)) B),(false,.group x.s.q (m.map (·.1)) B,lost (m.map (·.1)) x.s.sp),m++(B.map Sm.new).zip js) I (t8,013,SqT.of a1,.made l .part (.group rfl hT hS),hQ,g3.tk k,dU.same R F) (.part hG)
inductive Aln (i:Nat)(x:Ent):Ent->Prop
 |whr {ts}:(∀t∈ts,aEv x.hd t)->Aln i x (.made "where" (.whr i ts),(true,.whr x.s.q ts,x.s.sp),x.hd)
 |keep {hd'}:Some x.hd hd'->Aln i x (.made "keep" (.keep i (hd'.map (·.1))),(true,.keep x.s.q (hd'.map (·.1)),lost (hd'.map (·.1)) x.s.sp),hd')
 |nmd {fs}:fs.length=x.hd.length->fs.Nodup->(∀n∈fs,Nm n)->Aln i x (.made "named" (.nmd i fs),(true,.nmd x.s.q fs,rnm x.hd fs x.s.sp),List.zipWith (λn c=>(n,c.2,)) fs x.hd)
 |cut {ks js m}:Looks x.hd (ks.map (·.1)) js->(ks.map (·.1)).Nodup->Aln i x (.made "cut" (.first i ks m),(false,.first x.s.q ks m,x.s.sp),x.hd)
 |first {ks js m}:Looks x.hd (ks.map (·.1)) js->(ks.map (·.1)).Nodup->gth (.first x.s.q ks m) x.s.sp->Aln i x (.made "first" (.first i ks m),(true,.first x.s.q ks m,x.s.sp),x.hd)
inductive aIg (K:bGC)(vs:List V)(H:Hp)(Q:VK)(E_:XK):Prop
 |mk (a D N:Addr)(us:List V)(i:Nat)(u:V)(x:Ent)(ns:List Str)(_:vs=[.ref a,.ref D,.int (i:Nat),.ref N])(_:lJ H a)(_:H D=some (.lst us))(_:us[i]?=some u)(_:IsE K H u x)(_:rZ x.hd)(_:(∀c,x.s.sp=.dealt c->c∈x.hd.map (·.1)))(_:N≠a)(_:H N=some (.lst (ns.map V.str)))(_:xR ns)(_:∀v H' y,Fx a H H'->IsE K H' v y->Aln i x y->Q v H')
def aQw (hs:lJ H a)(xs:List V)(hn:xs.length<=1000)(t:∀H' i x,Fx a H H'->xs[i]?=some x->J.go i H'/\∀y H2,J.yld i H' y H2->H2=H'/\y=x)(f:∀H',Fx a H H'->J.stop xs.length H')(Rel:Nat->Hp->V->Prop)
  (u:∀{i H1 H2 y},Fx a H H1->Fx a H1 H2->Rel i H1 y->Rel i H2 y) (v:∀{i H1 D ys zs y},H D=none->Fx a H H1->H1 D=some (.lst ys)->Rel i H1 y->Rel i (L2.upd H1 D (.lst zs)) y)
  (w:∀(i:Nat) x H' R,xs[i]?=some x->Fx a H H'->(∀y H2,Fx a H' H2->Rel i H2 y->R y H2)->te (some x::vs) H' R)
  (q:∀D H' ys,Fx a H H'->H D=none->H' D=some (.lst ys)->ys.length=xs.length->(∀(i:Nat) y,ys[i]?=some y->Rel i H' y)->Q (.ref D) H'):rW J H (none::vs) (cF 0) lO te Q:=by
 refine vH (Fx a) (bFt hs) xs (λ_=>true) Rel u v (λi σ=>∃x,xs[i]?=some x/\σ=some x::vs) (fun σ=>∃l,σ=l::vs) (none,4) (small hn) J t f (λi x p H' s d n b r=>?_) (λi x o d at2 H' R b r=>r H' (Fx.refl b.st)) (λi x o d at2 _ H' R b r=>?_) λD H' ys b k m c=>?_
 .have(l,rfl):=n;exact r _ (3) (x,d,4)
 .have(j,e,rfl):=at2;exact w i j H' R e b r
 .rw[oK] at c;have(g,h):=mC c;exact q D H' ys b k m g h
def bIo {S:TS}{D:Ends}{σ:L2.St}{H:Hp}(J:L2.St->Hp->Prop)(a:∀N:L2.St->Hp->Prop,(∀σ' H',J σ' H'->N σ' H')->S { D with nx:=N } σ H)(b:∀σ' H',J σ' H'->D.nx σ' H'):S D σ H:=a _ b
def bJg {te:TE}{σ:L2.St}{H:Hp}{Q:VK}(J:V->Hp->Prop)(a:∀R:VK,(∀v H',J v H'->R v H')->te σ H R)(b:∀v H',J v H'->Q v H'):te σ H Q:=a _ b
def bDo {S:TS}{D:Ends}{σ:L2.St}{H:Hp}(σ':L2.St)(e:σ=σ')(h:S D σ' H):S D σ H:=e ▸ h
def bGp {α:Type}{l:List α}(h:l.Nodup){i j:Nat}{x:α}(f:l[i]?=some x)(g:l[j]?=some x):i=j:=by
 have b:=List.pairwise_iff_getElem.mp h;have(e,c):=List.getElem?_eq_some_iff.mp f;have(a,d):=List.getElem?_eq_some_iff.mp g;rcases Nat.lt_trichotomy i j with q|q|q
 .exact absurd (c.trans d.symm) (b i j e a q)
 .exact q
 .exact absurd (d.trans c.symm) (b j i a e q)
def bFf {ns l:List Str}(hn:ns.Nodup)(g:Nat->Nat)(h:∀(j:Nat) x,l[j]?=some x->ns[g j]?=some x)(k:∀i j,i<l.length->j<l.length->g i=g j->i=j):l.Nodup:=by refine List.pairwise_iff_getElem.mpr λi j c a d e=>?_;have f:=h i l[i] (b7 c);have b:=h j l[j] (b7 a);rw[<-e] at b;have:=k i j c a (bGp hn f b);lia
theorem aS7 {H:Hp}:∀{ns:List Str} {ys:List V},ys.length=ns.length->(∀(i:Nat) y,ys[i]?=some y->∃n d,ns[i]?=some n/\rC K H y (n,d,))->∃ks,bR (rC K H) ys ks/\ks.map (·.1)=ns
 |[],[],_,_=>([],.nil,4)
 |[],y::ys,h,_=>by cases h
 |n::ns,[],h,_=>by cases h
 |n::ns,y::ys,h,k=>by
  have(ks,f,g):=aS7 (by simpa using h) λi z e=>by have(c,d,a,b):=k (i+1) z (by simpa using e);exact(c,d,by simpa using a,b)
  have(c,d,a,b):=k 0 y rfl;cases a;exact((n,d,)::ks,.cons b f,by rw[bAE,g])
def bHh:∀{ys:List V} {f:Nat->Str},(∀(i:Nat) y,ys[i]?=some y->y=.str (f i))->∃fs:List Str,ys=fs.map V.str/\∀(i:Nat) x,fs[i]?=some x->x=f i:=by
 intro b
 induction b with
 |nil=>rintro _ _;exact([],4,λi x e=>by simp at e)
 |cons y ys ih=>
  rintro f h;have(fs,e,k):=ih λi z c=>h (i+1) z (by simpa using c);refine(f 0::fs,by rw[bAE,<-e,h 0 y rfl],λi x a=>?_);cases i with
  |zero=>cases a;rfl
  |succ i=>exact k i x (by simpa using a)
def aF3 (T:!Txt)(aR:!Ok 1 "_law_next" n7 jF)(tE:!Ok 2 "_law_some" o6 (aQg K))(cq:!Ok 3 "_law_tests" o6 (aG8 K))(ce:!Ok 1 "_law_at" bQR (xF K))(sE:!Ok 1 "_law_lost" u5 (xO K)) :
  !Ok 4 "_law_alone" o4 (aIg K):=by
 refine Ok.ofW T.aJ2 eF λZ H vs Q hr h=>?_;have(a,D,N,us,i,u,x,ns,rfl,hs,hD,hu,(p,va,vq,vh,vs,rfl,hp,h2,h3,h4,h5),a4,ca,bm,hN,hn,q):=h;have ab:=eF.nd;exists _,(aB (nJ (aQ bB (vv 1) (vv 2)) (iY rfl (aW (cP 4) (aW (cP 5) (aW (cP 6) (aW (cP 7) (aW (cP 8) cV))))))) (aB (bU 9 (aY aR (aF (vv 0) (va1 aA)))) (aB (bU 10 (aY tE (aF (vv 0) (va1 (vv 7))))) (aB (bU 11 (bF cQ (7) T.cM cB (va1 (bY (N:=["_law_name","_law_kind"]) ck dH rfl (fV (vv 10)) (λcl s' H' fp=>((iT (K:=K) (n:=2) rfl (aW (dF 0) (aW (dF 1) cV))),cI,(vv 0))))))) aZ))));exists 33,D,us,i,02,SqL.of hD,aX hu,p,3,hp,40303030312;refine(3,a,0o4,4,hs,6,λa8 H1 f1 w0 w1=>?_);have bz:TK K H H1:=f1.tk hs;refine(33,a,vh,x.hd,4,f1.st,h4.tk bz,a4.1,λv2 H2 B f2 hI hS=>?_);have(b1,aw,rfl,au,av):=hI;have l8:=a4.1.2.2;have ld:=hS.le;dsimp only[cF,nO,kO,tCB,cX];refine aOa (K:=K) (cs:=B) (5) gR (λR r=>(3,r b1 H2 aw (Same.refl _) au av)) λD3 H3 cg s3 bq=>?_;refine(D3,3,SqL.of bq,λt H4 ft s4 gt=>?_);have ap:=s3.trans s4;have a0:=(f1.trans f2).sm ap;have b2:TK K H H4:=a0.tk hs;have(ps,rfl,a6):=id h5;have b3:∀n∈B.map (·.1),Nm n:=λn ad=>by have(c,ak,rfl):=List.mem_map.mp ad;exact (a4.2 c (hS.mem c ak)).1
 have ab:=eF.nd;exists _,(aB (bL (cL bZ (vv 9) aA) (aB (bU 12 (aY cq (aF (vv 0) (va1 (vv 7))))) (aC (aH (aP (aF (aP (aF aL (aF (vv 2) (va1 (vv 12))))) (aF eO (aF (aP (aF aL (aF (vv 6) (va1 (vv 12))))) (aF (vv 7) (va1 (vv 8)))))))))) aV) aZ);refine bDo (S:=aGw _ _ _) [some (.ref a),some (.ref D),some (.int (i:Nat)),some (.ref N),some va,some (.bl x.s.w),some vq,some vh,some (.ref ps),some (.int a8),some (.ref b1),some (.ref t),none,none,none,none] rfl ?_;exists 023;by_cases e0:a8=0
 .rw[j4 (congrArg V.int e0)];refine bI (33,a,vh,x.hd,4,a0.st,h4.tk b2,a4,λvt H5 ts f5 bi bn=>?_);refine(33,sz3,λt1 G1 aj U a2=>(33,sz3,λt2 G2 a3 A C=>(33,sz5,λt3 Y br J am=>?_)));have F:=U.trans (A.trans J);have fx:=(a0.trans f5).sm F;have tk:TK K H Y:=fx.tk hs;have hT:fY IsT 1 3 K Y vt ts:=bi.same F λh=>h.same F;exact q _ Y (.made "where" (.whr i ts),(true,.whr x.s.q ts,x.s.sp),x.hd) fx (t3,013,SqT.of am,.made ((A.trans J).aG (SqT.of a2)) .whr (.whr rfl hT),.whr (J.aG (SqT.of C)) (h3.tk tk) hT,h4.tk tk,ps,4,tk _ _ a6) (.whr bn)
 rw[j9 λz=>e0 (V.int.inj z)];refine aU (_,(aB (bL (fP bZ (vv 9) aA (tQ _)) (aC (aH (aP (aF (aP (aF aL (aF (vv 2) (aF (vv 11) cW)))) (aF eO (aF (aP (aF aL (aF (vv 6) (aF (vv 11) cW)))) (aF (vv 10) (aF (jG (sE.mono (6)) hr (7) (aF (vv 8) (aF (vv 11) cW))) cW)))))))) aV) aZ),0238);by_cases e1:a8=1
 .rw[j4 (congrArg V.int e1)];refine bI (33,sz3,λt1 G1 aj U a2=>(33,sz3,λt2 G2 a3 A C=>(3331,x.s.sp,B.map (·.1),4,(ps,4,(U.trans A).aG (b2 _ _ a6)),(t,4,(U.trans A).aG (SqT.of gt)),λv' Y J aq=>(sz5,λt4 G4 co k4 ai=>?_))));have F:=U.trans (A.trans (J.trans k4));have fx:=a0.sm F;have tk:TK K H G4:=fx.tk hs;have hT:fY iI 1 8 K G4 (.ref t) (B.map (·.1)):=wO (F.aG (SqT.of gt)) b3 (by rw[d7];exact hS.ne) (by rw[d7];lia);exact q _ G4 (.made "keep" (.keep i (B.map (·.1))),(true,.keep x.s.q (B.map (·.1)),lost (B.map (·.1)) x.s.sp),B) fx (t4,013,SqT.of ai,.made ((A.trans (J.trans k4)).aG (SqT.of a2)) .keep (.keep rfl hT),.keep ((J.trans k4).aG (SqT.of C)) (h3.tk tk) hT,(b1,aw,4,F.aG (ap.aG au),av.imp λ_ _ h=>h.same (ap.trans F)),dU.same k4 aq) (.keep hS)
 rw[j9 λz=>e1 (V.int.inj z)];refine aU (_,(aB (bL (fP bZ (vv 9) aA (tQ _)) (aB (aIu (i:=13) eF.nd rfl (0) (jG (aR.mono (6)) hr (7) (aF (vv 0) (aF aA cW)))) aZ) aV) aZ),0238);have(b0,a9,rfl,al,ay):=id h4;have ch:=ay.len;by_cases e2:a8=2
 .rw[j4 (congrArg V.int e2)];refine bI (3,a,0o16,4,a0.st,6,λtn H5 f5 cn cd=>?_);obtain⟨X,rfl⟩:∃X:Nat,tn=X:=(tn.toNat,5);have O:=a0.trans f5;have bu:TK K H H5:=O.tk hs;have ab:=eF.nd;exists _,(aB (bU 14 (bF cQ (7) T.cM cB (va1 (bY (N:=["_law_k","_law_names_here","_law_turn"]) ck (dC (aD lH)) rfl (dW (7) T.gW (va1 (aJ aM (7) T.cH bM (va1 (vv 7))))) (λcl s' H' fp=>((dF 0),cI,(aQ (nA (K:=K)) (vv 1) (cA dX aA (cA wI (cA dX (vv 2) (vv 0)) aA))))))))) aZ);dsimp only[cF,nO,kO,tCB,cX];refine mL [none,some (.ref N),some (.int (X:Nat))] (uR 3 13 (0) (0) rfl rfl rfl rfl (0) (0)) (3,b0,a9,4,.inr (bu _ _ al),3558);rw[bAQ];refine uK O.st (n:=a9.length) (5) (λj _ y=>y=.str (ns.getD (3+(X+j) % 14) "")) (λ_ _ h=>h) (λ_ _ _ h=>h) (λj H' R hj f' r=>?_) λD6 H6 ys f6 c0 g6 ly hy=>?_
  .have c4:=(O.trans f').same _ _ bm hN;have ac:3+(X+j) % 14<ns.length:=by rw[hn.1];lia
   refine(3331212,(by show (0:Int)<14;decide),12,N,00,.str (ns.getD (3+(X+j) % 14) ""),44,SqL.of c4,8,r _ _ (Fx.refl f'.st) rfl);have e8:(3:Int)+((X:Int)+(j:Int)) % 14=((3+(X+j) % 14:Nat):Int):=by lia
   show atI (ns.map V.str) ((3:Int)+((X:Int)+(j:Int)) % 14)=_;rw[e8];exact aX (by rw[j5,bAB,b7 ac];rfl)
  have(W,rfl,bs):=bHh (f:=λj=>ns.getD (3+(X+j) % 14) "") hy;rw[d7] at ly;have ax:∀(j:Nat) x,W[j]?=some x->ns[3+(X+j) % 14]?=some x:=λj x ex=>by
   have ac:3+(X+j) % 14<ns.length:=by rw[hn.1];lia
   have:=bs j x ex;rw[bAB,b7 ac] at this;rw[b7 ac,this];rfl
  have bh:W.Nodup:=bFf hn.2.2 (λj=>3+(X+j) % 14) ax λk l hk hl e=>by have e:3+(X+k) % 14=3+(X+l) % 14:=e;lia
  have b6:∀n∈W,Nm n:=λn hm=>by have(j,hj):=List.mem_iff_getElem?.mp hm;exact hn.2.1 n (v9 (ax j n hj))
  refine(D6,3,SqL.of g6,λt7 H7 c2 s7 g7=>?_);have a1:=(O.trans f6).sm s7;have bf:TK K H H7:=a1.tk hs;have ab:=eF.nd;exists _,(aB (bL (cL bZ (aQ aK (vv 8) aA) aL) (aC (bU 8 (aP (aF aL (va1 (aQ aK (vv 14) (aY ce (aF (vv 7) (va1 (aQ aK (vv 8) aA)))))))))) aV) aZ);refine bIo (S:=aGw _ _ _) (fun σ H'=>Same H7 H'/\∃vs,oU K H' vs (rnm x.hd W x.s.sp)/\σ=[some (.ref a),some (.ref D),some (.int (i:Nat)),some (.ref N),some va,some (.bl x.s.w),some vq,some (.ref b0),some vs,some (.int a8),some (.ref b1),some (.ref t),none,some (.int (X:Nat)),some (.ref t7),none]) (λM hM=>?_) ?_
  .have g:=bf _ _ a6;cases o:x.s.sp with
   |copied=>rw[o] at g;exact (rd0 rfl g (43,aU (hM _ _ (Same.refl _,_,(ps,4,by rw[o];exact g),4))))
   |loose=>rw[o] at g;exact (rd0 rfl g (43,aU (hM _ _ (Same.refl _,_,(ps,4,by rw[o];exact g),4))))
   |at_ h=>rw[o] at g;exact (rd0 rfl g (43,aU (hM _ _ (Same.refl _,_,(ps,4,by rw[o];exact g),4))))
   |dealt c=>
    rw[o] at g;have(cc,ak,ag):=List.mem_map.mp (ca c o);have ag:cc.1=c:=ag;subst ag;have hk:=jP a4.1.1 ak;have hi:=xC hk;have az:plc x.hd cc.1<W.length:=by have:=(List.getElem?_eq_some_iff.mp hi.1).1;lia
    refine (rd0 rfl g (43,bI (33,rd1 rfl g (00,x.hd,cc.2,4,h4.tk bf,5,hk,λH8 s8=>?_))));refine(t7,00,.str (W.getD (plc x.hd cc.1) ""),44,s8.aG (SqT.of g7),8,sz2,λt9 H9 f9 s9 g9=>hM _ _ (s8.trans s9,_,(t9,4,by rw[o];exact SqT.of g9),4));rw[bAB,b7 az];exact aX (by rw[j5,b7 az];rfl)
  rintro σ' H8 ⟨s8,vs,hvs,rfl⟩;have a5:=a1.sm s8;have ah:TK K H H8:=a5.tk hs;have aa:SqT K H8 t7 (W.map V.str):=s8.aG (SqT.of g7);have ab:=eF.nd;exists _,(aB (bU 10 (bF cQ (7) T.cM cB (va1 (bY (N:=["_law_k","_law_fresh","_law_head"]) ck (dC (aD lH)) rfl (dW (7) T.gW (va1 (aJ aM (7) T.cH bM (va1 (vv 7))))) (λcl s' H' fp=>((dF 0),cI,(aP (aF (aQ (cT (K:=K)) (vv 1) (vv 0)) (va1 (aQ (cT (K:=K)) (aQ (cT (K:=K)) (vv 2) (vv 0)) aA)))))))))) (aC (aH (aP (aF (aP (aF aL (aF (vv 2) (va1 (vv 14))))) (aF eO (aF (aP (aF aL (aF (vv 6) (va1 (vv 14))))) (aF (vv 10) (va1 (vv 8))))))))));dsimp only[cF,nO,kO,tCB,cX];refine mL [none,some (.ref t7),some (.ref b0)] (uR 14 7 (0) (0) rfl rfl rfl rfl (0) (0)) (3,b0,a9,4,.inr (ah _ _ al),3558);rw[bAQ];refine uK a5.st (n:=a9.length) (5) (λj H y=>∃n c,W[j]?=some n/\x.hd[j]?=some c/\IsC K H y (n,c.2,)) (λf1 f2 (n,c,U,A,J)=>(n,c,U,A,J.tk (f2.tk f1.st))) (λ_ _ gD (n,c,U,A,J)=>(n,c,U,A,J.tk λ_ _ e=>e.jK gD)) (λj H' R hj f' r=>?_) λD9 H9 ys f9 cp g9 ci bp=>?_
  .have ba:j<W.length:=by lia
   have(c,hc,pc,c3,bj):=bQ ay (b7 hj);exact(33,t7,00,.str W[j],44,f'.aG a5.st aa,aX (by rw[j5,b7 ba];rfl),33,b0,a9,_,.ref pc,44,f'.aG a5.st (ah _ _ al),aX (by rw[b7 hj,c3]),pc,_,1,02,f'.aG a5.st (ah _ _ bj),at1 _ _ _,sz2,λt9 G9 as s9 g9=>r _ G9 (Fx.of f'.st s9) (W[j],c,b7 ba,hc,t9,4,SqT.of g9))
  refine(D9,3,SqL.of g9,λar b9 cb c8 c1=>?_);refine(33,sz3,λt1 G1 aj U a2=>(33,sz3,λt2 G2 a3 A C=>(33,sz5,λt3 Y br J am=>?_)));have F:=c8.trans (U.trans (A.trans J));have I:=a5.trans f9;have fx:=I.sm F;have tk:TK K H Y:=fx.tk hs;have af:TK K H8 Y:=λ_ _ e=>F.aG (f9.aG a5.st e);have hT:fY iI 1 8 K Y (.ref t7) W:=wO (af _ _ aa) b6 (by have:=a4.1.2.1;lia) (5);have hH:eU K Y (.ref ar) (List.zipWith (λn c=>(n,c.2,)) W x.hd):=by refine(ar,ys,4,(U.trans (A.trans J)).aG (SqT.of c1),pA (by rw[bBQ];lia) λj y z e1 e2=>?_);have(n,c,h1,h2,h3):=bp j y e1;rw[bCP,h1,h2] at e2;cases e2;exact h3.same F
  exact q _ Y (.made "named" (.nmd i W),(true,.nmd x.s.q W,rnm x.hd W x.s.sp),List.zipWith (λn c=>(n,c.2,)) W x.hd) fx (t3,013,SqT.of am,.made ((A.trans J).aG (SqT.of a2)) .nmd (.nmd rfl hT),.nmd (J.aG (SqT.of C)) (h3.tk tk) hT,hH,dU.tk af hvs) (.nmd (5) bh b6)
 rw[j9 λz=>e2 (V.int.inj z)];refine aU (_,(aB (aIu (i:=15) eF.nd rfl (0) (aP (aF (bF cQ (7) T.cM cB (aF (bY (N:=["_law_name","_law_state"]) (0) (dC (aD lH) rfl (0)) rfl (fV (dM jZ (vv 11) fK (eE aA))) (λcl s' H' fp=>((aJt (i:=0) (show (["_law_name","_law_state"]:List Str).Nodup from by trivial) rfl (Or.inl rfl)),cI,(aP (aF (vv 0) (aF (aTe (nA (K:=K)) (cU (aF aL (aF aL cW))) (jG (aR.mono (6)) hr (7) (aF (vv 1) (aF aA cW))) (λ_ _=>rfl)) cW)))))) cW)) (aF (jG (aR.mono (6)) hr (7) (aF (vv 0) (aF aA cW))) cW)))) (aB (aIu (i:=5) eF.nd rfl (0) (dI (gY fU (aTe aK (vv 8) aA (λ_ _=>rfl)) (aP (aF aL (aF aL cW))) (1)) (dN (gY aBb (jG (aR.mono (6)) hr (7) (aF (vv 0) (aF aA cW))) aA (tQ _))))) (aC (aH (aP (aF (cA jX (aTe bB (cU (aF (aP (aF aL (aF (vv 2) cW))) (aF (aP (aF aL (aF (vv 2) cW))) cW))) (bF gU (7) T.rQ nG (aF (vv 5) cW)) (λ_ _=>rfl)) (vv 15)) (aF (vv 5) (aF (cA jX (aP (aF aL (aF (vv 6) cW))) (vv 15)) (aF (vv 7) (aF (vv 8) cW)))))))))),8);dsimp only[oM,cF,nO,kO,aX8,tCB,cX];refine mX [none,some (.ref a)] (eX 0 (0) rfl rfl (0)) (33,t,3,SqT.of gt,λp5 H5 s5 c5=>?_);rw[show (3:Int)=((3:Nat):Int) from rfl,pF,<-bFA] at c5;have O:=a0.sm s5;have l3:((B.map (·.1)).take 3).length<=3:=by rw[bAK];lia
 have lk:Looks x.hd ((B.map (·.1)).take 3) ((B.take 3).map (·.2)):=by rw[<-bFA];exact aFb a4.1.1 λc hc=>hS.mem c (bCG hc)
 have ao:((B.map (·.1)).take 3).Nodup:=hS.nd.sublist (bCX _ _);have b5:∀n∈(B.map (·.1)).take 3,Nm n:=λn h=>b3 n (bCG h);generalize (B.map (·.1)).take 3=ms at c5 l3 lk ao b5;refine(p5,4,(_,c5),aQw O.st (ms.map V.str) (by rw[d7];lia) (tO λH' f'=>f'.aG O.st c5) (mR λH' f'=>f'.aG O.st c5) (λj H y=>∃n d,ms[j]?=some n/\rC K H y (n,d,)) (λf1 f2 (n,d,U,A)=>(n,d,U,A.tk (f2.tk f1.st))) (λ_ _ gD (n,d,U,A)=>(n,d,U,A.tk λ_ _ e=>e.jK gD)) (λj y H' R ey f' r=>?_) λD6 H6 ys f6 c0 g6 ly hy=>?_)
 .have(n,ad,rfl):=iR ey;refine(3,sz2,λL HL fL sL gL=>?_);have bc:=Fx.of f'.st sL;refine(3,a,2,4,bc.st,6,λd H2 f2 d0 d1=>?_);obtain⟨dd,bv,c9⟩:∃dd:Str,atI [V.str "up",.str "down"] d=some (.str dd)/\(dd = "up"\/dd = "down"):=by
   obtain⟨z,rfl⟩:∃z:Nat,d=z:=(d.toNat,5)
   match z,d1 with
   |0,_=>exact(_,aX (j:=0) rfl,.inl rfl)
   |1,_=>exact(_,aX (j:=1) rfl,.inr rfl)
   |z+2,h=>lia
  exact(L,012,SqL.of (f2.same _ _ (f'.st.ne fL) gL),bv,sz2,λt9 G9 as s9 g9=>r _ G9 ((bc.trans f2).sm s9) (n,dd,ad,t9,4,SqT.of g9,b5 n (v9 ad),c9))
 rw[d7] at ly;have(ks,be,an):=aS7 ly hy;have cm:=be.len;refine(D6,3,SqL.of g6,λt7 H7 c2 s7 g7=>?_);have a1:=(O.trans f6).sm s7;refine(3,a,0o15,4,a1.st,6,λmm H8 f8 m0 m1=>(sz2,λt9 H9 as s9 g9=>?_));obtain⟨m,rfl⟩:∃m:Nat,mm=m:=(mm.toNat,5);have I:=(a1.trans f8).sm s9;have bt:TK K H H9:=I.tk hs;have E:=bt _ _ a6;refine bJg (te:=bAi _ _) (λv H'=>Fx a H9 H'/\∃b,v=.bl b/\(b=true->gth (.first x.s.q ks m) x.s.sp)) (λM hM=>?_) ?_
 .have no:∀G,Same H9 G->M (.bl false) G:=λG k=>hM _ _ (Fx.of I.st k,false,4,λz=>(by cases z));cases o:x.s.sp with
  |copied=>rw[o] at E;exact (rd0 rfl E (sz2,λt2 G2 a3 A C=>(t2,3,.inr (SqT.of C),23,bI (3,a,0o3,4,(Fx.of I.st A).st,6,λd Y f3 d0 d1=>(12,hM _ _ ((Fx.of I.st A).trans f3,3,λ_=>by rw[o];trivial))))))
  |at_ h=>rw[o] at E;exact (rd0 rfl E (sz2,λt2 G2 a3 A C=>(t2,3,.inr (SqT.of C),23,bI (3,a,0o3,4,(Fx.of I.st A).st,6,λd Y f3 d0 d1=>(12,hM _ _ ((Fx.of I.st A).trans f3,3,λ_=>by rw[o];trivial))))))
  |loose=>rw[o] at E;exact (rd0 rfl E (sz2,λt2 G2 a3 A C=>(t2,3,.inr (SqT.of C),23,aU (no _ A))))
  |dealt c=>rw[o] at E;exact (rd0 rfl E (sz2,λt2 G2 a3 A C=>(t2,3,.inr (SqT.of C),23,aU (no _ A))))
 rintro _ b9 ⟨f10,b,rfl,hb⟩;have bb:=I.trans f10;have a7:TK K H9 b9:=f10.tk I.st;refine(3,sz2,λt1 G1 aj U a2=>(3,sz2,λt2 G2 a3 A C=>(sz2,λL Y fL J gL=>?_)));obtain⟨tw,wd,c6,bw,b4⟩:∃tw wd,atI [V.ref t1,.ref t2] (if b=true then 1 else 0)=some (.ref tw)/\SqT K Y tw [.str wd,.int (i:Nat)]/\wd=(if b=true then ("first":Str) else "cut"):=by
  cases b with
  |true=>exact(t2,"first",aX (j:=1) rfl,J.aG (SqT.of C),4)
  |false=>exact(t1,"cut",aX (j:=0) rfl,J.aG (A.aG (SqT.of a2)),4)
 have bg:=U.trans (A.trans J);have h9:SqT K Y t9 [.ref t7,.int (m:Nat)]:=bg.aG (a7 _ _ (SqT.of g9));refine(3,.inr (3,L,012,SqL.of gL,c6,8));refine(3,tw,t9,12,bw,h9,small (by show 4<=1000;decide),λt4 G4 k4 ai=>(33,sz2,λt5 G5 cj k5 bo=>(3,t5,t9,12,SqT.of bo,(k4.trans k5).aG h9,small (by show 4<=1000;decide),λt6 G6 k6 bx=>(33,sz5,λt8 G8 cf k8 aa=>?_))));have bk:=k4.trans (k5.trans (k6.trans k8));have bd:=bg.trans bk;have fx:=bb.sm bd;have tk:TK K H G8:=fx.tk hs;have ae:TK K H9 G8:=λ_ _ e=>bd.aG (a7 _ _ e);have hT:fY rC 0 3 K G8 (.ref t7) ks:=by refine((t7,ys,4,ae _ _ (s9.aG (f8.aG a1.st (SqT.of g7))),be.imp λ_ _ h=>h.tk λ_ _ e=>ae _ _ (s9.aG (f8.aG a1.st (s7.aG e)))),bAI _,5)
 have hA:SqT K G8 t4 [.str wd,.int (i:Nat),.ref t7,.int (m:Nat)]:=(k5.trans (k6.trans k8)).aG ai;have hQ:IsQ K G8 (.ref t6) (.first x.s.q ks m):=.first (k8.aG bx) (h3.tk tk) hT (5);have lk:Looks x.hd (ks.map (·.1)) ((B.take 3).map (·.2)):=by rw[an];exact lk
 cases b with
 |true=>
  have hA:SqT K G8 t4 [.str "first",.int (i:Nat),.ref t7,.int (m:Nat)]:=by rw[b4] at hA;exact hA
  exact q _ G8 (.made "first" (.first i ks m),(true,.first x.s.q ks m,x.s.sp),x.hd) fx (t8,013,SqT.of aa,.made hA .first (.first rfl hT (5)),hQ,h4.tk tk,ps,4,tk _ _ a6) (.first lk (by rw[an];exact ao) (hb rfl))
 |false=>
  have hA:SqT K G8 t4 [.str "cut",.int (i:Nat),.ref t7,.int (m:Nat)]:=by rw[b4] at hA;exact hA
  exact q _ G8 (.made "cut" (.first i ks m),(false,.first x.s.q ks m,x.s.sp),x.hd) fx (t8,013,SqT.of aa,.made hA .cut (.first rfl hT (5)),hQ,h4.tk tk,ps,4,tk _ _ a6) (.cut lk (by rw[an];exact ao))
def pG.tk (e:TK K H H')(h:pG K H v c):pG K H' v c:=by have(p,rfl,a):=h;exact(p,4,e _ _ a)
def aAu.tk (e:TK K H H')(h:aAu K H v pl):aAu K H' v pl:=by
 cases pl with
 |copies=>have(a,rfl,b):=h;exact(a,4,e _ _ b)
 |keys n=>have(a,rfl,b):=h;exact(a,4,e _ _ b)
 |spans n h0 cs=>have(a,d,rfl,b,c):=h;exact(a,d,4,e _ _ b,aK9 e (λ_ _ z=>z.tk e) c)
def bB6:∀{ys:List V},(∀y∈ys,jD k y)->∃ks:List Key,ys=ks.map kV/\∀x∈ks,jD k (kV x):=by
 intro b
 induction b with
 |nil=>rintro _;exact([],4,λx h=>by cases h)
 |cons y ys ih=>
  rintro h;have(ks,e,c):=ih λz hz=>h z (j8 _ hz);have a:=h y v7;obtain⟨x,rfl⟩:∃x,y=kV x:=by
   cases a with
   |num=>exact(.inl _,4)
   |wrd _ _=>exact(.inr _,4)
  refine(x::ks,by rw[e];rfl,λz hz=>?_);rcases List.mem_cons.mp hz with rfl|hz
  .exact a
  .exact c z hz
def aU7 {k:Str}{ks:List Key}(h:∀x∈ks,jD k (kV x)):(∀x∈ks,∃n,x=Sum.inl n)\/∀x∈ks,∃n,x=Sum.inr n:=by
 by_cases d:k = "number"
 .refine .inl λx b=>?_;cases x with
  |inl n=>exact(n,4)
  |inr n=>
   have:=h _ b;rw[d] at this;generalize c:kV (Sum.inr n)=v at this;generalize a:("number":Str)=k0 at this;cases this with
   |num=>cases c
   |wrd _ _=>exact absurd a (6)
 .refine .inr λx b=>?_;cases x with
  |inr n=>exact(n,4)
  |inl n=>
   have:=h _ b;generalize c:kV (Sum.inl n)=v at this;cases this with
   |num=>exact absurd rfl d
   |wrd _ _=>cases c
def bH1 (h:ltK a b):vlt (kV a) (kV b)=true:=by cases a <;> cases b <;> first|exact j4 h|exact absurd h id
def aEq {κ:Type}[DecidableEq κ]{kvs:List (κ × V)}{k:κ}{v:V}(h:∀kv∈kvs,kv.1≠k):putK kvs k v=kvs++[(k,v,)]:=by unfold putK;rw[if_neg];intro z;have(kv,a,b):=List.any_eq_true.mp z;exact h kv a (of_decide_eq_true b)
def aSn (h:n<1000):n<sizeLine:=bAF h (6)
def lZ.fx (f:Fx a H H')(h:lJ H a)(m:d≠a)(n:∀e∈es,e.L≠a)(b:lZ K H d es):lZ K H' d es:=by refine(f.same _ _ m b.at_,b.nd,b.few,b.nm,λe c=>?_);have(t,l,k,i,j,g):=b.tb e c;exact(t,l,f.aG h k,i.tk (f.tk h),j.tk (f.tk h),g.fx f h (n e c))
def aJw (a:!(X.K=K)):cZ X (.type "tuple") (aUk K):=by subst a;exact cQ
def bJj (i:Nat)(c:(y,NameKind.free,)∈scope.names)(hi:M[i]?=some y)(hs:σ[i]?=some (some u))(d:Vis sc y):bIf M sc scope [x,y] σ [none,some u]:=
 (4,λn q r b a=>by
  match n,b,a with
  |0,_,a=>cases a
  |1,b,a=>cases b;cases a;exact(c,i,hi,hs,d)
  |n+2,b,_=>cases b)
def bBb (h:VE X e te)(a:!(X.K=K)):VI X tg e (tL K te):=by subst a;exact iD h
abbrev scR:Scope:={ kind:=.function,names:=[(".0",.local,),("_law_j",.local,),("tuple",.globalImplicit,),("_law_kinds",.cell,),("_law_state",.cell,)],isGenerator:=false,isCoroutine:=false }
def bA7:∀{ys:List V},(∀(i:Nat) y,ys[i]?=some y->∃k,y=.str k/\aDb k)->∃ks:List Str,ys=ks.map V.str/\∀k∈ks,aDb k:=by
 intro a
 induction a with
 |nil=>rintro _;exact([],4,λx e=>by cases e)
 |cons y ys ih=>
  rintro h;have(d,e,k):=ih λi z f=>h (i+1) z (by simpa using f);have(c,rfl,b):=h 0 y rfl;refine(c::d,by rw[bAE,<-e],λx hx=>?_);rcases List.mem_cons.mp hx with rfl|hx
  .exact b
  .exact k x hx
theorem aUs {H:Hp}{m:Int}:∀{xs ys:List V},ys.length=xs.length->(∀(i:Nat) y,ys[i]?=some y->∃v h,xs[i]?=some v/\pG K H y (v,h,)/\0<=h/\h<m)->∃cs:List (V × Int),bR (pG K H) ys cs/\cs.map (·.1)=xs/\∀c∈cs,0<=c.2/\c.2<m
 |[],[],_,_=>([],.nil,4,λc h=>by cases h)
 |[],y::ys,h,_=>by cases h
 |n::ns,[],h,_=>by cases h
 |n::ns,y::ys,h,k=>by
  have(p,o,g,l):=aUs (by simpa using h) λi z e=>by have(f,d,a,b):=k (i+1) z (by simpa using e);exact(f,d,by simpa using a,b)
  have(f,d,a,b,j):=k 0 y rfl;cases a;refine((n,d,)::p,.cons b o,by rw[bAE,g],λc hc=>?_);rcases List.mem_cons.mp hc with rfl|hc
  .exact j
  .exact l c hc
def aV6 (c:L2.St)(b:bIf M sc scope N σ c)(h:tl σ H λv H1=>∃a,v=.ref a/\(∃xs,SqL K H1 a xs)/\rW (Itl K a) H1 c g tt te Q):aYu M sc scope N (tL K tl) g tt te σ H Q:=(c,b,h)
inductive aL5 (K:bGC)(vs:List V)(H:Hp)(Q:VK)(E_:XK):Prop
 |mk (a N:Addr)(ns:List Str)(_:vs=[.ref a,.ref N,.int 4])(_:lJ H a)(_:H N=some (.lst (ns.map V.str)))(_:N≠a)(_:xR ns)(_:∀t d (m:Int) es H',Fx a H H'->SqT K H' t [.int m,.ref d]->H d=none->1<=m->m<=6->lZ K H' d es->(∀e∈es,xW m e.t/\H e.L=none)->2<=es.length->es.length<=3->Q (.ref t) H')
def aK7 (T:!Txt)(aR:!Ok 1 "_law_next" n7 jF)(nZ:!Ok 2 "_law_value" bQM aLi):!Ok 3 "_law_town" w7 (aL5 K):=by
 refine Ok.ofW T.aNh gZ λZ H vs Q hr h=>?_;have(a,N,G,rfl,hs,hN,nN,hn,q):=h;have hu:=xP hr;have ao:=gZ.nd;exists _,(aB (bU 3 (cA dX aA (aY aR (aF (vv 0) (va1 aA))))) (aB (bU 4 aX0) (aB (nH PassesOwn.never rfl (dW (7) T.gW (va1 (cA dX aA (aY aR (aF (vv 0) (va1 aA)))))) (cP 5) (aB (bU 6 (aY aR (aF (vv 0) (va1 aA)))) (aB (bU 7 (cA dX aA (cA zZ (aY aR (aF (vv 0) (va1 aA))) (cA dX aA (bF gU (7) T.rQ nG (va1 (lW bZ (aY aR (aF (vv 0) (va1 aA))) aA))))))) (aB (bU 8 (bY (N:=["_law_j","_law_state"]) ck (dC (aD jA)) rfl (dW (7) T.gW (va1 (vv 7))) (λcl s' f fp=>((dF 0),cI,(aQ (nA (K:=K)) (cU (aF aL (aF aL (va1 aL)))) (aY aR (aF (vv 1) (va1 aA)))))))) aZ)))) (aC (aH (aP (aF (vv 3) (va1 (vv 4)))))))));have cw:=hn.1;refine(3,a,0o4,4,hs,6,λz H1 f1 z0 z1=>(12,λd H2 bk s2 g2=>?_));have O:=f1.sm s2;have a9:H d=none:=f1.free bk;have ar:d≠a:=hs.ne a9;refine(3,a,2,4,O.st,6,λz2 H3 f3 dq dc=>(128));have a6:=O.trans f3;have g3:=f3.same _ _ ar g2;obtain⟨m,em⟩:∃m:Int,1+z=m:=(3);have m1:1<=m:=by lia
 have m4:m<=4:=by lia
 exists 2+z2,455;obtain⟨n,en⟩:∃n:Nat,(2+z2).toNat=n:=(3);rw[en];refine qK (n:=n) (λi σ f=>Fx a H f/\∃es l5 l6 l7 l8 l9 aa ac a7 a3 a1 S,lZ K f d es/\(∀e∈es,xW m e.t/\H e.L=none)/\es.map (·.n)=G.take i/\σ=[some (.ref a),some (.ref N),some (.int 4),some (.int m),some (.ref d),l5,l6,l7,l8,l9,aa,ac,a7,a3,a1,S]) (a6,[],none,none,none,none,none,none,none,none,none,none,none,(g3,bEB,bAI _,λe h=>(by cases h),λe h=>(by cases h)),λe h=>(by cases h),4,(by rw[<-em];rfl)) (λi σ H0 hi p=>?_) fun σ f p=>?_
 .have(fx,es,l5,l6,l7,l8,l9,aa,ac,a7,a3,a1,S,hE,af,a4,rfl):=p;refine(3,a,0o10,4,fx.st,6,λbb H1 f1 cr cu=>?_);obtain⟨E,rfl⟩:∃E:Nat,bb=E:=(bb.toNat,5);refine(3,a,0o4,4,f1.st,6,λm0 H2 O di df=>?_);refine(3,a,0o10,4,O.st,6,λe0 H3 f3 _ _=>?_);refine(4,.inr (38));obtain⟨zz,ez,dd,dv⟩:∃zz:Nat,1+m0 * (1+(if decide (V.int e0=V.int 0)=true then 1 else 0))=(zz:Int)/\1<=zz/\zz<=7:=by
   cases decide (V.int e0=V.int 0)
   .exact((1+m0).toNat,by simp;lia,55)
   .exact((1+m0 * 2).toNat,by simp;lia,55)
  exists 1212,.inl (55),12;have a6:=f1.trans (O.trans f3);dsimp only[cF,List.set];refine qD (fun σ f=>Fx a H0 f/\∃(L:Addr) (I:List Str) (l7:Option V),f L=some (.lst (I.map V.str))/\L≠a/\I.length=zz/\(∀k∈I,aDb k)/\σ=[some (.ref a),some (.ref N),some (.int 4),some (.int m),some (.ref d),some (.int (0+(i:Int))),some (.int (E:Nat)),l7,some (.ref L),l9,aa,ac,a7,a3,a1,S]) (λM hM=>?_) ?_
  .dsimp only[kO];refine mL [none,some (.ref a)] (eX 0 (0) rfl rfl (0)) (3,(zz:Int),congrArg (λz=>[V.int z]) ez,558);rw[bAQ];refine uK a6.st (n:=zz) (5) (λ_ _ y=>∃k,y=.str k/\aDb k) (λ_ _ h=>h) (λ_ _ _ h=>h) (λj f R hj J r=>?_) λL HL ys fL nL gL ly hy=>?_
   .refine(sz3,λp1 H5 cp s5 g5=>?_);refine(3,a,0o3,4,J.st.same s5,6,λd H6 f6 d0 d1=>?_);have(kv,ah,bj):=at_of (xs:=[.str "number",.str "number",.str "word"]) d0 (by show d<3;lia);refine(p1,012,SqL.of (f6.same _ _ (J.st.ne cp) g5),ah,r _ _ ((Fx.of J.st s5).trans f6) ?_);simp only[bAS,bAH,or_false] at bj;rcases bj with rfl|rfl|rfl
    .exact(3,.inl rfl)
    .exact(3,.inl rfl)
    .exact(3,.inr rfl)
   have(I,rfl,hk):=bA7 hy;exact hM _ _ (a6.trans fL,L,I,_,gL,a6.st.ne nL,by rw[<-ly,d7],hk,4)
  clear a6 f3 O f1 ez;rintro _ H4 ⟨f4,L,I,l7',gL,nLa,lks,hks,rfl⟩;have ao:=gZ.nd;exists _,(aB (bU 9 (bF cQ (7) T.cM cB (va1 (bY (N:=["_law_j","_law_names_here","_law_kinds","_law_start"]) ck (dC (aD jA)) rfl (dW (7) T.gW (va1 (aJ aM (7) T.cH bM (va1 (vv 8))))) (λcl s' f fp=>((dF 0),cI,(aP (aF (aQ (nA (K:=K)) (vv 1) (cA dX aA (cA wI (cA dX (vv 3) (vv 0)) aA))) (va1 (aQ (nA (K:=K)) (vv 2) (vv 0))))))))))) aZ);have aq:=fx.trans f4;refine qD (fun σ f=>Fx a H4 f/\∃(b:Addr) (hd:Hdr),eU K f (.ref b) hd/\rZ hd/\hd.map (·.2)=I/\σ=[some (.ref a),some (.ref N),some (.int 4),some (.int m),some (.ref d),some (.int (0+(i:Int))),some (.int (E:Nat)),l7',some (.ref L),some (.ref b),aa,ac,a7,a3,a1,S]) (λM hM=>?_) ?_
  .dsimp only[kO,tCB,cX];refine mL [none,some (.ref N),some (.ref L),some (.int (E:Nat))] ?_ (3,L,3,.inl (SqL.of gL),3,by rw[d7];lia,by rw[d7];lia,8)
   .refine(4,λi y v A o=>?_)
    match i,A,o with
    |0,_,o=>cases o
    |1,A,o=>cases A;cases o;exact(by trivial,1,44,(0))
    |2,A,o=>cases A;cases o;exact(by trivial,0o10,44,(0))
    |3,A,o=>cases A;cases o;exact(by trivial,0o6,44,(0))
    |i+4,A,_=>cases A
   rw[bAQ,d7];refine uK f4.st (n:=I.length) (5) (λj H y=>∃n k,G[3+(E+j) % 8]?=some n/\I[j]?=some k/\IsC K H y (n,k,)) (λf1 O (n,k,A,o,h3)=>(n,k,A,o,h3.tk (O.tk f1.st))) (λ_ _ gD (n,k,A,o,h3)=>(n,k,A,o,h3.tk λ_ _ e=>e.jK gD)) (λj f R hj J r=>?_) λD HD ys fD nD gD ly hy=>?_
   .have cf:=(aq.trans J).same _ _ nN hN;have U:3+(E+j) % 8<G.length:=by lia
    refine(3331212,(by show (0:Int)<8;decide),12,N,00,.str G[3+(E+j) % 8],44,SqL.of cf,833,L,00,.str I[j],44,SqL.of (J.same _ _ nLa gL),aX (by rw[j5,b7 hj];rfl),sz2,λt9 G9 az s9 g9=>r _ G9 (Fx.of J.st s9) (00,b7 U,b7 hj,t9,4,SqT.of g9));have e8:(3:Int)+((E:Int)+(j:Int)) % 8=((3+(E+j) % 8:Nat):Int):=by lia
    show atI (G.map V.str) ((3:Int)+((E:Int)+(j:Int)) % 8)=_;rw[e8];exact aX (by rw[j5,b7 U];rfl)
   refine(D,3,SqL.of gD,λb Hb fb sb gb=>?_)
   let hd:Hdr:=(List.range I.length).map λj=>(G.getD (3+(E+j) % 8) "",I.getD j "",)
   have a8:∀(j:Nat) c,hd[j]?=some c->j<I.length/\G[3+(E+j) % 8]?=some c.1/\I[j]?=some c.2:=λj c hc=>by
    have hj:j<I.length:=by have:=(List.getElem?_eq_some_iff.mp hc).1;rw[d7,bAG] at this;exact this
    have U:3+(E+j) % 8<G.length:=by lia
    rw[j5,bBY hj] at hc;cases hc;exists hj,8
    .show _=some (G.getD (3+(E+j) % 8) "");rw[bAB,b7 U];rfl
    .show _=some (I.getD j "");rw[bAB,b7 hj];rfl
   have dt:hd.length=I.length:=by rw[d7,bAG]
   have hI:eU K Hb (.ref b) hd:=(b,ys,4,SqT.of gb,pA (5) λj y c e1 e2=>by have(n,k,A,o,h3):=hy j y e1;have(_,c1,c2):=a8 j c e2;rw[c1] at A;rw[c2] at o;cases A;cases o;exact h3.same sb)
   have ek:hd.map (·.2)=I:=bBM λj=>by
    rw[j5];cases e:hd[j]? with
    |some c=>rw[(a8 j c e).2.2];rfl
    |none=>have:=List.getElem?_eq_none_iff.mp e;exact (bAJ (5)).symm
   have ad:rZ hd:=by
    refine((bFf hn.2.2 (λj=>3+(E+j) % 8) (λj x ex=>?_) λk l hk hl e=>?_,55),λc hc=>?_)
    .rw[j5] at ex;have(c,hc,rfl):=Option.map_eq_some_iff.mp ex;exact (a8 j c hc).2.1
    .rw[d7] at hk hl;have e:3+(E+k) % 8=3+(E+l) % 8:=e;lia
    .have(j,hj):=List.mem_iff_getElem?.mp hc;exact(hn.2.1 _ (v9 (a8 j c hj).2.1),hks _ (v9 (a8 j c hj).2.2))
   exact hM _ _ (fD.sm sb,b,hd,hI,ad,ek,4)
  rintro _ H5 ⟨f5,b,hd,hI5,hok,ekd,rfl⟩;have ao:=gZ.nd;exists _,(aB (nJ (aQ aK (vv 9) (aY aR (aF (vv 0) (va1 (aJ aM (7) T.cH bM (va1 (vv 9))))))) (iY rfl (aW (cP 10) (aW (cP 11) cV)))) (aB (bU 12 (aJ (aJb rfl) (7) T.aC4 zL (va1 (bF (aWe rfl) (7) T.bE5 bA2 (va1 (bY (N:=["_law_j","_law_state","_law_kind"]) ck (dC (aD jA)) rfl (dW (7) T.gW (va1 (aY aR (aF (vv 0) (va1 aA))))) (λcl s' f fp=>((dF 0),cI,(aY nZ (aF (vv 1) (va1 (vv 2)))))))))))) aZ));have br:=aq.trans f5;have ad:=hok.1;have(b',us,eb,hb,b0):=id hI5;cases eb;have dm:=b0.len;have l1:=ad.2.1;have d3:=ad.2.2;refine(333,b,us,4,.inr hb,a,3,f5.st,(55),λzc H6 f6 ca bt=>?_);have(u,ch,bc):=at_of (xs:=us) ca bt;have(c,be,pc,rfl,bl):=b0.mem bc;have(ay,b9):=hok.2 c be;have lk:=jP ad.1 be;exists b,us,12,f6.aG f5.st hb,ch,pc,3,f6.aG f5.st bl,40312;dsimp only[cF,List.set];have d8:=br.trans f6;refine qD (fun σ f=>Fx a H6 f/\∃(B:Addr) (s:List Key),f B=some (.lst (s.map kV))/\B≠a/\s.length<=4/\(∀x∈s,jD c.2 (kV x))/\s.Pairwise ltK/\σ=[some (.ref a),some (.ref N),some (.int 4),some (.int m),some (.ref d),some (.int (0+(i:Int))),some (.int (E:Nat)),l7',some (.ref L),some (.ref b),some (.str c.1),some (.str c.2),some (.ref B),a3,a1,S]) (λM hM=>?_) ?_
  .dsimp only[kO,tCB,cX];refine mL [none,some (.ref a),some (.str c.2)] (uR 0 11 (0) (0) rfl rfl rfl rfl (0) (0)) ?_;refine(3,a,0o5,4,f6.st,6,λz' H7 f7 cx d2=>(z',4558));refine uK f7.st (n:=z'.toNat) (5) (λ_ _ y=>jD c.2 y) (λ_ _ h=>h) (λ_ _ _ h=>h) (λj f R hj J r=>(33,a,c.2,4,J.st,b9,λv H2 O hv=>r v H2 O hv)) λD HD ys fD nD gD ly hy=>?_;have(kq,rfl,bp):=bB6 (k:=c.2) (ys:=ys) λy hm=>by have(i,hi):=List.mem_iff_getElem?.mp hm;exact hy i y hi
   rw[d7] at ly;refine(D,kq,4,SqL.of gD,5,λD2 aw kl d5 bh bo av=>?_);have b4:∀x∈kl,jD c.2 (kV x):=λx hx=>bp x ((av.2.1 x).mp hx);have dh:=av.2.2;refine(D2,kl,4,bo,5,av.1,aU7 b4,λB ae s c9 W gB aj pw=>?_);have dk:=aj.length_eq;have b3:=((f7.trans fD).sm bh).sm W;exact hM _ _ (b3,B,s,gB,((f7.trans fD).sm bh).st.ne c9,5,λx hx=>b4 x (aj.mem_iff.mp hx),pw,4)
  rintro _ H7 ⟨f7,B,s,gB,nBa,lB,hkB,pwB,rfl⟩;exists _,(aB (lF (i0:=13) gZ.nd rfl (0) (N:=["_law_low","_law_state","_law_houses"]) ck (dC (aD jA)) rfl (iD (cA aNe (cU (va1 mG)) (vv 12))) (λcl s' f fp=>((dF 0),cI,(aP (aF (vv 0) (va1 (aY aR (aF (vv 1) (va1 (vv 2)))))))))) aZ);refine qD (fun σ f=>Fx a H7 f/\∃(C:Addr) (us':List V) (h0:Int) (cs:List (V × Int)),f C=some (.lst us')/\C≠a/\bR (pG K f) us' ((.non,h0,)::cs)/\cs.map (·.1)=s.map kV/\(0<=h0/\h0<m)/\(∀x∈cs,0<=x.2/\x.2<m)/\σ=[some (.ref a),some (.ref N),some (.int 4),some (.int m),some (.ref d),some (.int (0+(i:Int))),some (.int (E:Nat)),l7',some (.ref L),some (.ref b),some (.str c.1),some (.str c.2),some (.ref B),some (.ref C),a1,S]) (λM hM=>?_) ?_
  .dsimp only[kO];refine uJ [none,some (.ref a),some (.int m)] (uR 0 3 (0) (0) rfl rfl rfl rfl (0) (0)) (sz1,λL1 H8 du s8 g8=>(3,L1,B,[.non],02,g8,s8 _ _ gB,small (by rw[d7,bBG];lia),λL2 H9 cn s9 g9=>?_));have as:=(Fx.of f7.st s8).sm s9;have bi:L2≠a:=(Fx.of f7.st s8).st.ne cn;refine(L2,4,(_,SqL.of g9),aQw as.st (.non::s.map kV) (by rw[p8,d7];lia) (aCm λf J=>SqL.of (J.same _ _ bi g9)) (uN λf J=>SqL.of (J.same _ _ bi g9)) (λj H y=>∃v h,(V.non::s.map kV)[j]?=some v/\pG K H y (v,h,)/\0<=h/\h<m) (λf1 O (v,h,A,o,h3)=>(v,h,A,o.tk (O.tk f1.st),h3)) (λ_ _ gD (v,h,A,o,h3)=>(v,h,A,o.tk λ_ _ e=>e.jK gD,h3)) (λj y f R ey J r=>?_) λC HC ys fC nC gC ly hy=>?_)
   .exact(333,a,m,4,J.st,(55),λhh H2 O ax cm=>(sz2,λt9 G9 az cg cq=>r _ G9 (O.sm cg) (y,hh,ey,(t9,4,SqT.of cq),ax,cm)))
   have(cs,A,o,h3):=aUs ly hy;cases cs with
   |nil=>cases o
   |cons c0 cs=>rw[bAE,List.cons.injEq] at o;have(c1,c2):=c0;have ci:c1=.non:=o.1;subst ci;exact hM _ _ (as.trans fC,C,ys,c2,cs,gC,as.st.ne nC,A,o.2,h3 _ v7,λx hx=>h3 x (j8 _ hx),4)
  rintro _ H8 ⟨f8,C,us',h0,cs,gC,nCa,hcu,ecs,ax,hcb,rfl⟩;have ao:=gZ.nd;exists _,(aB (bU 14 (aQ bB (cU (aF (aP (va1 aL)) (aF (aP (aF aL (va1 (vv 10)))) (va1 (aP (aF aL (aF (vv 10) (va1 (bF cQ (7) T.cM cB (va1 (vv 13))))))))))) (aY aR (aF (vv 0) (va1 aA))))) aZ);have d4:cs.length=s.length:=by have:=congrArg List.length ecs;rw[d7,d7] at this;exact this
  refine qD (fun σ f=>Fx a H8 f/\∃vp pl,aAu K f vp pl/\bIp hd m pl/\σ=[some (.ref a),some (.ref N),some (.int 4),some (.int m),some (.ref d),some (.int (0+(i:Int))),some (.int (E:Nat)),l7',some (.ref L),some (.ref b),some (.str c.1),some (.str c.2),some (.ref B),some (.ref C),some vp,S]) (λM hM=>?_) ?_
  .refine(sz1,λt1 G1 da k1 bs=>(3,sz2,λt2 G2 db k2 cc=>(33,C,us',4,SqL.of (k2 _ _ (k1 _ _ gC)),λt3 G3 d6 k3 ce=>(sz3,λt4 G4 dr k4 bv=>(sz3,λL5 G5 c5 k5 bq=>?_)))));have bg:=k1.trans (k2.trans (k3.trans (k4.trans k5)));have Y:=Fx.of f8.st bg;refine(3,a,0o3,4,Y.st,6,λdz G6 X dj cy=>?_);obtain⟨dn,rfl⟩:∃dn:Nat,dz=dn:=(dz.toNat,5);have ag:dn<3:=by lia
   have bu:L5≠a:=(Fx.of f8.st (k1.trans (k2.trans (k3.trans k4)))).st.ne c5;exists L5,012,SqL.of (X.same _ _ bu bq),aX (b7 (show dn<[V.ref t1,.ref t2,.ref t4].length from ag));have au:=Y.trans X
   match dn,ag with
   |0,_=>exact hM _ _ (au,_,.copies,(t1,4,X.aG Y.st ((k2.trans (k3.trans (k4.trans k5))).aG (SqT.of bs))),trivial,4)
   |1,_=>exact hM _ _ (au,_,.keys c.1,(t2,4,X.aG Y.st ((k3.trans (k4.trans k5)).aG (SqT.of cc))),(ay,c.2,lk),4)
   |2,_=>
    refine hM _ _ (au,_,.spans c.1 h0 cs,(t4,.ref t3,4,X.aG Y.st (k5.aG (SqT.of bv)),t3,us',4,X.aG Y.st ((k4.trans k5).aG (SqT.of ce)),hcu.imp λ_ _ h=>h.tk λ_ _ e=>X.aG Y.st (bg.aG e)),(ay,c.2,lk,b9,ax,λx hx=>(8,hcb x hx),85),4)
    .have:x.1∈cs.map (·.1):=bCK hx;rw[ecs] at this;have(bn,c3,co):=List.mem_map.mp this;rw[<-co];exact hkB bn c3
    .rw[ecs];exact List.pairwise_map.mpr (pwB.imp λh=>bH1 h)
   |dn+3,ag=>exact absurd ag (5)
  rintro _ H9 ⟨f9,vp,pl,hpl,plok,rfl⟩;exists _,(aB (lF (i0:=15) gZ.nd rfl (0) (N:=["_law_j","_law_state","_law_kinds"]) ck (dC (aD jA)) rfl (dW (7) T.gW (va1 (aY aR (aF (vv 0) (va1 (cA dX (vv 2) aA)))))) (λcl s' f fp=>((dF 0),cI,(bF (aJw (K:=K)) (7) T.cM cB (va1 (aYk (M:=["_law_j","_law_state","_law_kinds"]) (sc:=scR) (N:=["_law_sort","_law_state"]) rfl rfl ck (dC scR rfl (0)) rfl (bBb (K:=K) (vv 2)) (λdl cz de dp=>((dF 0),cI,(aY nZ (aF (vv 1) (va1 (vv 0)))))))))))) aZ);have bd:=f6.trans (f7.trans (f8.trans f9));have b2:=f5.trans bd;have bm:=b2.same _ _ nLa gL;have c8:=aq.trans b2;refine qD (fun σ f=>Fx a H9 f/\∃(R:Addr) (g:List (List V)),oG K f R g/\H9 R=none/\g.length<=4/\(∀r∈g,aSx hd r)/\σ=[some (.ref a),some (.ref N),some (.int 4),some (.int m),some (.ref d),some (.int (0+(i:Int))),some (.int (E:Nat)),l7',some (.ref L),some (.ref b),some (.str c.1),some (.str c.2),some (.ref B),some (.ref C),some vp,some (.ref R)]) (λM hM=>?_) ?_
  .dsimp only[kO];refine mL [none,some (.ref a),some (.ref L)] (uR 0 8 (0) (0) rfl rfl rfl rfl (0) (0)) ?_;refine(3312,a,3,f9.st,(by show (0:Int)<4+1/\(4:Int)+1<2 ^ 64;decide),λy aw a0 y0 y1=>?_);have y1:y<4+1:=y1;exists y,455;have ba:=a0.same _ _ nLa bm;refine uK a0.st (n:=y.toNat) (5) (λ_ H y=>∃r,dU K H y r/\aSx hd r) (λf1 O (r,(p,e,hp),h)=>(r,(p,e,O.aG f1.st hp),h)) (λ_ _ gD (r,(p,e,hp),h)=>(r,(p,e,SqT.jK gD hp),h)) (λj f R hj J r=>?_) λD HD ys fD nD gD ly hy=>?_
   .have ap:=J.same _ _ nLa ba;dsimp only[tCB,cX];refine aV6 [none,some (.ref a)] (bJj 1 (0) rfl rfl (.inr (.inl rfl))) (3,L,4,(_,SqL.of ap),aQw J.st (I.map V.str) (by rw[d7];lia) (aCm λb1 ab=>SqL.of (ab.same _ _ nLa ap)) (uN λb1 ab=>SqL.of (ab.same _ _ nLa ap)) (λj H y=>∃k,I[j]?=some k/\jD k y) (λ_ _ h=>h) (λ_ _ _ h=>h) (λj' x b1 R' ex ab r'=>?_) λD' dg zs bx ds cd lz hz=>?_)
    .have(k,hk,rfl):=iR ex;exact(33,a,k,4,ab.st,hks k (v9 hk),λv H2 O hv=>r' v H2 O (k,hk,hv))
    refine(D',3,SqL.of cd,λt9 G9 az s9 g9=>r _ G9 (bx.sm s9) (zs,(t9,4,SqT.of g9),pA (by rw[lz,d7,<-ekd,d7]) λj c' y e1 e2=>?_));have(k,hk,hv):=hz j y e2;rw[<-ekd,j5,e1] at hk;cases hk;exact hv
   have(g,ak,cb):=bEz (ys:=ys) λy hm=>by have(i,hi):=List.mem_iff_getElem?.mp hm;exact hy i y hi
   have ct:=ak.len;exact hM _ _ (a0.trans fD,D,g,(ys,gD,ak),a0.free nD,5,cb,4)
  rintro _ aw ⟨a0,R,g,hrows,nR,lrows,hrk,rfl⟩;exists _,(aC (bCr hu (vv 4) (aQ bB (vv 1) (vv 5)) (aP (aF (vv 9) (aF (vv 14) (va1 (vv 15)))))));have ai:=bd.trans a0;have bf:=f5.trans ai;have am:=f4.trans bf;have al:=fx.trans am;have c4:H R=none:=c8.free nR;refine(333,sz3,λt ae cv W bw=>?_);have U:i<G.length:=by lia
  have b5:=W _ _ (al.same _ _ nN hN);have b6:lZ K aw d es:=hE.fx am fx.st ar λe he=>hs.ne (af e he).2;have a2:=b6.same W;have lE:es.length=i:=by have:=congrArg List.length a4;rw[d7,bAK] at this;lia
  exists 333,N,00,.str G[i],44,SqL.of b5,8,d,3,(aZn.k (k:=Sum.inr G[i]) a2.at_ (by rw[uP];exact aSn (5)))
  .rw[Int.zero_add];exact aX (by rw[j5,b7 U];rfl)
  have tk:G.take (i+1)=G.take i++[G[i]]:=by rw[bBE,b7 U];rfl
  have an:(G.take (i+1)).Nodup:=hn.2.2.sublist (bCX _ _);have c6:∀e∈es,e.n≠G[i]:=λe he z=>by rw[tk,<-a4] at an;exact (List.nodup_append.mp an).2.2 _ (bCK he) _ v7 z
  obtain⟨F,a5⟩:∃F:En,(⟨G[i],.ref t,.ref b,vp,R,⟨hd,pl,g⟩⟩:En)=F:=(3);have ek:putK (enK es) (Sum.inr G[i]) (.ref t)=enK (es++[F]):=by
   rw[aEq λkv ah=>by unfold enK at ah;have(e,he,rfl):=List.mem_map.mp ah;exact λz=>c6 e he (Sum.inr.inj z)]
   unfold enK;rw[bAW,<-a5];rfl
  rw[ek];have nz:iH ae d:=iH.dK a2.at_;have bz:But d ae (L2.upd ae d (.dK (enK (es++[F])))):=But.upd;have cj:aAp K ae F.v F.vh F.vp F.L F.t:=by rw[<-a5];exact(t,4,SqT.of bw,(hI5.tk (ai.tk f5.st)).same W,(hpl.tk (a0.tk f9.st)).same W,hrows.same W)
  refine((al.sm W).upd a9 ar,es++[F],011111,(aO,88,λe he=>?_,λe he=>?_),λe he=>?_,84)
  .rw[bAW,a4,<-a5];show (G.take i++[G[i]]).Nodup;rw[<-tk];exact an
  .rw[w6];show es.length+1<=60;lia
  .rcases List.mem_append.mp he with he|he
   .exact a2.nm e he
   .rw[bBU] at he;rw[he,<-a5];exact hn.2.1 _ (bAR U)
  .rcases List.mem_append.mp he with he|he
   .exact bz.tb nz (a2.tb e he)
   .rw[bBU] at he;rw[he];exact bz.tb nz cj
  .rcases List.mem_append.mp he with he|he
   .exact af e he
   .rw[bBU] at he;rw[he,<-a5];exact((hok,plok,by show g.length<=60;lia,hrk),c4)
  .rw[bAW,a4,tk,<-a5];rfl
 .have(fx,es,l5,l6,l7,l8,l9,aa,ac,a7,a3,a1,S,hE,af,a4,rfl):=p;have lE:es.length=n:=by have:=congrArg List.length a4;rw[d7,bAK] at this;lia
  exact(33,sz2,λt H5 _ s5 g5=>q t d m es H5 (fx.sm s5) (SqT.of g5) a9 m1 (5) (hE.same s5) af (5) (5))
structure EOk (es:List En)(x:Ent):Prop where
 head:HQ (uX es) x.s.q x.hd
 ok:rZ x.hd
 deal:∀c,x.s.sp=.dealt c->c∈x.hd.map (·.1)
structure New (es:List En)(m:Int)(xs:List Ent)(y:Ent):Prop where
 eok:EOk es y
 few:size y.s.q<=41
 fit:∃ts,bR (λi t=>∃x,xs[i]?=some x/\x.s=t) (acs y.a) ts/\Fit es m y.a ts y.s
 dl:∀i c,y.a=.deal i c->c∈y.hd.map (·.1)
def Sent.new (b:xs[i]?=some x)(a:EOk es x)(d:size x.s.q<=20)(h:Sent m i x y):New es m xs y:=by
 cases h with
 |@deal c hc=>exact((a.head,a.ok,λf e=>by cases e;exact bCK hc),bAM d (6),([x.s],.cons (x,b,4) .nil,.deal),λi f e=>by cases e;exact bCK hc)
 |copy=>exact((a.head,a.ok,λc e=>by cases e),bAM d (6),([x.s],.cons (x,b,4) .nil,.copy),λi c e=>by cases e)
 |bring hm=>exact((a.head,a.ok,λc e=>by cases e),bAM d (6),([x.s],.cons (x,b,4) .nil,.bring hm),λi c e=>by cases e)
def aHe (e:lost ns sp=.dealt c):c∈ns:=by
 cases sp with
 |dealt d=>
  by_cases h:d∈ns
  .rw[aIx h] at e;cases e;exact h
  .rw[aEz h] at e;cases e
 |_=>cases e
def aUc {s:Sns}(h:s.w=true):s=(true,s.q,s.sp):=by cases s;cases h;rfl
def rZ.sub (h:rZ hd)(a:Some hd hd'):rZ hd':=((a.nd,a.ne,bAM a.le h.1.2.2),λc b=>h.2 c (a.mem c b))
def bAj:∀{hd:Hdr},fs.length=hd.length->(List.zipWith (λn c=>(n,c.2,)) fs hd:Hdr).map (·.1)=fs:=by
 induction fs with
 |nil=>intro hd _;cases hd <;> rfl
 |cons n fs ih=>
  intro hd h;cases hd with
  |nil=>cases h
  |cons c hd=>rw[List.zipWith_cons_cons,bAE,ih (by simpa using h)]
def bIy {f:List Str}{hd:Hdr}{c:Str × Str}(h:c∈(List.zipWith (λn c=>(n,c.2,)) f hd:Hdr)):c.1∈f/\∃d∈hd,c.2=d.2:=by
 have(k,a):=List.mem_iff_getElem?.mp h;rw[bCP] at a;cases b:f[k]? with
 |none=>rw[b] at a;cases a
 |some n=>
  cases e:hd[k]? with
  |none=>rw[b,e] at a;cases a
  |some d=>rw[b,e] at a;cases a;exact(v9 b,d,v9 e,4)
def Aln.new (o:xs[i]?=some x)(a:EOk es x)(z:size x.s.q<=20)(v:x.s.w=true)(h:Aln i x y)(l:size y.s.q<=41):New es m xs y:=by
 have hs:=aUc v;have g:=a.ok.1;cases h with
 |whr ht=>exact((.mk1 rfl a.head (.whr ht) g,a.ok,a.deal),l,([x.s],.cons (x,o,4) .nil,by rw[hs];exact .whr),λi c e=>by cases e)
 |@keep hd' hS=>have j:=HH.keep (hs:=uX es) (q:=x.s.q) (aFb g.1 hS.mem);rw[zip_fst_snd] at j;exact((.mk1 rfl a.head j (a.ok.sub hS).1,a.ok.sub hS,λc e=>aHe e),l,([x.s],.cons (x,o,4) .nil,by rw[hs];exact .keep),λi c e=>by cases e)
 |@nmd fs hl nd hn=>
  have r:Good (List.zipWith (λn c=>(n,c.2,)) fs x.hd):=by
   exists by rw[bAj hl];exact nd,8
   .rw[bBQ,hl,Nat.min_self];exact g.2.1
   .rw[bBQ,hl,Nat.min_self];exact g.2.2
  have f:∀c,x.s.sp=.dealt c->∃k,look x.hd c=some k:=λc e=>by have(d,p,rfl):=List.mem_map.mp (a.deal c e);exact(_,jP g.1 p)
  refine((.mk1 rfl a.head (.nmd hl) r,(r,λc t=>?_),λc e=>?_),l,([x.s],.cons (x,o,4) .nil,by rw[hs];exact .nmd a.head z hl f),λi c e=>by cases e)
  .have(u,d,p,e):=bIy t;exact(hn _ u,by rw[e];exact (a.ok.2 d p).2)
  .rw[bAj hl];have e:=e;cases b:x.s.sp with
   |dealt d=>rw[b] at e;have(k,j):=f d b;have A:=(List.getElem?_eq_some_iff.mp (xC j).1).1;have e:=e;cases e;rw[bAB,b7 (5)];exact bAR _
   |_=>rw[b] at e;cases e
 |cut lk nd=>exact((.mk1 rfl a.head (.first lk nd) g,a.ok,a.deal),l,([x.s],.cons (x,o,4) .nil,by rw[hs];exact .cut),λi c e=>by cases e)
 |first lk nd hg=>exact((.mk1 rfl a.head (.first lk nd) g,a.ok,a.deal),l,([x.s],.cons (x,o,4) .nil,by rw[hs];exact .first hg),λi c e=>by cases e)
def Gath.new (n:xs[i]?=some x)(l:EOk es x)(b:size x.s.q<=20)(o:x.s.w=true)(h:Gath i x y):New es m xs y:=by
 have hs:=aUc o;have g:=l.ok.1;have k:∀{b d f},Grp x.hd b d f->HQ (uX es) (.group x.s.q (b.map (·.1)) d) (b++(d.map Sm.new).zip f):=λ{b d f} a=>by have h:=HH.group (hs:=uX es) (q:=x.s.q) (aFb g.1 a.mem) a.sums;rw[zip_fst_snd] at h;exact .mk1 rfl l.head h a.ok.1
 have j:∀{b:Hdr} {d f c},lost (b.map (·.1)) x.s.sp=.dealt c->c∈(b++((d:List Sm).map Sm.new).zip (f:List Str):Hdr).map (·.1):=λe=>by rw[bAW];exact bCF _ (aHe e)
 cases h with
 |part a=>exact((k a,a.ok,λc e=>j e),by simp only[size];lia,([x.s],.cons (x,n,4) .nil,by rw[hs];exact .part),λi c e=>by cases e)
 |group a hg=>exact((k a,a.ok,λc e=>j e),by simp only[size];lia,([x.s],.cons (x,n,4) .nil,by rw[hs];exact .group hg),λi c e=>by cases e)
def bDj (h:look hd n=some k):n∈hd.map (·.1):=List.mem_map.mpr (_,v9 (xC h).1,4)
def bAx:∀{ps:List (Str × Str)},prd o ps=.dealt c->(∃p∈ps,c=p.1)\/(o=.dealt c/\c∉ps.map (·.2)):=by
 intro a
 induction a with
 |nil=>rintro h;exact .inr (h,bAH)
 |cons p ps ih=>
  rintro h;rw[prd] at h;by_cases e:o=.dealt p.2
  .rw[if_pos e] at h;cases h;exact .inl (p,v7,4)
  .rw[if_neg e] at h;rcases ih h with⟨q,d,b⟩|⟨h1,h2⟩
   .exact .inl (q,j8 _ d,b)
   .refine .inr (h1,λhm=>?_);rw[bAE] at hm;rcases List.mem_cons.mp hm with rfl|hm
    .exact e h1
    .exact h2 hm
def aYo (h:jn3 s o ps=some sp):sp=s:=by
 unfold jn3 at h
 split at h
 .split at h
  .cases h;rfl
  .cases h
 .split at h
  .cases h;rfl
  .cases h
 .cases h
def Both.new (Q:xs[i]?=some x)(M:xs[j]?=some z)(l:EOk es x)(E:EOk es z)(sx:size x.s.q<=20)(sz:size z.s.q<=20)(O:x.s.w=true)(h:Both i j x z y):New es m xs y:=by
 have((A,L,rfl,a,((N,f),F,I),P,R),n,u,J):=h;have r:=aUc O;have t:=aUc n;have g:=l.ok.1;have B:Good (x.hd++z.hd.filter λc=>!decide (c.1∈A.map (·.2))):=(J,by rw[w6];have:=g.2.1;lia,u);have v:∀p∈A,p.1∈x.hd.map (·.1):=λp v=>by have(k,K):=List.mem_iff_getElem?.mp v;have(S,_,H,_):=bQ f K;exact bDj H
 have b:∀{c},c∈x.hd.map (·.1)->c∈(x.hd++z.hd.filter λc=>!decide (c.1∈A.map (·.2)):Hdr).map (·.1):=λh=>by rw[bAW];exact bCF _ h
 refine((.mk2 rfl l.head E.head (.join f F I) B,(B,λc hc=>?_),λc e=>?_),by simp only[size];lia,([x.s,z.s],.cons (x,Q,4) (.cons (z,M,4) .nil),by rw[r,t];exact .join a),λi c e=>by cases e)
 .rcases List.mem_append.mp hc with hc|hc
  .exact l.ok.2 c hc
  .exact E.ok.2 c (List.mem_filter.mp hc).1
 .have e:=e;subst e;unfold jnd at a;by_cases C:z.s.sp=.copied
  .rw[if_pos C] at a;exact b (l.deal c (bAL a))
  rw[if_neg C] at a;by_cases D:x.s.sp=.copied
  .rw[if_pos D] at a;rcases bAx (bAL a) with⟨p,o,rfl⟩|⟨h1,h2⟩
   .exact b (v p o)
   .have(d,G,rfl):=List.mem_map.mp (E.deal c h1);rw[bAW];exact bAV _ (bCK (List.mem_filter.mpr (G,by rw[j9 h2];rfl)))
  rw[if_neg D] at a;exact b (l.deal c (aYo a).symm)
structure Chain (es:List En)(m:Int)(xs:List Ent):Prop where
 new:∀(k:Nat) x,xs[k]?=some x->New es m (xs.take k) x
 few:∀x∈xs,size x.s.q<=20
def Chain.nil:Chain es m []:=(λk x h=>by simp at h,λx h=>by cases h)
def Chain.snoc (h:Chain es m xs)(hn:New es m xs y)(d:size y.s.q<=20):Chain es m (xs++[y]):=by
 refine(λk x a=>?_,λx hx=>?_)
 .by_cases c:k<xs.length
  .rw[bBX c] at a;rw[List.take_append_of_le_length (5)];exact h.new k x a
  .have b:=(List.getElem?_eq_some_iff.mp a).1;rw[w6,bBG] at b;have e:k=xs.length:=by lia
   subst e;rw[bBF (j6 _),Nat.sub_self] at a;cases a;rw[List.take_left];exact hn
 .rcases List.mem_append.mp hx with hx|hx
  .exact h.few x hx
  .rw[List.mem_singleton.mp hx];exact d
def Chain.eok (h:Chain es m xs){k:Nat}(a:xs[k]?=some x):EOk es x:=(h.new k x a).eok
def Chain.plan (h:Chain es m xs):Plan es m (xs.map (·.a)) (xs.map (·.s)):=by
 have p:∀{k i:Nat} {x:Ent},(xs.take k)[i]?=some x->i<k/\xs[i]?=some x:=λ{k i x} e=>by
  have o:=(List.getElem?_eq_some_iff.mp e).1;rw[bAK] at o;have d:i<k:=by lia
  rw[bEE d] at e;exact(d,e)
 refine(by rw[d7,d7],λk a b i o=>?_,λk a s b g=>?_)
 .rw[j5] at b;have(x,c,rfl):=Option.map_eq_some_iff.mp b;have(q,l,_):=(h.new k x c).fit;have(n,f):=List.mem_iff_getElem?.mp o;have(t,_,y,j,_):=bQ l f;exact (p j).1
 .rw[j5] at b g;have(x,c,rfl):=Option.map_eq_some_iff.mp b;rw[c] at g;cases g;have f:=h.new k x c;have(q,l,r):=f.fit;refine(q,x.hd,l.imp λi t (y,j,e)=>?_,r,f.eok.head,h.few x (v9 c),f.dl);rw[j5,(p j).2,<-e];rfl
def bAm (J:Bool->Hp->Prop)(d:∀R:Bool->Hp->Prop,(∀b H',J b H'->R b H')->tt σ H R)(c:∀H',J true H'->A D σ H')(a:∀H',J false H'->B D σ H'):aGw tt A B D σ H:=
 d _ λb H' h=>by
  cases b with
  |true=>exact bI (c H' h)
  |false=>exact aU (a H' h)
def yR {α:Type}{xs:List α}{x:α}(h:xs[xs.length - 1]?=some x):atI xs (-1)=some x:=by
 have a:0<xs.length:=by have:=(List.getElem?_eq_some_iff.mp h).1;lia
 unfold atI ixN;rw[if_neg (6),if_pos (5)];show xs[((xs.length:Int)+-1).toNat]?=_;rw[show ((xs.length:Int)+-1).toNat=xs.length - 1 by lia];exact h
abbrev spW (t1 t2 t3:Addr):List (Key × V):=[(Sum.inr "copies",.ref t1,),(Sum.inr "keys",.ref t2,),(Sum.inr "spans",.ref t3,)]
def bHk:((spW t1 t2 t3).map (·.1)).Nodup:=by show ([Sum.inr "copies",Sum.inr "keys",Sum.inr "spans"]:List Key).Nodup;decide +kernel
def bCy (h:aAu K H v pl):∃pv xs kw lv,v=.ref pv/\SqT K H pv xs/\atI xs 0=some (.str kw)/\atI xs (-1)=some lv/\∀t1 t2 t3,∃tw,nP (spW t1 t2 t3) (Sum.inr kw)=some (.ref tw)/\∀G,SqT K G t1 [.str "copied"]->SqT K G t2 [.str "dealt",lv]->SqT K G t3 [.str "loose"]->oU K G (.ref tw) (aCx pl):=by
 have d:∀{a b:Str},a≠b->¬ ((Sum.inr a:Key)=Sum.inr b):=λh z=>h (Sum.inr.inj z);cases pl with
 |copies=>have(a,rfl,c):=h;exact(a,_,"copies",3,c,at0 _ _,yR rfl,λt1 t2 t3=>(t1,mY rfl,λG f _ _=>(t1,4,f)))
 |keys n=>have(a,rfl,c):=h;refine(a,_,"keys",.str n,4,c,at0 _ _,yR rfl,λt1 t2 t3=>(t2,8,λG _ i _=>(t2,4,i)));rw[mW (d (0))];exact mY rfl
 |spans n h0 cs=>have(a,g,rfl,c,_):=h;refine(a,_,"spans",g,4,c,at0 _ _,yR rfl,λt1 t2 t3=>(t3,8,λG _ _ e=>(t3,4,e)));rw[mW (d (0)),mW (d (0))];exact mY rfl
def aYc (j:(es.map (·.n)).Nodup)(g:e∈es)(d:xW m e.t):New es m xs (.made "scan" (.table e.n),(true,.table e.n,aCx e.t.pl),e.t.hd):=by
 refine((.mk0 rfl (.table ?_) d.hd.1,d.hd,λc h=>?_),(by show 1<=41;decide),([],.nil,.scan g),λi c h=>by cases h)
 .unfold uX;rw[bDe j g];rfl
 .have b:=d.pl;cases a:e.t.pl with
  |keys n=>rw[a] at b;have h:=h;rw[a] at h;cases h;have(_,k,f):=b;exact wK f
  |_=>have h:=h;rw[a] at h;cases h
def bG8 (h:IsQ K H v q):∃pq kw xs,v=.ref pq/\SqT K H pq (.str kw::xs)/\(kw≠"group"\/kw = "group"/\∃v t u k ns ss,xs=[v,.ref t,u]/\SqT K H t (ns.map V.str)/\q=.group k ns ss):=by
 cases h with
 |table a _=>exact(13,a,.inl (0))
 |whr a _ _=>exact(13,a,.inl (0))
 |keep a _ _=>exact(13,a,.inl (0))
 |nmd a _ _=>exact(13,a,.inl (0))
 |join a _ _ _=>exact(13,a,.inl (0))
 |first a _ _ _=>exact(13,a,.inl (0))
 |group a _ c _=>have((t,e,rfl,b,d),_):=c;rw[qZ d] at b;exact(13,a,.inr (40,t,013,b,4))
def Aln.few (h:Aln i x y)(b:IsE K H v y)(hz:size x.s.q<=20):size y.s.q<=41:=by
 cases h with
 |whr _=>
  have(_,_,_,_,_,_,_,_,a,_):=b;cases a with
  |whr _ _ c=>have:=c.2.2;simp only[size];lia
 |_=>simp only[size];lia
def aHs (g:xs[i]?=some x)(a:EOk es x)(j:size x.s.q<=20)(b:x.s.w=false)(f:gth x.s.q x.s.sp):New es m xs (.merge i,(true,x.s.q,x.s.sp),x.hd):=by
 have d:x.s=(false,x.s.q,x.s.sp):=by cases h:x.s;rw[h] at b;cases b;rfl
 exact((a.head,a.ok,a.deal),bAM j (6),([x.s],.cons (x,g,4) .nil,by rw[d];exact .merge f),λi c e=>by cases e)
inductive aTq (K:bGC)(vs:List V)(H:Hp)(Q:VK)(E_:XK):Prop
 |mk (a D d N:Addr)(m:Int)(us:List V)(xs:List Ent)(es:List En)(ns:List Str)(_:vs=[.ref a,.ref D,.ref d,.ref N,.int m])(_:lJ H a)(_:H D=some (.lst us))(_:D≠a)(_:us.length<=60)(_:bR (IsE K H) us xs)(_:Chain es m xs)(_:lZ K H d es)(_:d≠a)(_:(∀e∈es,xW m e.t))(_:1<=es.length)(_:1<=m)(_:m<=6)(_:H N=some (.lst (ns.map V.str)))(_:N≠a)(_:xR ns)(_:∀v H',Fx a H H'->((v=.non/\xs≠[])\/∃y,IsE K H' v y/\New es m xs y/\(xs=[]->size y.s.q<=20))->Q v H')
def aN1 (T:!Txt)(aR:!Ok 1 "_law_next" n7 jF)(bq:!Ok 2 "_law_sending" u9 (aMw K))(bu:!Ok 4 "_law_alone" o4 (aIg K))(c4:!Ok 4 "_law_gathered" o4 (aPg K))(bs:!Ok 22 "_law_both" bQA (aMu K)) :
  !Ok 23 "_law_act" o5 (aTq K):=by
 refine Ok.ofW T.aPl gV λZ H vs Q hr h=>?_;have(a,D,d,N,m,B,xs,es,ns,rfl,hs,hD,a5,bw,hx,hc,hE,ad,bn,c1,m1,m6,hN,a6,hn,q):=h;have hu:=xP hr;have hU:=hr.units;have a0:=gV.nd;exists _,(aB (bU 5 (aY aR (aF (vv 0) (va1 aA)))) (aB (bL (VW.pt (dZ (cL bZ (vv 5) aA) (dO (cL (bAr (bBI (bBW _ 64) hU)) (vv 1) (cU cW))))) (aB (bU 6 (aQ bB (aJ (aSm rfl) (7) T.aC4 zL (va1 (vv 2))) (aY aR (aF (vv 0) (va1 (aJ aH5 (7) T.cH bM (va1 (vv 2)))))))) aZ) aV) aZ));have lx:=hx.len;refine(3,a,0o10,4,hs,6,λF H1 f1 w0 w1=>?_);dsimp only[cF];have au:=f1.same _ _ a5 hD;refine jE (fun σ W=>Same H1 W/\xs≠[]/\σ=[some (.ref a),some (.ref D),some (.ref d),some (.ref N),some (.int m),some (.int F),none,none,none,none,none,none,none,none,none]) (λM hM=>?_) ?_
 .refine bDo (S:=aGw _ _ _) [some (.ref a),some (.ref D),some (.ref d),some (.ref N),some (.int m),some (.int F),none,none,none,none,none,none,none,none,none] rfl ?_;refine bAm (λb W=>Same H1 W/\(b=false->xs≠[])) (λR r=>?_) (λH2 (s2,_)=>?_) (by rintro H2 ⟨s2,h2⟩;exact hM _ _ (s2,h2 rfl,4))
  .exists 023;cases decide (V.int F=V.int 0) with
   |true=>exact bI (r _ _ (Same.refl _,λz=>by cases z))
   |false=>refine aU (3,sz0,λp3 H3 f3 s3 g3=>(D,p3,B,44,SqL.of (s3 _ _ au),SqL.of g3,3,r _ _ (s3,λz e=>?_)));subst e;cases hx;cases z
  .have U:=f1.sm s2;have bx:TK K H H2:=U.tk hs;have al:=U.same _ _ ad hE.at_;have lk:(enK es).length=es.length:=uP;have c5:=hE.few;refine(3,d,_,es.map (·.n),4,al,by unfold enK;rw[bBN,bBN];rfl,5,λp H3 ss fp s3 a2 g3=>?_);have o:=U.sm s3;have b3:=a2.length_eq;rw[d7] at b3;refine(33,d,3,s3 _ _ al,a,3,o.st,(by show (0:Int)<((enK es).length:Int)/\((enK es).length:Int)<2 ^ 64;lia),λk H4 f4 k0 k1=>?_);have k1:k<((enK es).length:Int):=k1;have E:=o.trans f4;have bk:p≠a:=U.st.ne fp;have(v,hv,b6):=at_of (xs:=ss.map V.str) k0 (by rw[d7];lia);have(nm,be,rfl):=List.mem_map.mp b6;have(e,he,rfl):=List.mem_map.mp (a2.mem_iff.mp be);exists p,012,SqL.of (f4.same _ _ bk g3),hv;have as:TK K H H4:=E.tk hs;have b5:=E.same _ _ ad hE.at_;have ax:∀G,G d=some (.dK (enK es))->aB2 G d (.str e.n) (some e.v):=λG g=>by have:=aB2.k (k:=(Sum.inr e.n:Key)) g;rw[aT2 hE.nd he] at this;exact this
   have(t,et,ht,bo,b4,_):=hE.tb e he;have(pv,ar,kw,lv,b2,ay,ab,bj,ae):=bCy b4;have a0:=gV.nd;exists _,(aB (bU 7 (aQ aK (xY hu (vv 2) (vv 6) (λ_ _=>rfl)) aA)) aZ);exists 33,d,3,ax _ b5,t,_,1,_,et,4,as _ _ ht,at1 _ _ _;rw[b2];have a0:=gV.nd;exists _,(aB (bU 8 (xY hu (bCp (aE8 aL (aP (va1 aL)) (aE8 aL (aP (aF aL (va1 (aQ aK (vv 7) (bBw aPy aA))))) (aE8 aL (aP (va1 aL)) bB2))) rfl rfl (9) (6)) (aQ aK (vv 7) aA) (λ_ _=>rfl))) aZ);refine λpd a9=>?_;have s5:Same H4 (upd H4 pd (.dK [])):=bJ a9 _;have g5:upd H4 pd (.dK []) pd=some (.dK []):=aO;generalize upd H4 pd (.dK [])=H5 at s5 g5;have bi:TK K H H5:=λ_ _ e=>s5.aG (as _ _ e);refine(sz1,λt1 G1 bd j1 aa=>(33,pv,ar,_,lv,44,j1.aG (bi _ _ ay),bj,sz2,λI G2 a4 j2 C=>(sz1,λt3 G3 c0 j3 bc=>?_)));have ag:=j1.trans (j2.trans j3);have ah:=ag _ _ g5;exists ah,spW t1 I t3,4,(by show 3<=15;decide);rw[aH1 bHk];have bz:But pd G3 (upd G3 pd (.dK (spW t1 I t3))):=But.upd;have nz:iH G3 pd:=iH.dK ah;have g6:upd G3 pd (.dK (spW t1 I t3)) pd=some (.dK (spW t1 I t3)):=aO;have a7:Fx a H (upd G3 pd (.dK (spW t1 I t3))):=(E.sm (s5.trans ag)).upd (E.free a9) (E.st.ne a9);have Y:TK K G3 (upd G3 pd (.dK (spW t1 I t3))):=λ_ _ e=>bz.aG nz e;generalize upd G3 pd (.dK (spW t1 I t3))=H6 at g6 a7 Y bz;have aq:TK K H H6:=a7.tk hs;have(tw,bf,l):=ae t1 I t3;have ai:oU K H6 (.ref tw) (aCx e.t.pl):=l H6 (Y _ _ ((j2.trans j3).aG (SqT.of aa))) (Y _ _ (j3.aG (SqT.of C))) (Y _ _ (SqT.of bc));exists 3,pv,ar,12,aq _ _ ay,ab,pd,.ref tw,4,(by have:=aB2.k (k:=(Sum.inr kw:Key)) g6;rw[bf] at this;exact this);exists _,(aC (aH (aP (aF (aP (aF aL (va1 (vv 6)))) (aF eO (aF (aP (aF aL (va1 (vv 6)))) (aF (aQ aK (xY hu (vv 2) (vv 6) (λ_ _=>rfl)) aA) (va1 (vv 8)))))))));refine(3,sz2,λt5 G5 bv i5 b9=>(3,sz2,λt6 G6 c2 i6 b1=>?_));have az:=a7.same _ _ ad hE.at_;refine(33,d,3,ax _ (i6 _ _ (i5 _ _ az)),t,_,0,_,et,4,(i5.trans i6).aG (aq _ _ ht),at0 _ _,3,sz5,λt7 G7 bt i7 ba=>?_);have am:=i5.trans (i6.trans i7);have an:=a7.sm am;have ap:=hE.nm e he;exact q _ G7 an (.inr ((.made "scan" (.table e.n),(true,.table e.n,aCx e.t.pl),e.t.hd),(t7,013,SqT.of ba,.made ((i6.trans i7).aG (SqT.of b9)) .scan (.table ap),.table (i7.aG (SqT.of b1)) ap,bo.tk (an.tk hs),dU.same am ai),aYc hE.nd he (bn e he),λ_=>by show 1<=20;decide))
 rintro _ H2 ⟨s2,hne,rfl⟩;have U:=f1.sm s2;have av:=s2 _ _ au;have bp:1<=B.length:=by
  cases xs with
  |nil=>exact absurd rfl hne
  |cons _ _=>rw[lx];exact bDI ..
 have a0:=gV.nd;exists _,(aB (bU 9 (cA qO (cA qO (aJ aM (7) T.cH bM (va1 (vv 1))) aA) (aY aR (aF (vv 0) (va1 (aJ (aH8 rfl) (7) T.bFy aYl (aF (aJ aM (7) T.cH bM (va1 (vv 1))) (va1 aA)))))))) aZ);refine(3,D,B,4,.inl (SqL.of av),1233,D,B,4,.inl (SqL.of av),03,a,3,U.st,8,λk H3 f3 k0 k1=>(128))
 .show (0:Int)<(if (4:Int)<((B.length:Nat):Int) then 4 else ((B.length:Nat):Int))/\(if (4:Int)<((B.length:Nat):Int) then 4 else ((B.length:Nat):Int))<2 ^ 64
  split <;> lia
 have kl:k<B.length:=by
  have k1:k<(if (4:Int)<((B.length:Nat):Int) then 4 else ((B.length:Nat):Int)):=k1
  split at k1 <;> lia
 obtain⟨i,ak,bg⟩:∃i:Nat,((B.length:Nat):Int) - 1 - k=(i:Int)/\i<B.length:=((((B.length:Nat):Int) - 1 - k).toNat,55);have o:=U.trans f3;have b0:TK K H H3:=o.tk hs;have a3:=o.same _ _ a5 hD;have a1:=b7 bg;have(x,O,af):=bQ hx a1;have ox:=hc.eok O;have sx:=hc.few x (v9 O);have X:=af.tk b0;have(p,va,vq,vh,vs,eu,hp,h2,h3,h4,h5):=id X;have a0:=gV.nd;exists _,(aB (nJ (aQ bB (vv 1) (vv 9)) (iY rfl (aW (cP 10) (aW (cP 11) (aW (cP 12) (aW (cP 13) (aW (cP 8) cV))))))) aZ);exists 33,D,B,12,SqL.of a3,(by show atI B (((B.length:Nat):Int) - 1 - k)=some B[i];rw[ak];exact aX a1),p,_,eu,hp,40303030312;dsimp only[List.set];exists _,(aB (bL (VW.pt (dZ (cL aM9 (vv 5) aA) (dO (VW.pt (jH (cJ (cD (vv 11))) (iU (cL aM9 (vv 5) aA))))))) (aC (aH (aY bq (aF (vv 0) (aF (vv 1) (aF (vv 9) (va1 (vv 4)))))))) aV) aZ);refine bDo (S:=nO _ _) [some (.ref a),some (.ref D),some (.ref d),some (.ref N),some (.int m),some (.int F),none,none,some vs,some (.int (i:Nat)),some va,some (.bl x.s.w),some vq,some vh,none] (by rw[<-ak]) ?_;have J:∀{v G y},Fx a H3 G->IsE K G v y->New es m xs y->Q v G:=λf h1 h2=>q _ _ (o.trans f) (.inr (_,h1,h2,λz=>absurd z hne));refine jE (fun σ W=>H3=W/\σ=[some (.ref a),some (.ref D),some (.ref d),some (.ref N),some (.int m),some (.int F),none,none,some vs,some (.int (i:Nat)),some va,some (.bl x.s.w),some vq,some vh,none]) (λM hM=>?_) ?_
 .refine bAm (λb W=>H3=W) (λR r=>?_) (λH4 e=>?_) (λH4 e=>?_)
  .refine(3123,aAr (λ_=>r _ _ rfl) λ_=>(338));cases x.s.w with
   |true=>exact aU (r _ _ rfl)
   |false=>exact bI (3123,r _ _ rfl)
  .subst e;exact(3333,a,D,B,i,B[i],x,m,4,o.st,a3,a1,X,ox.ok,m1,m6,λv W y f' hy hS=>J f' hy (hS.new O ox sx))
  .exact hM _ _ (e,4)
 rintro _ _ ⟨rfl,rfl⟩;have a0:=gV.nd;exists _,(aB (bL (cJ (cD (vv 11))) (aB (bU 14 (gY fU (aQ aK (vv 8) aA) (aP (aF aL (va1 aL))) (1))) aZ) aV) aZ);cases hw:x.s.w with
 |false=>
  refine(33,bI ?_);have(ps,rfl,A):=id h5;have(pq,kw,c3,rfl,aw,ab):=bG8 h3;refine jE (fun σ W=>Same H3 W/\∃b,(b=true->gth x.s.q x.s.sp)/\(b=false->x.s.sp≠.copied/\∀h,x.s.sp≠.at_ h)/\σ=[some (.ref a),some (.ref D),some (.ref d),some (.ref N),some (.int m),some (.int F),none,none,some (.ref ps),some (.int (i:Nat)),some va,some (.bl false),some (.ref pq),some vh,some (.bl b)]) (λM hM=>?_) ?_
  .cases l:x.s.sp with
   |copied=>rw[l] at A;exact (rd0 rfl A (sz2,λI G2 a4 k2 C=>(I,3,.inr (SqT.of C),44,hM _ _ (k2,true,λ_=>by rw[l];trivial,λz=>(by cases z),4))))
   |at_ h=>rw[l] at A;exact (rd0 rfl A (sz2,λI G2 a4 k2 C=>(I,3,.inr (SqT.of C),44,hM _ _ (k2,true,λ_=>by rw[l];trivial,λz=>(by cases z),4))))
   |loose=>rw[l] at A;exact (rd0 rfl A (sz2,λI G2 a4 k2 C=>(I,3,.inr (SqT.of C),44,hM _ _ (k2,false,λz=>(by cases z),λ_=>by rw[l];exact(λz=>(by cases z),λ_ z=>(by cases z)),4))))
   |dealt c=>rw[l] at A;exact (rd0 rfl A (sz2,λI G2 a4 k2 C=>(I,3,.inr (SqT.of C),44,hM _ _ (k2,false,λz=>(by cases z),λ_=>by rw[l];exact(λz=>(by cases z),λ_ z=>(by cases z)),4))))
  rintro _ H4 ⟨s4,b,hb,hnb,rfl⟩;have a0:=gV.nd;exists _,(aB (bU 14 (aS6 (vv 14) (dN (dI (lW bZ (aQ aK (vv 12) aA) aL) (dI (lW bZ (aQ aK (vv 8) aA) aL) (dN (gY fU (aQ aK (vv 8) aA) (aQ aK (vv 12) aA) (1)))))))) aZ);refine jE (fun σ W=>H4=W/\∃b,(b=true->gth x.s.q x.s.sp)/\σ=[some (.ref a),some (.ref D),some (.ref d),some (.ref N),some (.int m),some (.int F),none,none,some (.ref ps),some (.int (i:Nat)),some va,some (.bl false),some (.ref pq),some vh,some (.bl b)]) (λM hM=>?_) ?_
  .cases b with
   |true=>exact(33,bI (hM _ _ (4,true,λ_=>hb rfl,4)))
   |false=>
    have no:=hM _ H4 (4,false,λz=>(by cases z),4);have(n1,n2):=hnb rfl;refine(33,aU (rd0 rfl (s4.aG aw) (438)));rcases ab with hk|⟨rfl,v,t,u,k,bb,ss,rfl,ht,eq⟩
    .rw[j9 λz=>hk (V.str.inj z)];exact aU no
    .refine bI ?_;cases l:x.s.sp with
     |copied=>exact absurd l n1
     |at_ h=>exact absurd l (n2 h)
     |loose=>rw[l] at A;exact (rd0 rfl (s4.aG A) (43,aU no))
     |dealt c=>rw[l] at A;refine (rd0 rfl (s4.aG A) (43,bI (rd1 rfl (s4.aG A) (rd2 rfl (s4.aG aw) (t,3,.inr (s4.aG ht),4,lU,8)))));rw[if_neg (by decide:¬ (false=true)),lV];exact hM _ _ (4,decide (c∈bb),λz=>by rw[l,eq];exact(13,of_decide_eq_true z),4)
  clear hb hnb b;rintro _ _ ⟨rfl,b,hb,rfl⟩;exists _,(aC (aH (aQ bB (cU (aF mG (va1 (aP (aF (aP (aF aL (va1 (vv 9)))) (aF eO (aF (vv 12) (aF (vv 13) (va1 (vv 8)))))))))) (bF gU (7) T.rQ nG (va1 (vv 14))))));refine(3,sz2,λt1 G1 bd k1 aa=>(333,sz5,λI G2 a4 k2 C=>(sz2,λL G3 fL k3 gL=>?_)));have a8:=s4.trans (k1.trans (k2.trans k3));have aj:=Fx.of o.st a8;cases b with
  |false=>exact(3,.inr (3,L,012,SqL.of gL,aX (j:=0) rfl,q _ _ (o.trans aj) (.inl (4,hne))))
  |true=>refine(3,.inr (3,L,012,SqL.of gL,aX (j:=1) rfl,8));exact J (y:=(.merge i,(true,x.s.q,x.s.sp),x.hd)) aj (I,013,k3.aG (SqT.of C),.merge ((k2.trans k3).aG (SqT.of aa)),h3.same a8,h4.same a8,ps,4,a8.aG A) (aHs O ox sx hw (hb rfl))
 |true=>
  refine(33,aU (_,(aB (bL (fP bZ (vv 5) aA (tQ _)) (aC (aH (jG (bu.mono (6)) hr (7) (aF (vv 0) (aF (vv 1) (aF (vv 9) (aF (vv 3) cW))))))) aV) aZ),0238));cases decide (V.int F=V.int 4) with
  |true=>exact bI (3333,a,D,N,B,i,B[i],x,ns,4,o.st,a3,a1,X,ox.ok,ox.deal,a6,o.same _ _ a6 hN,hn,λv W y f' hy hS=>J f' hy (hS.new O ox sx hw (hS.few hy sx)))
  |false=>
  refine aU (_,(aB (bL (fP bZ (vv 5) aA (tQ _)) (aC (aH (jG (c4.mono (6)) hr (7) (aF (vv 0) (aF (vv 1) (aF (vv 9) (aF (vv 3) cW))))))) aV) aZ),0238);cases decide (V.int F=V.int 5) with
  |true=>exact bI (3333,a,D,N,B,i,B[i],x,ns,4,o.st,a3,a1,X,ox.ok,a6,o.same _ _ a6 hN,hn,λv W y f' hy hS=>J f' hy (hS.new O ox sx hw))
  |false=>
  refine aU (_,(aC (aH (jG (bs.mono (6)) hr (7) (aF (vv 0) (aF (vv 1) (aF (vv 9) (aF (jG (aR.mono (6)) hr (7) (aF (vv 0) (aF (aJ aM (7) T.cH bM (aF (vv 1) cW)) cW))) cW))))))),33333,D,B,4,.inl (SqL.of a3),a,3,o.st,(55),λj0 H4 f4 c6 br=>?_);obtain⟨j,rfl⟩:∃j:Nat,j0=j:=(j0.toNat,5);have bh:j<B.length:=by lia
  have ao:=b7 bh;have(z,ac,bm):=bQ hx ao;have oz:=hc.eok ac;have sz:=hc.few z (v9 ac);have E:=o.trans f4;refine(a,D,B,i,j,B[i],B[j],x,z,4,f4.st,E.same _ _ a5 hD,a5,a1,ao,af.tk (E.tk hs),bm.tk (E.tk hs),ox.ok,oz.ok,sx,sz,λv W f' hv=>?_);rcases hv with rfl|⟨y,hy,hB⟩
  .exact q _ _ (E.trans f') (.inl (4,hne))
  .exact J (f4.trans f') hy (hB.new O ac ox oz sx sz hw)
def aVf (f:xs[i]?=some x)(b:EOk es x)(g:size x.s.q<=20)(a:x.s.w=false)(hm:1<=m):New es m xs (.bring i 0,(false,x.s.q,.at_ 0),x.hd):=by
 have d:x.s=(false,x.s.q,x.s.sp):=by cases h:x.s;rw[h] at a;cases a;rfl
 exact((b.head,b.ok,λc e=>by cases e),bAM g (6),([x.s],.cons (x,f,4) .nil,by rw[d];exact .bring (5)),λi c e=>by cases e)
inductive aIi (K:bGC)(vs:List V)(H:Hp)(Q:VK)(E_:XK):Prop
 |mk (S:Addr)(zs:List Int)(_:vs=[.ref S,.int 4,.int 13])(_:SqL K H S (zs.map V.int))(_:zs.length<=63)(_:∀t a N m d D us xs es H',Same H H'->SqT K H' t [.ref a,.ref N,.int m,.ref d,.ref D]->H' D=some (.lst us)->bR (IsE K H') us xs->Chain es m xs->lZ K H' d es->(∀e∈es,xW m e.t)->1<=m->m<=6->1<=xs.length->xs.length<=16->Q (.ref t) H')
def aF8 (T:!Txt)(aR:!Ok 1 "_law_next" n7 jF)(b2:!Ok 2 "_law_begin" v6 (aNt K))(b3:!Ok 2 "_law_names" n7 aZ3)(b0:!Ok 3 "_law_town" w7 (aL5 K))(b5:!Ok 23 "_law_act" o5 (aTq K))(mO:!Ok 42 "_law_size" bQC (bBu K 41)) :
  !Ok 43 "_law_drawn" bQG (aIi K):=by
 refine Ok.ofW T.aLj jQ λZ H vs Q hr h=>?_;have(S,zs,rfl,hS,ax,q):=h;have a0:=jQ.nd;exists _,(aB (bU 3 (aY b2 (va1 (vv 0)))) (aB (bU 4 (aY b3 (aF (vv 3) (va1 aA)))) (aB (nJ (aY b0 (aF (vv 3) (aF (vv 4) (va1 (vv 1))))) (iY rfl (aW (cP 5) (aW (cP 6) cV)))) aZ)));refine(3,S,zs,4,hS,ax,λa H1 fa s1 hs=>?_);refine(3,a,4,hs,λN H2 ns f2 fN gN hn=>?_);have I:N≠a:=hs.ne fN;refine(333,a,N,ns,4,f2.st,gN,I,hn,λt d m es H3 f3 gt fd m1 m6 hE a7 az b9=>?_);have an:=f2.trans f3;have a3:d≠a:=f2.st.ne fd;have aj:∀e∈es,xW m e.t:=λe he=>(a7 e he).1;have a5:∀e∈es,e.L≠a:=λe he=>f2.st.ne (a7 e he).2;exists t,3,gt,40312;have a0:=jQ.nd;exists _,(aB (bU 7 (cU cW)) aZ);refine(sz0,λD H4 fD s4 gD=>?_);have k:D≠a:=f3.st.ne fD;have f4:=Fx.of f3.st s4;have a0:=jQ.nd;exists _,(aB (nH PassesOwn.never rfl (dW (7) T.gW (va1 (cA dX aA (aY aR (aF (vv 3) (va1 (vv 2))))))) (cP 8) (aB (bU 9 (aY b5 (aF (vv 3) (aF (vv 7) (aF (vv 6) (aF (vv 4) (va1 (vv 5)))))))) aZ)) aZ);refine(33,a,0o15,4,f4.st,6,λz H5 f5 z0 z1=>(128));exists 2+z,455;obtain⟨n,en⟩:∃n:Nat,(2+z).toNat=n:=(3);rw[en];refine qK (n:=n) (λi σ H'=>Fx a H3 H'/\∃f g l8 l9,H' D=some (.lst f)/\bR (IsE K H') f g/\Chain es m g/\f.length<=i/\(1<=i->g≠[])/\σ=[some (.ref S),some (.int 4),some (.int 13),some (.ref a),some (.ref N),some (.int m),some (.ref d),some (.ref D),l8,l9]) (f4.trans f5,[],[],none,none,f5.same _ _ k gD,.nil,.nil,j6 _,λz=>absurd z (6),4) (λi σ H' hi p=>?_) fun σ H' p=>?_
 .have(Y,f,g,l8,l9,G,hx,U,li,X,rfl):=p;have lx:=hx.len;refine(33333,a,D,d,N,m,f,g,es,ns,4,Y.st,G,k,5,hx,U,hE.fx Y f3.st a3 a5,a3,aj,5,m1,m6,Y.same _ _ I (f3.same _ _ I gN),I,hn,λv H6 f6 hv=>?_);exists _,(aC (bL (VW.pt (jH (cL aTx (vv 9) mG) (iU (cL oV (aY mO (va1 (aQ aK (vv 9) aA))) aA)))) (aC (eV (qM PySem.F.plainAttrs_list PySem.F.slot_list_append PySem.F.type_list_append iW (vv 7) (va1 (vv 9))))) aV));dsimp only[cF,List.set];have ah:=Y.trans f6;have B:=f6.same _ _ k G;have a9:bR (IsE K H6) f g:=hx.imp λ_ _ h=>h.tk (f6.tk Y.st);rcases hv with⟨rfl,a6⟩|⟨y,hy,hN,h20⟩
  .exact(023,aU (aU (ah,f,g,00,B,a9,U,5,λ_=>a6,4)))
  .have(p,va,vq,vh,vs,rfl,hp,h2,h3,h4,h5):=id hy;refine(023,bI (rd2 rfl hp (_,y.s.q,4,h3,hN.few,λH7 s7=>(1238))));have ag:=ah.sm s7;have ab:bR (IsE K H7) f g:=a9.imp λ_ _ h=>h.tk λ_ _ e=>s7.aG e;have W:=s7 _ _ B;by_cases ak:size y.s.q<=20
   .rw[j4 (show ((size y.s.q:Nat):Int)<=20 by lia)];refine bI (3,.inl (40,SqL.of W),3,D,12,W,kJ (5),8);have u:TK K H7 (upd H7 D (.lst (f++[.ref p]))):=λ_ _ e=>e.jK W;exact(ag.upd fD k,f++[.ref p],g++[y],00,aO,(ab.imp λ_ _ h=>h.tk u).app (.cons ((hy.tk λ_ _ e=>s7.aG e).tk u) .nil),U.snoc hN ak,by rw[w6,bBG];lia,λ_ z=>(by simp at z),4)
   .rw[j9 (show ¬ ((size y.s.q:Nat):Int)<=20 by lia)];exact aU (ag,f,g,00,W,ab,U,5,λ_ z=>ak (h20 z),4)
 .have(Y,f,g,l8,l9,G,hx,U,li,X,rfl):=p;have X:=X (5);have lx:=hx.len;have ay:1<=f.length:=by
   cases g with
   |nil=>exact absurd rfl X
   |cons _ _=>rw[lx];exact bDI ..
  have a1:=b7 (show f.length - 1<f.length by lia);have(x,a2,am):=bQ hx a1;have ox:=U.eok a2;have sx:=U.few x (v9 a2);have(p,va,vq,vh,vs,eu,hp,h2,h3,h4,h5):=id am;rw[eu] at a1;have E:atI f (-1)=some (.ref p):=yR a1;have a8:∀H8 O r,Fx a H3 H8->H8 D=some (.lst O)->bR (IsE K H8) O r->Chain es m r->1<=r.length->r.length<=16->∀t' M,Same H8 M->SqT K M t' [.ref a,.ref N,.int m,.ref d,.ref D]->Q (.ref t') M:=λH8 O r f8 g8 k1 k2 k3 k4 t' M s9 C=>by have ao:=(an.trans f8).sm s9;refine q t' a N m d D O r es M (λb o hb=>ao.same b o (λz=>by rw[z,fa] at hb;cases hb) (s1 _ _ hb)) C (s9 _ _ g8) (k1.imp λ_ _ h=>h.tk λ_ _ e=>s9.aG e) k2 ((hE.fx f8 f3.st a3 a5).same s9) aj m1 m6 k3 k4
  have a0:=jQ.nd;exists _,(aB (bL (cJ (cD (aQ aK (aQ bB (vv 7) (bBw aPy aA)) aA))) (aB (bU 9 (aQ bB (vv 7) (bBw aPy aA))) aZ) aV) aZ);exists 33,D,f,12,SqL.of G,E,p,_,1,02,hp,at1 _ _ _,3;cases hw:x.s.w with
  |true=>exact aU (_,(aC (aH (aP (aF (vv 3) (aF (vv 4) (aF (vv 5) (aF (vv 6) (aF (vv 7) cW)))))))),33333,sz5,λt' M av s9 C=>a8 H' f g Y G hx U (5) (5) t' M s9 (SqT.of C))
  |false=>
   refine bI (33,D,f,12,SqL.of G,E,8);exists _,(aB (eV (qM PySem.F.plainAttrs_list PySem.F.slot_list_append PySem.F.type_list_append iW (vv 7) (va1 (aP (aF (aP (aF aL (aF (cA qO (aJ aM (7) T.cH bM (va1 (vv 7))) aA) (va1 aA)))) (aF eO (aF (aQ aK (vv 9) aA) (aF (aQ aK (vv 9) aA) (va1 (aP (aF aL (va1 aA)))))))))))) aZ);dsimp only[cF,List.set];refine(3,.inl (40,SqL.of G),3,D,f,4,.inl (SqL.of G),12,sz3,λt1 G1 ba k1 as=>?_);refine (rd2 rfl (k1.aG hp) (3,p,_,0o3,02,k1.aG hp,aX (j:=3) rfl,sz2,λt2 G2 bb k2 ap=>(sz5,λl G3 b4 k3 ar=>?_)));have A:=k1.trans (k2.trans k3);have af:=A _ _ G;exists D,12,af,(kJ (5));have aw:=Y.sm A;have u:TK K G3 (upd G3 D (.lst (f++[.ref l]))):=λ_ _ e=>e.jK af;have ac:Fx a H3 (upd G3 D (.lst (f++[.ref l]))):=aw.upd fD k;have R:upd G3 D (.lst (f++[.ref l])) D=some (.lst (f++[.ref l])):=aO;have e1:((f.length:Nat):Int) - 1=((f.length - 1:Nat):Int):=by lia
   have hb:IsE K G3 (.ref l) (.bring (f.length - 1) 0,(false,x.s.q,.at_ 0),x.hd):=(l,013,SqT.of ar,.bring (by rw[<-e1];exact (k2.trans k3).aG (SqT.of as)),h3.same A,h4.same A,t2,4,k3.aG (SqT.of ap));have ae:bR (IsE K (upd G3 D (.lst (f++[.ref l])))) (f++[.ref l]) (g++[(.bring (f.length - 1) 0,(false,x.s.q,.at_ 0),x.hd)]):=(hx.imp λ_ _ h=>(h.tk λ_ _ e=>A.aG e).tk u).app (.cons (hb.tk u) .nil);have a4:TK K H' (upd G3 D (.lst (f++[.ref l]))):=λ_ _ e=>u _ _ (A.aG e);have c4:=U.snoc (aVf a2 ox sx hw m1) sx;generalize upd G3 D (.lst (f++[.ref l]))=H6 at ac R ae a4;exists _,(aC (eV (qM PySem.F.plainAttrs_list PySem.F.slot_list_append PySem.F.type_list_append iW (vv 7) (va1 (aP (aF (aP (aF aL (va1 (cA qO (aJ aM (7) T.cH bM (va1 (vv 7))) aA)))) (aF eO (aF (aQ aK (vv 9) aA) (aF (aQ aK (vv 9) aA) (va1 (aP (aF aL (va1 aA)))))))))))));refine(3,.inl (40,SqL.of R),3,D,3,.inl (SqL.of R),12,sz2,λt4 G4 bc k4 au=>?_);have aa:=k4.aG (a4 _ _ hp);refine (rd2 rfl aa (3,p,_,0o3,02,aa,aX (j:=3) rfl,sz2,λt5 G5 b1 k5 aq=>(sz5,λt6 G6 b6 k6 al=>?_)));have J:=k4.trans (k5.trans k6);have B:=J _ _ R;have l1:(f++[V.ref l]).length=f.length+1:=by rw[w6];rfl
   exists D,12,B,(kJ (5));have ai:TK K G6 (upd G6 D (.lst (f++[.ref l]++[.ref t6]))):=λ_ _ e=>e.jK B;have e2:(((f++[V.ref l]).length:Nat):Int) - 1=((f.length:Nat):Int):=by lia
   have ad:TK K H' G6:=λ_ _ e=>J.aG (a4 _ _ e);have hm:IsE K G6 (.ref t6) (.merge f.length,(true,x.s.q,.at_ 0),x.hd):=(t6,013,SqT.of al,.merge (by rw[<-e2];exact (k5.trans k6).aG (SqT.of au)),h3.tk ad,h4.tk ad,t5,4,k6.aG (SqT.of aq));have hy:(g++[((.bring (f.length - 1) 0,(false,x.s.q,.at_ 0),x.hd):Ent)])[f.length]?=some (.bring (f.length - 1) 0,(false,x.s.q,.at_ 0),x.hd):=by rw[lx,bBF (j6 _),Nat.sub_self];rfl
   have c6:=c4.snoc (aHs hy (ox.head,ox.ok,λc e=>by cases e) sx rfl trivial) sx;refine(_,(aC (aH (aP (aF (vv 3) (aF (vv 4) (aF (vv 5) (aF (vv 6) (va1 (vv 7))))))))),33333,sz5,λt' M av s9 C=>a8 _ _ _ ((ac.sm J).upd fD k) aO ((ae.imp λ_ _ h=>(h.tk λ_ _ e=>J.aG e).tk ai).app (.cons (hm.tk ai) .nil)) c6 (by rw[w6];exact bDI ..) (by rw[w6,w6];show g.length+1+1<=16;lia) t' M s9 (SqT.of C))
inductive Alk (K:bGC)(H:Hp):Nat->V->V->Prop
 |flat {n v}:lY v=true->Alk K H (n+1) v v
 |tup {n a b us vs}:SqT K H a us->SqT K H b vs->us.length<=8->us.length=vs.length->(∀(i:Nat) u v,us[i]?=some u->vs[i]?=some v->Alk K H n u v)->Alk K H (n+1) (.ref a) (.ref b)
def Alk.up (h:Alk K H n u v):∀{m},n<=m->Alk K H m u v:=by
 induction h with
 |flat e=>intro m l;obtain⟨k,rfl⟩:∃k,m=k+1:=(m - 1,5);exact .flat e
 |tup a b c d _ ih=>intro m l;obtain⟨k,rfl⟩:∃k,m=k+1:=(m - 1,5);exact .tup a b c d λi u v f g=>ih i u v f g (5)
def Alk.same (s:Same H H')(h:Alk K H n u v):Alk K H' n u v:=by
 induction h with
 |flat e=>exact .flat e
 |tup a b c d _ ih=>exact .tup (s.aG a) (s.aG b) c d ih
inductive aPe (K:bGC)(H:Hp)(n:Nat):List V->List V->Prop
 |nil:aPe K H n [] []
 |cons {u v us vs}:Alk K H n u v->aPe K H n us vs->aPe K H n (u::us) (v::vs)
def aPe.len {H:Hp}{n:Nat}{us vs:List V}(h:aPe K H n us vs):us.length=vs.length:=by
 induction h with
 |nil=>rfl
 |cons _ _ ih=>rw[p8,p8,ih]
theorem aPe.at {H:Hp}{n:Nat}{us vs:List V}(h:aPe K H n us vs):∀(i:Nat) u v,us[i]?=some u->vs[i]?=some v->Alk K H n u v:=by
 induction h with
 |nil=>intro i u v e;simp at e
 |cons r _ ih=>
  intro i u v a b;cases i with
  |zero=>cases a;cases b;exact r
  |succ i=>exact ih i u v (by simpa using a) (by simpa using b)
def jL {H:Hp}{n:Nat}{a b:Addr}{us vs:List V}(d:SqT K H a us)(c:SqT K H b vs)(l:us.length<=8)(h:aPe K H n us vs):Alk K H (n+1) (.ref a) (.ref b):=.tup d c l h.len h.at
def bB5 {α:Type}{H:Hp}{n:Nat}{R:V->α->Prop}{v u:V}{ts:List α}(k:∀a b t,R a t->R b t->Alk K H n a b)(h:qL K H R v ts)(h':qL K H R u ts)(l:ts.length<=8):Alk K H (n+1) v u:=by
 have(a,i,rfl,c,d):=h;have(b,g,rfl,e,f):=h';refine jL c e (by rw[d.len];exact l) ?_;clear c e l
 induction d generalizing g with
 |nil=>cases f;exact .nil
 |cons r _ ih=>
  cases f with
  |cons r2 t2=>exact .cons (k _ _ _ r r2) (ih _ t2)
def wH {α:Type}{S:bGC->Hp->V->α->Prop}{lo hi:Nat}{H:Hp}{n:Nat}{v u:V}{ts:List α}(h:fY S lo hi K H v ts)(h':fY S lo hi K H u ts)(k:∀{a b t},S K H a t->S K H b t->Alk K H 3 a b)(l:hi<=8)(c:4<=n):Alk K H n v u:=(bB5 (R:=S K H) (λ_ _ _=>k) h.1 h'.1 (bAM h.2.2 l)).up c
def bEu (g:∀x∈r,lY x=true)(l:r.length<=8)(h:dU K H v r)(h':dU K H u r):Alk K H 2 v u:=by have(a,rfl,e):=h;have(b,rfl,f):=h';exact .tup e f l rfl λi x y c d=>by rw[c] at d;cases d;exact .flat (g x (v9 c))
abbrev fl1:Alk K H (n+1) (.str x) (.str x):=.flat rfl
def bJ0 (h:IsO K H v o)(h':IsO K H u o):Alk K H 2 v u:=by
 cases o with
 |val x=>have(a,rfl,c,g,f):=h;have(b,rfl,e,_):=h';refine jL c e (bAO rfl) (.cons fl1 (.cons (.flat ?_) .nil));cases x <;> first|rfl|cases f
 |col d=>have(a,rfl,c,_):=h;have(b,rfl,e,_):=h';exact jL c e (bAO rfl) (.cons fl1 (.cons fl1 .nil))
def bJp (h:IsT K H v t)(h':IsT K H u t):Alk K H 3 v u:=by have(a,w,rfl,d,_,_,e):=h;have(b,g,rfl,f,_,_,c):=h';exact jL d f (bAO rfl) (.cons fl1 (.cons fl1 (.cons (bJ0 e c) .nil)))
def bGl (h:pP K H v t)(h':pP K H u t):Alk K H 3 v u:=by have(a,rfl,d,_):=h;have(b,rfl,c,_):=h';exact jL d c (bAO rfl) (.cons fl1 (.cons fl1 .nil))
def bIn (h:rC K H v t)(h':rC K H u t):Alk K H 3 v u:=by have(a,rfl,d,_):=h;have(b,rfl,c,_):=h';exact jL d c (bAO rfl) (.cons fl1 (.cons fl1 .nil))
def bHp (h:oR K H v t)(h':oR K H u t):Alk K H 3 v u:=by
 have(a,rfl,_,h):=h;have(b,rfl,_,h'):=h';rcases h with⟨x,y,z⟩|⟨c,x,y,z,g⟩
 .rcases h' with⟨d,f,e⟩|⟨c',d,f,e,g'⟩
  .exact jL z e (bAO rfl) (.cons fl1 (.cons (.flat rfl) (.cons fl1 .nil)))
  .rw[y] at d;cases d
 .rcases h' with⟨d,f,e⟩|⟨c',d,f,e,g'⟩
  .rw[f] at x;cases x
  .rw[x] at d;cases d;exact jL g g' (bAO rfl) (.cons fl1 (.cons fl1 (.cons fl1 .nil)))
def aX2 (h:iI K H v t)(h':iI K H u t):Alk K H 3 v u:=by have(rfl,_):=h;have(rfl,_):=h';exact fl1
def bI4 {H:Hp}{v:V}{q:Qn}(h:IsQ K H v q):∀{u:V},IsQ K H u q->Alk K H (size q+4) v u:=by
 induction h with
 |table a _=>
  intro u b;cases b with
  |table a' _=>exact jL a a' (bAO rfl) (.cons fl1 (.cons fl1 .nil))
 |whr a _ c ih=>
  intro u b;cases b with
  |whr a' b' c'=>have:=c.2;exact jL a a' (bAO rfl) (.cons fl1 (.cons ((ih b').up (by simp only[size];lia)) (.cons (wH c c' bJp (6) (by simp only[size];lia)) .nil)))
 |keep a _ c ih=>
  intro u b;cases b with
  |keep a' b' c'=>have:=c.2;exact jL a a' (bAO rfl) (.cons fl1 (.cons ((ih b').up (by simp only[size];lia)) (.cons (wH c c' aX2 (6) (by simp only[size];lia)) .nil)))
 |nmd a _ c ih=>
  intro u b;cases b with
  |nmd a' b' c'=>have:=c.2;exact jL a a' (bAO rfl) (.cons fl1 (.cons ((ih b').up (by simp only[size];lia)) (.cons (wH c c' aX2 (6) (by simp only[size];lia)) .nil)))
 |join a _ _ c ih1 ih2=>
  intro u b;cases b with
  |join a' b' d' c'=>have:=c.2;exact jL a a' (bAO rfl) (.cons fl1 (.cons ((ih1 b').up (by simp only[size];lia)) (.cons ((ih2 d').up (by simp only[size];lia)) (.cons (wH c c' bGl (6) (by simp only[size];lia)) .nil))))
 |group a _ c d ih=>
  intro u b;cases b with
  |group a' b' c' d'=>have:=c.2;have:=d.2;exact jL a a' (bAO rfl) (.cons fl1 (.cons ((ih b').up (by simp only[size];lia)) (.cons (wH c c' aX2 (6) (by simp only[size];lia)) (.cons (wH d d' bHp (6) (by simp only[size];lia)) .nil))))
 |first a _ c d ih=>
  intro u b;cases b with
  |first a' b' c' d'=>have:=c.2;exact jL a a' (bAO rfl) (.cons fl1 (.cons ((ih b').up (by simp only[size];lia)) (.cons (wH c c' bIn (6) (by simp only[size];lia)) (.cons (.flat rfl) .nil))))
def bHy (h:pQ K H v s)(h':pQ K H u s)(hz:size s.q<=20):Alk K H 25 v u:=by
 have(a,m,o,rfl,i,f,g):=h;have(b,n,l,rfl,j,e,d):=h';refine jL i j (bAO rfl) (.cons (.flat rfl) (.cons ((bI4 f e).up (5)) (.cons ((bEu (λx c=>?_) ?_ g d).up (5)) .nil)))
 .cases k:s.sp <;> rw[k] at c <;> simp[kW] at c
  .rw[c];rfl
  .rw[c];rfl
  .rcases c with rfl|rfl <;> rfl
  .rcases c with rfl|rfl <;> rfl
 .cases s.sp <;> simp[kW]
inductive bBf (K:bGC)(n:Nat)(vs:List V)(H:Hp)(Q:VK)(E_:XK):Prop
 |mk (u v:_)(_:vs=[u,v])(_:Alk K H n u v)(_:∀H',Same H H'->Q (.bl true) H')
def aGp (T:!Txt):∀n:Nat,!Ok (n+1) "_law_alike" bQS (bBf K n):=by
 intro E
 induction E with
 |zero=>
  refine Ok.ofW T.yJ vO λZ H d Q p h=>?_
  .have(u,v,rfl,h,_):=h;cases h
 |succ n ih=>
  have J:=ih;refine Ok.ofW T.yJ vO λZ H d Q p h=>?_;have(u,v,rfl,h,q):=h;exists _,(aB (bL (cD (aJ dY (7) T.bN bH (aF (vv 1) (va1 (dJ (v:=.ty "tuple") (7) T.cM cB rfl))))) (aB (bL (VW.pt (dZ (cJ (cD (aJ dY (7) T.bN bH (aF (vv 0) (va1 (dJ (v:=.ty "tuple") (7) T.cM cB rfl)))))) (dO (cL pY (aJ aM (7) T.cH bM (va1 (vv 0))) (aJ aM (7) T.cH bM (va1 (vv 1))))))) (aC (aH eO)) aV) (aC (aH (aJ (gQ rfl) (7) T.pU mH (va1 (bY (N:=["_law_k","_law_found","_law_due"]) ck (dC (aD rG)) rfl (dW (7) T.gW (va1 (aJ aM (7) T.cH bM (va1 (vv 1))))) (λU S C O=>((dF 0),cI,(jG (J.mono (5)) p (7) (aF (aQ (cT (K:=K)) (vv 1) (vv 0)) (va1 (aQ (cT (K:=K)) (vv 2) (vv 0))))))))))))) aV) (aC (aH (dI (lW bZ (aJ (pW.or oE) (7) T.bN bH (aF (vv 0) (va1 (dJ (v:=.ty "bool") (7) T.aPk aI9 rfl)))) (aJ (pW.or oE) (7) T.bN bH (aF (vv 1) (va1 (dJ (v:=.ty "bool") (7) T.aPk aI9 rfl))))) (dN (lW bZ (vv 0) (vv 1)))))));cases h with
  |@tup _ a b us d ga gb l8 lv hi=>
   refine(303,.tup gb,3,bI ?_);refine(303,.tup ga,3,aU ?_);exists 3,a,3,.inr ga,3,b,3,.inr gb,43;rw[show (!decide (V.int (us.length:Int)=V.int (d.length:Int)))=false by rw[j4 (by rw[lv])];rfl];refine aU ?_;dsimp only[oM,qI,tCB,cX];refine jY ((List.range d.length).map λi:Nat=>V.int (0+(i:Int))) ((List.replicate d.length true).map V.bl) (by rw[d7,d7,bBR,bAG]) [none,some (.ref a),some (.ref b)] ?_ (small (by rw[d7,bAG];lia)) (λR r=>aTw d.length (λW M=>(3,b,3,.inr gb,M)) (5) R r) (λi x y z o C R l m r=>?_) rfl λD G L I=>?_
   .refine(4,λi y v j f=>?_)
    match i,j,f with
    |0,_,f=>cases f
    |1,j,f=>cases j;cases f;exact(by trivial,0,44,by trivial)
    |2,j,f=>cases j;cases f;exact(by trivial,1,44,by trivial)
    |i+3,j,_=>cases j
   .have(g,rfl):=aFe z;have B:y=.bl true:=by rw[j5] at o;have(c,s,rfl):=Option.map_eq_some_iff.mp o;rw[bDQ,if_pos g] at s;cases s;rfl
    subst B;have t:(0+(i:Int))=((i:Nat):Int):=by lia
    have k:i<us.length:=by lia
    exact(33,a,us,_,us[i],44,m.aG ga,(by rw[t];exact aX (b7 k)),33,b,d,_,d[i],44,m.aG gb,(by rw[t];exact aX (b7 g)),us[i],d[i],4,(hi i _ _ (b7 k) (b7 g)).same m,λF A=>r F A)
   .exists D,List.replicate d.length true,4,SqL.of I;rw[yM];exact q G L
  |flat e=>
   cases u with
   |int i=>exact(303,.int,3,aU (3,.inl (0123,.inl (1323,bI (302,by rw[j4 rfl];exact q H (Same.refl H))))))
   |str i=>exact(303,.str,3,aU (3,.inl (0123,.inl (1323,bI (302,by rw[j4 rfl];exact q H (Same.refl H))))))
   |bl i=>exact(303,.bl,3,aU (3,.inl (0123,.inl (1323,bI (302,by rw[j4 rfl];exact q H (Same.refl H))))))
   |non=>exact(303,.non,3,aU (3,.inr (13,.non,.inr (.inl rfl),3,.inr (13,.non,.inr (.inl rfl),43,bI (302,by rw[j4 rfl];exact q H (Same.refl H))))))
   |_=>cases e
def bKt {H0:Hp}{es es':List En}(h:bR (λe e'=>∃v L,e'=aEe e v L/\H0 L=none) es es'):uX es'=uX es:=by
 funext n;unfold uX
 induction h with
 |nil=>rfl
 |@cons e _ _ _ r _ ih=>
  have(v,L,rfl,_):=r;rw[bBA,bBA,show (aEe e v L).n=e.n from rfl];cases decide (e.n=n) with
  |true=>rfl
  |false=>exact ih
def bHq {H0:Hp}{es es':List En}(h:bR (λe e'=>∃v L,e'=aEe e v L/\H0 L=none) es es'){e:En}(he:e∈es):∃v L,aEe e v L∈es':=by
 induction h with
 |nil=>cases he
 |cons r _ ih=>
  have(v,L,rfl,_):=r;rcases List.mem_cons.mp he with rfl|he
  .exact(v,L,v7)
  .have(v,L,h):=ih he;exact(v,L,j8 _ h)
def Plan.pl {H0:Hp}{es n:List En}{m:Int}{as:List Act}{ss:List Sns}(h:bR (λe e'=>∃v L,e'=aEe e v L/\H0 L=none) es n)(i:Plan es m as ss):Plan n m as ss:=by
 have g:=bKt h;refine(i.len,i.ahead,λk a s l r=>?_);have(q,o,p,f):=i.fit k a s l r;refine(q,o,p,8,by rw[g];exact f.head,f.few,f.deal);cases f.fit with
 |scan he=>have(v,L,j):=bHq h he;exact @Fit.scan n m (aEe _ v L) j
 |whr=>exact .whr
 |keep=>exact .keep
 |nmd a b c d=>exact .nmd (by rw[g];exact a) b c d
 |join a=>exact .join a
 |group a=>exact .group a
 |part=>exact .part
 |first a=>exact .first a
 |cut=>exact .cut
 |merge a=>exact .merge a
 |copy=>exact .copy
 |deal=>exact .deal
 |bring a=>exact .bring a
inductive aT6 (K:bGC)(Pt:Addr)(vs:List V)(H:Hp)(Q:VK)(E_:XK):Prop
 |mk (a:Addr)(ns:List Int)(_:vs=[.ref a])(_:SqL K H a (ns.map V.int))(_:ns.length<=63)(_:H Pt=some (.tab qC))(_:∀H',H' Pt=some (.tab qC)->Q (.bl true) H')
def bC9 (h:IsA K H v a):∃p,v=.ref p:=by have(p,_,e,_):=h.word;exact(p,e)
def bGx {f:Addr}{fd:FuncData}(F:Fun K "law" "law" aT8 f fd)(T:!Txt){C Pt:Addr}(b0:!Ok 43 "_law_drawn" bQG (aIi K))(ag:!OkC C 11 "Town" bQN (aUt K C Pt))(az:!Ok 31 "senses" ["town","plan"] (bAv K C))(rA:!Ok 26 "_law_alike" bQS (bBf K 25)) :
  !mZ CX0 44 f fd v6 (aT6 K Pt):=by
 refine Fun.okV F wX (λvs H Q E h=>?_) (λb2 A av s H vs Q E hr h=>?_)
 .have(a,ns,rfl,_):=h;rfl
 have(S,zs,rfl,hS,aw,a9,q):=h;have hU:=hr.units;have hu:=xP hr;have J:=wX.nd;exists _,(aB (nJ (aY b0 (aF (vv 0) (aF aA (va1 aA)))) (iY rfl (aW (cP 1) (aW (cP 2) (aW (cP 3) (aW (cP 4) (aW (cP 5) cV))))))) aZ);refine(3,S,zs,4,hS,aw,λt a N m d D us xs es H1 s1 gt gD hx hc hE ax m1 m6 l1 b3=>?_);exists t,3,gt,40303030312;have J:=wX.nd;exists _,(aB (bU 6 (bCx (ag.mono (6)) hr (7) (aF (vv 3) (va1 (bF aRx (7) T.aAa uO (va1 (vv 4))))))) aZ);refine(33,d,3,hE.at_,λp H2 fp s2 g2=>?_);refine λx dx ab aa b4=>(H2,x,dx,p,m,es,4,aO,ab,jV ab (bJ aa _),m1,m6,(g2,hE.nd,hE.few,hE.nm,λe he=>(hE.tb e he).same s2),ax,s2 _ _ (s1 _ _ a9),λd' H3 ao b1 s3 hT a1=>(48));have hp:=hc.plan.pl a1;have a7:=s2.trans s3;have ap:=a7 _ _ gD;have aj:=hx.imp λ_ _ h=>h.tk λ_ _ e=>a7.aG e;have lx:=hx.len;dsimp only[cF];exists _,(aB (lF (i0:=7) wX.nd rfl (0) (N:=["_law_entry"]) ck dH rfl (iD (vv 5)) (λcl s' g fp=>((dF 0),cI,(aQ (cT (K:=K)) (vv 0) aA)))) aZ);refine bDo [some (.ref S),some (.ref a),some (.ref N),some (.int m),some (.ref d),some (.ref D),some (.ref x),none,none,none,none,none] rfl ?_;refine jE (fun σ g=>Same H3 g/\∃L vas,g L=some (.lst vas)/\bR (IsA K g) vas (xs.map (·.a))/\σ=[some (.ref S),some (.ref a),some (.ref N),some (.int m),some (.ref d),some (.ref D),some (.ref x),some (.ref L),none,none,none,none]) (λM hM=>?_) ?_
 .dsimp only[kO];refine qN us (λj H y=>∃z,xs[j]?=some z/\IsA K H y z.a) (λe (z,o,n)=>(z,o,n.same e)) (λe (z,o,n)=>(z,o,n.tk λ_ _ k=>k.jK e)) [none] iM (small (5)) (λR r=>qU (λg s'=>SqL.of (s' _ _ ap)) (λR' r'=>(3,r')) R r) (λj u eu g R l G r=>?_) rfl λL H4 ys s4 g4 ly hy=>?_
  .have(z,hz,p',va,vq,vh,vs,rfl,a4,n,_):=bQ aj eu;exact (rd0 rfl (G.aG a4) (r _ _ (Same.refl _) (z,hz,n.same G)))
  .refine hM _ _ (s4,L,ys,g4,pA (by rw[d7];lia) λj y b e1 e2=>?_,4);have(z,o,n):=hy j y e1;rw[j5,o] at e2;cases e2;exact n
 rintro _ H4 ⟨s4,L,vas,gL,hA,rfl⟩;have af:=a7.trans s4;have au:=af _ _ gD;have aq:=hx.imp λ_ _ h=>h.tk λ_ _ e=>af.aG e;have J:=wX.nd;exists _,(aB (bU 8 (bY (N:=["_law_entry"]) ck dH rfl (iD (vv 5)) (λcl s' g fp=>((dF 0),cI,(aP (aF (aQ (cT (K:=K)) (vv 0) aA) (aF (aQ (cT (K:=K)) (vv 0) aA) (va1 (aQ (cT (K:=K)) (vv 0) aA))))))))) aZ);refine jE (fun σ g=>Same H4 g/\∃B vds,g B=some (.lst vds)/\bR (pQ K g) vds (xs.map (·.s))/\σ=[some (.ref S),some (.ref a),some (.ref N),some (.int m),some (.ref d),some (.ref D),some (.ref x),some (.ref L),some (.ref B),none,none,none]) (λM hM=>?_) ?_
 .dsimp only[kO];refine qN us (λj H y=>∃z,xs[j]?=some z/\pQ K H y z.s) (λe (z,o,n)=>(z,o,n.same e)) (λe (z,o,n)=>(z,o,n.tk λ_ _ k=>k.jK e)) [none] iM (small (5)) (λR r=>qU (λg s'=>SqL.of (s' _ _ au)) (λR' r'=>(3,r')) R r) (λj u eu g R l G r=>?_) rfl λB H5 ys s5 g5 ly hy=>?_
  .have(z,hz,p',va,vq,vh,vs,rfl,a4,_,h3,_,h5):=bQ aq eu;have a6:=G.aG a4;exact (rd1 rfl a6 (rd2 rfl a6 (3,p',_,0o4,02,a6,aX (j:=4) rfl,sz3,λt9 G9 ay s9 g9=>r _ _ s9 (z,hz,t9,vq,vs,4,SqT.of g9,(h3.same G).same s9,dU.same s9 (dU.same G h5)))))
  .refine hM _ _ (s5,B,ys,g5,pA (by rw[d7];lia) λj y b e1 e2=>?_,4);have(z,o,n):=hy j y e1;rw[j5,o] at e2;cases e2;exact n
 rintro _ H5 ⟨s5,B,vds,gB,hB,rfl⟩;have ai:=s4.trans s5;have ae:=s5 _ _ gL;have a2:=hA.imp λ_ _ h=>h.same s5;have as:=hT.same ai;have ad:=ai _ _ (s3 _ _ (s2 _ _ (s1 _ _ a9)));have la:=a2.len;have lb:=hB.len;rw[d7] at la lb;have J:=wX.nd;exists _,(aB (nH PassesOwn.never rfl (dW (7) T.gW (va1 aA)) (cP 9) (aB (bU 10 (bF wL (7) T.zO uM (va1 (vv 7)))) aZ)) (aC (aH eO)));exists 2,466;refine qK (λi σ g=>Same H5 g/\∃l9 a5 a0,σ=[some (.ref S),some (.ref a),some (.ref N),some (.int m),some (.ref d),some (.ref D),some (.ref x),some (.ref L),some (.ref B),l9,a5,a0]) (Same.refl _,none,none,none,4) (λi σ g hi (G,l9,a5,a0,e)=>?_) fun σ g (G,l9,a5,a0,e)=>?_
 .subst e;refine(3,L,vas,4,.inl (SqL.of (G _ _ ae)),λh H6 fh s6 g6=>?_);have W:=G.trans s6;have J:=wX.nd;exists _,(aB (bU 11 (aY az (aF (vv 6) (va1 (vv 10))))) aZ);refine(33,x,h,d',m,ao,vas,03,as.same W,SqL.of g6,a2.imp λ_ _ k=>k.same W,by rw[d7];exact l1,by rw[d7];lia,hp,λY H7 ws an s7 U ah=>?_);have I:=W.trans s7;have lw:=ah.len;rw[d7] at lw;dsimp only[cF,List.set];have a8:=I _ _ gB;have Z:=none_of W an;exists _,(aB (bL (VW.pt (dZ (cJ (cD (aJ aAf (7) T.bN bH (aF (vv 11) (va1 (dJ (v:=.ty "list") (7) T.zO uM rfl)))))) (dZ (cL pY (aJ aM (7) T.cH bM (va1 (vv 11))) (aJ aM (7) T.cH bM (va1 (vv 8)))) (dO (cL (bF2 (bBI (bBW _ 64) hU)) (vv 10) (vv 7)))))) (aC (aH eO)) aV) aZ);refine jE (fun σ g=>H7=g/\σ=[some (.ref S),some (.ref a),some (.ref N),some (.int m),some (.ref d),some (.ref D),some (.ref x),some (.ref L),some (.ref B),some (.int (0+(i:Int))),some (.ref h),some (.ref Y)]) (λM hM=>?_) ?_
  .refine(3,Y,ws,4,SqL.of U,3,aU (3,Y,ws,4,.inl (SqL.of U),3,B,vds,4,.inl (SqL.of a8),438));rw[show (!decide (V.int (ws.length:Int)=V.int (vds.length:Int)))=false by rw[j4 (by rw[lw,lb])];rfl];refine aU (33,h,L,vas,44,SqL.of (s7 _ _ g6),SqL.of (I _ _ ae),λu am=>?_,3,aU (hM _ _ (44)));have(_,_,k):=a2.mem am;exact bC9 k
  rintro _ _ ⟨rfl,rfl⟩;exists _,(aB (bL (cJ (cD (aJ (gQ rfl) (7) T.pU mH (va1 (bY (N:=["_law_j","_law_found","_law_due"]) ck (dC (aD aT8)) rfl (dW (7) T.gW (va1 (aJ aM (7) T.cH bM (va1 (vv 8))))) (λcl s' g fp=>((dF 0),cI,(aY rA (aF (aQ (nA (K:=K)) (vv 1) (vv 0)) (va1 (aQ (nA (K:=K)) (vv 2) (vv 0)))))))))))) (aC (aH eO)) aV) (aB (eV (aZ0 PySem.F.plainAttrs_list PySem.F.slot_list_reverse PySem.F.type_list_reverse aN0 (vv 11))) (aC (eV (qM PySem.F.plainAttrs_list PySem.F.slot_list_append PySem.F.type_list_append iW (vv 11) (va1 mG))))));refine jE (fun σ g=>Same H7 g/\σ=[some (.ref S),some (.ref a),some (.ref N),some (.int m),some (.ref d),some (.ref D),some (.ref x),some (.ref L),some (.ref B),some (.int (0+(i:Int))),some (.ref h),some (.ref Y)]) (λM hM=>?_) ?_
  .dsimp only[aGw,aX7,tB,tCB,cX];refine jY ((List.range vds.length).map λi:Nat=>V.int (0+(i:Int))) ((List.replicate vds.length true).map V.bl) (by rw[d7,d7,bBR,bAG]) [none,some (.ref Y),some (.ref B)] (uR 11 8 (0) (0) rfl rfl rfl rfl (0) (0)) (small (by rw[d7,bAG];lia)) (λR r=>aTw vds.length (λR' r'=>(3,B,3,.inl (SqL.of a8),r')) (5) R r) (λj u y ex ey g R l O r=>?_) rfl λD9 H9 s9 ar=>?_
   .have(hj,rfl):=aFe ex;have hy:y=.bl true:=by rw[j5] at ey;have(c,ac,rfl):=Option.map_eq_some_iff.mp ey;rw[bDQ,if_pos hj] at ac;cases ac;rfl
    subst hy;have e0:(0+(j:Int))=((j:Nat):Int):=by lia
    have ak:j<ws.length:=by lia
    have ew:=b7 ak;have ed:=b7 hj;have(sn,a3,kw):=bQ ah ew;have kd:=mQ hB ed a3;rw[j5] at a3;have(z,hz,rfl):=Option.map_eq_some_iff.mp a3;exact(33,Y,ws,_,ws[j],44,SqL.of (O _ _ U),(by rw[e0];exact aX ew),33,B,vds,_,vds[j],44,SqL.of (O _ _ a8),(by rw[e0];exact aX ed),ws[j],vds[j],4,bHy (kw.same O) ((kd.same I).same O) (hc.few z (v9 hz)),λH2 al=>r H2 al)
   .exists D9,List.replicate vds.length true,4,SqL.of ar,3;rw[yM];exact aU (hM _ _ (s9,4))
  rintro _ H8 ⟨s8,rfl⟩;have X:=s8 _ _ U;exists 3,.inl (40,SqL.of X),Y,ws,44,X;exists 3,.inl (40,SqL.of aO),Y,12,aO,(kJ (by rw[List.length_reverse];lia));exact(jV Z (jV Z (I.trans s8)),13)
 .subst e;exact q _ (G _ _ ad)
def bGa {fa Pt:Addr}(T:!Txt)(C:bBl K mg "are_cuts" Pt)(x:mg "law"=some (.ref fa)) :
  ∃fd:FuncData,(∀(s:Shared) (u:Value),BindsTo s fd ([u],[]) [("_law_script",u,)])/\∀base:Heap,K.In base->base.Ns mainGlobals mg->BM mg base->!mZ CX0 44 fa fd v6 (aT6 K Pt):=by
 have(f,fd,F,B,m):=T.bKp;have e:fa=f:=by rw[m] at x;injection x with e;injection e with e;exact e.symm
 subst e;refine(fd,8,λbase hK _ t=>?_)
 .have((oc,od,kV,a5,pm,an,a0,ct,a4,rfl,lk,a3),kp):=F;exact λs u=>.of_eq rfl
 .have(Tc,D,m0,m1,Y,m3,r,A):=T.bIe;have c:=D.cls;have k:=aNi (P:=P) (base:=base) T;have H:=aRr (P:=P) (base:=base) T;have d:=aSv T H;have R:=aN8 T k H;have Q:=aRk T k;have g:=aLc (P:=P) (base:=base) T;have p:=aXo d;have y:=wF T k;have b:=aKm (P:=P) (base:=base) T;have W:Forms P w K mg base:=(p,wQ T,aJy T (aQu T g d (aM3 T g R d)) (eG T),aI8 T p (eG T),xB T p (eG T),aKj T (aQ7 T p (eG T)) (eG T),aNu T (aWd T g d) (eG T),aOq T (aVi T g d) (eG T),aQt T k);have I:=aBy (P:=P) (base:=base) T;have L:=bLk I;have l:=aSs (P:=P) (base:=base) T;have o:=xD (P:=P) (base:=base) T;have i:=aD1 T (vZ (P:=P) (base:=base) T);have h:=aKz T l;have q:=aKp T (aGa T) (aF0 T o l (aF1 T Q l)) h (aF5 T) (aJc T o l i) (aGr T h (aNs T l)) (aFz T h i);have U:=aL6 T W g;have G:=aP1 T (aE6 T L q i b 20) (aQ4 T (bIm U) L (aPh T));have J:=aFk T R Q;have n:=aOj T C hK t (aCd T) (aWv T y) J;have V:=aFv T g (aCe T d b) l n;have Z:=aL9 T (aM7 T (aKf T d g) (eG T) (vZ T) b) V (aN9 T (aQc T J));have z:=aZy T c m0 r A (aAh T (aLh T k d Z));have N:=aXc (P:=P) (w:=w) (mg:=mg) (base:=base) T c Y r;have X:=aMv T c m3 r (aOk T d);have j:=aEs (P:=P) (base:=base) T;have O:=aSt T I j;have v:=aVt T (aRf T (aXg T (aBn T g U j (aBr T g d k)) O y)) (aL2 T (aCz T (yD T) j) (aCb T N (aPq T c m1 A) (aSi T G) b y) (aKw T N X (aEf T) (aD6 T) (aC2 T) (aB4 T (aMp T b)) (aCs T (aAo T)) G) (aPa T (aC0 T)) (aC8 T)) O;have a:=aKv (P:=P) (base:=base) T;have M:=aGq T a;have S:=aLp T a;have E:=aJx (P:=P) (base:=base) T;exact bGx F T (aF8 T a (aGj T (aKo T)) (aF9 T a) (aK7 T a M) (aN1 T a (aB3 T a) (aF3 T a S (aGm T a M) (aPn T) E) (zW T a (aGh T a S) E) (aIw T (aGf T a) (aC6 T 20) (aLx T))) (aKa T 41)) (OkM.make D z) v (aGp T 25)
def aXv {Pt:Addr}{H:Hp}{a:Addr}{f:List Int}{E:XK}(c:f.length<=63)(e:vK [(Pt,qC,)] H)(d:SqL K H a (f.map V.int)):aT6 K Pt [.ref a] H (λv H'=>v=.bl true/\vK [(Pt,qC,)] H') E:=
 (a,f,4,d,c,e _ (List.mem_singleton.mpr rfl),λH' h=>(4,λp b=>by rcases List.mem_singleton.mp b with rfl;exact h))
def bHv {h:Heap}{Pt f c:Addr}{o:Obj}{e:FuncData}(X:K.In h)(G:h.Ns mainGlobals mg)(a:PySem.W.nsIn K mainGlobals "are_cuts"=some (some (.ref f)))(l:K.lookup f=some o)(b:o.data=.func e)(g:e.code=.ref c)(d:PySem.W.codeHdIn K c Pt=true):bBl K mg "are_cuts" Pt:=
 (f,o,e,c,bAT X G a,l,b,g,d)
def bEc {Pt f c:Addr}{o:Obj}{fd:FuncData}(a:PySem.W.nsIn K mainGlobals "are_cuts"=some (some (.ref f)))(l:K.lookup f=some o)(e1:o.data=.func fd)(e2:fd.code=.ref c)(d:PySem.W.codeHdIn K c Pt=true)(n:K.lookup Pt=none) :
  ∀p∈[(Pt,qC,)],(∃c,PySem.W.codeHdIn K c p.1=true)/\K.lookup p.1=none:=λp b=>by
 rcases List.mem_singleton.mp b with rfl;exact((c,d),n)
def bDr {Pt:Addr}{h:Heap}(x:∀P∈[Pt],h.get? P=some (PySem.W.tabObj #[])):∀p∈[(Pt,qC,)],h.get? p.1=some { cls:=.none,data:=.fields #[] }:=λp a=>by rcases List.mem_singleton.mp a with rfl;exact x _ (List.mem_singleton.mpr rfl)
def aVa {l:PySem.W.OpenLaw}{n k:Nat}{q:Program}{loose:List Str}{XP:(bGF)->Heap->Prop}{YP:World->Heap->Prop}{d:DefRec}{K:Params->bGC}{CX:CXT}{sp:bGC->Sp}{x:Str}
  (hn:l.most=some n) (i:n<=sizeLine) (r:d.params.defaults=[]) (A:Room k callerA)
  (ts:List (Addr × Str)) (m:(ts.map (·.1)).Nodup)
  (y:∀(w:World) (h:Heap),YP w h->(K w.params).In h/\∀p∈ts,h.get? p.1=some { cls:=.none,data:=.fields #[] })
  (z:∀(w:World),∀p∈ts,(∃c,PySem.W.codeHdIn (K w.params) c p.1=true)/\(K w.params).lookup p.1=none)
  (F:∀(w:World) (mg:bGF) (fa:Addr) (h:Heap),(K w.params).In h->h.Ns mainGlobals mg->mg d.name=some (.ref fa) ->
   ∃fd:FuncData,(∀(s:Shared) (u:Value),BindsTo s fd ([u],[]) [(x,u,)]) /\
    ∀base:Heap,(K w.params).In base->base.Ns mainGlobals mg->BM mg base->mZ l.prog w (K w.params) mg base CX k fa fd [x] (sp (K w.params)))
  (b:∀(K:bGC) (H:Hp) (a:Addr) (ns:List Int),ns.length<=n->vK ts H->SqL K H a (ns.map V.int)->sp K [.ref a] H (λv H'=>v=.bl true/\vK ts H') λ_ _ _=>False)
  (t:∀(H:Hp) (s:Shared) (e:Value) (s':Shared),CX [] H s (λ_ _ _=>False) e s'->False) :
  PySem.W.WalkO q loose XP YP l.row.toRowW d [] (λf vs=>PySem.call f vs):=
 aZk (K:=K) (CX:=λ_=>CX) (sp:=λw=>sp (K w.params)) hn i r A ts m y z F (λw H a ns o g j=>b (K w.params) H a ns o g j) λ_ H s e s'=>t H s e s'
end
inductive FA (K:bGC)(n:Str)(s:Stmt)(f:Addr):Prop
 |mk {od an:Option Addr}{sl:Array (Option Value)}{kV dc pm cd ct:Value}:PySem.W.nsIn K mainGlobals n=some (some (.ref f))->K.lookup f=some (.type "function",od,.func (PySem.W.fnOf n n (pB s) (iG s) (aD s) .none kV dc pm an cd ct),sl)->PySem.W.codeIn K cd n=true->PySem.W.keepIn K (.ref f)=true->FA K n s f
section
variable {K:bGC}{h:Heap}{mg:bGF}{n:Str}{s:Stmt}{f:Addr}{ps:List Str}
def bE0 (X:K.In h)(G:h.Ns mainGlobals mg)(a:FA K n s f):mg n=some (.ref f):=by have(a,_,_,_):=a;exact bAT X G a
def bJd (X:K.In h)(G:h.Ns mainGlobals mg)(a:FA K n s f)(b:∀(kV doc pm:Value) (an:Option Addr) (cdv ct:Value) (us:List Value),us.length=ps.length->bindArgs (PySem.W.fnOf n n (pB s) (iG s) (aD s) .none kV doc pm an cdv ct) (us,[])=pure (ps.zip us)):Dn K mg n s ps:=by have m:=bE0 X G a;have(_,l,c,k):=a;exact(f,_,aLq l c k,(aLq l c k).binds b,m)
def aMd (X:K.In h)(G:h.Ns mainGlobals mg)(a:FA K n s f):∃f o,(∃u,mg n=some u/\RelV (.ref f) u)/\K.lookup f=some o/\o.cls=.type "function":=by have m:=bE0 X G a;have(_,l,c,k):=a;exact(f,_,(_,m,4),l,4)
end
inductive CA (K:bGC)(x:Str)(C:Addr):Prop
 |mk:PySem.W.nsIn K mainGlobals x=some (some (.ref C))->PySem.W.plainGet K C Str.empty=true->PySem.W.hasDictIn K C=true->PySem.W.plainOver K C=true->PySem.W.findIn K (.ref C) "__setattr__"=some (some (.builtin "object.__setattr__"))->PySem.W.makesIn K C=true->PySem.W.keepIn K (.ref C)=true->CA K x C
def bJr {K:bGC}{h:Heap}{mg:bGF}{x:Str}{C:Addr}(X:K.In h)(G:h.Ns mainGlobals mg)(a:CA K x C):bEd K mg x C:=by have(a,e,b,d,f,g,c):=a;exact(bAT X G a,(e,b,d,f),g,c)
inductive MA (K:bGC)(C:Addr)(m qual:Str)(s:Stmt)(f:Addr):Prop
 |mk {od an:Option Addr}{sl:Array (Option Value)}{kV dc pm cd ct:Value}:PySem.W.findIn K (.ref C) m=some (some (.ref f))->PySem.W.isFn K (.ref f)=true->K.lookup f=some (.type "function",od,.func (PySem.W.fnOf m qual (pB s) (iG s) (aD s) .none kV dc pm an cd ct),sl)->PySem.W.codeIn K cd qual=true->PySem.W.keepIn K (.ref f)=true->MA K C m qual s f
def bJo {K:bGC}{C:Addr}{m qual:Str}{s:Stmt}{f:Addr}{ps:List Str}(a:MA K C m qual s f)(b:∀(kV doc pm:Value) (an:Option Addr) (cdv ct:Value) (us:List Value),us.length=ps.length->bindArgs (PySem.W.fnOf m qual (pB s) (iG s) (aD s) .none kV doc pm an cdv ct) (us,[])=pure (ps.zip us)):aFy K C m qual s ps:=by have(a,i,l,c,k):=a;exact(f,_,(a,i,k),aLq l c k,(aLq l c k).binds b)
theorem ln0 {P:List Value->Prop}(h:P []):∀us:List Value,us.length=0->P us
 |[],_=>h
def lnS {P:List Value->Prop}{n:Nat}(h:∀a us,us.length=n->P (a::us)):∀us:List Value,us.length=n+1->P us:=by
 intro b
 induction b with
 |nil=>rintro e;cases e
 |cons a us ih=>rintro e;exact h a us (Nat.succ.inj e)
def ln1 {P:List Value->Prop}(h:∀a0,P [a0]):∀us:List Value,us.length=1->P us:=lnS λa0=>ln0 (h a0)
def ln2 {P:List Value->Prop}(h:∀a0 a1,P [a0,a1]):∀us:List Value,us.length=2->P us:=lnS λa0=>lnS λa1=>ln0 (h a0 a1)
def ln3 {P:List Value->Prop}(h:∀a0 a1 a2,P [a0,a1,a2]):∀us:List Value,us.length=3->P us:=lnS λa0=>lnS λa1=>lnS λa2=>ln0 (h a0 a1 a2)
def ln4 {P:List Value->Prop}(h:∀a0 a1 a2 a3,P [a0,a1,a2,a3]):∀us:List Value,us.length=4->P us:=lnS λa0=>lnS λa1=>lnS λa2=>lnS λa3=>ln0 (h a0 a1 a2 a3)
def ln5 {P:List Value->Prop}(h:∀a0 a1 a2 a3 a4,P [a0,a1,a2,a3,a4]):∀us:List Value,us.length=5->P us:=lnS λa0=>lnS λa1=>lnS λa2=>lnS λa3=>lnS λa4=>ln0 (h a0 a1 a2 a3 a4)
def ln6 {P:List Value->Prop}(h:∀a0 a1 a2 a3 a4 a5,P [a0,a1,a2,a3,a4,a5]):∀us:List Value,us.length=6->P us:=lnS λa0=>lnS λa1=>lnS λa2=>lnS λa3=>lnS λa4=>lnS λa5=>ln0 (h a0 a1 a2 a3 a4 a5)
def aMh {K:bGC}{h:Heap}{mg:bGF}{n:Str}{l:List V}{a:Addr}{o:Obj}{vs:Array Value}{m:Nat}(X:K.In h)(G:h.Ns mainGlobals mg)(q:PySem.W.nsIn K mainGlobals n=some (some (.ref a)))(r:K.lookup a=some o)(t:o.cls=.type "tuple")(y:o.dict=none)(u:o.data=.seq vs m)(v:Vals l vs.toList)(s:l.length<=1000):∃a,mg n=some (.ref a)/\∀H,SqT K H a l:=
 (_,bAT X G q,λH=>.inr (01,r,t,y,u,by have e:=v.length;simp only[bAD] at e;rw[<-e];exact small s,v))
def aM0 {K:bGC}{h:Heap}{mg:bGF}{n:Str}{v:V}{u:Value}(X:K.In h)(G:h.Ns mainGlobals mg)(q:PySem.W.nsIn K mainGlobals n=some (some u))(r:RelV v u):∃u,mg n=some u/\RelV v u:=(u,bAT X G q,r)
def bJ2 {K:bGC}{h:Heap}{mg:bGF}{x:Str}{C:Addr}{R:Addr->Prop}(X:K.In h)(G:h.Ns mainGlobals mg)(a:CA K x C)(r:R C):∃C,bEd K mg x C/\R C:=(C,bJr X G a,r)
def bI0 {K:bGC}{h:Heap}{mg:bGF}{w:World}{ca:Addr}{co:Obj}{ce:Array DictEntry}{cp:Nat}{f0 f1 f2 p f4 f5 f6 S f8:Addr}{n k g i c j f:Addr}{to0 to1 to2 to3 to4 to5 to6:Obj}{ti0 ti1 ti2 ti3 ti4 ti5 ti6:Array Value}{tn0 tn1 tn2 tn3 tn4 tn5 tn6:Nat}(X:K.In h)(G:h.Ns mainGlobals mg)(B:PySem.W.nsIn K mainGlobals "is_name"=some (some (.ref f0)))(b:PySem.W.nsIn K mainGlobals "may_be_question"=some (some (.ref f1)))(A:PySem.W.nsIn K mainGlobals "are_tests"=some (some (.ref f2)))(z:PySem.W.nsIn K mainGlobals "are_names"=some (some (.ref p)))(J:PySem.W.nsIn K mainGlobals "are_pairs"=some (some (.ref f4)))(a5:PySem.W.nsIn K mainGlobals "are_group_names"=some (some (.ref f5)))(a6:PySem.W.nsIn K mainGlobals "are_sums"=some (some (.ref f6)))(a7:PySem.W.nsIn K mainGlobals "are_keys"=some (some (.ref S)))(a8:PySem.W.nsIn K mainGlobals "is_many"=some (some (.ref f8)))(q:PySem.W.nsIn K mainGlobals "FORMS"=some (some (.ref ca)))(r:K.lookup ca=some co)(x:co.ExactDict)(o:(ca == sysModules)=false)(u:co.data=.dict ce cp)(F:∀P:Program,PH P w ce.toList [("table",Value.ref n,),("where",Value.ref k,),("keep",Value.ref g,),("named",Value.ref i,),("join",Value.ref c,),("group",Value.ref j,),("first",Value.ref f,)])(r0:K.lookup n=some to0)(t0:to0.cls=.type "tuple")(y0:to0.dict=none)(u0:to0.data=.seq ti0 tn0)(Z:Vals [.ref f0] ti0.toList)(r1:K.lookup k=some to1)(t1:to1.cls=.type "tuple")(I:to1.dict=none)(T:to1.data=.seq ti1 tn1)(v1:Vals [.ref f1,.ref f2] ti1.toList)(Q:K.lookup g=some to2)(t2:to2.cls=.type "tuple")(y2:to2.dict=none)(u2:to2.data=.seq ti2 tn2)(Y:Vals [.ref f1,.ref p] ti2.toList)(r3:K.lookup i=some to3)(t3:to3.cls=.type "tuple")(y3:to3.dict=none)(L:to3.data=.seq ti3 tn3)(D:Vals [.ref f1,.ref p] ti3.toList)(r4:K.lookup c=some to4)(t4:to4.cls=.type "tuple")(y4:to4.dict=none)(U:to4.data=.seq ti4 tn4)(N:Vals [.ref f1,.ref f1,.ref f4] ti4.toList)(r5:K.lookup j=some to5)(t5:to5.cls=.type "tuple")(C:to5.dict=none)(O:to5.data=.seq ti5 tn5)(E:Vals [.ref f1,.ref f5,.ref f6] ti5.toList)(R:K.lookup f=some to6)(t6:to6.cls=.type "tuple")(y6:to6.dict=none)(u6:to6.data=.seq ti6 tn6)(M:Vals [.ref f1,.ref S,.ref f8] ti6.toList):∃d t0 t1 t2 t3 t4 t5 t6:Addr,mg "FORMS"=some (.ref d)/\aGy w K d [("table",.ref t0,),("where",.ref t1,),("keep",.ref t2,),("named",.ref t3,),("join",.ref t4,),("group",.ref t5,),("first",.ref t6,)]/\(∃f0:Addr,(∀H,SqT K H t0 [.ref f0])/\mg "is_name"=some (.ref f0))/\(∃f0 f1:Addr,(∀H,SqT K H t1 [.ref f0,.ref f1])/\mg "may_be_question"=some (.ref f0)/\mg "are_tests"=some (.ref f1))/\(∃f0 f1:Addr,(∀H,SqT K H t2 [.ref f0,.ref f1])/\mg "may_be_question"=some (.ref f0)/\mg "are_names"=some (.ref f1))/\(∃f0 f1:Addr,(∀H,SqT K H t3 [.ref f0,.ref f1])/\mg "may_be_question"=some (.ref f0)/\mg "are_names"=some (.ref f1))/\(∃f0 f1 f2:Addr,(∀H,SqT K H t4 [.ref f0,.ref f1,.ref f2])/\mg "may_be_question"=some (.ref f0)/\mg "may_be_question"=some (.ref f1)/\mg "are_pairs"=some (.ref f2))/\(∃f0 f1 f2:Addr,(∀H,SqT K H t5 [.ref f0,.ref f1,.ref f2])/\mg "may_be_question"=some (.ref f0)/\mg "are_group_names"=some (.ref f1)/\mg "are_sums"=some (.ref f2))/\(∃f0 f1 f2:Addr,(∀H,SqT K H t6 [.ref f0,.ref f1,.ref f2])/\mg "may_be_question"=some (.ref f0)/\mg "are_keys"=some (.ref f1)/\mg "is_many"=some (.ref f2)):=
 have a:∀{t:Addr} {o:Obj} {vs:Array Value} {m:Nat} {l:List V},K.lookup t=some o->o.cls=.type "tuple"->o.dict=none->o.data=.seq vs m->Vals l vs.toList->l.length<=1000->∀H,SqT K H t l:=λr t y u v s H=>.inr (01,r,t,y,u,by have e:=v.length;simp only[bAD] at e;rw[<-e];exact small s,v)
 (ca,n,k,g,i,c,j,f,bAT X G q,(co,[Value.ref n,Value.ref k,Value.ref g,Value.ref i,Value.ref c,Value.ref j,Value.ref f],r,o,.cons rfl (.cons rfl (.cons rfl (.cons rfl (.cons rfl (.cons rfl (.cons rfl (.nil))))))),λP=>aIl x u (F P) (by show (List.map (λx:Str × Value=>x.1) [("table",Value.ref n,),("where",Value.ref k,),("keep",Value.ref g,),("named",Value.ref i,),("join",Value.ref c,),("group",Value.ref j,),("first",Value.ref f,)]).Nodup;exact (by trivial:(["table","where","keep","named","join","group","first"]:List Str).Nodup))),(f0,a r0 t0 y0 u0 Z (by show 1<=1000;decide),bAT X G B),(f1,f2,a r1 t1 I T v1 (by show 2<=1000;decide),bAT X G b,bAT X G A),(f1,p,a Q t2 y2 u2 Y (by show 2<=1000;decide),bAT X G b,bAT X G z),(f1,p,a r3 t3 y3 L D (by show 2<=1000;decide),bAT X G b,bAT X G z),(f1,f1,f4,a r4 t4 y4 U N (by show 3<=1000;decide),bAT X G b,bAT X G b,bAT X G J),(f1,f5,f6,a r5 t5 C O E (by show 3<=1000;decide),bAT X G b,bAT X G a5,bAT X G a6),(f1,S,f8,a R t6 y6 u6 M (by show 3<=1000;decide),bAT X G b,bAT X G a7,bAT X G a8))
def bJk {K:bGC}{h:Heap}{mg:bGF}{w:World}{m:Addr}{n:Obj}{ce:Array DictEntry}{cp:Nat}{c k b a g e f j i:Tok}(X:K.In h)(G:h.Ns mainGlobals mg)(q:PySem.W.nsIn K mainGlobals "MADE_SORTS"=some (some (.ref m)))(r:K.lookup m=some n)(x:n.ExactDict)(o:(m == sysModules)=false)(u:n.data=.dict ce cp)(l:∀P:Program,PH P w ce.toList [("scan",Value.str "table" c,),("where",Value.str "where" k,),("keep",Value.str "keep" b,),("named",Value.str "named" a,),("join",Value.str "join" g,),("group",Value.str "group" e,),("first",Value.str "first" f,),("part",Value.str "group" j,),("cut",Value.str "first" i,)]):∃d:Addr,mg "MADE_SORTS"=some (.ref d)/\aGy w K d [("scan",.str "table",),("where",.str "where",),("keep",.str "keep",),("named",.str "named",),("join",.str "join",),("group",.str "group",),("first",.str "first",),("part",.str "group",),("cut",.str "first",)]:=
 (m,bAT X G q,n,[Value.str "table" c,Value.str "where" k,Value.str "keep" b,Value.str "named" a,Value.str "join" g,Value.str "group" e,Value.str "first" f,Value.str "group" j,Value.str "first" i],r,o,.cons (3) (.cons (3) (.cons (3) (.cons (3) (.cons (3) (.cons (3) (.cons (3) (.cons (3) (.cons (3) (.nil))))))))),λP=>aIl x u (l P) (by show (List.map (λx:Str × Value=>x.1) [("scan",Value.str "table" c,),("where",Value.str "where" k,),("keep",Value.str "keep" b,),("named",Value.str "named" a,),("join",Value.str "join" g,),("group",Value.str "group" e,),("first",Value.str "first" f,),("part",Value.str "group" j,),("cut",Value.str "first" i,)]).Nodup;exact (by trivial:(["scan","where","keep","named","join","group","first","part","cut"]:List Str).Nodup)))
end My
end
open PySem PySem.W PyProof.Rows
namespace PySem.W.Fast
def tw5171089876933111978:=Nat
def tw5928384414476886867:=Nat
def tw15900788056853862345:=Nat
def tw7787771811776161768:=Nat
def tw6559562025449861347:=Nat
def tw17399709031761361816:=Nat
def tw162175628142178842:=Nat
def tw10026822939738378926:=Nat
def tw11318436270134866928:=Nat
def tw14994279009587189889:=Nat
def tw4992633759292529980:=Nat
def tw8913743061038480599:=Nat
def tw12994590022919798948:=Nat
def tw5239303847765182878:=Nat
def tw13735235457413155559:=Nat
def tw8373846830525356305:=Nat
def tw13628210571678631379:=Nat
def tw15252260105195446911:=Nat
def tw566102645131383097:=Nat
def tw13804976710166888232:=Nat
def tw1323024180165732899:=Nat
def tw3307556866438428743:=Nat
def tw14386090269397405199:=Nat
def tw14965310833120056626:=Nat
def tw10119503068139646184:=Nat
def tw15137183499372659403:=Nat
def tw12984219285299407021:=Nat
def tw12971301912858475838:=Nat
def tw877065257252436964:=Nat
def tw11632691558961233717:=Nat
def tw8419636040483159935:=Nat
def tw791294882527942741:=Nat
def tw10758638791318441918:=Nat
def tw1941887495879410208:=Nat
def tw16851626696013719298:=Nat
def tw6231242867855110715:=Nat
def tw7905685147387471842:=Nat
def tw17708147698300274801:=Nat
def tw11163386258669558054:=Nat
def tw1219719778394887044:=Nat
def tw17250550217928616500:=Nat
def tw1069748565797493631:=Nat
def tw17991602464061045068:=Nat
def tw15403321004229979014:=Nat
def tw5103484850383404339:=Nat
def tw4998004292936100696:=Nat
def tw12889883813829833075:=Nat
def tw8002446321736766135:=Nat
def tw18045526527582261593:=Nat
def tw5282990322866118581:=Nat
def tw4510613096152183595:=Nat
def tw16896822780178850526:=Nat
def tw7028637593088255402:=Nat
def tw2119587981517971381:=Nat
def tw14338280474434651662:=Nat
def tw15730635091462140771:=Nat
def tw7618918349663427330:=Nat
def tw3637119215686432582:=Nat
def tw17134393232512663047:=Nat
def tw10392502866885687438:=Nat
def tw16253723848280034127:=Nat
def tw9224187786000935585:=Nat
def tw134896827210402249:=Nat
def tw11683106943849201388:=Nat
def tw16780663185986561839:=Nat
def tw2055162268368446310:=Nat
def tw16244374340101651164:=Nat
def tw13680079076954349065:=Nat
def tw10152802824818836231:=Nat
def tw14355239148579507884:=Nat
def tw3587333537783444750:=Nat
def tw654183257538715618:=Nat
def tw14560635162506653206:=Nat
def tw4019961580487843862:=Nat
def tw17295929511535609677:=Nat
def tw17522488796000818831:=Nat
def tw13342674762925057827:=Nat
def tw15925811896483458758:=Nat
def tw8773909054602446057:=Nat
def tw12835200780505875659:=Nat
def tw1915718097752873829:=Nat
def tw18340672714356034873:=Nat
def tw4356475474171149842:=Nat
def tw13963642550078936441:=Nat
def tw1579096217951414419:=Nat
def tw8703023455418666346:=Nat
def tw10420217036436382767:=Nat
def tw6757295153574509118:=Nat
def tw15348282915177428025:=Nat
def tw7132372953461582373:=Nat
def tw16550105437072749676:=Nat
def tw1701042852871001069:=Nat
def tw6675522966857409329:=Nat
def tw13125455384396440313:=Nat
def tw12571928449477182272:=Nat
def tw18060210402389479708:=Nat
def tw1686759234744883341:=Nat
def tw2864103349276245071:=Nat
def tw1324491262889545152:=Nat
def tw4008360079539157352:=Nat
def tw9380735318205919807:=Nat
def tw6563182396127436114:=Nat
def tw1683232556534633270:=Nat
def tw9315834447122537016:=Nat
def tw174194299230777215:=Nat
def tw4299122418746790115:=Nat
def tw17762543157800107538:=Nat
def tw6158451812989771694:=Nat
def tw9627780678012946401:=Nat
def tw18023449497188800858:=Nat
def tw6455425936265998782:=Nat
def tw1684535689126008289:=Nat
def tw10880522094085130513:=Nat
def tw9568126267605308567:=Nat
def tw9009019404790395437:=Nat
def tw4270238106999865606:=Nat
def tw7980287712207416674:=Nat
def tw3965297076986672299:=Nat
def tw7313784531797369158:=Nat
def tw16819328989871692939:=Nat
def tw8742214832512001896:=Nat
def tw639288990551169261:=Nat
def tw17515547226388856998:=Nat
def tw1973659345023765141:=Nat
def tw1050734361638088706:=Nat
def tw937791217865779626:=Nat
def tw454688847144461493:=Nat
def tw12811848785765363490:=Nat
def tw6807471842068395610:=Nat
def tw16949284336919125913:=Nat
def tw2050558885237308481:=Nat
def tw6381491693265769017:=Nat
def tw12030686178936068286:=Nat
def tw17204324296114449812:=Nat
def tw18222772807722783279:=Nat
def tw774232851993768368:=Nat
def tw15841132365011135565:=Nat
def tw15758711975713767996:=Nat
def tw4169380154194195923:=Nat
def tw11549080599629603248:=Nat
def tw13096585184208511648:=Nat
def tw3301914959511551040:=Nat
def tw6281867899868408487:=Nat
def tw7025045420104452470:=Nat
def tw7170501056138514364:=Nat
def tw10967326598723575123:=Nat
def tw13126005988140309252:=Nat
def tw6714245248469312934:=Nat
def tw2823741940601839751:=Nat
def tw17756784282110115013:=Nat
def tw12135109465072697539:=Nat
def tw13520067251399224542:=Nat
def tw1667655155091995532:=Nat
def tw17508505625990338481:=Nat
def tw8507653202250792896:=Nat
def tw15327534373368866494:=Nat
def tw9285170816425685202:=Nat
def tw13499626569925918073:=Nat
def tw12318086963498550173:=Nat
def tw4580684455623278425:=Nat
def tw375112470936549812:=Nat
def tw4904010309095061599:=Nat
def tw1941357950682714629:=Nat
def tw12764176205272381137:=Nat
def tw3302025067254295404:=Nat
def tw10851169766637114059:=Nat
def tw17540232536302974622:=Nat
def tw13680357910889518035:=Nat
def tw8108854141491337919:=Nat
def tw16036944326583976846:=Nat
def tw12318666992475005185:=Nat
def tw18177789210319306384:=Nat
def tw4776415181515695464:=Nat
def tw5685009676608751059:=Nat
def tw16485112530782318156:=Nat
def tw13855386903099086987:=Nat
def tw2633019154323373591:=Nat
def tw10142253316396547704:=Nat
def tw3453269094202540742:=Nat
def tw3000952712461643249:=Nat
def tw14932420202306623813:=Nat
def tw16243913152806142150:=Nat
def tw18432440217263383638:=Nat
def tw16178269003876911055:=Nat
def tw12028047617155656008:=Nat
def tw15937775190684209062:=Nat
def tw3308038575081350553:=Nat
def tw393370795273963237:=Nat
def tw5817679997341332932:=Nat
def tw8693664881193599461:=Nat
def tw7512458597579650020:=Nat
def tw16196990233359780549:=Nat
def tw1480470904117354356:=Nat
def tw1507984639095644199:=Nat
def tw8610157100434807065:=Nat
def tw4832454084516911327:=Nat
def tw14093314402411286754:=Nat
def tw14934243714352123632:=Nat
def tw521859141069110481:=Nat
def tw14698631805306212772:=Nat
def tw2462167867418957267:=Nat
def tw11551963782418178350:=Nat
def tw7332733779753697898:=Nat
def tw16388375701368469679:=Nat
def tw15225445012542687038:=Nat
def tw5867446121130849566:=Nat
def tw3341940286707247881:=Nat
def tw6608232166964159641:=Nat
def tw3989803532084037930:=Nat
def tw8597932216665782723:=Nat
def tw2063052545685184625:=Nat
def tw13511000064332165186:=Nat
def tw2274546349718515584:=Nat
def tw9109031362089847447:=Nat
def tw16445663091898641714:=Nat
def tw12181467557474583348:=Nat
def tw1388569543495280484:=Nat
def tw17323172259503127620:=Nat
def tw631915922817487560:=Nat
def tw10109541180511870302:=Nat
def tw4014330910967031838:=Nat
def tw18090210983453971172:=Nat
def tw8752848247905659715:=Nat
def tw5026248100749165800:=Nat
def tw14636988359800214307:=Nat
def tw8893089761495464835:=Nat
def tw11023876890025945290:=Nat
def tw17726111382828464085:=Nat
def tw10838483926402195685:=Nat
def tw9807644041213671178:=Nat
def tw2412706150821327660:=Nat
def tw10890608345330275065:=Nat
def tw1054344147664943880:=Nat
def tw3454556371804967102:=Nat
def tw11517988877675681197:=Nat
def tw836543029265751067:=Nat
def tw8911574422756082517:=Nat
def tw17562184266880806855:=Nat
def tw7661595824292053471:=Nat
def tw5246100626130348780:=Nat
def tw14129215320995864191:=Nat
def tw7904863328785825329:=Nat
def tw3981936224484337584:=Nat
def tw2987765026463608634:=Nat
def tw2370319200456716931:=Nat
def tw5287732303289135443:=Nat
def tw2474876082835375596:=Nat
def tw11708072697708559182:=Nat
def tw11440752921416607436:=Nat
def tw13547851129859131745:=Nat
def tw3007061467681425596:=Nat
def tw447493370550422249:=Nat
def tw6836229190387766281:=Nat
def tw18323097168238357752:=Nat
def tw11349188190389868552:=Nat
def tw14754256256919907651:=Nat
def tw820698203214352689:=Nat
def tw13557010414571955220:=Nat
def tw1236507621061190727:=Nat
def tw16530000133297795895:=Nat
def tw1853214204293379631:=Nat
def tw8653834910088779107:=Nat
def tw1246432403161477186:=Nat
def tw3475946352540809471:=Nat
def tw966364293341096944:=Nat
def tw13172117415961745497:=Nat
def tw661572890767633210:=Nat
def tw18395200877924471005:=Nat
def tw130605014502527259:=Nat
def tw8676008370043892109:=Nat
def tw2940770528681386590:=Nat
def tw9502214916570605153:=Nat
def tw2177617873210409634:=Nat
def tw16802489863838373087:=Nat
def tw16243229409200838774:=Nat
def tw7270783119447479374:=Nat
def tw2818432760914763298:=Nat
def tw2519065411865683842:=Nat
def tw11373358415858570038:=Nat
def tw12024268180093246953:=Nat
def tw15321305281151530765:=Nat
def tw6072395432084724369:=Nat
def tw15555001278155196416:=Nat
def tw6966018696675484997:=Nat
def tw5386930460686538775:=Nat
def tw11817652770972877735:=Nat
def tw6117716767154872352:=Nat
def tw7676358359832650114:=Nat
def tw17079495797872831889:=Nat
def tw640483383748360684:=Nat
def tw12864145221445604796:=Nat
def tw6492613646835486530:=Nat
def tw308306224243741244:=Nat
def tw14409315592296459269:=Nat
def tw1469927459278678584:=Nat
def tw3828185694315517695:=Nat
def tw712851594251405151:=Nat
def tw11735555892969829108:=Nat
def tw1948541547181854373:=Nat
def tw15403519477460167783:=Nat
def tw7409572843433976113:=Nat
def tw15226450349683029575:=Nat
def tw16041047962963790318:=Nat
def tw8071254238851633092:=Nat
def tw14789888114104548237:=Nat
def tw4333551835048729740:=Nat
def tw17163981809702417140:=Nat
def tw11872678986707179539:=Nat
def tw8110787067367987617:=Nat
def tw12383670028793011786:=Nat
def tw6981653882983846623:=Nat
def tw6389084091471874054:=Nat
def tw5876013693870181350:=Nat
def tw55604576404156147:=Nat
def tw4389242654680932368:=Nat
def tw17673582361388209601:=Nat
def tw17247813536569156874:=Nat
def tw14861363700951828175:=Nat
def tw4246161375920564619:=Nat
def tw13769176438673227602:=Nat
def tw17763138757860762519:=Nat
def tw2061136362009027265:=Nat
def tw6132797873951614805:=Nat
def tw5675954098247797830:=Nat
def tw15712732305409519979:=Nat
def tw4482209864909036215:=Nat
def tw8986510627283580455:=Nat
def tw17046757037609232784:=Nat
def tw7584841675005140625:=Nat
def tw4617211876418255591:=Nat
def tw1251279069879005159:=Nat
def tw1564094264180471809:=Nat
def tw11379883113208363280:=Nat
def tw1986150257014192070:=Nat
def tw1276236407013151049:=Nat
def tw2459722322423596569:=Nat
def tw12422957677864669206:=Nat
def tw5485146098707073028:=Nat
def tw17762885985054050883:=Nat
def tw13801887563904455020:=Nat
def tw16978482706852444446:=Nat
def tw5657156112466309535:=Nat
def tw1562573248031337718:=Nat
def tw9768914338435299447:=Nat
def tw18094977557814449375:=Nat
def tw15669544808626541908:=Nat
def tw6803207567236033950:=Nat
def tw12434609671740260616:=Nat
def tw11077987651389361012:=Nat
def tw12971719985936932717:=Nat
def tw52537334429996659:=Nat
def tw5782103749008956864:=Nat
def tw13215853645315629065:=Nat
def tw606968792962592204:=Nat
def tw2634443456870687047:=Nat
def tw9889458114139982833:=Nat
def tw7779105566963265457:=Nat
def tw12045432625522266578:=Nat
def tw9288049683770986945:=Nat
def tw7511499225218986547:=Nat
def tw15852133787846207568:=Nat
def tw16979519829754079202:=Nat
def tw11634987758249185939:=Nat
def tw9064314396249085236:=Nat
def tw9540820030440857220:=Nat
def tw13668022214583377925:=Nat
def tw11874577695147110058:=Nat
def tw14932678756232057091:=Nat
def tw6323762305335219500:=Nat
def tw4456834785234188033:=Nat
def tw2584302012493122874:=Nat
def tw16467980271414556922:=Nat
def tw16440346650482277381:=Nat
def tw15544931548216159464:=Nat
def tw13669917411653005636:=Nat
def tw8541892410704018973:=Nat
def tw2426476595058087569:=Nat
def tw6959880460700383904:=Nat
def tw2203977706430906005:=Nat
def tw15342273240238656368:=Nat
def tw13670007864637756097:=Nat
def tw15261546441407288049:=Nat
def tw9681969377138260164:=Nat
def tw9658710720490228217:=Nat
def tw3665557452026811663:=Nat
def tw2943850225145427630:=Nat
def tw11555577299855275444:=Nat
def tw8116337769835585620:=Nat
def tw2971136052968044970:=Nat
def tw18131897160202838302:=Nat
def tw17674690282880378191:=Nat
def tw16103282336073864522:=Nat
def tw15476623492508087493:=Nat
def tw11812241386818443921:=Nat
def tw7621184509013001165:=Nat
def tw4665760867635834400:=Nat
def tw16144582382762959425:=Nat
def tw14988654660792017542:=Nat
def tw6182035303817978381:=Nat
def tw3879810508671769954:=Nat
def tw3397774909355288062:=Nat
def tw17244726681549795065:=Nat
def tw16287226200501841872:=Nat
def tw1572806422654511654:=Nat
def tw1157310223411895927:=Nat
def tw10137627235962863063:=Nat
def tw14619153436106557260:=Nat
def tw13869593846355301184:=Nat
def tw6289414406597314739:=Nat
def tw4548124731439812272:=Nat
def tw3470861055037980359:=Nat
def tw17085194461554260564:=Nat
def tw16615255793482926698:=Nat
def tw11008718655459223152:=Nat
def tw10792270412906201802:=Nat
def tw9247530227623023250:=Nat
def tw14881230557480332617:=Nat
def tw9875094791515824089:=Nat
def tw8844564417408595371:=Nat
def tw2748849093609406759:=Nat
def tw850148847148245389:=Nat
def tw7690358106839674590:=Nat
def tw4569173484901921907:=Nat
def tw3586460916669812065:=Nat
def tw201174909557447649:=Nat
def tw1759136980061747489:=Nat
def tw14362990751593338562:=Nat
def tw134471607887970695:=Nat
def tw12243936894204698657:=Nat
def tw7185988516841244528:=Nat
def tw5955060657305265023:=Nat
def tw5296283769153926404:=Nat
def tw3474915693706706472:=Nat
def tw3054384258641339209:=Nat
def tw2740271777349547521:=Nat
def tw15877461746030339729:=Nat
def tw10558579065960485711:=Nat
def tw8182244394530303688:=Nat
def tw5364563321132369613:=Nat
def tw2368821539785762826:=Nat
def tw12711293756716396855:=Nat
def tw12089019925481850196:=Nat
def tw6862266414853048867:=Nat
def tw4752117026150579149:=Nat
def tw11464618318966839040:=Nat
def tw7554446818269615573:=Nat
def tw4444259110753274686:=Nat
def tw4335992621443423822:=Nat
def tw14047081482799467138:=Nat
def tw11911785339308377887:=Nat
def tw3711384785215480143:=Nat
def tw12582672790095747899:=Nat
def tw18176861778766025017:=Nat
def tw1509997138373105783:=Nat
def tw8402718902629129946:=Nat
def tw3225104192918372066:=Nat
def tw7750285057379923276:=Nat
def tw7985772789118181561:=Nat
def tw6962663648982152867:=Nat
def tw14847592678291393140:=Nat
def tw807743064542362687:=Nat
def tw1406987435446192556:=Nat
def tw15765902744698004198:=Nat
def tw10163352017139185036:=Nat
def tw14526662383316363707:=Nat
def tw3039086426145949869:=Nat
def tw7514729009798126219:=Nat
def tw14531538977034158202:=Nat
def tw6518952981816069548:=Nat
def tw3429854941045516477:=Nat
def tw235859815990104985:=Nat
def tw17234556696157894461:=Nat
def tw12529124820125908455:=Nat
def tw16013910677410285980:=Nat
def tw14474465362076715372:=Nat
def tw3473390633141373552:=Nat
def tw12161198828497279443:=Nat
def tw6406713047135675285:=Nat
def tw18416689007822010828:=Nat
def tw9848232283712145051:=Nat
def tw10843449058425984330:=Nat
def tw5234062165171436952:=Nat
def tw1542184607603333259:=Nat
def tw3446766773605126954:=Nat
def tw3662364345589760203:=Nat
def tw9099425451589332411:=Nat
def tw3225387453025085724:=Nat
def tw17859113463417285418:=Nat
def tw1630178168224537213:=Nat
def tw8891694904899183086:=Nat
def tw2142371289312549392:=Nat
def tw10330362473424897233:=Nat
def tw5451199109521270024:=Nat
def tw1799364548431943614:=Nat
def tw13492807821441737972:=Nat
def tw1386350171989705569:=Nat
def tw11403605829440449577:=Nat
def tw7637663498223348546:=Nat
def tw15463191366871699686:=Nat
def tw3414491662299986369:=Nat
def tw14450939205188286390:=Nat
def tw7105566897527304984:=Nat
def tw4152425034906705395:=Nat
def tw2880478503197561879:=Nat
def tw7189173440059399765:=Nat
def tw7866780741197415468:=Nat
def tw1814284062976308388:=Nat
def tw12259554282975690251:=Nat
def tw18412587948097977598:=Nat
def tw15086719624148382494:=Nat
def tw10027493275236634847:=Nat
def tw8055316355137179188:=Nat
def tw14651443925343503567:=Nat
def tw5537480878886036467:=Nat
def tw9456757460774849079:=Nat
def tw14350697908058634879:=Nat
def tw1186197080685355589:=Nat
def tw11111540088291660131:=Nat
def tw4030786258268145277:=Nat
def tw5939592199757578517:=Nat
def tw3516656208892546765:=Nat
def tw10419467769439112089:=Nat
def tw4926931740687732510:=Nat
def tw442910184587504679:=Nat
def tw8620299031295381853:=Nat
def tw7425035804487100355:=Nat
def tw6548776729136457123:=Nat
def tw5957235058365797846:=Nat
def tw5407752028673197767:=Nat
def tw3390463680748852743:=Nat
def tw2926551208379322869:=Nat
def tw16736509512249030933:=Nat
def tw15410723997154680646:=Nat
def tw1532588901658588393:=Nat
def tw13196573875828984939:=Nat
def tw12443536974863283423:=Nat
def tw10251757701095412176:=Nat
def tw7134942328559475536:=Nat
def tw11652359127956468406:=Nat
def tw922634580078742243:=Nat
def tw7286433229094448085:=Nat
def tw5229629362358379458:=Nat
def tw3899998200593858198:=Nat
def tw2570254302096259040:=Nat
def tw11786603992520929247:=Nat
def tw16556726977712626154:=Nat
def tw2626946209465143310:=Nat
def tw14602379415441992576:=Nat
def tw15373147252175878004:=Nat
def tw15131799760219370317:=Nat
def tw18181653675483995475:=Nat
def tw8553653596553233417:=Nat
def tw4937785586090913664:=Nat
def tw14538057476099466318:=Nat
def tw13409328306463924766:=Nat
def tw16149460270323843585:=Nat
def tw9309644153239317942:=Nat
def tw8425396817458057134:=Nat
def tw8189272886777351230:=Nat
def tw6759532863611299362:=Nat
def tw6663846450868878538:=Nat
def tw5348453576275565564:=Nat
def tw493801285381515902:=Nat
def tw4165270522301534927:=Nat
def tw3313733189460375269:=Nat
def tw17628431590547531512:=Nat
def tw16236388256872716082:=Nat
def tw15866076594399114049:=Nat
def tw15815194786856148015:=Nat
def tw1550317289437653861:=Nat
def tw14326719793650451806:=Nat
def tw13767339167560064408:=Nat
def tw13670777041102183074:=Nat
def tw13489227964620948439:=Nat
def tw1309440074950875599:=Nat
def tw12976115729888052121:=Nat
def tw12894531062281358043:=Nat
def tw10555806912333836303:=Nat
def tw10376123148678742887:=Nat
def tw11265665471950722889:=Nat
def tw14219274944024851153:=Nat
def tw3164338421646395932:=Nat
def tw174305413953895708:=Nat
def tw14139002968917627321:=Nat
def tw10043271716338253944:=Nat
def tw3748896454495943807:=Nat
def tw8205881582514458790:=Nat
def tw5207091592214658016:=Nat
def tw5065039004995973906:=Nat
def tw4776142935624205693:=Nat
def tw1937676011694522406:=Nat
def tw17617663032102431528:=Nat
def tw17608261215037571190:=Nat
def tw15059389215997668072:=Nat
def tw14226804044926568234:=Nat
def tw13458325341216829691:=Nat
def tw1152752666290462026:=Nat
def tw10783047124105785861:=Nat
def tw1877359204296018461:=Nat
def tw9325825694904711317:=Nat
def tw8709936098902367115:=Nat
def tw6895018505037918748:=Nat
def tw6748483759094433762:=Nat
def tw6252134688750644939:=Nat
def tw502596705900618421:=Nat
def tw193816074778994856:=Nat
def tw16349920642292072709:=Nat
def tw16001276985885315809:=Nat
def tw13362259803208652438:=Nat
def tw11927437140036027927:=Nat
def tw10043172530701413924:=Nat
def tw12436400854375937235:=Nat
def tw6751751441897785970:=Nat
def tw14236546756938812460:=Nat
def tw12011508916495158334:=Nat
def tw2508295967392758738:=Nat
def tw14660012505449315262:=Nat
def tw13866619491965910202:=Nat
def tw9600800331414489168:=Nat
def tw8569311559592326070:=Nat
def tw7320513690087132818:=Nat
def tw6090916378466788752:=Nat
def tw5411235359329404149:=Nat
def tw429220621465750102:=Nat
def tw3797499827287217442:=Nat
def tw2757951266704572521:=Nat
def tw1754574368953253092:=Nat
def tw15294130867649810112:=Nat
def tw12794444110896598889:=Nat
def tw9772580214544763322:=Nat
def tw9203822630679157991:=Nat
def tw8623691787228070494:=Nat
def tw8540450050589424864:=Nat
def tw7741172210065560051:=Nat
def tw6980296110414762794:=Nat
def tw6500048271477682926:=Nat
def tw5801378654817597102:=Nat
def tw4331268521105646653:=Nat
def tw16970611733291449891:=Nat
def tw13752485808458172454:=Nat
end PySem.W.Fast
set_option tactic.hygienic true
set_option maxRecDepth 100000 in
set_option maxHeartbeats 0 in
theorem PySem.Challenge.cw_shardask_k30_senses_by_rules_holds : PySem.Challenge.rw_shardask_k30_senses_by_rules.Holds := by
 w_on;o_law;k_head;(case hw=>w_witness2)
 k_fill
 refine My.aVa (l:=PySem.Challenge.rw_shardask_k30_senses_by_rules) (n:=63) (k:=44) (x:="_law_script") (CX:=L2.CX0) (sp:=fun K=>My.aT6 K 651) rfl (by decide) rfl ⟨rfl,by decide,by decide⟩ [(651,My.qC)] (by decide) (fun w h Y=>⟨PySem.W.km_in_of Y,My.bDr (PySem.W.km_tabs_of Y)⟩) ?C ?F (fun K H a ns hl hO hS=>My.aXv hl hO hS) (fun _ _ _ _ z=>z)
 case C=>
  intro w
  refine' My.bEc ?a ?l ?e1 ?e2 ?h ?n
  (case a=>k_is)
  (case l=>k_is)
  (case e1=>rfl)
  (case e2=>rfl)
  (case h=>first|k_is|kernel_rfl|decide +kernel)
  (case n=>first|k_is|kernel_rfl|decide +kernel)
 case F=>
  intro w mg fa h KX G hmg
  have T:My.Txt w (L2.KOf KX) mg:=by
   dsimp only [L2.KOf]
   apply My.Txt.mk
   iterate 19 (refine' mg_none_of KX G ?_;k_is)
   (refine' My.aMh KX G ?gq ?gr ?gt ?gy ?gu ?gv ?gs;(case gq=>k_is);(case gr=>k_is);(case gt=>rfl);(case gy=>rfl);(case gu=>rfl);(case gv=>repeat (first|exact L2.eZ|refine L2.bW rfl ?_|refine L2.bW ⟨_,rfl⟩ ?_));(case gs=>decide))
   (refine' My.aM0 KX G ?gq ?gr;(case gq=>k_is);(case gr=>exact ⟨_,rfl⟩))
   (refine' My.aMh KX G ?gq ?gr ?gt ?gy ?gu ?gv ?gs;(case gq=>k_is);(case gr=>k_is);(case gt=>rfl);(case gy=>rfl);(case gu=>rfl);(case gv=>repeat (first|exact L2.eZ|refine L2.bW rfl ?_|refine L2.bW ⟨_,rfl⟩ ?_));(case gs=>decide))
   iterate 3 (refine' My.aM0 KX G ?gq ?gr;(case gq=>k_is);(case gr=>exact ⟨_,rfl⟩))
   iterate 3 (refine' My.aMh KX G ?gq ?gr ?gt ?gy ?gu ?gv ?gs;(case gq=>k_is);(case gr=>k_is);(case gt=>rfl);(case gy=>rfl);(case gu=>rfl);(case gv=>repeat (first|exact L2.eZ|refine L2.bW rfl ?_|refine L2.bW ⟨_,rfl⟩ ?_));(case gs=>decide))
   iterate 7 (refine' My.aM0 KX G ?gq ?gr;(case gq=>k_is);(case gr=>exact ⟨_,rfl⟩))
   (refine' My.bI0 KX G ?ea0 ?ea1 ?ea2 ?ea3 ?ea4 ?ea5 ?ea6 ?ea7 ?ea8 ?eq ?er ?ex ?eo ?eu ?ehh ?er0 ?et0 ?ey0 ?eu0 ?ev0 ?er1 ?et1 ?ey1 ?eu1 ?ev1 ?er2 ?et2 ?ey2 ?eu2 ?ev2 ?er3 ?et3 ?ey3 ?eu3 ?ev3 ?er4 ?et4 ?ey4 ?eu4 ?ev4 ?er5 ?et5 ?ey5 ?eu5 ?ev5 ?er6 ?et6 ?ey6 ?eu6 ?ev6;(case ea0=>k_is);(case ea1=>k_is);(case ea2=>k_is);(case ea3=>k_is);(case ea4=>k_is);(case ea5=>k_is);(case ea6=>k_is);(case ea7=>k_is);(case ea8=>k_is);(case eq=>k_is);(case er=>k_is);(case ex=>exact ⟨rfl,rfl,rfl⟩);(case eo=>first|rfl|decide +kernel);(case eu=>rfl);(case ehh=>intro P;repeat (first|exact L2.PH.nil|refine L2.PH.cons rfl rfl rfl ?_));(case er0=>k_is);(case et0=>rfl);(case ey0=>rfl);(case eu0=>rfl);(case ev0=>repeat (first|exact L2.eZ|refine L2.bW rfl ?_|refine L2.bW ⟨_,rfl⟩ ?_));(case er1=>k_is);(case et1=>rfl);(case ey1=>rfl);(case eu1=>rfl);(case ev1=>repeat (first|exact L2.eZ|refine L2.bW rfl ?_|refine L2.bW ⟨_,rfl⟩ ?_));(case er2=>k_is);(case et2=>rfl);(case ey2=>rfl);(case eu2=>rfl);(case ev2=>repeat (first|exact L2.eZ|refine L2.bW rfl ?_|refine L2.bW ⟨_,rfl⟩ ?_));(case er3=>k_is);(case et3=>rfl);(case ey3=>rfl);(case eu3=>rfl);(case ev3=>repeat (first|exact L2.eZ|refine L2.bW rfl ?_|refine L2.bW ⟨_,rfl⟩ ?_));(case er4=>k_is);(case et4=>rfl);(case ey4=>rfl);(case eu4=>rfl);(case ev4=>repeat (first|exact L2.eZ|refine L2.bW rfl ?_|refine L2.bW ⟨_,rfl⟩ ?_));(case er5=>k_is);(case et5=>rfl);(case ey5=>rfl);(case eu5=>rfl);(case ev5=>repeat (first|exact L2.eZ|refine L2.bW rfl ?_|refine L2.bW ⟨_,rfl⟩ ?_));(case er6=>k_is);(case et6=>rfl);(case ey6=>rfl);(case eu6=>rfl);(case ev6=>repeat (first|exact L2.eZ|refine L2.bW rfl ?_|refine L2.bW ⟨_,rfl⟩ ?_)))
   (refine' My.bJk KX G ?mq ?mr ?mx ?mo ?mu ?mh;(case mq=>k_is);(case mr=>k_is);(case mx=>exact ⟨rfl,rfl,rfl⟩);(case mo=>first|rfl|decide +kernel);(case mu=>rfl);(case mh=>intro P;repeat (first|exact L2.PH.nil|refine L2.PH.cons rfl rfl rfl ?_)))
   iterate 2 (refine' My.aMh KX G ?gq ?gr ?gt ?gy ?gu ?gv ?gs;(case gq=>k_is);(case gr=>k_is);(case gt=>rfl);(case gy=>rfl);(case gu=>rfl);(case gv=>repeat (first|exact L2.eZ|refine L2.bW rfl ?_|refine L2.bW ⟨_,rfl⟩ ?_));(case gs=>decide))
   (refine' My.aM0 KX G ?gq ?gr;(case gq=>k_is);(case gr=>exact ⟨_,rfl⟩))
   iterate 2 (refine' My.aMh KX G ?gq ?gr ?gt ?gy ?gu ?gv ?gs;(case gq=>k_is);(case gr=>k_is);(case gt=>rfl);(case gy=>rfl);(case gu=>rfl);(case gv=>repeat (first|exact L2.eZ|refine L2.bW rfl ?_|refine L2.bW ⟨_,rfl⟩ ?_));(case gs=>decide))
   iterate 2 (refine' My.aM0 KX G ?gq ?gr;(case gq=>k_is);(case gr=>exact ⟨_,rfl⟩))
   (refine' My.aMd KX G (s:=My.zX) (My.FA.mk ?vj ?vl ?vc ?vk);(case vj=>k_is);(case vl=>k_is);(case vc=>k_is);(case vk=>k_is))
   (refine' My.aMd KX G (s:=My.aAn) (My.FA.mk ?vj ?vl ?vc ?vk);(case vj=>k_is);(case vl=>k_is);(case vc=>k_is);(case vk=>k_is))
   (refine' My.aMd KX G (s:=My.aAq) (My.FA.mk ?vj ?vl ?vc ?vk);(case vj=>k_is);(case vl=>k_is);(case vc=>k_is);(case vk=>k_is))
   (refine' My.aMd KX G (s:=My.aDr) (My.FA.mk ?vj ?vl ?vc ?vk);(case vj=>k_is);(case vl=>k_is);(case vc=>k_is);(case vk=>k_is))
   (refine' My.aMd KX G (s:=My.aEk) (My.FA.mk ?vj ?vl ?vc ?vk);(case vj=>k_is);(case vl=>k_is);(case vc=>k_is);(case vk=>k_is))
   iterate 101 (refine' My.bJd KX G (My.FA.mk ?fj ?fl ?fc ?fk) ?fb;(case fj=>k_is);(case fl=>k_is);(case fc=>k_is);(case fk=>k_is);(case fb=>first|exact fun _ _ _ _ _ _=>My.ln1 fun _=>rfl|exact fun _ _ _ _ _ _=>My.ln2 fun _ _=>rfl|exact fun _ _ _ _ _ _=>My.ln3 fun _ _ _=>rfl|exact fun _ _ _ _ _ _=>My.ln4 fun _ _ _ _=>rfl|exact fun _ _ _ _ _ _=>My.ln5 fun _ _ _ _ _=>rfl|exact fun _ _ _ _ _ _=>My.ln6 fun _ _ _ _ _ _=>rfl|exact fun _ _ _ _ _ _=>My.ln0 rfl))
   (refine' My.bJ2 KX G (My.CA.mk ?cj ?c1 ?c2 ?c3 ?c4 ?c5 ?c6) ?cr;(case cj=>k_is);(case c1=>first|k_is|kernel_rfl|decide +kernel);(case c2=>first|k_is|kernel_rfl|decide +kernel);(case c3=>first|k_is|kernel_rfl|decide +kernel);(case c4=>first|k_is|kernel_rfl|decide +kernel);(case c5=>first|k_is|kernel_rfl|decide +kernel);(case c6=>first|k_is|kernel_rfl|decide +kernel);(case cr=>(repeat (refine' ⟨My.bJo (My.MA.mk ?mj ?mi ?ml ?mc ?mk) ?mb,?_⟩;(case mj=>k_is);(case mi=>first|k_is|kernel_rfl|decide +kernel);(case ml=>k_is);(case mc=>k_is);(case mk=>k_is);(case mb=>first|exact fun _ _ _ _ _ _=>My.ln1 fun _=>rfl|exact fun _ _ _ _ _ _=>My.ln2 fun _ _=>rfl|exact fun _ _ _ _ _ _=>My.ln3 fun _ _ _=>rfl|exact fun _ _ _ _ _ _=>My.ln4 fun _ _ _ _=>rfl|exact fun _ _ _ _ _ _=>My.ln5 fun _ _ _ _ _=>rfl|exact fun _ _ _ _ _ _=>My.ln6 fun _ _ _ _ _ _=>rfl|exact fun _ _ _ _ _ _=>My.ln0 rfl)));unfold L2.lG;(repeat (refine' ⟨?ma,?_⟩;(case ma=>k_is)));k_is))
  have C:L2.bBl (L2.KOf KX) mg "are_cuts" 651:=by
   dsimp only [L2.KOf]
   refine' My.bHv KX G ?a ?l ?e1 ?e2 ?h
   (case a=>k_is)
   (case l=>k_is)
   (case e1=>rfl)
   (case e2=>rfl)
   (case h=>first|k_is|kernel_rfl|decide +kernel)
  exact My.bGa (P:=PySem.Challenge.rw_shardask_k30_senses_by_rules.prog) T C hmg
