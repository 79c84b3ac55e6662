import PyProof.Rows.All
import Wide.All
import OpenK.AllK
import Wide.FinOn
import Lean
import PyProof.EqAt
import PyProof.EqKinds
import PyProof.TupleCall
import PyProof.ExcClass3
import PyProof.ExcBaseAll.ValueError
import PyProof.InstStoreFacts
import PyProof.ExcArgsOwn
import PyProof.ExcAttrAll.ValueError
import PyProof.CallType
import PyProof.WalkLemmas
import PyProof.StrOps
import PyProof.ForAny
import PyProof.IsInstanceH
import PyProof.IsiFacts
import PyProof.IsiFacts2
import PyProof.FactsAll.object
import PyProof.ListMulRoad
import PyProof.FactsAll.tuple_2
import PyProof.StrLawsIdx
import KE.KDictList
import PyProof.Rows.Range3
import PyProof.EnumMake
import PyProof.EnumFor
import PyProof.CompUse
import PyProof.ListStr
import PyProof.NeKinds
import KE.KIntText
import KE.KUnpack
import KE.IntTextText
import KE.KDictOf
import KE.KEqDict
import KE.KDictSum
import PyProof.AttrMissHeap
import PyProof.Rows.StrNews
import PyProof.StrLawsReplace
import PyProof.Rows.StrItems
import PyProof.MeetsStr2
import PyProof.IsInstanceT
import PySem.Challenge.RW_shardask_k71_questions_read
set_option Elab.async false
set_option linter.all false
set_option compiler.extract_closed false
set_option maxRecDepth 100000
set_option maxHeartbeats 6400000
local macro_rules|`(tactic|trivial)=>`(tactic|(intro a b c d h;first|(cases h;subst_vars;rfl)|(repeat (first|(obtain ⟨e,_⟩:=h;subst e;rfl)|(obtain ⟨_,h⟩:=h)|fail))))
abbrev m5:List PySem.Str:=["thing"]
abbrev m7:List PySem.Str:=["_law_state","_law_many"]
abbrev m8:List PySem.Str:=["question"]
abbrev n6:List PySem.Str:=["_law_state","_law_question_here","_law_head_here","_law_other","_law_other_head","_law_names_here"]
abbrev n7:List PySem.Str:=["thing","least","most","is_part"]
abbrev n8:List PySem.Str:=["self"]
abbrev o4:List PySem.Str:=["_law_state","_law_question_here","_law_head_here","_law_names_here"]
abbrev o5:List PySem.Str:=["_law_question_here","_law_head_here","_law_own","_law_names_here"]
abbrev o6:List PySem.Str:=["_law_state","_law_head_here","_law_least"]
abbrev o7:List PySem.Str:=["_law_state","_law_head_here"]
abbrev o8:List PySem.Str:=["_law_state","_law_heads","_law_names_here","_law_deep"]
abbrev o9:List PySem.Str:=["words","question","depth"]
abbrev u5:List PySem.Str:=["_law_state","_law_question_here","_law_names_here"]
abbrev u9:List PySem.Str:=["_law_state","_law_head_here","_law_fresh_here"]
abbrev z8:List PySem.Str:=["words","word","read_one"]
abbrev bQA:List PySem.Str:=["self","word"]
abbrev bQB:List PySem.Str:=["words"]
abbrev bQC:List PySem.Str:=["text"]
abbrev bQD:List PySem.Str:=["thing","texts"]
abbrev bQE:List PySem.Str:=["words","read_one"]
abbrev bQF:List PySem.Str:=["_law_state","_law_names_here"]
abbrev bQG:List PySem.Str:=["_law_found","_law_due"]
abbrev bQH:List PySem.Str:=["_law_script"]
abbrev bQI:List PySem.Str:=["word"]
abbrev bQJ:List PySem.Str:=["_law_state","_law_kind"]
abbrev bQK:List PySem.Str:=["words","depth"]
abbrev bQL:List PySem.Str:=["self","act"]
abbrev bQM:List PySem.Str:=["_law_value_here"]
abbrev bQN:List PySem.Str:=["_law_k","_law_fresh_here","_law_head_here"]
abbrev bQO:List PySem.Str:=["_law_question_here"]
abbrev bQP:List PySem.Str:=["self","text"]
abbrev bQQ:List PySem.Str:=["_law_name","_law_kind"]
abbrev bQR:List PySem.Str:=["_law_sums_here"]
abbrev bQS:List PySem.Str:=["_law_thing"]
section
open PySem PySem.Spec PySem.Calls PyProof.Rows
def b7:=@wpAny_bind
def b8:=@List.getElem?_eq_getElem
def c7:=@Heap.get?_push_of_some
def d7:=@List.length_map
def d9:=@List.length_cons
def j4:=@List.length_append
def j5:=@List.mem_cons_self
def j6:=@decide_eq_false
def j7:=@List.mem_cons_of_mem
def j8:=@wpAny_pure
def j9:=@Nat.le_refl
def m9:=@List.size_toArray
def v7:=@decide_eq_true
def w6:=@Heap.get?_push_size
def z9:=@Heap.lt_size
def bAA:=@Bool.false_ne_true
def bAB:=@List.map_cons
def bAC:=@List.getElem?_map
def bAD:=@List.append_assoc
def bAE:=@List.not_mem_nil
def bAF:=@Nat.ne_of_lt
def bAG:=@Nat.le_trans
def bAH:=@List.length_range
def bAI:=@Bool.and_eq_true
def bAJ:=@List.mem_cons
def bAK:=@Nat.zero_le
def bAL:=@Nat.lt_of_lt_of_le
def bAM:=@Option.some.inj
def bAN:=@Array.getElem?_eq_getElem
def bAO:=@List.mem_append_right
def bAP:=@List.map_map
def bAQ:=@PySem.W.mg_of
def bAR:=@List.mem_of_getElem?
def bAS:=@wpAny_field
def bAT:=@List.getElem?_eq_none
def bAU:=@Array.length_toList
def bAV:=@List.length_take
def bAW:=@List.append_nil
def bAX:=@wpAny_newObj_type
def bAY:=@List.map_append
def bAZ:=@List.getD_eq_getElem?_getD
def bBA:=@List.length_singleton
def bBB:=@wpAny_callSpecial?_slot
def bBC:=@Option.bind_some
def bBD:=@List.cons_append
def bBE:=@wpAny_mono
def bBF:=@Heap.get?_update_self
def bBG:=@Array.getElem?_toList
def bBH:=@wpAny_truthy_bool
def bBI:=@wpAny_holding
def bBJ:=@List.contains_cons
def bBK:=@List.take_of_length_le
def bBL:=@List.all_eq_true
def bBM:=@List.take_add_one
def bBN:=@wpAny_call_entry
def bBO:=@Heap.get?_update_other
def bBP:=@List.take_length
def bBQ:=@List.flatten_cons
def bBR:=@wpAny_loadPart_at
def bBS:=@Bool.false_and
def bBT:=@wpAny_seqItems
def bBU:=@Bool.true_and
def bBV:=@List.find?_cons
def bBW:=@wpAny_Call_Name_kw
def bBX:=@List.mem_of_mem_take
def bBY:=@List.getElem?_append_right
def bBZ:=@List.length_reverse
def bCA:=@List.getElem?_range
def bCB:=@Bool.eq_iff_iff
def bCC:=@PyProof.Rows.slot_tuple_getitem
def bCD:=@List.length_drop
def bCE:=@wpAny_setField_rec
def bCF:=@Nat.lt_irrefl
def bCG:=@List.set_set
def bCH:=@Heap.size_push
def bCI:=@codeAny_call_builtin
def bCJ:=@Int.toNat_natCast
def bCK:=@List.ext_getElem?
def bCL:=@List.length_nil
def bCM:=@PyProof.Rows.callWith_type1
def bCN:=@Array.getD_eq_getD_getElem?
def bCO:=@List.lookup_cons
def bCP:=@List.getElem_mem
def bCQ:=@Nat.lt_of_le_of_lt
def bCR:=@Bool.false_eq_true
def bCS:=@wpAny_setField
def bCT:=@Nat.le_of_ble_eq_true
def bCU:=@List.getElem?_append_left
def bCV:=@wpAny_passesOwn
def bCW:=@Nat.ne_of_gt
def bCX:=@wpAny_pyIter_list
def bCY:=@List.take_sublist
def bCZ:=@List.filterMap_cons
def bDA:=@List.replicate_succ
def bDB:=@wpAny_isSubtype_exc
def bDC:=@Heap.SameBut.update
def bDD:=@Nat.toDigits_of_lt_base
def bDE:=@List.eq_nil_of_length_eq_zero
def bDF:=@List.getElem?_set_self
def bDG:=@codeAny_mono
def bDH:=@Bool.or_true
def bDI:=@Obj.data_mapFields
def bDJ:=@Nat.zero_add
def bDK:=@wpAny_execs_nil
def bDL:=@List.forIn_cons
def bDM:=@List.nil_append
def bDN:=@List.range_succ
def bDO:=@Obj.isFreed_of_fields
def bDP:=@List.mem_append_left
def bDQ:=@wpAny_call
def bDR:=@Around.under_plainId
def bDS:=@List.range_eq_range'
def bDT:=@Nat.le_add_right
def bDU:=@List.any_eq_true
def bDV:=@Array.toList_append
def bDW:=@List.map_congr_left
def bDX:=@List.getElem_of_mem
def bDY:=@wpAny_standAt
def bDZ:=@wpAny_onRaise
def bEA:=@wpAny_attempt
def bEB:=@List.Pairwise.imp_of_mem
def bEC:=@codeAny_builtin
def bED:=@wpAny_pyIter_tuple
def bEE:=@wpAny_rule
def bEF:=@Int.natAbs_natCast
def bEG:=@List.reverse_cons
def bEH:=@Int.zero_add
def bEI:=@List.getElem?_zipWith
def bEJ:=@PyProof.Rows.callWith_builtin1
def bEK:=@List.range'_succ
def bEL:=@List.any_cons
def bEM:=@Heap.get?_none_of_le
def bEN:=@List.getElem?_set_ne
def bEO:=@List.mem_of_mem_drop
def bEP:=@Nat.min_eq_left
def bEQ:=@Nat.toDigits_append_toDigits
def bER:=@List.nodup_cons
def bES:=@List.length_zipWith
def bET:=@Nat.le_of_lt
def bEU:=@Nat.lt_trans
def bEV:=@Calls.Name_function_global
def bEW:=@List.forIn_nil
def bEX:=@List.drop_zero
def bEY:=@Int.emod_lt_of_pos
def bEZ:=@List.zip_cons_cons
def bFA:=@Nat.le_succ
def bFB:=@List.nodup_append
abbrev bFC:=PySem.W.Frag
abbrev bFD:=Value->Shared->Prop
abbrev bFE:=List (Addr × Obj)
abbrev bFF:=Str->Option Value
end
local macro_rules
  | `(tactic| trivial) => `(tactic| first | exact Or.inl rfl | exact Or.inr rfl | exact Or.inr (Or.inl rfl) | exact Or.inr (Or.inr rfl) | exact⟨rfl, rfl, rfl, by decide +kernel, rfl, by decide +kernel, by decide +kernel⟩ | exact⟨by decide +kernel, rfl, by decide +kernel, by decide +kernel⟩ | decide +kernel | fail)
namespace L2
open PySem PySem.Spec PyProof.Rows
abbrev Key:=Sum Int Str
def aD6:Key->Value->Bool
 |.inl k,v=>Value.isInt k v
 |.inr x,v=>Value.isStrOf x v
def bFe (w:World):Key->Int
 |.inl k=>hashInt k
 |.inr x=>hashStr w x
theorem eX:∀{k:Key} {v:Value},aD6 k v=true->(∃i t,k=Sum.inl i/\v=Value.int i t)\/(∃x t,k=Sum.inr x/\v=Value.str x t)
 |.inl i,v,h=>by obtain⟨t,e⟩:=Value.isInt_shape h;exact .inl ⟨i,t,rfl,e⟩
 |.inr x,v,h=>by obtain⟨t,e⟩:=Value.isStrOf_shape h;exact .inr ⟨x,t,rfl,e⟩
def aQa (i:Int)(t:Tok):aD6 (.inl i) (.int i t)=true:=by simp[aD6,Value.isInt]
def aQo (x:Str)(t:Tok):aD6 (.inr x) (.str x t)=true:=by simp[aD6,Value.isStrOf]
def bBy (a b:Int):decide ((Sum.inl a:Key)=Sum.inl b)=(a == b):=by
 by_cases e:a=b
 ·subst e;simp
 ·have h:¬ (Sum.inl a:Key)=Sum.inl b:=λq=>e (Sum.inl.inj q);rw[j6 h];exact (beq_eq_false_iff_ne.mpr e).symm
def bBa (a b:Str):decide ((Sum.inr a:Key)=Sum.inr b)=decide (a=b):=by
 by_cases e:a=b
 ·subst e;simp
 ·have h:¬ (Sum.inr a:Key)=Sum.inr b:=λq=>e (Sum.inr.inj q);rw[j6 h,j6 e]
def bBn (a:Int)(b:Str):decide ((Sum.inl a:Key)=Sum.inr b)=false:=j6 (λq=>nomatch q)
def bC1 (a:Str)(b:Int):decide ((Sum.inr a:Key)=Sum.inl b)=false:=j6 (λq=>nomatch q)
def eU (prog:Program)(w:World):PySem.KeyKind prog w Key where
 is:=aD6
 hash:=bFe w
 inj:=λv a b ha hb=>by
  rcases eX ha with⟨i,t,rfl,rfl⟩|⟨x,t,rfl,rfl⟩
  ·rcases eX hb with⟨j,u,rfl,e⟩|⟨y,u,rfl,e⟩
   ·injection e with e1 _;rw[e1]
   ·exact nomatch e
  ·rcases eX hb with⟨j,u,rfl,e⟩|⟨y,u,rfl,e⟩
   ·exact nomatch e
   ·injection e with e1 _;rw[e1]
 byValue:=λk v h=>by rcases eX h with⟨i,t,rfl,rfl⟩|⟨x,t,rfl,rfl⟩ <;> rfl
 pyHash:=λhv h=>by
  rcases eX hv with⟨i,t,rfl,rfl⟩|⟨x,t,rfl,rfl⟩
  ·exact wpAny_pyHash_int h
  ·exact wpAny_pyHash_str h
 eqBool:=λhu hv h=>by
  rcases eX hu with⟨i,t,rfl,rfl⟩|⟨x,t,rfl,rfl⟩
  ·rcases eX hv with⟨j,u,rfl,rfl⟩|⟨y,u,rfl,rfl⟩
   ·rw[bBy] at h;exact wpAny_eqBool_int h
   ·rw[bBn] at h;exact SeqAt.EqAt.int_str i t y u _ _ _ _ h
  ·rcases eX hv with⟨j,u,rfl,rfl⟩|⟨y,u,rfl,rfl⟩
   ·rw[bC1] at h;exact SeqAt.EqAt.str_int x t j u _ _ _ _ h
   ·rw[bBa] at h;exact wpAny_eqBool_str h
 «strs»:=λk x t v h=>by
  rcases eX h with⟨i,u,rfl,e⟩|⟨y,u,rfl,e⟩
  ·exact nomatch e
  ·injection e with e1 _;subst e1;cases v <;> rfl
def aJo (prog:Program)(w:World)(i:Int)(t:Tok):(eU prog w).is (.inl i) (.int i t)=true:=aQa i t
def aLc (prog:Program)(w:World)(x:Str)(t:Tok):(eU prog w).is (.inr x) (.str x t)=true:=aQo x t
inductive V where
 |non|bl (b:Bool)|int (i:Int)|str (x:Str)|byt (b:Array UInt8)|flt (b:UInt64)|ref (a:Addr)|ty (n:String)
 deriving DecidableEq
def RelV:V->Value->Prop
 |.non,u=>u=Value.none
 |.bl b,u=>u=Value.bool b
 |.int i,u=>∃t,u=Value.int i t
 |.str x,u=>∃t,u=Value.str x t
 |.byt b,u=>∃t,u=Value.bytes b t
 |.flt b,u=>∃t,u=Value.float b t
 |.ref a,u=>u=Value.ref a
 |.ty n,u=>u=Value.type n
abbrev Vals:List V->List Value->Prop:=Paired RelV
def Vals.length (r:Vals xs us):xs.length=us.length:=Paired.length r
theorem Vals.get:∀{xs:List V} {us:List Value} {i:Nat} {x:V},Vals xs us->xs[i]?=some x->∃u,us[i]?=some u/\RelV x u
 |_,_,_,_,.nil,e=>by simp at e
 |_,_,0,_,.cons r _,e=>by simp at e;subst e;exact⟨_,rfl,r⟩
 |_,_,i+1,x,.cons _ t,e=>by obtain⟨u,b,a⟩:=Vals.get t (by simpa using e);exact⟨u,by simpa using b,a⟩
theorem Vals.set (r:RelV x u):∀{xs:List V} {us:List Value} (i:Nat),Vals xs us->Vals (xs.set i x) (us.set i u)
 |_,_,_,.nil=>.nil
 |_,_,0,.cons _ t=>.cons r t
 |_,_,i+1,.cons q t=>.cons q (Vals.set r i t)
theorem Vals.append:∀{xs ys:List V} {us ws:List Value},Vals xs us->Vals ys ws->Vals (xs++ys) (us++ws)
 |_,_,_,_,.nil,s=>s
 |_,_,_,_,.cons r t,s=>.cons r (Vals.append t s)
theorem Vals.take:∀{xs:List V} {us:List Value} (n:Nat),Vals xs us->Vals (xs.take n) (us.take n)
 |_,_,0,_=>.nil
 |_,_,_+1,.nil=>.nil
 |_,_,n+1,.cons r t=>.cons r (Vals.take n t)
theorem Vals.drop:∀{xs:List V} {us:List Value} (n:Nat),Vals xs us->Vals (xs.drop n) (us.drop n)
 |_,_,0,r=>r
 |_,_,_+1,.nil=>.nil
 |_,_,n+1,.cons _ t=>Vals.drop n t
def rB:Option V->Option Value->Prop
 |some v,some u=>RelV v u
 |none,none=>True
 |_,_=>False
def KV {κ:Type}:List (κ × V)->List (κ × Value)->Prop:=Paired λp q=>p.1=q.1/\RelV p.2 q.2
def kV:Key->V
 |.inl i=>.int i
 |.inr x=>.str x
inductive HO where
  |lst (xs:List V)
  |tup (xs:List V)
  |dK (kvs:List (Key × V))|dT (kvs:List (List Key × V))
  |set (S:Int->Bool) (n:Nat)
  |ins (C dx:Addr) (fs:List (Str × V))
  |own (x:Addr)
  |xd (fs:List (Str × V))
  |met (f x:Addr)
  |rng (lo hi:Int)
  |frz (o:Obj) (u:HO)
  |tbl (ps:Array Value)
  |tab (q:Str)
  |ext (φ:Heap->Prop)
abbrev Hp:=Addr->Option HO
def upd (H:Hp)(a:Addr)(o:HO):Hp:=λb=>if b=a then some o else H b
def aL:upd H a o a=some o:=by unfold upd;rw[if_pos rfl]
def aV (h:b≠a):upd H a o b=H b:=by unfold upd;rw[if_neg h]
def aO6:upd (upd H a o) a u=upd H a u:=by funext b;unfold upd;split <;> rfl
def wK {H:Hp}{a b:Addr}{o u:HO}(h:H a=some o)(h':H b=some u)(d:o≠u):a≠b:=by intro e;subst e;rw[h] at h';exact d (bAM h')
def bA {H:Hp}{a b:Addr}{o:HO}(h:H a=some o)(h':H b=none):a≠b:=by intro e;subst e;rw[h] at h';cases h'
def wU (h:Heap)(a:Addr)(items:Array Value):Prop:=IsTup h a items/\∀o,h.get? a=some o->o.dict=none
def wU.of (e:h.get? a=some o)(d:o.dict=none)(x:IsTup h a items):wU h a items:=⟨x,λc b=>by rw[e] at b;cases b;exact d⟩
def wU.new (h:Heap)(items:Array Value):wU (h.push { cls:=.type "tuple",data:=.seq items }) h.objs.size items:=.of (w6 _ rfl) rfl (IsTup.new _ _)
def wU.keep {h h':Heap}{a:Addr}{items:Array Value}(x:wU h a items)(k:∀o,h.get? a=some o->h'.get? a=some o):wU h' a items:=by obtain⟨⟨o,e,c⟩,d⟩:=x;exact .of (k o e) (d o e) ⟨o,k o e,c⟩
section
variable (P:Program)(w:World)
def fQ (H:Hp)(h:Heap)(a:Addr):HO->Prop
 |.lst xs=>xs.length<=sizeLine/\∃its n,Vals xs its/\h.get? a=some { cls:=.type "list",data:=.seq its.toArray n }
 |.tup xs=>xs.length<=sizeLine/\∃its:List Value,Vals xs its/\wU h a its.toArray
 |.dK kvs=>kvs.length<=sizeLine/\(a == sysModules)=false/\∃vs,KV kvs vs/\h.DictOf (eU P w) a vs
 |.dT kvs=>kvs.length<=sizeLine/\(a == sysModules)=false/\∃xs:List (List Key × Addr × Value),
   Paired (λp q=>p.1=q.1/\H q.2.1=some (.tup (p.1.map kV))/\RelV p.2 q.2.2) kvs xs /\
   ∃o es ep,h.get? a=some o/\o.ExactDict/\o.data=.dict es ep/\es.toList=xs.map (entryOfKey (tupleKind (eU P w)))/\(xs.map (·.1)).Nodup
 |.set S n=>h.SetOf (intKind P w) a S n
 |.ins C dx fs=>H dx=some (.own a)/\fs.length<=1000/\dx≠a/\h.get? a=some (PySem.W.instObj C dx) /\
   ∃mA,h.Ns1 dx mA/\(∀f,rB (fs.lookup f) (mA f))/\PySem.Within mA (fs.map (·.1))
 |.own _=>∃o,h.get? a=some o
 |.xd fs=>∃mA,h.Ns1 a mA/\∀f,rB (fs.lookup f) (mA f)
 |.rng lo hi=>∃t u v,h.get? a=some { cls:=.type "range",data:=.fields #[.int lo t,.int hi u,.int 1 v] }
 |.frz o u=>h.get? a=some o/\fQ H h a u
 |.tbl ps=>h.get? a=some { cls:=.none,data:=.fields ps }
 |.tab q=>∃ps:Array Value,h.get? a=some { cls:=.none,data:=.fields ps }/\TriplesOk ps.toList/\∀pos cv,codeAmong pos ps.toList=some cv->∃c oc vs t,cv=.ref c/\H c=some (.own a)/\h.get? c=some oc/\oc.data=.fields vs/\vs[1]?=some (.str q t)
 |.met f x=>h.get? a=some (PySem.W.methodObj (.ref f) (.ref x))
 |.ext φ=>φ h/\(∃o,h.get? a=some o)/\∀h1 h2:Heap,φ h1->(∀o,h1.get? a=some o->h2.get? a=some o)->φ h2
def HOk (H:Hp)(h:Heap):Prop:=∀a o,H a=some o->fQ P w H h a o
end
section
variable {P:Program}{w:World}{H H':Hp}{h h':Heap}{a:Addr}{o:HO}
def fQ.lt (x:fQ P w H h a o):a<h.objs.size:=by
 cases o with
 |lst xs=>obtain⟨_,_,_,_,e⟩:=x;exact z9 e
 |tup xs=>obtain⟨_,_,_,p⟩:=x;exact p.1.lt
 |dK kvs=>obtain⟨_,_,_,_,o,_,_,e,_⟩:=x;exact z9 e
 |dT kvs=>obtain⟨_,_,_,_,o,_,_,e,_⟩:=x;exact z9 e
 |set S n=>obtain⟨o,_,_,_,e,_⟩:=x;exact z9 e
 |ins C dx fs=>obtain⟨_,_,_,e,_⟩:=x;exact z9 e
 |own y=>obtain⟨_,e⟩:=x;exact z9 e
 |xd fs=>obtain⟨_,⟨_,_,_,e,_⟩,_⟩:=x;exact z9 e
 |rng lo hi=>obtain⟨_,_,_,e⟩:=x;exact z9 e
 |frz ob u=>obtain⟨e,_⟩:=x;exact z9 e
 |tbl ps=>exact z9 (show h.get? a=some _ from x)
 |tab q=>obtain⟨_,e,_⟩:=x;exact z9 e
 |met f y=>exact z9 (show h.get? a=some _ from x)
 |ext φ=>obtain⟨_,⟨_,e⟩,_⟩:=x;exact z9 e
theorem Paired.aZ1 {α β:Type}{F G:α->β->Prop}:∀{l₁:List α} {l₂:List β},Paired F l₁ l₂->(∀a b,F a b->G a b)->Paired G l₁ l₂
 |_,_,.nil,_=>.nil
 |_,_,.cons r t,f=>.cons (f _ _ r) (Paired.aZ1 t f)
def fQ.stay (x:fQ P w H h a o)(k:∀b u,(b=a\/H b=some (.own a))->h.get? b=some u->h'.get? b=some u)
  (F:∀b,H b=some (.own a)->H' b=some (.own a)) (J:∀b xs,H b=some (.tup xs)->H' b=some (.tup xs)):fQ P w H' h' a o:=by
 induction o with
 |lst xs=>obtain⟨z,l,n,r,e⟩:=x;exact⟨z,l,n,r,k _ _ (.inl rfl) e⟩
 |tup xs=>obtain⟨z,l,r,p⟩:=x;exact⟨z,l,r,p.keep λo e=>k _ _ (.inl rfl) e⟩
 |dK kvs=>obtain⟨z,y,A,r,j,i,g,e,c⟩:=x;exact⟨z,y,A,r,j,i,g,k _ _ (.inl rfl) e,c⟩
 |dT kvs=>obtain⟨z,y,xs,r,j,i,g,e,c⟩:=x;exact⟨z,y,xs,Paired.aZ1 r λp q z=>⟨z.1,J _ _ z.2.1,z.2.2⟩,j,i,g,k _ _ (.inl rfl) e,c⟩
 |set S n=>obtain⟨j,i,g,t,e,c⟩:=x;exact⟨j,i,g,t,k _ _ (.inl rfl) e,c⟩
 |ins C dx fs=>obtain⟨d,z,E,e,s,⟨D,i,g,I,c⟩,r⟩:=x;exact⟨F _ d,z,E,k _ _ (.inl rfl) e,s,⟨D,i,g,k _ _ (.inr d) I,c⟩,r⟩
 |own y=>obtain⟨j,e⟩:=x;exact⟨j,k _ _ (.inl rfl) e⟩
 |xd fs=>obtain⟨s,⟨D,i,g,e,c⟩,r⟩:=x;exact⟨s,⟨D,i,g,k _ _ (.inl rfl) e,c⟩,r⟩
 |rng lo hi=>obtain⟨t,u,v,e⟩:=x;exact⟨t,u,v,k _ _ (.inl rfl) e⟩
 |frz j u ih=>obtain⟨e,q⟩:=x;exact⟨k _ _ (.inl rfl) e,ih q⟩
 |tab q=>obtain⟨m,e,t,c⟩:=x;exact⟨m,k _ _ (.inl rfl) e,t,λB G q=>let ⟨c',oc,A,tk,a1,a2,a3,a4⟩:=c B G q;⟨c',oc,A,tk,a1,F _ a2,k _ _ (.inr a2) a3,a4⟩⟩
 |tbl m=>have e:h.get? a=some { cls:=.none,data:=.fields m }:=x;show h'.get? a=some { cls:=.none,data:=.fields m };exact k a _ (.inl rfl) e
 |met f y=>have e:h.get? a=some (PySem.W.methodObj (.ref f) (.ref y)):=x;show h'.get? a=some (PySem.W.methodObj (.ref f) (.ref y));exact k a _ (.inl rfl) e
 |ext φ=>obtain⟨p,⟨o,e⟩,st⟩:=x;exact⟨st _ _ p λo q=>k _ _ (.inl rfl) q,⟨o,k _ _ (.inl rfl) e⟩,st⟩
def HOk.lt (x:HOk P w H h)(e:H a=some o):a<h.objs.size:=(x a o e).lt
def HOk.fresh (x:HOk P w H h)(e:h.objs.size<=a):H a=none:=by
 cases q:H a with
 |none=>rfl
 |some u=>exact absurd (bAL (x.lt q) e) (bCF _)
def HOk.kept (x:HOk P w H h)(k:∀b u,h.get? b=some u->h'.get? b=some u):HOk P w H h':=λa o e=>
 (x a o e).stay (λb u _ q=>k b u q) (λ_ q=>q) λ_ _ q=>q
def HOk.laid (x:HOk P w H h)(k:∀b u,h.get? b=some u->h'.get? b=some u)(j:h.objs.size<=a)(g:fQ P w (upd H a o) h' a o):HOk P w (upd H a o) h':=λb u e=>by
 have d:=x.fresh j;by_cases f:b=a
 ·subst f;rw[aL] at e;cases e;exact g
 ·rw[aV f] at e;exact (x b u e).stay (λc v _ q=>k c v q) (λc q=>by rw[aV (bA q d)];exact q) λc i q=>by rw[aV (bA q d)];exact q
end
def Rd (H:Hp)(a:Addr)(u:HO):Prop:=H a=some u\/∃o,H a=some (.frz o u)
def Rd.ok (r:Rd H a u)(x:HOk P w H h):fQ P w H h a u:=by
 rcases r with r|⟨o,r⟩
 ·exact x a u r
 ·obtain⟨_,q⟩:=x a _ r;exact q
def Mut:Option HO->Prop
 |some (.lst _)=>True
 |some (.dK _)=>True
 |some (.dT _)=>True
 |some (.set _ _)=>True
 |some (.ins _ _ _)=>True
 |some (.ext _)=>True
 |some (.tab _)=>True
 |_=>False
section
variable {P:Program}{w:World}{H:Hp}{h h':Heap}{x e:Addr}{o':HO}
def HOk.write (s:HOk P w H h)(j:Mut (H x))(n:e=x\/H e=some (.own x))(k:∀b u,b≠e->h.get? b=some u->h'.get? b=some u)(o:∃u,h'.get? e=some u)
  (p:fQ P w (upd H x o') h' x o'):HOk P w (upd H x o') h':=λb u q=>by
 have d:∀c y,H c=some (.own y)->c≠x:=λc y r z=>by subst z;rw[r] at j;exact j
 have f:∀c i,H c=some (.tup i)->c≠x:=λc i r z=>by subst z;rw[r] at j;exact j
 by_cases g:b=x
 ·subst g;rw[aL] at q;cases q;exact p
 ·rw[aV g] at q;by_cases a:b=e
  ·have l:H b=some (.own x):=by
    rcases n with z|z
    ·exact absurd (a.trans z) g
    ·rw[a];exact z
   rw[q] at l;cases l;obtain⟨v,m⟩:=o;exact⟨v,by rw[a];exact m⟩
  ·refine (s b u q).stay (λc v hc r=>k c v ?_ r) (λc r=>by rw[aV (d c b r)];exact r) λc i r=>by rw[aV (f c i r)];exact r
   rcases hc with rfl|hc
   ·exact a
   ·rintro rfl;rcases n with z|z
    ·exact d c b hc z
    ·rw[hc] at z;cases z;exact g rfl
end
structure Un (fs ex:List Addr)(H H':Hp)(h h':Heap):Prop where
 keep:∀b o,h.get? b=some o->H b=none->b∉fs->b∉ex->h'.get? b=some o
 slot:∀b o,h.get? b=some o->H b=none->b∈fs->b∉ex->∃sl,h'.get? b=some { o with slots:=sl }
 free:∀b o,h.get? b=some o->H b=none->b∉ex->H' b=none
 there:∀b o,h.get? b=some o->b∉ex->∃o',h'.get? b=some o'
 tups:∀b xs,H b=some (.tup xs)->H' b=some (.tup xs)
 frzs:∀b o u,H b=some (.frz o u)->H' b=some (.frz o u)
 tbls:∀b ps,H b=some (.tbl ps)->∃more,H' b=some (.tbl (ps++more))
section
variable {fs fs' ex ex':List Addr}{H H1 H2:Hp}{h h1 h2 h':Heap}{a x e:Addr}{o:HO}
def Un.any (u:Un fs ex H H1 h h1)(q:h.get? b=some ob)(n:H b=none)(c:b∉ex):∃sl,h1.get? b=some { ob with slots:=sl }:=by
 by_cases a:b∈fs
 ·exact u.slot b ob q n a c
 ·exact⟨ob.slots,u.keep b ob q n a c⟩
def Un.kept (k:∀b u,h.get? b=some u->h'.get? b=some u):Un fs ex H H h h':=
 ⟨λb a q _ _ _=>k b a q,λb a q _ _ _=>⟨a.slots,k b a q⟩,λ_ _ _ n _=>n,λb a q _=>⟨a,k b a q⟩,λ_ _ q=>q,λ_ _ _ q=>q,λ_ c q=>⟨#[],by rw[q];simp⟩⟩
def Un.refl:Un fs ex H H h h:=Un.kept λ_ _ q=>q
def Un.laid (k:∀b u,h.get? b=some u->h'.get? b=some u)(e:h.objs.size<=a)(hn:H a=none):Un fs ex H (upd H a o) h h' where
 keep:=λb u q _ _ _=>k b u q
 slot:=λb u q _ _ _=>⟨u.slots,k b u q⟩
 free:=λb u q n _=>by rw[aV (bAF (bAL (z9 q) e))];exact n
 there:=λb u q _=>⟨u,k b u q⟩
 tups:=λb c q=>by rw[aV (bA q hn)];exact q
 frzs:=λb u c q=>by rw[aV (bA q hn)];exact q
 tbls:=λb d q=>⟨#[],by rw[aV (bA q hn),q];simp⟩
def Un.write (c:Mut (H x))(m:e=x\/H e=some (.own x))(k:∀b u,b≠e->h.get? b=some u->h'.get? b=some u)(j:∃u,h'.get? e=some u):Un fs ex H (upd H x o) h h':=by
 have g:∀b,H b=none->b≠x:=λb n z=>by subst z;rw[n] at c;exact c
 have f:∀b,H b=none->b≠e:=λb n z=>by
  subst z;rcases m with r|r
  ·exact g b n r
  ·rw[n] at r;cases r
 have d:∀b u,H b=some u->¬ Mut (some u)->b≠x:=λb u q l z=>by subst z;rw[q] at c;exact l c
 refine⟨λb u q n _ _=>k b u (f b n) q,λb u q n _ _=>⟨u.slots,k b u (f b n) q⟩,λb u q n _=>by rw[aV (g b n)];exact n,λb u q _=>?_,
  λb i q=>by rw[aV (d b _ q λz=>z)];exact q,λb u i q=>by rw[aV (d b _ q λz=>z)];exact q,λb p q=>⟨#[],by rw[aV (d b _ q λz=>z),q];simp⟩⟩
 by_cases a:b=e
 ·subst a;exact j
 ·exact⟨u,k b u a q⟩
end
def trk (h:Heap)(H:Hp):List Addr:=(List.range h.objs.size).filter λa=>(H a).isSome
def aI7 (h:Heap)(H:Hp):Heap:=PySem.W.hideAll h (trk h H)
def aR1 (h:Heap)(H:Hp):(aI7 h H).objs.size=h.objs.size:=PySem.W.hideAll_size _ _
def aS6 (e:h.get? b=some o)(n:H b=none):(aI7 h H).get? b=some o:=
 PySem.W.hideAll_get _ e λa=>by have q:=(List.mem_filter.mp a).2;rw[n] at q;simp at q
def aXq (e:(aI7 h H).get? b=some o):h.get? b=some o/\H b=none:=by
 have a:=PySem.W.of_hideAll (trk h H) e;refine⟨a,?_⟩;cases q:H b with
 |none=>rfl
 |some x=>have c:b∈trk h H:=List.mem_filter.mpr ⟨List.mem_range.mpr (z9 a),by simp[q]⟩;have z:(aI7 h H).get? b=none:=PySem.W.hideAll_none (trk h H) c;rw[z] at e;cases e
structure Mod (K:bFC)(mg:bFF)(base:Heap):Prop where
 kin:K.In base
 glob:base.Ns mainGlobals mg
 blt:∃mb,base.Ns builtinsNs mb/\∀x:Str,x≠"__name__"->mb x=bootBuiltins x
 nolimit:base.NoLimit
structure Cx where
 prog:Program
 w:World
 K:bFC
 mg:bFF
 base:Heap
 A:Around
 N:List Str
 s₀:Shared
 H₀:Hp
 env:Env
 outer:List Env
 stack:List Env
 ex:List Addr
 fn:Str->Bool
 calm:Bool
 pn:bFE
 xe:bFD
def frs (l:List Env):List Addr:=l.filterMap (·.frame)
abbrev Cx.fs (X:Cx):List Addr:=frs X.outer
def Vis (sc:Scope)(x:Str):Prop:=sc.names.lookup x=some .local\/sc.names.lookup x=some .cell\/sc.names.lookup x=some .free
def Loc (sc:Scope)(x:Str):Prop:=sc.names.lookup x=some .local\/sc.names.lookup x=some .cell
def Look (env:Env)(h:Heap)(m:bFF)(x:Str)(u:Value):Prop:=
 (env.kindOf x=some .local/\m x=some u)\/((env.kindOf x=some .cell\/env.kindOf x=some .free)/\∃c,env.cells.lookup x=some c/\h.IsCell c (some u))
structure Cx.Ok (X:Cx):Prop where
 mod:Mod X.K X.mg X.base
 kind:X.env.scope.kind=.function
 glob:X.env.globals=mainGlobals
 blt:X.env.builtins=builtinsNs
 above:X.s₀.heap.objs.size<=X.env.locals
 inj:∀x y c,X.env.cells.lookup x=some c->X.env.cells.lookup y=some c->x=y
 has:∀x,(X.env.kindOf x=some .cell\/X.env.kindOf x=some .free)->∃c,X.env.cells.lookup x=some c
 cab:∀x c,X.fn x=true->X.env.cells.lookup x=some c->X.s₀.heap.objs.size<=c
 hd:X.calm=true->X.A.handled=none
 frames:X.A.frames=some X.stack
 stk:X.stack=X.outer\/(X.stack=X.env::X.outer/\X.env.frame=some X.env.locals)
 exf:∀b∈X.ex,b≠X.env.locals/\∀x c,X.env.cells.lookup x=some c->c≠b
 bs:∀b o,X.base.get? b=some o->X.s₀.heap.get? b=some o/\X.H₀ b=none
 bsz:X.base.objs.size<=X.s₀.heap.objs.size
 noex:∀b o,X.base.get? b=some o->b∉X.ex
 exfs:∀b∈X.ex,b∉X.fs
 funs:X.s₀.heap.FunFrames X.base X.outer
 frf:∀b∈X.fs,X.H₀ b=none
structure Inv (X:Cx)(bFG:bFE)(σ:List (Option V))(H:Hp)(s:Shared):Prop where
 ok:X.Ok
 os:s.os=X.s₀.os
 bare:AllBare s.gens
 base:Un X.fs X.ex X.H₀ H X.s₀.heap s.heap
 loc:∃m,s.heap.Ns X.env.locals m/\∀(i:Nat) (x:Str) (v:V),X.N[i]?=some x->σ[i]?=some (some v)->Vis X.env.scope x->∃u,RelV v u/\Look X.env s.heap m x u
 cell:∀x c,X.env.cells.lookup x=some c->∃v,s.heap.IsCell c v
 free:H X.env.locals=none
 freeC:∀x c,X.env.cells.lookup x=some c->H c=none
 pin:∀p∈X.pn++bFG,s.heap.get? p.1=some p.2/\H p.1=none/\p.1≠X.env.locals/\p.1∉X.fs/\∀v,p.2.data≠.cell v
 hok:HOk X.prog X.w H s.heap
 len:σ.length=X.N.length
section
variable {X:Cx}{bFG:bFE}{σ:List (Option V)}{H H':Hp}{s:Shared}{h':Heap}
def Cx.Ok.nofr (c:X.Ok)(e:X.base.get? b=some o):b∉X.fs:=λa=>by have:=(c.funs.mem a).1;rw[e] at this;cases this
def Inv.bs (I:Inv X bFG σ H s):∀b o,X.base.get? b=some o->s.heap.get? b=some o/\H b=none:=λb o e=>
 ⟨I.base.keep b o (I.ok.bs b o e).1 (I.ok.bs b o e).2 (I.ok.nofr e) (I.ok.noex b o e),I.base.free b o (I.ok.bs b o e).1 (I.ok.bs b o e).2 (I.ok.noex b o e)⟩
def Inv.bk (I:Inv X bFG σ H s):∀b o,X.base.get? b=some o->s.heap.get? b=some o:=λb o e=>(I.bs b o e).1
def Inv.mod (I:Inv X bFG σ H s):Mod X.K X.mg X.base:=I.ok.mod
def Inv.kIn (I:Inv X bFG σ H s):X.K.In s.heap:=I.ok.mod.kin.keeps I.bk
def Inv.fr (I:Inv X bFG σ H s):∃m,Fr X.base X.env.locals s.heap m:=
 let ⟨m,hn,_⟩:=I.loc
 ⟨m,hn,I.bk,bAG I.ok.bsz I.ok.above⟩
def Inv.lt (I:Inv X bFG σ H s):X.env.locals<s.heap.objs.size:=let ⟨_,hn,_⟩:=I.loc;hn.lt
def Inv.sz (I:Inv X bFG σ H s):X.s₀.heap.objs.size<=s.heap.objs.size:=bAG I.ok.above (bET I.lt)
def Inv.nofs (I:Inv X bFG σ H s)(h:s.heap.objs.size<=a):a∉X.fs:=λb=>by obtain⟨_,o,c,_⟩:=I.ok.funs.mem b;exact absurd (bAL (z9 c) (bAG I.sz h)) (bCF _)
def Inv.cne (I:Inv X bFG σ H s):∀x c,X.env.cells.lookup x=some c->c≠X.env.locals:=λx c e z=>by obtain⟨v,o,f,d⟩:=I.cell x c e;obtain⟨m,⟨i,g,h,a,b,_⟩,_⟩:=I.loc;rw[z,a] at f;cases f;rw[b] at d;cases d
def Inv.funs (I:Inv X bFG σ H s):s.heap.FunFrames X.base X.outer:=by
 have f:∀l,(∀b∈frs l,b∈X.fs)->X.s₀.heap.FunFrames X.base l->s.heap.FunFrames X.base l:=by
  intro l
  induction l with
  |nil=>intro _ _;trivial
  |cons env r ih=>intro g n;obtain⟨k,⟨L,o,c,h,m,j⟩,i⟩:=n;have d:=g L (by unfold frs;rw[bCZ,c];exact j5);obtain⟨p,e⟩:=I.base.slot L o m (I.ok.frf L d) d λz=>I.ok.exfs L z d;exact⟨k,⟨L,_,c,h,e,j⟩,ih (λb a=>g b (by unfold frs;rw[bCZ,c];exact j7 _ a)) i⟩
 exact f X.outer (λ_ a=>a) I.ok.funs
def Inv.stack (I:Inv X bFG σ H s):s.heap.FunFrames X.base X.stack:=by
 rcases I.ok.stk with e|⟨e,b⟩
 ·rw[e];exact I.funs
 ·rw[e];obtain⟨m,a,_⟩:=I.loc;refine .cons (by rw[I.ok.kind];decide) b a ?_ I.funs;exact bEM (bAG I.ok.bsz I.ok.above)
def Inv.aN8 (I:Inv X bFG σ H s):∀b∈frs X.stack,b∈X.env.locals::X.fs:=λb a=>by
 rcases I.ok.stk with e|⟨e,c⟩
 ·rw[e] at a;exact j7 _ a
 ·rw[e] at a;unfold frs at a;rw[bCZ,c] at a;exact a
def Inv.aIf (I:Inv X bFG σ H s):∀b∈frs X.stack,H b=none:=λb hb=>by
 rcases List.mem_cons.mp (I.aN8 b hb) with e|hb
 ·rw[e];exact I.free
 ·obtain⟨_,o,a,_⟩:=I.ok.funs.mem hb;exact I.base.free b o a (I.ok.frf b hb) λz=>I.ok.exfs b z hb
def Inv.step {g':Array GenState}{t':Nat}{d':Drawn}{ch:List Addr}(I:Inv X bFG σ H s)
  (y:∀b∈ch,(b∈X.ex\/X.s₀.heap.objs.size<=b)/\b≠X.env.locals/\(∀x c,X.env.cells.lookup x=some c->c≠b)/\∀p∈X.pn++bFG,p.1≠b)
  (A:∀b o,b≠X.env.locals->b∉X.fs->b∉ch->s.heap.get? b=some o->H b=none->h'.get? b=some o)
  (E:∀b o,b≠X.env.locals->b∈X.fs->b∉ch->s.heap.get? b=some o->H b=none->∃sl,h'.get? b=some { o with slots:=sl }) (g:∀b o,b∉ch->s.heap.get? b=some o->H b=none->H' b=none)
  (J:∀b o,b∉ch->s.heap.get? b=some o->∃o',h'.get? b=some o')
  (R:∀b xs,H b=some (.tup xs)->H' b=some (.tup xs)) (P:∀b o u,H b=some (.frz o u)->H' b=some (.frz o u)) (Q:∀b ps,H b=some (.tbl ps)->∃more,H' b=some (.tbl (ps++more)))
  (ns:∀m,s.heap.Ns X.env.locals m->h'.Ns X.env.locals m) (V:HOk X.prog X.w H' h') (Z:AllBare g') :
  Inv X bFG σ H' { s with heap:=h',gens:=g',drawn:=d',toks:=t' }:=by
 have F:∀b o,X.s₀.heap.get? b=some o->b≠X.env.locals:=λb o e=>bAF (bAL (z9 e) I.ok.above);have t:∀b o,X.s₀.heap.get? b=some o->b∉X.ex->b∉ch:=λb o e a B=>by
  rcases (y b B).1 with z|z
  ·exact a z
  ·exact absurd (bAL (z9 e) z) (bCF _)
 have f:∀x c,X.env.cells.lookup x=some c->∀v,s.heap.IsCell c v->h'.IsCell c v:=λx c e v ⟨o,C,G⟩=>by
  have h:c∉ch:=λz=>(y c z).2.2.1 x c e rfl;by_cases O:c∈X.fs
  ·obtain⟨sl,q⟩:=E c o (I.cne x c e) O h C (I.freeC x c e);exact⟨_,q,G⟩
  ·exact⟨o,A c o (I.cne x c e) O h C (I.freeC x c e),G⟩
 refine⟨I.ok,I.os,Z,⟨λb o e n B a=>?_,λb o e n B a=>?_,λb o e n a=>?_,λb o e a=>?_,λb xs e=>R b xs (I.base.tups b xs e),λb o xs e=>P b o xs (I.base.frzs b o xs e),λb ps e=>?_⟩,?_,λx c e=>?_,?_,λx c e=>?_,λp M=>?_,V,I.len⟩
 ·exact A b o (F b o e) B (t b o e a) (I.base.keep b o e n B a) (I.base.free b o e n a)
 ·obtain⟨sl,j⟩:=I.base.slot b o e n B a;obtain⟨K,D⟩:=E b _ (F b o e) B (t b o e a) j (I.base.free b o e n a);exact⟨K,D⟩
 ·obtain⟨o',j⟩:=I.base.there b o e a;exact g b o' (t b o e a) j (I.base.free b o e n a)
 ·obtain⟨o',j⟩:=I.base.there b o e a;exact J b o' (t b o e a) j
 ·obtain⟨Y,j⟩:=I.base.tbls b ps e;obtain⟨T,D⟩:=Q b _ j;exact⟨Y++T,by rw[D,Array.append_assoc]⟩
 ·obtain⟨m,S,W⟩:=I.loc;refine⟨m,ns m S,λi x v j D U=>?_⟩;obtain⟨u,r,l⟩:=W i x v j D U;refine⟨u,r,?_⟩;rcases l with l|⟨k,c,e,z⟩
  ·exact .inl l
  ·exact .inr ⟨k,c,e,f x c e _ z⟩
 ·obtain⟨v,z⟩:=I.cell x c e;exact⟨v,f x c e v z⟩
 ·obtain⟨m,⟨o,_,_,C,_⟩,_⟩:=I.loc;exact g _ o (λz=>(y _ z).2.1 rfl) C I.free
 ·obtain⟨v,o,C,G⟩:=I.cell x c e;exact g c o (λz=>(y c z).2.2.1 x c e rfl) C (I.freeC x c e)
 ·obtain⟨e,n,N,L,d⟩:=I.pin p M;have h:p.1∉ch:=λz=>(y p.1 z).2.2.2 p M rfl;exact⟨A p.1 p.2 N L h e n,g p.1 p.2 h e n,N,L,d⟩
def Inv.un (I:Inv X bFG σ H s)(u:Un X.fs [] H H' s.heap h')(i:HOk X.prog X.w H' h'):Inv X bFG σ H' { s with heap:=h',toks:=t' }:=by
 obtain⟨m,⟨o,t,l,g,r⟩,_⟩:=id I.loc;obtain⟨v,j⟩:=u.any g I.free (by simp);exact I.step (g':=s.gens) (d':=s.drawn) (ch:=[]) (λ_ z=>nomatch z) (λb o _ c _ e n=>u.keep b o e n c (by simp)) (λb o _ c _ e n=>u.slot b o e n c (by simp)) (λb o _ e n=>u.free b o e n (by simp)) (λb o _ e=>u.there b o e (by simp)) u.tups u.frzs u.tbls (λq k=>by obtain⟨p,d,f,a,h⟩:=k;rw[g] at a;cases a;exact⟨_,d,f,j,h⟩) i I.bare
def Inv.call (I:Inv X bFG σ H s)(u:Un (frs X.stack) ch H H' s.heap h')(q:HOk X.prog X.w H' h')(B:AllBare g')
  (h:∀b∈ch,(b∈X.ex\/X.s₀.heap.objs.size<=b)/\b≠X.env.locals/\(∀x c,X.env.cells.lookup x=some c->c≠b)/\∀p∈X.pn++bFG,p.1≠b) :
  Inv X bFG σ H' { s with heap:=h',gens:=g',drawn:=d',toks:=t' }:=by
 obtain⟨m,⟨o,C,v,j,r⟩,_⟩:=id I.loc;obtain⟨D,g⟩:=u.any j I.free λz=>(h _ z).2.1 rfl;exact I.step (ch:=ch) h (λb o g k a e n=>u.keep b o e n (λz=>(List.mem_cons.mp (I.aN8 b z)).elim g k) a) (λb o _ _ a e n=>u.any e n a) (λb o a e n=>u.free b o e n a) (λb o a e=>u.there b o e a) u.tups u.frzs u.tbls (λA t=>by obtain⟨y,f,i,d,l⟩:=t;rw[j] at d;cases d;exact⟨_,f,i,g,l⟩) q B
def Inv.turned (I:Inv X bFG σ H s)(k:∀b o,b≠it->s.heap.get? b=some o->h'.get? b=some o)(hn:H it=none)(i:it≠X.env.locals)
  (A:it∈X.ex\/X.s₀.heap.objs.size<=it) (y:∀x c,X.env.cells.lookup x=some c->c≠it) (w:∀p∈X.pn++bFG,p.1≠it):Inv X bFG σ H { s with heap:=h',toks:=t' }:=by
 have d:∀b u,H b=some u->b≠it:=λb u e z=>by rw[z,hn] at e;cases e
 refine I.step (g':=s.gens) (d':=s.drawn) (ch:=[it]) (λb f=>?_) (λb o _ _ a e _=>k b o (λz=>a (by simp[z])) e) (λb o _ _ a e _=>⟨o.slots,k b o (λz=>a (by simp[z])) e⟩) (λ_ _ _ _ n=>n)
  (λb o a e=>⟨o,k b o (λz=>a (by simp[z])) e⟩) (λ_ _ e=>e) (λ_ _ _ e=>e) (λb t e=>⟨#[],by rw[e];simp⟩) (λm l=>?_) (λb u e=>?_) I.bare
 ·have e:b=it:=by simpa using f
  subst e;exact⟨A,i,y,w⟩
 ·obtain⟨o,j,g,h,r⟩:=l;exact⟨o,j,g,k _ o (Ne.symm i) h,r⟩
 ·refine (I.hok b u e).stay (λc v a q=>k c v ?_ q) (λ_ q=>q) λ_ _ q=>q;rcases a with z|z
  ·rw[z];exact d b u e
  ·exact d c _ z
def Inv.tok (I:Inv X bFG σ H s)(t:Nat):Inv X bFG σ H { s with toks:=t }:=I.un (h':=s.heap) (t':=t) Un.refl I.hok
def Inv.kept (I:Inv X bFG σ H s)(k:∀b u,s.heap.get? b=some u->h'.get? b=some u):Inv X bFG σ H { s with heap:=h',toks:=t' }:=I.un (Un.kept k) (I.hok.kept k)
def Inv.laid (I:Inv X bFG σ H s)(k:∀b u,s.heap.get? b=some u->h'.get? b=some u)(c:s.heap.objs.size<=a)(d:fQ X.prog X.w (upd H a o) h' a o) :
  Inv X bFG σ (upd H a o) { s with heap:=h',toks:=t' }:=I.un (Un.laid k c (I.hok.fresh c)) (I.hok.laid k c d)
def Inv.write (I:Inv X bFG σ H s)(d:Mut (H x))(c:e=x\/H e=some (.own x))(k:∀b u,b≠e->s.heap.get? b=some u->h'.get? b=some u)(a:∃u,h'.get? e=some u)
  (f:fQ X.prog X.w (upd H x o) h' x o):Inv X bFG σ (upd H x o) { s with heap:=h',toks:=t' }:=I.un (Un.write d c k a) (I.hok.write d c k a f)
def Inv.aOn (I:Inv X bFG σ H s)(h:∀p∈pins',s.heap.get? p.1=some p.2/\H p.1=none/\p.1≠X.env.locals/\p.1∉X.fs/\∀v,p.2.data≠.cell v):Inv X pins' σ H s:=
 ⟨I.ok,I.os,I.bare,I.base,I.loc,I.cell,I.free,I.freeC,λp a=>(List.mem_append.mp a).elim (λz=>I.pin p (bDP _ z)) (h p),I.hok,I.len⟩
def aDh {N:List Str}(f:N.Nodup){i j:Nat}{x:Str}(a:N[i]?=some x)(b:N[j]?=some x):i=j:=by obtain⟨g,c⟩:=List.getElem?_eq_some_iff.mp a;obtain⟨e,d⟩:=List.getElem?_eq_some_iff.mp b;exact (List.getElem_inj f).mp (c.trans d.symm)
def aGb {M:Model}{A:Around}{E:bFD}{i:Nat}{x:Str}{v:V}{u:Value}{Q:Unit->Shared->Prop}(I:Inv X bFG σ H s)(hN:X.N.Nodup)(Y:X.N[i]?=some x)(t:Loc X.env.scope x)(r:RelV v u)
  (h:∀s',Inv X bFG (σ.set i (some v)) H s'->(∃a,Heap.SameBut a s.heap s'.heap/\(a=X.env.locals\/X.env.cells.lookup x=some a))->Q () s') (hf:X.fn x=true\/X.env.scope.names.lookup x=some .local:=by first|exact .inl rfl|exact .inr rfl|assumption):wpAny M A (storeName X.env x u) Q E s:=by
 obtain⟨m,hn,hl⟩:=id I.loc;have S:(X.env.scope.kind == .class || (X.env.scope.kind == .module && X.env.locals != X.env.globals))=false:=by rw[I.ok.kind];rfl
 have L:i<σ.length:=by rw[I.len];exact (List.getElem?_eq_some_iff.mp Y).1
 have F:=I.cne;have g:∀{a:Addr} {K:Heap},(∃o,s.heap.get? a=some o/\H a=none)->Heap.SameBut a s.heap K->HOk X.prog X.w H K:=λ{a K} ha f b ob e=>by
  obtain⟨_,_,B⟩:=ha;refine (I.hok b ob e).stay (λc Z hc q=>(f.2 c ?_).trans q) (λ_ q=>q) λ_ _ q=>q;rintro rfl;rcases hc with rfl|hc
  ·rw[B] at e;cases e
  ·rw[B] at hc;cases hc
 rcases t with hk|hk
 ·refine wpAny_storeName_local hk hn (λK a1 f=>?_) S;obtain⟨oL,_,_,a0,_⟩:=id hn;refine h _ ⟨I.ok,I.os,I.bare,⟨λb o e n G t=>?_,λb o e n G t=>?_,I.base.free,λb o e t=>?_,I.base.tups,I.base.frzs,I.base.tbls⟩,⟨_,a1,λj y v' l C e3=>?_⟩,λy c e=>?_,I.free,I.freeC,λp hp=>?_,g ⟨oL,a0,I.free⟩ f,by simpa using I.len⟩ ⟨_,f,.inl rfl⟩
  ·exact (f.2 b (bAF (bAL (z9 e) I.ok.above))).trans (I.base.keep b o e n G t)
  ·obtain⟨sl,l⟩:=I.base.slot b o e n G t;exact⟨sl,(f.2 b (bAF (bAL (z9 e) I.ok.above))).trans l⟩
  ·obtain⟨o',l⟩:=I.base.there b o e t;exact⟨o',(f.2 b (bAF (bAL (z9 e) I.ok.above))).trans l⟩
  ·by_cases D:j=i
   ·subst D;rw[Y] at l;cases l;rw[bDF L] at C;cases C;exact⟨u,r,.inl ⟨hk,by simp⟩⟩
   ·rw[bEN (Ne.symm D)] at C;obtain⟨u',r',q⟩:=hl j y v' l C e3;refine⟨u',r',?_⟩;rcases q with⟨k,e⟩|⟨k,c,e,z⟩
    ·refine .inl ⟨k,?_⟩;have:y≠x:=λe=>D (aDh hN l (e ▸ Y));simp[this,e]
    ·exact .inr ⟨k,c,e,z.sameBut f (F y c e)⟩
  ·obtain⟨Z,z⟩:=I.cell y c e;exact⟨Z,z.sameBut f (F y c e)⟩
  ·obtain⟨e,n,U,nf,d⟩:=I.pin p hp;exact⟨(f.2 p.1 U).trans e,n,U,nf,d⟩
 ·have J:X.fn x=true:=by
   rcases hf with z|z
   ·exact z
   ·rw[z] at hk;cases hk
  obtain⟨c,hc⟩:=I.ok.has x (.inl hk);obtain⟨Z,z⟩:=I.cell x c hc;refine wpAny_storeName_cell I.ok.kind hk hc z (λK R f=>?_);obtain⟨oc,O,P⟩:=id z;refine h { s with heap:=K } ⟨I.ok,I.os,I.bare,⟨λb o e n G t=>?_,λb o e n G t=>?_,I.base.free,λb o e t=>?_,I.base.tups,I.base.frzs,I.base.tbls⟩,⟨m,hn.sameBut f (Ne.symm (F x c hc)),λj y v' l C e3=>?_⟩,λy W e=>?_,I.free,I.freeC,λp hp=>?_,g ⟨oc,O,I.freeC x c hc⟩ f,by simpa using I.len⟩ ⟨c,f,.inr hc⟩
  ·exact (f.2 b (bAF (bAL (z9 e) (I.ok.cab x c J hc)))).trans (I.base.keep b o e n G t)
  ·obtain⟨sl,l⟩:=I.base.slot b o e n G t;exact⟨sl,(f.2 b (bAF (bAL (z9 e) (I.ok.cab x c J hc)))).trans l⟩
  ·obtain⟨o',l⟩:=I.base.there b o e t;exact⟨o',(f.2 b (bAF (bAL (z9 e) (I.ok.cab x c J hc)))).trans l⟩
  ·by_cases D:j=i
   ·subst D;rw[Y] at l;cases l;rw[bDF L] at C;cases C;exact⟨u,r,.inr ⟨.inl hk,c,hc,R⟩⟩
   ·rw[bEN (Ne.symm D)] at C;obtain⟨u',r',q⟩:=hl j y v' l C e3;refine⟨u',r',?_⟩;rcases q with q|⟨k,W,e,z'⟩
    ·exact .inl q
    ·refine .inr ⟨k,W,e,z'.sameBut f ?_⟩;rintro rfl;exact D (aDh hN l (I.ok.inj _ _ _ e hc ▸ Y))
  ·by_cases T:W=c
   ·subst T;exact⟨_,R⟩
   ·obtain⟨w2,z2⟩:=I.cell y W e;exact⟨w2,z2.sameBut f T⟩
  ·obtain⟨e,n,U,nf,d⟩:=I.pin p hp;refine⟨(f.2 p.1 ?_).trans e,n,U,nf,d⟩;intro q;rw[q,O] at e;have q':=bAM e;exact d Z (by rw[<-q'];exact P)
def aEd (I:Inv X bFG σ H s)(c:X.N.Nodup)(b:X.N[i]?=some x)(e:Loc X.env.scope x)(r:RelV v u)
  (h:∀s',Inv X bFG (σ.set i (some v)) H s'->Q () s') (d:X.fn x=true\/X.env.scope.names.lookup x=some .local:=by first|exact .inl rfl|exact .inr rfl|assumption):wpAny M A (storeName X.env x u) Q E s:=
 aGb I c b e r (λs' a _=>h s' a) d
def Inv.call' (I:Inv X bFG σ H s)(g:s'.os=s.os)(u:Un (frs X.stack) ch H H' s.heap s'.heap)(a:HOk X.prog X.w H' s'.heap)(f:AllBare s'.gens)
  (d:∀b∈ch,(b∈X.ex\/X.s₀.heap.objs.size<=b)/\b≠X.env.locals/\(∀x c,X.env.cells.lookup x=some c->c≠b)/\∀p∈X.pn++bFG,p.1≠b):Inv X bFG σ H' s':=by
 obtain⟨i,g',d',t',h⟩:=s';have e:=g;subst e;exact I.call (g':=g') (t':=t') (d':=d') u a f d
end
abbrev XK:=Value->Option Addr->Hp->Prop
abbrev St:=List (Option V)
abbrev VK:=V->Hp->Prop
abbrev TE:=St->Hp->VK->Prop
abbrev TT:=St->Hp->(Bool->Hp->Prop)->Prop
abbrev TA:=St->Hp->(List V->Hp->Prop)->Prop
structure Ends where
 nx:St->Hp->Prop
 rt:VK
 bk:St->Hp->Prop:=λ_ _=>False
 ct:St->Hp->Prop:=λ_ _=>False
abbrev TS:=Ends->St->Hp->Prop
def EP (X:Cx)(bFG:bFE)(σ:St)(Q:VK)(u:Value)(s':Shared):Prop:=∃v H',Inv X bFG σ H' s'/\RelV v u/\Q v H'
def TP (X:Cx)(bFG:bFE)(σ:St)(Q:Bool->Hp->Prop)(b:Bool)(s':Shared):Prop:=∃H',Inv X bFG σ H' s'/\Q b H'
def AP (X:Cx)(bFG:bFE)(σ:St)(Q:List V->Hp->Prop)(us:List Value)(s':Shared):Prop:=∃vs H',Inv X bFG σ H' s'/\Vals vs us/\Q vs H'
def SP (X:Cx)(bFG:bFE)(D:Ends)(f:Flow)(s':Shared):Prop:=
 match f with
 |.next=>∃σ' H',Inv X bFG σ' H' s'/\D.nx σ' H'
 |.brk=>∃σ' H',Inv X bFG σ' H' s'/\D.bk σ' H'
 |.cont=>∃σ' H',Inv X bFG σ' H' s'/\D.ct σ' H'
 |.ret u=>∃v σ' H',Inv X bFG σ' H' s'/\RelV v u/\D.rt v H'
def PE (X:Cx)(e:Expr)(t:TE):Prop:=
 ∀bFG s σ H Q,Inv X bFG σ H s->t σ H Q->wpAny (model X.prog X.w) X.A (eval e X.env) (EP X bFG σ Q) X.xe s
def PT (X:Cx)(e:Expr)(t:TT):Prop:=
 ∀bFG s σ H Q,Inv X bFG σ H s->t σ H Q->wpAny (model X.prog X.w) X.A (isTrue e X.env (eval e X.env)) (TP X bFG σ Q) X.xe s
def PW (X:Cx)(e:Expr)(t:TT):Prop:=
 ∀whole bFG s σ H Q,Inv X bFG σ H s->t σ H Q->wpAny (model X.prog X.w) X.A (isTrue e X.env whole) (TP X bFG σ Q) X.xe s
def PW.pt (h:PW X e t):PT X e t:=h _
def PA (X:Cx)(es:List Expr)(t:TA):Prop:=
 ∀pos bFG s σ H Q,Inv X bFG σ H s->t σ H Q->wpAny (model X.prog X.w) X.A (spliced (backTo pos (starEach es X.env))) (AP X bFG σ Q) X.xe s
def PS (X:Cx)(st:Stmt)(t:TS):Prop:=
 ∀bFG s σ H D,Inv X bFG σ H s->t D σ H->wpAny (model X.prog X.w) X.A (exec st X.env) (SP X bFG D) X.xe s
def PSs (X:Cx)(st:List Stmt)(t:TS):Prop:=
 ∀bFG s σ H D,Inv X bFG σ H s->t D σ H->wpAny (model X.prog X.w) X.A (execs st X.env) (SP X bFG D) X.xe s
def thn {α:Type}{t:Sem α}{Q Q':α->Shared->Prop}{M:Model}{A:Around}{E:bFD}{s:Shared}(h:wpAny M A t Q E s)(b:∀a s,Q a s->Q' a s):wpAny M A t Q' E s:=bBE h b λ_ _ x=>x
section
variable {X:Cx}
inductive lG (i:Nat)(σ:St)(H:Hp)(Q:VK):Prop
 |mk (v:_) (h0:σ[i]?=some (some v)) (h1:Q v H):lG i σ H Q
def tC (v:V):TE:=λ_ H Q=>Q v H
def bCf (o:X.N[i]?=some x)(n:Vis X.env.scope x)(d:(x == ("__debug__":Str))=false:=by decide)(g:(x == ("__classdict__":Str))=false:=by decide):PE X (.Name x pos) (lG i):=by
 intro b s σ H Q I h;obtain⟨v,e,h⟩:=h;obtain⟨m,f,j⟩:=I.loc;obtain⟨u,r,l⟩:=j i x v o e n;have a:EP X b σ Q u s:=⟨v,H,I,r,h⟩;rcases l with⟨hk,k⟩|⟨hk,c,hc,hcell⟩
 ·exact wpAny_Name (wpAny_loadName_local I.ok.kind hk f k a) d
 ·rcases hk with hk|hk
  ·exact wpAny_Name (wpAny_loadName_cell I.ok.kind hk hc hcell a) d
  ·exact wpAny_Name (wpAny_loadName_free I.ok.kind hk hc hcell a g) d
def bCc {i j pos}:PE X (.Constant (.int i) j pos) (tC (.int i)):=λ_ _ _ H _ I h=>wpAny_Constant_int ⟨.int i,H,I.tok _,⟨_,rfl⟩,h⟩
def bEi {b j pos}:PE X (.Constant (.bool b) j pos) (tC (.bl b)):=λ_ _ _ H _ I h=>Constant_bool ⟨.bl b,H,I,rfl,h⟩
def aZ2 {j pos}:PE X (.Constant .none j pos) (tC .non):=λ_ _ _ H _ I h=>Constant_none ⟨.non,H,I,rfl,h⟩
def bBs {x j pos}:PE X (.Constant (.str x) j pos) (tC (.str x)):=λ_ _ _ H _ I h=>Calls.Constant_str ⟨.str x,H,I.tok _,⟨_,rfl⟩,h⟩
def Gl (X:Cx)(x:Str):Prop:=X.env.kindOf x=some .globalImplicit
def mG (I:Inv X bFG σ H s)(b:Gl X x)(c:X.mg x=some u)(h:Q u s)
  (a:(x == ("__debug__":Str))=false:=by decide):wpAny (model X.prog X.w) X.A (eval (.Name x pos) X.env) Q E s:=
 bEV I.ok.kind b (Calls.loadGlobal_global (by rw[I.ok.glob];exact I.mod.glob.keeps I.bk) c h) a
def wI (I:Inv X bFG σ H s)(f:Gl X x)(g:X.mg x=none)(d:bootBuiltins x=some u)(h:Q u s)
  (hn:x≠"__name__":=by decide) (e:(x == ("__debug__":Str))=false:=by decide):wpAny (model X.prog X.w) X.A (eval (.Name x pos) X.env) Q E s:=by
 obtain⟨c,b,a⟩:=I.mod.blt;exact bEV I.ok.kind f (Calls.loadGlobal_builtin (by rw[I.ok.glob];exact I.mod.glob.keeps I.bk) g (by rw[I.ok.blt];exact b.keeps I.bk) ((a x hn).trans d) h) e
def aXo (b:Gl X x)(c:X.mg x=some u)(r:RelV v u)(a:(x == ("__debug__":Str))=false:=by decide):PE X (.Name x pos) (tC v):=
 λ_ _ _ H _ I h=>mG I b c ⟨v,H,I,r,h⟩ a
def aYe (c:Gl X x)(d:X.mg x=none)(a:bootBuiltins x=some u)(r:RelV v u)(hn:x≠"__name__":=by decide)(b:(x == ("__debug__":Str))=false:=by decide):PE X (.Name x pos) (tC v):=
 λ_ _ _ H _ I h=>wI I c d a ⟨v,H,I,r,h⟩ hn b
variable {a b:Expr}{ta tb:TE}{pos:Pos}
inductive bE0 (Q:Bool->Hp->Prop)(x:V)(H1:Hp):Prop
 |mk (c:_) (h0:x=.bl c) (h1:Q c H1):bE0 Q x H1
def tB (t:TE):TT:=fun σ H Q=>t σ H (bE0 Q)
def bCp {e:Expr}{t:TE}(h:PE X e t)(j:∀whole,isTrue e X.env whole=(do let v <-whole;standAt e.pos;holding [v] (truthy v)):=by intro _;rfl):PT X e (tB t):=by intro a s σ H Q I f;refine isTrue_plain (thn (h a s σ H _ I f) λv k ⟨x,c,b,g,i⟩=>?_) (j _);obtain⟨d,rfl,q⟩:=i;cases g;exact bBH ⟨c,b,q⟩
variable {tA tB':TT}{rest:List Expr}
def bD3 (t u:TT):TT:=fun σ H Q=>t σ H λc H1=>if c=true then u σ H1 Q else Q false H1
def tOr (t u:TT):TT:=fun σ H Q=>t σ H λc H1=>if c=true then Q true H1 else u σ H1 Q
def aWf (t:TT):TT:=fun σ H Q=>t σ H λc H1=>Q (!c) H1
def aW0 (d:PT X a tA):PW X (.BoolOp .And [a] pos) tA:=by
 intro g b s σ H Q I h;refine isTrue_and (thn (d b s σ H Q I h) λc f e=>?_);cases c with
 |true=>exact isTrue_and_nil e
 |false=>exact e
def bB9 (d:PT X a tA):PW X (.BoolOp .Or [a] pos) tA:=by
 intro g b s σ H Q I h;refine isTrue_or (thn (d b s σ H Q I h) λc f e=>?_);cases c with
 |false=>exact isTrue_or_nil e
 |true=>exact e
def bCm (l:PT X a tA)(k:PW X (.BoolOp .And (b::rest) pos) tB'):PW X (.BoolOp .And (a::b::rest) pos) (bD3 tA tB'):=by
 intro j d s σ H Q I h;refine isTrue_and (thn (l d s σ H _ I h) λc i ⟨f,e,g⟩=>?_);cases c with
 |true=>exact k j d i σ f Q e g
 |false=>exact⟨f,e,g⟩
def bEh (l:PT X a tA)(k:PW X (.BoolOp .Or (b::rest) pos) tB'):PW X (.BoolOp .Or (a::b::rest) pos) (tOr tA tB'):=by
 intro j d s σ H Q I h;refine isTrue_or (thn (l d s σ H _ I h) λc i ⟨f,e,g⟩=>?_);cases c with
 |true=>exact⟨f,e,g⟩
 |false=>exact k j d i σ f Q e g
def bB5 (e:PT X a tA):PT X (.UnaryOp .Not a pos) (aWf tA):=by intro b s σ H Q I h;exact isTrue_not (e b s σ H (λc d=>Q (!c) d) I h)
def aZo (ta tb:TE):TE:=fun σ H Q=>ta σ H λx H1=>∃c,x=.bl c/\if c=true then tb σ H1 Q else Q (.bl false) H1
def bC5 (ta tb:TE):TE:=fun σ H Q=>ta σ H λx H1=>∃c,x=.bl c/\if c=true then Q (.bl true) H1 else tb σ H1 Q
def aY3 (ta:TE):TE:=fun σ H Q=>ta σ H λx H1=>∃c,x=.bl c/\Q (.bl (!c)) H1
def bAg {op}(h:PE X a t):PE X (.BoolOp op [a] pos) t:=λb s σ H Q I c=>BoolOp_one (h b s σ H Q I c)
def aZz (l:PE X a ta)(k:PE X (.BoolOp .And (b::rest) pos) tb):PE X (.BoolOp .And (a::b::rest) pos) (aZo ta tb):=by
 intro d s σ H Q I h;refine BoolOp_and (thn (l d s σ H _ I h) λv j ⟨x,g,f,i,e⟩=>?_);obtain⟨c,rfl,e⟩:=e;cases i;refine bBH ?_;cases c with
 |true=>exact k d j σ g Q f e
 |false=>exact⟨.bl false,g,f,rfl,e⟩
def bDb (l:PE X a ta)(k:PE X (.BoolOp .Or (b::rest) pos) tb):PE X (.BoolOp .Or (a::b::rest) pos) (bC5 ta tb):=by
 intro d s σ H Q I h;refine BoolOp_or (thn (l d s σ H _ I h) λv j ⟨x,g,f,i,e⟩=>?_);obtain⟨c,rfl,e⟩:=e;cases i;refine bBH ?_;cases c with
 |false=>exact k d j σ g Q f e
 |true=>exact⟨.bl true,g,f,rfl,e⟩
def aZ7 (i:PE X a ta):PE X (.UnaryOp .Not a pos) (aY3 ta):=by intro b s σ H Q I h;refine UnaryOp_ (thn (i b s σ H _ I h) λv j ⟨x,f,e,g,d⟩=>?_);obtain⟨c,rfl,d⟩:=d;cases g;exact not_of (bBH ⟨.bl (!c),f,e,rfl,d⟩)
def tIf (t:TT)(ta tb:TE):TE:=fun σ H Q=>t σ H λc H1=>if c=true then ta σ H1 Q else tb σ H1 Q
def aT8 {c:Expr}(m:PT X c tA)(l:PE X a ta)(k:PE X b tb):PE X (.IfExp c a b pos) (tIf tA ta tb):=by
 intro e s σ H Q I h;refine wpAny_IfExp (thn (m e s σ H _ I h) λd j ⟨g,f,i⟩=>?_);cases d with
 |true=>exact l e j σ g Q f i
 |false=>exact k e j σ g Q f i
end
def SqL (K:bFC)(H:Hp)(a:Addr)(xs:List V):Prop:=
 Rd H a (.lst xs) \/
  ∃o its n,K.lookup a=some o/\o.cls=.type "list"/\o.dict=none/\o.data=.seq its n/\its.size<=sizeLine/\Vals xs its.toList
def SqT (K:bFC)(H:Hp)(a:Addr)(xs:List V):Prop:=
 Rd H a (.tup xs) \/
  ∃o its n,K.lookup a=some o/\o.cls=.type "tuple"/\o.dict=none/\o.data=.seq its n/\its.size<=sizeLine/\Vals xs its.toList
def bFo:Value->Option V
 |.none=>some .non
 |.bool b=>some (.bl b)
 |.int i _=>some (.int i)
 |.str x _=>some (.str x)
 |.bytes b _=>some (.byt b)
 |.float b _=>some (.flt b)
 |.ref a=>some (.ref a)
 |.type n=>some (.ty n)
 |_=>none
def RelV.abs (r:RelV x u):bFo u=some x:=by
 cases x with
 |non=>cases r;rfl
 |bl _=>cases r;rfl
 |int _=>obtain⟨t,rfl⟩:=r;rfl
 |str _=>obtain⟨t,rfl⟩:=r;rfl
 |byt _=>obtain⟨t,rfl⟩:=r;rfl
 |flt _=>obtain⟨t,rfl⟩:=r;rfl
 |ref _=>cases r;rfl
 |ty _=>cases r;rfl
def RelV.inj (r:RelV x u)(q:RelV y u):x=y:=bAM (r.abs.symm.trans q.abs)
theorem Vals.inj:∀{xs ys:List V} {us:List Value},Vals xs us->Vals ys us->xs=ys
 |_,_,_,.nil,.nil=>rfl
 |_,_,_,.cons r t,.cons r' t'=>by rw[r.inj r',Vals.inj t t']
section
variable {X:Cx}{bFG:bFE}{σ:St}{H:Hp}{s:Shared}{a:Addr}{xs ys:List V}
def SqL.of {K:bFC}(h:H a=some (.lst xs)):SqL K H a xs:=.inl (.inl h)
def SqT.of {K:bFC}(h:H a=some (.tup xs)):SqT K H a xs:=.inl (.inl h)
def Inv.list (I:Inv X bFG σ H s)(h:SqL X.K H a xs):∃its:List Value,Vals xs its/\PlainL s.heap a its.toArray/\xs.length<=sizeLine:=by
 rcases h with h|⟨o,its,n,d,f,c,b,g,r⟩
 ·obtain⟨z,its,n,r,e⟩:=h.ok I.hok;exact⟨its,r,⟨_,n,e,rfl,rfl,rfl⟩,z⟩
 ·refine⟨its.toList,r,⟨o,n,I.kIn a o d,f,c,by simpa using b⟩,?_⟩;have e:=r.length;simp only[bAU] at e;lia
def Inv.tuple (I:Inv X bFG σ H s)(h:SqT X.K H a xs):∃its:List Value,Vals xs its/\IsTup s.heap a its.toArray/\xs.length<=sizeLine:=by
 rcases h with h|⟨o,its,n,c,d,g,b,f,r⟩
 ·obtain⟨z,its,r,p⟩:=h.ok I.hok;exact⟨its,r,p.1,z⟩
 ·refine⟨its.toList,r,⟨o,I.kIn a o c,d,n,by simpa using b⟩,?_⟩;have e:=r.length;simp only[bAU] at e;lia
def Inv.bFg (I:Inv X bFG σ H s)(h:SqT X.K H a xs):∃its:List Value,Vals xs its/\wU s.heap a its.toArray/\xs.length<=sizeLine:=by
 rcases h with h|⟨o,its,n,b,f,d,c,g,r⟩
 ·obtain⟨z,its,r,p⟩:=h.ok I.hok;exact⟨its,r,p,z⟩
 ·refine⟨its.toList,r,.of (I.kIn a o b) d ⟨o,I.kIn a o b,f,n,by simpa using c⟩,?_⟩;have e:=r.length;simp only[bAU] at e;lia
def Inv.aUv (I:Inv X bFG σ H s)(h:SqL X.K H a xs)(h':SqL X.K H a ys):xs=ys:=by
 obtain⟨c,r,⟨o,n,e,_,_,d⟩,_⟩:=I.list h;obtain⟨b,i,⟨k,j,g,_,_,f⟩,_⟩:=I.list h';rw[e] at g;cases g;rw[d] at f;injection f with d1 _;have:c=b:=by simpa using congrArg Array.toList d1
 subst this;exact r.inj i
def Inv.aRr (I:Inv X bFG σ H s)(h:SqT X.K H a xs)(h':SqT X.K H a ys):xs=ys:=by
 obtain⟨c,r,⟨o,e,_,n,d⟩,_⟩:=I.tuple h;obtain⟨b,i,⟨k,g,_,j,f⟩,_⟩:=I.tuple h';rw[e] at g;cases g;rw[d] at f;injection f with d1 _;have:c=b:=by simpa using congrArg Array.toList d1
 subst this;exact r.inj i
end
abbrev Cx.wish (X:Cx)(E:bFD):Cx:={ X with xe:=E }
abbrev Cx.nox (X:Cx):Cx:=X.wish λ_ _=>False
def Cx.Ok.wish {X:Cx}(a:X.Ok)(E:bFD):(X.wish E).Ok:=
 ⟨a.mod,a.kind,a.glob,a.blt,a.above,a.inj,a.has,a.cab,a.hd,a.frames,a.stk,a.exf,a.bs,a.bsz,a.noex,a.exfs,a.funs,a.frf⟩
def Cx.Ok.rK {X:Cx}{E:bFD}(a:(X.wish E).Ok):X.Ok:=
 ⟨a.mod,a.kind,a.glob,a.blt,a.above,a.inj,a.has,a.cab,a.hd,a.frames,a.stk,a.exf,a.bs,a.bsz,a.noex,a.exfs,a.funs,a.frf⟩
section
variable {X:Cx}{bFG:bFE}{σ:St}{H:Hp}{s:Shared}{E:bFD}
def Inv.wish (I:Inv X bFG σ H s)(E:bFD):Inv (X.wish E) bFG σ H s:=⟨I.ok.wish E,I.os,I.bare,I.base,I.loc,I.cell,I.free,I.freeC,I.pin,I.hok,I.len⟩
def Inv.rK (I:Inv (X.wish E) bFG σ H s):Inv X bFG σ H s:=⟨I.ok.rK,I.os,I.bare,I.base,I.loc,I.cell,I.free,I.freeC,I.pin,I.hok,I.len⟩
def SP.rK (h:SP (X.wish E) bFG D f s'):SP X bFG D f s':=by
 cases f with
 |next=>obtain⟨a,b,I,q⟩:=h;exact⟨a,b,I.rK,q⟩
 |brk=>obtain⟨a,b,I,q⟩:=h;exact⟨a,b,I.rK,q⟩
 |cont=>obtain⟨a,b,I,q⟩:=h;exact⟨a,b,I.rK,q⟩
 |ret u=>obtain⟨v,a,b,I,r,q⟩:=h;exact⟨v,a,b,I.rK,r,q⟩
def PSs.nox {st:List Stmt}{t:TS}(h:PSs X.nox st t):PSs X st t:=λa s σ H D I b=>
 bBE (h a s σ H D (I.wish _) b) (λ_ _ q=>q.rK) λ_ _ z=>False.elim z
end
section
variable {X:Cx}{st:Stmt}{rest:List Stmt}{t u:TS}{e:Expr}{te:TE}{pos:Pos}
def mO:TS:=λD σ H=>D.nx σ H
def kW (t u:TS):TS:=λD σ H=>t { D with nx:=u D } σ H
def aWs:PSs X [] mO:=λ_ _ σ H _ I h=>bDK ⟨σ,H,I,h⟩
def aTy (g:PS X st t)(i:PSs X rest u):PSs X (st::rest) (kW t u):=by
 intro a s σ H D I h;refine wpAny_execs_cons (thn (g a s σ H { D with nx:=u D } I h) λf c q=>?_);cases f with
 |next=>obtain⟨d,e,b,q⟩:=q;exact i a c d e D b q
 |ret v=>exact q
 |brk=>exact q
 |cont=>exact q
def aYc (b:PS X st t):PSs X [st] t:=by
 intro a s σ H D I h;refine wpAny_execs_cons (thn (b a s σ H D I h) λf c q=>?_);cases f with
 |next=>exact bDK q
 |ret v=>exact q
 |brk=>exact q
 |cont=>exact q
def Inv.quiet (I:Inv X bFG σ H s):interactive X.env=false:=by simp[interactive,I.ok.kind]
def aKn (te:TE):TS:=λD σ H=>te σ H λ_ H1=>D.nx σ H1
def aPo (f:PE X e te)(hs:swapsWith e none pos.line X.env=pure false:=by rfl):PS X (.Expr e pos) (aKn te):=by intro a s σ H D I h;exact wpAny_Expr_any (thn (f a s σ H _ I h) λv i ⟨x,c,b,g,d⟩=>⟨σ,c,b,d⟩) I.quiet hs
def vX (te:TE):TS:=λD σ H=>te σ H D.rt
def bCy (g:PE X e te):PS X (.Return (some e) pos) (vX te):=by intro a s σ H D I h;exact wpAny_Return_some (thn (g a s σ H _ I h) λv i ⟨x,c,b,d,f⟩=>⟨x,σ,c,b,d,f⟩)
def aYd (c:TT)(t u:TS):TS:=λD σ H=>c σ H λb H1=>if b=true then t D σ H1 else u D σ H1
def bDr {c:Expr}{a b:List Stmt}{tc:TT}(m:PT X c tc)(l:PSs X a t)(k:PSs X b u):PS X (.If c a b pos) (aYd tc t u):=by
 intro e s σ H D I h;refine wpAny_If (thn (m e s σ H _ I h) λd j ⟨g,f,i⟩=>?_);cases d with
 |true=>exact l e j σ g D f i
 |false=>exact k e j σ g D f i
def aS5:TS:=λ_ _ _=>False
def aV6:PS X st aS5:=λ_ _ _ _ _ _ h=>h.elim
end
abbrev TG:=V->St->Hp->(St->Hp->Prop)->Prop
abbrev TGs:=List V->St->Hp->(St->Hp->Prop)->Prop
def PG (X:Cx)(target:Expr)(t:TG):Prop:=
 ∀bFG s σ H v u Q,Inv X bFG σ H s->RelV v u->t v σ H Q ->
  wpAny (model X.prog X.w) X.A (assign target X.env u) (λ_ s'=>∃σ' H',Inv X bFG σ' H' s'/\Q σ' H') X.xe s
def PGs (X:Cx)(ts:List Expr)(t:TGs):Prop:=
 ∀bFG s σ H vs us Q,Inv X bFG σ H s->Vals vs us->t vs σ H Q ->
  wpAny (model X.prog X.w) X.A (assignInOrder ((assignEach ts X.env).map (·.2)) us) (λ_ s'=>∃σ' H',Inv X bFG σ' H' s'/\Q σ' H') X.xe s
abbrev bCh:=V->V->V->Hp->(Hp->Prop)->Prop
def bBi (X:Cx)(t:bCh):Prop:=
 ∀bFG s σ H o i v ov iv u Q,Inv X bFG σ H s->RelV o ov->RelV i iv->RelV v u->t o i v H Q ->
  wpAny (model X.prog X.w) X.A (setItem ov iv u) (λ_ s'=>∃H',Inv X bFG σ H' s'/\Q H') X.xe s
section
variable {X:Cx}{pos:Pos}
def cI (i:Nat):TG:=λv σ H Q=>Q (σ.set i (some v)) H
def aYi (e:X.N.Nodup)(c:X.N[i]?=some x)(d:Loc X.env.scope x)(f:X.fn x=true\/X.env.scope.names.lookup x=some .local:=by first|exact .inl rfl|exact .inr rfl|assumption):PG X (.Name x pos) (cI i):=by intro b s σ H v u Q I r h;exact wpAny_assign_Name (aEd I e c d r (λg a=>⟨_,H,a,h⟩) f)
def aNe:TGs:=λvs σ H Q=>vs=[]/\Q σ H
def rA (t:TG)(u:TGs):TGs:=λvs σ H Q=>∃v r,vs=v::r/\t v σ H fun σ' H'=>u r σ' H' Q
def aWd:PGs X [] aNe:=by intro a s σ H c b Q I r h;obtain⟨e,h⟩:=h;subst e;cases r;exact assignInOrder_nil ⟨σ,H,I,h⟩
def aUs {e:Expr}{es:List Expr}{t:TG}{u:TGs}(l:PG X e t)(n:PGs X es u)
  (hs:(assignEach (e::es) X.env).map (·.2)=assign e X.env::(assignEach es X.env).map (·.2):=by rfl):PGs X (e::es) (rA t u):=by
 intro a s σ H k j Q I r h;obtain⟨v,m,c,h⟩:=h;subst c;cases r with
 |cons r rr=>rw[hs];refine assignInOrder_cons (thn (l a s σ H _ _ _ I r h) λ_ g ⟨i,d,b,f⟩=>?_);exact n a g i d _ _ Q b rr f
inductive aGn (K:bFC)(n:Nat)(t:TGs)(v:V)(σ:St)(H:Hp)(Q:St->Hp->Prop):Prop
 |mk (a:_) (xs:_) (h0:v=.ref a) (h1:SqT K H a xs) (h2:xs.length=n) (h3:t xs σ H Q):aGn K n t v σ H Q
def bBx (z:X.calm=true)(h:PGs X es t)
  (hn:(assignEach es X.env).length=n:=by rfl) (g:(assignEach es X.env).findIdx? (·.1)=none:=by rfl):PG X (.Tuple es k pos) (aGn X.K n t):=by
 intro c s σ H v u Q I r d;obtain⟨a,m,j,w,p,d⟩:=d;subst j;cases r;obtain⟨l,f,x,y⟩:=I.tuple w;refine assign_Tuple_tuple (I.ok.hd z) x (by simp[hn,<-p,f.length]) g λA q=>?_;have i:=I.kept (t':=s.toks) λb o e=>q b o (bAF (z9 e)) e;exact h c _ σ H m _ Q i (by simpa using f) d
def bDx (to ti:TE)(t:bCh):TG:=λv σ H Q=>to σ H λo H1=>ti σ H1 λi H2=>t o i v H2 λH3=>Q σ H3
def bAh {o i:Expr}{to ti:TE}{t:bCh}(z:PE X o to)(A:PE X i ti)(hs:bBi X t)
  (w:∀v,assign (.Subscript o i pos) X.env v=(do
   let ov <-holding [v] (eval o X.env)
   let iv <-holding [v,ov] (eval i X.env)
   standAt pos
   holding [v,ov,iv] (setItem ov iv v)
   release [v,ov,iv] []):=by intro _;rfl):PG X (.Subscript o i pos) (bDx to ti t):=by
 intro a s σ H v u Q I r h;rw[w];refine b7 (bBI (thn (z a s σ H _ I h) λov n ⟨x,c,b,k,l⟩=>?_));refine b7 (bBI (thn (A a n σ c _ b l) λiv e ⟨y,j,f,p,m⟩=>?_));refine b7 (bDY (b7 (bBI (thn (hs a e σ j x y v ov iv u _ f k p r m) λ_ B ⟨d,q,g⟩=>?_))));exact wpAny_release ⟨σ,d,q,g⟩
def rC (te:TE)(g:TG):TS:=λD σ H=>te σ H λx H1=>g x σ H1 D.nx
def bA5 {tg e:Expr}{te:TE}{g:TG}(j:PE X e te)(m:PG X tg g)(hs:swapsWithSole [tg] e pos.line X.env=pure false:=by rfl)(l:swappedStores [tg] e X.env=pure none:=by rfl)
  (n:(assignEach [tg] X.env).map (·.2)=[assign tg X.env]:=by rfl):PS X (.Assign [tg] e pos) (rC te g):=by
 intro a s σ H D I h;refine wpAny_Assign_stores (thn (j a s σ H _ I h) λv i ⟨x,c,b,d,f⟩=>?_) hs l;rw[n];exact thn (m a i σ c x v _ b d f) λ_ k q=>q
def bBk {i:Nat}{x:Str}{e:Expr}{te:TE}{pos':Pos}(o:X.N.Nodup)(n:X.N[i]?=some x)(m:Loc X.env.scope x)(j:PE X e te)(hs:swapsWith e (some (.Name x pos')) pos.line X.env=pure false:=by rfl)(k:X.fn x=true\/X.env.scope.names.lookup x=some .local:=by first|exact .inl rfl|exact .inr rfl|assumption) :
  PS X (.Assign [.Name x pos'] e pos) (rC te (cI i)):=by
 intro a s σ H D I h;refine wpAny_Assign_Name (thn (j a s σ H _ I h) λv p ⟨y,c,b,f,g⟩=>?_) hs;exact aEd b o n m f (λl d=>⟨_,c,d,g⟩) k
def aVc (c:TT)(tb:TS):TS:=λD σ H=>∃W:Nat->St->Hp->Prop,(∃m,W m σ H)/\∀m σ H,W m σ H ->
 c σ H λb H1=>if b=true then ∃N:St->Hp->Prop,(∀σ' H',N σ' H'->∃m',m'<m/\W m' σ' H')/\tb { D with nx:=N,ct:=N,bk:=D.nx } σ H1 else D.nx σ H1
def aS8 (x:PassesOwn (model X.prog X.w) X.A X.env X.xe)(E:PT X c tc)(C:PSs X body tb):PS X (.While c body [] pos) (aVc tc tb):=by
 intro a s σ H D I h;obtain⟨W,⟨z,u⟩,g⟩:=h;refine wpAny_While (codeAny_whileLoop (λn B=>∃σ' H',Inv X a σ' H' B/\W n σ' H') ?_ z ⟨σ,H,I,u⟩);rintro n s1 ⟨σ1,H1,I1,w1⟩;refine bCV x (thn (E a s1 σ1 H1 _ I1 (g n σ1 H1 w1)) λb y ⟨r,q,j⟩=>?_);cases b with
 |true=>
  obtain⟨N,t,j⟩:=j;rw[if_pos rfl];refine bCV x (thn (C a y σ1 r _ q j) λf F i=>?_);cases f with
  |next=>obtain⟨d,e,p,k⟩:=i;obtain⟨l,o,m⟩:=t d e k;exact⟨l,o,d,e,p,m⟩
  |cont=>obtain⟨d,e,p,k⟩:=i;obtain⟨l,o,m⟩:=t d e k;exact⟨l,o,d,e,p,m⟩
  |brk=>exact i
  |ret v=>exact i
 |false=>rw[if_neg bAA];exact bDK ⟨σ1,r,q,j⟩
end
structure It where
 go:Nat->Hp->Prop
 yld:Nat->Hp->V->Hp->Prop
 stop:Nat->Hp->Prop
def tY (X:Cx)(bFG:bFE)(H:Hp)(b:Addr):Prop:=
 H b=none/\b≠X.env.locals/\b∉X.fs/\(b∈X.ex\/X.s₀.heap.objs.size<=b)/\(∀x c,X.env.cells.lookup x=some c->c≠b)/\∀p∈X.pn++bFG,p.1≠b
def Inv.aM8 (I:Inv X bFG σ H s)(a:s.heap.objs.size<=b)(hn:H' b=none):tY X bFG H' b:=by
 refine⟨hn,bCW (bAL I.lt a),I.nofs a,.inr (bAG I.sz a),λx c e z=>?_,λp d z=>?_⟩
 ·obtain⟨v,q⟩:=I.cell x c e;exact absurd (bAL q.lt (by rw[z];exact a)) (bCF _)
 ·exact absurd (bAL (z9 (I.pin p d).1) (by rw[z];exact a)) (bCF _)
structure Turn (P:Program)(w:World)(K:bFC)(tg:Expr)(J:It)(fp:List Addr)(it:Addr)(tn:Nat->Heap->Prop):Prop where
 mem:it∈fp
 obj:∀i h,tn i h->∀b∈fp,∃o,h.get? b=some o/\∀v,o.data≠.cell v
 keep:∀i h h',tn i h->(∀b∈fp,∀o,h.get? b=some o->h'.get? b=some o)->tn i h'
 item:∀(X:Cx),X.prog=P->X.w=w->X.K=K->X.calm=true->∀(i:Nat) (bFG:bFE) (s:Shared) (σ:St) (H:Hp) (E:bFD),Inv X bFG σ H s->(∀b∈fp,tY X bFG H b)->tn i s.heap->J.go i H ->
  wpAny (model P w) X.A (pyNext (.ref it)) (λr s1=>∃u,r=some u /\
   wpAny (model P w) X.A (letOwnedTupleGo tg (.ref it) u) (λ_ s2=>∃x H',Inv X bFG σ H' s2/\RelV x u/\J.yld i H x H'/\tn (i+1) s2.heap/\∀b∈fp,H' b=none) E s1) E s
 done:∀(X:Cx),X.prog=P->X.w=w->X.K=K->X.calm=true->∀(i:Nat) (bFG:bFE) (s:Shared) (σ:St) (H:Hp) (E:bFD),Inv X bFG σ H s->(∀b∈fp,tY X bFG H b)->tn i s.heap->J.stop i H ->
  wpAny (model P w) X.A (pyNext (.ref it)) (λr s1=>r=none/\Inv X bFG σ H s1) E s
 self:∀(A:Around) (i:Nat) (s:Shared) (Q:bFD) (E:bFD),tn i s.heap->Q (.ref it) s->wpAny (model P w) A (pyIter (.ref it)) Q E s
abbrev TI:=St->Hp->(It->Hp->Prop)->Prop
def PIE (X:Cx)(bFG:bFE)(σ:St)(tg:Expr)(R:It->Hp->Prop)(itv:Value)(s2:Shared):Prop:=
 ∃it fp tn J H',itv=.ref it/\Inv X bFG σ H' s2/\Turn X.prog X.w X.K tg J fp it tn/\tn 0 s2.heap/\(∀b∈fp,tY X bFG H' b)/\R J H'
def PI (X:Cx)(tg iter:Expr)(wi:TI):Prop:=
 ∀bFG s σ H R,Inv X bFG σ H s->wi σ H R ->
  wpAny (model X.prog X.w) X.A (eval iter X.env) (λv s1=>wpAny (model X.prog X.w) X.A (pyIter v) (PIE X bFG σ tg R) X.xe s1) X.xe s
def aL3 (c:s.heap.get? it=some o)(d:o.cls=.type n)(b:o.data=.fields vs)
  (hn:["enumerate","zip","dict_itemiterator","dict_reverseitemiterator","odict_iterator","itertools.zip_longest","itertools.pairwise"].contains n=false) (a:Q () s):wpAny M A (letOwnedTupleGo tg (.ref it) u) Q E s:=by
 unfold letOwnedTupleGo;cases tg <;> first
  |exact j8 a
  |(cases u <;> first
    |exact j8 a
    |(refine b7 (wpAny_load c ?_);rw[d,b];show wpAny M A (if (["enumerate","zip","dict_itemiterator","dict_reverseitemiterator","odict_iterator","itertools.zip_longest","itertools.pairwise"].contains n && vs[0]? == some (rawInt _))=true then _ else _) Q E s;rw[if_neg (by intro h;rw[hn,bBS] at h;cases h)];exact j8 a))
def Itl (K:bFC)(a:Addr):It:=
 ⟨λi H=>∃xs x,SqL K H a xs/\xs[i]?=some x,λi H x H'=>H'=H/\∀xs,SqL K H a xs->xs[i]?=some x,λi H=>∃xs,SqL K H a xs/\xs.length<=i⟩
def Itt (K:bFC)(a:Addr):It:=
 ⟨λi H=>∃xs x,SqT K H a xs/\xs[i]?=some x,λi H x H'=>H'=H/\∀xs,SqT K H a xs->xs[i]?=some x,λi H=>∃xs,SqT K H a xs/\xs.length<=i⟩
def Itr (lo:Int)(n:Nat):It:=⟨λi _=>i<n,λi H x H'=>H'=H/\x=.int (lo+i),λi _=>n<=i⟩
def aQs {P:Program}{w:World}{K:bFC}{tg:Expr}(a it:Addr):Turn P w K tg (Itl K a) [it] it (λi h=>h.IsListIter it a i) where
 mem:=by simp
 obj:=λi h st b f=>by
  have e:b=it:=by simpa using f
  subst e;obtain⟨o,e,c,d⟩:=st;exact⟨o,e,λv z=>by rw[d] at z;cases z⟩
 keep:=λi h M st k=>st.at λo e=>k it (by simp) o e
 item:=by intro X C F y L i r s σ H E I j st A;subst C F y;obtain⟨N,x,l,t⟩:=A;obtain⟨m,q,p,O⟩:=I.list l;obtain⟨u,S,V⟩:=q.get t;obtain⟨B,n,W,D,J,G⟩:=j it (by simp);refine wpAny_pyNext_list_item st p.isList (by simpa using S) λM g U=>?_;have T:=I.turned (t':=s.toks) (λb o f e=>(U.2 b f).trans e) B n D J G;obtain⟨o,e,c,d⟩:=id g;exact⟨u,rfl,aL3 e c d (by decide) ⟨x,H,T,V,⟨rfl,λY R=>by rw[I.aUv R l];exact t⟩,g,λb f=>(j b f).1⟩⟩
 done:=by intro X C F y L i r s σ H E I j st A;subst C F y;obtain⟨N,l,t⟩:=A;obtain⟨m,q,p,O⟩:=I.list l;obtain⟨B,n,W,D,J,G⟩:=j it (by simp);have Z:=q.length;exact wpAny_pyNext_list_end (I.ok.hd L) st p.isList (by simp;lia) λM Q=>⟨rfl,I.turned (t':=s.toks) (λb o f e=>Q b o f e) B n D J G⟩
 self:=λ_ _ _ _ _ st h=>wpAny_pyIter_listiter st h
def aNl {P:Program}{w:World}{K:bFC}{tg:Expr}(a it:Addr):Turn P w K tg (Itt K a) [it] it (λi h=>h.IsTupleIter it a i) where
 mem:=by simp
 obj:=λi h st b g=>by
  have e:b=it:=by simpa using g
  subst e;obtain⟨o,e,c,d⟩:=st;exact⟨o,e,λv z=>by rw[d] at z;cases z⟩
 keep:=λi h M st k=>st.at λo e=>k it (by simp) o e
 item:=by intro X C F y L i r s σ H E I l st A;subst C F y;obtain⟨N,x,m,t⟩:=A;obtain⟨f,q,p,O⟩:=I.tuple m;obtain⟨u,S,V⟩:=q.get t;obtain⟨B,n,W,D,J,G⟩:=l it (by simp);refine wpAny_pyNext_tuple_item st (show s.heap.IsTuple a f.toArray from p) (by simpa using S) λM j U=>?_;have T:=I.turned (t':=s.toks) (λb o g e=>(U.2 b g).trans e) B n D J G;obtain⟨o,e,c,d⟩:=id j;exact⟨u,rfl,aL3 e c d (by decide) ⟨x,H,T,V,⟨rfl,λY R=>by rw[I.aRr R m];exact t⟩,j,λb g=>(l b g).1⟩⟩
 done:=by intro X C F y L i r s σ H E I l st A;subst C F y;obtain⟨N,m,t⟩:=A;obtain⟨f,q,p,O⟩:=I.tuple m;obtain⟨B,n,W,D,J,G⟩:=l it (by simp);have Z:=q.length;exact wpAny_pyNext_tuple_end (I.ok.hd L) st (show s.heap.IsTuple a f.toArray from p) (by simp;lia) λM Q=>⟨rfl,I.turned (t':=s.toks) (λb o g e=>Q b o g e) B n D J G⟩
 self:=λ_ _ _ _ _ st h=>wpAny_pyIter_tupleiter st h
def aMr {P:Program}{w:World}{K:bFC}{tg:Expr}(it:Addr)(L:Int)(n:Nat):Turn P w K tg (Itr L n) [it] it (λi h=>IsRangeIter h it (L+(i:Nat) * 1) ((n:Int) - (i:Nat)) 1) where
 mem:=by simp
 obj:=λi h st b a=>by
  have e:b=it:=by simpa using a
  subst e;exact⟨_,st,λv z=>by have D:Data.fields _=Data.cell v:=z;cases D⟩
 keep:=λi h g st k=>k it (by simp) _ st
 item:=by intro X q x l u i d s σ H E I f st m;subst q x l;obtain⟨p,j,J,r,A,y⟩:=f it (by simp);have W:=Walks.range (prog:=X.prog) (w:=X.w) (I.ok.hd u) it L 1 n;refine W.item i s _ _ m st λv g B G c M=>?_;obtain⟨t,rfl⟩:=G;have F:Inv X d σ H { s with heap:=g,toks:=B }:=I.turned (λb o a e=>M b o (by simpa using a) e) p j r A y;refine⟨_,rfl,aL3 (s:={ s with heap:=g,toks:=B }) (n:="range_iterator") c rfl rfl (by decide) ⟨.int (L+i),H,F,⟨t,?_⟩,⟨rfl,rfl⟩,c,λb a=>(f b a).1⟩⟩;rw[Int.mul_one]
 done:=by intro X q x l u i d s σ H E I f st m;subst q x l;obtain⟨p,j,J,r,A,y⟩:=f it (by simp);exact wpAny_pyNext_range_end (I.ok.hd u) st (by have:n<=i:=m;lia) λg C=>⟨rfl,I.turned (t':=s.toks) (λb o a e=>C b o a e) p j r A y⟩
 self:=λ_ _ _ _ _ st h=>wpAny_pyIter_rangeiter st h
section
variable {X:Cx}{tg:Expr}
def aFn (K:bFC)(tl:TE):TI:=fun σ H R=>tl σ H λx H1=>∃a,x=.ref a/\(∃xs,SqL K H1 a xs)/\R (Itl K a) H1
def aRn (K:bFC)(tl:TE):TI:=fun σ H R=>tl σ H λx H1=>∃a,x=.ref a/\(∃xs,SqT K H1 a xs)/\R (Itt K a) H1
def aW3 {l:Expr}{tl:TE}(w:PE X l tl):PI X tg l (aFn X.K tl):=by
 intro f s σ H R I h;refine thn (w f s σ H _ I h) λv d ⟨x,g,c,k,m⟩=>?_;obtain⟨a,e,⟨r,n⟩,q⟩:=m;subst e;cases k;obtain⟨i,u,p,t⟩:=c.list n;refine bCX p.isList ?_;refine⟨d.heap.objs.size,[d.heap.objs.size],_,_,g,rfl,c.kept (t':=d.toks) λb o e=>c7 _ e,aQs a _,⟨_,w6 _ rfl,rfl,rfl⟩,λb j=>?_,q⟩;have e:b=d.heap.objs.size:=by simpa using j
 subst e;exact c.aM8 (j9 _) (c.hok.fresh (j9 _))
def bA3 {l:Expr}{tl:TE}(w:PE X l tl):PI X tg l (aRn X.K tl):=by
 intro g s σ H R I h;refine thn (w g s σ H _ I h) λv c ⟨x,i,d,k,m⟩=>?_;obtain⟨a,e,⟨r,n⟩,q⟩:=m;subst e;cases k;obtain⟨f,u,p,t⟩:=d.tuple n;refine bED (show c.heap.IsTuple a f.toArray from p) ?_;refine⟨c.heap.objs.size,[c.heap.objs.size],_,_,i,rfl,d.kept (t':=c.toks) λb o e=>c7 _ e,aNl a _,⟨_,w6 _ rfl,rfl,rfl⟩,λb j=>?_,q⟩;have e:b=c.heap.objs.size:=by simpa using j
 subst e;exact d.aM8 (j9 _) (d.hok.fresh (j9 _))
def aVi {h:bFE}{σ:St}{H:Hp}{s:Shared}{R:It->Hp->Prop}{E:bFD}{a c:Int}{t u v:Tok}{tk:Nat}(I:Inv X h σ H s)(m:-(2 ^ 62)<=a)(l:a<2 ^ 62)(k:-(2 ^ 62)<=c)(j:c<2 ^ 62)
  (q:R (Itr a (c - a).toNat) H):wpAny (model X.prog X.w) X.A (pyIter (.ref s.heap.objs.size)) (PIE X h σ tg R) E { s with heap:=s.heap.push { cls:=.type "range",data:=.fields #[.int a t,.int c u,.int 1 v] },toks:=tk }:=by
 refine wpAny_pyIter_range (IsRange.new ..) (small_one m l k j) ?_;have d:Inv X h σ H { s with heap:=s.heap.push { cls:=.type "range",data:=.fields #[.int a t,.int c u,.int 1 v] },toks:=tk }:=I.kept λb o e=>c7 _ e;refine⟨(s.heap.push { cls:=.type "range",data:=.fields #[.int a t,.int c u,.int 1 v] }).objs.size,[(s.heap.push { cls:=.type "range",data:=.fields #[.int a t,.int c u,.int 1 v] }).objs.size],_,_,H,rfl,
  d.kept (t':=tk) λb o e=>c7 _ e,aMr _ a (c - a).toNat,?_,λb g=>?_,q⟩
 ·have f:a+((0:Nat):Int) * 1=a:=by simp
  have i:(((c - a).toNat:Nat):Int) - ((0:Nat):Int)=Builtin.Range.rangeSize a c 1:=by rw[rangeSize_one];split <;> lia
  show IsRangeIter _ _ (a+((0:Nat):Int) * 1) ((((c - a).toNat:Nat):Int) - ((0:Nat):Int)) 1;rw[f,i];exact w6 _ rfl
 ·have e:b=(s.heap.push { cls:=.type "range",data:=.fields #[.int a t,.int c u,.int 1 v] }).objs.size:=by simpa using g
  subst e;exact d.aM8 (j9 _) (d.hok.fresh (j9 _))
def aUk (ta:TA):TI:=fun σ H R=>ta σ H λvs H1=>∃j:Int,vs=[.int j]/\-(2 ^ 62)<=j/\j<2 ^ 62/\R (Itr 0 j.toNat) H1
def aQh (o:Gl X "range")(u:X.mg "range"=none)(k:PA X [a] ta)(hs:starEach [a] X.env=[(false,eval a X.env)]:=by rfl):PI X tg (.Call (.Name "range" p) [a] [] pos) (aUk ta):=by
 intro b s σ H R I h;refine Call_ (wI I o u boot_range (bCM (thn (k pos b s σ H _ I h) λl n ⟨m,i,d,f,c⟩=>?_) hs rfl));obtain⟨j,e,c,g,q⟩:=c;subst e;cases f with
 |cons r rr=>cases rr;obtain⟨t,rfl⟩:=r;exact call_range_1 (aVi d (by lia) (by lia) c g (by simpa using q))
def bD0 (wi:TI)(g:TG)(tb:TS):TS:=λD σ H=>wi σ H λJ H1=>∃W:Nat->Nat->St->Hp->Prop,(∃m,W 0 m σ H1)/\∀i m σ H,W i m σ H ->
 (J.stop i H/\D.nx σ H)\/(J.go i H/\∃N:St->Hp->Prop,(∀σ' H',N σ' H'->∃m',m'<m/\W (i+1) m' σ' H')/\∀x H',J.yld i H x H'->g x σ H' fun σ2 H2=>tb { D with nx:=N,ct:=N,bk:=D.nx } σ2 H2)
def aCl (fp:List Addr)(h:Heap):bFE:=fp.filterMap λb=>(h.get? b).map λo=>(b,o)
def qO (a:b∈fp)(e:h.get? b=some o):(b,o)∈aCl fp h:=List.mem_filterMap.mpr ⟨b,a,by rw[e];rfl⟩
def aQf (d:p∈aCl fp h):p.1∈fp/\h.get? p.1=some p.2:=by
 obtain⟨b,a,e⟩:=List.mem_filterMap.mp d;cases q:h.get? b with
 |none=>rw[q] at e;cases e
 |some o=>rw[q] at e;have c:=bAM e;subst c;exact⟨a,q⟩
def Inv.pinned (I:Inv X bFG σ H s)(j:∀b∈fp,tY X bFG H b)(k:∀b∈fp,∃o,s.heap.get? b=some o/\∀v,o.data≠.cell v):Inv X (bFG++aCl fp s.heap) σ H s:=
 I.aOn λp h=>(List.mem_append.mp h).elim (λz=>I.pin p (bAO _ z)) λz=>by obtain⟨a,e⟩:=aQf z;obtain⟨f,g,i,_⟩:=j p.1 a;obtain⟨o,c,d⟩:=k p.1 a;rw[e] at c;cases c;exact⟨e,f,g,i,d⟩
def Inv.rG (I:Inv X (bFG++pl) σ H s):Inv X bFG σ H s:=I.aOn λp a=>I.pin p (bAO _ (bDP _ a))
theorem bCr {iter:Expr}{body:List Stmt}{wi:TI}{g:TG}{tb:TS}{pos:Pos}(F:PassesOwn (model X.prog X.w) X.A X.env X.xe)(hc:X.calm=true)(hi:PI X tg iter wi)(hg:PG X tg g)(q:PSs X body tb)
  (hs:∀x,foldedSetIterable iter X.env x=pure x:=by intro _;rfl):PS X (.For tg iter body [] pos) (bD0 wi g tb):=by
 intro a s σ H D I h;refine wpAny_For (thn (hi a s σ H _ I h) λv s1 h1=>thn h1 λa0 s2 h2=>?_) hs;obtain⟨it,z,S,J,H2,e,I2,T,G,U,W,⟨m0,w0⟩,B⟩:=h2;subst e;have k:∀{H':Hp},(∀b∈z,H' b=none)->∀b∈z,tY X a H' b:=λV b q=>⟨V b q,(U b q).2⟩;refine codeAny_forLoop_any (λn Q=>∃i σ' H',Inv X a σ' H' Q/\S i Q.heap/\(∀b∈z,H' b=none)/\W i n σ' H') ?_ m0 ⟨0,σ,H2,I2,G,λb q=>(U b q).1,w0⟩;rintro n s3 ⟨i,σ3,H3,I3,st3,fr3,w3⟩;rcases B i n σ3 H3 w3 with⟨C,qn⟩|⟨go,N,hN,step⟩
 ·refine bCV F (thn (T.done X rfl rfl rfl hc i a s3 σ3 H3 X.xe I3 (k fr3) st3 C) λr s4 ⟨L,I4⟩=>?_);subst L;exact bDK ⟨σ3,H3,I4,qn⟩
 ·refine bCV F (thn (T.item X rfl rfl rfl hc i a s3 σ3 H3 X.xe I3 (k fr3) st3 go) λr s4 ⟨u,L,h4⟩=>?_);subst L;refine bCV F (thn h4 λ_ P ⟨x,R,I5,r5,y5,y,M⟩=>?_);have K:=I5.pinned (k M) (T.obj _ _ y);refine bCV F (thn (hg _ P σ3 R x u _ K r5 (step x R y5)) λ_ Z ⟨σ6,H6,I6,q6⟩=>?_);refine bCV F (thn (q _ Z σ6 H6 _ I6 q6) λf O t=>?_);have j:∀{c:St} {l:Hp},Inv X (a++aCl z P.heap) c l O->N c l->∃m,m<n/\∃i σ' H',Inv X a σ' H' O/\S i O.heap/\(∀b∈z,H' b=none)/\W i m σ' H':=λ{c l} p E=>by obtain⟨m',hm,w7⟩:=hN c l E;refine⟨m',hm,i+1,c,l,p.rG,T.keep _ _ _ y λb q o e=>(p.pin (b,o) (bAO _ (bAO _ (qO q e)))).1,λb q=>?_,w7⟩;obtain⟨o,e,d⟩:=T.obj _ _ y b q;exact (p.pin (b,o) (bAO _ (bAO _ (qO q e)))).2.1
  cases f with
  |next=>obtain⟨c,l,p,E⟩:=t;exact j p E
  |cont=>obtain⟨c,l,p,E⟩:=t;exact j p E
  |brk=>obtain⟨c,l,p,t⟩:=t;exact⟨c,l,p.rG,t⟩
  |ret v=>obtain⟨x7,c,l,p,Y,t⟩:=t;exact⟨x7,c,l,p.rG,Y,t⟩
end
def aVj {K:bFC}{a:Addr}{xs:List V}{g:TG}{tb:TS}{D:Ends}{σ:St}{H:Hp}(d:Nat->St->Hp->Prop)(f:d 0 σ H)(j:∀i σ H,i<=xs.length->d i σ H->SqL K H a xs)
  (hs:∀i x σ H,xs[i]?=some x->d i σ H->g x σ H fun σ2 H2=>tb { D with nx:=d (i+1),ct:=d (i+1),bk:=D.nx } σ2 H2) (h:∀σ H,d xs.length σ H->D.nx σ H) :
  ∃W:Nat->Nat->St->Hp->Prop,(∃m,W 0 m σ H)/\∀i m σ H,W i m σ H ->
   ((Itl K a).stop i H/\D.nx σ H)\/((Itl K a).go i H/\∃N:St->Hp->Prop,(∀σ' H',N σ' H'->∃m',m'<m/\W (i+1) m' σ' H')/\∀x H',(Itl K a).yld i H x H'->g x σ H' fun σ2 H2=>tb { D with nx:=N,ct:=N,bk:=D.nx } σ2 H2):=by
 refine⟨λi m σ H=>m=xs.length - i/\i<=xs.length/\d i σ H,⟨xs.length,by simp,bAK _,f⟩,?_⟩;rintro i m σ H ⟨rfl,hi,p⟩;have q:=j i σ H hi p;by_cases b:i<xs.length
 ·refine .inr ⟨⟨xs,xs[i],q,by simp[b]⟩,d (i+1),fun σ' H' c=>⟨xs.length - (i+1),by lia,rfl,b,c⟩,λx H' y=>?_⟩;obtain⟨e,y⟩:=y;subst e;exact hs i x σ _ (y xs q) p
 ·have e:i=xs.length:=by lia
  subst e;exact .inl ⟨⟨xs,q,j9 _⟩,h σ H p⟩
def pX {K:bFC}{a:Addr}{xs:List V}{g:TG}{tb:TS}{D:Ends}{σ:St}{H:Hp}(d:Nat->St->Hp->Prop)(f:d 0 σ H)(j:∀i σ H,i<=xs.length->d i σ H->SqT K H a xs)
  (hs:∀i x σ H,xs[i]?=some x->d i σ H->g x σ H fun σ2 H2=>tb { D with nx:=d (i+1),ct:=d (i+1),bk:=D.nx } σ2 H2) (h:∀σ H,d xs.length σ H->D.nx σ H) :
  ∃W:Nat->Nat->St->Hp->Prop,(∃m,W 0 m σ H)/\∀i m σ H,W i m σ H ->
   ((Itt K a).stop i H/\D.nx σ H)\/((Itt K a).go i H/\∃N:St->Hp->Prop,(∀σ' H',N σ' H'->∃m',m'<m/\W (i+1) m' σ' H')/\∀x H',(Itt K a).yld i H x H'->g x σ H' fun σ2 H2=>tb { D with nx:=N,ct:=N,bk:=D.nx } σ2 H2):=by
 refine⟨λi m σ H=>m=xs.length - i/\i<=xs.length/\d i σ H,⟨xs.length,by simp,bAK _,f⟩,?_⟩;rintro i m σ H ⟨rfl,hi,p⟩;have q:=j i σ H hi p;by_cases b:i<xs.length
 ·refine .inr ⟨⟨xs,xs[i],q,by simp[b]⟩,d (i+1),fun σ' H' c=>⟨xs.length - (i+1),by lia,rfl,b,c⟩,λx H' y=>?_⟩;obtain⟨e,y⟩:=y;subst e;exact hs i x σ _ (y xs q) p
 ·have e:i=xs.length:=by lia
  subst e;exact .inl ⟨⟨xs,q,j9 _⟩,h σ H p⟩
def gH {lo:Int}{n:Nat}{g:TG}{tb:TS}{D:Ends}{σ:St}{H:Hp}(c:Nat->St->Hp->Prop)(d:c 0 σ H)
  (hs:∀i σ H,i<n->c i σ H->g (.int (lo+i)) σ H fun σ2 H2=>tb { D with nx:=c (i+1),ct:=c (i+1),bk:=D.nx } σ2 H2) (f:∀σ H,c n σ H->D.nx σ H) :
  ∃W:Nat->Nat->St->Hp->Prop,(∃m,W 0 m σ H)/\∀i m σ H,W i m σ H ->
   ((Itr lo n).stop i H/\D.nx σ H)\/((Itr lo n).go i H/\∃N:St->Hp->Prop,(∀σ' H',N σ' H'->∃m',m'<m/\W (i+1) m' σ' H')/\∀x H',(Itr lo n).yld i H x H'->g x σ H' fun σ2 H2=>tb { D with nx:=N,ct:=N,bk:=D.nx } σ2 H2):=by
 refine⟨λi m σ H=>m=n - i/\i<=n/\c i σ H,⟨n,by simp,bAK _,d⟩,?_⟩;rintro i m σ H ⟨rfl,hi,p⟩;by_cases a:i<n
 ·refine .inr ⟨a,c (i+1),fun σ' H' b=>⟨n - (i+1),by lia,rfl,a,b⟩,λx H' y=>?_⟩;obtain⟨e,y⟩:=y;subst e y;exact hs i σ _ a p
 ·have e:i=n:=by lia
  subst e;exact .inl ⟨j9 _,f σ H p⟩
abbrev R2:=V->V->Hp->VK->Prop
def OpR (X:Cx)(f:Value->Value->Sem Value)(r:R2):Prop:=
 ∀bFG s σ H x y v u Q,Inv X bFG σ H s->RelV x v->RelV y u->r x y H Q ->
  wpAny (model X.prog X.w) X.A (f v u) (EP X bFG σ Q) X.xe s
def UnR (X:Cx)(f:Value->Sem Value)(r:V->Hp->VK->Prop):Prop:=
 ∀bFG s σ H x v Q,Inv X bFG σ H s->RelV x v->r x H Q ->
  wpAny (model X.prog X.w) X.A (f v) (EP X bFG σ Q) X.xe s
def dD (X:Cx)(f:Value)(r:List V->Hp->VK->Prop):Prop:=
 ∀bFG s σ H xs us Q,Inv X bFG σ H s->Vals xs us->r xs H Q ->
  wpAny (model X.prog X.w) X.A (call f us) (EP X bFG σ Q) X.xe s
def bFu (X:Cx)(r:V->Hp->(Bool->Hp->Prop)->Prop):Prop:=
 ∀bFG s σ H x v Q,Inv X bFG σ H s->RelV x v->r x H Q ->
  wpAny (model X.prog X.w) X.A (truthy v) (TP X bFG σ Q) X.xe s
def tOp (r:R2)(ta tb:TE):TE:=fun σ H Q=>ta σ H λx H1=>tb σ H1 λy H2=>r x y H2 Q
def tUn (r:V->Hp->VK->Prop)(ta:TE):TE:=fun σ H Q=>ta σ H λx H1=>r x H1 Q
inductive rI (C:Int->Int->Prop)(g:Int->Int->V)(x:V)(y:V)(H:Hp)(Q:VK):Prop
 |mk (i:_) (j:_) (h0:x=.int i) (h1:y=.int j) (h2:C i j) (h3:Q (g i j) H):rI C g x y H Q
inductive rI0 (g:Int->Int->V)(x:V)(y:V)(H:Hp)(Q:VK):Prop
 |mk (i:_) (j:_) (h0:x=.int i) (h1:y=.int j) (h2:Q (g i j) H):rI0 g x y H Q
def rU (g:Int->V):V->Hp->VK->Prop:=λx H Q=>∃i,x=.int i/\Q (g i) H
section
variable {X:Cx}{a b c:Expr}{ta tb tc:TE}{pos:Pos}
def aT9 (n:PE X a ta)(m:PE X b tb){c:bFE}{s:Shared}{σ:St}{H:Hp}{R:V->V->Hp->Prop}(I:Inv X c σ H s)
  (h:ta σ H λx H1=>tb σ H1 λy H2=>R x y H2) {Q:bFD} {f:Value->Value->Sem Value}
  (o:∀v u s2 x y H2,Inv X c σ H2 s2->RelV x v->RelV y u->R x y H2->wpAny (model X.prog X.w) X.A (f v u) Q X.xe s2) :
  wpAny (model X.prog X.w) X.A (eval a X.env) (λv s₁=>wpAny (model X.prog X.w) X.A (eval b X.env) (λu s₂=>wpAny (model X.prog X.w) X.A (f v u) Q X.xe s₂) X.xe s₁) X.xe s:=by
 refine thn (n c s σ H _ I h) λv k ⟨x,H1,d,g,i⟩=>?_;refine thn (m c k σ H1 _ d i) λu s2 ⟨y,H2,e,l,j⟩=>?_;exact o v u s2 x y H2 e g l j
def bDc {op:Operator}{r:R2}(l:OpR X (binaryOp op) r)(k:PE X a ta)(j:PE X b tb):PE X (.BinOp a op b pos) (tOp r ta tb):=by intro c s σ H Q I h;exact wpAny_BinOp (aT9 k j I h λv u e x y g f d i q=>l c e σ g x y v u Q f d i q)
def bDu {op:UnaryOp}{r:V->Hp->VK->Prop}(j:UnR X (unaryOp op) r)(i:PE X a ta):PE X (.UnaryOp op a pos) (tUn r ta):=by intro b s σ H Q I h;exact UnaryOp_ (thn (i b s σ H _ I h) λv g ⟨x,d,c,e,f⟩=>j b g σ d x v Q c e f)
def opI {f:Value->Value->Sem Value}{C:Int->Int->Prop}{g:Int->Int->Int}
  (a:∀(i j:Int) (t u:Tok) (s:Shared) (Q:bFD) (E:bFD),C i j->Q (.int (g i j) s.toks) { s with toks:=s.toks+1 }->wpAny (model X.prog X.w) X.A (f (.int i t) (.int j u)) Q E s) :
  OpR X f (rI C λi j=>.int (g i j)):=by
 intro b s σ H x y v u Q I c k h;obtain⟨i,j,rfl,rfl,d,q⟩:=h;obtain⟨t,rfl⟩:=c;obtain⟨e,rfl⟩:=k;exact a i j t e s _ _ d ⟨.int (g i j),H,I.tok _,⟨_,rfl⟩,q⟩
def bDw {f:Value->Value->Sem Value}{g:Int->Int->Int}
  (a:∀(i j:Int) (t u:Tok) (s:Shared) (Q:bFD) (E:bFD),Q (.int (g i j) s.toks) { s with toks:=s.toks+1 }->wpAny (model X.prog X.w) X.A (f (.int i t) (.int j u)) Q E s) :
  OpR X f (rI0 λi j=>.int (g i j)):=by
 intro b s σ H x y v u Q I c e h;obtain⟨i,j,rfl,rfl,q⟩:=h;obtain⟨t,rfl⟩:=c;obtain⟨d,rfl⟩:=e;exact a i j t d s _ _ ⟨.int (g i j),H,I.tok _,⟨_,rfl⟩,q⟩
def aX8 {f:Value->Value->Sem Value}{g:Int->Int->Bool}
  (a:∀(i j:Int) (t u:Tok) (s:Shared) (Q:bFD) (E:bFD),Q (.bool (g i j)) s->wpAny (model X.prog X.w) X.A (f (.int i t) (.int j u)) Q E s) :
  OpR X f (rI0 λi j=>.bl (g i j)):=by
 intro b s σ H x y v u Q I c e h;obtain⟨i,j,rfl,rfl,q⟩:=h;obtain⟨t,rfl⟩:=c;obtain⟨d,rfl⟩:=e;exact a i j t d s _ _ ⟨.bl (g i j),H,I,rfl,q⟩
def bE5 (i j:Int):Prop:=0<j/\j<1073741824
def bFm (i j:Int):Prop:=0<=j/\j<=1000000/\i.natAbs<2 ^ 64
def bA4 (i j:Int):Prop:=(-(2 ^ 64)<i/\i<2 ^ 64)\/(-(2 ^ 64)<j/\j<2 ^ 64)
def bA4.ok (h:bA4 i j):IntMulOk i j:=by
 rcases h with⟨b,a⟩|⟨b,a⟩
 ·exact .of_left (intBits_le_64 b a)
 ·exact .of_right (intBits_le_64 b a)
def eG:OpR X (binaryOp .Add) (rI0 λi j=>.int (i+j)):=bDw λ_ _ _ _ _ _ _ q=>add_int q
def aDk:OpR X (binaryOp .Sub) (rI0 λi j=>.int (i - j)):=bDw λ_ _ _ _ _ _ _ q=>sub_int q
def aCt:OpR X (binaryOp .Mult) (rI bA4 λi j=>.int (i * j)):=opI λ_ _ _ _ _ _ _ a q=>mul_int q a.ok
def aYh:OpR X (binaryOp .FloorDiv) (rI bE5 λi j=>.int (i / j)):=opI λi j _ _ _ _ _ a q=>by have c:=a.1;have b:=a.2;exact floordiv_int (by lia) (by rw[Int.fdiv_eq_ediv_of_nonneg i (by lia)];exact q) (.inl (PyProof.noPylong_small (by lia)))
def wH:OpR X (binaryOp .Mod) (rI (λ_ j=>0<j) λi j=>.int (i % j)):=opI λi j _ _ _ _ _ a q=>by have b:=a;exact mod_int' (by lia) (by rw[Int.fmod_eq_emod_of_nonneg i (by lia)];exact q)
def aNb:OpR X (binaryOp .Pow) (rI bFm λi j=>.int (i ^ j.toNat)):=opI λ_ _ _ _ _ _ _ a q=>pow_int_small a.1 a.2.1 a.2.2 q
def unI {f:Value->Sem Value}{g:Int->Int}
  (a:∀(i:Int) (t:Tok) (s:Shared) (Q:bFD) (E:bFD),Q (.int (g i) s.toks) { s with toks:=s.toks+1 }->wpAny (model X.prog X.w) X.A (f (.int i t)) Q E s) :
  UnR X f (rU λi=>.int (g i)):=by
 intro b s σ H x v Q I c h;obtain⟨i,rfl,q⟩:=h;obtain⟨t,rfl⟩:=c;exact a i t s _ _ ⟨.int (g i),H,I.tok _,⟨_,rfl⟩,q⟩
def aCs:UnR X (unaryOp .USub) (rU λi=>.int (-i)):=unI λ_ _ _ _ _ q=>neg_int q
end
def scal:V->V->Bool
 |.non,.non=>true|.non,.int _=>true|.int _,.non=>true|.non,.bl _=>true|.bl _,.non=>true|.non,.str _=>true|.str _,.non=>true
 |.int _,.int _=>true|.bl _,.bl _=>true|.str _,.str _=>true|.byt _,.byt _=>true
 |.int _,.str _=>true|.str _,.int _=>true|.bl _,.str _=>true|.str _,.bl _=>true
 |_,_=>false
def rEq:R2:=λx y H Q=>scal x y=true/\Q (.bl (decide (x=y))) H
def rNe:R2:=λx y H Q=>scal x y=true/\Q (.bl (!decide (x=y))) H
def aPp:decide (V.int i=V.int j)=(i == j):=by rw[bCB];simp
def aTj:decide (V.bl i=V.bl j)=(i == j):=by rw[bCB];simp
def aOy:decide (V.str i=V.str j)=(i == j):=by rw[bCB];simp
def aPk:decide (V.byt i=V.byt j)=(i.toList == j.toList):=by rw[bCB];cases i;cases j;simp
section
variable {X:Cx}{a b c:Expr}{ta tb tc:TE}{pos:Pos}
def cN (I:Inv X bFG σ H s)(q:Q (.bl k) H)(e:k=k'):EP X bFG σ Q (.bool k') s:=by subst e;exact⟨.bl k,H,I,rfl,q⟩
def cJ:OpR X (compareOp .Eq) rEq:=by
 intro e s σ H x y v u Q I d a h;obtain⟨c,q⟩:=h;cases x with
 |non=>
  cases d;cases y with
  |non=>cases a;exact PySem.EqNone.eq_none_none (cN I q (by simp))
  |bl j=>cases a;exact PySem.EqNone.eq_none_bool (cN I q (by simp))
  |int j=>obtain⟨b,rfl⟩:=a;exact PySem.EqNone.eq_none_int (cN I q (by simp))
  |str j=>obtain⟨b,rfl⟩:=a;exact PySem.EqNone.eq_none_str (cN I q (by simp))
  |_=>exact absurd (show false=true from c) bAA
 |bl i=>
  cases d;cases y with
  |non=>cases a;exact PySem.EqNone.eq_bool_none (cN I q (by simp))
  |bl j=>cases a;exact eq_bool (cN I q aTj)
  |str j=>obtain⟨b,rfl⟩:=a;exact PySem.EqMixed.eq_bool_str (cN I q (by simp))
  |_=>exact absurd (show false=true from c) bAA
 |int i=>
  obtain⟨t,rfl⟩:=d;cases y with
  |non=>cases a;exact PySem.EqNone.eq_int_none (cN I q (by simp))
  |int j=>obtain⟨b,rfl⟩:=a;exact eq_int (cN I q aPp)
  |str j=>obtain⟨b,rfl⟩:=a;exact PySem.EqMixed.eq_int_str (cN I q (by simp))
  |_=>exact absurd (show false=true from c) bAA
 |str i=>
  obtain⟨t,rfl⟩:=d;cases y with
  |non=>cases a;exact PySem.EqNone.eq_str_none (cN I q (by simp))
  |bl j=>cases a;exact PySem.EqMixed.eq_str_bool (cN I q (by simp))
  |int j=>obtain⟨b,rfl⟩:=a;exact PySem.EqMixed.eq_str_int (cN I q (by simp))
  |str j=>obtain⟨b,rfl⟩:=a;exact eq_str (cN I q aOy)
  |_=>exact absurd (show false=true from c) bAA
 |byt i=>
  obtain⟨t,rfl⟩:=d;cases y with
  |byt j=>obtain⟨b,rfl⟩:=a;exact PySem.W.eq_bytes (cN I q aPk)
  |_=>exact absurd (show false=true from c) bAA
 |_=>cases y <;> exact absurd (show false=true from c) bAA
def nJ:OpR X (compareOp .NotEq) rNe:=by
 intro e s σ H x y v u Q I d a h;obtain⟨c,q⟩:=h;cases x with
 |non=>
  cases d;cases y with
  |non=>cases a;exact PySem.EqNone.ne_none_none (cN I q (by simp))
  |bl j=>cases a;exact PySem.EqNone.ne_none_bool (cN I q (by simp))
  |int j=>obtain⟨b,rfl⟩:=a;exact PySem.EqNone.ne_none_int (cN I q (by simp))
  |str j=>obtain⟨b,rfl⟩:=a;exact PySem.EqNone.ne_none_str (cN I q (by simp))
  |_=>exact absurd (show false=true from c) bAA
 |bl i=>
  cases d;cases y with
  |non=>cases a;exact PySem.EqNone.ne_bool_none (cN I q (by simp))
  |bl j=>cases a;exact ne_bool (cN I q (congrArg not aTj))
  |str j=>obtain⟨b,rfl⟩:=a;exact PySem.EqMixed.ne_bool_str (cN I q (by simp))
  |_=>exact absurd (show false=true from c) bAA
 |int i=>
  obtain⟨t,rfl⟩:=d;cases y with
  |non=>cases a;exact PySem.EqNone.ne_int_none (cN I q (by simp))
  |int j=>obtain⟨b,rfl⟩:=a;exact ne_int (cN I q (congrArg not aPp))
  |str j=>obtain⟨b,rfl⟩:=a;exact PySem.EqMixed.ne_int_str (cN I q (by simp))
  |_=>exact absurd (show false=true from c) bAA
 |str i=>
  obtain⟨t,rfl⟩:=d;cases y with
  |non=>cases a;exact PySem.EqNone.ne_str_none (cN I q (by simp))
  |bl j=>cases a;exact PySem.EqMixed.ne_str_bool (cN I q (by simp))
  |int j=>obtain⟨b,rfl⟩:=a;exact PySem.EqMixed.ne_str_int (cN I q (by simp))
  |str j=>obtain⟨b,rfl⟩:=a;exact ne_str (cN I q (congrArg not aOy))
  |_=>exact absurd (show false=true from c) bAA
 |byt i=>
  obtain⟨t,rfl⟩:=d;cases y with
  |byt j=>obtain⟨b,rfl⟩:=a;exact PySem.W.ne_bytes (cN I q (congrArg not aPk))
  |_=>exact absurd (show false=true from c) bAA
 |_=>cases y <;> exact absurd (show false=true from c) bAA
def aU0:OpR X (compareOp .Lt) (rI0 λi j=>.bl (decide (i<j))):=aX8 λ_ _ _ _ _ _ _ q=>lt_int q
def aGh:OpR X (compareOp .LtE) (rI0 λi j=>.bl (decide (i<=j))):=aX8 λ_ _ _ _ _ _ _ q=>le_int q
def aV7:OpR X (compareOp .Gt) (rI0 λi j=>.bl (decide (j<i))):=aX8 λ_ _ _ _ _ _ _ q=>gt_int q
def bD2:OpR X (compareOp .GtE) (rI0 λi j=>.bl (decide (j<=i))):=aX8 λ_ _ _ _ _ _ _ q=>ge_int q
def aFf:OpR X (compareOp .In) (λx y H Q=>∃i j,x=.str i/\y=.str j/\Q (.bl (!(Builtin.Str.occurrences j i 0 j.length 1).isEmpty)) H):=by intro a s σ H x y v u Q I b c h;obtain⟨i,j,rfl,rfl,q⟩:=h;obtain⟨t,rfl⟩:=b;obtain⟨d,rfl⟩:=c;exact in_str (cN I q rfl)
def aIg:OpR X (compareOp .Is) (λx y H Q=>y=.non/\Q (.bl (decide (x=.non))) H):=by
 intro b s σ H x y v u Q I a c h;obtain⟨rfl,q⟩:=h;cases c;refine is_none_gen (cN I q ?_);cases x <;> first
  |(cases a;rfl)
  |(obtain⟨t,rfl⟩:=a;rfl)
def aOl:OpR X (compareOp .IsNot) (λx y H Q=>y=.non/\Q (.bl (!decide (x=.non))) H):=by
 intro b s σ H x y v u Q I a c h;obtain⟨rfl,q⟩:=h;cases c;refine isnot_none_gen (cN I q ?_);cases x <;> first
  |(cases a;rfl)
  |(obtain⟨t,rfl⟩:=a;rfl)
def OpR.or (h:OpR X f r)(h':OpR X f r'):OpR X f (λx y H Q=>r x y H Q\/r' x y H Q):=by
 intro a s σ H x y v u Q I c b q;rcases q with q|q
 ·exact h a s σ H x y v u Q I c b q
 ·exact h' a s σ H x y v u Q I c b q
def aT5 (b:Expr)(h:op≠.In:=by decide)(d:op≠.NotIn:=by decide):behindInMarks op b=false:=by
 have a:(op == CmpOp.In)=false:=by cases op <;> first|rfl|exact absurd rfl h
 have c:(op == CmpOp.NotIn)=false:=by cases op <;> first|rfl|exact absurd rfl d
 cases b <;> simp[behindInMarks,a,c]
def aYl (l:OpR X (compareOp op) r)(k:PE X a ta)(j:PE X b tb)(m:behindInMarks op b=false):PE X (.Compare a [op] [b] pos) (tOp r ta tb):=by intro c s σ H Q I h;exact wpAny_Compare1 (aT9 k j I h λv u e x y g f d i q=>l c e σ g x y v u Q f d i q) m
inductive aP7 (Q:Bool->Hp->Prop)(x:V)(H':Hp):Prop
 |mk (k:_) (h0:x=.bl k) (h1:Q k H'):aP7 Q x H'
def aFk (t:TE):TT:=fun σ H Q=>t σ H (aP7 Q)
def aX4 {op:CmpOp}{r:R2}(E:OpR X (compareOp op) r)(D:PE X a ta)(C:PE X b tb)(F:behindInMarks op b=false):PT X (.Compare a [op] [b] pos) (aFk (tOp r ta tb)):=by
 intro d s σ H Q I h;refine wpAny_isTrue_Compare1 (thn (D d s σ H _ I h) λv w ⟨x,g,f,p,q⟩=>thn (C d w σ g _ f q) λu l ⟨y,o,m,A,t⟩=>
  thn (E d l σ o x y v u _ m p A t) λc G ⟨z,i,B,j,k,e,n⟩=>?_) F
 subst e;cases j;exact bBH ⟨i,B,n⟩
def aIp (r r':R2)(ta tb tc:TE):TE:=fun σ H Q=>ta σ H λx H1=>tb σ H1 λy H2=>r x y H2 λz H3=>∃k,z=.bl k /\
 (if k=true then tc σ H3 λw' H4=>r' y w' H4 Q else Q (.bl false) H3)
def aUc {op op':CmpOp}{r r':R2}(R:OpR X (compareOp op) r)(q:OpR X (compareOp op') r')(P:PE X a ta)(O:PE X b tb)(S:PE X c tc)
  (T:lastMarks [op,op'] [b,c]=false:=by with_unfolding_all rfl):PE X (.Compare a [op,op'] [b,c] pos) (aIp r r' ta tb tc):=by
 intro f s σ H Q I h;refine Compare_chain (thn (P f s σ H _ I h) λv L ⟨x,B,A,E,G⟩=>chain_link (thn (O f L σ B _ A G) λu n ⟨y,D,C,l,J⟩=>
  thn (R f n σ D x y v u _ C E l J) λd w ⟨z,g,j,m,k,e,i⟩=>?_)) T
 subst e;cases m;refine bBH ?_;cases k with
 |false=>exact ite_ff ⟨.bl false,g,j,rfl,i⟩
 |true=>exact ite_tt (chain_last (thn (S f w σ g _ j i) λN K ⟨t,p,M,o,F⟩=>q f K σ p y t u N Q M l o F))
def aSx {op op':CmpOp}{r r':R2}(ho:OpR X (compareOp op) r)(t:OpR X (compareOp op') r')(ha:PE X a ta)(hb:PE X b tb)(hc:PE X c tc)
  (hm:lastMarks [op,op'] [b,c]=false:=by with_unfolding_all rfl):PT X (.Compare a [op,op'] [b,c] pos) (aFk (aIp r r' ta tb tc)):=by
 intro f s σ H Q I h;refine isTrue_chain (thn (ha f s σ H _ I h) λv S ⟨x,F,E,L,O⟩=>test_link (thn (hb f S σ F _ E O) λu n ⟨y,K,J,j,P⟩=>
  thn (ho f n σ K x y v u _ J L j P) λd B ⟨z,g,l,m,k,e,i⟩=>?_)) hm
 subst e;cases m;refine bBH ?_;cases k with
 |false=>obtain⟨k',U,D⟩:=i;cases U;exact ite_ff ⟨g,l,D⟩
 |true=>refine ite_tt (test_last (thn (hc f B σ g _ l i) λA R ⟨w,q,T,o,N⟩=>thn (t f R σ q y w u A _ T j o N) λY Z ⟨W,G,V,M,k2,p,C⟩=>?_));subst p;cases M;exact bBH ⟨G,V,C⟩
def bA2 (K:bFC)(x:V)(H:Hp)(k:Bool):Prop:=
 match x with
 |.non=>k=false
 |.bl b=>k=b
 |.int i=>k=(i != 0)
 |.str y=>y.length<=sizeLine/\k=((y.length:Int) != 0)
 |.byt y=>y.size<=sizeLine/\k=((y.size:Int) != 0)
 |.ref p=>(∃xs,SqL K H p xs/\k=!xs.isEmpty)\/(∃xs,SqT K H p xs/\k=!xs.isEmpty)\/∃kvs,H p=some (.dK kvs)/\k=!kvs.isEmpty
 |_=>False
def aNr {κ:Type}{kvs:List (κ × V)}{vs:List (κ × Value)}(r:KV kvs vs):(!vs.isEmpty)=!kvs.isEmpty:=by cases r <;> rfl
def aDf (r:Vals xs its):(!its.toArray.isEmpty)=!xs.isEmpty:=by cases r <;> simp
def aAq:(sizeLine:Nat)<2 ^ 63:=by rw[sizeLine_eq];decide
def bCl:bFu X (λx H Q=>∃k,bA2 X.K x H k/\Q k H):=by
 intro z s σ H x v Q I f h;obtain⟨k,e,q⟩:=h;have C:=aAq;have B:sizeLine=16777216:=sizeLine_eq;cases x with
 |non=>cases f;have a:k=false:=e;subst a;exact truthy_none ⟨H,I,q⟩
 |bl b=>cases f;have a:k=b:=e;subst a;exact bBH ⟨H,I,q⟩
 |int i=>obtain⟨t,rfl⟩:=f;have a:k=(i != 0):=e;subst a;exact PySem.P.truthy_int ⟨H,I,q⟩
 |str y=>obtain⟨t,rfl⟩:=f;obtain⟨A,a⟩:y.length<=sizeLine/\k=((y.length:Int) != 0):=e;subst a;exact PySem.P.truthy_str (by lia) ⟨H,I.tok _,q⟩
 |byt y=>obtain⟨t,rfl⟩:=f;obtain⟨A,a⟩:y.size<=sizeLine/\k=((y.size:Int) != 0):=e;subst a;exact PySem.W.truthy_bytes (by lia) ⟨H,I.tok _,q⟩
 |ref p=>
  cases f;have a:(∃d,SqL X.K H p d/\k=!d.isEmpty)\/(∃d,SqT X.K H p d/\k=!d.isEmpty)\/∃kvs,H p=some (.dK kvs)/\k=!kvs.isEmpty:=e;rcases a with⟨d,g,a⟩|⟨d,g,a⟩|⟨kvs,g,a⟩
  ·subst a;obtain⟨l,r,n,o⟩:=I.list g;have c:=r.length;exact wpAny_truthy_list n.isList (by simp only[m9];lia) ⟨H,I.tok _,by rw[aDf r];exact q⟩
  ·subst a;obtain⟨l,r,n,o⟩:=I.tuple g;have c:=r.length;exact truthy_tuple n (by simp only[m9];lia) ⟨H,I.tok _,by rw[aDf r];exact q⟩
  ·subst a;obtain⟨o,u,j,r,m⟩:kvs.length<=sizeLine/\(p == sysModules)=false/\∃j,KV kvs j/\s.heap.DictOf (eU X.prog X.w) p j:=I.hok p _ g;have c:kvs.length=j.length:=Paired.length r;exact wpAny_truthy_dict u m (by lia) ⟨H,I.tok _,by rw[aNr r];exact q⟩
 |_=>exact (show False from e).elim
def aVh (j:PE X a ta)(i:∀whole,isTrue a X.env whole=(do let v <-whole;standAt a.pos;holding [v] (truthy v))) :
  PT X a (fun σ H Q=>ta σ H λx H'=>∃k,bA2 X.K x H' k/\Q k H'):=by
 intro b s σ H Q I h;exact isTrue_plain (thn (j b s σ H _ I h) λv g ⟨x,d,c,e,f⟩=>bCl b g σ d x v Q c e f) (i _)
def aP:OpR X (binaryOp .Add) (λx y H Q=>∃i j,x=.str i/\y=.str j/\i.length+j.length<=sizeLine/\Q (.str (i++j)) H):=by intro b s σ H x y v u Q I c e h;obtain⟨i,j,rfl,rfl,a,q⟩:=h;obtain⟨t,rfl⟩:=c;obtain⟨d,rfl⟩:=e;exact add_str (λd f=>⟨.str (i++j),H,I.tok _,⟨_,rfl⟩,q⟩) a
def yG (b:Expr):Prop:=∀o i,subscripted b false o i=operate [o,i] (getItem o i)
def aKw (B:PE X a ta)(A:PE X b tb)(hs:yG b) :
  PE X (.Subscript a b pos) (tOp (λx y H Q=>∃z i c,x=.str z/\y=.int i/\0<=i/\i<2 ^ 63/\i<z.length/\z.cps[i.toNat]?=some c/\Q (.str ⟨#[c]⟩) H) ta tb):=by
 intro g s σ H Q I h;refine Subscript_ (aT9 B A I h λv u k x y o m j p q=>?_);obtain⟨z,i,c,rfl,rfl,r,f,w,l,q⟩:=q;obtain⟨t,rfl⟩:=j;obtain⟨C,rfl⟩:=p;have e:seqIndex? i z.length=some i.toNat:=PySem.StrLaws.seqIndex_nonneg r w;exact tail_any (typeIs_str k z t) slot_str_getitem.lookup (getItem_str (c:=c) (by have d:decide (i < -(2 ^ 63:Int))=false:=j6 (by lia);have n:decide (i ≥ 2 ^ 63)=false:=j6 (by lia);rw[d,n] <;> rfl) (by rw[e];exact l) ⟨.str ⟨#[c]⟩,o,m.tok _,⟨_,rfl⟩,q⟩) (hs _ _)
def vals1 (r:Vals [x] us):∃u,us=[u]/\RelV x u:=by
 cases r with
 |cons r1 r2=>cases r2;exact⟨_,rfl,r1⟩
def vals2 (r:Vals [x,y] us):∃u w',us=[u,w']/\RelV x u/\RelV y w':=by
 cases r with
 |cons r1 r2=>
  cases r2 with
  |cons r3 r4=>cases r4;exact⟨_,_,rfl,r1,r3⟩
def aRm (f:X.calm=true):dD X (.builtin "min") (λxs H Q=>∃i j,xs=[.int i,.int j]/\Q (.int (if j<i then j else i)) H):=by
 intro b s σ H xs d Q I r h;obtain⟨i,j,rfl,q⟩:=h;obtain⟨u,g,rfl,⟨t,rfl⟩,⟨e,rfl⟩⟩:=vals2 r;refine min_two_ints (I.ok.hd f) λl c k=>⟨_,H,I.kept k,?_,q⟩;by_cases a:j<i
 ·rw[if_pos a,if_pos a];exact⟨_,rfl⟩
 ·rw[if_neg a,if_neg a];exact⟨_,rfl⟩
def tO:dD X (.type "int") (λxs H Q=>(∃i,xs=[.int i]/\Q (.int i) H)\/∃k,xs=[.bl k]/\Q (.int (if k then 1 else 0)) H):=by
 intro a s σ H xs c Q I r h;rcases h with⟨i,rfl,q⟩|⟨k,rfl,q⟩
 ·obtain⟨u,rfl,t,rfl⟩:=vals1 r;exact call_int_int ⟨.int i,H,I,⟨_,rfl⟩,q⟩
 ·obtain⟨u,rfl,b⟩:=vals1 r;cases b;exact call_int_bool ⟨.int (if k then 1 else 0),H,I.tok _,⟨_,rfl⟩,q⟩
def kO:dD X (.type "str") (λxs H Q=>∃i,xs=[.int i]/\i.natAbs.log2<1920/\Q (.str (toString i)) H):=by intro b s σ H xs c Q I r h;obtain⟨i,rfl,a,q⟩:=h;obtain⟨u,rfl,t,rfl⟩:=vals1 r;exact PySem.P.str_of_int a ⟨.str _,H,I.tok _,⟨_,rfl⟩,q⟩
end
structure aNh (h:Heap)(x dx C:Addr)(mA:bFF):Prop where
 obj:h.get? x=some (PySem.W.instObj C dx)
 ns:h.Ns1 dx mA
 ne:dx≠x
def aQd {h:Heap}{dx:Addr}{mA:bFF}(n:h.Ns1 dx mA):∃od,h.get? dx=some od/\∀name,PySem.W.lookIn name od=some (mA name):=by
 obtain⟨o,c,l,f,d,g,_,k⟩:=n;refine⟨o,f,λname=>?_⟩;have e:=k name;unfold nsFind findBy at e;rw[<-Array.find?_toList] at e;unfold PySem.W.lookIn;rw[d];dsimp only
 split
 ·rename_i y q;rw[q] at e;exact congrArg some e
 ·rename_i q;rw[q] at e;have a:c.toList.any (·.refKey)=false:=by rw[List.any_eq_false];intro y i;obtain⟨z,t,b⟩:=g y (Array.mem_toList_iff.mp i);simp[DictEntry.refKey,b]
  have j:¬ c.toList.any (·.refKey)=true:=by rw[a];exact bAA
  rw[if_neg j];exact congrArg some e
def aNh.look (I:aNh h x dx C mA):∃od,PySem.W.InstAt h x (PySem.W.instObj C dx) C (some od)/\∀name,PySem.W.lookIn name od=some (mA name):=
 let ⟨od,ho,hl⟩:=aQd I.ns
 ⟨od,⟨I.obj,rfl,rfl,ho⟩,hl⟩
section
variable {prog:Program}{w:World}{A:Around}{E:bFD}{s:Shared}{K:bFC}{x dx C f:Addr}{mA:bFF}{name:Str}{v:Value}
def aXd (X:K.In s.heap)(I:aNh s.heap x dx C mA)(f:PySem.W.plainGet K C name=true)(d:PySem.W.hasDictIn K C=true)
  (e:PySem.W.findIn K (.ref C) name=some none) (c:mA name=some v) (a:PySem.W.handedIn v=true) (h:Q v { s with toks:=s.toks+1 }) :
  wpAny (model prog w) A (getAttr (.ref x) name expr) Q E s:=by
 obtain⟨g,J,b⟩:=I.look;exact PySem.W.get_value X J (PySem.W.plainGet_of f).1 (PySem.W.findObj_own d e rfl (by rw[b,c])) a h
def aUa (X:K.In s.heap)(I:aNh s.heap x dx C mA)(a:PySem.W.plainGet K C name=true)
  (g:PySem.W.findIn K (.ref C) name=some (some (.ref f))) (e:PySem.W.isFn K (.ref f)=true) (d:mA name=none) (h:Q (.ref f,[.ref x]) s) :
  wpAny (model prog w) A (getMethod (.ref x) name pl) Q E s:=by
 obtain⟨b,J,c⟩:=I.look;exact PySem.W.method_fn X J (PySem.W.plainGet_of a).1 (PySem.W.plainGet_of a).2 g (beq_iff_eq.mp e) (by show (PySem.W.lookIn name b).map (·.isSome)=some false;rw[c,d];rfl) h
def aW2 (X:K.In s.heap)(I:aNh s.heap x dx C mA)
  (hs:PySem.W.findIn K (.ref C) "__setattr__"=some (some (.builtin "object.__setattr__"))) (m:PySem.W.plainOver K C=true) (t:PySem.W.takerIn K C name=some none) (r:PySem.W.hasDictIn K C=true)
  (q:PySem.Within mA ns) (hsz:ns.length<=sizeLine)
  (h:∀h',aNh h' x dx C (λy=>if y=name then some v else mA y)->Heap.SameBut dx s.heap h'->Q () { s with heap:=h',toks:=s.toks+2 }) :
  wpAny (model prog w) A (setAttr (.ref x) name v) Q E s:=by
 obtain⟨u,J,p⟩:=I.look;refine PySem.W.set_plain X J hs (PySem.W.osa_open X J m t λb=>?_);obtain⟨n,l,e⟩:=PySem.W.any_some r;have k:=I.obj;refine b7 (j8 (b7 (b7 (wpAny_loadPart k (b7 (PySem.W.Looks.here (PySem.W.looks_clsIn X l) ?_))))));rw[e];refine j8 (b7 (j8 (b7 ?_)));refine wpAny_nsSet1 I.ns λh' a c=>?_;obtain⟨o,j,i,d,f,g⟩:=a.count (PySem.Within.cons name v q);refine b7 (wpAny_lookBehind d (by rw[f];exact pastItsLine_dict (bAG g (by rw[d9];lia))) ?_);exact j8 (h _ ⟨(c.2 _ (Ne.symm I.ne)).trans I.obj,a,I.ne⟩ c)
def aUg (X:K.In s.heap)(i:PySem.W.makesIn K C=true)
  (b:PySem.W.findIn K (.ref C) "__init__"=some (some (.ref f))) (j:PySem.W.typeIn K (.ref f)=some (.type "function"))
  (h:codeAny (model prog w) (A.under (.builtin "type.__call__" ⟨.ref C::vs,kw⟩)) (.call (.ref f) ⟨.ref (s.heap.objs.size+1)::vs,kw⟩) (PySem.W.InitBack (s.heap.objs.size+1) R)
   { s with heap:=(s.heap.push PySem.W.emptyDict).push (PySem.W.instObj C s.heap.objs.size) }) :
  codeAny (model prog w) A (.call (.ref C) ⟨vs,kw⟩) R s:=by
 obtain⟨c,g,d,t,e⟩:=s;exact PySem.W.make_core (PySem.W.makes_of X i) (PySem.W.looks_findIn X b) (λa=>PySem.W.bind_fn X a j) (.inl rfl) h
end
def rR (f:Str)(v:V):List (Str × V)->List (Str × V)
 |[]=>[(f,v)]
 |(g,x)::r=>if g=f then (g,v)::r else (g,x)::rR f v r
theorem aBp (f g:Str)(v:V):∀fs:List (Str × V),(rR f v fs).lookup g=if g=f then some v else fs.lookup g
 |[]=>by
  show List.lookup g [(f,v)]=_;by_cases h:g=f
  ·have a:(g == f)=true:=beq_iff_eq.mpr h;simp only[List.lookup,a,if_pos h]
  ·have a:=beq_eq_false_iff_ne.mpr h;simp only[List.lookup,a,if_neg h]
 |(k,x)::r=>by
  have c:=aBp f g v r;rw[show rR f v ((k,x)::r)=(if k=f then (k,v)::r else (k,x)::rR f v r) from rfl];by_cases b:k=f
  ·rw[if_pos b];by_cases h:g=k
   ·have a:=beq_iff_eq.mpr h;simp only[List.lookup,a,if_pos (h.trans b)]
   ·have a:=beq_eq_false_iff_ne.mpr h;simp only[List.lookup,a,if_neg (λe:g=f=>h (e.trans b.symm))]
  ·rw[if_neg b];by_cases h:g=k
   ·have a:=beq_iff_eq.mpr h;simp only[List.lookup,a,if_neg (λe:g=f=>b (h.symm.trans e))]
   ·have a:=beq_eq_false_iff_ne.mpr h;simp only[List.lookup,a];exact c
theorem aAc (f:Str)(v:V):∀fs:List (Str × V),f∈(rR f v fs).map (·.1)/\∀g,g∈fs.map (·.1)->g∈(rR f v fs).map (·.1)
 |[]=>⟨by simp[rR],λg h=>by simp at h⟩
 |(k,x)::r=>by
  obtain⟨b,c⟩:=aAc f v r;rw[show rR f v ((k,x)::r)=(if k=f then (k,v)::r else (k,x)::rR f v r) from rfl];by_cases a:k=f
  ·rw[if_pos a];subst a;exact⟨by simp,λg h=>by simpa using h⟩
  ·rw[if_neg a];refine⟨?_,λg h=>?_⟩
   ·rw[bAB];exact j7 _ b
   ·rw[bAB] at h ⊢;rcases List.mem_cons.mp h with e|e
    ·exact List.mem_cons.mpr (.inl e)
    ·exact j7 _ (c g e)
theorem aBl (f:Str)(v:V):∀fs:List (Str × V),(rR f v fs).length<=fs.length+1
 |[]=>by simp[rR]
 |(k,x)::r=>by
  have b:=aBl f v r;rw[show rR f v ((k,x)::r)=(if k=f then (k,v)::r else (k,x)::rR f v r) from rfl];by_cases a:k=f
  ·rw[if_pos a,d9,d9];lia
  ·rw[if_neg a,d9,d9];lia
def rB.some_of (r:rB (some v) o):∃u,o=some u/\RelV v u:=by
 cases o with
 |none=>exact (show False from r).elim
 |some u=>exact⟨u,rfl,r⟩
def rB.none_of (r:rB none o):o=none:=by
 cases o with
 |none=>rfl
 |some u=>exact (show False from r).elim
def aRk (r:RelV v u):PySem.W.handedIn u=true:=by
 cases v with
 |non=>cases (show u=Value.none from r);rfl
 |bl b=>cases (show u=Value.bool b from r);rfl
 |int i=>obtain⟨t,e⟩:=(show ∃t,u=Value.int i t from r);cases e;rfl
 |str x=>obtain⟨t,e⟩:=(show ∃t,u=Value.str x t from r);cases e;rfl
 |byt b=>obtain⟨t,e⟩:=(show ∃t,u=Value.bytes b t from r);cases e;rfl
 |flt b=>obtain⟨t,e⟩:=(show ∃t,u=Value.float b t from r);cases e;rfl
 |ref a=>cases (show u=Value.ref a from r);rfl
 |ty n=>cases (show u=Value.type n from r);rfl
section
variable {P:Program}{w:World}{H H':Hp}{h h':Heap}{a C dx:Addr}{fs fs':List (Str × V)}
def aIm (c:HOk P w H h)(e:H a=some (.ins C dx fs)):∃mA,aNh h a dx C mA/\(∀f,rB (fs.lookup f) (mA f))/\PySem.Within mA (fs.map (·.1))/\fs.length<=1000/\H dx=some (.own a):=by obtain⟨d,z,g,b,mA,n,r,q⟩:=(show fQ P w H h a (.ins C dx fs) from c a _ e);exact⟨mA,⟨b,n,g⟩,r,q,z,d⟩
end
structure Cls (K:bFC)(C:Addr):Prop where
 pg:PySem.W.plainGet K C Str.empty=true
 hd:PySem.W.hasDictIn K C=true
 po:PySem.W.plainOver K C=true
 sa:PySem.W.findIn K (.ref C) "__setattr__"=some (some (.builtin "object.__setattr__"))
def Cls.get {K:bFC}{C:Addr}(c:Cls K C)(f:Str):PySem.W.plainGet K C f=true:=c.pg
def iI (K:bFC)(C:Addr)(f:Str):Prop:=PySem.W.findIn K (.ref C) f=some none
def iI.taker {K:bFC}{C:Addr}{f:Str}(n:iI K C f):PySem.W.takerIn K C f=some none:=by unfold PySem.W.takerIn;rw[show PySem.W.findIn K (.ref C) f=some none from n];rfl
structure Meth (K:bFC)(C:Addr)(m:Str)(f:Addr):Prop where
 at_:PySem.W.findIn K (.ref C) m=some (some (.ref f))
 fn:PySem.W.isFn K (.ref f)=true
 kp:PySem.W.keepIn K (.ref f)=true
section
variable {X:Cx}{bFG:bFE}{σ:St}{H:Hp}{s:Shared}{a C dx:Addr}{fs:List (Str × V)}{f:Str}{v:V}{A:Around}{E:bFD}
def aMg (I:Inv X bFG σ H s)(e:H a=some (.ins C dx fs))(c:Cls X.K C)(n:iI X.K C f)(l:fs.lookup f=some v)
  (h:∀u s',Inv X bFG σ H s'->RelV v u->Q u s'):wpAny (model X.prog X.w) A (getAttr (.ref a) f b) Q E s:=by
 obtain⟨i,O,r,_,_,_⟩:=aIm I.hok e;obtain⟨u,g,d⟩:=rB.some_of (by rw[<-l];exact r f);exact aXd I.kIn O (c.get f) c.hd n g (aRk d) (h u _ (I.tok _) d)
def aD5 (I:Inv X bFG σ H s)(e:H a=some (.ins C dx fs))(c:Cls X.K C)(k:Meth X.K C m g)(l:fs.lookup m=none)
  (h:Q (.ref g,[.ref a]) s):wpAny (model X.prog X.w) A (getMethod (.ref a) m pl) Q E s:=by
 obtain⟨d,O,r,_,_,_⟩:=aIm I.hok e;have b:=rB.none_of (by rw[<-l];exact r m);exact aUa I.kIn O (c.get m) k.at_ k.fn b h
def aMt {y:V}{u:Value}{Q:Unit->Shared->Prop}(I:Inv X bFG σ H s)(e:H a=some (.ins C dx fs))(c:Cls X.K C)(n:iI X.K C f)(hl:fs.length<1000)(D:RelV y u)
  (h:∀s',Inv X bFG σ (upd H a (.ins C dx (rR f y fs))) s'->Q () s'):wpAny (model X.prog X.w) A (setAttr (.ref a) f u) Q E s:=by
 obtain⟨i,O,r,k,_,j⟩:=aIm I.hok e;have p:(fs.map (·.1)).length<=sizeLine:=by rw[d7,sizeLine_eq];lia
 refine aW2 I.kIn O c.sa c.po n.taker c.hd k p λB d m=>h _ ?_;have t:∃o,B.get? dx=some o:=let ⟨o,_,_,e',_⟩:=d.ns;⟨o,e'⟩
 refine I.write (x:=a) (e:=dx) (by rw[e];exact True.intro) (.inr j) (λb q l z=>(m.2 b l).trans z) t ?_;refine⟨by rw[aV O.ne];exact j,?_,O.ne,d.obj,_,d.ns,λg=>?_,λg v=>?_⟩
 ·have:=aBl f y fs;lia
 ·show rB ((rR f y fs).lookup g) (if g=f then some u else i g);rw[aBp];by_cases q:g=f
  ·rw[if_pos q,if_pos q];exact D
  ·rw[if_neg q,if_neg q];exact r g
 ·by_cases q:g=f
  ·rw[q];exact (aAc f y fs).1
  ·refine (aAc f y fs).2 g (k g λz=>v ?_);show (if g=f then some u else i g)=none;rw[if_neg q];exact z
def Inv.made (I:Inv X bFG σ H s):Inv X bFG σ (upd (upd H s.heap.objs.size (.own (s.heap.objs.size+1))) (s.heap.objs.size+1) (.ins C s.heap.objs.size []))
  { s with heap:=(s.heap.push PySem.W.emptyDict).push (PySem.W.instObj C s.heap.objs.size) }:=by
 have c:(s.heap.push PySem.W.emptyDict).get? s.heap.objs.size=some PySem.W.emptyDict:=w6 s.heap rfl;have h:((s.heap.push PySem.W.emptyDict).push (PySem.W.instObj C s.heap.objs.size)).get? (s.heap.objs.size+1)=some (PySem.W.instObj C s.heap.objs.size):=by
  have:=w6 (s.heap.push PySem.W.emptyDict) (o:=PySem.W.instObj C s.heap.objs.size) rfl
  rwa [bCH] at this
 have j:(s.heap.push PySem.W.emptyDict).Ns s.heap.objs.size (λ_=>none):=⟨PySem.W.emptyDict,#[],_,c,rfl,(λe i=>absurd i (by simp)),λ_=>rfl⟩;have g:=I.laid (a:=s.heap.objs.size) (o:=.own (s.heap.objs.size+1)) (h':=s.heap.push PySem.W.emptyDict) (t':=s.toks) (λb u q=>c7 _ q) (j9 _) ⟨_,c⟩;refine g.laid (a:=s.heap.objs.size+1) (o:=.ins C s.heap.objs.size []) (t':=s.toks) (λb u q=>c7 _ q) (Nat.le_of_eq (bCH _ _)) ?_;have d:s.heap.objs.size≠s.heap.objs.size+1:=bAF (Nat.lt_succ_self _);refine⟨by rw[aV d,aL],bAK _,d,h,λ_=>none,(Heap.Ns1.of_empty j).at λo q=>c7 _ q,λ_=>True.intro,λy f=>absurd rfl f⟩
def aO9 (a:attributeBase e f env (eval e env)=eval e env)
  (h:wpAny (model prog w) A (eval e env) (λo s₁=>wpAny (model prog w) A (getAttr o f true) Q E s₁) E s):wpAny (model prog w) A (eval (.Attribute e f pos) env) Q E s:=
 Attribute_any_ h (by rw[arm_eval_Attribute,a])
end
inductive aUu (K:bFC)(f:Str)(Q:VK)(x:V)(H1:Hp):Prop
 |mk (a:_) (C:_) (dx:_) (fs:_) (v:_) (h0:x=.ref a) (h1:H1 a=some (.ins C dx fs)) (h2:Cls K C) (h3:iI K C f) (h4:fs.lookup f=some v) (h5:Q v H1):aUu K f Q x H1
def bC6 (K:bFC)(ta:TE)(f:Str):TE:=fun σ H Q=>ta σ H (aUu K f Q)
def bDa (K:bFC)(ta tv:TE)(f:Str):TS:=λD σ H=>tv σ H λy H1=>ta σ H1 λx H2=>∃a C dx fs,x=.ref a/\H2 a=some (.ins C dx fs)/\Cls K C/\iI K C f/\fs.length<1000 /\
 D.nx σ (upd H2 a (.ins C dx (rR f y fs)))
section
variable {X:Cx}{o e value:Expr}{f:Str}{pos pos' tpos:Pos}{ta tv:TE}
def bAv (r:PE X e ta)(t:attributeBase e f X.env (eval e X.env)=eval e X.env):PE X (.Attribute e f pos) (bC6 X.K ta f):=by intro b s σ H Q I h;refine aO9 t (thn (r b s σ H _ I h) λu z ⟨x,g,d,k,a,C,p,y,v,j,m,c,n,l,q⟩=>?_);subst j;obtain rfl:u=Value.ref a:=k;exact aMg d m c n l λA w o i=>⟨v,g,o,i,q⟩
def bCv (E:PE X o ta)(B:PE X value tv)(hs:swapsWith value (some (.Attribute o f pos')) pos.line X.env=pure false):PS X (.Assign [.Attribute o f pos'] value pos) (bDa X.K ta tv f):=by intro b s σ H D I h;refine plainObj_wpAny_Assign_Attribute (thn (B b s σ H _ I h) λu t ⟨y,k,j,g,q⟩=>thn (E b t σ k _ j q) λi z ⟨x,F,p,d,a,C,w,G,m,e,c,n,l,r⟩=>?_) hs;subst m;obtain rfl:i=Value.ref a:=d;exact aMt p e c n l g λA v=>⟨σ,_,v,r⟩
end
section
variable {X:Cx}{bFG:bFE}{σ:St}{H:Hp}{s:Shared}{A:Around}{E:bFD}{Q:bFD}{c:Value}{b:Bool}
end
structure Room (k:Nat)(A:Around):Prop where
 hd:A.handled=none
 dp:A.depth+3 * k+5<recursionLimit
 un:A.units+16 * k+200<cLine
def Room.mono (r:Room k A)(h:j<=k):Room j A:=⟨r.hd,by have:=r.dp;lia,by have:=r.un;lia⟩
def Room.deeper (r:Room (k+1) A)(env:Env):Room k (A.deeper env):=
 ⟨r.hd,by have:=r.dp;show A.depth+1+3 * k+5<_;lia,by have:=r.un;show A.units+3+16 * k+200<_;lia⟩
def aNg {A:Around}{C:Addr}{us:List Value}{kw:List (Str × Value)}:(A.under (.builtin "type.__call__" ⟨.ref C::us,kw⟩)).depth=A.depth+1:=by
 first|rfl|simp[Around.under,Code.weight,Code.isCreation,Code.isGuard,Code.isCaller,Code.frames,Code.isFrame,guardIds]
def aN7 {A:Around}{C:Addr}{us:List Value}{kw:List (Str × Value)}:(A.under (.builtin "type.__call__" ⟨.ref C::us,kw⟩)).units=A.units+1:=by
 first|rfl|simp[Around.under,Code.cUnits,Code.frames,Code.isFrame]
def Room.make (r:Room (k+1) A)(C:Addr)(us:List Value)(kw:List (Str × Value)):Room k (A.under (.builtin "type.__call__" ⟨.ref C::us,kw⟩)):=
 ⟨r.hd,by have:=r.dp;rw[aNg];lia,by have:=r.un;rw[aN7];lia⟩
def Room.depth (r:Room k A):A.depth<recursionLimit:=by have:=r.dp;lia
def Room.units (r:Room k A):A.units+64<cLine:=by have:=r.un;lia
def wC:TA:=λ_ H Q=>Q [] H
def dO (ta:TE)(tr:TA):TA:=fun σ H Q=>ta σ H λx H1=>tr σ H1 λxs H2=>Q (x::xs) H2
section
variable {X:Cx}{e:Expr}{es:List Expr}{te:TE}{t:TA}{pos:Pos}
def aTf:PA X [] wC:=λ_ _ _ _ H Q I h=>Calls.spliced_nil ⟨[],H,I,.nil,h⟩
def aWu (p:PE X e te)(o:PA X es t)(hs:starEach (e::es) X.env=(false,eval e X.env)::starEach es X.env:=by rfl):PA X (e::es) (dO te t):=by intro b a s σ H Q I h;rw[hs];show wpAny _ _ (spliced ((false,eval e X.env)::backTo b (starEach es X.env))) _ _ s;refine Calls.spliced_cons (thn (p a s σ H _ I h) λu m ⟨x,d,c,j,k⟩=>?_);exact thn (o b a m σ d _ c k) λq r ⟨f,i,g,n,l⟩=>⟨x::f,i,g,.cons j n,l⟩
end
abbrev Sp:=List V->Hp->VK->XK->Prop
abbrev CXT:=List Env->Hp->Shared->XK->Value->Shared->Prop
structure aOk (P:Program)(w:World)(K:bFC)(mg:bFF)(base:Heap)(A:Around)(outer:List Env)(s:Shared)(H:Hp):Prop where
 frames:A.frames=some outer
 mod:Mod K mg base
 bs:∀b o,base.get? b=some o->s.heap.get? b=some o/\H b=none
 bsz:base.objs.size<=s.heap.objs.size
 funs:s.heap.FunFrames base outer
 frf:∀b∈frs outer,H b=none
 hok:HOk P w H s.heap
 bare:AllBare s.gens
def CE (outer:List Env)(P:Program)(w:World)(H:Hp)(s:Shared)(Q:VK)(u:Value)(s':Shared):Prop:=
 ∃v H',s'.os=s.os/\AllBare s'.gens/\Un (frs outer) [] H H' s.heap s'.heap/\HOk P w H' s'.heap/\RelV v u/\Q v H'
def CR (CX:CXT)(outer:List Env)(P:Program)(w:World)(H:Hp)(s:Shared)(Q:VK)(E:XK)(r:Result)(s':Shared):Prop:=
 match r with
 |.ok (.ret u)=>CE outer P w H s Q u s'
 |.ok _=>False
 |.error e=>CX outer H s E e s'
structure gJ (P:Program)(w:World)(K:bFC)(mg:bFF)(base:Heap)(CX:CXT)(k:Nat)(f:Addr)(fd:FuncData)(ps:List Str)(sp:Sp):Prop where
 len:∀vs H Q E,sp vs H Q E->vs.length=ps.length
 run:∀(A:Around) (outer:List Env) (s:Shared) (H:Hp) (args:Args) (us:List Value) (vs:List V) (Q:VK) (E:XK),Room k A->aOk P w K mg base A outer s H->BindsTo s fd args (ps.zip us)->Vals vs us->sp vs H Q E ->
  codeAny (model P w) A (.call (.ref f) args) (CR CX outer P w H s Q E) s
def gJ.mono {P:Program}{w:World}{K:bFC}{mg:bFF}{base:Heap}{CX:CXT}{j k:Nat}{f:Addr}{fd:FuncData}{ps:List Str}{sp:Sp}(F:gJ P w K mg base CX j f fd ps sp)(h:j<=k) :
  gJ P w K mg base CX k f fd ps sp:=⟨F.len,λA a s H b d e Q E c=>F.run A a s H b d e Q E (c.mono h)⟩
def gJ.imp {P:Program}{w:World}{K:bFC}{mg:bFF}{base:Heap}{CX:CXT}{k:Nat}{f:Addr}{fd:FuncData}{ps:List Str}{sp sp':Sp}(F:gJ P w K mg base CX k f fd ps sp)
  (h:∀vs H Q E,sp' vs H Q E->sp vs H Q E):gJ P w K mg base CX k f fd ps sp':=
 ⟨λvs H Q E q=>F.len vs H Q E (h _ _ _ _ q),λA a s H b j vs Q E g c d e i=>F.run A a s H b j vs Q E g c d e (h _ _ _ _ i)⟩
def aOk.make {P:Program}{w:World}{K:bFC}{mg:bFF}{base:Heap}{A:Around}{outer:List Env}{s:Shared}{H:Hp}(e:aOk P w K mg base A outer s H)(C:Addr)(us:List Value)(kw:List (Str × Value)) :
  aOk P w K mg base (A.under (.builtin "type.__call__" ⟨.ref C::us,kw⟩)) outer s H:=⟨by first|exact e.frames|(simpa [Around.under,Code.envs,Code.isFrame,pushEnvs] using e.frames),e.mod,e.bs,e.bsz,e.funs,e.frf,e.hok,e.bare⟩
section
variable {X:Cx}{bFG:bFE}{σ:St}{H:Hp}{s s':Shared}
def Inv.env0 (I:Inv X bFG σ H s):aOk X.prog X.w X.K X.mg X.base X.A X.stack s H:=
 ⟨I.ok.frames,I.ok.mod,I.bs,bAG I.ok.bsz I.sz,I.stack,I.aIf,I.hok,I.bare⟩
def Inv.after (I:Inv X bFG σ H s)(h:CE X.stack X.prog X.w H s Q u s'):EP X bFG σ Q u s':=by obtain⟨v,k,j,a,i,e,r,q⟩:=h;obtain⟨f,g,d,t,c⟩:=s';obtain rfl:c=s.os:=j;exact⟨v,k,I.call (h':=f) (g':=g) (d':=d) (t':=t) i e a (λb z=>absurd z (by simp)),r,q⟩
end
def aAy (sp:Sp)(dvs:List V)(E:XK)(t:TA):TE:=fun σ H Q=>t σ H λvs H1=>sp (vs++dvs) H1 Q E
inductive aPa (C:Addr)(m:Str)(sp:Sp)(dvs:List V)(E:XK)(t:TA)(σ:St)(Q:VK)(x:V)(H1:Hp):Prop
 |mk (a:_) (dx:_) (fs:_) (h0:x=.ref a) (h1:H1 a=some (.ins C dx fs)) (h2:fs.lookup m=none) (h3:t σ H1 λvs H2=>sp (x::(vs++dvs)) H2 Q E):aPa C m sp dvs E t σ Q x H1
def aJ9 (C:Addr)(m:Str)(sp:Sp)(dvs:List V)(E:XK)(ta:TE)(t:TA):TE:=fun σ H Q=>ta σ H (aPa C m sp dvs E t σ Q)
def aYy (C:Addr)(sp:Sp)(dvs:List V)(E:XK)(t:TA):TE:=fun σ H Q=>t σ H λvs H1=>∀x dx,H1 x=none->H1 dx=none->dx≠x ->
 sp (.ref x::(vs++dvs)) (upd (upd H1 dx (.own x)) x (.ins C dx [])) (λv H2=>v=.non/\Q (.ref x) H2) E
def Binds (K:bFC)(fd:FuncData)(ps:List Str)(ds:List Value):Prop:=
 ∀s us,K.In s.heap->(us++ds).length=ps.length->BindsTo s fd ⟨us,[]⟩ (ps.zip (us++ds))
def Binds.all {K:bFC}{fd:FuncData}{ps:List Str}(h:∀us:List Value,us.length=ps.length->bindArgs fd ⟨us,[]⟩=pure (ps.zip us)):Binds K fd ps []:=λs us _ a=>by rw[bAW] at a ⊢;exact .of_eq (h us a)
def lX (CX:CXT)(X:Cx)(E:XK):Prop:=∀bFG σ H s e s',Inv X bFG σ H s->CX X.stack H s E e s'->X.xe e s'
section
variable {X:Cx}{CX:CXT}{k:Nat}{f C:Addr}{fd:FuncData}{ps:List Str}{sp:Sp}{dvs:List V}{ds:List Value}{E:XK}{x m:Str}{p pos apos:Pos}{e o:Expr}{es:List Expr}{ta:TE}{t:TA}
def aDu (F:gJ X.prog X.w X.K X.mg X.base CX k f fd ps sp)(i:Room k X.A)(g:Binds X.K fd ps ds)(j:Vals dvs ds)(l:lX CX X E)
  (I:Inv X bFG σ H s) (r:Vals vs us) (h:sp (vs++dvs) H Q E):wpAny (model X.prog X.w) X.A (call (.ref f) us) (EP X bFG σ Q) X.xe s:=by
 have b:=r.append j;have d:(us++ds).length=ps.length:=by rw[<-b.length];exact F.len _ _ _ _ h
 refine bDQ (bDG (F.run X.A X.stack s H ⟨us,[]⟩ (us++ds) (vs++dvs) Q E i I.env0 (g s us I.kIn d) b h) λr c a=>?_);cases r with
 |error e=>exact l bFG σ H s e c I a
 |ok fl=>
  cases fl with
  |ret u=>exact I.after a
  |next=>exact False.elim a
  |brk=>exact False.elim a
  |cont=>exact False.elim a
def aO0 (F:gJ X.prog X.w X.K X.mg X.base CX k f fd ps sp)(l:Room k X.A)(B:Gl X x)(C:X.mg x=some (.ref f))(u:PySem.W.keepIn X.K (.ref f)=true)(i:Binds X.K fd ps ds)(n:Vals dvs ds)(y:lX CX X E)
  (m:PA X (e::es) t) (c:(x == ("__debug__":Str))=false:=by decide) (j:starEach (e::es) X.env=(false,eval e X.env)::starEach es X.env:=by rfl) (d:(backTo pos (starEach es X.env)).any (·.1)=false:=by rfl) :
  PE X (.Call (.Name x p) (e::es) [] pos) (aAy sp dvs E t):=by
 intro a s σ H Q I h;refine bBW (mG I B C ?_ c);refine PySem.W.callWith_K (h₀:=X.base) I.ok.mod.kin u (thn (m pos a s σ H _ I h) λo z ⟨v,g,b,r,q⟩=>⟨b.kIn,?_⟩) j d;exact aDu F l i n y b r q
def aTv (F:gJ X.prog X.w X.K X.mg X.base CX k f fd ps sp)(d:Room k X.A)(j:Gl X x)(l:X.mg x=some (.ref f))(g:PySem.W.keepIn X.K (.ref f)=true)(c:Binds X.K fd ps ds)(e:Vals dvs ds)(i:lX CX X E)
  (b:(x == ("__debug__":Str))=false:=by decide):PE X (.Call (.Name x p) [] [] pos) (aAy sp dvs E wC):=by
 intro a s σ H Q I h;refine bBW (mG I j l ?_ b);exact PySem.W.callWith_K0 I.kIn g (aDu F d c e i I .nil h)
def aXx {pl:Sem Bool}(N:PE X o ta)(c:Cls X.K C)(B:Meth X.K C m f)(F:gJ X.prog X.w X.K X.mg X.base CX k f fd ps sp)(P:Room k X.A)(O:Binds X.K fd ps ds)(J:Vals dvs ds)(M:lX CX X E)(R:PA X (e::es) t)
  (n:starEach (e::es) X.env=(false,eval e X.env)::starEach es X.env:=by rfl) (D:(backTo pos (starEach es X.env)).any (·.1)=false:=by rfl)
  (U:eval (.Call (.Attribute o m apos) (e::es) [] pos) X.env=(do
   let ov <-eval o X.env
   standAt apos.atName
   let (f,first) <-holding [ov] (getMethod ov m pl)
   callWith pos f first (backTo pos (starEach (e::es) X.env)) (backToKw pos (keywordEach [] X.env))):=by rfl) :
  PE X (.Call (.Attribute o m apos) (e::es) [] pos) (aJ9 C m sp dvs E ta t):=by
 intro b s σ H Q I h;refine PySem.W.methodCall_KW (pl:=pl) (thn (N b s σ H _ I h) λu z ⟨x,p,d,i,a,G,T,v,j,l,q⟩=>?_) U;subst v;obtain rfl:u=Value.ref a:=i;refine aD5 d j c B l ?_;refine PySem.W.callWith_K (first:=[.ref a]) (h₀:=X.base) I.ok.mod.kin B.kp (thn (R pos b z σ p _ d q) λus L ⟨vs,S,g,r,y⟩=>⟨g.kIn,?_⟩) n D;exact aDu (us:=.ref a::us) (vs:=.ref a::vs) F P O J M g (.cons rfl r) y
def aVz {pl:Sem Bool}(r:PE X o ta)(c:Cls X.K C)(j:Meth X.K C m f)(F:gJ X.prog X.w X.K X.mg X.base CX k f fd ps sp)(v:Room k X.A)(t:Binds X.K fd ps ds)(y:Vals dvs ds)(z:lX CX X E)
  (G:eval (.Call (.Attribute o m apos) [] [] pos) X.env=(do
   let ov <-eval o X.env
   standAt apos.atName
   let (f,first) <-holding [ov] (getMethod ov m pl)
   callWith pos f first (backTo pos (starEach [] X.env)) (backToKw pos (keywordEach [] X.env))):=by rfl) :
  PE X (.Call (.Attribute o m apos) [] [] pos) (aJ9 C m sp dvs E ta wC):=by
 intro d s σ H Q I h;refine PySem.W.methodCall_KW (pl:=pl) (thn (r d s σ H _ I h) λu D ⟨x,n,b,g,a,p,B,e,i,l,q⟩=>?_) G;subst e;obtain rfl:u=Value.ref a:=g;refine aD5 b i c j l ?_;exact PySem.W.callWith_K0 (first:=[.ref a]) b.kIn j.kp (aDu (us:=[.ref a]) (vs:=[.ref a]) F v t y z b (.cons rfl .nil) q)
structure Mk (K:bFC)(C f:Addr):Prop where
 makes:PySem.W.makesIn K C=true
 init:PySem.W.findIn K (.ref C) "__init__"=some (some (.ref f))
 fn:PySem.W.isFn K (.ref f)=true
 kp:PySem.W.keepIn K (.ref C)=true
def aUx {j:bFE}{σ:St}{H:Hp}{s:Shared}{Q:VK}{us:List Value}{vs:List V}(M:Mk X.K C f)(F:gJ X.prog X.w X.K X.mg X.base CX k f fd ps sp)(t:Room (k+1) X.A)(q:Binds X.K fd ps ds)(y:Vals dvs ds)
  (z:lX CX X E) (I:Inv X j σ H s) (r:Vals vs us)
  (h:∀x dx,H x=none->H dx=none->dx≠x->sp (.ref x::(vs++dvs)) (upd (upd H dx (.own x)) x (.ins C dx [])) (λv H2=>v=.non/\Q (.ref x) H2) E) :
  wpAny (model X.prog X.w) X.A (call (.ref C) us) (EP X j σ Q) X.xe s:=by
 have c:=h (s.heap.objs.size+1) s.heap.objs.size (I.hok.fresh (bFA _)) (I.hok.fresh (j9 _)) (bAF (Nat.lt_succ_self _));have b:=Inv.made (C:=C) I;have d:Vals (V.ref (s.heap.objs.size+1)::(vs++dvs)) (Value.ref (s.heap.objs.size+1)::(us++ds)):=.cons rfl (r.append y);have m:(Value.ref (s.heap.objs.size+1)::us++ds).length=ps.length:=by have e:=d.length;rw[F.len _ _ _ _ c] at e;exact e.symm
 refine bDQ (aUg (f:=f) I.kIn M.makes M.init (beq_iff_eq.mp M.fn) (bDG (F.run _ X.stack _ _ ⟨Value.ref (s.heap.objs.size+1)::us,[]⟩ (Value.ref (s.heap.objs.size+1)::(us++ds)) _ _ E (t.make C us [])
  (b.env0.make C us []) (q _ (Value.ref (s.heap.objs.size+1)::us) b.kIn m) d c) λr p a=>?_))
 cases r with
 |error e=>exact z j σ _ _ e p b a
 |ok fl=>
  cases fl with
  |ret u=>obtain⟨v,l,o,i,g,n⟩:=b.after a;subst g;exact⟨i,⟨V.ref (s.heap.objs.size+1),l,o,rfl,n⟩⟩
  |next=>exact False.elim a
  |brk=>exact False.elim a
  |cont=>exact False.elim a
def aWx (M:Mk X.K C f)(F:gJ X.prog X.w X.K X.mg X.base CX k f fd ps sp)(l:Room (k+1) X.A)(z:Gl X x)(B:X.mg x=some (.ref C))(i:Binds X.K fd ps ds)(n:Vals dvs ds)(v:lX CX X E)
  (m:PA X (e::es) t) (c:(x == ("__debug__":Str))=false:=by decide) (j:starEach (e::es) X.env=(false,eval e X.env)::starEach es X.env:=by rfl) (d:(backTo pos (starEach es X.env)).any (·.1)=false:=by rfl) :
  PE X (.Call (.Name x p) (e::es) [] pos) (aYy C sp dvs E t):=by
 intro a s σ H Q I h;refine bBW (mG I z B ?_ c);refine PySem.W.callWith_K (h₀:=X.base) I.ok.mod.kin M.kp (thn (m pos a s σ H _ I h) λo y ⟨u,g,b,r,q⟩=>⟨b.kIn,?_⟩) j d;exact aUx M F l i n v b r q
end
section
variable {X:Cx}{CX:CXT}{k:Nat}{f C:Addr}{fd:FuncData}{ps ks:List Str}{sp:Sp}{E:XK}{x m:Str}{p pos apos kpos:Pos}{e o:Expr}{es:List Expr}{kws:List Keyword}{te ta:TE}{t tk:TA}{nm:Option Str}
variable {g:List Value->List Value->List Value}{gV:List V->List V->List V}
end
structure aN (N P:List Str)(sc:Scope):Prop where
 kind:sc.kind=.function
 co:sc.isCoroutine=false
 gen:sc.isGenerator=false
 nd:N.Nodup
 pre:N.take P.length=P
 par:∀x∈P,sc.names.lookup x=some .local\/sc.names.lookup x=some .cell
 nofree:∀y∈sc.names,y.2≠.free
theorem aFz {kindOf:Str->Option NameKind}{x:Str}:∀{binds:List (Str × Value)} {m:bFF},(∀v,(x,v)∉binds)->bindL kindOf binds m x=m x
 |[],_,_=>rfl
 |(n,v)::r,m,h=>by
  unfold bindL;rw[aFz λw a=>h w (j7 _ a)]
  split
  ·have:x≠n:=by rintro rfl;exact h v j5
   simp[this]
  ·rfl
theorem aFh {kindOf:Str->Option NameKind}{x:Str}:∀{binds:List (Str × Value)} {m:bFF},(∀v,(x,v)∉binds)->bindC kindOf binds m x=m x
 |[],_,_=>rfl
 |(n,v)::r,m,h=>by
  unfold bindC;rw[aFh λw a=>h w (j7 _ a)]
  split
  ·rfl
  ·have:x≠n:=by rintro rfl;exact h v j5
   simp[this]
theorem aGd {a:Str->Option NameKind}{x:Str}{v:Value}:∀{P:List Str} {vs:List Value} {i:Nat} {m:bFF},P.Nodup->P[i]?=some x->vs[i]?=some v->a x=some .local ->
  bindL a (P.zip vs) m x=some v
 |[],_,_,_,_,h,_,_=>by simp at h
 |_::_,[],_,_,_,_,h,_=>by simp at h
 |p::P,w::vs,0,m,nd,h1,h2,hk=>by simp at h1 h2;subst h1;subst h2;show bindL a ((p,w)::P.zip vs) m p=_;unfold bindL;rw[aFz λv b=>(List.nodup_cons.mp nd).1 (List.of_mem_zip b).1,if_pos hk];simp
 |p::P,w::vs,i+1,m,nd,h1,h2,hk=>by show bindL a ((p,w)::P.zip vs) m x=_;unfold bindL;exact aGd (i:=i) (List.nodup_cons.mp nd).2 (by simpa using h1) (by simpa using h2) hk
theorem aFq {a:Str->Option NameKind}{x:Str}{v:Value}:∀{P:List Str} {vs:List Value} {i:Nat} {m:bFF},P.Nodup->P[i]?=some x->vs[i]?=some v->a x≠some .local ->
  bindC a (P.zip vs) m x=some v
 |[],_,_,_,_,h,_,_=>by simp at h
 |_::_,[],_,_,_,_,h,_=>by simp at h
 |p::P,w::vs,0,m,nd,h1,h2,hk=>by simp at h1 h2;subst h1;subst h2;show bindC a ((p,w)::P.zip vs) m p=_;unfold bindC;rw[aFh λv b=>(List.nodup_cons.mp nd).1 (List.of_mem_zip b).1,if_neg hk];simp
 |p::P,w::vs,i+1,m,nd,h1,h2,hk=>by show bindC a ((p,w)::P.zip vs) m x=_;unfold bindC;exact aFq (i:=i) (List.nodup_cons.mp nd).2 (by simpa using h1) (by simpa using h2) hk
def start (N:List Str)(vs:List V):St:=vs.map some++List.replicate (N.length - vs.length) none
def xM (CX:CXT)(P:Program)(w:World)(K:bFC)(mg:bFF)(base:Heap)(N:List Str)(qual:Str)(scope:Scope)(f:Addr)(cd:Value)(A:Around)(outer:List Env)(s:Shared)(H:Hp)(E:XK):Cx where
 prog:=P
 w:=w
 K:=K
 mg:=mg
 base:=base
 A:=A.deeper (envOfC qual scope s.heap.objs.size f cd)
 N:=N
 s₀:=s
 H₀:=H
 env:=envOfC qual scope s.heap.objs.size f cd
 outer:=outer
 stack:=envOfC qual scope s.heap.objs.size f cd::outer
 ex:=[]
 calm:=true
 fn:=λ_=>true
 pn:=[]
 xe:=λe s'=>wpAny (model P w) (A.deeper (envOfC qual scope s.heap.objs.size f cd)) (leaving (envOfC qual scope s.heap.objs.size f cd) e) (λ_ s''=>CX outer H s E e s'') (λe' s''=>CX outer H s E e' s'') s'
def aKd {a:Scope}{n:Nat}{x:Str}(h:a.names.lookup x=some .cell):∃c,(cellsFrom n a.names []).lookup x=some c:=by have q:=PySem.W.cellsFrom_some a.names n [] (.inl h);exact Option.isSome_iff_exists.mp q
def aRl {CX:CXT}{P:Program}{w:World}{K:bFC}{mg:bFF}{base:Heap}{N D:List Str}{B:Str}{scope:Scope}{f:Addr}{O:Value}{A:Around}{outer:List Env}{s s1:Shared}{H:Hp}{E:XK}{us:List Value}{vs:List V}
  (S:aN N D scope) (M:A.handled=none) (g:aOk P w K mg base A outer s H) (hl:vs.length=D.length) (r:Vals vs us)
  (x:InCallC s s.heap.objs.size (bindL (envOfC B scope s.heap.objs.size f O).kindOf (D.zip us) λ_=>none) (cellsFrom (s.heap.objs.size+1) scope.names []) (bindC (envOfC B scope s.heap.objs.size f O).kindOf (D.zip us) λ_=>none) s1) :
  Inv (xM CX P w K mg base N B scope f O A outer s H E) [] (start N vs) H s1:=by
 have J:D.length<=N.length:=by have:=congrArg List.length S.pre;rw[bAV] at this;lia
 obtain⟨t,L,rfl,C⟩:=x.done;have j:∀b:Addr,b∉(xM CX P w K mg base N B scope f O A outer s H E).ex:=λb z=>absurd (show b∈([]:List Addr) from z) (by simp);refine⟨⟨g.mod,S.kind,rfl,rfl,j9 _,λy z c t d=>?_,λy hy=>?_,λy c _ h=>?_,λ_=>M,Around.frames_deeper g.frames,.inr ⟨rfl,rfl⟩,λb z=>absurd z (j b),g.bs,g.bsz,λb _ _=>j b,λb z=>absurd z (j b),g.funs,g.frf⟩,
  rfl,g.bare,Un.kept C,⟨_,x.toInCall.ns,λi y v t d Q=>?_⟩,λy c h=>⟨_,x.cell y c h⟩,g.hok.fresh (j9 _),λy c h=>?_,λp l=>absurd (show p∈([]:bFE) from l) (by simp),g.hok.kept C,?_⟩
 ·exact name_of_addr x.apart (PySem.mem_of_lookup t) (PySem.mem_of_lookup d)
 ·have hy:scope.names.lookup y=some .cell\/scope.names.lookup y=some .free:=hy;rcases hy with hy|hy
  ·exact aKd hy
  ·exact absurd rfl (S.nofree _ (PySem.mem_of_lookup hy))
 ·exact bET (x.above y c (PySem.mem_of_lookup h))
 ·have o:i<vs.length:=by
   unfold start at d;by_cases o:i<vs.length
   ·exact o
   ·rw[bBY (by simpa using o)] at d;rw[List.getElem?_replicate] at d
    split at d <;> cases d
  have G:vs[i]?=some v:=by
   unfold start at d;rw[bCU (by simpa using o),bAC] at d;cases e:vs[i]? with
   |none=>rw[e] at d;cases d
   |some a=>rw[e] at d;cases d;rfl
  obtain⟨u,F,I⟩:=r.get G;have l:D[i]?=some y:=by rw[<-S.pre,List.getElem?_take_of_lt (by lia)];exact t
  have m:D.Nodup:=by rw[<-S.pre];exact S.nd.sublist (bCY _ _)
  refine⟨u,I,?_⟩;rcases S.par y (bAR l) with k|k
  ·exact .inl ⟨k,aGd m l F k⟩
  ·obtain⟨c,e⟩:=aKd (n:=s.heap.objs.size+1) k;refine .inr ⟨.inl k,c,e,?_⟩;have q:=x.cell y c e;rw[aFq m l F (by show scope.names.lookup y≠_;rw[k];decide)] at q;exact q
 ·exact g.hok.fresh (bET (x.above y c (PySem.mem_of_lookup h)))
 ·unfold start;show _=N.length;rw[j4,d7,List.length_replicate];lia
def aZa {CX:CXT}{P:Program}{w:World}{K:bFC}{mg:bFF}{base:Heap}{k:Nat}{f:Addr}{name d:Str}{params:Arguments}{body:List Stmt}{scope:Scope}{dV kV doc pm B ct oc:Value}{an od:Option Addr}
  {osl:Array (Option Value)} {N ps:List Str} {sp:Sp} (lk:K.lookup f=some ⟨oc,od,.func (PySem.W.fnOf name d params body scope dV kV doc pm an B ct),osl⟩) (Y:PySem.W.codeIn K B d=true) (S:aN N ps scope)
  (m:∀vs H Q E,sp vs H Q E->vs.length=ps.length)
  (D:∀(A:Around) (outer:List Env) (s:Shared) (H:Hp) (vs:List V) (Q:VK) (E:XK),Room k (A.deeper (envOfC d scope s.heap.objs.size f B))->sp vs H Q E ->
   ∃t,PSs (xM CX P w K mg base N d scope f B A outer s H E) body t/\t { nx:=λ_ H'=>Q .non H',rt:=Q } (start N vs) H) :
  gJ P w K mg base CX (k+1) f (PySem.W.fnOf name d params body scope dV kV doc pm an B ct) ps sp:=by
 refine⟨m,λA outer s H G M vs Q E C h U r i=>?_⟩;have O:=m _ _ _ _ i;have F:K.In s.heap:=h.mod.kin.keeps λb o e=>(h.bs b o e).1;have p:s.heap.NoLimit:=h.mod.nolimit.keeps λb o e=>(h.bs b o e).1;have a:∀y∈ps.zip M,scope.names.lookup y.1=some .local\/(scope.names.lookup y.1=some .cell/\((cellsFrom (s.heap.objs.size+1) scope.names []).lookup y.1).isSome=true):=λ⟨n,v⟩ R=>by
  rcases S.par n (List.of_mem_zip R).1 with q|q
  ·exact .inl q
  ·exact .inr ⟨q,PySem.W.cellsFrom_some _ _ _ (.inl q)⟩
 refine codeAny_call_function C.depth (F _ _ lk) rfl S.co S.gen rfl (PySem.W.codeRec_of F Y) (U _ _ _ _ ?_);refine wpAny_newFunctionEnv_cells S.kind a λZ X L x=>?_;subst X;refine⟨p.keeps x.toInCall.keep,codeAny_func ?_⟩;obtain⟨t,ht,hq⟩:=D A outer s H vs Q E (C.deeper _) i;have I:Inv (xM CX P w K mg base N d scope f B A outer s H E) [] (start N vs) H L:=aRl S C.hd h O r x;refine bBE (ht [] L (start N vs) H _ I hq) (λT z c=>?_) λe z c=>c;have g:∀{j:St} {H':Hp} {v:V} {u:Value},Inv (xM CX P w K mg base N d scope f B A outer s H E) [] j H' z->RelV v u->Q v H'->CE outer P w H s Q u z:=
  λ{j H' v u} J l q=>⟨v,H',J.os,J.bare,J.base,J.hok,l,q⟩
 cases T with
 |ret u=>obtain⟨v,j,H',J,l,q⟩:=c;exact g J l q
 |next=>obtain⟨j,H',J,q⟩:=c;exact g (v:=V.non) (u:=Value.none) J rfl q
 |brk=>obtain⟨_,_,_,q⟩:=c;exact False.elim q
 |cont=>obtain⟨_,_,_,q⟩:=c;exact False.elim q
section
variable {X:Cx}{x:Str}{p pos:Pos}{e:Expr}{es:List Expr}{t:TA}{id T:String}{r:List V->Hp->VK->Prop}
def tCB (r:List V->Hp->VK->Prop)(t:TA):TE:=fun σ H Q=>t σ H λvs H1=>r vs H1 Q
def aSt (q:dD X (.builtin id) r)(u:Gl X x)(v:X.mg x=none)(m:bootBuiltins x=some (.builtin id))(o:PA X (e::es) t)(hn:x≠"__name__":=by decide)(d:(x == ("__debug__":Str))=false:=by decide)
  (n:starEach (e::es) X.env=(false,eval e X.env)::starEach es X.env:=by rfl) (l:(backTo pos (starEach es X.env)).any (·.1)=false:=by rfl):PE X (.Call (.Name x p) (e::es) [] pos) (tCB r t):=by
 intro a s σ H Q I h;refine bBW (wI I u v m ?_ hn d);exact bEJ (thn (o pos a s σ H _ I h) λf k ⟨g,c,b,i,j⟩=>q a k σ c g f Q b i j) n l
def aQ8 (q:dD X (.type T) r)(u:Gl X x)(v:X.mg x=none)(m:bootBuiltins x=some (.type T))(o:PA X (e::es) t)(hn:x≠"__name__":=by decide)(d:(x == ("__debug__":Str))=false:=by decide)
  (n:starEach (e::es) X.env=(false,eval e X.env)::starEach es X.env:=by rfl) (l:(backTo pos (starEach es X.env)).any (·.1)=false:=by rfl):PE X (.Call (.Name x p) (e::es) [] pos) (tCB r t):=by
 intro a s σ H Q I h;refine bBW (wI I u v m ?_ hn d);exact bCM (thn (o pos a s σ H _ I h) λf k ⟨g,c,b,i,j⟩=>q a k σ c g f Q b i j) n l
end
end L2
namespace HT
open PySem PyProof.Rows
section
open PySem.SeqAt
open PySem.AutoSeq1 (wpAny_loadPart')
open PySem.MeetsSeq PySem.MeetsSeq2 PySem.MeetsSeq3
end
section
variable {prog:Program}{w:World}{A:Around}{E:bFD}{s:Shared}
def aW6 (x:IsTup s.heap t vs.toArray)(v:IsTup s.heap b ws.toArray)(r:vs≠[])
  (z:ws=[]->Q (.ref t) s) (y:ws≠[]->Q (.ref s.heap.objs.size) { s with heap:=s.heap.push { cls:=.type "tuple",data:=.seq (vs++ws).toArray } })
  (u:vs.length+ws.length<=sizeLine):wpAny (model prog w) A (binaryOp .Add (.ref t) (.ref b)) Q E s:=by
 obtain⟨⟨cls,p,data,k⟩,h,o,n,m⟩:=id x;obtain⟨⟨q,d,j,g⟩,a,f,l,c⟩:=id v;simp only at o m f c;subst o m f c;have e:vs.toArray++ws.toArray=(vs++ws).toArray:=by simp
 by_cases i:ws=[]
 ·exact concat_meets ⟨_,h,rfl⟩ ⟨_,a,rfl⟩ noFill_tuple_add seq_tuple_add PySem.F.slot_tuple_add PySem.F.entry_tuple_add (PySem.F.args_tuple_add_2 _ _)
   (tuple_addW1 t b vs.toArray ws.toArray n l p d k g (by simpa using r) (by simp[i])) ⟨h,a,z i⟩
 ·refine concat_meets ⟨_,h,rfl⟩ ⟨_,a,rfl⟩ noFill_tuple_add seq_tuple_add PySem.F.slot_tuple_add PySem.F.entry_tuple_add (PySem.F.args_tuple_add_2 _ _)
   (tuple_addW2 t b vs.toArray ws.toArray n l p d k g (by simpa using r) (by simpa using i) (by rw[m9,m9];exact u)) ⟨h,a,?_⟩
  rw[e];exact y i
def sIx (n d:Nat):Option Int->Nat
 |none=>d
 |some v=>if v<0 then (v+(n:Int)).toNat else min v.toNat n
def yF (n d:Nat):sIx n d none=d:=rfl
def xN (n d k:Nat):sIx n d (some (k:Int))=min k n:=by show (if (k:Int)<0 then ((k:Int)+(n:Int)).toNat else min (k:Int).toNat n)=min k n;rw[if_neg (by lia),bCJ]
def bBh (n d:Nat)(b:d<=n)(o:Option Int):sIx n d o<=n:=by
 cases o with
 |none=>exact b
 |some v=>
  show (if v<0 then (v+(n:Int)).toNat else min v.toNat n)<=n;by_cases a:v<0
  ·rw[if_pos a];lia
  ·rw[if_neg a];exact Nat.min_le_right _ _
def aPw (v:Int)(n d:Nat):(if v<0 then max (v+(n:Int)) 0 else min v (n:Int))=((sIx n d (some v):Nat):Int):=by
 show (if v<0 then max (v+(n:Int)) 0 else min v (n:Int))=(((if v<0 then (v+(n:Int)).toNat else min v.toNat n):Nat):Int);by_cases a:v<0
 ·simp only[if_pos a];lia
 ·simp only[if_neg a];lia
def aOg (c b:Option Int)(n:Nat):Builtin.Slice.sliceAdjust c b 1 (n:Int)=(((sIx n 0 c:Nat):Int),((sIx n n b:Nat):Int)):=by
 have a:¬ ((1:Int)<0):=by lia
 unfold Builtin.Slice.sliceAdjust;simp only[a,if_false];refine Prod.ext ?_ ?_
 ·cases c with
  |none=>rfl
  |some v=>exact aPw v n 0
 ·cases b with
  |none=>rfl
  |some v=>exact aPw v n n
def aOh (i j:Nat):Builtin.Slice.slicePlaces (i:Int) (j:Int) 1=j - i:=by
 unfold Builtin.Slice.slicePlaces;have a:(1:Int) > 0:=by lia
 simp only[a,if_true,Int.ediv_one]
 split <;> lia
def aDx (p:IsPart v o)(h:Q o s):wpAny (model prog w) A (Builtin.Slice.slicePartIndex v) Q E s:=by
 cases p with
 |none=>exact slicePart_none h
 |int i t=>exact slicePart_int h
def pK {sl:Addr}{j f:Value}{c d:Option Int}{n:Nat}{Q:Int × Int × Nat->Shared->Prop}(hs:s.heap.IsSliceOf sl j f .none)(pl:IsPart j c)(g:IsPart f d)
  (h:Q (((sIx n 0 c:Nat):Int),1,sIx n n d - sIx n 0 c) s):wpAny (model prog w) A (Builtin.Slice.sliceApplied (.ref sl) (pure (n:Int))) Q E s:=by
 obtain⟨i,a,e,b⟩:=id hs;unfold Builtin.Slice.sliceApplied Builtin.Slice.sliceFields;refine b7 (b7 (bAS a b (x:=j) rfl (b7 (bAS a b (x:=f) rfl (b7 (bAS a b (x:=.none) rfl (j8 ?_)))))));refine b7 (slicePart_none ?_);show wpAny _ _ (if ((1:Int) == 0)=true then _ else _) _ _ s;rw[if_neg (by decide)];refine b7 (aDx pl (b7 (aDx g (b7 (j8 ?_)))));show wpAny _ _ (match Builtin.Slice.sliceAdjust c d 1 (n:Int) with|(c,d)=>pure (c,(1:Int),Builtin.Slice.slicePlaces c d 1)) _ _ s;rw[aOg c d n];show wpAny _ _ (pure (((sIx n 0 c:Nat):Int),(1:Int),Builtin.Slice.slicePlaces ((sIx n 0 c:Nat):Int) ((sIx n n d:Nat):Int) 1)) _ _ s;rw[aOh];exact j8 h
def aTr (xs:Array Value)(i k:Nat):((List.range k).filterMap λ(m:Nat)=>xs[((i:Int)+(m:Int) * 1).toNat]?).toArray=((xs.toList.drop i).take k).toArray:=by
 have e:(λ(m:Nat)=>xs[((i:Int)+(m:Int) * 1).toNat]?)=λm=>xs[i+m]?:=by
  funext m;have:((i:Int)+(m:Int) * 1).toNat=i+m:=by lia
  rw[this]
 rw[e];have:=pick_run xs i k;rw[List.filterMap_map] at this;have a:((λx=>xs[x]?) ∘ λx=>i+x)=λm=>xs[i+m]?:=rfl;rw[a] at this;rw[this]
def zQ {t v:Addr}{a:Array Value}{vl vu:Value}{c d:Option Int}{Q:bFD}(j:IsTup s.heap t a)(hs:s.heap.IsSliceOf v vl vu .none)(pl:IsPart vl c)(u:IsPart vu d)
  (o:¬ (sIx a.size 0 c=0/\sIx a.size a.size d=a.size))
  (h:Q (.ref s.heap.objs.size) { s with heap:=s.heap.push { cls:=.type "tuple",data:=.seq ((a.toList.drop (sIx a.size 0 c)).take (sIx a.size a.size d - sIx a.size 0 c)).toArray } })
  (hsz:a.size<=sizeLine):wpAny (model prog w) A (getItem (.ref t) (.ref v)) Q E s:=by
 have b:sizeOk (.seq ((a.toList.drop (sIx a.size 0 c)).take (sIx a.size a.size d - sIx a.size 0 c)).toArray):=by show ((a.toList.drop (sIx a.size 0 c)).take (sIx a.size a.size d - sIx a.size 0 c)).toArray.size<=sizeLine;rw[m9,bAV,bCD,bAU];lia
 have n:sIx a.size a.size d<=a.size:=bBh _ _ (j9 _) d;obtain⟨k,e,i,l⟩:=id hs;have g:s.TypeIs (.ref v) "slice":=⟨k,e,i⟩;unfold getItem
 try with_reducible refine bBI ?_
 first|refine b7 (j8 ?_)|skip
 refine b7 (wpAny_sequenceKey j.typeIs (by decide) ?_);refine b7 (bBB (name:=Str.ofString "__getitem__") j.typeIs bCC
  (bBN bCC j.typeIs entry_tuple_getitem ?_ (args_tuple_getitem _ _)))
 show wpAny _ _ (Builtin.Tuple.tupleItemsOf (.ref t) >>= _) _ _ s;refine b7 (tupleItemsOf_ j ?_);refine b7 (wpAny_typeOf g ?_);rw[if_pos (by decide)];refine b7 (pK hs pl u ?_);have f:¬ ((((sIx a.size 0 c:Nat):Int) == 0 && (1:Int) == 1 && (sIx a.size a.size d - sIx a.size 0 c) == a.size)=true):=by intro q;rw[bAI,bAI] at q;have p:((sIx a.size 0 c:Nat):Int)=0:=eq_of_beq q.1.1;have r:sIx a.size a.size d - sIx a.size 0 c=a.size:=eq_of_beq q.2;exact o ⟨by lia,by lia⟩
 show wpAny _ _ (if (((sIx a.size 0 c:Nat):Int) == 0 && (1:Int) == 1 && (sIx a.size a.size d - sIx a.size 0 c) == a.size)=true then _ else _) _ _ s;rw[if_neg f,aTr];first
  |exact b7 (m:=Builtin.Tuple.tupleExact _) (bAX (j8 ⟨_,rfl,j8 h⟩) b)
  |exact b7 (m:=Builtin.Tuple.tupleExact _) (bAX (b7 (j8 (j8 ⟨_,rfl,j8 h⟩))) b)
  |exact b7 (b7 (m:=Builtin.Tuple.tupleExact _) (bAX (j8 (j8 ⟨_,rfl,j8 h⟩)) b))
  |exact b7 (b7 (m:=Builtin.Tuple.tupleExact _) (bAX (j8 ⟨_,rfl,j8 h⟩) b))
end
end HT
namespace L2
open PySem PySem.Spec PyProof.Rows
abbrev TO:=St->Hp->(Option Int->Hp->Prop)->Prop
def PO (X:Cx)(e:Option Expr)(t:TO):Prop:=
 ∀bFG s σ H Q,Inv X bFG σ H s->t σ H Q ->
  wpAny (model X.prog X.w) X.A (evalPart e X.env) (λu s'=>∃o H',Inv X bFG σ H' s'/\IsPart u o/\Q o H') X.xe s
def aIb:TO:=λ_ H Q=>Q none H
def aTu (t:TE):TO:=fun σ H Q=>t σ H λx H1=>∃i,x=.int i/\Q (some i) H1
section
variable {X:Cx}{e:Expr}{te:TE}{lo hi:Option Expr}{tl th:TO}{pos p2:Pos}
def aWk:PO X none aIb:=by intro a s σ H Q I h;rw[evalPart_none];exact j8 ⟨none,H,I,.none,h⟩
def aXa (h:PE X e te):PO X (some e) (aTu te):=by intro a s σ H Q I d;rw[evalPart_some];refine thn (h a s σ H _ I d) λu j ⟨x,c,b,f,g⟩=>?_;obtain⟨i,rfl,q⟩:=g;obtain⟨t,rfl⟩:=f;exact⟨some i,c,b,.int i t,q⟩
def SlR (X:Cx)(r:V->Option Int->Option Int->Hp->VK->Prop):Prop:=
 ∀bFG s σ H x v vl vu lo hi sl Q,Inv X bFG σ H s->RelV x v->s.heap.IsSliceOf sl vl vu .none->IsPart vl lo->IsPart vu hi->r x lo hi H Q ->
  ∃T id,typeLookup (.type T) "__getitem__"=pure (some (.builtin id))/\s.TypeIs v T/\wpAny (model X.prog X.w) X.A (getItem v (.ref sl)) (EP X bFG σ Q) X.xe s
def tSl (r:V->Option Int->Option Int->Hp->VK->Prop)(te:TE)(tl th:TO):TE:=fun σ H Q=>te σ H λx H1=>tl σ H1 λl H2=>th σ H2 λu H3=>r x l u H3 Q
def aS7 {r:V->Option Int->Option Int->Hp->VK->Prop}(O:SlR X r)(N:PE X e te)(K:PO X lo tl)(M:PO X hi th):PE X (.Subscript e (.Slice lo hi none p2) pos) (tSl r te tl th):=by intro a s σ H Q I h;refine Subscript_ (thn (N a s σ H _ I h) λv E ⟨x,o,n,z,B⟩=>?_);refine wpAny_Slice (thn (K a E σ o _ n B) λf i ⟨l,y,p,m,C⟩=>thn (M a i σ y _ p C) λd c ⟨u,g,J,D,t⟩=>?_);rw[evalPart_none];refine j8 ?_;have G:Inv X a σ g { c with heap:=c.heap.push { cls:=.type "slice",data:=.fields #[f,d,.none] } }:=J.kept (t':=c.toks) λb P q=>c7 _ q;obtain⟨T,L,j,F,k⟩:=O a { c with heap:=c.heap.push { cls:=.type "slice",data:=.fields #[f,d,.none] } } σ g x v f d l u c.heap.objs.size Q G z (Heap.IsSliceOf.new ..) m D t;show wpAny (model X.prog X.w) X.A (subscriptTail e (.Slice lo hi none p2) v (.ref c.heap.objs.size)) (EP X a σ Q) X.xe { c with heap:=c.heap.push { cls:=.type "slice",data:=.fields #[f,d,.none] } };exact tail_any (ops:=[.ref c.heap.objs.size,v]) F j k (by with_unfolding_all rfl)
def oM (xs:List V)(lo hi:Option Int):List V:=(xs.drop (HT.sIx xs.length 0 lo)).take (HT.sIx xs.length xs.length hi - HT.sIx xs.length 0 lo)
def aA9 (xs:List V)(lo hi:Option Int):(oM xs lo hi).length<=xs.length:=by unfold oM;rw[bAV,bCD];lia
def bFv (K:bFC):V->Option Int->Option Int->Hp->VK->Prop:=λx lo hi H Q=>∃a xs,x=.ref a/\SqT K H a xs /\
 ¬ (HT.sIx xs.length 0 lo=0/\HT.sIx xs.length xs.length hi=xs.length)/\∀p,H p=none->Q (.ref p) (upd H p (.tup (oM xs lo hi)))
def aZu:SlR X (bFv X.K):=by
 intro l s σ H x v y u f i z Q I m k t p h;obtain⟨a,d,rfl,n,o,q⟩:=h;cases m;obtain⟨e,r,j,g⟩:=I.tuple n;have c:e.toArray.size=d.length:=by rw[m9];exact r.length.symm
 refine⟨"tuple",_,PyProof.Rows.slot_tuple_getitem.lookup,j.typeIs,?_⟩;refine HT.zQ j k t p (by rw[c];exact o) ?_ (by rw[c];exact g);rw[c];refine⟨.ref s.heap.objs.size,_,I.laid (t':=s.toks) (λb w q=>c7 _ q) (j9 _) ?_,rfl,q _ (I.hok.fresh (j9 _))⟩;exact⟨bAG (aA9 d f i) g,_,(r.drop (HT.sIx d.length 0 f)).take (HT.sIx d.length d.length i - HT.sIx d.length 0 f),wU.new _ _⟩
def bEj (K:bFC):R2:=λx y H Q=>∃a b xs ys,x=.ref a/\y=.ref b/\SqT K H a xs/\SqT K H b ys/\xs≠[]/\xs.length+ys.length<=sizeLine /\
 (ys=[]->Q (.ref a) H)/\(ys≠[]->∀p,H p=none->Q (.ref p) (upd H p (.tup (xs++ys))))
def Vals.aCb (r:Vals xs us):us=[]↔xs=[]:=by
 cases r with
 |nil=>simp
 |cons _ _=>simp
def aWr:OpR X (binaryOp .Add) (bEj X.K):=by intro k s σ H x y v u Q I l n h;obtain⟨a,b,A,B,rfl,rfl,p,o,m,e,r,t⟩:=h;cases l;cases n;obtain⟨g,d,i,_⟩:=I.tuple p;obtain⟨f,c,j,_⟩:=I.tuple o;refine HT.aW6 i j (λz=>m (d.aCb.mp z)) (λz=>⟨.ref a,H,I,rfl,r (c.aCb.mp z)⟩) (λz=>?_) (by rw[<-d.length,<-c.length];exact e);refine⟨.ref s.heap.objs.size,_,I.laid (t':=s.toks) (λb C q=>c7 _ q) (j9 _) ?_,rfl,t (λw=>z (c.aCb.mpr w)) _ (I.hok.fresh (j9 _))⟩;exact⟨by rw[j4];exact e,_,d.append c,wU.new _ _⟩
end
def ixN (n:Nat)(i:Int):Option Nat:=if 0<=i then (if i<n then some i.toNat else none) else if -(n:Int)<=i then some (i+n).toNat else none
def atI {α:Type}(xs:List α)(i:Int):Option α:=(ixN xs.length i).bind λj=>xs[j]?
def aOm (h:ixN n i=some j):seqIndex? i n=some j/\j<n/\-(n:Int)<=i/\i<n:=by
 unfold ixN at h;by_cases b:0<=i
 ·rw[if_pos b] at h;by_cases a:i<n
  ·rw[if_pos a] at h;have e:=bAM h;exact⟨by rw[seqIndex_of b a,e],by lia,by lia,a⟩
  ·rw[if_neg a] at h;cases h
 ·rw[if_neg b] at h;by_cases a:-(n:Int)<=i
  ·rw[if_pos a] at h;have e:=bAM h;exact⟨by rw[seqIndex_neg (by lia) a,e],by lia,a,by lia⟩
  ·rw[if_neg a] at h;cases h
def aOt {α:Type}{xs:List α}{i:Int}{v:α}(h:atI xs i=some v):∃j,seqIndex? i xs.length=some j/\xs[j]?=some v/\j<xs.length/\-(xs.length:Int)<=i/\i<xs.length:=by
 unfold atI at h;cases e:ixN xs.length i with
 |none=>rw[e] at h;cases h
 |some j=>rw[e] at h;obtain⟨d,c,b,a⟩:=aOm e;exact⟨j,d,h,c,b,a⟩
def dJ {α:Type}{xs:List α}{j:Nat}{v:α}(h:xs[j]?=some v):atI xs (j:Int)=some v:=by
 have a:j<xs.length:=(List.getElem?_eq_some_iff.mp h).1;have e:ixN xs.length (j:Int)=some j:=by unfold ixN;rw[if_pos (by lia),if_pos (by lia)];simp
 unfold atI;rw[e];exact h
def aI0 (b:Expr):Prop:=∀o i,subscripted b false o i=operate [o,i] (getItem o i)
def IxR (X:Cx)(r:R2):Prop:=
 ∀value slice bFG s σ H x y v u Q,Inv X bFG σ H s->RelV x v->RelV y u->r x y H Q ->
  subscripted slice false v u=operate [v,u] (getItem v u)->wpAny (model X.prog X.w) X.A (subscriptTail value slice v u) (EP X bFG σ Q) X.xe s
def MtR (X:Cx)(id:String)(r:V->List V->Hp->VK->Prop):Prop:=
 ∀bFG s σ H x xs v us Q,Inv X bFG σ H s->RelV x v->Vals xs us->r x xs H Q ->
  wpAny (model X.prog X.w) X.A (call (.builtin id) (v::us)) (EP X bFG σ Q) X.xe s
section
variable {X:Cx}{a b:Expr}{ta tb:TE}{pos:Pos}
def bEy (k:IxR X r)(l:PE X a ta)(j:PE X b tb)(hs:aI0 b):PE X (.Subscript a b pos) (tOp r ta tb):=by intro c s σ H Q I h;exact Subscript_ (aT9 l j I h λv u e x y g f d i q=>k a b c e σ g x y v u Q f d i q (hs _ _))
inductive aX2 (K:bFC)(x:V)(y:V)(H:Hp)(Q:VK):Prop
 |mk (p:_) (xs:_) (i:_) (v:_) (h0:x=.ref p) (h1:y=.int i) (h2:SqL K H p xs) (h3:atI xs i=some v) (h4:Q v H):aX2 K x y H Q
inductive bBw (K:bFC)(x:V)(y:V)(H:Hp)(Q:VK):Prop
 |mk (p:_) (xs:_) (i:_) (v:_) (h0:x=.ref p) (h1:y=.int i) (h2:SqT K H p xs) (h3:atI xs i=some v) (h4:Q v H):bBw K x y H Q
def cX:IxR X (aX2 X.K):=by
 intro l k a s σ H x y v u Q I A E h n;obtain⟨p,N,i,z,rfl,rfl,J,G,q⟩:=h;cases A;obtain⟨t,rfl⟩:=E;obtain⟨d,r,g,O⟩:=I.list J;obtain⟨j,c,L,P,C,B⟩:=aOt G;obtain⟨w,m,f⟩:=r.get L;have D:=r.length;have M:=aAq;have b:EP X a σ Q w s:=⟨z,H,I,f,q⟩;by_cases o:0<=i
 ·have e:i.toNat=j:=by rw[seqIndex_of o B] at c;exact bAM c
  exact item_listR g.isList o (by lia) (by rw[e];simpa using m) b n
 ·have e:(i+(d.toArray.size:Int)).toNat=j:=by rw[seqIndex_neg (by lia) C] at c;rw[m9,<-D];exact bAM c
  exact subscriptTail_builtinR (x:=w) g.isList.typeIs slot_list_getitem.lookup
   (wpAny_getItem_list_neg (Q:=λr F=>r=w/\EP X a σ Q r F) g.isList (by lia) (by rw[m9] <;> lia) (by lia) (by rw[e];simpa using m) ⟨rfl,b⟩) n
def bD:IxR X (bBw X.K):=by
 intro e d a s σ H x y v u Q I m o h l;obtain⟨p,G,i,z,rfl,rfl,C,B,q⟩:=h;cases m;obtain⟨t,rfl⟩:=o;obtain⟨g,r,f,J⟩:=I.tuple C;obtain⟨j,E,D,N,M,L⟩:=aOt B;obtain⟨w,k,b⟩:=r.get D;have n:=r.length;have F:=aAq;have c:EP X a σ Q w s:=⟨z,H,I,b,q⟩;exact subscriptTail_builtinR (x:=w) f.typeIs slot_tuple_getitem.lookup
  (getItem_tuple (j:=j) (Q:=λr A=>r=w/\EP X a σ Q r A) f (by lia) (by lia) (by rw[m9,<-n];exact E) (by simpa using k) ⟨rfl,c⟩) l
def aNq (its:List Value)(n j:Nat)(u:Value):Obj.mapSeq (·.setIfInBounds j u) { cls:=.type "list",data:=.seq its.toArray n }={ cls:=.type "list",data:=.seq (its.set j u).toArray n }:=by simp[Obj.mapSeq]
def Inv.lst (I:Inv X bFG σ H s)(h:H p=some (.lst xs)) :
  ∃its n,Vals xs its/\s.heap.get? p=some { cls:=.type "list",data:=.seq its.toArray n }/\xs.length<=sizeLine:=by
 obtain⟨z,its,n,r,e⟩:=I.hok p _ h;exact⟨its,n,r,e,z⟩
def Inv.bAn {bFG:bFE}{σ:St}{H:Hp}{s:Shared}{p:Addr}{xs ys:List V}{its its':List Value}{n c:Nat}{f:Obj->Obj}(I:Inv X bFG σ H s)(h:H p=some (.lst xs))
  (i:s.heap.get? p=some { cls:=.type "list",data:=.seq its.toArray n }) (d:f { cls:=.type "list",data:=.seq its.toArray n }={ cls:=.type "list",data:=.seq its'.toArray c }) (r:Vals ys its') (g:ys.length<=sizeLine) (t:Nat) :
  Inv X bFG σ (upd H p (.lst ys)) { s with heap:=s.heap.update p f,toks:=t }:=by
 have e:(s.heap.update p f).get? p=some { cls:=.type "list",data:=.seq its'.toArray c }:=by rw[bBF f i (by rw[d] <;> rfl),d]
 refine I.write (x:=p) (e:=p) (by rw[h];trivial) (.inl rfl) (λb u a q=>(bBO _ _ (Ne.symm a)).trans q) ⟨_,e⟩ ?_;exact⟨g,its',c,r,e⟩
def bDm:V->V->V->Hp->(Hp->Prop)->Prop:=λo i v H Q=>∃p xs k j,o=.ref p/\i=.int k/\H p=some (.lst xs)/\ixN xs.length k=some j/\Q (upd H p (.lst (xs.set j v)))
def set_list:bBi X bDm:=by
 intro c s σ H o i v G F u Q I y D B h;obtain⟨p,z,k,j,rfl,rfl,g,C,q⟩:=h;cases y;obtain⟨t,rfl⟩:=D;obtain⟨a,n,r,f,A⟩:=I.lst g;obtain⟨b,J,x,l⟩:=aOm C;have e:=r.length;have E:=aAq;have w:Inv X c σ (upd H p (.lst (z.set j v))) { s with heap:=s.heap.update p (Obj.mapSeq (·.setIfInBounds j u)) }:=
  I.bAn g f (aNq a n j u) (r.set B j) (by rw[List.length_set];exact A) s.toks
 by_cases m:0<=k
 ·have d:k.toNat=j:=by rw[seqIndex_of m l] at b;exact bAM b
  exact PySem.W.ki_setAt f m (by lia) (by rw[m9,<-e];exact l) (by rw[d];exact⟨_,w,q⟩)
 ·have d:(k+(a.toArray.size:Int)).toNat=j:=by rw[seqIndex_neg (by lia) x] at b;rw[m9,<-e];exact bAM b
  exact PySem.W.ki_setBack f (by lia) (by rw[m9,<-e];exact x) (by lia) (by rw[d];exact⟨_,w,q⟩)
def aG8 (a b:Option Int)(n:Nat):(sliceBounds a b none n).1=((HT.sIx n 0 a:Nat):Int)/\(sliceBounds a b none n).2.1=((HT.sIx n n b:Nat):Int)/\(sliceBounds a b none n).2.2=1:=by
 refine⟨?_,?_,rfl⟩
 ·cases a with
  |none=>simp[sliceBounds,HT.sIx]
  |some i=>
   simp only[sliceBounds,HT.sIx,Option.getD_none,show (1:Int) > 0 by decide,if_true];by_cases h:i<0
   ·simp only[h,if_true] <;> lia
   ·simp only[h,if_false] <;> lia
 ·cases b with
  |none=>simp[sliceBounds,HT.sIx]
  |some i=>
   simp only[sliceBounds,HT.sIx,Option.getD_none,show (1:Int) > 0 by decide,if_true];by_cases h:i<0
   ·simp only[h,if_true] <;> lia
   ·simp only[h,if_false] <;> lia
def aEr (its:List Value)(e d:Option Int):slicePick its.toArray e d none=((its.drop (HT.sIx its.length 0 e)).take (HT.sIx its.length its.length d - HT.sIx its.length 0 e)).toArray:=by obtain⟨c,b,a⟩:=aG8 e d its.toArray.size;unfold slicePick;rw[c,b,a];simp only[sliceRange_one,pick_run,m9] <;> rfl
def bFp (K:bFC):V->Option Int->Option Int->Hp->VK->Prop:=λx lo hi H Q=>∃a xs,x=.ref a/\SqL K H a xs/\∀p,H p=none->Q (.ref p) (upd H p (.lst (oM xs lo hi)))
def aX9:SlR X (bFp X.K):=by intro l s σ H x v w t e f y Q I m k p o h;obtain⟨a,c,rfl,n,q⟩:=h;cases m;obtain⟨i,r,g,j⟩:=I.list n;have d:=r.length;refine⟨"list",_,slot_list_getitem.lookup,g.isList.typeIs,?_⟩;refine wpAny_getItem_list_slice g.isList k p o .none (by simp) ?_ (by rw[m9] <;> lia);rw[aEr,<-d];refine⟨.ref s.heap.objs.size,_,I.laid (t':=s.toks) (λb u q=>c7 _ q) (j9 _) ?_,rfl,q _ (I.hok.fresh (j9 _))⟩;exact⟨bAG (aA9 c e f) j,_,0,(r.drop (HT.sIx c.length 0 e)).take (HT.sIx c.length c.length f - HT.sIx c.length 0 e),w6 _ rfl⟩
def kJ:V->Bool
 |.non=>true
 |.bl _=>true
 |.int _=>true
 |.str _=>true
 |_=>false
def eqV:V->V->Bool
 |.non,.non=>true
 |.bl a,.bl b=>a == b
 |.bl a,.int b=>(if a then 1 else 0) == b
 |.int a,.bl b=>a == (if b then 1 else 0)
 |.int a,.int b=>a == b
 |.str a,.str b=>a == b
 |_,_=>false
def bCs (f:RelV y u)(c:RelV x v)(g:kJ y=true)(e:kJ x=true):SeqAt.EqAt A s u v (eqV y x):=by
 cases y with
 |non=>
  cases f;cases x with
  |non=>cases c;exact SeqAt.EqAt.same _
  |bl b=>cases c;exact SeqAt.EqAt.none_bool b
  |int b=>obtain⟨t,rfl⟩:=c;exact SeqAt.EqAt.none_int b t
  |str b=>obtain⟨t,rfl⟩:=c;exact SeqAt.EqAt.none_str b t
  |_=>exact absurd (show false=true from e) bAA
 |bl a=>
  cases f;cases x with
  |non=>cases c;exact SeqAt.EqAt.bool_none a
  |bl b=>cases c;exact SeqAt.EqAt.bool_bool a b
  |int b=>obtain⟨t,rfl⟩:=c;exact SeqAt.EqAt.bool_int a b t
  |str b=>obtain⟨t,rfl⟩:=c;exact SeqAt.EqAt.bool_str a b t
  |_=>exact absurd (show false=true from e) bAA
 |int a=>
  obtain⟨d,rfl⟩:=f;cases x with
  |non=>cases c;exact SeqAt.EqAt.int_none a d
  |bl b=>cases c;exact SeqAt.EqAt.int_bool a d b
  |int b=>obtain⟨t,rfl⟩:=c;exact SeqAt.EqAt.int_int a d b t
  |str b=>obtain⟨t,rfl⟩:=c;exact SeqAt.EqAt.int_str a d b t
  |_=>exact absurd (show false=true from e) bAA
 |str a=>
  obtain⟨d,rfl⟩:=f;cases x with
  |non=>cases c;exact SeqAt.EqAt.str_none a d
  |bl b=>cases c;exact SeqAt.EqAt.str_bool a d b
  |int b=>obtain⟨t,rfl⟩:=c;exact SeqAt.EqAt.str_int a d b t
  |str b=>obtain⟨t,rfl⟩:=c;exact SeqAt.EqAt.str_str a d b t
  |_=>exact absurd (show false=true from e) bAA
 |_=>exact absurd (show false=true from g) bAA
def eqU (x:V)(u:Value):Bool:=match u with
 |.none=>eqV .non x
 |.bool b=>eqV (.bl b) x
 |.int i _=>eqV (.int i) x
 |.str z _=>eqV (.str z) x
 |_=>false
def aT1 (r:RelV y u)(f:kJ y=true):eqU x u=eqV y x:=by
 cases y with
 |non=>cases r;rfl
 |bl b=>cases r;rfl
 |int i=>obtain⟨t,rfl⟩:=r;rfl
 |str z=>obtain⟨t,rfl⟩:=r;rfl
 |_=>exact absurd (show false=true from f) bAA
theorem zE:∀{xs:List V} {us:List Value},Vals xs us->xs.all kJ=true->us.any (eqU x)=xs.any λy=>eqV y x
 |_,_,.nil,_=>rfl
 |y::xs,u::us,.cons r t,f=>by rw[List.all_cons,bAI] at f;rw[bEL,bEL,aT1 r f.1,zE t f.2]
theorem rM (a:RelV x v)(b:kJ x=true):∀{xs:List V} {us:List Value},Vals xs us->xs.all kJ=true->∀u∈us,SeqAt.EqAt A s u v (eqU x u)
 |_,_,.nil,_=>λu hu=>by cases hu
 |y::xs,u::us,.cons r t,f=>λc hu=>by
  rw[List.all_cons,bAI] at f;rcases List.mem_cons.mp hu with rfl|hu
  ·rw[aT1 r f.1];exact bCs r a f.1 b
  ·exact rM a b t f.2 c hu
def inV (x:V)(xs:List V):Bool:=xs.any λy=>eqV y x
def rIn (K:bFC)(neg:Bool):R2:=λx y H Q=>∃p xs,y=.ref p/\(SqL K H p xs\/SqT K H p xs)/\kJ x=true/\xs.all kJ=true/\Q (.bl (if neg then !inV x xs else inV x xs)) H
def tU:OpR X (compareOp .In) (rIn X.K false):=by
 intro i s σ H x y v u Q I f j h;obtain⟨p,k,rfl,hq,e,b,q⟩:=h;cases j;rcases hq with hq|hq
 ·obtain⟨a,r,d,g⟩:=I.list hq;refine SeqAt.in_listAt (eqU x) d.isList (λw c=>rM f e r b w (by simpa using c)) ⟨.bl _,H,I,rfl,?_⟩;rw[show a.toArray.any (eqU x)=a.any (eqU x) by simp,zE r b];exact q
 ·obtain⟨a,r,d,g⟩:=I.tuple hq;refine SeqAt.in_tupleAt (eqU x) d (λw c=>rM f e r b w (by simpa using c)) ⟨.bl _,H,I,rfl,?_⟩;rw[show a.toArray.any (eqU x)=a.any (eqU x) by simp,zE r b];exact q
def xZ:OpR X (compareOp .NotIn) (rIn X.K true):=by
 intro i s σ H x y v u Q I f j h;obtain⟨p,k,rfl,hq,e,b,q⟩:=h;cases j;rcases hq with hq|hq
 ·obtain⟨a,r,d,g⟩:=I.list hq;refine SeqAt.notIn_listAt (eqU x) d.isList (λw c=>rM f e r b w (by simpa using c)) ⟨.bl _,H,I,rfl,?_⟩;rw[show a.toArray.any (eqU x)=a.any (eqU x) by simp,zE r b];exact q
 ·obtain⟨a,r,d,g⟩:=I.tuple hq;refine SeqAt.notIn_tupleAt (eqU x) d (λw c=>rM f e r b w (by simpa using c)) ⟨.bl _,H,I,rfl,?_⟩;rw[show a.toArray.any (eqU x)=a.any (eqU x) by simp,zE r b];exact q
def bB:dD X (.builtin "len") (λxs H Q=>∃p ys,xs=[.ref p]/\(SqL X.K H p ys\/SqT X.K H p ys)/\Q (.int ys.length) H):=by
 intro f s σ H xs j Q I r h;obtain⟨p,ys,rfl,hq,q⟩:=h;obtain⟨u,rfl,g⟩:=vals1 r;cases g;have i:=aAq;rcases hq with hq|hq
 ·obtain⟨b,c,d,e⟩:=I.list hq;have a:=c.length;exact Calls.call_len_list d.isList (by simp only[m9] <;> lia) ⟨.int ys.length,H,I.tok _,⟨s.toks+1,by rw[m9,a]⟩,q⟩
 ·obtain⟨b,c,d,e⟩:=I.tuple hq;have a:=c.length;exact len_tuple d (by simp only[m9] <;> lia) ⟨.int ys.length,H,I.tok _,⟨s.toks+1,by rw[m9,a]⟩,q⟩
def kY:dD X (.builtin "len") (λxs H Q=>∃z,xs=[.str z]/\z.length<=sizeLine/\Q (.int z.length) H):=by intro a s σ H xs d Q I r h;obtain⟨z,rfl,c,q⟩:=h;obtain⟨u,rfl,t,rfl⟩:=vals1 r;have b:=aAq;exact len_str (by lia) ⟨.int z.length,H,I.tok _,⟨_,rfl⟩,q⟩
def dD.or (h:dD X f r)(h':dD X f r'):dD X f (λxs H Q=>r xs H Q\/r' xs H Q):=by
 intro a s σ H xs c Q I b q;rcases q with q|q
 ·exact h a s σ H xs c Q I b q
 ·exact h' a s σ H xs c Q I b q
def aHa:dD X (.type "list") (λxs H Q=>∃p ys,xs=[.ref p]/\(SqL X.K H p ys\/SqT X.K H p ys)/\∀l,H l=none->Q (.ref l) (upd H l (.lst ys))):=by
 intro m s σ H xs z Q I r h;obtain⟨p,ys,rfl,hq,q⟩:=h;obtain⟨u,rfl,y⟩:=vals1 r;cases y;have i:∀a,Vals ys a->ys.length<=sizeLine->∀c f,(∀b o',s.heap.get? b=some o'->c.get? b=some o') ->
   c.get? s.heap.objs.size=some { cls:=.type "list",dict:=none,data:=.seq a.toArray f,slots:=#[] }->EP X m σ Q (.ref s.heap.objs.size) { s with heap:=c }:=λa d g c f kp e=>
  ⟨.ref s.heap.objs.size,_,I.laid (t':=s.toks) kp (j9 _) (show fQ X.prog X.w _ c _ (.lst ys) from ⟨g,a,f,d,e⟩),rfl,q _ (I.hok.fresh (j9 _))⟩
 rcases hq with hq|hq
 ·obtain⟨a,d,t,g⟩:=I.list hq;have j:=d.length;obtain⟨o,v,x,n,k⟩:=t.isList;exact call_list_seq p (.inl rfl) v x k (λc f kp e=>i a d g c f kp e) (by simp only[m9] <;> lia)
 ·obtain⟨a,d,t,g⟩:=I.tuple hq;have j:=d.length;obtain⟨o,v,x,n,k⟩:=t;exact call_list_seq p (.inr rfl) v x k (λc f kp e=>i a d g c f kp e) (by simp only[m9] <;> lia)
def aE8:dD X (.type "tuple") (λxs H Q=>∃p ys,xs=[.ref p]/\((SqL X.K H p ys/\∀l,H l=none->Q (.ref l) (upd H l (.tup ys)))\/(SqT X.K H p ys/\Q (.ref p) H))):=by
 intro d s σ H xs v Q I r h;obtain⟨p,ys,rfl,h⟩:=h;obtain⟨u,rfl,n⟩:=vals1 r;cases n;rcases h with⟨g,q⟩|⟨g,q⟩
 ·obtain⟨a,c,i,k⟩:=I.list g;have m:=c.length;refine call_tuple_list i.isList (λf kp=>?_) (by simp only[m9] <;> lia);have j:=I.kept (t':=s.toks) kp;have t:Inv X d σ (upd H f.objs.size (.tup ys)) { s with heap:=f.push { cls:=.type "tuple",data:=.seq a.toArray } }:=
   j.laid (t':=s.toks) (λb o e=>c7 _ e) (j9 _) (show fQ X.prog X.w _ _ _ (.tup ys) from ⟨k,a,c,wU.new _ _⟩)
  exact⟨.ref f.objs.size,_,t,rfl,q _ (j.hok.fresh (j9 _))⟩
 ·obtain⟨a,c,i,k⟩:=I.tuple g;exact call_tuple_same i ⟨.ref p,H,I,rfl,q⟩
def tyV (K:bFC)(T:String)(x:V)(H:Hp):Prop:=match x with
 |.str _=>T = "str"
 |.int _=>T = "int"
 |.ref p=>(T = "list"/\∃xs,SqL K H p xs)\/(T = "tuple"/\∃o,K.lookup p=some o/\o.cls=.type "tuple"/\o.dict=none) \/
   (T = "dict"/\((∃kvs,H p=some (.dK kvs))\/∃kvs,H p=some (.dT kvs)))\/(T = "set"/\∃S n,H p=some (.set S n))
 |_=>False
def aUm (I:Inv X bFG σ H s)(r:RelV x v)(g:tyV X.K T x H) :
  s.TypeIs v T/\∀a,v=.ref a->∃ob,s.heap.get? a=some ob/\ob.dict=none:=by
 cases x with
 |str z=>obtain⟨t,rfl⟩:=r;cases (show T = "str" from g);exact⟨typeIs_str s z t,λ_ e=>nomatch e⟩
 |int i=>obtain⟨t,rfl⟩:=r;cases (show T = "int" from g);exact⟨typeIs_int s i t,λ_ e=>nomatch e⟩
 |ref p=>
  cases r;rcases g with⟨rfl,q,m⟩|⟨rfl,o,b,hc,f⟩|⟨rfl,b⟩|⟨rfl,S,n,b⟩
  ·obtain⟨l,_,k,_⟩:=I.list m;refine⟨k.isList.typeIs,λa e=>?_⟩;cases e;obtain⟨o,n,e,c,f,_⟩:=k;exact⟨o,e,f⟩
  ·refine⟨⟨o,I.kIn p o b,hc⟩,λa e=>?_⟩;cases e;exact⟨o,I.kIn _ o b,f⟩
  ·have z:∃o,s.heap.get? p=some o/\o.ExactDict:=by
    rcases b with⟨j,b⟩|⟨j,b⟩
    ·obtain⟨_,_,_,_,o,_,_,e,d,_⟩:=I.hok p _ b;exact⟨o,e,d⟩
    ·obtain⟨_,_,_,_,o,_,_,e,d,_⟩:=I.hok p _ b;exact⟨o,e,d⟩
   obtain⟨o,e,d⟩:=z;refine⟨⟨o,e,d.1⟩,λa h=>?_⟩;cases h;exact⟨o,e,d.2.1⟩
  ·obtain⟨o,_,_,_,e,d,_⟩:=I.hok p _ b;refine⟨⟨o,e,d.1⟩,λa h=>?_⟩;cases h;exact⟨o,e,d.2.1⟩
 |_=>exact False.elim g
def bD1 (K:bFC)(T:String)(r:V->List V->Hp->VK->Prop)(to:TE):TE:=fun σ H Q=>to σ H λx H1=>tyV K T x H1/\r x [] H1 Q
def tBM (K:bFC)(T:String)(r:V->List V->Hp->VK->Prop)(to:TE)(t:TA):TE:=fun σ H Q=>to σ H λx H1=>tyV K T x H1/\t σ H1 λxs H2=>r x xs H2 Q
variable {o e:Expr}{es:List Expr}{to:TE}{t:TA}{name:Str}{apos cpos:Pos}{T id:String}{r:V->List V->Hp->VK->Prop}
def bCu (t:PlainAttrs T)(e:Slot T name id)(j:typeOf (.builtin id)=pure (.type "method_descriptor"))(q:MtR X id r)(p:PE X o to)
  (c:attributeBase o name X.env (eval o X.env)=eval o X.env:=by rfl) (b:(apos.endLine == cpos.line)=true:=by rfl):PE X (.Call (.Attribute o name apos) [] [] cpos) (bD1 X.K T r to):=by
 intro a s σ H Q I h;refine wpAny_Call_method0_late c b (thn (p a s σ H _ I h) λv l ⟨x,g,d,f,i,k⟩=>?_);obtain⟨n,m⟩:=aUm d f i;exact⟨T,id,t,e,j,n,m,Calls.callWith_builtin rfl (PySem.evalArgs_none (q a l σ g x [] v [] Q d f .nil k))⟩
def bEz (L:PlainAttrs T)(g:Slot T name id)(p:typeOf (.builtin id)=pure (.type "method_descriptor"))(J:MtR X id r)(G:PE X o to)(F:PA X (e::es) t)
  (d:attributeBase o name X.env (eval o X.env)=eval o X.env:=by rfl)
  (i:((backTo cpos (starEach (e::es) X.env)).all (λx=>!x.1) && (backToKw cpos (keywordEach [] X.env)).all (λx=>x.1.isSome)
   && decide ((e::es).length+([]:List Keyword).length+(if ([]:List Keyword).isEmpty then 0 else 1)<30))=true:=by rfl)
  (c:(apos.endLine == cpos.line)=true:=by rfl) (hs:starEach (e::es) X.env=(false,eval e X.env)::starEach es X.env:=by rfl) (b:(backTo cpos (starEach es X.env)).any (·.1)=false:=by rfl) :
  PE X (.Call (.Attribute o name apos) (e::es) [] cpos) (tBM X.K T r to t):=by
 intro a s σ H Q I h;refine wpAny_Call_method_late d i c rfl (thn (G a s σ H _ I h) λv B ⟨x,l,f,k,m,z⟩=>?_);obtain⟨E,C⟩:=aUm f k m;refine⟨T,id,L,g,p,E,C,?_⟩;have j:=F cpos a B σ l _ f z;rw[hs] at j ⊢;refine Calls.callWith_builtin (by show (false || (backTo cpos (starEach es X.env)).any (·.1))=false;rw[b] <;> rfl) (Calls.evalArgs_plain ?_);exact thn j λn u ⟨q,y,w,D,A⟩=>J a u σ y x q v n Q w k D A
end
def MtM (X:Cx)(id:String)(r:V->List V->Hp->VK->Prop):Prop:=
 ∀bFG s σ H x xs v us Q,Inv X bFG σ H s->RelV x v->Vals xs us->r x xs H Q ->
  wpAny (model X.prog X.w) X.A (call (.builtin id) (v::us)) (EP X bFG σ Q) X.xe s
theorem Vals.one:∀{x:V} {us:List Value},Vals [x] us->∃u,us=[u]/\RelV x u
 |_,_,.cons r .nil=>⟨_,rfl,r⟩
theorem Vals.two:∀{x y:V} {us:List Value},Vals [x,y] us->∃u v,us=[u,v]/\RelV x u/\RelV y v
 |_,_,_,.cons r t=>let ⟨_,e,q⟩:=Vals.one t;⟨_,_,e ▸ rfl,r,q⟩
theorem Vals.zero:∀{us:List Value},Vals [] us->us=[]
 |_,.nil=>rfl
def Vals.dropLast (h:Vals xs us):Vals xs.dropLast us.dropLast:=by
 induction h with
 |nil=>exact .nil
 |cons r t ih=>
  cases t with
  |nil=>exact .nil
  |cons q t'=>exact .cons r ih
def Vals.reverse (h:Vals xs us):Vals xs.reverse us.reverse:=by
 induction h with
 |nil=>exact .nil
 |cons r t ih=>rw[bEG,bEG];exact Vals.append ih (.cons r .nil)
theorem Vals.rep (h:Vals xs us):∀k:Nat,Vals (List.replicate k xs).flatten (List.replicate k us).flatten
 |0=>.nil
 |k+1=>by rw[bDA,bDA,bBQ,bBQ];exact Vals.append h (Vals.rep h k)
def aM6 {α:Type}(l:List α):l.eraseIdx (l.length - 1)=l.dropLast:=by
 induction l with
 |nil=>rfl
 |cons a r ih=>
  cases r with
  |nil=>rfl
  |cons b r=>
   have e:(a::b::r).length - 1=((b::r).length - 1)+1:=by have d:(a::b::r).length=r.length+2:=rfl;have c:(b::r).length=r.length+1:=rfl;lia
   rw[e,List.eraseIdx_cons_succ,ih];all_goals rfl
theorem foldl_rep (its:List Value):∀k acc,
  List.foldl (λx1 x2=>x1++x2) acc.toArray (List.replicate k its.toArray)=(acc++(List.replicate k its).flatten).toArray
 |0,acc=>by simp
 |k+1,acc=>by
  have e:acc.toArray++its.toArray=(acc++its).toArray:=by simp
  have a:(acc++its)++(List.replicate k its).flatten=acc++(List.replicate (k+1) its).flatten:=by rw[bDA,bBQ,bAD]
  rw[<-a,<-foldl_rep its k (acc++its),<-e,bDA,List.foldl_cons]
section
variable {X:Cx}{bFG:bFE}{σ:St}{H:Hp}{s:Shared}{l b:Addr}{xs ys zs:List V}
def Inv.lset {its its':List Value}{n:Nat}{f:Array Value->Array Value}{t':Nat}(I:Inv X bFG σ H s)(d:H l=some (.lst xs))
  (e:s.heap.get? l=some { cls:=.type "list",data:=.seq its.toArray n }) (i:f its.toArray=its'.toArray) (c:Vals ys its') (g:ys.length<=sizeLine) :
  Inv X bFG σ (upd H l (.lst ys)) { s with heap:=s.heap.update l (Obj.mapSeq f),toks:=t' }:=by
 have q:=PySem.IsL.update e f;rw[i] at q;refine I.write (x:=l) (e:=l) (by rw[d];exact trivial) (.inl rfl) (λh u a b=>(bBO s.heap (Obj.mapSeq f) (Ne.symm a)).trans b) ⟨_,q⟩ ?_;exact⟨g,its',_,c,q⟩
def Inv.lnew (I:Inv X bFG σ H s)(a:Vals ys its)(b:ys.length<=sizeLine) :
  Inv X bFG σ (upd H s.heap.objs.size (.lst ys)) { s with heap:=s.heap.push { cls:=.type "list",data:=.seq its.toArray },toks:=t' }:=
 I.laid (λ_ _ q=>c7 _ q) (j9 _) ⟨b,its,0,a,w6 _ rfl⟩
def Inv.fresh (I:Inv X bFG σ H s):H s.heap.objs.size=none:=I.hok.fresh (j9 _)
def Inv.aMk (I:Inv X bFG σ H s)(a:H l=some (.lst xs)):xs.length<=sizeLine/\∃its n,Vals xs its/\xs.length=its.length/\s.heap.get? l=some { cls:=.type "list",data:=.seq its.toArray n }:=by obtain⟨z,its,n,r,e⟩:=I.hok l _ a;exact⟨z,its,n,r,r.length,e⟩
def aTo (h:n<=sizeLine):Builtin.List.listTooLong n=false:=by unfold Builtin.List.listTooLong;exact j6 (by lia)
end
section
variable {X:Cx}
def aHw:V->List V->Hp->VK->Prop:=λx vs H Q=>∃l xs y,x=.ref l/\vs=[y]/\H l=some (.lst xs)/\xs.length<sizeLine/\Q .non (upd H l (.lst (xs++[y])))
def aF5:MtM X "list.append" aHw:=by intro d s σ H x m v k Q I g f h;obtain⟨l,i,y,rfl,rfl,b,j,q⟩:=h;cases g;obtain⟨u,rfl,c⟩:=f.one;obtain⟨z,a,n,r,o,e⟩:=I.aMk b;refine call_meets F.slot_list_append ⟨_,e,rfl⟩ F.entry_list_append (F.args_list_append_2 _ _) (PySem.list_append l a.toArray n u (by rw[m9];lia)) ⟨e,?_⟩;refine⟨.non,_,I.lset (its':=a++[u]) b e (by simp) (r.append (.cons c .nil)) ?_,rfl,q⟩;rw[j4,bBA];lia
def aOu:V->List V->Hp->VK->Prop:=λx vs H Q=>∃l b xs zs,x=.ref l/\vs=[.ref b]/\H l=some (.lst xs)/\H b=some (.lst zs)/\xs.length+zs.length<=sizeLine/\Q .non (upd H l (.lst (xs++zs)))
def aRo:MtM X "list.extend" aOu:=by
 intro i s σ H x G v E Q I k j h;obtain⟨l,b,B,D,rfl,rfl,g,w,C,q⟩:=h;cases k;obtain⟨u,rfl,p⟩:=j.one;cases p;obtain⟨z,c,n,r,J,e⟩:=I.aMk g;obtain⟨A,a,o,y,t,m⟩:=I.aMk w;have f:c.toArray.size+a.toArray.size<=sizeLine:=by rw[m9,m9];lia
 have d:¬ (!c.toArray.isEmpty && Builtin.List.listTooLong (c.toArray.size+a.toArray.size))=true:=by rw[aTo f,Bool.and_false];exact bAA
 refine call_meets F.slot_list_extend ⟨_,e,rfl⟩ F.entry_list_extend (F.args_list_extend_2 _ _)
  (AutoSeq1.list_extend_list_list_0 l c.toArray n b a.toArray o d (by rw[m9];lia) (by lia)) ⟨e,m,?_⟩
 refine⟨.non,_,I.lset (its':=c++a) g e (by simp) (r.append y) ?_,rfl,q⟩;rw[j4];lia
def bDv:V->List V->Hp->VK->Prop:=λx vs H Q=>∃l xs y,x=.ref l/\vs=[]/\H l=some (.lst xs)/\xs[xs.length - 1]?=some y/\Q y (upd H l (.lst xs.dropLast))
def bA8:MtM X "list.pop" bDv:=by
 intro g s σ H x w v t Q I j i h;obtain⟨l,p,y,rfl,rfl,d,m,q⟩:=h;cases j;have b:=i.zero;subst b;obtain⟨z,a,n,r,k,e⟩:=I.aMk d;obtain⟨u,o,f⟩:=r.get m;have c:a.toArray[a.toArray.size - 1]?=some u:=by show a.toArray[a.length - 1]?=some u;rw[<-bBG,<-k];exact o
 refine call_meets F.slot_list_pop ⟨_,e,rfl⟩ F.entry_list_pop (F.args_list_pop_1 _) (MeetsSeq.list_pop_last l a.toArray n u c (by rw[m9];lia)) ⟨e,?_⟩;refine⟨y,_,I.lset (its':=a.dropLast) d e ?_ r.dropLast ?_,f,q⟩
 ·rw[m9,List.eraseIdxIfInBounds_toArray,aM6]
 ·rw[List.length_dropLast];lia
def aKb:V->List V->Hp->VK->Prop:=λx vs H Q=>∃l xs,x=.ref l/\vs=[]/\H l=some (.lst xs)/\Q .non (upd H l (.lst xs.reverse))
def aNv:MtM X "list.reverse" aKb:=by intro d s σ H x k v j Q I g f h;obtain⟨l,i,rfl,rfl,c,q⟩:=h;cases g;have b:=f.zero;subst b;obtain⟨z,a,n,r,m,e⟩:=I.aMk c;refine call_meets F.slot_list_reverse ⟨_,e,rfl⟩ F.entry_list_reverse (F.args_list_reverse_1 _) (AutoSeq1.list_reverse_list_0 l a.toArray n (by rw[m9];lia)) ⟨e,?_⟩;refine⟨.non,_,I.lset (its':=a.reverse) c e (by simp) r.reverse ?_,rfl,q⟩;rw[bBZ];lia
def bFa:R2:=λx y H Q=>∃l b xs zs,x=.ref l/\y=.ref b/\H l=some (.lst xs)/\H b=some (.lst zs)/\xs.length+zs.length<=sizeLine/\∀p,H p=none->Q (.ref p) (upd H p (.lst (xs++zs)))
def bCg:OpR X (binaryOp .Add) bFa:=by
 intro d s σ H x y v u Q I f j h;obtain⟨l,b,w,B,rfl,rfl,k,o,A,q⟩:=h;cases f;cases j;obtain⟨z,c,n,r,C,e⟩:=I.aMk k;obtain⟨t,a,D,p,m,i⟩:=I.aMk o;refine PySem.P.add_list e i ?_ (by rw[m9,m9];lia);have g:c.toArray++a.toArray=(c++a).toArray:=by simp
 rw[g];exact⟨.ref _,_,I.lnew (t':=s.toks) (r.append p) (by rw[j4];lia),rfl,q _ I.fresh⟩
def len_rep {α:Type}(xs:List α)(k:Nat):(List.replicate k xs).flatten.length=k * xs.length:=by
 induction k with
 |zero=>simp
 |succ k ih=>rw[bDA,bBQ,j4,ih,Nat.succ_mul,Nat.add_comm]
end
section
variable {prog:Program}{w:World}{A:Around}{E:bFD}{s:Shared}
end
section
variable {X:Cx}
end
end L2
namespace Att
open PySem PySem.W PySem.Calls PyProof.Rows
def aBu:∀ns vs,WellAll P h vs (ns.map WData.int)->IntsAre vs ns:=by
 intro ns
 induction ns with
 |nil=>intro vs w;rw[List.map_nil] at w;cases w;exact .nil
 |cons n ns ih=>
  intro vs w;rw[bAB] at w;cases w with
  |cons a b=>cases a;exact .cons _ _ (ih _ b)
def aQm {l:OpenLaw}{n:Nat}(hn:l.most=some n){P:Params}{h:Heap}{args:List WData}{vals:List Value}
  (b:l.row.toRowW.claim.pre args=true) (j:WellAll P h vals args) :
  ∃a vs ns,vals=[Value.ref a]/\args=[WData.list (ns.map WData.int)]/\h.get? a=some { cls:=.type "list",data:=.seq vs.toArray }/\IntsAre vs ns/\ns.length<=n:=by
 have g:WShape.hasAll [] args [.list .int]=true:=(pre_splitW b).1;have i:l.pre.holds [] { args:=args }=true:=(pre_splitW b).2;obtain⟨d,r,rfl,p,m⟩:=hasAllW_cons g;obtain rfl:=hasAllW_nil m;obtain⟨s,rfl,k⟩:=hasW_list p;obtain⟨ns,rfl⟩:=items_int k;have c:ns.length<=n:=by
  unfold OpenLaw.pre at i;have e:(WTm.not (.lt (.lit (.int (n:Int))) (.len (.arg 0)))).holds [] { args:=[.list (ns.map .int)] }=true:=by have e:=(holds_andW i).1;rw[hn] at e;exact e
  have f:=condW_of e (w_not (w_lt w_lit (w_len_list (w_arg rfl))));rw[d7] at f;refine Nat.le_of_not_lt λq=>?_;have o:(n:Int)<((ns.length:Nat):Int):=by lia
  first
   |(rw[v7 o] at f;exact absurd f (by decide))
   |(simp at f;lia)
 cases j with
 |cons w1 w2=>
  cases w2;cases w1 with
  |list ho hall=>exact⟨_,_,ns,rfl,rfl,ho,aBu ns _ hall,c⟩
def aQc (l:OpenLaw)(args:List WData):l.row.toRowW.claim.post args (.bool true) args=true:=
 postW_of
  (show WShape.has [] (.bool true) .bool=true by first|rfl|decide|simp[WShape.has,WShape.arms,WShape.armsAll])
  (show (WTm.eq .res (.lit (.bool true))).value [] { args:=args,res:=some (.bool true),after:=args }=some (.bool (true == true)) from w_eq_bool (w_res rfl) w_lit) rfl
def aLf {l:OpenLaw}{n:Nat}{q:Program}{loose:List Str}{XP:(bFF)->Heap->Prop}{YP:World->Heap->Prop}{d:DefRec}
  (hn:l.most=some n) (z:d.params.defaults=[])
  (k:∀(w:World) (s₀ s₁:Shared) (mg mb:bFF) (fa:Addr) (o:Obj) (pm cd doc:Value) (a:Addr) (vs:List Value) (ns:List Int),
   Ground q loose [] XP w s₀ mg mb s₁.heap->YP w s₁.heap ->
   s₁.heap.get? fa=some o->o.data=.func (docDef d.name d.params d.body d.scope pm cd doc)->s₁.heap.CodeRec cd d.name->mg d.name=some (.ref fa) ->
   s₁.heap.get? a=some { cls:=.type "list",data:=.seq vs.toArray }->IntsAre vs ns->ns.length<=n->s₁.gens=#[] ->
   codeAny (model l.prog w) callerA (.call (.ref fa) ⟨[.ref a],[]⟩) (λr s'=>r=.ok (.ret (.bool true))/\OldK s₁.heap s'.heap/\s'.os=s₁.os/\AllBare s'.gens) s₁) :
  WalkO q loose XP YP l.row.toRowW d [] (λf vs=>PySem.call f vs):=by
 intro w s₀ s₁ mg mb G Y fa o pm cd doc B kV A u i t h x p s I e m y j H;obtain rfl:B=.none:=Dflts.none t z;obtain rfl:kV=.none:=Dflts.noKw t;obtain⟨a,vs,ns,rfl,rfl,c,b,g⟩:=aQm hn e j;refine enter_call (bDG (k w s₀ s₁ mg mb fa o pm cd doc a vs ns G Y A (fd_plain u) i h c b g x) λr s' E=>?_);obtain⟨rfl,D,C,v⟩:=E;exact⟨.inl ⟨.bool true,.bool true,[],rfl,λ_=>rfl,.bool true,aQc l _,λ_=>⟨List.Pairwise.nil,λ_ F=>(nomatch F)⟩⟩,D,C,v⟩
section
variable {prog:Program}{w:World}{A:Around}{E:bFD}{s:Shared}{K:Frag}
end
end Att
namespace L2
open PySem PySem.Spec PyProof.Rows
theorem aFl:∀{vs:List Value} {ns:List Int},IntsAre vs ns->Vals (ns.map V.int) vs
 |_,_,.nil=>.nil
 |_,_,.cons n t h=>.cons ⟨t,rfl⟩ (aFl h)
def Only (H:Hp):Prop:=∀b,H b=none\/∃o xs,H b=some (.frz o (.lst xs))
def aVk {P:Program}{w:World}{K:bFC}{mg mb:bFF}{CX:CXT}{k:Nat}{fa a:Addr}{fd:FuncData}{x:Str}{sp:Sp}{f:Shared}{vs:List Value}{ns:List Int}
  (KX:K.In f.heap) (G:f.heap.Ns mainGlobals mg) (g:f.heap.Ns builtinsNs mb) (a0:∀x:Str,x≠"__name__"->mb x=bootBuiltins x) (R:f.heap.NoLimit) (hg:f.gens=#[])
  (I:f.heap.get? a=some { cls:=.type "list",data:=.seq vs.toArray }) (hi:IntsAre vs ns) (X:ns.length<=sizeLine) (hr:Room k callerA)
  (F:∀base:Heap,K.In base->base.Ns mainGlobals mg->gJ P w K mg base CX k fa fd [x] sp) (L:∀(s:Shared) (u:Value),BindsTo s fd ⟨[u],[]⟩ [(x,u)])
  (a1:∀H:Hp,Only H->SqL K H a (ns.map V.int)->sp [.ref a] H (λv _=>v=.bl true) λ_ _ _=>False)
  (W:∀H e s',CX [] H f (λ_ _ _=>False) e s'->False) :
  codeAny (model P w) callerA (.call (.ref fa) ⟨[.ref a],[]⟩) (λr s'=>r=.ok (.ret (.bool true))/\OldK f.heap s'.heap/\s'.os=f.os/\AllBare s'.gens) f:=by
 have O:=aFl hi;have y:=hi.length;have j:∀H:Hp,Only H->SqL K H a (ns.map V.int)->HOk P w H f.heap->(∀b,H b≠none->b=a)->(H a≠none->K.lookup a=none) ->
   codeAny (model P w) callerA (.call (.ref fa) ⟨[.ref a],[]⟩) (λr s'=>r=.ok (.ret (.bool true))/\OldK f.heap s'.heap/\s'.os=f.os/\AllBare s'.gens) f:=by
  intro H N hS l Q Y;have c:∀{b:Addr} {o:Obj},f.heap.get? b=some o->H b=none->(aI7 f.heap H).get? b=some o:=λe n=>aS6 e n;have J:∀{b:Addr} {o:Obj} {D:Array DictEntry} {C:Nat},f.heap.get? b=some o->o.data=.dict D C->H b=none:=λ{b o D C} e d=>by
   cases q:H b with
   |none=>rfl
   |some u=>have M:=Q b (by rw[q];simp);subst M;rw[I] at e;cases e;have d':=d;cases d'
  have i:∀{b:Addr} {m:bFF},f.heap.Ns b m->(aI7 f.heap H).Ns b m:=λ{b m} ⟨o,D,C,e,d,r⟩=>⟨o,D,C,c e (J e d),d,r⟩;have B:K.In (aI7 f.heap H):=λb o e=>c (KX b o e) (by
   cases q:H b with
   |none=>rfl
   |some u=>have M:=Q b (by rw[q];simp);subst M;rw[Y (by rw[q];simp)] at e;cases e)
  have hM:Mod K mg (aI7 f.heap H):=⟨B,i G,⟨mb,i g,a0⟩,let ⟨mc,h1,h2⟩:=R;⟨mc,i h1,h2⟩⟩;have e0:aOk P w K mg (aI7 f.heap H) callerA [] f H:=⟨rfl,hM,λb o e=>aXq e,Nat.le_of_eq (aR1 _ _),trivial,λb g=>absurd (show b∈([]:List Addr) from g) (by simp),l,.of_eq hg⟩;refine bDG ((F _ B (i G)).run callerA [] f H ⟨[.ref a],[]⟩ [.ref a] [.ref a] _ _ hr e0 (L f (.ref a)) (.cons rfl .nil) (a1 H N hS)) λr s' h=>?_;cases r with
  |error e=>exact (W H e s' h).elim
  |ok fl=>
   cases fl with
   |next=>exact False.elim h
   |brk=>exact False.elim h
   |cont=>exact False.elim h
   |ret u=>
    obtain⟨v,H',os,t,T,A,r',q⟩:=h;have q':=q;subst q';obtain rfl:u=Value.bool true:=r';refine⟨rfl,OldK.of_keep λb o e=>?_,os,t⟩;cases q:H b with
    |none=>exact T.keep b o e q (by intro z;exact absurd (show b∈([]:List Addr) from z) (by simp)) (by simp)
    |some u=>
     rcases N b with z|⟨ob,xs,z⟩
     ·rw[q] at z;cases z
     ·have U:=T.frzs b ob _ z;obtain⟨S,_⟩:=l b _ z;obtain⟨Z,_⟩:=A b _ U;rw[e] at S;cases S;exact Z
 cases E:K.lookup a with
 |some o=>have e:=KX a o E;rw[I] at e;cases e;refine j (λ_=>none) (λ_=>.inl rfl) (.inr ⟨_,vs.toArray,_,E,rfl,rfl,rfl,by rw[m9,y];exact X,by simpa using O⟩) (λb u z=>by have p:=z;cases p) (λb z=>absurd rfl z) λz=>absurd rfl z
 |none=>
  refine j (λb=>if b=a then some (.frz { cls:=.type "list",data:=.seq vs.toArray } (.lst (ns.map V.int))) else none) (λb=>?_) (.inl (.inr ⟨{ cls:=.type "list",data:=.seq vs.toArray },if_pos rfl⟩)) (λb u z=>?_) (λb z=>?_) λ_=>E
  ·by_cases g:b=a
   ·exact .inr ⟨_,_,if_pos g⟩
   ·exact .inl (if_neg g)
  ·by_cases g:b=a
   ·have p:=(if_pos g).symm.trans z;cases p;subst g;exact⟨I,by rw[d7];exact X,vs,_,O,I⟩
   ·have p:=(if_neg g).symm.trans z;cases p
  ·by_cases g:b=a
   ·exact g
   ·exact absurd (if_neg g) z
abbrev KOf {K:bFC}{h:Heap}(_:K.In h):bFC:=K
def aWh {l:PySem.W.OpenLaw}{n k:Nat}{q:Program}{loose:List Str}{XP:(bFF)->Heap->Prop}{YP:World->Heap->Prop}{d:DefRec}{K:Params->bFC}{CX:World->CXT}{sp:World->Sp}{x:Str}
  (hn:l.most=some n) (A:n<=sizeLine) (D:d.params.defaults=[]) (P:Room k callerA)
  (O:∀(w:World) (h:Heap),YP w h->(K w.params).In h)
  (F:∀(w:World) (mg:bFF) (fa:Addr) (h:Heap),(K w.params).In h->h.Ns mainGlobals mg->mg d.name=some (.ref fa) ->
   ∃fd:FuncData,(∀(s:Shared) (u:Value),BindsTo s fd ⟨[u],[]⟩ [(x,u)]) /\
    ∀base:Heap,(K w.params).In base->base.Ns mainGlobals mg->gJ l.prog w (K w.params) mg base (CX w) k fa fd [x] (sp w))
  (I:∀(w:World) (H:Hp) (a:Addr) (ns:List Int),ns.length<=n->Only H->SqL (K w.params) H a (ns.map V.int)->sp w [.ref a] H (λv _=>v=.bl true) λ_ _ _=>False)
  (t:∀(w:World) (H:Hp) (s:Shared) (e:Value) (s':Shared),CX w [] H s (λ_ _ _=>False) e s'->False) :
  PySem.W.WalkO q loose XP YP l.row.toRowW d [] (λf vs=>PySem.call f vs):=by
 refine Att.aLf hn D λw M y mg S fa o U R C a vs ns G Y Q N J m j i c z=>?_;have p:=O w _ Y;obtain⟨fd,B,E⟩:=F w mg fa _ p G.T.g m;exact aVk p G.T.g G.T.b G.T.builtins G.T.nolimit z j i (bAG c A) P E B (λH r L=>I w H a ns c r L) λH e s'=>t w H y e s'
def aTh {l:PySem.W.OpenLaw}{n k:Nat}{q:Program}{loose:List Str}{XP:(bFF)->Heap->Prop}{YP:World->Heap->Prop}{d:DefRec}{K:Params->bFC}{CX:CXT}{sp:bFC->Sp}{x:Str}
  (hn:l.most=some n) (b:n<=sizeLine) (c:d.params.defaults=[]) (p:Room k callerA)
  (r:∀(w:World) (h:Heap),YP w h->(K w.params).In h)
  (F:∀(w:World) (mg:bFF) (fa:Addr) (h:Heap),(K w.params).In h->h.Ns mainGlobals mg->mg d.name=some (.ref fa) ->
   ∃fd:FuncData,(∀(s:Shared) (u:Value),BindsTo s fd ⟨[u],[]⟩ [(x,u)]) /\
    ∀base:Heap,(K w.params).In base->base.Ns mainGlobals mg->gJ l.prog w (K w.params) mg base CX k fa fd [x] (sp (K w.params)))
  (i:∀(K:bFC) (H:Hp) (a:Addr) (ns:List Int),ns.length<=n->Only H->SqL K H a (ns.map V.int)->sp K [.ref a] H (λv _=>v=.bl true) λ_ _ _=>False)
  (g:∀(H:Hp) (s:Shared) (e:Value) (s':Shared),CX [] H s (λ_ _ _=>False) e s'->False) :
  PySem.W.WalkO q loose XP YP l.row.toRowW d [] (λf vs=>PySem.call f vs):=
 aWh hn b c p r F (λw H a ns o m j=>i (K w.params) H a ns o m j) λ_ H s e s'=>g H s e s'
def inClass (s:Stmt)(j:Nat):Stmt:=match s with
 |.ClassDef _ _ _ body _ _ _ _ _ _ _=>body.getD j (.Pass ⟨0,0,0,0⟩)
 |_=>.Pass ⟨0,0,0,0⟩
def kZ (s:Stmt):Arguments:=match s with
 |.FunctionDef _ a _ _ _ _ _ _ _ _=>a
 |_=>{ posonlyargs:=[],args:=[],vararg:=none,kwonlyargs:=[],kw_defaults:=[],kwarg:=none,defaults:=[] }
def eY (s:Stmt):List Stmt:=match s with
 |.FunctionDef _ _ b _ _ _ _ _ _ _=>b
 |_=>[]
def aD (s:Stmt):Scope:=match s with
 |.FunctionDef _ _ _ _ _ _ sc _ _ _=>sc
 |_=>{ kind:=.function,names:=[],isGenerator:=false,isCoroutine:=false }
abbrev CX0:CXT:=λ_ _ _ _ _ _=>False
abbrev E0:XK:=λ_ _ _=>False
def aCe:lX CX0 X E0:=λ_ _ _ _ _ _ _ h=>h.elim
structure Fun (K:bFC)(x qual:Str)(st:Stmt)(f:Addr)(fd:FuncData):Prop where
 ex:∃(oc:Value) (od:Option Addr) (kV doc pm:Value) (an:Option Addr) (cdv ct:Value) (osl:Array (Option Value)),
  fd=PySem.W.fnOf x qual (kZ st) (eY st) (aD st) .none kV doc pm an cdv ct/\K.lookup f=some ⟨oc,od,.func fd,osl⟩/\PySem.W.codeIn K cdv qual=true
 kp:PySem.W.keepIn K (.ref f)=true
section
variable {P:Program}{w:World}{K:bFC}{mg:bFF}{base:Heap}
def Fun.ok {x qual:Str}{st:Stmt}{f:Addr}{fd:FuncData}{N ps:List Str}{k:Nat}{sp:Sp}(F:Fun K x qual st f fd)(S:aN N ps (aD st))(g:∀vs H Q E,sp vs H Q E->vs.length=ps.length)
  (c:∀(cdv:Value) (A:Around) (outer:List Env) (s:Shared) (H:Hp) (vs:List V) (Q:VK) (E:XK),Room k (A.deeper (envOfC qual (aD st) s.heap.objs.size f cdv))->sp vs H Q E ->
   ∃t,PSs (xM CX0 P w K mg base N qual (aD st) f cdv A outer s H E).nox (eY st) t/\t { nx:=λ_ H'=>Q .non H',rt:=Q } (start N vs) H):gJ P w K mg base CX0 (k+1) f fd ps sp:=by
 obtain⟨o,p,kV,d,m,n,cdv,l,i,rfl,j,b⟩:=F.ex;refine aZa j b S g λA outer s H vs Q E e a=>?_;obtain⟨t,h,q⟩:=c cdv A outer s H vs Q E e a;exact⟨t,h.nox,q⟩
def Fun.binds {x qual:Str}{st:Stmt}{f:Addr}{fd:FuncData}{ps:List Str}(F:Fun K x qual st f fd)
  (h:∀(kV doc pm:Value) (an:Option Addr) (cdv ct:Value) (us:List Value),us.length=ps.length->bindArgs (PySem.W.fnOf x qual (kZ st) (eY st) (aD st) .none kV doc pm an cdv ct) ⟨us,[]⟩=pure (ps.zip us)):Binds K fd ps []:=by
 obtain⟨d,e,kV,doc,pm,an,cdv,ct,a,rfl,c,b⟩:=F.ex;exact .all (h kV doc pm an cdv ct)
def aAd {x qual:Str}{st:Stmt}{f:Addr}{h:Value}{i g:Option Addr}{d:Array (Option Value)}{kV b e a ct:Value}(l:K.lookup f=some ⟨h,i,.func (PySem.W.fnOf x qual (kZ st) (eY st) (aD st) .none kV b e g a ct),d⟩)
  (c:PySem.W.codeIn K a qual=true) (k:PySem.W.keepIn K (.ref f)=true):Fun K x qual st f (PySem.W.fnOf x qual (kZ st) (eY st) (aD st) .none kV b e g a ct):=⟨⟨h,i,kV,b,e,g,a,ct,d,rfl,l,c⟩,k⟩
end
def aLk (a:Room k A):A.units+1<cLine:=bCQ (Nat.add_le_add_left (by decide:1<=64) _) a.units
def dC (h:n<=1000):n<sizeLine:=bCQ h (by decide)
section
variable {X:Cx}
def pv (i:Nat)(d:X.N[i]?=some x:=by rfl)(c:Vis X.env.scope x:=by trivial)(b:(x == ("__debug__":Str))=false:=by decide)
  (a:(x == ("__classdict__":Str))=false:=by decide):PE X (.Name x pos) (lG i):=bCf d c b a
end
def aZ {A B:Prop}(h:B):if false=true then A else B:=by rw[if_neg bAA];exact h
def bQ {A B:Prop}(h:A):if true=true then A else B:=by rw[if_pos rfl];exact h
def pQ {c A B:Prop}[Decidable c](a:c->A)(b:¬ c->B):if c then A else B:=by
 by_cases h:c
 ·rw[if_pos h];exact a h
 ·rw[if_neg h];exact b h
def Same (H H':Hp):Prop:=∀b o,H b=some o->H' b=some o
def Same.refl (H:Hp):Same H H:=λ_ _ h=>h
def Same.trans (a:Same H H1)(b:Same H1 H2):Same H H2:=λc o h=>b c o (a c o h)
def Same.free (e:Same H H')(h:H' l=Option.none):H l=Option.none:=by
 cases q:H l with
 |none=>rfl
 |some o=>rw[e l o q] at h;cases h
def Same.seq {K:bFC}{H H':Hp}{a:Addr}{xs:List V}(e:Same H H')(h:SqL K H a xs):SqL K H' a xs:=by
 rcases h with (h|⟨o,h⟩)|h
 ·exact .inl (.inl (e _ _ h))
 ·exact .inl (.inr ⟨o,e _ _ h⟩)
 ·exact .inr h
end L2
namespace PySem
open Sem (wp)
section
variable {M:Model}{prog:Program}{w:World}{A:Around}{E:bFD}{R:Result->Shared->Prop}{h:Heap}{g:Array GenState}{d:Drawn}{t:Nat}{os:OsState}
variable {nm q:Str}{C N:Addr}{bs bm bmN:List Value}{hdct:Bool}{sn:List Str}{sub:List Value}{ab:Bool}{col:Option Bool}{dd:Option Addr}{k0 k1 k2 k3 k5:Option Value}{Bn newId inN:String}
def aKv (b:ExcBaseFacts Bn newId inN bmN)(f:bm.contains (.type Bn)=true){rest:List Value}{Q:Unit->Shared->Prop}(e:h.get? C=some (excClassObj nm q C N bs bm hdct sn sub ab col dd k0 k1 k2 k3 k5 newId))
  (i:Q () ⟨h,g,d,t,os⟩):wpAny M A (checkBuiltinCall newId ⟨.ref C::rest,[]⟩) Q E ⟨h,g,d,t,os⟩:=by
 have a:(Value.ref C::bm).contains (.type Bn)=true:=by rw[bBJ,f,bDH]
 have c:=b.noStar;simp only[checkBuiltinCall,b.newKind,b.newSplit,b.newRow]
 repeat (first|refine bBR e ?_|(refine bDB e ?_;rw[a])|refine wpAny_staticBase_exc e ?_|refine wpAny_madeBy_exc e ?_|simp only[bne_self_eq_false,bCR,if_false]|wp_step)
 exact i
def bEm (f:ExcBaseFacts Bn newId inN bmN)(k:bm.contains (.type Bn)=true)(l:bm.contains (.type "AttributeError")=false)(m:bm.contains (.type "NameError")=false){rest:List Value}(j:h.get? C=some (excClassObj nm q C N bs bm hdct sn sub ab col dd k0 k1 k2 k3 k5 newId))
  (n:R (.ok (.ret (.ref (h.objs.size+1)))) ⟨(h.push { cls:=.type "tuple",data:=.seq rest.toArray }).push
   { cls:=.ref C,data:=.fields #[.ref h.objs.size,.none,.none,.none,.bool false,.none] },g,d,t,os⟩) (hrest:rest.length<=sizeLine:=by size_fits) :
  codeAny (model prog w) A (.builtin newId ⟨.ref C::rest,[]⟩) R ⟨h,g,d,t,os⟩:=by
 have c:=f.ends;have a:(Value.ref C::bm).contains (.type Bn)=true:=by rw[bBJ,k,bDH]
 have b:(Value.ref C::bm).contains (.type "AttributeError")=false:=by rw[bBJ,l];rfl
 have i:(Value.ref C::bm).contains (.type "NameError")=false:=by rw[bBJ,m];rfl
 refine codeAny_builtinAt f.entry ?_;unfold Builtin.«BaseException.__new__»;refine wpAt_bind ?_;refine wpAt_bind (wpAt_stack λp e=>wpAt_of_wpAny ?_);wp_walk;refine wpAt_of_wpAny ?_;rw[f.owner]
 repeat (first|with_reducible refine wpAny_madeHere_exc f.canon j ?_|with_reducible refine bBR j ?_|(with_reducible refine bDB j ?_;first|rw[a]|rw[b]|rw[i])|wp_step)
 rw[bCH];exact n
end
end PySem
namespace L2
open PySem PySem.Spec PyProof.Rows
def aCq:List Value->Bool
 |.ref _::r=>aCq r
 |l=>l == [.type "ValueError",.type "Exception",.type "BaseException",.type "object"]
theorem xJ (a:Value):∀{l:List Value},aCq l=true->refuseLoop a "__setattr__" l=pure ()
 |[],e=>absurd e (by decide)
 |.ref c::r,e=>by rw[refuseLoop_ref];exact xJ a e
 |.none::r,e|.bool _::r,e|.int _ _::r,e|.str _ _::r,e|.float _ _::r,e|.bytes _ _::r,e|.builtin _::r,e|.type _::r,e=>by have q:=beq_iff_eq.mp e;rw[q];exact PySem.F.store_ValueError.passes a
structure XC (K:bFC)(C fI:Addr):Prop where
 at_:∃nm q N bs bm sn sub ab col dd k0 k1 k2 k3 k5,K.lookup C=some (excClassObj nm q C N bs bm true sn sub ab col dd k0 k1 k2 k3 k5 "ValueError.__new__")/\bm.contains (.type "ValueError")=true /\
  bm.contains (.type "AttributeError")=false/\bm.contains (.type "NameError")=false/\bm.contains (.type "BaseException")=true
 init:PySem.W.findIn K (.ref C) "__init__"=some (some (.ref fI))
 fn:PySem.W.typeIn K (.ref fI)=some (.type "function")
 row:(PySem.W.clsIn K C).any (λcd=>aCq cd.mro && cd.hasDict)=true
 sa:PySem.W.findIn K (.ref C) "__setattr__"=some (some (.builtin "object.__setattr__"))
 ga:PySem.W.findIn K (.ref C) "__getattribute__"=some (some (.builtin "BaseException.__getattribute__"))
 hook:PySem.W.findIn K (.ref C) "__getattr__"=some none
 act:PySem.W.findIn K (.ref C) "act"=some none
 cls:PySem.W.findIn K (.ref C) "__class__"=some (some (.builtin "object.__class__"))
section
variable {prog:Program}{w:World}{A:Around}{E:bFD}{h:Heap}{g:Array GenState}{d:Drawn}{t:Nat}{os:OsState}{K:bFC}{C fI:Addr}
def aJz (X:K.In h)(c:XC K C fI){a:List Value}{Q:Fin->Shared->Prop}
  (Y:∀h' e,Heap.MadeExcOf h h' e (.ref C) a->e=h.objs.size+1->h'.get? h.objs.size=some { cls:=.type "tuple",data:=.seq a.toArray } ->
   wpAny (model prog w) A (call (.ref fI) (.ref e::a)) (λr s'=>r=.none/\Q (.done (.ret (.ref e))) s') E ⟨h',g,d,t,os⟩) (m:a.length<=sizeLine) :
  wpAny (model prog w) A (Builtin.«type.__call__» ⟨.ref C::a,[]⟩) Q E ⟨h,g,d,t,os⟩:=by
 obtain⟨⟨M,q,N,U,H,R,D,S,z,P,V,J,Z,T,L,y,n,v,I,O⟩,G,u,_⟩:=c;have j:=X _ _ y;have F:=PySem.F.excBase_ValueError
 repeat (first|with_reducible refine bBR j ?_|with_reducible refine wpAny_madeBy_exc j ?_|wp_step)
 refine codeAny_call_builtin_code (Code.quiet_builtin _ F.quiet) (aKv F n j ?_);refine bEm F n v I j ?_ m;show wpAny _ _ _ _ _ _;have kp:∀b o,h.get? b=some o->((h.push { cls:=.type "tuple",data:=.seq a.toArray }).push { cls:=.ref C,data:=.fields #[.ref h.objs.size,.none,.none,.none,.bool false,.none] }).get? b=some o:=
  λb o e=>c7 _ (c7 _ e)
 have l:=kp _ _ j;have p:=X.keeps kp;have i:((h.push { cls:=.type "tuple",data:=.seq a.toArray }).push
   { cls:=.ref C,data:=.fields #[.ref h.objs.size,.none,.none,.none,.bool false,.none] }).get? (h.objs.size+1)=some
   { cls:=.ref C,data:=.fields #[.ref h.objs.size,.none,.none,.none,.bool false,.none] }:=by heap_get
 have f:((h.push { cls:=.type "tuple",data:=.seq a.toArray }).push
   { cls:=.ref C,data:=.fields #[.ref h.objs.size,.none,.none,.none,.bool false,.none] }).get? h.objs.size=some { cls:=.type "tuple",data:=.seq a.toArray }:=c7 _ (Heap.get?_push_at rfl rfl)
 have k:(Value.ref C::H).contains (.ref C)=true:=by simp
 unfold isInstance
 repeat (first|with_reducible refine bBR i ?_|(with_reducible refine bDB l ?_;rw[k])|wp_step)
 show wpAny _ _ (typeLookup (.ref C) _) _ _ _;refine (PySem.W.looks_findIn p G).at ?_;refine bBI (b7 ?_);unfold bindSpecial;refine b7 ((PySem.W.looks_typeIn p u).at ?_);rw[if_pos (by decide)];refine j8 (b7 (bBE (Y _ (h.objs.size+1) ⟨kp,bEM (bFA _),h.objs.size,i,bEM (j9 _),f⟩ rfl f) (λr s' B=>?_) λ_ _ x=>x));obtain⟨rfl,s⟩:=B;wp_walk;exact s
def x_call (X:K.In h)(c:XC K C fI)
  (L:∀h' e,Heap.MadeExcOf h h' e (.ref C) rest->e=h.objs.size+1->h'.get? h.objs.size=some { cls:=.type "tuple",data:=.seq rest.toArray } ->
   wpAny (model prog w) (A.under (.builtin "type.__call__" ⟨.ref C::rest,[]⟩)) (call (.ref fI) (.ref e::rest)) (λr s'=>r=.none/\Q (.ref e) s') E ⟨h',g,d,t,os⟩) (b:rest.length<=sizeLine) :
  wpAny (model prog w) A (call (.ref C) rest) Q E ⟨h,g,d,t,os⟩:=by
 obtain⟨v,q,N,D,F,O,i,s,f,G,J,o,M,x,p,k,z,y,H,B⟩:=c.at_;have a:=X _ _ k;have n:=tc_lookup;have u:=tc_bind (.ref C);have I:(⟨h,g,d,t,os⟩:Shared).TypeIs (.ref C) "type":=⟨_,a,rfl⟩;refine bDQ (codeAny_of_tree ?_)
 repeat (any_goals (first|assumption|with_reducible refine bBR a ?_|wp_step))
 refine⟨rfl,?_⟩;refine codeAny_call_builtin_at (Code.quiet_builtin _ (by trivial)) entry_typeCall (wpAny_check_type_call_sub a (aJz X c (λh' e m j l=>?_) b));exact L h' e m j l
end
def XO (e C:Addr)(d:Option Addr):HO:=.ext λh=>∃vs:Array Value,h.get? e=some { cls:=.ref C,dict:=d,data:=.fields vs }/\vs.size=6/\vs[1]?=some .none
def XO.at (x:HOk P w H h)(q:H e=some (XO e C d)):∃vs:Array Value,h.get? e=some { cls:=.ref C,dict:=d,data:=.fields vs }/\vs.size=6/\vs[1]?=some .none:=(x e _ q).1
def XO.ok (q:h.get? e=some { cls:=.ref C,dict:=d,data:=.fields vs })(z:vs.size=6)(n:vs[1]?=some .none):fQ P w H h e (XO e C d):=
 ⟨⟨vs,q,z,n⟩,⟨_,q⟩,λg i ⟨f,a,b,c⟩ k=>⟨f,k _ a,b,c⟩⟩
def aXf (K:bFC):PySem.W.findCls K (.type "ValueError") (.type "type") "__init__"=some (.val (.builtin "ValueError.__init__")):=
 show PySem.W.findCls [] (.type "ValueError") (.type "type") "__init__"=some (.val (.builtin "ValueError.__init__")) by kernel_rfl
section
variable {prog:Program}{w:World}{A:Around}{E:bFD}{s:Shared}{K:bFC}{C fI e:Addr}
def bCn (X:K.In s.heap)(c:XC K C fI)(m:s.heap.get? e=some { cls:=.ref C,dict:=dx,data:=.fields vs,slots:=sl })(v:0<vs.size)(J:vs[0]?=some u0)(M:rest.length<=sizeLine)
  (h:Q .none { s with heap:=(s.heap.push { cls:=.type "tuple",data:=.seq rest.toArray }).update e (Obj.mapFields (·.setIfInBounds 0 (.ref s.heap.objs.size))) }) :
  wpAny (model prog w) A (call (.builtin "ValueError.__init__") (.ref e::rest)) Q E s:=by
 obtain⟨D,q,N,S,u,L,p,O,o,I,U,y,V,R,B,l,r,G,T,H⟩:=c.at_;have k:=X _ _ l;have F:=PySem.F.excBase_ValueError;obtain⟨z,g,d,t,P⟩:=s;have j:(Value.ref C::u).contains (.type "ValueError")=true:=by rw[bBJ,r,bDH]
 refine bDQ (bCI F.init.plain F.initEntry ?_);have i:=F.noStar;simp only[checkBuiltinCall,F.initKind,F.initSplit,F.initRow]
 repeat (first|with_reducible refine bBR m ?_|with_reducible refine bBR k ?_|(with_reducible refine bDB k ?_;rw[j])|wp_step)
 refine bDZ ?_;rw[show ∀a b n,Bind.check ⟨.positional,"*","ValueError",.self,[⟨"args",.varPos,false⟩]⟩ a b n (List.map (λx=>x.fst) ({ pos:=Value.ref e::rest }:Args).kw)=pure () from
  λa b n=>check_star_args _ _ _ _ _ _]
 refine j8 ?_;unfold Builtin.«BaseException.__init__» newTuple;refine b7 (bAX ?_ (by show rest.toArray.size<=sizeLine;rw[m9];exact M));have f:=c7 { cls:=.type "tuple",data:=.seq rest.toArray } m;refine b7 ?_;unfold Builtin.BaseException.bexcPut;refine b7 (bAS f rfl J ?_);refine b7 (bCS f rfl v ?_)
 split
 ·exact wpAny_letGo (j8 h)
 ·exact j8 (j8 h)
end
open PySem PySem.Spec PyProof.Rows Builtin Builtin.ObjectAttr
section
variable {prog:Program}{w:World}{A:Around}{E:bFD}{s:Shared}{K:bFC}{C fI e:Addr}
def aXi (X:K.In s.heap)(c:XC K C fI){vs:Array Value}{v:Value}{Q:Unit->Shared->Prop}(k:s.heap.get? e=some { cls:=.ref C,data:=.fields vs })
  (hq:∀h' t',h'.get? e=some { cls:=.ref C,dict:=some s.heap.objs.size,data:=.fields vs }->h'.Ns1 s.heap.objs.size (λy=>if y = "act" then some v else none) ->
   (∀b o,b≠e->s.heap.get? b=some o->h'.get? b=some o)->Q () { s with heap:=h',toks:=t' }) :
  wpAny (model prog w) A (setAttr (.ref e) "act" v) Q E s:=by
 have I:PySem.W.InstAt s.heap e { cls:=.ref C,data:=.fields vs } C none:=⟨k,rfl,rfl,trivial⟩;refine PySem.W.set_plain X I c.sa ?_;obtain⟨U,L,u⟩:=PySem.W.any_some c.row;obtain⟨G,S⟩:=Bool.and_eq_true_iff.mp u;have i:=PySem.F.store_object;have SV:=PySem.F.store_ValueError;have V:PySem.W.Looks (model prog w) s.heap (mroOf (.ref C)) U.mro:=(PySem.W.looks_clsIn X L).andThen .now;have f:∀{l:List Value},aCq l=true->l.contains (.type "object")=true/\l.isEmpty=false:=by
  intro l
  induction l with
  |nil=>intro z;exact absurd z (by decide)
  |cons a r ih=>
   intro z;refine⟨?_,rfl⟩;cases a with
   |ref x=>rw[bBJ,(ih z).1,bDH]
   |_=>have q:=beq_iff_eq.mp z;rw[q];decide +kernel
 have H:PySem.W.Looks (model prog w) s.heap (isInstance (.ref e) (.type "object")) true:=I.type.andThen (PySem.W.looks_mroIn X (by unfold PySem.W.mroIn;rw[L,bBC,if_neg (by rw[(f G).2];decide),(f G).1]));refine bCI i.slot.plain i.entry (@PySem.W.check_slot (model prog w) _ _ { s with toks:=s.toks+1 } "object.__setattr__" "object" "__setattr__" (.ref e) [.str "act" s.toks,v] [] _ i.kind i.split H (i.args (.ref e) (.str "act" s.toks) v) ?_);rw[PySem.W.osa_eq,refuse_eq];refine b7 (b7 (I.type _ _ _ _ (λ_ _ e=>e) (b7 (V _ _ _ _ (λ_ _ e=>e) ?_))));rw[xJ _ G];refine j8 (b7 (I.type _ _ _ _ (λ_ _ e=>e) (b7 (PySem.W.looks_findIn X c.act _ _ _ _ (λ_ _ e=>e) (b7 ?_)))));refine j8 ?_;dsimp only;obtain⟨h,g,d,t,Y⟩:=s;dsimp only at *;unfold storeInOwnDict;have m:e≠h.objs.size:=bAF (z9 k);have n:(h.push { cls:=.type "dict",data:=.dict #[] }).get? e=some { cls:=.ref C,data:=.fields vs }:=c7 _ k;refine b7 (j8 (b7 ?_));unfold ownDictForStores instanceDict;refine b7 (wpAny_loadPart k ?_);dsimp only;refine b7 ((PySem.W.looks_clsIn X L) _ _ _ _ (λ_ _ e=>e) ?_);rw[S,if_neg (by decide),if_neg (by simp[typeHasDict])];refine b7 (wpAny_alloc' ?_);refine b7 (wpAny_update' n ?_);refine j8 ?_;have M:((h.push { cls:=.type "dict",data:=.dict #[] }).update e λo=>{ cls:=o.cls,dict:=some h.objs.size,data:=o.data,slots:=o.slots }).get? h.objs.size
   = some { cls:=.type "dict",data:=.dict #[] }:=
  (Heap.get?_update_ne _ _ _ _ m.symm).trans (Heap.get?_push_at rfl rfl)
 have J:((h.push { cls:=.type "dict",data:=.dict #[] }).update e λo=>{ cls:=o.cls,dict:=some h.objs.size,data:=o.data,slots:=o.slots }).Ns h.objs.size (λ_=>none):=
  ⟨_,#[],_,M,rfl,λe k=>absurd k (by simp),λ_=>rfl⟩
 show wpAny _ _ (storeInDict h.objs.size (.str "act" _) "act" v) _ _ _;unfold storeInDict newKeyGuard;refine b7 (j8 (b7 (wpAny_nsSet1 (Heap.Ns1.of_empty J) λh' j O=>?_)));obtain⟨Z,T,R,p,B,N⟩:=j.count (Within.cons "act" v Within.nil);refine b7 (wpAny_lookBehind p (by rw[B];exact pastItsLine_dict (bAG N (by rw[d9,bCL,sizeLine_eq];lia))) ?_);refine j8 ?_;refine hq h' _ ?_ j λb ob D P=>(O.2 b (bAF (z9 P))).trans ((Heap.get?_update_ne _ _ _ _ D).trans (c7 _ P));exact (O.2 e m).trans (bBF _ n rfl)
def x_load (X:K.In s.heap)(c:XC K C fI){vs:Array Value}{dx:Addr}{v:Value}{mA:bFF}{o:Bool}{Q:bFD}(D:s.heap.get? e=some { cls:=.ref C,dict:=some dx,data:=.fields vs })
  (hn:s.heap.Ns1 dx mA) (hv:mA "act"=some v) (Z:PySem.W.handedIn v=true) (hq:Q v { s with toks:=s.toks+1 }) :
  wpAny (model prog w) A (getAttr (.ref e) "act" o) Q E s:=by
 obtain⟨L,a,f⟩:=PySem.W.any_some c.row;obtain⟨ho,p⟩:=Bool.and_eq_true_iff.mp f;obtain⟨h,g,d,t,J⟩:=s;have i:(Value.builtin "BaseException.__getattribute__" == Value.builtin "object.__getattribute__")=false:=by trivial
 have T:PySem.W.Looks (model prog w) h (typeOf (.ref e)) (.ref C):=(PySem.W.Looks.ld D).andThen .now;unfold getAttr;refine b7 (wpAny_mkText ?_);unfold getAttrBy;refine bBI (b7 (T.at (b7 ((PySem.W.looks_findIn X c.ga).at ?_))));dsimp only;rw[show (onTheHeap (Value.ref C) && Value.builtin "BaseException.__getattribute__" == Value.builtin "object.__getattribute__")=false by rw[i];rfl,if_neg (by decide)];unfold getAttrByItsOwn hookBefore;rw[if_pos (show onTheHeap (Value.ref C)=true from rfl)];refine b7 ((PySem.W.looks_findIn X c.hook).at (b7 (bEA (bBI ?_))));unfold callGetattribute;rw[show (o && onTheHeap (Value.builtin "BaseException.__getattribute__"))=false from Bool.and_false _,if_neg (by decide)];unfold boundAndCalled;have n:=PySem.F.attr_ValueError.ga;rw[n.bind];refine b7 (j8 ?_);show wpAny _ _ (call (.builtin "BaseException.__getattribute__") [.ref e,.str "act" t]) _ _ _;obtain⟨V,q,N,bs,O,sn,M,ab,G,dd,k0,R,k2,k3,S,z,hB,Y,hN,x⟩:=c.at_;have j:L.mro=.ref C::O:=by unfold PySem.W.clsIn at a;rw[z] at a;cases a;rfl
 have H:PySem.W.Looks (model prog w) h (isInstance (.ref e) (.type "BaseException")) true:=T.andThen (PySem.W.looks_mroIn X (by unfold PySem.W.mroIn;rw[a,bBC,j,if_neg (by simp),bBJ,x,bDH]));refine bDQ (bCI n.plain PySem.F.entry_bexc_ga (@PySem.W.check_slot (model prog w) _ _ ⟨h,g,d,t+1,J⟩ "BaseException.__getattribute__" "BaseException" "__getattribute__" (.ref e) [.str "act" t] [] _ (by trivial) (by trivial) H (PySem.F.args_bexc_ga (.ref e) (.str "act" t)) ?_));obtain⟨m,es,U,l,k,-,-,r⟩:=hn;have I:PySem.W.InstAt h e { cls:=.ref C,dict:=some dx,data:=.fields vs } C (some m):=⟨D,rfl,rfl,l⟩;have u:PySem.W.lookIn "act" m=some (some v):=by have q:=(r "act").trans hv;unfold nsFind findBy at q;rw[<-Array.find?_toList] at q;unfold PySem.W.lookIn;rw[k];dsimp only;obtain⟨P,B,y⟩:=Option.map_eq_some_iff.mp q;rw[B];dsimp only;rw[y]
 have b:PySem.W.findObj K C (some m) "act"=some (.value v):=by unfold PySem.W.findObj;rw[a,bBC,c.act,bBC];dsimp only;rw[bBC,bBC];unfold PySem.W.ownOf;rw[p,if_pos rfl];dsimp only;rw[u];rfl
 refine b7 (j8 (b7 (j8 (b7 (T.at (b7 ((PySem.W.looks_find X I b).at ?_)))))));refine j8 ?_;show wpAny _ _ (handedOut v) _ _ _;rw[PySem.W.handedOut_of Z];exact j8 hq
def aY1 (c:XC K C fI):∃cd bm,PySem.W.clsIn K C=some cd/\cd.mro=.ref C::bm/\bm.contains (.type "BaseException")=true/\aCq cd.mro=true/\cd.hasDict=true/\bm.contains (.type "AttributeError")=false:=by obtain⟨cd,a,b⟩:=PySem.W.any_some c.row;obtain⟨f,e⟩:=Bool.and_eq_true_iff.mp b;obtain⟨n,q,N,r,bm,w,g,m,d,s,u,k,v,o,l,j,p,h,t,i⟩:=c.at_;refine⟨cd,bm,a,?_,i,f,e,h⟩;unfold PySem.W.clsIn at a;rw[j] at a;cases a;rfl
theorem aGa:∀{l:List Value},aCq l=true->l.contains (.type "object")=true
 |[],e=>absurd e (by decide)
 |.ref c::r,e=>by rw[bBJ,aGa (l:=r) e,bDH]
 |.none::r,e|.bool _::r,e|.int _ _::r,e|.str _ _::r,e|.float _ _::r,e|.bytes _ _::r,e|.builtin _::r,e|.type _::r,e=>by have q:=beq_iff_eq.mp e;rw[q];decide +kernel
def aYg (X:K.In s.heap)(c:XC K C fI){vs:Array Value}{dx:Option Addr}{Q:Option Value->Shared->Prop}(l:s.heap.get? e=some { cls:=.ref C,dict:=dx,data:=.fields vs })(y:∀a,dx=some a->∃o,s.heap.get? a=some o)
  (G:Q (some (.ref C)) { s with toks:=s.toks+1 }):wpAny (model prog w) A (getAttr? (.ref e) "__class__") Q E s:=by
 obtain⟨z,D,j,p,x,u,v,B⟩:=aY1 c;obtain⟨h,g,d,t,n⟩:=s;have i:(Value.builtin "BaseException.__getattribute__" == Value.builtin "object.__getattribute__")=false:=by trivial
 have T:PySem.W.Looks (model prog w) h (typeOf (.ref e)) (.ref C):=(PySem.W.Looks.ld l).andThen .now;unfold getAttr? getAttrBy?;refine b7 (wpAny_mkText (b7 (bEA ?_)));unfold getAttrBy;refine bBI (b7 (T.at (b7 ((PySem.W.looks_findIn X c.ga).at ?_))));dsimp only;rw[show (onTheHeap (Value.ref C) && Value.builtin "BaseException.__getattribute__" == Value.builtin "object.__getattribute__")=false by rw[i];rfl,if_neg (by decide)];unfold getAttrByItsOwn hookBefore;rw[if_pos (show onTheHeap (Value.ref C)=true from rfl)];refine b7 ((PySem.W.looks_findIn X c.hook).at (b7 (bEA (bBI ?_))));unfold callGetattribute;rw[show (false && onTheHeap (Value.builtin "BaseException.__getattribute__"))=false from rfl,if_neg (by decide)];unfold boundAndCalled;have m:=PySem.F.attr_ValueError.ga;rw[m.bind];refine b7 (j8 ?_);show wpAny _ _ (call (.builtin "BaseException.__getattribute__") [.ref e,.str "__class__" t]) _ _ _;have r:PySem.W.Looks (model prog w) h (isInstance (.ref e) (.type "BaseException")) true:=T.andThen (PySem.W.looks_mroIn X (by unfold PySem.W.mroIn;rw[j,bBC,p,if_neg (by simp),bBJ,x,bDH]));refine bDQ (bCI m.plain PySem.F.entry_bexc_ga (@PySem.W.check_slot (model prog w) _ _ ⟨h,g,d,t+1,n⟩ "BaseException.__getattribute__" "BaseException" "__getattribute__" (.ref e) [.str "__class__" t] [] _ (by trivial) (by trivial) r (PySem.F.args_bexc_ga (.ref e) (.str "__class__" t)) ?_));have I:∃k,PySem.W.InstAt h e { cls:=.ref C,dict:=dx,data:=.fields vs } C k:=by
  cases dx with
  |none=>exact⟨none,l,rfl,rfl,trivial⟩
  |some a=>obtain⟨o,q⟩:=y a rfl;exact⟨some o,l,rfl,rfl,q⟩
 obtain⟨k,I⟩:=I;have f:PySem.W.findObj K C k "__class__"=some (.bind (.builtin "getset_descriptor.__get__") (.builtin "object.__class__")):=by unfold PySem.W.findObj;rw[j,bBC,c.cls,bBC];dsimp only;rw[show PySem.W.specialIn K (.builtin "object.__class__") "__get__"=some (some (.builtin "getset_descriptor.__get__")) from show PySem.W.specialIn [] (.builtin "object.__class__") "__get__"=some (some (.builtin "getset_descriptor.__get__")) by trivial,bBC];dsimp only;rw[show PySem.W.takesIn K (.builtin "object.__class__")=some true from show PySem.W.takesIn [] (.builtin "object.__class__")=some true by trivial,bBC]
 refine b7 (j8 (b7 (j8 (b7 (T.at (b7 ((PySem.W.looks_find X I f).at ?_)))))));have b:PySem.W.mroIn K C (.type "object")=some true:=by unfold PySem.W.mroIn;rw[j,bBC,if_neg (by rw[p];simp),aGa u]
 refine b7 (bBI (bDQ (PySem.W.class_get (s:=⟨h,g,d,t+1,n⟩) X I b ?_)));exact j8 (j8 (j8 G))
def aG9 (X:K.In s.heap)(c:XC K C fI){vs:Array Value}{dx:Option Addr}{D:Value}{b:Bool}{Q:Fin->Shared->Prop}(y:s.heap.get? e=some { cls:=.ref C,dict:=dx,data:=.fields vs })(O:∀a,dx=some a->∃o,s.heap.get? a=some o)
  (hD:PySem.W.Looks (model prog w) s.heap (typeOf D) (.type "type")) (Y:PySem.W.Looks (model prog w) s.heap (isType D) true) (m:PySem.W.mroIn K C D=some b) (I:∀t,Q (.done (.ret (.bool b))) { s with toks:=t }) :
  wpAny (model prog w) A (Builtin.«isinstance.nested» ⟨[.ref e,D,rawInt 0],[]⟩) Q E s:=by
 obtain⟨cd,H,G,p,U,ho,u,S⟩:=aY1 c;have i:PySem.W.mroIn K C (.ref C)=some true:=by unfold PySem.W.mroIn;rw[G,bBC,if_neg (by rw[p];simp),p];simp
 obtain⟨h,g,d,t,n⟩:=s;have T:PySem.W.Looks (model prog w) h (typeOf (.ref e)) (.ref C):=(PySem.W.Looks.ld y).andThen .now;have k:=PySem.W.looks_mroIn (M:=model prog w) X m;have F:PySem.W.Looks (model prog w) h (isInstance (.ref e) D) b:=T.andThen k;unfold Builtin.«isinstance.nested»;refine b7 (T.at ?_);by_cases q:(Value.ref C == D)=true
 ·rw[if_pos q];have x:=beq_iff_eq.mp q;subst x;rw[i] at m;cases m;exact b7 (bEE (b7 (j8 (j8 (I t)))))
 ·rw[if_neg q];refine b7 (hD.at ?_);rw[if_pos (by decide)];have P:∀{j:Bool->Shared->Prop} {r:bFD} {l:Around},(∀t,j b ⟨h,g,d,t,n⟩)->wpAny (model prog w) l (do
    if !(<-isType D) then
     if <-Builtins.hasBases D then unsupported "isinstance:class-by-__bases__"
     rule "isinstance.not-a-class";raiseError "TypeError" "isinstance() arg 2 must be a type, a tuple of types, or a union"
    if <-isInstance (.ref e) D then return true
    let some c <-getAttr? (.ref e) "__class__"|return false
    if !(<-isType c) then return false
    rule "isinstance.by-__class__";isSubtype c D) j r ⟨h,g,d,t,n⟩:=by
   intro j r l f;refine b7 (Y.at ?_);rw[if_neg (by decide)];refine b7 (F.at ?_);cases b with
   |true=>rw[if_pos rfl];exact j8 (f t)
   |false=>
    rw[if_neg (by decide)];refine b7 (aYg X c y O ?_);dsimp only;have tC:PySem.W.Looks (model prog w) h (isType (.ref C)) true:=by obtain⟨R,q,N,bs,H,Z,B,ab,z,V,k0,J,k2,k3,L,v,-⟩:=c.at_;exact (PySem.W.Looks.ld (X _ _ v)).andThen .now
    refine b7 (tC _ _ _ _ (λ_ _ e=>e) ?_);rw[if_neg (by decide)];exact b7 (bEE (k _ _ _ _ (λ_ _ e=>e) (f _)))
  exact b7 (P λt=>j8 (I t))
end
section
variable {M:Model}{A:Around}{E:bFD}{s:Shared}{base:Heap}{env:Env}{outer:List Env}{L e:Addr}
def aPq (z:A.frames=some (env::outer))(B:s.heap.FunFrames base (env::outer))(F:env.frame=some L)
  (x:s.heap.get? e=some oe) (w:oe.data=.fields vs) (D:1<vs.size)
  (h:∀h',(∀b o,b≠e->b∉frs (env::outer)->s.heap.get? b=some o->h'.get? b=some o)->(∀b o,b≠e->s.heap.get? b=some o->∃sl,h'.get? b=some { o with slots:=sl }) ->
   h'.get? e=some (oe.mapFields (·.setIfInBounds 1 (.ref s.heap.objs.size)))->(∃oT ts,h'.get? s.heap.objs.size=some oT/\oT.data=.fields ts/\3<ts.size)->Q () { s with heap:=h' }) :
  wpAny M A (do let a <-frameOf env;let pl <-entryPlaceOf L hadNext;let b <-EntryCells.newEntry head a .none (rawInt L) .none pl;setField (.ref e) 1 b) Q E s:=by
 have k:e∉(env::outer).filterMap (·.frame):=λC=>by obtain⟨_,o,m,p⟩:=B.mem C;rw[x] at m;injection m with m;subst m;exact p vs w
 refine b7 (wpAny_frameOf_fun z B F λg c=>?_);refine b7 (wpAny_entryPlaceOf λpl u=>?_);unfold EntryCells.newEntry newFields;refine b7 (bAX ?_ (u.sizeOk5 _ _ _ _ _));have l:=(c.2.1 e k).trans x;have j:=c7 { cls:=.type "traceback",dict:=none,data:=.fields ([head,.ref L,.none,rawInt L,.none]++(if pl.isEmpty then List.replicate 6 Value.none else pl)).toArray } l;have v:=bCW (z9 l);have r:=bDI w (·.setIfInBounds 1 (Value.ref g.objs.size));have t:=bBF (Obj.mapFields (·.setIfInBounds 1 (Value.ref g.objs.size))) j (bDO r);have n:=(bBO (g.push { cls:=.type "traceback",dict:=none,data:=.fields ([head,.ref L,.none,rawInt L,.none]++(if pl.isEmpty then List.replicate 6 Value.none else pl)).toArray })
  (Obj.mapFields (·.setIfInBounds 1 (Value.ref g.objs.size))) (Ne.symm v)).trans (w6 g rfl)
 have f:∀b o,b≠e->g.get? b=some o ->
   ((g.push { cls:=.type "traceback",dict:=none,data:=.fields ([head,.ref L,.none,rawInt L,.none]++(if pl.isEmpty then List.replicate 6 Value.none else pl)).toArray }).update e (Obj.mapFields (·.setIfInBounds 1 (Value.ref g.objs.size)))).get? b=some o:=λb o d i=>by
  rw[bBO _ _ (Ne.symm d)];exact c7 _ i
 refine bCS j w D (h _ (λb o d q i=>f b o d ((c.2.1 b q).trans i)) (λb o d i=>?_) ?_ ?_)
 ·obtain⟨sl,y⟩:=c.2.2 b o i;exact⟨sl,f b _ d y⟩
 ·rw[<-c.1];exact t
 ·rw[<-c.1];exact⟨_,_,n,rfl,by simp only[m9,j4,d9,bCL] <;> lia⟩
def bAs (T:Option Addr)(K:A.frames=some (env::outer))(R:s.heap.FunFrames base (env::outer))(B:env.frame=some L)
  (J:s.heap.get? e=some oe) (F:oe.data=.fields vs) (G:vs[1]?=some (T.elim .none .ref)) (V:∀a,T=some a->a≠e/\∃oT ts,s.heap.get? a=some oT/\oT.data=.fields ts/\3<ts.size)
  (h:∀h' T',(∀b o,b≠e->T≠some b->b∉frs (env::outer)->s.heap.get? b=some o->h'.get? b=some o)->(∀b o,b≠e->T≠some b->s.heap.get? b=some o->∃sl,h'.get? b=some { o with slots:=sl })->(∀b o,s.heap.get? b=some o->∃o',h'.get? b=some o') ->
   (∃vs':Array Value,h'.get? e=some { oe with data:=.fields vs' }/\vs'.size=vs.size/\vs'[1]?=some (.ref T'))->(∃oT ts,h'.get? T'=some oT/\oT.data=.fields ts/\3<ts.size)->(T=some T'\/T'=s.heap.objs.size)->Q () { s with heap:=h' }) :
  wpAny M A (noteFrame (.ref e) env) Q E s:=by
 unfold noteFrame;simp only[B];obtain⟨u,O,G⟩:∃u:Value,u=T.elim .none .ref/\vs[1]?=some u:=⟨_,rfl,G⟩;refine b7 (bAS J F G ?_);have p:=(Array.getElem?_eq_some_iff.mp G).1;have U:∀n:Addr,oe.mapFields (·.setIfInBounds 1 (.ref n))={ oe with data:=.fields (vs.setIfInBounds 1 (.ref n)) }:=λn=>by obtain⟨c,d,S,sl⟩:=oe;cases F;rfl
 have l:∀{h':Heap} {n:Addr},h'.get? e=some (oe.mapFields (·.setIfInBounds 1 (.ref n)))->∃vs':Array Value,h'.get? e=some { oe with data:=.fields vs' }/\vs'.size=vs.size/\vs'[1]?=some (.ref n):=λ{h' n} q=>
  ⟨_,by rw[q,U n],by simp,by simp[p]⟩
 cases T with
 |none=>
  obtain rfl:u=.none:=O;rw[if_neg (by decide)];refine aPq K R B J F p λh' D v w C=>h h' _ (λb o g _ B q=>D b o g B q) (λb o g _ q=>v b o g q) (λb o q=>?_) (l w) C (.inr rfl);by_cases z:b=e
  ·subst z;exact⟨_,w⟩
  ·obtain⟨sl,r⟩:=v b o z q;exact⟨_,r⟩
 |some a=>
  obtain⟨H,oT,ts,k,j,N⟩:=V a rfl;obtain rfl:u=.ref a:=O;rw[if_pos (show (Value.ref a != Value.none)=true from by simp)];refine b7 (bAS k j (bAN N) ?_);by_cases P:(ts[3] == rawInt L)=true
  ·rw[if_pos P];refine j8 (h s.heap a (λb o _ _ _ q=>q) (λb o _ _ q=>⟨o.slots,q⟩) (λb o q=>⟨o,q⟩) ⟨vs,?_,rfl,G⟩ ⟨oT,ts,k,j,N⟩ (.inl rfl));rw[J];obtain⟨c,d,S,sl⟩:=oe;cases F;rfl
  rw[if_neg P];refine b7 (bCS k j N ?_);have f:∀b,b≠a->(s.heap.update a (Obj.mapFields (·.setIfInBounds 3 Value.none))).get? b=s.heap.get? b:=λb g=>bBO _ _ (Ne.symm g);have i:∀b o,s.heap.get? b=some o->(∀vs,o.data≠.fields vs)->b≠a:=λb o g x q=>by rw[q,k] at g;injection g with g;subst g;exact x ts j
  have I:(s.heap.update a (Obj.mapFields (·.setIfInBounds 3 Value.none))).objs.size=s.heap.objs.size:=Heap.size_after_update ..;have m:=bBF (Obj.mapFields (·.setIfInBounds 3 Value.none)) k (bDO (bDI j _));refine aPq K (R.of_keeps λb o g x=>⟨o,(f b (i b o g x)).trans g,rfl⟩) B ((f e (Ne.symm H)).trans J) F p λh' D v w C=>?_;dsimp only at D v w C;rw[I] at w C;refine h h' _ (λb o g t B q=>D b o g B ((f b λz=>t (by rw[z])).trans q)) (λb o g t q=>v b o g ((f b λz=>t (by rw[z])).trans q)) (λb o q=>?_) (l w) C (.inr rfl);by_cases z:b=e
  ·subst z;exact⟨_,w⟩
  ·by_cases y:b=a
   ·subst y;obtain⟨sl,r⟩:=v b _ z m;exact⟨_,r⟩
   ·obtain⟨sl,r⟩:=v b o z ((f b y).trans q);exact⟨_,r⟩
end
def aEc (e T C dx:Addr):HO:=.ext λh=>∃vs:Array Value,h.get? e=some { cls:=.ref C,dict:=some dx,data:=.fields vs }/\vs.size=6/\vs[1]?=some (.ref T)
def TbO (T:Addr):HO:=.ext λh=>∃oT ts,h.get? T=some oT/\oT.data=.fields ts/\3<ts.size
def up2 (H:Hp)(e T C dx:Addr):Hp:=upd (upd H T (TbO T)) e (aEc e T C dx)
abbrev xdA:HO:=.xd [(("act":Str),V.non)]
def aEc.ok (q:h.get? e=some { cls:=.ref C,dict:=some dx,data:=.fields vs })(z:vs.size=6)(n:vs[1]?=some (.ref T)):fQ P w H h e (aEc e T C dx):=
 ⟨⟨vs,q,z,n⟩,⟨_,q⟩,λf g ⟨d,a,b,c⟩ k=>⟨d,k _ a,b,c⟩⟩
def TbO.ok (q:∃oT ts,h.get? T=some oT/\oT.data=.fields ts/\3<ts.size):fQ P w H h T (TbO T):=by obtain⟨o,ts,a,b,c⟩:=q;exact⟨⟨o,ts,a,b,c⟩,⟨_,a⟩,λe f ⟨u,d,a,b,c⟩ k=>⟨u,d,k _ a,b,c⟩⟩
def aXb (h:H a=some o):upd H a o=H:=by
 funext b;unfold upd;split
 ·rename_i e;rw[e,h]
 ·rfl
def Xt:HO->Prop
 |.ext _=>True
 |_=>False
section
variable {X:Cx}{bFG:bFE}{σ:St}{H H₁:Hp}{s:Shared}{e C dx:Addr}{M:Model}{E:bFD}{Q:Unit->Shared->Prop}
def aFj (I:Inv X bFG σ H s)(v:X.stack=X.env::X.outer)(V:X.env.frame=some X.env.locals)(T:Option Addr)
  (he:s.heap.get? e=some { cls:=.ref C,dict:=some dx,data:=.fields vs }) (z:vs.size=6) (h1:vs[1]?=some (T.elim .none .ref))
  (y:∀a,T=some a->a≠e/\(∃oT ts,s.heap.get? a=some oT/\oT.data=.fields ts/\3<ts.size)/\∃o,H a=some o/\Xt o)
  (hx:∃o,H e=some o/\Xt o) (S:∀b o,H₁ b=some o->b≠e/\T≠some b/\H b=some o) (a1:∀b o,H b=some o->b≠e->T≠some b->H₁ b=some o)
  (q:∀T' s',Inv X bFG σ (up2 H₁ e T' C dx) s'->H₁ T'=none->T'≠e->Q () s') :
  wpAny M X.A (noteFrame (.ref e) X.env) Q E s:=by
 have B:=v ▸ I.stack;obtain⟨oE,D,J⟩:=hx;refine bAs T (by rw[<-v];exact I.ok.frames) B V he rfl h1 (λa Y=>⟨(y a Y).1,(y a Y).2.1⟩) λF T' R k2 k3 k4 k5 g=>?_;have P:∀b∈frs (X.env::X.outer),H b=none:=λb k=>I.aIf b (by rw[v];exact k);have W:∀b,H b=none->H₁ b=none:=λb n=>by
  cases r:H₁ b with
  |none=>rfl
  |some o=>rw[(S b o r).2.2] at n;cases n
 have O:H₁ T'=none:=by
  rcases g with g|rfl
  ·cases r:H₁ T' with
   |none=>rfl
   |some o=>exact absurd g (S _ o r).2.1
  ·exact W _ (I.hok.fresh (j9 _))
 have G:T'≠e:=by
  rcases g with g|rfl
  ·exact (y _ g).1
  ·exact bCW (z9 he)
 have i:∀b,b≠e->b≠T'->up2 H₁ e T' C dx b=H₁ b:=λb j m=>by unfold up2;rw[aV j,aV m]
 have trk:∀b o,H b=some o->T≠some b->b≠T':=λb o r n=>by
  rcases g with g|rfl
  ·exact λf=>n (by rw[f];exact g)
  ·exact bAF (I.hok.lt r)
 have L:∀b,H b=none->(∃o,s.heap.get? b=some o)->b≠T':=λb n ⟨o,r⟩=>by
  rcases g with g|rfl
  ·intro f;obtain⟨Z,l,_⟩:=(y _ g).2.2;rw[f,l] at n;cases n
  ·exact bAF (z9 r)
 have t:∀b o,H b=some o->¬ Xt o->b≠e/\T≠some b:=λb o r n=>by
  refine⟨λf=>?_,λf=>?_⟩
  ·subst f;rw[D] at r;cases r;exact n J
  ·obtain⟨Z,l,x'⟩:=(y b f).2.2;rw[l] at r;cases r;exact n x'
 have h:∀b o u,H b=some o->b≠e->T≠some b->s.heap.get? b=some u->F.get? b=some u:=λb o u r j m p=>
  R b u j m (λk=>by rw[P b k] at r;cases r) p
 have d:∀b o,H b=some o->¬ Xt o->up2 H₁ e T' C dx b=some o:=λb o r n=>by obtain⟨j,m⟩:=t b o r n;rw[i b j (trk b o r m)];exact a1 b o r j m
 have K:HOk X.prog X.w (up2 H₁ e T' C dx) F:=λb o r=>by
  by_cases N:b=e
  ·subst N;unfold up2 at r;rw[aL] at r;cases r;obtain⟨a0,e1,e2,e3⟩:=k4;exact aEc.ok e1 (e2.trans z) e3
  ·by_cases bT:b=T'
   ·subst bT;unfold up2 at r;rw[aV N,aL] at r;cases r;exact TbO.ok k5
   ·rw[i b N bT] at r;obtain⟨j,m,l⟩:=S b o r;refine (I.hok b o l).stay (λc u hc p=>?_) (λc p=>d c _ p λz=>z) λc xs p=>d c _ p λz=>z;rcases hc with rfl|hc
    ·exact h c o u l j m p
    ·obtain⟨m1,m2⟩:=t c _ hc λz=>z;exact h c _ u hc m1 m2 p
 have x:∀b,T=some b->H b≠none:=λb k n=>by obtain⟨Z,l,_⟩:=(y b k).2.2;rw[l] at n;cases n
 have U:Un (frs X.stack) [] H (up2 H₁ e T' C dx) s.heap F:=by
  refine⟨λb o r n k _=>?_,λb o r n k _=>?_,λb o r n _=>?_,λb o r _=>k3 b o r,λb xs r=>d b _ r λz=>z,λb o u r=>d b _ r λz=>z,λb ps r=>⟨#[],by rw[d b _ r λz=>z];simp⟩⟩
  ·exact R b o (λf=>by subst f;rw[D] at n;cases n) (λf=>x b f n) (by rw[<-v];exact k) r
  ·exact k2 b o (λf=>by subst f;rw[D] at n;cases n) (λf=>x b f n) r
  ·rw[i b (λf=>by subst f;rw[D] at n;cases n) (L b n ⟨o,r⟩)];exact W b n
 exact q T' _ (I.call' (s':={ s with heap:=F }) rfl U K I.bare λb z=>absurd z (by simp)) O G
def jK {T:Addr}{A:Around}{n:Option Addr}(I:Inv X bFG σ (up2 H₁ e T C dx) s)(p:T≠e)(q:∀s',Inv X bFG σ (up2 H₁ e T C dx) s'->Q () s'):wpAny M A (setFlight (.ref e) n) Q E s:=by
 have l:up2 H₁ e T C dx e=some (aEc e T C dx):=aL;have i:up2 H₁ e T C dx T=some (TbO T):=by unfold up2;rw[aV p,aL]
 obtain⟨w,j,t,g⟩:=(I.hok e _ l).1;obtain⟨v,r,d,a,c⟩:=(I.hok T _ i).1;unfold setFlight;refine b7 (bAS j rfl g ?_);rw[if_pos (show (Value.ref T != Value.none)=true from by simp)];refine bCS d a c (q _ ?_);have k:=bBF (h:=s.heap) (Obj.mapFields (·.setIfInBounds 3 (n.elim Value.none λf=>rawInt f))) d (bDO (bDI a _));have W:=I.write (x:=T) (e:=T) (o:=TbO T) (h':=s.heap.update T (Obj.mapFields (·.setIfInBounds 3 (n.elim Value.none λf=>rawInt f)))) (t':=s.toks) (by rw[i];trivial) (.inl rfl) (λb u m q=>(bBO _ _ (Ne.symm m)).trans q) ⟨_,k⟩
  (TbO.ok ⟨_,_,k,bDI a _,by simpa using c⟩)
 rw[aXb i] at W;exact W
def aRv (I:Inv X bFG σ (upd H₁ e (XO e C (some dx))) s)(f:X.stack=X.env::X.outer)(d:X.env.frame=some X.env.locals)(n:H₁ e=none)
  (q:∀T' s',Inv X bFG σ (up2 H₁ e T' C dx) s'->H₁ T'=none->T'≠e->Q () s') :
  wpAny M X.A (noteFrame (.ref e) X.env) Q E s:=by
 obtain⟨k,g,z,j⟩:=XO.at I.hok aL;refine aFj I f d none g z j (λa i=>nomatch i) ⟨_,aL,trivial⟩ (λb o r=>?_) (λb o r c _=>by rw[aV c] at r;exact r) q;have c:b≠e:=λh=>by subst h;rw[n] at r;cases r
 exact⟨c,(nomatch ·),by rw[aV c];exact r⟩
def zY {T:Addr}(I:Inv X bFG σ (up2 H₁ e T C dx) s)(k:X.stack=X.env::X.outer)(j:X.env.frame=some X.env.locals)(n:H₁ e=none)(t:H₁ T=none)(g:T≠e)
  (q:∀T' s',Inv X bFG σ (up2 H₁ e T' C dx) s'->H₁ T'=none->T'≠e->Q () s') :
  wpAny M X.A (noteFrame (.ref e) X.env) Q E s:=by
 have h:up2 H₁ e T C dx e=some (aEc e T C dx):=aL;have i:up2 H₁ e T C dx T=some (TbO T):=by unfold up2;rw[aV g,aL]
 obtain⟨u,l,z,p⟩:=(I.hok e _ h).1;refine aFj I k j (some T) l z p (λa m=>?_) ⟨_,h,trivial⟩ (λb o r=>?_) (λb o r d f=>?_) q
 ·cases m;exact⟨g,(I.hok T _ i).1,_,i,trivial⟩
 ·have d:b≠e:=λc=>by subst c;rw[n] at r;cases r
  have f:b≠T:=λc=>by subst c;rw[t] at r;cases r
  exact⟨d,λc=>f (bAM c).symm,by unfold up2;rw[aV d,aV f];exact r⟩
 ·unfold up2 at r;rw[aV d,aV (λc=>f (by rw[c]))] at r;exact r
end
def CXR (P:Program)(w:World):CXT:=λouter H s E v s'=>∃e T dx C H₁,v=.ref e/\s'.os=s.os/\AllBare s'.gens/\H₁ e=none/\H₁ T=none/\T≠e/\H₁ dx=some xdA /\
 Un (frs outer) [] H (up2 H₁ e T C dx) s.heap s'.heap/\HOk P w (up2 H₁ e T C dx) s'.heap/\E (.ref C) (some e) H₁
def Raises (X:Cx)(E:XK):Prop:=∀bFG σ H₁ s e C dx,Inv X bFG σ (upd H₁ e (XO e C (some dx))) s->H₁ e=none->H₁ dx=some xdA->E (.ref C) (some e) H₁->X.xe (.ref e) s
section
variable {P:Program}{w:World}{K:bFC}{mg:bFF}{base:Heap}{N:List Str}{qual:Str}{scope:Scope}{f:Addr}{cd:Value}{A:Around}{outer:List Env}{s₀:Shared}{H₀:Hp}{E:XK}
def aFm (I:Inv (xM (CXR P w) P w K mg base N qual scope f cd A outer s₀ H₀ E) bFG σ (up2 H₁ e T C dx) s)(n:H₁ e=none)(c:H₁ T=none)(a:T≠e)(b:H₁ dx=some xdA)(q:E (.ref C) (some e) H₁) :
  CXR P w outer H₀ s₀ E (.ref e) s:=⟨e,T,dx,C,H₁,rfl,I.os,I.bare,n,c,a,b,I.base,I.hok,q⟩
def tX:Raises (xM (CXR P w) P w K mg base N qual scope f cd A outer s₀ H₀ E) E:=by intro g σ j s e C i I n d q;show wpAny _ _ (leaving _ (.ref e)) _ _ s;unfold leaving;exact b7 (aRv I rfl rfl n λl m b c a=>jK b a λk h=>aFm h n c a d q)
def Thr (X:Cx)(E:XK):Prop:=∀bFG σ H₁ s e T C dx,Inv X bFG σ (up2 H₁ e T C dx) s->H₁ e=none->H₁ T=none->T≠e->H₁ dx=some xdA->E (.ref C) (some e) H₁->X.xe (.ref e) s
def Thr.passes (h:Thr X E):lX (CXR X.prog X.w) X E:=by intro d σ H s v s' I o;obtain⟨e,T,g,C,k,rfl,l,a,n,i,f,m,j,c,q⟩:=o;exact h d σ k s' e T C g (I.call' (s':=s') l j c a λb z=>absurd z (by simp)) n i f m q
def aZv:Thr (xM (CXR P w) P w K mg base N qual scope f cd A outer s₀ H₀ E) E:=by intro i σ l s e T C k I n g c h q;show wpAny _ _ (leaving _ (.ref e)) _ _ s;unfold leaving;exact b7 (zY I rfl rfl n g c λo p d b a=>jK d a λm j=>aFm j n b a h q)
end
def bB8 (h:H a=some o):upd H a o=H:=by
 funext b;unfold upd;split
 ·rename_i e;rw[e,h]
 ·rfl
def aTi (h:a≠b):upd (upd H a o) b u=upd (upd H b u) a o:=by
 funext c;unfold upd;by_cases e:c=b
 ·by_cases d:c=a
  ·exact absurd (d.symm.trans e) h
  ·simp[e,d,Ne.symm h]
 ·by_cases d:c=a
  ·simp[d,h]
  ·simp[e,d]
def tVI (K:bFC)(fI:Addr)(t:TA):TE:=fun σ H Q=>t σ H λvs H1=>∃e C v,vs=[.ref e,v]/\H1 e=some (XO e C none)/\XC K C fI/\Q .non H1
def aUl (K:bFC)(fI:Addr)(ta tv:TE):TS:=λD σ H=>tv σ H λy H1=>ta σ H1 λx H2=>∃e C,y=.non/\x=.ref e/\H2 e=some (XO e C none)/\XC K C fI /\
 ∀dx,H2 dx=none->dx≠e->D.nx σ (upd (upd H2 dx xdA) e (XO e C (some dx)))
section
variable {X:Cx}{o value e1:Expr}{es:List Expr}{p ap pos pos' cpos:Pos}{ta tv:TE}{t:TA}{fI:Addr}{pl:Sem Bool}
def aXk:bootBuiltins "ValueError"=some (.type "ValueError"):=by trivial
def bC2:typeOf (.type "ValueError")=pure (.type "type"):=by first|rfl|kernel_rfl
def aYv:PySem.W.handedIn (.builtin "ValueError.__init__")=true:=by trivial
def aXu:Manifest.isStub "ValueError"=false:=by trivial
def aSh (L:Gl X "ValueError")(O:X.mg "ValueError"=none)(M:PA X (e1::es) t)
  (y:starEach (e1::es) X.env=(false,eval e1 X.env)::starEach es X.env:=by rfl) (E:(backTo cpos (starEach es X.env)).any (·.1)=false:=by rfl)
  (N:eval (.Call (.Attribute (.Name "ValueError" p) "__init__" ap) (e1::es) [] cpos) X.env=(do
   let ov <-eval (.Name "ValueError" p) X.env
   standAt ap.atName
   let (f,first) <-holding [ov] (getMethod ov "__init__" pl)
   callWith cpos f first (backTo cpos (starEach (e1::es) X.env)) (backToKw cpos (keywordEach [] X.env))):=by rfl) :
  PE X (.Call (.Attribute (.Name "ValueError" p) "__init__" ap) (e1::es) [] cpos) (tVI X.K fI t):=by
 intro g s σ H Q I h;refine PySem.W.methodCall_KW (pl:=pl) (wI I L O aXk ?_) N;obtain⟨m,F⟩:=I.fr;refine PySem.W.method_type (T:="ValueError") (name:="__init__") (v:=.builtin "ValueError.__init__") F I.ok.mod.kin bC2 aXu (aXf X.K) aYv ?_;refine bEJ (thn (M cpos g _ σ H _ (I.tok _) h) λJ a ⟨vs,z,i,r,e,C,v,B,j,c,q⟩=>?_) y E;subst B;cases r with
 |cons r0 r1=>
  cases r1 with
  |@cons _ u2 _ _ r2 r3=>
   cases r3;obtain rfl:=r0;obtain⟨k,d,w,G⟩:=XO.at i.hok j;have l:0<k.size:=by lia
   refine bCn i.kIn c d l (bAN l) (by rw[sizeLine_eq,d9,bCL];lia) ?_;refine⟨.non,z,?_,rfl,q⟩;have D:=i.kept (h':=a.heap.push { cls:=.type "tuple",data:=.seq [u2].toArray }) (t':=a.toks) (λb u e=>c7 _ e);have hg2:=c7 (h:=a.heap) { cls:=.type "tuple",data:=.seq [u2].toArray } d;have n:=bBF (Obj.mapFields (·.setIfInBounds 0 (Value.ref a.heap.objs.size))) hg2 (bDO (bDI rfl _));have W:=D.write (x:=e) (e:=e) (o:=XO e C none) (t':=a.toks) (by rw[j];trivial) (.inl rfl) (λb u A q=>(bBO _ _ (Ne.symm A)).trans q) ⟨_,n⟩
    (XO.ok (vs:=k.setIfInBounds 0 (.ref a.heap.objs.size)) n (by simp[w]) (by rw[Array.getElem?_setIfInBounds_ne (by decide)];exact G))
   rw[bB8 j] at W;exact W
def bCa (ha:PE X o ta)(hv:PE X value tv)(hs:swapsWith value (some (.Attribute o "act" pos')) pos.line X.env=pure false:=by rfl):PS X (.Assign [.Attribute o "act" pos'] value pos) (aUl X.K fI ta tv):=by
 intro i s σ H D I h;refine plainObj_wpAny_Assign_Attribute (thn (hv i s σ H _ I h) λu T ⟨y,M,L,G,q⟩=>thn (ha i T σ M _ L q) λZ d ⟨x,R,m,F,e,C,O,P,z,c,v⟩=>?_) hs;subst P O;obtain rfl:=F;obtain rfl:=G;obtain⟨Y,k,B,W⟩:=XO.at m.hok z;have p:R d.heap.objs.size=none:=m.hok.fresh (j9 _);have j:d.heap.objs.size≠e:=bCW (z9 k);refine aXi m.kIn c k λh' t' w V Q=>⟨σ,_,?_,v _ p j⟩;obtain⟨A,J,E,g,t,r⟩:=id V;have U:=m.laid (a:=d.heap.objs.size) (o:=xdA) (h':=d.heap.push A) (t':=t') (λb u e=>c7 _ e) (j9 _)
  ⟨_,⟨A,J,E,w6 _ (Heap.get?_some_iff.mp g).2,t,r⟩,λf=>by
   by_cases e:f = "act"
   ·subst e;simp[rB,RelV]
   ·have n:(f == ("act":Str))=false:=by simpa using e
    simp[List.lookup,n,e,rB]⟩
 refine U.write (x:=e) (e:=e) (o:=XO e C (some d.heap.objs.size)) (h':=h') (t':=t') (by rw[aV (Ne.symm j),z];trivial) (.inl rfl) (λb u N q=>?_) ⟨_,w⟩ (XO.ok w B W);by_cases l:b=d.heap.objs.size
 ·subst l;rw[w6 _ (Heap.get?_some_iff.mp g).2] at q;cases q;exact g
 ·refine Q b u N ?_;obtain⟨S,v⟩:=Heap.get?_some_iff.mp q;refine Heap.get?_some_iff.mpr ⟨?_,v⟩;rw[<-S];generalize d.heap=hh at l ⊢;cases hh;simp only at l;simp[Heap.push,Array.getElem?_push,l]
end
def aDw (K:bFC)(fI:Addr):Sp:=λvs H Q _=>∃e C,vs=[.ref e,.non]/\H e=some (XO e C none)/\XC K C fI/\∀dx,H dx=none->dx≠e->Q .non (upd (upd H dx xdA) e (XO e C (some dx)))
def aHn (C:Addr)(E:XK)(t:TA):TS:=λ_ σ H=>t σ H λvs H1=>vs=[.non]/\∀e dx,H1 e=none->H1 dx=none->dx≠e->E (.ref C) (some e) (upd H1 dx xdA)
section
variable {M:Model}{A:Around}{E:bFD}{env:Env}{K:bFC}{C fI:Addr}
def aLn (c:XC K C fI)(B:A.handled=none)
  (h:wpAny M A x (λv s₁=>∃e d vs,v=.ref e/\K.In s₁.heap/\s₁.heap.get? e=some { cls:=.ref C,dict:=d,data:=.fields vs }/\vs[1]?=some .none/\E (.ref e) s₁) E s) :
  wpAny M A (raiseStmt env (some x) none) Q E s:=by
 obtain⟨y,q,N,O,o,F,n,G,m,D,R,t,S,J,w,l,L,z,P,k⟩:=c.at_;have a:(Value.ref C::o).contains (.type "BaseException")=true:=by rw[bBJ,k,bDH]
 unfold raiseStmt;refine b7 (bBE h (λv s₁ j=>?_) λ_ _ x=>x);obtain⟨e,r,vs,rfl,X,f,p,b⟩:=j;have i:=X _ _ l;obtain⟨u,g,d,H,I⟩:=s₁
 repeat (first|with_reducible refine bBR f ?_|with_reducible refine bBR i ?_|(with_reducible refine bDB i ?_;rw[a])|with_reducible refine bAS f rfl p ?_|wp_step)
 exact wpAny_raiseNew_none B b
end
section
variable {X:Cx}{CX:CXT}{k:Nat}{C fI:Addr}{fd:FuncData}{ps:List Str}{E:XK}{x:Str}{np cpos pos:Pos}{a:Expr}{t:TA}
def aWj {j:bFE}{σ:St}{H:Hp}{s:Shared}{Q:VK}{u:Value}(c:XC X.K C fI)(F:gJ X.prog X.w X.K X.mg X.base CX k fI fd ps (aDw X.K fI))(T:Room (k+1) X.A)(S:Binds X.K fd ps [])(R:lX CX X E0)
  (I:Inv X j σ H s) (r:RelV .non u) (h:∀e dx,H e=none->H dx=none->dx≠e->Q (.ref e) (upd (upd H dx xdA) e (XO e C (some dx)))) :
  wpAny (model X.prog X.w) X.A (call (.ref C) [u]) (EP X j σ Q) X.xe s:=by
 obtain⟨P,g,d,m,t⟩:=s;refine x_call I.kIn c (λh' e p y W=>?_) (by rw[sizeLine_eq,d9,bCL];lia);obtain⟨U,z,-,-⟩:=p.there;have l:H e=none:=I.hok.fresh (by rw[y];exact bFA _);have i:Inv X j σ (upd H e (XO e C none)) ⟨h',g,d,m,t⟩:=I.laid (a:=e) (h':=h') (t':=m) p.keeps (by rw[y];exact bFA _) (XO.ok z rfl rfl);have x:aDw X.K fI [.ref e,.non] (upd H e (XO e C none)) (λv M=>v=.non/\Q (.ref e) M) E0:=by refine⟨e,C,rfl,aL,c,λdx n o=>⟨rfl,?_⟩⟩;rw[aV o] at n;have q:=h e dx l n o;rw[aTi (Ne.symm o),aO6];exact q
 have N:Vals [V.ref e,V.non] [Value.ref e,u]:=.cons rfl (.cons r .nil);have D:([Value.ref e,u]++[]).length=ps.length:=by have q:=F.len _ _ _ _ x;rw[bAW];exact q
 have f:=S ⟨h',g,d,m,t⟩ [Value.ref e,u] i.kIn D;rw[bAW] at f;refine bDQ (bDG (F.run _ X.stack _ _ ⟨[Value.ref e,u],[]⟩ [Value.ref e,u] _ _ E0 (T.make C [u] []) (i.env0.make C [u] []) f N x) λr E b=>?_);cases r with
 |error v=>exact R j σ _ _ v E i b
 |ok fl=>
  cases fl with
  |ret w=>obtain⟨v,J,O,B,G,L⟩:=i.after b;subst G;exact⟨B,⟨V.ref e,J,O,rfl,L⟩⟩
  |next=>exact False.elim b
  |brk=>exact False.elim b
  |cont=>exact False.elim b
def aUq (c:XC X.K C fI)(F:gJ X.prog X.w X.K X.mg X.base CX k fI fd ps (aDw X.K fI))(hr:Room (k+1) X.A)(hb:Binds X.K fd ps [])(Z:lX CX X E0)(T:Raises X E)(hc:X.calm=true)(Y:PySem.W.keepIn X.K (.ref C)=true)
  (hg:Gl X x) (hm:X.mg x=some (.ref C)) (ha:PA X [a] t) (P:(x == ("__debug__":Str))=false:=by decide) (he:starEach [a] X.env=(false,eval a X.env)::starEach [] X.env:=by rfl) :
  PS X (.Raise (some (.Call (.Name x np) [a] [] cpos)) none pos) (aHn C E t):=by
 intro f s σ H D I h;rw[arm_exec_Raise];refine b7 (bDY (aLn c (I.ok.hd hc) ?_));refine b7 (bBE (Q:=EP X f σ λv u=>∃e b g,v=.ref e/\u=upd g e (XO e C (some b))/\g e=none/\g b=some xdA/\E (.ref C) (some e) g) (E:=X.xe) ?_ (λv B ⟨y,u,i,G,e,b,g,M,R,n,J,q⟩=>?_) λ_ _ z=>z)
 ·refine bBW (mG I hg hm ?_ P);refine PySem.W.callWith_K (h₀:=X.base) I.ok.mod.kin Y (thn (ha cpos f s σ H _ I h) λV B ⟨m,L,o,r,N,q⟩=>⟨o.kIn,?_⟩) he rfl;subst N;cases r with
  |cons r0 r1=>cases r1;exact aWj c F hr hb Z o r0 λe b l O p=>⟨e,b,upd L b xdA,rfl,rfl,by rw[aV (Ne.symm p)];exact l,aL,q e b l O p⟩
 ·subst M R;obtain rfl:=G;refine b7 (bDY (j8 ?_));obtain⟨m,j,U,S⟩:=XO.at (d:=some b) i.hok aL;exact⟨e,_,m,rfl,i.kIn,j,S,T f σ g B e C b i n J q⟩
end
section
variable {X:Cx}{bFG:bFE}{σ:St}{H:Hp}{s:Shared}{M:Model}{A:Around}{E:bFD}{i:Nat}{n:Str}{pos:Pos}{Q:Unit->Shared->Prop}
def name_goes (I:Inv X bFG σ H s)(hN:X.N.Nodup)(Y:X.N[i]?=some n)(hk:X.env.scope.names.lookup n=some .local)(h:∀s',Inv X bFG (σ.set i none) H s'->Q () s') :
  wpAny M A (do bindName X.env n .none;unbindBehindTheSuite X.env n pos) Q E s:=by
 obtain⟨m,G,S⟩:=id I.loc;have r:(X.env.scope.kind == .class || (X.env.scope.kind == .module && X.env.locals != X.env.globals))=false:=by rw[I.ok.kind];rfl
 have x:i<σ.length:=by rw[I.len];exact (List.getElem?_eq_some_iff.mp Y).1
 have l:=I.cne;obtain⟨oL,_,_,L,_⟩:=id G;refine wpAny_nameGoes_keeps hk G r λh' v B a=>?_;have F:∀b o,X.s₀.heap.get? b=some o->b≠X.env.locals:=λb o e=>bAF (bAL (z9 e) I.ok.above);have u:HOk X.prog X.w H h':=λb Z e=>by
  refine (I.hok b Z e).stay (λc K hc q=>(a.2 c ?_).trans q) (λ_ q=>q) λ_ _ q=>q;rintro rfl;rcases hc with rfl|hc
  ·rw[I.free] at e;cases e
  ·rw[I.free] at hc;cases hc
 refine h _ ⟨I.ok,I.os,I.bare,⟨λb o e n D g=>?_,λb o e n D g=>?_,I.base.free,λb o e g=>?_,I.base.tups,I.base.frzs,I.base.tbls⟩,⟨_,B,λj y T f t P=>?_⟩,λy c e=>?_,I.free,I.freeC,λp R=>?_,u,by simpa using I.len⟩
 ·exact (a.2 b (F b o e)).trans (I.base.keep b o e n D g)
 ·obtain⟨U,f⟩:=I.base.slot b o e n D g;exact⟨U,(a.2 b (F b o e)).trans f⟩
 ·obtain⟨W,f⟩:=I.base.there b o e g;exact⟨W,(a.2 b (F b o e)).trans f⟩
 ·by_cases C:j=i
  ·subst C;rw[bDF x] at t;cases t
  ·rw[bEN (Ne.symm C)] at t;obtain⟨u',V,q⟩:=S j y T f t P;refine⟨u',V,?_⟩;rcases q with⟨k,e⟩|⟨k,c,e,z⟩
   ·refine .inl ⟨k,?_⟩;have:y≠n:=λe=>C (aDh hN f (e ▸ Y));simp[this,e]
   ·exact .inr ⟨k,c,e,z.sameBut a (l y c e)⟩
 ·obtain⟨K,z⟩:=I.cell y c e;exact⟨K,z.sameBut a (l y c e)⟩
 ·obtain⟨e,n,J,O,d⟩:=I.pin p R;exact⟨(a.2 p.1 J).trans e,n,J,O,d⟩
end
def uV (X:Cx)(bFG:bFE)(σ₀:St)(E:XK):Cx:={ X with pn:=X.pn++bFG,xe:=λv s'=>∃e T dx C H₁,v=.ref e/\Inv X bFG σ₀ (up2 H₁ e T C dx) s'/\H₁ e=none/\H₁ T=none/\T≠e/\H₁ dx=some xdA/\E (.ref C) (some e) H₁ }
def pM (X:Cx)(e:Addr):Cx:={ X with A:=X.A.mark (some (.ref e)),calm:=false,xe:=λ_ _=>False }
section
variable {X:Cx}{bFG:bFE}{σ σ₀:St}{H:Hp}{s:Shared}{E:XK}{e:Addr}
def aZ6 (a:X.Ok):(uV X bFG σ₀ E).Ok:=⟨a.mod,a.kind,a.glob,a.blt,a.above,a.inj,a.has,a.cab,a.hd,a.frames,a.stk,a.exf,a.bs,a.bsz,a.noex,a.exfs,a.funs,a.frf⟩
def aXp (a:X.Ok):(pM X e).Ok:=⟨a.mod,a.kind,a.glob,a.blt,a.above,a.inj,a.has,a.cab,(λz=>nomatch z),a.frames,a.stk,a.exf,a.bs,a.bsz,a.noex,a.exfs,a.funs,a.frf⟩
def Inv.aZq (I:Inv X bFG σ H s):Inv (uV X bFG σ₀ E) [] σ H s:=⟨aZ6 I.ok,I.os,I.bare,I.base,I.loc,I.cell,I.free,I.freeC,λp a=>I.pin p (by rw[bAW] at a;exact a),I.hok,I.len⟩
def Inv.yL (b:X.Ok)(I:Inv (uV X bFG σ₀ E) pins' σ H s):Inv X bFG σ H s:=⟨b,I.os,I.bare,I.base,I.loc,I.cell,I.free,I.freeC,λp a=>I.pin p (bDP _ a),I.hok,I.len⟩
def Inv.aH4 (I:Inv X bFG σ H s):Inv (pM X e) bFG σ H s:=⟨aXp I.ok,I.os,I.bare,I.base,I.loc,I.cell,I.free,I.freeC,I.pin,I.hok,I.len⟩
def Inv.sJ (a:X.Ok)(I:Inv (pM X e) bFG σ H s):Inv X bFG σ H s:=⟨a,I.os,I.bare,I.base,I.loc,I.cell,I.free,I.freeC,I.pin,I.hok,I.len⟩
end
def aPd (σ₀:St)(sp:Sp)(dvs:List V)(E:XK)(t:TA):TE:=fun σ H Q=>σ=σ₀/\t σ H λvs H1=>sp (vs++dvs) H1 Q E
section
variable {X:Cx}{bFG₀:bFE}{σ₀:St}{k:Nat}{f:Addr}{fd:FuncData}{ps:List Str}{sp:Sp}{dvs:List V}{ds:List Value}{E:XK}{x:Str}{p pos:Pos}{e:Expr}{es:List Expr}{t:TA}
def aR5 (ok:X.Ok)(F:gJ X.prog X.w X.K X.mg X.base (CXR X.prog X.w) k f fd ps sp)(hr:Room k X.A)(Y:Gl X x)(hm:X.mg x=some (.ref f))(V:PySem.W.keepIn X.K (.ref f)=true)(Z:Binds X.K fd ps ds)(U:Vals dvs ds)
  (ha:PA (uV X bFG₀ σ₀ E) (e::es) t) (R:(x == ("__debug__":Str))=false:=by decide) (he:starEach (e::es) X.env=(false,eval e X.env)::starEach es X.env:=by rfl) (S:(backTo pos (starEach es X.env)).any (·.1)=false:=by rfl) :
  PE (uV X bFG₀ σ₀ E) (.Call (.Name x p) (e::es) [] pos) (aPd σ₀ sp dvs E t):=by
 rintro bFG s σ H Q I ⟨rfl,h⟩;refine bBW (mG I Y hm ?_ R);refine PySem.W.callWith_K I.ok.mod.kin V (thn (ha pos bFG s σ H _ I h) λi o ⟨G,M,d,r,q⟩=>⟨d.kIn,?_⟩) he S;have y:=r.append U;have J:(i++ds).length=ps.length:=by rw[<-y.length];exact F.len _ _ _ _ q
 refine bDQ (bDG (F.run X.A X.stack o M ⟨i,[]⟩ (i++ds) (G++dvs) Q E hr d.env0 (Z o i d.kIn J) y q) λr s' g=>?_);cases r with
 |error v=>obtain⟨a,T,B,C,D,rfl,P,c,n,N,m,l,O,j,L⟩:=g;exact⟨a,T,B,C,D,rfl,(Inv.yL ok d).call' (s':=s') P O j c (λb z=>absurd z (by simp)),n,N,m,l,L⟩
 |ok fl=>
  cases fl with
  |ret u=>exact d.after g
  |next=>exact False.elim g
  |brk=>exact False.elim g
  |cont=>exact False.elim g
end
structure XS (K:bFC)(S:Addr):Prop where
 ty:PySem.W.typeIn K (.ref S)=some (.type "type")
 cls:(PySem.W.clsIn K S).isSome=true
 base:PySem.W.mroIn K S (.type "BaseException")=some true
def aGe {M:Model}{A:Around}{E:bFD}{s:Shared}{K:bFC}{S C e:Addr}{oe:Obj}{Q:Bool->Shared->Prop}(X:K.In s.heap)(b:XS K S)(n:s.heap.get? e=some oe)(r:oe.cls=.ref C)(v:PySem.W.mroIn K C (.ref S)=some true)
  (u:Q true s):wpAny M A (excMatches (.ref e) (.ref S)) Q E s:=by
 obtain⟨h,g,d,t,o⟩:=s;have T:PySem.W.Looks M h (typeOf (.ref S)) (.type "type"):=PySem.W.looks_typeIn X b.ty;have m:PySem.W.Looks M h (isInstance (.ref S) (.type "tuple")) false:=T.andThen (PySem.W.Looks.of_pure tc_notTuple);have c:PySem.W.Looks M h (isType (.ref S)) true:=by
  obtain⟨p,q⟩:=Option.isSome_iff_exists.mp b.cls;unfold PySem.W.clsIn at q
  split at q
  ·rename_i j;exact (PySem.W.Looks.ld (X _ _ j)).andThen .now
  ·cases q
 have k:PySem.W.Looks M h (typeOf (.ref e)) (.ref C):=r ▸ (PySem.W.Looks.ld n).andThen .now;have i:=PySem.W.looks_mroIn (M:=M) X b.base;have f:=PySem.W.looks_mroIn (M:=M) X v;have l:PySem.W.Looks M h (isExcClass (.ref S)) true:=c.andThen i;unfold excMatches;refine b7 (m.at ?_);rw[if_neg (by decide)];refine b7 (j8 (a:=[Value.ref S]) ?_);simp only[bDL,bEW];refine b7 (b7 (b7 (l.at ?_)));simp only[Bool.not_true,bCR,if_false];refine j8 (j8 (b7 (k.at (b7 (b7 (b7 (f.at ?_)))))));simp only[if_true];exact j8 (j8 (j8 u))
def bEg (D:Ends)(i:Nat):Ends:={ nx:=fun σ H=>D.nx (σ.set i none) H,rt:=D.rt,bk:=fun σ H=>D.bk (σ.set i none) H,ct:=fun σ H=>D.ct (σ.set i none) H }
def exE (K:bFC)(S:Addr)(i:Nat)(th:TS)(D:Ends)(σ:St):XK:=λv o H₁=>∃C e fI,v=.ref C/\o=some e/\XC K C fI/\PySem.W.mroIn K C (.ref S)=some true /\
 ∀T dx,H₁ e=none->H₁ T=none->T≠e->H₁ dx=some xdA->th (bEg D i) (σ.set i (some (.ref e))) (up2 H₁ e T C dx)
def bDe (K:bFC)(S:Addr)(i:Nat)(tb:St->XK->TS)(th:TS):TS:=λD σ H=>tb σ (exE K S i th D σ) D σ H
section
variable {X:Cx}{S:Addr}{i:Nat}{x n:Str}{np hpos pos:Pos}{body suite:List Stmt}{b₀:Stmt}{tb:St->XK->TS}{th:TS}
def aZ0 (a2:X.stack=X.env::X.outer)(R:X.env.frame=some X.env.locals)(A:X.N.Nodup)(w:X.N[i]?=some n)(m:X.env.scope.names.lookup n=some .local)
  (hg:Gl X x) (hm:X.mg x=some (.ref S)) (hS:XS X.K S) (hb:∀bFG σ₀ E,X.Ok->PSs (uV X bFG σ₀ E) body (tb σ₀ E)) (hh:∀e,PSs (pM X e) (b₀::suite) th) (a3:(x == ("__debug__":Str))=false:=by decide) :
  PS X (.Try body [.ExceptHandler (some (.Name x np)) (some n) (b₀::suite) hpos] [] [] pos) (bDe X.K S i tb th):=by
 intro bFG s σ H D I h;refine wpAny_Try_except (bBE (hb bFG σ (exE X.K S i th D σ) I.ok [] s σ H D I.aZq h) (λf s1 l=>?_) λv s1 l=>?_)
 ·cases f with
  |next=>obtain⟨d,b,a,q⟩:=l;exact bDK ⟨d,b,Inv.yL I.ok a,q⟩
  |brk=>obtain⟨d,b,a,q⟩:=l;exact⟨d,b,Inv.yL I.ok a,q⟩
  |cont=>obtain⟨d,b,a,q⟩:=l;exact⟨d,b,Inv.yL I.ok a,q⟩
  |ret u=>obtain⟨v,d,b,a,r,q⟩:=l;exact⟨v,d,b,Inv.yL I.ok a,r,q⟩
 ·obtain⟨e,T,o,C,Q,rfl,I1,P,nT,L,U,C',e',fI,W,ee,c,F,q⟩:=l;cases W;cases ee;refine zY I1 a2 R P nT L λy a1 O M g=>jK O g λV t=>?_;have B:Inv (pM X e) bFG σ (up2 Q e y C o) V:=t.aH4;refine wpAny_handleBy_cons (codeAny_handlers_test ?_) (by intro q;cases q);refine mG (X:=pM X e) B hg hm ?_ a3;have e1:up2 Q e y C o e=some (aEc e y C o):=aL;obtain⟨vs,J,hz,a0⟩:=(t.hok e _ e1).1;refine aGe t.kIn hS J rfl F ?_;rw[if_pos rfl];refine codeAny_handlers_suite_as ?_;refine jK t g λY I3=>?_;refine aEd I3 A w (.inl m) (v:=.ref e) rfl (λZ I4=>?_) (.inr m);refine bBE (hh e bFG Z _ _ _ I4.aH4 (q y o P M g U)) (λf s4 p=>?_) λ_ _ z=>z.elim;cases f with
  |next=>obtain⟨d,b,a,j⟩:=p;exact name_goes (Inv.sJ I.ok a) A w m λG k=>⟨_,b,k,j⟩
  |brk=>obtain⟨d,b,a,j⟩:=p;exact name_goes (Inv.sJ I.ok a) A w m λG k=>⟨_,b,k,j⟩
  |cont=>obtain⟨d,b,a,j⟩:=p;exact name_goes (Inv.sJ I.ok a) A w m λG k=>⟨_,b,k,j⟩
  |ret u=>obtain⟨v,d,b,a,r,j⟩:=p;exact name_goes (Inv.sJ I.ok a) A w m λG k=>⟨v,_,b,k,r,j⟩
end
section
variable {X:Cx}{o:Expr}{pos:Pos}{ta:TE}
def bDs (K:bFC)(ta:TE):TE:=fun σ H Q=>ta σ H λx H1=>∃e T C dx fI,x=.ref e/\H1 e=some (aEc e T C dx)/\XC K C fI/\H1 dx=some xdA/\Q .non H1
def bC0 (B:PE X o ta)(D:attributeBase o "act" X.env (eval o X.env)=eval o X.env:=by rfl):PE X (.Attribute o "act" pos) (bDs X.K ta):=by
 intro d s σ H Q I h;refine aO9 D (thn (B d s σ H _ I h) λu E ⟨x,n,a,l,e,T,C,j,F,r,m,c,v,q⟩=>?_);subst r;obtain rfl:u=Value.ref e:=l;obtain⟨A,f,w,p⟩:=(a.hok e _ m).1;obtain⟨g,i,k⟩:=a.hok j _ v;have b:=k "act";have t:g "act"=some .none:=by
  cases z:g "act" with
  |none=>rw[z] at b;exact False.elim b
  |some y=>rw[z] at b;exact congrArg some b
 exact x_load a.kIn c f i t rfl ⟨.non,n,a.tok _,rfl,q⟩
def bBv (K:bFC)(D:V)(Du:Value)(b:Bool->Prop):List V->Hp->VK->Prop:=λxs H Q=>∃e T C dx fI bb,xs=[.ref e,D]/\H e=some (aEc e T C dx)/\XC K C fI/\H dx=some xdA/\PySem.W.mroIn K C Du=some bb/\b bb/\Q (.bl bb) H
def aSi (n:∀u,RelV D u->u=Du)(y:∀(M:Model) (h:Heap),X.K.In h->PySem.W.Looks M h (typeOf Du) (.type "type"))(v:∀(M:Model) (h:Heap),X.K.In h->PySem.W.Looks M h (isType Du) true) :
  dD X (.builtin "isinstance") (bBv X.K D Du λ_=>True):=by
 rintro bFG s σ H xs us Q I r ⟨e,T,C,dx,fI,bb,rfl,he,c,hd,hm,-,q⟩;cases r with
 |cons r0 r1=>
  cases r1 with
  |@cons _ u2 _ _ r2 r3=>
   cases r3;obtain rfl:=r0;have m:=(n _ r2).symm;subst m;obtain⟨l,f,p,j⟩:=(I.hok e _ he).1;have d:∃o,s.heap.get? dx=some o:=by obtain⟨x,⟨o,_,_,k,_⟩,_⟩:=I.hok dx _ hd;exact⟨o,k⟩
   have g:Meets (Builtin.«isinstance» ⟨[.ref e,Du],[]⟩) (λ_ R s=>X.K.In s.heap/\s.heap.get? e=some { cls:=.ref C,dict:=some dx,data:=.fields l }/\(∃o,s.heap.get? dx=some o)/\∀t,R (.ok (.ret (.bool bb))) { s with toks:=t }):=
    λi w A R s b=>isinstance_outer (aG9 b.1 c b.2.1 (λa z=>by cases z;exact b.2.2.1) (y _ _ b.1) (v _ _ b.1) hm λt=>b.2.2.2 t) (by intro z;cases z)
   exact call_isinstance g ⟨I.kIn,f,d,λt=>⟨.bl bb,H,I.tok t,rfl,q⟩⟩
def aYx (b:XS X.K D):dD X (.builtin "isinstance") (bBv X.K (.ref D) (.ref D) λ_=>True):=by
 refine aSi (λu r=>r) (λM h k=>PySem.W.looks_typeIn k b.ty) λM h k=>?_;obtain⟨c,q⟩:=Option.isSome_iff_exists.mp b.cls;unfold PySem.W.clsIn at q
 split at q
 ·rename_i a;exact (PySem.W.Looks.ld (k _ _ a)).andThen .now
 ·cases q
end
end L2
namespace PySem
namespace RvF
end RvF
section
variable {prog:Program}{w:World}{A:Around}{E:bFD}{s:Shared}
end
end PySem
namespace L2
open PySem PySem.Spec PyProof.Rows
def aAo:bootBuiltins "int"=some (.type "int"):=by trivial
def aP3:bootBuiltins "bool"=some (.type "bool"):=by trivial
def kI:bootBuiltins "str"=some (.type "str"):=by trivial
def xG:bootBuiltins "list"=some (.type "list"):=by trivial
def cB:bootBuiltins "tuple"=some (.type "tuple"):=by trivial
def aWt:bootBuiltins "dict"=some (.type "dict"):=by trivial
def bAq:bootBuiltins "zip"=some (.type "zip"):=by trivial
def aG1:bootBuiltins "enumerate"=some (.type "enumerate"):=by trivial
def bC:bootBuiltins "isinstance"=some (.builtin "isinstance"):=by trivial
def cR:bootBuiltins "len"=some (.builtin "len"):=by trivial
def aAb:bootBuiltins "all"=some (.builtin "all"):=by trivial
def aZw:bootBuiltins "any"=some (.builtin "any"):=by trivial
def aZ3:bootBuiltins "min"=some (.builtin "min"):=by trivial
def aR3:bootBuiltins "sorted"=some (.builtin "sorted"):=by trivial
def sgn (x:Str)(i:Nat):Str:=⟨#[x.cps.getD i 0]⟩
def aV2 (h:x.cps[i]?=some c):(⟨#[c]⟩:Str)=sgn x i:=by unfold sgn;rw[bCN,h];rfl
def Its (x:Str):It:=⟨λi _=>i<x.cps.size,λi H v H'=>H'=H/\v=.str (sgn x i),λi _=>x.cps.size<=i⟩
def aRp {P:Program}{w:World}{K:bFC}{tg:Expr}(it:Addr)(x:Str)(t:Tok):Turn P w K tg (Its x) [it] it (λi h=>h.IsStrIter it "str_ascii_iterator" x t i) where
 mem:=by simp
 obj:=λi h st b a=>by
  have e:b=it:=by simpa using a
  subst e;obtain⟨o,e,c,d⟩:=st;exact⟨o,e,λv z=>by rw[d] at z;cases z⟩
 keep:=λi h l st k=>let ⟨o,ho,r⟩:=st;⟨o,k it (by simp) o ho,r⟩
 item:=by intro X y C n B i g s σ H E I j st p;subst y C n;obtain⟨q,m,O,A,G,F⟩:=j it (by simp);refine (Walks.strAscii (prog:=X.prog) (w:=X.w) (I.ok.hd B) it x t).item i s _ _ p st λv l J N f R=>?_;obtain⟨c,u,D,rfl⟩:=N;have M:Inv X g σ H { s with heap:=l,toks:=J }:=I.turned (λb o a e=>R b o (by simpa using a) e) q m A G F;obtain⟨o,e,Q,d⟩:=id f;exact⟨_,rfl,aL3 (s:={ s with heap:=l,toks:=J }) e Q d (by decide) ⟨.str ⟨#[c]⟩,H,M,⟨u,rfl⟩,⟨rfl,by rw[aV2 D]⟩,f,λb a=>(j b a).1⟩⟩
 done:=by intro X y C n B i g s σ H E I j st p;subst y C n;obtain⟨q,m,O,A,G,F⟩:=j it (by simp);exact wpAny_pyNext_ascii_end (I.ok.hd B) st (Array.getElem?_eq_none_iff.mpr p) λl L=>⟨rfl,I.turned (t':=s.toks) (λb o a e=>L b o a e) q m A G F⟩
 self:=λ_ _ _ _ _ st h=>wpAny_pyIter_striter_ascii st h
def aRd {P:Program}{w:World}{K:bFC}{tg:Expr}(it:Addr)(x:Str)(t:Tok):Turn P w K tg (Its x) [it] it (λi h=>h.IsStrIter it "str_iterator" x t i) where
 mem:=by simp
 obj:=λi h st b a=>by
  have e:b=it:=by simpa using a
  subst e;obtain⟨o,e,c,d⟩:=st;exact⟨o,e,λv z=>by rw[d] at z;cases z⟩
 keep:=λi h l st k=>let ⟨o,ho,r⟩:=st;⟨o,k it (by simp) o ho,r⟩
 item:=by intro X y C n B i g s σ H E I j st p;subst y C n;obtain⟨q,m,O,A,G,F⟩:=j it (by simp);refine (Walks.strWide (prog:=X.prog) (w:=X.w) (I.ok.hd B) it x t).item i s _ _ p st λv l J N f R=>?_;obtain⟨c,u,D,rfl⟩:=N;have M:Inv X g σ H { s with heap:=l,toks:=J }:=I.turned (λb o a e=>R b o (by simpa using a) e) q m A G F;obtain⟨o,e,Q,d⟩:=id f;exact⟨_,rfl,aL3 (s:={ s with heap:=l,toks:=J }) e Q d (by decide) ⟨.str ⟨#[c]⟩,H,M,⟨u,rfl⟩,⟨rfl,by rw[aV2 D]⟩,f,λb a=>(j b a).1⟩⟩
 done:=by intro X y C n B i g s σ H E I j st p;subst y C n;obtain⟨q,m,O,A,G,F⟩:=j it (by simp);exact wpAny_pyNext_wide_end (I.ok.hd B) st (Array.getElem?_eq_none_iff.mpr p) λl L=>⟨rfl,I.turned (t':=s.toks) (λb o a e=>L b o a e) q m A G F⟩
 self:=λ_ _ _ _ _ st h=>wpAny_pyIter_striter_wide st h
section
variable {X:Cx}{tg:Expr}
def bAe (tl:TE):TI:=fun σ H R=>tl σ H λx H1=>∃z,x=.str z/\R (Its z) H1
def bBt (n:PE X l tl):PI X tg l (bAe tl):=by
 intro c s σ H R I h;refine thn (n c s σ H _ I h) λv a ⟨x,f,d,k,m⟩=>?_;obtain⟨z,e,q⟩:=m;subst e;obtain⟨t,rfl⟩:=k;have g:∀b∈[a.heap.objs.size],tY X c f b:=λb j=>by
  have e:b=a.heap.objs.size:=by simpa using j
  subst e;exact d.aM8 (j9 _) (d.hok.fresh (j9 _))
 cases i:z.cps.all (·<128)
 ·exact wpAny_pyIter_wide i ⟨a.heap.objs.size,[a.heap.objs.size],_,_,f,rfl,d.kept (t':=a.toks) λb o e=>c7 _ e,aRd _ z t,⟨_,w6 _ rfl,rfl,rfl⟩,g,q⟩
 ·exact wpAny_pyIter_ascii i ⟨a.heap.objs.size,[a.heap.objs.size],_,_,f,rfl,d.kept (t':=a.toks) λb o e=>c7 _ e,aRp _ z t,⟨_,w6 _ rfl,rfl,rfl⟩,g,q⟩
def aMs (x:V)(T:String):Option Bool:=match x with
 |.int _=>if T = "int" then some true else if T = "bool" then some false else if T = "str" then some false else none
 |.str _=>if T = "int" then some false else if T = "bool" then some false else if T = "str" then some true else none
 |.bl _=>if T = "int" then some true else if T = "bool" then some true else if T = "str" then some false else none
 |_=>none
def bD7:List V->Hp->VK->Prop:=λxs H Q=>∃x T b,xs=[x,.ty T]/\aMs x T=some b/\Q (.bl b) H
def gA:dD X (.builtin "isinstance") bD7:=by
 intro d s σ H l m Q I r h;obtain⟨x,T,b,rfl,e,q⟩:=h;obtain⟨u,v,rfl,g,j⟩:=r.two;cases j;have f:∀{k:Bool},some k=some b->EP X d σ Q (.bool k) s:=λe=>by cases e;exact⟨.bl _,H,I,rfl,q⟩
 have c:∀{k:Bool},some k=some b->EP X d σ Q (.bool k) { s with toks:=s.toks+1 }:=λe=>by cases e;exact⟨.bl _,H,I.tok _,rfl,q⟩
 cases x with
 |int i=>
  obtain⟨t,rfl⟩:=g;unfold aMs at e;dsimp only at e
  split at e
  ·rename_i a;subst a;exact IsiPair.int_int (f e)
  split at e
  ·rename_i a;subst a;exact IsiPair.int_bool (c e)
  split at e
  ·rename_i a;subst a;exact IsiPair.int_str (c e)
  ·cases e
 |str z=>
  obtain⟨t,rfl⟩:=g;unfold aMs at e;dsimp only at e
  split at e
  ·rename_i a;subst a;exact IsiPair.str_int (c e)
  split at e
  ·rename_i a;subst a;exact IsiPair.str_bool (c e)
  split at e
  ·rename_i a;subst a;exact IsiPair.str_str (f e)
  ·cases e
 |bl z=>
  cases g;unfold aMs at e;dsimp only at e
  split at e
  ·rename_i a;subst a;exact IsiPair.bool_int (f e)
  split at e
  ·rename_i a;subst a;exact IsiPair.bool_bool (f e)
  split at e
  ·rename_i a;subst a;exact IsiPair.bool_str (c e)
  ·cases e
 |_=>cases (show (none:Option Bool)=some b from e)
end
def small (h:n<=1000):n<=sizeLine:=bET (dC h)
def fP:Vals [] []:=.nil
def bW (r:RelV x u)(t:Vals xs us):Vals (x::xs) (u::us):=.cons r t
def eQ:Expr->Bool
 |.Starred ..=>false
 |_=>true
def bR (h:eQ e=true):starEach (e::es) env=(false,eval e env)::starEach es env:=by cases e <;> first|rfl|cases h
def bBm (b:PE X e te)(a:PA X es t)(c:eQ e=true:=by rfl) :
  PA X (e::es) (dO te t):=aWu b a (bR c)
def bC3 (c:Gl X x)(a:∃u,X.mg x=some u/\RelV v u)(b:(x == ("__debug__":Str))=false:=by decide):PE X (.Name x pos) (tC v):=by obtain⟨u,a,r⟩:=a;exact aXo c a r b
section
variable {P:Program}{w:World}{K:bFC}{mg:bFF}{base:Heap}
def Dn (K:bFC)(mg:bFF)(x:Str)(st:Stmt)(ps:List Str):Prop:=∃f fd,Fun K x x st f fd/\Binds K fd ps []/\mg x=some (.ref f)
def Ok (P:Program)(w:World)(K:bFC)(mg:bFF)(base:Heap)(k:Nat)(x:Str)(ps:List Str)(sp:Sp):Prop:=
 ∃f fd,mg x=some (.ref f)/\PySem.W.keepIn K (.ref f)=true/\Binds K fd ps []/\gJ P w K mg base CX0 k f fd ps sp
def Ok.mono (h:Ok P w K mg base j x ps sp)(g:j<=k):Ok P w K mg base k x ps sp:=by obtain⟨f,e,d,c,b,a⟩:=h;exact⟨f,e,d,c,b,a.mono g⟩
def Ok.of {x:Str}{st:Stmt}{N ps:List Str}{k:Nat}{sp:Sp}(D:Dn K mg x st ps)(S:aN N ps (aD st))(d:∀vs H Q E,sp vs H Q E->vs.length=ps.length)
  (a:∀(f:Addr) (cdv:Value) (A:Around) (outer:List Env) (s:Shared) (H:Hp) (vs:List V) (Q:VK) (E:XK),Room k (A.deeper (envOfC x (aD st) s.heap.objs.size f cdv))->sp vs H Q E ->
   ∃t,PSs (xM CX0 P w K mg base N x (aD st) f cdv A outer s H E).nox (eY st) t/\t { nx:=λ_ H'=>Q .non H',rt:=Q } (start N vs) H):Ok P w K mg base (k+1) x ps sp:=by
 obtain⟨f,c,F,B,m⟩:=D;exact⟨f,c,m,F.kp,B,F.ok S d λcdv A outer s H vs Q E b h=>a f cdv A outer s H vs Q E b h⟩
end
section
variable {X:Cx}{k:Nat}{ps:List Str}{sp:Sp}{x:Str}{p pos:Pos}{e:Expr}{es:List Expr}{t:TA}
def bDf (G:Ok X.prog X.w X.K X.mg X.base k x ps sp)(j:Room k X.A)(n:Gl X x)(l:PA X (e::es) t)(d:(x == ("__debug__":Str))=false:=by decide)
  (i:starEach (e::es) X.env=(false,eval e X.env)::starEach es X.env:=by rfl) (g:(backTo pos (starEach es X.env)).any (·.1)=false:=by rfl) :
  PE X (.Call (.Name x p) (e::es) [] pos) (aAy sp [] E0 t):=by
 obtain⟨f,m,h,c,b,a⟩:=G;exact aO0 a j n h c b .nil aCe l d i g
def bBp (G:Ok X.prog X.w X.K X.mg X.base k x ps sp)(g:Room k X.A)(i:Gl X x)(d:(x == ("__debug__":Str))=false:=by decide) :
  PE X (.Call (.Name x p) [] [] pos) (aAy sp [] E0 wC):=by
 obtain⟨f,h,e,c,b,a⟩:=G;exact aTv a g i e c b .nil aCe d
end
theorem wA (f:Str × NameKind->List (Str × Addr)->Sem (ForInStep (List (Str × Addr))))
  (l:∀n r,f (n,.free) r=(cellOf env n >>= λa=>pure (.yield ((n,a)::r)))) (j:∀n k r,k≠.free->f (n,k) r=pure (.yield r)) :
  ∀(names:List (Str × NameKind)) (acc:List (Str × Addr)),(∀y∈names,y.2=.free->∃c,env.cells.lookup y.1=some c) ->
  ∃cl,forIn names acc f=(pure (cl++acc):Sem _)/\(∀p∈cl,env.cells.lookup p.1=some p.2/\(p.1,NameKind.free)∈names)/\∀y,(y,NameKind.free)∈names->∃c,(y,c)∈cl
 |[],acc,_=>⟨[],by simp,λ_ h=>(nomatch h),λ_ h=>(nomatch h)⟩
 |(n,k)::r,acc,h=>by
  by_cases g:k=.free
  ·subst g;obtain⟨c,i⟩:=h (n,.free) j5 rfl;obtain⟨cl,e,b,d⟩:=wA f l j r ((n,c)::acc) λy hy=>h y (j7 _ hy);refine⟨cl++[(n,c)],?_,λp hp=>?_,λy hy=>?_⟩
   ·rw[bDL,l];have m:cellOf env n=pure c:=by unfold cellOf;rw[i]
    rw[m,pure_bind,pure_bind];show forIn r ((n,c)::acc) f=_;rw[e,bAD];rfl
   ·rcases List.mem_append.mp hp with hp|hp
    ·exact⟨(b p hp).1,j7 _ (b p hp).2⟩
    ·obtain rfl:=List.mem_singleton.mp hp;exact⟨i,j5⟩
   ·rcases List.mem_cons.mp hy with e|hy
    ·cases e;exact⟨c,by simp⟩
    ·obtain⟨o,q⟩:=d y hy;exact⟨o,bDP _ q⟩
  ·obtain⟨cl,e,b,d⟩:=wA f l j r acc λy hy=>h y (j7 _ hy);refine⟨cl,?_,λp hp=>⟨(b p hp).1,j7 _ (b p hp).2⟩,λy hy=>?_⟩
   ·rw[bDL,j n k acc g,pure_bind];exact e
   ·rcases List.mem_cons.mp hy with e|hy
    ·cases e;exact absurd rfl g
    ·exact d y hy
def aM3 (h:∀y∈scope.names,y.2=.free->∃c,env.cells.lookup y.1=some c) :
  ∃cl,closureFor scope env=pure cl/\(∀p∈cl,env.cells.lookup p.1=some p.2/\(p.1,NameKind.free)∈scope.names)/\∀y,(y,NameKind.free)∈scope.names->∃c,(y,c)∈cl:=by
 unfold closureFor;obtain⟨cl,e,b,d⟩:=wA (env:=env) (λx r=>match x with|(name,kind)=>if (kind == NameKind.free)=true then do let a <-cellOf env name;pure (.yield ((name,a)::r)) else pure (.yield r))
  (λn r=>rfl) (λn k r f=>by
   have:(k == NameKind.free)=false:=by simpa using f
   simp only[this,bCR,if_false]) scope.names [] h
 refine⟨cl,?_,b,d⟩;rw[bAW] at e;refine Eq.trans ?_ e;first
 |rfl
 |simp
theorem lookup_mem {α β:Type}[BEq α][LawfulBEq α]{a:α}{b:β}:∀{l:List (α × β)},(a,b)∈l->∃b',l.lookup a=some b'
 |(x,y)::r,h=>by
  rw[bCO];by_cases e:(a == x)=true
  ·exact⟨y,by rw[e]⟩
  ·have c:(a == x)=false:=by simpa using e
   rw[c];rcases List.mem_cons.mp h with z|z
   ·cases z;simp at e
   ·exact lookup_mem z
theorem xE {env:Env}{y:Str}{k:NameKind}:∀{names:List (Str × NameKind)},names.lookup y=some .free ->
  (names.map λx=>match x with|(n,k)=>if (k == NameKind.free && env.scope.kind == ScopeKind.function && env.kindOf n == some NameKind.cell) then (n,NameKind.cell) else (n,k)).lookup y=some .cell \/
  (names.map λx=>match x with|(n,k)=>if (k == NameKind.free && env.scope.kind == ScopeKind.function && env.kindOf n == some NameKind.cell) then (n,NameKind.cell) else (n,k)).lookup y=some .free
 |[],h=>by simp at h
 |(n,k')::r,h=>by
  rw[bAB];rw[bCO] at h;by_cases e:(y == n)=true
  ·rw[e] at h;cases h;by_cases q:((NameKind.free == NameKind.free) && env.scope.kind == ScopeKind.function && env.kindOf n == some NameKind.cell)=true
   ·left;simp only[q,if_true,bCO,e]
   ·right;have g:=Bool.eq_false_iff.mpr q;simp only[g,bCR,if_false,bCO,e]
  ·have b:(y == n)=false:=by simpa using e
   rw[b] at h;have d:=xE (env:=env) (k:=k) h;have a:∀z:Str × NameKind,z.1=n->(List.lookup y (z::(r.map λx=>match x with|(n,k)=>if (k == NameKind.free && env.scope.kind == ScopeKind.function && env.kindOf n == some NameKind.cell) then (n,NameKind.cell) else (n,k)))) =
     List.lookup y (r.map λx=>match x with|(n,k)=>if (k == NameKind.free && env.scope.kind == ScopeKind.function && env.kindOf n == some NameKind.cell) then (n,NameKind.cell) else (n,k)):=λz f=>by
    obtain⟨j,i⟩:=z;cases f;rw[bCO,b]
   have c:(match ((n,k'):Str × NameKind) with|(n,k)=>if (k == NameKind.free && env.scope.kind == ScopeKind.function && env.kindOf n == some NameKind.cell) then (n,NameKind.cell) else (n,k)).1=n:=by
    dsimp only
    split <;> rfl
   rw[a _ c];exact d
theorem yM {env:Env}{y:Str}:∀{names:List (Str × NameKind)},(∀z∈names,z.2≠.cell) ->
  ((names.map λx=>match x with|(n,k)=>if (k == NameKind.free && env.scope.kind == ScopeKind.function && env.kindOf n == some NameKind.cell) then (n,NameKind.cell) else (n,k)).lookup y=some .cell \/
  (names.map λx=>match x with|(n,k)=>if (k == NameKind.free && env.scope.kind == ScopeKind.function && env.kindOf n == some NameKind.cell) then (n,NameKind.cell) else (n,k)).lookup y=some .free)->(y,NameKind.free)∈names
 |[],_,h=>by simp at h
 |(n,k')::r,hc,h=>by
  rw[bAB] at h;by_cases e:(y == n)=true
  ·have d:y=n:=by simpa using e
   subst d;have f:k'=.free:=by
    by_cases q:((k' == NameKind.free) && env.scope.kind == ScopeKind.function && env.kindOf y == some NameKind.cell)=true
    ·rw[bAI,bAI] at q;simpa using q.1.1
    ·have i:=Bool.eq_false_iff.mpr q;simp only[i,bCR,if_false,bCO,e] at h;rcases h with h|h
     ·cases h;exact absurd rfl (hc (y,.cell) j5)
     ·cases h;rfl
   subst f;exact j5
  ·have g:(y == n)=false:=by simpa using e
   have a:∀z:Str × NameKind,z.1=n->(List.lookup y (z::(r.map λx=>match x with|(n,k)=>if (k == NameKind.free && env.scope.kind == ScopeKind.function && env.kindOf n == some NameKind.cell) then (n,NameKind.cell) else (n,k)))) =
     List.lookup y (r.map λx=>match x with|(n,k)=>if (k == NameKind.free && env.scope.kind == ScopeKind.function && env.kindOf n == some NameKind.cell) then (n,NameKind.cell) else (n,k)):=λz b=>by
    obtain⟨l,j⟩:=z;cases b;rw[bCO,g]
   have c:(match ((n,k'):Str × NameKind) with|(n,k)=>if (k == NameKind.free && env.scope.kind == ScopeKind.function && env.kindOf n == some NameKind.cell) then (n,NameKind.cell) else (n,k)).1=n:=by
    dsimp only
    split <;> rfl
   rw[a _ c] at h;exact j7 _ (yM (λz b=>hc z (j7 _ b)) h)
section
variable {prog:Program}{w:World}{A:Around}{E:bFD}{R:Result->Shared->Prop}{s:Shared}
def aQw (I:Nat->Shared->Prop)
  (d:∀n s,I n s->wpAny (model prog w) A (pyNext it) (λr s₁=>match r with
   |none=>R (.ok .next) s₁
   |some v=>wpAny (model prog w) A (letOwnedTupleGo target it v) (λ_ s'=>wpAny (model prog w) A (assign target env v) (λ_ s₂=>
     wpAny (model prog w) A (forIn ifs true λc r=>if r=true then do let ok <-isTrue c env (eval c env);pure (ForInStep.yield ok) else pure (ForInStep.yield r)) (λok s₃=>
      if ok=true then wpAny (model prog w) A (eval elt env) (λx s₄=>
       wpAny (model prog w) A (call (.builtin "list.append") [acc,x]) (λ_ s₅=>∃m,m<n/\I m s₅) (notedBy (model prog w) A env λe s'=>R (.error e) s') s₄) (notedBy (model prog w) A env λe s'=>R (.error e) s') s₃
      else ∃m,m<n/\I m s₃) (notedBy (model prog w) A env λe s'=>R (.error e) s') s₂) (notedBy (model prog w) A env λe s'=>R (.error e) s') s') (notedBy (model prog w) A env λe s'=>R (.error e) s') s₁)
   (notedBy (model prog w) A env λe s'=>R (.error e) s') s)
  (n:Nat) (h:I n s):codeAny (model prog w) A (.compLoop (.ListComp elt [⟨target,iter,ifs,0⟩] scope pos) 0 it acc env) R s:=by
 refine codeAny_loop rfl I (λn s i=>?_) n h;show wpAny _ A ((compTurn (.ListComp elt [⟨target,iter,ifs,0⟩] scope pos) 0 it acc env).onRaise (λx=>do noteFrame x env;theTreesLotGoes x)) _ _ s;refine wpAny_noted ?_;rw[compTurn_list];refine b7 (bDY (b7 (bBE (d n s i) (λr s₁ g=>?_) λ_ _ a=>a)));cases r with
 |none=>exact j8 g
 |some v=>
  refine b7 (bBE g (λ_ s' b=>b7 (bBE b (λ_ s₂ k=>b7 (bBE k (λok s₃ f=>?_) λ_ _ a=>a)) λ_ _ a=>a)) λ_ _ a=>a);cases ok with
  |false=>exact j8 ⟨rfl,f⟩
  |true=>exact b7 (b7 (bBE f (λx s₄ l=>b7 (bBE l (λ_ s₅ j=>j8 (j8 ⟨rfl,j⟩)) λ_ _ a=>a)) λ_ _ a=>a))
end
def cxC (X:Cx)(N:List Str)(scope:Scope)(cl:List (Str × Addr))(s:Shared)(H:Hp)(fp:List Addr):Cx:=
 { X with N:=N,s₀:=s,H₀:=H,env:=compEnvC scope cl s.heap.objs.size X.env,outer:=X.stack,stack:=X.stack,ex:=fp,fn:=λ_=>false,pn:=[],xe:=λ_ _=>False }
def aQg (X:Cx)(ifs:List Expr)(tt:TT):Prop:=
 ∀bFG s σ H Q,Inv X bFG σ H s->tt σ H Q ->
  wpAny (model X.prog X.w) X.A (forIn ifs true λc r=>if r=true then do let ok <-isTrue c X.env (eval c X.env);pure (ForInStep.yield ok) else pure (ForInStep.yield r)) (TP X bFG σ Q) X.xe s
def uA:TT:=λ_ H Q=>Q true H
def bAu:aQg X [] uA:=λ_ _ _ H _ I h=>wpAny_tests_nil ⟨H,I,h⟩
def bAx (h:PT X c tc):aQg X [c] tc:=λa s σ H Q I q=>wpAny_tests_one (h a s σ H Q I q)
structure wD (scope:Scope)(N:List Str):Prop where
 cell:∀y∈scope.names,y.2≠.cell
 kind:scope.kind=.function
 names:∀y∈scope.names,y.2=.local->scope.names.lookup y.1=some .local
 free:∀y∈scope.names,y.2=.free->scope.names.lookup y.1=some .free
def Cap (X:Cx)(scope:Scope)(N:List Str)(σ σ':St):Prop:=
 σ'.length=N.length/\∀(i:Nat) (y:Str) (v:V),N[i]?=some y->σ'[i]?=some (some v)->(y,NameKind.free)∈scope.names/\∃j:Nat,X.N[j]?=some y/\σ[j]?=some (some v)/\Vis X.env.scope y
def aUw {X:Cx}{bFG:bFE}{σ σ':St}{H:Hp}{s:Shared}{scope:Scope}{N:List Str}{cl:List (Str × Addr)}{fp:List Addr}{h1:Heap}{tk:Nat}{m1:bFF}
  (I:Inv X bFG σ H s) (C:wD scope N) (Z:∀y,(y,NameKind.free)∈scope.names->X.env.kindOf y=some .cell\/X.env.kindOf y=some .free)
  (p1:∀p∈cl,X.env.cells.lookup p.1=some p.2/\(p.1,NameKind.free)∈scope.names) (p2:∀y,(y,NameKind.free)∈scope.names->∃c,(y,c)∈cl)
  (B:Cap X scope N σ σ') (L:∀b∈fp,tY X bFG H b) (R:∀b∈fp,b<s.heap.objs.size)
  (hn:h1.Ns s.heap.objs.size m1) (E:∀b o,s.heap.get? b=some o->h1.get? b=some o) :
  Inv (cxC X N scope cl s H fp) [] σ' H { s with heap:=h1,toks:=tk }:=by
 have a:=I.ok;have f:∀y c,cl.lookup y=some c->X.env.cells.lookup y=some c:=λy c e=>(p1 _ (PySem.mem_of_lookup e)).1;have w:∀y,(y,NameKind.free)∈scope.names->∃c,cl.lookup y=some c/\X.env.cells.lookup y=some c:=λy d=>by obtain⟨c,hc⟩:=p2 y d;obtain⟨J,e⟩:=lookup_mem hc;exact⟨J,e,f y J e⟩
 have n:∀b∈fp,b∉frs X.stack:=λb g z=>by
  obtain⟨M,A,F,_⟩:=L b g;rcases List.mem_cons.mp (I.aN8 b z) with e|e
  ·exact A e
  ·exact F e
 have K:(cxC X N scope cl s H fp).Ok:=by
  refine⟨a.mod,C.kind,a.glob,a.blt,j9 _,λx y c h1 h2=>a.inj x y c (f x c h1) (f y c h2),λy d=>?_,λy c h _=>?_,a.hd,a.frames,.inl rfl,λb g=>?_,I.bs,bAG a.bsz I.sz,
   λb o e g=>?_,n,I.stack,I.aIf⟩
  ·obtain⟨c,e,_⟩:=w y (yM C.cell d);exact⟨c,e⟩
  ·exact absurd (show false=true from h) bAA
  ·obtain⟨M,A,F,O,P,f5⟩:=L b g;exact⟨bAF (R b g),λx c e=>P x c (f x c e)⟩
  ·obtain⟨M,A,F,O,P,f5⟩:=L b g;rcases O with z|z
   ·exact a.noex b o e z
   ·exact absurd (bAL (z9 e) (bAG a.bsz z)) (bCF _)
 refine⟨K,rfl,I.bare,Un.kept E,⟨m1,hn,λi y v Y T e3=>?_⟩,λy c e=>?_,I.hok.fresh (j9 _),λy c e=>I.freeC y c (f y c e),λp Q=>absurd (show p∈([]:bFE) from Q) (by simp),I.hok.kept E,B.1⟩
 ·obtain⟨d,j,U,W,e6⟩:=B.2 i y v Y T;obtain⟨m,_,S⟩:=I.loc;obtain⟨u,r,l⟩:=S j y v U W e6;refine⟨u,r,.inr ?_⟩;rcases l with⟨k,_⟩|⟨k,c,e,z⟩
  ·rcases Z y d with q|q <;> (rw[k] at q;cases q)
  ·obtain⟨J,e',t⟩:=w y d;rw[e] at t;cases t;have V:=xE (env:=X.env) (k:=.free) (C.free (y,.free) d rfl);refine⟨V,c,e',?_⟩;obtain⟨o,G,D⟩:=z;exact⟨o,E _ _ G,D⟩
 ·obtain⟨v,o,G,D⟩:=I.cell y c (f y c e);exact⟨v,o,E _ _ G,D⟩
def jP (X:Cx)(scope:Scope)(N:List Str)(wi:TI)(g:TG)(tt:TT)(te:TE):TE:=fun σ H Q=>∃σ0,Cap X scope N σ σ0/\wi σ H λJ H1=>∀D,H1 D=none->∃W:Nat->Nat->St->Hp->List V->Prop,(∃m,W 0 m σ0 (upd H1 D (.lst [])) []) /\
 ∀i m σ' H' ys,W i m σ' H' ys->H' D=some (.lst ys)/\((J.stop i H'/\Q (.ref D) H')\/(J.go i H'/\∀x H2,J.yld i H' x H2->g x σ' H2 fun σ3 H3=>tt σ3 H3 λb H4=>
  if b=true then te σ3 H4 λy H5=>H5 D=some (.lst ys)/\ys.length<sizeLine/\∃m',m'<m/\W (i+1) m' σ3 (upd H5 D (.lst (ys++[y]))) (ys++[y]) else H4 D=some (.lst ys)/\∃m',m'<m/\W (i+1) m' σ3 H4 ys))
def aF8 {X:Cx}{au aa ar:Expr}{aw:List Expr}{scope:Scope}{pos p9:Pos}{N:List Str}{wi:TI}{g:TG}{tt:TT}{te:TE}{use:Option (Value->Sem Unit)}{QQ:bFD}{a4:bFE}{s:Shared}{σ:St}{H:Hp}{Qv:VK}
  (C:wD scope N) (ag:∀y,(y,NameKind.free)∈scope.names->X.env.kindOf y=some .cell\/X.env.kindOf y=some .free) (hc:X.calm=true)
  (hi:PI X aa ar wi)
  (a:∀cl s H fp,PG (cxC X N scope cl s H fp) aa g/\aQg (cxC X N scope cl s H fp) aw tt/\PE (cxC X N scope cl s H fp) au te)
  (hs:∀x,foldedSetIterable ar X.env x=pure x) (I:Inv X a4 σ H s) (hq:jP X scope N wi g tt te σ H Qv)
  (a6:∀(D fr:Addr) (H5:Hp) (s6:Shared),(∃m6,s6.heap.Ns fr m6)->(∀h',(∀b o,b≠fr->s6.heap.get? b=some o->h'.get? b=some o)->Inv X a4 σ H5 { s6 with heap:=h' })->tY X a4 H5 fr->Qv (.ref D) H5->compPost (model X.prog X.w) X.A X.xe use QQ (.ref D) fr (.ok .next) s6) :
  wpAny (model X.prog X.w) X.A (comprehension (.ListComp au [⟨aa,ar,aw,0⟩] scope pos) scope X.env p9 (newList []) false (eval ar X.env) use) QQ X.xe s:=by
 obtain⟨σ0,ad,hq⟩:=hq;obtain⟨cl,al,p1,p2⟩:=aM3 (scope:=scope) (env:=X.env) (λy hy hk=>by obtain⟨n,k⟩:=y;cases hk;exact I.ok.has n (ag n hy))
 refine wpAny_comprehension_free (use:=use) rfl hs al C.kind C.names (thn (hi a4 s σ H _ I hq) λxv s1 h1=>thn h1 λav f h2=>?_);obtain⟨it,fp,tn,J,G,rfl,I2,T,a0,f2,q2⟩:=h2;refine bAX (wpAny_newFunctionEnv C.cell (by intro y hy;simp at hy) (λY F B=>?_) C.kind);dsimp only at F B ⊢;have hD:G f.heap.objs.size=none:=I2.hok.fresh (j9 _);have I3:Inv X a4 σ (upd G f.heap.objs.size (.lst [])) { f with heap:=f.heap.push { cls:=.type "list",dict:=none,data:=.seq ([]:List Value).toArray } }:=
  I2.laid (t':=f.toks) (λb u e=>c7 _ e) (j9 _) ⟨bAK _,[],0,.nil,w6 _ rfl⟩
 generalize Z:({ f with heap:=f.heap.push { cls:=.type "list",dict:=none,data:=.seq ([]:List Value).toArray } }:Shared)=s3 at I3;have P:f.heap.push { cls:=.type "list",dict:=none,data:=.seq ([]:List Value).toArray }=s3.heap:=by rw[<-Z]
 rw[P] at F B;have a7:∀b∈fp,b<f.heap.objs.size:=λb a=>by obtain⟨o,e,_⟩:=T.obj _ _ a0 b a;exact z9 e
 have ac:∀b∈fp,b<s3.heap.objs.size:=λb a=>by rw[<-P,bCH];exact Nat.lt_succ_of_lt (a7 b a)
 have f3:∀b∈fp,tY X a4 (upd G f.heap.objs.size (.lst [])) b:=λb a=>by obtain⟨f0,fr⟩:=f2 b a;exact⟨by rw[aV (bAF (a7 b a))];exact f0,fr⟩
 have E:∀b o,s3.heap.get? b=some o->Y.get? b=some o:=λb o e=>B.extBut b o (bAF (z9 e)) (c7 _ e);have I4:=aUw (tk:=s3.toks) I3 C ag p1 p2 ad f3 ac F E;have a8:tn 0 Y:=T.keep _ _ _ a0 λb a o e=>E b o (by rw[<-P];exact c7 _ e);obtain⟨W,⟨m0,w0⟩,a5⟩:=q2 f.heap.objs.size hD;have V:∀{U:Hp},(∀b∈fp,U b=none)->∀b∈fp,tY (cxC X N scope cl s3 (upd G f.heap.objs.size (.lst [])) fp) [] U b:=λ{U} hn b a=>by obtain⟨e1,e2⟩:=I4.ok.exf b a;exact⟨hn b a,e1,I4.ok.exfs b a,.inl a,e2,λp hp=>absurd (show p∈([]:bFE) from hp) (by simp)⟩
 have L:∀s4:Shared,s4={ s3 with heap:=Y,toks:=s3.toks } ->
   codeAny (model X.prog X.w) X.A (.compLoop (.ListComp au [⟨aa,ar,aw,0⟩] scope pos) 0 (.ref it) (.ref f.heap.objs.size) (compEnvC scope cl s3.heap.objs.size X.env))
    (compPost (model X.prog X.w) X.A X.xe use QQ (.ref f.heap.objs.size) s3.heap.objs.size) s4:=by
  rintro s4 rfl;refine aQw (λn s'=>∃i σ' U ys,Inv (cxC X N scope cl s3 (upd G f.heap.objs.size (.lst [])) fp) [] σ' U s'/\tn i s'.heap/\(∀b∈fp,U b=none)/\W i n σ' U ys) ?_ m0 ⟨0,σ0,_,[],I4,a8,λb a=>(f3 b a).1,w0⟩;rintro n s5 ⟨i,σ5,H5,ys,I5,st5,fr5,w5⟩;obtain⟨aq,w5⟩:=a5 i n σ5 H5 ys w5;have j:∀{α:Type} {t:Sem α} {Q':α->Shared->Prop} {E':bFD} {s':Shared},wpAny (model X.prog X.w) X.A t Q' (λ_ _=>False) s'->wpAny (model X.prog X.w) X.A t Q' E' s':=λh=>bBE h (λ_ _ q=>q) λ_ _ z=>z.elim;rcases w5 with⟨a2,qn⟩|⟨go,step⟩
  ·refine j (thn (T.done (cxC X N scope cl s3 (upd G f.heap.objs.size (.lst [])) fp) rfl rfl rfl hc i [] s5 σ5 H5 _ I5 (V fr5) st5 a2) λr s6 ⟨hr,R⟩=>?_);subst hr;obtain⟨m6,ap,_⟩:=R.loc;refine a6 _ _ H5 s6 ⟨m6,ap⟩ (λh' kp=>?_) (I3.aM8 (j9 _) R.free) qn;have S:∀b o,s3.heap.get? b=some o->b≠s3.heap.objs.size:=λb o e=>bAF (z9 e);have un:Un (frs X.stack) fp (upd G f.heap.objs.size (.lst [])) H5 s3.heap h':=by
    have u:=R.base;exact⟨λb o e n a hx=>kp b o (S b o e) (u.keep b o e n a hx),λb o e n a hx=>by
     obtain⟨sl,e1⟩:=u.slot b o e n a hx;exact⟨sl,kp b _ (S b o e) e1⟩,u.free,λb o e hx=>by
     obtain⟨o',e1⟩:=u.there b o e hx;exact⟨o',kp b _ (S b o e) e1⟩,u.tups,u.frzs,u.tbls⟩
   have an:HOk X.prog X.w H5 h':=λb u e=>by
    refine (R.hok b u e).stay (λc v ab q=>kp c v ?_ q) (λ_ q=>q) λ_ _ q=>q;have l:H5 s3.heap.objs.size=none:=R.free;rintro rfl;rcases ab with z|z
    ·rw[z] at l;rw[l] at e;cases e
    ·rw[l] at z;cases z
   refine I3.call' (s':={ s6 with heap:=h' }) R.os un an R.bare λb a=>?_;obtain⟨f0,f1,as,ai,f4,f5⟩:=f3 b a;exact⟨ai,f1,f4,f5⟩
  ·refine j (thn (T.item (cxC X N scope cl s3 (upd G f.heap.objs.size (.lst [])) fp) rfl rfl rfl hc i [] s5 σ5 H5 (λ_ _=>False) I5 (V fr5) st5 go) λr s6 ⟨u,hr,h6⟩=>?_);subst hr;refine j (thn h6 λ_ s7 ⟨x,H7,I7,r7,y7,Q,af⟩=>?_);obtain⟨hg,ht,he⟩:=a cl s3 (upd G f.heap.objs.size (.lst [])) fp;have ah:=I7.pinned (V af) (T.obj _ _ Q);have m:∀{M:St} {H8:Hp} {s8:Shared},Inv (cxC X N scope cl s3 (upd G f.heap.objs.size (.lst [])) fp) ([]++aCl fp s7.heap) M H8 s8->tn (i+1) s8.heap/\∀b∈fp,H8 b=none:=λ{M H8 s8} I8=>
    ⟨T.keep _ _ _ Q λb a o e=>(I8.pin (b,o) (bAO _ (bAO _ (qO a e)))).1,λb a=>by obtain⟨o,e,d⟩:=T.obj _ _ Q b a;exact (I8.pin (b,o) (bAO _ (bAO _ (qO a e)))).2.1⟩
   refine j (thn (hg _ s7 σ5 H7 x u _ ah r7 (step x H7 y7)) λ_ s8 ⟨M,H8,I8,q8⟩=>?_);refine j (thn (ht _ s8 M H8 _ I8 q8) λb s9 ⟨H9,I9,q9⟩=>?_);cases b with
   |false=>rw[if_neg bAA] at q9 ⊢;obtain⟨_,m',hm,w9⟩:=q9;exact⟨m',hm,i+1,M,H9,ys,I9.rG,(m I9).1,(m I9).2,w9⟩
   |true=>rw[if_pos rfl] at q9 ⊢;refine j (thn (he _ s9 M H9 _ I9 q9) λyv ae ⟨y,a9,ao,ak,K,a3,m',hm,am⟩=>?_);refine j (thn (aF5 _ ae M a9 (.ref f.heap.objs.size) [y] (.ref f.heap.objs.size) [yv] (λ_ a1=>a1=upd a9 f.heap.objs.size (.lst (ys++[y]))) ao rfl (.cons ak .nil) ⟨_,_,_,rfl,rfl,K,a3,rfl⟩) λ_ ax ⟨z,a1,O,_,aj⟩=>?_);subst aj;exact⟨m',hm,i+1,M,_,ys++[y],O.rG,(m O).1,(m O).2,am⟩
 have a6:=codeAny_compStart_list (L { s3 with heap:=Y,toks:=s3.toks } rfl) (T.self _ _ _ _ _ a8 (L { s3 with heap:=Y,toks:=s3.toks } rfl));subst Z;exact a6
def aWv
  (C:wD scope N) (k:∀y,(y,NameKind.free)∈scope.names->X.env.kindOf y=some .cell\/X.env.kindOf y=some .free) (r:X.calm=true)
  (t:PI X target iter wi)
  (d:∀cl s H fp,PG (cxC X N scope cl s H fp) target g/\aQg (cxC X N scope cl s H fp) ifs tt/\PE (cxC X N scope cl s H fp) elt te)
  (hs:∀x,foldedSetIterable iter X.env x=pure x:=by intro _;rfl) :
  PE X (.ListComp elt [⟨target,iter,ifs,0⟩] scope pos) (jP X scope N wi g tt te):=by
 intro j s σ H Q I m;rw[eval_ListComp];exact aF8 C k r t d hs I m λD q i p ⟨l,c⟩ a _ f=>⟨l,c,λn h=>⟨.ref D,i,a n λb o d e=>h.extBut b o d e,rfl,f⟩⟩
end L2
namespace PySem
open Sem (wp)
namespace IfF
def aUn:typeLookup (.type "function") "__class__"=pure (some (.builtin "object.__class__")):=by rw[typeLookup_type,builtinLookup_eq_fast];kernel_rfl
def aB0:Slot "function" "__getattribute__" "object.__getattribute__":=
 .of (owner:="object") (n:="__getattribute__") (by rw[typeLookup_type,builtinLookup_eq_fast];kernel_rfl) (by trivial) (by trivial) (by trivial)
  (by first|exact .inl (by trivial)|exact .inr (by trivial)) (by rw[isSubtype_type];kernel_rfl)
def aU5:entryFor table "object.__getattribute__"=some Builtin.«object.__getattribute__»:=entryFor_of_tree (by kernel_rfl)
def aBr:isSubtype (.type "function") (.type (".".intercalate ("object.__class__".cutAt '.').dropLast))=pure true:=by rw[F.owner_object_class,isSubtype_type];kernel_rfl
def sub_int:isSubtype (.type "function") (.type "int")=pure false:=by rw[isSubtype_type];kernel_rfl
def sub_bool:isSubtype (.type "function") (.type "bool")=pure false:=by rw[isSubtype_type];kernel_rfl
def aYr:isSubtype (.type "function") (.type "str")=pure false:=by rw[isSubtype_type];kernel_rfl
end IfF
section
variable {prog:Program}{w:World}{A:Around}{E:bFD}{h:Heap}{g:Array GenState}{d:Drawn}{t:Nat}{os:OsState}{a:Addr}{o:Obj}
def aG5 (e:h.get? a=some o)(c:o.cls=.type "function")(hq:R (.ok (.ret (.type "function"))) ⟨h,g,d,t,os⟩) :
  codeAny (model prog w) A (.call (.builtin "getset_descriptor.__get__") ⟨[.builtin "object.__class__",.ref a,.type "function"],[]⟩) R ⟨h,g,d,t,os⟩:=by
 have f:(⟨h,g,d,t,os⟩:Shared).TypeIs (.ref a) "function":=⟨_,e,c⟩;have b:=F.typeOf_object_class;have i:=IfF.aBr;refine bCI F.slot_gs_get.plain F.entry_gs_get (F.slot_gs_get.check _ _ _ _ _ _ _ _ b (F.args_gs_get _ _ _) ?_)
 repeat (any_goals (first|assumption|wp_step))
 refine⟨Code.quiet_builtin _ (by trivial),bEC F.entry_object_class ?_⟩
 repeat (any_goals (first|assumption|wp_step))
def aD4 (e:h.get? a=some o)(b:o.cls=.type "function")(hq:Q (.done (.ret (.type "function"))) ⟨h,g,d,t,os⟩) :
  wpAny (model prog w) A (Builtin.«object.__getattribute__» ⟨[.ref a,.str "__class__" tk],[]⟩) Q E ⟨h,g,d,t,os⟩:=by
 have f:(⟨h,g,d,t,os⟩:Shared).TypeIs (.ref a) "function":=⟨_,e,b⟩;have c:=F.typeOf_object_class;have k:=IfF.aUn;have i:=F.typeOf_object_class;have l:=F.slot_gs_get.lookup;have j:=F.slot_gs_set.lookup
 repeat (any_goals (first|assumption|wp_step))
 refine aG5 e b ?_
 repeat (any_goals (first|assumption|wp_step))
def aJq (e:h.get? a=some o)(c:o.cls=.type "function")(hq:Q (.type "function") ⟨h,g,d,t,os⟩):wpAny (model prog w) A (getAttrBy (.ref a) (.str "__class__" tk) false) Q E ⟨h,g,d,t,os⟩:=by
 have b:(⟨h,g,d,t,os⟩:Shared).TypeIs (.ref a) "function":=⟨_,e,c⟩;have f:=IfF.aB0.lookup;have i:=IfF.aB0.bind (.ref a)
 repeat (any_goals (first|assumption|wp_step))
 refine bCI IfF.aB0.plain IfF.aU5 (IfF.aB0.check _ _ _ _ _ _ _ _ b (F.args_object_getattribute_2 _ _) (aD4 e c ?_))
 repeat (any_goals (first|assumption|wp_step))
def aEt (c:h.get? a=some o)(b:o.cls=.type "function")(hq:Q (some (.type "function")) ⟨h,g,d,t+1,os⟩):wpAny (model prog w) A (getAttr? (.ref a) "__class__") Q E ⟨h,g,d,t,os⟩:=by
 unfold getAttr? getAttrBy?
 repeat (any_goals (first|assumption|with_reducible apply aJq c b|wp_step))
def aE4 (c:h.get? a=some o)(b:o.cls=.type "function")(hne:(Value.type "function" == Value.type T)=false)(hty:typeOf (.type T)=pure (.type "type"))
  (hsub:isSubtype (.type "function") (.type T)=pure false) (hq:Q (.done (.ret (.bool false))) ⟨h,g,d,t+1,os⟩) :
  wpAny (model prog w) A (Builtin.«isinstance.nested» ⟨[.ref a,.type T,.int dep tk],[]⟩) Q E ⟨h,g,d,t,os⟩:=by
 have e:(⟨h,g,d,t,os⟩:Shared).TypeIs (.ref a) "function":=⟨_,c,b⟩
 repeat (any_goals (first|assumption|with_reducible apply aEt c b|wp_step))
end
def qC (i:(Value.type "function" == Value.type T)=false)(f:typeOf (.type T)=pure (.type "type"))(b:isSubtype (.type "function") (.type T)=pure false) :
  Meets (Builtin.«isinstance» ⟨[.ref a,.type T],[]⟩) (λ_ R s=>(∃o,s.heap.get? a=some o/\o.cls=.type "function")/\R (.ok (.ret (.bool false))) { s with toks:=s.toks+1 }):=
 λ_ _ _ _ s c=>by obtain⟨h,g,d,t,l⟩:=s;obtain⟨⟨o,k,j⟩,e⟩:=c;exact isinstance_outer (aE4 k j i f b e)
section
variable {prog:Program}{w:World}{A:Around}{E:bFD}{s:Shared}{Q:bFD}{a:Addr}{o:Obj}
def aNp (c:s.heap.get? a=some o)(b:o.cls=.type "function")(h:Q (.bool false) { s with toks:=s.toks+1 }):wpAny (model prog w) A (call (.builtin "isinstance") [.ref a,.type "int"]) Q E s:=
 call_isinstance (qC (by decide) F.isi_meta_int IfF.sub_int) ⟨⟨o,c,b⟩,h⟩
def aLe (c:s.heap.get? a=some o)(b:o.cls=.type "function")(h:Q (.bool false) { s with toks:=s.toks+1 }):wpAny (model prog w) A (call (.builtin "isinstance") [.ref a,.type "bool"]) Q E s:=
 call_isinstance (qC (by decide) F.isi_meta_bool IfF.sub_bool) ⟨⟨o,c,b⟩,h⟩
def aN5 (c:s.heap.get? a=some o)(b:o.cls=.type "function")(h:Q (.bool false) { s with toks:=s.toks+1 }):wpAny (model prog w) A (call (.builtin "isinstance") [.ref a,.type "str"]) Q E s:=
 call_isinstance (qC (by decide) F.isi_meta_str IfF.aYr) ⟨⟨o,c,b⟩,h⟩
end
end PySem
namespace L2
open PySem PySem.Spec PyProof.Rows
section
variable {X:Cx}
def PE.imp (h:PE X e t)(k:∀σ H Q,t' σ H Q->t σ H Q):PE X e t':=λa s σ H Q I q=>h a s σ H Q I (k σ H Q q)
def bE7 (K:bFC):List V->Hp->VK->Prop:=λxs H Q=>∃(p:Addr) (bs:List Bool),xs=[.ref p]/\SqL K H p (bs.map V.bl)/\Q (.bl (bs.all id)) H
def all_range (bs:List Bool):(List.range bs.length).all (λi=>bs.getD i false)=bs.all id:=by
 rw[bCB,bBL,bBL];constructor
 ·intro h b c;obtain⟨i,a,e⟩:=List.mem_iff_getElem.mp c;have:=h i (List.mem_range.mpr a);rw[bAZ,b8 a] at this;rw[<-e];exact this
 ·intro h i a;have a:=List.mem_range.mp a;rw[bAZ,b8 a];exact h _ (bCP a)
def pH (N:X.calm=true):dD X (.builtin "all") (bE7 X.K):=by
 intro w s σ H G L Q I r h;obtain⟨p,a,rfl,E,q⟩:=h;obtain⟨u,rfl,x⟩:=r.one;cases x;obtain⟨d,m,j,J⟩:=I.list E;have g:=m.length;rw[d7] at g;have l:p≠s.heap.objs.size:=by obtain⟨o,D,_⟩:=j.isList;exact bAF (z9 D)
 refine call_all_walk (bCX j.isList ?_);refine⟨s.heap.objs.size,_,_,_,_,_,λi=>a.getD i false,rfl,Walks.list (show X.A.in1.handled=none from I.ok.hd N) _ p l d.toArray,⟨⟨_,w6 _ rfl,rfl,rfl⟩,?_⟩,?_,λP M kp=>?_⟩
 ·exact j.isList.at λo e=>c7 _ e
 ·intro i v y F O B c;have f:d[i]?=some v:=by simpa using B
  have t:i<a.length:=by rw[g];exact (List.getElem?_eq_some_iff.mp f).1
  obtain⟨u,n,C⟩:=m.get (by rw[bAC,b8 t];rfl);rw[f] at n;cases n;cases C;have e:a.getD i false=a[i]:=by rw[bAZ,b8 t];rfl
  replace c:F (a.getD i false) y:=c;rw[e] at c;exact bBH c
 ·have e:(List.range d.toArray.size).all (λi=>a.getD i false)=a.all id:=by rw[m9,<-g];exact all_range a
  rw[e];refine⟨.bl (a.all id),H,?_,rfl,q⟩;exact I.kept λb o k=>kp b o (by
   intro z;have:b=s.heap.objs.size:=by simpa using z
   rw[this] at k;exact absurd (z9 k) (bCF _)) (c7 _ k)
inductive Rk (K:bFC)(H:Hp):V->String->Prop
 |non:Rk K H .non "NoneType"
 |lst {a xs}:SqL K H a xs->Rk K H (.ref a) "list"
 |tup {a xs}:SqT K H a xs->Rk K H (.ref a) "tuple"
 |dct {a kvs}:H a=some (.dK kvs)->Rk K H (.ref a) "dict"
 |fn {a o}:K.lookup a=some o->o.cls=.type "function"->Rk K H (.ref a) "function"
def aZi (K:bFC):List V->Hp->VK->Prop:=λxs H Q=>∃x k T,xs=[x,.ty T]/\Rk K H x k/\(T = "int"\/T = "bool"\/T = "str")/\Q (.bl false) H
def fH:dD X (.builtin "isinstance") (aZi X.K):=by
 intro i s σ H t w Q I r h;obtain⟨x,k,T,rfl,m,d,q⟩:=h;obtain⟨u,v,rfl,b,p⟩:=r.two;cases p;have a:EP X i σ Q (.bool false) { s with toks:=s.toks+1 }:=⟨.bl _,H,I.tok _,rfl,q⟩;cases m with
 |non=>
  cases b;rcases d with rfl|rfl|rfl
  ·exact IsiPair.NoneType_int a
  ·exact IsiPair.NoneType_bool a
  ·exact IsiPair.NoneType_str a
 |lst hq=>
  cases b;obtain⟨f,l,⟨o,n,e,c,_⟩,j⟩:=I.list hq;rcases d with rfl|rfl|rfl
  ·exact IsiPair.list_int e c a
  ·exact IsiPair.list_bool e c a
  ·exact IsiPair.list_str e c a
 |tup hq=>
  cases b;obtain⟨f,l,⟨o,e,c,_⟩,j⟩:=I.tuple hq;rcases d with rfl|rfl|rfl
  ·exact IsiPair.tuple_int e c a
  ·exact IsiPair.tuple_bool e c a
  ·exact IsiPair.tuple_str e c a
 |dct hq=>
  cases b;obtain⟨_,_,_,_,o,_,_,e,g,_⟩:=I.hok _ _ hq;rcases d with rfl|rfl|rfl
  ·exact IsiPair.dict_int e g.1 a
  ·exact IsiPair.dict_bool e g.1 a
  ·exact IsiPair.dict_str e g.1 a
 |fn hk hc=>
  cases b;have e:=I.kIn _ _ hk;rcases d with rfl|rfl|rfl
  ·exact aNp e hc a
  ·exact aLe e hc a
  ·exact aN5 e hc a
end
def eV {X:Cx}{scope:Scope}(h:∀z∈scope.names,z.2≠.free:=by trivial):∀y,(y,NameKind.free)∈scope.names->X.env.kindOf y=some .cell\/X.env.kindOf y=some .free:=λy a=>absurd rfl (h _ a)
def jJ {X:Cx}{scope:Scope}(sc:Scope)(e:X.env.scope=sc:=by rfl)(h:∀z∈scope.names,z.2=.free->sc.names.lookup z.1=some .cell\/sc.names.lookup z.1=some .free:=by trivial) :
  ∀y,(y,NameKind.free)∈scope.names->X.env.kindOf y=some .cell\/X.env.kindOf y=some .free:=λy a=>by
 show X.env.scope.names.lookup y=some .cell\/X.env.scope.names.lookup y=some .free;rw[e];exact h _ a rfl
def Same.aQ {K:bFC}{H H':Hp}{a:Addr}{xs:List V}(e:Same H H')(h:SqT K H a xs):SqT K H' a xs:=by
 rcases h with (h|⟨o,h⟩)|h
 ·exact .inl (.inl (e _ _ h))
 ·exact .inl (.inr ⟨o,e _ _ h⟩)
 ·exact .inr h
def bV (h:H p=none)(o:HO):Same H (upd H p o):=λb u q=>by rw[aV (bA q h)];exact q
def Rk.same {K:bFC}{H H':Hp}{v:V}{k:String}(e:Same H H')(h:Rk K H v k):Rk K H' v k:=by
 cases h with
 |non=>exact .non
 |lst q=>exact .lst (e.seq q)
 |tup q=>exact .tup (e.aQ q)
 |dct q=>exact .dct (e _ _ q)
 |fn q c=>exact .fn q c
def iM:Cap X scope [x] σ [none]:=⟨rfl,λi y v _ a=>by
 cases i with
 |zero=>cases a
 |succ i=>cases a⟩
def aGk (xs:List V)(f:V->V)(n:St)(k:Cap X scope N σ n)(hsz:xs.length<=sizeLine)
  (v:∀R:It->Hp->Prop,(∀J:It,(∀H' i x,Same H H'->xs[i]?=some x->J.go i H'/\∀y H2,J.yld i H' y H2->H2=H'/\y=x)->(∀H',Same H H'->J.stop xs.length H')->R J H)->wi σ H R)
  (u:∀x∈xs,∀H' R l,Same H H'->R (f x) H'->te ((n.set 0 l).set 0 (some x)) H' R) (w:n[0]?=some none)
  (q:∀D,H D=none->Q (.ref D) (upd H D (.lst (xs.map f)))) :
  jP X scope N wi (cI 0) uA te σ H Q:=by
 refine⟨n,k,v _ λJ go stop D h=>?_⟩;have d:∀c:List V,Same H (upd H D (.lst c)):=λc b o e=>by rw[aV (bA e h)];exact e
 refine⟨λi m g H' c=>i<=xs.length/\m=xs.length - i/\(∃l,g=n.set 0 l)/\H'=upd H D (.lst c)/\c=(xs.take i).map f,⟨xs.length,bAK _,rfl,⟨none,?_⟩,rfl,rfl⟩,?_⟩
 ·refine (bCK λj=>?_);rw[List.getElem?_set]
  split
  ·rename_i s;subst s
   split
   ·exact w
   ·rename_i a;exact List.getElem?_eq_none_iff.mpr (by lia)
  ·rfl
 ·rintro i m g H' c ⟨hi,rfl,⟨l,rfl⟩,rfl,rfl⟩;refine⟨aL,?_⟩;by_cases a:i<xs.length
  ·right;obtain⟨t,p⟩:=go (upd H D (.lst ((xs.take i).map f))) i xs[i] (d _) (b8 a);refine⟨t,λx H2 r=>?_⟩;obtain⟨rfl,rfl⟩:=p x H2 r;unfold cI uA;dsimp only;rw[if_pos rfl];refine u xs[i] (bCP a) _ _ l (d _) ⟨aL,?_,xs.length - (i+1),by lia,a,rfl,⟨some xs[i],?_⟩,?_,?_⟩
   ·rw[d7,bAV];lia
   ·rw[bCG]
   ·rw[aO6]
   ·rw[bBM,b8 a,bAY];rfl
  ·left;have e:i=xs.length:=by lia
   subst e;refine⟨stop _ (d _),?_⟩;rw[bBP];exact q D h
def aSv (h:∀R:VK,R (.str z) H->tl σ H R)(R:It->Hp->Prop)
  (q:∀J:It,(∀H' i x,Same H H'->((List.range z.cps.size).map λi=>V.str (sgn z i))[i]?=some x->J.go i H'/\∀y H2,J.yld i H' y H2->H2=H'/\y=x) ->
   (∀H',Same H H'->J.stop ((List.range z.cps.size).map λi=>V.str (sgn z i)).length H')->R J H):bAe tl σ H R:=by
 refine h _ ⟨z,rfl,q _ (λH' i x _ e=>?_) λH' _=>?_⟩
 ·rw[bAC] at e;have a:i<z.cps.size:=by
   cases b:(List.range z.cps.size)[i]? with
   |none=>rw[b] at e;cases e
   |some j=>have:=(List.getElem?_eq_some_iff.mp b).1;rwa [bAH] at this
  rw[bCA a] at e;cases e;exact⟨a,λy H2 c=>c⟩
 ·rw[d7,bAH];exact j9 _
section
variable {κ:Type}[DecidableEq κ]
def pA (kvs:List (κ × V))(k:κ):Option V:=(kvs.find? λkv=>decide (kv.1=k)).map (·.2)
def putK (kvs:List (κ × V))(k:κ)(v:V):List (κ × V):=
 if (kvs.any λkv=>decide (kv.1=k))=true then kvs.map (λkv=>if kv.1=k then (kv.1,v) else kv) else kvs++[(k,v)]
def sO {p:κ × V}{r:List (κ × V)}{k:κ}(e:p.1=k):pA (p::r) k=some p.2:=by simp[pA,bBV,e]
def sW {p:κ × V}{r:List (κ × V)}{k:κ}(e:¬ p.1=k):pA (p::r) k=pA r k:=by simp[pA,bBV,e]
theorem yJ (k:κ):∀kvs:List (κ × V),(kvs.any λkv=>decide (kv.1=k))=(pA kvs k).isSome
 |[]=>rfl
 |p::r=>by
  rw[bEL];by_cases e:p.1=k
  ·simp only[sO e,v7 e,Bool.true_or,Option.isSome_some]
  ·rw[sW e,j6 e,Bool.false_or];exact yJ k r
def sE (kvs:List (κ × V))(k:κ)(v:V):(putK kvs k v).length<=kvs.length+1:=by
 unfold putK
 split
 ·rw[d7];lia
 ·rw[j4,d9,bCL];lia
def aJj {kvs:List (κ × V)}{k:κ}(v:V)(h:pA kvs k=none):putK kvs k v=kvs++[(k,v)]:=by unfold putK;rw[yJ,h];exact if_neg (by decide)
def rB.aQ7 (r:rB o u):o.isSome=u.isSome:=by
 cases o with
 |none=>cases u with
  |none=>rfl
  |some _=>exact (show False from r).elim
 |some _=>cases u with
  |none=>exact (show False from r).elim
  |some _=>rfl
def KV.val (r:KV kvs vs)(k:κ):rB (pA kvs k) (valueAt vs k):=by
 unfold KV at r
 induction r with
 |nil=>exact True.intro
 |@cons p q ps qs h t ih=>
  obtain⟨c,d⟩:=h;by_cases e:p.1=k
  ·have a:q.1=k:=c.symm.trans e;have b:valueAt (q::qs) k=some q.2:=by simp[valueAt,bBV,a]
   rw[sO e,b];exact d
  ·have a:¬ q.1=k:=λz=>e (c.trans z);have b:valueAt (q::qs) k=valueAt qs k:=by simp[valueAt,bBV,a]
   rw[sW e,b];exact ih
def KV.any (r:KV kvs vs)(k:κ):(kvs.any λkv=>decide (kv.1=k))=vs.any λkv=>decide (kv.1=k):=by
 unfold KV at r
 induction r with
 |nil=>rfl
 |cons h t ih=>rw[bEL,bEL,ih,h.1]
def KV.repl (r:KV kvs vs)(k:κ)(c:RelV y u) :
  KV (kvs.map λkv=>if kv.1=k then (kv.1,y) else kv) (vs.map λkv=>if kv.1=k then (kv.1,u) else kv):=by
 unfold KV at r ⊢
 induction r with
 |nil=>exact .nil
 |@cons p q ps qs h t ih=>
  rw[bAB,bAB];refine .cons ?_ ih;obtain⟨a,b⟩:=h;by_cases e:p.1=k
  ·rw[if_pos e,if_pos (a.symm.trans e)];exact⟨a,c⟩
  ·rw[if_neg e,if_neg (λz=>e (a.trans z))];exact⟨a,b⟩
def KV.put (r:KV kvs vs)(k:κ)(a:RelV y u):KV (putK kvs k y) (stored vs k u):=by
 unfold putK stored;rw[r.any k];by_cases e:(vs.any λb=>decide (b.1=k))=true
 ·rw[if_pos e,if_pos e];exact r.repl k a
 ·rw[if_neg e,if_neg e];exact Paired.snoc r ⟨rfl,a⟩
def KV.keys {kvs:List (κ × V)}{vs:List (κ × Value)}(r:KV kvs vs):kvs.map (·.1)=vs.map (·.1):=by
 unfold KV at r
 induction r with
 |nil=>rfl
 |cons h t ih=>rw[bAB,bAB,ih,h.1]
def KV.length {kvs:List (κ × V)}{vs:List (κ × Value)}(r:KV kvs vs):kvs.length=vs.length:=Paired.length r
end
def aOz (r:RelV (kV k) u):(eU P w).is k u=true:=by
 cases k with
 |inl i=>obtain⟨t,e⟩:=(show ∃t,u=Value.int i t from r);subst e;exact aJo P w i t
 |inr x=>obtain⟨t,e⟩:=(show ∃t,u=Value.str x t from r);subst e;exact aLc P w x t
theorem aGl:∀{ks:List Key} {us:List Value},Vals (ks.map kV) us->ItemsAre (eU P w) ks us
 |[],_,r=>by rw[List.map_nil] at r;cases r;exact .nil
 |k::ks,_,r=>by
  rw[bAB] at r;cases r with
  |cons h t=>exact .cons (aOz h) (aGl t)
abbrev KT (H:Hp):List (List Key × V)->List (List Key × Addr × Value)->Prop:=Paired λp q=>p.1=q.1/\H q.2.1=some (.tup (p.1.map kV))/\RelV p.2 q.2.2
def KT.val (r:KT H kvs xs)(k:List Key):rB (pA kvs k) ((atKey xs k).map (·.2)):=by
 induction r with
 |nil=>exact True.intro
 |@cons p q ps qs h t ih=>
  obtain⟨c,_,d⟩:=h;by_cases e:p.1=k
  ·have a:q.1=k:=c.symm.trans e;have b:atKey (q::qs) k=some q.2:=by simp[atKey,bBV,a]
   rw[sO e,b];exact d
  ·have a:¬ q.1=k:=λz=>e (c.trans z);have b:atKey (q::qs) k=atKey qs k:=by simp[atKey,bBV,a]
   rw[sW e,b];exact ih
def KT.repl (r:KT H kvs xs)(k:List Key)(d:RelV y u) :
  KT H (kvs.map λkv=>if kv.1=k then (kv.1,y) else kv) (xs.map (putAt k u)):=by
 induction r with
 |nil=>exact .nil
 |@cons p q ps qs h t ih=>
  rw[bAB,bAB];refine .cons ?_ ih;obtain⟨a,b,c⟩:=h;unfold putAt;by_cases e:p.1=k
  ·rw[if_pos e,if_pos (a.symm.trans e)];exact⟨a,b,d⟩
  ·rw[if_neg e,if_neg (λz=>e (a.trans z))];exact⟨a,b,c⟩
def KT.put (r:KT H kvs xs)(k:List Key)(d:H b=some (.tup (k.map kV)))(c:RelV y u) :
  KT H (putK kvs k y) (storedH xs k b u):=by
 have e:(kvs.any λa=>decide (a.1=k))=(atKey xs k).isSome:=by rw[yJ,(r.val k).aQ7,Option.isSome_map]
 unfold putK storedH;rw[e];by_cases q:(atKey xs k).isSome=true
 ·rw[if_pos q,if_pos q];exact r.repl k c
 ·rw[if_neg q,if_neg q];exact Paired.snoc r ⟨rfl,d,c⟩
def KT.keeps (r:KT H kvs xs)(a:∀b ys,H b=some (.tup ys)->H' b=some (.tup ys)):KT H' kvs xs:=
 Paired.aZ1 r λ_ _ z=>⟨z.1,a _ _ z.2.1,z.2.2⟩
section
variable {P:Program}{w:World}{H:Hp}{h:Heap}{a:Addr}
def aY8 (b:HOk P w H h)(e:Rd H a u):fQ P w H h a u:=e.ok b
def aOs (b:HOk P w H h)(e:Rd H a (.dK kvs)):kvs.length<=sizeLine/\(a == sysModules)=false/\∃vs,KV kvs vs/\h.DictOf (eU P w) a vs:=
 show fQ P w H h a (.dK kvs) from aY8 b e
def aZd (b:HOk P w H h)(e:H a=some (.dK kvs)):kvs.length<=sizeLine/\(a == sysModules)=false/\∃vs,KV kvs vs/\h.DictOf (eU P w) a vs:=aOs b (.inl e)
def aNs (g:HOk P w H h)(e:H a=some (.tup (ks.map kV))):(tupleKind (eU P w)).is h ks a:=by obtain⟨_,b,r,⟨o,f,d,n,c⟩,_⟩:=(show fQ P w H h a (.tup (ks.map kV)) from g a _ e);exact⟨o,b.toArray,n,f,d,c,by simpa using aGl r⟩
def aT4 (c:HOk P w H h)(e:Rd H a (.dT kvs)):kvs.length<=sizeLine/\(a == sysModules)=false /\
  ∃xs,KT H kvs xs/\h.DictOfH (tupleKind (eU P w)) a xs:=by
 obtain⟨z,y,xs,r,o,k,d,n,j,i,f,g⟩:=(show fQ P w H h a (.dT kvs) from aY8 c e);refine⟨z,y,xs,r,o,k,d,n,j,i,f,λx hx=>?_,g⟩;have b:∀{l:List (List Key × V)} {m:List (List Key × Addr × Value)},KT H l m->∀x∈m,(tupleKind (eU P w)).is h x.1 x.2.1:=by
  intro l m q
  induction q with
  |nil=>intro x hx;exact nomatch hx
  |@cons p q ps qs hq t ih=>
   intro x hx;rcases List.mem_cons.mp hx with e|hx
   ·subst e;exact aNs c (by rw[<-hq.1];exact hq.2.1)
   ·exact ih x hx
 exact b r x hx
def bDg (b:HOk P w H h)(e:H a=some (.dT kvs)):kvs.length<=sizeLine/\(a == sysModules)=false /\
  ∃xs,KT H kvs xs/\h.DictOfH (tupleKind (eU P w)) a xs:=aT4 b (.inl e)
end
def aL2 (H:Hp)(a:Addr)(y:V)(r:Option V):Prop:=
 (∃kvs k,Rd H a (.dK kvs)/\y=kV k/\r=pA kvs k)\/∃kvs k b,Rd H a (.dT kvs)/\y=.ref b/\H b=some (.tup (k.map kV))/\r=pA kvs k
def aSr (H:Hp)(a:Addr)(y v:V)(H':Hp):Prop:=
 (∃kvs k,H a=some (.dK kvs)/\y=kV k/\kvs.length<sizeLine/\H'=upd H a (.dK (putK kvs k v))) \/
 ∃kvs k b,H a=some (.dT kvs)/\y=.ref b/\H b=some (.tup (k.map kV))/\kvs.length<sizeLine/\H'=upd H a (.dT (putK kvs k v))
theorem aL2.k {H:Hp}{a:Addr}{kvs:List (Key × V)}{k:Key}(e:H a=some (.dK kvs)):aL2 H a (kV k) (pA kvs k):=.inl ⟨kvs,k,.inl e,rfl,rfl⟩
theorem aSr.k {H:Hp}{a:Addr}{kvs:List (Key × V)}{k:Key}{v:V}(e:H a=some (.dK kvs))(b:kvs.length<sizeLine):aSr H a (kV k) v (upd H a (.dK (putK kvs k v))):=.inl ⟨kvs,k,e,rfl,b,rfl⟩
section
variable {X:Cx}{bFG:bFE}{σ:St}{H:Hp}{s:Shared}{a:Addr}{y v:V}{u r:Value}{o:Option V}{A:Around}{E:bFD}
def Inv.big (I:Inv X bFG σ H s):sysModules<s.heap.objs.size:=by have h:=(I.mod.glob.keeps I.bk).lt;exact bEU (by decide) h
def aQ2 (B:A.units+1<cLine)(I:Inv X bFG σ H s)(g:aL2 H a y (some v))(r:RelV y u)(h:∀w' s',Inv X bFG σ H s'->RelV v w'->Q w' s') :
  wpAny (model X.prog X.w) A (getItem (.ref a) u) Q E s:=by
 rcases g with⟨j,k,e,f,l⟩|⟨j,k,b,e,f,eb,l⟩
 ·subst f;obtain⟨z,q,x,d,m⟩:=aOs I.hok e;obtain⟨w',i,c⟩:=rB.some_of (by rw[l];exact d.val k);exact wpAny_getItem_of (aOz r) m.mapOf i (h w' _ (I.tok _) c)
 ·subst f;cases (show u=Value.ref b from r);obtain⟨z,q,t,d,m⟩:=aT4 I.hok e;obtain⟨w',i,c⟩:=rB.some_of (by rw[l];exact d.val k);obtain⟨p,o,n⟩:=Option.map_eq_some_iff.mp i;refine wpAny_getItem_heap (tupleKind_room_in1 B) (aNs I.hok eb) m o ?_;rw[n];exact h w' _ (I.tok _) c
def aPe (I:Inv X bFG σ H s)(f:Mut (H a))(hs:Heap.SameBut a s.heap h')(e:∃q,h'.get? a=some q)(d:fQ X.prog X.w (upd H a ob) h' a ob) :
  Inv X bFG σ (upd H a ob) { s with heap:=h',toks:=t' }:=
 I.write f (.inl rfl) (λb q c z=>(hs.2 b c).trans z) e d
def bBd (z:kvs.length<=sizeLine)(c:(a == sysModules)=false)(b:KV kvs vs)(d:h'.DictOf (eU P w) a vs) :
  fQ P w H' h' a (.dK kvs):=⟨z,c,vs,b,d⟩
def aQy (U:A.units+1<cLine)(I:Inv X bFG σ H s)(g:aSr H a y v H')(O:RelV y u)(J:RelV v r)(h:∀s',Inv X bFG σ H' s'->Q () s') :
  wpAny (model X.prog X.w) A (setItem (.ref a) u r) Q E s:=by
 rcases g with⟨d,k,e,m,l,x⟩|⟨d,k,b,e,m,eb,l,x⟩
 ·subst m x;obtain⟨z,o,L,f,t⟩:=aZd I.hok e;have G:L.length<=sizeLine:=by rw[<-f.length];exact z
  have p:(putK d k v).length<=sizeLine:=by have:=sE d k v;lia
  refine wpAny_setItem_pairs (aOz O) t λC i n=>h _ ?_;have D:∃q,C.get? a=some q:=let ⟨q,_,_,j,_⟩:=i;⟨q,j⟩
  exact aPe I (by rw[e];exact True.intro) n D (bBd p o (f.put k J) i)
 ·subst m x;cases (show u=Value.ref b from O);obtain⟨z,o,F,f,t⟩:=bDg I.hok e;have G:F.length<=sizeLine:=by rw[<-Paired.length f];exact z
  have p:(putK d k v).length<=sizeLine:=by have:=sE d k v;lia
  refine wpAny_setItem_heap (tupleKind_room_in1 U) (aNs I.hok eb) t λC i n=>h _ ?_;obtain⟨q,S,K,j,P,R,N,_,M⟩:=i;refine aPe I (by rw[e];exact True.intro) n ⟨q,j⟩ ⟨p,o,_,(f.put k eb J).keeps λc T B=>?_,q,S,K,j,P,R,N,M⟩;rw[aV (wK B e (λz=>nomatch z))];exact B
end
section
variable {X:Cx}{bFG:bFE}{σ:St}{H:Hp}{s:Shared}{a:Addr}{kvs:List (Key × V)}{k:Key}{u:Value}{A:Around}{E:bFD}
def bDd (I:Inv X bFG σ H s)(e:Rd H a (.dK kvs))(h:∀t s',Inv X bFG σ H s'->Q (.int kvs.length t) s'):wpAny (model X.prog X.w) A (call (.builtin "len") [.ref a]) Q E s:=by obtain⟨z,c,f,b,d⟩:=aOs I.hok e;refine call_len_dict c d (by rw[<-b.length];rw[sizeLine_eq] at z;lia) ?_;rw[<-b.length];exact h _ _ (I.tok _)
end
def bAr (i:Expr):Prop:=∀ov iv,subscripted i false ov iv=operate [ov,iv] (getItem ov iv)
def aXc {prog:Program}{w:World}{A:Around}{E:bFD}{s:Shared}{env:Env}{b c:Expr}{pos:Pos}{T id:String}{Q:bFD}
  (k:typeLookup (.type T) "__getitem__"=pure (some (.builtin id))) (hs:bAr c)
  (h:wpAny (model prog w) A (eval b env) (λo s₁=>wpAny (model prog w) A (eval c env) (λi s₂=>s₂.TypeIs o T/\wpAny (model prog w) A (getItem o i) Q E s₂) E s₁) E s) :
  wpAny (model prog w) A (eval (.Subscript b c pos) env) Q E s:=by
 refine Subscript_ (bBE h (λo s₁ j=>bBE j (λi s₂ d=>?_) λ_ _ x=>x) λ_ _ x=>x);obtain⟨e,d⟩:=d;unfold subscriptTail;refine b7 ?_;rw[getitemInPython_of_ne e.not_modules];refine b7 (wpAny_specialOf e k ?_);have a:wpAny (model prog w) A (subscripted c false o i) (λr f=>wpAny (model prog w) A (letTemporaryGo b o r >>= λ_=>pure r) Q E f) E s₂:=by rw[hs o i];exact wpAny_operating (bBE d (λr f g=>b7 (wpAny_letTemporaryGo (j8 g))) λ_ _ x=>x)
 first
  |exact j8 (b7 a)
  |exact b7 (j8 (b7 a))
  |exact b7 a
def aJp (I:Inv X bFG σ H s)(g:aL2 H a y o):s.TypeIs (.ref a) "dict":=by
 rcases g with⟨c,k,e,_,_⟩|⟨c,k,b,e,_,_,_⟩
 ·obtain⟨_,_,h,_,d⟩:=aOs I.hok e;exact d.typeIs
 ·obtain⟨_,_,f,_,d⟩:=aT4 I.hok e;exact d.typeIs
inductive aOv (Q:VK)(x:V)(y:V)(H2:Hp):Prop
 |mk (a:_) (v:_) (h0:x=.ref a) (h1:aL2 H2 a y (some v)) (h2:Q v H2):aOv Q x y H2
def aZm (td ty:TE):TE:=fun σ H Q=>td σ H λx H1=>ty σ H1 (aOv Q x)
def aZj (td ty tv:TE):TS:=λD σ H=>tv σ H λv H1=>td σ H1 λx H2=>ty σ H2 λy H3=>∃a H4,x=.ref a/\aSr H3 a y v H4/\D.nx σ H4
section
variable {X:Cx}{o i e value:Expr}{pos pos' tpos:Pos}{td ty tv:TE}
def aX7 (D:X.A.units+1<cLine)(t:PE X o td)(z:PE X i ty)(hs:bAr i):PE X (.Subscript o i pos) (aZm td ty):=by intro b s σ H Q I h;refine aXc PySem.F.slot_dict_getitem.lookup hs (thn (t b s σ H _ I h) λu r ⟨x,f,e,k,m⟩=>thn (z b r σ f _ e m) λB w ⟨y,l,d,p,a,v,j,g,n⟩=>?_);subst j;obtain rfl:u=Value.ref a:=k;exact⟨aJp d g,aQ2 D d g p λE C q c=>⟨v,l,q,c,n⟩⟩
def aYq (F:X.A.units+1<cLine)(L:PE X o td)(M:PE X i ty)(J:PE X value tv)(hs:swapsWith value (some (.Subscript o i pos')) pos.line X.env=pure false) :
  PS X (.Assign [.Subscript o i pos'] value pos) (aZj td ty tv):=by
 intro b s σ H D I h;refine wpAny_Assign_Subscript (thn (J b s σ H _ I h) λr z ⟨v,l,k,c,t⟩=>thn (L b z σ l _ k t) λu e ⟨x,q,n,d,w⟩=>thn (M b e σ q _ n w) λE G ⟨y,K,C,j,a,f,m,g,p⟩=>?_) hs;subst m;obtain rfl:u=Value.ref a:=d;exact aQy F C g j c λN B=>⟨σ,f,B,p⟩
end
def aT0 (h:Heap)(a:sysModules<h.objs.size):fQ P w H (h.push { cls:=.type "dict",data:=.dict #[] }) h.objs.size (.dK []):=
 ⟨bAK _,beq_eq_false_iff_ne.mpr (Ne.symm (bAF a)),[],.nil,Heap.DictOf.new h⟩
def aSs:TE:=λ_ H Q=>∀p,H p=none->Q (.ref p) (upd H p (.dK []))
section
variable {X:Cx}{pos:Pos}
def aU8:PE X (.Dict [] [] pos) aSs:=λa s σ H Q I h=>
 wpAny_Dict_empty ⟨.ref s.heap.objs.size,_,I.laid (t':=s.toks) (λ_ _ q=>c7 _ q) (j9 _) (aT0 s.heap I.big),rfl,h _ (I.hok.fresh (j9 _))⟩
end
def pZ (kvs more:List (Key × V)):List (Key × V):=more.foldl (λacc kv=>putK acc kv.1 kv.2) kvs
def KV.merge:∀{more:List (Key × V)} {rs:List (Key × Value)} {kvs:List (Key × V)} {vs:List (Key × Value)},KV more rs->KV kvs vs->KV (pZ kvs more) (merged vs rs):=by
 intro more rs kvs vs r;unfold KV at r
 induction r generalizing kvs vs with
 |nil=>intro q;exact q
 |@cons p q ps qs h t ih=>
  intro a;have e:KV (putK kvs p.1 p.2) (stored vs q.1 q.2):=by have:=a.put p.1 h.2;rw[<-h.1];exact this
  exact ih e
theorem uN:∀more kvs,(pZ kvs more).length<=kvs.length+more.length
 |[],kvs=>by show kvs.length<=kvs.length+0;lia
 |p::r,kvs=>by have b:=uN r (putK kvs p.1 p.2);have a:=sE kvs p.1 p.2;show (pZ (putK kvs p.1 p.2) r).length<=_;rw[d9];lia
section
variable {X:Cx}{bFG:bFE}{σ:St}{H:Hp}{s:Shared}{a:Addr}{y d:V}{u r:Value}{o:Option V}{A:Around}{E:bFD}
end
section
variable {X:Cx}{o e f:Expr}{apos cpos:Pos}{td ty tx:TE}
end
section
variable {X:Cx}{bFG:bFE}{σ:St}{H:Hp}{s:Shared}{a:Addr}{kvs:List (Key × V)}{A:Around}{E:bFD}
end
section
variable {X:Cx}{bFG:bFE}{σ:St}{H:Hp}{s:Shared}{a:Addr}{y:V}{u:Value}{A:Around}{E:bFD}
end
section
variable {X:Cx}
def aQe:dD X (.builtin "len") (λxs H Q=>∃a kvs,xs=[V.ref a]/\H a=some (.dK kvs)/\Q (.int kvs.length) H):=by intro e s σ H xs f Q I r h;obtain⟨a,kvs,rfl,c,q⟩:=h;obtain⟨u,rfl,d⟩:=vals1 r;cases d;exact bDd I (.inl c) λt g b=>⟨.int kvs.length,H,b,⟨t,rfl⟩,q⟩
end
section
variable {κ:Type}[DecidableEq κ]
def aPx {kvs:List (κ × V)}{k:κ}{v:V}(h:pA kvs k=some v):k∈kvs.map (·.1):=by
 have q:(kvs.any λa=>decide (a.1=k))=true:=by rw[yJ,h];all_goals rfl
 obtain⟨p,b,e⟩:=List.any_eq_true.mp q;exact List.mem_map.mpr ⟨p,b,of_decide_eq_true e⟩
end
structure VE (X:Cx)(e:Expr)(t:TE):Prop where
 out:PE X e t
structure VT (X:Cx)(e:Expr)(t:TT):Prop where
 out:PT X e t
structure VW (X:Cx)(e:Expr)(t:TT):Prop where
 out:PW X e t
structure VA (X:Cx)(es:List Expr)(t:TA):Prop where
 out:PA X es t
structure VS (X:Cx)(st:Stmt)(t:TS):Prop where
 out:PS X st t
structure VSs (X:Cx)(st:List Stmt)(t:TS):Prop where
 out:PSs X st t
structure VI (X:Cx)(tg iter:Expr)(t:TI):Prop where
 out:PI X tg iter t
structure VG (X:Cx)(tg:Expr)(t:TG):Prop where
 out:PG X tg t
structure VGs (X:Cx)(tg:List Expr)(t:TGs):Prop where
 out:PGs X tg t
structure VO (X:Cx)(e:Option Expr)(t:TO):Prop where
 out:PO X e t
structure VF (X:Cx)(ifs:List Expr)(t:TT):Prop where
 out:aQg X ifs t
section
variable {X:Cx}{a b c e:Expr}{es:List Expr}{ta tb tc te:TE}{t:TA}{tA tB':TT}{pos p:Pos}{x:Str}
def vv (i:Nat)(d:X.N[i]?=some x:=by rfl)(c:Vis X.env.scope x:=by trivial)(b:(x == ("__debug__":Str))=false:=by decide)
  (a:(x == ("__classdict__":Str))=false:=by decide):VE X (.Name x pos) (lG i):=⟨pv i d c b a⟩
def dY (b:Gl X x)(c:∃u,X.mg x=some u/\RelV v u)(a:(x == ("__debug__":Str))=false:=by decide):VE X (.Name x pos) (tC v):=⟨bC3 b c a⟩
def dW (c:Gl X x)(d:X.mg x=none)(b:bootBuiltins x=some u)(r:RelV v u)(hn:x≠"__name__":=by decide)(a:(x == ("__debug__":Str))=false:=by decide):VE X (.Name x pos) (tC v):=⟨aYe c d b r hn a⟩
def aC {i j}:VE X (.Constant (.int i) j pos) (tC (.int i)):=⟨bCc⟩
def iW {b j}:VE X (.Constant (.bool b) j pos) (tC (.bl b)):=⟨bEi⟩
def gQ {j}:VE X (.Constant .none j pos) (tC .non):=⟨aZ2⟩
def aF {x j}:VE X (.Constant (.str x) j pos) (tC (.str x)):=⟨bBs⟩
def aW (e:OpR X (binaryOp op) r)(c:VE X a ta)(d:VE X b tb):VE X (.BinOp a op b pos) (tOp r ta tb):=⟨bDc e c.1 d.1⟩
def aJn (c:UnR X (unaryOp op) r)(b:VE X a ta):VE X (.UnaryOp op a pos) (tUn r ta):=⟨bDu c b.1⟩
def tH (f:OpR X (compareOp op) r)(d:VE X a ta)(e:VE X b tb)(c:behindInMarks op b=false):VE X (.Compare a [op] [b] pos) (tOp r ta tb):=⟨aYl f d.1 e.1 c⟩
def zM (f:OpR X (compareOp op) r)(d:VE X a ta)(e:VE X b tb)(c:behindInMarks op b=false):VT X (.Compare a [op] [b] pos) (aFk (tOp r ta tb)):=⟨aX4 f d.1 e.1 c⟩
def aU4 (g:OpR X (compareOp op) r)(d:OpR X (compareOp op') r')(h:VE X a ta)(e:VE X b tb)(i:VE X c tc)
  (f:lastMarks [op,op'] [b,c]=false:=by with_unfolding_all rfl):VE X (.Compare a [op,op'] [b,c] pos) (aIp r r' ta tb tc):=⟨aUc g d h.1 e.1 i.1 f⟩
def aJ2 (g:OpR X (compareOp op) r)(d:OpR X (compareOp op') r')(h:VE X a ta)(e:VE X b tb)(i:VE X c tc)
  (f:lastMarks [op,op'] [b,c]=false:=by with_unfolding_all rfl):VT X (.Compare a [op,op'] [b,c] pos) (aFk (aIp r r' ta tb tc)):=⟨aSx g d h.1 e.1 i.1 f⟩
def jX {op}(h:VE X a te):VE X (.BoolOp op [a] pos) te:=⟨bAg h.1⟩
def iJ (c:VE X a ta)(d:VE X (.BoolOp .And (b::rest) pos) tb):VE X (.BoolOp .And (a::b::rest) pos) (aZo ta tb):=⟨aZz c.1 d.1⟩
def aZe (c:VE X a ta)(d:VE X (.BoolOp .Or (b::rest) pos) tb):VE X (.BoolOp .Or (a::b::rest) pos) (bC5 ta tb):=⟨bDb c.1 d.1⟩
def aV4 (b:VE X a ta):VE X (.UnaryOp .Not a pos) (aY3 ta):=⟨aZ7 b.1⟩
def jO (f:VT X c tA)(d:VE X a ta)(e:VE X b tb):VE X (.IfExp c a b pos) (tIf tA ta tb):=⟨aT8 f.1 d.1 e.1⟩
def gB:VA X [] wC:=⟨aTf⟩
def aG (b:VE X e te)(a:VA X es t)(c:eQ e=true:=by rfl):VA X (e::es) (dO te t):=⟨bBm b.1 a.1 c⟩
def dX (G:Ok X.prog X.w X.K X.mg X.base k x ps sp)(d:Room k X.A)(c:Gl X x)(f:VA X (e::es) t)(a:(x == ("__debug__":Str))=false:=by decide)
  (g:eQ e=true:=by rfl) (b:(backTo pos (starEach es X.env)).any (·.1)=false:=by rfl) :
  VE X (.Call (.Name x p) (e::es) [] pos) (aAy sp [] E0 t):=⟨bDf G d c f.1 a (bR g) b⟩
def bCb (G:Ok X.prog X.w X.K X.mg X.base k x ps sp)(b:Room k X.A)(c:Gl X x)(a:(x == ("__debug__":Str))=false:=by decide) :
  VE X (.Call (.Name x p) [] [] pos) (aAy sp [] E0 wC):=⟨bBp G b c a⟩
def aR {id:String}{r:List V->Hp->VK->Prop}(i:dD X (.builtin id) r)(g:Gl X x)(h:X.mg x=none)(c:bootBuiltins x=some (.builtin id))(d:VA X (e::es) t)(hn:x≠"__name__":=by decide)(a:(x == ("__debug__":Str))=false:=by decide)
  (f:eQ e=true:=by rfl) (b:(backTo pos (starEach es X.env)).any (·.1)=false:=by rfl):VE X (.Call (.Name x p) (e::es) [] pos) (tCB r t):=⟨aSt i g h c d.1 hn a (bR f) b⟩
def bG (i:dD X (.type T) r)(g:Gl X x)(h:X.mg x=none)(c:bootBuiltins x=some (.type T))(d:VA X (e::es) t)(hn:x≠"__name__":=by decide)(a:(x == ("__debug__":Str))=false:=by decide)
  (f:eQ e=true:=by rfl) (b:(backTo pos (starEach es X.env)).any (·.1)=false:=by rfl):VE X (.Call (.Name x p) (e::es) [] pos) (tCB r t):=⟨aQ8 i g h c d.1 hn a (bR f) b⟩
def fK {o:Expr}{to:TE}{name:Str}{apos cpos:Pos}{T id:String}{r:V->List V->Hp->VK->Prop}(l:PlainAttrs T)(d:Slot T name id)(g:typeOf (.builtin id)=pure (.type "method_descriptor"))(j:MtR X id r)(k:VE X o to)(h:VA X (e::es) t)
  (c:attributeBase o name X.env (eval o X.env)=eval o X.env:=by rfl)
  (f:((backTo cpos (starEach (e::es) X.env)).all (λx=>!x.1) && (backToKw cpos (keywordEach [] X.env)).all (λx=>x.1.isSome)
   && decide ((e::es).length+([]:List Keyword).length+(if ([]:List Keyword).isEmpty then 0 else 1)<30))=true:=by rfl)
  (b:(apos.endLine == cpos.line)=true:=by rfl) (i:eQ e=true:=by rfl) (a:(backTo cpos (starEach es X.env)).any (·.1)=false:=by rfl) :
  VE X (.Call (.Attribute o name apos) (e::es) [] cpos) (tBM X.K T r to t):=⟨bEz l d g j k.1 h.1 c f b (bR i) a⟩
def iR (d:VE X a ta)(e:VE X b tb)(hs:yG b) :
  VE X (.Subscript a b pos) (tOp (λx y H Q=>∃z i c,x=.str z/\y=.int i/\0<=i/\i<2 ^ 63/\i<z.length/\z.cps[i.toNat]?=some c/\Q (.str ⟨#[c]⟩) H) ta tb):=⟨aKw d.1 e.1 hs⟩
def iC:VO X none aIb:=⟨aWk⟩
def cY (h:VE X e te):VO X (some e) (aTu te):=⟨aXa h.1⟩
def dI {r:V->Option Int->Option Int->Hp->VK->Prop}{lo hi:Option Expr}{tl th:TO}{p2:Pos}(b:SlR X r)(a:VE X e te)(d:VO X lo tl)(c:VO X hi th):VE X (.Subscript e (.Slice lo hi none p2) pos) (tSl r te tl th):=⟨aS7 b a.1 d.1 c.1⟩
def bDq (c:IxR X r)(d:VE X a ta)(e:VE X b tb)(hs:aI0 b):VE X (.Subscript a b pos) (tOp r ta tb):=⟨bEy c d.1 e.1 hs⟩
def aVa:VE X (.Dict [] [] pos) aSs:=⟨aU8⟩
def VE.imp {t t':TE}(h:VE X e t)(k:∀σ H Q,t' σ H Q->t σ H Q):VE X e t':=⟨PE.imp h.1 k⟩
def aXr (b:VT X a tA):VW X (.BoolOp .And [a] pos) tA:=⟨aW0 b.1⟩
def jY (b:VT X a tA):VW X (.BoolOp .Or [a] pos) tA:=⟨bB9 b.1⟩
def bBe (c:VT X a tA)(d:VW X (.BoolOp .And (b::rest) pos) tB'):VW X (.BoolOp .And (a::b::rest) pos) (bD3 tA tB'):=⟨bCm c.1 d.1⟩
def nH (c:VT X a tA)(d:VW X (.BoolOp .Or (b::rest) pos) tB'):VW X (.BoolOp .Or (a::b::rest) pos) (tOr tA tB'):=⟨bEh c.1 d.1⟩
def VW.pt (h:VW X e tA):VT X e tA:=⟨h.1.pt⟩
def eO (b:VT X a tA):VT X (.UnaryOp .Not a pos) (aWf tA):=⟨bB5 b.1⟩
def cP (h:VE X e te)(a:∀whole,isTrue e X.env whole=(do let v <-whole;standAt e.pos;holding [v] (truthy v)):=by intro _;rfl):VT X e (tB te):=⟨bCp h.1 a⟩
def aV0 (b:VE X a ta)(c:∀whole,isTrue a X.env whole=(do let v <-whole;standAt a.pos;holding [v] (truthy v)):=by intro _;rfl) :
  VT X a (fun σ H Q=>ta σ H λx H'=>∃k,bA2 X.K x H' k/\Q k H'):=⟨aVh b.1 c⟩
variable {st:Stmt}{rest:List Stmt}{u w':TS}
def aU:VSs X [] mO:=⟨aWs⟩
def aA (b:VS X st u)(a:VSs X rest w'):VSs X (st::rest) (kW u w'):=⟨aTy b.1 a.1⟩
def aB (a:VS X st u):VSs X [st] u:=⟨aYc a.1⟩
def aJ (a:VE X e te):VS X (.Return (some e) pos) (vX te):=⟨bCy a.1⟩
def bN {a b:List Stmt}(f:VT X c tA)(e:VSs X a u)(d:VSs X b w'):VS X (.If c a b pos) (aYd tA u w'):=⟨bDr f.1 e.1 d.1⟩
def aZ4 (d:X.N.Nodup)(a:X.N[i]?=some x)(f:Loc X.env.scope x)(b:VE X e te)(hs:swapsWith e (some (.Name x pos')) pos.line X.env=pure false:=by rfl)(c:X.fn x=true\/X.env.scope.names.lookup x=some .local:=by first|exact .inl rfl|exact .inr rfl|assumption) :
  VS X (.Assign [.Name x pos'] e pos) (rC te (cI i)):=⟨bBk d a f b.1 hs c⟩
def dG (a:VE X e te)(hs:swapsWith e none pos.line X.env=pure false:=by rfl):VS X (.Expr e pos) (aKn te):=⟨aPo a.1 hs⟩
def gR {tg iter:Expr}{body:List Stmt}{wi:TI}{g:TG}{tb:TS}(c:PassesOwn (model X.prog X.w) X.A X.env X.xe)(e:X.calm=true)(a:VI X tg iter wi)(d:VG X tg g)(b:VSs X body tb)
  (hs:∀x,foldedSetIterable iter X.env x=pure x:=by intro _;rfl):VS X (.For tg iter body [] pos) (bD0 wi g tb):=⟨bCr c e a.1 d.1 b.1 hs⟩
def aOx (b:X.N.Nodup)(a:X.N[i]?=some x)(d:Loc X.env.scope x)(c:X.fn x=true\/X.env.scope.names.lookup x=some .local:=by first|exact .inl rfl|exact .inr rfl|assumption):VG X (.Name x pos) (cI i):=⟨aYi b a d c⟩
def dF:VGs X [] aNe:=⟨aWd⟩
def aX {t:TG}{u:TGs}(b:VG X e t)(a:VGs X es u)(hs:(assignEach (e::es) X.env).map (·.2)=assign e X.env::(assignEach es X.env).map (·.2):=by rfl):VGs X (e::es) (rA t u):=⟨aUs b.1 a.1 hs⟩
def kE {k:Nat}{t:TGs}{n:Nat}(b:X.calm=true)(h:VGs X es t)(hn:(assignEach es X.env).length=n:=by rfl)(a:(assignEach es X.env).findIdx? (·.1)=none:=by rfl):VG X (.Tuple es k pos) (aGn X.K n t):=⟨bBx b h.1 hn a⟩
variable {tg:Expr}
def mQ (h:VE X e te):VI X tg e (aFn X.K te):=⟨aW3 h.1⟩
def fX (h:VE X e te):VI X tg e (aRn X.K te):=⟨bA3 h.1⟩
def aU7 (h:VE X e te):VI X tg e (bAe te):=⟨bBt h.1⟩
def eE (b:Gl X "range")(d:X.mg "range"=none)(c:VA X [a] t)(e:eQ a=true:=by rfl):VI X tg (.Call (.Name "range" p) [a] [] pos) (aUk t):=⟨aQh b d c.1 (bR e)⟩
def eZ:VF X [] uA:=⟨bAu⟩
def aAp (h:VT X c tA):VF X [c] tA:=⟨bAx h.1⟩
def cZ
  (C:wD scope N) (b:∀y,(y,NameKind.free)∈scope.names->X.env.kindOf y=some .cell\/X.env.kindOf y=some .free) (d:X.calm=true)
  (c:VI X target iter wi)
  (a:∀cl s H fp,VG (cxC X N scope cl s H fp) target g/\VF (cxC X N scope cl s H fp) ifs tt/\VE (cxC X N scope cl s H fp) elt te)
  (hs:∀x,foldedSetIterable iter X.env x=pure x:=by intro _;rfl) :
  VE X (.ListComp elt [⟨target,iter,ifs,0⟩] scope pos) (jP X scope N wi g tt te):=
 ⟨aWv C b d c.1 (λcl s H fp=>⟨(a cl s H fp).1.1,(a cl s H fp).2.1.1,(a cl s H fp).2.2.1⟩) hs⟩
end
section
variable {P:Program}{w:World}{K:bFC}{mg:bFF}{base:Heap}
def Fun.okV {x qual:Str}{st:Stmt}{f:Addr}{fd:FuncData}{N ps:List Str}{k:Nat}{sp:Sp}(F:Fun K x qual st f fd)(S:aN N ps (aD st))(c:∀vs H Q E,sp vs H Q E->vs.length=ps.length)
  (a:∀(cdv:Value) (A:Around) (outer:List Env) (s:Shared) (H:Hp) (vs:List V) (Q:VK) (E:XK),Room k (A.deeper (envOfC qual (aD st) s.heap.objs.size f cdv))->sp vs H Q E ->
   ∃t,VSs (xM CX0 P w K mg base N qual (aD st) f cdv A outer s H E).nox (eY st) t/\t { nx:=λ_ H'=>Q .non H',rt:=Q } (start N vs) H):gJ P w K mg base CX0 (k+1) f fd ps sp:=
 F.ok S c λcdv A outer s H vs Q E b h=>let ⟨t,h1,h2⟩:=a cdv A outer s H vs Q E b h;⟨t,h1.1,h2⟩
def Ok.ofV {x:Str}{st:Stmt}{N ps:List Str}{k:Nat}{sp:Sp}(D:Dn K mg x st ps)(S:aN N ps (aD st))(c:∀vs H Q E,sp vs H Q E->vs.length=ps.length)
  (a:∀(f:Addr) (cdv:Value) (A:Around) (outer:List Env) (s:Shared) (H:Hp) (vs:List V) (Q:VK) (E:XK),Room k (A.deeper (envOfC x (aD st) s.heap.objs.size f cdv))->sp vs H Q E ->
   ∃t,VSs (xM CX0 P w K mg base N x (aD st) f cdv A outer s H E).nox (eY st) t/\t { nx:=λ_ H'=>Q .non H',rt:=Q } (start N vs) H):Ok P w K mg base (k+1) x ps sp:=
 Ok.of D S c λf cdv A outer s H vs Q E b h=>let ⟨t,h1,h2⟩:=a f cdv A outer s H vs Q E b h;⟨t,h1.1,h2⟩
def OkX (P:Program)(w:World)(K:bFC)(mg:bFF)(base:Heap)(k:Nat)(x:Str)(ps:List Str)(sp:Sp):Prop:=
 ∃f fd,mg x=some (.ref f)/\PySem.W.keepIn K (.ref f)=true/\Binds K fd ps []/\gJ P w K mg base (CXR P w) k f fd ps sp
def OkX.mono (h:OkX P w K mg base j x ps sp)(g:j<=k):OkX P w K mg base k x ps sp:=by obtain⟨f,e,d,c,b,a⟩:=h;exact⟨f,e,d,c,b,a.mono g⟩
def OkX.ofV {x:Str}{st:Stmt}{N ps:List Str}{k:Nat}{sp:Sp}(D:Dn K mg x st ps)(S:aN N ps (aD st))(g:∀vs H Q E,sp vs H Q E->vs.length=ps.length)
  (c:∀(f:Addr) (cdv:Value) (A:Around) (outer:List Env) (s:Shared) (H:Hp) (vs:List V) (Q:VK) (E:XK),Room k (A.deeper (envOfC x (aD st) s.heap.objs.size f cdv))->sp vs H Q E ->
   ∃t,VSs (xM (CXR P w) P w K mg base N x (aD st) f cdv A outer s H E) (eY st) t/\t { nx:=λ_ H'=>Q .non H',rt:=Q } (start N vs) H):OkX P w K mg base (k+1) x ps sp:=by
 obtain⟨f,l,F,B,m⟩:=D;obtain⟨p,q,kV,d,n,o,cdv,j,h,rfl,i,b⟩:=F.ex;exact⟨f,_,m,F.kp,B,aZa i b S g λA outer s H vs Q E e a=>let ⟨t,h1,h2⟩:=c f cdv A outer s H vs Q E e a;⟨t,h1.1,h2⟩⟩
def gJ.calm (F:gJ P w K mg base (CXR P w) k f fd ps sp)(h:∀vs H Q E,sp' vs H Q E->sp vs H Q E0):gJ P w K mg base CX0 k f fd ps sp':=
 ⟨λvs H Q E q=>F.len vs H Q E0 (h _ _ _ _ q),λA a s H b l vs Q E i d e g j=>bDG (F.run A a s H b l vs Q E0 i d e g (h _ _ _ _ j)) λr m c=>by
  cases r with
  |error v=>obtain⟨_,_,_,_,_,_,_,_,_,_,_,_,_,_,z⟩:=c;exact z.elim
  |ok fl=>cases fl <;> exact c⟩
def OkX.calm (G:OkX P w K mg base k x ps sp)(h:∀vs H Q E,sp' vs H Q E->sp vs H Q E0):Ok P w K mg base k x ps sp':=by obtain⟨f,e,d,c,b,a⟩:=G;exact⟨f,e,d,c,b,a.calm h⟩
structure ExT (K:bFC)(mg:bFF)(st:Stmt)(x y:Str)(C S:Addr):Prop where
 at_:∃fI fd,XC K C fI/\Fun K "__init__" y st fI fd/\Binds K fd bQL []
 mg:mg x=some (.ref C)
 kp:PySem.W.keepIn K (.ref C)=true
 cls:XS K C
 over:PySem.W.mroIn K C (.ref S)=some true
def aB3 {k:Nat}{y:Str}{st:Stmt}{fI:Addr}{fd:FuncData}(F:Fun K "__init__" y st fI fd)(m:aN bQL bQL (aD st))
  (j:∀(X:Cx),X.N=(["self","act"]:List Str)->X.env.scope=aD st->X.mg=mg->VSs X (eY st) (kW (aKn (tVI X.K fI (dO (lG 0) (dO (lG 1) wC)))) (aUl X.K fI (lG 0) (lG 1)))) :
  gJ P w K mg base CX0 (k+1) fI fd bQL (aDw K fI):=by
 refine F.okV m (λh H Q E ⟨e,C,z,_⟩=>by rw[z];rfl) λd A a s H h Q E l ⟨e,C,g,b,c,q⟩=>⟨_,j _ rfl rfl rfl,?_⟩;subst g;refine⟨_,rfl,_,rfl,e,C,.non,rfl,b,c,?_⟩;exact⟨_,rfl,_,rfl,e,C,rfl,rfl,b,c,λf n i=>q f n i⟩
end
section
variable {X:Cx}{k j:Nat}{C S:Addr}{E:XK}{x y:Str}{np cpos pos:Pos}{a:Expr}{t:TA}{st:Stmt}
def xV (h:ExT X.K X.mg st x y C S)(d:∀fI fd,Fun X.K "__init__" y st fI fd->gJ X.prog X.w X.K X.mg X.base CX0 k fI fd bQL (aDw X.K fI))(e:Room (k+1) X.A)(g:Raises X E)(l:X.calm=true)
  (j:Gl X x) (f:VA X [a] t) (b:(x == ("__debug__":Str))=false:=by decide) (i:eQ a=true:=by rfl) :
  VS X (.Raise (some (.Call (.Name x np) [a] [] cpos)) none pos) (aHn C E t):=by
 obtain⟨⟨fI,fd,c,F,B⟩,m,kp,_,_⟩:=h;exact⟨aUq c (d fI fd F) e B aCe g l kp j m f.1 b (bR i)⟩
def bAl {K:bFC}{o:Expr}{ta:TE}{f:Str}(b:VE X o ta)(a:X.K=K:=by rfl)(d:f = "act":=by first|rfl|decide)(c:attributeBase o f X.env (eval o X.env)=eval o X.env:=by rfl):VE X (.Attribute o f pos) (bDs K ta):=by subst d a;exact⟨bC0 b.1 c⟩
def aLt {K:bFC}{D:Addr}(b:XS K D)(a:X.K=K:=by rfl):dD X (.builtin "isinstance") (bBv K (.ref D) (.ref D) λ_=>True):=by subst a;exact aYx b
def bCt (c:X.stack=X.env::X.outer)(a:X.env.frame=some X.env.locals)(l:X.N.Nodup)(j:X.N[i]?=some n)(h:X.env.scope.names.lookup n=some .local)
  (m:Gl X x) (o:X.mg x=some (.ref S)) (g:XS X.K S) (f:∀bFG σ₀ E,X.Ok->VSs (uV X bFG σ₀ E) body (tb σ₀ E)) (k:∀e,VSs (pM X e) (b₀::suite) th) (d:(x == ("__debug__":Str))=false:=by decide) :
  VS X (.Try body [.ExceptHandler (some (.Name x np)) (some n) (b₀::suite) hpos] [] [] pos) (bDe X.K S i tb th):=
 ⟨aZ0 c a l j h m o g (λbFG σ₀ E b=>(f bFG σ₀ E b).1) (λe=>(k e).1) d⟩
def aF3 (i:X.Ok)(G:OkX X.prog X.w X.K X.mg X.base k x ps sp)(j:Room k X.A)(o:Gl X x)
  (l:VA (uV X bFG₀ σ₀ E) (e::es) t) (d:(x == ("__debug__":Str))=false:=by decide) (n:eQ e=true:=by rfl) (g:(backTo pos (starEach es X.env)).any (·.1)=false:=by rfl) :
  VE (uV X bFG₀ σ₀ E) (.Call (.Name x p) (e::es) [] pos) (aPd σ₀ sp [] E t):=by
 obtain⟨f,m,h,c,b,a⟩:=G;exact⟨aR5 i a j o h c b .nil l.1 d (bR n) g⟩
end
section
variable {X:Cx}{N:List Str}{scope:Scope}{cl:List (Str × Addr)}{s₁:Shared}{H₀:Hp}{fp:List Addr}{E:XK}{bFG:bFE}{σ:St}{H:Hp}{s:Shared}
end
section
variable {X:Cx}{k:Nat}{x:Str}{ps:List Str}{sp:Sp}{E:XK}{p pos:Pos}{e:Expr}{es:List Expr}{t:TA}{te:TE}
def aS2 (G:OkX X.prog X.w X.K X.mg X.base k x ps sp)(i:Room k X.A)(l:Thr X E)(o:Gl X x)
  (j:VA X (e::es) t) (d:(x == ("__debug__":Str))=false:=by decide) (n:eQ e=true:=by rfl) (g:(backTo pos (starEach es X.env)).any (·.1)=false:=by rfl) :
  VE X (.Call (.Name x p) (e::es) [] pos) (aAy sp [] E t):=by
 obtain⟨f,m,h,c,b,a⟩:=G;exact⟨aO0 a i o h c b .nil l.passes j.1 d (bR n) g⟩
end
end L2
namespace PySem
abbrev aYp (t:Addr)(i:Nat):Obj:={ cls:=.type "tuple_iterator",data:=.fields #[.ref t,.int (i:Int) 0] }
abbrev aW9 (t:Addr)(i:Nat):Obj:={ cls:=.type "list_iterator",data:=.fields #[.ref t,.int (i:Int) 0] }
abbrev xF (f0:Value)(TI TO:Addr):Obj:={ cls:=.type "zip",dict:=none,data:=.fields #[f0,.bool false,.bool false,.ref TI,.ref TO],slots:=#[] }
abbrev lZ (a b:Value):Obj:={ cls:=.type "tuple",data:=.seq #[a,b] }
section
variable {prog:Program}{w:World}{A:Around}{E:bFD}{s:Shared}
def aOa (a:s.heap.get? it=some (aYp t i))(g:s.heap.IsTuple t its)(h:its[i]?=some x)
  (q:∀h',h'.get? it=some (aYp t (i+1))->Heap.SameBut it s.heap h'->Q x { s with heap:=h' }):wpAny (model prog w) A (Builtin.SmallTypes.nextOf (.ref it)) Q E s:=by
 have d:s.TypeIs (.ref it) "tuple_iterator":=⟨_,a,rfl⟩;obtain⟨f,c,_,e,b⟩:=g;unfold Builtin.SmallTypes.nextOf;refine b7 (bBB d F.slot_tuple_iterator_next (bBN F.slot_tuple_iterator_next d F.entry_tuple_iterator_next ?_ (F.args_tuple_iterator_next_1 _)));refine b7 (m:=field (.ref it) 0) (bAS a rfl (x:=.ref t) rfl ?_);refine (if_neg (show ¬ ((Value.ref t == Value.none)=true) from bAA)).symm ▸ ?_;refine b7 (bAS a rfl rfl ?_);refine b7 (bBT c b ?_);simp only[bCJ,h];refine b7 (bCS a rfl (by simp) (j8 ⟨x,rfl,j8 (q _ ?_ (bDC ..))⟩));exact bBF _ a rfl
def aCm (f:A.handled=none)(c:s.heap.get? it=some (aYp t i))(j:s.heap.IsTuple t its)(k:its[i]?=none)
  (q:∀h' e,Heap.ExtBut it s.heap h'->(∃o,h'.get? e=some o/\o.cls=.type "StopIteration")->E (.ref e) { s with heap:=h' }):wpAny (model prog w) A (Builtin.SmallTypes.nextOf (.ref it)) Q E s:=by
 have d:s.TypeIs (.ref it) "tuple_iterator":=⟨_,c,rfl⟩;obtain⟨h,b,_,g,a⟩:=j;unfold Builtin.SmallTypes.nextOf;refine b7 (bBB d F.slot_tuple_iterator_next (bBN F.slot_tuple_iterator_next d F.entry_tuple_iterator_next ?_ (F.args_tuple_iterator_next_1 _)));refine b7 (m:=field (.ref it) 0) (bAS c rfl (x:=.ref t) rfl ?_);refine (if_neg (show ¬ ((Value.ref t == Value.none)=true) from bAA)).symm ▸ ?_;refine b7 (bAS c rfl rfl ?_);refine b7 (bBT b a ?_);simp only[bCJ,k];refine b7 (bEE (b7 (bCS c rfl (by simp) ?_)));unfold Builtin.SmallTypes.stopIteration;refine b7 ?_;simp only[newExc,newTuple];refine b7 (bAX ?_ (by size_fits));refine b7 (wpAny_of_eq (by first|rfl|(simp only[firstArgMember];rfl)) ?_);refine bAX ?_ (by size_fits);simp only[raiseNew];refine b7 (wpAny_handled ?_);first|rw[show A.in1.handled=none from f]|rw[f]
 refine b7 (j8 (wpAny_throw ?_));exact q _ _ (((bDC ..).extBut.push _).push _) ⟨_,w6 _ rfl,rfl⟩
def aM0 (a:s.heap.get? it=some (aW9 t i))(g:s.heap.IsList t its)(h:its[i]?=some x)
  (q:∀h',h'.get? it=some (aW9 t (i+1))->Heap.SameBut it s.heap h'->Q x { s with heap:=h' }):wpAny (model prog w) A (Builtin.SmallTypes.nextOf (.ref it)) Q E s:=by
 have d:s.TypeIs (.ref it) "list_iterator":=⟨_,a,rfl⟩;obtain⟨f,c,_,e,b⟩:=g;unfold Builtin.SmallTypes.nextOf;refine b7 (bBB d slot_listiter_next (bBN slot_listiter_next d entry_listiter_next ?_ (args_listiter_next _)));refine b7 (m:=field (.ref it) 0) (bAS a rfl (x:=.ref t) rfl ?_);refine (if_neg (show ¬ ((Value.ref t == Value.none)=true) from bAA)).symm ▸ ?_;refine b7 (bAS a rfl rfl ?_);refine b7 (bBT c b ?_);simp only[bCJ,h];refine b7 (bCS a rfl (by simp) (j8 ⟨x,rfl,j8 (q _ ?_ (bDC ..))⟩));exact bBF _ a rfl
def aD2 (f:A.handled=none)(c:s.heap.get? it=some (aW9 t i))(j:s.heap.IsList t its)(k:its[i]?=none)
  (q:∀h' e,Heap.ExtBut it s.heap h'->(∃o,h'.get? e=some o/\o.cls=.type "StopIteration")->E (.ref e) { s with heap:=h' }):wpAny (model prog w) A (Builtin.SmallTypes.nextOf (.ref it)) Q E s:=by
 have d:s.TypeIs (.ref it) "list_iterator":=⟨_,c,rfl⟩;obtain⟨h,b,_,g,a⟩:=j;unfold Builtin.SmallTypes.nextOf;refine b7 (bBB d slot_listiter_next (bBN slot_listiter_next d entry_listiter_next ?_ (args_listiter_next _)));refine b7 (m:=field (.ref it) 0) (bAS c rfl (x:=.ref t) rfl ?_);refine (if_neg (show ¬ ((Value.ref t == Value.none)=true) from bAA)).symm ▸ ?_;refine b7 (bAS c rfl rfl ?_);refine b7 (bBT b a ?_);simp only[bCJ,k];refine b7 (bEE (b7 (bCS c rfl (by simp) ?_)));unfold Builtin.SmallTypes.stopIteration;refine b7 ?_;simp only[newExc,newTuple];refine b7 (bAX ?_ (by size_fits));refine b7 (wpAny_of_eq (by first|rfl|(simp only[firstArgMember];rfl)) ?_);refine bAX ?_ (by size_fits);simp only[raiseNew];refine b7 (wpAny_handled ?_);first|rw[show A.in1.handled=none from f]|rw[f]
 refine b7 (j8 (wpAny_throw ?_));exact q _ _ (((bDC ..).extBut.push _).push _) ⟨_,w6 _ rfl,rfl⟩
def itO:Bool->Addr->Nat->Obj
 |true=>aW9
 |false=>aYp
def Heap.vR (h:Heap):Bool->Addr->Array Value->Prop
 |true=>h.IsList
 |false=>h.IsTuple
def Heap.vR.extBut (p:h.vR b t its)(e:Heap.ExtBut x h h')(n:t≠x):h'.vR b t its:=by
 cases b
 ·exact Heap.IsTuple.extBut p e n
 ·exact Heap.IsList.extBut p e n
def zX (b:s.heap.get? it=some (itO L t i))(a:s.heap.vR L t its)(c:its[i]?=some x)
  (q:∀h',h'.get? it=some (itO L t (i+1))->Heap.SameBut it s.heap h'->Q x { s with heap:=h' }):wpAny (model prog w) A (Builtin.SmallTypes.nextOf (.ref it)) Q E s:=by
 cases L
 ·exact aOa b a c q
 ·exact aM0 b a c q
def uO (c:A.handled=none)(b:s.heap.get? it=some (itO L t i))(a:s.heap.vR L t its)(d:its[i]?=none)
  (q:∀h' e,Heap.ExtBut it s.heap h'->(∃o,h'.get? e=some o/\o.cls=.type "StopIteration")->E (.ref e) { s with heap:=h' }):wpAny (model prog w) A (Builtin.SmallTypes.nextOf (.ref it)) Q E s:=by
 cases L
 ·exact aCm c b a d q
 ·exact aD2 c b a d q
structure aAa (z TI TO a b:Addr):Prop where
 h1:TI≠z
 h2:TO≠z
 h3:a≠z
 h4:b≠z
 h5:TI≠TO
 h6:TI≠a
 h7:TI≠b
 h8:TO≠a
 h9:TO≠b
 h10:a≠b
def aIo (c:s.heap.get? T=some (lZ a b))
  (q:∀h',h'.get? T=some { cls:=.type "tuple",data:=.seq ((#[a,b]:Array Value).setIfInBounds k x) }->Heap.SameBut T s.heap h'->Q () { s with heap:=h' }) :
  wpAny (model prog w) A (updateSeq T (·.setIfInBounds k x)) Q E s:=by
 refine wpAny_updateSeq c rfl (q _ ?_ (bDC ..));rw[bBF _ c rfl];simp[Obj.mapSeq]
def aQ4 {L:Bool}{z TI TO Y i2 t u:Addr}{k:Nat}{xs ys:Array Value}{x y a b:Value}{Q:Option Value->Shared->Prop}(D:aAa z TI TO Y i2)
  (n:s.heap.get? z=some (xF .none TI TO)) (a1:s.heap.get? TI=some (lZ (.ref Y) (.ref i2))) (a0:s.heap.get? TO=some (lZ a b))
  (g1:s.heap.get? Y=some (itO L t k)) (g2:s.heap.get? i2=some (itO L u k)) (ht:s.heap.vR L t xs) (hu:s.heap.vR L u ys) (hx:xs[k]?=some x) (hy:ys[k]?=some y)
  (t1:t≠z) (t2:t≠TO) (t3:t≠Y) (t4:t≠i2) (u1:u≠z) (u2:u≠TO) (u3:u≠Y) (u4:u≠i2)
  (q:∀h',h'.get? z=some (xF (rawInt s.heap.objs.size) TI TO)->h'.get? TO=some (lZ x y)->h'.get? Y=some (itO L t (k+1))->h'.get? i2=some (itO L u (k+1))->h'.get? s.heap.objs.size=some (lZ x y) ->
   (∀c o,c≠z->c≠TO->c≠Y->c≠i2->s.heap.get? c=some o->h'.get? c=some o)->Q (some (.ref s.heap.objs.size)) { s with heap:=h' }) :
  wpAny (model prog w) A (pyNext (.ref z)) Q E s:=by
 have X:s.TypeIs (.ref z) "zip":=⟨_,n,rfl⟩;unfold pyNext;refine b7 (bEA (bBB (name:=Str.ofString "__next__") X F.slot_zip_next (bBN F.slot_zip_next X F.entry_zip_next ?_ (F.args_zip_next_1 _))));refine b7 (m:=field (.ref z) 2) (bAS n rfl (x:=.bool false) rfl ?_);refine b7 (m:=field (.ref z) 3) (bAS n rfl (x:=.ref TI) rfl (b7 (bBT a1 rfl ?_)));refine b7 (m:=Builtin.SmallTypes.ownedTupleIsFree (.ref z)) ?_;unfold Builtin.SmallTypes.ownedTupleIsFree;refine b7 (bAS n rfl (x:=.none) rfl (j8 ?_));simp only[if_true];refine b7 (bEE (b7 (bAS n rfl (x:=.ref TO) rfl (b7 (bCE n (by simp) λh1 N i=>?_)))));replace N:h1.get? z=some (xF .ellipsis TI TO):=N;refine b7 ?_;simp only[List.zipIdx_cons,List.zipIdx_nil,bDL,bEW];refine b7 (b7 (bDZ ?_));refine b7 (m:=Builtin.SmallTypes.nextOf (.ref Y)) (zX (s:={ s with heap:=h1 }) (i.extBut _ _ D.h3 g1) (ht.extBut i.extBut t1) hx λh2 S j=>j8 ?_);have v:h2.get? TO=some (lZ a b):=j.extBut _ _ D.h8 (i.extBut _ _ D.h2 a0);refine b7 (bBT v rfl (b7 (aIo (s:={ s with heap:=h2 }) v λh3 h l=>b7 (wpAny_letGo (j8 ?_)))));replace h:h3.get? TO=some (lZ x b):=h;refine b7 (b7 (bDZ ?_));refine b7 (m:=Builtin.SmallTypes.nextOf (.ref i2)) (zX (s:={ s with heap:=h3 }) (l.extBut _ _ D.h9.symm (j.extBut _ _ D.h10.symm (i.extBut _ _ D.h4 g2))) (((hu.extBut i.extBut u1).extBut j.extBut u3).extBut l.extBut u2) hy λW P C=>j8 ?_);have B:W.get? TO=some (lZ x b):=C.extBut _ _ D.h9 h;refine b7 (bBT B rfl (b7 (aIo (s:={ s with heap:=W }) B λd f p=>b7 (wpAny_letGo (j8 (j8 ?_))))));replace f:d.get? TO=some (lZ x y):=f;refine b7 (bBT f rfl (b7 (wpAny_newTuple ?_)));have r:d.objs.size=s.heap.objs.size:=by rw[p.1,C.1,l.1,j.1,i.1]
 have Z:d.get? z=some (xF .ellipsis TI TO):=p.extBut _ _ D.h2.symm (C.extBut _ _ D.h4.symm (l.extBut _ _ D.h2.symm (j.extBut _ _ D.h3.symm N)));have kp:∀c o,c≠z->c≠TO->c≠Y->c≠i2->s.heap.get? c=some o->d.get? c=some o:=λc o g G K R e=>p.extBut _ _ G (C.extBut _ _ R (l.extBut _ _ G (j.extBut _ _ K (i.extBut _ _ g e))));have T:d.get? Y=some (itO L t (k+1)):=p.extBut _ _ D.h8.symm (C.extBut _ _ D.h10 (l.extBut _ _ D.h8.symm S));have O:d.get? i2=some (itO L u (k+1)):=p.extBut _ _ D.h9.symm P;refine b7 (m:=Builtin.SmallTypes.ownedTupleHandOut (.ref z) (.ref d.objs.size)) ?_;unfold Builtin.SmallTypes.ownedTupleHandOut;have z6:(d.push (lZ x y)).get? z=some (xF .ellipsis TI TO):=c7 _ Z;refine b7 (bCE z6 (by simp) λh7 M U=>?_);replace M:h7.get? z=some (xF (rawInt d.objs.size) TI TO):=M;refine bCE M (by simp) λI H s8=>?_;replace H:I.get? z=some (xF (rawInt d.objs.size) TI TO):=H;have J:∀c o,c≠z->d.get? c=some o->I.get? c=some o:=λc o g e=>s8.extBut _ _ g (U.extBut _ _ g (c7 _ e));have V:d.objs.size≠z:=bCW (z9 Z);have T8:I.get? d.objs.size=some (lZ x y):=s8.extBut _ _ V (U.extBut _ _ V (w6 _ rfl));rw[r] at H T8;refine j8 ⟨_,rfl,j8 ?_⟩;show Q (some (.ref d.objs.size)) _;rw[r];exact q I H (J _ _ D.h2 f) (J _ _ D.h3 T) (J _ _ D.h4 O) T8 λc o g G K R e=>J c o g (kp c o g G K R e)
def aSj (hh:A.handled=none)(D:aAa z TI TO i1 i2)
  (g:s.heap.get? z=some (xF .none TI TO)) (O:s.heap.get? TI=some (lZ (.ref i1) (.ref i2))) (I:s.heap.get? TO=some (lZ a b))
  (g1:s.heap.get? i1=some (itO L t k)) (U:s.heap.get? i2=some (itO L u k)) (ht:s.heap.vR L t xs) (hu:s.heap.vR L u ys) (Z:xs[k]?=some x) (Y:ys[k]?=none) (t1:t≠z) (T:u≠z) (u2:u≠TO) (V:u≠i1)
  (q:∀h',(∀c o,c≠z->c≠TO->c≠i1->c≠i2->s.heap.get? c=some o->h'.get? c=some o)->Q none { s with heap:=h' }) :
  wpAny (model prog w) A (pyNext (.ref z)) Q E s:=by
 have y:s.TypeIs (.ref z) "zip":=⟨_,g,rfl⟩;unfold pyNext;refine b7 (bEA (bBB y F.slot_zip_next (bBN F.slot_zip_next y F.entry_zip_next ?_ (F.args_zip_next_1 _))));refine b7 (m:=field (.ref z) 2) (bAS g rfl (x:=.bool false) rfl ?_);refine b7 (bAS g rfl rfl (b7 (bBT O rfl ?_)));refine b7 ?_;unfold Builtin.SmallTypes.ownedTupleIsFree;refine b7 (bAS g rfl rfl (j8 ?_));simp only[if_true];refine b7 (bEE (b7 (bAS g rfl rfl (b7 (bCE g (by simp) λS p f=>?_)))));replace p:S.get? z=some (xF .ellipsis TI TO):=p;refine b7 ?_;simp only[List.zipIdx_cons,List.zipIdx_nil,bDL,bEW];refine b7 (b7 (bDZ ?_));refine b7 (zX (f.extBut _ _ D.h3 g1) (ht.extBut f.extBut t1) Z λh2 P h=>j8 ?_);have j:=h.extBut _ _ D.h8 (f.extBut _ _ D.h2 I);refine b7 (bBT j rfl (b7 (aIo j λR l n=>b7 (wpAny_letGo (j8 ?_)))));replace l:R.get? TO=some (lZ x b):=l;refine b7 (b7 (bDZ ?_));refine b7 (uO hh (n.extBut _ _ D.h9.symm (h.extBut _ _ D.h10.symm (f.extBut _ _ D.h4 U))) (((hu.extBut f.extBut T).extBut h.extBut V).extBut n.extBut u2) Y λX e G M=>?_);obtain⟨K,d,i⟩:=M;have C:=G _ _ D.h4.symm (n.extBut _ _ D.h2.symm (h.extBut _ _ D.h3.symm p));have r:e≠z:=λx=>by subst x;rw[C] at d;cases d;simp at i
 refine bCE C (by simp) λW _ v=>?_;refine b7 (wpAny_isInstance ⟨K,v.extBut _ _ r d,i⟩ isSubtype_stop ?_);exact j8 (q _ λc o B H J N x=>v.extBut _ _ B (G _ _ N (n.extBut _ _ H (h.extBut _ _ J (f.extBut _ _ B x)))))
def aFp (I:A.handled=none)(D:aAa z TI TO i1 i2)
  (f:s.heap.get? z=some (xF .none TI TO)) (B:s.heap.get? TI=some (lZ (.ref i1) (.ref i2))) (hTO:s.heap.get? TO=some (lZ a b))
  (O:s.heap.get? i1=some (itO L t k)) (N:s.heap.vR L t xs) (H:xs[k]?=none) (J:t≠z)
  (q:∀h',(∀c o,c≠z->c≠TO->c≠i1->c≠i2->s.heap.get? c=some o->h'.get? c=some o)->Q none { s with heap:=h' }) :
  wpAny (model prog w) A (pyNext (.ref z)) Q E s:=by
 have p:s.TypeIs (.ref z) "zip":=⟨_,f,rfl⟩;unfold pyNext;refine b7 (bEA (bBB p F.slot_zip_next (bBN F.slot_zip_next p F.entry_zip_next ?_ (F.args_zip_next_1 _))));refine b7 (m:=field (.ref z) 2) (bAS f rfl (x:=.bool false) rfl ?_);refine b7 (bAS f rfl rfl (b7 (bBT B rfl ?_)));refine b7 ?_;unfold Builtin.SmallTypes.ownedTupleIsFree;refine b7 (bAS f rfl rfl (j8 ?_));simp only[if_true];refine b7 (bEE (b7 (bAS f rfl rfl (b7 (bCE f (by simp) λG j i=>?_)))));replace j:G.get? z=some (xF .ellipsis TI TO):=j;refine b7 ?_;simp only[List.zipIdx_cons,List.zipIdx_nil,bDL,bEW];refine b7 (b7 (bDZ ?_));refine b7 (uO I (i.extBut _ _ D.h3 O) (N.extBut i.extBut J) H λK e n v=>?_);obtain⟨C,d,g⟩:=v;have l:=n _ _ D.h3.symm j;have h:e≠z:=λx=>by subst x;rw[l] at d;cases d;simp at g
 refine bCE l (by simp) λM _ u=>?_;refine b7 (wpAny_isInstance ⟨C,u.extBut _ _ h d,g⟩ isSubtype_stop ?_);exact j8 (q _ λc o r _ y _ x=>u.extBut _ _ r (n _ _ y (i.extBut _ _ r x)))
abbrev zT1 (L:Bool)(h:Heap)(t:Addr):Heap:=h.push (itO L t 0)
abbrev zT2 (L:Bool)(h:Heap)(t u:Addr):Heap:=(zT1 L h t).push (itO L u 0)
abbrev zT3 (L:Bool)(h:Heap)(t u:Addr):Heap:=(zT2 L h t u).push (lZ (.ref h.objs.size) (.ref (zT1 L h t).objs.size))
abbrev zT4 (L:Bool)(h:Heap)(t u:Addr):Heap:=(zT3 L h t u).push (lZ .none .none)
abbrev zT5 (L:Bool)(h:Heap)(t u:Addr):Heap:=(zT4 L h t u).push (xF .none (zT2 L h t u).objs.size (zT3 L h t u).objs.size)
def aNz (L:Bool)(t u:Addr)(xs ys:Array Value):Meets (Builtin.«zip.__new__» ⟨[.type "zip",.ref t,.ref u],[]⟩)
  (λ_ R s=>s.heap.vR L t xs/\s.heap.vR L u ys/\R (.ok (.ret (.ref (zT4 L s.heap t u).objs.size))) { s with heap:=zT5 L s.heap t u }):=
 .of_wp λm w A R s h=>by
  obtain⟨a,g,d,b,c⟩:=s;obtain⟨k,j,h⟩:=h;have l:=sub_zip;cases L
  ·have i:Heap.IsTuple (Shared.heap ⟨a,g,d,b,c⟩) t xs:=k;have f:Heap.IsTuple (Shared.heap ⟨a.push { cls:=.type "tuple_iterator",data:=.fields #[.ref t,.int 0 0] },g,d,b,c⟩) u ys:=by obtain⟨o,e,r⟩:=j;exact⟨o,c7 _ e,r⟩
   wp_walk using bED i,bED f;exact⟨_,rfl,h⟩
  ·have i:Heap.IsList (Shared.heap ⟨a,g,d,b,c⟩) t xs:=k;have f:Heap.IsList (Shared.heap ⟨a.push { cls:=.type "list_iterator",data:=.fields #[.ref t,.int 0 0] },g,d,b,c⟩) u ys:=by obtain⟨o,e,r⟩:=j;exact⟨o,c7 _ e,r⟩
   wp_walk using bCX i,bCX f;exact⟨_,rfl,h⟩
def aR7 (c:s.heap.vR L t xs)(b:s.heap.vR L u ys)(q:Q (.ref (zT4 L s.heap t u).objs.size) { s with heap:=zT5 L s.heap t u }) :
  wpAny (model prog w) A (call (.type "zip") [.ref t,.ref u]) Q E s:=by
 refine callType_new F.called_zip (by decide) (F.typeCall_zip_2 _ _) (F.newCall_zip_2 _ _) (λa=>F.args_object_init_3 a _ _) F.entry_zip_new (aNz L t u xs ys) ⟨c,b,?_⟩;exact⟨⟨_,w6 _ rfl,rfl⟩,q⟩
end
end PySem
namespace L2
open PySem PySem.Spec PyProof.Rows
section
variable {X:Cx}{bFG:bFE}{σ:St}{H:Hp}{s:Shared}
def Inv.tup_ne (I:Inv X bFG σ H s)(h:SqT X.K H t xs)(f:tY X bFG H b):t≠b:=by
 rintro rfl;obtain⟨a,i,j,g,_⟩:=f;rcases h with (h|⟨o,h⟩)|⟨o,c,n,d,_⟩
 ·rw[a] at h;cases h
 ·rw[a] at h;cases h
 ·have e:=I.ok.mod.kin t o d;rcases g with z|z
  ·exact I.ok.noex t o e z
  ·exact absurd (bAL (z9 e) (bAG I.ok.bsz z)) (bCF _)
def Inv.bCj (I:Inv X bFG σ H s)(h:SqL X.K H t xs)(f:tY X bFG H b):t≠b:=by
 rintro rfl;obtain⟨a,i,j,g,_⟩:=f;rcases h with (h|⟨o,h⟩)|⟨o,c,n,d,_⟩
 ·rw[a] at h;cases h
 ·rw[a] at h;cases h
 ·have e:=I.ok.mod.kin t o d;rcases g with z|z
  ·exact I.ok.noex t o e z
  ·exact absurd (bAL (z9 e) (bAG I.ok.bsz z)) (bCF _)
def SqB (K:bFC):Bool->Hp->Addr->List V->Prop
 |true=>SqL K
 |false=>SqT K
def Inv.sq (I:Inv X bFG σ H s)(h:SqB X.K L H t xs):∃its:List Value,Vals xs its/\s.heap.vR L t its.toArray:=by
 cases L
 ·obtain⟨its,a,b,_⟩:=I.tuple h;exact⟨its,a,b⟩
 ·obtain⟨its,a,b,_⟩:=I.list h;exact⟨its,a,b.isList⟩
def Inv.mL (I:Inv X bFG σ H s)(h:SqB X.K L H t xs)(f:tY X bFG H b):t≠b:=by
 cases L
 ·exact I.tup_ne h f
 ·exact I.bCj h f
def Inv.drawn {ch:List Addr}{h':Heap}{vs:List V}{its:List Value}{T:Addr}(I:Inv X bFG σ H s)(f:∀b∈ch,tY X bFG H b)(kp:∀b o,b∉ch->s.heap.get? b=some o->h'.get? b=some o)
  (x:s.heap.objs.size<=T) (D:Vals vs its) (E:vs.length<=sizeLine) (F:wU h' T its.toArray) (hth:∀b∈ch,∃o,h'.get? b=some o):Inv X bFG σ (upd H T (.tup vs)) { s with heap:=h' }:=by
 have d:=I.hok.fresh x;have l:∀b o,s.heap.get? b=some o->b≠T:=λb o e=>bAF (bAL (z9 e) x);have g:∀b u,H b=some u->b∉ch:=λb u e z=>by rw[(f b z).1] at e;cases e
 refine I.step (g':=s.gens) (d':=s.drawn) (t':=s.toks) (λb h=>?_) (λb o _ _ a e _=>kp b o a e) (λb o _ _ a e _=>⟨o.slots,kp b o a e⟩) (λb o a e n=>by rw[aV (l b o e)];exact n)
  (λb o a e=>⟨o,kp b o a e⟩) (λb p e=>by rw[aV (bA e d)];exact e) (λb o u e=>by rw[aV (bA e d)];exact e) (λb G e=>⟨#[],by rw[aV (bA e d),e];simp⟩) (λm B=>?_) (λb u e=>?_) I.bare
 ·obtain⟨_,k,_,w,C,y⟩:=f b h;exact⟨w,k,C,y⟩
 ·obtain⟨o,A,t,j,r⟩:=B;exact⟨o,A,t,kp _ o (λz=>(f _ z).2.1 rfl) j,r⟩
 ·by_cases h:b=T
  ·subst h;rw[aL] at e;cases e;exact⟨E,its,D,F⟩
  ·rw[aV h] at e;refine (I.hok b u e).stay (λc v i q=>kp c v ?_ q) (λc q=>by rw[aV (bA q d)];exact q) λc p q=>by rw[aV (bA q d)];exact q
   rcases i with z|z
   ·rw[z];exact g b u e
   ·exact g c _ z
def Inv.aO1 {ch:List Addr}{h':Heap}(I:Inv X bFG σ H s)(d:∀b∈ch,tY X bFG H b)(kp:∀b o,b∉ch->s.heap.get? b=some o->h'.get? b=some o):Inv X bFG σ H { s with heap:=h' }:=by
 have f:∀b u,H b=some u->b∉ch:=λb u e z=>by rw[(d b z).1] at e;cases e
 refine I.step (g':=s.gens) (d':=s.drawn) (t':=s.toks) (λb i=>?_) (λb o _ _ a e _=>kp b o a e) (λb o _ _ a e _=>⟨o.slots,kp b o a e⟩) (λ_ _ _ _ n=>n)
  (λb o a e=>⟨o,kp b o a e⟩) (λ_ _ e=>e) (λ_ _ _ e=>e) (λb y e=>⟨#[],by rw[e];simp⟩) (λm w=>?_) (λb u e=>?_) I.bare
 ·obtain⟨_,j,_,l,x,p⟩:=d b i;exact⟨l,j,x,p⟩
 ·obtain⟨o,t,k,h,r⟩:=w;exact⟨o,t,k,kp _ o (λz=>(d _ z).2.1 rfl) h,r⟩
 ·refine (I.hok b u e).stay (λc v g q=>kp c v ?_ q) (λ_ q=>q) λ_ _ q=>q;rcases g with z|z
  ·rw[z];exact f b u e
  ·exact f c _ z
end
def ItB (K:bFC)(L:Bool)(t u:Addr)(xs ys:List V):It:=
 ⟨λi H=>SqB K L H t xs/\SqB K L H u ys/\i<xs.length/\i<ys.length,λi H v H'=>∃T a b,H T=none/\v=.ref T/\H'=upd H T (.tup [a,b])/\xs[i]?=some a/\ys[i]?=some b,λi H=>(SqB K L H t xs/\xs.length<=i)\/(SqB K L H t xs/\SqB K L H u ys/\i=ys.length/\ys.length<=xs.length)⟩
def ztn (L:Bool)(z TI TO i1 i2 t u:Addr)(i:Nat)(h:Heap):Prop:=
 h.get? z=some (xF .none TI TO)/\h.get? TI=some (lZ (.ref i1) (.ref i2))/\(∃a b,h.get? TO=some (lZ a b))/\h.get? i1=some (itO L t i)/\h.get? i2=some (itO L u i)
def Itz (K:bFC)(t u:Addr)(xs ys:List V):It:=
 ⟨λi H=>SqT K H t xs/\SqT K H u ys/\i<xs.length/\i<ys.length,λi H v H'=>∃T a b,H T=none/\v=.ref T/\H'=upd H T (.tup [a,b])/\xs[i]?=some a/\ys[i]?=some b,λi H=>SqT K H t xs/\xs.length<=i⟩
def aQ0 {P:Program}{w:World}{K:bFC}{elts:List Expr}{kt:Nat}{pos:Pos}{L:Bool}{z TI TO G J t u:Addr}{xs ys:List V}(D:aAa z TI TO G J) :
  Turn P w K (.Tuple elts kt pos) (ItB K L t u xs ys) [z,TI,TO,G,J] z (ztn L z TI TO G J t u) where
 mem:=by simp
 obj:=λi h st b d=>by
  obtain⟨q,j,⟨a,c,m⟩,p,A⟩:=st;simp only[bAJ,bAE,or_false] at d;rcases d with rfl|rfl|rfl|rfl|rfl
  ·exact⟨_,q,λv z=>by cases (show Data.fields _=Data.cell v from z)⟩
  ·exact⟨_,j,λv z=>by cases (show Data.seq _ _=Data.cell v from z)⟩
  ·exact⟨_,m,λv z=>by cases (show Data.seq _ _=Data.cell v from z)⟩
  ·exact⟨_,p,λv z=>by cases L <;> cases (show Data.fields _=Data.cell v from z)⟩
  ·exact⟨_,A,λv z=>by cases L <;> cases (show Data.fields _=Data.cell v from z)⟩
 keep:=λi h f st k=>by obtain⟨q,j,⟨a,c,m⟩,p,A⟩:=st;exact⟨k z (by simp) _ q,k TI (by simp) _ j,⟨a,c,k TO (by simp) _ m⟩,k G (by simp) _ p,k J (by simp) _ A⟩
 item:=by
  intro X Y Z U S i r s σ H E I l st hg;subst Y Z U;obtain⟨q,j,⟨a0,c0,m⟩,p,A⟩:=st;obtain⟨g,n,l1,l2⟩:=hg;obtain⟨its,M,F⟩:=I.sq g;obtain⟨W,C,pu⟩:=I.sq n;obtain⟨x,T,rx⟩:=M.get (b8 l1);obtain⟨y,hy,ry⟩:=C.get (b8 l2);have B:=l z (by simp);have Q:=l TO (by simp);have R:=l G (by simp);have f2:=l J (by simp);refine aQ4 D q j m p A F pu (by simpa using T) (by simpa using hy) (I.mL g B) (I.mL g Q) (I.mL g R) (I.mL g f2)
   (I.mL n B) (I.mL n Q) (I.mL n R) (I.mL n f2) λf a1 a2 a3 a4 a5 kp=>?_
  refine⟨_,rfl,?_⟩;have fT:H s.heap.objs.size=none:=I.hok.fresh (j9 _);have I1:Inv X r σ (upd H s.heap.objs.size (.tup [xs[i],ys[i]])) { s with heap:=f }:=by
   refine I.drawn (ch:=[z,TO,G,J]) (its:=[x,y]) (λb d=>?_) (λb o d e=>?_) (j9 _) (.cons rx (.cons ry .nil)) (small (by simp)) (.of a5 rfl ⟨_,a5,rfl,_,rfl⟩) (λb d=>?_)
   ·refine l b ?_;simp only[bAJ,bAE,or_false] at d ⊢;rcases d with h|h|h|h <;> simp[h]
   ·simp only[bAJ,bAE,or_false,not_or] at d;exact kp b o d.1 d.2.1 d.2.2.1 d.2.2.2 e
   ·simp only[bAJ,bAE,or_false] at d;rcases d with rfl|rfl|rfl|rfl
    ·exact⟨_,a1⟩
    ·exact⟨_,a2⟩
    ·exact⟨_,a3⟩
    ·exact⟨_,a4⟩
  have nT:∀b∈[z,TI,TO,G,J],b≠s.heap.objs.size:=λb d=>by
   have e:∃o,s.heap.get? b=some o:=by
    simp only[bAJ,bAE,or_false] at d;rcases d with rfl|rfl|rfl|rfl|rfl
    ·exact⟨_,q⟩
    ·exact⟨_,j⟩
    ·exact⟨_,m⟩
    ·exact⟨_,p⟩
    ·exact⟨_,A⟩
   obtain⟨o,e⟩:=e;exact bAF (z9 e)
  refine wpAny_letOwnedTupleGo_zip (s:={ s with heap:=f }) a1 λh2 z2 N=>?_;obtain⟨g0,g1,g2,g3,g4,g5⟩:=B;have I2:Inv X r σ (upd H s.heap.objs.size (.tup [xs[i],ys[i]])) { s with heap:=h2 }:=Inv.turned (s:={ s with heap:=f }) I1 (t':=s.toks) (it:=z) (λb o d e=>(N.2 b d).trans e) (by rw[aV (nT z (by simp))];exact g0) g1 g3 g4 g5;refine⟨.ref s.heap.objs.size,_,I2,rfl,⟨_,_,_,fT,rfl,rfl,b8 l1,b8 l2⟩,?_,λb d=>by rw[aV (nT b d)];exact (l b d).1⟩;exact⟨z2,N.extBut _ _ D.h1 (kp TI _ D.h1 D.h5 D.h6 D.h7 j),⟨_,_,N.extBut _ _ D.h2 a2⟩,N.extBut _ _ D.h3 a3,N.extBut _ _ D.h4 a4⟩
 done:=by
  intro X Y Z U S i r s σ H E I l st hg;subst Y Z U;obtain⟨q,j,⟨a0,c0,m⟩,p,A⟩:=st;have B:=l z (by simp);have Q:=l TO (by simp);have R:=l G (by simp);refine (λ(go:∀f,(∀c o,c≠z->c≠TO->c≠G->c≠J->s.heap.get? c=some o->f.get? c=some o)->_)=>?_:_->_) (λf kp=>(⟨rfl,?_⟩:(none:Option Value)=none/\Inv X r σ H { s with heap:=f }))
  ·rcases hg with⟨g,hl⟩|⟨g,n,hl,hle⟩
   ·obtain⟨its,M,F⟩:=I.sq g;have O:=M.length;exact aFp (I.ok.hd S) D q j m p F (by simp;lia) (I.mL g B) λf kp=>go f kp
   ·obtain⟨its,M,F⟩:=I.sq g;obtain⟨W,C,pu⟩:=I.sq n;have O:=M.length;have a6:=C.length;cases T:its[i]? with
    |none=>exact aFp (I.ok.hd S) D q j m p F (by simpa using T) (I.mL g B) λf kp=>go f kp
    |some x=>exact aSj (I.ok.hd S) D q j m p A F pu (by simpa using T) (by simp;lia) (I.mL g B) (I.mL n B) (I.mL n Q) (I.mL n R) λf kp=>go f kp
  refine Inv.aO1 (ch:=[z,TO,G,J]) I (λb d=>l b ?_) λb o d e=>?_
  ·simp only[bAJ,bAE,or_false] at d ⊢;rcases d with h|h|h|h <;> simp[h]
  ·simp only[bAJ,bAE,or_false,not_or] at d;exact kp b o d.1 d.2.1 d.2.2.1 d.2.2.2 e
 self:=λ_ _ _ _ _ st h=>wpAny_pyIter_zip st.1 h
section
variable {X:Cx}
def aTw (K:bFC)(ta:TA):TI:=fun σ H R=>ta σ H λvs H1=>∃t u xs ys,vs=[.ref t,.ref u]/\SqT K H1 t xs/\SqT K H1 u ys/\R (Itz K t u xs ys) H1
def aXt (L:Bool){J:Addr->Addr->List V->List V->It}{elts:List Expr}{kt:Nat}{tp:Pos}{a b:Expr}{ta:TA}{p pos:Pos}(W:∀{z TI TO i1 i2 t u xs ys},aAa z TI TO i1 i2->Turn X.prog X.w X.K (.Tuple elts kt tp) (J t u xs ys) [z,TI,TO,i1,i2] z (ztn L z TI TO i1 i2 t u))(Y:Gl X "zip")(hm:X.mg "zip"=none)(Z:PA X [a,b] ta)(hs:starEach [a,b] X.env=(false,eval a X.env)::starEach [b] X.env:=by rfl)
  (F:starEach [b] X.env=[(false,eval b X.env)]:=by rfl):PI X (.Tuple elts kt tp) (.Call (.Name "zip" p) [a,b] [] pos) (fun σ H R=>ta σ H λvs H1=>∃t u xs ys,vs=[.ref t,.ref u]/\SqB X.K L H1 t xs/\SqB X.K L H1 u ys/\R (J t u xs ys) H1):=by
 intro d s σ H R I h;refine Call_ (wI I Y hm bAq (bCM (thn (Z pos d s σ H _ I h) λU c ⟨vs,H1,g,N,O⟩=>?_) hs (by rw[F];rfl)));obtain⟨t,u,xs,ys,e,Q,B,q⟩:=O;subst e;obtain⟨x,T,C⟩:=g.sq Q;obtain⟨A,E,P⟩:=g.sq B;cases N with
 |cons r rr=>
  cases rr with
  |cons r' rr'=>
   cases rr';cases r;cases r';refine aR7 C P ?_;have j:(zT1 L c.heap t).objs.size=c.heap.objs.size+1:=bCH ..;have i:(zT2 L c.heap t u).objs.size=c.heap.objs.size+2:=by rw[bCH,j]
   have k:(zT3 L c.heap t u).objs.size=c.heap.objs.size+3:=by rw[bCH,i]
   have m:(zT4 L c.heap t u).objs.size=c.heap.objs.size+4:=by rw[bCH,k]
   have D:aAa (zT4 L c.heap t u).objs.size (zT2 L c.heap t u).objs.size (zT3 L c.heap t u).objs.size c.heap.objs.size (zT1 L c.heap t).objs.size:=by constructor <;> (show (_:Nat)≠(_:Nat);rw[Ne];intro h;simp only[j,i,k,m] at h;lia)
   have n:(zT5 L c.heap t u).get? (zT4 L c.heap t u).objs.size=some (xF .none (zT2 L c.heap t u).objs.size (zT3 L c.heap t u).objs.size):=w6 _ rfl;have G:(zT5 L c.heap t u).get? (zT3 L c.heap t u).objs.size=some (lZ .none .none):=c7 _ (w6 _ rfl);have v:(zT5 L c.heap t u).get? (zT2 L c.heap t u).objs.size=some (lZ (.ref c.heap.objs.size) (.ref (zT1 L c.heap t).objs.size)):=c7 _ (c7 _ (w6 _ rfl));have y:(zT5 L c.heap t u).get? (zT1 L c.heap t).objs.size=some (itO L u 0):=c7 _ (c7 _ (c7 _ (w6 _ (by cases L <;> rfl))));have S:(zT5 L c.heap t u).get? c.heap.objs.size=some (itO L t 0):=c7 _ (c7 _ (c7 _ (c7 _ (w6 _ (by cases L <;> rfl)))));have M:Inv X d σ H1 { c with heap:=zT5 L c.heap t u }:=g.kept (t':=c.toks) λb o e=>c7 _ (c7 _ (c7 _ (c7 _ (c7 _ e))));refine wpAny_pyIter_zip (s:={ c with heap:=zT5 L c.heap t u }) n ⟨_,_,_,_,H1,rfl,M,W D,⟨n,v,⟨_,_,G⟩,S,y⟩,λb l=>?_,q⟩;have f:c.heap.objs.size<=b:=by
    simp only[bAJ,bAE,or_false] at l;rcases l with rfl|rfl|rfl|rfl|rfl
    ·rw[m];exact bDT ..
    ·rw[i];exact bDT ..
    ·rw[k];exact bDT ..
    ·exact j9 _
    ·rw[j];exact bDT ..
   exact g.aM8 f (g.hok.fresh f)
def aW4 (d:Gl X "zip")(m:X.mg "zip"=none)(l:PA X [a,b] ta)(hs:starEach [a,b] X.env=(false,eval a X.env)::starEach [b] X.env:=by rfl)
  (e:starEach [b] X.env=[(false,eval b X.env)]:=by rfl):PI X (.Tuple elts kt tp) (.Call (.Name "zip" p) [a,b] [] pos) (aTw X.K ta):=
 aXt false (J:=Itz X.K) (λD=>let T:=aQ0 (L:=false) D;⟨T.mem,T.obj,T.keep,T.item,λX k j h g i c s σ H E I f st d=>T.done X k j h g i c s σ H E I f st (.inl d),T.self⟩) d m l hs e
inductive Tk (K:bFC)(H:Hp):V->Bool->Prop
 |int {i}:Tk K H (.int i) false
 |str {x}:Tk K H (.str x) false
 |bl {b}:Tk K H (.bl b) false
 |non:Tk K H .non false
 |lst {a xs}:SqL K H a xs->Tk K H (.ref a) false
 |dct {a kvs}:H a=some (.dK kvs)->Tk K H (.ref a) false
 |tup {a xs}:SqT K H a xs->Tk K H (.ref a) true
def bDk (K:bFC):List V->Hp->VK->Prop:=λxs H Q=>∃x b,xs=[x,.ty "tuple"]/\Tk K H x b/\Q (.bl b) H
def iT:dD X (.builtin "isinstance") (bDk X.K):=by
 intro f s σ H w y Q I r h;obtain⟨x,b,rfl,m,q⟩:=h;obtain⟨u,v,rfl,a,p⟩:=r.two;cases p;have i:EP X f σ Q (.bool b) s:=⟨.bl _,H,I,rfl,q⟩;have d:EP X f σ Q (.bool b) { s with toks:=s.toks+1 }:=⟨.bl _,H,I.tok _,rfl,q⟩;cases m with
 |int=>obtain⟨t,rfl⟩:=a;exact IsiPair.int_tuple d
 |str=>obtain⟨t,rfl⟩:=a;exact IsiPair.str_tuple d
 |bl=>cases a;exact IsiPair.bool_tuple d
 |non=>cases a;exact IsiPair.NoneType_tuple d
 |lst hq=>cases a;obtain⟨g,k,⟨o,n,e,c,_⟩,j⟩:=I.list hq;exact IsiPair.list_tuple e c d
 |dct hq=>cases a;obtain⟨_,_,_,_,o,_,_,e,l,_⟩:=I.hok _ _ hq;exact IsiPair.dict_tuple e l.1 d
 |tup hq=>cases a;obtain⟨g,k,⟨o,e,c,_⟩,j⟩:=I.tuple hq;exact IsiPair.tuple_tuple e c i
end
section
variable {X:Cx}{scope:Scope}{N:List Str}{wi:TI}{te:TE}{σ:St}{H:Hp}{Q:VK}
def oZ {σ0:St}{j:Nat}(c:σ0[j]?=some none):σ0=σ0.set j none:=by
 refine (bCK λi=>?_);rw[List.getElem?_set]
 split
 ·rename_i a;subst a
  split
  ·exact c
  ·rename_i b;exact List.getElem?_eq_none_iff.mpr (by lia)
 ·rfl
def vV {K:bFC}{a:Addr}{xs:List V}{tl:TE}(b:SqT K H a xs)(h:∀R:VK,R (.ref a) H->tl σ H R)(R:It->Hp->Prop)
  (q:∀J:It,(∀H' i x,Same H H'->xs[i]?=some x->J.go i H'/\∀y H2,J.yld i H' y H2->H2=H'/\y=x)->(∀H',Same H H'->J.stop xs.length H')->R J H):aRn K tl σ H R:=by
 refine h _ ⟨a,rfl,⟨xs,b⟩,q _ (λH' i x s e=>⟨⟨xs,x,s.aQ b,e⟩,λy H2 d=>?_⟩) λH' s=>⟨xs,s.aQ b,j9 _⟩⟩;obtain⟨f,g⟩:=d;have c:=g xs (s.aQ b);rw[e] at c;cases c;exact⟨f,rfl⟩
end
def Held (P:Program)(w:World)(K:bFC)(mg:bFF)(base:Heap)(k:Nat)(f:Addr)(ps:List Str)(sp:Sp):Prop:=
 ∃fd,PySem.W.keepIn K (.ref f)=true/\Binds K fd ps []/\gJ P w K mg base CX0 k f fd ps sp
def Ok.held {P:Program}{w:World}{K:bFC}{mg:bFF}{base:Heap}{k:Nat}{x:Str}{ps:List Str}{sp:Sp}(G:Ok P w K mg base k x ps sp):∃f,mg x=some (.ref f)/\Held P w K mg base k f ps sp:=by obtain⟨f,e,d,c,b,a⟩:=G;exact⟨f,d,e,c,b,a⟩
def Held.mono {P:Program}{w:World}{K:bFC}{mg:bFF}{base:Heap}{j k:Nat}{f:Addr}{ps:List Str}{sp:Sp}(h:Held P w K mg base j f ps sp)(e:j<=k):Held P w K mg base k f ps sp:=by obtain⟨d,c,b,a⟩:=h;exact⟨d,c,b,a.mono e⟩
section
variable {X:Cx}{x:Str}{p pos:Pos}{e:Expr}{es:List Expr}{te:TE}{t:TA}
def aSy (P:Program)(w:World)(K:bFC)(mg:bFF)(base:Heap)(k:Nat)(te:TE)(t:TA):TE:=fun σ H Q=>te σ H λv H1=>∃f ps sp,v=.ref f/\Held P w K mg base k f ps sp/\t σ H1 λvs H2=>sp vs H2 Q E0
def aXg (z:Room k X.A)(G:PE X (.Name x p) te)(B:PA X (e::es) t)
  (y:starEach (e::es) X.env=(false,eval e X.env)::starEach es X.env:=by rfl) (o:(backTo pos (starEach es X.env)).any (·.1)=false:=by rfl) :
  PE X (.Call (.Name x p) (e::es) [] pos) (aSy X.prog X.w X.K X.mg X.base k te t):=by
 intro a s σ H Q I h;refine bBW (thn (G a s σ H _ I h) λu n ⟨v,g,b,j,l⟩=>?_);obtain⟨f,N,D,rfl,⟨C,i,d,F⟩,q⟩:=l;obtain rfl:u=Value.ref f:=j;refine PySem.W.callWith_K b.ok.mod.kin i (thn (B pos a n σ g _ b q) λE L ⟨J,M,c,r,m⟩=>⟨c.kIn,?_⟩) y o;exact aDu F z d .nil aCe c r (by simpa using m)
end
end L2
namespace PySem
def xQ:fillsNumberSlot (.type "tuple") "mul"=pure false:=
 fillsNumberSlot_seq F.slot_tuple_mul.lookup (by trivial) F.slot_tuple_rmul.lookup (by trivial)
def aFb:seqRepeat? (.type "tuple")=pure (some (.builtin "tuple.__mul__")):=by unfold seqRepeat?;rw[seqSlot_of (T:="tuple") (name:="__mul__") (id:="tuple.__mul__") F.slot_tuple_mul.lookup (by trivial),seqSlot_of (T:="tuple") (name:="__rmul__") (id:="tuple.__rmul__") F.slot_tuple_rmul.lookup (by trivial)];rfl
def aC2 (a:Int)(t:Tok)(l:Addr)(items:Array Value)(n:Nat)(dd:Option Addr)(sl:Array (Option Value)) :
  Meets (Builtin.«int.__rmul__» ⟨[.int a t,.ref l],[]⟩) (λ_ R s=>s.heap.get? l=some { cls:=.type "tuple",dict:=dd,data:=.seq items n,slots:=sl }/\R (.ok (.ret Value.notImplemented)) s):=
 .of_wp λb w A R s h=>by obtain⟨c,g,d,e,f⟩:=s;obtain⟨i,h⟩:=h;wp_walk;exact⟨_,rfl,h⟩
def aNm (l:Addr)(items:Array Value)(n:Nat)(dd:Option Addr)(sl:Array (Option Value))(x:Int)(u:Tok)(k:(decide (x < -(2 ^ 63)) || decide (x ≥ 2 ^ 63))=false)(h2:(items.isEmpty || x == 1)=false)(h3:(decide (x<=0) || items.isEmpty)=false)
  (j:¬ (items.size:Int) * x > (2 ^ 63 - 1) / 8) (h5:Builtin.Tuple.tupleTooMany ((items.size:Int) * x)=false) (f:(List.foldl (λx1 x2=>x1++x2) #[] (List.replicate x.toNat items)).size<=sizeLine) :
  Meets (Builtin.«tuple.__mul__» ⟨[.ref l,.int x u],[]⟩) (λ_ R s=>s.heap.get? l=some { cls:=.type "tuple",dict:=dd,data:=.seq items n,slots:=sl }/\R (.ok (.ret (Value.ref s.heap.objs.size))) { s with heap:=s.heap.push { cls:=Value.type "tuple",data:=Data.seq (List.foldl (λx1 x2=>x1++x2) #[] (List.replicate x.toNat items)) } }):=
 .of_wp λa w A R s h=>by
  obtain⟨b,g,d,c,e⟩:=s;obtain⟨i,h⟩:=h;wp_walk;refine wpAny_ite_false (by rw[k];rfl) ?_;wp_walk;refine wpAny_ite_false (j6 j) ?_;wp_walk;first
   |exact⟨_,rfl,h⟩
   |(refine wpAny_ite_false (j6 (Nat.not_lt.mpr f)) ?_;wp_walk;exact⟨_,rfl,h⟩)
end PySem
namespace L2
open PySem PySem.Spec PyProof.Rows
section
variable {X:Cx}
def aV9:OpR X (binaryOp .Add) (λx y H Q=>∃a b ys,x=.ref a/\y=.ref b/\SqT X.K H a []/\SqT X.K H b ys/\Q (.ref b) H):=by
 intro z s σ H x y v u Q I A B h;obtain⟨a,b,ys,rfl,rfl,G,D,q⟩:=h;cases A;cases B;obtain⟨r,L,t,_⟩:=I.tuple G;obtain⟨c,N,w,_⟩:=I.tuple D;cases L;obtain⟨⟨J,C,p,M⟩,m,o,n,k⟩:=id t;obtain⟨⟨l,g,j,i⟩,e,f,E,d⟩:=id w;simp only at o k f d;subst o k f d;exact concat_meets ⟨_,m,rfl⟩ ⟨_,e,rfl⟩ noFill_tuple_add seq_tuple_add PySem.F.slot_tuple_add PySem.F.entry_tuple_add (PySem.F.args_tuple_add_2 _ _)
  (tuple_addW0 a b #[] c.toArray n E C g M i rfl) ⟨m,e,⟨.ref b,H,I,rfl,q⟩⟩
def bEn (K:bFC):R2:=λx y H Q=>∃l k xs,x=.ref l/\y=.int k/\SqT K H l xs/\xs≠[]/\2<=k/\k<2 ^ 63/\xs.length * k.toNat<=sizeLine /\
 ∀p,H p=none->Q (.ref p) (upd H p (.tup (List.replicate k.toNat xs).flatten))
def aXn:OpR X (binaryOp .Mult) (bEn X.K):=by
 intro D s σ H x y v u Q I E M h;obtain⟨l,k,T,rfl,rfl,R,J,W,V,i,q⟩:=h;cases E;obtain⟨t,rfl⟩:=M;obtain⟨a,r,C,_⟩:=I.tuple R;obtain⟨⟨S,m,A,B⟩,e,w,n,j⟩:=id C;simp only at w j;subst w j;have L:=r.length;have g:a≠[]:=λz=>J (r.aCb.mp z);have d:a.toArray.isEmpty=false:=by cases a with|nil=>exact absurd rfl g|cons _ _=>rfl
 have G:(k.toNat:Int)=k:=Int.toNat_of_nonneg (by lia);have c:((a.toArray.size:Nat):Int) * k=((a.length * k.toNat:Nat):Int):=by rw[m9,Int.natCast_mul,G]
 have f:a.length * k.toNat<=sizeLine:=by rw[<-L];exact i
 have o:List.foldl (λN O=>N++O) #[] (List.replicate k.toNat a.toArray)=(List.replicate k.toNat a).flatten.toArray:=by have:=foldl_rep a k.toNat [];rw[bDM] at this;exact this
 have p:(sizeLine:Nat)<=(2 ^ 63 - 1) / 8:=by decide
 refine wpAny_binaryOp_repeat_ref (by decide) ⟨_,e,rfl⟩ (λP=>typeIs_int P k t) xQ F.fills_int_mul F.slot_int_rmul aFb F.slot_int_index.lookup
  (call_meets F.slot_int_rmul (typeIs_int s k t) F.entry_int_rmul (F.args_int_rmul_2 _ _) (aC2 k t l a.toArray n m B)
   ⟨e,rfl,⟨_,e,rfl⟩,call_meets F.slot_tuple_mul ⟨_,e,rfl⟩ F.entry_tuple_mul (F.args_tuple_mul_2 _ _) (aNm l a.toArray n m B k t ?_ ?_ ?_ ?_ ?_ ?_) ⟨e,?_⟩⟩)
 ·rw[j6 (by lia),j6 (by lia)];rfl
 ·rw[d,Bool.false_or];exact beq_false_of_ne (by lia)
 ·rw[d,j6 (by lia)];rfl
 ·rw[c];lia
 ·unfold Builtin.Tuple.tupleTooMany;rw[c];exact j6 (by lia)
 ·rw[o,m9,len_rep,Nat.mul_comm];exact f
 ·rw[o];refine⟨.ref s.heap.objs.size,_,I.laid (t':=s.toks) (λb U q=>c7 _ q) (j9 _) ?_,rfl,q _ (I.hok.fresh (j9 _))⟩;exact⟨by rw[len_rep,Nat.mul_comm];exact i,_,r.rep k.toNat,wU.new _ _⟩
end
end L2
namespace PySem
section
variable {prog:Program}{w:World}
variable {A:Around}{E:bFD}{s:Shared}
end
end PySem
namespace L2
open PySem PySem.Spec PyProof.Rows
section
variable {X:Cx}
end
def tG (j:Nat)(e:(y,NameKind.free)∈scope.names)(c:X.N[j]?=some y)(hs:σ[j]?=some (some v))(d:Vis X.env.scope y):Cap X scope [x,y] σ [none,some v]:=
 ⟨rfl,λi z u b a=>by
  match i,b,a with
  |0,_,a=>cases a
  |1,b,a=>cases b;cases a;exact⟨e,j,c,hs,d⟩
  |i+2,b,_=>cases b⟩
def lH:Cap X scope [x,y] σ [none,none]:=⟨rfl,λi z u b a=>by
  match i,b,a with
  |0,_,a=>cases a
  |1,_,a=>cases a
  |i+2,b,_=>cases b⟩
section
variable {X:Cx}{a b e:Expr}{es:List Expr}{te:TE}{t:TA}{pos p:Pos}{x:Str}
def aXy (c:Room k X.A)(b:VE X (.Name x p) te)(d:VA X (e::es) t)(f:eQ e=true:=by rfl)(a:(backTo pos (starEach es X.env)).any (·.1)=false:=by rfl) :
  VE X (.Call (.Name x p) (e::es) [] pos) (aSy X.prog X.w X.K X.mg X.base k te t):=⟨aXg c b.1 d.1 (bR f) a⟩
def rO {P:Program}{w:World}{K:bFC}{mg:bFF}{base:Heap}{k:Nat}(c:Room k X.A)(i:VE X (.Name x p) te)(d:VA X (e::es) t)(f:eQ e=true:=by rfl)(a:(backTo pos (starEach es X.env)).any (·.1)=false:=by rfl)
  (j:X.prog=P:=by rfl) (h:X.w=w:=by rfl) (g:X.K=K:=by rfl) (b:X.mg=mg:=by rfl) (l:X.base=base:=by rfl) :
  VE X (.Call (.Name x p) (e::es) [] pos) (aSy P w K mg base k te t):=by
 subst j h g b l;exact aXy c i d f a
def gC {K:bFC}(h:X.K=K:=by rfl):IxR X (bBw K):=by subst h;exact bD
def lF {K:bFC}{k:Nat}{u:TGs}{n:Nat}(c:X.calm=true)(h:VGs X es u)(hn:(assignEach es X.env).length=n:=by rfl)(a:(assignEach es X.env).findIdx? (·.1)=none:=by rfl)(b:X.K=K:=by rfl):VG X (.Tuple es k pos) (aGn K n u):=by subst b;exact kE c h hn a
def aWn (d:Gl X "zip")(e:X.mg "zip"=none)(f:VA X [a,b] t)(g:eQ a=true:=by rfl)(c:eQ b=true:=by rfl) :
  VI X (.Tuple elts kt tp) (.Call (.Name "zip" p) [a,b] [] pos) (aTw X.K t):=⟨aW4 d e f.1 (bR g) (bR c)⟩
def rD (d:VE X e te)(a:VG X tg g)(hs:swapsWithSole [tg] e pos.line X.env=pure false:=by rfl)(b:swappedStores [tg] e X.env=pure none:=by rfl)
  (c:(assignEach [tg] X.env).map (·.2)=[assign tg X.env]:=by rfl):VS X (.Assign [tg] e pos) (rC te g):=⟨bA5 d.1 a.1 hs b c⟩
end
section
variable {X:Cx}
def bE4:V->Option Int->Option Int->Hp->VK->Prop:=λx lo hi H Q=>∃z,x=.str z/\z.length<=sizeLine/\Q (.str (Txt.slice z lo hi)) H
def qH:SlR X bE4:=by
 intro e s σ H x v L J E G n Q I y r C m h;obtain⟨z,rfl,p,q⟩:=h;obtain⟨t,rfl⟩:=y;have a:∀l u:Option (Int × Tok),l.map (·.1)=E->u.map (·.1)=G->s.heap.IsSlice n l u none->wpAny (model X.prog X.w) X.A (getItem (.str z t) (.ref n)) (EP X e σ Q) X.xe s:=λl u D B g=>by subst D B;refine wpAny_getItem_str_slice g rfl ?_;unfold sliceMade;have f:=Txt.slice_le z (l.map (·.1)) (u.map (·.1));exact post_val_or_str ⟨bAG f p,λK k=>⟨.str (Txt.slice z (l.map (·.1)) (u.map (·.1))),H,I.tok _,⟨_,rfl⟩,q⟩⟩
 refine⟨"str",_,F.slot_str_getitem.lookup,typeIs_str _ _ _,?_⟩;obtain⟨o,c,d,b⟩:=r;cases C with
 |none=>
  cases m with
  |none=>exact a none none rfl rfl ⟨o,c,d,b⟩
  |int j u=>exact a none (some (j,u)) rfl rfl ⟨o,c,d,b⟩
 |int i t=>
  cases m with
  |none=>exact a (some (i,t)) none rfl rfl ⟨o,c,d,b⟩
  |int j u=>exact a (some (i,t)) (some (j,u)) rfl rfl ⟨o,c,d,b⟩
end
def aB1 (n:Nat)(h:∀R:List V->Hp->Prop,R [.int n] H->ta σ H R)(hn:(n:Int)<2 ^ 62)(R:It->Hp->Prop)
  (q:∀J:It,(∀H' i x,Same H H'->((List.range n).map λi:Nat=>V.int (0+(i:Int)))[i]?=some x->J.go i H'/\∀y H2,J.yld i H' y H2->H2=H'/\y=x) ->
   (∀H',Same H H'->J.stop ((List.range n).map λi:Nat=>V.int (0+(i:Int))).length H')->R J H):aUk ta σ H R:=by
 refine h _ ⟨n,rfl,by lia,hn,?_⟩;refine q _ (λH' i x _ e=>?_) λH' _=>?_
 ·rw[bAC] at e;have c:i<n:=by
   cases a:(List.range n)[i]? with
   |none=>rw[a] at e;cases e
   |some j=>have:=(List.getElem?_eq_some_iff.mp a).1;rwa [bAH] at this
  rw[bCA c] at e;cases e;exact⟨show i<((n:Int)).toNat from by lia,λy H2 b=>b⟩
 ·rw[d7,bAH];simp[Itr]
def aTt {x:Str}{j:Nat}(h:j<=x.length):(Txt.slice x none (some (j:Int))).cps.toList=x.cps.toList.take j:=by have e:=StrLaws.sliceText_to (x:=x) (j:=(j:Int)) ⟨by lia,by rw[bAU];exact Int.ofNat_le.mpr h⟩;show (StrLaws.sliceText x none (some (j:Int))).cps.toList=_;rw[e];simp
def aNx {x:Str}{j:Nat}(h:j<=x.length):(Txt.slice x (some (j:Int)) none).cps.toList=x.cps.toList.drop j:=by have e:=StrLaws.sliceText_from (x:=x) (i:=(j:Int)) ⟨by lia,by rw[bAU];exact Int.ofNat_le.mpr h⟩;show (StrLaws.sliceText x (some (j:Int)) none).cps.toList=_;rw[e];simp only[bCJ];refine bBK ?_;rw[bCD];lia
def put (x:Str)(a:Nat)(c:Nat):Str:=Txt.slice x none (some (a:Int))++⟨#[c]⟩++Txt.slice x (some (a:Int)) none
def aIt (h:a<=x.length):(put x a c).cps.toList=x.cps.toList.take a++c::x.cps.toList.drop a:=by show ((Txt.slice x none (some (a:Int))).cps++#[c]++(Txt.slice x (some (a:Int)) none).cps).toList=_;rw[bDV,bDV,aTt h,aNx h];simp
def aYf (h:a<=x.length)(e:put x a c=put x a d):c=d:=by have b:=congrArg (λy:Str=>y.cps.toList) e;simp only[aIt h] at b;have f:=List.append_cancel_left b;exact (List.cons.inj f).1
def aXv {x:Str}{a c:Nat}(h:a<=x.length):(put x a c).length=x.length+1:=by
 have e:=congrArg List.length (aIt (c:=c) h);have l:x.length=x.cps.toList.length:=by rw[bAU];rfl
 rw[bAU,j4,d9,bAV,bCD] at e;show (put x a c).cps.size=_;lia
def aWp (h:a<=x.length)(m:d∈(put x a c).cps):d=c\/d∈x.cps:=by
 have b:=Array.mem_toList_iff.mpr m;rw[aIt h] at b;rcases List.mem_append.mp b with z|z
 ·exact .inr (Array.mem_toList_iff.mp (bBX z))
 ·rcases List.mem_cons.mp z with z|z
  ·exact .inl z
  ·exact .inr (Array.mem_toList_iff.mp (bEO z))
section
variable {X:Cx}{scope:Scope}{N:List Str}{wi:TI}{te:TE}{σ:St}{H:Hp}{Q:VK}
def xK {K:bFC}(h:X.K=K:=by rfl):IxR X (aX2 K):=by subst h;exact cX
end
section
variable {X:Cx}{e:Expr}{es:List Expr}{t:TA}{pos:Pos}
def aZh (t:TA):TE:=fun σ H Q=>t σ H λxs H1=>xs.length<=sizeLine/\∀p H',H1 p=none->Same H1 H'->H' p=some (.tup xs)->Q (.ref p) H'
def aZc (t:TA):TE:=fun σ H Q=>t σ H λxs H1=>xs.length<=sizeLine/\∀p H',H1 p=none->Same H1 H'->H' p=some (.lst xs)->Q (.ref p) H'
def bBr:TE:=λ_ H Q=>∀p H',H p=none->Same H H'->H' p=some (.dK [])->Q (.ref p) H'
def aK {x1}(h:VA X es t):VE X (.Tuple es x1 pos) (aZh t):=⟨by intro a s σ H Q I k;refine wpAny_Tuple_spliced (thn (h.1 pos a s σ H _ I k) λj c ⟨i,g,d,r,z,q⟩=>⟨by rw[<-r.length];exact z,?_⟩);have f:=d.hok.fresh (j9 _);refine⟨.ref c.heap.objs.size,upd g c.heap.objs.size (.tup i),d.laid (t':=c.toks) (λb u e=>c7 _ e) (j9 _) ?_,rfl,q _ _ f (bV f _) aL⟩;exact⟨z,j,r,.of (w6 _ rfl) rfl ⟨_,w6 _ rfl,rfl,_,rfl⟩⟩⟩
def bM (h:VA X es t):VE X (.List es pos) (aZc t):=⟨by intro a s σ H Q I k;refine wpAny_List_spliced (thn (h.1 pos a s σ H _ I k) λj c ⟨i,g,d,r,z,q⟩=>⟨by rw[<-r.length];exact z,?_⟩);have f:=d.hok.fresh (j9 _);refine⟨.ref c.heap.objs.size,upd g c.heap.objs.size (.lst i),d.laid (t':=c.toks) (λb u e=>c7 _ e) (j9 _) ?_,rfl,q _ _ f (bV f _) aL⟩;exact⟨z,j,0,r,w6 _ rfl⟩⟩
def aU6:VE X (.Dict [] [] pos) bBr:=VE.imp aVa fun σ H Q h p a=>h p _ a (bV a _) aL
def OpR.imp (h:OpR X f r)(k:∀x y H Q,r' x y H Q->r x y H Q):OpR X f r':=λa s σ H x y v u Q I c b q=>h a s σ H x y v u Q I c b (k _ _ _ _ q)
def dD.imp (h:dD X f r)(k:∀xs H Q,r' xs H Q->r xs H Q):dD X f r':=λa s σ H xs c Q I b q=>h a s σ H xs c Q I b (k _ _ _ q)
inductive aZk (K:bFC)(x:V)(y:V)(H:Hp)(Q:VK):Prop
 |mk (a:_) (b:_) (xs:_) (ys:_) (h0:x=.ref a) (h1:y=.ref b) (h2:SqT K H a xs) (h3:SqT K H b ys) (h4:xs.length+ys.length<=sizeLine) (h5:∀r H',Same H H'->SqT K H' r (xs++ys)->Q (.ref r) H'):aZk K x y H Q
def aWo:OpR X (binaryOp .Add) (aZk X.K):=OpR.imp (aWr.or aV9) λx y H Q ⟨a,b,f,g,i,e,d,c,j,q⟩=>by
 by_cases h:f=[]
 ·subst h;exact .inr ⟨a,b,g,i,e,d,c,q b H (Same.refl H) c⟩
 ·refine .inl ⟨a,b,f,g,i,e,d,c,h,j,λz=>?_,λ_ p k=>q p _ (bV k _) (SqT.of aL)⟩;subst z;exact q a H (Same.refl H) (by rw[bAW];exact d)
def bFc (K:bFC):V->Option Int->Option Int->Hp->VK->Prop:=λx lo hi H Q=>∃a xs,x=.ref a/\SqT K H a xs /\
 ¬ (HT.sIx xs.length 0 lo=0/\HT.sIx xs.length xs.length hi=xs.length)/\∀p H',Same H H'->H' p=some (.tup (oM xs lo hi))->Q (.ref p) H'
def aHt:SlR X (bFc X.K):=λb s σ H x v n f k l r Q I j h o m ⟨a,d,e,g,c,q⟩=>
 aZu b s σ H x v n f k l r Q I j h o m ⟨a,d,e,g,c,λp i=>q p _ (bV i _) aL⟩
inductive aM1 (x:V)(y:V)(H:Hp)(Q:VK):Prop
 |mk (l:_) (b:_) (xs:_) (zs:_) (h0:x=.ref l) (h1:y=.ref b) (h2:H l=some (.lst xs)) (h3:H b=some (.lst zs)) (h4:xs.length+zs.length<=sizeLine) (h5:∀p H',H p=none->Same H H'->H' p=some (.lst (xs++zs))->Q (.ref p) H'):aM1 x y H Q
def gW:OpR X (binaryOp .Add) aM1:=OpR.imp bCg λx y H Q ⟨l,b,e,g,h,d,i,c,f,q⟩=>⟨l,b,e,g,h,d,i,c,f,λp a=>q p _ a (bV a _) aL⟩
def bDt (K:bFC):R2:=λx y H Q=>∃l k xs,x=.ref l/\y=.int k/\SqT K H l xs/\xs≠[]/\2<=k/\k<2 ^ 63/\xs.length * k.toNat<=sizeLine /\
 ∀p H',Same H H'->H' p=some (.tup (List.replicate k.toNat xs).flatten)->Q (.ref p) H'
def aW1:OpR X (binaryOp .Mult) (bDt X.K):=OpR.imp aXn λx y H Q ⟨l,k,b,e,a,f,g,i,h,c,q⟩=>⟨l,k,b,e,a,f,g,i,h,c,λp d=>q p _ (bV d _) aL⟩
def bBc (K:bFC):List V->Hp->VK->Prop:=λxs H Q=>∃p ys,xs=[.ref p]/\(SqL K H p ys\/SqT K H p ys)/\∀l H',H l=none->Same H H'->H' l=some (.lst ys)->Q (.ref l) H'
def pU:dD X (.type "list") (bBc X.K):=dD.imp aHa λc H Q ⟨p,b,e,h,q⟩=>⟨p,b,e,h,λl a=>q l _ a (bV a _) aL⟩
def aXz (K:bFC):List V->Hp->VK->Prop:=λxs H Q=>∃p ys,xs=[.ref p]/\SqL K H p ys/\∀l H',H l=none->Same H H'->H' l=some (.tup ys)->Q (.ref l) H'
def cC:dD X (.type "tuple") (aXz X.K):=dD.imp aE8 λc H Q ⟨p,b,e,h,q⟩=>⟨p,b,e,.inl ⟨h,λl a=>q l _ a (bV a _) aL⟩⟩
def dM:MtR X "list.append" aHw:=aF5
def oW (f:H D=none)(s:Same H H'):Same H (upd H' D o):=λb u e=>by rw[aV (bA e f)];exact s _ _ e
def bBu (xs:List V)(h:n<=xs.length):oM xs none (some (n:Int))=xs.take n:=by unfold oM;rw[HT.yF,HT.xN,bEP h,bEX,Nat.sub_zero]
end
end L2
namespace PySem
section
variable {prog:Program}{w:World}{A:Around}{E:bFD}{s:Shared}{T:String}{r d:Addr}{n:Nat}{P:Nat->Value->Prop}{OK:Heap->Prop}
def aJe {Q:List Value->Shared->Prop}(v:PySem.W.KdlSrc prog w T r d n P OK)(C:A.handled=none)(p:OK s.heap)
  (B:∀h' tk acc,(∀b o,s.heap.get? b=some o->h'.get? b=some o)->ItemsOf P acc n->Q acc.toList { s with heap:=h',toks:=tk }) (hn:n<=sizeLine) :
  wpAny (model prog w) A (collect (.ref r)) Q E s:=by
 unfold collect;refine b7 (wpAny_runValue (bEC F.entry_proto_collect ?_));rw[bDR F.plain_proto_collect _];show wpAny _ A.in1 (newList [] >>= λl=>again (.builtin "list.__iadd__" ⟨[l,.ref r],[]⟩)) _ _ s;refine b7 (bAX ?_);refine j8 ⟨plainId_quiet F.plain_list_iadd _,bEC F.entry_list_iadd ?_⟩;rw[bDR F.plain_list_iadd _];show wpAny _ A.in1 (Builtin.List.listExtendWith (.ref s.heap.objs.size) (.ref r) (.ref s.heap.objs.size)) _ _ _;have z:(s.heap.push { cls:=.type "list",data:=.seq ([]:List Value).toArray }).get? s.heap.objs.size=some { cls:=.type "list",data:=.seq #[] 0 }:=w6 _ rfl;have m:=v.there _ p;have k:∀h' tk c j,(∀b o,b≠s.heap.objs.size->(s.heap.push { cls:=.type "list",data:=.seq ([]:List Value).toArray }).get? b=some o->h'.get? b=some o) ->
   h'.get? s.heap.objs.size=some { cls:=.type "list",dict:=none,data:=.seq c j,slots:=#[] }->ItemsOf P c n ->
   wpAny (model prog w) A (match Value.ref s.heap.objs.size with
   |Value.ref a=>do
    match (<-load a).data with
     |Data.seq xs _=>pure xs.toList
     |_=>unsupported "internal:collect"
   |_=>unsupported "internal:collect") Q E { s with heap:=h',toks:=tk }:=by
  intro h' tk c j kp i g;show wpAny _ A (load s.heap.objs.size >>= _) _ _ _;refine b7 (wpAny_load i ?_);refine j8 ?_;exact B h' tk c (λb o e=>kp b o (bAF (z9 e)) (c7 _ e)) g
 refine bBE (PySem.W.kdl_extend (A:=A) (R:=λq u=>∃h' tk c j,q=.ok (.ret (.ref s.heap.objs.size))/\u={ s with heap:=h',toks:=tk }/\(∀b o,b≠s.heap.objs.size->(s.heap.push { cls:=.type "list",data:=.seq ([]:List Value).toArray }).get? b=some o->h'.get? b=some o) /\
   h'.get? s.heap.objs.size=some { cls:=.type "list",dict:=none,data:=.seq c j,slots:=#[] }/\ItemsOf P c n)
  (s:={ s with heap:=s.heap.push { cls:=.type "list",data:=.seq ([]:List Value).toArray } }) v C (v.keep _ _ p λb _ o e=>c7 _ e) s.heap.objs.size (bCW m.1) (bCW m.2) (.ref s.heap.objs.size) 0 z
   (λh' tk c j kp i g=>⟨h',tk,c,j,rfl,rfl,kp,i,g⟩) hn) (λt u h=>?_) (λe u h=>?_)
 ·cases t with
  |done f=>obtain⟨h',tk,c,j,e,rfl,kp,i,g⟩:=h;cases e;exact k h' tk c j kp i g
  |again j=>exact⟨h.1,bDG h.2 λq y x=>by obtain⟨h',tk,c,j,rfl,rfl,kp,i,g⟩:=x;exact k h' tk c j kp i g⟩
 ·obtain⟨_,_,_,_,e,_⟩:=h;cases e
end
def rN (d:Addr)(kvs:List (Str × Value))(C:(d == sysModules)=false)(hn:kvs.length<=sizeLine) :
  MeetsIn prog w (Builtin.«tuple.__new__» ⟨[.type "tuple",.ref d],[]⟩)
   (λA R s=>A.handled=none/\(s.heap.DictOf (strKind prog w) d kvs)/\∀(h':Heap) (tk:Nat) (acc:Array Value),(∀b o,s.heap.get? b=some o->h'.get? b=some o) ->
    ItemsOf (λi v=>∃k x t,kvs[i]?=some (k,x)/\v=.str k t) acc kvs.length->R (.ok (.ret (.ref h'.objs.size))) { s with heap:=h'.push { cls:=.type "tuple",data:=.seq acc },toks:=tk }):=
 .of_wp λA R s h=>by
  obtain⟨p,l,h⟩:=h;have g:=sub_tuple_self;have hinit:=init_tuple_lookup;have m:=madeHere_tuple;have q:s.TypeIs (.ref d) "dict":=l.typeIs;have f:A.in1.handled=none:=p;obtain⟨ep,c⟩:=l.dictAt;obtain⟨o,B,y,z⟩:=id c;wp_walk using AutoSeq1.wpAny_loadPart' y,wpAny_typeOf q,aJe (hn:=hn) (PySem.W.kdl_dict (knd:=strKind prog w) (kvs:=kvs) (ep:=ep) C) f c;intro h' tk acc kp a;show wpAny _ _ (Builtin.Tuple.tupleExact acc.toList.toArray >>= λv=>ret v) _ _ _;unfold Builtin.Tuple.tupleExact;refine b7 (bAX ?_ (show acc.toList.toArray.size<=sizeLine by simp only[Array.toArray_toList];rw[a.1];exact hn));refine j8 ⟨_,rfl,?_⟩;have e:acc.toList.toArray=acc:=by simp
  rw[e];refine h h' tk acc kp ⟨a.1,λj v u=>?_⟩;obtain⟨k,x,r,n⟩:=a.2 j v u;obtain⟨t,rfl⟩:=Value.isStrOf_shape n;exact⟨k,x,t,r,rfl⟩
end PySem
namespace L2
open PySem PySem.Spec PyProof.Rows
def aVf (w:World)(K:bFC)(d:Addr)(kvs:List (Str × Addr)):Prop:=∃o,K.lookup d=some o/\(d == sysModules)=false/\∀P:Program,o.IsDictOf (strKind P w) (kvs.map λp=>(p.1,Value.ref p.2))
section
variable {X:Cx}
def bFk (w:World)(K:bFC):R2:=λx y H Q=>∃d kvs k p,x=.ref d/\y=.str k/\aVf w K d kvs/\(kvs.find? λq=>decide (q.1=k)).map (·.2)=some p/\Q (.ref p) H
def aTb (kvs:List (Str × Addr))(k:Str)(h:(kvs.find? λq=>decide (q.1=k)).map (·.2)=some p):valueAt (kvs.map λq=>(q.1,Value.ref q.2)) k=some (.ref p):=by
 unfold valueAt;rw[List.find?_map];cases e:kvs.find? λq=>decide (q.1=k) with
 |none=>rw[e] at h;cases h
 |some q=>rw[e] at h;have h:=bAM h;have b:kvs.find? ((λa:Str × Value=>decide (a.1=k)) ∘ λq=>(q.1,Value.ref q.2))=some q:=e;rw[b,<-h];rfl
def aWc:IxR X (bFk X.w X.K):=by intro c b j s σ H x y v u Q I m n h i;obtain⟨d,a,k,p,rfl,rfl,⟨o,l,r,g⟩,f,q⟩:=h;cases m;obtain⟨t,rfl⟩:=n;have e:s.heap.DictOf (strKind X.prog X.w) d (a.map λp=>(p.1,Value.ref p.2)):=Heap.dictOf_iff.mpr ⟨o,I.kIn _ _ l,g _⟩;exact tail_any e.typeIs slot_dict_getitem.lookup (wpAny_getItem_of (strKind_is _ _ _ _) e.mapOf (aTb a k f) ⟨.ref p,H,I.tok _,rfl,q⟩) i
def bD5 (w:World)(K:bFC):List V->Hp->VK->Prop:=λxs H Q=>∃d kvs,xs=[.ref d]/\aVf w K d kvs/\kvs.length<=1000/\∀p H',Same H H'->H' p=some (.tup (kvs.map λq=>V.str q.1))->Q (.ref p) H'
theorem aFu:∀(kvs:List (Str × Value)) (vs:List Value),vs.length=kvs.length->(∀(j:Nat) (v:Value),vs[j]?=some v->∃k x t,kvs[j]?=some (k,x)/\v=.str k t)->Vals (kvs.map λq=>V.str q.1) vs
 |[],[],_,_=>.nil
 |(k,x)::r,v::vs,hl,h=>by obtain⟨a,b,t,e,rfl⟩:=h 0 v rfl;cases e;exact .cons ⟨t,rfl⟩ (aFu r vs (by simpa using hl) λj u e=>h (j+1) u e)
def aRu (J:X.calm=true):dD X (.type "tuple") (bD5 X.w X.K):=by
 intro i s σ H E G Q I r h;obtain⟨d,a,rfl,⟨o,z,C,y⟩,m,q⟩:=h;obtain⟨u,rfl,B⟩:=vals1 r;cases B;have D:s.heap.DictOf (strKind X.prog X.w) d (a.map λp=>(p.1,Value.ref p.2))  :=Heap.dictOf_iff.mpr ⟨o,I.kIn _ _ z,y _⟩;have x:(a.map λp=>(p.1,Value.ref p.2)).length<=sizeLine:=small (by rw[d7];exact m);refine callType_newIn F.called_tuple (by decide) (F.typeCall_tuple_1 _) (F.newCall_tuple_1 _) (λk=>F.args_object_init_2 k _) F.entry_tuple_new
  (rN d _ C x) ⟨I.ok.hd J,D,λt l c kp f=>⟨⟨_,w6 _ rfl,rfl⟩,?_⟩⟩
 have g:=aFu (a.map λp=>(p.1,Value.ref p.2)) c.toList (by rw[bAU];exact f.1) λj v e=>f.2 j v (by rw[<-bBG];exact e);rw[bAP] at g;have g:Vals (a.map λq=>V.str q.1) c.toList:=g;have n:Inv X i σ H { s with heap:=t,toks:=l }:=I.kept (t':=l) kp;refine⟨.ref t.objs.size,_,n.laid (t':=l) (o:=.tup (a.map λq=>V.str q.1)) (λb L e=>c7 _ e) (j9 _) ?_,rfl,q _ _ (bV (n.hok.fresh (j9 _)) _) aL⟩;have A:c.toList.toArray=c:=by simp
 refine⟨small (by rw[d7];exact m),c.toList,g,?_⟩;rw[A];exact .of (w6 _ rfl) rfl ⟨_,w6 _ rfl,rfl,_,rfl⟩
end
section
variable {X:Cx}{bFG:bFE}{σ:St}{H:Hp}{s:Shared}
end
def Ite (K:bFC)(l:Addr)(xs:List V):It:=
 ⟨λi H=>SqL K H l xs/\i<xs.length,λi H v H'=>∃T a,H T=none/\v=.ref T/\H'=upd H T (.tup [.int (i:Nat),a])/\xs[i]?=some a,λi H=>SqL K H l xs/\xs.length<=i⟩
def etn (e it l:Addr)(i:Nat)(h:Heap):Prop:=(∃old,IsEnum h e it (i:Int) old)/\h.IsListIter it l i
def aQu {P:Program}{w:World}{K:bFC}{elts:List Expr}{kt:Nat}{pos:Pos}{e it l:Addr}{xs:List V}(u:e≠it) :
  Turn P w K (.Tuple elts kt pos) (Ite K l xs) [e,it] e (etn e it l) where
 mem:=by simp
 obj:=λi h st b a=>by
  obtain⟨⟨c,d⟩,o,g,c2,T⟩:=st;simp only[bAJ,bAE,or_false] at a;rcases a with rfl|rfl
  ·exact⟨_,d,λv z=>by cases (show Data.fields _=Data.cell v from z)⟩
  ·exact⟨_,g,λv z=>by rw[T] at z;cases z⟩
 keep:=λi h m st k=>by obtain⟨⟨c,d⟩,o,g,r⟩:=st;exact⟨⟨c,k e (by simp) _ d⟩,o,k it (by simp) _ g,r⟩
 item:=by
  intro X q y n G i f s σ H E I j st C;subst q y n;obtain⟨⟨c,d⟩,g⟩:=st;obtain⟨B,L⟩:=C;obtain⟨its,A,F,hz⟩:=I.list B;obtain⟨x,hx,rx⟩:=A.get (b8 L);have fe:=j e (by simp);have fi:=j it (by simp);refine wpAny_pyNext_enum_item d g F.isList (by simpa using hx) u λm R N J a4 kp=>?_;refine⟨_,rfl,?_⟩;have fT:H s.heap.objs.size=none:=I.hok.fresh (j9 _);obtain⟨oi,D,_⟩:=id g;obtain⟨a0,p,_⟩:=id N;have U:Inv X f σ (upd H s.heap.objs.size (.tup [.int (i:Nat),xs[i]])) { s with heap:=m }:=by
   refine I.drawn (ch:=[e,it]) (its:=[.int i s.toks,x]) (λb a=>j b a) (λb o a z=>?_) (j9 _) (.cons ⟨_,rfl⟩ (.cons rx .nil)) (small (by simp)) (.of J rfl ⟨_,J,rfl,_,rfl⟩) (λb a=>?_)
   ·simp only[bAJ,bAE,or_false,not_or] at a;exact kp b o a.1 a.2 z
   ·simp only[bAJ,bAE,or_false] at a;rcases a with rfl|rfl
    ·exact⟨_,R⟩
    ·exact⟨_,p⟩
  have t:Inv X f σ (upd H s.heap.objs.size (.tup [.int (i:Nat),xs[i]])) { s with heap:=m,toks:=s.toks+1 }:=U.tok _;have O:∀b∈[e,it],b≠s.heap.objs.size:=λb a=>by
   simp only[bAJ,bAE,or_false] at a;rcases a with rfl|rfl
   ·exact bAF (z9 d)
   ·exact bAF (z9 D)
  refine wpAny_letOwnedTupleGo_enum (s:={ s with heap:=m,toks:=s.toks+1 }) R λh2 z2 M=>?_;obtain⟨g0,g1,g2,S,W,g5⟩:=fe;have Z:Inv X f σ (upd H s.heap.objs.size (.tup [.int (i:Nat),xs[i]])) { s with heap:=h2,toks:=s.toks+1 }:=Inv.turned (s:={ s with heap:=m,toks:=s.toks+1 }) t (t':=s.toks+1) (it:=e) (λb o a z=>(M.2 b a).trans z) (by rw[aV (O e (by simp))];exact g0) g1 S W g5;refine⟨.ref s.heap.objs.size,_,Z,rfl,⟨_,_,fT,rfl,rfl,b8 L⟩,⟨⟨x,?_⟩,?_⟩,λb a=>by rw[aV (O b a)];exact (j b a).1⟩
  ·rw[show ((i+1:Nat):Int)=(i:Int)+1 from by lia];exact z2
  ·obtain⟨o,Y,r⟩:=N;exact⟨o,(M.2 it (Ne.symm u)).trans Y,r⟩
 done:=by intro X q y n G i f s σ H E I j st C;subst q y n;obtain⟨⟨c,d⟩,g⟩:=st;obtain⟨B,hi⟩:=C;obtain⟨its,A,F,hz⟩:=I.list B;have Q:=A.length;refine wpAny_pyNext_enum_end (I.ok.hd G) d g F.isList (by simp;lia) λm kp=>⟨rfl,?_⟩;refine Inv.aO1 (ch:=[it]) I (λb a=>j b (j7 _ a)) λb o a z=>kp b o (by simpa using a) z
 self:=λ_ _ _ _ _ st h=>by obtain⟨⟨c,d⟩,_⟩:=st;exact wpAny_pyIter_enum d h
section
variable {X:Cx}
def aZn (K:bFC)(ta:TA):TI:=fun σ H R=>ta σ H λvs H1=>∃l xs,vs=[.ref l]/\SqL K H1 l xs/\R (Ite K l xs) H1
def aX0 (D:Gl X "enumerate")(G:X.mg "enumerate"=none)(E:PA X [a] ta)(hs:starEach [a] X.env=[(false,eval a X.env)]:=by rfl) :
  PI X (.Tuple elts kt tp) (.Call (.Name "enumerate" p) [a] [] pos) (aZn X.K ta):=by
 intro f s σ H R I h;refine Call_ (wI I D G aG1 (bCM (thn (E pos f s σ H _ I h) λB j ⟨C,r,d,w,x⟩=>?_) hs (by rfl)));obtain⟨l,y,e,n,q⟩:=x;subst e;obtain⟨k,A,o,z⟩:=d.list n;obtain⟨u,rfl,t⟩:=vals1 w;cases t;refine call_enumerate_list o.isList λJ i m F kp=>?_;have v:=d.kept (t':=j.toks) kp;refine wpAny_pyIter_enum i ⟨_,_,_,_,r,rfl,v,aQu (bCW (Nat.lt_succ_self _)),⟨⟨_,i⟩,m⟩,λb g=>?_,q⟩;have c:j.heap.objs.size<=b:=by
  simp only[bAJ,bAE,or_false] at g;rcases g with rfl|rfl
  ·exact bFA _
  ·exact j9 _
 exact d.aM8 c (d.hok.fresh c)
def aUy {K:bFC}{l:Addr}{xs:List V}{g:TG}{tb:TS}{D:Ends}{σ:St}{H:Hp}(d:Nat->St->Hp->Prop)(n:d 0 σ H)(f:∀i σ H,i<=xs.length->d i σ H->SqL K H l xs)
  (hs:∀i σ H a T H',xs[i]?=some a->d i σ H->H T=none->H'=upd H T (.tup [.int (i:Nat),a])->g (.ref T) σ H' fun σ2 H2=>tb { D with nx:=d (i+1),ct:=d (i+1),bk:=D.nx } σ2 H2) (k:∀σ H,d xs.length σ H->D.nx σ H) :
  ∃W:Nat->Nat->St->Hp->Prop,(∃m,W 0 m σ H)/\∀i m σ H,W i m σ H ->
   ((Ite K l xs).stop i H/\D.nx σ H)\/((Ite K l xs).go i H/\∃N:St->Hp->Prop,(∀σ' H',N σ' H'->∃m',m'<m/\W (i+1) m' σ' H')/\∀x H',(Ite K l xs).yld i H x H'->g x σ H' fun σ2 H2=>tb { D with nx:=N,ct:=N,bk:=D.nx } σ2 H2):=by
 refine⟨λi m σ H=>m=xs.length - i/\i<=xs.length/\d i σ H,⟨xs.length,by simp,bAK _,n⟩,?_⟩;rintro i m σ H ⟨rfl,hi,p⟩;by_cases b:i<xs.length
 ·refine .inr ⟨⟨f i σ H hi p,b⟩,d (i+1),fun σ' H' j=>⟨xs.length - (i+1),by lia,rfl,b,j⟩,λx H' y=>?_⟩;obtain⟨T,a,h,rfl,e,c⟩:=y;exact hs i σ H a T H' c p h e
 ·have e:i=xs.length:=by lia
  subst e;exact .inl ⟨⟨f _ σ H hi p,j9 _⟩,k σ H p⟩
end
section
variable {X:Cx}{a c e:Expr}{st:Stmt}{body:List Stmt}{tc:TT}{tb:TS}{t:TA}{te:TE}{pos p:Pos}
def jQ:VS X st aS5:=⟨aV6⟩
def rH (d:PassesOwn (model X.prog X.w) X.A X.env X.xe)(b:VT X c tc)(a:VSs X body tb):VS X (.While c body [] pos) (aVc tc tb):=⟨aS8 d b.1 a.1⟩
def aXe (b:Gl X "enumerate")(d:X.mg "enumerate"=none)(c:VA X [a] t)(e:eQ a=true:=by rfl) :
  VI X (.Tuple elts kt tp) (.Call (.Name "enumerate" p) [a] [] pos) (aZn X.K t):=⟨aX0 b d c.1 (bR e)⟩
def aXw:MtR X "list.pop" bDv:=bA8
def aEe:MtR X "list.extend" aOu:=aRo
def aN6 {o:Expr}{to:TE}{name:Str}{apos cpos:Pos}{T id:String}{r:V->List V->Hp->VK->Prop}(g:PlainAttrs T)(c:Slot T name id)(d:typeOf (.builtin id)=pure (.type "method_descriptor"))(e:MtR X id r)(f:VE X o to)
  (b:attributeBase o name X.env (eval o X.env)=eval o X.env:=by rfl) (a:(apos.endLine == cpos.line)=true:=by rfl):VE X (.Call (.Attribute o name apos) [] [] cpos) (bD1 X.K T r to):=⟨bCu g c d e f.1 b a⟩
end
section
variable {P:Program}{w:World}{K:bFC}{mg:bFF}{base:Heap}
def Ok.aT3 (G:Ok P w K mg base k x ps sp)(m:mg x=some (.ref f)):Held P w K mg base k f ps sp:=by obtain⟨g,a,h⟩:=G.held;rw[m] at a;cases a;exact h
end
section
variable {X:Cx}{scope:Scope}{N:List Str}{wi:TI}{te:TE}{σ:St}{H:Hp}{Q:VK}
def aAj (xs:List V)(Rel:Nat->Hp->V->Prop)(st:∀{i H1 H2 y},Same H1 H2->Rel i H1 y->Rel i H2 y)(F:∀{i H1 D ys zs y},H1 D=some (.lst ys)->Rel i H1 y->Rel i (upd H1 D (.lst zs)) y)
  (r:St) (p:Cap X scope N σ r) (hsz:xs.length<=sizeLine)
  (E:∀R:It->Hp->Prop,(∀J:It,(∀H' i x,Same H H'->xs[i]?=some x->J.go i H'/\∀y H2,J.yld i H' y H2->H2=H'/\y=x)->(∀H',Same H H'->J.stop xs.length H')->R J H)->wi σ H R)
  (B:∀(i:Nat) (x:V),xs[i]?=some x->∀H' R l,Same H H'->(∀y H2,Same H' H2->Rel i H2 y->R y H2)->te ((r.set 0 l).set 0 (some x)) H' R) (A:r[0]?=some none)
  (q:∀D H' ys,Same H H'->H' D=some (.lst ys)->ys.length=xs.length->(∀(i:Nat) (y:V),ys[i]?=some y->Rel i H' y)->Q (.ref D) H') :
  jP X scope N wi (cI 0) uA te σ H Q:=by
 refine⟨r,p,E _ λJ go stop D k=>?_⟩;refine⟨λi m h H' ys=>i<=xs.length/\m=xs.length - i/\(∃l,h=r.set 0 l)/\Same H H'/\H' D=some (.lst ys)/\ys.length=i/\∀j y,ys[j]?=some y->Rel j H' y,⟨xs.length,bAK _,rfl,⟨none,oZ A⟩,bV k _,aL,rfl,λj y e=>by simp at e⟩,?_⟩;rintro i m h H' ys ⟨hi,rfl,⟨l,rfl⟩,sm,hL,hl,hR⟩;refine⟨hL,?_⟩;by_cases c:i<xs.length
 ·right;obtain⟨w,t⟩:=go H' i xs[i] sm (b8 c);refine⟨w,λx H2 u=>?_⟩;obtain⟨rfl,rfl⟩:=t x H2 u;unfold cI uA;dsimp only;rw[if_pos rfl];refine B i xs[i] (b8 c) _ _ l sm λy C d n=>⟨d _ _ hL,by lia,xs.length - (i+1),by lia,c,rfl,⟨some xs[i],?_⟩,?_,aL,?_,?_⟩
  ·rw[bCG]
  ·intro b o e;rw[aV (bA e k)];exact d _ _ (sm _ _ e)
  ·rw[j4,bBA,hl]
  ·intro j z a;refine F (d _ _ hL) ?_;by_cases v:j<ys.length
   ·rw[bCU v] at a;exact st d (hR j z a)
   ·rw[bBY (by lia)] at a;have g:j - ys.length=0:=by
     by_cases s:j - ys.length=0
     ·exact s
     ·rw[bAT (by simp;lia)] at a;cases a
    have f:j=i:=by lia
    subst f;rw[g] at a;cases a;exact n
 ·left;have e:i=xs.length:=by lia
  subst e;exact⟨stop _ sm,q D _ ys sm hL hl hR⟩
def nG (xs ys:List V)(k:ys.length=xs.length)(p:St)(f:Cap X scope N σ p)(n:xs.length<=sizeLine)
  (t:∀R:It->Hp->Prop,(∀J:It,(∀H' i x,Same H H'->xs[i]?=some x->J.go i H'/\∀y H2,J.yld i H' y H2->H2=H'/\y=x)->(∀H',Same H H'->J.stop xs.length H')->R J H)->wi σ H R)
  (o:∀(i:Nat) (x y:V),xs[i]?=some x->ys[i]?=some y->∀H' R l,Same H H'->(∀H2,Same H' H2->R y H2)->te ((p.set 0 l).set 0 (some x)) H' R) (u:p[0]?=some none)
  (q:∀D H',Same H H'->H' D=some (.lst ys)->Q (.ref D) H') :
  jP X scope N wi (cI 0) uA te σ H Q:=by
 refine aAj xs (λi _ y=>ys[i]?=some y) (λ_ h=>h) (λ_ h=>h) p f n t (λi x d H' R l c r=>?_) u λD H' b c m s g=>?_
 ·have a:i<ys.length:=by rw[k];exact (List.getElem?_eq_some_iff.mp d).1
  exact o i x ys[i] d (b8 a) H' R l c λH2 j=>r _ H2 j (b8 a)
 ·have e:b=ys:=by
   refine bCK λi=>?_;by_cases a:i<b.length
   ·rw[g i b[i] (b8 a),b8 a]
   ·rw[bAT (by lia),bAT (by lia)]
  subst e;exact q D H' c m
end
section
variable {X:Cx}{tg e o i:Expr}{te td ty:TE}{pos:Pos}
def aPi (a:X.A.units+1<cLine)(c:VE X o td)(b:VE X i ty)(hs:bAr i):VE X (.Subscript o i pos) (aZm td ty):=⟨aX7 a c.1 b.1 hs⟩
end
def uZ {X:Cx}{K:bFC}(h:X.K=K:=by rfl):OpR X (compareOp .NotIn) (rIn K true):=by subst h;exact xZ
def sel {α:Type}(p:Nat->Bool):Nat->List α->List α
 |_,[]=>[]
 |i,x::r=>if p i then x::sel p (i+1) r else sel p (i+1) r
theorem aDb {α:Type}(p:Nat->Bool)(x:α):∀k xs,sel p k (xs++[x])=sel p k xs++(if p (k+xs.length) then [x] else [])
 |k,[]=>by show (if p k then x::sel p (k+1) [] else sel p (k+1) [])=[]++(if p (k+0) then [x] else []);rw[Nat.add_zero,bDM];rfl
 |k,y::r=>by
  show (if p k then y::sel p (k+1) (r++[x]) else sel p (k+1) (r++[x]))=(if p k then y::sel p (k+1) r else sel p (k+1) r)++_;rw[aDb p x (k+1) r,d9,show k+1+r.length=k+(r.length+1) by lia]
  split <;> rfl
theorem xX {α:Type}(p:Nat->Bool):∀(k:Nat) (xs:List α),(sel p k xs).length<=xs.length
 |_,[]=>j9 _
 |k,y::r=>by
  have:=xX p (k+1) r;show (if p k then y::sel p (k+1) r else sel p (k+1) r).length<=r.length+1
  split
  ·rw[d9];lia
  ·lia
section
variable {X:Cx}{scope:Scope}{N:List Str}{wi:TI}{te:TE}{σ:L2.St}{H:Hp}{Q:VK}
def aTq (xs:List V)(p:Nat->Bool)(d:L2.St)(r:Cap X scope N σ d)(hsz:xs.length<=sizeLine)
  (A:∀R:It->Hp->Prop,(∀J:It,(∀H' i x,Same H H'->xs[i]?=some x->J.go i H'/\∀y H2,J.yld i H' y H2->H2=H'/\y=x)->(∀H',Same H H'->J.stop xs.length H')->R J H)->wi σ H R)
  (B:∀(i:Nat) (x:V),xs[i]?=some x->∀H' R l,Same H H'->(∀H2,Same H' H2->R (p i) H2)->tt ((d.set 0 l).set 0 (some x)) H' R) (k:d[0]?=some none)
  (q:∀D H',Same H H'->H' D=some (.lst (sel p 0 xs))->Q (.ref D) H') :
  jP X scope N wi (cI 0) tt (lG 0) σ H Q:=by
 refine⟨d,r,A _ λJ go stop D g=>?_⟩;refine⟨λi m n H' f=>i<=xs.length/\m=xs.length - i/\(∃l,n=d.set 0 l)/\Same H H'/\H' D=some (.lst f)/\f=sel p 0 (xs.take i),⟨xs.length,bAK _,rfl,⟨none,oZ k⟩,bV g _,aL,rfl⟩,?_⟩;rintro i m n H' f ⟨hi,rfl,⟨l,rfl⟩,sm,hL,rfl⟩;refine⟨hL,?_⟩;by_cases a:i<xs.length
 ·right;obtain⟨v,s⟩:=go H' i xs[i] sm (b8 a);refine⟨v,λx H2 t=>?_⟩;obtain⟨rfl,rfl⟩:=s x H2 t;unfold cI;dsimp only;have u:0<d.length:=by
   by_cases z:0<d.length
   ·exact z
   ·rw[bAT (by lia)] at k;cases k
  have j:sel p 0 (xs.take (i+1))=sel p 0 (xs.take i)++(if p i then [xs[i]] else []):=by rw[bBM,b8 a];show sel p 0 (xs.take i++[xs[i]])=_;rw[aDb,bAV,bDJ,bEP (bET a)]
  refine B i xs[i] (b8 a) _ _ l sm λw c=>?_;cases h:p i with
  |true=>
   rw[if_pos rfl];refine⟨xs[i],by rw[bCG,bDF u],c _ _ hL,?_,xs.length - (i+1),by lia,a,rfl,⟨some xs[i],by rw[bCG]⟩,?_,aL,?_⟩
   ·have:=xX p 0 (xs.take i);rw[bAV] at this;lia
   ·intro b o e;rw[aV (bA e g)];exact c _ _ (sm _ _ e)
   ·rw[j,h];rfl
  |false=>rw[if_neg (by simp)];refine⟨c _ _ hL,xs.length - (i+1),by lia,a,rfl,⟨some xs[i],by rw[bCG]⟩,sm.trans c,c _ _ hL,?_⟩;rw[j,h];simp
 ·left;have e:i=xs.length:=by lia
  subst e;refine⟨stop _ sm,?_⟩;rw[bBP] at hL;exact q D _ sm hL
end
def aYj {X:Cx}{i0:Nat}{m:Str}{c spos:Pos}{W h f:Expr}{Q:List Expr}{scope:Scope}{pos:Pos}{N:List Str}{wi:TI}{g:TG}{tt:TT}{te:TE}
  (hN:X.N.Nodup) (M:X.N[i0]?=some m) (J:Loc X.env.scope m) (C:wD scope N) (S:∀y,(y,NameKind.free)∈scope.names->X.env.kindOf y=some .cell\/X.env.kindOf y=some .free) (hc:X.calm=true)
  (hi:PI X h f wi)
  (r:∀cl s H fp,PG (cxC X N scope cl s H fp) h g/\aQg (cxC X N scope cl s H fp) Q tt/\PE (cxC X N scope cl s H fp) W te)
  (hs:∀x,foldedSetIterable f X.env x=pure x:=by intro _;rfl) (K:swapsWith (.ListComp W [⟨h,f,Q,0⟩] scope pos) (some (.Name m c)) spos.line X.env=pure true:=by rfl)
  (hf:X.fn m=true\/X.env.scope.names.lookup m=some .local:=by first|exact .inl rfl|exact .inr rfl|assumption) :
  PS X (.Assign [.Name m c] (.ListComp W [⟨h,f,Q,0⟩] scope pos) spos) (rC (jP X scope N wi g tt te) (cI i0)):=by
 intro d s σ H Dn I n;rw[exec_Assign_Name_used _ _ _ _ K];refine b7 (bDY (b7 ?_));show wpAny _ X.A (do let _ <-comprehension (.ListComp W [⟨h,f,Q,0⟩] scope pos) scope X.env _ (newList []) false (eval f X.env) (some (assign (.Name m c) X.env))) _ _ s;refine b7 (bBE (aF8 (use:=some (assign (.Name m c) X.env)) (QQ:=λ_ q=>SP X d Dn .next q) C S hc hi r hs I n λD B t j ⟨L,l⟩ i fp O=>?_)
  (λ_ q n=>j8 (j8 n)) λ_ _ e=>e)
 have U:Inv X d σ t j:=i j.heap λ_ _ _ e=>e;obtain⟨T,E,Z,G,u,Y⟩:=fp;show wpAny (model X.prog X.w) X.A (assign (.Name m c) X.env (.ref D)) _ _ j;refine wpAny_assign_Name (aGb U hN M J (v:=.ref D) rfl (λV F ⟨a,P,R⟩=>?_) hf);have p:B≠a:=by
  rcases R with z|z
  ·rw[z];exact E
  ·exact λe=>u m a z e.symm
 refine⟨L,l.sameBut P p,λh' k=>?_⟩;exact⟨_,t,Inv.turned F (t':=V.toks) (it:=B) (λb o r e=>k.extBut b o r e) T E G u Y,O⟩
def wZ
  (h:X.N.Nodup) (d:X.N[i0]?=some x0) (c:Loc X.env.scope x0) (C:wD scope N) (e:∀y,(y,NameKind.free)∈scope.names->X.env.kindOf y=some .cell\/X.env.kindOf y=some .free) (j:X.calm=true)
  (f:VI X target iter wi)
  (a:∀cl s H fp,VG (cxC X N scope cl s H fp) target g/\VF (cxC X N scope cl s H fp) ifs tt/\VE (cxC X N scope cl s H fp) elt te)
  (hs:∀x,foldedSetIterable iter X.env x=pure x:=by intro _;rfl) (b:swapsWith (.ListComp elt [⟨target,iter,ifs,0⟩] scope pos) (some (.Name x0 pos')) spos.line X.env=pure true:=by rfl)
  (i:X.fn x0=true\/X.env.scope.names.lookup x0=some .local:=by first|exact .inl rfl|exact .inr rfl|assumption) :
  VS X (.Assign [.Name x0 pos'] (.ListComp elt [⟨target,iter,ifs,0⟩] scope pos) spos) (rC (jP X scope N wi g tt te) (cI i0)):=
 ⟨aYj h d c C e j f.1 (λcl s H fp=>⟨(a cl s H fp).1.1,(a cl s H fp).2.1.1,(a cl s H fp).2.2.1⟩) hs b i⟩
section
variable {te:TE}{H:Hp}{Q:VK}
def aMo (xs:List V)(Rel:Nat->Hp->V->Prop)(st:∀{i H1 H2 y},Same H1 H2->Rel i H1 y->Rel i H2 y)(B:∀{i H1 D ys zs y},H1 D=some (.lst ys)->Rel i H1 y->Rel i (upd H1 D (.lst zs)) y)
  (A:St) (hsz:xs.length<=sizeLine)
  (J:It) (w:∀H' i x,Same H H'->xs[i]?=some x->J.go i H'/\∀y H2,J.yld i H' y H2->H2=H'/\y=x) (k:∀H',Same H H'->J.stop xs.length H')
  (v:∀(i:Nat) (x:V),xs[i]?=some x->∀H' R l,Same H H'->(∀y H2,Same H' H2->Rel i H2 y->R y H2)->te ((A.set 0 l).set 0 (some x)) H' R) (C:A[0]?=some none)
  (q:∀D H' ys,Same H H'->H' D=some (.lst ys)->ys.length=xs.length->(∀(i:Nat) (y:V),ys[i]?=some y->Rel i H' y)->Q (.ref D) H') :
  ∀D,H D=none->∃W:Nat->Nat->St->Hp->List V->Prop,(∃m,W 0 m A (upd H D (.lst [])) []) /\
   ∀i m σ' H' ys,W i m σ' H' ys->H' D=some (.lst ys)/\((J.stop i H'/\Q (.ref D) H')\/(J.go i H'/\∀x H2,J.yld i H' x H2->cI 0 x σ' H2 fun σ3 H3=>uA σ3 H3 λb H4=>
    if b=true then te σ3 H4 λy H5=>H5 D=some (.lst ys)/\ys.length<sizeLine/\∃m',m'<m/\W (i+1) m' σ3 (upd H5 D (.lst (ys++[y]))) (ys++[y]) else H4 D=some (.lst ys)/\∃m',m'<m/\W (i+1) m' σ3 H4 ys)):=by
 intro D h;refine⟨λi m σ' H' ys=>i<=xs.length/\m=xs.length - i/\(∃l,σ'=A.set 0 l)/\Same H H'/\H' D=some (.lst ys)/\ys.length=i/\∀j y,ys[j]?=some y->Rel j H' y,⟨xs.length,bAK _,rfl,⟨none,oZ C⟩,bV h _,aL,rfl,λj y e=>by simp at e⟩,?_⟩;rintro i m σ' H' ys ⟨hi,rfl,⟨l,rfl⟩,sm,hL,hl,hR⟩;refine⟨hL,?_⟩;by_cases c:i<xs.length
 ·right;obtain⟨u,r⟩:=w H' i xs[i] sm (b8 c);refine⟨u,λx H2 s=>?_⟩;obtain⟨rfl,rfl⟩:=r x H2 s;unfold cI uA;dsimp only;rw[if_pos rfl];refine v i xs[i] (b8 c) _ _ l sm λy H3 d n=>⟨d _ _ hL,by lia,xs.length - (i+1),by lia,c,rfl,⟨some xs[i],?_⟩,?_,aL,?_,?_⟩
  ·rw[bCG]
  ·intro b o e;rw[aV (bA e h)];exact d _ _ (sm _ _ e)
  ·rw[j4,bBA,hl]
  ·intro j z a;refine B (d _ _ hL) ?_;by_cases t:j<ys.length
   ·rw[bCU t] at a;exact st d (hR j z a)
   ·rw[bBY (by lia)] at a;have g:j - ys.length=0:=by
     by_cases p:j - ys.length=0
     ·exact p
     ·rw[bAT (by simp;lia)] at a;cases a
    have f:j=i:=by lia
    subst f;rw[g] at a;cases a;exact n
 ·left;have e:i=xs.length:=by lia
  subst e;exact⟨k _ sm,q D _ ys sm hL hl hR⟩
end
section
variable {K:bFC}
def bBj (g:∀H',Same H H'->SqL K H' a xs):∀H' i x,Same H H'->xs[i]?=some x->(Itl K a).go i H'/\∀y H2,(Itl K a).yld i H' y H2->H2=H'/\y=x:=λH' i x s e=>
 ⟨⟨xs,x,g H' s,e⟩,λy H2 c=>by obtain⟨d,f⟩:=c;have b:=f xs (g H' s);rw[e] at b;cases b;exact⟨d,rfl⟩⟩
def aVg (b:∀H',Same H H'->SqL K H' a xs):∀H',Same H H'->(Itl K a).stop xs.length H':=λH' s=>⟨xs,b H' s,j9 _⟩
end
section
variable {X:Cx}{K:bFC}{scope:Scope}{N:List Str}{tl te:TE}{σ:L2.St}{H:Hp}{Q:VK}
def aSa (Pr:List V->Prop)(Rel:Nat->Hp->V->Prop)(st:∀{i H1 H2 y},Same H1 H2->Rel i H1 y->Rel i H2 y)(m:∀{i H1 D ys zs y},H1 D=some (.lst ys)->Rel i H1 y->Rel i (upd H1 D (.lst zs)) y)
  (g:L2.St) (e:Cap X scope N σ g) (n:g[0]?=some none)
  (k:∀R:VK,(∀D H1 us,Same H H1->H1 D=some (.lst us)->Pr us->R (.ref D) H1)->tl σ H R)
  (f:∀us,Pr us->us.length<=sizeLine)
  (j:∀us,Pr us->∀(i:Nat) (x:V),us[i]?=some x->∀H' R l,Same H H'->(∀y H2,Same H' H2->Rel i H2 y->R y H2)->te ((g.set 0 l).set 0 (some x)) H' R)
  (q:∀us,Pr us->∀D H' ys,Same H H'->H' D=some (.lst ys)->ys.length=us.length->(∀(i:Nat) (y:V),ys[i]?=some y->Rel i H' y)->Q (.ref D) H') :
  jP X scope N (aFn K tl) (cI 0) uA te σ H Q:=
 ⟨g,e,k _ λD H1 us c b p=>⟨D,rfl,⟨us,SqL.of b⟩,aMo us Rel st m g (f us p) (Itl K D) (bBj λH' a=>SqL.of (a _ _ b)) (aVg λH' a=>SqL.of (a _ _ b))
  (λi x h H' R l a r=>j us p i x h H' R l (c.trans a) r) n λd H' ys a=>q us p d H' ys (c.trans a)⟩⟩
end
def SqT.aC3 {K:bFC}{H:Hp}{a D:Addr}{xs ys zs:List V}(b:H D=some (.lst ys))(h:SqT K H a xs):SqT K (upd H D (.lst zs)) a xs:=by
 rcases h with (h|⟨o,h⟩)|h
 ·exact .inl (.inl (by rw[aV (wK h b (by intro z;cases z))];exact h))
 ·exact .inl (.inr ⟨o,by rw[aV (wK h b (by intro z;cases z))];exact h⟩)
 ·exact .inr h
section
variable {X:Cx}{scope:Scope}{N:List Str}{wi:TI}{te:TE}{σ:St}{H:Hp}{Q:VK}
end
section
variable {X:Cx}
def bFs (K:bFC):List V->Hp->VK->Prop:=λxs H Q=>∃(p:Addr) (bs:List Bool),xs=[.ref p]/\SqL K H p (bs.map V.bl)/\Q (.bl (bs.any id)) H
def any_range (bs:List Bool):(List.range bs.length).any (λi=>bs.getD i false)=bs.any id:=by
 rw[bCB,bDU,bDU];constructor
 ·rintro⟨i,a,h⟩;have a:=List.mem_range.mp a;rw[bAZ,b8 a] at h;exact⟨_,bCP a,h⟩
 ·rintro⟨b,c,h⟩;obtain⟨i,a,e⟩:=List.mem_iff_getElem.mp c;refine⟨i,List.mem_range.mpr a,?_⟩;rw[bAZ,b8 a];rw[e];exact h
def aS4 (N:X.calm=true):dD X (.builtin "any") (bFs X.K):=by
 intro w s σ H G L Q I r h;obtain⟨p,a,rfl,E,q⟩:=h;obtain⟨u,rfl,x⟩:=r.one;cases x;obtain⟨d,m,j,J⟩:=I.list E;have g:=m.length;rw[d7] at g;have l:p≠s.heap.objs.size:=by obtain⟨o,D,_⟩:=j.isList;exact bAF (z9 D)
 refine call_any_walk (bCX j.isList ?_);refine⟨s.heap.objs.size,_,_,_,_,_,λi=>a.getD i false,rfl,Walks.list (show X.A.in1.handled=none from I.ok.hd N) _ p l d.toArray,⟨⟨_,w6 _ rfl,rfl,rfl⟩,?_⟩,?_,λP M kp=>?_⟩
 ·exact j.isList.at λo e=>c7 _ e
 ·intro i v y F O B c;have f:d[i]?=some v:=by simpa using B
  have t:i<a.length:=by rw[g];exact (List.getElem?_eq_some_iff.mp f).1
  obtain⟨u,n,C⟩:=m.get (by rw[bAC,b8 t];rfl);rw[f] at n;cases n;cases C;have e:a.getD i false=a[i]:=by rw[bAZ,b8 t];rfl
  replace c:F (a.getD i false) y:=c;rw[e] at c;exact bBH c
 ·have e:(List.range d.toArray.size).any (λi=>a.getD i false)=a.any id:=by rw[m9,<-g];exact any_range a
  rw[e];refine⟨.bl (a.any id),H,?_,rfl,q⟩;exact I.kept λb o k=>kp b o (by
   intro z;have:b=s.heap.objs.size:=by simpa using z
   rw[this] at k;exact absurd (z9 k) (bCF _)) (c7 _ k)
def bA6:List V->Hp->VK->Prop:=λxs H Q=>∃z:Str,xs=[.str z]/\z.length<=1000/\∀l H',H l=none->Same H H'->H' l=some (.lst ((List.range z.cps.size).map λi=>V.str (sgn z i)))->Q (.ref l) H'
def aNj (z:Str)(n:Nat):∀(k:Nat) (vs:List Value),vs.length=n->(∀(j:Nat) (v:Value),vs[j]?=some v->∃t,v=.str (sgn z (k+j)) t)->Vals ((List.range' k n).map λi=>V.str (sgn z i)) vs:=by
 induction n with
 |zero=>intro k vs a _;cases bDE a;exact .nil
 |succ n ih=>
  intro k vs a h;cases vs with
  |nil=>cases a
  |cons v vs=>obtain⟨t,rfl⟩:=h 0 v rfl;rw[bEK,bAB];refine .cons ⟨t,rfl⟩ (ih (k+1) vs (by simpa using a) λj u e=>?_);obtain⟨c,b⟩:=h (j+1) u e;exact⟨c,by rw[b,show k+(j+1)=k+1+j by lia]⟩
def aNi (C:X.calm=true):dD X (.type "list") bA6:=by
 intro k s σ H A B Q I r h;obtain⟨z,rfl,f,q⟩:=h;obtain⟨u,rfl,t,rfl⟩:=vals1 r;refine call_list_str (I.ok.hd C) z t (λD w a x kp y b=>?_) (small f);have g:=aNj z z.cps.size 0 a.toList (by rw[bAU];exact b.1) λj v e=>by have m:=b.2 j v (by rw[<-bBG];exact e);obtain⟨c,t',p,n⟩:=m;refine⟨t',?_⟩;rw[n];unfold sgn;rw[bDJ,bCN,p];rfl
 rw[<-bDS] at g;have l:a.toList.toArray=a:=by simp
 have d:H s.heap.objs.size=none:=I.hok.fresh (j9 _);refine⟨.ref s.heap.objs.size,_,I.laid (t':=w) (o:=.lst ((List.range z.cps.size).map λi=>V.str (sgn z i))) kp (j9 _) ?_,rfl,q _ _ d (bV d _) aL⟩;refine⟨by rw[d7,bAH];exact small f,a.toList,x,g,?_⟩;rw[l];exact y
end
def aM5 {X:Cx}{K:bFC}(h:X.K=K:=by rfl):OpR X (compareOp .In) (rIn K false):=by subst h;exact tU
structure aWm (E:Hp->Hp->Prop)(H:Hp):Prop where
 new:∀D o,H D=none->E H (upd H D o)
 trans:∀{H1 H2},E H H1->E H1 H2->E H H2
 upd:∀D o H',H D=none->E H H'->E H (upd H' D o)
 keep:∀D H1 H2 xs,H D=none->E H H1->H1 D=some (.lst xs)->E H1 H2->H2 D=some (.lst xs)
def qM (H:Hp):aWm Same H:=⟨λD o h=>bV h o,λa b=>a.trans b,λD o f h s=>oW h s,λD c d e _ _ h s=>s _ _ h⟩
def aL0 (J:It)(H1:Hp)(σ0:L2.St)(g:TG)(tt:TT)(te:TE)(Q:VK):Prop:=∀D,H1 D=none->∃W:Nat->Nat->L2.St->Hp->List V->Prop,(∃m,W 0 m σ0 (L2.upd H1 D (.lst [])) []) /\
 ∀i m σ' H' ys,W i m σ' H' ys->H' D=some (.lst ys)/\((J.stop i H'/\Q (.ref D) H')\/(J.go i H'/\∀x H2,J.yld i H' x H2->g x σ' H2 fun σ3 H3=>tt σ3 H3 λb H4=>
  if b=true then te σ3 H4 λy H5=>H5 D=some (.lst ys)/\ys.length<sizeLine/\∃m',m'<m/\W (i+1) m' σ3 (L2.upd H5 D (.lst (ys++[y]))) (ys++[y]) else H4 D=some (.lst ys)/\∃m',m'<m/\W (i+1) m' σ3 H4 ys))
section
variable {X:Cx}{K:bFC}{scope:Scope}{N:List Str}{tl te:TE}{tt:TT}{g:TG}{σ:L2.St}{H:Hp}{Q:VK}
def wR (c:L2.St)(b:Cap X scope N σ c)(h:tl σ H λv H1=>∃a,v=.ref a/\(∃xs,SqL K H1 a xs)/\aL0 (Itl K a) H1 c g tt te Q):jP X scope N (aFn K tl) g tt te σ H Q:=⟨c,b,h⟩
def sS (c:L2.St)(b:Cap X scope N σ c)(h:tl σ H λv H1=>∃a,v=.ref a/\(∃xs,SqT K H1 a xs)/\aL0 (Itt K a) H1 c g tt te Q):jP X scope N (aRn K tl) g tt te σ H Q:=⟨c,b,h⟩
def aDo {a:Addr}{xs:List V}{E:Hp->Hp->Prop}(g:∀H',E H H'->SqT K H' a xs):∀H' i x,E H H'->xs[i]?=some x->(Itt K a).go i H'/\∀y H2,(Itt K a).yld i H' y H2->H2=H'/\y=x:=λH' i x s e=>
 ⟨⟨xs,x,g H' s,e⟩,λy H2 c=>by obtain⟨d,f⟩:=c;have b:=f xs (g H' s);rw[e] at b;cases b;exact⟨d,rfl⟩⟩
def rF {a:Addr}{xs:List V}{E:Hp->Hp->Prop}(b:∀H',E H H'->SqT K H' a xs):∀H',E H H'->(Itt K a).stop xs.length H':=λH' s=>⟨xs,b H' s,j9 _⟩
def aCc {a:Addr}{xs:List V}{E:Hp->Hp->Prop}(g:∀H',E H H'->SqL K H' a xs):∀H' i x,E H H'->xs[i]?=some x->(Itl K a).go i H'/\∀y H2,(Itl K a).yld i H' y H2->H2=H'/\y=x:=λH' i x s e=>
 ⟨⟨xs,x,g H' s,e⟩,λy H2 c=>by obtain⟨d,f⟩:=c;have b:=f xs (g H' s);rw[e] at b;cases b;exact⟨d,rfl⟩⟩
def sX {a:Addr}{xs:List V}{E:Hp->Hp->Prop}(b:∀H',E H H'->SqL K H' a xs):∀H',E H H'->(Itl K a).stop xs.length H':=λH' s=>⟨xs,b H' s,j9 _⟩
inductive jZ (R:Nat->V->Prop):List Nat->List V->Prop
 |nil:jZ R [] []
 |cons {i y is ys}:R i y->jZ R is ys->jZ R (i::is) (y::ys)
def jZ.snoc (h:jZ R is ys)(r:R i y):jZ R (is++[i]) (ys++[y]):=by
 induction h with
 |nil=>exact .cons r .nil
 |cons r' _ ih=>exact .cons r' ih
def jZ.imp (h:jZ R is ys)(k:∀i y,R i y->S i y):jZ S is ys:=by
 induction h with
 |nil=>exact .nil
 |cons r _ ih=>exact .cons (k _ _ r) ih
def jZ.len (h:jZ R is ys):is.length=ys.length:=by
 induction h with
 |nil=>rfl
 |cons _ _ ih=>rw[d9,d9,ih]
def aA4 (E:Hp->Hp->Prop)(l:aWm E H)(xs:List V)(p:Nat->Bool)(Rel:Nat->Hp->V->Prop)
  (st:∀{i H1 H2 y},E H H1->E H1 H2->Rel i H1 y->Rel i H2 y) (G:∀{i H1 D ys zs y},H D=none->E H H1->H1 D=some (.lst ys)->Rel i H1 y->Rel i (L2.upd H1 D (.lst zs)) y)
  (At:Nat->L2.St->Prop) (T:L2.St->Prop) (L:T σ0) (hsz:xs.length<=sizeLine)
  (J:It) (O:∀H' i x,E H H'->xs[i]?=some x->J.go i H'/\∀y H2,J.yld i H' y H2->H2=H'/\y=x) (w:∀H',E H H'->J.stop xs.length H')
  (M:∀(i:Nat) (x:V) σ' H' Q',xs[i]?=some x->T σ'->E H H'->(∀σ2,T σ2->At i σ2->Q' σ2 H')->g x σ' H' Q')
  (U:∀(i:Nat) (x:V) σ2,xs[i]?=some x->At i σ2->∀H' R,E H H'->(∀H2,E H' H2->R (p i) H2)->tt σ2 H' R)
  (N:∀(i:Nat) (x:V) σ2,xs[i]?=some x->At i σ2->p i=true->∀H' R,E H H'->(∀y H2,E H' H2->Rel i H2 y->R y H2)->te σ2 H' R)
  (q:∀D H' ys,E H H'->H D=none->H' D=some (.lst ys)->jZ (λi y=>Rel i H' y) (sel p 0 (List.range xs.length)) ys->Q (.ref D) H'):aL0 J H σ0 g tt te Q:=by
 intro D h;refine⟨λi m σ' H' ys=>i<=xs.length/\m=xs.length - i/\T σ'/\E H H'/\H' D=some (.lst ys)/\jZ (λi y=>Rel i H' y) (sel p 0 (List.range i)) ys,⟨xs.length,bAK _,rfl,L,l.new _ _ h,aL,.nil⟩,?_⟩;rintro i m σ' H' ys ⟨hi,rfl,hps,sm,hL,hR⟩;refine⟨hL,?_⟩;by_cases f:i<xs.length
 ·right;have o:=b8 f;obtain⟨I,A⟩:=O H' i xs[i] sm o;refine⟨I,λx H2 C=>?_⟩;obtain⟨rfl,rfl⟩:=A x H2 C;have v:sel p 0 (List.range (i+1))=sel p 0 (List.range i)++(if p i then [i] else []):=by rw[bDN,aDb,bAH,bDJ]
  have S:=hR.len;have B:=xX p 0 (List.range i);rw[bAH] at B;refine M i xs[i] σ' _ _ o hps sm fun σ2 n k=>?_;refine U i xs[i] σ2 o k _ _ sm λP s=>?_;have a:=l.trans sm s;have d:=l.keep D _ _ _ h sm hL s;cases t:p i with
  |true=>rw[if_pos rfl];refine N i xs[i] σ2 o k t _ _ a λy K u F=>?_;have b:=l.trans a u;have c:=l.keep D _ _ _ h a d u;refine⟨c,by lia,xs.length - (i+1),by lia,f,rfl,n,l.upd D _ _ h b,aL,?_⟩;rw[v,t];exact jZ.snoc (hR.imp λj z r=>G h b c (st a u (st sm s r))) (G h b c F)
  |false=>rw[if_neg (by simp)];refine⟨d,xs.length - (i+1),by lia,f,rfl,n,a,d,?_⟩;rw[v,t];simp only[bCR,if_false,bAW];exact hR.imp λj z r=>st sm s r
 ·left;have e:i=xs.length:=by lia
  subst e;exact⟨w _ sm,q D _ ys sm h hL hR⟩
def bDo (E:Hp->Hp->Prop)(n:aWm E H)(xs:List V)(Rel:Nat->Hp->V->Prop)
  (st:∀{i H1 H2 y},E H H1->E H1 H2->Rel i H1 y->Rel i H2 y) (F:∀{i H1 D ys zs y},H D=none->E H H1->H1 D=some (.lst ys)->Rel i H1 y->Rel i (L2.upd H1 D (.lst zs)) y)
  (At:Nat->L2.St->Prop) (S:L2.St->Prop) (K:S σ0) (hsz:xs.length<=sizeLine)
  (J:It) (N:∀H' i x,E H H'->xs[i]?=some x->J.go i H'/\∀y H2,J.yld i H' y H2->H2=H'/\y=x) (u:∀H',E H H'->J.stop xs.length H')
  (L:∀(i:Nat) (x:V) σ' H' Q',xs[i]?=some x->S σ'->E H H'->(∀σ2,S σ2->At i σ2->Q' σ2 H')->g x σ' H' Q')
  (T:∀(i:Nat) (x:V) σ2,xs[i]?=some x->At i σ2->∀H' R,E H H'->(∀b H2,E H' H2->R b H2)->tt σ2 H' R)
  (M:∀(i:Nat) (x:V) σ2,xs[i]?=some x->At i σ2->∀H' R,E H H'->(∀y H2,E H' H2->Rel i H2 y->R y H2)->te σ2 H' R)
  (q:∀D H' ys,E H H'->H D=none->H' D=some (.lst ys)->(∃is:List Nat,is.Sublist (List.range xs.length)/\jZ (λi y=>Rel i H' y) is ys)->Q (.ref D) H'):aL0 J H σ0 g tt te Q:=by
 intro D k;refine⟨λi m σ' H' ys=>i<=xs.length/\m=xs.length - i/\S σ'/\E H H'/\H' D=some (.lst ys)/\∃is:List Nat,is.Sublist (List.range i)/\jZ (λi y=>Rel i H' y) is ys,⟨xs.length,bAK _,rfl,K,n.new _ _ k,aL,[],List.nil_sublist _,.nil⟩,?_⟩;rintro i m σ' H' ys ⟨hi,rfl,hps,sm,hL,is,hsub,hR⟩;refine⟨hL,?_⟩;by_cases h:i<xs.length
 ·right;have p:=b8 h;obtain⟨G,v⟩:=N H' i xs[i] sm p;refine⟨G,λx H2 A=>?_⟩;obtain⟨rfl,rfl⟩:=v x H2 A;have P:=hR.len;have w:=hsub.length_le;rw[bAH] at w;refine L i xs[i] σ' _ _ p hps sm fun σ2 o l=>?_;refine T i xs[i] σ2 p l _ _ sm λC O s=>?_;have a:=n.trans sm s;have f:=n.keep D _ _ _ k sm hL s;cases C with
  |true=>rw[if_pos rfl];refine M i xs[i] σ2 p l _ _ a λy I t B=>?_;have c:=n.trans a t;have d:=n.keep D _ _ _ k a f t;refine⟨d,by lia,xs.length - (i+1),by lia,h,rfl,o,n.upd D _ _ k c,aL,is++[i],by rw[bDN];exact hsub.append (List.Sublist.refl _),?_⟩;exact jZ.snoc (hR.imp λj z r=>F k c d (st a t (st sm s r))) (F k c d B)
  |false=>rw[if_neg (by simp)];refine⟨f,xs.length - (i+1),by lia,h,rfl,o,a,f,is,by rw[bDN];exact hsub.trans (List.sublist_append_left _ _),?_⟩;exact hR.imp λj z r=>st sm s r
 ·left;have e:i=xs.length:=by lia
  subst e;exact⟨u _ sm,q D _ ys sm k hL ⟨is,hsub,hR⟩⟩
end
def At1 (σ0:L2.St)(v:V)(σ:L2.St):Prop:=∃l,σ=(σ0.set 0 l).set 0 (some v)
def Ps1 (σ0:L2.St)(σ:L2.St):Prop:=∃l,σ=σ0.set 0 l
def At2 (σ0:L2.St)(a b:V)(σ:L2.St):Prop:=σ=(σ0.set 0 (some a)).set 1 (some b)
def Ps2 (σ0:L2.St)(σ:L2.St):Prop:=∃l m,σ=(σ0.set 0 l).set 1 m
def hg1 {σ0:L2.St}{i:Nat}{x:V}{σ':L2.St}{H':Hp}{Q':L2.St->Hp->Prop}(h:Ps1 σ0 σ')(q:∀σ2,Ps1 σ0 σ2->At1 σ0 x σ2->Q' σ2 H'):cI 0 x σ' H' Q':=by obtain⟨l,rfl⟩:=h;exact q _ ⟨some x,by rw[bCG]⟩ ⟨l,rfl⟩
def hg2 {K:bFC}{c:L2.St}{p:Addr}{a b:V}{σ':L2.St}{H':Hp}{Q':L2.St->Hp->Prop}(d:SqT K H' p [a,b])(h:Ps2 c σ')(q:∀σ2,Ps2 c σ2->At2 c a b σ2->Q' σ2 H'):aGn K 2 (rA (cI 0) (rA (cI 1) aNe)) (.ref p) σ' H' Q':=by
 obtain⟨l,m,rfl⟩:=h;have e:(((c.set 0 l).set 1 m).set 0 (some a)).set 1 (some b)=(c.set 0 (some a)).set 1 (some b):=by rw[List.set_comm _ _ (show (1:Nat)≠0 by decide),bCG,bCG]
 refine⟨p,_,rfl,d,rfl,_,_,rfl,_,_,rfl,rfl,?_⟩;rw[e];exact q _ ⟨some a,some b,rfl⟩ rfl
def aB5 (xs:List V)(n:Nat):oM xs none (some (n:Int))=xs.take n:=by
 unfold oM;rw[HT.yF,HT.xN,bEX,Nat.sub_zero];by_cases h:n<=xs.length
 ·rw[bEP h]
 ·rw[Nat.min_eq_right (by lia),bBP,bBK (by lia)]
def aFo (xs:List V)(n:Nat):oM xs (some (n:Int)) none=xs.drop n:=by
 unfold oM;rw[HT.yF,HT.xN];by_cases h:n<=xs.length
 ·rw[bEP h];exact bBK (by rw[bCD];lia)
 ·rw[Nat.min_eq_right (by lia),List.drop_length,List.drop_of_length_le (by lia),List.take_nil]
def bEc (K:bFC):V->Option Int->Option Int->Hp->VK->Prop:=λx lo hi H Q=>∃a xs,x=.ref a/\SqL K H a xs/\∀p H',H p=none->Same H H'->H' p=some (.lst (oM xs lo hi))->Q (.ref p) H'
def oN:SlR X (bEc X.K):=λb s σ H x v m f j k o Q I i h n l ⟨a,d,e,g,q⟩=>
 aX9 b s σ H x v m f j k o Q I i h n l ⟨a,d,e,g,λp c=>q p _ c (bV c _) aL⟩
inductive Al2 {α β:Type}(R:α->β->Prop):List α->List β->Prop
 |nil:Al2 R [] []
 |cons {a b as bs}:R a b->Al2 R as bs->Al2 R (a::as) (b::bs)
def Al2.len {α β:Type}{R:α->β->Prop}{as:List α}{bs:List β}(h:Al2 R as bs):as.length=bs.length:=by
 induction h with
 |nil=>rfl
 |cons _ _ ih=>rw[d9,d9,ih]
theorem Al2.at {α β:Type}{R:α->β->Prop}{as:List α}{bs:List β}(h:Al2 R as bs):∀{j:Nat} {a:α},as[j]?=some a->∃b,bs[j]?=some b/\R a b:=by
 induction h with
 |nil=>intro j a e;simp at e
 |cons r _ ih=>
  intro j a e;cases j with
  |zero=>cases e;exact⟨_,rfl,r⟩
  |succ j=>exact ih (by simpa using e)
def aQt (h:kJ x=true)(c:RelV x v)(a:RelV x u):SeqAt.EqAt A s v u true:=by
 cases x with
 |non=>cases c;cases a;exact SeqAt.EqAt.same _
 |bl b=>cases c;cases a;exact SeqAt.EqAt.same _
 |int i=>obtain⟨t,rfl⟩:=c;obtain⟨d,rfl⟩:=a;have z:=SeqAt.EqAt.int_int (A:=A) (s:=s) i t i d;simpa using z
 |str y=>obtain⟨t,rfl⟩:=c;obtain⟨d,rfl⟩:=a;have z:=SeqAt.EqAt.str_str (A:=A) (s:=s) y t y d;simpa using z
 |_=>cases h
section
variable {X:Cx}{bFG:bFE}{σ:L2.St}{H:Hp}{s:Shared}
def aUo (n:Nat):(List.range n).all (λ_=>true)=true:=by rw[bBL];intro _ _;rfl
end
section
variable {X:Cx}
def aR6:dD X (.type "int") (λxs H Q=>∃x n,xs=[.str x]/\PySem.intText? x=some n/\x.length<=640/\Q (.int n) H):=by rintro bFG s σ H xs us Q I r ⟨x,n,rfl,hn,hl,q⟩;obtain⟨u,rfl,t,rfl⟩:=r.one;exact PySem.W.KIN.call_text hn hl ⟨.int n,H,I.tok _,⟨_,rfl⟩,q⟩
def rJoin (K:bFC):V->List V->Hp->VK->Prop:=λx vs H Q=>∃sep a ts,x=.str sep/\vs=[.ref a]/\SqL K H a (ts.map V.str)/\JoinOk sep ts=true/\Q (.str (Txt.join sep ts)) H
theorem xU:∀{ts:List Str} {us:List Value},Vals (ts.map V.str) us->∃l:List (Str × Tok),us=strValues l/\l.map (·.1)=ts
 |[],_,.nil=>⟨[],rfl,rfl⟩
 |x::ts,_,.cons r t=>by obtain⟨l,rfl,e⟩:=xU t;obtain⟨k,rfl⟩:=r;exact⟨(x,k)::l,rfl,by rw[bAB,e]⟩
def iZ:MtR X "str.join" (rJoin X.K):=by intro i s σ H x y v w Q I m j h;obtain⟨f,a,p,rfl,rfl,n,b,q⟩:=h;obtain⟨t,rfl⟩:=m;obtain⟨u,rfl,g⟩:=j.one;cases g;obtain⟨d,c,o,r⟩:=I.list n;obtain⟨l,rfl,e⟩:=xU c;exact SC.join o.isList e b λz k=>⟨.str _,H,I.tok _,⟨_,rfl⟩,q⟩
def aIj (r:PE X a ta)(p:PE X b tb)(hs:yG b) :
  PE X (.Subscript a b pos) (tOp (λx y H Q=>∃z i c,x=.str z/\y=.int i/\-(2 ^ 63)<=i/\i<2 ^ 63/\(seqIndex? i z.length).bind (z.cps[·]?)=some c/\Q (.str ⟨#[c]⟩) H) ta tb):=by
 intro f s σ H Q I h;refine Subscript_ (aT9 r p I h λv u j x y n l g o q=>?_);obtain⟨z,i,c,rfl,rfl,A,e,k,q⟩:=q;obtain⟨t,rfl⟩:=g;obtain⟨w,rfl⟩:=o;exact tail_any (typeIs_str j z t) slot_str_getitem.lookup (getItem_str (by have d:decide (i < -(2 ^ 63:Int))=false:=j6 (by lia);have m:decide (i ≥ 2 ^ 63)=false:=j6 (by lia);rw[d,m] <;> rfl) k ⟨.str ⟨#[c]⟩,n,l.tok _,⟨_,rfl⟩,q⟩) (hs _ _)
def aHh (d:VE X a ta)(e:VE X b tb)(hs:yG b) :
  VE X (.Subscript a b pos) (tOp (λx y H Q=>∃z i c,x=.str z/\y=.int i/\-(2 ^ 63)<=i/\i<2 ^ 63/\(seqIndex? i z.length).bind (z.cps[·]?)=some c/\Q (.str ⟨#[c]⟩) H) ta tb):=⟨aIj d.1 e.1 hs⟩
def Fl2:List V->List V->Prop:=Al2 λx y=>kJ x=true/\x=y
theorem Fl2.refl:∀{xs:List V},(∀x∈xs,kJ x=true)->Fl2 xs xs
 |[],_=>.nil
 |x::xs,h=>.cons ⟨h x (.head _),rfl⟩ (Fl2.refl λy a=>h y (.tail _ a))
def aTm {A:Around}{s:Shared}{xs ys:List V}{its jts:List Value}(g:Vals xs its)(o:Vals ys jts)(h:Fl2 xs ys):∀(j:Nat) (h1:j<its.toArray.size) (h2:j<jts.toArray.size),SeqAt.EqAt A s its.toArray[j] jts.toArray[j] ((λ_=>true) j):=λj h1 h2=>by
 have q:=g.length;have a:j<xs.length:=by rw[m9] at h1;lia
 obtain⟨y,k,e,p⟩:=h.at (b8 a);obtain⟨f,b,d⟩:=g.get (b8 a);obtain⟨n,c,m⟩:=o.get k;have l:its.toArray[j]=f:=by rw[List.getElem_toArray];exact (List.getElem?_eq_some_iff.mp b).2
 have i:jts.toArray[j]=n:=by rw[List.getElem_toArray];exact (List.getElem?_eq_some_iff.mp c).2
 rw[l,i];rw[p] at d e;exact aQt e d m
def bE8 (K:bFC):R2:=λx y H Q=>∃a b xs ys,x=.ref a/\y=.ref b/\SqL K H a xs/\SqL K H b ys/\Fl2 xs ys/\Q (.bl true) H
def bAa (z:X.A.units<cLine):OpR X (compareOp .Eq) (bE8 X.K):=by intro j s σ H x y v u Q I k m h;obtain⟨a,b,p,t,rfl,rfl,i,f,h,q⟩:=h;cases k;cases m;obtain⟨g,c,o,r⟩:=I.list i;obtain⟨n,d,l,w⟩:=I.list f;refine SeqAt.RcAt.lists (e:=λ_=>true) o.isList l.isList (by rw[m9,m9];have:=c.length;have:=d.length;have:=h.len;lia) z (aTm c d h) _ _ _ _ ?_;rw[aUo];exact⟨.bl _,H,I,rfl,q⟩
end
def aZg (K:bFC)(n:Nat)(t:TGs):TG:=λv σ H Q=>∃a xs,v=.ref a/\SqL K H a xs/\xs.length=n/\t xs σ H Q
def aWw (A:X.calm=true)(h:PGs X es t)
  (hn:(assignEach es X.env).length=n:=by rfl) (j:(assignEach es X.env).findIdx? (·.1)=none:=by rfl):PG X (.Tuple es k pos) (aZg X.K n t):=by
 intro d s σ H v u Q I r f;obtain⟨a,p,m,x,q,f⟩:=f;subst m;cases r;obtain⟨c,i,y,z⟩:=I.list x;have g:(assignEach es X.env).length=c.toArray.size:=by rw[hn,<-q,i.length,m9]
 rw[arm_assign_Tuple];refine b7 (bDY ?_);unfold unpack;rw[g,j];refine b7 (bBI (PySem.W.kun_itemsOf (I.ok.hd A) y.isList λB w=>?_));have l:=I.kept (t':=s.toks) λb o e=>w b o (bAF (z9 e)) e;exact h d _ σ H p _ Q l (by simpa using i) f
def aW5 (b:X.calm=true)(h:VGs X es t)(hn:(assignEach es X.env).length=n:=by rfl)(a:(assignEach es X.env).findIdx? (·.1)=none:=by rfl):VG X (.Tuple es k pos) (aZg X.K n t):=⟨aWw b h.1 hn a⟩
section
variable {X:Cx}{K:bFC}{scope:Scope}{N:List Str}{tl te:TE}{g:TG}{σ:St}{H:Hp}{Q:VK}
end
inductive Tg where
 |non
 |int (i:Int)
 |bl (b:Bool)
 |str (x:Str)
 |tup (ts:List Tg)
 |lst (ts:List Tg)
 |dct
mutual
inductive bH (K:bFC)(H:Hp):V->Tg->Prop
 |non:bH K H .non .non
 |int {i}:bH K H (.int i) (.int i)
 |bl {b}:bH K H (.bl b) (.bl b)
 |str {x:Str}:x.length<=1000->bH K H (.str x) (.str x)
 |tup {a vs ts}:SqT K H a vs->vs.length<=1000->dB K H vs ts->bH K H (.ref a) (.tup ts)
 |lst {a vs ts}:H a=some (.lst vs)->vs.length<=1000->dB K H vs ts->(∀i,vs≠[.int i])->bH K H (.ref a) (.lst ts)
 |dct {a}:H a=some (.dK [])->bH K H (.ref a) .dct
inductive dB (K:bFC)(H:Hp):List V->List Tg->Prop
 |nil:dB K H [] []
 |cons {v t vs ts}:bH K H v t->dB K H vs ts->dB K H (v::vs) (t::ts)
end
mutual
theorem bH.same {K:bFC}{H H':Hp}(e:Same H H'):∀{v:V} {t:Tg},bH K H v t->bH K H' v t
 |_,_,.non=>.non
 |_,_,.int=>.int
 |_,_,.bl=>.bl
 |_,_,.str h=>.str h
 |_,_,.tup g l h=>.tup (e.aQ g) l (dB.same e h)
 |_,_,.lst g l h n=>.lst (e _ _ g) l (dB.same e h) n
 |_,_,.dct g=>.dct (e _ _ g)
theorem dB.same {K:bFC}{H H':Hp}(e:Same H H'):∀{vs:List V} {ts:List Tg},dB K H vs ts->dB K H' vs ts
 |_,_,.nil=>.nil
 |_,_,.cons h t=>.cons (bH.same e h) (dB.same e t)
end
theorem dB.len {K:bFC}{H:Hp}:∀{vs:List V} {ts:List Tg},dB K H vs ts->vs.length=ts.length
 |_,_,.nil=>rfl
 |_,_,.cons _ t=>by rw[d9,d9,dB.len t]
theorem dB.at {K:bFC}{H:Hp}:∀{vs:List V} {ts:List Tg},dB K H vs ts->∀{i:Nat} {v:V},vs[i]?=some v->∃t,ts[i]?=some t/\bH K H v t
 |_,_,.cons h t,0,v,e=>by cases e;exact⟨_,rfl,h⟩
 |_,_,.cons h t,i+1,v,e=>by obtain⟨c,b,a⟩:=dB.at t (by simpa using e);exact⟨c,by simpa using b,a⟩
def classAt:Stmt->Nat->Stmt
 |.ClassDef _ _ _ body _ _ _ _ _ _ _,j=>body.getD j (.Pass ⟨0,0,0,0⟩)
 |st,_=>st
structure aW8 (K:bFC)(mg:bFF)(x:Str)(C:Addr):Prop where
 at_:mg x=some (.ref C)
 cls:Cls K C
 mks:PySem.W.makesIn K C=true
 kp:PySem.W.keepIn K (.ref C)=true
def pG (K:bFC)(C:Addr)(m qual:Str)(st:Stmt)(ps:List Str):Prop:=∃f fd,Meth K C m f/\Fun K m qual st f fd/\Binds K fd ps []
section
variable {P:Program}{w:World}{K:bFC}{mg:bFF}{base:Heap}
def OkM (P:Program)(w:World)(K:bFC)(mg:bFF)(base:Heap)(C:Addr)(k:Nat)(m:Str)(ps:List Str)(sp:Sp):Prop:=
 ∃f fd,Cls K C/\Meth K C m f/\Binds K fd ps []/\gJ P w K mg base CX0 k f fd ps sp
def OkM.mono (h:OkM P w K mg base C j m ps sp)(g:j<=k):OkM P w K mg base C k m ps sp:=by obtain⟨f,e,d,c,b,a⟩:=h;exact⟨f,e,d,c,b,a.mono g⟩
def OkM.ofV {C:Addr}{m qual:Str}{st:Stmt}{N ps:List Str}{k:Nat}{sp:Sp}(c:Cls K C)(D:pG K C m qual st ps)(S:aN N ps (aD st))(e:∀vs H Q E,sp vs H Q E->vs.length=ps.length)
  (a:∀(f:Addr) (cdv:Value) (A:Around) (outer:List Env) (s:Shared) (H:Hp) (vs:List V) (Q:VK) (E:XK),Room k (A.deeper (envOfC qual (aD st) s.heap.objs.size f cdv))->sp vs H Q E ->
   ∃t,VSs (xM CX0 P w K mg base N qual (aD st) f cdv A outer s H E).nox (eY st) t/\t { nx:=λ_ H'=>Q .non H',rt:=Q } (start N vs) H):OkM P w K mg base C (k+1) m ps sp:=by
 obtain⟨f,d,g,F,B⟩:=D;exact⟨f,d,c,g,B,Fun.okV F S e λcdv A outer s H vs Q E b h=>a f cdv A outer s H vs Q E b h⟩
def OkC (P:Program)(w:World)(K:bFC)(mg:bFF)(base:Heap)(C:Addr)(k:Nat)(x:Str)(ps:List Str)(sp:Sp):Prop:=
 ∃f fd,mg x=some (.ref C)/\Mk K C f/\Binds K fd ps []/\gJ P w K mg base CX0 k f fd ps sp
def OkC.mono (h:OkC P w K mg base C j x ps sp)(g:j<=k):OkC P w K mg base C k x ps sp:=by obtain⟨f,e,d,c,b,a⟩:=h;exact⟨f,e,d,c,b,a.mono g⟩
def OkM.make (c:aW8 K mg x C)(h:OkM P w K mg base C k "__init__" ps sp):OkC P w K mg base C k x ps sp:=by obtain⟨f,e,g,a,d,b⟩:=h;exact⟨f,e,c.at_,⟨c.mks,a.at_,a.fn,c.kp⟩,d,b⟩
end
section
variable {X:Cx}{e o value:Expr}{es:List Expr}{f m x:Str}{p pos pos' apos:Pos}{ta tv:TE}{t:TA}{C:Addr}{k:Nat}{ps:List Str}{sp:Sp}
def aAf {K:bFC}(b:VE X e ta)(a:attributeBase e f X.env (eval e X.env)=eval e X.env:=by rfl)(h:X.K=K:=by rfl):VE X (.Attribute e f pos) (bC6 K ta f):=by subst h;exact⟨bAv b.1 a⟩
def aHy {K:bFC}(b:VE X o ta)(a:VE X value tv)(hs:swapsWith value (some (.Attribute o f pos')) pos.line X.env=pure false:=by rfl)(h:X.K=K:=by rfl):VS X (.Assign [.Attribute o f pos'] value pos) (bDa K ta tv f):=by subst h;exact⟨bCv b.1 a.1 hs⟩
def sY (G:OkM X.prog X.w X.K X.mg X.base C k m ps sp)(i:Room k X.A)(h:VE X o ta)(j:VA X (e::es) t)
  (n:eQ e=true:=by rfl) (d:(backTo pos (starEach es X.env)).any (·.1)=false:=by rfl)
  (p:eval (.Call (.Attribute o m apos) (e::es) [] pos) X.env=(do
   let ov <-eval o X.env
   standAt apos.atName
   let (f,first) <-holding [ov] (getMethod ov m pl)
   callWith pos f first (backTo pos (starEach (e::es) X.env)) (backToKw pos (keywordEach [] X.env))):=by rfl):VE X (.Call (.Attribute o m apos) (e::es) [] pos) (aJ9 C m sp [] E0 ta t):=by
 obtain⟨f,l,g,c,b,a⟩:=G;exact⟨aXx h.1 g c a i b .nil aCe j.1 (bR n) d p⟩
def cF (G:OkM X.prog X.w X.K X.mg X.base C k m ps sp)(g:Room k X.A)(e:VE X o ta)
  (i:eval (.Call (.Attribute o m apos) [] [] pos) X.env=(do
   let ov <-eval o X.env
   standAt apos.atName
   let (f,first) <-holding [ov] (getMethod ov m pl)
   callWith pos f first (backTo pos (starEach [] X.env)) (backToKw pos (keywordEach [] X.env))):=by rfl):VE X (.Call (.Attribute o m apos) [] [] pos) (aJ9 C m sp [] E0 ta wC):=by
 obtain⟨f,h,d,c,b,a⟩:=G;exact⟨aVz e.1 d c a g b .nil aCe i⟩
def aWz (G:OkC X.prog X.w X.K X.mg X.base C k x ps sp)(i:Room (k+1) X.A)(n:Gl X x)(j:VA X (e::es) t)(d:(x == ("__debug__":Str))=false:=by decide)(m:eQ e=true:=by rfl)(g:(backTo pos (starEach es X.env)).any (·.1)=false:=by rfl) :
  VE X (.Call (.Name x p) (e::es) [] pos) (aYy C sp [] E0 t):=by
 obtain⟨f,l,h,c,b,a⟩:=G;exact⟨aWx c a i n h b .nil aCe j.1 d (bR m) g⟩
end
end L2
namespace My
open PySem PySem.Spec PyProof.Rows L2 PySem.NumText
abbrev figs:Str:="0123456789"
abbrev cs (x:Str):List Nat:=x.cps.toList
def isD (c:Nat):Bool:=decide (48<=c) && decide (c<=57)
def isL (c:Nat):Bool:=decide (97<=c) && decide (c<=122)
def inS (S y:Str):Bool:=!(Builtin.Str.occurrences S y 0 S.length 1).isEmpty
def aXj:cs figs=[48,49,50,51,52,53,54,55,56,57]:=by trivial
def inF (c:Nat):inS figs ⟨#[c]⟩=isD c:=by unfold inS;rw[PySem.StrLaws.found_one];show decide (c∈cs figs)=isD c;rw[aXj,bCB];simp only[isD,decide_eq_true_eq,bAI,bAJ,bAE,or_false];omega
def zA (l:List Nat):Bool:=(decide (1<=l.length) && (decide (l.length<=60) && l.all isD)) && (decide (l=[48]) || !decide (l.head?=some 48))
def aE3 (l:List Nat):Bool:=if l.head?=some 45 then zA l.tail && !decide (l=[45,48]) else zA l
def inn (l:List Nat):List Nat:=l.tail.dropLast
def aMv (l:List Nat):Bool:=decide (2<=l.length) && (decide (l.head?=some 39) && (decide (l.getLast?=some 39) && (decide ((inn l).length<=8) && (inn l).all isL)))
def aMp (l:List Nat):Int:=if l.head?=some 45 then -((digitsVal l.tail:Nat):Int) else ((digitsVal l:Nat):Int)
def rdV (x:Str):Option V:=if aE3 (cs x) then some (.int (aMp (cs x))) else if aMv (cs x) then some (.str ⟨(inn (cs x)).toArray⟩) else none
def jG:x=y↔cs x=cs y:=by obtain⟨⟨a⟩⟩:=x;obtain⟨⟨b⟩⟩:=y;simp[cs]
def range_all (x:Str)(f:Nat->Bool):((List.range x.cps.size).map λi=>f (x.cps.getD i 0)).all id=(cs x).all f:=by
 have e:(List.range x.cps.size).map (λi=>f (x.cps.getD i 0))=(cs x).map f:=by
  apply bCK;intro i;rw[bAC,bAC];by_cases h:i<x.cps.size
  ·rw[bCA h,bBG,bAN h];simp[bCN,bAN h]
  ·rw[bAT (by simpa using h),bAT (by simpa using h)];rfl
 rw[e,List.all_map];rfl
def aKz (h:zA l=true):AllDigits l/\l≠[]/\l.length<=60:=by unfold zA at h;simp only[bAI,decide_eq_true_eq,bBL,isD] at h;obtain⟨⟨a,d,b⟩,_⟩:=h;exact⟨λc f=>b c f,λe=>by rw[e] at a;simp at a,d⟩
def aPg (h:aE3 (cs x)=true):intText? x=some (aMp (cs x))/\x.length<=640:=by
 unfold aE3 at h;have g:x.length=(cs x).length:=by simp[cs,Str.length]
 split at h
 ·rename_i d;simp only[bAI] at h;obtain⟨a,b,c⟩:=aKz h.1;have f:cs x=45::(cs x).tail:=by
   cases e:cs x with
   |nil=>rw[e] at d;cases d
   |cons y t=>rw[e] at d;cases d;rfl
  have i:x.length<=61:=by rw[g,f,d9];lia
  refine⟨?_,by lia⟩;rw[intText_neg f a b (by lia)];unfold aMp;rw[if_pos d]
 ·rename_i d;obtain⟨a,b,c⟩:=aKz h;refine⟨?_,by lia⟩;rw[intText_digits a b (by lia)];unfold aMp;rw[if_neg d]
open PySem PySem.Spec PyProof.Rows L2 PySem.NumText Builtin Builtin.Str
def iK (x:Str):x.length=(cs x).length:=by simp[cs,Str.length]
def aHb (x:Str)(l u:Option Int):Txt.slice x l u=PySem.StrLaws.sliceText x l u:=rfl
def bD6 (x:Str):Txt.slice x none (some 1)=⟨((cs x).take 1).toArray⟩:=by
 rw[aHb];by_cases h:(cs x).length=0
 ·have e:x = "":=jG.mpr (by rw[bDE h];decide +kernel);subst e;decide +kernel
 ·rw[PySem.StrLaws.sliceText_to (show (0:Int)<=1/\(1:Int)<=((cs x).length:Nat) by lia)];rfl
def aYs (h:1<=(cs x).length):Txt.slice x (some 1) none=⟨((cs x).tail).toArray⟩:=by
 rw[aHb,PySem.StrLaws.sliceText_from (show (0:Int)<=1/\(1:Int)<=((cs x).length:Nat) by lia)];have e:((x.cps.toList.length:Int) - 1).toNat=((cs x).drop 1).length:=by rw[bCD];show ((cs x).length - 1:Int).toNat=_;lia
 rw[e];show (⟨((((cs x).drop 1).take ((cs x).drop 1).length)).toArray⟩:Str)=_;rw[bBP,List.drop_one]
def bEv (h:2<=(cs x).length):Txt.slice x (some 1) (some (-1))=⟨(inn (cs x)).toArray⟩:=by
 have e:strSliceIndices (some 1) (some (-1)) 1 x.length=strSliceIndices (some 1) (some ((x.length:Int) - 1)) 1 x.length:=by
  have c:=iK x;unfold strSliceIndices;simp only;have a:¬ ((x.length:Int) - 1<0):=by lia
  rw[if_pos (show (-1:Int)<0 by decide),if_neg a]
  congr 1
 rw[aHb];have b:PySem.StrLaws.sliceText x (some 1) (some (-1))=PySem.StrLaws.sliceText x (some 1) (some ((x.length:Int) - 1)):=by unfold PySem.StrLaws.sliceText;rw[e]
 rw[b,PySem.StrLaws.sliceText_plain (show (0:Int)<=1/\(1:Int)<=(x.length:Int) - 1/\(x.length:Int) - 1<=((cs x).length:Nat) by have c:=iK x;lia)];refine jG.mpr ?_;show ((cs x).drop 1).take ((x.length:Int) - 1 - 1).toNat=inn (cs x);unfold inn;rw[List.drop_one,List.dropLast_eq_take,List.length_tail,iK]
 congr 1
 lia
def shw:V->Str
 |.int i=>Str.ofString (toString i)
 |.str x=>"'"++x++"'"
 |_=>""
def Lets (x:Str):Prop:=∀c∈x.cps,97<=c/\c<=122
def Vl (v:V):Prop:=(∃i:Int,v=.int i/\i.natAbs<10 ^ 60)\/∃x,v=.str x/\Lets x/\x.length<=8
def aGu (x y:Str):cs (x++y)=cs x++cs y:=by show (x.cps++y.cps).toList=_;rw[bDV]
def aX1:cs "'"=[39]:=by trivial
def tK (x:Str):cs (shw (.str x))=39::(cs x++[39]):=by show cs ("'"++x++"'")=_;rw[aGu,aGu,aX1];rfl
def aV8 (h:Lets x):(cs x).all isL=true:=by rw[bBL];intro c d;obtain⟨a,b⟩:=h c (Array.mem_toList_iff.mp d);simp[isL,a,b]
theorem yX:∀k m,m<10 ^ (k+1)->(Nat.toDigits 10 m).length<=k+1
 |0,m,h=>by rw[bDD (by simpa using h)];simp
 |k+1,m,h=>by
  by_cases a:m<10
  ·rw[bDD a];simp
  ·have b:m % 10<10:=Nat.mod_lt m (by decide);have t:Nat.toDigits 10 (m / 10)++Nat.toDigits 10 (m % 10)=Nat.toDigits 10 (10 * (m / 10)+m % 10):=bEQ (by decide) (by lia) b;rw[Nat.div_add_mod] at t;rw[<-t,j4,bDD b];have c:=yX k (m / 10) (by rw[Nat.pow_succ] at h;exact Nat.div_lt_of_lt_mul (by rw[Nat.mul_comm];exact h));simp only[bBA];lia
def bFn:∀d:Nat,d<10->d≠0->(Nat.digitChar d).toNat≠48:=by decide
def aF9 (m:Nat)(h:m≠0):((Nat.toDigits 10 m).map Char.toNat).head?≠some 48:=by
 induction m using Nat.strongRecOn with
 |_ m ih=>
  by_cases a:m<10
  ·rw[bDD a];intro e;exact bFn m a h (bAM e)
  ·have b:m % 10<10:=Nat.mod_lt m (by decide);have t:Nat.toDigits 10 (m / 10)++Nat.toDigits 10 (m % 10)=Nat.toDigits 10 (10 * (m / 10)+m % 10):=bEQ (by decide) (by lia) b;rw[Nat.div_add_mod] at t;rw[<-t,bAY,List.head?_append];have i:=ih (m / 10) (by lia) (by lia);cases e:((Nat.toDigits 10 (m / 10)).map Char.toNat).head? with
   |none=>rw[List.head?_eq_none_iff] at e;have z:=toDigits_len_ge 10 (m / 10);rw[List.map_eq_nil_iff.mp e] at z;exact absurd z (by decide)
   |some c=>rw[e] at i;simpa using i
def xC (m:Nat):AllDigits ((Nat.toDigits 10 m).map Char.toNat):=by intro c b;obtain⟨d,a,e⟩:=List.mem_map.mp b;have r:=digit_range (Nat.isDigit_of_mem_toDigits (by decide) (by decide) a);rw[<-e];exact r
def aPt (m:Nat):(Nat.toDigits 10 m).map Char.toNat≠[]:=λe=>by have h:=toDigits_len_ge 10 m;rw[List.map_eq_nil_iff.mp e] at h;exact absurd h (by decide)
def aJw (h:m<10 ^ 60):zA ((Nat.toDigits 10 m).map Char.toNat)=true:=by
 have i:=yX 59 m h;have e:1<=((Nat.toDigits 10 m).map Char.toNat).length:=List.length_pos_iff.mpr (aPt m);have f:((Nat.toDigits 10 m).map Char.toNat).all isD=true:=by rw[bBL];intro c g;obtain⟨a,b⟩:=xC m c g;simp[isD,a,b]
 unfold zA;rw[v7 e,v7 (by rw[d7];lia),f];simp only[bBU,Bool.and_true];by_cases d:m=0
 ·subst d;decide
 ·rw[j6 (aF9 m d)];simp
def aXl (n:Nat):toString (Int.negSucc n) = "-"++toString (n+1):=rfl
def aHx (n:Nat):cs (Str.ofString (toString (Int.negSucc n)))=45::(Nat.toDigits 10 (n+1)).map Char.toNat:=by show (Str.ofString (toString (Int.negSucc n))).cps.toList=_;rw[signs_ofString,aXl];show (String.append "-" (Nat.repr (n+1))).toList.map Char.toNat=_;rw[show String.append "-" (Nat.repr (n+1)) = "-"++Nat.repr (n+1) from rfl,String.toList_append,Nat.toList_repr,bAY];rfl
def bAd (h:Vl v):rdV (shw v)=some v:=by
 rcases h with⟨i,rfl,d⟩|⟨x,rfl,hx,h8⟩
 ·cases i with
  |ofNat m=>
   have e:cs (shw (.int (Int.ofNat m)))=(Nat.toDigits 10 m).map Char.toNat:=PySem.W.KIN.signs_num m;have f:¬ ((Nat.toDigits 10 m).map Char.toNat).head?=some 45:=λz=>by have:=(xC m 45 (List.mem_of_mem_head? z)).1;lia
   unfold rdV aE3 aMp;rw[e,if_neg f,if_neg f,if_pos (aJw (by simpa using d)),PySem.W.KIN.val_back];rfl
  |negSucc n=>
   have k:=aJw (by simpa [Int.natAbs] using d);have c:¬ (45::(Nat.toDigits 10 (n+1)).map Char.toNat=[45,48]):=λz=>by injection z with _ z;exact aF9 (n+1) (by lia) (by rw[z];rfl)
   unfold rdV aE3 aMp;rw[show cs (shw (.int (Int.negSucc n)))=45::(Nat.toDigits 10 (n+1)).map Char.toNat from aHx n];simp only[List.head?_cons,List.tail_cons,if_true,k,c,decide_false,Bool.not_false,Bool.and_true,PySem.W.KIN.val_back];rfl
 ·have b:inn (cs (shw (.str x)))=cs x:=by rw[tK];show (cs x++[39]).dropLast=cs x;simp
  have a:aE3 (cs (shw (.str x)))=false:=by rw[tK];unfold aE3 zA;simp[isD]
  have g:aMv (cs (shw (.str x)))=true:=by
   unfold aMv;have j:(cs x).length<=8:=by rw[<-iK];exact h8
   have l:(39::(cs x++[39])).getLast?=some 39:=by rw[<-bBD,List.getLast?_append];rfl
   rw[b,aV8 hx,v7 j,tK,l];simp
  unfold rdV;rw[a,g,b];simp
def aPu (h:Vl v):(shw v).length<=61:=by
 rcases h with⟨i,rfl,a⟩|⟨x,rfl,hx,h8⟩
 ·rw[iK];cases i with
  |ofNat m=>rw[show cs (shw (.int (Int.ofNat m)))=(Nat.toDigits 10 m).map Char.toNat from PySem.W.KIN.signs_num m,d7];have:=yX 59 m (by simpa using a);lia
  |negSucc n=>rw[show cs (shw (.int (Int.negSucc n)))=45::(Nat.toDigits 10 (n+1)).map Char.toNat from aHx n,d9,d7];have:=yX 59 (n+1) (by simpa [Int.natAbs] using a);lia
 ·rw[iK,tK,d9,j4,<-iK,bBA];lia
end My
namespace PySem
end PySem
namespace L2
open PySem PySem.Spec PyProof.Rows
section
variable {X:Cx}{a b e:Expr}{es:List Expr}{ta tb te:TE}{t:TA}{pos p pos' apos:Pos}{x m:Str}{k k0:Nat}{ps:List Str}{sp:Sp}{C:Addr}{o:Expr}
def aY (i:Nat)(b:VE X e te)(d:X.N.Nodup:=by assumption)(a:X.N[i]?=some x:=by rfl)(f:Loc X.env.scope x:=by first|exact Or.inl rfl|exact Or.inr rfl)(hs:swapsWith e (some (.Name x pos')) pos.line X.env=pure false:=by rfl)(c:X.fn x=true\/X.env.scope.names.lookup x=some .local:=by first|exact .inl rfl|exact .inr rfl|assumption):VS X (.Assign [.Name x pos'] e pos) (rC te (cI i)):=aZ4 d a f b hs c
def cU (i:Nat)(b:X.N.Nodup:=by assumption)(a:X.N[i]?=some x:=by rfl)(d:Loc X.env.scope x:=by first|exact Or.inl rfl|exact Or.inr rfl)(c:X.fn x=true\/X.env.scope.names.lookup x=some .local:=by first|exact .inl rfl|exact .inr rfl|assumption):VG X (.Name x pos) (cI i):=aOx b a d c
def bU (G:Ok X.prog X.w X.K X.mg X.base k0 x ps sp)(d:VA X (e::es) t)(c:Room k X.A:=by assumption)(h:k0<=k:=by decide)(g:Gl X x:=by rfl)(a:(x == ("__debug__":Str))=false:=by decide)(f:eQ e=true:=by rfl)(b:(backTo pos (starEach es X.env)).any (·.1)=false:=by rfl):VE X (.Call (.Name x p) (e::es) [] pos) (aAy sp [] E0 t):=dX (G.mono h) c g d a f b
def bE3 (G:OkM X.prog X.w X.K X.mg X.base C k0 m ps sp)(b:VE X o ta)(d:VA X (e::es) t)(c:Room k X.A:=by assumption)(i:k0<=k:=by decide)(g:eQ e=true:=by rfl)(a:(backTo pos (starEach es X.env)).any (·.1)=false:=by rfl)
  (h:eval (.Call (.Attribute o m apos) (e::es) [] pos) X.env=(do
   let ov <-eval o X.env
   standAt apos.atName
   let (f,first) <-holding [ov] (getMethod ov m pl)
   callWith pos f first (backTo pos (starEach (e::es) X.env)) (backToKw pos (keywordEach [] X.env))):=by rfl):VE X (.Call (.Attribute o m apos) (e::es) [] pos) (aJ9 C m sp [] E0 ta t):=sY (G.mono i) c b d g a h
def bO (c:IxR X r)(d:VE X a ta)(e:VE X b tb)(hs:aI0 b:=by exact λ_ _=>rfl):VE X (.Subscript a b pos) (tOp r ta tb):=bDq c d e hs
def cT (f:OpR X (compareOp op) r)(d:VE X a ta)(e:VE X b tb)(c:behindInMarks op b=false:=by exact aT5 _):VT X (.Compare a [op] [b] pos) (aFk (tOp r ta tb)):=zM f d e c
def uC (f:OpR X (compareOp op) r)(d:VE X a ta)(e:VE X b tb)(c:behindInMarks op b=false:=by exact aT5 _):VE X (.Compare a [op] [b] pos) (tOp r ta tb):=tH f d e c
def va1 (a:VE X e te)(b:eQ e=true:=by rfl):VA X [e] (dO te wC):=aG a gB b
end
def bF (f:sc.kind=.function:=by rfl)(c:sc.isCoroutine=false:=by rfl)(b:sc.isGenerator=false:=by rfl)(a:N.Nodup:=by trivial)(g:N.take ps.length=ps:=by rfl)(e:∀x∈ps,sc.names.lookup x=some .local\/sc.names.lookup x=some .cell:=by trivial)(d:∀y∈sc.names,y.2≠.free:=by trivial):aN N ps sc:=⟨f,c,b,a,g,e,d⟩
section
variable {X:Cx}{scope:Scope}{N:List Str}{pos:Pos}{x:Str}{cl:List (Str × Addr)}{s:Shared}{H:Hp}{fp:List Addr}
def fZ (i:Nat)(b:N.Nodup:=by trivial)(a:N[i]?=some x:=by rfl)(d:Loc (cxC X N scope cl s H fp).env.scope x:=by exact Or.inl rfl)(c:(cxC X N scope cl s H fp).fn x=true\/(cxC X N scope cl s H fp).env.scope.names.lookup x=some .local:=by first|exact .inl rfl|exact .inr rfl|assumption):VG (cxC X N scope cl s H fp) (.Name x pos) (cI i):=aOx b a d c
def ck (d:∀y∈scope.names,y.2≠.cell:=by trivial)(b:scope.kind=.function:=by rfl)(a:∀y∈scope.names,y.2=.local->scope.names.lookup y.1=some .local:=by trivial)(c:∀y∈scope.names,y.2=.free->scope.names.lookup y.1=some .free:=by trivial):wD scope N:=⟨d,b,a,c⟩
end
end L2
namespace My
open PySem PySem.Spec PyProof.Rows L2
def top (i:Nat):Stmt:=PySem.Challenge.pw_shardask_k71_questions_read.main.body.getD i (.Pass ⟨0,0,0,0⟩)
abbrev aDl:Stmt:=top 8
abbrev aF2:Stmt:=top 9
abbrev aBb:Stmt:=top 10
abbrev nY:Stmt:=top 11
abbrev aFt:Stmt:=top 12
abbrev aC0:Stmt:=top 13
abbrev aCj:Stmt:=top 25
abbrev aF7:Stmt:=top 26
abbrev aFi:Stmt:=top 27
abbrev aKy:Stmt:=top 28
abbrev aKk:Stmt:=top 29
abbrev aF4:Stmt:=top 30
abbrev aBj:Stmt:=top 31
abbrev aAw:Stmt:=top 32
abbrev mH:Stmt:=top 33
abbrev aBa:Stmt:=top 34
abbrev aCn:Stmt:=top 35
abbrev aD1:Stmt:=top 36
abbrev mF:Stmt:=top 37
abbrev aDc:Stmt:=top 39
abbrev rQ:Stmt:=top 40
abbrev aEf:Stmt:=top 41
abbrev aFv:Stmt:=top 42
abbrev uJ:Stmt:=top 46
abbrev pJ:Stmt:=top 47
abbrev sV:Stmt:=top 48
abbrev zN:Stmt:=top 49
abbrev jE:Stmt:=classAt (top 50) 0
abbrev oA:Stmt:=classAt (top 50) 1
abbrev qP:Stmt:=classAt (top 50) 2
abbrev pL:Stmt:=classAt (top 50) 3
abbrev oH:Stmt:=classAt (top 50) 4
abbrev nW:Stmt:=classAt (top 50) 5
abbrev nU:Stmt:=classAt (top 50) 6
abbrev pW:Stmt:=classAt (top 50) 7
abbrev jF:Stmt:=classAt (top 50) 8
abbrev yH:Stmt:=top 51
abbrev aBg:Stmt:=top 52
abbrev aBe:Stmt:=top 53
abbrev aDm:Stmt:=top 54
abbrev aC5:Stmt:=top 55
abbrev sI:Stmt:=top 56
abbrev uG:Stmt:=top 57
abbrev aA2:Stmt:=top 58
abbrev aBi:Stmt:=top 59
abbrev uL:Stmt:=top 60
abbrev qQ:Stmt:=top 61
abbrev vG:Stmt:=top 63
abbrev yC:Stmt:=top 64
abbrev aA6:Stmt:=top 65
abbrev aBc:Stmt:=top 66
abbrev yI:Stmt:=top 67
abbrev zL:Stmt:=top 68
abbrev rE:Stmt:=top 69
abbrev pB:Stmt:=top 70
abbrev aA5:Stmt:=top 72
abbrev aBh:Stmt:=top 73
abbrev yO:Stmt:=top 74
abbrev pP:Stmt:=top 75
abbrev yW:Stmt:=top 76
abbrev zP:Stmt:=top 77
abbrev aBn:Stmt:=top 78
abbrev qF:Stmt:=top 79
abbrev rJ:Stmt:=top 80
abbrev aAx:Stmt:=top 81
abbrev pY:Stmt:=top 82
abbrev sU:Stmt:=top 83
abbrev lC:Stmt:=top 84
abbrev mV:Stmt:=top 85
abbrev iD:Stmt:=top 86
abbrev lW:Stmt:=top 87
abbrev mU:Stmt:=top 88
abbrev mY:Stmt:=top 89
abbrev zT:Stmt:=top 90
abbrev aBo:Stmt:=top 91
abbrev qK:Stmt:=top 92
abbrev mK:Stmt:=top 93
abbrev aSz:Stmt:=top 94
abbrev lM:Stmt:=inClass (top 1) 0
inductive Exn where
 |ques|words
 deriving DecidableEq
def Exn.nm:Exn->Str
 |.ques=>"NoQuestion"
 |.words=>"NoWords"
structure Txt (w:World)(K:bFC)(mg:bFF):Prop where
 aI2:mg "ValueError"=none
 aGj:mg "all"=none
 bD8:mg "any"=none
 aVl:mg "bool"=none
 bAp:mg "dict"=none
 aK4:mg "enumerate"=none
 aFx:mg "int"=none
 bJ:mg "isinstance"=none
 eN:mg "len"=none
 aDa:mg "list"=none
 bEf:mg "min"=none
 gG:mg "range"=none
 aTe:mg "sorted"=none
 qU:mg "str"=none
 cO:mg "tuple"=none
 bEw:mg "zip"=none
 jH:∃a,mg "QUESTION_WORDS"=some (.ref a)/\∀H,SqT K H a [.str "and",.str "by",.str "count",.str "down",.str "first",.str "group",.str "join",.str "keep",.str "least",.str "most",.str "named",.str "on",.str "sum",.str "table",.str "up",.str "where",.str "with"]
 aRa:∃u,mg "LETTERS"=some u/\RelV (.str "abcdefghijklmnopqrstuvwxyz") u
 aC9:∃u,mg "MOST_LETTERS"=some u/\RelV (.int 8) u
 aI6:∃a,mg "SIGNS"=some (.ref a)/\∀H,SqT K H a [.str "=",.str "<",.str ">",.str "!"]
 sG:∃a,mg "SUM_WORDS"=some (.ref a)/\∀H,SqT K H a [.str "count",.str "sum",.str "least",.str "most"]
 aOb:∃a,mg "WAYS"=some (.ref a)/\∀H,SqT K H a [.str "up",.str "down"]
 aHz:∃u,mg "MOST_TESTS"=some u/\RelV (.int 3) u
 zV:∃u,mg "MOST_NAMES"=some u/\RelV (.int 8) u
 aG7:∃u,mg "MOST_PAIRS"=some u/\RelV (.int 3) u
 aKu:∃u,mg "MOST_SUMS"=some u/\RelV (.int 4) u
 aL4:∃u,mg "MOST_KEYS"=some u/\RelV (.int 3) u
 aKa:∃u,mg "MOST_ROWS"=some u/\RelV (.int 60) u
 aAz:∃u,mg "MOST_SIZE"=some u/\RelV (.int 20) u
 aB9:∃d t0 t1 t2 t3 t4 t5 t6:Addr,mg "FORMS"=some (.ref d)/\aVf w K d [("table",t0),("where",t1),("keep",t2),("named",t3),("join",t4),("group",t5),("first",t6)]/\(∃f0:Addr,(∀H,SqT K H t0 [.ref f0])/\mg "is_name"=some (.ref f0))/\(∃f0 f1:Addr,(∀H,SqT K H t1 [.ref f0,.ref f1])/\mg "may_be_question"=some (.ref f0)/\mg "are_tests"=some (.ref f1))/\(∃f0 f1:Addr,(∀H,SqT K H t2 [.ref f0,.ref f1])/\mg "may_be_question"=some (.ref f0)/\mg "are_names"=some (.ref f1))/\(∃f0 f1:Addr,(∀H,SqT K H t3 [.ref f0,.ref f1])/\mg "may_be_question"=some (.ref f0)/\mg "are_names"=some (.ref f1))/\(∃f0 f1 f2:Addr,(∀H,SqT K H t4 [.ref f0,.ref f1,.ref f2])/\mg "may_be_question"=some (.ref f0)/\mg "may_be_question"=some (.ref f1)/\mg "are_pairs"=some (.ref f2))/\(∃f0 f1 f2:Addr,(∀H,SqT K H t5 [.ref f0,.ref f1,.ref f2])/\mg "may_be_question"=some (.ref f0)/\mg "are_group_names"=some (.ref f1)/\mg "are_sums"=some (.ref f2))/\(∃f0 f1 f2:Addr,(∀H,SqT K H t6 [.ref f0,.ref f1,.ref f2])/\mg "may_be_question"=some (.ref f0)/\mg "are_keys"=some (.ref f1)/\mg "is_many"=some (.ref f2))
 aRs:∃u,mg "FIGURES"=some u/\RelV (.str "0123456789") u
 aEj:∃u,mg "MOST_FIGURES"=some u/\RelV (.int 60) u
 aMz:Dn K mg "is_whole" aDl m5
 aRg:Dn K mg "is_word" aF2 m5
 aJr:Dn K mg "is_one_of" aBb bQD
 aEx:Dn K mg "is_tuple_of" nY n7
 aQz:Dn K mg "is_name" aFt m5
 aM9:Dn K mg "is_value" aC0 m5
 aMe:Dn K mg "is_other" aCj m5
 aRi:Dn K mg "is_test" aF7 m5
 aQq:Dn K mg "is_pair" aFi m5
 aSf:Dn K mg "is_sum" aKy m5
 aVw:Dn K mg "is_key" aKk m5
 aRx:Dn K mg "is_many" aF4 m5
 aJi:Dn K mg "are_tests" aBj m5
 aLp:Dn K mg "are_names" aAw m5
 xP:Dn K mg "are_group_names" mH m5
 aKj:Dn K mg "are_pairs" aBa m5
 aMd:Dn K mg "are_sums" aCn m5
 aMu:Dn K mg "are_keys" aD1 m5
 xD:Dn K mg "may_be_question" mF m5
 aOd:Dn K mg "has_form" aDc m5
 aC6:Dn K mg "questions_in" rQ m8
 aNa:Dn K mg "own_size" aEf m8
 aRt:Dn K mg "checked" aFv m5
 aEw:Dn K mg "are_figures" uJ bQC
 aAl:Dn K mg "is_number_text" pJ bQC
 aDv:Dn K mg "is_word_text" sV bQC
 aGm:Dn K mg "read_value" zN bQI
 aH6:Dn K mg "read_other" yH bQI
 aKq:Dn K mg "read_test" aBg bQB
 aKm:Dn K mg "read_pair" aBe bQB
 aMm:Dn K mg "read_sum" aDm bQB
 aM7:Dn K mg "read_key" aC5 bQB
 aEk:Dn K mg "one_and_more" sI bQE
 aEm:Dn K mg "each_behind" uG z8
 aJ6:Dn K mg "read_join" aA2 o9
 aJh:Dn K mg "read_step" aBi o9
 uF:Dn K mg "read_within" uL bQK
 aBx:Dn K mg "read_question" qQ bQC
 aEy:Dn K mg "shown_value" vG ["value"]
 aG4:Dn K mg "shown_test" yC ["test"]
 aLu:Dn K mg "shown_sum" aA6 ["part"]
 aJf:Dn K mg "shown_key" aBc ["key"]
 aJd:Dn K mg "shown_join" yI m8
 aIc:Dn K mg "shown_step" zL m8
 rZ:Dn K mg "shown_within" rE m8
 aAm:Dn K mg "shown_question" pB m8
 aKp:Dn K mg "_law_seed" aA5 bQH
 aLa:Dn K mg "_law_next" aBh m7
 aI9:Dn K mg "_law_words" yO []
 aH8:Dn K mg "_law_names" pP m7
 aHu:Dn K mg "_law_great" yW ["_law_state"]
 aHg:Dn K mg "_law_value" zP bQJ
 aJg:Dn K mg "_law_head" aBn bQF
 aIw:Dn K mg "_law_tests" qF o7
 aJ4:Dn K mg "_law_some" rJ o6
 aL9:Dn K mg "_law_sums" aAx u9
 aGw:Dn K mg "_law_group" pY o4
 aKr:Dn K mg "_law_keys" sU o7
 aGq:Dn K mg "_law_fresh" lC o5
 aKx:Dn K mg "_law_join" mV n6
 qZ:Dn K mg "_law_question" iD o8
 wB:Dn K mg "_law_shown_value" lW bQM
 wX:Dn K mg "_law_shown_test" mU ["_law_test"]
 yV:Dn K mg "_law_shown_sums" mY bQR
 xW:Dn K mg "_law_shown" zT bQO
 aJ7:Dn K mg "_law_more" aBo u5
 wL:Dn K mg "_law_alike" qK bQG
 zH:Dn K mg "_law_none_shown" mK bQS
 bEx:Dn K mg "law" aSz bQH
 aYk:∃C,aW8 K mg "Words" C/\pG K C "__init__" "Words.__init__" jE ["self","text"]/\pG K C "ahead" "Words.ahead" oA ["self"]/\pG K C "word" "Words.word" qP ["self"]/\pG K C "name" "Words.name" pL ["self"]/\pG K C "names" "Words.names" oH ["self"]/\pG K C "value" "Words.value" nW ["self"]/\pG K C "takes" "Words.takes" nU ["self","word"]/\pG K C "need" "Words.need" pW ["self","word"]/\pG K C "need_end" "Words.need_end" jF ["self"]/\iI K C "words"/\iI K C "taken_count"
 aXm:∃(S:Addr) (ad:Exn->Addr),mg "ShardError"=some (.ref S)/\XS K S/\(∀c,ExT K mg lM c.nm "ShardError.__init__" (ad c) S)/\(∀c d,PySem.W.mroIn K (ad c) (.ref (ad d))=some (decide (c=d)))/\∀c,PySem.W.mroIn K (ad c) (.type "ValueError")=some true
def aB7:aN bQL bQL (aD lM):=bF
abbrev abc:Str:="abcdefghijklmnopqrstuvwxyz"
abbrev words:List V:=[.str "and",.str "by",.str "count",.str "down",.str "first",.str "group",.str "join",.str "keep",.str "least",.str "most",.str "named",.str "on",.str "sum",.str "table",.str "up",.str "where",.str "with"]
def Th (K:bFC)(H:Hp)(v:V):Prop:=(∃x,v=.str x/\x.length<=1000)\/(∃i,v=.int i)\/(∃b,v=.bl b)\/∃k,Rk K H v k
def Th.same {K:bFC}{H H':Hp}{v:V}(e:Same H H')(h:Th K H v):Th K H' v:=by
 rcases h with h|h|h|⟨k,h⟩
 ·exact .inl h
 ·exact .inr (.inl h)
 ·exact .inr (.inr (.inl h))
 ·exact .inr (.inr (.inr ⟨k,h.same e⟩))
def aWi:V->String->Bool
 |.int _,T=>T == "int"
 |.str _,T=>T == "str"
 |.bl _,T=>T == "int" || T == "bool"
 |_,_=>false
def isS:V->Bool
 |.str _=>true
 |_=>false
def whole:V->Bool
 |.int _=>true
 |_=>false
def gK {K:bFC}{H:Hp}{v:V}{T:String}{Q:VK}(c:Th K H v)(a:T = "int"\/T = "bool"\/T = "str")(q:Q (.bl (aWi v T)) H):bD7 [v,.ty T] H Q\/aZi K [v,.ty T] H Q:=by
 rcases c with⟨x,rfl,_⟩|⟨i,rfl⟩|⟨b,rfl⟩|⟨k,h⟩
 ·refine .inl ⟨_,_,_,rfl,?_,q⟩;rcases a with rfl|rfl|rfl <;> simp[aMs,aWi]
 ·refine .inl ⟨_,_,_,rfl,?_,q⟩;rcases a with rfl|rfl|rfl <;> simp[aMs,aWi]
 ·refine .inl ⟨_,_,_,rfl,?_,q⟩;rcases a with rfl|rfl|rfl <;> simp[aMs,aWi]
 ·refine .inr ⟨_,_,_,rfl,h,a,?_⟩;cases h <;> exact q
def inA (y:Str):Bool:=!(Builtin.Str.occurrences abc y 0 abc.length 1).isEmpty
def allIn (x:Str):Bool:=((List.range x.cps.size).map λi=>inA (sgn x i)).all id
def lA (l:Nat):V->Bool
 |.str x=>decide (l<=x.length) && (decide (x.length<=8) && allIn x)
 |_=>false
def nameB (v:V):Bool:=lA 1 v && !inV v words
def aJs (v:V):Bool:=whole v || lA 0 v
def pC (K:bFC):Sp:=λvs H Q _=>∃v,vs=[v]/\Th K H v/\Q (.bl (whole v)) H
def qN (K:bFC)(f:V->Bool):Sp:=λvs H Q _=>∃v,vs=[v]/\Th K H v/\∀H',Same H H'->Q (.bl (f v)) H'
inductive aG6 (K:bFC)(vs:List V)(H:Hp)(Q:VK)(E_:XK):Prop
 |mk (a:Addr) (ns:List Int) (_:vs=[.ref a]) (_:SqL K H a (ns.map V.int)) (_:ns.length<=63) (_:∀H',Q (.bl true) H')
def aRw {K:bFC}{H:Hp}{a:Addr}{ns:List Int}(h:ns.length<=63)(b:SqL K H a (ns.map V.int)):aG6 K [.ref a] H (λv _=>v=.bl true) λ_ _ _=>False:=
 ⟨a,ns,rfl,b,h,λ_=>rfl⟩
def aJ5:aN m5 m5 (aD aDl):=bF
def aNc:aN m5 m5 (aD aF2):=bF
def aGp:aN bQD bQD (aD aBb):=bF
def aC8:aN n7 n7 (aD nY):=bF
def aOe:aN m5 m5 (aD aFt):=bF
def aLv:aN m5 m5 (aD aC0):=bF
def aLi:aN m5 m5 (aD aCj):=bF
def aOi:aN m5 m5 (aD aF7):=bF
def aNn:aN m5 m5 (aD aFi):=bF
def aRh:aN m5 m5 (aD aKy):=bF
def aQb:aN m5 m5 (aD aKk):=bF
def aOf:aN m5 m5 (aD aF4):=bF
def aI3:aN m5 m5 (aD aBj):=bF
def aIu:aN m5 m5 (aD aAw):=bF
def vQ:aN m5 m5 (aD mH):=bF
def aIk:aN m5 m5 (aD aBa):=bF
def aLw:aN m5 m5 (aD aCn):=bF
def aLg:aN m5 m5 (aD aD1):=bF
def vM:aN m5 m5 (aD mF):=bF
def aBf:aN ["thing","form"] m5 (aD aDc):=bF
def aBt:aN m8 m8 (aD rQ):=bF
def aLr:aN m8 m8 (aD aEf):=bF
def aD9:aN ["thing","size","waiting","part"] m5 (aD aFv):=bF
def aDr:aN bQC bQC (aD uJ):=bF
def xR:aN bQC bQC (aD pJ):=bF
def aBw:aN bQC bQC (aD sV):=bF
def aE7:aN bQI bQI (aD zN):=bF
def xO:aN bQP bQP (aD jE):=bF
def aC1:aN n8 n8 (aD oA):=bF
def vI:aN ["self","told"] n8 (aD qP):=bF
def uR:aN ["self","told"] n8 (aD pL):=bF
def sH:aN ["self","told"] n8 (aD oH):=bF
def aCz:aN n8 n8 (aD nW):=bF
def aDt:aN bQA bQA (aD nU):=bF
def aEs:aN bQA bQA (aD pW):=bF
def yE:aN n8 n8 (aD jF):=bF
def aEn:aN bQI bQI (aD yH):=bF
def aHd:aN bQB bQB (aD aBg):=bF
def aIz:aN bQB bQB (aD aBe):=bF
def aA7:aN ["words","word","column"] bQB (aD aDm):=bF
def aKf:aN bQB bQB (aD aC5):=bF
def qX:aN ["words","read_one","told"] bQE (aD sI):=bF
def rW:aN ["words","word","read_one","told"] z8 (aD uG):=bF
def yU:aN ["words","question","depth","other"] o9 (aD aA2):=bF
def yP:aN ["words","question","depth","sort","names","many"] o9 (aD aBi):=bF
def lO:aN ["words","depth","question"] bQK (aD uL):=bF
def pD:aN ["text","words","question"] bQC (aD qQ):=bF
def aCu:aN ["value"] ["value"] (aD vG):=bF
def uX:aN ["test","other"] ["test"] (aD yC):=bF
def aJa:aN ["part"] ["part"] (aD aA6):=bF
def aI4:aN ["key"] ["key"] (aD aBc):=bF
def uK:aN ["question","pairs"] m8 (aD yI):=bF
def uU:aN ["question","sort"] m8 (aD zL):=bF
def qT:aN m8 m8 (aD rE):=bF
def xT:aN m8 m8 (aD pB):=bF
def wV:aN ["_law_script","_law_seed_here","_law_k","_law_cell"] bQH (aD aA5):=bF
def aHe:aN m7 m7 (aD aBh):=bF
def uQ:aN ["_law_words_here"] [] (aD yO):=bF
def uI:aN ["_law_state","_law_many","_law_small","_law_odd","_law_base","_law_k","_law_at","_law_names_here"] m7 (aD pP):=bF
def uH:aN ["_law_state","_law_number","_law_k"] ["_law_state"] (aD yW):=bF
def vH:aN ["_law_state","_law_kind","_law_way","_law_word","_law_k"] bQJ (aD zP):=bF
def yQ:aN ["_law_state","_law_names_here","_law_start","_law_head_here","_law_k","_law_kind"] bQF (aD aBn):=bF
def nQ:aN ["_law_state","_law_head_here","_law_tests_here","_law_k","_law_name","_law_kind","_law_other","_law_alike_here"] o7 (aD qF):=bF
def qL:aN ["_law_state","_law_head_here","_law_least","_law_some_here"] o6 (aD rJ):=bF
def zR:aN ["_law_state","_law_head_here","_law_fresh_here","_law_sums_here","_law_k","_law_name","_law_kind","_law_many","_law_word"] u9 (aD aAx):=bF
def oF:aN ["_law_state","_law_question_here","_law_head_here","_law_names_here","_law_got","_law_some_here","_law_fresh_here","_law_sums_here","_law_word","_law_name","_law_new","_law_kind"] o4 (aD pY):=bF
def wN:aN ["_law_state","_law_head_here","_law_some_here"] o7 (aD sU):=bF
def nP:aN ["_law_question_here","_law_head_here","_law_own","_law_names_here","_law_used","_law_fresh_here","_law_got"] o5 (aD lC):=bF
def yZ:aN ["_law_state","_law_question_here","_law_head_here","_law_other","_law_other_head","_law_names_here","_law_pairs","_law_c","_law_kind","_law_pair","_law_left"] n6 (aD mV):=bF
def gM:aN ["_law_state","_law_heads","_law_names_here","_law_deep","_law_name","_law_way","_law_question_here","_law_head_here","_law_some_here","_law_turn","_law_fresh_here","_law_got","_law_other","_law_other_head"] o8 (aD iD):=bF
def uE:aN bQM bQM (aD lW):=bF
def lU:aN ["_law_test","_law_name","_law_sign","_law_other"] ["_law_test"] (aD mU):=bF
def lK:aN ["_law_sums_here","_law_text","_law_word","_law_name","_law_new"] bQR (aD mY):=bF
def oG:aN ["_law_question_here","_law_sort","_law_text","_law_pairs","_law_name","_law_way"] bQO (aD zT):=bF
def yN:aN ["_law_state","_law_question_here","_law_names_here","_law_a","_law_b","_law_c","_law_d","_law_many","_law_tests_here","_law_some_here","_law_sums_here"] u5 (aD aBo):=bF
def uM:aN bQG bQG (aD qK):=bF
def iH:aN ["_law_thing","_law_kinds","e"] bQS (aD mK):=bF
def aT6:aN ["_law_script","_law_state","_law_names_here","_law_heads","_law_k","_law_questions","_law_question_here","_law_bad","_law_text","_law_found"] bQH (aD aSz):=bF
section
variable {P:Program}{w:World}{K:bFC}{mg:bFF}{base:Heap}
def aKt (T:Txt w K mg):Ok P w K mg base 1 "is_whole" m5 (pC K):=by
 refine Ok.ofV T.aMz aJ5 (by trivial) (λf d A c s H g Q E e h=>?_)
 obtain⟨v,rfl,a,q⟩:=h;refine⟨_,(aB (aJ (iJ (aR (gA.or fH) (by rfl) T.bJ bC (aG (vv 0) (va1 (dW (v:=.ty "int") (by rfl) T.aFx aAo rfl)))) (jX (aV4 (aR (gA.or fH) (by rfl) T.bJ bC (aG (vv 0) (va1 (dW (v:=.ty "bool") (by rfl) T.aVl aP3 rfl))))))))),?_⟩;refine⟨_,rfl,gK a (.inl rfl) ⟨_,rfl,?_⟩⟩;rcases id a with⟨x,rfl,_⟩|⟨i,rfl⟩|⟨b,rfl⟩|⟨k,h⟩
 ·exact aZ q
 ·exact bQ ⟨_,rfl,gK a (.inr (.inl rfl)) ⟨_,rfl,q⟩⟩
 ·exact bQ ⟨_,rfl,gK a (.inr (.inl rfl)) ⟨_,rfl,q⟩⟩
 ·cases h <;> exact aZ q
def aU3 (x:Str):(((List.range x.cps.size).map λi=>V.str (sgn x i)).map λv=>match v with|.str y=>V.bl (inA y)|_=>.bl false)=(((List.range x.cps.size).map λi=>inA (sgn x i)).map V.bl):=by rw[bAP,bAP];rfl
def aNf (T:Txt w K mg):Ok P w K mg base 1 "is_word" m5 (qN K (lA 0)):=by
 refine Ok.ofV T.aRg aNc (by trivial) (λf n A d s H C Q E I h=>?_)
 obtain⟨v,rfl,m,q⟩:=h;refine⟨_,(aA (bN (VW.pt (nH (eO (cP (aR (gA.or fH) (by rfl) T.bJ bC (aG (vv 0) (va1 (dW (v:=.ty "str") (by rfl) T.qU kI rfl)))))) (jY (cT aV7 (aR kY (by rfl) T.eN cR (va1 (vv 0))) (dY (by rfl) T.aC9))))) (aB (aJ iW)) aU) (aB (aJ (aR (pH rfl) (by rfl) T.aGj aAb (va1 (cZ (N:=["sign"]) ck eV rfl (aU7 (vv 0)) (λL F u G=>⟨(fZ 0),eZ,(tH aFf (vv 0) (dY (by rfl) T.aRa) (by with_unfolding_all rfl))⟩))))))),?_⟩;refine⟨_,rfl,gK m (.inr (.inr rfl)) ⟨_,rfl,?_⟩⟩;have g:isS v=false->Q (.bl false) H:=λe=>by
  have z:lA 0 v=false:=by cases v <;> first|rfl|cases e
  rw[<-z];exact q H (Same.refl H)
 rcases id m with⟨x,rfl,j⟩|⟨i,rfl⟩|⟨b,rfl⟩|⟨k,h⟩
 ·refine aZ ⟨_,rfl,_,rfl,small j,_,_,rfl,rfl,_,rfl,?_⟩;refine pQ (λc=>?_) (λc=>?_)
  ·have t:(8:Int)<x.length:=of_decide_eq_true c;have z:lA 0 (.str x)=false:=by show (decide (0<=x.length) && (decide (x.length<=8) && allIn x))=false;rw[j6 (p:=x.length<=8) (by lia)];simp
   rw[<-z];exact q H (Same.refl H)
  ·have t:¬ (8:Int)<x.length:=of_decide_eq_false (Bool.eq_false_iff.mpr c);dsimp only[mO,vX,tCB,dO];refine aGk ((List.range x.cps.size).map λi=>V.str (sgn x i)) (λv=>match v with|.str y=>V.bl (inA y)|_=>.bl false) [none] iM ?_
    (λR r=>aSv (z:=x) (λJ o=>⟨_,rfl,o⟩) R r) (λv a u R l M r=>?_) rfl λD B=>?_
   ·rw[d7,bAH];exact small j
   ·obtain⟨i,_,rfl⟩:=List.mem_map.mp a;exact⟨_,rfl,_,_,rfl,rfl,r⟩
   ·refine⟨D,(List.range x.cps.size).map λi=>inA (sgn x i),rfl,SqL.of (by rw[aL,aU3]),?_⟩;have z:lA 0 (.str x)=allIn x:=by show (decide (0<=x.length) && (decide (x.length<=8) && allIn x))=allIn x;rw[v7 (p:=x.length<=8) (by lia)];simp
    show Q (.bl (allIn x)) _;rw[<-z];exact q _ (bV B _)
 ·exact bQ (g rfl)
 ·exact bQ (g rfl)
 ·cases h <;> exact bQ (g rfl)
def yD (h:lA l v=true):∃x,v=.str x/\l<=x.length/\x.length<=8/\allIn x=true:=by
 cases v with
 |str x=>have h:(decide (l<=x.length) && (decide (x.length<=8) && allIn x))=true:=h;rw[bAI,bAI] at h;exact⟨x,rfl,of_decide_eq_true h.1,of_decide_eq_true h.2.1,h.2.2⟩
 |_=>cases h
def aGc:x=("":Str)↔x.length=0:=by
 constructor
 ·rintro rfl;decide +kernel
 ·intro h;obtain⟨a⟩:=x;have h:a.size=0:=h;rw[Array.size_eq_zero_iff] at h;subst h;decide +kernel
def aDp:words.all kJ=true:=rfl
def aN2 (T:Txt w K mg)(F:Ok P w K mg base 1 "is_word" m5 (qN K (lA 0))):Ok P w K mg base 2 "is_name" m5 (qN K nameB):=by
 refine Ok.ofV T.aQz aOe (by trivial) (λf n A b s H C Q E D h=>?_)
 obtain⟨v,rfl,o,q⟩:=h;obtain⟨l,B,k⟩:=T.jH;have r:∃u,mg "QUESTION_WORDS"=some u/\RelV (.ref l) u:=⟨_,B,rfl⟩;refine⟨_,(aB (aJ (iJ (bU F (va1 (vv 0))) (iJ (uC nJ (vv 0) aF) (jX (tH xZ (vv 0) (dY (by rfl) r) (by with_unfolding_all rfl))))))),?_⟩;refine⟨_,rfl,_,rfl,o,λa j=>⟨_,rfl,?_⟩⟩;refine pQ (λc=>?_) (λc=>?_)
 ·obtain⟨x,rfl,_,i,g⟩:=yD c;refine⟨_,rfl,rfl,_,rfl,?_⟩;by_cases e:x.length=0
  ·have t:=aGc.mpr e;subst t;refine aZ ?_;have z:nameB (.str "")=false:=by trivial
   rw[<-z];exact q a j
  ·have y:¬ (V.str x=V.str ""):=λz=>e (aGc.mp (V.str.inj z));have m:(!decide (V.str x=V.str ""))=true:=by rw[j6 y];rfl
   rw[m];refine bQ ⟨_,rfl,l,words,rfl,.inr (k _),rfl,aDp,?_⟩;have z:nameB (.str x)=!inV (.str x) words:=by show ((decide (1<=x.length) && (decide (x.length<=8) && allIn x)) && !inV (.str x) words)=!inV (.str x) words;rw[v7 (p:=1<=x.length) (by lia),v7 i,g];rfl
   show Q (.bl (!inV (.str x) words)) a;rw[<-z];exact q a j
 ·have z:nameB v=false:=by
   show (lA 1 v && !inV v words)=false;cases d:lA 1 v with
   |false=>rfl
   |true=>obtain⟨x,rfl,G,i,g⟩:=yD d;refine absurd ?_ c;show (decide (0<=x.length) && (decide (x.length<=8) && allIn x))=true;rw[v7 i,g,v7 (bAK _)];rfl
  rw[<-z];exact q a j
def aLq (T:Txt w K mg)(l:Ok P w K mg base 1 "is_whole" m5 (pC K))(i:Ok P w K mg base 1 "is_word" m5 (qN K (lA 0))) :
  Ok P w K mg base 2 "is_value" m5 (qN K aJs):=by
 refine Ok.ofV T.aM9 aLv (by trivial) (λf d A a s H k Q E j h=>?_)
 obtain⟨v,rfl,b,q⟩:=h;refine⟨_,(aB (aJ (aZe (bU l (va1 (vv 0))) (jX (bU i (va1 (vv 0))))))),?_⟩;refine⟨_,rfl,_,rfl,b,_,rfl,?_⟩;cases c:whole v with
 |true=>
  refine bQ ?_;have z:aJs v=true:=by show (whole v || lA 0 v)=true;rw[c];rfl
  rw[<-z];exact q H (Same.refl H)
 |false=>
  refine aZ ⟨_,rfl,_,rfl,b,λe g=>?_⟩;have z:aJs v=lA 0 v:=by show (whole v || lA 0 v)=lA 0 v;rw[c];rfl
  rw[<-z];exact q e g
def at0 (x:V)(r:List V):atI (x::r) 0=some x:=by unfold atI ixN;simp
def at1 (x y:V)(r:List V):atI (x::y::r) 1=some y:=by unfold atI ixN;simp only[d9];rw[if_pos (by lia),if_pos (by lia)];rfl
def gP (R:Hp->V->Bool->Prop):Sp:=λvs H Q _=>∃v b,vs=[v]/\R H v b/\∀H',Same H H'->Q (.bl b) H'
def aAv (K:bFC):Sp:=λvs H Q _=>∃v a xs,vs=[v,.ref a]/\Th K H v/\SqT K H a xs/\xs.all kJ=true/\Q (.bl (isS v && inV v xs)) H
def aHq (T:Txt w K mg):Ok P w K mg base 1 "is_one_of" bQD (aAv K):=by
 refine Ok.ofV T.aJr aGp (by trivial) (λf e A c s H n Q E m h=>?_)
 obtain⟨v,a,g,rfl,d,j,l,q⟩:=h;refine⟨_,(aB (aJ (iJ (aR (gA.or fH) (by rfl) T.bJ bC (aG (vv 0) (va1 (dW (v:=.ty "str") (by rfl) T.qU kI rfl)))) (jX (tH tU (vv 0) (vv 1) (by with_unfolding_all rfl)))))),?_⟩;refine⟨_,rfl,gK d (.inr (.inr rfl)) ⟨_,rfl,?_⟩⟩;rcases id d with⟨x,rfl,_⟩|⟨i,rfl⟩|⟨b,rfl⟩|⟨k,h⟩
 ·exact bQ ⟨_,rfl,_,rfl,a,g,rfl,.inr j,rfl,l,q⟩
 ·exact aZ q
 ·exact aZ q
 ·cases h <;> exact aZ q
def Vl.th (h:Vl v):Th K H v:=by
 rcases h with⟨i,rfl,_⟩|⟨x,rfl,_,h⟩
 ·exact .inr (.inl ⟨i,rfl⟩)
 ·exact .inl ⟨x,rfl,by lia⟩
def at2 (x y z:V)(r:List V):atI (x::y::z::r) 2=some z:=by unfold atI ixN;simp only[d9];rw[if_pos (by lia),if_pos (by lia)];rfl
def bBf (h:x.length<=8):Th K H (.str x):=.inl ⟨x,rfl,by lia⟩
def Nm (x:Str):Prop:=nameB (.str x)=true
def fJ (h:nameB (.str x)=true):x.length<=8:=by have h:(lA 1 (.str x) && !inV (.str x) words)=true:=h;rw[bAI] at h;obtain⟨y,e,_,a,_⟩:=yD h.1;cases e;exact a
def Nm.th (h:Nm x):Th K H (.str x):=bBf (fJ h)
abbrev signs:List V:=[.str "=",.str "<",.str ">",.str "!"]
abbrev jR:List V:=[.str "count",.str "sum",.str "least",.str "most"]
abbrev aCr:List V:=[.str "up",.str "down"]
inductive Oth where
 |val (x:V)
 |col (d:Str)
structure Tst where
 c:Str
 sg:Str
 o:Oth
structure Sm where
 wd:Str
 c:Option Str
 new:Str
def IsO (K:bFC)(H:Hp)(v:V):Oth->Prop
 |.val x=>∃a,v=.ref a/\SqT K H a [.str "value",x]/\Th K H x/\Vl x
 |.col d=>∃a,v=.ref a/\SqT K H a [.str "column",.str d]/\Nm d
def aZ8 (x:Str):Prop:=x = "="\/x = "<"\/x = ">"\/x = "!"
def IsT (K:bFC)(H:Hp)(v:V)(t:Tst):Prop:=∃a w,v=.ref a/\SqT K H a [.str t.c,.str t.sg,w]/\Nm t.c/\aZ8 t.sg/\IsO K H w t.o
def oY (K:bFC)(H:Hp)(v:V)(p:Str × Str):Prop:=∃a,v=.ref a/\SqT K H a [.str p.1,.str p.2]/\Nm p.1/\Nm p.2
def nZ (K:bFC)(H:Hp)(v:V)(p:Str × Str):Prop:=∃a,v=.ref a/\SqT K H a [.str p.1,.str p.2]/\Nm p.1/\(p.2 = "up"\/p.2 = "down")
def bCz (x:Str):Prop:=x = "sum"\/x = "least"\/x = "most"
def lE (K:bFC)(H:Hp)(v:V)(s:Sm):Prop:=∃a,v=.ref a/\Nm s.new/\((s.wd = "count"/\s.c=none/\SqT K H a [.str "count",.non,.str s.new])\/(∃c,s.c=some c/\Nm c/\bCz s.wd/\SqT K H a [.str s.wd,.str c,.str s.new]))
def IsN (v:V)(x:Str):Prop:=v=.str x/\Nm x
inductive bY {α β:Type}(R:α->β->Prop):List α->List β->Prop
 |nil:bY R [] []
 |cons {a b as bs}:R a b->bY R as bs->bY R (a::as) (b::bs)
def bY.len {α β:Type}{R:α->β->Prop}{as:List α}{bs:List β}(h:bY R as bs):as.length=bs.length:=by
 induction h with
 |nil=>rfl
 |cons _ _ ih=>rw[d9,d9,ih]
def bY.imp {α β:Type}{R S:α->β->Prop}{as:List α}{bs:List β}(h:bY R as bs)(k:∀a b,R a b->S a b):bY S as bs:=by
 induction h with
 |nil=>exact .nil
 |cons r _ ih=>exact .cons (k _ _ r) ih
def bY.mem {α β:Type}{R:α->β->Prop}{as:List α}{bs:List β}(h:bY R as bs){a:α}(m:a∈as):∃b,b∈bs/\R a b:=by
 induction h with
 |nil=>cases m
 |cons r _ ih=>
  rcases List.mem_cons.mp m with rfl|m
  ·exact⟨_,j5 ..,r⟩
  ·obtain⟨b,c,q⟩:=ih m;exact⟨b,j7 _ c,q⟩
def bY.app {α β:Type}{R:α->β->Prop}{as cs:List α}{bs ds:List β}(h:bY R as bs)(k:bY R cs ds):bY R (as++cs) (bs++ds):=by
 induction h with
 |nil=>exact k
 |cons r _ ih=>exact .cons r ih
def aCo {α:Type}(K:bFC)(H:Hp)(R:V->α->Prop)(v:V)(xs:List α):Prop:=∃a vs,v=.ref a/\SqT K H a vs/\bY R vs xs
def aCo.same {α:Type}{K:bFC}{H H':Hp}{R S:V->α->Prop}{v:V}{xs:List α}(e:Same H H')(k:∀a b,R a b->S a b)(h:aCo K H R v xs):aCo K H' S v xs:=by obtain⟨a,c,rfl,f,d⟩:=h;exact⟨a,c,rfl,e.aQ f,d.imp k⟩
def IsO.same (e:Same H H')(h:IsO K H v o):IsO K H' v o:=by
 cases o with
 |val x=>obtain⟨a,rfl,b,g,f⟩:=h;exact⟨a,rfl,e.aQ b,g.same e,f⟩
 |col d=>obtain⟨a,rfl,b,c⟩:=h;exact⟨a,rfl,e.aQ b,c⟩
def IsT.same (e:Same H H')(h:IsT K H v t):IsT K H' v t:=by obtain⟨a,w,rfl,d,f,c,b⟩:=h;exact⟨a,w,rfl,e.aQ d,f,c,b.same e⟩
def oY.same (e:Same H H')(h:oY K H v t):oY K H' v t:=by obtain⟨a,rfl,c,b⟩:=h;exact⟨a,rfl,e.aQ c,b⟩
def nZ.same (e:Same H H')(h:nZ K H v t):nZ K H' v t:=by obtain⟨a,rfl,c,b⟩:=h;exact⟨a,rfl,e.aQ c,b⟩
def lE.same (e:Same H H')(h:lE K H v t):lE K H' v t:=by
 obtain⟨a,rfl,b,d⟩:=h;refine⟨a,rfl,b,?_⟩;rcases d with⟨x,y,z⟩|⟨c,x,y,z,u⟩
 ·exact .inl ⟨x,y,e.aQ z⟩
 ·exact .inr ⟨c,x,y,z,e.aQ u⟩
def xA (_:bFC)(_:Hp)(v:V)(x:Str):Prop:=IsN v x
def lD {α:Type}(S:bFC->Hp->V->α->Prop)(lo hi:Nat):bFC->Hp->V->List α->Prop:=λK H v xs=>aCo K H (S K H) v xs/\lo<=xs.length/\xs.length<=hi
def aY5 (h:aZ8 x):(isS (.str x) && inV (.str x) signs)=true/\x.length<=8:=by rcases h with rfl|rfl|rfl|rfl <;> exact⟨by trivial,by trivial⟩
def vZ (T:Txt w K mg):Ok P w K mg base 1 "may_be_question" m5 (λvs H Q _=>∃v,vs=[v]/\Q (.bl true) H):=by
 refine Ok.ofV T.xD vM (by trivial) (λf b A a s H vs Q E c h=>?_)
 obtain⟨v,rfl,q⟩:=h;exact⟨_,(aB (aJ iW)),q⟩
def isTup:Tg->Bool
 |.tup _=>true
 |_=>false
def aD3 (h:bH K H v t):Tk K H v (isTup t):=by
 cases h with
 |non=>exact .non
 |int=>exact .int
 |bl=>exact .bl
 |str _=>exact .str
 |tup g _ _=>exact .tup g
 |lst g _ _ _=>exact .lst (SqL.of g)
 |dct g=>exact .dct g
def nO (h:bH K H v t):Th K H v:=by
 cases h with
 |non=>exact .inr (.inr (.inr ⟨_,.non⟩))
 |int=>exact .inr (.inl ⟨_,rfl⟩)
 |bl=>exact .inr (.inr (.inl ⟨_,rfl⟩))
 |str h=>exact .inl ⟨_,rfl,h⟩
 |tup g _ _=>exact .inr (.inr (.inr ⟨_,.tup g⟩))
 |lst g _ _ _=>exact .inr (.inr (.inr ⟨_,.lst (SqL.of g)⟩))
 |dct g=>exact .inr (.inr (.inr ⟨_,.dct g⟩))
def flat:Tg->V
 |.int i=>.int i
 |.bl b=>.bl b
 |.str x=>.str x
 |_=>.non
def bI (t:Tg):Bool:=nameB (flat t)
def aZy (t:Tg):Bool:=aJs (flat t)
def jT (t:Tg)(xs:List V):Bool:=isS (flat t) && inV (flat t) xs
def tM (h:bH K H v t):nameB v=bI t:=by cases h <;> rfl
def bA0 (h:bH K H v t):aJs v=aZy t:=by cases h <;> rfl
def aAk (h:bH K H v t):(isS v && inV v xs)=jT t xs:=by cases h <;> rfl
def TgR (K:bFC)(f:Tg->Bool):Hp->V->Bool->Prop:=λH v b=>∃t,bH K H v t/\b=f t
def pN:Tg->Bool
 |.tup [a,b]=>if jT a [.str "value"] then aZy b else (jT a [.str "column"] && bI b)
 |_=>false
def bEp (h:dB K H vs ts)(l:vs.length=2):∃v u a b,vs=[v,u]/\ts=[a,b]/\bH K H v a/\bH K H u b:=by
 match vs,h,l with
 |[v,u],.cons h1 (.cons h2 .nil),_=>exact⟨v,u,_,_,rfl,rfl,h1,h2⟩
def aQi (h:isTup t=false):pN t=false:=by
 cases t with
 |tup ts=>cases h
 |_=>rfl
def aMi (h:ts.length≠2):pN (.tup ts)=false:=by
 match ts,h with
 |[],_=>rfl
 |[_],_=>rfl
 |[_,_],h=>exact absurd rfl h
 |_::_::_::_,_=>rfl
def aH9 (T:Txt w K mg)(C:Ok P w K mg base 1 "is_one_of" bQD (aAv K))(J:Ok P w K mg base 2 "is_value" m5 (qN K aJs))(M:Ok P w K mg base 2 "is_name" m5 (qN K nameB)) :
  Ok P w K mg base 3 "is_other" m5 (gP (TgR K pN)):=by
 refine Ok.ofV T.aMe aLi (by trivial) (λf F A k s H n Q E S h=>?_)
 obtain⟨v,b,rfl,⟨t,r,rfl⟩,q⟩:=h;refine⟨_,(aA (bN (VW.pt (nH (eO (cP (aR iT (by rfl) T.bJ bC (aG (vv 0) (va1 (dW (v:=.ty "tuple") (by rfl) T.cO cB rfl)))))) (jY (cT nJ (aR bB (by rfl) T.eN cR (va1 (vv 0))) aC)))) (aB (aJ iW)) aU) (aA (bN (cP (bU C (aG (bO bD (vv 0) aC) (va1 (aK (va1 aF)))))) (aB (aJ (bU J (va1 (bO bD (vv 0) aC))))) aU) (aB (aJ (iJ (bU C (aG (bO bD (vv 0) aC) (va1 (aK (va1 aF))))) (jX (bU M (va1 (bO bD (vv 0) aC))))))))),?_⟩;refine⟨_,rfl,_,_,rfl,aD3 r,_,rfl,?_⟩;cases e:isTup t with
 |false=>rw[aQi e] at q;exact bQ (q H (Same.refl H))
 |true=>
  cases r with
  |tup ha hl hts=>
   rename_i a n R;refine aZ ⟨_,rfl,_,_,rfl,.inr ha,rfl,_,rfl,?_⟩;have N:=hts.len;by_cases I:n.length=2
   ·obtain⟨v,u,g,m,rfl,rfl,j,i⟩:=bEp hts I;refine aZ ?_;refine⟨_,rfl,a,_,0,_,rfl,rfl,ha,at0 _ _,(by decide),λx O _ c L=>⟨_,x,_,rfl,nO (j.same c),SqT.of L,rfl,_,rfl,?_⟩⟩;rw[aAk j];rw[show pN (.tup [g,m])=if jT g [.str "value"] then aZy m else (jT g [.str "column"] && bI m) from rfl] at q;cases p:jT g [.str "value"] with
    |true=>rw[p,if_pos rfl] at q;refine bQ ⟨_,rfl,a,_,1,_,rfl,rfl,c.aQ ha,at1 _ _ _,u,rfl,nO (i.same c),λl d=>?_⟩;rw[bA0 i];exact q l (c.trans d)
    |false=>
     rw[p,if_neg (by decide)] at q;refine aZ ⟨_,rfl,a,_,0,_,rfl,rfl,c.aQ ha,at0 _ _,(by decide),λy l _ d B=>⟨_,y,_,rfl,nO (j.same (c.trans d)),SqT.of B,rfl,_,rfl,?_⟩⟩;rw[aAk j];cases o:jT g [.str "column"] with
     |true=>rw[o,bBU] at q;refine bQ ⟨_,rfl,a,_,1,_,rfl,rfl,d.aQ (c.aQ ha),at1 _ _ _,u,rfl,nO (i.same (c.trans d)),λG D=>?_⟩;rw[tM i];exact q G (c.trans (d.trans D))
     |false=>rw[o,bBS] at q;exact aZ (q l (c.trans d))
   ·rw[aMi (by lia)] at q;rw[j6 (by intro z;injection z with z;lia)];exact bQ (q H (Same.refl H))
  |_=>cases e
def mR:Tg->Bool
 |.tup [a,b,c]=>bI a && (jT b signs && pN c)
 |_=>false
def bEa (h:dB K H vs ts)(l:vs.length=3):∃v u x a b c,vs=[v,u,x]/\ts=[a,b,c]/\bH K H v a/\bH K H u b/\bH K H x c:=by
 match vs,h,l with
 |[v,u,x],.cons h1 (.cons h2 (.cons h3 .nil)),_=>exact⟨v,u,x,_,_,_,rfl,rfl,h1,h2,h3⟩
def aTc (h:isTup t=false):mR t=false:=by
 cases t with
 |tup ts=>cases h
 |_=>rfl
def aP8 (h:ts.length≠3):mR (.tup ts)=false:=by
 match ts,h with
 |[],_=>rfl
 |[_],_=>rfl
 |[_,_],_=>rfl
 |[_,_,_],h=>exact absurd rfl h
 |_::_::_::_::_,_=>rfl
def aJm (T:Txt w K mg)(R:Ok P w K mg base 1 "is_one_of" bQD (aAv K))(N:Ok P w K mg base 2 "is_name" m5 (qN K nameB))(F:Ok P w K mg base 3 "is_other" m5 (gP (TgR K pN))) :
  Ok P w K mg base 4 "is_test" m5 (gP (TgR K mR)):=by
 refine Ok.ofV T.aRi aOi (by trivial) (λf G A i s H m Q E U h=>?_)
 obtain⟨v,b,rfl,⟨t,y,rfl⟩,q⟩:=h;obtain⟨r,I,g⟩:=T.aI6;have d:∃u,mg "SIGNS"=some u/\RelV (.ref r) u:=⟨_,I,rfl⟩;refine⟨_,(aA (bN (VW.pt (nH (eO (cP (aR iT (by rfl) T.bJ bC (aG (vv 0) (va1 (dW (v:=.ty "tuple") (by rfl) T.cO cB rfl)))))) (jY (cT nJ (aR bB (by rfl) T.eN cR (va1 (vv 0))) aC)))) (aB (aJ iW)) aU) (aB (aJ (iJ (bU N (va1 (bO bD (vv 0) aC))) (iJ (bU R (aG (bO bD (vv 0) aC) (va1 (dY (by rfl) d)))) (jX (bU F (va1 (bO bD (vv 0) aC))))))))),?_⟩;refine⟨_,rfl,_,_,rfl,aD3 y,_,rfl,?_⟩;cases e:isTup t with
 |false=>rw[aTc e] at q;exact bQ (q H (Same.refl H))
 |true=>
  cases y with
  |tup ha hl hts=>
   rename_i a m S;refine aZ ⟨_,rfl,_,_,rfl,.inr ha,rfl,_,rfl,?_⟩;have O:=hts.len;by_cases J:m.length=3
   ·obtain⟨v,u,x,j,l,k,rfl,rfl,C,B,M⟩:=bEa hts J;refine aZ ?_;rw[show mR (.tup [j,l,k])=(bI j && (jT l signs && pN k)) from rfl] at q;refine⟨_,rfl,a,_,0,_,rfl,rfl,ha,at0 _ _,v,rfl,nO C,λp c=>⟨_,rfl,?_⟩⟩;rw[tM C];cases o:bI j with
    |false=>rw[o,bBS] at q;exact aZ (q p c)
    |true=>
     rw[o,bBU] at q;refine bQ ⟨_,rfl,a,_,1,_,rfl,rfl,c.aQ ha,at1 _ _ _,u,r,signs,rfl,nO (B.same c),g _,rfl,_,rfl,?_⟩;rw[aAk B];cases n:jT l signs with
     |false=>rw[n,bBS] at q;exact aZ (q p c)
     |true=>rw[n,bBU] at q;exact bQ ⟨_,rfl,a,_,2,_,rfl,rfl,c.aQ ha,at2 _ _ _ _,x,_,rfl,⟨k,M.same c,rfl⟩,λL D=>q L (c.trans D)⟩
   ·rw[aP8 (by lia)] at q;rw[j6 (by intro z;injection z with z;lia)];exact bQ (q H (Same.refl H))
  |_=>cases e
def xH:Tg->Bool
 |.tup [a,b]=>bI a && jT b aCr
 |_=>false
def aWq (h:isTup t=false):xH t=false:=by
 cases t with
 |tup ts=>cases h
 |_=>rfl
def aSu (h:ts.length≠2):xH (.tup ts)=false:=by
 match ts,h with
 |[],_=>rfl
 |[_],_=>rfl
 |[_,_],h=>exact absurd rfl h
 |_::_::_::_,_=>rfl
def aOj (T:Txt w K mg)(G:Ok P w K mg base 1 "is_one_of" bQD (aAv K))(D:Ok P w K mg base 2 "is_name" m5 (qN K nameB)):Ok P w K mg base 3 "is_key" m5 (gP (TgR K xH)):=by
 refine Ok.ofV T.aVw aQb (by trivial) (λf y A g s H k Q E J h=>?_)
 obtain⟨v,b,rfl,⟨t,p,rfl⟩,q⟩:=h;obtain⟨o,B,d⟩:=T.aOb;have j:∃u,mg "WAYS"=some u/\RelV (.ref o) u:=⟨_,B,rfl⟩;refine⟨_,(aA (bN (VW.pt (nH (eO (cP (aR iT (by rfl) T.bJ bC (aG (vv 0) (va1 (dW (v:=.ty "tuple") (by rfl) T.cO cB rfl)))))) (jY (cT nJ (aR bB (by rfl) T.eN cR (va1 (vv 0))) aC)))) (aB (aJ iW)) aU) (aB (aJ (iJ (bU D (va1 (bO bD (vv 0) aC))) (jX (bU G (aG (bO bD (vv 0) aC) (va1 (dY (by rfl) j))))))))),?_⟩;refine⟨_,rfl,_,_,rfl,aD3 p,_,rfl,?_⟩;cases e:isTup t with
 |false=>rw[aWq e] at q;exact bQ (q H (Same.refl H))
 |true=>
  cases p with
  |tup ha hl hts=>
   rename_i a k I;refine aZ ⟨_,rfl,_,_,rfl,.inr ha,rfl,_,rfl,?_⟩;have F:=hts.len;by_cases C:k.length=2
   ·obtain⟨v,u,i,l,rfl,rfl,x,r⟩:=bEp hts C;refine aZ ?_;rw[show xH (.tup [i,l])=(bI i && jT l aCr) from rfl] at q;refine⟨_,rfl,a,_,0,_,rfl,rfl,ha,at0 _ _,v,rfl,nO x,λm c=>⟨_,rfl,?_⟩⟩;rw[tM x];cases n:bI i with
    |false=>rw[n,bBS] at q;exact aZ (q m c)
    |true=>rw[n,bBU] at q;refine bQ ⟨_,rfl,a,_,1,_,rfl,rfl,c.aQ ha,at1 _ _ _,u,o,aCr,rfl,nO (r.same c),d _,rfl,?_⟩;rw[aAk r];exact q m c
   ·rw[aSu (by lia)] at q;rw[j6 (by intro z;injection z with z;lia)];exact bQ (q H (Same.refl H))
  |_=>cases e
def aDs:Tg->Bool
 |.int i=>decide (0<=i) && decide (i<=60)
 |_=>false
def aVq (h:bH K H v t):whole v=whole (flat t):=by cases h <;> rfl
def aLb (T:Txt w K mg)(k:Ok P w K mg base 1 "is_whole" m5 (pC K)):Ok P w K mg base 2 "is_many" m5 (gP (TgR K aDs)):=by
 refine Ok.ofV T.aRx aOf (by trivial) (λf e A a s H j Q E g h=>?_)
 obtain⟨v,b,rfl,⟨t,c,rfl⟩,q⟩:=h;refine⟨_,(aB (aJ (iJ (bU k (va1 (vv 0))) (jX (aU4 aGh aGh aC (vv 0) (dY (by rfl) T.aKa)))))),?_⟩;refine⟨_,rfl,_,rfl,nO c,_,rfl,?_⟩;rw[aVq c];cases c with
 |int=>
  rename_i i;refine bQ ⟨_,rfl,_,_,rfl,rfl,_,rfl,?_⟩;rw[show aDs (.int i)=(decide (0<=i) && decide (i<=60)) from rfl] at q;cases d:decide ((0:Int)<=i) with
  |false=>rw[d,bBS] at q;exact aZ (q H (Same.refl H))
  |true=>rw[d,bBU] at q;exact bQ ⟨_,_,rfl,rfl,q H (Same.refl H)⟩
 |_=>exact aZ (q H (Same.refl H))
def cW (f:Tg->Bool)(lo hi:Nat):Tg->Bool
 |.tup ts=>decide (lo<=ts.length) && (decide (ts.length<=hi) && ts.all f)
 |_=>false
def aYb {f:Tg->Bool}{lo hi:Nat}{t:Tg}(h:isTup t=false):cW f lo hi t=false:=by
 cases t with
 |tup ts=>cases h
 |_=>rfl
inductive mZ (P:Program)(w:World)(K:bFC)(mg:bFF)(base:Heap)(k:Nat)(vs:List V)(H:Hp)(Q:VK)(E_:XK):Prop
 |mk (v:V) (lo hi:Nat) (g:Addr) (ps:List Str) (f:Tg->Bool) (t:Tg) (_:vs=[v,.int (lo:Nat),.int (hi:Nat),.ref g]) (_:hi<=1000) (_:Held P w K mg base k g ps (gP (TgR K f))) (_:bH K H v t) (_:∀H',Same H H'->Q (.bl (cW f lo hi t)) H')
def dN (T:Txt w K mg):Ok P w K mg base (k+1) "is_tuple_of" n7 (mZ P w K mg base k):=by
 refine Ok.ofV T.aEx aC8 (by trivial) (λf M A n s H c Q E S h=>?_)
 obtain⟨v,d,j,g,J,f,t,rfl,p,L,G,q⟩:=h;refine⟨_,(aA (bN (VW.pt (nH (eO (cP (aR iT (by rfl) T.bJ bC (aG (vv 0) (va1 (dW (v:=.ty "tuple") (by rfl) T.cO cB rfl)))))) (jY (eO (aJ2 aGh aGh (vv 1) (aR bB (by rfl) T.eN cR (va1 (vv 0))) (vv 2)))))) (aB (aJ iW)) aU) (aB (aJ (aR (pH rfl) (by rfl) T.aGj aAb (va1 (cZ (N:=["part","is_part"]) ck (jJ (aD nY)) rfl (fX (vv 0)) (λcl Y u Z=>⟨(fZ 0),eZ,(rO (P:=P) (w:=w) (K:=K) (mg:=mg) (base:=base) S (vv 1) (va1 (vv 0)))⟩))))))),?_⟩;refine⟨_,rfl,_,_,rfl,aD3 G,_,rfl,?_⟩;cases e:isTup t with
 |false=>rw[aYb e] at q;exact bQ (q H (Same.refl H))
 |true=>
  cases G with
  |tup ha hl hts=>
   rename_i a c b;have I:=hts.len;rw[show cW f d j (.tup b)=(decide (d<=b.length) && (decide (b.length<=j) && b.all f)) from rfl] at q;refine aZ ⟨_,rfl,_,rfl,_,_,rfl,.inr ha,_,_,rfl,rfl,_,rfl,?_⟩;by_cases C:d<=b.length
   ·rw[v7 C,bBU] at q;have o:decide ((d:Int)<=(c.length:Int))=true:=v7 (by lia);rw[o];refine bQ ⟨_,rfl,_,_,rfl,rfl,_,rfl,?_⟩;by_cases B:b.length<=j
    ·rw[v7 B,bBU] at q;have m:decide ((c.length:Int)<=(j:Int))=true:=v7 (by lia);rw[m];refine aZ ?_;dsimp only[mO,vX,tCB,dO];refine nG c (b.map λt=>.bl (f t)) (by rw[d7,I]) [none,some (.ref g)] ?_ (small (by lia)) (λR r=>vV ha (λR' O=>⟨_,rfl,O⟩) R r) (λi x y V F u R l z r=>?_) rfl λD u z U=>?_
     ·exact tG 3 (by trivial) rfl rfl (by trivial)
     ·obtain⟨t,X,W⟩:=hts.at V;rw[bAC,X] at F;cases F;exact⟨_,rfl,g,J,_,rfl,L,_,rfl,x,f t,rfl,⟨t,W.same z,rfl⟩,r⟩
     ·refine⟨D,b.map f,rfl,SqL.of (by rw[U,bAP];rfl),?_⟩;rw[List.all_map];exact q u z
    ·rw[j6 B,bBS] at q;have m:decide ((c.length:Int)<=(j:Int))=false:=j6 (by lia);rw[m];exact bQ (q H (Same.refl H))
   ·rw[j6 C,bBS] at q;have o:decide ((d:Int)<=(c.length:Int))=false:=j6 (by lia);rw[o];exact aZ ⟨_,rfl,bQ (q H (Same.refl H))⟩
  |_=>cases e
def aSq (G:Ok P w K mg base k x ps sp)(h:∀vs H Q E,sp' vs H Q E->sp vs H Q E):Ok P w K mg base k x ps sp':=
 let ⟨f,fd,h1,h2,h3,h4⟩:=G;⟨f,fd,h1,h2,h3,h4.imp h⟩
def bB4 (G:Ok P w K mg base 2 "is_name" m5 (qN K nameB)):Ok P w K mg base 2 "is_name" m5 (gP (TgR K bI)):=aSq G λd H Q E ⟨v,b,e,⟨t,h,a⟩,q⟩=>⟨v,e,nO h,λc s=>by rw[tM h,<-a];exact q c s⟩
def aLj (T:Txt w K mg)(n:Ok P w K mg base 2 "is_name" m5 (gP (TgR K bI)))(p:Ok P w K mg base 3 "is_tuple_of" n7 (mZ P w K mg base 2)):Ok P w K mg base 4 "is_pair" m5 (gP (TgR K (cW bI 2 2))):=by
 refine Ok.ofV T.aQq aNn (by trivial) (λf e A c s H o Q E m h=>?_)
 obtain⟨v,b,rfl,⟨t,k,rfl⟩,q⟩:=h;obtain⟨d,l,i⟩:=n.held;have a:∃u,mg "is_name"=some u/\RelV (.ref d) u:=⟨_,l,rfl⟩;refine⟨_,(aB (aJ (bU p (aG (vv 0) (aG aC (aG aC (va1 (dY (by rfl) a)))))))),?_⟩;exact⟨_,rfl,v,2,2,d,_,bI,t,rfl,by decide,i,k,λg j=>q g j⟩
def aE9 (T:Txt w K mg)(j:Ok P w K mg base 4 "is_test" m5 (gP (TgR K mR)))(p:Ok P w K mg base 5 "is_tuple_of" n7 (mZ P w K mg base 4)):Ok P w K mg base 6 "are_tests" m5 (gP (TgR K (cW mR 1 3))):=by
 refine Ok.ofV T.aJi aI3 (by trivial) (λf e A c s H o Q E n h=>?_)
 obtain⟨v,b,rfl,⟨t,l,rfl⟩,q⟩:=h;obtain⟨d,m,i⟩:=j.held;have a:∃u,mg "is_test"=some u/\RelV (.ref d) u:=⟨_,m,rfl⟩;refine⟨_,(aB (aJ (bU p (aG (vv 0) (aG aC (aG (dY (by rfl) T.aHz) (va1 (dY (by rfl) a)))))))),?_⟩;exact⟨_,rfl,v,1,3,d,_,mR,t,rfl,by decide,i,l,λg k=>q g k⟩
def aFd (T:Txt w K mg)(n:Ok P w K mg base 2 "is_name" m5 (gP (TgR K bI)))(p:Ok P w K mg base 3 "is_tuple_of" n7 (mZ P w K mg base 2)):Ok P w K mg base 4 "are_names" m5 (gP (TgR K (cW bI 1 8))):=by
 refine Ok.ofV T.aLp aIu (by trivial) (λf e A c s H o Q E m h=>?_)
 obtain⟨v,b,rfl,⟨t,k,rfl⟩,q⟩:=h;obtain⟨d,l,i⟩:=n.held;have a:∃u,mg "is_name"=some u/\RelV (.ref d) u:=⟨_,l,rfl⟩;refine⟨_,(aB (aJ (bU p (aG (vv 0) (aG aC (aG (dY (by rfl) T.zV) (va1 (dY (by rfl) a)))))))),?_⟩;exact⟨_,rfl,v,1,8,d,_,bI,t,rfl,by decide,i,k,λg j=>q g j⟩
def tZ (T:Txt w K mg)(n:Ok P w K mg base 2 "is_name" m5 (gP (TgR K bI)))(p:Ok P w K mg base 3 "is_tuple_of" n7 (mZ P w K mg base 2)):Ok P w K mg base 4 "are_group_names" m5 (gP (TgR K (cW bI 0 8))):=by
 refine Ok.ofV T.xP vQ (by trivial) (λf e A c s H o Q E m h=>?_)
 obtain⟨v,b,rfl,⟨t,k,rfl⟩,q⟩:=h;obtain⟨d,l,i⟩:=n.held;have a:∃u,mg "is_name"=some u/\RelV (.ref d) u:=⟨_,l,rfl⟩;refine⟨_,(aB (aJ (bU p (aG (vv 0) (aG aC (aG (dY (by rfl) T.zV) (va1 (dY (by rfl) a)))))))),?_⟩;exact⟨_,rfl,v,0,8,d,_,bI,t,rfl,by decide,i,k,λg j=>q g j⟩
def aEo (T:Txt w K mg)(i:Ok P w K mg base 4 "is_pair" m5 (gP (TgR K (cW bI 2 2))))(p:Ok P w K mg base 5 "is_tuple_of" n7 (mZ P w K mg base 4)):Ok P w K mg base 6 "are_pairs" m5 (gP (TgR K (cW (cW bI 2 2) 1 3))):=by
 refine Ok.ofV T.aKj aIk (by trivial) (λf e A c s H o Q E n h=>?_)
 obtain⟨v,b,rfl,⟨t,l,rfl⟩,q⟩:=h;obtain⟨d,m,j⟩:=i.held;have a:∃u,mg "is_pair"=some u/\RelV (.ref d) u:=⟨_,m,rfl⟩;refine⟨_,(aB (aJ (bU p (aG (vv 0) (aG aC (aG (dY (by rfl) T.aG7) (va1 (dY (by rfl) a)))))))),?_⟩;exact⟨_,rfl,v,1,3,d,_,(cW bI 2 2),t,rfl,by decide,j,l,λg k=>q g k⟩
def aHo (T:Txt w K mg)(j:Ok P w K mg base 3 "is_key" m5 (gP (TgR K xH)))(p:Ok P w K mg base 4 "is_tuple_of" n7 (mZ P w K mg base 3)):Ok P w K mg base 5 "are_keys" m5 (gP (TgR K (cW xH 0 3))):=by
 refine Ok.ofV T.aMu aLg (by trivial) (λf e A c s H o Q E n h=>?_)
 obtain⟨v,b,rfl,⟨t,l,rfl⟩,q⟩:=h;obtain⟨d,m,i⟩:=j.held;have a:∃u,mg "is_key"=some u/\RelV (.ref d) u:=⟨_,m,rfl⟩;refine⟨_,(aB (aJ (bU p (aG (vv 0) (aG aC (aG (dY (by rfl) T.aL4) (va1 (dY (by rfl) a)))))))),?_⟩;exact⟨_,rfl,v,0,3,d,_,xH,t,rfl,by decide,i,l,λg k=>q g k⟩
def aK6:Tg->Bool
 |.non=>true
 |_=>false
def bAj (h:bH K H v t):decide (v=.non)=aK6 t:=by cases h <;> rfl
def aJt:Tg->Bool
 |.str x=>decide (V.str x=V.str "count")
 |_=>false
def zJ:Tg->Bool
 |.tup [a,b,c]=>jT a jR && (bI c && (if aJt a then aK6 b else bI b))
 |_=>false
def aXs (h:isTup t=false):zJ t=false:=by
 cases t with
 |tup ts=>cases h
 |_=>rfl
def aVm (h:ts.length≠3):zJ (.tup ts)=false:=by
 match ts,h with
 |[],_=>rfl
 |[_],_=>rfl
 |[_,_],_=>rfl
 |[_,_,_],h=>exact absurd rfl h
 |_::_::_::_::_,_=>rfl
def aP5 (h:bH K H v t)(o:jT t xs=true):∃x,v=.str x/\t=.str x:=by
 cases h with
 |str _=>exact⟨_,rfl,rfl⟩
 |_=>cases o
def aN0 (T:Txt w K mg)(S:Ok P w K mg base 1 "is_one_of" bQD (aAv K))(I:Ok P w K mg base 2 "is_name" m5 (qN K nameB)):Ok P w K mg base 3 "is_sum" m5 (gP (TgR K zJ)):=by
 refine Ok.ofV T.aSf aRh (by trivial) (λf L A i s H r Q E W h=>?_)
 obtain⟨v,b,rfl,⟨t,F,rfl⟩,q⟩:=h;obtain⟨C,M,g⟩:=T.sG;have G:∃u,mg "SUM_WORDS"=some u/\RelV (.ref C) u:=⟨_,M,rfl⟩;refine⟨_,(aA (bN (VW.pt (nH (eO (cP (aR iT (by rfl) T.bJ bC (aG (vv 0) (va1 (dW (v:=.ty "tuple") (by rfl) T.cO cB rfl)))))) (jY (cT nJ (aR bB (by rfl) T.eN cR (va1 (vv 0))) aC)))) (aB (aJ iW)) aU) (aA (bN (VW.pt (nH (eO (cP (bU S (aG (bO bD (vv 0) aC) (va1 (dY (by rfl) G)))))) (jY (eO (cP (bU I (va1 (bO bD (vv 0) aC)))))))) (aB (aJ iW)) aU) (aB (aJ (jO (cT cJ (bO bD (vv 0) aC) aF) (uC aIg (bO bD (vv 0) aC) gQ) (bU I (va1 (bO bD (vv 0) aC)))))))),?_⟩;refine⟨_,rfl,_,_,rfl,aD3 F,_,rfl,?_⟩;cases e:isTup t with
 |false=>rw[aXs e] at q;exact bQ (q H (Same.refl H))
 |true=>
  cases F with
  |tup ha hl hts=>
   rename_i a r U;refine aZ ⟨_,rfl,_,_,rfl,.inr ha,rfl,_,rfl,?_⟩;have R:=hts.len;by_cases N:r.length=3
   ·obtain⟨v,u,x,d,n,l,rfl,rfl,o,m,D⟩:=bEa hts N;refine aZ ?_;rw[show zJ (.tup [d,n,l])=(jT d jR && (bI l && (if aJt d then aK6 n else bI n))) from rfl] at q;refine⟨_,rfl,a,_,0,_,rfl,rfl,ha,at0 _ _,v,C,jR,rfl,nO o,g _,rfl,_,rfl,?_⟩;rw[aAk o];cases k:jT d jR with
    |false=>rw[k,bBS] at q;exact bQ (q H (Same.refl H))
    |true=>
     rw[k,bBU] at q;obtain⟨j,rfl,rfl⟩:=aP5 o k;refine aZ ⟨_,rfl,a,_,2,_,rfl,rfl,ha,at2 _ _ _ _,x,rfl,nO D,λB c=>⟨_,rfl,?_⟩⟩;rw[tM D];cases y:bI l with
     |false=>rw[y,bBS] at q;exact bQ (q B c)
     |true=>
      rw[y,bBU] at q;refine aZ ⟨_,rfl,a,_,0,_,rfl,rfl,c.aQ ha,at0 _ _,rfl,_,rfl,?_⟩;cases p:decide (V.str j=V.str "count") with
      |true=>rw[show aJt (.str j)=true from p,if_pos rfl] at q;refine bQ ⟨_,rfl,a,_,1,_,rfl,rfl,c.aQ ha,at1 _ _ _,rfl,?_⟩;rw[bAj m];exact q B c
      |false=>rw[show aJt (.str j)=false from p,if_neg (by decide)] at q;refine aZ ⟨_,rfl,a,_,1,_,rfl,rfl,c.aQ ha,at1 _ _ _,u,rfl,nO (m.same c),λO J=>?_⟩;rw[tM m];exact q O (c.trans J)
   ·rw[aVm (by lia)] at q;rw[j6 (by intro z;injection z with z;lia)];exact bQ (q H (Same.refl H))
  |_=>cases e
def aG3 (T:Txt w K mg)(i:Ok P w K mg base 3 "is_sum" m5 (gP (TgR K zJ)))(p:Ok P w K mg base 4 "is_tuple_of" n7 (mZ P w K mg base 3)):Ok P w K mg base 5 "are_sums" m5 (gP (TgR K (cW zJ 0 4))):=by
 refine Ok.ofV T.aMd aLw (by trivial) (λf e A c s H o Q E n h=>?_)
 obtain⟨v,b,rfl,⟨t,l,rfl⟩,q⟩:=h;obtain⟨d,m,j⟩:=i.held;have a:∃u,mg "is_sum"=some u/\RelV (.ref d) u:=⟨_,m,rfl⟩;refine⟨_,(aB (aJ (bU p (aG (vv 0) (aG aC (aG (dY (by rfl) T.aKu) (va1 (dY (by rfl) a)))))))),?_⟩;exact⟨_,rfl,v,0,4,d,_,zJ,t,rfl,by decide,j,l,λg k=>q g k⟩
def lV (_:Tg):Bool:=true
def aIn:List (Str × List (Tg->Bool)):=[("table",[bI]),("where",[lV,cW mR 1 3]),("keep",[lV,cW bI 1 8]),("named",[lV,cW bI 1 8]),("join",[lV,lV,cW (cW bI 2 2) 1 3]),("group",[lV,cW bI 0 8,cW zJ 0 4]),("first",[lV,cW xH 0 3,aDs])]
def eF (k:Str):Option (List (Tg->Bool)):=(aIn.find? λz=>decide (z.1=k)).map (·.2)
def jB:Tg->Bool
 |.tup (.str k::ts)=>match eF k with
  |some fs=>decide (ts.length=fs.length) && (List.zipWith (λf t=>f t) fs ts).all id
  |none=>false
 |_=>false
def zO {n:Str}{ss:List Str}:inV (.str n) (ss.map V.str)=decide (n∈ss):=by
 unfold inV;rw[List.any_map];rw[bCB,bDU,decide_eq_true_iff];constructor
 ·rintro⟨x,a,e⟩;have e:=e;rw[<-of_decide_eq_true e];exact a
 ·intro h;exact⟨n,h,v7 rfl⟩
def aVx (P:Program)(w:World)(K:bFC)(mg:bFF)(base:Heap)(u:V)(f:Tg->Bool):Prop:=∃fa ps sp,u=.ref fa/\Held P w K mg base 6 fa ps sp/\∀H v t,bH K H v t->∀Q:VK,(∀H2,Same H H2->Q (.bl (f t)) H2)->sp [v] H Q E0
def wW (G:Ok P w K mg base k x ps (gP (TgR K f)))(b:k<=6)(m:mg x=some (.ref fa)):aVx P w K mg base (.ref fa) f:=
 ⟨fa,_,_,rfl,(G.aT3 m).mono b,λH v t a Q q=>⟨v,f t,rfl,⟨t,a,rfl⟩,q⟩⟩
def aEi (G:Ok P w K mg base 1 "may_be_question" m5 (λvs H Q _=>∃v,vs=[v]/\Q (.bl true) H))(m:mg "may_be_question"=some (.ref fa)):aVx P w K mg base (.ref fa) lV:=
 ⟨fa,_,_,rfl,(G.aT3 m).mono (by decide),λH v t a Q q=>⟨v,rfl,q H (Same.refl H)⟩⟩
structure aNo (P:Program)(w:World)(K:bFC)(mg:bFF)(base:Heap):Prop where
 name:Ok P w K mg base 2 "is_name" m5 (gP (TgR K bI))
 any:Ok P w K mg base 1 "may_be_question" m5 (λvs H Q _=>∃v,vs=[v]/\Q (.bl true) H)
 tests:Ok P w K mg base 6 "are_tests" m5 (gP (TgR K (cW mR 1 3)))
 names:Ok P w K mg base 4 "are_names" m5 (gP (TgR K (cW bI 1 8)))
 gnames:Ok P w K mg base 4 "are_group_names" m5 (gP (TgR K (cW bI 0 8)))
 pairs:Ok P w K mg base 6 "are_pairs" m5 (gP (TgR K (cW (cW bI 2 2) 1 3)))
 sums:Ok P w K mg base 5 "are_sums" m5 (gP (TgR K (cW zJ 0 4)))
 keys:Ok P w K mg base 5 "are_keys" m5 (gP (TgR K (cW xH 0 3)))
 many:Ok P w K mg base 2 "is_many" m5 (gP (TgR K aDs))
abbrev forms:List Str:=["table","where","keep","named","join","group","first"]
def vK (h:eF k=some fs):k∈forms:=by
 unfold eF at h;cases e:aIn.find? λz=>decide (z.1=k) with
 |none=>rw[e] at h;cases h
 |some z=>have c:=List.find?_some e;have b:=List.mem_of_find?_eq_some e;have a:=of_decide_eq_true c;subst a;have:z.1∈aIn.map (·.1):=List.mem_map_of_mem b;exact this
def aYm (h:eF k=none):k∉forms:=by intro m;unfold eF at h;rw[Option.map_eq_none_iff,List.find?_eq_none] at h;have m:k∈aIn.map (·.1):=m;obtain⟨z,a,e⟩:=List.mem_map.mp m;exact h z a (v7 e)
def aTz (T:Txt w K mg)(F:aNo P w K mg base):∃d kvs,mg "FORMS"=some (.ref d)/\aVf w K d kvs/\kvs.length<=1000/\(kvs.map λq=>V.str q.1)=forms.map V.str /\
  ∀k fs,eF k=some fs->∃t us,(kvs.find? λz=>decide (z.1=k)).map (·.2)=some t/\(∀H,SqT K H t us)/\us.length<=8/\bY (aVx P w K mg base) us fs:=by
 obtain⟨d,t0,N,U,Z,E,y,I,O,A,⟨a3,Q,r⟩,⟨Y,G,h1,p,e⟩,⟨a0,B,h2,u,b⟩,⟨S,C,h3,g,s⟩,⟨D,a2,x,J,j,h,m⟩,⟨a1,X,R,L,c,l,f⟩,⟨a4,M,W,h6,n,i,o⟩⟩:=T.aB9;refine⟨d,_,O,A,(by show 7<=1000;decide),rfl,λk fs a=>?_⟩;have v:=vK a;simp only[forms,bAJ,bAE,or_false] at v;rcases v with rfl|rfl|rfl|rfl|rfl|rfl|rfl
 ·cases (show eF "table"=some [bI] from rfl) ▸ a;exact⟨t0,_,rfl,Q,(by show 1<=8;decide),.cons (wW F.name (by decide) r) .nil⟩
 ·cases (show eF "where"=some [lV,cW mR 1 3] from rfl) ▸ a;exact⟨N,_,rfl,h1,(by show 2<=8;decide),.cons (aEi F.any p) (.cons (wW F.tests (by decide) e) .nil)⟩
 ·cases (show eF "keep"=some [lV,cW bI 1 8] from rfl) ▸ a;exact⟨U,_,rfl,h2,(by show 2<=8;decide),.cons (aEi F.any u) (.cons (wW F.names (by decide) b) .nil)⟩
 ·cases (show eF "named"=some [lV,cW bI 1 8] from rfl) ▸ a;exact⟨Z,_,rfl,h3,(by show 2<=8;decide),.cons (aEi F.any g) (.cons (wW F.names (by decide) s) .nil)⟩
 ·cases (show eF "join"=some [lV,lV,cW (cW bI 2 2) 1 3] from rfl) ▸ a;exact⟨E,_,rfl,J,(by show 3<=8;decide),.cons (aEi F.any j) (.cons (aEi F.any h) (.cons (wW F.pairs (by decide) m) .nil))⟩
 ·cases (show eF "group"=some [lV,cW bI 0 8,cW zJ 0 4] from rfl) ▸ a;exact⟨y,_,rfl,L,(by show 3<=8;decide),.cons (aEi F.any c) (.cons (wW F.gnames (by decide) l) (.cons (wW F.sums (by decide) f) .nil))⟩
 ·cases (show eF "first"=some [lV,cW xH 0 3,aDs] from rfl) ▸ a;exact⟨I,_,rfl,h6,(by show 3<=8;decide),.cons (aEi F.any n) (.cons (wW F.keys (by decide) i) (.cons (wW F.many (by decide) o) .nil))⟩
theorem aJv {α β:Type}{R:α->β->Prop}:∀{as:List α} {bs:List β},bY R as bs->∀{i:Nat} {a:α} {b:β},as[i]?=some a->bs[i]?=some b->R a b
 |_,_,.cons r t,0,_,_,h1,h2=>by cases h1;cases h2;exact r
 |_,_,.cons r t,i+1,a,b,h1,h2=>aJv t (by simpa using h1) (by simpa using h2)
def bFq (x:V)(xs:List V):oM (x::xs) (some 1) none=xs:=by
 unfold oM;have e:HT.sIx (x::xs).length 0 (some 1)=1:=by rw[show (1:Int)=((1:Nat):Int) from rfl,HT.xN,d9];lia
 rw[e,HT.yF,d9];simp
def nw1 (x:V)(xs:List V):¬ (HT.sIx (x::xs).length 0 (some 1)=0/\HT.sIx (x::xs).length (x::xs).length none=(x::xs).length):=by rw[show (1:Int)=((1:Nat):Int) from rfl,HT.xN,d9];lia
section
variable {X:Cx}{scope:Scope}{N:List Str}{wi:TI}{te:TE}{σ:L2.St}{H:Hp}{Q:VK}
def aR2 (xs ys k:List V)(A:L2.St)(w:Cap X scope N σ A)(hsz:xs.length<=sizeLine)(hl:xs.length=ys.length)(hz:k.length=xs.length)
  (M:∀R:List V->Hp->Prop,(∀t u H1,Same H H1->SqT K H1 t xs->SqT K H1 u ys->R [.ref t,.ref u] H1)->tl σ H R)
  (J:∀(i:Nat) (x y z:V),xs[i]?=some x->ys[i]?=some y->k[i]?=some z->∀H' R l1 l2,Same H H'->(∀H2,Same H' H2->R z H2)->te ((((A.set 0 l1).set 1 l2).set 0 (some x)).set 1 (some y)) H' R) (I:A[0]?=some none) (G:A[1]?=some none)
  (q:∀D H',Same H H'->H' D=some (.lst k)->Q (.ref D) H') :
  jP X scope N (aTw K tl) (aGn K 2 (rA (cI 0) (rA (cI 1) aNe))) uA te σ H Q:=by
 refine⟨A,w,M _ λt u H1 r j l=>⟨t,u,xs,ys,rfl,j,l,λD s=>?_⟩⟩;refine⟨λi m p H' g=>i<=xs.length/\m=xs.length - i/\(∃l1 l2,p=(A.set 0 l1).set 1 l2)/\Same H1 H'/\H' D=some (.lst g)/\g=k.take i,⟨xs.length,bAK _,rfl,⟨none,none,?_⟩,bV s _,aL,rfl⟩,?_⟩
 ·rw[<-oZ I];exact oZ G
 rintro i m p H' g ⟨hi,rfl,⟨l1,l2,rfl⟩,sm,hL,rfl⟩;refine⟨hL,?_⟩;by_cases f:i<xs.length
 ·right;refine⟨⟨sm.aQ j,sm.aQ l,f,by lia⟩,λv H2 B=>?_⟩;obtain⟨T,a,b,C,rfl,rfl,F,E⟩:=B;have h:Same H' (upd H' T (.tup [a,b])):=bV C _;refine⟨T,[a,b],rfl,.inl (.inl aL),rfl,a,[b],rfl,b,[],rfl,rfl,?_⟩;unfold uA;dsimp only;rw[if_pos rfl];have d:i<k.length:=by lia
  refine J i a b k[i] F E (b8 d) _ _ l1 l2 (λb o e=>h _ _ (sm _ _ (r _ _ e))) λL n=>⟨n _ _ (h _ _ hL),?_,xs.length - (i+1),by lia,f,rfl,⟨some a,some b,?_⟩,?_,aL,?_⟩
  ·rw[bAV];lia
  ·rw[List.set_comm _ _ (show (1:Nat)≠0 by decide),bCG,bCG]
  ·intro c o e;rw[aV (bA e s)];exact n _ _ (h _ _ (sm _ _ e))
  ·rw[bBM,b8 d];rfl
 ·left;have e:i=xs.length:=by lia
  subst e;refine⟨⟨sm.aQ j,j9 _⟩,?_⟩;rw[bBK (by lia)] at hL;exact q D _ (r.trans sm) hL
end
def aSd (h:isTup t=false):jB t=false:=by
 cases t with
 |tup ts=>cases h
 |_=>rfl
def aQn (h:jT t (forms.map V.str)=false):jB (.tup (t::ts))=false:=by
 cases t with
 |str k=>
  have h:inV (.str k) (forms.map V.str)=false:=h;rw[zO] at h;show (match eF k with|some fs=>decide (ts.length=fs.length) && (List.zipWith (λ(f:Tg->Bool) t=>f t) fs ts).all id|none=>false)=false;cases e:eF k with
  |none=>rfl
  |some fs=>exact absurd (vK e) (of_decide_eq_false h)
 |_=>rfl
def aMh:(forms.map V.str).all kJ=true:=rfl
def aV1 (h:dB K H vs ts)(n:vs.length≠0):∃v us t rs,vs=v::us/\ts=t::rs/\bH K H v t/\dB K H us rs:=by
 cases h with
 |nil=>exact absurd rfl n
 |cons a b=>exact⟨_,_,_,_,rfl,rfl,a,b⟩
def aHr (T:Txt w K mg)(F:aNo P w K mg base)(dZ:Ok P w K mg base 1 "is_one_of" bQD (aAv K)):Ok P w K mg base 7 "has_form" m5 (gP (TgR K jB)):=by
 refine Ok.ofV T.aOd aBf (by trivial) (λf a1 A U s H O Q E hr h=>?_)
 obtain⟨v,b,rfl,⟨t,ht,rfl⟩,q⟩:=h;obtain⟨d,l,md,hd,hl,g,W⟩:=aTz T F;have m:∃u,mg "FORMS"=some u/\RelV (.ref d) u:=⟨_,md,rfl⟩;have a0:=aBf.nd;refine⟨_,(aA (bN (VW.pt (nH (eO (cP (aR iT (by rfl) T.bJ bC (aG (vv 0) (va1 (dW (v:=.ty "tuple") (by rfl) T.cO cB rfl)))))) (nH (cT cJ (aR bB (by rfl) T.eN cR (va1 (vv 0))) aC) (jY (eO (cP (bU dZ (aG (bO bD (vv 0) aC) (va1 (bG (aRu rfl) (by rfl) T.cO cB (va1 (dY (by rfl) m)))))))))))) (aB (aJ iW)) aU) (aA (aY 1 (bO aWc (dY (by rfl) m) (bO bD (vv 0) aC))) (aA (bN (cT nJ (aR bB (by rfl) T.eN cR (va1 (vv 0))) (aW eG (aR bB (by rfl) T.eN cR (va1 (vv 1))) aC)) (aB (aJ iW)) aU) (aB (aJ (aR (pH rfl) (by rfl) T.aGj aAb (va1 (cZ (N:=["is_part","part"]) ck eV rfl (aWn (by rfl) T.bEw (aG (vv 1) (va1 (dI aHt (vv 0) (cY aC) iC)))) (λcl s' y fp=>⟨(lF (K:=K) (n:=2) rfl (aX (fZ 0) (aX (fZ 1) dF))),eZ,(rO (P:=P) (w:=w) (K:=K) (mg:=mg) (base:=base) hr (vv 0) (va1 (vv 1)))⟩))))))))),?_⟩;refine⟨_,rfl,_,_,rfl,aD3 ht,_,rfl,?_⟩;cases e:isTup t with
 |false=>rw[aSd e] at q;exact bQ (q H (Same.refl H))
 |true=>
  cases ht with
  |tup ha hlen hts=>
   rename_i a O ts;refine aZ ⟨_,rfl,_,_,rfl,.inr ha,rfl,_,rfl,?_⟩;have ll:=hts.len;by_cases l0:O.length=0
   ·have:O=[]:=List.length_eq_zero_iff.mp l0;subst this;cases hts;exact bQ (q H (Same.refl H))
   ·obtain⟨v,B,tk,j,rfl,rfl,M,h2⟩:=aV1 hts l0;rw[j6 (by intro z;injection z with z;lia)];refine aZ ⟨_,rfl,a,_,0,_,rfl,rfl,ha,at0 _ _,d,l,rfl,hd,hl,λp1 H1 c g1=>?_⟩;rw[g] at g1;refine⟨v,p1,_,rfl,nO (M.same c),SqT.of g1,aMh,_,rfl,?_⟩;rw[aAk M];cases I:jT tk (forms.map V.str) with
    |false=>rw[aQn I] at q;exact bQ (q H1 c)
    |true=>
     obtain⟨k,rfl,rfl⟩:=aP5 M I;have o:inV (.str k) (forms.map V.str)=true:=I;rw[zO] at o;cases X:eF k with
     |none=>exact absurd (of_decide_eq_true o) (aYm X)
     |some fs=>
      obtain⟨t,C,hf,p,a2,Z⟩:=W k fs X;have lw:=Z.len;have l2:=h2.len;rw[show jB (.tup (.str k::j))=(match eF k with|some fs=>decide (j.length=fs.length) && (List.zipWith (λf t=>f t) fs j).all id|none=>false) from rfl,X] at q;dsimp only at q;refine aZ ⟨_,rfl,a,_,0,_,rfl,rfl,c.aQ ha,at0 _ _,d,l,k,t,rfl,rfl,hd,hf,?_⟩;refine⟨_,rfl,_,_,rfl,.inr (c.aQ ha),_,rfl,_,_,rfl,.inr (p _),_,_,rfl,rfl,rfl,_,rfl,?_⟩;by_cases L:j.length=fs.length
      ·have G:(!decide (V.int (((V.str k::B).length:Nat):Int)=V.int ((C.length:Nat)+1:Int)))=false:=by rw[d9,lw,l2,L];simp
       rw[G];rw[v7 L,bBU] at q;refine aZ ?_;dsimp only[mO,vX,tCB,dO];refine aR2 C B ((List.zipWith (λf t=>f t) fs j).map V.bl) [none,none] lH (small (by lia)) (by lia) (by rw[d7,bES];lia) (λR r=>⟨_,rfl,_,rfl,_,rfl,a,_,rfl,c.aQ ha,nw1 _ _,λp2 J S g2=>?_⟩) (λi fv x z ef ex ez y R l1 l2 Y r=>?_) rfl rfl λD y Y hD=>?_
       ·rw[bFq] at g2;exact r t p2 J S (p _) (SqT.of g2)
       ·obtain⟨tx,e3,h3⟩:=h2.at ex;have hi:i<fs.length:=by have:=(List.getElem?_eq_some_iff.mp e3).1;lia
        obtain⟨fa,ps,sp,rfl,hh,hc⟩:=aJv Z ef (b8 hi);rw[bAC,bEI,e3,b8 hi] at ez;cases ez;exact⟨_,rfl,fa,ps,sp,rfl,hh,_,rfl,hc y x tx (h3.same (c.trans Y)) R λJ S=>r J S⟩
       ·refine⟨D,List.zipWith (λf t=>f t) fs j,rfl,SqL.of hD,?_⟩;exact q y (c.trans Y)
      ·have G:(!decide (V.int (((V.str k::B).length:Nat):Int)=V.int ((C.length:Nat)+1:Int)))=true:=by rw[j6 (by intro z;injection z with z;rw[d9] at z;lia)];rfl
       rw[G];rw[j6 L,bBS] at q;exact bQ (q H1 c)
  |_=>cases e
def Rf (mg:bFF)(c:Exn)(H:Hp)(E:XK):Prop:=∀C e H',mg c.nm=some (.ref C)->Same H H'->E (.ref C) (some e) H'
def aK9 {st:Stmt}{y x:Str}{C S:Addr}{c:Exn}{H H1:Hp}{E:XK}{D:Ends}{σ:L2.St}(i:ExT K mg st x y C S)(g:c.nm=x)(s:Same H H1)(h:Rf mg c H E):aHn C E (dO (tC V.non) wC) D σ H1:=
 ⟨rfl,λa e d b f=>h _ a _ (by rw[g];exact i.mg) (s.trans (bV b _))⟩
def hinit (T:Txt w K mg)(fI:Addr):∀X,X.N=(["self","act"]:List Str)->X.env.scope=aD lM->X.mg=mg->VSs X (eY lM) (kW (aKn (tVI X.K fI (dO (lG 0) (dO (lG 1) wC)))) (aUl X.K fI (lG 0) (lG 1))):=by
 intro X c b f;have e:∀{a:Pos},VE X (.Name "self" a) (lG 0):=λ{a}=>vv 0 (by rw[c];rfl) (by left;rw[b];rfl);have d:∀{a:Pos},VE X (.Name "act" a) (lG 1):=λ{a}=>vv 1 (by rw[c];rfl) (by left;rw[b];rfl);have g:Gl X "ValueError":=by show X.env.scope.names.lookup _=_;rw[b];rfl
 exact aA ⟨aPo (aSh (fI:=fI) g (by rw[f];exact T.aI2) (bBm e.1 (bBm d.1 aTf)))⟩ (aB ⟨bCa e.1 d.1⟩)
def aR0 {α β:Type}{R:α->β->Prop}{i:List α}{g:List β}(h:bY R i g)(j:i≠[]):∃as' a bs' b,i=as'++[a]/\g=bs'++[b]/\bY R as' bs'/\R a b:=by
 induction h with
 |nil=>exact absurd rfl j
 |@cons a b i g r t ih=>
  cases t with
  |nil=>exact⟨[],a,[],b,rfl,rfl,.nil,r⟩
  |cons r' t'=>obtain⟨as',x,bs',y,c,d,f,e⟩:=ih (by simp);exact⟨a::as',x,b::bs',y,by rw[c];rfl,by rw[d];rfl,.cons r f,e⟩
def oK:Tg->List Tg
 |.tup (.str k::ts)=>if k = "table" then [] else if k = "join" then ts.take 2 else ts.take 1
 |_=>[]
def bFl:Tg->Nat
 |.tup ts=>ts.length
 |_=>1
def pO:Tg->Nat
 |.tup (.str k::ts)=>if k = "where" then bFl (ts.getD 1 .non) else 1
 |_=>1
inductive Fm:Tg->Prop
 |table {n}:Fm (.tup [.str "table",n])
 |whr {q ts}:1<=ts.length->ts.length<=3->Fm (.tup [.str "where",q,.tup ts])
 |join {q r x}:Fm (.tup [.str "join",q,r,x])
 |two {k:Str} {q x}:k≠"table"->k≠"where"->k≠"join"->Fm (.tup [.str k,q,x])
 |three {k:Str} {q x y}:k≠"table"->k≠"where"->k≠"join"->Fm (.tup [.str k,q,x,y])
def bFb {α:Type}{l:List α}(h:l.length=1):∃a,l=[a]:=by
 match l,h with
 |[a],_=>exact⟨a,rfl⟩
def bAm {α:Type}{l:List α}(h:l.length=2):∃a b,l=[a,b]:=by
 match l,h with
 |[a,b],_=>exact⟨a,b,rfl⟩
def bCk {α:Type}{l:List α}(h:l.length=3):∃a b c,l=[a,b,c]:=by
 match l,h with
 |[a,b,c],_=>exact⟨a,b,c,rfl⟩
def aUf {f:Tg->Bool}{a b:Nat}{t:Tg}(h:cW f a b t=true):∃ts,t=.tup ts/\a<=ts.length/\ts.length<=b/\ts.all f=true:=by
 cases t with
 |tup ts=>have h:(decide (a<=ts.length) && (decide (ts.length<=b) && ts.all f))=true:=h;rw[bAI,bAI] at h;exact⟨ts,rfl,of_decide_eq_true h.1,of_decide_eq_true h.2.1,h.2.2⟩
 |_=>cases h
def aSw (h:jB t=true):∃k rs fs,t=.tup (.str k::rs)/\eF k=some fs/\rs.length=fs.length/\(List.zipWith (λf t=>f t) fs rs).all id=true:=by
 cases t with
 |tup ts=>
  match ts with
  |[]=>cases h
  |a::rs=>
   cases a with
   |str k=>
    have h:(match eF k with|some fs=>decide (rs.length=fs.length) && (List.zipWith (λ(f:Tg->Bool) t=>f t) fs rs).all id|none=>false)=true:=h;cases e:eF k with
    |none=>rw[e] at h;cases h
    |some fs=>rw[e] at h;dsimp only at h;rw[bAI] at h;exact⟨k,rs,fs,rfl,e,of_decide_eq_true h.1,h.2⟩
   |_=>cases h
 |_=>cases h
def aH1 (h:jB t=true):Fm t:=by
 obtain⟨k,l,n,rfl,d,e,f⟩:=aSw h;have g:=vK d;simp only[forms,bAJ,bAE,or_false] at g;rcases g with rfl|rfl|rfl|rfl|rfl|rfl|rfl
 ·cases (show eF "table"=some [bI] from rfl) ▸ d;obtain⟨a,rfl⟩:=bFb e;exact .table
 ·cases (show eF "where"=some [lV,cW mR 1 3] from rfl) ▸ d;obtain⟨a,b,rfl⟩:=bAm e;have f:(lV a && (cW mR 1 3 b && true))=true:=f;rw[bAI,Bool.and_true] at f;obtain⟨m,rfl,j,i,_⟩:=aUf f.2;exact .whr j i
 ·cases (show eF "keep"=some [lV,cW bI 1 8] from rfl) ▸ d;obtain⟨a,b,rfl⟩:=bAm e;exact .two (by trivial) (by trivial) (by trivial)
 ·cases (show eF "named"=some [lV,cW bI 1 8] from rfl) ▸ d;obtain⟨a,b,rfl⟩:=bAm e;exact .two (by trivial) (by trivial) (by trivial)
 ·cases (show eF "join"=some [lV,lV,cW (cW bI 2 2) 1 3] from rfl) ▸ d;obtain⟨a,b,c,rfl⟩:=bCk e;exact .join
 ·cases (show eF "group"=some [lV,cW bI 0 8,cW zJ 0 4] from rfl) ▸ d;obtain⟨a,b,c,rfl⟩:=bCk e;exact .three (by trivial) (by trivial) (by trivial)
 ·cases (show eF "first"=some [lV,cW xH 0 3,aDs] from rfl) ▸ d;obtain⟨a,b,c,rfl⟩:=bCk e;exact .three (by trivial) (by trivial) (by trivial)
def Fm.own {t:Tg}(h:Fm t):1<=pO t/\(oK t).length<=2:=by
 cases h with
 |table=>exact⟨by show 1<=1;decide,bAK _⟩
 |whr h1 h2=>exact⟨h1,by show 1<=2;decide⟩
 |join=>exact⟨by show 1<=1;decide,by show 2<=2;decide⟩
 |two a b c=>unfold pO oK;dsimp only;rw[if_neg b,if_neg a,if_neg c];exact⟨j9 _,by show 1<=2;decide⟩
 |three a b c=>unfold pO oK;dsimp only;rw[if_neg b,if_neg a,if_neg c];exact⟨j9 _,by show 1<=2;decide⟩
def aHc (h:dB K H vs [a,b]):∃v u,vs=[v,u]/\bH K H v a/\bH K H u b:=by
 cases h with
 |cons h1 h=>cases h with
  |cons h2 h=>cases h;exact⟨_,_,rfl,h1,h2⟩
def oV (h:dB K H vs [a,b,c]):∃v u x,vs=[v,u,x]/\bH K H v a/\bH K H u b/\bH K H x c:=by
 cases h with
 |cons h1 h=>obtain⟨v,u,rfl,e,d⟩:=aHc h;exact⟨_,_,_,rfl,h1,e,d⟩
def xY (h:dB K H vs [a,b,c,d]):∃v u x y,vs=[v,u,x,y]/\bH K H v a/\bH K H u b/\bH K H x c/\bH K H y d:=by
 cases h with
 |cons h1 h=>obtain⟨v,u,x,rfl,g,f,e⟩:=oV h;exact⟨_,_,_,_,rfl,h1,g,f,e⟩
def cQ (h:bH K H v (.str x)):v=.str x:=by cases h;rfl
def iY (h:bH K H v (.tup ts)):∃a vs,v=.ref a/\SqT K H a vs/\vs.length<=1000/\dB K H vs ts:=by
 cases h with
 |tup a b c=>exact⟨_,_,rfl,a,b,c⟩
def aT2 (K:bFC):Sp:=λvs H Q _=>∃v t H0,vs=[v]/\Same H0 H/\bH K H0 v t/\jB t=true/\∀D H' us,H D=none->Same H H'->H' D=some (.lst us)->dB K H0 us (oK t)->Q (.ref D) H'
def aAe (T:Txt w K mg):Ok P w K mg base 1 "questions_in" m8 (aT2 K):=by
 refine Ok.ofV T.aC6 aBt (by trivial) (λf G A u s H l Q E O h=>?_)
 obtain⟨v,t,M,rfl,e,m,B,q⟩:=h;refine⟨_,(aA (bN (cT cJ (bO bD (vv 0) aC) aF) (aB (aJ (bM gB))) aU) (aB (aJ (jO (cT cJ (bO bD (vv 0) aC) aF) (bG pU (by rfl) T.aDa xG (va1 (dI aHt (vv 0) (cY aC) (cY aC)))) (bM (va1 (bO bD (vv 0) aC))))))),?_⟩;have J:=aH1 B;clear B;cases J with
 |table=>obtain⟨p,l,rfl,a,_,b⟩:=iY m;obtain⟨o,n,rfl,i,j⟩:=aHc b;cases cQ i;exact⟨_,rfl,_,_,0,_,rfl,rfl,(e.aQ a),at0 _ _,rfl,_,rfl,bQ ⟨(by show 0<=sizeLine;decide),λD d f c g=>q D d _ f c g .nil⟩⟩
 |whr _ _=>obtain⟨p,l,rfl,a,_,b⟩:=iY m;obtain⟨o,n,y,rfl,i,j,r⟩:=oV b;cases cQ i;exact⟨_,rfl,_,_,0,_,rfl,rfl,(e.aQ a),at0 _ _,rfl,_,rfl,aZ ⟨_,rfl,_,_,0,_,rfl,rfl,(e.aQ a),at0 _ _,rfl,_,rfl,aZ ⟨_,rfl,_,_,1,_,rfl,rfl,(e.aQ a),at1 _ _ _,(by show 1<=sizeLine;decide),λD d f c g=>q D d _ f c g (.cons j .nil)⟩⟩⟩
 |join=>obtain⟨p,l,rfl,a,_,b⟩:=iY m;obtain⟨o,n,y,I,rfl,i,j,r,F⟩:=xY b;cases cQ i;refine⟨_,rfl,_,_,0,_,rfl,rfl,(e.aQ a),at0 _ _,rfl,_,rfl,aZ ⟨_,rfl,_,_,0,_,rfl,rfl,(e.aQ a),at0 _ _,rfl,_,rfl,bQ ⟨_,rfl,_,rfl,_,rfl,_,_,rfl,(e.aQ a),(by show ¬ (HT.sIx 4 0 (some 1)=0/\HT.sIx 4 4 (some 3)=4);decide),λp N C L=>⟨p,_,rfl,.inr (SqT.of L),λD d f c g=>q D d _ (C.free f) (C.trans c) g (.cons j (.cons r .nil))⟩⟩⟩⟩
 |@two k tq tx n1 n2 n3=>
  obtain⟨p,l,rfl,a,_,b⟩:=iY m;obtain⟨o,n,y,rfl,i,j,r⟩:=oV b;cases cQ i;have x:oK (.tup [.str k,tq,tx])=[tq]:=by unfold oK;dsimp only;rw[if_neg n1,if_neg n3];rfl
  rw[x] at q;refine⟨_,rfl,_,_,0,_,rfl,rfl,(e.aQ a),at0 _ _,rfl,_,rfl,?_⟩;rw[j6 (by intro z;exact n1 (V.str.inj z))];refine aZ ⟨_,rfl,_,_,0,_,rfl,rfl,(e.aQ a),at0 _ _,rfl,_,rfl,?_⟩;rw[j6 (by intro z;exact n3 (V.str.inj z))];exact aZ ⟨_,rfl,_,_,1,_,rfl,rfl,(e.aQ a),at1 _ _ _,(by show 1<=sizeLine;decide),λD d f c g=>q D d _ f c g (.cons j .nil)⟩
 |@three k tq tx ty n1 n2 n3=>
  obtain⟨p,l,rfl,a,_,b⟩:=iY m;obtain⟨o,n,y,I,rfl,i,j,r,F⟩:=xY b;cases cQ i;have x:oK (.tup [.str k,tq,tx,ty])=[tq]:=by unfold oK;dsimp only;rw[if_neg n1,if_neg n3];rfl
  rw[x] at q;refine⟨_,rfl,_,_,0,_,rfl,rfl,(e.aQ a),at0 _ _,rfl,_,rfl,?_⟩;rw[j6 (by intro z;exact n1 (V.str.inj z))];refine aZ ⟨_,rfl,_,_,0,_,rfl,rfl,(e.aQ a),at0 _ _,rfl,_,rfl,?_⟩;rw[j6 (by intro z;exact n3 (V.str.inj z))];exact aZ ⟨_,rfl,_,_,1,_,rfl,rfl,(e.aQ a),at1 _ _ _,(by show 1<=sizeLine;decide),λD d f c g=>q D d _ f c g (.cons j .nil)⟩
def aO7 (K:bFC):Sp:=λvs H Q _=>∃v t,vs=[v]/\bH K H v t/\jB t=true/\Q (.int (pO t:Nat)) H
def aIh (T:Txt w K mg):Ok P w K mg base 1 "own_size" m8 (aO7 K):=by
 refine Ok.ofV T.aNa aLr (by trivial) (λf y A n s H d Q E I h=>?_)
 obtain⟨v,t,rfl,e,u,q⟩:=h;refine⟨_,(aB (aJ (jO (cT cJ (bO bD (vv 0) aC) aF) (aR bB (by rfl) T.eN cR (va1 (bO bD (vv 0) aC))) aC))),?_⟩;have D:=aH1 u;clear u;cases D with
 |whr _ _=>obtain⟨p,d,rfl,a,_,b⟩:=iY e;obtain⟨i,g,r,rfl,c,l,j⟩:=oV b;cases cQ c;obtain⟨F,G,rfl,C,_,m⟩:=iY j;refine⟨_,rfl,_,_,0,_,rfl,rfl,a,at0 _ _,rfl,_,rfl,bQ ⟨_,rfl,_,_,2,_,rfl,rfl,a,at2 _ _ _ _,_,_,rfl,.inr C,?_⟩⟩;rw[m.len];exact q
 |table=>obtain⟨p,d,rfl,a,_,b⟩:=iY e;obtain⟨i,g,rfl,c,l⟩:=aHc b;cases cQ c;exact⟨_,rfl,_,_,0,_,rfl,rfl,a,at0 _ _,rfl,_,rfl,aZ q⟩
 |join=>obtain⟨p,d,rfl,a,_,b⟩:=iY e;obtain⟨i,g,r,B,rfl,c,l,j,x⟩:=xY b;cases cQ c;exact⟨_,rfl,_,_,0,_,rfl,rfl,a,at0 _ _,rfl,_,rfl,aZ q⟩
 |@two k tq tx n1 n2 n3=>
  obtain⟨p,d,rfl,a,_,b⟩:=iY e;obtain⟨i,g,r,rfl,c,l,j⟩:=oV b;cases cQ c;have o:pO (.tup [.str k,tq,tx])=1:=by unfold pO;dsimp only;rw[if_neg n2]
  rw[o] at q;refine⟨_,rfl,_,_,0,_,rfl,rfl,a,at0 _ _,rfl,_,rfl,?_⟩;rw[j6 (by intro z;exact n2 (V.str.inj z))];exact aZ q
 |@three k tq tx ty n1 n2 n3=>
  obtain⟨p,d,rfl,a,_,b⟩:=iY e;obtain⟨i,g,r,B,rfl,c,l,j,x⟩:=xY b;cases cQ c;have o:pO (.tup [.str k,tq,tx,ty])=1:=by unfold pO;dsimp only;rw[if_neg n2]
  rw[o] at q;refine⟨_,rfl,_,_,0,_,rfl,rfl,a,at0 _ _,rfl,_,rfl,?_⟩;rw[j6 (by intro z;exact n2 (V.str.inj z))];exact aZ q
mutual
inductive SzT:Tg->Nat->Prop
 |mk {t m}:jB t=true->vY (oK t) m->SzT t (pO t+m)
inductive vY:List Tg->Nat->Prop
 |nil:vY [] 0
 |cons {t n ts m}:SzT t n->vY ts m->vY (t::ts) (n+m)
end
def aDq (h:SzT t n):jB t=true/\∃m,vY (oK t) m/\n=pO t+m:=by
 cases h with
 |mk a b=>exact⟨a,_,b,rfl⟩
def aDn (h:vY (t::ts) n):∃a b,SzT t a/\vY ts b/\n=a+b:=by
 cases h with
 |cons x y=>exact⟨_,_,x,y,rfl⟩
theorem mX:∀{as:List Tg} {n:Nat},vY (as++bs) n↔∃a b,vY as a/\vY bs b/\n=a+b
 |[],n=>⟨λh=>⟨0,n,.nil,h,by lia⟩,λ⟨a,b,g,f,e⟩=>by cases g;rw[bDJ] at e;subst e;exact f⟩
 |x::as,n=>by
  constructor
  ·intro h;obtain⟨a,b,g,f,rfl⟩:=aDn h;obtain⟨c,d,j,i,rfl⟩:=mX.mp f;exact⟨a+c,d,.cons g j,i,by lia⟩
  ·rintro⟨a,b,g,f,rfl⟩;obtain⟨c,d,j,i,rfl⟩:=aDn g;rw[show c+d+b=c+(d+b) by lia];exact .cons j (mX.mpr ⟨d,b,i,f,rfl⟩)
def iB:vY [t] n↔SzT t n:=
 ⟨λh=>by obtain⟨a,b,d,c,rfl⟩:=aDn h;cases c;exact d,λh=>by rw[show n=n+0 from rfl];exact .cons h .nil⟩
def aCh (f:jB p=true):vY (ts++[p]) n↔∃m,vY (ts++oK p) m/\n=pO p+m:=by
 constructor
 ·intro h;obtain⟨a,b,d,c,rfl⟩:=mX.mp h;obtain⟨_,m,e,rfl⟩:=aDq (iB.mp c);exact⟨a+m,mX.mpr ⟨a,m,d,e,rfl⟩,by lia⟩
 ·rintro⟨m,h,rfl⟩;obtain⟨a,b,d,c,rfl⟩:=mX.mp h;exact mX.mpr ⟨a,pO p+b,d,iB.mpr (.mk f c),by lia⟩
theorem aOo:∀{vs:List V} {ts:List Tg},dB K H vs ts->bY (bH K H) vs ts
 |_,_,.nil=>.nil
 |_,_,.cons a b=>.cons a (aOo b)
def Right (t:Tg):Prop:=∃n,SzT t n/\n<=20
def tV (K:bFC)(mg:bFF):Sp:=λvs H Q E=>∃v t,vs=[v]/\bH K H v t/\(Right t->∀H',Same H H'->Q v H')/\(¬ Right t->Rf mg .ques H E)
def aJu (T:Txt w K mg)(a4:Ok P w K mg base 7 "has_form" m5 (gP (TgR K jB)))(a0:Ok P w K mg base 1 "questions_in" m8 (aT2 K))(a3:Ok P w K mg base 1 "own_size" m8 (aO7 K)):OkX P w K mg base 8 "checked" m5 (tV K mg):=by
 refine OkX.ofV T.aRt aD9 (by trivial) (λf a2 A L s H vs Q E U h=>?_)
 obtain⟨v,B,rfl,ht,q,X⟩:=h;obtain⟨S,ad,mS,hS,M,_⟩:=T.aXm;have c:ExT K mg lM "NoQuestion" "ShardError.__init__" (ad .ques) S:=M .ques;have a1:=aD9.nd;refine⟨_,(aA (aY 1 aC) (aA (aY 2 (bM (va1 (vv 0)))) (aA (rH PassesOwn.leaving (aV0 (vv 2)) (aA (aY 3 (aN6 PySem.F.plainAttrs_list PySem.F.slot_list_pop PySem.F.type_list_pop aXw (vv 2))) (aA (bN (eO (cP (bU a4 (va1 (vv 3))))) (aB (xV c (λR fd F=>aB3 (k:=0) F aB7 (hinit T R)) (U.mono (by first|decide|lia)) tX rfl (by rfl) (va1 gQ))) aU) (aA (aY 1 (aW eG (vv 1) (bU a3 (va1 (vv 3))))) (aA (bN (cT aV7 (vv 1) (dY (by rfl) T.aAz)) (aB (xV c (λR fd F=>aB3 (k:=0) F aB7 (hinit T R)) (U.mono (by first|decide|lia)) tX rfl (by rfl) (va1 gQ))) aU) (aB (dG (fK PySem.F.plainAttrs_list PySem.F.slot_list_extend PySem.F.type_list_extend aEe (vv 2) (va1 (bU a0 (va1 (vv 3)))))))))))) (aB (aJ (vv 0)))))),?_⟩;refine⟨_,rfl,(by show 1<=sizeLine;decide),λW H1 fW s1 g1=>?_⟩;refine⟨λm σ r=>∃sz us ts l,σ=[some v,some (.int (sz:Nat)),some (.ref W),l]/\Same H r/\r W=some (.lst us)/\bY (bH K H) us ts/\sz<=20/\us.length<=1+sz/\((∃n,vY ts n/\sz+n<=20)↔Right B)/\m=20 - sz,⟨_,0,_,[B],_,rfl,s1,g1,.cons ht .nil,by decide,by simp,⟨λ⟨n,e,x⟩=>⟨n,iB.mp e,by lia⟩,λ⟨n,e,x⟩=>⟨n,iB.mpr e,by lia⟩⟩,rfl⟩,?_⟩;rintro m σ r ⟨sz,us,ts,l,rfl,sm,eW,hu,h20,hul,hiff,rfl⟩;by_cases y:us=[]
 ·subst y;cases hu;refine⟨_,rfl,false,.inl ⟨[],SqL.of eW,rfl⟩,?_⟩;refine aZ ?_;exact⟨_,rfl,q (hiff.mp ⟨0,.nil,by lia⟩) r sm⟩
 ·obtain⟨d,u,C,p,rfl,rfl,J,G⟩:=aR0 hu y;refine⟨_,rfl,true,.inl ⟨_,SqL.of eW,by cases d <;> rfl⟩,?_⟩;refine bQ ?_;refine⟨fun Z i=>∃m',m'<20 - sz/\∃sz us ts l,Z=[some v,some (.int (sz:Nat)),some (.ref W),l]/\Same H i/\i W=some (.lst us)/\bY (bH K H) us ts/\sz<=20/\us.length<=1+sz/\((∃n,vY ts n/\sz+n<=20)↔Right B)/\m'=20 - sz,fun Z i h=>h,?_⟩;refine⟨_,rfl,.inl ⟨rfl,_,SqL.of eW⟩,W,_,u,rfl,rfl,eW,?_,?_⟩
  ·rw[j4,bBA,Nat.add_sub_cancel,bBY (j9 _),Nat.sub_self];rfl
  rw[List.dropLast_concat];have g:Same H (upd r W (.lst d)):=oW fW sm;have I:upd r W (.lst d) W=some (.lst d):=aL;generalize upd r W (.lst d)=Hx at g I;refine⟨_,rfl,u,jB p,rfl,⟨p,G.same g,rfl⟩,λH2 o=>⟨_,rfl,?_⟩⟩;cases j:jB p with
  |false=>
   have N:¬ Right B:=λz=>by obtain⟨n,e,_⟩:=hiff.mpr z;obtain⟨a,b,_,x,_⟩:=mX.mp e;have:=(aDq (iB.mp x)).1;rw[j] at this;cases this
   exact bQ (aK9 c rfl (g.trans o) (X N))
  |true=>
   have a5:=(aH1 j).own;refine aZ ?_;refine⟨_,rfl,_,rfl,u,p,rfl,G.same (g.trans o),j,_,_,rfl,rfl,?_⟩;refine⟨_,rfl,_,_,rfl,rfl,_,rfl,?_⟩;by_cases O:sz+pO p<=20
   ·have t:decide ((20:Int)<(sz:Int)+(pO p:Int))=false:=j6 (by lia);rw[t];refine aZ ?_;refine⟨_,rfl,.inl ⟨rfl,_,SqL.of (o _ _ I)⟩,?_⟩;refine⟨_,rfl,u,p,H,rfl,g.trans o,G,j,λD H3 ws fD Y gD V=>?_⟩;have lw:=V.len;rw[j4,bBA] at hul;refine⟨W,D,_,_,rfl,rfl,Y _ _ (o _ _ I),gD,small (by lia),?_⟩;refine⟨_,?_,sz+pO p,d++ws,C++oK p,some u,?_,oW fW (g.trans (o.trans Y)),aL,J.app (aOo V),O,by rw[j4];lia,?_,rfl⟩
    ·lia
    ·rw[show ((sz+pO p:Nat):Int)=(sz:Int)+(pO p:Int) from by lia];rfl
    ·rw[<-hiff];constructor
     ·rintro⟨n,e,x⟩;exact⟨pO p+n,(aCh j).mpr ⟨n,e,rfl⟩,by lia⟩
     ·rintro⟨n,e,x⟩;obtain⟨m,h3,rfl⟩:=(aCh j).mp e;exact⟨m,h3,by lia⟩
   ·have t:decide ((20:Int)<(sz:Int)+(pO p:Int))=true:=v7 (by lia);rw[t];have N:¬ Right B:=λz=>by obtain⟨n,e,x⟩:=hiff.mpr z;obtain⟨m,_,rfl⟩:=(aCh j).mp e;lia
    exact bQ (aK9 c rfl (g.trans o) (X N))
def aPr {z:Str}{j:Int}(h0:0<=j)(h1:j<z.length):∃c,z.cps[j.toNat]?=some c:=
 ⟨_,bAN (by show j.toNat<z.length;lia)⟩
def aM (x y:Str):(x++y).length=x.length+y.length:=by show (x.cps++y.cps).size=_;rw[Array.size_append];rfl
def at_of {xs:List V}{j:Int}(h0:0<=j)(h1:j<xs.length):∃v,atI xs j=some v/\v∈xs:=by
 have a:j.toNat<xs.length:=by lia
 refine⟨xs[j.toNat],?_,bCP a⟩;have b:=dJ (b8 a);rw[show ((j.toNat:Nat):Int)=j by lia] at b;exact b
def aX5:∀k:_root_.Fin 26,inA ⟨#[97+k.val]⟩=true:=by trivial
def bBz (h1:97<=c)(h2:c<=122):inA ⟨#[c]⟩=true:=by have:=aX5 ⟨c - 97,by lia⟩;simp only at this;rw[show 97+(c - 97)=c by lia] at this;exact this
def allIn_of (h:Lets x):allIn x=true:=by
 unfold allIn;rw[bBL];intro b d;obtain⟨i,c,rfl⟩:=List.mem_map.mp d;have a:=List.mem_range.mp c;have e:x.cps.getD i 0=x.cps[i]:=by rw[bCN,bAN a];rfl
 obtain⟨g,f⟩:=h _ (Array.getElem_mem a);unfold sgn;rw[e];exact bBz g f
def Lets.add (d:Lets x)(b:Lets y):Lets (x++y):=λc a=>by
 have a:=a;rcases Array.mem_append.mp a with h|h
 ·exact d c h
 ·exact b c h
def Lets.one {z:Str}{i c:Nat}(b:Lets z)(h:z.cps[i]?=some c):Lets ⟨#[c]⟩:=λd a=>by
 have a:=a;have e:d=c:=by simpa using a
 subst e;exact b _ (Array.mem_of_getElem? h)
def aK7:Lets abc:=by
 have h:(abc.cps.all λc=>decide (97<=c) && decide (c<=122))=true:=by trivial
 intro c a;have:=(Array.all_eq_true_iff_forall_mem.mp h) c a;rw[bAI] at this;exact⟨of_decide_eq_true this.1,of_decide_eq_true this.2⟩
inductive Qn where
 |table (T:Str)
 |whr (q:Qn) (ts:List Tst)
 |keep (q:Qn) (ns:List Str)
 |nmd (q:Qn) (ns:List Str)
 |join (q r:Qn) (ps:List (Str × Str))
 |group (q:Qn) (ns:List Str) (ss:List Sm)
 |first (q:Qn) (ks:List (Str × Str)) (m:Nat)
inductive IsQ (K:bFC)(H:Hp):V->Qn->Prop
 |table {a T}:SqT K H a [.str "table",.str T]->Nm T->IsQ K H (.ref a) (.table T)
 |whr {a v q w ts}:SqT K H a [.str "where",v,w]->IsQ K H v q->lD IsT 1 3 K H w ts->IsQ K H (.ref a) (.whr q ts)
 |keep {a v q w ns}:SqT K H a [.str "keep",v,w]->IsQ K H v q->lD xA 1 8 K H w ns->IsQ K H (.ref a) (.keep q ns)
 |nmd {a v q w ns}:SqT K H a [.str "named",v,w]->IsQ K H v q->lD xA 1 8 K H w ns->IsQ K H (.ref a) (.nmd q ns)
 |join {a v q u r w ps}:SqT K H a [.str "join",v,u,w]->IsQ K H v q->IsQ K H u r->lD oY 1 3 K H w ps->IsQ K H (.ref a) (.join q r ps)
 |group {a v q w ns u ss}:SqT K H a [.str "group",v,w,u]->IsQ K H v q->lD xA 0 8 K H w ns->lD lE 0 4 K H u ss->IsQ K H (.ref a) (.group q ns ss)
 |first {a v q w ks m}:SqT K H a [.str "first",v,w,.int (m:Nat)]->IsQ K H v q->lD nZ 0 3 K H w ks->m<=60->IsQ K H (.ref a) (.first q ks m)
def lD.same {α:Type}{S:bFC->Hp->V->α->Prop}{lo hi:Nat}{K:bFC}{H H':Hp}{v:V}{xs:List α}(e:Same H H')(k:∀{v t},S K H v t->S K H' v t)(h:lD S lo hi K H v xs):lD S lo hi K H' v xs:=
 ⟨h.1.same e λ_ _=>k,h.2⟩
def IsQ.same {K:bFC}{H H':Hp}{v:V}{q:Qn}(e:Same H H')(h:IsQ K H v q):IsQ K H' v q:=by
 induction h with
 |table a b=>exact .table (e.aQ a) b
 |whr a _ c ih=>exact .whr (e.aQ a) ih (c.same e λh=>h.same e)
 |keep a _ c ih=>exact .keep (e.aQ a) ih (c.same e λh=>h)
 |nmd a _ c ih=>exact .nmd (e.aQ a) ih (c.same e λh=>h)
 |join a _ _ c ih1 ih2=>exact .join (e.aQ a) ih1 ih2 (c.same e λh=>h.same e)
 |group a _ c d ih=>exact .group (e.aQ a) ih (c.same e λh=>h) (d.same e λh=>h.same e)
 |first a _ c d ih=>exact .first (e.aQ a) ih (c.same e λh=>h.same e) d
def kids:Qn->List Qn
 |.table _=>[]
 |.whr q _=>[q]
 |.keep q _=>[q]
 |.nmd q _=>[q]
 |.join q r _=>[q,r]
 |.group q _ _=>[q]
 |.first q _ _=>[q]
def size:Qn->Nat
 |.table _=>1
 |.whr q ts=>size q+ts.length
 |.keep q _=>size q+1
 |.nmd q _=>size q+1
 |.join q r _=>size q+size r+1
 |.group q _ _=>size q+1
 |.first q _ _=>size q+1
abbrev Hdr:=List (Str × Str)
def IsC (K:bFC)(H:Hp)(v:V)(c:Str × Str):Prop:=∃p,v=.ref p/\SqT K H p [.str c.1,.str c.2]
def IsC.same (e:Same H H')(h:IsC K H v c):IsC K H' v c:=by obtain⟨p,rfl,a⟩:=h;exact⟨p,rfl,e.aQ a⟩
def jW (K:bFC)(H:Hp)(v:V)(hd:Hdr):Prop:=aCo K H (IsC K H) v hd
def jW.same (e:Same H H')(h:jW K H v hd):jW K H' v hd:=aCo.same e (λ_ _ q=>q.same e) h
def look (hd:Hdr)(n:Str):Option Str:=(hd.find? λc=>decide (c.1=n)).map (·.2)
theorem dH {α β:Type}{R:α->β->Prop}:∀{as:List α} {bs:List β},bY R as bs->∀{i:Nat} {a:α},as[i]?=some a->∃b,bs[i]?=some b/\R a b
 |_,_,.cons r t,0,_,h1=>by cases h1;exact⟨_,rfl,r⟩
 |_,_,.cons r t,i+1,a,h1=>by obtain⟨b,e,q⟩:=dH t (by simpa using h1);exact⟨b,by simpa using e,q⟩
theorem aPm {α β:Type}{R:α->β->Prop}:∀{as:List α} {bs:List β},as.length=bs.length->(∀(i:Nat) (a:α) (b:β),as[i]?=some a->bs[i]?=some b->R a b)->bY R as bs
 |[],[],_,_=>.nil
 |a::as,b::bs,hl,h=>.cons (h 0 a b rfl rfl) (aPm (by simpa using hl) λi x y d c=>h (i+1) x y (by simpa using d) (by simpa using c))
def sZ (h:bY (xA K H) us ns):us=ns.map V.str:=by
 induction h with
 |nil=>rfl
 |cons r _ ih=>rw[bAB,ih,r.1]
def kindS (v:V):Str:=if whole v then "number" else "word"
def aZx (hd:Hdr):Oth->Option Str
 |.val x=>some (kindS x)
 |.col d=>look hd d
def aNd (hd:Hdr)(t:Tst):Prop:=∃k,look hd t.c=some k/\aZx hd t.o=some k
def aAs {α:Type}{f:α->V}{xs:List α}{i:Nat}{y:V}(h:(xs.map f)[i]?=some y):∃x,xs[i]?=some x/\y=f x:=by
 rw[bAC] at h;cases e:xs[i]? with
 |none=>rw[e] at h;cases h
 |some x=>rw[e] at h;cases h;exact⟨x,rfl,rfl⟩
def Looks (hd:Hdr)(ns ks:List Str):Prop:=bY (λn k=>look hd n=some k) ns ks
def jD (K:bFC)(cs:Hdr):Nat->Hp->V->Prop:=λi H y=>∃c p,cs[i]?=some c/\y=.ref p/\H p=some (.tup [.str c.1,.str c.2])
def jD.st {cs:Hdr}{i:Nat}{H1 H2:Hp}{y:V}(e:Same H1 H2)(h:jD K cs i H1 y):jD K cs i H2 y:=by obtain⟨c,p,d,b,a⟩:=h;exact⟨c,p,d,b,e _ _ a⟩
def jD.su {cs:Hdr}{i:Nat}{H1:Hp}{D:Addr}{ys zs:List V}{y:V}(e:H1 D=some (.lst ys))(h:jD K cs i H1 y):jD K cs i (upd H1 D (.lst zs)) y:=by obtain⟨c,p,d,b,a⟩:=h;exact⟨c,p,d,b,by rw[aV (wK a e (by intro z;cases z))];exact a⟩
def aP4 {cs:Hdr}{H:Hp}{a:Addr}{ys:List V}(j:SqT K H a ys)(l:ys.length=cs.length)(h:∀(i:Nat) (y:V),ys[i]?=some y->jD K cs i H y):jW K H (.ref a) cs:=by refine⟨a,ys,rfl,j,aPm l λi y c d e=>?_⟩;obtain⟨k,p,b,g,f⟩:=h i y d;rw[e] at b;cases b;exact⟨p,g,SqT.of f⟩
def aDi {ss:List Str}:(ss.map V.str).all kJ=true:=by rw[bBL];intro v a;obtain⟨z,_,rfl⟩:=List.mem_map.mp a;rfl
theorem vU {α:Type}{p:Nat->Bool}{p':α->Bool}:∀{k:Nat} {xs:List α},(∀(i:Nat) (x:α),xs[i]?=some x->p (k+i)=p' x)->sel p k xs=xs.filter p'
 |_,[],_=>rfl
 |k,x::r,h=>by have a:=h 0 x rfl;rw[Nat.add_zero] at a;show (if p k then x::sel p (k+1) r else sel p (k+1) r)=_;rw[List.filter_cons,a,vU (k:=k+1) (xs:=r) λi y e=>by rw[show k+1+i=k+(i+1) by lia];exact h (i+1) y (by simpa using e)]
def aTl {α β:Type}{R:α->β->Prop}{p:Nat->Bool}{c:List α}{d:List β}(h:bY R c d):∀k,bY R (sel p k c) (sel p k d):=by
 induction h with
 |nil=>exact λ_=>.nil
 |@cons a b c d r _ ih=>
  intro k;show bY R (if p k then a::sel p (k+1) c else sel p (k+1) c) (if p k then b::sel p (k+1) d else sel p (k+1) d)
  split
  ·exact .cons r (ih _)
  ·exact ih _
def smK (hd:Hdr)(s:Sm):Option Str:=match s.c with
 |none=>some "number"
 |some c=>look hd c
def aGr (hd:Hdr)(ss:List Sm)(js:List Str):Prop:=bY (λs j=>smK hd s=some j/\(s.wd = "sum"->j≠"word")) ss js
def Good (hd:Hdr):Prop:=(hd.map (·.1)).Nodup/\1<=hd.length/\hd.length<=8
inductive HH (hs:Str->Option Hdr):Qn->List Hdr->Hdr->Prop
 |table {T hd}:hs T=some hd->HH hs (.table T) [] hd
 |whr {q ts hd}:(∀t∈ts,aNd hd t)->HH hs (.whr q ts) [hd] hd
 |keep {q ns hd ks}:Looks hd ns ks->HH hs (.keep q ns) [hd] (ns.zip ks)
 |nmd {q ns hd}:ns.length=hd.length->HH hs (.nmd q ns) [hd] (List.zipWith (λn c=>(n,c.2)) ns hd)
 |join {q r ps hd ho ks}:bY (λp k=>look hd p.1=some k/\look ho p.2=some k) ps ks->(ps.map (·.1)).Nodup->(ps.map (·.2)).Nodup->HH hs (.join q r ps) [hd,ho] (hd++ho.filter λc=>!decide (c.1∈ps.map (·.2)))
 |group {q ns ss hd ks js}:Looks hd ns ks->aGr hd ss js->HH hs (.group q ns ss) [hd] (ns.zip ks++(ss.map Sm.new).zip js)
 |first {q ps m hd ks}:Looks hd (ps.map (·.1)) ks->(ps.map (·.1)).Nodup->HH hs (.first q ps m) [hd] hd
inductive HQ (hs:Str->Option Hdr):Qn->Hdr->Prop
 |mk0 {q hd}:kids q=[]->HH hs q [] hd->Good hd->HQ hs q hd
 |mk1 {q k h1 hd}:kids q=[k]->HQ hs k h1->HH hs q [h1] hd->Good hd->HQ hs q hd
 |mk2 {q k l h1 h2 hd}:kids q=[k,l]->HQ hs k h1->HQ hs l h2->HH hs q [h1,h2] hd->Good hd->HQ hs q hd
def bB1 (h:IsN v x):∃t,bH K H v t/\bI t=true:=by obtain⟨rfl,n⟩:=h;exact⟨.str x,.str (by have:=fJ n;lia),n⟩
def fV (n:Nm x):bH K H (.str x) (.str x):=.str (by have:=fJ n;lia)
def bB7 (h:Vl v):aJs v=true:=by
 rcases h with⟨i,rfl,_⟩|⟨x,rfl,hx,h8⟩
 ·rfl
 ·show (false || (decide (0<=x.length) && (decide (x.length<=8) && allIn x)))=true;rw[v7 (bAK _),v7 h8,allIn_of hx];rfl
def bFd (h:IsO K H v o):∃t,bH K H v t/\pN t=true:=by
 cases o with
 |val x=>
  obtain⟨a,rfl,e,g,c⟩:=h;have c:=bB7 c;rcases g with⟨y,rfl,j⟩|⟨i,rfl⟩|⟨b,rfl⟩|⟨k,hk⟩
  ·exact⟨.tup [.str "value",.str y],.tup e (by show 2<=1000;decide) (.cons (.str (by trivial)) (.cons (.str j) .nil)),c⟩
  ·exact⟨.tup [.str "value",.int i],.tup e (by show 2<=1000;decide) (.cons (.str (by trivial)) (.cons .int .nil)),c⟩
  ·cases c
  ·cases hk <;> cases c
 |col d=>obtain⟨a,rfl,e,f⟩:=h;exact⟨.tup [.str "column",.str d],.tup e (by show 2<=1000;decide) (.cons (.str (by trivial)) (.cons (fV f) .nil)),f⟩
def bE6 (h:IsT K H v o):∃t,bH K H v t/\mR t=true:=by obtain⟨a,w,rfl,e,b,i,g⟩:=h;obtain⟨t,j,d⟩:=bFd g;have f:=aY5 i;refine⟨.tup [.str o.c,.str o.sg,t],.tup e (by show 3<=1000;decide) (.cons (fV b) (.cons (.str (by lia)) (.cons j .nil))),?_⟩;show (bI (.str o.c) && (jT (.str o.sg) signs && pN t))=true;rw[d,show bI (.str o.c)=true from b,show jT (.str o.sg) signs=true from f.1];rfl
def bEo (h:oY K H v p):∃t,bH K H v t/\cW bI 2 2 t=true:=by obtain⟨a,rfl,d,c,b⟩:=h;refine⟨.tup [.str p.1,.str p.2],.tup d (by show 2<=1000;decide) (.cons (fV c) (.cons (fV b) .nil)),?_⟩;show (bI (.str p.1) && (bI (.str p.2) && true))=true;rw[show bI (.str p.1)=true from c,show bI (.str p.2)=true from b];rfl
def bC8 (h:nZ K H v p):∃t,bH K H v t/\xH t=true:=by
 obtain⟨a,rfl,f,c,d⟩:=h;have b:jT (.str p.2) aCr=true/\p.2.length<=1000:=by rcases d with e|e <;> rw[e] <;> exact⟨by trivial,by trivial⟩
 refine⟨.tup [.str p.1,.str p.2],.tup f (by show 2<=1000;decide) (.cons (fV c) (.cons (.str b.2) .nil)),?_⟩;show (bI (.str p.1) && jT (.str p.2) aCr)=true;rw[show bI (.str p.1)=true from c,b.1];rfl
def bEk (h:lE K H v p):∃t,bH K H v t/\zJ t=true:=by
 obtain⟨a,rfl,d,h⟩:=h;rcases h with⟨_,_,f⟩|⟨c,_,hc,hw,f⟩
 ·refine⟨.tup [.str "count",.non,.str p.new],.tup f (by show 3<=1000;decide) (.cons (.str (by trivial)) (.cons .non (.cons (fV d) .nil))),?_⟩;show (jT (.str "count") jR && (bI (.str p.new) && (if aJt (.str "count") then aK6 .non else bI .non)))=true;rw[show bI (.str p.new)=true from d,show jT (.str "count") jR=true by trivial,show aJt (.str "count")=true by trivial];rfl
 ·have b:jT (.str p.wd) jR=true/\p.wd.length<=1000/\aJt (.str p.wd)=false:=by rcases hw with e|e|e <;> rw[e] <;> exact⟨by trivial,by trivial,by trivial⟩
  refine⟨.tup [.str p.wd,.str c,.str p.new],.tup f (by show 3<=1000;decide) (.cons (.str b.2.1) (.cons (fV hc) (.cons (fV d) .nil))),?_⟩;show (jT (.str p.wd) jR && (bI (.str p.new) && (if aJt (.str p.wd) then aK6 (.str c) else bI (.str c))))=true;rw[show bI (.str p.new)=true from d,b.1,b.2.2,show bI (.str c)=true from hc];rfl
def bAi {α:Type}{S:V->α->Prop}{f:Tg->Bool}{H:Hp}{vs:List V}{xs:List α}(k:∀v x,S v x->∃t,bH K H v t/\f t=true)(h:bY S vs xs):∃ts,dB K H vs ts/\ts.length=xs.length/\ts.all f=true:=by
 induction h with
 |nil=>exact⟨[],.nil,rfl,rfl⟩
 |cons r _ ih=>obtain⟨t,d,c⟩:=k _ _ r;obtain⟨ts,b,a,e⟩:=ih;exact⟨t::ts,.cons d b,by rw[d9,d9,a],by rw[List.all_cons,c,e];rfl⟩
def qJ {α:Type}{S:bFC->Hp->V->α->Prop}{f:Tg->Bool}{i d:Nat}{H:Hp}{v:V}{xs:List α}(k:∀v x,S K H v x->∃t,bH K H v t/\f t=true)(hh:d<=1000)(h:lD S i d K H v xs):∃ts,bH K H v (.tup ts)/\ts.length=xs.length/\cW f i d (.tup ts)=true:=by obtain⟨⟨a,m,rfl,e,b⟩,n,l⟩:=h;obtain⟨ts,g,c,j⟩:=bAi k b;refine⟨ts,.tup e (by have:=b.len;lia) g,c,?_⟩;show (decide (i<=ts.length) && (decide (ts.length<=d) && ts.all f))=true;rw[j,v7 (show i<=ts.length by lia),v7 (show ts.length<=d by lia)];rfl
def aDe (d:eF k=some [f,g])(e:f a=true)(c:g b=true):jB (.tup [.str k,a,b])=true:=by show (match eF k with|some fs=>decide (([a,b]:List Tg).length=fs.length) && (List.zipWith (λ(f:Tg->Bool) t=>f t) fs [a,b]).all id|none=>false)=true;rw[d];show (f a && (g b && true))=true;rw[e,c];rfl
def wF (i:eF k=some [f,g,h])(j:f a=true)(e:g b=true)(d:h c=true):jB (.tup [.str k,a,b,c])=true:=by show (match eF k with|some fs=>decide (([a,b,c]:List Tg).length=fs.length) && (List.zipWith (λ(f:Tg->Bool) t=>f t) fs [a,b,c]).all id|none=>false)=true;rw[i];show (f a && (g b && (h c && true)))=true;rw[j,e,d];rfl
def aMc (h:Nm x):jB (.tup [.str "table",.str x])=true:=by show (bI (.str x) && true)=true;rw[show bI (.str x)=true from h];rfl
def aSg (h:Nm x):SzT (.tup [.str "table",.str x]) 1:=SzT.mk (aMc h) .nil
def aUe (a:SzT q n)(h:cW mR 1 3 (.tup ts)=true):SzT (.tup [.str "where",q,.tup ts]) (ts.length+n):=
 SzT.mk (aDe rfl rfl h) (iB.mpr a)
def aYo (a:SzT q n)(h:cW bI 1 8 x=true):SzT (.tup [.str "keep",q,x]) (1+n):=
 SzT.mk (aDe rfl rfl h) (iB.mpr a)
def aSk (a:SzT q n)(h:cW bI 1 8 x=true):SzT (.tup [.str "named",q,x]) (1+n):=
 SzT.mk (aDe rfl rfl h) (iB.mpr a)
def aX6 (a:SzT q n)(b:SzT r m)(h:cW (cW bI 2 2) 1 3 x=true):SzT (.tup [.str "join",q,r,x]) (1+(n+m)):=
 SzT.mk (wF rfl rfl rfl h) (.cons a (iB.mpr b))
def aSm (a:SzT q n)(h:cW bI 0 8 x=true)(h':cW zJ 0 4 y=true):SzT (.tup [.str "group",q,x,y]) (1+n):=
 SzT.mk (wF rfl rfl h h') (iB.mpr a)
def aV5 (a:SzT q n)(h:cW xH 0 3 x=true)(h':aDs y=true):SzT (.tup [.str "first",q,x,y]) (1+n):=
 SzT.mk (wF rfl rfl h h') (iB.mpr a)
def bDi {H:Hp}{v:V}{q:Qn}(h:IsQ K H v q):∃t,bH K H v t/\SzT t (size q):=by
 induction h with
 |table a b=>exact⟨_,.tup a (by show 2<=1000;decide) (.cons (.str (by trivial)) (.cons (fV b) .nil)),aSg b⟩
 |@whr a v q w ts ha _ c ih=>obtain⟨t,i,g⟩:=ih;obtain⟨l,e,k,j⟩:=qJ (λ_ _=>bE6) (by decide) c;refine⟨_,.tup ha (by show 3<=1000;decide) (.cons (.str (by trivial)) (.cons i (.cons e .nil))),?_⟩;rw[show size (.whr q ts)=l.length+size q by rw[k];simp only[size];lia];exact aUe g j
 |@keep a v q w ns ha _ c ih=>obtain⟨t,i,g⟩:=ih;obtain⟨l,e,k,j⟩:=qJ (S:=xA) (f:=bI) (λ_ _=>bB1) (by decide) c;refine⟨_,.tup ha (by show 3<=1000;decide) (.cons (.str (by trivial)) (.cons i (.cons e .nil))),?_⟩;rw[show size (.keep q ns)=1+size q by simp only[size];lia];exact aYo g j
 |@nmd a v q w ns ha _ c ih=>obtain⟨t,i,g⟩:=ih;obtain⟨l,e,k,j⟩:=qJ (S:=xA) (f:=bI) (λ_ _=>bB1) (by decide) c;refine⟨_,.tup ha (by show 3<=1000;decide) (.cons (.str (by trivial)) (.cons i (.cons e .nil))),?_⟩;rw[show size (.nmd q ns)=1+size q by simp only[size];lia];exact aSk g j
 |@join a v q u r w ps ha _ _ c ih1 ih2=>obtain⟨t,i,g⟩:=ih1;obtain⟨z,o,p⟩:=ih2;obtain⟨l,e,k,j⟩:=qJ (S:=oY) (f:=cW bI 2 2) (λ_ _=>bEo) (by decide) c;refine⟨_,.tup ha (by show 4<=1000;decide) (.cons (.str (by trivial)) (.cons i (.cons o (.cons e .nil)))),?_⟩;rw[show size (.join q r ps)=1+(size q+size r) by simp only[size];lia];exact aX6 g p j
 |@group a v q w ns u ss ha _ c d ih=>obtain⟨t,i,g⟩:=ih;obtain⟨l,e,k,j⟩:=qJ (S:=xA) (f:=bI) (λ_ _=>bB1) (by decide) c;obtain⟨y,s,x,n⟩:=qJ (S:=lE) (f:=zJ) (λ_ _=>bEk) (by decide) d;refine⟨_,.tup ha (by show 4<=1000;decide) (.cons (.str (by trivial)) (.cons i (.cons e (.cons s .nil)))),?_⟩;rw[show size (.group q ns ss)=1+size q by simp only[size];lia];exact aSm g j n
 |@first a v q w ks m ha _ c d ih=>obtain⟨t,i,g⟩:=ih;obtain⟨l,e,k,j⟩:=qJ (S:=nZ) (f:=xH) (λ_ _=>bC8) (by decide) c;refine⟨_,.tup ha (by show 4<=1000;decide) (.cons (.str (by trivial)) (.cons i (.cons e (.cons .int .nil)))),?_⟩;rw[show size (.first q ks m)=1+size q by simp only[size];lia];refine aV5 g j ?_;show (decide ((0:Int)<=(m:Int)) && decide ((m:Int)<=60))=true;rw[v7 (by lia),v7 (by lia)];rfl
def bCq:cs abc=[97,98,99,100,101,102,103,104,105,106,107,108,109,110,111,112,113,114,115,116,117,118,119,120,121,122]:=by trivial
def bC9 (c:Nat):inS abc ⟨#[c]⟩=isL c:=by unfold inS;rw[PySem.StrLaws.found_one];show decide (c∈cs abc)=isL c;rw[bCq,bCB];simp only[isL,decide_eq_true_eq,bAI,bAJ,bAE,or_false];omega
def aQv (S x:Str)(f:Nat->Bool)(h:∀c,inS S ⟨#[c]⟩=f c):(((List.range x.cps.size).map λi=>V.str (sgn x i)).map λv=>match v with|.str y=>V.bl (inS S y)|_=>.bl false)=(((List.range x.cps.size).map λi=>f (x.cps.getD i 0)).map V.bl):=by rw[bAP,bAP];apply bDW;intro i _;show V.bl (inS S ⟨#[_]⟩)=V.bl _;rw[h]
def aJ0 (f:Str->Bool):Sp:=λvs H Q _=>∃x:Str,vs=[.str x]/\x.length<=1000/\∀H',Same H H'->Q (.bl (f x)) H'
def aEa (x:Str):Bool:=decide (x.length<=8) && (cs x).all isL
def aC4 (x:Str):lA 0 (.str x)=aEa x:=by
 show (decide (0<=x.length) && (decide (x.length<=8) && allIn x))=(decide (x.length<=8) && (cs x).all isL);rw[v7 (bAK _),bBU]
 congr 1
 unfold allIn;rw[<-range_all x isL]
 congr 1
 apply bDW;intro i _;exact bC9 _
def bAw (G:Ok P w K mg base 1 "is_word" m5 (qN K (lA 0))):Ok P w K mg base 1 "is_word" m5 (aJ0 aEa):=
 aSq G λb H Q E ⟨x,e,h,q⟩=>⟨_,e,.inl ⟨x,rfl,h⟩,λa s=>by rw[aC4];exact q a s⟩
def aCf (x:Str):Bool:=zA (cs x)
def aD0 (T:Txt w K mg):Ok P w K mg base 1 "are_figures" bQC (aJ0 aCf):=by
 refine Ok.ofV T.aEw aDr (by trivial) (λf J A j s H S Q E Y h=>?_)
 obtain⟨x,rfl,k,q⟩:=h;refine⟨_,(aA (bN (VW.pt (nH (eO (aJ2 aGh aGh aC (aR kY (by rfl) T.eN cR (va1 (vv 0))) (dY (by rfl) T.aEj))) (jY (eO (cP (aR (pH rfl) (by rfl) T.aGj aAb (va1 (cZ (N:=["sign"]) ck eV rfl (aU7 (vv 0)) (λcl W M X=>⟨(fZ 0),eZ,(tH aFf (vv 0) (dY (by rfl) T.aRs) (by with_unfolding_all rfl))⟩))))))))) (aB (aJ iW)) aU) (aB (aJ (aZe (uC cJ (vv 0) aF) (jX (uC nJ (iR (vv 0) aC (λ_ _=>rfl)) aF)))))),?_⟩;refine⟨_,rfl,_,rfl,small k,_,_,rfl,rfl,_,rfl,?_⟩;have U:=iK x;have m:aCf x=false->Q (.bl false) H:=λe=>by rw[<-e];exact q H (Same.refl H)
 refine pQ (λc=>⟨_,_,rfl,rfl,_,rfl,?_⟩) (λc=>?_)
 ·have I:=of_decide_eq_true c;by_cases F:x.length<=60
  ·rw[v7 (by lia)];refine aZ ?_;dsimp only[mO,vX,tCB,dO,tB,aWf];refine aGk ((List.range x.cps.size).map λi=>V.str (sgn x i)) (λv=>match v with|.str y=>V.bl (inS figs y)|_=>.bl false) [none] iM ?_
    (λR r=>aSv (λZ L=>⟨_,rfl,L⟩) R r) (λv g M R l u r=>?_) rfl λD O=>?_
   ·rw[d7,bAH];exact small k
   ·obtain⟨i,_,rfl⟩:=List.mem_map.mp g;exact⟨_,rfl,_,_,rfl,rfl,r⟩
   ·refine⟨D,(List.range x.cps.size).map λi=>isD (x.cps.getD i 0),rfl,SqL.of (by rw[aL,aQv _ _ _ inF]),?_⟩;rw[range_all];have u:=bV O (.lst (((List.range x.cps.size).map λi=>V.str (sgn x i)).map λv=>match v with|.str y=>V.bl (inS figs y)|_=>.bl false));have z:aCf x=((cs x).all isD && (decide (cs x=[48]) || !decide ((cs x).head?=some 48))):=by unfold aCf zA;rw[v7 (by lia),v7 (by lia)];rfl
    have a:∀b,aCf x=b->Q (.bl b) _:=λb e=>by rw[<-e];exact q _ u
    refine⟨_,rfl,?_⟩;cases t:(cs x).all isD with
    |false=>rw[t] at z;exact bQ (a _ z)
    |true=>
     rw[t] at z;refine aZ ⟨_,rfl,rfl,_,rfl,?_⟩;have C:∀y:Str,decide (V.str x=V.str y)=decide (cs x=cs y):=λy=>decide_eq_decide.mpr ⟨λe=>jG.mp (V.str.inj e),λe=>congrArg V.str (jG.mpr e)⟩;rw[C,show cs "0"=[48] by trivial];cases n:decide (cs x=[48]) with
     |true=>rw[n] at z;exact bQ (a _ z)
     |false=>
      rw[n] at z;refine aZ ?_;have d:0<x.cps.size:=by have:x.length=x.cps.size:=rfl;lia
      refine⟨_,rfl,_,_,_,rfl,rfl,(by decide),(by decide),(by lia),bAN d,rfl,?_⟩;have B:(!decide (V.str ⟨#[x.cps[0]]⟩=V.str "0"))=!decide ((cs x).head?=some 48):=by
       congr 1
       refine decide_eq_decide.mpr ⟨λe=>?_,λe=>?_⟩
       ·have o:=jG.mp (V.str.inj e);rw[show cs "0"=[48] by trivial] at o;have G:x.cps[0]=48:=by simpa [cs] using o
        rw[List.head?_eq_getElem?,bBG,bAN d,G]
       ·rw[List.head?_eq_getElem?,bBG,bAN d] at e;rw[bAM e];decide +kernel
      rw[B];exact a _ z
  ·rw[j6 (by lia)];refine bQ (m ?_);unfold aCf zA;rw[j6 (p:=(cs x).length<=60) (by lia)];simp
 ·have I:=of_decide_eq_false (Bool.eq_false_iff.mpr c);refine⟨_,rfl,bQ (m ?_)⟩;unfold aCf zA;rw[j6 (by lia)];simp
def aGx (x:Str):Bool:=aE3 (cs x)
def qtB (x:Str):Bool:=aMv (cs x)
def bEt (x:Str):decide (V.str ⟨((cs x).take 1).toArray⟩=V.str "-")=decide ((cs x).head?=some 45):=by
 refine decide_eq_decide.mpr ⟨λe=>?_,λe=>?_⟩
 ·have c:=jG.mp (V.str.inj e);rw[show cs "-"=[45] by trivial] at c;have b:(cs x).take 1=[45]:=by simpa [cs] using c
  cases h:cs x with
  |nil=>rw[h] at b;cases b
  |cons a t=>rw[h] at b;simp at b;rw[b];rfl
 ·cases h:cs x with
  |nil=>rw[h] at e;cases e
  |cons a t=>rw[h] at e;cases e;exact congrArg V.str (jG.mpr (by rw[show cs "-"=[45] by trivial];rfl))
def yK (T:Txt w K mg)(r:Ok P w K mg base 1 "are_figures" bQC (aJ0 aCf)):Ok P w K mg base 2 "is_number_text" bQC (aJ0 aGx):=by
 refine Ok.ofV T.aAl xR (by trivial) (λf m A i s H u Q E t h=>?_)
 obtain⟨x,rfl,g,q⟩:=h;refine⟨_,(aA (bN (cT cJ (dI qH (vv 0) iC (cY aC)) aF) (aB (aJ (iJ (bU r (va1 (dI qH (vv 0) (cY aC) iC))) (jX (uC nJ (vv 0) aF))))) aU) (aB (aJ (bU r (va1 (vv 0)))))),?_⟩;have v:=iK x;refine⟨_,rfl,_,rfl,_,rfl,small g,?_⟩;rw[bD6];refine⟨rfl,_,rfl,?_⟩;rw[bEt];refine pQ (λc=>?_) (λc=>?_)
 ·have a:=of_decide_eq_true c;have p:1<=(cs x).length:=by cases h:cs x with
   |nil=>rw[h] at a;cases a
   |cons _ _=>simp
  refine⟨_,rfl,_,rfl,_,rfl,small g,?_⟩;rw[aYs p];refine⟨_,rfl,(by show (List.toArray _).size<=1000;rw[m9,List.length_tail];lia),λk j=>⟨_,rfl,?_⟩⟩;have z:aGx x=(zA (cs x).tail && !decide (cs x=[45,48])):=by unfold aGx aE3;rw[if_pos a]
  have n:aCf ⟨(cs x).tail.toArray⟩=zA (cs x).tail:=rfl;rw[n];have d:∀b,aGx x=b->Q (.bl b) k:=λb e=>by rw[<-e];exact q _ j
  cases l:zA (cs x).tail with
  |false=>rw[l] at z;exact aZ (d _ z)
  |true=>rw[l] at z;refine bQ ⟨_,rfl,rfl,?_⟩;have o:decide (V.str x=V.str "-0")=decide (cs x=[45,48]):=decide_eq_decide.mpr ⟨λe=>by rw[jG.mp (V.str.inj e)];decide +kernel,λe=>congrArg V.str (jG.mpr (by rw[e];decide +kernel))⟩;rw[o];exact d _ z
 ·have a:=of_decide_eq_false (Bool.eq_false_iff.mpr c);refine⟨_,rfl,_,rfl,g,λk j=>?_⟩;have z:aGx x=aCf x:=by unfold aGx aE3 aCf;rw[if_neg a]
  rw[<-z];exact q _ j
def first_is (hn:0<x.cps.size)(y:Str)(c:Nat)(d:cs y=[c]):decide (V.str ⟨#[x.cps[0]]⟩=V.str y)=decide ((cs x).head?=some c):=by
 have a:(cs x).head?=some x.cps[0]:=by rw[List.head?_eq_getElem?,bBG,bAN hn]
 refine decide_eq_decide.mpr ⟨λe=>?_,λe=>?_⟩
 ·have b:=jG.mp (V.str.inj e);rw[d] at b;have f:x.cps[0]=c:=by simpa [cs] using b
  rw[a,f]
 ·rw[a] at e;rw[bAM e];exact congrArg V.str (jG.mpr (by rw[d]))
def aW7 {x:Str}(hn:0<x.cps.size):(seqIndex? (-1) x.length).bind (x.cps[·]?)=some (x.cps[x.cps.size - 1]'(by lia)):=by have a:x.length=x.cps.size:=rfl;rw[PySem.StrLaws.seqIndex_neg (by decide) (by lia)];show x.cps[((-1:Int)+x.length).toNat]?=_;rw[show ((-1:Int)+x.length).toNat=x.cps.size - 1 by lia,bAN (by lia)]
def aWb (hn:0<x.cps.size)(y:Str)(c:Nat)(d:cs y=[c]):decide (V.str ⟨#[x.cps[x.cps.size - 1]'(by lia)]⟩=V.str y)=decide ((cs x).getLast?=some c):=by
 have a:(cs x).getLast?=some (x.cps[x.cps.size - 1]'(by lia)):=by rw[List.getLast?_eq_getElem?,bBG,bAU,bAN (by lia)]
 refine decide_eq_decide.mpr ⟨λe=>?_,λe=>?_⟩
 ·have b:=jG.mp (V.str.inj e);rw[d] at b;have f:x.cps[x.cps.size - 1]'(by lia)=c:=by simpa [cs] using b
  rw[a,f]
 ·rw[a] at e;rw[bAM e];exact congrArg V.str (jG.mpr (by rw[d]))
def aBz (T:Txt w K mg)(t:Ok P w K mg base 1 "is_word" m5 (aJ0 aEa)):Ok P w K mg base 2 "is_word_text" bQC (aJ0 qtB):=by
 refine Ok.ofV T.aDv aBw (by trivial) (λf o A j s H y Q E u h=>?_)
 obtain⟨x,rfl,m,q⟩:=h;refine⟨_,(aB (aJ (iJ (uC bD2 (aR kY (by rfl) T.eN cR (va1 (vv 0))) aC) (iJ (uC cJ (iR (vv 0) aC (λ_ _=>rfl)) aF) (iJ (uC cJ (aHh (vv 0) (aJn aCs aC) (λ_ _=>rfl)) aF) (jX (bU t (va1 (dI qH (vv 0) (cY aC) (cY (aJn aCs aC))))))))))),?_⟩;have B:=iK x;have n:cs "'"=[39]:=aX1;have a:∀b,qtB x=b->Q (.bl b) H:=λb e=>by rw[<-e];exact q _ (Same.refl H)
 refine⟨_,rfl,_,rfl,small m,_,_,rfl,rfl,_,rfl,?_⟩;unfold qtB aMv at a;refine pQ (λc=>?_) (λc=>?_)
 ·have d:2<=(cs x).length:=by have:(2:Int)<=x.length:=of_decide_eq_true c;lia
  have g:0<x.cps.size:=by have:x.length=x.cps.size:=rfl;lia
  rw[v7 d] at a;refine⟨_,rfl,_,_,_,rfl,rfl,(by decide),(by decide),(by lia),bAN g,rfl,_,rfl,?_⟩;rw[first_is g _ _ n];cases k:decide ((cs x).head?=some 39) with
  |false=>rw[k] at a;exact aZ (a _ rfl)
  |true=>
   rw[k] at a;refine bQ ⟨_,rfl,_,rfl,_,_,_,rfl,rfl,(by decide),(by decide),aW7 g,rfl,_,rfl,?_⟩;rw[aWb g _ _ n];cases i:decide ((cs x).getLast?=some 39) with
   |false=>rw[i] at a;exact aZ (a _ rfl)
   |true=>
    rw[i] at a;refine bQ ⟨_,rfl,_,rfl,_,rfl,_,rfl,_,rfl,small m,?_⟩;rw[bEv d];have l:(⟨(inn (cs x)).toArray⟩:Str).length=(inn (cs x)).length:=by show (List.toArray _).size=_;rw[m9]
    have v:(inn (cs x)).length<=(cs x).length:=by unfold inn;rw[List.length_dropLast,List.length_tail];lia
    refine⟨_,rfl,by rw[l];lia,λr p=>?_⟩;have z:aEa ⟨(inn (cs x)).toArray⟩=qtB x:=by unfold aEa qtB aMv;rw[l,v7 d,k,i];rfl
    rw[z];exact q _ p
 ·have d:¬ 2<=(cs x).length:=by have:¬ (2:Int)<=x.length:=of_decide_eq_false (Bool.eq_false_iff.mpr c);lia
  rw[j6 d] at a;exact a _ rfl
def rdT (v:V):Option V:=match v with
 |.str x=>rdV x
 |_=>none
def aO4 (K:bFC)(C:Addr):Sp:=λvs H Q E=>∃v,vs=[v]/\Th K H v/\match rdT v with
 |some u=>∀H',Same H H'->Q u H'
 |none=>∀e H',Same H H'->E (.ref C) (some e) H'
def aEp (T:Txt w K mg)(c:ExT K mg lM "NoWords" "ShardError.__init__" C S)(I:Ok P w K mg base 2 "is_number_text" bQC (aJ0 aGx))(B:Ok P w K mg base 2 "is_word_text" bQC (aJ0 qtB)) :
  OkX P w K mg base 3 "read_value" bQI (aO4 K C):=by
 refine OkX.ofV T.aGm aE7 (by trivial) (λf G A o s H R Q E y h=>?_)
 obtain⟨v,rfl,u,q⟩:=h;refine⟨_,(aA (bN (eO (cP (aR (gA.or fH) (by rfl) T.bJ bC (aG (vv 0) (va1 (dW (v:=.ty "str") (by rfl) T.qU kI rfl)))))) (aB (xV c (λr z F=>aB3 (k:=0) F aB7 (hinit T r)) (y.mono (by first|decide|lia)) tX rfl (by rfl) (va1 gQ))) aU) (aA (bN (cP (bU I (va1 (vv 0)))) (aB (aJ (bG aR6 (by rfl) T.aFx aAo (va1 (vv 0))))) aU) (aA (bN (cP (bU B (va1 (vv 0)))) (aB (aJ (dI qH (vv 0) (cY aC) (cY (aJn aCs aC))))) aU) (aB (xV c (λr z F=>aB3 (k:=0) F aB7 (hinit T r)) (y.mono (by first|decide|lia)) tX rfl (by rfl) (va1 gQ)))))),?_⟩;refine⟨_,rfl,gK u (.inr (.inr rfl)) ⟨_,rfl,?_⟩⟩;have l:∀{d:Hp} {D:Ends} {σ:L2.St},Same H d->rdT v=none->aHn C E (dO (tC V.non) wC) D σ d:=λ{d D σ} g e=>by rw[e] at q;exact⟨rfl,λa O N J W=>q a _ (g.trans (bV J _))⟩
 rcases id u with⟨x,rfl,n⟩|⟨i,rfl⟩|⟨b,rfl⟩|⟨k,h⟩
 ·refine aZ ⟨_,rfl,_,rfl,n,λd g=>⟨_,rfl,?_⟩⟩;have U:=iK x;have m:rdT (.str x)=if aGx x then some (.int (aMp (cs x))) else if qtB x then some (.str ⟨(inn (cs x)).toArray⟩) else none:=rfl
  rw[m] at q;cases j:aGx x with
  |true=>rw[j,if_pos rfl] at q;exact bQ ⟨_,rfl,_,_,rfl,(aPg j).1,(aPg j).2,q d g⟩
  |false=>
   rw[j,if_neg (by decide)] at q m;refine aZ ⟨_,rfl,_,rfl,n,λL t=>⟨_,rfl,?_⟩⟩;cases p:qtB x with
   |true=>
    rw[p,if_pos rfl] at q;have M:2<=(cs x).length:=by have:=p;unfold qtB aMv at this;exact of_decide_eq_true (Bool.and_eq_true_iff.mp this).1
    refine bQ ⟨_,rfl,_,rfl,_,rfl,_,rfl,_,rfl,small n,?_⟩;rw[bEv M];exact q L (g.trans t)
   |false=>rw[p,if_neg (by decide)] at m;exact aZ (l (D:={ nx:=λ_ _=>True,rt:=Q }) (σ:=[]) (g.trans t) m)
 ·exact bQ (l (Same.refl H) rfl)
 ·exact bQ (l (Same.refl H) rfl)
 ·cases h <;> exact bQ (l (Same.refl H) rfl)
def zB:Sp:=λvs H Q _=>∃v,vs=[v]/\Vl v/\Q (.str (shw v)) H
def aHv {i:Int}(h:i.natAbs<10 ^ 60):i.natAbs.log2<1920:=by
 by_cases z:i.natAbs=0
 ·rw[z];decide
 ·exact (Nat.log2_lt z).mpr (bEU h (by trivial))
def aCk (T:Txt w K mg)(l:Ok P w K mg base 1 "is_whole" m5 (pC K)):Ok P w K mg base 2 "shown_value" ["value"] zB:=by
 refine Ok.ofV T.aEy aCu (by trivial) (λf c A a s H j Q E g h=>?_)
 obtain⟨v,rfl,b,q⟩:=h;refine⟨_,(aB (aJ (jO (cP (bU l (va1 (vv 0)))) (bG kO (by rfl) T.qU kI (va1 (vv 0))) (aW aP (aW aP aF (vv 0)) aF)))),?_⟩;refine⟨_,rfl,_,rfl,b.th,_,rfl,?_⟩;rcases b with⟨i,rfl,d⟩|⟨x,rfl,hx,h8⟩
 ·exact bQ ⟨_,rfl,_,rfl,aHv d,q⟩
 ·refine aZ ⟨_,rfl,_,_,rfl,rfl,?_,_,_,rfl,rfl,?_,q⟩
  ·have:Str.length "'"=1:=by trivial
   exact small (by lia)
  ·have e:Str.length "'"=1:=by trivial
   have k:(("'":Str)++x).length=1+x.length:=by rw[iK,aGu,aX1,j4,<-iK];rfl
   exact small (by lia)
end
end My
namespace HT
open PySem PySem.Spec PyProof.Rows L2
section
variable {prog:Program}{w:World}{A:Around}{E:bFD}{s:Shared}
def uB {t z:Addr}{a:Array Value}{vl vu:Value}{i x:Option Int}{Q:bFD}(c:IsTup s.heap t a)(hs:s.heap.IsSliceOf z vl vu .none)(pl:IsPart vl i)(F:IsPart vu x)
  (y:sIx a.size 0 i=0/\sIx a.size a.size x=a.size) (h:Q (.ref t) s):wpAny (model prog w) A (getItem (.ref t) (.ref z)) Q E s:=by
 obtain⟨q,e,j,u⟩:=id hs;have f:s.TypeIs (.ref z) "slice":=⟨q,e,j⟩;obtain⟨⟨r,D,m,p⟩,v,l,n,k⟩:=id c;simp only at l k;subst l k;unfold getItem
 try with_reducible refine bBI ?_
 first|refine b7 (j8 ?_)|skip
 refine b7 (wpAny_sequenceKey c.typeIs (by decide) ?_);refine b7 (bBB c.typeIs bCC
  (bBN bCC c.typeIs entry_tuple_getitem ?_ (args_tuple_getitem _ _)))
 show wpAny _ _ (Builtin.Tuple.tupleItemsOf (.ref t) >>= _) _ _ s;refine b7 (tupleItemsOf_ c ?_);refine b7 (wpAny_typeOf f ?_);rw[if_pos (by decide)];refine b7 (pK hs pl F ?_);have b:((((sIx a.size 0 i:Nat):Int) == 0 && (1:Int) == 1 && (sIx a.size a.size x - sIx a.size 0 i) == a.size)=true):=by rw[y.1,y.2];simp
 show wpAny _ _ (if (((sIx a.size 0 i:Nat):Int) == 0 && (1:Int) == 1 && (sIx a.size a.size x - sIx a.size 0 i) == a.size)=true then _ else _) _ _ s;rw[if_pos b];obtain⟨B,g,d,C,o⟩:=s;wp_walk using AutoSeq1.wpAny_loadPart' v;exact⟨_,rfl,j8 h⟩
end
end HT
namespace L2
open PySem PySem.Spec PyProof.Rows
def bEb (K:bFC):V->Option Int->Option Int->Hp->VK->Prop:=λx lo hi H Q=>∃a xs,x=.ref a/\SqT K H a xs/\∀p H',Same H H'->SqT K H' p (oM xs lo hi)->Q (.ref p) H'
def aPv:SlR X (bEb X.K):=by
 intro g s σ H x v z u j k B Q I m l n o h;obtain⟨a,b,rfl,i,q⟩:=h;by_cases d:HT.sIx b.length 0 j=0/\HT.sIx b.length b.length k=b.length
 ·cases m;obtain⟨f,r,t,C⟩:=I.tuple i;have c:f.toArray.size=b.length:=by rw[m9];exact r.length.symm
  refine⟨"tuple",_,PyProof.Rows.slot_tuple_getitem.lookup,t.typeIs,?_⟩;refine HT.uB t l n o (by rw[c];exact d) ⟨.ref a,H,I,rfl,q a H (Same.refl H) ?_⟩;have e:oM b j k=b:=by unfold oM;rw[d.1,d.2,bEX,Nat.sub_zero,bBP]
  rw[e];exact i
 ·exact aHt g s σ H _ v z u j k B Q I m l n o ⟨a,b,rfl,i,d,λp y w A=>q p y w (SqT.of A)⟩
def bFh (K:bFC):R2:=λx y H Q=>∃a b xs,x=.ref a/\y=.ref b/\SqL K H a xs/\SqL K H b []/\Q (.bl xs.isEmpty) H
def bAz (w:X.A.units<cLine):OpR X (compareOp .Eq) (bFh X.K):=by
 intro m s σ H x y v u Q I n r h;obtain⟨a,b,k,rfl,rfl,B,z,q⟩:=h;cases n;cases r;obtain⟨i,l,f,E⟩:=I.list B;obtain⟨t,c,g,F⟩:=I.list z;have d:=l.length;have p:=c.length;have o:=List.length_eq_zero_iff.mp p.symm;subst o;cases k with
 |nil=>have C:=List.length_eq_zero_iff.mp d.symm;subst C;refine SeqAt.RcAt.lists (e:=λ_=>true) f.isList g.isList rfl w (λj D G=>by simp at D) _ _ _ _ ?_;exact⟨.bl true,H,I,rfl,q⟩
 |cons y ys=>
  refine SeqAt.RcAt.lists_lengths f.isList g.isList ?_ w _ _ _ _ ?_
  ·rw[d9] at d;simp only[m9,bCL];rw[<-d];simp
  ·exact⟨.bl false,H,I,rfl,q⟩
section
variable {X:Cx}
end
inductive PH (P:Program)(w:World):List DictEntry->List (Str × Value)->Prop
 |nil:PH P w [] []
 |cons {e:DictEntry} {kv:Str × Value} {es:List DictEntry} {kvs:List (Str × Value)}:(strKind P w).is kv.1 e.key=true->e.hash=(strKind P w).hash kv.1->e.val=kv.2->PH P w es kvs->PH P w (e::es) (kv::kvs)
def PH.keys (h:PH P w es kvs):∀e∈es,∃k,(strKind P w).is k e.key=true/\e.hash=(strKind P w).hash k:=by
 induction h with
 |nil=>intro e he;cases he
 |cons a b c _ ih=>
  intro e he;rcases List.mem_cons.mp he with rfl|he
  ·exact⟨_,a,b⟩
  ·exact ih e he
def PH.pairs (h:PH P w es kvs):Pairs (strKind P w) es kvs:=by
 induction h with
 |nil=>exact .nil
 |cons a b c _ ih=>exact .cons a c ih
def aRq {P:Program}{w:World}{o:Obj}{c:Array DictEntry}{ep:Nat}{kvs:List (Str × Value)}(f:o.ExactDict)(b:o.data=.dict c ep)(h:PH P w c.toList kvs)(d:(kvs.map (·.1)).Nodup):o.IsDictOf (strKind P w) kvs:=
 ⟨c,ep,f,b,λe a=>h.keys e (Array.mem_toList_iff.mpr a),h.pairs,d⟩
end L2
namespace PySem
def aBy:typeLookup (.type "tuple") "keys"=pure none:=am_miss_of_fast (by trivial)
def aCi:typeLookup (.type "list") "keys"=pure none:=am_miss_of_fast (by trivial)
def sqN:Bool->String
 |true=>"list"
 |false=>"tuple"
section
variable {prog:Program}{w:World}{A:Around}{E:bFD}{s:Shared}
def aIq (t:s.heap.get? a=some o)(r:o.cls=.type "tuple")(i:o.data=.seq xs k)(q:o.dict=none)(D:A.handled=none)
  (h:∀h' tk,(∀b u,s.heap.get? b=some u->h'.get? b=some u)->Q none { s with heap:=h',toks:=tk }):wpAny (model prog w) A (getAttr? (.ref a) "keys") Q E s:=by
 obtain⟨c,m,v,x⟩:=o;simp only at r i q;subst r i q;obtain⟨n,g,d,tk,p⟩:=s;have l:∀f,(⟨n,g,d,f,p⟩:Shared).TypeIs (.ref a) "tuple":=λ_=>⟨_,t,rfl⟩;have z:=sub_AttributeError;have B:=F.slot_tuple_getattribute.lookup;have I:=F.slot_tuple_getattribute.bind (.ref a);have H:=am_tuple_getattr_none;unfold getAttr? getAttrBy? getAttrBy
 repeat (any_goals (first|assumption|exact l _|((with_reducible show wpAny _ _ (call (Value.builtin "tuple.__getattribute__") _ _) _ _ _);refine call_meets F.slot_tuple_getattribute (l _) am_entry_tuple_getattribute (F.args_tuple_getattribute_2 _ _) (meets_getattribute_miss_tuple a xs k x "keys" _ aBy (by trivial) (by size_fits)) ⟨t,D,λh' f e j=>?_⟩)|wp_step))
 obtain⟨C,G,y⟩:=j.there;unfold getattributeRaised
 repeat (any_goals (first|assumption|wp_step))
 exact h _ _ j.keeps
def aKo (t:s.heap.get? a=some o)(r:o.cls=.type "list")(i:o.data=.seq xs k)(q:o.dict=none)(D:A.handled=none)
  (h:∀h' tk,(∀b u,s.heap.get? b=some u->h'.get? b=some u)->Q none { s with heap:=h',toks:=tk }):wpAny (model prog w) A (getAttr? (.ref a) "keys") Q E s:=by
 obtain⟨c,m,v,x⟩:=o;simp only at r i q;subst r i q;obtain⟨n,g,d,tk,p⟩:=s;have l:∀f,(⟨n,g,d,f,p⟩:Shared).TypeIs (.ref a) "list":=λ_=>⟨_,t,rfl⟩;have z:=sub_AttributeError;have B:=F.slot_list_getattribute.lookup;have I:=F.slot_list_getattribute.bind (.ref a);have H:=am_list_getattr_none;unfold getAttr? getAttrBy? getAttrBy
 repeat (any_goals (first|assumption|exact l _|((with_reducible show wpAny _ _ (call (Value.builtin "list.__getattribute__") _ _) _ _ _);refine call_meets F.slot_list_getattribute (l _) am_entry_list_getattribute (F.args_list_getattribute_2 _ _) (meets_getattribute_miss_list a xs k x "keys" _ aCi (by trivial) (by size_fits)) ⟨t,D,λh' f e j=>?_⟩)|wp_step))
 obtain⟨C,G,y⟩:=j.there;unfold getattributeRaised
 repeat (any_goals (first|assumption|wp_step))
 exact h _ _ j.keeps
def aQ3 (g:s.heap.get? a=some o)(f:o.cls=.type (sqN L))(c:o.data=.seq xs k)(e:o.dict=none)(d:A.handled=none)
  (h:∀h' tk,(∀b u,s.heap.get? b=some u->h'.get? b=some u)->Q none { s with heap:=h',toks:=tk }):wpAny (model prog w) A (getAttr? (.ref a) "keys") Q E s:=by
 cases L
 ·exact aIq g f c e d h
 ·exact aKo g f c e d h
end
def jA:entryFor table "dict.update.loop"=some Builtin.«dict.update.loop»:=entryFor_of_tree (by kernel_rfl)
def dR:plainId "dict.update.loop"=true:=by trivial
section
variable {prog:Program}{w:World}{κ:Type}[DecidableEq κ]{knd:KeyKind prog w κ}
def wG (knd:KeyKind prog w κ)(h:Heap)(v:Value)(kv:κ × Value):Prop:=∃p key,v=.ref p/\PyProof.Rows.IsTup h p #[key,kv.2]/\knd.is kv.1 key=true
def wG.at (x:wG knd h v kv)(k:∀p,v=.ref p->∀o,h.get? p=some o->h'.get? p=some o):wG knd h' v kv:=by obtain⟨p,a,rfl,⟨o,b,r⟩,c⟩:=x;exact⟨p,a,rfl,⟨o,k p rfl o b,r⟩,c⟩
def aBs (W:Walks prog w A.in1 I fp wr n P St)(D:Addr)(hD:D∉fp)
  (kvs:List (κ × Value)) (a0:kvs.length=n) (hb:n<=1000) (hP:∀i v,P i v->∀p,v=.ref p->p∉D::wr) :
  ∀k i s t,i+k=n->St i s.heap->s.heap.DictOf knd D (merged [] (kvs.take i))->(∀j v kv,P j v->kvs[j]?=some kv->wG knd s.heap v kv) ->
   (∀h' tk,(∀b o,b∉D::wr->s.heap.get? b=some o->h'.get? b=some o)->h'.DictOf knd D (merged [] kvs)->R (.ok (.ret .none)) { s with heap:=h',toks:=tk }) ->
   codeAny (model prog w) A (.builtin "dict.update.loop" ⟨[.ref D,.ref I,.int (i:Nat) t,.none],[]⟩) R s:=by
 have u:D∉wr:=λq=>hD (W.sub _ q);intro k
 induction k with
 |zero=>
  intro i s t hi st C Y q;obtain rfl:i=n:=by lia
  refine bEC jA ?_;rw[bDR dR _];refine b7 (W.done s _ _ st λh' tk kp=>?_);refine b7 (j8 (j8 (q h' tk (λb o f e=>kp b o (λz=>f (j7 _ z)) e) ?_)));rw[bBK (Nat.le_of_eq a0)] at C;exact C.at λo e=>kp D o u e
 |succ k ih=>
  intro i s t hi st C Y q;refine bEC jA ?_;rw[bDR dR _];refine b7 (W.item i s _ _ (by lia) st λv F a hv N c=>?_);have X:i<kvs.length:=by lia
  have y:=b8 X;have S:=C.at λo e=>c D o u e;have r:∀j v kv,P j v->kvs[j]?=some kv->wG knd F v kv:=λj v kv x e=>(Y j v kv x e).at λp T o L=>c p o (λz=>hP j v x p T (j7 _ z)) L;obtain⟨p,U,rfl,⟨⟨oc,od,ox,a1⟩,ho,Z,m,hx⟩,hk⟩:=r i v _ hv y;simp only at Z hx;subst Z hx;have M:(merged [] (kvs.take i)).length<=i:=by have:=merged_length_le [] (kvs.take i);rw[bAV] at this;simp only[bCL] at this;lia
  obtain⟨H,g,d,tk,K⟩:=s;have hT:(⟨F,g,d,a,K⟩:Shared).TypeIs (.ref p) "tuple":=⟨_,ho,rfl⟩;have V:∀Q E,Q [U,kvs[i].2] ⟨F,g,d,a,K⟩->wpAny (model prog w) A.in1 (Builtin.Dict.pairItems (.ref p)) Q E ⟨F,g,d,a,K⟩:=by intro Q E h;unfold Builtin.Dict.pairItems;wp_walk;exact h
  refine b7 (bBI (b7 (wpAny_tryCatch (V _ _ ?_))));refine bBI (wpAny_dictSet_pairs hk S (λh2 B l=>?_) (bAG M (bAG (by lia) (show 1000<=sizeLine by decide))));have e1:=merged_take_succ [] kvs i _ y;rw[<-e1] at B;refine j8 ⟨plainId_quiet dR _,?_⟩;have J:∀b o,b∉D::wr->H.get? b=some o->h2.get? b=some o:=λb o f e=>by rw[l.2 b (λz=>f (by rw[z];exact j5))];exact c b o (λz=>f (j7 _ z)) e
  refine ih (i+1) _ _ (by lia) (W.frame _ _ _ N λb hb o e=>?_) B (λj v kv x e=>(r j v kv x e).at λp' T o L=>?_) λh' G kp O=>q h' G (λb o f e=>kp b o f (J b o f e)) O
  ·rw[l.2 b (λz=>hD (by rw[<-z];exact hb))];exact e
  ·rw[l.2 p' (λz=>hP j v x p' T (by rw[z];exact j5))];exact L
end
section
variable {prog:Program}{w:World}{κ:Type}[DecidableEq κ]{knd:KeyKind prog w κ}{A:Around}{E:bFD}{s:Shared}
def aX3 (L:Bool)(g:h2.get? t=some o)(f:o.cls=.type (sqN L))(d:o.data=.seq its n)(c:A.handled=none)(b:t≠h2.objs.size) :
  ∃io St,Walks prog w A h2.objs.size [h2.objs.size,t] [h2.objs.size] its.size (λi v=>its[i]?=some v) St/\St 0 (h2.push io)/\∀s:Shared,s.heap=h2->∀Q E,Q (.ref h2.objs.size) { s with heap:=h2.push io }->wpAny (model prog w) A (pyIter (.ref t)) Q E s:=by
 cases L
 ·have a:h2.IsTuple t its:=⟨o,g,f,n,d⟩;exact⟨_,_,Walks.tuple c _ t b its,⟨⟨_,w6 _ rfl,rfl,rfl⟩,a.push _⟩,λs e Q E q=>by subst e;exact bED a q⟩
 ·have a:h2.IsList t its:=⟨o,g,f,n,d⟩;exact⟨_,_,Walks.list c _ t b its,⟨⟨_,w6 _ rfl,rfl,rfl⟩,a.push _⟩,λs e Q E q=>by subst e;exact bCX a q⟩
def aIs (L:Bool){t n:Nat}{its:Array Value}{kvs:List (κ × Value)}{o:Obj}{Q:bFD}(l:A.handled=none)(S:s.heap.get? t=some o)(C:o.cls=.type (sqN L))(H:o.data=.seq its n)(T:o.dict=none)(h:kvs.length=its.size)(Y:its.size<=1000)
  (D:∀(j:Nat) (v:Value) (kv:κ × Value),its[j]?=some v->kvs[j]?=some kv->wG knd s.heap v kv)
  (q:∀h' tk,h'.DictOf knd s.heap.objs.size (merged [] kvs)->(∀b o,s.heap.get? b=some o->h'.get? b=some o)->Q (.ref s.heap.objs.size) { s with heap:=h',toks:=tk }) :
  wpAny (model prog w) A (call (.type "dict") [.ref t]) Q E s:=by
 refine callType_codes (Q₁:=λg B=>g=.ref s.heap.objs.size/\B={ s with heap:=s.heap.push { cls:=.type "dict",data:=.dict #[] } }) F.kt_called_dict (F.kt_typeCall_dict_1 _) F.entry_dict_init (kt_code_dict_new _ ⟨rfl,rfl⟩) ?_;rintro g B ⟨rfl,rfl⟩;have a:(s.heap.push { cls:=.type "dict",data:=.dict #[] }).DictOf knd s.heap.objs.size []:=Heap.DictOf.new s.heap;have f:(s.heap.push { cls:=.type "dict",data:=.dict #[] }).get? t=some o:=c7 _ S;have J:Shared.TypeIs { s with heap:=s.heap.push { cls:=.type "dict",data:=.dict #[] } } (.ref t) (sqN L):=⟨o,f,C⟩;have k:t<s.heap.objs.size:=z9 S;refine⟨a.typeIs,F.args_dict_init_2 _ _,?_⟩;unfold Builtin.«dict.__init__»;refine b7 ?_;unfold Builtin.Dict.selfAndRest;refine b7 (wpAny_notOrdered_dict a.typeIs ?_);show wpAny _ _ (pure (s.heap.objs.size,[Value.ref t])) _ _ _;refine j8 ?_;show wpAny _ _ (Builtin.Dict.updateFrom "dict.__init__" s.heap.objs.size (.ref t) [] .none) _ _ _;unfold Builtin.Dict.updateFrom;refine b7 (wpAny_typeOf J ?_);rw[if_pos (by cases L <;> decide)];refine b7 (aQ3 (L:=L) f C H T (by first|exact l|simp[l]) λy U c=>?_);rw[if_pos (show (none:Option Value).isNone=true from rfl)];have u:y.get? t=some o:=c _ _ f;have K:(s.heap.push { cls:=.type "dict",data:=.dict #[] }).objs.size=s.heap.objs.size+1:=bCH ..;have d:s.heap.objs.size<y.objs.size:=by obtain⟨od,_,_,M,_⟩:=id a;exact z9 (c _ _ M)
 have x:t≠y.objs.size:=bAF (bEU k d);obtain⟨V,St,W,z,G⟩:=aX3 (prog:=prog) (w:=w) (A:=A.in1.in1) L u C H (by first|exact l|simp[l]) x;refine b7 (bEE (b7 (G _ rfl _ _ ?_)));refine j8 ⟨plainId_quiet dR _,?_⟩;refine aBs (knd:=knd) W s.heap.objs.size ?_ kvs h Y ?_ its.size 0 _ _ (by lia) z ?_ ?_ λh' tk kp r=>?_
 ·simp only[bAJ,bAE,or_false,not_or];exact⟨bAF d,bCW k⟩
 ·intro j v e p O;have I:j<kvs.length:=by rw[h];exact (Array.getElem?_eq_some_iff.mp e).1
  obtain⟨X,P,i,⟨Z,m,_⟩,_⟩:=D j v _ e (b8 I);rw[O] at i;cases i;have:=z9 m;simp only[bAJ,bAE,or_false,not_or];exact⟨bAF this,bAF (bEU this d)⟩
 ·exact (a.at λo e=>c _ _ e).at λo e=>c7 _ e
 ·intro j v kv e N;exact (D j v kv e N).at λp _ o R=>c7 _ (c _ _ (c7 _ R))
 ·refine⟨rfl,q h' tk r λb o e=>kp b o ?_ (c7 _ (c _ _ (c7 _ e)))⟩;have:=z9 e;simp only[bAJ,bAE,or_false,not_or];exact⟨bAF this,bAF (bEU this d)⟩
end
open PySem.Calls PyProof.Rows
section
variable {prog:Program}{w:World}{κ:Type}[DecidableEq κ]{knd:PySem.KeyKind prog w κ}{A:Around}{E:bFD}{s:Shared}
def xU (nm:κ->Str)(kvs:List (κ × Value)):∀(vs:List Value),vs.length=kvs.length->(∀(j:Nat) (v:Value),vs[j]?=some v->∃kv t,kvs[j]?=some kv/\v=.str (nm kv.1) t)->StrsAre vs (kvs.map λkv=>nm kv.1):=by
 induction kvs with
 |nil=>intro vs a _;cases bDE a;exact .nil
 |cons kv kvs ih=>
  intro vs a h;cases vs with
  |nil=>cases a
  |cons v vs=>obtain⟨b,t,e,rfl⟩:=h 0 v rfl;cases e;exact .cons _ t (ih vs (by simpa using a) λj v e=>h (j+1) v (by simpa using e))
def zZ {d:Addr}{kvs:List (κ × Value)}{Q:bFD}(M:κ->Str)(N:A.handled=none)(P:(d == sysModules)=false)(S:s.heap.DictOf knd d kvs)(H:∀k v,knd.is k v=true->(∃x,(k,x)∈kvs)->∃t,v=Value.str (M k) t)(D:kvs.length<64)
  (q:∀(h1 h':Heap) (tk:Nat) (B:Addr) (vs:List Value) (ss:List Str) (e:Nat),StrsAre vs ss->ss.Perm (kvs.map λkv=>M kv.1)->h'.get? B=some (seqObj "list" vs.toArray e)->(∀b o,s.heap.get? b=some o->h1.get? b=some o)->(∀b o,h1.get? b=some o->h'.get? b=some o)->h1.objs.size<=B->Q (.ref B) { s with heap:=h',toks:=tk }) :
  wpAny (model prog w) A (call (.builtin "sorted") [.ref d]) Q E s:=by
 obtain⟨L,i⟩:=S.dictAt;refine call_function_entry kind_sorted plain_sorted entry_sorted (args_sorted1 _) ?_;unfold Builtin.«sorted»;refine b7 (j8 ?_);refine b7 (PySem.W.kdu_collect (PySem.W.kdl_dict P) N i (by rw[sizeLine_eq];lia) λh' tk f y a=>?_);have n:f.toList.length=kvs.length:=by rw[bAU];exact a.1
 have l:=xU M kvs _ n λj v e=>by obtain⟨k,x,p,I⟩:=a.2 j v (by rw[<-bBG];exact e);obtain⟨t,rfl⟩:=H k v I ⟨x,bAR p⟩;exact⟨(k,x),t,p,rfl⟩
 refine b7 (wpAny_newList ?_ (by rw[sizeLine_eq];lia));have c:(h'.push (seqObj "list" f.toList.toArray 0)).get? h'.objs.size=some (seqObj "list" f.toList.toArray 0):=w6 _ rfl;refine b7 (bBI (bBN slot_list_sort ⟨_,c,rfl⟩ entry_list_sort (list_sort_treeK strKind_oneLt c l.keysOf (λR O u e=>keyKind_strs (by rw[<-e];exact l)) (by rw[n];exact D) λh J C=>⟨_,rfl,?_⟩) (args_list_sort _)));obtain⟨m,G,z,K⟩:=sorted_out_str l J C;obtain⟨e,F⟩:=sortedHeap_at c;refine j8 ⟨_,rfl,q h' _ tk h'.objs.size ((arrOf h).map (·.2)).toList m e G z (by rw[Array.toArray_toList];exact F) y (λb o r=>?_) (j9 _)⟩;have g:=z9 r;rw[sortedHeap_old (bAF g) (by rw[size_push'];exact Nat.lt_succ_of_lt g)];exact c7 _ r
end
end PySem
namespace L2
open PySem PySem.Spec PyProof.Rows
section
variable {X:Cx}
abbrev aTx (K:bFC)(H:Hp):List V->List (Key × V)->Prop:=Paired λu kv=>∃p,u=.ref p/\SqT K H p [kV kv.1,kv.2]
def bBb (I:Inv X bFG σ H s)(h:aTx X.K H us kvs):∀{its:List Value},Vals us its ->
  ∃vs:List (Key × Value),KV kvs vs/\vs.length=its.length/\∀(j:Nat) (v:Value) (kv:Key × Value),its[j]?=some v->vs[j]?=some kv->wG (eU X.prog X.w) s.heap v kv:=by
 induction h with
 |nil=>intro its b;cases b;exact⟨[],.nil,rfl,λj v kv e _=>by simp at e⟩
 |@cons u kv us kvs r t ih=>
  intro its b;cases b with
  |cons q z=>
   obtain⟨p,rfl,g⟩:=r;cases q;obtain⟨A,i,o,y⟩:=I.tuple g;obtain⟨vs,l,n,m⟩:=ih z;obtain⟨c,d,rfl,x,k⟩:=vals2 i;refine⟨(kv.1,d)::vs,.cons ⟨rfl,k⟩ l,by rw[d9,d9,n],λj v a e f=>?_⟩;cases j with
   |zero=>cases e;cases f;exact⟨p,c,rfl,o,aOz x⟩
   |succ j=>exact m j v a (by simpa using e) (by simpa using f)
def bCo (K:bFC):List V->Hp->VK->Prop:=λxs H Q=>∃t us kvs,xs=[.ref t]/\SqT K H t us/\aTx K H us kvs/\us.length<=1000/\∀p H',H p=none->Same H H'->H' p=some (.dK (pZ [] kvs))->Q (.ref p) H'
def aNk (R:X.calm=true):dD X (.type "dict") (bCo X.K):=by intro l s σ H L m Q I r h;obtain⟨t,m,kvs,rfl,F,i,N,q⟩:=h;obtain⟨u,rfl,C⟩:=vals1 r;cases C;obtain⟨g,b,⟨D,z⟩,M⟩:=I.bFg F;have P:=b.length;obtain⟨p,f,G,E⟩:=bBb I i b;have O:=KV.length f;obtain⟨o,d,a,n,x⟩:=D;refine aIs false (knd:=eU X.prog X.w) (kvs:=p) (I.ok.hd R) d a x (z o d) (by rw[m9];exact G) (by rw[m9];lia) (λj v A e J=>E j v A (by simpa using e) J) λS B k kp=>?_;have c:H s.heap.objs.size=none:=I.hok.fresh (j9 _);refine⟨.ref s.heap.objs.size,_,I.laid (t':=B) (o:=.dK (pZ [] kvs)) kp (j9 _) ?_,rfl,q _ _ c (bV c _) aL⟩;have y:=uN kvs [];simp only[bCL] at y;exact⟨small (by lia),beq_eq_false_iff_ne.mpr (Ne.symm (bAF I.big)),_,KV.merge f .nil,k⟩
theorem aCd:∀kvs acc,((acc++kvs).map (·.1)).Nodup->pZ acc kvs=acc++kvs
 |[],acc,_=>by simp[pZ]
 |kv::r,acc,h=>by
  have a:pA acc kv.1=none:=by
   cases e:pA acc kv.1 with
   |none=>rfl
   |some v=>exfalso;have:=aPx e;rw[bAY,bFB] at h;exact h.2.2 _ this _ (by rw[bAB];exact j5 ..) rfl
  show pZ (putK acc kv.1 kv.2) r=_;rw[aJj _ a,aCd r _ (by rw[bAD];exact h),bAD];rfl
def aR4 (h:(kvs.map (·.1)).Nodup):pZ [] kvs=kvs:=aCd kvs [] h
def bB3:List V->Hp->VK->Prop:=λxs H Q=>∃(d:Addr) (kvs:List (Key × V)) (ns:List Str),xs=[.ref d]/\H d=some (.dK kvs)/\kvs.map (·.1)=(ns.map λn=>(Sum.inr n:Key))/\kvs.length<64/\∀(p:Addr) (H':Hp) (ss:List Str),H p=none->Same H H'->ss.Perm ns->H' p=some (.lst (ss.map V.str))->Q (.ref p) H'
theorem aFs:∀{vs:List Value} {ss:List Str},StrsAre vs ss->Vals (ss.map V.str) vs
 |_,_,.nil=>.nil
 |_,_,.cons x t h=>.cons ⟨t,rfl⟩ (aFs h)
def aNu (Z:X.calm=true):dD X (.builtin "sorted") bB3:=by
 intro K s σ H U V Q I r h;obtain⟨d,b,C,rfl,J,i,M,q⟩:=h;obtain⟨u,rfl,O⟩:=vals1 r;cases O;obtain⟨z,R,j,f,L⟩:=aZd I.hok J;have Y:=KV.length f;have D:=KV.keys f
 let nm:Key->Str:=λk=>match k with|.inr n=>n|.inl _=>⟨#[]⟩
 have y:(j.map λm=>nm m.1)=C:=by
  have:(j.map λm=>nm m.1)=(j.map (·.1)).map nm:=by rw[bAP];rfl
  rw[this,<-D,i,bAP];exact List.map_id _
 refine zZ nm (I.ok.hd Z) R L (λk v G l=>?_) (by lia) λW h' F B w S e T g P o p c=>?_
 ·obtain⟨x,l⟩:=l;have a:k∈b.map (·.1):=by rw[D];exact List.mem_map.mpr ⟨_,l,rfl⟩
  rw[i] at a;obtain⟨n,_,rfl⟩:=List.mem_map.mp a;cases v with
  |str x t=>
   have e:x=n:=by simpa [eU,aD6,Value.isStrOf] using G
   exact⟨t,by rw[e]⟩
  |_=>exact absurd (show false=true from G) bAA
 ·rw[y] at g;have E:=I.kept (t':=F) o;have A:=E.hok.fresh c;refine⟨.ref B,_,E.laid (t':=F) p c ?_,rfl,q B _ S A (bV A _) g aL⟩;have N:=aFs T;have l1:=g.length_eq;have l2:C.length=b.length:=by have:=congrArg List.length i;simpa using this.symm
  exact⟨small (by rw[d7];lia),w,e,N,P⟩
end
def aU2 (its:List Value):slicePick its.toArray none none (some (-1))=its.reverse.toArray:=by
 unfold slicePick
 congr 1
 have a:sliceBounds none none (some (-1)) its.toArray.size=((its.length:Int) - 1,-1,-1):=by simp[sliceBounds]
 rw[a];have b:sliceRange ((its.length:Int) - 1) (-1) (-1)=(List.range its.length).map λk=>its.length - 1 - k:=by
  unfold sliceRange;have g:(if (-1:Int) > 0 then (if ((its.length:Int) - 1) < -1 then ((-1) - ((its.length:Int) - 1)+(-1) - 1) / (-1) else 0) else (if ((its.length:Int) - 1) > -1 then (((its.length:Int) - 1) - (-1) - (-1) - 1) / (-(-1)) else 0):Int).toNat=its.length:=by
   rw[if_neg (by decide)];by_cases h:its.length=0
   ·rw[if_neg (by lia)];lia
   ·rw[if_pos (by lia)];have:(((its.length:Int) - 1) - (-1) - (-1) - 1) / (-(-1))=its.length:=by rw[show (-(-1):Int)=1 by decide,Int.ediv_one];lia
    rw[this];lia
  simp only;rw[g];refine bDW λk d=>?_;have:=List.mem_range.mp d;lia
 rw[b,List.filterMap_map];have c:∀n,n<=its.length->(List.range n).filterMap ((λi=>its.toArray[i]?) ∘ λk=>its.length - 1 - k)=its.reverse.take n:=by
  intro n
  induction n with
  |zero=>intro _;simp
  |succ n ih=>
   intro j;rw[bDN,List.filterMap_append,ih (by lia),bBM]
   congr 1
   have f:its.reverse[n]?=its[its.length - 1 - n]?:=by rw[List.getElem?_reverse (by lia)]
   simp only[bCZ,List.filterMap_nil,Function.comp,List.getElem?_toArray];rw[f];cases e:its[its.length - 1 - n]? <;> rfl
 rw[c _ (j9 _),<-bBZ,bBP]
section
variable {X:Cx}{e st:Expr}{te ts:TE}{pos p2:Pos}
def bFj (K:bFC)(te ts:TE):TE:=fun σ H Q=>te σ H λx H1=>ts σ H1 λy H2=>∃a xs,y=.int (-1)/\x=.ref a/\SqL K H2 a xs/\∀p H',H2 p=none->Same H2 H'->H' p=some (.lst xs.reverse)->Q (.ref p) H'
def bBq (M:VE X e te)(hs:VE X st ts):VE X (.Subscript e (.Slice none none (some st) p2) pos) (bFj X.K te ts):=⟨by intro c s σ H Q I h;refine Subscript_ (thn (M.1 c s σ H _ I h) λv J ⟨x,B,z,E,F⟩=>?_);refine wpAny_Slice ?_;rw[evalPart_none];refine j8 (j8 ?_);rw[evalPart_some];refine thn (hs.1 c J σ B _ z F) λu d ⟨y,m,C,L,G⟩=>?_;obtain⟨a,n,rfl,rfl,t,q⟩:=G;obtain⟨f,rfl⟩:=L;cases E;have i:Inv X c σ m { d with heap:=d.heap.push { cls:=.type "slice",data:=.fields #[.none,.none,.int (-1) f] } }:=C.kept (t':=d.toks) λb D q=>c7 _ q;obtain⟨g,r,k,p⟩:=i.list t;have l:=r.length;show wpAny (model X.prog X.w) X.A (subscriptTail e (.Slice none none (some st) p2) (.ref a) (.ref d.heap.objs.size)) (EP X c σ Q) X.xe { d with heap:=d.heap.push { cls:=.type "slice",data:=.fields #[.none,.none,.int (-1) f] } };refine tail_any (T:="list") (ops:=[.ref a,.ref d.heap.objs.size]) k.isList.typeIs list_getitem_lookup (wpAny_getItem_list_slice k.isList (Heap.IsSliceOf.new ..) .none .none (.int (-1) f) (by decide) ?_ (by rw[m9];lia)) (by with_unfolding_all rfl);rw[aU2];have j:m (d.heap.push { cls:=.type "slice",data:=.fields #[.none,.none,.int (-1) f] }).objs.size=none:=i.hok.fresh (j9 _);refine⟨.ref _,_,i.laid (t':=d.toks) (o:=.lst n.reverse) (λb D q=>c7 _ q) (j9 _) ?_,rfl,q _ _ j (bV j _) aL⟩;exact⟨by rw[bBZ];exact p,g.reverse,0,r.reverse,w6 _ rfl⟩⟩
end
section
variable {X:Cx}{o i value:Expr}{td ty tv:TE}{pos pos':Pos}
def aYw (a:X.A.units+1<cLine)(d:VE X o td)(b:VE X i ty)(c:VE X value tv)(hs:swapsWith value (some (.Subscript o i pos')) pos.line X.env=pure false:=by rfl):VS X (.Assign [.Subscript o i pos'] value pos) (aZj td ty tv):=⟨aYq a d.1 b.1 c.1 hs⟩
def SqT.bFr {K:bFC}{H:Hp}{a D:Addr}{xs:List V}{kvs:List (Key × V)}{u:HO}(b:H D=some (.dK kvs))(h:SqT K H a xs):SqT K (upd H D u) a xs:=by
 rcases h with (h|⟨o,h⟩)|h
 ·exact .inl (.inl (by rw[aV (wK h b (by intro z;cases z))];exact h))
 ·exact .inl (.inr ⟨o,by rw[aV (wK h b (by intro z;cases z))];exact h⟩)
 ·exact .inr h
end
def bCw (c:VE X o to)(a:VE X i ti)(hs:bBi X t)
  (b:∀v,assign (.Subscript o i pos) X.env v=(do
   let ov <-holding [v] (eval o X.env)
   let iv <-holding [v,ov] (eval i X.env)
   standAt pos
   holding [v,ov,iv] (setItem ov iv v)
   release [v,ov,iv] []):=by intro _;rfl):VG X (.Subscript o i pos) (bDx to ti t):=⟨bAh c.1 a.1 hs b⟩
def aBm:MtR X "list.reverse" aKb:=aNv
abbrev M61:Int:=2305843009213693951
def jV (H:Hp)(a:Addr):Prop:=∃s:Int,H a=some (.lst [.int s])/\0<=s/\s<M61
structure Fx (a:Addr)(H H':Hp):Prop where
 same:∀b o,b≠a->H b=some o->H' b=some o
 st:jV H' a
def Fx.trans (f:Fx a H H1)(g:Fx a H1 H2):Fx a H H2:=⟨λb o n e=>g.same b o n (f.same b o n e),g.st⟩
def jV.same (h:jV H a)(e:Same H H'):jV H' a:=by obtain⟨s,c,b⟩:=h;exact⟨s,e _ _ c,b⟩
def Fx.of (h:jV H a)(e:Same H H'):Fx a H H':=⟨λb o _ q=>e b o q,h.same e⟩
def Fx.refl (h:jV H a):Fx a H H:=.of h (Same.refl H)
def Fx.sm (f:Fx a H H1)(e:Same H1 H2):Fx a H H2:=f.trans (.of f.st e)
def jV.ne (h:jV H a)(f:H p=none):p≠a:=by obtain⟨s,b,_⟩:=h;exact (bA b f).symm
def Fx.aQ {K:bFC}{a p:Addr}{H H':Hp}{xs:List V}(f:Fx a H H')(h:jV H a)(e:SqT K H p xs):SqT K H' p xs:=by
 obtain⟨s,b,_⟩:=h;rcases e with (e|⟨o,e⟩)|e
 ·exact .inl (.inl (f.same p _ (wK e b (by intro z;cases z)) e))
 ·exact .inl (.inr ⟨o,f.same p _ (wK e b (by intro z;cases z)) e⟩)
 ·exact .inr e
def Fx.upd (f:Fx a H H')(g:H D=none)(h:D≠a):Fx a H (L2.upd H' D o):=⟨λb u n e=>by rw[aV (bA e g)];exact f.same b u n e,by obtain⟨s,d,c⟩:=f.st;exact⟨s,by rw[aV h.symm];exact d,c⟩⟩
def Fx.free (f:Fx a H H')(h:H' p=none):H p=none:=by
 cases e:H p with
 |none=>rfl
 |some o=>
  by_cases z:p=a
  ·subst z;obtain⟨s,b,_⟩:=f.st;rw[b] at h;cases h
  ·rw[f.same p o z e] at h;cases h
def aY0 (h:jV H a):aWm (Fx a) H:=⟨λD o c=>.of h (bV c o),λa b=>a.trans b,λD o j c f=>f.upd c (h.ne c),λD d g i c _ e f=>f.same _ _ (h.ne c) e⟩
end L2
namespace My
open PySem PySem.Spec PyProof.Rows L2
section
variable {P:Program}{w:World}{K:bFC}{mg:bFF}{base:Heap}
inductive aAh:Str->V->Prop
 |num {i:Int}:i.natAbs<10 ^ 60->aAh "number" (.int i)
 |wrd {x}:Lets x->x.length<=8->aAh "word" (.str x)
def aBv (k:Str):Prop:=k = "number"\/k = "word"
inductive aOq (K:bFC)(vs:List V)(H:Hp)(Q:VK)(E_:XK):Prop
 |mk (a:Addr) (ns:List Int) (_:vs=[.ref a]) (_:SqL K H a (ns.map V.int)) (_:ns.length<=63) (_:∀c H',Same H H'->0<=c->c<M61->Q (.int c) H')
def aG0 (T:Txt w K mg):Ok P w K mg base 1 "_law_seed" bQH (aOq K):=by
 refine Ok.ofV T.aKp wV (by trivial) (λf j A d s H p Q E o h=>?_)
 obtain⟨a,l,rfl,g,k,q⟩:=h;have m:=wV.nd;refine⟨_,(aA (aY 1 aC) (aA (gR PassesOwn.never rfl (aXe (by rfl) T.aK4 (va1 (vv 0))) (kE rfl (aX (cU 2) (aX (cU 3) dF))) (aB (aY 1 (aW wH (aW eG (aW eG (aW eG (aW aCt (vv 1) aC) (aW wH (vv 3) (aW aNb aC aC))) (aW aCt aC (vv 2))) aC) aC)))) (aB (aJ (vv 1))))),?_⟩;refine⟨_,rfl,a,l.map V.int,rfl,g,aUy (λi σ b=>Same H b/\∃c l2 l3,0<=c/\c<M61/\σ=[some (.ref a),some (.int c),l2,l3]) ⟨Same.refl H,7,_,_,by decide,by decide,rfl⟩ (λi σ b _ ⟨e,_⟩=>e.seq g) ?_ ?_⟩
 ·rintro i σ b x Tp H'' ex ⟨sm,c,l2,l3,c0,c1,rfl⟩ hT rfl;obtain⟨z,n,rfl⟩:=aAs ex;refine⟨Tp,_,rfl,SqT.of aL,rfl,_,_,rfl,_,_,rfl,rfl,?_⟩;refine⟨_,rfl,_,_,rfl,rfl,.inr ⟨by decide,by decide⟩,_,rfl,_,_,rfl,rfl,⟨by decide,by decide,by decide⟩,_,_,rfl,rfl,(by decide),_,_,rfl,rfl,_,rfl,_,_,rfl,rfl,.inl ⟨by decide,by decide⟩,_,_,rfl,rfl,_,_,rfl,rfl,_,_,rfl,rfl,(by decide),?_⟩;exact⟨sm.trans (bV hT _),_,_,_,Int.emod_nonneg _ (by decide),bEY _ (by decide),rfl⟩
 ·rintro σ b ⟨sm,c,l2,l3,c0,c1,rfl⟩;exact⟨_,rfl,q c b sm c0 c1⟩
inductive gO (vs:List V)(H:Hp)(Q:VK)(E_:XK):Prop
 |mk (a:Addr) (m:Int) (_:vs=[.ref a,.int m]) (_:jV H a) (_:0<m) (_:∀c H',Fx a H H'->0<=c->c<m->Q (.int c) H')
def aH3 (T:Txt w K mg):Ok P w K mg base 1 "_law_next" m7 gO:=by
 refine Ok.ofV T.aLa aHe (by trivial) (λf g A c s H k Q E i h=>?_)
 obtain⟨a,m,rfl,⟨st,d,j,l⟩,e,q⟩:=h;refine⟨_,(aA (rD (aW wH (aW eG (aW aCt (bO cX (vv 0) aC) aC) aC) aC) (bCw (vv 0) aC set_list)) (aB (aJ (aW wH (aW aYh (bO cX (vv 0) aC) aC) (vv 1))))),?_⟩;refine⟨_,rfl,a,_,0,_,rfl,rfl,SqL.of d,at0 _ _,_,_,rfl,rfl,.inr ⟨by decide,by decide⟩,_,_,rfl,rfl,_,_,rfl,rfl,(by decide),?_⟩;refine⟨_,rfl,a,_,0,0,rfl,rfl,d,rfl,?_⟩;refine⟨_,rfl,a,[.int ((st * 1181783497276652981+12345678910987) % 2305843009213693951)],0,_,rfl,rfl,SqL.of aL,at0 _ _,_,_,rfl,rfl,⟨by decide,by decide⟩,_,rfl,_,_,rfl,rfl,e,?_⟩;exact q _ _ ⟨λb o n h=>by rw[aV n];exact h,(st * 1181783497276652981+12345678910987) % 2305843009213693951,aL,Int.emod_nonneg _ (by decide),bEY _ (by decide)⟩ (Int.emod_nonneg _ (by lia)) (bEY _ e)
def aKl:Sp:=λvs H Q _=>∃a:Addr,vs=[.ref a]/\jV H a/\∀i H',Fx a H H'->i.natAbs<10 ^ 60->Q (.int i) H'
def bDl (i:Nat):((10:Int) ^ 15) ^ (i+1)=((10:Int) ^ 15) ^ i * 10 ^ 15:=Int.pow_succ _ _
def aE6 (T:Txt w K mg)(I:Ok P w K mg base 1 "_law_next" m7 gO):Ok P w K mg base 2 "_law_great" ["_law_state"] aKl:=by
 refine Ok.ofV T.aHu uH (by trivial) (λf C A b s H N Q E O h=>?_)
 obtain⟨a,rfl,y,q⟩:=h;have B:=uH.nd;refine⟨_,(aA (aY 1 aC) (aA (gR PassesOwn.never rfl (eE (by rfl) T.gG (va1 aC)) (cU 2) (aB (aY 1 (aW eG (aW aCt (vv 1) (aW aNb aC aC)) (bU I (aG (vv 0) (va1 (aW aNb aC aC)))))))) (aB (aJ (bO cX (bM (aG (vv 1) (va1 (aW aDk aC (vv 1))))) (bU I (aG (vv 0) (va1 aC)))))))),?_⟩;refine⟨_,rfl,by decide,by decide,gH (n:=4) (λi σ j=>Fx a H j/\∃(c:Int) (l2:Option V),0<=c/\c<(10 ^ 15) ^ i/\σ=[some (.ref a),some (.int c),l2]) ⟨.refl y,0,_,by decide,by decide,rfl⟩ ?_ ?_⟩
 ·rintro i σ j hi ⟨fx,c,l2,c0,c1,rfl⟩;refine⟨_,rfl,_,_,rfl,rfl,⟨by decide,by decide,by decide⟩,_,_,rfl,rfl,.inr ⟨by decide,by decide⟩,_,rfl,_,_,rfl,rfl,⟨by decide,by decide,by decide⟩,a,_,rfl,fx.st,(by show (0:Int)<10 ^ 15;decide),λd F x o r=>?_⟩;refine⟨_,_,rfl,rfl,fx.trans x,_,_,?_,?_,rfl⟩
  ·have:=Int.mul_nonneg c0 (show (0:Int)<=10 ^ 15 by decide);have t:(10:Int) ^ 15=1000000000000000:=by decide
   show 0<=c * (10:Int) ^ 15+d;lia
  ·have u:d<(10:Int) ^ 15:=r;have M:c+1<=((10:Int) ^ 15) ^ i:=c1;have J:=Int.mul_le_mul_of_nonneg_right M (show (0:Int)<=10 ^ 15 by decide);rw[Int.add_mul,Int.one_mul] at J;show c * (10:Int) ^ 15+d<((10:Int) ^ 15) ^ (i+1);rw[bDl];lia
 ·rintro σ j ⟨fx,c,l2,c0,c1,rfl⟩;have z:c<(10:Int) ^ 60:=by
   have e:((10:Int) ^ 15) ^ 4=10 ^ 60:=by decide
   rw[<-e];exact c1
  refine⟨_,rfl,_,rfl,_,_,rfl,rfl,(by show 2<=sizeLine;decide),λp F G k L=>?_⟩;refine⟨_,rfl,a,2,rfl,fx.st.same k,by decide,λd R g o r=>?_⟩;obtain⟨v,D,l⟩:=at_of (xs:=[.int c,.int (0 - c)]) o (by show d<2;lia);refine⟨p,_,_,v,rfl,rfl,SqL.of (g.same _ _ (fx.st.ne G) L),D,?_⟩;simp only[bAJ,bAE,or_false] at l;have m:c.natAbs<10 ^ 60:=by
   have:((c.natAbs:Nat):Int)=c:=Int.natAbs_of_nonneg c0;have e:((10 ^ 60:Nat):Int)=(10:Int) ^ 60:=by decide
   lia
  rcases l with rfl|rfl
  ·exact q _ _ ((fx.sm k).trans g) m
  ·exact q _ _ ((fx.sm k).trans g) (by rw[Int.zero_sub,Int.natAbs_neg];exact m)
abbrev aN9:List V:=[.str "",.str "a",.str "b",.str "ab"]
inductive aP6 (vs:List V)(H:Hp)(Q:VK)(E_:XK):Prop
 |mk (a:Addr) (kd:Str) (_:vs=[.ref a,.str kd]) (_:jV H a) (_:aBv kd) (_:∀v H',Fx a H H'->aAh kd v->Q v H')
def aM2 (h:v∈aN9):aAh "word" v:=by
 simp only[aN9,bAJ,bAE,or_false] at h;have a:∀x:Str,(x.cps.all λc=>decide (97<=c) && decide (c<=122))=true->Lets x:=λx d c b=>by have:=(Array.all_eq_true_iff_forall_mem.mp d) c b;rw[bAI] at this;exact⟨of_decide_eq_true this.1,of_decide_eq_true this.2⟩
 rcases h with rfl|rfl|rfl|rfl
 ·exact .wrd (a _ (by trivial)) (by trivial)
 ·exact .wrd (a _ (by trivial)) (by trivial)
 ·exact .wrd (a _ (by trivial)) (by trivial)
 ·exact .wrd (a _ (by trivial)) (by trivial)
def aE2 (T:Txt w K mg)(B:Ok P w K mg base 1 "_law_next" m7 gO)(N:Ok P w K mg base 2 "_law_great" ["_law_state"] aKl):Ok P w K mg base 3 "_law_value" bQJ aP6:=by
 refine Ok.ofV T.aHg vH (by trivial) (λf S A r s H vs Q E hr h=>?_)
 obtain⟨a,kd,rfl,I,L,q⟩:=h;have R:=vH.nd;refine⟨_,(aA (aY 2 (bU B (aG (vv 0) (va1 aC)))) (aA (bN (cT cJ (vv 1) aF) (aB (aJ (bO cX (bM (aG (aW aDk (bU B (aG (vv 0) (va1 aC))) aC) (va1 (bU N (va1 (vv 0)))))) (bG tO (by rfl) T.aFx aAo (va1 (uC cJ (vv 2) aC)))))) aU) (aA (bN (cT aU0 (vv 2) aC) (aB (aJ (bO cX (bM (aG aF (aG aF (aG aF (va1 aF))))) (aW wH (vv 2) aC)))) aU) (aA (aY 3 aF) (aA (gR PassesOwn.never rfl (eE (by rfl) T.gG (va1 (bU B (aG (vv 0) (va1 aC))))) (cU 4) (aB (aY 3 (aW aP (vv 3) (iR aF (bU B (aG (vv 0) (va1 aC))) (λ_ _=>rfl)))))) (aB (aJ (vv 3)))))))),?_⟩;refine⟨_,rfl,a,10,rfl,I,by decide,λb H1 k Z w1=>?_⟩;rcases L with rfl|rfl
 ·refine⟨_,rfl,rfl,_,rfl,bQ ?_⟩;refine⟨_,rfl,a,4,rfl,k.st,by decide,λd X o u D=>?_⟩;refine⟨_,_,rfl,rfl,_,rfl,a,rfl,o.st,λg W t O=>?_⟩;refine⟨(by show 2<=sizeLine;decide),λp M _ C m=>?_⟩;have c:=(k.trans (o.trans t)).sm C;refine⟨_,rfl,rfl,.inr ⟨_,rfl,?_⟩⟩;by_cases e:b=9
  ·rw[v7 (congrArg V.int e)];exact⟨p,_,_,_,rfl,rfl,SqL.of m,dJ (j:=1) rfl,q _ _ c (.num O)⟩
  ·rw[j6 (by intro z;exact e (V.int.inj z))];exact⟨p,_,_,_,rfl,rfl,SqL.of m,dJ (j:=0) rfl,q _ _ c (.num (by lia))⟩
 ·refine⟨_,rfl,rfl,_,rfl,aZ ?_⟩;refine⟨_,rfl,_,_,rfl,rfl,_,rfl,pQ (λ_=>?_) (λ_=>?_)⟩
  ·refine⟨(by show 4<=sizeLine;decide),λp M _ C m=>?_⟩;obtain⟨v,U,G⟩:=at_of (xs:=aN9) (j:=b % 4) (by lia) (by show b % 4<4;lia);exact⟨_,rfl,_,_,rfl,rfl,(by show (0:Int)<4;decide),p,_,_,v,rfl,rfl,SqL.of m,U,q _ _ (k.sm C) (aM2 G)⟩
  ·refine⟨_,rfl,a,9,rfl,k.st,by decide,λn X o n0 Y=>?_⟩;refine⟨_,rfl,by lia,by lia,gH (n:=n.toNat) (λi σ y=>Fx a H y/\∃(x:Str) (l4:Option V),σ=[some (.ref a),some (.str "word"),some (.int b),some (.str x),l4]/\x.length<=i/\Lets x) ⟨k.trans o,_,_,rfl,by trivial,λd J=>by simp[show (("":Str).cps)=#[] from rfl] at J⟩ ?_ ?_⟩
   ·rintro i σ y hi ⟨c,x,l4,rfl,hl,hx⟩;have F:abc.length=26:=by trivial
    refine⟨_,rfl,_,rfl,a,26,rfl,c.st,by decide,λd W t u D=>?_⟩;obtain⟨ch,l⟩:=aPr (z:=abc) u (by rw[F];exact D);refine⟨_,_,_,rfl,rfl,u,(by lia),(by rw[F];exact D),l,_,_,rfl,rfl,?_,c.trans t,_,_,rfl,?_,hx.add (aK7.one l)⟩
    ·show x.length+1<=sizeLine;exact small (by lia)
    ·rw[aM];show x.length+1<=i+1;lia
   ·rintro σ y ⟨c,x,l4,rfl,hl,hx⟩;exact⟨_,rfl,q _ _ c (.wrd hx (by lia))⟩
def aGf:Sp:=λvs H Q _=>vs=[]/\∀p H',H p=none->Same H H'->H' p=some (.lst words)->Q (.ref p) H'
def aE5 (T:Txt w K mg):Ok P w K mg base 1 "_law_words" [] aGf:=by
 refine Ok.ofV T.aI9 uQ (by trivial) (λf d A b s H u Q E t h=>?_)
 obtain⟨rfl,q⟩:=h;have o:=uQ.nd;refine⟨_,(aA (aY 0 (bM (aG aF (aG aF (aG aF (aG aF (aG aF (aG aF (aG aF (aG aF (va1 aF))))))))))) (aB (aJ (aW gW (vv 0) (bM (aG aF (aG aF (aG aF (aG aF (aG aF (aG aF (aG aF (va1 aF))))))))))))),?_⟩;refine⟨(by decide),λi r _ c n=>?_⟩;refine⟨_,rfl,(by decide),λj v _ a k=>?_⟩;exact⟨i,j,_,_,rfl,rfl,a _ _ n,k,(by decide),λp g l m e=>q p g ((c.trans a).free l) (c.trans (a.trans m)) e⟩
def jC (ns:List Str):Prop:=ns.length=17/\(∀n∈ns,Nm n)/\ns.Nodup
def jC.rev (h:jC ns):jC ns.reverse:=⟨by rw[bBZ];exact h.1,λn a=>h.2.1 n (List.mem_reverse.mp a),List.pairwise_reverse.mpr (h.2.2.imp λq=>Ne.symm q)⟩
def bBo:∀j:_root_.Fin 26,abc.cps[j.val]?=some (97+j.val):=by trivial
def aWy (h:j<26):abc.cps[j]?=some (97+j):=bBo ⟨j,h⟩
def sgl (o:Nat):List Str:=(List.range 17).map λk=>⟨#[97+(o+k)]⟩
def aPy:∀o:_root_.Fin 10,((sgl o.val).all λn=>nameB (.str n))=true/\(Txt.slice abc (some (o.val:Int)) (some ((o.val:Int)+17))).cps.size=17/\((List.range 17).all λi=>decide (sgn (Txt.slice abc (some (o.val:Int)) (some ((o.val:Int)+17))) i=⟨#[97+(o.val+i)]⟩))=true:=by trivial
def aUr (h:(⟨#[a]⟩:Str)=⟨#[b]⟩):a=b:=by have:=congrArg (λx:Str=>x.cps.toList) h;simpa using this
def aUt (h:o<10):jC (sgl o):=by
 refine⟨by simp[sgl],λn a=>?_,?_⟩
 ·have:=(aPy ⟨o,h⟩).1;rw[bBL] at this;exact this n a
 ·refine List.pairwise_map.mpr (bEB ?_ List.nodup_range);intro k l _ _ b e;have:=aUr e;exact b (by lia)
def aWl {o:Nat}(h:o<10):((List.range (Txt.slice abc (some (o:Int)) (some ((o:Int)+17))).cps.size).map λi=>V.str (sgn (Txt.slice abc (some (o:Int)) (some ((o:Int)+17))) i))=(sgl o).map V.str:=by obtain⟨_,a,b⟩:=aPy ⟨o,h⟩;have a:=a;rw[a];unfold sgl;rw[bAP];refine bDW λi c=>?_;rw[bBL] at b;have:=of_decide_eq_true (b i c);exact congrArg V.str this
def stm (b:Str)(a o:Nat):Nat->List Str:=λi=>(List.range i).map λk=>put b a (97+(o+k))
def bAk (x:Lets b)(hl:b.length<=7)(i:a<=b.length)(ho:o<10)(y:∀w∈words,inV w ((stm b a o 17).map V.str)=false):jC (stm b a o 17):=by
 refine⟨by simp[stm],λn h=>?_,?_⟩
 ·obtain⟨k,j,rfl⟩:=List.mem_map.mp h;have j:=List.mem_range.mp j;have f:inV (.str (put b a (97+(o+k)))) words=false:=by
   cases e:inV (.str (put b a (97+(o+k)))) words with
   |false=>rfl
   |true=>
    exfalso;unfold inV at e;rw[bDU] at e;obtain⟨v,d,m⟩:=e;have g:∃z:Str,v=.str z:=by simp only[words,bAJ,bAE,or_false] at d;rcases d with rfl|rfl|rfl|rfl|rfl|rfl|rfl|rfl|rfl|rfl|rfl|rfl|rfl|rfl|rfl|rfl|rfl <;> exact⟨_,rfl⟩
    obtain⟨z,rfl⟩:=g;have u:(z == put b a (97+(o+k)))=true:=m;have q:z=put b a (97+(o+k)):=by simpa using u
    have:=y _ d;rw[zO,decide_eq_false_iff_not] at this;exact this (by rw[q];exact h)
  show ((decide (1<=(put b a (97+(o+k))).length) && (decide ((put b a (97+(o+k))).length<=8) && allIn (put b a (97+(o+k))))) && !inV (.str (put b a (97+(o+k)))) words)=true;have s:Lets (put b a (97+(o+k))):=λc t=>by
   rcases aWp i t with rfl|z
   ·lia
   ·exact x c z
  rw[aXv i,v7 (p:=1<=b.length+1) (by lia),v7 (p:=b.length+1<=8) (by lia),allIn_of s,f];rfl
 ·refine List.pairwise_map.mpr (bEB ?_ List.nodup_range);intro k l _ _ r e;have:=aYf i e;exact r (by lia)
def aVe:Sp:=λvs H Q _=>∃a:Addr,vs=[.ref a,.int 17]/\jV H a/\∀p H' ns,Fx a H H'->H p=none->H' p=some (.lst (ns.map V.str))->jC ns->Q (.ref p) H'
def aFe (T:Txt w K mg)(aO:Ok P w K mg base 1 "_law_next" m7 gO)(aa:Ok P w K mg base 1 "_law_words" [] aGf):Ok P w K mg base 2 "_law_names" m7 aVe:=by
 refine Ok.ofV T.aH8 uI (by trivial) (λf a9 A a4 s H vs Q E hr h=>?_)
 obtain⟨a,rfl,hs,q⟩:=h;have a8:=uI.nd;refine⟨_,(aA (aY 2 aF) (aA (aY 3 (bU aO (aG (vv 0) (va1 (aW aDk aC (vv 1)))))) (aA (aY 4 aF) (aA (gR PassesOwn.never rfl (eE (by rfl) T.gG (va1 (bU aO (aG (vv 0) (va1 aC))))) (cU 5) (aB (aY 4 (aW aP (vv 4) (iR (vv 2) (bU aO (aG (vv 0) (va1 aC))) (λ_ _=>rfl)))))) (aA (aY 6 (bU aO (aG (vv 0) (va1 (aW eG (aR kY (by rfl) T.eN cR (va1 (vv 4))) aC))))) (aA (aY 7 (bM gB)) (aA (gR PassesOwn.never rfl (eE (by rfl) T.gG (va1 (vv 1))) (cU 5) (aB (dG (fK PySem.F.plainAttrs_list PySem.F.slot_list_append PySem.F.type_list_append dM (vv 7) (va1 (aW aP (aW aP (dI qH (vv 4) iC (cY (vv 6))) (iR (vv 2) (aW eG (vv 3) (vv 5)) (λ_ _=>rfl))) (dI qH (vv 4) (cY (vv 6)) iC))))))) (aA (bN (cP (aR (aS4 rfl) (by rfl) T.bD8 aZw (va1 (cZ (N:=["_law_word","_law_names_here"]) ck (jJ (aD pP)) rfl (mQ (bCb (aa.mono (by decide)) hr (by rfl))) (λcl s' u fp=>⟨(fZ 0),eZ,(tH (aM5 (K:=K)) (vv 0) (vv 1) (by with_unfolding_all rfl))⟩))))) (aB (aY 7 (bG (aNi rfl) (by rfl) T.aDa xG (va1 (dI qH (vv 2) (cY (vv 3)) (cY (aW eG (vv 3) (vv 1)))))))) aU) (aA (bN (cT cJ (bU aO (aG (vv 0) (va1 aC))) aC) (aB (dG (aN6 PySem.F.plainAttrs_list PySem.F.slot_list_reverse PySem.F.type_list_reverse aBm (vv 7)))) aU) (aB (aJ (vv 7)))))))))))),?_⟩;have G:abc.length=26:=by trivial
 refine⟨_,rfl,_,rfl,_,_,rfl,rfl,a,10,rfl,hs,by decide,λod H1 f1 o0 o1=>?_⟩;obtain⟨o,rfl⟩:∃o:Nat,od=o:=⟨od.toNat,by lia⟩;have M:o<10:=by lia
 refine⟨_,rfl,a,8,rfl,f1.st,by decide,λn H2 f2 n0 n1=>?_⟩;refine⟨_,rfl,by lia,by lia,gH (n:=n.toNat) (λi σ u=>Fx a H u/\∃(x:Str) (l5:Option V),σ=[some (.ref a),some (.int 17),some (.str abc),some (.int (o:Nat)),some (.str x),l5,none,none]/\x.length<=i/\Lets x) ⟨f1.trans f2,_,_,rfl,by trivial,λd hd=>by simp[show (("":Str).cps)=#[] from rfl] at hd⟩ ?_ ?_⟩
 ·rintro i σ u U ⟨fx,x,l5,rfl,hl,hx⟩;refine⟨_,rfl,_,rfl,_,rfl,a,26,rfl,fx.st,by decide,λd H3 O S X=>?_⟩;obtain⟨ch,t⟩:=aPr (z:=abc) S (by rw[G];exact X);refine⟨_,_,_,rfl,rfl,S,(by lia),(by rw[G];exact X),t,_,_,rfl,rfl,?_,fx.trans O,_,_,rfl,?_,hx.add (aK7.one t)⟩
  ·show x.length+1<=sizeLine;exact small (by lia)
  ·rw[aM];show x.length+1<=i+1;lia
 rintro σ H3 ⟨O,b,l5,rfl,hl,hb⟩;have a5:b.length<=7:=by lia
 refine⟨_,rfl,_,rfl,_,rfl,small (by lia),_,_,rfl,rfl,a,_,rfl,O.st,(by show (0:Int)<(b.length:Int)+1;lia),λai H4 f4 a0 a1=>?_⟩;obtain⟨g,rfl⟩:∃g:Nat,ai=g:=⟨ai.toNat,by lia⟩;have ha:g<=b.length:=by have:(g:Int)<(b.length:Int)+1:=a1;lia
 have I:=O.trans f4;refine⟨(by show 0<=sizeLine;decide),λp H5 fp s5 g5=>?_⟩;have k:H p=none:=I.free fp;have C:p≠a:=hs.ne k;refine⟨_,rfl,_,rfl,by decide,by decide,gH (n:=17) (λi σ u=>Fx a H u/\u p=some (.lst ((stm b g o i).map V.str))/\∃l5,σ=[some (.ref a),some (.int 17),some (.str abc),some (.int (o:Nat)),some (.str b),l5,some (.int (g:Nat)),some (.ref p)]) ⟨I.sm s5,g5,_,rfl⟩ ?_ ?_⟩
 ·rintro i σ u U ⟨fx,gp,l5,rfl⟩;have s1:=Txt.slice_le b none (some ((g:Nat):Int));have s2:=Txt.slice_le b (some ((g:Nat):Int)) none;have ej:((o:Int)+(0+(i:Int))).toNat=o+i:=by lia
  have t:abc.cps[((o:Int)+(0+(i:Int))).toNat]?=some (97+(o+i)):=by rw[ej];exact aWy (by lia)
  refine⟨_,rfl,.inl ⟨rfl,_,SqL.of gp⟩,_,rfl,_,rfl,_,rfl,_,rfl,small (by lia),_,rfl,_,rfl,_,rfl,_,_,rfl,rfl,_,_,_,rfl,rfl,(by show 0<=(o:Int)+(0+(i:Int));lia),(by show (o:Int)+(0+(i:Int))<2 ^ 63;lia),(by rw[G];show (o:Int)+(0+(i:Int))<26;lia),t,_,_,rfl,rfl,?_,_,rfl,_,rfl,_,rfl,_,rfl,small (by lia),_,_,rfl,rfl,?_,?_⟩
  ·show (Txt.slice b none (some ((g:Nat):Int))).length+1<=sizeLine;exact small (by lia)
  ·rw[aM];show (Txt.slice b none (some ((g:Nat):Int))).length+1+_<=sizeLine;exact small (by lia)
  refine⟨p,_,_,rfl,rfl,gp,?_,fx.upd k C,?_,_,rfl⟩
  ·rw[d7];exact dC (by simp[stm];lia)
  ·rw[aL];unfold stm;rw[bDN,bAY,bAY];rfl
 rintro σ H6 ⟨f6,g6,l5',rfl⟩;dsimp only[kW,aYd,tB,tCB,dO];refine aSa (λL=>L=words) (λi _ y=>∃m,words[i]?=some m/\y=.bl (inV m ((stm b g o 17).map V.str))) (λ_ h=>h) (λ_ h=>h) [none,some (.ref p)] ?_ rfl (λR r=>⟨rfl,λW H7 _ Y g7=>r W H7 _ Y g7 rfl⟩) (λL e=>by subst e;exact small (by decide)) (λL e i x ex u R l sm r=>?_) λL e D H7 ys Y g7 a7 hR=>?_
 ·exact tG 7 (by trivial) rfl rfl (by trivial)
 ·subst e;have fl:kJ x=true:=by have:=aDp;rw[bBL] at this;exact this x (bAR ex)
  exact⟨_,rfl,_,rfl,p,_,rfl,.inl (SqL.of (sm _ _ g6)),fl,aDi,r _ _ (Same.refl _) ⟨x,ex,rfl⟩⟩
 subst e;have ey:ys=(words.map λm=>inV m ((stm b g o 17).map V.str)).map V.bl:=by
  rw[bAP];refine bCK λi=>?_;by_cases U:i<ys.length
  ·obtain⟨m,h1,h2⟩:=hR i ys[i] (b8 U);rw[b8 U,bAC,h1,h2];rfl
  ·rw[bAT (by lia),bAT (by rw[d7];lia)]
 rw[ey] at g7;refine⟨D,_,rfl,SqL.of g7,_,rfl,?_⟩;have J:=f6.sm Y;refine pQ (λc=>?_) (λc=>?_)
 ·refine⟨_,rfl,_,rfl,_,rfl,_,rfl,_,rfl,_,_,rfl,rfl,_,rfl,abc,rfl,small (by rw[G];decide),?_⟩;refine⟨_,rfl,?_,λZ H8 a3 s8 g8=>?_⟩
  ·have:=Txt.slice_le abc (some (o:Int)) (some ((o:Int)+17));rw[G] at this;exact bAG this (by decide)
  have a2:H8 Z=some (.lst ((sgl o).map V.str)):=by rw[g8];exact congrArg (λz=>some (HO.lst z)) (aWl M)
  have f8:=J.sm s8;have j:=J.free a3;refine⟨_,rfl,a,2,rfl,f8.st,by decide,λd H9 v S X=>?_⟩;have B:=v.same _ _ (hs.ne j) a2;refine⟨rfl,_,rfl,pQ (λ_=>?_) (λ_=>?_)⟩
  ·refine⟨_,rfl,.inl ⟨rfl,_,SqL.of B⟩,Z,_,rfl,rfl,B,?_⟩;refine⟨_,rfl,q Z _ (sgl o).reverse ((f8.trans v).upd j (hs.ne j)) j ?_ (aUt M).rev⟩;rw[aL,List.map_reverse]
  ·exact⟨_,rfl,q Z _ (sgl o) (f8.trans v) j B (aUt M)⟩
 ·have hw:∀m∈words,inV m ((stm b g o 17).map V.str)=false:=λm a6=>by
   cases e:inV m ((stm b g o 17).map V.str) with
   |false=>rfl
   |true=>exfalso;apply c;rw[bDU];exact⟨true,List.mem_map.mpr ⟨m,a6,e⟩,rfl⟩
  have hn:=bAk hb a5 ha M hw;refine⟨_,rfl,a,2,rfl,J.st,by decide,λd H9 v S X=>?_⟩;have B:=v.same _ _ C (Y _ _ g6);refine⟨rfl,_,rfl,pQ (λ_=>?_) (λ_=>?_)⟩
  ·refine⟨_,rfl,.inl ⟨rfl,_,SqL.of B⟩,p,_,rfl,rfl,B,?_⟩;refine⟨_,rfl,q p _ (stm b g o 17).reverse ((J.trans v).upd k C) k ?_ hn.rev⟩;rw[aL,List.map_reverse]
  ·exact⟨_,rfl,q p _ (stm b g o 17) (J.trans v) k B hn⟩
def wJ (hd:Hdr):Prop:=Good hd/\∀c∈hd,Nm c.1/\aBv c.2
inductive aMb (K:bFC)(vs:List V)(H:Hp)(Q:VK)(E_:XK):Prop
 |mk (a N:Addr) (ns:List Str) (_:vs=[.ref a,.ref N]) (_:jV H a) (_:H N=some (.lst (ns.map V.str))) (_:N≠a) (_:jC ns) (_:∀v H' hd,Fx a H H'->jW K H' v hd->wJ hd->hd.length<=7->Q v H')
def aNt {α:Type}{l:List α}(h:l.Nodup){i j:Nat}{x:α}(g:l[i]?=some x)(f:l[j]?=some x):i=j:=by
 have e:=List.pairwise_iff_getElem.mp h;obtain⟨a,c⟩:=List.getElem?_eq_some_iff.mp g;obtain⟨b,d⟩:=List.getElem?_eq_some_iff.mp f;rcases Nat.lt_trichotomy i j with q|q|q
 ·exact absurd (c.trans d.symm) (e i j a b q)
 ·exact q
 ·exact absurd (d.trans c.symm) (e j i b a q)
def bDj {α:Type}{l:List α}(h:∀(i j:Nat) (x:α),l[i]?=some x->l[j]?=some x->i=j):l.Nodup:=by refine List.pairwise_iff_getElem.mpr λi j a b c e=>?_;have:=h i j l[i] (b8 a) (by rw[b8 b,e]);lia
def aTs {ns:List Str}(hn:jC ns){st:Nat}{b:Hdr}(hl:b.length<=8)(h:∀(j:Nat) (c:Str × Str),b[j]?=some c->ns[3+(st+j) % 8]?=some c.1):(b.map (·.1)).Nodup:=by
 refine bDj λi j x m d=>?_;have g:∀k,(b.map (·.1))[k]?=some x->k<b.length/\ns[3+(st+k) % 8]?=some x:=λk a=>by
  rw[bAC] at a;cases e:b[k]? with
  |none=>rw[e] at a;cases a
  |some c=>rw[e] at a;cases a;exact⟨(List.getElem?_eq_some_iff.mp e).1,h k c e⟩
 obtain⟨o,l⟩:=g i m;obtain⟨n,f⟩:=g j d;have:=aNt hn.2.2 l f;lia
def aHl (T:Txt w K mg)(aO:Ok P w K mg base 1 "_law_next" m7 gO):Ok P w K mg base 2 "_law_head" bQF (aMb K):=by
 refine Ok.ofV T.aJg yQ (by trivial) (λf a6 A U s H vs Q E hr h=>?_)
 obtain⟨a,N,D,rfl,hs,hN,nN,G,q⟩:=h;have a5:=yQ.nd;refine⟨_,(aA (aY 2 (bU aO (aG (vv 0) (va1 aC)))) (aA (aY 3 (bM gB)) (aA (gR PassesOwn.never rfl (eE (by rfl) T.gG (va1 (aW eG aC (aW aCt (bU aO (aG (vv 0) (va1 aC))) (aW eG aC (bG tO (by rfl) T.aFx aAo (va1 (uC cJ (bU aO (aG (vv 0) (va1 aC))) aC)))))))) (cU 4) (aA (aY 5 (bO cX (bM (aG aF (aG aF (va1 aF)))) (bU aO (aG (vv 0) (va1 aC))))) (aB (dG (fK PySem.F.plainAttrs_list PySem.F.slot_list_append PySem.F.type_list_append dM (vv 3) (va1 (aK (aG (bO cX (vv 1) (aW eG aC (aW wH (aW eG (vv 2) (vv 4)) aC))) (va1 (vv 5)))))))))) (aB (aJ (bG cC (by rfl) T.cO cB (va1 (vv 3)))))))),?_⟩;have a7:=G.1;refine⟨_,rfl,a,8,rfl,hs,by decide,λx H1 f1 a4 a3=>?_⟩;obtain⟨st,rfl⟩:∃st:Nat,x=st:=⟨x.toNat,by lia⟩;refine⟨(by show 0<=sizeLine;decide),λp H2 fp s2 g2=>?_⟩;have f2:=f1.sm s2;have l:H p=none:=f1.free fp;have g:p≠a:=hs.ne l;refine⟨_,rfl,a,4,rfl,f2.st,by decide,λm H3 L m0 m1=>?_⟩;refine⟨_,rfl,a,8,rfl,L.st,by decide,λe H4 f4 e0 e1=>?_⟩;have M:=f2.trans (L.trans f4);have g4:=f4.same _ _ g (L.same _ _ g g2);refine⟨rfl,.inr ⟨_,rfl,?_⟩⟩;have bnd:∃z:Nat,1+m * (1+(if decide (V.int e=V.int 0) then 1 else 0))=(z:Int)/\1<=z/\z<=7:=by
  cases decide (V.int e=V.int 0)
  ·exact⟨(1+m).toNat,by simp;lia,by lia,by lia⟩
  ·exact⟨(1+m * 2).toNat,by simp;lia,by lia,by lia⟩
 obtain⟨z,ez,z1,z7⟩:=bnd;refine⟨_,_,rfl,rfl,_,_,rfl,rfl,.inl ⟨by lia,by lia⟩,_,_,rfl,rfl,?_⟩;refine⟨(z:Int),?_,by lia,by lia,?_⟩
 ·show [V.int (1+m * (1+(if decide (V.int e=V.int 0) then 1 else 0)))]=_;rw[ez]
 rw[bCJ];refine gH (n:=z) (λi σ v=>Fx a H v/\∃(us:List V) (hd:Hdr) (l4 l5:Option V),v p=some (.lst us)/\hd.length=i/\bY (IsC K v) us hd/\(∀(j:Nat) (c:Str × Str),hd[j]?=some c->D[3+(st+j) % 8]?=some c.1/\aBv c.2)/\σ=[some (.ref a),some (.ref N),some (.int (st:Nat)),some (.ref p),l4,l5]) ⟨M,[],[],_,_,g4,rfl,.nil,λj c h=>by simp at h,rfl⟩ ?_ ?_
 ·rintro i σ v hi ⟨fx,us,hd,l4,l5,gp,hl,hu,hc,rfl⟩;have lu:=hu.len;refine⟨(by show 3<=sizeLine;decide),λp1 H5 Z k g5=>?_⟩;refine⟨_,rfl,a,3,rfl,fx.st.same k,by decide,λd H6 y d0 d1=>?_⟩;obtain⟨kv,Y,o⟩:=at_of (xs:=[.str "number",.str "number",.str "word"]) d0 (by show d<3;lia);obtain⟨B,rfl,a2⟩:∃B:Str,kv=.str B/\aBv B:=by
   simp only[bAJ,bAE,or_false] at o;rcases o with rfl|rfl|rfl
   ·exact⟨_,rfl,.inl rfl⟩
   ·exact⟨_,rfl,.inl rfl⟩
   ·exact⟨_,rfl,.inr rfl⟩
  have r:=(fx.sm k).trans y;refine⟨p1,_,_,_,rfl,rfl,SqL.of (y.same _ _ (fx.st.ne Z) g5),Y,?_⟩;have b:=y.same _ _ g (k _ _ gp);have a0:=r.same _ _ nN hN;have a1:bY (IsC K H6) us hd:=hu.imp λ_ _ ⟨X,R,I⟩=>⟨X,R,y.aQ (fx.st.same k) (k.aQ I)⟩;have u:3+(st+i) % 8<D.length:=by lia
  refine⟨_,rfl,.inl ⟨rfl,_,SqL.of b⟩,?_⟩;refine⟨_,rfl,_,rfl,_,rfl,_,_,rfl,rfl,_,_,rfl,rfl,(by show (0:Int)<8;decide),_,_,rfl,rfl,N,_,_,.str D[3+(st+i) % 8],rfl,rfl,SqL.of a0,?_,_,rfl,(by show 2<=sizeLine;decide),λt H7 ft C g7=>?_⟩
  ·have e8:(3:Int)+((st:Int)+(0+(i:Int))) % 8=((3+(st+i) % 8:Nat):Int):=by lia
   rw[e8];exact dJ (by rw[bAC,b8 u];rfl)
  refine⟨p,_,_,rfl,rfl,C _ _ b,dC (by lia),?_⟩;have O:=(bA b ft).symm;refine⟨(r.sm C).upd l g,us++[.ref t],hd++[(D[3+(st+i) % 8],B)],_,_,aL,by rw[j4,hl];rfl,?_,λj c h=>?_,rfl⟩
  ·refine (a1.imp λ_ _ ⟨X,R,I⟩=>⟨X,R,(C.aQ I).aC3 (C _ _ b)⟩).app (.cons ⟨t,rfl,SqT.of (by rw[aV O];exact g7)⟩ .nil)
  ·by_cases S:j<hd.length
   ·rw[bCU S] at h;exact hc j c h
   ·rw[bBY (by lia)] at h;have J:j - hd.length=0:=by
     by_cases z0:j - hd.length=0
     ·exact z0
     ·rw[bAT (by simp;lia)] at h;cases h
    rw[J] at h;cases h;have:j=i:=by lia
    subst this;exact⟨b8 u,a2⟩
 ·rintro σ v ⟨fx,us,hd,l4,l5,gp,hl,hu,hc,rfl⟩;refine⟨_,rfl,p,us,rfl,SqL.of gp,λt H5 _ k g5=>q _ _ hd (fx.sm k) ⟨t,us,rfl,SqT.of g5,hu.imp λ_ _ h=>h.same k⟩ ⟨⟨aTs G (by lia) λj c h=>(hc j c h).1,by lia,by lia⟩,λc W=>?_⟩ (by lia)⟩;obtain⟨j,S,e⟩:=bDX W;have h2:=hc j c (by rw[b8 S,e]);exact⟨G.2.1 _ (bAR h2.1),h2.2⟩
def TK (K:bFC)(H H':Hp):Prop:=∀p xs,SqT K H p xs->SqT K H' p xs
def _root_.L2.Fx.tk (f:Fx a H H')(h:jV H a):TK K H H':=λ_ _ e=>f.aQ h e
def TK.of (s:Same H H'):TK K H H':=λ_ _ e=>s.aQ e
def IsC.tk (e:TK K H H')(h:IsC K H v c):IsC K H' v c:=by obtain⟨p,rfl,a⟩:=h;exact⟨p,rfl,e _ _ a⟩
def tQ {α:Type}{K:bFC}{H H':Hp}{R S:V->α->Prop}{v:V}{xs:List α}(e:TK K H H')(k:∀a b,R a b->S a b)(h:aCo K H R v xs):aCo K H' S v xs:=by obtain⟨a,c,rfl,f,d⟩:=h;exact⟨a,c,rfl,e _ _ f,d.imp k⟩
def jW.tk (e:TK K H H')(h:jW K H v hd):jW K H' v hd:=tQ e (λ_ _ q=>q.tk e) h
def IsO.tk (e:TK K H H')(h:IsO K H v o):IsO K H' v o:=by
 cases o with
 |val x=>obtain⟨a,rfl,b,g,c⟩:=h;exact⟨a,rfl,e _ _ b,c.th,c⟩
 |col d=>obtain⟨a,rfl,b,f⟩:=h;exact⟨a,rfl,e _ _ b,f⟩
def IsT.tk (e:TK K H H')(h:IsT K H v t):IsT K H' v t:=by obtain⟨a,w,rfl,d,f,c,b⟩:=h;exact⟨a,w,rfl,e _ _ d,f,c,b.tk e⟩
def oY.tk (e:TK K H H')(h:oY K H v t):oY K H' v t:=by obtain⟨a,rfl,c,b⟩:=h;exact⟨a,rfl,e _ _ c,b⟩
def nZ.tk (e:TK K H H')(h:nZ K H v t):nZ K H' v t:=by obtain⟨a,rfl,c,b⟩:=h;exact⟨a,rfl,e _ _ c,b⟩
def lE.tk (e:TK K H H')(h:lE K H v t):lE K H' v t:=by
 obtain⟨a,rfl,b,d⟩:=h;refine⟨a,rfl,b,?_⟩;rcases d with⟨x,y,z⟩|⟨c,x,y,z,u⟩
 ·exact .inl ⟨x,y,e _ _ z⟩
 ·exact .inr ⟨c,x,y,z,e _ _ u⟩
def lD.tk {α:Type}{S:bFC->Hp->V->α->Prop}{lo hi:Nat}{K:bFC}{H H':Hp}{v:V}{xs:List α}(e:TK K H H')(k:∀{v t},S K H v t->S K H' v t)(h:lD S lo hi K H v xs):lD S lo hi K H' v xs:=
 ⟨tQ e (λ_ _=>k) h.1,h.2⟩
def IsQ.tk {K:bFC}{H H':Hp}{v:V}{q:Qn}(e:TK K H H')(h:IsQ K H v q):IsQ K H' v q:=by
 induction h with
 |table a b=>exact .table (e _ _ a) b
 |whr a _ c ih=>exact .whr (e _ _ a) ih (c.tk e λh=>h.tk e)
 |keep a _ c ih=>exact .keep (e _ _ a) ih (c.tk e λh=>h)
 |nmd a _ c ih=>exact .nmd (e _ _ a) ih (c.tk e λh=>h)
 |join a _ _ c ih1 ih2=>exact .join (e _ _ a) ih1 ih2 (c.tk e λh=>h.tk e)
 |group a _ c d ih=>exact .group (e _ _ a) ih (c.tk e λh=>h) (d.tk e λh=>h.tk e)
 |first a _ c d ih=>exact .first (e _ _ a) ih (c.tk e λh=>h.tk e) d
def oU (a:(hd.map (·.1)).Nodup)(h:c∈hd):look hd c.1=some c.2:=by
 induction hd with
 |nil=>cases h
 |cons x r ih=>
  rw[bAB,bER] at a;unfold look;rw[bBV];rcases List.mem_cons.mp h with rfl|h
  ·rw[v7 rfl];rfl
  ·have b:¬ x.1=c.1:=λz=>a.1 (by rw[z];exact List.mem_map.mpr ⟨c,h,rfl⟩);rw[j6 b];exact ih a.2 h
def aZb (h:aAh k x):Vl x:=by
 cases h with
 |num h=>exact .inl ⟨_,rfl,h⟩
 |wrd hx hl=>exact .inr ⟨_,rfl,hx,hl⟩
def aZ5 (h:aAh k x):aJs x=true/\kindS x=k:=by
 cases h with
 |num=>exact⟨rfl,rfl⟩
 |@wrd y hx hl=>refine⟨?_,rfl⟩;show (false || (decide (0<=y.length) && (decide (y.length<=8) && allIn y)))=true;rw[v7 (bAK _),v7 hl,allIn_of hx];rfl
def kp (hd:Hdr)(k:Str)(i:Nat):Bool:=match hd[i]? with
 |some c=>decide (c.2=k)
 |none=>false
abbrev sgs:Str:="=<>!"
def aZr:∀j:_root_.Fin 4,∃c,sgs.cps[j.val]?=some c/\((⟨#[c]⟩:Str) = "="\/(⟨#[c]⟩:Str) = "<"\/(⟨#[c]⟩:Str) = ">"\/(⟨#[c]⟩:Str) = "!"):=by
 intro j
 match j with
 |⟨0,_⟩=>exact⟨61,(by show sgs.cps[0]?=some 61;decide +kernel),.inl (by trivial)⟩
 |⟨1,_⟩=>exact⟨60,(by show sgs.cps[1]?=some 60;decide +kernel),.inr (.inl (by trivial))⟩
 |⟨2,_⟩=>exact⟨62,(by show sgs.cps[2]?=some 62;decide +kernel),.inr (.inr (.inl (by trivial)))⟩
 |⟨3,_⟩=>exact⟨33,(by show sgs.cps[3]?=some 33;decide +kernel),.inr (.inr (.inr (by trivial)))⟩
 |⟨n+4,h⟩=>exact absurd h (by lia)
inductive aFr (K:bFC)(vs:List V)(H:Hp)(Q:VK)(E_:XK):Prop
 |mk (a:Addr) (vh:V) (hd:Hdr) (_:vs=[.ref a,vh]) (_:jV H a) (_:jW K H vh hd) (_:wJ hd) (_:∀v H' ts,Fx a H H'->lD IsT 1 2 K H' v ts->(∀t∈ts,aNd hd t)->Q v H')
def aS9 (h:jZ R is ys):∀y∈ys,∃i∈is,R i y:=by
 induction h with
 |nil=>intro y a;cases a
 |cons r _ ih=>
  intro z hz;rcases List.mem_cons.mp hz with rfl|hz
  ·exact⟨_,j5 ..,r⟩
  ·obtain⟨i,b,q⟩:=ih z hz;exact⟨i,j7 _ b,q⟩
theorem aH2:∀{k n:Nat} {i:Nat},i∈sel p k (List.range' k n)->p i=true/\k<=i/\i<k+n
 |k,0,i,h=>by cases h
 |k,n+1,i,h=>by
  rw[bEK] at h;have h:i∈(if p k then k::sel p (k+1) (List.range' (k+1) n) else sel p (k+1) (List.range' (k+1) n)):=h
  split at h
  ·rcases List.mem_cons.mp h with rfl|h
   ·exact⟨by assumption,by lia,by lia⟩
   ·obtain⟨a,b,c⟩:=aH2 h;exact⟨a,by lia,by lia⟩
  ·obtain⟨a,b,c⟩:=aH2 h;exact⟨a,by lia,by lia⟩
theorem aO2 {p:Nat->Bool}:∀{k n:Nat} {i:Nat},p i=true->k<=i->i<k+n->i∈sel p k (List.range' k n)
 |k,0,i,_,_,_=>by lia
 |k,n+1,i,h,h1,h2=>by
  rw[bEK];show i∈(if p k then k::sel p (k+1) (List.range' (k+1) n) else sel p (k+1) (List.range' (k+1) n));by_cases e:i=k
  ·subst e;rw[if_pos h];exact j5 ..
  ·have:=aO2 (k:=k+1) (n:=n) h (by lia) (by lia)
   split
   ·exact j7 _ this
   ·exact this
def aE0 (T:Txt w K mg)(aO:Ok P w K mg base 1 "_law_next" m7 gO)(bh:Ok P w K mg base 3 "_law_value" bQJ aP6):Ok P w K mg base 4 "_law_tests" o7 (aFr K):=by
 refine Ok.ofV T.aIw nQ (by trivial) (λf b9 A ax s H vs Q E hr h=>?_)
 obtain⟨a,vh,o,rfl,hs,⟨b,us,rfl,hb,hu⟩,⟨⟨nd,l1,l8⟩,hc⟩,q⟩:=h;have bf:=nQ.nd;refine⟨_,(aA (aY 2 (bM gB)) (aA (gR PassesOwn.never rfl (eE (by rfl) T.gG (va1 (aW eG aC (bU aO (aG (vv 0) (va1 aC)))))) (cU 3) (aA (rD (bO bD (vv 1) (bU aO (aG (vv 0) (va1 (aR bB (by rfl) T.eN cR (va1 (vv 1))))))) (kE rfl (aX (cU 4) (aX (cU 5) dF)))) (aA (aY 6 (aK (aG aF (va1 (bU bh (aG (vv 0) (va1 (vv 5)))))))) (aA (wZ (i0:=7) nQ.nd rfl (by trivial) (N:=["_law_column","_law_sort","_law_kind"]) ck (jJ (aD qF)) rfl (fX (vv 1)) (λcl X l fp=>⟨(lF (K:=K) (n:=2) rfl (aX (fZ 0) (aX (fZ 1) dF))),(aAp (cT cJ (vv 1) (vv 2))),(vv 0)⟩)) (aA (bN (cT cJ (bU aO (aG (vv 0) (va1 aC))) aC) (aB (aY 6 (aK (aG aF (va1 (bO cX (vv 7) (bU aO (aG (vv 0) (va1 (aR bB (by rfl) T.eN cR (va1 (vv 7)))))))))))) aU) (aB (dG (fK PySem.F.plainAttrs_list PySem.F.slot_list_append PySem.F.type_list_append dM (vv 2) (va1 (aK (aG (vv 4) (aG (iR aF (bU aO (aG (vv 0) (va1 aC))) (λ_ _=>rfl)) (va1 (vv 6)))))))))))))) (aB (aJ (bG cC (by rfl) T.cO cB (va1 (vv 2))))))),?_⟩;have lu:=hu.len;refine⟨(by show 0<=sizeLine;decide),λp H1 fp s1 g1=>?_⟩;have f1:=Fx.of hs s1;have j:p≠a:=hs.ne fp;refine⟨_,rfl,a,2,rfl,f1.st,by decide,λm H2 f2 m0 m1=>?_⟩;have av:=f1.trans f2;have g2:=f2.same _ _ j g1;refine⟨_,_,rfl,rfl,_,rfl,(by show -(2 ^ 62)<=1+m;lia),(by show 1+m<2 ^ 62;lia),?_⟩;refine gH (n:=(1+m).toNat) (λi σ l=>Fx a H l/\∃(ws:List V) (ts:List Tst) (l3 l4 l5 l6 l7:Option V),l p=some (.lst ws)/\ts.length=i/\bY (IsT K l) ws ts/\(∀t∈ts,aNd o t)/\σ=[some (.ref a),some (.ref b),some (.ref p),l3,l4,l5,l6,l7]) ⟨av,[],[],_,_,_,_,_,g2,rfl,.nil,(λt h=>by cases h),rfl⟩ ?_ ?_
 ·rintro i σ l hi ⟨fx,ws,ts,l3,l4,l5,l6,l7,gp,hl,hw,hts,rfl⟩;have lw:=hw.len;have b4:TK K H l:=fx.tk hs;refine⟨_,rfl,_,rfl,_,rfl,_,_,rfl,.inr (b4 _ _ hb),a,_,rfl,fx.st,(by show (0:Int)<(us.length:Int);lia),λd H3 f3 d0 d1=>?_⟩;obtain⟨u,ay,ah⟩:=at_of (xs:=us) d0 d1;obtain⟨c,a2,pc,rfl,aq⟩:=hu.mem ah;obtain⟨ad,ap⟩:=hc c a2;have bc:=f3;have a8:=fx.trans f3;have ag:TK K H H3:=a8.tk hs;refine⟨b,_,_,_,rfl,rfl,ag _ _ hb,ay,pc,_,rfl,ag _ _ aq,rfl,_,_,rfl,_,_,rfl,rfl,?_⟩;refine⟨_,rfl,_,rfl,a,c.2,rfl,a8.st,ap,λv H4 f4 hv=>?_⟩;refine⟨(by show 2<=sizeLine;decide),λt1 H5 ba s5 g5=>?_⟩;have al:=(f3.trans f4).sm s5;have Z:=(a8.trans f4).sm s5;have I:TK K H H5:=Z.tk hs;have az:IsO K H5 (.ref t1) (.val v):=⟨t1,rfl,SqT.of g5,(aZb hv).th,aZb hv⟩;have b5:aZx o (.val v)=some c.2:=by show some (kindS v)=some c.2;rw[(aZ5 hv).2]
  have an:=s5 _ _ (f4.same _ _ j (f3.same _ _ j gp));dsimp only[kW,rC,cI];refine sS [none,none,some (.str c.2)] ?_ ⟨_,rfl,b,rfl,⟨_,I _ _ hb⟩,aA4 Same (qM H5) us (kp o c.2) (λi _ y=>∃g,o[i]?=some g/\y=.str g.1) (λ_ _ h=>h) (λ_ _ _ h=>h) (λi σ=>∃g,o[i]?=some g/\At2 [none,none,some (.str c.2)] (.str g.1) (.str g.2) σ) (Ps2 [none,none,some (.str c.2)]) ⟨none,none,rfl⟩ (small (by lia)) _ (aDo λl X=>X.aQ (I _ _ hb)) (rF λl X=>X.aQ (I _ _ hb)) (λi x σ' l Q' ex b3 X qq=>?_) (λi x σ2 ex hA l R X r=>?_) (λi x σ2 ex hA hp l R X r=>?_) λD H6 ys s6 fD g6 Y=>?_⟩
  ·refine⟨rfl,λi y v h1 J=>?_⟩
   match i,h1,J with
   |0,_,J=>cases J
   |1,_,J=>cases J
   |2,h1,J=>cases h1;cases J;exact⟨by trivial,5,rfl,rfl,by trivial⟩
   |i+3,h1,_=>cases h1
  ·obtain⟨g,k,p',rfl,b1⟩:=dH hu ex;exact hg2 (X.aQ (I _ _ b1)) b3 fun σ2 h1 J=>qq σ2 h1 ⟨g,k,J⟩
  ·obtain⟨g,k,rfl⟩:=hA;refine⟨_,rfl,_,rfl,rfl,_,rfl,?_⟩;have e:kp o c.2 i=decide (V.str g.2=V.str c.2):=by unfold kp;rw[k];exact decide_eq_decide.mpr ⟨λz=>congrArg V.str z,λz=>V.str.inj z⟩
   rw[<-e];exact r l (Same.refl l)
  ·obtain⟨g,k,rfl⟩:=hA;exact⟨_,rfl,r _ _ (Same.refl l) ⟨g,k,rfl⟩⟩
  have b2:=al.sm s6;have O:=Z.sm s6;have be:TK K H H6:=O.tk hs;have ai:D≠a:=Z.st.ne fD;obtain⟨j0,ao,am⟩:=bDX a2;have bg:0<ys.length:=by
   have aj:j0∈sel (kp o c.2) 0 (List.range us.length):=by rw[bDS];refine aO2 ?_ (bAK _) (by lia);unfold kp;rw[b8 ao,am];exact v7 rfl
   rw[<-Y.len];exact List.length_pos_of_mem aj
  have b0:∀y∈ys,∃g∈o,y=.str g.1/\g.2=c.2:=λy hy=>by obtain⟨i,hi,g,k,rfl⟩:=aS9 Y y hy;rw[bDS] at hi;have hp:=(aH2 hi).1;unfold kp at hp;rw[k] at hp;exact⟨g,bAR k,rfl,of_decide_eq_true hp⟩
  have bd:ys.length<=8:=by have:=xX (kp o c.2) 0 (List.range us.length);rw[bAH,Y.len] at this;lia
  have ab:look o c.1=some c.2:=oU nd a2;refine⟨_,rfl,a,3,rfl,O.st,by decide,λd3 H7 f7 _ _=>⟨rfl,_,rfl,?_⟩⟩;have U:=b2.trans f7;have ac:=O.trans f7;have S:=f7.same _ _ j (s6 _ _ an);have ae:=f7.same _ _ ai g6;refine pQ (λ_=>?_) (λ_=>?_)
  ·refine⟨_,rfl,_,rfl,_,rfl,D,_,rfl,.inl (SqL.of ae),a,_,rfl,ac.st,(by show (0:Int)<(ys.length:Int);lia),λd8 H8 f8 ak au=>?_⟩;obtain⟨y,hy,my⟩:=at_of (xs:=ys) ak au;obtain⟨g,W,rfl,af⟩:=b0 y my;refine⟨D,_,_,_,rfl,rfl,SqL.of (f8.same _ _ ai ae),hy,(by show 2<=sizeLine;decide),λt2 H9 bb s9 g9=>?_⟩;have a4:=(U.trans f8).sm s9;have b6:=(ac.trans f8).sm s9;have aw:IsO K H9 (.ref t2) (.col g.1):=⟨t2,rfl,SqT.of g9,(hc g W).1⟩;have as:aZx o (.col g.1)=some c.2:=by show look o g.1=some c.2;rw[oU nd W,af]
   have a3:=s9 _ _ (f8.same _ _ j S);refine⟨_,rfl,.inl ⟨rfl,_,SqL.of a3⟩,_,rfl,_,rfl,a,4,rfl,a4.st,by decide,λdz Hz L aa a7=>?_⟩;obtain⟨ch,a0,a9⟩:=aZr ⟨dz.toNat,by lia⟩;have sl:sgs.length=4:=by trivial
   refine⟨_,_,_,rfl,rfl,aa,(by lia),(by rw[sl];exact a7),a0,_,rfl,(by show 3<=sizeLine;decide),λM Hy a1 sy gy=>?_⟩;have C:=(a4.trans L).sm sy;have G:=sy _ _ (L.same _ _ j a3);have a6:M≠p:=(bA (L.same _ _ j a3) a1).symm;have B:∀zs,TK K Hy (upd Hy p (.lst zs)):=λzs _ _ e=>e.aC3 G;have a5:=(aw.tk (λ_ _ e=>sy.aQ (L.aQ a4.st e))).tk (B (ws++[.ref M]));refine⟨p,_,_,rfl,rfl,G,dC (by lia),?_⟩;refine⟨(fx.trans C).upd fp j,ws++[.ref M],ts++[⟨c.1,⟨#[ch]⟩,(.col g.1)⟩],_,_,_,_,_,aL,by rw[j4,hl];rfl,(hw.imp λ_ _ h=>(h.tk (C.tk fx.st)).tk (B _)).app (.cons (b:=(⟨c.1,⟨#[ch]⟩,.col g.1⟩:Tst)) ⟨M,_,rfl,SqT.of (by rw[aV a6];exact gy),ad,a9,a5⟩ .nil),λt ht=>?_,rfl⟩;rcases List.mem_append.mp ht with ht|ht
   ·exact hts t ht
   ·rw[List.mem_singleton.mp ht];exact⟨c.2,ab,as⟩
  ·have ar:IsO K H7 (.ref t1) (.val v):=az.tk λ_ _ e=>f7.aQ O.st (s6.aQ e);refine⟨_,rfl,.inl ⟨rfl,_,SqL.of S⟩,_,rfl,_,rfl,a,4,rfl,U.st,by decide,λdz Hz L aa a7=>?_⟩;obtain⟨ch,a0,a9⟩:=aZr ⟨dz.toNat,by lia⟩;have sl:sgs.length=4:=by trivial
   refine⟨_,_,_,rfl,rfl,aa,(by lia),(by rw[sl];exact a7),a0,_,rfl,(by show 3<=sizeLine;decide),λM Hy a1 sy gy=>?_⟩;have C:=(U.trans L).sm sy;have G:=sy _ _ (L.same _ _ j S);have a6:M≠p:=(bA (L.same _ _ j S) a1).symm;have B:∀zs,TK K Hy (upd Hy p (.lst zs)):=λzs _ _ e=>e.aC3 G;have a5:=(ar.tk (λ_ _ e=>sy.aQ (L.aQ U.st e))).tk (B (ws++[.ref M]));refine⟨p,_,_,rfl,rfl,G,dC (by lia),?_⟩;refine⟨(fx.trans C).upd fp j,ws++[.ref M],ts++[⟨c.1,⟨#[ch]⟩,(.val v)⟩],_,_,_,_,_,aL,by rw[j4,hl];rfl,(hw.imp λ_ _ h=>(h.tk (C.tk fx.st)).tk (B _)).app (.cons (b:=(⟨c.1,⟨#[ch]⟩,.val v⟩:Tst)) ⟨M,_,rfl,SqT.of (by rw[aV a6];exact gy),ad,a9,a5⟩ .nil),λt ht=>?_,rfl⟩;rcases List.mem_append.mp ht with ht|ht
   ·exact hts t ht
   ·rw[List.mem_singleton.mp ht];exact⟨c.2,ab,b5⟩
 ·rintro σ l ⟨fx,ws,ts,l3,l4,l5,l6,l7,gp,hl,hw,hts,rfl⟩;exact⟨_,rfl,p,ws,rfl,SqL.of gp,λt H5 _ s5 g5=>q _ _ ts (fx.sm s5) ⟨⟨t,ws,rfl,SqT.of g5,hw.imp λ_ _ h=>h.same s5⟩,by lia,by lia⟩ hts⟩
end
end My
namespace L2
open PySem PySem.Spec PyProof.Rows PySem.Builtin PySem.Builtin.Str
section
variable {X:Cx}
theorem aGi:∀l:List (Str × Tok),Vals ((l.map (·.1)).map V.str) (strValues l)
 |[]=>.nil
 |p::l=>.cons ⟨p.2,rfl⟩ (aGi l)
def bAf:V->List V->Hp->VK->Prop:=λx vs H Q=>∃z w,x=.str z/\vs=[.str w]/\(w.length == 0)=false/\z.length+2<=sizeLine /\
 ∀p H',H p=none->Same H H'->H' p=some (.lst ((Txt.split z w).map V.str))->Q (.ref p) H'
def aTa:MtR X "str.split" bAf:=by
 intro g s σ H z r v p Q I o n h;obtain⟨x,y,rfl,rfl,i,m,q⟩:=h;obtain⟨t,rfl⟩:=o;obtain⟨A,rfl,u,rfl⟩:=n.one;have d:=I.hok.fresh (j9 _);have a:∀l k,l.map (·.1)=Txt.split x y->EP X g σ Q (.ref s.heap.objs.size) { s with heap:=s.heap.push { cls:=.type "list",data:=.seq (strValues l).toArray },toks:=k }:=by intro l k e;refine⟨.ref s.heap.objs.size,upd H s.heap.objs.size (.lst ((Txt.split x y).map V.str)),I.laid (t':=k) (λb u e=>c7 _ e) (j9 _) ?_,rfl,q _ _ d (bV d _) aL⟩;exact⟨by rw[d7];exact bAG (split_le x y) m,_,0,e ▸ aGi l,w6 _ rfl⟩
 have j:(partsBetween x (occurrences x y 0 x.length (x.length+1)) y.length).length<=sizeLine:=by have w:=StrLaws.occ_length_le x y 0 x.length (x.length+1);rw[length_partsBetween];lia
 cases c:(decide (x.length<y.length) || decide (strKind x<strKind y))
 ·cases f:(occurrences x y 0 x.length (x.length+1)).isEmpty
  ·refine call_meets F.slot_str_split (typeIs_str _ _ _) F.entry_str_split (F.args_str_split_2 _ _) (meets_str_split_sep x y t u c i f (by lia) j) ?_;rw[strsFrom_eq];exact a (numbered s.toks _) _ ((numbered_texts _ _).trans ((if_neg (ne_true_of_eq_false c)).trans (if_neg (ne_true_of_eq_false f))).symm)
  ·exact call_meets F.slot_str_split (typeIs_str _ _ _) F.entry_str_split (F.args_str_split_2 _ _) (meets_str_split_not_found x y t u c i f)
    (a [(x,t)] s.toks ((if_neg (ne_true_of_eq_false c)).trans (if_pos f)).symm)
 ·exact call_meets F.slot_str_split (typeIs_str _ _ _) F.entry_str_split (F.args_str_split_2 _ _) (meets_str_split_cannot_occur x y t u c)
   (a [(x,t)] s.toks (if_pos c).symm)
theorem aO5:∀{a b:List Nat} {r q:List Nat},c∉a->c∉b->(r=[]\/r.head?=some c)->(q=[]\/q.head?=some c)->a++r=b++q->a=b/\r=q
 |[],[],_,_,_,_,_,_,e=>⟨rfl,e⟩
 |[],y::b,r,q,_,hb,hr,_,e=>by
  rcases hr with rfl|hr
  ·cases e
  ·rw[bDM] at e;rw[e] at hr;cases hr;exact absurd (j5 ..) hb
 |x::a,[],r,q,ha,_,_,hq,e=>by
  rcases hq with rfl|hq
  ·cases e
  ·rw[bDM] at e;rw[<-e] at hq;cases hq;exact absurd (j5 ..) ha
 |x::a,y::b,r,q,ha,hb,hr,hq,e=>by obtain⟨d,f⟩:=List.cons.inj e;obtain⟨g,i⟩:=aO5 (λh=>ha (j7 _ h)) (λh=>hb (j7 _ h)) hr hq f;exact⟨by rw[d,g],i⟩
def behind (c:Nat):List Str->List Nat
 |[]=>[]
 |t::ts=>c::(Str.join ⟨#[c]⟩ (t::ts)).cps.toList
def aPl (a b:Str):(a++b).cps.toList=a.cps.toList++b.cps.toList:=by exact bDV
def aBd (c:Nat)(t:Str)(ts:List Str):(Str.join ⟨#[c]⟩ (t::ts)).cps.toList=t.cps.toList++behind c ts:=by
 cases ts with
 |nil=>show t.cps.toList=_;exact (bAW _).symm
 |cons u us=>rw[show Str.join ⟨#[c]⟩ (t::u::us)=t++⟨#[c]⟩++Str.join ⟨#[c]⟩ (u::us) from rfl,aPl,aPl,bAD];rfl
def aGg (c:Nat)(ts:List Str):behind c ts=[]\/(behind c ts).head?=some c:=by
 cases ts with
 |nil=>exact .inl rfl
 |cons u us=>exact .inr rfl
def aYa {a b:Str}(h:a.cps.toList=b.cps.toList):a=b:=by cases a;cases b;exact congrArg Str.mk (Array.toList_inj.mp h)
theorem aCw {c:Nat}:∀{ts us:List Str},(∀t∈ts,c∉t.cps.toList)->(∀t∈us,c∉t.cps.toList)->behind c ts=behind c us->ts=us
 |[],[],_,_,_=>rfl
 |[],u::us,_,_,e=>by cases e
 |t::ts,[],_,_,e=>by cases e
 |t::ts,u::us,ht,hu,e=>by have a:=(List.cons.inj e).2;rw[aBd,aBd] at a;obtain⟨b,d⟩:=aO5 (ht _ (j5 ..)) (hu _ (j5 ..)) (aGg c ts) (aGg c us) a;rw[aYa b,aCw (λx h=>ht x (j7 _ h)) (λx h=>hu x (j7 _ h)) d]
def aMy (d:ts≠[])(h:∀t∈ts,c∉t.cps.toList):Txt.split (Txt.join ⟨#[c]⟩ ts) ⟨#[c]⟩=ts:=by
 rw[show Txt.join ⟨#[c]⟩ ts=Str.join ⟨#[c]⟩ ts from StrLaws.glued_eq_join _ _];have e:=StrLaws.join_split (Str.join ⟨#[c]⟩ ts) ⟨#[c]⟩;have a:=StrLaws.split_free (Str.join ⟨#[c]⟩ ts) c;have b:=split_pos (Str.join ⟨#[c]⟩ ts) ⟨#[c]⟩;generalize Txt.split (Str.join ⟨#[c]⟩ ts) ⟨#[c]⟩=us at e a b;refine aCw a h ?_;cases us with
 |nil=>exact absurd b (by decide)
 |cons u us=>
  cases ts with
  |nil=>exact absurd rfl d
  |cons t ts=>show c::_=c::_;rw[e]
def aUp (K:bFC):V->List V->Hp->VK->Prop:=λx vs H Q=>∃sep a ts,x=.str sep/\vs=[.ref a]/\SqT K H a (ts.map V.str)/\JoinOk sep ts=true/\Q (.str (Txt.join sep ts)) H
def aU1:MtR X "str.join" (aUp X.K):=by intro g s σ H x A v z Q I j i h;obtain⟨c,a,C,rfl,rfl,m,b,q⟩:=h;obtain⟨t,rfl⟩:=j;obtain⟨u,rfl,p⟩:=i.one;cases p;obtain⟨e,d,⟨o,r,w,n,f⟩,y⟩:=I.tuple m;obtain⟨l,rfl,rfl⟩:=xU d;unfold JoinOk at b;rw[Bool.not_eq_true'] at b;exact call_meets F.slot_str_join (typeIs_str _ _ _) F.entry_str_join (F.args_str_join_2 _ _) (meets_str_join_tuple c t a l b) ⟨⟨o,n,r,w,f⟩,post_join l ⟨joinFit_length b,λB k=>⟨.str _,H,I.tok _,⟨_,rfl⟩,q⟩⟩⟩
def aQ1 {K:bFC}(h:X.K=K:=by rfl):MtR X "str.join" (aUp K):=by subst h;exact aU1
end
def aPn (a:∀y∈ts,y.length<=B)(h:ts.length * B+ts.length * sep.length<=16777216):JoinOk sep ts=true:=by unfold JoinOk;rw[PySem.StrLaws.joinFits a h];rfl
end L2
namespace My
open PySem PySem.Spec PyProof.Rows L2
section
variable {P:Program}{w:World}{K:bFC}{mg:bFF}{base:Heap}
def wO:Oth->Str
 |.val x=>shw x
 |.col d=>d
def wT (t:Tst):List Str:=[t.c,t.sg,wO t.o]
def wP (p:Str × Str):List Str:=[p.1,p.2]
def wS (s:Sm):List Str:=match s.c with
 |none=>[s.wd,s.new]
 |some c=>[s.wd,c,s.new]
def iU:List (List Str)->List Str
 |[]=>[]
 |[a]=>a
 |a::b::r=>a++("and":Str)::iU (b::r)
def cM (x:Str):List (List Str)->List Str
 |[]=>[]
 |a::r=>x::(a++cM x r)
def wq:Qn->List Str
 |.table T=>[T]
 |.whr q ts=>wq q++("where":Str)::iU (ts.map wT)
 |.keep q ns=>wq q++("keep":Str)::ns
 |.nmd q ns=>wq q++("named":Str)::ns
 |.join q r ps=>wq q++("join":Str)::("(":Str)::(wq r++(")":Str)::("on":Str)::iU (ps.map wP))
 |.group q ns ss=>wq q++("group":Str)::(ns++cM "with" (ss.map wS))
 |.first q ks m=>wq q++("first":Str)::shw (.int m)::cM "by" (ks.map wP)
inductive Stp:Qn->Qn->List Str->Prop
 |whr {q ts}:Stp q (.whr q ts) (("where":Str)::iU (ts.map wT))
 |keep {q ns}:Stp q (.keep q ns) (("keep":Str)::ns)
 |nmd {q ns}:Stp q (.nmd q ns) (("named":Str)::ns)
 |join {q r ps}:Stp q (.join q r ps) (("join":Str)::("(":Str)::(wq r++(")":Str)::("on":Str)::iU (ps.map wP)))
 |group {q ns ss}:Stp q (.group q ns ss) (("group":Str)::(ns++cM "with" (ss.map wS)))
 |first {q ks} {m:Nat}:Stp q (.first q ks m) (("first":Str)::shw (.int m)::cM "by" (ks.map wP))
inductive Aft:Qn->Qn->List Str->Prop
 |refl (q:Qn):Aft q q []
 |more {q0 q q':Qn} {l w:List Str}:Aft q0 q l->Stp q q' w->Aft q0 q' (l++w)
def Aft.first {q0 q:Qn}{l:List Str}(h:Aft q0 q l):(q0=q/\l=[])\/∃q1 w l',Stp q0 q1 w/\Aft q1 q l'/\l=w++l':=by
 induction h with
 |refl=>exact .inl ⟨rfl,rfl⟩
 |more a s ih=>
  refine .inr ?_;rcases ih with⟨e,f⟩|⟨q1,w,l',s1,a1,e⟩
  ·rw[f,e];exact⟨_,_,[],s,.refl _,(bAW _).symm⟩
  ·exact⟨q1,w,_,s1,.more a1 s,by rw[e,bAD]⟩
def tab0:Qn->Str
 |.table T=>T
 |.whr q _=>tab0 q
 |.keep q _=>tab0 q
 |.nmd q _=>tab0 q
 |.join q _ _=>tab0 q
 |.group q _ _=>tab0 q
 |.first q _ _=>tab0 q
def oO {T:Str}{q q':Qn}{w:List Str}(h:∃l,Aft (.table T) q l/\wq q=T::l)(s:Stp q q' w)(e:wq q'=wq q++w):∃l,Aft (.table T) q' l/\wq q'=T::l:=by obtain⟨l,a,f⟩:=h;exact⟨_,.more a s,by rw[e,f,bBD]⟩
def aPc (q:Qn):∃l,Aft (.table (tab0 q)) q l/\wq q=tab0 q::l:=by
 induction q with
 |table T=>exact⟨[],.refl _,rfl⟩
 |whr q ts ih=>exact oO ih .whr rfl
 |keep q ns ih=>exact oO ih .keep rfl
 |nmd q ns ih=>exact oO ih .nmd rfl
 |join q r ps ih _=>exact oO ih .join rfl
 |group q ns ss ih=>exact oO ih .group rfl
 |first q ks m ih=>exact oO ih .first rfl
def Stp.hd {q q':Qn}{w:List Str}(h:Stp q q' w):∃x r,w=x::r/\x≠")":=by cases h;all_goals exact⟨_,_,rfl,by decide⟩
def txt (l:List Str):Str:=PySem.Txt.join " " l
def cG (a b:Str)(l:List Str):txt (a::b::l)=a++" "++txt (b::l):=by unfold txt PySem.Txt.join;rw[StrLaws.glued_eq_join,StrLaws.glued_eq_join];rfl
def fC (a:Str):txt [a]=a:=by unfold txt PySem.Txt.join;rw[StrLaws.glued_eq_join];rfl
theorem mJ:∀{a b:List Str},a≠[]->b≠[]->txt (a++b)=txt a++" "++txt b
 |[x],y::b,_,_=>by rw[fC];exact cG x y b
 |x::z::a,b,_,hb=>by have c:=mJ (a:=z::a) (b:=b) (λe=>by cases e) hb;rw[bBD] at c;rw[bBD,bBD,cG,cG,c];simp only[PySem.Str.append_assoc]
 |[],_,h,_=>absurd rfl h
 |_,[],_,h=>absurd rfl h
def aQk (a:l≠[])(h:∀t∈l,32∉t.cps.toList):PySem.Txt.split (txt l) " "=l:=aMy a h
theorem aN4:∀{ls:List (List Str)},ls≠[]->(∀l∈ls,l≠[])->iU ls≠[]
 |[a],_,h=>h a (j5 ..)
 |a::b::r,_,h=>λe=>by have c:=List.append_eq_nil_iff.mp e;cases c.2
 |[],h,_=>absurd rfl h
def aQr (s a b:Str)(l:List Str):PySem.Txt.join s (a::b::l)=a++s++PySem.Txt.join s (b::l):=by unfold PySem.Txt.join;rw[StrLaws.glued_eq_join,StrLaws.glued_eq_join];rfl
def join_one (s a:Str):PySem.Txt.join s [a]=a:=by unfold PySem.Txt.join;rw[StrLaws.glued_eq_join];rfl
def vN (h:l≠[]):txt (x::l)=x++" "++txt l:=by
 cases l with
 |nil=>exact absurd rfl h
 |cons y l=>exact cG x y l
theorem aCa:∀{ls:List (List Str)},ls≠[]->(∀l∈ls,l≠[])->PySem.Txt.join " and " (ls.map txt)=txt (iU ls)
 |[a],_,_=>join_one _ _
 |a::b::r,_,h=>by have c:∀l∈b::r,l≠[]:=λl m=>h l (j7 _ m);have d:=aCa (λe=>by cases e) c;rw[bAB] at d;rw[bAB,bAB,aQr,d];show _=txt (a++("and":Str)::iU (b::r));rw[mJ (h a (j5 ..)) (λe=>by cases e),vN (aN4 (λe=>by cases e) c)];rw[show (" and ":Str) = " "++"and"++" " by decide];simp only[PySem.Str.append_assoc]
 |[],h,_=>absurd rfl h
theorem aEb:∀ls {l:List Str},l≠[]->(∀l∈ls,l≠[])->(ls.foldl (λt a=>t++" "++x++" "++txt a) (txt l))=txt (l++cM x ls)
 |[],l,_,_=>by rw[show cM x []=[] from rfl,bAW];rfl
 |a::r,l,h0,h=>by
  have b:=h a (j5 ..);have e:txt l++" "++x++" "++txt a=txt (l++x::a):=by rw[mJ h0 (λe=>by cases e),vN b];simp only[PySem.Str.append_assoc]
  show List.foldl _ (txt l++" "++x++" "++txt a) r=_;rw[e,aEb r (λe=>by cases (List.append_eq_nil_iff.mp e).2) (λl m=>h l (j7 _ m)),bAD];rfl
theorem tR:∀ns {l:List Str},l≠[]->ns.foldl (λt n=>t++(" ":Str)++n) (txt l)=txt (l++ns)
 |[],l,_=>by rw[bAW];rfl
 |n::ns,l,h0=>by show List.foldl _ (txt l++" "++n) ns=_;rw[show txt l++" "++n=txt (l++[n]) by rw[mJ h0 (λe=>by cases e),fC],tR ns (λe=>by cases (List.append_eq_nil_iff.mp e).2),bAD];rfl
theorem aLo:∀{ls:List (List Str)},ls≠[]->(∀l∈ls,l≠[])->txt (ls.map txt)=txt ls.flatten
 |[a],_,_=>by rw[bAB,List.map_nil,fC,bBQ,List.flatten_nil,bAW]
 |a::b::r,_,h=>by have c:∀l∈b::r,l≠[]:=λl m=>h l (j7 _ m);have d:=aLo (λe=>by cases e) c;rw[bAB] at d;rw[bAB,bAB,cG,d,bBQ (l:=a),mJ (h a (j5 ..))];intro e;rw[bBQ] at e;exact c b (j5 ..) (List.append_eq_nil_iff.mp e).1
 |[],h,_=>absurd rfl h
theorem aFy (x:Str):∀ls:List (List Str),cM x ls=(ls.map λl=>x::l).flatten
 |[]=>rfl
 |a::r=>by rw[bAB,bBQ,<-aFy x r];rfl
def aH7 (F:Str->Prop):Qn->Prop
 |.table T=>F T
 |.whr q ts=>aH7 F q/\∀t∈ts,F t.c/\F t.sg/\F (wO t.o)
 |.keep q ns=>aH7 F q/\∀n∈ns,F n
 |.nmd q ns=>aH7 F q/\∀n∈ns,F n
 |.join q r ps=>aH7 F q/\aH7 F r/\∀p∈ps,F p.1/\F p.2
 |.group q ns ss=>aH7 F q/\(∀n∈ns,F n)/\∀s∈ss,F s.wd/\F s.new/\∀c,s.c=some c->F c
 |.first q ks m=>aH7 F q/\F (shw (.int m))/\∀p∈ks,F p.1/\F p.2
abbrev aK5:List Str:=["and","where","keep","named","join","(",")","on","group","with","first","by"]
theorem aB4 {F:Str->Prop}(h:F "and"):∀{ls:List (List Str)},(∀l∈ls,∀t∈l,F t)->∀t∈iU ls,F t
 |[],_,t,m=>by cases m
 |[a],k,t,m=>k a (j5 ..) t m
 |a::b::r,k,t,m=>by
  rcases List.mem_append.mp m with m|m
  ·exact k a (j5 ..) t m
  ·rcases List.mem_cons.mp m with rfl|m
   ·exact h
   ·exact aB4 h (λl z=>k l (j7 _ z)) t m
theorem aDz {F:Str->Prop}{x:Str}(h:F x):∀{ls:List (List Str)},(∀l∈ls,∀t∈l,F t)->∀t∈cM x ls,F t
 |[],_,t,m=>by cases m
 |a::r,k,t,m=>by
  rcases List.mem_cons.mp m with rfl|m
  ·exact h
  ·rcases List.mem_append.mp m with m|m
   ·exact k a (j5 ..) t m
   ·exact aDz h (λl z=>k l (j7 _ z)) t m
def aVd {F:Str->Prop}{ps:List (Str × Str)}(h:∀p∈ps,F p.1/\F p.2):∀l∈ps.map wP,∀t∈l,F t:=by
 intro l m t mt;obtain⟨p,a,rfl⟩:=List.mem_map.mp m;rcases List.mem_cons.mp mt with rfl|mt
 ·exact (h p a).1
 ·rw[List.mem_singleton.mp mt];exact (h p a).2
def aZt {F:Str->Prop}(h:∀x∈aK5,F x)(q:Qn):aH7 F q->∀t∈wq q,F t:=by
 have k:∀x:Str,aK5.contains x=true->F x:=λx m=>h x (List.contains_iff_mem.mp m)
 induction q with
 |table T=>intro a t m;rw[List.mem_singleton.mp m];exact a
 |whr q ts ih=>
  intro a t m;rcases List.mem_append.mp m with m|m
  ·exact ih a.1 t m
  rcases List.mem_cons.mp m with rfl|m
  ·exact k _ (by decide)
  refine aB4 (k _ (by decide)) (λl f t mt=>?_) t m;obtain⟨p,e,rfl⟩:=List.mem_map.mp f;obtain⟨b,d,g⟩:=a.2 p e;rcases List.mem_cons.mp mt with rfl|mt
  ·exact b
  rcases List.mem_cons.mp mt with rfl|mt
  ·exact d
  rw[List.mem_singleton.mp mt];exact g
 |keep q ns ih=>
  intro a t m;rcases List.mem_append.mp m with m|m
  ·exact ih a.1 t m
  rcases List.mem_cons.mp m with rfl|m
  ·exact k _ (by decide)
  exact a.2 t m
 |nmd q ns ih=>
  intro a t m;rcases List.mem_append.mp m with m|m
  ·exact ih a.1 t m
  rcases List.mem_cons.mp m with rfl|m
  ·exact k _ (by decide)
  exact a.2 t m
 |join q r ps ih ir=>
  intro a t m;rcases List.mem_append.mp m with m|m
  ·exact ih a.1 t m
  rcases List.mem_cons.mp m with rfl|m
  ·exact k _ (by decide)
  rcases List.mem_cons.mp m with rfl|m
  ·exact k _ (by decide)
  rcases List.mem_append.mp m with m|m
  ·exact ir a.2.1 t m
  rcases List.mem_cons.mp m with rfl|m
  ·exact k _ (by decide)
  rcases List.mem_cons.mp m with rfl|m
  ·exact k _ (by decide)
  exact aB4 (k _ (by decide)) (aVd a.2.2) t m
 |group q ns ss ih=>
  intro a t m;rcases List.mem_append.mp m with m|m
  ·exact ih a.1 t m
  rcases List.mem_cons.mp m with rfl|m
  ·exact k _ (by decide)
  rcases List.mem_append.mp m with m|m
  ·exact a.2.1 t m
  refine aDz (k _ (by decide)) (λl f t mt=>?_) t m;obtain⟨p,e,rfl⟩:=List.mem_map.mp f;obtain⟨b,d,g⟩:=a.2.2 p e;unfold wS at mt;cases i:p.c with
  |none=>
   rw[i] at mt;rcases List.mem_cons.mp mt with rfl|mt
   ·exact b
   rw[List.mem_singleton.mp mt];exact d
  |some c=>
   rw[i] at mt;rcases List.mem_cons.mp mt with rfl|mt
   ·exact b
   rcases List.mem_cons.mp mt with rfl|mt
   ·exact g _ i
   rw[List.mem_singleton.mp mt];exact d
 |first q ks m' ih=>
  intro a t m;rcases List.mem_append.mp m with m|m
  ·exact ih a.1 t m
  rcases List.mem_cons.mp m with rfl|m
  ·exact k _ (by decide)
  rcases List.mem_cons.mp m with rfl|m
  ·exact a.2.1
  exact aDz (k _ (by decide)) (aVd a.2.2) t m
def aDg (q:Qn):wq q≠[]:=by obtain⟨l,_,e⟩:=aPc q;rw[e];exact λz=>by cases z
def aV3 {q q':Qn}{w:List Str}(h:Stp q q' w):wq q'=wq q++w:=by cases h <;> rfl
def aHs {q q':Qn}{w:List Str}(h:Stp q q' w):txt (wq q')=txt (wq q)++" "++txt w:=by obtain⟨x,r,e,_⟩:=h.hd;rw[aV3 h,mJ (aDg q) (by rw[e];exact λz=>by cases z)]
def aEh {α β:Type}{f:α->β}{l:List α}(h:l≠[]):l.map f≠[]:=λe=>h (List.map_eq_nil_iff.mp e)
def aY6 (ts:List Tst):∀l∈ts.map wT,l≠[]:=by intro l m;obtain⟨t,_,rfl⟩:=List.mem_map.mp m;exact λz=>by cases z
def aP2 (ps:List (Str × Str)):∀l∈ps.map wP,l≠[]:=by intro l m;obtain⟨t,_,rfl⟩:=List.mem_map.mp m;exact λz=>by cases z
def bC4 (ss:List Sm):∀l∈ss.map wS,l≠[]:=by intro l m;obtain⟨t,_,rfl⟩:=List.mem_map.mp m;unfold wS;cases t.c <;> exact λz=>by cases z
def aAn (h:ts≠[]):txt (("where":Str)::iU (ts.map wT)) = "where"++" "++PySem.Txt.join " and " (ts.map λt=>txt (wT t)):=by rw[vN (aN4 (aEh h) (aY6 ts)),<-aCa (aEh h) (aY6 ts),bAP];rfl
def aF1 (h:ps≠[]):txt (("join":Str)::("(":Str)::(wq r++(")":Str)::("on":Str)::iU (ps.map wP)))=txt ["join","(",txt (wq r),")","on",PySem.Txt.join " and " (ps.map λp=>txt (wP p))]:=by
 have e:PySem.Txt.join " and " (ps.map λp=>txt (wP p))=txt (iU (ps.map wP)):=by rw[<-aCa (aEh h) (aP2 ps),bAP];rfl
 rw[e,vN (λz=>by cases z),vN (λz=>by cases (List.append_eq_nil_iff.mp z).2),mJ (aDg r) (λz=>by cases z),vN (λz=>by cases z),vN (aN4 (aEh h) (aP2 ps))];rw[cG,cG,cG,cG,cG,fC]
def aLy (x:Str)(ns:List Str)(y:Str)(ls:List (List Str)):txt (x::(ns++cM y ls))=txt (x::(ns++ls.map λl=>txt (y::l))):=by
 have e:(x::(ns++ls.map λl=>txt (y::l)))=((x::ns).map (λn=>[n])++ls.map λl=>y::l).map txt:=by rw[bAY,bAP,bAP,show (txt ∘ λn:Str=>[n])=id from funext fC,List.map_id];rfl
 rw[e,aLo (λz=>by cases z),List.flatten_append,aFy]
 ·congr 1
  have:∀l:List Str,(l.map λn=>[n]).flatten=l:=λl=>by induction l with
   |nil=>rfl
   |cons a l ih=>rw[bAB,bBQ,ih];rfl
  rw[this];rfl
 ·intro l m;rcases List.mem_append.mp m with m|m
  ·obtain⟨t,_,rfl⟩:=List.mem_map.mp m;exact λz=>by cases z
  ·obtain⟨t,_,rfl⟩:=List.mem_map.mp m;exact λz=>by cases z
def aRe (h:ts≠[]):txt (wq q)++" "++"where"++" "++PySem.Txt.join " and " (ts.map λt=>txt (wT t))=txt (wq (.whr q ts)):=by rw[aHs .whr,aAn h];simp only[PySem.Str.append_assoc]
def aSe (h:ps≠[]):txt (wq q)++" "++"join"++" ( "++txt (wq r)++" ) on "++PySem.Txt.join " and " (ps.map λp=>txt (wP p))=txt (wq (.join q r ps)):=by rw[aHs .join,aF1 h,cG,cG,cG,cG,cG,fC,show (" ( ":Str) = " "++"("++" " by decide,show (" ) on ":Str) = " "++")"++" "++"on"++" " by decide];simp only[PySem.Str.append_assoc]
def txt_snoc (x:Str)(h:l≠[]):txt l++" "++x=txt (l++[x]):=by rw[mJ h (λz=>by cases z),fC]
def aU9:ns.foldl (λt n=>t++(" ":Str)++n) (txt (wq q)++" "++"keep")=txt (wq (.keep q ns)):=by rw[txt_snoc _ (aDg q),tR ns (λe=>by cases (List.append_eq_nil_iff.mp e).2),bAD];rfl
def aRf:ns.foldl (λt n=>t++(" ":Str)++n) (txt (wq q)++" "++"named")=txt (wq (.nmd q ns)):=by rw[txt_snoc _ (aDg q),tR ns (λe=>by cases (List.append_eq_nil_iff.mp e).2),bAD];rfl
def aQ6:(ks.map wP).foldl (λt a=>t++(" ":Str)++"by"++" "++txt a) (txt (wq q)++" "++"first"++" "++shw (.int m))=txt (wq (.first q ks m)):=by
 have b:∀{l:List Str} {x:Str},l++[x]≠[]:=λ{l x} e=>by cases (List.append_eq_nil_iff.mp e).2
 rw[txt_snoc _ (aDg q),txt_snoc _ b,aEb (ks.map wP) b (aP2 ks)];simp only[bAD];rfl
def qW (ss:List Sm):Str:=(ss.map wS).foldl (λt a=>t++(" ":Str)++"with"++" "++txt a) ""
theorem aLs {x:Str}:∀(ls:List (List Str)) (t u:Str),t++ls.foldl (λ(t:Str) (a:List Str)=>t++(" ":Str)++x++" "++txt a) u=ls.foldl (λ(t:Str) (a:List Str)=>t++(" ":Str)++x++" "++txt a) (t++u)
 |[],_,_=>rfl
 |a::r,t,u=>by show t++List.foldl _ _ r=List.foldl _ _ r;rw[aLs r];simp only[PySem.Str.append_assoc]
def aFg {q:Qn}{ns:List Str}{ss:List Sm}:ns.foldl (λ(t:Str) (n:Str)=>t++(" ":Str)++n) (txt (wq q)++" "++"group")++qW ss=txt (wq (.group q ns ss)):=by
 have a:∀{l:List Str} {x:Str} {r:List Str},l++[x]++r≠[]:=λ{l x r} e=>by cases (List.append_eq_nil_iff.mp (List.append_eq_nil_iff.mp e).1).2
 rw[txt_snoc _ (aDg q),tR ns (λe=>by cases (List.append_eq_nil_iff.mp e).2)];unfold qW;rw[aLs,show ∀t:Str,t++("":Str)=t from PySem.Str.append_empty,aEb (ss.map wS) a (bC4 ss)];simp only[bAD];rfl
def OkO:Oth->Prop
 |.val x=>Vl x
 |.col d=>Nm d
def OkT (t:Tst):Prop:=Nm t.c/\aZ8 t.sg/\OkO t.o
def OkP (p:Str × Str):Prop:=Nm p.1/\Nm p.2
def OkK (p:Str × Str):Prop:=Nm p.1/\(p.2 = "up"\/p.2 = "down")
def OkS (s:Sm):Prop:=Nm s.new/\((s.wd = "count"/\s.c=none)\/∃c,s.c=some c/\Nm c/\bCz s.wd)
def Wf:Qn->Prop
 |.table T=>Nm T
 |.whr q ts=>Wf q/\1<=ts.length/\ts.length<=3/\∀t∈ts,OkT t
 |.keep q ns=>Wf q/\1<=ns.length/\ns.length<=8/\∀n∈ns,Nm n
 |.nmd q ns=>Wf q/\1<=ns.length/\ns.length<=8/\∀n∈ns,Nm n
 |.join q r ps=>Wf q/\Wf r/\1<=ps.length/\ps.length<=3/\∀p∈ps,OkP p
 |.group q ns ss=>Wf q/\ns.length<=8/\(∀n∈ns,Nm n)/\ss.length<=4/\∀s∈ss,OkS s
 |.first q ks m=>Wf q/\ks.length<=3/\(∀k∈ks,OkK k)/\m<=60
def IsO.ok (h:IsO K H v o):OkO o:=by
 cases o with
 |val x=>obtain⟨a,rfl,e,f,c⟩:=h;exact c
 |col d=>obtain⟨a,rfl,e,b⟩:=h;exact b
def IsT.ok (h:IsT K H v t):OkT t:=by obtain⟨a,w,rfl,e,d,c,b⟩:=h;exact⟨d,c,b.ok⟩
def oY.ok (h:oY K H v t):OkP t:=by obtain⟨a,rfl,c,b⟩:=h;exact b
def nZ.ok (h:nZ K H v t):OkK t:=by obtain⟨a,rfl,c,b⟩:=h;exact b
def lE.ok (h:lE K H v t):OkS t:=by
 obtain⟨a,rfl,b,d⟩:=h;refine⟨b,?_⟩;rcases d with⟨x,y,z⟩|⟨c,x,y,z,u⟩
 ·exact .inl ⟨x,y⟩
 ·exact .inr ⟨c,x,y,z⟩
def aRc {α β:Type}{R:α->β->Prop}{as:List α}{bs:List β}(h:bY R as bs){b:β}(m:b∈bs):∃a,a∈as/\R a b:=by
 induction h with
 |nil=>cases m
 |cons r _ ih=>
  rcases List.mem_cons.mp m with rfl|m
  ·exact⟨_,j5 ..,r⟩
  ·obtain⟨b,c,q⟩:=ih m;exact⟨b,j7 _ c,q⟩
def lD.ok {α:Type}{S:bFC->Hp->V->α->Prop}{F:α->Prop}{lo hi:Nat}{H:Hp}{v:V}{xs:List α}(h:lD S lo hi K H v xs)(k:∀v x,S K H v x->F x):∀x∈xs,F x:=by obtain⟨⟨a,d,rfl,c,b⟩,_⟩:=h;intro x m;obtain⟨u,_,r⟩:=aRc b m;exact k _ _ r
def IsQ.wf {H:Hp}{v:V}{q:Qn}(h:IsQ K H v q):Wf q:=by
 induction h with
 |table a b=>exact b
 |whr a _ c ih=>exact⟨ih,c.2.1,c.2.2,c.ok λ_ _ h=>h.ok⟩
 |keep a _ c ih=>exact⟨ih,c.2.1,c.2.2,c.ok λ_ _ h=>h.2⟩
 |nmd a _ c ih=>exact⟨ih,c.2.1,c.2.2,c.ok λ_ _ h=>h.2⟩
 |join a _ _ c ih1 ih2=>exact⟨ih1,ih2,c.2.1,c.2.2,c.ok λ_ _ h=>h.ok⟩
 |group a _ c d ih=>exact⟨ih,c.2.2,c.ok λ_ _ h=>h.2,d.2.2,d.ok λ_ _ h=>h.ok⟩
 |first a _ c d ih=>exact⟨ih,c.2.2,c.ok λ_ _ h=>h.ok,d⟩
def Wrd (x:Str):Prop:=32∉x.cps.toList/\x.length<=61
def dU (h:Nm x):Wrd x:=by
 have f:=fJ h;have b:(lA 1 (.str x) && !inV (.str x) words)=true:=h;rw[bAI] at b;have a:lA 0 (.str x)=true:=by obtain⟨y,e,_,c,d⟩:=yD b.1;cases e;show (decide (0<=x.length) && (decide (x.length<=8) && allIn x))=true;rw[v7 c,d,v7 (bAK _)];rfl
 rw[aC4] at a;unfold aEa at a;rw[bAI] at a;refine⟨λm=>?_,by lia⟩;have:=(List.all_eq_true.mp a.2) 32 m;exact absurd this (by decide)
def aHj (h:Vl v):Wrd (shw v):=by
 refine⟨?_,aPu h⟩;rcases h with⟨i,rfl,b⟩|⟨x,rfl,hx,h8⟩
 ·have a:∀m:Nat,32∉(Nat.toDigits 10 m).map Char.toNat:=λm z=>by have:=(xC m 32 z).1;lia
  cases i with
  |ofNat m=>show 32∉cs _;rw[show cs (shw (.int (Int.ofNat m)))=(Nat.toDigits 10 m).map Char.toNat from PySem.W.KIN.signs_num m];exact a m
  |negSucc n=>
   show 32∉cs _;rw[show cs (shw (.int (Int.negSucc n)))=45::(Nat.toDigits 10 (n+1)).map Char.toNat from aHx n];intro z;rcases List.mem_cons.mp z with z|z
   ·exact absurd z (by decide)
   ·exact a _ z
 ·show 32∉cs _;rw[tK];intro z;rcases List.mem_cons.mp z with z|z
  ·exact absurd z (by decide)
  rcases List.mem_append.mp z with z|z
  ·have:=(hx 32 (Array.mem_toList_iff.mp z)).1;lia
  ·exact absurd (List.mem_singleton.mp z) (by decide)
def aGs {m:Nat}(h:m<=60):Vl (.int (m:Int)):=.inl ⟨_,rfl,by rw[bEF];exact bCQ h (by decide)⟩
instance:DecidablePred Wrd:=λx=>by unfold Wrd;exact inferInstance
def aSo (h:OkO o):Wrd (wO o):=by
 cases o with
 |val x=>exact aHj h
 |col d=>exact dU h
def bAo {q:Qn}(h:Wf q):aH7 Wrd q:=by
 induction q with
 |table T=>exact dU h
 |whr q ts ih=>refine⟨ih h.1,λt m=>?_⟩;obtain⟨a,b,c⟩:=h.2.2.2 t m;refine⟨dU a,?_,aSo c⟩;rcases b with b|b|b|b <;> rw[b] <;> decide +kernel
 |keep q ns ih=>exact⟨ih h.1,λn m=>dU (h.2.2.2 n m)⟩
 |nmd q ns ih=>exact⟨ih h.1,λn m=>dU (h.2.2.2 n m)⟩
 |join q r ps ih ir=>exact⟨ih h.1,ir h.2.1,λp m=>⟨dU (h.2.2.2.2 p m).1,dU (h.2.2.2.2 p m).2⟩⟩
 |group q ns ss ih=>
  refine⟨ih h.1,λn m=>dU (h.2.2.1 n m),λs m=>?_⟩;obtain⟨a,b⟩:=h.2.2.2.2 s m;rcases b with⟨b,c⟩|⟨c,e,n,b⟩
  ·exact⟨by rw[b];decide +kernel,dU a,λd z=>by rw[c] at z;cases z⟩
  ·refine⟨?_,dU a,λd z=>?_⟩
   ·rcases b with b|b|b <;> rw[b] <;> decide +kernel
   ·rw[e] at z;cases z;exact dU n
 |first q ks m ih=>refine⟨ih h.1,aHj (aGs h.2.2.2),λp f=>?_⟩;obtain⟨a,b⟩:=h.2.2.1 p f;refine⟨dU a,?_⟩;rcases b with b|b <;> rw[b] <;> decide +kernel
def aHf (h:Wf q):∀x∈wq q,Wrd x:=aZt (by trivial) q (bAo h)
def aVo (h:Wf q):PySem.Txt.split (txt (wq q)) " "=wq q:=aQk (aDg q) λx m=>(aHf h x m).1
theorem aB6:∀{ls:List (List Str)},(∀l∈ls,l.length<=n)->(iU ls).length<=ls.length * (n+1)
 |[],_=>bAK _
 |[a],h=>by have:=h a (j5 ..);show a.length<=_;rw[bBA];lia
 |a::b::r,h=>by have c:=h a (j5 ..);have d:=aB6 λl m=>h l (j7 _ m);show (a++("and":Str)::iU (b::r)).length<=_;rw[j4,d9,d9,Nat.add_mul];lia
theorem aEg {n:Nat}{x:Str}:∀{ls:List (List Str)},(∀l∈ls,l.length<=n)->(cM x ls).length<=ls.length * (n+1)
 |[],_=>bAK _
 |a::r,h=>by have b:=h a (j5 ..);have c:=aEg (x:=x) (ls:=r) λl m=>h l (j7 _ m);show (x::(a++cM x r)).length<=_;rw[d9,j4,d9,Nat.add_mul];lia
def bAc (ts:List Tst):∀l∈ts.map wT,l.length<=3:=by intro l m;obtain⟨t,_,rfl⟩:=List.mem_map.mp m;exact j9 _
def aMw (ts:List (Str × Str)):∀l∈ts.map wP,l.length<=2:=by intro l m;obtain⟨t,_,rfl⟩:=List.mem_map.mp m;exact j9 _
def aUb (ts:List Sm):∀l∈ts.map wS,l.length<=3:=by
 intro l m;obtain⟨t,_,rfl⟩:=List.mem_map.mp m;unfold wS;cases t.c
 ·exact (by decide:2<=3)
 ·exact j9 _
def aUj (h:Wf q):(wq q).length<=25 * size q:=by
 induction q with
 |table T=>exact (by decide:1<=25)
 |whr q ts ih=>have a:=ih h.1;have b:=aB6 (bAc ts);have c:=h.2.1;rw[d7] at b;simp only[wq,size,j4,d9];lia
 |keep q ns ih=>have a:=ih h.1;have c:=h.2.2.1;simp only[wq,size,j4,d9];lia
 |nmd q ns ih=>have a:=ih h.1;have c:=h.2.2.1;simp only[wq,size,j4,d9];lia
 |join q r ps ih ir=>have a:=ih h.1;have e:=ir h.2.1;have b:=aB6 (aMw ps);have c:=h.2.2.2.1;rw[d7] at b;simp only[wq,size,j4,d9];lia
 |group q ns ss ih=>have a:=ih h.1;have b:=aEg (x:="with") (aUb ss);have c:=h.2.1;have d:=h.2.2.2.1;rw[d7] at b;simp only[wq,size,j4,d9];lia
 |first q ks m ih=>have a:=ih h.1;have b:=aEg (x:="by") (aMw ks);have c:=h.2.1;rw[d7] at b;simp only[wq,size,j4,d9];lia
theorem jM:∀{l:List Str},(∀x∈l,x.length<=61)->(txt l).length<=62 * l.length
 |[],_=>by trivial
 |[a],h=>by have:=h a (j5 ..);rw[fC,bBA];lia
 |a::b::r,h=>by have d:=h a (j5 ..);have c:=jM λl m=>h l (j7 _ m);have e:=aM;rw[cG,e,e,d9,show Str.length " "=1 by trivial];lia
def aL1 (h:Wf q):(txt (wq q)).length<=1550 * size q:=by have a:=jM λx m=>(aHf h x m).2;have b:=aUj h;lia
abbrev tE:List Str:=[")","where","keep","named","join","group","first"]
def Fin (rest:List Str):Prop:=∀y,rest.head?=some y->y∈tE
def Stp.fin {q q':Qn}{w r:List Str}(h:Stp q q' w):Fin (w++r):=by cases h;all_goals (intro y z;cases z;decide)
def Aft.fin {q q':Qn}{l r:List Str}(h:Aft q q' l)(k:Fin r):Fin (l++r):=by
 rcases h.first with⟨_,e⟩|⟨q1,w,l',s,_,e⟩
 ·rw[e];exact k
 ·rw[e,bAD];exact s.fin
def Fin.no (h:Fin rest)(a:tE.contains x=false):rest.head?≠some x:=λz=>by have:=h x z;rw[List.contains_eq_mem,v7 this] at a;cases a
def aWa:∀y∈tE,¬ Nm y:=by
 have h:∀y∈tE,nameB (.str y)=false:=by trivial
 intro y m z;have:=h y m;rw[show nameB (.str y)=true from z] at this;cases this
def Fin.nm (h:Fin rest):∀y,rest.head?=some y->¬ Nm y:=λy z=>aWa y (h y z)
def Aft.wf (h:Aft q q' l):Wf q'->Wf q:=by
 induction h with
 |refl=>exact id
 |more _ s ih=>intro k;exact ih (by cases s <;> exact k.1)
def But (d:Addr)(H H':Hp):Prop:=∀b o,b≠d->H b=some o->H' b=some o
structure jU (H:Hp)(C x L:Addr)(ws:List Str)(i:Nat):Prop where
 at_:∃dx,H x=some (.ins C dx [("words",.ref L),("taken_count",.int (i:Nat))])
 ls:H L=some (.lst (ws.map V.str))
 le:i<=ws.length
def jU.same (s:Same H H')(h:jU H C x L ws i):jU H' C x L ws i:=
 ⟨let ⟨dx,h1⟩:=h.at_;⟨dx,s _ _ h1⟩,s _ _ h.ls,h.le⟩
def jU.ne (h:jU H C x L ws i):L≠x:=λz=>by obtain⟨c,b⟩:=h.at_;have a:=h.ls;rw[z,b] at a;cases a
structure Rd (C x L:Addr)(ws:List Str)(H H':Hp)(j:Nat):Prop where
 but:But x H H'
 wd:jU H' C x L ws j
section
variable {C x L:Addr}{ws:List Str}{H H1 H2:Hp}{i j k:Nat}
def Rd.refl (h:jU H C x L ws i):Rd C x L ws H H i:=⟨λ_ _ _ e=>e,h⟩
def Rd.trans (a:Rd C x L ws H H1 j)(b:Rd C x L ws H1 H2 k):Rd C x L ws H H2 k:=⟨λc o n e=>b.but c o n (a.but c o n e),b.wd⟩
def Rd.sm (a:Rd C x L ws H H1 j)(s:Same H1 H2):Rd C x L ws H H2 j:=⟨λc o n e=>s _ _ (a.but c o n e),a.wd.same s⟩
theorem Rd.at (h:jU H C x L ws i)(a:Rd C x L ws H H1 j)(e:H b=some o)(n:∀d fs,o≠.ins C d fs):H1 b=some o:=a.but _ _ (λz=>by obtain⟨f,c⟩:=h.at_;rw[z,c] at e;cases e;exact n _ _ rfl) e
def Rd.lst (h:jU H C x L ws i)(a:Rd C x L ws H H1 j)(e:H b=some (.lst xs)):H1 b=some (.lst xs):=a.at h e λ_ _ z=>by cases z
def Rd.tk (h:jU H C x L ws i)(a:Rd C x L ws H H1 j):TK K H H1:=λp b e=>by
 rcases e with (e|⟨o,e⟩)|e
 ·exact .inl (.inl (a.at h e λ_ _ z=>by cases z))
 ·exact .inl (.inr ⟨o,a.at h e λ_ _ z=>by cases z⟩)
 ·exact .inr e
def Rd.upd (h:jU H C x L ws i)(a:Rd C x L ws H H1 j)(c:H D=none):Rd C x L ws H (L2.upd H1 D o) j:=by
 obtain⟨l,k⟩:=h.at_;have f:=h.ls;refine⟨λb u n e=>by rw[aV (bA e c)];exact a.but b u n e,?_,?_,a.wd.le⟩
 ·obtain⟨d,g⟩:=a.wd.at_;exact⟨d,by rw[aV (bA k c)];exact g⟩
 ·rw[aV (bA f c)];exact a.wd.ls
def Rd.one (h:jU H C x L ws i)(hx:H x=some (.ins C dx [("words",.ref L),("taken_count",.int (i:Nat))]))(a:j=i+1)(hl:i<ws.length):Rd C x L ws H (L2.upd H x (.ins C dx (rR "taken_count" (.int ((i:Int)+1)) [("words",.ref L),("taken_count",.int (i:Nat))]))) j:=
 ⟨λb o n e=>by rw[aV n];exact e,⟨dx,by rw[aL,a];rfl⟩,by rw[aV h.ne];exact h.ls,by lia⟩
end
def none_of (s:Same H0 H)(h:H a=none):H0 a=none:=by
 cases e:H0 a with
 |none=>rfl
 |some o=>rw[s _ _ e] at h;cases h
def cV {b r:List Str}{i:Nat}{a:Str}(h:b.drop i=a::r):b[i]?=some a/\b.drop (i+1)=r:=by
 constructor
 ·have:(b.drop i)[0]?=some a:=by rw[h];rfl
  rw[List.getElem?_drop] at this;simpa using this
 ·rw[<-List.drop_drop,h];rfl
def lY {ws a r:List Str}{i:Nat}(h:ws.drop i=a++r):ws.drop (i+a.length)=r:=by rw[<-List.drop_drop,h,List.drop_left]
inductive aLx (C:Addr)(vs:List V)(H:Hp)(Q:VK)(E_:XK):Prop
 |mk (H0:Hp) (x dx:Addr) (t:Str) (_:vs=[.ref x,.str t]) (_:H x=some (.ins C dx [])) (_:H0 x=none) (_:Same H0 H) (_:t.length+2<=sizeLine) (_:∀L H',H0 L=none->Same H0 H'->jU H' C x L (PySem.Txt.split t " ") 0->Q .non H')
def aRz (T:Txt w K mg)(c:Cls K C)(D:pG K C "__init__" "Words.__init__" jE bQP)(B:iI K C "words")(M:iI K C "taken_count"):OkM P w K mg base C 1 "__init__" bQP (aLx C):=by
 refine OkM.ofV c D xO (by trivial) (λf r A d s H G Q E N h=>?_)
 obtain⟨I,x,a,t,rfl,k,u,m,p,q⟩:=h;refine⟨_,(aA (bN (eO (cP (aR (gA.or fH) (by rfl) T.bJ bC (aG (vv 1) (va1 (dW (v:=.ty "str") (by rfl) T.qU kI rfl)))))) (aB jQ) aU) (aA (aHy (K:=K) (vv 0) (fK PySem.F.plainAttrs_str PySem.F.slot_str_split PySem.F.type_str_split aTa (vv 1) (va1 aF))) (aB (aHy (K:=K) (vv 0) aC)))),?_⟩;refine⟨_,rfl,.inl ⟨_,_,_,rfl,rfl,_,rfl,aZ ?_⟩⟩;refine⟨_,rfl,rfl,_,_,rfl,rfl,(by trivial),p,λL J g n y=>?_⟩;have i:=n _ _ k;refine⟨_,rfl,x,C,a,[],rfl,i,c,B,by decide,?_⟩;refine⟨_,rfl,x,C,a,_,rfl,aL,c,M,by show 1<1000;decide,?_⟩;have j:L≠x:=λz=>by rw[z,k] at g;cases g
 refine q L _ (none_of m g) (λb o e=>?_) ⟨⟨a,aL⟩,by rw[aV j,aV j];exact y,bAK _⟩;have l:b≠x:=λz=>by rw[z,u] at e;cases e
 rw[aV l,aV l];exact n _ _ (m _ _ e)
def hdV:List Str->V
 |[]=>.non
 |a::_=>.str a
inductive oR (C:Addr)(vs:List V)(H:Hp)(Q:VK)(E_:XK):Prop
 |mk (x L:Addr) (ws:List Str) (i:Nat) (_:vs=[.ref x]) (_:jU H C x L ws i) (_:Q (hdV (ws.drop i)) H)
def aQ9 (T:Txt w K mg)(c:Cls K C)(D:pG K C "ahead" "Words.ahead" oA n8)(n:iI K C "words")(o:iI K C "taken_count"):OkM P w K mg base C 1 "ahead" n8 (oR C):=by
 refine OkM.ofV c D aC1 (by trivial) (λf m A j s H u Q E t h=>?_)
 obtain⟨x,L,l,i,rfl,g,q⟩:=h;refine⟨_,(aB (aJ (jO (cT aU0 (aAf (K:=K) (vv 0)) (aR bB (by rfl) T.eN cR (va1 (aAf (K:=K) (vv 0))))) (bO cX (aAf (K:=K) (vv 0)) (aAf (K:=K) (vv 0))) gQ))),?_⟩;obtain⟨b,d⟩:=g.at_;refine⟨_,rfl,x,C,b,_,_,rfl,d,c,o,rfl,_,rfl,x,C,b,_,_,rfl,d,c,n,rfl,L,_,rfl,.inl (SqL.of g.ls),_,_,rfl,rfl,_,rfl,?_⟩;rw[d7];cases e:l.drop i with
 |nil=>have p:l.length<=i:=List.drop_eq_nil_iff.mp e;rw[j6 (by lia)];rw[e] at q;exact aZ q
 |cons a r=>have k:=(cV e).1;have p:=(List.getElem?_eq_some_iff.mp k).1;rw[v7 (by lia)];rw[e] at q;refine bQ ⟨_,rfl,x,C,b,_,_,rfl,d,c,n,rfl,_,rfl,x,C,b,_,_,rfl,d,c,o,rfl,L,_,i,_,rfl,rfl,SqL.of g.ls,dJ (by rw[bAC,k];rfl),q⟩
inductive fY (C:Addr)(F:Str->Prop)(vs:List V)(H:Hp)(Q:VK)(E_:XK):Prop
 |mk (x L:Addr) (ws:List Str) (i:Nat) (a:Str) (r:List Str) (_:vs=[.ref x]) (_:jU H C x L ws i) (_:ws.drop i=a::r) (_:F a) (_:∀H',Rd C x L ws H H' (i+1)->Q (.str a) H')
def aTk (T:Txt w K mg){C:Addr}(c:Cls K C)(D:pG K C "word" "Words.word" qP n8)(m:iI K C "taken_count")(b:OkM P w K mg base C 1 "ahead" n8 (oR C)):OkM P w K mg base C 2 "word" n8 (fY C λ_=>True):=by
 refine OkM.ofV c D vI (by trivial) (λf l A j s H u Q E n h=>?_)
 obtain⟨x,L,o,i,a,r,rfl,g,k,_,q⟩:=h;have t:=vI.nd;refine⟨_,(aA (aY 1 (cF (b.mono (by decide)) n (vv 0))) (aA (bN (cT aIg (vv 1) gQ) (aB jQ) aU) (aA (aHy (K:=K) (vv 0) (aW eG (aAf (K:=K) (vv 0)) aC)) (aB (aJ (vv 1)))))),?_⟩;obtain⟨e,d⟩:=g.at_;have p:=(List.getElem?_eq_some_iff.mp (cV k).1).1;refine⟨_,rfl,x,e,_,rfl,d,rfl,x,L,o,i,rfl,g,?_⟩;rw[k];refine⟨_,rfl,rfl,_,rfl,aZ ?_⟩;refine⟨_,rfl,x,C,e,_,_,rfl,d,c,m,rfl,_,_,rfl,rfl,_,rfl,x,C,e,_,rfl,d,c,m,by show 2<1000;decide,?_⟩;exact⟨_,rfl,q _ (Rd.one g d rfl p)⟩
def aTg (T:Txt w K mg)(c:Cls K C)(D:pG K C "name" "Words.name" pL n8)(z:Ok P w K mg base 2 "is_name" m5 (qN K nameB))(b:OkM P w K mg base C 2 "word" n8 (fY C λ_=>True)):OkM P w K mg base C 3 "name" n8 (fY C Nm):=by
 refine OkM.ofV c D uR (by trivial) (λf j A d s H B Q E l h=>?_)
 obtain⟨x,L,n,i,a,r,rfl,g,m,e,q⟩:=h;have v:=uR.nd;refine⟨_,(aA (aY 1 (cF (b.mono (by decide)) l (vv 0))) (aA (bN (eO (cP (bU z (va1 (vv 1))))) (aB jQ) aU) (aB (aJ (vv 1))))),?_⟩;obtain⟨k,p⟩:=g.at_;refine⟨_,rfl,x,k,_,rfl,p,rfl,x,L,n,i,a,r,rfl,g,m,trivial,λy u=>?_⟩;refine⟨_,rfl,_,rfl,e.th,λt o=>⟨_,rfl,?_⟩⟩;rw[show nameB (.str a)=true from e];exact aZ ⟨_,rfl,q t (u.sm o)⟩
def bCx (h:∀a∈ws,a.length<=1000):Th K H (hdV ws):=by
 cases ws with
 |nil=>exact .inr (.inr (.inr ⟨_,.non⟩))
 |cons a r=>exact .inl ⟨a,rfl,h a (j5 ..)⟩
inductive aF0 (K:bFC)(C:Addr)(vs:List V)(H:Hp)(Q:VK)(E_:XK):Prop
 |mk (x L:Addr) (ws:List Str) (i:Nat) (ns r:List Str) (_:vs=[.ref x]) (_:jU H C x L ws i) (_:ws.drop i=ns++r) (_:(∀n∈ns,Nm n)) (_:ns.length<=8) (_:(∀a∈ws,a.length<=1000)) (_:(∀y,r.head?=some y->¬ Nm y)) (_:∀t H',Rd C x L ws H H' (i+ns.length)->SqT K H' t (ns.map V.str)->Q (.ref t) H')
def aVy (h:¬ Nm y):nameB (.str y)=false:=Bool.eq_false_iff.mpr h
def aR9 (T:Txt w K mg){C:Addr}(c:Cls K C)(D:pG K C "names" "Words.names" oH n8)(cL:Ok P w K mg base 2 "is_name" m5 (qN K nameB))(b:OkM P w K mg base C 1 "ahead" n8 (oR C))(g:OkM P w K mg base C 2 "word" n8 (fY C λ_=>True)):OkM P w K mg base C 3 "names" n8 (aF0 K C):=by
 refine OkM.ofV c D sH (by trivial) (λf a1 A v s H vs Q E U h=>?_)
 obtain⟨x,L,l,i,p,r,rfl,N,Z,W,h8,hl,B,q⟩:=h;have a0:=sH.nd;refine⟨_,(aA (aY 1 (bM gB)) (aA (rH PassesOwn.never (cP (bU cL (va1 (cF (b.mono (by decide)) U (vv 0))))) (aB (dG (fK PySem.F.plainAttrs_list PySem.F.slot_list_append PySem.F.type_list_append dM (vv 1) (va1 (cF (g.mono (by decide)) U (vv 0))))))) (aB (aJ (bG cC (by rfl) T.cO cB (va1 (vv 1))))))),?_⟩;refine⟨(by decide),λn H1 fD s1 g1=>?_⟩;have r1:=(Rd.refl N).sm s1;refine⟨λm σ I=>∃done rest,p=done++rest/\m=rest.length/\σ=[some (.ref x),some (.ref n)]/\Rd C x L l H I (i+done.length)/\I n=some (.lst (done.map V.str)),⟨p.length,[],p,rfl,rfl,rfl,r1,g1⟩,?_⟩;rintro m σ I ⟨done,rest,en,rfl,rfl,rd,gD⟩;obtain⟨Y,hx⟩:=rd.wd.at_;have o:l.drop (i+done.length)=rest++r:=lY (by rw[Z,en,bAD]);refine⟨_,rfl,x,Y,_,rfl,hx,rfl,x,L,l,_,rfl,rd.wd,?_⟩;have G:∀a∈l.drop (i+done.length),a.length<=1000:=λa m=>hl a (bEO m);refine⟨_,rfl,bCx G,λH2 O=>⟨_,rfl,?_⟩⟩;rw[o];have d:=rd.sm O;have k:=O _ _ gD;cases rest with
 |nil=>
  have e:nameB (hdV ([]++r))=false:=by
   cases r with
   |nil=>rfl
   |cons y r=>exact aVy (B y rfl)
  rw[e];refine aZ ⟨_,rfl,n,_,rfl,SqL.of k,λt S ft s3 X=>?_⟩;rw[bAW] at en;subst en;exact q t S (d.sm s3) (SqT.of X)
 |cons a rest=>
  have ha:=W a (by rw[en];exact bAO _ (j5 ..));rw[show nameB (hdV (a::rest++r))=true from ha];refine bQ ⟨fun R j=>∃m',m'<(a::rest).length/\∃done rest,p=done++rest/\m'=rest.length/\R=[some (.ref x),some (.ref n)]/\Rd C x L l H j (i+done.length)/\j n=some (.lst (done.map V.str)),fun R j h=>h,?_⟩;obtain⟨J,z⟩:=d.wd.at_;refine⟨_,rfl,.inl ⟨rfl,_,SqL.of k⟩,_,rfl,x,J,_,rfl,z,rfl,x,L,l,_,a,_,rfl,d.wd,o,trivial,λS M=>?_⟩;have u:=M.lst d.wd k;refine⟨n,_,_,rfl,rfl,u,?_,?_⟩
  ·have:=congrArg List.length en;rw[j4] at this;rw[d7];exact dC (by lia)
  ·refine⟨rest.length,by rw[d9];lia,done++[a],rest,by rw[en,bAD];rfl,rfl,rfl,?_,?_⟩
   ·rw[j4];exact (d.trans M).upd N fD
   ·rw[aL,bAY];rfl
def aVt:Sp:=λvs H Q _=>∃v,vs=[.str (shw v)]/\Vl v/\∀H',Same H H'->Q v H'
def bEu (a:OkX P w K mg base 3 "read_value" bQI (aO4 K C)):Ok P w K mg base 3 "read_value" bQI aVt:=
 a.calm λc H Q E ⟨v,e,b,q⟩=>⟨_,e,.inl ⟨_,rfl,by have:=aPu b;lia⟩,by show (match rdV (shw v) with|some u=>∀H',Same H H'->Q u H'|none=>∀e H',Same H H'->E0 (.ref C) (some e) H');rw[bAd b];exact q⟩
inductive aFw (C:Addr)(vs:List V)(H:Hp)(Q:VK)(E_:XK):Prop
 |mk (x L:Addr) (ws:List Str) (i:Nat) (v:V) (r:List Str) (_:vs=[.ref x]) (_:jU H C x L ws i) (_:ws.drop i=shw v::r) (_:Vl v) (_:∀H',Rd C x L ws H H' (i+1)->Q v H')
def aQ5 (T:Txt w K mg)(c:Cls K C)(D:pG K C "value" "Words.value" nW n8)(z:Ok P w K mg base 3 "read_value" bQI aVt)(a:OkM P w K mg base C 2 "word" n8 (fY C λ_=>True)):OkM P w K mg base C 4 "value" n8 (aFw C):=by
 refine OkM.ofV c D aCz (by trivial) (λf e A b s H y Q E k h=>?_)
 obtain⟨x,L,m,i,v,r,rfl,d,l,g,q⟩:=h;refine⟨_,(aB (aJ (bU z (va1 (cF (a.mono (by decide)) k (vv 0)))))),?_⟩;obtain⟨j,o⟩:=d.at_;exact⟨_,rfl,x,j,_,rfl,o,rfl,x,L,m,i,_,r,rfl,d,l,trivial,λu t=>⟨v,rfl,g,λp n=>q p (t.sm n)⟩⟩
inductive zU (C:Addr)(vs:List V)(H:Hp)(Q:VK)(E_:XK):Prop
 |mk (x L:Addr) (ws:List Str) (i:Nat) (y:Str) (_:vs=[.ref x,.str y]) (_:jU H C x L ws i) (_:((ws.drop i).head?=some y->∀H',Rd C x L ws H H' (i+1)->Q (.bl true) H')) (_:((ws.drop i).head?≠some y->Q (.bl false) H))
def aQp (T:Txt w K mg)(c:Cls K C)(D:pG K C "takes" "Words.takes" nU bQA)(p:iI K C "taken_count")(b:OkM P w K mg base C 1 "ahead" n8 (oR C)):OkM P w K mg base C 2 "takes" bQA (zU C):=by
 refine OkM.ofV c D aDt (by trivial) (λf o A l s H v Q E q h=>?_)
 obtain⟨x,L,m,i,y,rfl,k,n,d⟩:=h;refine⟨_,(aA (bN (cT nJ (cF (b.mono (by decide)) q (vv 0)) (vv 1)) (aB (aJ iW)) aU) (aA (aHy (K:=K) (vv 0) (aW eG (aAf (K:=K) (vv 0)) aC)) (aB (aJ iW)))),?_⟩;obtain⟨j,g⟩:=k.at_;refine⟨_,rfl,x,j,_,rfl,g,rfl,x,L,m,i,rfl,k,_,rfl,?_⟩;cases e:m.drop i with
 |nil=>rw[e] at d;exact⟨rfl,_,rfl,bQ (d (λz=>by cases z))⟩
 |cons a r=>
  have t:=(List.getElem?_eq_some_iff.mp (cV e).1).1;rw[e] at n d;refine⟨rfl,_,rfl,?_⟩;by_cases z:a=y
  ·subst z;rw[show (!decide (hdV (a::r)=V.str a))=false by rw[v7 (show hdV (a::r)=V.str a from rfl)];rfl];refine aZ ⟨_,rfl,x,C,j,_,_,rfl,g,c,p,rfl,_,_,rfl,rfl,_,rfl,x,C,j,_,rfl,g,c,p,by show 2<1000;decide,?_⟩;exact n rfl _ (Rd.one k g rfl t)
  ·rw[show (!decide (hdV (a::r)=V.str y))=true by rw[j6 (show ¬ hdV (a::r)=V.str y from λu=>z (V.str.inj u))];rfl];exact bQ (d (λu=>z (bAM u)))
inductive aP1 (C:Addr)(vs:List V)(H:Hp)(Q:VK)(E_:XK):Prop
 |mk (x L:Addr) (ws:List Str) (i:Nat) (y:Str) (r:List Str) (_:vs=[.ref x,.str y]) (_:jU H C x L ws i) (_:ws.drop i=y::r) (_:∀H',Rd C x L ws H H' (i+1)->Q .non H')
def aS1 (T:Txt w K mg)(c:Cls K C)(D:pG K C "need" "Words.need" pW bQA)(a:OkM P w K mg base C 2 "takes" bQA (zU C)):OkM P w K mg base C 3 "need" bQA (aP1 C):=by
 refine OkM.ofV c D aEs (by trivial) (λf e A b s H p Q E o h=>?_)
 obtain⟨x,L,l,i,y,r,rfl,d,k,q⟩:=h;refine⟨_,(aB (bN (eO (cP (bE3 a (vv 0) (va1 (vv 1))))) (aB jQ) aU)),?_⟩;obtain⟨j,m⟩:=d.at_;refine⟨_,rfl,x,j,_,rfl,m,rfl,_,rfl,x,L,l,i,y,rfl,d,λ_ g n=>⟨_,rfl,aZ (q g n)⟩,λz=>absurd (by rw[k];rfl) z⟩
inductive aPh (C:Addr)(vs:List V)(H:Hp)(Q:VK)(E_:XK):Prop
 |mk (x L:Addr) (ws:List Str) (i:Nat) (_:vs=[.ref x]) (_:jU H C x L ws i) (_:ws.drop i=[]) (_:Q .non H)
def aYt (T:Txt w K mg)(c:Cls K C)(D:pG K C "need_end" "Words.need_end" jF n8)(a:OkM P w K mg base C 1 "ahead" n8 (oR C)):OkM P w K mg base C 2 "need_end" n8 (aPh C):=by
 refine OkM.ofV c D yE (by trivial) (λf e A b s H n Q E j h=>?_)
 obtain⟨x,L,l,i,rfl,d,k,q⟩:=h;refine⟨_,(aB (bN (cT aOl (cF (a.mono (by decide)) j (vv 0)) gQ) (aB jQ) aU)),?_⟩;obtain⟨g,m⟩:=d.at_;refine⟨_,rfl,x,g,_,rfl,m,rfl,x,L,l,i,rfl,d,?_⟩;rw[k];exact⟨rfl,_,rfl,aZ q⟩
def aY9 (K:bFC):Sp:=λvs H Q _=>∃o,vs=[.str (wO o)]/\OkO o/\∀v H',Same H H'->IsO K H' v o->Q v H'
def bB2 (h:Vl v):nameB (.str (shw v))=false:=by
 refine aVy λz=>?_;have f:(lA 1 (.str (shw v)) && !inV (.str (shw v)) words)=true:=z;rw[bAI] at f;obtain⟨y,e,p,g,j⟩:=yD f.1;cases e;have b:lA 0 (.str (shw v))=true:=by show (decide (0<=(shw v).length) && (decide ((shw v).length<=8) && allIn (shw v)))=true;rw[v7 g,j,v7 (bAK _)];rfl
 rw[aC4] at b;unfold aEa at b;rw[bAI] at b;have a:=List.all_eq_true.mp b.2;rcases h with⟨i,rfl,l⟩|⟨x,rfl,hx,h8⟩
 ·cases i with
  |ofNat m=>
   rw[show cs (shw (.int (Int.ofNat m)))=(Nat.toDigits 10 m).map Char.toNat from PySem.W.KIN.signs_num m] at a;cases c:(Nat.toDigits 10 m).map Char.toNat with
   |nil=>exact aPt m c
   |cons d r=>have k:=a d (by rw[c];exact j5 ..);have o:=xC m d (by rw[c];exact j5 ..);simp only[isL,bAI,decide_eq_true_eq] at k;lia
  |negSucc n=>rw[show cs (shw (.int (Int.negSucc n)))=45::(Nat.toDigits 10 (n+1)).map Char.toNat from aHx n] at a;exact absurd (a 45 (j5 ..)) (by decide)
 ·rw[tK] at a;exact absurd (a 39 (j5 ..)) (by decide)
def aEz (T:Txt w K mg)(n:Ok P w K mg base 2 "is_name" m5 (qN K nameB))(t:Ok P w K mg base 3 "read_value" bQI aVt):Ok P w K mg base 4 "read_other" bQI (aY9 K):=by
 refine Ok.ofV T.aH6 aEn (by trivial) (λf j A e s H r Q E m h=>?_)
 obtain⟨o,rfl,a,q⟩:=h;refine⟨_,(aB (aJ (jO (cP (bU n (va1 (vv 0)))) (aK (aG aF (va1 (vv 0)))) (aK (aG aF (va1 (bU t (va1 (vv 0))))))))),?_⟩;refine⟨_,rfl,_,rfl,.inl ⟨_,rfl,by have:=(aSo a).2;lia⟩,λl i=>⟨_,rfl,?_⟩⟩;cases o with
 |val v=>rw[show nameB (.str (wO (.val v)))=false from bB2 a];exact aZ ⟨_,rfl,v,rfl,a,λu k=>⟨(by show 2<=sizeLine;decide),λp c _ g b=>q _ c (i.trans (k.trans g)) ⟨p,rfl,SqT.of b,a.th,a⟩⟩⟩
 |col d=>rw[show nameB (.str (wO (.col d)))=true from a];exact bQ ⟨_,rfl,(by show 2<=sizeLine;decide),λp c _ g b=>q _ c (i.trans g) ⟨p,rfl,SqT.of b,a⟩⟩
def uY {α:Type}(K:bFC)(C:Addr)(S:bFC->Hp->V->α->Prop)(wd:α->List Str)(F:α->Prop):Sp:=λvs H Q _=>∃x L ws i a r,vs=[.ref x]/\jU H C x L ws i/\ws.drop i=wd a++r/\F a/\∀v H',Rd C x L ws H H' (i+(wd a).length)->S K H' v a->Q v H'
section
variable {C:Addr}
def aGy (T:Txt w K mg)(b:OkM P w K mg base C 3 "name" n8 (fY C Nm))(a:OkM P w K mg base C 2 "word" n8 (fY C λ_=>True))(O:Ok P w K mg base 4 "read_other" bQI (aY9 K)):Ok P w K mg base 5 "read_test" bQB (uY K C IsT wT OkT):=by
 refine Ok.ofV T.aKq aHd (by trivial) (λf N A e s H Y Q E g h=>?_)
 obtain⟨x,L,d,i,t,r,rfl,u,I,⟨D,X,W⟩,q⟩:=h;refine⟨_,(aB (aJ (aK (aG (cF (b.mono (by decide)) g (vv 0)) (aG (cF (a.mono (by decide)) g (vv 0)) (va1 (bU O (va1 (cF (a.mono (by decide)) g (vv 0)))))))))),?_⟩;obtain⟨F,J⟩:=u.at_;have z:=I;have B:=(cV z).2;have M:=(cV B).2;refine⟨_,rfl,x,F,_,rfl,J,rfl,x,L,d,i,_,_,rfl,u,z,D,λH1 l=>?_⟩;obtain⟨c,m⟩:=l.wd.at_;refine⟨_,rfl,x,c,_,rfl,m,rfl,x,L,d,_,_,_,rfl,l.wd,B,trivial,λH2 n=>?_⟩;obtain⟨k,j⟩:=n.wd.at_;refine⟨_,rfl,x,k,_,rfl,j,rfl,x,L,d,_,_,_,rfl,n.wd,M,trivial,λH3 G=>⟨t.o,rfl,W,λv Z V R=>⟨(by show 3<=sizeLine;decide),λp S _ y U=>?_⟩⟩⟩;exact q _ S ((l.trans (n.trans G)).sm (V.trans y)) ⟨p,v,rfl,SqT.of U,D,X,R.same y⟩
def aGz (T:Txt w K mg)(a:OkM P w K mg base C 3 "name" n8 (fY C Nm)):Ok P w K mg base 4 "read_pair" bQB (uY K C oY wP OkP):=by
 refine Ok.ofV T.aKm aIz (by trivial) (λf z A c s H I Q E k h=>?_)
 obtain⟨x,L,g,i,t,r,rfl,j,u,⟨n,m⟩,q⟩:=h;refine⟨_,(aB (aJ (aK (aG (cF (a.mono (by decide)) k (vv 0)) (va1 (cF (a.mono (by decide)) k (vv 0))))))),?_⟩;obtain⟨o,v⟩:=j.at_;have l:=u;have F:=(cV l).2;refine⟨_,rfl,x,o,_,rfl,v,rfl,x,L,g,i,_,_,rfl,j,l,n,λJ d=>?_⟩;obtain⟨b,e⟩:=d.wd.at_;refine⟨_,rfl,x,b,_,rfl,e,rfl,x,L,g,_,_,_,rfl,d.wd,F,m,λM G=>⟨(by show 2<=sizeLine;decide),λp B _ y D=>?_⟩⟩;exact q _ B ((d.trans G).sm y) ⟨p,rfl,SqT.of D,n,m⟩
def aK0 (T:Txt w K mg)(a:OkM P w K mg base C 3 "name" n8 (fY C Nm))(b:OkM P w K mg base C 2 "word" n8 (fY C λ_=>True)):Ok P w K mg base 4 "read_key" bQB (uY K C nZ wP OkK):=by
 refine Ok.ofV T.aM7 aKf (by trivial) (λf z A d s H J Q E l h=>?_)
 obtain⟨x,L,j,i,t,r,rfl,k,u,⟨n,G⟩,q⟩:=h;refine⟨_,(aB (aJ (aK (aG (cF (a.mono (by decide)) l (vv 0)) (va1 (cF (b.mono (by decide)) l (vv 0))))))),?_⟩;obtain⟨o,v⟩:=k.at_;have m:=u;have F:=(cV m).2;refine⟨_,rfl,x,o,_,rfl,v,rfl,x,L,j,i,_,_,rfl,k,m,n,λM e=>?_⟩;obtain⟨c,g⟩:=e.wd.at_;refine⟨_,rfl,x,c,_,rfl,g,rfl,x,L,j,_,_,_,rfl,e.wd,F,trivial,λN I=>⟨(by show 2<=sizeLine;decide),λp B _ y D=>?_⟩⟩;exact q _ B ((e.trans I).sm y) ⟨p,rfl,SqT.of D,n,G⟩
def aL5 (T:Txt w K mg)(a:OkM P w K mg base C 3 "name" n8 (fY C Nm))(b:OkM P w K mg base C 2 "word" n8 (fY C λ_=>True)):Ok P w K mg base 4 "read_sum" bQB (uY K C lE wS OkS):=by
 refine Ok.ofV T.aMm aA7 (by trivial) (λf X A B s H vs Q E F h=>?_)
 obtain⟨x,L,e,i,t,r,rfl,y,n,⟨u,h2⟩,q⟩:=h;have U:=aA7.nd;refine⟨_,(aA (aY 1 (cF (b.mono (by decide)) F (vv 0))) (aA (aY 2 (jO (cT cJ (vv 1) aF) gQ (cF (a.mono (by decide)) F (vv 0)))) (aB (aJ (aK (aG (vv 1) (aG (vv 2) (va1 (cF (a.mono (by decide)) F (vv 0)))))))))),?_⟩;obtain⟨N,O⟩:=y.at_;rcases h2 with⟨R,k⟩|⟨c,k,h3,h4⟩
 ·have v:wS t=[t.wd,t.new]:=by unfold wS;rw[k]
  rw[v] at n q;have l:e.drop i=t.wd::(t.new::r):=n;have o:=(cV l).2;refine⟨_,rfl,x,N,_,rfl,O,rfl,x,L,e,i,_,_,rfl,y,l,trivial,λY g=>?_⟩;obtain⟨d,j⟩:=g.wd.at_;refine⟨_,rfl,rfl,_,rfl,?_⟩;rw[R];refine bQ ?_;refine⟨_,rfl,_,rfl,_,rfl,x,d,_,rfl,j,rfl,x,L,e,_,_,_,rfl,g.wd,o,u,λZ m=>⟨(by show 3<=sizeLine;decide),λp G _ D M=>?_⟩⟩;exact q _ G ((g.trans m).sm D) ⟨p,rfl,u,.inl ⟨R,k,SqT.of M⟩⟩
 ·have v:wS t=[t.wd,c,t.new]:=by unfold wS;rw[k]
  rw[v] at n q;have l:e.drop i=t.wd::(c::t.new::r):=n;have o:=(cV l).2;have W:=(cV o).2;refine⟨_,rfl,x,N,_,rfl,O,rfl,x,L,e,i,_,_,rfl,y,l,trivial,λY g=>?_⟩;obtain⟨d,j⟩:=g.wd.at_;refine⟨_,rfl,rfl,_,rfl,?_⟩;have nc:decide (V.str t.wd=V.str "count")=false:=j6 λz=>by have z:=V.str.inj z;rcases h4 with h4|h4|h4 <;> rw[h4] at z <;> exact absurd z (by trivial)
  rw[nc];refine aZ ⟨_,rfl,x,d,_,rfl,j,rfl,x,L,e,_,_,_,rfl,g.wd,o,h3,λZ m=>?_⟩;obtain⟨J,I⟩:=m.wd.at_;refine⟨_,rfl,_,rfl,_,rfl,x,J,_,rfl,I,rfl,x,L,e,_,_,_,rfl,m.wd,W,u,λH3 S=>⟨(by show 3<=sizeLine;decide),λp G _ D M=>?_⟩⟩;exact q _ G ((g.trans (m.trans S)).sm D) ⟨p,rfl,u,.inr ⟨c,k,h3,h4,SqT.of M⟩⟩
end
theorem aJy (a:List Str):∀r:List (List Str),iU (a::r)=a++cM "and" r
 |[]=>by rw[show cM "and" []=[] from rfl,bAW];rfl
 |b::r=>by show a++("and":Str)::iU (b::r)=a++("and":Str)::(b++cM "and" r);rw[aJy b r]
def Stays {α:Type}(K:bFC)(S:bFC->Hp->V->α->Prop):Prop:=∀{H H' v a},TK K H H'->S K H v a->S K H' v a
def vO (e:H D=some (.lst xs)):TK K H (upd H D (.lst ys)):=λ_ _ h=>h.aC3 e
section
variable {C:Addr}{α:Type}{S:bFC->Hp->V->α->Prop}{wd:α->List Str}{F:α->Prop}
inductive aCp (P:Program)(w:World)(K:bFC)(mg:bFF)(base:Heap)(k:Nat)(C:Addr)(S:bFC->Hp->V->α->Prop)(wd:α->List Str)(F:α->Prop)(vs:List V)(H:Hp)(Q:VK)(E_:XK):Prop
 |mk (x L:Addr) (ws:List Str) (i:Nat) (as:List α) (r:List Str) (g:Addr) (ps:List Str) (_:vs=[.ref x,.ref g]) (_:Held P w K mg base k g ps (uY K C S wd F)) (_:jU H C x L ws i) (_:ws.drop i=iU (as.map wd)++r) (_:1<=as.length) (_:as.length<=900) (_:(∀a∈as,F a)) (_:r.head?≠some "and") (_:∀v H',Rd C x L ws H H' (i+(iU (as.map wd)).length)->aCo K H' (S K H') v as->Q v H')
def qR (T:Txt w K mg)(hk:2<=k)(st:Stays K S)(b:OkM P w K mg base C 2 "takes" bQA (zU C)):Ok P w K mg base (k+1) "one_and_more" bQE (aCp P w K mg base k C S wd F):=by
 refine Ok.ofV T.aEk qX (by trivial) (λf a3 A Z s H p Q E U h=>?_)
 obtain⟨x,L,u,i,as,r,g,ps,rfl,hg,hW,I,h1,h9,hF,W,q⟩:=h;have b:=b.mono hk;have a2:=qX.nd;refine⟨_,(aA (aY 2 (bM (va1 (rO (P:=P) (w:=w) (K:=K) (mg:=mg) (base:=base) U (vv 1) (va1 (vv 0)))))) (aA (rH PassesOwn.never (cP (sY (b.mono (by lia)) U (vv 0) (va1 aF))) (aB (dG (fK PySem.F.plainAttrs_list PySem.F.slot_list_append PySem.F.type_list_append dM (vv 2) (va1 (rO (P:=P) (w:=w) (K:=K) (mg:=mg) (base:=base) U (vv 1) (va1 (vv 0)))))))) (aB (aJ (bG cC (by rfl) T.cO cB (va1 (vv 2))))))),?_⟩;obtain⟨d,c,rfl⟩:∃d c,as=d::c:=by
  cases as with
  |nil=>cases h1
  |cons a l=>exact⟨a,l,rfl⟩
 rw[bAB,aJy] at I q;rw[bAD] at I;refine⟨_,rfl,g,ps,_,rfl,hg,_,rfl,x,L,u,i,d,_,rfl,hW,I,hF _ (j5 ..),λv0 H1 X a1=>?_⟩;refine⟨(by show 1<=sizeLine;decide),λv H2 M s2 g2=>?_⟩;have O:H v=none:=by
  cases e:H v with
  |none=>rfl
  |some o=>obtain⟨dx,Y⟩:=X.wd.at_;rw[X.but _ _ (λz=>by rw[z,Y] at M;cases M) e] at M;cases M
 refine⟨λm σ N=>∃done rest p j,d::c=done++rest/\m=rest.length/\σ=[some (.ref x),some (.ref g),some (.ref v)]/\Rd C x L u H N j/\N v=some (.lst p)/\bY (S K N) p done/\u.drop j=cM "and" (rest.map wd)++r/\j+(cM "and" (rest.map wd)).length=i+(wd d++cM "and" (c.map wd)).length,⟨c.length,[d],c,[v0],i+(wd d).length,rfl,rfl,rfl,X.sm s2,g2,.cons (st (TK.of s2) a1) .nil,lY I,by rw[j4];lia⟩,?_⟩;rintro m σ N ⟨done,rest,p,j,en,rfl,rfl,rd,gD,hvs,hdj,hj⟩;obtain⟨dx,Y⟩:=rd.wd.at_;refine⟨_,rfl,x,dx,_,rfl,Y,rfl,x,L,u,j,_,rfl,rd.wd,?_,?_⟩
 ·intro G H3 J;cases rest with
  |nil=>rw[hdj] at G;exact absurd G W
  |cons a rest=>
   refine⟨_,rfl,bQ ⟨fun σ' n=>∃m',m'<(a::rest).length/\∃done rest p j,d::c=done++rest/\m'=rest.length/\σ'=[some (.ref x),some (.ref g),some (.ref v)]/\Rd C x L u H n j/\n v=some (.lst p)/\bY (S K n) p done/\u.drop j=cM "and" (rest.map wd)++r/\j+(cM "and" (rest.map wd)).length=i+(wd d++cM "and" (c.map wd)).length,fun σ' n h=>h,?_⟩⟩;have D:=J.lst rd.wd gD;have d0:u.drop j=("and":Str)::(wd a++(cM "and" (rest.map wd)++r)):=by rw[hdj];show ("and":Str)::(wd a++cM "and" (rest.map wd))++r=_;rw[bBD,bAD]
   have d1:=(cV d0).2;refine⟨_,rfl,.inl ⟨rfl,_,SqL.of D⟩,_,rfl,g,ps,_,rfl,hg,_,rfl,x,L,u,_,a,_,rfl,J.wd,d1,hF a (by rw[en];exact bAO _ (j5 ..)),λv4 H4 r4 R=>?_⟩;have B:=J.trans r4;have y:=r4.lst J.wd D;refine⟨v,_,_,rfl,rfl,y,?_,?_⟩
   ·have:=congrArg List.length en;have l2:=hvs.len;rw[j4] at this;exact dC (by lia)
   ·have l3:(cM "and" ((a::rest).map wd)).length=1+((wd a).length+(cM "and" (rest.map wd)).length):=by show (("and":Str)::(wd a++cM "and" (rest.map wd))).length=_;rw[d9,j4];lia
    refine⟨rest.length,by rw[d9];lia,done++[a],rest,p++[v4],_,by rw[en,bAD];rfl,rfl,rfl,(rd.trans B).upd hW O,aL,?_,lY d1,by lia⟩;exact (hvs.imp λ_ _ h=>st (vO y) (st (B.tk rd.wd) h)).app (.cons (st (vO y) R) .nil)
 ·intro G;cases rest with
  |cons a rest=>rw[hdj] at G;exact absurd rfl G
  |nil=>rw[bAW] at en;subst en;refine⟨_,rfl,aZ ⟨_,rfl,v,_,rfl,SqL.of gD,λt H3 ft s3 g3=>?_⟩⟩;have V:=hj;subst V;exact q _ H3 (rd.sm s3) ⟨t,p,rfl,SqT.of g3,hvs.imp λ_ _ h=>st (TK.of s3) h⟩
inductive aK1 (P:Program)(w:World)(K:bFC)(mg:bFF)(base:Heap)(k:Nat)(C:Addr)(S:bFC->Hp->V->α->Prop)(wd:α->List Str)(F:α->Prop)(vs:List V)(H:Hp)(Q:VK)(E_:XK):Prop
 |mk (x L:Addr) (ws:List Str) (i:Nat) (as:List α) (r:List Str) (y:Str) (g:Addr) (ps:List Str) (_:vs=[.ref x,.str y,.ref g]) (_:Held P w K mg base k g ps (uY K C S wd F)) (_:jU H C x L ws i) (_:ws.drop i=cM y (as.map wd)++r) (_:as.length<=900) (_:(∀a∈as,F a)) (_:r.head?≠some y) (_:∀v H',Rd C x L ws H H' (i+(cM y (as.map wd)).length)->aCo K H' (S K H') v as->Q v H')
def rP (T:Txt w K mg)(hk:2<=k)(st:Stays K S)(b:OkM P w K mg base C 2 "takes" bQA (zU C)):Ok P w K mg base (k+1) "each_behind" z8 (aK1 P w K mg base k C S wd F):=by
 refine Ok.ofV T.aEm rW (by trivial) (λf a1 A G s H d Q E W h=>?_)
 obtain⟨x,L,e,i,n,r,y,g,ps,rfl,hg,N,hd,h9,hF,M,q⟩:=h;have b:=b.mono hk;have a0:=rW.nd;refine⟨_,(aA (aY 3 (bM gB)) (aA (rH PassesOwn.never (cP (sY (b.mono (by lia)) W (vv 0) (va1 (vv 1)))) (aB (dG (fK PySem.F.plainAttrs_list PySem.F.slot_list_append PySem.F.type_list_append dM (vv 3) (va1 (rO (P:=P) (w:=w) (K:=K) (mg:=mg) (base:=base) W (vv 2) (va1 (vv 0)))))))) (aB (aJ (bG cC (by rfl) T.cO cB (va1 (vv 3))))))),?_⟩;refine⟨(by decide),λo H2 D s2 g2=>?_⟩;refine⟨λm σ B=>∃done rest d j,n=done++rest/\m=rest.length/\σ=[some (.ref x),some (.str y),some (.ref g),some (.ref o)]/\Rd C x L e H B j/\B o=some (.lst d)/\bY (S K B) d done/\e.drop j=cM y (rest.map wd)++r/\j+(cM y (rest.map wd)).length=i+(cM y (n.map wd)).length,⟨n.length,[],n,[],i,rfl,rfl,rfl,(Rd.refl N).sm s2,g2,.nil,hd,rfl⟩,?_⟩;rintro m σ B ⟨done,rest,d,j,en,rfl,rfl,rd,gD,hvs,hdj,hj⟩;obtain⟨Z,hx⟩:=rd.wd.at_;refine⟨_,rfl,x,Z,_,rfl,hx,rfl,_,rfl,x,L,e,j,_,rfl,rd.wd,?_,?_⟩
 ·intro v V z;cases rest with
  |nil=>rw[hdj] at v;exact absurd v M
  |cons a rest=>
   refine⟨_,rfl,bQ ⟨fun R c=>∃m',m'<(a::rest).length/\∃done rest d j,n=done++rest/\m'=rest.length/\R=[some (.ref x),some (.str y),some (.ref g),some (.ref o)]/\Rd C x L e H c j/\c o=some (.lst d)/\bY (S K c) d done/\e.drop j=cM y (rest.map wd)++r/\j+(cM y (rest.map wd)).length=i+(cM y (n.map wd)).length,fun R c h=>h,?_⟩⟩;have u:=z.lst rd.wd gD;have d0:e.drop j=y::(wd a++(cM y (rest.map wd)++r)):=by rw[hdj];show y::(wd a++cM y (rest.map wd))++r=_;rw[bBD,bAD]
   have X:=(cV d0).2;refine⟨_,rfl,.inl ⟨rfl,_,SqL.of u⟩,_,rfl,g,ps,_,rfl,hg,_,rfl,x,L,e,_,a,_,rfl,z.wd,X,hF a (by rw[en];exact bAO _ (j5 ..)),λv4 H4 O I=>?_⟩;have p:=z.trans O;have l:=O.lst z.wd u;refine⟨o,_,_,rfl,rfl,l,?_,?_⟩
   ·have:=congrArg List.length en;have l2:=hvs.len;rw[j4] at this;exact dC (by lia)
   ·have l3:(cM y ((a::rest).map wd)).length=1+((wd a).length+(cM y (rest.map wd)).length):=by show (y::(wd a++cM y (rest.map wd))).length=_;rw[d9,j4];lia
    refine⟨rest.length,by rw[d9];lia,done++[a],rest,d++[v4],_,by rw[en,bAD];rfl,rfl,rfl,(rd.trans p).upd N D,aL,?_,lY X,by lia⟩;exact (hvs.imp λ_ _ h=>st (vO l) (st (p.tk rd.wd) h)).app (.cons (st (vO l) I) .nil)
 ·intro v;cases rest with
  |cons a rest=>rw[hdj] at v;exact absurd rfl v
  |nil=>rw[bAW] at en;subst en;refine⟨_,rfl,aZ ⟨_,rfl,o,_,rfl,SqL.of gD,λt V ft U Y=>?_⟩⟩;have J:=hj;subst J;exact q _ V (rd.sm U) ⟨t,d,rfl,SqT.of Y,hvs.imp λ_ _ h=>st (TK.of U) h⟩
end
def jd:Qn->Nat
 |.table _=>0
 |.whr q _=>jd q
 |.keep q _=>jd q
 |.nmd q _=>jd q
 |.join q r _=>max (jd q) (jd r+1)
 |.group q _ _=>jd q
 |.first q _ _=>jd q
def aYn (h:Wf q):2 * jd q+1<=My.size q:=by
 induction q with
 |table T=>exact j9 _
 |whr q ts ih=>have:=ih h.1;simp only[jd,My.size];lia
 |keep q ns ih=>have:=ih h.1;simp only[jd,My.size];lia
 |nmd q ns ih=>have:=ih h.1;simp only[jd,My.size];lia
 |join q r ps ih ir=>have:=ih h.1;have:=ir h.2.1;simp only[jd,My.size];lia
 |group q ns ss ih=>have:=ih h.1;simp only[jd,My.size];lia
 |first q ks m ih=>have:=ih h.1;simp only[jd,My.size];lia
inductive aOr (K:bFC)(C:Addr)(n:Nat)(vs:List V)(H:Hp)(Q:VK)(E_:XK):Prop
 |mk (x L:Addr) (ws:List Str) (i d:Nat) (q:Qn) (r:List Str) (_:vs=[.ref x,.int (d:Nat)]) (_:jU H C x L ws i) (_:ws.drop i=wq q++r) (_:Wf q) (_:(∀y,r.head?=some y->y = ")")) (_:jd q<n) (_:d+jd q<=20) (_:(∀a∈ws,a.length<=1000)) (_:∀v H',Rd C x L ws H H' (i+(wq q).length)->IsQ K H' v q->Q v H')
inductive aY7 (K:bFC)(C:Addr)(n:Nat)(vs:List V)(H:Hp)(Q:VK)(E_:XK):Prop
 |mk (x L:Addr) (ws:List Str) (i d:Nat) (v:V) (q r:Qn) (ps:List (Str × Str)) (rest:List Str) (_:vs=[.ref x,v,.int (d:Nat)]) (_:jU H C x L ws i) (_:IsQ K H v q) (_:ws.drop i=("(":Str)::(wq r++(")":Str)::("on":Str)::(iU (ps.map wP)++rest))) (_:Wf r) (_:(1<=ps.length/\ps.length<=3/\∀p∈ps,OkP p)) (_:Fin rest) (_:jd r<n) (_:d+1+jd r<=20) (_:(∀a∈ws,a.length<=1000)) (_:∀v H',Rd C x L ws H H' (i+(1+((wq r).length+(2+(iU (ps.map wP)).length))))->IsQ K H' v (.join q r ps)->Q v H')
inductive aY4 (K:bFC)(C:Addr)(n:Nat)(vs:List V)(H:Hp)(Q:VK)(E_:XK):Prop
 |mk (x L:Addr) (ws:List Str) (i d:Nat) (v:V) (q q':Qn) (u rest:List Str) (_:vs=[.ref x,v,.int (d:Nat)]) (_:jU H C x L ws i) (_:IsQ K H v q) (_:Stp q q' u) (_:ws.drop i=u++rest) (_:Wf q') (_:Fin rest) (_:jd q'<=n) (_:d+jd q'<=20) (_:(∀a∈ws,a.length<=1000)) (_:∀v H',Rd C x L ws H H' (i+u.length)->IsQ K H' v q'->Q v H')
section
variable {C:Addr}
def aIi (T:Txt w K mg)(a:OkM P w K mg base C 3 "need" bQA (aP1 C))(nR:Ok P w K mg base (6+3 * n) "read_within" bQK (aOr K C n))(lN:Ok P w K mg base 5 "one_and_more" bQE (aCp P w K mg base 4 C oY wP OkP))(a2:Ok P w K mg base 4 "read_pair" bQB (uY K C oY wP OkP)):Ok P w K mg base (7+3 * n) "read_join" o9 (aY7 K C n):=by
 rw[show 7+3 * n=(6+3 * n)+1 by lia];refine Ok.ofV T.aJ6 yU (by trivial) (λf a1 A N s H vs Q E g h=>?_)
 obtain⟨x,L,c,i,d,v,q,r,O,j,rfl,M,hv,V,D,⟨U,p3,hp⟩,hf,hn,hz,hl,qq⟩:=h;obtain⟨fa,mf,S⟩:=a2.held;have b:∃u,mg "read_pair"=some u/\RelV (.ref fa) u:=⟨_,mf,rfl⟩;have a0:=yU.nd;refine⟨_,(aA (dG (sY (a.mono (by lia)) g (vv 0) (va1 aF))) (aA (aY 3 (dX (nR.mono (by lia)) g (by rfl) (aG (vv 0) (va1 (aW eG (vv 2) aC))))) (aA (dG (sY (a.mono (by lia)) g (vv 0) (va1 aF))) (aA (dG (sY (a.mono (by lia)) g (vv 0) (va1 aF))) (aB (aJ (aK (aG aF (aG (vv 1) (aG (vv 3) (va1 (dX (lN.mono (by lia)) g (by rfl) (aG (vv 0) (va1 (dY (by rfl) b))))))))))))))),?_⟩;obtain⟨dx,hx⟩:=M.at_;refine⟨_,rfl,x,dx,_,rfl,hx,rfl,x,L,c,i,_,_,rfl,M,V,λH1 Z=>?_⟩;have d1:=(cV V).2;refine⟨_,rfl,_,rfl,_,_,rfl,rfl,x,L,c,i+1,d+1,r,_,rfl,Z.wd,d1,D,(λy z=>by cases z;rfl),hn,by lia,hl,λu H2 l hu=>?_⟩;have X:=lY d1;obtain⟨G,R⟩:=l.wd.at_;refine⟨_,rfl,x,G,_,rfl,R,rfl,x,L,c,_,_,_,rfl,l.wd,X,λH3 I=>?_⟩;have Y:=(cV X).2;obtain⟨o,F⟩:=I.wd.at_;refine⟨_,rfl,x,o,_,rfl,F,rfl,x,L,c,_,_,_,rfl,I.wd,Y,λH4 W=>?_⟩;have d4:=(cV Y).2;refine⟨_,rfl,_,rfl,_,rfl,x,L,c,_,O,j,fa,_,rfl,S,W.wd,d4,U,by lia,hp,hf.no (by decide),λt H5 r5 ht=>⟨(by show 4<=sizeLine;decide),λp H6 _ m g6=>?_⟩⟩;have k:=(I.trans (W.trans r5)).sm m;have J:=l.trans k;have B:=Z.trans J;have e:i+1+(wq r).length+1+1+(iU (O.map wP)).length=i+(1+((wq r).length+(2+(iU (O.map wP)).length))):=by lia
 rw[e] at B;exact qq _ H6 B (.join (SqT.of g6) (hv.tk (B.tk M)) (hu.tk (k.tk l.wd)) ⟨tQ (TK.of m) (λ_ _ h=>h.same m) ht,U,p3⟩)
def aAt (h:SqT K H t (ns.map V.str))(hn:∀n∈ns,Nm n):aCo K H (xA K H) (.ref t) ns:=by
 refine⟨t,_,rfl,h,?_⟩;clear h
 induction ns with
 |nil=>exact .nil
 |cons a r ih=>exact .cons ⟨rfl,hn a (j5 ..)⟩ (ih λn m=>hn n (j7 _ m))
def aHi {n:Nat}(T:Txt w K mg)(V:OkM P w K mg base C 2 "word" n8 (fY C λ_=>True))(c:OkM P w K mg base C 3 "names" n8 (aF0 K C))(R:OkM P w K mg base C 4 "value" n8 (aFw C))(a6:Ok P w K mg base (7+3 * n) "read_join" o9 (aY7 K C n))(lN:Ok P w K mg base 6 "one_and_more" bQE (aCp P w K mg base 5 C IsT wT OkT))(ab:Ok P w K mg base 5 "read_test" bQB (uY K C IsT wT OkT))
  (ad:Ok P w K mg base 5 "each_behind" z8 (aK1 P w K mg base 4 C lE wS OkS)) (a7:Ok P w K mg base 4 "read_sum" bQB (uY K C lE wS OkS)) (aa:Ok P w K mg base 5 "each_behind" z8 (aK1 P w K mg base 4 C nZ wP OkK)) (ac:Ok P w K mg base 4 "read_key" bQB (uY K C nZ wP OkK)):Ok P w K mg base (8+3 * n) "read_step" o9 (aY4 K C n):=by
 rw[show 8+3 * n=(7+3 * n)+1 by lia];refine Ok.ofV T.aJh yP (by trivial) (λf a9 A a5 s H vs Q E hr h=>?_)
 obtain⟨x,L,D,i,d,v,q,q',u,b,rfl,M,hv,hS,B,hw,hf,hn,hz,hl,qq⟩:=h;obtain⟨ft,mt,a2⟩:=ab.held;have g:∃u,mg "read_test"=some u/\RelV (.ref ft) u:=⟨_,mt,rfl⟩;obtain⟨fs,ms,a4⟩:=a7.held;have k:∃u,mg "read_sum"=some u/\RelV (.ref fs) u:=⟨_,ms,rfl⟩;obtain⟨fk,mk,a3⟩:=ac.held;have o:∃u,mg "read_key"=some u/\RelV (.ref fk) u:=⟨_,mk,rfl⟩;have a8:=yP.nd;refine⟨_,(aA (aY 3 (cF (V.mono (by lia)) hr (vv 0))) (aA (bN (cT cJ (vv 3) aF) (aB (aJ (aK (aG aF (aG (vv 1) (va1 (dX (lN.mono (by lia)) hr (by rfl) (aG (vv 0) (va1 (dY (by rfl) g)))))))))) aU) (aA (bN (zM tU (vv 3) (aK (aG aF (va1 aF))) (by with_unfolding_all rfl)) (aB (aJ (aK (aG (vv 3) (aG (vv 1) (va1 (cF (c.mono (by lia)) hr (vv 0)))))))) aU) (aA (bN (cT cJ (vv 3) aF) (aB (aJ (dX (a6.mono (by lia)) hr (by rfl) (aG (vv 0) (aG (vv 1) (va1 (vv 2))))))) aU) (aA (bN (cT cJ (vv 3) aF) (aA (aY 4 (cF (c.mono (by lia)) hr (vv 0))) (aB (aJ (aK (aG aF (aG (vv 1) (aG (vv 4) (va1 (dX (ad.mono (by lia)) hr (by rfl) (aG (vv 0) (aG aF (va1 (dY (by rfl) k))))))))))))) aU) (aA (bN (cT cJ (vv 3) aF) (aA (aY 5 (cF (R.mono (by lia)) hr (vv 0))) (aB (aJ (aK (aG aF (aG (vv 1) (aG (dX (aa.mono (by lia)) hr (by rfl) (aG (vv 0) (aG aF (va1 (dY (by rfl) o))))) (va1 (vv 5))))))))) aU) (aB jQ))))))),?_⟩;obtain⟨dx,hx⟩:=M.at_;cases hS with
 |@whr ts=>obtain⟨w1,N,I,S⟩:=hw;refine⟨_,rfl,x,dx,_,rfl,hx,rfl,x,L,D,i,_,_,rfl,M,B,trivial,λH1 O=>?_⟩;have J:=(cV B).2;refine⟨_,rfl,rfl,_,rfl,bQ ?_⟩;refine⟨_,rfl,_,rfl,x,L,D,_,ts,b,ft,_,rfl,a2,O.wd,J,N,by lia,S,hf.no (by decide),λt H5 U ht=>⟨(by show 3<=sizeLine;decide),λp H6 _ X g6=>?_⟩⟩;have e:=(O.trans U).sm X;rw[show i+1+(iU (ts.map wT)).length=i+(("where":Str)::iU (ts.map wT)).length by rw[d9];lia] at e;exact qq _ H6 e (.whr (SqT.of g6) (hv.tk (e.tk M)) ⟨tQ (TK.of X) (λ_ _ h=>h.same X) ht,N,I⟩)
 |@keep ns=>obtain⟨w1,N,I,S⟩:=hw;refine⟨_,rfl,x,dx,_,rfl,hx,rfl,x,L,D,i,_,_,rfl,M,B,trivial,λH1 O=>?_⟩;have J:=(cV B).2;refine⟨_,rfl,rfl,_,rfl,aZ ?_⟩;refine⟨_,rfl,(by show 2<=sizeLine;decide),λY H2 _ Z W=>⟨Y,_,rfl,.inr (SqT.of W),rfl,rfl,_,rfl,bQ ?_⟩⟩;have j:=O.sm Z;obtain⟨F,G⟩:=j.wd.at_;refine⟨_,rfl,_,rfl,_,rfl,x,F,_,rfl,G,rfl,x,L,D,_,ns,b,rfl,j.wd,J,S,I,hl,hf.nm,λt H5 U ht=>⟨(by show 3<=sizeLine;decide),λp H6 _ X g6=>?_⟩⟩;have e:=(j.trans U).sm X;rw[show i+1+ns.length=i+(("keep":Str)::ns).length by rw[d9];lia] at e;exact qq _ H6 e (.keep (SqT.of g6) (hv.tk (e.tk M)) ⟨aAt (X.aQ ht) S,N,I⟩)
 |@nmd ns=>obtain⟨w1,N,I,S⟩:=hw;refine⟨_,rfl,x,dx,_,rfl,hx,rfl,x,L,D,i,_,_,rfl,M,B,trivial,λH1 O=>?_⟩;have J:=(cV B).2;refine⟨_,rfl,rfl,_,rfl,aZ ?_⟩;refine⟨_,rfl,(by show 2<=sizeLine;decide),λY H2 _ Z W=>⟨Y,_,rfl,.inr (SqT.of W),rfl,rfl,_,rfl,bQ ?_⟩⟩;have j:=O.sm Z;obtain⟨F,G⟩:=j.wd.at_;refine⟨_,rfl,_,rfl,_,rfl,x,F,_,rfl,G,rfl,x,L,D,_,ns,b,rfl,j.wd,J,S,I,hl,hf.nm,λt H5 U ht=>⟨(by show 3<=sizeLine;decide),λp H6 _ X g6=>?_⟩⟩;have e:=(j.trans U).sm X;rw[show i+1+ns.length=i+(("named":Str)::ns).length by rw[d9];lia] at e;exact qq _ H6 e (.nmd (SqT.of g6) (hv.tk (e.tk M)) ⟨aAt (X.aQ ht) S,N,I⟩)
 |@join r ps=>
  obtain⟨w1,N,I⟩:=hw;have B:D.drop i=("join":Str)::(("(":Str)::(wq r++(")":Str)::("on":Str)::(iU (ps.map wP)++b))):=by rw[B];simp only[bBD,bAD]
  refine⟨_,rfl,x,dx,_,rfl,hx,rfl,x,L,D,i,_,_,rfl,M,B,trivial,λH1 O=>?_⟩;have J:=(cV B).2;refine⟨_,rfl,rfl,_,rfl,aZ ?_⟩;refine⟨_,rfl,(by show 2<=sizeLine;decide),λY H2 _ Z W=>⟨Y,_,rfl,.inr (SqT.of W),rfl,rfl,_,rfl,aZ ?_⟩⟩;have j:=O.sm Z;simp only[jd] at hn hz;refine⟨_,rfl,rfl,_,rfl,bQ ⟨_,rfl,_,rfl,_,rfl,x,L,D,_,d,v,q,r,ps,b,rfl,j.wd,hv.tk (j.tk M),J,N,I,hf,by lia,by lia,hl,λv' H' r3 hq=>qq _ H' ?_ hq⟩⟩;have e:=j.trans r3;rw[show i+1+(1+((wq r).length+(2+(iU (ps.map wP)).length)))=i+(("join":Str)::("(":Str)::(wq r++(")":Str)::("on":Str)::iU (ps.map wP))).length by simp only[d9,j4];lia] at e;exact e
 |@group ns ss=>
  obtain⟨w1,N,I,S,w5⟩:=hw;have B:D.drop i=("group":Str)::(ns++(cM "with" (ss.map wS)++b)):=by rw[B];simp only[bBD,bAD]
  refine⟨_,rfl,x,dx,_,rfl,hx,rfl,x,L,D,i,_,_,rfl,M,B,trivial,λH1 O=>?_⟩;have J:=(cV B).2;refine⟨_,rfl,rfl,_,rfl,aZ ?_⟩;refine⟨_,rfl,(by show 2<=sizeLine;decide),λY H2 _ Z W=>⟨Y,_,rfl,.inr (SqT.of W),rfl,rfl,_,rfl,aZ ?_⟩⟩;have j:=O.sm Z;obtain⟨F,G⟩:=j.wd.at_;refine⟨_,rfl,rfl,_,rfl,aZ ⟨_,rfl,rfl,_,rfl,bQ ?_⟩⟩;refine⟨_,rfl,x,F,_,rfl,G,rfl,x,L,D,_,ns,_,rfl,j.wd,J,I,N,hl,?_,λt H5 U ht=>?_⟩
  ·cases ss with
   |nil=>exact hf.nm
   |cons a l=>intro y z;cases z;intro hh;exact absurd (show nameB (.str "with")=true from hh) (by trivial)
  refine⟨_,rfl,_,rfl,_,rfl,x,L,D,_,ss,b,_,fs,_,rfl,a4,U.wd,lY J,by lia,w5,hf.no (by decide),λt' H6 r6 a0=>⟨(by show 4<=sizeLine;decide),λp H7 _ s7 g7=>?_⟩⟩;have a1:=r6.sm s7;have e:=(j.trans U).trans a1;rw[show i+1+ns.length+(cM "with" (ss.map wS)).length=i+(("group":Str)::(ns++cM "with" (ss.map wS))).length by simp only[d9,j4];lia] at e;exact qq _ H7 e (.group (SqT.of g7) (hv.tk (e.tk M)) ⟨aAt (a1.tk U.wd _ _ ht) I,bAK _,N⟩ ⟨tQ (TK.of s7) (λ_ _ h=>h.same s7) a0,bAK _,S⟩)
 |@first ks m=>obtain⟨w1,N,I,S⟩:=hw;refine⟨_,rfl,x,dx,_,rfl,hx,rfl,x,L,D,i,_,_,rfl,M,B,trivial,λH1 O=>?_⟩;have J:=(cV B).2;refine⟨_,rfl,rfl,_,rfl,aZ ?_⟩;refine⟨_,rfl,(by show 2<=sizeLine;decide),λY H2 _ Z W=>⟨Y,_,rfl,.inr (SqT.of W),rfl,rfl,_,rfl,aZ ?_⟩⟩;have j:=O.sm Z;obtain⟨F,G⟩:=j.wd.at_;refine⟨_,rfl,rfl,_,rfl,aZ ⟨_,rfl,rfl,_,rfl,aZ ⟨_,rfl,rfl,_,rfl,bQ ?_⟩⟩⟩;refine⟨_,rfl,x,F,_,rfl,G,rfl,x,L,D,_,_,_,rfl,j.wd,J,aGs S,λH5 U=>?_⟩;have d2:=(cV J).2;refine⟨_,rfl,_,rfl,x,L,D,_,ks,b,_,fk,_,rfl,a3,U.wd,d2,by lia,I,hf.no (by decide),λt' H6 r6 a0=>⟨_,rfl,(by show 4<=sizeLine;decide),λp H7 _ s7 g7=>?_⟩⟩;have e:=(j.trans U).trans (r6.sm s7);rw[show i+1+1+(cM "by" (ks.map wP)).length=i+(("first":Str)::shw (.int m)::cM "by" (ks.map wP)).length by simp only[d9];lia] at e;exact qq _ H7 e (.first (SqT.of g7) (hv.tk (e.tk M)) ⟨tQ (TK.of s7) (λ_ _ h=>h.same s7) a0,bAK _,N⟩ S)
end
def Aft.jd (h:Aft q q' l):My.jd q<=My.jd q':=by
 induction h with
 |refl=>exact j9 _
 |more _ s ih=>refine bAG ih ?_;cases s <;> simp only[My.jd] <;> lia
def Stp.len (h:Stp q q' u):1<=u.length:=by obtain⟨x,r,e,_⟩:=h.hd;rw[e,d9];lia
section
variable {C:Addr}
theorem rY (T:Txt w K mg)(a:OkM P w K mg base C 1 "ahead" n8 (oR C))(b:OkM P w K mg base C 3 "name" n8 (fY C Nm))
  (J:∀n,Ok P w K mg base (6+3 * n) "read_within" bQK (aOr K C n)->Ok P w K mg base (8+3 * n) "read_step" o9 (aY4 K C n)) :
  ∀n:Nat,Ok P w K mg base (6+3 * n) "read_within" bQK (aOr K C n)
 |0=>by
  refine Ok.ofV T.uF lO (λO H Q E h=>?_) (λf M A t s H O Q E B h=>?_)
  ·obtain⟨x,L,c,i,d,q,r,rfl,_⟩:=h;rfl
  ·obtain⟨x,L,c,i,d,q,r,rfl,_,_,_,_,hn,_⟩:=h;lia
 |n+1=>by
  have S:=J n (rY T a b J n);rw[show 6+3 * (n+1)=(8+3 * n)+1 by lia];refine Ok.ofV T.uF lO (λO H Q E h=>?_) (λf M A t s H O Q E B h=>?_)
  ·obtain⟨x,L,c,i,d,q,r,rfl,_⟩:=h;rfl
  obtain⟨x,L,c,i,d,q,r,rfl,Z,I,Y,D,hn,hz,hl,qq⟩:=h;have a0:=lO.nd;refine⟨_,(aA (bN (cT aV7 (vv 1) (dY (by rfl) T.aAz)) (aB jQ) aU) (aA (aY 2 (aK (aG aF (va1 (cF (b.mono (by lia)) B (vv 0)))))) (aA (rH PassesOwn.never (VW.pt (bBe (cT aOl (cF (a.mono (by lia)) B (vv 0)) gQ) (aXr (cT nJ (cF (a.mono (by lia)) B (vv 0)) aF)))) (aB (aY 2 (dX (S.mono (by lia)) B (by rfl) (aG (vv 0) (aG (vv 2) (va1 (vv 1)))))))) (aB (aJ (vv 2)))))),?_⟩;refine⟨_,rfl,_,_,rfl,rfl,_,rfl,?_⟩;rw[j6 (by lia)];refine aZ ?_;obtain⟨l,W,el⟩:=aPc q;rw[el] at I qq;obtain⟨dx,hx⟩:=Z.at_;have U:=W.wf Y;refine⟨_,rfl,x,dx,_,rfl,hx,rfl,x,L,c,i,_,_,rfl,Z,I,U,λH1 r1=>⟨(by show 2<=sizeLine;decide),λp H2 _ s2 g2=>?_⟩⟩;have d1:=(cV I).2;refine⟨λm σ G=>∃q1 u v j,m=u.length/\σ=[some (.ref x),some (.int (d:Nat)),some v]/\Rd C x L c H G j/\IsQ K G v q1/\Aft q1 q u/\c.drop j=u++r/\j+u.length=i+(tab0 q::l).length,⟨_,_,l,_,i+1,rfl,rfl,r1.sm s2,.table (SqT.of g2) U,W,d1,by rw[d9];lia⟩,?_⟩;rintro m σ G ⟨q1,u,v,j,rfl,rfl,rd,hv,hA,hdj,hj⟩;obtain⟨g,k⟩:=rd.wd.at_;refine⟨_,rfl,x,g,_,rfl,k,rfl,x,L,c,j,rfl,rd.wd,?_⟩;rcases hA.first with⟨rfl,rfl⟩|⟨q2,u1,u2,hs,hA2,rfl⟩
  ·have F:Q v G:=by refine qq v G ?_ hv;have e:=hj;rw[<-e];exact rd
   cases r with
   |nil=>rw[hdj];exact⟨rfl,_,rfl,aZ ⟨_,rfl,F⟩⟩
   |cons y r=>have ey:=D y rfl;subst ey;rw[hdj];refine⟨rfl,_,rfl,bQ ⟨_,rfl,x,g,_,rfl,k,rfl,x,L,c,j,rfl,rd.wd,?_⟩⟩;rw[hdj];exact⟨rfl,_,rfl,aZ ⟨_,rfl,F⟩⟩
  ·obtain⟨y,N,eu,ny⟩:=hs.hd;have X:c.drop j=y::(N++u2++r):=by rw[hdj,eu];rfl
   rw[X];refine⟨rfl,_,rfl,bQ ⟨_,rfl,x,g,_,rfl,k,rfl,x,L,c,j,rfl,rd.wd,?_⟩⟩;rw[X];refine⟨rfl,_,rfl,?_⟩;rw[show (!decide (hdV (y::(N++u2++r))=V.str ")"))=true by rw[j6 (show ¬ hdV (y::(N++u2++r))=V.str ")" from λz=>ny (V.str.inj z))];rfl];have a1:=hA2.jd;have l1:=hs.len;refine bQ ⟨fun σ' o=>∃m',m'<(u1++u2).length/\∃q1 u v j,m'=u.length/\σ'=[some (.ref x),some (.int (d:Nat)),some v]/\Rd C x L c H o j/\IsQ K o v q1/\Aft q1 q u/\c.drop j=u++r/\j+u.length=i+(tab0 q::l).length,fun σ' o h=>h,?_⟩;have fr:Fin r:=λy z=>by rw[D y z];decide
   refine⟨_,rfl,_,rfl,_,rfl,x,L,c,j,d,v,q1,q2,u1,u2++r,rfl,rd.wd,hv,hs,by rw[hdj,bAD],hA2.wf Y,hA2.fin fr,by lia,by lia,hl,λv' H3 r3 R=>?_⟩;rw[j4] at hj;exact⟨u2.length,by rw[j4];lia,q2,u2,v',j+u1.length,rfl,rfl,rd.trans r3,R,hA2,lY (by rw[hdj,bAD]),by lia⟩
end
end
end My
namespace L2
open PySem PySem.Spec PyProof.Rows
section
variable {P:Program}{w:World}{K:bFC}{mg:bFF}{base:Heap}
end
section
variable {X:Cx}{bFG₀:bFE}{σ₀:St}{k:Nat}{C:Addr}{ps:List Str}{sp:Sp}{E:XK}{m:Str}{apos pos:Pos}{o e:Expr}{es:List Expr}{ta:TE}{t:TA}
end
def exN (K:bFC)(S:Addr)(th:TS)(D:Ends)(σ:St):XK:=λv o H₁=>∃C e fI,v=.ref C/\o=some e/\XC K C fI/\PySem.W.mroIn K C (.ref S)=some true /\
 ∀T dx,H₁ e=none->H₁ T=none->T≠e->H₁ dx=some xdA->th D σ (up2 H₁ e T C dx)
def bE2 (K:bFC)(S:Addr)(tb:St->XK->TS)(th:TS):TS:=λD σ H=>tb σ (exN K S th D σ) D σ H
section
variable {X:Cx}{S:Addr}{x:Str}{np hpos pos:Pos}{body suite:List Stmt}{b₀:Stmt}{tb:St->XK->TS}{th:TS}
def aWe (V:X.stack=X.env::X.outer)(J:X.env.frame=some X.env.locals)
  (hg:Gl X x) (hm:X.mg x=some (.ref S)) (hS:XS X.K S) (hb:∀bFG σ₀ E,X.Ok->VSs (uV X bFG σ₀ E) body (tb σ₀ E)) (hh:∀e,VSs (pM X e) (b₀::suite) th) (W:(x == ("__debug__":Str))=false:=by decide) :
  VS X (.Try body [.ExceptHandler (some (.Name x np)) none (b₀::suite) hpos] [] [] pos) (bE2 X.K S tb th):=⟨by
 intro bFG s σ H D I h;refine wpAny_Try_except (bBE ((hb bFG σ (exN X.K S th D σ) I.ok).1 [] s σ H D I.aZq h) (λf Z j=>?_) λv Z j=>?_)
 ·cases f with
  |next=>obtain⟨a,d,b,q⟩:=j;exact bDK ⟨a,d,Inv.yL I.ok b,q⟩
  |brk=>obtain⟨a,d,b,q⟩:=j;exact⟨a,d,Inv.yL I.ok b,q⟩
  |cont=>obtain⟨a,d,b,q⟩:=j;exact⟨a,d,Inv.yL I.ok b,q⟩
  |ret u=>obtain⟨v,a,d,b,r,q⟩:=j;exact⟨v,a,d,Inv.yL I.ok b,r,q⟩
 ·obtain⟨e,T,k,C,G,rfl,O,F,Q,y,L,C',e',fI,N,Y,c,p,q⟩:=j;cases N;cases Y;refine zY O V J F Q y λn U B A g=>jK B g λM m=>?_;have o:Inv (pM X e) bFG σ (up2 G e n C k) M:=m.aH4;refine wpAny_handleBy_cons (codeAny_handlers_test ?_) (by intro q;cases q);refine mG o hg hm ?_ W;have P:up2 G e n C k e=some (aEc e n C k):=aL;obtain⟨vs,w,hz,R⟩:=(m.hok e _ P).1;refine aGe m.kIn hS w rfl p ?_;rw[if_pos rfl];refine codeAny_handlers_suite ?_;refine jK m g λt I3=>?_;refine bBE ((hh e).1 bFG t _ _ _ I3.aH4 (q n k F A g L)) (λf s4 l=>?_) λ_ _ z=>z.elim;cases f with
  |next=>obtain⟨a,d,b,i⟩:=l;exact⟨a,d,Inv.sJ I.ok b,i⟩
  |brk=>obtain⟨a,d,b,i⟩:=l;exact⟨a,d,Inv.sJ I.ok b,i⟩
  |cont=>obtain⟨a,d,b,i⟩:=l;exact⟨a,d,Inv.sJ I.ok b,i⟩
  |ret u=>obtain⟨v,a,d,b,r,i⟩:=l;exact⟨v,a,d,Inv.sJ I.ok b,r,i⟩⟩
end
end L2
namespace My
open PySem PySem.Spec PyProof.Rows L2
section
variable {P:Program}{w:World}{K:bFC}{mg:bFF}{base:Heap}
def aVb (K:bFC):Sp:=λvs H Q _=>∃q,vs=[.str (txt (wq q))]/\Wf q/\My.size q<=20/\∀v H',Same H H'->IsQ K H' v q->Q v H'
def aWg (h:IsQ K H v q)(c:My.size q<=20):∃t,bH K H v t/\Right t:=by obtain⟨t,b,a⟩:=bDi h;exact⟨t,b,_,a,c⟩
def zW (T:Txt w K mg)(k:OkC P w K mg base C 1 "Words" bQP (aLx C))(nR:Ok P w K mg base 36 "read_within" bQK (aOr K C 10))(g:OkM P w K mg base C 2 "need_end" n8 (aPh C))(i:OkX P w K mg base 8 "checked" m5 (tV K mg)):Ok P w K mg base 37 "read_question" bQC (aVb K):=by
 refine Ok.ofV T.aBx pD (by trivial) (λf W A u s H vs Q E p h=>?_)
 obtain⟨q,rfl,l,hz,qq⟩:=h;obtain⟨S,ad,mS,hS,D,_⟩:=T.aXm;obtain⟨⟨fI,fd,xc,F,B⟩,d,kp,c,M⟩:=D .ques;have V:=pD.nd;refine⟨_,(aA (aY 1 (aWz (k.mono (by decide)) p (by rfl) (va1 (vv 0)))) (aA (aY 2 (bU nR (aG (vv 1) (va1 aC)))) (aA (dG (cF (g.mono (by decide)) p (vv 1))) (aB (aWe rfl rfl (by rfl) d c (λU σ₀ E ok=>(aB (aJ (aF3 ok (i.mono (by decide)) p (by rfl) (va1 (vv 2)))))) (λe=>(aB jQ))))))),?_⟩;have a0:=aL1 l;refine⟨_,rfl,λx n j G Y=>?_⟩;have X:Same H (upd (upd H n (.own x)) x (.ins C n [])):=λb o e=>by rw[aV (bA e j),aV (bA e G)];exact e
 refine⟨H,x,n,_,rfl,aL,j,X,?_,λL H1 hL s1 O=>⟨rfl,?_⟩⟩
 ·have:sizeLine=2 ^ 24:=rfl;lia
 rw[aVo l] at O;have hj:=aYn l;refine⟨_,rfl,x,L,wq q,0,0,q,[],rfl,O,by rw[bEX,bAW],l,(λy z=>by cases z),by lia,by lia,λa m=>bAG (aHf l a m).2 (by decide),λv Z J N=>?_⟩;have s2:Same H Z:=λb o e=>J.but _ _ (λz=>by rw[z,j] at e;cases e) (s1 _ _ e);obtain⟨r,I⟩:=J.wd.at_;refine⟨_,rfl,x,r,_,rfl,I,rfl,x,L,wq q,_,rfl,J.wd,by rw[bDJ,List.drop_length],?_⟩;obtain⟨t,ht,hR⟩:=aWg N hz;exact⟨rfl,_,rfl,v,t,rfl,ht,λ_ H3 R=>qq v H3 (s2.trans R) (N.same R),λz=>absurd hR z⟩
def bA9 {X:Cx}{e:Expr}{es:List Expr}{t:TA}{o:Expr}{to:TE}{name:Str}{apos cpos:Pos}{T id:String}{r:V->List V->Hp->VK->Prop}(m:PlainAttrs T)(d:Slot T name id)(g:typeOf (.builtin id)=pure (.type "method_descriptor"))(l:MtR X id r)(j:VE X o to)(h:VA X (e::es) t)(k:X.K=K:=by rfl)
  (c:attributeBase o name X.env (eval o X.env)=eval o X.env:=by rfl)
  (f:((backTo cpos (starEach (e::es) X.env)).all (λx=>!x.1) && (backToKw cpos (keywordEach [] X.env)).all (λx=>x.1.isSome)
   && decide ((e::es).length+([]:List Keyword).length+(if ([]:List Keyword).isEmpty then 0 else 1)<30))=true:=by rfl)
  (b:(apos.endLine == cpos.line)=true:=by rfl) (i:eQ e=true:=by rfl) (a:(backTo cpos (starEach es X.env)).any (·.1)=false:=by rfl) :
  VE X (.Call (.Attribute o name apos) (e::es) [] cpos) (tBM K T r to t):=by subst k;exact fK m d g l j h c f b i a
def bL:Str.length " "=1:=by trivial
def iV (a:∀y∈ts,y.length<=B)(b:B<=40000)(h:ts.length<=100):JoinOk " " ts=true:=by refine aPn a ?_;rw[bL];have:ts.length * B<=100 * 40000:=Nat.mul_le_mul h b;lia
def aB2 (a:∀y∈ts,y.length<=B)(b:B<=40000)(h:ts.length<=100):JoinOk " and " ts=true:=by refine aPn a ?_;rw[show Str.length " and "=5 by trivial];have:ts.length * B<=100 * 40000:=Nat.mul_le_mul h b;lia
def aUi (K:bFC):Sp:=λvs H Q _=>∃v t,vs=[v]/\IsT K H v t/\∀H',Same H H'->Q (.str (txt (wT t))) H'
def aD7 (h:OkT t):∀y∈wT t,y.length<=61:=by
 obtain⟨c,b,a⟩:=h;intro y m;rcases List.mem_cons.mp m with rfl|m
 ·exact (dU c).2
 rcases List.mem_cons.mp m with rfl|m
 ·exact bAG (aY5 b).2 (by decide)
 rw[List.mem_singleton.mp m];exact (aSo a).2
def aH5 (h:OkP t):∀y∈wP t,y.length<=61:=by
 intro y m;rcases List.mem_cons.mp m with rfl|m
 ·exact (dU h.1).2
 rw[List.mem_singleton.mp m];exact (dU h.2).2
def aIx (h:OkK t):∀y∈wP t,y.length<=61:=by
 intro y m;rcases List.mem_cons.mp m with rfl|m
 ·exact (dU h.1).2
 rw[List.mem_singleton.mp m];rcases h.2 with e|e <;> rw[e] <;> decide +kernel
def aN3 (h:OkS t):∀y∈wS t,y.length<=61:=by
 obtain⟨b,f⟩:=h;intro y m;rcases f with⟨d,a⟩|⟨c,a,h3,h4⟩
 ·rw[show wS t=[t.wd,t.new] by unfold wS;rw[a],d] at m;rcases List.mem_cons.mp m with rfl|m
  ·decide +kernel
  rw[List.mem_singleton.mp m];exact (dU b).2
 ·rw[show wS t=[t.wd,c,t.new] by unfold wS;rw[a]] at m;rcases List.mem_cons.mp m with rfl|m
  ·rcases h4 with e|e|e <;> rw[e] <;> decide +kernel
  rcases List.mem_cons.mp m with rfl|m
  ·exact (dU h3).2
  rw[List.mem_singleton.mp m];exact (dU b).2
def oJ {x:Str}{l:List Str}(a:x.length<=61)(h:∀y∈l,y.length<=61):∀y∈x::l,y.length<=61:=by
 intro y m;rcases List.mem_cons.mp m with rfl|m
 ·exact a
 ·exact h y m
def aFa (T:Txt w K mg)(G:Ok P w K mg base 2 "shown_value" ["value"] zB):Ok P w K mg base 3 "shown_test" ["test"] (aUi K):=by
 refine Ok.ofV T.aG4 uX (by trivial) (λf L A m s H M Q E O h=>?_)
 obtain⟨v,t,rfl,y,q⟩:=h;have C:=y.ok;obtain⟨a,b,rfl,p,S,R,l⟩:=y;have I:=uX.nd;refine⟨_,(aA (aY 1 (bO (gC (K:=K)) (vv 0) aC)) (aB (aJ (fK PySem.F.plainAttrs_str PySem.F.slot_str_join PySem.F.type_str_join iZ aF (va1 (bM (aG (bO (gC (K:=K)) (vv 0) aC) (aG (bO bD (vv 0) aC) (va1 (jO (cT cJ (bO bD (vv 1) aC) aF) (bU G (va1 (bO bD (vv 1) aC))) (bO bD (vv 1) aC))))))))))),?_⟩;have e:∀D j,Same H j->j D=some (.lst ((wT t).map V.str))->rJoin K (.str " ") [.ref D] j Q:=λD j J g=>⟨_,D,wT t,rfl,rfl,SqL.of g,iV (B:=61) (aD7 C) (by decide) (by show 3<=100;decide),q j J⟩;refine⟨_,rfl,a,_,2,_,rfl,rfl,p,at2 _ _ _ _,rfl,?_⟩;refine⟨_,rfl,a,_,0,_,rfl,rfl,p,at0 _ _,_,rfl,a,_,1,_,rfl,rfl,p,at1 _ _ _,?_⟩;cases k:t.o with
 |val x=>rw[k] at l;obtain⟨c,rfl,i,N,z⟩:=l;refine⟨_,rfl,c,_,0,_,rfl,rfl,i,at0 _ _,rfl,_,rfl,bQ ?_⟩;refine⟨_,rfl,c,_,1,_,rfl,rfl,i,at1 _ _ _,x,rfl,z,(by show 3<=sizeLine;decide),λD n _ r u=>?_⟩;refine e D n r (by rw[u];show _=some (HO.lst [.str t.c,.str t.sg,.str (wO t.o)]);rw[k];rfl)
 |col d=>rw[k] at l;obtain⟨c,rfl,i,z⟩:=l;refine⟨_,rfl,c,_,0,_,rfl,rfl,i,at0 _ _,rfl,_,rfl,aZ ?_⟩;refine⟨_,rfl,c,_,1,_,rfl,rfl,i,at1 _ _ _,(by show 3<=sizeLine;decide),λD n _ r u=>?_⟩;refine e D n r (by rw[u];show _=some (HO.lst [.str t.c,.str t.sg,.str (wO t.o)]);rw[k];rfl)
def aTp (K:bFC):Sp:=λvs H Q _=>∃v t,vs=[v]/\lE K H v t/\∀H',Same H H'->Q (.str (txt ("with"::wS t))) H'
def aIa (T:Txt w K mg):Ok P w K mg base 1 "shown_sum" ["part"] (aTp K):=by
 refine Ok.ofV T.aLu aJa (by trivial) (λf m A j s H x Q E y h=>?_)
 obtain⟨v,t,rfl,d,q⟩:=h;have k:=aN3 d.ok;obtain⟨a,rfl,l,d⟩:=d;refine⟨_,(aA (bN (cT cJ (bO bD (vv 0) aC) aF) (aB (aJ (aW aP aF (bO (gC (K:=K)) (vv 0) aC)))) aU) (aB (aJ (fK PySem.F.plainAttrs_str PySem.F.slot_str_join PySem.F.type_str_join iZ aF (va1 (bM (aG aF (aG (bO bD (vv 0) aC) (aG (bO bD (vv 0) aC) (va1 (bO (gC (K:=K)) (vv 0) aC))))))))))),?_⟩;rcases d with⟨n,i,b⟩|⟨c,i,hc,h4,b⟩
 ·have g:wS t=[("count":Str),t.new]:=by unfold wS;rw[i,n]
  rw[g] at q;refine⟨_,rfl,a,_,0,_,rfl,rfl,b,at0 _ _,rfl,_,rfl,bQ ?_⟩;refine⟨_,rfl,a,_,2,_,rfl,rfl,b,at2 _ _ _ _,_,_,rfl,rfl,?_,?_⟩
  ·have:=fJ l;have e:Str.length "with count "=11:=by trivial
   show Str.length "with count "+t.new.length<=sizeLine;exact small (by lia)
  ·rw[cG,cG,fC] at q;have e:(("with count ":Str)++t.new) = "with"++" "++("count"++" "++t.new):=by rw[show ("with count ":Str) = "with"++" "++("count"++" ") by trivial];simp only[PySem.Str.append_assoc]
   show Q (.str (("with count ":Str)++t.new)) H;rw[e];exact q H (Same.refl H)
 ·have g:wS t=[t.wd,c,t.new]:=by unfold wS;rw[i]
  rw[g] at q k;have p:decide (V.str t.wd=V.str "count")=false:=j6 λz=>by have z:=V.str.inj z;rcases h4 with h4|h4|h4 <;> rw[h4] at z <;> exact absurd z (by trivial)
  refine⟨_,rfl,a,_,0,_,rfl,rfl,b,at0 _ _,rfl,_,rfl,?_⟩;rw[p];refine aZ ⟨rfl,_,rfl,a,_,0,_,rfl,rfl,b,at0 _ _,_,rfl,a,_,1,_,rfl,rfl,b,at1 _ _ _,_,rfl,a,_,2,_,rfl,rfl,b,at2 _ _ _ _,(by show 4<=sizeLine;decide),λD o _ r u=>?_⟩;exact⟨_,D,["with",t.wd,c,t.new],rfl,rfl,SqL.of u,iV (B:=61) (oJ (by trivial) k) (by decide) (by show 4<=100;decide),q o r⟩
def aVn (K:bFC):Sp:=λvs H Q _=>∃v t,vs=[v]/\nZ K H v t/\∀H',Same H H'->Q (.str (txt ("by"::wP t))) H'
def aIy (T:Txt w K mg):Ok P w K mg base 1 "shown_key" ["key"] (aVn K):=by
 refine Ok.ofV T.aJf aI4 (by trivial) (λf e A b s H n Q E m h=>?_)
 obtain⟨v,t,rfl,d,q⟩:=h;have i:=aIx d.ok;obtain⟨a,rfl,c,l,o⟩:=d;refine⟨_,(aB (aJ (fK PySem.F.plainAttrs_str PySem.F.slot_str_join PySem.F.type_str_join iZ aF (va1 (bM (aG aF (aG (bO (gC (K:=K)) (vv 0) aC) (va1 (bO bD (vv 0) aC))))))))),?_⟩;refine⟨rfl,_,rfl,a,_,0,_,rfl,rfl,c,at0 _ _,_,rfl,a,_,1,_,rfl,rfl,c,at1 _ _ _,(by show 3<=sizeLine;decide),λD g _ j k=>?_⟩;exact⟨_,D,["by",t.1,t.2],rfl,rfl,SqL.of k,iV (B:=61) (oJ (by trivial) i) (by decide) (by show 3<=100;decide),q g j⟩
def dp:Qn->Nat
 |.table _=>0
 |.whr q _=>dp q+1
 |.keep q _=>dp q+1
 |.nmd q _=>dp q+1
 |.join q r _=>max (dp q) (dp r)+1
 |.group q _ _=>dp q+1
 |.first q _ _=>dp q+1
def aP0 (h:Wf q):dp q+1<=My.size q:=by
 induction q with
 |table T=>exact j9 _
 |whr q ts ih=>have:=ih h.1;have:=h.2.1;simp only[dp,My.size];lia
 |keep q ns ih=>have:=ih h.1;simp only[dp,My.size];lia
 |nmd q ns ih=>have:=ih h.1;simp only[dp,My.size];lia
 |join q r ps ih ir=>have:=ih h.1;have:=ir h.2.1;simp only[dp,My.size];lia
 |group q ns ss ih=>have:=ih h.1;simp only[dp,My.size];lia
 |first q ks m ih=>have:=ih h.1;simp only[dp,My.size];lia
def IsQ.step (h:IsQ K H v q'):(∃a T,v=.ref a/\SqT K H a [.str "table",.str T]/\q'=.table T)\/∃a tag v1 rest q u,v=.ref a/\SqT K H a (.str tag::v1::rest)/\tag≠"table"/\IsQ K H v1 q/\Stp q q' u/\dp q<dp q'/\My.size q<=My.size q':=by
 cases h with
 |table a b=>exact .inl ⟨_,_,rfl,a,rfl⟩
 |whr a b _=>exact .inr ⟨_,_,_,_,_,_,rfl,a,by decide,b,.whr,by simp only[dp];lia,by simp only[My.size];lia⟩
 |keep a b _=>exact .inr ⟨_,_,_,_,_,_,rfl,a,by decide,b,.keep,by simp only[dp];lia,by simp only[My.size];lia⟩
 |nmd a b _=>exact .inr ⟨_,_,_,_,_,_,rfl,a,by decide,b,.nmd,by simp only[dp];lia,by simp only[My.size];lia⟩
 |join a b _ _=>exact .inr ⟨_,_,_,_,_,_,rfl,a,by decide,b,.join,by simp only[dp];lia,by simp only[My.size];lia⟩
 |group a b _ _=>exact .inr ⟨_,_,_,_,_,_,rfl,a,by decide,b,.group,by simp only[dp];lia,by simp only[My.size];lia⟩
 |first a b _ _=>exact .inr ⟨_,_,_,_,_,_,rfl,a,by decide,b,.first,by simp only[dp];lia,by simp only[My.size];lia⟩
def tL (h:Stp q q' u)(c:Wf q')(hz:My.size q'<=20):(txt u).length<=31000:=by have e:=aV3 h;have a:=jM λx m=>(aHf c x (by rw[e];exact bAO _ m)).2;have b:=aUj c;rw[e,j4] at b;lia
def jN (a:Wf q)(hz:My.size q<=20):(txt (wq q)).length<=31000:=by have:=aL1 a;lia
def yS {α:Type}{f:α->V}{as:List α}{i:Nat}{a:α}{y:V}(h:as[i]?=some a)(e:(as.map f)[i]?=some y):y=f a:=by rw[bAC,h] at e;exact (bAM e).symm
def aA8 {ps:List (Str × Str)}(g:1<=ps.length)(p3:ps.length<=3)(h:∀p∈ps,OkP p):(PySem.Txt.join " and " (ps.map λp=>txt (wP p))).length<=1000:=by
 have c:=aCa (aEh (λz=>by rw[z] at g;cases g)) (aP2 ps);rw[bAP] at c;have e:PySem.Txt.join " and " (ps.map λp=>txt (wP p))=txt (iU (ps.map wP)):=c;rw[e];have b:=aB6 (aMw ps);rw[d7] at b;have a:=jM (aB4 (by trivial) λl m t f=>by obtain⟨p,d,rfl⟩:=List.mem_map.mp m;exact aH5 (h p d) t f)
 lia
def aIe (K:bFC)(n:Nat):Sp:=λvs H Q _=>∃v q,vs=[v]/\IsQ K H v q/\My.size q<=20/\dp q<n/\∀H',Same H H'->Q (.str (txt (wq q))) H'
def aUh (K:bFC)(n:Nat):Sp:=λvs H Q _=>∃v q r ps,vs=[v]/\IsQ K H v (.join q r ps)/\My.size r<=20/\dp r<n/\∀H',Same H H'->Q (.str (txt ["join","(",txt (wq r),")","on",PySem.Txt.join " and " (ps.map λp=>txt (wP p))])) H'
def aOp (K:bFC)(n:Nat):Sp:=λvs H Q _=>∃v q q' u,vs=[v]/\IsQ K H v q'/\Stp q q' u/\My.size q'<=20/\dp q'<=n/\∀H',Same H H'->Q (.str (txt u)) H'
def aE1 {n:Nat}(T:Txt w K mg)(fM:Ok P w K mg base (4+3 * n) "shown_within" m8 (aIe K n)):Ok P w K mg base (5+3 * n) "shown_join" m8 (aUh K n):=by
 rw[show 5+3 * n=(4+3 * n)+1 by lia];refine Ok.ofV T.aJd uK (by trivial) (λf Z A k s H L Q E hr h=>?_)
 obtain⟨v,q,r,o,rfl,M,J,O,qq⟩:=h;have g:=M.wf;have Y:=uK.nd;refine⟨_,(aA (aY 1 (fK PySem.F.plainAttrs_str PySem.F.slot_str_join PySem.F.type_str_join iZ aF (va1 (cZ (N:=["pair"]) ck eV rfl (fX (bO bD (vv 0) aC)) (λcl s' t fp=>⟨(fZ 0),eZ,(bA9 (K:=K) PySem.F.plainAttrs_str PySem.F.slot_str_join PySem.F.type_str_join (aQ1 (K:=K)) aF (va1 (vv 0)))⟩))))) (aB (aJ (fK PySem.F.plainAttrs_str PySem.F.slot_str_join PySem.F.type_str_join iZ aF (va1 (bM (aG aF (aG aF (aG (dX (fM.mono (by lia)) hr (by rfl) (va1 (bO bD (vv 0) aC))) (aG aF (aG aF (va1 (vv 1))))))))))))),?_⟩;cases M with
 |@join a v1 _ u _ b _ ha h1 h2 h3=>
  obtain⟨⟨c,L,rfl,hc,G⟩,U,p3⟩:=h3;have lv:=G.len;dsimp only[kW,mO,vX,tBM,dO,tC];refine⟨rfl,?_⟩;refine nG L ((o.map λp=>txt (wP p)).map V.str) (by rw[d7,d7,lv]) [none] iM (small (by lia)) (λR r=>vV hc (λR' r'=>⟨_,rfl,a,_,3,_,rfl,rfl,ha,rfl,r'⟩) R r) (λi x y ex I t R l sm r=>?_) rfl λD H1 C hD=>?_
  ·obtain⟨p,W,pc,rfl,j,X⟩:=dH G ex;rw[bAP] at I;have e:=yS W I;subst e;exact⟨rfl,_,rfl,_,pc,wP p,rfl,rfl,sm.aQ j,iV (B:=61) (aH5 X) (by decide) (by show 2<=100;decide),r t (Same.refl t)⟩
  ·have hB:∀y∈o.map λp=>txt (wP p),y.length<=200:=λy m=>by obtain⟨p,mp,rfl⟩:=List.mem_map.mp m;have:=jM (aH5 (g.2.2.2.2 p mp));have e:(wP p).length=2:=rfl;lia
   refine⟨_,D,_,rfl,rfl,SqL.of hD,aB2 hB (by decide) (by rw[d7];lia),?_⟩;refine⟨rfl,_,rfl,a,_,2,_,rfl,rfl,C.aQ ha,at2 _ _ _ _,u,r,rfl,h2.same C,J,O,λH2 s2=>⟨_,rfl,(by show 6<=sizeLine;decide),λD2 H3 _ s3 S=>?_⟩⟩;refine⟨_,D2,["join","(",txt (wq r),")","on",PySem.Txt.join " and " (o.map λp=>txt (wP p))],rfl,rfl,SqL.of S,iV (B:=31000) (λy m=>?_) (by decide) (by show 6<=100;decide),qq H3 (C.trans (s2.trans s3))⟩;have hk:=aA8 U p3 g.2.2.2.2;have z:=jN g.2.1 J;simp only[bAJ,bAE,or_false] at m;have d:∀x:Str,x.length<=10->x.length<=31000:=λx h=>bAG h (by decide);rcases m with rfl|rfl|rfl|rfl|rfl|rfl
   ·exact d _ (by trivial)
   ·exact d _ (by trivial)
   ·exact z
   ·exact d _ (by trivial)
   ·exact d _ (by trivial)
   ·lia
def aEq {n:Nat}(T:Txt w K mg)(a8:Ok P w K mg base 3 "shown_test" ["test"] (aUi K))(a9:Ok P w K mg base 1 "shown_sum" ["part"] (aTp K))(aa:Ok P w K mg base 1 "shown_key" ["key"] (aVn K))(ab:Ok P w K mg base (5+3 * n) "shown_join" m8 (aUh K n)):Ok P w K mg base (6+3 * n) "shown_step" m8 (aOp K n):=by
 rw[show 6+3 * n=(5+3 * n)+1 by lia];refine Ok.ofV T.aIc uU (by trivial) (λf a6 A a4 s H M Q E hr h=>?_)
 obtain⟨v,q,q',u,rfl,S,hs,hz,hn,C⟩:=h;have J:=S.wf;have a7:=tL hs J hz;have a1:=S;have a5:=uU.nd;refine⟨_,(aA (aY 1 (bO bD (vv 0) aC)) (aA (bN (cT cJ (vv 1) aF) (aB (aJ (aW aP aF (fK PySem.F.plainAttrs_str PySem.F.slot_str_join PySem.F.type_str_join iZ aF (va1 (cZ (N:=["test"]) ck eV rfl (fX (bO bD (vv 0) aC)) (λcl s' H' fp=>⟨(fZ 0),eZ,(dX (a8.mono (by lia)) hr (by rfl) (va1 (vv 0)))⟩))))))) aU) (aA (bN (cT cJ (vv 1) aF) (aB (aJ (dX (ab.mono (by lia)) hr (by rfl) (va1 (vv 0))))) aU) (aA (bN (cT cJ (vv 1) aF) (aB (aJ (fK PySem.F.plainAttrs_str PySem.F.slot_str_join PySem.F.type_str_join iZ aF (va1 (aW gW (aW gW (bM (va1 aF)) (bG pU (by rfl) T.aDa xG (va1 (bO bD (vv 0) aC)))) (cZ (N:=["part"]) ck eV rfl (fX (bO bD (vv 0) aC)) (λcl s' H' fp=>⟨(fZ 0),eZ,(dX (a9.mono (by lia)) hr (by rfl) (va1 (vv 0)))⟩))))))) aU) (aA (bN (cT cJ (vv 1) aF) (aB (aJ (fK PySem.F.plainAttrs_str PySem.F.slot_str_join PySem.F.type_str_join iZ aF (va1 (aW gW (bM (aG aF (va1 (bG kO (by rfl) T.qU kI (va1 (bO bD (vv 0) aC)))))) (cZ (N:=["key"]) ck eV rfl (fX (bO bD (vv 0) aC)) (λcl s' H' fp=>⟨(fZ 0),eZ,(dX (aa.mono (by lia)) hr (by rfl) (va1 (vv 0)))⟩))))))) aU) (aB (aJ (fK PySem.F.plainAttrs_str PySem.F.slot_str_join PySem.F.type_str_join iZ aF (va1 (aW gW (bM (va1 (vv 1))) (bG pU (by rfl) T.aDa xG (va1 (bO bD (vv 0) aC))))))))))))),?_⟩;cases hs with
 |@whr ts=>
  cases S with
  |@whr a v1 _ b _ d h1 h3=>
   obtain⟨⟨c,M,rfl,X,G⟩,p1,p3⟩:=h3;have lv:=G.len;refine⟨_,rfl,a,_,0,_,rfl,rfl,d,at0 _ _,?_⟩;refine⟨_,rfl,rfl,_,rfl,bQ ?_⟩;dsimp only[kW,mO,vX,tBM,dO,tC,tOp];refine⟨rfl,?_⟩;refine nG M ((ts.map λt=>txt (wT t)).map V.str) (by rw[d7,d7,lv]) [none] iM (small (by lia)) (λR r=>vV X (λR' r'=>⟨_,rfl,a,_,2,_,rfl,rfl,d,rfl,r'⟩) R r) (λi x y ex I H' R l sm r=>?_) rfl λD O g hD=>?_
   ·obtain⟨t,ht,hT⟩:=dH G ex;rw[bAP] at I;have e:=yS ht I;subst e;exact⟨_,rfl,x,t,rfl,hT.same sm,λL j=>r L j⟩
   ·have hB:∀y∈ts.map λt=>txt (wT t),y.length<=200:=λy m=>by obtain⟨p,mp,rfl⟩:=List.mem_map.mp m;have:=jM (aD7 (J.2.2.2 p mp));have e:(wT p).length=3:=rfl;lia
    have e1:("where ":Str) = "where"++" ":=by trivial
    have e2:(("where ":Str)++PySem.Txt.join " and " (ts.map λt=>txt (wT t)))=txt (("where":Str)::iU (ts.map wT)):=by rw[e1];exact (aAn (λz=>by rw[z] at p1;cases p1)).symm
    refine⟨_,D,_,rfl,rfl,SqL.of hD,aB2 hB (by decide) (by rw[d7];lia),_,_,rfl,rfl,?_,?_⟩
    ·have e3:=congrArg Str.length e2;rw[aM] at e3;have:sizeLine=2 ^ 24:=rfl;lia
    ·show Q (.str (("where ":Str)++PySem.Txt.join " and " (ts.map λt=>txt (wT t)))) O;rw[e2];exact C O g
 |@keep ns=>
  cases S with
  |@keep a v1 _ b _ d h1 h3=>
   obtain⟨⟨c,M,rfl,X,G⟩,p1,p3⟩:=h3;have ev:=sZ G;subst ev;refine⟨_,rfl,a,_,0,_,rfl,rfl,d,at0 _ _,?_⟩;refine⟨_,rfl,rfl,_,rfl,aZ ⟨_,rfl,rfl,_,rfl,aZ ⟨_,rfl,rfl,_,rfl,aZ ⟨_,rfl,rfl,_,rfl,aZ ?_⟩⟩⟩⟩;refine⟨rfl,_,rfl,(by show 1<=sizeLine;decide),λU O _ g Y=>?_⟩;refine⟨_,rfl,a,_,2,_,rfl,rfl,g.aQ d,at2 _ _ _ _,c,_,rfl,.inr (g.aQ X),λD2 L _ j g2=>?_⟩;refine⟨U,D2,_,_,rfl,rfl,j _ _ Y,g2,?_,λD3 H3 _ s3 g3=>?_⟩
   ·rw[d7];show 1+ns.length<=sizeLine;exact small (by lia)
   ·refine⟨_,D3,(("keep":Str)::ns),rfl,rfl,SqL.of g3,iV (B:=61) (oJ (by trivial) λy m=>(dU (J.2.2.2 y m)).2) (by decide) (by rw[d9];lia),C H3 (g.trans (j.trans s3))⟩
 |@nmd ns=>
  cases S with
  |@nmd a v1 _ b _ d h1 h3=>
   obtain⟨⟨c,M,rfl,X,G⟩,p1,p3⟩:=h3;have ev:=sZ G;subst ev;refine⟨_,rfl,a,_,0,_,rfl,rfl,d,at0 _ _,?_⟩;refine⟨_,rfl,rfl,_,rfl,aZ ⟨_,rfl,rfl,_,rfl,aZ ⟨_,rfl,rfl,_,rfl,aZ ⟨_,rfl,rfl,_,rfl,aZ ?_⟩⟩⟩⟩;refine⟨rfl,_,rfl,(by show 1<=sizeLine;decide),λU O _ g Y=>?_⟩;refine⟨_,rfl,a,_,2,_,rfl,rfl,g.aQ d,at2 _ _ _ _,c,_,rfl,.inr (g.aQ X),λD2 L _ j g2=>?_⟩;refine⟨U,D2,_,_,rfl,rfl,j _ _ Y,g2,?_,λD3 H3 _ s3 g3=>?_⟩
   ·rw[d7];show 1+ns.length<=sizeLine;exact small (by lia)
   ·refine⟨_,D3,(("named":Str)::ns),rfl,rfl,SqL.of g3,iV (B:=61) (oJ (by trivial) λy m=>(dU (J.2.2.2 y m)).2) (by decide) (by rw[d9];lia),C H3 (g.trans (j.trans s3))⟩
 |@join r ps=>
  have d:∃a M,v=.ref a/\SqT K H a (.str "join"::M):=by
   cases S with
   |join d _ _ _=>exact⟨_,_,rfl,d⟩
  obtain⟨a,M,rfl,d⟩:=d;refine⟨_,rfl,a,_,0,_,rfl,rfl,d,at0 _ _,?_⟩;simp only[dp,My.size] at hn hz;rw[aF1 (λz=>by have:=J.2.2.1;rw[z] at this;cases this)] at C;exact⟨_,rfl,rfl,_,rfl,aZ ⟨_,rfl,rfl,_,rfl,bQ ⟨_,rfl,_,q,r,ps,rfl,a1,by lia,by lia,λO g=>C O g⟩⟩⟩
 |@group ns ss=>
  cases S with
  |@group a v1 _ b _ b2 _ d h1 h3 h4=>
   obtain⟨⟨c,M,rfl,X,G⟩,p1,p3⟩:=h3;obtain⟨⟨c2,Z,rfl,W,k⟩,a2,a3⟩:=h4;have ev:=sZ G;subst ev;have lv:=k.len;refine⟨_,rfl,a,_,0,_,rfl,rfl,d,at0 _ _,?_⟩;refine⟨_,rfl,rfl,_,rfl,aZ ⟨_,rfl,rfl,_,rfl,aZ ⟨_,rfl,rfl,_,rfl,bQ ?_⟩⟩⟩;refine⟨rfl,(by show 1<=sizeLine;decide),λU O _ g Y=>?_⟩;refine⟨_,rfl,a,_,2,_,rfl,rfl,g.aQ d,at2 _ _ _ _,c,_,rfl,.inr (g.aQ X),λD2 L _ j g2=>?_⟩;refine⟨U,D2,_,_,rfl,rfl,j _ _ Y,g2,?_,λD3 H3 _ s3 g3=>?_⟩
   ·rw[d7];show 1+ns.length<=sizeLine;exact small (by lia)
   have o:=g.trans (j.trans s3);dsimp only[kW,mO,vX,tBM,dO,tC,tOp];refine nG Z ((ss.map λt=>txt ("with"::wS t)).map V.str) (by rw[d7,d7,lv]) [none] iM (small (by lia)) (λR r=>vV (o.aQ W) (λR' r'=>⟨_,rfl,a,_,3,_,rfl,rfl,o.aQ d,rfl,r'⟩) R r) (λi x y ex I H' R l sm r=>?_) rfl λD H4 s4 hD=>?_
   ·obtain⟨t,ht,hT⟩:=dH k ex;rw[bAP] at I;have e:=yS ht I;subst e;exact⟨_,rfl,x,t,rfl,hT.same (o.trans sm),λL j=>r L j⟩
   ·refine⟨D3,D,_,_,rfl,rfl,s4 _ _ g3,hD,?_,λD5 H5 _ s5 g5=>?_⟩
    ·rw[d7,d7,j4,d7];show 1+ns.length+ss.length<=sizeLine;exact small (by lia)
    have hB:∀y∈(("group":Str)::(ns++ss.map λt=>txt ("with"::wS t))),y.length<=300:=λy m=>by
     rcases List.mem_cons.mp m with rfl|m
     ·decide +kernel
     rcases List.mem_append.mp m with m|m
     ·have:=(dU (J.2.2.1 y m)).2;lia
     ·obtain⟨p,mp,rfl⟩:=List.mem_map.mp m;have:=jM (oJ (x:="with") (by trivial) (aN3 (J.2.2.2.2 p mp)));have e:=aUb ss _ (List.mem_map.mpr ⟨p,mp,rfl⟩);rw[d9] at this;lia
    rw[aLy "group" ns "with" (ss.map wS),bAP] at C;refine⟨_,D5,(("group":Str)::(ns++ss.map λt=>txt ("with"::wS t))),rfl,rfl,SqL.of (by rw[g5];simp only[bAB,bAY,bBD,bDM,bAD]),iV hB (by decide) (by rw[d9,j4,d7];lia),C H5 (o.trans (s4.trans s5))⟩
 |@first ks m=>
  cases S with
  |@first a v1 _ b _ _ d h1 h3 h4=>
   obtain⟨⟨c2,Z,rfl,W,k⟩,a2,a3⟩:=h3;have lv:=k.len;refine⟨_,rfl,a,_,0,_,rfl,rfl,d,at0 _ _,?_⟩;refine⟨_,rfl,rfl,_,rfl,aZ ⟨_,rfl,rfl,_,rfl,aZ ⟨_,rfl,rfl,_,rfl,aZ ⟨_,rfl,rfl,_,rfl,bQ ?_⟩⟩⟩⟩;have a0:((m:Int)).natAbs<10 ^ 60:=by rw[bEF];exact bCQ h4 (by decide)
   refine⟨rfl,_,rfl,a,_,3,_,rfl,rfl,d,rfl,_,rfl,aHv a0,(by show 2<=sizeLine;decide),λU O _ g Y=>?_⟩;dsimp only[kW,mO,vX,tBM,dO,tC,tOp];refine nG Z ((ks.map λt=>txt ("by"::wP t)).map V.str) (by rw[d7,d7,lv]) [none] iM (small (by lia)) (λR r=>vV (g.aQ W) (λR' r'=>⟨_,rfl,a,_,2,_,rfl,rfl,g.aQ d,rfl,r'⟩) R r) (λi x y ex I H' R l sm r=>?_) rfl λD H4 s4 hD=>?_
   ·obtain⟨t,ht,hT⟩:=dH k ex;rw[bAP] at I;have e:=yS ht I;subst e;exact⟨_,rfl,x,t,rfl,hT.same (g.trans sm),λL j=>r L j⟩
   ·refine⟨U,D,_,_,rfl,rfl,s4 _ _ Y,hD,?_,λD5 H5 _ s5 g5=>?_⟩
    ·rw[d7,d7];show 2+ks.length<=sizeLine;exact small (by lia)
    have hB:∀y∈(("first":Str)::([shw (.int m)]++ks.map λt=>txt ("by"::wP t))),y.length<=300:=λy mm=>by
     rcases List.mem_cons.mp mm with rfl|mm
     ·decide +kernel
     rcases List.mem_append.mp mm with mm|mm
     ·rw[List.mem_singleton.mp mm];have:=(aHj (aGs h4)).2;lia
     ·obtain⟨p,mp,rfl⟩:=List.mem_map.mp mm;have:=jM (oJ (x:="by") (by trivial) (aIx (J.2.2.1 p mp)));rw[d9,show (wP p).length=2 from rfl] at this;lia
    rw[show (("first":Str)::shw (.int m)::cM "by" (ks.map wP))=("first":Str)::([shw (.int m)]++cM "by" (ks.map wP)) from rfl,aLy "first" [shw (.int m)] "by" (ks.map wP),bAP] at C;refine⟨_,D5,(("first":Str)::([shw (.int m)]++ks.map λt=>txt ("by"::wP t))),rfl,rfl,SqL.of (by rw[g5];simp only[bAB,bAY,bBD,bDM,bAD];rfl),iV hB (by decide) (by rw[d9,j4,d7,bBA];lia),C H5 (g.trans (s4.trans s5))⟩
theorem qY (T:Txt w K mg)(J:∀n,Ok P w K mg base (4+3 * n) "shown_within" m8 (aIe K n)->Ok P w K mg base (6+3 * n) "shown_step" m8 (aOp K n)) :
  ∀n:Nat,Ok P w K mg base (4+3 * n) "shown_within" m8 (aIe K n)
 |0=>by
  refine Ok.ofV T.rZ qT (λd H Q E h=>?_) (λf e A b s H d Q E g h=>?_)
  ·obtain⟨v,q,rfl,_⟩:=h;rfl
  ·obtain⟨v,q,rfl,_,_,r,_⟩:=h;lia
 |n+1=>by
  have m:=qY T J n;have i:=J n m;rw[show 4+3 * (n+1)=(6+3 * n)+1 by lia];refine Ok.ofV T.rZ qT (λd H Q E h=>?_) (λf e A b s H d Q E g h=>?_)
  ·obtain⟨v,q,rfl,_⟩:=h;rfl
  obtain⟨v,x,rfl,j,k,r,l⟩:=h;refine⟨_,(aA (bN (cT cJ (bO bD (vv 0) aC) aF) (aB (aJ (bO bD (vv 0) aC))) aU) (aB (aJ (aW aP (aW aP (dX (m.mono (by lia)) g (by rfl) (va1 (bO bD (vv 0) aC))) aF) (dX (i.mono (by lia)) g (by rfl) (va1 (vv 0))))))),?_⟩;have y:=j.wf;rcases j.step with⟨a,o,rfl,c,rfl⟩|⟨a,tag,v1,rest,q,u,rfl,c,nt,h1,hs,hd,hz'⟩
  ·refine⟨_,rfl,a,_,0,_,rfl,rfl,c,at0 _ _,rfl,_,rfl,bQ ?_⟩;refine⟨_,rfl,a,_,1,_,rfl,rfl,c,at1 _ _ _,?_⟩;have:=l H (Same.refl H);rw[show wq (.table o)=[o] from rfl,fC] at this;exact this
  ·refine⟨_,rfl,a,_,0,_,rfl,rfl,c,at0 _ _,rfl,_,rfl,?_⟩;rw[j6 (show ¬ V.str tag=V.str "table" from λz=>nt (V.str.inj z))];have C:=jN h1.wf (by lia);have G:=tL hs y k;have D:sizeLine=2 ^ 24:=rfl;refine aZ ⟨_,rfl,a,_,1,_,rfl,rfl,c,at1 _ _ _,v1,q,rfl,h1,by lia,by lia,λF p=>⟨_,_,rfl,rfl,?_,?_⟩⟩
   ·rw[bL];lia
   ·refine⟨_,rfl,_,q,x,u,rfl,j.same p,hs,k,by lia,λB t=>⟨_,_,rfl,rfl,?_,?_⟩⟩
    ·rw[aM,bL];lia
    ·rw[<-aHs hs];exact l B (p.trans t)
def aI1 (K:bFC)(mg:bFF):Sp:=λvs H Q E=>∃v,vs=[v]/\((∃t,bH K H v t/\¬ Right t/\Rf mg .ques H E)\/∃q,IsQ K H v q/\My.size q<=20/\∀H',Same H H'->Q (.str (txt (wq q))) H')
def zF (T:Txt w K mg)(r:Ok P w K mg base 64 "shown_within" m8 (aIe K 20))(a:OkX P w K mg base 8 "checked" m5 (tV K mg)):OkX P w K mg base 65 "shown_question" m8 (aI1 K mg):=by
 refine OkX.ofV T.aAm xT (by trivial) (λf d A b s H u Q E g h=>?_)
 obtain⟨v,rfl,h⟩:=h;refine⟨_,(aB (aJ (bU r (va1 (aS2 (a.mono (by decide)) g aZv (by rfl) (va1 (vv 0))))))),?_⟩;rcases h with⟨t,k,n,q⟩|⟨q,hq,hz,qq⟩
 ·exact⟨_,rfl,v,t,rfl,k,λz=>absurd z n,λ_=>q⟩
 ·obtain⟨t,m,l⟩:=bDi hq;have e:Right t:=⟨_,l,hz⟩;have p:=aP0 hq.wf;exact⟨_,rfl,v,t,rfl,m,λ_ o c=>⟨v,q,rfl,hq.same c,hz,by lia,λj i=>qq j (c.trans i)⟩,λz=>absurd e z⟩
theorem aTd {α:Type}(l:List α):∀n,(List.range n).filterMap (λi=>l[i]?)=l.take n
 |0=>by simp
 |n+1=>by
  rw[bDN,List.filterMap_append,aTd l n,bBM];cases e:l[n]? with
  |none=>simp[e]
  |some x=>simp[e]
def aR8 (b:bY (IsC K H) us hd)(h:jZ (λi y=>us[i]?=some y) is ys):bY (IsC K H) ys (is.filterMap λi=>hd[i]?):=by
 induction h with
 |nil=>exact .nil
 |@cons i y is ys r _ ih=>obtain⟨c,a,q⟩:=dH b r;rw[bCZ,a];exact .cons q ih
def aSl {α β:Type}{R:α->β->Prop}{as:List α}{bs:List β}(h:bY R as bs):bY R as.reverse bs.reverse:=by
 induction h with
 |nil=>exact .nil
 |cons r _ ih=>rw[bEG,bEG];exact ih.app (.cons r .nil)
def aAu {α β:Type}{R:α->β->Prop}{as:List α}{bs:List β}(h:bY R as bs):∀n,bY R (as.take n) (bs.take n):=by
 induction h with
 |nil=>intro n;rw[List.take_nil,List.take_nil];exact .nil
 |cons r _ ih=>
  intro n;cases n with
  |zero=>exact .nil
  |succ n=>exact .cons r (ih n)
def aCv (hd' hd:Hdr):Prop:=(∀c∈hd',c∈hd)/\(hd'.map (·.1)).Nodup/\hd'.length<=hd.length
def aKi (h:hd'.Sublist hd)(b:(hd.map (·.1)).Nodup):aCv hd' hd:=⟨λc a=>h.subset a,b.sublist (h.map _),h.length_le⟩
def aCv.rev (h:aCv hd' hd):aCv hd'.reverse hd:=⟨λc a=>h.1 c (List.mem_reverse.mp a),by rw[List.map_reverse];exact List.pairwise_reverse.mpr (h.2.1.imp λq=>Ne.symm q),by rw[bBZ];exact h.2.2⟩
def aCv.take (h:aCv hd' hd)(n:Nat):aCv (hd'.take n) hd:=⟨λc a=>h.1 c (bBX a),h.2.1.sublist ((bCY n hd').map _),by have:=h.2.2;rw[bAV];lia⟩
inductive aB8 (K:bFC)(vs:List V)(H:Hp)(Q:VK)(E_:XK):Prop
 |mk (a:Addr) (vh:V) (hd:Hdr) (n:Nat) (_:vs=[.ref a,vh,.int (n:Nat)]) (_:jV H a) (_:jW K H vh hd) (_:Good hd) (_:n<=1) (_:∀D H' us hd',Fx a H H'->H D=none->H' D=some (.lst us)->bY (IsC K H') us hd'->aCv hd' hd->n<=hd'.length->Q (.ref D) H')
def aIr (T:Txt w K mg)(aO:Ok P w K mg base 1 "_law_next" m7 gO):Ok P w K mg base 2 "_law_some" o6 (aB8 K):=by
 refine Ok.ofV T.aJ4 qL (by trivial) (λf ad A a8 s H vs Q E hr h=>?_)
 obtain⟨a,vh,O,n,rfl,o,⟨b,S,rfl,Y,hu⟩,⟨nd,l1,l8⟩,hn,q⟩:=h;have ac:=qL.nd;refine⟨_,(aA (wZ (i0:=3) qL.nd rfl (by trivial) (N:=["_law_column","_law_state"]) ck (jJ (aD rJ)) rfl (fX (vv 1)) (λcl X m fp=>⟨(fZ 0),(aAp (cT cJ (bU aO (aG (vv 1) (va1 aC))) aC)),(vv 0)⟩)) (aA (bN (cT aU0 (aR bB (by rfl) T.eN cR (va1 (vv 3))) (vv 2)) (aB (aY 3 (bM (va1 (bO bD (vv 1) (bU aO (aG (vv 0) (va1 (aR bB (by rfl) T.eN cR (va1 (vv 1))))))))))) aU) (aA (bN (cT cJ (bU aO (aG (vv 0) (va1 aC))) aC) (aB (dG (aN6 PySem.F.plainAttrs_list PySem.F.slot_list_reverse PySem.F.type_list_reverse aBm (vv 3)))) aU) (aB (aJ (vv 3)))))),?_⟩;have lu:=hu.len;have a1:∀D m G g,Fx a H m->H D=none->m D=some (.lst G)->bY (IsC K m) G g->aCv g O->n<=g.length->∀v,Fx a m v->Q (.ref D) v/\Q (.ref D) (upd v D (.lst G.reverse)):=by intro D m G g fx hD gD hz j a0 v z;have a3:D≠a:=o.ne hD;have g2:=z.same _ _ a3 gD;have a2:bY (IsC K v) G g:=hz.imp λ_ _ h=>h.tk (z.tk fx.st);refine⟨q D v G g (fx.trans z) hD g2 a2 j a0,q D _ G.reverse g.reverse ((fx.trans z).upd hD a3) hD aL ?_ j.rev (by rw[bBZ];exact a0)⟩;exact aSl (a2.imp λ_ _ h=>h.tk λ_ _ e=>e.aC3 g2)
 dsimp only[kW,rC];refine sS [none,some (.ref a)] ?_ ⟨_,rfl,b,rfl,⟨_,Y⟩,bDo (Fx a) (aY0 o) S (λi _ y=>S[i]?=some y) (λ_ _ h=>h) (λ_ _ _ h=>h) (λi σ=>∃x,S[i]?=some x/\At1 [none,some (.ref a)] x σ) (Ps1 [none,some (.ref a)]) ⟨none,rfl⟩ (small (by lia)) _ (aDo λm f'=>f'.aQ o Y) (rF λm f'=>f'.aQ o Y) (λi x σ' m Q' ex a7 X qq=>hg1 (i:=i) a7 fun σ2 h1 h2=>qq σ2 h1 ⟨x,ex,h2⟩) (λi x σ2 ex hA m R X r=>?_) (λi x σ2 ex hA m R X r=>?_) λD H1 ys M fD g1 B=>?_⟩
 ·exact tG 0 (by trivial) rfl rfl (by trivial)
 ·obtain⟨x',_,l,rfl⟩:=hA;exact⟨_,rfl,a,2,rfl,X.st,by decide,λd v z _ _=>⟨rfl,_,rfl,r _ _ z⟩⟩
 ·obtain⟨x',W,l,rfl⟩:=hA;rw[ex] at W;cases W;exact⟨_,rfl,r _ _ (.refl X.st) ex⟩
 obtain⟨is,j,B⟩:=B;have a6:bY (IsC K H1) S O:=hu.imp λ_ _ h=>h.tk (M.tk o);have t:=aR8 a6 B;have C:aCv (is.filterMap λi=>O[i]?) O:=by refine aKi ?_ nd;have:=j.filterMap (λi=>O[i]?);rw[aTd,lu,bBP] at this;exact this
 have ab:=t.len;dsimp only[cI];refine⟨_,rfl,D,_,rfl,.inl (SqL.of g1),_,rfl,_,_,rfl,rfl,_,rfl,pQ (λc=>?_) (λc=>?_)⟩
 ·refine⟨_,rfl,_,rfl,_,rfl,_,_,rfl,.inr (M.aQ o Y),a,_,rfl,M.st,(by show (0:Int)<(S.length:Int);lia),λd v z d0 d1=>?_⟩;obtain⟨u,a9,hm⟩:=at_of (xs:=S) d0 d1;obtain⟨cc,aa,a5⟩:=hu.mem hm;have I:=M.trans z;refine⟨b,_,_,u,rfl,rfl,I.aQ o Y,a9,(by show 1<=sizeLine;decide),λp H3 fp s3 g3=>?_⟩;have J:=I.sm s3;have U:H p=none:=I.free fp;have k:=a1 p H3 [u] [cc] J U g3 (.cons (a5.tk (J.tk o)) .nil) ⟨λc' a4=>by rw[List.mem_singleton.mp a4];exact aa,by simp,by show 1<=O.length;exact l1⟩ (by show n<=1;exact hn);refine⟨_,rfl,a,2,rfl,J.st,by decide,λe V L _ _=>⟨rfl,_,rfl,?_⟩⟩;refine pQ (λ_=>?_) (λ_=>⟨_,rfl,(k V L).1⟩);have Z:=L.same _ _ (o.ne U) g3;exact⟨_,rfl,.inl ⟨rfl,_,SqL.of Z⟩,p,_,rfl,rfl,Z,_,rfl,(k V L).2⟩
 ·have c':¬ (ys.length:Int)<(n:Int):=of_decide_eq_false (Bool.eq_false_iff.mpr c);have k:=a1 D H1 ys _ M fD g1 t C (by lia);refine⟨_,rfl,a,2,rfl,M.st,by decide,λe V L _ _=>⟨rfl,_,rfl,?_⟩⟩;refine pQ (λ_=>?_) (λ_=>⟨_,rfl,(k V L).1⟩);have Z:=L.same _ _ (o.ne fD) g1;exact⟨_,rfl,.inl ⟨rfl,_,SqL.of Z⟩,D,_,rfl,rfl,Z,_,rfl,(k V L).2⟩
def yR {hd hd':Hdr}(b:(hd.map (·.1)).Nodup)(h:∀c∈hd',c∈hd):Looks hd (hd'.map (·.1)) (hd'.map (·.2)):=by
 induction hd' with
 |nil=>exact .nil
 |cons c r ih=>exact .cons (oU b (h c (j5 ..))) (ih λx a=>h x (j7 _ a))
inductive aK8 (K:bFC)(vs:List V)(H:Hp)(Q:VK)(E_:XK):Prop
 |mk (a:Addr) (vh:V) (hd:Hdr) (_:vs=[.ref a,vh]) (_:jV H a) (_:jW K H vh hd) (_:wJ hd) (_:∀v H' ps ks,Fx a H H'->lD nZ 0 3 K H' v ps->Looks hd (ps.map (·.1)) ks->(ps.map (·.1)).Nodup->Q v H')
theorem oX {α:Type}:∀(k:Nat) (xs:List α),sel (λ_=>true) k xs=xs
 |_,[]=>rfl
 |k,x::r=>by show (if true=true then x::sel (λ_=>true) (k+1) r else _)=_;rw[if_pos rfl,oX (k+1) r]
def lL (h:jZ R (List.range n) ys):ys.length=n/\∀i y,ys[i]?=some y->R i y:=by
 have d:∀{b:List Nat} {ys:List V},jZ R b ys->∀(i:Nat) (y:V),ys[i]?=some y->∃j,b[i]?=some j/\R j y:=by
  intro b ys h
  induction h with
  |nil=>intro i y e;simp at e
  |cons r _ ih=>
   intro i y e;cases i with
   |zero=>cases e;exact⟨_,rfl,r⟩
   |succ i=>obtain⟨j,a,c⟩:=ih i y (by simpa using e);exact⟨j,by simpa using a,c⟩
 have l:=h.len;rw[bAH] at l;refine⟨l.symm,λi y e=>?_⟩;obtain⟨j,a,c⟩:=d h i y e;have f:i<n:=by have:=(List.getElem?_eq_some_iff.mp e).1;lia
 rw[bCA f] at a;cases a;exact c
def aJb (T:Txt w K mg)(aO:Ok P w K mg base 1 "_law_next" m7 gO)(iQ:Ok P w K mg base 2 "_law_some" o6 (aB8 K)):Ok P w K mg base 3 "_law_keys" o7 (aK8 K):=by
 refine Ok.ofV T.aKr wN (by trivial) (λf aa A a6 s H vs Q E hr h=>?_)
 obtain⟨a,vh,hd,rfl,hs,hh,⟨hg,hc⟩,q⟩:=h;have a9:=wN.nd;refine⟨_,(aA (aY 2 (dI oN (bU iQ (aG (vv 0) (aG (vv 1) (va1 aC)))) iC (cY aC))) (aB (aJ (bG cC (by rfl) T.cO cB (va1 (cZ (N:=["_law_name","_law_kind","_law_state"]) ck (jJ (aD sU)) rfl (mQ (vv 2)) (λcl F Z fp=>⟨(lF (K:=K) (n:=2) rfl (aX (fZ 0) (aX (fZ 1) dF))),eZ,(aK (aG (vv 0) (va1 (bO (xK (K:=K)) (bM (aG aF (va1 aF))) (bU aO (aG (vv 2) (va1 aC)))))))⟩))))))),?_⟩;refine⟨_,rfl,_,rfl,a,vh,hd,0,rfl,hs,hh,hg,by decide,λD H1 us J f1 fD g1 hu a0 _=>?_⟩;refine⟨_,rfl,D,_,rfl,SqL.of g1,λp H2 fp s2 M=>?_⟩;rw[show (3:Int)=((3:Nat):Int) from rfl,aB5] at M;have I:=f1.sm s2;have C:bY (IsC K H2) (us.take 3) (J.take 3):=aAu (hu.imp λ_ _ h=>h.same s2) 3;have b:=a0.take 3;have a2:H p=none:=f1.free fp;have X:p≠a:=hs.ne a2;generalize us.take 3=zs at M C;have l3:(J.take 3).length<=3:=by rw[bAV];lia
 generalize J.take 3=j at C b l3;have lz:=C.len;dsimp only[cI,vX,tCB,dO];refine wR [none,none,some (.ref a)] ?_ ⟨_,rfl,p,rfl,⟨_,SqL.of M⟩,aA4 (Fx a) (aY0 I.st) zs (λ_=>true) (λi H y=>∃c g t,j[i]?=some c/\y=.ref t/\SqT K H t [.str c.1,.str g]/\(g = "up"\/g = "down")) (λe1 e2 h=>?_) (λ_ _ e h=>?_) (λi σ=>∃c,j[i]?=some c/\At2 [none,none,some (.ref a)] (.str c.1) (.str c.2) σ) (Ps2 [none,none,some (.ref a)]) ⟨none,none,rfl⟩ (small (by lia)) _ (aCc λZ f'=>SqL.of (f'.same _ _ X M)) (sX λZ f'=>SqL.of (f'.same _ _ X M)) (λi x σ' Z Q' ex u F qq=>?_) (λi x σ2 ex hA Z R F r=>r _ (.refl F.st)) (λi x σ2 ex hA _ Z R F r=>?_) λD2 H3 o f3 ad g3 L=>?_⟩
 ·refine⟨rfl,λi y v m k=>?_⟩
  match i,m,k with
  |0,_,k=>cases k
  |1,_,k=>cases k
  |2,m,k=>cases m;cases k;exact⟨by trivial,0,rfl,rfl,by trivial⟩
  |i+3,m,_=>cases m
 ·obtain⟨c,g,t,m,k,U,O⟩:=h;exact⟨c,g,t,m,k,e2.aQ e1.st U,O⟩
 ·obtain⟨c,g,t,m,k,U,O⟩:=h;exact⟨c,g,t,m,k,U.aC3 e,O⟩
 ·obtain⟨c,G,p',rfl,a4⟩:=dH C ex;exact hg2 (F.aQ I.st a4) u fun σ2 m k=>qq σ2 m ⟨c,G,k⟩
 ·obtain⟨c,G,rfl⟩:=hA;refine⟨_,rfl,(by show 2<=sizeLine;decide),λl1 H4 a1 S g4=>?_⟩;refine⟨_,rfl,a,2,rfl,F.st.same S,by decide,λd H5 f5 d0 d1=>?_⟩;obtain⟨v,hv,mv⟩:=at_of (xs:=aCr) d0 (by show d<2;lia);obtain⟨g,rfl,a8⟩:∃g:Str,v=.str g/\(g = "up"\/g = "down"):=by
   simp only[aCr,bAJ,bAE,or_false] at mv;rcases mv with rfl|rfl
   ·exact⟨_,rfl,.inl rfl⟩
   ·exact⟨_,rfl,.inr rfl⟩
  refine⟨l1,_,_,_,rfl,rfl,SqL.of (f5.same _ _ (F.st.ne a1) g4),hv,(by show 2<=sizeLine;decide),λt H6 _ s6 g6=>?_⟩;exact r _ _ (((Fx.of F.st S).trans f5).sm s6) ⟨c,g,t,G,rfl,SqT.of g6,a8⟩
 rw[oX] at L;obtain⟨ac,l⟩:=lL L;have a3:∃B:List (Str × Str),bY (nZ K H3) o B/\B.map (·.1)=j.map (·.1):=by
  have a5:∀(n:Nat) (o:List V) (j:Hdr),o.length=j.length->(∀c∈j,Nm c.1)->(∀(i:Nat) (y:V),o[i]?=some y->∃c g t,j[i]?=some c/\y=.ref t/\SqT K H3 t [.str c.1,.str g]/\(g = "up"\/g = "down"))->∃B:List (Str × Str),bY (nZ K H3) o B/\B.map (·.1)=j.map (·.1):=by
   intro n o
   induction o with
   |nil=>intro j hl _ _;cases j with
    |nil=>exact⟨[],.nil,rfl⟩
    |cons _ _=>simp at hl
   |cons y o ih=>
    intro j hl W l;cases j with
    |nil=>simp at hl
    |cons c j=>obtain⟨c',g,t,m,k,U,O⟩:=l 0 y rfl;cases m;obtain⟨B,h5,h6⟩:=ih j (by simpa using hl) (λd hd=>W d (j7 _ hd)) λi z e=>l (i+1) z (by simpa using e);exact⟨(c.1,g)::B,.cons ⟨t,k,U,W c (j5 ..),O⟩ h5,by rw[bAB,h6];rfl⟩
  exact a5 0 o j (by lia) (λc a7=>(hc c (b.1 c a7)).1) l
 obtain⟨B,u,Y⟩:=a3;have ab:=u.len;refine⟨D2,_,rfl,SqL.of g3,λt H4 _ S g4=>q _ _ B (j.map (·.2)) ((I.trans f3).sm S) ⟨⟨t,o,rfl,SqT.of g4,u.imp λ_ _ h=>h.same S⟩,bAK _,by lia⟩ ?_ ?_⟩
 ·rw[Y];exact yR hg.1 b.1
 ·rw[Y];exact b.2.1
abbrev bE9:List V:=[.str "count",.str "least",.str "most",.str "sum"]
inductive aJ1 (K:bFC)(vs:List V)(H:Hp)(Q:VK)(E_:XK):Prop
 |mk (a F:Addr) (vh:V) (hd:Hdr) (fs:List Str) (_:vs=[.ref a,vh,.ref F]) (_:jV H a) (_:jW K H vh hd) (_:wJ hd) (_:H F=some (.lst (fs.map V.str))) (_:F≠a) (_:2<=fs.length) (_:(∀n∈fs,Nm n)) (_:∀v H' ss js,Fx a H H'->lD lE 1 2 K H' v ss->aGr hd ss js->ss.map Sm.new=fs.take ss.length->(∀(s:Sm) (j:Str),(s,j)∈ss.zip js->aBv j)->Q v H')
def aXh {w:Int}(h0:0<=w)(a:w<4):∃x:Str,atI bE9 w=some (.str x)/\((w=0/\x = "count")\/(w=1/\x = "least")\/(w=2/\x = "most")\/(w=3/\x = "sum")):=by
 obtain⟨n,rfl⟩:∃n:Nat,w=n:=⟨w.toNat,by lia⟩
 match n,a with
 |0,_=>exact⟨_,dJ rfl,.inl ⟨rfl,rfl⟩⟩
 |1,_=>exact⟨_,dJ rfl,.inr (.inl ⟨rfl,rfl⟩)⟩
 |2,_=>exact⟨_,dJ rfl,.inr (.inr (.inl ⟨rfl,rfl⟩))⟩
 |3,_=>exact⟨_,dJ rfl,.inr (.inr (.inr ⟨rfl,rfl⟩))⟩
 |n+4,h=>lia
theorem aKh {α β:Type}:∀{as:List α} {bs:List β} {a:α} {b:β},as.length=bs.length->(as++[a]).zip (bs++[b])=as.zip bs++[(a,b)]
 |[],[],_,_,_=>rfl
 |x::as,y::bs,a,b,h=>by rw[bBD,bBD,bEZ,bEZ,aKh (by simpa using h)];rfl
def aI5 (T:Txt w K mg)(aO:Ok P w K mg base 1 "_law_next" m7 gO):Ok P w K mg base 2 "_law_sums" u9 (aJ1 K):=by
 refine Ok.ofV T.aL9 zR (by trivial) (λf al A aa s H vs Q E hr h=>?_)
 obtain⟨a,F,vh,hd,k,rfl,hs,⟨b,us,rfl,hb,hu⟩,⟨⟨nd,l1,l8⟩,hc⟩,hF,nF,lf,ak,q⟩:=h;have an:=zR.nd;refine⟨_,(aA (aY 3 (bM gB)) (aA (gR PassesOwn.never rfl (eE (by rfl) T.gG (va1 (aW eG aC (bU aO (aG (vv 0) (va1 aC)))))) (cU 4) (aA (rD (bO bD (vv 1) (bU aO (aG (vv 0) (va1 (aR bB (by rfl) T.eN cR (va1 (vv 1))))))) (kE rfl (aX (cU 5) (aX (cU 6) dF)))) (aA (aY 7 (aW eG aC (bG tO (by rfl) T.aFx aAo (va1 (uC cJ (vv 6) aF))))) (aA (aY 8 (bO cX (bM (aG aF (aG aF (aG aF (va1 aF))))) (bU aO (aG (vv 0) (va1 (vv 7)))))) (aA (bN (cT cJ (vv 8) aF) (aB (aY 5 gQ)) aU) (aB (dG (fK PySem.F.plainAttrs_list PySem.F.slot_list_append PySem.F.type_list_append dM (vv 3) (va1 (aK (aG (vv 8) (aG (vv 5) (va1 (bO cX (vv 2) (vv 4))))))))))))))) (aB (aJ (bG cC (by rfl) T.cO cB (va1 (vv 3))))))),?_⟩;have lu:=hu.len;refine⟨(by show 0<=sizeLine;decide),λp H1 fp s1 g1=>?_⟩;have f1:=Fx.of hs s1;have y:p≠a:=hs.ne fp;refine⟨_,rfl,a,2,rfl,f1.st,by decide,λm H2 f2 m0 m1=>?_⟩;have a9:=f1.trans f2;have g2:=f2.same _ _ y g1;refine⟨_,_,rfl,rfl,_,rfl,(by show -(2 ^ 62)<=1+m;lia),(by show 1+m<2 ^ 62;lia),?_⟩;refine gH (n:=(1+m).toNat) (λi σ N=>Fx a H N/\∃(ws:List V) (ss:List Sm) (js:List Str) (l4 l5 l6 l7 l8:Option V),N p=some (.lst ws)/\ss.length=i/\bY (lE K N) ws ss/\aGr hd ss js/\ss.map Sm.new=k.take i/\(∀(s:Sm) (j:Str),(s,j)∈ss.zip js->aBv j)/\σ=[some (.ref a),some (.ref b),some (.ref F),some (.ref p),l4,l5,l6,l7,l8]) ⟨a9,[],[],[],_,_,_,_,_,g2,rfl,.nil,.nil,rfl,(λs j h=>by cases h),rfl⟩ ?_ ?_
 ·rintro i σ N hi ⟨fx,ws,ss,js,l4,l5,l6,l7,l8,gp,hl,hw,hsj,hnw,hkj,rfl⟩;have lw:=hw.len;have lj:=hsj.len;have ai:TK K H N:=fx.tk hs;refine⟨_,rfl,_,rfl,_,rfl,_,_,rfl,.inr (ai _ _ hb),a,_,rfl,fx.st,(by show (0:Int)<(us.length:Int);lia),λd H3 f3 d0 d1=>?_⟩;obtain⟨u,ab,a2⟩:=at_of (xs:=us) d0 d1;obtain⟨c,S,pc,rfl,a6⟩:=hu.mem a2;obtain⟨a8,a5⟩:=hc c S;have M:=fx.trans f3;have a1:TK K H H3:=M.tk hs;refine⟨b,_,_,_,rfl,rfl,a1 _ _ hb,ab,pc,_,rfl,a1 _ _ a6,rfl,_,_,rfl,_,_,rfl,rfl,?_⟩;have a4:look hd c.1=some c.2:=oU nd S;have ag:k.take (i+1)=k.take i++[k[i]'(by lia)]:=by rw[bBM,b8 (by lia)];rfl
  have X:Nm (k[i]'(by lia)):=ak _ (bCP _);have I:∀D,Fx a H D->SqL K D F (k.map V.str):=λD fz=>SqL.of (fz.same _ _ nF hF);have U:atI (k.map V.str) (0+(i:Int))=some (.str (k[i]'(by lia))):=by rw[bEH];exact dJ (by rw[bAC,b8 (by lia)];rfl)
  refine⟨_,rfl,rfl,.inr ⟨_,rfl,_,_,rfl,rfl,?_⟩⟩;obtain⟨O,aj,am,af⟩:∃O:Int,(3+(if decide (V.str c.2=V.str "number") then 1 else 0):Int)=O/\3<=O/\(O<=3\/(O=4/\c.2 = "number")):=by
   by_cases e:c.2 = "number"
   ·exact⟨4,by rw[v7 (congrArg V.str e)];rfl,by decide,.inr ⟨rfl,e⟩⟩
   ·exact⟨3,by rw[j6 (by intro z;exact e (V.str.inj z))];rfl,by decide,.inl (by decide)⟩
  dsimp only[cI];rw[aj];refine⟨(by show 4<=sizeLine;decide),λp4 H4 ad s4 g4=>?_⟩;have Z:=M.sm s4;refine⟨_,rfl,_,rfl,a,O,rfl,Z.st,by lia,λw' H5 f5 w0 w1=>?_⟩;have J:=Z.trans f5;have a3:Fx a N H5:=(f3.sm s4).trans f5;have v:=f5.same _ _ y (s4 _ _ (f3.same _ _ y gp));obtain⟨x,hx,a0⟩:=aXh w0 (show w'<4 by lia);refine⟨p4,_,_,_,rfl,rfl,SqL.of (f5.same _ _ (M.st.ne ad) g4),hx,?_⟩;have G:∀(nv:V) (B:Sm) (j:Str),(∀D g,SqT K D g [.str x,nv,.str (k[i]'(by lia))]->lE K D (.ref g) B)->B.new=k[i]'(by lia)->smK hd B=some j->(B.wd = "sum"->j≠"word")->aBv j->∀g r,H5 g=none->Same H5 r->r g=some (.tup [.str x,nv,.str (k[i]'(by lia))]) ->
    r p=some (.lst ws)/\(Fx a H (upd r p (.lst (ws++[.ref g])))/\bY (lE K (upd r p (.lst (ws++[.ref g])))) (ws++[.ref g]) (ss++[B])/\aGr hd (ss++[B]) (js++[j])/\(ss++[B]).map Sm.new=k.take (i+1)/\∀(s:Sm) (j':Str),(s,j')∈(ss++[B]).zip (js++[j])->aBv j'):=by
   intro nv B j ac W hk o ae g r l L R;have Y:=L _ _ v;have ah:g≠p:=(bA v l).symm;refine⟨Y,(J.sm L).upd fp y,?_,?_,?_,?_⟩
   ·exact (hw.imp λ_ _ h=>(h.tk ((a3.sm L).tk fx.st)).tk λ_ _ e=>e.aC3 Y).app (.cons (ac _ g (SqT.of (by rw[aV ah];exact R))) .nil)
   ·exact bY.app hsj (.cons ⟨hk,o⟩ .nil)
   ·rw[bAY,hnw,ag,List.map_singleton,W]
   ·intro s j' hm;rw[aKh (by lia)] at hm;rcases List.mem_append.mp hm with hm|hm
    ·exact hkj s j' hm
    ·cases List.mem_singleton.mp hm;exact ae
  refine⟨_,rfl,rfl,_,rfl,?_⟩;by_cases ec:x = "count"
  ·subst ec;rw[v7 rfl];refine bQ ?_;refine⟨_,rfl,.inl ⟨rfl,_,SqL.of v⟩,_,rfl,_,rfl,_,rfl,_,rfl,F,_,_,_,rfl,rfl,I _ J,U,(by show 3<=sizeLine;decide),λg r l L R=>?_⟩;obtain⟨k1,k2,k3,k4,k5,k6⟩:=G .non ⟨"count",none,k[i]'(by lia)⟩ "number" (λD g h=>⟨g,rfl,X,.inl ⟨rfl,rfl,h⟩⟩) rfl rfl (λ_=>by trivial) (.inl rfl) g r l L R;exact⟨p,_,_,rfl,rfl,k1,dC (by lia),k2,_,_,_,_,_,_,_,_,aL,by rw[j4,hl];rfl,k3,k4,k5,k6,rfl⟩
  ·rw[j6 (by intro z;exact ec (V.str.inj z))];refine aZ ?_;have a7:bCz x:=by
    rcases a0 with⟨_,e⟩|⟨_,e⟩|⟨_,e⟩|⟨_,e⟩
    ·exact absurd e ec
    ·exact .inr (.inl e)
    ·exact .inr (.inr e)
    ·exact .inl e
   have o:x = "sum"->c.2≠"word":=λe=>by
    rcases a0 with⟨_,C⟩|⟨_,C⟩|⟨_,C⟩|⟨e3,C⟩
    ·exact absurd C ec
    ·rw[e] at C;exact absurd C (by trivial)
    ·rw[e] at C;exact absurd C (by trivial)
    ·rcases af with z|⟨_,z⟩
     ·lia
     ·rw[z];decide +kernel
   refine⟨_,rfl,.inl ⟨rfl,_,SqL.of v⟩,_,rfl,_,rfl,_,rfl,_,rfl,F,_,_,_,rfl,rfl,I _ J,U,(by show 3<=sizeLine;decide),λg r l L R=>?_⟩;obtain⟨k1,k2,k3,k4,k5,k6⟩:=G (.str c.1) ⟨x,some c.1,k[i]'(by lia)⟩ c.2 (λD g h=>⟨g,rfl,X,.inr ⟨c.1,rfl,a8,a7,h⟩⟩) rfl a4 o a5 g r l L R;exact⟨p,_,_,rfl,rfl,k1,dC (by lia),k2,_,_,_,_,_,_,_,_,aL,by rw[j4,hl];rfl,k3,k4,k5,k6,rfl⟩
 ·rintro σ N ⟨fx,ws,ss,js,l4,l5,l6,l7,l8,gp,hl,hw,hsj,hnw,hkj,rfl⟩;exact⟨_,rfl,p,ws,rfl,SqL.of gp,λt H5 _ s5 g5=>q _ _ ss js (fx.sm s5) ⟨⟨t,ws,rfl,SqT.of g5,hw.imp λ_ _ h=>h.same s5⟩,by lia,by lia⟩ hsj (by rw[hnw,hl]) hkj⟩
theorem aPb:∀{l:List Str},l.Nodup->l.length<=(l.filter λx=>!decide (x=n)).length+1
 |[],_=>by simp
 |x::r,h=>by
  rw[bER] at h;rw[List.filter_cons,d9];by_cases e:x=n
  ·subst e;rw[v7 rfl];have:r.filter (λy=>!decide (y=x))=r:=List.filter_eq_self.mpr λy a=>by rw[j6 (λz=>h.1 (by rw[<-z];exact a))];rfl
   simp[this]
  ·rw[j6 e];have:=aPb (n:=n) h.2;simp only[Bool.not_false,if_true,d9];lia
theorem aJ3 {l:List Str}(h:l.Nodup):∀S:List Str,l.length<=(l.filter λx=>!decide (x∈S)).length+S.length
 |[]=>by have e:(l.filter λx=>!decide (x∈([]:List Str)))=l:=List.filter_eq_self.mpr (by intro x _;simp);rw[e];exact bDT _ _
 |s::S=>by
  have e:(l.filter λx=>!decide (x∈s::S))=(l.filter λx=>!decide (x∈S)).filter λx=>!decide (x=s):=by rw[List.filter_filter];refine List.filter_congr λx _=>?_;by_cases a:x=s <;> by_cases b:x∈S <;> simp[a,b]
  have d:=aJ3 h S;have c:=aPb (n:=s) (h.sublist (List.filter_sublist (p:=λx=>!decide (x∈S))));rw[e,d9];lia
theorem aLh:∀{k:Nat} {l:List Str} {ys:List V},(∀(j:Nat) (n:Str),l[j]?=some n->∀y,R (k+j) y->y=.str n)->jZ R (sel p k (List.range' k l.length)) ys->ys=(sel p k l).map V.str
 |k,[],ys,_,h=>by cases h;rfl
 |k,n::r,ys,hR,h=>by
  rw[d9,bEK] at h;have h:jZ R (if p k then k::sel p (k+1) (List.range' (k+1) r.length) else sel p (k+1) (List.range' (k+1) r.length)) ys:=h;have c:∀{b:List V},jZ R (sel p (k+1) (List.range' (k+1) r.length)) b->b=(sel p (k+1) r).map V.str:=λ{b} f=>
   aLh (k:=k+1) (l:=r) (λj m e y d=>hR (j+1) m (by simpa using e) y (by rw[show k+(j+1)=k+1+j by lia];exact d)) f
  show ys=(if p k then n::sel p (k+1) r else sel p (k+1) r).map V.str
  split at h
  ·rename_i a;rw[if_pos a];cases h with
   |cons r' t=>rw[bAB,<-c t,hR 0 n rfl _ r']
  ·rename_i a;rw[if_neg a];exact c h
def aKe {ys:List V}{cs:Hdr}(hl:ys.length=cs.length)(h:∀(i:Nat) (y:V),ys[i]?=some y->∃c,cs[i]?=some c/\y=.str c.1):ys=(cs.map (·.1)).map V.str:=by
 rw[bAP];refine bCK λi=>?_;by_cases a:i<ys.length
 ·obtain⟨c,b,d⟩:=h i ys[i] (b8 a);rw[b8 a,bAC,b,d];rfl
 ·rw[bAT (by lia),bAT (by rw[d7];lia)]
def aCg {X:Cx}{scope:Scope}{N:List Str}{tl:TE}{σ:L2.St}{H:Hp}{Q:VK}{b:Addr}{us:List V}{cs:Hdr}(m:SqT K H b us)(u:bY (IsC K H) us cs)(h8:cs.length<=100)(o:Cap X scope N σ [none,none])(I:∀R:VK,R (.ref b) H->tl σ H R)
  (q:∀D H',H D=none->Same H H'->H' D=some (.lst ((cs.map (·.1)).map V.str))->Q (.ref D) H'):jP X scope N (aRn K tl) (aGn K 2 (rA (cI 0) (rA (cI 1) aNe))) uA (lG 0) σ H Q:=by
 have E:=u.len;refine sS [none,none] o (I _ ⟨b,rfl,⟨_,m⟩,aA4 Same (qM H) us (λ_=>true) (λi _ y=>∃c,cs[i]?=some c/\y=.str c.1) (λ_ _ h=>h) (λ_ _ _ h=>h) (λi σ=>∃c,cs[i]?=some c/\At2 [none,none] (.str c.1) (.str c.2) σ) (Ps2 [none,none]) ⟨none,none,rfl⟩ (small (by lia)) _ (aDo λH' a=>a.aQ m) (rF λH' a=>a.aQ m) (λi x G H' J g e a t=>?_) (λi x f g k H' R a r=>r _ (Same.refl _)) (λi x f g k _ H' R a r=>?_) λD w F A z n d=>?_⟩)
 ·obtain⟨c,j,p,rfl,s⟩:=dH u g;exact hg2 (a.aQ s) e fun f C B=>t f C ⟨c,j,B⟩
 ·obtain⟨c,j,rfl⟩:=k;exact⟨_,rfl,r _ _ (Same.refl H') ⟨c,j,rfl⟩⟩
 ·rw[oX] at d;obtain⟨l,v⟩:=lL d;rw[aKe (by lia) v] at n;exact q D w z A n
def frP (l used:List Str)(i:Nat):Bool:=match l[i]? with
 |some n=>!decide (n∈used)
 |none=>false
def jL (ns used:List Str):List Str:=(ns.drop 3).filter λn=>!decide (n∈used)
def aJl (h:jC ns):(jL ns used).Nodup/\(∀n∈jL ns used,Nm n/\n∉used)/\14<=(jL ns used).length+used.length/\(jL ns used).length<=14:=by
 have a:=h.2.2.sublist (List.drop_sublist 3 ns);have e:(ns.drop 3).length=14:=by rw[bCD,h.1]
 refine⟨a.sublist List.filter_sublist,λn c=>?_,?_,?_⟩
 ·obtain⟨d,b⟩:=List.mem_filter.mp c;exact⟨h.2.1 n (bEO d),by simpa using b⟩
 ·have:=aJ3 a used;unfold jL;lia
 ·have:=List.length_filter_le (λn=>!decide (n∈used)) (ns.drop 3);unfold jL;lia
def aC7 (hn:jC ns)(w:Cap X scope Nn σ [none,some U])(O:∀R:VK,(∀p H1,H p=none->Same H H1->H1 p=some (.lst ((ns.drop 3).map V.str))->R (.ref p) H1)->tl σ H R)
  (P:∀(n:Str) l H' R,Same H H'->(∀H2,Same H' H2->R (!decide (n∈used)) H2)->tt (([none,some U].set 0 l).set 0 (some (.str n))) H' R)
  (q:∀D H',H D=none->Same H H'->H' D=some (.lst ((jL ns used).map V.str))->Q (.ref D) H'):jP X scope Nn (aFn K tl) (cI 0) tt (lG 0) σ H Q:=by
 have L:(ns.drop 3).length=14:=by rw[bCD,hn.1]
 refine wR [none,some U] w (O _ λp H1 N s t=>⟨p,rfl,⟨_,SqL.of t⟩,aA4 Same (qM H1) ((ns.drop 3).map V.str) (frP (ns.drop 3) used) (λi _ y=>∃n,(ns.drop 3)[i]?=some n/\y=.str n) (λ_ _ h=>h) (λ_ _ _ h=>h) (λi σ=>∃n,(ns.drop 3)[i]?=some n/\At1 [none,some U] (.str n) σ) (Ps1 [none,some U]) ⟨none,rfl⟩ (small (by rw[d7];lia)) _ (aCc λH' b=>SqL.of (b _ _ t)) (sX λH' b=>SqL.of (b _ _ t)) (λi x M H' S d f b B=>?_) (λi x o d k H' R b r=>?_) (λi x o d k _ H' R b r=>?_) λD H2 J g E u c=>?_⟩)
 ·obtain⟨n,a,rfl⟩:=aAs d;exact hg1 (i:=i) f fun o I G=>B o I ⟨n,a,G⟩
 ·obtain⟨n,a,l,rfl⟩:=k;refine P n l H' _ (s.trans b) λH2 g=>?_;have e:frP (ns.drop 3) used i=!decide (n∈used):=by unfold frP;rw[a]
  rw[<-e];exact r H2 g
 ·obtain⟨n,a,l,rfl⟩:=k;exact⟨_,by cases l <;> rfl,r _ _ (Same.refl H') ⟨n,a,rfl⟩⟩
 ·rw[d7,bDS] at c;have F:=aLh (λj n A y z=>by obtain⟨m,v,e⟩:=z;rw[bDJ,A] at v;cases v;exact e) c
  have C:sel (frP (ns.drop 3) used) 0 (ns.drop 3)=jL ns used:=vU λi x d=>by unfold frP;rw[bDJ,d]
  rw[F,C] at u;exact q D H2 (s.free E) (s.trans g) u
theorem zip_fst_snd:∀(hd:Hdr),(hd.map (·.1)).zip (hd.map (·.2))=hd
 |[]=>rfl
 |c::r=>by rw[bAB,bAB,bEZ,zip_fst_snd r]
theorem aDd:∀{ns:List Str} {hd:Hdr},ns.length=hd.length->(List.zipWith (λn c=>(n,c.2)) ns hd).map (·.1)=ns
 |[],[],_=>rfl
 |n::ns,c::hd,h=>by rw[List.zipWith_cons_cons,bAB,aDd (by simpa using h)]
theorem aG2:∀{ns:List Str} {hd:Hdr} {x:Str × Str},x∈List.zipWith (λn c=>(n,c.2)) ns hd->x.1∈ns/\∃c∈hd,x.2=c.2
 |[],_,x,h=>by simp at h
 |_::_,[],x,h=>by simp at h
 |n::ns,c::hd,x,h=>by
  rw[List.zipWith_cons_cons] at h;rcases List.mem_cons.mp h with rfl|h
  ·exact⟨j5 ..,c,j5 ..,rfl⟩
  ·obtain⟨e,d,b,a⟩:=aG2 h;exact⟨j7 _ e,d,j7 _ b,a⟩
def lJ {lo hi:Nat}{H:Hp}{t:Addr}{ns:List Str}(h:SqT K H t (ns.map V.str))(hn:∀n∈ns,Nm n)(b:lo<=ns.length)(a:ns.length<=hi):lD xA lo hi K H (.ref t) ns:=by
 refine⟨⟨t,_,rfl,h,?_⟩,b,a⟩;clear h b a
 induction ns with
 |nil=>exact .nil
 |cons n r ih=>exact .cons ⟨rfl,hn n (j5 ..)⟩ (ih λm c=>hn m (j7 _ c))
inductive aJ8 (K:bFC)(vs:List V)(H:Hp)(Q:VK)(E_:XK):Prop
 |mk (vq vh vo:V) (N:Addr) (q:Qn) (hd ow:Hdr) (ns:List Str) (hs:Str->Option Hdr) (_:vs=[vq,vh,vo,.ref N]) (_:IsQ K H vq q) (_:jW K H vh hd) (_:wJ hd) (_:HQ hs q hd) (_:jW K H vo ow) (_:wJ ow) (_:H N=some (.lst (ns.map V.str))) (_:jC ns) (_:∀p H' v1 v2 q' hd',Same H H'->H' p=some (.tup [v1,v2])->IsQ K H' v1 q'->jW K H' v2 hd'->HQ hs q' hd'->wJ hd'->(∀c∈hd',c.1∉ow.map (·.1))->size q'=size q+2->hd'.length+ow.length<=9->Q (.ref p) H')
def aEu (T:Txt w K mg):Ok P w K mg base 1 "_law_fresh" o5 (aJ8 K):=by
 refine Ok.ofV T.aGq nP (by trivial) (λf ax A aj s H vs Q E hr h=>?_)
 obtain⟨vq,vh,vo,N,q0,L,ow,ns,hs,rfl,hq,⟨b,us,rfl,hb,hu⟩,⟨⟨nd,l1,l8⟩,hc⟩,ab,⟨o,zs,rfl,ho,hz⟩,⟨⟨aw,b5,b6⟩,b4⟩,hN,hn,q⟩:=h;have b1:=nP.nd;refine⟨_,(aA (aY 4 (cZ (N:=["_law_column","_law_kind"]) ck eV rfl (fX (vv 2)) (λcl O u fp=>⟨(lF (K:=K) (n:=2) rfl (aX (fZ 0) (aX (fZ 1) dF))),eZ,(vv 0)⟩))) (aA (aY 5 (cZ (N:=["_law_name","_law_used"]) ck (jJ (aD lC)) rfl (mQ (dI oN (vv 3) (cY aC) iC)) (λcl O u fp=>⟨(fZ 0),(aAp (zM (uZ (K:=K)) (vv 0) (vv 1) (by with_unfolding_all rfl))),(vv 0)⟩))) (aA (aY 1 (dI aPv (vv 1) iC (cY (aR (aRm rfl) (by rfl) T.bEf aZ3 (aG (aR bB (by rfl) T.eN cR (va1 (vv 5))) (va1 (aW aDk aC (aR bB (by rfl) T.eN cR (va1 (vv 2)))))))))) (aA (aY 0 (aK (aG aF (aG (vv 0) (va1 (bG cC (by rfl) T.cO cB (va1 (cZ (N:=bQQ) ck eV rfl (fX (vv 1)) (λcl O u fp=>⟨(lF (K:=K) (n:=2) rfl (aX (fZ 0) (aX (fZ 1) dF))),eZ,(vv 0)⟩))))))))) (aA (wZ (i0:=6) nP.nd rfl (by trivial) (N:=bQN) ck (jJ (aD lC)) rfl (eE (by rfl) T.gG (va1 (aR bB (by rfl) T.eN cR (va1 (vv 1))))) (λcl O u fp=>⟨(fZ 0),eZ,(aK (aG (bO (xK (K:=K)) (vv 1) (vv 0)) (va1 (bO (gC (K:=K)) (bO (gC (K:=K)) (vv 2) (vv 0)) aC))))⟩)) (aB (aJ (aK (aG (aK (aG aF (aG (vv 0) (va1 (bG cC (by rfl) T.cO cB (va1 (dI oN (vv 5) iC (cY (aR bB (by rfl) T.eN cR (va1 (vv 1))))))))))) (va1 (bG cC (by rfl) T.cO cB (va1 (vv 6))))))))))))),?_⟩;have lu:=hu.len;have lz:=hz.len
 try dsimp only[kW,rC]
 refine aCg ho hz (by lia) lH (λR r=>⟨_,rfl,r⟩) λU H1 fU s1 gU=>?_
 try dsimp only[cI,kW,rC]
 refine aC7 (K:=K) (U:=.ref U) (used:=ow.map (·.1)) hn ?_ (λR r=>?_) (λn l u R O r=>?_) λF H2 fF s2 gF=>?_
 ·exact tG 4 (by trivial) rfl rfl (by trivial)
 ·refine⟨_,rfl,_,rfl,N,_,rfl,SqL.of (s1 _ _ hN),λp u fp O g'=>r p u fp O ?_⟩;rw[g',show (3:Int)=((3:Nat):Int) from rfl,aFo,List.map_drop]
 ·refine⟨_,rfl,_,rfl,U,_,rfl,.inl (SqL.of (O _ _ gU)),rfl,aDi,_,rfl,?_⟩;rw[zO];exact r u (Same.refl u)
 obtain⟨a3,a5,z,B⟩:=aJl (used:=ow.map (·.1)) hn;rw[d7] at z;generalize az:jL ns (ow.map (·.1))=fr at gF a3 a5 z B;have t2:=s1.trans s2
 try dsimp only[cI]
 refine⟨_,rfl,_,rfl,F,_,rfl,.inl (SqL.of gF),_,rfl,o,_,rfl,.inr (t2.aQ ho),_,_,rfl,rfl,_,_,rfl,_,rfl,b,_,rfl,t2.aQ hb,λd H3 s3 g3=>?_⟩;obtain⟨k,ek,hk⟩:∃k:Nat,(if ((9:Int) - (zs.length:Int))<(((fr.map V.str).length:Nat):Int) then ((9:Int) - (zs.length:Int)) else (((fr.map V.str).length:Nat):Int))=(k:Int)/\k=min fr.length (9 - zs.length):=by
  rw[d7];refine⟨min fr.length (9 - zs.length),?_,rfl⟩
  split <;> lia
 have Y:SqT K H3 d (us.take k):=by have e:=aB5 us k;rw[<-ek] at e;rw[<-e];exact g3
 have t3:=t2.trans s3;have g:bY (IsC K H3) (us.take k) (L.take k):=aAu (hu.imp λ_ _ h=>h.same t3) k;have a:aCv (L.take k) L:=aKi (bCY k L) nd;have ag:(L.take k).length=min k L.length:=bAV;have b2:1<=k:=by lia
 generalize b0:L.take k=hd1 at g a ag;generalize us.take k=us1 at Y g;have a8:=g.len;have Z:∀c∈hd1,Nm c.1/\aBv c.2:=λc h=>hc c (a.1 c h)
 try dsimp only[cI]
 refine⟨_,rfl,?_⟩
 try dsimp only[tCB,dO]
 refine aCg Y g (by lia) lH (λR r=>⟨_,rfl,r⟩) λD4 H4 _ s4 g4=>?_;refine⟨D4,_,rfl,SqL.of g4,λt4 H5 _ s5 g5=>?_⟩;refine⟨(by show 3<=sizeLine;decide),λqk H6 _ s6 g6=>?_⟩;have t6:=t3.trans (s4.trans (s5.trans s6));have J:=s4.trans (s5.trans s6);have ai:IsQ K H6 (.ref qk) (.keep q0 (hd1.map (·.1))):=.keep (SqT.of g6) (hq.same t6) (lJ (SqT.of (s6 _ _ g5)) (λn aq=>by obtain⟨c,G,rfl⟩:=List.mem_map.mp aq;exact (Z c G).1) (by rw[d7];lia) (by rw[d7];lia))
 have a6:=(s3.trans J) _ _ gF;have al:bY (IsC K H6) us1 hd1:=g.imp λ_ _ h=>h.same J;have S:=J.aQ Y
 try dsimp only[cI,kW,rC]
 refine aAj ((List.range hd1.length).map λi:Nat=>V.int (0+(i:Int))) (jD K (List.zipWith (λn c=>(n,c.2)) (fr.take hd1.length) hd1)) jD.st jD.su [none,some (.ref F),some (.ref d)] ?_ (small (by rw[d7,bAH];lia)) (λR r=>aB1 hd1.length (λR' r'=>⟨_,rfl,d,_,rfl,.inr S,by rw[<-a8] at r';exact r'⟩) (by lia) R r) (λi x ex u R l sm r=>?_) rfl λD7 H7 ys s7 g7 af hR=>?_
 ·refine⟨rfl,λi y v d C=>?_⟩
  match i,d,C with
  |0,_,C=>cases C
  |1,d,C=>cases d;cases C;exact⟨by trivial,5,rfl,rfl,by trivial⟩
  |2,d,C=>cases d;cases C;exact⟨by trivial,1,rfl,rfl,by trivial⟩
  |i+3,d,_=>cases d
 ·have hi:i<hd1.length:=by have:=(List.getElem?_eq_some_iff.mp ex).1;rw[d7,bAH] at this;exact this
  have av:x=.int (0+(i:Int)):=by rw[bAC,bCA hi] at ex;exact (bAM ex).symm
  subst av;obtain⟨I,ap,ah⟩:∃I,us1[i]?=some (.ref I)/\SqT K H6 I [.str (hd1[i]'hi).1,.str (hd1[i]'hi).2]:=by
   have a4:i<us1.length:=by lia
   obtain⟨c,a0,I,e1,e2⟩:=dH al (b8 a4);rw[b8 hi] at a0;cases a0;exact⟨I,by rw[b8 a4,e1],e2⟩
  have hF:i<fr.length:=by lia
  have a1:atI (fr.map V.str) (0+(i:Int))=some (.str (fr[i]'hF)):=by rw[bEH];exact dJ (by rw[bAC,b8 hF];rfl)
  have a2:atI us1 (0+(i:Int))=some (.ref I):=by rw[bEH];exact dJ ap
  refine⟨_,rfl,_,rfl,F,_,_,_,rfl,rfl,SqL.of (sm _ _ a6),a1,_,rfl,_,rfl,d,_,_,_,rfl,rfl,sm.aQ S,a2,I,_,1,_,rfl,rfl,sm.aQ ah,at1 _ _ _,(by show 2<=sizeLine;decide),λt H8 _ s8 g8=>r _ _ s8 ⟨(fr[i]'hF,(hd1[i]'hi).2),t,?_,rfl,g8⟩⟩;rw[bEI,List.getElem?_take,if_pos hi,b8 hF,b8 hi]
 rw[d7,bAH] at af;have W:(fr.take hd1.length).length=hd1.length:=by rw[bAV];lia
 have ae:(List.zipWith (λn c=>(n,c.2)) (fr.take hd1.length) hd1).length=hd1.length:=by rw[bES,W,Nat.min_self]
 try dsimp only[cI]
 refine⟨_,rfl,?_⟩
 try dsimp only[tCB,dO]
 refine⟨_,rfl,_,rfl,d,_,rfl,.inr (s7.aQ S),_,rfl,F,_,rfl,SqL.of (s7 _ _ a6),λp8 H8 _ s8 g8=>?_⟩;rw[a8,aB5,<-List.map_take] at g8;refine⟨p8,_,rfl,SqL.of g8,λt9 H9 _ s9 g9=>?_⟩;refine⟨(by show 3<=sizeLine;decide),λqn b3 _ D ar=>?_⟩;refine⟨_,rfl,D7,_,rfl,SqL.of ((s8.trans (s9.trans D)) _ _ g7),λao ay _ X as=>?_⟩;refine⟨(by show 2<=sizeLine;decide),λad ac _ m au=>?_⟩;have j:=s8.trans (s9.trans (D.trans (X.trans m)));have M:∀n∈fr.take hd1.length,Nm n/\n∉ow.map (·.1):=λn h=>a5 n (bBX h);have ak:(fr.take hd1.length).Nodup:=a3.sublist (bCY _ _);have an:Good hd1:=⟨a.2.1,by lia,by lia⟩;have a9:Good (List.zipWith (λn c=>(n,c.2)) (fr.take hd1.length) hd1):=⟨by rw[aDd W];exact ak,by lia,by lia⟩;have aa:HQ hs (.keep q0 (hd1.map (·.1))) hd1:=by have h:=HH.keep (hs:=hs) (q:=q0) (yR nd a.1);rw[zip_fst_snd] at h;exact .mk1 rfl ab h an
 have a7:HQ hs (.nmd (.keep q0 (hd1.map (·.1))) (fr.take hd1.length)) (List.zipWith (λn c=>(n,c.2)) (fr.take hd1.length) hd1):=.mk1 rfl aa (.nmd W) a9;refine q ad ac (.ref qn) (.ref ao) (.nmd (.keep q0 (hd1.map (·.1))) (fr.take hd1.length)) _ (t6.trans (s7.trans j)) au ?_ ?_ a7 ⟨a9,λx hx=>?_⟩ (λx hx=>?_) rfl ?_
 ·refine .nmd (SqT.of ((X.trans m) _ _ ar)) (ai.same (s7.trans j)) (lJ (SqT.of ((D.trans (X.trans m)) _ _ g9)) (λn h=>(M n h).1) (by lia) (by lia))
 ·exact aP4 (SqT.of (m _ _ as)) (by lia) λi y e=>(hR i y e).st j
 ·obtain⟨am,c,G,e⟩:=aG2 hx;exact⟨(M _ am).1,by rw[e];exact (Z c G).2⟩
 ·exact (M _ (aG2 hx).1).2
 ·rw[ae];lia
inductive aJk (K:bFC)(vs:List V)(H:Hp)(Q:VK)(E_:XK):Prop
 |mk (a N:Addr) (vq vh vo voh:V) (q qo:Qn) (hd ho:Hdr) (ns:List Str) (hs:Str->Option Hdr) (_:vs=[.ref a,vq,vh,vo,voh,.ref N]) (_:jV H a) (_:N≠a) (_:IsQ K H vq q) (_:jW K H vh hd) (_:wJ hd) (_:HQ hs q hd) (_:IsQ K H vo qo) (_:jW K H voh ho) (_:wJ ho) (_:HQ hs qo ho) (_:H N=some (.lst (ns.map V.str))) (_:jC ns) (_:∀p H' v1 v2 q' hd',Fx a H H'->H' p=some (.tup [v1,v2])->IsQ K H' v1 q'->jW K H' v2 hd'->HQ hs q' hd'->wJ hd'->size q'<=size q+size qo+3->Q (.ref p) H')
def bCi (hd ho:Hdr)(pr:Str × Str):Prop:=∃k,(pr.1,k)∈hd/\(pr.2,k)∈ho
def aMq {H:Hp}{ho:Hdr}{c:Str × Str}{k:List Nat}{ys:List V}(l:Nm c.1)(hn:∀x∈ho,Nm x.1)(h:jZ (λi y=>∃c' t,ho[i]?=some c'/\c'.2=c.2/\y=.ref t/\SqT K H t [.str c.1,.str c'.1]) k ys):∃prs:List (Str × Str),bY (oY K H) ys prs/\∀pr∈prs,pr.1=c.1/\(pr.2,c.2)∈ho:=by
 induction h with
 |nil=>exact⟨[],.nil,λpr h=>by cases h⟩
 |@cons i y k ys r _ ih=>
  obtain⟨c',t,g,f,e,b⟩:=r;obtain⟨prs,j,d⟩:=ih;have a:=bAR g;refine⟨(c.1,c'.1)::prs,.cons ⟨t,e,b,l,hn c' a⟩ j,λpr hp=>?_⟩;rcases List.mem_cons.mp hp with rfl|hp
  ·exact⟨rfl,by rw[<-f];exact a⟩
  ·exact d pr hp
def leP (ho:Hdr)(d:Str)(i:Nat):Bool:=match ho[i]? with
 |some c=>!decide (c.1=d)
 |none=>false
def aQx {g:Hdr}(a:(g.map (·.1)).Nodup){d k:Str}(h:(d,k)∈g):(g.filter λc=>!decide (c.1=d)).length+1=g.length:=by
 induction g with
 |nil=>cases h
 |cons c r ih=>
  rw[bAB,bER] at a;rw[List.filter_cons,d9];rcases List.mem_cons.mp h with e|h
  ·subst e;have:r.filter (λc=>!decide (c.1=d))=r:=List.filter_eq_self.mpr λy b=>by rw[j6 (λz=>a.1 (by rw[<-z];exact List.mem_map.mpr ⟨y,b,rfl⟩))];rfl
   simp[this]
  ·have f:¬ c.1=d:=λz=>a.1 (by rw[z];exact List.mem_map.mpr ⟨_,h,rfl⟩);have:=ih a.2 h;rw[j6 f];simp only[Bool.not_false,if_true,d9];lia
def aH0 (T:Txt w K mg)(aO:Ok P w K mg base 1 "_law_next" m7 gO)(bz:Ok P w K mg base 1 "_law_fresh" o5 (aJ8 K)) :
  Ok P w K mg base 2 "_law_join" n6 (aJk K):=by
 refine Ok.ofV T.aKx yZ (by trivial) (λf bp A b2 s H vs Q E hr h=>?_)
 obtain⟨a,N,vq,vh,vo,bd,q0,qo,hd,ho,ns,hs,rfl,C,c1,hq,hh,a6,aa,bb,bj,a9,af,hN,hn,q⟩:=h;have hu:=aLk hr;have bv:=yZ.nd;refine⟨_,(aA (rD (bU bz (aG (vv 3) (aG (vv 4) (aG (vv 2) (va1 (vv 5)))))) (kE rfl (aX (cU 3) (aX (cU 4) dF)))) (aA (aY 6 (bM gB)) (aA (gR PassesOwn.never rfl (fX (vv 2)) (kE rfl (aX (cU 7) (aX (cU 8) dF))) (aB (dG (fK PySem.F.plainAttrs_list PySem.F.slot_list_extend PySem.F.type_list_extend aEe (vv 6) (va1 (cZ (N:=["_law_d","_law_sort","_law_c","_law_kind"]) ck (jJ (aD mV)) rfl (fX (vv 4)) (λcl W M fp=>⟨(lF (K:=K) (n:=2) rfl (aX (fZ 0) (aX (fZ 1) dF))),(aAp (cT cJ (vv 3) (vv 1))),(aK (aG (vv 2) (va1 (vv 0))))⟩))))))) (aA (bN (cT (bAz (Nat.lt_of_succ_lt hu)) (vv 6) (bM gB)) (aB (aJ (aK (aG (vv 1) (va1 (vv 2)))))) aU) (aA (aY 9 (bO cX (vv 6) (bU aO (aG (vv 0) (va1 (aR bB (by rfl) T.eN cR (va1 (vv 6)))))))) (aA (aY 10 (bG cC (by rfl) T.cO cB (va1 (cZ (N:=["_law_column","_law_pair"]) ck (jJ (aD mV)) rfl (fX (vv 4)) (λcl W M fp=>⟨(fZ 0),(aAp (cT nJ (bO (gC (K:=K)) (vv 0) aC) (bO (gC (K:=K)) (vv 1) aC))),(vv 0)⟩))))) (aB (aJ (aK (aG (aK (aG aF (aG (vv 1) (aG (vv 3) (va1 (aK (va1 (vv 9)))))))) (va1 (aW aWo (vv 2) (vv 10))))))))))))),?_⟩;obtain⟨⟨nd,l1,l8⟩,hc⟩:=id a6;refine⟨_,rfl,_,rfl,_,rfl,_,rfl,vo,bd,vh,N,qo,ho,hd,ns,hs,rfl,bb,bj,a9,af,hh,a6,hN,hn,λr H1 v1 v2 q1 g s1 g1 av b9 ap an ag bo bs=>?_⟩;obtain⟨⟨a2,bq,bt⟩,ac⟩:=id an;refine⟨r,_,rfl,SqT.of g1,rfl,_,_,rfl,_,_,rfl,rfl,?_⟩;refine⟨(by show 0<=sizeLine;decide),λp H2 fp s2 g2=>?_⟩;have au:H p=none:=s1.free fp;have bf:p≠a:=C.ne au;have t2:=s1.trans s2;obtain⟨b,us,rfl,hb,U⟩:=hh;obtain⟨o,zs,rfl,Y,X⟩:=b9;have bu:=U.len;have bw:=X.len;refine⟨_,rfl,b,rfl,⟨_,t2.aQ hb⟩,pX (xs:=us) (λi σ M=>Same H1 M/\∃(ws:List V) (prs:List (Str × Str)) (l7 l8:Option V),M p=some (.lst ws)/\bY (oY K M) ws prs/\(∀B∈prs,bCi hd g B)/\ws.length<=8 * i/\σ=[some (.ref a),some vq,some (.ref b),some v1,some (.ref o),some (.ref N),some (.ref p),l7,l8,none,none]) ⟨s2,[],[],_,_,g2,.nil,(λB h=>by cases h),bAK _,rfl⟩ (λi σ M _ ⟨e,_⟩=>e.aQ (s1.aQ hb)) ?_ ?_⟩
 ·rintro i x σ M hx ⟨sm,ws,prs,l7,l8',gp,hw,hpr,lw,rfl⟩;obtain⟨c,b4,pc,rfl,ay⟩:=dH U hx;have a0:=bAR b4;refine⟨pc,_,rfl,sm.aQ (s1.aQ ay),rfl,_,_,rfl,_,_,rfl,rfl,?_⟩;refine⟨_,rfl,.inl ⟨rfl,_,SqL.of gp⟩,?_⟩
  try dsimp only[dO]
  refine sS [none,none,some (.str c.1),some (.str c.2)] ?_ ⟨_,rfl,o,rfl,⟨_,sm.aQ Y⟩,aA4 Same (qM M) zs (kp g c.2) (λi H y=>∃j t,g[i]?=some j/\j.2=c.2/\y=.ref t/\SqT K H t [.str c.1,.str j.1]) (λ_ e h=>?_) (λ_ _ e h=>?_) (λi σ=>∃j,g[i]?=some j/\At2 [none,none,some (.str c.1),some (.str c.2)] (.str j.1) (.str j.2) σ) (Ps2 [none,none,some (.str c.1),some (.str c.2)]) ⟨none,none,rfl⟩ (small (by lia)) _ (aDo λG W=>W.aQ (sm.aQ Y)) (rF λG W=>W.aQ (sm.aQ Y)) (λi x σ' G Q' ex be W qq=>?_) (λi x σ2 ex hA G R W rr=>?_) (λi x σ2 ex hA hp G R W rr=>?_) λD H3 ys s3 fD g3 a8=>?_⟩
  ·refine⟨rfl,λi y v g I=>?_⟩
   match i,g,I with
   |0,_,I=>cases I
   |1,_,I=>cases I
   |2,g,I=>cases g;cases I;exact⟨by trivial,7,rfl,rfl,by trivial⟩
   |3,g,I=>cases g;cases I;exact⟨by trivial,8,rfl,rfl,by trivial⟩
   |i+4,g,_=>cases g
  ·obtain⟨j,t,e1,e2,e3,e4⟩:=h;exact⟨j,t,e1,e2,e3,e.aQ e4⟩
  ·obtain⟨j,t,e1,e2,e3,e4⟩:=h;exact⟨j,t,e1,e2,e3,e4.aC3 e⟩
  ·obtain⟨j,hc',p',rfl,a5⟩:=dH X ex;exact hg2 (W.aQ (sm.aQ a5)) be fun σ2 g I=>qq σ2 g ⟨j,hc',I⟩
  ·obtain⟨j,hc',rfl⟩:=hA;refine⟨_,rfl,_,rfl,rfl,_,rfl,?_⟩;have e:kp g c.2 i=decide (V.str c.2=V.str j.2):=by unfold kp;rw[hc'];exact decide_eq_decide.mpr ⟨λz=>by rw[show j.2=c.2 from z],λz=>(V.str.inj z).symm⟩
   rw[<-e];exact rr G (Same.refl G)
  ·obtain⟨j,hc',rfl⟩:=hA;unfold kp at hp;rw[hc'] at hp;exact⟨_,rfl,_,rfl,(by show 2<=sizeLine;decide),λt H4 _ s4 g4=>rr _ _ s4 ⟨j,t,hc',of_decide_eq_true hp,rfl,SqT.of g4⟩⟩
  have br:ys.length<=8:=by have:=xX (kp g c.2) 0 (List.range zs.length);rw[bAH,a8.len] at this;lia
  obtain⟨b6,a7,al⟩:=aMq (hc c a0).1 (λx hx=>(ac x hx).1) a8;have ai:=s3 _ _ gp;have c2:i<8:=by have:=(List.getElem?_eq_some_iff.mp hx).1;lia
  have bm:D≠p:=(bA gp fD).symm;refine⟨p,D,_,_,rfl,rfl,ai,g3,small (by lia),?_⟩;refine⟨oW fp (sm.trans s3),ws++ys,prs++b6,_,_,aL,((hw.imp λ_ _ h=>h.same s3).app a7).imp (λ_ _ h=>h.tk λ_ _ e=>e.aC3 ai),λB hp=>?_,by rw[j4];lia,rfl⟩;rcases List.mem_append.mp hp with hp|hp
  ·exact hpr B hp
  ·obtain⟨e1,e2⟩:=al B hp;exact⟨c.2,by rw[e1];exact a0,e2⟩
 ·rintro σ H3 ⟨sm,ws,prs,l7,l8',gp,hw,hpr,lw,rfl⟩;have t3:=s1.trans sm;have bx:=hw.len;refine⟨_,rfl,(by show 0<=sizeLine;decide),λe H4 _ s4 g4=>⟨p,e,ws,rfl,rfl,SqL.of (s4 _ _ gp),SqL.of g4,_,rfl,?_⟩⟩;have t4:=t3.trans s4;by_cases a4:ws=[]
  ·have ee:ws.isEmpty=true:=by rw[a4];rfl
   rw[ee];refine bQ ?_;exact⟨_,rfl,_,rfl,(by show 2<=sizeLine;decide),λp5 H5 _ s5 g5=>q p5 H5 _ _ q0 hd (.of C (t4.trans s5)) g5 (hq.same (t4.trans s5)) ⟨b,us,rfl,(t4.trans s5).aQ hb,U.imp λ_ _ h=>h.same (t4.trans s5)⟩ aa a6 (by lia)⟩
  ·have bk:0<ws.length:=List.length_pos_iff.mpr a4;have ee:ws.isEmpty=false:=by cases ws with
    |nil=>exact absurd rfl a4
    |cons _ _=>rfl
   rw[ee];refine aZ ?_;have am:=s4 _ _ gp;refine⟨_,rfl,_,rfl,_,rfl,p,_,rfl,.inl (SqL.of am),a,_,rfl,C.same t4,(by show (0:Int)<(ws.length:Int);lia),λd H5 f5 d0 d1=>?_⟩;have ae:Fx a H H5:=(Fx.of C t4).trans f5;obtain⟨u,b3,az⟩:=at_of (xs:=ws) d0 d1;obtain⟨B,as,pp,rfl,b5,ax,a7⟩:=hw.mem az;obtain⟨k,bc,ak⟩:=hpr B as;have L:TK K H1 H5:=λ_ _ e=>f5.aQ (C.same t4) (s4.aQ (sm.aQ e));have aw:TK K H H5:=ae.tk C;have Z:SqT K H5 pp [.str B.1,.str B.2]:=f5.aQ (C.same t4) (s4.aQ b5);refine⟨p,_,_,_,rfl,rfl,SqL.of (f5.same _ _ bf am),b3,?_⟩
   try dsimp only[cI,kW,rC,tCB,dO]
   refine aTq zs (leP g B.2) [none,some (.ref pp)] ?_ (small (by lia)) (λR rr=>vV (L _ _ Y) (λR' r'=>⟨_,rfl,r'⟩) R rr) (λi x ex M R l ah rr=>?_) rfl λD H6 s6 g6=>?_
   ·exact tG 9 (by trivial) rfl rfl (by trivial)
   ·obtain⟨j,hc',p',rfl,a5⟩:=dH X ex;refine⟨_,rfl,p',_,0,_,rfl,rfl,ah.aQ (L _ _ a5),at0 _ _,_,rfl,pp,_,1,_,rfl,rfl,ah.aQ Z,at1 _ _ _,rfl,_,rfl,?_⟩;have e:leP g B.2 i=!decide (V.str j.1=V.str B.2):=by unfold leP;rw[hc'];exact congrArg not (decide_eq_decide.mpr ⟨λz=>congrArg V.str z,λz=>V.str.inj z⟩)
    rw[<-e];exact rr M (Same.refl M)
   refine⟨D,_,rfl,SqL.of g6,λt7 H7 _ s7 g7=>?_⟩;refine⟨_,rfl,_,rfl,_,rfl,(by show 1<=sizeLine;decide),λt8 H8 _ s8 g8=>?_⟩;refine⟨(by show 4<=sizeLine;decide),λqj H9 _ s9 g9=>?_⟩;have ao:=s8.trans s9;have S:=s6.trans (s7.trans ao);have ad:TK K H H9:=λ_ _ e=>S.aQ (aw _ _ e);have aq:TK K H1 H9:=λ_ _ e=>S.aQ (L _ _ e);have es:sel (leP g B.2) 0 g=g.filter λc=>!decide (c.1∈[B].map (·.2)):=vU λi x ex=>by unfold leP;rw[bDJ,ex];simp
   have a3:=aTl (p:=leP g B.2) X 0;rw[es] at a3;have bl:=a3.len;have bi:=aQx a2 ak;have bn:(g.filter λc=>!decide (c.1∈[B].map (·.2))).length+1=g.length:=by
    rw[<-bi]
    congr 2
    refine List.filter_congr λx _=>?_;simp
   refine⟨_,rfl,_,rfl,b,t7,_,_,rfl,rfl,ad _ _ hb,SqT.of (ao _ _ g7),small (by lia),λba c0 b0 bg=>?_⟩;refine⟨(by show 2<=sizeLine;decide),λb1 O _ ar bh=>?_⟩;have m:=b0.trans ar;have aj:Fx a H O:=ae.sm (S.trans m);have a1:TK K H O:=λ_ _ e=>m.aQ (ad _ _ e);have J:TK K H1 O:=λ_ _ e=>m.aQ (aq _ _ e);have ab:Good (hd++g.filter λc=>!decide (c.1∈[B].map (·.2))):=by refine⟨?_,by rw[j4];lia,by rw[j4];lia⟩;rw[bAY,bFB];refine⟨nd,a2.sublist (List.filter_sublist.map _),λx hx y hy e=>?_⟩;subst e;obtain⟨j,hc',rfl⟩:=List.mem_map.mp hy;exact ag j (List.mem_filter.mp hc').1 hx
   refine q b1 O _ _ (.join q0 q1 [B]) (hd++g.filter λc=>!decide (c.1∈[B].map (·.2))) aj bh ?_ ?_ ?_ ⟨ab,λj hc'=>?_⟩ ?_
   ·refine .join (SqT.of (m _ _ g9)) (hq.tk a1) (av.tk J) ⟨⟨t8,_,rfl,SqT.of ((s9.trans m) _ _ g8),.cons ⟨pp,rfl,(S.trans m).aQ Z,ax,a7⟩ .nil⟩,j9 _,by show 1<=3;decide⟩
   ·exact⟨ba,_,rfl,ar.aQ bg,(U.imp λ_ _ h=>h.tk a1).app (a3.imp λ_ _ h=>h.tk J)⟩
   ·exact .mk2 rfl aa ap (.join (ks:=[k]) (.cons ⟨oU nd bc,oU a2 ak⟩ .nil) (by simp) (by simp)) ab
   ·rcases List.mem_append.mp hc' with hc'|hc'
    ·exact hc j hc'
    ·exact ac j (List.mem_filter.mp hc').1
   ·show size q0+size q1+1<=_;lia
def hdK (hd:Hdr):List (Key × V):=hd.map λc=>((Sum.inr c.1:Key),V.str c.2)
def aZ9 (h:bY (IsC K H) us hd):aTx K H us (hdK hd):=by
 induction h with
 |nil=>exact .nil
 |cons r _ ih=>obtain⟨p,rfl,a⟩:=r;exact .cons ⟨p,rfl,a⟩ ih
def bBg (h:(hd.map (·.1)).Nodup):((hdK hd).map (·.1)).Nodup:=by unfold hdK;rw[bAP];have e:((λx:Key × V=>x.1) ∘ λc:Str × Str=>((Sum.inr c.1:Key),V.str c.2))=(λn:Str=>(Sum.inr n:Key)) ∘ λc:Str × Str=>c.1:=rfl;rw[e,<-bAP];exact List.pairwise_map.mpr (h.imp λa z=>a (Sum.inr.inj z))
theorem aPz (n:Str):∀hd:Hdr,pA (hdK hd) (Sum.inr n)=(look hd n).map V.str
 |[]=>rfl
 |c::r=>by
  show pA (((Sum.inr c.1:Key),V.str c.2)::hdK r) (Sum.inr n)=_;unfold look;rw[bBV];by_cases e:c.1=n
  ·rw[sO (by rw[e]),v7 e];rfl
  ·rw[sW (by intro z;exact e (Sum.inr.inj z)),j6 e];exact aPz n r
def aA3 {X:Cx}{scope:Scope}{N:List Str}{tl:TE}{σ:L2.St}{H:Hp}{Q:VK}{b:Addr}{us:List V}{cs:Hdr}(m:H b=some (.lst us))(u:bY (IsC K H) us cs)(h8:cs.length<=100)(o:Cap X scope N σ [none,none])(I:∀R:VK,R (.ref b) H->tl σ H R)
  (q:∀D H',H D=none->Same H H'->H' D=some (.lst ((cs.map (·.1)).map V.str))->Q (.ref D) H'):jP X scope N (aFn K tl) (aGn K 2 (rA (cI 0) (rA (cI 1) aNe))) uA (lG 0) σ H Q:=by
 have E:=u.len;refine wR [none,none] o (I _ ⟨b,rfl,⟨_,SqL.of m⟩,aA4 Same (qM H) us (λ_=>true) (λi _ y=>∃c,cs[i]?=some c/\y=.str c.1) (λ_ _ h=>h) (λ_ _ _ h=>h) (λi σ=>∃c,cs[i]?=some c/\At2 [none,none] (.str c.1) (.str c.2) σ) (Ps2 [none,none]) ⟨none,none,rfl⟩ (small (by lia)) _ (aCc λH' a=>SqL.of (a _ _ m)) (sX λH' a=>SqL.of (a _ _ m)) (λi x G H' J g e a t=>?_) (λi x f g k H' R a r=>r _ (Same.refl _)) (λi x f g k _ H' R a r=>?_) λD w F A z n d=>?_⟩)
 ·obtain⟨c,j,p,rfl,s⟩:=dH u g;exact hg2 (a.aQ s) e fun f C B=>t f C ⟨c,j,B⟩
 ·obtain⟨c,j,rfl⟩:=k;exact⟨_,rfl,r _ _ (Same.refl H') ⟨c,j,rfl⟩⟩
 ·rw[oX] at d;obtain⟨l,v⟩:=lL d;rw[aKe (by lia) v] at n;exact q D w z A n
inductive aF6 (K:bFC)(vs:List V)(H:Hp)(Q:VK)(E_:XK):Prop
 |mk (a N:Addr) (vq vh:V) (q:Qn) (hd:Hdr) (ns:List Str) (hs:Str->Option Hdr) (_:vs=[.ref a,vq,vh,.ref N]) (_:jV H a) (_:N≠a) (_:IsQ K H vq q) (_:jW K H vh hd) (_:wJ hd) (_:HQ hs q hd) (_:H N=some (.lst (ns.map V.str))) (_:jC ns) (_:∀p H' v1 v2 q' hd',Fx a H H'->H' p=some (.tup [v1,v2])->IsQ K H' v1 q'->jW K H' v2 hd'->HQ hs q' hd'->wJ hd'->size q'<=size q+1->Q (.ref p) H')
abbrev lmW:List V:=[.str "least",.str "most"]
def aEv (T:Txt w K mg)(iQ:Ok P w K mg base 2 "_law_some" o6 (aB8 K))(bk:Ok P w K mg base 2 "_law_sums" u9 (aJ1 K)) :
  Ok P w K mg base 3 "_law_group" o4 (aF6 K):=by
 refine Ok.ofV T.aGw oF (by trivial) (λf bh A b0 s H vs Q E hr h=>?_)
 obtain⟨a,N,vq,vh,q0,hd,ns,hs,rfl,B,bc,hq,hh,aq,aw,hN,hn,q⟩:=h;have hu:=aLk hr;have bq:=oF.nd;refine⟨_,(aA (aY 4 (dI oN (bU iQ (aG (vv 0) (aG (vv 2) (va1 aC)))) iC (cY aC))) (aA (aY 5 (bG cC (by rfl) T.cO cB (va1 (cZ (N:=bQQ) ck eV rfl (mQ (vv 4)) (λcl s' g fp=>⟨(lF (K:=K) (n:=2) rfl (aX (fZ 0) (aX (fZ 1) dF))),eZ,(vv 0)⟩))))) (aA (wZ (i0:=6) oF.nd rfl (by trivial) (N:=["_law_name","_law_some_here"]) ck (jJ (aD pY)) rfl (mQ (dI oN (vv 3) (cY aC) iC)) (λcl s' g fp=>⟨(fZ 0),(aAp (zM (uZ (K:=K)) (vv 0) (vv 1) (by with_unfolding_all rfl))),(vv 0)⟩)) (aA (aY 7 (bU bk (aG (vv 0) (aG (vv 2) (va1 (vv 6)))))) (aA (gR PassesOwn.never rfl (fX (vv 7)) (kE rfl (aX (cU 8) (aX (cU 9) (aX (cU 10) dF)))) (aA (aY 11 aF) (aA (bN (zM tU (vv 8) (aK (aG aF (va1 aF))) (by with_unfolding_all rfl)) (aB (aY 11 (aPi hu (bG (aNk rfl) (by rfl) T.bAp aWt (va1 (vv 2))) (vv 9) (λ_ _=>rfl)))) aU) (aB (dG (fK PySem.F.plainAttrs_list PySem.F.slot_list_append PySem.F.type_list_append dM (vv 4) (va1 (aK (aG (vv 10) (va1 (vv 11))))))))))) (aB (aJ (aK (aG (aK (aG aF (aG (vv 1) (aG (vv 5) (va1 (vv 7)))))) (va1 (bG cC (by rfl) T.cO cB (va1 (vv 4))))))))))))),?_⟩;obtain⟨⟨nd,l1,l8⟩,hc⟩:=id aq;refine⟨_,rfl,_,rfl,a,vh,hd,0,rfl,B,hh,⟨nd,l1,l8⟩,by decide,λD H1 us aa f1 fD g1 b4 au _=>?_⟩;refine⟨_,rfl,D,_,rfl,SqL.of g1,λp H2 fp s2 g2=>?_⟩;rw[show (6:Int)=((6:Nat):Int) from rfl,aB5] at g2;have az:=f1.sm s2;have L:bY (IsC K H2) (us.take 6) (aa.take 6):=aAu (b4.imp λ_ _ h=>h.same s2) 6;have d:=au.take 6;have ad:H p=none:=f1.free fp;have J:p≠a:=B.ne ad;generalize us.take 6=zs at g2 L;have l6:(aa.take 6).length<=6:=by rw[bAV];lia
 generalize aa.take 6=hz at L d l6;have lz:=L.len;have ao:∀c∈hz,Nm c.1/\aBv c.2:=λc h=>hc c (d.1 c h)
 try dsimp only[cI,kW,rC,tCB,dO]
 refine aA3 g2 L (by lia) lH (λR r=>⟨_,rfl,r⟩) λD3 H3 bi s3 g3=>?_;refine⟨D3,_,rfl,SqL.of g3,λt4 H4 bv s4 g4=>?_⟩;have a8:=(az.sm s3).sm s4;have b5:=(s3.trans s4) _ _ g2
 try dsimp only[cI,kW,rC]
 refine aC7 (K:=K) (U:=.ref t4) (used:=hz.map (·.1)) hn ?_ (λR r=>?_) (λn l g R s' r=>?_) λF H5 fF s5 gF=>?_
 ·exact tG 5 (by trivial) rfl rfl (by trivial)
 ·refine⟨_,rfl,_,rfl,N,_,rfl,SqL.of (a8.same _ _ bc hN),λp' g ax s' g'=>r p' g ax s' ?_⟩;rw[g',show (3:Int)=((3:Nat):Int) from rfl,aFo,List.map_drop]
 ·refine⟨_,rfl,_,rfl,t4,_,rfl,.inr (SqT.of (s' _ _ g4)),rfl,aDi,_,rfl,?_⟩;rw[zO];exact r g (Same.refl g)
 obtain⟨af,S,Z,a1⟩:=aJl (used:=hz.map (·.1)) hn;rw[d7] at Z;generalize bn:jL ns (hz.map (·.1))=fr at gF af S Z a1;have C:=a8.sm s5;have be:F≠a:=a8.st.ne fF
 try dsimp only[cI]
 refine⟨_,rfl,_,rfl,_,rfl,a,F,vh,hd,fr,rfl,C.st,hh.tk (C.tk B),aq,gF,be,by lia,λn h=>(S n h).1,λbg H6 t W f6 b1 a2 X al=>?_⟩;obtain⟨⟨sa,xs,rfl,a6,a4⟩,bp,br⟩:=b1;have bl:=a4.len;have bs:=a2.len;have a9:=C.trans f6;have ba:=f6.same _ _ J (s5 _ _ b5);obtain⟨av,ap,rfl,bf,ar⟩:=id hh;have bo:=ar.len;refine⟨_,rfl,sa,rfl,⟨_,a6⟩,pX (xs:=xs) (λi σ g=>(Fx a H g/\TK K H6 g)/\∃(ws:List V) (l8 l9 l10 l11:Option V),g p=some (.lst (zs++ws))/\ws.length=i/\bY (IsC K g) ws (((t.map Sm.new).zip W).take i)/\σ=[some (.ref a),some vq,some (.ref av),some (.ref N),some (.ref p),some (.ref t4),some (.ref F),some (.ref sa),l8,l9,l10,l11]) ⟨⟨a9,λ_ _ e=>e⟩,[],_,_,_,_,by rw[bAW];exact ba,rfl,.nil,rfl⟩ (λi σ g _ ⟨e,_⟩=>e.2 _ _ a6) ?_ ?_⟩
 ·rintro i x σ g hx ⟨⟨fl,tk6⟩,ws,l8',l9,l10,l11,gp,lws,hws,rfl⟩;obtain⟨M,u,ai⟩:=dH a4 hx;obtain⟨j,ah,v,b2⟩:=dH a2 u;have hi:i<t.length:=(List.getElem?_eq_some_iff.mp u).1;have b3:aBv j:=al M j (bAR (List.getElem?_zip_eq_some.mpr ⟨u,ah⟩));obtain⟨b,rfl,bt,a5⟩:=ai;have b6:((t.map Sm.new).zip W).take (i+1)=((t.map Sm.new).zip W).take i++[(M.new,j)]:=by have e:((t.map Sm.new).zip W)[i]?=some (M.new,j):=List.getElem?_zip_eq_some.mpr ⟨by rw[bAC,u];rfl,ah⟩;rw[bBM,e];rfl
  have ak:∀Hc,Fx a g Hc->∀m I,Hc m=none->Same Hc I->I m=some (.tup [.str M.new,.str j])->I p=some (.lst (zs++ws))/\(Fx a H (upd I p (.lst (zs++ws++[V.ref m])))/\TK K H6 (upd I p (.lst (zs++ws++[V.ref m]))))/\(ws++[V.ref m]).length=i+1/\bY (IsC K (upd I p (.lst (zs++ws++[V.ref m])))) (ws++[V.ref m]) (((t.map Sm.new).zip W).take (i+1)):=by
   intro Hc fc m I G Y gy;have as:=fc.same _ _ J gp;have a7:=Y _ _ as;have b9:m≠p:=(bA as G).symm;refine⟨a7,⟨((fl.trans fc).sm Y).upd ad J,λ_ _ e=>(Y.aQ (fc.aQ fl.st (tk6 _ _ e))).aC3 a7⟩,by rw[j4,lws];rfl,?_⟩
   ·rw[b6];exact (hws.imp λ_ _ h=>(h.tk ((fc.sm Y).tk fl.st)).tk λ_ _ e=>e.aC3 a7).app (.cons ⟨m,rfl,SqT.of (by rw[aV b9];exact gy)⟩ .nil)
  have ag:∃cv,SqT K H6 b [.str M.wd,cv,.str M.new]/\((inV (.str M.wd) lmW=true/\∃c,cv=.str c/\look hd c=some j)\/(inV (.str M.wd) lmW=false/\j = "number")):=by
   rcases a5 with⟨e,ec,hb⟩|⟨c,ec,hcn,hwd,hb⟩
   ·refine⟨_,by rw[e];exact hb,.inr ⟨by rw[e];decide +kernel,?_⟩⟩;unfold smK at v;rw[ec] at v;exact (bAM v).symm
   ·have O:look hd c=some j:=by unfold smK at v;rw[ec] at v;exact v
    refine⟨_,hb,?_⟩;rcases hwd with e|e|e
    ·refine .inr ⟨by rw[e];decide +kernel,?_⟩;rcases b3 with z|z
     ·exact z
     ·exact absurd z (b2 e)
    ·exact .inl ⟨by rw[e];decide +kernel,c,rfl,O⟩
    ·exact .inl ⟨by rw[e];decide +kernel,c,rfl,O⟩
  obtain⟨cv,hb,bd⟩:=ag;refine⟨b,_,rfl,tk6 _ _ hb,rfl,_,_,rfl,_,_,rfl,_,_,rfl,rfl,?_⟩;refine⟨_,rfl,(by show 2<=sizeLine;decide),λtt Ht bj st gt=>⟨tt,lmW,rfl,.inr (SqT.of gt),rfl,rfl,_,rfl,?_⟩⟩;have a3:Fx a g Ht:=.of fl.st st;rcases bd with⟨ew,c,rfl,O⟩|⟨ew,rfl⟩
  ·show if inV (.str M.wd) lmW=true then _ else _
   rw[ew];refine bQ ?_;have an:bY (IsC K Ht) ap hd:=ar.imp λ_ _ h=>h.tk λ_ _ e=>st.aQ (tk6 _ _ (a9.tk B _ _ e));refine⟨_,rfl,av,_,_,rfl,st.aQ (tk6 _ _ (a9.tk B _ _ bf)),aZ9 an,by lia,λdd Hd bm sd gd=>?_⟩;rw[aR4 (bBg nd)] at gd;refine⟨_,rfl,dd,.str j,rfl,?_,?_⟩
   ·have hg:=aL2.k (k:=(Sum.inr c:Key)) gd;rw[aPz,O] at hg;exact hg
   ·have ae:Fx a g Hd:=a3.sm sd;refine⟨_,rfl,.inl ⟨rfl,_,SqL.of (ae.same _ _ J gp)⟩,_,rfl,_,rfl,(by show 2<=sizeLine;decide),λm I G Y gy=>?_⟩;obtain⟨k1,k2,k3,k4⟩:=ak Hd ae m I G Y gy;exact⟨p,_,_,rfl,rfl,k1,dC (by rw[j4];lia),k2,ws++[V.ref m],_,_,_,_,by rw[<-bAD];exact aL,k3,k4,rfl⟩
  ·show if inV (.str M.wd) lmW=true then _ else _
   rw[ew];refine aZ ?_;refine⟨_,rfl,.inl ⟨rfl,_,SqL.of (a3.same _ _ J gp)⟩,_,rfl,_,rfl,(by show 2<=sizeLine;decide),λm I G Y gy=>?_⟩;obtain⟨k1,k2,k3,k4⟩:=ak Ht a3 m I G Y gy;exact⟨p,_,_,rfl,rfl,k1,dC (by rw[j4];lia),k2,ws++[V.ref m],_,_,_,_,by rw[<-bAD];exact aL,k3,k4,rfl⟩
 ·rintro σ g ⟨⟨fl,tk6⟩,ws,l8',l9,l10,l11,gp,lws,hws,rfl⟩;have bu:((t.map Sm.new).zip W).length=t.length:=by rw[List.length_zip,d7];lia
  rw[bBK (by lia)] at hws;have a0:((t.map Sm.new).zip W).map (·.1)=t.map Sm.new:=List.map_fst_zip (by rw[d7];lia);have am:Good (hz++(t.map Sm.new).zip W):=by refine⟨?_,by rw[j4];lia,by rw[j4];lia⟩;rw[bAY,a0,X,bFB];refine⟨d.2.1,af.sublist (bCY _ _),λx hx y hy e=>?_⟩;subst e;exact (S x (bBX hy)).2 hx
  refine⟨_,rfl,_,rfl,_,rfl,(by show 4<=sizeLine;decide),λqj H7 _ s7 g7=>⟨_,rfl,p,_,rfl,SqL.of (s7 _ _ gp),λt8 H8 _ s8 g8=>⟨(by show 2<=sizeLine;decide),λp9 H9 _ s9 g9=>?_⟩⟩⟩;have t9:=s7.trans (s8.trans s9);have ab:=fl.sm t9;have ay:TK K H H9:=ab.tk B;have o:TK K H6 H9:=λ_ _ e=>t9.aQ (tk6 _ _ e);have ac:TK K H2 H9:=λ_ _ e=>o _ _ (f6.aQ C.st (s5.aQ (s4.aQ (s3.aQ e))));have aj:TK K H4 H9:=λ_ _ e=>o _ _ (f6.aQ C.st (s5.aQ e));refine q p9 H9 _ _ (.group q0 (hz.map (·.1)) t) (hz++(t.map Sm.new).zip W) ab g9 ?_ ?_ ?_ ⟨am,λc hcm=>?_⟩ (j9 _)
  ·refine .group (SqT.of ((s8.trans s9) _ _ g7)) (hq.tk ay) (lJ (aj _ _ (SqT.of g4)) (λn bb=>?_) (bAK _) (by rw[d7];lia)) ⟨⟨sa,xs,rfl,o _ _ a6,a4.imp λ_ _ h=>h.tk o⟩,bAK _,by lia⟩;obtain⟨c,hcm,rfl⟩:=List.mem_map.mp bb;exact (ao c hcm).1
  ·exact⟨t8,_,rfl,SqT.of (s9 _ _ g8),(L.imp λ_ _ h=>h.tk ac).app (hws.imp λ_ _ h=>h.same t9)⟩
  ·have h:=HH.group (hs:=hs) (q:=q0) (yR nd d.1) a2;rw[zip_fst_snd] at h;exact .mk1 rfl aw h am
  ·rcases List.mem_append.mp hcm with hcm|hcm
   ·exact ao c hcm
   ·refine⟨(S c.1 (bBX (l:=fr) (i:=t.length) ?_)).1,?_⟩
    ·rw[<-X,<-a0];exact List.mem_map.mpr ⟨c,hcm,rfl⟩
    ·rw[List.zip_map_left] at hcm;obtain⟨⟨s',j'⟩,hm,rfl⟩:=List.mem_map.mp hcm;exact al s' j' hm
def aBk (ts:List (Str × Hdr))(n:Str):Option Hdr:=(ts.find? λt=>decide (t.1=n)).map (·.2)
def aVr (K:bFC)(H:Hp)(d:Addr)(ts:List (Str × Hdr)):Prop:=∃kvs,H d=some (.dK kvs)/\bY (λkv t=>kv.1=Sum.inr t.1/\jW K H kv.2 t.2) kvs ts
structure bDz (ts:List (Str × Hdr)):Prop where
 nd:(ts.map (·.1)).Nodup
 nm:∀t∈ts,Nm t.1/\wJ t.2
 l1:1<=ts.length
 l3:ts.length<=3
def aVr.fx (h:aVr K H d ts)(hs:jV H a)(f:Fx a H H'):aVr K H' d ts:=by obtain⟨b,c,e⟩:=h;obtain⟨st,g,_⟩:=id hs;exact⟨b,f.same d _ (wK c g (by intro z;cases z)) c,e.imp λ_ _ q=>⟨q.1,q.2.tk (f.tk hs)⟩⟩
def aAi (h:bY (λ(kv:Key × V) (t:Str × Hdr)=>kv.1=Sum.inr t.1/\jW K H kv.2 t.2) kvs ts):kvs.map (·.1)=(ts.map (·.1)).map λn=>(Sum.inr n:Key):=by
 induction h with
 |nil=>rfl
 |cons r _ ih=>rw[bAB,bAB,bAB,ih,r.1]
def aJx (h:bY (λ(kv:Key × V) (t:Str × Hdr)=>kv.1=Sum.inr t.1/\jW K H kv.2 t.2) kvs ts)(n:Str)(hd:Hdr):aBk ts n=some hd->∃v,pA kvs (Sum.inr n)=some v/\jW K H v hd:=by
 induction h with
 |nil=>intro e;cases e
 |@cons kv t kvs ts r _ ih=>
  intro e;unfold aBk at e;rw[bBV] at e;by_cases a:t.1=n
  ·rw[v7 a] at e;have e:=bAM e;exact⟨kv.2,sO (by rw[r.1,a]),by rw[<-e];exact r.2⟩
  ·rw[j6 a] at e;rw[sW (by rw[r.1];intro z;exact a (Sum.inr.inj z))];exact ih e
def tW (a:(ts.map (·.1)).Nodup)(h:t∈ts):aBk ts t.1=some t.2:=by
 induction ts with
 |nil=>cases h
 |cons x r ih=>
  rw[bAB,bER] at a;unfold aBk;rw[bBV];rcases List.mem_cons.mp h with rfl|h
  ·rw[v7 rfl];rfl
  ·rw[j6 (λz=>a.1 (by rw[z];exact List.mem_map.mpr ⟨t,h,rfl⟩))];exact ih a.2 h
def bnd:Nat->Nat
 |0=>1
 |1=>5
 |_=>13
theorem aO8:∀m,1<=bnd m
 |0=>by decide
 |1=>by decide
 |_+2=>by show 1<=13;decide
theorem aSn:∀{m},m<=1->bnd m+4<=bnd (m+1)
 |0,_=>by decide
 |1,_=>by decide
 |_+2,h=>by lia
inductive aZf (K:bFC)(n:Nat)(vs:List V)(H:Hp)(Q:VK)(E_:XK):Prop
 |mk (a d N:Addr) (m:Nat) (ts:List (Str × Hdr)) (ns:List Str) (_:vs=[.ref a,.ref d,.ref N,.int (m:Nat)]) (_:m<n) (_:m<=2) (_:jV H a) (_:N≠a) (_:aVr K H d ts) (_:bDz ts) (_:H N=some (.lst (ns.map V.str))) (_:jC ns) (_:∀p H' v1 v2 q' hd',Fx a H H'->H' p=some (.tup [v1,v2])->IsQ K H' v1 q'->jW K H' v2 hd'->HQ (aBk ts) q' hd'->wJ hd'->size q'<=bnd m->Q (.ref p) H')
def turned (ns:List Str)(t n:Nat):List Str:=(List.range n).map λi=>ns.getD (3+(t+i) % 14) ""
def aP9 (h:jC ns)(t:Nat)(hn:n<=14):(turned ns t n).Nodup/\∀x∈turned ns t n,Nm x:=by
 have b:∀i,ns.getD (3+(t+i) % 14) ""∈ns/\ns[3+(t+i) % 14]?=some (ns.getD (3+(t+i) % 14) ""):=λi=>by
  have a:3+(t+i) % 14<ns.length:=by rw[h.1];lia
  rw[bAZ,b8 a];exact⟨bCP a,rfl⟩
 refine⟨?_,λx g=>?_⟩
 ·refine List.pairwise_map.mpr (bEB ?_ List.nodup_range);intro i j a c k e;have a:=List.mem_range.mp a;have c:=List.mem_range.mp c;have f:=(b i).2;have d:=(b j).2;rw[<-e] at d;have:=aNt h.2.2 f d;lia
 ·obtain⟨i,_,rfl⟩:=List.mem_map.mp g;exact h.2.1 _ (b i).1
def aQl (h:jC ns)(e:(turned ns t n)[i]?=some x):ns[3+(t+i) % 14]?=some x:=by
 have b:i<n:=by have:=(List.getElem?_eq_some_iff.mp e).1;simpa [turned] using this
 unfold turned at e;rw[bAC,bCA b] at e;have e:ns.getD (3+(t+i) % 14) ""=x:=bAM e;have a:3+(t+i) % 14<ns.length:=by rw[h.1];lia
 rw[bAZ,b8 a] at e;rw[b8 a];exact congrArg some e
def aMn (e:((List.range n).map λi:Nat=>V.int (0+(i:Int)))[i]?=some x):i<n/\x=.int (0+(i:Int)):=by
 have a:i<n:=by have:=(List.getElem?_eq_some_iff.mp e).1;rw[d7,bAH] at this;exact this
 rw[bAC,bCA a] at e;exact⟨a,(bAM e).symm⟩
theorem pI (T:Txt w K mg)(aO:Ok P w K mg base 1 "_law_next" m7 gO)(iQ:Ok P w K mg base 2 "_law_some" o6 (aB8 K))(cc:Ok P w K mg base 3 "_law_keys" o7 (aK8 K))
  (zK:Ok P w K mg base 4 "_law_tests" o7 (aFr K)) (wQ:Ok P w K mg base 3 "_law_group" o4 (aF6 K))
  (bx:Ok P w K mg base 2 "_law_join" n6 (aJk K)) :
  ∀n:Nat,Ok P w K mg base (n+6) "_law_question" o8 (aZf K n)
 |0=>by
  refine Ok.ofV T.qZ gM (λvs H Q E h=>?_) (λf c0 A b0 s H vs Q E Z h=>?_)
  ·obtain⟨a,d,N,m,ts,ns,rfl,_⟩:=h;rfl
  ·obtain⟨a,d,N,m,ts,ns,rfl,hm,_⟩:=h;lia
 |n+1=>by
  have gZ:=pI T aO iQ cc zK wQ bx n;refine Ok.ofV T.qZ gM (λvs H Q E h=>?_) (λf c0 A b0 s H vs Q E Z h=>?_)
  ·obtain⟨a,d,N,m,ts,ns,rfl,_⟩:=h;rfl
  obtain⟨a,d,N,m,ts,ns,rfl,ct,co,O,J,hD,j,hN,hn,q⟩:=h;have hu:=aLk Z;have cu:=gM.nd;refine⟨_,(aA (bN (VW.pt (nH (cT cJ (vv 3) aC) (jY (cT cJ (dX (aO.mono (by lia)) Z (by rfl) (aG (vv 0) (va1 aC))) aC)))) (aA (aY 4 (bO cX (aR (aNu rfl) (by rfl) T.aTe aR3 (va1 (vv 1))) (dX (aO.mono (by lia)) Z (by rfl) (aG (vv 0) (va1 (aR aQe (by rfl) T.eN cR (va1 (vv 1)))))))) (aB (aJ (aK (aG (aK (aG aF (va1 (vv 4)))) (va1 (aPi hu (vv 1) (vv 4) (λ_ _=>rfl)))))))) aU) (aA (aY 5 (dX (aO.mono (by lia)) Z (by rfl) (aG (vv 0) (va1 aC)))) (aA (rD (dX (gZ.mono (by lia)) Z (by rfl) (aG (vv 0) (aG (vv 1) (aG (vv 2) (va1 (aW aDk (vv 3) aC)))))) (kE rfl (aX (cU 6) (aX (cU 7) dF)))) (aA (bN (cT cJ (vv 5) aC) (aB (aJ (aK (aG (aK (aG aF (aG (vv 6) (va1 (dX (zK.mono (by lia)) Z (by rfl) (aG (vv 0) (va1 (vv 7)))))))) (va1 (vv 7)))))) aU) (aA (bN (cT cJ (vv 5) aC) (aA (aY 8 (dX (iQ.mono (by lia)) Z (by rfl) (aG (vv 0) (aG (vv 7) (va1 aC))))) (aB (aJ (aK (aG (aK (aG aF (aG (vv 6) (va1 (bG cC (by rfl) T.cO cB (va1 (cZ (N:=bQQ) ck eV rfl (mQ (vv 8)) (λcl s' H' fp=>⟨(lF (K:=K) (n:=2) rfl (aX (fZ 0) (aX (fZ 1) dF))),eZ,(vv 0)⟩)))))))) (va1 (bG cC (by rfl) T.cO cB (va1 (vv 8))))))))) aU) (aA (bN (cT cJ (vv 5) aC) (aA (aY 9 (dX (aO.mono (by lia)) Z (by rfl) (aG (vv 0) (va1 aC)))) (aA (aY 10 (cZ (N:=["_law_k","_law_names_here","_law_turn"]) ck (jJ (aD iD)) rfl (eE (by rfl) T.gG (va1 (aR bB (by rfl) T.eN cR (va1 (vv 7))))) (λcl s' H' fp=>⟨(fZ 0),eZ,(bO (xK (K:=K)) (vv 1) (aW eG aC (aW wH (aW eG (vv 2) (vv 0)) aC)))⟩))) (aA (wZ (i0:=11) gM.nd rfl (by trivial) (N:=bQN) ck (jJ (aD iD)) rfl (eE (by rfl) T.gG (va1 (aR bB (by rfl) T.eN cR (va1 (vv 7))))) (λcl s' H' fp=>⟨(fZ 0),eZ,(aK (aG (bO (xK (K:=K)) (vv 1) (vv 0)) (va1 (bO (gC (K:=K)) (bO (gC (K:=K)) (vv 2) (vv 0)) aC))))⟩)) (aB (aJ (aK (aG (aK (aG aF (aG (vv 6) (va1 (bG cC (by rfl) T.cO cB (va1 (vv 10))))))) (va1 (bG cC (by rfl) T.cO cB (va1 (vv 11))))))))))) aU) (aA (bN (cT cJ (vv 5) aC) (aA (rD (dX (gZ.mono (by lia)) Z (by rfl) (aG (vv 0) (aG (vv 1) (aG (vv 2) (va1 (bG tO (by rfl) T.aFx aAo (va1 (uC cJ (vv 3) aC)))))))) (kE rfl (aX (cU 12) (aX (cU 13) dF)))) (aB (aJ (dX (bx.mono (by lia)) Z (by rfl) (aG (vv 0) (aG (vv 6) (aG (vv 7) (aG (vv 12) (aG (vv 13) (va1 (vv 2))))))))))) aU) (aA (bN (cT cJ (vv 5) aC) (aB (aJ (dX (wQ.mono (by lia)) Z (by rfl) (aG (vv 0) (aG (vv 6) (aG (vv 7) (va1 (vv 2)))))))) aU) (aB (aJ (aK (aG (aK (aG aF (aG (vv 6) (aG (dX (cc.mono (by lia)) Z (by rfl) (aG (vv 0) (va1 (vv 7)))) (va1 (dX (aO.mono (by lia)) Z (by rfl) (aG (vv 0) (va1 aC)))))))) (va1 (vv 7)))))))))))))),?_⟩;refine⟨_,rfl,rfl,_,rfl,?_⟩;by_cases em:m=0
  ·have e:decide (V.int (m:Int)=V.int 0)=true:=by rw[em];rfl
   rw[e];refine bQ ?_;have f1:Fx a H H:=.refl O;obtain⟨W,ac,ab⟩:=hD.fx O f1;have ax:=ab.len;obtain⟨br,bs⟩:=And.intro j.l1 j.l3;refine⟨_,rfl,d,W,_,rfl,ac,aAi ab,by lia,λB H2 ss fB s2 hp g2=>⟨_,rfl,_,rfl,d,W,rfl,s2 _ _ ac,a,_,rfl,f1.st.same s2,(by show (0:Int)<(W.length:Int);lia),λk H3 f3 k0 k1=>?_⟩⟩;have a5:=hp.length_eq;rw[d7] at a5;obtain⟨u,b1,ay⟩:=at_of (xs:=ss.map V.str) k0 (by rw[d7,a5,<-ax];exact k1);obtain⟨nm,b4,rfl⟩:=List.mem_map.mp ay;obtain⟨t,C,rfl⟩:=List.mem_map.mp (hp.mem_iff.mp b4);have av:B≠a:=f1.st.ne fB;refine⟨B,_,_,_,rfl,rfl,SqL.of (f3.same _ _ av g2),b1,?_⟩;have b:=(f1.sm s2).trans f3;obtain⟨bo,a7,a6⟩:=hD.fx O b;obtain⟨v,hv,aw⟩:=aJx a6 t.1 t.2 (tW j.nd C);refine⟨_,rfl,(by show 2<=sizeLine;decide),λt4 H4 _ s4 g4=>⟨_,rfl,_,rfl,d,v,rfl,?_,(by show 2<=sizeLine;decide),λp5 H5 _ S g5=>?_⟩⟩
   ·have hg:=aL2.k (k:=(Sum.inr t.1:Key)) (s4 _ _ a7);rw[hv] at hg;exact hg
   ·exact q p5 H5 _ _ (.table t.1) t.2 (b.sm (s4.trans S)) g5 (.table (SqT.of (S _ _ g4)) (j.nm t C).1) (aw.same (s4.trans S)) (.mk0 rfl (.table (tW j.nd C)) (j.nm t C).2.1) (j.nm t C).2 (aO8 m)
  have e:decide (V.int (m:Int)=V.int 0)=false:=j6 (by intro z;have:=V.int.inj z;lia);rw[e];refine aZ ?_;refine⟨_,rfl,a,6,rfl,O,by decide,λd0 H1 f1 _ _=>⟨rfl,_,rfl,?_⟩⟩;refine pQ (λ_=>?_) (λ_=>?_)
  ·obtain⟨W,ac,ab⟩:=hD.fx O f1;have ax:=ab.len;obtain⟨br,bs⟩:=And.intro j.l1 j.l3;refine⟨_,rfl,d,W,_,rfl,ac,aAi ab,by lia,λB H2 ss fB s2 hp g2=>⟨_,rfl,_,rfl,d,W,rfl,s2 _ _ ac,a,_,rfl,f1.st.same s2,(by show (0:Int)<(W.length:Int);lia),λk H3 f3 k0 k1=>?_⟩⟩;have a5:=hp.length_eq;rw[d7] at a5;obtain⟨u,b1,ay⟩:=at_of (xs:=ss.map V.str) k0 (by rw[d7,a5,<-ax];exact k1);obtain⟨nm,b4,rfl⟩:=List.mem_map.mp ay;obtain⟨t,C,rfl⟩:=List.mem_map.mp (hp.mem_iff.mp b4);have av:B≠a:=f1.st.ne fB;refine⟨B,_,_,_,rfl,rfl,SqL.of (f3.same _ _ av g2),b1,?_⟩;have b:=(f1.sm s2).trans f3;obtain⟨bo,a7,a6⟩:=hD.fx O b;obtain⟨v,hv,aw⟩:=aJx a6 t.1 t.2 (tW j.nd C);refine⟨_,rfl,(by show 2<=sizeLine;decide),λt4 H4 _ s4 g4=>⟨_,rfl,_,rfl,d,v,rfl,?_,(by show 2<=sizeLine;decide),λp5 H5 _ S g5=>?_⟩⟩
   ·have hg:=aL2.k (k:=(Sum.inr t.1:Key)) (s4 _ _ a7);rw[hv] at hg;exact hg
   ·exact q p5 H5 _ _ (.table t.1) t.2 (b.sm (s4.trans S)) g5 (.table (SqT.of (S _ _ g4)) (j.nm t C).1) (aw.same (s4.trans S)) (.mk0 rfl (.table (tW j.nd C)) (j.nm t C).2.1) (j.nm t C).2 (aO8 m)
  refine⟨_,rfl,a,6,rfl,f1.st,by decide,λcm H2 f2 w0 w1=>?_⟩;have ad:=f1.trans f2;obtain⟨m',rfl⟩:∃m',m=m'+1:=⟨m - 1,by lia⟩;have c6:(((m'+1:Nat):Int) - 1)=(m':Nat):=by lia
  refine⟨_,rfl,_,rfl,_,rfl,_,rfl,_,_,rfl,rfl,a,d,N,m',ts,ns,?_,by lia,by lia,ad.st,J,hD.fx O ad,j,ad.same _ _ J hN,hn,λr H3 v1 v2 q1 g f3 g3 a4 L I o cr=>?_⟩
  ·exact congrArg (λz=>[V.ref a,V.ref d,V.ref N,V.int z]) c6
  have b:=ad.trans f3;refine⟨r,_,rfl,SqT.of g3,rfl,_,_,rfl,_,_,rfl,rfl,?_⟩;obtain⟨⟨c2,l1,l8⟩,bk⟩:=id o;have bm:m'<=1:=by lia
  have cq:=aSn bm;refine⟨_,rfl,rfl,_,rfl,pQ (λ_=>?_) (λ_=>?_)⟩
  ·refine⟨_,rfl,_,rfl,_,rfl,a,v2,g,rfl,b.st,L,o,λvt H4 be U ak bg=>⟨(by show 3<=sizeLine;decide),λt5 H5 _ S g5=>⟨_,rfl,(by show 2<=sizeLine;decide),λp6 H6 _ s6 g6=>?_⟩⟩⟩;have b3:=S.trans s6;have am:TK K H3 H6:=λ_ _ e=>b3.aQ (U.aQ b.st e);have aj:TK K H4 H6:=λ_ _ e=>b3.aQ e;refine q p6 H6 _ _ (.whr q1 be) g ((b.trans U).sm b3) g6 (.whr (SqT.of (s6 _ _ g5)) (a4.tk am) ?_) (L.tk am) (.mk1 rfl I (.whr bg) o.1) o ?_
   ·obtain⟨x1,x2,x3⟩:=ak.tk aj (λh=>h.tk aj);exact⟨x1,x2,by lia⟩
   ·show size q1+be.length<=_;have:=ak.2.2;lia
  refine⟨_,rfl,rfl,_,rfl,pQ (λ_=>?_) (λ_=>?_)⟩
  ·refine⟨_,rfl,_,rfl,a,v2,g,1,rfl,b.st,L,o.1,by decide,λD H4 us M U fD g4 a0 Y bq=>?_⟩;have au:=a0.len;have cn:=Y.2.2;refine⟨_,rfl,?_⟩
   try dsimp only[tCB,dO]
   refine aA3 g4 a0 (by lia) lH (λR r=>⟨_,rfl,r⟩) λD5 H5 _ S g5=>⟨D5,_,rfl,SqL.of g5,λt6 H6 _ s6 g6=>⟨(by show 3<=sizeLine;decide),λq7 H7 _ s7 g7=>⟨_,rfl,D,_,rfl,SqL.of ((S.trans (s6.trans s7)) _ _ g4),λt8 H8 _ s8 g8=>⟨(by show 2<=sizeLine;decide),λp9 H9 _ s9 g9=>?_⟩⟩⟩⟩;have ar:=S.trans (s6.trans (s7.trans (s8.trans s9)));have bc:TK K H3 H9:=λ_ _ e=>ar.aQ (U.aQ b.st e);have bd:Good M:=⟨Y.2.1,bq,by lia⟩;have b9:∀c∈M,Nm c.1/\aBv c.2:=λc h=>bk c (Y.1 c h);refine q p9 H9 _ _ (.keep q1 (M.map (·.1))) M ((b.trans U).sm ar) g9 (.keep (SqT.of ((s8.trans s9) _ _ g7)) (a4.tk bc) (lJ (SqT.of ((s7.trans (s8.trans s9)) _ _ g6)) (λn ce=>?_) (by rw[d7];exact bq) (by rw[d7];lia))) ⟨t8,us,rfl,SqT.of (s9 _ _ g8),a0.imp λ_ _ h=>h.same ar⟩ ?_ ⟨bd,b9⟩ (by show size q1+1<=_;lia)
   ·obtain⟨c,b2,rfl⟩:=List.mem_map.mp ce;exact (b9 c b2).1
   ·have h:=HH.keep (hs:=aBk ts) (q:=q1) (yR c2 Y.1);rw[zip_fst_snd] at h;exact .mk1 rfl I h bd
  refine⟨_,rfl,rfl,_,rfl,pQ (λ_=>?_) (λ_=>?_)⟩
  ·refine⟨_,rfl,a,14,rfl,b.st,by decide,λtz H4 U t0 t1=>?_⟩;obtain⟨tn,rfl⟩:∃tn:Nat,tz=tn:=⟨tz.toNat,by lia⟩;have a3:=b.trans U;obtain⟨hb,us,rfl,bw,a0⟩:=id L;have au:=a0.len;have G:TK K H3 H4:=U.tk b.st;have af:=G _ _ bw;have a8:(turned ns tn g.length).length=g.length:=by simp[turned]
   obtain⟨bh,ao⟩:=aP9 hn tn (n:=g.length) (by lia)
   try dsimp only[cI,kW,rC]
   refine nG ((List.range g.length).map λi:Nat=>V.int (0+(i:Int))) ((turned ns tn g.length).map V.str) (by rw[d7,d7,bAH,a8]) [none,some (.ref N),some (.int (tn:Nat))] ?_ (small (by rw[d7,bAH];lia)) (λR r=>aB1 g.length (λR' r'=>⟨_,rfl,hb,_,rfl,.inr af,by rw[<-au] at r';exact r'⟩) (by lia) R r) (λi x y ex ey H' R l sm r=>?_) rfl λF H5 S g5=>?_
   ·refine⟨rfl,λi y v g X=>?_⟩
    match i,g,X with
    |0,_,X=>cases X
    |1,g,X=>cases g;cases X;exact⟨by trivial,2,rfl,rfl,by trivial⟩
    |2,g,X=>cases g;cases X;exact⟨by trivial,9,rfl,rfl,by trivial⟩
    |i+3,g,_=>cases g
   ·obtain⟨hi,rfl⟩:=aMn ex;obtain⟨fn,cg,rfl⟩:=aAs ey;have c4:ns[3+(tn+i) % 14]?=some fn:=aQl hn cg;refine⟨_,rfl,_,rfl,_,rfl,_,_,rfl,rfl,_,_,rfl,rfl,(by show (0:Int)<14;decide),_,_,rfl,rfl,N,_,_,_,rfl,rfl,SqL.of (sm _ _ (a3.same _ _ J hN)),?_,r _ (Same.refl H')⟩;have e:(3+((tn:Int)+(0+(i:Int))) % 14)=((3+(tn+i) % 14:Nat):Int):=by lia
    rw[e];exact dJ (by rw[bAC,c4];rfl)
   have bi:bY (IsC K H5) us g:=a0.imp λ_ _ h=>(h.tk G).same S;have ah:=S.aQ af;generalize ci:turned ns tn g.length=fr at g5 a8 bh ao
   try dsimp only[cI,kW,rC]
   refine aAj ((List.range g.length).map λi:Nat=>V.int (0+(i:Int))) (jD K (List.zipWith (λn c=>(n,c.2)) fr g)) jD.st jD.su [none,some (.ref F),some (.ref hb)] ?_ (small (by rw[d7,bAH];lia)) (λR r=>aB1 g.length (λR' r'=>⟨_,rfl,hb,_,rfl,.inr ah,by rw[<-au] at r';exact r'⟩) (by lia) R r) (λi x ex H' R l sm r=>?_) rfl λD7 H7 ys s7 g7 bz hR=>?_
   ·refine⟨rfl,λi y v g X=>?_⟩
    match i,g,X with
    |0,_,X=>cases X
    |1,g,X=>cases g;cases X;exact⟨by trivial,10,rfl,rfl,by trivial⟩
    |2,g,X=>cases g;cases X;exact⟨by trivial,7,rfl,rfl,by trivial⟩
    |i+3,g,_=>cases g
   ·obtain⟨hi,rfl⟩:=aMn ex;obtain⟨p',bu,c3⟩:∃p',us[i]?=some (.ref p')/\SqT K H5 p' [.str (g[i]'hi).1,.str (g[i]'hi).2]:=by
     have bb:i<us.length:=by lia
     obtain⟨c,b6,p',e1,e2⟩:=dH bi (b8 bb);rw[b8 hi] at b6;cases b6;exact⟨p',by rw[b8 bb,e1],e2⟩
    have hF:i<fr.length:=by lia
    have a1:atI (fr.map V.str) (0+(i:Int))=some (.str (fr[i]'hF)):=by rw[bEH];exact dJ (by rw[bAC,b8 hF];rfl)
    have a2:atI us (0+(i:Int))=some (.ref p'):=by rw[bEH];exact dJ bu
    refine⟨_,rfl,_,rfl,F,_,_,_,rfl,rfl,SqL.of (sm _ _ g5),a1,_,rfl,_,rfl,hb,_,_,_,rfl,rfl,sm.aQ ah,a2,p',_,1,_,rfl,rfl,sm.aQ c3,at1 _ _ _,(by show 2<=sizeLine;decide),λt H8 _ s8 g8=>r _ _ s8 ⟨(fr[i]'hF,(g[i]'hi).2),t,?_,rfl,g8⟩⟩;rw[bEI,b8 hF,b8 hi]
   rw[d7,bAH] at bz;have cp:(List.zipWith (λn c=>(n,c.2)) fr g).length=g.length:=by rw[bES,a8,Nat.min_self]
   try dsimp only[cI]
   refine⟨_,rfl,_,rfl,F,_,rfl,SqL.of (s7 _ _ g5),λt8 H8 _ s8 g8=>⟨(by show 3<=sizeLine;decide),λq9 H9 _ s9 g9=>⟨_,rfl,D7,_,rfl,SqL.of ((s8.trans s9) _ _ g7),λc9 cx _ az cf=>⟨(by show 2<=sizeLine;decide),λbt ba _ ae bv=>?_⟩⟩⟩⟩;have ag:=s8.trans (s9.trans (az.trans ae));have al:=S.trans (s7.trans ag);have b5:TK K H3 ba:=λ_ _ e=>al.aQ (G _ _ e);have bp:Good (List.zipWith (λn c=>(n,c.2)) fr g):=⟨by rw[aDd a8];exact bh,by lia,by lia⟩;refine q bt ba (.ref q9) (.ref c9) (.nmd q1 fr) _ (a3.sm al) bv (.nmd (SqT.of ((az.trans ae) _ _ g9)) (a4.tk b5) (lJ (SqT.of ((s9.trans (az.trans ae)) _ _ g8)) ao (by lia) (by lia))) (aP4 (SqT.of (ae _ _ cf)) (by lia) λi y e=>(hR i y e).st ag) (.mk1 rfl I (.nmd a8) bp) ⟨bp,λx hx=>?_⟩ (by show size q1+1<=_;lia);obtain⟨c5,c,b2,e⟩:=aG2 hx;exact⟨ao _ c5,by rw[e];exact (bk c b2).2⟩
  refine⟨_,rfl,rfl,_,rfl,pQ (λ_=>?_) (λ_=>?_)⟩
  ·obtain⟨k,ek,cw,cv⟩:∃k:Nat,(if decide (V.int ((m'+1:Nat):Int)=V.int 2)=true then (1:Int) else 0)=(k:Nat)/\k<=m'/\bnd m'+bnd k+3<=bnd (m'+1):=by
    match m',bm with
    |0,_=>exact⟨0,by rw[j6 (by intro z;have:=V.int.inj z;lia)];rfl,j9 _,by decide⟩
    |1,_=>exact⟨1,by rw[v7 (show V.int ((1+1:Nat):Int)=V.int 2 from rfl)];rfl,j9 _,by decide⟩
   refine⟨_,rfl,_,rfl,_,rfl,_,rfl,rfl,.inr ⟨_,rfl,a,d,N,k,ts,ns,?_,by lia,by lia,b.st,J,hD.fx O b,j,b.same _ _ J hN,hn,λr2 H4 vo cb qo ho U g4 ca ch bl bj cj=>?_⟩⟩
   ·exact congrArg (λz=>[V.ref a,V.ref d,V.ref N,V.int z]) ek
   have a3:=b.trans U;refine⟨r2,_,rfl,SqT.of g4,rfl,_,_,rfl,_,_,rfl,rfl,?_⟩;have G:TK K H3 H4:=U.tk b.st;refine⟨_,rfl,_,rfl,_,rfl,_,rfl,_,rfl,_,rfl,a,N,v1,v2,vo,cb,q1,qo,g,ho,ns,aBk ts,rfl,a3.st,J,a4.tk G,L.tk G,o,I,ca,ch,bj,bl,a3.same _ _ J hN,hn,λp H' w1 w2 q' M f' g' as ap aa a9 c8=>q p H' _ _ q' M (a3.trans f') g' as ap aa a9 (by lia)⟩
  refine⟨_,rfl,rfl,_,rfl,pQ (λ_=>?_) (λ_=>?_)⟩
  ·exact⟨_,rfl,_,rfl,_,rfl,_,rfl,a,N,v1,v2,q1,g,ns,aBk ts,rfl,b.st,J,a4,L,o,I,b.same _ _ J hN,hn,λp H' w1 w2 q' M f' g' as ap aa a9 c8=>q p H' _ _ q' M (b.trans f') g' as ap aa a9 (by lia)⟩
  ·refine⟨_,rfl,_,rfl,_,rfl,a,v2,g,rfl,b.st,L,o,λvk H4 ps ks U cd c1 bf=>⟨_,rfl,a,7,rfl,(b.trans U).st,by decide,λmm H5 f5 m0 m1=>⟨(by show 4<=sizeLine;decide),λt6 H6 _ s6 g6=>⟨_,rfl,(by show 2<=sizeLine;decide),λp7 H7 _ s7 g7=>?_⟩⟩⟩⟩;obtain⟨mn,rfl⟩:∃mn:Nat,mm=mn:=⟨mm.toNat,by lia⟩;have bn:=U.trans f5;have aq:=s6.trans s7;have an:TK K H3 H7:=λ_ _ e=>aq.aQ (bn.aQ b.st e);have ai:TK K H4 H7:=λ_ _ e=>aq.aQ (f5.aQ (b.trans U).st e);refine q p7 H7 _ _ (.first q1 ps mn) g ((b.trans bn).sm aq) g7 (.first (SqT.of (s7 _ _ g6)) (a4.tk an) (cd.tk ai λh=>h.tk ai) (by lia)) (L.tk an) (.mk1 rfl I (.first c1 bf) o.1) o (by show size q1+1<=_;lia)
def uD (T:Txt w K mg):Ok P w K mg base 1 "_law_shown_value" bQM zB:=by
 refine Ok.ofV T.wB uE (by trivial) (λf c A a s H j Q E g h=>?_)
 obtain⟨v,rfl,b,q⟩:=h;refine⟨_,(aA (bN (cP (aR (gA.or fH) (by rfl) T.bJ bC (aG (vv 0) (va1 (dW (v:=.ty "str") (by rfl) T.qU kI rfl))))) (aB (aJ (aW aP (aW aP aF (vv 0)) aF))) aU) (aB (aJ (bG kO (by rfl) T.qU kI (va1 (vv 0)))))),?_⟩;refine⟨_,rfl,gK b.th (.inr (.inr rfl)) ⟨_,rfl,?_⟩⟩;rcases b with⟨i,rfl,d⟩|⟨x,rfl,hx,h8⟩
 ·exact aZ ⟨_,rfl,_,rfl,aHv d,q⟩
 ·refine bQ ⟨_,rfl,_,_,rfl,rfl,?_,_,_,rfl,rfl,?_,q⟩
  ·have:Str.length "'"=1:=by trivial
   exact small (by lia)
  ·have e:Str.length "'"=1:=by trivial
   have k:(("'":Str)++x).length=1+x.length:=by rw[iK,aGu,aX1,j4,<-iK];rfl
   exact small (by lia)
def le2 {a b:Str}(ha:a.length<=100000)(hb:b.length<=100000):a.length+b.length<=sizeLine:=by have:sizeLine=2 ^ 24:=rfl;lia
def aSb (K:bFC):Sp:=λvs H Q _=>∃v t,vs=[v]/\IsT K H v t/\Q (.str (txt (wT t))) H
def vJ (T:Txt w K mg)(G:Ok P w K mg base 1 "_law_shown_value" bQM zB):Ok P w K mg base 2 "_law_shown_test" ["_law_test"] (aSb K):=by
 refine Ok.ofV T.wX lU (by trivial) (λf B A l s H D Q E I h=>?_)
 obtain⟨v,t,rfl,p,q⟩:=h;have k:=aD7 p.ok;obtain⟨a,b,rfl,C,N,L,j⟩:=p;have M:=k _ (j5 ..);have J:=k _ (j7 _ (j5 ..));have g:=k _ (j7 _ (j7 _ (j5 ..)));rw[show wT t=[t.c,t.sg,wO t.o] from rfl,cG,cG,fC,show t.c++" "++(t.sg++" "++wO t.o)=t.c++" "++t.sg++" "++wO t.o by simp only[PySem.Str.append_assoc]] at q;have z:=lU.nd;refine⟨_,(aA (rD (vv 0) (kE rfl (aX (cU 1) (aX (cU 2) (aX (cU 3) dF))))) (aA (bN (cT cJ (bO bD (vv 3) aC) aF) (aB (aJ (aW aP (aW aP (aW aP (aW aP (vv 1) aF) (vv 2)) aF) (bU G (va1 (bO bD (vv 3) aC)))))) aU) (aB (aJ (aW aP (aW aP (aW aP (aW aP (vv 1) aF) (vv 2)) aF) (bO bD (vv 3) aC)))))),?_⟩;have y:(t.c++" ").length<=100000:=by rw[aM,bL];lia
 have n:(t.c++" "++t.sg).length<=100000:=by rw[aM,aM,bL];lia
 have m:(t.c++" "++t.sg++" ").length<=100000:=by rw[aM,aM,aM,bL];lia
 have i:Str.length " "<=100000:=by rw[bL];decide
 refine⟨_,rfl,a,_,rfl,C,rfl,_,_,rfl,_,_,rfl,_,_,rfl,rfl,?_⟩;cases u:t.o with
 |val x=>rw[u] at j q g;obtain⟨c,rfl,e,F,r⟩:=j;refine⟨_,rfl,c,_,0,_,rfl,rfl,e,at0 _ _,rfl,_,rfl,bQ ?_⟩;exact⟨_,rfl,_,_,rfl,rfl,le2 (by lia) i,_,rfl,_,_,rfl,rfl,le2 y (by lia),_,_,rfl,rfl,le2 n i,_,rfl,c,_,1,_,rfl,rfl,e,at1 _ _ _,x,rfl,r,_,_,rfl,rfl,le2 m (bAG g (by decide)),q⟩
 |col d=>rw[u] at j q g;obtain⟨c,rfl,e,r⟩:=j;refine⟨_,rfl,c,_,0,_,rfl,rfl,e,at0 _ _,rfl,_,rfl,aZ ?_⟩;exact⟨_,rfl,_,_,rfl,rfl,le2 (by lia) i,_,rfl,_,_,rfl,rfl,le2 y (by lia),_,_,rfl,rfl,le2 n i,_,rfl,c,_,1,_,rfl,rfl,e,at1 _ _ _,_,_,rfl,rfl,le2 m (bAG g (by decide)),q⟩
def aTn (K:bFC):Sp:=λvs H Q _=>∃v ss,vs=[v]/\lD lE 0 4 K H v ss/\Q (.str (qW ss)) H
def aRj {ss:List Sm}{i:Nat}{t:Sm}(h:ss[i]?=some t):qW (ss.take (i+1))=qW (ss.take i)++" "++"with"++" "++txt (wS t):=by unfold qW;rw[bBM,h,bAY,List.foldl_append];rfl
def vP (T:Txt w K mg):Ok P w K mg base 1 "_law_shown_sums" bQR (aTn K):=by
 refine Ok.ofV T.yV lK (by trivial) (λf M A r s H J Q E W h=>?_)
 obtain⟨v,g,rfl,⟨⟨c,J,rfl,C,B⟩,S,Y⟩,q⟩:=h;have lv:=B.len;have L:=lK.nd;refine⟨_,(aA (aY 1 aF) (aA (gR PassesOwn.never rfl (fX (vv 0)) (kE rfl (aX (cU 2) (aX (cU 3) (aX (cU 4) dF)))) (aA (aY 1 (aW aP (aW aP (vv 1) aF) (vv 2))) (aA (bN (cT nJ (vv 2) aF) (aB (aY 1 (aW aP (aW aP (vv 1) aF) (vv 3)))) aU) (aB (aY 1 (aW aP (aW aP (vv 1) aF) (vv 4))))))) (aB (aJ (vv 1))))),?_⟩;refine⟨_,rfl,c,rfl,⟨_,C⟩,pX (λi σ o=>o=H/\∃l2 l3 l4,(qW (g.take i)).length<=300 * i/\σ=[some (.ref c),some (.str (qW (g.take i))),l2,l3,l4]) ⟨rfl,_,_,_,(by rw[List.take_zero];decide +kernel),rfl⟩ (λi σ o _ ⟨e,_⟩=>e ▸ C) ?_ ?_⟩
 ·rintro i x σ o hx ⟨rfl,l2,l3,l4,hl,rfl⟩;obtain⟨t,F,m⟩:=dH B hx;have I:=m.ok;have D:=aN3 I;obtain⟨b,rfl,G,m⟩:=m;have Z:i<g.length:=(List.getElem?_eq_some_iff.mp F).1;have l:=aRj F;have U:=fJ G;have a:Str.length " with "=6:=by trivial
  have y:(" with ":Str) = " "++"with"++" ":=by trivial
  generalize hX:qW (g.take i)=X at *;rcases m with⟨N,p,u⟩|⟨d,p,hd,h4,u⟩
  ·have n:wS t=[("count":Str),t.new]:=by unfold wS;rw[p,N]
   rw[n,cG,fC] at l;have j:X++" with "++"count"++" "++t.new=qW (g.take (i+1)):=by rw[l,y];simp only[PySem.Str.append_assoc]
   have k:Str.length "count"=5:=by trivial
   refine⟨b,_,rfl,u,rfl,_,_,rfl,_,_,rfl,_,_,rfl,rfl,?_⟩;refine⟨_,rfl,_,_,rfl,rfl,le2 (by lia) (by rw[a];decide),_,rfl,_,_,rfl,rfl,le2 (by rw[aM,a];lia) (by rw[k];decide),?_⟩;refine⟨_,rfl,rfl,_,rfl,aZ ?_⟩;refine⟨_,rfl,_,_,rfl,rfl,le2 (by rw[aM,aM,a,k];lia) (by rw[bL];decide),_,rfl,_,_,rfl,rfl,le2 (by rw[aM,aM,aM,a,k,bL];lia) (by lia),?_⟩;refine⟨rfl,_,_,_,?_,congrArg (λz=>[some (V.ref c),some (V.str z),_,_,_]) j⟩;rw[<-j,aM,aM,aM,aM,a,k,bL];lia
  ·have n:wS t=[t.wd,d,t.new]:=by unfold wS;rw[p]
   rw[n] at D;rw[n,cG,cG,fC] at l;have k:=D _ (j5 ..);have R:=fJ hd;have O:(!decide (V.str t.wd=V.str "count"))=true:=by
    rw[j6 λz=>by have z:=V.str.inj z;rcases h4 with h4|h4|h4 <;> rw[h4] at z <;> exact absurd z (by trivial)]
    rfl
   have j:X++" with "++t.wd++" "++d++" "++t.new=qW (g.take (i+1)):=by rw[l,y];simp only[PySem.Str.append_assoc]
   refine⟨b,_,rfl,u,rfl,_,_,rfl,_,_,rfl,_,_,rfl,rfl,?_⟩;refine⟨_,rfl,_,_,rfl,rfl,le2 (by lia) (by rw[a];decide),_,rfl,_,_,rfl,rfl,le2 (by rw[aM,a];lia) (by lia),?_⟩;refine⟨_,rfl,rfl,_,rfl,?_⟩;rw[O];refine bQ ⟨_,rfl,_,_,rfl,rfl,le2 (by rw[aM,aM,a];lia) (by rw[bL];decide),_,rfl,_,_,rfl,rfl,le2 (by rw[aM,aM,aM,a,bL];lia) (by lia),?_⟩;refine⟨_,rfl,_,_,rfl,rfl,le2 (by rw[aM,aM,aM,aM,a,bL];lia) (by rw[bL];decide),_,rfl,_,_,rfl,rfl,le2 (by rw[aM,aM,aM,aM,aM,a,bL];lia) (by lia),?_⟩;refine⟨rfl,_,_,_,?_,congrArg (λz=>[some (V.ref c),some (V.str z),_,_,_]) j⟩;rw[<-j,aM,aM,aM,aM,aM,aM,a,bL];lia
 ·rintro σ o ⟨rfl,l2,l3,l4,hl,rfl⟩;rw[bBK (by lia)];exact⟨_,rfl,q⟩
def aVv (K:bFC)(n:Nat):Sp:=λvs H Q _=>∃v q,vs=[v]/\IsQ K H v q/\My.size q<=20/\dp q<n/\∀H',Same H H'->Q (.str (txt (wq q))) H'
def tD {α:Type}{f:Str->α->Str}{l:List α}{i:Nat}{a:α}{x:Str}(h:l[i]?=some a):(l.take (i+1)).foldl f x=f ((l.take i).foldl f x) a:=by rw[bBM,h,List.foldl_append];rfl
def aMj (s:SqT K H b us)(A:bY (oY K H) us ps)(h8:ps.length<=100)(u:Cap X scope N σ [none,none])(O:∀R:VK,R (.ref b) H->tl σ H R)
  (M:∀(p:Str × Str),p∈ps->∀H' R,R (.str (txt (wP p))) H'->te [some (.str p.1),some (.str p.2)] H' R)
  (q:∀D H',H D=none->Same H H'->H' D=some (.lst ((ps.map λp=>txt (wP p)).map V.str))->Q (.ref D) H'):jP X scope N (aRn K tl) (aGn K 2 (rA (cI 0) (rA (cI 1) aNe))) uA te σ H Q:=by
 have J:=A.len;refine sS [none,none] u (O _ ⟨b,rfl,⟨_,s⟩,aA4 Same (qM H) us (λ_=>true) (λi _ y=>∃c,ps[i]?=some c/\y=.str (txt (wP c))) (λ_ _ h=>h) (λ_ _ _ h=>h) (λi σ=>∃c,ps[i]?=some c/\At2 [none,none] (.str c.1) (.str c.2) σ) (Ps2 [none,none]) ⟨none,none,rfl⟩ (small (by lia)) _ (aDo λH' a=>a.aQ s) (rF λH' a=>a.aQ s) (λi x L H' P k g a w=>?_) (λi x j k n H' R a r=>r _ (Same.refl _)) (λi x j k n _ H' R a r=>?_) λD C m F E t f=>?_⟩)
 ·obtain⟨c,d,p,rfl,v,_⟩:=dH A k;exact hg2 (a.aQ v) g fun j I G=>w j I ⟨c,d,G⟩
 ·obtain⟨c,d,rfl⟩:=n;exact M c (bAR d) H' R (r _ _ (Same.refl H') ⟨c,d,rfl⟩)
 ·rw[oX] at f;obtain⟨l,B⟩:=lL f;have e:m=(ps.map λp=>txt (wP p)).map V.str:=by
   refine bCK λi=>?_;cases o:m[i]? with
   |some z=>obtain⟨c,d,rfl⟩:=B i z o;rw[bAP,bAC,d];rfl
   |none=>have:=List.getElem?_eq_none_iff.mp o;exact (bAT (by rw[d7,d7];lia)).symm
  rw[e] at t;exact q D C E F t
theorem uP (T:Txt w K mg)(mW:Ok P w K mg base 2 "_law_shown_test" ["_law_test"] (aSb K))(nM:Ok P w K mg base 1 "_law_shown_sums" bQR (aTn K)) :
  ∀n:Nat,Ok P w K mg base (n+3) "_law_shown" bQO (aVv K n)
 |0=>by
  refine Ok.ofV T.xW oG (λL H Q E h=>?_) (λf a2 A W s H L Q E hr h=>?_)
  ·obtain⟨v,q,rfl,_⟩:=h;rfl
  ·obtain⟨v,q,rfl,_,_,U,_⟩:=h;lia
 |n+1=>by
  have lB:=uP T mW nM n;refine Ok.ofV T.xW oG (λL H Q E h=>?_) (λf a2 A W s H L Q E hr h=>?_)
  ·obtain⟨v,q,rfl,_⟩:=h;rfl
  obtain⟨v,q',rfl,hq,M,U,Y⟩:=h;have a7:=oG.nd;refine⟨_,(aA (aY 1 (bO bD (vv 0) aC)) (aA (bN (cT cJ (vv 1) aF) (aB (aJ (bO bD (vv 0) aC))) aU) (aA (aY 2 (aW aP (aW aP (dX (lB.mono (by lia)) hr (by rfl) (va1 (bO bD (vv 0) aC))) aF) (vv 1))) (aA (bN (cT cJ (vv 1) aF) (aB (aJ (aW aP (aW aP (vv 2) aF) (fK PySem.F.plainAttrs_str PySem.F.slot_str_join PySem.F.type_str_join iZ aF (va1 (cZ (N:=["_law_test"]) ck eV rfl (fX (bO bD (vv 0) aC)) (λcl s' g fp=>⟨(fZ 0),eZ,(dX (mW.mono (by lia)) hr (by rfl) (va1 (vv 0)))⟩))))))) aU) (aA (bN (cT cJ (vv 1) aF) (aA (aY 3 (fK PySem.F.plainAttrs_str PySem.F.slot_str_join PySem.F.type_str_join iZ aF (va1 (cZ (N:=["_law_c","_law_d"]) ck eV rfl (fX (bO bD (vv 0) aC)) (λcl s' g fp=>⟨(lF (K:=K) (n:=2) rfl (aX (fZ 0) (aX (fZ 1) dF))),eZ,(aW aP (aW aP (vv 0) aF) (vv 1))⟩))))) (aB (aJ (aW aP (aW aP (aW aP (aW aP (vv 2) aF) (dX (lB.mono (by lia)) hr (by rfl) (va1 (bO bD (vv 0) aC)))) aF) (vv 3))))) aU) (aA (bN (cT cJ (vv 1) aF) (aA (aY 2 (aW aP (aW aP (vv 2) aF) (bG kO (by rfl) T.qU kI (va1 (bO bD (vv 0) aC))))) (aA (gR PassesOwn.never rfl (fX (bO bD (vv 0) aC)) (kE rfl (aX (cU 4) (aX (cU 5) dF))) (aB (aY 2 (aW aP (aW aP (aW aP (aW aP (vv 2) aF) (vv 4)) aF) (vv 5))))) (aB (aJ (vv 2))))) aU) (aA (gR PassesOwn.never rfl (fX (bO bD (vv 0) aC)) (cU 4) (aB (aY 2 (aW aP (aW aP (vv 2) aF) (vv 4))))) (aA (bN (cT cJ (vv 1) aF) (aB (aY 2 (aW aP (vv 2) (dX (nM.mono (by lia)) hr (by rfl) (va1 (bO bD (vv 0) aC)))))) aU) (aB (aJ (vv 2))))))))))),?_⟩;have C:=hq.wf;have hQ:=jN C M;have u:Str.length " "<=100000:=by rw[bL];decide
  cases hq with
  |@table a Tn ha _=>refine⟨_,rfl,a,_,0,_,rfl,rfl,ha,at0 _ _,?_⟩;refine⟨_,rfl,rfl,_,rfl,bQ ?_⟩;refine⟨_,rfl,a,_,1,_,rfl,rfl,ha,at1 _ _ _,?_⟩;have:=Y H (Same.refl H);rw[show wq (.table Tn)=[Tn] from rfl,fC] at this;exact this
  |@whr a v1 q b ts ha h1 h3=>
   obtain⟨⟨c,L,rfl,k,o⟩,B,p3⟩:=h3;have lv:=o.len;have a3:=tL (.whr (q:=q) (ts:=ts)) C M;have j:Str.length "where"=5:=by trivial
   simp only[dp,My.size] at U M;have G:=jN h1.wf (by lia);have S:(txt (wq q)++" "++"where").length<=31100:=by rw[aM,aM,bL,j];lia
   refine⟨_,rfl,a,_,0,_,rfl,rfl,ha,at0 _ _,?_⟩;refine⟨_,rfl,rfl,_,rfl,aZ ?_⟩;refine⟨_,rfl,a,_,1,_,rfl,rfl,ha,at1 _ _ _,v1,q,rfl,h1,by lia,by lia,λO d=>⟨_,_,rfl,rfl,le2 (bAG G (by decide)) u,_,rfl,_,_,rfl,rfl,le2 (by rw[aM,bL];lia) (by rw[j];decide),?_⟩⟩;refine⟨_,rfl,rfl,_,rfl,bQ ?_⟩;refine⟨_,rfl,_,_,rfl,rfl,le2 (by lia) u,rfl,?_⟩;dsimp only[kW,mO,vX,tBM,dO,tC,tOp];refine nG L ((ts.map λt=>txt (wT t)).map V.str) (by rw[d7,d7,lv]) [none] iM (small (by lia)) (λR r=>vV (d.aQ k) (λR' r'=>⟨_,rfl,a,_,2,_,rfl,rfl,d.aQ ha,rfl,r'⟩) R r) (λi x y ex ey g R l sm r=>?_) rfl λD H2 s2 hD=>?_
   ·obtain⟨t,ht,hT⟩:=dH o ex;rw[bAP] at ey;have e:=yS ht ey;subst e;exact⟨_,rfl,x,t,rfl,hT.same (d.trans sm),r g (Same.refl g)⟩
   ·have hB:∀y∈ts.map λt=>txt (wT t),y.length<=200:=λy m=>by obtain⟨p,mp,rfl⟩:=List.mem_map.mp m;have:=jM (aD7 (C.2.2.2 p mp));have e:(wT p).length=3:=rfl;lia
    have e2:=aAn (ts:=ts) (λz=>by rw[z] at B;cases B);have e3:=congrArg Str.length e2;rw[aM] at e3;refine⟨_,D,_,rfl,rfl,SqL.of hD,aB2 hB (by decide) (by rw[d7];lia),_,_,rfl,rfl,le2 (by rw[aM,bL];lia) (by lia),?_⟩;show Q (.str (txt (wq q)++" "++"where"++" "++PySem.Txt.join " and " (ts.map λt=>txt (wT t)))) H2;rw[aRe (λz=>by rw[z] at B;cases B)];exact Y H2 (d.trans s2)
  |@keep a v1 q b ns ha h1 h3=>
   obtain⟨⟨c,L,rfl,k,o⟩,B,p3⟩:=h3;have ev:=sZ o;subst ev;have j:Str.length "keep"=4:=by trivial
   simp only[dp,My.size] at U M;have G:=jN h1.wf (by lia);have S:(txt (wq q)++" "++"keep").length<=31100:=by rw[aM,aM,bL,j];lia
   refine⟨_,rfl,a,_,0,_,rfl,rfl,ha,at0 _ _,?_⟩;refine⟨_,rfl,rfl,_,rfl,aZ ?_⟩;refine⟨_,rfl,a,_,1,_,rfl,rfl,ha,at1 _ _ _,v1,q,rfl,h1,by lia,by lia,λO d=>⟨_,_,rfl,rfl,le2 (bAG G (by decide)) u,_,rfl,_,_,rfl,rfl,le2 (by rw[aM,bL];lia) (by rw[j];decide),?_⟩⟩;refine⟨_,rfl,rfl,_,rfl,aZ ⟨_,rfl,rfl,_,rfl,aZ ⟨_,rfl,rfl,_,rfl,aZ ?_⟩⟩⟩;refine⟨_,rfl,a,_,2,_,rfl,rfl,d.aQ ha,at2 _ _ _ _,c,rfl,⟨_,d.aQ k⟩,pX (xs:=ns.map V.str) (λi σ g=>g=O/\∃(l4:Option V),((ns.take i).foldl (λ(t:Str) (n:Str)=>t++(" ":Str)++n) (txt (wq q)++" "++"keep")).length<=31100+100 * i/\σ=[some (.ref a),some (.str "keep"),some (.str ((ns.take i).foldl (λ(t:Str) (n:Str)=>t++(" ":Str)++n) (txt (wq q)++" "++"keep"))),none,l4,none]) ⟨rfl,_,S,rfl⟩ (λi σ g _ ⟨e,_⟩=>e ▸ d.aQ k) ?_ ?_⟩
   ·rintro i x σ g hx ⟨rfl,l4,hl,rfl⟩;obtain⟨y,I,rfl⟩:=aAs hx;have hi:i<ns.length:=(List.getElem?_eq_some_iff.mp I).1;have ly:=fJ (C.2.2.2 y (bAR I));have J:=tD (f:=λ(t:Str) (n:Str)=>t++(" ":Str)++n) (x:=txt (wq q)++" "++"keep") I;refine⟨_,rfl,_,_,rfl,rfl,le2 (by lia) u,_,rfl,_,_,rfl,rfl,le2 (by rw[aM,bL];lia) (by lia),?_⟩;refine⟨rfl,_,?_,by rw[J];rfl⟩;rw[J,aM,aM,bL];lia
   ·rintro σ g ⟨rfl,l4,hl,rfl⟩;rw[d7,bBP] at *;refine⟨_,rfl,rfl,_,rfl,aZ ⟨_,rfl,?_⟩⟩;rw[aU9];exact Y _ d
  |@nmd a v1 q b ns ha h1 h3=>
   obtain⟨⟨c,L,rfl,k,o⟩,B,p3⟩:=h3;have ev:=sZ o;subst ev;have j:Str.length "named"=5:=by trivial
   simp only[dp,My.size] at U M;have G:=jN h1.wf (by lia);have S:(txt (wq q)++" "++"named").length<=31100:=by rw[aM,aM,bL,j];lia
   refine⟨_,rfl,a,_,0,_,rfl,rfl,ha,at0 _ _,?_⟩;refine⟨_,rfl,rfl,_,rfl,aZ ?_⟩;refine⟨_,rfl,a,_,1,_,rfl,rfl,ha,at1 _ _ _,v1,q,rfl,h1,by lia,by lia,λO d=>⟨_,_,rfl,rfl,le2 (bAG G (by decide)) u,_,rfl,_,_,rfl,rfl,le2 (by rw[aM,bL];lia) (by rw[j];decide),?_⟩⟩;refine⟨_,rfl,rfl,_,rfl,aZ ⟨_,rfl,rfl,_,rfl,aZ ⟨_,rfl,rfl,_,rfl,aZ ?_⟩⟩⟩;refine⟨_,rfl,a,_,2,_,rfl,rfl,d.aQ ha,at2 _ _ _ _,c,rfl,⟨_,d.aQ k⟩,pX (xs:=ns.map V.str) (λi σ g=>g=O/\∃(l4:Option V),((ns.take i).foldl (λ(t:Str) (n:Str)=>t++(" ":Str)++n) (txt (wq q)++" "++"named")).length<=31100+100 * i/\σ=[some (.ref a),some (.str "named"),some (.str ((ns.take i).foldl (λ(t:Str) (n:Str)=>t++(" ":Str)++n) (txt (wq q)++" "++"named"))),none,l4,none]) ⟨rfl,_,S,rfl⟩ (λi σ g _ ⟨e,_⟩=>e ▸ d.aQ k) ?_ ?_⟩
   ·rintro i x σ g hx ⟨rfl,l4,hl,rfl⟩;obtain⟨y,I,rfl⟩:=aAs hx;have hi:i<ns.length:=(List.getElem?_eq_some_iff.mp I).1;have ly:=fJ (C.2.2.2 y (bAR I));have J:=tD (f:=λ(t:Str) (n:Str)=>t++(" ":Str)++n) (x:=txt (wq q)++" "++"named") I;refine⟨_,rfl,_,_,rfl,rfl,le2 (by lia) u,_,rfl,_,_,rfl,rfl,le2 (by rw[aM,bL];lia) (by lia),?_⟩;refine⟨rfl,_,?_,by rw[J];rfl⟩;rw[J,aM,aM,bL];lia
   ·rintro σ g ⟨rfl,l4,hl,rfl⟩;rw[d7,bBP] at *;refine⟨_,rfl,rfl,_,rfl,aZ ⟨_,rfl,?_⟩⟩;rw[aRf];exact Y _ d
  |@join a v1 q v2 r b ps ha h1 h2 h3=>
   obtain⟨⟨c,L,rfl,k,o⟩,B,p3⟩:=h3;have j:Str.length "join"=4:=by trivial
   simp only[dp,My.size] at U M;have G:=jN h1.wf (by lia);have S:(txt (wq q)++" "++"join").length<=31100:=by rw[aM,aM,bL,j];lia
   refine⟨_,rfl,a,_,0,_,rfl,rfl,ha,at0 _ _,?_⟩;refine⟨_,rfl,rfl,_,rfl,aZ ?_⟩;refine⟨_,rfl,a,_,1,_,rfl,rfl,ha,at1 _ _ _,v1,q,rfl,h1,by lia,by lia,λO d=>⟨_,_,rfl,rfl,le2 (bAG G (by decide)) u,_,rfl,_,_,rfl,rfl,le2 (by rw[aM,bL];lia) (by rw[j];decide),?_⟩⟩;refine⟨_,rfl,rfl,_,rfl,aZ ⟨_,rfl,rfl,_,rfl,bQ ?_⟩⟩;dsimp only[kW,mO,vX,tBM,dO,tC,tOp];refine⟨rfl,aMj (d.aQ k) (o.imp λ_ _ h=>h.same d) (by lia) lH (λR r=>⟨_,rfl,a,_,3,_,rfl,rfl,d.aQ ha,rfl,r⟩) (λp mp g R r=>?_) λD H2 _ s2 hD=>?_⟩
   ·have Z:=(dU (C.2.2.2.2 p mp).1).2;have l2:=(dU (C.2.2.2.2 p mp).2).2;rw[show wP p=[p.1,p.2] from rfl,cG,fC] at r;exact⟨_,rfl,_,_,rfl,rfl,le2 (bAG Z (by decide)) u,_,rfl,_,_,rfl,rfl,le2 (by rw[aM,bL];lia) (bAG l2 (by decide)),r⟩
   ·have hB:∀y∈ps.map λp=>txt (wP p),y.length<=200:=λy m=>by obtain⟨p,mp,rfl⟩:=List.mem_map.mp m;have:=jM (aH5 (C.2.2.2.2 p mp));have e:(wP p).length=2:=rfl;lia
    have hk:=aA8 B p3 C.2.2.2.2;have k2:=jN C.2.1 (by lia);have Z:Str.length " ( "=3:=by trivial
    have l2:Str.length " ) on "=6:=by trivial
    refine⟨_,D,_,rfl,rfl,SqL.of hD,aB2 hB (by decide) (by rw[d7];lia),?_⟩;refine⟨_,rfl,_,_,rfl,rfl,le2 (by lia) (by rw[Z];decide),_,rfl,a,_,2,_,rfl,rfl,(d.trans s2).aQ ha,at2 _ _ _ _,v2,r,rfl,h2.same (d.trans s2),by lia,by lia,λH3 s3=>⟨_,_,rfl,rfl,le2 (by rw[aM,Z];lia) (bAG k2 (by decide)),_,_,rfl,rfl,le2 (by rw[aM,aM,Z];lia) (by rw[l2];decide),_,rfl,_,_,rfl,rfl,le2 (by rw[aM,aM,aM,Z,l2];lia) (by lia),?_⟩⟩;show Q (.str (txt (wq q)++" "++"join"++" ( "++txt (wq r)++" ) on "++PySem.Txt.join " and " (ps.map λp=>txt (wP p)))) H3;rw[aSe (λz=>by rw[z] at B;cases B)];exact Y H3 (d.trans (s2.trans s3))
  |@group a v1 q b ns b2 ss ha h1 h3 h4=>
   obtain⟨⟨c,L,rfl,k,o⟩,B,p3⟩:=h3;have ev:=sZ o;subst ev;have a3:=tL (.group (q:=q) (ns:=ns) (ss:=ss)) C M;have j:Str.length "group"=5:=by trivial
   simp only[dp,My.size] at U M;have G:=jN h1.wf (by lia);have S:(txt (wq q)++" "++"group").length<=31100:=by rw[aM,aM,bL,j];lia
   refine⟨_,rfl,a,_,0,_,rfl,rfl,ha,at0 _ _,?_⟩;refine⟨_,rfl,rfl,_,rfl,aZ ?_⟩;refine⟨_,rfl,a,_,1,_,rfl,rfl,ha,at1 _ _ _,v1,q,rfl,h1,by lia,by lia,λO d=>⟨_,_,rfl,rfl,le2 (bAG G (by decide)) u,_,rfl,_,_,rfl,rfl,le2 (by rw[aM,bL];lia) (by rw[j];decide),?_⟩⟩;refine⟨_,rfl,rfl,_,rfl,aZ ⟨_,rfl,rfl,_,rfl,aZ ⟨_,rfl,rfl,_,rfl,aZ ?_⟩⟩⟩;refine⟨_,rfl,a,_,2,_,rfl,rfl,d.aQ ha,at2 _ _ _ _,c,rfl,⟨_,d.aQ k⟩,pX (xs:=ns.map V.str) (λi σ g=>g=O/\∃(l4:Option V),((ns.take i).foldl (λ(t:Str) (n:Str)=>t++(" ":Str)++n) (txt (wq q)++" "++"group")).length<=31100+100 * i/\σ=[some (.ref a),some (.str "group"),some (.str ((ns.take i).foldl (λ(t:Str) (n:Str)=>t++(" ":Str)++n) (txt (wq q)++" "++"group"))),none,l4,none]) ⟨rfl,_,S,rfl⟩ (λi σ g _ ⟨e,_⟩=>e ▸ d.aQ k) ?_ ?_⟩
   ·rintro i x σ g hx ⟨rfl,l4,hl,rfl⟩;obtain⟨y,I,rfl⟩:=aAs hx;have hi:i<ns.length:=(List.getElem?_eq_some_iff.mp I).1;have ly:=fJ (C.2.2.1 y (bAR I));have J:=tD (f:=λ(t:Str) (n:Str)=>t++(" ":Str)++n) (x:=txt (wq q)++" "++"group") I;refine⟨_,rfl,_,_,rfl,rfl,le2 (by lia) u,_,rfl,_,_,rfl,rfl,le2 (by rw[aM,bL];lia) (by lia),?_⟩;refine⟨rfl,_,?_,by rw[J];rfl⟩;rw[J,aM,aM,bL];lia
   ·rintro σ g ⟨rfl,l4,hl,rfl⟩;rw[d7,bBP] at *;have e3:=congrArg Str.length (aFg (q:=q) (ns:=ns) (ss:=ss));rw[aM] at e3;refine⟨_,rfl,rfl,_,rfl,bQ ⟨_,rfl,_,rfl,a,_,3,_,rfl,rfl,d.aQ ha,rfl,b2,ss,rfl,h4.same d (λh=>h.same d),_,_,rfl,rfl,le2 (by lia) (by lia),?_⟩⟩;refine⟨_,rfl,?_⟩;show Q (.str (ns.foldl (λ(t:Str) (n:Str)=>t++(" ":Str)++n) (txt (wq q)++" "++"group")++qW ss)) _;rw[aFg];exact Y _ d
  |@first a v1 q b ks m ha h1 h3 h4=>
   obtain⟨⟨c,L,rfl,k,o⟩,B,p3⟩:=h3;have lv:=o.len;have a1:((m:Int)).natAbs<10 ^ 60:=by rw[bEF];exact bCQ h4 (by decide)
   have lm:=(aHj (aGs h4)).2;have j:Str.length "first"=5:=by trivial
   simp only[dp,My.size] at U M;have G:=jN h1.wf (by lia);have S:(txt (wq q)++" "++"first").length<=31100:=by rw[aM,aM,bL,j];lia
   refine⟨_,rfl,a,_,0,_,rfl,rfl,ha,at0 _ _,?_⟩;refine⟨_,rfl,rfl,_,rfl,aZ ?_⟩;refine⟨_,rfl,a,_,1,_,rfl,rfl,ha,at1 _ _ _,v1,q,rfl,h1,by lia,by lia,λO d=>⟨_,_,rfl,rfl,le2 (bAG G (by decide)) u,_,rfl,_,_,rfl,rfl,le2 (by rw[aM,bL];lia) (by rw[j];decide),?_⟩⟩;have gY:(txt (wq q)++" "++"first"++" "++shw (.int m)).length<=31200:=by rw[aM,aM,bL];lia
   refine⟨_,rfl,rfl,_,rfl,aZ ⟨_,rfl,rfl,_,rfl,aZ ⟨_,rfl,rfl,_,rfl,bQ ?_⟩⟩⟩;refine⟨_,rfl,_,_,rfl,rfl,le2 (by lia) u,_,rfl,a,_,3,_,rfl,rfl,d.aQ ha,rfl,_,rfl,aHv a1,_,_,rfl,rfl,le2 (by rw[aM,bL];lia) (bAG lm (by decide)),?_⟩;refine⟨_,rfl,a,_,2,_,rfl,rfl,d.aQ ha,at2 _ _ _ _,c,rfl,⟨_,d.aQ k⟩,pX (xs:=L) (λi σ g=>g=O/\∃(l4 l5:Option V),(((ks.map wP).take i).foldl (λ(t:Str) (a:List Str)=>t++(" ":Str)++"by"++" "++txt a) (txt (wq q)++" "++"first"++" "++shw (.int m))).length<=31200+200 * i/\σ=[some (.ref a),some (.str "first"),some (.str (((ks.map wP).take i).foldl (λ(t:Str) (a:List Str)=>t++(" ":Str)++"by"++" "++txt a) (txt (wq q)++" "++"first"++" "++shw (.int m)))),none,l4,l5]) ⟨rfl,_,_,gY,rfl⟩ (λi σ g _ ⟨e,_⟩=>e ▸ d.aQ k) ?_ ?_⟩
   ·rintro i x σ g hx ⟨rfl,l4,l5,hl,rfl⟩;obtain⟨p,hp,hK⟩:=dH o hx;have hi:i<ks.length:=(List.getElem?_eq_some_iff.mp hp).1;have a6:=aIx hK.ok;obtain⟨pc,rfl,a4,a5,a8⟩:=hK;have ly:=fJ a5;have l2:p.2.length<=61:=a6 _ (j7 _ (j5 ..));have J:=tD (f:=λ(t:Str) (a:List Str)=>t++(" ":Str)++"by"++" "++txt a) (x:=txt (wq q)++" "++"first"++" "++shw (.int m)) (show (ks.map wP)[i]?=some (wP p) by rw[bAC,hp];rfl);rw[show wP p=[p.1,p.2] from rfl,cG,fC] at J;have lb:Str.length " by "=4:=by trivial
    have wb:(" by ":Str) = " "++"by"++" ":=by trivial
    generalize hX:((ks.map wP).take i).foldl (λ(t:Str) (a:List Str)=>t++(" ":Str)++"by"++" "++txt a) (txt (wq q)++" "++"first"++" "++shw (.int m))=X at *;have a0:X++" by "++p.1++" "++p.2=((ks.map wP).take (i+1)).foldl (λ(t:Str) (a:List Str)=>t++(" ":Str)++"by"++" "++txt a) (txt (wq q)++" "++"first"++" "++shw (.int m)):=by rw[J,wb];simp only[PySem.Str.append_assoc]
    refine⟨pc,_,rfl,d.aQ a4,rfl,_,_,rfl,_,_,rfl,rfl,?_⟩;refine⟨_,rfl,_,_,rfl,rfl,le2 (by lia) (by rw[lb];decide),_,rfl,_,_,rfl,rfl,le2 (by rw[aM,lb];lia) (by lia),_,_,rfl,rfl,le2 (by rw[aM,aM,lb];lia) u,_,rfl,_,_,rfl,rfl,le2 (by rw[aM,aM,aM,lb,bL];lia) (by lia),?_⟩;refine⟨rfl,_,_,?_,congrArg (λz=>[some (V.ref a),some (V.str "first"),some (V.str z),none,_,_]) a0⟩;rw[<-a0,aM,aM,aM,aM,lb,bL];lia
   ·rintro σ g ⟨rfl,l4,l5,hl,rfl⟩;refine⟨_,rfl,?_⟩;rw[bBK (by rw[d7];lia),aQ6];exact Y _ d
def tgV:V->Tg
 |.int i=>.int i
 |.str x=>.str x
 |_=>.non
def tgO:Oth->Tg
 |.val v=>.tup [.str "value",tgV v]
 |.col d=>.tup [.str "column",.str d]
def tgT (t:Tst):Tg:=.tup [.str t.c,.str t.sg,tgO t.o]
def tgP (p:Str × Str):Tg:=.tup [.str p.1,.str p.2]
def tgC:Option Str->Tg
 |none=>.non
 |some c=>.str c
def tgS (s:Sm):Tg:=.tup [.str s.wd,tgC s.c,.str s.new]
def tgq:Qn->Tg
 |.table T=>.tup [.str "table",.str T]
 |.whr q ts=>.tup [.str "where",tgq q,.tup (ts.map tgT)]
 |.keep q ns=>.tup [.str "keep",tgq q,.tup (ns.map Tg.str)]
 |.nmd q ns=>.tup [.str "named",tgq q,.tup (ns.map Tg.str)]
 |.join q r ps=>.tup [.str "join",tgq q,tgq r,.tup (ps.map tgP)]
 |.group q ns ss=>.tup [.str "group",tgq q,.tup (ns.map Tg.str),.tup (ss.map tgS)]
 |.first q ks m=>.tup [.str "first",tgq q,.tup (ks.map tgP),.int m]
section
variable {H:Hp}
def bEl (h:Vl v):bH K H v (tgV v):=by
 rcases h with⟨i,rfl,_⟩|⟨x,rfl,_,h8⟩
 ·exact .int
 ·exact .str (by lia)
def st (h:x.length<=61):bH K H (.str x) (.str x):=.str (by lia)
def IsO.tg (h:IsO K H v o):bH K H v (tgO o):=by
 cases o with
 |val x=>obtain⟨a,rfl,b,f,e⟩:=h;exact .tup b (by show 2<=1000;decide) (.cons (.str (by trivial)) (.cons (bEl e) .nil))
 |col d=>obtain⟨a,rfl,b,c⟩:=h;exact .tup b (by show 2<=1000;decide) (.cons (.str (by trivial)) (.cons (fV c) .nil))
def IsT.tg (h:IsT K H v t):bH K H v (tgT t):=by have d:=aD7 h.ok;obtain⟨a,w,rfl,b,e,f,c⟩:=h;exact .tup b (by show 3<=1000;decide) (.cons (fV e) (.cons (st (d _ (j7 _ (j5 ..)))) (.cons c.tg .nil)))
def oY.tg (h:oY K H v p):bH K H v (tgP p):=by obtain⟨a,rfl,c,d,b⟩:=h;exact .tup c (by show 2<=1000;decide) (.cons (fV d) (.cons (fV b) .nil))
def nZ.tg (h:nZ K H v p):bH K H v (tgP p):=by have b:=aIx h.ok;obtain⟨a,rfl,c,d,e⟩:=h;exact .tup c (by show 2<=1000;decide) (.cons (fV d) (.cons (st (b _ (j7 _ (j5 ..)))) .nil))
def lE.tg (h:lE K H v s):bH K H v (tgS s):=by
 obtain⟨a,rfl,f,h⟩:=h;rcases h with⟨g,b,d⟩|⟨c,b,hc,h4,d⟩
 ·unfold tgS;rw[g,b];exact .tup d (by show 3<=1000;decide) (.cons (.str (by trivial)) (.cons .non (.cons (fV f) .nil)))
 ·unfold tgS;rw[b];exact .tup d (by show 3<=1000;decide) (.cons (st (by rcases h4 with e|e|e <;> rw[e] <;> decide +kernel)) (.cons (fV hc) (.cons (fV f) .nil)))
def IsN.tg (h:IsN v x):bH K H v (.str x):=by rw[h.1];exact fV h.2
def aSp {α:Type}{S:V->α->Prop}{f:α->Tg}{vs:List V}{xs:List α}(k:∀v x,S v x->bH K H v (f x))(h:bY S vs xs):dB K H vs (xs.map f):=by
 induction h with
 |nil=>exact .nil
 |cons r _ ih=>exact .cons (k _ _ r) ih
def lD.tg {α:Type}{S:bFC->Hp->V->α->Prop}{f:α->Tg}{lo hi:Nat}{v:V}{xs:List α}(h:lD S lo hi K H v xs)(hh:hi<=1000)(k:∀v x,S K H v x->bH K H v (f x)):bH K H v (.tup (xs.map f)):=by obtain⟨⟨a,e,rfl,c,b⟩,_,d⟩:=h;exact .tup c (by have:=b.len;lia) (aSp k b)
def IsQ.tg {v:V}{q:Qn}(h:IsQ K H v q):bH K H v (tgq q):=by
 have e:∀{x:Str},x.length<=8->bH K H (.str x) (.str x):=λh=>.str (by lia)
 induction h with
 |table a b=>exact .tup a (by show 2<=1000;decide) (.cons (e (by trivial)) (.cons (fV b) .nil))
 |whr a _ c ih=>exact .tup a (by show 3<=1000;decide) (.cons (e (by trivial)) (.cons ih (.cons (c.tg (by decide) λ_ _ h=>h.tg) .nil)))
 |keep a _ c ih=>exact .tup a (by show 3<=1000;decide) (.cons (e (by trivial)) (.cons ih (.cons (c.tg (by decide) λ_ _ h=>IsN.tg h) .nil)))
 |nmd a _ c ih=>exact .tup a (by show 3<=1000;decide) (.cons (e (by trivial)) (.cons ih (.cons (c.tg (by decide) λ_ _ h=>IsN.tg h) .nil)))
 |join a _ _ c ih1 ih2=>exact .tup a (by show 4<=1000;decide) (.cons (e (by trivial)) (.cons ih1 (.cons ih2 (.cons (c.tg (by decide) λ_ _ h=>h.tg) .nil))))
 |group a _ c d ih=>exact .tup a (by show 4<=1000;decide) (.cons (e (by trivial)) (.cons ih (.cons (c.tg (by decide) λ_ _ h=>IsN.tg h) (.cons (d.tg (by decide) λ_ _ h=>h.tg) .nil))))
 |first a _ c d ih=>exact .tup a (by show 4<=1000;decide) (.cons (e (by trivial)) (.cons ih (.cons (c.tg (by decide) λ_ _ h=>h.tg) (.cons .int .nil))))
def wY (h:bH K H v (.tup ts)):∃a vs,v=.ref a/\SqT K H a vs/\dB K H vs ts:=by
 cases h with
 |tup g l h=>exact⟨_,_,rfl,g,h⟩
def tg2 (h:bH K H v (.tup [x,y])):∃a u1 u2,v=.ref a/\SqT K H a [u1,u2]/\bH K H u1 x/\bH K H u2 y:=by obtain⟨a,b,rfl,g,h⟩:=wY h;cases h with|cons h1 h=>cases h with|cons h2 h=>cases h;exact⟨_,_,_,rfl,g,h1,h2⟩
def tg3 (h:bH K H v (.tup [x,y,z])):∃a u1 u2 u3,v=.ref a/\SqT K H a [u1,u2,u3]/\bH K H u1 x/\bH K H u2 y/\bH K H u3 z:=by obtain⟨a,b,rfl,g,h⟩:=wY h;cases h with|cons h1 h=>cases h with|cons h2 h=>cases h with|cons h3 h=>cases h;exact⟨_,_,_,_,rfl,g,h1,h2,h3⟩
def tg4 (h:bH K H v (.tup [x,y,z,t])):∃a u1 u2 u3 u4,v=.ref a/\SqT K H a [u1,u2,u3,u4]/\bH K H u1 x/\bH K H u2 y/\bH K H u3 z/\bH K H u4 t:=by obtain⟨a,b,rfl,g,h⟩:=wY h;cases h with|cons h1 h=>cases h with|cons h2 h=>cases h with|cons h3 h=>cases h with|cons h4 h=>cases h;exact⟨_,_,_,_,_,rfl,g,h1,h2,h3,h4⟩
def bBl (h:bH K H u (tgV v))(a:Vl v):u=v:=by rcases a with⟨i,rfl,_⟩|⟨x,rfl,_,h8⟩ <;> (cases h;rfl)
def bCd (h:bH K H v (tgO o))(k:OkO o):IsO K H v o:=by
 cases o with
 |val x=>obtain⟨a,e,f,rfl,g,c,b⟩:=tg2 h;cases cQ c;cases bBl b k;exact⟨a,rfl,g,k.th,k⟩
 |col d=>obtain⟨a,e,f,rfl,g,c,b⟩:=tg2 h;cases cQ c;cases cQ b;exact⟨a,rfl,g,k⟩
def bA7 (h:bH K H v (tgT t))(k:OkT t):IsT K H v t:=by obtain⟨a,f,i,d,rfl,g,e,c,b⟩:=tg3 h;cases cQ e;cases cQ c;exact⟨a,d,rfl,g,k.1,k.2.1,bCd b k.2.2⟩
def aS3 (h:bH K H v (tgP p)):∃a,v=.ref a/\SqT K H a [.str p.1,.str p.2]:=by obtain⟨a,d,e,rfl,g,c,b⟩:=tg2 h;cases cQ c;cases cQ b;exact⟨a,rfl,g⟩
def bA1 (h:bH K H v (tgS s))(k:OkS s):lE K H v s:=by
 obtain⟨a,j,m,l,rfl,g,i,d,f⟩:=tg3 h;cases cQ i;cases cQ f;refine⟨a,rfl,k.1,?_⟩;rcases k.2 with⟨e,b⟩|⟨c,b,hc,h4⟩
 ·rw[b] at d;cases d;rw[e] at g;exact .inl ⟨e,b,g⟩
 ·rw[b] at d;cases cQ d;exact .inr ⟨c,b,hc,h4,g⟩
def bAy {α:Type}{S:V->α->Prop}{f:α->Tg}{vs:List V}{xs:List α}(h:dB K H vs (xs.map f))(k:∀v x,x∈xs->bH K H v (f x)->S v x):bY S vs xs:=by
 induction xs generalizing vs with
 |nil=>cases h;exact .nil
 |cons x xs ih=>cases h with|cons h1 h=>exact .cons (k _ _ (j5 ..) h1) (ih h λv x m=>k v x (j7 _ m))
def qG {α:Type}{S:bFC->Hp->V->α->Prop}{f:α->Tg}{lo hi:Nat}{v:V}{xs:List α}(h:bH K H v (.tup (xs.map f)))(d:lo<=xs.length)(c:xs.length<=hi)(k:∀v x,x∈xs->bH K H v (f x)->S K H v x):lD S lo hi K H v xs:=by obtain⟨a,b,rfl,g,h⟩:=wY h;exact⟨⟨a,b,rfl,g,bAy h k⟩,d,c⟩
def bCe {q:Qn}:∀{v:V},bH K H v (tgq q)->Wf q->IsQ K H v q:=by
 induction q with
 |table T=>intro v h k;obtain⟨a,f,i,rfl,g,c,b⟩:=tg2 h;cases cQ c;cases cQ b;exact .table g k
 |whr q ts ih=>intro v h k;obtain⟨a,f,i,j,rfl,g,c,b,d⟩:=tg3 h;cases cQ c;exact .whr g (ih b k.1) (qG d k.2.1 k.2.2.1 λv x m h=>bA7 h (k.2.2.2 x m))
 |keep q ns ih=>intro v h k;obtain⟨a,f,i,j,rfl,g,c,b,d⟩:=tg3 h;cases cQ c;exact .keep g (ih b k.1) (qG d k.2.1 k.2.2.1 λv x m h=>⟨cQ h,k.2.2.2 x m⟩)
 |nmd q ns ih=>intro v h k;obtain⟨a,f,i,j,rfl,g,c,b,d⟩:=tg3 h;cases cQ c;exact .nmd g (ih b k.1) (qG d k.2.1 k.2.2.1 λv x m h=>⟨cQ h,k.2.2.2 x m⟩)
 |join q r ps ih ir=>intro v h k;obtain⟨a,f,i,j,n,rfl,g,c,b,d,l⟩:=tg4 h;cases cQ c;exact .join g (ih b k.1) (ir d k.2.1) (qG l k.2.2.1 k.2.2.2.1 λv x m h=>let ⟨a,e,g⟩:=aS3 h;⟨a,e,g,k.2.2.2.2 x m⟩)
 |group q ns ss ih=>intro v h k;obtain⟨a,f,i,j,n,rfl,g,c,b,d,l⟩:=tg4 h;cases cQ c;exact .group g (ih b k.1) (qG d (bAK _) k.2.1 λv x m h=>⟨cQ h,k.2.2.1 x m⟩) (qG l (bAK _) k.2.2.2.1 λv x m h=>bA1 h (k.2.2.2.2 x m))
 |first q ks m ih=>intro v h k;obtain⟨a,f,i,j,n,rfl,g,c,b,d,l⟩:=tg4 h;cases cQ c;cases l;exact .first g (ih b k.1) (qG d (bAK _) k.2.1 λv x m h=>let ⟨a,e,g⟩:=aS3 h;⟨a,e,g,k.2.2.1 x m⟩) k.2.2.2
end
section
variable {σ:L2.St}{H0 H:Hp}{t:TE}{ts:TA}{D:Ends}{rest:L2.TS}
abbrev RV:=Hp->V->Prop
def Bd (σ:L2.St)(H0:Hp)(t:TE)(R:RV):Prop:=∀H Q,Same H0 H->(∀v H',Same H H'->R H' v->Q v H')->t σ H Q
def BdA (σ:L2.St)(H0:Hp)(t:TA)(R:Hp->List V->Prop):Prop:=∀H Q,Same H0 H->(∀vs H',Same H H'->R H' vs->Q vs H')->t σ H Q
def TR (K:bFC)(t:Tg):RV:=λH v=>bH K H v t
def TRs (K:bFC)(ts:List Tg):Hp->List V->Prop:=λH vs=>dB K H vs ts
def QR (K:bFC)(q:Qn):RV:=λH v=>IsQ K H v q
def bFf (a:x.length<=1000):Bd σ H0 (tC (.str x)) (TR K (.str x)):=λH Q s q=>q _ H (Same.refl H) (.str a)
def bFt:Bd σ H0 (tC .non) (TR K .non):=λH Q s q=>q _ H (Same.refl H) .non
def aZs (h:σ[i]?=some (some (.int m))):Bd σ H0 (tUn (rU λi=>.int (-i)) (lG i)) (TR K (.int (-m))):=λH Q s q=>⟨_,h,_,rfl,q _ H (Same.refl H) .int⟩
def fG {i:Nat}{v:V}{t:Tg}(h:σ[i]?=some (some v))(r:bH K H0 v t):Bd σ H0 (lG i) (TR K t):=λH Q s q=>⟨v,h,q v H (Same.refl H) (r.same s)⟩
def bZ:BdA σ H0 wC (TRs K []):=λH Q s q=>q [] H (Same.refl H) .nil
def aH (h:Bd σ H0 t (TR K x))(hs:BdA σ H0 ts (TRs K xs)):BdA σ H0 (dO t ts) (TRs K (x::xs)):=
 λH Q s q=>h H _ s λv c a r=>hs c _ (s.trans a) λf e b d=>q _ _ (a.trans b) (.cons (bH.same b r) d)
def cA (h:BdA σ H0 ts (TRs K xs))(c:Nat.ble xs.length 1000=true):Bd σ H0 (aZh ts) (TR K (.tup xs)):=
 λH Q s q=>h H _ s λg e b r=>⟨small (by rw[dB.len r];exact bCT c),λp f _ a d=>q _ _ (b.trans a) (.tup (SqT.of d) (by rw[dB.len r];exact bCT c) (dB.same a r))⟩
def bEq (h:σ[i]?=some (some v))(r:bH K H0 v (.tup ((x::xs).map tgS))):Bd σ H0 (tSl (bEb K) (lG i) aIb (aTu (tC (.int 1)))) (TR K (.tup [tgS x])):=λH Q s q=>by
 obtain⟨a,f,rfl,g,r⟩:=wY (r.same s);cases r with
 |@cons u _ us _ h1 h2=>
  refine⟨_,h,1,rfl,a,_,rfl,g,λp d c b=>q _ d c ?_⟩;have e:oM (u::us) none (some ((1:Nat):Int))=[u]:=by rw[bBu _ (by simp)];rfl
  have b:SqT K d p (oM (u::us) none (some ((1:Nat):Int))):=b;rw[e] at b;exact .tup b (by show 1<=1000;decide) (.cons (bH.same c h1) .nil)
def aLz (h:Bd σ H0 t (TR K (tgq q)))(w:Wf q):Bd σ H0 t (QR K q):=λH Q s k=>h H Q s λv b a r=>k v b a (bCe r w)
def aY2 (k:Nat)(a:σ[j]?=some (some (.ref p)))(g:H0 p=some (.lst xs))(c:xs[k]?=some (.str x))(b:x.length<=1000):Bd σ H0 (tOp (aX2 K) (lG j) (tC (.int (k:Nat)))) (TR K (.str x)):=
 λH Q s q=>⟨_,a,p,xs,_,_,rfl,rfl,SqL.of (s _ _ g),dJ c,q _ H (Same.refl H) (.str b)⟩
def aCy (h:Bd σ H t R)(k:∀v H',Same H H'->R H' v->rest D (σ.set i (some v)) H'):kW (rC t (cI i)) rest D σ H:=h H _ (Same.refl H) λv H' s r=>k v H' s r
def QL (K:bFC)(H0:Hp)(qs:List Qn):RV:=λH v=>∃p vs,v=.ref p/\H0 p=none/\H p=some (.lst vs)/\bY (IsQ K H) vs qs
def aN1:BdA σ H0 wC (λH vs=>bY (IsQ K H) vs []):=λH Q s q=>q [] H (Same.refl H) .nil
def wM (h:Bd σ H0 t (QR K x))(hs:BdA σ H0 ts (λH vs=>bY (IsQ K H) vs xs)):BdA σ H0 (dO t ts) (λH vs=>bY (IsQ K H) vs (x::xs)):=
 λH Q s q=>h H _ s λv c a r=>hs c _ (s.trans a) λf e b d=>q _ _ (a.trans b) (.cons (IsQ.same b r) d)
def aVs (h:BdA σ H0 ts (λH vs=>bY (IsQ K H) vs xs))(g:Nat.ble xs.length 1000=true):Bd σ H0 (aZc ts) (QL K H0 xs):=
 λH Q s q=>h H _ s λvs e a r=>⟨small (by rw[bY.len r];exact bCT g),λp f d b c=>q _ _ (a.trans b) ⟨p,vs,rfl,none_of (s.trans a) d,c,r.imp λ_ _ h=>h.same b⟩⟩
def aSc (w:σ[i]?=some (some v))(z:QL K Hf xs H0 v)(A:Bd σ H0 t2 (QL K H0 ys))(l:Nat.ble (xs.length+ys.length) 1000=true):Bd σ H0 (tOp aM1 (lG i) t2) (QL K H0 (xs++ys)):=
 λH Q s q=>⟨v,w,A H _ s λu y a o=>by obtain⟨p,f,rfl,_,j,c⟩:=z;obtain⟨n,e,rfl,_,m,d⟩:=o;have B:=c.len;have x:=d.len;have l:=bCT l;exact⟨p,n,f,e,rfl,rfl,a _ _ (s _ _ j),m,small (by lia),λr t k b g=>q _ _ (a.trans b) ⟨r,f++e,rfl,none_of (s.trans a) k,g,(c.imp λ_ _ h=>h.same (s.trans (a.trans b))).app (d.imp λ_ _ h=>h.same b)⟩⟩⟩
def aMf (l:σ[i]?=some (some v))(r:QL K H0 xs H v)(s:Same H0 H)(h:Bd σ H t (QR K x))(j:Nat.ble xs.length 999=true)(k:∀H',Same H0 H'->QL K H0 (xs++[x]) H' v->rest D σ H'):kW (aKn (tBM K "list" aHw (lG i) (dO t wC))) rest D σ H:=by
 obtain⟨p,e,rfl,b,g,c⟩:=r;refine⟨_,l,.inl ⟨rfl,_,SqL.of g⟩,h H _ (Same.refl H) λu m a f=>⟨p,e,u,rfl,rfl,a _ _ g,?_,?_⟩⟩
 ·have:=c.len;have j:=bCT j;exact dC (by lia)
 ·have d:=a _ _ g;exact k _ (oW b (s.trans a)) ⟨p,e++[u],rfl,b,aL,(c.imp λ_ _ h=>(h.same a).tk (vO d)).app (.cons (IsQ.tk (vO d) f) .nil)⟩
end
inductive aOw (K:bFC)(vs:List V)(H:Hp)(Q:VK)(E_:XK):Prop
 |mk (a N:Addr) (v:V) (q:Qn) (ns:List Str) (_:vs=[.ref a,v,.ref N]) (_:jV H a) (_:N≠a) (_:IsQ K H v q) (_:My.size q<=13) (_:H N=some (.lst (ns.map V.str))) (_:jC ns) (_:∀v' H' q',Fx a H H'->IsQ K H' v' q'->My.size q'<=20->Q v' H')
def names17 (h:jC ns):∃n0 n1 n2 A B C D r,ns=n0::n1::n2::A::B::C::D::r/\Nm n1/\Nm n2/\Nm A/\Nm B/\Nm C/\Nm D:=by
 obtain⟨l,h,_⟩:=h
 match ns,l,h with
 |n0::n1::n2::A::B::C::D::r,_,h=>exact⟨n0,n1,n2,A,B,C,D,r,rfl,h _ (by simp),h _ (by simp),h _ (by simp),h _ (by simp),h _ (by simp),h _ (by simp)⟩
def aHp (T:Txt w K mg)(aO:Ok P w K mg base 1 "_law_next" m7 gO):Ok P w K mg base 2 "_law_more" u5 (aOw K):=by
 refine Ok.ofV T.aJ7 yN (by trivial) (λf aj A a7 s H vs Q E hr h=>?_)
 obtain⟨a,N,v,q,ns,rfl,hs,ah,hq,hz,hN,hn,qq⟩:=h;have ak:=yN.nd;refine⟨_,(aA (rD (dI oN (vv 2) (cY aC) (cY aC)) (aW5 rfl (aX (cU 3) (aX (cU 4) (aX (cU 5) (aX (cU 6) dF)))))) (aA (aY 7 (bU aO (aG (vv 0) (va1 aC)))) (aA (aY 8 (aK (aG (aK (aG (vv 3) (aG aF (va1 (aK (aG aF (va1 (aJn aCs (vv 7))))))))) (aG (aK (aG (vv 4) (aG aF (va1 (aK (aG aF (va1 aF))))))) (va1 (aK (aG (vv 5) (aG aF (va1 (aK (aG aF (va1 (vv 6))))))))))))) (aA (aY 9 (bM (va1 (aK (aG aF (aG (vv 1) (va1 (vv 8)))))))) (aA (aY 10 (aK (aG (aK (aG aF (aG gQ (va1 (vv 6))))) (aG (aK (aG aF (aG (vv 3) (va1 (vv 5))))) (aG (aK (aG aF (aG (vv 4) (va1 (vv 3))))) (va1 (aK (aG aF (aG (vv 5) (va1 (vv 4))))))))))) (aA (aY 9 (aW gW (vv 9) (bM (aG (aK (aG aF (aG (vv 1) (aG (aK (aG (vv 3) (va1 (vv 4)))) (va1 (vv 10)))))) (va1 (aK (aG aF (aG (vv 1) (aG (aK gB) (va1 (dI aPv (vv 10) iC (cY aC)))))))))))) (aA (dG (fK PySem.F.plainAttrs_list PySem.F.slot_list_append PySem.F.type_list_append dM (vv 9) (va1 (aK (aG aF (aG (vv 1) (aG (aK (va1 (vv 5))) (va1 (aK gB))))))))) (aA (aY 9 (aW gW (vv 9) (bM (aG (aK (aG aF (aG (vv 1) (aG (aK (aG (aK (aG (vv 3) (va1 aF))) (aG (aK (aG (vv 4) (va1 aF))) (va1 (aK (aG (vv 5) (va1 aF))))))) (va1 (vv 7)))))) (va1 (aK (aG aF (aG (vv 1) (aG (aK gB) (va1 (vv 7))))))))))) (aA (dG (fK PySem.F.plainAttrs_list PySem.F.slot_list_append PySem.F.type_list_append dM (vv 9) (va1 (aK (aG aF (aG (vv 1) (aG (aK (aG aF (aG (aK (aG aF (va1 (bO cX (vv 2) aC)))) (va1 (aK (aG (vv 3) (va1 (vv 4)))))))) (va1 (aK (aG (aK (aG (vv 3) (va1 (vv 4)))) (aG (aK (aG (vv 5) (va1 (vv 6)))) (va1 (aK (aG (vv 6) (va1 (vv 3)))))))))))))))) (aA (dG (fK PySem.F.plainAttrs_list PySem.F.slot_list_append PySem.F.type_list_append dM (vv 9) (va1 (aK (aG aF (aG (aK (aG aF (va1 (bO cX (vv 2) aC)))) (aG (vv 1) (va1 (aK (aG (aK (aG (vv 4) (va1 (vv 5)))) (va1 (aK (aG (vv 5) (va1 (vv 4))))))))))))))) (aB (aJ (bO cX (vv 9) (bU aO (aG (vv 0) (va1 aC)))))))))))))))),?_⟩;obtain⟨n0,n1,n2,A,B,C,D,r,en,m1,m2,L,d,i,X⟩:=names17 hn;have g3:oM (ns.map V.str) (some 3) (some 7)=[.str A,.str B,.str C,.str D]:=by rw[en];rfl
 refine⟨_,rfl,3,rfl,7,rfl,N,_,rfl,SqL.of hN,λp1 H1 f1 s1 g1=>?_⟩;rw[g3] at g1;refine⟨p1,_,rfl,SqL.of g1,rfl,_,_,rfl,_,_,rfl,_,_,rfl,_,_,rfl,rfl,?_⟩;refine⟨_,rfl,a,61,rfl,hs.same s1,by decide,λc H2 f2 c0 c1=>?_⟩;obtain⟨m,rfl⟩:∃m:Nat,c=(m:Int):=⟨c.toNat,by lia⟩;have S:m<=60:=by lia
 have l:=(Fx.of hs s1).trans f2;have a0:=hq.tk (l.tk hs);have a2:=l.same _ _ ah hN;have G:=hq.wf;have b:∀{x:Str},x.length<=8->∀{σ:L2.St} {H0:Hp},Bd σ H0 (tC (.str x)) (TR K (.str x)):=λh=>bFf (by lia);have I:∀{H:Hp},bH K H (.str A) (.str A):=fV L;have j:∀{H:Hp},bH K H (.str B) (.str B):=fV d;have J:∀{H:Hp},bH K H (.str C) (.str C):=fV i;have vD:∀{H:Hp},bH K H (.str D) (.str D):=fV X;have vm:∀{H:Hp},bH K H (.int (m:Int)) (.int (m:Int)):=.int;have w2:∀{n m:Str},Nm n->Nm m->OkP (n,m):=λh k=>⟨h,k⟩
 let tsT:List Tst:=[⟨A,"<",.val (.int (-(m:Int)))⟩,⟨B,"!",.val (.str "ab")⟩,⟨C,">",.col D⟩]
 let ssT:List Sm:=[⟨"count",none,D⟩,⟨"sum",some A,C⟩,⟨"least",some B,A⟩,⟨"most",some C,B⟩]
 refine aCy (R:=TR K (.tup (tsT.map tgT))) (cA (aH (cA (aH (fG rfl I) (aH (b (x:="<") (by trivial)) (aH (cA (aH (b (by trivial)) (aH (aZs rfl) bZ)) rfl) bZ))) rfl) (aH (cA (aH (fG rfl j) (aH (b (x:="!") (by trivial)) (aH (cA (aH (b (by trivial)) (aH (b (by trivial)) bZ)) rfl) bZ))) rfl) (aH (cA (aH (fG rfl J) (aH (b (x:=">") (by trivial)) (aH (cA (aH (b (by trivial)) (aH (fG rfl vD) bZ)) rfl) bZ))) rfl) bZ))) rfl) λvt H3 W rt=>?_;have a8:∀t∈tsT,OkT t:=by
  intro t h;rcases List.mem_cons.mp h with rfl|h
  ·exact⟨L,.inr (.inl rfl),.inl ⟨_,rfl,by rw[Int.natAbs_neg,bEF];exact bCQ S (by decide)⟩⟩
  rcases List.mem_cons.mp h with rfl|h
  ·exact⟨d,.inr (.inr (.inr rfl)),.inr ⟨_,rfl,by intro c hc;revert c;decide +kernel,by trivial⟩⟩
  rw[List.mem_singleton.mp h];exact⟨i,.inr (.inr (.inl rfl)),X⟩
 have a1:∀s∈ssT,OkS s:=by
  intro t h;rcases List.mem_cons.mp h with rfl|h
  ·exact⟨X,.inl ⟨rfl,rfl⟩⟩
  rcases List.mem_cons.mp h with rfl|h
  ·exact⟨i,.inr ⟨A,rfl,L,.inl rfl⟩⟩
  rcases List.mem_cons.mp h with rfl|h
  ·exact⟨L,.inr ⟨B,rfl,d,.inr (.inl rfl)⟩⟩
  rw[List.mem_singleton.mp h];exact⟨d,.inr ⟨C,rfl,i,.inr (.inr rfl)⟩⟩
 have z:∀n∈[A,B],Nm n:=λn h=>by
  rcases List.mem_cons.mp h with rfl|h
  ·exact L
  ·rw[List.mem_singleton.mp h];exact d
 have a5:∀p∈[(B,C),(C,B)],OkP p:=λp h=>by
  rcases List.mem_cons.mp h with rfl|h
  ·exact⟨d,i⟩
  ·rw[List.mem_singleton.mp h];exact⟨i,d⟩
 have Z:∀p∈[(A,B),(C,D),(D,A)],OkP p:=λp h=>by
  rcases List.mem_cons.mp h with rfl|h
  ·exact⟨L,d⟩
  rcases List.mem_cons.mp h with rfl|h
  ·exact⟨i,X⟩
  ·rw[List.mem_singleton.mp h];exact⟨X,L⟩
 have a4:∀p∈[(A,("up":Str)),(B,"down"),(C,"up")],OkK p:=λp h=>by
  rcases List.mem_cons.mp h with rfl|h
  ·exact⟨L,.inl rfl⟩
  rcases List.mem_cons.mp h with rfl|h
  ·exact⟨d,.inr rfl⟩
  ·rw[List.mem_singleton.mp h];exact⟨i,.inl rfl⟩
 refine aCy (aVs (wM (aLz (q:=.whr q tsT) (cA (aH (b (by trivial)) (aH (fG rfl (a0.same W).tg) (aH (fG rfl rt) bZ))) rfl) ⟨G,by show 1<=3;decide,by show 3<=3;decide,a8⟩) aN1) rfl) λv4 H4 s4 r4=>?_;have ad:=a0.same (W.trans s4);refine aCy (R:=TR K (.tup (ssT.map tgS))) (cA (aH (cA (aH (b (x:="count") (by trivial)) (aH bFt (aH (fG rfl vD) bZ))) rfl) (aH (cA (aH (b (x:="sum") (by trivial)) (aH (fG rfl I) (aH (fG rfl J) bZ))) rfl) (aH (cA (aH (b (x:="least") (by trivial)) (aH (fG rfl j) (aH (fG rfl I) bZ))) rfl) (aH (cA (aH (b (x:="most") (by trivial)) (aH (fG rfl J) (aH (fG rfl j) bZ))) rfl) bZ)))) rfl) λv5 H5 O r5=>?_;have y:=ad.same O;have a6:QL K H3 [.whr q tsT] H5 v4:=by obtain⟨p,vs,e,f,g,r⟩:=r4;exact⟨p,vs,e,f,O _ _ g,r.imp λ_ _ h=>h.same O⟩
 refine aCy (aSc (ys:=[.group q [A,B] ssT,.group q [] (ssT.take 1)]) rfl a6 (aVs (wM (aLz (q:=.group q [A,B] ssT) (cA (aH (b (by trivial)) (aH (fG rfl y.tg) (aH (cA (aH (fG rfl I) (aH (fG rfl j) bZ)) rfl) (aH (fG rfl r5) bZ)))) rfl) ⟨G,(by show 2<=8;decide),z,(by show 4<=4;decide),a1⟩) (wM (aLz (q:=.group q [] (ssT.take 1)) (cA (aH (b (by trivial)) (aH (fG rfl y.tg) (aH (cA bZ rfl) (aH (bEq rfl r5) bZ)))) rfl) ⟨G,(by show 0<=8;decide),(λn h=>by cases h),(by show 1<=4;decide),λs h=>a1 s (bBX h)⟩) aN1)) rfl) rfl) λv6 H6 s6 r6=>?_;have aa:=y.same s6;refine aMf rfl r6 s6 (aLz (q:=.group q [C] []) (cA (aH (b (by trivial)) (aH (fG rfl aa.tg) (aH (cA (aH (fG rfl J) bZ) rfl) (aH (cA bZ rfl) bZ)))) rfl) ⟨G,(by show 1<=8;decide),(λn h=>by rw[List.mem_singleton.mp h];exact i),(by show 0<=4;decide),λs h=>by cases h⟩) rfl λH7 Y r7=>?_;have o:=y.same Y;refine aCy (aSc (ys:=[.first q [(A,"up"),(B,"down"),(C,"up")] m,.first q [] m]) rfl r7 (aVs (wM (aLz (q:=.first q [(A,"up"),(B,"down"),(C,"up")] m) (cA (aH (b (by trivial)) (aH (fG rfl o.tg) (aH (cA (aH (cA (aH (fG rfl I) (aH (b (x:="up") (by trivial)) bZ)) rfl) (aH (cA (aH (fG rfl j) (aH (b (x:="down") (by trivial)) bZ)) rfl) (aH (cA (aH (fG rfl J) (aH (b (x:="up") (by trivial)) bZ)) rfl) bZ))) rfl) (aH (fG rfl vm) bZ)))) rfl) ⟨G,(by show 3<=3;decide),a4,S⟩) (wM (aLz (q:=.first q [] m) (cA (aH (b (by trivial)) (aH (fG rfl o.tg) (aH (cA bZ rfl) (aH (fG rfl vm) bZ)))) rfl) ⟨G,(by show 0<=3;decide),(λn h=>by cases h),S⟩) aN1)) rfl) rfl) λv8 H8 U r8=>?_;have ae:=o.same U;have ab:=Y.trans U;have a9:=ab _ _ (O _ _ (s4 _ _ (W _ _ a2)));refine aMf rfl r8 U (aLz (q:=.join q (.keep (.table n1) [A,B]) [(A,B),(C,D),(D,A)]) (cA (aH (b (by trivial)) (aH (fG rfl ae.tg) (aH (cA (aH (b (by trivial)) (aH (cA (aH (b (by trivial)) (aH (aY2 1 rfl a9 (by rw[en];rfl) (by have:=fJ m1;lia)) bZ)) rfl) (aH (cA (aH (fG rfl I) (aH (fG rfl j) bZ)) rfl) bZ))) rfl) (aH (cA (aH (cA (aH (fG rfl I) (aH (fG rfl j) bZ)) rfl) (aH (cA (aH (fG rfl J) (aH (fG rfl vD) bZ)) rfl) (aH (cA (aH (fG rfl vD) (aH (fG rfl I) bZ)) rfl) bZ))) rfl) bZ)))) rfl) ⟨G,⟨m1,(by show 1<=2;decide),(by show 2<=8;decide),z⟩,(by show 1<=3;decide),(by show 3<=3;decide),Z⟩) rfl λH9 s9 r9=>?_;have ai:=o.same s9;have ag:=s9 _ _ (Y _ _ (O _ _ (s4 _ _ (W _ _ a2))));refine aMf rfl r9 s9 (aLz (q:=.join (.table n2) q [(B,C),(C,B)]) (cA (aH (b (by trivial)) (aH (cA (aH (b (by trivial)) (aH (aY2 2 rfl ag (by rw[en];rfl) (by have:=fJ m2;lia)) bZ)) rfl) (aH (fG rfl ai.tg) (aH (cA (aH (cA (aH (fG rfl j) (aH (fG rfl J) bZ)) rfl) (aH (cA (aH (fG rfl J) (aH (fG rfl j) bZ)) rfl) bZ)) rfl) bZ)))) rfl) ⟨m2,G,(by show 1<=2;decide),(by show 2<=3;decide),a5⟩) rfl λHz sz rz=>?_;obtain⟨p,vs,rfl,fp,gp,a3⟩:=rz;have sT:Same H2 Hz:=W.trans (s4.trans (O.trans (Y.trans sz)));have M:=l.sm sT;have af:p≠a:=(l.sm (W.trans (s4.trans (O.trans Y)))).st.ne fp;have lv:vs.length=8:=a3.len;refine⟨_,rfl,_,rfl,a,8,rfl,M.st,by decide,λk Hy fy k0 k1=>?_⟩;obtain⟨u,hu,mu⟩:=at_of (xs:=vs) k0 (by rw[lv];exact k1);obtain⟨q',mq,ac⟩:=a3.mem mu;refine⟨p,_,_,u,rfl,rfl,SqL.of (fy.same _ _ af gp),hu,qq u Hy q' (M.trans fy) (ac.tk (fy.tk M.st)) ?_⟩;have e8:∀x∈[Qn.whr q tsT]++[.group q [A,B] ssT,.group q [] (ssT.take 1)]++[.group q [C] []]++[.first q [(A,"up"),(B,"down"),(C,"up")] m,.first q [] m]++[.join q (.keep (.table n1) [A,B]) [(A,B),(C,D),(D,A)]]++[.join (.table n2) q [(B,C),(C,B)]],My.size x<=20:=by
  have l3:tsT.length=3:=rfl;intro x h;simp only[List.mem_append,bAJ,bAE,or_false] at h;rcases h with ((((h|h)|h)|h)|h)|h
  ·rw[h];simp only[My.size];lia
  ·rcases h with h|h <;> rw[h] <;> simp only[My.size] <;> lia
  ·rw[h];simp only[My.size];lia
  ·rcases h with h|h <;> rw[h] <;> simp only[My.size] <;> lia
  ·rw[h];simp only[My.size];lia
  ·rw[h];simp only[My.size];lia
 exact e8 q' mq
end
end My
namespace L2
open PySem PySem.Spec PyProof.Rows Builtin Builtin.ObjectAttr
section
variable {prog:Program}{w:World}{A:Around}{E:bFD}{s:Shared}{K:bFC}{C fI e:Addr}
end
section
variable {X:Cx}{K:bFC}
end
end L2
namespace My
open PySem PySem.Spec PyProof.Rows L2
section
variable {P:Program}{w:World}{K:bFC}{mg:bFF}{base:Heap}
def aVp (n:H e=none)(a:H T=none):Same H (up2 H e T C dx):=λb o h=>by unfold up2;rw[aV (bA h n),aV (bA h a)];exact h
inductive Tre:Tg->Nat->Prop
 |non {n}:Tre .non (n+1)
 |int {i n}:Tre (.int i) (n+1)
 |str {x n}:Tre (.str x) (n+1)
 |tup {ts n}:(∀t,t∈ts->Tre t n)->Tre (.tup ts) (n+1)
def Tre.no (h:Tre t 0):False:=by cases h
def Tre.up (h:Tre t n):∀{m},n<=m->Tre t m:=by
 induction h with
 |non=>intro m l;obtain⟨k,rfl⟩:∃k,m=k+1:=⟨m - 1,by lia⟩;exact .non
 |int=>intro m l;obtain⟨k,rfl⟩:∃k,m=k+1:=⟨m - 1,by lia⟩;exact .int
 |str=>intro m l;obtain⟨k,rfl⟩:∃k,m=k+1:=⟨m - 1,by lia⟩;exact .str
 |tup _ ih=>intro m l;obtain⟨k,rfl⟩:∃k,m=k+1:=⟨m - 1,by lia⟩;exact .tup λt h=>ih t h (by lia)
def pR {α:Type}{f:α->Tg}{xs:List α}{n:Nat}(h:∀x,Tre (f x) n):Tre (.tup (xs.map f)) (n+1):=.tup λt m=>by obtain⟨x,_,rfl⟩:=List.mem_map.mp m;exact h x
def bEd (v:V):Tre (tgV v) 1:=by cases v <;> first|exact .int|exact .str|exact .non
def bK (h:Tre t n)(k:Tre (.tup ts) (n+1)):Tre (.tup (t::ts)) (n+1):=.tup λx m=>by
 rcases List.mem_cons.mp m with rfl|m
 ·exact h
 ·cases k with
  |tup k=>exact k x m
def iG:Tre (.tup []) (n+1):=.tup λx m=>by cases m
def bD9 (o:Oth):Tre (tgO o) 2:=by
 cases o with
 |val v=>exact bK .str (bK (bEd v) iG)
 |col d=>exact bK .str (bK .str iG)
def bDy (t:Tst):Tre (tgT t) 3:=bK .str (bK .str (bK (bD9 _) iG))
def aZp (p:Str × Str):Tre (tgP p) 3:=bK .str (bK .str iG)
def bEs (s:Sm):Tre (tgS s) 3:=bK .str (bK (by cases s.c <;> first|exact .non|exact .str) (bK .str iG))
def bEr (q:Qn):Tre (tgq q) (dp q+5):=by
 induction q with
 |table T=>exact bK .str (bK .str iG)
 |whr q ts ih=>exact bK .str (bK ih (bK ((pR bDy).up (by lia)) iG))
 |keep q ns ih=>exact bK .str (bK ih (bK (pR λ_=>.str) iG))
 |nmd q ns ih=>exact bK .str (bK ih (bK (pR λ_=>.str) iG))
 |join q r ps ih ir=>exact bK .str (bK (ih.up (by show _<=max _ _+5;lia)) (bK (ir.up (by show _<=max _ _+5;lia)) (bK ((pR aZp).up (by show _<=max _ _+5;lia)) iG)))
 |group q ns ss ih=>exact bK .str (bK ih (bK (pR λ_=>.str) (bK ((pR bEs).up (by lia)) iG)))
 |first q ks m ih=>exact bK .str (bK ih (bK ((pR aZp).up (by lia)) (bK .int iG)))
def aL6 (K:bFC)(n:Nat):Sp:=λvs H Q _=>∃u v t,vs=[u,v]/\bH K H u t/\bH K H v t/\Tre t n/\∀H',Same H H'->Q (.bl true) H'
def aPj {H:Hp}{vs:List V}{ts:List Tg}(h:dB K H vs ts){i:Nat}{v:V}{t:Tg}(a:vs[i]?=some v)(b:ts[i]?=some t):bH K H v t:=by obtain⟨c,e,r⟩:=h.at a;rw[b] at e;cases e;exact r
theorem uW (T:Txt w K mg):∀n:Nat,Ok P w K mg base (n+1) "_law_alike" bQG (aL6 K n)
 |0=>by
  refine Ok.ofV T.wL uM (λd H Q E h=>?_) (λf J A g s H d Q E S h=>?_)
  ·obtain⟨u,v,t,rfl,_⟩:=h;rfl
  ·obtain⟨u,v,t,rfl,_,_,I,_⟩:=h;exact I.no.elim
 |n+1=>by
  have Z:=uW T n;refine Ok.ofV T.wL uM (λd H Q E h=>?_) (λf J A g s H d Q E S h=>?_)
  ·obtain⟨u,v,t,rfl,_⟩:=h;rfl
  obtain⟨u,v,t,rfl,C,B,I,q⟩:=h;refine⟨_,(aA (bN (cP (aR iT (by rfl) T.bJ bC (aG (vv 1) (va1 (dW (v:=.ty "tuple") (by rfl) T.cO cB rfl))))) (aA (bN (VW.pt (nH (eO (cP (aR iT (by rfl) T.bJ bC (aG (vv 0) (va1 (dW (v:=.ty "tuple") (by rfl) T.cO cB rfl)))))) (jY (cT nJ (aR bB (by rfl) T.eN cR (va1 (vv 0))) (aR bB (by rfl) T.eN cR (va1 (vv 1))))))) (aB (aJ iW)) aU) (aB (aJ (aR (pH rfl) (by rfl) T.aGj aAb (va1 (cZ (N:=["_law_k","_law_found","_law_due"]) ck (jJ (aD qK)) rfl (eE (by rfl) T.gG (va1 (aR bB (by rfl) T.eN cR (va1 (vv 1))))) (λcl s' H' fp=>⟨(fZ 0),eZ,(dX (Z.mono (by lia)) S (by rfl) (aG (bO (gC (K:=K)) (vv 1) (vv 0)) (va1 (bO (gC (K:=K)) (vv 2) (vv 0)))))⟩))))))) aU) (aA (bN (cT aIg (vv 1) gQ) (aB (aJ (uC aIg (vv 0) gQ))) aU) (aB (aJ (iJ (uC cJ (aR (gA.or fH) (by rfl) T.bJ bC (aG (vv 0) (va1 (dW (v:=.ty "str") (by rfl) T.qU kI rfl)))) (aR (gA.or fH) (by rfl) T.bJ bC (aG (vv 1) (va1 (dW (v:=.ty "str") (by rfl) T.qU kI rfl))))) (iJ (aV4 (aR (gA.or fH) (by rfl) T.bJ bC (aG (vv 0) (va1 (dW (v:=.ty "bool") (by rfl) T.aVl aP3 rfl))))) (jX (uC cJ (vv 0) (vv 1))))))))),?_⟩;refine⟨_,rfl,_,_,rfl,aD3 B,_,rfl,?_⟩;cases I with
  |@tup ts _ ht=>
   refine bQ ?_;obtain⟨a,o,rfl,G,la,p⟩:=iY C;obtain⟨b,d,rfl,L,lb,z⟩:=iY B;have l1:=p.len;have l2:=z.len;refine⟨_,rfl,_,_,rfl,.tup G,_,rfl,aZ ?_⟩;refine⟨_,rfl,a,_,rfl,.inr G,_,rfl,b,_,rfl,.inr L,rfl,_,rfl,?_⟩;rw[show (!decide (V.int (o.length:Int)=V.int (d.length:Int)))=false by rw[v7 (by rw[l1,l2])];rfl];refine aZ ?_;dsimp only[mO,vX,tCB,dO];refine nG ((List.range d.length).map λi:Nat=>V.int (0+(i:Int))) ((List.replicate d.length true).map V.bl) (by rw[d7,d7,List.length_replicate,bAH]) [none,some (.ref a),some (.ref b)] ?_ (small (by rw[d7,bAH];lia)) (λR r=>aB1 d.length (λR' r'=>⟨_,rfl,b,_,rfl,.inr L,r'⟩) (by lia) R r) (λi x y ex O H' R l F r=>?_) rfl λD H1 s1 hD=>?_
   ·refine⟨rfl,λi y v e k=>?_⟩
    match i,e,k with
    |0,_,k=>cases k
    |1,e,k=>cases e;cases k;exact⟨by trivial,0,rfl,rfl,by trivial⟩
    |2,e,k=>cases e;cases k;exact⟨by trivial,1,rfl,rfl,by trivial⟩
    |i+3,e,_=>cases e
   ·obtain⟨M,rfl⟩:=aMn ex;have Y:y=.bl true:=by rw[bAC] at O;obtain⟨c,W,rfl⟩:=Option.map_eq_some_iff.mp O;rw[List.getElem?_replicate,if_pos M] at W;cases W;rfl
    subst Y;have U:(0+(i:Int))=((i:Nat):Int):=by lia
    have m:i<o.length:=by lia
    have j:i<ts.length:=by lia
    refine⟨_,rfl,_,rfl,a,o,_,o[i],rfl,rfl,F.aQ G,(by rw[U];exact dJ (b8 m)),_,rfl,_,rfl,b,d,_,d[i],rfl,rfl,F.aQ L,(by rw[U];exact dJ (b8 M)),o[i],d[i],ts[i],rfl,?_,?_,ht _ (bCP j),λH2 X=>r H2 X⟩
    ·exact (aPj p (b8 m) (b8 j)).same F
    ·exact (aPj z (b8 M) (b8 j)).same F
   ·refine⟨D,List.replicate d.length true,rfl,SqL.of hD,?_⟩;have:(List.replicate d.length true).all id=true:=by simp
    rw[this];exact q H1 s1
  |non=>cases C;cases B;exact aZ ⟨_,rfl,rfl,_,rfl,bQ ⟨_,rfl,rfl,q H (Same.refl H)⟩⟩
  |int=>cases C;cases B;refine aZ ⟨_,rfl,rfl,_,rfl,aZ ?_⟩;refine⟨_,rfl,gK (.inr (.inl ⟨_,rfl⟩)) (.inr (.inr rfl)) ⟨_,rfl,gK (.inr (.inl ⟨_,rfl⟩)) (.inr (.inr rfl)) ⟨rfl,_,rfl,bQ ?_⟩⟩⟩;refine⟨_,rfl,gK (.inr (.inl ⟨_,rfl⟩)) (.inr (.inl rfl)) ⟨_,rfl,_,rfl,bQ ?_⟩⟩;refine⟨_,rfl,_,rfl,rfl,?_⟩;rw[v7 rfl];exact q H (Same.refl H)
  |str=>
   cases C with
   |str hx=>cases B;refine aZ ⟨_,rfl,rfl,_,rfl,aZ ?_⟩;refine⟨_,rfl,gK (.inl ⟨_,rfl,hx⟩) (.inr (.inr rfl)) ⟨_,rfl,gK (.inl ⟨_,rfl,hx⟩) (.inr (.inr rfl)) ⟨rfl,_,rfl,bQ ?_⟩⟩⟩;refine⟨_,rfl,gK (.inl ⟨_,rfl,hx⟩) (.inr (.inl rfl)) ⟨_,rfl,_,rfl,bQ ?_⟩⟩;refine⟨_,rfl,_,rfl,rfl,?_⟩;rw[v7 rfl];exact q H (Same.refl H)
def aO3 (K:bFC):Sp:=λvs H Q _=>∃v t,vs=[v]/\bH K H v t/\¬ Right t/\∀H',Same H H'->Q (.bl true) H'
def vW (T:Txt w K mg)(g:OkX P w K mg base 65 "shown_question" m8 (aI1 K mg)):Ok P w K mg base 66 "_law_none_shown" bQS (aO3 K):=by
 refine Ok.ofV T.zH iH (by trivial) (λf a2 A L s H vs Q E R h=>?_)
 obtain⟨v,t,rfl,ht,X,q⟩:=h;have hu:=aLk R;obtain⟨S,m,b,d,o,p,a3⟩:=T.aXm;have k:∃u,mg "NoWords"=some u/\RelV (.ref (m .words)) u:=⟨_,(o .words).mg,rfl⟩;have a:∃u,mg "NoQuestion"=some u/\RelV (.ref (m .ques)) u:=⟨_,(o .ques).mg,rfl⟩;have c:=(o .ques).cls;have j:=(o .words).cls;have a0:=iH.nd;refine⟨_,(aA (aY 1 (bM gB)) (aA (bCt (i:=2) rfl rfl iH.nd rfl rfl (by rfl) b d (λZ σ₀ E ok=>(aB (dG (aF3 ok (g.mono (by decide)) R (by rfl) (va1 (vv 0)))))) (λe=>(aB (aY 1 (bM (aG (aR (aLt (K:=K) c) (by rfl) T.bJ bC (aG (vv 2) (va1 (dY (by rfl) a)))) (aG (aR (aLt (K:=K) j) (by rfl) T.bJ bC (aG (vv 2) (va1 (dY (by rfl) k)))) (va1 (bAl (K:=K) (vv 2)))))))))) (aB (aJ (uC (bAa (Nat.lt_of_succ_lt hu)) (vv 1) (bM (aG iW (aG iW (va1 gQ))))))))),?_⟩;refine⟨(by show 0<=sizeLine;decide),λl H1 fl W g1=>?_⟩;refine⟨rfl,_,rfl,v,rfl,.inl ⟨t,ht.same W,X,λC e J M s2=>?_⟩⟩;obtain⟨⟨G,fd,D,F,B⟩,mc,kp,hc,z⟩:=o .ques;rw[mc] at M;cases M;refine⟨m .ques,e,G,rfl,rfl,D,z,λr dx n nT a1 Y=>?_⟩;have U:=aVp (C:=m .ques) (dx:=dx) n nT;have I:up2 J e r (m .ques) dx e=some (aEc e r (m .ques) dx):=aL;have y:up2 J e r (m .ques) dx dx=some xdA:=U _ _ Y;have sa:Same H (up2 J e r (m .ques) dx):=(W.trans s2).trans U;refine⟨_,rfl,e,r,m .ques,dx,G,_,rfl,I,D,y,p .ques .ques,trivial,?_⟩;refine⟨_,rfl,e,r,m .ques,dx,G,_,rfl,I,D,y,p .ques .words,trivial,?_⟩;refine⟨_,rfl,e,r,m .ques,dx,G,rfl,I,D,y,(by show 3<=sizeLine;decide),λO H4 f4 s4 g4=>?_⟩;refine⟨.ref O,rfl,(by show 3<=sizeLine;decide),λl5 H5 f5 N g5=>?_⟩;exact⟨O,l5,_,_,rfl,rfl,SqL.of (N _ _ g4),SqL.of g5,Fl2.refl (by intro x V;simp only[bAJ,bAE,or_false] at V;rcases V with rfl|rfl|rfl <;> rfl),q H5 (sa.trans (s4.trans N))⟩
theorem bC7:∀m,bnd m<=13
 |0=>by decide
 |1=>by decide
 |_+2=>j9 _
def aPs (K:bFC):Sp:=λvs H Q _=>∃v q,vs=[v]/\IsQ K H v q/\My.size q<=20/\∀H',Same H H'->Q (.str (txt (wq q))) H'
def bB0 (a:OkX P w K mg base 65 "shown_question" m8 (aI1 K mg)):Ok P w K mg base 65 "shown_question" m8 (aPs K):=
 a.calm λb H Q E ⟨v,q,e,h⟩=>⟨v,e,.inr ⟨q,h⟩⟩
def aYu (q:Qn):∃x y ts,tgq q=.tup (x::y::ts):=by cases q <;> exact⟨_,_,_,rfl⟩
def IsQ.parts (h:IsQ K H v q):∃a us ts,v=.ref a/\SqT K H a us/\us.length<=1000/\dB K H us ts/\∀i,us≠[.int i]:=by obtain⟨x,y,ts,e⟩:=aYu q;have:=h.tg;rw[e] at this;obtain⟨a,us,rfl,g,l,r⟩:=iY this;refine⟨a,us,_,rfl,g,l,r,λi z=>?_⟩;have:=r.len;rw[z] at this;cases this
def xB (h:jB t=false):¬ Right t:=λ⟨n,s,_⟩=>by have:=(aDq s).1;rw[h] at this;cases this
def aUd (h:oK t=ks++[x])(k:jB x=false):¬ Right t:=λ⟨n,s,_⟩=>by obtain⟨_,m,c,_⟩:=aDq s;rw[h] at c;obtain⟨a,b,_,d,_⟩:=mX.mp c;have:=(aDq (iB.mp d)).1;rw[k] at this;cases this
def bAt {te:TE}{H:Hp}{Q:VK}{a:Addr}{xs:List V}(t:H a=some (.lst xs))(s:xs.length<=1000)(B:∀x∈xs,∀H' R l,Same H H'->(∀H2,Same H' H2->R (.bl true) H2)->te (([none].set 0 l).set 0 (some x)) H' R)
  (q:∀D H',Same H H'->H' D=some (.lst ((List.replicate xs.length true).map V.bl))->Q (.ref D) H'):aL0 (Itl K a) H [none] (cI 0) uA te Q:=by
 refine aA4 Same (qM H) xs (λ_=>true) (λi _ y=>y=.bl true) (λ_ _ h=>h) (λ_ _ _ h=>h) (λi σ=>∃x,xs[i]?=some x/\At1 [none] x σ) (Ps1 [none]) ⟨none,rfl⟩ (small s) (Itl K a) (aCc λH' e=>SqL.of (e _ _ t)) (sX λH' e=>SqL.of (e _ _ t)) (λi x A H' C c p d r=>hg1 (i:=i) p fun f n w=>r f n ⟨x,c,w⟩) (λi x f c at2 H' R d r=>r H' (Same.refl _)) (λi x f c at2 _ H' R d r=>?_) λD H' k d F g j=>?_
 ·obtain⟨E,b,l,rfl⟩:=at2;rw[c] at b;cases b;exact B x (bAR c) H' R l d λH2 m=>r _ H2 m rfl
 ·rw[oX] at j;obtain⟨z,v⟩:=lL j;have e:k=(List.replicate xs.length true).map V.bl:=by
   rw[List.map_replicate];exact List.eq_replicate_iff.mpr ⟨z,λy o=>by obtain⟨i,u,rfl⟩:=bDX o;exact v i _ (b8 u)⟩
  rw[e] at g;exact q D H' d g
def bAb {f:Addr}{fd:FuncData}(F:Fun K "law" "law" aSz f fd)(T:Txt w K mg)(c2:Ok P w K mg base 1 "_law_seed" bQH (aOq K))(aO:Ok P w K mg base 1 "_law_next" m7 gO)
  (cb:Ok P w K mg base 2 "_law_names" m7 aVe) (c4:Ok P w K mg base 2 "_law_head" bQF (aMb K))
  (gZ:Ok P w K mg base 9 "_law_question" o8 (aZf K 3)) (cn:Ok P w K mg base 2 "_law_more" u5 (aOw K))
  (qI:Ok P w K mg base 26 "_law_alike" bQG (aL6 K 25)) (zG:Ok P w K mg base 66 "_law_none_shown" bQS (aO3 K)) (lB:Ok P w K mg base 23 "_law_shown" bQO (aVv K 20)) (c8:Ok P w K mg base 65 "shown_question" m8 (aPs K)) (cf:Ok P w K mg base 37 "read_question" bQC (aVb K)) :
  gJ P w K mg base CX0 67 f fd bQH (aG6 K):=by
 refine Fun.okV F aT6 (λvs H Q E h=>?_) (λce A bi s H vs Q E hr h=>?_)
 ·obtain⟨a,I,rfl,_⟩:=h;rfl
 obtain⟨sc,sn,rfl,hS,bm,q⟩:=h;have hu:=aLk hr;have ci:=aT6.nd;refine⟨_,(aA (aY 1 (bM (va1 (bU c2 (va1 (vv 0)))))) (aA (aY 2 (bU cb (aG (vv 1) (va1 aC)))) (aA (aY 3 aU6) (aA (gR PassesOwn.never rfl (eE (by rfl) T.gG (va1 (aW eG aC (bU aO (aG (vv 1) (va1 aC)))))) (cU 4) (aB (aYw hu (vv 3) (bO cX (vv 2) (vv 4)) (bU c4 (aG (vv 1) (va1 (vv 2))))))) (aA (aY 5 (bM gB)) (aA (gR PassesOwn.never rfl (eE (by rfl) T.gG (va1 aC)) (cU 4) (aA (aY 6 (bO bD (bU gZ (aG (vv 1) (aG (vv 3) (aG (vv 2) (va1 (vv 4)))))) aC)) (aB (aY 5 (aW gW (vv 5) (bM (aG (vv 6) (va1 (bU cn (aG (vv 1) (aG (vv 6) (va1 (vv 2))))))))))))) (aA (aY 7 (bM (aG gQ (aG aF (aG (aK (aG aF (va1 aF))) (va1 (aK (aG aF (aG (bO cX (vv 5) aC) (va1 (aK gB))))))))))) (aA (dG (fK PySem.F.plainAttrs_list PySem.F.slot_list_append PySem.F.type_list_append dM (vv 7) (va1 (aK (aG aF (aG (bO cX (vv 5) aC) (aG (aK (va1 aF)) (va1 (aK (va1 (aW aW1 (aK (va1 (bO cX (vv 2) aC))) aC))))))))))) (aA (bN (eO (cP (aR (pH rfl) (by rfl) T.aGj aAb (va1 (cZ (N:=bQS) ck eV rfl (mQ (aW gW (vv 7) (bM (aG (bG pU (by rfl) T.aDa xG (va1 (bO cX (vv 5) aC))) (va1 (aK (aG aF (aG (aK (va1 aF)) (aG (aK gB) (va1 aC)))))))))) (λcl s' y fp=>⟨(fZ 0),eZ,(bU zG (va1 (vv 0)))⟩)))))) (aB (aJ iW)) aU) (aA (gR PassesOwn.never rfl (mQ (aW gW (vv 5) (bBq (vv 5) (aJn aCs aC)))) (cU 6) (aA (aY 8 (bU lB (va1 (vv 6)))) (aA (aY 9 (bU c8 (va1 (vv 6)))) (aB (bN (VW.pt (nH (eO (cP (aR (gA.or fH) (by rfl) T.bJ bC (aG (vv 9) (va1 (dW (v:=.ty "str") (by rfl) T.qU kI rfl)))))) (nH (cT nJ (vv 9) (vv 8)) (jY (eO (cP (bU qI (aG (bU cf (va1 (vv 8))) (va1 (vv 6)))))))))) (aB (aJ iW)) aU))))) (aB (aJ iW)))))))))))),?_⟩;refine⟨_,rfl,sc,sn,rfl,hS,bm,λc H1 s1 c0 c1=>⟨(by show 1<=sizeLine;decide),λa H2 fa s2 g2=>?_⟩⟩;have au:jV H2 a:=⟨c,g2,c0,c1⟩;refine⟨_,rfl,a,rfl,au,λN H3 I f3 fN g3 hn=>?_⟩;have u:N≠a:=au.ne fN;have M:=f3.st;refine λd H4 an s4 g4=>?_;have a3:d≠a:=M.ne an;refine⟨_,rfl,a,2,rfl,M.same s4,by decide,λz H5 f5 z0 z1=>?_⟩;have bf:Fx a H3 H5:=(Fx.of M s4).trans f5;refine⟨_,_,rfl,rfl,_,rfl,(by show -(2 ^ 62)<=2+z;lia),(by show 2+z<2 ^ 62;lia),?_⟩;refine gH (n:=(2+z).toNat) (λi σ y=>Fx a H3 y/\∃(kvs:List (Key × V)) (ts:List (Str × Hdr)) (l4:Option V),y d=some (.dK kvs)/\bY (λ(kv:Key × V) (t:Str × Hdr)=>kv.1=Sum.inr t.1/\jW K y kv.2 t.2) kvs ts/\ts.map (·.1)=I.take i/\(∀t∈ts,wJ t.2)/\σ=[some (.ref sc),some (.ref a),some (.ref N),some (.ref d),l4,none,none,none,none,none]) ⟨bf,[],[],_,f5.same _ _ a3 g4,.nil,rfl,(λt h=>by cases h),rfl⟩ ?_ ?_
 ·rintro i σ y hi ⟨fx,kvs,ts,l4,hdk,hkv,hnm,hok,rfl⟩;have b2:=hn.1;have c9:i<3:=by lia
  have a5:i<I.length:=by lia
  have cd:=hkv.len;have bd:ts.length=i:=by have:=congrArg List.length hnm;rw[d7,bAV] at this;lia
  refine⟨_,rfl,_,rfl,a,N,I,rfl,fx.st,fx.same _ _ u g3,u,hn,λv H6 hd f6 hh aq _=>?_⟩;have a1:=f6.same _ _ a3 hdk;refine⟨_,rfl,_,rfl,_,rfl,N,_,_,_,rfl,rfl,SqL.of ((fx.trans f6).same _ _ u g3),(by rw[bEH];exact dJ (by rw[bAC,b8 a5];rfl)),d,_,rfl,aSr.k (k:=(Sum.inr I[i]:Key)) a1 (dC (by lia)),?_⟩;have ag:pA kvs (Sum.inr I[i]:Key)=none:=by
   cases e:pA kvs (Sum.inr I[i]:Key) with
   |none=>rfl
   |some v=>exfalso;have hm:=aPx e;rw[aAi hkv,hnm] at hm;obtain⟨n',a9,e'⟩:=List.mem_map.mp hm;have e':n'=I[i]:=Sum.inr.inj e';obtain⟨j,hj,ej⟩:=bDX a9;rw[bAV] at hj;rw[List.getElem_take] at ej;have:=aNt hn.2.2 (b8 a5) (show I[j]?=some I[i] by rw[b8 (by lia),ej,e']);lia
  rw[aJj v ag];have af:TK K H6 (upd H6 d (.dK (kvs++[((Sum.inr I[i]:Key),v)]))):=λ_ _ e=>e.bFr a1;refine⟨(fx.trans f6).upd an a3,_,ts++[(I[i],hd)],_,aL,(hkv.imp λ_ _ h=>⟨h.1,(h.2.tk (f6.tk fx.st)).tk af⟩).app (.cons ⟨rfl,hh.tk af⟩ .nil),?_,λt ht=>?_,rfl⟩
  ·rw[bAY,hnm,bBM,b8 a5];rfl
  ·rcases List.mem_append.mp ht with ht|ht
   ·exact hok t ht
   ·rw[List.mem_singleton.mp ht];exact aq
 rintro σ H6 ⟨fx6,kvs,ts,l4,hdk,hkv,hnm,hok,rfl⟩;have b2:=hn.1;have bd:ts.length=(2+z).toNat:=by have:=congrArg List.length hnm;rw[d7,bAV] at this;lia
 have b3:bDz ts:=⟨by rw[hnm];exact hn.2.2.sublist (bCY _ _),λt ht=>⟨hn.2.1 _ (bBX (i:=(2+z).toNat) (by rw[<-hnm];exact List.mem_map.mpr ⟨t,ht,rfl⟩)),hok t ht⟩,by lia,by lia⟩;have bh:aVr K H6 d ts:=⟨kvs,hdk,hkv⟩;have ab:=fx6.same _ _ u g3;refine⟨(by show 0<=sizeLine;decide),λp0 H7 bb s7 g7=>?_⟩;have b1:p0≠a:=fx6.st.ne bb;refine⟨_,rfl,by decide,by decide,gH (n:=3) (λi σ y=>Fx a H6 y/\∃(p:Addr) (ws:List V) (qs:List Qn) (l4 l6:Option V),p≠a/\y p=some (.lst ws)/\ws.length=2 * i/\bY (IsQ K y) ws qs/\(∀x∈qs,My.size x<=20)/\σ=[some (.ref sc),some (.ref a),some (.ref N),some (.ref d),l4,some (.ref p),l6,none,none,none]) ⟨.of fx6.st s7,p0,[],[],_,_,b1,g7,rfl,.nil,(λv h=>by cases h),rfl⟩ ?_ ?_⟩
 ·rintro i σ y hi ⟨fx,p,ws,qs,l4,l6,npa,gp,lws,hws,hqs,rfl⟩;have b4:i<=2:=by lia
  refine⟨_,rfl,_,rfl,_,rfl,_,rfl,a,d,N,i,ts,I,?_,by lia,b4,fx.st,u,bh.fx fx6.st fx,b3,fx.same _ _ u ab,hn,λr H8 v1 v2 S h1 f8 g8 D ch bw bz a0=>?_⟩
  ·exact congrArg (λz=>[V.ref a,V.ref d,V.ref N,V.int z]) (by lia)
  have hb:=bC7 i;refine⟨r,_,0,_,rfl,rfl,SqT.of g8,at0 _ _,?_⟩;have G:=fx.trans f8;have bc:=f8.same _ _ npa gp;refine⟨_,rfl,_,rfl,_,rfl,_,rfl,_,rfl,a,N,v1,S,I,rfl,G.st,u,D,by lia,G.same _ _ u ab,hn,λv9 H9 q9 f9 bv b5=>?_⟩;have ae:=G.trans f9;refine⟨(by show 2<=sizeLine;decide),λbk bt bx o aa=>?_⟩;have am:=o _ _ (f9.same _ _ npa bc);refine⟨p,bk,_,_,rfl,rfl,am,aa,small (by show ws.length+2<=1000;lia),λaz a2 ak J Z=>?_⟩;have ao:=ae.sm (o.trans J);have ar:TK K y a2:=λ_ _ e=>(o.trans J).aQ (f9.aQ G.st (f8.aQ fx.st e));refine⟨ao,az,_,qs++[S,q9],_,_,(ae.sm o).st.ne ak,Z,by rw[j4];show ws.length+2=_;lia,(hws.imp λ_ _ h=>h.tk ar).app (.cons ((D.tk (f9.tk G.st)).same (o.trans J)) (.cons (bv.same (o.trans J)) .nil)),λx hx=>?_,rfl⟩;rcases List.mem_append.mp hx with hx|hx
  ·exact hqs x hx
  rcases List.mem_cons.mp hx with rfl|hx
  ·lia
  ·rw[List.mem_singleton.mp hx];exact b5
 rintro σ H8 ⟨G,p,ws,qs,l4',l6,npa,gp,lws,hws,hqs,rfl⟩;obtain⟨v0,vr,q0,qr,rfl,rfl,h0,be⟩:∃v0 vr q0 qr,ws=v0::vr/\qs=q0::qr/\IsQ K H8 v0 q0/\bY (IsQ K H8) vr qr:=by
  cases hws with
  |nil=>cases lws
  |cons a b=>exact⟨_,_,_,_,rfl,rfl,a,b⟩
 have bl:=G.same _ _ u ab;obtain⟨n0,n1,n2,nA,nB,nC,nD,nr,en,m1,m2,mA,mB,mC,mD⟩:=names17 hn;have g:∀{x:Str} {H:Hp},x.length<=8->bH K H (.str x) (.str x):=λh=>.str (by lia);refine⟨(by show 2<=sizeLine;decide),λt1 Ha _ sa ga=>?_⟩;refine⟨_,rfl,p,_,0,v0,rfl,rfl,SqL.of (sa _ _ gp),at0 _ _,?_⟩;refine⟨(by show 0<=sizeLine;decide),λt2 Hb _ sb gb=>⟨(by show 3<=sizeLine;decide),λt3 Hc _ Y gc=>⟨(by show 4<=sizeLine;decide),λB Hd fB sd gd=>?_⟩⟩⟩;have a4:=sa.trans (sb.trans (Y.trans sd));refine⟨_,rfl,.inl ⟨rfl,_,SqL.of gd⟩,_,rfl,p,_,0,v0,rfl,rfl,SqL.of (a4 _ _ gp),at0 _ _,(by show 1<=sizeLine;decide),λt4 He _ se ge=>?_⟩;have br:=se _ _ (a4 _ _ bl);refine⟨_,rfl,N,_,3,.str nA,rfl,rfl,SqL.of br,dJ (j:=3) (by rw[en];rfl),(by show 1<=sizeLine;decide),λt5 Hf _ sf gf=>?_⟩;refine⟨t5,2,_,rfl,rfl,SqT.of gf,(by intro z;cases z),(by decide),(by decide),(by show 1 * 2<=sizeLine;decide),λt6 Hg sg gg=>⟨(by show 1<=sizeLine;decide),λt7 Hh _ sh gh=>⟨(by show 4<=sizeLine;decide),λt8 Hi _ si gi=>?_⟩⟩⟩;have U:=se.trans (sf.trans (sg.trans (sh.trans si)));have al:=U _ _ gd;refine⟨B,_,_,rfl,rfl,al,dC (by show 4<=1000;decide),?_⟩;have b0:H8 B=none:=none_of (sa.trans (sb.trans Y)) fB;have W:Same H8 (upd Hi B (.lst ([V.non,.str "table",.ref t1,.ref t3]++[.ref t8]))):=oW b0 (a4.trans U);have C:TK K Hi (upd Hi B (.lst ([V.non,.str "table",.ref t1,.ref t3]++[.ref t8]))):=vO al;have ad:upd Hi B (.lst ([V.non,.str "table",.ref t1,.ref t3]++[.ref t8])) B=some (.lst ([V.non,.str "table",.ref t1,.ref t3]++[.ref t8])):=aL;generalize upd Hi B (.lst ([V.non,.str "table",.ref t1,.ref t3]++[.ref t8]))=Hj at W C ad ⊢;have k1:=C _ _ (SqT.of (((sb.trans (Y.trans sd)).trans U) _ _ ga));have k2:=C _ _ (SqT.of (((Y.trans sd).trans U) _ _ gb));have k3:=C _ _ (SqT.of ((sd.trans U) _ _ gc));have k4:=C _ _ (SqT.of ((sf.trans (sg.trans (sh.trans si))) _ _ ge));have k6:=C _ _ (SqT.of ((sh.trans si) _ _ gg));have k7:=C _ _ (SqT.of (si _ _ gh));have k8:=C _ _ (SqT.of gi);dsimp only[kW,mO,vX,aYd,tCB,dO,aWf,aFk,tB];refine wR [none] iM ?_;obtain⟨qa,us,c6,rfl,gq,ax,bo,bq⟩:=h0.parts;have bn:=W _ _ gp;refine⟨_,rfl,_,rfl,p,_,0,_,rfl,rfl,SqL.of bn,at0 _ _,qa,us,rfl,.inr (W.aQ gq),λL1 Hk _ sk gk=>?_⟩;refine⟨(by show 1<=sizeLine;decide),λt9 Hl _ sl gl=>⟨(by show 0<=sizeLine;decide),λcm Hm _ a6 gm=>⟨(by show 4<=sizeLine;decide),λb9 Hn _ X gn=>⟨(by show 2<=sizeLine;decide),λL2 Ho _ so go=>?_⟩⟩⟩⟩;have ai:=sk.trans (sl.trans (a6.trans (X.trans so)));refine⟨B,L2,_,_,rfl,rfl,ai _ _ ad,go,small (by show 7<=1000;decide),λL3 bg _ O av=>?_⟩;have m:=ai.trans O;have ap:=W.trans m;have aj:=(h0.same ap).tg;refine⟨L3,rfl,⟨_,SqL.of av⟩,bAt av (by show 7<=1000;decide) (λx hx y R l s' r=>?_) λD1 Hz sz gz=>?_⟩
 ·have bj:∃t,bH K bg x t/\¬ Right t:=by
   simp only[List.mem_append,bAJ,bAE,or_false] at hx;rcases hx with ((rfl|rfl|rfl|rfl)|rfl)|rfl|rfl
   ·exact⟨_,.non,xB rfl⟩
   ·exact⟨_,g (x:="table") (by trivial),xB rfl⟩
   ·exact⟨.tup [.str "table",.str "where"],.tup (m.aQ k1) (by show 2<=1000;decide) (.cons (g (by trivial)) (.cons (g (by trivial)) .nil)),xB (by trivial)⟩
   ·exact⟨.tup [.str "keep",tgq q0,.tup []],.tup (m.aQ k3) (by show 3<=1000;decide) (.cons (g (by trivial)) (.cons aj (.cons (.tup (m.aQ k2) (by show 0<=1000;decide) .nil) .nil))),xB rfl⟩
   ·exact⟨.tup [.str "join",tgq q0,.tup [.str "table"],.tup [.tup [.str nA,.str nA]]],.tup (m.aQ k8) (by show 4<=1000;decide) (.cons (g (by trivial)) (.cons aj (.cons (.tup (m.aQ k4) (by show 1<=1000;decide) (.cons (g (by trivial)) .nil)) (.cons (.tup (m.aQ k7) (by show 1<=1000;decide) (.cons (.tup (m.aQ k6) (by show 2<=1000;decide) (.cons (fV mA) (.cons (fV mA) .nil))) .nil)) .nil)))),aUd (ks:=[tgq q0]) (x:=.tup [.str "table"]) rfl rfl⟩
   ·exact⟨_,.lst (((sl.trans (a6.trans (X.trans so))).trans O) _ _ gk) ax (bo.same (W.trans m)) bq,xB rfl⟩
   ·exact⟨.tup [.str "first",.tup [.str "sum"],.tup [],.int 1],.tup (SqT.of ((so.trans O) _ _ gn)) (by show 4<=1000;decide) (.cons (g (by trivial)) (.cons (.tup (SqT.of (((a6.trans (X.trans so)).trans O) _ _ gl)) (by show 1<=1000;decide) (.cons (g (by trivial)) .nil)) (.cons (.tup (SqT.of (((X.trans so).trans O) _ _ gm)) (by show 0<=1000;decide) .nil) (.cons .int .nil)))),aUd (ks:=[]) (x:=.tup [.str "sum"]) rfl rfl⟩
  obtain⟨t,ht,a9⟩:=bj;exact⟨_,rfl,x,t,rfl,ht.same s',a9,λH2 s2=>r H2 s2⟩
 refine⟨D1,_,rfl,SqL.of gz,_,rfl,?_⟩;rw[show (List.replicate ([V.non,V.str "table",V.ref t1,V.ref t3]++[V.ref t8]++[V.ref L1,V.ref b9]).length true).all id=true from rfl];refine aZ ?_;have a8:=ap.trans sz;refine⟨_,rfl,_,rfl,_,rfl,p,_,rfl,rfl,SqL.of (a8 _ _ gp),λbu bt c3 o aa=>⟨p,bu,_,_,rfl,rfl,(a8.trans o) _ _ gp,aa,small (by rw[bBZ,lws];decide),λL a2 fL J Z=>?_⟩⟩;have ah:=a8.trans (o.trans J);refine⟨L,rfl,⟨_,SqL.of Z⟩,aVj (xs:=(V.ref qa::vr)++(V.ref qa::vr).reverse) (λi σ y=>Same a2 y/\∃(l6 l8 l9:Option V),σ=[some (.ref sc),some (.ref a),some (.ref N),some (.ref d),l4',some (.ref p),l6,some (.ref B),l8,l9]) ⟨Same.refl _,_,_,_,rfl⟩ (λi σ y _ ⟨sm,_⟩=>SqL.of (sm _ _ Z)) ?_ ?_⟩
 ·rintro i x σ y hx ⟨sm,l6,l8,l9,rfl⟩;have bp:x∈V.ref qa::vr:=by
   rcases List.mem_append.mp (bAR hx) with h|h
   ·exact h
   ·exact List.mem_reverse.mp h
  obtain⟨S,bs,b6⟩:=bY.mem (.cons h0 be) bp;have D:=b6.same (ah.trans sm);have a0:=hqs S bs;have aw:=D.wf;have cg:=aP0 aw;refine⟨_,rfl,x,S,rfl,D,a0,by lia,λcc a7=>?_⟩;refine⟨_,rfl,x,S,rfl,D.same a7,a0,λc5 ac=>?_⟩;refine⟨_,rfl,.inl ⟨_,_,_,rfl,rfl,_,rfl,aZ ?_⟩⟩;refine⟨_,rfl,_,rfl,rfl,_,rfl,?_⟩;rw[show (!decide (V.str (txt (wq S))=V.str (txt (wq S))))=false by rw[v7 rfl];rfl];refine aZ ⟨_,rfl,S,rfl,aw,a0,λv' cj as ba=>?_⟩;refine⟨_,rfl,v',x,tgq S,rfl,ba.tg,(D.same (a7.trans (ac.trans as))).tg,(bEr S).up (by lia),λca ay=>⟨_,rfl,aZ ?_⟩⟩;exact⟨sm.trans (a7.trans (ac.trans (as.trans ay))),_,_,_,rfl⟩
 ·rintro σ y ⟨sm,l6,l8,l9,rfl⟩;exact q y
def aKs (T:Txt w K mg)(e:Ok P w K mg base 1 "is_whole" m5 (pC K))(g:Ok P w K mg base 1 "is_word" m5 (qN K (lA 0)))(b:Ok P w K mg base 2 "is_name" m5 (qN K nameB)):OkX P w K mg base 8 "checked" m5 (tV K mg):=by have d:=aLq T e g;have a:=aHq (P:=P) (base:=base) T;have c:=bB4 b;have f:aNo P w K mg base:=⟨c,vZ T,aE9 T (aJm T a b (aH9 T a d b)) (dN T),aFd T c (dN T),tZ T c (dN T),aEo T (aLj T c (dN T)) (dN T),aG3 T (aN0 T a b) (dN T),aHo T (aOj T a b) (dN T),aLb T e⟩;exact aJu T (aHr T f a) (aAe T) (aIh T)
def aRy (T:Txt w K mg)(a:Ok P w K mg base 1 "is_whole" m5 (pC K))(ck:OkX P w K mg base 8 "checked" m5 (tV K mg)):OkX P w K mg base 65 "shown_question" m8 (aI1 K mg):=
 zF T (qY T (λn G=>aEq T (aFa T (aCk T a)) (aIa T) (aIy T) (aE1 T G)) 20) ck
def aS0 (T:Txt w K mg)(O:Ok P w K mg base 1 "is_word" m5 (qN K (lA 0)))(l:Ok P w K mg base 2 "is_name" m5 (qN K nameB))(ck:OkX P w K mg base 8 "checked" m5 (tV K mg)):Ok P w K mg base 37 "read_question" bQC (aVb K):=by obtain⟨C,o,J,M,r,p,H,L,B,q,v,k,g⟩:=T.aYk;have c:=o.cls;obtain⟨S,N,Q,R,j,_⟩:=T.aXm;have s:=aD0 (P:=P) (base:=base) T;have m:=bEu (aEp T (j .words) (yK T s) (aBz T (bAw O)));have d:=aQ9 (P:=P) (base:=base) T c M k g;have a:=aTk T c r g d;have f:=aTg T c p l a;have z:=aR9 T c H l d a;have y:=aQ5 T c L m a;have b:=aQp T c B g d;have t:=aGy T f a (aEz T l m);have u:=aGz T f;have F:=aK0 T f a;have A:=aL5 T f a;have x:Ok P w K mg base 6 "one_and_more" bQE (aCp P w K mg base 5 C IsT wT OkT):=qR T (by decide) (λe h=>h.tk e) b;have I:Ok P w K mg base 5 "one_and_more" bQE (aCp P w K mg base 4 C oY wP OkP):=qR T (by decide) (λe h=>h.tk e) b;have D:Ok P w K mg base 5 "each_behind" z8 (aK1 P w K mg base 4 C lE wS OkS):=rP T (by decide) (λe h=>h.tk e) b;have E:Ok P w K mg base 5 "each_behind" z8 (aK1 P w K mg base 4 C nZ wP OkK):=rP T (by decide) (λe h=>h.tk e) b;have i:=rY T d f (λn G=>aHi T a z y (aIi T (aS1 T c q b) G I u) x t D A E F) 10;exact zW T ((aRz T c J k g).make o) i (aYt T c v d) ck
def bB6 (T:Txt w K mg)(d:mg "law"=some (.ref fa)) :
  ∃fd:FuncData,(∀(s:Shared) (u:Value),BindsTo s fd ⟨[u],[]⟩ [("_law_script",u)])/\∀base:Heap,K.In base->base.Ns mainGlobals mg->gJ P w K mg base CX0 67 fa fd bQH (aG6 K):=by
 obtain⟨f,fd,F,B,m⟩:=T.bEx;have e:fa=f:=by rw[m] at d;injection d with e;injection e with e;exact e.symm
 subst e;refine⟨fd,?_,λbase _ _=>?_⟩
 ·obtain⟨⟨t,v,kV,k,p,q,j,o,n,rfl,r,l⟩,kp⟩:=F;exact λs u=>.of_eq rfl
 ·have a:=aH3 (P:=P) (base:=base) T;have i:=aKt (P:=P) (base:=base) T;have c:=aNf (P:=P) (base:=base) T;have g:=aN2 T c;have ck:=aKs T i c g;have b:=aIr T a;have h:=aRy T i ck;exact bAb F T (aG0 T) a (aFe T a (aE5 T)) (aHl T a) (pI T a b (aJb T a b) (aE0 T a (aE2 T a (aE6 T a))) (aEv T b (aI5 T a)) (aH0 T a (aEu T)) 3) (aHp T a) (uW T 25) (vW T h) (uP T (vJ T (uD T)) (vP T) 20) (bB0 h) (aS0 T c g ck)
end
inductive FA (K:bFC)(n:Str)(s:Stmt)(f:Addr):Prop
 |mk {od an:Option Addr} {sl:Array (Option Value)} {kV dc pm cd ct:Value}:PySem.W.nsIn K mainGlobals n=some (some (.ref f))->K.lookup f=some ⟨.type "function",od,.func (PySem.W.fnOf n n (kZ s) (eY s) (aD s) .none kV dc pm an cd ct),sl⟩->PySem.W.codeIn K cd n=true->PySem.W.keepIn K (.ref f)=true->FA K n s f
section
variable {K:bFC}{h:Heap}{mg:bFF}{n:Str}{s:Stmt}{f:Addr}{ps:List Str}
def aZl (X:K.In h)(G:h.Ns mainGlobals mg)(a:FA K n s f):mg n=some (.ref f):=by obtain⟨a,_,_,_⟩:=a;exact bAQ X G a
def bDp (X:K.In h)(G:h.Ns mainGlobals mg)(a:FA K n s f)(b:∀(kV doc pm:Value) (an:Option Addr) (cdv ct:Value) (us:List Value),us.length=ps.length->bindArgs (PySem.W.fnOf n n (kZ s) (eY s) (aD s) .none kV doc pm an cdv ct) ⟨us,[]⟩=pure (ps.zip us)):Dn K mg n s ps:=by have m:=aZl X G a;obtain⟨_,l,c,k⟩:=a;exact⟨f,_,aAd l c k,(aAd l c k).binds b,m⟩
def bFw (X:K.In h)(G:h.Ns mainGlobals mg)(a:FA K n s f):∃f o,(∃u,mg n=some u/\RelV (.ref f) u)/\K.lookup f=some o/\o.cls=.type "function":=by have m:=aZl X G a;obtain⟨_,l,c,k⟩:=a;exact⟨f,_,⟨_,m,rfl⟩,l,rfl⟩
end
inductive CA (K:bFC)(x:Str)(C:Addr):Prop
 |mk:PySem.W.nsIn K mainGlobals x=some (some (.ref C))->PySem.W.plainGet K C Str.empty=true->PySem.W.hasDictIn K C=true->PySem.W.plainOver K C=true->PySem.W.findIn K (.ref C) "__setattr__"=some (some (.builtin "object.__setattr__"))->PySem.W.makesIn K C=true->PySem.W.keepIn K (.ref C)=true->CA K x C
def bDh {K:bFC}{h:Heap}{mg:bFF}{x:Str}{C:Addr}(X:K.In h)(G:h.Ns mainGlobals mg)(a:CA K x C):aW8 K mg x C:=by obtain⟨a,f,d,b,c,e,g⟩:=a;exact⟨bAQ X G a,⟨f,d,b,c⟩,e,g⟩
inductive MA (K:bFC)(C:Addr)(m qual:Str)(s:Stmt)(f:Addr):Prop
 |mk {od an:Option Addr} {sl:Array (Option Value)} {kV dc pm cd ct:Value}:PySem.W.findIn K (.ref C) m=some (some (.ref f))->PySem.W.isFn K (.ref f)=true->K.lookup f=some ⟨.type "function",od,.func (PySem.W.fnOf m qual (kZ s) (eY s) (aD s) .none kV dc pm an cd ct),sl⟩->PySem.W.codeIn K cd qual=true->PySem.W.keepIn K (.ref f)=true->MA K C m qual s f
def bEe {K:bFC}{C:Addr}{m qual:Str}{s:Stmt}{f:Addr}{ps:List Str}(a:MA K C m qual s f)(b:∀(kV doc pm:Value) (an:Option Addr) (cdv ct:Value) (us:List Value),us.length=ps.length->bindArgs (PySem.W.fnOf m qual (kZ s) (eY s) (aD s) .none kV doc pm an cdv ct) ⟨us,[]⟩=pure (ps.zip us)):pG K C m qual s ps:=by obtain⟨a,i,l,c,k⟩:=a;exact⟨f,_,⟨a,i,k⟩,aAd l c k,(aAd l c k).binds b⟩
theorem ln0 {P:List Value->Prop}(h:P []):∀us:List Value,us.length=0->P us
 |[],_=>h
theorem lnS {P:List Value->Prop}{n:Nat}(h:∀a us,us.length=n->P (a::us)):∀us:List Value,us.length=n+1->P us
 |[],e=>by cases e
 |a::us,e=>h a us (Nat.succ.inj e)
def ln1 {P:List Value->Prop}(h:∀a0,P [a0]):∀us:List Value,us.length=1->P us:=lnS λa0=>ln0 (h a0)
def ln2 {P:List Value->Prop}(h:∀a0 a1,P [a0,a1]):∀us:List Value,us.length=2->P us:=lnS λa0=>lnS λa1=>ln0 (h a0 a1)
def ln3 {P:List Value->Prop}(h:∀a0 a1 a2,P [a0,a1,a2]):∀us:List Value,us.length=3->P us:=lnS λa0=>lnS λa1=>lnS λa2=>ln0 (h a0 a1 a2)
def ln4 {P:List Value->Prop}(h:∀a0 a1 a2 a3,P [a0,a1,a2,a3]):∀us:List Value,us.length=4->P us:=lnS λa0=>lnS λa1=>lnS λa2=>lnS λa3=>ln0 (h a0 a1 a2 a3)
def ln5 {P:List Value->Prop}(h:∀a0 a1 a2 a3 a4,P [a0,a1,a2,a3,a4]):∀us:List Value,us.length=5->P us:=lnS λa0=>lnS λa1=>lnS λa2=>lnS λa3=>lnS λa4=>ln0 (h a0 a1 a2 a3 a4)
def ln6 {P:List Value->Prop}(h:∀a0 a1 a2 a3 a4 a5,P [a0,a1,a2,a3,a4,a5]):∀us:List Value,us.length=6->P us:=lnS λa0=>lnS λa1=>lnS λa2=>lnS λa3=>lnS λa4=>lnS λa5=>ln0 (h a0 a1 a2 a3 a4 a5)
inductive X1 (K:bFC)(S fI:Addr)(n:Str)(C:Addr):Prop
 |mk {nm q:Str} {N:Addr} {bs bm:List Value} {sn:List Str} {sub:List Value} {ab:Bool} {col:Option Bool} {dd:Option Addr} {k0 k1 k2 k3 k5:Option Value} {cd:ClassData} :
  PySem.W.nsIn K mainGlobals n=some (some (.ref C)) ->
  K.lookup C=some (excClassObj nm q C N bs bm true sn sub ab col dd k0 k1 k2 k3 k5 "ValueError.__new__") ->
  bm.contains (.type "ValueError")=true ->
  bm.contains (.type "AttributeError")=false ->
  bm.contains (.type "NameError")=false ->
  bm.contains (.type "BaseException")=true ->
  PySem.W.clsIn K C=some cd ->
  (aCq cd.mro && cd.hasDict)=true ->
  PySem.W.findIn K (.ref C) "__init__"=some (some (.ref fI)) ->
  PySem.W.typeIn K (.ref fI)=some (.type "function") ->
  PySem.W.findIn K (.ref C) "__setattr__"=some (some (.builtin "object.__setattr__")) ->
  PySem.W.findIn K (.ref C) "__getattribute__"=some (some (.builtin "BaseException.__getattribute__")) ->
  PySem.W.findIn K (.ref C) "__getattr__"=some none ->
  PySem.W.findIn K (.ref C) "act"=some none ->
  PySem.W.findIn K (.ref C) "__class__"=some (some (.builtin "object.__class__")) ->
  PySem.W.keepIn K (.ref C)=true ->
  PySem.W.typeIn K (.ref C)=some (.type "type") ->
  PySem.W.mroIn K C (.type "BaseException")=some true ->
  PySem.W.mroIn K C (.ref S)=some true ->
  PySem.W.mroIn K C (.type "ValueError")=some true->X1 K S fI n C
inductive X0 (K:bFC)(S fI:Addr):Prop
 |mk {cS:ClassData} {od an:Option Addr} {sl:Array (Option Value)} {kV dc pm cdv ct:Value} :
  K.lookup fI=some ⟨.type "function",od,.func (PySem.W.fnOf "__init__" "ShardError.__init__" (kZ lM) (eY lM) (aD lM) .none kV dc pm an cdv ct),sl⟩ ->
  PySem.W.codeIn K cdv "ShardError.__init__"=true ->
  PySem.W.keepIn K (.ref fI)=true ->
  PySem.W.typeIn K (.ref S)=some (.type "type") ->
  PySem.W.clsIn K S=some cS ->
  PySem.W.mroIn K S (.type "BaseException")=some true->X0 K S fI
def aPf {K:bFC}{h:Heap}{mg:bFF}{S fI C:Addr}{n:Str}(X:K.In h)(G:h.Ns mainGlobals mg)(a:X1 K S fI n C)(b:X0 K S fI):ExT K mg lM n "ShardError.__init__" C S/\PySem.W.mroIn K C (.type "ValueError")=some true:=by obtain⟨q,A,v,x,z,r,o,w,p,y,t,s,u,m,l,j,i,g,k,f⟩:=a;obtain⟨d,c,e,_,_,_⟩:=b;exact⟨⟨⟨fI,_,⟨⟨_,_,_,_,_,_,_,_,_,_,_,_,_,_,_,A,v,x,z,r⟩,p,y,by rw[o];exact w,t,s,u,m,l⟩,aAd d c e,(aAd d c e).binds λ_ _ _ _ _ _=>ln2 λ_ _=>rfl⟩,bAQ X G q,j,⟨i,by rw[o];rfl,g⟩,k⟩,f⟩
def bFi (c0 c1:Addr):Exn->Addr
 |.ques=>c0
 |.words=>c1
inductive XM (K:bFC)(c0 c1:Addr):Prop
 |mk:PySem.W.mroIn K c0 (.ref c0)=some true->PySem.W.mroIn K c0 (.ref c1)=some false->PySem.W.mroIn K c1 (.ref c0)=some false->PySem.W.mroIn K c1 (.ref c1)=some true->XM K c0 c1
def bDn {K:bFC}{h:Heap}{mg:bFF}{S fI o p:Addr}(X:K.In h)(G:h.Ns mainGlobals mg)(s:PySem.W.nsIn K mainGlobals "ShardError"=some (some (.ref S)))(k:X1 K S fI "NoQuestion" o)(j:X1 K S fI "NoWords" p)(b:X0 K S fI)(m:XM K o p) :
  ∃(S:Addr) (ad:Exn->Addr),mg "ShardError"=some (.ref S)/\XS K S/\(∀c,ExT K mg lM c.nm "ShardError.__init__" (ad c) S)/\(∀c d,PySem.W.mroIn K (ad c) (.ref (ad d))=some (decide (c=d)))/\∀c,PySem.W.mroIn K (ad c) (.type "ValueError")=some true:=by
 refine⟨S,bFi o p,bAQ X G s,?_,λc=>?_,λc d=>?_,λc=>?_⟩
 ·obtain⟨_,_,_,i,n,l⟩:=b;exact⟨i,by rw[n];rfl,l⟩
 ·cases c
  ·exact (aPf X G k b).1
  ·exact (aPf X G j b).1
 ·obtain⟨g,a,f,e⟩:=m;cases c
  ·cases d
   ·exact g
   ·exact a
  ·cases d
   ·exact f
   ·exact e
 ·cases c
  ·exact (aPf X G k b).2
  ·exact (aPf X G j b).2
def aYz {K:bFC}{h:Heap}{mg:bFF}{n:Str}{l:List V}{a:Addr}{o:Obj}{vs:Array Value}{m:Nat}(X:K.In h)(G:h.Ns mainGlobals mg)(q:PySem.W.nsIn K mainGlobals n=some (some (.ref a)))(r:K.lookup a=some o)(t:o.cls=.type "tuple")(y:o.dict=none)(u:o.data=.seq vs m)(v:Vals l vs.toList)(s:l.length<=1000):∃a,mg n=some (.ref a)/\∀H,SqT K H a l:=
 ⟨_,bAQ X G q,λH=>.inr ⟨_,_,_,r,t,y,u,by have e:=v.length;simp only[bAU] at e;rw[<-e];exact small s,v⟩⟩
def aVu {K:bFC}{h:Heap}{mg:bFF}{n:Str}{v:V}{u:Value}(X:K.In h)(G:h.Ns mainGlobals mg)(q:PySem.W.nsIn K mainGlobals n=some (some u))(r:RelV v u):∃u,mg n=some u/\RelV v u:=⟨u,bAQ X G q,r⟩
def bE1 {K:bFC}{h:Heap}{mg:bFF}{x:Str}{C:Addr}{R:Addr->Prop}(X:K.In h)(G:h.Ns mainGlobals mg)(a:CA K x C)(r:R C):∃C,aW8 K mg x C/\R C:=⟨C,bDh X G a,r⟩
def bD4 {K:bFC}{h:Heap}{mg:bFF}{w:World}{ca:Addr}{R:Obj}{ce:Array DictEntry}{cp:Nat}{f0 f1 f2 p f4 T C U f8:Addr}{n c j g f k i:Addr}{to0 to1 to2 to3 to4 to5 to6:Obj}{ti0 ti1 ti2 ti3 ti4 ti5 ti6:Array Value}{tn0 tn1 tn2 tn3 tn4 tn5 tn6:Nat}(X:K.In h)(G:h.Ns mainGlobals mg)(L:PySem.W.nsIn K mainGlobals "is_name"=some (some (.ref f0)))(b:PySem.W.nsIn K mainGlobals "may_be_question"=some (some (.ref f1)))(a2:PySem.W.nsIn K mainGlobals "are_tests"=some (some (.ref f2)))(z:PySem.W.nsIn K mainGlobals "are_names"=some (some (.ref p)))(a4:PySem.W.nsIn K mainGlobals "are_pairs"=some (some (.ref f4)))(a5:PySem.W.nsIn K mainGlobals "are_group_names"=some (some (.ref T)))(O:PySem.W.nsIn K mainGlobals "are_sums"=some (some (.ref C)))(I:PySem.W.nsIn K mainGlobals "are_keys"=some (some (.ref U)))(a8:PySem.W.nsIn K mainGlobals "is_many"=some (some (.ref f8)))(q:PySem.W.nsIn K mainGlobals "FORMS"=some (some (.ref ca)))(r:K.lookup ca=some R)(x:R.ExactDict)(o:(ca == sysModules)=false)(u:R.data=.dict ce cp)(hh:∀P:Program,PH P w ce.toList [("table",Value.ref n),("where",Value.ref c),("keep",Value.ref j),("named",Value.ref g),("join",Value.ref f),("group",Value.ref k),("first",Value.ref i)])(E:K.lookup n=some to0)(t0:to0.cls=.type "tuple")(y0:to0.dict=none)(u0:to0.data=.seq ti0 tn0)(v0:Vals [.ref f0] ti0.toList)(S:K.lookup c=some to1)(t1:to1.cls=.type "tuple")(y1:to1.dict=none)(u1:to1.data=.seq ti1 tn1)(v1:Vals [.ref f1,.ref f2] ti1.toList)(r2:K.lookup j=some to2)(t2:to2.cls=.type "tuple")(Y:to2.dict=none)(M:to2.data=.seq ti2 tn2)(B:Vals [.ref f1,.ref p] ti2.toList)(r3:K.lookup g=some to3)(t3:to3.cls=.type "tuple")(N:to3.dict=none)(u3:to3.data=.seq ti3 tn3)(v3:Vals [.ref f1,.ref p] ti3.toList)(F:K.lookup f=some to4)(t4:to4.cls=.type "tuple")(y4:to4.dict=none)(u4:to4.data=.seq ti4 tn4)(v4:Vals [.ref f1,.ref f1,.ref f4] ti4.toList)(r5:K.lookup k=some to5)(t5:to5.cls=.type "tuple")(Z:to5.dict=none)(Q:to5.data=.seq ti5 tn5)(A:Vals [.ref f1,.ref T,.ref C] ti5.toList)(r6:K.lookup i=some to6)(t6:to6.cls=.type "tuple")(J:to6.dict=none)(u6:to6.data=.seq ti6 tn6)(D:Vals [.ref f1,.ref U,.ref f8] ti6.toList):∃d t0 t1 t2 t3 t4 t5 t6:Addr,mg "FORMS"=some (.ref d)/\aVf w K d [("table",t0),("where",t1),("keep",t2),("named",t3),("join",t4),("group",t5),("first",t6)]/\(∃f0:Addr,(∀H,SqT K H t0 [.ref f0])/\mg "is_name"=some (.ref f0))/\(∃f0 f1:Addr,(∀H,SqT K H t1 [.ref f0,.ref f1])/\mg "may_be_question"=some (.ref f0)/\mg "are_tests"=some (.ref f1))/\(∃f0 f1:Addr,(∀H,SqT K H t2 [.ref f0,.ref f1])/\mg "may_be_question"=some (.ref f0)/\mg "are_names"=some (.ref f1))/\(∃f0 f1:Addr,(∀H,SqT K H t3 [.ref f0,.ref f1])/\mg "may_be_question"=some (.ref f0)/\mg "are_names"=some (.ref f1))/\(∃f0 f1 f2:Addr,(∀H,SqT K H t4 [.ref f0,.ref f1,.ref f2])/\mg "may_be_question"=some (.ref f0)/\mg "may_be_question"=some (.ref f1)/\mg "are_pairs"=some (.ref f2))/\(∃f0 f1 f2:Addr,(∀H,SqT K H t5 [.ref f0,.ref f1,.ref f2])/\mg "may_be_question"=some (.ref f0)/\mg "are_group_names"=some (.ref f1)/\mg "are_sums"=some (.ref f2))/\(∃f0 f1 f2:Addr,(∀H,SqT K H t6 [.ref f0,.ref f1,.ref f2])/\mg "may_be_question"=some (.ref f0)/\mg "are_keys"=some (.ref f1)/\mg "is_many"=some (.ref f2)):=
 have a:∀{t:Addr} {o:Obj} {vs:Array Value} {m:Nat} {l:List V},K.lookup t=some o->o.cls=.type "tuple"->o.dict=none->o.data=.seq vs m->Vals l vs.toList->l.length<=1000->∀H,SqT K H t l:=λr t y u v s H=>.inr ⟨_,_,_,r,t,y,u,by have e:=v.length;simp only[bAU] at e;rw[<-e];exact small s,v⟩
 ⟨ca,n,c,j,g,f,k,i,bAQ X G q,⟨R,r,o,λP=>aRq x u (hh P) (by show (List.map (λx:Str × Value=>x.1) [("table",Value.ref n),("where",Value.ref c),("keep",Value.ref j),("named",Value.ref g),("join",Value.ref f),("group",Value.ref k),("first",Value.ref i)]).Nodup;exact (by trivial:(["table","where","keep","named","join","group","first"]:List Str).Nodup))⟩,⟨f0,a E t0 y0 u0 v0 (by show 1<=1000;decide),bAQ X G L⟩,⟨f1,f2,a S t1 y1 u1 v1 (by show 2<=1000;decide),bAQ X G b,bAQ X G a2⟩,⟨f1,p,a r2 t2 Y M B (by show 2<=1000;decide),bAQ X G b,bAQ X G z⟩,⟨f1,p,a r3 t3 N u3 v3 (by show 2<=1000;decide),bAQ X G b,bAQ X G z⟩,⟨f1,f1,f4,a F t4 y4 u4 v4 (by show 3<=1000;decide),bAQ X G b,bAQ X G b,bAQ X G a4⟩,⟨f1,T,C,a r5 t5 Z Q A (by show 3<=1000;decide),bAQ X G b,bAQ X G a5,bAQ X G O⟩,⟨f1,U,f8,a r6 t6 J u6 D (by show 3<=1000;decide),bAQ X G b,bAQ X G I,bAQ X G a8⟩⟩
end My
open PySem PySem.W PyProof.Rows
namespace PySem.W.Fast
def tw13884413078255899867:=Nat
def tw10185106444400114033:=Nat
def tw11770347352357100424:=Nat
def tw17409659711101808557:=Nat
def tw12501766692747804556:=Nat
def tw3500786508977699237:=Nat
def tw8849547260707058762:=Nat
def tw975893051168682061:=Nat
def tw7931091564743365229:=Nat
def tw12684700911313468356:=Nat
def tw534145000387655040:=Nat
def tw2842150539526499383:=Nat
def tw10477788550703247425:=Nat
def tw8734433512612788309:=Nat
def tw12432107341764467057:=Nat
def tw3933472562771426335:=Nat
def tw15959469635352771050:=Nat
def tw18255272573741462583:=Nat
def tw2840500178675918591:=Nat
def tw13129944210997508550:=Nat
def tw15803808852904293473:=Nat
def tw14833635087780563092:=Nat
def tw13020351321836043015:=Nat
def tw13766209604156952376:=Nat
def tw11767556522148839676:=Nat
def tw15103601308074912417:=Nat
def tw4534644425321722620:=Nat
def tw14544946547661404587:=Nat
def tw13109677893100400279:=Nat
def tw13369155914465690577:=Nat
def tw8572903349611338290:=Nat
def tw8747293945135767628:=Nat
def tw5695805688220307981:=Nat
def tw2442383146537609633:=Nat
def tw16462653309171467215:=Nat
def tw618079634909941817:=Nat
def tw16615995303276780738:=Nat
def tw5394309502291065241:=Nat
def tw3137765471297117562:=Nat
def tw7111344228268577577:=Nat
def tw5585921155195935058:=Nat
def tw15430849385509684838:=Nat
def tw3674334815220340707:=Nat
def tw18297441265883468134:=Nat
def tw13781035881997635571:=Nat
def tw12715886623153389315:=Nat
def tw6123035947384019694:=Nat
def tw2847116400393988005:=Nat
def tw11745245325338183247:=Nat
def tw3706292713871471325:=Nat
def tw13894193501632245633:=Nat
def tw17940428537981524277:=Nat
def tw13665086081116200142:=Nat
def tw4341903738534058694:=Nat
def tw8195161011091696495:=Nat
def tw13281754455153673967:=Nat
def tw5064456749570643630:=Nat
def tw17425625816892630781:=Nat
def tw7021940468001960783:=Nat
def tw4625806110873670222:=Nat
def tw6425722919970817756:=Nat
def tw2611137270784329325:=Nat
def tw6291425933926894201:=Nat
def tw8685916429497917021:=Nat
def tw7829411472916775119:=Nat
def tw4116589229298575159:=Nat
def tw2113608318379277653:=Nat
def tw5708971422680265378:=Nat
def tw15525937405250358707:=Nat
def tw8227920516119562489:=Nat
def tw5607945648157303084:=Nat
def tw15304464771379989664:=Nat
def tw6271517557376740417:=Nat
def tw288765583203113237:=Nat
def tw2659627947523294536:=Nat
def tw3272801184964789047:=Nat
def tw18379048151894107602:=Nat
def tw3921012686734973836:=Nat
def tw10629971718865819405:=Nat
def tw11200161696397901782:=Nat
def tw16145532659303489695:=Nat
def tw15510191064271850972:=Nat
def tw11325088833180193539:=Nat
def tw10170315715791960349:=Nat
def tw11996749371706898933:=Nat
def tw2946333956989240172:=Nat
def tw6250808243040642451:=Nat
def tw14156805334388875031:=Nat
def tw4203514754259207769:=Nat
def tw1464907918941203619:=Nat
def tw14621270027783426179:=Nat
def tw17408253725331841063:=Nat
def tw14240602320446346790:=Nat
def tw18332760872982594773:=Nat
def tw1841398402707491028:=Nat
def tw12311331558637608625:=Nat
def tw2394717720391143915:=Nat
def tw16288414941622775272:=Nat
def tw12013222036382007414:=Nat
def tw6628083392812069348:=Nat
def tw8407944547779825554:=Nat
def tw12619599899928641427:=Nat
def tw5795665046461157936:=Nat
def tw7488347108185022617:=Nat
def tw6861830979022643060:=Nat
def tw9739907531195822700:=Nat
def tw3991470710391471961:=Nat
def tw9889934079942851445:=Nat
def tw6604360155623107726:=Nat
def tw17967887107433930277:=Nat
def tw7270699450501254751:=Nat
def tw3578444153760321101:=Nat
def tw9143092765381508257:=Nat
def tw11591976652417093340:=Nat
def tw9299917562642989035:=Nat
def tw7893972773302543134:=Nat
def tw16062792127006412420:=Nat
def tw13754548710456350551:=Nat
def tw10142488669595969387:=Nat
def tw8143782412461293124:=Nat
def tw14205581468259114312:=Nat
def tw18329656495854548861:=Nat
def tw6715436218045179373:=Nat
def tw9165824138407093561:=Nat
def tw16648418655321566383:=Nat
def tw16628663624425872892:=Nat
def tw7334819252970410289:=Nat
def tw4692242346492439409:=Nat
def tw4366534989152996480:=Nat
def tw8167302037576227816:=Nat
def tw5537569695252547720:=Nat
def tw11299812225759328199:=Nat
def tw5537888361958625967:=Nat
def tw17482144043311671938:=Nat
def tw12062367331012336331:=Nat
def tw14530082970822144111:=Nat
def tw11207914887138171204:=Nat
def tw14048810168399931572:=Nat
def tw9835842951568359602:=Nat
def tw6372888239313334716:=Nat
def tw4830140866817912042:=Nat
def tw2378160273918681013:=Nat
def tw6915883669055295725:=Nat
def tw163255108656505818:=Nat
def tw17780128229888654914:=Nat
def tw8165910860111796187:=Nat
def tw16401177519451925032:=Nat
def tw17029261087349795582:=Nat
def tw5174453286174393789:=Nat
def tw7118079896157702263:=Nat
def tw707916852240011400:=Nat
def tw17955643469354787489:=Nat
def tw8681411636993894602:=Nat
def tw17365429241985296383:=Nat
def tw13132058010751792107:=Nat
def tw8395532137502592592:=Nat
def tw17570110038988642357:=Nat
def tw14509285596326418466:=Nat
def tw11500892751770625852:=Nat
def tw6135119698323256080:=Nat
def tw3751711274054960564:=Nat
def tw8623435291161760450:=Nat
def tw13440345932027313371:=Nat
def tw6579744257462719060:=Nat
def tw15504641605801941611:=Nat
def tw14815359402080784094:=Nat
def tw573040877755318209:=Nat
def tw6890743145648415103:=Nat
def tw10906425530947933526:=Nat
def tw9606946853346904395:=Nat
def tw2613627911952921193:=Nat
def tw5374285084589098429:=Nat
def tw16487985000244231233:=Nat
def tw10253481832749459475:=Nat
def tw5459918343459068913:=Nat
def tw16924006125934390409:=Nat
def tw14377226795402877610:=Nat
def tw7457380133474543911:=Nat
def tw18382407414438614020:=Nat
def tw9660517085461935335:=Nat
def tw871398735130623784:=Nat
def tw4753625198511723218:=Nat
def tw13345041189374482798:=Nat
def tw3177354786173696007:=Nat
def tw10867812028742936267:=Nat
def tw1905494072049178924:=Nat
def tw5674493327487385245:=Nat
def tw18008043128179519575:=Nat
def tw5907192947337310637:=Nat
def tw291849491000543502:=Nat
def tw6089111911524376421:=Nat
def tw3662104113468852063:=Nat
def tw5522178019087529480:=Nat
def tw15772005978980525660:=Nat
def tw13200745838306919661:=Nat
def tw17496282355916880856:=Nat
def tw8961025422936614931:=Nat
def tw14979107613963091381:=Nat
def tw14247278354760376791:=Nat
def tw2864958320008768855:=Nat
def tw10459720146998396794:=Nat
def tw3490286727580135748:=Nat
def tw15916851773060110098:=Nat
def tw13931847296499172677:=Nat
def tw7254637692943944067:=Nat
def tw3455064001750185783:=Nat
def tw6015302607896735644:=Nat
def tw1188737914666799320:=Nat
def tw9762798676947570099:=Nat
def tw10304964245997179965:=Nat
def tw47756798056956093:=Nat
def tw14579961035978229262:=Nat
def tw5096951477778715454:=Nat
def tw10911486482995515924:=Nat
def tw4086484492543785259:=Nat
def tw1622442551339743397:=Nat
def tw13834886810083647274:=Nat
def tw321724614129359170:=Nat
def tw15718855420662966530:=Nat
def tw15003207640415616444:=Nat
def tw1371816587580478541:=Nat
def tw16732333705657568911:=Nat
def tw1183112020834246288:=Nat
def tw4243151338906712193:=Nat
def tw6758296590058137650:=Nat
def tw16554967065782721974:=Nat
def tw8570052178558524592:=Nat
def tw4697932408903008301:=Nat
def tw6479089802553813095:=Nat
def tw3699008238660171690:=Nat
def tw14968490771230707722:=Nat
def tw14364689855050373191:=Nat
def tw12084965653620908396:=Nat
def tw1232658383746288990:=Nat
def tw8580293155050343541:=Nat
def tw14390512132067354450:=Nat
def tw13813963882977426360:=Nat
def tw8746184973146313747:=Nat
def tw5744571948650611461:=Nat
def tw17727689149568253076:=Nat
def tw15096142718221016204:=Nat
def tw14316800050429156236:=Nat
def tw1100084403329625762:=Nat
def tw16835926038475864014:=Nat
def tw10344105396325859250:=Nat
def tw9142589223561992084:=Nat
def tw11604483688028124832:=Nat
def tw10983177382529024746:=Nat
def tw4767028874685518245:=Nat
def tw17308690769084550571:=Nat
def tw10508605824748361611:=Nat
def tw15150063550095075569:=Nat
def tw11777203763622015704:=Nat
def tw5108308044032369608:=Nat
def tw4879850904422271108:=Nat
def tw4599235403973325483:=Nat
def tw16345512256691325803:=Nat
def tw13931014107901066793:=Nat
def tw13962853830289450580:=Nat
def tw12417398266111641084:=Nat
def tw9373372796820602019:=Nat
def tw4374644135452581419:=Nat
def tw15022781543789797265:=Nat
def tw12616818585987470313:=Nat
def tw11185792388121805852:=Nat
def tw8810262991126115201:=Nat
def tw380889932039573532:=Nat
def tw15678704689436565699:=Nat
def tw135037014009931219:=Nat
def tw12376290299574509959:=Nat
def tw17950443373868912418:=Nat
def tw8952914646030311268:=Nat
def tw12484340714913516244:=Nat
def tw9845122418619156436:=Nat
def tw6887965281947932872:=Nat
def tw11175510035576576463:=Nat
def tw18372795133026153966:=Nat
def tw1307530751170665860:=Nat
def tw10014370351846562463:=Nat
def tw6809607630921123979:=Nat
def tw11161970172405619869:=Nat
def tw10547876056794192507:=Nat
def tw10225830156167767219:=Nat
def tw9687248199726150218:=Nat
def tw7090132336810641563:=Nat
def tw18065099977681084334:=Nat
def tw17267583183129323322:=Nat
def tw6676169735219683394:=Nat
def tw6633207664765345573:=Nat
def tw17949839825632935616:=Nat
def tw6921006018300135456:=Nat
def tw16099304679141123937:=Nat
def tw10341349478006054880:=Nat
def tw4783207304808858418:=Nat
def tw2924782134127438761:=Nat
def tw14468473929671290908:=Nat
def tw9552765092335011726:=Nat
def tw9484660831460016834:=Nat
def tw8195377610995947857:=Nat
def tw352073780574823414:=Nat
def tw8162413394190382260:=Nat
def tw11104724865768997774:=Nat
def tw949519484458404257:=Nat
def tw17618377567145621238:=Nat
def tw13770024092919068892:=Nat
def tw14065427790734587110:=Nat
def tw10260482635005245416:=Nat
def tw2370182294148323152:=Nat
def tw11532835567860540179:=Nat
def tw10280039179577262537:=Nat
def tw4603477227539799880:=Nat
def tw2362780993783405577:=Nat
def tw16580918582531814824:=Nat
def tw3406705737917773360:=Nat
def tw1391997053836297945:=Nat
def tw4406855741946134941:=Nat
def tw16658548243071045347:=Nat
def tw15991487537359578446:=Nat
def tw11740320650626422236:=Nat
def tw11617748354271581006:=Nat
def tw6685879966598936116:=Nat
def tw18072242028109323290:=Nat
def tw5425720583435459012:=Nat
def tw17444204871417135285:=Nat
def tw14323643326190519810:=Nat
def tw2583941253398525643:=Nat
def tw15957850407357911071:=Nat
def tw9843999441737873991:=Nat
def tw8294473289539835429:=Nat
def tw1759793063148147619:=Nat
def tw17192968256752910450:=Nat
def tw14772946596633861537:=Nat
def tw16842650228669777370:=Nat
def tw15853944476768000462:=Nat
def tw5058203828548869682:=Nat
def tw8476090934431022832:=Nat
def tw4484918377185460081:=Nat
def tw4952105660970623803:=Nat
def tw9664500321125189013:=Nat
def tw6661071724968712583:=Nat
def tw17479607575263256235:=Nat
def tw16153594824121394621:=Nat
def tw9193754303353440103:=Nat
def tw9188851454215532813:=Nat
def tw8368426964963087706:=Nat
def tw7098483288120793081:=Nat
def tw6802106469727712584:=Nat
def tw6750181506675428615:=Nat
def tw6713220340923136704:=Nat
def tw5614283317301920304:=Nat
def tw4441084070376873596:=Nat
def tw3785193725515867186:=Nat
def tw3199417595209643539:=Nat
def tw2316876660656116659:=Nat
def tw17876237388851072931:=Nat
def tw16256735066972011696:=Nat
def tw16056314169505216662:=Nat
def tw13208319215614418585:=Nat
def tw1258652166805595554:=Nat
def tw10859834079543419026:=Nat
def tw10421655701361406645:=Nat
def tw10113572465702089219:=Nat
def tw3902501824969647124:=Nat
def tw1997035860253570045:=Nat
def tw18162327183374220771:=Nat
def tw17813792565584957476:=Nat
def tw13751557859352542318:=Nat
def tw11755448254882049164:=Nat
def tw77750464839252738:=Nat
def tw14261840787519228023:=Nat
def tw7257589092643899248:=Nat
def tw15214091334523781692:=Nat
def tw4296396622782308290:=Nat
def tw17820358066052558581:=Nat
def tw15830420527747381207:=Nat
def tw14685820182874117036:=Nat
def tw15347082868880579583:=Nat
def tw7334626052584879400:=Nat
def tw7254740732033807685:=Nat
def tw6562212728683575568:=Nat
def tw17501961544343939288:=Nat
def tw3860237305861510185:=Nat
def tw4964753926447605637:=Nat
def tw16192839613363303165:=Nat
def tw5978938109928205278:=Nat
def tw4800045354243578094:=Nat
def tw3587280977600211363:=Nat
def tw13461396731876638629:=Nat
def tw7843844301981986812:=Nat
def tw16811000225672062082:=Nat
def tw15067533239023859620:=Nat
def tw9998519309628769545:=Nat
def tw9146719516013979717:=Nat
def tw6950526188080766127:=Nat
def tw13763833002817121761:=Nat
def tw9864381371294260001:=Nat
def tw9761165009452618700:=Nat
def tw9548678703329980054:=Nat
def tw9247004815496712714:=Nat
def tw9232147273878151337:=Nat
def tw9113188517104032783:=Nat
def tw9012786047382456148:=Nat
def tw8940988243833523596:=Nat
def tw881087270731856536:=Nat
def tw878132794620397399:=Nat
def tw857624795509580866:=Nat
def tw8509885304195925115:=Nat
def tw8352351052934273445:=Nat
def tw8265747171994363376:=Nat
def tw8211450539531022269:=Nat
def tw8184740598795456646:=Nat
def tw8091103900444549670:=Nat
def tw8074626505511017434:=Nat
def tw8073902901593821194:=Nat
def tw7677150738568172487:=Nat
def tw746316313430314471:=Nat
def tw7391089495293484912:=Nat
def tw7286538937040092768:=Nat
def tw7281664076742913928:=Nat
def tw7211654631076440532:=Nat
def tw7209730059682805824:=Nat
def tw7184932946247333636:=Nat
def tw7131010914530219805:=Nat
def tw7027753539285484909:=Nat
def tw7024904646346184068:=Nat
def tw6948145933505612479:=Nat
def tw6871414530628951871:=Nat
def tw6845214667848407207:=Nat
def tw678790134010563987:=Nat
def tw6784375545332292868:=Nat
def tw6706764777194780951:=Nat
def tw6598663760749556003:=Nat
def tw6582025360881388038:=Nat
def tw6434697114385039064:=Nat
def tw6419222532707231852:=Nat
def tw6251858383814122258:=Nat
def tw6218346663566219299:=Nat
def tw6208452542758854990:=Nat
def tw6055140708993280650:=Nat
def tw6037609174333288587:=Nat
def tw6012840593219178086:=Nat
def tw5987358980264615170:=Nat
def tw578285649402779183:=Nat
def tw5640008395249610209:=Nat
def tw5617048795689526181:=Nat
def tw5598104457858092231:=Nat
def tw549657796182828222:=Nat
def tw5489896112220468497:=Nat
def tw538195899279053980:=Nat
def tw5197735738448277314:=Nat
end PySem.W.Fast
set_option maxRecDepth 100000 in
set_option maxHeartbeats 0 in
theorem PySem.Challenge.cw_shardask_k71_questions_read_holds : PySem.Challenge.rw_shardask_k71_questions_read.Holds := by
 w_on;o_law;k_head;(case hw=>w_witness2)
 k_fill
 refine L2.aTh (l:=PySem.Challenge.rw_shardask_k71_questions_read) (n:=63) (k:=67) (x:="_law_script") (CX:=L2.CX0) (sp:=My.aG6) rfl (by decide) rfl ⟨rfl,by decide,by decide⟩ (fun w h Y=>PySem.W.kIn_of Y) ?F (fun K H a ns hl hO hS=>My.aRw hl hS) (fun _ _ _ _ z=>z)
 case F=>
  intro w mg fa h KX G hmg
  have T:My.Txt w (L2.KOf KX) mg:=by
   dsimp only [L2.KOf]
   apply My.Txt.mk
   iterate 16 (refine' mg_none_of KX G ?_;k_is)
   (refine' My.aYz KX G ?gq ?gr ?gt ?gy ?gu ?gv ?gs;(case gq=>k_is);(case gr=>k_is);(case gt=>rfl);(case gy=>rfl);(case gu=>rfl);(case gv=>repeat (first|exact L2.fP|refine L2.bW rfl ?_|refine L2.bW ⟨_,rfl⟩ ?_));(case gs=>decide))
   iterate 2 (refine' My.aVu KX G ?gq ?gr;(case gq=>k_is);(case gr=>exact ⟨_,rfl⟩))
   iterate 3 (refine' My.aYz KX G ?gq ?gr ?gt ?gy ?gu ?gv ?gs;(case gq=>k_is);(case gr=>k_is);(case gt=>rfl);(case gy=>rfl);(case gu=>rfl);(case gv=>repeat (first|exact L2.fP|refine L2.bW rfl ?_|refine L2.bW ⟨_,rfl⟩ ?_));(case gs=>decide))
   iterate 7 (refine' My.aVu KX G ?gq ?gr;(case gq=>k_is);(case gr=>exact ⟨_,rfl⟩))
   (refine' My.bD4 KX G ?ea0 ?ea1 ?ea2 ?ea3 ?ea4 ?ea5 ?ea6 ?ea7 ?ea8 ?eq ?er ?ex ?eo ?eu ?ehh ?er0 ?et0 ?ey0 ?eu0 ?ev0 ?er1 ?et1 ?ey1 ?eu1 ?ev1 ?er2 ?et2 ?ey2 ?eu2 ?ev2 ?er3 ?et3 ?ey3 ?eu3 ?ev3 ?er4 ?et4 ?ey4 ?eu4 ?ev4 ?er5 ?et5 ?ey5 ?eu5 ?ev5 ?er6 ?et6 ?ey6 ?eu6 ?ev6;(case ea0=>k_is);(case ea1=>k_is);(case ea2=>k_is);(case ea3=>k_is);(case ea4=>k_is);(case ea5=>k_is);(case ea6=>k_is);(case ea7=>k_is);(case ea8=>k_is);(case eq=>k_is);(case er=>k_is);(case ex=>exact ⟨rfl,rfl,rfl⟩);(case eo=>first|rfl|decide +kernel);(case eu=>rfl);(case ehh=>intro P;repeat (first|exact L2.PH.nil|refine L2.PH.cons rfl rfl rfl ?_));(case er0=>k_is);(case et0=>rfl);(case ey0=>rfl);(case eu0=>rfl);(case ev0=>repeat (first|exact L2.fP|refine L2.bW rfl ?_|refine L2.bW ⟨_,rfl⟩ ?_));(case er1=>k_is);(case et1=>rfl);(case ey1=>rfl);(case eu1=>rfl);(case ev1=>repeat (first|exact L2.fP|refine L2.bW rfl ?_|refine L2.bW ⟨_,rfl⟩ ?_));(case er2=>k_is);(case et2=>rfl);(case ey2=>rfl);(case eu2=>rfl);(case ev2=>repeat (first|exact L2.fP|refine L2.bW rfl ?_|refine L2.bW ⟨_,rfl⟩ ?_));(case er3=>k_is);(case et3=>rfl);(case ey3=>rfl);(case eu3=>rfl);(case ev3=>repeat (first|exact L2.fP|refine L2.bW rfl ?_|refine L2.bW ⟨_,rfl⟩ ?_));(case er4=>k_is);(case et4=>rfl);(case ey4=>rfl);(case eu4=>rfl);(case ev4=>repeat (first|exact L2.fP|refine L2.bW rfl ?_|refine L2.bW ⟨_,rfl⟩ ?_));(case er5=>k_is);(case et5=>rfl);(case ey5=>rfl);(case eu5=>rfl);(case ev5=>repeat (first|exact L2.fP|refine L2.bW rfl ?_|refine L2.bW ⟨_,rfl⟩ ?_));(case er6=>k_is);(case et6=>rfl);(case ey6=>rfl);(case eu6=>rfl);(case ev6=>repeat (first|exact L2.fP|refine L2.bW rfl ?_|refine L2.bW ⟨_,rfl⟩ ?_)))
   iterate 2 (refine' My.aVu KX G ?gq ?gr;(case gq=>k_is);(case gr=>exact ⟨_,rfl⟩))
   iterate 69 (refine' My.bDp KX G (My.FA.mk ?fj ?fl ?fc ?fk) ?fb;(case fj=>k_is);(case fl=>k_is);(case fc=>k_is);(case fk=>k_is);(case fb=>first|exact fun _ _ _ _ _ _=>My.ln1 fun _=>rfl|exact fun _ _ _ _ _ _=>My.ln2 fun _ _=>rfl|exact fun _ _ _ _ _ _=>My.ln3 fun _ _ _=>rfl|exact fun _ _ _ _ _ _=>My.ln4 fun _ _ _ _=>rfl|exact fun _ _ _ _ _ _=>My.ln5 fun _ _ _ _ _=>rfl|exact fun _ _ _ _ _ _=>My.ln6 fun _ _ _ _ _ _=>rfl|exact fun _ _ _ _ _ _=>My.ln0 rfl))
   (refine' My.bE1 KX G (My.CA.mk ?cj ?c1 ?c2 ?c3 ?c4 ?c5 ?c6) ?cr;(case cj=>k_is);(case c1=>first|k_is|kernel_rfl|decide +kernel);(case c2=>first|k_is|kernel_rfl|decide +kernel);(case c3=>first|k_is|kernel_rfl|decide +kernel);(case c4=>first|k_is|kernel_rfl|decide +kernel);(case c5=>first|k_is|kernel_rfl|decide +kernel);(case c6=>first|k_is|kernel_rfl|decide +kernel);(case cr=>(repeat (refine' ⟨My.bEe (My.MA.mk ?mj ?mi ?ml ?mc ?mk) ?mb,?_⟩;(case mj=>k_is);(case mi=>first|k_is|kernel_rfl|decide +kernel);(case ml=>k_is);(case mc=>k_is);(case mk=>k_is);(case mb=>first|exact fun _ _ _ _ _ _=>My.ln1 fun _=>rfl|exact fun _ _ _ _ _ _=>My.ln2 fun _ _=>rfl|exact fun _ _ _ _ _ _=>My.ln3 fun _ _ _=>rfl|exact fun _ _ _ _ _ _=>My.ln4 fun _ _ _ _=>rfl|exact fun _ _ _ _ _ _=>My.ln5 fun _ _ _ _ _=>rfl|exact fun _ _ _ _ _ _=>My.ln6 fun _ _ _ _ _ _=>rfl|exact fun _ _ _ _ _ _=>My.ln0 rfl)));unfold L2.iI;(repeat (refine' ⟨?ma,?_⟩;(case ma=>k_is)));k_is))
   (refine' My.bDn KX G ?xs ?xc0 ?xc1 ?xb ?xm;(case xs=>k_is);(case xc0=>refine' My.X1.mk ?zy0 ?zy1 ?zr0 ?zr1 ?zr2 ?zr3 ?zy2 ?zr4 ?zy3 ?zy4 ?zy5 ?zy6 ?zy7 ?zy8 ?zy9 ?zy10 ?zy11 ?zy12 ?zy13 ?zy14;(case zy0=>k_is);(case zy1=>k_is);(case zr0=>first|rfl|decide +kernel);(case zr1=>first|rfl|decide +kernel);(case zr2=>first|rfl|decide +kernel);(case zr3=>first|rfl|decide +kernel);(case zy2=>k_is);(case zr4=>first|rfl|decide +kernel);(case zy3=>k_is);(case zy4=>k_is);(case zy5=>k_is);(case zy6=>k_is);(case zy7=>k_is);(case zy8=>k_is);(case zy9=>k_is);(case zy10=>k_is);(case zy11=>k_is);(case zy12=>k_is);(case zy13=>k_is);(case zy14=>k_is));(case xc1=>refine' My.X1.mk ?zy0 ?zy1 ?zr0 ?zr1 ?zr2 ?zr3 ?zy2 ?zr4 ?zy3 ?zy4 ?zy5 ?zy6 ?zy7 ?zy8 ?zy9 ?zy10 ?zy11 ?zy12 ?zy13 ?zy14;(case zy0=>k_is);(case zy1=>k_is);(case zr0=>first|rfl|decide +kernel);(case zr1=>first|rfl|decide +kernel);(case zr2=>first|rfl|decide +kernel);(case zr3=>first|rfl|decide +kernel);(case zy2=>k_is);(case zr4=>first|rfl|decide +kernel);(case zy3=>k_is);(case zy4=>k_is);(case zy5=>k_is);(case zy6=>k_is);(case zy7=>k_is);(case zy8=>k_is);(case zy9=>k_is);(case zy10=>k_is);(case zy11=>k_is);(case zy12=>k_is);(case zy13=>k_is);(case zy14=>k_is));(case xb=>refine' My.X0.mk ?zy0 ?zy1 ?zy2 ?zy3 ?zy4 ?zy5;(case zy0=>k_is);(case zy1=>k_is);(case zy2=>k_is);(case zy3=>k_is);(case zy4=>k_is);(case zy5=>k_is));(case xm=>refine' My.XM.mk ?zy0_0 ?zy0_1 ?zy1_0 ?zy1_1;(case zy0_0=>k_is);(case zy0_1=>k_is);(case zy1_0=>k_is);(case zy1_1=>k_is)))
  exact My.bB6 (P:=PySem.Challenge.rw_shardask_k71_questions_read.prog) T hmg
