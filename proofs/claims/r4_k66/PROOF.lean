import PyProof.Rows.All
import Wide.All
import OpenK.AllK
import Wide.FinOn
import Lean
import PyProof.EqAt
import PyProof.EqKinds
import PyProof.TupleCall
import PyProof.CallType
import PyProof.WalkLemmas
import PyProof.StrOps
import PyProof.ForAny
import PyProof.IsInstanceH
import PyProof.IsiFacts
import PyProof.IsiFacts2
import PyProof.FactsAll.object
import PyProof.ListMulRoad
import PyProof.FactsAll.tuple_2
import PyProof.StrLawsIdx
import KE.KDictList
import PyProof.Rows.Range3
import PyProof.EnumMake
import PyProof.EnumFor
import PyProof.CompUse
import PyProof.ListStr
import PyProof.NeKinds
import PyProof.IsInstanceT
import PyProof.FString5
import PyProof.Rows.SeqMore2
import PyProof.IsiPairs
import PyProof.StrCalls3
import KE.KSortTup
import KE.KSortKey
import PyProof.Rows.SortStr
import KE.KLam
import KE.KDictOf
import KE.KEqDict
import KE.KDictSum
import PyProof.AttrMissHeap
import PyProof.DictWalks
import PyProof.Rows.TupTab
import PyProof.DictItems
import PyProof.FactsAll.set_1
import KE.KRevIter
import PySem.Challenge.RW_shardask_k66_town_told_stays
set_option Elab.async false
set_option linter.all false
set_option maxRecDepth 100000
set_option maxHeartbeats 6400000
local macro_rules|`(tactic|trivial)=>`(tactic|(intro a b c d h;first|(cases h;subst_vars;rfl)|(repeat (first|(obtain ⟨e,_⟩:=h;subst e;rfl)|(obtain ⟨_,h⟩:=h)|fail))))
section
open PySem PySem.Spec PySem.Calls PyProof.Rows
def b7:=@wpAny_bind
def b8:=@List.getElem?_eq_getElem
def c7:=@Heap.get?_push_of_some
def d7:=@wpAny_pure
def d8:=@Nat.le_refl
def d9:=@List.size_toArray
def j0:=@Heap.get?_push_size
def j4:=@List.length_map
def j5:=@List.mem_cons_of_mem
def j6:=@List.getD_eq_getElem?_getD
def j7:=@List.mem_cons_self
def j8:=@Heap.lt_size
def j9:=@Array.getElem?_eq_getElem
def m8:=@List.mem_of_getElem?
def m9:=@decide_eq_true
def t6:=@Nat.ne_of_lt
def t7:=@List.getElem?_map
def t8:=@List.length_cons
def v6:=@Bool.false_ne_true
def v7:=@Array.length_toList
def v8:=@Array.getD_eq_getD_getElem?
def v9:=@decide_eq_false
def w6:=@List.not_mem_nil
def z9:=@List.mem_append_right
def bAA:=@List.length_append
def bAB:=@Nat.lt_of_lt_of_le
def bAC:=@List.map_cons
def bAD:=@List.mem_cons
def bAE:=@Nat.zero_le
def bAF:=@List.getElem?_eq_none
def bAG:=@wpAny_call_entry
def bAH:=@List.length_take
def bAI:=@wpAny_callSpecial?_slot
def bAJ:=@List.length_range
def bAK:=@Nat.le_trans
def bAL:=@wpAny_setField_rec
def bAM:=@Option.some.inj
def bAN:=@wpAny_field
def bAO:=@wpAny_newObj_type
def bAP:=@List.getElem_mem
def bAQ:=@Bool.and_eq_true
def bAR:=@Int.toNat_natCast
def bAS:=@wpAny_holding
def bAT:=@List.map_append
def bAU:=@wpAny_seqItems
def bAV:=@List.take_of_length_le
def bAW:=@Heap.size_push
def bAX:=@Heap.SameBut.update
def bAY:=@PyProof.Rows.F.plain_set_update_loop
def bAZ:=@Around.under_plainId
def bBA:=@Nat.lt_succ_of_lt
def bBB:=@List.take_add_one
def bBC:=@List.getElem?_append_right
def bBD:=@Bool.false_eq_true
def bBE:=@List.getElem_of_mem
def bBF:=@List.getElem?_append_left
def bBG:=@codeAny_builtin
def bBH:=@wpAny_truthy_bool
def bBI:=@Heap.get?_update_self
def bBJ:=@List.map_map
def bBK:=@wpAny_setState_of
def bBL:=@List.mem_append_left
def bBM:=@List.getElem_toArray
def bBN:=@wpAny_mono
def bBO:=@Nat.lt_irrefl
def bBP:=@List.length_drop
def bBQ:=@Option.getD_some
def bBR:=@Array.getElem?_toList
def bBS:=@PyProof.Rows.callWith_type1
def bBT:=@wpAny_Call_Name_kw
def bBU:=@List.nil_append
def bBV:=@Nat.le_add_right
def bBW:=@PyProof.Rows.F.entry_set_update_loop
def bBX:=@List.mem_map_of_mem
def bBY:=@List.eq_of_mem_replicate
def bBZ:=@List.find?_cons
def bCA:=@Calls.spliced_cons
def bCB:=@Nat.lt_of_le_of_lt
def bCC:=@List.all_eq_true
def bCD:=@wpAny_attempt
def bCE:=@plainId_quiet
def bCF:=@wpAny_pyIter_list
def bCG:=@List.set_set
def bCH:=@Array.getElem?_eq_none
def bCI:=@List.filterMap_cons
def bCJ:=@List.getElem?_range
def bCK:=@List.length_nil
def bCL:=@PyProof.Rows.slot_tuple_getitem
def bCM:=@Nat.lt_succ_self
def bCN:=@List.take_length
def bCO:=@wpAny_typeNameOfWhole_itemiter
def bCP:=@Nat.ne_of_gt
def bCQ:=@codeAny_mono
def bCR:=@List.eq_nil_of_length_eq_zero
def bCS:=@List.append_assoc
def bCT:=@List.ext_getElem?
def bCU:=@Bool.eq_iff_iff
def bCV:=@List.append_nil
def bCW:=@List.lookup_cons
def bCX:=@wpAny_isInstance
def bCY:=@wpAny_rule
def bCZ:=@List.mem_singleton
def bDA:=@List.length_filter_le
def bDB:=@SeqAt.EqAt.same
def bDC:=@List.forIn_cons
def bDD:=@Nat.lt_trans
def bDE:=@wpAny_onRaise
def bDF:=@Array.toList_append
def bDG:=@wpAny_setEntries_of
def bDH:=@wpAny_setField
def bDI:=@wpAny_askSetting
def bDJ:=@Nat.le_of_lt
def bDK:=@Heap.get?_update_other
def bDL:=@SeqAt.EqAt.str_str
def bDM:=@Calls.callWith_builtin
def bDN:=@Int.emod_lt_of_pos
def bDO:=@Option.map_some
def bDP:=@List.nodup_cons
def bDQ:=@Nat.not_lt_zero
def bDR:=@List.length_replicate
def bDS:=@Array.mem_of_getElem?
def bDT:=@List.getElem?_toArray
def bDU:=@Calls.Name_function_global
def bDV:=@codeAny_call_builtin
def bDW:=@List.mem_of_mem_take
def bDX:=@wpAny_fieldsOf
def bDY:=@wpAny_typeOf
def bDZ:=@List.zipIdx_cons
def bD9:=@List.filter_cons
def bEA:=@Nat.zero_add
def bEB:=@List.any_eq_true
def bEC:=@List.drop_eq_getElem_cons
def bED:=@List.Pairwise.imp_of_mem
def bEE:=@wpAny_passesOwn
def bEF:=@List.zipIdx_nil
def bEG:=@Int.emod_nonneg
def bEH:=@wpAny_pyIter_tuple
def bEI:=@List.filterMap_map
def bEJ:=@SeqAt.EqAt.int_int
def bEK:=@List.map_replicate
def bEL:=@Nat.le_succ
def bEM:=@wpAny_of_eq
def bEN:=@List.getElem?_set_self
def bEO:=@Calls.spliced_nil
def bEP:=@List.forIn_nil
def bEQ:=@wpAny_newTuple
def bER:=@List.drop_of_length_le
def bES:=@Array.getElem_mem
def bET:=@Heap.get?_push_ne
def bEU:=@wpAny_isOneOf_itemiter
def bEV:=@wpAny_pyIter_slot
def bEW:=@Nat.lt_trichotomy
def bEX:=@List.length_singleton
def bEY:=@wpAny_notOrdered_dict
def bEZ:=@wpAny_call
def bE0:=@wpAny_pyIter_zip
def bE1:=@wpAny_forIn_list
def bE2:=@List.any_cons
def bE3:=@wpAny_handled
def bE4:=@List.take_nil
def bE5:=@wpAny_newList
def bE6:=@PySem.W.mg_of
def bE7:=@Calls.evalArgs_plain
def bE8:=@wpAny_newFunctionEnv
def bE9:=@wpAny_letGo
def bFA:=@List.length_zipWith
def bFB:=@Nat.le_of_eq
def bFC:=@SeqAt.EqAt.of_refs
def bFD:=@SeqAt.RcNeAt.lists
def bFE:=@Nat.lt_or_eq_of_le
def bFF:=@List.length_eraseIdx_of_lt
def bFG:=@wpAny_letOwnedTupleGo_zip
def bFH:=@List.take_sublist
def bFI:=@wpAny_throw
def bFJ:=@Option.isSome_map
def bFK:=@SeqAt.RcAt.tuples
def bFL:=@wpAny_dictEntries
def bFM:=@Array.toList_push
def bFN:=@wpAny_storeSet_of
def bFO:=@List.all_cons
abbrev bFP:=PySem.W.Frag
abbrev bFQ:=Value->Shared->Prop
abbrev bFR:=List (Addr × Obj)
abbrev bFS:=Str->Option Value
end
local macro_rules
  | `(tactic| trivial) => `(tactic| first | exact Or.inl rfl | exact Or.inr rfl | exact Or.inr (Or.inl rfl) | exact Or.inr (Or.inr rfl) | exact⟨rfl, rfl, rfl, by decide +kernel, rfl, by decide +kernel, by decide +kernel⟩ | exact⟨by decide +kernel, rfl, by decide +kernel, by decide +kernel⟩ | fail)
namespace L2
open PySem PySem.Spec PyProof.Rows
abbrev Key:=Sum Int Str
def rA:Key->Value->Bool
 |.inl k,v=>Value.isInt k v
 |.inr x,v=>Value.isStrOf x v
def bDv (w:World):Key->Int
 |.inl k=>hashInt k
 |.inr x=>hashStr w x
theorem cX:∀{k:Key} {v:Value},rA k v=true->(∃i t,k=Sum.inl i/\v=Value.int i t)\/(∃x t,k=Sum.inr x/\v=Value.str x t)
 |.inl i,v,h=>by obtain⟨t,e⟩:=Value.isInt_shape h;exact .inl ⟨i,t,rfl,e⟩
 |.inr x,v,h=>by obtain⟨t,e⟩:=Value.isStrOf_shape h;exact .inr ⟨x,t,rfl,e⟩
def aFo (i:Int)(t:Tok):rA (.inl i) (.int i t)=true:=by simp[rA,Value.isInt]
def aFk (x:Str)(t:Tok):rA (.inr x) (.str x t)=true:=by simp[rA,Value.isStrOf]
def bBc (a b:Int):decide ((Sum.inl a:Key)=Sum.inl b)=(a == b):=by
 by_cases e:a=b
 ·subst e;simp
 ·have h:¬ (Sum.inl a:Key)=Sum.inl b:=λq=>e (Sum.inl.inj q);rw[v9 h];exact (beq_eq_false_iff_ne.mpr e).symm
def bBw (a b:Str):decide ((Sum.inr a:Key)=Sum.inr b)=decide (a=b):=by
 by_cases e:a=b
 ·subst e;simp
 ·have h:¬ (Sum.inr a:Key)=Sum.inr b:=λq=>e (Sum.inr.inj q);rw[v9 h,v9 e]
def bBp (a:Int)(b:Str):decide ((Sum.inl a:Key)=Sum.inr b)=false:=v9 (λq=>nomatch q)
def aZj (a:Str)(b:Int):decide ((Sum.inr a:Key)=Sum.inl b)=false:=v9 (λq=>nomatch q)
def bK (prog:Program)(w:World):PySem.KeyKind prog w Key where
 is:=rA
 hash:=bDv w
 inj:=λv a b ha hb=>by
  rcases cX ha with⟨i,t,rfl,rfl⟩|⟨x,t,rfl,rfl⟩
  ·rcases cX hb with⟨j,u,rfl,e⟩|⟨y,u,rfl,e⟩
   ·injection e with e1 _;rw[e1]
   ·exact nomatch e
  ·rcases cX hb with⟨j,u,rfl,e⟩|⟨y,u,rfl,e⟩
   ·exact nomatch e
   ·injection e with e1 _;rw[e1]
 byValue:=λk v h=>by rcases cX h with⟨i,t,rfl,rfl⟩|⟨x,t,rfl,rfl⟩ <;> rfl
 pyHash:=λhv h=>by
  rcases cX hv with⟨i,t,rfl,rfl⟩|⟨x,t,rfl,rfl⟩
  ·exact wpAny_pyHash_int h
  ·exact wpAny_pyHash_str h
 eqBool:=λhu hv h=>by
  rcases cX hu with⟨i,t,rfl,rfl⟩|⟨x,t,rfl,rfl⟩
  ·rcases cX hv with⟨j,u,rfl,rfl⟩|⟨y,u,rfl,rfl⟩
   ·rw[bBc] at h;exact wpAny_eqBool_int h
   ·rw[bBp] at h;exact SeqAt.EqAt.int_str i t y u _ _ _ _ h
  ·rcases cX hv with⟨j,u,rfl,rfl⟩|⟨y,u,rfl,rfl⟩
   ·rw[aZj] at h;exact SeqAt.EqAt.str_int x t j u _ _ _ _ h
   ·rw[bBw] at h;exact wpAny_eqBool_str h
 «strs»:=λk x t v h=>by
  rcases cX h with⟨i,u,rfl,e⟩|⟨y,u,rfl,e⟩
  ·exact nomatch e
  ·injection e with e1 _;subst e1;cases v <;> rfl
def aIq (prog:Program)(w:World)(i:Int)(t:Tok):(bK prog w).is (.inl i) (.int i t)=true:=aFo i t
def aJq (prog:Program)(w:World)(x:Str)(t:Tok):(bK prog w).is (.inr x) (.str x t)=true:=aFk x t
inductive V where
 |non|bl (b:Bool)|int (i:Int)|str (x:Str)|byt (b:Array UInt8)|flt (b:UInt64)|ref (a:Addr)|ty (n:String)
 deriving DecidableEq
def RelV:V->Value->Prop
 |.non,u=>u=Value.none
 |.bl b,u=>u=Value.bool b
 |.int i,u=>∃t,u=Value.int i t
 |.str x,u=>∃t,u=Value.str x t
 |.byt b,u=>∃t,u=Value.bytes b t
 |.flt b,u=>∃t,u=Value.float b t
 |.ref a,u=>u=Value.ref a
 |.ty n,u=>u=Value.type n
abbrev Vals:List V->List Value->Prop:=Paired RelV
theorem Vals.length (r:Vals xs us):xs.length=us.length:=Paired.length r
theorem Vals.get:∀{xs:List V} {us:List Value} {i:Nat} {x:V},Vals xs us->xs[i]?=some x->∃u,us[i]?=some u/\RelV x u
 |_,_,_,_,.nil,e=>by simp at e
 |_,_,0,_,.cons r _,e=>by simp at e;subst e;exact⟨_,rfl,r⟩
 |_,_,i+1,x,.cons _ t,e=>by obtain⟨u,b,a⟩:=Vals.get t (by simpa using e);exact⟨u,by simpa using b,a⟩
theorem Vals.set (r:RelV x u):∀{xs:List V} {us:List Value} (i:Nat),Vals xs us->Vals (xs.set i x) (us.set i u)
 |_,_,_,.nil=>.nil
 |_,_,0,.cons _ t=>.cons r t
 |_,_,i+1,.cons q t=>.cons q (Vals.set r i t)
theorem Vals.append:∀{xs ys:List V} {us ws:List Value},Vals xs us->Vals ys ws->Vals (xs++ys) (us++ws)
 |_,_,_,_,.nil,s=>s
 |_,_,_,_,.cons r t,s=>.cons r (Vals.append t s)
theorem Vals.take:∀{xs:List V} {us:List Value} (n:Nat),Vals xs us->Vals (xs.take n) (us.take n)
 |_,_,0,_=>.nil
 |_,_,_+1,.nil=>.nil
 |_,_,n+1,.cons r t=>.cons r (Vals.take n t)
theorem Vals.drop:∀{xs:List V} {us:List Value} (n:Nat),Vals xs us->Vals (xs.drop n) (us.drop n)
 |_,_,0,r=>r
 |_,_,_+1,.nil=>.nil
 |_,_,n+1,.cons _ t=>Vals.drop n t
def oW:Option V->Option Value->Prop
 |some v,some u=>RelV v u
 |none,none=>True
 |_,_=>False
def KV {κ:Type}:List (κ × V)->List (κ × Value)->Prop:=Paired λp q=>p.1=q.1/\RelV p.2 q.2
def kV:Key->V
 |.inl i=>.int i
 |.inr x=>.str x
inductive HO where
  |lst (xs:List V)
  |tup (xs:List V)
  |dK (kvs:List (Key × V))|dT (kvs:List (List Key × V))
  |set (S:Int->Bool) (n:Nat)
  |ins (C dx:Addr) (fs:List (Str × V))
  |own (x:Addr)
  |xd (fs:List (Str × V))
  |met (f x:Addr)
  |rng (lo hi:Int)
  |frz (o:Obj) (u:HO)
  |tbl (ps:Array Value)
  |tab (q:Str)
  |ext (φ:Heap->Prop)
abbrev Hp:=Addr->Option HO
def upd (H:Hp)(a:Addr)(o:HO):Hp:=λb=>if b=a then some o else H b
def aK:upd H a o a=some o:=by unfold upd;rw[if_pos rfl]
def aR (h:b≠a):upd H a o b=H b:=by unfold upd;rw[if_neg h]
def aXz:upd (upd H a o) a u=upd H a u:=by funext b;unfold upd;split <;> rfl
def aIe {H:Hp}{a b:Addr}{o u:HO}(h:H a=some o)(h':H b=some u)(d:o≠u):a≠b:=by intro e;subst e;rw[h] at h';exact d (bAM h')
def aQ {H:Hp}{a b:Addr}{o:HO}(h:H a=some o)(h':H b=none):a≠b:=by intro e;subst e;rw[h] at h';cases h'
def xF (h:Heap)(a:Addr)(items:Array Value):Prop:=IsTup h a items/\∀o,h.get? a=some o->o.dict=none
def xF.of (e:h.get? a=some o)(d:o.dict=none)(x:IsTup h a items):xF h a items:=⟨x,λc b=>by rw[e] at b;cases b;exact d⟩
theorem xF.new (h:Heap)(items:Array Value):xF (h.push { cls:=.type "tuple",data:=.seq items }) h.objs.size items:=.of (j0 _ rfl) rfl (IsTup.new _ _)
def xF.keep (x:xF h a items)(k:∀o,h.get? a=some o->h'.get? a=some o):xF h' a items:=by obtain⟨⟨o,e,c⟩,d⟩:=x;exact .of (k o e) (d o e) ⟨o,k o e,c⟩
section
variable (P:Program)(w:World)
def dN (H:Hp)(h:Heap)(a:Addr):HO->Prop
 |.lst xs=>xs.length<=sizeLine/\∃its n,Vals xs its/\h.get? a=some { cls:=.type "list",data:=.seq its.toArray n }
 |.tup xs=>xs.length<=sizeLine/\∃its:List Value,Vals xs its/\xF h a its.toArray
 |.dK kvs=>kvs.length<=sizeLine/\(a == sysModules)=false/\∃vs,KV kvs vs/\h.DictOf (bK P w) a vs
 |.dT kvs=>kvs.length<=sizeLine/\(a == sysModules)=false/\∃xs:List (List Key × Addr × Value),
   Paired (λp q=>p.1=q.1/\H q.2.1=some (.tup (p.1.map kV))/\RelV p.2 q.2.2) kvs xs /\
   ∃o es ep,h.get? a=some o/\o.ExactDict/\o.data=.dict es ep/\es.toList=xs.map (entryOfKey (tupleKind (bK P w)))/\(xs.map (·.1)).Nodup
 |.set S n=>h.SetOf (intKind P w) a S n
 |.ins C dx fs=>H dx=some (.own a)/\fs.length<=1000/\dx≠a/\h.get? a=some (PySem.W.instObj C dx) /\
   ∃mA,h.Ns1 dx mA/\(∀f,oW (fs.lookup f) (mA f))/\PySem.Within mA (fs.map (·.1))
 |.own _=>∃o,h.get? a=some o
 |.xd fs=>∃mA,h.Ns1 a mA/\∀f,oW (fs.lookup f) (mA f)
 |.rng lo hi=>∃t u v,h.get? a=some { cls:=.type "range",data:=.fields #[.int lo t,.int hi u,.int 1 v] }
 |.frz o u=>h.get? a=some o/\dN H h a u
 |.tbl ps=>h.get? a=some { cls:=.none,data:=.fields ps }
 |.tab q=>∃ps:Array Value,h.get? a=some { cls:=.none,data:=.fields ps }/\TriplesOk ps.toList/\∀pos cv,codeAmong pos ps.toList=some cv->∃c oc vs t,cv=.ref c/\H c=some (.own a)/\h.get? c=some oc/\oc.data=.fields vs/\vs[1]?=some (.str q t)
 |.met f x=>h.get? a=some (PySem.W.methodObj (.ref f) (.ref x))
 |.ext φ=>φ h/\(∃o,h.get? a=some o)/\∀h1 h2:Heap,φ h1->(∀o,h1.get? a=some o->h2.get? a=some o)->φ h2
def HOk (H:Hp)(h:Heap):Prop:=∀a o,H a=some o->dN P w H h a o
end
section
variable {P:Program}{w:World}{H H':Hp}{h h':Heap}{a:Addr}{o:HO}
theorem dN.lt (x:dN P w H h a o):a<h.objs.size:=by
 cases o with
 |lst xs=>obtain⟨_,_,_,_,e⟩:=x;exact j8 e
 |tup xs=>obtain⟨_,_,_,p⟩:=x;exact p.1.lt
 |dK kvs=>obtain⟨_,_,_,_,o,_,_,e,_⟩:=x;exact j8 e
 |dT kvs=>obtain⟨_,_,_,_,o,_,_,e,_⟩:=x;exact j8 e
 |set S n=>obtain⟨o,_,_,_,e,_⟩:=x;exact j8 e
 |ins C dx fs=>obtain⟨_,_,_,e,_⟩:=x;exact j8 e
 |own y=>obtain⟨_,e⟩:=x;exact j8 e
 |xd fs=>obtain⟨_,⟨_,_,_,e,_⟩,_⟩:=x;exact j8 e
 |rng lo hi=>obtain⟨_,_,_,e⟩:=x;exact j8 e
 |frz ob u=>obtain⟨e,_⟩:=x;exact j8 e
 |tbl ps=>exact j8 (show h.get? a=some _ from x)
 |tab q=>obtain⟨_,e,_⟩:=x;exact j8 e
 |met f y=>exact j8 (show h.get? a=some _ from x)
 |ext φ=>obtain⟨_,⟨_,e⟩,_⟩:=x;exact j8 e
theorem Paired.aZk {α β:Type}{F G:α->β->Prop}:∀{l₁:List α} {l₂:List β},Paired F l₁ l₂->(∀a b,F a b->G a b)->Paired G l₁ l₂
 |_,_,.nil,_=>.nil
 |_,_,.cons r t,f=>.cons (f _ _ r) (Paired.aZk t f)
theorem dN.stay (x:dN P w H h a o)(k:∀b u,(b=a\/H b=some (.own a))->h.get? b=some u->h'.get? b=some u)
  (G:∀b,H b=some (.own a)->H' b=some (.own a)) (K:∀b xs,H b=some (.tup xs)->H' b=some (.tup xs)):dN P w H' h' a o:=by
 induction o with
 |lst xs=>obtain⟨z,l,n,r,e⟩:=x;exact⟨z,l,n,r,k _ _ (.inl rfl) e⟩
 |tup xs=>obtain⟨z,l,r,p⟩:=x;exact⟨z,l,r,p.keep λo e=>k _ _ (.inl rfl) e⟩
 |dK kvs=>obtain⟨z,y,D,r,j,i,g,e,c⟩:=x;exact⟨z,y,D,r,j,i,g,k _ _ (.inl rfl) e,c⟩
 |dT kvs=>obtain⟨z,y,xs,r,j,i,g,e,c⟩:=x;exact⟨z,y,xs,Paired.aZk r λp q z=>⟨z.1,K _ _ z.2.1,z.2.2⟩,j,i,g,k _ _ (.inl rfl) e,c⟩
 |set S n=>obtain⟨j,i,g,t,e,c⟩:=x;exact⟨j,i,g,t,k _ _ (.inl rfl) e,c⟩
 |ins C dx fs=>obtain⟨d,z,I,e,B,⟨A,i,g,J,c⟩,r⟩:=x;exact⟨G _ d,z,I,k _ _ (.inl rfl) e,B,⟨A,i,g,k _ _ (.inr d) J,c⟩,r⟩
 |own y=>obtain⟨j,e⟩:=x;exact⟨j,k _ _ (.inl rfl) e⟩
 |xd fs=>obtain⟨B,⟨A,i,g,e,c⟩,r⟩:=x;exact⟨B,⟨A,i,g,k _ _ (.inl rfl) e,c⟩,r⟩
 |rng lo hi=>obtain⟨t,u,v,e⟩:=x;exact⟨t,u,v,k _ _ (.inl rfl) e⟩
 |frz j u ih=>obtain⟨e,q⟩:=x;exact⟨k _ _ (.inl rfl) e,ih q⟩
 |tab q=>obtain⟨m,e,t,c⟩:=x;exact⟨m,k _ _ (.inl rfl) e,t,λs F q=>let ⟨c',oc,D,tk,a1,a2,a3,a4⟩:=c s F q;⟨c',oc,D,tk,a1,G _ a2,k _ _ (.inr a2) a3,a4⟩⟩
 |tbl m=>have e:h.get? a=some { cls:=.none,data:=.fields m }:=x;show h'.get? a=some { cls:=.none,data:=.fields m };exact k a _ (.inl rfl) e
 |met f y=>have e:h.get? a=some (PySem.W.methodObj (.ref f) (.ref y)):=x;show h'.get? a=some (PySem.W.methodObj (.ref f) (.ref y));exact k a _ (.inl rfl) e
 |ext φ=>obtain⟨p,⟨o,e⟩,E⟩:=x;exact⟨E _ _ p λo q=>k _ _ (.inl rfl) q,⟨o,k _ _ (.inl rfl) e⟩,E⟩
theorem HOk.lt (x:HOk P w H h)(e:H a=some o):a<h.objs.size:=(x a o e).lt
theorem HOk.fresh (x:HOk P w H h)(e:h.objs.size<=a):H a=none:=by
 cases q:H a with
 |none=>rfl
 |some u=>exact absurd (bAB (x.lt q) e) (bBO _)
def HOk.kept (x:HOk P w H h)(k:∀b u,h.get? b=some u->h'.get? b=some u):HOk P w H h':=λa o e=>
 (x a o e).stay (λb u _ q=>k b u q) (λ_ q=>q) λ_ _ q=>q
def HOk.laid (x:HOk P w H h)(k:∀b u,h.get? b=some u->h'.get? b=some u)(j:h.objs.size<=a)(g:dN P w (upd H a o) h' a o):HOk P w (upd H a o) h':=λb u e=>by
 have d:=x.fresh j;by_cases f:b=a
 ·subst f;rw[aK] at e;cases e;exact g
 ·rw[aR f] at e;exact (x b u e).stay (λc v _ q=>k c v q) (λc q=>by rw[aR (aQ q d)];exact q) λc i q=>by rw[aR (aQ q d)];exact q
end
def Rd (H:Hp)(a:Addr)(u:HO):Prop:=H a=some u\/∃o,H a=some (.frz o u)
def Rd.ok (r:Rd H a u)(x:HOk P w H h):dN P w H h a u:=by
 rcases r with r|⟨o,r⟩
 ·exact x a u r
 ·obtain⟨_,q⟩:=x a _ r;exact q
def Mut:Option HO->Prop
 |some (.lst _)=>True
 |some (.dK _)=>True
 |some (.dT _)=>True
 |some (.set _ _)=>True
 |some (.ins _ _ _)=>True
 |some (.ext _)=>True
 |some (.tab _)=>True
 |_=>False
section
variable {P:Program}{w:World}{H:Hp}{h h':Heap}{x e:Addr}{o':HO}
def HOk.write (s:HOk P w H h)(j:Mut (H x))(p:e=x\/H e=some (.own x))(k:∀b u,b≠e->h.get? b=some u->h'.get? b=some u)(m:∃u,h'.get? e=some u)
  (n:dN P w (upd H x o') h' x o'):HOk P w (upd H x o') h':=λb u q=>by
 have d:∀c y,H c=some (.own y)->c≠x:=λc y r z=>by subst z;rw[r] at j;exact j
 have f:∀c i,H c=some (.tup i)->c≠x:=λc i r z=>by subst z;rw[r] at j;exact j
 by_cases g:b=x
 ·subst g;rw[aK] at q;cases q;exact n
 ·rw[aR g] at q;by_cases a:b=e
  ·have l:H b=some (.own x):=by
    rcases p with z|z
    ·exact absurd (a.trans z) g
    ·rw[a];exact z
   rw[q] at l;cases l;obtain⟨v,o⟩:=m;exact⟨v,by rw[a];exact o⟩
  ·refine (s b u q).stay (λc v hc r=>k c v ?_ r) (λc r=>by rw[aR (d c b r)];exact r) λc i r=>by rw[aR (f c i r)];exact r
   rcases hc with rfl|hc
   ·exact a
   ·rintro rfl;rcases p with z|z
    ·exact d c b hc z
    ·rw[hc] at z;cases z;exact g rfl
end
structure Un (fs ex:List Addr)(H H':Hp)(h h':Heap):Prop where
 keep:∀b o,h.get? b=some o->H b=none->b∉fs->b∉ex->h'.get? b=some o
 slot:∀b o,h.get? b=some o->H b=none->b∈fs->b∉ex->∃sl,h'.get? b=some { o with slots:=sl }
 free:∀b o,h.get? b=some o->H b=none->b∉ex->H' b=none
 there:∀b o,h.get? b=some o->b∉ex->∃o',h'.get? b=some o'
 tups:∀b xs,H b=some (.tup xs)->H' b=some (.tup xs)
 frzs:∀b o u,H b=some (.frz o u)->H' b=some (.frz o u)
 tbls:∀b ps,H b=some (.tbl ps)->∃more,H' b=some (.tbl (ps++more))
section
variable {fs fs' ex ex':List Addr}{H H1 H2:Hp}{h h1 h2 h':Heap}{a x e:Addr}{o:HO}
def Un.any (u:Un fs ex H H1 h h1)(q:h.get? b=some ob)(n:H b=none)(c:b∉ex):∃sl,h1.get? b=some { ob with slots:=sl }:=by
 by_cases a:b∈fs
 ·exact u.slot b ob q n a c
 ·exact⟨ob.slots,u.keep b ob q n a c⟩
def Un.kept (k:∀b u,h.get? b=some u->h'.get? b=some u):Un fs ex H H h h':=
 ⟨λb a q _ _ _=>k b a q,λb a q _ _ _=>⟨a.slots,k b a q⟩,λ_ _ _ n _=>n,λb a q _=>⟨a,k b a q⟩,λ_ _ q=>q,λ_ _ _ q=>q,λ_ c q=>⟨#[],by rw[q];simp⟩⟩
def Un.refl:Un fs ex H H h h:=Un.kept λ_ _ q=>q
def Un.laid (k:∀b u,h.get? b=some u->h'.get? b=some u)(e:h.objs.size<=a)(c:H a=none):Un fs ex H (upd H a o) h h' where
 keep:=λb u q _ _ _=>k b u q
 slot:=λb u q _ _ _=>⟨u.slots,k b u q⟩
 free:=λb u q n _=>by rw[aR (t6 (bAB (j8 q) e))];exact n
 there:=λb u q _=>⟨u,k b u q⟩
 tups:=λb d q=>by rw[aR (aQ q c)];exact q
 frzs:=λb u d q=>by rw[aR (aQ q c)];exact q
 tbls:=λb f q=>⟨#[],by rw[aR (aQ q c),q];simp⟩
def Un.write (c:Mut (H x))(l:e=x\/H e=some (.own x))(k:∀b u,b≠e->h.get? b=some u->h'.get? b=some u)(j:∃u,h'.get? e=some u):Un fs ex H (upd H x o) h h':=by
 have f:∀b,H b=none->b≠x:=λb n z=>by subst z;rw[n] at c;exact c
 have g:∀b,H b=none->b≠e:=λb n z=>by
  subst z;rcases l with r|r
  ·exact f b n r
  ·rw[n] at r;cases r
 have d:∀b u,H b=some u->¬ Mut (some u)->b≠x:=λb u q nm z=>by subst z;rw[q] at c;exact nm c
 refine⟨λb u q n _ _=>k b u (g b n) q,λb u q n _ _=>⟨u.slots,k b u (g b n) q⟩,λb u q n _=>by rw[aR (f b n)];exact n,λb u q _=>?_,
  λb i q=>by rw[aR (d b _ q λz=>z)];exact q,λb u i q=>by rw[aR (d b _ q λz=>z)];exact q,λb m q=>⟨#[],by rw[aR (d b _ q λz=>z),q];simp⟩⟩
 by_cases a:b=e
 ·subst a;exact j
 ·exact⟨u,k b u a q⟩
end
def trk (h:Heap)(H:Hp):List Addr:=(List.range h.objs.size).filter λa=>(H a).isSome
def aDb (h:Heap)(H:Hp):Heap:=PySem.W.hideAll h (trk h H)
def aRb (h:Heap)(H:Hp):(aDb h H).objs.size=h.objs.size:=PySem.W.hideAll_size _ _
def aU2 (e:h.get? b=some o)(n:H b=none):(aDb h H).get? b=some o:=
 PySem.W.hideAll_get _ e λa=>by have q:=(List.mem_filter.mp a).2;rw[n] at q;simp at q
theorem aXd (e:(aDb h H).get? b=some o):h.get? b=some o/\H b=none:=by
 have a:=PySem.W.of_hideAll (trk h H) e;refine⟨a,?_⟩;cases q:H b with
 |none=>rfl
 |some x=>have c:b∈trk h H:=List.mem_filter.mpr ⟨List.mem_range.mpr (j8 a),by simp[q]⟩;have z:(aDb h H).get? b=none:=PySem.W.hideAll_none (trk h H) c;rw[z] at e;cases e
structure Mod (K:bFP)(mg:bFS)(base:Heap):Prop where
 kin:K.In base
 glob:base.Ns mainGlobals mg
 blt:∃mb,base.Ns builtinsNs mb/\∀x:Str,x≠"__name__"->mb x=bootBuiltins x
 nolimit:base.NoLimit
structure Cx where
 prog:Program
 w:World
 K:bFP
 mg:bFS
 base:Heap
 A:Around
 N:List Str
 s₀:Shared
 H₀:Hp
 env:Env
 outer:List Env
 stack:List Env
 ex:List Addr
 fn:Str->Bool
 calm:Bool
 pn:bFR
 xe:bFQ
def frs (l:List Env):List Addr:=l.filterMap (·.frame)
abbrev Cx.fs (X:Cx):List Addr:=frs X.outer
def Vis (sc:Scope)(x:Str):Prop:=sc.names.lookup x=some .local\/sc.names.lookup x=some .cell\/sc.names.lookup x=some .free
def Loc (sc:Scope)(x:Str):Prop:=sc.names.lookup x=some .local\/sc.names.lookup x=some .cell
def Look (env:Env)(h:Heap)(m:bFS)(x:Str)(u:Value):Prop:=
 (env.kindOf x=some .local/\m x=some u)\/((env.kindOf x=some .cell\/env.kindOf x=some .free)/\∃c,env.cells.lookup x=some c/\h.IsCell c (some u))
structure Cx.Ok (X:Cx):Prop where
 mod:Mod X.K X.mg X.base
 kind:X.env.scope.kind=.function
 glob:X.env.globals=mainGlobals
 blt:X.env.builtins=builtinsNs
 above:X.s₀.heap.objs.size<=X.env.locals
 inj:∀x y c,X.env.cells.lookup x=some c->X.env.cells.lookup y=some c->x=y
 has:∀x,(X.env.kindOf x=some .cell\/X.env.kindOf x=some .free)->∃c,X.env.cells.lookup x=some c
 cab:∀x c,X.fn x=true->X.env.cells.lookup x=some c->X.s₀.heap.objs.size<=c
 hd:X.calm=true->X.A.handled=none
 frames:X.A.frames=some X.stack
 stk:X.stack=X.outer\/(X.stack=X.env::X.outer/\X.env.frame=some X.env.locals)
 exf:∀b∈X.ex,b≠X.env.locals/\∀x c,X.env.cells.lookup x=some c->c≠b
 bs:∀b o,X.base.get? b=some o->X.s₀.heap.get? b=some o/\X.H₀ b=none
 bsz:X.base.objs.size<=X.s₀.heap.objs.size
 noex:∀b o,X.base.get? b=some o->b∉X.ex
 exfs:∀b∈X.ex,b∉X.fs
 funs:X.s₀.heap.FunFrames X.base X.outer
 frf:∀b∈X.fs,X.H₀ b=none
structure Inv (X:Cx)(bFT:bFR)(σ:List (Option V))(H:Hp)(s:Shared):Prop where
 ok:X.Ok
 os:s.os=X.s₀.os
 bare:AllBare s.gens
 base:Un X.fs X.ex X.H₀ H X.s₀.heap s.heap
 loc:∃m,s.heap.Ns X.env.locals m/\∀(i:Nat) (x:Str) (v:V),X.N[i]?=some x->σ[i]?=some (some v)->Vis X.env.scope x->∃u,RelV v u/\Look X.env s.heap m x u
 cell:∀x c,X.env.cells.lookup x=some c->∃v,s.heap.IsCell c v
 free:H X.env.locals=none
 freeC:∀x c,X.env.cells.lookup x=some c->H c=none
 pin:∀p∈X.pn++bFT,s.heap.get? p.1=some p.2/\H p.1=none/\p.1≠X.env.locals/\p.1∉X.fs/\∀v,p.2.data≠.cell v
 hok:HOk X.prog X.w H s.heap
 len:σ.length=X.N.length
section
variable {X:Cx}{bFT:bFR}{σ:List (Option V)}{H H':Hp}{s:Shared}{h':Heap}
def Cx.Ok.nofr (c:X.Ok)(e:X.base.get? b=some o):b∉X.fs:=λa=>by have:=(c.funs.mem a).1;rw[e] at this;cases this
theorem Inv.bs (I:Inv X bFT σ H s):∀b o,X.base.get? b=some o->s.heap.get? b=some o/\H b=none:=λb o e=>
 ⟨I.base.keep b o (I.ok.bs b o e).1 (I.ok.bs b o e).2 (I.ok.nofr e) (I.ok.noex b o e),I.base.free b o (I.ok.bs b o e).1 (I.ok.bs b o e).2 (I.ok.noex b o e)⟩
def Inv.bk (I:Inv X bFT σ H s):∀b o,X.base.get? b=some o->s.heap.get? b=some o:=λb o e=>(I.bs b o e).1
theorem Inv.mod (I:Inv X bFT σ H s):Mod X.K X.mg X.base:=I.ok.mod
def Inv.kIn (I:Inv X bFT σ H s):X.K.In s.heap:=I.ok.mod.kin.keeps I.bk
theorem Inv.nolimit (I:Inv X bFT σ H s):s.heap.NoLimit:=I.ok.mod.nolimit.keeps I.bk
theorem Inv.lt (I:Inv X bFT σ H s):X.env.locals<s.heap.objs.size:=let ⟨_,hn,_⟩:=I.loc;hn.lt
def Inv.sz (I:Inv X bFT σ H s):X.s₀.heap.objs.size<=s.heap.objs.size:=bAK I.ok.above (bDJ I.lt)
def Inv.nofs (I:Inv X bFT σ H s)(h:s.heap.objs.size<=a):a∉X.fs:=λb=>by obtain⟨_,o,c,_⟩:=I.ok.funs.mem b;exact absurd (bAB (j8 c) (bAK I.sz h)) (bBO _)
def Inv.cne (I:Inv X bFT σ H s):∀x c,X.env.cells.lookup x=some c->c≠X.env.locals:=λx c e z=>by obtain⟨v,o,d,hd⟩:=I.cell x c e;obtain⟨m,⟨f,h,g,a,b,_⟩,_⟩:=I.loc;rw[z,a] at d;cases d;rw[b] at hd;cases hd
theorem Inv.funs (I:Inv X bFT σ H s):s.heap.FunFrames X.base X.outer:=by
 have f:∀l,(∀b∈frs l,b∈X.fs)->X.s₀.heap.FunFrames X.base l->s.heap.FunFrames X.base l:=by
  intro l
  induction l with
  |nil=>intro _ _;trivial
  |cons env r ih=>intro g k;obtain⟨i,⟨L,o,a,h,m,hd⟩,j⟩:=k;have c:=g L (by unfold frs;rw[bCI,a];exact j7);obtain⟨n,e⟩:=I.base.slot L o m (I.ok.frf L c) c λz=>I.ok.exfs L z c;exact⟨i,⟨L,_,a,h,e,hd⟩,ih (λb d=>g b (by unfold frs;rw[bCI,a];exact j5 _ d)) j⟩
 exact f X.outer (λ_ d=>d) I.ok.funs
theorem Inv.stack (I:Inv X bFT σ H s):s.heap.FunFrames X.base X.stack:=by
 rcases I.ok.stk with e|⟨e,b⟩
 ·rw[e];exact I.funs
 ·rw[e];obtain⟨m,a,_⟩:=I.loc;refine .cons (by rw[I.ok.kind];decide) b a ?_ I.funs;exact Heap.get?_none_of_le (bAK I.ok.bsz I.ok.above)
def Inv.aG5 (I:Inv X bFT σ H s):∀b∈frs X.stack,b∈X.env.locals::X.fs:=λb a=>by
 rcases I.ok.stk with e|⟨e,c⟩
 ·rw[e] at a;exact j5 _ a
 ·rw[e] at a;unfold frs at a;rw[bCI,c] at a;exact a
def Inv.wC (I:Inv X bFT σ H s):∀b∈frs X.stack,H b=none:=λb hb=>by
 rcases List.mem_cons.mp (I.aG5 b hb) with e|hb
 ·rw[e];exact I.free
 ·obtain⟨_,o,a,_⟩:=I.ok.funs.mem hb;exact I.base.free b o a (I.ok.frf b hb) λz=>I.ok.exfs b z hb
def Inv.step {g':Array GenState}{t':Nat}{d':Drawn}{ch:List Addr}(I:Inv X bFT σ H s)
  (j:∀b∈ch,(b∈X.ex\/X.s₀.heap.objs.size<=b)/\b≠X.env.locals/\(∀x c,X.env.cells.lookup x=some c->c≠b)/\∀p∈X.pn++bFT,p.1≠b)
  (A:∀b o,b≠X.env.locals->b∉X.fs->b∉ch->s.heap.get? b=some o->H b=none->h'.get? b=some o)
  (slot:∀b o,b≠X.env.locals->b∈X.fs->b∉ch->s.heap.get? b=some o->H b=none->∃sl,h'.get? b=some { o with slots:=sl }) (h:∀b o,b∉ch->s.heap.get? b=some o->H b=none->H' b=none)
  (G:∀b o,b∉ch->s.heap.get? b=some o->∃o',h'.get? b=some o')
  (O:∀b xs,H b=some (.tup xs)->H' b=some (.tup xs)) (L:∀b o u,H b=some (.frz o u)->H' b=some (.frz o u)) (J:∀b ps,H b=some (.tbl ps)->∃more,H' b=some (.tbl (ps++more)))
  (Y:∀m,s.heap.Ns X.env.locals m->h'.Ns X.env.locals m) (S:HOk X.prog X.w H' h') (W:AllBare g') :
  Inv X bFT σ H' { s with heap:=h',gens:=g',drawn:=d',toks:=t' }:=by
 have E:∀b o,X.s₀.heap.get? b=some o->b≠X.env.locals:=λb o e=>t6 (bAB (j8 e) I.ok.above);have y:∀b o,X.s₀.heap.get? b=some o->b∉X.ex->b∉ch:=λb o e a B=>by
  rcases (j b B).1 with z|z
  ·exact a z
  ·exact absurd (bAB (j8 e) z) (bBO _)
 have f:∀x c,X.env.cells.lookup x=some c->∀v,s.heap.IsCell c v->h'.IsCell c v:=λx c e v ⟨o,C,hd⟩=>by
  have g:c∉ch:=λz=>(j c z).2.2.1 x c e rfl;by_cases P:c∈X.fs
  ·obtain⟨sl,q⟩:=slot c o (I.cne x c e) P g C (I.freeC x c e);exact⟨_,q,hd⟩
  ·exact⟨o,A c o (I.cne x c e) P g C (I.freeC x c e),hd⟩
 refine⟨I.ok,I.os,W,⟨λb o e n B a=>?_,λb o e n B a=>?_,λb o e n a=>?_,λb o e a=>?_,λb xs e=>O b xs (I.base.tups b xs e),λb o xs e=>L b o xs (I.base.frzs b o xs e),λb ps e=>?_⟩,?_,λx c e=>?_,?_,λx c e=>?_,λp K=>?_,S,I.len⟩
 ·exact A b o (E b o e) B (y b o e a) (I.base.keep b o e n B a) (I.base.free b o e n a)
 ·obtain⟨sl,t⟩:=I.base.slot b o e n B a;obtain⟨F,D⟩:=slot b _ (E b o e) B (y b o e a) t (I.base.free b o e n a);exact⟨F,D⟩
 ·obtain⟨o',t⟩:=I.base.there b o e a;exact h b o' (y b o e a) t (I.base.free b o e n a)
 ·obtain⟨o',t⟩:=I.base.there b o e a;exact G b o' (y b o e a) t
 ·obtain⟨V,t⟩:=I.base.tbls b ps e;obtain⟨U,D⟩:=J b _ t;exact⟨V++U,by rw[D,Array.append_assoc]⟩
 ·obtain⟨m,Q,R⟩:=I.loc;refine⟨m,Y m Q,λi x v t D T=>?_⟩;obtain⟨u,r,l⟩:=R i x v t D T;refine⟨u,r,?_⟩;rcases l with l|⟨k,c,e,z⟩
  ·exact .inl l
  ·exact .inr ⟨k,c,e,f x c e _ z⟩
 ·obtain⟨v,z⟩:=I.cell x c e;exact⟨v,f x c e v z⟩
 ·obtain⟨m,⟨o,_,_,C,_⟩,_⟩:=I.loc;exact h _ o (λz=>(j _ z).2.1 rfl) C I.free
 ·obtain⟨v,o,C,hd⟩:=I.cell x c e;exact h c o (λz=>(j c z).2.2.1 x c e rfl) C (I.freeC x c e)
 ·obtain⟨e,n,N,M,d⟩:=I.pin p K;have g:p.1∉ch:=λz=>(j p.1 z).2.2.2 p K rfl;exact⟨A p.1 p.2 N M g e n,h p.1 p.2 g e n,N,M,d⟩
def Inv.un (I:Inv X bFT σ H s)(u:Un X.fs [] H H' s.heap h')(k:HOk X.prog X.w H' h'):Inv X bFT σ H' { s with heap:=h',toks:=t' }:=by
 obtain⟨m,⟨o,p,t,g,r⟩,_⟩:=id I.loc;obtain⟨v,i⟩:=u.any g I.free (by simp);exact I.step (g':=s.gens) (d':=s.drawn) (ch:=[]) (λ_ z=>nomatch z) (λb o _ c _ e n=>u.keep b o e n c (by simp)) (λb o _ c _ e n=>u.slot b o e n c (by simp)) (λb o _ e n=>u.free b o e n (by simp)) (λb o _ e=>u.there b o e (by simp)) u.tups u.frzs u.tbls (λq j=>by obtain⟨l,f,d,a,h⟩:=j;rw[g] at a;cases a;exact⟨_,f,d,i,h⟩) k I.bare
def Inv.call (I:Inv X bFT σ H s)(u:Un (frs X.stack) ch H H' s.heap h')(t:HOk X.prog X.w H' h')(v:AllBare g')
  (h:∀b∈ch,(b∈X.ex\/X.s₀.heap.objs.size<=b)/\b≠X.env.locals/\(∀x c,X.env.cells.lookup x=some c->c≠b)/\∀p∈X.pn++bFT,p.1≠b) :
  Inv X bFT σ H' { s with heap:=h',gens:=g',drawn:=d',toks:=t' }:=by
 obtain⟨m,⟨o,A,C,j,r⟩,_⟩:=id I.loc;obtain⟨D,f⟩:=u.any j I.free λz=>(h _ z).2.1 rfl;exact I.step (ch:=ch) h (λb o f l a e n=>u.keep b o e n (λz=>(List.mem_cons.mp (I.aG5 b z)).elim f l) a) (λb o _ _ a e n=>u.any e n a) (λb o a e n=>u.free b o e n a) (λb o a e=>u.there b o e a) u.tups u.frzs u.tbls (λB q=>by obtain⟨y,i,g,d,k⟩:=q;rw[j] at d;cases d;exact⟨_,i,g,f,k⟩) t v
def Inv.turned (I:Inv X bFT σ H s)(k:∀b o,b≠it->s.heap.get? b=some o->h'.get? b=some o)(t:H it=none)(g:it≠X.env.locals)
  (B:it∈X.ex\/X.s₀.heap.objs.size<=it) (w:∀x c,X.env.cells.lookup x=some c->c≠it) (y:∀p∈X.pn++bFT,p.1≠it):Inv X bFT σ H { s with heap:=h',toks:=t' }:=by
 have d:∀b u,H b=some u->b≠it:=λb u e z=>by rw[z,t] at e;cases e
 refine I.step (g':=s.gens) (d':=s.drawn) (ch:=[it]) (λb h=>?_) (λb o _ _ a e _=>k b o (λz=>a (by simp[z])) e) (λb o _ _ a e _=>⟨o.slots,k b o (λz=>a (by simp[z])) e⟩) (λ_ _ _ _ n=>n)
  (λb o a e=>⟨o,k b o (λz=>a (by simp[z])) e⟩) (λ_ _ e=>e) (λ_ _ _ e=>e) (λb A e=>⟨#[],by rw[e];simp⟩) (λm i=>?_) (λb u e=>?_) I.bare
 ·have e:b=it:=by simpa using h
  subst e;exact⟨B,g,w,y⟩
 ·obtain⟨o,l,j,f,r⟩:=i;exact⟨o,l,j,k _ o (Ne.symm g) f,r⟩
 ·refine (I.hok b u e).stay (λc v a q=>k c v ?_ q) (λ_ q=>q) λ_ _ q=>q;rcases a with z|z
  ·rw[z];exact d b u e
  ·exact d c _ z
def Inv.tok (I:Inv X bFT σ H s)(t:Nat):Inv X bFT σ H { s with toks:=t }:=I.un (h':=s.heap) (t':=t) Un.refl I.hok
theorem Inv.kept (I:Inv X bFT σ H s)(k:∀b u,s.heap.get? b=some u->h'.get? b=some u):Inv X bFT σ H { s with heap:=h',toks:=t' }:=I.un (Un.kept k) (I.hok.kept k)
theorem Inv.laid (I:Inv X bFT σ H s)(k:∀b u,s.heap.get? b=some u->h'.get? b=some u)(c:s.heap.objs.size<=a)(d:dN X.prog X.w (upd H a o) h' a o) :
  Inv X bFT σ (upd H a o) { s with heap:=h',toks:=t' }:=I.un (Un.laid k c (I.hok.fresh c)) (I.hok.laid k c d)
theorem Inv.write (I:Inv X bFT σ H s)(c:Mut (H x))(d:e=x\/H e=some (.own x))(k:∀b u,b≠e->s.heap.get? b=some u->h'.get? b=some u)(a:∃u,h'.get? e=some u)
  (f:dN X.prog X.w (upd H x o) h' x o):Inv X bFT σ (upd H x o) { s with heap:=h',toks:=t' }:=I.un (Un.write c d k a) (I.hok.write c d k a f)
def Inv.aOc (I:Inv X bFT σ H s)(h:∀p∈pins',s.heap.get? p.1=some p.2/\H p.1=none/\p.1≠X.env.locals/\p.1∉X.fs/\∀v,p.2.data≠.cell v):Inv X pins' σ H s:=
 ⟨I.ok,I.os,I.bare,I.base,I.loc,I.cell,I.free,I.freeC,λp a=>(List.mem_append.mp a).elim (λz=>I.pin p (bBL _ z)) (h p),I.hok,I.len⟩
def aKp {N:List Str}(f:N.Nodup){i j:Nat}{x:Str}(a:N[i]?=some x)(b:N[j]?=some x):i=j:=by obtain⟨g,d⟩:=List.getElem?_eq_some_iff.mp a;obtain⟨e,c⟩:=List.getElem?_eq_some_iff.mp b;exact (List.getElem_inj f).mp (d.trans c.symm)
def aE0 {M:Model}{A:Around}{E:bFQ}{i:Nat}{x:Str}{v:V}{u:Value}{Q:Unit->Shared->Prop}(I:Inv X bFT σ H s)(hN:X.N.Nodup)(hi:X.N[i]?=some x)(t:Loc X.env.scope x)(r:RelV v u)
  (h:∀s',Inv X bFT (σ.set i (some v)) H s'->(∃a,Heap.SameBut a s.heap s'.heap/\(a=X.env.locals\/X.env.cells.lookup x=some a))->Q () s') (hf:X.fn x=true\/X.env.scope.names.lookup x=some .local:=by first|exact .inl rfl|exact .inr rfl|assumption):wpAny M A (storeName X.env x u) Q E s:=by
 obtain⟨m,Z,hl⟩:=id I.loc;have S:(X.env.scope.kind == .class || (X.env.scope.kind == .module && X.env.locals != X.env.globals))=false:=by rw[I.ok.kind];rfl
 have O:i<σ.length:=by rw[I.len];exact (List.getElem?_eq_some_iff.mp hi).1
 have J:=I.cne;have g:∀{a:Addr} {K:Heap},(∃o,s.heap.get? a=some o/\H a=none)->Heap.SameBut a s.heap K->HOk X.prog X.w H K:=λ{a K} ha f b ob e=>by
  obtain⟨_,_,B⟩:=ha;refine (I.hok b ob e).stay (λc U hc q=>(f.2 c ?_).trans q) (λ_ q=>q) λ_ _ q=>q;rintro rfl;rcases hc with rfl|hc
  ·rw[B] at e;cases e
  ·rw[B] at hc;cases hc
 rcases t with hk|hk
 ·refine wpAny_storeName_local hk Z (λK a0 f=>?_) S;obtain⟨oL,_,_,a1,_⟩:=id Z;refine h _ ⟨I.ok,I.os,I.bare,⟨λb o e n D t=>?_,λb o e n D t=>?_,I.base.free,λb o e t=>?_,I.base.tups,I.base.frzs,I.base.tbls⟩,⟨_,a0,λj y v' l C e3=>?_⟩,λy c e=>?_,I.free,I.freeC,λp hp=>?_,g ⟨oL,a1,I.free⟩ f,by simpa using I.len⟩ ⟨_,f,.inl rfl⟩
  ·exact (f.2 b (t6 (bAB (j8 e) I.ok.above))).trans (I.base.keep b o e n D t)
  ·obtain⟨sl,l⟩:=I.base.slot b o e n D t;exact⟨sl,(f.2 b (t6 (bAB (j8 e) I.ok.above))).trans l⟩
  ·obtain⟨o',l⟩:=I.base.there b o e t;exact⟨o',(f.2 b (t6 (bAB (j8 e) I.ok.above))).trans l⟩
  ·by_cases F:j=i
   ·subst F;rw[hi] at l;cases l;rw[bEN O] at C;cases C;exact⟨u,r,.inl ⟨hk,by simp⟩⟩
   ·rw[List.getElem?_set_ne (Ne.symm F)] at C;obtain⟨u',r',q⟩:=hl j y v' l C e3;refine⟨u',r',?_⟩;rcases q with⟨k,e⟩|⟨k,c,e,z⟩
    ·refine .inl ⟨k,?_⟩;have:y≠x:=λe=>F (aKp hN l (e ▸ hi));simp[this,e]
    ·exact .inr ⟨k,c,e,z.sameBut f (J y c e)⟩
  ·obtain⟨U,z⟩:=I.cell y c e;exact⟨U,z.sameBut f (J y c e)⟩
  ·obtain⟨e,n,W,nf,d⟩:=I.pin p hp;exact⟨(f.2 p.1 W).trans e,n,W,nf,d⟩
 ·have G:X.fn x=true:=by
   rcases hf with z|z
   ·exact z
   ·rw[z] at hk;cases hk
  obtain⟨c,hc⟩:=I.ok.has x (.inl hk);obtain⟨U,z⟩:=I.cell x c hc;refine wpAny_storeName_cell I.ok.kind hk hc z (λK R f=>?_);obtain⟨oc,T,P⟩:=id z;refine h { s with heap:=K } ⟨I.ok,I.os,I.bare,⟨λb o e n D t=>?_,λb o e n D t=>?_,I.base.free,λb o e t=>?_,I.base.tups,I.base.frzs,I.base.tbls⟩,⟨m,Z.sameBut f (Ne.symm (J x c hc)),λj y v' l C e3=>?_⟩,λy Y e=>?_,I.free,I.freeC,λp hp=>?_,g ⟨oc,T,I.freeC x c hc⟩ f,by simpa using I.len⟩ ⟨c,f,.inr hc⟩
  ·exact (f.2 b (t6 (bAB (j8 e) (I.ok.cab x c G hc)))).trans (I.base.keep b o e n D t)
  ·obtain⟨sl,l⟩:=I.base.slot b o e n D t;exact⟨sl,(f.2 b (t6 (bAB (j8 e) (I.ok.cab x c G hc)))).trans l⟩
  ·obtain⟨o',l⟩:=I.base.there b o e t;exact⟨o',(f.2 b (t6 (bAB (j8 e) (I.ok.cab x c G hc)))).trans l⟩
  ·by_cases F:j=i
   ·subst F;rw[hi] at l;cases l;rw[bEN O] at C;cases C;exact⟨u,r,.inr ⟨.inl hk,c,hc,R⟩⟩
   ·rw[List.getElem?_set_ne (Ne.symm F)] at C;obtain⟨u',r',q⟩:=hl j y v' l C e3;refine⟨u',r',?_⟩;rcases q with q|⟨k,Y,e,z'⟩
    ·exact .inl q
    ·refine .inr ⟨k,Y,e,z'.sameBut f ?_⟩;rintro rfl;exact F (aKp hN l (I.ok.inj _ _ _ e hc ▸ hi))
  ·by_cases L:Y=c
   ·subst L;exact⟨_,R⟩
   ·obtain⟨w2,z2⟩:=I.cell y Y e;exact⟨w2,z2.sameBut f L⟩
  ·obtain⟨e,n,W,nf,d⟩:=I.pin p hp;refine⟨(f.2 p.1 ?_).trans e,n,W,nf,d⟩;intro q;rw[q,T] at e;have q':=bAM e;exact d U (by rw[<-q'];exact P)
def aKb (I:Inv X bFT σ H s)(d:X.N.Nodup)(hi:X.N[i]?=some x)(b:Loc X.env.scope x)(r:RelV v u)
  (h:∀s',Inv X bFT (σ.set i (some v)) H s'->Q () s') (c:X.fn x=true\/X.env.scope.names.lookup x=some .local:=by first|exact .inl rfl|exact .inr rfl|assumption):wpAny M A (storeName X.env x u) Q E s:=
 aE0 I d hi b r (λs' a _=>h s' a) c
def Inv.call' (I:Inv X bFT σ H s)(h:s'.os=s.os)(u:Un (frs X.stack) ch H H' s.heap s'.heap)(d:HOk X.prog X.w H' s'.heap)(f:AllBare s'.gens)
  (a:∀b∈ch,(b∈X.ex\/X.s₀.heap.objs.size<=b)/\b≠X.env.locals/\(∀x c,X.env.cells.lookup x=some c->c≠b)/\∀p∈X.pn++bFT,p.1≠b):Inv X bFT σ H' s':=by
 obtain⟨i,g',d',t',g⟩:=s';have e:=h;subst e;exact I.call (g':=g') (t':=t') (d':=d') u d f a
end
abbrev XK:=Value->Option Addr->Hp->Prop
abbrev St:=List (Option V)
abbrev VK:=V->Hp->Prop
abbrev TE:=St->Hp->VK->Prop
abbrev TT:=St->Hp->(Bool->Hp->Prop)->Prop
abbrev TA:=St->Hp->(List V->Hp->Prop)->Prop
structure Ends where
 nx:St->Hp->Prop
 rt:VK
 bk:St->Hp->Prop:=λ_ _=>False
 ct:St->Hp->Prop:=λ_ _=>False
abbrev TS:=Ends->St->Hp->Prop
def EP (X:Cx)(bFT:bFR)(σ:St)(Q:VK)(u:Value)(s':Shared):Prop:=∃v H',Inv X bFT σ H' s'/\RelV v u/\Q v H'
def TP (X:Cx)(bFT:bFR)(σ:St)(Q:Bool->Hp->Prop)(b:Bool)(s':Shared):Prop:=∃H',Inv X bFT σ H' s'/\Q b H'
def AP (X:Cx)(bFT:bFR)(σ:St)(Q:List V->Hp->Prop)(us:List Value)(s':Shared):Prop:=∃vs H',Inv X bFT σ H' s'/\Vals vs us/\Q vs H'
def SP (X:Cx)(bFT:bFR)(D:Ends)(f:Flow)(s':Shared):Prop:=
 match f with
 |.next=>∃σ' H',Inv X bFT σ' H' s'/\D.nx σ' H'
 |.brk=>∃σ' H',Inv X bFT σ' H' s'/\D.bk σ' H'
 |.cont=>∃σ' H',Inv X bFT σ' H' s'/\D.ct σ' H'
 |.ret u=>∃v σ' H',Inv X bFT σ' H' s'/\RelV v u/\D.rt v H'
def PE (X:Cx)(e:Expr)(t:TE):Prop:=
 ∀bFT s σ H Q,Inv X bFT σ H s->t σ H Q->wpAny (model X.prog X.w) X.A (eval e X.env) (EP X bFT σ Q) X.xe s
def PT (X:Cx)(e:Expr)(t:TT):Prop:=
 ∀bFT s σ H Q,Inv X bFT σ H s->t σ H Q->wpAny (model X.prog X.w) X.A (isTrue e X.env (eval e X.env)) (TP X bFT σ Q) X.xe s
def PW (X:Cx)(e:Expr)(t:TT):Prop:=
 ∀whole bFT s σ H Q,Inv X bFT σ H s->t σ H Q->wpAny (model X.prog X.w) X.A (isTrue e X.env whole) (TP X bFT σ Q) X.xe s
def PW.pt (h:PW X e t):PT X e t:=h _
def PA (X:Cx)(es:List Expr)(t:TA):Prop:=
 ∀pos bFT s σ H Q,Inv X bFT σ H s->t σ H Q->wpAny (model X.prog X.w) X.A (spliced (backTo pos (starEach es X.env))) (AP X bFT σ Q) X.xe s
def PS (X:Cx)(st:Stmt)(t:TS):Prop:=
 ∀bFT s σ H D,Inv X bFT σ H s->t D σ H->wpAny (model X.prog X.w) X.A (exec st X.env) (SP X bFT D) X.xe s
def PSs (X:Cx)(st:List Stmt)(t:TS):Prop:=
 ∀bFT s σ H D,Inv X bFT σ H s->t D σ H->wpAny (model X.prog X.w) X.A (execs st X.env) (SP X bFT D) X.xe s
def thn {α:Type}{t:Sem α}{Q Q':α->Shared->Prop}{M:Model}{A:Around}{E:bFQ}{s:Shared}(h:wpAny M A t Q E s)(b:∀a s,Q a s->Q' a s):wpAny M A t Q' E s:=bBN h b λ_ _ x=>x
section
variable {X:Cx}
def aQj (i:Nat):TE:=fun σ H Q=>∃v,σ[i]?=some (some v)/\Q v H
def tC (v:V):TE:=λ_ H Q=>Q v H
def bAv (k:X.N[i]?=some x)(n:Vis X.env.scope x)(hd:(x == ("__debug__":Str))=false:=by decide)(f:(x == ("__classdict__":Str))=false:=by decide):PE X (.Name x pos) (aQj i):=by
 intro b s σ H Q I h;obtain⟨v,e,h⟩:=h;obtain⟨m,d,j⟩:=I.loc;obtain⟨u,r,l⟩:=j i x v k e n;have a:EP X b σ Q u s:=⟨v,H,I,r,h⟩;rcases l with⟨hk,g⟩|⟨hk,c,hc,hcell⟩
 ·exact wpAny_Name (wpAny_loadName_local I.ok.kind hk d g a) hd
 ·rcases hk with hk|hk
  ·exact wpAny_Name (wpAny_loadName_cell I.ok.kind hk hc hcell a) hd
  ·exact wpAny_Name (wpAny_loadName_free I.ok.kind hk hc hcell a f) hd
def bBv {i j pos}:PE X (.Constant (.int i) j pos) (tC (.int i)):=λ_ _ _ H _ I h=>wpAny_Constant_int ⟨.int i,H,I.tok _,⟨_,rfl⟩,h⟩
def bCe {b j pos}:PE X (.Constant (.bool b) j pos) (tC (.bl b)):=λ_ _ _ H _ I h=>Constant_bool ⟨.bl b,H,I,rfl,h⟩
def bA2 {j pos}:PE X (.Constant .none j pos) (tC .non):=λ_ _ _ H _ I h=>Constant_none ⟨.non,H,I,rfl,h⟩
def bBq {x j pos}:PE X (.Constant (.str x) j pos) (tC (.str x)):=λ_ _ _ H _ I h=>Calls.Constant_str ⟨.str x,H,I.tok _,⟨_,rfl⟩,h⟩
def Gl (X:Cx)(x:Str):Prop:=X.env.kindOf x=some .globalImplicit
def vZ (I:Inv X bFT σ H s)(a:Gl X x)(b:X.mg x=some u)(h:Q u s)
  (hd:(x == ("__debug__":Str))=false:=by decide):wpAny (model X.prog X.w) X.A (eval (.Name x pos) X.env) Q E s:=
 bDU I.ok.kind a (Calls.loadGlobal_global (by rw[I.ok.glob];exact I.mod.glob.keeps I.bk) b h) hd
def rG (I:Inv X bFT σ H s)(d:Gl X x)(g:X.mg x=none)(f:bootBuiltins x=some u)(h:Q u s)
  (e:x≠"__name__":=by decide) (hd:(x == ("__debug__":Str))=false:=by decide):wpAny (model X.prog X.w) X.A (eval (.Name x pos) X.env) Q E s:=by
 obtain⟨c,b,a⟩:=I.mod.blt;exact bDU I.ok.kind d (Calls.loadGlobal_builtin (by rw[I.ok.glob];exact I.mod.glob.keeps I.bk) g (by rw[I.ok.blt];exact b.keeps I.bk) ((a x e).trans f) h) hd
def aX6 (a:Gl X x)(b:X.mg x=some u)(r:RelV v u)(hd:(x == ("__debug__":Str))=false:=by decide):PE X (.Name x pos) (tC v):=
 λ_ _ _ H _ I h=>vZ I a b ⟨v,H,I,r,h⟩ hd
def aYe (a:Gl X x)(d:X.mg x=none)(c:bootBuiltins x=some u)(r:RelV v u)(b:x≠"__name__":=by decide)(hd:(x == ("__debug__":Str))=false:=by decide):PE X (.Name x pos) (tC v):=
 λ_ _ _ H _ I h=>rG I a d c ⟨v,H,I,r,h⟩ b hd
variable {a b:Expr}{ta tb:TE}{pos:Pos}
def PC (X:Cx)(op:CmpOp)(a b:Expr)(t:TE):Prop:=
 ∀bFT s σ H Q,Inv X bFT σ H s->t σ H Q ->
  wpAny (model X.prog X.w) X.A (eval a X.env) (λv s₁=>wpAny (model X.prog X.w) X.A (eval b X.env) (λu s₂=>wpAny (model X.prog X.w) X.A (compareOp op v u) (EP X bFT σ Q) X.xe s₂) X.xe s₁) X.xe s
def tB (t:TE):TT:=fun σ H Q=>t σ H λx H1=>∃c,x=.bl c/\Q c H1
def aSz {op:CmpOp}{t:TE}(h:PC X op a b t)(f:behindInMarks op b=false:=by first|exact nobehind _ (by decide) (by decide)|rfl):PT X (.Compare a [op] [b] pos) (tB t):=by intro e s σ H Q I l;refine wpAny_isTrue_Compare1 (thn (h e s σ H _ I l) λv n f=>thn f λu o g=>thn g λc p ⟨x,j,k,m,i⟩=>?_) f;obtain⟨d,rfl,q⟩:=i;cases m;exact bBH ⟨j,k,q⟩
def aZd {e:Expr}{t:TE}(h:PE X e t)(k:∀whole,isTrue e X.env whole=(do let v <-whole;standAt e.pos;holding [v] (truthy v)):=by intro _;rfl):PT X e (tB t):=by intro a s σ H Q I g;refine isTrue_plain (thn (h a s σ H _ I g) λv j ⟨x,c,f,i,b⟩=>?_) (k _);obtain⟨d,rfl,q⟩:=b;cases i;exact bBH ⟨c,f,q⟩
variable {tA tB':TT}{rest:List Expr}
def bB1 (t u:TT):TT:=fun σ H Q=>t σ H λc H1=>if c=true then u σ H1 Q else Q false H1
def tOr (t u:TT):TT:=fun σ H Q=>t σ H λc H1=>if c=true then Q true H1 else u σ H1 Q
def bAw (t:TT):TT:=fun σ H Q=>t σ H λc H1=>Q (!c) H1
theorem aX5 (d:PT X a tA):PW X (.BoolOp .And [a] pos) tA:=by
 intro g b s σ H Q I h;refine isTrue_and (thn (d b s σ H Q I h) λc f e=>?_);cases c with
 |true=>exact isTrue_and_nil e
 |false=>exact e
theorem bBe (d:PT X a tA):PW X (.BoolOp .Or [a] pos) tA:=by
 intro g b s σ H Q I h;refine isTrue_or (thn (d b s σ H Q I h) λc f e=>?_);cases c with
 |false=>exact isTrue_or_nil e
 |true=>exact e
theorem aY9 (k:PT X a tA)(l:PW X (.BoolOp .And (b::rest) pos) tB'):PW X (.BoolOp .And (a::b::rest) pos) (bB1 tA tB'):=by
 intro j d s σ H Q I h;refine isTrue_and (thn (k d s σ H _ I h) λc i ⟨g,e,f⟩=>?_);cases c with
 |true=>exact l j d i σ g Q e f
 |false=>exact⟨g,e,f⟩
theorem bC7 (k:PT X a tA)(l:PW X (.BoolOp .Or (b::rest) pos) tB'):PW X (.BoolOp .Or (a::b::rest) pos) (tOr tA tB'):=by
 intro j d s σ H Q I h;refine isTrue_or (thn (k d s σ H _ I h) λc i ⟨g,e,f⟩=>?_);cases c with
 |true=>exact⟨g,e,f⟩
 |false=>exact l j d i σ g Q e f
def bAe (e:PT X a tA):PT X (.UnaryOp .Not a pos) (bAw tA):=by intro b s σ H Q I h;exact isTrue_not (e b s σ H (λc d=>Q (!c) d) I h)
def aYn (ta tb:TE):TE:=fun σ H Q=>ta σ H λx H1=>∃c,x=.bl c/\if c=true then tb σ H1 Q else Q (.bl false) H1
def bDj (ta tb:TE):TE:=fun σ H Q=>ta σ H λx H1=>∃c,x=.bl c/\if c=true then Q (.bl true) H1 else tb σ H1 Q
def aYw (ta:TE):TE:=fun σ H Q=>ta σ H λx H1=>∃c,x=.bl c/\Q (.bl (!c)) H1
def aZ3 {op}(h:PE X a t):PE X (.BoolOp op [a] pos) t:=λb s σ H Q I c=>BoolOp_one (h b s σ H Q I c)
theorem bAt (l:PE X a ta)(k:PE X (.BoolOp .And (b::rest) pos) tb):PE X (.BoolOp .And (a::b::rest) pos) (aYn ta tb):=by
 intro d s σ H Q I h;refine BoolOp_and (thn (l d s σ H _ I h) λv i ⟨x,f,g,j,e⟩=>?_);obtain⟨c,rfl,e⟩:=e;cases j;refine bBH ?_;cases c with
 |true=>exact k d i σ f Q g e
 |false=>exact⟨.bl false,f,g,rfl,e⟩
theorem bCx (l:PE X a ta)(k:PE X (.BoolOp .Or (b::rest) pos) tb):PE X (.BoolOp .Or (a::b::rest) pos) (bDj ta tb):=by
 intro d s σ H Q I h;refine BoolOp_or (thn (l d s σ H _ I h) λv i ⟨x,f,g,j,e⟩=>?_);obtain⟨c,rfl,e⟩:=e;cases j;refine bBH ?_;cases c with
 |false=>exact k d i σ f Q g e
 |true=>exact⟨.bl true,f,g,rfl,e⟩
def bBm (j:PE X a ta):PE X (.UnaryOp .Not a pos) (aYw ta):=by intro d s σ H Q I h;refine UnaryOp_ (thn (j d s σ H _ I h) λv i ⟨x,e,f,g,b⟩=>?_);obtain⟨c,rfl,b⟩:=b;cases g;exact not_of (bBH ⟨.bl (!c),e,f,rfl,b⟩)
def tIf (t:TT)(ta tb:TE):TE:=fun σ H Q=>t σ H λc H1=>if c=true then ta σ H1 Q else tb σ H1 Q
theorem aVk {c:Expr}(m:PT X c tA)(k:PE X a ta)(l:PE X b tb):PE X (.IfExp c a b pos) (tIf tA ta tb):=by
 intro e s σ H Q I h;refine wpAny_IfExp (thn (m e s σ H _ I h) λd i ⟨j,f,g⟩=>?_);cases d with
 |true=>exact k e i σ j Q f g
 |false=>exact l e i σ j Q f g
end
def SqL (K:bFP)(H:Hp)(a:Addr)(xs:List V):Prop:=
 Rd H a (.lst xs) \/
  ∃o its n,K.lookup a=some o/\o.cls=.type "list"/\o.dict=none/\o.data=.seq its n/\its.size<=sizeLine/\Vals xs its.toList
def SqT (K:bFP)(H:Hp)(a:Addr)(xs:List V):Prop:=
 Rd H a (.tup xs) \/
  ∃o its n,K.lookup a=some o/\o.cls=.type "tuple"/\o.dict=none/\o.data=.seq its n/\its.size<=sizeLine/\Vals xs its.toList
def bDo:Value->Option V
 |.none=>some .non
 |.bool b=>some (.bl b)
 |.int i _=>some (.int i)
 |.str x _=>some (.str x)
 |.bytes b _=>some (.byt b)
 |.float b _=>some (.flt b)
 |.ref a=>some (.ref a)
 |.type n=>some (.ty n)
 |_=>none
theorem RelV.abs (r:RelV x u):bDo u=some x:=by
 cases x with
 |non=>cases r;rfl
 |bl _=>cases r;rfl
 |int _=>obtain⟨t,rfl⟩:=r;rfl
 |str _=>obtain⟨t,rfl⟩:=r;rfl
 |byt _=>obtain⟨t,rfl⟩:=r;rfl
 |flt _=>obtain⟨t,rfl⟩:=r;rfl
 |ref _=>cases r;rfl
 |ty _=>cases r;rfl
def RelV.inj (r:RelV x u)(q:RelV y u):x=y:=bAM (r.abs.symm.trans q.abs)
theorem Vals.inj:∀{xs ys:List V} {us:List Value},Vals xs us->Vals ys us->xs=ys
 |_,_,_,.nil,.nil=>rfl
 |_,_,_,.cons r t,.cons r' t'=>by rw[r.inj r',Vals.inj t t']
section
variable {X:Cx}{bFT:bFR}{σ:St}{H:Hp}{s:Shared}{a:Addr}{xs ys:List V}
def SqL.of {K:bFP}(h:H a=some (.lst xs)):SqL K H a xs:=.inl (.inl h)
def SqT.of {K:bFP}(h:H a=some (.tup xs)):SqT K H a xs:=.inl (.inl h)
def Inv.list (I:Inv X bFT σ H s)(h:SqL X.K H a xs):∃its:List Value,Vals xs its/\PlainL s.heap a its.toArray/\xs.length<=sizeLine:=by
 rcases h with h|⟨o,its,n,c,d,hd,b,f,r⟩
 ·obtain⟨z,its,n,r,e⟩:=h.ok I.hok;exact⟨its,r,⟨_,n,e,rfl,rfl,rfl⟩,z⟩
 ·refine⟨its.toList,r,⟨o,n,I.kIn a o c,d,hd,by simpa using b⟩,?_⟩;have e:=r.length;simp only[v7] at e;lia
def Inv.tuple (I:Inv X bFT σ H s)(h:SqT X.K H a xs):∃its:List Value,Vals xs its/\IsTup s.heap a its.toArray/\xs.length<=sizeLine:=by
 rcases h with h|⟨o,its,n,c,d,hd,b,f,r⟩
 ·obtain⟨z,its,r,p⟩:=h.ok I.hok;exact⟨its,r,p.1,z⟩
 ·refine⟨its.toList,r,⟨o,I.kIn a o c,d,n,by simpa using b⟩,?_⟩;have e:=r.length;simp only[v7] at e;lia
def Inv.bDy (I:Inv X bFT σ H s)(h:SqT X.K H a xs):∃its:List Value,Vals xs its/\xF s.heap a its.toArray/\xs.length<=sizeLine:=by
 rcases h with h|⟨o,its,n,b,d,hd,c,f,r⟩
 ·obtain⟨z,its,r,p⟩:=h.ok I.hok;exact⟨its,r,p,z⟩
 ·refine⟨its.toList,r,.of (I.kIn a o b) hd ⟨o,I.kIn a o b,d,n,by simpa using c⟩,?_⟩;have e:=r.length;simp only[v7] at e;lia
def Inv.aSk (I:Inv X bFT σ H s)(h:SqL X.K H a xs)(h':SqL X.K H a ys):xs=ys:=by
 obtain⟨c,r,⟨o,n,e,_,_,d⟩,_⟩:=I.list h;obtain⟨b,i,⟨k,j,g,_,_,f⟩,_⟩:=I.list h';rw[e] at g;cases g;rw[d] at f;injection f with d1 _;have:c=b:=by simpa using congrArg Array.toList d1
 subst this;exact r.inj i
def Inv.aQw (I:Inv X bFT σ H s)(h:SqT X.K H a xs)(h':SqT X.K H a ys):xs=ys:=by
 obtain⟨c,r,⟨o,e,_,n,d⟩,_⟩:=I.tuple h;obtain⟨b,i,⟨j,g,_,k,f⟩,_⟩:=I.tuple h';rw[e] at g;cases g;rw[d] at f;injection f with d1 _;have:c=b:=by simpa using congrArg Array.toList d1
 subst this;exact r.inj i
end
abbrev Cx.wish (X:Cx)(E:bFQ):Cx:={ X with xe:=E }
abbrev Cx.nox (X:Cx):Cx:=X.wish λ_ _=>False
theorem Cx.Ok.wish {X:Cx}(a:X.Ok)(E:bFQ):(X.wish E).Ok:=
 ⟨a.mod,a.kind,a.glob,a.blt,a.above,a.inj,a.has,a.cab,a.hd,a.frames,a.stk,a.exf,a.bs,a.bsz,a.noex,a.exfs,a.funs,a.frf⟩
def Cx.Ok.rQ {X:Cx}{E:bFQ}(a:(X.wish E).Ok):X.Ok:=
 ⟨a.mod,a.kind,a.glob,a.blt,a.above,a.inj,a.has,a.cab,a.hd,a.frames,a.stk,a.exf,a.bs,a.bsz,a.noex,a.exfs,a.funs,a.frf⟩
section
variable {X:Cx}{bFT:bFR}{σ:St}{H:Hp}{s:Shared}{E:bFQ}
theorem Inv.wish (I:Inv X bFT σ H s)(E:bFQ):Inv (X.wish E) bFT σ H s:=⟨I.ok.wish E,I.os,I.bare,I.base,I.loc,I.cell,I.free,I.freeC,I.pin,I.hok,I.len⟩
theorem Inv.rQ (I:Inv (X.wish E) bFT σ H s):Inv X bFT σ H s:=⟨I.ok.rQ,I.os,I.bare,I.base,I.loc,I.cell,I.free,I.freeC,I.pin,I.hok,I.len⟩
theorem SP.rQ (h:SP (X.wish E) bFT D f s'):SP X bFT D f s':=by
 cases f with
 |next=>obtain⟨b,a,I,q⟩:=h;exact⟨b,a,I.rQ,q⟩
 |brk=>obtain⟨b,a,I,q⟩:=h;exact⟨b,a,I.rQ,q⟩
 |cont=>obtain⟨b,a,I,q⟩:=h;exact⟨b,a,I.rQ,q⟩
 |ret u=>obtain⟨v,b,a,I,r,q⟩:=h;exact⟨v,b,a,I.rQ,r,q⟩
theorem PSs.nox {st:List Stmt}{t:TS}(h:PSs X.nox st t):PSs X st t:=λa s σ H D I b=>
 bBN (h a s σ H D (I.wish _) b) (λ_ _ q=>q.rQ) λ_ _ z=>False.elim z
end
section
variable {X:Cx}{st:Stmt}{rest:List Stmt}{t u:TS}{e:Expr}{te:TE}{pos:Pos}
def rY:TS:=λD σ H=>D.nx σ H
def aHe (t u:TS):TS:=λD σ H=>t { D with nx:=u D } σ H
def aVy:PSs X [] rY:=λ_ _ σ H _ I h=>wpAny_execs_nil ⟨σ,H,I,h⟩
theorem aTj (i:PS X st t)(g:PSs X rest u):PSs X (st::rest) (aHe t u):=by
 intro a s σ H D I h;refine wpAny_execs_cons (thn (i a s σ H { D with nx:=u D } I h) λf b q=>?_);cases f with
 |next=>obtain⟨e,d,c,q⟩:=q;exact g a b e d D c q
 |ret v=>exact q
 |brk=>exact q
 |cont=>exact q
theorem aWq (c:PS X st t):PSs X [st] t:=by
 intro a s σ H D I h;refine wpAny_execs_cons (thn (c a s σ H D I h) λf b q=>?_);cases f with
 |next=>exact wpAny_execs_nil q
 |ret v=>exact q
 |brk=>exact q
 |cont=>exact q
def Inv.quiet (I:Inv X bFT σ H s):interactive X.env=false:=by simp[interactive,I.ok.kind]
def aR6 (te:TE):TS:=λD σ H=>te σ H λ_ H1=>D.nx σ H1
def aXk (i:PE X e te)(f:swapsWith e none pos.line X.env=pure false:=by rfl):PS X (.Expr e pos) (aR6 te):=by intro a s σ H D I h;exact wpAny_Expr_any (thn (i a s σ H _ I h) λv g ⟨x,d,b,j,c⟩=>⟨σ,d,b,c⟩) I.quiet f
def tO (te:TE):TS:=λD σ H=>te σ H D.rt
def bAq (i:PE X e te):PS X (.Return (some e) pos) (tO te):=by intro a s σ H D I h;exact wpAny_Return_some (thn (i a s σ H _ I h) λv g ⟨x,f,b,d,c⟩=>⟨x,σ,f,b,d,c⟩)
def aMv (c:TT)(t u:TS):TS:=λD σ H=>c σ H λb H1=>if b=true then t D σ H1 else u D σ H1
theorem bB0 {c:Expr}{a b:List Stmt}{tc:TT}(m:PT X c tc)(k:PSs X a t)(l:PSs X b u):PS X (.If c a b pos) (aMv tc t u):=by
 intro e s σ H D I h;refine wpAny_If (thn (m e s σ H _ I h) λd i ⟨j,f,g⟩=>?_);cases d with
 |true=>exact k e i σ j D f g
 |false=>exact l e i σ j D f g
def aSa:TS:=λ_ _ _=>False
def aR8:PS X st aSa:=λ_ _ _ _ _ _ h=>h.elim
end
abbrev TG:=V->St->Hp->(St->Hp->Prop)->Prop
abbrev TGs:=List V->St->Hp->(St->Hp->Prop)->Prop
def PG (X:Cx)(target:Expr)(t:TG):Prop:=
 ∀bFT s σ H v u Q,Inv X bFT σ H s->RelV v u->t v σ H Q ->
  wpAny (model X.prog X.w) X.A (assign target X.env u) (λ_ s'=>∃σ' H',Inv X bFT σ' H' s'/\Q σ' H') X.xe s
def PGs (X:Cx)(ts:List Expr)(t:TGs):Prop:=
 ∀bFT s σ H vs us Q,Inv X bFT σ H s->Vals vs us->t vs σ H Q ->
  wpAny (model X.prog X.w) X.A (assignInOrder ((assignEach ts X.env).map (·.2)) us) (λ_ s'=>∃σ' H',Inv X bFT σ' H' s'/\Q σ' H') X.xe s
abbrev aZt:=V->V->V->Hp->(Hp->Prop)->Prop
def bBg (X:Cx)(t:aZt):Prop:=
 ∀bFT s σ H o i v ov iv u Q,Inv X bFT σ H s->RelV o ov->RelV i iv->RelV v u->t o i v H Q ->
  wpAny (model X.prog X.w) X.A (setItem ov iv u) (λ_ s'=>∃H',Inv X bFT σ H' s'/\Q H') X.xe s
section
variable {X:Cx}{pos:Pos}
def cM (i:Nat):TG:=λv σ H Q=>Q (σ.set i (some v)) H
def aXu (e:X.N.Nodup)(hi:X.N[i]?=some x)(c:Loc X.env.scope x)(d:X.fn x=true\/X.env.scope.names.lookup x=some .local:=by first|exact .inl rfl|exact .inr rfl|assumption):PG X (.Name x pos) (cM i):=by intro b s σ H v u Q I r h;exact wpAny_assign_Name (aKb I e hi c r (λf a=>⟨_,H,a,h⟩) d)
def aP3:TGs:=λvs σ H Q=>vs=[]/\Q σ H
def tR (t:TG)(u:TGs):TGs:=λvs σ H Q=>∃v r,vs=v::r/\t v σ H fun σ' H'=>u r σ' H' Q
def aWh:PGs X [] aP3:=by intro a s σ H c b Q I r h;obtain⟨e,h⟩:=h;subst e;cases r;exact assignInOrder_nil ⟨σ,H,I,h⟩
theorem aUm {e:Expr}{es:List Expr}{t:TG}{u:TGs}(o:PG X e t)(j:PGs X es u)
  (l:(assignEach (e::es) X.env).map (·.2)=assign e X.env::(assignEach es X.env).map (·.2):=by rfl):PGs X (e::es) (tR t u):=by
 intro a s σ H n m Q I r h;obtain⟨v,k,i,h⟩:=h;subst i;cases r with
 |cons r rr=>rw[l];refine assignInOrder_cons (thn (o a s σ H _ _ _ I r h) λ_ c ⟨f,d,g,b⟩=>?_);exact j a c f d _ _ Q g rr b
def aNp (K:bFP)(n:Nat)(t:TGs):TG:=λv σ H Q=>∃a xs,v=.ref a/\SqT K H a xs/\xs.length=n/\t xs σ H Q
def bAm (B:X.calm=true)(h:PGs X es t)
  (y:(assignEach es X.env).length=n:=by rfl) (i:(assignEach es X.env).findIdx? (·.1)=none:=by rfl):PG X (.Tuple es k pos) (aNp X.K n t):=by
 intro c s σ H v u Q I r d;obtain⟨a,l,w,q,m,d⟩:=d;subst w;cases r;obtain⟨x,f,p,z⟩:=I.tuple q;refine assign_Tuple_tuple (I.ok.hd B) p (by simp[y,<-m,f.length]) i λA g=>?_;have j:=I.kept (t':=s.toks) λb o e=>g b o (t6 (j8 e)) e;exact h c _ σ H l _ Q j (by simpa using f) d
def bB6 (to ti:TE)(t:aZt):TG:=λv σ H Q=>to σ H λo H1=>ti σ H1 λi H2=>t o i v H2 λH3=>Q σ H3
def aZx {o i:Expr}{to ti:TE}{t:aZt}(B:PE X o to)(hi:PE X i ti)(z:bBg X t)
  (A:∀v,assign (.Subscript o i pos) X.env v=(do
   let ov <-holding [v] (eval o X.env)
   let iv <-holding [v,ov] (eval i X.env)
   standAt pos
   holding [v,ov,iv] (setItem ov iv v)
   release [v,ov,iv] []):=by intro _;rfl):PG X (.Subscript o i pos) (bB6 to ti t):=by
 intro a s σ H v u Q I r h;rw[A];refine b7 (bAS (thn (B a s σ H _ I h) λov d ⟨x,k,l,q,c⟩=>?_));refine b7 (bAS (thn (hi a d σ k _ l c) λiv e ⟨y,f,g,p,b⟩=>?_));refine b7 (wpAny_standAt (b7 (bAS (thn (z a e σ f x y v ov iv u _ g q p r b) λ_ w ⟨n,j,m⟩=>?_))));exact wpAny_release ⟨σ,n,j,m⟩
def aBq (te:TE)(g:TG):TS:=λD σ H=>te σ H λx H1=>g x σ H1 D.nx
def bAz {tg e:Expr}{te:TE}{g:TG}(n:PE X e te)(j:PG X tg g)(l:swapsWithSole [tg] e pos.line X.env=pure false:=by rfl)(m:swappedStores [tg] e X.env=pure none:=by rfl)
  (o:(assignEach [tg] X.env).map (·.2)=[assign tg X.env]:=by rfl):PS X (.Assign [tg] e pos) (aBq te g):=by
 intro a s σ H D I h;refine wpAny_Assign_stores (thn (n a s σ H _ I h) λv c ⟨x,d,f,i,b⟩=>?_) l m;rw[o];exact thn (j a c σ d x v _ f i b) λ_ k q=>q
def bAu {i:Nat}{x:Str}{e:Expr}{te:TE}{pos':Pos}(m:X.N.Nodup)(hi:X.N[i]?=some x)(j:Loc X.env.scope x)(p:PE X e te)(o:swapsWith e (some (.Name x pos')) pos.line X.env=pure false:=by rfl)(k:X.fn x=true\/X.env.scope.names.lookup x=some .local:=by first|exact .inl rfl|exact .inr rfl|assumption) :
  PS X (.Assign [.Name x pos'] e pos) (aBq te (cM i)):=by
 intro a s σ H D I h;refine wpAny_Assign_Name (thn (p a s σ H _ I h) λv l ⟨y,d,f,g,b⟩=>?_) o;exact aKb f m hi j g (λn c=>⟨_,d,c,b⟩) k
end
structure It where
 go:Nat->Hp->Prop
 yld:Nat->Hp->V->Hp->Prop
 stop:Nat->Hp->Prop
def tH (X:Cx)(bFT:bFR)(H:Hp)(b:Addr):Prop:=
 H b=none/\b≠X.env.locals/\b∉X.fs/\(b∈X.ex\/X.s₀.heap.objs.size<=b)/\(∀x c,X.env.cells.lookup x=some c->c≠b)/\∀p∈X.pn++bFT,p.1≠b
def Inv.aD7 (I:Inv X bFT σ H s)(a:s.heap.objs.size<=b)(f:H' b=none):tH X bFT H' b:=by
 refine⟨f,bCP (bAB I.lt a),I.nofs a,.inr (bAK I.sz a),λx c e z=>?_,λp d z=>?_⟩
 ·obtain⟨v,q⟩:=I.cell x c e;exact absurd (bAB q.lt (by rw[z];exact a)) (bBO _)
 ·exact absurd (bAB (j8 (I.pin p d).1) (by rw[z];exact a)) (bBO _)
structure Turn (P:Program)(w:World)(K:bFP)(tg:Expr)(J:It)(fp:List Addr)(it:Addr)(tn:Nat->Heap->Prop):Prop where
 mem:it∈fp
 obj:∀i h,tn i h->∀b∈fp,∃o,h.get? b=some o/\∀v,o.data≠.cell v
 keep:∀i h h',tn i h->(∀b∈fp,∀o,h.get? b=some o->h'.get? b=some o)->tn i h'
 item:∀(X:Cx),X.prog=P->X.w=w->X.K=K->X.calm=true->∀(i:Nat) (bFT:bFR) (s:Shared) (σ:St) (H:Hp) (E:bFQ),Inv X bFT σ H s->(∀b∈fp,tH X bFT H b)->tn i s.heap->J.go i H ->
  wpAny (model P w) X.A (pyNext (.ref it)) (λr s1=>∃u,r=some u /\
   wpAny (model P w) X.A (letOwnedTupleGo tg (.ref it) u) (λ_ s2=>∃x H',Inv X bFT σ H' s2/\RelV x u/\J.yld i H x H'/\tn (i+1) s2.heap/\∀b∈fp,H' b=none) E s1) E s
 done:∀(X:Cx),X.prog=P->X.w=w->X.K=K->X.calm=true->∀(i:Nat) (bFT:bFR) (s:Shared) (σ:St) (H:Hp) (E:bFQ),Inv X bFT σ H s->(∀b∈fp,tH X bFT H b)->tn i s.heap->J.stop i H ->
  wpAny (model P w) X.A (pyNext (.ref it)) (λr s1=>r=none/\Inv X bFT σ H s1) E s
 self:∀(A:Around) (i:Nat) (s:Shared) (Q:bFQ) (E:bFQ),tn i s.heap->Q (.ref it) s->wpAny (model P w) A (pyIter (.ref it)) Q E s
abbrev TI:=St->Hp->(It->Hp->Prop)->Prop
def PIE (X:Cx)(bFT:bFR)(σ:St)(tg:Expr)(R:It->Hp->Prop)(itv:Value)(s2:Shared):Prop:=
 ∃it fp tn J H',itv=.ref it/\Inv X bFT σ H' s2/\Turn X.prog X.w X.K tg J fp it tn/\tn 0 s2.heap/\(∀b∈fp,tH X bFT H' b)/\R J H'
def PI (X:Cx)(tg iter:Expr)(wi:TI):Prop:=
 ∀bFT s σ H R,Inv X bFT σ H s->wi σ H R ->
  wpAny (model X.prog X.w) X.A (eval iter X.env) (λv s1=>wpAny (model X.prog X.w) X.A (pyIter v) (PIE X bFT σ tg R) X.xe s1) X.xe s
def aE3 (d:s.heap.get? it=some o)(b:o.cls=.type n)(hd:o.data=.fields vs)
  (c:["enumerate","zip","dict_itemiterator","dict_reverseitemiterator","odict_iterator","itertools.zip_longest","itertools.pairwise"].contains n=false) (a:Q () s):wpAny M A (letOwnedTupleGo tg (.ref it) u) Q E s:=by
 unfold letOwnedTupleGo;cases tg <;> first
  |exact d7 a
  |(cases u <;> first
    |exact d7 a
    |(refine b7 (wpAny_load d ?_);rw[b,hd];show wpAny M A (if (["enumerate","zip","dict_itemiterator","dict_reverseitemiterator","odict_iterator","itertools.zip_longest","itertools.pairwise"].contains n && vs[0]? == some (rawInt _))=true then _ else _) Q E s;rw[if_neg (by intro h;rw[c,Bool.false_and] at h;cases h)];exact d7 a))
def Itl (K:bFP)(a:Addr):It:=
 ⟨λi H=>∃xs x,SqL K H a xs/\xs[i]?=some x,λi H x H'=>H'=H/\∀xs,SqL K H a xs->xs[i]?=some x,λi H=>∃xs,SqL K H a xs/\xs.length<=i⟩
def Itt (K:bFP)(a:Addr):It:=
 ⟨λi H=>∃xs x,SqT K H a xs/\xs[i]?=some x,λi H x H'=>H'=H/\∀xs,SqT K H a xs->xs[i]?=some x,λi H=>∃xs,SqT K H a xs/\xs.length<=i⟩
def Itr (lo:Int)(n:Nat):It:=⟨λi _=>i<n,λi H x H'=>H'=H/\x=.int (lo+i),λi _=>n<=i⟩
def aQ4 {P:Program}{w:World}{K:bFP}{tg:Expr}(a it:Addr):Turn P w K tg (Itl K a) [it] it (λi h=>h.IsListIter it a i) where
 mem:=by simp
 obj:=λi h f b g=>by
  have e:b=it:=by simpa using g
  subst e;obtain⟨o,e,c,d⟩:=f;exact⟨o,e,λv z=>by rw[d] at z;cases z⟩
 keep:=λi h M f k=>f.at λo e=>k it (by simp) o e
 item:=by intro X F J B N i G s σ H E I l f C;subst F J B;obtain⟨W,x,m,q⟩:=C;obtain⟨A,D,p,Q⟩:=I.list m;obtain⟨u,O,R⟩:=D.get q;obtain⟨t,r,Y,y,n,L⟩:=l it (by simp);refine wpAny_pyNext_list_item f p.isList (by simpa using O) λM j S=>?_;have V:=I.turned (t':=s.toks) (λb o g e=>(S.2 b g).trans e) t r y n L;obtain⟨o,e,c,d⟩:=id j;exact⟨u,rfl,aE3 e c d (by decide) ⟨x,H,V,R,⟨rfl,λys U=>by rw[I.aSk U m];exact q⟩,j,λb g=>(l b g).1⟩⟩
 done:=by intro X F J B N i G s σ H E I l f C;subst F J B;obtain⟨W,m,q⟩:=C;obtain⟨A,D,p,Q⟩:=I.list m;obtain⟨t,r,Y,y,n,L⟩:=l it (by simp);have Z:=D.length;exact wpAny_pyNext_list_end (I.ok.hd N) f p.isList (by simp;lia) λM T=>⟨rfl,I.turned (t':=s.toks) (λb o g e=>T b o g e) t r y n L⟩
 self:=λ_ _ _ _ _ f h=>wpAny_pyIter_listiter f h
def aMb {P:Program}{w:World}{K:bFP}{tg:Expr}(a it:Addr):Turn P w K tg (Itt K a) [it] it (λi h=>h.IsTupleIter it a i) where
 mem:=by simp
 obj:=λi h f b g=>by
  have e:b=it:=by simpa using g
  subst e;obtain⟨o,e,c,d⟩:=f;exact⟨o,e,λv z=>by rw[d] at z;cases z⟩
 keep:=λi h M f k=>f.at λo e=>k it (by simp) o e
 item:=by intro X F J B N i G s σ H E I m f C;subst F J B;obtain⟨W,x,n,r⟩:=C;obtain⟨j,D,p,Q⟩:=I.tuple n;obtain⟨u,O,R⟩:=D.get r;obtain⟨y,t,Y,A,q,L⟩:=m it (by simp);refine wpAny_pyNext_tuple_item f (show s.heap.IsTuple a j.toArray from p) (by simpa using O) λM l S=>?_;have V:=I.turned (t':=s.toks) (λb o g e=>(S.2 b g).trans e) y t A q L;obtain⟨o,e,c,d⟩:=id l;exact⟨u,rfl,aE3 e c d (by decide) ⟨x,H,V,R,⟨rfl,λys U=>by rw[I.aQw U n];exact r⟩,l,λb g=>(m b g).1⟩⟩
 done:=by intro X F J B N i G s σ H E I m f C;subst F J B;obtain⟨W,n,r⟩:=C;obtain⟨j,D,p,Q⟩:=I.tuple n;obtain⟨y,t,Y,A,q,L⟩:=m it (by simp);have Z:=D.length;exact wpAny_pyNext_tuple_end (I.ok.hd N) f (show s.heap.IsTuple a j.toArray from p) (by simp;lia) λM T=>⟨rfl,I.turned (t':=s.toks) (λb o g e=>T b o g e) y t A q L⟩
 self:=λ_ _ _ _ _ f h=>wpAny_pyIter_tupleiter f h
def aM3 {P:Program}{w:World}{K:bFP}{tg:Expr}(it:Addr)(lo:Int)(n:Nat):Turn P w K tg (Itr lo n) [it] it (λi h=>IsRangeIter h it (lo+(i:Nat) * 1) ((n:Int) - (i:Nat)) 1) where
 mem:=by simp
 obj:=λi h a b c=>by
  have e:b=it:=by simpa using c
  subst e;exact⟨_,a,λv z=>by have D:Data.fields _=Data.cell v:=z;cases D⟩
 keep:=λi h j a k=>k it (by simp) _ a
 item:=by intro X x y r B i d s σ H E I g a u;subst x y r;obtain⟨p,m,M,q,l,A⟩:=g it (by simp);have W:=Walks.range (prog:=X.prog) (w:=X.w) (I.ok.hd B) it lo 1 n;refine W.item i s _ _ u a λv j C F f J=>?_;obtain⟨t,rfl⟩:=F;have L:Inv X d σ H { s with heap:=j,toks:=C }:=I.turned (λb o c e=>J b o (by simpa using c) e) p m q l A;refine⟨_,rfl,aE3 (s:={ s with heap:=j,toks:=C }) (n:="range_iterator") f rfl rfl (by decide) ⟨.int (lo+i),H,L,⟨t,?_⟩,⟨rfl,rfl⟩,f,λb c=>(g b c).1⟩⟩;rw[Int.mul_one]
 done:=by intro X x y r B i d s σ H E I g a u;subst x y r;obtain⟨p,m,M,q,l,A⟩:=g it (by simp);exact wpAny_pyNext_range_end (I.ok.hd B) a (by have:n<=i:=u;lia) λj G=>⟨rfl,I.turned (t':=s.toks) (λb o c e=>G b o c e) p m q l A⟩
 self:=λ_ _ _ _ _ a h=>wpAny_pyIter_rangeiter a h
section
variable {X:Cx}{tg:Expr}
def aJi (K:bFP)(tl:TE):TI:=fun σ H R=>tl σ H λx H1=>∃a,x=.ref a/\(∃xs,SqL K H1 a xs)/\R (Itl K a) H1
def aXw (K:bFP)(tl:TE):TI:=fun σ H R=>tl σ H λx H1=>∃a,x=.ref a/\(∃xs,SqT K H1 a xs)/\R (Itt K a) H1
def aWw {l:Expr}{tl:TE}(w:PE X l tl):PI X tg l (aJi X.K tl):=by
 intro f s σ H R I h;refine thn (w f s σ H _ I h) λv c ⟨x,j,d,m,g⟩=>?_;obtain⟨a,e,⟨u,k⟩,q⟩:=g;subst e;cases m;obtain⟨n,r,p,t⟩:=d.list k;refine bCF p.isList ?_;refine⟨c.heap.objs.size,[c.heap.objs.size],_,_,j,rfl,d.kept (t':=c.toks) λb o e=>c7 _ e,aQ4 a _,⟨_,j0 _ rfl,rfl,rfl⟩,λb i=>?_,q⟩;have e:b=c.heap.objs.size:=by simpa using i
 subst e;exact d.aD7 (d8 _) (d.hok.fresh (d8 _))
def bBh {l:Expr}{tl:TE}(w:PE X l tl):PI X tg l (aXw X.K tl):=by
 intro f s σ H R I h;refine thn (w f s σ H _ I h) λv c ⟨x,k,d,n,i⟩=>?_;obtain⟨a,e,⟨u,m⟩,q⟩:=i;subst e;cases n;obtain⟨g,r,p,t⟩:=d.tuple m;refine bEH (show c.heap.IsTuple a g.toArray from p) ?_;refine⟨c.heap.objs.size,[c.heap.objs.size],_,_,k,rfl,d.kept (t':=c.toks) λb o e=>c7 _ e,aMb a _,⟨_,j0 _ rfl,rfl,rfl⟩,λb j=>?_,q⟩;have e:b=c.heap.objs.size:=by simpa using j
 subst e;exact d.aD7 (d8 _) (d.hok.fresh (d8 _))
def aI2 {f:bFR}{σ:St}{H:Hp}{s:Shared}{R:It->Hp->Prop}{E:bFQ}{lo hi:Int}{t u v:Tok}{tk:Nat}(I:Inv X f σ H s)(k:-(2 ^ 62)<=lo)(h:lo<2 ^ 62)(j:-(2 ^ 62)<=hi)(i:hi<2 ^ 62)
  (q:R (Itr lo (hi - lo).toNat) H):wpAny (model X.prog X.w) X.A (pyIter (.ref s.heap.objs.size)) (PIE X f σ tg R) E { s with heap:=s.heap.push { cls:=.type "range",data:=.fields #[.int lo t,.int hi u,.int 1 v] },toks:=tk }:=by
 refine wpAny_pyIter_range (IsRange.new ..) (small_one k h j i) ?_;have a:Inv X f σ H { s with heap:=s.heap.push { cls:=.type "range",data:=.fields #[.int lo t,.int hi u,.int 1 v] },toks:=tk }:=I.kept λb o e=>c7 _ e;refine⟨(s.heap.push { cls:=.type "range",data:=.fields #[.int lo t,.int hi u,.int 1 v] }).objs.size,[(s.heap.push { cls:=.type "range",data:=.fields #[.int lo t,.int hi u,.int 1 v] }).objs.size],_,_,H,rfl,
  a.kept (t':=tk) λb o e=>c7 _ e,aM3 _ lo (hi - lo).toNat,?_,λb d=>?_,q⟩
 ·have g:lo+((0:Nat):Int) * 1=lo:=by simp
  have c:(((hi - lo).toNat:Nat):Int) - ((0:Nat):Int)=Builtin.Range.rangeSize lo hi 1:=by rw[rangeSize_one];split <;> lia
  show IsRangeIter _ _ (lo+((0:Nat):Int) * 1) ((((hi - lo).toNat:Nat):Int) - ((0:Nat):Int)) 1;rw[g,c];exact j0 _ rfl
 ·have e:b=(s.heap.push { cls:=.type "range",data:=.fields #[.int lo t,.int hi u,.int 1 v] }).objs.size:=by simpa using d
  subst e;exact a.aD7 (d8 _) (a.hok.fresh (d8 _))
def aU9 (ta:TA):TI:=fun σ H R=>ta σ H λvs H1=>∃j:Int,vs=[.int j]/\-(2 ^ 62)<=j/\j<2 ^ 62/\R (Itr 0 j.toNat) H1
def aY2 (ta:TA):TI:=fun σ H R=>ta σ H λvs H1=>∃i j:Int,vs=[.int i,.int j]/\(-(2 ^ 62)<=i/\i<2 ^ 62/\-(2 ^ 62)<=j/\j<2 ^ 62)/\R (Itr i (j - i).toNat) H1
theorem aRo {a:Expr}{ta:TA}{p f:Pos}(k:Gl X "range")(m:X.mg "range"=none)(u:PA X [a] ta)(o:starEach [a] X.env=[(false,eval a X.env)]:=by rfl):PI X tg (.Call (.Name "range" p) [a] [] f) (aU9 ta):=by
 intro c s σ H R I h;refine Call_ (rG I k m boot_range (bBS (thn (u f c s σ H _ I h) λv l ⟨w,n,g,i,b⟩=>?_) o rfl));obtain⟨j,e,b,d,q⟩:=b;subst e;cases i with
 |cons r rr=>cases rr;obtain⟨t,rfl⟩:=r;exact call_range_1 (aI2 g (by lia) (by lia) b d (by simpa using q))
theorem aRe {a b:Expr}{ta:TA}{p k:Pos}(u:Gl X "range")(w:X.mg "range"=none)(A:PA X [a,b] ta)(z:starEach [a,b] X.env=[(false,eval a X.env),(false,eval b X.env)]:=by rfl)(d:starEach [b] X.env=[(false,eval b X.env)]:=by rfl) :
  PI X tg (.Call (.Name "range" p) [a,b] [] k) (aY2 ta):=by
 intro f s σ H R I h;refine Call_ (rG I u w boot_range (bBS (thn (A k f s σ H _ I h) λB v ⟨C,x,m,o,c⟩=>?_) (by rw[z,d]) (by rw[d];rfl)));obtain⟨i,j,e,⟨c,g,n,l⟩,q⟩:=c;subst e;cases o with
 |cons r rr=>
  cases rr with
  |cons r' rr=>cases rr;obtain⟨t,rfl⟩:=r;obtain⟨y,rfl⟩:=r';exact call_range_2 (aI2 m c g n l q)
def bB7 (wi:TI)(g:TG)(tb:TS):TS:=λD σ H=>wi σ H λJ H1=>∃W:Nat->Nat->St->Hp->Prop,(∃m,W 0 m σ H1)/\∀i m σ H,W i m σ H ->
 (J.stop i H/\D.nx σ H)\/(J.go i H/\∃N:St->Hp->Prop,(∀σ' H',N σ' H'->∃m',m'<m/\W (i+1) m' σ' H')/\∀x H',J.yld i H x H'->g x σ H' fun σ2 H2=>tb { D with nx:=N,ct:=N,bk:=D.nx } σ2 H2)
def yL (fp:List Addr)(h:Heap):bFR:=fp.filterMap λb=>(h.get? b).map λo=>(b,o)
def jV (a:b∈fp)(e:h.get? b=some o):(b,o)∈yL fp h:=List.mem_filterMap.mpr ⟨b,a,by rw[e];rfl⟩
theorem aRr (d:p∈yL fp h):p.1∈fp/\h.get? p.1=some p.2:=by
 obtain⟨b,a,e⟩:=List.mem_filterMap.mp d;cases q:h.get? b with
 |none=>rw[q] at e;cases e
 |some o=>rw[q] at e;have c:=bAM e;subst c;exact⟨a,q⟩
def Inv.pinned (I:Inv X bFT σ H s)(j:∀b∈fp,tH X bFT H b)(k:∀b∈fp,∃o,s.heap.get? b=some o/\∀v,o.data≠.cell v):Inv X (bFT++yL fp s.heap) σ H s:=
 I.aOc λp i=>(List.mem_append.mp i).elim (λz=>I.pin p (z9 _ z)) λz=>by obtain⟨c,e⟩:=aRr z;obtain⟨g,f,h,_⟩:=j p.1 c;obtain⟨o,a,d⟩:=k p.1 c;rw[e] at a;cases a;exact⟨e,g,f,h,d⟩
def Inv.mF (I:Inv X (bFT++pl) σ H s):Inv X bFT σ H s:=I.aOc λp a=>I.pin p (z9 _ (bBL _ a))
theorem bAj {iter:Expr}{body:List Stmt}{wi:TI}{g:TG}{tb:TS}{pos:Pos}(F:PassesOwn (model X.prog X.w) X.A X.env X.xe)(hc:X.calm=true)(hi:PI X tg iter wi)(hg:PG X tg g)(q:PSs X body tb)
  (hs:∀x,foldedSetIterable iter X.env x=pure x:=by intro _;rfl):PS X (.For tg iter body [] pos) (bB7 wi g tb):=by
 intro a s σ H D I h;refine wpAny_For (thn (hi a s σ H _ I h) λv s1 h1=>thn h1 λa0 s2 h2=>?_) hs;obtain⟨it,E,R,J,H2,e,I2,T,G,U,W,⟨m0,w0⟩,C⟩:=h2;subst e;have j:∀{H':Hp},(∀b∈E,H' b=none)->∀b∈E,tH X a H' b:=λV b q=>⟨V b q,(U b q).2⟩;refine codeAny_forLoop_any (λn P=>∃i σ' H',Inv X a σ' H' P/\R i P.heap/\(∀b∈E,H' b=none)/\W i n σ' H') ?_ m0 ⟨0,σ,H2,I2,G,λb q=>(U b q).1,w0⟩;rintro n s3 ⟨i,σ3,H3,I3,st3,fr3,w3⟩;rcases C i n σ3 H3 w3 with⟨B,qn⟩|⟨go,N,hN,step⟩
 ·refine bEE F (thn (T.done X rfl rfl rfl hc i a s3 σ3 H3 X.xe I3 (j fr3) st3 B) λr s4 ⟨K,I4⟩=>?_);subst K;exact wpAny_execs_nil ⟨σ3,H3,I4,qn⟩
 ·refine bEE F (thn (T.item X rfl rfl rfl hc i a s3 σ3 H3 X.xe I3 (j fr3) st3 go) λr s4 ⟨u,K,h4⟩=>?_);subst K;refine bEE F (thn h4 λ_ Q ⟨x,S,I5,r5,Z,y,M⟩=>?_);have O:=I5.pinned (j M) (T.obj _ _ y);refine bEE F (thn (hg _ Q σ3 S x u _ O r5 (step x S Z)) λ_ s6 ⟨σ6,H6,I6,q6⟩=>?_);refine bEE F (thn (q _ s6 σ6 H6 _ I6 q6) λf L t=>?_);have k:∀{c:St} {p:Hp},Inv X (a++yL E Q.heap) c p L->N c p->∃m,m<n/\∃i σ' H',Inv X a σ' H' L/\R i L.heap/\(∀b∈E,H' b=none)/\W i m σ' H':=λ{c p} l z=>by obtain⟨m',hm,Y⟩:=hN c p z;refine⟨m',hm,i+1,c,p,l.mF,T.keep _ _ _ y λb q o e=>(l.pin (b,o) (z9 _ (z9 _ (jV q e)))).1,λb q=>?_,Y⟩;obtain⟨o,e,d⟩:=T.obj _ _ y b q;exact (l.pin (b,o) (z9 _ (z9 _ (jV q e)))).2.1
  cases f with
  |next=>obtain⟨c,p,l,z⟩:=t;exact k l z
  |cont=>obtain⟨c,p,l,z⟩:=t;exact k l z
  |brk=>obtain⟨c,p,l,t⟩:=t;exact⟨c,p,l.mF,t⟩
  |ret v=>obtain⟨x7,c,p,l,r7,t⟩:=t;exact⟨x7,c,p,l.mF,r7,t⟩
end
def rC {K:bFP}{a:Addr}{xs:List V}{g:TG}{tb:TS}{D:Ends}{σ:St}{H:Hp}(d:Nat->St->Hp->Prop)(j:d 0 σ H)(h:∀i σ H,i<=xs.length->d i σ H->SqL K H a xs)
  (f:∀i x σ H,xs[i]?=some x->d i σ H->g x σ H fun σ2 H2=>tb { D with nx:=d (i+1),ct:=d (i+1),bk:=D.nx } σ2 H2) (hd:∀σ H,d xs.length σ H->D.nx σ H) :
  ∃W:Nat->Nat->St->Hp->Prop,(∃m,W 0 m σ H)/\∀i m σ H,W i m σ H ->
   ((Itl K a).stop i H/\D.nx σ H)\/((Itl K a).go i H/\∃N:St->Hp->Prop,(∀σ' H',N σ' H'->∃m',m'<m/\W (i+1) m' σ' H')/\∀x H',(Itl K a).yld i H x H'->g x σ H' fun σ2 H2=>tb { D with nx:=N,ct:=N,bk:=D.nx } σ2 H2):=by
 refine⟨λi m σ H=>m=xs.length - i/\i<=xs.length/\d i σ H,⟨xs.length,by simp,bAE _,j⟩,?_⟩;rintro i m σ H ⟨rfl,hi,p⟩;have q:=h i σ H hi p;by_cases b:i<xs.length
 ·refine .inr ⟨⟨xs,xs[i],q,by simp[b]⟩,d (i+1),fun σ' H' c=>⟨xs.length - (i+1),by lia,rfl,b,c⟩,λx H' y=>?_⟩;obtain⟨e,y⟩:=y;subst e;exact f i x σ _ (y xs q) p
 ·have e:i=xs.length:=by lia
  subst e;exact .inl ⟨⟨xs,q,d8 _⟩,hd σ H p⟩
def aV9 {K:bFP}{a:Addr}{xs:List V}{g:TG}{tb:TS}{D:Ends}{σ:St}{H:Hp}(d:Nat->St->Hp->Prop)(j:d 0 σ H)(h:∀i σ H,i<=xs.length->d i σ H->SqT K H a xs)
  (f:∀i x σ H,xs[i]?=some x->d i σ H->g x σ H fun σ2 H2=>tb { D with nx:=d (i+1),ct:=d (i+1),bk:=D.nx } σ2 H2) (hd:∀σ H,d xs.length σ H->D.nx σ H) :
  ∃W:Nat->Nat->St->Hp->Prop,(∃m,W 0 m σ H)/\∀i m σ H,W i m σ H ->
   ((Itt K a).stop i H/\D.nx σ H)\/((Itt K a).go i H/\∃N:St->Hp->Prop,(∀σ' H',N σ' H'->∃m',m'<m/\W (i+1) m' σ' H')/\∀x H',(Itt K a).yld i H x H'->g x σ H' fun σ2 H2=>tb { D with nx:=N,ct:=N,bk:=D.nx } σ2 H2):=by
 refine⟨λi m σ H=>m=xs.length - i/\i<=xs.length/\d i σ H,⟨xs.length,by simp,bAE _,j⟩,?_⟩;rintro i m σ H ⟨rfl,hi,p⟩;have q:=h i σ H hi p;by_cases b:i<xs.length
 ·refine .inr ⟨⟨xs,xs[i],q,by simp[b]⟩,d (i+1),fun σ' H' c=>⟨xs.length - (i+1),by lia,rfl,b,c⟩,λx H' y=>?_⟩;obtain⟨e,y⟩:=y;subst e;exact f i x σ _ (y xs q) p
 ·have e:i=xs.length:=by lia
  subst e;exact .inl ⟨⟨xs,q,d8 _⟩,hd σ H p⟩
def jU {lo:Int}{n:Nat}{g:TG}{tb:TS}{D:Ends}{σ:St}{H:Hp}(c:Nat->St->Hp->Prop)(f:c 0 σ H)
  (d:∀i σ H,i<n->c i σ H->g (.int (lo+i)) σ H fun σ2 H2=>tb { D with nx:=c (i+1),ct:=c (i+1),bk:=D.nx } σ2 H2) (hd:∀σ H,c n σ H->D.nx σ H) :
  ∃W:Nat->Nat->St->Hp->Prop,(∃m,W 0 m σ H)/\∀i m σ H,W i m σ H ->
   ((Itr lo n).stop i H/\D.nx σ H)\/((Itr lo n).go i H/\∃N:St->Hp->Prop,(∀σ' H',N σ' H'->∃m',m'<m/\W (i+1) m' σ' H')/\∀x H',(Itr lo n).yld i H x H'->g x σ H' fun σ2 H2=>tb { D with nx:=N,ct:=N,bk:=D.nx } σ2 H2):=by
 refine⟨λi m σ H=>m=n - i/\i<=n/\c i σ H,⟨n,by simp,bAE _,f⟩,?_⟩;rintro i m σ H ⟨rfl,hi,p⟩;by_cases a:i<n
 ·refine .inr ⟨a,c (i+1),fun σ' H' b=>⟨n - (i+1),by lia,rfl,a,b⟩,λx H' y=>?_⟩;obtain⟨e,y⟩:=y;subst e y;exact d i σ _ a p
 ·have e:i=n:=by lia
  subst e;exact .inl ⟨d8 _,hd σ H p⟩
abbrev R2:=V->V->Hp->VK->Prop
def OpR (X:Cx)(f:Value->Value->Sem Value)(r:R2):Prop:=
 ∀bFT s σ H x y v u Q,Inv X bFT σ H s->RelV x v->RelV y u->r x y H Q ->
  wpAny (model X.prog X.w) X.A (f v u) (EP X bFT σ Q) X.xe s
def UnR (X:Cx)(f:Value->Sem Value)(r:V->Hp->VK->Prop):Prop:=
 ∀bFT s σ H x v Q,Inv X bFT σ H s->RelV x v->r x H Q ->
  wpAny (model X.prog X.w) X.A (f v) (EP X bFT σ Q) X.xe s
def cJ (X:Cx)(f:Value)(r:List V->Hp->VK->Prop):Prop:=
 ∀bFT s σ H xs us Q,Inv X bFT σ H s->Vals xs us->r xs H Q ->
  wpAny (model X.prog X.w) X.A (call f us) (EP X bFT σ Q) X.xe s
def bD0 (X:Cx)(r:V->Hp->(Bool->Hp->Prop)->Prop):Prop:=
 ∀bFT s σ H x v Q,Inv X bFT σ H s->RelV x v->r x H Q ->
  wpAny (model X.prog X.w) X.A (truthy v) (TP X bFT σ Q) X.xe s
def tOp (r:R2)(ta tb:TE):TE:=fun σ H Q=>ta σ H λx H1=>tb σ H1 λy H2=>r x y H2 Q
def tUn (r:V->Hp->VK->Prop)(ta:TE):TE:=fun σ H Q=>ta σ H λx H1=>r x H1 Q
def rI (C:Int->Int->Prop)(g:Int->Int->V):R2:=λx y H Q=>∃i j,x=.int i/\y=.int j/\C i j/\Q (g i j) H
def rI0 (g:Int->Int->V):R2:=λx y H Q=>∃i j,x=.int i/\y=.int j/\Q (g i j) H
def rU (g:Int->V):V->Hp->VK->Prop:=λx H Q=>∃i,x=.int i/\Q (g i) H
section
variable {X:Cx}{a b c:Expr}{ta tb tc:TE}{pos:Pos}
def aVz (o:PE X a ta)(n:PE X b tb){c:bFR}{s:Shared}{σ:St}{H:Hp}{R:V->V->Hp->Prop}(I:Inv X c σ H s)
  (h:ta σ H λx H1=>tb σ H1 λy H2=>R x y H2) {Q:bFQ} {f:Value->Value->Sem Value}
  (m:∀v u s2 x y H2,Inv X c σ H2 s2->RelV x v->RelV y u->R x y H2->wpAny (model X.prog X.w) X.A (f v u) Q X.xe s2) :
  wpAny (model X.prog X.w) X.A (eval a X.env) (λv s₁=>wpAny (model X.prog X.w) X.A (eval b X.env) (λu s₂=>wpAny (model X.prog X.w) X.A (f v u) Q X.xe s₂) X.xe s₁) X.xe s:=by
 refine thn (o c s σ H _ I h) λv g ⟨x,H1,j,l,e⟩=>?_;refine thn (n c g σ H1 _ j e) λu s2 ⟨y,H2,i,k,d⟩=>?_;exact m v u s2 x y H2 i l k d
def bC5 {op:Operator}{r:R2}(l:OpR X (binaryOp op) r)(k:PE X a ta)(j:PE X b tb):PE X (.BinOp a op b pos) (tOp r ta tb):=by intro c s σ H Q I h;exact wpAny_BinOp (aVz k j I h λv u e x y f g i d q=>l c e σ f x y v u Q g i d q)
def bCi {op:UnaryOp}{r:V->Hp->VK->Prop}(j:UnR X (unaryOp op) r)(i:PE X a ta):PE X (.UnaryOp op a pos) (tUn r ta):=by intro b s σ H Q I h;exact UnaryOp_ (thn (i b s σ H _ I h) λv e ⟨x,g,c,f,d⟩=>j b e σ g x v Q c f d)
def opI {f:Value->Value->Sem Value}{C:Int->Int->Prop}{g:Int->Int->Int}
  (a:∀(i j:Int) (t u:Tok) (s:Shared) (Q:bFQ) (E:bFQ),C i j->Q (.int (g i j) s.toks) { s with toks:=s.toks+1 }->wpAny (model X.prog X.w) X.A (f (.int i t) (.int j u)) Q E s) :
  OpR X f (rI C λi j=>.int (g i j)):=by
 intro c s σ H x y v u Q I e b h;obtain⟨i,j,rfl,rfl,k,q⟩:=h;obtain⟨t,rfl⟩:=e;obtain⟨d,rfl⟩:=b;exact a i j t d s _ _ k ⟨.int (g i j),H,I.tok _,⟨_,rfl⟩,q⟩
def bC2 {f:Value->Value->Sem Value}{g:Int->Int->Int}
  (a:∀(i j:Int) (t u:Tok) (s:Shared) (Q:bFQ) (E:bFQ),Q (.int (g i j) s.toks) { s with toks:=s.toks+1 }->wpAny (model X.prog X.w) X.A (f (.int i t) (.int j u)) Q E s) :
  OpR X f (rI0 λi j=>.int (g i j)):=by
 intro c s σ H x y v u Q I e b h;obtain⟨i,j,rfl,rfl,q⟩:=h;obtain⟨t,rfl⟩:=e;obtain⟨d,rfl⟩:=b;exact a i j t d s _ _ ⟨.int (g i j),H,I.tok _,⟨_,rfl⟩,q⟩
def aV4 {f:Value->Value->Sem Value}{g:Int->Int->Bool}
  (a:∀(i j:Int) (t u:Tok) (s:Shared) (Q:bFQ) (E:bFQ),Q (.bool (g i j)) s->wpAny (model X.prog X.w) X.A (f (.int i t) (.int j u)) Q E s) :
  OpR X f (rI0 λi j=>.bl (g i j)):=by
 intro c s σ H x y v u Q I e b h;obtain⟨i,j,rfl,rfl,q⟩:=h;obtain⟨t,rfl⟩:=e;obtain⟨d,rfl⟩:=b;exact a i j t d s _ _ ⟨.bl (g i j),H,I,rfl,q⟩
def bD4 (i j:Int):Prop:=0<j/\j<1073741824
def bDw (i j:Int):Prop:=0<=j/\j<=1000000/\i.natAbs<2 ^ 64
def bAy (i j:Int):Prop:=(-(2 ^ 64)<i/\i<2 ^ 64)\/(-(2 ^ 64)<j/\j<2 ^ 64)
def bAy.ok (h:bAy i j):IntMulOk i j:=by
 rcases h with⟨b,a⟩|⟨b,a⟩
 ·exact .of_left (intBits_le_64 b a)
 ·exact .of_right (intBits_le_64 b a)
def eE:OpR X (binaryOp .Add) (rI0 λi j=>.int (i+j)):=bC2 λ_ _ _ _ _ _ _ q=>add_int q
def aHw:OpR X (binaryOp .Sub) (rI0 λi j=>.int (i - j)):=bC2 λ_ _ _ _ _ _ _ q=>sub_int q
def xY:OpR X (binaryOp .Mult) (rI bAy λi j=>.int (i * j)):=opI λ_ _ _ _ _ _ _ a q=>mul_int q a.ok
def aWt:OpR X (binaryOp .FloorDiv) (rI bD4 λi j=>.int (i / j)):=opI λi j _ _ _ _ _ a q=>by have c:=a.1;have b:=a.2;exact floordiv_int (by lia) (by rw[Int.fdiv_eq_ediv_of_nonneg i (by lia)];exact q) (.inl (PyProof.noPylong_small (by lia)))
def oO:OpR X (binaryOp .Mod) (rI (λ_ j=>0<j) λi j=>.int (i % j)):=opI λi j _ _ _ _ _ a q=>by have b:=a;exact mod_int' (by lia) (by rw[Int.fmod_eq_emod_of_nonneg i (by lia)];exact q)
def aHy:OpR X (binaryOp .Pow) (rI bDw λi j=>.int (i ^ j.toNat)):=opI λ_ _ _ _ _ _ _ a q=>pow_int_small a.1 a.2.1 a.2.2 q
def unI {f:Value->Sem Value}{g:Int->Int}
  (a:∀(i:Int) (t:Tok) (s:Shared) (Q:bFQ) (E:bFQ),Q (.int (g i) s.toks) { s with toks:=s.toks+1 }->wpAny (model X.prog X.w) X.A (f (.int i t)) Q E s) :
  UnR X f (rU λi=>.int (g i)):=by
 intro c s σ H x v Q I b h;obtain⟨i,rfl,q⟩:=h;obtain⟨t,rfl⟩:=b;exact a i t s _ _ ⟨.int (g i),H,I.tok _,⟨_,rfl⟩,q⟩
def aZb:UnR X (unaryOp .USub) (rU λi=>.int (-i)):=unI λ_ _ _ _ _ q=>neg_int q
end
def scal:V->V->Bool
 |.non,.non=>true|.non,.int _=>true|.int _,.non=>true|.non,.bl _=>true|.bl _,.non=>true|.non,.str _=>true|.str _,.non=>true
 |.int _,.int _=>true|.bl _,.bl _=>true|.str _,.str _=>true|.byt _,.byt _=>true
 |.int _,.str _=>true|.str _,.int _=>true|.bl _,.str _=>true|.str _,.bl _=>true
 |_,_=>false
def rEq:R2:=λx y H Q=>scal x y=true/\Q (.bl (decide (x=y))) H
def rNe:R2:=λx y H Q=>scal x y=true/\Q (.bl (!decide (x=y))) H
def aOz:decide (V.int i=V.int j)=(i == j):=by rw[bCU];simp
def aTt:decide (V.bl i=V.bl j)=(i == j):=by rw[bCU];simp
def aOp:decide (V.str i=V.str j)=(i == j):=by rw[bCU];simp
def aOe:decide (V.byt i=V.byt j)=(i.toList == j.toList):=by rw[bCU];cases i;cases j;simp
section
variable {X:Cx}{a b c:Expr}{ta tb tc:TE}{pos:Pos}
def cF (I:Inv X bFT σ H s)(q:Q (.bl k) H)(e:k=k'):EP X bFT σ Q (.bool k') s:=by subst e;exact⟨.bl k,H,I,rfl,q⟩
theorem gO:OpR X (compareOp .Eq) rEq:=by
 intro e s σ H x y v u Q I d a h;obtain⟨c,q⟩:=h;cases x with
 |non=>
  cases d;cases y with
  |non=>cases a;exact PySem.EqNone.eq_none_none (cF I q (by simp))
  |bl j=>cases a;exact PySem.EqNone.eq_none_bool (cF I q (by simp))
  |int j=>obtain⟨b,rfl⟩:=a;exact PySem.EqNone.eq_none_int (cF I q (by simp))
  |str j=>obtain⟨b,rfl⟩:=a;exact PySem.EqNone.eq_none_str (cF I q (by simp))
  |_=>exact absurd (show false=true from c) v6
 |bl i=>
  cases d;cases y with
  |non=>cases a;exact PySem.EqNone.eq_bool_none (cF I q (by simp))
  |bl j=>cases a;exact eq_bool (cF I q aTt)
  |str j=>obtain⟨b,rfl⟩:=a;exact PySem.EqMixed.eq_bool_str (cF I q (by simp))
  |_=>exact absurd (show false=true from c) v6
 |int i=>
  obtain⟨t,rfl⟩:=d;cases y with
  |non=>cases a;exact PySem.EqNone.eq_int_none (cF I q (by simp))
  |int j=>obtain⟨b,rfl⟩:=a;exact eq_int (cF I q aOz)
  |str j=>obtain⟨b,rfl⟩:=a;exact PySem.EqMixed.eq_int_str (cF I q (by simp))
  |_=>exact absurd (show false=true from c) v6
 |str i=>
  obtain⟨t,rfl⟩:=d;cases y with
  |non=>cases a;exact PySem.EqNone.eq_str_none (cF I q (by simp))
  |bl j=>cases a;exact PySem.EqMixed.eq_str_bool (cF I q (by simp))
  |int j=>obtain⟨b,rfl⟩:=a;exact PySem.EqMixed.eq_str_int (cF I q (by simp))
  |str j=>obtain⟨b,rfl⟩:=a;exact eq_str (cF I q aOp)
  |_=>exact absurd (show false=true from c) v6
 |byt i=>
  obtain⟨t,rfl⟩:=d;cases y with
  |byt j=>obtain⟨b,rfl⟩:=a;exact PySem.W.eq_bytes (cF I q aOe)
  |_=>exact absurd (show false=true from c) v6
 |_=>cases y <;> exact absurd (show false=true from c) v6
theorem aEq:OpR X (compareOp .NotEq) rNe:=by
 intro e s σ H x y v u Q I d a h;obtain⟨c,q⟩:=h;cases x with
 |non=>
  cases d;cases y with
  |non=>cases a;exact PySem.EqNone.ne_none_none (cF I q (by simp))
  |bl j=>cases a;exact PySem.EqNone.ne_none_bool (cF I q (by simp))
  |int j=>obtain⟨b,rfl⟩:=a;exact PySem.EqNone.ne_none_int (cF I q (by simp))
  |str j=>obtain⟨b,rfl⟩:=a;exact PySem.EqNone.ne_none_str (cF I q (by simp))
  |_=>exact absurd (show false=true from c) v6
 |bl i=>
  cases d;cases y with
  |non=>cases a;exact PySem.EqNone.ne_bool_none (cF I q (by simp))
  |bl j=>cases a;exact ne_bool (cF I q (congrArg not aTt))
  |str j=>obtain⟨b,rfl⟩:=a;exact PySem.EqMixed.ne_bool_str (cF I q (by simp))
  |_=>exact absurd (show false=true from c) v6
 |int i=>
  obtain⟨t,rfl⟩:=d;cases y with
  |non=>cases a;exact PySem.EqNone.ne_int_none (cF I q (by simp))
  |int j=>obtain⟨b,rfl⟩:=a;exact ne_int (cF I q (congrArg not aOz))
  |str j=>obtain⟨b,rfl⟩:=a;exact PySem.EqMixed.ne_int_str (cF I q (by simp))
  |_=>exact absurd (show false=true from c) v6
 |str i=>
  obtain⟨t,rfl⟩:=d;cases y with
  |non=>cases a;exact PySem.EqNone.ne_str_none (cF I q (by simp))
  |bl j=>cases a;exact PySem.EqMixed.ne_str_bool (cF I q (by simp))
  |int j=>obtain⟨b,rfl⟩:=a;exact PySem.EqMixed.ne_str_int (cF I q (by simp))
  |str j=>obtain⟨b,rfl⟩:=a;exact ne_str (cF I q (congrArg not aOp))
  |_=>exact absurd (show false=true from c) v6
 |byt i=>
  obtain⟨t,rfl⟩:=d;cases y with
  |byt j=>obtain⟨b,rfl⟩:=a;exact PySem.W.ne_bytes (cF I q (congrArg not aOe))
  |_=>exact absurd (show false=true from c) v6
 |_=>cases y <;> exact absurd (show false=true from c) v6
def aUl:OpR X (compareOp .Lt) (rI0 λi j=>.bl (decide (i<j))):=aV4 λ_ _ _ _ _ _ _ q=>lt_int q
def aCc:OpR X (compareOp .LtE) (rI0 λi j=>.bl (decide (i<=j))):=aV4 λ_ _ _ _ _ _ _ q=>le_int q
def aYj:OpR X (compareOp .Gt) (rI0 λi j=>.bl (decide (j<i))):=aV4 λ_ _ _ _ _ _ _ q=>gt_int q
def bC3:OpR X (compareOp .GtE) (rI0 λi j=>.bl (decide (j<=i))):=aV4 λ_ _ _ _ _ _ _ q=>ge_int q
def aQ1:OpR X (compareOp .In) (λx y H Q=>∃i j,x=.str i/\y=.str j/\Q (.bl (!(Builtin.Str.occurrences j i 0 j.length 1).isEmpty)) H):=by intro b s σ H x y v u Q I c a h;obtain⟨i,j,rfl,rfl,q⟩:=h;obtain⟨t,rfl⟩:=c;obtain⟨d,rfl⟩:=a;exact in_str (cF I q rfl)
def bBb:OpR X (compareOp .Is) (λx y H Q=>y=.non/\Q (.bl (decide (x=.non))) H):=by
 intro c s σ H x y v u Q I a b h;obtain⟨rfl,q⟩:=h;cases b;refine is_none_gen (cF I q ?_);cases x <;> first
  |(cases a;rfl)
  |(obtain⟨t,rfl⟩:=a;rfl)
def aN9:OpR X (compareOp .IsNot) (λx y H Q=>y=.non/\Q (.bl (!decide (x=.non))) H):=by
 intro c s σ H x y v u Q I a b h;obtain⟨rfl,q⟩:=h;cases b;refine isnot_none_gen (cF I q ?_);cases x <;> first
  |(cases a;rfl)
  |(obtain⟨t,rfl⟩:=a;rfl)
def OpR.or (h:OpR X f r)(h':OpR X f r'):OpR X f (λx y H Q=>r x y H Q\/r' x y H Q):=by
 intro a s σ H x y v u Q I c b q;rcases q with q|q
 ·exact h a s σ H x y v u Q I c b q
 ·exact h' a s σ H x y v u Q I c b q
def bL (b:Expr)(h:op≠.In:=by decide)(d:op≠.NotIn:=by decide):behindInMarks op b=false:=by
 have a:(op == CmpOp.In)=false:=by cases op <;> first|rfl|exact absurd rfl h
 have c:(op == CmpOp.NotIn)=false:=by cases op <;> first|rfl|exact absurd rfl d
 cases b <;> simp[behindInMarks,a,c]
def aVv (m:OpR X (compareOp op) r)(l:PE X a ta)(j:PE X b tb)(k:behindInMarks op b=false):PE X (.Compare a [op] [b] pos) (tOp r ta tb):=by intro c s σ H Q I h;exact wpAny_Compare1 (aVz l j I h λv u e x y f g i d q=>m c e σ f x y v u Q g i d q) k
def aPm (t:TE):TT:=fun σ H Q=>t σ H λx H'=>∃k,x=.bl k/\Q k H'
def aV7 {op:CmpOp}{r:R2}(G:OpR X (compareOp op) r)(F:PE X a ta)(C:PE X b tb)(E:behindInMarks op b=false):PT X (.Compare a [op] [b] pos) (aPm (tOp r ta tb)):=by
 intro d s σ H Q I h;refine wpAny_isTrue_Compare1 (thn (F d s σ H _ I h) λv i ⟨x,p,q,B,g⟩=>thn (C d i σ p _ q g) λu j ⟨y,l,m,A,f⟩=>
  thn (G d j σ l x y v u _ m B A f) λc D ⟨z,w,n,o,k,e,t⟩=>?_) E
 subst e;cases o;exact bBH ⟨w,n,t⟩
def aGg (r r':R2)(ta tb tc:TE):TE:=fun σ H Q=>ta σ H λx H1=>tb σ H1 λy H2=>r x y H2 λz H3=>∃k,z=.bl k /\
 (if k=true then tc σ H3 λw' H4=>r' y w' H4 Q else Q (.bl false) H3)
theorem aUi {op op':CmpOp}{r r':R2}(R:OpR X (compareOp op) r)(B:OpR X (compareOp op') r')(P:PE X a ta)(O:PE X b tb)(T:PE X c tc)
  (S:lastMarks [op,op'] [b,c]=false:=by with_unfolding_all rfl):PE X (.Compare a [op,op'] [b,c] pos) (aGg r r' ta tb tc):=by
 intro f s σ H Q I h;refine Compare_chain (thn (P f s σ H _ I h) λv p ⟨x,w,L,M,E⟩=>chain_link (thn (O f p σ w _ L E) λu q ⟨y,J,K,j,D⟩=>
  thn (R f q σ J x y v u _ K M j D) λd A ⟨z,l,g,t,k,e,i⟩=>?_)) S
 subst e;cases t;refine bBH ?_;cases k with
 |false=>exact ite_ff ⟨.bl false,l,g,rfl,i⟩
 |true=>exact ite_tt (chain_last (thn (T f A σ l _ g i) λC m ⟨n,N,G,o,F⟩=>B f m σ N y n u C Q G j o F))
theorem aR9 {op op':CmpOp}{r r':R2}(ho:OpR X (compareOp op) r)(E:OpR X (compareOp op') r')(Y:PE X a ta)(W:PE X b tb)(hc:PE X c tc)
  (hm:lastMarks [op,op'] [b,c]=false:=by with_unfolding_all rfl):PT X (.Compare a [op,op'] [b,c] pos) (aPm (aGg r r' ta tb tc)):=by
 intro f s σ H Q I h;refine isTrue_chain (thn (Y f s σ H _ I h) λv p ⟨x,A,P,U,K⟩=>test_link (thn (W f p σ A _ P K) λu q ⟨y,N,O,j,J⟩=>
  thn (ho f q σ N x y v u _ O U j J) λd B ⟨z,l,g,w,k,e,i⟩=>?_)) hm
 subst e;cases w;refine bBH ?_;cases k with
 |false=>obtain⟨k',G,t⟩:=i;cases G;exact ite_ff ⟨l,g,t⟩
 |true=>refine ite_tt (test_last (thn (hc f B σ l _ g i) λF m ⟨n,V,M,o,L⟩=>thn (E f m σ V y n u F _ M j o L) λd' Z ⟨z2,S,R,T,k2,C,D⟩=>?_));subst C;cases T;exact bBH ⟨S,R,D⟩
def aZr (K:bFP)(x:V)(H:Hp)(k:Bool):Prop:=
 match x with
 |.non=>k=false
 |.bl b=>k=b
 |.int i=>k=(i != 0)
 |.str y=>y.length<=sizeLine/\k=((y.length:Int) != 0)
 |.byt y=>y.size<=sizeLine/\k=((y.size:Int) != 0)
 |.ref p=>(∃xs,SqL K H p xs/\k=!xs.isEmpty)\/(∃xs,SqT K H p xs/\k=!xs.isEmpty)\/∃kvs,H p=some (.dK kvs)/\k=!kvs.isEmpty
 |_=>False
def aLw {κ:Type}{kvs:List (κ × V)}{vs:List (κ × Value)}(r:KV kvs vs):(!vs.isEmpty)=!kvs.isEmpty:=by cases r <;> rfl
def aCa (r:Vals xs its):(!its.toArray.isEmpty)=!xs.isEmpty:=by cases r <;> simp
def xX:(sizeLine:Nat)<2 ^ 63:=by rw[sizeLine_eq];decide
theorem aZ0:bD0 X (λx H Q=>∃k,aZr X.K x H k/\Q k H):=by
 intro u s σ H x v Q I f h;obtain⟨k,e,q⟩:=h;have C:=xX;have B:sizeLine=16777216:=sizeLine_eq;cases x with
 |non=>cases f;have a:k=false:=e;subst a;exact truthy_none ⟨H,I,q⟩
 |bl b=>cases f;have a:k=b:=e;subst a;exact bBH ⟨H,I,q⟩
 |int i=>obtain⟨t,rfl⟩:=f;have a:k=(i != 0):=e;subst a;exact PySem.P.truthy_int ⟨H,I,q⟩
 |str y=>obtain⟨t,rfl⟩:=f;obtain⟨z,a⟩:y.length<=sizeLine/\k=((y.length:Int) != 0):=e;subst a;exact PySem.P.truthy_str (by lia) ⟨H,I.tok _,q⟩
 |byt y=>obtain⟨t,rfl⟩:=f;obtain⟨z,a⟩:y.size<=sizeLine/\k=((y.size:Int) != 0):=e;subst a;exact PySem.W.truthy_bytes (by lia) ⟨H,I.tok _,q⟩
 |ref p=>
  cases f;have a:(∃d,SqL X.K H p d/\k=!d.isEmpty)\/(∃d,SqT X.K H p d/\k=!d.isEmpty)\/∃kvs,H p=some (.dK kvs)/\k=!kvs.isEmpty:=e;rcases a with⟨d,g,a⟩|⟨d,g,a⟩|⟨kvs,g,a⟩
  ·subst a;obtain⟨l,r,n,o⟩:=I.list g;have c:=r.length;exact wpAny_truthy_list n.isList (by simp only[d9];lia) ⟨H,I.tok _,by rw[aCa r];exact q⟩
  ·subst a;obtain⟨l,r,n,o⟩:=I.tuple g;have c:=r.length;exact truthy_tuple n (by simp only[d9];lia) ⟨H,I.tok _,by rw[aCa r];exact q⟩
  ·subst a;obtain⟨o,A,j,r,m⟩:kvs.length<=sizeLine/\(p == sysModules)=false/\∃j,KV kvs j/\s.heap.DictOf (bK X.prog X.w) p j:=I.hok p _ g;have c:kvs.length=j.length:=Paired.length r;exact wpAny_truthy_dict A m (by lia) ⟨H,I.tok _,by rw[aLw r];exact q⟩
 |_=>exact (show False from e).elim
def aU6 (i:PE X a ta)(j:∀whole,isTrue a X.env whole=(do let v <-whole;standAt a.pos;holding [v] (truthy v))) :
  PT X a (fun σ H Q=>ta σ H λx H'=>∃k,aZr X.K x H' k/\Q k H'):=by
 intro b s σ H Q I h;exact isTrue_plain (thn (i b s σ H _ I h) λv e ⟨x,g,c,f,d⟩=>aZ0 b e σ g x v Q c f d) (j _)
def pO:OpR X (binaryOp .Add) (λx y H Q=>∃i j,x=.str i/\y=.str j/\i.length+j.length<=sizeLine/\Q (.str (i++j)) H):=by intro c s σ H x y v u Q I e a h;obtain⟨i,j,rfl,rfl,b,q⟩:=h;obtain⟨t,rfl⟩:=e;obtain⟨d,rfl⟩:=a;exact add_str (λd f=>⟨.str (i++j),H,I.tok _,⟨_,rfl⟩,q⟩) b
def aJv (b:Expr):Prop:=∀o i,subscripted b false o i=operate [o,i] (getItem o i)
def aIp (D:PE X a ta)(A:PE X b tb)(C:aJv b) :
  PE X (.Subscript a b pos) (tOp (λx y H Q=>∃z i c,x=.str z/\y=.int i/\0<=i/\i<2 ^ 63/\i<z.length/\z.cps[i.toNat]?=some c/\Q (.str ⟨#[c]⟩) H) ta tb):=by
 intro g s σ H Q I h;refine Subscript_ (aVz D A I h λv u f x y j k n d q=>?_);obtain⟨z,i,c,rfl,rfl,m,r,w,o,q⟩:=q;obtain⟨t,rfl⟩:=n;obtain⟨B,rfl⟩:=d;have e:seqIndex? i z.length=some i.toNat:=PySem.StrLaws.seqIndex_nonneg m w;exact tail_any (typeIs_str f z t) slot_str_getitem.lookup (getItem_str (c:=c) (by have p:decide (i < -(2 ^ 63:Int))=false:=v9 (by lia);have l:decide (i ≥ 2 ^ 63)=false:=v9 (by lia);rw[p,l] <;> rfl) (by rw[e];exact o) ⟨.str ⟨#[c]⟩,j,k.tok _,⟨_,rfl⟩,q⟩) (C _ _)
theorem vals1 (r:Vals [x] us):∃u,us=[u]/\RelV x u:=by
 cases r with
 |cons r1 r2=>cases r2;exact⟨_,rfl,r1⟩
theorem vals2 (r:Vals [x,y] us):∃u w',us=[u,w']/\RelV x u/\RelV y w':=by
 cases r with
 |cons r1 r2=>
  cases r2 with
  |cons r3 r4=>cases r4;exact⟨_,_,rfl,r1,r3⟩
def aRt (l:X.calm=true):cJ X (.builtin "max") (λxs H Q=>∃i j,xs=[.int i,.int j]/\Q (.int (if j > i then j else i)) H):=by
 intro b s σ H xs g Q I r h;obtain⟨i,j,rfl,q⟩:=h;obtain⟨u,c,rfl,⟨t,rfl⟩,⟨f,rfl⟩⟩:=vals2 r;refine max_two_ints (I.ok.hd l) λe d k=>⟨_,H,I.kept k,?_,q⟩;by_cases a:j > i
 ·rw[if_pos a,if_pos a];exact⟨_,rfl⟩
 ·rw[if_neg a,if_neg a];exact⟨_,rfl⟩
def aFg:cJ X (.type "int") (λxs H Q=>(∃i,xs=[.int i]/\Q (.int i) H)\/∃k,xs=[.bl k]/\Q (.int (if k then 1 else 0)) H):=by
 intro a s σ H xs c Q I r h;rcases h with⟨i,rfl,q⟩|⟨k,rfl,q⟩
 ·obtain⟨u,rfl,t,rfl⟩:=vals1 r;exact call_int_int ⟨.int i,H,I,⟨_,rfl⟩,q⟩
 ·obtain⟨u,rfl,b⟩:=vals1 r;cases b;exact call_int_bool ⟨.int (if k then 1 else 0),H,I.tok _,⟨_,rfl⟩,q⟩
end
structure aN6 (h:Heap)(x dx C:Addr)(mA:bFS):Prop where
 obj:h.get? x=some (PySem.W.instObj C dx)
 ns:h.Ns1 dx mA
 ne:dx≠x
def aQo {h:Heap}{dx:Addr}{mA:bFS}(n:h.Ns1 dx mA):∃od,h.get? dx=some od/\∀name,PySem.W.lookIn name od=some (mA name):=by
 obtain⟨o,c,k,f,hd,d,_,i⟩:=n;refine⟨o,f,λname=>?_⟩;have e:=i name;unfold nsFind findBy at e;rw[<-Array.find?_toList] at e;unfold PySem.W.lookIn;rw[hd];dsimp only
 split
 ·rename_i y q;rw[q] at e;exact congrArg some e
 ·rename_i q;rw[q] at e;have a:c.toList.any (·.refKey)=false:=by rw[List.any_eq_false];intro y j;obtain⟨z,t,b⟩:=d y (Array.mem_toList_iff.mp j);simp[DictEntry.refKey,b]
  have g:¬ c.toList.any (·.refKey)=true:=by rw[a];exact v6
  rw[if_neg g];exact congrArg some e
def aN6.look (I:aN6 h x dx C mA):∃od,PySem.W.InstAt h x (PySem.W.instObj C dx) C (some od)/\∀name,PySem.W.lookIn name od=some (mA name):=
 let ⟨od,ho,hl⟩:=aQo I.ns
 ⟨od,⟨I.obj,rfl,rfl,ho⟩,hl⟩
section
variable {prog:Program}{w:World}{A:Around}{E:bFQ}{s:Shared}{K:bFP}{x dx C f:Addr}{mA:bFS}{name:Str}{v:Value}
def aWn (X:K.In s.heap)(I:aN6 s.heap x dx C mA)(c:PySem.W.plainGet K C name=true)(g:PySem.W.hasDictIn K C=true)
  (d:PySem.W.findIn K (.ref C) name=some none) (f:mA name=some v) (a:PySem.W.handedIn v=true) (h:Q v { s with toks:=s.toks+1 }) :
  wpAny (model prog w) A (getAttr (.ref x) name expr) Q E s:=by
 obtain⟨e,J,b⟩:=I.look;exact PySem.W.get_value X J (PySem.W.plainGet_of c).1 (PySem.W.findObj_own g d rfl (by rw[b,f])) a h
def aUj (X:K.In s.heap)(I:aN6 s.heap x dx C mA)(a:PySem.W.plainGet K C name=true)
  (d:PySem.W.findIn K (.ref C) name=some (some (.ref f))) (e:PySem.W.isFn K (.ref f)=true) (g:mA name=none) (h:Q (.ref f,[.ref x]) s) :
  wpAny (model prog w) A (getMethod (.ref x) name pl) Q E s:=by
 obtain⟨c,J,b⟩:=I.look;exact PySem.W.method_fn X J (PySem.W.plainGet_of a).1 (PySem.W.plainGet_of a).2 d (beq_iff_eq.mp e) (by show (PySem.W.lookIn name c).map (·.isSome)=some false;rw[b,g];rfl) h
def aWc (X:K.In s.heap)(I:aN6 s.heap x dx C mA)
  (p:PySem.W.findIn K (.ref C) "__setattr__"=some (some (.builtin "object.__setattr__"))) (z:PySem.W.plainOver K C=true) (t:PySem.W.takerIn K C name=some none) (n:PySem.W.hasDictIn K C=true)
  (q:PySem.Within mA ns) (hsz:ns.length<=sizeLine)
  (h:∀h',aN6 h' x dx C (λy=>if y=name then some v else mA y)->Heap.SameBut dx s.heap h'->Q () { s with heap:=h',toks:=s.toks+2 }) :
  wpAny (model prog w) A (setAttr (.ref x) name v) Q E s:=by
 obtain⟨u,J,r⟩:=I.look;refine PySem.W.set_plain X J p (PySem.W.osa_open X J z t λb=>?_);obtain⟨o,l,d⟩:=PySem.W.any_some n;have j:=I.obj;refine b7 (d7 (b7 (b7 (wpAny_loadPart j (b7 (PySem.W.Looks.here (PySem.W.looks_clsIn X l) ?_))))));rw[d];refine d7 (b7 (d7 (b7 ?_)));refine wpAny_nsSet1 I.ns λh' c a=>?_;obtain⟨m,i,k,e,f,g⟩:=c.count (PySem.Within.cons name v q);refine b7 (wpAny_lookBehind e (by rw[f];exact pastItsLine_dict (bAK g (by rw[t8];lia))) ?_);exact d7 (h _ ⟨(a.2 _ (Ne.symm I.ne)).trans I.obj,c,I.ne⟩ a)
def aR1 (X:K.In s.heap)(c:PySem.W.makesIn K C=true)
  (hi:PySem.W.findIn K (.ref C) "__init__"=some (some (.ref f))) (b:PySem.W.typeIn K (.ref f)=some (.type "function"))
  (h:codeAny (model prog w) (A.under (.builtin "type.__call__" ⟨.ref C::vs,kw⟩)) (.call (.ref f) ⟨.ref (s.heap.objs.size+1)::vs,kw⟩) (PySem.W.InitBack (s.heap.objs.size+1) R)
   { s with heap:=(s.heap.push PySem.W.emptyDict).push (PySem.W.instObj C s.heap.objs.size) }) :
  codeAny (model prog w) A (.call (.ref C) ⟨vs,kw⟩) R s:=by
 obtain⟨e,g,d,t,i⟩:=s;exact PySem.W.make_core (PySem.W.makes_of X c) (PySem.W.looks_findIn X hi) (λa=>PySem.W.bind_fn X a b) (.inl rfl) h
end
def jM (f:Str)(v:V):List (Str × V)->List (Str × V)
 |[]=>[(f,v)]
 |(g,x)::r=>if g=f then (g,v)::r else (g,x)::jM f v r
theorem zN (f g:Str)(v:V):∀fs:List (Str × V),(jM f v fs).lookup g=if g=f then some v else fs.lookup g
 |[]=>by
  show List.lookup g [(f,v)]=_;by_cases h:g=f
  ·have a:(g == f)=true:=beq_iff_eq.mpr h;simp only[List.lookup,a,if_pos h]
  ·have a:=beq_eq_false_iff_ne.mpr h;simp only[List.lookup,a,if_neg h]
 |(k,x)::r=>by
  have c:=zN f g v r;rw[show jM f v ((k,x)::r)=(if k=f then (k,v)::r else (k,x)::jM f v r) from rfl];by_cases b:k=f
  ·rw[if_pos b];by_cases h:g=k
   ·have a:=beq_iff_eq.mpr h;simp only[List.lookup,a,if_pos (h.trans b)]
   ·have a:=beq_eq_false_iff_ne.mpr h;simp only[List.lookup,a,if_neg (λe:g=f=>h (e.trans b.symm))]
  ·rw[if_neg b];by_cases h:g=k
   ·have a:=beq_iff_eq.mpr h;simp only[List.lookup,a,if_neg (λe:g=f=>b (h.symm.trans e))]
   ·have a:=beq_eq_false_iff_ne.mpr h;simp only[List.lookup,a];exact c
theorem yJ (f:Str)(v:V):∀fs:List (Str × V),f∈(jM f v fs).map (·.1)/\∀g,g∈fs.map (·.1)->g∈(jM f v fs).map (·.1)
 |[]=>⟨by simp[jM],λg h=>by simp at h⟩
 |(k,x)::r=>by
  obtain⟨b,c⟩:=yJ f v r;rw[show jM f v ((k,x)::r)=(if k=f then (k,v)::r else (k,x)::jM f v r) from rfl];by_cases a:k=f
  ·rw[if_pos a];subst a;exact⟨by simp,λg h=>by simpa using h⟩
  ·rw[if_neg a];refine⟨?_,λg h=>?_⟩
   ·rw[bAC];exact j5 _ b
   ·rw[bAC] at h ⊢;rcases List.mem_cons.mp h with e|e
    ·exact List.mem_cons.mpr (.inl e)
    ·exact j5 _ (c g e)
theorem zP (f:Str)(v:V):∀fs:List (Str × V),(jM f v fs).length<=fs.length+1
 |[]=>by simp[jM]
 |(k,x)::r=>by
  have b:=zP f v r;rw[show jM f v ((k,x)::r)=(if k=f then (k,v)::r else (k,x)::jM f v r) from rfl];by_cases a:k=f
  ·rw[if_pos a,t8,t8];lia
  ·rw[if_neg a,t8,t8];lia
theorem oW.some_of (r:oW (some v) o):∃u,o=some u/\RelV v u:=by
 cases o with
 |none=>exact (show False from r).elim
 |some u=>exact⟨u,rfl,r⟩
theorem oW.none_of (r:oW none o):o=none:=by
 cases o with
 |none=>rfl
 |some u=>exact (show False from r).elim
theorem aQb (r:RelV v u):PySem.W.handedIn u=true:=by
 cases v with
 |non=>cases (show u=Value.none from r);rfl
 |bl b=>cases (show u=Value.bool b from r);rfl
 |int i=>obtain⟨t,e⟩:=(show ∃t,u=Value.int i t from r);cases e;rfl
 |str x=>obtain⟨t,e⟩:=(show ∃t,u=Value.str x t from r);cases e;rfl
 |byt b=>obtain⟨t,e⟩:=(show ∃t,u=Value.bytes b t from r);cases e;rfl
 |flt b=>obtain⟨t,e⟩:=(show ∃t,u=Value.float b t from r);cases e;rfl
 |ref a=>cases (show u=Value.ref a from r);rfl
 |ty n=>cases (show u=Value.type n from r);rfl
section
variable {P:Program}{w:World}{H H':Hp}{h h':Heap}{a C dx:Addr}{fs fs':List (Str × V)}
def aF7 (b:HOk P w H h)(e:H a=some (.ins C dx fs)):∃mA,aN6 h a dx C mA/\(∀f,oW (fs.lookup f) (mA f))/\PySem.Within mA (fs.map (·.1))/\fs.length<=1000/\H dx=some (.own a):=by obtain⟨d,z,g,c,mA,n,r,q⟩:=(show dN P w H h a (.ins C dx fs) from b a _ e);exact⟨mA,⟨c,n,g⟩,r,q,z,d⟩
end
structure Cls (K:bFP)(C:Addr):Prop where
 pg:PySem.W.plainGet K C Str.empty=true
 hd:PySem.W.hasDictIn K C=true
 po:PySem.W.plainOver K C=true
 sa:PySem.W.findIn K (.ref C) "__setattr__"=some (some (.builtin "object.__setattr__"))
def Cls.get {K:bFP}{C:Addr}(c:Cls K C)(f:Str):PySem.W.plainGet K C f=true:=c.pg
def bR (K:bFP)(C:Addr)(f:Str):Prop:=PySem.W.findIn K (.ref C) f=some none
def bR.taker {K:bFP}{C:Addr}{f:Str}(n:bR K C f):PySem.W.takerIn K C f=some none:=by unfold PySem.W.takerIn;rw[show PySem.W.findIn K (.ref C) f=some none from n];rfl
structure Meth (K:bFP)(C:Addr)(m:Str)(f:Addr):Prop where
 at_:PySem.W.findIn K (.ref C) m=some (some (.ref f))
 fn:PySem.W.isFn K (.ref f)=true
 kp:PySem.W.keepIn K (.ref f)=true
section
variable {X:Cx}{bFT:bFR}{σ:St}{H:Hp}{s:Shared}{a C dx:Addr}{fs:List (Str × V)}{f:Str}{v:V}{A:Around}{E:bFQ}
def aLv (I:Inv X bFT σ H s)(e:H a=some (.ins C dx fs))(c:Cls X.K C)(n:bR X.K C f)(l:fs.lookup f=some v)
  (h:∀u s',Inv X bFT σ H s'->RelV v u->Q u s'):wpAny (model X.prog X.w) A (getAttr (.ref a) f b) Q E s:=by
 obtain⟨i,O,r,_,_,_⟩:=aF7 I.hok e;obtain⟨u,g,d⟩:=oW.some_of (by rw[<-l];exact r f);exact aWn I.kIn O (c.get f) c.hd n g (aQb d) (h u _ (I.tok _) d)
def aBj (I:Inv X bFT σ H s)(e:H a=some (.ins C dx fs))(c:Cls X.K C)(k:Meth X.K C m g)(l:fs.lookup m=none)
  (h:Q (.ref g,[.ref a]) s):wpAny (model X.prog X.w) A (getMethod (.ref a) m pl) Q E s:=by
 obtain⟨d,O,r,_,_,_⟩:=aF7 I.hok e;have b:=oW.none_of (by rw[<-l];exact r m);exact aUj I.kIn O (c.get m) k.at_ k.fn b h
def aNz {y:V}{u:Value}{Q:Unit->Shared->Prop}(I:Inv X bFT σ H s)(e:H a=some (.ins C dx fs))(c:Cls X.K C)(n:bR X.K C f)(hl:fs.length<1000)(B:RelV y u)
  (h:∀s',Inv X bFT σ (upd H a (.ins C dx (jM f y fs))) s'->Q () s'):wpAny (model X.prog X.w) A (setAttr (.ref a) f u) Q E s:=by
 obtain⟨i,O,r,j,_,k⟩:=aF7 I.hok e;have m:(fs.map (·.1)).length<=sizeLine:=by rw[j4,sizeLine_eq];lia
 refine aWc I.kIn O c.sa c.po n.taker c.hd j m λt d v=>h _ ?_;have hd:∃o,t.get? dx=some o:=let ⟨o,_,_,e',_⟩:=d.ns;⟨o,e'⟩
 refine I.write (x:=a) (e:=dx) (by rw[e];exact True.intro) (.inr k) (λb q p z=>(v.2 b p).trans z) hd ?_;refine⟨by rw[aR O.ne];exact k,?_,O.ne,d.obj,_,d.ns,λg=>?_,λg l=>?_⟩
 ·have:=zP f y fs;lia
 ·show oW ((jM f y fs).lookup g) (if g=f then some u else i g);rw[zN];by_cases q:g=f
  ·rw[if_pos q,if_pos q];exact B
  ·rw[if_neg q,if_neg q];exact r g
 ·by_cases q:g=f
  ·rw[q];exact (yJ f y fs).1
  ·refine (yJ f y fs).2 g (j g λz=>l ?_);show (if g=f then some u else i g)=none;rw[if_neg q];exact z
def Inv.made (I:Inv X bFT σ H s):Inv X bFT σ (upd (upd H s.heap.objs.size (.own (s.heap.objs.size+1))) (s.heap.objs.size+1) (.ins C s.heap.objs.size []))
  { s with heap:=(s.heap.push PySem.W.emptyDict).push (PySem.W.instObj C s.heap.objs.size) }:=by
 have c:(s.heap.push PySem.W.emptyDict).get? s.heap.objs.size=some PySem.W.emptyDict:=j0 s.heap rfl;have g:((s.heap.push PySem.W.emptyDict).push (PySem.W.instObj C s.heap.objs.size)).get? (s.heap.objs.size+1)=some (PySem.W.instObj C s.heap.objs.size):=by
  have:=j0 (s.heap.push PySem.W.emptyDict) (o:=PySem.W.instObj C s.heap.objs.size) rfl
  rwa [bAW] at this
 have j:(s.heap.push PySem.W.emptyDict).Ns s.heap.objs.size (λ_=>none):=⟨PySem.W.emptyDict,#[],_,c,rfl,(λe i=>absurd i (by simp)),λ_=>rfl⟩;have f:=I.laid (a:=s.heap.objs.size) (o:=.own (s.heap.objs.size+1)) (h':=s.heap.push PySem.W.emptyDict) (t':=s.toks) (λb u q=>c7 _ q) (d8 _) ⟨_,c⟩;refine f.laid (a:=s.heap.objs.size+1) (o:=.ins C s.heap.objs.size []) (t':=s.toks) (λb u q=>c7 _ q) (bFB (bAW _ _)) ?_;have d:s.heap.objs.size≠s.heap.objs.size+1:=t6 (bCM _);refine⟨by rw[aR d,aK],bAE _,d,g,λ_=>none,(Heap.Ns1.of_empty j).at λo q=>c7 _ q,λ_=>True.intro,λy h=>absurd rfl h⟩
def aX8 (a:attributeBase e f env (eval e env)=eval e env)
  (h:wpAny (model prog w) A (eval e env) (λo s₁=>wpAny (model prog w) A (getAttr o f true) Q E s₁) E s):wpAny (model prog w) A (eval (.Attribute e f pos) env) Q E s:=
 Attribute_any_ h (by rw[arm_eval_Attribute,a])
end
def bDd (K:bFP)(ta:TE)(f:Str):TE:=fun σ H Q=>ta σ H λx H1=>∃a C dx fs v,x=.ref a/\H1 a=some (.ins C dx fs)/\Cls K C/\bR K C f/\fs.lookup f=some v/\Q v H1
def bDc (K:bFP)(ta tv:TE)(f:Str):TS:=λD σ H=>tv σ H λy H1=>ta σ H1 λx H2=>∃a C dx fs,x=.ref a/\H2 a=some (.ins C dx fs)/\Cls K C/\bR K C f/\fs.length<1000 /\
 D.nx σ (upd H2 a (.ins C dx (jM f y fs)))
section
variable {X:Cx}{o e value:Expr}{f:Str}{pos pos' tpos:Pos}{ta tv:TE}
def bBf (A:PE X e ta)(t:attributeBase e f X.env (eval e X.env)=eval e X.env):PE X (.Attribute e f pos) (bDd X.K ta f):=by intro b s σ H Q I h;refine aX8 t (thn (A b s σ H _ I h) λu p ⟨x,i,j,o,a,C,z,w,v,m,d,c,n,l,q⟩=>?_);subst m;obtain rfl:u=Value.ref a:=o;exact aLv j d c n l λy r g k=>⟨v,i,g,k,q⟩
def aZh (E:PE X o ta)(z:PE X value tv)(J:swapsWith value (some (.Attribute o f pos')) pos.line X.env=pure false):PS X (.Assign [.Attribute o f pos'] value pos) (bDc X.K ta tv f):=by intro b s σ H D I h;refine plainObj_wpAny_Assign_Attribute (thn (z b s σ H _ I h) λu d ⟨y,j,v,r,q⟩=>thn (E b d σ j _ v q) λe w ⟨x,F,t,m,a,C,G,B,k,g,c,n,l,p⟩=>?_) J;subst k;obtain rfl:e=Value.ref a:=m;exact aNz t g c n l r λA i=>⟨σ,_,i,p⟩
end
section
variable {X:Cx}{bFT:bFR}{σ:St}{H:Hp}{s:Shared}{A:Around}{E:bFQ}{Q:bFQ}{c:Value}{b:Bool}
end
structure Room (k:Nat)(A:Around):Prop where
 hd:A.handled=none
 dp:A.depth+3 * k+5<recursionLimit
 un:A.units+16 * k+200<cLine
def Room.mono (r:Room k A)(h:j<=k):Room j A:=⟨r.hd,by have:=r.dp;lia,by have:=r.un;lia⟩
theorem Room.deeper (r:Room (k+1) A)(env:Env):Room k (A.deeper env):=
 ⟨r.hd,by have:=r.dp;show A.depth+1+3 * k+5<_;lia,by have:=r.un;show A.units+3+16 * k+200<_;lia⟩
def aNu {A:Around}{C:Addr}{us:List Value}{kw:List (Str × Value)}:(A.under (.builtin "type.__call__" ⟨.ref C::us,kw⟩)).depth=A.depth+1:=by
 first|rfl|simp[Around.under,Code.weight,Code.isCreation,Code.isGuard,Code.isCaller,Code.frames,Code.isFrame,guardIds]
def aLq {A:Around}{C:Addr}{us:List Value}{kw:List (Str × Value)}:(A.under (.builtin "type.__call__" ⟨.ref C::us,kw⟩)).units=A.units+1:=by
 first|rfl|simp[Around.under,Code.cUnits,Code.frames,Code.isFrame]
def Room.make (r:Room (k+1) A)(C:Addr)(us:List Value)(kw:List (Str × Value)):Room k (A.under (.builtin "type.__call__" ⟨.ref C::us,kw⟩)):=
 ⟨r.hd,by have:=r.dp;rw[aNu];lia,by have:=r.un;rw[aLq];lia⟩
theorem Room.depth (r:Room k A):A.depth<recursionLimit:=by have:=r.dp;lia
theorem Room.units (r:Room k A):A.units+64<cLine:=by have:=r.un;lia
def aF3:TA:=λ_ H Q=>Q [] H
def gY (ta:TE)(tr:TA):TA:=fun σ H Q=>ta σ H λx H1=>tr σ H1 λxs H2=>Q (x::xs) H2
section
variable {X:Cx}{e:Expr}{es:List Expr}{te:TE}{t:TA}{pos:Pos}
def aY5:PA X [] aF3:=λ_ _ _ _ H Q I h=>bEO ⟨[],H,I,.nil,h⟩
def aWa (q:PE X e te)(v:PA X es t)(p:starEach (e::es) X.env=(false,eval e X.env)::starEach es X.env:=by rfl):PA X (e::es) (gY te t):=by intro a b s σ H Q I h;rw[p];show wpAny _ _ (spliced ((false,eval e X.env)::backTo a (starEach es X.env))) _ _ s;refine bCA (thn (q b s σ H _ I h) λu f ⟨x,j,k,n,d⟩=>?_);exact thn (v a b f σ j _ k d) λr o ⟨l,g,i,m,c⟩=>⟨x::l,g,i,.cons n m,c⟩
end
abbrev Sp:=List V->Hp->VK->XK->Prop
abbrev CXT:=List Env->Hp->Shared->XK->Value->Shared->Prop
structure aGe (P:Program)(w:World)(K:bFP)(mg:bFS)(base:Heap)(A:Around)(outer:List Env)(s:Shared)(H:Hp):Prop where
 frames:A.frames=some outer
 mod:Mod K mg base
 bs:∀b o,base.get? b=some o->s.heap.get? b=some o/\H b=none
 bsz:base.objs.size<=s.heap.objs.size
 funs:s.heap.FunFrames base outer
 frf:∀b∈frs outer,H b=none
 hok:HOk P w H s.heap
 bare:AllBare s.gens
def CE (outer:List Env)(P:Program)(w:World)(H:Hp)(s:Shared)(Q:VK)(u:Value)(s':Shared):Prop:=
 ∃v H',s'.os=s.os/\AllBare s'.gens/\Un (frs outer) [] H H' s.heap s'.heap/\HOk P w H' s'.heap/\RelV v u/\Q v H'
def CR (CX:CXT)(outer:List Env)(P:Program)(w:World)(H:Hp)(s:Shared)(Q:VK)(E:XK)(r:Result)(s':Shared):Prop:=
 match r with
 |.ok (.ret u)=>CE outer P w H s Q u s'
 |.ok _=>False
 |.error e=>CX outer H s E e s'
structure lY (P:Program)(w:World)(K:bFP)(mg:bFS)(base:Heap)(CX:CXT)(k:Nat)(f:Addr)(fd:FuncData)(ps:List Str)(sp:Sp):Prop where
 len:∀vs H Q E,sp vs H Q E->vs.length=ps.length
 run:∀(A:Around) (outer:List Env) (s:Shared) (H:Hp) (args:Args) (us:List Value) (vs:List V) (Q:VK) (E:XK),Room k A->aGe P w K mg base A outer s H->BindsTo s fd args (ps.zip us)->Vals vs us->sp vs H Q E ->
  codeAny (model P w) A (.call (.ref f) args) (CR CX outer P w H s Q E) s
theorem lY.mono {P:Program}{w:World}{K:bFP}{mg:bFS}{base:Heap}{CX:CXT}{j k:Nat}{f:Addr}{fd:FuncData}{ps:List Str}{sp:Sp}(F:lY P w K mg base CX j f fd ps sp)(h:j<=k) :
  lY P w K mg base CX k f fd ps sp:=⟨F.len,λA a s H b c d Q E e=>F.run A a s H b c d Q E (e.mono h)⟩
def aGe.make {P:Program}{w:World}{K:bFP}{mg:bFS}{base:Heap}{A:Around}{outer:List Env}{s:Shared}{H:Hp}(e:aGe P w K mg base A outer s H)(C:Addr)(us:List Value)(kw:List (Str × Value)) :
  aGe P w K mg base (A.under (.builtin "type.__call__" ⟨.ref C::us,kw⟩)) outer s H:=⟨by first|exact e.frames|(simpa [Around.under,Code.envs,Code.isFrame,pushEnvs] using e.frames),e.mod,e.bs,e.bsz,e.funs,e.frf,e.hok,e.bare⟩
section
variable {X:Cx}{bFT:bFR}{σ:St}{H:Hp}{s s':Shared}
def Inv.env0 (I:Inv X bFT σ H s):aGe X.prog X.w X.K X.mg X.base X.A X.stack s H:=
 ⟨I.ok.frames,I.ok.mod,I.bs,bAK I.ok.bsz I.sz,I.stack,I.wC,I.hok,I.bare⟩
def Inv.after (I:Inv X bFT σ H s)(h:CE X.stack X.prog X.w H s Q u s'):EP X bFT σ Q u s':=by obtain⟨v,i,k,a,f,e,r,q⟩:=h;obtain⟨j,g,d,t,c⟩:=s';obtain rfl:c=s.os:=k;exact⟨v,i,I.call (h':=j) (g':=g) (d':=d) (t':=t) f e a (λb z=>absurd z (by simp)),r,q⟩
end
def aFr (sp:Sp)(dvs:List V)(E:XK)(t:TA):TE:=fun σ H Q=>t σ H λvs H1=>sp (vs++dvs) H1 Q E
def aPb (C:Addr)(m:Str)(sp:Sp)(dvs:List V)(E:XK)(ta:TE)(t:TA):TE:=fun σ H Q=>ta σ H λx H1=>∃a dx fs,x=.ref a/\H1 a=some (.ins C dx fs)/\fs.lookup m=none /\
 t σ H1 λvs H2=>sp (x::(vs++dvs)) H2 Q E
def aYo (C:Addr)(sp:Sp)(dvs:List V)(E:XK)(t:TA):TE:=fun σ H Q=>t σ H λvs H1=>∀x dx,H1 x=none->H1 dx=none->dx≠x ->
 sp (.ref x::(vs++dvs)) (upd (upd H1 dx (.own x)) x (.ins C dx [])) (λv H2=>v=.non/\Q (.ref x) H2) E
def Binds (K:bFP)(fd:FuncData)(ps:List Str)(ds:List Value):Prop:=
 ∀s us,K.In s.heap->(us++ds).length=ps.length->BindsTo s fd ⟨us,[]⟩ (ps.zip (us++ds))
def Binds.all {K:bFP}{fd:FuncData}{ps:List Str}(h:∀us:List Value,us.length=ps.length->bindArgs fd ⟨us,[]⟩=pure (ps.zip us)):Binds K fd ps []:=λs us _ a=>by rw[bCV] at a ⊢;exact .of_eq (h us a)
def qI (CX:CXT)(X:Cx)(E:XK):Prop:=∀bFT σ H s e s',Inv X bFT σ H s->CX X.stack H s E e s'->X.xe e s'
section
variable {X:Cx}{CX:CXT}{k:Nat}{f C:Addr}{fd:FuncData}{ps:List Str}{sp:Sp}{dvs:List V}{ds:List Value}{E:XK}{x m:Str}{p pos apos:Pos}{e o:Expr}{es:List Expr}{ta:TE}{t:TA}
theorem aA1 (F:lY X.prog X.w X.K X.mg X.base CX k f fd ps sp)(j:Room k X.A)(i:Binds X.K fd ps ds)(hd:Vals dvs ds)(g:qI CX X E)
  (I:Inv X bFT σ H s) (r:Vals vs us) (h:sp (vs++dvs) H Q E):wpAny (model X.prog X.w) X.A (call (.ref f) us) (EP X bFT σ Q) X.xe s:=by
 have b:=r.append hd;have c:(us++ds).length=ps.length:=by rw[<-b.length];exact F.len _ _ _ _ h
 refine bEZ (bCQ (F.run X.A X.stack s H ⟨us,[]⟩ (us++ds) (vs++dvs) Q E j I.env0 (i s us I.kIn c) b h) λr d a=>?_);cases r with
 |error e=>exact g bFT σ H s e d I a
 |ok fl=>
  cases fl with
  |ret u=>exact I.after a
  |next=>exact False.elim a
  |brk=>exact False.elim a
  |cont=>exact False.elim a
def aW0 (F:lY X.prog X.w X.K X.mg X.base CX k f fd ps sp)(B:Room k X.A)(g:Gl X x)(n:X.mg x=some (.ref f))(j:PySem.W.keepIn X.K (.ref f)=true)(m:Binds X.K fd ps ds)(hd:Vals dvs ds)(i:qI CX X E)
  (u:PA X (e::es) t) (d:(x == ("__debug__":Str))=false:=by decide) (z:starEach (e::es) X.env=(false,eval e X.env)::starEach es X.env:=by rfl) (c:(backTo pos (starEach es X.env)).any (·.1)=false:=by rfl) :
  PE X (.Call (.Name x p) (e::es) [] pos) (aFr sp dvs E t):=by
 intro a s σ H Q I h;refine bBT (vZ I g n ?_ d);refine PySem.W.callWith_K (h₀:=X.base) I.ok.mod.kin j (thn (u pos a s σ H _ I h) λv l ⟨y,o,b,r,q⟩=>⟨b.kIn,?_⟩) z c;exact aA1 F B m hd i b r q
def aS7 (F:lY X.prog X.w X.K X.mg X.base CX k f fd ps sp)(j:Room k X.A)(c:Gl X x)(i:X.mg x=some (.ref f))(e:PySem.W.keepIn X.K (.ref f)=true)(g:Binds X.K fd ps ds)(hd:Vals dvs ds)(d:qI CX X E)
  (b:(x == ("__debug__":Str))=false:=by decide):PE X (.Call (.Name x p) [] [] pos) (aFr sp dvs E aF3):=by
 intro a s σ H Q I h;refine bBT (vZ I c i ?_ b);exact PySem.W.callWith_K0 I.kIn e (aA1 F j g hd d I .nil h)
def aW6 {pl:Sem Bool}(P:PE X o ta)(c:Cls X.K C)(D:Meth X.K C m f)(F:lY X.prog X.w X.K X.mg X.base CX k f fd ps sp)(R:Room k X.A)(L:Binds X.K fd ps ds)(hd:Vals dvs ds)(G:qI CX X E)(N:PA X (e::es) t)
  (j:starEach (e::es) X.env=(false,eval e X.env)::starEach es X.env:=by rfl) (v:(backTo pos (starEach es X.env)).any (·.1)=false:=by rfl)
  (O:eval (.Call (.Attribute o m apos) (e::es) [] pos) X.env=(do
   let ov <-eval o X.env
   standAt apos.atName
   let (f,first) <-holding [ov] (getMethod ov m pl)
   callWith pos f first (backTo pos (starEach (e::es) X.env)) (backToKw pos (keywordEach [] X.env))):=by rfl) :
  PE X (.Call (.Attribute o m apos) (e::es) [] pos) (aPb C m sp dvs E ta t):=by
 intro b s σ H Q I h;refine PySem.W.methodCall_KW (pl:=pl) (thn (P b s σ H _ I h) λu i ⟨x,p,g,z,a,T,M,y,n,l,q⟩=>?_) O;subst y;obtain rfl:u=Value.ref a:=z;refine aBj g n c D l ?_;refine PySem.W.callWith_K (first:=[.ref a]) (h₀:=X.base) I.ok.mod.kin D.kp (thn (N pos b i σ p _ g q) λus J ⟨vs,S,d,r,B⟩=>⟨d.kIn,?_⟩) j v;exact aA1 (us:=.ref a::us) (vs:=.ref a::vs) F R L hd G d (.cons rfl r) B
def aUd {pl:Sem Bool}(B:PE X o ta)(c:Cls X.K C)(g:Meth X.K C m f)(F:lY X.prog X.w X.K X.mg X.base CX k f fd ps sp)(D:Room k X.A)(r:Binds X.K fd ps ds)(hd:Vals dvs ds)(n:qI CX X E)
  (z:eval (.Call (.Attribute o m apos) [] [] pos) X.env=(do
   let ov <-eval o X.env
   standAt apos.atName
   let (f,first) <-holding [ov] (getMethod ov m pl)
   callWith pos f first (backTo pos (starEach [] X.env)) (backToKw pos (keywordEach [] X.env))):=by rfl) :
  PE X (.Call (.Attribute o m apos) [] [] pos) (aPb C m sp dvs E ta aF3):=by
 intro b s σ H Q I h;refine PySem.W.methodCall_KW (pl:=pl) (thn (B b s σ H _ I h) λu p ⟨x,t,d,j,a,y,v,i,e,l,q⟩=>?_) z;subst i;obtain rfl:u=Value.ref a:=j;refine aBj d e c g l ?_;exact PySem.W.callWith_K0 (first:=[.ref a]) d.kIn g.kp (aA1 (us:=[.ref a]) (vs:=[.ref a]) F D r hd n d (.cons rfl .nil) q)
structure Mk (K:bFP)(C f:Addr):Prop where
 makes:PySem.W.makesIn K C=true
 init:PySem.W.findIn K (.ref C) "__init__"=some (some (.ref f))
 fn:PySem.W.isFn K (.ref f)=true
 kp:PySem.W.keepIn K (.ref C)=true
theorem aVb {l:bFR}{σ:St}{H:Hp}{s:Shared}{Q:VK}{us:List Value}{vs:List V}(M:Mk X.K C f)(F:lY X.prog X.w X.K X.mg X.base CX k f fd ps sp)(y:Room (k+1) X.A)(t:Binds X.K fd ps ds)(hd:Vals dvs ds)
  (q:qI CX X E) (I:Inv X l σ H s) (r:Vals vs us)
  (h:∀x dx,H x=none->H dx=none->dx≠x->sp (.ref x::(vs++dvs)) (upd (upd H dx (.own x)) x (.ins C dx [])) (λv H2=>v=.non/\Q (.ref x) H2) E) :
  wpAny (model X.prog X.w) X.A (call (.ref C) us) (EP X l σ Q) X.xe s:=by
 have c:=h (s.heap.objs.size+1) s.heap.objs.size (I.hok.fresh (bEL _)) (I.hok.fresh (d8 _)) (t6 (bCM _));have b:=Inv.made (C:=C) I;have d:Vals (V.ref (s.heap.objs.size+1)::(vs++dvs)) (Value.ref (s.heap.objs.size+1)::(us++ds)):=.cons rfl (r.append hd);have n:(Value.ref (s.heap.objs.size+1)::us++ds).length=ps.length:=by have e:=d.length;rw[F.len _ _ _ _ c] at e;exact e.symm
 refine bEZ (aR1 (f:=f) I.kIn M.makes M.init (beq_iff_eq.mp M.fn) (bCQ (F.run _ X.stack _ _ ⟨Value.ref (s.heap.objs.size+1)::us,[]⟩ (Value.ref (s.heap.objs.size+1)::(us++ds)) _ _ E (y.make C us [])
  (b.env0.make C us []) (t _ (Value.ref (s.heap.objs.size+1)::us) b.kIn n) d c) λr i a=>?_))
 cases r with
 |error e=>exact q l σ _ _ e i b a
 |ok fl=>
  cases fl with
  |ret u=>obtain⟨v,j,m,g,p,o⟩:=b.after a;subst p;exact⟨g,⟨V.ref (s.heap.objs.size+1),j,m,rfl,o⟩⟩
  |next=>exact False.elim a
  |brk=>exact False.elim a
  |cont=>exact False.elim a
def aXq (M:Mk X.K C f)(F:lY X.prog X.w X.K X.mg X.base CX k f fd ps sp)(z:Room (k+1) X.A)(g:Gl X x)(m:X.mg x=some (.ref C))(l:Binds X.K fd ps ds)(hd:Vals dvs ds)(i:qI CX X E)
  (o:PA X (e::es) t) (d:(x == ("__debug__":Str))=false:=by decide) (y:starEach (e::es) X.env=(false,eval e X.env)::starEach es X.env:=by rfl) (c:(backTo pos (starEach es X.env)).any (·.1)=false:=by rfl) :
  PE X (.Call (.Name x p) (e::es) [] pos) (aYo C sp dvs E t):=by
 intro a s σ H Q I h;refine bBT (vZ I g m ?_ d);refine PySem.W.callWith_K (h₀:=X.base) I.ok.mod.kin M.kp (thn (o pos a s σ H _ I h) λu j ⟨v,n,b,r,q⟩=>⟨b.kIn,?_⟩) y c;exact aVb M F z l hd i b r q
end
section
variable {X:Cx}{CX:CXT}{k:Nat}{f C:Addr}{fd:FuncData}{ps ks:List Str}{sp:Sp}{E:XK}{x m:Str}{p pos apos kpos:Pos}{e o:Expr}{es:List Expr}{kws:List Keyword}{te ta:TE}{t tk:TA}{nm:Option Str}
variable {g:List Value->List Value->List Value}{gV:List V->List V->List V}
end
structure aM (N P:List Str)(sc:Scope):Prop where
 kind:sc.kind=.function
 co:sc.isCoroutine=false
 gen:sc.isGenerator=false
 nd:N.Nodup
 pre:N.take P.length=P
 par:∀x∈P,sc.names.lookup x=some .local\/sc.names.lookup x=some .cell
 nofree:∀y∈sc.names,y.2≠.free
theorem aE6 {kindOf:Str->Option NameKind}{x:Str}:∀{binds:List (Str × Value)} {m:bFS},(∀v,(x,v)∉binds)->bindL kindOf binds m x=m x
 |[],_,_=>rfl
 |(n,v)::r,m,h=>by
  unfold bindL;rw[aE6 λw a=>h w (j5 _ a)]
  split
  ·have:x≠n:=by rintro rfl;exact h v j7
   simp[this]
  ·rfl
theorem aFm {kindOf:Str->Option NameKind}{x:Str}:∀{binds:List (Str × Value)} {m:bFS},(∀v,(x,v)∉binds)->bindC kindOf binds m x=m x
 |[],_,_=>rfl
 |(n,v)::r,m,h=>by
  unfold bindC;rw[aFm λw a=>h w (j5 _ a)]
  split
  ·rfl
  ·have:x≠n:=by rintro rfl;exact h v j7
   simp[this]
theorem aEb {a:Str->Option NameKind}{x:Str}{v:Value}:∀{P:List Str} {vs:List Value} {i:Nat} {m:bFS},P.Nodup->P[i]?=some x->vs[i]?=some v->a x=some .local ->
  bindL a (P.zip vs) m x=some v
 |[],_,_,_,_,h,_,_=>by simp at h
 |_::_,[],_,_,_,_,h,_=>by simp at h
 |p::P,w::vs,0,m,nd,h1,h2,hk=>by simp at h1 h2;subst h1;subst h2;show bindL a ((p,w)::P.zip vs) m p=_;unfold bindL;rw[aE6 λv b=>(List.nodup_cons.mp nd).1 (List.of_mem_zip b).1,if_pos hk];simp
 |p::P,w::vs,i+1,m,nd,h1,h2,hk=>by show bindL a ((p,w)::P.zip vs) m x=_;unfold bindL;exact aEb (i:=i) (List.nodup_cons.mp nd).2 (by simpa using h1) (by simpa using h2) hk
theorem aE5 {a:Str->Option NameKind}{x:Str}{v:Value}:∀{P:List Str} {vs:List Value} {i:Nat} {m:bFS},P.Nodup->P[i]?=some x->vs[i]?=some v->a x≠some .local ->
  bindC a (P.zip vs) m x=some v
 |[],_,_,_,_,h,_,_=>by simp at h
 |_::_,[],_,_,_,_,h,_=>by simp at h
 |p::P,w::vs,0,m,nd,h1,h2,hk=>by simp at h1 h2;subst h1;subst h2;show bindC a ((p,w)::P.zip vs) m p=_;unfold bindC;rw[aFm λv b=>(List.nodup_cons.mp nd).1 (List.of_mem_zip b).1,if_neg hk];simp
 |p::P,w::vs,i+1,m,nd,h1,h2,hk=>by show bindC a ((p,w)::P.zip vs) m x=_;unfold bindC;exact aE5 (i:=i) (List.nodup_cons.mp nd).2 (by simpa using h1) (by simpa using h2) hk
def start (N:List Str)(vs:List V):St:=vs.map some++List.replicate (N.length - vs.length) none
def aC2 (CX:CXT)(P:Program)(w:World)(K:bFP)(mg:bFS)(base:Heap)(N:List Str)(qual:Str)(scope:Scope)(f:Addr)(cd:Value)(A:Around)(outer:List Env)(s:Shared)(H:Hp)(E:XK):Cx where
 prog:=P
 w:=w
 K:=K
 mg:=mg
 base:=base
 A:=A.deeper (envOfC qual scope s.heap.objs.size f cd)
 N:=N
 s₀:=s
 H₀:=H
 env:=envOfC qual scope s.heap.objs.size f cd
 outer:=outer
 stack:=envOfC qual scope s.heap.objs.size f cd::outer
 ex:=[]
 calm:=true
 fn:=λ_=>true
 pn:=[]
 xe:=λe s'=>wpAny (model P w) (A.deeper (envOfC qual scope s.heap.objs.size f cd)) (leaving (envOfC qual scope s.heap.objs.size f cd) e) (λ_ s''=>CX outer H s E e s'') (λe' s''=>CX outer H s E e' s'') s'
def aJp {a:Scope}{n:Nat}{x:Str}(h:a.names.lookup x=some .cell):∃c,(cellsFrom n a.names []).lookup x=some c:=by have q:=PySem.W.cellsFrom_some a.names n [] (.inl h);exact Option.isSome_iff_exists.mp q
def aRv {CX:CXT}{P:Program}{w:World}{K:bFP}{mg:bFS}{base:Heap}{N F:List Str}{D:Str}{scope:Scope}{f:Addr}{M:Value}{A:Around}{outer:List Env}{s s1:Shared}{H:Hp}{E:XK}{us:List Value}{vs:List V}
  (S:aM N F scope) (hd:A.handled=none) (g:aGe P w K mg base A outer s H) (hl:vs.length=F.length) (r:Vals vs us)
  (x:InCallC s s.heap.objs.size (bindL (envOfC D scope s.heap.objs.size f M).kindOf (F.zip us) λ_=>none) (cellsFrom (s.heap.objs.size+1) scope.names []) (bindC (envOfC D scope s.heap.objs.size f M).kindOf (F.zip us) λ_=>none) s1) :
  Inv (aC2 CX P w K mg base N D scope f M A outer s H E) [] (start N vs) H s1:=by
 have I:F.length<=N.length:=by have:=congrArg List.length S.pre;rw[bAH] at this;lia
 obtain⟨t,L,rfl,C⟩:=x.done;have j:∀b:Addr,b∉(aC2 CX P w K mg base N D scope f M A outer s H E).ex:=λb z=>absurd (show b∈([]:List Addr) from z) (by simp);refine⟨⟨g.mod,S.kind,rfl,rfl,d8 _,λy z c t d=>?_,λy hy=>?_,λy c _ h=>?_,λ_=>hd,Around.frames_deeper g.frames,.inr ⟨rfl,rfl⟩,λb z=>absurd z (j b),g.bs,g.bsz,λb _ _=>j b,λb z=>absurd z (j b),g.funs,g.frf⟩,
  rfl,g.bare,Un.kept C,⟨_,x.toInCall.ns,λi y v t d O=>?_⟩,λy c h=>⟨_,x.cell y c h⟩,g.hok.fresh (d8 _),λy c h=>?_,λp m=>absurd (show p∈([]:bFR) from m) (by simp),g.hok.kept C,?_⟩
 ·exact name_of_addr x.apart (PySem.mem_of_lookup t) (PySem.mem_of_lookup d)
 ·have hy:scope.names.lookup y=some .cell\/scope.names.lookup y=some .free:=hy;rcases hy with hy|hy
  ·exact aJp hy
  ·exact absurd rfl (S.nofree _ (PySem.mem_of_lookup hy))
 ·exact bDJ (x.above y c (PySem.mem_of_lookup h))
 ·have o:i<vs.length:=by
   unfold start at d;by_cases o:i<vs.length
   ·exact o
   ·rw[bBC (by simpa using o)] at d;rw[List.getElem?_replicate] at d
    split at d <;> cases d
  have J:vs[i]?=some v:=by
   unfold start at d;rw[bBF (by simpa using o),t7] at d;cases e:vs[i]? with
   |none=>rw[e] at d;cases d
   |some a=>rw[e] at d;cases d;rfl
  obtain⟨u,B,G⟩:=r.get J;have m:F[i]?=some y:=by rw[<-S.pre,List.getElem?_take_of_lt (by lia)];exact t
  have l:F.Nodup:=by rw[<-S.pre];exact S.nd.sublist (bFH _ _)
  refine⟨u,G,?_⟩;rcases S.par y (m8 m) with k|k
  ·exact .inl ⟨k,aEb l m B k⟩
  ·obtain⟨c,e⟩:=aJp (n:=s.heap.objs.size+1) k;refine .inr ⟨.inl k,c,e,?_⟩;have q:=x.cell y c e;rw[aE5 l m B (by show scope.names.lookup y≠_;rw[k];decide)] at q;exact q
 ·exact g.hok.fresh (bDJ (x.above y c (PySem.mem_of_lookup h)))
 ·unfold start;show _=N.length;rw[bAA,j4,bDR];lia
theorem aY1 {CX:CXT}{P:Program}{w:World}{K:bFP}{mg:bFS}{base:Heap}{k:Nat}{f:Addr}{name h:Str}{params:Arguments}{body:List Stmt}{scope:Scope}{dV kV doc pm B ct oc:Value}{an od:Option Addr}
  {osl:Array (Option Value)} {N ps:List Str} {sp:Sp} (lk:K.lookup f=some ⟨oc,od,.func (PySem.W.fnOf name h params body scope dV kV doc pm an B ct),osl⟩) (a0:PySem.W.codeIn K B h=true) (S:aM N ps scope)
  (C:∀vs H Q E,sp vs H Q E->vs.length=ps.length)
  (D:∀(A:Around) (outer:List Env) (s:Shared) (H:Hp) (vs:List V) (Q:VK) (E:XK),Room k (A.deeper (envOfC h scope s.heap.objs.size f B))->sp vs H Q E ->
   ∃t,PSs (aC2 CX P w K mg base N h scope f B A outer s H E) body t/\t { nx:=λ_ H'=>Q .non H',rt:=Q } (start N vs) H) :
  lY P w K mg base CX (k+1) f (PySem.W.fnOf name h params body scope dV kV doc pm an B ct) ps sp:=by
 refine⟨C,λA outer s H G T vs Q E p i M r g=>?_⟩;have O:=C _ _ _ _ g;have L:K.In s.heap:=i.mod.kin.keeps λb o e=>(i.bs b o e).1;have m:s.heap.NoLimit:=i.mod.nolimit.keeps λb o e=>(i.bs b o e).1;have a:∀y∈ps.zip T,scope.names.lookup y.1=some .local\/(scope.names.lookup y.1=some .cell/\((cellsFrom (s.heap.objs.size+1) scope.names []).lookup y.1).isSome=true):=λ⟨n,v⟩ U=>by
  rcases S.par n (List.of_mem_zip U).1 with q|q
  ·exact .inl q
  ·exact .inr ⟨q,PySem.W.cellsFrom_some _ _ _ (.inl q)⟩
 refine codeAny_call_function p.depth (L _ _ lk) rfl S.co S.gen rfl (PySem.W.codeRec_of L a0) (M _ _ _ _ ?_);refine wpAny_newFunctionEnv_cells S.kind a λZ X F x=>?_;subst X;refine⟨m.keeps x.toInCall.keep,codeAny_func ?_⟩;obtain⟨t,R,hq⟩:=D A outer s H vs Q E (p.deeper _) g;have I:Inv (aC2 CX P w K mg base N h scope f B A outer s H E) [] (start N vs) H F:=aRv S p.hd i O r x;refine bBN (R [] F (start N vs) H _ I hq) (λY l c=>?_) λe l c=>c;have d:∀{j:St} {H':Hp} {v:V} {u:Value},Inv (aC2 CX P w K mg base N h scope f B A outer s H E) [] j H' l->RelV v u->Q v H'->CE outer P w H s Q u l:=
  λ{j H' v u} J z q=>⟨v,H',J.os,J.bare,J.base,J.hok,z,q⟩
 cases Y with
 |ret u=>obtain⟨v,j,H',J,z,q⟩:=c;exact d J z q
 |next=>obtain⟨j,H',J,q⟩:=c;exact d (v:=V.non) (u:=Value.none) J rfl q
 |brk=>obtain⟨_,_,_,q⟩:=c;exact False.elim q
 |cont=>obtain⟨_,_,_,q⟩:=c;exact False.elim q
section
variable {X:Cx}{x:Str}{p pos:Pos}{e:Expr}{es:List Expr}{t:TA}{id T:String}{r:List V->Hp->VK->Prop}
def tCB (r:List V->Hp->VK->Prop)(t:TA):TE:=fun σ H Q=>t σ H λvs H1=>r vs H1 Q
def aUu (v:cJ X (.builtin id) r)(m:Gl X x)(q:X.mg x=none)(o:bootBuiltins x=some (.builtin id))(u:PA X (e::es) t)(n:x≠"__name__":=by decide)(l:(x == ("__debug__":Str))=false:=by decide)
  (w:starEach (e::es) X.env=(false,eval e X.env)::starEach es X.env:=by rfl) (g:(backTo pos (starEach es X.env)).any (·.1)=false:=by rfl):PE X (.Call (.Name x p) (e::es) [] pos) (tCB r t):=by
 intro a s σ H Q I h;refine bBT (rG I m q o ?_ n l);exact PyProof.Rows.callWith_builtin1 (thn (u pos a s σ H _ I h) λi c ⟨j,d,f,k,b⟩=>v a c σ d j i Q f k b) w g
def aP9 (v:cJ X (.type T) r)(m:Gl X x)(q:X.mg x=none)(o:bootBuiltins x=some (.type T))(u:PA X (e::es) t)(n:x≠"__name__":=by decide)(l:(x == ("__debug__":Str))=false:=by decide)
  (w:starEach (e::es) X.env=(false,eval e X.env)::starEach es X.env:=by rfl) (g:(backTo pos (starEach es X.env)).any (·.1)=false:=by rfl):PE X (.Call (.Name x p) (e::es) [] pos) (tCB r t):=by
 intro a s σ H Q I h;refine bBT (rG I m q o ?_ n l);exact bBS (thn (u pos a s σ H _ I h) λi c ⟨j,d,f,k,b⟩=>v a c σ d j i Q f k b) w g
end
end L2
namespace HT
open PySem PyProof.Rows
section
open PySem.SeqAt
open PySem.AutoSeq1 (wpAny_loadPart')
open PySem.MeetsSeq PySem.MeetsSeq2 PySem.MeetsSeq3
end
section
variable {prog:Program}{w:World}{A:Around}{E:bFQ}{s:Shared}
def aXi (x:IsTup s.heap t vs.toArray)(v:IsTup s.heap b ws.toArray)(q:vs≠[])
  (y:ws=[]->Q (.ref t) s) (u:ws≠[]->Q (.ref s.heap.objs.size) { s with heap:=s.heap.push { cls:=.type "tuple",data:=.seq (vs++ws).toArray } })
  (r:vs.length+ws.length<=sizeLine):wpAny (model prog w) A (binaryOp .Add (.ref t) (.ref b)) Q E s:=by
 obtain⟨⟨cls,o,data,p⟩,i,m,n,hd⟩:=id x;obtain⟨⟨l,f,j,c⟩,a,d,k,g⟩:=id v;simp only at m hd d g;subst m hd d g;have e:vs.toArray++ws.toArray=(vs++ws).toArray:=by simp
 by_cases h:ws=[]
 ·exact concat_meets ⟨_,i,rfl⟩ ⟨_,a,rfl⟩ noFill_tuple_add seq_tuple_add PySem.F.slot_tuple_add PySem.F.entry_tuple_add (PySem.F.args_tuple_add_2 _ _)
   (tuple_addW1 t b vs.toArray ws.toArray n k o f p c (by simpa using q) (by simp[h])) ⟨i,a,y h⟩
 ·refine concat_meets ⟨_,i,rfl⟩ ⟨_,a,rfl⟩ noFill_tuple_add seq_tuple_add PySem.F.slot_tuple_add PySem.F.entry_tuple_add (PySem.F.args_tuple_add_2 _ _)
   (tuple_addW2 t b vs.toArray ws.toArray n k o f p c (by simpa using q) (by simpa using h) (by rw[d9,d9];exact r)) ⟨i,a,?_⟩
  rw[e];exact u h
def sIx (n d:Nat):Option Int->Nat
 |none=>d
 |some v=>if v<0 then (v+(n:Int)).toNat else min v.toNat n
def aKt (n d:Nat):sIx n d none=d:=rfl
def aPe (n d k:Nat):sIx n d (some (k:Int))=min k n:=by show (if (k:Int)<0 then ((k:Int)+(n:Int)).toNat else min (k:Int).toNat n)=min k n;rw[if_neg (by lia),bAR]
theorem aZe (n d:Nat)(hd:d<=n)(o:Option Int):sIx n d o<=n:=by
 cases o with
 |none=>exact hd
 |some v=>
  show (if v<0 then (v+(n:Int)).toNat else min v.toNat n)<=n;by_cases a:v<0
  ·rw[if_pos a];lia
  ·rw[if_neg a];exact Nat.min_le_right _ _
def aOy (v:Int)(n d:Nat):(if v<0 then max (v+(n:Int)) 0 else min v (n:Int))=((sIx n d (some v):Nat):Int):=by
 show (if v<0 then max (v+(n:Int)) 0 else min v (n:Int))=(((if v<0 then (v+(n:Int)).toNat else min v.toNat n):Nat):Int);by_cases a:v<0
 ·simp only[if_pos a];lia
 ·simp only[if_neg a];lia
def aMo (lo hi:Option Int)(n:Nat):Builtin.Slice.sliceAdjust lo hi 1 (n:Int)=(((sIx n 0 lo:Nat):Int),((sIx n n hi:Nat):Int)):=by
 have a:¬ ((1:Int)<0):=by lia
 unfold Builtin.Slice.sliceAdjust;simp only[a,if_false];refine Prod.ext ?_ ?_
 ·cases lo with
  |none=>rfl
  |some v=>exact aOy v n 0
 ·cases hi with
  |none=>rfl
  |some v=>exact aOy v n n
def aNt (i j:Nat):Builtin.Slice.slicePlaces (i:Int) (j:Int) 1=j - i:=by
 unfold Builtin.Slice.slicePlaces;have a:(1:Int) > 0:=by lia
 simp only[a,if_true,Int.ediv_one]
 split <;> lia
theorem aCx (p:IsPart v o)(h:Q o s):wpAny (model prog w) A (Builtin.Slice.slicePartIndex v) Q E s:=by
 cases p with
 |none=>exact slicePart_none h
 |int i t=>exact slicePart_int h
def oK {sl:Addr}{e i:Value}{lo hi:Option Int}{n:Nat}{Q:Int × Int × Nat->Shared->Prop}(d:s.heap.IsSliceOf sl e i .none)(pl:IsPart e lo)(f:IsPart i hi)
  (h:Q (((sIx n 0 lo:Nat):Int),1,sIx n n hi - sIx n 0 lo) s):wpAny (model prog w) A (Builtin.Slice.sliceApplied (.ref sl) (pure (n:Int))) Q E s:=by
 obtain⟨g,b,c,a⟩:=id d;unfold Builtin.Slice.sliceApplied Builtin.Slice.sliceFields;refine b7 (b7 (bAN b a (x:=e) rfl (b7 (bAN b a (x:=i) rfl (b7 (bAN b a (x:=.none) rfl (d7 ?_)))))));refine b7 (slicePart_none ?_);show wpAny _ _ (if ((1:Int) == 0)=true then _ else _) _ _ s;rw[if_neg (by decide)];refine b7 (aCx pl (b7 (aCx f (b7 (d7 ?_)))));show wpAny _ _ (match Builtin.Slice.sliceAdjust lo hi 1 (n:Int) with|(lo,hi)=>pure (lo,(1:Int),Builtin.Slice.slicePlaces lo hi 1)) _ _ s;rw[aMo lo hi n];show wpAny _ _ (pure (((sIx n 0 lo:Nat):Int),(1:Int),Builtin.Slice.slicePlaces ((sIx n 0 lo:Nat):Int) ((sIx n n hi:Nat):Int) 1)) _ _ s;rw[aNt];exact d7 h
def aTf (xs:Array Value)(i k:Nat):((List.range k).filterMap λ(m:Nat)=>xs[((i:Int)+(m:Int) * 1).toNat]?).toArray=((xs.toList.drop i).take k).toArray:=by
 have e:(λ(m:Nat)=>xs[((i:Int)+(m:Int) * 1).toNat]?)=λm=>xs[i+m]?:=by
  funext m;have:((i:Int)+(m:Int) * 1).toNat=i+m:=by lia
  rw[this]
 rw[e];have:=pick_run xs i k;rw[bEI] at this;have a:((λx=>xs[x]?) ∘ λx=>i+x)=λm=>xs[i+m]?:=rfl;rw[a] at this;rw[this]
def vQ {t u:Addr}{a:Array Value}{vl vu:Value}{lo hi:Option Int}{Q:bFQ}(g:IsTup s.heap t a)(k:s.heap.IsSliceOf u vl vu .none)(pl:IsPart vl lo)(o:IsPart vu hi)
  (p:¬ (sIx a.size 0 lo=0/\sIx a.size a.size hi=a.size))
  (h:Q (.ref s.heap.objs.size) { s with heap:=s.heap.push { cls:=.type "tuple",data:=.seq ((a.toList.drop (sIx a.size 0 lo)).take (sIx a.size a.size hi - sIx a.size 0 lo)).toArray } })
  (hsz:a.size<=sizeLine):wpAny (model prog w) A (getItem (.ref t) (.ref u)) Q E s:=by
 have b:sizeOk (.seq ((a.toList.drop (sIx a.size 0 lo)).take (sIx a.size a.size hi - sIx a.size 0 lo)).toArray):=by show ((a.toList.drop (sIx a.size 0 lo)).take (sIx a.size a.size hi - sIx a.size 0 lo)).toArray.size<=sizeLine;rw[d9,bAH,bBP,v7];lia
 have r:sIx a.size a.size hi<=a.size:=aZe _ _ (d8 _) hi;obtain⟨j,f,c,i⟩:=id k;have e:s.TypeIs (.ref u) "slice":=⟨j,f,c⟩;unfold getItem
 try with_reducible refine bAS ?_
 first|refine b7 (d7 ?_)|skip
 refine b7 (wpAny_sequenceKey g.typeIs (by decide) ?_);refine b7 (bAI (name:=Str.ofString "__getitem__") g.typeIs bCL
  (bAG bCL g.typeIs entry_tuple_getitem ?_ (args_tuple_getitem _ _)))
 show wpAny _ _ (Builtin.Tuple.tupleItemsOf (.ref t) >>= _) _ _ s;refine b7 (tupleItemsOf_ g ?_);refine b7 (bDY e ?_);rw[if_pos (by decide)];refine b7 (oK k pl o ?_);have d:¬ ((((sIx a.size 0 lo:Nat):Int) == 0 && (1:Int) == 1 && (sIx a.size a.size hi - sIx a.size 0 lo) == a.size)=true):=by intro q;rw[bAQ,bAQ] at q;have n:((sIx a.size 0 lo:Nat):Int)=0:=eq_of_beq q.1.1;have l:sIx a.size a.size hi - sIx a.size 0 lo=a.size:=eq_of_beq q.2;exact p ⟨by lia,by lia⟩
 show wpAny _ _ (if (((sIx a.size 0 lo:Nat):Int) == 0 && (1:Int) == 1 && (sIx a.size a.size hi - sIx a.size 0 lo) == a.size)=true then _ else _) _ _ s;rw[if_neg d,aTf];first
  |exact b7 (m:=Builtin.Tuple.tupleExact _) (bAO (d7 ⟨_,rfl,d7 h⟩) b)
  |exact b7 (m:=Builtin.Tuple.tupleExact _) (bAO (b7 (d7 (d7 ⟨_,rfl,d7 h⟩))) b)
  |exact b7 (b7 (m:=Builtin.Tuple.tupleExact _) (bAO (d7 (d7 ⟨_,rfl,d7 h⟩)) b))
  |exact b7 (b7 (m:=Builtin.Tuple.tupleExact _) (bAO (d7 ⟨_,rfl,d7 h⟩) b))
end
end HT
namespace L2
open PySem PySem.Spec PyProof.Rows
abbrev TO:=St->Hp->(Option Int->Hp->Prop)->Prop
def PO (X:Cx)(e:Option Expr)(t:TO):Prop:=
 ∀bFT s σ H Q,Inv X bFT σ H s->t σ H Q ->
  wpAny (model X.prog X.w) X.A (evalPart e X.env) (λu s'=>∃o H',Inv X bFT σ H' s'/\IsPart u o/\Q o H') X.xe s
def aPf:TO:=λ_ H Q=>Q none H
def aYv (t:TE):TO:=fun σ H Q=>t σ H λx H1=>∃i,x=.int i/\Q (some i) H1
section
variable {X:Cx}{e:Expr}{te:TE}{lo hi:Option Expr}{tl th:TO}{pos p2:Pos}
def aWx:PO X none aPf:=by intro a s σ H Q I h;rw[evalPart_none];exact d7 ⟨none,H,I,.none,h⟩
def aWk (h:PE X e te):PO X (some e) (aYv te):=by intro a s σ H Q I f;rw[evalPart_some];refine thn (h a s σ H _ I f) λu j ⟨x,c,d,g,b⟩=>?_;obtain⟨i,rfl,q⟩:=b;obtain⟨t,rfl⟩:=g;exact⟨some i,c,d,.int i t,q⟩
def SlR (X:Cx)(r:V->Option Int->Option Int->Hp->VK->Prop):Prop:=
 ∀bFT s σ H x v vl vu lo hi sl Q,Inv X bFT σ H s->RelV x v->s.heap.IsSliceOf sl vl vu .none->IsPart vl lo->IsPart vu hi->r x lo hi H Q ->
  ∃T id,typeLookup (.type T) "__getitem__"=pure (some (.builtin id))/\s.TypeIs v T/\wpAny (model X.prog X.w) X.A (getItem v (.ref sl)) (EP X bFT σ Q) X.xe s
def tSl (r:V->Option Int->Option Int->Hp->VK->Prop)(te:TE)(tl th:TO):TE:=fun σ H Q=>te σ H λx H1=>tl σ H1 λl H2=>th σ H2 λu H3=>r x l u H3 Q
def aR7 {r:V->Option Int->Option Int->Hp->VK->Prop}(O:SlR X r)(N:PE X e te)(L:PO X lo tl)(K:PO X hi th):PE X (.Subscript e (.Slice lo hi none p2) pos) (tSl r te tl th):=by intro a s σ H Q I h;refine Subscript_ (thn (N a s σ H _ I h) λv i ⟨x,m,F,J,z⟩=>?_);refine wpAny_Slice (thn (L a i σ m _ F z) λd j ⟨l,D,E,G,y⟩=>thn (K a j σ D _ E y) λf c ⟨u,g,k,C,o⟩=>?_);rw[evalPart_none];refine d7 ?_;have B:Inv X a σ g { c with heap:=c.heap.push { cls:=.type "slice",data:=.fields #[d,f,.none] } }:=k.kept (t':=c.toks) λb P q=>c7 _ q;obtain⟨T,M,p,n,t⟩:=O a { c with heap:=c.heap.push { cls:=.type "slice",data:=.fields #[d,f,.none] } } σ g x v d f l u c.heap.objs.size Q B J (Heap.IsSliceOf.new ..) G C o;show wpAny (model X.prog X.w) X.A (subscriptTail e (.Slice lo hi none p2) v (.ref c.heap.objs.size)) (EP X a σ Q) X.xe { c with heap:=c.heap.push { cls:=.type "slice",data:=.fields #[d,f,.none] } };exact tail_any (ops:=[.ref c.heap.objs.size,v]) n p t (by with_unfolding_all rfl)
def pH (xs:List V)(lo hi:Option Int):List V:=(xs.drop (HT.sIx xs.length 0 lo)).take (HT.sIx xs.length xs.length hi - HT.sIx xs.length 0 lo)
def yW (xs:List V)(lo hi:Option Int):(pH xs lo hi).length<=xs.length:=by unfold pH;rw[bAH,bBP];lia
def bD3 (K:bFP):V->Option Int->Option Int->Hp->VK->Prop:=λx lo hi H Q=>∃a xs,x=.ref a/\SqT K H a xs /\
 ¬ (HT.sIx xs.length 0 lo=0/\HT.sIx xs.length xs.length hi=xs.length)/\∀p,H p=none->Q (.ref p) (upd H p (.tup (pH xs lo hi)))
def bAi:SlR X (bD3 X.K):=by
 intro l s σ H x v y w e i z Q I p n t m h;obtain⟨a,d,rfl,k,o,q⟩:=h;cases p;obtain⟨f,r,j,g⟩:=I.tuple k;have c:f.toArray.size=d.length:=by rw[d9];exact r.length.symm
 refine⟨"tuple",_,PyProof.Rows.slot_tuple_getitem.lookup,j.typeIs,?_⟩;refine HT.vQ j n t m (by rw[c];exact o) ?_ (by rw[c];exact g);rw[c];refine⟨.ref s.heap.objs.size,_,I.laid (t':=s.toks) (λb u q=>c7 _ q) (d8 _) ?_,rfl,q _ (I.hok.fresh (d8 _))⟩;exact⟨bAK (yW d e i) g,_,(r.drop (HT.sIx d.length 0 e)).take (HT.sIx d.length d.length i - HT.sIx d.length 0 e),xF.new _ _⟩
def bCn (K:bFP):R2:=λx y H Q=>∃a b xs ys,x=.ref a/\y=.ref b/\SqT K H a xs/\SqT K H b ys/\xs≠[]/\xs.length+ys.length<=sizeLine /\
 (ys=[]->Q (.ref a) H)/\(ys≠[]->∀p,H p=none->Q (.ref p) (upd H p (.tup (xs++ys))))
theorem Vals.aHf (r:Vals xs us):us=[]↔xs=[]:=by
 cases r with
 |nil=>simp
 |cons _ _=>simp
def aWb:OpR X (binaryOp .Add) (bCn X.K):=by intro t s σ H x y v u Q I k p h;obtain⟨a,b,C,A,rfl,rfl,j,i,g,e,o,n⟩:=h;cases k;cases p;obtain⟨m,d,r,_⟩:=I.tuple j;obtain⟨f,c,l,_⟩:=I.tuple i;refine HT.aXi r l (λz=>g (d.aHf.mp z)) (λz=>⟨.ref a,H,I,rfl,o (c.aHf.mp z)⟩) (λz=>?_) (by rw[<-d.length,<-c.length];exact e);refine⟨.ref s.heap.objs.size,_,I.laid (t':=s.toks) (λb B q=>c7 _ q) (d8 _) ?_,rfl,n (λw=>z (c.aHf.mpr w)) _ (I.hok.fresh (d8 _))⟩;exact⟨by rw[bAA];exact e,_,d.append c,xF.new _ _⟩
end
def ixN (n:Nat)(i:Int):Option Nat:=if 0<=i then (if i<n then some i.toNat else none) else if -(n:Int)<=i then some (i+n).toNat else none
def atI {α:Type}(xs:List α)(i:Int):Option α:=(ixN xs.length i).bind λj=>xs[j]?
def aPa (h:ixN n i=some j):seqIndex? i n=some j/\j<n/\-(n:Int)<=i/\i<n:=by
 unfold ixN at h;by_cases b:0<=i
 ·rw[if_pos b] at h;by_cases a:i<n
  ·rw[if_pos a] at h;have e:=bAM h;exact⟨by rw[seqIndex_of b a,e],by lia,by lia,a⟩
  ·rw[if_neg a] at h;cases h
 ·rw[if_neg b] at h;by_cases a:-(n:Int)<=i
  ·rw[if_pos a] at h;have e:=bAM h;exact⟨by rw[seqIndex_neg (by lia) a,e],by lia,a,by lia⟩
  ·rw[if_neg a] at h;cases h
theorem aO6 {α:Type}{xs:List α}{i:Int}{v:α}(h:atI xs i=some v):∃j,seqIndex? i xs.length=some j/\xs[j]?=some v/\j<xs.length/\-(xs.length:Int)<=i/\i<xs.length:=by
 unfold atI at h;cases e:ixN xs.length i with
 |none=>rw[e] at h;cases h
 |some j=>rw[e] at h;obtain⟨d,a,c,b⟩:=aPa e;exact⟨j,d,h,a,c,b⟩
def dI {α:Type}{xs:List α}{j:Nat}{v:α}(h:xs[j]?=some v):atI xs (j:Int)=some v:=by
 have a:j<xs.length:=(List.getElem?_eq_some_iff.mp h).1;have e:ixN xs.length (j:Int)=some j:=by unfold ixN;rw[if_pos (by lia),if_pos (by lia)];simp
 unfold atI;rw[e];exact h
def aPq (b:Expr):Prop:=∀o i,subscripted b false o i=operate [o,i] (getItem o i)
def IxR (X:Cx)(r:R2):Prop:=
 ∀value slice bFT s σ H x y v u Q,Inv X bFT σ H s->RelV x v->RelV y u->r x y H Q ->
  subscripted slice false v u=operate [v,u] (getItem v u)->wpAny (model X.prog X.w) X.A (subscriptTail value slice v u) (EP X bFT σ Q) X.xe s
def MtR (X:Cx)(id:String)(r:V->List V->Hp->VK->Prop):Prop:=
 ∀bFT s σ H x xs v us Q,Inv X bFT σ H s->RelV x v->Vals xs us->r x xs H Q ->
  wpAny (model X.prog X.w) X.A (call (.builtin id) (v::us)) (EP X bFT σ Q) X.xe s
section
variable {X:Cx}{a b:Expr}{ta tb:TE}{pos:Pos}
def bCr (m:IxR X r)(l:PE X a ta)(j:PE X b tb)(k:aPq b):PE X (.Subscript a b pos) (tOp r ta tb):=by intro c s σ H Q I h;exact Subscript_ (aVz l j I h λv u e x y f g i d q=>m a b c e σ f x y v u Q g i d q (k _ _))
def bD2 (K:bFP):R2:=λx y H Q=>∃p xs i v,x=.ref p/\y=.int i/\SqL K H p xs/\atI xs i=some v/\Q v H
def bCk (K:bFP):R2:=λx y H Q=>∃p xs i v,x=.ref p/\y=.int i/\SqT K H p xs/\atI xs i=some v/\Q v H
def fY:IxR X (bD2 X.K):=by
 intro e d b s σ H x y v u Q I E J h o;obtain⟨p,P,i,z,rfl,rfl,L,F,q⟩:=h;cases E;obtain⟨t,rfl⟩:=J;obtain⟨g,r,l,N⟩:=I.list L;obtain⟨j,c,G,O,D,B⟩:=aO6 F;obtain⟨w,n,k⟩:=r.get G;have C:=r.length;have M:=xX;have a:EP X b σ Q w s:=⟨z,H,I,k,q⟩;by_cases m:0<=i
 ·have f:i.toNat=j:=by rw[seqIndex_of m B] at c;exact bAM c
  exact item_listR l.isList m (by lia) (by rw[f];simpa using n) a o
 ·have f:(i+(g.toArray.size:Int)).toNat=j:=by rw[seqIndex_neg (by lia) D] at c;rw[d9,<-C];exact bAM c
  exact subscriptTail_builtinR (x:=w) l.isList.typeIs slot_list_getitem.lookup
   (wpAny_getItem_list_neg (Q:=λr A=>r=w/\EP X b σ Q r A) l.isList (by lia) (by rw[d9] <;> lia) (by lia) (by rw[f];simpa using n) ⟨rfl,a⟩) o
def aY:IxR X (bCk X.K):=by
 intro c b a s σ H x y v u Q I l C h D;obtain⟨p,N,i,z,rfl,rfl,E,m,q⟩:=h;cases l;obtain⟨t,rfl⟩:=C;obtain⟨n,r,f,G⟩:=I.tuple E;obtain⟨j,o,B,M,L,J⟩:=aO6 m;obtain⟨w,A,e⟩:=r.get B;have k:=r.length;have F:=xX;have d:EP X a σ Q w s:=⟨z,H,I,e,q⟩;exact subscriptTail_builtinR (x:=w) f.typeIs slot_tuple_getitem.lookup
  (getItem_tuple (j:=j) (Q:=λr g=>r=w/\EP X a σ Q r g) f (by lia) (by lia) (by rw[d9,<-k];exact o) (by simpa using A) ⟨rfl,d⟩) D
def aL9 (its:List Value)(n j:Nat)(u:Value):Obj.mapSeq (·.setIfInBounds j u) { cls:=.type "list",data:=.seq its.toArray n }={ cls:=.type "list",data:=.seq (its.set j u).toArray n }:=by simp[Obj.mapSeq]
theorem Inv.lst (I:Inv X bFT σ H s)(h:H p=some (.lst xs)) :
  ∃its n,Vals xs its/\s.heap.get? p=some { cls:=.type "list",data:=.seq its.toArray n }/\xs.length<=sizeLine:=by
 obtain⟨z,its,n,r,e⟩:=I.hok p _ h;exact⟨its,n,r,e,z⟩
def Inv.aZl {bFT:bFR}{σ:St}{H:Hp}{s:Shared}{p:Addr}{xs ys:List V}{its its':List Value}{n a:Nat}{f:Obj->Obj}(I:Inv X bFT σ H s)(h:H p=some (.lst xs))
  (i:s.heap.get? p=some { cls:=.type "list",data:=.seq its.toArray n }) (c:f { cls:=.type "list",data:=.seq its.toArray n }={ cls:=.type "list",data:=.seq its'.toArray a }) (r:Vals ys its') (g:ys.length<=sizeLine) (t:Nat) :
  Inv X bFT σ (upd H p (.lst ys)) { s with heap:=s.heap.update p f,toks:=t }:=by
 have e:(s.heap.update p f).get? p=some { cls:=.type "list",data:=.seq its'.toArray a }:=by rw[bBI f i (by rw[c] <;> rfl),c]
 refine I.write (x:=p) (e:=p) (by rw[h];trivial) (.inl rfl) (λb u d q=>(bDK _ _ (Ne.symm d)).trans q) ⟨_,e⟩ ?_;exact⟨g,its',a,r,e⟩
def bC0:V->V->V->Hp->(Hp->Prop)->Prop:=λo i v H Q=>∃p xs k j,o=.ref p/\i=.int k/\H p=some (.lst xs)/\ixN xs.length k=some j/\Q (upd H p (.lst (xs.set j v)))
def set_list:bBg X bC0:=by
 intro f s σ H o i v F G u Q I C A B h;obtain⟨p,D,k,j,rfl,rfl,w,z,q⟩:=h;cases C;obtain⟨t,rfl⟩:=A;obtain⟨a,n,r,e,y⟩:=I.lst w;obtain⟨b,J,x,l⟩:=aPa z;have d:=r.length;have E:=xX;have g:Inv X f σ (upd H p (.lst (D.set j v))) { s with heap:=s.heap.update p (Obj.mapSeq (·.setIfInBounds j u)) }:=
  I.aZl w e (aL9 a n j u) (r.set B j) (by rw[List.length_set];exact y) s.toks
 by_cases m:0<=k
 ·have c:k.toNat=j:=by rw[seqIndex_of m l] at b;exact bAM b
  exact PySem.W.ki_setAt e m (by lia) (by rw[d9,<-d];exact l) (by rw[c];exact⟨_,g,q⟩)
 ·have c:(k+(a.toArray.size:Int)).toNat=j:=by rw[seqIndex_neg (by lia) x] at b;rw[d9,<-d];exact bAM b
  exact PySem.W.ki_setBack e (by lia) (by rw[d9,<-d];exact x) (by lia) (by rw[c];exact⟨_,g,q⟩)
def aGb (lo hi:Option Int)(n:Nat):(sliceBounds lo hi none n).1=((HT.sIx n 0 lo:Nat):Int)/\(sliceBounds lo hi none n).2.1=((HT.sIx n n hi:Nat):Int)/\(sliceBounds lo hi none n).2.2=1:=by
 refine⟨?_,?_,rfl⟩
 ·cases lo with
  |none=>simp[sliceBounds,HT.sIx]
  |some i=>
   simp only[sliceBounds,HT.sIx,Option.getD_none,show (1:Int) > 0 by decide,if_true];by_cases h:i<0
   ·simp only[h,if_true] <;> lia
   ·simp only[h,if_false] <;> lia
 ·cases hi with
  |none=>simp[sliceBounds,HT.sIx]
  |some i=>
   simp only[sliceBounds,HT.sIx,Option.getD_none,show (1:Int) > 0 by decide,if_true];by_cases h:i<0
   ·simp only[h,if_true] <;> lia
   ·simp only[h,if_false] <;> lia
def aD4 (its:List Value)(lo hi:Option Int):slicePick its.toArray lo hi none=((its.drop (HT.sIx its.length 0 lo)).take (HT.sIx its.length its.length hi - HT.sIx its.length 0 lo)).toArray:=by obtain⟨c,b,a⟩:=aGb lo hi its.toArray.size;unfold slicePick;rw[c,b,a];simp only[sliceRange_one,pick_run,d9] <;> rfl
def bD6 (K:bFP):V->Option Int->Option Int->Hp->VK->Prop:=λx lo hi H Q=>∃a xs,x=.ref a/\SqL K H a xs/\∀p,H p=none->Q (.ref p) (upd H p (.lst (pH xs lo hi)))
def aV6:SlR X (bD6 X.K):=by intro k s σ H x v w u e f y Q I n m o l h;obtain⟨a,d,rfl,i,q⟩:=h;cases n;obtain⟨p,r,g,j⟩:=I.list i;have c:=r.length;refine⟨"list",_,slot_list_getitem.lookup,g.isList.typeIs,?_⟩;refine wpAny_getItem_list_slice g.isList m o l .none (by simp) ?_ (by rw[d9] <;> lia);rw[aD4,<-c];refine⟨.ref s.heap.objs.size,_,I.laid (t':=s.toks) (λb t q=>c7 _ q) (d8 _) ?_,rfl,q _ (I.hok.fresh (d8 _))⟩;exact⟨bAK (yW d e f) j,_,0,(r.drop (HT.sIx d.length 0 e)).take (HT.sIx d.length d.length f - HT.sIx d.length 0 e),j0 _ rfl⟩
def jN:V->Bool
 |.non=>true
 |.bl _=>true
 |.int _=>true
 |.str _=>true
 |_=>false
def eqV:V->V->Bool
 |.non,.non=>true
 |.bl a,.bl b=>a == b
 |.bl a,.int b=>(if a then 1 else 0) == b
 |.int a,.bl b=>a == (if b then 1 else 0)
 |.int a,.int b=>a == b
 |.str a,.str b=>a == b
 |_,_=>false
theorem aTw (e:RelV y u)(c:RelV x v)(g:jN y=true)(f:jN x=true):SeqAt.EqAt A s u v (eqV y x):=by
 cases y with
 |non=>
  cases e;cases x with
  |non=>cases c;exact bDB _
  |bl b=>cases c;exact SeqAt.EqAt.none_bool b
  |int b=>obtain⟨t,rfl⟩:=c;exact SeqAt.EqAt.none_int b t
  |str b=>obtain⟨t,rfl⟩:=c;exact SeqAt.EqAt.none_str b t
  |_=>exact absurd (show false=true from f) v6
 |bl a=>
  cases e;cases x with
  |non=>cases c;exact SeqAt.EqAt.bool_none a
  |bl b=>cases c;exact SeqAt.EqAt.bool_bool a b
  |int b=>obtain⟨t,rfl⟩:=c;exact SeqAt.EqAt.bool_int a b t
  |str b=>obtain⟨t,rfl⟩:=c;exact SeqAt.EqAt.bool_str a b t
  |_=>exact absurd (show false=true from f) v6
 |int a=>
  obtain⟨d,rfl⟩:=e;cases x with
  |non=>cases c;exact SeqAt.EqAt.int_none a d
  |bl b=>cases c;exact SeqAt.EqAt.int_bool a d b
  |int b=>obtain⟨t,rfl⟩:=c;exact bEJ a d b t
  |str b=>obtain⟨t,rfl⟩:=c;exact SeqAt.EqAt.int_str a d b t
  |_=>exact absurd (show false=true from f) v6
 |str a=>
  obtain⟨d,rfl⟩:=e;cases x with
  |non=>cases c;exact SeqAt.EqAt.str_none a d
  |bl b=>cases c;exact SeqAt.EqAt.str_bool a d b
  |int b=>obtain⟨t,rfl⟩:=c;exact SeqAt.EqAt.str_int a d b t
  |str b=>obtain⟨t,rfl⟩:=c;exact bDL a d b t
  |_=>exact absurd (show false=true from f) v6
 |_=>exact absurd (show false=true from g) v6
def eqU (x:V)(u:Value):Bool:=match u with
 |.none=>eqV .non x
 |.bool b=>eqV (.bl b) x
 |.int i _=>eqV (.int i) x
 |.str z _=>eqV (.str z) x
 |_=>false
theorem aUa (r:RelV y u)(f:jN y=true):eqU x u=eqV y x:=by
 cases y with
 |non=>cases r;rfl
 |bl b=>cases r;rfl
 |int i=>obtain⟨t,rfl⟩:=r;rfl
 |str z=>obtain⟨t,rfl⟩:=r;rfl
 |_=>exact absurd (show false=true from f) v6
theorem vN:∀{xs:List V} {us:List Value},Vals xs us->xs.all jN=true->us.any (eqU x)=xs.any λy=>eqV y x
 |_,_,.nil,_=>rfl
 |y::xs,u::us,.cons r t,f=>by rw[bFO,bAQ] at f;rw[bE2,bE2,aUa r f.1,vN t f.2]
theorem rO (a:RelV x v)(b:jN x=true):∀{xs:List V} {us:List Value},Vals xs us->xs.all jN=true->∀u∈us,SeqAt.EqAt A s u v (eqU x u)
 |_,_,.nil,_=>λu hu=>by cases hu
 |y::xs,u::us,.cons r t,f=>λc hu=>by
  rw[bFO,bAQ] at f;rcases List.mem_cons.mp hu with rfl|hu
  ·rw[aUa r f.1];exact aTw r a f.1 b
  ·exact rO a b t f.2 c hu
def inV (x:V)(xs:List V):Bool:=xs.any λy=>eqV y x
def rIn (K:bFP)(neg:Bool):R2:=λx y H Q=>∃p xs,y=.ref p/\(SqL K H p xs\/SqT K H p xs)/\jN x=true/\xs.all jN=true/\Q (.bl (if neg then !inV x xs else inV x xs)) H
def xR:OpR X (compareOp .In) (rIn X.K false):=by
 intro j s σ H x y v u Q I f g h;obtain⟨p,k,rfl,hq,e,b,q⟩:=h;cases g;rcases hq with hq|hq
 ·obtain⟨a,r,d,i⟩:=I.list hq;refine SeqAt.in_listAt (eqU x) d.isList (λw c=>rO f e r b w (by simpa using c)) ⟨.bl _,H,I,rfl,?_⟩;rw[show a.toArray.any (eqU x)=a.any (eqU x) by simp,vN r b];exact q
 ·obtain⟨a,r,d,i⟩:=I.tuple hq;refine SeqAt.in_tupleAt (eqU x) d (λw c=>rO f e r b w (by simpa using c)) ⟨.bl _,H,I,rfl,?_⟩;rw[show a.toArray.any (eqU x)=a.any (eqU x) by simp,vN r b];exact q
def pM:OpR X (compareOp .NotIn) (rIn X.K true):=by
 intro j s σ H x y v u Q I f g h;obtain⟨p,k,rfl,hq,e,b,q⟩:=h;cases g;rcases hq with hq|hq
 ·obtain⟨a,r,d,i⟩:=I.list hq;refine SeqAt.notIn_listAt (eqU x) d.isList (λw c=>rO f e r b w (by simpa using c)) ⟨.bl _,H,I,rfl,?_⟩;rw[show a.toArray.any (eqU x)=a.any (eqU x) by simp,vN r b];exact q
 ·obtain⟨a,r,d,i⟩:=I.tuple hq;refine SeqAt.notIn_tupleAt (eqU x) d (λw c=>rO f e r b w (by simpa using c)) ⟨.bl _,H,I,rfl,?_⟩;rw[show a.toArray.any (eqU x)=a.any (eqU x) by simp,vN r b];exact q
def bH:cJ X (.builtin "len") (λxs H Q=>∃p ys,xs=[.ref p]/\(SqL X.K H p ys\/SqT X.K H p ys)/\Q (.int ys.length) H):=by
 intro f s σ H xs j Q I r h;obtain⟨p,ys,rfl,hq,q⟩:=h;obtain⟨u,rfl,g⟩:=vals1 r;cases g;have i:=xX;rcases hq with hq|hq
 ·obtain⟨d,b,c,e⟩:=I.list hq;have a:=b.length;exact Calls.call_len_list c.isList (by simp only[d9] <;> lia) ⟨.int ys.length,H,I.tok _,⟨s.toks+1,by rw[d9,a]⟩,q⟩
 ·obtain⟨d,b,c,e⟩:=I.tuple hq;have a:=b.length;exact len_tuple c (by simp only[d9] <;> lia) ⟨.int ys.length,H,I.tok _,⟨s.toks+1,by rw[d9,a]⟩,q⟩
def wX:cJ X (.builtin "len") (λxs H Q=>∃z,xs=[.str z]/\z.length<=sizeLine/\Q (.int z.length) H):=by intro a s σ H xs d Q I r h;obtain⟨z,rfl,c,q⟩:=h;obtain⟨u,rfl,t,rfl⟩:=vals1 r;have b:=xX;exact len_str (by lia) ⟨.int z.length,H,I.tok _,⟨_,rfl⟩,q⟩
def cJ.or (h:cJ X f r)(h':cJ X f r'):cJ X f (λxs H Q=>r xs H Q\/r' xs H Q):=by
 intro a s σ H xs c Q I b q;rcases q with q|q
 ·exact h a s σ H xs c Q I b q
 ·exact h' a s σ H xs c Q I b q
def aFx:cJ X (.type "list") (λxs H Q=>∃p ys,xs=[.ref p]/\(SqL X.K H p ys\/SqT X.K H p ys)/\∀l,H l=none->Q (.ref l) (upd H l (.lst ys))):=by
 intro t s σ H xs z Q I r h;obtain⟨p,ys,rfl,hq,q⟩:=h;obtain⟨u,rfl,y⟩:=vals1 r;cases y;have j:∀a,Vals ys a->ys.length<=sizeLine->∀c f,(∀b o',s.heap.get? b=some o'->c.get? b=some o') ->
   c.get? s.heap.objs.size=some { cls:=.type "list",dict:=none,data:=.seq a.toArray f,slots:=#[] }->EP X t σ Q (.ref s.heap.objs.size) { s with heap:=c }:=λa d g c f k e=>
  ⟨.ref s.heap.objs.size,_,I.laid (t':=s.toks) k (d8 _) (show dN X.prog X.w _ c _ (.lst ys) from ⟨g,a,f,d,e⟩),rfl,q _ (I.hok.fresh (d8 _))⟩
 rcases hq with hq|hq
 ·obtain⟨a,d,v,g⟩:=I.list hq;have i:=d.length;obtain⟨o,m,x,n,hd⟩:=v.isList;exact call_list_seq p (.inl rfl) m x hd (λc f k e=>j a d g c f k e) (by simp only[d9] <;> lia)
 ·obtain⟨a,d,v,g⟩:=I.tuple hq;have i:=d.length;obtain⟨o,m,x,n,hd⟩:=v;exact call_list_seq p (.inr rfl) m x hd (λc f k e=>j a d g c f k e) (by simp only[d9] <;> lia)
def aDq:cJ X (.type "tuple") (λxs H Q=>∃p ys,xs=[.ref p]/\((SqL X.K H p ys/\∀l,H l=none->Q (.ref l) (upd H l (.tup ys)))\/(SqT X.K H p ys/\Q (.ref p) H))):=by
 intro d s σ H xs x Q I r h;obtain⟨p,ys,rfl,h⟩:=h;obtain⟨u,rfl,t⟩:=vals1 r;cases t;rcases h with⟨g,q⟩|⟨g,q⟩
 ·obtain⟨a,c,i,j⟩:=I.list g;have k:=c.length;refine call_tuple_list i.isList (λf v=>?_) (by simp only[d9] <;> lia);have m:=I.kept (t':=s.toks) v;have n:Inv X d σ (upd H f.objs.size (.tup ys)) { s with heap:=f.push { cls:=.type "tuple",data:=.seq a.toArray } }:=
   m.laid (t':=s.toks) (λb o e=>c7 _ e) (d8 _) (show dN X.prog X.w _ _ _ (.tup ys) from ⟨j,a,c,xF.new _ _⟩)
  exact⟨.ref f.objs.size,_,n,rfl,q _ (m.hok.fresh (d8 _))⟩
 ·obtain⟨a,c,i,j⟩:=I.tuple g;exact call_tuple_same i ⟨.ref p,H,I,rfl,q⟩
def tyV (K:bFP)(T:String)(x:V)(H:Hp):Prop:=match x with
 |.str _=>T = "str"
 |.int _=>T = "int"
 |.ref p=>(T = "list"/\∃xs,SqL K H p xs)\/(T = "tuple"/\∃o,K.lookup p=some o/\o.cls=.type "tuple"/\o.dict=none) \/
   (T = "dict"/\((∃kvs,H p=some (.dK kvs))\/∃kvs,H p=some (.dT kvs)))\/(T = "set"/\∃S n,H p=some (.set S n))
 |_=>False
theorem aL6 (I:Inv X bFT σ H s)(r:RelV x v)(h:tyV X.K T x H) :
  s.TypeIs v T/\∀a,v=.ref a->∃ob,s.heap.get? a=some ob/\ob.dict=none:=by
 cases x with
 |str z=>obtain⟨t,rfl⟩:=r;cases (show T = "str" from h);exact⟨typeIs_str s z t,λ_ e=>nomatch e⟩
 |int i=>obtain⟨t,rfl⟩:=r;cases (show T = "int" from h);exact⟨typeIs_int s i t,λ_ e=>nomatch e⟩
 |ref p=>
  cases r;rcases h with⟨rfl,m,l⟩|⟨rfl,o,b,hc,hd⟩|⟨rfl,b⟩|⟨rfl,S,n,b⟩
  ·obtain⟨k,_,j,_⟩:=I.list l;refine⟨j.isList.typeIs,λa e=>?_⟩;cases e;obtain⟨o,n,e,c,hd,_⟩:=j;exact⟨o,e,hd⟩
  ·refine⟨⟨o,I.kIn p o b,hc⟩,λa e=>?_⟩;cases e;exact⟨o,I.kIn _ o b,hd⟩
  ·have z:∃o,s.heap.get? p=some o/\o.ExactDict:=by
    rcases b with⟨f,b⟩|⟨f,b⟩
    ·obtain⟨_,_,_,_,o,_,_,e,d,_⟩:=I.hok p _ b;exact⟨o,e,d⟩
    ·obtain⟨_,_,_,_,o,_,_,e,d,_⟩:=I.hok p _ b;exact⟨o,e,d⟩
   obtain⟨o,e,d⟩:=z;refine⟨⟨o,e,d.1⟩,λa g=>?_⟩;cases g;exact⟨o,e,d.2.1⟩
  ·obtain⟨o,_,_,_,e,d,_⟩:=I.hok p _ b;refine⟨⟨o,e,d.1⟩,λa g=>?_⟩;cases g;exact⟨o,e,d.2.1⟩
 |_=>exact False.elim h
def bDe (K:bFP)(T:String)(r:V->List V->Hp->VK->Prop)(to:TE):TE:=fun σ H Q=>to σ H λx H1=>tyV K T x H1/\r x [] H1 Q
def tBM (K:bFP)(T:String)(r:V->List V->Hp->VK->Prop)(to:TE)(t:TA):TE:=fun σ H Q=>to σ H λx H1=>tyV K T x H1/\t σ H1 λxs H2=>r x xs H2 Q
variable {o e:Expr}{es:List Expr}{to:TE}{t:TA}{name:Str}{apos cpos:Pos}{T id:String}{r:V->List V->Hp->VK->Prop}
def bBn (n:PlainAttrs T)(slot:Slot T name id)(k:typeOf (.builtin id)=pure (.type "method_descriptor"))(p:MtR X id r)(q:PE X o to)
  (c:attributeBase o name X.env (eval o X.env)=eval o X.env:=by rfl) (b:(apos.endLine == cpos.line)=true:=by rfl):PE X (.Call (.Attribute o name apos) [] [] cpos) (bDe X.K T r to):=by
 intro a s σ H Q I h;refine wpAny_Call_method0_late c b (thn (q a s σ H _ I h) λv i ⟨x,j,d,e,l,g⟩=>?_);obtain⟨m,f⟩:=aL6 d e l;exact⟨T,id,n,slot,k,m,f,bDM rfl (PySem.evalArgs_none (p a i σ j x [] v [] Q d e .nil g))⟩
def bCb (E:PlainAttrs T)(slot:Slot T name id)(B:typeOf (.builtin id)=pure (.type "method_descriptor"))(F:MtR X id r)(L:PE X o to)(J:PA X (e::es) t)
  (d:attributeBase o name X.env (eval o X.env)=eval o X.env:=by rfl)
  (f:((backTo cpos (starEach (e::es) X.env)).all (λx=>!x.1) && (backToKw cpos (keywordEach [] X.env)).all (λx=>x.1.isSome)
   && decide ((e::es).length+([]:List Keyword).length+(if ([]:List Keyword).isEmpty then 0 else 1)<30))=true:=by rfl)
  (c:(apos.endLine == cpos.line)=true:=by rfl) (G:starEach (e::es) X.env=(false,eval e X.env)::starEach es X.env:=by rfl) (b:(backTo cpos (starEach es X.env)).any (·.1)=false:=by rfl) :
  PE X (.Call (.Attribute o name apos) (e::es) [] cpos) (tBM X.K T r to t):=by
 intro a s σ H Q I h;refine wpAny_Call_method_late d f c rfl (thn (L a s σ H _ I h) λv n ⟨x,w,i,j,C,m⟩=>?_);obtain⟨D,l⟩:=aL6 i j C;refine⟨T,id,E,slot,B,D,l,?_⟩;have g:=J cpos a n σ w _ i m;rw[G] at g ⊢;refine bDM (by show (false || (backTo cpos (starEach es X.env)).any (·.1))=false;rw[b] <;> rfl) (bE7 ?_);exact thn g λy p ⟨z,q,u,A,k⟩=>F a p σ q x z v y Q u j A k
end
def MtM (X:Cx)(id:String)(r:V->List V->Hp->VK->Prop):Prop:=
 ∀bFT s σ H x xs v us Q,Inv X bFT σ H s->RelV x v->Vals xs us->r x xs H Q ->
  wpAny (model X.prog X.w) X.A (call (.builtin id) (v::us)) (EP X bFT σ Q) X.xe s
theorem Vals.one:∀{x:V} {us:List Value},Vals [x] us->∃u,us=[u]/\RelV x u
 |_,_,.cons r .nil=>⟨_,rfl,r⟩
theorem Vals.two:∀{x y:V} {us:List Value},Vals [x,y] us->∃u v,us=[u,v]/\RelV x u/\RelV y v
 |_,_,_,.cons r (.cons q .nil)=>⟨_,_,rfl,r,q⟩
theorem Vals.zero:∀{us:List Value},Vals [] us->us=[]
 |_,.nil=>rfl
theorem Vals.reverse (h:Vals xs us):Vals xs.reverse us.reverse:=by
 induction h with
 |nil=>exact .nil
 |cons r t ih=>rw[List.reverse_cons,List.reverse_cons];exact Vals.append ih (.cons r .nil)
section
variable {X:Cx}{bFT:bFR}{σ:St}{H:Hp}{s:Shared}{l b:Addr}{xs ys zs:List V}
def Inv.lset {its its':List Value}{n:Nat}{f:Array Value->Array Value}{t':Nat}(I:Inv X bFT σ H s)(i:H l=some (.lst xs))
  (e:s.heap.get? l=some { cls:=.type "list",data:=.seq its.toArray n }) (c:f its.toArray=its'.toArray) (g:Vals ys its') (d:ys.length<=sizeLine) :
  Inv X bFT σ (upd H l (.lst ys)) { s with heap:=s.heap.update l (Obj.mapSeq f),toks:=t' }:=by
 have q:=PySem.IsL.update e f;rw[c] at q;refine I.write (x:=l) (e:=l) (by rw[i];exact trivial) (.inl rfl) (λh u b a=>(bDK s.heap (Obj.mapSeq f) (Ne.symm b)).trans a) ⟨_,q⟩ ?_;exact⟨d,its',_,g,q⟩
def Inv.lnew (I:Inv X bFT σ H s)(a:Vals ys its)(b:ys.length<=sizeLine) :
  Inv X bFT σ (upd H s.heap.objs.size (.lst ys)) { s with heap:=s.heap.push { cls:=.type "list",data:=.seq its.toArray },toks:=t' }:=
 I.laid (λ_ _ q=>c7 _ q) (d8 _) ⟨b,its,0,a,j0 _ rfl⟩
theorem Inv.fresh (I:Inv X bFT σ H s):H s.heap.objs.size=none:=I.hok.fresh (d8 _)
def Inv.aS1 (I:Inv X bFT σ H s)(a:H l=some (.lst xs)):xs.length<=sizeLine/\∃its n,Vals xs its/\xs.length=its.length/\s.heap.get? l=some { cls:=.type "list",data:=.seq its.toArray n }:=by obtain⟨z,its,n,r,e⟩:=I.hok l _ a;exact⟨z,its,n,r,r.length,e⟩
end
section
variable {X:Cx}
def aPp:V->List V->Hp->VK->Prop:=λx vs H Q=>∃l xs y,x=.ref l/\vs=[y]/\H l=some (.lst xs)/\xs.length<sizeLine/\Q .non (upd H l (.lst (xs++[y])))
def xP:MtM X "list.append" aPp:=by intro d s σ H x o v m Q I g c h;obtain⟨l,j,y,rfl,rfl,b,i,q⟩:=h;cases g;obtain⟨u,rfl,f⟩:=c.one;obtain⟨z,a,n,r,k,e⟩:=I.aS1 b;refine call_meets F.slot_list_append ⟨_,e,rfl⟩ F.entry_list_append (F.args_list_append_2 _ _) (PySem.list_append l a.toArray n u (by rw[d9];lia)) ⟨e,?_⟩;refine⟨.non,_,I.lset (its':=a++[u]) b e (by simp) (r.append (.cons f .nil)) ?_,rfl,q⟩;rw[bAA,bEX];lia
def aKs:V->List V->Hp->VK->Prop:=λx vs H Q=>∃l xs,x=.ref l/\vs=[]/\H l=some (.lst xs)/\Q .non (upd H l (.lst xs.reverse))
def aN1:MtM X "list.reverse" aKs:=by intro f s σ H x m v k Q I g d h;obtain⟨l,i,rfl,rfl,c,q⟩:=h;cases g;have b:=d.zero;subst b;obtain⟨z,a,n,r,j,e⟩:=I.aS1 c;refine call_meets F.slot_list_reverse ⟨_,e,rfl⟩ F.entry_list_reverse (F.args_list_reverse_1 _) (AutoSeq1.list_reverse_list_0 l a.toArray n (by rw[d9];lia)) ⟨e,?_⟩;refine⟨.non,_,I.lset (its':=a.reverse) c e (by simp) r.reverse ?_,rfl,q⟩;rw[List.length_reverse];lia
def bDp:R2:=λx y H Q=>∃l b xs zs,x=.ref l/\y=.ref b/\H l=some (.lst xs)/\H b=some (.lst zs)/\xs.length+zs.length<=sizeLine/\∀p,H p=none->Q (.ref p) (upd H p (.lst (xs++zs)))
def bBd:OpR X (binaryOp .Add) bDp:=by
 intro m s σ H x y v u Q I i k h;obtain⟨l,b,C,t,rfl,rfl,o,d,w,q⟩:=h;cases i;cases k;obtain⟨z,c,n,r,B,e⟩:=I.aS1 o;obtain⟨D,a,A,j,p,g⟩:=I.aS1 d;refine PySem.P.add_list e g ?_ (by rw[d9,d9];lia);have f:c.toArray++a.toArray=(c++a).toArray:=by simp
 rw[f];exact⟨.ref _,_,I.lnew (t':=s.toks) (r.append j) (by rw[bAA];lia),rfl,q _ I.fresh⟩
end
section
variable {prog:Program}{w:World}{A:Around}{E:bFQ}{s:Shared}
end
section
variable {X:Cx}
end
end L2
namespace Att
open PySem PySem.W PySem.Calls PyProof.Rows
theorem aAd:∀ns vs,WellAll P h vs (ns.map WData.int)->IntsAre vs ns:=by
 intro ns
 induction ns with
 |nil=>intro vs w;rw[List.map_nil] at w;cases w;exact .nil
 |cons n ns ih=>
  intro vs w;rw[bAC] at w;cases w with
  |cons a b=>cases a;exact .cons _ _ (ih _ b)
theorem aQ5 {l:OpenLaw}{n:Nat}(s:l.most=some n){P:Params}{h:Heap}{args:List WData}{vals:List Value}
  (b:l.row.toRowW.claim.pre args=true) (o:WellAll P h vals args) :
  ∃a vs ns,vals=[Value.ref a]/\args=[WData.list (ns.map WData.int)]/\h.get? a=some { cls:=.type "list",data:=.seq vs.toArray }/\IntsAre vs ns/\ns.length<=n:=by
 have g:WShape.hasAll [] args [.list .int]=true:=(pre_splitW b).1;have i:l.pre.holds [] { args:=args }=true:=(pre_splitW b).2;obtain⟨d,r,rfl,p,j⟩:=hasAllW_cons g;obtain rfl:=hasAllW_nil j;obtain⟨t,rfl,m⟩:=hasW_list p;obtain⟨ns,rfl⟩:=items_int m;have c:ns.length<=n:=by
  unfold OpenLaw.pre at i;have f:(WTm.not (.lt (.lit (.int (n:Int))) (.len (.arg 0)))).holds [] { args:=[.list (ns.map .int)] }=true:=by have f:=(holds_andW i).1;rw[s] at f;exact f
  have e:=condW_of f (w_not (w_lt w_lit (w_len_list (w_arg rfl))));rw[j4] at e;refine Nat.le_of_not_lt λq=>?_;have k:(n:Int)<((ns.length:Nat):Int):=by lia
  first
   |(rw[m9 k] at e;exact absurd e (by decide))
   |(simp at e;lia)
 cases o with
 |cons w1 w2=>
  cases w2;cases w1 with
  |list ho hall=>exact⟨_,_,ns,rfl,rfl,ho,aAd ns _ hall,c⟩
def aQ8 (l:OpenLaw)(args:List WData):l.row.toRowW.claim.post args (.bool true) args=true:=
 postW_of
  (show WShape.has [] (.bool true) .bool=true by first|rfl|decide|simp[WShape.has,WShape.arms,WShape.armsAll])
  (show (WTm.eq .res (.lit (.bool true))).value [] { args:=args,res:=some (.bool true),after:=args }=some (.bool (true == true)) from w_eq_bool (w_res rfl) w_lit) rfl
def aJw {l:OpenLaw}{n:Nat}{q:Program}{loose:List Str}{XP:(bFS)->Heap->Prop}{YP:World->Heap->Prop}{d:DefRec}
  (H:l.most=some n) (u:d.params.defaults=[])
  (s:∀(w:World) (s₀ s₁:Shared) (mg mb:bFS) (fa:Addr) (o:Obj) (pm cd doc:Value) (a:Addr) (vs:List Value) (ns:List Int),
   Ground q loose [] XP w s₀ mg mb s₁.heap->YP w s₁.heap ->
   s₁.heap.get? fa=some o->o.data=.func (docDef d.name d.params d.body d.scope pm cd doc)->s₁.heap.CodeRec cd d.name->mg d.name=some (.ref fa) ->
   s₁.heap.get? a=some { cls:=.type "list",data:=.seq vs.toArray }->IntsAre vs ns->ns.length<=n->s₁.gens=#[] ->
   codeAny (model l.prog w) callerA (.call (.ref fa) ⟨[.ref a],[]⟩) (λr s'=>r=.ok (.ret (.bool true))/\OldK s₁.heap s'.heap/\s'.os=s₁.os/\AllBare s'.gens) s₁) :
  WalkO q loose XP YP l.row.toRowW d [] (λf vs=>PySem.call f vs):=by
 intro w s₀ s₁ mg mb G Y fa o pm cd doc v kV y hd i k j A p t I e m C h z;obtain rfl:v=.none:=Dflts.none k u;obtain rfl:kV=.none:=Dflts.noKw k;obtain⟨a,vs,ns,rfl,rfl,g,b,c⟩:=aQ5 H e h;refine enter_call (bCQ (s w s₀ s₁ mg mb fa o pm cd doc a vs ns G Y y (fd_plain hd) i j g b c A) λr s' F=>?_);obtain⟨rfl,B,E,x⟩:=F;exact⟨.inl ⟨.bool true,.bool true,[],rfl,λ_=>rfl,.bool true,aQ8 l _,λ_=>⟨List.Pairwise.nil,λ_ D=>(nomatch D)⟩⟩,B,E,x⟩
section
variable {prog:Program}{w:World}{A:Around}{E:bFQ}{s:Shared}{K:Frag}
end
end Att
namespace L2
open PySem PySem.Spec PyProof.Rows
theorem aE1:∀{vs:List Value} {ns:List Int},IntsAre vs ns->Vals (ns.map V.int) vs
 |_,_,.nil=>.nil
 |_,_,.cons n t h=>.cons ⟨t,rfl⟩ (aE1 h)
abbrev KOf {K:bFP}{h:Heap}(_:K.In h):bFP:=K
def nC (s:Stmt):Arguments:=match s with
 |.FunctionDef _ a _ _ _ _ _ _ _ _=>a
 |_=>{ posonlyargs:=[],args:=[],vararg:=none,kwonlyargs:=[],kw_defaults:=[],kwarg:=none,defaults:=[] }
def fH (s:Stmt):List Stmt:=match s with
 |.FunctionDef _ _ b _ _ _ _ _ _ _=>b
 |_=>[]
def aJ (s:Stmt):Scope:=match s with
 |.FunctionDef _ _ _ _ _ _ sc _ _ _=>sc
 |_=>{ kind:=.function,names:=[],isGenerator:=false,isCoroutine:=false }
abbrev CX0:CXT:=λ_ _ _ _ _ _=>False
abbrev E0:XK:=λ_ _ _=>False
def aEo:qI CX0 X E0:=λ_ _ _ _ _ _ _ h=>h.elim
structure Fun (K:bFP)(x qual:Str)(st:Stmt)(f:Addr)(fd:FuncData):Prop where
 ex:∃(oc:Value) (od:Option Addr) (kV doc pm:Value) (an:Option Addr) (cdv ct:Value) (osl:Array (Option Value)),
  fd=PySem.W.fnOf x qual (nC st) (fH st) (aJ st) .none kV doc pm an cdv ct/\K.lookup f=some ⟨oc,od,.func fd,osl⟩/\PySem.W.codeIn K cdv qual=true
 kp:PySem.W.keepIn K (.ref f)=true
section
variable {P:Program}{w:World}{K:bFP}{mg:bFS}{base:Heap}
def Fun.ok {x qual:Str}{st:Stmt}{f:Addr}{fd:FuncData}{N ps:List Str}{k:Nat}{sp:Sp}(F:Fun K x qual st f fd)(S:aM N ps (aJ st))(g:∀vs H Q E,sp vs H Q E->vs.length=ps.length)
  (c:∀(cdv:Value) (A:Around) (outer:List Env) (s:Shared) (H:Hp) (vs:List V) (Q:VK) (E:XK),Room k (A.deeper (envOfC qual (aJ st) s.heap.objs.size f cdv))->sp vs H Q E ->
   ∃t,PSs (aC2 CX0 P w K mg base N qual (aJ st) f cdv A outer s H E).nox (fH st) t/\t { nx:=λ_ H'=>Q .non H',rt:=Q } (start N vs) H):lY P w K mg base CX0 (k+1) f fd ps sp:=by
 obtain⟨l,p,kV,d,m,o,cdv,n,e,rfl,i,b⟩:=F.ex;refine aY1 i b S g λA outer s H vs Q E j a=>?_;obtain⟨t,h,q⟩:=c cdv A outer s H vs Q E j a;exact⟨t,h.nox,q⟩
def Fun.binds {x qual:Str}{st:Stmt}{f:Addr}{fd:FuncData}{ps:List Str}(F:Fun K x qual st f fd)
  (h:∀(kV doc pm:Value) (an:Option Addr) (cdv ct:Value) (us:List Value),us.length=ps.length->bindArgs (PySem.W.fnOf x qual (nC st) (fH st) (aJ st) .none kV doc pm an cdv ct) ⟨us,[]⟩=pure (ps.zip us)):Binds K fd ps []:=by
 obtain⟨c,d,kV,doc,pm,an,cdv,ct,a,rfl,e,b⟩:=F.ex;exact .all (h kV doc pm an cdv ct)
def aFw {x qual:Str}{st:Stmt}{f:Addr}{e:Value}{h i:Option Addr}{d:Array (Option Value)}{kV b g a ct:Value}(l:K.lookup f=some ⟨e,h,.func (PySem.W.fnOf x qual (nC st) (fH st) (aJ st) .none kV b g i a ct),d⟩)
  (c:PySem.W.codeIn K a qual=true) (k:PySem.W.keepIn K (.ref f)=true):Fun K x qual st f (PySem.W.fnOf x qual (nC st) (fH st) (aJ st) .none kV b g i a ct):=⟨⟨e,h,kV,b,g,i,a,ct,d,rfl,l,c⟩,k⟩
end
def lB (a:Room k A):A.units+1<cLine:=bCB (Nat.add_le_add_left (by decide:1<=64) _) a.units
def iK (h:n<=1000):n<sizeLine:=bCB h (by decide)
section
variable {X:Cx}
def pv (i:Nat)(c:X.N[i]?=some x:=by rfl)(b:Vis X.env.scope x:=by trivial)(hd:(x == ("__debug__":Str))=false:=by decide)
  (a:(x == ("__classdict__":Str))=false:=by decide):PE X (.Name x pos) (aQj i):=bAv c b hd a
end
def cC {A B:Prop}(h:B):if false=true then A else B:=by rw[if_neg v6];exact h
def fG {A B:Prop}(h:A):if true=true then A else B:=by rw[if_pos rfl];exact h
def aMh {c A B:Prop}[Decidable c](a:c->A)(b:¬ c->B):if c then A else B:=by
 by_cases h:c
 ·rw[if_pos h];exact a h
 ·rw[if_neg h];exact b h
def Same (H H':Hp):Prop:=∀b o,H b=some o->H' b=some o
def Same.refl (H:Hp):Same H H:=λ_ _ h=>h
def Same.trans (a:Same H H1)(b:Same H1 H2):Same H H2:=λc o h=>b c o (a c o h)
theorem Same.free (e:Same H H')(h:H' l=Option.none):H l=Option.none:=by
 cases q:H l with
 |none=>rfl
 |some o=>rw[e l o q] at h;cases h
def Same.seq {K:bFP}{H H':Hp}{a:Addr}{xs:List V}(e:Same H H')(h:SqL K H a xs):SqL K H' a xs:=by
 rcases h with (h|⟨o,h⟩)|h
 ·exact .inl (.inl (e _ _ h))
 ·exact .inl (.inr ⟨o,e _ _ h⟩)
 ·exact .inr h
end L2
namespace PySem
namespace RvF
end RvF
section
variable {prog:Program}{w:World}{A:Around}{E:bFQ}{s:Shared}
end
end PySem
namespace L2
open PySem PySem.Spec PyProof.Rows
def aM1:bootBuiltins "int"=some (.type "int"):=by decide +kernel
def aXs:bootBuiltins "bool"=some (.type "bool"):=by decide +kernel
def aTq:bootBuiltins "str"=some (.type "str"):=by decide +kernel
def sS:bootBuiltins "list"=some (.type "list"):=by decide +kernel
def fU:bootBuiltins "tuple"=some (.type "tuple"):=by decide +kernel
def wQ:bootBuiltins "dict"=some (.type "dict"):=by decide +kernel
def aN0:bootBuiltins "set"=some (.type "set"):=by decide +kernel
def aT7:bootBuiltins "zip"=some (.type "zip"):=by decide +kernel
def aHd:bootBuiltins "enumerate"=some (.type "enumerate"):=by decide +kernel
def bW:bootBuiltins "isinstance"=some (.builtin "isinstance"):=by decide +kernel
def dF:bootBuiltins "len"=some (.builtin "len"):=by decide +kernel
def uE:bootBuiltins "all"=some (.builtin "all"):=by decide +kernel
def bBx:bootBuiltins "any"=some (.builtin "any"):=by decide +kernel
def bBk:bootBuiltins "max"=some (.builtin "max"):=by decide +kernel
def iJ:bootBuiltins "sorted"=some (.builtin "sorted"):=by decide +kernel
def aXp {J:It}{n:Nat}{item:Nat->V}{g:TG}{tb:TS}{D:Ends}{σ:St}{H:Hp}(b:Nat->St->Hp->Prop)
  (d:∀i H,i<n->J.go i H) (c:∀H,J.stop n H) (l:∀i H x H',i<n->J.yld i H x H'->H'=H/\x=item i) (o:b 0 σ H)
  (k:∀i σ H,i<n->b i σ H->g (item i) σ H fun σ2 H2=>tb { D with nx:=b (i+1),ct:=b (i+1),bk:=D.nx } σ2 H2) (hd:∀σ H,b n σ H->D.nx σ H) :
  ∃W:Nat->Nat->St->Hp->Prop,(∃m,W 0 m σ H)/\∀i m σ H,W i m σ H ->
   (J.stop i H/\D.nx σ H)\/(J.go i H/\∃N:St->Hp->Prop,(∀σ' H',N σ' H'->∃m',m'<m/\W (i+1) m' σ' H')/\∀x H',J.yld i H x H'->g x σ H' fun σ2 H2=>tb { D with nx:=N,ct:=N,bk:=D.nx } σ2 H2):=by
 refine⟨λi m σ H=>m=n - i/\i<=n/\b i σ H,⟨n,by simp,bAE _,o⟩,?_⟩;rintro i m σ H ⟨rfl,hi,p⟩;by_cases a:i<n
 ·refine .inr ⟨d i H a,b (i+1),fun σ' H' f=>⟨n - (i+1),by lia,rfl,a,f⟩,λx H' y=>?_⟩;obtain⟨j,h⟩:=l i H x H' a y;subst j h;exact k i σ _ a p
 ·have e:i=n:=by lia
  subst e;exact .inl ⟨c H,hd σ H p⟩
def sgn (x:Str)(i:Nat):Str:=⟨#[x.cps.getD i 0]⟩
def aSy (h:x.cps[i]?=some c):(⟨#[c]⟩:Str)=sgn x i:=by unfold sgn;rw[v8,h];rfl
def Its (x:Str):It:=⟨λi _=>i<x.cps.size,λi H v H'=>H'=H/\v=.str (sgn x i),λi _=>x.cps.size<=i⟩
def aRj {P:Program}{w:World}{K:bFP}{tg:Expr}(it:Addr)(x:Str)(t:Tok):Turn P w K tg (Its x) [it] it (λi h=>h.IsStrIter it "str_ascii_iterator" x t i) where
 mem:=by simp
 obj:=λi h a b f=>by
  have e:b=it:=by simpa using f
  subst e;obtain⟨o,e,c,d⟩:=a;exact⟨o,e,λv z=>by rw[d] at z;cases z⟩
 keep:=λi h m a k=>let ⟨o,ho,r⟩:=a;⟨o,k it (by simp) o ho,r⟩
 item:=by intro X D F B J i g s σ H E I l a C;subst D F B;obtain⟨y,q,R,A,n,G⟩:=l it (by simp);refine (Walks.strAscii (prog:=X.prog) (w:=X.w) (I.ok.hd J) it x t).item i s _ _ C a λv m L M j O=>?_;obtain⟨c,u,p,rfl⟩:=M;have Q:Inv X g σ H { s with heap:=m,toks:=L }:=I.turned (λb o f e=>O b o (by simpa using f) e) y q A n G;obtain⟨o,e,S,d⟩:=id j;exact⟨_,rfl,aE3 (s:={ s with heap:=m,toks:=L }) e S d (by decide) ⟨.str ⟨#[c]⟩,H,Q,⟨u,rfl⟩,⟨rfl,by rw[aSy p]⟩,j,λb f=>(l b f).1⟩⟩
 done:=by intro X D F B J i g s σ H E I l a C;subst D F B;obtain⟨y,q,R,A,n,G⟩:=l it (by simp);exact wpAny_pyNext_ascii_end (I.ok.hd J) a (Array.getElem?_eq_none_iff.mpr C) λm N=>⟨rfl,I.turned (t':=s.toks) (λb o f e=>N b o f e) y q A n G⟩
 self:=λ_ _ _ _ _ a h=>wpAny_pyIter_striter_ascii a h
def aQd {P:Program}{w:World}{K:bFP}{tg:Expr}(it:Addr)(x:Str)(t:Tok):Turn P w K tg (Its x) [it] it (λi h=>h.IsStrIter it "str_iterator" x t i) where
 mem:=by simp
 obj:=λi h a b f=>by
  have e:b=it:=by simpa using f
  subst e;obtain⟨o,e,c,d⟩:=a;exact⟨o,e,λv z=>by rw[d] at z;cases z⟩
 keep:=λi h m a k=>let ⟨o,ho,r⟩:=a;⟨o,k it (by simp) o ho,r⟩
 item:=by intro X D F B J i g s σ H E I l a C;subst D F B;obtain⟨y,q,R,A,n,G⟩:=l it (by simp);refine (Walks.strWide (prog:=X.prog) (w:=X.w) (I.ok.hd J) it x t).item i s _ _ C a λv m L M j O=>?_;obtain⟨c,u,p,rfl⟩:=M;have Q:Inv X g σ H { s with heap:=m,toks:=L }:=I.turned (λb o f e=>O b o (by simpa using f) e) y q A n G;obtain⟨o,e,S,d⟩:=id j;exact⟨_,rfl,aE3 (s:={ s with heap:=m,toks:=L }) e S d (by decide) ⟨.str ⟨#[c]⟩,H,Q,⟨u,rfl⟩,⟨rfl,by rw[aSy p]⟩,j,λb f=>(l b f).1⟩⟩
 done:=by intro X D F B J i g s σ H E I l a C;subst D F B;obtain⟨y,q,R,A,n,G⟩:=l it (by simp);exact wpAny_pyNext_wide_end (I.ok.hd J) a (Array.getElem?_eq_none_iff.mpr C) λm N=>⟨rfl,I.turned (t':=s.toks) (λb o f e=>N b o f e) y q A n G⟩
 self:=λ_ _ _ _ _ a h=>wpAny_pyIter_striter_wide a h
section
variable {X:Cx}{tg:Expr}
def aZc (tl:TE):TI:=fun σ H R=>tl σ H λx H1=>∃z,x=.str z/\R (Its z) H1
def bBt (n:PE X l tl):PI X tg l (aZc tl):=by
 intro c s σ H R I h;refine thn (n c s σ H _ I h) λv a ⟨x,f,d,m,j⟩=>?_;obtain⟨z,e,q⟩:=j;subst e;obtain⟨t,rfl⟩:=m;have i:∀b∈[a.heap.objs.size],tH X c f b:=λb k=>by
  have e:b=a.heap.objs.size:=by simpa using k
  subst e;exact d.aD7 (d8 _) (d.hok.fresh (d8 _))
 cases g:z.cps.all (·<128)
 ·exact wpAny_pyIter_wide g ⟨a.heap.objs.size,[a.heap.objs.size],_,_,f,rfl,d.kept (t':=a.toks) λb o e=>c7 _ e,aQd _ z t,⟨_,j0 _ rfl,rfl,rfl⟩,i,q⟩
 ·exact wpAny_pyIter_ascii g ⟨a.heap.objs.size,[a.heap.objs.size],_,_,f,rfl,d.kept (t':=a.toks) λb o e=>c7 _ e,aRj _ z t,⟨_,j0 _ rfl,rfl,rfl⟩,i,q⟩
def aW2 {x:Str}{g:TG}{tb:TS}{D:Ends}{σ:St}{H:Hp}(b:Nat->St->Hp->Prop)(c:b 0 σ H)
  (a:∀i σ H,i<x.cps.size->b i σ H->g (.str (sgn x i)) σ H fun σ2 H2=>tb { D with nx:=b (i+1),ct:=b (i+1),bk:=D.nx } σ2 H2) (hd:∀σ H,b x.cps.size σ H->D.nx σ H) :
  ∃W:Nat->Nat->St->Hp->Prop,(∃m,W 0 m σ H)/\∀i m σ H,W i m σ H ->
   ((Its x).stop i H/\D.nx σ H)\/((Its x).go i H/\∃N:St->Hp->Prop,(∀σ' H',N σ' H'->∃m',m'<m/\W (i+1) m' σ' H')/\∀v H',(Its x).yld i H v H'->g v σ H' fun σ2 H2=>tb { D with nx:=N,ct:=N,bk:=D.nx } σ2 H2):=
 aXp (item:=λi=>.str (sgn x i)) b (λi H h=>h) (λH=>d8 _) (λi H v H' _ y=>y) c a hd
def aZ4:V->List V->Hp->VK->Prop:=λx vs H Q=>∃a b i rest,x=.str a/\vs=[.str b]/\Builtin.Str.occurrences a b 0 a.length 1=i::rest/\Q (.int (i:Nat)) H
def aSs:MtR X "str.index" aZ4:=by intro e s σ H x l v k Q I f d h;obtain⟨a,b,i,c,rfl,rfl,g,q⟩:=h;obtain⟨t,rfl⟩:=f;obtain⟨u,rfl,j,rfl⟩:=d.one;exact SC.index g ⟨.int (i:Nat),H,I.tok _,⟨_,rfl⟩,q⟩
def aL7 (x:V)(T:String):Option Bool:=match x with
 |.int _=>if T = "int" then some true else if T = "bool" then some false else if T = "str" then some false else none
 |.str _=>if T = "int" then some false else if T = "bool" then some false else if T = "str" then some true else none
 |.bl _=>if T = "int" then some true else if T = "bool" then some true else if T = "str" then some false else none
 |_=>none
def bCf:List V->Hp->VK->Prop:=λxs H Q=>∃x T b,xs=[x,.ty T]/\aL7 x T=some b/\Q (.bl b) H
theorem wL:cJ X (.builtin "isinstance") bCf:=by
 intro c s σ H l m Q I r h;obtain⟨x,T,b,rfl,e,q⟩:=h;obtain⟨u,v,rfl,g,j⟩:=r.two;cases j;have f:∀{k:Bool},some k=some b->EP X c σ Q (.bool k) s:=λe=>by cases e;exact⟨.bl _,H,I,rfl,q⟩
 have d:∀{k:Bool},some k=some b->EP X c σ Q (.bool k) { s with toks:=s.toks+1 }:=λe=>by cases e;exact⟨.bl _,H,I.tok _,rfl,q⟩
 cases x with
 |int i=>
  obtain⟨t,rfl⟩:=g;unfold aL7 at e;dsimp only at e
  split at e
  ·rename_i a;subst a;exact IsiPair.int_int (f e)
  split at e
  ·rename_i a;subst a;exact IsiPair.int_bool (d e)
  split at e
  ·rename_i a;subst a;exact IsiPair.int_str (d e)
  ·cases e
 |str z=>
  obtain⟨t,rfl⟩:=g;unfold aL7 at e;dsimp only at e
  split at e
  ·rename_i a;subst a;exact IsiPair.str_int (d e)
  split at e
  ·rename_i a;subst a;exact IsiPair.str_bool (d e)
  split at e
  ·rename_i a;subst a;exact IsiPair.str_str (f e)
  ·cases e
 |bl z=>
  cases g;unfold aL7 at e;dsimp only at e
  split at e
  ·rename_i a;subst a;exact IsiPair.bool_int (f e)
  split at e
  ·rename_i a;subst a;exact IsiPair.bool_bool (f e)
  split at e
  ·rename_i a;subst a;exact IsiPair.bool_str (d e)
  ·cases e
 |_=>cases (show (none:Option Bool)=some b from e)
end
def small (h:n<=1000):n<=sizeLine:=bDJ (iK h)
def aBf:Vals [] []:=.nil
def mX (r:RelV x u)(t:Vals xs us):Vals (x::xs) (u::us):=.cons r t
def dH:Expr->Bool
 |.Starred ..=>false
 |_=>true
def aW (h:dH e=true):starEach (e::es) env=(false,eval e env)::starEach es env:=by cases e <;> first|rfl|cases h
def bDr (c:PE X e te)(b:PA X es t)(a:dH e=true:=by rfl) :
  PA X (e::es) (gY te t):=aWa c b (aW a)
def bDa (b:Gl X x)(a:∃u,X.mg x=some u/\RelV v u)(hd:(x == ("__debug__":Str))=false:=by decide):PE X (.Name x pos) (tC v):=by obtain⟨u,a,r⟩:=a;exact aX6 b a r hd
section
variable {P:Program}{w:World}{K:bFP}{mg:bFS}{base:Heap}
def Dn (K:bFP)(mg:bFS)(x:Str)(st:Stmt)(ps:List Str):Prop:=∃f fd,Fun K x x st f fd/\Binds K fd ps []/\mg x=some (.ref f)
def Ok (P:Program)(w:World)(K:bFP)(mg:bFS)(base:Heap)(k:Nat)(x:Str)(ps:List Str)(sp:Sp):Prop:=
 ∃f fd,mg x=some (.ref f)/\PySem.W.keepIn K (.ref f)=true/\Binds K fd ps []/\lY P w K mg base CX0 k f fd ps sp
theorem Ok.mono (h:Ok P w K mg base j x ps sp)(g:j<=k):Ok P w K mg base k x ps sp:=by obtain⟨f,c,e,a,d,b⟩:=h;exact⟨f,c,e,a,d,b.mono g⟩
def Ok.of {x:Str}{st:Stmt}{N ps:List Str}{k:Nat}{sp:Sp}(D:Dn K mg x st ps)(S:aM N ps (aJ st))(b:∀vs H Q E,sp vs H Q E->vs.length=ps.length)
  (a:∀(f:Addr) (cdv:Value) (A:Around) (outer:List Env) (s:Shared) (H:Hp) (vs:List V) (Q:VK) (E:XK),Room k (A.deeper (envOfC x (aJ st) s.heap.objs.size f cdv))->sp vs H Q E ->
   ∃t,PSs (aC2 CX0 P w K mg base N x (aJ st) f cdv A outer s H E).nox (fH st) t/\t { nx:=λ_ H'=>Q .non H',rt:=Q } (start N vs) H):Ok P w K mg base (k+1) x ps sp:=by
 obtain⟨f,c,F,B,m⟩:=D;exact⟨f,c,m,F.kp,B,F.ok S b λcdv A outer s H vs Q E d h=>a f cdv A outer s H vs Q E d h⟩
end
section
variable {X:Cx}{k:Nat}{ps:List Str}{sp:Sp}{x:Str}{p pos:Pos}{e:Expr}{es:List Expr}{t:TA}
def bC4 (G:Ok X.prog X.w X.K X.mg X.base k x ps sp)(m:Room k X.A)(i:Gl X x)(j:PA X (e::es) t)(d:(x == ("__debug__":Str))=false:=by decide)
  (l:starEach (e::es) X.env=(false,eval e X.env)::starEach es X.env:=by rfl) (a:(backTo pos (starEach es X.env)).any (·.1)=false:=by rfl) :
  PE X (.Call (.Name x p) (e::es) [] pos) (aFr sp [] E0 t):=by
 obtain⟨f,n,h,b,g,c⟩:=G;exact aW0 c m i h b g .nil aEo j d l a
def bA3 (G:Ok X.prog X.w X.K X.mg X.base k x ps sp)(h:Room k X.A)(g:Gl X x)(c:(x == ("__debug__":Str))=false:=by decide) :
  PE X (.Call (.Name x p) [] [] pos) (aFr sp [] E0 aF3):=by
 obtain⟨f,i,e,a,d,b⟩:=G;exact aS7 b h g e a d .nil aEo c
end
theorem uG (f:Str × NameKind->List (Str × Addr)->Sem (ForInStep (List (Str × Addr))))
  (l:∀n r,f (n,.free) r=(cellOf env n >>= λa=>pure (.yield ((n,a)::r)))) (i:∀n k r,k≠.free->f (n,k) r=pure (.yield r)) :
  ∀(names:List (Str × NameKind)) (acc:List (Str × Addr)),(∀y∈names,y.2=.free->∃c,env.cells.lookup y.1=some c) ->
  ∃cl,forIn names acc f=(pure (cl++acc):Sem _)/\(∀p∈cl,env.cells.lookup p.1=some p.2/\(p.1,NameKind.free)∈names)/\∀y,(y,NameKind.free)∈names->∃c,(y,c)∈cl
 |[],acc,_=>⟨[],by simp,λ_ h=>(nomatch h),λ_ h=>(nomatch h)⟩
 |(n,k)::r,acc,h=>by
  by_cases g:k=.free
  ·subst g;obtain⟨c,j⟩:=h (n,.free) j7 rfl;obtain⟨cl,e,b,d⟩:=uG f l i r ((n,c)::acc) λy hy=>h y (j5 _ hy);refine⟨cl++[(n,c)],?_,λp hp=>?_,λy hy=>?_⟩
   ·rw[bDC,l];have m:cellOf env n=pure c:=by unfold cellOf;rw[j]
    rw[m,pure_bind,pure_bind];show forIn r ((n,c)::acc) f=_;rw[e,bCS];rfl
   ·rcases List.mem_append.mp hp with hp|hp
    ·exact⟨(b p hp).1,j5 _ (b p hp).2⟩
    ·obtain rfl:=List.mem_singleton.mp hp;exact⟨j,j7⟩
   ·rcases List.mem_cons.mp hy with e|hy
    ·cases e;exact⟨c,by simp⟩
    ·obtain⟨o,q⟩:=d y hy;exact⟨o,bBL _ q⟩
  ·obtain⟨cl,e,b,d⟩:=uG f l i r acc λy hy=>h y (j5 _ hy);refine⟨cl,?_,λp hp=>⟨(b p hp).1,j5 _ (b p hp).2⟩,λy hy=>?_⟩
   ·rw[bDC,i n k acc g,pure_bind];exact e
   ·rcases List.mem_cons.mp hy with e|hy
    ·cases e;exact absurd rfl g
    ·exact d y hy
theorem aCo (h:∀y∈scope.names,y.2=.free->∃c,env.cells.lookup y.1=some c) :
  ∃cl,closureFor scope env=pure cl/\(∀p∈cl,env.cells.lookup p.1=some p.2/\(p.1,NameKind.free)∈scope.names)/\∀y,(y,NameKind.free)∈scope.names->∃c,(y,c)∈cl:=by
 unfold closureFor;obtain⟨cl,e,d,f⟩:=uG (env:=env) (λx r=>match x with|(name,kind)=>if (kind == NameKind.free)=true then do let a <-cellOf env name;pure (.yield ((name,a)::r)) else pure (.yield r))
  (λn r=>rfl) (λn k r b=>by
   have:(k == NameKind.free)=false:=by simpa using b
   simp only[this,bBD,if_false]) scope.names [] h
 refine⟨cl,?_,d,f⟩;rw[bCV] at e;refine Eq.trans ?_ e;first
 |rfl
 |simp
theorem lookup_mem {α β:Type}[BEq α][LawfulBEq α]{a:α}{b:β}:∀{l:List (α × β)},(a,b)∈l->∃b',l.lookup a=some b'
 |(x,y)::r,h=>by
  rw[bCW];by_cases e:(a == x)=true
  ·exact⟨y,by rw[e]⟩
  ·have c:(a == x)=false:=by simpa using e
   rw[c];rcases List.mem_cons.mp h with z|z
   ·cases z;simp at e
   ·exact lookup_mem z
theorem wH {env:Env}{y:Str}{k:NameKind}:∀{names:List (Str × NameKind)},names.lookup y=some .free ->
  (names.map λx=>match x with|(n,k)=>if (k == NameKind.free && env.scope.kind == ScopeKind.function && env.kindOf n == some NameKind.cell) then (n,NameKind.cell) else (n,k)).lookup y=some .cell \/
  (names.map λx=>match x with|(n,k)=>if (k == NameKind.free && env.scope.kind == ScopeKind.function && env.kindOf n == some NameKind.cell) then (n,NameKind.cell) else (n,k)).lookup y=some .free
 |[],h=>by simp at h
 |(n,k')::r,h=>by
  rw[bAC];rw[bCW] at h;by_cases e:(y == n)=true
  ·rw[e] at h;cases h;by_cases q:((NameKind.free == NameKind.free) && env.scope.kind == ScopeKind.function && env.kindOf n == some NameKind.cell)=true
   ·left;simp only[q,if_true,bCW,e]
   ·right;have d:=Bool.eq_false_iff.mpr q;simp only[d,bBD,if_false,bCW,e]
  ·have b:(y == n)=false:=by simpa using e
   rw[b] at h;have f:=wH (env:=env) (k:=k) h;have a:∀z:Str × NameKind,z.1=n->(List.lookup y (z::(r.map λx=>match x with|(n,k)=>if (k == NameKind.free && env.scope.kind == ScopeKind.function && env.kindOf n == some NameKind.cell) then (n,NameKind.cell) else (n,k)))) =
     List.lookup y (r.map λx=>match x with|(n,k)=>if (k == NameKind.free && env.scope.kind == ScopeKind.function && env.kindOf n == some NameKind.cell) then (n,NameKind.cell) else (n,k)):=λz c=>by
    obtain⟨j,i⟩:=z;cases c;rw[bCW,b]
   have g:(match ((n,k'):Str × NameKind) with|(n,k)=>if (k == NameKind.free && env.scope.kind == ScopeKind.function && env.kindOf n == some NameKind.cell) then (n,NameKind.cell) else (n,k)).1=n:=by
    dsimp only
    split <;> rfl
   rw[a _ g];exact f
theorem vO {env:Env}{y:Str}:∀{names:List (Str × NameKind)},(∀z∈names,z.2≠.cell) ->
  ((names.map λx=>match x with|(n,k)=>if (k == NameKind.free && env.scope.kind == ScopeKind.function && env.kindOf n == some NameKind.cell) then (n,NameKind.cell) else (n,k)).lookup y=some .cell \/
  (names.map λx=>match x with|(n,k)=>if (k == NameKind.free && env.scope.kind == ScopeKind.function && env.kindOf n == some NameKind.cell) then (n,NameKind.cell) else (n,k)).lookup y=some .free)->(y,NameKind.free)∈names
 |[],_,h=>by simp at h
 |(n,k')::r,hc,h=>by
  rw[bAC] at h;by_cases e:(y == n)=true
  ·have i:y=n:=by simpa using e
   subst i;have d:k'=.free:=by
    by_cases q:((k' == NameKind.free) && env.scope.kind == ScopeKind.function && env.kindOf y == some NameKind.cell)=true
    ·rw[bAQ,bAQ] at q;simpa using q.1.1
    ·have f:=Bool.eq_false_iff.mpr q;simp only[f,bBD,if_false,bCW,e] at h;rcases h with h|h
     ·cases h;exact absurd rfl (hc (y,.cell) j7)
     ·cases h;rfl
   subst d;exact j7
  ·have c:(y == n)=false:=by simpa using e
   have a:∀z:Str × NameKind,z.1=n->(List.lookup y (z::(r.map λx=>match x with|(n,k)=>if (k == NameKind.free && env.scope.kind == ScopeKind.function && env.kindOf n == some NameKind.cell) then (n,NameKind.cell) else (n,k)))) =
     List.lookup y (r.map λx=>match x with|(n,k)=>if (k == NameKind.free && env.scope.kind == ScopeKind.function && env.kindOf n == some NameKind.cell) then (n,NameKind.cell) else (n,k)):=λz b=>by
    obtain⟨l,j⟩:=z;cases b;rw[bCW,c]
   have g:(match ((n,k'):Str × NameKind) with|(n,k)=>if (k == NameKind.free && env.scope.kind == ScopeKind.function && env.kindOf n == some NameKind.cell) then (n,NameKind.cell) else (n,k)).1=n:=by
    dsimp only
    split <;> rfl
   rw[a _ g] at h;exact j5 _ (vO (λz b=>hc z (j5 _ b)) h)
section
variable {prog:Program}{w:World}{A:Around}{E:bFQ}{R:Result->Shared->Prop}{s:Shared}
theorem aEm (I:Nat->Shared->Prop)
  (f:∀n s,I n s->wpAny (model prog w) A (pyNext it) (λr s₁=>match r with
   |none=>R (.ok .next) s₁
   |some v=>wpAny (model prog w) A (letOwnedTupleGo target it v) (λ_ s'=>wpAny (model prog w) A (assign target env v) (λ_ s₂=>
     wpAny (model prog w) A (forIn ifs true λc r=>if r=true then do let ok <-isTrue c env (eval c env);pure (ForInStep.yield ok) else pure (ForInStep.yield r)) (λok s₃=>
      if ok=true then wpAny (model prog w) A (eval elt env) (λx s₄=>
       wpAny (model prog w) A (call (.builtin "list.append") [acc,x]) (λ_ s₅=>∃m,m<n/\I m s₅) (notedBy (model prog w) A env λe s'=>R (.error e) s') s₄) (notedBy (model prog w) A env λe s'=>R (.error e) s') s₃
      else ∃m,m<n/\I m s₃) (notedBy (model prog w) A env λe s'=>R (.error e) s') s₂) (notedBy (model prog w) A env λe s'=>R (.error e) s') s') (notedBy (model prog w) A env λe s'=>R (.error e) s') s₁)
   (notedBy (model prog w) A env λe s'=>R (.error e) s') s)
  (n:Nat) (h:I n s):codeAny (model prog w) A (.compLoop (.ListComp elt [⟨target,iter,ifs,0⟩] scope pos) 0 it acc env) R s:=by
 refine codeAny_loop rfl I (λn s i=>?_) n h;show wpAny _ A ((compTurn (.ListComp elt [⟨target,iter,ifs,0⟩] scope pos) 0 it acc env).onRaise (λx=>do noteFrame x env;theTreesLotGoes x)) _ _ s;refine wpAny_noted ?_;rw[compTurn_list];refine b7 (wpAny_standAt (b7 (bBN (f n s i) (λr s₁ g=>?_) λ_ _ a=>a)));cases r with
 |none=>exact d7 g
 |some v=>
  refine b7 (bBN g (λ_ s' b=>b7 (bBN b (λ_ s₂ k=>b7 (bBN k (λok s₃ d=>?_) λ_ _ a=>a)) λ_ _ a=>a)) λ_ _ a=>a);cases ok with
  |false=>exact d7 ⟨rfl,d⟩
  |true=>exact b7 (b7 (bBN d (λx s₄ j=>b7 (bBN j (λ_ s₅ l=>d7 (d7 ⟨rfl,l⟩)) λ_ _ a=>a)) λ_ _ a=>a))
end
def cxC (X:Cx)(N:List Str)(scope:Scope)(cl:List (Str × Addr))(s:Shared)(H:Hp)(fp:List Addr):Cx:=
 { X with N:=N,s₀:=s,H₀:=H,env:=compEnvC scope cl s.heap.objs.size X.env,outer:=X.stack,stack:=X.stack,ex:=fp,fn:=λ_=>false,pn:=[],xe:=λ_ _=>False }
def aSo (X:Cx)(ifs:List Expr)(tt:TT):Prop:=
 ∀bFT s σ H Q,Inv X bFT σ H s->tt σ H Q ->
  wpAny (model X.prog X.w) X.A (forIn ifs true λc r=>if r=true then do let ok <-isTrue c X.env (eval c X.env);pure (ForInStep.yield ok) else pure (ForInStep.yield r)) (TP X bFT σ Q) X.xe s
def mW:TT:=λ_ H Q=>Q true H
def bBi:aSo X [] mW:=λ_ _ _ H _ I h=>wpAny_tests_nil ⟨H,I,h⟩
def aZo (h:PT X c tc):aSo X [c] tc:=λa s σ H Q I q=>wpAny_tests_one (h a s σ H Q I q)
structure aAt (scope:Scope)(N:List Str):Prop where
 cell:∀y∈scope.names,y.2≠.cell
 kind:scope.kind=.function
 names:∀y∈scope.names,y.2=.local->scope.names.lookup y.1=some .local
 free:∀y∈scope.names,y.2=.free->scope.names.lookup y.1=some .free
def Cap (X:Cx)(scope:Scope)(N:List Str)(σ σ':St):Prop:=
 σ'.length=N.length/\∀(i:Nat) (y:Str) (v:V),N[i]?=some y->σ'[i]?=some (some v)->(y,NameKind.free)∈scope.names/\∃j:Nat,X.N[j]?=some y/\σ[j]?=some (some v)/\Vis X.env.scope y
def aKr {X:Cx}{bFT:bFR}{σ σ':St}{H:Hp}{s:Shared}{scope:Scope}{N:List Str}{cl:List (Str × Addr)}{fp:List Addr}{V:Heap}{tk:Nat}{m1:bFS}
  (I:Inv X bFT σ H s) (C:aAt scope N) (a0:∀y,(y,NameKind.free)∈scope.names->X.env.kindOf y=some .cell\/X.env.kindOf y=some .free)
  (p1:∀p∈cl,X.env.cells.lookup p.1=some p.2/\(p.1,NameKind.free)∈scope.names) (p2:∀y,(y,NameKind.free)∈scope.names->∃c,(y,c)∈cl)
  (E:Cap X scope N σ σ') (L:∀b∈fp,tH X bFT H b) (a1:∀b∈fp,b<s.heap.objs.size)
  (hn:V.Ns s.heap.objs.size m1) (A:∀b o,s.heap.get? b=some o->V.get? b=some o) :
  Inv (cxC X N scope cl s H fp) [] σ' H { s with heap:=V,toks:=tk }:=by
 have a:=I.ok;have g:∀y c,cl.lookup y=some c->X.env.cells.lookup y=some c:=λy c e=>(p1 _ (PySem.mem_of_lookup e)).1;have n:∀y,(y,NameKind.free)∈scope.names->∃c,cl.lookup y=some c/\X.env.cells.lookup y=some c:=λy d=>by obtain⟨c,hc⟩:=p2 y d;obtain⟨J,e⟩:=lookup_mem hc;exact⟨J,e,g y J e⟩
 have w:∀b∈fp,b∉frs X.stack:=λb f z=>by
  obtain⟨M,D,G,_⟩:=L b f;rcases List.mem_cons.mp (I.aG5 b z) with e|e
  ·exact D e
  ·exact G e
 have B:(cxC X N scope cl s H fp).Ok:=by
  refine⟨a.mod,C.kind,a.glob,a.blt,d8 _,λx y c V Y=>a.inj x y c (g x c V) (g y c Y),λy d=>?_,λy c h _=>?_,a.hd,a.frames,.inl rfl,λb f=>?_,I.bs,bAK a.bsz I.sz,
   λb o e f=>?_,w,I.stack,I.wC⟩
  ·obtain⟨c,e,_⟩:=n y (vO C.cell d);exact⟨c,e⟩
  ·exact absurd (show false=true from h) v6
  ·obtain⟨M,D,G,O,K,f5⟩:=L b f;exact⟨t6 (a1 b f),λx c e=>K x c (g x c e)⟩
  ·obtain⟨M,D,G,O,K,f5⟩:=L b f;rcases O with z|z
   ·exact a.noex b o e z
   ·exact absurd (bAB (j8 e) (bAK a.bsz z)) (bBO _)
 refine⟨B,rfl,I.bare,Un.kept A,⟨m1,hn,λi y v T Q e3=>?_⟩,λy c e=>?_,I.hok.fresh (d8 _),λy c e=>I.freeC y c (g y c e),λp U=>absurd (show p∈([]:bFR) from U) (by simp),I.hok.kept A,E.1⟩
 ·obtain⟨d,j,S,Z,P⟩:=E.2 i y v T Q;obtain⟨m,_,R⟩:=I.loc;obtain⟨u,r,l⟩:=R j y v S Z P;refine⟨u,r,.inr ?_⟩;rcases l with⟨k,_⟩|⟨k,c,e,z⟩
  ·rcases a0 y d with q|q <;> (rw[k] at q;cases q)
  ·obtain⟨J,W,t⟩:=n y d;rw[e] at t;cases t;have rl:=wH (env:=X.env) (k:=.free) (C.free (y,.free) d rfl);refine⟨rl,c,W,?_⟩;obtain⟨o,F,hd⟩:=z;exact⟨o,A _ _ F,hd⟩
 ·obtain⟨v,o,F,hd⟩:=I.cell y c (g y c e);exact⟨v,o,A _ _ F,hd⟩
def lM (X:Cx)(scope:Scope)(N:List Str)(wi:TI)(g:TG)(tt:TT)(te:TE):TE:=fun σ H Q=>∃σ0,Cap X scope N σ σ0/\wi σ H λJ H1=>∀D,H1 D=none->∃W:Nat->Nat->St->Hp->List V->Prop,(∃m,W 0 m σ0 (upd H1 D (.lst [])) []) /\
 ∀i m σ' H' ys,W i m σ' H' ys->H' D=some (.lst ys)/\((J.stop i H'/\Q (.ref D) H')\/(J.go i H'/\∀x H2,J.yld i H' x H2->g x σ' H2 fun σ3 H3=>tt σ3 H3 λb H4=>
  if b=true then te σ3 H4 λy H5=>H5 D=some (.lst ys)/\ys.length<sizeLine/\∃m',m'<m/\W (i+1) m' σ3 (upd H5 D (.lst (ys++[y]))) (ys++[y]) else H4 D=some (.lst ys)/\∃m',m'<m/\W (i+1) m' σ3 H4 ys))
def aX9 {X:Cx}{ax a8 ap:Expr}{aw:List Expr}{scope:Scope}{av:Pos}{N:List Str}{wi:TI}{g:TG}{tt:TT}{te:TE}
  (C:aAt scope N) (af:∀y,(y,NameKind.free)∈scope.names->X.env.kindOf y=some .cell\/X.env.kindOf y=some .free) (hc:X.calm=true)
  (hi:PI X a8 ap wi)
  (a:∀cl s H fp,PG (cxC X N scope cl s H fp) a8 g/\aSo (cxC X N scope cl s H fp) aw tt/\PE (cxC X N scope cl s H fp) ax te)
  (hs:∀x,foldedSetIterable ap X.env x=pure x:=by intro _;rfl) :
  PE X (.ListComp ax [⟨a8,ap,aw,0⟩] scope av) (lM X scope N wi g tt te):=by
 intro D s σ H Q I hq;obtain⟨σ0,am,hq⟩:=hq;obtain⟨cl,ae,p1,p2⟩:=aCo (scope:=scope) (env:=X.env) (λy hy hk=>by obtain⟨n,k⟩:=y;cases hk;exact I.ok.has n (af n hy))
 rw[eval_ListComp];refine wpAny_comprehension_free (use:=none) rfl hs ae C.kind C.names (thn (hi D s σ H _ I hq) λxv s1 h1=>thn h1 λau f h2=>?_);obtain⟨it,fp,tn,J,G,rfl,I2,T,a2,f2,q2⟩:=h2;refine bAO (bE8 C.cell (by intro y hy;simp at hy) (λh₁ F E=>?_) C.kind);dsimp only at F E ⊢;have hD:G f.heap.objs.size=none:=I2.hok.fresh (d8 _);have I3:Inv X D σ (upd G f.heap.objs.size (.lst [])) { f with heap:=f.heap.push { cls:=.type "list",dict:=none,data:=.seq ([]:List Value).toArray } }:=
  I2.laid (t':=f.toks) (λb u e=>c7 _ e) (d8 _) ⟨bAE _,[],0,.nil,j0 _ rfl⟩
 generalize a0:({ f with heap:=f.heap.push { cls:=.type "list",dict:=none,data:=.seq ([]:List Value).toArray } }:Shared)=s3 at I3;have P:f.heap.push { cls:=.type "list",dict:=none,data:=.seq ([]:List Value).toArray }=s3.heap:=by rw[<-a0]
 rw[P] at F E;have a6:∀b∈fp,b<f.heap.objs.size:=λb a=>by obtain⟨o,e,_⟩:=T.obj _ _ a2 b a;exact j8 e
 have ah:∀b∈fp,b<s3.heap.objs.size:=λb a=>by rw[<-P,bAW];exact bBA (a6 b a)
 have f3:∀b∈fp,tH X D (upd G f.heap.objs.size (.lst [])) b:=λb a=>by obtain⟨f0,fr⟩:=f2 b a;exact⟨by rw[aR (t6 (a6 b a))];exact f0,fr⟩
 have B:∀b o,s3.heap.get? b=some o->h₁.get? b=some o:=λb o e=>E.extBut b o (t6 (j8 e)) (c7 _ e);have I4:=aKr (tk:=s3.toks) I3 C af p1 p2 am f3 ah F B;have a1:tn 0 h₁:=T.keep _ _ _ a2 λb a o e=>B b o (by rw[<-P];exact c7 _ e);obtain⟨W,⟨m0,w0⟩,a4⟩:=q2 f.heap.objs.size hD;have V:∀{R:Hp},(∀b∈fp,R b=none)->∀b∈fp,tH (cxC X N scope cl s3 (upd G f.heap.objs.size (.lst [])) fp) [] R b:=λ{R} hn b a=>by obtain⟨e1,e2⟩:=I4.ok.exf b a;exact⟨hn b a,e1,I4.ok.exfs b a,.inl a,e2,λp hp=>absurd (show p∈([]:bFR) from hp) (by simp)⟩
 have M:∀s4:Shared,s4={ s3 with heap:=h₁,toks:=s3.toks } ->
   codeAny (model X.prog X.w) X.A (.compLoop (.ListComp ax [⟨a8,ap,aw,0⟩] scope av) 0 (.ref it) (.ref f.heap.objs.size) (compEnvC scope cl s3.heap.objs.size X.env))
    (compPost (model X.prog X.w) X.A X.xe none (EP X D σ Q) (.ref f.heap.objs.size) s3.heap.objs.size) s4:=by
  rintro s4 rfl;refine aEm (λn s'=>∃i σ' R ys,Inv (cxC X N scope cl s3 (upd G f.heap.objs.size (.lst [])) fp) [] σ' R s'/\tn i s'.heap/\(∀b∈fp,R b=none)/\W i n σ' R ys) ?_ m0 ⟨0,σ0,_,[],I4,a1,λb a=>(f3 b a).1,w0⟩;rintro n s5 ⟨i,σ5,H5,ys,I5,st5,fr5,w5⟩;obtain⟨aq,w5⟩:=a4 i n σ5 H5 ys w5;have l:∀{α:Type} {t:Sem α} {Q':α->Shared->Prop} {E':bFQ} {s':Shared},wpAny (model X.prog X.w) X.A t Q' (λ_ _=>False) s'->wpAny (model X.prog X.w) X.A t Q' E' s':=λh=>bBN h (λ_ _ q=>q) λ_ _ z=>z.elim;rcases w5 with⟨a3,qn⟩|⟨go,step⟩
  ·refine l (thn (T.done (cxC X N scope cl s3 (upd G f.heap.objs.size (.lst [])) fp) rfl rfl rfl hc i [] s5 σ5 H5 _ I5 (V fr5) st5 a3) λr s6 ⟨hr,Y⟩=>?_);subst hr;obtain⟨m6,ag,_⟩:=Y.loc;refine⟨m6,ag,λh' sb=>?_⟩;have kp:∀b o,b≠s3.heap.objs.size->s6.heap.get? b=some o->h'.get? b=some o:=λb o a e=>sb.extBut b o a e;have O:∀b o,s3.heap.get? b=some o->b≠s3.heap.objs.size:=λb o e=>t6 (j8 e);have un:Un (frs X.stack) fp (upd G f.heap.objs.size (.lst [])) H5 s3.heap h':=by
    have u:=Y.base;exact⟨λb o e n a hx=>kp b o (O b o e) (u.keep b o e n a hx),λb o e n a hx=>by
     obtain⟨sl,e1⟩:=u.slot b o e n a hx;exact⟨sl,kp b _ (O b o e) e1⟩,u.free,λb o e hx=>by
     obtain⟨o',e1⟩:=u.there b o e hx;exact⟨o',kp b _ (O b o e) e1⟩,u.tups,u.frzs,u.tbls⟩
   have ab:HOk X.prog X.w H5 h':=λb u e=>by
    refine (Y.hok b u e).stay (λc v al q=>kp c v ?_ q) (λ_ q=>q) λ_ _ q=>q;have j:H5 s3.heap.objs.size=none:=Y.free;rintro rfl;rcases al with z|z
    ·rw[z] at j;rw[j] at e;cases e
    ·rw[j] at z;cases z
   have I7:Inv X D σ H5 { s6 with heap:=h' }:=by refine I3.call' (s':={ s6 with heap:=h' }) Y.os un ab Y.bare λb a=>?_;obtain⟨f0,f1,as,ad,f4,f5⟩:=f3 b a;exact⟨ad,f1,f4,f5⟩
   exact⟨.ref f.heap.objs.size,H5,I7,rfl,qn⟩
  ·refine l (thn (T.item (cxC X N scope cl s3 (upd G f.heap.objs.size (.lst [])) fp) rfl rfl rfl hc i [] s5 σ5 H5 (λ_ _=>False) I5 (V fr5) st5 go) λr s6 ⟨u,hr,h6⟩=>?_);subst hr;refine l (thn h6 λ_ s7 ⟨x,H7,I7,r7,y7,U,ak⟩=>?_);obtain⟨hg,ht,he⟩:=a cl s3 (upd G f.heap.objs.size (.lst [])) fp;have an:=I7.pinned (V ak) (T.obj _ _ U);have m:∀{L:St} {H8:Hp} {s8:Shared},Inv (cxC X N scope cl s3 (upd G f.heap.objs.size (.lst [])) fp) ([]++yL fp s7.heap) L H8 s8->tn (i+1) s8.heap/\∀b∈fp,H8 b=none:=λ{L H8 s8} I8=>
    ⟨T.keep _ _ _ U λb a o e=>(I8.pin (b,o) (z9 _ (z9 _ (jV a e)))).1,λb a=>by obtain⟨o,e,d⟩:=T.obj _ _ U b a;exact (I8.pin (b,o) (z9 _ (z9 _ (jV a e)))).2.1⟩
   refine l (thn (hg _ s7 σ5 H7 x u _ an r7 (step x H7 y7)) λ_ s8 ⟨L,H8,I8,q8⟩=>?_);refine l (thn (ht _ s8 L H8 _ I8 q8) λb s9 ⟨H9,I9,q9⟩=>?_);cases b with
   |false=>rw[if_neg v6] at q9 ⊢;obtain⟨_,m',hm,w9⟩:=q9;exact⟨m',hm,i+1,L,H9,ys,I9.mF,(m I9).1,(m I9).2,w9⟩
   |true=>rw[if_pos rfl] at q9 ⊢;refine l (thn (he _ s9 L H9 _ I9 q9) λyv ai ⟨y,a7,ao,a9,K,a5,m',hm,aj⟩=>?_);refine l (thn (xP _ ai L a7 (.ref f.heap.objs.size) [y] (.ref f.heap.objs.size) [yv] (λ_ Z=>Z=upd a7 f.heap.objs.size (.lst (ys++[y]))) ao rfl (.cons a9 .nil) ⟨_,_,_,rfl,rfl,K,a5,rfl⟩) λ_ ar ⟨z,Z,S,_,aa⟩=>?_);subst aa;exact⟨m',hm,i+1,L,_,ys++[y],S.mF,(m S).1,(m S).2,aj⟩
 have ac:=codeAny_compStart_list (M { s3 with heap:=h₁,toks:=s3.toks } rfl) (T.self _ _ _ _ _ a1 (M { s3 with heap:=h₁,toks:=s3.toks } rfl));subst a0;exact ac
end L2
namespace PySem
open Sem (wp)
namespace IfF
def aUw:typeLookup (.type "function") "__class__"=pure (some (.builtin "object.__class__")):=by rw[typeLookup_type,builtinLookup_eq_fast];kernel_rfl
def aAk:Slot "function" "__getattribute__" "object.__getattribute__":=
 .of (owner:="object") (n:="__getattribute__") (by rw[typeLookup_type,builtinLookup_eq_fast];kernel_rfl) (by decide +kernel) (by decide +kernel) (by decide +kernel)
  (by first|exact .inl (by decide +kernel)|exact .inr (by decide +kernel)) (by rw[isSubtype_type];kernel_rfl)
def aUr:entryFor table "object.__getattribute__"=some Builtin.«object.__getattribute__»:=entryFor_of_tree (by kernel_rfl)
def aAb:isSubtype (.type "function") (.type (".".intercalate ("object.__class__".cutAt '.').dropLast))=pure true:=by rw[F.owner_object_class,isSubtype_type];kernel_rfl
def sub_int:isSubtype (.type "function") (.type "int")=pure false:=by rw[isSubtype_type];kernel_rfl
def sub_bool:isSubtype (.type "function") (.type "bool")=pure false:=by rw[isSubtype_type];kernel_rfl
def aV1:isSubtype (.type "function") (.type "str")=pure false:=by rw[isSubtype_type];kernel_rfl
end IfF
section
variable {prog:Program}{w:World}{A:Around}{E:bFQ}{h:Heap}{g:Array GenState}{d:Drawn}{t:Nat}{os:OsState}{a:Addr}{o:Obj}
def aH5 (e:h.get? a=some o)(c:o.cls=.type "function")(hq:R (.ok (.ret (.type "function"))) ⟨h,g,d,t,os⟩) :
  codeAny (model prog w) A (.call (.builtin "getset_descriptor.__get__") ⟨[.builtin "object.__class__",.ref a,.type "function"],[]⟩) R ⟨h,g,d,t,os⟩:=by
 have f:(⟨h,g,d,t,os⟩:Shared).TypeIs (.ref a) "function":=⟨_,e,c⟩;have b:=F.typeOf_object_class;have i:=IfF.aAb;refine bDV F.slot_gs_get.plain F.entry_gs_get (F.slot_gs_get.check _ _ _ _ _ _ _ _ b (F.args_gs_get _ _ _) ?_)
 repeat (any_goals (first|assumption|wp_step))
 refine⟨Code.quiet_builtin _ (by decide +kernel),bBG F.entry_object_class ?_⟩
 repeat (any_goals (first|assumption|wp_step))
def aC3 (b:h.get? a=some o)(e:o.cls=.type "function")(hq:Q (.done (.ret (.type "function"))) ⟨h,g,d,t,os⟩) :
  wpAny (model prog w) A (Builtin.«object.__getattribute__» ⟨[.ref a,.str "__class__" tk],[]⟩) Q E ⟨h,g,d,t,os⟩:=by
 have l:(⟨h,g,d,t,os⟩:Shared).TypeIs (.ref a) "function":=⟨_,b,e⟩;have c:=F.typeOf_object_class;have f:=IfF.aUw;have i:=F.typeOf_object_class;have j:=F.slot_gs_get.lookup;have k:=F.slot_gs_set.lookup
 repeat (any_goals (first|assumption|wp_step))
 refine aH5 b e ?_
 repeat (any_goals (first|assumption|wp_step))
def aKn (c:h.get? a=some o)(b:o.cls=.type "function")(hq:Q (.type "function") ⟨h,g,d,t,os⟩):wpAny (model prog w) A (getAttrBy (.ref a) (.str "__class__" tk) false) Q E ⟨h,g,d,t,os⟩:=by
 have e:(⟨h,g,d,t,os⟩:Shared).TypeIs (.ref a) "function":=⟨_,c,b⟩;have i:=IfF.aAk.lookup;have f:=IfF.aAk.bind (.ref a)
 repeat (any_goals (first|assumption|wp_step))
 refine bDV IfF.aAk.plain IfF.aUr (IfF.aAk.check _ _ _ _ _ _ _ _ e (F.args_object_getattribute_2 _ _) (aC3 c b ?_))
 repeat (any_goals (first|assumption|wp_step))
def aDi (c:h.get? a=some o)(b:o.cls=.type "function")(hq:Q (some (.type "function")) ⟨h,g,d,t+1,os⟩):wpAny (model prog w) A (getAttr? (.ref a) "__class__") Q E ⟨h,g,d,t,os⟩:=by
 unfold getAttr? getAttrBy?
 repeat (any_goals (first|assumption|with_reducible apply aKn c b|wp_step))
def aDe (c:h.get? a=some o)(b:o.cls=.type "function")(hne:(Value.type "function" == Value.type T)=false)(hty:typeOf (.type T)=pure (.type "type"))
  (hsub:isSubtype (.type "function") (.type T)=pure false) (hq:Q (.done (.ret (.bool false))) ⟨h,g,d,t+1,os⟩) :
  wpAny (model prog w) A (Builtin.«isinstance.nested» ⟨[.ref a,.type T,.int dep tk],[]⟩) Q E ⟨h,g,d,t,os⟩:=by
 have e:(⟨h,g,d,t,os⟩:Shared).TypeIs (.ref a) "function":=⟨_,c,b⟩
 repeat (any_goals (first|assumption|with_reducible apply aDi c b|wp_step))
end
def pC (f:(Value.type "function" == Value.type T)=false)(k:typeOf (.type T)=pure (.type "type"))(b:isSubtype (.type "function") (.type T)=pure false) :
  Meets (Builtin.«isinstance» ⟨[.ref a,.type T],[]⟩) (λ_ R s=>(∃o,s.heap.get? a=some o/\o.cls=.type "function")/\R (.ok (.ret (.bool false))) { s with toks:=s.toks+1 }):=
 λ_ _ _ _ s e=>by obtain⟨h,g,d,t,l⟩:=s;obtain⟨⟨o,c,j⟩,i⟩:=e;exact isinstance_outer (aDe c j f k b i)
section
variable {prog:Program}{w:World}{A:Around}{E:bFQ}{s:Shared}{Q:bFQ}{a:Addr}{o:Obj}
def aM9 (c:s.heap.get? a=some o)(b:o.cls=.type "function")(h:Q (.bool false) { s with toks:=s.toks+1 }):wpAny (model prog w) A (call (.builtin "isinstance") [.ref a,.type "int"]) Q E s:=
 call_isinstance (pC (by decide) F.isi_meta_int IfF.sub_int) ⟨⟨o,c,b⟩,h⟩
def aK7 (c:s.heap.get? a=some o)(b:o.cls=.type "function")(h:Q (.bool false) { s with toks:=s.toks+1 }):wpAny (model prog w) A (call (.builtin "isinstance") [.ref a,.type "bool"]) Q E s:=
 call_isinstance (pC (by decide) F.isi_meta_bool IfF.sub_bool) ⟨⟨o,c,b⟩,h⟩
def aLl (c:s.heap.get? a=some o)(b:o.cls=.type "function")(h:Q (.bool false) { s with toks:=s.toks+1 }):wpAny (model prog w) A (call (.builtin "isinstance") [.ref a,.type "str"]) Q E s:=
 call_isinstance (pC (by decide) F.isi_meta_str IfF.aV1) ⟨⟨o,c,b⟩,h⟩
end
end PySem
namespace L2
open PySem PySem.Spec PyProof.Rows
section
variable {X:Cx}
def PE.imp (h:PE X e t)(k:∀σ H Q,t' σ H Q->t σ H Q):PE X e t':=λa s σ H Q I q=>h a s σ H Q I (k σ H Q q)
def bDs (K:bFP):List V->Hp->VK->Prop:=λxs H Q=>∃(p:Addr) (bs:List Bool),xs=[.ref p]/\SqL K H p (bs.map V.bl)/\Q (.bl (bs.all id)) H
def all_range (bs:List Bool):(List.range bs.length).all (λi=>bs.getD i false)=bs.all id:=by
 rw[bCU,bCC,bCC];constructor
 ·intro h b c;obtain⟨i,a,e⟩:=List.mem_iff_getElem.mp c;have:=h i (List.mem_range.mpr a);rw[j6,b8 a] at this;rw[<-e];exact this
 ·intro h i a;have a:=List.mem_range.mp a;rw[j6,b8 a];exact h _ (bAP a)
def mO (R:X.calm=true):cJ X (.builtin "all") (bDs X.K):=by
 intro D s σ H P M Q I r h;obtain⟨p,a,rfl,F,q⟩:=h;obtain⟨u,rfl,B⟩:=r.one;cases B;obtain⟨d,t,l,J⟩:=I.list F;have j:=t.length;rw[j4] at j;have k:p≠s.heap.objs.size:=by obtain⟨o,C,_⟩:=l.isList;exact t6 (j8 C)
 refine call_all_walk (bCF l.isList ?_);refine⟨s.heap.objs.size,_,_,_,_,_,λi=>a.getD i false,rfl,Walks.list (show X.A.in1.handled=none from I.ok.hd R) _ p k d.toArray,⟨⟨_,j0 _ rfl,rfl,rfl⟩,?_⟩,?_,λL N G=>?_⟩
 ·exact l.isList.at λo e=>c7 _ e
 ·intro i v w E O x c;have f:d[i]?=some v:=by simpa using x
  have n:i<a.length:=by rw[j];exact (List.getElem?_eq_some_iff.mp f).1
  obtain⟨u,m,y⟩:=t.get (by rw[t7,b8 n];rfl);rw[f] at m;cases m;cases y;have e:a.getD i false=a[i]:=by rw[j6,b8 n];rfl
  replace c:E (a.getD i false) w:=c;rw[e] at c;exact bBH c
 ·have e:(List.range d.toArray.size).all (λi=>a.getD i false)=a.all id:=by rw[d9,<-j];exact all_range a
  rw[e];refine⟨.bl (a.all id),H,?_,rfl,q⟩;exact I.kept λb o g=>G b o (by
   intro z;have:b=s.heap.objs.size:=by simpa using z
   rw[this] at g;exact absurd (j8 g) (bBO _)) (c7 _ g)
inductive Rk (K:bFP)(H:Hp):V->String->Prop
 |non:Rk K H .non "NoneType"
 |lst {a xs}:SqL K H a xs->Rk K H (.ref a) "list"
 |tup {a xs}:SqT K H a xs->Rk K H (.ref a) "tuple"
 |dct {a kvs}:H a=some (.dK kvs)->Rk K H (.ref a) "dict"
 |fn {a o}:K.lookup a=some o->o.cls=.type "function"->Rk K H (.ref a) "function"
def aYl (K:bFP):List V->Hp->VK->Prop:=λxs H Q=>∃x k T,xs=[x,.ty T]/\Rk K H x k/\(T = "int"\/T = "bool"\/T = "str")/\Q (.bl false) H
theorem sJ:cJ X (.builtin "isinstance") (aYl X.K):=by
 intro f s σ H t w Q I r h;obtain⟨x,k,T,rfl,l,d,q⟩:=h;obtain⟨u,v,rfl,b,p⟩:=r.two;cases p;have a:EP X f σ Q (.bool false) { s with toks:=s.toks+1 }:=⟨.bl _,H,I.tok _,rfl,q⟩;cases l with
 |non=>
  cases b;rcases d with rfl|rfl|rfl
  ·exact IsiPair.NoneType_int a
  ·exact IsiPair.NoneType_bool a
  ·exact IsiPair.NoneType_str a
 |lst hq=>
  cases b;obtain⟨g,j,⟨o,n,e,c,_⟩,m⟩:=I.list hq;rcases d with rfl|rfl|rfl
  ·exact IsiPair.list_int e c a
  ·exact IsiPair.list_bool e c a
  ·exact IsiPair.list_str e c a
 |tup hq=>
  cases b;obtain⟨g,j,⟨o,e,c,_⟩,m⟩:=I.tuple hq;rcases d with rfl|rfl|rfl
  ·exact IsiPair.tuple_int e c a
  ·exact IsiPair.tuple_bool e c a
  ·exact IsiPair.tuple_str e c a
 |dct hq=>
  cases b;obtain⟨_,_,_,_,o,_,_,e,i,_⟩:=I.hok _ _ hq;rcases d with rfl|rfl|rfl
  ·exact IsiPair.dict_int e i.1 a
  ·exact IsiPair.dict_bool e i.1 a
  ·exact IsiPair.dict_str e i.1 a
 |fn hk hc=>
  cases b;have e:=I.kIn _ _ hk;rcases d with rfl|rfl|rfl
  ·exact aM9 e hc a
  ·exact aK7 e hc a
  ·exact aLl e hc a
end
def gU {X:Cx}{scope:Scope}(h:∀z∈scope.names,z.2≠.free):∀y,(y,NameKind.free)∈scope.names->X.env.kindOf y=some .cell\/X.env.kindOf y=some .free:=λy a=>absurd rfl (h _ a)
def lJ {X:Cx}{scope:Scope}(sc:Scope)(e:X.env.scope=sc)(h:∀z∈scope.names,z.2=.free->sc.names.lookup z.1=some .cell\/sc.names.lookup z.1=some .free) :
  ∀y,(y,NameKind.free)∈scope.names->X.env.kindOf y=some .cell\/X.env.kindOf y=some .free:=λy a=>by
 show X.env.scope.names.lookup y=some .cell\/X.env.scope.names.lookup y=some .free;rw[e];exact h _ a rfl
def Same.bB {K:bFP}{H H':Hp}{a:Addr}{xs:List V}(e:Same H H')(h:SqT K H a xs):SqT K H' a xs:=by
 rcases h with (h|⟨o,h⟩)|h
 ·exact .inl (.inl (e _ _ h))
 ·exact .inl (.inr ⟨o,e _ _ h⟩)
 ·exact .inr h
def bC (h:H p=none)(o:HO):Same H (upd H p o):=λb u q=>by rw[aR (aQ q h)];exact q
theorem Rk.same {K:bFP}{H H':Hp}{v:V}{k:String}(e:Same H H')(h:Rk K H v k):Rk K H' v k:=by
 cases h with
 |non=>exact .non
 |lst q=>exact .lst (e.seq q)
 |tup q=>exact .tup (e.bB q)
 |dct q=>exact .dct (e _ _ q)
 |fn q c=>exact .fn q c
theorem oE:Cap X scope [x] σ [none]:=⟨rfl,λi y v _ a=>by
 cases i with
 |zero=>cases a
 |succ i=>cases a⟩
section
def aP1 (xs:List V)(f:V->V)(n:St)(s:Cap X scope N σ n)(hsz:xs.length<=sizeLine)
  (u:∀R:It->Hp->Prop,(∀J:It,(∀H' i x,Same H H'->xs[i]?=some x->J.go i H'/\∀y H2,J.yld i H' y H2->H2=H'/\y=x)->(∀H',Same H H'->J.stop xs.length H')->R J H)->wi σ H R)
  (w:∀x∈xs,∀H' R l,Same H H'->R (f x) H'->te ((n.set 0 l).set 0 (some x)) H' R) (v:n[0]?=some none)
  (q:∀D,H D=none->Q (.ref D) (upd H D (.lst (xs.map f)))) :
  lM X scope N wi (cM 0) mW te σ H Q:=by
 refine⟨n,s,u _ λJ go stop D g=>?_⟩;have d:∀c:List V,Same H (upd H D (.lst c)):=λc b o e=>by rw[aR (aQ e g)];exact e
 refine⟨λi m h H' c=>i<=xs.length/\m=xs.length - i/\(∃l,h=n.set 0 l)/\H'=upd H D (.lst c)/\c=(xs.take i).map f,⟨xs.length,bAE _,rfl,⟨none,?_⟩,rfl,rfl⟩,?_⟩
 ·refine (bCT λj=>?_);rw[List.getElem?_set]
  split
  ·rename_i p;subst p
   split
   ·exact v
   ·rename_i a;exact List.getElem?_eq_none_iff.mpr (by lia)
  ·rfl
 ·rintro i m h H' c ⟨hi,rfl,⟨l,rfl⟩,rfl,rfl⟩;refine⟨aK,?_⟩;by_cases a:i<xs.length
  ·right;obtain⟨k,t⟩:=go (upd H D (.lst ((xs.take i).map f))) i xs[i] (d _) (b8 a);refine⟨k,λx H2 r=>?_⟩;obtain⟨rfl,rfl⟩:=t x H2 r;unfold cM mW;dsimp only;rw[if_pos rfl];refine w xs[i] (bAP a) _ _ l (d _) ⟨aK,?_,xs.length - (i+1),by lia,a,rfl,⟨some xs[i],?_⟩,?_,?_⟩
   ·rw[j4,bAH];lia
   ·rw[bCG]
   ·rw[aXz]
   ·rw[bBB,b8 a,bAT];rfl
  ·left;have e:i=xs.length:=by lia
   subst e;refine⟨stop _ (d _),?_⟩;rw[bCN];exact q D g
def aZw (h:∀R:VK,R (.str z) H->tl σ H R)(R:It->Hp->Prop)
  (q:∀J:It,(∀H' i x,Same H H'->((List.range z.cps.size).map λi=>V.str (sgn z i))[i]?=some x->J.go i H'/\∀y H2,J.yld i H' y H2->H2=H'/\y=x) ->
   (∀H',Same H H'->J.stop ((List.range z.cps.size).map λi=>V.str (sgn z i)).length H')->R J H):aZc tl σ H R:=by
 refine h _ ⟨z,rfl,q _ (λH' i x _ e=>?_) λH' _=>?_⟩
 ·rw[t7] at e;have b:i<z.cps.size:=by
   cases a:(List.range z.cps.size)[i]? with
   |none=>rw[a] at e;cases e
   |some j=>have:=(List.getElem?_eq_some_iff.mp a).1;rwa [bAJ] at this
  rw[bCJ b] at e;cases e;exact⟨b,λy H2 c=>c⟩
 ·rw[j4,bAJ];exact d8 _
def aV5 {K:bFP}{a:Addr}{xs:List V}{tl:TE}{σ:St}{H:Hp}(b:∀H',Same H H'->SqL K H' a xs)(h:∀R:VK,R (.ref a) H->tl σ H R)(R:It->Hp->Prop)
  (q:∀J:It,(∀H' i x,Same H H'->xs[i]?=some x->J.go i H'/\∀y H2,J.yld i H' y H2->H2=H'/\y=x)->(∀H',Same H H'->J.stop xs.length H')->R J H):aJi K tl σ H R:=by
 refine h _ ⟨a,rfl,⟨xs,b H (Same.refl H)⟩,q _ (λH' i x s e=>⟨⟨xs,x,b H' s,e⟩,λy H2 f=>?_⟩) λH' s=>⟨xs,b H' s,d8 _⟩⟩;obtain⟨g,d⟩:=f;have c:=d xs (b H' s);rw[e] at c;cases c;exact⟨g,rfl⟩
end
end L2
namespace PySem
abbrev tM (t:Addr)(i:Nat):Obj:={ cls:=.type "tuple_iterator",data:=.fields #[.ref t,.int (i:Int) 0] }
abbrev kY (f0:Value)(TI TO:Addr):Obj:={ cls:=.type "zip",dict:=none,data:=.fields #[f0,.bool false,.bool false,.ref TI,.ref TO],slots:=#[] }
abbrev eU (a b:Value):Obj:={ cls:=.type "tuple",data:=.seq #[a,b] }
section
variable {prog:Program}{w:World}{A:Around}{E:bFQ}{s:Shared}
def aBc (a:s.heap.get? it=some (tM t i))(g:s.heap.IsTuple t its)(e:its[i]?=some x)
  (q:∀h',h'.get? it=some (tM t (i+1))->Heap.SameBut it s.heap h'->Q x { s with heap:=h' }):wpAny (model prog w) A (Builtin.SmallTypes.nextOf (.ref it)) Q E s:=by
 have d:s.TypeIs (.ref it) "tuple_iterator":=⟨_,a,rfl⟩;obtain⟨h,c,_,f,b⟩:=g;unfold Builtin.SmallTypes.nextOf;refine b7 (bAI d F.slot_tuple_iterator_next (bAG F.slot_tuple_iterator_next d F.entry_tuple_iterator_next ?_ (F.args_tuple_iterator_next_1 _)));refine b7 (m:=field (.ref it) 0) (bAN a rfl (x:=.ref t) rfl ?_);refine (if_neg (show ¬ ((Value.ref t == Value.none)=true) from v6)).symm ▸ ?_;refine b7 (bAN a rfl rfl ?_);refine b7 (bAU c b ?_);simp only[bAR,e];refine b7 (bDH a rfl (by simp) (d7 ⟨x,rfl,d7 (q _ ?_ (bAX ..))⟩));exact bBI _ a rfl
def aBp (f:A.handled=none)(a:s.heap.get? it=some (tM t i))(j:s.heap.IsTuple t its)(g:its[i]?=none)
  (q:∀h' e,Heap.ExtBut it s.heap h'->(∃o,h'.get? e=some o/\o.cls=.type "StopIteration")->E (.ref e) { s with heap:=h' }):wpAny (model prog w) A (Builtin.SmallTypes.nextOf (.ref it)) Q E s:=by
 have d:s.TypeIs (.ref it) "tuple_iterator":=⟨_,a,rfl⟩;obtain⟨k,c,_,h,b⟩:=j;unfold Builtin.SmallTypes.nextOf;refine b7 (bAI d F.slot_tuple_iterator_next (bAG F.slot_tuple_iterator_next d F.entry_tuple_iterator_next ?_ (F.args_tuple_iterator_next_1 _)));refine b7 (m:=field (.ref it) 0) (bAN a rfl (x:=.ref t) rfl ?_);refine (if_neg (show ¬ ((Value.ref t == Value.none)=true) from v6)).symm ▸ ?_;refine b7 (bAN a rfl rfl ?_);refine b7 (bAU c b ?_);simp only[bAR,g];refine b7 (bCY (b7 (bDH a rfl (by simp) ?_)));unfold Builtin.SmallTypes.stopIteration;refine b7 ?_;simp only[newExc,newTuple];refine b7 (bAO ?_ (by size_fits));refine b7 (bEM (by first|rfl|(simp only[firstArgMember];rfl)) ?_);refine bAO ?_ (by size_fits);simp only[raiseNew];refine b7 (bE3 ?_);first|rw[show A.in1.handled=none from f]|rw[f]
 refine b7 (d7 (bFI ?_));exact q _ _ (((bAX ..).extBut.push _).push _) ⟨_,j0 _ rfl,rfl⟩
structure pL (z TI TO a b:Addr):Prop where
 h1:TI≠z
 h2:TO≠z
 h3:a≠z
 h4:b≠z
 h5:TI≠TO
 h6:TI≠a
 h7:TI≠b
 h8:TO≠a
 h9:TO≠b
 h10:a≠b
def wA (c:s.heap.get? T=some (eU a b))
  (q:∀h',h'.get? T=some { cls:=.type "tuple",data:=.seq ((#[a,b]:Array Value).setIfInBounds k x) }->Heap.SameBut T s.heap h'->Q () { s with heap:=h' }) :
  wpAny (model prog w) A (updateSeq T (·.setIfInBounds k x)) Q E s:=by
 refine wpAny_updateSeq c rfl (q _ ?_ (bAX ..));rw[bBI _ c rfl];simp[Obj.mapSeq]
def aQ0 {z TI TO U T t u:Addr}{k:Nat}{xs ys:Array Value}{x y a b:Value}{Q:Option Value->Shared->Prop}(D:pL z TI TO U T)
  (p:s.heap.get? z=some (kY .none TI TO)) (a0:s.heap.get? TI=some (eU (.ref U) (.ref T))) (a1:s.heap.get? TO=some (eU a b))
  (g1:s.heap.get? U=some (tM t k)) (g2:s.heap.get? T=some (tM u k)) (ht:s.heap.IsTuple t xs) (hu:s.heap.IsTuple u ys) (hx:xs[k]?=some x) (hy:ys[k]?=some y)
  (t1:t≠z) (t2:t≠TO) (t3:t≠U) (t4:t≠T) (u1:u≠z) (u2:u≠TO) (u3:u≠U) (u4:u≠T)
  (q:∀h',h'.get? z=some (kY (rawInt s.heap.objs.size) TI TO)->h'.get? TO=some (eU x y)->h'.get? U=some (tM t (k+1))->h'.get? T=some (tM u (k+1))->h'.get? s.heap.objs.size=some (eU x y) ->
   (∀c o,c≠z->c≠TO->c≠U->c≠T->s.heap.get? c=some o->h'.get? c=some o)->Q (some (.ref s.heap.objs.size)) { s with heap:=h' }) :
  wpAny (model prog w) A (pyNext (.ref z)) Q E s:=by
 have X:s.TypeIs (.ref z) "zip":=⟨_,p,rfl⟩;unfold pyNext;refine b7 (bCD (bAI (name:=Str.ofString "__next__") X F.slot_zip_next (bAG F.slot_zip_next X F.entry_zip_next ?_ (F.args_zip_next_1 _))));refine b7 (m:=field (.ref z) 2) (bAN p rfl (x:=.bool false) rfl ?_);refine b7 (m:=field (.ref z) 3) (bAN p rfl (x:=.ref TI) rfl (b7 (bAU a0 rfl ?_)));refine b7 (m:=Builtin.SmallTypes.ownedTupleIsFree (.ref z)) ?_;unfold Builtin.SmallTypes.ownedTupleIsFree;refine b7 (bAN p rfl (x:=.none) rfl (d7 ?_));simp only[if_true];refine b7 (bCY (b7 (bAN p rfl (x:=.ref TO) rfl (b7 (bAL p (by simp) λY N g=>?_)))));replace N:Y.get? z=some (kY .ellipsis TI TO):=N;refine b7 ?_;simp only[bDZ,bEF,bDC,bEP];refine b7 (b7 (bDE ?_));refine b7 (m:=Builtin.SmallTypes.nextOf (.ref U)) (aBc (s:={ s with heap:=Y }) (g.extBut _ _ D.h3 g1) (ht.extBut g.extBut t1) hx λZ K j=>d7 ?_);have B:Z.get? TO=some (eU a b):=j.extBut _ _ D.h8 (g.extBut _ _ D.h2 a1);refine b7 (bAU B rfl (b7 (wA (s:={ s with heap:=Z }) B λh3 h l=>b7 (bE9 (d7 ?_)))));replace h:h3.get? TO=some (eU x b):=h;refine b7 (b7 (bDE ?_));refine b7 (m:=Builtin.SmallTypes.nextOf (.ref T)) (aBc (s:={ s with heap:=h3 }) (l.extBut _ _ D.h9.symm (j.extBut _ _ D.h10.symm (g.extBut _ _ D.h4 g2))) (((hu.extBut g.extBut u1).extBut j.extBut u3).extBut l.extBut u2) hy λW O n=>d7 ?_);have v:W.get? TO=some (eU x b):=n.extBut _ _ D.h9 h;refine b7 (bAU v rfl (b7 (wA (s:={ s with heap:=W }) v λd f C=>b7 (bE9 (d7 (d7 ?_))))));replace f:d.get? TO=some (eU x y):=f;refine b7 (bAU f rfl (b7 (bEQ ?_)));have r:d.objs.size=s.heap.objs.size:=by rw[C.1,n.1,l.1,j.1,g.1]
 have z5:d.get? z=some (kY .ellipsis TI TO):=C.extBut _ _ D.h2.symm (n.extBut _ _ D.h4.symm (l.extBut _ _ D.h2.symm (j.extBut _ _ D.h3.symm N)));have kp:∀c o,c≠z->c≠TO->c≠U->c≠T->s.heap.get? c=some o->d.get? c=some o:=λc o i H L R e=>C.extBut _ _ H (n.extBut _ _ R (l.extBut _ _ H (j.extBut _ _ L (g.extBut _ _ i e))));have M:d.get? U=some (tM t (k+1)):=C.extBut _ _ D.h8.symm (n.extBut _ _ D.h10 (l.extBut _ _ D.h8.symm K));have S:d.get? T=some (tM u (k+1)):=C.extBut _ _ D.h9.symm O;refine b7 (m:=Builtin.SmallTypes.ownedTupleHandOut (.ref z) (.ref d.objs.size)) ?_;unfold Builtin.SmallTypes.ownedTupleHandOut;have z6:(d.push (eU x y)).get? z=some (kY .ellipsis TI TO):=c7 _ z5;refine b7 (bAL z6 (by simp) λh7 P s7=>?_);replace P:h7.get? z=some (kY (rawInt d.objs.size) TI TO):=P;refine bAL P (by simp) λI J s8=>?_;replace J:I.get? z=some (kY (rawInt d.objs.size) TI TO):=J;have G:∀c o,c≠z->d.get? c=some o->I.get? c=some o:=λc o i e=>s8.extBut _ _ i (s7.extBut _ _ i (c7 _ e));have nz:d.objs.size≠z:=bCP (j8 z5);have V:I.get? d.objs.size=some (eU x y):=s8.extBut _ _ nz (s7.extBut _ _ nz (j0 _ rfl));rw[r] at J V;refine d7 ⟨_,rfl,d7 ?_⟩;show Q (some (.ref d.objs.size)) _;rw[r];exact q I J (G _ _ D.h2 f) (G _ _ D.h3 M) (G _ _ D.h4 S) V λc o i H L R e=>G c o i (kp c o i H L R e)
def aTa (L:A.handled=none)(D:pL z TI TO i1 i2)
  (f:s.heap.get? z=some (kY .none TI TO)) (B:s.heap.get? TI=some (eU (.ref i1) (.ref i2))) (hTO:s.heap.get? TO=some (eU a b))
  (I:s.heap.get? i1=some (tM t k)) (N:s.heap.IsTuple t xs) (K:xs[k]?=none) (H:t≠z)
  (q:∀h',(∀c o,c≠z->c≠TO->c≠i1->c≠i2->s.heap.get? c=some o->h'.get? c=some o)->Q none { s with heap:=h' }) :
  wpAny (model prog w) A (pyNext (.ref z)) Q E s:=by
 have u:s.TypeIs (.ref z) "zip":=⟨_,f,rfl⟩;unfold pyNext;refine b7 (bCD (bAI u F.slot_zip_next (bAG F.slot_zip_next u F.entry_zip_next ?_ (F.args_zip_next_1 _))));refine b7 (m:=field (.ref z) 2) (bAN f rfl (x:=.bool false) rfl ?_);refine b7 (bAN f rfl rfl (b7 (bAU B rfl ?_)));refine b7 ?_;unfold Builtin.SmallTypes.ownedTupleIsFree;refine b7 (bAN f rfl rfl (d7 ?_));simp only[if_true];refine b7 (bCY (b7 (bAN f rfl rfl (b7 (bAL f (by simp) λG j h=>?_)))));replace j:G.get? z=some (kY .ellipsis TI TO):=j;refine b7 ?_;simp only[bDZ,bEF,bDC,bEP];refine b7 (b7 (bDE ?_));refine b7 (aBp L (h.extBut _ _ D.h3 I) (N.extBut h.extBut H) K λJ e l C=>?_);obtain⟨v,d,g⟩:=C;have r:=l _ _ D.h3.symm j;have i:e≠z:=λx=>by subst x;rw[r] at d;cases d;simp at g
 refine bAL r (by simp) λM _ n=>?_;refine b7 (bCX ⟨v,n.extBut _ _ i d,g⟩ isSubtype_stop ?_);exact d7 (q _ λc o p _ y _ x=>n.extBut _ _ p (l _ _ y (h.extBut _ _ p x)))
end
end PySem
namespace PySem
section
variable {prog:Program}{w:World}{A:Around}{E:bFQ}{s:Shared}
abbrev zT1 (h:Heap)(t:Addr):Heap:=h.push (tM t 0)
abbrev zT2 (h:Heap)(t u:Addr):Heap:=(zT1 h t).push (tM u 0)
abbrev zT3 (h:Heap)(t u:Addr):Heap:=(zT2 h t u).push (eU (.ref h.objs.size) (.ref (zT1 h t).objs.size))
abbrev zT4 (h:Heap)(t u:Addr):Heap:=(zT3 h t u).push (eU .none .none)
abbrev zT5 (h:Heap)(t u:Addr):Heap:=(zT4 h t u).push (kY .none (zT2 h t u).objs.size (zT3 h t u).objs.size)
def aLt (t u:Addr)(xs ys:Array Value):Meets (Builtin.«zip.__new__» ⟨[.type "zip",.ref t,.ref u],[]⟩)
  (λ_ R s=>s.heap.IsTuple t xs/\s.heap.IsTuple u ys/\R (.ok (.ret (.ref (zT4 s.heap t u).objs.size))) { s with heap:=zT5 s.heap t u }):=
 .of_wp λb w A R s h=>by
  obtain⟨l,g,d,c,f⟩:=s;obtain⟨e,i,h⟩:=h;have a:=sub_zip;have j:=e;have k:Heap.IsTuple (Shared.heap ⟨l.push { cls:=.type "tuple_iterator",data:=.fields #[.ref t,.int 0 0] },g,d,c,f⟩) u ys:=by obtain⟨o,m,r⟩:=i;exact⟨o,c7 _ m,r⟩
  wp_walk using bEH j,bEH k;exact⟨_,rfl,h⟩
def aQ9 (b:s.heap.IsTuple t xs)(c:s.heap.IsTuple u ys)(q:Q (.ref (zT4 s.heap t u).objs.size) { s with heap:=zT5 s.heap t u }) :
  wpAny (model prog w) A (call (.type "zip") [.ref t,.ref u]) Q E s:=by
 refine callType_new F.called_zip (by decide) (F.typeCall_zip_2 _ _) (F.newCall_zip_2 _ _) (λa=>F.args_object_init_3 a _ _) F.entry_zip_new (aLt t u xs ys) ⟨b,c,?_⟩;exact⟨⟨_,j0 _ rfl,rfl⟩,q⟩
end
end PySem
namespace L2
open PySem PySem.Spec PyProof.Rows
section
variable {X:Cx}{bFT:bFR}{σ:St}{H:Hp}{s:Shared}
def Inv.tup_ne (I:Inv X bFT σ H s)(h:SqT X.K H t xs)(f:tH X bFT H b):t≠b:=by
 rintro rfl;obtain⟨a,i,j,d,_⟩:=f;rcases h with (h|⟨o,h⟩)|⟨o,g,n,c,_⟩
 ·rw[a] at h;cases h
 ·rw[a] at h;cases h
 ·have e:=I.ok.mod.kin t o c;rcases d with z|z
  ·exact I.ok.noex t o e z
  ·exact absurd (bAB (j8 e) (bAK I.ok.bsz z)) (bBO _)
theorem Inv.drawn {ch:List Addr}{h':Heap}{vs:List V}{its:List Value}{T:Addr}(I:Inv X bFT σ H s)(f:∀b∈ch,tH X bFT H b)(i:∀b o,b∉ch->s.heap.get? b=some o->h'.get? b=some o)
  (w:s.heap.objs.size<=T) (G:Vals vs its) (E:vs.length<=sizeLine) (F:xF h' T its.toArray) (hth:∀b∈ch,∃o,h'.get? b=some o):Inv X bFT σ (upd H T (.tup vs)) { s with heap:=h' }:=by
 have d:=I.hok.fresh w;have B:∀b o,s.heap.get? b=some o->b≠T:=λb o e=>t6 (bAB (j8 e) w);have g:∀b u,H b=some u->b∉ch:=λb u e z=>by rw[(f b z).1] at e;cases e
 refine I.step (g':=s.gens) (d':=s.drawn) (t':=s.toks) (λb h=>?_) (λb o _ _ a e _=>i b o a e) (λb o _ _ a e _=>⟨o.slots,i b o a e⟩) (λb o a e n=>by rw[aR (B b o e)];exact n)
  (λb o a e=>⟨o,i b o a e⟩) (λb t e=>by rw[aR (aQ e d)];exact e) (λb o u e=>by rw[aR (aQ e d)];exact e) (λb J e=>⟨#[],by rw[aR (aQ e d),e];simp⟩) (λm p=>?_) (λb u e=>?_) I.bare
 ·obtain⟨_,x,_,C,l,A⟩:=f b h;exact⟨C,x,l,A⟩
 ·obtain⟨o,D,y,j,r⟩:=p;exact⟨o,D,y,i _ o (λz=>(f _ z).2.1 rfl) j,r⟩
 ·by_cases h:b=T
  ·subst h;rw[aK] at e;cases e;exact⟨E,its,G,F⟩
  ·rw[aR h] at e;refine (I.hok b u e).stay (λc v k q=>i c v ?_ q) (λc q=>by rw[aR (aQ q d)];exact q) λc t q=>by rw[aR (aQ q d)];exact q
   rcases k with z|z
   ·rw[z];exact g b u e
   ·exact g c _ z
def Inv.aGm {ch:List Addr}{h':Heap}(I:Inv X bFT σ H s)(a:∀b∈ch,tH X bFT H b)(g:∀b o,b∉ch->s.heap.get? b=some o->h'.get? b=some o):Inv X bFT σ H { s with heap:=h' }:=by
 have d:∀b u,H b=some u->b∉ch:=λb u e z=>by rw[(a b z).1] at e;cases e
 refine I.step (g':=s.gens) (d':=s.drawn) (t':=s.toks) (λb k=>?_) (λb o _ _ f e _=>g b o f e) (λb o _ _ f e _=>⟨o.slots,g b o f e⟩) (λ_ _ _ _ n=>n)
  (λb o f e=>⟨o,g b o f e⟩) (λ_ _ e=>e) (λ_ _ _ e=>e) (λb A e=>⟨#[],by rw[e];simp⟩) (λm l=>?_) (λb u e=>?_) I.bare
 ·obtain⟨_,p,_,x,j,w⟩:=a b k;exact⟨x,p,j,w⟩
 ·obtain⟨o,y,t,h,r⟩:=l;exact⟨o,y,t,g _ o (λz=>(a _ z).2.1 rfl) h,r⟩
 ·refine (I.hok b u e).stay (λc v i q=>g c v ?_ q) (λ_ q=>q) λ_ _ q=>q;rcases i with z|z
  ·rw[z];exact d b u e
  ·exact d c _ z
end
def Itz (K:bFP)(t u:Addr)(xs ys:List V):It:=
 ⟨λi H=>SqT K H t xs/\SqT K H u ys/\i<xs.length/\i<ys.length,λi H v H'=>∃T a b,H T=none/\v=.ref T/\H'=upd H T (.tup [a,b])/\xs[i]?=some a/\ys[i]?=some b,λi H=>SqT K H t xs/\xs.length<=i⟩
def ztn (z TI TO i1 i2 t u:Addr)(i:Nat)(h:Heap):Prop:=
 h.get? z=some (kY .none TI TO)/\h.get? TI=some (eU (.ref i1) (.ref i2))/\(∃a b,h.get? TO=some (eU a b))/\h.get? i1=some (tM t i)/\h.get? i2=some (tM u i)
def aUk {P:Program}{w:World}{K:bFP}{elts:List Expr}{kt:Nat}{pos:Pos}{z TI TO F G t u:Addr}{xs ys:List V}(D:pL z TI TO F G) :
  Turn P w K (.Tuple elts kt pos) (Itz K t u xs ys) [z,TI,TO,F,G] z (ztn z TI TO F G t u) where
 mem:=by simp
 obj:=λi h g b d=>by
  obtain⟨p,j,⟨a,c,l⟩,n,r⟩:=g;simp only[bAD,w6,or_false] at d;rcases d with rfl|rfl|rfl|rfl|rfl
  ·exact⟨_,p,λv z=>by cases (show Data.fields _=Data.cell v from z)⟩
  ·exact⟨_,j,λv z=>by cases (show Data.seq _ _=Data.cell v from z)⟩
  ·exact⟨_,l,λv z=>by cases (show Data.seq _ _=Data.cell v from z)⟩
  ·exact⟨_,n,λv z=>by cases (show Data.fields _=Data.cell v from z)⟩
  ·exact⟨_,r,λv z=>by cases (show Data.fields _=Data.cell v from z)⟩
 keep:=λi h A g k=>by obtain⟨p,j,⟨a,c,l⟩,n,r⟩:=g;exact⟨k z (by simp) _ p,k TI (by simp) _ j,⟨a,c,k TO (by simp) _ l⟩,k F (by simp) _ n,k G (by simp) _ r⟩
 item:=by
  intro X N U Q hc i q s σ H E I f g M;subst N U Q;obtain⟨p,j,⟨a0,c0,l⟩,n,r⟩:=g;obtain⟨m,B,l1,Y⟩:=M;obtain⟨its,R,O,hz⟩:=I.tuple m;obtain⟨S,L,pu,a7⟩:=I.tuple B;obtain⟨x,hx,rx⟩:=R.get (b8 l1);obtain⟨y,hy,ry⟩:=L.get (b8 Y);have T:=f z (by simp);have fO:=f TO (by simp);have f1:=f F (by simp);have f2:=f G (by simp);refine aQ0 D p j l n r (show s.heap.IsTuple t its.toArray from O) (show s.heap.IsTuple u S.toArray from pu) (by simpa using hx) (by simpa using hy) (I.tup_ne m T) (I.tup_ne m fO) (I.tup_ne m f1) (I.tup_ne m f2)
   (I.tup_ne B T) (I.tup_ne B fO) (I.tup_ne B f1) (I.tup_ne B f2) λA a1 Z a3 a4 W J=>?_
  refine⟨_,rfl,?_⟩;have fT:H s.heap.objs.size=none:=I.hok.fresh (d8 _);have I1:Inv X q σ (upd H s.heap.objs.size (.tup [xs[i],ys[i]])) { s with heap:=A }:=by
   refine I.drawn (ch:=[z,TO,F,G]) (its:=[x,y]) (λb d=>?_) (λb o d e=>?_) (d8 _) (.cons rx (.cons ry .nil)) (small (by simp)) (.of W rfl ⟨_,W,rfl,_,rfl⟩) (λb d=>?_)
   ·refine f b ?_;simp only[bAD,w6,or_false] at d ⊢;rcases d with h|h|h|h <;> simp[h]
   ·simp only[bAD,w6,or_false,not_or] at d;exact J b o d.1 d.2.1 d.2.2.1 d.2.2.2 e
   ·simp only[bAD,w6,or_false] at d;rcases d with rfl|rfl|rfl|rfl
    ·exact⟨_,a1⟩
    ·exact⟨_,Z⟩
    ·exact⟨_,a3⟩
    ·exact⟨_,a4⟩
  have nT:∀b∈[z,TI,TO,F,G],b≠s.heap.objs.size:=λb d=>by
   have e:∃o,s.heap.get? b=some o:=by
    simp only[bAD,w6,or_false] at d;rcases d with rfl|rfl|rfl|rfl|rfl
    ·exact⟨_,p⟩
    ·exact⟨_,j⟩
    ·exact⟨_,l⟩
    ·exact⟨_,n⟩
    ·exact⟨_,r⟩
   obtain⟨o,e⟩:=e;exact t6 (j8 e)
  refine bFG (s:={ s with heap:=A }) a1 λh2 z2 C=>?_;obtain⟨g0,g1,g2,g3,g4,g5⟩:=T;have I2:Inv X q σ (upd H s.heap.objs.size (.tup [xs[i],ys[i]])) { s with heap:=h2 }:=Inv.turned (s:={ s with heap:=A }) I1 (t':=s.toks) (it:=z) (λb o d e=>(C.2 b d).trans e) (by rw[aR (nT z (by simp))];exact g0) g1 g3 g4 g5;refine⟨.ref s.heap.objs.size,_,I2,rfl,⟨_,_,_,fT,rfl,rfl,b8 l1,b8 Y⟩,?_,λb d=>by rw[aR (nT b d)];exact (f b d).1⟩;exact⟨z2,C.extBut _ _ D.h1 (J TI _ D.h1 D.h5 D.h6 D.h7 j),⟨_,_,C.extBut _ _ D.h2 Z⟩,C.extBut _ _ D.h3 a3,C.extBut _ _ D.h4 a4⟩
 done:=by
  intro X N U Q hc i q s σ H E I f g M;subst N U Q;obtain⟨p,j,⟨a0,c0,l⟩,n,r⟩:=g;obtain⟨m,hl⟩:=M;obtain⟨its,R,O,hz⟩:=I.tuple m;have a6:=R.length;refine aTa (I.ok.hd hc) D p j l n (show s.heap.IsTuple t its.toArray from O) (by simp;lia) (I.tup_ne m (f z (by simp))) λA J=>⟨rfl,?_⟩;refine Inv.aGm (ch:=[z,TO,F,G]) I (λb d=>f b ?_) λb o d e=>?_
  ·simp only[bAD,w6,or_false] at d ⊢;rcases d with h|h|h|h <;> simp[h]
  ·simp only[bAD,w6,or_false,not_or] at d;exact J b o d.1 d.2.1 d.2.2.1 d.2.2.2 e
 self:=λ_ _ _ _ _ g h=>bE0 g.1 h
section
variable {X:Cx}
def aUz (K:bFP)(ta:TA):TI:=fun σ H R=>ta σ H λvs H1=>∃t u xs ys,vs=[.ref t,.ref u]/\SqT K H1 t xs/\SqT K H1 u ys/\R (Itz K t u xs ys) H1
theorem aVt {elts:List Expr}{kt:Nat}{tp:Pos}{a b:Expr}{ta:TA}{p J:Pos}(W:Gl X "zip")(Z:X.mg "zip"=none)(T:PA X [a,b] ta)(hs:starEach [a,b] X.env=(false,eval a X.env)::starEach [b] X.env:=by rfl)
  (z:starEach [b] X.env=[(false,eval b X.env)]:=by rfl):PI X (.Tuple elts kt tp) (.Call (.Name "zip" p) [a,b] [] J) (aUz X.K ta):=by
 intro d s σ H R I h;refine Call_ (rG I W Z aT7 (bBS (thn (T J d s σ H _ I h) λU c ⟨V,w,f,P,M⟩=>?_) hs (by rw[z];rfl)));obtain⟨t,u,xs,ys,e,C,y,q⟩:=M;subst e;obtain⟨i,Y,A,S⟩:=f.tuple C;obtain⟨k,F,N,B⟩:=f.tuple y;cases P with
 |cons r rr=>
  cases rr with
  |cons r' rr'=>
   cases rr';cases r;cases r';refine aQ9 (show c.heap.IsTuple t i.toArray from A) (show c.heap.IsTuple u k.toArray from N) ?_;have j:(zT1 c.heap t).objs.size=c.heap.objs.size+1:=bAW ..;have m:(zT2 c.heap t u).objs.size=c.heap.objs.size+2:=by rw[bAW,j]
   have l:(zT3 c.heap t u).objs.size=c.heap.objs.size+3:=by rw[bAW,m]
   have n:(zT4 c.heap t u).objs.size=c.heap.objs.size+4:=by rw[bAW,l]
   have D:pL (zT4 c.heap t u).objs.size (zT2 c.heap t u).objs.size (zT3 c.heap t u).objs.size c.heap.objs.size (zT1 c.heap t).objs.size:=by constructor <;> (show (_:Nat)≠(_:Nat);rw[Ne];intro h;simp only[j,m,l,n] at h;lia)
   have x:(zT5 c.heap t u).get? (zT4 c.heap t u).objs.size=some (kY .none (zT2 c.heap t u).objs.size (zT3 c.heap t u).objs.size):=j0 _ rfl;have L:(zT5 c.heap t u).get? (zT3 c.heap t u).objs.size=some (eU .none .none):=c7 _ (j0 _ rfl);have Q:(zT5 c.heap t u).get? (zT2 c.heap t u).objs.size=some (eU (.ref c.heap.objs.size) (.ref (zT1 c.heap t).objs.size)):=c7 _ (c7 _ (j0 _ rfl));have E:(zT5 c.heap t u).get? (zT1 c.heap t).objs.size=some (tM u 0):=c7 _ (c7 _ (c7 _ (j0 _ rfl)));have G:(zT5 c.heap t u).get? c.heap.objs.size=some (tM t 0):=c7 _ (c7 _ (c7 _ (c7 _ (j0 _ rfl))));have O:Inv X d σ w { c with heap:=zT5 c.heap t u }:=f.kept (t':=c.toks) λb o e=>c7 _ (c7 _ (c7 _ (c7 _ (c7 _ e))));refine bE0 (s:={ c with heap:=zT5 c.heap t u }) x ⟨_,_,_,_,w,rfl,O,aUk (xs:=xs) (ys:=ys) D,⟨x,Q,⟨_,_,L⟩,G,E⟩,λb v=>?_,q⟩;have g:c.heap.objs.size<=b:=by
    simp only[bAD,w6,or_false] at v;rcases v with rfl|rfl|rfl|rfl|rfl
    ·rw[n];exact bBV ..
    ·rw[m];exact bBV ..
    ·rw[l];exact bBV ..
    ·exact d8 _
    ·rw[j];exact bBV ..
   exact f.aD7 g (f.hok.fresh g)
inductive Tk (K:bFP)(H:Hp):V->Bool->Prop
 |int {i}:Tk K H (.int i) false
 |str {x}:Tk K H (.str x) false
 |bl {b}:Tk K H (.bl b) false
 |non:Tk K H .non false
 |lst {a xs}:SqL K H a xs->Tk K H (.ref a) false
 |dct {a kvs}:H a=some (.dK kvs)->Tk K H (.ref a) false
 |tup {a xs}:SqT K H a xs->Tk K H (.ref a) true
def bDn (K:bFP):List V->Hp->VK->Prop:=λxs H Q=>∃x b,xs=[x,.ty "tuple"]/\Tk K H x b/\Q (.bl b) H
theorem jQ:cJ X (.builtin "isinstance") (bDn X.K):=by
 intro f s σ H w y Q I r h;obtain⟨x,b,rfl,j,q⟩:=h;obtain⟨u,v,rfl,a,l⟩:=r.two;cases l;have p:EP X f σ Q (.bool b) s:=⟨.bl _,H,I,rfl,q⟩;have d:EP X f σ Q (.bool b) { s with toks:=s.toks+1 }:=⟨.bl _,H,I.tok _,rfl,q⟩;cases j with
 |int=>obtain⟨t,rfl⟩:=a;exact IsiPair.int_tuple d
 |str=>obtain⟨t,rfl⟩:=a;exact IsiPair.str_tuple d
 |bl=>cases a;exact IsiPair.bool_tuple d
 |non=>cases a;exact IsiPair.NoneType_tuple d
 |lst hq=>cases a;obtain⟨g,i,⟨o,n,e,c,_⟩,k⟩:=I.list hq;exact IsiPair.list_tuple e c d
 |dct hq=>cases a;obtain⟨_,_,_,_,o,_,_,e,m,_⟩:=I.hok _ _ hq;exact IsiPair.dict_tuple e m.1 d
 |tup hq=>cases a;obtain⟨g,i,⟨o,e,c,_⟩,k⟩:=I.tuple hq;exact IsiPair.tuple_tuple e c p
end
section
variable {X:Cx}{scope:Scope}{N:List Str}{wi:TI}{te:TE}{σ:St}{H:Hp}{Q:VK}
def mC {σ0:St}{j:Nat}(c:σ0[j]?=some none):σ0=σ0.set j none:=by
 refine (bCT λi=>?_);rw[List.getElem?_set]
 split
 ·rename_i a;subst a
  split
  ·exact c
  ·rename_i b;exact List.getElem?_eq_none_iff.mpr (by lia)
 ·rfl
def aFd (xs:List V)(f:V->V)(n:St)(r:Cap X scope N σ n)(hsz:xs.length<=sizeLine)
  (s:∀R:It->Hp->Prop,(∀J:It,(∀H' i x,Same H H'->xs[i]?=some x->J.go i H'/\∀y H2,J.yld i H' y H2->H2=H'/\y=x)->(∀H',Same H H'->J.stop xs.length H')->R J H)->wi σ H R)
  (v:∀x∈xs,∀H' R l,Same H H'->(∀H2,Same H' H2->R (f x) H2)->te ((n.set 0 l).set 0 (some x)) H' R) (u:n[0]?=some none)
  (q:∀D H',Same H H'->H' D=some (.lst (xs.map f))->Q (.ref D) H') :
  lM X scope N wi (cM 0) mW te σ H Q:=by
 refine⟨n,r,s _ λJ go stop D d=>?_⟩;refine⟨λi m g H' c=>i<=xs.length/\m=xs.length - i/\(∃l,g=n.set 0 l)/\Same H H'/\H' D=some (.lst c)/\c=(xs.take i).map f,⟨xs.length,bAE _,rfl,⟨none,mC u⟩,bC d _,aK,rfl⟩,?_⟩;rintro i m g H' c ⟨hi,rfl,⟨l,rfl⟩,sm,hL,rfl⟩;refine⟨hL,?_⟩;by_cases a:i<xs.length
 ·right;obtain⟨k,j⟩:=go H' i xs[i] sm (b8 a);refine⟨k,λx H2 p=>?_⟩;obtain⟨rfl,rfl⟩:=j x H2 p;unfold cM mW;dsimp only;rw[if_pos rfl];refine v xs[i] (bAP a) _ _ l sm λt h=>⟨h _ _ hL,?_,xs.length - (i+1),by lia,a,rfl,⟨some xs[i],?_⟩,?_,aK,?_⟩
  ·rw[j4,bAH];lia
  ·rw[bCG]
  ·intro b o e;rw[aR (aQ e d)];exact h _ _ (sm _ _ e)
  ·rw[bBB,b8 a,bAT];rfl
 ·left;have e:i=xs.length:=by lia
  subst e;refine⟨stop _ sm,?_⟩;rw[bCN] at hL;exact q D _ sm hL
def aVe {K:bFP}{tl:TA}{t u:Addr}(xs ys:List V)(f:V->V->V)(w:St)(A:Cap X scope N σ w)(hsz:xs.length<=sizeLine)(hl:xs.length=ys.length)
  (r:SqT K H t xs) (s:SqT K H u ys) (C:∀R:List V->Hp->Prop,R [.ref t,.ref u] H->tl σ H R)
  (G:∀(i:Nat) (x y:V),xs[i]?=some x->ys[i]?=some y->∀H' R l1 l2,Same H H'->(∀H2,Same H' H2->R (f x y) H2)->te ((((w.set 0 l1).set 1 l2).set 0 (some x)).set 1 (some y)) H' R) (F:w[0]?=some none) (I:w[1]?=some none)
  (q:∀D H',Same H H'->H' D=some (.lst (List.zipWith f xs ys))->Q (.ref D) H') :
  lM X scope N (aUz K tl) (aNp K 2 (tR (cM 0) (tR (cM 1) aP3))) mW te σ H Q:=by
 refine⟨w,A,C _ ⟨t,u,xs,ys,rfl,r,s,λD j=>?_⟩⟩;refine⟨λi m l H' g=>i<=xs.length/\m=xs.length - i/\(∃l1 l2,l=(w.set 0 l1).set 1 l2)/\Same H H'/\H' D=some (.lst g)/\g=(List.zipWith f xs ys).take i,⟨xs.length,bAE _,rfl,⟨none,none,?_⟩,bC j _,aK,rfl⟩,?_⟩
 ·rw[<-mC F];exact mC I
 rintro i m l H' g ⟨hi,rfl,⟨l1,l2,rfl⟩,sm,hL,rfl⟩;refine⟨hL,?_⟩;by_cases d:i<xs.length
 ·right;refine⟨⟨sm.bB r,sm.bB s,d,by lia⟩,λv H2 z=>?_⟩;obtain⟨T,a,b,B,rfl,rfl,p,k⟩:=z;have h:Same H' (upd H' T (.tup [a,b])):=bC B _;refine⟨T,[a,b],rfl,.inl (.inl aK),rfl,a,[b],rfl,b,[],rfl,rfl,?_⟩;unfold mW;dsimp only;rw[if_pos rfl];refine G i a b p k _ _ l1 l2 (λb o e=>h _ _ (sm _ _ e)) λE n=>⟨n _ _ (h _ _ hL),?_,xs.length - (i+1),by lia,d,rfl,⟨some a,some b,?_⟩,?_,aK,?_⟩
  ·rw[bAH,bFA];lia
  ·rw[List.set_comm _ _ (show (1:Nat)≠0 by decide),bCG,bCG]
  ·intro c o e;rw[aR (aQ e j)];exact n _ _ (h _ _ (sm _ _ e))
  ·rw[bBB,List.getElem?_zipWith,p,k];rfl
 ·left;have e:i=xs.length:=by lia
  subst e;refine⟨⟨sm.bB r,d8 _⟩,?_⟩;rw[bAV (by rw[bFA];lia)] at hL;exact q D _ sm hL
def aLj {K:bFP}{a:Addr}{xs:List V}{tl:TE}(b:SqT K H a xs)(h:∀R:VK,R (.ref a) H->tl σ H R)(R:It->Hp->Prop)
  (q:∀J:It,(∀H' i x,Same H H'->xs[i]?=some x->J.go i H'/\∀y H2,J.yld i H' y H2->H2=H'/\y=x)->(∀H',Same H H'->J.stop xs.length H')->R J H):aXw K tl σ H R:=by
 refine h _ ⟨a,rfl,⟨xs,b⟩,q _ (λH' i x s e=>⟨⟨xs,x,s.bB b,e⟩,λy H2 f=>?_⟩) λH' s=>⟨xs,s.bB b,d8 _⟩⟩;obtain⟨g,d⟩:=f;have c:=d xs (s.bB b);rw[e] at c;cases c;exact⟨g,rfl⟩
end
section
variable {κ:Type}[DecidableEq κ]
def eV (kvs:List (κ × V))(k:κ):Option V:=(kvs.find? λkv=>decide (kv.1=k)).map (·.2)
def putK (kvs:List (κ × V))(k:κ)(v:V):List (κ × V):=
 if (kvs.any λkv=>decide (kv.1=k))=true then kvs.map (λkv=>if kv.1=k then (kv.1,v) else kv) else kvs++[(k,v)]
def mD (kvs:List (κ × V))(k:κ):List (κ × V):=kvs.filter λkv=>decide (kv.1≠k)
def cU {p:κ × V}{r:List (κ × V)}{k:κ}(e:p.1=k):eV (p::r) k=some p.2:=by simp[eV,bBZ,e]
def cR {p:κ × V}{r:List (κ × V)}{k:κ}(e:¬ p.1=k):eV (p::r) k=eV r k:=by simp[eV,bBZ,e]
theorem oM (k:κ):∀kvs:List (κ × V),(kvs.any λkv=>decide (kv.1=k))=(eV kvs k).isSome
 |[]=>rfl
 |p::r=>by
  rw[bE2];by_cases e:p.1=k
  ·simp only[cU e,m9 e,Bool.true_or,Option.isSome_some]
  ·rw[cR e,v9 e,Bool.false_or];exact oM k r
theorem aKu (k j:κ)(y:V):∀kvs:List (κ × V),eV (kvs.map λkv=>if kv.1=k then (kv.1,y) else kv) j=(eV kvs j).map λx=>if j=k then y else x
 |[]=>rfl
 |p::r=>by
  have a:=aKu k j y r;rw[bAC];by_cases h:p.1=k
  ·rw[if_pos h];by_cases e:p.1=j
   ·rw[cU (p:=(p.1,y)) e,cU e,bDO,if_pos (e.symm.trans h)]
   ·rw[cR (p:=(p.1,y)) e,cR e,a]
  ·rw[if_neg h];by_cases e:p.1=j
   ·rw[cU e,cU e,bDO,if_neg (λz=>h (e.trans z))]
   ·rw[cR e,cR e,a]
theorem aD9 (k j:κ)(y:V):∀kvs:List (κ × V),eV kvs k=none->eV (kvs++[(k,y)]) j=if j=k then some y else eV kvs j
 |[],_=>by
  by_cases e:k=j
  ·rw[if_pos e.symm];exact cU (p:=(k,y)) e
  ·rw[if_neg (λz=>e z.symm)];exact cR e
 |p::r,hn=>by
  rw[List.cons_append];have a:¬ p.1=k:=λz=>by rw[cU z] at hn;cases hn
  rw[cR a] at hn;have b:=aD9 k j y r hn;by_cases e:p.1=j
  ·rw[cU e,cU e,if_neg (λz=>a (e.trans z))]
  ·rw[cR e,cR e,b]
def aKd (kvs:List (κ × V))(k j:κ)(y:V):eV (putK kvs k y) j=if j=k then some y else eV kvs j:=by
 unfold putK;by_cases a:(kvs.any λb=>decide (b.1=k))=true
 ·rw[if_pos a,aKu];rw[oM] at a;by_cases e:j=k
  ·obtain⟨x,c⟩:=Option.isSome_iff_exists.mp a;rw[if_pos e,e,c,bDO,if_pos rfl]
  ·rw[if_neg e];cases eV kvs j with
   |none=>rfl
   |some x=>rw[bDO,if_neg e]
 ·rw[if_neg a];refine aD9 k j y kvs ?_;rw[oM] at a;cases q:eV kvs k with
  |none=>rfl
  |some x=>rw[q] at a;exact (a rfl).elim
def qG (kvs:List (κ × V))(k:κ)(v:V):(putK kvs k v).length<=kvs.length+1:=by
 unfold putK
 split
 ·rw[j4];lia
 ·rw[bAA,t8,bCK];lia
def aCt {kvs:List (κ × V)}{k:κ}(v:V)(h:eV kvs k=none):putK kvs k v=kvs++[(k,v)]:=by unfold putK;rw[oM,h];exact if_neg (by decide)
theorem oW.nZ (r:oW o u):o.isSome=u.isSome:=by
 cases o with
 |none=>cases u with
  |none=>rfl
  |some _=>exact (show False from r).elim
 |some _=>cases u with
  |none=>exact (show False from r).elim
  |some _=>rfl
theorem oW.getD (r:oW o u)(a:RelV d d'):RelV (o.getD d) (u.getD d'):=by
 cases o with
 |none=>cases u with
  |none=>exact a
  |some _=>exact (show False from r).elim
 |some _=>cases u with
  |none=>exact (show False from r).elim
  |some _=>exact r
theorem KV.val (r:KV kvs vs)(k:κ):oW (eV kvs k) (valueAt vs k):=by
 unfold KV at r
 induction r with
 |nil=>exact True.intro
 |@cons p q ps qs h t ih=>
  obtain⟨c,d⟩:=h;by_cases e:p.1=k
  ·have a:q.1=k:=c.symm.trans e;have b:valueAt (q::qs) k=some q.2:=by simp[valueAt,bBZ,a]
   rw[cU e,b];exact d
  ·have a:¬ q.1=k:=λz=>e (c.trans z);have b:valueAt (q::qs) k=valueAt qs k:=by simp[valueAt,bBZ,a]
   rw[cR e,b];exact ih
theorem KV.any (r:KV kvs vs)(k:κ):(kvs.any λkv=>decide (kv.1=k))=vs.any λkv=>decide (kv.1=k):=by
 unfold KV at r
 induction r with
 |nil=>rfl
 |cons h t ih=>rw[bE2,bE2,ih,h.1]
theorem KV.repl (r:KV kvs vs)(k:κ)(c:RelV y u) :
  KV (kvs.map λkv=>if kv.1=k then (kv.1,y) else kv) (vs.map λkv=>if kv.1=k then (kv.1,u) else kv):=by
 unfold KV at r ⊢
 induction r with
 |nil=>exact .nil
 |@cons p q ps qs h t ih=>
  rw[bAC,bAC];refine .cons ?_ ih;obtain⟨a,b⟩:=h;by_cases e:p.1=k
  ·rw[if_pos e,if_pos (a.symm.trans e)];exact⟨a,c⟩
  ·rw[if_neg e,if_neg (λz=>e (a.trans z))];exact⟨a,b⟩
def KV.put (r:KV kvs vs)(k:κ)(b:RelV y u):KV (putK kvs k y) (stored vs k u):=by
 unfold putK stored;rw[r.any k];by_cases e:(vs.any λa=>decide (a.1=k))=true
 ·rw[if_pos e,if_pos e];exact r.repl k b
 ·rw[if_neg e,if_neg e];exact Paired.snoc r ⟨rfl,b⟩
theorem KV.drop (r:KV kvs vs)(k:κ):KV (mD kvs k) (without vs k):=by
 unfold KV at r ⊢;unfold mD without
 induction r with
 |nil=>exact .nil
 |@cons p q ps qs h t ih=>
  obtain⟨c,f⟩:=h;rw[bD9,bD9];by_cases e:p.1=k
  ·have a:¬ decide (p.1≠k)=true:=by simp[e]
   have b:¬ decide (q.1≠k)=true:=by simp[c.symm.trans e]
   rw[if_neg a,if_neg b];exact ih
  ·have d:¬ q.1=k:=λz=>e (c.trans z);have a:decide (p.1≠k)=true:=by simp[e]
   have b:decide (q.1≠k)=true:=by simp[d]
   rw[if_pos a,if_pos b];exact .cons ⟨c,f⟩ ih
theorem KV.keys {kvs:List (κ × V)}{vs:List (κ × Value)}(r:KV kvs vs):kvs.map (·.1)=vs.map (·.1):=by
 unfold KV at r
 induction r with
 |nil=>rfl
 |cons h t ih=>rw[bAC,bAC,ih,h.1]
theorem KV.length {kvs:List (κ × V)}{vs:List (κ × Value)}(r:KV kvs vs):kvs.length=vs.length:=Paired.length r
def aIm (kvs:List (κ × V))(k:κ):(mD kvs k).length<=kvs.length:=bDA _ _
end
theorem zH (r:RelV (kV k) u):(bK P w).is k u=true:=by
 cases k with
 |inl i=>obtain⟨t,e⟩:=(show ∃t,u=Value.int i t from r);subst e;exact aIq P w i t
 |inr x=>obtain⟨t,e⟩:=(show ∃t,u=Value.str x t from r);subst e;exact aJq P w x t
theorem aZu (e:kV a=kV b):a=b:=by
 cases a with
 |inl i=>cases b with
  |inl j=>have c:=e;injection c with c;rw[c]
  |inr y=>exact nomatch (show V.int i=V.str y from e)
 |inr x=>cases b with
  |inl j=>exact nomatch (show V.str x=V.int j from e)
  |inr y=>have c:=e;injection c with c;rw[c]
theorem aEa:∀{ks:List Key} {us:List Value},Vals (ks.map kV) us->ItemsAre (bK P w) ks us
 |[],_,r=>by rw[List.map_nil] at r;cases r;exact .nil
 |k::ks,_,r=>by
  rw[bAC] at r;cases r with
  |cons h t=>exact .cons (zH h) (aEa t)
abbrev KT (H:Hp):List (List Key × V)->List (List Key × Addr × Value)->Prop:=Paired λp q=>p.1=q.1/\H q.2.1=some (.tup (p.1.map kV))/\RelV p.2 q.2.2
theorem KT.val (r:KT H kvs xs)(k:List Key):oW (eV kvs k) ((atKey xs k).map (·.2)):=by
 induction r with
 |nil=>exact True.intro
 |@cons p q ps qs h t ih=>
  obtain⟨c,_,d⟩:=h;by_cases e:p.1=k
  ·have a:q.1=k:=c.symm.trans e;have b:atKey (q::qs) k=some q.2:=by simp[atKey,bBZ,a]
   rw[cU e,b];exact d
  ·have a:¬ q.1=k:=λz=>e (c.trans z);have b:atKey (q::qs) k=atKey qs k:=by simp[atKey,bBZ,a]
   rw[cR e,b];exact ih
theorem KT.repl (r:KT H kvs xs)(k:List Key)(d:RelV y u) :
  KT H (kvs.map λkv=>if kv.1=k then (kv.1,y) else kv) (xs.map (putAt k u)):=by
 induction r with
 |nil=>exact .nil
 |@cons p q ps qs h t ih=>
  rw[bAC,bAC];refine .cons ?_ ih;obtain⟨a,b,c⟩:=h;unfold putAt;by_cases e:p.1=k
  ·rw[if_pos e,if_pos (a.symm.trans e)];exact⟨a,b,d⟩
  ·rw[if_neg e,if_neg (λz=>e (a.trans z))];exact⟨a,b,c⟩
def KT.put (r:KT H kvs xs)(k:List Key)(d:H b=some (.tup (k.map kV)))(c:RelV y u) :
  KT H (putK kvs k y) (storedH xs k b u):=by
 have e:(kvs.any λa=>decide (a.1=k))=(atKey xs k).isSome:=by rw[oM,(r.val k).nZ,bFJ]
 unfold putK storedH;rw[e];by_cases q:(atKey xs k).isSome=true
 ·rw[if_pos q,if_pos q];exact r.repl k c
 ·rw[if_neg q,if_neg q];exact Paired.snoc r ⟨rfl,d,c⟩
def KT.keeps (r:KT H kvs xs)(a:∀b ys,H b=some (.tup ys)->H' b=some (.tup ys)):KT H' kvs xs:=
 Paired.aZk r λ_ _ z=>⟨z.1,a _ _ z.2.1,z.2.2⟩
section
variable {P:Program}{w:World}{H:Hp}{h:Heap}{a:Addr}
def aYm (b:HOk P w H h)(e:Rd H a u):dN P w H h a u:=e.ok b
def zG (b:HOk P w H h)(e:Rd H a (.dK kvs)):kvs.length<=sizeLine/\(a == sysModules)=false/\∃vs,KV kvs vs/\h.DictOf (bK P w) a vs:=
 show dN P w H h a (.dK kvs) from aYm b e
def aB4 (b:HOk P w H h)(e:H a=some (.dK kvs)):kvs.length<=sizeLine/\(a == sysModules)=false/\∃vs,KV kvs vs/\h.DictOf (bK P w) a vs:=zG b (.inl e)
def yN (g:HOk P w H h)(e:H a=some (.tup (ks.map kV))):(tupleKind (bK P w)).is h ks a:=by obtain⟨_,b,r,⟨o,f,c,n,d⟩,_⟩:=(show dN P w H h a (.tup (ks.map kV)) from g a _ e);exact⟨o,b.toArray,n,f,c,d,by simpa using aEa r⟩
def aBb (g:HOk P w H h)(e:Rd H a (.dT kvs)):kvs.length<=sizeLine/\(a == sysModules)=false /\
  ∃xs,KT H kvs xs/\h.DictOfH (tupleKind (bK P w)) a xs:=by
 obtain⟨z,y,xs,r,o,k,i,n,c,f,j,d⟩:=(show dN P w H h a (.dT kvs) from aYm g e);refine⟨z,y,xs,r,o,k,i,n,c,f,j,λx hx=>?_,d⟩;have b:∀{l:List (List Key × V)} {m:List (List Key × Addr × Value)},KT H l m->∀x∈m,(tupleKind (bK P w)).is h x.1 x.2.1:=by
  intro l m q
  induction q with
  |nil=>intro x hx;exact nomatch hx
  |@cons p q ps qs hq t ih=>
   intro x hx;rcases List.mem_cons.mp hx with e|hx
   ·subst e;exact yN g (by rw[<-hq.1];exact hq.2.1)
   ·exact ih x hx
 exact b r x hx
def bDm (b:HOk P w H h)(e:H a=some (.dT kvs)):kvs.length<=sizeLine/\(a == sysModules)=false /\
  ∃xs,KT H kvs xs/\h.DictOfH (tupleKind (bK P w)) a xs:=aBb b (.inl e)
end
def aH6 (H:Hp)(a:Addr)(y:V)(r:Option V):Prop:=
 (∃kvs k,Rd H a (.dK kvs)/\y=kV k/\r=eV kvs k)\/∃kvs k b,Rd H a (.dT kvs)/\y=.ref b/\H b=some (.tup (k.map kV))/\r=eV kvs k
def zU (H:Hp)(a:Addr)(y v:V)(H':Hp):Prop:=
 (∃kvs k,H a=some (.dK kvs)/\y=kV k/\kvs.length<sizeLine/\H'=upd H a (.dK (putK kvs k v))) \/
 ∃kvs k b,H a=some (.dT kvs)/\y=.ref b/\H b=some (.tup (k.map kV))/\kvs.length<sizeLine/\H'=upd H a (.dT (putK kvs k v))
theorem zU.k {H:Hp}{a:Addr}{kvs:List (Key × V)}{k:Key}{v:V}(e:H a=some (.dK kvs))(b:kvs.length<sizeLine):zU H a (kV k) v (upd H a (.dK (putK kvs k v))):=.inl ⟨kvs,k,e,rfl,b,rfl⟩
section
variable {X:Cx}{bFT:bFR}{σ:St}{H:Hp}{s:Shared}{a:Addr}{y v:V}{u r:Value}{o:Option V}{A:Around}{E:bFQ}
def Inv.big (I:Inv X bFT σ H s):sysModules<s.heap.objs.size:=by have h:=(I.mod.glob.keeps I.bk).lt;exact bDD (by decide) h
def aQ6 (r:A.units+1<cLine)(I:Inv X bFT σ H s)(g:aH6 H a y (some v))(o:RelV y u)(h:∀w' s',Inv X bFT σ H s'->RelV v w'->Q w' s') :
  wpAny (model X.prog X.w) A (getItem (.ref a) u) Q E s:=by
 rcases g with⟨i,k,e,f,l⟩|⟨i,k,b,e,f,eb,l⟩
 ·subst f;obtain⟨z,hd,x,c,n⟩:=zG I.hok e;obtain⟨w',j,d⟩:=oW.some_of (by rw[l];exact c.val k);exact wpAny_getItem_of (zH o) n.mapOf j (h w' _ (I.tok _) d)
 ·subst f;cases (show u=Value.ref b from o);obtain⟨z,hd,t,c,n⟩:=aBb I.hok e;obtain⟨w',j,d⟩:=oW.some_of (by rw[l];exact c.val k);obtain⟨p,q,m⟩:=Option.map_eq_some_iff.mp j;refine wpAny_getItem_heap (tupleKind_room_in1 r) (yN I.hok eb) n q ?_;rw[m];exact h w' _ (I.tok _) d
def bD5 (m:A.units+1<cLine)(I:Inv X bFT σ H s)(g:aH6 H a y o)(j:RelV y u)(h:∀s',Inv X bFT σ H s'->Q (.bool o.isSome) s') :
  wpAny (model X.prog X.w) A (compareOp .In u (.ref a)) Q E s:=by
 rcases g with⟨d,k,e,f,l⟩|⟨d,k,b,e,f,eb,l⟩
 ·subst f;obtain⟨z,hd,p,c,i⟩:=zG I.hok e;refine wpAny_in_of (zH j) hd i.mapOf ?_;rw[<-(c.val k).nZ,<-l];exact h _ (I.tok _)
 ·subst f;cases (show u=Value.ref b from j);obtain⟨z,hd,n,c,i⟩:=aBb I.hok e;refine wpAny_in_heap (tupleKind_room_in1 m) (yN I.hok eb) hd i ?_;have q:=(c.val k).nZ;rw[bFJ] at q;rw[<-q,<-l];exact h _ (I.tok _)
def aXf (m:A.units+1<cLine)(I:Inv X bFT σ H s)(g:aH6 H a y o)(j:RelV y u)(h:∀s',Inv X bFT σ H s'->Q (.bool (!o.isSome)) s') :
  wpAny (model X.prog X.w) A (compareOp .NotIn u (.ref a)) Q E s:=by
 rcases g with⟨d,k,e,f,l⟩|⟨d,k,b,e,f,eb,l⟩
 ·subst f;obtain⟨z,hd,p,c,i⟩:=zG I.hok e;refine wpAny_notIn_of (zH j) hd i.mapOf ?_;rw[<-(c.val k).nZ,<-l];exact h _ (I.tok _)
 ·subst f;cases (show u=Value.ref b from j);obtain⟨z,hd,n,c,i⟩:=aBb I.hok e;refine wpAny_notIn_heap (tupleKind_room_in1 m) (yN I.hok eb) hd i ?_;have q:=(c.val k).nZ;rw[bFJ] at q;rw[<-q,<-l];exact h _ (I.tok _)
def aAj (I:Inv X bFT σ H s)(f:Mut (H a))(e:Heap.SameBut a s.heap h')(g:∃q,h'.get? a=some q)(c:dN X.prog X.w (upd H a ob) h' a ob) :
  Inv X bFT σ (upd H a ob) { s with heap:=h',toks:=t' }:=
 I.write f (.inl rfl) (λb q d z=>(e.2 b d).trans z) g c
def aLs (z:kvs.length<=sizeLine)(hd:(a == sysModules)=false)(b:KV kvs vs)(c:h'.DictOf (bK P w) a vs) :
  dN P w H' h' a (.dK kvs):=⟨z,hd,vs,b,c⟩
def aRx (S:A.units+1<cLine)(I:Inv X bFT σ H s)(g:zU H a y v H')(F:RelV y u)(C:RelV v r)(h:∀s',Inv X bFT σ H' s'->Q () s') :
  wpAny (model X.prog X.w) A (setItem (.ref a) u r) Q E s:=by
 rcases g with⟨f,k,e,n,l,m⟩|⟨f,k,b,e,n,eb,l,m⟩
 ·subst n m;obtain⟨z,hd,O,d,t⟩:=aB4 I.hok e;have G:O.length<=sizeLine:=by rw[<-d.length];exact z
  have p:(putK f k v).length<=sizeLine:=by have:=qG f k v;lia
  refine wpAny_setItem_pairs (zH F) t λx i o=>h _ ?_;have P:∃q,x.get? a=some q:=let ⟨q,_,_,j,_⟩:=i;⟨q,j⟩
  exact aAj I (by rw[e];exact True.intro) o P (aLs p hd (d.put k C) i)
 ·subst n m;cases (show u=Value.ref b from F);obtain⟨z,hd,L,d,t⟩:=bDm I.hok e;have G:L.length<=sizeLine:=by rw[<-Paired.length d];exact z
  have p:(putK f k v).length<=sizeLine:=by have:=qG f k v;lia
  refine wpAny_setItem_heap (tupleKind_room_in1 S) (yN I.hok eb) t λx i o=>h _ ?_;obtain⟨q,R,M,j,D,K,N,_,J⟩:=i;refine aAj I (by rw[e];exact True.intro) o ⟨q,j⟩ ⟨p,hd,_,(d.put k eb C).keeps λc T B=>?_,q,R,M,j,D,K,N,J⟩;rw[aR (aIe B e (λz=>nomatch z))];exact B
end
section
variable {X:Cx}{bFT:bFR}{σ:St}{H:Hp}{s:Shared}{a:Addr}{kvs:List (Key × V)}{k:Key}{u:Value}{A:Around}{E:bFQ}
def bCj {v:V}{more:List Value}{Q:bFQ}(I:Inv X bFT σ H s)(e:H a=some (.dK kvs))(f:RelV (kV k) u)(l:eV kvs k=some v)(m:more=[]\/∃x,more=[x])
  (h:∀w' s',Inv X bFT σ (upd H a (.dK (mD kvs k))) s'->RelV v w'->Q w' s'):wpAny (model X.prog X.w) A (call (.builtin "dict.pop") (.ref a::u::more)) Q E s:=by
 obtain⟨z,hd,g,b,j⟩:=aB4 I.hok e;obtain⟨w',y,d⟩:=oW.some_of (v:=v) (o:=valueAt g k) (by rw[<-l];exact b.val k);have C:(keyPart u).isSome=true:=by
  cases k with
  |inl i=>obtain⟨t,q⟩:=(show ∃t,u=Value.int i t from f);subst q;rfl
  |inr x=>obtain⟨t,q⟩:=(show ∃t,u=Value.str x t from f);subst q;rfl
 have r:argsOk "dict.pop" ⟨.ref a::u::more,[]⟩:=by
  rcases m with q|⟨x,q⟩
  ·subst q;exact PySem.F.args_dict_pop_2 _ _
  ·subst q;exact PySem.F.args_dict_pop_3 _ _ _
 refine call_meetsIn PySem.F.slot_dict_pop j.typeIs PySem.F.entry_dict_pop r (meets_dict_pop_there (bK X.prog X.w) a (zH f) more m C)
  ⟨g,w',j,by rw[<-b.length];exact z,y,λn c p=>h w' _ ?_ d⟩
 have B:∃q,n.get? a=some q:=let ⟨q,_,_,hq,_⟩:=c;⟨q,hq⟩
 exact aAj I (by rw[e];exact True.intro) p B (aLs (bAK (aIm kvs k) z) hd (b.drop k) c)
def aW9 {Q:bFQ}(I:Inv X bFT σ H s)(e:H a=some (.dK kvs))(h:∀s',Inv X bFT σ (upd H a (.dK [])) s'->Q .none s'):wpAny (model X.prog X.w) A (call (.builtin "dict.clear") [.ref a]) Q E s:=by
 obtain⟨z,hd,g,c,d⟩:=aB4 I.hok e;refine call_meetsIn PySem.F.slot_dict_clear d.typeIs PySem.F.entry_dict_clear (PySem.F.args_dict_clear_1 _) (meets_dict_clear (bK X.prog X.w) a) ⟨g,d,by rw[<-c.length];exact z,λj b f=>h _ ?_⟩;have i:∃q,j.get? a=some q:=let ⟨q,_,_,hq,_⟩:=b;⟨q,hq⟩
 exact aAj (t':=s.toks) I (by rw[e];exact True.intro) f i (aLs (bAE _) hd .nil b)
def bDf (I:Inv X bFT σ H s)(e:Rd H a (.dK kvs))(h:∀t s',Inv X bFT σ H s'->Q (.int kvs.length t) s'):wpAny (model X.prog X.w) A (call (.builtin "len") [.ref a]) Q E s:=by obtain⟨z,hd,d,b,c⟩:=zG I.hok e;refine call_len_dict hd c (by rw[<-b.length];rw[sizeLine_eq] at z;lia) ?_;rw[<-b.length];exact h _ _ (I.tok _)
end
def aZs (i:Expr):Prop:=∀ov iv,subscripted i false ov iv=operate [ov,iv] (getItem ov iv)
def aWj {prog:Program}{w:World}{A:Around}{E:bFQ}{s:Shared}{env:Env}{c b:Expr}{pos:Pos}{T id:String}{Q:bFQ}
  (l:typeLookup (.type T) "__getitem__"=pure (some (.builtin id))) (k:aZs b)
  (h:wpAny (model prog w) A (eval c env) (λo s₁=>wpAny (model prog w) A (eval b env) (λi s₂=>s₂.TypeIs o T/\wpAny (model prog w) A (getItem o i) Q E s₂) E s₁) E s) :
  wpAny (model prog w) A (eval (.Subscript c b pos) env) Q E s:=by
 refine Subscript_ (bBN h (λo s₁ g=>bBN g (λi s₂ d=>?_) λ_ _ x=>x) λ_ _ x=>x);obtain⟨f,d⟩:=d;unfold subscriptTail;refine b7 ?_;rw[getitemInPython_of_ne f.not_modules];refine b7 (wpAny_specialOf f l ?_);have a:wpAny (model prog w) A (subscripted b false o i) (λr e=>wpAny (model prog w) A (letTemporaryGo c o r >>= λ_=>pure r) Q E e) E s₂:=by rw[k o i];exact wpAny_operating (bBN d (λr e j=>b7 (wpAny_letTemporaryGo (d7 j))) λ_ _ x=>x)
 first
  |exact d7 (b7 a)
  |exact b7 (d7 (b7 a))
  |exact b7 a
def aLd (I:Inv X bFT σ H s)(g:aH6 H a y o):s.TypeIs (.ref a) "dict":=by
 rcases g with⟨c,k,e,_,_⟩|⟨c,k,b,e,_,_,_⟩
 ·obtain⟨_,_,f,_,d⟩:=zG I.hok e;exact d.typeIs
 ·obtain⟨_,_,h,_,d⟩:=aBb I.hok e;exact d.typeIs
def aYh (td ty:TE):TE:=fun σ H Q=>td σ H λx H1=>ty σ H1 λy H2=>∃a v,x=.ref a/\aH6 H2 a y (some v)/\Q v H2
def bCg (ty td:TE):TE:=fun σ H Q=>ty σ H λy H1=>td σ H1 λx H2=>∃a o,x=.ref a/\aH6 H2 a y o/\Q (.bl o.isSome) H2
def aOt (ty td:TE):TE:=fun σ H Q=>ty σ H λy H1=>td σ H1 λx H2=>∃a o,x=.ref a/\aH6 H2 a y o/\Q (.bl (!o.isSome)) H2
def aYg (td ty tv:TE):TS:=λD σ H=>tv σ H λv H1=>td σ H1 λx H2=>ty σ H2 λy H3=>∃a H4,x=.ref a/\zU H3 a y v H4/\D.nx σ H4
section
variable {X:Cx}{o i e value:Expr}{pos pos' tpos:Pos}{td ty tv:TE}
def aWp (t:X.A.units+1<cLine)(E:PE X o td)(hi:PE X i ty)(C:aZs i):PE X (.Subscript o i pos) (aYh td ty):=by intro b s σ H Q I h;refine aWj PySem.F.slot_dict_getitem.lookup C (thn (E b s σ H _ I h) λu k ⟨x,n,p,r,f⟩=>thn (hi b k σ n _ p f) λD z ⟨y,l,d,j,a,v,q,g,e⟩=>?_);subst q;obtain rfl:u=Value.ref a:=r;exact⟨aLd d g,aQ6 t d g j λw B m c=>⟨v,l,m,c,e⟩⟩
def aY6 (t:X.A.units+1<cLine)(hi:PE X i ty)(B:PE X o td):PC X .In i o (bCg ty td):=by intro b s σ H Q I h;refine thn (hi b s σ H _ I h) λz f ⟨y,n,p,d,e⟩=>thn (B b f σ n _ p e) λu v ⟨x,k,l,r,a,j,q,g,c⟩=>?_;subst q;obtain rfl:u=Value.ref a:=r;exact bD5 t l g d λw m=>⟨.bl j.isSome,k,m,rfl,c⟩
def aQ3 (t:X.A.units+1<cLine)(hi:PE X i ty)(B:PE X o td):PC X .NotIn i o (aOt ty td):=by intro b s σ H Q I h;refine thn (hi b s σ H _ I h) λz f ⟨y,n,p,d,e⟩=>thn (B b f σ n _ p e) λu v ⟨x,k,l,r,a,j,q,g,c⟩=>?_;subst q;obtain rfl:u=Value.ref a:=r;exact aXf t l g d λw m=>⟨.bl (!j.isSome),k,m,rfl,c⟩
def aVr (F:X.A.units+1<cLine)(L:PE X o td)(hi:PE X i ty)(G:PE X value tv)(M:swapsWith value (some (.Subscript o i pos')) pos.line X.env=pure false) :
  PS X (.Assign [.Subscript o i pos'] value pos) (aYg td ty tv):=by
 intro b s σ H D I h;refine wpAny_Assign_Subscript (thn (G b s σ H _ I h) λr c ⟨v,f,B,m,p⟩=>thn (L b c σ f _ B p) λu d ⟨x,w,z,k,n⟩=>thn (hi b d σ w _ z n) λK J ⟨y,N,e,q,a,C,j,g,l⟩=>?_) M;subst j;obtain rfl:u=Value.ref a:=k;exact aRx F e g q m λE t=>⟨σ,C,t,l⟩
end
def aUq (h:Heap)(a:sysModules<h.objs.size):dN P w H (h.push { cls:=.type "dict",data:=.dict #[] }) h.objs.size (.dK []):=
 ⟨bAE _,beq_eq_false_iff_ne.mpr (Ne.symm (t6 a)),[],.nil,Heap.DictOf.new h⟩
def aSb:TE:=λ_ H Q=>∀p,H p=none->Q (.ref p) (upd H p (.dK []))
section
variable {X:Cx}{pos:Pos}
def aSr:PE X (.Dict [] [] pos) aSb:=λa s σ H Q I h=>
 wpAny_Dict_empty ⟨.ref s.heap.objs.size,_,I.laid (t':=s.toks) (λ_ _ q=>c7 _ q) (d8 _) (aUq s.heap I.big),rfl,h _ (I.hok.fresh (d8 _))⟩
end
def pA (kvs more:List (Key × V)):List (Key × V):=more.foldl (λacc kv=>putK acc kv.1 kv.2) kvs
theorem KV.merge:∀{more:List (Key × V)} {rs:List (Key × Value)} {kvs:List (Key × V)} {vs:List (Key × Value)},KV more rs->KV kvs vs->KV (pA kvs more) (merged vs rs):=by
 intro more rs kvs vs r;unfold KV at r
 induction r generalizing kvs vs with
 |nil=>intro q;exact q
 |@cons p q ps qs h t ih=>
  intro a;have e:KV (putK kvs p.1 p.2) (stored vs q.1 q.2):=by have:=a.put p.1 h.2;rw[<-h.1];exact this
  exact ih e
theorem nY:∀more kvs,(pA kvs more).length<=kvs.length+more.length
 |[],kvs=>by show kvs.length<=kvs.length+0;lia
 |p::r,kvs=>by have b:=nY r (putK kvs p.1 p.2);have a:=qG kvs p.1 p.2;show (pA (putK kvs p.1 p.2) r).length<=_;rw[t8];lia
structure M1 (X:Cx)(o:Expr)(m:Str)(apos:Pos)(e:Expr)(cpos:Pos):Prop where
 base:attributeBase o m X.env (eval o X.env)=eval o X.env
 few:((backTo cpos (starEach [e] X.env)).all (λx=>!x.1) && (backToKw cpos (keywordEach [] X.env)).all (λx=>x.1.isSome)
  && decide (([e]:List Expr).length+([]:List Keyword).length+(if ([]:List Keyword).isEmpty then 0 else 1)<30))=true
 line:(apos.endLine == cpos.line)=true
 trees:backTo cpos (starEach [e] X.env)=[(false,eval e X.env)]
def IsD (H:Hp)(a:Addr):Prop:=(∃kvs,Rd H a (.dK kvs))\/∃kvs,Rd H a (.dT kvs)
def bA7 (I:Inv X bFT σ H s)(d:IsD H a) :
  s.TypeIs (.ref a) "dict"/\(∀b,Value.ref a=.ref b->∃ob,s.heap.get? b=some ob/\ob.dict=none)/\(a == sysModules)=false:=by
 rcases d with⟨g,e⟩|⟨g,e⟩
 ·obtain⟨_,hd,j,_,c⟩:=zG I.hok e;refine⟨c.typeIs,λb q=>?_,hd⟩;cases q;obtain⟨ob,_,_,h,f,_⟩:=c;exact⟨ob,h,f.2.1⟩
 ·obtain⟨_,hd,i,_,c⟩:=aBb I.hok e;refine⟨c.typeIs,λb q=>?_,hd⟩;cases q;obtain⟨ob,_,_,h,f,_⟩:=c;exact⟨ob,h,f.2.1⟩
section
variable {X:Cx}{bFT:bFR}{σ:St}{H:Hp}{s:Shared}{a:Addr}{y d:V}{u r:Value}{o:Option V}{A:Around}{E:bFQ}
def aZ7 (n:A.units+1<cLine)(I:Inv X bFT σ H s)(g:aH6 H a y o)(m:RelV y u)(h:∀w' s',Inv X bFT σ H s'->RelV (o.getD .non) w'->Q w' s') :
  wpAny (model X.prog X.w) A (call (.builtin "dict.get") [.ref a,u]) Q E s:=by
 rcases g with⟨f,k,e,i,l⟩|⟨f,k,b,e,i,eb,l⟩
 ·subst i;obtain⟨z,hd,p,c,d⟩:=zG I.hok e;refine call_meetsIn PySem.F.slot_dict_get d.typeIs PySem.F.entry_dict_get (PySem.F.args_dict_get_2 _ _) (meets_dict_get (bK X.prog X.w) a (zH m) hd) ⟨_,d.mapOf,h _ _ (I.tok _) ?_⟩;rw[l];exact (c.val k).getD rfl
 ·subst i;cases (show u=Value.ref b from m);obtain⟨z,hd,j,c,d⟩:=aBb I.hok e;refine call_meetsIn PySem.F.slot_dict_get d.typeIs PySem.F.entry_dict_get (PySem.F.args_dict_get_2 _ _) (meetsH_dict_get (tupleKind (bK X.prog X.w)) a b hd) ⟨tupleKind_room_in1 n,k,j,yN I.hok eb,d,h _ _ (I.tok _) ?_⟩;rw[l];exact (c.val k).getD rfl
end
def aSx (td ty:TE):TE:=fun σ H Q=>td σ H λx H1=>∃a,x=.ref a/\IsD H1 a/\ty σ H1 λy H2=>∃o,aH6 H2 a y o/\Q (o.getD .non) H2
section
variable {X:Cx}{o e f:Expr}{apos cpos:Pos}{td ty tx:TE}
def aVg (B:X.A.units+1<cLine)(K:PE X o td)(J:PE X e ty)(m:M1 X o "get" apos e cpos):PE X (.Call (.Attribute o "get" apos) [e] [] cpos) (aSx td ty):=by intro b s σ H Q I h;refine wpAny_Call_method m.base m.few m.line PySem.F.plainAttrs_dict PySem.F.slot_dict_get PySem.F.type_dict_get (thn (K b s σ H _ I h) λu i ⟨x,k,f,n,a,l,d,r⟩=>?_);subst l;obtain rfl:u=Value.ref a:=n;obtain⟨p,v,_⟩:=bA7 f d;refine⟨p,v,?_⟩;rw[m.trees];refine bDM rfl (bE7 (bCA (thn (J b i σ k _ f r) λG C ⟨y,w,z,t,D,g,q⟩=>bEO ?_)));exact aZ7 B z g t λL E j c=>⟨_,w,j,c,q⟩
end
section
variable {X:Cx}{bFT:bFR}{σ:St}{H:Hp}{s:Shared}{a:Addr}{kvs:List (Key × V)}{A:Around}{E:bFQ}
end
section
variable {X:Cx}{bFT:bFR}{σ:St}{H:Hp}{s:Shared}{a:Addr}{y:V}{u:Value}{A:Around}{E:bFQ}
end
section
variable {X:Cx}
def aQ7:cJ X (.builtin "len") (λxs H Q=>∃a kvs,xs=[V.ref a]/\H a=some (.dK kvs)/\Q (.int kvs.length) H):=by intro c s σ H xs g Q I r h;obtain⟨a,kvs,rfl,e,q⟩:=h;obtain⟨u,rfl,d⟩:=vals1 r;cases d;exact bDf I (.inl e) λt f b=>⟨.int kvs.length,H,b,⟨t,rfl⟩,q⟩
end
section
variable {κ:Type}[DecidableEq κ]
def aYa {kvs:List (κ × V)}{k:κ}{v:V}(h:eV kvs k=some v):k∈kvs.map (·.1):=by
 have q:(kvs.any λa=>decide (a.1=k))=true:=by rw[oM,h];all_goals rfl
 obtain⟨p,b,e⟩:=List.any_eq_true.mp q;exact List.mem_map.mpr ⟨p,b,of_decide_eq_true e⟩
def aQp {p:κ × V}{r:List (κ × V)}{k:κ}(e:p.1=k):mD (p::r) k=mD r k:=by unfold mD;rw[bD9,if_neg (by simp[e])]
def aQu {p:κ × V}{r:List (κ × V)}{k:κ}(e:¬ p.1=k):mD (p::r) k=p::mD r k:=by unfold mD;rw[bD9,if_pos (by simp[e])]
end
structure VE (X:Cx)(e:Expr)(t:TE):Prop where
 out:PE X e t
structure VT (X:Cx)(e:Expr)(t:TT):Prop where
 out:PT X e t
structure VW (X:Cx)(e:Expr)(t:TT):Prop where
 out:PW X e t
structure VA (X:Cx)(es:List Expr)(t:TA):Prop where
 out:PA X es t
structure VS (X:Cx)(st:Stmt)(t:TS):Prop where
 out:PS X st t
structure VSs (X:Cx)(st:List Stmt)(t:TS):Prop where
 out:PSs X st t
structure VI (X:Cx)(tg iter:Expr)(t:TI):Prop where
 out:PI X tg iter t
structure VG (X:Cx)(tg:Expr)(t:TG):Prop where
 out:PG X tg t
structure VGs (X:Cx)(tg:List Expr)(t:TGs):Prop where
 out:PGs X tg t
structure VO (X:Cx)(e:Option Expr)(t:TO):Prop where
 out:PO X e t
structure VF (X:Cx)(ifs:List Expr)(t:TT):Prop where
 out:aSo X ifs t
section
variable {X:Cx}{a b c e:Expr}{es:List Expr}{ta tb tc te:TE}{t:TA}{tA tB':TT}{pos p:Pos}{x:Str}
def vv (i:Nat)(c:X.N[i]?=some x:=by rfl)(b:Vis X.env.scope x:=by trivial)(hd:(x == ("__debug__":Str))=false:=by decide)
  (a:(x == ("__classdict__":Str))=false:=by decide):VE X (.Name x pos) (aQj i):=⟨pv i c b hd a⟩
def qJ (b:Gl X x)(a:∃u,X.mg x=some u/\RelV v u)(hd:(x == ("__debug__":Str))=false:=by decide):VE X (.Name x pos) (tC v):=⟨bDa b a hd⟩
def fZ (b:Gl X x)(d:X.mg x=none)(a:bootBuiltins x=some u)(r:RelV v u)(c:x≠"__name__":=by decide)(hd:(x == ("__debug__":Str))=false:=by decide):VE X (.Name x pos) (tC v):=⟨aYe b d a r c hd⟩
def aF {i j}:VE X (.Constant (.int i) j pos) (tC (.int i)):=⟨bBv⟩
def lK {b j}:VE X (.Constant (.bool b) j pos) (tC (.bl b)):=⟨bCe⟩
def qO {j}:VE X (.Constant .none j pos) (tC .non):=⟨bA2⟩
def bN {x j}:VE X (.Constant (.str x) j pos) (tC (.str x)):=⟨bBq⟩
def bO (d:OpR X (binaryOp op) r)(e:VE X a ta)(c:VE X b tb):VE X (.BinOp a op b pos) (tOp r ta tb):=⟨bC5 d e.1 c.1⟩
def bB5 (b:UnR X (unaryOp op) r)(c:VE X a ta):VE X (.UnaryOp op a pos) (tUn r ta):=⟨bCi b c.1⟩
def dB (d:OpR X (compareOp op) r)(f:VE X a ta)(c:VE X b tb)(e:behindInMarks op b=false):VE X (.Compare a [op] [b] pos) (tOp r ta tb):=⟨aVv d f.1 c.1 e⟩
def bQ (d:OpR X (compareOp op) r)(f:VE X a ta)(c:VE X b tb)(e:behindInMarks op b=false):VT X (.Compare a [op] [b] pos) (aPm (tOp r ta tb)):=⟨aV7 d f.1 c.1 e⟩
def aR5 (h:OpR X (compareOp op) r)(d:OpR X (compareOp op') r')(g:VE X a ta)(e:VE X b tb)(f:VE X c tc)
  (i:lastMarks [op,op'] [b,c]=false:=by with_unfolding_all rfl):VE X (.Compare a [op,op'] [b,c] pos) (aGg r r' ta tb tc):=⟨aUi h d g.1 e.1 f.1 i⟩
def aC0 (h:OpR X (compareOp op) r)(d:OpR X (compareOp op') r')(g:VE X a ta)(e:VE X b tb)(f:VE X c tc)
  (i:lastMarks [op,op'] [b,c]=false:=by with_unfolding_all rfl):VT X (.Compare a [op,op'] [b,c] pos) (aPm (aGg r r' ta tb tc)):=⟨aR9 h d g.1 e.1 f.1 i⟩
def jD {op}(h:VE X a te):VE X (.BoolOp op [a] pos) te:=⟨aZ3 h.1⟩
def jL (d:VE X a ta)(c:VE X (.BoolOp .And (b::rest) pos) tb):VE X (.BoolOp .And (a::b::rest) pos) (aYn ta tb):=⟨bAt d.1 c.1⟩
def aYq (d:VE X a ta)(c:VE X (.BoolOp .Or (b::rest) pos) tb):VE X (.BoolOp .Or (a::b::rest) pos) (bDj ta tb):=⟨bCx d.1 c.1⟩
def aZ1 (b:VE X a ta):VE X (.UnaryOp .Not a pos) (aYw ta):=⟨bBm b.1⟩
def aKa (e:VT X c tA)(f:VE X a ta)(d:VE X b tb):VE X (.IfExp c a b pos) (tIf tA ta tb):=⟨aVk e.1 f.1 d.1⟩
def aA:VA X [] aF3:=⟨aY5⟩
def aB (c:VE X e te)(b:VA X es t)(a:dH e=true:=by rfl):VA X (e::es) (gY te t):=⟨bDr c.1 b.1 a⟩
def aN (G:Ok X.prog X.w X.K X.mg X.base k x ps sp)(g:Room k X.A)(c:Gl X x)(d:VA X (e::es) t)(b:(x == ("__debug__":Str))=false:=by decide)
  (f:dH e=true:=by rfl) (a:(backTo pos (starEach es X.env)).any (·.1)=false:=by rfl) :
  VE X (.Call (.Name x p) (e::es) [] pos) (aFr sp [] E0 t):=⟨bC4 G g c d.1 b (aW f) a⟩
def bAb (G:Ok X.prog X.w X.K X.mg X.base k x ps sp)(b:Room k X.A)(c:Gl X x)(a:(x == ("__debug__":Str))=false:=by decide) :
  VE X (.Call (.Name x p) [] [] pos) (aFr sp [] E0 aF3):=⟨bA3 G b c a⟩
def aP {id:String}{r:List V->Hp->VK->Prop}(h:cJ X (.builtin id) r)(c:Gl X x)(j:X.mg x=none)(g:bootBuiltins x=some (.builtin id))(f:VA X (e::es) t)(d:x≠"__name__":=by decide)(b:(x == ("__debug__":Str))=false:=by decide)
  (i:dH e=true:=by rfl) (a:(backTo pos (starEach es X.env)).any (·.1)=false:=by rfl):VE X (.Call (.Name x p) (e::es) [] pos) (tCB r t):=⟨aUu h c j g f.1 d b (aW i) a⟩
def cH (h:cJ X (.type T) r)(c:Gl X x)(j:X.mg x=none)(g:bootBuiltins x=some (.type T))(f:VA X (e::es) t)(d:x≠"__name__":=by decide)(b:(x == ("__debug__":Str))=false:=by decide)
  (i:dH e=true:=by rfl) (a:(backTo pos (starEach es X.env)).any (·.1)=false:=by rfl):VE X (.Call (.Name x p) (e::es) [] pos) (tCB r t):=⟨aP9 h c j g f.1 d b (aW i) a⟩
def rE {o:Expr}{to:TE}{name:Str}{apos cpos:Pos}{T id:String}{r:V->List V->Hp->VK->Prop}(h:PlainAttrs T)(slot:Slot T name id)(f:typeOf (.builtin id)=pure (.type "method_descriptor"))(k:MtR X id r)(j:VE X o to)(g:VA X (e::es) t)
  (b:attributeBase o name X.env (eval o X.env)=eval o X.env:=by rfl)
  (d:((backTo cpos (starEach (e::es) X.env)).all (λx=>!x.1) && (backToKw cpos (keywordEach [] X.env)).all (λx=>x.1.isSome)
   && decide ((e::es).length+([]:List Keyword).length+(if ([]:List Keyword).isEmpty then 0 else 1)<30))=true:=by rfl)
  (c:(apos.endLine == cpos.line)=true:=by rfl) (i:dH e=true:=by rfl) (a:(backTo cpos (starEach es X.env)).any (·.1)=false:=by rfl) :
  VE X (.Call (.Attribute o name apos) (e::es) [] cpos) (tBM X.K T r to t):=⟨bCb h slot f k j.1 g.1 b d c (aW i) a⟩
def rP (f:VE X a ta)(d:VE X b tb)(e:aJv b) :
  VE X (.Subscript a b pos) (tOp (λx y H Q=>∃z i c,x=.str z/\y=.int i/\0<=i/\i<2 ^ 63/\i<z.length/\z.cps[i.toNat]?=some c/\Q (.str ⟨#[c]⟩) H) ta tb):=⟨aIp f.1 d.1 e⟩
def gZ:VO X none aPf:=⟨aWx⟩
def fJ (h:VE X e te):VO X (some e) (aYv te):=⟨aWk h.1⟩
def eO {r:V->Option Int->Option Int->Hp->VK->Prop}{lo hi:Option Expr}{tl th:TO}{p2:Pos}(d:SlR X r)(c:VE X e te)(b:VO X lo tl)(a:VO X hi th):VE X (.Subscript e (.Slice lo hi none p2) pos) (tSl r te tl th):=⟨aR7 d c.1 b.1 a.1⟩
def aU (e:IxR X r)(f:VE X a ta)(c:VE X b tb)(d:aPq b):VE X (.Subscript a b pos) (tOp r ta tb):=⟨bCr e f.1 c.1 d⟩
def aR3:VE X (.Dict [] [] pos) aSb:=⟨aSr⟩
theorem VE.imp {t t':TE}(h:VE X e t)(k:∀σ H Q,t' σ H Q->t σ H Q):VE X e t':=⟨PE.imp h.1 k⟩
def aOv (b:VT X a tA):VW X (.BoolOp .And [a] pos) tA:=⟨aX5 b.1⟩
def gK (b:VT X a tA):VW X (.BoolOp .Or [a] pos) tA:=⟨bBe b.1⟩
def aUg (d:VT X a tA)(c:VW X (.BoolOp .And (b::rest) pos) tB'):VW X (.BoolOp .And (a::b::rest) pos) (bB1 tA tB'):=⟨aY9 d.1 c.1⟩
def iR (d:VT X a tA)(c:VW X (.BoolOp .Or (b::rest) pos) tB'):VW X (.BoolOp .Or (a::b::rest) pos) (tOr tA tB'):=⟨bC7 d.1 c.1⟩
theorem VW.pt (h:VW X e tA):VT X e tA:=⟨h.1.pt⟩
def cT (b:VT X a tA):VT X (.UnaryOp .Not a pos) (bAw tA):=⟨bAe b.1⟩
def cL (h:VE X e te)(a:∀whole,isTrue e X.env whole=(do let v <-whole;standAt e.pos;holding [v] (truthy v)):=by intro _;rfl):VT X e (tB te):=⟨aZd h.1 a⟩
def aI3 (c:VE X a ta)(b:∀whole,isTrue a X.env whole=(do let v <-whole;standAt a.pos;holding [v] (truthy v)):=by intro _;rfl) :
  VT X a (fun σ H Q=>ta σ H λx H'=>∃k,aZr X.K x H' k/\Q k H'):=⟨aU6 c.1 b⟩
variable {st:Stmt}{rest:List Stmt}{u w':TS}
def bF:VSs X [] rY:=⟨aVy⟩
def aC (b:VS X st u)(a:VSs X rest w'):VSs X (st::rest) (aHe u w'):=⟨aTj b.1 a.1⟩
def aH (a:VS X st u):VSs X [st] u:=⟨aWq a.1⟩
def aO (a:VE X e te):VS X (.Return (some e) pos) (tO te):=⟨bAq a.1⟩
def cA {a b:List Stmt}(e:VT X c tA)(f:VSs X a u)(d:VSs X b w'):VS X (.If c a b pos) (aMv tA u w'):=⟨bB0 e.1 f.1 d.1⟩
def bA (f:X.N.Nodup)(hi:X.N[i]?=some x)(a:Loc X.env.scope x)(d:VE X e te)(b:swapsWith e (some (.Name x pos')) pos.line X.env=pure false:=by rfl)(c:X.fn x=true\/X.env.scope.names.lookup x=some .local:=by first|exact .inl rfl|exact .inr rfl|assumption) :
  VS X (.Assign [.Name x pos'] e pos) (aBq te (cM i)):=⟨bAu f hi a d.1 b c⟩
def cI (b:VE X e te)(a:swapsWith e none pos.line X.env=pure false:=by rfl):VS X (.Expr e pos) (aR6 te):=⟨aXk b.1 a⟩
def fQ {tg iter:Expr}{body:List Stmt}{wi:TI}{g:TG}{tb:TS}(e:PassesOwn (model X.prog X.w) X.A X.env X.xe)(d:X.calm=true)(hi:VI X tg iter wi)(a:VG X tg g)(c:VSs X body tb)
  (b:∀x,foldedSetIterable iter X.env x=pure x:=by intro _;rfl):VS X (.For tg iter body [] pos) (bB7 wi g tb):=⟨bAj e d hi.1 a.1 c.1 b⟩
def aX (a:X.N.Nodup)(hi:X.N[i]?=some x)(b:Loc X.env.scope x)(c:X.fn x=true\/X.env.scope.names.lookup x=some .local:=by first|exact .inl rfl|exact .inr rfl|assumption):VG X (.Name x pos) (cM i):=⟨aXu a hi b c⟩
def jK:VGs X [] aP3:=⟨aWh⟩
def cD {t:TG}{u:TGs}(c:VG X e t)(b:VGs X es u)(a:(assignEach (e::es) X.env).map (·.2)=assign e X.env::(assignEach es X.env).map (·.2):=by rfl):VGs X (e::es) (tR t u):=⟨aUm c.1 b.1 a⟩
def xG {k:Nat}{t:TGs}{n:Nat}(b:X.calm=true)(h:VGs X es t)(c:(assignEach es X.env).length=n:=by rfl)(a:(assignEach es X.env).findIdx? (·.1)=none:=by rfl):VG X (.Tuple es k pos) (aNp X.K n t):=⟨bAm b h.1 c a⟩
variable {tg:Expr}
def jB (h:VE X e te):VI X tg e (aJi X.K te):=⟨aWw h.1⟩
def qU (h:VE X e te):VI X tg e (aXw X.K te):=⟨bBh h.1⟩
def aVi (h:VE X e te):VI X tg e (aZc te):=⟨bBt h.1⟩
def gG (d:Gl X "range")(c:X.mg "range"=none)(e:VA X [a] t)(b:dH a=true:=by rfl):VI X tg (.Call (.Name "range" p) [a] [] pos) (aU9 t):=⟨aRo d c e.1 (aW b)⟩
def eX:VF X [] mW:=⟨bBi⟩
def aMa (h:VT X c tA):VF X [c] tA:=⟨aZo h.1⟩
def dJ
  (C:aAt scope N) (b:∀y,(y,NameKind.free)∈scope.names->X.env.kindOf y=some .cell\/X.env.kindOf y=some .free) (d:X.calm=true)
  (hi:VI X target iter wi)
  (a:∀cl s H fp,VG (cxC X N scope cl s H fp) target g/\VF (cxC X N scope cl s H fp) ifs tt/\VE (cxC X N scope cl s H fp) elt te)
  (c:∀x,foldedSetIterable iter X.env x=pure x:=by intro _;rfl) :
  VE X (.ListComp elt [⟨target,iter,ifs,0⟩] scope pos) (lM X scope N wi g tt te):=
 ⟨aX9 C b d hi.1 (λcl s H fp=>⟨(a cl s H fp).1.1,(a cl s H fp).2.1.1,(a cl s H fp).2.2.1⟩) c⟩
end
section
variable {P:Program}{w:World}{K:bFP}{mg:bFS}{base:Heap}
def Fun.okV {x qual:Str}{st:Stmt}{f:Addr}{fd:FuncData}{N ps:List Str}{k:Nat}{sp:Sp}(F:Fun K x qual st f fd)(S:aM N ps (aJ st))(b:∀vs H Q E,sp vs H Q E->vs.length=ps.length)
  (a:∀(cdv:Value) (A:Around) (outer:List Env) (s:Shared) (H:Hp) (vs:List V) (Q:VK) (E:XK),Room k (A.deeper (envOfC qual (aJ st) s.heap.objs.size f cdv))->sp vs H Q E ->
   ∃t,VSs (aC2 CX0 P w K mg base N qual (aJ st) f cdv A outer s H E).nox (fH st) t/\t { nx:=λ_ H'=>Q .non H',rt:=Q } (start N vs) H):lY P w K mg base CX0 (k+1) f fd ps sp:=
 F.ok S b λcdv A outer s H vs Q E c h=>let ⟨t,h1,h2⟩:=a cdv A outer s H vs Q E c h;⟨t,h1.1,h2⟩
def Ok.ofV {x:Str}{st:Stmt}{N ps:List Str}{k:Nat}{sp:Sp}(D:Dn K mg x st ps)(S:aM N ps (aJ st))(b:∀vs H Q E,sp vs H Q E->vs.length=ps.length)
  (a:∀(f:Addr) (cdv:Value) (A:Around) (outer:List Env) (s:Shared) (H:Hp) (vs:List V) (Q:VK) (E:XK),Room k (A.deeper (envOfC x (aJ st) s.heap.objs.size f cdv))->sp vs H Q E ->
   ∃t,VSs (aC2 CX0 P w K mg base N x (aJ st) f cdv A outer s H E).nox (fH st) t/\t { nx:=λ_ H'=>Q .non H',rt:=Q } (start N vs) H):Ok P w K mg base (k+1) x ps sp:=
 Ok.of D S b λf cdv A outer s H vs Q E c h=>let ⟨t,h1,h2⟩:=a f cdv A outer s H vs Q E c h;⟨t,h1.1,h2⟩
end
def Held (P:Program)(w:World)(K:bFP)(mg:bFS)(base:Heap)(k:Nat)(f:Addr)(ps:List Str)(sp:Sp):Prop:=
 ∃fd,PySem.W.keepIn K (.ref f)=true/\Binds K fd ps []/\lY P w K mg base CX0 k f fd ps sp
def Ok.held {P:Program}{w:World}{K:bFP}{mg:bFS}{base:Heap}{k:Nat}{x:Str}{ps:List Str}{sp:Sp}(G:Ok P w K mg base k x ps sp):∃f,mg x=some (.ref f)/\Held P w K mg base k f ps sp:=by obtain⟨f,c,e,a,d,b⟩:=G;exact⟨f,e,c,a,d,b⟩
section
variable {X:Cx}{x:Str}{p pos:Pos}{e:Expr}{es:List Expr}{te:TE}{t:TA}
def aUs (P:Program)(w:World)(K:bFP)(mg:bFS)(base:Heap)(k:Nat)(te:TE)(t:TA):TE:=fun σ H Q=>te σ H λv H1=>∃f ps sp,v=.ref f/\Held P w K mg base k f ps sp/\t σ H1 λvs H2=>sp vs H2 Q E0
def aYb (N:Room k X.A)(y:PE X (.Name x p) te)(C:PA X (e::es) t)
  (G:starEach (e::es) X.env=(false,eval e X.env)::starEach es X.env:=by rfl) (n:(backTo pos (starEach es X.env)).any (·.1)=false:=by rfl) :
  PE X (.Call (.Name x p) (e::es) [] pos) (aUs X.prog X.w X.K X.mg X.base k te t):=by
 intro a s σ H Q I h;refine bBT (thn (y a s σ H _ I h) λu j ⟨v,m,c,o,g⟩=>?_);obtain⟨f,J,L,rfl,⟨M,i,l,F⟩,q⟩:=g;obtain rfl:u=Value.ref f:=o;refine PySem.W.callWith_K c.ok.mod.kin i (thn (C pos a j σ m _ c q) λD z ⟨E,B,b,r,d⟩=>⟨b.kIn,?_⟩) G n;exact aA1 F N l .nil aEo b r (by simpa using d)
end
end L2
namespace PySem
end PySem
namespace L2
open PySem PySem.Spec PyProof.Rows
section
variable {X:Cx}
def aWm:OpR X (binaryOp .Add) (λx y H Q=>∃a b ys,x=.ref a/\y=.ref b/\SqT X.K H a []/\SqT X.K H b ys/\Q (.ref b) H):=by
 intro J s σ H x y v u Q I w D h;obtain⟨a,b,ys,rfl,rfl,t,p,q⟩:=h;cases w;cases D;obtain⟨z,L,E,_⟩:=I.tuple t;obtain⟨f,M,A,_⟩:=I.tuple p;cases L;obtain⟨⟨G,B,l,C⟩,k,o,n,hd⟩:=id E;obtain⟨⟨m,j,g,i⟩,c,e,r,d⟩:=id A;simp only at o hd e d;subst o hd e d;exact concat_meets ⟨_,k,rfl⟩ ⟨_,c,rfl⟩ noFill_tuple_add seq_tuple_add PySem.F.slot_tuple_add PySem.F.entry_tuple_add (PySem.F.args_tuple_add_2 _ _)
  (tuple_addW0 a b #[] f.toArray n r B j C i rfl) ⟨k,c,⟨.ref b,H,I,rfl,q⟩⟩
end
end L2
namespace PySem
def aBw (σ:List Str)(v:Str):List Str:=if v∈σ then σ else σ++[v]
def oY (ss:List Str):List Str:=ss.foldl aBw []
def aFa (ss:List Str)(v:Str):oY (ss++[v])=aBw (oY ss) v:=by unfold oY;rw[List.foldl_append];rfl
def wI (σ:List Str)(v k:Str):k∈aBw σ v↔k∈σ\/k=v:=by
 unfold aBw;by_cases h:v∈σ
 ·rw[if_pos h];exact⟨.inl,λq=>q.elim id λe=>e ▸ h⟩
 ·rw[if_neg h];simp
def aBn (σ:List Str)(v:Str):(aBw σ v).length=if v∈σ then σ.length else σ.length+1:=by
 unfold aBw
 split <;> simp
theorem xU:∀(ss σ:List Str),(ss.foldl aBw σ).length<=σ.length+ss.length
 |[],σ=>by simp
 |v::r,σ=>by
  rw[List.foldl_cons,t8];have h:=xU r (aBw σ v);rw[aBn] at h
  split at h <;> lia
def aVc (a:List Str):(oY a).length<=a.length:=by have h:=xU a [];unfold oY;simpa using h
theorem aC4:∀(ss σ:List Str),(ss.foldl aBw σ).length=σ.length+ss.length↔ss.Nodup/\∀v∈ss,v∉σ
 |[],σ=>by simp
 |v::r,σ=>by
  rw[List.foldl_cons,t8,bDP];have a:=xU r (aBw σ v);have c:=aC4 r (aBw σ v);rw[aBn] at c a;by_cases h:v∈σ
  ·rw[if_pos h] at c a;constructor
   ·intro q;lia
   ·intro q;exact absurd h (q.2 v j7)
  ·rw[if_neg h] at c a;have e:σ.length+(r.length+1)=σ.length+1+r.length:=by lia
   rw[e,c];constructor
   ·rintro⟨d,b⟩;refine⟨⟨λm=>b v m ((wI σ v v).mpr (.inr rfl)),d⟩,λy hy=>?_⟩;rcases List.mem_cons.mp hy with rfl|hy
    ·exact h
    ·exact λm=>b y hy ((wI σ v y).mpr (.inl m))
   ·rintro⟨⟨d,b⟩,f⟩;refine⟨b,λy hy m=>?_⟩;rcases (wI σ v y).mp m with m|rfl
    ·exact f y (j5 _ hy) m
    ·exact d hy
def aRh (a:List Str):(oY a).length=a.length↔a.Nodup:=by have h:=aC4 a [];simp only[bCK,bEA,w6,not_false_eq_true,implies_true,and_true] at h;exact h
section
variable {prog:Program}{w:World}
def dW (prog:Program)(w:World)(h:Heap)(D:Addr)(ss:List Str):Prop:=h.SetOf (strKind prog w) D (λy=>decide (y∈oY ss)) (oY ss).length
def dW.at (x:dW prog w h D ss)(e:∀o,h.get? D=some o->h'.get? D=some o):dW prog w h' D ss:=by obtain⟨o,c,a,t,b,r⟩:=x;exact⟨o,c,a,t,e o b,r⟩
def dW.congr (x:h.SetOf (strKind prog w) D S n)(a:∀y,S y=decide (y∈oY ss))(b:n=(oY ss).length):dW prog w h D ss:=by have e:=funext a;subst e b;exact x
theorem aBy (W:Walks prog w A.in1 I fp wr n P St)(D:Addr)(J:D∉fp)
  (a:List Str) (O:a.length=n) (G:∀i v,P i v->∃t,v=.str (a.getD i "") t) (K:n+1<scanBound) :
  ∀k i s,i+k=n->St i s.heap->dW prog w s.heap D (a.take i) ->
   (∀h' tk,(∀b o,b∉D::wr->s.heap.get? b=some o->h'.get? b=some o)->dW prog w h' D a->R (.ok (.ret .none)) { s with heap:=h',toks:=tk }) ->
   codeAny (model prog w) A (.builtin "set.update.loop" ⟨[.ref D,.ref I],[]⟩) R s:=by
 have h:D∉wr:=λq=>J (W.sub _ q);intro k
 induction k with
 |zero=>
  intro i s L F l q;obtain rfl:i=n:=by lia
  refine bBG bBW ?_;rw[bAZ bAY _];refine b7 (W.done s _ _ F λh' tk m=>?_);refine d7 (q h' tk (λb o c e=>m b o (λz=>c (j5 _ z)) e) ?_);rw[bAV (bFB O)] at l;exact l.at λo e=>m D o h e
 |succ k ih=>
  intro i s L F l q;refine bBG bBW ?_;rw[bAZ bAY _];refine b7 (W.item i s _ _ (by lia) F λv M N Q B j=>?_);obtain⟨t,rfl⟩:=G i v Q;have C:=l.at λo e=>j D o h e;refine b7 (bAS ?_);unfold setAdd;refine bAS (b7 ((strKind prog w).pyHash (strKind_is _ _ _ _) ?_));have f:(oY (a.take i)).length+1<scanBound:=by
   have M:=aVc (a.take i);have x:(a.take i).length<=a.length:=by rw[bAH];exact Nat.min_le_right _ _
   lia
  refine wpAny_setAddHashed_of (strKind_is _ _ _ _) rfl C f λx d u=>?_;have g:i<a.length:=by lia
  have H:a.take (i+1)=a.take i++[a.getD i ""]:=by rw[bBB,b8 g,j6,b8 g];rfl
  have r:dW prog w x D (a.take (i+1)):=by
   refine dW.congr u (λy=>?_) ?_
   ·rw[H,aFa,bCU,Bool.or_eq_true,decide_eq_true_eq,decide_eq_true_eq,decide_eq_true_eq,wI]
   ·rw[H,aFa,aBn];by_cases z:a.getD i ""∈oY (a.take i)
    ·rw[if_pos z,if_pos (m9 z)]
    ·rw[if_neg z,if_neg (by rw[v9 z];exact v6)]
  have p:∀b o,b∉D::wr->s.heap.get? b=some o->x.get? b=some o:=λb o c e=>by rw[d.2 b (λz=>c (by rw[z];exact j7))];exact j b o (λz=>c (j5 _ z)) e
  refine d7 ⟨bCE bAY _,ih (i+1) _ (by lia) (W.frame _ _ _ B λb K o e=>?_) r λh' tk m E=>q h' tk (λb o c e=>m b o c (p b o c e)) E⟩;rw[d.2 b (λz=>J (by rw[<-z];exact K))];exact e
variable {A:Around}{E:bFQ}{s:Shared}
abbrev bI (led:Bool):Obj:={ cls:=.type "set",dict:=none,data:=.set #[] 0 (.fresh 0 0 led) }
def aL0 {A:Around}{R:Fin->Shared->Prop}{E:bFQ}{s:Shared}{l:Addr}{its:Array Value}{S:List Str}(a:Bool)(D:A.handled=none)(M:s.heap.IsList l its)(z:S.length=its.size)
  (B:∀(i:Nat) (v:Value),its[i]?=some v->∃t,v=Value.str (S.getD i "") t) (K:its.size+1<scanBound)
  (q:∀h' tk,dW prog w h' s.heap.objs.size S->(∀b o,b<s.heap.objs.size->s.heap.get? b=some o->h'.get? b=some o)->R (.done (.ret .none)) { s with heap:=h',toks:=tk }) :
  wpAny (model prog w) A (Builtin.«set.__init__» ⟨[.ref s.heap.objs.size,.ref l],[]⟩) R E { s with heap:=s.heap.push (bI a) }:=by
 obtain⟨⟨J,H,Q,n⟩,h,g,y,c⟩:=id M;simp only at g c;subst g c;have C:(s.heap.push (bI a)).get? s.heap.objs.size=some (bI a):=j0 _ rfl;have O:Shared.TypeIs { s with heap:=s.heap.push (bI a) } (.ref s.heap.objs.size) "set":=⟨_,C,rfl⟩;have j:(s.heap.push (bI a)).get? l=some { cls:=.type "list",dict:=H,data:=.seq its y,slots:=n }:=c7 _ h;have L:=F.sub_list_set;have P:=F.sub_list_frozenset;have N:(Value.type "list" == Value.type "dict")=false:=by decide
 have f:(s.heap.push (bI a)).IsList l its:=⟨_,j,rfl,y,rfl⟩;have d:l<s.heap.objs.size:=j8 h;unfold Builtin.«set.__init__» noKeywords Builtin.Frozenset.updateFrom;generalize p:pyIter=PI;wp_walk;subst p;refine bCF f ?_;refine b7 (wpAny_runValue ?_);have m:(s.heap.push (bI a)).objs.size=s.heap.objs.size+1:=bAW ..;have r:l≠(s.heap.push (bI a)).objs.size:=by rw[m];exact t6 (bBA d)
 have x:s.heap.objs.size∉[(s.heap.push (bI a)).objs.size,l]:=by rw[m];simp only[bAD,w6,or_false,not_or];exact⟨t6 (bCM _),bCP d⟩
 refine aBy (Walks.list (by first|exact D|simp[D]) _ l r its) s.heap.objs.size x S z B K its.size 0 _ (by lia) ⟨⟨_,j0 _ rfl,rfl,rfl⟩,f.push _⟩ ?_ λh' tk I u=>?_
 ·have G:((s.heap.push (bI a)).push { cls:=.type "list_iterator",data:=.fields #[.ref l,.int 0 0] }).get? s.heap.objs.size=some (bI a):=c7 _ C;exact dW.congr ((PyProof.Rows.setObjOf_fresh (knd:=strKind prog w) a).setOf G (by unfold scanBound;lia)) (λ_=>rfl) rfl
 ·refine d7 (d7 (q h' tk u λb o k e=>I b o ?_ (c7 _ (c7 _ e))));rw[m];simp only[bAD,w6,or_false,not_or];exact⟨t6 k,t6 (bBA k)⟩
def aB2 {l:Addr}{its:Array Value}{K:List Str}{Q:bFQ}(u:A.handled=none)(M:s.heap.IsList l its)(m:K.length=its.size)
  (p:∀(i:Nat) (v:Value),its[i]?=some v->∃t,v=Value.str (K.getD i "") t) (I:its.size+1<scanBound)
  (q:∀h' tk,dW prog w h' s.heap.objs.size K->(∀b o,b<s.heap.objs.size->s.heap.get? b=some o->h'.get? b=some o)->Q (.ref s.heap.objs.size) { s with heap:=h',toks:=tk }) :
  wpAny (model prog w) A (call (.type "set") [.ref l]) Q E s:=by
 have f:=F.called_set;obtain⟨c,J,n⟩:=f.mro;have D:=f.made;have N:=f.sub;have L:=f.notType;have G:=f.canCreate;have H:=F.typeCall_set_1 (.ref l);refine bEZ (codeAny_of_tree (show wpAny _ _ (callAny (.type "set") _) _ _ _ from d7 ⟨Code.quiet_builtin _ (by decide +kernel),bBG F.entry_type_call ?_⟩));rw[Around.under_plain (weight_type_call_type "set" [.ref l] []) (by rfl)]
 repeat (any_goals (first|assumption|wp_step))
 refine bCQ (code_set_new_1 (.ref l) (Q₁:=λobj j=>∃a:Bool,obj=.ref s.heap.objs.size/\j={ s with heap:=s.heap.push (bI a) }) (E:=E) λa=>⟨a,rfl,rfl⟩) λr j g=>?_;rcases r with e|fl
 ·exact g
 rcases fl with _|_|_|obj
 ·exact g.elim
 ·exact g.elim
 ·exact g.elim
 obtain⟨a,rfl,rfl⟩:=g;have z:Shared.TypeIs { s with heap:=s.heap.push (bI a) } (.ref s.heap.objs.size) "set":=⟨_,j0 _ rfl,rfl⟩;have B:=f.init.lookup;have C:=f.init.bind (.ref s.heap.objs.size)
 repeat (any_goals (first|assumption|wp_step))
 refine bCQ (bDV (R:=wants (λr k=>r=.none/\∃h' tk,k={ s with heap:=h',toks:=tk }/\dW prog w h' s.heap.objs.size K/\∀b o,b<s.heap.objs.size->s.heap.get? b=some o->h'.get? b=some o) E)
  f.init.plain F.entry_set_init (check_set_init_1 z (aL0 a (by first|exact u|simp[u]) M m p I λh' tk x h=>⟨rfl,h',tk,rfl,x,h⟩))) λy k d=>?_
 rcases y with e|fl
 ·exact d
 rcases fl with _|_|_|v
 ·exact d.elim
 ·exact d.elim
 ·exact d.elim
 obtain⟨rfl,h',tk,rfl,x,h⟩:=d
 repeat (any_goals (first|assumption|wp_step))
 exact q h' tk x h
def aQt (x:dW prog w s.heap D ss)(q:Q (.int ((oY ss).length:Nat) (s.toks+1)) { s with toks:=s.toks+1+1 }):wpAny (model prog w) A (call (.builtin "len") [.ref D]) Q E s:=by
 obtain⟨o,i,h,t,g,a,hd,f,b,e,d,c⟩:=x;refine call_len_set g a hd d ?_ ?_
 ·unfold scanBound at e;lia
 ·rw[c];exact q
end
end PySem
namespace L2
open PySem PySem.Spec PyProof.Rows
def aUy (P:Program)(w:World)(D:Addr)(ss:List Str):HO:=.ext λh=>dW P w h D ss
section
variable {X:Cx}
def bAs (P:Program)(w:World)(K:bFP):List V->Hp->VK->Prop:=λxs H Q=>∃p ss,xs=[.ref p]/\SqL K H p (ss.map V.str)/\ss.length<=1000/\∀D,H D=none->Q (.ref D) (upd H D (aUy P w D ss))
def aMi (R:X.calm=true):cJ X (.type "set") (bAs X.prog X.w X.K):=by
 intro C s σ H P L Q I r h;obtain⟨p,d,rfl,D,J,q⟩:=h;obtain⟨u,rfl,A⟩:=r.one;cases A;obtain⟨f,n,E,G⟩:=I.list D;have a:=n.length;rw[j4] at a;refine aB2 (I.ok.hd R) E.isList (by rw[d9];exact a) (λi v z=>?_) (by rw[d9,<-a];unfold scanBound;lia) λm O x F=>?_
 ·have c:f[i]?=some v:=by simpa using z
  have l:i<d.length:=by rw[a];exact (List.getElem?_eq_some_iff.mp c).1
  obtain⟨u,g,t,rfl⟩:=n.get (by rw[t7,b8 l];rfl);rw[c] at g;cases g;exact⟨t,by rw[j6,b8 l];rfl⟩
 ·have e:∃o,m.get? s.heap.objs.size=some o:=by obtain⟨o,_,_,_,B,_⟩:=x;exact⟨o,B⟩
  exact⟨.ref s.heap.objs.size,_,I.laid (o:=aUy X.prog X.w s.heap.objs.size d) (λb o j=>F b o (j8 j) j) (d8 _) (show dW X.prog X.w m s.heap.objs.size d/\_/\_ from ⟨x,e,λM N y k=>y.at k⟩),rfl,q _ (I.hok.fresh (d8 _))⟩
def aNo:cJ X (.builtin "len") (λxs H Q=>∃D ss,xs=[.ref D]/\H D=some (aUy X.prog X.w D ss)/\Q (.int ((oY ss).length:Nat)) H):=by intro b s σ H xs d Q I r h;obtain⟨D,ss,rfl,a,q⟩:=h;obtain⟨u,rfl,c⟩:=r.one;cases c;obtain⟨x,_⟩:=I.hok D _ a;exact aQt x ⟨.int ((oY ss).length:Nat),H,I.tok _,⟨_,rfl⟩,q⟩
end
def sE (j:Nat)(d:(y,NameKind.free)∈scope.names)(e:X.N[j]?=some y)(c:σ[j]?=some (some v))(f:Vis X.env.scope y):Cap X scope [x,y] σ [none,some v]:=
 ⟨rfl,λi z u b a=>by
  match i,b,a with
  |0,_,a=>cases a
  |1,b,a=>cases b;cases a;exact⟨d,j,e,c,f⟩
  |i+2,b,_=>cases b⟩
def oJ:Cap X scope [x,y] σ [none,none]:=⟨rfl,λi z u b a=>by
  match i,b,a with
  |0,_,a=>cases a
  |1,_,a=>cases a
  |i+2,b,_=>cases b⟩
section
variable {X:Cx}{a b e:Expr}{es:List Expr}{te:TE}{t:TA}{pos p:Pos}{x:Str}
def aXo (f:Room k X.A)(c:VE X (.Name x p) te)(b:VA X (e::es) t)(d:dH e=true:=by rfl)(a:(backTo pos (starEach es X.env)).any (·.1)=false:=by rfl) :
  VE X (.Call (.Name x p) (e::es) [] pos) (aUs X.prog X.w X.K X.mg X.base k te t):=⟨aYb f c.1 b.1 (aW d) a⟩
def aSc {P:Program}{w:World}{K:bFP}{mg:bFS}{base:Heap}{k:Nat}(j:Room k X.A)(c:VE X (.Name x p) te)(d:VA X (e::es) t)(h:dH e=true:=by rfl)(a:(backTo pos (starEach es X.env)).any (·.1)=false:=by rfl)
  (l:X.prog=P:=by rfl) (b:X.w=w:=by rfl) (i:X.K=K:=by rfl) (f:X.mg=mg:=by rfl) (g:X.base=base:=by rfl) :
  VE X (.Call (.Name x p) (e::es) [] pos) (aUs P w K mg base k te t):=by
 subst l b i f g;exact aXo j c d h a
def cO {K:bFP}(h:X.K=K:=by rfl):IxR X (bCk K):=by subst h;exact aY
def rZ {K:bFP}{k:Nat}{u:TGs}{n:Nat}(c:X.calm=true)(h:VGs X es u)(d:(assignEach es X.env).length=n:=by rfl)(a:(assignEach es X.env).findIdx? (·.1)=none:=by rfl)(b:X.K=K:=by rfl):VG X (.Tuple es k pos) (aNp K n u):=by subst b;exact xG c h d a
def aX3 (d:Gl X "zip")(g:X.mg "zip"=none)(e:VA X [a,b] t)(f:dH a=true:=by rfl)(c:dH b=true:=by rfl) :
  VI X (.Tuple elts kt tp) (.Call (.Name "zip" p) [a,b] [] pos) (aUz X.K t):=⟨aVt d g e.1 (aW f) (aW c)⟩
def aCy (c:VE X e te)(a:VG X tg g)(b:swapsWithSole [tg] e pos.line X.env=pure false:=by rfl)(d:swappedStores [tg] e X.env=pure none:=by rfl)
  (f:(assignEach [tg] X.env).map (·.2)=[assign tg X.env]:=by rfl):VS X (.Assign [tg] e pos) (aBq te g):=⟨bAz c.1 a.1 b d f⟩
end
section
variable {X:Cx}
def bDu:V->Option Int->Option Int->Hp->VK->Prop:=λx lo hi H Q=>∃z,x=.str z/\z.length<=sizeLine/\Q (.str (Txt.slice z lo hi)) H
theorem aG3:SlR X bDu:=by
 intro e s σ H x v G J E p g Q I y C D m h;obtain⟨z,rfl,n,q⟩:=h;obtain⟨t,rfl⟩:=y;have a:∀l u:Option (Int × Tok),l.map (·.1)=E->u.map (·.1)=p->s.heap.IsSlice g l u none->wpAny (model X.prog X.w) X.A (getItem (.str z t) (.ref g)) (EP X e σ Q) X.xe s:=λl u B r d=>by subst B r;refine wpAny_getItem_str_slice d rfl ?_;unfold sliceMade;have f:=Txt.slice_le z (l.map (·.1)) (u.map (·.1));exact post_val_or_str ⟨bAK f n,λK k=>⟨.str (Txt.slice z (l.map (·.1)) (u.map (·.1))),H,I.tok _,⟨_,rfl⟩,q⟩⟩
 refine⟨"str",_,F.slot_str_getitem.lookup,typeIs_str _ _ _,?_⟩;obtain⟨o,b,c,hd⟩:=C;cases D with
 |none=>
  cases m with
  |none=>exact a none none rfl rfl ⟨o,b,c,hd⟩
  |int j u=>exact a none (some (j,u)) rfl rfl ⟨o,b,c,hd⟩
 |int i t=>
  cases m with
  |none=>exact a (some (i,t)) none rfl rfl ⟨o,b,c,hd⟩
  |int j u=>exact a (some (i,t)) (some (j,u)) rfl rfl ⟨o,b,c,hd⟩
end
def aTi {x:Str}{j:Nat}(h:j<=x.length):(Txt.slice x none (some (j:Int))).cps.toList=x.cps.toList.take j:=by have e:=StrLaws.sliceText_to (x:=x) (j:=(j:Int)) ⟨by lia,by rw[v7];exact Int.ofNat_le.mpr h⟩;show (StrLaws.sliceText x none (some (j:Int))).cps.toList=_;rw[e];simp
def aNv {x:Str}{j:Nat}(h:j<=x.length):(Txt.slice x (some (j:Int)) none).cps.toList=x.cps.toList.drop j:=by have e:=StrLaws.sliceText_from (x:=x) (i:=(j:Int)) ⟨by lia,by rw[v7];exact Int.ofNat_le.mpr h⟩;show (StrLaws.sliceText x (some (j:Int)) none).cps.toList=_;rw[e];simp only[bAR];refine bAV ?_;rw[bBP];lia
def put (x:Str)(a:Nat)(c:Nat):Str:=Txt.slice x none (some (a:Int))++⟨#[c]⟩++Txt.slice x (some (a:Int)) none
def aH3 (h:a<=x.length):(put x a c).cps.toList=x.cps.toList.take a++c::x.cps.toList.drop a:=by show ((Txt.slice x none (some (a:Int))).cps++#[c]++(Txt.slice x (some (a:Int)) none).cps).toList=_;rw[bDF,bDF,aTi h,aNv h];simp
def aW7 (h:a<=x.length)(e:put x a c=put x a d):c=d:=by have b:=congrArg (λy:Str=>y.cps.toList) e;simp only[aH3 h] at b;have f:=List.append_cancel_left b;exact (List.cons.inj f).1
def aXv {x:Str}{a c:Nat}(h:a<=x.length):(put x a c).length=x.length+1:=by
 have e:=congrArg List.length (aH3 (c:=c) h);have l:x.length=x.cps.toList.length:=by rw[v7];rfl
 rw[v7,bAA,t8,bAH,bBP] at e;show (put x a c).cps.size=_;lia
def aXj (h:a<=x.length)(m:d∈(put x a c).cps):d=c\/d∈x.cps:=by
 have b:=Array.mem_toList_iff.mpr m;rw[aH3 h] at b;rcases List.mem_append.mp b with z|z
 ·exact .inr (Array.mem_toList_iff.mp (bDW z))
 ·rcases List.mem_cons.mp z with z|z
  ·exact .inl z
  ·exact .inr (Array.mem_toList_iff.mp (List.mem_of_mem_drop z))
section
variable {X:Cx}{scope:Scope}{N:List Str}{wi:TI}{te:TE}{σ:St}{H:Hp}{Q:VK}
end
section
variable {X:Cx}{e:Expr}{es:List Expr}{t:TA}{pos:Pos}
def bC6 (t:TA):TE:=fun σ H Q=>t σ H λxs H1=>xs.length<=sizeLine/\∀p H',H1 p=none->Same H1 H'->H' p=some (.tup xs)->Q (.ref p) H'
def bCd (t:TA):TE:=fun σ H Q=>t σ H λxs H1=>xs.length<=sizeLine/\∀p H',H1 p=none->Same H1 H'->H' p=some (.lst xs)->Q (.ref p) H'
def aZ9:TE:=λ_ H Q=>∀p H',H p=none->Same H H'->H' p=some (.dK [])->Q (.ref p) H'
def cN {x1}(h:VA X es t):VE X (.Tuple es x1 pos) (bC6 t):=⟨by intro c s σ H Q I k;refine wpAny_Tuple_spliced (thn (h.1 pos c s σ H _ I k) λj a ⟨i,g,f,r,z,q⟩=>⟨by rw[<-r.length];exact z,?_⟩);have d:=f.hok.fresh (d8 _);refine⟨.ref a.heap.objs.size,upd g a.heap.objs.size (.tup i),f.laid (t':=a.toks) (λb u e=>c7 _ e) (d8 _) ?_,rfl,q _ _ d (bC d _) aK⟩;exact⟨z,j,r,.of (j0 _ rfl) rfl ⟨_,j0 _ rfl,rfl,_,rfl⟩⟩⟩
def dX (h:VA X es t):VE X (.List es pos) (bCd t):=⟨by intro c s σ H Q I k;refine wpAny_List_spliced (thn (h.1 pos c s σ H _ I k) λj a ⟨i,g,f,r,z,q⟩=>⟨by rw[<-r.length];exact z,?_⟩);have d:=f.hok.fresh (d8 _);refine⟨.ref a.heap.objs.size,upd g a.heap.objs.size (.lst i),f.laid (t':=a.toks) (λb u e=>c7 _ e) (d8 _) ?_,rfl,q _ _ d (bC d _) aK⟩;exact⟨z,j,0,r,j0 _ rfl⟩⟩
def aCh:VE X (.Dict [] [] pos) aZ9:=VE.imp aR3 fun σ H Q h p a=>h p _ a (bC a _) aK
def OpR.imp (h:OpR X f r)(k:∀x y H Q,r' x y H Q->r x y H Q):OpR X f r':=λa s σ H x y v u Q I c b q=>h a s σ H x y v u Q I c b (k _ _ _ _ q)
def cJ.imp (h:cJ X f r)(k:∀xs H Q,r' xs H Q->r xs H Q):cJ X f r':=λa s σ H xs c Q I b q=>h a s σ H xs c Q I b (k _ _ _ q)
def bC9 (K:bFP):R2:=λx y H Q=>∃a b xs ys,x=.ref a/\y=.ref b/\SqT K H a xs/\SqT K H b ys/\xs.length+ys.length<=sizeLine/\∀r H',Same H H'->SqT K H' r (xs++ys)->Q (.ref r) H'
def uZ:OpR X (binaryOp .Add) (bC9 X.K):=OpR.imp (aWb.or aWm) λx y H Q ⟨a,b,g,i,f,e,d,c,j,q⟩=>by
 by_cases h:g=[]
 ·subst h;exact .inr ⟨a,b,i,f,e,d,c,q b H (Same.refl H) c⟩
 ·refine .inl ⟨a,b,g,i,f,e,d,c,h,j,λz=>?_,λ_ p k=>q p _ (bC k _) (SqT.of aK)⟩;subst z;exact q a H (Same.refl H) (by rw[bCV];exact d)
def bD7 (K:bFP):V->Option Int->Option Int->Hp->VK->Prop:=λx lo hi H Q=>∃a xs,x=.ref a/\SqT K H a xs /\
 ¬ (HT.sIx xs.length 0 lo=0/\HT.sIx xs.length xs.length hi=xs.length)/\∀p H',Same H H'->H' p=some (.tup (pH xs lo hi))->Q (.ref p) H'
def vY:SlR X (bD7 X.K):=λb s σ H x v l g o f r Q I k i m d ⟨a,j,e,h,c,q⟩=>
 bAi b s σ H x v l g o f r Q I k i m d ⟨a,j,e,h,c,λp n=>q p _ (bC n _) aK⟩
def bAo:R2:=λx y H Q=>∃l b xs zs,x=.ref l/\y=.ref b/\H l=some (.lst xs)/\H b=some (.lst zs)/\xs.length+zs.length<=sizeLine/\∀p H',H p=none->Same H H'->H' p=some (.lst (xs++zs))->Q (.ref p) H'
def aC7:OpR X (binaryOp .Add) bAo:=OpR.imp bBd λx y H Q ⟨l,b,h,c,g,f,i,e,d,q⟩=>⟨l,b,h,c,g,f,i,e,d,λp a=>q p _ a (bC a _) aK⟩
def aTx (K:bFP):List V->Hp->VK->Prop:=λxs H Q=>∃p ys,xs=[.ref p]/\(SqL K H p ys\/SqT K H p ys)/\∀l H',H l=none->Same H H'->H' l=some (.lst ys)->Q (.ref l) H'
def uR:cJ X (.type "list") (aTx X.K):=cJ.imp aFx λc H Q ⟨p,b,e,h,q⟩=>⟨p,b,e,h,λl a=>q l _ a (bC a _) aK⟩
def aV8 (K:bFP):List V->Hp->VK->Prop:=λxs H Q=>∃p ys,xs=[.ref p]/\SqL K H p ys/\∀l H',H l=none->Same H H'->H' l=some (.tup ys)->Q (.ref l) H'
def nF:cJ X (.type "tuple") (aV8 X.K):=cJ.imp aDq λc H Q ⟨p,b,e,h,q⟩=>⟨p,b,e,.inl ⟨h,λl a=>q l _ a (bC a _) aK⟩⟩
def iG:MtR X "list.append" aPp:=xP
def dR (f:H D=none)(s:Same H H'):Same H (upd H' D o):=λb u e=>by rw[aR (aQ e f)];exact s _ _ e
end
end L2
namespace PySem
section
variable {prog:Program}{w:World}{A:Around}{E:bFQ}{s:Shared}{T:String}{r d:Addr}{n:Nat}{P:Nat->Value->Prop}{OK:Heap->Prop}
end
end PySem
namespace L2
open PySem PySem.Spec PyProof.Rows
section
variable {X:Cx}
end
section
variable {X:Cx}{bFT:bFR}{σ:St}{H:Hp}{s:Shared}
def Inv.jX (I:Inv X bFT σ H s)(h:SqL X.K H t xs)(f:tH X bFT H b):t≠b:=by
 rintro rfl;obtain⟨a,i,j,d,_⟩:=f;rcases h with (h|⟨o,h⟩)|⟨o,g,n,c,_⟩
 ·rw[a] at h;cases h
 ·rw[a] at h;cases h
 ·have e:=I.ok.mod.kin t o c;rcases d with z|z
  ·exact I.ok.noex t o e z
  ·exact absurd (bAB (j8 e) (bAK I.ok.bsz z)) (bBO _)
end
def Ite (K:bFP)(l:Addr)(xs:List V):It:=
 ⟨λi H=>SqL K H l xs/\i<xs.length,λi H v H'=>∃T a,H T=none/\v=.ref T/\H'=upd H T (.tup [.int (i:Nat),a])/\xs[i]?=some a,λi H=>SqL K H l xs/\xs.length<=i⟩
def etn (e it l:Addr)(i:Nat)(h:Heap):Prop:=(∃old,IsEnum h e it (i:Int) old)/\h.IsListIter it l i
def aPu {P:Program}{w:World}{K:bFP}{elts:List Expr}{kt:Nat}{pos:Pos}{e it l:Addr}{xs:List V}(p:e≠it) :
  Turn P w K (.Tuple elts kt pos) (Ite K l xs) [e,it] e (etn e it l) where
 mem:=by simp
 obj:=λi h g b a=>by
  obtain⟨⟨c,d⟩,o,j,c2,d2⟩:=g;simp only[bAD,w6,or_false] at a;rcases a with rfl|rfl
  ·exact⟨_,d,λv z=>by cases (show Data.fields _=Data.cell v from z)⟩
  ·exact⟨_,j,λv z=>by rw[d2] at z;cases z⟩
 keep:=λi h n g k=>by obtain⟨⟨c,d⟩,o,j,r⟩:=g;exact⟨⟨c,k e (by simp) _ d⟩,o,k it (by simp) _ j,r⟩
 item:=by
  intro X t F C Q i f s σ H E I m g q;subst t F C;obtain⟨⟨c,d⟩,j⟩:=g;obtain⟨u,N⟩:=q;obtain⟨its,D,G,W⟩:=I.list u;obtain⟨x,U,Z⟩:=D.get (b8 N);have fe:=m e (by simp);have fi:=m it (by simp);refine wpAny_pyNext_enum_item d j G.isList (by simpa using U) p λn T L O a4 J=>?_;refine⟨_,rfl,?_⟩;have Y:H s.heap.objs.size=none:=I.hok.fresh (d8 _);obtain⟨oi,A,_⟩:=id j;obtain⟨a0,y,_⟩:=id L;have I1:Inv X f σ (upd H s.heap.objs.size (.tup [.int (i:Nat),xs[i]])) { s with heap:=n }:=by
   refine I.drawn (ch:=[e,it]) (its:=[.int i s.toks,x]) (λb a=>m b a) (λb o a z=>?_) (d8 _) (.cons ⟨_,rfl⟩ (.cons Z .nil)) (small (by simp)) (.of O rfl ⟨_,O,rfl,_,rfl⟩) (λb a=>?_)
   ·simp only[bAD,w6,or_false,not_or] at a;exact J b o a.1 a.2 z
   ·simp only[bAD,w6,or_false] at a;rcases a with rfl|rfl
    ·exact⟨_,T⟩
    ·exact⟨_,y⟩
  have B:Inv X f σ (upd H s.heap.objs.size (.tup [.int (i:Nat),xs[i]])) { s with heap:=n,toks:=s.toks+1 }:=I1.tok _;have M:∀b∈[e,it],b≠s.heap.objs.size:=λb a=>by
   simp only[bAD,w6,or_false] at a;rcases a with rfl|rfl
   ·exact t6 (j8 d)
   ·exact t6 (j8 A)
  refine wpAny_letOwnedTupleGo_enum (s:={ s with heap:=n,toks:=s.toks+1 }) T λh2 z2 R=>?_;obtain⟨g0,g1,g2,g3,g4,g5⟩:=fe;have I2:Inv X f σ (upd H s.heap.objs.size (.tup [.int (i:Nat),xs[i]])) { s with heap:=h2,toks:=s.toks+1 }:=Inv.turned (s:={ s with heap:=n,toks:=s.toks+1 }) B (t':=s.toks+1) (it:=e) (λb o a z=>(R.2 b a).trans z) (by rw[aR (M e (by simp))];exact g0) g1 g3 g4 g5;refine⟨.ref s.heap.objs.size,_,I2,rfl,⟨_,_,Y,rfl,rfl,b8 N⟩,⟨⟨x,?_⟩,?_⟩,λb a=>by rw[aR (M b a)];exact (m b a).1⟩
  ·rw[show ((i+1:Nat):Int)=(i:Int)+1 from by lia];exact z2
  ·obtain⟨o,ho,r⟩:=L;exact⟨o,(R.2 it (Ne.symm p)).trans ho,r⟩
 done:=by intro X t F C Q i f s σ H E I m g q;subst t F C;obtain⟨⟨c,d⟩,j⟩:=g;obtain⟨u,hi⟩:=q;obtain⟨its,D,G,W⟩:=I.list u;have S:=D.length;refine wpAny_pyNext_enum_end (I.ok.hd Q) d j G.isList (by simp;lia) λn J=>⟨rfl,?_⟩;refine Inv.aGm (ch:=[it]) I (λb a=>m b (j5 _ a)) λb o a z=>J b o (by simpa using a) z
 self:=λ_ _ _ _ _ g h=>by obtain⟨⟨c,d⟩,_⟩:=g;exact wpAny_pyIter_enum d h
section
variable {X:Cx}
def aYr (K:bFP)(ta:TA):TI:=fun σ H R=>ta σ H λvs H1=>∃l xs,vs=[.ref l]/\SqL K H1 l xs/\R (Ite K l xs) H1
def aWy (F:Gl X "enumerate")(J:X.mg "enumerate"=none)(B:PA X [a] ta)(L:starEach [a] X.env=[(false,eval a X.env)]:=by rfl) :
  PI X (.Tuple elts kt tp) (.Call (.Name "enumerate" p) [a] [] pos) (aYr X.K ta):=by
 intro f s σ H R I h;refine Call_ (rG I F J aHd (bBS (thn (B pos f s σ H _ I h) λC g ⟨D,k,d,x,t⟩=>?_) L (by rfl)));obtain⟨l,M,e,o,q⟩:=t;subst e;obtain⟨r,G,w,z⟩:=d.list o;obtain⟨u,rfl,m⟩:=vals1 x;cases m;refine call_enumerate_list w.isList λA j n E y=>?_;have v:=d.kept (t':=g.toks) y;refine wpAny_pyIter_enum j ⟨_,_,_,_,k,rfl,v,aPu (bCP (bCM _)),⟨⟨_,j⟩,n⟩,λb i=>?_,q⟩;have c:g.heap.objs.size<=b:=by
  simp only[bAD,w6,or_false] at i;rcases i with rfl|rfl
  ·exact bEL _
  ·exact d8 _
 exact d.aD7 c (d.hok.fresh c)
def aSp {K:bFP}{l:Addr}{xs:List V}{g:TG}{tb:TS}{D:Ends}{σ:St}{H:Hp}(c:Nat->St->Hp->Prop)(n:c 0 σ H)(h:∀i σ H,i<=xs.length->c i σ H->SqL K H l xs)
  (k:∀i σ H a T H',xs[i]?=some a->c i σ H->H T=none->H'=upd H T (.tup [.int (i:Nat),a])->g (.ref T) σ H' fun σ2 H2=>tb { D with nx:=c (i+1),ct:=c (i+1),bk:=D.nx } σ2 H2) (hd:∀σ H,c xs.length σ H->D.nx σ H) :
  ∃W:Nat->Nat->St->Hp->Prop,(∃m,W 0 m σ H)/\∀i m σ H,W i m σ H ->
   ((Ite K l xs).stop i H/\D.nx σ H)\/((Ite K l xs).go i H/\∃N:St->Hp->Prop,(∀σ' H',N σ' H'->∃m',m'<m/\W (i+1) m' σ' H')/\∀x H',(Ite K l xs).yld i H x H'->g x σ H' fun σ2 H2=>tb { D with nx:=N,ct:=N,bk:=D.nx } σ2 H2):=by
 refine⟨λi m σ H=>m=xs.length - i/\i<=xs.length/\c i σ H,⟨xs.length,by simp,bAE _,n⟩,?_⟩;rintro i m σ H ⟨rfl,hi,p⟩;by_cases b:i<xs.length
 ·refine .inr ⟨⟨h i σ H hi p,b⟩,c (i+1),fun σ' H' d=>⟨xs.length - (i+1),by lia,rfl,b,d⟩,λx H' y=>?_⟩;obtain⟨T,a,j,rfl,e,f⟩:=y;exact k i σ H a T H' f p j e
 ·have e:i=xs.length:=by lia
  subst e;exact .inl ⟨⟨h _ σ H hi p,d8 _⟩,hd σ H p⟩
end
section
variable {X:Cx}{a c e:Expr}{st:Stmt}{body:List Stmt}{tc:TT}{tb:TS}{t:TA}{te:TE}{pos p:Pos}
def dO:VS X st aSa:=⟨aR8⟩
def aXc (d:Gl X "enumerate")(c:X.mg "enumerate"=none)(e:VA X [a] t)(b:dH a=true:=by rfl) :
  VI X (.Tuple elts kt tp) (.Call (.Name "enumerate" p) [a] [] pos) (aYr X.K t):=⟨aWy d c e.1 (aW b)⟩
def aL4 {o:Expr}{to:TE}{name:Str}{apos cpos:Pos}{T id:String}{r:V->List V->Hp->VK->Prop}(d:PlainAttrs T)(slot:Slot T name id)(c:typeOf (.builtin id)=pure (.type "method_descriptor"))(f:MtR X id r)(e:VE X o to)
  (b:attributeBase o name X.env (eval o X.env)=eval o X.env:=by rfl) (a:(apos.endLine == cpos.line)=true:=by rfl):VE X (.Call (.Attribute o name apos) [] [] cpos) (bDe X.K T r to):=⟨bBn d slot c f e.1 b a⟩
end
section
variable {P:Program}{w:World}{K:bFP}{mg:bFS}{base:Heap}
end
section
variable {X:Cx}{scope:Scope}{N:List Str}{wi:TI}{te:TE}{σ:St}{H:Hp}{Q:VK}
def aRw (xs:List V)(Rel:Nat->Hp->V->Prop)(E:∀{i H1 H2 y},Same H1 H2->Rel i H1 y->Rel i H2 y)(A:∀{i H1 D ys zs y},H1 D=some (.lst ys)->Rel i H1 y->Rel i (upd H1 D (.lst zs)) y)
  (v:St) (s:Cap X scope N σ v) (hsz:xs.length<=sizeLine)
  (F:∀R:It->Hp->Prop,(∀J:It,(∀H' i x,Same H H'->xs[i]?=some x->J.go i H'/\∀y H2,J.yld i H' y H2->H2=H'/\y=x)->(∀H',Same H H'->J.stop xs.length H')->R J H)->wi σ H R)
  (C:∀(i:Nat) (x:V),xs[i]?=some x->∀H' R l,Same H H'->(∀y H2,Same H' H2->Rel i H2 y->R y H2)->te ((v.set 0 l).set 0 (some x)) H' R) (B:v[0]?=some none)
  (q:∀D H' ys,Same H H'->H' D=some (.lst ys)->ys.length=xs.length->(∀(i:Nat) (y:V),ys[i]?=some y->Rel i H' y)->Q (.ref D) H') :
  lM X scope N wi (cM 0) mW te σ H Q:=by
 refine⟨v,s,F _ λJ go stop D h=>?_⟩;refine⟨λi m k H' ys=>i<=xs.length/\m=xs.length - i/\(∃l,k=v.set 0 l)/\Same H H'/\H' D=some (.lst ys)/\ys.length=i/\∀j y,ys[j]?=some y->Rel j H' y,⟨xs.length,bAE _,rfl,⟨none,mC B⟩,bC h _,aK,rfl,λj y e=>by simp at e⟩,?_⟩;rintro i m k H' ys ⟨hi,rfl,⟨l,rfl⟩,sm,hL,hl,hR⟩;refine⟨hL,?_⟩;by_cases c:i<xs.length
 ·right;obtain⟨u,t⟩:=go H' i xs[i] sm (b8 c);refine⟨u,λx H2 r=>?_⟩;obtain⟨rfl,rfl⟩:=t x H2 r;unfold cM mW;dsimp only;rw[if_pos rfl];refine C i xs[i] (b8 c) _ _ l sm λy G d n=>⟨d _ _ hL,by lia,xs.length - (i+1),by lia,c,rfl,⟨some xs[i],?_⟩,?_,aK,?_,?_⟩
  ·rw[bCG]
  ·intro b o e;rw[aR (aQ e h)];exact d _ _ (sm _ _ e)
  ·rw[bAA,bEX,hl]
  ·intro j z a;refine A (d _ _ hL) ?_;by_cases p:j<ys.length
   ·rw[bBF p] at a;exact E d (hR j z a)
   ·rw[bBC (by lia)] at a;have g:j - ys.length=0:=by
     by_cases w:j - ys.length=0
     ·exact w
     ·rw[bAF (by simp;lia)] at a;cases a
    have f:j=i:=by lia
    subst f;rw[g] at a;cases a;exact n
 ·left;have e:i=xs.length:=by lia
  subst e;exact⟨stop _ sm,q D _ ys sm hL hl hR⟩
def aWi (xs ys:List V)(g:ys.length=xs.length)(o:St)(n:Cap X scope N σ o)(k:xs.length<=sizeLine)
  (s:∀R:It->Hp->Prop,(∀J:It,(∀H' i x,Same H H'->xs[i]?=some x->J.go i H'/\∀y H2,J.yld i H' y H2->H2=H'/\y=x)->(∀H',Same H H'->J.stop xs.length H')->R J H)->wi σ H R)
  (u:∀(i:Nat) (x y:V),xs[i]?=some x->ys[i]?=some y->∀H' R l,Same H H'->(∀H2,Same H' H2->R y H2)->te ((o.set 0 l).set 0 (some x)) H' R) (t:o[0]?=some none)
  (q:∀D H',Same H H'->H' D=some (.lst ys)->Q (.ref D) H') :
  lM X scope N wi (cM 0) mW te σ H Q:=by
 refine aRw xs (λi _ y=>ys[i]?=some y) (λ_ h=>h) (λ_ h=>h) o n k s (λi x d H' R l b r=>?_) t λD H' c b f p m=>?_
 ·have a:i<ys.length:=by rw[g];exact (List.getElem?_eq_some_iff.mp d).1
  exact u i x ys[i] d (b8 a) H' R l b λH2 j=>r _ H2 j (b8 a)
 ·have e:c=ys:=by
   refine bCT λi=>?_;by_cases a:i<c.length
   ·rw[m i c[i] (b8 a),b8 a]
   ·rw[bAF (by lia),bAF (by lia)]
  subst e;exact q D H' b f
end
section
variable {X:Cx}{tg e o i:Expr}{te td ty:TE}{pos:Pos}
def iV (a:X.A.units+1<cLine)(b:VE X o td)(hi:VE X i ty)(c:aZs i):VE X (.Subscript o i pos) (aYh td ty):=⟨aWp a b.1 hi.1 c⟩
end
def aEk (a:X.A.units+1<cLine)(hi:VE X i ty)(b:VE X o td)(c:behindInMarks .NotIn o=false:=by first|exact nobehind _ (by decide) (by decide)|rfl):VT X (.Compare i [.NotIn] [o] pos) (tB (aOt ty td)):=⟨aSz (aQ3 a hi.1 b.1) c⟩
end L2
namespace L2
open PySem PySem.Spec PyProof.Rows
def sel {α:Type}(p:Nat->Bool):Nat->List α->List α
 |_,[]=>[]
 |i,x::r=>if p i then x::sel p (i+1) r else sel p (i+1) r
theorem aCz {α:Type}(p:Nat->Bool)(x:α):∀k xs,sel p k (xs++[x])=sel p k xs++(if p (k+xs.length) then [x] else [])
 |k,[]=>by show (if p k then x::sel p (k+1) [] else sel p (k+1) [])=[]++(if p (k+0) then [x] else []);rw[Nat.add_zero,bBU];rfl
 |k,y::r=>by
  show (if p k then y::sel p (k+1) (r++[x]) else sel p (k+1) (r++[x]))=(if p k then y::sel p (k+1) r else sel p (k+1) r)++_;rw[aCz p x (k+1) r,t8,show k+1+r.length=k+(r.length+1) by lia]
  split <;> rfl
theorem aH0 {α:Type}(p:Nat->Bool):∀(k:Nat) (xs:List α),(sel p k xs).length<=xs.length
 |_,[]=>d8 _
 |k,y::r=>by
  have:=aH0 p (k+1) r;show (if p k then y::sel p (k+1) r else sel p (k+1) r).length<=r.length+1
  split
  ·rw[t8];lia
  ·lia
section
variable {X:Cx}{scope:Scope}{N:List Str}{wi:TI}{te:TE}{σ:L2.St}{H:Hp}{Q:VK}
end
def aXh {X:Cx}{i0:Nat}{x0:Str}{G spos:Pos}{am M P:Expr}{al:List Expr}{scope:Scope}{aj:Pos}{N:List Str}{wi:TI}{g:TG}{tt:TT}{te:TE}
  (hN:X.N.Nodup) (b3:X.N[i0]?=some x0) (b4:Loc X.env.scope x0) (C:aAt scope N) (ak:∀y,(y,NameKind.free)∈scope.names->X.env.kindOf y=some .cell\/X.env.kindOf y=some .free) (hc:X.calm=true)
  (hi:PI X M P wi)
  (f:∀cl s H fp,PG (cxC X N scope cl s H fp) M g/\aSo (cxC X N scope cl s H fp) al tt/\PE (cxC X N scope cl s H fp) am te)
  (hs:∀x,foldedSetIterable P X.env x=pure x:=by intro _;rfl) (b2:swapsWith (.ListComp am [⟨M,P,al,0⟩] scope aj) (some (.Name x0 G)) spos.line X.env=pure true:=by rfl)
  (hf:X.fn x0=true\/X.env.scope.names.lookup x0=some .local:=by first|exact .inl rfl|exact .inr rfl|assumption) :
  PS X (.Assign [.Name x0 G] (.ListComp am [⟨M,P,al,0⟩] scope aj) spos) (aBq (lM X scope N wi g tt te) (cM i0)):=by
 intro D s σ H Dn I hq;obtain⟨σ0,au,hq⟩:=hq;obtain⟨cl,ai,p1,p2⟩:=aCo (scope:=scope) (env:=X.env) (λy hy hk=>by obtain⟨n,k⟩:=y;cases hk;exact I.ok.has n (ak n hy))
 rw[exec_Assign_Name_used _ _ _ _ b2];refine b7 (wpAny_standAt (b7 ?_));show wpAny _ X.A (do let _ <-comprehension (.ListComp am [⟨M,P,al,0⟩] scope aj) scope X.env _ (newList []) false (eval P X.env) (some (assign (.Name x0 G) X.env))) _ _ s;refine b7 (bBN (wpAny_comprehension_free (use:=some (assign (.Name x0 G) X.env)) (Q:=λ_ s'=>SP X D Dn .next s') rfl hs ai C.kind C.names (thn (hi D s σ H _ I hq) λxv s1 h1=>thn h1 λb1 j h2=>?_))
  (λ_ s' hq=>d7 (d7 hq)) λ_ _ e=>e)
 obtain⟨it,fp,tn,J,L,rfl,I2,T,a6,f2,q2⟩:=h2;refine bAO (bE8 C.cell (by intro y hy;simp at hy) (λh₁ K F=>?_) C.kind);dsimp only at K F ⊢;have hD:L j.heap.objs.size=none:=I2.hok.fresh (d8 _);have I3:Inv X D σ (upd L j.heap.objs.size (.lst [])) { j with heap:=j.heap.push { cls:=.type "list",dict:=none,data:=.seq ([]:List Value).toArray } }:=
  I2.laid (t':=j.toks) (λb u e=>c7 _ e) (d8 _) ⟨bAE _,[],0,.nil,j0 _ rfl⟩
 generalize a4:({ j with heap:=j.heap.push { cls:=.type "list",dict:=none,data:=.seq ([]:List Value).toArray } }:Shared)=s3 at I3;have Y:j.heap.push { cls:=.type "list",dict:=none,data:=.seq ([]:List Value).toArray }=s3.heap:=by rw[<-a4]
 rw[Y] at K F;have aa:∀b∈fp,b<j.heap.objs.size:=λb f=>by obtain⟨o,e,_⟩:=T.obj _ _ a6 b f;exact j8 e
 have ao:∀b∈fp,b<s3.heap.objs.size:=λb f=>by rw[<-Y,bAW];exact bBA (aa b f)
 have f3:∀b∈fp,tH X D (upd L j.heap.objs.size (.lst [])) b:=λb f=>by obtain⟨f0,fr⟩:=f2 b f;exact⟨by rw[aR (t6 (aa b f))];exact f0,fr⟩
 have E:∀b o,s3.heap.get? b=some o->h₁.get? b=some o:=λb o e=>F.extBut b o (t6 (j8 e)) (c7 _ e);have I4:=aKr (tk:=s3.toks) I3 C ak p1 p2 au f3 ao K E;have a5:tn 0 h₁:=T.keep _ _ _ a6 λb f o e=>E b o (by rw[<-Y];exact c7 _ e);obtain⟨W,⟨m0,w0⟩,a8⟩:=q2 j.heap.objs.size hD;have a2:∀{H':Hp},(∀b∈fp,H' b=none)->∀b∈fp,tH (cxC X N scope cl s3 (upd L j.heap.objs.size (.lst [])) fp) [] H' b:=λ{H'} hn b f=>by obtain⟨e1,e2⟩:=I4.ok.exf b f;exact⟨hn b f,e1,I4.ok.exfs b f,.inl f,e2,λp hp=>absurd (show p∈([]:bFR) from hp) (by simp)⟩
 have S:∀s4:Shared,s4={ s3 with heap:=h₁,toks:=s3.toks } ->
   codeAny (model X.prog X.w) X.A (.compLoop (.ListComp am [⟨M,P,al,0⟩] scope aj) 0 (.ref it) (.ref j.heap.objs.size) (compEnvC scope cl s3.heap.objs.size X.env))
    (compPost (model X.prog X.w) X.A X.xe (some (assign (.Name x0 G) X.env)) (λ_ s'=>SP X D Dn .next s') (.ref j.heap.objs.size) s3.heap.objs.size) s4:=by
  rintro s4 rfl;refine aEm (λn s'=>∃i σ' H' ys,Inv (cxC X N scope cl s3 (upd L j.heap.objs.size (.lst [])) fp) [] σ' H' s'/\tn i s'.heap/\(∀b∈fp,H' b=none)/\W i n σ' H' ys) ?_ m0 ⟨0,σ0,_,[],I4,a5,λb f=>(f3 b f).1,w0⟩;rintro n s5 ⟨i,σ5,H5,ys,I5,st5,fr5,w5⟩;obtain⟨ay,w5⟩:=a8 i n σ5 H5 ys w5;have m:∀{α:Type} {t:Sem α} {Q':α->Shared->Prop} {E':bFQ} {s':Shared},wpAny (model X.prog X.w) X.A t Q' (λ_ _=>False) s'->wpAny (model X.prog X.w) X.A t Q' E' s':=λh=>bBN h (λ_ _ q=>q) λ_ _ z=>z.elim;rcases w5 with⟨a7,qn⟩|⟨go,step⟩
  ·refine m (thn (T.done (cxC X N scope cl s3 (upd L j.heap.objs.size (.lst [])) fp) rfl rfl rfl hc i [] s5 σ5 H5 _ I5 (a2 fr5) st5 a7) λr U ⟨hr,I6⟩=>?_);subst hr;obtain⟨m6,ax,_⟩:=I6.loc;have kp:∀b o,b≠s3.heap.objs.size->U.heap.get? b=some o->U.heap.get? b=some o:=λb o f e=>e;have V:∀b o,s3.heap.get? b=some o->b≠s3.heap.objs.size:=λb o e=>t6 (j8 e);have un:Un (frs X.stack) fp (upd L j.heap.objs.size (.lst [])) H5 s3.heap U.heap:=by
    have u:=I6.base;exact⟨λb o e n f hx=>kp b o (V b o e) (u.keep b o e n f hx),λb o e n f hx=>by
     obtain⟨sl,e1⟩:=u.slot b o e n f hx;exact⟨sl,kp b _ (V b o e) e1⟩,u.free,λb o e hx=>by
     obtain⟨o',e1⟩:=u.there b o e hx;exact⟨o',kp b _ (V b o e) e1⟩,u.tups,u.frzs,u.tbls⟩
   have ae:HOk X.prog X.w H5 U.heap:=λb u e=>by
    refine (I6.hok b u e).stay (λc v as q=>kp c v ?_ q) (λ_ q=>q) λ_ _ q=>q;have l:H5 s3.heap.objs.size=none:=I6.free;rintro rfl;rcases as with z|z
    ·rw[z] at l;rw[l] at e;cases e
    ·rw[l] at z;cases z
   have I7:Inv X D σ H5 U:=by refine I3.call' (s':=U) I6.os un ae I6.bare λb f=>?_;obtain⟨f0,f1,b0,ag,f4,f5⟩:=f3 b f;exact⟨ag,f1,f4,f5⟩
   have l:H5 s3.heap.objs.size=none:=I6.free;obtain⟨g0,g1,g2,g3,g4,g5⟩:=I3.aD7 (d8 _) l;show wpAny (model X.prog X.w) X.A (assign (.Name x0 G) X.env (.ref j.heap.objs.size)) _ _ U;refine wpAny_assign_Name (aE0 I7 hN b3 b4 (v:=.ref j.heap.objs.size) rfl (λZ I8 ⟨a,sb,ha⟩=>?_) hf);have ah:s3.heap.objs.size≠a:=by
    rcases ha with z|z
    ·rw[z];exact g1
    ·exact λe=>g4 x0 a z e.symm
   refine⟨m6,ax.sameBut sb ah,λh' an=>?_⟩;exact⟨_,H5,Inv.turned I8 (t':=Z.toks) (it:=s3.heap.objs.size) (λb o f e=>an.extBut b o f e) g0 g1 g3 g4 g5,qn⟩
  ·refine m (thn (T.item (cxC X N scope cl s3 (upd L j.heap.objs.size (.lst [])) fp) rfl rfl rfl hc i [] s5 σ5 H5 (λ_ _=>False) I5 (a2 fr5) st5 go) λr U ⟨u,hr,h6⟩=>?_);subst hr;refine m (thn h6 λ_ s7 ⟨x,H7,I7,r7,y7,a1,ar⟩=>?_);obtain⟨hg,ht,he⟩:=f cl s3 (upd L j.heap.objs.size (.lst [])) fp;have av:=I7.pinned (a2 ar) (T.obj _ _ a1);have B:∀{R:St} {H8:Hp} {Z:Shared},Inv (cxC X N scope cl s3 (upd L j.heap.objs.size (.lst [])) fp) ([]++yL fp s7.heap) R H8 Z->tn (i+1) Z.heap/\∀b∈fp,H8 b=none:=λ{R H8 Z} I8=>
    ⟨T.keep _ _ _ a1 λb f o e=>(I8.pin (b,o) (z9 _ (z9 _ (jV f e)))).1,λb f=>by obtain⟨o,e,d⟩:=T.obj _ _ a1 b f;exact (I8.pin (b,o) (z9 _ (z9 _ (jV f e)))).2.1⟩
   refine m (thn (hg _ s7 σ5 H7 x u _ av r7 (step x H7 y7)) λ_ Z ⟨R,H8,I8,q8⟩=>?_);refine m (thn (ht _ Z R H8 _ I8 q8) λb s9 ⟨H9,I9,q9⟩=>?_);cases b with
   |false=>rw[if_neg v6] at q9 ⊢;obtain⟨_,m',hm,w9⟩:=q9;exact⟨m',hm,i+1,R,H9,ys,I9.mF,(B I9).1,(B I9).2,w9⟩
   |true=>rw[if_pos rfl] at q9 ⊢;refine m (thn (he _ s9 R H9 _ I9 q9) λyv ap ⟨y,ab,aw,ac,O,a9,m',hm,aq⟩=>?_);refine m (thn (xP _ ap R ab (.ref j.heap.objs.size) [y] (.ref j.heap.objs.size) [yv] (λ_ a3=>a3=upd ab j.heap.objs.size (.lst (ys++[y]))) aw rfl (.cons ac .nil) ⟨_,_,_,rfl,rfl,O,a9,rfl⟩) λ_ az ⟨z,a3,a0,_,ad⟩=>?_);subst ad;exact⟨m',hm,i+1,R,_,ys++[y],a0.mF,(B a0).1,(B a0).2,aq⟩
 have af:=codeAny_compStart_list (S { s3 with heap:=h₁,toks:=s3.toks } rfl) (T.self _ _ _ _ _ a5 (S { s3 with heap:=h₁,toks:=s3.toks } rfl));subst a4;exact af
def aAl
  (i:X.N.Nodup) (c:X.N[i0]?=some x0) (e:Loc X.env.scope x0) (C:aAt scope N) (d:∀y,(y,NameKind.free)∈scope.names->X.env.kindOf y=some .cell\/X.env.kindOf y=some .free) (j:X.calm=true)
  (hi:VI X target iter wi)
  (a:∀cl s H fp,VG (cxC X N scope cl s H fp) target g/\VF (cxC X N scope cl s H fp) ifs tt/\VE (cxC X N scope cl s H fp) elt te)
  (f:∀x,foldedSetIterable iter X.env x=pure x:=by intro _;rfl) (b:swapsWith (.ListComp elt [⟨target,iter,ifs,0⟩] scope pos) (some (.Name x0 pos')) spos.line X.env=pure true:=by rfl)
  (h:X.fn x0=true\/X.env.scope.names.lookup x0=some .local:=by first|exact .inl rfl|exact .inr rfl|assumption) :
  VS X (.Assign [.Name x0 pos'] (.ListComp elt [⟨target,iter,ifs,0⟩] scope pos) spos) (aBq (lM X scope N wi g tt te) (cM i0)):=
 ⟨aXh i c e C d j hi.1 (λcl s H fp=>⟨(a cl s H fp).1.1,(a cl s H fp).2.1.1,(a cl s H fp).2.2.1⟩) f b h⟩
section
variable {te:TE}{H:Hp}{Q:VK}
def aMm (xs:List V)(Rel:Nat->Hp->V->Prop)(E:∀{i H1 H2 y},Same H1 H2->Rel i H1 y->Rel i H2 y)(v:∀{i H1 D ys zs y},H1 D=some (.lst ys)->Rel i H1 y->Rel i (upd H1 D (.lst zs)) y)
  (C:St) (hsz:xs.length<=sizeLine)
  (J:It) (B:∀H' i x,Same H H'->xs[i]?=some x->J.go i H'/\∀y H2,J.yld i H' y H2->H2=H'/\y=x) (k:∀H',Same H H'->J.stop xs.length H')
  (A:∀(i:Nat) (x:V),xs[i]?=some x->∀H' R l,Same H H'->(∀y H2,Same H' H2->Rel i H2 y->R y H2)->te ((C.set 0 l).set 0 (some x)) H' R) (w:C[0]?=some none)
  (q:∀D H' ys,Same H H'->H' D=some (.lst ys)->ys.length=xs.length->(∀(i:Nat) (y:V),ys[i]?=some y->Rel i H' y)->Q (.ref D) H') :
  ∀D,H D=none->∃W:Nat->Nat->St->Hp->List V->Prop,(∃m,W 0 m C (upd H D (.lst [])) []) /\
   ∀i m σ' H' ys,W i m σ' H' ys->H' D=some (.lst ys)/\((J.stop i H'/\Q (.ref D) H')\/(J.go i H'/\∀x H2,J.yld i H' x H2->cM 0 x σ' H2 fun σ3 H3=>mW σ3 H3 λb H4=>
    if b=true then te σ3 H4 λy H5=>H5 D=some (.lst ys)/\ys.length<sizeLine/\∃m',m'<m/\W (i+1) m' σ3 (upd H5 D (.lst (ys++[y]))) (ys++[y]) else H4 D=some (.lst ys)/\∃m',m'<m/\W (i+1) m' σ3 H4 ys)):=by
 intro D h;refine⟨λi m σ' H' ys=>i<=xs.length/\m=xs.length - i/\(∃l,σ'=C.set 0 l)/\Same H H'/\H' D=some (.lst ys)/\ys.length=i/\∀j y,ys[j]?=some y->Rel j H' y,⟨xs.length,bAE _,rfl,⟨none,mC w⟩,bC h _,aK,rfl,λj y e=>by simp at e⟩,?_⟩;rintro i m σ' H' ys ⟨hi,rfl,⟨l,rfl⟩,sm,hL,hl,hR⟩;refine⟨hL,?_⟩;by_cases c:i<xs.length
 ·right;obtain⟨t,s⟩:=B H' i xs[i] sm (b8 c);refine⟨t,λx H2 r=>?_⟩;obtain⟨rfl,rfl⟩:=s x H2 r;unfold cM mW;dsimp only;rw[if_pos rfl];refine A i xs[i] (b8 c) _ _ l sm λy H3 d n=>⟨d _ _ hL,by lia,xs.length - (i+1),by lia,c,rfl,⟨some xs[i],?_⟩,?_,aK,?_,?_⟩
  ·rw[bCG]
  ·intro b o e;rw[aR (aQ e h)];exact d _ _ (sm _ _ e)
  ·rw[bAA,bEX,hl]
  ·intro j z a;refine v (d _ _ hL) ?_;by_cases p:j<ys.length
   ·rw[bBF p] at a;exact E d (hR j z a)
   ·rw[bBC (by lia)] at a;have g:j - ys.length=0:=by
     by_cases u:j - ys.length=0
     ·exact u
     ·rw[bAF (by simp;lia)] at a;cases a
    have f:j=i:=by lia
    subst f;rw[g] at a;cases a;exact n
 ·left;have e:i=xs.length:=by lia
  subst e;exact⟨k _ sm,q D _ ys sm hL hl hR⟩
end
section
variable {K:bFP}
def aLm (g:∀H',Same H H'->SqL K H' a xs):∀H' i x,Same H H'->xs[i]?=some x->(Itl K a).go i H'/\∀y H2,(Itl K a).yld i H' y H2->H2=H'/\y=x:=λH' i x s e=>
 ⟨⟨xs,x,g H' s,e⟩,λy H2 d=>by obtain⟨f,c⟩:=d;have b:=c xs (g H' s);rw[e] at b;cases b;exact⟨f,rfl⟩⟩
def aBr (b:∀H',Same H H'->SqL K H' a xs):∀H',Same H H'->(Itl K a).stop xs.length H':=λH' s=>⟨xs,b H' s,d8 _⟩
end
section
variable {X:Cx}{K:bFP}{scope:Scope}{N:List Str}{tl te:TE}{σ:L2.St}{H:Hp}{Q:VK}
def aQq (Pr:List V->Prop)(Rel:Nat->Hp->V->Prop)(k:∀{i H1 H2 y},Same H1 H2->Rel i H1 y->Rel i H2 y)(j:∀{i H1 D ys zs y},H1 D=some (.lst ys)->Rel i H1 y->Rel i (upd H1 D (.lst zs)) y)
  (f:L2.St) (h:Cap X scope N σ f) (n:f[0]?=some none)
  (m:∀R:VK,(∀D H1 us,Same H H1->H1 D=some (.lst us)->Pr us->R (.ref D) H1)->tl σ H R)
  (e:∀us,Pr us->us.length<=sizeLine)
  (o:∀us,Pr us->∀(i:Nat) (x:V),us[i]?=some x->∀H' R l,Same H H'->(∀y H2,Same H' H2->Rel i H2 y->R y H2)->te ((f.set 0 l).set 0 (some x)) H' R)
  (q:∀us,Pr us->∀D H' ys,Same H H'->H' D=some (.lst ys)->ys.length=us.length->(∀(i:Nat) (y:V),ys[i]?=some y->Rel i H' y)->Q (.ref D) H') :
  lM X scope N (aJi K tl) (cM 0) mW te σ H Q:=
 ⟨f,h,m _ λD H1 us c b p=>⟨D,rfl,⟨us,SqL.of b⟩,aMm us Rel k j f (e us p) (Itl K D) (aLm λH' a=>SqL.of (a _ _ b)) (aBr λH' a=>SqL.of (a _ _ b))
  (λi x g H' R l a r=>o us p i x g H' R l (c.trans a) r) n λd H' ys a=>q us p d H' ys (c.trans a)⟩⟩
end
def SqT.lQ {K:bFP}{H:Hp}{a D:Addr}{xs ys zs:List V}(b:H D=some (.lst ys))(h:SqT K H a xs):SqT K (upd H D (.lst zs)) a xs:=by
 rcases h with (h|⟨o,h⟩)|h
 ·exact .inl (.inl (by rw[aR (aIe h b (by intro z;cases z))];exact h))
 ·exact .inl (.inr ⟨o,by rw[aR (aIe h b (by intro z;cases z))];exact h⟩)
 ·exact .inr h
end L2
namespace PySem
end PySem
namespace L2
open PySem PySem.Spec PyProof.Rows
def classAt:Stmt->Nat->Stmt
 |.ClassDef _ _ _ body _ _ _ _ _ _ _,j=>body.getD j (.Pass ⟨0,0,0,0⟩)
 |st,_=>st
structure aSq (K:bFP)(mg:bFS)(x:Str)(C:Addr):Prop where
 at_:mg x=some (.ref C)
 cls:Cls K C
 mks:PySem.W.makesIn K C=true
 kp:PySem.W.keepIn K (.ref C)=true
def eQ (K:bFP)(C:Addr)(m qual:Str)(st:Stmt)(ps:List Str):Prop:=∃f fd,Meth K C m f/\Fun K m qual st f fd/\Binds K fd ps []
section
variable {P:Program}{w:World}{K:bFP}{mg:bFS}{base:Heap}
def OkM (P:Program)(w:World)(K:bFP)(mg:bFS)(base:Heap)(C:Addr)(k:Nat)(m:Str)(ps:List Str)(sp:Sp):Prop:=
 ∃f fd,Cls K C/\Meth K C m f/\Binds K fd ps []/\lY P w K mg base CX0 k f fd ps sp
theorem OkM.mono (h:OkM P w K mg base C j m ps sp)(g:j<=k):OkM P w K mg base C k m ps sp:=by obtain⟨f,c,e,a,d,b⟩:=h;exact⟨f,c,e,a,d,b.mono g⟩
def OkM.ofV {C:Addr}{m qual:Str}{st:Stmt}{N ps:List Str}{k:Nat}{sp:Sp}(c:Cls K C)(D:eQ K C m qual st ps)(S:aM N ps (aJ st))(b:∀vs H Q E,sp vs H Q E->vs.length=ps.length)
  (a:∀(f:Addr) (cdv:Value) (A:Around) (outer:List Env) (s:Shared) (H:Hp) (vs:List V) (Q:VK) (E:XK),Room k (A.deeper (envOfC qual (aJ st) s.heap.objs.size f cdv))->sp vs H Q E ->
   ∃t,VSs (aC2 CX0 P w K mg base N qual (aJ st) f cdv A outer s H E).nox (fH st) t/\t { nx:=λ_ H'=>Q .non H',rt:=Q } (start N vs) H):OkM P w K mg base C (k+1) m ps sp:=by
 obtain⟨f,e,d,F,B⟩:=D;exact⟨f,e,c,d,B,Fun.okV F S b λcdv A outer s H vs Q E g h=>a f cdv A outer s H vs Q E g h⟩
def OkC (P:Program)(w:World)(K:bFP)(mg:bFS)(base:Heap)(C:Addr)(k:Nat)(x:Str)(ps:List Str)(sp:Sp):Prop:=
 ∃f fd,mg x=some (.ref C)/\Mk K C f/\Binds K fd ps []/\lY P w K mg base CX0 k f fd ps sp
theorem OkC.mono (h:OkC P w K mg base C j x ps sp)(g:j<=k):OkC P w K mg base C k x ps sp:=by obtain⟨f,c,e,a,d,b⟩:=h;exact⟨f,c,e,a,d,b.mono g⟩
def OkM.make (c:aSq K mg x C)(h:OkM P w K mg base C k "__init__" ps sp):OkC P w K mg base C k x ps sp:=by obtain⟨f,d,g,a,e,b⟩:=h;exact⟨f,d,c.at_,⟨c.mks,a.at_,a.fn,c.kp⟩,e,b⟩
end
section
variable {X:Cx}{e o value:Expr}{es:List Expr}{f m x:Str}{p pos pos' apos:Pos}{ta tv:TE}{t:TA}{C:Addr}{k:Nat}{ps:List Str}{sp:Sp}
def cY {K:bFP}(b:VE X e ta)(a:attributeBase e f X.env (eval e X.env)=eval e X.env:=by rfl)(h:X.K=K:=by rfl):VE X (.Attribute e f pos) (bDd K ta f):=by subst h;exact⟨bBf b.1 a⟩
def aBd {K:bFP}(c:VE X o ta)(a:VE X value tv)(b:swapsWith value (some (.Attribute o f pos')) pos.line X.env=pure false:=by rfl)(h:X.K=K:=by rfl):VS X (.Assign [.Attribute o f pos'] value pos) (bDc K ta tv f):=by subst h;exact⟨aZh c.1 a.1 b⟩
def cG (G:OkM X.prog X.w X.K X.mg X.base C k m ps sp)(j:Room k X.A)(l:VE X o ta)(h:VA X (e::es) t)
  (n:dH e=true:=by rfl) (a:(backTo pos (starEach es X.env)).any (·.1)=false:=by rfl)
  (i:eval (.Call (.Attribute o m apos) (e::es) [] pos) X.env=(do
   let ov <-eval o X.env
   standAt apos.atName
   let (f,first) <-holding [ov] (getMethod ov m pl)
   callWith pos f first (backTo pos (starEach (e::es) X.env)) (backToKw pos (keywordEach [] X.env))):=by rfl):VE X (.Call (.Attribute o m apos) (e::es) [] pos) (aPb C m sp [] E0 ta t):=by
 obtain⟨f,p,g,b,d,c⟩:=G;exact⟨aW6 l.1 g b c j d .nil aEo h.1 (aW n) a i⟩
def dY (G:OkM X.prog X.w X.K X.mg X.base C k m ps sp)(h:Room k X.A)(g:VE X o ta)
  (e:eval (.Call (.Attribute o m apos) [] [] pos) X.env=(do
   let ov <-eval o X.env
   standAt apos.atName
   let (f,first) <-holding [ov] (getMethod ov m pl)
   callWith pos f first (backTo pos (starEach [] X.env)) (backToKw pos (keywordEach [] X.env))):=by rfl):VE X (.Call (.Attribute o m apos) [] [] pos) (aPb C m sp [] E0 ta aF3):=by
 obtain⟨f,i,d,a,c,b⟩:=G;exact⟨aUd g.1 d a b h c .nil aEo e⟩
def aGc (G:OkC X.prog X.w X.K X.mg X.base C k x ps sp)(l:Room (k+1) X.A)(i:Gl X x)(j:VA X (e::es) t)(d:(x == ("__debug__":Str))=false:=by decide)(m:dH e=true:=by rfl)(a:(backTo pos (starEach es X.env)).any (·.1)=false:=by rfl) :
  VE X (.Call (.Name x p) (e::es) [] pos) (aYo C sp [] E0 t):=by
 obtain⟨f,n,h,b,g,c⟩:=G;exact⟨aXq b c l i h g .nil aEo j.1 d (aW m) a⟩
end
section
variable {X:Cx}
def bDx (K:bFP):List V->Hp->VK->Prop:=λxs H Q=>∃(p:Addr) (bs:List Bool),xs=[.ref p]/\SqL K H p (bs.map V.bl)/\Q (.bl (bs.any id)) H
def any_range (bs:List Bool):(List.range bs.length).any (λi=>bs.getD i false)=bs.any id:=by
 rw[bCU,bEB,bEB];constructor
 ·rintro⟨i,a,h⟩;have a:=List.mem_range.mp a;rw[j6,b8 a] at h;exact⟨_,bAP a,h⟩
 ·rintro⟨b,c,h⟩;obtain⟨i,a,e⟩:=List.mem_iff_getElem.mp c;refine⟨i,List.mem_range.mpr a,?_⟩;rw[j6,b8 a];rw[e];exact h
def aT2 (R:X.calm=true):cJ X (.builtin "any") (bDx X.K):=by
 intro D s σ H P M Q I r h;obtain⟨p,a,rfl,F,q⟩:=h;obtain⟨u,rfl,B⟩:=r.one;cases B;obtain⟨d,t,l,J⟩:=I.list F;have j:=t.length;rw[j4] at j;have k:p≠s.heap.objs.size:=by obtain⟨o,C,_⟩:=l.isList;exact t6 (j8 C)
 refine call_any_walk (bCF l.isList ?_);refine⟨s.heap.objs.size,_,_,_,_,_,λi=>a.getD i false,rfl,Walks.list (show X.A.in1.handled=none from I.ok.hd R) _ p k d.toArray,⟨⟨_,j0 _ rfl,rfl,rfl⟩,?_⟩,?_,λL N G=>?_⟩
 ·exact l.isList.at λo e=>c7 _ e
 ·intro i v w E O x c;have f:d[i]?=some v:=by simpa using x
  have n:i<a.length:=by rw[j];exact (List.getElem?_eq_some_iff.mp f).1
  obtain⟨u,m,y⟩:=t.get (by rw[t7,b8 n];rfl);rw[f] at m;cases m;cases y;have e:a.getD i false=a[i]:=by rw[j6,b8 n];rfl
  replace c:E (a.getD i false) w:=c;rw[e] at c;exact bBH c
 ·have e:(List.range d.toArray.size).any (λi=>a.getD i false)=a.any id:=by rw[d9,<-j];exact any_range a
  rw[e];refine⟨.bl (a.any id),H,?_,rfl,q⟩;exact I.kept λb o g=>G b o (by
   intro z;have:b=s.heap.objs.size:=by simpa using z
   rw[this] at g;exact absurd (j8 g) (bBO _)) (c7 _ g)
def aZz:List V->Hp->VK->Prop:=λxs H Q=>∃z:Str,xs=[.str z]/\z.length<=1000/\∀l H',H l=none->Same H H'->H' l=some (.lst ((List.range z.cps.size).map λi=>V.str (sgn z i)))->Q (.ref l) H'
theorem aCj (z:Str):∀(n k:Nat) (vs:List Value),vs.length=n->(∀(j:Nat) (v:Value),vs[j]?=some v->∃t,v=.str (sgn z (k+j)) t)->Vals ((List.range' k n).map λi=>V.str (sgn z i)) vs
 |0,k,[],_,_=>.nil
 |n+1,k,v::vs,hl,h=>by obtain⟨t,rfl⟩:=h 0 v rfl;rw[List.range'_succ,bAC];refine .cons ⟨t,rfl⟩ (aCj z n (k+1) vs (by simpa using hl) λj u e=>?_);obtain⟨a,b⟩:=h (j+1) u e;exact⟨a,by rw[b,show k+(j+1)=k+1+j by lia]⟩
def aMt (E:X.calm=true):cJ X (.type "list") aZz:=by
 intro x s σ H D C Q I r h;obtain⟨z,rfl,g,q⟩:=h;obtain⟨u,rfl,t,rfl⟩:=vals1 r;refine call_list_str (I.ok.hd E) z t (λB w a y A p b=>?_) (small g);have f:=aCj z z.cps.size 0 a.toList (by rw[v7];exact b.1) λj v e=>by have m:=b.2 j v (by rw[<-bBR];exact e);obtain⟨c,t',n,l⟩:=m;refine⟨t',?_⟩;rw[l];unfold sgn;rw[bEA,v8,n];rfl
 rw[<-List.range_eq_range'] at f;have k:a.toList.toArray=a:=by simp
 have d:H s.heap.objs.size=none:=I.hok.fresh (d8 _);refine⟨.ref s.heap.objs.size,_,I.laid (t':=w) (o:=.lst ((List.range z.cps.size).map λi=>V.str (sgn z i))) A (d8 _) ?_,rfl,q _ _ d (bC d _) aK⟩;refine⟨by rw[j4,bAJ];exact small g,a.toList,y,f,?_⟩;rw[k];exact p
end
def aL3 {X:Cx}{K:bFP}(h:X.K=K:=by rfl):OpR X (compareOp .In) (rIn K false):=by subst h;exact xR
structure bCm (E:Hp->Hp->Prop)(H:Hp):Prop where
 new:∀D o,H D=none->E H (upd H D o)
 trans:∀{H1 H2},E H H1->E H1 H2->E H H2
 upd:∀D o H',H D=none->E H H'->E H (upd H' D o)
 keep:∀D H1 H2 xs,H D=none->E H H1->H1 D=some (.lst xs)->E H1 H2->H2 D=some (.lst xs)
def pR (J:It)(H1:Hp)(σ0:L2.St)(g:TG)(tt:TT)(te:TE)(Q:VK):Prop:=∀D,H1 D=none->∃W:Nat->Nat->L2.St->Hp->List V->Prop,(∃m,W 0 m σ0 (L2.upd H1 D (.lst [])) []) /\
 ∀i m σ' H' ys,W i m σ' H' ys->H' D=some (.lst ys)/\((J.stop i H'/\Q (.ref D) H')\/(J.go i H'/\∀x H2,J.yld i H' x H2->g x σ' H2 fun σ3 H3=>tt σ3 H3 λb H4=>
  if b=true then te σ3 H4 λy H5=>H5 D=some (.lst ys)/\ys.length<sizeLine/\∃m',m'<m/\W (i+1) m' σ3 (L2.upd H5 D (.lst (ys++[y]))) (ys++[y]) else H4 D=some (.lst ys)/\∃m',m'<m/\W (i+1) m' σ3 H4 ys))
section
variable {X:Cx}{K:bFP}{scope:Scope}{N:List Str}{tl te:TE}{tt:TT}{g:TG}{σ:L2.St}{H:Hp}{Q:VK}
def vP (c:L2.St)(b:Cap X scope N σ c)(h:tl σ H λv H1=>∃a,v=.ref a/\(∃xs,SqL K H1 a xs)/\pR (Itl K a) H1 c g tt te Q):lM X scope N (aJi K tl) g tt te σ H Q:=⟨c,b,h⟩
def vU (c:L2.St)(b:Cap X scope N σ c)(h:tl σ H λv H1=>∃a,v=.ref a/\(∃xs,SqT K H1 a xs)/\pR (Itt K a) H1 c g tt te Q):lM X scope N (aXw K tl) g tt te σ H Q:=⟨c,b,h⟩
def aHh {a:Addr}{xs:List V}{E:Hp->Hp->Prop}(g:∀H',E H H'->SqT K H' a xs):∀H' i x,E H H'->xs[i]?=some x->(Itt K a).go i H'/\∀y H2,(Itt K a).yld i H' y H2->H2=H'/\y=x:=λH' i x s e=>
 ⟨⟨xs,x,g H' s,e⟩,λy H2 d=>by obtain⟨f,c⟩:=d;have b:=c xs (g H' s);rw[e] at b;cases b;exact⟨f,rfl⟩⟩
def wN {a:Addr}{xs:List V}{E:Hp->Hp->Prop}(b:∀H',E H H'->SqT K H' a xs):∀H',E H H'->(Itt K a).stop xs.length H':=λH' s=>⟨xs,b H' s,d8 _⟩
def aWo {a:Addr}{xs:List V}{E:Hp->Hp->Prop}(g:∀H',E H H'->SqL K H' a xs):∀H' i x,E H H'->xs[i]?=some x->(Itl K a).go i H'/\∀y H2,(Itl K a).yld i H' y H2->H2=H'/\y=x:=λH' i x s e=>
 ⟨⟨xs,x,g H' s,e⟩,λy H2 d=>by obtain⟨f,c⟩:=d;have b:=c xs (g H' s);rw[e] at b;cases b;exact⟨f,rfl⟩⟩
def aRi {a:Addr}{xs:List V}{E:Hp->Hp->Prop}(b:∀H',E H H'->SqL K H' a xs):∀H',E H H'->(Itl K a).stop xs.length H':=λH' s=>⟨xs,b H' s,d8 _⟩
inductive tL (R:Nat->V->Prop):List Nat->List V->Prop
 |nil:tL R [] []
 |cons {i y is ys}:R i y->tL R is ys->tL R (i::is) (y::ys)
theorem tL.snoc (h:tL R is ys)(r:R i y):tL R (is++[i]) (ys++[y]):=by
 induction h with
 |nil=>exact .cons r .nil
 |cons r' _ ih=>exact .cons r' ih
theorem tL.imp (h:tL R is ys)(k:∀i y,R i y->S i y):tL S is ys:=by
 induction h with
 |nil=>exact .nil
 |cons r _ ih=>exact .cons (k _ _ r) ih
theorem tL.len {R:Nat->V->Prop}{is:List Nat}{ys:List V}(h:tL R is ys):is.length=ys.length:=by
 induction h with
 |nil=>rfl
 |cons _ _ ih=>rw[t8,t8,ih]
def aU7 (E:Hp->Hp->Prop)(k:bCm E H)(xs:List V)(p:Nat->Bool)(Rel:Nat->Hp->V->Prop)
  (A:∀{i H1 H2 y},E H H1->E H1 H2->Rel i H1 y->Rel i H2 y) (C:∀{i H1 D ys zs y},H D=none->E H H1->H1 D=some (.lst ys)->Rel i H1 y->Rel i (L2.upd H1 D (.lst zs)) y)
  (At:Nat->L2.St->Prop) (T:L2.St->Prop) (M:T σ0) (hsz:xs.length<=sizeLine)
  (J:It) (S:∀H' i x,E H H'->xs[i]?=some x->J.go i H'/\∀y H2,J.yld i H' y H2->H2=H'/\y=x) (w:∀H',E H H'->J.stop xs.length H')
  (P:∀(i:Nat) (x:V) σ' H' Q',xs[i]?=some x->T σ'->E H H'->(∀σ2,T σ2->At i σ2->Q' σ2 H')->g x σ' H' Q')
  (L:∀(i:Nat) (x:V) σ2,xs[i]?=some x->At i σ2->∀H' R,E H H'->(∀H2,E H' H2->R (p i) H2)->tt σ2 H' R)
  (N:∀(i:Nat) (x:V) σ2,xs[i]?=some x->At i σ2->p i=true->∀H' R,E H H'->(∀y H2,E H' H2->Rel i H2 y->R y H2)->te σ2 H' R)
  (q:∀D H' ys,E H H'->H D=none->H' D=some (.lst ys)->tL (λi y=>Rel i H' y) (sel p 0 (List.range xs.length)) ys->Q (.ref D) H'):pR J H σ0 g tt te Q:=by
 intro D b;refine⟨λi m σ' H' ys=>i<=xs.length/\m=xs.length - i/\T σ'/\E H H'/\H' D=some (.lst ys)/\tL (λi y=>Rel i H' y) (sel p 0 (List.range i)) ys,⟨xs.length,bAE _,rfl,M,k.new _ _ b,aK,.nil⟩,?_⟩;rintro i m σ' H' ys ⟨hi,rfl,hps,sm,hL,hR⟩;refine⟨hL,?_⟩;by_cases f:i<xs.length
 ·right;have o:=b8 f;obtain⟨I,G⟩:=S H' i xs[i] sm o;refine⟨I,λx H2 F=>?_⟩;obtain⟨rfl,rfl⟩:=G x H2 F;have v:sel p 0 (List.range (i+1))=sel p 0 (List.range i)++(if p i then [i] else []):=by rw[List.range_succ,aCz,bAJ,bEA]
  have O:=hR.len;have K:=aH0 p 0 (List.range i);rw[bAJ] at K;refine P i xs[i] σ' _ _ o hps sm fun σ2 l n=>?_;refine L i xs[i] σ2 o n _ _ sm λU s=>?_;have a:=k.trans sm s;have d:=k.keep D _ _ _ b sm hL s;cases u:p i with
  |true=>rw[if_pos rfl];refine N i xs[i] σ2 o n u _ _ a λy W t B=>?_;have c:=k.trans a t;have h:=k.keep D _ _ _ b a d t;refine⟨h,by lia,xs.length - (i+1),by lia,f,rfl,l,k.upd D _ _ b c,aK,?_⟩;rw[v,u];exact tL.snoc (hR.imp λj z r=>C b c h (A a t (A sm s r))) (C b c h B)
  |false=>rw[if_neg (by simp)];refine⟨d,xs.length - (i+1),by lia,f,rfl,l,a,d,?_⟩;rw[v,u];simp only[bBD,if_false,bCV];exact hR.imp λj z r=>A sm s r
 ·left;have e:i=xs.length:=by lia
  subst e;exact⟨w _ sm,q D _ ys sm b hL hR⟩
end
def At1 (σ0:L2.St)(v:V)(σ:L2.St):Prop:=∃l,σ=(σ0.set 0 l).set 0 (some v)
def Ps1 (σ0:L2.St)(σ:L2.St):Prop:=∃l,σ=σ0.set 0 l
def At2 (σ0:L2.St)(a b:V)(σ:L2.St):Prop:=σ=(σ0.set 0 (some a)).set 1 (some b)
def Ps2 (σ0:L2.St)(σ:L2.St):Prop:=∃l m,σ=(σ0.set 0 l).set 1 m
def hg1 {σ0:L2.St}{i:Nat}{x:V}{σ':L2.St}{H':Hp}{Q':L2.St->Hp->Prop}(h:Ps1 σ0 σ')(q:∀σ2,Ps1 σ0 σ2->At1 σ0 x σ2->Q' σ2 H'):cM 0 x σ' H' Q':=by obtain⟨l,rfl⟩:=h;exact q _ ⟨some x,by rw[bCG]⟩ ⟨l,rfl⟩
def hg2 {K:bFP}{c:L2.St}{p:Addr}{a b:V}{σ':L2.St}{H':Hp}{Q':L2.St->Hp->Prop}(d:SqT K H' p [a,b])(h:Ps2 c σ')(q:∀σ2,Ps2 c σ2->At2 c a b σ2->Q' σ2 H'):aNp K 2 (tR (cM 0) (tR (cM 1) aP3)) (.ref p) σ' H' Q':=by
 obtain⟨l,m,rfl⟩:=h;have e:(((c.set 0 l).set 1 m).set 0 (some a)).set 1 (some b)=(c.set 0 (some a)).set 1 (some b):=by rw[List.set_comm _ _ (show (1:Nat)≠0 by decide),bCG,bCG]
 refine⟨p,_,rfl,d,rfl,_,_,rfl,_,_,rfl,rfl,?_⟩;rw[e];exact q _ ⟨some a,some b,rfl⟩ rfl
def pF (xs:List V)(n:Nat):pH xs none (some (n:Int))=xs.take n:=by
 unfold pH;rw[HT.aKt,HT.aPe,List.drop_zero,Nat.sub_zero];by_cases h:n<=xs.length
 ·rw[Nat.min_eq_left h]
 ·rw[Nat.min_eq_right (by lia),bCN,bAV (by lia)]
def xN (xs:List V)(n:Nat):pH xs (some (n:Int)) none=xs.drop n:=by
 unfold pH;rw[HT.aKt,HT.aPe];by_cases h:n<=xs.length
 ·rw[Nat.min_eq_left h];exact bAV (by rw[bBP];lia)
 ·rw[Nat.min_eq_right (by lia),List.drop_length,bER (by lia),bE4]
def bDh (K:bFP):V->Option Int->Option Int->Hp->VK->Prop:=λx lo hi H Q=>∃a xs,x=.ref a/\SqL K H a xs/\∀p H',H p=none->Same H H'->H' p=some (.lst (pH xs lo hi))->Q (.ref p) H'
def aBm:SlR X (bDh X.K):=λb s σ H x v l g n f o Q I k i m d ⟨a,j,e,h,q⟩=>
 aV6 b s σ H x v l g n f o Q I k i m d ⟨a,j,e,h,λp c=>q p _ c (bC c _) aK⟩
end L2
namespace L2
open PySem PySem.Spec PyProof.Rows
inductive Al2 {α β:Type}(R:α->β->Prop):List α->List β->Prop
 |nil:Al2 R [] []
 |cons {a b as bs}:R a b->Al2 R as bs->Al2 R (a::as) (b::bs)
theorem Al2.len {α β:Type}{R:α->β->Prop}{as:List α}{bs:List β}(h:Al2 R as bs):as.length=bs.length:=by
 induction h with
 |nil=>rfl
 |cons _ _ ih=>rw[t8,t8,ih]
theorem Al2.at {α β:Type}{R:α->β->Prop}{as:List α}{bs:List β}(h:Al2 R as bs):∀{j:Nat} {a:α},as[j]?=some a->∃b,bs[j]?=some b/\R a b:=by
 induction h with
 |nil=>intro j a e;simp at e
 |cons r _ ih=>
  intro j a e;cases j with
  |zero=>cases e;exact⟨_,rfl,r⟩
  |succ j=>exact ih (by simpa using e)
def DEq (K:bFP)(H:Hp):Nat->V->V->Prop
 |0,x,y=>jN x=true/\x=y
 |n+1,x,y=>(jN x=true/\x=y)\/∃a b xs ys,x=.ref a/\y=.ref b/\SqT K H a xs/\SqT K H b ys/\Al2 (DEq K H n) xs ys
theorem aEg (h:jN x=true)(d:RelV x v)(c:RelV x u):SeqAt.EqAt A s v u true:=by
 cases x with
 |non=>cases d;cases c;exact bDB _
 |bl b=>cases d;cases c;exact bDB _
 |int i=>obtain⟨t,rfl⟩:=d;obtain⟨a,rfl⟩:=c;have z:=bEJ (A:=A) (s:=s) i t i a;simpa using z
 |str y=>obtain⟨t,rfl⟩:=d;obtain⟨a,rfl⟩:=c;have z:=bDL (A:=A) (s:=s) y t y a;simpa using z
 |_=>cases h
section
variable {X:Cx}{bFT:bFR}{σ:L2.St}{H:Hp}{s:Shared}
def aA8 (I:Inv X bFT σ H s)(e:Vals xs its)(o:Vals ys jts)(h:Al2 (DEq X.K H n) xs ys)
  (q:∀{x y v u},DEq X.K H n x y->RelV x v->RelV y u->SeqAt.EqAt A s v u true):∀(j:Nat) (h1:j<its.toArray.size) (h2:j<jts.toArray.size),SeqAt.EqAt A s its.toArray[j] jts.toArray[j] ((λ_=>true) j):=λj h1 h2=>by
 have r:=e.length;have a:j<xs.length:=by rw[d9] at h1;lia
 obtain⟨y,k,d⟩:=h.at (b8 a);obtain⟨g,b,i⟩:=e.get (b8 a);obtain⟨m,c,l⟩:=o.get k;have f:its.toArray[j]=g:=by rw[bBM];exact (List.getElem?_eq_some_iff.mp b).2
 have p:jts.toArray[j]=m:=by rw[bBM];exact (List.getElem?_eq_some_iff.mp c).2
 rw[f,p];exact q d i l
def iZ (n:Nat):(List.range n).all (λ_=>true)=true:=by rw[bCC];intro _ _;rfl
theorem xK (I:Inv X bFT σ H s):∀(n:Nat) {A:Around} {x y:V} {v u:Value},DEq X.K H n x y->RelV x v->RelV y u->A.units+n<cLine->SeqAt.EqAt A s v u true
 |0,A,x,y,v,u,h,rv,ru,_=>by obtain⟨h,rfl⟩:=h;exact aEg h rv ru
 |n+1,A,x,y,v,u,h,rv,ru,hu=>by
  rcases h with⟨h,rfl⟩|⟨a,b,xs,ys,rfl,rfl,ha,hb,h⟩
  ·exact aEg h rv ru
  cases rv;cases ru;by_cases e:a=b
  ·subst e;exact bDB _
  obtain⟨f,i,m,p⟩:=I.tuple ha;obtain⟨c,g,j,q⟩:=I.tuple hb;refine bFC e ?_;have z:=bFK (A:=A) (e:=λ_=>true) (show s.heap.IsTuple a f.toArray from m) (show s.heap.IsTuple b c.toArray from j) (by lia) (aA8 I i g h λd l k=>xK I n d l k (by show A.units+1+n<cLine;lia));have o:(f.toArray.size == c.toArray.size)=true:=by rw[d9,d9];have:=i.length;have:=g.length;have:=h.len;simp;lia
  rw[iZ,o] at z;exact z
end
section
variable {X:Cx}
def bCv:R2:=λx y H Q=>(∃a b,x=.int a/\y=.int b/\Q (.bl (decide (a<b))) H)\/∃a b:Str,x=.str a/\y=.str b/\Q (.bl (decide (a.cps.toList<b.cps.toList))) H
def aZm:OpR X (compareOp .Lt) bCv:=by
 intro e s σ H x y v u Q I d c h;rcases h with⟨a,b,rfl,rfl,q⟩|⟨a,b,rfl,rfl,q⟩
 ·obtain⟨t,rfl⟩:=d;obtain⟨f,rfl⟩:=c;exact lt_int ⟨.bl _,H,I,rfl,q⟩
 ·obtain⟨t,rfl⟩:=d;obtain⟨f,rfl⟩:=c;exact lt_str ⟨.bl _,H,I,rfl,q⟩
def aVo (K:bFP):V->List V->Hp->VK->Prop:=λx vs H Q=>∃(l:Addr) (ss:List Str) (n:Str) (i:Nat),x=.ref l/\vs=[.str n]/\SqL K H l (ss.map V.str)/\ss.length<=1000/\ss[i]?=some n/\(∀(j:Nat) (m:Str),j<i->ss[j]?=some m->m≠n)/\Q (.int (i:Nat)) H
def aNi (n:Str):Value->Bool
 |.str x _=>x == n
 |_=>false
def aPt:MtR X "list.index" (aVo X.K):=by
 intro U s σ H x vs v us Q I N R h;obtain⟨l,k,n,i,rfl,rfl,W,B,C,A,q⟩:=h;cases N;obtain⟨u,rfl,L⟩:=R.one;obtain⟨t,rfl⟩:=L;obtain⟨a,r,Z,hz⟩:=I.list W;have S:=r.length;rw[j4] at S;obtain⟨⟨T,O,E,P⟩,D,G,M,hd⟩:=id Z.isList;simp only at G hd;subst G hd;have J:=(List.getElem?_eq_some_iff.mp C).1;have b:∀{j:Nat} (e:j<a.length),∃m c,k[j]?=some m/\a[j]=.str m c:=λ{j} e=>by
  have d:j<k.length:=by lia
  obtain⟨w,Y,z⟩:=r.get (show (k.map V.str)[j]?=some (.str k[j]) by rw[t7,b8 d];rfl);obtain⟨c,rfl⟩:=z;exact⟨k[j],c,b8 d,(List.getElem?_eq_some_iff.mp Y).2⟩
 refine call_meets PySem.F.slot_list_index ⟨_,D,rfl⟩ PySem.F.entry_list_index (PySem.F.args_list_index_2 _ _)
  (SeqAt.list_indexAt l a.toArray M O P (.str n t) (aNi n) i (by rw[d9];lia) (by lia) ?_ ?_) ⟨D,λy o=>?_,⟨.int _,H,I.tok _,⟨_,rfl⟩,q⟩⟩
 ·obtain⟨m,c,f,g⟩:=b (j:=i) (by lia);rw[C] at f;cases f;show aNi n a[i]=true;rw[g];show (n == n)=true;simp
 ·intro j e p;obtain⟨m,c,f,g⟩:=b (j:=j) (by simpa using e);show aNi n a[j]=false;rw[g];have:=A j m p f;show (m == n)=false;simpa using this
 ·have o:y∈a:=by simpa using o
  obtain⟨j,e,rfl⟩:=bBE o;obtain⟨m,c,f,g⟩:=b (j:=j) e;rw[g];exact bDL m c n t
end
end L2
namespace L2
open PySem PySem.Spec PyProof.Rows Builtin
section
variable {prog:Program}{w:World}{A:Around}{E:bFQ}{s:Shared}
end
section
variable {X:Cx}
def bCt (K:bFP):List V->Hp->VK->Prop:=λxs H Q=>∃l us,xs=[.ref l,.ty "list"]/\SqL K H l us/\Q (.bl true) H
def aQe:cJ X (.builtin "isinstance") (bCt X.K):=by intro a s σ H m n Q I r h;obtain⟨l,j,rfl,c,q⟩:=h;obtain⟨u,v,rfl,d,b⟩:=r.two;obtain rfl:v=Value.type "list":=b;obtain rfl:u=Value.ref l:=d;obtain⟨i,k,e,_⟩:=I.list c;obtain⟨o,g,f,_⟩:=id e.isList;exact call_isinstance (isinstance_true F.isi_meta_list F.isi_self_list) ⟨⟨o,g,f⟩,⟨.bl true,H,I,rfl,q⟩⟩
end
variable {X:Cx}
end L2
namespace My
open PySem PySem.Spec PyProof.Rows L2
def top (i:Nat):Stmt:=PySem.Challenge.pw_shardask_k66_town_told_stays.main.body.getD i (.Pass ⟨0,0,0,0⟩)
abbrev aAs:Stmt:=top 19
abbrev nD:Stmt:=top 20
abbrev aFb:Stmt:=top 21
abbrev zQ:Stmt:=top 22
abbrev kO:Stmt:=top 23
abbrev wF:Stmt:=top 24
abbrev aCk:Stmt:=top 25
abbrev aEu:Stmt:=top 26
abbrev aAu:Stmt:=top 27
abbrev aEf:Stmt:=top 28
abbrev tV:Stmt:=top 29
abbrev qK:Stmt:=top 30
abbrev aE7:Stmt:=top 31
abbrev aJy:Stmt:=top 32
abbrev tZ:Stmt:=top 33
abbrev aTc:Stmt:=top 34
abbrev aEv:Stmt:=top 36
abbrev aA9:Stmt:=top 38
abbrev aIy:Stmt:=top 42
abbrev uN:Stmt:=top 43
abbrev rN:Stmt:=top 44
abbrev vC:Stmt:=top 45
abbrev uO:Stmt:=top 46
abbrev aCn:Stmt:=top 47
abbrev yP:Stmt:=top 48
abbrev pP:Stmt:=top 49
abbrev aBt:Stmt:=top 50
abbrev aKi:Stmt:=top 51
abbrev zO:Stmt:=top 52
abbrev yE:Stmt:=top 53
abbrev lG:Stmt:=classAt (top 54) 0
abbrev pI:Stmt:=classAt (top 54) 2
abbrev mG:Stmt:=classAt (top 54) 3
abbrev pN:Stmt:=classAt (top 54) 4
abbrev nU:Stmt:=classAt (top 54) 5
abbrev qW:Stmt:=classAt (top 54) 6
abbrev yR:Stmt:=top 56
abbrev yQ:Stmt:=top 57
abbrev vI:Stmt:=top 58
abbrev qZ:Stmt:=top 59
abbrev aCl:Stmt:=top 60
abbrev jW:Stmt:=classAt (top 61) 0
abbrev iW:Stmt:=classAt (top 61) 2
abbrev iD:Stmt:=classAt (top 61) 3
abbrev lF:Stmt:=classAt (top 61) 4
abbrev qD:Stmt:=classAt (top 61) 5
abbrev oV:Stmt:=classAt (top 61) 6
abbrev nJ:Stmt:=classAt (top 61) 7
abbrev pG:Stmt:=classAt (top 61) 8
abbrev dM:Stmt:=classAt (top 61) 9
abbrev nR:Stmt:=classAt (top 61) 10
abbrev mR:Stmt:=classAt (top 61) 11
abbrev mK:Stmt:=classAt (top 61) 12
abbrev pK:Stmt:=classAt (top 61) 14
abbrev zE:Stmt:=top 63
abbrev yX:Stmt:=top 64
abbrev vL:Stmt:=top 65
abbrev oR:Stmt:=top 66
abbrev uY:Stmt:=top 67
abbrev vH:Stmt:=top 68
abbrev zF:Stmt:=top 69
abbrev mH:Stmt:=top 70
abbrev uU:Stmt:=top 71
abbrev rD:Stmt:=top 72
abbrev pD:Stmt:=top 73
abbrev wK:Stmt:=top 74
abbrev uA:Stmt:=top 75
abbrev aU5:Stmt:=top 76
structure Txt (w:World)(K:bFP)(mg:bFS):Prop where
 aW8:mg "ValueError"=none
 aA4:mg "all"=none
 bB4:mg "any"=none
 aZq:mg "bool"=none
 aBu:mg "dict"=none
 aI4:mg "enumerate"=none
 aSm:mg "int"=none
 cB:mg "isinstance"=none
 fK:mg "len"=none
 wZ:mg "list"=none
 bDb:mg "max"=none
 kI:mg "range"=none
 aSd:mg "set"=none
 kZ:mg "sorted"=none
 aYi:mg "str"=none
 iU:mg "tuple"=none
 aYt:mg "zip"=none
 jR:∃a,mg "QUESTION_WORDS"=some (.ref a)/\∀H,SqT K H a [.str "and",.str "by",.str "count",.str "down",.str "first",.str "group",.str "join",.str "keep",.str "least",.str "most",.str "named",.str "on",.str "sum",.str "table",.str "up",.str "where",.str "with"]
 aEz:∃u,mg "LETTERS"=some u/\RelV (.str "abcdefghijklmnopqrstuvwxyz") u
 aGq:∃a,mg "KINDS"=some (.ref a)/\∀H,SqT K H a [.str "number",.str "word"]
 aA2:∃u,mg "MOST_LETTERS"=some u/\RelV (.int 8) u
 aCv:∃u,mg "MOST_COLUMNS"=some u/\RelV (.int 8) u
 aIu:∃u,mg "WORD_BASE"=some u/\RelV (.int 27) u
 aD2:∃u,mg "MOST_HOUSES"=some u/\RelV (.int 6) u
 zR:∃u,mg "MOST_CUTS"=some u/\RelV (.int 8) u
 zM:∃f o,(∃u,mg "is_column"=some u/\RelV (.ref f) u)/\K.lookup f=some o/\o.cls=.type "function"
 aM8:Dn K mg "is_whole" aAs ["thing"]
 vJ:Dn K mg "is_number_below" nD ["thing","many"]
 aQk:Dn K mg "is_word" aFb ["thing"]
 aJ0:Dn K mg "is_one_of" zQ ["thing","texts"]
 tX:Dn K mg "is_tuple_of" kO ["thing","least","most","is_part"]
 aGr:Dn K mg "are_unlike" wF ["names"]
 aNc:Dn K mg "names_of" aCk ["head"]
 aQg:Dn K mg "is_name" aEu ["thing"]
 aN5:Dn K mg "is_value" aAu ["thing"]
 aP2:Dn K mg "kind_of" aEf ["value"]
 aDt:Dn K mg "is_value_of" tV ["thing","kind"]
 aH9:Dn K mg "is_column" qK ["thing"]
 aQv:Dn K mg "is_head" aE7 ["thing"]
 aU8:Dn K mg "is_row" aJy ["head","thing"]
 aDu:Dn K mg "word_number" tZ ["word"]
 bA9:Dn K mg "home" aTc ["value","houses"]
 aP8:Dn K mg "kind_in" aEv ["head","name"]
 aMz:Dn K mg "place_of" aA9 ["head","name"]
 aVf:Dn K mg "is_cut" aIy ["thing","houses"]
 aN2:Dn K mg "are_cuts" uN ["thing","kind","houses"]
 aB8:Dn K mg "is_column_in" rN ["head","thing"]
 aHk:Dn K mg "is_placing" vC ["thing","head","houses"]
 aNl:Dn K mg "are_rows" uO ["thing","head"]
 aN4:Dn K mg "is_table" aCn ["thing","houses"]
 aK5:Dn K mg "need_town" yP ["houses","tables"]
 zZ:Dn K mg "placed_tables" pP ["houses","tables"]
 aNj:Dn K mg "table_in" aBt ["placed","name"]
 aTy:Dn K mg "cut_of" aKi ["cuts","value"]
 aJh:Dn K mg "stands_at" zO ["head","placing","row","house","houses"]
 aQl:Dn K mg "rows_at" yE ["table","house","houses"]
 aKv:Dn K mg "with_rows" yR ["table","rows"]
 aIz:Dn K mg "with_cuts" yQ ["table","cuts"]
 aHq:Dn K mg "may_cut_at" vI ["table","low"]
 aJo:Dn K mg "span_rows" qZ ["table","number"]
 aLo:Dn K mg "is_above" aCl ["row","mark"]
 aJ3:Dn K mg "_law_seed" zE ["_law_script"]
 aIl:Dn K mg "_law_next" yX ["_law_state","_law_many"]
 aGs:Dn K mg "_law_words" vL []
 aHi:Dn K mg "_law_names" oR ["_law_state","_law_many"]
 aGj:Dn K mg "_law_great" uY ["_law_state"]
 aHj:Dn K mg "_law_value" vH ["_law_state","_law_kind"]
 aIa:Dn K mg "_law_head" zF ["_law_state","_law_names_here"]
 aBg:Dn K mg "_law_placing" mH ["_law_state","_law_head_here","_law_houses"]
 aMq:Dn K mg "_law_row" uU ["_law_state","_law_head_here"]
 aIb:Dn K mg "_law_town" rD ["_law_state","_law_names_here","_law_most"]
 aGa:Dn K mg "_law_about" pD ["_law_town_here","_law_houses"]
 aF0:Dn K mg "_law_spoil" wK ["_law_town_here"]
 aDn:Dn K mg "_law_change" uA ["_law_state","_law_store","_law_tables","_law_name","_law_houses"]
 bDl:Dn K mg "law" aU5 ["_law_script"]
 bA4:∃C,aSq K mg "Town" C/\eQ K C "__init__" "Town.__init__" lG ["self","houses","tables"]/\eQ K C "heads" "Town.heads" pI ["self"]/\eQ K C "placing" "Town.placing" mG ["self","name"]/\eQ K C "whole" "Town.whole" pN ["self","name"]/\eQ K C "tables" "Town.tables" nU ["self"]/\eQ K C "part" "Town.part" qW ["self","name","house"]/\bR K C "placed"/\bR K C "house_count"
 aXb:∃C,aSq K mg "Store" C/\eQ K C "__init__" "Store.__init__" jW ["self","houses","tables"]/\eQ K C "cut_table" "Store.cut_table" iW ["self","name"]/\eQ K C "need_still" "Store.need_still" iD ["self","name"]/\eQ K C "move_of" "Store.move_of" lF ["self","name"]/\eQ K C "put" "Store.put" qD ["self","name","row"]/\eQ K C "drop" "Store.drop" oV ["self","name","row"]/\eQ K C "split" "Store.split" nJ ["self","name","low"]/\eQ K C "lend" "Store.lend" pG ["self","name","number","house"]/\eQ K C "rows_to_come" "Store.rows_to_come" dM ["self","name"]/\eQ K C "carry" "Store.carry" nR ["self","name","many"]/\eQ K C "settle" "Store.settle" mR ["self","name"]/\eQ K C "moving" "Store.moving" mK ["self","name"]/\eQ K C "town" "Store.town" pK ["self"]/\bR K C "placed"/\bR K C "house_count"/\bR K C "moves"
abbrev abc:Str:="abcdefghijklmnopqrstuvwxyz"
abbrev words:List V:=[.str "and",.str "by",.str "count",.str "down",.str "first",.str "group",.str "join",.str "keep",.str "least",.str "most",.str "named",.str "on",.str "sum",.str "table",.str "up",.str "where",.str "with"]
def Th (K:bFP)(H:Hp)(v:V):Prop:=(∃x,v=.str x/\x.length<=1000)\/(∃i,v=.int i)\/(∃b,v=.bl b)\/∃k,Rk K H v k
theorem Th.same {K:bFP}{H H':Hp}{v:V}(e:Same H H')(h:Th K H v):Th K H' v:=by
 rcases h with h|h|h|⟨k,h⟩
 ·exact .inl h
 ·exact .inr (.inl h)
 ·exact .inr (.inr (.inl h))
 ·exact .inr (.inr (.inr ⟨k,h.same e⟩))
def aWr:V->String->Bool
 |.int _,T=>T == "int"
 |.str _,T=>T == "str"
 |.bl _,T=>T == "int" || T == "bool"
 |_,_=>false
def isS:V->Bool
 |.str _=>true
 |_=>false
def whole:V->Bool
 |.int _=>true
 |_=>false
def wR {K:bFP}{H:Hp}{v:V}{T:String}{Q:VK}(c:Th K H v)(a:T = "int"\/T = "bool"\/T = "str")(q:Q (.bl (aWr v T)) H):bCf [v,.ty T] H Q\/aYl K [v,.ty T] H Q:=by
 rcases c with⟨x,rfl,_⟩|⟨i,rfl⟩|⟨b,rfl⟩|⟨k,h⟩
 ·refine .inl ⟨_,_,_,rfl,?_,q⟩;rcases a with rfl|rfl|rfl <;> simp[aL7,aWr]
 ·refine .inl ⟨_,_,_,rfl,?_,q⟩;rcases a with rfl|rfl|rfl <;> simp[aL7,aWr]
 ·refine .inl ⟨_,_,_,rfl,?_,q⟩;rcases a with rfl|rfl|rfl <;> simp[aL7,aWr]
 ·refine .inr ⟨_,_,_,rfl,h,a,?_⟩;cases h <;> exact q
def inA (y:Str):Bool:=!(Builtin.Str.occurrences abc y 0 abc.length 1).isEmpty
def allIn (x:Str):Bool:=((List.range x.cps.size).map λi=>inA (sgn x i)).all id
def tG (l:Nat):V->Bool
 |.str x=>decide (l<=x.length) && (decide (x.length<=8) && allIn x)
 |_=>false
def nameB (v:V):Bool:=tG 1 v && !inV v words
def aKe (v:V):Bool:=whole v || tG 0 v
def oG (K:bFP):Sp:=λvs H Q _=>∃v,vs=[v]/\Th K H v/\Q (.bl (whole v)) H
def aDr (K:bFP)(f:V->Bool):Sp:=λvs H Q _=>∃v,vs=[v]/\Th K H v/\∀H',Same H H'->Q (.bl (f v)) H'
def aOa (K:bFP):Sp:=λvs H Q _=>∃v,vs=[v]/\Th K H v/\Q (.str (if whole v then "number" else "word")) H
inductive bBo (K:bFP)(vs:List V)(H:Hp)(Q:VK)(E_:XK):Prop
 |mk (a:Addr) (ns:List Int) (_:vs=[.ref a]) (_:SqL K H a (ns.map V.int)) (_:ns.length<=63) (_:∀H',Q (.bl true) H')
def bBy {K:bFP}{H:Hp}{a:Addr}{c:List Int}(h:c.length<=63)(b:SqL K H a (c.map V.int)):bBo K [.ref a] H (λv _=>v=.bl true) λ_ _ _=>False:=
 ⟨a,c,rfl,b,h,λ_=>rfl⟩
def aIo:aM ["thing"] ["thing"] (aJ aAs):=by trivial
def uJ:aM ["thing","many"] ["thing","many"] (aJ nD):=by trivial
def aM2:aM ["thing"] ["thing"] (aJ aFb):=by trivial
def aF9:aM ["thing","texts"] ["thing","texts"] (aJ zQ):=by trivial
def rW:aM ["thing","least","most","is_part"] ["thing","least","most","is_part"] (aJ kO):=by trivial
def aDg:aM ["names"] ["names"] (aJ wF):=by trivial
def aLg:aM ["head"] ["head"] (aJ aCk):=by trivial
def aNk:aM ["thing"] ["thing"] (aJ aEu):=by trivial
def aK0:aM ["thing"] ["thing"] (aJ aAu):=by trivial
def aN3:aM ["value"] ["value"] (aJ aEf):=by trivial
def aC8:aM ["thing","kind"] ["thing","kind"] (aJ tV):=by trivial
def aH1:aM ["thing"] ["thing"] (aJ qK):=by trivial
def aM6:aM ["thing"] ["thing"] (aJ aE7):=by trivial
def aRq:aM ["head","thing"] ["head","thing"] (aJ aJy):=by trivial
def iQ:aM ["word","number","letter"] ["word"] (aJ tZ):=by trivial
def aPr:aM ["value","houses","number"] ["value","houses"] (aJ aTc):=by trivial
def aA6:aM ["head","name","column"] ["head","name"] (aJ aEv):=by trivial
def aK3:aM ["head","name"] ["head","name"] (aJ aA9):=by trivial
def aP0:aM ["thing","houses"] ["thing","houses"] (aJ aIy):=by trivial
def yS:aM ["thing","kind","houses","lows"] ["thing","kind","houses"] (aJ uN):=by trivial
def aAg:aM ["head","thing"] ["head","thing"] (aJ rN):=by trivial
def aDs:aM ["thing","head","houses"] ["thing","head","houses"] (aJ vC):=by trivial
def aK9:aM ["thing","head"] ["thing","head"] (aJ uO):=by trivial
def aK4:aM ["thing","houses"] ["thing","houses"] (aJ aCn):=by trivial
def pJ:aM ["houses","tables","name","table"] ["houses","tables"] (aJ yP):=by trivial
def yM:aM ["houses","tables"] ["houses","tables"] (aJ pP):=by trivial
def aK1:aM ["placed","name"] ["placed","name"] (aJ aBt):=by trivial
def sO:aM ["cuts","value","number","place"] ["cuts","value"] (aJ aKi):=by trivial
def oU:aM ["head","placing","row","house","houses","value","cuts"] ["head","placing","row","house","houses"] (aJ zO):=by trivial
def aNx:aM ["table","house","houses"] ["table","house","houses"] (aJ yE):=by trivial
def yC:aM ["self","houses","tables"] ["self","houses","tables"] (aJ lG):=by trivial
def aD1:aM ["self"] ["self"] (aJ pI):=by trivial
def zY:aM ["self","name"] ["self","name"] (aJ mG):=by trivial
def aDc:aM ["self","name"] ["self","name"] (aJ pN):=by trivial
def aBa:aM ["self"] ["self"] (aJ nU):=by trivial
def aGf:aM ["self","name","house"] ["self","name","house"] (aJ qW):=by trivial
def aHm:aM ["table","rows"] ["table","rows"] (aJ yR):=by trivial
def aGu:aM ["table","cuts"] ["table","cuts"] (aJ yQ):=by trivial
def nO:aM ["table","low","column","cuts"] ["table","low"] (aJ vI):=by trivial
def vM:aM ["table","number","place"] ["table","number"] (aJ qZ):=by trivial
def aJt:aM ["row","mark"] ["row","mark"] (aJ aCl):=by trivial
def wV:aM ["self","houses","tables"] ["self","houses","tables"] (aJ jW):=by trivial
def mQ:aM ["self","name","table"] ["self","name"] (aJ iW):=by trivial
def tE:aM ["self","name"] ["self","name"] (aJ iD):=by trivial
def xV:aM ["self","name"] ["self","name"] (aJ lF):=by trivial
def vK:aM ["self","name","row","table"] ["self","name","row"] (aJ qD):=by trivial
def nM:aM ["self","name","row","table","rows"] ["self","name","row"] (aJ oV):=by trivial
def fX:aM ["self","name","low","table","cuts","number","behind"] ["self","name","low"] (aJ nJ):=by trivial
def tY:aM ["self","name","number","house","cuts"] ["self","name","number","house"] (aJ pG):=by trivial
def jO:aM ["self","name","move"] ["self","name"] (aJ dM):=by trivial
def iM:aM ["self","name","many","move","waiting","unlike"] ["self","name","many"] (aJ nR):=by trivial
def fC:aM ["self","name","table","move","number","cuts"] ["self","name"] (aJ mR):=by trivial
def zX:aM ["self","name"] ["self","name"] (aJ mK):=by trivial
def aDz:aM ["self"] ["self"] (aJ pK):=by trivial
def jE:aM ["_law_script","_law_seed_here","_law_k","_law_cell"] ["_law_script"] (aJ zE):=by trivial
def aGh:aM ["_law_state","_law_many"] ["_law_state","_law_many"] (aJ yX):=by trivial
def tQ:aM ["_law_words_here"] [] (aJ vL):=by trivial
def cP:aM ["_law_state","_law_many","_law_small","_law_odd","_law_base","_law_k","_law_at","_law_names_here"] ["_law_state","_law_many"] (aJ oR):=by trivial
def jZ:aM ["_law_state","_law_number","_law_k"] ["_law_state"] (aJ uY):=by trivial
def gM:aM ["_law_state","_law_kind","_law_way","_law_word","_law_k"] ["_law_state","_law_kind"] (aJ vH):=by trivial
def iY:aM ["_law_state","_law_names_here","_law_start","_law_head_here","_law_k","_law_kind"] ["_law_state","_law_names_here"] (aJ zF):=by trivial
def dC:aM ["_law_state","_law_head_here","_law_houses","_law_way","_law_name","_law_kind","_law_lows","_law_cuts","_law_low"] ["_law_state","_law_head_here","_law_houses"] (aJ mH):=by trivial
def aJn:aM ["_law_state","_law_head_here"] ["_law_state","_law_head_here"] (aJ uU):=by trivial
def eY:aM ["_law_state","_law_names_here","_law_most","_law_houses","_law_tables","_law_k","_law_head_here","_law_placing_here","_law_rows"] ["_law_state","_law_names_here","_law_most"] (aJ rD):=by trivial
def jY:aM ["_law_town_here","_law_houses","_law_found","_law_name","_law_stood"] ["_law_town_here","_law_houses"] (aJ pD):=by trivial
def tU:aM ["_law_town_here","_law_name"] ["_law_town_here"] (aJ wK):=by trivial
def eF:aM ["_law_state","_law_store","_law_tables","_law_name","_law_houses","_law_head_here","_law_placing_here","_law_rows","_law_cuts","_law_low"] ["_law_state","_law_store","_law_tables","_law_name","_law_houses"] (aJ uA):=by trivial
def iT:aM ["_law_script","_law_state","_law_houses","_law_tables","_law_store","_law_town_here","_law_due","_law_row_here","_law_other","_law_many","_law_cell","_law_name"] ["_law_script"] (aJ aU5):=by trivial
section
variable {P:Program}{w:World}{K:bFP}{mg:bFS}{base:Heap}
def aKh (T:Txt w K mg):Ok P w K mg base 1 "is_whole" ["thing"] (oG K):=by
 refine Ok.ofV T.aM8 aIo (by trivial) (λf d A c s H e Q E g h=>?_)
 obtain⟨v,rfl,a,q⟩:=h;refine⟨_,(aH (aO (jL (aP (wL.or sJ) (by rfl) T.cB bW (aB (vv 0) (aB (fZ (v:=.ty "int") (by rfl) T.aSm aM1 rfl) aA))) (jD (aZ1 (aP (wL.or sJ) (by rfl) T.cB bW (aB (vv 0) (aB (fZ (v:=.ty "bool") (by rfl) T.aZq aXs rfl) aA)))))))),?_⟩;refine⟨_,rfl,wR a (.inl rfl) ⟨_,rfl,?_⟩⟩;rcases id a with⟨x,rfl,_⟩|⟨i,rfl⟩|⟨b,rfl⟩|⟨k,h⟩
 ·exact cC q
 ·exact fG ⟨_,rfl,wR a (.inr (.inl rfl)) ⟨_,rfl,q⟩⟩
 ·exact fG ⟨_,rfl,wR a (.inr (.inl rfl)) ⟨_,rfl,q⟩⟩
 ·cases h <;> exact cC q
def aU3 (x:Str):(((List.range x.cps.size).map λi=>V.str (sgn x i)).map λv=>match v with|.str y=>V.bl (inA y)|_=>.bl false)=(((List.range x.cps.size).map λi=>inA (sgn x i)).map V.bl):=by rw[bBJ,bBJ];rfl
def aLu (T:Txt w K mg):Ok P w K mg base 1 "is_word" ["thing"] (aDr K (tG 0)):=by
 refine Ok.ofV T.aQk aM2 (by trivial) (λf t A g s H I Q E J h=>?_)
 obtain⟨v,rfl,m,q⟩:=h;refine⟨_,(aC (cA (VW.pt (iR (cT (cL (aP (wL.or sJ) (by rfl) T.cB bW (aB (vv 0) (aB (fZ (v:=.ty "str") (by rfl) T.aYi aTq rfl) aA))))) (gK (bQ aYj (aP wX (by rfl) T.fK dF (aB (vv 0) aA)) (qJ (by rfl) T.aA2) (bL _))))) (aH (aO lK)) bF) (aH (aO (aP (mO rfl) (by rfl) T.aA4 uE (aB (dJ (N:=["sign"]) (by trivial) (gU (by decide +kernel)) rfl (aVi (vv 0)) (λM G u L=>⟨(aX (i:=0) (show (["sign"]:List Str).Nodup from by decide +kernel) rfl (Or.inl rfl)),eX,(dB aQ1 (vv 0) (qJ (by rfl) T.aEz) (by with_unfolding_all rfl))⟩)) aA))))),?_⟩;refine⟨_,rfl,wR m (.inr (.inr rfl)) ⟨_,rfl,?_⟩⟩;have d:isS v=false->Q (.bl false) H:=λe=>by
  have z:tG 0 v=false:=by cases v <;> first|rfl|cases e
  rw[<-z];exact q H (Same.refl H)
 rcases id m with⟨x,rfl,j⟩|⟨i,rfl⟩|⟨b,rfl⟩|⟨k,h⟩
 ·refine cC ⟨_,rfl,_,rfl,small j,_,_,rfl,rfl,_,rfl,?_⟩;refine aMh (λc=>?_) (λc=>?_)
  ·have B:(8:Int)<x.length:=of_decide_eq_true c;have z:tG 0 (.str x)=false:=by show (decide (0<=x.length) && (decide (x.length<=8) && allIn x))=false;rw[v9 (p:=x.length<=8) (by lia)];simp
   rw[<-z];exact q H (Same.refl H)
  ·have B:¬ (8:Int)<x.length:=of_decide_eq_false (Bool.eq_false_iff.mpr c);dsimp only[rY,tO,tCB,gY];refine aP1 ((List.range x.cps.size).map λi=>V.str (sgn x i)) (λv=>match v with|.str y=>V.bl (inA y)|_=>.bl false) [none] oE ?_
    (λR r=>aZw (z:=x) (λF o=>⟨_,rfl,o⟩) R r) (λv a u R l C r=>?_) rfl λD n=>?_
   ·rw[j4,bAJ];exact small j
   ·obtain⟨i,_,rfl⟩:=List.mem_map.mp a;exact⟨_,rfl,_,_,rfl,rfl,r⟩
   ·refine⟨D,(List.range x.cps.size).map λi=>inA (sgn x i),rfl,SqL.of (by rw[aK,aU3]),?_⟩;have z:tG 0 (.str x)=allIn x:=by show (decide (0<=x.length) && (decide (x.length<=8) && allIn x))=allIn x;rw[m9 (p:=x.length<=8) (by lia)];simp
    show Q (.bl (allIn x)) _;rw[<-z];exact q _ (bC n _)
 ·exact fG (d rfl)
 ·exact fG (d rfl)
 ·cases h <;> exact fG (d rfl)
theorem aHu (h:tG l v=true):∃x,v=.str x/\l<=x.length/\x.length<=8/\allIn x=true:=by
 cases v with
 |str x=>have h:(decide (l<=x.length) && (decide (x.length<=8) && allIn x))=true:=h;rw[bAQ,bAQ] at h;exact⟨x,rfl,of_decide_eq_true h.1,of_decide_eq_true h.2.1,h.2.2⟩
 |_=>cases h
def aFh:x=("":Str)↔x.length=0:=by
 constructor
 ·rintro rfl;decide +kernel
 ·intro h;obtain⟨a⟩:=x;have h:a.size=0:=h;rw[Array.size_eq_zero_iff] at h;subst h;decide +kernel
def aC6:words.all jN=true:=rfl
def aMs (T:Txt w K mg)(G:Ok P w K mg base 1 "is_word" ["thing"] (aDr K (tG 0))):Ok P w K mg base 2 "is_name" ["thing"] (aDr K nameB):=by
 refine Ok.ofV T.aQg aNk (by trivial) (λf r A i s H D Q E t h=>?_)
 obtain⟨v,rfl,m,q⟩:=h;obtain⟨l,B,k⟩:=T.jR;have y:∃u,mg "QUESTION_WORDS"=some u/\RelV (.ref l) u:=⟨_,B,rfl⟩;refine⟨_,(aH (aO (jL (aN (G.mono (by decide)) t (by rfl) (aB (vv 0) aA)) (jL (dB aEq (vv 0) bN (bL _)) (jD (dB pM (vv 0) (qJ (by rfl) y) (by with_unfolding_all rfl))))))),?_⟩;refine⟨_,rfl,_,rfl,m,λa b=>⟨_,rfl,?_⟩⟩;refine aMh (λc=>?_) (λc=>?_)
 ·obtain⟨x,rfl,_,g,d⟩:=aHu c;refine⟨_,rfl,rfl,_,rfl,?_⟩;by_cases e:x.length=0
  ·have n:=aFh.mpr e;subst n;refine cC ?_;have z:nameB (.str "")=false:=by decide +kernel
   rw[<-z];exact q a b
  ·have C:¬ (V.str x=V.str ""):=λz=>e (aFh.mp (V.str.inj z));have o:(!decide (V.str x=V.str ""))=true:=by rw[v9 C];rfl
   rw[o];refine fG ⟨_,rfl,l,words,rfl,.inr (k _),rfl,aC6,?_⟩;have z:nameB (.str x)=!inV (.str x) words:=by show ((decide (1<=x.length) && (decide (x.length<=8) && allIn x)) && !inV (.str x) words)=!inV (.str x) words;rw[m9 (p:=1<=x.length) (by lia),m9 g,d];rfl
   show Q (.bl (!inV (.str x) words)) a;rw[<-z];exact q a b
 ·have z:nameB v=false:=by
   show (tG 1 v && !inV v words)=false;cases j:tG 1 v with
   |false=>rfl
   |true=>obtain⟨x,rfl,F,g,d⟩:=aHu j;refine absurd ?_ c;show (decide (0<=x.length) && (decide (x.length<=8) && allIn x))=true;rw[m9 g,d,m9 (bAE _)];rfl
  rw[<-z];exact q a b
theorem aJc (T:Txt w K mg)(k:Ok P w K mg base 1 "is_whole" ["thing"] (oG K))(l:Ok P w K mg base 1 "is_word" ["thing"] (aDr K (tG 0))) :
  Ok P w K mg base 2 "is_value" ["thing"] (aDr K aKe):=by
 refine Ok.ofV T.aN5 aK0 (by trivial) (λf i A a s H j Q E d h=>?_)
 obtain⟨v,rfl,b,q⟩:=h;refine⟨_,(aH (aO (aYq (aN (k.mono (by decide)) d (by rfl) (aB (vv 0) aA)) (jD (aN (l.mono (by decide)) d (by rfl) (aB (vv 0) aA)))))),?_⟩;refine⟨_,rfl,_,rfl,b,_,rfl,?_⟩;cases c:whole v with
 |true=>
  refine fG ?_;have z:aKe v=true:=by show (whole v || tG 0 v)=true;rw[c];rfl
  rw[<-z];exact q H (Same.refl H)
 |false=>
  refine cC ⟨_,rfl,_,rfl,b,λg e=>?_⟩;have z:aKe v=tG 0 v:=by show (whole v || tG 0 v)=tG 0 v;rw[c];rfl
  rw[<-z];exact q g e
theorem aNf (T:Txt w K mg)(i:Ok P w K mg base 1 "is_whole" ["thing"] (oG K)):Ok P w K mg base 2 "kind_of" ["value"] (aOa K):=by
 refine Ok.ofV T.aP2 aN3 (by trivial) (λf d A a s H g Q E e h=>?_)
 obtain⟨v,rfl,c,q⟩:=h;refine⟨_,(aH (aO (aKa (cL (aN (i.mono (by decide)) e (by rfl) (aB (vv 0) aA))) bN bN))),?_⟩;refine⟨_,rfl,_,rfl,c,_,rfl,?_⟩;cases b:whole v with
 |true=>rw[b] at q;exact fG q
 |false=>rw[b] at q;exact cC q
def at0 (x:V)(r:List V):atI (x::r) 0=some x:=by unfold atI ixN;simp
def at1 (x y:V)(r:List V):atI (x::y::r) 1=some y:=by unfold atI ixN;simp only[t8];rw[if_pos (by lia),if_pos (by lia)];rfl
theorem Tk.same (e:Same H H')(h:Tk K H v b):Tk K H' v b:=by
 cases h with
 |int=>exact .int
 |str=>exact .str
 |bl=>exact .bl
 |non=>exact .non
 |lst q=>exact .lst (e.seq q)
 |dct q=>exact .dct (e _ _ q)
 |tup q=>exact .tup (e.bB q)
structure Tells (R:Hp->V->Bool->Prop):Prop where
 same:∀{H H' v b},Same H H'->R H v b->R H' v b
def aZ6 (R:Hp->V->Bool->Prop):Sp:=λvs H Q _=>∃v b,vs=[v]/\R H v b/\∀H',Same H H'->Q (.bl b) H'
inductive aEt (K:bFP)(R:Hp->V->Bool->Prop)(lo hi:Nat)(H:Hp):V->Bool->Prop
 |no {v}:Tk K H v false->aEt K R lo hi H v false
 |len {a xs}:SqT K H a xs->¬ (lo<=xs.length/\xs.length<=hi)->aEt K R lo hi H (.ref a) false
 |yes {a xs} (f:V->Bool):SqT K H a xs->lo<=xs.length->xs.length<=hi->(∀x∈xs,R H x (f x))->aEt K R lo hi H (.ref a) (xs.all f)
def aNs (K:bFP):Sp:=λvs H Q _=>∃v a xs,vs=[v,.ref a]/\Th K H v/\SqT K H a xs/\xs.all jN=true/\Q (.bl (isS v && inV v xs)) H
def aJ4 (P:Program)(w:World)(K:bFP)(mg:bFS)(base:Heap)(k:Nat):Sp:=λvs H Q _=>∃v lo hi f ps R b,vs=[v,.int (lo:Nat),.int (hi:Nat),.ref f]/\hi<=1000/\Held P w K mg base k f ps (aZ6 R)/\Tells R/\aEt K R lo hi H v b/\∀H',Same H H'->Q (.bl b) H'
def aFs (K:bFP):Sp:=λvs H Q _=>∃a ss,vs=[.ref a]/\SqL K H a (ss.map V.str)/\ss.length<=1000/\∀H',Same H H'->Q (.bl (decide ((oY ss).length=ss.length))) H'
def aGi (T:Txt w K mg):Ok P w K mg base 1 "is_one_of" ["thing","texts"] (aNs K):=by
 refine Ok.ofV T.aJ0 aF9 (by trivial) (λf l A c s H m Q E n h=>?_)
 obtain⟨v,a,g,rfl,d,j,e,q⟩:=h;refine⟨_,(aH (aO (jL (aP (wL.or sJ) (by rfl) T.cB bW (aB (vv 0) (aB (fZ (v:=.ty "str") (by rfl) T.aYi aTq rfl) aA))) (jD (dB xR (vv 0) (vv 1) (by with_unfolding_all rfl)))))),?_⟩;refine⟨_,rfl,wR d (.inr (.inr rfl)) ⟨_,rfl,?_⟩⟩;rcases id d with⟨x,rfl,_⟩|⟨i,rfl⟩|⟨b,rfl⟩|⟨k,h⟩
 ·exact fG ⟨_,rfl,_,rfl,a,g,rfl,.inr j,rfl,e,q⟩
 ·exact cC q
 ·exact cC q
 ·cases h <;> exact cC q
theorem aAv (T:Txt w K mg):Ok P w K mg base (k+1) "is_tuple_of" ["thing","least","most","is_part"] (aJ4 P w K mg base k):=by
 refine Ok.ofV T.tX rW (by trivial) (λf G A n s H V Q E L h=>?_)
 obtain⟨v,u,p,g,J,R,b,rfl,o,M,O,C,q⟩:=h;refine⟨_,(aC (cA (VW.pt (iR (cT (cL (aP jQ (by rfl) T.cB bW (aB (vv 0) (aB (fZ (v:=.ty "tuple") (by rfl) T.iU fU rfl) aA))))) (gK (cT (aC0 aCc aCc (vv 1) (aP bH (by rfl) T.fK dF (aB (vv 0) aA)) (vv 2)))))) (aH (aO lK)) bF) (aH (aO (aP (mO rfl) (by rfl) T.aA4 uE (aB (dJ (N:=["part","is_part"]) (by trivial) (lJ (aJ kO) rfl (by decide +kernel)) rfl (qU (vv 0)) (λX U m W=>⟨(aX (i:=0) (show (["part","is_part"]:List Str).Nodup from by decide +kernel) rfl (Or.inl rfl)),eX,(aSc (P:=P) (w:=w) (K:=K) (mg:=mg) (base:=base) L (vv 1) (aB (vv 0) aA))⟩)) aA))))),?_⟩;cases C with
 |no h=>exact⟨_,rfl,_,_,rfl,h,_,rfl,fG (q H (Same.refl H))⟩
 |@len a xs ha hn=>refine⟨_,rfl,_,_,rfl,.tup ha,_,rfl,cC ?_⟩;refine⟨_,rfl,_,rfl,_,_,rfl,.inr ha,_,_,rfl,rfl,_,rfl,?_⟩;refine aMh (λc=>⟨_,rfl,_,_,rfl,rfl,_,rfl,?_⟩) (λc=>⟨_,rfl,fG (q H (Same.refl H))⟩);have Y:(u:Int)<=xs.length:=of_decide_eq_true c;have e:decide ((xs.length:Int)<=(p:Int))=false:=v9 λz=>hn ⟨by lia,by lia⟩;rw[e];exact fG (q H (Same.refl H))
 |@yes a xs t ha h1 h2 hx=>
  refine⟨_,rfl,_,_,rfl,.tup ha,_,rfl,cC ?_⟩;refine⟨_,rfl,_,rfl,_,_,rfl,.inr ha,_,_,rfl,rfl,_,rfl,?_⟩;have I:decide ((u:Int)<=(xs.length:Int))=true:=m9 (by lia);have F:decide ((xs.length:Int)<=(p:Int))=true:=m9 (by lia);rw[I];refine fG ⟨_,rfl,_,_,rfl,rfl,_,rfl,?_⟩;rw[F];refine cC ?_;dsimp only[rY,tO,tCB,gY];refine aFd xs (λx=>.bl (t x)) [none,some (.ref g)] ?_ (small (by lia)) (λR r=>aLj ha (λS B=>⟨_,rfl,B⟩) R r) (λx j m R l d r=>?_) rfl λD m d y=>?_
  ·exact sE 3 (by decide +kernel) rfl rfl (by trivial)
  ·exact⟨_,rfl,g,J,_,rfl,M,_,rfl,x,t x,rfl,O.same d (hx x j),r⟩
  ·refine⟨D,xs.map t,rfl,SqL.of (by rw[y,bBJ];rfl),?_⟩;rw[List.all_map];exact q m d
def aDl (T:Txt w K mg):Ok P w K mg base 1 "are_unlike" ["names"] (aFs K):=by
 refine Ok.ofV T.aGr aDg (by trivial) (λf j A c s H k Q E l h=>?_)
 obtain⟨a,b,rfl,g,i,q⟩:=h;refine⟨_,(aH (aO (dB gO (aP aNo (by rfl) T.fK dF (aB (cH (aMi rfl) (by rfl) T.aSd aN0 (aB (vv 0) aA)) aA)) (aP bH (by rfl) T.fK dF (aB (vv 0) aA)) (bL _)))),?_⟩;refine⟨_,rfl,a,b,rfl,g,i,λD d=>⟨D,b,rfl,aK,_,rfl,a,_,rfl,.inl ((bC d _).seq g),rfl,?_⟩⟩;have e:decide (V.int ((oY b).length:Nat)=V.int (b.map V.str).length)=decide ((oY b).length=b.length):=by
  rw[j4];by_cases z:(oY b).length=b.length
  ·rw[z];simp
  ·rw[v9 z,v9 (by intro y;apply z;have:=V.int.inj y;lia)]
 rw[e];exact q _ (bC d _)
abbrev kinds:List V:=[.str "number",.str "word"]
inductive aF5 (K:bFP)(H:Hp):V->Bool->Prop
 |no {v}:Tk K H v false->aF5 K H v false
 |len {a xs}:SqT K H a xs->xs.length≠2->aF5 K H (.ref a) false
 |two {a x y}:SqT K H a [x,y]->Th K H x->Th K H y->aF5 K H (.ref a) (nameB x && (isS y && inV y kinds))
theorem aRg (K:bFP):Tells (aF5 K):=⟨λe h=>by
 cases h with
 |no q=>exact .no (Tk.same e q)
 |len q n=>exact .len (e.bB q) n
 |two q x y=>exact .two (e.bB q) (x.same e) (y.same e)⟩
theorem aH7 (T:Txt w K mg)(r:Ok P w K mg base 2 "is_name" ["thing"] (aDr K nameB))(t:Ok P w K mg base 1 "is_one_of" ["thing","texts"] (aNs K)):Ok P w K mg base 3 "is_column" ["thing"] (aZ6 (aF5 K)):=by
 refine Ok.ofV T.aH9 aH1 (by trivial) (λf p A i s H z Q E m h=>?_)
 obtain⟨v,b,rfl,o,q⟩:=h;obtain⟨l,n,j⟩:=T.aGq;have g:∃u,mg "KINDS"=some u/\RelV (.ref l) u:=⟨_,n,rfl⟩;refine⟨_,(aC (cA (VW.pt (iR (cT (cL (aP jQ (by rfl) T.cB bW (aB (vv 0) (aB (fZ (v:=.ty "tuple") (by rfl) T.iU fU rfl) aA))))) (gK (bQ aEq (aP bH (by rfl) T.fK dF (aB (vv 0) aA)) aF (bL _))))) (aH (aO lK)) bF) (aH (aO (jL (aN (r.mono (by decide)) m (by rfl) (aB (aU aY (vv 0) aF (λ_ _=>rfl)) aA)) (jD (aN (t.mono (by decide)) m (by rfl) (aB (aU aY (vv 0) aF (λ_ _=>rfl)) (aB (qJ (by rfl) g) aA)))))))),?_⟩;cases o with
 |no h=>exact⟨_,rfl,_,_,rfl,h,_,rfl,fG (q H (Same.refl H))⟩
 |@len a xs ha c=>
  refine⟨_,rfl,_,_,rfl,.tup ha,_,rfl,cC ?_⟩;refine⟨_,rfl,_,_,rfl,.inr ha,rfl,_,rfl,?_⟩;have e:(!decide (V.int (xs.length:Nat)=V.int 2))=true:=by rw[v9 (by intro y;apply c;have:=V.int.inj y;lia)];rfl
  rw[e];exact fG (q H (Same.refl H))
 |@two a x y ha hx hy=>
  refine⟨_,rfl,_,_,rfl,.tup ha,_,rfl,cC ?_⟩;refine⟨_,rfl,_,_,rfl,.inr ha,rfl,_,rfl,cC ?_⟩;refine⟨_,rfl,a,_,0,_,rfl,rfl,ha,at0 _ _,x,rfl,hx,λk d=>⟨_,rfl,?_⟩⟩;cases c:nameB x with
  |false=>rw[c] at q;exact cC (q k d)
  |true=>rw[c] at q;refine fG ⟨_,rfl,a,_,1,_,rfl,rfl,d.bB ha,at1 _ _ _,y,l,kinds,rfl,hy.same d,j _,rfl,q k d⟩
def kindS (v:V):Str:=if whole v then "number" else "word"
def aGk (K:bFP):Sp:=λvs H Q _=>∃v k,vs=[v,.str k]/\Th K H v/\∀H',Same H H'->Q (.bl (aKe v && decide (kindS v=k))) H'
theorem aBe (T:Txt w K mg)(l:Ok P w K mg base 2 "is_value" ["thing"] (aDr K aKe))(j:Ok P w K mg base 2 "kind_of" ["value"] (aOa K)):Ok P w K mg base 3 "is_value_of" ["thing","kind"] (aGk K):=by
 refine Ok.ofV T.aDt aC8 (by trivial) (λf i A c s H m Q E g h=>?_)
 obtain⟨v,k,rfl,d,q⟩:=h;refine⟨_,(aH (aO (jL (aN (l.mono (by decide)) g (by rfl) (aB (vv 0) aA)) (jD (dB gO (aN (j.mono (by decide)) g (by rfl) (aB (vv 0) aA)) (vv 1) (bL _)))))),?_⟩;refine⟨_,rfl,v,rfl,d,λe b=>⟨_,rfl,?_⟩⟩;cases a:aKe v with
 |false=>rw[a] at q;exact cC (q e b)
 |true=>rw[a] at q;refine fG ⟨_,rfl,v,rfl,d.same b,_,rfl,rfl,?_⟩;have z:decide (V.str (if whole v then "number" else "word")=V.str k)=decide (kindS v=k):=decide_eq_decide.mpr ⟨λy=>V.str.inj y,λy=>congrArg V.str y⟩;rw[z];exact q e b
def at2 (x y z:V)(r:List V):atI (x::y::z::r) 2=some z:=by unfold atI ixN;simp only[t8];rw[if_pos (by lia),if_pos (by lia)];rfl
def aNb (h:x.length<=8):Th K H (.str x):=.inl ⟨x,rfl,by lia⟩
def Nm (x:Str):Prop:=nameB (.str x)=true
def aVm (h:nameB (.str x)=true):x.length<=8:=by have h:(tG 1 (.str x) && !inV (.str x) words)=true:=h;rw[bAQ] at h;obtain⟨y,e,_,a,_⟩:=aHu h.1;cases e;exact a
def Nm.th (h:Nm x):Th K H (.str x):=aNb (aVm h)
inductive bY {α β:Type}(R:α->β->Prop):List α->List β->Prop
 |nil:bY R [] []
 |cons {a b as bs}:R a b->bY R as bs->bY R (a::as) (b::bs)
theorem bY.len {α β:Type}{R:α->β->Prop}{as:List α}{bs:List β}(h:bY R as bs):as.length=bs.length:=by
 induction h with
 |nil=>rfl
 |cons _ _ ih=>rw[t8,t8,ih]
theorem bY.imp {α β:Type}{R S:α->β->Prop}{as:List α}{bs:List β}(h:bY R as bs)(k:∀a b,R a b->S a b):bY S as bs:=by
 induction h with
 |nil=>exact .nil
 |cons r _ ih=>exact .cons (k _ _ r) ih
theorem bY.mem {α β:Type}{R:α->β->Prop}{as:List α}{bs:List β}(h:bY R as bs){a:α}(m:a∈as):∃b,b∈bs/\R a b:=by
 induction h with
 |nil=>cases m
 |cons r _ ih=>
  rcases List.mem_cons.mp m with rfl|m
  ·exact⟨_,j7 ..,r⟩
  ·obtain⟨b,c,q⟩:=ih m;exact⟨b,j5 _ c,q⟩
theorem bY.app {α β:Type}{R:α->β->Prop}{as cs:List α}{bs ds:List β}(h:bY R as bs)(k:bY R cs ds):bY R (as++cs) (bs++ds):=by
 induction h with
 |nil=>exact k
 |cons r _ ih=>exact .cons r ih
def rK {α:Type}(K:bFP)(H:Hp)(R:V->α->Prop)(v:V)(xs:List α):Prop:=∃a vs,v=.ref a/\SqT K H a vs/\bY R vs xs
def rK.same {α:Type}{K:bFP}{H H':Hp}{R S:V->α->Prop}{v:V}{xs:List α}(e:Same H H')(k:∀a b,R a b->S a b)(h:rK K H R v xs):rK K H' S v xs:=by obtain⟨a,c,rfl,d,f⟩:=h;exact⟨a,c,rfl,e.bB d,f.imp k⟩
abbrev Hdr:=List (Str × Str)
def IsC (K:bFP)(H:Hp)(v:V)(c:Str × Str):Prop:=∃p,v=.ref p/\SqT K H p [.str c.1,.str c.2]
def IsC.same (e:Same H H')(h:IsC K H v c):IsC K H' v c:=by obtain⟨p,rfl,a⟩:=h;exact⟨p,rfl,e.bB a⟩
def lV (K:bFP)(H:Hp)(v:V)(hd:Hdr):Prop:=rK K H (IsC K H) v hd
theorem lV.same (e:Same H H')(h:lV K H v hd):lV K H' v hd:=rK.same e (λ_ _ q=>q.same e) h
def look (hd:Hdr)(n:Str):Option Str:=(hd.find? λc=>decide (c.1=n)).map (·.2)
theorem aHs {n k:Str}:∀{hd:Hdr},look hd n=some k->∃i,hd[i]?=some (n,k)/\∀(j:Nat) (c:Str × Str),j<i->hd[j]?=some c->c.1≠n
 |[],h=>by cases h
 |(m,j)::r,h=>by
  unfold look at h;rw[bBZ] at h;by_cases e:m=n
  ·rw[m9 e] at h;have g:=bAM h;subst e g;exact⟨0,rfl,λj c b=>absurd b (bDQ _)⟩
  ·rw[v9 e] at h;obtain⟨i,l,f⟩:=aHs h;refine⟨i+1,by simpa using l,λa c b d=>?_⟩;cases a with
   |zero=>cases d;exact e
   |succ a=>exact f a c (by lia) (by simpa using d)
theorem bM {α β:Type}{R:α->β->Prop}:∀{as:List α} {bs:List β},bY R as bs->∀{i:Nat} {a:α},as[i]?=some a->∃b,bs[i]?=some b/\R a b
 |_,_,.cons r t,0,_,h1=>by cases h1;exact⟨_,rfl,r⟩
 |_,_,.cons r t,i+1,a,h1=>by obtain⟨b,e,q⟩:=bM t (by simpa using h1);exact⟨b,by simpa using e,q⟩
def aLy (K:bFP):Sp:=λvs H Q _=>∃vh n hd k,vs=[vh,.str n]/\lV K H vh hd/\look hd n=some k/\Q (.str k) H
def aMy (T:Txt w K mg):Ok P w K mg base 1 "kind_in" ["head","name"] (aLy K):=by
 refine Ok.ofV T.aP8 aA6 (by trivial) (λf C A g s H G Q E I h=>?_)
 obtain⟨F,n,hd,k,rfl,⟨a,r,rfl,o,m⟩,B,q⟩:=h;refine⟨_,(aC (fQ PassesOwn.never rfl (qU (vv 0)) (aX (i:=2) aA6.nd rfl (by trivial)) (aH (cA (bQ gO (aU (cO (K:=K)) (vv 2) aF (λ_ _=>rfl)) (vv 1) (bL _)) (aH (aO (aU (cO (K:=K)) (vv 2) aF (λ_ _=>rfl)))) bF))) (aH dO)),?_⟩;obtain⟨d,t,y⟩:=aHs B;have D:d<r.length:=by rw[m.len];exact (List.getElem?_eq_some_iff.mp t).1
 refine⟨_,rfl,a,rfl,⟨_,o⟩,aV9 (xs:=r) (λi σ b=>b=H/\i<=d/\∃l,σ=[some (.ref a),some (.str n),l]) ⟨rfl,bAE _,_,rfl⟩ (λi σ b _ ⟨e,_⟩=>by rw[e];exact o) ?_ ?_⟩
 ·rintro i x σ b hx ⟨rfl,hi,l,rfl⟩;obtain⟨c,j,p,rfl,u⟩:=bM m hx;refine⟨_,rfl,p,_,0,_,rfl,rfl,u,at0 _ _,_,rfl,rfl,_,rfl,?_⟩;by_cases e:i=d
  ·subst e;rw[t] at j;cases j;rw[m9 rfl];exact fG ⟨_,rfl,p,_,1,_,rfl,rfl,u,at1 _ _ _,q⟩
  ·have v:=y i c (by lia) j;rw[v9 (by intro z;exact v (V.str.inj z))];exact cC ⟨rfl,by lia,_,rfl⟩
 ·rintro σ b ⟨rfl,hi,_⟩;lia
theorem aUx {α:Type}{f:α->V}{xs:List α}{i:Nat}{y:V}(h:(xs.map f)[i]?=some y):∃x,xs[i]?=some x/\y=f x:=by
 rw[t7] at h;cases e:xs[i]? with
 |none=>rw[e] at h;cases h
 |some x=>rw[e] at h;cases h;exact⟨x,rfl,rfl⟩
def Good (hd:Hdr):Prop:=(hd.map (·.1)).Nodup/\1<=hd.length/\hd.length<=8
def aGn (K:bFP):Sp:=λvs H Q _=>∃v hd,vs=[v]/\lV K H v hd/\hd.length<=1000/\∀D H',Same H H'->H' D=some (.lst ((hd.map (·.1)).map V.str))->Q (.ref D) H'
def aH2 (T:Txt w K mg):Ok P w K mg base 1 "names_of" ["head"] (aGn K):=by
 refine Ok.ofV T.aNc aLg (by trivial) (λf u A e s H L Q E O h=>?_)
 obtain⟨v,hd,rfl,⟨a,z,rfl,t,g⟩,J,q⟩:=h;refine⟨_,(aH (aO (dJ (N:=["column"]) (by trivial) (gU (by decide +kernel)) rfl (qU (vv 0)) (λU I b M=>⟨(aX (i:=0) (show (["column"]:List Str).Nodup from by decide +kernel) rfl (Or.inl rfl)),eX,(aU (cO (K:=K)) (vv 0) aF (λ_ _=>rfl))⟩)))),?_⟩;have S:=g.len;refine aWi z ((hd.map (·.1)).map V.str) (by rw[j4,j4];lia) [none] oE (small (by lia)) (λR r=>aLj t (λG m=>⟨_,rfl,m⟩) R r) (λi x y o C b R l d r=>?_) rfl λD b d k=>q D b d k;obtain⟨c,F,p,rfl,B⟩:=bM g o;obtain⟨n,j,rfl⟩:=aUx C;rw[t7,F] at j;cases j;exact⟨_,rfl,p,_,0,_,rfl,rfl,d.bB B,at0 _ _,r b (Same.refl b)⟩
def plc:Hdr->Str->Nat
 |[],_=>0
 |c::r,n=>if c.1=n then 0 else plc r n+1
theorem aNm:∀{hd:Hdr},look hd n=some k->hd[plc hd n]?=some (n,k)/\∀j c,j<plc hd n->hd[j]?=some c->c.1≠n
 |[],h=>by cases h
 |(m,q)::r,h=>by
  unfold look at h;rw[bBZ] at h;by_cases e:m=n
  ·rw[m9 e] at h;have f:=bAM h;subst e f;have z:plc ((m,q)::r) m=0:=if_pos rfl;rw[z];exact⟨rfl,λj c a=>absurd a (bDQ _)⟩
  ·rw[v9 e] at h;obtain⟨g,d⟩:=aNm h;have z:plc ((m,q)::r) n=plc r n+1:=if_neg e;rw[z];refine⟨by simpa using g,λj c a b=>?_⟩;cases j with
   |zero=>cases b;exact e
   |succ j=>exact d j c (by lia) (by simpa using b)
def aBv (K:bFP):Sp:=λvs H Q _=>∃vh n hd k,vs=[vh,.str n]/\lV K H vh hd/\hd.length<=1000/\look hd n=some k/\∀H',Same H H'->Q (.int (plc hd n:Nat)) H'
def yU (T:Txt w K mg)(B:Ok P w K mg base 1 "names_of" ["head"] (aGn K)):Ok P w K mg base 2 "place_of" ["head","name"] (aBv K):=by
 refine Ok.ofV T.aMz aK3 (by trivial) (λf p A a s H z Q E t h=>?_)
 obtain⟨g,n,hd,k,rfl,x,b,i,q⟩:=h;obtain⟨u,v⟩:=aNm i;refine⟨_,(aH (aO (rE PySem.F.plainAttrs_list PySem.F.slot_list_index PySem.F.type_list_index aPt (aN (B.mono (by decide)) t (by rfl) (aB (vv 0) aA)) (aB (vv 1) aA)))),?_⟩;refine⟨_,rfl,g,hd,rfl,x,b,λD o l d=>?_⟩;refine⟨.inl ⟨rfl,_,SqL.of d⟩,_,rfl,D,hd.map (·.1),n,plc hd n,rfl,rfl,SqL.of d,by rw[j4];exact b,by rw[t7,u];rfl,λj m r e=>?_,q o l⟩;rw[t7] at e;obtain⟨c,y,rfl⟩:=Option.map_eq_some_iff.mp e;exact v j c r y
def aO9 {n:Str}{ss:List Str}:inV (.str n) (ss.map V.str)=decide (n∈ss):=by
 unfold inV;rw[bCU,bEB,decide_eq_true_eq];constructor
 ·rintro⟨v,d,e⟩;obtain⟨z,b,rfl⟩:=List.mem_map.mp d;have a:(z == n)=true:=e;have c:z=n:=by simpa using a
  rw[<-c];exact b
 ·intro h;refine⟨.str n,List.mem_map.mpr ⟨n,h,rfl⟩,?_⟩;show (n == n)=true;simp
def aJg {ss:List Str}:(ss.map V.str).all jN=true:=by rw[bCC];intro v a;obtain⟨z,_,rfl⟩:=List.mem_map.mp a;rfl
def aOd {z:Str}{j:Int}(h0:0<=j)(h1:j<z.length):∃c,z.cps[j.toNat]?=some c:=
 ⟨_,j9 (by show j.toNat<z.length;lia)⟩
def aG9 (x y:Str):(x++y).length=x.length+y.length:=by show (x.cps++y.cps).size=_;rw[Array.size_append];rfl
def at_of {xs:List V}{j:Int}(h0:0<=j)(h1:j<xs.length):∃v,atI xs j=some v/\v∈xs:=by
 have a:j.toNat<xs.length:=by lia
 refine⟨xs[j.toNat],?_,bAP a⟩;have b:=dI (b8 a);rw[show ((j.toNat:Nat):Int)=j by lia] at b;exact b
def Lets (x:Str):Prop:=∀c∈x.cps,97<=c/\c<=122
def aWe:∀k:_root_.Fin 26,inA ⟨#[97+k.val]⟩=true:=by decide +kernel
def aZ5 (h1:97<=c)(h2:c<=122):inA ⟨#[c]⟩=true:=by have:=aWe ⟨c - 97,by lia⟩;simp only at this;rw[show 97+(c - 97)=c by lia] at this;exact this
def allIn_of (h:Lets x):allIn x=true:=by
 unfold allIn;rw[bCC];intro b d;obtain⟨i,f,rfl⟩:=List.mem_map.mp d;have a:=List.mem_range.mp f;have e:x.cps.getD i 0=x.cps[i]:=by rw[v8,j9 a];rfl
 obtain⟨g,c⟩:=h _ (bES a);unfold sgn;rw[e];exact aZ5 g c
def Lets.add (d:Lets x)(b:Lets y):Lets (x++y):=λc a=>by
 have a:=a;rcases Array.mem_append.mp a with h|h
 ·exact d c h
 ·exact b c h
def Lets.one {z:Str}{i c:Nat}(a:Lets z)(h:z.cps[i]?=some c):Lets ⟨#[c]⟩:=λd hd=>by
 have hd:=hd;have e:d=c:=by simpa using hd
 subst e;exact a _ (bDS h)
def aIx:Lets abc:=by
 have h:(abc.cps.all λc=>decide (97<=c) && decide (c<=122))=true:=by decide +kernel
 intro c a;have:=(Array.all_eq_true_iff_forall_mem.mp h) c a;rw[bAQ] at this;exact⟨of_decide_eq_true this.1,of_decide_eq_true this.2⟩
inductive bV:Str->V->Prop
 |num {i}:bV "number" (.int i)
 |wrd {x}:Lets x->x.length<=8->bV "word" (.str x)
def val (c:Nat):Int:=(c:Int) - 96
def num (x:Str):Nat->Int
 |0=>0
 |n+1=>num x n * 27+val (x.cps.getD n 0)
def aW1:∀k:_root_.Fin 26,Builtin.Str.occurrences abc ⟨#[97+k.val]⟩ 0 abc.length 1=[k.val]:=by decide +kernel
def occ (h1:97<=c)(h2:c<=122):Builtin.Str.occurrences abc ⟨#[c]⟩ 0 abc.length 1=[c - 97]:=by
 have h:=aW1 ⟨c - 97,by lia⟩;have e:97+(c - 97)=c:=by lia
 simpa [e] using h
def Vl (v:V):Prop:=(∃i,v=.int i)\/∃x,v=.str x/\Lets x/\x.length<=8
def nm:V->Int
 |.int i=>i
 |.str x=>num x x.cps.size
 |_=>0
def Lets.at (h:Lets x)(hi:i<x.cps.size):97<=x.cps.getD i 0/\x.cps.getD i 0<=122:=by rw[v8,j9 hi];exact h _ (bES hi)
def Vl.th (h:Vl v):Th K H v:=by
 rcases h with⟨i,rfl⟩|⟨x,rfl,_,h8⟩
 ·exact .inr (.inl ⟨i,rfl⟩)
 ·exact .inl ⟨x,rfl,by lia⟩
def aPn:Sp:=λvs H Q _=>∃x,vs=[.str x]/\Lets x/\Q (.int (num x x.cps.size)) H
def aOx:Sp:=λvs H Q _=>∃v h,vs=[v,.int h]/\Vl v/\0<h/\Q (.int (nm v % h)) H
def aAy (T:Txt w K mg):Ok P w K mg base 1 "word_number" ["word"] aPn:=by
 refine Ok.ofV T.aDu iQ (by trivial) (λf g A b s H k Q E m h=>?_)
 obtain⟨x,rfl,c,q⟩:=h;refine⟨_,(aC (bA (i:=1) iQ.nd rfl (by trivial) aF) (aC (fQ PassesOwn.never rfl (aVi (vv 0)) (aX (i:=2) iQ.nd rfl (by trivial)) (aH (bA (i:=1) iQ.nd rfl (by trivial) (bO eE (bO eE (bO xY (vv 1) (qJ (by rfl) T.aIu)) (rE PySem.F.plainAttrs_str PySem.F.slot_str_index PySem.F.type_str_index aSs (qJ (by rfl) T.aEz) (aB (vv 2) aA))) aF)))) (aH (aO (vv 1))))),?_⟩;refine⟨_,rfl,_,rfl,aW2 (λi σ a=>a=H/\∃l,σ=[some (.str x),some (.int (num x i)),l]) ⟨rfl,_,rfl⟩ ?_ ?_⟩
 ·rintro i σ a hi ⟨rfl,l,rfl⟩;obtain⟨j,d⟩:=c.at hi;refine⟨_,rfl,_,_,rfl,rfl,.inr ⟨by decide,by decide⟩,rfl,_,rfl,_,_,_,_,rfl,rfl,occ j d,_,_,rfl,rfl,_,_,rfl,rfl,rfl,some (.str (sgn x i)),?_⟩;have e:num x i * 27+((x.cps.getD i 0 - 97:Nat):Int)+1=num x (i+1):=by show num x i * 27+((x.cps.getD i 0 - 97:Nat):Int)+1=num x i * 27+((x.cps.getD i 0:Int) - 96);lia
  exact congrArg (λn=>[some (V.str x),some (V.int n),some (V.str (sgn x i))]) e
 ·rintro σ a ⟨rfl,l,rfl⟩;exact⟨_,rfl,q⟩
def aX4 (T:Txt w K mg)(l:Ok P w K mg base 1 "is_whole" ["thing"] (oG K))(g:Ok P w K mg base 1 "word_number" ["word"] aPn):Ok P w K mg base 2 "home" ["value","houses"] aOx:=by
 refine Ok.ofV T.bA9 aPr (by trivial) (λf j A a s H k Q E c h=>?_)
 obtain⟨v,h,rfl,b,e,q⟩:=h;refine⟨_,(aC (bA (i:=2) aPr.nd rfl (by trivial) (aKa (cL (aN (l.mono (by decide)) c (by rfl) (aB (vv 0) aA))) (vv 0) (aN (g.mono (by decide)) c (by rfl) (aB (vv 0) aA)))) (aH (aO (bO oO (vv 2) (vv 1))))),?_⟩;have d:=b.th (K:=K) (H:=H);rcases b with⟨i,rfl⟩|⟨x,rfl,hx,h8⟩
 ·exact⟨_,rfl,_,rfl,d,_,rfl,fG ⟨_,rfl,_,rfl,_,rfl,_,_,rfl,rfl,e,q⟩⟩
 ·exact⟨_,rfl,_,rfl,d,_,rfl,cC ⟨_,rfl,_,rfl,hx,_,rfl,_,rfl,_,_,rfl,rfl,e,q⟩⟩
inductive wW (vs:List V)(H:Hp)(Q:VK)(E_:XK):Prop
 |mk (i m:Int) (_:vs=[.int i,.int m]) (_:Q (.bl (decide (0<=i) && decide (i<m))) H)
theorem uV (T:Txt w K mg)(g:Ok P w K mg base 1 "is_whole" ["thing"] (oG K)):Ok P w K mg base 2 "is_number_below" ["thing","many"] wW:=by
 refine Ok.ofV T.vJ uJ (by trivial) (λf c A a s H e Q E d h=>?_)
 obtain⟨i,m,rfl,q⟩:=h;refine⟨_,(aH (aO (jL (aN (g.mono (by decide)) d (by rfl) (aB (vv 0) aA)) (jD (aR5 aCc aUl aF (vv 0) (vv 1)))))),?_⟩;refine⟨_,rfl,_,rfl,.inr (.inl ⟨i,rfl⟩),_,rfl,fG ?_⟩;refine⟨_,rfl,_,_,rfl,rfl,_,rfl,?_⟩;cases b:decide (0<=i) with
 |false=>rw[b] at q;exact cC q
 |true=>rw[b] at q;exact fG ⟨_,rfl,_,_,rfl,rfl,q⟩
end
end My
namespace PySem.W
open PySem PySem.Calls PyProof.Rows
def KasT.ev {α:Type}(f:Nat->Nat->Bool):KasT α->α
 |.ret a=>a
 |.ask i j k=>(k (f i j)).ev f
inductive KasT.Low {α:Type}(n:Nat)(P:α->Prop):KasT α->Prop
 |ret {a}:P a->KasT.Low n P (.ret a)
 |ask {i j k}:i<n->j<n->(∀b,KasT.Low n P (k b))->KasT.Low n P (.ask i j k)
theorem KasT.Low.bind {α β:Type}{n:Nat}{P:α->Prop}{R:β->Prop}{t:KasT α}{f:α->KasT β}(h:t.Low n P)(c:∀a,P a->(f a).Low n R):(t.bind f).Low n R:=by
 induction h with
 |ret h=>exact c _ h
 |ask a b _ ih=>exact .ask a b ih
theorem KasT.Low.of {α:Type}{n:Nat}{P:α->Prop}{t:KasT α}(h:t.Low n P)(f:Nat->Nat->Bool):P (t.ev f):=by
 induction h with
 |ret h=>exact h
 |@ask i j k a b _ ih=>exact ih (f i j)
theorem aZ8 {α:Type}{n:Nat}{P:α->Prop}{f:Nat->Nat->Bool}{cmp:Nat->Nat->(Bool->Shared->Prop)->Shared->Prop}{s:Shared}(c:∀i j C,i<n->j<n->C (f i j) s->cmp i j C s){t:KasT α}(h:t.Low n P){Q:α->Shared->Prop}(q:Q (t.ev f) s):t.kasWp cmp Q s:=by
 induction h with
 |ret h=>exact q
 |@ask i j k a b _ ih=>exact c i j _ a b (ih (f i j) q)
def Pl (n:Nat)(p:Array Nat):Prop:=p.size=n/\∀k,p.getD k 0<n
def Pl.perm (h:Pl n p)(e:q.Perm p)(g:0<n):Pl n q:=by
 refine⟨e.size_eq.trans h.1,λk=>?_⟩;by_cases b:k<q.size
 ·have f:q[k]∈p.toList:=(Array.perm_iff_toList_perm.mp e).mem_iff.mp (by simp);obtain⟨j,c,d⟩:=bBE f;have a:j<p.size:=by simpa using c
  have:=h.2 j;rw[v8,j9 a,bBQ] at this;rw[v8,j9 b,bBQ,<-d];simpa using this
 ·rw[v8,bCH (by lia)];exact g
theorem aG2 (h:Pl n p):∀f m,(kas_asc p f m).Low n (λr=>m<=r/\r<=m+f)
 |0,m=>.ret ⟨d8 _,d8 _⟩
 |f+1,m=>by
  refine .ask (h.2 _) (h.2 _) λc=>?_;by_cases e:c=true
  ·rw[if_pos e];exact .ret ⟨d8 _,by lia⟩
  ·rw[if_neg e];have z:=aG2 h f (m+1);generalize kas_asc p f (m+1)=t at z
   induction z with
   |ret q=>exact .ret ⟨by lia,by lia⟩
   |ask a b _ ih=>exact .ask a b ih
theorem vA (a:0<n):∀f p m q,Pl n p->(kas_desc f p m q).Low n (λr=>Pl n r.1)
 |0,p,m,q,h=>.ret h
 |f+1,p,m,q,h=>by
  refine .ask (h.2 _) (h.2 _) λc=>?_;by_cases e:c=true
  ·rw[if_pos e];by_cases b:q > 0
   ·rw[if_pos b];exact vA a f _ _ _ (h.perm (mirror_perm _ _ _ _) a)
   ·rw[if_neg b];exact vA a f _ _ _ h
  ·rw[if_neg e];refine .ask (h.2 _) (h.2 _) λd=>?_;by_cases g:d=true
   ·rw[if_pos g];exact .ret h
   ·rw[if_neg g];exact vA a f _ _ _ h
def aEd {n:Nat}(b:0<n){p:Array Nat}(h:Pl n p)(m nrem:Nat):(kas_tail3 m nrem p).Low n (λr=>Pl n r.2):=by have a:Pl n (kas_rev p 0 m):=h.perm (mirror_perm _ _ _ _) b;exact (aG2 a _ _).bind λ_ _=>.ret a
def wU {n:Nat}(a:0<n){p:Array Nat}(h:Pl n p)(m nrem:Nat):(kas_descPart m nrem p).Low n (λr=>Pl n r.2):=by
 refine (vA a _ _ _ _ h).bind λr b=>?_;by_cases e:r.2.2 > 0
 ·rw[if_pos e];exact aEd a (b.perm (mirror_perm _ _ _ _) a) _ _
 ·rw[if_neg e];exact aEd a b _ _
def aPy {n:Nat}(d:0<n){p:Array Nat}(h:Pl n p)(f:Nat):(kas_count f p).Low n (λr=>Pl n r.2):=by
 refine (aG2 h _ _).bind λm _=>?_;by_cases e:(m == f)=true
 ·rw[if_pos e];exact .ret h
 ·rw[if_neg e];by_cases a:m > 1
  ·rw[if_pos a];refine .ask (h.2 _) (h.2 _) λc=>?_;by_cases b:c=true
   ·rw[if_pos b];exact .ret h
   ·rw[if_neg b];exact wU d (h.perm (mirror_perm _ _ _ _) d) _ _
  ·rw[if_neg a];exact wU d h _ _
theorem xT (h:Pl n p)(k:Nat):∀f l r,(kas_place p k f l r).Low n (λ_=>True)
 |0,l,r=>.ret trivial
 |f+1,l,r=>by
  unfold kas_place;by_cases e:l ≥ r
  ·rw[if_pos e];exact .ret trivial
  ·rw[if_neg e];refine .ask (h.2 _) (h.2 _) λc=>?_;by_cases a:c=true
   ·rw[if_pos a];exact xT h k f _ _
   ·rw[if_neg a];exact xT h k f _ _
theorem aOi {n:Nat}(a:0<n):∀(f:Nat) (p:Array Nat) (k:Nat),Pl n p->(kas_bin f p k).Low n (Pl n)
 |0,p,k,h=>.ret h
 |f+1,p,k,h=>(xT h k k 0 k).bind λl _=>aOi a f _ _ (h.perm (bubble_perm _ _ _) a)
def aS6 (a:0<n):Pl n (List.toArray (List.range n)):=by
 refine⟨by simp,λk=>?_⟩;rw[v8,bDT];by_cases h:k<n
 ·rw[bCJ h];exact h
 ·rw[bAF (by simpa using h)];exact a
def wO {n:Nat}(a:0<n):(kas_sort n).Low n (Pl n):=by
 refine (aPy a (aS6 a) n).bind λr b=>?_;by_cases e:r.1<n
 ·rw[if_pos e];exact aOi a _ _ _ b
 ·rw[if_neg e];exact .ret b
def eG (n:Nat)(f:Nat->Nat->Bool):List Nat:=if n<2 then List.range n else ((kas_sort n).ev f).toList
def sV (n:Nat)(f:Nat->Nat->Bool):(eG n f).length=n:=by
 unfold eG;by_cases h:n<2
 ·rw[if_pos h,bAJ]
 ·rw[if_neg h,v7];exact ((wO (by lia)).of f).1
def oH (h:i∈eG n f):i<n:=by
 unfold eG at h;by_cases b:n<2
 ·rw[if_pos b] at h;exact List.mem_range.mp h
 ·rw[if_neg b] at h;have z:=(wO (n:=n) (by lia)).of f;obtain⟨j,c,e⟩:=bBE h;have a:j<((kas_sort n).ev f).size:=by simpa using c
  have:=z.2 j;rw[v8,j9 a,bBQ] at this;rw[<-e];simpa using this
section
variable {prog:Program}{w:World}{A:Around}{E:bFQ}{s:Shared}{f:Nat->Nat->Bool}
def pU (y:s.heap.get? a=some (seqObj "list" vs.toArray n))(N:vs.length<64)
  (F:2<=vs.length->∀h',(∀b o,b≠a->s.heap.get? b=some o->h'.get? b=some o)->∃κ,(∀(Q:SortKind->Shared->Prop),Q κ { s with heap:=h' }->wpAny (model prog w) A (keyKind' vs.toArray) Q (λ_ _=>False) { s with heap:=h' })/\∀i j (C:Bool->Shared->Prop),i<vs.length->j<vs.length->C (f i j) { s with heap:=h' }->kas_ask prog w A κ vs i j C { s with heap:=h' })
  (h:P (.done (.ret .none)) { s with heap:=sortedHeap s.heap a vs (List.toArray ((eG vs.length f).map λi=>vs.getD i Value.none)) }) :
  wpAny (model prog w) A (Builtin.«list.sort» ⟨[.ref a],[]⟩) P E s:=by
 rw[list_sort_plain];have G:a<s.heap.objs.size:=j8 y;refine b7 (listItems_at y rfl ?_);refine b7 (listUpdate_at y rfl ?_ (by rw[d9,sizeLine_eq];lia) (bAE _));obtain⟨D,m⟩:∃D,(s.heap.update a (Obj.mapSeq λ_=>#[])).get? a=some (seqObj "list" #[] D):=⟨_,get?_update_seq y (λ_=>#[])⟩;refine b7 (seqEpoch_at m rfl ?_);refine b7 (bEQ ?_ (by show vs.length<=_;rw[sizeLine_eq];lia));refine b7 (bE5 ?_ (bAE _));refine bAS ?_;have c:(((s.heap.update a (Obj.mapSeq λ_=>#[])).push (seqObj "tuple" vs.toArray 0)).push (seqObj "list" #[] 0)).get? a=some (seqObj "list" #[] D):=by rw[bET _ _ _ (by rw[size_push',Heap.size_update];exact t6 (bBA G)),bET _ _ _ (by rw[Heap.size_update];exact t6 G)];exact m
 have v:∀b o,b≠a->s.heap.get? b=some o->(((s.heap.update a (Obj.mapSeq λ_=>(#[]:Array Value))).push (seqObj "tuple" vs.toArray 0)).push (seqObj "list" #[] 0)).get? b=some o:=λb o J q=>by refine c7 _ (c7 _ ?_);rw[Heap.get?_update_ne _ _ _ _ J];exact q
 show wpAny (model prog w) A _ P E { s with heap:=((s.heap.update a (Obj.mapSeq λ_=>#[])).push (seqObj "tuple" vs.toArray 0)).push (seqObj "list" #[] 0) };dsimp only;have l:vs.toArray.size=vs.length:=by simp
 by_cases k:vs.toArray.size<2
 ·rw[if_pos k,if_pos k];refine b7 (d7 ?_);rw[StateT.run_pure];refine b7 (d7 ?_);dsimp only;refine b7 (seqEpoch_at c rfl ?_);refine b7 (listUpdate_at c rfl ?_ (hsz2:=by rw[Array.size_map];show (pairsOf vs).size<=_;rw[pairsOf_size,sizeLine_eq];lia));simp only[bne_self_eq_false,bBD,if_false];refine d7 ?_;have e:((arrOf (SortSt.mk' general' (vs.toArray.zip vs.toArray) #[] 7 none)).map (·.2))=List.toArray ((eG vs.length f).map λi=>vs.getD i Value.none):=by
   show ((vs.toArray.zip vs.toArray).map (·.2))=_;unfold eG;rw[if_pos (by lia)]
   match vs,l,k with
   |[],_,_=>simp
   |[x],_,_=>simp[List.range,List.range.loop]
   |_::_::_,l,k=>rw[l,t8,t8] at k;lia
  rw[e];exact h
 ·rw[if_neg k,if_neg k];have r:2<=vs.length:=by lia
  obtain⟨κ,B,z⟩:=F r _ v;refine b7 (bBN (B (fun H d=>(kas_sort vs.length).kasWp (kas_ask prog w A H vs) (λp d=>d={ s with heap:=((s.heap.update a (Obj.mapSeq λ_=>#[])).push (seqObj "tuple" vs.toArray 0)).push (seqObj "list" #[] 0) }/\p=(kas_sort vs.length).ev f) d) (aZ8 (n:=vs.length) (P:=Pl vs.length) (f:=f) (cmp:=kas_ask prog w A κ vs) (t:=kas_sort vs.length) z (wO (by lia)) (Q:=λp d=>d={ s with heap:=((s.heap.update a (Obj.mapSeq λ_=>#[])).push (seqObj "tuple" vs.toArray 0)).push (seqObj "list" #[] 0) }/\p=(kas_sort vs.length).ev f) ⟨rfl,rfl⟩)) (fun H R F=>?_) λ_ _ x=>x.elim);refine b7 (bBN (kat_run (Q:=λg d=>∃p:Array Nat,p.size=vs.length/\arrOf g=p.map (kas_item (vs.toArray.zip vs.toArray))/\failedOf g=none/\d={ s with heap:=((s.heap.update a (Obj.mapSeq λ_=>#[])).push (seqObj "tuple" vs.toArray 0)).push (seqObj "list" #[] 0) }/\p=(kas_sort vs.length).ev f)
   rfl r N (λK g d I L O M=>⟨K,I,L,O,M⟩) F) ?_ λ_ _ e=>e)
  rintro⟨⟨⟩,g⟩ d ⟨p,hp,har,hf,rfl,rfl⟩;dsimp only;have u:=kat_snds rfl har;rw[u];refine b7 (seqEpoch_at c rfl ?_);refine b7 (listUpdate_at c rfl ?_ (bAE _) (by rw[d9,j4,v7,hp,sizeLine_eq];lia));rw[hf];simp only[bne_self_eq_false,bBD,if_false];refine d7 ?_;have e:eG vs.length f=((kas_sort vs.length).ev f).toList:=by unfold eG;rw[if_neg (by lia)]
  rw[e] at h;exact h
def aHt (p:s.heap.IsList l vs.toArray)(k:vs.length<64)
  (n:2<=vs.length->∀h',(∀b o,s.heap.get? b=some o->h'.get? b=some o)->∃κ,(∀(Q:SortKind->Shared->Prop),Q κ { s with heap:=h' }->wpAny (model prog w) A.in1.in1 (keyKind' vs.toArray) Q (λ_ _=>False) { s with heap:=h' })/\∀i j (C:Bool->Shared->Prop),i<vs.length->j<vs.length->C (f i j) { s with heap:=h' }->kas_ask prog w A.in1.in1 κ vs i j C { s with heap:=h' })
  (h:Q (.ref (s.heap.objs.size+1)) { s with heap:=sortedAll s.heap vs (List.toArray ((eG vs.length f).map λi=>vs.getD i Value.none)) }) :
  wpAny (model prog w) A (call (.builtin "sorted") [.ref l]) Q E s:=by
 refine Calls.call_function_entry kind_sorted plain_sorted entry_sorted (args_sorted1 _) ?_;unfold Builtin.«sorted»;refine b7 (d7 ?_);refine b7 (collect_list p ?_ (by rw[sizeLine_eq];lia));refine b7 (bE5 ?_ (by rw[sizeLine_eq];lia));have c:((s.heap.push (seqObj "list" #[] 0)).update s.heap.objs.size (Obj.mapSeq (·++vs.toArray))).objs.size=s.heap.objs.size+1:=by rw[Heap.size_update,size_push']
 have e:(((s.heap.push (seqObj "list" #[] 0)).update s.heap.objs.size (Obj.mapSeq (·++vs.toArray))).push (seqObj "list" vs.toArray 0)).get? (s.heap.objs.size+1)=some (seqObj "list" vs.toArray 0):=by rw[<-c];exact j0 _ rfl
 have d:∀b o,s.heap.get? b=some o->(((s.heap.push (seqObj "list" #[] 0)).update s.heap.objs.size (Obj.mapSeq (·++vs.toArray))).push (seqObj "list" vs.toArray 0)).get? b=some o:=λb o q=>by have a:=j8 q;rw[bET _ _ _ (by rw[c];exact t6 (bBA a)),Heap.get?_update_ne _ _ _ _ (t6 a),bET _ _ _ (t6 a)];exact q
 rw[c];refine b7 (bAS (bAG slot_list_sort ⟨_,e,rfl⟩ entry_list_sort (pU e k (λg h' m=>n g h' λb o q=>m b o (t6 (bBA (j8 q))) (d b o q)) ⟨_,rfl,?_⟩) (args_list_sort _)));exact d7 ⟨_,rfl,h⟩
end
end PySem.W
namespace PySem.W
open PySem PySem.Calls PyProof.Rows
structure Swo (f:Nat->Nat->Bool):Prop where
 asym:∀{i j},f i j=true->f j i=false
 tr:∀{i j k},f j i=false->f k j=false->f k i=false
def Pre (f:Nat->Nat->Bool)(i j:Nat):Prop:=f j i=false/\(f i j=true\/i<j)
section
variable {f:Nat->Nat->Bool}
theorem Swo.lt1 (S:Swo f)(b:f i j=true)(a:f k j=false):f i k=true:=by
 cases e:f i k with
 |true=>rfl
 |false=>have:=S.tr a e;rw[b] at this;cases this
theorem Swo.lt2 (S:Swo f)(b:f j i=false)(a:f j k=true):f i k=true:=by
 cases e:f i k with
 |true=>rfl
 |false=>have:=S.tr e b;rw[a] at this;cases this
def Pre.trans (S:Swo f)(d:Pre f i j)(c:Pre f j k):Pre f i k:=by
 refine⟨S.tr d.1 c.1,?_⟩;rcases d.2 with a|a
 ·exact .inl (S.lt1 a c.1)
 ·rcases c.2 with b|b
  ·exact .inl (S.lt2 d.1 b)
  ·exact .inr (by lia)
def Pre.of (S:Swo f)(h:f i j=true):Pre f i j:=⟨S.asym h,.inl h⟩
theorem KasT.sU {α β:Type}{f:Nat->Nat->Bool}{g:α->KasT β}:∀t:KasT α,(t.bind g).ev f=(g (t.ev f)).ev f
 |.ret a=>rfl
 |.ask i j k=>KasT.sU (k (f i j))
def qH (a:j<=p.size)(k:Nat):(kas_rev p i j).getD k 0=if i<=k/\k<j then p.getD (i+j - 1 - k) 0 else p.getD k 0:=by
 unfold kas_rev;rw[v8,getElem?_mirror_all a]
 split <;> rw[v8]
def bAp (c:k<p.size)(hd:d<=k)(x:Nat):(bubble p k d).getD x 0=if x=k - d then p.getD k 0 else if k - d<x/\x<=k then p.getD (x - 1) 0 else p.getD x 0:=by
 rw[v8,getElem?_bubble c d hd,v8,v8,v8];by_cases a:x=k - d
 ·rw[if_pos a,if_pos a]
 ·rw[if_neg a,if_neg a];by_cases b:k - d<x/\x<=k
  ·rw[if_pos b,if_pos b]
  ·rw[if_neg b,if_neg b]
structure Ld (N:Nat)(p:Array Nat)(m:Nat):Prop where
 sz:p.size=N
 lo:∀k,k<m->p.getD k 0<m
 hi:∀k,m<=k->k<N->p.getD k 0=k
 pm:p.Perm (List.range N).toArray
def Asc (f:Nat->Nat->Bool)(p:Array Nat)(m:Nat):Prop:=∀i j,i<j->j<m->Pre f (p.getD i 0) (p.getD j 0)
def Fds (f:Nat->Nat->Bool)(p:Array Nat)(m:Nat):Prop:=∀i j,i<j->j<m->Pre f (p.getD j 0) (p.getD i 0)
def Ld.rev (L:Ld N p m)(hij:i<=j)(hj:j<=m)(hm:m<=N):Ld N (kas_rev p i j) m:=by
 have a:j<=p.size:=by rw[L.sz];lia
 refine⟨by unfold kas_rev;rw[mirror_size];exact L.sz,λk c=>?_,λk d b=>?_,(mirror_perm _ _ _ _).trans L.pm⟩
 ·rw[qH a];split
  ·exact L.lo _ (by lia)
  ·exact L.lo _ c
 ·rw[qH a,if_neg (by lia)];exact L.hi k d b
theorem aNw (p:Array Nat):∀fu m,m<=(kas_asc p fu m).ev f/\(kas_asc p fu m).ev f<=m+fu/\(∀k,m<=k->k<(kas_asc p fu m).ev f->f (p.getD k 0) (p.getD (k - 1) 0)=false)/\((kas_asc p fu m).ev f<m+fu->f (p.getD ((kas_asc p fu m).ev f) 0) (p.getD ((kas_asc p fu m).ev f - 1) 0)=true)
 |0,m=>⟨d8 _,d8 _,λk b a=>absurd (show k<m from a) (by lia),λh=>absurd (show m<m+0 from h) (by lia)⟩
 |fu+1,m=>by
  show m<=(if f (p.getD m 0) (p.getD (m - 1) 0)=true then KasT.ret m else kas_asc p fu (m+1)).ev f/\(if f (p.getD m 0) (p.getD (m - 1) 0)=true then KasT.ret m else kas_asc p fu (m+1)).ev f<=m+(fu+1)/\(∀k,m<=k->k<(if f (p.getD m 0) (p.getD (m - 1) 0)=true then KasT.ret m else kas_asc p fu (m+1)).ev f->f (p.getD k 0) (p.getD (k - 1) 0)=false)/\((if f (p.getD m 0) (p.getD (m - 1) 0)=true then KasT.ret m else kas_asc p fu (m+1)).ev f<m+(fu+1)->f (p.getD ((if f (p.getD m 0) (p.getD (m - 1) 0)=true then KasT.ret m else kas_asc p fu (m+1)).ev f) 0) (p.getD ((if f (p.getD m 0) (p.getD (m - 1) 0)=true then KasT.ret m else kas_asc p fu (m+1)).ev f - 1) 0)=true);by_cases e:f (p.getD m 0) (p.getD (m - 1) 0)=true
  ·simp only[if_pos e];exact⟨d8 _,bBV _ _,λk b a=>absurd (show k<m from a) (by lia),λ_=>e⟩
  ·simp only[if_neg e];obtain⟨b,a,g,c⟩:=aNw p fu (m+1);refine⟨by lia,by lia,λk i d=>?_,λh=>c (by lia)⟩;by_cases z:k=m
   ·subst z;simpa using e
   ·exact g k (by lia) d
theorem aHl (S:Swo f)(L:Ld N p m)(q:Asc f p m)(t:1<=m):∀d,m+d<=N->(∀k,m<=k->k<m+d->f (p.getD k 0) (p.getD (k - 1) 0)=false)->Ld N p (m+d)/\Asc f p (m+d)
 |0,_,_=>⟨L,q⟩
 |d+1,hN,h=>by
  obtain⟨n,g⟩:=aHl S L q t d (by lia) λk a b=>h k a (by lia);have e:p.getD (m+d) 0=m+d:=L.hi _ (by lia) (by lia);have o:=n.lo (m+d - 1) (by lia);have l:Pre f (p.getD (m+d - 1) 0) (p.getD (m+d) 0):=⟨h _ (by lia) (by lia),.inr (by lia)⟩;refine⟨⟨L.sz,λk r=>?_,λk a b=>L.hi k (by lia) b,L.pm⟩,λi j c s=>?_⟩
  ·by_cases z:k=m+d
   ·subst z;lia
   ·have:=n.lo k (by lia);lia
  ·by_cases z:j=m+d
   ·subst z;by_cases y:i=m+d - 1
    ·subst y;exact l
    ·exact (g i (m+d - 1) (by lia) (by lia)).trans S l
   ·exact g i j c (by lia)
structure Dsc (f:Nat->Nat->Bool)(N:Nat)(p:Array Nat)(n q:Nat):Prop where
 ld:Ld N p n
 hq:q+1<=n
 hn:n<=N
 a1:∀i j,i<j->j<n - (q+1)->Pre f (p.getD j 0) (p.getD i 0)
 a2:∀i j,i<n - (q+1)->n - (q+1)<=j->j<n->f (p.getD j 0) (p.getD i 0)=true
 a3:∀i j,n - (q+1)<=i->i<j->j<n->f (p.getD i 0) (p.getD j 0)=false/\f (p.getD j 0) (p.getD i 0)=false/\p.getD i 0<p.getD j 0
def rJ (p:Array Nat)(n q:Nat):Array Nat:=if q > 0 then kas_rev p (n - (q+1)) n else p
def Dsc.close (S:Swo f)(D:Dsc f N p n q):Ld N (rJ p n q) n/\Fds f (rJ p n q) n/\∀k,k<n->∃k',k'<n/\(rJ p n q).getD k 0=p.getD k' 0:=by
 have r:=D.hq;have g:n<=p.size:=by rw[D.ld.sz];exact D.hn
 by_cases h:q > 0
 ·unfold rJ;rw[if_pos h];refine⟨D.ld.rev (by lia) (d8 _) D.hn,λi j c d=>?_,λk l=>?_⟩
  ·rw[qH g,qH g];by_cases a:n - (q+1)<=i
   ·rw[if_pos ⟨by lia,d⟩,if_pos ⟨a,by lia⟩];obtain⟨s,m,o⟩:=D.a3 (n - (q+1)+n - 1 - j) (n - (q+1)+n - 1 - i) (by lia) (by lia) (by lia);exact⟨m,.inr o⟩
   ·rw[if_neg (show ¬ (n - (q+1)<=i/\i<n) by lia)];by_cases b:n - (q+1)<=j
    ·rw[if_pos ⟨b,d⟩];exact .of S (D.a2 i _ (by lia) (by lia) (by lia))
    ·rw[if_neg (by lia)];exact D.a1 i j c (by lia)
  ·rw[qH g]
   split
   ·exact⟨_,by lia,rfl⟩
   ·exact⟨k,l,rfl⟩
 ·have e:q=0:=by lia
  subst e;unfold rJ;rw[if_neg h];refine⟨D.ld,λi j c d=>?_,λk l=>⟨k,l,rfl⟩⟩;by_cases b:n - 1<=j
  ·exact .of S (D.a2 i j (by lia) (by lia) d)
  ·exact D.a1 i j c (by lia)
def Dsc.down (S:Swo f)(D:Dsc f N p n q)(m:n<N)(h:f (p.getD n 0) (p.getD (n - 1) 0)=true):Dsc f N (rJ p n q) (n+1) 0:=by
 obtain⟨L,F,R⟩:=D.close S;have x:=D.hq;have e:=D.ld.hi n (d8 _) m;have o:=L.hi n (d8 _) m;rw[e] at h;have l:∀k,k<n->f n (p.getD k 0)=true:=λk r=>by
  by_cases a:n - (q+1)<=k
  ·by_cases z:k=n - 1
   ·subst z;exact h
   ·exact S.lt1 h (D.a3 k (n - 1) a (by lia) (by lia)).1
  ·have:=D.a2 k (n - 1) (by lia) (by lia) (by lia);exact S.lt1 h (S.asym this)
 refine⟨⟨L.sz,λk r=>?_,λk a b=>L.hi k (by lia) b,L.pm⟩,by lia,m,λi j g u=>F i j g (by lia),λi j w u v=>?_,λi j a b c=>by lia⟩
 ·by_cases z:k=n
  ·subst z;lia
  ·have:=L.lo k (by lia);lia
 ·have z:j=n:=by lia
  subst z;obtain⟨s,d,t⟩:=R i (by lia);rw[o,t];exact l s d
def Dsc.flat (S:Swo f)(D:Dsc f N p n q)(u:n<N)(r:f (p.getD n 0) (p.getD (n - 1) 0)=false)(d:f (p.getD (n - 1) 0) (p.getD n 0)=false):Dsc f N p (n+1) (q+1):=by
 have x:=D.hq;have e:=D.ld.hi n (d8 _) u;have o:n+1 - (q+1+1)=n - (q+1):=by lia
 rw[e] at r d;refine⟨⟨D.ld.sz,λk w=>?_,λk a b=>D.ld.hi k (by lia) b,D.ld.pm⟩,by lia,u,λi j l h=>D.a1 i j l (by lia),λi j g h v=>?_,λi j a b c=>?_⟩
 ·by_cases z:k=n
  ·subst z;lia
  ·have:=D.ld.lo k (by lia);lia
 ·rw[o] at g h;by_cases z:j=n
  ·subst z;rw[e];exact S.lt2 d (D.a2 i (j - 1) g (by lia) (by lia))
  ·exact D.a2 i j g h (by lia)
 ·rw[o] at a;by_cases z:j=n
  ·subst z;rw[e];have m:=D.ld.lo i b;by_cases y:i=j - 1
   ·subst y;exact⟨d,r,m⟩
   ·obtain⟨t,s,_⟩:=D.a3 i (j - 1) a (by lia) (by lia);exact⟨S.tr d t,S.tr s r,m⟩
  ·exact D.a3 i j a b (by lia)
theorem aAh (S:Swo f):∀fu p n q,Dsc f N p n q->n+fu<=N->Dsc f N ((kas_desc fu p n q).ev f).1 ((kas_desc fu p n q).ev f).2.1 ((kas_desc fu p n q).ev f).2.2
 |0,p,n,q,D,_=>D
 |fu+1,p,n,q,D,h=>by
  show Dsc f N ((if f (p.getD n 0) (p.getD (n - 1) 0)=true then (if q > 0 then kas_desc fu (kas_rev p (n - (q+1)) n) (n+1) 0 else kas_desc fu p (n+1) 0) else .ask (p.getD (n - 1) 0) (p.getD n 0) λd=>if d=true then .ret (p,n,q) else kas_desc fu p (n+1) (q+1)).ev f).1 ((if f (p.getD n 0) (p.getD (n - 1) 0)=true then (if q > 0 then kas_desc fu (kas_rev p (n - (q+1)) n) (n+1) 0 else kas_desc fu p (n+1) 0) else .ask (p.getD (n - 1) 0) (p.getD n 0) λd=>if d=true then .ret (p,n,q) else kas_desc fu p (n+1) (q+1)).ev f).2.1 ((if f (p.getD n 0) (p.getD (n - 1) 0)=true then (if q > 0 then kas_desc fu (kas_rev p (n - (q+1)) n) (n+1) 0 else kas_desc fu p (n+1) 0) else .ask (p.getD (n - 1) 0) (p.getD n 0) λd=>if d=true then .ret (p,n,q) else kas_desc fu p (n+1) (q+1)).ev f).2.2;by_cases e:f (p.getD n 0) (p.getD (n - 1) 0)=true
  ·have a:=D.down S (by lia) e;unfold rJ at a;simp only[if_pos e];by_cases c:q > 0
   ·simp only[if_pos c] at a ⊢;exact aAh S fu _ _ _ a (by lia)
   ·simp only[if_neg c] at a ⊢;exact aAh S fu _ _ _ a (by lia)
  ·simp only[if_neg e];show Dsc f N ((if f (p.getD (n - 1) 0) (p.getD n 0)=true then KasT.ret (p,n,q) else kas_desc fu p (n+1) (q+1)).ev f).1 ((if f (p.getD (n - 1) 0) (p.getD n 0)=true then KasT.ret (p,n,q) else kas_desc fu p (n+1) (q+1)).ev f).2.1 ((if f (p.getD (n - 1) 0) (p.getD n 0)=true then KasT.ret (p,n,q) else kas_desc fu p (n+1) (q+1)).ev f).2.2;by_cases b:f (p.getD (n - 1) 0) (p.getD n 0)=true
   ·simp only[if_pos b];exact D
   ·simp only[if_neg b];exact aAh S fu _ _ _ (D.flat S (by lia) (by simpa using e) (by simpa using b)) (by lia)
def aI5 (f:Nat->Nat->Bool)(N:Nat)(r:Nat × Array Nat):Prop:=1<=r.1/\r.1<=N/\Ld N r.2 r.1/\Asc f r.2 r.1
def aLf (S:Swo f){N n:Nat}{p:Array Nat}(L:Ld N p n)(F:Fds f p n)(r:1<=n)(k:n<=N):aI5 f N ((kas_tail3 n N p).ev f):=by
 unfold kas_tail3;rw[KasT.sU];have a:n<=p.size:=by rw[L.sz];exact k
 have o:Ld N (kas_rev p 0 n) n:=L.rev (bAE _) (d8 _) k;have c:Asc f (kas_rev p 0 n) n:=λi j l h=>by rw[qH a,qH a,if_pos ⟨bAE _,by lia⟩,if_pos ⟨bAE _,h⟩];exact F _ _ (by lia) (by lia)
 obtain⟨q,e,b,_⟩:=aNw (f:=f) (kas_rev p 0 n) (N - n) n;obtain⟨d,hd⟩:∃d,(kas_asc (kas_rev p 0 n) (N - n) n).ev f=n+d:=⟨(kas_asc (kas_rev p 0 n) (N - n) n).ev f - n,by lia⟩;show aI5 f N ((kas_asc (kas_rev p 0 n) (N - n) n).ev f,kas_rev p 0 n);rw[hd] at e b ⊢;obtain⟨g,m⟩:=aHl S o c r d (by lia) b;exact⟨by show 1<=n+d;lia,by show n+d<=N;lia,g,m⟩
def yV (S:Swo f){N n:Nat}{p:Array Nat}(D:Dsc f N p (n+1) 0):aI5 f N ((kas_descPart n N p).ev f):=by
 unfold kas_descPart;rw[KasT.sU];have a:=aAh S (N - (n+1)) p (n+1) 0 D (by have:=D.hn;lia);generalize (kas_desc (N - (n+1)) p (n+1) 0).ev f=r at a;obtain⟨L,F,_⟩:=a.close S;have b:=a.hq;unfold rJ at L F;by_cases h:r.2.2 > 0
 ·simp only[if_pos h] at L F ⊢;exact aLf S L F (by lia) a.hn
 ·simp only[if_neg h] at L F ⊢;exact aLf S L F (by lia) a.hn
def iC (h:k<N):(List.range N).toArray.getD k 0=k:=by rw[v8,bDT,bCJ h];rfl
def aS0 (S:Swo f){N:Nat}(h1:1<=N):aI5 f N ((kas_count N (List.range N).toArray).ev f):=by
 unfold kas_count;rw[KasT.sU];have s:Ld N (List.range N).toArray 1:=⟨by simp,λk l=>by rw[iC (by lia)];exact l,λk _ h=>iC h,.refl _⟩;obtain⟨t,G,D,B⟩:=aNw (f:=f) (List.range N).toArray (N - 1) 1;generalize I:(kas_asc (List.range N).toArray (N - 1) 1).ev f=m at t G D B;obtain⟨d,rfl⟩:∃d,m=1+d:=⟨m - 1,by lia⟩;obtain⟨L,A⟩:=aHl S s (λi j g p=>by lia) (d8 _) d (by lia) D;by_cases e:(1+d == N)=true
 ·simp only[if_pos e];exact⟨t,by show 1+d<=N;lia,L,A⟩
 ·simp only[if_neg e];have n:1+d<N:=by
   have:1+d≠N:=by simpa using e
   lia
  have hd:=B (by lia);have F:(List.range N).toArray.getD (1+d) 0=1+d:=iC n;have x:(List.range N).toArray.getD (1+d - 1) 0=d:=by rw[iC (by lia)];lia
  rw[F,x] at hd;by_cases C:1+d > 1
  ·simp only[if_pos C];show aI5 f N ((if f ((List.range N).toArray.getD 0 0) ((List.range N).toArray.getD (1+d - 1) 0)=true then KasT.ret (1+d,(List.range N).toArray) else kas_descPart (1+d) N (kas_rev (List.range N).toArray 0 (1+d))).ev f);rw[x,iC (show 0<N by lia)];by_cases q:f 0 d=true
   ·simp only[if_pos q];exact⟨t,by show 1+d<=N;lia,L,A⟩
   ·simp only[if_neg q];have q:f 0 d=false:=by simpa using q
    have r:=L.rev (bAE _) (d8 _) (by lia);have H:1+d<=(List.range N).toArray.size:=by simp;lia
    have o:∀k,k<1+d->(kas_rev (List.range N).toArray 0 (1+d)).getD k 0=d - k:=λk l=>by rw[qH H,if_pos ⟨bAE _,l⟩,iC (by lia)];lia
    have w:∀i j,i<j->j<1+d->f j i=false:=λi j g p=>by have:=(A i j g p).1;rw[iC (by lia),iC (by lia)] at this;exact this
    have v:∀k,k<1+d->f (1+d) k=true:=λk l=>by
     by_cases z:k=d
     ·subst z;exact hd
     ·refine S.lt1 hd ?_;by_cases y:k=0
      ·subst y;exact q
      ·exact S.tr q (w 0 k (by lia) l)
    refine yV S ⟨⟨r.sz,λk l=>?_,λk a b=>r.hi k (by lia) b,r.pm⟩,by lia,by lia,λi j g p=>?_,λi j E p u=>?_,λi j a b c=>by lia⟩
    ·by_cases z:k=1+d
     ·subst z;rw[r.hi _ (d8 _) n];lia
     ·have:=r.lo k (by lia);lia
    ·rw[o i (by lia),o j (by lia)];exact⟨w _ _ (by lia) (by lia),.inr (by lia)⟩
    ·have z:j=1+d:=by lia
     subst z;rw[r.hi _ (d8 _) n,o i (by lia)];exact v _ (by lia)
  ·have z:d=0:=by lia
   subst z;simp only[if_neg C];refine yV S ⟨⟨s.sz,λk l=>by rw[iC (by lia)];exact l,λk a b=>iC b,s.pm⟩,by lia,by lia,λi j g p=>by lia,λi j E p u=>?_,λi j a b c=>by lia⟩;have z:j=1:=by lia
   have y:i=0:=by lia
   subst z y;rw[iC (by lia),iC (by lia)];exact hd
theorem aB1 (S:Swo f)(A:Asc f p k):∀fu l r,l<=r->r<=k->r - l<=fu->(∀i,i<l->f (p.getD k 0) (p.getD i 0)=false)->(∀i,r<=i->i<k->f (p.getD k 0) (p.getD i 0)=true) ->
  (kas_place p k fu l r).ev f<=k/\(∀i,i<(kas_place p k fu l r).ev f->f (p.getD k 0) (p.getD i 0)=false)/\∀i,(kas_place p k fu l r).ev f<=i->i<k->f (p.getD k 0) (p.getD i 0)=true
 |0,l,r,j,d,h3,a,b=>by
  have z:l=r:=by lia
  subst z;exact⟨d,a,b⟩
 |fu+1,l,r,j,d,h3,a,b=>by
  unfold kas_place;by_cases e:l ≥ r
  ·have z:l=r:=by lia
   subst z;simp only[if_pos e];exact⟨d,a,b⟩
  ·simp only[if_neg e];by_cases c:f (p.getD k 0) (p.getD ((l+r) / 2) 0)=true
   ·have n:∀i,(l+r) / 2<=i->i<k->f (p.getD k 0) (p.getD i 0)=true:=λi j d=>by
     by_cases z:i=(l+r) / 2
     ·subst z;exact c
     ·exact S.lt1 c (A _ i (by lia) d).1
    have:=aB1 S A fu l ((l+r) / 2) (by lia) (by lia) (by lia) a n;simpa only [KasT.ev,if_pos c] using this
   ·have g:f (p.getD k 0) (p.getD ((l+r) / 2) 0)=false:=by simpa using c
    have m:∀i,i<(l+r) / 2+1->f (p.getD k 0) (p.getD i 0)=false:=λi h=>by
     by_cases z:i=(l+r) / 2
     ·subst z;exact g
     ·exact S.tr (A i _ (by lia) (by lia)).1 g
    have:=aB1 S A fu ((l+r) / 2+1) r (by lia) d (by lia) m b;simpa only [KasT.ev,if_neg c] using this
theorem aTg (S:Swo f){N:Nat}:∀(fu:Nat) (p:Array Nat) (k:Nat),Ld N p k->Asc f p k->1<=k->k+fu=N->Ld N ((kas_bin fu p k).ev f) N/\Asc f ((kas_bin fu p k).ev f) N
 |0,p,k,L,A,_,e=>by
  have z:k=N:=by lia
  subst z;exact⟨L,A⟩
 |fu+1,p,k,L,A,h1,e=>by
  unfold kas_bin;rw[KasT.sU];obtain⟨t,s,q⟩:=aB1 S A k 0 k (bAE _) (d8 _) (by lia) (λi h=>by lia) (λi h y=>by lia);generalize (kas_place p k k 0 k).ev f=l at t s q;have v:k<p.size:=by rw[L.sz];lia
  have B:=L.hi k (d8 _) (by lia);have c:=λx=>bAp (p:=p) (k:=k) (d:=k - l) v (by lia) x;have u:k - (k - l)=l:=by lia
  rw[u] at c;refine aTg S fu _ (k+1) ⟨by rw[bubble_size];exact L.sz,λx w=>?_,λx a b=>?_,(bubble_perm _ _ _).trans L.pm⟩ (λi j g C=>?_) (by lia) (by lia)
  ·rw[c];by_cases a:x=l
   ·rw[if_pos a];lia
   ·rw[if_neg a];by_cases b:l<x/\x<=k
    ·rw[if_pos b];have:=L.lo (x - 1) (by lia);lia
    ·rw[if_neg b];have:=L.lo x (by lia);lia
  ·rw[c,if_neg (by lia),if_neg (by lia)];exact L.hi x (by lia) b
  ·rw[c i,c j];by_cases n:i=l
   ·rw[if_pos n,if_neg (by lia),if_pos (by lia)];exact .of S (q _ (by lia) (by lia))
   ·rw[if_neg n];by_cases m:l<i/\i<=k
    ·rw[if_pos m,if_neg (by lia),if_pos (by lia)];exact A _ _ (by lia) (by lia)
    ·rw[if_neg m];by_cases o:j=l
     ·rw[if_pos o];have:=L.lo i (by lia);exact⟨s i (by lia),.inr (by lia)⟩
     ·rw[if_neg o];by_cases r:l<j/\j<=k
      ·rw[if_pos r];exact A _ _ (by lia) (by lia)
      ·rw[if_neg r];exact A _ _ g (by lia)
def aW3 (S:Swo f){N:Nat}(c:1<=N):Ld N ((kas_sort N).ev f) N/\Asc f ((kas_sort N).ev f) N:=by
 unfold kas_sort;rw[KasT.sU];have R:=aS0 S c;generalize (kas_count N (List.range N).toArray).ev f=r at R;obtain⟨a,b,L,A⟩:=R;by_cases e:r.1<N
 ·simp only[if_pos e];have z:max r.1 1=r.1:=by lia
  rw[z];exact aTg S _ _ _ L A a (by lia)
 ·simp only[if_neg e];have z:r.1=N:=by lia
  rw[z] at L A;exact⟨L,A⟩
end
theorem KasT.Low.same {α:Type}{n:Nat}{P:α->Prop}{t:KasT α}(h:t.Low n P){f g:Nat->Nat->Bool}(e:∀i j,i<n->j<n->f i j=g i j):t.ev f=t.ev g:=by
 induction h with
 |ret h=>rfl
 |@ask i j k a b _ ih=>show (k (f i j)).ev f=(k (g i j)).ev g;rw[e i j a b];exact ih (g i j)
def aNa {n:Nat}{f g:Nat->Nat->Bool}(e:∀i j,i<n->j<n->f i j=g i j):eG n f=eG n g:=by
 unfold eG;by_cases h:n<2
 ·rw[if_pos h,if_pos h]
 ·rw[if_neg h,if_neg h,(wO (by lia)).same e]
def aK2 (S:Swo f):(eG n f).Perm (List.range n)/\(eG n f).Pairwise (Pre f):=by
 unfold eG;by_cases h:n<2
 ·rw[if_pos h];refine⟨.refl _,?_⟩
  match n,h with
  |0,_=>exact .nil
  |1,_=>exact List.pairwise_singleton _ _
 ·rw[if_neg h];obtain⟨L,A⟩:=aW3 S (show 1<=n by lia);generalize (kas_sort n).ev f=p at L A;refine⟨?_,List.pairwise_iff_getElem.mpr λi j e d b=>?_⟩
  ·have:=Array.perm_iff_toList_perm.mp L.pm;simpa using this
  ·have c:i<p.size:=by simpa using e
   have a:j<p.size:=by simpa using d
   have:=A i j b (by rw[<-L.sz];exact a);rw[v8,v8,j9 c,j9 a] at this;simpa using this
end PySem.W
namespace PySem.W
open PySem PySem.Calls PyProof.Rows
section
variable {prog:Program}{w:World}{A:Around}{E:bFQ}{s:Shared}{f:Nat->Nat->Bool}
end
end PySem.W
namespace PySem.W
open PySem PySem.Calls PyProof.Rows
theorem aA0 (l:List Value)(h:TriplesOk l)(d:codeAmong pos (l++[rawInt a,rawInt b,c])=some cv):codeAmong pos l=some cv\/cv=c:=by
 fun_induction TriplesOk l with
 |case1=>
  simp only[bBU,codeAmong,rawInt] at d
  split at d
  ·exact .inr (bAM d).symm
  ·cases d
 |case2 a' t b' u x rest ih=>
  simp only[List.cons_append,codeAmong] at d ⊢
  split at d
  ·rename_i e;rw[if_pos e];exact .inl d
  ·rename_i e;rw[if_neg e];exact ih h d
 |case3 l h1 h2=>exact h.elim
section
variable {prog:Program}{w:World}{A:Around}{E:bFQ}{s:Shared}
end
end PySem.W
namespace L2
open PySem PySem.Spec PyProof.Rows
def BM (mg:bFS)(base:Heap):Prop:=∃bm ob,mg "__builtins__"=some (.ref bm)/\bm≠builtinsNs/\base.get? bm=some ob/\ob.cls=.type "module"/\ob.dict=some builtinsNs/\ob.data=.plain
section
variable {X:Cx}{bFT:bFR}{σ:List (Option V)}{H:Hp}{s:Shared}
end
def ExO (a:Addr)(o:Obj):HO:=.ext λh=>h.get? a=some o
def bA6 (e:h.get? a=some o):dN P w H h a (ExO a o):=⟨e,⟨o,e⟩,λ_ _ b k=>k o b⟩
def bDt (g x y:Str)(p0 p1 p2 p3:Pos):Expr:=.Call (.Name g p0) [.Name x p1,.Name y p2] [] p3
structure aY4 (qual g x y:Str)(params:Arguments)(bd:Expr)(scope:Scope):Prop where
 body:∃p0 p1 p2 p3,bd=bDt g x y p0 p1 p2 p3
 bind:∀(cp c':Addr) (pm ctv v:Value),bindArgs (PySem.W.kla_fn "<lambda>" qual params bd scope [(y,cp)] pm (.ref c') ctv) ⟨[v],[]⟩=pure [(x,v)]
 co:scope.isCoroutine=false
 gen:scope.isGenerator=false
 kind:scope.kind=.function
 cell:∀z∈scope.names,z.2≠.cell
 hx:scope.names.lookup x=some .local
 hy:scope.names.lookup y=some .free
 hg:scope.names.lookup g=some .globalImplicit
 dx:(x == ("__debug__":Str))=false
 dy:(y == ("__debug__":Str))=false
 dg:(g == ("__debug__":Str))=false
 cy:(y == ("__classdict__":Str))=false
 xy:(y == x)=false
def wD (H:Hp)(f:Addr)(qual g x y:Str)(v:V):Prop:=∃params body scope cp c' pm ctv oc ol u vs t,
 aY4 qual g x y params body scope/\H f=some (ExO f (PySem.W.kla_obj "<lambda>" qual params body scope [(y,cp)] pm c' ctv))/\H cp=some (ExO cp ol)/\(∀h:Heap,h.get? cp=some ol->h.IsCell cp (some u))/\RelV v u/\H c'=some (ExO c' oc)/\oc.data=.fields vs/\vs[1]?=some (.str qual t)
def wD.same (L:wD H f qual g x y v)(s:Same H H'):wD H' f qual g x y v:=by obtain⟨j,r,i,e,q,d,a,b,p,u,n,t,S,w,h,l,m,k,c,o⟩:=L;exact⟨j,r,i,e,q,d,a,b,p,u,n,t,S,s _ _ w,s _ _ h,l,m,s _ _ k,c,o⟩
section
variable {X:Cx}
theorem aXe {bFT:bFR}{σ:St}{H:Hp}{s:Shared}{Q:VK}{f ga:Addr}{qual g x y:Str}{v a:V}{E:Value}{k:Nat}{fd:FuncData}{ps:List Str}{sp:Sp}
  (L:wD H f qual g x y v) (hr:Room (k+1) X.A) (hm:X.mg g=some (.ref ga)) (hk:PySem.W.keepIn X.K (.ref ga)=true) (hb:Binds X.K fd ps []) (F:lY X.prog X.w X.K X.mg X.base CX0 k ga fd ps sp)
  (I:Inv X bFT σ H s) (r:RelV a E) (h:sp [a,v] H Q E0):wpAny (model X.prog X.w) X.A (call (.ref f) [E]) (EP X bFT σ Q) X.xe s:=by
 obtain⟨pa,bo,sc,Y,U,pm,a0,oc,ol,u,vs,t,S,h1,h2,h3,h4,h5,h6,h7⟩:=L;have e1:s.heap.get? f=some _:=(I.hok f _ h1).1;have e2:s.heap.get? Y=some ol:=(I.hok Y _ h2).1;have e5:s.heap.get? U=some oc:=(I.hok U _ h5).1;refine bEZ (PySem.W.kla_callFunE hr.depth e1 rfl S.co S.gen rfl ⟨U,oc,vs,t,rfl,e5,h6,h7⟩ ?_);rw[S.bind];refine d7 (bE8 S.cell (λz hz=>?_) (λB J m=>⟨I.nolimit.fresh _ m,?_⟩) S.kind)
 ·have e:z=(x,E):=by simpa using hz
  rw[e];exact S.hx
 have d:∀b o,s.heap.get? b=some o->B.get? b=some o:=λb o e=>m.extBut b o (t6 (j8 e)) (c7 _ e);have P:s.heap.objs.size<=B.objs.size:=by have:=m.1;rw[bAW] at this;lia
 refine PySem.W.kla_codeExpr ?_;obtain⟨p0,p1,p2,p3,rfl⟩:=S.body;have hG:B.Ns mainGlobals X.mg:=(I.mod.glob.keeps I.bk).keeps d;refine bBT (bDU S.kind S.hg (Calls.loadGlobal_global hG hm ?_) S.dg);refine PySem.W.callWith_K (h₀:=X.base) I.ok.mod.kin hk (bCA (wpAny_Name (wpAny_loadName_local S.kind S.hx J (v:=E) (by simp) ?_) S.dx)) rfl rfl;refine bCA (wpAny_Name (wpAny_loadName_free S.kind S.hy (c:=Y) (by simp[newEnv,PySem.W.kla_fn]) (v:=u) (h3 B (d _ _ e2)) ?_ S.cy) S.dy);have N:X.K.In B:=I.kIn.keeps d;refine bEO ⟨N,?_⟩;generalize j:newEnv _ s.heap.objs.size _ _ _ _ _ _ _=env;have D:env.frame=some s.heap.objs.size:=by rw[<-j];rfl
 have R:env.scope.kind≠.module:=by rw[<-j];show sc.kind≠_;rw[S.kind];decide
 have C:X.base.get? s.heap.objs.size=none:=Heap.get?_none_of_le (bAK I.ok.bsz I.sz);have i:H s.heap.objs.size=none:=I.hok.fresh (d8 _);have E1:aGe X.prog X.w X.K X.mg X.base (X.A.deeper env) (env::X.stack) { s with heap:=B,toks:=s.toks+1 } H:=by
  refine⟨Around.frames_deeper I.ok.frames,I.ok.mod,λb o e=>⟨d _ _ (I.bs b o e).1,(I.bs b o e).2⟩,bAK (bAK I.ok.bsz I.sz) P,.cons R D J C ?_,?_,I.hok.kept d,I.bare⟩
  ·exact I.stack.of_keeps λb o e _=>⟨o,d _ _ e,rfl⟩
  ·intro b hb;unfold frs at hb;rw[bCI,D] at hb;rcases List.mem_cons.mp hb with e|hb
   ·rw[e];exact i
   ·exact I.wC b hb
 have r2:Vals [a,v] [E,u]:=.cons r (.cons h4 .nil);have hl:([E,u]++([]:List Value)).length=ps.length:=by rw[bCV,<-r2.length];exact F.len _ _ _ _ h
 refine bEZ (bCQ (F.run (X.A.deeper env) (env::X.stack) _ H ⟨[E,u],[]⟩ [E,u] [a,v] Q E0 (hr.deeper env) E1 (by simpa using hb { s with heap:=B,toks:=s.toks+1 } [E,u] N hl) r2 h) λrr s' M=>?_);cases rr with
 |error e=>exact M.elim
 |ok fl=>
  cases fl with
  |next=>exact False.elim M
  |brk=>exact False.elim M
  |cont=>exact False.elim M
  |ret uu=>
   obtain⟨v',H',os,G,l,O,T,q⟩:=M;refine I.after (Q:=Q) (u:=uu) (s':=s') ⟨v',H',os,G,?_,O,T,q⟩;have Z:∀b o,s.heap.get? b=some o->b≠s.heap.objs.size:=λb o e=>t6 (j8 e);have fe:frs (env::X.stack)=s.heap.objs.size::frs X.stack:=by unfold frs;rw[bCI,D]
   rw[fe] at l;exact⟨λb o e n hb p=>l.keep b o (d b o e) n (λz=>(List.mem_cons.mp z).elim (Z b o e) hb) p,λb o e n hb p=>l.slot b o (d b o e) n (j5 _ hb) p,λb o e n p=>l.free b o (d b o e) n p,λb o e p=>l.there b o (d b o e) p,l.tups,l.frzs,l.tbls⟩
def aS9 (P:Program)(w:World)(K:bFP)(mg:bFS)(base:Heap)(k:Nat)(te:TE)(t:TA):TE:=fun σ H Q=>te σ H λv H1=>∃f qual g x y z ps sp,v=.ref f/\wD H1 f qual g x y z/\Ok P w K mg base k g ps sp /\
 t σ H1 λvs H2=>∃a,vs=[a]/\wD H2 f qual g x y z/\sp [a,z] H2 Q E0
theorem aS2 {n:Str}{p B:Pos}{e:Expr}{es:List Expr}{te:TE}{t:TA}{k:Nat}(hr:Room (k+1) X.A)(hf:PE X (.Name n p) te)(ha:PA X (e::es) t)
  (he:starEach (e::es) X.env=(false,eval e X.env)::starEach es X.env:=by rfl) (T:(backTo B (starEach es X.env)).any (·.1)=false:=by rfl) :
  PE X (.Call (.Name n p) (e::es) [] B) (aS9 X.prog X.w X.K X.mg X.base k te t):=by
 intro d s σ H Q I h;refine bBT (thn (hf d s σ H _ I h) λu N ⟨v,R,I1,r1,q1⟩=>?_);obtain⟨f,c,g,x,y,z,ps,sp,rfl,L,G,q⟩:=q1;obtain rfl:u=Value.ref f:=r1;obtain⟨ga,fd,hm,M,O,F⟩:=G;have C:=ha B d N σ R _ I1 q;rw[he] at C ⊢;refine PySem.W.callWith_of (P:=λh=>∃j l i J m o b,h.get? f=some (PySem.W.kla_obj "<lambda>" c j l i J m o b)) (by show ((false || (backTo B (starEach es X.env)).any (·.1)) || false)=false;rw[T];rfl) (λh ⟨j,l,i,J,m,o,b,eh⟩=>⟨.frame,.inl rfl,(PySem.W.Looks.ld (part:=none) eh).andThen .now⟩) (bE7 (thn C λus s2 ⟨V,H2,E,r,Z⟩=>?_));obtain⟨a,rfl,D,U⟩:=Z;cases r with
 |cons r rn=>cases rn;refine⟨?_,aXe D hr hm M O F E r U⟩;obtain⟨j,l,i,cp,o,m,b,oc,ol,u,V,t,S,Y,_⟩:=D;exact⟨j,l,i,_,m,o,b,(E.hok f _ Y).1⟩
end
section
variable {X:Cx}{bFT:bFR}{σ:List (Option V)}{H:Hp}{s:Shared}
theorem aQi
  (I:Inv X bFT σ H s) (j:X.env.code=.ref c) (CH:PySem.W.CodeHd X.base c P) (i:H P=some (.tab (X.env.qual++"<lambda>"))) (a8:BM X.mg X.base) (a1:closureFor scope X.env=pure clos) (a7:defaultsOf params X.env=([],[]))
  (q:∀f c' pm ctv H' h' tk,Inv X bFT σ H' { s with heap:=h',toks:=tk }->Same H H'->s.heap.objs.size<=f->H' f=none->H' c'=some (.own P)->H' P=some (.tab (X.env.qual++"<lambda>"))->h'.get? f=some (PySem.W.kla_obj "<lambda>" (X.env.qual++"<lambda>") params body scope clos pm c' ctv)->h'.CodeRec (.ref c') (X.env.qual++"<lambda>")->Q (.ref f) { s with heap:=h',toks:=tk }) :
  wpAny (model X.prog X.w) X.A (eval (.Lambda params body scope pos) X.env) Q E s:=by
 obtain⟨ps,hp,O,g⟩:=I.hok P _ i;have hg:=I.mod.glob.keeps I.bk;obtain⟨R,ob,b1,b2,N,b4,b5,S⟩:=a8;have bG:R≠mainGlobals:=λz=>by obtain⟨o,es,ep,e,d,_⟩:=I.mod.glob;rw[z,e] at N;cases N;rw[d] at S;cases S
 have bP:R≠P:=λz=>by have:=(I.bs R ob N).2;rw[z,i] at this;cases this
 have gP:mainGlobals≠P:=λz=>by obtain⟨o,es,ep,e,d,_⟩:=I.mod.glob;have:=(I.bs _ o e).2;rw[z,i] at this;cases this
 have hB:s.heap.BuiltinsAt X.mg P:=⟨R,ob,b1,b2,bG,bP,I.bk _ _ N,b4,b5,S⟩;refine PySem.W.kla_eval a7 ?_;cases x:codeAmong pos ps.toList with
 |some cv=>obtain⟨c',C,M,t,rfl,G,V,a4,T⟩:=g pos cv x;refine PySem.W.kla_makeFunctionHit a1 I.ok.glob hg j (CH.keeps I.bk) hp O x hB λctv h' tk hk F=>?_;exact q _ c' _ ctv H _ tk (I.kept (t':=tk) λb o e=>c7 _ (hk b o e)) (λ_ _ e=>e) F (I.hok.fresh F) G i (j0 _ rfl) ⟨c',C,M,t,rfl,c7 _ (hk _ _ V),a4,T⟩
 |none=>
  refine PySem.W.kla_makeFunction a1 I.ok.glob hg j (CH.keeps I.bk) hp O x gP hB λc' ctv h' tk hx h l K D=>?_;obtain⟨c2,C,M,t,e2,k,hd,hv⟩:=K;cases e2;have nc:=I.hok.fresh h;have a9:∀b u,b≠P->H b=some u->∀o,s.heap.get? b=some o->(h'.push (PySem.W.kla_obj "<lambda>" (X.env.qual++"<lambda>") params body scope clos ((X.mg "__name__").getD .none) c' ctv)).get? b=some o:=λb u U _ o e=>c7 _ (hx b o U e);have B:∀b o,b≠P->s.heap.get? b=some o->(h'.push (PySem.W.kla_obj "<lambda>" (X.env.qual++"<lambda>") params body scope clos ((X.mg "__name__").getD .none) c' ctv)).get? b=some o:=λb o U e=>c7 _ (hx b o U e);have p:∀b,H b=none->b≠P:=λb e z=>by rw[z,i] at e;cases e
  have a:∀{b u},H b=some u->upd H c' (.own P) b=some u:=λ{b u} e=>by rw[aR (aQ e nc)];exact e
  refine q _ c' _ ctv (upd H c' (.own P)) _ tk (I.step (g':=s.gens) (d':=s.drawn) (ch:=[]) (λ_ z=>nomatch z) (λb o _ _ _ e n=>B b o (p b n) e) (λb o _ _ _ e n=>⟨o.slots,B b o (p b n) e⟩) (λb o _ e n=>?_) (λb o _ e=>?_)
   (λb xs e=>a e) (λb o u e=>a e) (λb qs e=>⟨#[],by rw[a e];simp⟩) (λm hm=>?_) (λb u e=>?_) I.bare) (λb o e=>a e) (bDJ (bCB h l)) (by rw[aR (bCP l)];exact I.hok.fresh (bDJ (bCB h l))) aK (a i) (j0 _ rfl) ⟨c',C,M,t,rfl,c7 _ k,hd,hv⟩
  ·rw[aR (t6 (bAB (j8 e) h))];exact n
  ·by_cases z:b=P
   ·subst z;exact⟨_,c7 _ D⟩
   ·exact⟨o,B b o z e⟩
  ·obtain⟨o,es,ep,e,r⟩:=hm;exact⟨o,es,ep,B _ o (p _ I.free) e,r⟩
  ·by_cases z:b=c'
   ·subst z;rw[aK] at e;cases e;exact⟨C,c7 _ k⟩
   ·rw[aR z] at e;by_cases y:b=P
    ·subst y;rw[i] at e;cases e;refine⟨_,c7 _ D,by rw[bDF];exact TriplesOk_snoc _ _ _ _ O,λJ Z L=>?_⟩;rw[bDF] at L;rcases PySem.W.aA0 _ O L with L|rfl
     ·obtain⟨c2,Y,a6,t2,rfl,G,V,a4,T⟩:=g J Z L;exact⟨c2,Y,a6,t2,rfl,a G,B _ _ (λz=>by rw[z,i] at G;cases G) V,a4,T⟩
     ·exact⟨c',C,M,t,rfl,aK,c7 _ k,hd,hv⟩
    ·refine (I.hok b u e).stay (λd v a0 r=>B d v ?_ r) (λd r=>a r) λd xs r=>a r;rcases a0 with rfl|r'
     ·exact y
     ·intro z;rw[z,i] at r';cases r'
open Classical in
noncomputable def aDv (S:Addr->Prop) (h:Heap) (H:Hp):Hp:=λb=>if S b then (h.get? b).map (ExO b) else H b
open Classical in
noncomputable def aD8 (S:Addr->Prop) (H Z:Hp):Hp:=λb=>if S b then H b else Z b
def oX (a:S b)(e:h.get? b=some o):aDv S h H b=some (ExO b o):=by unfold aDv;rw[if_pos a,e];rfl
def dU (a:¬ S b):aDv S h H b=H b:=by unfold aDv;rw[if_neg a]
def aCq (a:S b):aD8 S H Z b=H b:=by unfold aD8;rw[if_pos a]
def iI (a:¬ S b):aD8 S H Z b=Z b:=by unfold aD8;rw[if_neg a]
structure aC9 (X:Cx)(H:Hp)(h:Heap)(S:Addr->Prop):Prop where
 there:∀b,S b->∃o,h.get? b=some o
 own:∀d a o,¬ S a->H a=some o->H d=some (.own a)->¬ S d
 own2:∀d a o,S a->H a=some o->(∃e,o=.own e)\/(H d=some (.own a)->S d)
 tup:∀d xs,H d=some (.tup xs)->¬ S d
 frz:∀d o u,H d=some (.frz o u)->¬ S d
 tbl:∀d ps,H d=some (.tbl ps)->¬ S d
 base:∀b o,X.base.get? b=some o->¬ S b
 frs:∀b∈frs X.stack,¬ S b
theorem aC9.hok (p:aC9 X H s.heap S)(I:Inv X bFT σ H s):HOk X.prog X.w (aDv S s.heap H) s.heap:=by
 intro b o e;by_cases a:S b
 ·obtain⟨g,c⟩:=p.there b a;rw[oX a c] at e;cases e;exact bA6 c
 ·rw[dU a] at e;refine (I.hok b o e).stay (λ_ _ _ q=>q) (λd q=>?_) λd f q=>?_
  ·rw[dU (p.own d b o a e q)];exact q
  ·rw[dU (p.tup d f q)];exact q
def aC9.env0 (p:aC9 X H s.heap S)(I:Inv X bFT σ H s):aGe X.prog X.w X.K X.mg X.base X.A X.stack s (aDv S s.heap H):=
 ⟨I.ok.frames,I.ok.mod,λb o e=>⟨(I.bs b o e).1,by rw[dU (p.base b o e)];exact (I.bs b o e).2⟩,bAK I.ok.bsz I.sz,I.stack,λb a=>by rw[dU (p.frs b a)];exact I.wC b a,p.hok I,I.bare⟩
theorem aC9.after (p:aC9 X H s.heap S)(I:Inv X bFT σ H s)(h:CE X.stack X.prog X.w (aDv S s.heap H) s (λv Z=>Same (aDv S s.heap H) Z/\∀H4,Same H H4->Q v H4) u s'):EP X bFT σ Q u s':=by
 obtain⟨v,Z,F,m,j,t,C,A,q⟩:=h;have r:∀b o,S b->s.heap.get? b=some o->s'.heap.get? b=some o:=λb o g e=>(t b _ (A _ _ (oX g e))).1;have f:Same H (aD8 S H Z):=λb o e=>by
  by_cases g:S b
  ·rw[aCq g];exact e
  ·rw[iI g];exact A _ _ (by rw[dU g];exact e)
 refine I.after ⟨v,aD8 S H Z,F,m,⟨λb o e n g l=>?_,λb o e n g l=>?_,λb o e n l=>?_,j.there,λb y e=>?_,λb o u e=>?_,λb B e=>?_⟩,λb o e=>?_,C,q _ f⟩
 ·by_cases a:S b
  ·exact r b o a e
  ·exact j.keep b o e (by rw[dU a];exact n) g l
 ·exact j.slot b o e (by rw[dU (p.frs b g)];exact n) g l
 ·by_cases a:S b
  ·rw[aCq a];exact n
  ·rw[iI a];exact j.free b o e (by rw[dU a];exact n) l
 ·rw[iI (p.tup b y e)];exact j.tups b y (by rw[dU (p.tup b y e)];exact e)
 ·rw[iI (p.frz b o u e)];exact j.frzs b o u (by rw[dU (p.frz b o u e)];exact e)
 ·rw[iI (p.tbl b B e)];exact j.tbls b B (by rw[dU (p.tbl b B e)];exact e)
 ·by_cases a:S b
  ·rw[aCq a] at e;rcases p.own2 b b o a e with⟨x,rfl⟩|_
   ·obtain⟨k,i⟩:=p.there b a;exact⟨k,r b k a i⟩
   ·by_cases D:∃x,o=.own x
    ·obtain⟨x,rfl⟩:=D;obtain⟨k,i⟩:=p.there b a;exact⟨k,r b k a i⟩
    ·refine (I.hok b o e).stay (λc u hc E=>?_) (λd q=>f _ _ q) λd y q=>f _ _ q;rcases hc with rfl|hc
     ·exact r _ _ a E
     ·rcases p.own2 c b o a e with z|z
      ·exact absurd z D
      ·exact r _ _ (z hc) E
  ·rw[iI a] at e;refine (t b o e).stay (λ_ _ _ q=>q) (λd q=>?_) λd y q=>?_
   ·by_cases hd:S d
    ·obtain⟨k,i⟩:=p.there d hd;rw[A _ _ (oX hd i)] at q;cases q
    ·rw[iI hd];exact q
   ·by_cases hd:S d
    ·obtain⟨k,i⟩:=p.there d hd;rw[A _ _ (oX hd i)] at q;cases q
    ·rw[iI hd];exact q
end
section
variable {X:Cx}
def aTb (X:Cx)(iy:Nat)(P:Addr)(g x y:Str)(sp:Sp)(t:TA):TE:=fun σ H Q=>t σ H λvs H1=>∃z,σ[iy]?=some (some z)/\H1 P=some (.tab (X.env.qual++"<lambda>")) /\
 ∀f H2,wD H2 f (X.env.qual++"<lambda>") g x y z->(∀a xs,SqT X.K H1 a xs->SqT X.K H2 a xs)->sp (vs++[.ref f]) H2 (λr H3=>Same H2 H3/\∀H4,Same H1 H4->Q r H4) E0
theorem aL1
  (F:lY X.prog X.w X.K X.mg X.base CX0 k fa fd ps sp) (hr:Room k X.A) (ai:Gl X fn) (hm:X.mg fn=some (.ref fa)) (hk:PySem.W.keepIn X.K (.ref fa)=true) (hb:Binds X.K fd ps [])
  (h1:PE X e1 te1) (h2:PE X e2 te2) (h3:PE X e3 te3)
  (a8:X.env.code=.ref c) (CH:PySem.W.CodeHd X.base c P) (aj:BM X.mg X.base) (S:aY4 (X.env.qual++"<lambda>") g x y params body scope) (hN:X.N[iy]?=some y) (ag:X.env.kindOf y=some .cell) (D:X.env.cells.lookup y=some cp) (ae:X.fn y=true) (am:closureFor scope X.env=pure [(y,cp)]) (ah:defaultsOf params X.env=([],[]))
  (ak:(fn == ("__debug__":Str))=false:=by decide)
  (ab:starEach [e1,e2,e3,.Lambda params body scope lpos] X.env=[(false,eval e1 X.env),(false,eval e2 X.env),(false,eval e3 X.env),(false,eval (.Lambda params body scope lpos) X.env)]:=by rfl)
  (af:starEach [e2,e3,.Lambda params body scope lpos] X.env=[(false,eval e2 X.env),(false,eval e3 X.env),(false,eval (.Lambda params body scope lpos) X.env)]:=by rfl) :
  PE X (.Call (.Name fn p) [e1,e2,e3,.Lambda params body scope lpos] [] pos) (aTb X iy P g x y sp (gY te1 (gY te2 (gY te3 aF3)))):=by
 intro G s σ H Q I h;refine bBT (vZ I ai hm ?_ ak);refine PySem.W.callWith_K I.ok.mod.kin hk ?_ (by rw[ab,af]) (by rw[af];rfl);rw[ab];refine bCA (thn (h1 G s σ H _ I h) λT s1 ⟨v1,H1,I1,r1,q1⟩=>?_);refine bCA (thn (h2 G s1 σ H1 _ I1 q1) λY s2 ⟨v2,H2,I2,r2,q2⟩=>?_);refine bCA (thn (h3 G s2 σ H2 _ I2 q2) λU s3 ⟨v3,H3,I3,r3,q3⟩=>?_);obtain⟨z,hz,hP,q⟩:=q3;refine bCA (aQi I3 a8 CH hP aj am ah λf c' pm aa M h' tk v s4 E O a9 l ef a2=>bEO ⟨v.kIn,?_⟩);generalize a4:({ s3 with heap:=h',toks:=tk }:Shared)=s4' at v;have hh:s4'.heap=h':=by rw[<-a4]
 rw[<-hh] at ef a2;obtain⟨m,hn,hl⟩:=v.loc;obtain⟨u,ru,lk⟩:=hl iy y z hN hz (.inr (.inl ag));have L:s4'.heap.IsCell cp (some u):=by
  rcases lk with⟨k',_⟩|⟨_,c2,e,hc⟩
  ·rw[ag] at k';cases k'
  ·rw[D] at e;cases e;exact hc
 obtain⟨ol,J,V⟩:=id L;obtain⟨c2,oc,vs,t,ac,a7,a5,hv⟩:=a2;cases ac;have j:=v.freeC y cp D;obtain⟨v0,ov,ad,_⟩:=I3.cell y cp D;have al:=bAB (j8 ad) E;have PO:aC9 X M s4'.heap (λb=>b=f\/b=cp\/b=P\/M b=some (.own P)):=by
  refine⟨λb hb=>?_,λd a o ha n B hd=>?_,λd a o ha n=>?_,λd xs e hd=>?_,λd o u e hd=>?_,λd ps e hd=>?_,λb o e hd=>?_,λb hb hd=>?_⟩
  ·rcases hb with rfl|rfl|rfl|hb
   ·exact⟨_,ef⟩
   ·exact⟨_,J⟩
   ·obtain⟨ps,e,_⟩:=v.hok _ _ l;exact⟨_,e⟩
   ·exact v.hok _ _ hb
  ·rcases hd with rfl|rfl|rfl|hd
   ·rw[O] at B;cases B
   ·rw[j] at B;cases B
   ·rw[l] at B;cases B
   ·rw[hd] at B;cases B;exact ha (.inr (.inr (.inl rfl)))
  ·rcases ha with rfl|rfl|rfl|ha
   ·rw[O] at n;cases n
   ·rw[j] at n;cases n
   ·exact .inr λq=>.inr (.inr (.inr q))
   ·rw[ha] at n;cases n;exact .inl ⟨_,rfl⟩
  ·rcases hd with rfl|rfl|rfl|hd
   ·rw[O] at e;cases e
   ·rw[j] at e;cases e
   ·rw[l] at e;cases e
   ·rw[hd] at e;cases e
  ·rcases hd with rfl|rfl|rfl|hd
   ·rw[O] at e;cases e
   ·rw[j] at e;cases e
   ·rw[l] at e;cases e
   ·rw[hd] at e;cases e
  ·rcases hd with rfl|rfl|rfl|hd
   ·rw[O] at e;cases e
   ·rw[j] at e;cases e
   ·rw[l] at e;cases e
   ·rw[hd] at e;cases e
  ·have i:=(v.bs b o e).2;have a1:=bAB (j8 e) I.ok.bsz;rcases hd with rfl|rfl|rfl|hd
   ·exact absurd (bAB a1 (bAK I3.sz E)) (bBO _)
   ·exact absurd (bAB a1 (I.ok.cab y _ ae D)) (bBO _)
   ·rw[l] at i;cases i
   ·rw[hd] at i;cases i
  ·have i:=v.wC b hb;rcases hd with rfl|rfl|rfl|hd
   ·obtain⟨_,o,n,_⟩:=I3.stack.mem hb;exact absurd (bAB (j8 n) E) (bBO _)
   ·rcases List.mem_cons.mp (v.aG5 _ hb) with e|hb'
    ·obtain⟨o,es,ep,n,B,_⟩:=hn;rw[<-e,J] at n;cases n;rw[V] at B;cases B
    ·obtain⟨_,o,n,_⟩:=I.ok.funs.mem hb';exact absurd (bAB (j8 n) (I.ok.cab y _ ae D)) (bBO _)
   ·rw[l] at i;cases i
   ·rw[hd] at i;cases i
 have LA:wD (aDv (λb=>b=f\/b=cp\/b=P\/M b=some (.own P)) s4'.heap M) f (X.env.qual++"<lambda>") g x y z:=
  ⟨params,body,scope,cp,c',pm,aa,oc,ol,u,vs,t,S,oX (.inl rfl) ef,oX (.inr (.inl rfl)) J,λh e=>⟨ol,e,V⟩,ru,oX (.inr (.inr (.inr a9))) a7,a5,hv⟩
 have hq:=q f _ LA λb xs e=>by
  rcases s4.bB e with (e|⟨ob,e⟩)|e
  ·exact .inl (.inl (by rw[dU (PO.tup b xs e)];exact e))
  ·exact .inl (.inr ⟨ob,by rw[dU (PO.frz b ob _ e)];exact e⟩)
  ·exact .inr e
 have r:Vals [v1,v2,v3,.ref f] [T,Y,U,.ref f]:=.cons r1 (.cons r2 (.cons r3 (.cons rfl .nil)));have a0:([T,Y,U,Value.ref f]++([]:List Value)).length=ps.length:=by rw[bCV,<-r.length];exact F.len _ _ _ _ hq
 refine bEZ (bCQ (F.run X.A X.stack s4' (aDv (λb=>b=f\/b=cp\/b=P\/M b=some (.own P)) s4'.heap M) ⟨[T,Y,U,.ref f],[]⟩ [T,Y,U,.ref f] [v1,v2,v3,.ref f] _ E0 hr (PO.env0 v) (by simpa using hb s4' [T,Y,U,.ref f] v.kIn a0) r hq) λrr s' C=>?_);cases rr with
 |error e=>exact C.elim
 |ok fl=>
  cases fl with
  |next=>exact False.elim C
  |brk=>exact False.elim C
  |cont=>exact False.elim C
  |ret uu=>obtain⟨v',Z,os,R,un,a3,a6,sm,qq⟩:=C;exact PO.after v ⟨v',Z,os,R,un,a3,a6,sm,λH4 s5=>qq H4 (s4.trans s5)⟩
def aQa {n:Str}{p pos:Pos}{e:Expr}{es:List Expr}{te:TE}{t:TA}{P:Program}{w:World}{K:bFP}{mg:bFS}{base:Heap}{k:Nat}(j:Room (k+1) X.A)(d:VE X (.Name n p) te)(b:VA X (e::es) t)(h:dH e=true:=by rfl)(a:(backTo pos (starEach es X.env)).any (·.1)=false:=by rfl)
  (l:X.prog=P:=by rfl) (c:X.w=w:=by rfl) (i:X.K=K:=by rfl) (f:X.mg=mg:=by rfl) (g:X.base=base:=by rfl) :
  VE X (.Call (.Name n p) (e::es) [] pos) (aS9 P w K mg base k te t):=by
 subst l c i f g;exact⟨aS2 j d.1 b.1 (aW h) a⟩
def aNe
  (G:Ok X.prog X.w X.K X.mg X.base k fn ps sp) (B:Room k X.A) (q:Gl X fn) (H:VE X e1 te1) (v:VE X e2 te2) (C:VE X e3 te3)
  (a:X.env.code=.ref c) (D:PySem.W.CodeHd X.base c P) (t:BM X.mg X.base) (S:aY4 (X.env.qual++"<lambda>") g x y params body scope) (z:X.N[iy]?=some y) (s:X.env.kindOf y=some .cell) (j:X.env.cells.lookup y=some cp) (m:X.fn y=true) (n:closureFor scope X.env=pure [(y,cp)]) (e:defaultsOf params X.env=([],[]))
  (f:dH e1=true:=by rfl) (b:dH e2=true:=by rfl) (d:dH e3=true:=by rfl) (o:(fn == ("__debug__":Str))=false:=by decide)
  (r:starEach [.Lambda params body scope lpos] X.env=[(false,eval (.Lambda params body scope lpos) X.env)]:=by rfl) :
  VE X (.Call (.Name fn p) [e1,e2,e3,.Lambda params body scope lpos] [] pos) (aTb X iy P g x y sp (gY te1 (gY te2 (gY te3 aF3)))):=by
 obtain⟨E,F,i,h,u,l⟩:=G;refine⟨aL1 l B q i h u H.1 v.1 C.1 a D t S z s j m n e o ?_ ?_⟩
 ·rw[aW f,aW b,aW d,r]
 ·rw[aW b,aW d,r]
end
end L2
namespace HT
open PySem PySem.Spec PyProof.Rows L2
section
variable {prog:Program}{w:World}{A:Around}{E:bFQ}{s:Shared}
def tK {t C:Addr}{a:Array Value}{vl vu:Value}{lo hi:Option Int}{Q:bFQ}(c:IsTup s.heap t a)(r:s.heap.IsSliceOf C vl vu .none)(pl:IsPart vl lo)(y:IsPart vu hi)
  (u:sIx a.size 0 lo=0/\sIx a.size a.size hi=a.size) (h:Q (.ref t) s):wpAny (model prog w) A (getItem (.ref t) (.ref C)) Q E s:=by
 obtain⟨q,i,e,m⟩:=id r;have f:s.TypeIs (.ref C) "slice":=⟨q,i,e⟩;obtain⟨⟨p,B,j,o⟩,v,k,n,hd⟩:=id c;simp only at k hd;subst k hd;unfold getItem
 try with_reducible refine bAS ?_
 first|refine b7 (d7 ?_)|skip
 refine b7 (wpAny_sequenceKey c.typeIs (by decide) ?_);refine b7 (bAI c.typeIs bCL
  (bAG bCL c.typeIs entry_tuple_getitem ?_ (args_tuple_getitem _ _)))
 show wpAny _ _ (Builtin.Tuple.tupleItemsOf (.ref t) >>= _) _ _ s;refine b7 (tupleItemsOf_ c ?_);refine b7 (bDY f ?_);rw[if_pos (by decide)];refine b7 (oK r pl y ?_);have b:((((sIx a.size 0 lo:Nat):Int) == 0 && (1:Int) == 1 && (sIx a.size a.size hi - sIx a.size 0 lo) == a.size)=true):=by rw[u.1,u.2];simp
 show wpAny _ _ (if (((sIx a.size 0 lo:Nat):Int) == 0 && (1:Int) == 1 && (sIx a.size a.size hi - sIx a.size 0 lo) == a.size)=true then _ else _) _ _ s;rw[if_pos b];obtain⟨z,g,d,x,l⟩:=s;wp_walk using AutoSeq1.wpAny_loadPart' v;exact⟨_,rfl,d7 h⟩
end
end HT
namespace L2
open PySem PySem.Spec PyProof.Rows
def bDz (K:bFP):V->Option Int->Option Int->Hp->VK->Prop:=λx lo hi H Q=>∃a xs,x=.ref a/\SqT K H a xs/\∀p H',Same H H'->SqT K H' p (pH xs lo hi)->Q (.ref p) H'
def aGz:SlR X (bDz X.K):=by
 intro j s σ H x v w B k g y Q I m o t n h;obtain⟨a,b,rfl,f,q⟩:=h;by_cases d:HT.sIx b.length 0 k=0/\HT.sIx b.length b.length g=b.length
 ·cases m;obtain⟨i,r,l,C⟩:=I.tuple f;have c:i.toArray.size=b.length:=by rw[d9];exact r.length.symm
  refine⟨"tuple",_,PyProof.Rows.slot_tuple_getitem.lookup,l.typeIs,?_⟩;refine HT.tK l o t n (by rw[c];exact d) ⟨.ref a,H,I,rfl,q a H (Same.refl H) ?_⟩;have e:pH b k g=b:=by unfold pH;rw[d.1,d.2,List.drop_zero,Nat.sub_zero,bCN]
  rw[e];exact f
 ·exact vY j s σ H _ v w B k g y Q I m o t n ⟨a,b,rfl,f,d,λp z u A=>q p z u (SqT.of A)⟩
end L2
namespace L2
open PySem PySem.Spec PyProof.Rows
section
variable {X:Cx}
end
inductive PH (P:Program)(w:World):List DictEntry->List (Str × Value)->Prop
 |nil:PH P w [] []
 |cons {e:DictEntry} {kv:Str × Value} {es:List DictEntry} {kvs:List (Str × Value)}:(strKind P w).is kv.1 e.key=true->e.hash=(strKind P w).hash kv.1->e.val=kv.2->PH P w es kvs->PH P w (e::es) (kv::kvs)
end L2
namespace PySem
def aAa:typeLookup (.type "tuple") "keys"=pure none:=am_miss_of_fast (by decide +kernel)
def aB7:typeLookup (.type "list") "keys"=pure none:=am_miss_of_fast (by decide +kernel)
section
variable {prog:Program}{w:World}{A:Around}{E:bFQ}{s:Shared}
def aGp (m:s.heap.get? a=some o)(r:o.cls=.type "tuple")(i:o.data=.seq xs k)(hd:o.dict=none)(y:A.handled=none)
  (h:∀h' tk,(∀b u,s.heap.get? b=some u->h'.get? b=some u)->Q none { s with heap:=h',toks:=tk }):wpAny (model prog w) A (getAttr? (.ref a) "keys") Q E s:=by
 obtain⟨c,p,q,v⟩:=o;simp only at r i hd;subst r i hd;obtain⟨t,g,d,tk,n⟩:=s;have l:∀j,(⟨t,g,d,j,n⟩:Shared).TypeIs (.ref a) "tuple":=λ_=>⟨_,m,rfl⟩;have C:=sub_AttributeError;have G:=F.slot_tuple_getattribute.lookup;have x:=F.slot_tuple_getattribute.bind (.ref a);have D:=am_tuple_getattr_none;unfold getAttr? getAttrBy? getAttrBy
 repeat (any_goals (first|assumption|exact l _|((with_reducible show wpAny _ _ (call (Value.builtin "tuple.__getattribute__") _ _) _ _ _);refine call_meets F.slot_tuple_getattribute (l _) am_entry_tuple_getattribute (F.args_tuple_getattribute_2 _ _) (meets_getattribute_miss_tuple a xs k v "keys" _ aAa (by decide +kernel) (by size_fits)) ⟨m,y,λh' j e f=>?_⟩)|wp_step))
 obtain⟨B,z,H⟩:=f.there;unfold getattributeRaised
 repeat (any_goals (first|assumption|wp_step))
 exact h _ _ f.keeps
end
end PySem
namespace PySem
def jG:entryFor table "dict.update.loop"=some Builtin.«dict.update.loop»:=entryFor_of_tree (by kernel_rfl)
def cQ:plainId "dict.update.loop"=true:=by decide +kernel
section
variable {prog:Program}{w:World}{κ:Type}[DecidableEq κ]{knd:KeyKind prog w κ}
def qM (knd:KeyKind prog w κ)(h:Heap)(v:Value)(kv:κ × Value):Prop:=∃p key,v=.ref p/\PyProof.Rows.IsTup h p #[key,kv.2]/\knd.is kv.1 key=true
def qM.at (x:qM knd h v kv)(k:∀p,v=.ref p->∀o,h.get? p=some o->h'.get? p=some o):qM knd h' v kv:=by obtain⟨p,a,rfl,⟨o,c,r⟩,b⟩:=x;exact⟨p,a,rfl,⟨o,k p rfl o c,r⟩,b⟩
theorem pW (W:Walks prog w A.in1 I fp wr n P St)(D:Addr)(hD:D∉fp)
  (kvs:List (κ × Value)) (a0:kvs.length=n) (hb:n<=1000) (hP:∀i v,P i v->∀p,v=.ref p->p∉D::wr) :
  ∀k i s t,i+k=n->St i s.heap->s.heap.DictOf knd D (merged [] (kvs.take i))->(∀j v kv,P j v->kvs[j]?=some kv->qM knd s.heap v kv) ->
   (∀h' tk,(∀b o,b∉D::wr->s.heap.get? b=some o->h'.get? b=some o)->h'.DictOf knd D (merged [] kvs)->R (.ok (.ret .none)) { s with heap:=h',toks:=tk }) ->
   codeAny (model prog w) A (.builtin "dict.update.loop" ⟨[.ref D,.ref I,.int (i:Nat) t,.none],[]⟩) R s:=by
 have u:D∉wr:=λq=>hD (W.sub _ q);intro k
 induction k with
 |zero=>
  intro i s t hi K hd Z q;obtain rfl:i=n:=by lia
  refine bBG jG ?_;rw[bAZ cQ _];refine b7 (W.done s _ _ K λh' tk B=>?_);refine b7 (d7 (d7 (q h' tk (λb o a e=>B b o (λz=>a (j5 _ z)) e) ?_)));rw[bAV (bFB a0)] at hd;exact hd.at λo e=>B D o u e
 |succ k ih=>
  intro i s t hi K hd Z q;refine bBG jG ?_;rw[bAZ cQ _];refine b7 (W.item i s _ _ (by lia) K λv C f hv V l=>?_);have S:i<kvs.length:=by lia
  have y:=b8 S;have O:=hd.at λo e=>l D o u e;have x:∀j v kv,P j v->kvs[j]?=some kv->qM knd C v kv:=λj v kv pj e=>(Z j v kv pj e).at λp X o F=>l p o (λz=>hP j v pj p X (j5 _ z)) F;obtain⟨p,L,rfl,⟨⟨oc,od,ox,a1⟩,ho,hc,m,Y⟩,hk⟩:=x i v _ hv y;simp only at hc Y;subst hc Y;have J:(merged [] (kvs.take i)).length<=i:=by have:=merged_length_le [] (kvs.take i);rw[bAH] at this;simp only[bCK] at this;lia
  obtain⟨N,g,d,tk,G⟩:=s;have hT:(⟨C,g,d,f,G⟩:Shared).TypeIs (.ref p) "tuple":=⟨_,ho,rfl⟩;have H:∀Q E,Q [L,kvs[i].2] ⟨C,g,d,f,G⟩->wpAny (model prog w) A.in1 (Builtin.Dict.pairItems (.ref p)) Q E ⟨C,g,d,f,G⟩:=by intro Q E h;unfold Builtin.Dict.pairItems;wp_walk;exact h
  refine b7 (bAS (b7 (wpAny_tryCatch (H _ _ ?_))));refine bAS (wpAny_dictSet_pairs hk O (λh2 r c=>?_) (bAK J (bAK (by lia) (show 1000<=sizeLine by decide))));have e1:=merged_take_succ [] kvs i _ y;rw[<-e1] at r;refine d7 ⟨bCE cQ _,?_⟩;have M:∀b o,b∉D::wr->N.get? b=some o->h2.get? b=some o:=λb o a e=>by rw[c.2 b (λz=>a (by rw[z];exact j7))];exact l b o (λz=>a (j5 _ z)) e
  refine ih (i+1) _ _ (by lia) (W.frame _ _ _ V λb hb o e=>?_) r (λj v kv pj e=>(x j v kv pj e).at λp' X o F=>?_) λh' T B U=>q h' T (λb o a e=>B b o a (M b o a e)) U
  ·rw[c.2 b (λz=>hD (by rw[<-z];exact hb))];exact e
  ·rw[c.2 p' (λz=>hP j v pj p' X (by rw[z];exact j7))];exact F
end
end PySem
namespace PySem
section
variable {prog:Program}{w:World}{κ:Type}[DecidableEq κ]{knd:KeyKind prog w κ}{A:Around}{E:bFQ}{s:Shared}
def aAc {t:Addr}{its:Array Value}{kvs:List (κ × Value)}{Q:bFQ}(u:A.handled=none)(W:PyProof.Rows.IsTup s.heap t its)(hd:∀o,s.heap.get? t=some o->o.dict=none)(g:kvs.length=its.size)(U:its.size<=1000)
  (N:∀(j:Nat) (v:Value) (kv:κ × Value),its[j]?=some v->kvs[j]?=some kv->qM knd s.heap v kv)
  (q:∀h' tk,h'.DictOf knd s.heap.objs.size (merged [] kvs)->(∀b o,s.heap.get? b=some o->h'.get? b=some o)->Q (.ref s.heap.objs.size) { s with heap:=h',toks:=tk }) :
  wpAny (model prog w) A (call (.type "dict") [.ref t]) Q E s:=by
 refine callType_codes (Q₁:=λk H=>k=.ref s.heap.objs.size/\H={ s with heap:=s.heap.push { cls:=.type "dict",data:=.dict #[] } }) F.kt_called_dict (F.kt_typeCall_dict_1 _) F.entry_dict_init (kt_code_dict_new _ ⟨rfl,rfl⟩) ?_;rintro k H ⟨rfl,rfl⟩;have a:(s.heap.push { cls:=.type "dict",data:=.dict #[] }).DictOf knd s.heap.objs.size []:=Heap.DictOf.new s.heap;obtain⟨o,y,D,n,G⟩:=id W;have C:=hd o y;have f:(s.heap.push { cls:=.type "dict",data:=.dict #[] }).get? t=some o:=c7 _ y;have O:Shared.TypeIs { s with heap:=s.heap.push { cls:=.type "dict",data:=.dict #[] } } (.ref t) "tuple":=⟨o,f,D⟩;have h:t<s.heap.objs.size:=j8 y;refine⟨a.typeIs,F.args_dict_init_2 _ _,?_⟩;unfold Builtin.«dict.__init__»;refine b7 ?_;unfold Builtin.Dict.selfAndRest;refine b7 (bEY a.typeIs ?_);show wpAny _ _ (pure (s.heap.objs.size,[Value.ref t])) _ _ _;refine d7 ?_;show wpAny _ _ (Builtin.Dict.updateFrom "dict.__init__" s.heap.objs.size (.ref t) [] .none) _ _ _;unfold Builtin.Dict.updateFrom;refine b7 (bDY O ?_);rw[if_pos (by decide)];refine b7 (aGp f D G C (by first|exact u|simp[u]) λm S c=>?_);rw[if_pos (show (none:Option Value).isNone=true from rfl)];have r:m.get? t=some o:=c _ _ f;have l:m.IsTuple t its:=⟨o,r,D,n,G⟩;refine b7 (bCY (b7 (bEH l ?_)));have L:(s.heap.push { cls:=.type "dict",data:=.dict #[] }).objs.size=s.heap.objs.size+1:=bAW ..;have d:s.heap.objs.size<m.objs.size:=by obtain⟨Y,_,_,R,_⟩:=id a;exact j8 (c _ _ R)
 refine d7 ⟨bCE cQ _,?_⟩;have x:t≠m.objs.size:=t6 (bDD h d);refine pW (knd:=knd) (Walks.tuple (by first|exact u|simp[u]) _ t x its) s.heap.objs.size ?_ kvs g U ?_ its.size 0 _ _ (by lia) ⟨⟨_,j0 _ rfl,rfl,rfl⟩,l.push _⟩ ?_ ?_ λh' tk P B=>?_
 ·simp only[bAD,w6,or_false,not_or];exact⟨t6 d,bCP h⟩
 ·intro j v e p T;have M:j<kvs.length:=by rw[g];exact (Array.getElem?_eq_some_iff.mp e).1
  obtain⟨V,I,i,⟨X,z,_⟩,_⟩:=N j v _ e (b8 M);rw[T] at i;cases i;have:=j8 z;simp only[bAD,w6,or_false,not_or];exact⟨t6 this,t6 (bDD this d)⟩
 ·exact (a.at λo e=>c _ _ e).at λo e=>c7 _ e
 ·intro j v kv e K;exact (N j v kv e K).at λp _ o J=>c7 _ (c _ _ (c7 _ J))
 ·refine⟨rfl,q h' tk B λb o e=>P b o ?_ (c7 _ (c _ _ (c7 _ e)))⟩;have:=j8 e;simp only[bAD,w6,or_false,not_or];exact⟨t6 this,t6 (bDD this d)⟩
end
end PySem
namespace PySem
open PySem.Calls PyProof.Rows
section
variable {prog:Program}{w:World}{κ:Type}[DecidableEq κ]{knd:PySem.KeyKind prog w κ}{A:Around}{E:bFQ}{s:Shared}
theorem aPl (nm:κ->Str):∀(kvs:List (κ × Value)) (vs:List Value),vs.length=kvs.length->(∀(j:Nat) (v:Value),vs[j]?=some v->∃kv t,kvs[j]?=some kv/\v=.str (nm kv.1) t)->StrsAre vs (kvs.map λkv=>nm kv.1)
 |[],[],_,_=>.nil
 |kv::kvs,v::vs,hl,h=>by obtain⟨a,t,e,rfl⟩:=h 0 v rfl;cases e;exact .cons _ t (aPl nm kvs vs (by simpa using hl) λj v e=>h (j+1) v (by simpa using e))
end
end PySem
namespace L2
open PySem PySem.Spec PyProof.Rows
section
variable {X:Cx}
abbrev oA (K:bFP)(H:Hp):List V->List (Key × V)->Prop:=Paired λu kv=>∃p,u=.ref p/\SqT K H p [kV kv.1,kv.2]
theorem aR2 (I:Inv X bFT σ H s)(h:oA X.K H us kvs):∀{its:List Value},Vals us its ->
  ∃vs:List (Key × Value),KV kvs vs/\vs.length=its.length/\∀(j:Nat) (v:Value) (kv:Key × Value),its[j]?=some v->vs[j]?=some kv->qM (bK X.prog X.w) s.heap v kv:=by
 induction h with
 |nil=>intro its c;cases c;exact⟨[],.nil,rfl,λj v kv e _=>by simp at e⟩
 |@cons u kv us kvs r t ih=>
  intro its c;cases c with
  |cons q z=>
   obtain⟨p,rfl,n⟩:=r;cases q;obtain⟨y,f,m,x⟩:=I.tuple n;obtain⟨vs,o,g,i⟩:=ih z;obtain⟨a,val,rfl,l,k⟩:=vals2 f;refine⟨(kv.1,val)::vs,.cons ⟨rfl,k⟩ o,by rw[t8,t8,g],λj v b e d=>?_⟩;cases j with
   |zero=>cases e;cases d;exact⟨p,a,rfl,m,zH l⟩
   |succ j=>exact i j v b (by simpa using e) (by simpa using d)
def bAr (K:bFP):List V->Hp->VK->Prop:=λxs H Q=>∃t us kvs,xs=[.ref t]/\SqT K H t us/\oA K H us kvs/\us.length<=1000/\∀p H',H p=none->Same H H'->H' p=some (.dK (pA [] kvs))->Q (.ref p) H'
def aMp (N:X.calm=true):cJ X (.type "dict") (bAr X.K):=by intro z s σ H M k Q I r h;obtain⟨t,k,kvs,rfl,i,m,G,q⟩:=h;obtain⟨u,rfl,g⟩:=vals1 r;cases g;obtain⟨n,c,⟨C,B⟩,E⟩:=I.bDy i;have L:=c.length;obtain⟨l,b,x,A⟩:=aR2 I m c;have J:=KV.length b;refine aAc (knd:=bK X.prog X.w) (kvs:=l) (I.ok.hd N) C B (by rw[d9];exact x) (by rw[d9];lia) (λj v d e p=>A j v d (by simpa using e) p) λF y hd D=>?_;have a:H s.heap.objs.size=none:=I.hok.fresh (d8 _);refine⟨.ref s.heap.objs.size,_,I.laid (t':=y) (o:=.dK (pA [] kvs)) D (d8 _) ?_,rfl,q _ _ a (bC a _) aK⟩;have f:=nY kvs [];simp only[bCK] at f;exact⟨small (by lia),beq_eq_false_iff_ne.mpr (Ne.symm (t6 I.big)),_,KV.merge b .nil,hd⟩
theorem mU:∀kvs acc,((acc++kvs).map (·.1)).Nodup->pA acc kvs=acc++kvs
 |[],acc,_=>by simp[pA]
 |kv::r,acc,h=>by
  have a:eV acc kv.1=none:=by
   cases e:eV acc kv.1 with
   |none=>rfl
   |some v=>exfalso;have:=aYa e;rw[bAT,List.nodup_append] at h;exact h.2.2 _ this _ (by rw[bAC];exact j7 ..) rfl
  show pA (putK acc kv.1 kv.2) r=_;rw[aCt _ a,mU r _ (by rw[bCS];exact h),bCS];rfl
theorem aE2:∀{vs:List Value} {ss:List Str},StrsAre vs ss->Vals (ss.map V.str) vs
 |_,_,.nil=>.nil
 |_,_,.cons x t h=>.cons ⟨t,rfl⟩ (aE2 h)
end
section
variable {X:Cx}{e st:Expr}{te ts:TE}{pos p2:Pos}
end
section
variable {X:Cx}{o i value:Expr}{td ty tv:TE}{pos pos':Pos}
def nG (a:X.A.units+1<cLine)(b:VE X o td)(hi:VE X i ty)(d:VE X value tv)(c:swapsWith value (some (.Subscript o i pos')) pos.line X.env=pure false:=by rfl):VS X (.Assign [.Subscript o i pos'] value pos) (aYg td ty tv):=⟨aVr a b.1 hi.1 d.1 c⟩
end
def aSl (a:VE X o to)(hi:VE X i ti)(b:bBg X t)
  (c:∀v,assign (.Subscript o i pos) X.env v=(do
   let ov <-holding [v] (eval o X.env)
   let iv <-holding [v,ov] (eval i X.env)
   standAt pos
   holding [v,ov,iv] (setItem ov iv v)
   release [v,ov,iv] []):=by intro _;rfl):VG X (.Subscript o i pos) (bB6 to ti t):=⟨aZx a.1 hi.1 b c⟩
def aH8:MtR X "list.reverse" aKs:=aN1
end L2
namespace PySem
abbrev pZ (t:Addr)(i:Nat):Obj:={ cls:=.type "list_iterator",data:=.fields #[.ref t,.int (i:Int) 0] }
section
variable {prog:Program}{w:World}{A:Around}{E:bFQ}{s:Shared}
def uB (a:s.heap.get? it=some (pZ t i))(g:s.heap.IsList t its)(e:its[i]?=some x)
  (q:∀h',h'.get? it=some (pZ t (i+1))->Heap.SameBut it s.heap h'->Q x { s with heap:=h' }):wpAny (model prog w) A (Builtin.SmallTypes.nextOf (.ref it)) Q E s:=by
 have d:s.TypeIs (.ref it) "list_iterator":=⟨_,a,rfl⟩;obtain⟨h,c,_,f,b⟩:=g;unfold Builtin.SmallTypes.nextOf;refine b7 (bAI d slot_listiter_next (bAG slot_listiter_next d entry_listiter_next ?_ (args_listiter_next _)));refine b7 (m:=field (.ref it) 0) (bAN a rfl (x:=.ref t) rfl ?_);refine (if_neg (show ¬ ((Value.ref t == Value.none)=true) from v6)).symm ▸ ?_;refine b7 (bAN a rfl rfl ?_);refine b7 (bAU c b ?_);simp only[bAR,e];refine b7 (bDH a rfl (by simp) (d7 ⟨x,rfl,d7 (q _ ?_ (bAX ..))⟩));exact bBI _ a rfl
end
section
variable {prog:Program}{w:World}{κ:Type}[DecidableEq κ]{knd:KeyKind prog w κ}
end
end PySem
namespace PySem
section
variable {prog:Program}{w:World}{A:Around}{E:bFQ}{s:Shared}
end
section
variable {prog:Program}{w:World}{κ:Type}[DecidableEq κ]{knd:KeyKind prog w κ}{A:Around}{E:bFQ}{s:Shared}
end
end PySem
namespace L2
open PySem PySem.Spec PyProof.Rows
section
variable {X:Cx}{a b:Expr}{ta:TA}{pos p pos2 p2:Pos}
end
end L2
namespace PySem
section
variable {prog:Program}{w:World}{A:Around}{E:bFQ}{s:Shared}
def qL (f:A.handled=none)(a:s.heap.get? it=some (pZ t i))(j:s.heap.IsList t its)(g:its[i]?=none)
  (q:∀h' e,Heap.ExtBut it s.heap h'->(∃o,h'.get? e=some o/\o.cls=.type "StopIteration")->E (.ref e) { s with heap:=h' }):wpAny (model prog w) A (Builtin.SmallTypes.nextOf (.ref it)) Q E s:=by
 have d:s.TypeIs (.ref it) "list_iterator":=⟨_,a,rfl⟩;obtain⟨k,c,_,h,b⟩:=j;unfold Builtin.SmallTypes.nextOf;refine b7 (bAI d slot_listiter_next (bAG slot_listiter_next d entry_listiter_next ?_ (args_listiter_next _)));refine b7 (m:=field (.ref it) 0) (bAN a rfl (x:=.ref t) rfl ?_);refine (if_neg (show ¬ ((Value.ref t == Value.none)=true) from v6)).symm ▸ ?_;refine b7 (bAN a rfl rfl ?_);refine b7 (bAU c b ?_);simp only[bAR,g];refine b7 (bCY (b7 (bDH a rfl (by simp) ?_)));unfold Builtin.SmallTypes.stopIteration;refine b7 ?_;simp only[newExc,newTuple];refine b7 (bAO ?_ (by size_fits));refine b7 (bEM (by first|rfl|(simp only[firstArgMember];rfl)) ?_);refine bAO ?_ (by size_fits);simp only[raiseNew];refine b7 (bE3 ?_);first|rw[show A.in1.handled=none from f]|rw[f]
 refine b7 (d7 (bFI ?_));exact q _ _ (((bAX ..).extBut.push _).push _) ⟨_,j0 _ rfl,rfl⟩
def aMc {z TI TO U T t u:Addr}{k:Nat}{xs ys:Array Value}{x y a b:Value}{Q:Option Value->Shared->Prop}(D:pL z TI TO U T)
  (p:s.heap.get? z=some (kY .none TI TO)) (a0:s.heap.get? TI=some (eU (.ref U) (.ref T))) (a1:s.heap.get? TO=some (eU a b))
  (g1:s.heap.get? U=some (pZ t k)) (g2:s.heap.get? T=some (pZ u k)) (ht:s.heap.IsList t xs) (hu:s.heap.IsList u ys) (hx:xs[k]?=some x) (hy:ys[k]?=some y)
  (t1:t≠z) (t2:t≠TO) (t3:t≠U) (t4:t≠T) (u1:u≠z) (u2:u≠TO) (u3:u≠U) (u4:u≠T)
  (q:∀h',h'.get? z=some (kY (rawInt s.heap.objs.size) TI TO)->h'.get? TO=some (eU x y)->h'.get? U=some (pZ t (k+1))->h'.get? T=some (pZ u (k+1))->h'.get? s.heap.objs.size=some (eU x y) ->
   (∀c o,c≠z->c≠TO->c≠U->c≠T->s.heap.get? c=some o->h'.get? c=some o)->Q (some (.ref s.heap.objs.size)) { s with heap:=h' }) :
  wpAny (model prog w) A (pyNext (.ref z)) Q E s:=by
 have X:s.TypeIs (.ref z) "zip":=⟨_,p,rfl⟩;unfold pyNext;refine b7 (bCD (bAI (name:=Str.ofString "__next__") X F.slot_zip_next (bAG F.slot_zip_next X F.entry_zip_next ?_ (F.args_zip_next_1 _))));refine b7 (m:=field (.ref z) 2) (bAN p rfl (x:=.bool false) rfl ?_);refine b7 (m:=field (.ref z) 3) (bAN p rfl (x:=.ref TI) rfl (b7 (bAU a0 rfl ?_)));refine b7 (m:=Builtin.SmallTypes.ownedTupleIsFree (.ref z)) ?_;unfold Builtin.SmallTypes.ownedTupleIsFree;refine b7 (bAN p rfl (x:=.none) rfl (d7 ?_));simp only[if_true];refine b7 (bCY (b7 (bAN p rfl (x:=.ref TO) rfl (b7 (bAL p (by simp) λY N g=>?_)))));replace N:Y.get? z=some (kY .ellipsis TI TO):=N;refine b7 ?_;simp only[bDZ,bEF,bDC,bEP];refine b7 (b7 (bDE ?_));refine b7 (m:=Builtin.SmallTypes.nextOf (.ref U)) (uB (s:={ s with heap:=Y }) (g.extBut _ _ D.h3 g1) (ht.extBut g.extBut t1) hx λZ K j=>d7 ?_);have B:Z.get? TO=some (eU a b):=j.extBut _ _ D.h8 (g.extBut _ _ D.h2 a1);refine b7 (bAU B rfl (b7 (wA (s:={ s with heap:=Z }) B λh3 h l=>b7 (bE9 (d7 ?_)))));replace h:h3.get? TO=some (eU x b):=h;refine b7 (b7 (bDE ?_));refine b7 (m:=Builtin.SmallTypes.nextOf (.ref T)) (uB (s:={ s with heap:=h3 }) (l.extBut _ _ D.h9.symm (j.extBut _ _ D.h10.symm (g.extBut _ _ D.h4 g2))) (((hu.extBut g.extBut u1).extBut j.extBut u3).extBut l.extBut u2) hy λW O n=>d7 ?_);have v:W.get? TO=some (eU x b):=n.extBut _ _ D.h9 h;refine b7 (bAU v rfl (b7 (wA (s:={ s with heap:=W }) v λd f C=>b7 (bE9 (d7 (d7 ?_))))));replace f:d.get? TO=some (eU x y):=f;refine b7 (bAU f rfl (b7 (bEQ ?_)));have r:d.objs.size=s.heap.objs.size:=by rw[C.1,n.1,l.1,j.1,g.1]
 have z5:d.get? z=some (kY .ellipsis TI TO):=C.extBut _ _ D.h2.symm (n.extBut _ _ D.h4.symm (l.extBut _ _ D.h2.symm (j.extBut _ _ D.h3.symm N)));have kp:∀c o,c≠z->c≠TO->c≠U->c≠T->s.heap.get? c=some o->d.get? c=some o:=λc o i H L R e=>C.extBut _ _ H (n.extBut _ _ R (l.extBut _ _ H (j.extBut _ _ L (g.extBut _ _ i e))));have M:d.get? U=some (pZ t (k+1)):=C.extBut _ _ D.h8.symm (n.extBut _ _ D.h10 (l.extBut _ _ D.h8.symm K));have S:d.get? T=some (pZ u (k+1)):=C.extBut _ _ D.h9.symm O;refine b7 (m:=Builtin.SmallTypes.ownedTupleHandOut (.ref z) (.ref d.objs.size)) ?_;unfold Builtin.SmallTypes.ownedTupleHandOut;have z6:(d.push (eU x y)).get? z=some (kY .ellipsis TI TO):=c7 _ z5;refine b7 (bAL z6 (by simp) λh7 P s7=>?_);replace P:h7.get? z=some (kY (rawInt d.objs.size) TI TO):=P;refine bAL P (by simp) λI J s8=>?_;replace J:I.get? z=some (kY (rawInt d.objs.size) TI TO):=J;have G:∀c o,c≠z->d.get? c=some o->I.get? c=some o:=λc o i e=>s8.extBut _ _ i (s7.extBut _ _ i (c7 _ e));have nz:d.objs.size≠z:=bCP (j8 z5);have V:I.get? d.objs.size=some (eU x y):=s8.extBut _ _ nz (s7.extBut _ _ nz (j0 _ rfl));rw[r] at J V;refine d7 ⟨_,rfl,d7 ?_⟩;show Q (some (.ref d.objs.size)) _;rw[r];exact q I J (G _ _ D.h2 f) (G _ _ D.h3 M) (G _ _ D.h4 S) V λc o i H L R e=>G c o i (kp c o i H L R e)
def aQn (V:A.handled=none)(D:pL z TI TO i1 i2)
  (g:s.heap.get? z=some (kY .none TI TO)) (J:s.heap.get? TI=some (eU (.ref i1) (.ref i2))) (O:s.heap.get? TO=some (eU a b))
  (g1:s.heap.get? i1=some (pZ t k)) (g2:s.heap.get? i2=some (pZ u k)) (X:s.heap.IsList t xs) (S:s.heap.IsList u ys) (T:xs[k]?=some x) (Z:ys[k]?=none) (t1:t≠z) (Y:u≠z) (u2:u≠TO) (u3:u≠i1)
  (q:∀h',(∀c o,c≠z->c≠TO->c≠i1->c≠i2->s.heap.get? c=some o->h'.get? c=some o)->Q none { s with heap:=h' }) :
  wpAny (model prog w) A (pyNext (.ref z)) Q E s:=by
 have C:s.TypeIs (.ref z) "zip":=⟨_,g,rfl⟩;unfold pyNext;refine b7 (bCD (bAI C F.slot_zip_next (bAG F.slot_zip_next C F.entry_zip_next ?_ (F.args_zip_next_1 _))));refine b7 (m:=field (.ref z) 2) (bAN g rfl (x:=.bool false) rfl ?_);refine b7 (bAN g rfl rfl (b7 (bAU J rfl ?_)));refine b7 ?_;unfold Builtin.SmallTypes.ownedTupleIsFree;refine b7 (bAN g rfl rfl (d7 ?_));simp only[if_true];refine b7 (bCY (b7 (bAN g rfl rfl (b7 (bAL g (by simp) λM r f=>?_)))));replace r:M.get? z=some (kY .ellipsis TI TO):=r;refine b7 ?_;simp only[bDZ,bEF,bDC,bEP];refine b7 (b7 (bDE ?_));refine b7 (uB (f.extBut _ _ D.h3 g1) (X.extBut f.extBut t1) T λh2 H h=>d7 ?_);have j:=h.extBut _ _ D.h8 (f.extBut _ _ D.h2 O);refine b7 (bAU j rfl (b7 (wA j λR l n=>b7 (bE9 (d7 ?_)))));replace l:R.get? TO=some (eU x b):=l;refine b7 (b7 (bDE ?_));refine b7 (qL V (n.extBut _ _ D.h9.symm (h.extBut _ _ D.h10.symm (f.extBut _ _ D.h4 g2))) (((S.extBut f.extBut Y).extBut h.extBut u3).extBut n.extBut u2) Z λW e v K=>?_);obtain⟨P,d,i⟩:=K;have y:=v _ _ D.h4.symm (n.extBut _ _ D.h2.symm (h.extBut _ _ D.h3.symm r));have p:e≠z:=λx=>by subst x;rw[y] at d;cases d;simp at i
 refine bAL y (by simp) λU _ B=>?_;refine b7 (bCX ⟨P,B.extBut _ _ p d,i⟩ isSubtype_stop ?_);exact d7 (q _ λc o G L I N x=>B.extBut _ _ G (v _ _ N (n.extBut _ _ L (h.extBut _ _ I (f.extBut _ _ G x)))))
def aM0 (L:A.handled=none)(D:pL z TI TO i1 i2)
  (f:s.heap.get? z=some (kY .none TI TO)) (B:s.heap.get? TI=some (eU (.ref i1) (.ref i2))) (hTO:s.heap.get? TO=some (eU a b))
  (I:s.heap.get? i1=some (pZ t k)) (N:s.heap.IsList t xs) (K:xs[k]?=none) (H:t≠z)
  (q:∀h',(∀c o,c≠z->c≠TO->c≠i1->c≠i2->s.heap.get? c=some o->h'.get? c=some o)->Q none { s with heap:=h' }) :
  wpAny (model prog w) A (pyNext (.ref z)) Q E s:=by
 have u:s.TypeIs (.ref z) "zip":=⟨_,f,rfl⟩;unfold pyNext;refine b7 (bCD (bAI u F.slot_zip_next (bAG F.slot_zip_next u F.entry_zip_next ?_ (F.args_zip_next_1 _))));refine b7 (m:=field (.ref z) 2) (bAN f rfl (x:=.bool false) rfl ?_);refine b7 (bAN f rfl rfl (b7 (bAU B rfl ?_)));refine b7 ?_;unfold Builtin.SmallTypes.ownedTupleIsFree;refine b7 (bAN f rfl rfl (d7 ?_));simp only[if_true];refine b7 (bCY (b7 (bAN f rfl rfl (b7 (bAL f (by simp) λG j h=>?_)))));replace j:G.get? z=some (kY .ellipsis TI TO):=j;refine b7 ?_;simp only[bDZ,bEF,bDC,bEP];refine b7 (b7 (bDE ?_));refine b7 (qL L (h.extBut _ _ D.h3 I) (N.extBut h.extBut H) K λJ e l C=>?_);obtain⟨v,d,g⟩:=C;have r:=l _ _ D.h3.symm j;have i:e≠z:=λx=>by subst x;rw[r] at d;cases d;simp at g
 refine bAL r (by simp) λM _ n=>?_;refine b7 (bCX ⟨v,n.extBut _ _ i d,g⟩ isSubtype_stop ?_);exact d7 (q _ λc o p _ y _ x=>n.extBut _ _ p (l _ _ y (h.extBut _ _ p x)))
abbrev zM1 (h:Heap)(t:Addr):Heap:=h.push (pZ t 0)
abbrev zM2 (h:Heap)(t u:Addr):Heap:=(zM1 h t).push (pZ u 0)
abbrev zM3 (h:Heap)(t u:Addr):Heap:=(zM2 h t u).push (eU (.ref h.objs.size) (.ref (zM1 h t).objs.size))
abbrev zM4 (h:Heap)(t u:Addr):Heap:=(zM3 h t u).push (eU .none .none)
abbrev zM5 (h:Heap)(t u:Addr):Heap:=(zM4 h t u).push (kY .none (zM2 h t u).objs.size (zM3 h t u).objs.size)
def aJr (t u:Addr)(xs ys:Array Value):Meets (Builtin.«zip.__new__» ⟨[.type "zip",.ref t,.ref u],[]⟩)
  (λ_ R s=>s.heap.IsList t xs/\s.heap.IsList u ys/\R (.ok (.ret (.ref (zM4 s.heap t u).objs.size))) { s with heap:=zM5 s.heap t u }):=
 .of_wp λb w A R s h=>by
  obtain⟨l,g,d,c,f⟩:=s;obtain⟨e,i,h⟩:=h;have a:=sub_zip;have j:=e;have k:Heap.IsList (Shared.heap ⟨l.push { cls:=.type "list_iterator",data:=.fields #[.ref t,.int 0 0] },g,d,c,f⟩) u ys:=by obtain⟨o,m,r⟩:=i;exact⟨o,c7 _ m,r⟩
  wp_walk using bCF j,bCF k;exact⟨_,rfl,h⟩
def aMu (b:s.heap.IsList t xs)(c:s.heap.IsList u ys)(q:Q (.ref (zM4 s.heap t u).objs.size) { s with heap:=zM5 s.heap t u }) :
  wpAny (model prog w) A (call (.type "zip") [.ref t,.ref u]) Q E s:=by
 refine callType_new F.called_zip (by decide) (F.typeCall_zip_2 _ _) (F.newCall_zip_2 _ _) (λa=>F.args_object_init_3 a _ _) F.entry_zip_new (aJr t u xs ys) ⟨b,c,?_⟩;exact⟨⟨_,j0 _ rfl,rfl⟩,q⟩
end
end PySem
namespace L2
open PySem PySem.Spec PyProof.Rows
section
variable {X:Cx}{bFT:bFR}{σ:St}{H:Hp}{s:Shared}
end
def Itw (K:bFP)(t u:Addr)(xs ys:List V):It:=
 ⟨λi H=>SqL K H t xs/\SqL K H u ys/\i<xs.length/\i<ys.length,λi H v H'=>∃T a b,H T=none/\v=.ref T/\H'=upd H T (.tup [a,b])/\xs[i]?=some a/\ys[i]?=some b,λi H=>SqL K H t xs/\SqL K H u ys/\i=ys.length/\ys.length<=xs.length⟩
def wtn (z TI TO i1 i2 t u:Addr)(i:Nat)(h:Heap):Prop:=
 h.get? z=some (kY .none TI TO)/\h.get? TI=some (eU (.ref i1) (.ref i2))/\(∃a b,h.get? TO=some (eU a b))/\h.get? i1=some (pZ t i)/\h.get? i2=some (pZ u i)
def aL2 {P:Program}{w:World}{K:bFP}{elts:List Expr}{kt:Nat}{pos:Pos}{z TI TO J M t u:Addr}{xs ys:List V}(D:pL z TI TO J M) :
  Turn P w K (.Tuple elts kt pos) (Itw K t u xs ys) [z,TI,TO,J,M] z (wtn z TI TO J M t u) where
 mem:=by simp
 obj:=λi h p b d=>by
  obtain⟨A,l,⟨a,c,m⟩,r,B⟩:=p;simp only[bAD,w6,or_false] at d;rcases d with rfl|rfl|rfl|rfl|rfl
  ·exact⟨_,A,λv z=>by cases (show Data.fields _=Data.cell v from z)⟩
  ·exact⟨_,l,λv z=>by cases (show Data.seq _ _=Data.cell v from z)⟩
  ·exact⟨_,m,λv z=>by cases (show Data.seq _ _=Data.cell v from z)⟩
  ·exact⟨_,r,λv z=>by cases (show Data.fields _=Data.cell v from z)⟩
  ·exact⟨_,B,λv z=>by cases (show Data.fields _=Data.cell v from z)⟩
 keep:=λi h f p k=>by obtain⟨A,l,⟨a,c,m⟩,r,B⟩:=p;exact⟨k z (by simp) _ A,k TI (by simp) _ l,⟨a,c,k TO (by simp) _ m⟩,k J (by simp) _ r,k M (by simp) _ B⟩
 item:=by
  intro X U hw hK Y i n s σ H E I g p T;subst U hw hK;obtain⟨A,l,⟨a0,c0,m⟩,r,B⟩:=p;obtain⟨q,j,l1,l2⟩:=T;obtain⟨its,rv,Q,hz⟩:=I.list q;obtain⟨a6,F,W,Z⟩:=I.list j;obtain⟨x,N,rx⟩:=rv.get (b8 l1);obtain⟨y,hy,ry⟩:=F.get (b8 l2);have G:=g z (by simp);have O:=g TO (by simp);have R:=g J (by simp);have f2:=g M (by simp);refine aMc D A l m r B Q.isList W.isList (by simpa using N) (by simpa using hy) (I.jX q G) (I.jX q O) (I.jX q R) (I.jX q f2)
   (I.jX j G) (I.jX j O) (I.jX j R) (I.jX j f2) λf a1 a2 a3 a4 a5 C=>?_
  refine⟨_,rfl,?_⟩;have fT:H s.heap.objs.size=none:=I.hok.fresh (d8 _);have I1:Inv X n σ (upd H s.heap.objs.size (.tup [xs[i],ys[i]])) { s with heap:=f }:=by
   refine I.drawn (ch:=[z,TO,J,M]) (its:=[x,y]) (λb d=>?_) (λb o d e=>?_) (d8 _) (.cons rx (.cons ry .nil)) (small (by simp)) (.of a5 rfl ⟨_,a5,rfl,_,rfl⟩) (λb d=>?_)
   ·refine g b ?_;simp only[bAD,w6,or_false] at d ⊢;rcases d with h|h|h|h <;> simp[h]
   ·simp only[bAD,w6,or_false,not_or] at d;exact C b o d.1 d.2.1 d.2.2.1 d.2.2.2 e
   ·simp only[bAD,w6,or_false] at d;rcases d with rfl|rfl|rfl|rfl
    ·exact⟨_,a1⟩
    ·exact⟨_,a2⟩
    ·exact⟨_,a3⟩
    ·exact⟨_,a4⟩
  have nT:∀b∈[z,TI,TO,J,M],b≠s.heap.objs.size:=λb d=>by
   have e:∃o,s.heap.get? b=some o:=by
    simp only[bAD,w6,or_false] at d;rcases d with rfl|rfl|rfl|rfl|rfl
    ·exact⟨_,A⟩
    ·exact⟨_,l⟩
    ·exact⟨_,m⟩
    ·exact⟨_,r⟩
    ·exact⟨_,B⟩
   obtain⟨o,e⟩:=e;exact t6 (j8 e)
  refine bFG (s:={ s with heap:=f }) a1 λh2 z2 L=>?_;obtain⟨g0,g1,g2,g3,g4,g5⟩:=G;have I2:Inv X n σ (upd H s.heap.objs.size (.tup [xs[i],ys[i]])) { s with heap:=h2 }:=Inv.turned (s:={ s with heap:=f }) I1 (t':=s.toks) (it:=z) (λb o d e=>(L.2 b d).trans e) (by rw[aR (nT z (by simp))];exact g0) g1 g3 g4 g5;refine⟨.ref s.heap.objs.size,_,I2,rfl,⟨_,_,_,fT,rfl,rfl,b8 l1,b8 l2⟩,?_,λb d=>by rw[aR (nT b d)];exact (g b d).1⟩;exact⟨z2,L.extBut _ _ D.h1 (C TI _ D.h1 D.h5 D.h6 D.h7 l),⟨_,_,L.extBut _ _ D.h2 a2⟩,L.extBut _ _ D.h3 a3,L.extBut _ _ D.h4 a4⟩
 done:=by
  intro X U hw hK Y i n s σ H E I g p T;subst U hw hK;obtain⟨A,l,⟨a0,c0,m⟩,r,B⟩:=p;obtain⟨q,j,hl,a8⟩:=T;obtain⟨its,rv,Q,hz⟩:=I.list q;obtain⟨a6,F,W,Z⟩:=I.list j;have a7:=rv.length;have S:=F.length;have G:=g z (by simp);have O:=g TO (by simp);have R:=g J (by simp);refine (λ(go:∀f,(∀c o,c≠z->c≠TO->c≠J->c≠M->s.heap.get? c=some o->f.get? c=some o)->_)=>?_:_->_) (λf C=>(⟨rfl,?_⟩:(none:Option Value)=none/\Inv X n σ H { s with heap:=f }))
  ·cases N:its[i]? with
   |none=>exact aM0 (I.ok.hd Y) D A l m r Q.isList (by simpa using N) (I.jX q G) λf C=>go f C
   |some x=>exact aQn (I.ok.hd Y) D A l m r B Q.isList W.isList (by simpa using N) (by simp;lia) (I.jX q G) (I.jX j G) (I.jX j O) (I.jX j R) λf C=>go f C
  refine Inv.aGm (ch:=[z,TO,J,M]) I (λb d=>g b ?_) λb o d e=>?_
  ·simp only[bAD,w6,or_false] at d ⊢;rcases d with h|h|h|h <;> simp[h]
  ·simp only[bAD,w6,or_false,not_or] at d;exact C b o d.1 d.2.1 d.2.2.1 d.2.2.2 e
 self:=λ_ _ _ _ _ p h=>bE0 p.1 h
section
variable {X:Cx}
def aMj (K:bFP)(ta:TA):TI:=fun σ H R=>ta σ H λvs H1=>∃t u xs ys,vs=[.ref t,.ref u]/\SqL K H1 t xs/\SqL K H1 u ys/\R (Itw K t u xs ys) H1
theorem aUb {elts:List Expr}{kt:Nat}{tp:Pos}{a b:Expr}{ta:TA}{p G:Pos}(W:Gl X "zip")(Z:X.mg "zip"=none)(T:PA X [a,b] ta)(hs:starEach [a,b] X.env=(false,eval a X.env)::starEach [b] X.env:=by rfl)
  (x:starEach [b] X.env=[(false,eval b X.env)]:=by rfl):PI X (.Tuple elts kt tp) (.Call (.Name "zip" p) [a,b] [] G) (aMj X.K ta):=by
 intro d s σ H R I h;refine Call_ (rG I W Z aT7 (bBS (thn (T G d s σ H _ I h) λU c ⟨V,n,f,P,M⟩=>?_) hs (by rw[x];rfl)));obtain⟨t,u,xs,ys,e,A,w,q⟩:=M;subst e;obtain⟨B,Y,y,S⟩:=f.list A;obtain⟨L,E,N,z⟩:=f.list w;cases P with
 |cons r rr=>
  cases rr with
  |cons r' rr'=>
   cases rr';cases r;cases r';refine aMu y.isList N.isList ?_;have i:(zM1 c.heap t).objs.size=c.heap.objs.size+1:=bAW ..;have k:(zM2 c.heap t u).objs.size=c.heap.objs.size+2:=by rw[bAW,i]
   have j:(zM3 c.heap t u).objs.size=c.heap.objs.size+3:=by rw[bAW,k]
   have l:(zM4 c.heap t u).objs.size=c.heap.objs.size+4:=by rw[bAW,j]
   have D:pL (zM4 c.heap t u).objs.size (zM2 c.heap t u).objs.size (zM3 c.heap t u).objs.size c.heap.objs.size (zM1 c.heap t).objs.size:=by constructor <;> (show (_:Nat)≠(_:Nat);rw[Ne];intro h;simp only[i,k,j,l] at h;lia)
   have v:(zM5 c.heap t u).get? (zM4 c.heap t u).objs.size=some (kY .none (zM2 c.heap t u).objs.size (zM3 c.heap t u).objs.size):=j0 _ rfl;have J:(zM5 c.heap t u).get? (zM3 c.heap t u).objs.size=some (eU .none .none):=c7 _ (j0 _ rfl);have Q:(zM5 c.heap t u).get? (zM2 c.heap t u).objs.size=some (eU (.ref c.heap.objs.size) (.ref (zM1 c.heap t).objs.size)):=c7 _ (c7 _ (j0 _ rfl));have C:(zM5 c.heap t u).get? (zM1 c.heap t).objs.size=some (pZ u 0):=c7 _ (c7 _ (c7 _ (j0 _ rfl)));have F:(zM5 c.heap t u).get? c.heap.objs.size=some (pZ t 0):=c7 _ (c7 _ (c7 _ (c7 _ (j0 _ rfl))));have O:Inv X d σ n { c with heap:=zM5 c.heap t u }:=f.kept (t':=c.toks) λb o e=>c7 _ (c7 _ (c7 _ (c7 _ (c7 _ e))));refine bE0 (s:={ c with heap:=zM5 c.heap t u }) v ⟨_,_,_,_,n,rfl,O,aL2 (xs:=xs) (ys:=ys) D,⟨v,Q,⟨_,_,J⟩,F,C⟩,λb m=>?_,q⟩;have g:c.heap.objs.size<=b:=by
    simp only[bAD,w6,or_false] at m;rcases m with rfl|rfl|rfl|rfl|rfl
    ·rw[l];exact bBV ..
    ·rw[k];exact bBV ..
    ·rw[j];exact bBV ..
    ·exact d8 _
    ·rw[i];exact bBV ..
   exact f.aD7 g (f.hok.fresh g)
def aS8 (d:Gl X "zip")(g:X.mg "zip"=none)(e:VA X [a,b] t)(f:dH a=true:=by rfl)(c:dH b=true:=by rfl) :
  VI X (.Tuple elts kt tp) (.Call (.Name "zip" p) [a,b] [] pos) (aMj X.K t):=⟨aUb d g e.1 (aW f) (aW c)⟩
end
def aJl {K:bFP}{t u:Addr}{xs ys:List V}{H:Hp}{C:L2.St}{te:TE}{Q:VK}(w:SqL K H t xs)(s:SqL K H u ys)(A:ys.length<=xs.length)(B:Ps2 C C)(hsz:ys.length<=1000)(g:List V)(hzl:g.length=ys.length)
  (G:∀(i:Nat) (x y z:V),xs[i]?=some x->ys[i]?=some y->g[i]?=some z->∀H' R,Same H H'->(∀H2,Same H' H2->R z H2)->te ((C.set 0 (some x)).set 1 (some y)) H' R)
  (q:∀D H',Same H H'->H' D=some (.lst g)->Q (.ref D) H'):pR (Itw K t u xs ys) H C (aNp K 2 (tR (cM 0) (tR (cM 1) aP3))) mW te Q:=by
 intro D o;refine⟨λi m p H' n=>m=ys.length - i/\i<=ys.length/\Same H H'/\H' D=some (.lst n)/\n=g.take i/\Ps2 C p,⟨ys.length,by simp,bAE _,bC o _,aK,rfl,B⟩,?_⟩;rintro i m p H' n ⟨rfl,hi,sm,gD,rfl,hps⟩;refine⟨gD,?_⟩;by_cases l:i<ys.length
 ·right;refine⟨⟨sm.seq w,sm.seq s,by lia,l⟩,?_⟩;rintro v H2 ⟨T,a,b,hT,rfl,rfl,ha,hb⟩;have h:Same H' (L2.upd H' T (.tup [a,b])):=bC hT _;refine hg2 (SqT.of aK) hps fun E f k=>?_;have d:=k;subst d;dsimp only[mW];rw[if_pos rfl];have c:i<g.length:=by lia
  refine G i a b g[i] ha hb (b8 c) _ _ (sm.trans h) λF r=>?_;have j:=r _ _ (h _ _ gD);refine⟨j,bCB (show (g.take i).length<=1000 by rw[bAH];lia) (by decide),ys.length - (i+1),by lia,rfl,by lia,dR o (sm.trans (h.trans r)),aK,?_,f⟩;rw[bBB,b8 c];rfl
 ·left;have e:i=ys.length:=by lia
  subst e;rw[bAV (by lia)] at gD;exact⟨⟨sm.seq w,sm.seq s,rfl,A⟩,q D H' sm gD⟩
def aBx {J:It}{H:Hp}{xs:List V}{t:L2.St}{te:TE}{Q:VK}(s:∀H' i x,Same H H'->xs[i]?=some x->J.go i H'/\∀y H2,J.yld i H' y H2->H2=H'/\y=x)(j:∀H',Same H H'->J.stop xs.length H')(B:Ps1 t t)(hsz:xs.length<=1000)
  (d:List V) (hzl:d.length=xs.length) (A:∀(i:Nat) (x z:V),xs[i]?=some x->d[i]?=some z->∀H' R l,Same H H'->(∀H2,Same H' H2->R z H2)->te ((t.set 0 l).set 0 (some x)) H' R)
  (q:∀D H',Same H H'->H D=none->H' D=some (.lst d)->Q (.ref D) H'):pR J H t (cM 0) mW te Q:=by
 intro D f;refine⟨λi m k H' h=>m=xs.length - i/\i<=xs.length/\Same H H'/\H' D=some (.lst h)/\h=d.take i/\Ps1 t k,⟨xs.length,by simp,bAE _,bC f _,aK,rfl,B⟩,?_⟩;rintro i m k H' h ⟨rfl,hi,sm,gD,rfl,hps⟩;refine⟨gD,?_⟩;by_cases b:i<xs.length
 ·right;obtain⟨p,o⟩:=s H' i xs[i] sm (b8 b);refine⟨p,λv H2 r=>?_⟩;obtain⟨rfl,rfl⟩:=o v H2 r;refine hg1 (i:=i) hps fun u c g=>?_;obtain⟨l,rfl⟩:=g;dsimp only[mW];rw[if_pos rfl];have a:i<d.length:=by lia
  refine A i _ d[i] (b8 b) (b8 a) _ _ l sm λw n=>?_;refine⟨n _ _ gD,bCB (show (d.take i).length<=1000 by rw[bAH];lia) (by decide),xs.length - (i+1),by lia,rfl,by lia,dR f (sm.trans n),aK,?_,c⟩;rw[bBB,b8 a];rfl
 ·left;have e:i=xs.length:=by lia
  subst e;rw[bAV (by lia)] at gD;exact⟨j H' sm,q D H' sm f gD⟩
def aTh {X:Cx}{K:bFP}{scope:Scope}{N:List Str}{tl:TA}{te:TE}{tt:TT}{g:TG}{σ:L2.St}{H:Hp}{Q:VK}(b:L2.St)(a:Cap X scope N σ b)(h:tl σ H λvs H1=>∃t u xs ys,vs=[.ref t,.ref u]/\SqL K H1 t xs/\SqL K H1 u ys/\pR (Itw K t u xs ys) H1 b g tt te Q):lM X scope N (aMj K tl) g tt te σ H Q:=⟨b,a,h⟩
def tW (ts:List (Addr × Str))(H:Hp):Prop:=∀p∈ts,H p.1=some (.tab p.2)
def oN:List (Addr × Str)->Addr->Option Str
 |[],_=>none
 |p::r,b=>if b=p.1 then some p.2 else oN r b
theorem aE9:∀{ts:List (Addr × Str)},(∀p∈ts,b≠p.1)->oN ts b=none
 |[],_=>rfl
 |p::r,h=>by unfold oN;rw[if_neg (h p j7)];exact aE9 λq a=>h q (j5 _ a)
theorem rM:∀{ts:List (Addr × Str)},oN ts b=some q->∃p∈ts,p.1=b/\p.2=q
 |p::r,h=>by
  unfold oN at h;by_cases e:b=p.1
  ·rw[if_pos e] at h;exact⟨p,j7,e.symm,bAM h⟩
  ·rw[if_neg e] at h;obtain⟨a,d,c⟩:=rM h;exact⟨a,j5 _ d,c⟩
theorem aO8:∀{ts:List (Addr × Str)},(ts.map (·.1)).Nodup->∀{p:Addr × Str},p∈ts->oN ts p.1=some p.2
 |p::r,nd,q,hq=>by
  rw[bAC,bDP] at nd;unfold oN;rcases List.mem_cons.mp hq with rfl|hq
  ·rw[if_pos rfl]
  ·rw[if_neg λz=>nd.1 (by rw[<-z];exact List.mem_map.mpr ⟨q,hq,rfl⟩)];exact aO8 nd.2 hq
theorem aRd {P:Program}{w:World}{K:bFP}{mg mb:bFS}{CX:CXT}{k:Nat}{fa a:Addr}{fd:FuncData}{x:Str}{sp:Sp}{i:Shared}{vs:List Value}{ns:List Int}
  (KX:K.In i.heap) (U:i.heap.Ns mainGlobals mg) (f:i.heap.Ns builtinsNs mb) (a8:∀x:Str,x≠"__name__"->mb x=bootBuiltins x) (a2:i.heap.NoLimit) (hg:i.gens=#[])
  (J:i.heap.get? a=some { cls:=.type "list",data:=.seq vs.toArray }) (hi:IntsAre vs ns) (hl:ns.length<=sizeLine) (hr:Room k callerA)
  (ts:List (Addr × Str)) (l:∀p∈ts,i.heap.get? p.1=some { cls:=.none,data:=.fields #[] }/\isCodeTable i.heap p.1/\K.lookup p.1=none) (a5:(ts.map (·.1)).Nodup) (a4:BM mg i.heap)
  (F:∀base:Heap,K.In base->base.Ns mainGlobals mg->BM mg base->lY P w K mg base CX k fa fd [x] sp) (a1:∀(s:Shared) (u:Value),BindsTo s fd ⟨[u],[]⟩ [(x,u)])
  (a6:∀H:Hp,tW ts H->SqL K H a (ns.map V.int)->sp [.ref a] H (λv H'=>v=.bl true/\tW ts H') λ_ _ _=>False)
  (a3:∀H e s',CX [] H i (λ_ _ _=>False) e s'->False) :
  codeAny (model P w) callerA (.call (.ref fa) ⟨[.ref a],[]⟩) (λr s'=>r=.ok (.ret (.bool true))/\OldK i.heap s'.heap/\s'.os=i.os/\AllBare s'.gens) i:=by
 have rv:=aE1 hi;have S:=hi.length;have B:∀H:Hp,tW ts H->(∀b,(∀p∈ts,b≠p.1)->H b=none\/∃o xs,H b=some (.frz o (.lst xs)))->SqL K H a (ns.map V.int)->HOk P w H i.heap->(∀b,H b≠none->b=a\/∃p∈ts,b=p.1)->(H a≠none->K.lookup a=none) ->
   codeAny (model P w) callerA (.call (.ref fa) ⟨[.ref a],[]⟩) (λr s'=>r=.ok (.ret (.bool true))/\OldK i.heap s'.heap/\s'.os=i.os/\AllBare s'.gens) i:=by
  intro H hT hO hS L hA hK;have g:∀{b:Addr} {o:Obj},i.heap.get? b=some o->H b=none->(aDb i.heap H).get? b=some o:=λe n=>aU2 e n;have a0:∀{b:Addr} {o:Obj} {E:Array DictEntry} {D:Nat},i.heap.get? b=some o->o.data=.dict E D->H b=none:=λ{b o E D} e d=>by
   cases q:H b with
   |none=>rfl
   |some u=>
    rcases hA b (by rw[q];simp) with e'|⟨p,c,e'⟩
    ·subst e';rw[J] at e;cases e;have W:Data.seq vs.toArray _=Data.dict E D:=d;cases W
    ·subst e';rw[(l p c).1] at e;cases e;have W:Data.fields _=Data.dict E D:=d;cases W
  have A:∀{b:Addr} {m:bFS},i.heap.Ns b m->(aDb i.heap H).Ns b m:=λ{b m} ⟨o,E,D,e,d,r⟩=>⟨o,E,D,g e (a0 e d),d,r⟩;have N:K.In (aDb i.heap H):=λb o e=>g (KX b o e) (by
   cases q:H b with
   |none=>rfl
   |some u=>
    rcases hA b (by rw[q];simp) with e'|⟨p,c,e'⟩
    ·subst e';rw[hK (by rw[q];simp)] at e;cases e
    ·subst e';rw[(l p c).2.2] at e;cases e)
  have I:BM mg (aDb i.heap H):=by
   obtain⟨bm,ob,b1,b2,Q,b4,b5,T⟩:=a4;refine⟨bm,ob,b1,b2,g Q ?_,b4,b5,T⟩;cases q:H bm with
   |none=>rfl
   |some u=>
    rcases hA bm (by rw[q];simp) with e'|⟨p,c,e'⟩
    ·rw[e',J] at Q;cases Q;cases (show Data.seq vs.toArray _=Data.plain from T)
    ·rw[e',(l p c).1] at Q;cases Q;cases (show Data.fields _=Data.plain from T)
  have hM:Mod K mg (aDb i.heap H):=⟨N,A U,⟨mb,A f,a8⟩,let ⟨mc,h1,h2⟩:=a2;⟨mc,A h1,h2⟩⟩;have e0:aGe P w K mg (aDb i.heap H) callerA [] i H:=⟨rfl,hM,λb o e=>aXd e,bFB (aRb _ _),trivial,λb f=>absurd (show b∈([]:List Addr) from f) (by simp),L,.of_eq hg⟩;refine bCQ ((F _ N (A U) I).run callerA [] i H ⟨[.ref a],[]⟩ [.ref a] [.ref a] _ _ hr e0 (a1 i (.ref a)) (.cons rfl .nil) (a6 H hT hS)) λr s' h=>?_;cases r with
  |error e=>exact (a3 H e s' h).elim
  |ok fl=>
   cases fl with
   |next=>exact False.elim h
   |brk=>exact False.elim h
   |cont=>exact False.elim h
   |ret u=>
    obtain⟨v,H',os,G,un,t,r',q⟩:=h;obtain⟨q',qT⟩:=(show v=.bl true/\tW ts H' from q);subst q';obtain rfl:u=Value.bool true:=r';have kp:∀b o,i.heap.get? b=some o->(∀p∈ts,b≠p.1)->s'.heap.get? b=some o:=λb o e f=>by
     cases q:H b with
     |none=>exact un.keep b o e q (by intro z;exact absurd (show b∈([]:List Addr) from z) (by simp)) (by simp)
     |some u=>
      rcases hO b f with z|⟨ob,xs,z⟩
      ·rw[q] at z;cases z
      ·have z2:=un.frzs b ob _ z;obtain⟨j,_⟩:=L b _ z;obtain⟨R,_⟩:=t b _ z2;rw[e] at j;cases j;exact R
    refine⟨rfl,⟨λb o e=>?_,λb o e=>?_⟩,os,G⟩
    ·by_cases f:∃p∈ts,b=p.1
     ·obtain⟨p,c,rfl⟩:=f;obtain⟨ps,j,_⟩:=t p.1 _ (qT p c);rw[(l p c).1] at e;cases e;exact .inr (.inl ⟨(l p c).2.1,rfl,#[],ps,rfl,by rw[j];simp⟩)
     ·exact .inl (kp b o e λp c z=>f ⟨p,c,z⟩)
    ·by_cases f:∃p∈ts,b=p.1
     ·obtain⟨p,c,rfl⟩:=f;obtain⟨ps,j,_⟩:=t p.1 _ (qT p c);exact⟨_,j⟩
     ·exact⟨o,kp b o e λp c z=>f ⟨p,c,z⟩⟩
 have aT:∀p∈ts,p.1≠a:=λp c z=>by have:=(l p c).1;rw[z,J] at this;cases this
 have O:∀p∈ts,oN ts p.1=some p.2:=λp c=>aO8 a5 c;have C:∀b,(∀p∈ts,b≠p.1)->oN ts b=none:=λb f=>aE9 f;have M:∀(H:Hp) (p:Addr × Str),p∈ts->dN P w H i.heap p.1 (.tab p.2):=λH p c=>⟨#[],(l p c).1,trivial,λa7 cv z=>by cases z⟩;cases Z:K.lookup a with
 |some o=>
  have e:=KX a o Z;rw[J] at e;cases e;refine B (λb=>(oN ts b).map .tab) (λp c=>by show (oN ts p.1).map _=_;rw[O p c];rfl) (λb f=>.inl (by show (oN ts b).map _=_;rw[C b f];rfl)) (.inr ⟨_,vs.toArray,_,Z,rfl,rfl,rfl,by rw[d9,S];exact hl,by simpa using rv⟩) (λb u z=>?_) (λb z=>?_) λz=>?_
  ·obtain⟨X,y,rfl⟩:=Option.map_eq_some_iff.mp (show (oN ts b).map .tab=some u from z);obtain⟨p,c,j,R⟩:=rM y;subst j R;exact M _ p c
  ·refine .inr ?_;cases y:oN ts b with
   |none=>exact absurd (show (oN ts b).map HO.tab=none by rw[y];rfl) z
   |some X=>obtain⟨p,c,j,_⟩:=rM y;exact⟨p,c,j.symm⟩
  ·exact absurd (show (oN ts a).map HO.tab=none by rw[C a λp c z=>aT p c z.symm];rfl) z
 |none=>
  refine B (λb=>if b=a then some (.frz { cls:=.type "list",data:=.seq vs.toArray } (.lst (ns.map V.int))) else (oN ts b).map .tab) (λp c=>by show (if p.1=a then _ else (oN ts p.1).map HO.tab)=_;rw[if_neg (aT p c),O p c];rfl) (λb f=>?_) (.inl (.inr ⟨{ cls:=.type "list",data:=.seq vs.toArray },if_pos rfl⟩)) (λb u z=>?_) (λb z=>?_) λ_=>Z
  ·by_cases h:b=a
   ·exact .inr ⟨_,_,if_pos h⟩
   ·exact .inl (by rw[if_neg h,C b f];rfl)
  ·by_cases f:b=a
   ·have Y:=(if_pos f).symm.trans z;cases Y;subst f;exact⟨J,by rw[j4];exact hl,vs,_,rv,J⟩
   ·have Y:=(if_neg f).symm.trans z;obtain⟨X,y,rfl⟩:=Option.map_eq_some_iff.mp Y;obtain⟨p,c,j,R⟩:=rM y;subst j R;exact M _ p c
  ·by_cases f:b=a
   ·exact .inl f
   ·refine .inr ?_;cases y:oN ts b with
    |none=>exact absurd (show (if b=a then _ else (oN ts b).map HO.tab)=none by rw[if_neg f,y];rfl) z
    |some X=>obtain⟨p,c,j,_⟩:=rM y;exact⟨p,c,j.symm⟩
def aS4 {l:PySem.W.OpenLaw}{n k:Nat}{q:Program}{loose:List Str}{XP:(bFS)->Heap->Prop}{YP:World->Heap->Prop}{d:DefRec}{K:Params->bFP}{CX:World->CXT}{sp:World->Sp}{x:Str}
  (U:l.most=some n) (N:n<=sizeLine) (B:d.params.defaults=[]) (hr:Room k callerA)
  (ts:List (Addr × Str)) (S:(ts.map (·.1)).Nodup)
  (X:∀(w:World) (h:Heap),YP w h->(K w.params).In h/\∀p∈ts,h.get? p.1=some { cls:=.none,data:=.fields #[] })
  (P:∀(w:World),∀p∈ts,(∃c,PySem.W.codeHdIn (K w.params) c p.1=true)/\(K w.params).lookup p.1=none)
  (F:∀(w:World) (mg:bFS) (fa:Addr) (h:Heap),(K w.params).In h->h.Ns mainGlobals mg->mg d.name=some (.ref fa) ->
   ∃fd:FuncData,(∀(s:Shared) (u:Value),BindsTo s fd ⟨[u],[]⟩ [(x,u)]) /\
    ∀base:Heap,(K w.params).In base->base.Ns mainGlobals mg->BM mg base->lY l.prog w (K w.params) mg base (CX w) k fa fd [x] (sp w))
  (E:∀(w:World) (H:Hp) (a:Addr) (ns:List Int),ns.length<=n->tW ts H->SqL (K w.params) H a (ns.map V.int)->sp w [.ref a] H (λv H'=>v=.bl true/\tW ts H') λ_ _ _=>False)
  (A:∀(w:World) (H:Hp) (s:Shared) (e:Value) (s':Shared),CX w [] H s (λ_ _ _=>False) e s'->False) :
  PySem.W.WalkO q loose XP YP l.row.toRowW d [] (λf vs=>PySem.call f vs):=by
 refine Att.aJw U B λw s₀ I mg mb fa o pm cd M a vs ns G Y Z hd O z r m j J=>?_;obtain⟨y,i⟩:=X w _ Y;obtain⟨fd,C,Q⟩:=F w mg fa _ y G.T.g z;refine aRd y G.T.g G.T.b G.T.builtins G.T.nolimit J r m (bAK j N) hr ts (λp t=>⟨i p t,?_,(P w p t).2⟩) S G.T.bmain Q C (λH L D=>E w H a ns j L D) λH e s'=>A w H I e s';obtain⟨c,R⟩:=(P w p t).1;exact Heap.TableAt.isCodeTable ((PySem.W.codeHd_of_K y R).tab (i p t))
def dD (K:bFP)(H:Hp)(u:V)(r:List V):Prop:=∃a,u=.ref a/\SqT K H a r
def dD.same {K:bFP}{H H':Hp}{u:V}{r:List V}(e:Same H H')(h:dD K H u r):dD K H' u r:=by obtain⟨a,rfl,b⟩:=h;exact⟨a,rfl,e.bB b⟩
def KdV:Bool->V->Prop
 |true,x=>∃i,x=.int i
 |false,x=>∃z,x=.str z
def KdR (ks:List Bool)(r:List V):Prop:=Al2 KdV ks r
def rlt:List V->List V->Bool
 |.int a::xs,.int b::ys=>if (a == b)=true then rlt xs ys else decide (a<b)
 |.str a::xs,.str b::ys=>if (a == b)=true then rlt xs ys else decide (a.cps.toList<b.cps.toList)
 |_,_=>false
def srt (rs:List (List V)):List (List V):=(PySem.W.eG rs.length λi j=>rlt (rs.getD i []) (rs.getD j [])).map λi=>rs.getD i []
def nH (rs:List (List V)):(srt rs).length=rs.length:=by unfold srt;rw[j4,PySem.W.sV]
def oZ (h:r∈srt rs):r∈rs:=by
 obtain⟨i,a,rfl⟩:=List.mem_map.mp h;have:=PySem.W.oH a;have e:rs.getD i []=rs[i]:=by simp[this]
 rw[e];exact bAP this
def Al2.get {α β:Type}{R:α->β->Prop}{as:List α}{bs:List β}(h:Al2 R as bs){i:Nat}{a:α}{b:β}(f:as[i]?=some a)(c:bs[i]?=some b):R a b:=by obtain⟨d,e,r⟩:=h.at f;rw[c] at e;cases e;exact r
theorem Al2.of {α β:Type}{R:α->β->Prop}:∀{as:List α} {bs:List β},as.length=bs.length->(∀(i:Nat) (a:α) (b:β),as[i]?=some a->bs[i]?=some b->R a b)->Al2 R as bs
 |[],[],_,_=>.nil
 |a::as,b::bs,hl,h=>.cons (h 0 a b rfl rfl) (Al2.of (by simpa using hl) λi x y d c=>h (i+1) x y (by simpa using d) (by simpa using c))
theorem Al2.imp {α β:Type}{R S:α->β->Prop}{as:List α}{bs:List β}(h:Al2 R as bs)(k:∀a b,R a b->S a b):Al2 S as bs:=by
 induction h with
 |nil=>exact .nil
 |cons r _ ih=>exact .cons (k _ _ r) ih
section
variable {prog:Program}{w:World}{A:Around}{s:Shared}{b:Bool}{Q:Bool->Shared->Prop}
theorem aVp (ks:List Bool):∀{r1 r2:List V} {i1 i2:List Value},KdR ks r1->KdR ks r2->Vals r1 i1->Vals r2 i2->∀i:Nat,Q (rlt r1 r2) s->PySem.W.KatLex prog w A b false Q (i1.zip i2) i s:=by
 induction ks with
 |nil=>intro r1 r2 i1 i2 f a c d i q;cases f;cases a;cases c;cases d;exact q
 |cons k ks ih=>
  intro r1 r2 i1 i2 f a c d i q;cases f with
  |cons a1 t1=>
   cases a with
   |cons a2 t2=>
    cases c with
    |cons p1 w1=>
     cases d with
     |cons p2 w2=>
      cases k with
      |true=>
       obtain⟨x,rfl⟩:=a1;obtain⟨y,rfl⟩:=a2;obtain⟨t,rfl⟩:=p1;obtain⟨u,rfl⟩:=p2;refine (bEJ x t y u) prog w _ _ ?_;unfold rlt at q;by_cases e:(x == y)=true
       ·rw[e,if_pos rfl];rw[if_pos e] at q;exact ih t1 t2 w1 w2 (i+1) q
       ·rw[if_neg e] at q;rw[Bool.not_eq_true] at e;rw[e,if_neg (by decide)];cases g:(b && i == 0) with
        |true=>exact oneLt_int q
        |false=>exact PySem.W.kat_one _ _ (lt_int q)
      |false=>
       obtain⟨x,rfl⟩:=a1;obtain⟨y,rfl⟩:=a2;obtain⟨t,rfl⟩:=p1;obtain⟨u,rfl⟩:=p2;refine (bDL x t y u) prog w _ _ ?_;unfold rlt at q;by_cases e:(x == y)=true
       ·rw[e,if_pos rfl];rw[if_pos e] at q;exact ih t1 t2 w1 w2 (i+1) q
       ·rw[if_neg e] at q;rw[Bool.not_eq_true] at e;rw[e,if_neg (by decide)];cases g:(b && i == 0) with
        |true=>exact oneLt_str q
        |false=>exact PySem.W.kat_one _ _ (lt_str q)
end
section
variable {X:Cx}
def aSg (K:bFP):List V->Hp->VK->Prop:=λxs H Q=>∃l us rs ks,xs=[.ref l]/\SqL K H l us/\Al2 (dD K H) us rs/\us.length<64/\ks≠[]/\(∀r∈rs,KdR ks r) /\
 ∀D H' us',H D=none->Same H H'->H' D=some (.lst us')->Al2 (dD K H) us' (srt rs)->Q (.ref D) H'
theorem aOg (I:Inv X bFT σ H s)(x:∀b o,s.heap.get? b=some o->h'.get? b=some o):∀{us:List V} {rs:List (List V)} {its:List Value},Al2 (dD X.K H) us rs->Vals us its->(∀r∈rs,KdR (k::ks) r) ->
  ∃fs,PySem.W.KatTups h' its fs/\fs.length=its.length/\∀f∈fs,∀M:Model,PySem.W.Looks M h' (typeOf f) (.type (if k=true then "int" else "str"))
 |_,_,_,.nil,.nil,_=>⟨[],.nil,rfl,λf h=>by cases h⟩
 |_,_,_,.cons (b:=r) hr t,.cons q z,hk=>by
  obtain⟨fs,y,e,p⟩:=aOg I x t z λr m=>hk r (j5 _ m);obtain⟨a,rfl,u⟩:=hr;cases q;obtain⟨l,d,⟨o,w,v,n,hd⟩,_⟩:=I.tuple u;have c:=hk r (j7 ..);cases c with
  |cons hx _=>
   cases d with
   |@cons _ f _ fr rx _=>
    refine⟨f::fs,.cons (x _ _ w) v hd (by simp) y,by rw[t8,t8,e],λg hg M=>?_⟩;rcases List.mem_cons.mp hg with rfl|hg
    ·cases k with
     |true=>obtain⟨i,rfl⟩:=hx;obtain⟨j,rfl⟩:=rx;exact .now
     |false=>obtain⟨i,rfl⟩:=hx;obtain⟨j,rfl⟩:=rx;exact .now
    ·exact p g hg M
def aIw (I:Inv X bFT σ H s)(G:Vals us its)(B:Al2 (dD X.K H) us rs)(O:ks≠[])(J:∀r∈rs,KdR ks r)(A:Around)(h2:2<=its.length)(h':Heap)(kp:∀b o,s.heap.get? b=some o->h'.get? b=some o) :
  ∃κ,(∀Q,Q κ { s with heap:=h' }->wpAny (model X.prog X.w) A (keyKind' its.toArray) Q (λ_ _=>False) { s with heap:=h' })/\∀i j C,i<its.length->j<its.length->C (rlt (rs.getD i []) (rs.getD j [])) { s with heap:=h' }->PySem.W.kas_ask X.prog X.w A κ its i j C { s with heap:=h' }:=by
 have e1:=G.length;have e2:=B.len;obtain⟨k,c,rfl⟩:∃k c,ks=k::c:=by
  cases ks with
  |nil=>exact absurd rfl O
  |cons k c=>exact⟨k,c,rfl⟩
 obtain⟨fs,U,t2,M⟩:=aOg I kp B G J;refine⟨_,λQ hq=>PySem.W.kat_kind (s:={ s with heap:=h' }) (T:=.type (if k=true then "int" else "str")) U (by lia) (λv p=>M v p _) (by simp) hq,λi j C y P F=>?_⟩;have g:∀{i:Nat},i<its.length->∃a o r l n,its.getD i Value.none=.ref a/\h'.get? a=some o/\o.data=.seq (List.toArray l) n/\Vals r l/\rs.getD i []=r/\KdR (k::c) r:=λ{i} y=>by
  have h:i<us.length:=by lia
  have d:i<rs.length:=by lia
  obtain⟨a,L,N⟩:=B.get (b8 h) (b8 d);obtain⟨v,p,z⟩:=G.get (b8 h);rw[L] at z;cases z;obtain⟨l,rr,⟨o,R,hc,n,hd⟩,_⟩:=I.tuple N;refine⟨a,o,rs[i],l,n,?_,kp _ _ R,hd,rr,by simp[d],J _ (bAP d)⟩;rw[j6,p];rfl
 obtain⟨a,o,r1,Z,n1,V,S,g3,E,Y,D⟩:=g y;obtain⟨b,o',r2,x2,n2,m,t,x,e,u,f⟩:=g P;show wpAny _ _ (keyLt' _ (its.getD i Value.none) (its.getD j Value.none)) C _ _;rw[V,m];refine PySem.W.kat_lt S g3 t x ?_;have q:decide ((List.toArray Z).size<(List.toArray x2).size)=false:=by rw[d9,d9];have:=E.length;have:=e.length;have:=Al2.len D;have:=Al2.len f;exact v9 (by lia)
 rw[q];refine aVp (k::c) D f E e 0 ?_;rw[Y,u] at F;exact F
theorem aFn (f:Vals us its):∀L:List Nat,(∀i∈L,i<us.length)->Vals (L.map λi=>us.getD i .non) (L.map λi=>its.getD i Value.none):=by
 intro L
 induction L with
 |nil=>intro _;exact .nil
 |cons i L ih=>intro a;have b:=a i (j7 ..);obtain⟨v,e,c⟩:=f.get (b8 b);refine .cons ?_ (ih λj d=>a j (j5 _ d));show RelV (us.getD i .non) (its.getD i Value.none);rw[j6,b8 b,j6,e];exact c
theorem aEs {K:bFP}{H:Hp}{us:List V}{d:List (List V)}(f:Al2 (dD K H) us d):∀L:List Nat,(∀i∈L,i<us.length)->Al2 (dD K H) (L.map λi=>us.getD i .non) (L.map λi=>d.getD i []):=by
 intro L
 induction L with
 |nil=>intro _;exact .nil
 |cons i L ih=>
  intro b;have c:=b i (j7 ..);have a:i<d.length:=by have:=f.len;lia
  refine .cons ?_ (ih λj e=>b j (j5 _ e));show dD K H (us.getD i .non) (d.getD i []);rw[j6,b8 c,j6,b8 a];exact f.get (b8 c) (b8 a)
def uH:cJ X (.builtin "sorted") (aSg X.K):=by
 intro z s σ H G n Q I r h;obtain⟨l,E,c,C,rfl,v,g,w,f,p,q⟩:=h;obtain⟨u,rfl,t⟩:=vals1 r;cases t;obtain⟨a,k,A,B⟩:=I.list v;have F:=k.length;have D:=g.len;refine PySem.W.aHt A.isList (by lia) (aIw I k g f p _) ?_;obtain⟨e,x⟩:=sortedAll_at s.heap a (List.toArray ((PySem.W.eG a.length λi j=>rlt (c.getD i []) (c.getD j [])).map λi=>a.getD i Value.none));have m:=I.hok.fresh (bEL _);have y:a.length=c.length:=by lia
 refine⟨.ref (s.heap.objs.size+1),_,I.laid (t':=s.toks) (λb o q=>sortedAll_old q) (bEL _) ?_,rfl,q _ _ _ m (bC m _) aK (aEs g _ λi d=>by have:=PySem.W.oH d;lia)⟩;refine⟨small (by rw[j4,PySem.W.sV];lia),_,e,?_,x⟩;rw[y];exact aFn k _ λi d=>by have:=PySem.W.oH d;lia
end
def kvlt:V->V->Bool
 |.int a,.int b=>decide (a<b)
 |.str a,.str b=>decide (a.cps.toList<b.cps.toList)
 |_,_=>false
section
variable {X:Cx}{bFT:bFR}{σ:List (Option V)}{H:Hp}{s:Shared}
end
section
variable {X:Cx}
end
section
variable {P:Program}{w:World}{K:bFP}{mg:bFS}{base:Heap}
def aTk (K:bFP)(mg:bFS)(x:Str)(Pt:Addr):Prop:=∃f o fd c,mg x=some (.ref f)/\K.lookup f=some o/\o.data=.func fd/\fd.code=.ref c/\PySem.W.codeHdIn K c Pt=true
def Ok.bD8 {x:Str}{st:Stmt}{N ps:List Str}{k:Nat}{sp:Sp}{Pt:Addr}(D:Dn K mg x st ps)(C:aTk K mg x Pt)(L:K.In base)(S:aM N ps (aJ st))(z:∀vs H Q E,sp vs H Q E->vs.length=ps.length)
  (i:∀(f c:Addr) (A:Around) (outer:List Env) (s:Shared) (H:Hp) (vs:List V) (Q:VK) (E:XK),PySem.W.CodeHd base c Pt->Room k (A.deeper (envOfC x (aJ st) s.heap.objs.size f (.ref c)))->sp vs H Q E ->
   ∃t,VSs (aC2 CX0 P w K mg base N x (aJ st) f (.ref c) A outer s H E).nox (fH st) t/\t { nx:=λ_ H'=>Q .non H',rt:=Q } (start N vs) H):Ok P w K mg base (k+1) x ps sp:=by
 obtain⟨f,u,F,B,m⟩:=D;obtain⟨J,O,G,c,l,a,d,j,p⟩:=C;rw[m] at l;cases l;refine⟨f,u,m,F.kp,B,?_⟩;obtain⟨I,U,kV,y,M,T,r,R,o,rfl,n,g⟩:=F.ex;rw[n] at a;cases a;cases d;have e:=j;subst e;refine aY1 n g S z λA outer s H vs Q E v b=>?_;obtain⟨t,h,q⟩:=i f c A outer s H vs Q E (PySem.W.codeHd_of_K L p) v b;exact⟨t,h.1.nox,q⟩
end
section
variable {X:Cx}
end
end L2
namespace My
open PySem PySem.Spec PyProof.Rows L2
section
variable {P:Program}{w:World}{K:bFP}{mg:bFS}{base:Heap}
def vlt:V->V->Bool
 |.int a,.int b=>decide (a<b)
 |.str a,.str b=>decide (a.cps.toList<b.cps.toList)
 |_,_=>false
def aP4 (k:Str):Prop:=k = "number"\/k = "word"
def qC:Str:="are_cuts.<locals>.<lambda>"
inductive aPd (P:Program)(w:World)(K:bFP)(mg:bFS)(base:Heap)(k:Nat)(vs:List V)(H:Hp)(Q:VK)(E_:XK):Prop
 |mk (a:Addr) (lo hi:Nat) (f:Addr) (xs:List V) (qual g x y:Str) (z:V) (ps:List Str) (sp:Sp) (_:vs=[.ref a,.int (lo:Nat),.int (hi:Nat),.ref f]) (_:SqT K H a xs) (_:lo<=xs.length) (_:xs.length<=hi) (_:hi<=1000) (_:wD H f qual g x y z) (_:Ok P w K mg base k g ps sp) (_:(∀v∈xs,∀(H':Hp) (R:VK),Same H H'->(∀H2,Same H' H2->R (.bl true) H2)->sp [v,z] H' R E0)) (_:∀H',Same H H'->Q (.bl true) H')
def zW (T:Txt w K mg):Ok P w K mg base (k+2) "is_tuple_of" ["thing","least","most","is_part"] (aPd P w K mg base k):=by
 refine Ok.ofV T.tX rW (by trivial) (λf I A n s H X Q E O h=>?_)
 obtain⟨a,U,F,g,d,c,C,x,y,z,L,M,rfl,j,Y,h2,o,p,S,m,q⟩:=h;refine⟨_,(aC (cA (VW.pt (iR (cT (cL (aP jQ (by rfl) T.cB bW (aB (vv 0) (aB (fZ (v:=.ty "tuple") (by rfl) T.iU fU rfl) aA))))) (gK (cT (aC0 aCc aCc (vv 1) (aP bH (by rfl) T.fK dF (aB (vv 0) aA)) (vv 2)))))) (aH (aO lK)) bF) (aH (aO (aP (mO rfl) (by rfl) T.aA4 uE (aB (dJ (N:=["part","is_part"]) (by trivial) (lJ (aJ kO) rfl (by decide +kernel)) rfl (qU (vv 0)) (λcl W e Z=>⟨(aX (i:=0) (show (["part","is_part"]:List Str).Nodup from by decide +kernel) rfl (Or.inl rfl)),eX,(aQa (P:=P) (w:=w) (K:=K) (mg:=mg) (base:=base) O (vv 1) (aB (vv 0) aA))⟩)) aA))))),?_⟩;refine⟨_,rfl,_,_,rfl,.tup j,_,rfl,cC ?_⟩;refine⟨_,rfl,_,rfl,_,_,rfl,.inr j,_,_,rfl,rfl,_,rfl,?_⟩;have J:decide ((U:Int)<=(d.length:Int))=true:=m9 (by lia);have G:decide ((d.length:Int)<=(F:Int))=true:=m9 (by lia);rw[J];refine fG ⟨_,rfl,_,_,rfl,rfl,_,rfl,?_⟩;rw[G];refine cC ?_;dsimp only[rY,tO,tCB,gY];refine aFd d (λ_=>.bl true) [none,some (.ref g)] ?_ (small (by lia)) (λR r=>aLj j (λV u=>⟨_,rfl,u⟩) R r) (λv B e R l b r=>?_) rfl λD e b t=>?_
 ·exact sE 3 (by decide +kernel) rfl rfl (by trivial)
 ·exact⟨_,rfl,g,c,C,x,y,z,L,M,rfl,p.same b,S,_,rfl,v,rfl,p.same b,m v B e R b r⟩
 ·refine⟨D,d.map λ_=>true,rfl,SqL.of (by rw[t,bBJ];rfl),?_⟩;rw[show (d.map λ_=>true).all id=true by rw[List.all_map];exact List.all_eq_true.mpr λ_ _=>rfl];exact q e b
inductive aTl (K:bFP)(vs:List V)(H:Hp)(Q:VK)(E_:XK):Prop
 |mk (p:Addr) (v:V) (h m:Int) (_:vs=[.ref p,.int m]) (_:SqT K H p [v,.int h]) (_:0<=h) (_:h<m) (_:∀H',Same H H'->Q (.bl true) H')
def aPs (T:Txt w K mg)(i:Ok P w K mg base 2 "is_number_below" ["thing","many"] wW):Ok P w K mg base 3 "is_cut" ["thing","houses"] (aTl K):=by
 refine Ok.ofV T.aVf aP0 (by trivial) (λf c A a s H j Q E e h=>?_)
 obtain⟨p,v,h,m,rfl,b,d,g,q⟩:=h;refine⟨_,(aH (aO (jL (aP jQ (by rfl) T.cB bW (aB (vv 0) (aB (fZ (v:=.ty "tuple") (by rfl) T.iU fU rfl) aA))) (jL (dB gO (aP bH (by rfl) T.fK dF (aB (vv 0) aA)) aF (bL _)) (jD (aN (i.mono (by decide)) e (by rfl) (aB (aU aY (vv 0) aF (λ_ _=>rfl)) (aB (vv 1) aA)))))))),?_⟩;refine⟨_,rfl,_,_,rfl,.tup b,_,rfl,fG ⟨_,rfl,_,_,rfl,.inr b,rfl,_,rfl,?_⟩⟩;refine fG ⟨_,rfl,p,_,1,_,rfl,rfl,b,at1 _ _ _,_,rfl,h,m,rfl,?_⟩;rw[m9 d,m9 g];exact q H (Same.refl H)
def aU4 (h:env.cells.lookup y=some cp):closureFor { kind:=.function,names:=[(x,.local),(y,.free),(g,.globalImplicit)],isGenerator:=false,isCoroutine:=false,more:=[] } env=pure [(y,cp)]:=by
 have a:cellOf env y=pure cp:=by unfold cellOf;rw[h]
 simp[closureFor,a]
def jP (K:bFP)(H:Hp)(v:V)(c:V × Int):Prop:=∃p,v=.ref p/\SqT K H p [c.1,.int c.2]
def jP.same (e:Same H H')(h:jP K H v c):jP K H' v c:=by obtain⟨p,rfl,a⟩:=h;exact⟨p,rfl,e.bB a⟩
structure aB3 (kd:Str)(m:Int)(h0:Int)(cs:List (V × Int)):Prop where
 first:0<=h0/\h0<m
 each:∀c∈cs,bV kd c.1/\0<=c.2/\c.2<m
 up:(cs.map (·.1)).Pairwise λa b=>vlt a b=true
 few:cs.length<=7
theorem mJ (h:bV kd v):aKe v=true/\kindS v=kd:=by
 cases h with
 |num=>exact⟨rfl,rfl⟩
 |@wrd x hx h8=>refine⟨?_,rfl⟩;show (false || (decide (0<=x.length) && (decide (x.length<=8) && allIn x)))=true;rw[allIn_of hx,m9 h8];rfl
theorem sX (h:bV kd v):Vl v:=by
 cases h with
 |num=>exact .inl ⟨_,rfl⟩
 |wrd hx h8=>exact .inr ⟨_,rfl,hx,h8⟩
def bBj (h:vlt a b=true)(q:Q (.bl true) H):bCv a b H Q:=by
 unfold vlt at h
 split at h
 ·exact .inl ⟨_,_,rfl,rfl,by rw[h];exact q⟩
 ·exact .inr ⟨_,_,rfl,rfl,by rw[h];exact q⟩
 ·cases h
inductive aN7 (K:bFP)(Pt:Addr)(vs:List V)(H:Hp)(Q:VK)(E_:XK):Prop
 |mk (v:V) (kd:Str) (m h0:Int) (cs:List (V × Int)) (_:vs=[v,.str kd,.int m]) (_:rK K H (jP K H) v ((.non,h0)::cs)) (_:aP4 kd) (_:aB3 kd m h0 cs) (_:H Pt=some (.tab qC)) (_:∀H',Same H H'->Q (.bl true) H')
def aLe (T:Txt w K mg)(C:aTk K mg "are_cuts" Pt)(hK:K.In base)(a5:BM mg base)(nQ:Ok P w K mg base 5 "is_tuple_of" ["thing","least","most","is_part"] (aPd P w K mg base 3))(a7:Ok P w K mg base 3 "is_cut" ["thing","houses"] (aTl K))
  (gQ:Ok P w K mg base 3 "is_value_of" ["thing","kind"] (aGk K)):Ok P w K mg base 6 "are_cuts" ["thing","kind","houses"] (aN7 K Pt):=by
 refine Ok.bD8 T.aN2 C hK yS (λvs H Q E h=>?_) (λf c A Y s H vs Q E CH X h=>?_)
 ·obtain⟨v,kd,m,h0,k,rfl,_⟩:=h;rfl
 obtain⟨v,kd,m,h0,k,rfl,⟨a,us,rfl,W,hu⟩,a4,I,hP,q⟩:=h;have a6:=lB X;refine⟨_,(aC (cA (VW.pt (iR (cT (cL (aNe (iy:=2) nQ X (by rfl) (vv 0) aF (qJ (by rfl) T.zR) rfl CH a5 ⟨⟨_,_,_,_,rfl⟩,λ_ _ _ _ _=>rfl,rfl,rfl,rfl,by decide +kernel,rfl,rfl,rfl,by decide +kernel,by decide +kernel,by decide +kernel,by decide +kernel,by decide +kernel⟩ rfl rfl rfl rfl (aU4 rfl) rfl))) (gK (bQ aN9 (aU aY (aU aY (vv 0) aF (λ_ _=>rfl)) aF (λ_ _=>rfl)) qO (bL _))))) (aH (aO lK)) bF) (aC (aAl (i0:=3) yS.nd rfl (by trivial) (N:=["cut"]) (by trivial) (gU (by decide +kernel)) rfl (qU (eO aGz (vv 0) (fJ aF) gZ)) (λcl e d fp=>⟨(aX (i:=0) (show (["cut"]:List Str).Nodup from by decide +kernel) rfl (Or.inl rfl)),eX,(aU (cO (K:=K)) (vv 0) aF (λ_ _=>rfl))⟩)) (aC (cA (cT (cL (aP (mO rfl) (by rfl) T.aA4 uE (aB (dJ (N:=["low","kind"]) (by trivial) (lJ (aJ uN) rfl (by decide +kernel)) rfl (jB (vv 3)) (λcl e d fp=>⟨(aX (i:=0) (show (["low","kind"]:List Str).Nodup from by decide +kernel) rfl (Or.inl rfl)),eX,(aN (gQ.mono (by decide)) X (by rfl) (aB (vv 0) (aB (vv 1) aA)))⟩)) aA)))) (aH (aO lK)) bF) (aH (aO (aP (mO rfl) (by rfl) T.aA4 uE (aB (dJ (N:=["low","after"]) (by trivial) (gU (by decide +kernel)) rfl (aS8 (by rfl) T.aYt (aB (vv 3) (aB (eO aBm (vv 3) (fJ aF) gZ) aA))) (λcl e d fp=>⟨(rZ (K:=K) (n:=2) rfl (cD (aX (i:=0) (show (["low","after"]:List Str).Nodup from by decide +kernel) rfl (Or.inl rfl)) (cD (aX (i:=1) (show (["low","after"]:List Str).Nodup from by decide +kernel) rfl (Or.inl rfl)) jK))),eX,(dB aZm (vv 0) (vv 1) (bL _))⟩)) aA))))))),?_⟩;have lu:=hu.len;have a3:=I.few;rw[t8] at lu;refine⟨_,rfl,.int m,rfl,hP,λlf U hL hT=>⟨a,1,8,lf,us,_,_,_,_,_,_,_,rfl,hT _ _ W,by lia,by lia,by decide,hL,a7,λv hv d R G r=>?_,λH3 s3=>⟨s3,λH4 J=>?_⟩⟩⟩
 ·obtain⟨c,hc,p,rfl,hp⟩:=hu.mem hv;have O:0<=c.2/\c.2<m:=by
   rcases List.mem_cons.mp hc with rfl|hc
   ·exact I.first
   ·exact (I.each c hc).2
  exact⟨p,c.1,c.2,m,rfl,G.bB (hT _ _ hp),O.1,O.2,λU s2=>r U s2⟩
 obtain⟨u0,Z,rfl,⟨p0,rfl,a1⟩,M⟩:∃u0 Z,us=u0::Z/\jP K H u0 (.non,h0)/\bY (jP K H) Z k:=by
  cases hu with
  |cons r t=>exact⟨_,_,rfl,r,t⟩
 refine⟨_,rfl,cC ?_⟩;refine⟨_,rfl,a,_,0,_,rfl,rfl,J.bB W,at0 _ _,p0,_,0,_,rfl,rfl,J.bB a1,at0 _ _,rfl,_,rfl,cC ?_⟩;dsimp only[rY,cM,aHe,aBq];have lt:=M.len;refine vU [none] oE ⟨_,rfl,_,rfl,a,_,rfl,J.bB W,λts H5 s5 S=>?_⟩;rw[show (1:Int)=((1:Nat):Int) from rfl,xN,List.drop_one,List.tail_cons] at S;refine⟨ts,rfl,⟨_,S⟩,aBx (aHh λd e=>e.bB S) (wN λd e=>e.bB S) ⟨none,rfl⟩ (by lia) (k.map (·.1)) (by rw[j4];lia) (λi x z B F d R l G r=>?_) λL H6 s6 nL V=>?_⟩
 ·obtain⟨c',j,p',rfl,a0⟩:=bM M B;rw[t7,j] at F;cases F;exact⟨_,rfl,p',_,0,_,rfl,rfl,(J.trans (s5.trans G)).bB a0,at0 _ _,r d (Same.refl _)⟩
 have g:∀n:Nat,(List.replicate n true).all id=true:=λn=>List.all_eq_true.mpr λb O=>(bBY O);dsimp only[aMv,bAw,tB,tCB,gY,List.set];refine vP [none,some (.str kd)] (sE 1 (by decide +kernel) rfl rfl (by trivial)) ⟨_,rfl,L,rfl,⟨_,SqL.of V⟩,aBx (aLm λd e=>SqL.of (e _ _ V)) (aBr λd e=>SqL.of (e _ _ V)) ⟨none,rfl⟩ (by rw[j4];lia) (List.replicate k.length (.bl true)) (by rw[bDR,j4]) (λi x z B F d R l G r=>?_) λD H7 s7 _ g7=>?_⟩
 ·rw[t7] at B;obtain⟨c',j,rfl⟩:=Option.map_eq_some_iff.mp B;have u:=bBY (m8 F);subst u;have hk:=(I.each c' (m8 j)).1;obtain⟨v1,v2⟩:=mJ hk;refine⟨_,rfl,_,rfl,c'.1,kd,rfl,(sX hk).th,λU s2=>?_⟩;rw[v1,v2,m9 rfl];exact r U s2
 refine⟨D,List.replicate k.length true,rfl,SqL.of (by rw[g7,bEK]),?_⟩;rw[g];refine⟨_,rfl,cC ?_⟩;dsimp only[rY,tO,tCB,gY];have o:=s7 _ _ V;refine aTh [none,none] oJ ⟨_,rfl,_,rfl,_,rfl,L,_,rfl,SqL.of o,λa2 H8 _ s8 g8=>?_⟩;rw[show (1:Int)=((1:Nat):Int) from rfl,xN] at g8;refine⟨L,a2,_,_,rfl,SqL.of (s8 _ _ o),SqL.of g8,aJl (SqL.of (s8 _ _ o)) (SqL.of g8) (by rw[bBP];lia) ⟨none,none,rfl⟩ (by rw[bBP,j4];lia) (List.replicate ((k.map (·.1)).drop 1).length (.bl true)) (by rw[bDR]) (λi x y z B ey F d R G r=>?_) λD2 H9 s9 g9=>?_⟩
 ·have u:=bBY (m8 F);subst u;rw[List.getElem?_drop] at ey;obtain⟨hi,rfl⟩:=List.getElem?_eq_some_iff.mp B;obtain⟨hj,rfl⟩:=List.getElem?_eq_some_iff.mp ey;exact⟨_,rfl,_,rfl,bBj ((List.pairwise_iff_getElem.mp I.up) i (1+i) hi hj (by lia)) (r d (Same.refl _))⟩
 ·refine⟨D2,List.replicate ((k.map (·.1)).drop 1).length true,rfl,SqL.of (by rw[g9,bEK]),?_⟩;rw[g];exact q H9 (J.trans (s5.trans (s6.trans (s7.trans (s8.trans s9)))))
def aNq (hd:Hdr):Prop:=Good hd/\∀c∈hd,Nm c.1/\aP4 c.2
inductive aJ5 (K:bFP)(vs:List V)(H:Hp)(Q:VK)(E_:XK):Prop
 |mk (v:V) (hd:Hdr) (_:vs=[v]) (_:lV K H v hd) (_:aNq hd) (_:∀H',Same H H'->Q (.bl true) H')
def bU (K:bFP)(H:Hp)(D:Addr)(rs:List (List V)):Prop:=∃us,H D=some (.lst us)/\bY (dD K H) us rs
theorem bU.same (e:Same H H')(h:bU K H D rs):bU K H' D rs:=by obtain⟨b,c,a⟩:=h;exact⟨b,e _ _ c,a.imp λ_ _ r=>r.same e⟩
def aJe (T:Txt w K mg)(O:Ok P w K mg base 3 "is_column" ["thing"] (aZ6 (aF5 K)))(nQ:Ok P w K mg base 4 "is_tuple_of" ["thing","least","most","is_part"] (aJ4 P w K mg base 3))
  (N:Ok P w K mg base 1 "are_unlike" ["names"] (aFs K)) (mL:Ok P w K mg base 1 "names_of" ["head"] (aGn K)):Ok P w K mg base 5 "is_head" ["thing"] (aJ5 K):=by
 refine Ok.ofV T.aQv aM6 (by trivial) (λf I A k s H Y Q E i h=>?_)
 obtain⟨v,hd,rfl,⟨a,r,rfl,o,g⟩,b,q⟩:=h;obtain⟨t,J,C⟩:=O.held;have S:∃u,mg "is_column"=some u/\RelV (.ref t) u:=⟨_,J,rfl⟩;refine⟨_,(aH (aO (jL (aN (nQ.mono (by decide)) i (by rfl) (aB (vv 0) (aB aF (aB (qJ (by rfl) T.aCv) (aB (qJ (by rfl) S) aA))))) (jD (aN (N.mono (by decide)) i (by rfl) (aB (aN (mL.mono (by decide)) i (by rfl) (aB (vv 0) aA)) aA)))))),?_⟩;have lu:=g.len;have Z:=b.1.2.1;have W:=b.1.2.2;have d:r.all (λ_=>true)=true:=List.all_eq_true.mpr λ_ _=>rfl;have L:aEt K (aF5 K) 1 8 H (.ref a) true:=by
  have:=aEt.yes (K:=K) (R:=aF5 K) (lo:=1) (hi:=8) (H:=H) (λ_=>true) o (by lia) (by lia) (λx B=>by
   obtain⟨c,V,p,rfl,M⟩:=g.mem B;obtain⟨l,m⟩:=b.2 c V;have j:Th K H (.str c.2):=aNb (by rcases m with e|e <;> rw[e] <;> decide +kernel);have z:=aF5.two (K:=K) (H:=H) M l.th j;have e:(nameB (.str c.1) && (isS (.str c.2) && inV (.str c.2) kinds))=true:=by rw[show nameB (.str c.1)=true from l];rcases m with e|e <;> rw[e] <;> decide +kernel
   rw[e] at z;exact z)
  rw[d] at this;exact this
 refine⟨_,rfl,_,1,8,t,_,_,_,rfl,by decide,C,aRg K,L,λX n=>⟨_,rfl,fG ?_⟩⟩;refine⟨_,rfl,.ref a,hd,rfl,lV.same n ⟨a,r,rfl,o,g⟩,by lia,λD H2 F y=>?_⟩;refine⟨D,hd.map (·.1),rfl,SqL.of y,by rw[j4];lia,λU G=>?_⟩;rw[m9 ((aRh _).mpr b.1.1)];exact q U ((n.trans F).trans G)
def pX (hd:Hdr)(r:List V):Prop:=bY (λc v=>bV c.2 v) hd r
inductive aAi (K:bFP)(vs:List V)(H:Hp)(Q:VK)(E_:XK):Prop
 |mk (vh v:V) (hd:Hdr) (r:List V) (_:vs=[vh,v]) (_:lV K H vh hd) (_:hd.length<=1000) (_:dD K H v r) (_:pX hd r) (_:∀H',Same H H'->Q (.bl true) H')
def aNn (T:Txt w K mg)(gQ:Ok P w K mg base 3 "is_value_of" ["thing","kind"] (aGk K)):Ok P w K mg base 4 "is_row" ["head","thing"] (aAi K):=by
 refine Ok.ofV T.aU8 aRq (by trivial) (λf M A t s H vs Q E U h=>?_)
 obtain⟨Z,v,hd,r,rfl,⟨b,k,rfl,z,B⟩,hl,⟨a,rfl,m⟩,j,q⟩:=h;have lc:=B.len;have lr:=j.len;refine⟨_,(aC (cA (VW.pt (iR (cT (cL (aP jQ (by rfl) T.cB bW (aB (vv 1) (aB (fZ (v:=.ty "tuple") (by rfl) T.iU fU rfl) aA))))) (gK (bQ aEq (aP bH (by rfl) T.fK dF (aB (vv 1) aA)) (aP bH (by rfl) T.fK dF (aB (vv 0) aA)) (bL _))))) (aH (aO lK)) bF) (aH (aO (aP (mO rfl) (by rfl) T.aA4 uE (aB (dJ (N:=["value","column"]) (by trivial) (gU (by decide +kernel)) rfl (aX3 (by rfl) T.aYt (aB (vv 1) (aB (vv 0) aA))) (λcl s' o fp=>⟨(rZ (K:=K) (n:=2) rfl (cD (aX (i:=0) (show (["value","column"]:List Str).Nodup from by decide +kernel) rfl (Or.inl rfl)) (cD (aX (i:=1) (show (["value","column"]:List Str).Nodup from by decide +kernel) rfl (Or.inl rfl)) jK))),eX,(aN (gQ.mono (by decide)) U (by rfl) (aB (vv 0) (aB (aU (cO (K:=K)) (vv 1) aF (λ_ _=>rfl)) aA)))⟩)) aA))))),?_⟩;refine⟨_,rfl,_,_,rfl,.tup m,_,rfl,cC ?_⟩;refine⟨_,rfl,_,_,rfl,.inr m,_,rfl,_,_,rfl,.inr z,rfl,_,rfl,?_⟩;have e:(!decide (V.int (r.length:Nat)=V.int (k.length:Nat)))=false:=by rw[show r.length=k.length by lia];simp
 rw[e];refine cC ?_;dsimp only[rY,tO,tCB,gY];refine aVe r k (λ_ _=>.bl true) [none,none] oJ (small (by lia)) (by lia) m z (λR r=>⟨_,rfl,_,rfl,r⟩) (λi x c L X o R l1 l2 l G=>?_) rfl rfl λD o l C=>?_
 ·obtain⟨Y,u,p,rfl,O⟩:=bM B X;obtain⟨x',g,y⟩:=bM j u;rw[L] at g;cases g;obtain⟨W,S⟩:=mJ y;refine⟨_,rfl,_,rfl,p,_,1,_,rfl,rfl,l.bB O,at1 _ _ _,x,Y.2,rfl,(sX y).th,λJ F=>?_⟩;rw[W,S,m9 rfl];exact G J F
 ·have I:List.zipWith (λ_ _:V=>V.bl true) r k=(List.replicate r.length true).map V.bl:=by rw[bEK];refine List.eq_replicate_iff.mpr ⟨by rw[bFA];lia,λb d=>?_⟩;obtain⟨i,hi,rfl⟩:=bBE d;rw[List.getElem_zipWith]
  refine⟨D,List.replicate r.length true,rfl,SqL.of (by rw[C,I]),?_⟩;rw[show (List.replicate r.length true).all id=true from List.all_eq_true.mpr λb d=>bBY d];exact q o l
inductive aIn (K:bFP)(vs:List V)(H:Hp)(Q:VK)(E_:XK):Prop
 |mk (vh:V) (hd:Hdr) (n:Str) (_:vs=[vh,.str n]) (_:lV K H vh hd) (_:hd.length<=1000) (_:Nm n) (_:n∈hd.map (·.1)) (_:∀H',Same H H'->Q (.bl true) H')
def aAe (T:Txt w K mg)(p:Ok P w K mg base 2 "is_name" ["thing"] (aDr K nameB))(r:Ok P w K mg base 1 "names_of" ["head"] (aGn K)):Ok P w K mg base 3 "is_column_in" ["head","thing"] (aIn K):=by
 refine Ok.ofV T.aB8 aAg (by trivial) (λf m A a s H u Q E d h=>?_)
 obtain⟨g,hd,n,rfl,j,o,b,l,q⟩:=h;refine⟨_,(aH (aO (jL (aN (p.mono (by decide)) d (by rfl) (aB (vv 1) aA)) (jD (dB xR (vv 1) (aN (r.mono (by decide)) d (by rfl) (aB (vv 0) aA)) (by with_unfolding_all rfl)))))),?_⟩;refine⟨_,rfl,_,rfl,b.th,λt c=>⟨_,rfl,?_⟩⟩;rw[show nameB (.str n)=true from b];refine fG ⟨_,rfl,_,rfl,g,hd,rfl,j.same c,o,λD k i e=>?_⟩;refine⟨D,_,rfl,.inl (SqL.of e),rfl,aJg,?_⟩;rw[aO9,m9 l];exact q k (c.trans i)
inductive Plc where
 |copies
 |keys (n:Str)
 |spans (n:Str) (h0:Int) (cs:List (V × Int))
def zV (K:bFP)(H:Hp)(v:V):Plc->Prop
 |.copies=>∃a,v=.ref a/\SqT K H a [.str "copies"]
 |.keys n=>∃a,v=.ref a/\SqT K H a [.str "keys",.str n]
 |.spans n h0 cs=>∃a vc,v=.ref a/\SqT K H a [.str "spans",.str n,vc]/\rK K H (jP K H) vc ((.non,h0)::cs)
theorem zV.same (e:Same H H')(h:zV K H v pl):zV K H' v pl:=by
 cases pl with
 |copies=>obtain⟨a,rfl,b⟩:=h;exact⟨a,rfl,e.bB b⟩
 |keys n=>obtain⟨a,rfl,b⟩:=h;exact⟨a,rfl,e.bB b⟩
 |spans n h0 cs=>obtain⟨a,d,rfl,b,c⟩:=h;exact⟨a,d,rfl,e.bB b,rK.same e (λ_ _ q=>q.same e) c⟩
def aYc (hd:Hdr)(m:Int):Plc->Prop
 |.copies=>True
 |.keys n=>Nm n/\∃k,look hd n=some k
 |.spans n h0 cs=>Nm n/\∃k,look hd n=some k/\aP4 k/\aB3 k m h0 cs
def aBh (h:look hd n=some k):n∈hd.map (·.1):=by obtain⟨i,a,_⟩:=aHs h;exact List.mem_map.mpr ⟨_,m8 a,rfl⟩
def zL {p q:Prop}(h:c=true)(a:p):if c=true then p else q:=by rw[if_pos h];exact a
def lN {p q:Prop}(h:c=false)(a:q):if c=true then p else q:=by rw[if_neg (by rw[h];exact v6)];exact a
inductive aYk (K:bFP)(Pt:Addr)(vs:List V)(H:Hp)(Q:VK)(E_:XK):Prop
 |mk (v vh:V) (m:Int) (hd:Hdr) (pl:Plc) (_:vs=[v,vh,.int m]) (_:zV K H v pl) (_:lV K H vh hd) (_:hd.length<=1000) (_:aYc hd m pl) (_:H Pt=some (.tab qC)) (_:∀H',Same H H'->Q (.bl true) H')
def th8 (h:x.length<=8):Th K H (.str x):=aNb h
theorem aDx (T:Txt w K mg)(M:Ok P w K mg base 1 "is_one_of" ["thing","texts"] (aNs K))(V:Ok P w K mg base 3 "is_column_in" ["head","thing"] (aIn K))(yH:Ok P w K mg base 1 "kind_in" ["head","name"] (aLy K))(Z:Ok P w K mg base 6 "are_cuts" ["thing","kind","houses"] (aN7 K Pt)):Ok P w K mg base 7 "is_placing" ["thing","head","houses"] (aYk K Pt):=by
 refine Ok.ofV T.aHk aDs (by trivial) (λf U A L s H vs Q E j h=>?_)
 obtain⟨v,x,m,hd,pl,rfl,i,J,N,l,X,q⟩:=h;refine⟨_,(aC (cA (VW.pt (iR (cT (cL (aP jQ (by rfl) T.cB bW (aB (vv 0) (aB (fZ (v:=.ty "tuple") (by rfl) T.iU fU rfl) aA))))) (gK (bQ gO (aP bH (by rfl) T.fK dF (aB (vv 0) aA)) aF (bL _))))) (aH (aO lK)) bF) (aC (cA (cL (aN (M.mono (by decide)) j (by rfl) (aB (aU aY (vv 0) aF (λ_ _=>rfl)) (aB (cN (aB bN aA)) aA)))) (aH (aO (dB gO (aP bH (by rfl) T.fK dF (aB (vv 0) aA)) aF (bL _)))) bF) (aC (cA (cL (aN (M.mono (by decide)) j (by rfl) (aB (aU aY (vv 0) aF (λ_ _=>rfl)) (aB (cN (aB bN aA)) aA)))) (aH (aO (jL (dB gO (aP bH (by rfl) T.fK dF (aB (vv 0) aA)) aF (bL _)) (jD (aN (V.mono (by decide)) j (by rfl) (aB (vv 1) (aB (aU aY (vv 0) aF (λ_ _=>rfl)) aA))))))) bF) (aC (cA (VW.pt (iR (cT (cL (aN (M.mono (by decide)) j (by rfl) (aB (aU aY (vv 0) aF (λ_ _=>rfl)) (aB (cN (aB bN aA)) aA))))) (iR (bQ aEq (aP bH (by rfl) T.fK dF (aB (vv 0) aA)) aF (bL _)) (gK (cT (cL (aN (V.mono (by decide)) j (by rfl) (aB (vv 1) (aB (aU aY (vv 0) aF (λ_ _=>rfl)) aA))))))))) (aH (aO lK)) bF) (aH (aO (aN (Z.mono (by decide)) j (by rfl) (aB (aU aY (vv 0) aF (λ_ _=>rfl)) (aB (aN (yH.mono (by decide)) j (by rfl) (aB (vv 1) (aB (aU aY (vv 0) aF (λ_ _=>rfl)) aA))) (aB (vv 2) aA)))))))))),?_⟩;cases pl with
 |copies=>obtain⟨a,rfl,b⟩:=i;refine⟨_,rfl,_,_,rfl,.tup b,_,rfl,cC ⟨_,rfl,_,_,rfl,.inr b,rfl,_,rfl,cC ?_⟩⟩;refine⟨_,rfl,a,_,0,_,rfl,rfl,b,at0 _ _,by decide,λo C _ g p=>⟨_,o,_,rfl,th8 (by decide +kernel),SqT.of p,rfl,_,rfl,zL (by decide +kernel) ?_⟩⟩;refine⟨_,rfl,_,_,rfl,.inr (g.bB b),rfl,?_⟩;exact q C g
 |keys n=>obtain⟨a,rfl,b⟩:=i;obtain⟨u,k,r⟩:=l;refine⟨_,rfl,_,_,rfl,.tup b,_,rfl,cC ⟨_,rfl,_,_,rfl,.inr b,rfl,_,rfl,cC ?_⟩⟩;refine⟨_,rfl,a,_,0,_,rfl,rfl,b,at0 _ _,by decide,λo C _ g p=>⟨_,o,_,rfl,th8 (by decide +kernel),SqT.of p,rfl,_,rfl,lN (by decide +kernel) ?_⟩⟩;refine⟨_,rfl,a,_,0,_,rfl,rfl,g.bB b,at0 _ _,by decide,λF Y _ y D=>⟨_,F,_,rfl,th8 (by decide +kernel),SqT.of D,rfl,_,rfl,zL (by decide +kernel) ?_⟩⟩;have d:=g.trans y;refine⟨_,rfl,_,_,rfl,.inr (d.bB b),rfl,_,rfl,fG ?_⟩;exact⟨_,rfl,_,rfl,a,_,1,_,rfl,rfl,d.bB b,at1 _ _ _,x,hd,n,rfl,J.same d,N,u,aBh r,λI B=>q I (d.trans B)⟩
 |spans n h0 cs=>obtain⟨a,W,rfl,b,hc⟩:=i;obtain⟨u,k,r,G,t⟩:=l;refine⟨_,rfl,_,_,rfl,.tup b,_,rfl,cC ⟨_,rfl,_,_,rfl,.inr b,rfl,_,rfl,cC ?_⟩⟩;refine⟨_,rfl,a,_,0,_,rfl,rfl,b,at0 _ _,by decide,λo C _ g p=>⟨_,o,_,rfl,th8 (by decide +kernel),SqT.of p,rfl,_,rfl,lN (by decide +kernel) ?_⟩⟩;refine⟨_,rfl,a,_,0,_,rfl,rfl,g.bB b,at0 _ _,by decide,λF Y _ y D=>⟨_,F,_,rfl,th8 (by decide +kernel),SqT.of D,rfl,_,rfl,lN (by decide +kernel) ?_⟩⟩;have d:=g.trans y;refine⟨_,rfl,a,_,0,_,rfl,rfl,d.bB b,at0 _ _,by decide,λR H3 _ S g3=>⟨_,R,_,rfl,th8 (by decide +kernel),SqT.of g3,rfl,_,rfl,lN (by decide +kernel) ?_⟩⟩;have e:=d.trans S;refine⟨_,rfl,_,_,rfl,.inr (e.bB b),rfl,_,rfl,cC ?_⟩;refine⟨_,rfl,_,rfl,a,_,1,_,rfl,rfl,e.bB b,at1 _ _ _,x,hd,n,rfl,J.same e,N,u,aBh r,λH4 O=>⟨_,rfl,cC ?_⟩⟩;have c:=e.trans O;refine⟨_,rfl,a,_,2,_,rfl,rfl,c.bB b,at2 _ _ _ _,_,rfl,_,rfl,a,_,1,_,rfl,rfl,c.bB b,at1 _ _ _,x,n,hd,k,rfl,J.same c,r,_,rfl,?_⟩;exact⟨W,k,m,h0,cs,rfl,rK.same c (λ_ _ z=>z.same c) hc,G,t,c _ _ X,λI B=>q I (c.trans B)⟩
inductive aJa (K:bFP)(vs:List V)(H:Hp)(Q:VK)(E_:XK):Prop
 |mk (L:Addr) (vh:V) (hd:Hdr) (rows:List (List V)) (_:vs=[.ref L,vh]) (_:lV K H vh hd) (_:hd.length<=1000) (_:bU K H L rows) (_:rows.length<=1000) (_:(∀r∈rows,pX hd r)) (_:∀H',Same H H'->Q (.bl true) H')
def aJj (T:Txt w K mg)(Y:Ok P w K mg base 4 "is_row" ["head","thing"] (aAi K)):Ok P w K mg base 5 "are_rows" ["thing","head"] (aJa K):=by
 refine Ok.ofV T.aNl aK9 (by trivial) (λf J A k s H Z Q E O h=>?_)
 obtain⟨L,t,hd,y,rfl,U,M,⟨c,d,p⟩,X,e,q⟩:=h;refine⟨_,(aH (aO (jL (aP aQe (by rfl) T.cB bW (aB (vv 0) (aB (fZ (v:=.ty "list") (by rfl) T.wZ sS rfl) aA))) (jD (aP (mO rfl) (by rfl) T.aA4 uE (aB (dJ (N:=["row","head"]) (by trivial) (lJ (aJ uO) rfl (by decide +kernel)) rfl (jB (vv 0)) (λcl a j fp=>⟨(aX (i:=0) (show (["row","head"]:List Str).Nodup from by decide +kernel) rfl (Or.inl rfl)),eX,(aN (Y.mono (by decide)) O (by rfl) (aB (vv 1) (aB (vv 0) aA)))⟩)) aA)))))),?_⟩;have lu:=p.len;refine⟨_,rfl,L,c,rfl,SqL.of d,_,rfl,fG ?_⟩;dsimp only[tO,tCB,gY];refine vP [none,some t] (sE 1 (by decide +kernel) rfl rfl (by trivial)) ⟨_,rfl,L,rfl,⟨_,SqL.of d⟩,aBx (aLm λj a=>SqL.of (a _ _ d)) (aBr λj a=>SqL.of (a _ _ d)) ⟨none,rfl⟩ (by lia) (List.replicate c.length (.bl true)) (by rw[bDR]) (λi x z I G j R l o r=>?_) λD C W _ S=>?_⟩
 ·have n:=bBY (m8 G);subst n;obtain⟨u,g,B⟩:=bM p I;exact⟨_,rfl,_,rfl,t,x,hd,u,rfl,U.same o,M,B.same o,e u (m8 g),λV F=>r V F⟩
 ·refine⟨D,List.replicate c.length true,rfl,SqL.of (by rw[S,bEK]),?_⟩;rw[show (List.replicate c.length true).all id=true from List.all_eq_true.mpr λb m=>bBY m];exact q C W
structure Tb where
 hd:Hdr
 pl:Plc
 rows:List (List V)
def lZ (K:bFP)(H:Hp)(v:V)(vh vp:V)(L:Addr)(t:Tb):Prop:=∃a,v=.ref a/\SqT K H a [vh,vp,.ref L]/\lV K H vh t.hd/\zV K H vp t.pl/\bU K H L t.rows
structure mV (m:Int)(t:Tb):Prop where
 hd:aNq t.hd
 pl:aYc t.hd m t.pl
 few:t.rows.length<=60
 rows:∀r∈t.rows,pX t.hd r
inductive aY0 (K:bFP)(Pt:Addr)(vs:List V)(H:Hp)(Q:VK)(E_:XK):Prop
 |mk (v vh vp:V) (L:Addr) (m:Int) (t:Tb) (_:vs=[v,.int m]) (_:lZ K H v vh vp L t) (_:mV m t) (_:H Pt=some (.tab qC)) (_:∀H',Same H H'->Q (.bl true) H')
def aKj (T:Txt w K mg)(o:Ok P w K mg base 5 "is_head" ["thing"] (aJ5 K))(x:Ok P w K mg base 7 "is_placing" ["thing","head","houses"] (aYk K Pt))(z:Ok P w K mg base 5 "are_rows" ["thing","head"] (aJa K)):Ok P w K mg base 8 "is_table" ["thing","houses"] (aY0 K Pt):=by
 refine Ok.ofV T.aN4 aK4 (by trivial) (λf u A l s H G Q E j h=>?_)
 obtain⟨v,g,y,L,m,t,rfl,⟨a,rfl,c,k,i,C⟩,e,B,q⟩:=h;have I:=e.hd.1.2.2;have r:=e.few;refine⟨_,(aC (cA (VW.pt (iR (cT (cL (aP jQ (by rfl) T.cB bW (aB (vv 0) (aB (fZ (v:=.ty "tuple") (by rfl) T.iU fU rfl) aA))))) (iR (bQ aEq (aP bH (by rfl) T.fK dF (aB (vv 0) aA)) aF (bL _)) (gK (cT (cL (aN (o.mono (by decide)) j (by rfl) (aB (aU aY (vv 0) aF (λ_ _=>rfl)) aA)))))))) (aH (aO lK)) bF) (aH (aO (jL (aN (x.mono (by decide)) j (by rfl) (aB (aU aY (vv 0) aF (λ_ _=>rfl)) (aB (aU aY (vv 0) aF (λ_ _=>rfl)) (aB (vv 1) aA)))) (jD (aN (z.mono (by decide)) j (by rfl) (aB (aU aY (vv 0) aF (λ_ _=>rfl)) (aB (aU aY (vv 0) aF (λ_ _=>rfl)) aA)))))))),?_⟩;refine⟨_,rfl,_,_,rfl,.tup c,_,rfl,cC ⟨_,rfl,_,_,rfl,.inr c,rfl,_,rfl,cC ?_⟩⟩;refine⟨_,rfl,a,_,0,_,rfl,rfl,c,at0 _ _,g,t.hd,rfl,k,e.hd,λF d=>⟨_,rfl,cC ?_⟩⟩;refine⟨_,rfl,a,_,1,_,rfl,rfl,d.bB c,at1 _ _ _,_,rfl,a,_,0,_,rfl,rfl,d.bB c,at0 _ _,_,rfl,y,g,m,t.hd,t.pl,rfl,i.same d,k.same d,by lia,e.pl,d _ _ B,λJ n=>⟨_,rfl,fG ?_⟩⟩;have b:=d.trans n;exact⟨_,rfl,a,_,2,_,rfl,rfl,b.bB c,at2 _ _ _ _,_,rfl,a,_,0,_,rfl,rfl,b.bB c,at0 _ _,L,g,t.hd,t.rows,rfl,k.same b,by lia,C.same b,by lia,e.rows,λD p=>q D (b.trans p)⟩
end
end My
namespace L2
open PySem PySem.Spec PyProof.Rows
section
variable {X:Cx}{bFT:bFR}{σ:L2.St}{H:Hp}{s:Shared}{d:Addr}{o:Obj}{kvs:List (Key × V)}
def aXa (i:HOk X.prog X.w H s.heap)(hd:H d=some u)(j:∀xs,u≠.tup xs)(k:∀a,u≠.own a)(h:dN X.prog X.w H s.heap d u'):HOk X.prog X.w (upd H d u') s.heap:=by
 have f:∀{b v},dN X.prog X.w H s.heap b v->dN X.prog X.w (upd H d u') s.heap b v:=λ{b v} z=>z.stay (λ_ _ _ q=>q) (λc q=>by
  rw[aR (λe=>by subst e;rw[hd] at q;exact k _ (bAM q))];exact q) λc xs q=>by
  rw[aR (λe=>by subst e;rw[hd] at q;exact j _ (bAM q))];exact q
 intro b v e;by_cases g:b=d
 ·subst g;rw[aK] at e;cases e;exact f h
 ·rw[aR g] at e;exact f (i b v e)
def Inv.setd (I:Inv X bFT σ H s)(hd:H d=some u)(k:∀xs,u≠.tup xs)(r:∀a,u≠.own a)(y:∀ps,u≠.tbl ps)(t:∀ob v,X.H₀ d≠some (.frz ob v))(h:dN X.prog X.w H s.heap d u'):Inv X bFT σ (upd H d u') s:=by
 have g:∀{b},H b=none->upd H d u' b=none:=λ{b} e=>by rw[aR (λz=>by subst z;rw[hd] at e;cases e)];exact e
 refine⟨I.ok,I.os,I.bare,⟨I.base.keep,I.base.slot,λb ob e n i=>g (I.base.free b ob e n i),I.base.there,λb xs e=>?_,λb ob v e=>?_,λb ps e=>?_⟩,I.loc,I.cell,g I.free,λx c e=>g (I.freeC x c e),λp m=>?_,aXa I.hok hd k r h,I.len⟩
 ·have q:=I.base.tups b xs e;rw[aR (λz=>by subst z;rw[hd] at q;exact k _ (bAM q))];exact q
 ·have q:=I.base.frzs b ob v e;rw[aR (λz=>by subst z;exact t _ _ e)];exact q
 ·obtain⟨f,q⟩:=I.base.tbls b ps e;refine⟨f,?_⟩;rw[aR (λz=>by subst z;rw[hd] at q;exact y _ (bAM q))];exact q
 ·obtain⟨o,j,l⟩:=I.pin p m;exact⟨o,g j,l⟩
end
def Itd (d:Addr)(o:Obj)(kvs:List (Key × V)):It:=
 ⟨λi H=>H d=some (.frz o (.dK kvs))/\i<kvs.length,λi H x H'=>H'=H/\∀kv,kvs[i]?=some kv->x=kV kv.1,λi H=>H d=some (.frz o (.dK kvs))/\i=kvs.length⟩
def aAr (a:o.data=.dict es ep)(l:dN P w H h d (.frz o (.dK kvs))):∃vs,KV kvs vs/\h.DictAt (bK P w) d vs ep:=by obtain⟨c,_,_,vs,b,⟨m,j,k,f,g,e,i⟩⟩:=l;rw[c] at f;cases f;rw[a] at e;cases e;exact⟨vs,b,o,es,c,g,a,i⟩
def aTv {P:Program}{w:World}{K:bFP}{tg:Expr}(d it:Addr)(o:Obj)(kvs:List (Key × V))(es:Array DictEntry)(ep:Nat)(R:o.data=.dict es ep)(hk:∀kv∈kvs,∃n,kv.1=Sum.inr n):Turn P w K tg (Itd d o kvs) [it] it (λi h=>h.IsKeyIter it d i kvs.length ep) where
 mem:=by simp
 obj:=λi h a b g=>by
  have e:b=it:=by simpa using g
  subst e;obtain⟨D,h1,h2,h3⟩:=a;exact⟨D,h1,λv z=>by rw[h3] at z;cases z⟩
 keep:=λi h B a k=>a.at λD e=>k it (by simp) D e
 item:=by
  intro X S U O hc i u s σ H E I A a Q;subst S U O;obtain⟨hd,G⟩:=Q;obtain⟨j,f,T⟩:=aAr R (I.hok d _ hd);have C:=KV.length f;obtain⟨M,L,f2,N,F,Y⟩:=A it (by simp);have q:kvs[i]?=some kvs[i]:=b8 G;have J:i<j.length:=by lia
  have y:j[i]?=some (j[i].1,j[i].2):=b8 J;have ek:kvs[i].1=j[i].1:=by have:=congrArg (λl=>l[i]?) (KV.keys f);simp only[t7,q,y,bDO] at this;exact bAM this
  rw[C] at a;refine wpAny_pyNext_dict_item a T y λm B c p W=>?_;obtain⟨n,en⟩:=hk _ (bAP G);have I1:Inv X u σ H { s with heap:=B,toks:=s.toks }:=I.turned (λb D g e=>(W.2 b g).trans e) M L N F Y;rw[<-ek,en] at c;obtain⟨t,rfl⟩:∃t,m=.str n t:=by
   cases m with
   |str x t=>
    have e:x=n:=by simpa [bK,rA,Value.isStrOf] using c
    exact⟨t,by rw[e]⟩
   |_=>exact absurd (show false=true from c) v6
  obtain⟨oi,r,ci,Z⟩:=p;refine⟨_,rfl,aE3 (s:={ s with heap:=B }) (n:="dict_keyiterator") r ci Z (by decide) ⟨.str n,H,I1,⟨t,rfl⟩,⟨rfl,λkv e=>?_⟩,?_,λb g=>(A b g).1⟩⟩
  ·rw[q] at e;cases e;rw[en];rfl
  ·rw[C];exact⟨oi,r,ci,Z⟩
 done:=by intro X S U O hc i u s σ H E I A a Q;subst S U O;obtain⟨M,L,f2,N,F,Y⟩:=A it (by simp);obtain⟨hd,G⟩:=Q;obtain⟨j,f,T⟩:=aAr R (I.hok d _ hd);have C:=KV.length f;rw[C] at a;exact wpAny_pyNext_dict_end (I.ok.hd hc) a T (bAF (by lia)) λB eb=>⟨rfl,I.turned (t':=s.toks) (λb o g e=>eb b o g e) M L N F Y⟩
 self:=λ_ _ _ _ _ a h=>wpAny_pyIter_keyiter a h
section
variable {X:Cx}{tg:Expr}
def bD1 (te:TE):TI:=fun σ H R=>te σ H λv H1=>∃d kvs,v=.ref d/\H1 d=some (.dK kvs)/\(∀kv∈kvs,∃n,kv.1=Sum.inr n)/\(∀ob u,X.H₀ d≠some (.frz ob u))/\∀o,R (Itd d o kvs) (upd H1 d (.frz o (.dK kvs)))
def bAl {e:Expr}{te:TE}(h:VE X e te):VI X tg e (bD1 (X:=X) te):=⟨by
 intro f s σ H R I t;refine thn (h.1 f s σ H _ I t) λv a ⟨x,u,j,J,D⟩=>?_;obtain⟨d,c,e,hd,p,E,q⟩:=D;subst e;cases J;obtain⟨z,F,A,g,⟨o,n,k,l,C,m,y⟩⟩:=aB4 j.hok hd;have B:=KV.length g;have G:a.heap.DictAt (bK X.prog X.w) d A k:=⟨o,n,l,C,m,y⟩;have i:Inv X f σ (upd u d (.frz o (.dK c))) a:=j.setd hd (λ_ z=>by cases z) (λ_ z=>by cases z) (λ_ z=>by cases z) E ⟨l,j.hok d _ hd⟩;refine wpAny_pyIter_dict F G ?_;refine⟨a.heap.objs.size,[a.heap.objs.size],_,_,_,rfl,i.kept (t':=a.toks) λb o e=>c7 _ e,aTv d _ o c n k m p,?_,λb r=>?_,q o⟩
 ·rw[B];exact⟨_,j0 _ rfl,rfl,rfl⟩
 ·have e:b=a.heap.objs.size:=by simpa using r
  subst e;exact i.aD7 (d8 _) (i.hok.fresh (d8 _))⟩
def bB8 (d:Addr)(kvs:List (Key × V))(D:Ends):Ends:={ nx:=fun σ H=>(∃o,H d=some (.frz o (.dK kvs)))/\D.nx σ (upd H d (.dK kvs)),rt:=λv H=>(∃o,H d=some (.frz o (.dK kvs)))/\D.rt v (upd H d (.dK kvs)) }
def bB9 (X:Cx)(t:TS):TS:=λD σ H=>∃d kvs,H d=some (.dK kvs)/\((∀ob u,X.H₀ d≠some (.frz ob u))->t (bB8 d kvs D) σ H)
theorem aO7 {st:Stmt}{t:TS}(h:VS X st t):VS X st (bB9 X t):=⟨by
 intro b s σ H D I ⟨d,k,hd,q⟩;have w:∀p u,X.H₀ d≠some (.frz p u):=λp u e=>by have:=I.base.frzs d p u e;rw[hd] at this;cases this
 have a:∀{c i m o},Inv X b c i m->i d=some (.frz o (.dK k))->Inv X b c (upd i d (.dK k)) m:=λ{c i m o} g j=>g.setd j (λ_ z=>by cases z) (λ_ z=>by cases z) (λ_ z=>by cases z) w (g.hok d _ j).2;refine thn (h.1 b s σ H _ I (q w)) λf m l=>?_;cases f with
 |next=>obtain⟨c,i,g,⟨o,j⟩,n⟩:=l;exact⟨c,_,a g j,n⟩
 |brk=>obtain⟨_,_,_,z⟩:=l;exact z.elim
 |cont=>obtain⟨_,_,_,z⟩:=l;exact z.elim
 |ret u=>obtain⟨v,c,i,g,r,⟨o,j⟩,n⟩:=l;exact⟨v,c,_,a g j,r,n⟩⟩
end
def aV2 {d:Addr}{o:Obj}{kvs:List (Key × V)}{g:TG}{tb:TS}{D:Ends}{σ:L2.St}{H:Hp}(b:Nat->L2.St->Hp->Prop)(j:b 0 σ H)(f:∀i σ H,i<=kvs.length->b i σ H->H d=some (.frz o (.dK kvs)))
  (c:∀i kv σ H,kvs[i]?=some kv->b i σ H->g (kV kv.1) σ H fun σ2 H2=>tb { D with nx:=b (i+1),ct:=b (i+1),bk:=D.nx } σ2 H2) (hd:∀σ H,b kvs.length σ H->D.nx σ H) :
  ∃W:Nat->Nat->L2.St->Hp->Prop,(∃m,W 0 m σ H)/\∀i m σ H,W i m σ H ->
   ((Itd d o kvs).stop i H/\D.nx σ H)\/((Itd d o kvs).go i H/\∃N:L2.St->Hp->Prop,(∀σ' H',N σ' H'->∃m',m'<m/\W (i+1) m' σ' H')/\∀x H',(Itd d o kvs).yld i H x H'->g x σ H' fun σ2 H2=>tb { D with nx:=N,ct:=N,bk:=D.nx } σ2 H2):=by
 refine⟨λi m σ H=>m=kvs.length - i/\i<=kvs.length/\b i σ H,⟨kvs.length,by simp,bAE _,j⟩,?_⟩;rintro i m σ H ⟨rfl,hi,p⟩;have q:=f i σ H hi p;by_cases a:i<kvs.length
 ·right;refine⟨⟨q,a⟩,b (i+1),fun σ' H' h=>⟨kvs.length - (i+1),by lia,rfl,by lia,h⟩,?_⟩;rintro x H' ⟨rfl,hy⟩;have e:=hy _ (b8 a);subst e;exact c i _ σ H' (b8 a) p
 ·left;have e:i=kvs.length:=by lia
  subst e;exact⟨⟨q,rfl⟩,hd σ H p⟩
end L2
namespace PySem
section
variable {prog:Program}{w:World}{K:Type}[DecidableEq K]{knd:HeapKind prog w K}{A:Around}{E:bFQ}{s:Shared}
end
end PySem
namespace L2
open PySem PySem.Spec PyProof.Rows
section
variable {X:Cx}
end
end L2
namespace PySem
section
variable {prog:Program}{w:World}{A:Around}{E:bFQ}{s:Shared}
end
end PySem
namespace L2
open PySem PySem.Spec PyProof.Rows
section
variable {X:Cx}{tg:Expr}
end
end L2
namespace PySem
section
variable {prog:Program}{w:World}{A:Around}{E:bFQ}{s:Shared}
def aYd {it d:Addr}{i ep:Nat}{od:Obj}{es:Array DictEntry}{B n:Value}{Q:Option Value->Shared->Prop}(u:IsItemIter s.heap it d i es.size ep B n)(X:s.heap.get? d=some od)(T:od.data=.dict es ep)(lt:i<es.size)
  (q:∀h',IsItemIterOut h' it d (i+1) es.size ep es[i].key es[i].val s.heap.objs.size->h'.get? s.heap.objs.size=some { cls:=.type "tuple",data:=.seq #[es[i].key,es[i].val] }->h'.objs.size=s.heap.objs.size+1 ->
   (∀b o,b≠it->s.heap.get? b=some o->h'.get? b=some o)->Q (some (.ref s.heap.objs.size)) { s with heap:=h' }):wpAny (model prog w) A (pyNext (.ref it)) Q E s:=by
 have j:s.TypeIs (.ref it) "dict_itemiterator":=⟨_,u,rfl⟩;have O:it<s.heap.objs.size:=j8 u;unfold pyNext;refine b7 (bCD (bAI (name:="__next__") j F.slot_dict_itemiterator_next (bAG F.slot_dict_itemiterator_next j F.entry_dict_itemiterator_next (b7 (d7 (b7 (b7 ?_)))) (F.args_dict_itemiterator_next_1 _))));refine b7 (bCO j (d7 (b7 (bDX u rfl ?_))));rw[show Builtin.Dict_items.ownsTuple "dict_itemiterator"=true from by decide];simp only[if_true];have W:¬ ((Value.ref d == Value.none)=true):=v6;show wpAny _ _ (ite ((Value.ref d == Value.none)=true) _ _) _ _ _;rw[if_neg W];refine b7 (d7 (b7 (bFL X T ?_)));rw[if_neg (by simp)];refine b7 (d7 (b7 (wpAny_dictEpoch X T ?_)));rw[if_neg (by simp)];have Z:¬ ((i:Int)<0):=by lia
 refine d7 ?_;simp only[Z,if_false,bAR,j9 lt];refine b7 (b7 (bCO j (d7 (b7 (bEU j ?_)))));show wpAny _ _ (setField (.ref it) 3 (rawInt ((i:Int)+1)) >>= _) _ _ s;refine b7 (bAL u (by simp) λa R y=>?_);have D:IsItemIter a it d (i+1) es.size ep B n:=by
  have z:((i+1:Nat):Int)=(i:Int)+1:=by lia
  unfold IsItemIter;rw[z];simpa [rawInt] using R
 have k:Shared.TypeIs { s with heap:=a } (.ref it) "dict_itemiterator":=⟨_,D,rfl⟩;refine b7 (bAS (b7 (bEU k (b7 (bEU k ?_)))));have f:a.objs.size=s.heap.objs.size:=y.1;show wpAny _ _ (Builtin.Dict_items.pairFromOwner (.ref it) 6 es[i].key es[i].val) _ _ { s with heap:=a };unfold Builtin.Dict_items.pairFromOwner;refine b7 (bEQ ?_);have h:IsItemIter (a.push { cls:=.type "tuple",data:=.seq #[es[i].key,es[i].val] }) it d (i+1) es.size ep B n:=c7 _ D;have H:(a.push { cls:=.type "tuple",data:=.seq #[es[i].key,es[i].val] }).get? s.heap.objs.size=some { cls:=.type "tuple",data:=.seq #[es[i].key,es[i].val] }:=by rw[<-f];exact j0 _ rfl
 have p:(a.push { cls:=.type "tuple",data:=.seq #[es[i].key,es[i].val] }).objs.size=s.heap.objs.size+1:=by rw[bAW,f]
 have J:∀b o,b≠it->s.heap.get? b=some o->(a.push { cls:=.type "tuple",data:=.seq #[es[i].key,es[i].val] }).get? b=some o:=λb o c e=>c7 _ (y.extBut b o c e);rw[show ({ s with heap:=a }:Shared).heap.objs.size=s.heap.objs.size from f];show wpAny _ _ (Builtin.Dict_items.ownedTupleIsFree (.ref it) >>= _) _ _ { s with heap:=a.push { cls:=.type "tuple",data:=.seq #[es[i].key,es[i].val] } };generalize a.push { cls:=.type "tuple",data:=.seq #[es[i].key,es[i].val] }=h2 at h H p J ⊢;unfold Builtin.Dict_items.ownedTupleIsFree;refine b7 (b7 (bAN h rfl (x:=.none) rfl (d7 ?_)));simp only[if_true];refine b7 (bAN h rfl (x:=B) rfl (b7 (bAN h rfl (x:=n) rfl (b7 (bAL h (by simp) λr S C=>?_)))));have P:IsItemIter r it d (i+1) es.size ep es[i].key n:=S;refine b7 (bAL P (by simp) λm N v=>?_);have L:IsItemIter m it d (i+1) es.size ep es[i].key es[i].val:=N;refine b7 (bAL L (by simp) λl V G=>?_);have Y:IsItemIterOut l it d (i+1) es.size ep es[i].key es[i].val s.heap.objs.size:=V;refine b7 (bAL Y (by simp) λg M K=>?_);have U:IsItemIterOut g it d (i+1) es.size ep es[i].key es[i].val s.heap.objs.size:=M;have I:∀b o,b≠it->h2.get? b=some o->g.get? b=some o:=λb o c e=>K.extBut b o c (G.extBut b o c (v.extBut b o c (C.extBut b o c e)));have t:g.objs.size=s.heap.objs.size+1:=by have a3:r.objs.size=h2.objs.size:=C.1;have a4:m.objs.size=r.objs.size:=v.1;have a5:l.objs.size=m.objs.size:=G.1;have a6:g.objs.size=l.objs.size:=K.1;lia
 exact b7 (bE9 (d7 (d7 ⟨_,rfl,d7 (q g U (I _ _ (bCP O) H) t λb o c e=>I b o c (J b o c e))⟩)))
def aLh (h:A.handled=none)(b:IsItemIter s.heap it d es.size es.size ep k0 v0)(e:s.heap.get? d=some od)(g:od.data=.dict es ep)
  (q:∀h',Heap.ExtBut it s.heap h'->Q none { s with heap:=h' }):wpAny (model prog w) A (pyNext (.ref it)) Q E s:=by
 have a:s.TypeIs (.ref it) "dict_itemiterator":=⟨_,b,rfl⟩;unfold pyNext;refine b7 (bCD (bAI (name:="__next__") a F.slot_dict_itemiterator_next (bAG F.slot_dict_itemiterator_next a F.entry_dict_itemiterator_next (b7 (d7 (b7 (b7 ?_)))) (F.args_dict_itemiterator_next_1 _))));refine b7 (bCO a (d7 (b7 (bDX b rfl ?_))));rw[show Builtin.Dict_items.ownsTuple "dict_itemiterator"=true from by decide];simp only[if_true];have c:¬ ((Value.ref d == Value.none)=true):=v6;show wpAny _ _ (ite ((Value.ref d == Value.none)=true) _ _) _ _ _;rw[if_neg c];refine b7 (d7 (b7 (bFL e g ?_)));rw[if_neg (by simp)];refine b7 (d7 (b7 (wpAny_dictEpoch e g ?_)));rw[if_neg (by simp)];have f:¬ ((es.size:Int)<0):=by lia
 refine d7 ?_;simp only[f,if_false,bAR,bCH (d8 es.size)];refine b7 (b7 (bCO a (d7 ?_)));show wpAny _ _ (setField (.ref it) 2 .none >>= _) _ _ s;refine b7 (bDH b rfl (by simp) ?_);refine b7 ?_;simp only[newExc,newTuple,raiseNew];refine b7 (bAO ?_ (by size_fits));refine b7 (bEM (by simp only[firstArgMember];rfl) ?_);refine bAO (b7 (bE3 ?_)) (by size_fits);rw[show A.in1.handled=none from h];refine b7 (d7 (bFI ?_));refine b7 (bCX ⟨_,j0 _ rfl,rfl⟩ isSubtype_stop ?_);exact d7 (q _ (((bAX ..).extBut.push _).push _))
def aTe (b:(d == sysModules)=false)(a:s.TypeIs (.ref d) "dict")
  (q:Q (.ref s.heap.objs.size) { s with heap:=s.heap.push { cls:=.type "dict_items",data:=.fields #[.ref d] } }):wpAny (model prog w) A (call (.builtin "dict.items") [.ref d]) Q E s:=by
 refine bAG F.slot_dict_items a F.entry_dict_items ?_ (F.args_dict_items_1 _);unfold Builtin.«dict.items» Builtin.Dict.noArgs;refine b7 (b7 (bEY a ?_));show wpAny _ _ (pure d) _ _ s;refine d7 ?_;show wpAny _ _ (Builtin.Dict.showsAll d >>= _) _ _ _;unfold Builtin.Dict.showsAll;rw[if_neg (show ¬ (d == sysModules)=true by rw[b];exact v6)];exact b7 (d7 (b7 (bAO (d7 ⟨_,rfl,q⟩))))
def aKm (a:s.heap.IsItemsView v d)(c:s.heap.get? d=some od)(e:od.data=.dict es ep)
  (q:Q (.ref s.heap.objs.size) { s with heap:=s.heap.push { cls:=.type "dict_itemiterator",data:=.fields #[.none,.bool false,.ref d,.int 0 0,.int es.size 0,.int ep 0,.none,.none] } }):wpAny (model prog w) A (pyIter (.ref v)) Q E s:=by
 obtain⟨h,b,g,f⟩:=id a;refine bEV a.typeIs F.slot_dict_items_iter (bAG F.slot_dict_items_iter a.typeIs F.entry_dict_items_iter ?_ (F.args_dict_items_iter_1 _));unfold Builtin.«dict_items.__iter__» Builtin.Dict_items.dictOf;refine b7 (d7 (b7 (b7 (bAN b f rfl (d7 ?_)))));refine b7 ?_;unfold Builtin.Dict_items.newIterator;refine b7 (bFL c e (b7 (wpAny_dictEpoch c e ?_)));rw[show Builtin.Dict_items.ownsTuple "dict_itemiterator"=true from by decide];simp only[if_true];refine bAO (d7 ⟨_,rfl,"dict_itemiterator",_,⟨_,j0 _ rfl,rfl⟩,F.slot_dict_itemiterator_next.lookup,?_⟩) (by simp only[sizeOk,Builtin.Dict_items.ownedTupleFields,d9,bAA,t8,bCK,sizeLine_eq];lia);simpa [rawInt,Builtin.Dict_items.ownedTupleFields] using q
end
end PySem
namespace PySem
open Builtin in
def aCd:entryFor table "dict_itemiterator.__iter__"=some Builtin.«dict_keyiterator.__iter__»:=entryFor_alias (id':="dict_keyiterator.__iter__") (by kernel_rfl) rfl (by decide +kernel) (by kernel_rfl)
end PySem
namespace L2
open PySem PySem.Spec PyProof.Rows
section
variable {X:Cx}
end
def aMl (d:Addr)(o:Obj)(kvs:List (Key × V)):It:=
 ⟨λi H=>H d=some (.frz o (.dK kvs))/\i<kvs.length,λi H x H'=>∃T kv,H T=none/\x=.ref T/\kvs[i]?=some kv/\H'=upd H T (.tup [kV kv.1,kv.2]),λi H=>H d=some (.frz o (.dK kvs))/\i=kvs.length⟩
theorem bCy (r:KV kvs vs):∀{i:Nat} {kv:Key × V},kvs[i]?=some kv->∃q,vs[i]?=some q/\kv.1=q.1/\RelV kv.2 q.2:=by
 unfold KV at r
 induction r with
 |nil=>intro i kv h;cases h
 |cons a _ ih=>
  intro i kv h;cases i with
  |zero=>cases h;exact⟨_,rfl,a⟩
  |succ i=>exact ih h
theorem aWf (h:(bK P w).is (Sum.inr n) key=true):∃t,key=.str n t:=by
 cases key with
 |str x t=>
  have e:x=n:=by simpa [bK,rA,Value.isStrOf] using h
  exact⟨t,by rw[e]⟩
 |_=>exact absurd (show false=true from h) v6
def aLb {P:Program}{w:World}{K:bFP}{elts:List Expr}{kt:Nat}{pos:Pos}(d it:Addr)(o:Obj)(kvs:List (Key × V))(es:Array DictEntry)(ep:Nat)(g:o.data=.dict es ep)(hk:∀kv∈kvs,∃n,kv.1=Sum.inr n) :
  Turn P w K (.Tuple elts kt pos) (aMl d o kvs) [it] it (λi h=>∃k0 v0,IsItemIter h it d i kvs.length ep k0 v0) where
 mem:=by simp
 obj:=λi h a b f=>by
  have e:b=it:=by simpa using f
  subst e;obtain⟨k0,v0,T⟩:=a;exact⟨_,T,λv z=>by cases (show Data.fields _=Data.cell v from z)⟩
 keep:=λi h M a k=>by obtain⟨k0,v0,T⟩:=a;exact⟨k0,v0,k it (by simp) _ T⟩
 item:=by
  intro X S Y U hc i q s σ H E I L a R;subst S Y U;obtain⟨k0,v0,a⟩:=a;obtain⟨hd,G⟩:=R;obtain⟨vs,j,od,Z,B,_,c,_,m,_⟩:=aAr g (I.hok d _ hd);have p:=(I.hok d _ hd).1;rw[p] at B;cases B;rw[g] at c;cases c;have D:es.size=kvs.length:=by rw[KV.length j,<-m.length,v7]
  have y:=b8 G;obtain⟨x,hx,e1,e3⟩:=bCy j y;have r:i<es.size:=by lia
  obtain⟨l,O⟩:=m.get? (by rw[bBR];exact j9 r) hx;obtain⟨n,en⟩:=hk _ (bAP G);rw[<-e1,en] at l;obtain⟨t,l⟩:=aWf l;have u:=L it (by simp);rw[<-D] at a;refine aYd a p g r λM W N a3 kp=>?_;rw[l,O] at W N;refine⟨_,rfl,?_⟩;have fT:=I.hok.fresh (d8 _);have C:=t6 (j8 a);have J:kV kvs[i].1=.str n:=by rw[en];rfl
  have I1:Inv X q σ (upd H s.heap.objs.size (.tup [kV kvs[i].1,kvs[i].2])) { s with heap:=M }:=by
   rw[J];refine I.drawn (ch:=[it]) (its:=[.str n t,x.2]) (λb f=>?_) (λb o f e=>kp b o (by simpa using f) e) (d8 _) (.cons ⟨t,rfl⟩ (.cons e3 .nil)) (small (by simp)) (.of N rfl ⟨_,N,rfl,_,rfl⟩) (λb f=>?_)
   ·have:b=it:=by simpa using f
    rw[this];exact u
   ·have:b=it:=by simpa using f
    rw[this];exact⟨_,W⟩
  refine wpAny_letOwnedTupleGo_items W λh2 z2 s2=>?_;obtain⟨g0,g1,g2,g3,g4,g5⟩:=u;have I2:=Inv.turned I1 (t':=s.toks) (λb o f e=>(s2.2 b f).trans e) (by rw[aR C];exact g0) g1 g3 g4 g5;refine⟨.ref s.heap.objs.size,_,I2,rfl,⟨_,kvs[i],fT,rfl,y,rfl⟩,⟨_,_,by rw[<-D];exact z2⟩,λb f=>?_⟩;have:b=it:=by simpa using f
  rw[this,aR C];exact g0
 done:=by
  intro X S Y U hc i q s σ H E I L a R;subst S Y U;obtain⟨k0,v0,a⟩:=a;obtain⟨f0,f1,f2,f3,f4,f5⟩:=L it (by simp);obtain⟨hd,G⟩:=R;obtain⟨vs,j,od,Z,B,_,c,_,m,_⟩:=aAr g (I.hok d _ hd);have p:=(I.hok d _ hd).1;rw[p] at B;cases B;rw[g] at c;cases c;have D:es.size=kvs.length:=by rw[KV.length j,<-m.length,v7]
  rw[G,<-D] at a;exact aLh (I.ok.hd hc) a p g λM eb=>⟨rfl,I.turned (t':=s.toks) (λb o f e=>eb b o f e) f0 f1 f3 f4 f5⟩
 self:=λA i s Q E a h=>by obtain⟨k0,v0,a⟩:=a;have ty:s.TypeIs (.ref it) "dict_itemiterator":=⟨_,a,rfl⟩;refine bEV ty PySem.F.slot_dict_itemiterator_iter (bAG PySem.F.slot_dict_itemiterator_iter ty PySem.aCd ?_ (PySem.F.args_dict_itemiterator_iter_1 _));exact d7 ⟨_,rfl,"dict_itemiterator",_,ty,PySem.F.slot_dict_itemiterator_next.lookup,h⟩
section
variable {X:Cx}
def aPk (te:TE):TI:=fun σ H R=>te σ H λv H1=>∃d kvs,v=.ref d/\H1 d=some (.dK kvs)/\(∀kv∈kvs,∃n,kv.1=Sum.inr n)/\(∀ob u,X.H₀ d≠some (.frz ob u))/\∀o,R (aMl d o kvs) (upd H1 d (.frz o (.dK kvs)))
def sH {elts:List Expr}{kt:Nat}{tp apos cpos:Pos}{e:Expr}{te:TE}(h:VE X e te)(k:attributeBase e "items" X.env (eval e X.env)=eval e X.env:=by rfl)(l:(apos.endLine == cpos.line)=true:=by rfl) :
  VI X (.Tuple elts kt tp) (.Call (.Attribute e "items" apos) [] [] cpos) (aPk (X:=X) te):=⟨by
 intro f s σ H R I D;refine wpAny_Call_method0_late k l (thn (h.1 f s σ H _ I D) λv a ⟨x,t,j,S,M⟩=>?_);obtain⟨d,c,e,hd,B,N,q⟩:=M;subst e;cases S;obtain⟨z,P,G,n,⟨o,r,u,m,L,p,E,g,K⟩⟩:=aB4 j.hok hd;have J:r.size=c.length:=by rw[KV.length n,<-g.length,v7]
 have V:a.TypeIs (.ref d) "dict":=(show a.heap.DictOf (bK X.prog X.w) d G from ⟨o,r,u,m,L,p,E,g,K⟩).typeIs;obtain⟨U,Q⟩:=aL6 (T:="dict") j (show RelV (.ref d) (.ref d) from rfl) (.inr (.inr (.inl ⟨rfl,.inl ⟨c,hd⟩⟩)));refine⟨"dict","dict.items",PySem.F.plainAttrs_dict,PySem.F.slot_dict_items,PySem.F.type_dict_items,U,Q,bDM rfl (PySem.evalArgs_none ?_)⟩;refine aTe P V ?_;have O:Inv X f σ (upd t d (.frz o (.dK c))) a:=j.setd hd (λ_ z=>by cases z) (λ_ z=>by cases z) (λ_ z=>by cases z) N ⟨m,j.hok d _ hd⟩;have i:Inv X f σ (upd t d (.frz o (.dK c))) { a with heap:=a.heap.push { cls:=.type "dict_items",data:=.fields #[.ref d] } }:=O.kept (t':=a.toks) λb o e=>c7 _ e;have y:(a.heap.push { cls:=.type "dict_items",data:=.fields #[.ref d] }).IsItemsView a.heap.objs.size d:=⟨_,j0 _ rfl,rfl,rfl⟩;have A:(a.heap.push { cls:=.type "dict_items",data:=.fields #[.ref d] }).get? d=some o:=c7 _ m;generalize a.heap.push { cls:=.type "dict_items",data:=.fields #[.ref d] }=hp at i y A ⊢;refine aKm (s:={ a with heap:=hp }) y A p ?_;refine⟨hp.objs.size,[hp.objs.size],_,_,_,rfl,i.kept (t':=a.toks) λb o e=>c7 _ e,aLb d _ o c r u p B,?_,λb C=>?_,q o⟩
 ·rw[<-J];exact⟨_,_,j0 _ rfl⟩
 ·have e:b=hp.objs.size:=by simpa using C
  subst e;exact i.aD7 (d8 _) (i.hok.fresh (d8 _))⟩
end
def aLp {d:Addr}{o:Obj}{kvs:List (Key × V)}{g:TG}{tb:TS}{D:Ends}{σ:L2.St}{H:Hp}(b:Nat->L2.St->Hp->Prop)(j:b 0 σ H)(f:∀i σ H,i<=kvs.length->b i σ H->H d=some (.frz o (.dK kvs)))
  (c:∀i kv T σ H,kvs[i]?=some kv->b i σ H->H T=none->g (.ref T) σ (upd H T (.tup [kV kv.1,kv.2])) fun σ2 H2=>tb { D with nx:=b (i+1),ct:=b (i+1),bk:=D.nx } σ2 H2) (hd:∀σ H,b kvs.length σ H->D.nx σ H) :
  ∃W:Nat->Nat->L2.St->Hp->Prop,(∃m,W 0 m σ H)/\∀i m σ H,W i m σ H ->
   ((aMl d o kvs).stop i H/\D.nx σ H)\/((aMl d o kvs).go i H/\∃N:L2.St->Hp->Prop,(∀σ' H',N σ' H'->∃m',m'<m/\W (i+1) m' σ' H')/\∀x H',(aMl d o kvs).yld i H x H'->g x σ H' fun σ2 H2=>tb { D with nx:=N,ct:=N,bk:=D.nx } σ2 H2):=by
 refine⟨λi m σ H=>m=kvs.length - i/\i<=kvs.length/\b i σ H,⟨kvs.length,by simp,bAE _,j⟩,?_⟩;rintro i m σ H ⟨rfl,hi,p⟩;have q:=f i σ H hi p;by_cases a:i<kvs.length
 ·right;refine⟨⟨q,a⟩,b (i+1),fun σ' H' h=>⟨kvs.length - (i+1),by lia,rfl,by lia,h⟩,?_⟩;rintro x H' ⟨T,kv,hT,rfl,hkv,rfl⟩;exact c i kv T σ H hkv p hT
 ·left;have e:i=kvs.length:=by lia
  subst e;exact⟨⟨q,rfl⟩,hd σ H p⟩
section
variable {X:Cx}
def bAa (X:Cx)(t:TE):TE:=fun σ H Q=>∃d kvs,H d=some (.dK kvs)/\((∀ob u,X.H₀ d≠some (.frz ob u))->t σ H λv H'=>(∃o,H' d=some (.frz o (.dK kvs)))/\Q v (upd H' d (.dK kvs)))
def aF6 (h:VE X e t):VE X e (bAa X t):=⟨by
 intro a s σ H Q I ⟨d,j,hd,q⟩;have f:∀b u,X.H₀ d≠some (.frz b u):=λb u e=>by have:=I.base.frzs d b u e;rw[hd] at this;cases this
 refine thn (h.1 a s σ H _ I (q f)) λu k ⟨v,l,c,r,⟨o,g⟩,i⟩=>?_;exact⟨v,_,c.setd g (λ_ z=>by cases z) (λ_ z=>by cases z) (λ_ z=>by cases z) f (c.hok d _ g).2,r,i⟩⟩
end
def qX {K:bFP}{d:Addr}{o:Obj}{kvs:List (Key × V)}{H:Hp}{w:L2.St}{te:TE}{Q:VK}(hd:H d=some (.frz o (.dK kvs)))(v:Ps2 w w)(hsz:kvs.length<=1000)
  (Rel:Addr->Nat->Hp->V->Prop) (A:∀{D i H1 H2 y},Same H1 H2->Rel D i H1 y->Rel D i H2 y) (r:∀{D i H1 ys zs y},H1 D=some (.lst ys)->Rel D i H1 y->Rel D i (L2.upd H1 D (.lst zs)) y)
  (E:∀(i:Nat) (kv:Key × V),kvs[i]?=some kv->∀H' R D ys,Same H H'->H D=none->H' D=some (.lst ys)->(∀y H2,Same H' H2->Rel D i H2 y->R y H2)->te ((w.set 0 (some (kV kv.1))).set 1 (some kv.2)) H' R)
  (q:∀D H' ys,Same H H'->H D=none->H' D=some (.lst ys)->ys.length=kvs.length->(∀i y,ys[i]?=some y->Rel D i H' y)->Q (.ref D) H'):pR (aMl d o kvs) H w (aNp K 2 (tR (cM 0) (tR (cM 1) aP3))) mW te Q:=by
 intro D g;refine⟨λi m p H' ys=>m=kvs.length - i/\i<=kvs.length/\Same H H'/\H' D=some (.lst ys)/\ys.length=i/\Ps2 w p/\∀j y,ys[j]?=some y->Rel D j H' y,⟨kvs.length,by simp,bAE _,bC g _,aK,rfl,v,λj y e=>by cases e⟩,?_⟩;rintro i m p H' ys ⟨rfl,hi,sm,gD,ly,hps,hr⟩;refine⟨gD,?_⟩;by_cases n:i<kvs.length
 ·right;refine⟨⟨sm _ _ hd,n⟩,?_⟩;rintro x H2 ⟨T,kv,hT,rfl,hkv,rfl⟩;have b:Same H' (L2.upd H' T (.tup [kV kv.1,kv.2])):=bC hT _;refine hg2 (SqT.of aK) hps fun B f l=>?_;have c:=l;subst c;dsimp only[mW];rw[if_pos rfl];refine E i kv hkv _ _ D ys (sm.trans b) g (b _ _ gD) λy C k t=>?_;have a:=k _ _ (b _ _ gD);have h:=sm.trans (b.trans k);refine⟨a,bCB (show ys.length<=1000 by lia) (by decide),kvs.length - (i+1),by lia,rfl,by lia,dR g h,aK,by rw[bAA,ly];rfl,f,λj z e=>?_⟩;by_cases s:j<ys.length
  ·rw[bBF s] at e;exact r a (A (b.trans k) (hr j z e))
  ·rw[bBC (by lia)] at e;have u:j - ys.length=0:=by have:=(List.getElem?_eq_some_iff.mp e).1;simpa using this
   rw[u] at e;cases e;have:j=i:=by lia
   rw[this];exact r a t
 ·left;have e:i=kvs.length:=by lia
  subst e;exact⟨⟨sm _ _ hd,rfl⟩,q D H' ys sm g gD ly hr⟩
def aBo {X:Cx}{scope:Scope}{N:List Str}{tl:TE}{te:TE}{tt:TT}{g:TG}{σ:L2.St}{H:Hp}{Q:VK}(b:L2.St)(a:Cap X scope N σ b)(h:tl σ H λv H1=>∃d kvs,v=.ref d/\H1 d=some (.dK kvs)/\(∀kv∈kvs,∃n,kv.1=Sum.inr n)/\(∀ob u,X.H₀ d≠some (.frz ob u))/\∀o,pR (aMl d o kvs) (upd H1 d (.frz o (.dK kvs))) b g tt te Q):lM X scope N (aPk (X:=X) tl) g tt te σ H Q:=⟨b,a,h⟩
section
variable {X:Cx}
def aWv:List V->Hp->VK->Prop:=λxs H Q=>∃d kvs,xs=[.ref d,.ty "dict"]/\H d=some (.dK kvs)/\Q (.bl true) H
def aIt:cJ X (.builtin "isinstance") aWv:=by intro b s σ H l m Q I r h;obtain⟨d,f,rfl,hd,q⟩:=h;obtain⟨u,v,rfl,g,e⟩:=r.two;obtain rfl:v=Value.type "dict":=e;obtain rfl:u=Value.ref d:=g;obtain⟨z,k,n,c,a⟩:=aB4 I.hok hd;obtain⟨o,j,i⟩:=(show s.TypeIs (.ref d) "dict" from a.typeIs);exact call_isinstance (isinstance_true F.isi_meta_dict F.isi_self_dict) ⟨⟨o,j,i⟩,⟨.bl true,H,I,rfl,q⟩⟩
end
end L2
namespace PySem
section
variable {prog:Program}{w:World}{A:Around}{E:bFQ}{s:Shared}
def aI0 (m:s.heap.get? a=some o)(r:o.cls=.type "list")(i:o.data=.seq xs k)(hd:o.dict=none)(y:A.handled=none)
  (h:∀h' tk,(∀b u,s.heap.get? b=some u->h'.get? b=some u)->Q none { s with heap:=h',toks:=tk }):wpAny (model prog w) A (getAttr? (.ref a) "keys") Q E s:=by
 obtain⟨c,p,q,v⟩:=o;simp only at r i hd;subst r i hd;obtain⟨t,g,d,tk,n⟩:=s;have l:∀j,(⟨t,g,d,j,n⟩:Shared).TypeIs (.ref a) "list":=λ_=>⟨_,m,rfl⟩;have C:=sub_AttributeError;have G:=F.slot_list_getattribute.lookup;have x:=F.slot_list_getattribute.bind (.ref a);have D:=am_list_getattr_none;unfold getAttr? getAttrBy? getAttrBy
 repeat (any_goals (first|assumption|exact l _|((with_reducible show wpAny _ _ (call (Value.builtin "list.__getattribute__") _ _) _ _ _);refine call_meets F.slot_list_getattribute (l _) am_entry_list_getattribute (F.args_list_getattribute_2 _ _) (meets_getattribute_miss_list a xs k v "keys" _ aB7 (by decide +kernel) (by size_fits)) ⟨m,y,λh' j e f=>?_⟩)|wp_step))
 obtain⟨B,z,H⟩:=f.there;unfold getattributeRaised
 repeat (any_goals (first|assumption|wp_step))
 exact h _ _ f.keeps
end
section
variable {prog:Program}{w:World}{κ:Type}[DecidableEq κ]{knd:KeyKind prog w κ}{A:Around}{E:bFQ}{s:Shared}
def yF {t:Addr}{its:Array Value}{kvs:List (κ × Value)}{Q:bFQ}(u:A.handled=none){o:Obj}{n:Nat}(N:s.heap.get? t=some o)(C:o.cls=.type "list")(H:o.data=.seq its n)(R:o.dict=none)(g:kvs.length=its.size)(U:its.size<=1000)
  (L:∀(j:Nat) (v:Value) (kv:κ × Value),its[j]?=some v->kvs[j]?=some kv->qM knd s.heap v kv)
  (q:∀h' tk,h'.DictOf knd s.heap.objs.size (merged [] kvs)->(∀b o,s.heap.get? b=some o->h'.get? b=some o)->Q (.ref s.heap.objs.size) { s with heap:=h',toks:=tk }) :
  wpAny (model prog w) A (call (.type "dict") [.ref t]) Q E s:=by
 refine callType_codes (Q₁:=λk B=>k=.ref s.heap.objs.size/\B={ s with heap:=s.heap.push { cls:=.type "dict",data:=.dict #[] } }) F.kt_called_dict (F.kt_typeCall_dict_1 _) F.entry_dict_init (kt_code_dict_new _ ⟨rfl,rfl⟩) ?_;rintro k B ⟨rfl,rfl⟩;have a:(s.heap.push { cls:=.type "dict",data:=.dict #[] }).DictOf knd s.heap.objs.size []:=Heap.DictOf.new s.heap;have f:(s.heap.push { cls:=.type "dict",data:=.dict #[] }).get? t=some o:=c7 _ N;have M:Shared.TypeIs { s with heap:=s.heap.push { cls:=.type "dict",data:=.dict #[] } } (.ref t) "list":=⟨o,f,C⟩;have h:t<s.heap.objs.size:=j8 N;refine⟨a.typeIs,F.args_dict_init_2 _ _,?_⟩;unfold Builtin.«dict.__init__»;refine b7 ?_;unfold Builtin.Dict.selfAndRest;refine b7 (bEY a.typeIs ?_);show wpAny _ _ (pure (s.heap.objs.size,[Value.ref t])) _ _ _;refine d7 ?_;show wpAny _ _ (Builtin.Dict.updateFrom "dict.__init__" s.heap.objs.size (.ref t) [] .none) _ _ _;unfold Builtin.Dict.updateFrom;refine b7 (bDY M ?_);rw[if_pos (by decide)];refine b7 (aI0 f C H R (by first|exact u|simp[u]) λm S c=>?_);rw[if_pos (show (none:Option Value).isNone=true from rfl)];have r:m.get? t=some o:=c _ _ f;have l:m.IsList t its:=⟨o,r,C,n,H⟩;refine b7 (bCY (b7 (bCF l ?_)));have J:(s.heap.push { cls:=.type "dict",data:=.dict #[] }).objs.size=s.heap.objs.size+1:=bAW ..;have d:s.heap.objs.size<m.objs.size:=by obtain⟨X,_,_,O,_⟩:=id a;exact j8 (c _ _ O)
 refine d7 ⟨bCE cQ _,?_⟩;have x:t≠m.objs.size:=t6 (bDD h d);refine pW (knd:=knd) (Walks.list (by first|exact u|simp[u]) _ t x its) s.heap.objs.size ?_ kvs g U ?_ its.size 0 _ _ (by lia) ⟨⟨_,j0 _ rfl,rfl,rfl⟩,l.push _⟩ ?_ ?_ λh' tk T z=>?_
 ·simp only[bAD,w6,or_false,not_or];exact⟨t6 d,bCP h⟩
 ·intro j v e p P;have K:j<kvs.length:=by rw[g];exact (Array.getElem?_eq_some_iff.mp e).1
  obtain⟨V,D,i,⟨W,y,_⟩,_⟩:=L j v _ e (b8 K);rw[P] at i;cases i;have:=j8 y;simp only[bAD,w6,or_false,not_or];exact⟨t6 this,t6 (bDD this d)⟩
 ·exact (a.at λo e=>c _ _ e).at λo e=>c7 _ e
 ·intro j v kv e I;exact (L j v kv e I).at λp _ o G=>c7 _ (c _ _ (c7 _ G))
 ·refine⟨rfl,q h' tk z λb o e=>T b o ?_ (c7 _ (c _ _ (c7 _ e)))⟩;have:=j8 e;simp only[bAD,w6,or_false,not_or];exact⟨t6 this,t6 (bDD this d)⟩
end
end PySem
namespace L2
open PySem PySem.Spec PyProof.Rows
section
variable {X:Cx}
def aZf (K:bFP):List V->Hp->VK->Prop:=λxs H Q=>∃t us kvs,xs=[.ref t]/\H t=some (.lst us)/\oA K H us kvs/\us.length<=1000/\∀p H',H p=none->Same H H'->H' p=some (.dK (pA [] kvs))->Q (.ref p) H'
def uD (M:X.calm=true):cJ X (.type "dict") (aZf X.K):=by intro z s σ H L l Q I r h;obtain⟨t,l,a,rfl,k,m,E,q⟩:=h;obtain⟨u,rfl,i⟩:=vals1 r;cases i;obtain⟨C,p,n,d,o⟩:=I.hok t _ k;have J:=d.length;obtain⟨F,c,x,A⟩:=aR2 I m d;have G:=KV.length c;refine yF (I.ok.hd M) o rfl rfl rfl (by rw[d9];exact x) (by rw[d9];lia) (λj v f e w=>A j v f (by simpa using e) w) λD y hd B=>?_;have b:=I.hok.fresh (d8 _);refine⟨.ref s.heap.objs.size,_,I.laid (t':=y) B (d8 _) ?_,rfl,q _ _ b (bC b _) aK⟩;have g:=nY a [];simp only[bCK] at g;exact⟨small (by lia),beq_eq_false_iff_ne.mpr (Ne.symm (t6 I.big)),_,KV.merge c .nil,hd⟩
end
end L2
namespace My
open PySem PySem.Spec PyProof.Rows L2
section
variable {P:Program}{w:World}{K:bFP}{mg:bFS}{base:Heap}
def aY3 (k:Str):Bool:=decide (k = "number")
def knds (hd:Hdr):List Bool:=hd.map λc=>aY3 c.2
def aJb (h:X.K=K:=by rfl):cJ X (.builtin "sorted") (aSg K):=by subst h;exact uH
def zB (h:X.K=K:=by rfl):cJ X (.type "list") (aTx K):=by subst h;exact uR
theorem none_of (e:Same H H')(h:H' D=none):H D=none:=by
 cases g:H D with
 |none=>rfl
 |some o=>rw[e _ _ g] at h;cases h
def But (d:Addr)(H H':Hp):Prop:=∀b o,b≠d->H b=some o->H' b=some o
section
variable {K:bFP}{H H':Hp}{d:Addr}{kvs:List (Key × V)}
def cW (H:Hp)(d:Addr):Prop:=(∀xs,H d≠some (.tup xs))/\(∀ob xs,H d≠some (.frz ob (.tup xs)))/\∀xs,H d≠some (.lst xs)
theorem cW.dK (h:H d=some (.dK kvs)):cW H d:=⟨λ_ z=>(by rw[h] at z;cases z),λ_ _ z=>(by rw[h] at z;cases z),λ_ z=>(by rw[h] at z;cases z)⟩
def cW.fz (h:H d=some (.frz o (.dK kvs))):cW H d:=⟨λ_ z=>(by rw[h] at z;cases z),λ_ _ z=>(by rw[h] at z;cases z),λ_ z=>(by rw[h] at z;cases z)⟩
def But.bB (b:But d H H')(hd:cW H d)(h:SqT K H a xs):SqT K H' a xs:=by
 rcases h with (h|⟨o,h⟩)|h
 ·exact .inl (.inl (b _ _ (λz=>hd.1 _ (z ▸ h)) h))
 ·exact .inl (.inr ⟨o,b _ _ (λz=>hd.2.1 _ _ (z ▸ h)) h⟩)
 ·exact .inr h
theorem But.lst (b:But d H H')(hd:cW H d)(h:H a=some (.lst xs)):H' a=some (.lst xs):=b _ _ (λz=>hd.2.2 _ (z ▸ h)) h
def But.hdr (b:But d H H')(hd:cW H d)(h:lV K H v hr):lV K H' v hr:=by obtain⟨a,g,rfl,f,c⟩:=h;exact⟨a,g,rfl,b.bB hd f,c.imp λ_ _ ⟨p,e,i⟩=>⟨p,e,b.bB hd i⟩⟩
theorem But.pl {v:V}{pl:Plc}(b:But d H H')(hd:cW H d)(h:zV K H v pl):zV K H' v pl:=by
 cases pl with
 |copies=>obtain⟨a,rfl,f⟩:=h;exact⟨a,rfl,b.bB hd f⟩
 |keys n=>obtain⟨a,rfl,f⟩:=h;exact⟨a,rfl,b.bB hd f⟩
 |spans n h0 cs=>obtain⟨a,l,rfl,f,⟨c,j,rfl,k,g⟩⟩:=h;exact⟨a,_,rfl,b.bB hd f,c,j,rfl,b.bB hd k,g.imp λ_ _ ⟨p,e,i⟩=>⟨p,e,b.bB hd i⟩⟩
def But.rows (b:But d H H')(hd:cW H d)(h:bU K H L rs):bU K H' L rs:=by obtain⟨c,g,a⟩:=h;exact⟨c,b.lst hd g,a.imp λ_ _ ⟨p,e,f⟩=>⟨p,e,b.bB hd f⟩⟩
def But.tb (b:But d H H')(hd:cW H d)(h:lZ K H v vh vp L t):lZ K H' v vh vp L t:=by obtain⟨a,rfl,e,g,f,c⟩:=h;exact⟨a,rfl,b.bB hd e,b.hdr hd g,b.pl hd f,b.rows hd c⟩
theorem But.upd:But d H (L2.upd H d u):=λb o a h=>by rw[aR a];exact h
def But.same (b:But d H H')(s:Same H' H2):But d H H2:=λc o a h=>s _ _ (b c o a h)
def But.thaw (b:But d H H2)(hd:H d=some (.dK kvs)):Same H (L2.upd H2 d (.dK kvs)):=λc o h=>by
 by_cases e:c=d
 ·rw[e,aK,<-hd,<-e];exact h
 ·rw[aR e];exact b c o e h
end
structure En where
 n:Str
 v:V
 vh:V
 vp:V
 L:Addr
 t:Tb
def enK (es:List En):List (Key × V):=es.map λe=>(Sum.inr e.n,e.v)
structure gH (K:bFP)(H:Hp)(d:Addr)(es:List En):Prop where
 at_:H d=some (.dK (enK es))
 nd:(es.map (·.n)).Nodup
 few:es.length<=60
 nm:∀e∈es,Nm e.n
 tb:∀e∈es,lZ K H e.v e.vh e.vp e.L e.t
theorem lZ.same (s:Same H H')(h:lZ K H v vh vp L t):lZ K H' v vh vp L t:=by obtain⟨a,rfl,c,e,d,b⟩:=h;exact⟨a,rfl,s.bB c,e.same s,d.same s,b.same s⟩
theorem gH.same (s:Same H H')(h:gH K H d es):gH K H' d es:=⟨s _ _ h.at_,h.nd,h.few,h.nm,λe a=>(h.tb e a).same s⟩
def aHg {es:List En}{i:Nat}{kv:Key × V}(h:(enK es)[i]?=some kv):∃e,es[i]?=some e/\kv=(Sum.inr e.n,e.v):=by unfold enK at h;rw[t7] at h;obtain⟨e,a,rfl⟩:=Option.map_eq_some_iff.mp h;exact⟨e,a,rfl⟩
def aAn:∀kv∈enK es,∃n,kv.1=Sum.inr n:=λkv h=>by unfold enK at h;obtain⟨e,_,rfl⟩:=List.mem_map.mp h;exact⟨_,rfl⟩
def gA:(enK es).length=es.length:=j4 _
inductive aPo (K:bFP)(Pt:Addr)(vs:List V)(H:Hp)(Q:VK)(E_:XK):Prop
 |mk (d:Addr) (m:Int) (es:List En) (_:vs=[.int m,.ref d]) (_:1<=m) (_:m<=6) (_:gH K H d es) (_:(∀e∈es,mV m e.t)) (_:H Pt=some (.tab qC)) (_:∀H',Same H H'->Q .non H')
def aHx (T:Txt w K mg){Pt:Addr}(fB:Ok P w K mg base 1 "is_whole" ["thing"] (oG K))(jT:Ok P w K mg base 2 "is_name" ["thing"] (aDr K nameB))(W:Ok P w K mg base 8 "is_table" ["thing","houses"] (aY0 K Pt)):Ok P w K mg base 9 "need_town" ["houses","tables"] (aPo K Pt):=by
 refine Ok.ofV T.aK5 pJ (by trivial) (λf S A F s H vs Q E x h=>?_)
 obtain⟨d,m,g,rfl,Z,X,b,r,D,q⟩:=h;refine⟨_,(aC (cA (VW.pt (iR (cT (cL (aN (fB.mono (by decide)) x (by rfl) (aB (vv 0) aA)))) (iR (cT (aC0 aCc aCc aF (vv 0) (qJ (by rfl) T.aD2))) (gK (cT (cL (aP aIt (by rfl) T.cB bW (aB (vv 1) (aB (fZ (v:=.ty "dict") (by rfl) T.aBu wQ rfl) aA))))))))) (aH dO) bF) (aH (aO7 (fQ PassesOwn.never rfl (sH (vv 1)) (xG rfl (cD (aX (i:=2) pJ.nd rfl (by trivial)) (cD (aX (i:=3) pJ.nd rfl (by trivial)) jK))) (aH (cA (VW.pt (iR (cT (cL (aN (jT.mono (by decide)) x (by rfl) (aB (vv 2) aA)))) (gK (cT (cL (aN (W.mono (by decide)) x (by rfl) (aB (vv 3) (aB (vv 0) aA)))))))) (aH dO) bF)))))),?_⟩;refine⟨_,rfl,_,rfl,.inr (.inl ⟨m,rfl⟩),_,rfl,cC ?_⟩;refine⟨_,rfl,_,_,rfl,rfl,_,rfl,?_⟩;rw[m9 Z];refine fG ⟨_,_,rfl,rfl,_,rfl,?_⟩;rw[m9 X];refine cC ⟨_,rfl,d,_,rfl,b.at_,_,rfl,cC ?_⟩;refine⟨d,enK g,b.at_,λY=>⟨_,rfl,d,_,rfl,b.at_,aAn,Y,λo=>?_⟩⟩;have l:Pt≠d:=λz=>by rw[z,b.at_] at D;cases D
 have G:But d H (L2.upd H d (.frz o (.dK (enK g)))):=But.upd;have y:L2.upd H d (.frz o (.dK (enK g))) d=some (.frz o (.dK (enK g))):=aK;generalize L2.upd H d (.frz o (.dK (enK g)))=B at G y ⊢;refine aLp (λi σ c=>Same B c/\∃u k,σ=[some (.int m),some (.ref d),u,k]) ⟨Same.refl B,_,_,rfl⟩ (λi σ c _ p=>p.1 _ _ y) (λi kv C σ c R p V=>?_) fun σ c p=>?_
 ·obtain⟨e,u,k,rfl⟩:=p;obtain⟨a,U,rfl⟩:=aHg R;have j:=m8 U;have J:Same c (L2.upd c C (.tup [kV (Sum.inr a.n),a.v])):=bC V _;have N:But d H (L2.upd c C (.tup [kV (Sum.inr a.n),a.v])):=(G.same e).same J;refine⟨C,_,rfl,SqT.of aK,rfl,_,_,rfl,_,_,rfl,rfl,?_⟩;refine⟨_,rfl,_,rfl,(b.nm a j).th,λH2 I=>⟨_,rfl,?_⟩⟩;rw[show nameB (kV (Sum.inr a.n,a.v).fst)=true from b.nm a j];refine cC ?_;have M:=N.same I;refine⟨_,rfl,_,rfl,a.v,a.vh,a.vp,a.L,m,a.t,rfl,M.tb (cW.dK b.at_) (b.tb a j),r a j,M _ _ l D,λH3 O=>⟨_,rfl,cC ?_⟩⟩;exact⟨e.trans (J.trans (I.trans O)),_,_,rfl⟩
 ·obtain⟨e,u,k,rfl⟩:=p;exact⟨⟨o,e _ _ y⟩,q _ ((G.same e).thaw b.at_)⟩
def aAx (e:En)(v:V)(L:Addr):En:={ e with v:=v,L:=L,t:={ e.t with rows:=srt e.t.rows } }
inductive xO (K:bFP)(Pt:Addr)(vs:List V)(H:Hp)(Q:VK)(E_:XK):Prop
 |mk (d:Addr) (m:Int) (es:List En) (_:vs=[.int m,.ref d]) (_:1<=m) (_:m<=6) (_:gH K H d es) (_:(∀e∈es,mV m e.t)) (_:H Pt=some (.tab qC)) (_:∀d' H' es',H d'=none->Same H H'->gH K H' d' es'->bY (λe e'=>∃v L,e'=aAx e v L/\H L=none) es es'->Q (.ref d') H')
theorem bCu (h:bV kd v):KdV (aY3 kd) v:=by
 cases h with
 |num=>exact⟨_,rfl⟩
 |wrd _ _=>exact⟨_,rfl⟩
theorem vW (h:pX hd r):KdR (knds hd) r:=by
 unfold pX at h;unfold KdR knds
 induction h with
 |nil=>exact .nil
 |cons a _ ih=>exact .cons (bCu a) ih
def aAp (h:Good hd):knds hd≠[]:=λz=>by have e:=congrArg List.length z;unfold knds at e;rw[j4] at e;have:=h.2.1;rw[e] at this;exact absurd this (by decide)
theorem fV {α β:Type}{R:α->β->Prop}{as:List α}{bs:List β}(h:bY R as bs):Al2 R as bs:=by
 induction h with
 |nil=>exact .nil
 |cons r _ ih=>exact .cons r ih
theorem aBz {α β:Type}{R:α->β->Prop}{as:List α}{bs:List β}(h:Al2 R as bs):bY R as bs:=by
 induction h with
 |nil=>exact .nil
 |cons r _ ih=>exact .cons r ih
def PlR (K:bFP)(H0:Hp)(es:List En)(D:Addr)(i:Nat)(H:Hp)(y:V):Prop:=∃e v L tp,es[i]?=some e/\y=.ref tp/\SqT K H tp [.str e.n,v]/\lZ K H v e.vh e.vp L { e.t with rows:=srt e.t.rows }/\L≠D/\H0 L=none
theorem lZ.lQ (f:H D=some (.lst ys))(u:L≠D)(h:lZ K H v vh vp L t):lZ K (L2.upd H D (.lst zs)) v vh vp L t:=by
 obtain⟨a,rfl,s,⟨b,m,rfl,o,l⟩,i,⟨r,q,w⟩⟩:=h;refine⟨a,rfl,SqT.lQ f s,⟨b,m,rfl,SqT.lQ f o,l.imp λ_ _ ⟨p,e,k⟩=>⟨p,e,SqT.lQ f k⟩⟩,?_,⟨r,by rw[aR u];exact q,w.imp λ_ _ ⟨p,e,k⟩=>⟨p,e,SqT.lQ f k⟩⟩⟩;cases g:t.pl with
 |copies=>rw[g] at i;obtain⟨j,rfl,d⟩:=i;exact⟨j,rfl,SqT.lQ f d⟩
 |keys n=>rw[g] at i;obtain⟨j,rfl,d⟩:=i;exact⟨j,rfl,SqT.lQ f d⟩
 |spans n h0 cs=>rw[g] at i;obtain⟨j,y,rfl,d,⟨c,m,rfl,x,l⟩⟩:=i;exact⟨j,_,rfl,SqT.lQ f d,c,m,rfl,SqT.lQ f x,l.imp λ_ _ ⟨p,e,k⟩=>⟨p,e,SqT.lQ f k⟩⟩
theorem aPi:∀{es:List En} {ys:List V},ys.length=es.length->(∀i y,ys[i]?=some y->PlR K H0 es D i H y) ->
  ∃es',bY (λe e'=>∃v L,e'=aAx e v L/\H0 L=none) es es'/\bY (λy e'=>∃tp,y=.ref tp/\SqT K H tp [.str e'.n,e'.v]) ys es'/\∀e'∈es',lZ K H e'.v e'.vh e'.vp e'.L e'.t
 |[],[],_,_=>⟨[],.nil,.nil,λe h=>by cases h⟩
 |en::es,y::ys,hl,h=>by
  obtain⟨es',c,f,k⟩:=aPi (Nat.succ.inj hl) λi y j=>by obtain⟨e,v,L,tp,a,r⟩:=h (i+1) y (by simpa using j);exact⟨e,v,L,tp,by simpa using a,r⟩
  obtain⟨e,v,L,tp,a,rfl,g,d,_,b⟩:=h 0 y rfl;cases a;refine⟨aAx en v L::es',.cons ⟨v,L,rfl,b⟩ c,.cons ⟨tp,rfl,g⟩ f,λe' h'=>?_⟩;rcases List.mem_cons.mp h' with rfl|h'
  ·exact d
  ·exact k e' h'
theorem bA5 (h:bY (λy (e':En)=>∃tp,y=.ref tp/\SqT K H tp [.str e'.n,e'.v]) ys es'):oA K H ys (enK es'):=by
 unfold enK
 induction h with
 |nil=>exact .nil
 |cons r _ ih=>exact .cons r ih
theorem aIr {H0:Hp}{es es':List En}(h:bY (λe e'=>∃v L,e'=aAx e v L/\H0 L=none) es es'):es'.map (·.n)=es.map (·.n):=by
 induction h with
 |nil=>rfl
 |cons r _ ih=>obtain⟨v,L,rfl,_⟩:=r;rw[bAC,bAC,ih];rfl
def yK (T:Txt w K mg){Pt:Addr}(ab:Ok P w K mg base 9 "need_town" ["houses","tables"] (aPo K Pt)):Ok P w K mg base 10 "placed_tables" ["houses","tables"] (xO K Pt):=by
 refine Ok.ofV T.zZ yM (by trivial) (λf aa A a6 s H vs Q E hr h=>?_)
 obtain⟨d,m,c,rfl,m1,m6,S,V,hP,q⟩:=h;refine⟨_,(aC (cI (aN (ab.mono (by decide)) hr (by rfl) (aB (vv 0) (aB (vv 1) aA)))) (aH (aO (cH (uD rfl) (by rfl) T.aBu wQ (aB (aF6 (dJ (N:=["name","table"]) (by trivial) (gU (by decide +kernel)) rfl (sH (vv 1)) (λcl s' l fp=>⟨(rZ (K:=K) (n:=2) rfl (cD (aX (i:=0) (show (["name","table"]:List Str).Nodup from by decide +kernel) rfl (Or.inl rfl)) (cD (aX (i:=1) (show (["name","table"]:List Str).Nodup from by decide +kernel) rfl (Or.inl rfl)) jK))),eX,(cN (aB (vv 0) (aB (cN (aB (aU (cO (K:=K)) (vv 1) aF (λ_ _=>rfl)) (aB (aU (cO (K:=K)) (vv 1) aF (λ_ _=>rfl)) (aB (aP (aJb (K:=K)) (by rfl) T.kZ iJ (aB (aU (cO (K:=K)) (vv 1) aF (λ_ _=>rfl)) aA)) aA)))) aA)))⟩))) aA))))),?_⟩;refine⟨_,rfl,_,rfl,d,m,c,rfl,m1,m6,S,V,hP,λC Y=>?_⟩;have j:=S.same Y;dsimp only[tO,tCB,gY];refine⟨d,enK c,j.at_,λnf=>aBo [none,none] oJ ⟨_,rfl,d,_,rfl,j.at_,aAn,nf,λo=>?_⟩⟩;have b0:But d C (L2.upd C d (.frz o (.dK (enK c)))):=But.upd;have g0:L2.upd C d (.frz o (.dK (enK c))) d=some (.frz o (.dK (enK c))):=aK;have n0:∀b,L2.upd C d (.frz o (.dK (enK c))) b=none->C b=none:=λb h=>by
  by_cases e:b=d
  ·rw[e,aK] at h;cases h
  ·rw[aR e] at h;exact h
 generalize L2.upd C d (.frz o (.dK (enK c)))=B at b0 g0 n0 ⊢;refine qX g0 ⟨none,none,rfl⟩ (by rw[gA];have:=S.few;lia) (PlR K H c) ?_ ?_ (λi kv ek l R D ys I hD J r=>?_) λD l ys I hD J ly hy=>?_
 ·rintro D i H2 H3 y Z ⟨e,v,L,u,M,rfl,ht,hb,hne⟩;exact⟨e,v,L,u,M,rfl,Z.bB ht,hb.same Z,hne⟩
 ·rintro D i H2 ys zs y J ⟨e,v,L,u,M,rfl,ht,hb,hne,h0⟩;exact⟨e,v,L,u,M,rfl,SqT.lQ J ht,hb.lQ J hne,hne,h0⟩
 ·obtain⟨O,M,rfl⟩:=aHg ek;have hm:=m8 M;have g:=V O hm;obtain⟨a,ev,ha,h1,h2,⟨us,h3,h4⟩⟩:=(b0.same I).tb (cW.dK j.at_) (j.tb O hm);have lu:=h4.len;have a9:=g.few;refine⟨_,rfl,_,rfl,a,_,0,_,ev,rfl,ha,at0 _ _,_,rfl,a,_,1,_,ev,rfl,ha,at1 _ _ _,_,rfl,a,_,2,_,ev,rfl,ha,at2 _ _ _ _,O.L,us,O.t.rows,knds O.t.hd,rfl,SqL.of h3,fV h4,by lia,aAp g.hd.1,λr a7=>vW (g.rows r a7),λL' H2 a4 X Z g2 h5=>?_⟩;refine⟨by show 3<=sizeLine;decide,λt1 H3 _ s3 g3=>⟨by show 2<=sizeLine;decide,λt2 H4 _ s4 g4=>r _ H4 (Z.trans (s3.trans s4)) ?_⟩⟩;have G:=Z.trans (s3.trans s4);refine⟨O,.ref t1,L',t2,M,rfl,SqT.of g4,⟨t1,rfl,s4.bB (SqT.of g3),h1.same G,h2.same G,⟨a4,(s3.trans s4) _ _ g2,(aBz h5).imp λ_ _ z=>z.same G⟩⟩,λz=>?_,none_of Y (n0 _ (none_of I X))⟩;rw[z,J] at X;cases X
 ·rw[gA] at ly;obtain⟨k,a1,a2,a3⟩:=aPi ly hy;have bD:=b0.same I;refine⟨⟨o,I _ _ g0⟩,?_⟩;have nz:cW l d:=cW.fz (I _ _ g0);have bz:But d l (L2.upd l d (.dK (enK c))):=But.upd;have x:Same C (L2.upd l d (.dK (enK c))):=bD.thaw j.at_;have W:=bz.lst nz J;have a0:bY (λy (F:En)=>∃u,y=.ref u/\SqT K (L2.upd l d (.dK (enK c))) u [.str F.n,F.v]) ys k:=a2.imp λy F ⟨u,ey,ht⟩=>⟨u,ey,bz.bB nz ht⟩;have ac:H D=none:=none_of Y (n0 _ hD);generalize L2.upd l d (.dK (enK c))=H5 at bz x W a0;have le:=a2.len;have la:=a1.len;have fw:=S.few;refine⟨D,ys,enK k,rfl,W,bA5 a0,by lia,λp H6 X s6 g6=>?_⟩;have U:(k.map (·.n)).Nodup:=by rw[aIr a1];exact S.nd
  have a8:((enK k).map (·.1)).Nodup:=by unfold enK;rw[bBJ];exact List.pairwise_map.mpr ((List.pairwise_map.mp U).imp λ{a b} a5 z=>a5 (Sum.inr.inj z))
  rw[mU _ [] (by rw[bBU];exact a8),bBU] at g6;refine q p H6 k (none_of Y (none_of x X)) (Y.trans (x.trans s6)) ⟨g6,U,by lia,λF h'=>?_,λF h'=>(bz.tb nz (a3 F h')).same s6⟩ a1;have:F.n∈c.map (·.n):=by rw[<-aIr a1];exact bBX h'
  obtain⟨e0,h0,e1⟩:=List.mem_map.mp this;rw[<-e1];exact S.nm e0 h0
end
end My
namespace L2
open PySem PySem.Spec PyProof.Rows
section
variable {X:Cx}{scope:Scope}{N:List Str}{wi:TI}{te:TE}{σ:L2.St}{H:Hp}{Q:VK}
def aB9 (xs:List V)(p:Nat->Bool)(k:L2.St)(hsz:xs.length<=sizeLine)(w:∀H' i x,Same H H'->xs[i]?=some x->J.go i H'/\∀y H2,J.yld i H' y H2->H2=H'/\y=x)(h:∀H',Same H H'->J.stop xs.length H')
  (A:∀(i:Nat) (x:V),xs[i]?=some x->∀H' R l,Same H H'->(∀H2,Same H' H2->R (p i) H2)->tt ((k.set 0 l).set 0 (some x)) H' R) (n:k[0]?=some none)
  (q:∀D H',H D=none->Same H H'->H' D=some (.lst (sel p 0 xs))->Q (.ref D) H'):pR J H k (cM 0) tt (aQj 0) Q:=by
 intro D d;refine⟨λi m j H' f=>i<=xs.length/\m=xs.length - i/\(∃l,j=k.set 0 l)/\Same H H'/\H' D=some (.lst f)/\f=sel p 0 (xs.take i),⟨xs.length,bAE _,rfl,⟨none,mC n⟩,bC d _,aK,rfl⟩,?_⟩;rintro i m j H' f ⟨hi,rfl,⟨l,rfl⟩,sm,hL,rfl⟩;refine⟨hL,?_⟩;by_cases a:i<xs.length
 ·right;obtain⟨t,s⟩:=w H' i xs[i] sm (b8 a);refine⟨t,λx H2 v=>?_⟩;obtain⟨rfl,rfl⟩:=s x H2 v;unfold cM;dsimp only;have u:0<k.length:=by
   by_cases z:0<k.length
   ·exact z
   ·rw[bAF (by lia)] at n;cases n
  have g:sel p 0 (xs.take (i+1))=sel p 0 (xs.take i)++(if p i then [xs[i]] else []):=by rw[bBB,b8 a];show sel p 0 (xs.take i++[xs[i]])=_;rw[aCz,bAH,bEA,Nat.min_eq_left (bDJ a)]
  refine A i xs[i] (b8 a) _ _ l sm λB c=>?_;cases r:p i with
  |true=>
   rw[if_pos rfl];refine⟨xs[i],by rw[bCG,bEN u],c _ _ hL,?_,xs.length - (i+1),by lia,a,rfl,⟨some xs[i],by rw[bCG]⟩,?_,aK,?_⟩
   ·have:=aH0 p 0 (xs.take i);rw[bAH] at this;lia
   ·intro b o e;rw[aR (aQ e d)];exact c _ _ (sm _ _ e)
   ·rw[g,r];rfl
  |false=>rw[if_neg (by simp)];refine⟨c _ _ hL,xs.length - (i+1),by lia,a,rfl,⟨some xs[i],by rw[bCG]⟩,sm.trans c,c _ _ hL,?_⟩;rw[g,r];simp
 ·left;have e:i=xs.length:=by lia
  subst e;refine⟨h _ sm,?_⟩;rw[bCN] at hL;exact q D _ d sm hL
def aQs (xs:List V)(p:Nat->Bool)(a:L2.St)(b:Cap X scope N σ a)(c:xs.length<=sizeLine)
  (d:∀R:It->Hp->Prop,(∀J:It,(∀H' i x,Same H H'->xs[i]?=some x->J.go i H'/\∀y H2,J.yld i H' y H2->H2=H'/\y=x)->(∀H',Same H H'->J.stop xs.length H')->R J H)->wi σ H R)
  (e:∀(i:Nat) (x:V),xs[i]?=some x->∀H' R l,Same H H'->(∀H2,Same H' H2->R (p i) H2)->tt ((a.set 0 l).set 0 (some x)) H' R) (f:a[0]?=some none)
  (q:∀D H',H D=none->Same H H'->H' D=some (.lst (sel p 0 xs))->Q (.ref D) H') :
  lM X scope N wi (cM 0) tt (aQj 0) σ H Q:=
 ⟨a,b,d _ λJ go stop=>aB9 xs p a c go stop e f q⟩
end
end L2
namespace My
open PySem PySem.Spec PyProof.Rows L2
section
variable {P:Program}{w:World}{K:bFP}{mg:bFS}{base:Heap}
section
variable {X:Cx}
def bCq:R2:=λx y H Q=>(∃a b,x=.int a/\y=.int b/\Q (.bl (!decide (b<a))) H)\/∃a b:Str,x=.str a/\y=.str b/\Q (.bl (!decide (b.cps.toList<a.cps.toList))) H
theorem bAx:OpR X (compareOp .LtE) bCq:=by
 intro e s σ H x y v u Q I d c h;rcases h with⟨a,b,rfl,rfl,q⟩|⟨a,b,rfl,rfl,q⟩
 ·obtain⟨t,rfl⟩:=d;obtain⟨f,rfl⟩:=c;refine PyProof.Rows.le_int ?_;rw[show decide (a<=b)=!decide (b<a) by by_cases h:b<a <;> simp[h] <;> lia];exact⟨.bl _,H,I,rfl,q⟩
 ·obtain⟨t,rfl⟩:=d;obtain⟨f,rfl⟩:=c;exact P.le_str ⟨.bl _,H,I,rfl,q⟩
end
def aRm (d:Gl X "range")(g:X.mg "range"=none)(e:VA X [a,b] t)(f:dH a=true:=by rfl)(c:dH b=true:=by rfl):VI X tg (.Call (.Name "range" p) [a,b] [] pos) (aY2 t):=⟨aRe d g e.1 (by rw[aW f,aW c];rfl) (by rw[aW c];rfl)⟩
inductive rR (K:bFP)(vs:List V)(H:Hp)(Q:VK)(E_:XK):Prop
 |mk (d:Addr) (es:List En) (e:En) (_:vs=[.ref d,.str e.n]) (_:gH K H d es) (_:e∈es) (_:∀H',Same H H'->Q e.v H')
theorem vD:∀{es:List En} {e:En},(es.map (·.n)).Nodup->e∈es->eV (enK es) (Sum.inr e.n)=some e.v
 |[],e,nd,h=>by cases h
 |a::es,e,nd,h=>by
  rw[bAC,bDP] at nd;rcases List.mem_cons.mp h with rfl|h
  ·exact cU rfl
  ·have:a.n≠e.n:=λz=>nd.1 (z ▸ bBX h);show eV ((Sum.inr a.n,a.v)::enK es) (Sum.inr e.n)=_;rw[cR (λz=>this (Sum.inr.inj z))];exact vD nd.2 h
def aJk (T:Txt w K mg)(o:Ok P w K mg base 2 "is_name" ["thing"] (aDr K nameB)):Ok P w K mg base 3 "table_in" ["placed","name"] (rR K):=by
 refine Ok.ofV T.aNj aK1 (by trivial) (λf m A c s H r Q E k h=>?_)
 obtain⟨d,p,e,rfl,a,g,q⟩:=h;have i:=lB k;refine⟨_,(aC (cA (VW.pt (iR (cT (cL (aN (o.mono (by decide)) k (by rfl) (aB (vv 1) aA)))) (gK (aEk i (vv 1) (vv 0))))) (aH dO) bF) (aH (aO (iV i (vv 0) (vv 1) (λ_ _=>rfl))))),?_⟩;refine⟨_,rfl,_,rfl,(a.nm e g).th,λl b=>⟨_,rfl,?_⟩⟩;rw[show nameB (.str e.n)=true from a.nm e g];refine cC ?_;have j:=vD a.nd g;refine⟨_,rfl,_,rfl,d,_,rfl,.inl ⟨_,Sum.inr e.n,.inl (b _ _ a.at_),rfl,rfl⟩,_,rfl,?_⟩;rw[j];refine cC ?_;exact⟨_,rfl,_,rfl,d,e.v,rfl,.inl ⟨_,Sum.inr e.n,.inl (b _ _ a.at_),rfl,j.symm⟩,q l b⟩
theorem bAg (d:bV kd a)(c:bV kd b)(q:Q (.bl (!vlt b a)) H):bCq a b H Q:=by
 cases d with
 |num=>cases c;exact .inl ⟨_,_,rfl,rfl,q⟩
 |wrd _ _=>cases c;exact .inr ⟨_,_,rfl,rfl,q⟩
def iH (v:V):List (V × Int)->Nat->Nat->Nat
 |[],_,n=>n
 |c::t,p,n=>iH v t (p+1) (if vlt v c.1=true then n else p)
theorem yO (v:V):∀(l:List (V × Int)) (c:V × Int) (p n:Nat),iH v (l++[c]) p n=if vlt v c.1=true then iH v l p n else p+l.length
 |[],c,p,n=>by show (if _ then _ else _)=_;rfl
 |a::l,c,p,n=>by
  show iH v (l++[c]) (p+1) _=_;rw[yO v l c];show (if _ then iH v l (p+1) _ else p+1+l.length)=if _ then iH v l (p+1) _ else p+(l.length+1)
  rw[show p+1+l.length=p+(l.length+1) by lia]
theorem aG4 (v:V)(l:List (V × Int)):iH v l 1 0<=l.length:=by
 suffices ∀l p n,n<=p+l.length - 1\/n=0->iH v l p n<=p+l.length - 1\/iH v l p n=0 by rcases this l 1 0 (.inr rfl) with h|h <;> lia
 intro l
 induction l with
 |nil=>intro p n h;exact h
 |cons c t ih=>
  intro p n h;have:=ih (p+1) (if vlt v c.1=true then n else p) (by
   rw[t8] at h
   split
   ·rcases h with h|h
    ·left;lia
    ·right;exact h
   ·left;lia)
  rw[t8];rcases this with h|h
  ·left;show iH v t (p+1) _<=_;lia
  ·right;exact h
inductive vR (K:bFP)(vs:List V)(H:Hp)(Q:VK)(E_:XK):Prop
 |mk (vc v:V) (kd:Str) (h0:Int) (cs:List (V × Int)) (_:vs=[vc,v]) (_:rK K H (jP K H) vc ((.non,h0)::cs)) (_:cs.length<=7) (_:bV kd v) (_:(∀c∈cs,bV kd c.1)) (_:Q (.int (iH v cs 1 0:Nat)) H)
def aP6 (T:Txt w K mg):Ok P w K mg base 1 "cut_of" ["cuts","value"] (vR K):=by
 refine Ok.ofV T.aTy sO (by trivial) (λf F A t s H M Q E O h=>?_)
 obtain⟨N,v,R,L,d,rfl,⟨a,b,rfl,C,y⟩,U,D,k,q⟩:=h;refine⟨_,(aC (bA (i:=2) sO.nd rfl (by trivial) aF) (aC (fQ PassesOwn.never rfl (aRm (by rfl) T.kI (aB aF (aB (aP bH (by rfl) T.fK dF (aB (vv 0) aA)) aA))) (aX (i:=3) sO.nd rfl (by trivial)) (aH (cA (bQ bAx (aU aY (aU aY (vv 0) (vv 3) (λ_ _=>rfl)) aF (λ_ _=>rfl)) (vv 1) (bL _)) (aH (bA (i:=2) sO.nd rfl (by trivial) (vv 3))) bF))) (aH (aO (vv 2))))),?_⟩;have G:=y.len;rw[t8] at G;have S:b.length<=8:=by lia
 refine⟨_,rfl,_,_,rfl,.inr C,1,b.length,rfl,⟨by decide,by decide,by lia,by lia⟩,?_⟩;rw[show ((b.length:Int) - 1).toNat=d.length by lia];refine jU (λi σ r=>r=H/\∃l,σ=[some (.ref a),some v,some (.int (iH v (d.take i) 1 0:Nat)),l]) ⟨rfl,_,rfl⟩ (λi σ r J p=>?_) fun σ r p=>?_
 ·obtain⟨rfl,l,rfl⟩:=p;have j:i+1<b.length:=by lia
  obtain⟨c,x,B,u,o⟩:=bM y (b8 j);rw[List.getElem?_cons_succ] at x;have e:atI b (1+(i:Int))=some (.ref B):=by rw[show (1+(i:Int))=((i+1:Nat):Int) by lia,<-u];exact dI (b8 j)
  have n:=k c (m8 x);have I:d.take (i+1)=d.take i++[c]:=by rw[bBB,x];rfl
  have m:(d.take i).length=i:=by rw[bAH];lia
  refine⟨_,rfl,_,rfl,a,b,_,_,rfl,rfl,C,e,B,_,0,_,rfl,rfl,o,at0 _ _,_,rfl,bAg n D ⟨_,rfl,?_⟩⟩;have g:=yO v (d.take i) c 1 0;rw[<-I,m] at g;cases z:vlt v c.1 with
  |true=>rw[z,if_pos rfl] at g;exact cC ⟨rfl,some (.int (1+(i:Int))),by rw[g];rfl⟩
  |false=>rw[z,if_neg v6] at g;refine fG ⟨_,rfl,rfl,some (.int (1+(i:Int))),?_⟩;rw[g,show (((1+i:Nat)):Int)=1+(i:Int) by lia];rfl
 ·obtain⟨rfl,l,rfl⟩:=p;rw[bAV (d8 _)];exact⟨_,rfl,q⟩
def jC (hd:Hdr)(m:Int)(r:List V)(house:Int):Plc->Bool
 |.copies=>true
 |.keys n=>decide (nm (r.getD (plc hd n) .non) % m=house)
 |.spans n h0 cs=>decide ((((.non,h0)::cs).map (·.2)).getD (iH (r.getD (plc hd n) .non) cs 1 0) 0=house)
inductive aFf (K:bFP)(vs:List V)(H:Hp)(Q:VK)(E_:XK):Prop
 |mk (vh vp vr:V) (house m:Int) (hd:Hdr) (pl:Plc) (r:List V) (_:vs=[vh,vp,vr,.int house,.int m]) (_:lV K H vh hd) (_:aNq hd) (_:zV K H vp pl) (_:aYc hd m pl) (_:dD K H vr r) (_:pX hd r) (_:0<m) (_:∀H',Same H H'->Q (.bl (jC hd m r house pl)) H')
def aT6 (h:pX hd r)(d:look hd n=some k):∃v,r[plc hd n]?=some v/\r.getD (plc hd n) .non=v/\bV k v:=by obtain⟨c,_⟩:=aNm d;obtain⟨v,a,b⟩:=bM h c;exact⟨v,a,by rw[j6,a];rfl,b⟩
theorem aHz (T:Txt w K mg)(uK:Ok P w K mg base 2 "place_of" ["head","name"] (aBv K))(a3:Ok P w K mg base 2 "home" ["value","houses"] aOx)(qP:Ok P w K mg base 1 "cut_of" ["cuts","value"] (vR K)):Ok P w K mg base 3 "stands_at" ["head","placing","row","house","houses"] (aFf K):=by
 refine Ok.ofV T.aJh oU (by trivial) (λf a1 A N s H vs Q E L h=>?_)
 obtain⟨W,vp,vr,b,m,hd,pl,r,rfl,Z,J,l,j,⟨X,rfl,p⟩,x,m0,q⟩:=h;have l8:=J.1.2.2;refine⟨_,(aC (cA (bQ gO (aU aY (vv 1) aF (λ_ _=>rfl)) bN (bL _)) (aH (aO lK)) bF) (aC (bA (i:=5) oU.nd rfl (by trivial) (aU aY (vv 2) (aN (uK.mono (by decide)) L (by rfl) (aB (vv 0) (aB (aU aY (vv 1) aF (λ_ _=>rfl)) aA))) (λ_ _=>rfl))) (aC (cA (bQ gO (aU aY (vv 1) aF (λ_ _=>rfl)) bN (bL _)) (aH (aO (dB gO (aN (a3.mono (by decide)) L (by rfl) (aB (vv 5) (aB (vv 4) aA))) (vv 3) (bL _)))) bF) (aC (bA (i:=6) oU.nd rfl (by trivial) (aU aY (vv 1) aF (λ_ _=>rfl))) (aH (aO (dB gO (aU aY (aU aY (vv 6) (aN (qP.mono (by decide)) L (by rfl) (aB (vv 6) (aB (vv 5) aA))) (λ_ _=>rfl)) aF (λ_ _=>rfl)) (vv 3) (bL _)))))))),?_⟩;cases pl with
 |copies=>obtain⟨a,rfl,g⟩:=l;exact⟨_,rfl,a,_,0,_,rfl,rfl,g,at0 _ _,rfl,_,rfl,fG (q H (Same.refl H))⟩
 |keys n=>
  obtain⟨a,rfl,g⟩:=l;obtain⟨hn,k,u⟩:=j;obtain⟨v,C,M,o⟩:=aT6 x u;refine⟨_,rfl,a,_,0,_,rfl,rfl,g,at0 _ _,rfl,_,rfl,lN (by decide +kernel) ?_⟩;refine⟨_,rfl,_,rfl,_,rfl,a,_,1,_,rfl,rfl,g,at1 _ _ _,W,n,hd,k,rfl,Z,by lia,u,λD d=>?_⟩;refine⟨X,r,_,v,rfl,rfl,d.bB p,dI C,?_⟩;refine⟨_,rfl,a,_,0,_,rfl,rfl,d.bB g,at0 _ _,rfl,_,rfl,zL (by decide +kernel) ?_⟩;refine⟨_,rfl,_,rfl,v,m,rfl,sX o,m0,_,rfl,rfl,?_⟩;have e:decide (V.int (nm v % m)=V.int b)=jC hd m r b (.keys n):=by show _=decide (nm (r.getD (plc hd n) .non) % m=b);rw[M];exact decide_eq_decide.mpr ⟨λz=>V.int.inj z,λz=>congrArg V.int z⟩
  rw[e];exact q D d
 |spans n h0 cs=>
  obtain⟨a,vc,rfl,g,R⟩:=l;obtain⟨hn,k,u,a2,t⟩:=j;obtain⟨v,C,M,o⟩:=aT6 x u;refine⟨_,rfl,a,_,0,_,rfl,rfl,g,at0 _ _,rfl,_,rfl,lN (by decide +kernel) ?_⟩;refine⟨_,rfl,_,rfl,_,rfl,a,_,1,_,rfl,rfl,g,at1 _ _ _,W,n,hd,k,rfl,Z,by lia,u,λD d=>?_⟩;refine⟨X,r,_,v,rfl,rfl,d.bB p,dI C,?_⟩;refine⟨_,rfl,a,_,0,_,rfl,rfl,d.bB g,at0 _ _,rfl,_,rfl,lN (by decide +kernel) ?_⟩;refine⟨_,rfl,a,_,2,_,rfl,rfl,d.bB g,at2 _ _ _ _,?_⟩;have y:=rK.same d (λ_ _ z=>z.same d) R;obtain⟨U,F,ec,S,B⟩:=id y;subst ec;have lu:=B.len;rw[t8] at lu;have a0:=aG4 v cs;obtain⟨c,G,Y,O,I⟩:=bM B (b8 (show iH v cs 1 0<F.length by lia));refine⟨_,rfl,_,rfl,_,rfl,.ref U,v,k,h0,cs,rfl,y,t.few,o,λc R=>(t.each c R).1,U,F,_,.ref Y,rfl,rfl,S,dI (by rw[b8 (show iH v cs 1 0<F.length by lia),O]),Y,_,1,_,rfl,rfl,I,at1 _ _ _,_,rfl,rfl,?_⟩;have e:decide (V.int c.2=V.int b)=jC hd m r b (.spans n h0 cs):=by show _=decide ((((.non,h0)::cs).map (·.2)).getD (iH (r.getD (plc hd n) .non) cs 1 0) 0=b);rw[M,j6,t7,G];exact decide_eq_decide.mpr ⟨λz=>V.int.inj z,λz=>congrArg V.int z⟩
  rw[e];exact q D d
theorem uI {α:Type}{p:Nat->Bool}{p':α->Bool}:∀{k:Nat} {xs:List α},(∀(i:Nat) (x:α),xs[i]?=some x->p (k+i)=p' x)->sel p k xs=xs.filter p'
 |_,[],_=>rfl
 |k,x::r,h=>by have a:=h 0 x rfl;rw[Nat.add_zero] at a;show (if p k then x::sel p (k+1) r else sel p (k+1) r)=_;rw[bD9,a,uI (k:=k+1) (xs:=r) λi y e=>by rw[show k+1+i=k+(i+1) by lia];exact h (i+1) y (by simpa using e)]
theorem aJ7 {α β:Type}{R:α->β->Prop}{p:Nat->Bool}{as:List α}{c:List β}(h:bY R as c):∀k,bY R (sel p k as) (sel p k c):=by
 induction h with
 |nil=>exact λ_=>.nil
 |@cons a b as c r _ ih=>
  intro k;show bY R (if p k then a::sel p (k+1) as else sel p (k+1) as) (if p k then b::sel p (k+1) c else sel p (k+1) c)
  split
  ·exact .cons r (ih _)
  ·exact ih _
def aOw (i j k:Nat)(g:(y,NameKind.free)∈scope.names)(f:(z,NameKind.free)∈scope.names)(e:(y3,NameKind.free)∈scope.names)(hi:X.N[i]?=some y)(s:X.N[j]?=some z)(h:X.N[k]?=some y3)(m:σ[i]?=some (some u))(p:σ[j]?=some (some v))(d:σ[k]?=some (some u3))(l:Vis X.env.scope y)(o:Vis X.env.scope z)(c:Vis X.env.scope y3):Cap X scope [x,y,z,y3] σ [none,some u,some v,some u3]:=
 ⟨rfl,λn q r b a=>by
  match n,b,a with
  |0,_,a=>cases a
  |1,b,a=>cases b;cases a;exact⟨g,i,hi,m,l⟩
  |2,b,a=>cases b;cases a;exact⟨f,j,s,p,o⟩
  |3,b,a=>cases b;cases a;exact⟨e,k,h,d,c⟩
  |n+4,b,_=>cases b⟩
inductive aEh (K:bFP)(vs:List V)(H:Hp)(Q:VK)(E_:XK):Prop
 |mk (v vh vp:V) (L:Addr) (t:Tb) (house m:Int) (_:vs=[v,.int house,.int m]) (_:lZ K H v vh vp L t) (_:mV m t) (_:0<=house) (_:house<m) (_:∀D' H',H D'=none->Same H H'->bU K H' D' (t.rows.filter λr=>jC t.hd m r house t.pl)->Q (.ref D') H')
def aLz (T:Txt w K mg)(cZ:Ok P w K mg base 2 "is_number_below" ["thing","many"] wW)(W:Ok P w K mg base 3 "stands_at" ["head","placing","row","house","houses"] (aFf K)):Ok P w K mg base 4 "rows_at" ["table","house","houses"] (aEh K):=by
 refine Ok.ofV T.aQl aNx (by trivial) (λf M A z s H vs Q E B h=>?_)
 obtain⟨v,D,V,L,t,b,m,rfl,U,j,S,hm,q⟩:=h;refine⟨_,(aC (cA (cT (cL (aN (cZ.mono (by decide)) B (by rfl) (aB (vv 1) (aB (vv 2) aA))))) (aH dO) bF) (aH (aO (dJ (N:=["row","house","houses","table"]) (by trivial) (lJ (aJ yE) rfl (by decide +kernel)) rfl (jB (aU (cO (K:=K)) (vv 0) aF (λ_ _=>rfl))) (λcl s' g fp=>⟨(aX (i:=0) (show (["row","house","houses","table"]:List Str).Nodup from by decide +kernel) rfl (Or.inl rfl)),(aMa (cL (aN (W.mono (by decide)) B (by rfl) (aB (aU (cO (K:=K)) (vv 3) aF (λ_ _=>rfl)) (aB (aU (cO (K:=K)) (vv 3) aF (λ_ _=>rfl)) (aB (vv 0) (aB (vv 1) (aB (vv 2) aA)))))))),(vv 0)⟩))))),?_⟩;refine⟨_,rfl,_,rfl,b,m,rfl,_,rfl,?_⟩;rw[m9 S,m9 hm];refine cC ?_;obtain⟨a,rfl,p,Z,n,⟨O,Y,k⟩⟩:=U;have lu:=k.len;have fw:=j.few;have I:0<m:=by lia
 refine aQs O (λi=>jC t.hd m (t.rows.getD i []) b t.pl) [none,some (.int b),some (.int m),some (.ref a)] ?_ (small (by lia)) (λR r=>aV5 (λg c=>SqL.of (c _ _ Y)) (λR' F=>⟨_,rfl,a,_,2,_,rfl,rfl,p,at2 _ _ _ _,F⟩) R r) (λi u J g R l c C=>?_) rfl λD' g X c o=>?_
 ·exact aOw 1 2 0 (by decide +kernel) (by decide +kernel) (by decide +kernel) rfl rfl rfl rfl rfl rfl (by trivial) (by trivial) (by trivial)
 ·obtain⟨r,d,x⟩:=bM k J;have y:=j.rows r (m8 d);have eg:t.rows.getD i []=r:=by rw[j6,d];rfl
  rw[eg] at C;refine⟨_,rfl,a,_,0,_,rfl,rfl,c.bB p,at0 _ _,_,rfl,a,_,1,_,rfl,rfl,c.bB p,at1 _ _ _,_,rfl,_,rfl,_,rfl,D,V,u,b,m,t.hd,t.pl,r,rfl,Z.same c,j.hd,n.same c,j.pl,x.same c,y,I,λH2 G=>⟨_,rfl,C H2 G⟩⟩
 ·refine q D' g X c ⟨_,o,?_⟩;have e:(t.rows.filter λr=>jC t.hd m r b t.pl)=sel (λi=>jC t.hd m (t.rows.getD i []) b t.pl) 0 t.rows:=(uI λi r d=>by rw[bEA,j6,d];rfl).symm;rw[e];exact (aJ7 k 0).imp λ_ _ r=>r.same c
def fP (K:bFP)(H:Hp)(C x:Addr)(m:Int)(d:Addr)(es:List En):Prop:=(∃dx,H x=some (.ins C dx [("placed",.ref d),("house_count",.int m)]))/\gH K H d es/\∀e∈es,mV m e.t
theorem fP.same (s:Same H H')(h:fP K H C x m d es):fP K H' C x m d es:=by obtain⟨⟨a,e⟩,b,c⟩:=h;exact⟨⟨a,s _ _ e⟩,b.same s,c⟩
theorem cW.ins (h:H x=some (.ins C dx fs)):cW H x:=⟨λ_ z=>(by rw[h] at z;cases z),λ_ _ z=>(by rw[h] at z;cases z),λ_ z=>(by rw[h] at z;cases z)⟩
theorem gF {α β:Type}{R:α->β->Prop}{as:List α}{bs:List β}(h:bY R as bs){b:β}(hb:b∈bs):∃a∈as,R a b:=by
 induction h with
 |nil=>cases hb
 |cons r _ ih=>
  rcases List.mem_cons.mp hb with rfl|hb
  ·exact⟨_,j7,r⟩
  ·obtain⟨a,d,c⟩:=ih hb;exact⟨a,j5 _ d,c⟩
def mV.sorted (h:mV m t):mV m { t with rows:=srt t.rows }:=⟨h.hd,h.pl,by rw[nH];exact h.few,λr a=>h.rows r (oZ a)⟩
inductive aOm (K:bFP)(C Pt:Addr)(vs:List V)(H:Hp)(Q:VK)(E_:XK):Prop
 |mk (H0:Hp) (x dx d:Addr) (m:Int) (es:List En) (_:vs=[.ref x,.int m,.ref d]) (_:H x=some (.ins C dx [])) (_:H0 x=none) (_:Same H0 H) (_:1<=m) (_:m<=6) (_:gH K H0 d es) (_:(∀e∈es,mV m e.t)) (_:H0 Pt=some (.tab qC)) (_:∀d' H' es',H0 d'=none->Same H0 H'->fP K H' C x m d' es'->bY (λe e'=>∃v L,e'=aAx e v L/\H0 L=none) es es'->Q .non H')
def aT0 (T:Txt w K mg)(c:Cls K C)(D:eQ K C "__init__" "Town.__init__" lG ["self","houses","tables"])(n1:bR K C "placed")(n2:bR K C "house_count")(lH:Ok P w K mg base 10 "placed_tables" ["houses","tables"] (xO K Pt)):OkM P w K mg base C 11 "__init__" ["self","houses","tables"] (aOm K C Pt):=by
 refine OkM.ofV c D yC (by trivial) (λf N A u s H vs Q E V h=>?_)
 obtain⟨H0,x,i,d,m,es,rfl,B,W,k,Z,Y,U,J,X,q⟩:=h;refine⟨_,(aC (aBd (K:=K) (vv 0) (aN (lH.mono (by decide)) V (by rfl) (aB (vv 1) (aB (vv 2) aA)))) (aH (aBd (K:=K) (vv 0) (vv 1)))),?_⟩;refine⟨_,rfl,_,rfl,d,m,es,rfl,Z,Y,U.same k,J,k _ _ X,λj n y g F a I=>?_⟩;have l:=F _ _ B;refine⟨_,rfl,x,C,i,[],rfl,l,c,n1,by decide,?_⟩;refine⟨_,rfl,_,rfl,x,C,i,_,rfl,aK,c,n2,by show 1<1000;decide,?_⟩;have nx:=cW.ins l;have p:j≠x:=λz=>by rw[z,B] at g;cases g
 have r:But x n (L2.upd (L2.upd n x (.ins C i [("placed",.ref j)])) x (.ins C i [("placed",.ref j),("house_count",.int m)])):=λb o G h=>by rw[aR G,aR G];exact h
 have M:Same H0 (L2.upd (L2.upd n x (.ins C i [("placed",.ref j)])) x (.ins C i [("placed",.ref j),("house_count",.int m)])):=λb o h=>r _ _ (λz=>by rw[z,W] at h;cases h) (F _ _ (k _ _ h));refine q j _ y (none_of k g) M ⟨⟨i,aK⟩,⟨r _ _ p a.at_,a.nd,a.few,a.nm,λe t=>r.tb nx (a.tb e t)⟩,λe t=>?_⟩ (I.imp λe e' ⟨v,L,S,O⟩=>⟨v,L,S,none_of k O⟩);obtain⟨e0,R,v,L,rfl,_⟩:=gF I t;exact (J e0 R).sorted
inductive uF (K:bFP)(C:Addr)(vs:List V)(H:Hp)(Q:VK)(E_:XK):Prop
 |mk (x d:Addr) (m:Int) (es:List En) (e:En) (_:vs=[.ref x,.str e.n]) (_:fP K H C x m d es) (_:e∈es) (_:∀H',Same H H'->Q e.vp H')
def aI6 (T:Txt w K mg)(c:Cls K C)(D:eQ K C "placing" "Town.placing" mG ["self","name"])(B:bR K C "placed")(F:Ok P w K mg base 3 "table_in" ["placed","name"] (rR K)):OkM P w K mg base C 4 "placing" ["self","name"] (uF K C):=by
 refine OkM.ofV c D zY (by trivial) (λf o A b s H v Q E p h=>?_)
 obtain⟨x,d,m,t,e,rfl,⟨⟨r,k⟩,j,I⟩,i,q⟩:=h;refine⟨_,(aH (aO (aU (cO (K:=K)) (aN (F.mono (by decide)) p (by rfl) (aB (cY (K:=K) (vv 0)) (aB (vv 1) aA))) aF (λ_ _=>rfl)))),?_⟩;obtain⟨a,u,n,y,z,G⟩:=j.tb e i;exact⟨_,rfl,x,C,r,_,_,rfl,k,c,B,rfl,_,rfl,d,t,e,rfl,j,i,λl g=>⟨a,_,1,_,u,rfl,g.bB n,at1 _ _ _,q l g⟩⟩
inductive jF (K:bFP)(C:Addr)(vs:List V)(H:Hp)(Q:VK)(E_:XK):Prop
 |mk (x d:Addr) (m:Int) (es:List En) (e:En) (_:vs=[.ref x,.str e.n]) (_:fP K H C x m d es) (_:e∈es) (_:∀L H',H L=none->Same H H'->bU K H' L e.t.rows->Q (.ref L) H')
def aRa (T:Txt w K mg)(c:Cls K C)(D:eQ K C "whole" "Town.whole" pN ["self","name"])(U:bR K C "placed")(V:Ok P w K mg base 3 "table_in" ["placed","name"] (rR K)):OkM P w K mg base C 4 "whole" ["self","name"] (jF K C):=by
 refine OkM.ofV c D aDc (by trivial) (λf t A i s H N Q E u h=>?_)
 obtain⟨x,d,m,I,e,rfl,⟨⟨F,o⟩,n,G⟩,g,q⟩:=h;refine⟨_,(aH (aO (cH (zB (K:=K)) (by rfl) T.wZ sS (aB (aU (cO (K:=K)) (aN (V.mono (by decide)) u (by rfl) (aB (cY (K:=K) (vv 0)) (aB (vv 1) aA))) aF (λ_ _=>rfl)) aA)))),?_⟩;obtain⟨a,J,p,R,S,⟨l,B,k⟩⟩:=n.tb e g;have O:=k.len;have W:=(G e g).few;refine⟨_,rfl,x,C,F,_,_,rfl,o,c,U,rfl,_,rfl,d,I,e,rfl,n,g,λM b=>⟨a,_,2,_,J,rfl,b.bB p,at2 _ _ _ _,e.L,l,rfl,.inl (SqL.of (b _ _ B)),λL z y j v=>q L z (none_of b y) (b.trans j) ⟨l,v,k.imp λ_ _ r=>r.same (b.trans j)⟩⟩⟩
inductive aFv (K:bFP)(C:Addr)(vs:List V)(H:Hp)(Q:VK)(E_:XK):Prop
 |mk (x d:Addr) (m house:Int) (es:List En) (e:En) (_:vs=[.ref x,.str e.n,.int house]) (_:fP K H C x m d es) (_:e∈es) (_:0<=house) (_:house<m) (_:∀L H',H L=none->Same H H'->bU K H' L (e.t.rows.filter λr=>jC e.t.hd m r house e.t.pl)->Q (.ref L) H')
def aTm (T:Txt w K mg)(c:Cls K C)(D:eQ K C "part" "Town.part" qW ["self","name","house"])(O:bR K C "placed")(J:bR K C "house_count")(R:Ok P w K mg base 3 "table_in" ["placed","name"] (rR K))(B:Ok P w K mg base 4 "rows_at" ["table","house","houses"] (aEh K)):OkM P w K mg base C 5 "part" ["self","name","house"] (aFv K C):=by
 refine OkM.ofV c D aGf (by trivial) (λf p A i s H N Q E l h=>?_)
 obtain⟨x,d,m,a,I,e,rfl,⟨⟨n,j⟩,k,F⟩,g,r,z,q⟩:=h;refine⟨_,(aH (aO (aN (B.mono (by decide)) l (by rfl) (aB (aN (R.mono (by decide)) l (by rfl) (aB (cY (K:=K) (vv 0)) (aB (vv 1) aA))) (aB (vv 2) (aB (cY (K:=K) (vv 0)) aA)))))),?_⟩;refine⟨_,rfl,x,C,n,_,_,rfl,j,c,O,rfl,_,rfl,d,I,e,rfl,k,g,λM b=>?_⟩;refine⟨_,rfl,_,rfl,x,C,n,_,_,rfl,b _ _ j,c,J,rfl,e.v,e.vh,e.vp,e.L,e.t,a,m,rfl,(k.tb e g).same b,F e g,r,z,λL y u o G=>q L y (none_of b u) (b.trans o) G⟩
theorem aCw {K:bFP}{H:Hp}{W:En->V->Prop}:∀{es:List En} {ys:List V},ys.length=es.length->(∀(i:Nat) (y:V),ys[i]?=some y->∃e v tp,es[i]?=some e/\y=.ref tp/\SqT K H tp [.str e.n,v]/\W e v) ->
  ∃vs,bY W es vs/\oA K H ys ((es.zip vs).map λe=>(Sum.inr e.1.n,e.2))
 |[],[],_,_=>⟨[],.nil,.nil⟩
 |en::es,y::ys,hl,h=>by
  obtain⟨vs,f,b⟩:=aCw (Nat.succ.inj hl) λi y g=>by obtain⟨e,v,tp,a,r⟩:=h (i+1) y (by simpa using g);exact⟨e,v,tp,by simpa using a,r⟩
  obtain⟨e,v,tp,a,rfl,d,c⟩:=h 0 y rfl;cases a;exact⟨v::vs,.cons c f,.cons ⟨tp,rfl,d⟩ b⟩
theorem aKy {W:En->V->Prop}{es:List En}{vs:List V}(h:bY W es vs):((es.zip vs).map λe=>((Sum.inr e.1.n:Key),e.2)).map (·.1)=es.map λe=>Sum.inr e.n:=by
 induction h with
 |nil=>rfl
 |cons _ _ ih=>exact congrArg _ ih
def aCm {es:List En}(h:(es.map (·.n)).Nodup):(es.map λe=>(Sum.inr e.n:Key)).Nodup:=
 List.pairwise_map.mpr ((List.pairwise_map.mp h).imp λ{a b} c z=>c (Sum.inr.inj z))
theorem aQr (h:bY (λ(e:En) v=>v=e.vh) es vs):((es.zip vs).map λe=>((Sum.inr e.1.n:Key),e.2))=es.map λe=>(Sum.inr e.n,e.vh):=by
 induction h with
 |nil=>rfl
 |cons r _ ih=>rw[List.zip_cons_cons,bAC,bAC,ih,r]
theorem oA.but (h:oA K H ys kvs)(b:But d H H')(n:cW H d):oA K H' ys kvs:=by
 induction h with
 |nil=>exact .nil
 |cons r _ ih=>obtain⟨c,e,a⟩:=r;exact .cons ⟨c,e,b.bB n a⟩ ih
theorem aRk {R:En->Addr->Prop}{es:List En}{vs:List V}(h:bY (λ(e:En) v=>∃L,v=.ref L/\R e L) es vs):∃Ls:List Addr,bY R es Ls/\((es.zip vs).map λe=>((Sum.inr e.1.n:Key),e.2))=(es.zip Ls).map λe=>(Sum.inr e.1.n,.ref e.2):=by
 induction h with
 |nil=>exact⟨[],.nil,rfl⟩
 |cons r _ ih=>obtain⟨L,rfl,r⟩:=r;obtain⟨Ls,b,a⟩:=ih;exact⟨L::Ls,.cons r b,by rw[List.zip_cons_cons,bAC,a];rfl⟩
inductive aAz (K:bFP)(C:Addr)(vs:List V)(H:Hp)(Q:VK)(E_:XK):Prop
 |mk (x d:Addr) (m:Int) (es:List En) (_:vs=[.ref x]) (_:fP K H C x m d es) (_:∀p H',H p=none->Same H H'->H' p=some (.dK (es.map λe=>(Sum.inr e.n,e.vh)))->Q (.ref p) H')
def aRs (T:Txt w K mg){C:Addr}(c:Cls K C)(D:eQ K C "heads" "Town.heads" pI ["self"])(n1:bR K C "placed"):OkM P w K mg base C 2 "heads" ["self"] (aAz K C):=by
 refine OkM.ofV c D aD1 (by trivial) (λf a0 A M s H L Q E hr h=>?_)
 obtain⟨x,d,m,g,rfl,⟨⟨dx,hx⟩,k,ok⟩,q⟩:=h;refine⟨_,(aH (aO (cH (uD rfl) (by rfl) T.aBu wQ (aB (aF6 (dJ (N:=["name","table"]) (by trivial) (gU (by decide +kernel)) rfl (sH (cY (K:=K) (vv 0))) (λcl s' j fp=>⟨(rZ (K:=K) (n:=2) rfl (cD (aX (i:=0) (show (["name","table"]:List Str).Nodup from by decide +kernel) rfl (Or.inl rfl)) (cD (aX (i:=1) (show (["name","table"]:List Str).Nodup from by decide +kernel) rfl (Or.inl rfl)) jK))),eX,(cN (aB (vv 0) (aB (aU (cO (K:=K)) (vv 1) aF (λ_ _=>rfl)) aA)))⟩))) aA)))),?_⟩;dsimp only[tO,tCB,gY];refine⟨d,enK g,k.at_,λnf=>aBo [none,none] oJ ⟨_,rfl,x,C,dx,_,_,rfl,hx,c,n1,rfl,d,_,rfl,k.at_,aAn,nf,λo=>?_⟩⟩;have S:But d H (L2.upd H d (.frz o (.dK (enK g)))):=But.upd;have I:L2.upd H d (.frz o (.dK (enK g))) d=some (.frz o (.dK (enK g))):=aK;have n0:∀b,L2.upd H d (.frz o (.dK (enK g))) b=none->H b=none:=λb h=>by
  by_cases e:b=d
  ·rw[e,aK] at h;cases h
  ·rw[aR e] at h;exact h
 generalize L2.upd H d (.frz o (.dK (enK g)))=B at S I n0 ⊢;refine qX I ⟨none,none,rfl⟩ (by rw[gA];have:=k.few;lia) (λD i j y=>∃e v tp,g[i]?=some e/\y=.ref tp/\SqT K j tp [.str e.n,v]/\v=e.vh) ?_ ?_ (λi kv ek j R D J u hD G r=>?_) λD j J u hD G Z hy=>?_
 ·rintro D i H2 H3 y s2 ⟨e,v,tp,t,rfl,ht,hv⟩;exact⟨e,v,tp,t,rfl,s2.bB ht,hv⟩
 ·rintro D i H2 J zs y G ⟨e,v,tp,t,rfl,ht,hv⟩;exact⟨e,v,tp,t,rfl,SqT.lQ G ht,hv⟩
 ·obtain⟨O,t,rfl⟩:=aHg ek;have hm:=m8 t;obtain⟨a,ev,ha,h1,h2,h3⟩:=(S.same u).tb (cW.dK k.at_) (k.tb O hm);refine⟨_,rfl,_,rfl,a,_,0,_,ev,rfl,ha,at0 _ _,?_⟩;exact⟨by show 2<=sizeLine;decide,λt2 H4 _ s4 g4=>r _ H4 s4 ⟨O,O.vh,t2,t,rfl,SqT.of g4,rfl⟩⟩
 ·rw[gA] at Z;obtain⟨L,Y,a2⟩:=aCw Z hy;have bD:=S.same u;refine⟨⟨o,u _ _ I⟩,?_⟩;have W:cW j d:=cW.fz (u _ _ I);have V:But d j (L2.upd j d (.dK (enK g))):=But.upd;have l:Same H (L2.upd j d (.dK (enK g))):=bD.thaw k.at_;have z:=V.lst W G;have F:oA K (L2.upd j d (.dK (enK g))) J ((g.zip L).map λe=>(Sum.inr e.1.n,e.2)):=oA.but a2 V W;generalize L2.upd j d (.dK (enK g))=H5 at V l z F;have fw:=k.few;refine⟨D,J,_,rfl,z,F,by lia,λp H6 hN s6 X=>?_⟩;have U:(((g.zip L).map λe=>((Sum.inr e.1.n:Key),e.2)).map (·.1)).Nodup:=by rw[aKy Y];exact aCm k.nd
  rw[mU _ [] (by rw[bBU];exact U),bBU] at X;refine q p H6 (none_of l hN) (l.trans s6) ?_;rw[X];exact congrArg _ (congrArg _ (aQr Y))
inductive xJ (K:bFP)(C:Addr)(vs:List V)(H:Hp)(Q:VK)(E_:XK):Prop
 |mk (x d:Addr) (m:Int) (es:List En) (_:vs=[.ref x]) (_:fP K H C x m d es) (_:∀p H' (Ls:List Addr),H p=none->Same H H'->H' p=some (.dK ((es.zip Ls).map λe=>(Sum.inr e.1.n,.ref e.2)))->bY (λ(e:En) L=>H L=none/\bU K H' L e.t.rows) es Ls->p∉Ls->Q (.ref p) H')
def aNg (T:Txt w K mg){C:Addr}(c:Cls K C)(D:eQ K C "tables" "Town.tables" nU ["self"])(n1:bR K C "placed"):OkM P w K mg base C 2 "tables" ["self"] (xJ K C):=by
 refine OkM.ofV c D aBa (by trivial) (λf a6 A a0 s H Y Q E hr h=>?_)
 obtain⟨x,d,m,g,rfl,⟨⟨dx,hx⟩,k,ok⟩,q⟩:=h;refine⟨_,(aH (aO (cH (uD rfl) (by rfl) T.aBu wQ (aB (aF6 (dJ (N:=["name","table"]) (by trivial) (gU (by decide +kernel)) rfl (sH (cY (K:=K) (vv 0))) (λcl s' j fp=>⟨(rZ (K:=K) (n:=2) rfl (cD (aX (i:=0) (show (["name","table"]:List Str).Nodup from by decide +kernel) rfl (Or.inl rfl)) (cD (aX (i:=1) (show (["name","table"]:List Str).Nodup from by decide +kernel) rfl (Or.inl rfl)) jK))),eX,(cN (aB (vv 0) (aB (cH (zB (K:=K)) (by rfl) T.wZ sS (aB (aU (cO (K:=K)) (vv 1) aF (λ_ _=>rfl)) aA)) aA)))⟩))) aA)))),?_⟩;dsimp only[tO,tCB,gY];refine⟨d,enK g,k.at_,λnf=>aBo [none,none] oJ ⟨_,rfl,x,C,dx,_,_,rfl,hx,c,n1,rfl,d,_,rfl,k.at_,aAn,nf,λo=>?_⟩⟩;have b0:But d H (L2.upd H d (.frz o (.dK (enK g)))):=But.upd;have S:L2.upd H d (.frz o (.dK (enK g))) d=some (.frz o (.dK (enK g))):=aK;have n0:∀b,L2.upd H d (.frz o (.dK (enK g))) b=none->H b=none:=λb h=>by
  by_cases e:b=d
  ·rw[e,aK] at h;cases h
  ·rw[aR e] at h;exact h
 generalize L2.upd H d (.frz o (.dK (enK g)))=B at b0 S n0 ⊢;refine qX S ⟨none,none,rfl⟩ (by rw[gA];have:=k.few;lia) (λD i j y=>∃e v tp,g[i]?=some e/\y=.ref tp/\SqT K j tp [.str e.n,v]/\∃L,v=.ref L/\H L=none/\L≠D/\bU K j L e.t.rows) ?_ ?_ (λi kv ek j R D U F hD G r=>?_) λD j U F hD G ly hy=>?_
 ·rintro D i H2 H3 y s2 ⟨e,v,tp,I,rfl,ht,L,rfl,hL,hne,hR⟩;exact⟨e,_,tp,I,rfl,s2.bB ht,L,rfl,hL,hne,hR.same s2⟩
 ·rintro D i H2 U zs y G ⟨e,v,tp,I,rfl,ht,L,rfl,hL,hne,⟨ws,h3,X⟩⟩;exact⟨e,_,tp,I,rfl,SqT.lQ G ht,L,rfl,hL,hne,⟨ws,by rw[aR hne];exact h3,X.imp λ_ _ ⟨p,e,Z⟩=>⟨p,e,SqT.lQ G Z⟩⟩⟩
 ·obtain⟨en,I,rfl⟩:=aHg ek;have hm:=m8 I;obtain⟨a,ev,ha,J,V,⟨us,h3,X⟩⟩:=(b0.same F).tb (cW.dK k.at_) (k.tb en hm);refine⟨_,rfl,_,rfl,a,_,2,_,ev,rfl,ha,at2 _ _ _ _,en.L,us,rfl,.inl (SqL.of h3),λL H3 u s3 g3=>?_⟩;refine⟨by show 2<=sizeLine;decide,λt2 H4 _ s4 g4=>r _ H4 (s3.trans s4) ⟨en,_,t2,I,rfl,SqT.of g4,L,rfl,n0 _ (none_of F u),λz=>?_,⟨us,s4 _ _ g3,X.imp λ_ _ z=>z.same (s3.trans s4)⟩⟩⟩;rw[z,G] at u;cases u
 ·rw[gA] at ly;obtain⟨Y,a1,a2⟩:=aCw ly hy;have bD:=b0.same F;refine⟨⟨o,F _ _ S⟩,?_⟩;have nz:cW j d:=cW.fz (F _ _ S);have W:But d j (L2.upd j d (.dK (enK g))):=But.upd;have l:Same H (L2.upd j d (.dK (enK g))):=bD.thaw k.at_;have M:=W.lst nz G;have O:oA K (L2.upd j d (.dK (enK g))) U ((g.zip Y).map λe=>(Sum.inr e.1.n,e.2)):=oA.but a2 W nz;generalize L2.upd j d (.dK (enK g))=H5 at W l M O;have fw:=k.few;refine⟨D,U,_,rfl,M,O,by lia,λp H6 u s6 g6=>?_⟩;have a5:(((g.zip Y).map λe=>((Sum.inr e.1.n:Key),e.2)).map (·.1)).Nodup:=by rw[aKy a1];exact aCm k.nd
  rw[mU _ [] (by rw[bBU];exact a5),bBU] at g6;obtain⟨Ls,a3,e3⟩:=aRk a1;rw[e3] at g6;have a4:bY (λ(e:En) L=>H L=none/\bU K H5 L e.t.rows) g Ls:=a3.imp λe L ⟨J,_,V⟩=>⟨J,W.rows nz V⟩;refine q p H6 Ls (none_of l u) (l.trans s6) g6 (a4.imp λe L ⟨J,V⟩=>⟨J,V.same s6⟩) λZ=>?_;obtain⟨e,_,_,⟨us,J,_⟩⟩:=gF a4 Z;rw[J] at u;cases u
end
end My
namespace L2
open PySem PySem.Spec PyProof.Rows
abbrev M61:Int:=2305843009213693951
def gC (H:Hp)(a:Addr):Prop:=∃s:Int,H a=some (.lst [.int s])/\True
structure Fx (a:Addr)(H H':Hp):Prop where
 same:∀b o,b≠a->H b=some o->H' b=some o
 st:gC H' a
def Fx.trans (f:Fx a H H1)(g:Fx a H1 H2):Fx a H H2:=⟨λb o n e=>g.same b o n (f.same b o n e),g.st⟩
def gC.same (h:gC H a)(e:Same H H'):gC H' a:=by obtain⟨s,c,b⟩:=h;exact⟨s,e _ _ c,b⟩
def Fx.of (h:gC H a)(e:Same H H'):Fx a H H':=⟨λb o _ q=>e b o q,h.same e⟩
theorem Fx.refl (h:gC H a):Fx a H H:=.of h (Same.refl H)
def Fx.sm (f:Fx a H H1)(e:Same H1 H2):Fx a H H2:=f.trans (.of f.st e)
def gC.ne (h:gC H a)(f:H p=none):p≠a:=by obtain⟨s,b,_⟩:=h;exact (aQ b f).symm
def Fx.bB {K:bFP}{a p:Addr}{H H':Hp}{xs:List V}(f:Fx a H H')(h:gC H a)(e:SqT K H p xs):SqT K H' p xs:=by
 obtain⟨s,b,_⟩:=h;rcases e with (e|⟨o,e⟩)|e
 ·exact .inl (.inl (f.same p _ (aIe e b (by intro z;cases z)) e))
 ·exact .inl (.inr ⟨o,f.same p _ (aIe e b (by intro z;cases z)) e⟩)
 ·exact .inr e
theorem Fx.upd (f:Fx a H H')(g:H D=none)(h:D≠a):Fx a H (L2.upd H' D o):=⟨λb u n e=>by rw[aR (aQ e g)];exact f.same b u n e,by obtain⟨s,d,c⟩:=f.st;exact⟨s,by rw[aR h.symm];exact d,c⟩⟩
theorem Fx.free (f:Fx a H H')(h:H' p=none):H p=none:=by
 cases e:H p with
 |none=>rfl
 |some o=>
  by_cases z:p=a
  ·subst z;obtain⟨s,b,_⟩:=f.st;rw[b] at h;cases h
  ·rw[f.same p o z e] at h;cases h
def aUe (h:gC H a):bCm (Fx a) H:=⟨λD o c=>.of h (bC c o),λa b=>a.trans b,λD o g c f=>f.upd c (h.ne c),λD j i d c _ e f=>f.same _ _ (h.ne c) e⟩
end L2
namespace My
open PySem PySem.Spec PyProof.Rows L2
section
variable {P:Program}{w:World}{K:bFP}{mg:bFS}{base:Heap}
inductive aOr (K:bFP)(vs:List V)(H:Hp)(Q:VK)(E_:XK):Prop
 |mk (a:Addr) (ns:List Int) (_:vs=[.ref a]) (_:SqL K H a (ns.map V.int)) (_:ns.length<=63) (_:∀c H',Same H H'->0<=c->c<M61->Q (.int c) H')
def aHp (T:Txt w K mg):Ok P w K mg base 1 "_law_seed" ["_law_script"] (aOr K):=by
 refine Ok.ofV T.aJ3 jE (by trivial) (λf j A d s H n Q E o h=>?_)
 obtain⟨a,k,rfl,g,l,q⟩:=h;refine⟨_,(aC (bA (i:=1) jE.nd rfl (by trivial) aF) (aC (fQ PassesOwn.never rfl (aXc (by rfl) T.aI4 (aB (vv 0) aA)) (xG rfl (cD (aX (i:=2) jE.nd rfl (by trivial)) (cD (aX (i:=3) jE.nd rfl (by trivial)) jK))) (aH (bA (i:=1) jE.nd rfl (by trivial) (bO oO (bO eE (bO eE (bO eE (bO xY (vv 1) aF) (bO oO (vv 3) (bO aHy aF aF))) (bO xY aF (vv 2))) aF) aF)))) (aH (aO (vv 1))))),?_⟩;refine⟨_,rfl,a,k.map V.int,rfl,g,aSp (λi σ b=>Same H b/\∃c l2 l3,0<=c/\c<M61/\σ=[some (.ref a),some (.int c),l2,l3]) ⟨Same.refl H,7,_,_,by decide,by decide,rfl⟩ (λi σ b _ ⟨e,_⟩=>e.seq g) ?_ ?_⟩
 ·rintro i σ b x Tp H'' ex ⟨sm,c,l2,l3,c0,c1,rfl⟩ hT rfl;obtain⟨z,m,rfl⟩:=aUx ex;refine⟨Tp,_,rfl,SqT.of aK,rfl,_,_,rfl,_,_,rfl,rfl,?_⟩;refine⟨_,rfl,_,_,rfl,rfl,.inr ⟨by decide,by decide⟩,_,rfl,_,_,rfl,rfl,⟨by decide,by decide,by decide⟩,_,_,rfl,rfl,(by show (0:Int)<10 ^ 30;decide),_,_,rfl,rfl,_,rfl,_,_,rfl,rfl,.inl ⟨by decide,by decide⟩,_,_,rfl,rfl,_,_,rfl,rfl,_,_,rfl,rfl,(by show (0:Int)<2305843009213693951;decide),?_⟩;exact⟨sm.trans (bC hT _),_,_,_,bEG _ (by decide),bDN _ (by decide),rfl⟩
 ·rintro σ b ⟨sm,c,l2,l3,c0,c1,rfl⟩;exact⟨_,rfl,q c b sm c0 c1⟩
inductive lO (vs:List V)(H:Hp)(Q:VK)(E_:XK):Prop
 |mk (a:Addr) (m:Int) (_:vs=[.ref a,.int m]) (_:gC H a) (_:(0<m/\m<2 ^ 64)) (_:∀c H',Fx a H H'->0<=c->c<m->Q (.int c) H')
def aGd (T:Txt w K mg):Ok P w K mg base 1 "_law_next" ["_law_state","_law_many"] lO:=by
 refine Ok.ofV T.aIl aGh (by trivial) (λf j A c s H l Q E p h=>?_)
 obtain⟨a,m,rfl,⟨g,e,k⟩,⟨d,i⟩,q⟩:=h;refine⟨_,(aC (aCy (bO oO (bO eE (bO xY (aU fY (vv 0) aF (λ_ _=>rfl)) aF) aF) aF) (aSl (vv 0) aF set_list)) (aH (aO (bO oO (bO aWt (aU fY (vv 0) aF (λ_ _=>rfl)) aF) (vv 1))))),?_⟩;refine⟨_,rfl,a,_,0,_,rfl,rfl,SqL.of e,at0 _ _,_,_,rfl,rfl,.inr ⟨by decide,by decide⟩,_,_,rfl,rfl,_,_,rfl,rfl,(by show (0:Int)<2305843009213693951;decide),?_⟩;refine⟨_,rfl,a,_,0,0,rfl,rfl,e,rfl,?_⟩;refine⟨_,rfl,a,[.int ((g * 1181783497276652981+12345678910987) % 2305843009213693951)],0,_,rfl,rfl,SqL.of aK,at0 _ _,_,_,rfl,rfl,⟨by decide,by decide⟩,_,rfl,_,_,rfl,rfl,d,?_⟩;exact q _ _ ⟨λb o n h=>by rw[aR n];exact h,(g * 1181783497276652981+12345678910987) % 2305843009213693951,aK,trivial⟩ (bEG _ (by lia)) (bDN _ d)
inductive aKo (vs:List V)(H:Hp)(Q:VK)(E_:XK):Prop
 |mk (a:Addr) (_:vs=[.ref a]) (_:gC H a) (_:∀i H',Fx a H H'->Q (.int i) H')
def aD5 (T:Txt w K mg)(o:Ok P w K mg base 1 "_law_next" ["_law_state","_law_many"] lO):Ok P w K mg base 2 "_law_great" ["_law_state"] aKo:=by
 refine Ok.ofV T.aGj jZ (by trivial) (λf t A g s H C Q E k h=>?_)
 obtain⟨a,rfl,z,q⟩:=h;refine⟨_,(aC (bA (i:=1) jZ.nd rfl (by trivial) aF) (aC (fQ PassesOwn.never rfl (gG (by rfl) T.kI (aB aF aA)) (aX (i:=2) jZ.nd rfl (by trivial)) (aH (bA (i:=1) jZ.nd rfl (by trivial) (bO eE (bO xY (vv 1) (bO aHy aF aF)) (aN (o.mono (by decide)) k (by rfl) (aB (vv 0) (aB (bO aHy aF aF) aA))))))) (aH (aO (aU fY (dX (aB (vv 1) (aB (bO aHw aF (vv 1)) aA))) (aN (o.mono (by decide)) k (by rfl) (aB (vv 0) (aB aF aA))) (λ_ _=>rfl)))))),?_⟩;refine⟨_,rfl,by decide,by decide,jU (λi σ e=>Fx a H e/\∃c l2,σ=[some (.ref a),some (.int c),l2]) ⟨.refl z,0,_,rfl⟩ ?_ ?_⟩
 ·rintro i σ e hi ⟨fx,c,l2,rfl⟩;refine⟨_,rfl,_,_,rfl,rfl,⟨by decide,by decide,by decide⟩,_,_,rfl,rfl,.inr ⟨by decide,by decide⟩,_,rfl,_,_,rfl,rfl,⟨by decide,by decide,by decide⟩,a,_,rfl,fx.st,(by decide),λd r u _ _=>?_⟩;exact⟨_,_,rfl,rfl,fx.trans u,_,_,rfl⟩
 ·rintro σ e ⟨fx,c,l2,rfl⟩;refine⟨_,rfl,_,rfl,_,_,rfl,rfl,(by show 2<=sizeLine;decide),λp r x b y=>?_⟩;refine⟨_,rfl,a,2,rfl,fx.st.same b,by decide,λd D j m B=>?_⟩;obtain⟨v,n,l⟩:=at_of (xs:=[.int c,.int (0 - c)]) m (by show d<2;lia);refine⟨p,_,_,v,rfl,rfl,SqL.of (j.same _ _ (fx.st.ne x) y),n,?_⟩;simp only[bAD,w6,or_false] at l;rcases l with rfl|rfl
  ·exact q _ _ ((fx.sm b).trans j)
  ·exact q _ _ ((fx.sm b).trans j)
abbrev aMd:List V:=[.str "",.str "a",.str "b",.str "ab"]
inductive aAq (vs:List V)(H:Hp)(Q:VK)(E_:XK):Prop
 |mk (a:Addr) (kd:Str) (_:vs=[.ref a,.str kd]) (_:gC H a) (_:aP4 kd) (_:∀v H',Fx a H H'->bV kd v->Q v H')
def aMk (h:v∈aMd):bV "word" v:=by
 simp only[aMd,bAD,w6,or_false] at h;have a:∀x:Str,(x.cps.all λc=>decide (97<=c) && decide (c<=122))=true->Lets x:=λx d c b=>by have:=(Array.all_eq_true_iff_forall_mem.mp d) c b;rw[bAQ] at this;exact⟨of_decide_eq_true this.1,of_decide_eq_true this.2⟩
 rcases h with rfl|rfl|rfl|rfl
 ·exact .wrd (a _ (by decide +kernel)) (by decide +kernel)
 ·exact .wrd (a _ (by decide +kernel)) (by decide +kernel)
 ·exact .wrd (a _ (by decide +kernel)) (by decide +kernel)
 ·exact .wrd (a _ (by decide +kernel)) (by decide +kernel)
def aDf (T:Txt w K mg)(B:Ok P w K mg base 1 "_law_next" ["_law_state","_law_many"] lO)(O:Ok P w K mg base 2 "_law_great" ["_law_state"] aKo):Ok P w K mg base 3 "_law_value" ["_law_state","_law_kind"] aAq:=by
 refine Ok.ofV T.aHj gM (by trivial) (λf L A F s H Z Q E m h=>?_)
 obtain⟨a,kd,rfl,R,I,q⟩:=h;refine⟨_,(aC (bA (i:=2) gM.nd rfl (by trivial) (aN (B.mono (by decide)) m (by rfl) (aB (vv 0) (aB aF aA)))) (aC (cA (bQ gO (vv 1) bN (bL _)) (aH (aO (aU fY (dX (aB (bO aHw (aN (B.mono (by decide)) m (by rfl) (aB (vv 0) (aB aF aA))) aF) (aB (aN (O.mono (by decide)) m (by rfl) (aB (vv 0) aA)) aA))) (cH aFg (by rfl) T.aSm aM1 (aB (dB gO (vv 2) aF (bL _)) aA)) (λ_ _=>rfl)))) bF) (aC (cA (bQ aUl (vv 2) aF (bL _)) (aH (aO (aU fY (dX (aB bN (aB bN (aB bN (aB bN aA))))) (bO oO (vv 2) aF) (λ_ _=>rfl)))) bF) (aC (bA (i:=3) gM.nd rfl (by trivial) bN) (aC (fQ PassesOwn.never rfl (gG (by rfl) T.kI (aB (aN (B.mono (by decide)) m (by rfl) (aB (vv 0) (aB aF aA))) aA)) (aX (i:=4) gM.nd rfl (by trivial)) (aH (bA (i:=3) gM.nd rfl (by trivial) (bO pO (vv 3) (rP bN (aN (B.mono (by decide)) m (by rfl) (aB (vv 0) (aB aF aA))) (λ_ _=>rfl)))))) (aH (aO (vv 3)))))))),?_⟩;refine⟨_,rfl,a,10,rfl,R,by decide,λb X k W Y=>?_⟩;rcases I with rfl|rfl
 ·refine⟨_,rfl,rfl,_,rfl,fG ?_⟩;refine⟨_,rfl,a,4,rfl,k.st,by decide,λd N r u y=>?_⟩;refine⟨_,_,rfl,rfl,_,rfl,a,rfl,r.st,λg S C=>?_⟩;refine⟨(by show 2<=sizeLine;decide),λp U _ t o=>?_⟩;have c:=(k.trans (r.trans C)).sm t;refine⟨_,rfl,rfl,.inr ⟨_,rfl,?_⟩⟩;by_cases e:b=9
  ·rw[m9 (congrArg V.int e)];exact⟨p,_,_,_,rfl,rfl,SqL.of o,dI (j:=1) rfl,q _ _ c .num⟩
  ·rw[v9 (by intro z;exact e (V.int.inj z))];exact⟨p,_,_,_,rfl,rfl,SqL.of o,dI (j:=0) rfl,q _ _ c .num⟩
 ·refine⟨_,rfl,rfl,_,rfl,cC ?_⟩;refine⟨_,rfl,_,_,rfl,rfl,_,rfl,aMh (λ_=>?_) (λ_=>?_)⟩
  ·refine⟨(by show 4<=sizeLine;decide),λp U _ t o=>?_⟩;obtain⟨v,J,M⟩:=at_of (xs:=aMd) (j:=b % 4) (by lia) (by show b % 4<4;lia);exact⟨_,rfl,_,_,rfl,rfl,(by show (0:Int)<4;decide),p,_,_,v,rfl,rfl,SqL.of o,J,q _ _ (k.sm t) (aMk M)⟩
  ·refine⟨_,rfl,a,9,rfl,k.st,by decide,λn N r n0 n1=>?_⟩;refine⟨_,rfl,by lia,by lia,jU (n:=n.toNat) (λi σ D=>Fx a H D/\∃(x:Str) (l4:Option V),σ=[some (.ref a),some (.str "word"),some (.int b),some (.str x),l4]/\x.length<=i/\Lets x) ⟨k.trans r,_,_,rfl,by decide +kernel,λd hd=>by simp[show (("":Str).cps)=#[] from rfl] at hd⟩ ?_ ?_⟩
   ·rintro i σ D hi ⟨c,x,l4,rfl,hl,hx⟩;have G:abc.length=26:=by decide +kernel
    refine⟨_,rfl,_,rfl,a,26,rfl,c.st,by decide,λd S C u y=>?_⟩;obtain⟨ch,l⟩:=aOd (z:=abc) u (by rw[G];exact y);refine⟨_,_,_,rfl,rfl,u,(by lia),(by rw[G];exact y),l,_,_,rfl,rfl,?_,c.trans C,_,_,rfl,?_,hx.add (aIx.one l)⟩
    ·show x.length+1<=sizeLine;exact small (by lia)
    ·rw[aG9];show x.length+1<=i+1;lia
   ·rintro σ D ⟨c,x,l4,rfl,hl,hx⟩;exact⟨_,rfl,q _ _ c (.wrd hx (by lia))⟩
def aEe:Sp:=λvs H Q _=>vs=[]/\∀p H',H p=none->Same H H'->H' p=some (.lst words)->Q (.ref p) H'
def aDo (T:Txt w K mg):Ok P w K mg base 1 "_law_words" [] aEe:=by
 refine Ok.ofV T.aGs tQ (by trivial) (λf k A b s H u Q E v h=>?_)
 obtain⟨rfl,q⟩:=h;refine⟨_,(aC (bA (i:=0) tQ.nd rfl (by trivial) (dX (aB bN (aB bN (aB bN (aB bN (aB bN (aB bN (aB bN (aB bN (aB bN aA))))))))))) (aH (aO (bO aC7 (vv 0) (dX (aB bN (aB bN (aB bN (aB bN (aB bN (aB bN (aB bN (aB bN aA))))))))))))),?_⟩;refine⟨(by decide),λg t _ c e=>?_⟩;refine⟨_,rfl,(by decide),λo r _ a d=>?_⟩;exact⟨g,o,_,_,rfl,rfl,a _ _ e,d,(by decide),λp m n j l=>q p m ((c.trans a).free n) (c.trans (a.trans j)) l⟩
def wB (ns:List Str):Prop:=ns.length=17/\(∀n∈ns,Nm n)/\ns.Nodup
def wB.rev (h:wB ns):wB ns.reverse:=⟨by rw[List.length_reverse];exact h.1,λn a=>h.2.1 n (List.mem_reverse.mp a),List.pairwise_reverse.mpr (h.2.2.imp λq=>Ne.symm q)⟩
def aZn:∀j:_root_.Fin 26,abc.cps[j.val]?=some (97+j.val):=by decide +kernel
def aW4 (h:j<26):abc.cps[j]?=some (97+j):=aZn ⟨j,h⟩
def sgl (o:Nat):List Str:=(List.range 17).map λk=>⟨#[97+(o+k)]⟩
def aOf:∀o:_root_.Fin 10,((sgl o.val).all λn=>nameB (.str n))=true/\(Txt.slice abc (some (o.val:Int)) (some ((o.val:Int)+17))).cps.size=17/\((List.range 17).all λi=>decide (sgn (Txt.slice abc (some (o.val:Int)) (some ((o.val:Int)+17))) i=⟨#[97+(o.val+i)]⟩))=true:=by decide +kernel
def aSu (h:(⟨#[a]⟩:Str)=⟨#[b]⟩):a=b:=by have:=congrArg (λx:Str=>x.cps.toList) h;simpa using this
def aUf (h:o<10):wB (sgl o):=by
 refine⟨by simp[sgl],λn a=>?_,?_⟩
 ·have:=(aOf ⟨o,h⟩).1;rw[bCC] at this;exact this n a
 ·refine List.pairwise_map.mpr (bED ?_ List.nodup_range);intro k l _ _ b e;have:=aSu e;exact b (by lia)
def aXm {o:Nat}(h:o<10):((List.range (Txt.slice abc (some (o:Int)) (some ((o:Int)+17))).cps.size).map λi=>V.str (sgn (Txt.slice abc (some (o:Int)) (some ((o:Int)+17))) i))=(sgl o).map V.str:=by obtain⟨_,a,b⟩:=aOf ⟨o,h⟩;have a:=a;rw[a];unfold sgl;rw[bBJ];refine List.map_congr_left λi c=>?_;rw[bCC] at b;have:=of_decide_eq_true (b i c);exact congrArg V.str this
def stm (b:Str)(a o:Nat):Nat->List Str:=λi=>(List.range i).map λk=>put b a (97+(o+k))
def bAc (x:Lets b)(hl:b.length<=7)(j:a<=b.length)(ho:o<10)(y:∀w∈words,inV w ((stm b a o 17).map V.str)=false):wB (stm b a o 17):=by
 refine⟨by simp[stm],λn h=>?_,?_⟩
 ·obtain⟨k,i,rfl⟩:=List.mem_map.mp h;have i:=List.mem_range.mp i;have f:inV (.str (put b a (97+(o+k)))) words=false:=by
   cases e:inV (.str (put b a (97+(o+k)))) words with
   |false=>rfl
   |true=>
    exfalso;unfold inV at e;rw[bEB] at e;obtain⟨v,d,u⟩:=e;have g:∃z:Str,v=.str z:=by simp only[words,bAD,w6,or_false] at d;rcases d with rfl|rfl|rfl|rfl|rfl|rfl|rfl|rfl|rfl|rfl|rfl|rfl|rfl|rfl|rfl|rfl|rfl <;> exact⟨_,rfl⟩
    obtain⟨z,rfl⟩:=g;have s:(z == put b a (97+(o+k)))=true:=u;have q:z=put b a (97+(o+k)):=by simpa using s
    have:=y _ d;rw[aO9,decide_eq_false_iff_not] at this;exact this (by rw[q];exact h)
  show ((decide (1<=(put b a (97+(o+k))).length) && (decide ((put b a (97+(o+k))).length<=8) && allIn (put b a (97+(o+k))))) && !inV (.str (put b a (97+(o+k)))) words)=true;have m:Lets (put b a (97+(o+k))):=λc t=>by
   rcases aXj j t with rfl|z
   ·lia
   ·exact x c z
  rw[aXv j,m9 (p:=1<=b.length+1) (by lia),m9 (p:=b.length+1<=8) (by lia),allIn_of m,f];rfl
 ·refine List.pairwise_map.mpr (bED ?_ List.nodup_range);intro k l _ _ r e;have:=aW7 j e;exact r (by lia)
inductive aTu (vs:List V)(H:Hp)(Q:VK)(E_:XK):Prop
 |mk (a:Addr) (_:vs=[.ref a,.int 17]) (_:gC H a) (_:∀p H' ns,Fx a H H'->H p=none->H' p=some (.lst (ns.map V.str))->wB ns->Q (.ref p) H')
def aDa (T:Txt w K mg)(M:Ok P w K mg base 1 "_law_next" ["_law_state","_law_many"] lO)(a7:Ok P w K mg base 1 "_law_words" [] aEe):Ok P w K mg base 2 "_law_names" ["_law_state","_law_many"] aTu:=by
 refine Ok.ofV T.aHi cP (by trivial) (λf a8 A a4 s H vs Q E G h=>?_)
 obtain⟨a,rfl,hs,q⟩:=h;refine⟨_,(aC (bA (i:=2) cP.nd rfl (by trivial) bN) (aC (bA (i:=3) cP.nd rfl (by trivial) (aN (M.mono (by decide)) G (by rfl) (aB (vv 0) (aB (bO aHw aF (vv 1)) aA)))) (aC (bA (i:=4) cP.nd rfl (by trivial) bN) (aC (fQ PassesOwn.never rfl (gG (by rfl) T.kI (aB (aN (M.mono (by decide)) G (by rfl) (aB (vv 0) (aB aF aA))) aA)) (aX (i:=5) cP.nd rfl (by trivial)) (aH (bA (i:=4) cP.nd rfl (by trivial) (bO pO (vv 4) (rP (vv 2) (aN (M.mono (by decide)) G (by rfl) (aB (vv 0) (aB aF aA))) (λ_ _=>rfl)))))) (aC (bA (i:=6) cP.nd rfl (by trivial) (aN (M.mono (by decide)) G (by rfl) (aB (vv 0) (aB (bO eE (aP wX (by rfl) T.fK dF (aB (vv 4) aA)) aF) aA)))) (aC (bA (i:=7) cP.nd rfl (by trivial) (dX aA)) (aC (fQ PassesOwn.never rfl (gG (by rfl) T.kI (aB (vv 1) aA)) (aX (i:=5) cP.nd rfl (by trivial)) (aH (cI (rE PySem.F.plainAttrs_list PySem.F.slot_list_append PySem.F.type_list_append iG (vv 7) (aB (bO pO (bO pO (eO aG3 (vv 4) gZ (fJ (vv 6))) (rP (vv 2) (bO eE (vv 3) (vv 5)) (λ_ _=>rfl))) (eO aG3 (vv 4) (fJ (vv 6)) gZ)) aA))))) (aC (cA (cL (aP (aT2 rfl) (by rfl) T.bB4 bBx (aB (dJ (N:=["_law_word","_law_names_here"]) (by trivial) (lJ (aJ oR) rfl (by decide +kernel)) rfl (jB (bAb (a7.mono (by decide)) G (by rfl))) (λcl s' u fp=>⟨(aX (i:=0) (show (["_law_word","_law_names_here"]:List Str).Nodup from by decide +kernel) rfl (Or.inl rfl)),eX,(dB (aL3 (K:=K)) (vv 0) (vv 1) (by with_unfolding_all rfl))⟩)) aA))) (aH (bA (i:=7) cP.nd rfl (by trivial) (cH (aMt rfl) (by rfl) T.wZ sS (aB (eO aG3 (vv 2) (fJ (vv 3)) (fJ (bO eE (vv 3) (vv 1)))) aA)))) bF) (aC (cA (bQ gO (aN (M.mono (by decide)) G (by rfl) (aB (vv 0) (aB aF aA))) aF (bL _)) (aH (cI (aL4 PySem.F.plainAttrs_list PySem.F.slot_list_reverse PySem.F.type_list_reverse aH8 (vv 7)))) bF) (aH (aO (vv 7)))))))))))),?_⟩;have L:abc.length=26:=by decide +kernel
 refine⟨_,rfl,_,rfl,_,_,rfl,rfl,a,10,rfl,hs,by decide,λod H1 f1 o0 o1=>?_⟩;obtain⟨o,rfl⟩:∃o:Nat,od=o:=⟨od.toNat,by lia⟩;have ho:o<10:=by lia
 refine⟨_,rfl,a,8,rfl,f1.st,by decide,λn H2 f2 n0 n1=>?_⟩;refine⟨_,rfl,by lia,by lia,jU (n:=n.toNat) (λi σ u=>Fx a H u/\∃(x:Str) (l5:Option V),σ=[some (.ref a),some (.int 17),some (.str abc),some (.int (o:Nat)),some (.str x),l5,none,none]/\x.length<=i/\Lets x) ⟨f1.trans f2,_,_,rfl,by decide +kernel,λd hd=>by simp[show (("":Str).cps)=#[] from rfl] at hd⟩ ?_ ?_⟩
 ·rintro i σ u Y ⟨fx,x,l5,rfl,hl,hx⟩;refine⟨_,rfl,_,rfl,_,rfl,a,26,rfl,fx.st,by decide,λd H3 f3 U X=>?_⟩;obtain⟨ch,t⟩:=aOd (z:=abc) U (by rw[L];exact X);refine⟨_,_,_,rfl,rfl,U,(by lia),(by rw[L];exact X),t,_,_,rfl,rfl,?_,fx.trans f3,_,_,rfl,?_,hx.add (aIx.one t)⟩
  ·show x.length+1<=sizeLine;exact small (by lia)
  ·rw[aG9];show x.length+1<=i+1;lia
 rintro σ H3 ⟨f3,b,l5,rfl,hl,hb⟩;have a2:b.length<=7:=by lia
 refine⟨_,rfl,_,rfl,_,rfl,small (by lia),_,_,rfl,rfl,a,_,rfl,f3.st,(by show (0:Int)<(b.length:Int)+1/\(b.length:Int)+1<2 ^ 64;lia),λai H4 f4 a0 a1=>?_⟩;obtain⟨g,rfl⟩:∃g:Nat,ai=g:=⟨ai.toNat,by lia⟩;have ha:g<=b.length:=by have:(g:Int)<(b.length:Int)+1:=a1;lia
 have I:=f3.trans f4;refine⟨(by show 0<=sizeLine;decide),λp H5 fp s5 g5=>?_⟩;have k:H p=none:=I.free fp;have C:p≠a:=hs.ne k;refine⟨_,rfl,_,rfl,by decide,by decide,jU (n:=17) (λi σ u=>Fx a H u/\u p=some (.lst ((stm b g o i).map V.str))/\∃l5,σ=[some (.ref a),some (.int 17),some (.str abc),some (.int (o:Nat)),some (.str b),l5,some (.int (g:Nat)),some (.ref p)]) ⟨I.sm s5,g5,_,rfl⟩ ?_ ?_⟩
 ·rintro i σ u Y ⟨fx,gp,l5,rfl⟩;have s1:=Txt.slice_le b none (some ((g:Nat):Int));have s2:=Txt.slice_le b (some ((g:Nat):Int)) none;have ej:((o:Int)+(0+(i:Int))).toNat=o+i:=by lia
  have t:abc.cps[((o:Int)+(0+(i:Int))).toNat]?=some (97+(o+i)):=by rw[ej];exact aW4 (by lia)
  refine⟨_,rfl,.inl ⟨rfl,_,SqL.of gp⟩,_,rfl,_,rfl,_,rfl,_,rfl,small (by lia),_,rfl,_,rfl,_,rfl,_,_,rfl,rfl,_,_,_,rfl,rfl,(by show 0<=(o:Int)+(0+(i:Int));lia),(by show (o:Int)+(0+(i:Int))<2 ^ 63;lia),(by rw[L];show (o:Int)+(0+(i:Int))<26;lia),t,_,_,rfl,rfl,?_,_,rfl,_,rfl,_,rfl,_,rfl,small (by lia),_,_,rfl,rfl,?_,?_⟩
  ·show (Txt.slice b none (some ((g:Nat):Int))).length+1<=sizeLine;exact small (by lia)
  ·rw[aG9];show (Txt.slice b none (some ((g:Nat):Int))).length+1+_<=sizeLine;exact small (by lia)
  refine⟨p,_,_,rfl,rfl,gp,?_,fx.upd k C,?_,_,rfl⟩
  ·rw[j4];exact iK (by simp[stm];lia)
  ·rw[aK];unfold stm;rw[List.range_succ,bAT,bAT];rfl
 rintro σ H6 ⟨f6,g6,l5',rfl⟩;dsimp only[aHe,aMv,tB,tCB,gY];refine aQq (λZ=>Z=words) (λi _ y=>∃m,words[i]?=some m/\y=.bl (inV m ((stm b g o 17).map V.str))) (λ_ h=>h) (λ_ h=>h) [none,some (.ref p)] ?_ rfl (λR r=>⟨rfl,λW H7 _ S g7=>r W H7 _ S g7 rfl⟩) (λZ e=>by subst e;exact small (by decide)) (λZ e i x ex u R l sm r=>?_) λZ e D H7 ys S g7 a9 hR=>?_
 ·exact sE 7 (by decide +kernel) rfl rfl (by trivial)
 ·subst e;have fl:jN x=true:=by have:=aC6;rw[bCC] at this;exact this x (m8 ex)
  exact⟨_,rfl,_,rfl,p,_,rfl,.inl (SqL.of (sm _ _ g6)),fl,aJg,r _ _ (Same.refl _) ⟨x,ex,rfl⟩⟩
 subst e;have ey:ys=(words.map λm=>inV m ((stm b g o 17).map V.str)).map V.bl:=by
  rw[bBJ];refine bCT λi=>?_;by_cases Y:i<ys.length
  ·obtain⟨m,h1,h2⟩:=hR i ys[i] (b8 Y);rw[b8 Y,t7,h1,h2];rfl
  ·rw[bAF (by lia),bAF (by rw[j4];lia)]
 rw[ey] at g7;refine⟨D,_,rfl,SqL.of g7,_,rfl,?_⟩;have J:=f6.sm S;refine aMh (λc=>?_) (λc=>?_)
 ·refine⟨_,rfl,_,rfl,_,rfl,_,rfl,_,rfl,_,_,rfl,rfl,_,rfl,abc,rfl,small (by rw[L];decide),?_⟩;refine⟨_,rfl,?_,λO H8 a3 s8 g8=>?_⟩
  ·have:=Txt.slice_le abc (some (o:Int)) (some ((o:Int)+17));rw[L] at this;exact bAK this (by decide)
  have a5:H8 O=some (.lst ((sgl o).map V.str)):=by rw[g8];exact congrArg (λz=>some (HO.lst z)) (aXm ho)
  have f8:=J.sm s8;have j:=J.free a3;refine⟨_,rfl,a,2,rfl,f8.st,by decide,λd H9 B U X=>?_⟩;have v:=B.same _ _ (hs.ne j) a5;refine⟨rfl,_,rfl,aMh (λ_=>?_) (λ_=>?_)⟩
  ·refine⟨_,rfl,.inl ⟨rfl,_,SqL.of v⟩,O,_,rfl,rfl,v,?_⟩;refine⟨_,rfl,q O _ (sgl o).reverse ((f8.trans B).upd j (hs.ne j)) j ?_ (aUf ho).rev⟩;rw[aK,List.map_reverse]
  ·exact⟨_,rfl,q O _ (sgl o) (f8.trans B) j v (aUf ho)⟩
 ·have hw:∀m∈words,inV m ((stm b g o 17).map V.str)=false:=λm a6=>by
   cases e:inV m ((stm b g o 17).map V.str) with
   |false=>rfl
   |true=>exfalso;apply c;rw[bEB];exact⟨true,List.mem_map.mpr ⟨m,a6,e⟩,rfl⟩
  have hn:=bAc hb a2 ha ho hw;refine⟨_,rfl,a,2,rfl,J.st,by decide,λd H9 B U X=>?_⟩;have v:=B.same _ _ C (S _ _ g6);refine⟨rfl,_,rfl,aMh (λ_=>?_) (λ_=>?_)⟩
  ·refine⟨_,rfl,.inl ⟨rfl,_,SqL.of v⟩,p,_,rfl,rfl,v,?_⟩;refine⟨_,rfl,q p _ (stm b g o 17).reverse ((J.trans B).upd k C) k ?_ hn.rev⟩;rw[aK,List.map_reverse]
  ·exact⟨_,rfl,q p _ (stm b g o 17) (J.trans B) k v hn⟩
inductive aKg (K:bFP)(vs:List V)(H:Hp)(Q:VK)(E_:XK):Prop
 |mk (a N:Addr) (ns:List Str) (_:vs=[.ref a,.ref N]) (_:gC H a) (_:H N=some (.lst (ns.map V.str))) (_:N≠a) (_:wB ns) (_:∀v H' hd,Fx a H H'->lV K H' v hd->aNq hd->hd.length<=7->Q v H')
def bBl {α:Type}{l:List α}(h:l.Nodup){i j:Nat}{x:α}(g:l[i]?=some x)(f:l[j]?=some x):i=j:=by
 have b:=List.pairwise_iff_getElem.mp h;obtain⟨d,e⟩:=List.getElem?_eq_some_iff.mp g;obtain⟨c,a⟩:=List.getElem?_eq_some_iff.mp f;rcases bEW i j with q|q|q
 ·exact absurd (e.trans a.symm) (b i j d c q)
 ·exact q
 ·exact absurd (a.trans e.symm) (b j i c d q)
def bCa {α:Type}{l:List α}(h:∀(i j:Nat) (x:α),l[i]?=some x->l[j]?=some x->i=j):l.Nodup:=by refine List.pairwise_iff_getElem.mpr λi j a b c e=>?_;have:=h i j l[i] (b8 a) (by rw[b8 b,e]);lia
def aVl {p:List Str}(m:wB p){o:Nat}{hd:Hdr}(hl:hd.length<=8)(h:∀(j:Nat) (c:Str × Str),hd[j]?=some c->p[3+(o+j) % 8]?=some c.1):(hd.map (·.1)).Nodup:=by
 refine bCa λi j x l f=>?_;have g:∀k,(hd.map (·.1))[k]?=some x->k<hd.length/\p[3+(o+k) % 8]?=some x:=λk a=>by
  rw[t7] at a;cases e:hd[k]? with
  |none=>rw[e] at a;cases a
  |some c=>rw[e] at a;cases a;exact⟨(List.getElem?_eq_some_iff.mp e).1,h k c e⟩
 obtain⟨q,d⟩:=g i l;obtain⟨n,b⟩:=g j f;have:=bBl m.2.2 d b;lia
def aG8 (T:Txt w K mg)(M:Ok P w K mg base 1 "_law_next" ["_law_state","_law_many"] lO):Ok P w K mg base 2 "_law_head" ["_law_state","_law_names_here"] (aKg K):=by
 refine Ok.ofV T.aIa iY (by trivial) (λf a7 A U s H vs Q E B h=>?_)
 obtain⟨a,N,D,rfl,hs,hN,nN,L,q⟩:=h;refine⟨_,(aC (bA (i:=2) iY.nd rfl (by trivial) (aN (M.mono (by decide)) B (by rfl) (aB (vv 0) (aB aF aA)))) (aC (bA (i:=3) iY.nd rfl (by trivial) (dX aA)) (aC (fQ PassesOwn.never rfl (gG (by rfl) T.kI (aB (bO eE aF (bO xY (aN (M.mono (by decide)) B (by rfl) (aB (vv 0) (aB aF aA))) (bO eE aF (cH aFg (by rfl) T.aSm aM1 (aB (dB gO (aN (M.mono (by decide)) B (by rfl) (aB (vv 0) (aB aF aA))) aF (bL _)) aA))))) aA)) (aX (i:=4) iY.nd rfl (by trivial)) (aC (bA (i:=5) iY.nd rfl (by trivial) (aU fY (dX (aB bN (aB bN (aB bN aA)))) (aN (M.mono (by decide)) B (by rfl) (aB (vv 0) (aB aF aA))) (λ_ _=>rfl))) (aH (cI (rE PySem.F.plainAttrs_list PySem.F.slot_list_append PySem.F.type_list_append iG (vv 3) (aB (cN (aB (aU fY (vv 1) (bO eE aF (bO oO (bO eE (vv 2) (vv 4)) aF)) (λ_ _=>rfl)) (aB (vv 5) aA))) aA)))))) (aH (aO (cH nF (by rfl) T.iU fU (aB (vv 3) aA))))))),?_⟩;have a8:=L.1;refine⟨_,rfl,a,8,rfl,hs,by decide,λy H1 f1 a6 a5=>?_⟩;obtain⟨g,rfl⟩:∃g:Nat,y=g:=⟨y.toNat,by lia⟩;refine⟨(by show 0<=sizeLine;decide),λp H2 fp s2 g2=>?_⟩;have f2:=f1.sm s2;have x:H p=none:=f1.free fp;have k:p≠a:=hs.ne x;refine⟨_,rfl,a,4,rfl,f2.st,by decide,λm H3 f3 m0 m1=>?_⟩;refine⟨_,rfl,a,8,rfl,f3.st,by decide,λe H4 f4 e0 e1=>?_⟩;have X:=f2.trans (f3.trans f4);have g4:=f4.same _ _ k (f3.same _ _ k g2);refine⟨rfl,.inr ⟨_,rfl,?_⟩⟩;have Y:∃z:Nat,1+m * (1+(if decide (V.int e=V.int 0) then 1 else 0))=(z:Int)/\1<=z/\z<=7:=by
  cases decide (V.int e=V.int 0)
  ·exact⟨(1+m).toNat,by simp;lia,by lia,by lia⟩
  ·exact⟨(1+m * 2).toNat,by simp;lia,by lia,by lia⟩
 obtain⟨z,ez,z1,z7⟩:=Y;refine⟨_,_,rfl,rfl,_,_,rfl,rfl,.inl ⟨by lia,by lia⟩,_,_,rfl,rfl,?_⟩;refine⟨(z:Int),?_,by lia,by lia,?_⟩
 ·show [V.int (1+m * (1+(if decide (V.int e=V.int 0) then 1 else 0)))]=_;rw[ez]
 rw[bAR];refine jU (n:=z) (λi σ v=>Fx a H v/\∃(us:List V) (hd:Hdr) (l4 l5:Option V),v p=some (.lst us)/\hd.length=i/\bY (IsC K v) us hd/\(∀(j:Nat) (c:Str × Str),hd[j]?=some c->D[3+(g+j) % 8]?=some c.1/\aP4 c.2)/\σ=[some (.ref a),some (.ref N),some (.int (g:Nat)),some (.ref p),l4,l5]) ⟨X,[],[],_,_,g4,rfl,.nil,λj c h=>by simp at h,rfl⟩ ?_ ?_
 ·rintro i σ v hi ⟨fx,us,hd,l4,l5,gp,hl,hu,hc,rfl⟩;have lu:=hu.len;refine⟨(by show 3<=sizeLine;decide),λp1 H5 W l R=>?_⟩;refine⟨_,rfl,a,3,rfl,fx.st.same l,by decide,λd H6 C d0 d1=>?_⟩;obtain⟨kv,a1,o⟩:=at_of (xs:=[.str "number",.str "number",.str "word"]) d0 (by show d<3;lia);obtain⟨I,rfl,S⟩:∃I:Str,kv=.str I/\aP4 I:=by
   simp only[bAD,w6,or_false] at o;rcases o with rfl|rfl|rfl
   ·exact⟨_,rfl,.inl rfl⟩
   ·exact⟨_,rfl,.inl rfl⟩
   ·exact⟨_,rfl,.inr rfl⟩
  have u:=(fx.sm l).trans C;refine⟨p1,_,_,_,rfl,rfl,SqL.of (C.same _ _ (fx.st.ne W) R),a1,?_⟩;have b:=C.same _ _ k (l _ _ gp);have J:=u.same _ _ nN hN;have a2:bY (IsC K H6) us hd:=hu.imp λ_ _ ⟨Z,ep,O⟩=>⟨Z,ep,C.bB (fx.st.same l) (l.bB O)⟩;have r:3+(g+i) % 8<D.length:=by lia
  refine⟨_,rfl,.inl ⟨rfl,_,SqL.of b⟩,?_⟩;refine⟨_,rfl,_,rfl,_,rfl,_,_,rfl,rfl,_,_,rfl,rfl,(by show (0:Int)<8;decide),_,_,rfl,rfl,N,_,_,.str D[3+(g+i) % 8],rfl,rfl,SqL.of J,?_,_,rfl,(by show 2<=sizeLine;decide),λt H7 ft G g7=>?_⟩
  ·have e8:(3:Int)+((g:Int)+(0+(i:Int))) % 8=((3+(g+i) % 8:Nat):Int):=by lia
   rw[e8];exact dI (by rw[t7,b8 r];rfl)
  refine⟨p,_,_,rfl,rfl,G _ _ b,iK (by lia),?_⟩;have a0:=(aQ b ft).symm;refine⟨(u.sm G).upd x k,us++[.ref t],hd++[(D[3+(g+i) % 8],I)],_,_,aK,by rw[bAA,hl];rfl,?_,λj c h=>?_,rfl⟩
  ·refine (a2.imp λ_ _ ⟨Z,ep,O⟩=>⟨Z,ep,(G.bB O).lQ (G _ _ b)⟩).app (.cons ⟨t,rfl,SqT.of (by rw[aR a0];exact g7)⟩ .nil)
  ·by_cases hj:j<hd.length
   ·rw[bBF hj] at h;exact hc j c h
   ·rw[bBC (by lia)] at h;have a4:j - hd.length=0:=by
     by_cases z0:j - hd.length=0
     ·exact z0
     ·rw[bAF (by simp;lia)] at h;cases h
    rw[a4] at h;cases h;have:j=i:=by lia
    subst this;exact⟨b8 r,S⟩
 ·rintro σ v ⟨fx,us,hd,l4,l5,gp,hl,hu,hc,rfl⟩;refine⟨_,rfl,p,us,rfl,SqL.of gp,λt H5 _ l R=>q _ _ hd (fx.sm l) ⟨t,us,rfl,SqT.of R,hu.imp λ_ _ h=>h.same l⟩ ⟨⟨aVl L (by lia) λj c h=>(hc j c h).1,by lia,by lia⟩,λc a3=>?_⟩ (by lia)⟩;obtain⟨j,hj,e⟩:=bBE a3;have h2:=hc j c (by rw[b8 hj,e]);exact⟨L.2.1 _ (m8 h2.1),h2.2⟩
def TK (K:bFP)(H H':Hp):Prop:=∀p xs,SqT K H p xs->SqT K H' p xs
def _root_.L2.Fx.tk (f:Fx a H H')(h:gC H a):TK K H H':=λ_ _ e=>f.bB h e
def TK.of (s:Same H H'):TK K H H':=λ_ _ e=>s.bB e
def IsC.tk (e:TK K H H')(h:IsC K H v c):IsC K H' v c:=by obtain⟨p,rfl,a⟩:=h;exact⟨p,rfl,e _ _ a⟩
def aO5 {α:Type}{K:bFP}{H H':Hp}{R S:V->α->Prop}{v:V}{xs:List α}(e:TK K H H')(k:∀a b,R a b->S a b)(h:rK K H R v xs):rK K H' S v xs:=by obtain⟨a,c,rfl,d,f⟩:=h;exact⟨a,c,rfl,e _ _ d,f.imp k⟩
theorem lV.tk (e:TK K H H')(h:lV K H v hd):lV K H' v hd:=aO5 e (λ_ _ q=>q.tk e) h
theorem aTp (a:(hd.map (·.1)).Nodup)(h:c∈hd):look hd c.1=some c.2:=by
 induction hd with
 |nil=>cases h
 |cons x r ih=>
  rw[bAC,bDP] at a;unfold look;rw[bBZ];rcases List.mem_cons.mp h with rfl|h
  ·rw[m9 rfl];rfl
  ·have b:¬ x.1=c.1:=λz=>a.1 (by rw[z];exact List.mem_map.mpr ⟨c,h,rfl⟩);rw[v9 b];exact ih a.2 h
theorem uW {α β:Type}{R:α->β->Prop}:∀{as:List α} {bs:List β},as.length=bs.length->(∀(i:Nat) (a:α) (b:β),as[i]?=some a->bs[i]?=some b->R a b)->bY R as bs
 |[],[],_,_=>.nil
 |[],_::_,h,_=>by cases h
 |_::_,[],h,_=>by cases h
 |a::as,b::bs,h,k=>.cons (k 0 a b rfl rfl) (uW (by simpa using h) λi x y d c=>k (i+1) x y (by simpa using d) (by simpa using c))
theorem wJ {α:Type}:∀(k:Nat) (xs:List α),sel (λ_=>true) k xs=xs
 |_,[]=>rfl
 |k,x::r=>by show (if true=true then x::sel (λ_=>true) (k+1) r else _)=_;rw[if_pos rfl,wJ (k+1) r]
def uL (h:tL R (List.range n) ys):ys.length=n/\∀i y,ys[i]?=some y->R i y:=by
 have d:∀{c:List Nat} {ys:List V},tL R c ys->∀(i:Nat) (y:V),ys[i]?=some y->∃j,c[i]?=some j/\R j y:=by
  intro c ys h
  induction h with
  |nil=>intro i y e;simp at e
  |cons r _ ih=>
   intro i y e;cases i with
   |zero=>cases e;exact⟨_,rfl,r⟩
   |succ i=>obtain⟨j,a,b⟩:=ih i y (by simpa using e);exact⟨j,by simpa using a,b⟩
 have l:=h.len;rw[bAJ] at l;refine⟨l.symm,λi y e=>?_⟩;obtain⟨j,a,b⟩:=d h i y e;have f:i<n:=by have:=(List.getElem?_eq_some_iff.mp e).1;lia
 rw[bCJ f] at a;cases a;exact b
theorem aYu (h:KdR ks r):∀x∈r,(∃i,x=.int i)\/∃z,x=.str z:=by
 unfold KdR at h
 induction h with
 |nil=>intro x hx;cases hx
 |@cons b y _ _ h _ ih=>
  intro x hx;rcases List.mem_cons.mp hx with rfl|hx
  ·cases b with
   |true=>exact .inl h
   |false=>exact .inr h
  ·exact ih x hx
inductive aG6 (K:bFP)(vs:List V)(H:Hp)(Q:VK)(E_:XK):Prop
 |mk (a:Addr) (vh:V) (hd:Hdr) (_:vs=[.ref a,vh]) (_:gC H a) (_:lV K H vh hd) (_:aNq hd) (_:∀t H' r,Fx a H H'->H' t=some (.tup r)->pX hd r->Q (.ref t) H')
def aJf (T:Txt w K mg)(jA:Ok P w K mg base 3 "_law_value" ["_law_state","_law_kind"] aAq):Ok P w K mg base 4 "_law_row" ["_law_state","_law_head_here"] (aG6 K):=by
 refine Ok.ofV T.aMq aJn (by trivial) (λf V A I s H vs Q E X h=>?_)
 obtain⟨a,vh,hd,rfl,o,⟨b,us,rfl,p,L⟩,⟨B,G⟩,q⟩:=h;refine⟨_,(aH (aO (cH nF (by rfl) T.iU fU (aB (dJ (N:=["_law_name","_law_kind","_law_state"]) (by trivial) (lJ (aJ uU) rfl (by decide +kernel)) rfl (qU (vv 1)) (λcl s' l fp=>⟨(rZ (K:=K) (n:=2) rfl (cD (aX (i:=0) (show (["_law_name","_law_kind","_law_state"]:List Str).Nodup from by decide +kernel) rfl (Or.inl rfl)) (cD (aX (i:=1) (show (["_law_name","_law_kind","_law_state"]:List Str).Nodup from by decide +kernel) rfl (Or.inl rfl)) jK))),eX,(aN (jA.mono (by decide)) X (by rfl) (aB (vv 2) (aB (vv 1) aA)))⟩)) aA)))),?_⟩;have lu:=L.len;have l8:=B.2.2;dsimp only[tO,tCB,gY];refine vU [none,none,some (.ref a)] ?_ ⟨_,rfl,b,rfl,⟨_,p⟩,aU7 (Fx a) (aUe o) us (λ_=>true) (λi _ y=>∃c,hd[i]?=some c/\bV c.2 y) (λ_ _ h=>h) (λ_ _ _ h=>h) (λi σ=>∃c,hd[i]?=some c/\At2 [none,none,some (.ref a)] (.str c.1) (.str c.2) σ) (Ps2 [none,none,some (.ref a)]) ⟨none,none,rfl⟩ (small (by lia)) _ (aHh λl e=>e.bB o p) (wN λl e=>e.bB o p) (λi x σ' l Q' C z e W=>?_) (λi x F C O l R e r=>r l (Fx.refl e.st)) (λi x F C O hp l R e r=>?_) λD H6 ys Y fD g6 m=>?_⟩
 ·refine⟨rfl,λi y v j g=>?_⟩
  match i,j,g with
  |0,_,g=>cases g
  |1,_,g=>cases g
  |2,j,g=>cases j;cases g;exact⟨by decide +kernel,0,rfl,rfl,by trivial⟩
  |i+3,j,_=>cases j
 ·obtain⟨c,d,p',rfl,J⟩:=bM L C;exact hg2 (e.bB o J) z fun F j g=>W F j ⟨c,d,g⟩
 ·obtain⟨c,d,rfl⟩:=O;exact⟨_,rfl,_,rfl,a,c.2,rfl,e.st,(G c (m8 d)).2,λv H2 f2 u=>r v H2 f2 ⟨c,d,u⟩⟩
 ·rw[wJ] at m;obtain⟨l1,S⟩:=uL m;refine⟨D,_,rfl,SqL.of g6,λt H3 _ U g3=>q t H3 ys (Y.sm U) g3 (uW (by lia) λi k y M Z=>?_)⟩;obtain⟨c,d,u⟩:=S i y Z;rw[d] at M;cases M;exact u
end
end My
namespace L2
open PySem PySem.Spec PyProof.Rows
theorem aS5 (d:KdV k a)(c:KdV k b)(h:kvlt a b=true):kvlt b a=false:=by
 cases k with
 |true=>obtain⟨x,rfl⟩:=d;obtain⟨y,rfl⟩:=c;have:=of_decide_eq_true (show decide (x<y)=true from h);exact v9 (by lia)
 |false=>obtain⟨x,rfl⟩:=d;obtain⟨y,rfl⟩:=c;have:=of_decide_eq_true (show decide (x.cps.toList<y.cps.toList)=true from h);exact v9 (List.lt_asymm this)
theorem bAh (e:KdV k a)(g:KdV k b)(h:KdV k c)(j:kvlt b a=false)(f:kvlt c b=false):kvlt c a=false:=by
 cases k with
 |true=>obtain⟨x,rfl⟩:=e;obtain⟨y,rfl⟩:=g;obtain⟨z,rfl⟩:=h;have:=of_decide_eq_false (show decide (y<x)=false from j);have:=of_decide_eq_false (show decide (z<y)=false from f);exact v9 (by lia)
 |false=>obtain⟨x,rfl⟩:=e;obtain⟨y,rfl⟩:=g;obtain⟨z,rfl⟩:=h;have i:=of_decide_eq_false (show decide (y.cps.toList<x.cps.toList)=false from j);have d:=of_decide_eq_false (show decide (z.cps.toList<y.cps.toList)=false from f);exact v9 (List.not_lt.mpr (List.le_trans (List.not_lt.mp i) (List.not_lt.mp d)))
theorem aVa (f:KdV k a)(h:KdV k b)(i:kvlt a b=false)(g:kvlt b a=false):a=b:=by
 cases k with
 |true=>obtain⟨x,rfl⟩:=f;obtain⟨y,rfl⟩:=h;have:=of_decide_eq_false (show decide (x<y)=false from i);have:=of_decide_eq_false (show decide (y<x)=false from g);rw[show x=y by lia]
 |false=>obtain⟨x,rfl⟩:=f;obtain⟨y,rfl⟩:=h;have j:=of_decide_eq_false (show decide (x.cps.toList<y.cps.toList)=false from i);have c:=of_decide_eq_false (show decide (y.cps.toList<x.cps.toList)=false from g);have e:=List.le_antisymm (List.not_lt.mp c) (List.not_lt.mp j);obtain⟨⟨d⟩⟩:=x;obtain⟨⟨l⟩⟩:=y;have:d=l:=e;rw[this]
theorem lA {k:Bool}{ks:List Bool}{a b:V}{r q:List V}(c:KdV k a)(d:KdV k b):rlt (a::r) (b::q)=if a=b then rlt r q else kvlt a b:=by
 cases k with
 |true=>
  obtain⟨x,rfl⟩:=c;obtain⟨y,rfl⟩:=d;show (if (x == y)=true then rlt r q else decide (x<y))=_;by_cases e:x=y
  ·subst e;rw[if_pos (by simp),if_pos rfl]
  ·rw[if_neg (by simpa using e),if_neg (by intro z;exact e (V.int.inj z))];rfl
 |false=>
  obtain⟨x,rfl⟩:=c;obtain⟨y,rfl⟩:=d;show (if (x == y)=true then rlt r q else decide (x.cps.toList<y.cps.toList))=_;by_cases e:x=y
  ·subst e;rw[if_pos (by simp),if_pos rfl]
  ·rw[if_neg (by simpa using e),if_neg (by intro z;exact e (V.str.inj z))];rfl
theorem aCp:∀{ks:List Bool} {a b:List V},KdR ks a->KdR ks b->rlt a b=true->rlt b a=false
 |_,_,_,.nil,.nil,h=>by cases (show false=true from h)
 |_,x::a,y::b,.cons (as:=ks) ha ta,.cons hb tb,h=>by
  rw[lA (ks:=ks) ha hb] at h;rw[lA (ks:=ks) hb ha];by_cases e:x=y
  ·rw[if_pos e] at h;rw[if_pos e.symm];exact aCp ta tb h
  ·rw[if_neg e] at h;rw[if_neg (Ne.symm e)];exact aS5 ha hb h
theorem aT5:∀{ks:List Bool} {a b c:List V},KdR ks a->KdR ks b->KdR ks c->rlt b a=false->rlt c b=false->rlt c a=false
 |_,_,_,_,.nil,.nil,.nil,_,_=>rfl
 |_,x::a,y::b,z::c,.cons (as:=ks) ha ta,.cons hb tb,.cons hc tc,h1,h2=>by
  rw[lA (ks:=ks) hb ha] at h1;rw[lA (ks:=ks) hc hb] at h2;rw[lA (ks:=ks) hc ha];by_cases e:y=x
  ·subst e;rw[if_pos rfl] at h1;by_cases d:z=y
   ·subst d;rw[if_pos rfl] at h2 ⊢;exact aT5 ta tb tc h1 h2
   ·rw[if_neg d] at h2 ⊢;exact h2
  ·rw[if_neg e] at h1;by_cases d:z=y
   ·subst d;rw[if_neg e];exact h1
   ·rw[if_neg d] at h2;by_cases f:z=x
    ·subst f;exact absurd (aVa hc hb h2 h1) d
    ·rw[if_neg f];exact bAh ha hb hc h1 h2
theorem aTr:∀{ks:List Bool} {a b:List V},KdR ks a->KdR ks b->rlt a b=false->rlt b a=false->a=b
 |_,_,_,.nil,.nil,_,_=>rfl
 |_,x::a,y::b,.cons (as:=ks) ha ta,.cons hb tb,h1,h2=>by
  rw[lA (ks:=ks) ha hb] at h1;rw[lA (ks:=ks) hb ha] at h2;by_cases e:x=y
  ·subst e;rw[if_pos rfl] at h1 h2;rw[aTr ta tb h1 h2]
  ·rw[if_neg e] at h1;rw[if_neg (Ne.symm e)] at h2;exact absurd (aVa ha hb h1 h2) e
theorem aZ2 (b:KdR ks a):rlt a a=false:=by
 cases h:rlt a a with
 |false=>rfl
 |true=>have:=aCp b b h;rw[h] at this;cases this
def getD_mem {α:Type}{l:List α}{d:α}(hd:d∈l)(i:Nat):l.getD i d∈l:=by
 by_cases h:i<l.length
 ·rw[j6,b8 h];exact bAP h
 ·rw[j6,bAF (by lia)];exact hd
def range_getD {α:Type}(l:List α)(d:α):(List.range l.length).map (λi=>l.getD i d)=l:=by
 refine bCT λi=>?_;by_cases h:i<l.length
 ·rw[t7,bCJ h,b8 h,bDO,j6,b8 h];rfl
 ·rw[bAF (by simpa using h),bAF (by lia)]
theorem bC8 {α:Type}{q:α->α->Bool}(l:List α)(d:α){n:Nat}(C:n=l.length)(o:∀a∈l,∀b∈l,q a b=true->q b a=false)(B:∀a∈l,∀b∈l,∀c∈l,q b a=false->q c b=false->q c a=false)(R:α->α->Prop)(z:l.Pairwise R) :
  ((PySem.W.eG n λi j=>q (l.getD i d) (l.getD j d)).map λi=>l.getD i d).Perm l/\((PySem.W.eG n λi j=>q (l.getD i d) (l.getD j d)).map λi=>l.getD i d).Pairwise λa b=>q b a=false/\(q a b=true\/R a b):=by
 subst C;cases l with
 |nil=>
  have e:PySem.W.eG ([]:List α).length (λi j=>q (([]:List α).getD i d) (([]:List α).getD j d))=[]:=by have:=PySem.W.sV ([]:List α).length (λi j=>q (([]:List α).getD i d) (([]:List α).getD j d));exact List.length_eq_zero_iff.mp this
  rw[e];exact⟨.nil,.nil⟩
 |cons x0 l0=>
  generalize y:x0::l0=l at o B z;have f:x0∈l:=by rw[<-y];exact j7
  have r:PySem.W.eG l.length (λi j=>q (l.getD i d) (l.getD j d))=PySem.W.eG l.length (λi j=>q (l.getD i x0) (l.getD j x0)):=PySem.W.aNa λi j m t=>by rw[j6,j6,j6,j6,b8 m,b8 t];rfl
  have S:PySem.W.Swo λi j=>q (l.getD i x0) (l.getD j x0):=⟨λ{i j} h=>o _ (getD_mem f i) _ (getD_mem f j) h,λ{i j k} g h2=>B _ (getD_mem f i) _ (getD_mem f j) _ (getD_mem f k) g h2⟩;obtain⟨w,v⟩:=PySem.W.aK2 S;rw[<-r] at w v;have p:∀i∈PySem.W.eG l.length (λi j=>q (l.getD i d) (l.getD j d)),i<l.length:=λi m=>PySem.W.oH m;refine⟨?_,?_⟩
  ·have:=w.map λi=>l.getD i d;rw[range_getD] at this;exact this
  ·refine List.pairwise_map.mpr (bED ?_ v);rintro i j m t ⟨g,h2⟩;have u:=p i m;have s:=p j t;have x:l.getD i x0=l.getD i d:=by rw[j6,j6,b8 u];rfl
   have A:l.getD j x0=l.getD j d:=by rw[j6,j6,b8 s];rfl
   dsimp only at g h2;rw[x,A] at g h2;refine⟨g,?_⟩;rcases h2 with h2|h2
   ·exact .inl h2
   ·right;have:=List.pairwise_iff_getElem.mp z i j u s h2;rw[j6,j6,b8 u,b8 s];exact this
def aVw {α:Type}(l:List α):l.Pairwise λ_ _=>True:=List.pairwise_of_forall λ_ _=>trivial
def tD (h:∀r∈rs,KdR ks r):(srt rs).Perm rs/\(srt rs).Pairwise λa b=>rlt b a=false:=by obtain⟨i,f⟩:=bC8 rs [] rfl (λa d b e=>aCp (h a d) (h b e)) (λa d b e c g=>aT5 (h a d) (h b e) (h c g)) (λ_ _=>True) (aVw _);exact⟨i,f.imp λz=>z.1⟩
theorem aEw {α:Type}{lt:α->α->Bool}:∀{l m:List α},l.Perm m->(∀a∈l,∀b∈l,lt a b=false->lt b a=false->a=b)->l.Pairwise (λa b=>lt b a=false)->m.Pairwise (λa b=>lt b a=false)->l=m
 |[],m,p,_,_,_=>(List.perm_nil.mp p.symm).symm
 |a::l,[],p,_,_,_=>absurd (List.perm_nil.mp p) (by simp)
 |a::l,b::m,p,anti,hl,hm=>by
  rw[List.pairwise_cons] at hl hm;have f:=p.subset j7;have c:=p.symm.subset j7;have e:a=b:=by
   rcases List.mem_cons.mp f with z|z
   ·exact z
   ·rcases List.mem_cons.mp c with y|y
    ·exact y.symm
    ·exact anti a j7 b c (hm.1 a z) (hl.1 b y)
  subst e;rw[aEw (List.Perm.cons_inv p) (λx d y g=>anti x (j5 _ d) y (j5 _ g)) hl.2 hm.2]
def aJz (h:∀r∈rs,KdR ks r)(p:rs.Perm qs):srt rs=srt qs:=by have j:∀r∈qs,KdR ks r:=λr c=>h r (p.symm.subset c);obtain⟨d,f⟩:=tD h;obtain⟨k,l⟩:=tD j;have e:∀r∈srt rs,KdR ks r:=λr c=>h r (d.subset c);exact aEw (d.trans (p.trans k.symm)) (λa g b i=>aTr (e a g) (e b i)) f l
end L2
namespace PySem.SeqAt
open PySem PySem.Spec
abbrev opG:Bool->CmpOp
 |true=>.Gt
 |false=>.LtE
def aYp (g:Bool)(A:Around)(s:Shared)(y x:Value)(b:Bool):Prop:=
 ∀prog w E Q,Q (.bool b) s->wpAny (model prog w) A (richCompare (opG g) y x) Q E s
def fnG:Bool->Args->Sem Fin
 |true=>Builtin.«tuple.__gt__»
 |false=>Builtin.«tuple.__le__»
def leW (e c:Nat->Bool)(l:List Nat)(z:Bool):Bool:=l.foldr (λj acc=>if e j then acc else c j) z
def aIh (g z:Bool)(F:z=!g)(l b:Addr)(items items2:Array Value)(n n2:Nat)(dd dd2:Option Addr)(sl sl2:Array (Option Value))(e c:Nat->Bool)(m:items.size=items2.size) :
  Meets (fnG g ⟨[.ref l,.ref b],[]⟩)
   (λA R s=>s.heap.get? l=some { cls:=.type "tuple",dict:=dd,data:=.seq items n,slots:=sl }/\s.heap.get? b=some { cls:=.type "tuple",dict:=dd2,data:=.seq items2 n2,slots:=sl2 } /\
    (∀j (h1:j<items.size) (h2:j<items2.size),EqAt A.in1 s items[j] items2[j] (e j))/\(∀j (h1:j<items.size) (h2:j<items2.size),aYp g A.in1 s items[j] items2[j] (c j)) /\
    R (.ok (.ret (.bool (leW e c (List.range items.size) z)))) s):=
 .of_wp λa w A R s h=>by
  cases g;all_goals
   unfold fnG;obtain⟨q,t,d,r,o⟩:=s;obtain⟨H,G,I,K,h⟩:=h;have M:=AutoSeq1.sub_tuple_tuple;have C:(items.toList.zip items2.toList).length=items.size:=by simp[m]
   wp_walk using wpAny_loadPart' H,wpAny_loadPart' G,bE1 _ (λk b v=>b.1=none/\v=⟨q,t,d,r,o⟩/\∃i,k=(items.toList.zip items2.toList).drop i /\
    R (.ok (.ret (.bool (leW e c ((List.range items.size).drop i) z)))) ⟨q,t,d,r,o⟩) _
   case turn=>
    rintro⟨y,x⟩ k b v ⟨hb',rfl,i,hz,hR⟩;have p:i<(items.toList.zip items2.toList).length:=by
     rcases Nat.lt_or_ge i (items.toList.zip items2.toList).length with h'|h'
     ·exact h'
     ·rw[bER h'] at hz;cases hz
    have h1:i<items.size:=C ▸ p;have h2:i<items2.size:=m ▸ h1;rw[bEC p] at hz;injection hz with hyx hrest;have u:y=items[i]:=by have:=congrArg Prod.fst hyx;simpa using this
    have D:x=items2[i]:=by have:=congrArg Prod.snd hyx;simpa using this
    subst u D;have hd:(List.range items.size).drop i=i::(List.range items.size).drop (i+1):=by simp[bEC,h1]
    rw[hd] at hR;have f:R (.ok (.ret (.bool (if e i then leW e c ((List.range items.size).drop (i+1)) z else c i)))) ⟨q,t,d,r,o⟩:=hR;refine b7 (I i h1 h2 a w _ _ ?_);cases u:e i with
    |true=>rw[u] at f;wp_walk;exact⟨rfl,rfl,i+1,hrest,by simpa using f⟩
    |false=>rw[u] at f;have J:∀{E:bFQ} {Q:bFQ},Q (.bool (c i)) ⟨q,t,d,r,o⟩->wpAny (model a w) A.in1 (richCompare _ items[i] items2[i]) Q E ⟨q,t,d,r,o⟩:=λ{E Q} h=>K i h1 h2 a w E Q h;wp_walk using J;exact⟨_,rfl,by simpa using f⟩
   case fin=>
    rintro⟨L,N⟩ v ⟨hb',rfl,i,hz,hR⟩;simp only at hb';subst hb';have B:items.size<=i:=by
     rcases Nat.lt_or_ge i (items.toList.zip items2.toList).length with h'|h'
     ·rw[bEC h'] at hz;cases hz
     ·exact C ▸ h'
    rw[bER (by simpa using B)] at hR;wp_walk;exact⟨_,rfl,by simpa [Builtin.Tuple.tupleCompareSizes,m,leW,F] using hR⟩
   case h=>exact⟨rfl,rfl,0,rfl,by simpa using h⟩
end PySem.SeqAt
namespace L2
open PySem PySem.Spec PyProof.Rows
theorem aKk (g:Bool):∀{ks:List Bool} {a b:List V},KdR ks a->KdR ks b->SeqAt.leW (λj=>decide (a.getD j .non=b.getD j .non)) (λj=>kvlt (b.getD j .non) (a.getD j .non) == g) (List.range a.length) (!g)=(rlt b a == g)
 |_,_,_,.nil,.nil=>by cases g <;> rfl
 |_,x::a,y::b,.cons (as:=ks) ha ta,.cons hb tb=>by
  have c:=aKk g ta tb;rw[lA (ks:=ks) hb ha,t8,List.range_succ_eq_map];show (if decide (x=y)=true then SeqAt.leW (λj=>decide ((x::a).getD j .non=(y::b).getD j .non)) (λj=>kvlt ((y::b).getD j .non) ((x::a).getD j .non) == g) ((List.range a.length).map Nat.succ) (!g) else (kvlt y x == g))=_;by_cases e:x=y
  ·rw[if_pos (m9 e),if_pos e.symm,<-c];unfold SeqAt.leW;rw[List.foldr_map];rfl
  ·rw[if_neg (by rw[v9 e];exact v6),if_neg (Ne.symm e)]
section
variable {X:Cx}
def bCo (g:Bool)(K:bFP):R2:=λx y H Q=>∃ks r q,dD K H x r/\dD K H y q/\KdR ks r/\KdR ks q/\Q (.bl (rlt q r == g)) H
theorem aXy (g:Bool)(hu:X.A.units+64<cLine):OpR X (compareOp (SeqAt.opG g)) (bCo g X.K):=by
 intro a4 s σ H x y v u Q I rx ry h;obtain⟨ks,r,q,⟨a,rfl,ha⟩,⟨b,rfl,hb⟩,Z,hq,L⟩:=h;cases rx;cases ry;obtain⟨f,r1,⟨⟨a5,dd,a2,sl⟩,W,hc,n,hd⟩,hz⟩:=I.tuple ha;obtain⟨i,r2,⟨⟨a3,a1,Y,a0⟩,o,S,n2,N⟩,hw⟩:=I.tuple hb;simp only at hc hd S N;subst hc hd S N;have l1:=r1.length;have l2:=r2.length;have p:=Al2.len Z;have D:=Al2.len hq;have t:∀j (B:j<f.toArray.size) (C:j<i.toArray.size),∃k,KdV k (r.getD j .non)/\KdV k (q.getD j .non)/\RelV (r.getD j .non) f.toArray[j]/\RelV (q.getD j .non) i.toArray[j]:=λj B C=>by
  rw[d9] at B C;have hj:j<ks.length:=by lia
  have M:j<r.length:=by lia
  have J:j<q.length:=by lia
  have er:r.getD j .non=r[j]:=by simp[M]
  have eq:q.getD j .non=q[j]:=by simp[J]
  obtain⟨w1,g1,g2⟩:=r1.get (b8 M);obtain⟨w2,g3,g4⟩:=r2.get (b8 J);rw[er,eq];refine⟨ks[j],Z.get (b8 hj) (b8 M),hq.get (b8 hj) (b8 J),?_,?_⟩
  ·rw[bBM,(List.getElem?_eq_some_iff.mp g1).2];exact g2
  ·rw[bBM,(List.getElem?_eq_some_iff.mp g3).2];exact g4
 have sz:f.toArray.size=r.length:=by rw[d9];lia
 have sj:f.toArray.size=i.toArray.size:=by rw[d9,d9];lia
 have tc:=SeqAt.aIh g (!g) rfl a b f.toArray i.toArray n n2 dd a1 sl a0 (λj=>decide (r.getD j .non=q.getD j .non)) (λj=>kvlt (q.getD j .non) (r.getD j .non) == g) sj;have G:=aKk g Z hq;have m:∀j (B:j<f.toArray.size) (C:j<i.toArray.size),SeqAt.EqAt X.A.in1 s f.toArray[j] i.toArray[j] (decide (r.getD j .non=q.getD j .non)):=λj B C=>by
  obtain⟨k,p,D,m,l⟩:=t j B C;generalize r.getD j .non=y1 at p m;generalize q.getD j .non=y2 at D l;generalize f.toArray[j]=w1 at m;generalize i.toArray[j]=w2 at l;cases k with
  |true=>
   obtain⟨c,rfl⟩:=p;obtain⟨d,rfl⟩:=D;obtain⟨O,rfl⟩:=m;obtain⟨R,rfl⟩:=l;have z:=bEJ (A:=X.A.in1) (s:=s) c O d R;have e:(c == d)=decide (V.int c=V.int d):=by by_cases e:c=d <;> simp[e]
   rw[<-e];exact z
  |false=>
   obtain⟨c,rfl⟩:=p;obtain⟨d,rfl⟩:=D;obtain⟨O,rfl⟩:=m;obtain⟨R,rfl⟩:=l;have z:=bDL (A:=X.A.in1) (s:=s) c O d R;have e:(c == d)=decide (V.str c=V.str d):=by by_cases e:c=d <;> simp[e]
   rw[<-e];exact z
 have l:∀j (B:j<f.toArray.size) (C:j<i.toArray.size),SeqAt.aYp g X.A.in1 s f.toArray[j] i.toArray[j] (kvlt (q.getD j .non) (r.getD j .non) == g):=λj B C=>by
  obtain⟨k,p,D,m,l⟩:=t j B C;generalize r.getD j .non=y1 at p m;generalize q.getD j .non=y2 at D l;generalize f.toArray[j]=w1 at m;generalize i.toArray[j]=w2 at l;cases k with
  |true=>
   obtain⟨c,rfl⟩:=p;obtain⟨d,rfl⟩:=D;obtain⟨O,rfl⟩:=m;obtain⟨R,rfl⟩:=l;intro T w E Q U;cases g
   ·refine le_int ?_;have e:decide (c<=d)=(kvlt (.int d) (.int c) == false):=by show decide (c<=d)=(decide (d<c) == false);by_cases z:c<=d <;> simp[z] <;> lia
    rw[e];exact U
   ·refine gt_int ?_;rw[show decide (d<c)=(kvlt (.int d) (.int c) == true) by show _=(decide (d<c) == true);simp];exact U
  |false=>
   obtain⟨c,rfl⟩:=p;obtain⟨d,rfl⟩:=D;obtain⟨O,rfl⟩:=m;obtain⟨R,rfl⟩:=l;intro T w E Q U;cases g
   ·refine P.le_str ?_;rw[show (!decide (d.cps.toList<c.cps.toList))=(kvlt (.str d) (.str c) == false) by show _=(decide (d.cps.toList<c.cps.toList) == false);simp];exact U
   ·refine P.gt_str ?_;rw[show decide (d.cps.toList<c.cps.toList)=(kvlt (.str d) (.str c) == true) by show _=(decide (d.cps.toList<c.cps.toList) == true);simp];exact U
 rw[<-sz] at G;rw[<-G] at L;cases g
 ·exact richCompare_meets_room (op:=.LtE) ⟨_,W,rfl⟩ ⟨_,o,rfl⟩ F.slot_tuple_le F.entry_tuple_le (F.args_tuple_le_2 _ _) tc ⟨W,o,m,l,(λz=>nomatch z),⟨.bl _,H,I,rfl,L⟩⟩ (by lia)
 ·exact richCompare_meets_room (op:=.Gt) ⟨_,W,rfl⟩ ⟨_,o,rfl⟩ F.slot_tuple_gt F.entry_tuple_gt (F.args_tuple_gt_2 _ _) tc ⟨W,o,m,l,(λz=>nomatch z),⟨.bl _,H,I,rfl,L⟩⟩ (by lia)
def bDq (K:bFP):R2:=λx y H Q=>∃ks r q,dD K H x r/\dD K H y q/\KdR ks r/\KdR ks q/\Q (.bl (rlt q r)) H
def bBu (j:X.A.units+64<cLine):OpR X (compareOp .Gt) (bDq X.K):=λa s σ H x y v u Q I g c ⟨d,r,q,i,b,e,f,h⟩=>aXy true j a s σ H x y v u Q I g c ⟨d,r,q,i,b,e,f,by rw[show (rlt q r == true)=rlt q r by simp];exact h⟩
theorem aO3 {K:bFP}{H:Hp}:∀{r:List V},(∀x∈r,(∃i,x=.int i)\/∃z,x=.str z)->∀n,Al2 (DEq K H n) r r
 |[],_,_=>.nil
 |x::r,h,n=>.cons (by rcases h x j7 with⟨i,rfl⟩|⟨z,rfl⟩ <;> cases n <;> first|exact⟨rfl,rfl⟩|exact .inl ⟨rfl,rfl⟩) (aO3 (λy a=>h y (j5 _ a)) n)
def aI7 {K:bFP}{H:Hp}{us ws:List V}{rs:List (List V)}(k:Al2 (dD K H) us rs)(g:Al2 (dD K H) ws rs)(m:∀r∈rs,∀x∈r,(∃i,x=.int i)\/∃z,x=.str z):Al2 (DEq K H 40) us ws:=by refine Al2.of (k.len.trans g.len.symm) λi u w j e=>?_;obtain⟨r,d,a,rfl,f⟩:=k.at j;obtain⟨l,c,b,rfl,h⟩:=g.at e;rw[d] at c;cases c;exact .inr ⟨a,b,r,r,rfl,rfl,f,h,aO3 (m r (m8 d)) 39⟩
def aV0 (K:bFP):R2:=λx y H Q=>∃a b us ws rs,x=.ref a/\y=.ref b/\SqL K H a us/\SqL K H b ws/\Al2 (dD K H) us rs/\Al2 (dD K H) ws rs/\(∀r∈rs,∀x∈r,(∃i,x=.int i)\/∃z,x=.str z)/\Q (.bl false) H
def aEy (hu:X.A.units+64<cLine):OpR X (compareOp .NotEq) (aV0 X.K):=by
 intro B s σ H x y v u Q I k r h;obtain⟨a,b,J,G,D,rfl,rfl,j,i,n,p,g,q⟩:=h;cases k;cases r;obtain⟨m,f,C,E⟩:=I.list j;obtain⟨t,c,o,M⟩:=I.list i;have d:=aI7 n p g;have l:=d.len;have L:=f.length;have F:=c.length;refine bFD (e:=λ_=>true) C.isList o.isList (by rw[d9,d9];lia) (by lia) (aA8 I f c d λd z w=>xK I 40 d z w (by show X.A.units+1+40<cLine;lia)) _ _ _ _ ?_;first
  |(rw[iZ];exact⟨.bl _,H,I,rfl,q⟩)
  |(simp only[iZ];exact⟨.bl _,H,I,rfl,q⟩)
end
end L2
namespace My
open PySem PySem.Spec PyProof.Rows L2
section
variable {P:Program}{w:World}{K:bFP}{mg:bFS}{base:Heap}
def aTs (a:X.A.units+1<cLine)(b:VE X o td)(c:VE X e ty)(m:M1 X o "get" apos e cpos:=by exact⟨rfl,rfl,rfl,rfl⟩):VE X (.Call (.Attribute o "get" apos) [e] [] cpos) (aSx td ty):=⟨aVg a b.1 c.1 m⟩
def bBs (a:X.A.units+1<cLine)(hi:VE X i ty)(b:VE X o td)(c:behindInMarks .In o=false:=by first|exact nobehind _ (by decide) (by decide)|rfl):VT X (.Compare i [.In] [o] pos) (tB (bCg ty td)):=⟨aSz (aY6 a hi.1 b.1) c⟩
structure bJ (K:bFP)(H:Hp)(C x:Addr)(m:Int)(d dm:Addr)(es:List En):Prop where
 at_:∃dx,H x=some (.ins C dx [("placed",.ref d),("house_count",.int m),("moves",.ref dm)])
 ens:gH K H d es
 ok:∀e∈es,mV m e.t
 ne:d≠dm
theorem bJ.same (s:Same H H')(h:bJ K H C x m d dm es):bJ K H' C x m d dm es:=
 ⟨let ⟨dx,h1⟩:=h.at_;⟨dx,s _ _ h1⟩,h.ens.same s,h.ok,h.ne⟩
structure Mv where
 num:Nat
 house:Int
 mark:Option (List V)
def aIs (K:bFP)(H:Hp)(v:V):Option (List V)->Prop
 |none=>v=.non
 |some r=>dD K H v r
def aIk (K:bFP)(H:Hp)(v:V)(q:Mv):Prop:=∃a vm,v=.ref a/\SqT K H a [.int q.num,.int q.house,vm]/\aIs K H vm q.mark
theorem aIs.tk (k:∀p xs,SqT K H p xs->SqT K H' p xs)(h:aIs K H v o):aIs K H' v o:=by
 cases o with
 |none=>exact h
 |some r=>obtain⟨a,e,b⟩:=h;exact⟨a,e,k _ _ b⟩
theorem aIk.tk (k:∀p xs,SqT K H p xs->SqT K H' p xs)(h:aIk K H v q):aIk K H' v q:=
 let ⟨a,vm,e,ha,hm⟩:=h;⟨a,vm,e,k _ _ ha,hm.tk k⟩
def aIs.same (s:Same H H')(h:aIs K H v o):aIs K H' v o:=h.tk λ_ _=>s.bB
def MvV (K:bFP)(H:Hp)(v:V):Option Mv->Prop
 |none=>v=.non
 |some q=>aIk K H v q
def mvO (o:Option Mv)(v:V):Option V:=match o with|none=>none|some _=>some v
def MvD (K:bFP)(H:Hp)(dm:Addr)(nm:Str)(o:Option Mv):Prop:=∃kvs v,H dm=some (.dK kvs)/\eV kvs (Sum.inr nm)=mvO o v/\MvV K H v o
theorem MvD.kp {S:Addr->Prop}{H H':Hp}{dm:Addr}{nm:Str}{o:Option Mv}(e:∀u,H dm=some u->H' dm=some u)(tk:∀p xs,SqT K H p xs->SqT K H' p xs)(h:MvD K H dm nm o):MvD K H' dm nm o:=by
 obtain⟨a,v,d,c,b⟩:=h;refine⟨a,v,e _ d,c,?_⟩;cases o with
 |none=>exact b
 |some q=>exact aIk.tk tk b
def MvD.same {H H':Hp}{dm:Addr}{nm:Str}{o:Option Mv}(s:Same H H')(h:MvD K H dm nm o):MvD K H' dm nm o:=h.kp (S:=λ_=>True) (λu h=>s _ _ h) λ_ _=>s.bB
inductive aLc (K:bFP)(C Pt:Addr)(vs:List V)(H:Hp)(Q:VK)(E_:XK):Prop
 |mk (H0:Hp) (x dx d:Addr) (m:Int) (es:List En) (_:vs=[.ref x,.int m,.ref d]) (_:H x=some (.ins C dx [])) (_:H0 x=none) (_:Same H0 H) (_:1<=m) (_:m<=6) (_:gH K H0 d es) (_:(∀e∈es,mV m e.t)) (_:H0 Pt=some (.tab qC)) (_:∀d' dm H' es',H0 d'=none->H0 dm=none->Same H0 H'->bJ K H' C x m d' dm es'->H' dm=some (.dK [])->bY (λe e'=>∃v L,e'=aAx e v L/\H0 L=none) es es'->Q .non H')
def aQy (T:Txt w K mg){C Pt:Addr}(c:Cls K C)(D:eQ K C "__init__" "Store.__init__" jW ["self","houses","tables"])(n1:bR K C "placed")(n2:bR K C "house_count")(n3:bR K C "moves")(lH:Ok P w K mg base 10 "placed_tables" ["houses","tables"] (xO K Pt)):OkM P w K mg base C 11 "__init__" ["self","houses","tables"] (aLc K C Pt):=by
 refine OkM.ofV c D wV (by trivial) (λf Y A M s H vs Q E hr h=>?_)
 obtain⟨H0,x,a,d,m,es,rfl,O,hN,n,m1,m6,hE,V,hP,q⟩:=h;refine⟨_,(aC (aBd (K:=K) (vv 0) (aN (lH.mono (by decide)) hr (by rfl) (aB (vv 1) (aB (vv 2) aA)))) (aC (aBd (K:=K) (vv 0) (vv 1)) (aH (aBd (K:=K) (vv 0) aCh)))),?_⟩;refine⟨_,rfl,_,rfl,d,m,es,rfl,m1,m6,hE.same n,V,n _ _ hP,λi k N l y g U=>?_⟩;have p:=y _ _ O;refine⟨_,rfl,x,C,a,[],rfl,p,c,n1,by decide,?_⟩;refine⟨_,rfl,_,rfl,x,C,a,_,rfl,aK,c,n2,by show 1<1000;decide,?_⟩;have nx:cW k x:=cW.ins p;have t:i≠x:=λz=>by rw[z,O] at l;cases l
 have G:But x k (L2.upd (L2.upd k x (.ins C a (jM "placed" (.ref i) []))) x (.ins C a (jM "house_count" (.int m) (jM "placed" (.ref i) [])))):=λb o r h=>by rw[aR r,aR r];exact h
 have J:L2.upd (L2.upd k x (.ins C a (jM "placed" (.ref i) []))) x (.ins C a (jM "house_count" (.int m) (jM "placed" (.ref i) []))) x=some (.ins C a [("placed",.ref i),("house_count",.int m)]):=aK;have S:∀{b},L2.upd (L2.upd k x (.ins C a (jM "placed" (.ref i) []))) x (.ins C a (jM "house_count" (.int m) (jM "placed" (.ref i) []))) b=none->k b=none:=λ{b} h=>by
  by_cases z:b=x
  ·rw[z,aK] at h;cases h
  ·rw[aR z,aR z] at h;exact h
 generalize L2.upd (L2.upd k x (.ins C a (jM "placed" (.ref i) []))) x (.ins C a (jM "house_count" (.int m) (jM "placed" (.ref i) [])))=H2 at G J S ⊢;refine λu W j R g3=>?_;refine⟨_,rfl,x,C,a,_,rfl,R _ _ J,c,n3,by show 2<1000;decide,?_⟩;have B:But x k (L2.upd W x (.ins C a [("placed",.ref i),("house_count",.int m),("moves",.ref u)])):=λb o r h=>by rw[aR r];exact R _ _ (G _ _ r h)
 have F:u≠x:=λz=>by rw[z,J] at j;cases j
 have X:Same H0 (L2.upd W x (.ins C a [("placed",.ref i),("house_count",.int m),("moves",.ref u)])):=λb o h=>B _ _ (λz=>by rw[z,hN] at h;cases h) (y _ _ (n _ _ h));refine q i u _ N (none_of n l) (none_of (n.trans y) (S j)) X ⟨⟨a,aK⟩,⟨B _ _ t g.at_,g.nd,g.few,g.nm,λe I=>B.tb nx (g.tb e I)⟩,λe I=>?_,λz=>?_⟩ (by rw[aR F];exact g3) (U.imp λe e' ⟨v,L,e1,Z⟩=>⟨v,L,e1,none_of n Z⟩)
 ·obtain⟨e0,h0,v,L,rfl,_⟩:=gF U I;exact (V e0 h0).sorted
 ·have:=G _ _ t g.at_;rw[z,j] at this;cases this
inductive aHo (K:bFP)(C Ct Pt:Addr)(vs:List V)(H:Hp)(Q:VK)(E_:XK):Prop
 |mk (x d dm:Addr) (m:Int) (es:List En) (_:vs=[.ref x]) (_:bJ K H C x m d dm es) (_:1<=m) (_:m<=6) (_:H Pt=some (.tab qC)) (_:∀y d' H' es',H y=none->H d'=none->Same H H'->fP K H' Ct y m d' es'->bY (λe e'=>∃v L,e'=aAx e v L/\H L=none) es es'->Q (.ref y) H')
def aSe (T:Txt w K mg)(c:Cls K C)(D:eQ K C "town" "Store.town" pK ["self"])(O:bR K C "placed")(M:bR K C "house_count")(a:OkC P w K mg base Ct 11 "Town" ["self","houses","tables"] (aOm K Ct Pt)):OkM P w K mg base C 13 "town" ["self"] (aHo K C Ct Pt):=by
 refine OkM.ofV c D aDz (by trivial) (λf r A j s H N Q E z h=>?_)
 obtain⟨x,d,R,m,L,rfl,g,I,G,F,q⟩:=h;refine⟨_,(aH (aO (aGc (a.mono (by decide)) z (by rfl) (aB (cY (K:=K) (vv 0)) (aB (cY (K:=K) (vv 0)) aA))))),?_⟩;obtain⟨n,l⟩:=g.at_;refine⟨_,rfl,x,C,n,_,_,rfl,l,c,M,rfl,_,rfl,x,C,n,_,_,rfl,l,c,O,rfl,λy u e b t=>?_⟩;refine⟨H,y,u,d,m,L,rfl,aK,e,dR e (bC b _),I,G,g.ens,g.ok,F,λJ p k i o v B=>⟨rfl,?_⟩⟩;exact q y J p k e i o v B
inductive vB (K:bFP)(C:Addr)(vs:List V)(H:Hp)(Q:VK)(E_:XK):Prop
 |mk (x d dm:Addr) (m:Int) (es:List En) (e:En) (n:Str) (h0:Int) (cs:List (V × Int)) (_:vs=[.ref x,.str e.n]) (_:bJ K H C x m d dm es) (_:e∈es) (_:e.t.pl=.spans n h0 cs) (_:∀H',Same H H'->Q e.v H')
def aUo (T:Txt w K mg)(c:Cls K C)(D:eQ K C "cut_table" "Store.cut_table" iW ["self","name"])(O:bR K C "placed")(R:Ok P w K mg base 3 "table_in" ["placed","name"] (rR K)):OkM P w K mg base C 4 "cut_table" ["self","name"] (vB K C):=by
 refine OkM.ofV c D mQ (by trivial) (λf z A k s H L Q E B h=>?_)
 obtain⟨x,d,V,m,G,e,n,J,W,rfl,g,o,j,q⟩:=h;refine⟨_,(aC (bA (i:=2) mQ.nd rfl (by trivial) (aN (R.mono (by decide)) B (by rfl) (aB (cY (K:=K) (vv 0)) (aB (vv 1) aA)))) (aC (cA (bQ aEq (aU aY (aU aY (vv 2) aF (λ_ _=>rfl)) aF (λ_ _=>rfl)) bN (bL _)) (aH dO) bF) (aH (aO (vv 2))))),?_⟩;obtain⟨F,r⟩:=g.at_;refine⟨_,rfl,x,C,F,_,_,rfl,r,c,O,rfl,_,rfl,d,G,e,rfl,g.ens,o,λu l=>?_⟩;obtain⟨a,I,y,N,p,S⟩:=(g.ens.tb e o).same l;rw[j] at p;obtain⟨b,M,v,t,U⟩:=p;refine⟨_,rfl,a,_,1,_,I,rfl,y,at1 _ _ _,b,_,0,_,v,rfl,t,at0 _ _,rfl,_,rfl,lN (by decide) ?_⟩;exact⟨_,rfl,q u l⟩
inductive aCs (K:bFP)(C:Addr)(vs:List V)(H:Hp)(Q:VK)(E_:XK):Prop
 |mk (x d dm:Addr) (m:Int) (es:List En) (n:Str) (_:vs=[.ref x,.str n]) (_:bJ K H C x m d dm es) (_:MvD K H dm n none) (_:Q .non H)
def aPz (T:Txt w K mg)(c:Cls K C)(D:eQ K C "need_still" "Store.need_still" iD ["self","name"])(t:bR K C "moves"):OkM P w K mg base C 1 "need_still" ["self","name"] (aCs K C):=by
 refine OkM.ofV c D tE (by trivial) (λf l A a s H u Q E r h=>?_)
 obtain⟨x,d,o,m,y,n,rfl,p,⟨k,v,i,g,_⟩,q⟩:=h;have b:=lB r;refine⟨_,(aH (cA (bBs b (vv 1) (cY (K:=K) (vv 0))) (aH dO) bF)),?_⟩;obtain⟨j,e⟩:=p.at_;exact⟨_,rfl,_,rfl,x,C,j,_,_,rfl,e,c,t,rfl,o,none,rfl,.inl ⟨_,Sum.inr n,.inl i,rfl,g.symm⟩,_,rfl,cC q⟩
inductive xW (K:bFP)(C:Addr)(vs:List V)(H:Hp)(Q:VK)(E_:XK):Prop
 |mk (x d dm:Addr) (m:Int) (es:List En) (n:Str) (v:V) (kvs:List (Key × V)) (_:vs=[.ref x,.str n]) (_:bJ K H C x m d dm es) (_:H dm=some (.dK kvs)) (_:eV kvs (Sum.inr n)=some v) (_:Q v H)
def aNr (T:Txt w K mg)(c:Cls K C)(D:eQ K C "move_of" "Store.move_of" lF ["self","name"])(l:bR K C "moves"):OkM P w K mg base C 1 "move_of" ["self","name"] (xW K C):=by
 refine OkM.ofV c D xV (by trivial) (λf p A a s H u Q E t h=>?_)
 obtain⟨x,d,k,m,y,n,v,o,rfl,r,i,g,q⟩:=h;have b:=lB t;refine⟨_,(aC (cA (aEk b (vv 1) (cY (K:=K) (vv 0))) (aH dO) bF) (aH (aO (iV b (cY (K:=K) (vv 0)) (vv 1) (λ_ _=>rfl))))),?_⟩;obtain⟨j,e⟩:=r.at_;refine⟨_,rfl,_,rfl,x,C,j,_,_,rfl,e,c,l,rfl,k,some v,rfl,.inl ⟨_,Sum.inr n,.inl i,rfl,g.symm⟩,_,rfl,cC ?_⟩;exact⟨_,rfl,x,C,j,_,_,rfl,e,c,l,rfl,_,rfl,k,v,rfl,.inl ⟨_,Sum.inr n,.inl i,rfl,g.symm⟩,q⟩
inductive aEi (K:bFP)(C:Addr)(vs:List V)(H:Hp)(Q:VK)(E_:XK):Prop
 |mk (x d dm:Addr) (m:Int) (es:List En) (e:En) (o:Option Mv) (_:vs=[.ref x,.str e.n]) (_:bJ K H C x m d dm es) (_:e∈es) (_:MvD K H dm e.n o) (_:∀v H',Same H H'->MvV K H' v o->Q v H')
theorem aNh (T:Txt w K mg)(c:Cls K C)(D:eQ K C "moving" "Store.moving" mK ["self","name"])(L:bR K C "placed")(F:bR K C "moves")(M:Ok P w K mg base 3 "table_in" ["placed","name"] (rR K)):OkM P w K mg base C 4 "moving" ["self","name"] (aEi K C):=by
 refine OkM.ofV c D zX (by trivial) (λf z A g s H J Q E p h=>?_)
 obtain⟨x,d,r,m,I,e,o,rfl,l,B,G,q⟩:=h;have t:=lB p;refine⟨_,(aC (cI (aN (M.mono (by decide)) p (by rfl) (aB (cY (K:=K) (vv 0)) (aB (vv 1) aA)))) (aH (aO (aTs t (cY (K:=K) (vv 0)) (vv 1))))),?_⟩;obtain⟨i,b⟩:=l.at_;refine⟨_,rfl,x,C,i,_,_,rfl,b,c,L,rfl,_,rfl,d,I,e,rfl,l.ens,B,λk a=>?_⟩;obtain⟨y,v,hd,j,u⟩:=G.same a;cases o with
 |none=>exact⟨_,rfl,x,C,i,_,_,rfl,a _ _ b,c,F,rfl,r,rfl,.inl ⟨_,.inl hd⟩,_,rfl,none,.inl ⟨_,Sum.inr e.n,.inl hd,rfl,j.symm⟩,q .non k a rfl⟩
 |some mq=>exact⟨_,rfl,x,C,i,_,_,rfl,a _ _ b,c,F,rfl,r,rfl,.inl ⟨_,.inl hd⟩,_,rfl,some v,.inl ⟨_,Sum.inr e.n,.inl hd,rfl,j.symm⟩,q v k a u⟩
def aOo (t:bU K H a rs)(hl:rs.length<=1000)(p:List V->Bool)(o:σ0[0]?=some none)
  (n:∀(u:V) (r:List V),r∈rs->∀H' R l,Same H H'->dD K H' u r->(∀H2,Same H' H2->R (p r) H2)->tt ((σ0.set 0 l).set 0 (some u)) H' R)
  (q:∀D H',H D=none->Same H H'->bU K H' D (rs.filter p)->Q (.ref D) H'):pR (Itl K a) H σ0 (cM 0) tt (aQj 0) Q:=by
 obtain⟨k,g,b⟩:=t;have v:=b.len;refine aB9 k (λi=>p (rs.getD i [])) σ0 (small (by lia)) (aWo λH' s=>SqL.of (s _ _ g)) (aRi λH' s=>SqL.of (s _ _ g)) (λi u j H' R l c e=>?_) o λD H' h c f=>?_
 ·obtain⟨r,d,m⟩:=bM b j;rw[j6,d,bBQ] at e;exact n u r (m8 d) H' R l c (m.same c) e
 ·refine q D H' h c ⟨_,f,?_⟩;rw[<-uI (p:=λi=>p (rs.getD i [])) (p':=p) λi r d=>by rw[bEA,j6,d];rfl];exact (aJ7 b 0).imp λ_ _ r=>r.same c
def aEp (hd:Hdr)(n:Str)(cs:List (V × Int))(num:Nat)(r:List V):Bool:=decide (iH (r.getD (plc hd n) .non) cs 1 0=num)
def aF2:Option (List V)->List V->Bool
 |none,_=>true
 |some q,r=>rlt q r
inductive aIc (K:bFP)(vs:List V)(H:Hp)(Q:VK)(E_:XK):Prop
 |mk (vr vm:V) (r:List V) (o:Option (List V)) (ks:List Bool) (_:vs=[vr,vm]) (_:dD K H vr r) (_:aIs K H vm o) (_:KdR ks r) (_:(∀q,o=some q->KdR ks q)) (_:Q (.bl (aF2 o r)) H)
theorem aJ9 (T:Txt w K mg):Ok P w K mg base 1 "is_above" ["row","mark"] (aIc K):=by
 refine Ok.ofV T.aLo aJt (by trivial) (λf k A c s H u Q E m h=>?_)
 obtain⟨n,t,r,o,j,rfl,a,d,i,l,q⟩:=h;have e:=m.units;refine⟨_,(aH (aO (aYq (dB bBb (vv 1) qO (bL _)) (jD (dB (bBu e) (vv 0) (vv 1) (bL _)))))),?_⟩;cases o with
 |none=>cases d;exact⟨_,rfl,rfl,_,rfl,zL (m9 rfl) q⟩
 |some b=>obtain⟨p,rfl,g⟩:=id d;exact⟨_,rfl,rfl,_,rfl,lN (v9 λz=>by cases z) ⟨_,rfl,_,rfl,j,r,b,a,d,i,l b rfl,q⟩⟩
inductive aKw (K:bFP)(vs:List V)(H:Hp)(Q:VK)(E_:XK):Prop
 |mk (v vh vp:V) (L:Addr) (t:Tb) (m:Int) (num:Nat) (n:Str) (h0:Int) (cs:List (V × Int)) (_:vs=[v,.int num]) (_:lZ K H v vh vp L t) (_:mV m t) (_:t.pl=.spans n h0 cs) (_:∀D' H',H D'=none->Same H H'->bU K H' D' (t.rows.filter (aEp t.hd n cs num))->Q (.ref D') H')
def aHc (T:Txt w K mg)(uK:Ok P w K mg base 2 "place_of" ["head","name"] (aBv K))(qP:Ok P w K mg base 1 "cut_of" ["cuts","value"] (vR K)):Ok P w K mg base 3 "span_rows" ["table","number"] (aKw K):=by
 refine Ok.ofV T.aJo vM (by trivial) (λf a0 A J s H vs Q E X h=>?_)
 obtain⟨v,vh,vp,L,t,m,num,n,h0,F,rfl,⟨a,rfl,y,hI,k,d⟩,C,x,q⟩:=h;rw[x] at k;obtain⟨b,vc,rfl,W,M⟩:=k;have o:=C.pl;rw[x] at o;obtain⟨hn,Z,Y,a1,p⟩:=o;have l8:=C.hd.1.2.2;refine⟨_,(aC (bA (i:=2) vM.nd rfl (by trivial) (aN (uK.mono (by decide)) X (by rfl) (aB (aU aY (vv 0) aF (λ_ _=>rfl)) (aB (aU aY (aU (cO (K:=K)) (vv 0) aF (λ_ _=>rfl)) aF (λ_ _=>rfl)) aA)))) (aH (aO (dJ (N:=["row","number","place","table"]) (by trivial) (lJ (aJ qZ) rfl (by decide +kernel)) rfl (jB (aU (cO (K:=K)) (vv 0) aF (λ_ _=>rfl))) (λcl j B fp=>⟨(aX (i:=0) (show (["row","number","place","table"]:List Str).Nodup from by decide +kernel) rfl (Or.inl rfl)),(aMa (bQ gO (aN (qP.mono (by decide)) X (by rfl) (aB (aU (cO (K:=K)) (aU (cO (K:=K)) (vv 3) aF (λ_ _=>rfl)) aF (λ_ _=>rfl)) (aB (aU (cO (K:=K)) (vv 0) (vv 2) (λ_ _=>rfl)) aA))) (vv 1) (bL _))),(vv 0)⟩))))),?_⟩;refine⟨_,rfl,a,_,0,_,rfl,rfl,y,at0 _ _,_,rfl,a,_,1,_,rfl,rfl,y,at1 _ _ _,b,_,1,_,rfl,rfl,W,at1 _ _ _,vh,n,t.hd,Z,rfl,hI,by lia,Y,λH1 g=>?_⟩;dsimp only[cM,tO,List.set];obtain⟨us,gL,a2⟩:=id d;refine vP [none,some (.int num),some (.int (plc t.hd n:Nat)),some (.ref a)] (aOw 1 2 0 (by decide +kernel) (by decide +kernel) (by decide +kernel) rfl rfl rfl rfl rfl rfl (by trivial) (by trivial) (by trivial)) ?_;refine⟨_,rfl,a,_,2,_,rfl,rfl,g.bB y,at2 _ _ _ _,L,rfl,⟨_,SqL.of (g _ _ gL)⟩,aOo (d.same g) (by have:=C.few;lia) (aEp t.hd n F num) rfl (λu r S B R l G U rr=>?_) λD B hN G hD=>q D B (none_of g hN) (g.trans G) hD⟩;obtain⟨ra,rfl,I⟩:=U;obtain⟨v,hv,hg,O⟩:=aT6 (C.rows r S) Y;have j:=g.trans G;refine⟨_,rfl,a,_,1,_,rfl,rfl,j.bB y,at1 _ _ _,b,_,2,_,rfl,rfl,j.bB W,at2 _ _ _ _,_,rfl,_,rfl,ra,r,_,v,rfl,rfl,I,dI hv,vc,v,Z,h0,F,rfl,rK.same j (λ_ _ z=>z.same j) M,p.few,O,λc M=>(p.each c M).1,_,rfl,rfl,_,rfl,?_⟩;have e:decide (V.int (iH v F 1 0:Nat)=V.int num)=aEp t.hd n F num r:=by unfold aEp;rw[hg];exact decide_eq_decide.mpr ⟨λz=>by have:=V.int.inj z;lia,λz=>by rw[z]⟩
 rw[e];exact rr B (Same.refl _)
inductive aM7 (K:bFP)(C:Addr)(vs:List V)(H:Hp)(Q:VK)(E_:XK):Prop
 |mk (x d dm:Addr) (m:Int) (es:List En) (e:En) (mq:Mv) (n:Str) (h0:Int) (cs:List (V × Int)) (_:vs=[.ref x,.str e.n]) (_:bJ K H C x m d dm es) (_:e∈es) (_:MvD K H dm e.n (some mq)) (_:e.t.pl=.spans n h0 cs) (_:(∀q,mq.mark=some q->pX e.t.hd q)) (_:∀D' H',H D'=none->Same H H'->bU K H' D' (e.t.rows.filter λr=>aF2 mq.mark r && aEp e.t.hd n cs mq.num r)->Q (.ref D') H')
def aV3 (T:Txt w K mg)(c:Cls K C)(D:eQ K C "rows_to_come" "Store.rows_to_come" dM ["self","name"])(n1:bR K C "placed")(n3:bR K C "moves")(a1:Ok P w K mg base 3 "span_rows" ["table","number"] (aKw K))(a3:Ok P w K mg base 1 "is_above" ["row","mark"] (aIc K)):OkM P w K mg base C 4 "rows_to_come" ["self","name"] (aM7 K C):=by
 refine OkM.ofV c D jO (by trivial) (λf a0 A z s H vs Q E p h=>?_)
 obtain⟨x,d,dm,m,es,e,y,n,h0,cs,rfl,b,o,⟨Z,v,hm,hk,Y⟩,G,hq,q⟩:=h;have S:=lB p;refine⟨_,(aC (bA (i:=2) jO.nd rfl (by trivial) (iV S (cY (K:=K) (vv 0)) (vv 1) (λ_ _=>rfl))) (aH (aO (dJ (N:=["row","move"]) (by trivial) (lJ (aJ dM) rfl (by decide +kernel)) rfl (jB (aN (a1.mono (by decide)) p (by rfl) (aB (iV S (cY (K:=K) (vv 0)) (vv 1) (λ_ _=>rfl)) (aB (aU aY (vv 2) aF (λ_ _=>rfl)) aA)))) (λcl s' j fp=>⟨(aX (i:=0) (show (["row","move"]:List Str).Nodup from by decide +kernel) rfl (Or.inl rfl)),(aMa (cL (aN (a3.mono (by decide)) p (by rfl) (aB (vv 0) (aB (aU (cO (K:=K)) (vv 1) aF (λ_ _=>rfl)) aA))))),(vv 0)⟩))))),?_⟩;obtain⟨V,M⟩:=b.at_;obtain⟨a,vm,rfl,O,I⟩:=Y;have B:=b.ok e o;refine⟨_,rfl,x,C,V,_,_,rfl,M,c,n3,rfl,_,rfl,dm,_,rfl,.inl ⟨_,Sum.inr e.n,.inl hm,rfl,hk.symm⟩,?_⟩;dsimp only[cM,tO,List.set];refine vP [none,some (.ref a)] (sE 2 (by decide +kernel) rfl rfl (by trivial)) ?_;refine⟨_,rfl,x,C,V,_,_,rfl,M,c,n1,rfl,_,rfl,d,e.v,rfl,.inl ⟨_,Sum.inr e.n,.inl b.ens.at_,rfl,(vD b.ens.nd o).symm⟩,?_⟩;refine⟨_,rfl,a,_,0,_,rfl,rfl,O,at0 _ _,e.v,e.vh,e.vp,e.L,e.t,m,y.num,n,h0,cs,rfl,b.ens.tb e o,B,G,λD1 H1 a4 k W=>?_⟩;obtain⟨us,X,a2⟩:=id W;refine⟨D1,rfl,⟨_,SqL.of X⟩,aOo W (bAK (bDA _ _) (by have:=B.few;lia)) (aF2 y.mark) rfl (λu r F j R l g J rr=>?_) λD' j hN g U=>q D' j (none_of k hN) (k.trans g) (by rw[List.filter_filter] at U;exact U)⟩;refine⟨_,rfl,_,rfl,a,_,2,_,rfl,rfl,(k.trans g).bB O,at2 _ _ _ _,u,vm,r,y.mark,knds e.t.hd,rfl,J,I.same (k.trans g),vW (B.rows r (List.mem_filter.mp F).1),λq' e'=>vW (hq q' e'),_,rfl,rr j (Same.refl _)⟩
end
end My
namespace PySem
def Ris (xs:Array Nat):Prop:=∀a b (ha:a<xs.size) (hb:b<xs.size),a<b->xs[a]<xs[b]
theorem aBs (d:Ris xs):∀fuel lo hi,hi - lo<=fuel->lo<=hi->hi<=xs.size->(∀k h,k<lo->xs[k]<j)->(∀k h,hi<=k->j<=xs[k]) ->
  SetTable.below.go xs j fuel lo hi<=xs.size/\(∀k (h:k<xs.size),k<SetTable.below.go xs j fuel lo hi->xs[k]<j)/\∀k (h:k<xs.size),SetTable.below.go xs j fuel lo hi<=k->j<=xs[k]
 |0,lo,hi,hf,h1,h2,h3,h4=>by
  have e:lo=hi:=by lia
  subst e;exact⟨h2,h3,h4⟩
 |fuel+1,lo,hi,hf,h1,h2,h3,h4=>by
  unfold SetTable.below.go
  split
  ·rename_i i;have m:(lo+hi) / 2<hi:=by lia
   have f:lo<=(lo+hi) / 2:=by lia
   have a:(lo+hi) / 2<xs.size:=by lia
   dsimp only;rw[v8,j9 a,bBQ]
   split
   ·rename_i b;refine aBs d fuel _ _ (by lia) (by lia) h2 (λk c g=>?_) h4;by_cases e:k=(lo+hi) / 2
    ·subst e;exact b
    ·exact bDD (d k _ c a (by lia)) b
   ·rename_i b;refine aBs d fuel _ _ (by lia) (by lia) (by lia) h3 λk c l=>?_;by_cases e:k=(lo+hi) / 2
    ·subst e;lia
    ·exact bAK (Nat.le_of_not_lt b) (bDJ (d _ k a c (by lia)))
  ·have e:lo=hi:=by lia
   subst e;exact⟨h2,h3,h4⟩
def oF (c:Ris xs)(j:Nat):SetTable.below xs j<=xs.size/\(∀k h,k<SetTable.below xs j->xs[k]<j)/\∀k h,SetTable.below xs j<=k->j<=xs[k]:=
 aBs c xs.size 0 xs.size (by lia) (bAE _) (d8 _) (λk _ h=>absurd h (bDQ _)) (λk a b=>absurd a (by lia))
def nP {α:Type}(xs:Array α)(p:Nat)(x:α)(hp:p<=xs.size):(SetTable.insertAt xs p x).toList=xs.toList.take p++x::xs.toList.drop p:=by unfold SetTable.insertAt;rw[bDF,bFM,Array.toList_extract,Array.toList_extract];simp only[List.extract_eq_drop_take,List.drop_zero,Nat.sub_zero,bCS,List.singleton_append];have e:(xs.toList.drop p).take (xs.size - p)=xs.toList.drop p:=bAV (by rw[bBP,v7];exact d8 _);rw[e]
def aCu {xs:Array Nat}:Ris xs↔xs.toList.Pairwise (·<·):=by
 rw[List.pairwise_iff_getElem];unfold Ris;constructor
 ·intro h i j k f d;exact h i j (by simpa using k) (by simpa using f) d
 ·intro h a b e g c;exact h a b (by simpa using e) (by simpa using g) c
def uQ {xs:Array Nat}{j:Nat}(n:Ris xs)(r:xs[SetTable.below xs j]?≠some j):Ris (SetTable.insertAt xs (SetTable.below xs j) j):=by
 obtain⟨o,p,m⟩:=oF n j;rw[aCu,nP _ _ _ o,List.pairwise_append,List.pairwise_cons];have l:=aCu.mp n;have below:∀a∈xs.toList.take (SetTable.below xs j),a<j:=λa d=>by
  obtain⟨i,e,rfl⟩:=bBE d;rw[List.getElem_take];rw[bAH] at e;have f:i<xs.toList.length:=by lia
  exact p i (by simpa using f) (by lia)
 have c:∀a∈xs.toList.drop (SetTable.below xs j),j<a:=λa d=>by
  obtain⟨i,e,rfl⟩:=bBE d;rw[List.getElem_drop];rw[bBP] at e;have k:SetTable.below xs j+i<xs.toList.length:=by lia
  have g:SetTable.below xs j+i<xs.size:=by simpa using k
  have q:=m _ g (bBV _ _);rw[Array.getElem_toList];rcases bFE q with h|h
  ·exact h
  ·exfalso;cases i with
   |zero=>exact r ((j9 g).trans (congrArg some h.symm))
   |succ i=>
    have hb:SetTable.below xs j<xs.size:=by lia
    have s:=m _ hb (d8 _);have t:=n _ _ hb g (by lia);lia
 refine⟨l.sublist (bFH _ _),⟨c,l.sublist (List.drop_sublist _ _)⟩,λa d b hb=>?_⟩;rcases List.mem_cons.mp hb with rfl|hb
 ·exact below a d
 ·exact bDD (below a d) (c b hb)
def aMr {t:SetTable}{j:Nat}(h:t.slot j=.empty):t.place[SetTable.below t.place j]?≠some j:=by unfold SetTable.slot at h;intro e;simp[e] at h
def aF8 {t:SetTable}(hd:t.dummies=#[])(j:Nat):t.slot j≠.dummy:=by
 unfold SetTable.slot;rw[hd];dsimp only
 split
 ·intro z;cases z
 ·have:SetTable.has #[] j=false:=by unfold SetTable.has;simp
  rw[this];intro z;cases z
theorem aKx {t:SetTable}{g:Nat->Int}{h:Int}(hd:t.dummies=#[]):∀(fuel:Nat) (p:SetTable.Probe) (j:Nat) (dm:Option Nat),p.dummy=none->SetTable.probe.go t g h fuel p=some (.empty j dm)->dm=none/\t.slot j=.empty
 |0,p,j,dm,_,e=>by cases e
 |fuel+1,p,j,dm,hp,e=>by
  unfold SetTable.probe.go at e;have b:∀q:SetTable.Probe,q.dummy=none->(t.advance q).dummy=none:=λq c=>by
   unfold SetTable.advance
   split
   ·exact c
   ·exact c
  split at e
  ·rename_i a;cases e;exact⟨hp,a⟩
  ·rename_i a;exact absurd a (aF8 hd _)
  ·split at e
   ·cases e
   ·exact aKx hd fuel _ j dm (b p hp) e
def aJs {t:SetTable}{h:Int}{j:Nat}{b:Bool}(hd:t.dummies=#[])(e:t.freeSlot h=some (j,b)):t.place[SetTable.below t.place j]?≠some j:=by
 unfold SetTable.freeSlot at e
 split at e
 ·rename_i f d a;unfold SetTable.probe at a;obtain⟨rfl,c⟩:=aKx hd _ _ _ _ rfl a;cases e;exact aMr c
 ·cases e
def TabOk (b:Bool)(t:SetTable):Prop:=(b=false->t.led=true)/\t.dummies=#[]/\7<=t.mask/\(t.plain=true->Ris t.place)
def TabOk.stand {b:Bool}{t:SetTable}{n:Nat}(h:TabOk b t)(hn:1<=n):TabOk b (t.standIn n):=⟨h.1,rfl,by show 7<=4 * n+4;lia,λz=>by cases z⟩
def TabOk.off (h:TabOk b t):TabOk b { t with plain:=false }:=⟨h.1,h.2.1,h.2.2.1,λz=>by cases z⟩
def TabOk.new {b:Bool}{t:SetTable}{es:Array (Int × Value)}{h:Int}{x:Value}(c:TabOk b t):TabOk b (layNew t es h x).2.1:=by
 unfold layNew
 split
 ·rename_i a g e;have f:=aJs c.2.1 e;dsimp only[SetTable.put];have d:(if SetTable.has t.dummies a=true then SetTable.eraseAt t.dummies (SetTable.below t.dummies a) else t.dummies)=#[]:=by
   rw[c.2.1];have:SetTable.has #[] a=false:=by unfold SetTable.has;simp
   rw[this];rfl
  rw[d];unfold SetTable.orStandIn
  split
  ·exact⟨c.1,rfl,c.2.2.1,λz=>uQ (c.2.2.2 z) f⟩
  ·refine TabOk.stand ⟨c.1,rfl,c.2.2.1,λz=>uQ (c.2.2.2 z) f⟩ ?_;unfold SetTable.insertAt;simp only[Array.size_append,Array.size_push,Array.size_extract];lia
 ·exact c.stand (Nat.succ_le_succ (bAE _))
def TabOk.room (c:TabOk b t)(a:t.fits n=true)(hn:n<=4):t.tooFull=false:=by unfold SetTable.fits at a;rw[bAQ,beq_iff_eq] at a;unfold SetTable.tooFull SetTable.fill;rw[a.1,c.2.1];have:=c.2.2.1;simp only[Array.size_empty,Nat.add_zero,decide_eq_false_iff_not];lia
theorem mY {α β:Type}{R:α->β->Prop}{bs' bs:List β}(p:bs'.Perm bs):∀{as:List α},Paired R as bs->∃as',Paired R as' bs'/\as'.Perm as:=by
 induction p with
 |nil=>intro as h;exact⟨as,h,.refl _⟩
 |cons x _ ih=>
  intro as h;cases h with
  |cons r t=>obtain⟨as',b,a⟩:=ih t;exact⟨_,.cons r b,a.cons _⟩
 |swap x y l=>
  intro as h;cases h with
  |cons r t=>
   cases t with
   |cons r2 t2=>exact⟨_,.cons r2 (.cons r t2),.swap ..⟩
 |trans _ _ ih1 ih2=>intro as h;obtain⟨f,b,a⟩:=ih2 h;obtain⟨c,e,d⟩:=ih1 b;exact⟨c,e,d.trans a⟩
theorem qR {α β:Type}{R:α->β->Prop}{as:List α}{bs:List β}{a:α}{b:β}(h:Paired R as bs)(r:R a b):Paired R (as++[a]) (bs++[b]):=by
 induction h with
 |nil=>exact .cons r .nil
 |cons q _ ih=>exact .cons q ih
theorem zA {α β:Type}{R:α->β->Prop}{as:List α}{bs:List β}(h:Paired R as bs):∀a∈as,∃b∈bs,R a b:=by
 induction h with
 |nil=>intro a ha;cases ha
 |cons q _ ih=>
  intro a ha;rcases List.mem_cons.mp ha with rfl|ha
  ·exact⟨_,j7,q⟩
  ·obtain⟨b,c,r⟩:=ih a ha;exact⟨b,j5 _ c,r⟩
theorem mZ {α β:Type}{R:α->β->Prop}{as:List α}{bs:List β}(h:Paired R as bs):∀b∈bs,∃a∈as,R a b:=by
 induction h with
 |nil=>intro a c;cases c
 |cons q _ ih=>
  intro b hb;rcases List.mem_cons.mp hb with rfl|hb
  ·exact⟨_,j7,q⟩
  ·obtain⟨a,c,r⟩:=ih b hb;exact⟨a,j5 _ c,r⟩
section
variable {prog:Program}{w:World}{κ:Type}[DecidableEq κ]{knd:KeyKind prog w κ}{A:Around}{E:bFQ}{s:Shared}
def byT (w:World):Bool:=w.params.followText "set-order"
abbrev ElK (knd:KeyKind prog w κ):κ->Int × Value->Prop:=λk e=>knd.is k e.2=true/\e.1=knd.hash k/\e.2.scannable=true
def wG (knd:KeyKind prog w κ)(h:Heap)(D:Addr)(kl:List κ):Prop:=∃o es ep t,h.get? D=some o/\o.ExactSet/\o.data=.set es ep t/\t.fits es.size=true/\TabOk (byT w) t/\Paired (ElK knd) kl es.toList
def wG.at (x:wG knd h D kl)(e:∀o,h.get? D=some o->h'.get? D=some o):wG knd h' D kl:=by obtain⟨o,c,a,t,b,r⟩:=x;exact⟨o,c,a,t,e o b,r⟩
theorem aUh (I:knd.is k x=true)(G:x.scannable=true)(hS:wG knd s.heap D kl)(hroom:kl.length<4)
  (h:∀h' kl' b,Heap.SameBut D s.heap h'->wG knd h' D kl'->kl'.Perm (if k∈kl then kl else kl++[k])->Q b { s with heap:=h' }):wpAny (model prog w) A (setAddHashed D x (knd.hash k)) Q E s:=by
 obtain⟨o,l,Y,t,C,H,hd,M,F,p⟩:=hS;have hn:kl.length=l.size:=by rw[Paired.length p,v7]
 have B:ElemsOf knd l.toList:=λe O=>by obtain⟨V,_,J,r2,r3⟩:=mZ p e O;exact⟨⟨V,J,r2⟩,r3⟩
 have hb:l.size<scanBound:=by unfold scanBound;lia
 unfold setAddHashed setAddHashedIn;refine bAS (b7 (bBK C hd M ?_));dsimp only;rw[byScan_of G hb B];simp only[↓reduceIte];unfold setAddByScan;refine b7 (b7 (bCY (b7 (wpAny_setScan_of I C hd M B ?_))));cases Z:List.findIdx? (λe=>knd.is k e.2) l.toList with
 |some j=>
  dsimp only;obtain⟨hj,W,_⟩:=List.findIdx?_eq_some_iff_getElem.mp Z;obtain⟨V,U,J,_⟩:=mZ p _ (bAP hj);have K:k∈kl:=by rw[knd.inj _ k V W J];exact U
  refine d7 (d7 ?_);have e:s={ s with heap:=s.heap }:=by cases s;rfl
  rw[e];exact h s.heap kl _ (Heap.SameBut.refl D s.heap) ⟨o,l,Y,t,C,H,hd,M,F,p⟩ (by rw[if_pos K])
 |none=>
  dsimp only;have v:k∉kl:=λz=>by obtain⟨e,O,J,_⟩:=zA p k z;have:=List.findIdx?_eq_none_iff.mp Z e O;rw[J] at this;cases this
  have P:∀b {g:Shared} {X:Unit->Shared->Prop},X () g->wpAny (model prog w) A (match b with|true=>rule "set.scan.the-table-gave-way"|false=>pure ()) X E g:=λb g X hq=>match b with
   |true=>bCY hq
   |false=>d7 hq
  have a:=layNew_perm t l (knd.hash k) x;have c:=layNew_fits t l (knd.hash k) x;have d:TabOk (byT w) (layNew t l (knd.hash k) x).2.1:=F.new;generalize hL:layNew t l (knd.hash k) x=L at a c d ⊢;obtain⟨f,T,n,a0⟩:=L;dsimp only at a c d ⊢;rw[bFM] at a;obtain⟨kl',S,pm⟩:=mY a (qR p (show ElK knd k (knd.hash k,x) from ⟨I,rfl,G⟩));have a1:f.size=l.size+1:=by rw[<-v7,a.length_eq,bAA,v7];rfl
  refine b7 (P _ ?_);have y:∀i:SetTable,TabOk (byT w) i->i.fits f.size=true->∀(R:Option Bool->Shared->Prop),(∀h',Heap.SameBut D s.heap h'->wG knd h' D kl'->R (some true) { s with heap:=h' }) ->
    wpAny (model prog w) A (storeSet D f i) (λ_ g=>i.tooFull=false/\R (some true) g) E s:=λi h2 f2 R hR=>by
   refine bFN C hd ⟨h2.room f2 (by lia),?_⟩ (fits_of_scanBound (by unfold scanBound;lia));have hg:=bBI (Obj.putSet f i) C (by rw[putSet_of f i hd];rfl);rw[putSet_of f i hd] at hg;exact hR _ (bAX s.heap D (Obj.putSet f i)) ⟨_,f,Y+1,i,hg,H,rfl,f2,h2,S⟩
  have m:∀h',Heap.SameBut D s.heap h'->wG knd h' D kl'->Q true { s with heap:=h' }:=λh' u q=>h h' kl' true u q (by rw[if_neg v];exact pm)
  split
  ·refine b7 ?_;rw[hashByValue_scannable 8 G];refine d7 ?_;refine b7 (bBN (y (if plainKind x=true then T else { T with plain:=false }) (by split;exact d;exact d.off) (by split;exact c;exact SetTable.fits_plain_off c) (λr g=>wpAny (model prog w) A (match r with|some b=>pure b|none=>unsupported "x") Q E g) λh' u q=>d7 (m h' u q)) (λ_ g ⟨N,q⟩=>?_) λ_ _ z=>z);rw[N];simp only[Bool.and_false,bBD,↓reduceIte];exact d7 q
  ·refine b7 (d7 ?_);simp only[↓reduceIte];refine b7 (bBN (y T d c (λr g=>wpAny (model prog w) A (match r with|some b=>pure b|none=>unsupported "x") Q E g) λh' u q=>d7 (m h' u q)) (λ_ g ⟨N,q⟩=>?_) λ_ _ z=>z);rw[N];simp only[Bool.and_false,bBD,↓reduceIte];exact d7 q
def Ded (kl xs:List κ):Prop:=kl.Nodup/\(∀k,k∈kl↔k∈xs)/\kl.length<=xs.length
def Ded.more {l kl' xs:List κ}{k:κ}(h:Ded l xs)(p:kl'.Perm (if k∈l then l else l++[k])):Ded kl' (xs++[k]):=by
 obtain⟨g,d,j⟩:=h;by_cases c:k∈l
 ·rw[if_pos c] at p;refine⟨p.nodup_iff.mpr g,λy=>?_,by rw[p.length_eq,bAA];lia⟩;rw[p.mem_iff,d,List.mem_append,bCZ];exact⟨.inl,λz=>z.elim id λe=>e ▸ (d k).mp c⟩
 ·rw[if_neg c] at p;refine⟨p.nodup_iff.mpr (List.nodup_append.mpr ⟨g,by simp,λa i b f e=>?_⟩),λy=>?_,by rw[p.length_eq,bAA,bAA];exact Nat.add_le_add_right j _⟩
  ·rw[bCZ] at f;exact c (f ▸ e ▸ i)
  ·rw[p.mem_iff,List.mem_append,List.mem_append,d]
def aU1 (d:h.get? D=some (bI (!byT w))):wG knd h D []:=by refine⟨_,#[],0,_,d,⟨rfl,rfl,rfl⟩,rfl,rfl,⟨λe=>?_,rfl,d8 _,λ_=>λa b c=>absurd c (by show ¬ (a<0);lia)⟩,.nil⟩;rw[e];rfl
def aKc (a:Value)(h:Q₁ (.ref s.heap.objs.size) { s with heap:=s.heap.push (bI (!byT w)) }):codeAny (model prog w) A (.call (.builtin "set.__new__") ⟨[.type "set",a],[]⟩) (wants Q₁ E) s:=by have b:=sub_set_self;refine codeAny_of_tree (show wpAny _ A.in1 (do checkBuiltinCall "set.__new__" ⟨[.type "set",a],[]⟩;again (.builtin "set.__new__" ⟨[.type "set",a],[]⟩)) _ _ s from b7 (bEM (F.newCall_set_1 a) (d7 ⟨bCE F.plain_set_new _,bBG F.entry_set_new ?_⟩)));rw[bAZ F.plain_set_new _];unfold Builtin.«set.__new__» Builtin.Frozenset.newClass;obtain⟨f,g,d,e,c⟩:=s;dsimp only;wp_walk;refine bDI (d7 ?_);dsimp only;simp only[newObj];exact b7 (wpAny_alloc (d7 (d7 h)))
def Ex (h0 h:Heap):Prop:=∀b o,h0.get? b=some o->h.get? b=some o
structure Kset (prog:Program)(w:World)(κ:Type)[DecidableEq κ](A:Around)(h0:Heap)(D:Addr)(S:Heap->List κ->Prop)(V:κ->Value->Prop)(m:Nat):Prop where
 at_:∀{h h':Heap} {kl:List κ},S h kl->(∀o,h.get? D=some o->h'.get? D=some o)->S h' kl
 add:∀{A':Around} {E:bFQ} {s:Shared} {kl:List κ} {k:κ} {v:Value} {Q:Bool->Shared->Prop},A'.units<=A.units+9->Ex h0 s.heap->V k v->S s.heap kl->kl.length<m->(∀h' tk kl' b,Heap.SameBut D s.heap h'->S h' kl'->kl'.Perm (if k∈kl then kl else kl++[k])->Q b { s with heap:=h',toks:=tk })->wpAny (model prog w) A' (setAdd D v) Q E s
 new:∀{h:Heap},h.get? D=some (bI (!byT w))->S h []
variable {S:Heap->List κ->Prop}{V:κ->Value->Prop}{m:Nat}{h0:Heap}{A0:Around}
theorem aRc (W:Walks prog w A.in1 I fp wr n P St)(H:D∉fp)(Z:Kset prog w κ A0 h0 D S V m)(hA:A.units+1<=A0.units+9)(T:∀b∈D::wr,h0.get? b=none)
  (ks:List κ) (G:ks.length=n) (F:∀i v,P i v->∃k,ks[i]?=some k/\V k v) (J:n<=m) :
  ∀k i s kl,i+k=n->St i s.heap->Ex h0 s.heap->S s.heap kl->Ded kl (ks.take i) ->
   (∀h' tk kl',(∀b o,b∉D::wr->s.heap.get? b=some o->h'.get? b=some o)->S h' kl'->Ded kl' ks->R (.ok (.ret .none)) { s with heap:=h',toks:=tk }) ->
   codeAny (model prog w) A (.builtin "set.update.loop" ⟨[.ref D,.ref I],[]⟩) R s:=by
 have h:D∉wr:=λq=>H (W.sub _ q);have j:∀{b:Addr} {o:Obj},h0.get? b=some o->b∉D::wr:=λe z=>by rw[T _ z] at e;cases e
 intro k
 induction k with
 |zero=>
  intro i s kl K E p y g q;obtain rfl:i=n:=by lia
  refine bBG bBW ?_;rw[bAZ bAY _];refine b7 (W.done s _ _ E λh' tk l=>?_);rw[bAV (bFB G)] at g;exact d7 (q h' tk kl (λb o c e=>l b o (λz=>c (j5 _ z)) e) (Z.at_ y λo e=>l D o h e) g)
 |succ k ih=>
  intro i s kl K E p y g q;refine bBG bBW ?_;rw[bAZ bAY _];refine b7 (W.item i s _ _ (by lia) E λv M N X B a=>?_);obtain⟨U,L,u⟩:=F i v X;have r:Ex h0 M:=λb o e=>a b o (λz=>j e (j5 _ z)) (p b o e);show wpAny _ A.in1 (holding [v] (setAdd D v) >>= _) _ _ _;refine b7 (bAS ?_);have lt:(ks.take i).length=i:=by rw[bAH];lia
  refine Z.add hA r u (Z.at_ y λo e=>a D o h e) (by have:=g.2.2;lia) λQ a0 t b2 f x O=>?_;have et:ks.take (i+1)=ks.take i++[U]:=by rw[bBB,L];rfl
  have d:∀b o,b∉D::wr->s.heap.get? b=some o->Q.get? b=some o:=λb o c e=>by rw[f.2 b (λz=>c (by rw[z];exact j7))];exact a b o (λz=>c (j5 _ z)) e
  refine d7 ⟨bCE bAY _,ih (i+1) _ t (by lia) (W.frame _ _ _ B λb J o e=>?_) (λb o e=>d b o (j e) (p b o e)) x (by rw[et];exact g.more O) λh' tk kl' l C Y=>q h' tk kl' (λb o c e=>l b o c (d b o c e)) C Y⟩;rw[f.2 b (λz=>H (by rw[<-z];exact J))];exact e
def aRu {A:Around}{R:Fin->Shared->Prop}{E:bFQ}{s:Shared}{l:Addr}{its:Array Value}{ks:List κ}(H:A.handled=none)(Z:Kset prog w κ A0 s.heap s.heap.objs.size S V m)(T:A.units+1<=A0.units+9)(O:s.heap.IsList l its)(B:ks.length=its.size)
  (C:∀(i:Nat) (v:Value),its[i]?=some v->∃k,ks[i]?=some k/\V k v) (a:its.size<=m)
  (q:∀h' tk kl,S h' kl->Ded kl ks->(∀b o,b<s.heap.objs.size->s.heap.get? b=some o->h'.get? b=some o)->R (.done (.ret .none)) { s with heap:=h',toks:=tk }) :
  wpAny (model prog w) A (Builtin.«set.__init__» ⟨[.ref s.heap.objs.size,.ref l],[]⟩) R E { s with heap:=s.heap.push (bI (!byT w)) }:=by
 obtain⟨⟨M,K,W,r⟩,h,g,z,c⟩:=id O;simp only at g c;subst g c;have D:(s.heap.push (bI (!byT w))).get? s.heap.objs.size=some (bI (!byT w)):=j0 _ rfl;have Q:Shared.TypeIs { s with heap:=s.heap.push (bI (!byT w)) } (.ref s.heap.objs.size) "set":=⟨_,D,rfl⟩;have j:(s.heap.push (bI (!byT w))).get? l=some { cls:=.type "list",dict:=K,data:=.seq its z,slots:=r }:=c7 _ h;have N:=F.sub_list_set;have U:=F.sub_list_frozenset;have P:(Value.type "list" == Value.type "dict")=false:=by decide
 have f:(s.heap.push (bI (!byT w))).IsList l its:=⟨_,j,rfl,z,rfl⟩;have d:l<s.heap.objs.size:=j8 h;unfold Builtin.«set.__init__» noKeywords Builtin.Frozenset.updateFrom;generalize t:pyIter=PI;wp_walk;subst t;refine bCF f ?_;refine b7 (wpAny_runValue ?_);have p:(s.heap.push (bI (!byT w))).objs.size=s.heap.objs.size+1:=bAW ..;have u:l≠(s.heap.push (bI (!byT w))).objs.size:=by rw[p];exact t6 (bBA d)
 have y:s.heap.objs.size∉[(s.heap.push (bI (!byT w))).objs.size,l]:=by rw[p];simp only[bAD,w6,or_false,not_or];exact⟨t6 (bCM _),bCP d⟩
 have G:∀b,s.heap.objs.size<=b->s.heap.get? b=none:=λb a=>by
  cases e:s.heap.get? b with
  |none=>rfl
  |some o=>exact absurd (j8 e) (Nat.not_lt.mpr a)
 refine aRc (Walks.list (by first|exact H|simp[H]) _ l u its) y Z T (λb a=>?_) ks B C a its.size 0 _ [] (by lia) ⟨⟨_,j0 _ rfl,rfl,rfl⟩,f.push _⟩ (λb o e=>c7 _ (c7 _ e)) ?_ ⟨List.nodup_nil,λk=>by simp,bAE _⟩ λh' tk kl L x I=>?_
 ·rw[p] at a;simp only[bAD,w6,or_false] at a;rcases a with rfl|rfl
  ·exact G _ (d8 _)
  ·exact G _ (bEL _)
 ·have J:((s.heap.push (bI (!byT w))).push { cls:=.type "list_iterator",data:=.fields #[.ref l,.int 0 0] }).get? s.heap.objs.size=some (bI (!byT w)):=c7 _ D;exact Z.new J
 ·refine d7 (d7 (q h' tk kl x I λb o n e=>L b o ?_ (c7 _ (c7 _ e))));rw[p];simp only[bAD,w6,or_false,not_or];exact⟨t6 n,t6 (bBA n)⟩
def aFj {l:Addr}{its:Array Value}{ks:List κ}{Q:bFQ}(y:A.handled=none)(Z:Kset prog w κ A s.heap s.heap.objs.size S V m)(M:s.heap.IsList l its)(p:ks.length=its.size)
  (u:∀(i:Nat) (v:Value),its[i]?=some v->∃k,ks[i]?=some k/\V k v) (J:its.size<=m)
  (q:∀h' tk kl,S h' kl->Ded kl ks->(∀b o,b<s.heap.objs.size->s.heap.get? b=some o->h'.get? b=some o)->Q (.ref s.heap.objs.size) { s with heap:=h',toks:=tk }) :
  wpAny (model prog w) A (call (.type "set") [.ref l]) Q E s:=by
 have d:=F.called_set;obtain⟨c,K,t⟩:=d.mro;have G:=d.made;have N:=d.sub;have L:=d.notType;have H:=d.canCreate;have I:=F.typeCall_set_1 (.ref l);refine bEZ (codeAny_of_tree (show wpAny _ _ (callAny (.type "set") _) _ _ _ from d7 ⟨Code.quiet_builtin _ (by decide +kernel),bBG F.entry_type_call ?_⟩));rw[Around.under_plain (weight_type_call_type "set" [.ref l] []) (by rfl)]
 repeat (any_goals (first|assumption|wp_step))
 refine bCQ (aKc (.ref l) (Q₁:=λobj j=>obj=.ref s.heap.objs.size/\j={ s with heap:=s.heap.push (bI (!byT w)) }) (E:=E) ⟨rfl,rfl⟩) λr j f=>?_;rcases r with e|fl
 ·exact f
 rcases fl with _|_|_|obj
 ·exact f.elim
 ·exact f.elim
 ·exact f.elim
 obtain⟨rfl,rfl⟩:=f;have B:Shared.TypeIs { s with heap:=s.heap.push (bI (!byT w)) } (.ref s.heap.objs.size) "set":=⟨_,j0 _ rfl,rfl⟩;have C:=d.init.lookup;have D:=d.init.bind (.ref s.heap.objs.size)
 repeat (any_goals (first|assumption|wp_step))
 refine bCQ (bDV (R:=wants (λr n=>r=.none/\∃h' tk kl,n={ s with heap:=h',toks:=tk }/\S h' kl/\Ded kl ks/\∀b o,b<s.heap.objs.size->s.heap.get? b=some o->h'.get? b=some o) E)
  d.init.plain F.entry_set_init (check_set_init_1 B (aRu (by first|exact y|simp[y]) Z (by simp only[Around.in1_units];lia) M p u J λh' tk kl x h g=>⟨rfl,h',tk,kl,rfl,x,h,g⟩))) λz n a=>?_
 rcases z with e|fl
 ·exact a
 rcases fl with _|_|_|v
 ·exact a.elim
 ·exact a.elim
 ·exact a.elim
 obtain⟨rfl,h',tk,kl,rfl,x,h,g⟩:=a
 repeat (any_goals (first|assumption|wp_step))
 exact q h' tk kl x h g
def aY8 (A:Around)(h0:Heap)(D:Addr):Kset prog w κ A h0 D (λh kl=>wG knd h D kl) (λk v=>knd.is k v=true/\v.scannable=true) 4:=⟨λx e=>x.at e,λ_ _ c j l q=>by unfold setAdd;exact bAS (b7 (knd.pyHash c.1 (aUh c.1 c.2 j l λg a i b d f=>q g _ a i b d f))),aU1⟩
def aPx (f:A.handled=none)(e:s.heap.IsList l its)(c:ks.length=its.size)
  (a:∀(i:Nat) (v:Value),its[i]?=some v->∃k,ks[i]?=some k/\knd.is k v=true/\v.scannable=true) (d:its.size<=4)
  (q:∀h' tk kl,wG knd h' s.heap.objs.size kl->Ded kl ks->(∀b o,b<s.heap.objs.size->s.heap.get? b=some o->h'.get? b=some o)->Q (.ref s.heap.objs.size) { s with heap:=h',toks:=tk }) :
  wpAny (model prog w) A (call (.type "set") [.ref l]) Q E s:=aFj f (aY8 A s.heap s.heap.objs.size) e c a d q
end
end PySem
namespace PySem
section
variable {prog:Program}{w:World}{A:Around}{E:bFQ}{s:Shared}
theorem uP {α:Type}:∀(l:List α) (i:Nat) (h:i<l.length),(l[i]::l.eraseIdx i).Perm l
 |x::l,0,_=>.refl _
 |x::l,i+1,h=>by have a:=uP l i (Nat.lt_of_succ_lt_succ h);exact (List.Perm.swap x _ (l.eraseIdx i)).trans (a.cons x)
def aGv (a:n≠0)(h:∀i dr,i<n->Q i { s with drawn:=dr }):wpAny (model prog w) A (choose src n) Q E s:=
 λ_ _ _=>⟨a,h _ _ (Nat.mod_lt _ (Nat.pos_of_ne_zero a))⟩
theorem pQ {α:Type}:∀(n:Nat) (xs:List α) (s:Shared) (Q:List α->Shared->Prop),xs.length=n->(∀ys dr,ys.Perm xs->Q ys { s with drawn:=dr })->wpAny (model prog w) A (drawOrder n xs) Q E s
 |0,xs,s,Q,hl,h=>by have e:=bCR hl;subst e;unfold drawOrder;exact d7 (h [] s.drawn (.refl _))
 |n+1,xs,s,Q,hl,h=>by
  cases xs with
  |nil=>cases hl
  |cons x xs=>unfold drawOrder;refine b7 (aGv (by rw[hl];lia) λi dr a=>?_);rw[b8 a];dsimp only;refine b7 (pQ n _ _ _ (by rw[bFF a,hl];rfl) λys b p=>d7 ?_);refine h _ b ?_;have e:=uP _ _ a;exact (p.cons _).trans e
theorem aOn {α:Type}(b:Nat->Nat):∀(fuel k:Nat) (left:List α) (out:Array α),left.length=fuel->(pickOrder.go b fuel k left out).toList.Perm (out.toList++left)
 |0,k,left,out,h=>by have e:left=[]:=bCR h;subst e;unfold pickOrder.go;rw[bCV]
 |fuel+1,k,left,out,h=>by have a:b k % left.length<left.length:=Nat.mod_lt _ (by lia);unfold pickOrder.go;rw[b8 a];dsimp only;refine (aOn b fuel (k+1) _ _ (by rw[bFF a,h];rfl)).trans ?_;rw[bFM,bCS];exact List.Perm.append_left _ (uP _ _ a)
def xQ {α:Type}(a:Nat->Nat)(xs:Array α):(pickOrder a xs).toList.Perm xs.toList:=by unfold pickOrder;exact aOn a xs.size 0 xs.toList #[] (by rw[v7])
end
def bZ:Slot "set_iterator" "__next__" "set_iterator.__next__":=.of (owner:="set_iterator") (n:="__next__") (by rw[typeLookup_type,builtinLookup_eq_fast];kernel_rfl) (by decide +kernel) (by decide +kernel) (by decide +kernel) (by first|exact .inl (by decide +kernel)|exact .inr (by decide +kernel)) (by rw[isSubtype_type];kernel_rfl)
def qQ:Slot "set_iterator" "__iter__" "set_iterator.__iter__":=.of (owner:="set_iterator") (n:="__iter__") (by rw[typeLookup_type,builtinLookup_eq_fast];kernel_rfl) (by decide +kernel) (by decide +kernel) (by decide +kernel) (by first|exact .inl (by decide +kernel)|exact .inr (by decide +kernel)) (by rw[isSubtype_type];kernel_rfl)
def iB:entryFor table "set_iterator.__next__"=some Builtin.«set_iterator.__next__»:=entryFor_of_tree (by kernel_rfl)
def zT:entryFor table "set_iterator.__iter__"=some Builtin.«dict_keyiterator.__iter__»:=entryFor_alias (id':="dict_keyiterator.__iter__") (by kernel_rfl) rfl (by decide +kernel) (by kernel_rfl)
def aB0:entryFor table "set.__iter__"=some Builtin.«frozenset.__iter__»:=entryFor_alias (id':="frozenset.__iter__") (by kernel_rfl) rfl (by decide +kernel) (by kernel_rfl)
def aB5:Manifest.owners.lookup (String.ofList ['r','o','t','a','r','e','t','i','_','t','e','s'].reverse)=some Manifest.sig_set_iterator:=by kernel_rfl
def jJ (a:Value):argsOk "set_iterator.__next__" ⟨[a],[]⟩:=by unfold argsOk;rw[signature?_of (id:="set_iterator.__next__") (n:=['_','_','t','x','e','n','_','_']) (o:=['r','o','t','a','r','e','t','i','_','t','e','s']) (by kernel_rfl) aB5];kernel_rfl
def aBl (a:Value):argsOk "set_iterator.__iter__" ⟨[a],[]⟩:=by unfold argsOk;rw[signature?_of (id:="set_iterator.__iter__") (n:=['_','_','r','e','t','i','_','_']) (o:=['r','o','t','a','r','e','t','i','_','t','e','s']) (by kernel_rfl) aB5];kernel_rfl
section
variable {prog:Program}{w:World}{A:Around}{E:bFQ}{s:Shared}
def fM (h:Heap)(I:Addr)(first:Value)(i:Nat)(D:Addr)(n ep:Nat):Prop:=h.get? I=some { cls:=.type "set_iterator",data:=.fields #[first,.int i 0,.ref D,.int n 0,.int ep 0] }
def uC (h:Heap)(D:Addr)(es:Array (Int × Value))(ep:Nat)(t:SetTable):Prop:=∃o,h.get? D=some o/\o.ExactSet/\o.data=.set es ep t/\t.fits es.size=true
def aGy (prog:Program)(w:World)(D:Addr)(es:Array (Int × Value))(ep:Nat)(t:SetTable)(slot i:Nat)(r:Option (Value × Nat)):Prop:=
 ∀A E s Q,uC s.heap D es ep t->Q r s->wpAny (model prog w) A (setNext D slot i ep) Q E s
def aFu {I D:Addr}{es:Array (Int × Value)}{ep slot i a:Nat}{t:SetTable}{x:Value}{Q:Option Value->Shared->Prop}(f:fM s.heap I (.int slot 0) i D es.size ep)(v:uC s.heap D es ep t)(hne:D≠I)
  (nx:aGy prog w D es ep t slot i (some (x,a)))
  (q:∀h',fM h' I (.int a 0) (i+1) D es.size ep->(∀b o,b≠I->s.heap.get? b=some o->h'.get? b=some o)->Q (some x) { s with heap:=h' }):wpAny (model prog w) A (pyNext (.ref I)) Q E s:=by
 have g:s.TypeIs (.ref I) "set_iterator":=⟨_,f,rfl⟩;obtain⟨o,u,p,hd,h⟩:=id v;unfold pyNext;refine b7 (bCD (bAI g bZ (bAG bZ g iB (b7 (d7 (b7 (bDX f rfl ?_)))) (jJ _))));refine b7 (bDG u hd h ?_);dsimp only;rw[if_neg (by simp)];simp only[bAR];refine b7 (nx _ _ _ _ v ?_);dsimp only;refine b7 (bAL f (by simp) λy r j=>?_);have m:fM y I (.int a 0) i D es.size ep:=by simpa [rawInt,fM] using r
 refine b7 (bAL m (by simp) λc l k=>?_);have n:fM c I (.int a 0) (i+1) D es.size ep:=by
  have z:((i+1:Nat):Int)=(i:Int)+1:=by lia
  unfold fM;rw[z];simpa [rawInt] using l
 exact d7 ⟨_,rfl,d7 (q c n λb o d e=>k.extBut b o d (j.extBut b o d e))⟩
def aEx {I D:Addr}{es:Array (Int × Value)}{ep slot i:Nat}{t:SetTable}{Q:Option Value->Shared->Prop}(h:A.handled=none)(a:fM s.heap I (.int slot 0) i D es.size ep)(g:uC s.heap D es ep t)
  (nx:aGy prog w D es ep t slot i none) (q:∀h',(∀b o,b≠I->s.heap.get? b=some o->h'.get? b=some o)->Q none { s with heap:=h' }):wpAny (model prog w) A (pyNext (.ref I)) Q E s:=by
 have c:s.TypeIs (.ref I) "set_iterator":=⟨_,a,rfl⟩;obtain⟨o,f,e,hd,d⟩:=id g;unfold pyNext;refine b7 (bCD (bAI c bZ (bAG bZ c iB (b7 (d7 (b7 (bDX a rfl ?_)))) (jJ _))));refine b7 (bDG f hd d ?_);dsimp only;rw[if_neg (by simp)];simp only[bAR];refine b7 (nx _ _ _ _ g ?_);dsimp only;refine b7 (bDH a rfl (by simp) ?_);refine b7 ?_;simp only[newExc,newTuple,raiseNew];refine b7 (bAO ?_ (by size_fits));refine b7 (bEM (by simp only[firstArgMember];rfl) ?_);refine bAO (b7 (bE3 ?_)) (by size_fits);rw[show A.in1.handled=none from h];refine b7 (d7 (bFI ?_));refine b7 (bCX ⟨_,j0 _ rfl,rfl⟩ isSubtype_stop ?_);exact d7 (q _ (((bAX ..).extBut.push _).push _))
def aMe {I D T:Addr}{es:Array (Int × Value)}{ep i j:Nat}{t:SetTable}{pl:Array Value}{e:Int × Value}{Q:Option Value->Shared->Prop}(d:fM s.heap I (.ref T) i D es.size ep)(v:uC s.heap D es ep t)(p:s.heap.get? T=some { cls:=.type "tuple",data:=.seq pl })
  (r:pl[i]?=some (.int j 0)) (u:es[j]?=some e)
  (q:∀h',fM h' I (.ref T) (i+1) D es.size ep->(∀b o,b≠I->s.heap.get? b=some o->h'.get? b=some o)->Q (some e.2) { s with heap:=h' }):wpAny (model prog w) A (pyNext (.ref I)) Q E s:=by
 have g:s.TypeIs (.ref I) "set_iterator":=⟨_,d,rfl⟩;obtain⟨o,f,n,hd,c⟩:=id v;unfold pyNext;refine b7 (bCD (bAI g bZ (bAG bZ g iB (b7 (d7 (b7 (bDX d rfl ?_)))) (jJ _))));refine b7 (bDG f hd c ?_);dsimp only;rw[if_neg (by simp)];simp only[bAR];refine b7 (bAU p rfl ?_);dsimp only;rw[r];dsimp only;unfold setNextDrawn;refine b7 (b7 (bBK f hd c ?_));dsimp only;rw[if_neg (by simp)];refine b7 (d7 ?_);simp only[bAR,u];refine d7 (b7 (bAL d (by simp) λa l h=>?_));have m:fM a I (.ref T) (i+1) D es.size ep:=by
  have z:((i+1:Nat):Int)=(i:Int)+1:=by lia
  unfold fM;rw[z];simpa [rawInt] using l
 exact d7 ⟨_,rfl,d7 (q a m λb o k e=>h.extBut b o k e)⟩
def aL5 (n:A.handled=none)(c:fM s.heap I (.ref T) i D es.size ep)(r:uC s.heap D es ep t)(l:s.heap.get? T=some { cls:=.type "tuple",data:=.seq pl })
  (p:pl[i]?=none) (q:∀h',(∀b o,b≠I->s.heap.get? b=some o->h'.get? b=some o)->Q none { s with heap:=h' }):wpAny (model prog w) A (pyNext (.ref I)) Q E s:=by
 have d:s.TypeIs (.ref I) "set_iterator":=⟨_,c,rfl⟩;obtain⟨o,k,j,hd,g⟩:=id r;unfold pyNext;refine b7 (bCD (bAI d bZ (bAG bZ d iB (b7 (d7 (b7 (bDX c rfl ?_)))) (jJ _))));refine b7 (bDG k hd g ?_);dsimp only;rw[if_neg (by simp)];simp only[bAR];refine b7 (bAU l rfl ?_);dsimp only;rw[p];dsimp only;refine b7 (bAL c (by simp) λm f h=>?_);refine b7 (bDH f rfl (by simp) ?_);refine b7 ?_;simp only[newExc,newTuple,raiseNew];refine b7 (bAO ?_ (by size_fits));refine b7 (bEM (by simp only[firstArgMember];rfl) ?_);refine bAO (b7 (bE3 ?_)) (by size_fits);rw[show A.in1.handled=none from n];refine b7 (d7 (bFI ?_));refine b7 (bCX ⟨_,j0 _ rfl,rfl⟩ isSubtype_stop ?_);refine d7 (q _ λb o a e=>((((bAX ..).extBut.push _).push _)) b o a (h.extBut b o a e))
def aFt (g:byT w=true):aGy prog w D es ep t slot i (((pickOrder (w.params.setOrder D ep) es)[i]?).map λe=>(e.2,slot)):=by intro A E s Q f q;obtain⟨o,c,d,hd,b⟩:=f;have a:(⟨(model prog w).prog,(model prog w).w.params⟩:Setting).params.followText "set-order"=true:=g;unfold setNext setsByText setWalk;refine b7 (bBK c hd b ?_);dsimp only;refine b7 (b7 (bDI (d7 ?_)));rw[if_pos a,if_neg (by simp)];refine b7 (b7 (bBK c hd b ?_));dsimp only;unfold setsByText;refine b7 (b7 (bDI (d7 ?_)));rw[if_pos a];exact b7 (bDI (d7 (d7 q)))
def aC5 (k:byT w=false)(g:t.led=true)(l:t.plain=true\/es.size<=1) :
  aGy prog w D es ep t slot i (match es[SetTable.below t.place slot]?,t.place[SetTable.below t.place slot]? with|some (_,x),some j=>some (x,j+1)|_,_=>none):=by
 intro A E s Q f q;obtain⟨o,e,d,hd,c⟩:=f;have a:(⟨(model prog w).prog,(model prog w).w.params⟩:Setting).params.followText "set-order"=false:=k;unfold setNext setsByText;refine b7 (bBK e hd c ?_);dsimp only;refine b7 (b7 (bDI (d7 ?_)));rw[if_neg (by rw[a];exact v6)]
 split
 ·rename_i b;have z:(!t.plain && decide (es.size > 1))=true:=b;rw[bAQ,decide_eq_true_eq] at z;rcases l with h|h
  ·rw[h] at z;cases z.1
  ·lia
 ·refine b7 (show wpAny _ _ (if (!t.led && !es.isEmpty)=true then unsupported "set:maker-not-led" else pure ()) _ _ _ from ?_);rw[if_neg (by rw[g];exact v6)];exact d7 (d7 q)
def xH (b:fM s.heap I first i D n ep)(h:Q (.ref I) s):wpAny (model prog w) A (pyIter (.ref I)) Q E s:=by have a:s.TypeIs (.ref I) "set_iterator":=⟨_,b,rfl⟩;refine bEV a qQ (bAG qQ a zT ?_ (aBl _));exact d7 ⟨_,rfl,"set_iterator",_,a,bZ.lookup,h⟩
def uC.at (x:uC h D es ep t)(e:∀o,h.get? D=some o->h'.get? D=some o):uC h' D es ep t:=by obtain⟨o,a,r⟩:=x;exact⟨o,e o a,r⟩
def aMn {I D:Addr}{es:Array (Int × Value)}{ep:Nat}{t:SetTable}(c:byT w=true)(r:A.handled=none)(l:D≠I) :
  Walks prog w A I [I,D] [I] es.size (λi v=>((pickOrder (w.params.setOrder D ep) es).toList.map (·.2))[i]?=some v) (λi h=>fM h I (.int (0:Nat) 0) i D es.size ep/\uC h D es ep t) where
 sub:=λb c=>by simp at c;simp[c]
 frame:=λ_ _ _ a m=>⟨m I (by simp) _ a.1,a.2.at λo e=>m D (by simp) o e⟩
 item:=λi s Q E q a g=>by
  have p:(pickOrder (w.params.setOrder D ep) es).size=es.size:=by rw[<-v7,(xQ _ es).length_eq,v7]
  have d:i<(pickOrder (w.params.setOrder D ep) es).size:=by lia
  have f:=aFt (prog:=prog) (D:=D) (es:=es) (ep:=ep) (slot:=0) (i:=i) (t:=t) c;rw[j9 d] at f;refine aFu a.1 a.2 l f λk n j=>?_;exact g _ k s.toks (by rw[t7,bBR,j9 d];rfl) ⟨n,a.2.at λo e=>j D o l e⟩ λb o c e=>j b o (λz=>c (by simp[z])) e
 done:=λs Q E a g=>by
  have p:(pickOrder (w.params.setOrder D ep) es).size=es.size:=by rw[<-v7,(xQ _ es).length_eq,v7]
  have f:=aFt (prog:=prog) (D:=D) (es:=es) (ep:=ep) (slot:=0) (i:=es.size) (t:=t) c;rw[bCH (by lia)] at f;exact aEx r a.1 a.2 f λk j=>g k s.toks λb o c e=>j b o (λz=>c (by simp[z])) e
 self:=λ_ _ _ _ a g=>xH a.1 g
def aKz {I D:Addr}{es:Array (Int × Value)}{ep:Nat}{t:SetTable}(a:byT w=false)(B:t.led=true)(F:t.plain=true\/es.size<=1)(y:Ris t.place)(hsz:t.place.size=es.size)(J:A.handled=none)(q:D≠I) :
  Walks prog w A I [I,D] [I] es.size (λi v=>(es.toList.map (·.2))[i]?=some v) (λi h=>∃slot,fM h I (.int (slot:Nat) 0) i D es.size ep/\uC h D es ep t/\SetTable.below t.place slot=i) where
 sub:=λb a=>by simp at a;simp[a]
 frame:=λ_ _ _ ⟨m,c,f,j⟩ g=>⟨m,g I (by simp) _ c,f.at λo e=>g D (by simp) o e,j⟩
 item:=λi s Q E r ⟨m,c,f,j⟩ l=>by
  have k:=aC5 (prog:=prog) (D:=D) (es:=es) (ep:=ep) (slot:=m) (i:=i) (t:=t) a B F;have d:i<t.place.size:=by lia
  rw[j,j9 r,j9 d] at k;refine aFu c f q k λp u n=>?_;refine l _ p s.toks (by rw[t7,bBR,j9 r];rfl) ⟨_,u,f.at λo e=>n D o q e,?_⟩ λb o a e=>n b o (λz=>a (by simp[z])) e;obtain⟨L,C,x⟩:=oF y (t.place[i]+1);have G:i<SetTable.below t.place (t.place[i]+1):=Nat.lt_of_not_le λz=>by have:=x i d z;lia
  rcases bFE (Nat.succ_le_of_lt G) with h2|h2
  ·exfalso;have g:i+1<t.place.size:=by lia
   have H:=C (i+1) g h2;have K:=y i (i+1) d g (bCM _);lia
  ·exact h2.symm
 done:=λs Q E ⟨m,c,f,j⟩ l=>by have k:=aC5 (prog:=prog) (D:=D) (es:=es) (ep:=ep) (slot:=m) (i:=es.size) (t:=t) a B F;rw[j,bCH (d8 _)] at k;exact aEx J c f k λp n=>l p s.toks λb o a e=>n b o (λz=>a (by simp[z])) e
 self:=λ_ _ _ _ ⟨_,c,_⟩ l=>xH c l
def aLa {I D T:Addr}{es:Array (Int × Value)}{ep:Nat}{t:SetTable}{ys:List Nat}(p:ys.Perm (List.range es.size))(y:A.handled=none)(u:D≠I)(r:T≠I) :
  Walks prog w A I [I,D,T] [I] es.size (λi v=>((ys.map λj=>es.getD j (0,.none)).map (·.2))[i]?=some v) (λi h=>fM h I (.ref T) i D es.size ep/\uC h D es ep t/\h.get? T=some { cls:=.type "tuple",data:=.seq (ys.map λj=>rawInt (j:Nat)).toArray }) where
 sub:=λb d=>by simp at d;simp[d]
 frame:=λ_ _ _ a k=>⟨k I (by simp) _ a.1,a.2.1.at λo e=>k D (by simp) o e,k T (by simp) _ a.2.2⟩
 item:=λi s Q E x a f=>by
  have m:ys.length=es.size:=by rw[p.length_eq,bAJ]
  have c:i<ys.length:=by lia
  have n:=List.mem_range.mp (p.mem_iff.mp (bAP c));refine aMe a.1 a.2.1 a.2.2 (by rw[bDT,t7,b8 c];rfl) (j9 n) λl q g=>?_;refine f _ l s.toks ?_ ⟨q,a.2.1.at λo e=>g D o u e,g T _ r a.2.2⟩ λb o d e=>g b o (λz=>d (by simp[z])) e;rw[t7,t7,b8 c];show some (es.getD ys[i] (0,.none)).2=some es[ys[i]].2;rw[v8,j9 n];rfl
 done:=λs Q E a f=>by
  have m:ys.length=es.size:=by rw[p.length_eq,bAJ]
  exact aL5 y a.1 a.2.1 a.2.2 (by rw[bDT,t7,bAF (by lia)];rfl) λl g=>f l s.toks λb o d e=>g b o (λz=>d (by simp[z])) e
 self:=λ_ _ _ _ a f=>xH a.1 f
def aTz {D:Addr}{es:Array (Int × Value)}{ep:Nat}{t:SetTable}{Q:bFQ}(G:A.handled=none)(S:uC s.heap D es ep t)(C:TabOk (byT w) t)(T:es.size<=1000)
  (h:∀I fp (order:List (Int × Value)) St h1 dr,(∀b o,s.heap.get? b=some o->h1.get? b=some o)->Walks prog w A I fp [I] es.size (λi v=>(order.map (·.2))[i]?=some v) St->St 0 h1->(∀b∈fp,b=D\/s.heap.objs.size<=b)->s.heap.objs.size<=I->order.Perm es.toList ->
   Q (.ref I) { s with heap:=h1,drawn:=dr }):wpAny (model prog w) A (pyIter (.ref D)) Q E s:=by
 obtain⟨o,g,n,hd,d⟩:=id S;have L:s.TypeIs (.ref D) "set":=⟨o,g,n.1⟩;refine bEV L F.slot_set_iter (bAG F.slot_set_iter L aB0 ?_ (F.args_set_iter_1 _));unfold Builtin.«frozenset.__iter__» Builtin.Frozenset.slot0 slotArgs;simp only[List.isEmpty_nil,Bool.not_true,bBD,↓reduceIte,bind_assoc,bCK,bne_self_eq_false];unfold Builtin.Frozenset.addrOf Builtin.Frozenset.sizeOf setDrawn setsByText;refine b7 (d7 ?_)
 try dsimp only
 refine b7 (d7 ?_);refine b7 (b7 (bDG g hd d (d7 ?_)));refine b7 (b7 (bBK g hd d ?_));dsimp only;refine b7 (b7 (bDI (d7 (d7 ?_))));have f:D<s.heap.objs.size:=j8 g;have U:((0:Nat):Int)=0:=rfl
 split
 ·rename_i J;refine b7 (pQ _ _ _ _ (bAJ ..) λB dr x=>?_);refine b7 (bEQ ?_ (by rw[j4,x.length_eq,bAJ];exact bAK T (by decide)));have k:({ s with drawn:=dr,heap:=s.heap.push { cls:=.type "tuple",data:=.seq (B.map λi=>rawInt (i:Nat)).toArray } }:Shared).heap.get? D=some o:=c7 _ g;refine b7 (wpAny_setEpoch_of k hd d ?_);refine b7 ?_;unfold newFields;refine bAO (d7 ⟨_,rfl,"set_iterator",_,⟨_,j0 _ rfl,rfl⟩,bZ.lookup,?_⟩);have p:(s.heap.push { cls:=.type "tuple",data:=.seq (B.map λi=>rawInt (i:Nat)).toArray }).objs.size=s.heap.objs.size+1:=bAW ..;refine h _ [_,D,s.heap.objs.size] (B.map λj=>es.getD j (0,.none)) _ _ dr (λb o e=>c7 _ (c7 _ e)) (aLa (t:=t) (ep:=ep) x G ?_ ?_) ⟨?_,?_,?_⟩ (λb c=>?_) ?_ ?_
  ·show D≠Array.size _;rw[p];exact t6 (bBA f)
  ·show s.heap.objs.size≠Array.size _;rw[p];exact t6 (bCM _)
  ·exact j0 _ rfl
  ·exact⟨o,c7 _ k,n,hd,d⟩
  ·exact c7 _ (j0 _ rfl)
  ·simp only[bAD,w6,or_false] at c;rcases c with rfl|rfl|rfl
   ·right;rw[p];exact bEL _
   ·left;rfl
   ·right;exact d8 _
  ·rw[p];exact bEL _
  ·have e:(List.range es.size).map (λj=>es.getD j (0,.none))=es.toList:=by
    refine bCT λj=>?_;rw[t7,show es.toList[j]?=es[j]? from bBR];by_cases u:j<es.size
    ·rw[bCJ u,j9 u];show some (es.getD j (0,.none))=_;rw[v8,j9 u];rfl
    ·rw[bAF (by rw[bAJ];lia),bCH (by lia)];rfl
   exact (x.map _).trans (by rw[e])
 ·rename_i J;refine b7 (d7 (b7 (wpAny_setEpoch_of g hd d (b7 ?_))));unfold newFields;refine bAO (d7 ⟨_,rfl,"set_iterator",_,⟨_,j0 _ rfl,rfl⟩,bZ.lookup,?_⟩);have K:fM (s.heap.push { cls:=.type "set_iterator",data:=.fields [rawInt 0,rawInt 0,Value.ref D,rawInt (es.size:Nat),rawInt (ep:Nat)].toArray }) s.heap.objs.size (.int (0:Nat) 0) 0 D es.size ep:=j0 _ rfl;have l:uC (s.heap.push { cls:=.type "set_iterator",data:=.fields [rawInt 0,rawInt 0,Value.ref D,rawInt (es.size:Nat),rawInt (ep:Nat)].toArray }) D es ep t:=S.at λo e=>c7 _ e;have m:∀b∈[s.heap.objs.size,D],b=D\/s.heap.objs.size<=b:=λb c=>by
   simp only[bAD,w6,or_false] at c;rcases c with rfl|rfl
   ·right;exact d8 _
   ·left;rfl
  cases c:byT w with
  |true=>exact h _ [s.heap.objs.size,D] _ _ _ s.drawn (λb o e=>c7 _ e) (aMn (t:=t) (ep:=ep) c G (t6 f)) ⟨K,l⟩ m (d8 _) (xQ _ es)
  |false=>
   have M:t.led=true:=C.1 c;have q:t.place.size=es.size:=by unfold SetTable.fits at d;rw[bAQ,beq_iff_eq] at d;exact d.1
   have H:t.plain=true\/es.size<=1:=by
    have z:¬ (!byT w && (!t.plain && decide (es.size > 1)))=true:=J;rw[c] at z;cases r:t.plain with
    |true=>exact .inl rfl
    |false=>rw[r] at z;right;simpa using z
   have y:Ris t.place:=by
    rcases H with z|z
    ·exact C.2.2.2 z
    ·intro a b V P O;lia
   refine h _ [s.heap.objs.size,D] es.toList _ _ s.drawn (λb o e=>c7 _ e) (aKz (t:=t) (ep:=ep) c M H y q G (t6 f)) ⟨0,K,l,?_⟩ m (d8 _) (.refl _);obtain⟨_,R,_⟩:=oF y 0;rcases Nat.eq_zero_or_pos (SetTable.below t.place 0) with z|z
   ·exact z
   ·by_cases N:0<t.place.size
    ·exact absurd (R 0 N z) (bDQ _)
    ·have:=(oF y 0).1;lia
def aSv (c:s.TypeIs (.ref D) "set")(h:Q false s):wpAny (model prog w) A (Builtin.List.listLengthHint (.ref D)) Q E s:=by unfold Builtin.List.listLengthHint;refine b7 (wpAny_specialOf c F.slot_set_len.lookup ?_);generalize b:("set.__len__":String)=id0;wp_delta;rw[show splitId id0=some ("set","__len__") from by subst b;decide +kernel];subst b;refine b7 (bCX c sub_set_self (wpAny_ite_split (λa=>absurd a (by decide)) (λ_=>wpAny_ite_split (λ_=>?_) (λa=>absurd (by decide +kernel) a))));exact b7 (bDY c (d7 h))
def aMf (hh:A.handled=none)(Z:uC s.heap D es ep t)(V:TabOk (byT w) t)(P:es.size<=1000)(S:Addr)(E:S≠D)(res:Value)(Q:s.heap.get? S=some { cls:=.type "list",data:=.seq #[] })
  (hR:∀h' tk dr acc c (order:List (Int × Value)),(∀b o,b≠S->s.heap.get? b=some o->h'.get? b=some o)->h'.get? S=some { cls:=.type "list",dict:=none,data:=.seq acc c,slots:=#[] }->order.Perm es.toList->acc.toList=order.map (·.2)->R (.ok (.ret res)) { s with heap:=h',toks:=tk,drawn:=dr }) :
  wpAny (model prog w) A.in1 (Builtin.List.listExtendWith (.ref S) (.ref D) res) (λfin s'=>match fin with|.done f=>R (.ok f) s'|.again c'=>c'.quiet=true/\codeAny (model prog w) A c' R s') (λe s'=>R (.error e) s') s:=by
 obtain⟨o,L,r,hd,hf⟩:=id Z;have ty:s.TypeIs (.ref D) "set":=⟨o,L,r.1⟩;have n:=j8 Q;unfold Builtin.List.listExtendWith;refine b7 (bDY ty ?_);have U:Builtin.List.listSameRef (.ref S) (.ref D)=false:=by simp[Builtin.List.listSameRef,E]
 simp only[U,show (Value.type "set" == Value.type "list")=false by decide,show (Value.type "set" == Value.type "tuple")=false by decide,Bool.or_false,bBD,if_false];refine b7 (aTz hh Z V P λI T order St G dr g W N J C a=>?_);have u:S∉T:=λz=>(J S z).elim E λz=>absurd n (Nat.not_lt.mpr z);have l:=g _ _ Q;have m:∀h v tk,St 0 h->(∀b o,b≠S->s.heap.get? b=some o->h.get? b=some o)->h.get? S=some { cls:=.type "list",data:=.seq #[] v } ->
   codeAny (model prog w) A (.builtin "list.extend.loop" ⟨[.ref S,.ref I,res],[]⟩) R { s with heap:=h,toks:=tk,drawn:=dr }:=λh v tk x O B=>by
  refine codeAny_extend_loopS W.toS (bAK P (by decide)) S u res es.size 0 _ #[] v rfl (bAE _) x B (ItemsOf.nil _) λs' i c' M H k=>?_;rw[Moved.eq_with M];refine hR s'.heap s'.toks dr i c' order (λb o d e=>M.heap b o (λhmem=>?_) (O b o d e)) H a ?_
  ·rcases List.mem_cons.mp hmem with X|hmem
   ·exact d X
   ·rw[List.mem_singleton.mp hmem] at e;exact absurd (j8 e) (Nat.not_lt.mpr C)
  ·have Y:order.length=es.size:=by rw[a.length_eq,v7]
   refine bCT λj=>?_;rw[bBR];by_cases K:j<i.size
   ·rw[j9 K];exact (k.2 j _ (j9 K)).symm
   ·rw[bCH (by lia),bAF (by rw[j4,Y,<-k.1];lia)]
 refine b7 (bAS (aSv ⟨o,g _ _ L,r.1⟩ ?_));refine wpAny_ite_split (λ_=>?_) (λ_=>d7 ⟨bCE F.plain_extend_loop _,m G _ _ N (λb o _ e=>g b o e) l⟩);refine b7 (bCY (b7 ?_));refine b7 (wpAny_updateSeq l rfl ?_);have q:=bBI (Obj.mapSeq (·.push Value.none)) l rfl;refine wpAny_updateSeq q rfl ?_;have y:=bBI (Obj.mapSeq (·.pop)) q rfl;have p:∀b o,b≠S->G.get? b=some o->((G.update S (Obj.mapSeq (·.push Value.none))).update S (Obj.mapSeq (·.pop))).get? b=some o:=λb o d e=>(bDK _ _ (Ne.symm d)).trans ((bDK _ _ (Ne.symm d)).trans e);exact d7 ⟨bCE F.plain_extend_loop _,m _ _ _ (W.frame 0 _ _ N λb d o e=>p b o (λz=>u (z ▸ d)) e) (λb o d e=>p b o d (g b o e)) y⟩
end
end PySem
namespace PySem
open PySem.Calls PyProof.Rows
section
variable {prog:Program}{w:World}{κ:Type}[DecidableEq κ]{knd:PySem.KeyKind prog w κ}{A:Around}{E:bFQ}{s:Shared}
def wM (I:A.handled=none)(K:uC s.heap D es ep t)(z:TabOk (byT w) t)(G:es.size<=1000)
  (h:∀h' tk dr (order:List (Int × Value)),(∀b o,s.heap.get? b=some o->h'.get? b=some o)->order.Perm es.toList->R (order.map (·.2)) { s with heap:=h',toks:=tk,drawn:=dr }):wpAny (model prog w) A (collect (.ref D)) R E s:=by
 obtain⟨o,v,u,hd,C⟩:=K;have r:=j8 v;unfold collect;refine b7 (wpAny_runValue (bBG entry_proto_collect' ?_));rw[bAZ PySem.F.plain_proto_collect _];show wpAny _ A.in1 (newList [] >>= λl=>again (.builtin "list.__iadd__" ⟨[l,.ref D],[]⟩)) _ _ s;refine b7 (bAO (d7 ⟨bCE PySem.F.plain_list_iadd _,bBG entry_list_iadd' ?_⟩));rw[bAZ PySem.F.plain_list_iadd _];have p:(s.heap.push { cls:=.type "list",data:=.seq ([]:List Value).toArray }).get? s.heap.objs.size=some { cls:=.type "list",data:=.seq #[] }:=j0 _ rfl;show wpAny _ A.in1 (Builtin.List.listExtendWith (.ref s.heap.objs.size) (.ref D) (.ref s.heap.objs.size)) _ _ _;have m:=aMf (prog:=prog) (w:=w) (A:=A) (s:={ s with heap:=s.heap.push { cls:=.type "list",data:=.seq ([]:List Value).toArray } })
  (R:=λ(q:Result) (n:Shared)=>∃(h':Heap) (tk:Nat) (dr:Drawn) (a:Array Value) (c:Nat) (order:List (Int × Value)),q=.ok (.ret (.ref s.heap.objs.size))/\n={ s with heap:=h',toks:=tk,drawn:=dr }/\(∀b o,s.heap.get? b=some o->h'.get? b=some o)/\h'.get? s.heap.objs.size=some { cls:=.type "list",dict:=none,data:=.seq a c,slots:=#[] }/\order.Perm es.toList/\a.toList=order.map (·.2))
  I ⟨o,c7 _ v,u,hd,C⟩ z G s.heap.objs.size (bCP r) (.ref s.heap.objs.size) p
  (λh' tk dr a c order g d j i=>⟨h',tk,dr,a,c,order,rfl,rfl,λb o e=>g b o (t6 (j8 e)) (c7 _ e),d,j,i⟩)
 have k:∀(h':Heap) (tk:Nat) (dr:Drawn) (a:Array Value) (c:Nat) (order:List (Int × Value)),(∀b o,s.heap.get? b=some o->h'.get? b=some o)->h'.get? s.heap.objs.size=some { cls:=.type "list",dict:=none,data:=.seq a c,slots:=#[] }->order.Perm es.toList->a.toList=order.map (·.2) ->
   wpAny (model prog w) A (load s.heap.objs.size >>= λo=>match o.data with|.seq xs _=>pure xs.toList|_=>unsupported "internal:collect") R E { s with heap:=h',toks:=tk,drawn:=dr }:=λh' tk dr a c order g d j i=>by
  refine b7 (wpAny_load d (d7 ?_));rw[i];exact h h' tk dr order g j
 refine bBN m (λH n x=>?_) λe n x=>?_
 ·cases H with
  |done f=>obtain⟨h',tk,dr,a,c,order,e,rfl,g,d,j,i⟩:=x;cases e;exact k h' tk dr a c order g d j i
  |again c₁=>refine⟨x.1,bCQ x.2 λq J y=>?_⟩;obtain⟨h',tk,dr,a,c,order,rfl,rfl,g,d,j,i⟩:=y;exact k h' tk dr a c order g d j i
 ·obtain⟨_,_,_,_,_,_,B,_⟩:=x;cases B
theorem aJ2 (p:A.handled=none)(x:wG knd s.heap D kl)(n:kl.length<=1000)
  (h:∀h' tk dr acc kl',(∀b o,s.heap.get? b=some o->h'.get? b=some o)->kl'.Perm kl->Paired (λk v=>knd.is k v=true) kl' acc->R acc { s with heap:=h',toks:=tk,drawn:=dr }):wpAny (model prog w) A (collect (.ref D)) R E s:=by
 obtain⟨o,u,q,t,m,d,hd,j,a,f⟩:=x;refine wM p ⟨o,m,d,hd,j⟩ a (by rw[<-v7,<-Paired.length f];exact n) λh' tk dr e l i=>?_;obtain⟨kl',c,g⟩:=mY i f;refine h h' tk dr _ kl' l g ?_;clear i g
 induction c with
 |nil=>exact .nil
 |cons r _ ih=>exact .cons r.1 ih
end
end PySem
namespace L2
open PySem PySem.Spec PyProof.Rows PySem.Calls
section
variable {prog:Program}{w:World}{A:Around}{E:bFQ}{s:Shared}
theorem aQm (h:Paired (λk v=>(bK prog w).is k v=true) kl acc)(hi:∀k∈kl,∃n,k=Sum.inl n):∃ns:List Int,kl=ns.map Sum.inl/\IntsAre acc ns:=by
 induction h with
 |nil=>exact⟨[],rfl,.nil⟩
 |@cons k v kl acc r _ ih=>
  obtain⟨ns,rfl,a⟩:=ih λk b=>hi k (j5 _ b);obtain⟨n,rfl⟩:=hi k j7;rcases cX (show rA (Sum.inl n) v=true from r) with⟨i,t,e,rfl⟩|⟨x,t,e,_⟩
  ·cases e;exact⟨n::ns,rfl,.cons n t a⟩
  ·cases e
theorem aQf (h:Paired (λk v=>(bK prog w).is k v=true) kl acc)(hi:∀k∈kl,∃n,k=Sum.inr n):∃ns:List Str,kl=ns.map Sum.inr/\StrsAre acc ns:=by
 induction h with
 |nil=>exact⟨[],rfl,.nil⟩
 |@cons k v kl acc r _ ih=>
  obtain⟨ns,rfl,a⟩:=ih λk b=>hi k (j5 _ b);obtain⟨n,rfl⟩:=hi k j7;rcases cX (show rA (Sum.inr n) v=true from r) with⟨i,t,e,_⟩|⟨x,t,e,rfl⟩
  ·cases e
  ·cases e;exact⟨n::ns,rfl,.cons n t a⟩
def ltK:Key->Key->Prop
 |.inl a,.inl b=>a<b
 |.inr a,.inr b=>a.cps.toList<b.cps.toList
 |_,_=>False
theorem aE4:∀l p,risingS p l=true->∀x∈l,¬ x.cps.toList<p.cps.toList
 |[],_,_,x,hx=>by cases hx
 |y::r,p,h,x,hx=>by
  unfold risingS at h;rw[bAQ,ltCps_eq,Bool.not_eq_true',decide_eq_false_iff_not] at h;rcases List.mem_cons.mp hx with rfl|hx
  ·exact h.1
  ·intro z;have a:=aE4 r y h.2 x hx;exact h.1 (List.lt_of_le_of_lt (show y.cps.toList<=x.cps.toList from a) z)
theorem pB:∀l p,risingS p l=true->l.Nodup->l.Pairwise λa b=>a.cps.toList<b.cps.toList
 |[],_,_,_=>.nil
 |y::r,p,h,nd=>by
  unfold risingS at h;rw[bAQ] at h;rw[bDP] at nd;refine .cons (λx c=>?_) (pB r y h.2 nd.2);have d:=aE4 r y h.2 x c;rcases Classical.em (y.cps.toList<x.cps.toList) with z|z
  ·exact z
  ·exfalso;have e:=List.le_antisymm d z;have:y=x:=by cases y;cases x;exact congrArg Str.mk (Array.toList_inj.mp e)
   exact nd.1 (this ▸ c)
theorem aA7 (h:IntsAre vs ns):Vals ((ns.map Sum.inl).map kV) vs:=by
 induction h with
 |nil=>exact .nil
 |cons n t _ ih=>exact .cons ⟨t,rfl⟩ ih
theorem aAw (h:StrsAre vs ns):Vals ((ns.map Sum.inr).map kV) vs:=by
 induction h with
 |nil=>exact .nil
 |cons n t _ ih=>exact .cons ⟨t,rfl⟩ ih
def vX {α β:Type}{f:α->β}{l:List α}(h:(l.map f).Nodup):l.Nodup:=List.Pairwise.imp (λa e=>a (congrArg f e)) (List.pairwise_map.mp h)
def aNd (U:A.handled=none)(W:wG (bK prog w) s.heap D kl)(hn:kl.length<=60)(Y:kl.Nodup)(hi:(∀k∈kl,∃n,k=Sum.inl n)\/∀k∈kl,∃n,k=Sum.inr n)
  (q:∀(h1 h':Heap) (tk:Nat) (dr:Drawn) (B:Addr) (vs:List Value) (ks:List Key) (e:Nat),Vals (ks.map kV) vs->ks.Perm kl->ks.Pairwise ltK->h'.get? B=some (seqObj "list" vs.toArray e)->(∀b o,s.heap.get? b=some o->h1.get? b=some o)->(∀b o,h1.get? b=some o->h'.get? b=some o)->h1.objs.size<=B->Q (.ref B) { s with heap:=h',toks:=tk,drawn:=dr }) :
  wpAny (model prog w) A (call (.builtin "sorted") [.ref D]) Q E s:=by
 refine call_function_entry kind_sorted plain_sorted entry_sorted (args_sorted1 _) ?_;unfold Builtin.«sorted»;refine b7 (m:=checkCount "sorted" 1 1 _) (d7 (b7 (aJ2 (A:=A.in1) U W (by lia) λh' tk dr c j f t F=>?_)));have V:c.length=kl.length:=by rw[<-Paired.length F,t.length_eq]
 have l:j.Nodup:=t.nodup_iff.mpr Y;have h:c.length<64:=by lia
 refine b7 (bE5 ?_ (by rw[sizeLine_eq];lia));have d:(h'.push (seqObj "list" c.toArray 0)).get? h'.objs.size=some (seqObj "list" c.toArray 0):=j0 _ rfl;have p:∀(out:Array Value) (ks:List Key),Vals (ks.map kV) out.toList->ks.Perm j->ks.Pairwise ltK->Q (.ref h'.objs.size) { s with heap:=sortedHeap (h'.push (seqObj "list" c.toArray 0)) h'.objs.size c out,toks:=tk,drawn:=dr }:=λout ks J L P=>by obtain⟨e,N⟩:=sortedHeap_at (out:=out) d;refine q h' _ tk dr h'.objs.size out.toList ks e J (L.trans t) P (by rw[Array.toArray_toList];exact N) f (λb o x=>?_) (d8 _);have i:=j8 x;rw[sortedHeap_old (t6 i) (by rw[size_push'];exact bBA i)];exact c7 _ x
 rcases hi with hi|hi
 ·obtain⟨S,rfl,v⟩:=aQm F λk f=>hi k (t.mem_iff.mp f);refine b7 (bAS (bAG slot_list_sort ⟨_,d,rfl⟩ entry_list_sort (list_sort_tree d v h λout u G z O=>⟨_,rfl,d7 ⟨_,rfl,p out (u.map Sum.inl) (aA7 G) (z.map _) ?_⟩⟩) (args_list_sort _)));rw[List.pairwise_map];have C:u.Nodup:=z.nodup_iff.mpr (vX l);refine (List.pairwise_and_iff.mpr ⟨O,C⟩).imp λ{a b} ⟨h1,X⟩=>?_;show a<b;lia
 ·obtain⟨S,rfl,v⟩:=aQf F λk f=>hi k (t.mem_iff.mp f);refine b7 (bAS (bAG slot_list_sort ⟨_,d,rfl⟩ entry_list_sort (list_sort_treeK strKind_oneLt d v.keysOf (λT Z H e=>keyKind_strs (by rw[<-e];exact v)) h λR G z=>⟨_,rfl,d7 ⟨_,rfl,?_⟩⟩) (args_list_sort _)));obtain⟨g,M,I,K⟩:=sorted_out_str v G z;refine p _ (g.map Sum.inr) (aAw M) (I.map _) ?_;rw[List.pairwise_map];have C:=I.nodup_iff.mpr (vX l);cases g with
  |nil=>exact .nil
  |cons y r=>have:=pB (y::r) y (by unfold risingS;rw[bAQ,ltCps_eq];exact⟨by simpa using List.lt_irrefl _,K⟩) C;exact this
end
def aS3 (P:Program)(w:World)(D:Addr)(kl:List Key):HO:=.ext λh=>wG (bK P w) h D kl
section
variable {X:Cx}{bFT:bFR}{σ:L2.St}{H:Hp}{s:Shared}
def Inv.drew (I:Inv X bFT σ H s)(dr:Drawn):Inv X bFT σ H { s with drawn:=dr }:=⟨I.ok,I.os,I.bare,I.base,I.loc,I.cell,I.free,I.freeC,I.pin,I.hok,I.len⟩
def bCc (P:Program)(w:World)(K:bFP):List V->Hp->VK->Prop:=λxs H Q=>∃p ks,xs=[.ref p]/\SqL K H p (ks.map kV)/\ks.length<=4/\∀D H' kl,H D=none->Same H H'->H' D=some (aS3 P w D kl)->Ded kl ks->Q (.ref D) H'
theorem aOk (h:RelV (kV k) v):(bK X.prog X.w).is k v=true/\v.scannable=true:=by
 cases k with
 |inl n=>obtain⟨t,rfl⟩:=h;exact⟨aFo n t,rfl⟩
 |inr n=>obtain⟨t,rfl⟩:=h;exact⟨aFk n t,rfl⟩
def aQz (T:X.calm=true):cJ X (.type "set") (bCc X.prog X.w X.K):=by
 intro G s σ H S O Q I r h;obtain⟨p,ks,rfl,J,B,q⟩:=h;obtain⟨u,rfl,C⟩:=r.one;cases C;obtain⟨f,t,L,N⟩:=I.list J;have a:=t.length;rw[j4] at a;refine aPx (knd:=bK X.prog X.w) (ks:=ks) (I.ok.hd T) L.isList (by rw[d9];exact a) (λi v z=>?_) (by rw[d9,<-a];exact B) λn F d x E M=>?_
 ·have c:f[i]?=some v:=by simpa using z
  have m:i<ks.length:=by rw[a];exact (List.getElem?_eq_some_iff.mp c).1
  obtain⟨u,g,A⟩:=t.get (i:=i) (x:=kV ks[i]) (by rw[t7,b8 m];rfl);rw[c] at g;cases g;exact⟨ks[i],b8 m,aOk A⟩
 ·have e:∃o,n.get? s.heap.objs.size=some o:=by obtain⟨o,_,_,_,D,_⟩:=x;exact⟨o,D⟩
  have l:H s.heap.objs.size=none:=I.hok.fresh (d8 _);exact⟨.ref s.heap.objs.size,_,I.laid (t':=F) (o:=aS3 X.prog X.w s.heap.objs.size d) (λb o j=>M b o (j8 j) j) (d8 _) (show wG (bK X.prog X.w) n s.heap.objs.size d/\_/\_ from ⟨x,e,λP R y k=>y.at k⟩),rfl,q _ _ d l (bC l _) aK E⟩
def aT1 (P:Program)(w:World):List V->Hp->VK->Prop:=λxs H Q=>∃D kl,xs=[.ref D]/\H D=some (aS3 P w D kl)/\kl.length<=60/\kl.Nodup/\((∀k∈kl,∃n,k=Sum.inl n)\/∀k∈kl,∃n,k=Sum.inr n) /\
 ∀(B:Addr) (H':Hp) (ks:List Key),H B=none->Same H H'->H' B=some (.lst (ks.map kV))->ks.Perm kl->ks.Pairwise ltK->Q (.ref B) H'
def aHb (N:X.calm=true):cJ X (.builtin "sorted") (aT1 X.prog X.w):=by
 intro y s σ H M G Q I r h;obtain⟨D,J,rfl,j,d,A,l,q⟩:=h;obtain⟨u,rfl,m⟩:=r.one;cases m;have x:=(I.hok D _ j).1;refine aNd (I.ok.hd N) x d A l λL F g E B n a e k f v p t z c=>?_;have C:=I.kept (t':=g) t;have i:=C.drew E;have b:=i.hok.fresh c;have K:a.length<=60:=by rw[f.length_eq];exact d
 exact⟨.ref B,_,i.laid (t':=g) (o:=.lst (a.map kV)) z c ⟨small (by rw[j4];lia),n,e,k,p⟩,rfl,q B _ a b (bC b _) aK f v⟩
end
end L2
namespace PySem
open SetTable (Probe bits runEnd leap)
def tmk (m:Nat):SetTable:=⟨m,#[],#[],0,true,0,true⟩
def sq (m:Nat)(p:Probe):Nat->Probe
 |0=>p
 |n+1=>(tmk m).advance (sq m p n)
def hd (m:Nat)(x:Nat × Nat):Probe:=⟨x.1,runEnd m x.1 - x.1,x.1,x.2,none⟩
def x0 (m:Nat)(h:Int):Nat × Nat:=(bits h % (m+1),bits h)
def pj (m:Nat)(h:Int)(n:Nat):Nat:=(sq m (hd m (x0 m h)) n).j
def lp (m:Nat)(x:Nat × Nat):Nat->Nat × Nat
 |0=>x
 |k+1=>leap m (lp m x k).1 (lp m x k).2
theorem aGt (m:Nat)(p:Probe)(a:Nat):∀b,sq m p (a+b)=sq m (sq m p a) b
 |0=>rfl
 |b+1=>congrArg (tmk m).advance (aGt m p a b)
theorem aG0 (m:Nat)(x:Nat × Nat):∀k,k<=runEnd m x.1 - x.1->sq m (hd m x) k=⟨x.1+k,runEnd m x.1 - x.1 - k,x.1,x.2,none⟩
 |0,_=>rfl
 |k+1,h=>by unfold sq;rw[aG0 m x k (by lia)];unfold SetTable.advance;rw[if_pos (by show runEnd m x.1 - x.1 - k > 0;lia)];rfl
def aHv (m:Nat)(x:Nat × Nat):sq m (hd m x) (runEnd m x.1 - x.1+1)=hd m (leap m x.1 x.2):=by unfold sq;rw[aG0 m x _ (d8 _)];unfold SetTable.advance;rw[if_neg (by show ¬ (runEnd m x.1 - x.1 - (runEnd m x.1 - x.1) > 0);lia)];rfl
def aZp (m i:Nat):runEnd m i - i<=9:=by unfold runEnd;split <;> lia
def aBk (hi:i<=m)(a:k<=runEnd m i - i):i+k<=m:=by unfold runEnd at a;split at a <;> lia
theorem heads (m:Nat)(x:Nat × Nat):∀k,∃n,n<=10 * k/\sq m (hd m x) n=hd m (lp m x k)
 |0=>⟨0,d8 _,rfl⟩
 |k+1=>by obtain⟨n,b,a⟩:=heads m x k;refine⟨n+(runEnd m (lp m x k).1 - (lp m x k).1+1),by have:=aZp m (lp m x k).1;lia,?_⟩;rw[aGt,a,aHv];rfl
theorem aR0 (m:Nat)(x:Nat × Nat):∀k,(lp m x k).2=x.2 / 32 ^ k
 |0=>by simp[lp]
 |k+1=>by show (lp m x k).2 / 32=_;rw[aR0 m x k,Nat.div_div_eq_div_mul,Nat.pow_succ]
theorem aT8 (m:Nat)(x:Nat × Nat)(h:x.1<=m):∀k,(lp m x k).1<=m
 |0=>h
 |k+1=>by exact Nat.le_of_lt_succ (Nat.mod_lt _ (Nat.succ_pos m))
def fI (m:Nat):Nat->Nat->Nat
 |0,i=>i
 |k+1,i=>(fI m k i * 5+1) % (m+1)
theorem aA5 (m a i:Nat):∀b,fI m (b+a) i=fI m b (fI m a i)
 |0=>by rw[bEA];rfl
 |b+1=>by rw[show b+1+a=(b+a)+1 by lia];show (fI m (b+a) i * 5+1) % (m+1)=_;rw[aA5 m a i b];rfl
def orb (m:Nat):Nat->Nat->List Nat
 |0,_=>[]
 |k+1,i=>i::orb m k ((i * 5+1) % (m+1))
theorem aSi:∀{n i j:Nat},j∈orb m n i->∃k,k<n/\fI m k i=j
 |n+1,i,j,h=>by
  rcases List.mem_cons.mp h with rfl|h
  ·exact⟨0,Nat.succ_pos _,rfl⟩
  ·obtain⟨k,b,a⟩:=aSi h;exact⟨k+1,Nat.succ_lt_succ b,by rw[aA5 m 1 i k];exact a⟩
def Msk (m:Nat):Prop:=m=7\/m=31\/m=127
def aVs (h:Msk m):(List.range (m+1)).all (λj=>(orb m (m+1) 0).contains j)=true/\fI m (m+1) 0=0:=by rcases h with rfl|rfl|rfl <;> exact⟨by decide +kernel,by decide +kernel⟩
def cyc (h:Msk m)(hi:i<=m)(e:j<=m):∃k,k<=m/\fI m k i=j:=by
 obtain⟨f,d⟩:=aVs h;have at0:∀j,j<=m->∃k,k<m+1/\fI m k 0=j:=λj e=>aSi (by simpa using List.all_eq_true.mp f j (List.mem_range.mpr (by lia)));obtain⟨a,g,rfl⟩:=at0 i hi;obtain⟨b,l,rfl⟩:=at0 j e;by_cases c:a<=b
 ·exact⟨b - a,by lia,by rw[<-aA5,show b - a+a=b by lia]⟩
 ·exact⟨b+(m+1) - a,by lia,by rw[<-aA5,show b+(m+1) - a+a=b+(m+1) by lia,aA5,d]⟩
def aVd (m:Nat)(h:Int):(x0 m h).1<=m/\(x0 m h).2<2 ^ 64:=by refine⟨Nat.le_of_lt_succ (Nat.mod_lt _ (Nat.succ_pos m)),?_⟩;show (h % 2 ^ 64).toNat<2 ^ 64;have a:=bDN h (show (0:Int)<2 ^ 64 by decide);have b:=bEG h (show (2 ^ 64:Int)≠0 by decide);lia
theorem aPh (h:x.2<2 ^ 64):∀k,(lp m x (12+k)).1=fI m k (lp m x 12).1
 |0=>rfl
 |k+1=>by
  show ((lp m x (12+k)).1 * 5+1+(lp m x (12+k)).2 / 32) % (m+1)=(fI m k _ * 5+1) % (m+1);rw[aPh h k,aR0,Nat.div_div_eq_div_mul,<-Nat.pow_succ];have:x.2 / 32 ^ (12+k+1)=0:=by refine Nat.div_eq_of_lt (bAB h ?_);exact bAK (by decide:2 ^ 64<=32 ^ 13) (Nat.pow_le_pow_right (by decide) (by lia))
  rw[this]
def aO4 (d:Msk m)(h:Int)(e:j<=m):∃k,k<=12+m/\(lp m (x0 m h) k).1=j:=by obtain⟨a,b⟩:=aVd m h;obtain⟨k,f,c⟩:=cyc d (aT8 m _ a 12) e;exact⟨12+k,by lia,(aPh b k).trans c⟩
theorem least {P:Nat->Prop}:∀n,P n->∃k,k<=n/\P k/\∀i,i<k->¬ P i:=by
 intro n
 induction n using Nat.strongRecOn with
 |ind n ih=>
  intro d;by_cases c:∃i,i<n/\P i
  ·obtain⟨i,g,e⟩:=c;obtain⟨k,a,b⟩:=ih i g e;exact⟨k,by lia,b⟩
  ·exact⟨n,d8 _,d,λi f q=>c ⟨i,f,q⟩⟩
theorem pig:∀(n:Nat) (l:List Nat),(∀j,j<n->j∈l)->n<=l.length
 |0,_,_=>bAE _
 |n+1,l,h=>by have a:=h n (bCM _);have:=pig n (l.erase n) λj b=>(List.mem_erase_of_ne (by lia)).mpr (h j (by lia));rw[List.length_erase_of_mem a] at this;have:=List.length_pos_of_mem a;lia
def first {m:Nat}(t:Msk m){l:List Nat}(hl:l.length<=m)(h:Int):∃N,N<10 * (m+15)/\pj m h N∉l/\pj m h N<=m/\∀n,n<N->pj m h n∈l:=by
 obtain⟨j,g,o⟩:∃j,j<=m/\j∉l:=Classical.byContradiction λz=>by have:=pig (m+1) l λj g=>Classical.byContradiction λq=>z ⟨j,by lia,q⟩;lia
 obtain⟨k,v,p⟩:=aO4 t h g;obtain⟨n,u,s⟩:=heads m (x0 m h) k;have e:pj m h n=j:=by unfold pj;rw[s];exact p
 obtain⟨N,a,b,c⟩:=least (P:=λn=>pj m h n∉l) n (by rw[e];exact o);refine⟨N,by lia,b,?_,λi r=>Classical.byContradiction (c i r)⟩;refine (?_:∀N,pj m h N<=m) N;intro N;have f:∀N,∃x k,x.1<=m/\k<=runEnd m x.1 - x.1/\sq m (hd m (x0 m h)) N=sq m (hd m x) k:=by
  intro N
  induction N with
  |zero=>exact⟨x0 m h,0,(aVd m h).1,bAE _,rfl⟩
  |succ N ih=>
   obtain⟨x,k,a,b,c⟩:=ih;by_cases d:k+1<=runEnd m x.1 - x.1
   ·exact⟨x,k+1,a,d,congrArg (tmk m).advance c⟩
   ·obtain rfl:k=runEnd m x.1 - x.1:=by lia
    refine⟨leap m x.1 x.2,0,?_,bAE _,(congrArg (tmk m).advance c).trans (aHv m x)⟩;exact aT8 m x a 1
 obtain⟨x,k,a,b,c⟩:=f N;unfold pj;rw[c,aG0 m x k b];exact aBk a b
def Rch (m:Nat)(l:List Nat)(h:Int)(j:Nat):Prop:=∃n,pj m h n=j/\∀i,i<n->pj m h i∈l
def Rch.mono (r:Rch m l h j)(s:∀x∈l,x∈l'):Rch m l' h j:=
 let ⟨n,a,b⟩:=r;⟨n,a,λi c=>s _ (b i c)⟩
def below_at (b:Ris xs)(hi:i<xs.size):SetTable.below xs xs[i]=i:=by
 obtain⟨d,a,c⟩:=oF b xs[i];rcases bEW (SetTable.below xs xs[i]) i with h|h|h
 ·have f:=c _ (by lia) (d8 _);have e:=b _ i (by lia) hi h;lia
 ·exact h
 ·have:=a i hi h;lia
def aC1 {t:SetTable}(hd:t.dummies=#[])(f:Ris t.place)(j:Nat):(j∉t.place.toList/\t.slot j=.empty)\/∃i,t.place[i]?=some j/\t.slot j=.live i:=by
 by_cases h:j∈t.place.toList
 ·right;obtain⟨i,d,e⟩:=bBE h;have a:i<t.place.size:=by simpa using d
  have c:t.place[i]=j:=by simpa using e
  subst c;refine⟨i,j9 a,?_⟩;unfold SetTable.slot;dsimp only;rw[below_at f a,j9 a];simp
 ·left;refine⟨h,?_⟩;unfold SetTable.slot;dsimp only;rw[if_neg,hd]
  ·have:SetTable.has #[] j=false:=by unfold SetTable.has;simp
   rw[this];rfl
  ·intro z;have b:=eq_of_beq z;exact h (by simpa using bDS b)
theorem aFc (m:t.dummies=#[])(l:Ris t.place)(v:pj t.mask h N∉t.place.toList)(w:∀n,n<N->pj t.mask h n∈t.place.toList) :
  ∀(fuel n:Nat),n<=N->N - n<fuel->∃n',n<=n'/\n'<=N/\(∀k i,n<=k->k<n'->t.place[i]?=some (pj t.mask h k)->g i≠h) /\
   ((n'=N/\SetTable.probe.go t g h fuel (sq t.mask (hd t.mask (x0 t.mask h)) n)=some (.empty (pj t.mask h N) none)) \/
   (n'<N/\∃i,t.place[i]?=some (pj t.mask h n')/\g i=h/\SetTable.probe.go t g h fuel (sq t.mask (hd t.mask (x0 t.mask h)) n)=some (.candidate (pj t.mask h n') i (sq t.mask (hd t.mask (x0 t.mask h)) (n'+1)))))
 |0,n,_,hf=>by lia
 |fuel+1,n,hn,hf=>by
  have x:(sq t.mask (hd t.mask (x0 t.mask h)) n).dummy=none:=by
   clear hn hf
   induction n with
   |zero=>rfl
   |succ n ih=>
    unfold sq SetTable.advance
    split
    ·exact ih
    ·exact ih
  unfold SetTable.probe.go;rcases aC1 m l (pj t.mask h n) with⟨a,b⟩|⟨i,a,b⟩
  ·have e:=Nat.le_antisymm hn (Nat.le_of_not_lt λz=>a (w n z));subst e;refine⟨n,d8 _,d8 _,λk i q f=>by lia,.inl ⟨rfl,?_⟩⟩;rw[show t.slot (sq t.mask (hd t.mask (x0 t.mask h)) n).j=.empty from b];dsimp only;rw[x];rfl
  ·have d:=Nat.lt_of_le_of_ne hn λz=>v (by rw[<-z];simpa using bDS a);rw[show t.slot (sq t.mask (hd t.mask (x0 t.mask h)) n).j=.live i from b];dsimp only;by_cases c:g i=h
   ·refine⟨n,d8 _,hn,λk i q f=>by lia,.inr ⟨d,i,a,c,?_⟩⟩;rw[if_pos (beq_iff_eq.mpr c)];rfl
   ·rw[if_neg (by simpa using c)];obtain⟨n',q,f,A,B⟩:=aFc m l v w fuel (n+1) d (by lia);refine⟨n',by lia,f,λk p D y o=>?_,B⟩;by_cases e:k=n
    ·subst e;have:p=i:=by obtain⟨s,r⟩:=Array.getElem?_eq_some_iff.mp o;obtain⟨C,u⟩:=Array.getElem?_eq_some_iff.mp a;rw[<-below_at l s,<-below_at l C,r,u]
     rw[this];exact c
    ·exact A k p (by lia) y o
theorem aE8 {α β:Type}{R:α->β->Prop}{as:List α}{bs:List β}(h:Paired R as bs):∀{i:Nat} {a:α},as[i]?=some a->∃b,bs[i]?=some b/\R a b:=by
 induction h with
 |nil=>intro i a q;cases q
 |cons r _ ih=>
  intro i a q;cases i with
  |zero=>cases q;exact⟨_,rfl,r⟩
  |succ i=>exact ih q
def aVq {m:Nat}(H:Msk m){C:Array (Option Nat)}{g:List Nat}(ch:∀j,j<=m->((C.getD j (some 0)).isNone=true↔j∉g))(hl:g.length<=m)(h:Int) :
  ∃j,SetTable.layClean.free m C (SetTable.turns m) (bits h % (m+1)) (bits h)=some j/\j<=m/\j∉g/\Rch m g h j:=by
 obtain⟨j,t,v⟩:∃j,j<=m/\j∉g:=Classical.byContradiction λz=>by have:=pig (m+1) g λj t=>Classical.byContradiction λq=>z ⟨j,by lia,q⟩;lia
 obtain⟨K,F,y⟩:=aO4 H h t;have r:∀a k,k<=K->K - k<a->(∃n,sq m (hd m (x0 m h)) n=hd m (lp m (x0 m h) k)/\∀i,i<n->pj m h i∈g)->∃j,SetTable.layClean.free m C a (lp m (x0 m h) k).1 (lp m (x0 m h) k).2=some j/\j<=m/\j∉g/\Rch m g h j:=by
  intro a
  induction a with
  |zero=>intro k _ z;lia
  |succ a ih=>
   intro k E D ⟨n,e,u⟩;have b:=aT8 m _ (aVd m h).1 k;have f:∀c,c<=runEnd m (lp m (x0 m h) k).1 - (lp m (x0 m h) k).1->pj m h (n+c)=(lp m (x0 m h) k).1+c:=λc l=>by unfold pj;rw[aGt,e,aG0 _ _ _ l]
   have B:∀c,c<=runEnd m (lp m (x0 m h) k).1 - (lp m (x0 m h) k).1->(∀d,d<c->(lp m (x0 m h) k).1+d∈g)->∀i,i<n+c->pj m h i∈g:=λc l hd i s=>by
    by_cases z:i<n
    ·exact u i z
    ·have:=hd (i - n) (by lia);rw[<-f (i - n) (by lia),show n+(i - n)=i by lia] at this;exact this
   have G:(lp m (x0 m h) k).1<=runEnd m (lp m (x0 m h) k).1:=by unfold runEnd;split <;> lia
   unfold SetTable.layClean.free;cases p:(List.range (runEnd m (lp m (x0 m h) k).1+1 - (lp m (x0 m h) k).1)).find? λc=>(C.getD ((lp m (x0 m h) k).1+c) (some 0)).isNone with
   |some c=>
    rw[List.find?_range_eq_some] at p;obtain⟨A,x,w⟩:=p;rw[List.mem_range] at x;have l:c<=runEnd m (lp m (x0 m h) k).1 - (lp m (x0 m h) k).1:=by lia
    refine⟨_,rfl,aBk b l,(ch _ (aBk b l)).mp A,n+c,f c l,B c l λd hd=>Classical.byContradiction λz=>?_⟩;have:=w d hd;rw[(ch _ (aBk b (by lia))).mpr z] at this;cases this
   |none=>
    rw[List.find?_range_eq_none] at p;have o:∀d,d<runEnd m (lp m (x0 m h) k).1+1 - (lp m (x0 m h) k).1->(lp m (x0 m h) k).1+d∈g:=λd hd=>Classical.byContradiction λz=>by have:=p d hd;rw[(ch _ (aBk b (by lia))).mpr z] at this;cases this
    have I:k≠K:=λz=>v (by rw[<-y,<-z];exact o 0 (by lia));refine ih (k+1) (by lia) (by lia) ⟨n+(runEnd m (lp m (x0 m h) k).1 - (lp m (x0 m h) k).1+1),by rw[aGt,e,aHv];rfl,λi s=>?_⟩;by_cases z:i<n
    ·exact u i z
    ·have:=o (i - n) (by lia);rw[<-f (i - n) (by lia),show n+(i - n)=i by lia] at this;exact this
 exact r _ 0 (bAE _) (by unfold SetTable.turns;lia) ⟨0,rfl,λi s=>by lia⟩
structure LI (m:Nat)(done:List Int)(js:List Nat)(ow:Array (Option Nat)):Prop where
 sz:ow.size=m+1
 at_:∀j k:Nat,ow[j]?=some (some k)↔js[k]?=some j
 le:∀j∈js,j<=m
 pr:Paired (Rch m js) done js
theorem LI.ch (L:LI m done js ow)(j:Nat)(hj:j<=m):(ow.getD j (some 0)).isNone=true↔j∉js:=by
 have a:j<ow.size:=by rw[L.sz];lia
 rw[v8,j9 a,bBQ];cases e:ow[j] with
 |none=>refine⟨λ_ z=>?_,λ_=>rfl⟩;obtain⟨k,b,q⟩:=bBE z;have:=(L.at_ j k).mpr (by rw[b8 b,q]);rw[j9 a,e] at this;cases this
 |some k=>exact⟨λz=>(by cases z),λz=>absurd (m8 ((L.at_ j k).mp (by rw[j9 a,e]))) z⟩
def LI.more (L:LI m done js ow)(l:j<=m)(i:j∉js)(r:Rch m js h j):LI m (done++[h]) (js++[j]) (ow.setIfInBounds j (some js.length)):=by
 have f:j<ow.size:=by rw[L.sz];lia
 refine⟨by rw[Array.size_setIfInBounds,L.sz],λg k=>?_,λx d=>?_,?_⟩
 ·by_cases e:j=g
  ·subst e;rw[Array.getElem?_setIfInBounds_self_of_lt f];constructor
   ·intro z;cases z;rw[bBC (d8 _),Nat.sub_self];rfl
   ·intro z;rcases bEW k js.length with c|c|c
    ·rw[bBF c] at z;exact absurd (m8 z) i
    ·rw[c]
    ·rw[bAF (by rw[bAA];show js.length+1<=k;lia)] at z;cases z
  ·rw[Array.getElem?_setIfInBounds_ne e,L.at_];rcases bEW k js.length with c|c|c
   ·rw[bBF c]
   ·rw[c,bBC (d8 _),Nat.sub_self,bAF (d8 _)];exact⟨λz=>(by cases z),λz=>absurd (bAM z) e⟩
   ·rw[bAF (by lia),bAF (by rw[bAA];show js.length+1<=k;lia)]
 ·rcases List.mem_append.mp d with z|z
  ·exact L.le x z
  ·rw[List.mem_singleton.mp z];exact l
 ·exact qR (L.pr.mono λa b q=>q.mono λx d=>bBL _ d) (r.mono λx d=>bBL _ d)
theorem aO2 (d:Msk m)(c:∀o k h j,SetTable.layClean.free m o (SetTable.turns m) (bits h % (m+1)) (bits h)=some j->f (some (o,k)) h=some (o.setIfInBounds j (some k),k+1)) :
  ∀hs done js ow,LI m done js ow->js.length+hs.length<=m->∃js' ow' k,hs.foldl f (some (ow,js.length))=some (ow',k)/\LI m (done++hs) js' ow'
 |[],done,js,ow,L,_=>⟨js,ow,_,rfl,by rw[bCV];exact L⟩
 |h::hs,done,js,ow,L,hl=>by rw[t8] at hl;obtain⟨j,e,i,b,g⟩:=aVq d L.ch (by lia) h;obtain⟨js',ow',k,q,a⟩:=aO2 d c hs (done++[h]) (js++[j]) _ (L.more i b g) (by rw[bAA];show js.length+1+hs.length<=m;lia);refine⟨js',ow',k,?_,by rw[bCS] at a;exact a⟩;rw[List.foldl_cons,c _ _ _ _ e];rw[bAA] at q;exact q
theorem aJm {α:Type}:∀l:List α,(List.range l.length).filterMap (λi=>l[i]?)=l
 |[]=>rfl
 |x::l=>by rw[t8,List.range_succ_eq_map,bCI];simp only[List.getElem?_cons_zero,bEI,Function.comp_def,Nat.succ_eq_add_one,List.getElem?_cons_succ];rw[aJm l]
def aXl {m:Nat}(T:Msk m)(es:Array (Int × Value))(R:es.size<=m)(fi mv:Nat)(ld pl:Bool):∃place order,SetTable.laid m fi mv ld pl (es.map (·.1))=some (⟨m,place,#[],fi,ld,mv,pl⟩,order)/\Ris place/\(∀j∈place.toList,j<=m) /\
  (order.filterMap (es[·]?)).toList.Perm es.toList/\Paired (λj e=>Rch m place.toList e.1 j) place.toList (order.filterMap (es[·]?)).toList:=by
 have Q:LI m [] [] (Array.replicate (m+1) none):=⟨Array.size_replicate,λj k=>⟨λz=>(by
  rw[Array.getElem?_replicate] at z
  split at z <;> cases z),λz=>(by cases z)⟩,λj n=>(by cases n),.nil⟩
 have D:([]:List Nat).length+(es.map (·.1)).toList.length<=m:=by simpa using R
 obtain⟨s,t,k,e,L⟩:=aO2 T (f:=λH h=>do
  let (owner,k) <-H
  let j <-SetTable.layClean.free m owner (SetTable.turns m) (bits h % (m+1)) (bits h)
  pure (owner.setIfInBounds j (some k),k+1)) (λo k h j q=>by show (SetTable.layClean.free m o _ _ _).bind _=_;rw[q];rfl) (es.map (·.1)).toList [] [] _ Q D
 rw[bBU] at L;have K:s.length=es.size:=by rw[<-L.pr.length];simp
 have P:SetTable.layClean m (es.map (·.1))=some t:=by unfold SetTable.layClean;rw[<-Array.foldl_toList];exact congrArg (Option.map (·.1)) e
 have c:∀x:Nat × Nat,x∈(List.range (m+1)).filterMap (λj=>(t.getD j none).map (j,·))↔s[x.2]?=some x.1:=λx=>by
  rw[List.mem_filterMap,<-L.at_];constructor
  ·rintro⟨j,n,q⟩;have v:j<t.size:=by rw[L.sz];exact List.mem_range.mp n
   rw[v8,j9 v,bBQ] at q;obtain⟨k,l,rfl⟩:=Option.map_eq_some_iff.mp q;rw[j9 v,l]
  ·intro q;obtain⟨v,l⟩:=Array.getElem?_eq_some_iff.mp q;refine⟨x.1,List.mem_range.mpr (by rw[L.sz] at v;exact v),?_⟩;rw[v8,q];rfl
 generalize B:(List.range (m+1)).filterMap (λj=>(t.getD j none).map (j,·))=live at c;have u:∀j b,(t.getD j none).map (j,·)=some b->b.1=j:=λj b q=>by obtain⟨_,_,rfl⟩:=Option.map_eq_some_iff.mp q;rfl
 have E:live.Pairwise λa b=>a.1<b.1:=by rw[<-B,List.pairwise_filterMap];exact List.pairwise_lt_range.imp λ{a b} F x g y p=>by rw[u a x g,u b y p];exact F
 have M:(live.map (·.2)).Nodup:=by refine List.pairwise_map.mpr ((List.pairwise_and_iff.mpr ⟨E,List.pairwise_iff_forall_sublist.mpr λ{a b} q=>(⟨(c a).mp (q.subset j7),(c b).mp (q.subset (j5 _ j7))⟩:s[a.2]?=some a.1/\s[b.2]?=some b.1)⟩).imp λ{a b} ⟨S,J,O⟩ z=>?_);rw[z,O] at J;have:=bAM J;lia
 have I:(live.map (·.2)).Perm (List.range es.size):=(List.perm_ext_iff_of_nodup M List.nodup_range).mpr λk=>by
  rw[List.mem_map,List.mem_range];constructor
  ·rintro⟨x,g,rfl⟩;rw[<-K];exact (List.getElem?_eq_some_iff.mp ((c x).mp g)).1
  ·intro A;exact⟨(s[k]'(by lia),k),(c _).mpr (b8 _),rfl⟩
 have w:((live.map (·.2)).toArray.filterMap (es[·]?)).toList=live.filterMap λx=>es[x.2]?:=by rw[Array.toList_filterMap];simp only[bEI,Function.comp_def]
 refine⟨(live.map (·.1)).toArray,(live.map (·.2)).toArray,?_,?_,λj n=>?_,?_,?_⟩
 ·unfold SetTable.laid;rw[P];show some _=_;rw[<-B]
 ·rw[aCu];exact List.pairwise_map.mpr E
 ·obtain⟨x,g,rfl⟩:=List.mem_map.mp n;exact L.le _ (m8 ((c x).mp g))
 ·rw[Array.toList_filterMap];refine (I.filterMap _).trans ?_;have:=aJm es.toList;rw[v7] at this;simp only[bBR] at this;rw[this]
 ·rw[w];have d:∀x∈live,∃e:Int × Value,es[x.2]?=some e/\Rch m (live.map (·.1)) e.1 x.1:=λx g=>by
   have q:=(c x).mp g;have A:x.2<es.size:=by rw[<-K];exact (List.getElem?_eq_some_iff.mp q).1
   refine⟨es[x.2],j9 A,?_⟩;obtain⟨b,l,C⟩:=aE8 L.pr (i:=x.2) (a:=es[x.2].1) (by simp[A]);rw[q] at l;cases l;exact C.mono λy p=>by obtain⟨i,N,z⟩:=bBE p;exact List.mem_map.mpr ⟨(y,i),(c _).mpr (by rw[b8 N,z]),rfl⟩
  refine (?_:∀G,(∀x∈live,∃e:Int × Value,es[x.2]?=some e/\Rch m G e.1 x.1)->Paired (λj (e:Int × Value)=>Rch m G e.1 j) (live.map (·.1)) (live.filterMap λx=>es[x.2]?)) _ d;clear d w I M E B c;intro G d
  induction live with
  |nil=>exact .nil
  |cons x r ih=>obtain⟨e,l,C⟩:=d x j7;rw[bCI,l];exact .cons C (ih λy p=>d y (j5 _ p))
end PySem
namespace PySem
open SetTable (Probe bits)
section
variable {prog:Program}{w:World}{κ:Type}[DecidableEq κ]{knd:KeyKind prog w κ}{A:Around}{E:bFQ}{s:Shared}
structure TI (b:Bool)(t:SetTable)(es:Array (Int × Value)):Prop where
 led:b=false->t.led=true
 dm:t.dummies=#[]
 msk:Msk t.mask
 ris:Ris t.place
 pr:Paired (λj (e:Int × Value)=>Rch t.mask t.place.toList e.1 j) t.place.toList es.toList
 room:5 * es.size<3 * t.mask
def TI.len {b:Bool}{t:SetTable}{es:Array (Int × Value)}(x:TI b t es):t.place.size=es.size:=by have:=x.pr.length;simpa using this
theorem TI.fits (x:TI b t es):t.fits es.size=true:=by unfold SetTable.fits SetTable.fill;rw[x.len,x.dm];have:=x.room;simp;lia
def TI.tab (x:TI b t es):TabOk b t:=⟨x.led,x.dm,by rcases x.msk with e|e|e <;> lia,λ_=>x.ris⟩
def aFl (e:Ex h0 h)(x:IsTupleKey knd h0 k a):IsTupleKey knd h k a:=let ⟨o,i,n,ho,r⟩:=x;⟨o,i,n,e _ _ ho,r⟩
variable {T:List κ->Addr->Prop}
def ElT (knd:KeyKind prog w κ)(T:List κ->Addr->Prop)(h0:Heap)(k:List κ)(e:Int × Value):Prop:=∃a,e.2=.ref a/\(IsTupleKey knd h0 k a/\T k a)/\e.1=tupleKeyHash knd k
theorem ElT.inj (x:ElT knd T h0 k e)(y:ElT knd T h0 k' e):k=k':=by obtain⟨a,f,d,_⟩:=x;obtain⟨b,c,g,_⟩:=y;rw[f] at c;cases c;exact d.1.inj g.1
theorem cls_val (n:Nat)(h:carriedByValue v=true):ofAClassStatement n v=pure false:=by
 cases v with
 |ref a=>simp[carriedByValue] at h
 |_=>first|rfl|simp[ofAClassStatement]|(unfold ofAClassStatement;rfl)
def aOq (g:IsTupleKey knd s.heap k a)(h:Q false s):wpAny (model prog w) A (ofAClassStatement 8 (.ref a)) Q E s:=by
 have f:=g.typeIs;obtain⟨o,c,n,i,_,hd,j⟩:=g;unfold ofAClassStatement;refine b7 (bDY f ?_);dsimp only;rw[if_pos (by rfl)];refine b7 (d7 ?_);simp only[Bool.not_true,bBD,if_false];refine b7 (bAU i hd (b7 ?_));rw[<-Array.forIn_toList];refine bE1 _ (λb r d=>r.1=none/\d=s/\∀v∈b,carriedByValue v=true) _ ?_ ?_ _ _ ⟨rfl,rfl,j.byValue⟩
 ·rintro v b r d ⟨hr,rfl,hall⟩;rw[cls_val _ (hall v j7)];refine b7 (d7 ?_);simp only[bBD,if_false];exact d7 ⟨rfl,rfl,λu e=>hall u (j5 _ e)⟩
 ·rintro⟨m,l⟩ d ⟨hr,rfl,_⟩;simp only at hr;subst hr;exact d7 h
def aU0 (i:IsTupleKey knd s.heap k a)(h:Q false s)(j:∀v∈l,∃b k',v=.ref b/\IsTupleKey knd s.heap k' b):wpAny (model prog w) A (searchCouldBeSeen (.ref a) l) Q E s:=by
 unfold searchCouldBeSeen;refine b7 (bE1 _ (λc r d=>r.1=none/\d=s/\∀v∈c,∃b k',v=.ref b/\IsTupleKey knd s.heap k' b) _ ?_ ?_ _ _ ⟨rfl,rfl,j⟩)
 ·rintro v c r d ⟨hr,rfl,hall⟩;have g:∀v∈c,∃b k',v=.ref b/\IsTupleKey knd d.heap k' b:=λu e=>hall u (j5 _ e);obtain⟨b,k',rfl,f⟩:=hall v j7;dsimp only
  split
  ·exact d7 ⟨rfl,rfl,g⟩
  ·refine b7 (wpAny_eqIsQuiet_tuple i ?_);refine b7 (wpAny_eqIsQuiet_tuple f ?_);refine b7 (aOq i ?_);exact b7 (aOq f (d7 ⟨rfl,rfl,g⟩))
 ·rintro⟨n,m⟩ d ⟨hr,rfl,_⟩;simp only at hr;subst hr;exact d7 h
theorem aWg (n:Nat)(h:carriedByValue v=true):∃b,hashByValue n v=pure b:=by
 cases v with
 |ref a=>simp[carriedByValue] at h
 |_=>first|exact⟨_,rfl⟩|exact⟨_,by unfold hashByValue;rfl⟩
def aXx (i:IsTupleKey knd s.heap k a)(h:∀b,Q b s):wpAny (model prog w) A (hashByValue 8 (.ref a)) Q E s:=by
 have p:=i.typeIs;obtain⟨o,d,n,j,_,hd,l⟩:=i;unfold hashByValue;refine b7 (wpAny_specialOf p F.slot_tuple_hash.lookup ?_);dsimp only;refine b7 (bAU j hd (b7 ?_));simp only[bBQ];rw[<-Array.forIn_toList];refine bE1 _ (λc r f=>f=s/\∀v∈c,carriedByValue v=true) _ ?_ ?_ _ _ ⟨rfl,l.byValue⟩
 ·rintro v c r f ⟨rfl,hall⟩;obtain⟨b,e⟩:=aWg 7 (hall v j7);rw[e];refine b7 (d7 ?_);cases b with
  |true=>exact d7 ⟨rfl,λu g=>hall u (j5 _ g)⟩
  |false=>exact d7 (d7 (h _))
 ·rintro⟨m,q⟩ f ⟨rfl,_⟩;cases m with
  |none=>exact d7 (h _)
  |some r=>exact d7 (h _)
def aFp {xs:Array Nat}(g:Ris xs){i j p:Nat}(a:xs[i]?=some p)(b:xs[j]?=some p):i=j:=by obtain⟨d,c⟩:=Array.getElem?_eq_some_iff.mp a;obtain⟨f,e⟩:=Array.getElem?_eq_some_iff.mp b;rw[<-below_at g d,<-below_at g f,c,e]
def aQx (ho:s.heap.get? D=some o)(V:o.data=.set es ep t)(h:TI (byT w) t es)(F:Ex h0 s.heap)(hu:A.units<cLine)(ka:IsTupleKey knd h0 k a)(pr:Paired (ElT knd T h0) kl es.toList)
  (a3:k∈kl->Q (.there none) s) (a0:k∉kl->∀j,j∉t.place.toList->Rch t.mask t.place.toList (tupleKeyHash knd k) j->Q (.free j false) s) :
  wpAny (model prog w) A (setSearch D (.ref a) (tupleKeyHash knd k) true) Q E s:=by
 have X:=h.fits;have ll:t.place.toList.length<=t.mask:=by rw[v7,h.len];have:=h.room;lia
 obtain⟨N,n1,H,_,P⟩:=first h.msk ll (tupleKeyHash knd k)
 have M:∀(f n:Nat) (K:Option Probe),n<=N->N - n<f->K.getD (t.probeStart (tupleKeyHash knd k))=sq t.mask (hd t.mask (x0 t.mask (tupleKeyHash knd k))) n->(∀(p i:Nat) (e:Int × Value),p<n->t.place[i]?=some (pj t.mask (tupleKeyHash knd k) p)->es[i]?=some e->¬ ElT knd T h0 k e) ->
   wpAny (model prog w) A (setSearchFrom D (.ref a) (tupleKeyHash knd k) true f K) Q E s:=by
  intro f
  induction f with
  |zero=>intro n K _ z;lia
  |succ f ih=>
   intro n K hn a1 L U;unfold setSearchFrom;refine b7 (bBK ho V X ?_);dsimp only;rw[if_neg (by unfold SetTable.gaveWay;rcases h.msk with e|e|e <;> rw[e] <;> decide),L];generalize hp:t.probe _ (tupleKeyHash knd k) (sq t.mask (hd t.mask (x0 t.mask (tupleKeyHash knd k))) n)=pm;have C:SetTable.probe.go t (λi=>(es[i]?.map (·.1)).getD 0) (tupleKeyHash knd k) (10 * SetTable.turns t.mask) (sq t.mask (hd t.mask (x0 t.mask (tupleKeyHash knd k))) n)=pm:=hp;obtain⟨p,m1,m2,m3,I⟩:=aFc (g:=λi=>(es[i]?.map (·.1)).getD 0) h.dm h.ris H P (10 * SetTable.turns t.mask) n hn (by unfold SetTable.turns;lia);have J:∀(d i:Nat) (e:Int × Value),d<p->t.place[i]?=some (pj t.mask (tupleKeyHash knd k) d)->es[i]?=some e->¬ ElT knd T h0 k e:=λd i e G r l x=>by
    by_cases z:d<n
    ·exact U d i e z r l x
    ·refine m3 d i (by lia) G r ?_;rw[l];obtain⟨_,_,_,e'⟩:=x;exact e'
   rcases I with⟨rfl,I⟩|⟨m5,i,m6,m7,I⟩
   ·rw[I] at C;subst C;dsimp only;refine d7 (a0 (λz=>?_) _ H ⟨_,rfl,P⟩);obtain⟨e,G,r⟩:=zA pr k z;obtain⟨i,Y,rfl⟩:=bBE G;have B:i<es.size:=by simpa using Y
    have u:i<t.place.size:=by rw[h.len];exact B
    obtain⟨b,l,m,x,q5⟩:=aE8 h.pr (i:=i) (a:=t.place[i]) (by simp[u]);rw[b8 Y] at l;cases l;obtain⟨_,_,_,q6⟩:=id r;rw[q6] at x q5;refine J m i _ (Nat.lt_of_not_le λz=>?_) (by rw[x,j9 u]) (by simp[B]) r;rcases bFE z with z|z
    ·exact H (q5 _ z)
    ·rw[z,x] at H;exact H (by simp[bES])
   ·rw[I] at C;subst C;dsimp only;have u:=(Array.getElem?_eq_some_iff.mp m6).1;have B:i<es.size:=by rw[<-h.len];exact u
    have O:=j9 B;obtain⟨k',S,a',e1,kb,e2⟩:=mZ pr es[i] (by simp[bES]);have sl:t.slot (pj t.mask (tupleKeyHash knd k) p)=.live i:=by
     rcases aC1 h.dm h.ris (pj t.mask (tupleKeyHash knd k) p) with⟨q,_⟩|⟨Z,q,q'⟩
     ·exact absurd (P p m5) q
     ·rw[q',aFp h.ris q m6]
    have W:∀{R:Bool->Shared->Prop},R false s->wpAny (model prog w) A (searchCouldBeSeen (.ref a) ((es.filter (·.1 == tupleKeyHash knd k)).toList.map (·.2))) R E s:=λhR=>aU0 (aFl F ka) hR λv hv=>by obtain⟨e,G,rfl⟩:=List.mem_map.mp hv;rw[Array.toList_filter] at G;obtain⟨k2,_,a2,r,l,_⟩:=mZ pr e (List.mem_filter.mp G).1;exact⟨a2,k2,r,aFl F l.1⟩
    generalize es[i]=ee at *;obtain⟨hh,y⟩:=ee;dsimp only at e1;subst e1;cases hl:t.led;all_goals
     first
      |(rw[if_pos (by rfl)];refine b7 (W ?_);rw[if_neg (by decide)])
      |rw[if_neg (by decide)]
     rw[O];dsimp only;refine b7 (bAS (wpAny_eqBool_tuple hu (aFl F kb.1) (aFl F ka) ?_));refine b7 (bBK ho V X ?_);by_cases c:k'=k
     ·rw[m9 c,if_pos (by rfl)];exact d7 (a3 (c ▸ S))
     ·rw[v9 c,if_neg (by decide)];dsimp only;rw[show t.sameMemory t.moves t.mask=some true by unfold SetTable.sameMemory;rw[if_pos (by simp)]];dsimp only;rw[if_pos rfl,sl];dsimp only;rw[O];dsimp only;refine b7 (wpAny_isSame_ref_self ?_);refine b7 (d7 ?_);rw[if_pos rfl];dsimp only;rw[if_neg (by decide)];refine ih (p+1) (some _) m5 (by lia) rfl λd Z e G r l x=>?_;by_cases z:d<p
      ·exact J d Z e z r l x
      ·obtain rfl:d=p:=by lia
       rw[aFp h.ris r m6,O] at l;cases l;exact c ((ElT.inj ⟨a',rfl,kb,e2⟩ x))
 exact M _ 0 none (bAE _) (by rcases h.msk with e|e|e <;> rw[e] at n1 <;> lia) rfl λp i e z=>by lia
theorem aCr {α β:Type}{R:α->β->Prop}{a:α}{b:β}(r:R a b):∀{as:List α} {bs:List β},Paired R as bs->∀p,Paired R (as.take p++a::as.drop p) (bs.take p++b::bs.drop p)
 |_,_,.nil,p=>by rw[bE4,bE4,List.drop_nil,List.drop_nil];exact .cons r .nil
 |_,_,.cons q t,0=>.cons r (.cons q t)
 |_,_,.cons q t,p+1=>.cons q (aCr r t p)
def aK6 {α:Type}(l:List α)(x:α)(p:Nat):(l.take p++x::l.drop p).Perm (l++[x]):=
 List.perm_middle.trans (by rw[List.take_append_drop];exact (List.perm_append_singleton x l).symm)
def SetT (knd:KeyKind prog w κ)(T:List κ->Addr->Prop)(h0 h:Heap)(D:Addr)(kl:List (List κ)):Prop:=∃o es ep t,h.get? D=some o/\o.ExactSet/\o.data=.set es ep t/\TI (byT w) t es/\Paired (ElT knd T h0) kl es.toList
def aSf (l:s.heap.get? D=some o)(hd:o.data=.set es ep t)(u:t.fits es.size=true)(d:Msk m)(k:SetTable.sizeAbove n=m+1)(v:5 * es.size<3 * m)(r:byT w=false->t.led=true)
  (h:∀es' t',es'.toList.Perm es.toList->TI (byT w) t' es'->Q () { s with heap:=s.heap.update D (Obj.putSet es' t') }):wpAny (model prog w) A (setRelay D n) Q E s:=by
 unfold setRelay;refine b7 (bBK l hd u ?_);dsimp only;have j:es.size<=m:=by lia
 obtain⟨f,b,q,i,_,g,p⟩:=aXl d es j t.finger (t.movedTo m) t.led t.plain;have c:(b.filterMap (es[·]?)).size=es.size:=by rw[<-v7,g.length_eq,v7]
 rw[if_neg (by rw[k,sizeLine_eq];rcases d with e|e|e <;> lia)];refine b7 (bEM (a:=(b.filterMap (es[·]?),⟨m,f,#[],t.finger,t.led,t.movedTo m,t.plain⟩)) ?_ (bFN l hd (h _ _ g ⟨r,rfl,d,i,p,by rw[c];exact v⟩) (by rw[c,sizeLine_eq];rcases d with e|e|e <;> lia)));rw[show t.relaid (es.map (·.1)) n=some (⟨m,f,#[],t.finger,t.led,t.movedTo m,t.plain⟩,b) by unfold SetTable.relaid;rw[k];exact q];exact if_neg (by simp[c])
def aR4 {D a:Addr}{H:List (List κ)}{k:List κ}{h0:Heap}{Q:Bool->Shared->Prop}(hu:A.units<cLine)(y:Ex h0 s.heap)(S:IsTupleKey knd h0 k a)(hT:T k a)(hS:SetT knd T h0 s.heap D H)(hroom:H.length<76)
  (h:∀h' tk kl' b,Heap.SameBut D s.heap h'->SetT knd T h0 h' D kl'->kl'.Perm (if k∈H then H else H++[k])->Q b { s with heap:=h',toks:=tk }):wpAny (model prog w) A (setAdd D (.ref a)) Q E s:=by
 obtain⟨o,f,ep,t,B,G,hd,g,V⟩:=id hS;have hn:H.length=f.size:=by rw[Paired.length V,v7]
 unfold setAdd;refine bAS (b7 (wpAny_pyHash_tuple hu (aFl y S) ?_));generalize s.toks+_=tk;unfold setAddHashed setAddHashedIn;refine bAS (b7 (bBK B hd g.fits ?_));dsimp only;rw[if_neg (by unfold byScan;simp[Value.scannable])];refine b7 (aQx (s:={ s with toks:=tk }) B hd g y hu S V (λz=>?_) λz j hj hr=>?_)
 ·exact d7 (h s.heap tk H false (Heap.SameBut.refl D s.heap) hS (by rw[if_pos z]))
 ·dsimp only;have bl:=(oF g.ris j).1;have lp:(SetTable.insertAt t.place (SetTable.below t.place j) j).toList=_:=nP _ _ _ bl;have U:(SetTable.insertAt f (SetTable.below t.place j) (tupleKeyHash knd k,Value.ref a)).toList=_:=nP f _ _ (by rw[<-g.len];exact bl);have nj:t.place[SetTable.below t.place j]?≠some j:=λq=>hj (by simpa using bDS q);have u:∀x,x∈t.place.toList->x∈(SetTable.insertAt t.place (SetTable.below t.place j) j).toList:=λx hx=>by rw[lp,(aK6 _ _ _).mem_iff];exact bBL _ hx
  have r:Paired (λi (e:Int × Value)=>Rch t.mask (SetTable.insertAt t.place (SetTable.below t.place j) j).toList e.1 i) (SetTable.insertAt t.place (SetTable.below t.place j) j).toList (SetTable.insertAt f (SetTable.below t.place j) (tupleKeyHash knd k,Value.ref a)).toList:=by
   rw[U];generalize (SetTable.insertAt t.place (SetTable.below t.place j) j).toList=L at lp u ⊢;refine (?_:∀L',L'=L->Paired (λi (e:Int × Value)=>Rch t.mask L e.1 i) L' _) L rfl;rintro L' rfl
   conv=>arg 2;rw[lp]
   exact aCr (R:=λi (e:Int × Value)=>Rch t.mask L' e.1 i) (hr.mono u) (g.pr.mono λ_ _ q=>q.mono u) _
  obtain⟨kl',n,pm⟩:=mY (U ▸ aK6 f.toList _ _:(SetTable.insertAt f (SetTable.below t.place j) (tupleKeyHash knd k,Value.ref a)).toList.Perm _) (qR V (show ElT knd T h0 k (tupleKeyHash knd k,Value.ref a) from ⟨a,rfl,⟨S,hT⟩,rfl⟩));generalize O:SetTable.insertAt f (SetTable.below t.place j) (tupleKeyHash knd k,Value.ref a)=es1 at U r n;have sz:es1.size=f.size+1:=by rw[<-v7,<-Paired.length n,pm.length_eq,bAA,hn];rfl
  have M:∀pt:SetTable × Nat,pt.1.mask=t.mask->pt.1.place=SetTable.insertAt t.place (SetTable.below t.place j) j->pt.1.dummies=#[]->pt.1.led=t.led->pt.2=SetTable.below t.place j->wpAny (model prog w) A (do
    let byValue <-if pt.1.plain then hashByValue 8 (Value.ref a) else pure true
    let t:=if byValue then pt.1 else { pt.1 with plain:=false }
    storeSet D (SetTable.insertAt f pt.2 (tupleKeyHash knd k,Value.ref a)) t
    if !false && t.tooFull then setRelay D (SetTable.grown (f.size+1))
    return true) Q E { s with toks:=tk }:=by
   intro ⟨K,p⟩ f1 f2 f3 f4 f5;dsimp only at f1 f2 f3 f4 f5 ⊢;subst f5;rw[O];have l:∀d:SetTable,d.mask=t.mask->d.place=K.place->d.dummies=#[]->d.led=t.led->wpAny (model prog w) A (do
     storeSet D es1 d
     if !false && d.tooFull then setRelay D (SetTable.grown (f.size+1))
     return true) Q E { s with toks:=tk }:=by
    intro d C I Y g4;have tf:d.tooFull=decide (5 * es1.size ≥ 3 * t.mask):=by
     unfold SetTable.tooFull SetTable.fill;rw[C,I,Y,f2,<-v7,r.length,v7]
     congr 1
     simp only[d9,bCK,Nat.add_zero];rw[Nat.mul_comm,Nat.mul_comm t.mask]
    have rm:=g.room;have ft:d.fits es1.size=true:=by unfold SetTable.fits SetTable.fill;rw[C,I,Y,f2,<-v7,r.length,v7];simp;lia
    have Z:=putSet_of es1 d hd;have J:=bBI (Obj.putSet es1 d) B (by rw[Z];rfl);rw[Z] at J;have F:kl'.Perm (if k∈H then H else H++[k]):=by rw[if_neg z];exact pm
    refine b7 (bFN B hd ?_ (by rw[sz,sizeLine_eq];lia));rw[tf];by_cases c:5 * es1.size ≥ 3 * t.mask
    ·rw[m9 c,if_pos (by rfl)];obtain⟨m,m1,m2,m3⟩:∃m,Msk m/\SetTable.sizeAbove (SetTable.grown (f.size+1))=m+1/\5 * es1.size<3 * m:=by
      rcases g.msk with e|e|e <;> rw[e] at c rm
      ·have:f.size=4:=by lia
       exact⟨31,.inr (.inl rfl),by rw[this];decide +kernel,by lia⟩
      ·have:f.size=18:=by lia
       exact⟨127,.inr (.inr rfl),by rw[this];decide +kernel,by lia⟩
      ·lia
     refine b7 (aSf (s:={ s with heap:=s.heap.update D (Obj.putSet es1 d),toks:=tk }) J rfl ft m1 m2 m3 (λq=>by rw[g4];exact g.led q) λv X q1 q2=>d7 ?_);obtain⟨P,W,N⟩:=mY q1 n;have hg2:=bBI (Obj.putSet v X) J rfl;exact h _ tk P true ((bAX s.heap D (Obj.putSet es1 d)).trans (bAX _ D (Obj.putSet v X))) ⟨_,v,_,X,hg2,G,rfl,q2,W⟩ (N.trans F)
    ·rw[v9 c,if_neg (by decide)];exact d7 (h _ tk kl' true (bAX s.heap D (Obj.putSet es1 d)) ⟨_,es1,_,d,J,G,rfl,⟨λq=>by rw[g4];exact g.led q,Y,by rw[C];exact g.msk,by rw[I,f2];exact uQ g.ris nj,by rw[C,I,f2];exact r,by rw[C];lia⟩,n⟩ F)
   split
   ·refine b7 (aXx (s:={ s with toks:=tk }) (aFl y S) λb=>?_);cases b with
    |true=>exact l K f1 rfl f3 f4
    |false=>exact l { K with plain:=false } f1 rfl f3 f4
   ·exact b7 (d7 (l K f1 rfl f3 f4))
  refine b7 (bBK B hd g.fits ?_);exact M (t.put j) rfl rfl (by show (if SetTable.has t.dummies j=true then _ else t.dummies)=#[];rw[g.dm,show SetTable.has #[] j=false by unfold SetTable.has;simp];rfl) rfl rfl
end
end PySem
namespace L2
open PySem PySem.Spec PyProof.Rows
end L2
namespace PySem
open PySem.Spec
def jH:entryFor table "list.remove.loop"=some Builtin.«list.remove.loop»:=entryFor_of_tree (by kernel_rfl)
section
variable {prog:Program}{w:World}{A:Around}{R:Result->Shared->Prop}{s:Shared}{l:Addr}{items:Array Value}{n:Nat}{dd:Option Addr}{sl:Array (Option Value)}{x:Value}{j:Nat}
theorem aDd (c:s.heap.get? l=some { cls:=Value.type "list",dict:=dd,data:=Data.seq items n,slots:=sl })(h:j<items.size)
  (g:SeqAt.EqAt A.in1 s items[j] x true) (f:∀(m:Nat) (hm:m<items.size),m<j->SeqAt.EqAt A.in1 s items[m] x false) (d:items.size<=sizeLine)
  (q:R (.ok (.ret .none)) { s with heap:=s.heap.update l (Obj.mapSeq λxs=>xs.eraseIdxIfInBounds j) }) :
  ∀k i,i+k=j->codeAny (model prog w) A (.builtin "list.remove.loop" ⟨[.ref l,x,rawInt (i:Nat)],[]⟩) R s:=by
 intro k
 induction k with
 |zero=>
  intro i e;obtain rfl:i=j:=by lia
  refine bBG jH ?_;rw[bAZ MeetsSeq.plain_remove_loop _];refine b7 (wpAny_listItems c rfl ?_);have b:items[Int.toNat (i:Nat)]?=some items[i]:=by rw[bAR];exact j9 h
  simp only[b];refine b7 (g _ _ _ _ ?_);simp only[if_true];refine b7 (PyProof.Rows.listUpdate_at c rfl ?_ d ?_)
  ·rw[bAR];exact d7 q
  ·unfold Array.eraseIdxIfInBounds
   split
   ·rw[Array.size_eraseIdx];lia
   ·lia
 |succ k ih=>
  intro i e;refine bBG jH ?_;rw[bAZ MeetsSeq.plain_remove_loop _];have a:i<items.size:=by lia
  refine b7 (wpAny_listItems c rfl ?_);have b:items[Int.toNat (i:Nat)]?=some items[i]:=by rw[bAR];exact j9 a
  simp only[b];refine b7 (f i a (by lia) _ _ _ _ ?_);refine d7 ⟨bCE MeetsSeq.plain_remove_loop _,?_⟩;exact ih (i+1) (by lia)
def aD3 (l:Addr)(items:Array Value)(n:Nat)(dd:Option Addr)(sl:Array (Option Value))(x:Value)(j:Nat)(f:j<items.size)(e:items.size<=sizeLine) :
  Meets (Builtin.«list.remove» ⟨[.ref l,x],[]⟩) λA R s=>s.heap.get? l=some { cls:=Value.type "list",dict:=dd,data:=Data.seq items n,slots:=sl } /\
   SeqAt.EqAt A.in1 s items[j] x true/\(∀m hm,m<j->SeqAt.EqAt A.in1 s items[m] x false) /\
   R (.ok (.ret .none)) { s with heap:=s.heap.update l (Obj.mapSeq λxs=>xs.eraseIdxIfInBounds j) }:=by
 intro a w A R s ⟨b,c,d,q⟩;refine d7 ⟨bCE MeetsSeq.plain_remove_loop _,?_⟩;exact aDd b f c d e q j 0 (by lia)
end
end PySem
namespace L2
open PySem PySem.Spec PyProof.Rows
theorem aCi:∀{xs:List V} {its:List Value},Vals xs its->∀j,Vals (xs.eraseIdx j) (its.eraseIdx j)
 |_,_,.nil,j=>by cases j <;> exact .nil
 |_,_,.cons r t,0=>t
 |_,_,.cons r t,j+1=>.cons r (aCi t j)
def pY (r:List V):Prop:=∀x∈r,(∃i,x=.int i)\/∃z,x=.str z
def aPg (b:(∃i,x=.int i)\/∃z,x=.str z)(a:(∃i,y=.int i)\/∃z,y=.str z):eqV x y=decide (x=y):=by
 rcases b with⟨i,rfl⟩|⟨z,rfl⟩ <;> rcases a with⟨j,rfl⟩|⟨w,rfl⟩
 ·by_cases e:i=j
  ·subst e;rw[m9 rfl];exact beq_self_eq_true _
  ·rw[v9 λq=>e (V.int.inj q)];exact beq_eq_false_iff_ne.mpr e
 ·rw[v9 λq=>by cases q];rfl
 ·rw[v9 λq=>by cases q];rfl
 ·by_cases e:z=w
  ·subst e;rw[m9 rfl];exact beq_self_eq_true _
  ·rw[v9 λq=>e (V.str.inj q)];exact beq_eq_false_iff_ne.mpr e
def aXt:∀{r q:List V},pY r->pY q->((List.range (min r.length q.length)).all (λj=>eqV (r.getD j .non) (q.getD j .non)) && r.length == q.length)=decide (r=q):=by
 intro r q b f;by_cases e:r=q
 ·subst e;rw[m9 rfl,beq_self_eq_true,Bool.and_true,bCC];intro j a;rw[List.mem_range,Nat.min_self] at a;rw[j6,b8 a,bBQ,aPg (b _ (bAP a)) (b _ (bAP a)),m9 rfl]
 ·rw[v9 e];by_cases l:r.length=q.length
  ·cases h:(List.range (min r.length q.length)).all (λj=>eqV (r.getD j .non) (q.getD j .non)) with
   |false=>rfl
   |true=>refine absurd (List.ext_getElem l λj d c=>?_) e;have:=List.all_eq_true.mp h j (List.mem_range.mpr (by lia));rw[j6,b8 d,bBQ,j6,b8 c,bBQ,aPg (b _ (bAP d)) (f _ (bAP c))] at this;exact of_decide_eq_true this
  ·rw[show (r.length == q.length)=false from beq_eq_false_iff_ne.mpr l,Bool.and_false]
theorem aIi:∀{r q:List V} {its:List Value},Vals r its->Vals q its->pY r->pY q->r=q
 |_,_,_,.nil,.nil,_,_=>rfl
 |x::r,y::q,_,.cons a t,.cons b u,hr,hq=>by
  have e:x=y:=by rcases hr x j7 with⟨i,rfl⟩|⟨z,rfl⟩ <;> rcases hq y j7 with⟨j,rfl⟩|⟨w,rfl⟩ <;> obtain⟨_,a⟩:=a <;> obtain⟨_,b⟩:=b <;> rw[a] at b <;> cases b <;> rfl
  rw[e,aIi t u (λz c=>hr z (j5 _ c)) λz c=>hq z (j5 _ c)]
section
variable {X:Cx}{bFT:bFR}{σ:L2.St}{H:Hp}{s:Shared}
def aB6 (I:Inv X bFT σ H s)(v:SqT X.K H a r)(p:SqT X.K H a q)(u:pY r)(x:pY q):r=q:=by
 obtain⟨d,k,h,_⟩:=I.tuple v;obtain⟨c,i,f,_⟩:=I.tuple p;have j:d=c:=by obtain⟨o,l,w,n,g⟩:=h;obtain⟨m,b,y,t,e⟩:=f;rw[l] at b;cases b;rw[g] at e;have:=Data.seq.inj e;simpa using congrArg Array.toList this.1
 subst j;exact aIi k i u x
def aFe (I:Inv X bFT σ H s){A:Around}(hA:A.units+2<cLine){x y:V}{v u:Value}{r q:List V}(R:dD X.K H x r)(T:dD X.K H y q)(k:pY r)(n:pY q)(U:RelV x v)(S:RelV y u):SeqAt.EqAt A s v u (decide (r=q)):=by
 obtain⟨a,rfl,l⟩:=R;obtain⟨b,rfl,h⟩:=T;cases U;cases S;obtain⟨c,t,P,_⟩:=I.tuple l;obtain⟨d,m,J,_⟩:=I.tuple h;by_cases e:a=b
 ·subst e;rw[aB6 I l h k n,m9 rfl];exact bDB _
 have F:=t.length;have w:=m.length;refine bFC e ?_;have z:=bFK (A:=A) (e:=λj=>eqV (r.getD j .non) (q.getD j .non)) (show s.heap.IsTuple a c.toArray from P) (show s.heap.IsTuple b d.toArray from J) (by lia) λj G M=>by
  rw[d9] at G M;have p:r[j]?=some r[j]:=b8 (by lia);have o:q[j]?=some q[j]:=b8 (by lia);obtain⟨E,f,C⟩:=t.get p;obtain⟨Q,g,B⟩:=m.get o;have L:c.toArray[j]=E:=by rw[bBM];exact (List.getElem?_eq_some_iff.mp f).2
  have N:d.toArray[j]=Q:=by rw[bBM];exact (List.getElem?_eq_some_iff.mp g).2
  rw[L,N,j6,p,j6,o];have D:=k r[j] (bAP _);have O:=n q[j] (bAP _);refine aTw C B ?_ ?_
  ·rcases D with⟨i,e⟩|⟨i,e⟩ <;> rw[show (Option.some r[j]).getD V.non=r[j] from rfl,e] <;> rfl
  ·rcases O with⟨i,e⟩|⟨i,e⟩ <;> rw[show (Option.some q[j]).getD V.non=q[j] from rfl,e] <;> rfl
 rw[d9,d9,<-F,<-w,aXt k n] at z;exact z
def aXn (I:Inv X bFT σ H s)(Q:A.units+2<cLine)(J:Vals us its)(h:Al2 (dD X.K H) us rs)(L:∀r∈rs,pY r)(O:dD X.K H y q)(G:pY q)(N:RelV y u):∃e:Value->Bool,(∀v∈its,SeqAt.EqAt A s v u (e v))/\its.any e=decide (q∈rs):=by
 have l:∀v∈its,∃i x r,us[i]?=some x/\rs[i]?=some r/\dD X.K H x r/\RelV x v:=λv c=>by
  obtain⟨i,m⟩:=List.mem_iff_getElem?.mp c;have j:i<us.length:=by rw[J.length];exact (List.getElem?_eq_some_iff.mp m).1
  obtain⟨r,w,E⟩:=h.at (b8 j);obtain⟨P,p,g⟩:=J.get (b8 j);rw[m] at p;cases p;exact⟨i,_,r,b8 j,w,E,g⟩
 refine⟨λv=>@decide (∃x,dD X.K H x q/\RelV x v) (Classical.propDecidable _),λv c=>?_,?_⟩
 ·obtain⟨i,x,r,_,t,k,o⟩:=l v c;have F:=L r (m8 t);have e:@decide (∃x,dD X.K H x q/\RelV x v) (Classical.propDecidable _)=decide (r=q):=by
   by_cases z:r=q
   ·subst z;rw[m9 rfl];exact @decide_eq_true _ (Classical.propDecidable _) ⟨x,k,o⟩
   ·rw[v9 z];refine @decide_eq_false _ (Classical.propDecidable _) λ⟨M,d,f⟩=>z ?_;obtain⟨a,rfl,C⟩:=k;obtain⟨b,rfl,B⟩:=d;have D:=o;have n:=f;rw[D] at n;cases n;exact aB6 I C B F G
  show SeqAt.EqAt A s v u (@decide (∃x,dD X.K H x q/\RelV x v) (Classical.propDecidable _));rw[e];exact aFe I Q k O F G o N
 ·by_cases z:q∈rs
  ·rw[m9 z];obtain⟨i,m⟩:=List.mem_iff_getElem?.mp z;have j:i<us.length:=by rw[h.len];exact (List.getElem?_eq_some_iff.mp m).1
   obtain⟨r,w,E⟩:=h.at (b8 j);rw[m] at w;cases w;obtain⟨v,c,g⟩:=J.get (b8 j);exact List.any_eq_true.mpr ⟨v,m8 c,@decide_eq_true _ (Classical.propDecidable _) ⟨_,E,g⟩⟩
  ·rw[v9 z];refine List.any_eq_false.mpr λv c hd=>z ?_;obtain⟨M,d,f⟩:=@of_decide_eq_true _ (Classical.propDecidable _) hd;obtain⟨i,x,r,_,t,k,o⟩:=l v c;obtain⟨a,rfl,C⟩:=k;obtain⟨b,rfl,B⟩:=d;have D:=o;have n:=f;rw[D] at n;cases n;rw[<-aB6 I C B (L r (m8 t)) G];exact m8 t
end
def aVh (K:bFP):R2:=λx y H Q=>∃l us rs q,y=.ref l/\SqL K H l us/\Al2 (dD K H) us rs/\(∀r∈rs,pY r)/\dD K H x q/\pY q/\Q (.bl (!decide (q∈rs))) H
def aMx (hu:X.A.units+64<cLine):OpR X (compareOp .NotIn) (aVh X.K):=by
 intro r s σ H x y v u Q I i p h;obtain⟨l,B,c,q,rfl,g,o,d,b,n,k⟩:=h;cases p;obtain⟨a,w,t,_⟩:=I.list g;obtain⟨e,m,f⟩:=aXn I (A:=X.A.in1) (show X.A.units+1+2<cLine by lia) w o d b n i;refine SeqAt.notIn_listAt e t.isList (λy j=>m y (by simpa using j)) ?_;have z:a.toArray.any e=decide (q∈c):=by rw[<-f];simp
 rw[z];exact⟨.bl _,H,I,rfl,k⟩
def bC1 (K:bFP):V->List V->Hp->VK->Prop:=λx vs H Q=>∃l us y rs q j,x=.ref l/\vs=[y]/\H l=some (.lst us)/\Al2 (dD K H) us rs/\(∀r∈rs,pY r)/\dD K H y q/\pY q/\rs[j]?=some q/\(∀m r,m<j->rs[m]?=some r->r≠q)/\Q .non (upd H l (.lst (us.eraseIdx j)))
def aXr {X:Cx}(hu:X.A.units+64<cLine):MtR X "list.remove" (bC1 X.K):=by
 intro W s σ H x vs v Y Q I P T h;obtain⟨l,G,y,C,q,j,rfl,rfl,E,D,L,R,S,t,J,k⟩:=h;cases P;obtain⟨u,rfl,M⟩:=T.one;obtain⟨z,a,n,r,hl,e⟩:=I.aS1 E;have lx:=D.len;have d:j<a.toArray.size:=by rw[d9];have:=(List.getElem?_eq_some_iff.mp t).1;lia
 have f:∀(m:Nat) (o:m<a.toArray.size) (b:List V),C[m]?=some b->SeqAt.EqAt X.A.in1 s a.toArray[m] u (decide (b=q)):=λm o b c=>by
  have g:m<G.length:=by rw[d9] at o;lia
  obtain⟨Z,i,B⟩:=D.at (b8 g);rw[c] at i;cases i;obtain⟨O,p,N⟩:=r.get (b8 g);have U:a.toArray[m]=O:=by rw[bBM];exact (List.getElem?_eq_some_iff.mp p).2
  rw[U];exact aFe I (show X.A.units+1+2<cLine by lia) B R (L b (m8 c)) S N M
 refine call_meets F.slot_list_remove ⟨_,e,rfl⟩ F.entry_list_remove (F.args_list_remove_2 _ _) (aD3 l a.toArray n none #[] u j d (by rw[d9];lia)) ⟨e,?_,λm o w=>?_,?_⟩
 ·have:=f j d q t;rw[m9 rfl] at this;exact this
 ·obtain⟨b,c⟩:∃b,C[m]?=some b:=⟨_,b8 (by have:=(List.getElem?_eq_some_iff.mp t).1;lia)⟩;have:=f m o b c;rw[v9 (J m b w c)] at this;exact this
 ·refine⟨.non,_,I.lset (its':=a.eraseIdx j) E e ?_ ?_ ?_,rfl,k⟩
  ·show a.toArray.eraseIdxIfInBounds j=(a.eraseIdx j).toArray;rw[List.eraseIdxIfInBounds_toArray]
  ·exact aCi r j
  ·have:=List.length_eraseIdx_le G j;lia
end L2
namespace PySem
section
variable {prog:Program}{w:World}{κ:Type}[DecidableEq κ]{knd:KeyKind prog w κ}{T:List κ->Addr->Prop}
def bAf (hu:A.units+10<cLine)(h0:Heap)(D:Addr):Kset prog w (List κ) A h0 D (λh kl=>SetT knd T h0 h D kl) (λk v=>∃a,v=.ref a/\IsTupleKey knd h0 k a/\T k a) 75:=
 ⟨λ⟨o,l,u,t,z,r⟩ e=>⟨o,l,u,t,e o z,r⟩,λC p ⟨a,e,y,g⟩ B E q=>by subst e;exact aR4 (by lia) p y g B (by lia) λm j d b n x f=>q m j d b n x (by split <;> rename_i c <;> simp only[c,if_true,if_false] at f <;> exact f),
 λi=>⟨_,#[],0,_,i,⟨rfl,rfl,rfl⟩,rfl,⟨λe=>by show (!byT w)=true;rw[e];rfl,rfl,.inl rfl,λa b s=>absurd s (by show ¬ (a<0);lia),.nil,by show 5 * 0<3 * 7;decide⟩,.nil⟩⟩
end
end PySem
namespace L2
open PySem PySem.Spec PyProof.Rows PySem.Calls
def aTo (w:World)(D:Addr)(as:List Addr):HO:=.ext λh=>∃o es ep t,h.get? D=some o/\o.ExactSet/\o.data=.set es ep t/\t.fits es.size=true/\TabOk (byT w) t/\es.toList.map (·.2)=as.map Value.ref
section
variable {X:Cx}{bFT:bFR}{σ:L2.St}{H:Hp}{s:Shared}
theorem aUc (h:pY r):∃k:List Key,r=k.map kV:=by
 induction r with
 |nil=>exact⟨[],rfl⟩
 |cons x r ih=>
  obtain⟨k,rfl⟩:=ih λy a=>h y (j5 _ a);rcases h x j7 with⟨i,rfl⟩|⟨z,rfl⟩
  ·exact⟨.inl i::k,rfl⟩
  ·exact⟨.inr z::k,rfl⟩
theorem aZv {a b:List Key}(h:a.map kV=b.map kV):a=b:=by
 induction a generalizing b with
 |nil=>cases b with
  |nil=>rfl
  |cons=>cases h
 |cons x a ih=>cases b with
  |nil=>cases h
  |cons y b=>injection h with h1 h2;rw[aZu h1,ih h2]
theorem aVu (I:Inv X bFT σ H s)(h:SqT X.K H a (k.map kV)):IsTupleKey (bK X.prog X.w) s.heap k a:=by
 obtain⟨b,c,⟨o,e,d,n,hd⟩,z⟩:=I.tuple h;clear z;refine⟨o,_,n,e,d,hd,?_⟩;clear h e d hd
 induction k generalizing b with
 |nil=>cases c;exact .nil
 |cons x k ih=>
  cases c with
  |cons p q=>exact .cons (aOk p).1 (ih _ q)
def bCz (w:World)(K:bFP):List V->Hp->VK->Prop:=λxs H Q=>∃p us rs,xs=[.ref p]/\SqL K H p us/\Al2 (dD K H) us rs/\(∀r∈rs,pY r)/\us.length<=75/\∀D H' as qs,H D=none->Same H H'->H' D=some (aTo w D as)->Al2 (dD K H) (as.map .ref) qs->Ded qs rs->Q (.ref D) H'
def aQc (hc:X.calm=true)(hU:X.A.units+64<cLine):cJ X (.type "set") (bCz X.w X.K):=by
 intro a0 s σ H xs a1 Q I r h;obtain⟨p,us,G,rfl,hq,F,Y,hl,q⟩:=h;obtain⟨u,rfl,rx⟩:=r.one;cases rx;obtain⟨M,Z,pl,hz⟩:=I.list hq;have n:=Z.length;have j:=F.len;obtain⟨ks,rfl⟩:∃ks:List (List Key),G=ks.map (·.map kV):=by
  clear F j q
  induction G with
  |nil=>exact⟨[],rfl⟩
  |cons r G ih=>obtain⟨ks,rfl⟩:=ih λy hy=>Y y (j5 _ hy);obtain⟨k,rfl⟩:=aUc (Y r j7);exact⟨k::ks,rfl⟩
 rw[j4] at j;refine aFj (ks:=ks) (I.ok.hd hc) (bAf (knd:=bK X.prog X.w) (T:=λk a=>dD X.K H (.ref a) (k.map kV)) (by lia) s.heap s.heap.objs.size) pl.isList (by rw[d9];lia) (λi v hv=>?_) (by rw[d9,<-n];exact hl) λh' tk kl x C kp=>?_
 ·have m:M[i]?=some v:=by simpa using hv
  have U:i<ks.length:=by have:=(List.getElem?_eq_some_iff.mp m).1;lia
  have B:i<us.length:=by lia
  obtain⟨u,S,V⟩:=Z.get (b8 B);rw[m] at S;cases S;have c:=F.get (b8 B) (show (ks.map (·.map kV))[i]?=some (ks[i].map kV) by rw[t7,b8 U];rfl);obtain⟨a,J,ha⟩:=id c;rw[J] at V c;cases V;exact⟨ks[i],b8 U,a,rfl,aVu I ha,c⟩
 ·obtain⟨o,D,L,t,W,O,hd,N,pr⟩:=x;obtain⟨d,J,E⟩:∃d:List Addr,D.toList.map (·.2)=d.map Value.ref/\Al2 (dD X.K H) (d.map .ref) (kl.map (·.map kV)):=by
   clear C q N hd;generalize D.toList=l at pr
   induction pr with
   |nil=>exact⟨[],rfl,.nil⟩
   |cons r _ ih=>obtain⟨d,f,g⟩:=ih;obtain⟨a,e1,⟨_,ht⟩,_⟩:=r;exact⟨a::d,by rw[bAC,bAC,e1,f],.cons ht g⟩
  have R:H s.heap.objs.size=none:=I.hok.fresh (d8 _);refine⟨.ref s.heap.objs.size,_,I.laid (t':=tk) (o:=aTo X.w s.heap.objs.size d) (λb o P=>kp b o (j8 P) P) (d8 _) ⟨⟨o,D,L,t,W,O,hd,N.fits,N.tab,J⟩,⟨o,W⟩,λf g ⟨o,D,L,t,y,z⟩ k=>⟨o,D,L,t,k o y,z⟩⟩,rfl,q _ _ d _ R (bC R _) aK E ⟨?_,λk=>?_,?_⟩⟩
  ·exact List.pairwise_map.mpr (C.1.imp λh e=>h (aZv e))
  ·rw[List.mem_map,List.mem_map];exact⟨λ⟨x,f,g⟩=>⟨x,(C.2.1 x).mp f,g⟩,λ⟨x,f,g⟩=>⟨x,(C.2.1 x).mpr f,g⟩⟩
  ·rw[j4,j4];exact C.2.2
def aPv (w:World)(K:bFP):List V->Hp->VK->Prop:=λxs H Q=>∃D as rs ks,xs=[.ref D]/\H D=some (aTo w D as)/\Al2 (dD K H) (as.map .ref) rs/\as.length<64/\ks≠[]/\(∀r∈rs,KdR ks r) /\
 ∀B H' us',H B=none->Same H H'->H' B=some (.lst us')->Al2 (dD K H) us' (srt rs)->Q (.ref B) H'
theorem aSw {α β:Type}{R:α->β->Prop}{as' as:List α}(p:as'.Perm as):∀{bs:List β},Al2 R as bs->∃bs',Al2 R as' bs'/\bs'.Perm bs:=by
 induction p with
 |nil=>intro bs h;exact⟨bs,h,.refl _⟩
 |cons x _ ih=>
  intro bs h;cases h with
  |cons r t=>obtain⟨bs',b,a⟩:=ih t;exact⟨_,.cons r b,a.cons _⟩
 |swap x y l=>
  intro bs h;cases h with
  |cons r t=>
   cases t with
   |cons r2 t2=>exact⟨_,.cons r2 (.cons r t2),.swap ..⟩
 |trans _ _ ih1 ih2=>intro bs h;obtain⟨f,b,a⟩:=ih2 h;obtain⟨c,e,d⟩:=ih1 b;exact⟨c,e,d.trans a⟩
theorem aD6 (hc:X.calm=true):cJ X (.builtin "sorted") (aPv X.w X.K):=by
 intro O s σ H xs a2 Q I r h;obtain⟨D,R,a0,ks,rfl,hD,S,a1,J,L,q⟩:=h;obtain⟨u,rfl,rx⟩:=r.one;cases rx;obtain⟨o,es,ep,t,ho,Y,hd,hf,M,Z⟩:=(I.hok D _ hD).1;have hl:es.size=R.length:=by have:=congrArg List.length Z;simpa using this
 refine call_function_entry kind_sorted plain_sorted entry_sorted (args_sorted1 _) ?_;unfold Builtin.«sorted»;refine b7 (m:=checkCount "sorted" 1 1 _) (d7 (b7 (wM (A:=X.A.in1) (I.ok.hd hc) ⟨o,ho,Y,hd,hf⟩ M (by lia) λy F U d hk hp=>?_)));obtain⟨c,e1,N⟩:∃c:List Addr,d.map (·.2)=c.map Value.ref/\c.Perm R:=by
  have E:(d.map (·.2)).Perm (R.map Value.ref):=Z ▸ hp.map _;have p:∀v∈d.map (·.2),∃a,v=Value.ref a:=λv G=>by obtain⟨a,_,e⟩:=List.mem_map.mp (E.mem_iff.mp G);exact⟨a,e.symm⟩
  generalize d.map (·.2)=l at E p;have un:∃c:List Addr,l=c.map Value.ref:=by
   clear E
   induction l with
   |nil=>exact⟨[],rfl⟩
   |cons v l ih=>obtain⟨c,rfl⟩:=ih λv G=>p v (j5 _ G);obtain⟨a,rfl⟩:=p v j7;exact⟨a::c,rfl⟩
  obtain⟨c,rfl⟩:=un;refine⟨c,rfl,?_⟩;have:=E.filterMap λv=>match v with|Value.ref a=>some a|_=>none
  simpa [bEI,Function.comp_def] using this
 rw[e1];obtain⟨g,x,T⟩:=aSw (N.map V.ref) S;have k:∀r∈g,KdR ks r:=λr x=>L r (T.mem_iff.mp x);have ul:=N.length_eq;have rv:Vals (c.map .ref) (c.map Value.ref):=by
  clear x g T k N ul e1
  induction c with
  |nil=>exact .nil
  |cons a c ih=>exact .cons rfl ih
 have rl:g.length=c.length:=by have:=x.len;rw[j4] at this;exact this.symm
 have P:Inv X O σ H { s with heap:=y,toks:=F,drawn:=U }:=(I.kept (t':=F) hk).drew U;have e3:=aJz k T;refine b7 (bE5 ?_ (by rw[sizeLine_eq,j4];lia));have n:(y.push (seqObj "list" (c.map Value.ref).toArray 0)).get? y.objs.size=some (seqObj "list" (c.map Value.ref).toArray 0):=j0 _ rfl;refine b7 (bAS (bAG slot_list_sort ⟨_,n,rfl⟩ entry_list_sort (PySem.W.pU (f:=λi j=>rlt (g.getD i []) (g.getD j [])) (s:={ s with heap:=y.push (seqObj "list" (c.map Value.ref).toArray 0),toks:=F,drawn:=U }) n (by rw[j4];lia) (λh2 h' kp=>aIw P rv x J k _ h2 h' λb o e=>kp b o (t6 (j8 e)) (c7 _ e)) ⟨_,rfl,d7 ⟨_,rfl,?_⟩⟩) (args_list_sort _)));obtain⟨e,he⟩:=sortedHeap_at (out:=List.toArray ((PySem.W.eG (c.map Value.ref).length λi j=>rlt (g.getD i []) (g.getD j [])).map λi=>(c.map Value.ref).getD i Value.none)) n;have B:H y.objs.size=none:=P.hok.fresh (d8 _);have C:∀i∈PySem.W.eG g.length (λi j=>rlt (g.getD i []) (g.getD j [])),i<(c.map V.ref).length:=λi hi=>by have:=PySem.W.oH hi;rw[j4];lia
 refine⟨.ref y.objs.size,_,P.laid (t':=F) (o:=.lst ((PySem.W.eG g.length λi j=>rlt (g.getD i []) (g.getD j [])).map λi=>(c.map V.ref).getD i .non)) (λb o q=>?_) (d8 _) ?_,rfl,q _ _ _ B (bC B _) aK (e3 ▸ aEs x _ C)⟩
 ·have z:=j8 q;show (sortedHeap _ _ _ _).get? b=some o;rw[sortedHeap_old (t6 z) (by rw[size_push'];exact bBA z)];exact c7 _ q
 ·refine⟨small (by rw[j4,PySem.W.sV];lia),_,e,?_,he⟩;rw[j4,<-rl];exact aFn rv _ C
end
end L2
namespace My
open PySem PySem.Spec PyProof.Rows L2
section
variable {P:Program}{w:World}{K:bFP}{mg:bFS}{base:Heap}
def jP.tk (e:TK K H H')(h:jP K H v c):jP K H' v c:=by obtain⟨p,rfl,a⟩:=h;exact⟨p,rfl,e _ _ a⟩
theorem zV.tk (e:TK K H H')(h:zV K H v pl):zV K H' v pl:=by
 cases pl with
 |copies=>obtain⟨a,rfl,b⟩:=h;exact⟨a,rfl,e _ _ b⟩
 |keys n=>obtain⟨a,rfl,b⟩:=h;exact⟨a,rfl,e _ _ b⟩
 |spans n h0 cs=>obtain⟨a,d,rfl,b,c⟩:=h;exact⟨a,d,rfl,e _ _ b,aO5 e (λ_ _ z=>z.tk e) c⟩
structure KP (K:bFP)(S:Addr->Prop)(H H':Hp):Prop where
 st:∀b o,S b->H b=some o->H' b=some o
 tk:TK K H H'
section
variable {S:Addr->Prop}{H H':Hp}
def KP.same (s:Same H H'):KP K S H H':=⟨λb o _ h=>s b o h,.of s⟩
def KP.trans (k:KP K S H H')(l:KP K S H' H2):KP K S H H2:=⟨λb o h e=>l.st b o h (k.st b o h e),λp a e=>l.tk p a (k.tk p a e)⟩
theorem KP.lQ (d:H D=some (.lst ys))(n:¬ S D):KP K S H (L2.upd H D (.lst zs)):=⟨λb o h e=>by have a:b≠D:=λz=>n (z ▸ h);rw[aR a];exact e,λp c e=>SqT.lQ d e⟩
def KP.aT9 (d:cW H D)(n:¬ S D):KP K S H (L2.upd H D u):=⟨λb o h e=>by have a:b≠D:=λz=>n (z ▸ h);rw[aR a];exact e,λp c e=>But.bB But.upd d e⟩
def KP.fx (f:Fx a H H')(h:gC H a)(n:¬ S a):KP K S H H':=⟨λb o c e=>f.same b o (λz=>n (z ▸ c)) e,f.tk h⟩
def KP.mono (k:KP K S H H')(h:∀b,S' b->S b):KP K S' H H':=⟨λb o s e=>k.st b o (h b s) e,k.tk⟩
def bU.kp (k:KP K S H H')(s:S L)(h:bU K H L rs):bU K H' L rs:=by obtain⟨c,d,a⟩:=h;exact⟨c,k.st _ _ s d,a.imp λ_ _ ⟨p,e,b⟩=>⟨p,e,k.tk _ _ b⟩⟩
end
theorem lZ.kp (k:KP K S H H')(s:S L)(h:lZ K H v vh vp L t):lZ K H' v vh vp L t:=by obtain⟨a,e,c,f,b,d⟩:=h;exact⟨a,e,k.tk _ _ c,f.tk k.tk,b.tk k.tk,d.kp k s⟩
theorem gH.kp (k:KP K S H H')(b:S d)(c:∀e∈es,S e.L)(h:gH K H d es):gH K H' d es:=⟨k.st _ _ b h.at_,h.nd,h.few,h.nm,λe a=>(h.tb e a).kp k (c e a)⟩
def fW (h:n<1000):n<sizeLine:=bAB h (by decide)
def aAm {hd:Hdr}{r:List V}(h:pX hd r):pY r:=λx a=>aYu (vW h) x a
def aWl {α:Type}{xs:List α}{x:α}(h:xs[xs.length - 1]?=some x):atI xs (-1)=some x:=by have a:=(List.getElem?_eq_some_iff.mp h).1;unfold atI ixN;rw[if_neg (by decide),if_pos (by lia)];rw[show ((-1:Int)+(xs.length:Int)).toNat=xs.length - 1 by lia];exact h
theorem aEc {α β:Type}{R:α->β->Prop}{as:List α}{bs:List β}(h:bY R as bs):∀n,bY R (as.take n) (bs.take n):=by
 induction h with
 |nil=>intro n;rw[bE4,bE4];exact .nil
 |cons r _ ih=>
  intro n;cases n with
  |zero=>exact .nil
  |succ n=>exact .cons r (ih n)
theorem bJ.kp (k:KP K S H H')(a:S x)(b:S d)(c:∀e∈es,S e.L)(h:bJ K H C x m d dm es):bJ K H' C x m d dm es:=
 ⟨let ⟨dx,h1⟩:=h.at_;⟨dx,k.st _ _ a h1⟩,h.ens.kp k b c,h.ok,h.ne⟩
def bJ.mv (h:bJ K H C x m d dm es)(g:H dm=some (.dK kvs)):KP K (λb=>b≠dm) H (L2.upd H dm (.dK kvs'))/\bJ K (L2.upd H dm (.dK kvs')) C x m d dm es:=by
 have k:KP K (λb=>b≠dm) H (L2.upd H dm (.dK kvs')):=.aT9 (cW.dK g) λz=>z rfl;refine⟨k,h.kp k (λz=>?_) h.ne λe f z=>?_⟩
 ·obtain⟨i,a⟩:=h.at_;rw[z,g] at a;cases a
 ·obtain⟨_,_,_,_,_,j,c,_⟩:=h.ens.tb e f;rw[z,g] at c;cases c
def Mvs (K:bFP)(H:Hp)(dm:Addr)(f:Str->Option Mv)(j:Nat):Prop:=∃kvs,H dm=some (.dK kvs)/\kvs.length<=j/\∀n,∃v,eV kvs (Sum.inr n)=mvO (f n) v/\MvV K H v (f n)
def fset (f:Str->Option Mv)(n:Str)(o:Option Mv):Str->Option Mv:=λx=>if x=n then o else f x
theorem MvV.tk (k:∀p xs,SqT K H p xs->SqT K H' p xs)(h:MvV K H v o):MvV K H' v o:=by
 cases o with
 |none=>exact h
 |some q=>exact aIk.tk k h
def Mvs.d (h:Mvs K H dm f j)(n:Str)(e:f n=o):MvD K H dm n o:=by obtain⟨a,i,_,g⟩:=h;obtain⟨v,c,b⟩:=g n;rw[e] at c b;exact⟨a,v,i,c,b⟩
def Mvs.kp (e:∀u,H dm=some u->H' dm=some u)(tk:∀p xs,SqT K H p xs->SqT K H' p xs)(h:Mvs K H dm f j):Mvs K H' dm f j:=by obtain⟨a,d,b,c⟩:=h;exact⟨a,e _ d,b,λn=>let ⟨v,h4,h5⟩:=c n;⟨v,h4,h5.tk tk⟩⟩
def Mvs.same (s:Same H H')(h:Mvs K H dm f j):Mvs K H' dm f j:=h.kp (λu h=>s _ _ h) λ_ _=>s.bB
def aOl (kvs:List (Key × V))(k:Key)(v:V):(putK kvs k v).length<=kvs.length+1:=by
 unfold putK
 split
 ·rw[j4];lia
 ·rw[bAA];exact d8 _
def Mvs.put (g:H dm=some (.dK kvs))(h:Mvs K H dm f j)(r:aIk K H v q):Mvs K (L2.upd H dm (.dK (putK kvs (Sum.inr n) v))) dm (fset f n (some q)) (j+1):=by
 obtain⟨b,d,o,l⟩:=h;rw[g] at d;cases d;have c:∀p a,SqT K H p a->SqT K (L2.upd H dm (.dK (putK kvs (Sum.inr n) v))) p a:=λp a e=>But.bB But.upd (cW.dK g) e;refine⟨_,aK,bAK (aOl _ _ _) (by lia),λm=>?_⟩;by_cases e:m=n
 ·subst e;refine⟨v,?_,?_⟩
  ·rw[aKd,if_pos rfl];unfold fset;rw[if_pos rfl];rfl
  ·unfold fset;rw[if_pos rfl];exact aIk.tk c r
 ·obtain⟨u,i,k⟩:=l m;refine⟨u,?_,?_⟩
  ·rw[aKd,if_neg λz=>e (Sum.inr.inj z)];unfold fset;rw[if_neg e];exact i
  ·unfold fset;rw[if_neg e];exact k.tk c
theorem xZ (k j:Key):∀kvs:List (Key × V),eV (mD kvs k) j=if j=k then none else eV kvs j
 |[]=>by split <;> rfl
 |p::r=>by
  have a:=xZ k j r;by_cases e:p.1=k
  ·rw[aQp e,a];by_cases z:j=k
   ·rw[if_pos z,if_pos z]
   ·rw[if_neg z,if_neg z,cR λq=>z (q.symm.trans e)]
  ·rw[aQu e];by_cases z:p.1=j
   ·rw[cU z,cU z,if_neg λq=>e (z.trans q)]
   ·rw[cR z,cR z,a]
def Mvs.drop (g:H dm=some (.dK kvs))(h:Mvs K H dm f j):Mvs K (L2.upd H dm (.dK (mD kvs (Sum.inr n)))) dm (fset f n none) j:=by
 obtain⟨b,c,d,o⟩:=h;rw[g] at c;cases c;have k:∀p a,SqT K H p a->SqT K (L2.upd H dm (.dK (mD kvs (Sum.inr n)))) p a:=λp a e=>But.bB But.upd (cW.dK g) e;refine⟨_,aK,bAK (aIm _ _) d,λm=>?_⟩;by_cases e:m=n
 ·subst e;refine⟨.non,?_,?_⟩
  ·rw[xZ,if_pos rfl];unfold fset;rw[if_pos rfl];rfl
  ·unfold fset;rw[if_pos rfl];rfl
 ·obtain⟨u,i,l⟩:=o m;refine⟨u,?_,?_⟩
  ·rw[xZ,if_neg λz=>e (Sum.inr.inj z)];unfold fset;rw[if_neg e];exact i
  ·unfold fset;rw[if_neg e];exact l.tk k
def aMg (num:Nat)(h0:Int)(cs:List (V × Int)):Int:=(((V.non,h0)::cs).map (·.2)).getD num 0
inductive aO1 (K:bFP)(C:Addr)(vs:List V)(H:Hp)(Q:VK)(E_:XK):Prop
 |mk (x d dm:Addr) (m:Int) (es:List En) (e:En) (n:Str) (h0:Int) (cs:List (V × Int)) (num:Nat) (house:Int) (f:Str->Option Mv) (j:Nat) (_:vs=[.ref x,.str e.n,.int num,.int house]) (_:bJ K H C x m d dm es) (_:e∈es) (_:e.t.pl=.spans n h0 cs) (_:Mvs K H dm f j) (_:f e.n=none) (_:j<900) (_:num<=cs.length) (_:0<=house) (_:house<m) (_:house≠aMg num h0 cs) (_:∀H',KP K (λb=>b≠dm) H H'->bJ K H' C x m d dm es->Mvs K H' dm (fset f e.n (some ⟨num,house,none⟩)) (j+1)->Q .non H')
def aTd (T:Txt w K mg){C:Addr}(c:Cls K C)(D:eQ K C "lend" "Store.lend" pG ["self","name","number","house"])(n2:bR K C "house_count")(n3:bR K C "moves")(cZ:Ok P w K mg base 2 "is_number_below" ["thing","many"] wW)(l:OkM P w K mg base C 4 "cut_table" ["self","name"] (vB K C))(g:OkM P w K mg base C 1 "need_still" ["self","name"] (aCs K C)):OkM P w K mg base C 5 "lend" ["self","name","number","house"] (aO1 K C):=by
 refine OkM.ofV c D tY (by trivial) (λf a0 A R s H vs Q E y h=>?_)
 obtain⟨x,d,Y,m,es,e,n,h0,cs,num,r,fm,j,rfl,v,Z,G,p,X,hj,hn,b0,b1,N,q⟩:=h;have hu:=lB y;refine⟨_,(aC (bA (i:=4) tY.nd rfl (by trivial) (aU aY (aU aY (cG (l.mono (by decide)) y (vv 0) (aB (vv 1) aA)) aF (λ_ _=>rfl)) aF (λ_ _=>rfl))) (aC (cA (cT (cL (aN (cZ.mono (by decide)) y (by rfl) (aB (vv 2) (aB (aP bH (by rfl) T.fK dF (aB (vv 4) aA)) aA))))) (aH dO) bF) (aC (cA (VW.pt (iR (cT (cL (aN (cZ.mono (by decide)) y (by rfl) (aB (vv 3) (aB (cY (K:=K) (vv 0)) aA))))) (gK (bQ gO (vv 3) (aU aY (aU aY (vv 4) (vv 2) (λ_ _=>rfl)) aF (λ_ _=>rfl)) (bL _))))) (aH dO) bF) (aC (cI (cG (g.mono (by decide)) y (vv 0) (aB (vv 1) aA))) (aH (nG hu (cY (K:=K) (vv 0)) (vv 1) (cN (aB (vv 2) (aB (vv 3) (aB qO aA)))))))))),?_⟩;obtain⟨L,J⟩:=v.at_;refine⟨_,rfl,x,L,_,rfl,J,rfl,_,rfl,x,d,Y,m,es,e,n,h0,cs,rfl,v,Z,G,λH1 t=>?_⟩;obtain⟨a,ev,ha,h1,h2,h3⟩:=(v.ens.tb e Z).same t;rw[G] at h2;obtain⟨b,vc,eb,hb,⟨ca,u,rfl,I,B⟩⟩:=h2;have lu:=B.len;rw[t8] at lu;refine⟨a,_,1,_,ev,rfl,ha,at1 _ _ _,b,_,2,_,eb,rfl,hb,at2 _ _ _ _,?_⟩;refine⟨_,rfl,_,rfl,ca,u,rfl,.inr I,(num:Int),(u.length:Int),rfl,_,rfl,?_⟩;rw[m9 (show (0:Int)<=num by lia),m9 (show (num:Int)<u.length by lia)];refine cC ?_;have F:num<u.length:=by lia
 obtain⟨c0,U,pc,S,W⟩:=bM B (b8 F);have ch:aMg num h0 cs=c0.2:=by unfold aMg;rw[j6,t7,U];rfl
 refine⟨_,rfl,_,rfl,x,C,L,_,_,rfl,t _ _ J,c,n2,rfl,r,m,rfl,_,rfl,?_⟩;rw[m9 b0,m9 b1];refine cC ?_;refine⟨_,rfl,_,rfl,_,rfl,ca,u,_,u[num],rfl,rfl,I,dI (b8 F),pc,_,1,_,S,rfl,W,at1 _ _ _,rfl,_,rfl,lN (v9 λz=>N (ch ▸ V.int.inj z)) ?_⟩;refine⟨_,rfl,x,L,_,rfl,t _ _ J,rfl,_,rfl,x,d,Y,m,es,e.n,rfl,v.same t,(p.d e.n X).same t,?_⟩;refine⟨_,rfl,_,rfl,by show 3<=sizeLine;decide,λt2 H2 _ s2 g2=>?_⟩;have o:=t.trans s2;obtain⟨M,O,lk,_⟩:=id (p.same o);obtain⟨k1,k2⟩:=(v.same o).mv (kvs':=putK M (Sum.inr e.n) (.ref t2)) O;refine⟨_,rfl,x,C,L,_,_,rfl,o _ _ J,c,n3,rfl,_,rfl,Y,_,rfl,zU.k (k:=Sum.inr e.n) O (fW (by lia)),?_⟩;exact q _ ((KP.same o).trans k1) k2 ((p.same o).put O ⟨t2,.non,rfl,SqT.of g2,rfl⟩)
def nA (t:Tb)(n:Str)(cs:List (V × Int))(num:Nat)(o:Option (List V)):List (List V):=t.rows.filter λr=>aF2 o r && aEp t.hd n cs num r
inductive aKl (K:bFP)(C:Addr)(vs:List V)(H:Hp)(Q:VK)(E_:XK):Prop
 |mk (x d dm:Addr) (m:Int) (es:List En) (e:En) (mq:Mv) (n:Str) (h0:Int) (cs:List (V × Int)) (k:Nat) (f:Str->Option Mv) (j:Nat) (_:vs=[.ref x,.str e.n,.int k]) (_:bJ K H C x m d dm es) (_:e∈es) (_:Mvs K H dm f j) (_:f e.n=some mq) (_:j<900) (_:e.t.pl=.spans n h0 cs) (_:(∀q,mq.mark=some q->pX e.t.hd q)) (_:∀qs,Ded qs (nA e.t n cs mq.num mq.mark)->(((srt qs).take k=[]->∀H',Same H H'->Q (.int 0) H')/\∀r,((srt qs).take k).getLast?=some r->∀H',KP K (λb=>b≠dm) H H'->bJ K H' C x m d dm es->Mvs K H' dm (fset f e.n (some { mq with mark:=some r })) (j+1)->Q (.int ((nA e.t n cs mq.num mq.mark).length - (nA e.t n cs mq.num (some r)).length)) H'))
theorem aRl (T:Txt w K mg){C:Addr}(c:Cls K C)(D:eQ K C "carry" "Store.carry" nR ["self","name","many"])(n3:bR K C "moves")(o:OkM P w K mg base C 4 "cut_table" ["self","name"] (vB K C))(y:OkM P w K mg base C 1 "move_of" ["self","name"] (xW K C))(g:OkM P w K mg base C 4 "rows_to_come" ["self","name"] (aM7 K C)):OkM P w K mg base C 5 "carry" ["self","name","many"] (aKl K C):=by
 refine OkM.ofV c D iM (by trivial) (λf au A am s H vs Q E hr h=>?_)
 obtain⟨x,d,J,m,es,e,l,n,h0,N,k,fm,j,rfl,hS,he,W,aq,hj,a1,ah,q⟩:=h;have hu:=lB hr;have hU:=hr.units;refine⟨_,(aC (cI (cG (o.mono (by decide)) hr (vv 0) (aB (vv 1) aA))) (aC (bA (i:=3) iM.nd rfl (by trivial) (cG (y.mono (by decide)) hr (vv 0) (aB (vv 1) aA))) (aC (bA (i:=4) iM.nd rfl (by trivial) (cG (g.mono (by decide)) hr (vv 0) (aB (vv 1) aA))) (aC (bA (i:=5) iM.nd rfl (by trivial) (eO aBm (aP (aD6 rfl) (by rfl) T.kZ iJ (aB (cH (aQc rfl hU) (by rfl) T.aSd aN0 (aB (vv 4) aA)) aA)) gZ (fJ (aP (aRt rfl) (by rfl) T.bDb bBk (aB (vv 2) (aB aF aA)))))) (aC (cA (cT (aI3 (vv 5))) (aH (aO aF)) bF) (aC (nG hu (cY (K:=K) (vv 0)) (vv 1) (bO uZ (eO vY (vv 3) gZ (fJ aF)) (cN (aB (aU fY (vv 5) (bB5 aZb aF) (λ_ _=>rfl)) aA)))) (aH (aO (bO aHw (aP bH (by rfl) T.fK dF (aB (vv 4) aA)) (aP bH (by rfl) T.fK dF (aB (cG (g.mono (by decide)) hr (vv 0) (aB (vv 1) aA)) aA))))))))))),?_⟩;obtain⟨dx,hx⟩:=hS.at_;have ok:=hS.ok e he;have aj:=ok.few;refine⟨_,rfl,x,dx,_,rfl,hx,rfl,_,rfl,x,d,J,m,es,e,n,h0,N,rfl,hS,he,a1,λH1 O=>?_⟩;have aa:=(W.d e.n aq).same O;obtain⟨F,v,gm,hk,hv⟩:=id aa;have hk:eV F (Sum.inr e.n)=some v:=hk;have lk:F.length<=j:=by obtain⟨kvs',g',l',_⟩:=W.same O;rw[gm] at g';cases g';exact l'
 refine⟨_,rfl,x,dx,_,rfl,O _ _ hx,rfl,_,rfl,x,d,J,m,es,e.n,v,F,rfl,hS.same O,gm,hk,?_⟩;refine⟨_,rfl,x,dx,_,rfl,O _ _ hx,rfl,_,rfl,x,d,J,m,es,e,l,n,h0,N,rfl,hS.same O,he,aa,a1,ah,λW2 H2 ac s2 ai=>?_⟩;obtain⟨us,g2,a2⟩:=id ai;have lu:=a2.len;have ap:=O.trans s2;have lW:(nA e.t n N l.num l.mark).length<=60:=bAK (bDA _ _) aj;have kW:∀r∈nA e.t n N l.num l.mark,KdR (knds e.t.hd) r:=λr I=>vW (ok.rows r (List.mem_filter.mp I).1);have hW:us.length=(nA e.t n N l.num l.mark).length:=lu;refine⟨_,rfl,W2,us,nA e.t n N l.num l.mark,rfl,SqL.of g2,fV a2,λr I=>aAm (ok.rows r (List.mem_filter.mp I).1),by lia,λD3 H3 as qs ar s3 g3 a8 L=>?_⟩;have la:=a8.len;have ld:=L.2.2;rw[j4] at la;refine⟨D3,as,qs,knds e.t.hd,rfl,g3,a8.imp λ_ _ z=>z.same s3,by lia,aAp ok.hd.1,λr I=>kW r ((L.2.1 r).mp I),λB H4 G hB s4 g4 h4=>?_⟩;have a0:=s3.trans s4;refine⟨_,rfl,(k:Int),0,rfl,(k:Int),by rw[if_neg (show ¬ (0:Int) > (k:Int) by lia)],B,G,rfl,SqL.of g4,λp H5 hp s5 g5=>?_⟩;rw[show pH G none (some ((k:Nat):Int))=G.take k from pF _ k] at g5;have a5:bY (dD K H5) (G.take k) ((srt qs).take k):=(aEc (aBz h4) k).imp λ_ _ z=>z.same (s4.trans s5);have al:=ap.trans (a0.trans s5);obtain⟨q0,q1⟩:=q qs L;refine⟨_,rfl,_,.inl ⟨_,SqL.of g5,rfl⟩,?_⟩;have uS:∀i u,(G.take k)[i]?=some u->∃r,((srt qs).take k)[i]?=some r/\dD K H5 u r:=λi u z=>bM a5 z;have lS:=a5.len;generalize G.take k=uk at g5 uS lS ⊢;cases uk with
 |nil=>refine zL rfl ?_;exact q0 (bCR lS.symm) H5 al
 |cons u0 ur=>
  refine lN rfl ?_;obtain⟨ul,a7⟩:∃ul,(u0::ur)[(u0::ur).length - 1]?=some ul:=⟨_,b8 (by rw[t8];lia)⟩;obtain⟨r,a4,af⟩:=uS _ _ a7;have hl:((srt qs).take k).getLast?=some r:=by rw[List.getLast?_eq_getElem?,<-lS];exact a4
  have ao:pX e.t.hd r:=by have h1:=(L.2.1 r).mp (oZ (bDW (m8 a4)));exact ok.rows r (List.mem_filter.mp h1).1
  obtain⟨a,vm,rfl,ha,hm⟩:=hv;have a3:=s2.trans (a0.trans s5);refine⟨_,rfl,_,rfl,a,_,rfl,a3.bB ha,by show ¬ (HT.sIx 3 0 none=0/\HT.sIx 3 3 (some 2)=3);decide,λp6 H6 s6 g6=>?_⟩;rw[show pH [V.int l.num,.int l.house,vm] none (some 2)=[V.int l.num,.int l.house] from pF _ 2] at g6;refine⟨_,rfl,_,rfl,p,_,_,ul,rfl,rfl,SqL.of (s6 _ _ g5),aWl a7,by show 1<=sizeLine;decide,λp7 H7 _ s7 g7=>?_⟩;refine⟨p6,p7,_,_,rfl,rfl,SqT.of (s7 _ _ g6),SqT.of g7,by show 3<=sizeLine;decide,λp8 H8 s8 g8=>?_⟩;have R:=s6.trans (s7.trans s8);have a6:=a3.trans R;have M:=O.trans a6;have Y:=a6 _ _ gm;obtain⟨k1,k2⟩:=(hS.same M).mv (kvs':=putK F (Sum.inr e.n) (.ref p8)) Y;refine⟨_,rfl,x,C,dx,_,_,rfl,M _ _ hx,c,n3,rfl,_,rfl,J,_,rfl,zU.k (k:=Sum.inr e.n) Y (fW (by lia)),?_⟩;have Z:Mvs K (_root_.L2.upd H8 J (.dK (putK F (Sum.inr e.n) (.ref p8)))) J (fset fm e.n (some { l with mark:=some r })) (j+1):=(W.same M).put Y ⟨p8,ul,rfl,g8,af.same R⟩;have ad:=(KP.same (K:=K) (S:=λb=>b≠J) M).trans k1;have nW:W2≠J:=λz=>by rw[z,gm] at ac;cases ac
  have gW:=k1.st _ _ nW (R _ _ ((a0.trans s5) _ _ g2));generalize _root_.L2.upd H8 J (.dK (putK F (Sum.inr e.n) (.ref p8)))=H9 at k1 k2 Z ad gW ⊢;obtain⟨ag,an⟩:=k2.at_;refine⟨_,rfl,W2,us,rfl,.inl (SqL.of gW),_,rfl,x,ag,_,rfl,an,rfl,_,rfl,x,d,J,m,es,e,{ l with mark:=some r },n,h0,N,rfl,k2,he,Z.d e.n (by unfold fset;rw[if_pos rfl]),a1,λq' e'=>by cases e';exact ao,λW3 ab av X a9=>?_⟩;obtain⟨U,ak,ae⟩:=a9;have l3:=ae.len;refine⟨W3,U,rfl,.inl (SqL.of ak),_,_,rfl,rfl,?_⟩;have e1:(us.length:Int) - U.length=((nA e.t n N l.num l.mark).length - (nA e.t n N l.num (some r)).length:Int):=by rw[hW,l3];rfl
  show Q (.int ((us.length:Int) - U.length)) ab;rw[e1];exact q1 r hl ab (ad.trans (KP.same X)) (k2.same X) (Z.same X)
def aXg {κ:Type}[DecidableEq κ]{A B:List (κ × V)}{k:κ}{v e:V}(d:∀kv∈A,kv.1≠k)(c:∀kv∈B,kv.1≠k):putK (A++(k,v)::B) k e=A++(k,e)::B:=by
 have b:∀{L:List (κ × V)},(∀kv∈L,kv.1≠k)->L.map (λkv=>if kv.1=k then (kv.1,e) else kv)=L:=λ{L} h=>by
  conv=>rhs;rw[<-List.map_id L]
  exact List.map_congr_left λkv a=>by rw[if_neg (h kv a)];rfl
 unfold putK;rw[if_pos (List.any_eq_true.mpr ⟨(k,v),z9 _ j7,m9 rfl⟩),bAT,bAC,b d,b c,if_pos rfl]
def aAo {l1 l2:List En}{e e':En}(c:((l1++e::l2).map (·.n)).Nodup)(i:e'.n=e.n):putK (enK (l1++e::l2)) (Sum.inr e.n) e'.v=enK (l1++e'::l2):=by
 rw[bAT,bAC] at c;obtain⟨_,h,f⟩:=List.nodup_append.mp c;have d:=(List.nodup_cons.mp h).1;unfold enK;rw[bAT,bAC,bAT,bAC,i];refine aXg (λg a z=>?_) λg a z=>?_
 ·obtain⟨x,b,rfl⟩:=List.mem_map.mp a;exact f _ (bBX b) _ j7 (Sum.inr.inj z)
 ·obtain⟨x,b,rfl⟩:=List.mem_map.mp a;exact d (by rw[<-Sum.inr.inj z];exact bBX b)
def bJ.put {H:Hp}{C x d dm:Addr}{m:Int}{i g:List En}{e e':En}(h:bJ K H C x m d dm (i++e::g))(l:e'.n=e.n)(q:lZ K H e'.v e'.vh e'.vp e'.L e'.t)(r:mV m e'.t):KP K (λb=>b≠d) H (L2.upd H d (.dK (enK (i++e'::g))))/\bJ K (L2.upd H d (.dK (enK (i++e'::g)))) C x m d dm (i++e'::g):=by
 have k:=cW.dK h.ens.at_;have b:But d H (L2.upd H d (.dK (enK (i++e'::g)))):=But.upd;have c:∀y∈i++e'::g,y=e'\/y∈i++e::g:=λy hy=>by
  rcases List.mem_append.mp hy with h|h
  ·exact .inr (bBL _ h)
  ·rcases List.mem_cons.mp h with h|h
   ·exact .inl h
   ·exact .inr (z9 _ (j5 _ h))
 have a:=h.ens;have f:(i++e'::g).map (·.n)=(i++e::g).map (·.n):=by rw[bAT,bAT,bAC,bAC,l]
 obtain⟨p,j⟩:=h.at_;have o:x≠d:=λz=>by rw[z,a.at_] at j;cases j
 refine⟨.aT9 k λz=>z rfl,⟨p,b _ _ o j⟩,⟨aK,by rw[f];exact a.nd,?_,λy hy=>?_,λy hy=>?_⟩,λy hy=>?_,h.ne⟩
 ·have:=congrArg List.length f;rw[j4,j4] at this;rw[this];exact a.few
 ·rcases c y hy with rfl|hy
  ·rw[l];exact a.nm e (z9 _ j7)
  ·exact a.nm y hy
 ·rcases c y hy with rfl|hy
  ·exact b.tb k q
  ·exact b.tb k (a.tb y hy)
 ·rcases c y hy with rfl|hy
  ·exact r
  ·exact h.ok y hy
inductive yD (K:bFP)(vs:List V)(H:Hp)(Q:VK)(E_:XK):Prop
 |mk (v vh vp:V) (L R:Addr) (t:Tb) (rows:List (List V)) (_:vs=[v,.ref R]) (_:lZ K H v vh vp L t) (_:aNq t.hd) (_:bU K H R rows) (_:rows.length<=60) (_:(∀r∈rows,pX t.hd r)) (_:∀v' L' H',H L'=none->Same H H'->lZ K H' v' vh vp L' { t with rows:=srt rows }->Q v' H')
def aHa (T:Txt w K mg):Ok P w K mg base 1 "with_rows" ["table","rows"] (yD K):=by
 refine Ok.ofV T.aKv aHm (by trivial) (λf F A n s H Z Q E hr h=>?_)
 obtain⟨v,u,x,L,R,t,c,rfl,⟨a,rfl,D,J,N,h3⟩,hd,S,C,o,q⟩:=h;refine⟨_,(aH (aO (bO uZ (eO vY (vv 0) gZ (fJ aF)) (cN (aB (aP uH (by rfl) T.kZ iJ (aB (vv 1) aA)) aA))))),?_⟩;obtain⟨G,U,d⟩:=S;have lu:=d.len;refine⟨_,rfl,_,rfl,a,_,rfl,D,by show ¬ (HT.sIx 3 0 none=0/\HT.sIx 3 3 (some 2)=3);decide,λp Y e y=>?_⟩;rw[show pH [u,x,.ref L] none (some 2)=[u,x] from pF _ 2] at y;refine⟨_,rfl,R,G,c,knds t.hd,rfl,SqL.of (e _ _ U),fV (d.imp λ_ _ z=>z.same e),by lia,aAp hd.1,λr m=>vW (o r m),λX H2 j l k M B=>?_⟩;refine⟨by show 1<=sizeLine;decide,λI H3 _ g W=>?_⟩;refine⟨p,I,_,_,rfl,rfl,SqT.of (g _ _ (k _ _ y)),SqT.of W,by show 3<=sizeLine;decide,λr V i O=>?_⟩;have b:=e.trans (k.trans (g.trans i));exact q _ X V (none_of e l) b ⟨r,rfl,O,J.same b,N.same b,j,i _ _ (g _ _ M),(aBz B).imp λ_ _ z=>z.same (k.trans (g.trans i))⟩
inductive aTn (K:bFP)(C:Addr)(vs:List V)(H:Hp)(Q:VK)(E_:XK):Prop
 |mk (x d dm:Addr) (m:Int) (l1 l2:List En) (e:En) (vr:V) (r:List V) (_:vs=[.ref x,.str e.n,vr]) (_:bJ K H C x m d dm (l1++e::l2)) (_:dD K H vr r) (_:pX e.t.hd r) (_:e.t.rows.length<60) (_:∀v L H',KP K (λb=>b≠d) H H'->H L=none->bJ K H' C x m d dm (l1++{ e with v:=v,L:=L,t:={ e.t with rows:=srt (e.t.rows++[r]) } }::l2)->Q .non H')
def aX7 (T:Txt w K mg){C:Addr}(c:Cls K C)(D:eQ K C "put" "Store.put" qD ["self","name","row"])(n1:bR K C "placed")(cV:Ok P w K mg base 3 "table_in" ["placed","name"] (rR K))(rH:Ok P w K mg base 4 "is_row" ["head","thing"] (aAi K))(rB:Ok P w K mg base 1 "with_rows" ["table","rows"] (yD K)):OkM P w K mg base C 5 "put" ["self","name","row"] (aTn K C):=by
 refine OkM.ofV c D vK (by trivial) (λf a2 A W s H vs Q E J h=>?_)
 obtain⟨x,d,dm,m,V,N,e,vr,r,rfl,j,G,l,a1,q⟩:=h;have hu:=lB J;refine⟨_,(aC (bA (i:=3) vK.nd rfl (by trivial) (aN (cV.mono (by decide)) J (by rfl) (aB (cY (K:=K) (vv 0)) (aB (vv 1) aA)))) (aC (cA (cT (cL (aN (rH.mono (by decide)) J (by rfl) (aB (aU aY (vv 3) aF (λ_ _=>rfl)) (aB (vv 2) aA))))) (aH dO) bF) (aH (nG hu (cY (K:=K) (vv 0)) (vv 1) (aN (rB.mono (by decide)) J (by rfl) (aB (vv 3) (aB (bO aC7 (aU aY (vv 3) aF (λ_ _=>rfl)) (dX (aB (vv 2) aA))) aA))))))),?_⟩;obtain⟨dx,hx⟩:=j.at_;have I:e∈V++e::N:=z9 _ j7;have B:=j.ok e I;have l8:=B.hd.1.2.2;refine⟨_,rfl,x,C,dx,_,_,rfl,hx,c,n1,rfl,_,rfl,d,_,e,rfl,j.ens,I,λH1 X=>?_⟩;obtain⟨a,ev,ha,h1,h2,⟨us,h3,h4⟩⟩:=(j.ens.tb e I).same X;have lu:=h4.len;refine⟨_,rfl,a,_,0,_,ev,rfl,ha,at0 _ _,_,rfl,e.vh,vr,e.t.hd,r,rfl,h1,by lia,G.same X,l,λH2 M=>⟨_,rfl,cC ?_⟩⟩;have Y:=X.trans M;refine⟨_,rfl,_,rfl,a,_,2,_,ev,rfl,M.bB ha,at2 _ _ _ _,_,rfl,by show 1<=sizeLine;decide,λp H3 hp U g3=>?_⟩;refine⟨e.L,p,us,_,rfl,rfl,U _ _ (M _ _ h3),g3,small (by show _+1<=1000;lia),λR H4 hR s4 g4=>?_⟩;have b:=Y.trans (U.trans s4);have o:bU K H4 R (e.t.rows++[r]):=⟨_,g4,bY.app (h4.imp λ_ _ z=>z.same (M.trans (U.trans s4))) (.cons (G.same b) .nil)⟩;refine⟨e.v,e.vh,e.vp,e.L,R,e.t,_,rfl,(j.ens.tb e I).same b,B.hd,o,by rw[bAA];show _+1<=60;lia,λy hy=>?_,λZ L' H5 O s5 hT=>?_⟩
 ·rcases List.mem_append.mp hy with hy|hy
  ·exact B.rows y hy
  ·rw[List.mem_singleton.mp hy];exact l
 have g:=b.trans s5;have u:=j.same g;have S:mV m { e.t with rows:=srt (e.t.rows++[r]) }:=⟨B.hd,B.pl,by show (srt _).length<=60;rw[nH,bAA];show _+1<=60;lia,λy hy=>by
  rcases List.mem_append.mp (oZ hy) with hy|hy
  ·exact B.rows y hy
  ·rw[List.mem_singleton.mp hy];exact l⟩
 obtain⟨e',F⟩:∃e':En,e'={ e with v:=Z,L:=L',t:={ e.t with rows:=srt (e.t.rows++[r]) } }:=⟨_,rfl⟩;obtain⟨k1,k2⟩:=u.put (e':=e') (by rw[F]) (by rw[F];exact hT) (by rw[F];exact S);have a0:=u.ens.few;refine⟨_,rfl,x,C,dx,_,_,rfl,g _ _ hx,c,n1,rfl,_,rfl,d,_,rfl,zU.k (k:=Sum.inr e.n) u.ens.at_ (by rw[gA];exact fW (by lia)),?_⟩;have ek:putK (enK (V++e::N)) (Sum.inr e.n) Z=enK (V++e'::N):=by have:=aAo (e':=e') j.ens.nd (by rw[F]);rw[F] at this ⊢;exact this
 rw[ek];rw[F] at k1 k2 ⊢;exact q Z L' _ ((KP.same g).trans k1) (none_of b O) k2
theorem aJ1 {r:List V}:∀{rs:List (List V)},r∈rs->∃j,rs[j]?=some r/\∀(m:Nat) q,m<j->rs[m]?=some q->q≠r
 |[],h=>by cases h
 |a::rs,h=>by
  by_cases e:a=r
  ·exact⟨0,by rw[e];rfl,λm q c=>absurd c (bDQ _)⟩
  ·rcases List.mem_cons.mp h with h|h
   ·exact absurd h.symm e
   ·obtain⟨j,f,d⟩:=aJ1 h;refine⟨j+1,by simpa using f,λm q c b=>?_⟩;cases m with
    |zero=>cases b;exact e
    |succ m=>exact d m q (by lia) (by simpa using b)
theorem aLi {α β:Type}{R:α->β->Prop}{as:List α}{bs:List β}(h:bY R as bs):∀n,bY R (as.eraseIdx n) (bs.eraseIdx n):=by
 induction h with
 |nil=>intro n;exact .nil
 |cons r t ih=>
  intro n;cases n with
  |zero=>exact t
  |succ n=>exact .cons r (ih n)
theorem aCe {α:Type}{r:α}:∀{rs:List α} {j:Nat},rs[j]?=some r->(r::rs.eraseIdx j).Perm rs
 |[],_,h=>by cases h
 |a::rs,0,h=>by cases h;exact .refl _
 |a::rs,j+1,h=>(List.Perm.swap a r _).trans ((aCe (by simpa using h)).cons a)
inductive aPj (K:bFP)(C:Addr)(vs:List V)(H:Hp)(Q:VK)(E_:XK):Prop
 |mk (x d dm:Addr) (m:Int) (l1 l2:List En) (e:En) (vr:V) (r:List V) (_:vs=[.ref x,.str e.n,vr]) (_:bJ K H C x m d dm (l1++e::l2)) (_:dD K H vr r) (_:pX e.t.hd r) (_:r∈e.t.rows) (_:∀v L rows' H',(r::rows').Perm e.t.rows->KP K (λb=>b≠d) H H'->H L=none->bJ K H' C x m d dm (l1++{ e with v:=v,L:=L,t:={ e.t with rows:=srt rows' } }::l2)->Q .non H')
def aT4 (T:Txt w K mg){C:Addr}(c:Cls K C)(D:eQ K C "drop" "Store.drop" oV ["self","name","row"])(n1:bR K C "placed")(cV:Ok P w K mg base 3 "table_in" ["placed","name"] (rR K))(rH:Ok P w K mg base 4 "is_row" ["head","thing"] (aAi K))(rB:Ok P w K mg base 1 "with_rows" ["table","rows"] (yD K)):OkM P w K mg base C 5 "drop" ["self","name","row"] (aPj K C):=by
 refine OkM.ofV c D nM (by trivial) (λf a7 A a2 s H vs Q E q h=>?_)
 obtain⟨x,d,dm,m,l1,Z,e,vr,r,rfl,p,J,u,hm,qT⟩:=h;have hu:=lB q;have hU:=q.units;refine⟨_,(aC (bA (i:=3) nM.nd rfl (by trivial) (aN (cV.mono (by decide)) q (by rfl) (aB (cY (K:=K) (vv 0)) (aB (vv 1) aA)))) (aC (cA (VW.pt (iR (cT (cL (aN (rH.mono (by decide)) q (by rfl) (aB (aU aY (vv 3) aF (λ_ _=>rfl)) (aB (vv 2) aA))))) (gK (bQ (aMx hU) (vv 2) (aU aY (vv 3) aF (λ_ _=>rfl)) (by with_unfolding_all rfl))))) (aH dO) bF) (aC (bA (i:=4) nM.nd rfl (by trivial) (cH uR (by rfl) T.wZ sS (aB (aU aY (vv 3) aF (λ_ _=>rfl)) aA))) (aC (cI (rE PySem.F.plainAttrs_list PySem.F.slot_list_remove PySem.F.type_list_remove (aXr hU) (vv 4) (aB (vv 2) aA))) (aH (nG hu (cY (K:=K) (vv 0)) (vv 1) (aN (rB.mono (by decide)) q (by rfl) (aB (vv 3) (aB (vv 4) aA))))))))),?_⟩;obtain⟨dx,hx⟩:=p.at_;have X:e∈l1++e::Z:=z9 _ j7;have g:=p.ok e X;have l8:=g.hd.1.2.2;have a6:=g.few;refine⟨_,rfl,x,C,dx,_,_,rfl,hx,c,n1,rfl,_,rfl,d,_,e,rfl,p.ens,X,λH1 Y=>?_⟩;obtain⟨a,ev,ha,h1,h2,⟨B,h3,W⟩⟩:=(p.ens.tb e X).same Y;have lu:=W.len;refine⟨_,rfl,a,_,0,_,ev,rfl,ha,at0 _ _,_,rfl,e.vh,vr,e.t.hd,r,rfl,h1,by lia,J.same Y,u,λH2 l=>⟨_,rfl,cC ?_⟩⟩;have U:=Y.trans l;have V:∀r∈e.t.rows,pY r:=λr q=>aAm (g.rows r q);refine⟨_,rfl,_,rfl,a,_,2,_,ev,rfl,l.bB ha,at2 _ _ _ _,e.L,B,e.t.rows,r,rfl,SqL.of (l _ _ h3),fV (W.imp λ_ _ z=>z.same l),V,J.same U,aAm u,_,rfl,?_⟩
 ·rw[m9 hm];refine cC ?_;obtain⟨j,hj,a3⟩:=aJ1 hm;refine⟨_,rfl,a,_,2,_,ev,rfl,l.bB ha,at2 _ _ _ _,e.L,B,rfl,.inl (SqL.of (l _ _ h3)),λR H3 hR s3 g3=>?_⟩;have a4:=U.trans s3;refine⟨_,rfl,.inl ⟨rfl,_,SqL.of g3⟩,_,rfl,R,B,vr,e.t.rows,r,j,rfl,rfl,g3,fV (W.imp λ_ _ z=>z.same (l.trans s3)),V,J.same a4,aAm u,hj,a3,?_⟩;have M:Same H1 (L2.upd H3 R (.lst (B.eraseIdx j))):=l.trans (dR hR s3);have b:=Y.trans M;have g4:L2.upd H3 R (.lst (B.eraseIdx j)) R=some (.lst (B.eraseIdx j)):=aK;generalize L2.upd H3 R (.lst (B.eraseIdx j))=H4 at M b g4 ⊢;obtain⟨a8,ej⟩:=List.getElem?_eq_some_iff.mp hj;have pm:(r::e.t.rows.eraseIdx j).Perm e.t.rows:=aCe hj;have O:∀y∈e.t.rows.eraseIdx j,y∈e.t.rows:=λy S=>List.mem_of_mem_eraseIdx S;have G:bU K H4 R (e.t.rows.eraseIdx j):=⟨_,g4,aLi (W.imp λ_ _ z=>z.same M) j⟩;have a9:=List.length_eraseIdx_le e.t.rows j;refine⟨_,rfl,_,rfl,e.v,e.vh,e.vp,e.L,R,e.t,e.t.rows.eraseIdx j,rfl,(p.ens.tb e X).same b,g.hd,G,by lia,λy S=>g.rows y (O y S),λv' L' H5 a0 s5 hT=>?_⟩;have o:=b.trans s5;have I:=p.same o;have a1:mV m { e.t with rows:=srt (e.t.rows.eraseIdx j) }:=⟨g.hd,g.pl,by show (srt _).length<=60;rw[nH];lia,λy S=>g.rows y (O y (oZ S))⟩;obtain⟨e',N⟩:∃e':En,e'={ e with v:=v',L:=L',t:={ e.t with rows:=srt (e.t.rows.eraseIdx j) } }:=⟨_,rfl⟩;obtain⟨k1,k2⟩:=I.put (e':=e') (by rw[N]) (by rw[N];exact hT) (by rw[N];exact a1);have a5:=I.ens.few;refine⟨_,rfl,x,C,dx,_,_,rfl,o _ _ hx,c,n1,rfl,_,rfl,d,_,rfl,zU.k (k:=Sum.inr e.n) I.ens.at_ (by rw[gA];exact fW (by lia)),?_⟩;have ek:putK (enK (l1++e::Z)) (Sum.inr e.n) v'=enK (l1++e'::Z):=by have:=aAo (e':=e') p.ens.nd (by rw[N]);rw[N] at this ⊢;exact this
  rw[ek];rw[N] at k1 k2 ⊢;exact qT v' L' _ _ pm ((KP.same o).trans k1) (none_of b a0) k2
inductive wY (K:bFP)(vs:List V)(H:Hp)(Q:VK)(E_:XK):Prop
 |mk (v vh vp vc:V) (L:Addr) (t:Tb) (n:Str) (h0 k0:Int) (cs ks:List (V × Int)) (_:vs=[v,vc]) (_:lZ K H v vh vp L t) (_:t.pl=.spans n h0 cs) (_:rK K H (jP K H) vc ((.non,k0)::ks)) (_:∀v' vp' H',Same H H'->lZ K H' v' vh vp' L { t with pl:=.spans n k0 ks }->Q v' H')
def aG7 (T:Txt w K mg):Ok P w K mg base 1 "with_cuts" ["table","cuts"] (wY K):=by
 refine Ok.ofV T.aIz aGu (by trivial) (λf B A i s H Y Q E Z h=>?_)
 obtain⟨v,S,vp,C,L,t,n,X,V,cs,U,rfl,⟨a,rfl,e,F,m,M⟩,g,N,q⟩:=h;rw[g] at m;obtain⟨b,J,rfl,u,_⟩:=m;refine⟨_,(aH (aO (cN (aB (aU aY (vv 0) aF (λ_ _=>rfl)) (aB (bO uZ (eO vY (aU aY (vv 0) aF (λ_ _=>rfl)) gZ (fJ aF)) (cN (aB (vv 1) aA))) (aB (aU aY (vv 0) aF (λ_ _=>rfl)) aA)))))),?_⟩;refine⟨_,rfl,a,_,0,_,rfl,rfl,e,at0 _ _,_,rfl,a,_,1,_,rfl,rfl,e,at1 _ _ _,?_⟩;refine⟨_,rfl,b,_,rfl,u,by show ¬ (HT.sIx 3 0 none=0/\HT.sIx 3 3 (some 2)=3);decide,λp W o l=>?_⟩;rw[show pH [.str "spans",.str n,J] none (some 2)=[.str "spans",.str n] from pF _ 2] at l;refine⟨_,rfl,by show 1<=sizeLine;decide,λD H2 _ k G=>?_⟩;refine⟨p,D,_,_,rfl,rfl,SqT.of (k _ _ l),SqT.of G,by show 3<=sizeLine;decide,λr H3 y R=>?_⟩;have d:=o.trans (k.trans y);refine⟨_,rfl,a,_,2,_,rfl,rfl,d.bB e,at2 _ _ _ _,by show 3<=sizeLine;decide,λx O _ j I=>?_⟩;have c:=d.trans j;exact q _ (.ref r) O c ⟨x,rfl,SqT.of I,F.same c,⟨r,C,rfl,j.bB R,N.same c λ_ _ z=>z.same c⟩,M.same c⟩
inductive aSt (K:bFP)(vs:List V)(H:Hp)(Q:VK)(E_:XK):Prop
 |mk (v vh vp vl:V) (L:Addr) (t:Tb) (n kd:Str) (h0:Int) (cs:List (V × Int)) (_:vs=[v,vl]) (_:lZ K H v vh vp L t) (_:t.pl=.spans n h0 cs) (_:look t.hd n=some kd) (_:(∀c∈cs,bV kd c.1)) (_:cs.length+1<8) (_:bV kd vl) (_:inV vl (.non::cs.map (·.1))=false) (_:∀H',Same H H'->Q (.bl true) H')
theorem aOh (h:bV kd v):aKe v=true/\jN v=true:=by
 cases h with
 |num=>exact⟨(mJ bV.num).1,rfl⟩
 |wrd h1 h2=>exact⟨(mJ (bV.wrd h1 h2)).1,rfl⟩
def aDp (T:Txt w K mg)(gQ:Ok P w K mg base 3 "is_value_of" ["thing","kind"] (aGk K))(yH:Ok P w K mg base 1 "kind_in" ["head","name"] (aLy K)):Ok P w K mg base 4 "may_cut_at" ["table","low"] (aSt K):=by
 refine Ok.ofV T.aHq nO (by trivial) (λf a0 A p s H vs Q E J h=>?_)
 obtain⟨v,vh,vp,U,L,t,n,Y,W,O,rfl,⟨a,rfl,o,h1,X,h3⟩,C,hk,B,h8,m,F,q⟩:=h;rw[C] at X;obtain⟨b,vo,rfl,G,⟨I,us,rfl,c,e⟩⟩:=X;refine⟨_,(aC (bA (i:=2) nO.nd rfl (by trivial) (aU aY (aU aY (vv 0) aF (λ_ _=>rfl)) aF (λ_ _=>rfl))) (aC (bA (i:=3) nO.nd rfl (by trivial) (aU aY (aU aY (vv 0) aF (λ_ _=>rfl)) aF (λ_ _=>rfl))) (aC (cA (VW.pt (iR (bQ bC3 (aP bH (by rfl) T.fK dF (aB (vv 3) aA)) (qJ (by rfl) T.zR) (bL _)) (gK (cT (cL (aN (gQ.mono (by decide)) J (by rfl) (aB (vv 1) (aB (aN (yH.mono (by decide)) J (by rfl) (aB (aU aY (vv 0) aF (λ_ _=>rfl)) (aB (vv 2) aA))) aA)))))))) (aH (aO lK)) bF) (aH (aO (dB pM (vv 1) (dJ (N:=["cut"]) (by trivial) (gU (by decide +kernel)) rfl (qU (vv 3)) (λcl j k fp=>⟨(aX (i:=0) (show (["cut"]:List Str).Nodup from by decide +kernel) rfl (Or.inl rfl)),eX,(aU (cO (K:=K)) (vv 0) aF (λ_ _=>rfl))⟩)) (by with_unfolding_all rfl))))))),?_⟩;have lu:=e.len;rw[t8] at lu;refine⟨_,rfl,a,_,1,_,rfl,rfl,o,at1 _ _ _,b,_,1,_,rfl,rfl,G,at1 _ _ _,?_⟩;refine⟨_,rfl,a,_,1,_,rfl,rfl,o,at1 _ _ _,b,_,2,_,rfl,rfl,G,at2 _ _ _ _,?_⟩;refine⟨_,rfl,I,_,rfl,.inr c,_,_,rfl,rfl,_,rfl,?_⟩;rw[show decide (((us.length:Nat):Int) ≥ 8)=false from v9 (by lia)];obtain⟨v1,v2⟩:=aOh m;refine cC ⟨_,rfl,_,rfl,a,_,0,_,rfl,rfl,o,at0 _ _,_,rfl,vh,n,t.hd,Y,rfl,h1,hk,U,Y,rfl,(sX m).th,λH1 g=>⟨_,rfl,?_⟩⟩;rw[v1,Bool.true_and,m9 (mJ m).2];refine cC ?_;refine⟨_,rfl,?_⟩;dsimp only[rY,cM,aHe,aBq,tO];refine vU [none] oE ⟨_,rfl,I,rfl,⟨_,g.bB c⟩,aBx (aHh λk j=>(g.trans j).bB c) (wN λk j=>(g.trans j).bB c) ⟨none,rfl⟩ (by lia) (((.non,W)::O).map (·.1)) (by rw[j4,t8];lia) (λi x z ex S k R l Z r=>?_) λD H6 s6 nL gL=>?_⟩
 ·obtain⟨M,d,p',rfl,u⟩:=bM e ex;rw[t7,d] at S;cases S;exact⟨_,rfl,p',_,0,_,rfl,rfl,(g.trans Z).bB u,at0 _ _,r k (Same.refl _)⟩
 refine⟨D,_,rfl,.inl (SqL.of gL),v2,?_,?_⟩
 ·rw[bAC,bFO,List.all_eq_true.mpr λy hy=>?_];rfl;obtain⟨M,d,rfl⟩:=List.mem_map.mp hy;exact (aOh (B M d)).2
 ·rw[if_pos rfl,show inV U (((V.non,W)::O).map (·.1))=false from F];exact q H6 (g.trans s6)
theorem aRf (h:bV kd a)(d:bV kd b)(e:bV kd c)(g:vlt a b=true)(f:vlt b c=true):vlt a c=true:=by
 cases h with
 |num=>cases d;cases e;exact m9 (Int.lt_trans (of_decide_eq_true g) (of_decide_eq_true f))
 |wrd _ _=>cases d;cases e;exact m9 (List.lt_trans (of_decide_eq_true g) (of_decide_eq_true f))
theorem aZg (g:bV kd a)(c:bV kd b)(h:vlt a b=false)(f:a≠b):vlt b a=true:=by
 cases g with
 |num=>cases c;have h:=of_decide_eq_false h;exact m9 (by have:_≠_:=λz=>f (congrArg V.int z);lia)
 |@wrd x _ _=>
  cases c with
  |@wrd y _ _=>have h:=of_decide_eq_false h;refine m9 (Decidable.byContradiction λd=>f ?_);have e:=List.le_antisymm d h;cases x;cases y;exact congrArg V.str (congrArg Str.mk (Array.toList_inj.mp e))
theorem aI8 {kd:Str}{v:V}{cs:List (V × Int)}(s:bV kd v)(o:∀c∈cs,bV kd c.1)(w:(cs.map (·.1)).Pairwise λa b=>vlt a b=true):∀k,k<=cs.length->iH v (cs.take k) 1 0<=k/\∀(i:Nat) (c:V × Int),i<k->cs[i]?=some c->(i<iH v (cs.take k) 1 0↔vlt v c.1=false)
 |0,_=>⟨d8 _,λi c h=>absurd h (bDQ _)⟩
 |k+1,h=>by
  obtain⟨A,p⟩:=aI8 s o w k (by lia);have g:cs[k]?=some cs[k]:=b8 (by lia);have r:cs.take (k+1)=cs.take k++[cs[k]]:=by rw[bBB,g];rfl
  have y:(cs.take k).length=k:=by rw[bAH];lia
  rw[r,yO,y];have m:=o _ (m8 g);cases f:vlt v cs[k].1 with
  |true=>
   rw[if_pos rfl];refine⟨by lia,λi c t d=>?_⟩;by_cases e:i=k
   ·subst e;rw[g] at d;cases d;rw[f];exact⟨λz=>absurd z (by lia),λz=>by cases z⟩
   ·exact p i c (by lia) d
  |false=>
   rw[if_neg v6];refine⟨by lia,λi c t d=>⟨λ_=>?_,λ_=>by lia⟩⟩;by_cases e:i=k
   ·subst e;rw[g] at d;cases d;exact f
   ·cases q:vlt v c.1 with
    |false=>rfl
    |true=>
     have l:=o c (m8 d);have x:i<(cs.map (·.1)).length:=by rw[j4];lia
     have j:k<(cs.map (·.1)).length:=by rw[j4];lia
     have n:=List.pairwise_iff_getElem.mp w i k x j (by lia);rw[List.getElem_map,List.getElem_map] at n;have u:=(List.getElem?_eq_some_iff.mp d).2;rw[u] at n;rw[aRf s l m q n] at f;cases f
def atH (v:V)(h0:Int)(cs:List (V × Int)):Int:=(((.non,h0)::cs).map (·.2)).getD (iH v cs 1 0) 0
def aDh (v:V)(h0:Int)(cs:List (V × Int)):List (V × Int):=cs.take (iH v cs 1 0)++(v,atH v h0 cs)::cs.drop (iH v cs 1 0)
theorem aVn (h:bV kd v):eqV v v=true:=by
 cases h with
 |num=>exact m9 rfl
 |wrd _ _=>exact m9 rfl
def aZy (d:aB3 kd m h0 cs):0<=atH v h0 cs/\atH v h0 cs<m:=by
 have f:=aG4 v cs;have a:iH v cs 1 0<((V.non,h0)::cs).length:=by rw[t8];lia
 have e:atH v h0 cs=(((V.non,h0)::cs)[iH v cs 1 0]).2:=by unfold atH;rw[j6,t7,b8 a];rfl
 rw[e];have b:=bAP a;generalize ((V.non,h0)::cs)[iH v cs 1 0]=c at b;rcases List.mem_cons.mp b with rfl|hc
 ·exact d.first
 ·exact (d.each c hc).2
def aWz {B:Str}{m C:Int}{v:V}{e:List (V × Int)}(f:aB3 B m C e)(j:bV B v)(l8:e.length+1<8)(k:inV v (.non::e.map (·.1))=false):aB3 B m C (aDh v C e):=by
 have l:∀c∈e,bV B c.1:=λc hc=>(f.each c hc).1;obtain⟨n,h⟩:=aI8 j l f.up e.length (d8 _);rw[bCN] at n h;have w:∀c∈e,c.1≠v:=λc hc z=>by have:inV v (.non::e.map (·.1))=true:=List.any_eq_true.mpr ⟨c.1,j5 _ (bBX hc),by rw[z];exact aVn j⟩;rw[this] at k;cases k
 unfold aDh;have o:=aZy (v:=v) f;generalize atH v C e=ah at o ⊢;generalize iH v e 1 0=Nn at n h ⊢;have q:=f.up;rw[<-List.take_append_drop Nn e,bAT] at q;obtain⟨x,A,u⟩:=List.pairwise_append.mp q;have y:∀c∈e.take Nn,vlt c.1 v=true:=λc hc=>by
  obtain⟨i,d⟩:=List.mem_iff_getElem?.mp hc;have g:i<Nn:=by have:=(List.getElem?_eq_some_iff.mp d).1;rw[bAH] at this;lia
  rw[List.getElem?_take,if_pos g] at d;have p:=m8 d;exact aZg j (l c p) ((h i c (by have:=(List.getElem?_eq_some_iff.mp d).1;lia) d).mp g) (w c p).symm
 have t:∀c∈e.drop Nn,vlt v c.1=true:=λc hc=>by
  obtain⟨i,d⟩:=List.mem_iff_getElem?.mp hc;rw[List.getElem?_drop] at d;cases s:vlt v c.1 with
  |true=>rfl
  |false=>exact absurd ((h (Nn+i) c (by have:=(List.getElem?_eq_some_iff.mp d).1;lia) d).mpr s) (by lia)
 refine⟨f.first,λc hc=>?_,?_,?_⟩
 ·rcases List.mem_append.mp hc with hc|hc
  ·exact f.each c (bDW hc)
  ·rcases List.mem_cons.mp hc with rfl|hc
   ·exact⟨j,o⟩
   ·exact f.each c (List.mem_of_mem_drop hc)
 ·rw[bAT,bAC];refine List.pairwise_append.mpr ⟨x,List.pairwise_cons.mpr ⟨λb hb=>?_,A⟩,λa r b hb=>?_⟩
  ·obtain⟨c,hc,rfl⟩:=List.mem_map.mp hb;exact t c hc
  ·rcases List.mem_cons.mp hb with rfl|hb
   ·obtain⟨c,hc,rfl⟩:=List.mem_map.mp r;exact y c hc
   ·exact u a r b hb
 ·rw[bAA,t8,bAH,bBP];lia
end
end My
namespace PySem
section
variable {prog:Program}{w:World}{κ:Type}[DecidableEq κ]{knd:KeyKind prog w κ}{A:Around}{E:bFQ}{s:Shared}
open PySem.Spec PySem.Calls PyProof.Rows L2
def aCf (nm:κ->Str)(S:A.handled=none)(lo:(d == sysModules)=false)(U:s.heap.DictOf knd d kvs)(P:∀k v,knd.is k v=true->(∃x,(k,x)∈kvs)->∃t,v=Value.str (nm k) t)(K:kvs.length<64)(V:(kvs.map λkv=>nm kv.1).Nodup)
  (q:∀(h1 h':Heap) (tk:Nat) (B:Addr) (vs:List Value) (ss:List Str) (e:Nat),StrsAre vs ss->ss.Perm (kvs.map λkv=>nm kv.1)->(ss.Pairwise λa b=>a.cps.toList<b.cps.toList)->h'.get? B=some (seqObj "list" vs.toArray e)->(∀b o,s.heap.get? b=some o->h1.get? b=some o)->(∀b o,h1.get? b=some o->h'.get? b=some o)->h1.objs.size<=B->Q (.ref B) { s with heap:=h',toks:=tk }) :
  wpAny (model prog w) A (call (.builtin "sorted") [.ref d]) Q E s:=by
 obtain⟨T,n⟩:=U.dictAt;refine call_function_entry kind_sorted plain_sorted entry_sorted (args_sorted1 _) ?_;unfold Builtin.«sorted»;refine b7 (d7 ?_);refine b7 (PySem.W.kdu_collect (PySem.W.kdl_dict lo) S n (by rw[sizeLine_eq];lia) λh' tk g F c=>?_);have z:g.toList.length=kvs.length:=by rw[v7];exact c.1
 have l:=aPl nm kvs _ z λj v e=>by obtain⟨k,x,p,G⟩:=c.2 j v (by rw[<-bBR];exact e);obtain⟨t,rfl⟩:=P k v G ⟨x,m8 p⟩;exact⟨(k,x),t,p,rfl⟩
 refine b7 (bE5 ?_ (by rw[sizeLine_eq];lia));have h:(h'.push (seqObj "list" g.toList.toArray 0)).get? h'.objs.size=some (seqObj "list" g.toList.toArray 0):=j0 _ rfl;refine b7 (bAS (bAG slot_list_sort ⟨_,h,rfl⟩ entry_list_sort (list_sort_treeK strKind_oneLt h l.keysOf (λR X C e=>keyKind_strs (by rw[<-e];exact l)) (by rw[z];exact K) λm N J=>⟨_,rfl,?_⟩) (args_list_sort _)));obtain⟨f,L,D,H⟩:=sorted_out_str l N J;have I:=D.nodup_iff.mpr V;have O:f.Pairwise λa b=>a.cps.toList<b.cps.toList:=by
  cases f with
  |nil=>exact .nil
  |cons y r=>exact pB (y::r) y (by unfold risingS;rw[bAQ,ltCps_eq];exact⟨by simpa using List.lt_irrefl _,H⟩) I
 obtain⟨e,M⟩:=sortedHeap_at h;refine d7 ⟨_,rfl,q h' _ tk h'.objs.size ((arrOf m).map (·.2)).toList f e L D O (by rw[Array.toArray_toList];exact M) F (λb o u=>?_) (d8 _)⟩;have i:=j8 u;rw[sortedHeap_old (t6 i) (by rw[size_push'];exact bBA i)];exact c7 _ u
end
end PySem
namespace L2
open PySem PySem.Spec PyProof.Rows
section
variable {X:Cx}
def aW5:List V->Hp->VK->Prop:=λxs H Q=>∃(d:Addr) (kvs:List (Key × V)) (ns:List Str),xs=[.ref d]/\H d=some (.dK kvs)/\kvs.map (·.1)=(ns.map λn=>(Sum.inr n:Key))/\ns.Nodup/\kvs.length<64/\∀(p:Addr) (H':Hp) (ss:List Str),H p=none->Same H H'->ss.Perm ns->(ss.Pairwise λa b=>a.cps.toList<b.cps.toList)->H' p=some (.lst (ss.map V.str))->Q (.ref p) H'
def qF (hc:X.calm=true):cJ X (.builtin "sorted") aW5:=by
 intro S s σ H xs Y Q I r h;obtain⟨d,a,J,rfl,hd,l,j,N,q⟩:=h;obtain⟨u,rfl,M⟩:=vals1 r;cases M;obtain⟨z,T,w,f,P⟩:=aB4 I.hok hd;have Z:=KV.length f;have E:=KV.keys f
 let nm:Key->Str:=λk=>match k with|.inr n=>n|.inl _=>⟨#[]⟩
 have b:(w.map λo=>nm o.1)=J:=by
  have:(w.map λo=>nm o.1)=(w.map (·.1)).map nm:=by rw[bBJ];rfl
  rw[this,<-E,l,bBJ];exact List.map_id _
 refine aCf nm (I.ok.hd hc) T P (λk v D i=>?_) (by lia) (by rw[b];exact j) λh1 W F B p U e O y R K A m g=>?_
 ·obtain⟨x,i⟩:=i;have c:k∈a.map (·.1):=by rw[E];exact List.mem_map.mpr ⟨_,i,rfl⟩
  rw[l] at c;obtain⟨n,_,rfl⟩:=List.mem_map.mp c;cases v with
  |str x t=>
   have e:x=n:=by simpa [bK,rA,Value.isStrOf] using D
   exact⟨t,by rw[e]⟩
  |_=>exact absurd (show false=true from D) v6
 ·rw[b] at y;have G:=I.kept (t':=F) A;have C:=G.hok.fresh g;refine⟨.ref B,_,G.laid (t':=F) m g ?_,rfl,q B _ U C (bC C _) y R aK⟩;have L:=aE2 O;have l1:=y.length_eq;have V:J.length=a.length:=by have:=congrArg List.length l;simpa using this.symm
  exact⟨small (by rw[j4];lia),p,e,L,K⟩
def aWs:V->List V->Hp->VK->Prop:=λx vs H Q=>∃d kvs,x=.ref d/\vs=[]/\H d=some (.dK kvs)/\Q .non (upd H d (.dK []))
def aEj:MtR X "dict.clear" aWs:=by intro c s σ H x j v i Q I f a h;obtain⟨d,e,rfl,rfl,hd,q⟩:=h;cases f;cases a;exact aW9 I hd λg b=>⟨.non,_,b,rfl,q⟩
end
section
variable {P:Program}{w:World}
open AutoSeq1 (wpAny_loadPart')
open MeetsSeq MeetsSeq2 MeetsSeq3
end
section
variable {X:Cx}{bFT:bFR}{σ:L2.St}{H:Hp}{s:Shared}
end
end L2
namespace PySem
namespace LR
end LR
section
variable {prog:Program}{w:World}{A:Around}{E:bFQ}{s:Shared}
open PySem.Calls PyProof.Rows
end
end PySem
namespace L2
open PySem PySem.Spec PyProof.Rows
section
variable {X:Cx}
def aZa (K:bFP):R2:=λx y H Q=>∃a b us,x=.ref a/\y=.ref b/\SqL K H a us/\SqL K H b []/\Q (.bl (!us.isEmpty)) H
theorem aSj (hu':X.A.units+64<cLine):OpR X (compareOp .NotEq) (aZa X.K):=by
 intro w s σ H x y v u Q I k o h;have c:X.A.units<cLine:=by lia
 obtain⟨a,b,C,rfl,rfl,i,g,q⟩:=h;cases k;cases o;obtain⟨m,z,f,B⟩:=I.list i;obtain⟨p,l,d,E⟩:=I.list g;cases l;cases z with
 |nil=>refine bFD (e:=λ_=>true) f.isList d.isList rfl c (λj n D=>by simp at n) _ _ _ _ ?_;exact⟨.bl _,H,I,rfl,q⟩
 |cons r t=>exact SeqAt.RcNeAt.lists_lengths f.isList d.isList (by simp) c _ _ _ _ ⟨.bl _,H,I,rfl,q⟩
def bCh:V->List V->Hp->VK->Prop:=λx vs H Q=>∃d kvs k v,x=.ref d/\vs=[kV k]/\H d=some (.dK kvs)/\eV kvs k=some v/\Q v (upd H d (.dK (mD kvs k)))
def aX1:MtR X "dict.pop" bCh:=by intro f s σ H x o v n Q I j b h;obtain⟨d,i,k,y,rfl,rfl,hd,c,q⟩:=h;cases j;obtain⟨u,rfl,g⟩:=vals1 b;exact bCj I hd g c (.inl rfl) λl m e a=>⟨y,_,e,a,q⟩
end
end L2
namespace My
open PySem PySem.Spec PyProof.Rows L2
section
variable {P:Program}{w:World}{K:bFP}{mg:bFS}{base:Heap}
theorem aLr {α β:Type}{R:α->β->Prop}{as:List α}{bs:List β}(h:bY R as bs):∀n,bY R (as.drop n) (bs.drop n):=by
 induction h with
 |nil=>intro n;rw[List.drop_nil,List.drop_nil];exact .nil
 |cons r t ih=>
  intro n;cases n with
  |zero=>exact .cons r t
  |succ n=>exact ih n
inductive aJd (K:bFP)(C:Addr)(vs:List V)(H:Hp)(Q:VK)(E_:XK):Prop
 |mk (x d dm:Addr) (m:Int) (l1 l2:List En) (e:En) (vl:V) (n kd:Str) (h0:Int) (cs:List (V × Int)) (_:vs=[.ref x,.str e.n,vl]) (_:bJ K H C x m d dm (l1++e::l2)) (_:e.t.pl=.spans n h0 cs) (_:look e.t.hd n=some kd) (_:bV kd vl) (_:MvD K H dm e.n none) (_:cs.length+1<8) (_:inV vl (.non::cs.map (·.1))=false) (_:∀v vp H',KP K (λb=>b≠d) H H'->bJ K H' C x m d dm (l1++{ e with v:=v,vp:=vp,t:={ e.t with pl:=.spans n h0 (aDh vl h0 cs) } }::l2)->Q .non H')
def aRp (T:Txt w K mg){C:Addr}(c:Cls K C)(D:eQ K C "split" "Store.split" nJ ["self","name","low"])(n1:bR K C "placed")(o:OkM P w K mg base C 4 "cut_table" ["self","name"] (vB K C))(l:OkM P w K mg base C 1 "need_still" ["self","name"] (aCs K C))(ai:Ok P w K mg base 4 "may_cut_at" ["table","low"] (aSt K))(qP:Ok P w K mg base 1 "cut_of" ["cuts","value"] (vR K))(qN:Ok P w K mg base 1 "with_cuts" ["table","cuts"] (wY K)):OkM P w K mg base C 6 "split" ["self","name","low"] (aJd K C):=by
 refine OkM.ofV c D fX (by trivial) (λf ah A ab s H vs Q E M h=>?_)
 obtain⟨x,d,dm,m,l1,l2,e,p,n,kd,j,g,rfl,u,r,hk,I,af,l8,a8,qT⟩:=h;have hu:=lB M;refine⟨_,(aC (bA (i:=3) fX.nd rfl (by trivial) (cG (o.mono (by decide)) M (vv 0) (aB (vv 1) aA))) (aC (cI (cG (l.mono (by decide)) M (vv 0) (aB (vv 1) aA))) (aC (cA (cT (cL (aN (ai.mono (by decide)) M (by rfl) (aB (vv 3) (aB (vv 2) aA))))) (aH dO) bF) (aC (bA (i:=4) fX.nd rfl (by trivial) (aU aY (aU aY (vv 3) aF (λ_ _=>rfl)) aF (λ_ _=>rfl))) (aC (bA (i:=5) fX.nd rfl (by trivial) (aN (qP.mono (by decide)) M (by rfl) (aB (vv 4) (aB (vv 2) aA)))) (aC (bA (i:=6) fX.nd rfl (by trivial) (bO eE (vv 5) aF)) (aH (nG hu (cY (K:=K) (vv 0)) (vv 1) (aN (qN.mono (by decide)) M (by rfl) (aB (vv 3) (aB (bO uZ (bO uZ (eO aGz (vv 4) gZ (fJ (vv 6))) (cN (aB (cN (aB (vv 2) (aB (aU aY (aU aY (vv 4) (vv 5) (λ_ _=>rfl)) aF (λ_ _=>rfl)) aA))) aA))) (eO aGz (vv 4) (fJ (vv 6)) gZ)) aA))))))))))),?_⟩;obtain⟨dx,hx⟩:=u.at_;have V:e∈l1++e::l2:=z9 _ j7;have ok:=u.ok e V;have S:=ok.pl;rw[r] at S;obtain⟨ac,k',W,aa,q⟩:=S;have:k'=kd:=by rw[hk] at W;exact (bAM W).symm
 subst this;have a1:∀c∈g,bV k' c.1:=λc hc=>(q.each c hc).1;refine⟨_,rfl,x,dx,_,rfl,hx,rfl,_,rfl,x,d,dm,m,_,e,n,j,g,rfl,u,V,r,λH1 s1=>?_⟩;refine⟨_,rfl,x,dx,_,rfl,s1 _ _ hx,rfl,_,rfl,x,d,dm,m,_,e.n,rfl,u.same s1,af.same s1,?_⟩;have ae:=(u.ens.tb e V).same s1;refine⟨_,rfl,_,rfl,e.v,e.vh,e.vp,p,e.L,e.t,n,k',j,g,rfl,ae,r,hk,a1,l8,I,a8,λH2 s2=>⟨_,rfl,?_⟩⟩;have a6:=s1.trans s2;refine cC ?_;obtain⟨a,ev,ha,h1,h2,h3⟩:=(u.ens.tb e V).same a6;have a3:=h2;rw[r] at a3;obtain⟨b,vo,eb,hb,U⟩:=a3;obtain⟨cc,O,eo,y,G⟩:=id U;refine⟨_,rfl,a,_,1,_,ev,rfl,ha,at1 _ _ _,b,_,2,_,eb,rfl,hb,at2 _ _ _ _,?_⟩;refine⟨_,rfl,_,rfl,vo,p,k',j,g,rfl,U,q.few,I,a1,?_⟩;refine⟨_,rfl,_,_,rfl,rfl,?_⟩;have hN:=aG4 p g;have lu:=G.len;rw[t8] at lu;have F:iH p g 1 0<O.length:=by lia
 obtain⟨c0,a2,pc,Z,ad⟩:=bM G (b8 F);have eA:c0.2=atH p j g:=by unfold atH;rw[j6,t7,a2];rfl
 have eI:((.non,j)::g).take (iH p g 1 0+1)++[(p,c0.2)]++((.non,j)::g).drop (iH p g 1 0+1)=(.non,j)::aDh p j g:=by unfold aDh;rw[eA,List.take_succ_cons,List.drop_succ_cons,bCS];rfl
 generalize iH p g 1 0=Nn at hN F a2 eI Z ⊢;have eN:((Nn:Nat):Int)+1=((Nn+1:Nat):Int):=rfl;refine⟨_,rfl,_,rfl,_,rfl,_,rfl,cc,O,eo,y,λp1 H3 s3 g3=>?_⟩;rw[eN,pF] at g3;refine⟨_,rfl,_,rfl,_,rfl,cc,O,_,O[Nn],eo,rfl,s3.bB y,dI (b8 F),pc,_,1,_,Z,rfl,s3.bB ad,at1 _ _ _,by show 2<=sizeLine;decide,λt1 H4 _ s4 g4=>⟨by show 1<=sizeLine;decide,λt2 H5 _ s5 g5=>?_⟩⟩;have a0:=s4.trans s5;refine⟨p1,t2,_,_,rfl,rfl,a0.bB g3,SqT.of g5,small (by rw[bAH];show _+1<=1000;have:=q.few;lia),λp6 H6 s6 g6=>?_⟩;have a4:=s3.trans (a0.trans s6);refine⟨_,rfl,_,rfl,_,rfl,cc,O,eo,a4.bB y,λp7 H7 s7 g7=>?_⟩;rw[eN,xN] at g7;refine⟨p6,p7,_,_,rfl,rfl,s7.bB g6,g7,small (by rw[bAA,bAH,bBP];show _+1+_<=1000;have:=q.few;lia),λp8 H8 s8 g8=>?_⟩;have a7:=a4.trans (s7.trans s8);have Y:=a6.trans a7;have a5:rK K H8 (jP K H8) (.ref p8) ((.non,j)::aDh p j g):=⟨p8,_,rfl,g8,by rw[<-eI];have X:bY (jP K H8) O ((.non,j)::g):=G.imp λ_ _ z=>z.same a7;exact bY.app (bY.app (aEc X _) (.cons ⟨t1,rfl,SqT.of (s8 _ _ (s7 _ _ (s6 _ _ (s5 _ _ g4))))⟩ .nil)) (aLr X _)⟩
 refine⟨e.v,e.vh,e.vp,.ref p8,e.L,e.t,n,j,j,g,aDh p j g,rfl,(u.ens.tb e V).same Y,r,a5,λv' R H9 s9 hT=>?_⟩;have J:=Y.trans s9;have B:=u.same J;have a9:mV m { e.t with pl:=.spans n j (aDh p j g) }:=⟨ok.hd,⟨ac,k',hk,aa,aWz q I l8 a8⟩,ok.few,ok.rows⟩;obtain⟨e',N⟩:∃e':En,e'={ e with v:=v',vp:=R,t:={ e.t with pl:=.spans n j (aDh p j g) } }:=⟨_,rfl⟩;obtain⟨k1,k2⟩:=B.put (e':=e') (by rw[N]) (by rw[N];exact hT) (by rw[N];exact a9);have ag:=B.ens.few;refine⟨_,rfl,x,C,dx,_,_,rfl,J _ _ hx,c,n1,rfl,_,rfl,d,_,rfl,zU.k (k:=Sum.inr e.n) B.ens.at_ (by rw[gA];exact fW (by lia)),?_⟩;have ek:putK (enK (l1++e::l2)) (Sum.inr e.n) v'=enK (l1++e'::l2):=by have:=aAo (e':=e') u.ens.nd (by rw[N]);rw[N] at this ⊢;exact this
 rw[ek];rw[N] at k1 k2 ⊢;exact qT v' R _ ((KP.same J).trans k1) k2
inductive aEr (K:bFP)(C:Addr)(vs:List V)(H:Hp)(Q:VK)(E_:XK):Prop
 |mk (x d dm:Addr) (m:Int) (l1 l2:List En) (e:En) (mq:Mv) (n:Str) (h0:Int) (cs:List (V × Int)) (f:Str->Option Mv) (j:Nat) (_:vs=[.ref x,.str e.n]) (_:bJ K H C x m d dm (l1++e::l2)) (_:e.t.pl=.spans n h0 cs) (_:Mvs K H dm f j) (_:f e.n=some mq) (_:(∀q,mq.mark=some q->pX e.t.hd q)) (_:nA e.t n cs mq.num mq.mark=[]) (_:mq.num=0) (_:0<=mq.house) (_:mq.house<m) (_:∀v vp H',KP K (λb=>b≠d/\b≠dm) H H'->bJ K H' C x m d dm (l1++{ e with v:=v,vp:=vp,t:={ e.t with pl:=.spans n mq.house cs } }::l2)->Mvs K H' dm (fset f e.n none) j->Q .non H')
def aNy (T:Txt w K mg){C:Addr}(c:Cls K C)(D:eQ K C "settle" "Store.settle" mR ["self","name"])(n1:bR K C "placed")(n3:bR K C "moves")(p:OkM P w K mg base C 4 "cut_table" ["self","name"] (vB K C))(r:OkM P w K mg base C 1 "move_of" ["self","name"] (xW K C))(o:OkM P w K mg base C 4 "rows_to_come" ["self","name"] (aM7 K C))(qN:Ok P w K mg base 1 "with_cuts" ["table","cuts"] (wY K)):OkM P w K mg base C 6 "settle" ["self","name"] (aEr K C):=by
 refine OkM.ofV c D fC (by trivial) (λf av A an s H vs Q E Z h=>?_)
 obtain⟨x,d,dm,m,l1,l2,e,mq,n,h0,N,fm,j,rfl,y,G,a3,aq,aj,hW,n0,b0,b1,q⟩:=h;have hu:=lB Z;refine⟨_,(aC (bA (i:=2) fC.nd rfl (by trivial) (cG (p.mono (by decide)) Z (vv 0) (aB (vv 1) aA))) (aC (bA (i:=3) fC.nd rfl (by trivial) (cG (r.mono (by decide)) Z (vv 0) (aB (vv 1) aA))) (aC (cA (aI3 (cG (o.mono (by decide)) Z (vv 0) (aB (vv 1) aA))) (aH dO) bF) (aC (bA (i:=4) fC.nd rfl (by trivial) (aU aY (vv 3) aF (λ_ _=>rfl))) (aC (bA (i:=5) fC.nd rfl (by trivial) (cH uR (by rfl) T.wZ sS (aB (aU aY (aU aY (vv 2) aF (λ_ _=>rfl)) aF (λ_ _=>rfl)) aA))) (aC (aCy (cN (aB (aU (cO (K:=K)) (aU fY (vv 5) (vv 4) (λ_ _=>rfl)) aF (λ_ _=>rfl)) (aB (aU aY (vv 3) aF (λ_ _=>rfl)) aA))) (aSl (vv 5) (vv 4) set_list)) (aC (nG hu (cY (K:=K) (vv 0)) (vv 1) (aN (qN.mono (by decide)) Z (by rfl) (aB (vv 2) (aB (cH nF (by rfl) T.iU fU (aB (vv 5) aA)) aA)))) (aH (cI (rE PySem.F.plainAttrs_dict PySem.F.slot_dict_pop PySem.F.type_dict_pop aX1 (cY (K:=K) (vv 0)) (aB (vv 1) aA))))))))))),?_⟩;obtain⟨dx,hx⟩:=y.at_;have Y:e∈l1++e::l2:=z9 _ j7;have ok:=y.ok e Y;have a6:=ok.pl;rw[G] at a6;obtain⟨ao,k',af,am,S⟩:=a6;refine⟨_,rfl,x,dx,_,rfl,hx,rfl,_,rfl,x,d,dm,m,_,e,n,h0,N,rfl,y,Y,G,λH1 U=>?_⟩;have a9:=(a3.d e.n aq).same U;obtain⟨M,v,gm,hk,hv⟩:=id a9;have hk:eV M (Sum.inr e.n)=some v:=hk;refine⟨_,rfl,x,dx,_,rfl,U _ _ hx,rfl,_,rfl,x,d,dm,m,_,e.n,v,M,rfl,y.same U,gm,hk,?_⟩;refine⟨_,rfl,x,dx,_,rfl,U _ _ hx,rfl,_,rfl,x,d,dm,m,_,e,mq,n,h0,N,rfl,y.same U,Y,a9,G,aj,λW2 H2 aw s2 ak=>?_⟩;obtain⟨ah,g2,a8⟩:=ak;have e2:ah=[]:=bCR (a8.len.trans (congrArg List.length hW));subst e2;refine⟨_,.inl ⟨_,SqL.of g2,rfl⟩,lN rfl ?_⟩;have aa:=U.trans s2;obtain⟨num,g,as⟩:=mq;cases (show num=0 from n0);obtain⟨a0,vm,rfl,a1,hm⟩:=hv;obtain⟨a,ev,ha,h1,h2,h3⟩:=(y.ens.tb e Y).same aa;rw[G] at h2;obtain⟨b,vo,eb,hb,⟨cc,us,rfl,al,ag⟩⟩:=h2;cases ag with|@cons u0 _ ur _ hu0 hur=>
 obtain⟨p0,rfl,ap⟩:=hu0;refine⟨_,rfl,a0,_,0,_,rfl,rfl,s2.bB a1,at0 _ _,?_⟩;refine⟨_,rfl,a,_,1,_,ev,rfl,ha,at1 _ _ _,b,_,2,_,eb,rfl,hb,at2 _ _ _ _,cc,_,rfl,.inr al,λl H3 hl s3 g3=>?_⟩;refine⟨_,rfl,_,rfl,l,_,_,.ref p0,rfl,rfl,SqL.of g3,dI (j:=0) rfl,p0,_,0,_,rfl,rfl,s3.bB ap,at0 _ _,_,rfl,a0,_,1,_,rfl,rfl,(s2.trans s3).bB a1,at1 _ _ _,by show 2<=sizeLine;decide,λJ H4 _ s4 g4=>?_⟩;have a7:=s4 _ _ g3;refine⟨_,rfl,_,rfl,l,_,_,0,rfl,rfl,a7,by show ixN (ur.length+1) 0=some 0;unfold ixN;rw[if_pos (by decide),if_pos (by lia)];rfl,?_⟩;have a2:Same H2 (_root_.L2.upd H4 l (.lst (.ref J::ur))):=dR hl (s3.trans s4);have g5:_root_.L2.upd H4 l (.lst (.ref J::ur)) l=some (.lst (.ref J::ur)):=aK;have ab:SqT K (_root_.L2.upd H4 l (.lst (.ref J::ur))) J [.non,.int g]:=SqT.lQ a7 (SqT.of g4);have e5:(V.ref p0::ur).set 0 (.ref J)=.ref J::ur:=rfl;rw[e5];generalize _root_.L2.upd H4 l (.lst (.ref J::ur))=H5 at a2 g5 ab ⊢;refine⟨_,rfl,_,rfl,l,_,rfl,SqL.of g5,λp6 H6 _ s6 g6=>?_⟩;have R:=a2.trans s6;have X:=aa.trans R;have ac:rK K H6 (jP K H6) (.ref p6) ((.non,g)::N):=⟨p6,_,rfl,SqT.of g6,.cons ⟨J,rfl,s6.bB ab⟩ (hur.imp λ_ _ z=>z.same R)⟩;refine⟨e.v,e.vh,e.vp,.ref p6,e.L,e.t,n,h0,g,N,N,rfl,(y.ens.tb e Y).same X,G,ac,λv' a4 H7 s7 hT=>?_⟩;have I:=X.trans s7;have O:=y.same I;have ad:mV m { e.t with pl:=.spans n g N }:=⟨ok.hd,⟨ao,k',af,am,⟨⟨b0,b1⟩,S.each,S.up,S.few⟩⟩,ok.few,ok.rows⟩;obtain⟨e',W⟩:∃e':En,e'={ e with v:=v',vp:=a4,t:={ e.t with pl:=.spans n g N } }:=⟨_,rfl⟩;obtain⟨k1,k2⟩:=O.put (e':=e') (by rw[W]) (by rw[W];exact hT) (by rw[W];exact ad);have au:=O.ens.few;refine⟨_,rfl,x,C,dx,_,_,rfl,I _ _ hx,c,n1,rfl,_,rfl,d,_,rfl,zU.k (k:=Sum.inr e.n) O.ens.at_ (by rw[gA];exact fW (by lia)),?_⟩;have ek:putK (enK (l1++e::l2)) (Sum.inr e.n) v'=enK (l1++e'::l2):=by have:=aAo (e':=e') y.ens.nd (by rw[W]);rw[W] at this ⊢;exact this
 rw[ek];have ae:=s2.trans (R.trans s7);have B:=k1.st _ _ (Ne.symm y.ne) (ae _ _ gm);have a5:Mvs K _ dm fm j:=(a3.same I).kp (λu=>k1.st _ _ (Ne.symm y.ne)) k1.tk;generalize _root_.L2.upd H7 d (.dK (enK (l1++e'::l2)))=H8 at k1 k2 B a5 ⊢;obtain⟨ar,ai⟩:=k2.at_;obtain⟨k3,k4⟩:=k2.mv (kvs':=mD M (Sum.inr e.n)) B;refine⟨_,rfl,x,C,ar,_,_,rfl,ai,c,n3,rfl,.inr (.inr (.inl ⟨rfl,.inl ⟨_,B⟩⟩)),_,rfl,dm,_,Sum.inr e.n,_,rfl,rfl,B,hk,?_⟩;rw[W] at k4;exact q v' a4 _ (((KP.same I).trans (k1.mono λb z=>z.1)).trans (k3.mono λb z=>z.2)) k4 (a5.drop B)
def aG1 (i j:Nat)(e:(y,NameKind.free)∈scope.names)(c:(z,NameKind.free)∈scope.names)(hi:X.N[i]?=some y)(h:X.N[j]?=some z)(d:σ[i]?=some (some u))(g:σ[j]?=some (some v))(k:Vis X.env.scope y)(f:Vis X.env.scope z):Cap X scope [x,y,z] σ [none,some u,some v]:=
 ⟨rfl,λn q r b a=>by
  match n,b,a with
  |0,_,a=>cases a
  |1,b,a=>cases b;cases a;exact⟨e,i,hi,d,k⟩
  |2,b,a=>cases b;cases a;exact⟨c,j,h,g,f⟩
  |n+3,b,_=>cases b⟩
def bU.fx (f:Fx a H H')(h:gC H a)(i:D≠a)(r:bU K H D rs):bU K H' D rs:=by obtain⟨c,g,b⟩:=r;exact⟨c,f.same _ _ i g,b.imp λ_ _ ⟨p,e,d⟩=>⟨p,e,f.bB h d⟩⟩
def aGl (e:((List.range n).map λi:Nat=>V.int (0+(i:Int)))[i]?=some x):i<n/\x=.int (0+(i:Int)):=by
 have a:i<n:=by have:=(List.getElem?_eq_some_iff.mp e).1;rw[j4,bAJ] at this;exact this
 rw[t7,bCJ a] at e;exact⟨a,(bAM e).symm⟩
def aCb (b:L2.St)(a:Cap X scope N σ b)(h:ta σ H λvs H1=>∃j:Int,vs=[.int j]/\-(2 ^ 62)<=j/\j<2 ^ 62/\pR (Itr 0 j.toNat) H1 b g tt te Q):lM X scope N (aU9 ta) g tt te σ H Q:=⟨b,a,h⟩
theorem aOb {K:bFP}{H:Hp}{Pr:List V->Prop}:∀{ys:List V},(∀y∈ys,∃r,dD K H y r/\Pr r)->∃rs,bY (dD K H) ys rs/\∀r∈rs,Pr r
 |[],_=>⟨[],.nil,λr h=>by cases h⟩
 |y::ys,h=>by
  obtain⟨r,e,a⟩:=h y j7;obtain⟨rs,d,b⟩:=aOb λz c=>h z (j5 _ c);refine⟨r::rs,.cons e d,λx hx=>?_⟩;rcases List.mem_cons.mp hx with rfl|hx
  ·exact a
  ·exact b x hx
theorem aPc:∀{ys:List V},(∀y∈ys,bV k y)->∃ks:List Key,ys=ks.map kV/\∀x∈ks,bV k (kV x)
 |[],_=>⟨[],rfl,λx h=>by cases h⟩
 |y::ys,h=>by
  obtain⟨ks,e,b⟩:=aPc λz hz=>h z (j5 _ hz);have a:=h y j7;obtain⟨x,rfl⟩:∃x,y=kV x:=by
   cases a with
   |num=>exact⟨.inl _,rfl⟩
   |wrd _ _=>exact⟨.inr _,rfl⟩
  refine⟨x::ks,by rw[e];rfl,λz hz=>?_⟩;rcases List.mem_cons.mp hz with rfl|hz
  ·exact a
  ·exact b z hz
def aRy {k:Str}{ks:List Key}(h:∀x∈ks,bV k (kV x)):(∀x∈ks,∃n,x=Sum.inl n)\/∀x∈ks,∃n,x=Sum.inr n:=by
 by_cases d:k = "number"
 ·refine .inl λx b=>?_;cases x with
  |inl n=>exact⟨n,rfl⟩
  |inr n=>
   have:=h _ b;rw[d] at this;generalize a:kV (Sum.inr n)=v at this;generalize c:("number":Str)=k0 at this;cases this with
   |num=>cases a
   |wrd _ _=>exact absurd c (by decide)
 ·refine .inr λx b=>?_;cases x with
  |inr n=>exact⟨n,rfl⟩
  |inl n=>
   have:=h _ b;generalize a:kV (Sum.inl n)=v at this;cases this with
   |num=>exact absurd rfl d
   |wrd _ _=>cases a
def bA1 (h:ltK a b):vlt (kV a) (kV b)=true:=by cases a <;> cases b <;> first|exact m9 h|exact absurd h id
inductive zJ (K:bFP)(vs:List V)(H:Hp)(Q:VK)(E_:XK):Prop
 |mk (a:Addr) (vh:V) (hd:Hdr) (m:Int) (_:vs=[.ref a,vh,.int m]) (_:gC H a) (_:lV K H vh hd) (_:aNq hd) (_:1<=m) (_:m<=6) (_:∀vp H' pl,Fx a H H'->zV K H' vp pl->aYc hd m pl->Q vp H')
theorem aAf (T:Txt w K mg)(aV:Ok P w K mg base 1 "_law_next" ["_law_state","_law_many"] lO)(jA:Ok P w K mg base 3 "_law_value" ["_law_state","_law_kind"] aAq):Ok P w K mg base 4 "_law_placing" ["_law_state","_law_head_here","_law_houses"] (zJ K):=by
 refine Ok.ofV T.aBg dC (by trivial) (λf bc A b0 s H vs Q E hr h=>?_)
 obtain⟨a,vh,hd,m,rfl,hs,hI,I,m1,m6,q⟩:=h;have l8:=I.1.2.2;refine⟨_,(aC (bA (i:=3) dC.nd rfl (by trivial) (aN (aV.mono (by decide)) hr (by rfl) (aB (vv 0) (aB aF aA)))) (aC (cA (bQ gO (vv 3) aF (bL _)) (aH (aO (cN (aB bN aA)))) bF) (aC (aCy (aU aY (vv 1) (aN (aV.mono (by decide)) hr (by rfl) (aB (vv 0) (aB (aP bH (by rfl) T.fK dF (aB (vv 1) aA)) aA))) (λ_ _=>rfl)) (xG rfl (cD (aX (i:=4) dC.nd rfl (by trivial)) (cD (aX (i:=5) dC.nd rfl (by trivial)) jK)))) (aC (cA (bQ gO (vv 3) aF (bL _)) (aH (aO (cN (aB bN (aB (vv 4) aA))))) bF) (aC (aAl (i0:=6) dC.nd rfl (by trivial) (N:=["_law_k","_law_state","_law_kind"]) (by trivial) (lJ (aJ mH) rfl (by decide +kernel)) rfl (gG (by rfl) T.kI (aB (aN (aV.mono (by decide)) hr (by rfl) (aB (vv 0) (aB aF aA))) aA)) (λcl s' n fp=>⟨(aX (i:=0) (show (["_law_k","_law_state","_law_kind"]:List Str).Nodup from by decide +kernel) rfl (Or.inl rfl)),eX,(aN (jA.mono (by decide)) hr (by rfl) (aB (vv 1) (aB (vv 2) aA)))⟩)) (aC (bA (i:=7) dC.nd rfl (by trivial) (dX (aB (cN (aB qO (aB (aN (aV.mono (by decide)) hr (by rfl) (aB (vv 0) (aB (vv 2) aA))) aA))) aA))) (aC (fQ PassesOwn.never rfl (jB (aP (aHb rfl) (by rfl) T.kZ iJ (aB (cH (aQz rfl) (by rfl) T.aSd aN0 (aB (vv 6) aA)) aA))) (aX (i:=8) dC.nd rfl (by trivial)) (aH (cI (rE PySem.F.plainAttrs_list PySem.F.slot_list_append PySem.F.type_list_append iG (vv 7) (aB (cN (aB (vv 8) (aB (aN (aV.mono (by decide)) hr (by rfl) (aB (vv 0) (aB (vv 2) aA))) aA))) aA))))) (aH (aO (cN (aB bN (aB (vv 4) (aB (cH nF (by rfl) T.iU fU (aB (vv 7) aA)) aA))))))))))))),?_⟩;refine⟨_,rfl,a,3,rfl,hs,by decide,λa3 H1 f1 w0 w1=>?_⟩;refine⟨_,rfl,rfl,_,rfl,?_⟩;cases decide (V.int a3=V.int 0) with
 |true=>exact fG ⟨by show 1<=sizeLine;decide,λt H2 _ s2 g2=>q _ H2 .copies (f1.sm s2) ⟨t,rfl,SqT.of g2⟩ trivial⟩
 |false=>
 refine cC ?_;have as:=hI.tk (f1.tk (K:=K) hs);obtain⟨b,us,rfl,hb,hu⟩:=id as;have lu:=hu.len;have l1:=I.1.2.1;refine⟨_,rfl,_,rfl,_,rfl,b,us,rfl,.inr hb,a,_,rfl,f1.st,⟨by lia,by lia⟩,λz H2 f2 z0 z1=>?_⟩;have a9:=f1.trans f2;obtain⟨zi,rfl⟩:∃zi:Nat,z=zi:=⟨z.toNat,by lia⟩;have hz:zi<us.length:=by lia
 obtain⟨c,hc,pc,b1,b5⟩:=bM hu (b8 hz);refine⟨b,us,_,.ref pc,rfl,rfl,f2.bB f1.st hb,dI (by rw[b8 hz,b1]),?_⟩;have aa:=m8 hc;have lk:=aTp I.1.1 aa;obtain⟨a8,ad⟩:=I.2 c aa;refine⟨pc,_,rfl,f2.bB f1.st b5,rfl,_,_,rfl,_,_,rfl,rfl,?_⟩;refine⟨_,rfl,rfl,_,rfl,?_⟩;cases decide (V.int a3=V.int 1) with
 |true=>exact fG ⟨_,rfl,by show 2<=sizeLine;decide,λt H3 _ s3 g3=>q _ H3 (.keys c.1) (a9.sm s3) ⟨t,rfl,SqT.of g3⟩ ⟨a8,c.2,lk⟩⟩
 |false=>
 refine cC ?_;dsimp only[rY,aHe,aBq];refine aCb [none,some (.ref a),some (.str c.2)] (aG1 0 5 (by decide +kernel) (by decide +kernel) rfl rfl rfl rfl (by trivial) (by trivial)) ?_;refine⟨_,rfl,a,5,rfl,f2.st,by decide,λz H5 f5 z0 z1=>?_⟩;refine⟨z,rfl,by lia,by lia,?_⟩;refine aU7 (Fx a) (aUe f5.st) ((List.range z.toNat).map λi:Nat=>V.int (0+(i:Int))) (λ_=>true) (λ_ _ y=>bV c.2 y) (λ_ _ h=>h) (λ_ _ _ h=>h) (λi σ=>∃x,σ=[some x,some (.ref a),some (.str c.2)]) (fun σ=>∃l,σ=[l,some (.ref a),some (.str c.2)]) ⟨none,rfl⟩ (small (by rw[j4,bAJ];lia)) (Itr 0 z.toNat) (λn i x _ ex=>?_) (λn _=>?_) (λi x σ' n Q' ex ps f' r=>?_) (λi x σ2 ex at2 n R f' r=>r n (Fx.refl f'.st)) (λi x σ2 ex at2 _ n R f' r=>?_) λL H6 ys f6 fL gL ag=>?_
 ·obtain⟨hi,rfl⟩:=aGl ex;exact⟨hi,λy H2 hy=>hy⟩
 ·show z.toNat<=_;rw[j4,bAJ];exact d8 _
 ·obtain⟨l,rfl⟩:=ps;exact r _ ⟨some x,rfl⟩ ⟨x,rfl⟩
 ·obtain⟨x',rfl⟩:=at2;exact⟨_,rfl,_,rfl,a,c.2,rfl,f'.st,ad,λv H2 f2 hv=>r v H2 f2 hv⟩
 rw[wJ,j4,bAJ] at ag;obtain⟨ly,hy⟩:=uL ag;have ax:=a9.trans (f5.trans f6);obtain⟨ks,rfl,b3⟩:=aPc (k:=c.2) (ys:=ys) λy hm=>by obtain⟨i,hi⟩:=List.mem_iff_getElem?.mp hm;exact hy i y hi
 rw[j4] at ly;have ao:L≠a:=f5.st.ne fL;refine⟨_,rfl,_,rfl,a,m,rfl,f6.st,⟨by lia,by lia⟩,λh0 H7 f7 aq b2=>?_⟩;refine⟨by show 2<=sizeLine;decide,λt1 H8 _ s8 g8=>⟨by show 1<=sizeLine;decide,λC H9 hC s9 g9=>?_⟩⟩;have a4:=ax.trans f7;have aj:=(a4.sm s8).sm s9;have av:=s9 _ _ (s8 _ _ (f7.same _ _ ao gL));refine⟨_,rfl,L,ks,rfl,SqL.of av,by lia,λD bf kl bb u gD a0=>?_⟩;have ah:∀x∈kl,bV c.2 (kV x):=λx hx=>b3 x ((a0.2.1 x).mp hx);have bd:=a0.2.2;refine⟨D,kl,rfl,gD,by lia,a0.1,aRy ah,λB am M a2 Y gB W pw=>?_⟩;have be:=W.length_eq;have a7:H C=none:=a4.free (none_of s8 hC);have X:C≠a:=hs.ne a7;have af:=(aj.sm u).sm Y;have a5:=Y _ _ (u _ _ g9);have ak:H B=none:=aj.free (none_of u a2);have ay:B≠a:=hs.ne ak;have aw:B≠C:=λz=>by rw[z,u _ _ g9] at a2;cases a2
 have ar:SqT K am t1 [.non,.int h0]:=Y.bB (u.bB (s9.bB (SqT.of g8)));refine⟨B,rfl,⟨_,SqL.of gB⟩,rC (xs:=M.map kV) (λi σ n=>Fx a H n/\n B=some (.lst (M.map kV))/\∃j G l,n C=some (.lst j)/\bY (jP K n) j ((.non,h0)::G)/\G.map (·.1)=(M.take i).map kV/\(∀x∈G,0<=x.2/\x.2<m)/\σ=[some (.ref a),some (.ref b),some (.int m),some (.int a3),some (.str c.1),some (.str c.2),some (.ref L),some (.ref C),l]) ⟨af,gB,_,[],none,a5,.cons ⟨t1,rfl,ar⟩ .nil,rfl,λx hx=>(by cases hx),rfl⟩ (λi σ n _ p=>SqL.of p.2.1) (λi x σ n ex p=>?_) fun σ n p=>?_⟩
 ·obtain⟨fx,ai,j,G,l,o,O,g,Z,rfl⟩:=p;rw[t7] at ex;obtain⟨J,ac,rfl⟩:=Option.map_eq_some_iff.mp ex;have b6:=O.len;have ap:G.length<=4:=by have:=congrArg List.length g;rw[j4,j4,bAH] at this;lia
  rw[t8] at b6;refine⟨_,rfl,.inl ⟨rfl,_,SqL.of o⟩,_,rfl,_,rfl,_,rfl,a,m,rfl,fx.st,⟨by lia,by lia⟩,λhh ba e an b9=>?_⟩;refine⟨by show 2<=sizeLine;decide,λt2 a6 U d a1=>?_⟩;have S:=d _ _ (e.same _ _ X o);have ab:=d _ _ (e.same _ _ ay ai);have au:t2≠C:=λz=>by rw[z,e.same _ _ X o] at U;cases U
  refine⟨C,_,_,rfl,rfl,S,iK (by lia),?_⟩;refine⟨((fx.trans e).sm d).upd a7 X,by rw[aR aw];exact ab,j++[.ref t2],G++[(kV J,hh)],some (kV J),aK,?_,?_,λx hx=>?_,rfl⟩
  ·rw[<-List.cons_append];exact (O.imp λ_ _ ⟨p',ep,hp⟩=>⟨p',ep,(d.bB (e.bB fx.st hp)).lQ S⟩).app (.cons ⟨t2,rfl,SqT.of (by rw[aR au];exact a1)⟩ .nil)
  ·rw[bAT,g,bBB,ac,bAT];rfl
  ·rcases List.mem_append.mp hx with hx|hx
   ·exact Z x hx
   ·rw[bCZ] at hx;subst hx;exact⟨an,b9⟩
 ·obtain⟨fx,ai,j,G,l,o,O,g,Z,rfl⟩:=p;rw[j4,bCN] at g;have ap:G.length=M.length:=by have:=congrArg List.length g;rw[j4,j4] at this;exact this
  refine⟨_,rfl,_,rfl,C,j,rfl,SqL.of o,λt3 ba _ ae b4=>⟨by show 3<=sizeLine;decide,λt4 a6 _ d a1=>?_⟩⟩;refine q _ a6 (.spans c.1 h0 G) ((fx.sm ae).sm d) ⟨t4,.ref t3,rfl,SqT.of a1,t3,j,rfl,d.bB (SqT.of b4),O.imp λ_ _ z=>z.same (ae.trans d)⟩ ⟨a8,c.2,lk,ad,⟨aq,b2⟩,λx hx=>⟨?_,Z x hx⟩,?_,by lia⟩
  ·have:x.1∈G.map (·.1):=bBX hx;rw[g] at this;obtain⟨J,az,al⟩:=List.mem_map.mp this;rw[<-al];exact ah J (W.mem_iff.mp az)
  ·rw[g];exact List.pairwise_map.mpr (pw.imp λh=>bA1 h)
theorem gH.fx (f:Fx a H H')(h:gC H a)(hd:d≠a)(m:∀e∈es,e.L≠a)(b:gH K H d es):gH K H' d es:=by refine⟨f.same _ _ hd b.at_,b.nd,b.few,b.nm,λe c=>?_⟩;obtain⟨t,j,i,l,g,k⟩:=b.tb e c;exact⟨t,j,f.bB h i,l.tk (f.tk h),g.tk (f.tk h),k.fx f h (m e c)⟩
def aCt {κ:Type}[DecidableEq κ]{kvs:List (κ × V)}{k:κ}{v:V}(h:∀kv∈kvs,kv.1≠k):putK kvs k v=kvs++[(k,v)]:=by unfold putK;rw[if_neg];intro z;obtain⟨kv,b,a⟩:=List.any_eq_true.mp z;exact h kv b (of_decide_eq_true a)
inductive aKf (K:bFP)(vs:List V)(H:Hp)(Q:VK)(E_:XK):Prop
 |mk (a N:Addr) (ns:List Str) (_:vs=[.ref a,.ref N,.int 5]) (_:gC H a) (_:H N=some (.lst (ns.map V.str))) (_:N≠a) (_:wB ns) (_:∀t d (m:Int) es H',Fx a H H'->SqT K H' t [.int m,.ref d]->H d=none->1<=m->m<=6->gH K H' d es->(∀e∈es,mV m e.t/\e.t.rows.length<=5/\H e.L=none)->2<=es.length->es.length<=3->Q (.ref t) H')
def aHn (T:Txt w K mg)(aV:Ok P w K mg base 1 "_law_next" ["_law_state","_law_many"] lO)(ak:Ok P w K mg base 2 "_law_head" ["_law_state","_law_names_here"] (aKg K))(ao:Ok P w K mg base 4 "_law_placing" ["_law_state","_law_head_here","_law_houses"] (zJ K))(uM:Ok P w K mg base 4 "_law_row" ["_law_state","_law_head_here"] (aG6 K)):Ok P w K mg base 5 "_law_town" ["_law_state","_law_names_here","_law_most"] (aKf K):=by
 refine Ok.ofV T.aIb eY (by trivial) (λf am A ad s H vs Q E M h=>?_)
 obtain⟨a,N,g,rfl,hs,hN,nN,hn,q⟩:=h;have hu:=lB M;refine⟨_,(aC (bA (i:=3) eY.nd rfl (by trivial) (bO eE aF (aN (aV.mono (by decide)) M (by rfl) (aB (vv 0) (aB aF aA))))) (aC (bA (i:=4) eY.nd rfl (by trivial) aCh) (aC (fQ PassesOwn.never rfl (gG (by rfl) T.kI (aB (bO eE aF (aN (aV.mono (by decide)) M (by rfl) (aB (vv 0) (aB aF aA)))) aA)) (aX (i:=5) eY.nd rfl (by trivial)) (aC (bA (i:=6) eY.nd rfl (by trivial) (aN (ak.mono (by decide)) M (by rfl) (aB (vv 0) (aB (vv 1) aA)))) (aC (bA (i:=7) eY.nd rfl (by trivial) (aN (ao.mono (by decide)) M (by rfl) (aB (vv 0) (aB (vv 6) (aB (vv 3) aA))))) (aC (aAl (i0:=8) eY.nd rfl (by trivial) (N:=["_law_j","_law_state","_law_head_here"]) (by trivial) (lJ (aJ rD) rfl (by decide +kernel)) rfl (gG (by rfl) T.kI (aB (aN (aV.mono (by decide)) M (by rfl) (aB (vv 0) (aB (bO eE (vv 2) aF) aA))) aA)) (λcl s' j fp=>⟨(aX (i:=0) (show (["_law_j","_law_state","_law_head_here"]:List Str).Nodup from by decide +kernel) rfl (Or.inl rfl)),eX,(aN (uM.mono (by decide)) M (by rfl) (aB (vv 1) (aB (vv 2) aA)))⟩)) (aH (nG hu (vv 4) (aU fY (vv 1) (vv 5) (λ_ _=>rfl)) (cN (aB (vv 6) (aB (vv 7) (aB (vv 8) aA)))))))))) (aH (aO (cN (aB (vv 3) (aB (vv 4) aA)))))))),?_⟩;have ai:=hn.1;refine⟨_,rfl,a,4,rfl,hs,by decide,λz H1 f1 z0 z1=>⟨_,_,rfl,rfl,λd H2 a5 s2 g2=>?_⟩⟩;have Y:=f1.sm s2;have B:H d=none:=f1.free a5;have X:d≠a:=hs.ne B;refine⟨_,rfl,a,2,rfl,Y.st,by decide,λz2 H3 f3 al an=>⟨_,_,rfl,rfl,?_⟩⟩;have ag:=Y.trans f3;have g3:=f3.same _ _ X g2;have m1:1<=1+z:=by lia
 have m6:1+z<=6:=by lia
 refine⟨2+z2,rfl,by lia,by lia,?_⟩;obtain⟨n,en⟩:∃n:Nat,(2+z2).toNat=n:=⟨_,rfl⟩;rw[en];refine jU (n:=n) (λi σ j=>Fx a H j/\∃c l5 l6 l7 l8,gH K j d c/\(∀e∈c,mV (1+z) e.t/\e.t.rows.length<=5/\H e.L=none)/\c.map (·.n)=g.take i/\σ=[some (.ref a),some (.ref N),some (.int 5),some (.int (1+z)),some (.ref d),l5,l6,l7,l8]) ⟨ag,[],none,none,none,none,⟨g3,List.nodup_nil,bAE _,λe h=>(by cases h),λe h=>(by cases h)⟩,λe h=>(by cases h),rfl,rfl⟩ (λi σ j hi p=>?_) fun σ j p=>?_
 ·obtain⟨O,c,l5,l6,l7,l8,hE,C,o,rfl⟩:=p;have a7:=O.same _ _ nN hN;refine⟨_,rfl,_,rfl,a,N,g,rfl,O.st,a7,nN,hn,λZ H5 hd f5 hI J _=>?_⟩;refine⟨_,rfl,_,rfl,_,rfl,a,Z,hd,1+z,rfl,f5.st,hI,J,m1,m6,λvp H6 pl G aa a2=>?_⟩;have a1:=hI.tk (G.tk (K:=K) f5.st);dsimp only[cM,aHe,aBq];refine aCb [none,some (.ref a),some Z] (aG1 0 6 (by decide +kernel) (by decide +kernel) rfl rfl rfl rfl (by trivial) (by trivial)) ?_;refine⟨_,rfl,_,rfl,_,_,rfl,rfl,a,_,rfl,G.st,(by show (0:Int)<5+1/\(5:Int)+1<2 ^ 64;decide),λy H7 f7 y0 y1=>?_⟩;have y1:y<5+1:=y1;refine⟨y,rfl,by lia,by lia,?_⟩;have af:=a1.tk (f7.tk (K:=K) G.st);refine aU7 (Fx a) (aUe f7.st) ((List.range y.toNat).map λi:Nat=>V.int (0+(i:Int))) (λ_=>true) (λ_ j y=>∃r,dD K j y r/\pX hd r) (λf1 Y ⟨r,⟨p,e,hp⟩,h⟩=>⟨r,⟨p,e,Y.bB f1.st hp⟩,h⟩) (λ_ _ gD ⟨r,⟨p,e,hp⟩,h⟩=>⟨r,⟨p,e,SqT.lQ gD hp⟩,h⟩) (λi σ=>∃x,σ=[some x,some (.ref a),some Z]) (fun σ=>∃l,σ=[l,some (.ref a),some Z]) ⟨none,rfl⟩ (small (by rw[j4,bAJ];lia)) (Itr 0 y.toNat) (λj i x _ ex=>?_) (λj _=>?_) (λi x σ' j Q' ex ps f' r=>?_) (λi x σ2 ex at2 j R f' r=>r j (Fx.refl f'.st)) (λi x σ2 ex at2 _ j R f' r=>?_) λL H8 ys f8 fL gL a3=>?_
  ·obtain⟨hi,rfl⟩:=aGl ex;exact⟨hi,λy H2 hy=>hy⟩
  ·show y.toNat<=_;rw[j4,bAJ];exact d8 _
  ·obtain⟨l,rfl⟩:=ps;exact r _ ⟨some x,rfl⟩ ⟨x,rfl⟩
  ·obtain⟨x',rfl⟩:=at2;exact⟨_,rfl,_,rfl,a,Z,hd,rfl,f'.st,af.tk (f'.tk f7.st),J,λt H2 r' Y g2 hk=>r _ H2 Y ⟨r',⟨t,rfl,SqT.of g2⟩,hk⟩⟩
  rw[wJ,j4,bAJ] at a3;obtain⟨ly,hy⟩:=uL a3;obtain⟨u,I,ac⟩:=aOb (ys:=ys) λy hm=>by obtain⟨i,hi⟩:=List.mem_iff_getElem?.mp hm;exact hy i y hi
  have ah:=I.len;have F:=f7.trans f8;have a0:=(O.trans f5).trans (G.trans F);have ab:H L=none:=(O.trans f5).free (G.free (f7.free fL));refine⟨_,rfl,_,rfl,_,rfl,by show 3<=sizeLine;decide,λt H9 aj W g9=>?_⟩;have U:i<g.length:=by lia
  have ae:=W _ _ (a0.same _ _ nN hN);have a6:gH K H8 d c:=hE.fx ((f5.trans G).trans F) O.st X λe he=>hs.ne (C e he).2.2;have D:=a6.same W;have lE:c.length=i:=by have:=congrArg List.length o;rw[j4,bAH] at this;lia
  refine⟨_,rfl,_,rfl,_,rfl,N,_,_,.str g[i],rfl,rfl,SqL.of ae,?_,d,_,rfl,zU.k (k:=Sum.inr g[i]) D.at_ (by rw[gA];exact fW (by lia)),?_⟩
  ·rw[Int.zero_add];exact dI (by rw[t7,b8 U];rfl)
  have tk:g.take (i+1)=g.take i++[g[i]]:=by rw[bBB,b8 U];rfl
  have S:(g.take (i+1)).Nodup:=hn.2.2.sublist (bFH _ _);have a9:∀e∈c,e.n≠g[i]:=λe he z=>by rw[tk,<-o] at S;exact (List.nodup_append.mp S).2.2 _ (bBX he) _ j7 z
  obtain⟨b,m⟩:∃b:En,(⟨g[i],.ref t,Z,vp,L,⟨hd,pl,u⟩⟩:En)=b:=⟨_,rfl⟩;have ek:putK (enK c) (Sum.inr g[i]) (.ref t)=enK (c++[b]):=by
   rw[aCt λkv a4=>by unfold enK at a4;obtain⟨e,he,rfl⟩:=List.mem_map.mp a4;exact λz=>a9 e he (Sum.inr.inj z)]
   unfold enK;rw[bAT,<-m];rfl
  rw[ek];have nz:cW H9 d:=cW.dK D.at_;have bz:But d H9 (L2.upd H9 d (.dK (enK (c++[b])))):=But.upd;have a8:lZ K H9 b.v b.vh b.vp b.L b.t:=by rw[<-m];exact⟨t,rfl,SqT.of g9,(a1.tk (F.tk G.st)).same W,(aa.tk (F.tk G.st)).same W,ys,W _ _ gL,I.imp λ_ _ z=>z.same W⟩
  refine⟨(a0.sm W).upd B X,c++[b],_,_,_,_,⟨aK,?_,?_,λe he=>?_,λe he=>?_⟩,λe he=>?_,?_,rfl⟩
  ·rw[bAT,o,<-m];show (g.take i++[g[i]]).Nodup;rw[<-tk];exact S
  ·rw[bAA];show c.length+1<=60;lia
  ·rcases List.mem_append.mp he with he|he
   ·exact D.nm e he
   ·rw[bCZ] at he;rw[he,<-m];exact hn.2.1 _ (bAP U)
  ·rcases List.mem_append.mp he with he|he
   ·exact bz.tb nz (D.tb e he)
   ·rw[bCZ] at he;rw[he];exact bz.tb nz a8
  ·rcases List.mem_append.mp he with he|he
   ·exact C e he
   ·rw[bCZ] at he;rw[he,<-m];exact⟨⟨J,a2,by show u.length<=60;lia,ac⟩,by show u.length<=5;lia,ab⟩
  ·rw[bAT,o,tk,<-m];rfl
 ·obtain⟨O,c,l5,l6,l7,l8,hE,C,o,rfl⟩:=p;have lE:c.length=n:=by have:=congrArg List.length o;rw[j4,bAH] at this;lia
  exact⟨_,rfl,_,rfl,by show 2<=sizeLine;decide,λt H5 _ s5 g5=>q t d (1+z) c H5 (O.sm s5) (SqT.of g5) B m1 m6 (hE.same s5) C (by lia) (by lia)⟩
end
end My
namespace L2
open PySem PySem.Spec PyProof.Rows
def DX (K:bFP)(H:Hp):Nat->V->V->Prop
 |0,x,y=>(∃a,x=.ref a/\y=.ref a)\/DEq K H 40 x y
 |n+1,x,y=>DX K H n x y\/∃a b xs ys,x=.ref a/\y=.ref b/\((SqL K H a xs/\SqL K H b ys)\/(SqT K H a xs/\SqT K H b ys))/\Al2 (DX K H n) xs ys
section
variable {X:Cx}{bFT:bFR}{σ:L2.St}{H:Hp}{s:Shared}
def aO0 {R:V->V->Prop}{T:Value->Value->Prop}{xs ys:List V}{its jts:List Value}(e:Vals xs its)(n:Vals ys jts)(h:Al2 R xs ys)(p:∀{x y v u},R x y->RelV x v->RelV y u->T v u):∀(j:Nat) (h1:j<its.toArray.size) (h2:j<jts.toArray.size),T its.toArray[j] jts.toArray[j]:=λj h1 h2=>by
 have q:=e.length;have a:j<xs.length:=by rw[d9] at h1;lia
 obtain⟨y,k,d⟩:=h.at (b8 a);obtain⟨g,b,i⟩:=e.get (b8 a);obtain⟨m,c,l⟩:=n.get k;have f:its.toArray[j]=g:=by rw[bBM];exact (List.getElem?_eq_some_iff.mp b).2
 have o:jts.toArray[j]=m:=by rw[bBM];exact (List.getElem?_eq_some_iff.mp c).2
 rw[f,o];exact p d i l
theorem vV (I:Inv X bFT σ H s):∀n {A:Around} {x y:V} {v u:Value},DX X.K H n x y->RelV x v->RelV y u->A.units+42+n<cLine->SeqAt.EqAt A s v u true
 |0,A,x,y,v,u,h,rv,ru,hu=>by
  rcases h with⟨a,rfl,rfl⟩|h
  ·cases rv;cases ru;exact bDB _
  ·exact xK I 40 h rv ru (by lia)
 |n+1,A,x,y,v,u,h,rv,ru,hu=>by
  rcases h with h|⟨a,b,B,D,rfl,rfl,q,h⟩
  ·exact vV I n h rv ru (by lia)
  cases rv;cases ru;by_cases e:a=b
  ·subst e;exact bDB _
  have l:=h.len;refine bFC e ?_;rcases q with⟨r,p⟩|⟨r,p⟩
  ·obtain⟨f,i,t,_⟩:=I.list r;obtain⟨c,j,k,_⟩:=I.list p;have C:=i.length;have z:=j.length;have g:=SeqAt.RcAt.lists (A:=A) (e:=λ_=>true) t.isList k.isList (by rw[d9,d9];lia) (by lia) (aO0 i j h λd o m=>vV I n d o m (by show A.units+1+42+n<cLine;lia));rw[iZ] at g;exact g
  ·obtain⟨f,i,t,_⟩:=I.tuple r;obtain⟨c,j,k,_⟩:=I.tuple p;have g:=bFK (A:=A) (e:=λ_=>true) (show s.heap.IsTuple a f.toArray from t) (show s.heap.IsTuple b c.toArray from k) (by lia) (aO0 i j h λd o m=>vV I n d o m (by show A.units+1+42+n<cLine;lia));have w:(f.toArray.size == c.toArray.size)=true:=by rw[d9,d9];have:=i.length;have:=j.length;simp;lia
   rw[iZ,w] at g;exact g
end
def bB3 (K:bFP)(r:Bool):R2:=λx y H Q=>∃a b us ws,x=.ref a/\y=.ref b/\SqL K H a us/\SqL K H b ws/\Al2 (DX K H 3) us ws/\Q (.bl r) H
def bAd {X:Cx}(hu:X.A.units+64<cLine):OpR X (compareOp .Eq) (bB3 X.K true):=by
 intro t s σ H x y v u Q I j o h;obtain⟨a,b,D,C,rfl,rfl,i,g,hd,q⟩:=h;cases j;cases o;obtain⟨k,f,w,z⟩:=I.list i;obtain⟨p,c,m,F⟩:=I.list g;have l:=hd.len;have E:=f.length;have B:=c.length;refine SeqAt.RcAt.lists (e:=λ_=>true) w.isList m.isList (by rw[d9,d9];lia) (by lia) (aO0 f c hd λd r n=>vV I 3 d r n (by show X.A.units+1+42+3<cLine;lia)) _ _ _ _ ?_;first
  |(rw[iZ];exact⟨.bl _,H,I,rfl,q⟩)
  |(simp only[iZ];exact⟨.bl _,H,I,rfl,q⟩)
def aSn {X:Cx}(hu:X.A.units+64<cLine):OpR X (compareOp .NotEq) (bB3 X.K false):=by
 intro t s σ H x y v u Q I j o h;obtain⟨a,b,D,C,rfl,rfl,i,g,hd,q⟩:=h;cases j;cases o;obtain⟨k,f,w,z⟩:=I.list i;obtain⟨p,c,m,F⟩:=I.list g;have l:=hd.len;have E:=f.length;have B:=c.length;refine bFD (e:=λ_=>true) w.isList m.isList (by rw[d9,d9];lia) (by lia) (aO0 f c hd λd r n=>vV I 3 d r n (by show X.A.units+1+42+3<cLine;lia)) _ _ _ _ ?_;first
  |(rw[iZ];exact⟨.bl _,H,I,rfl,q⟩)
  |(simp only[iZ];exact⟨.bl _,H,I,rfl,q⟩)
def bCl (K:bFP):R2:=λx y H Q=>∃a b u us,x=.ref a/\y=.ref b/\SqL K H a (u::us)/\SqL K H b []/\Q (.bl false) H
theorem aYf (hu:X.A.units+64<cLine):OpR X (compareOp .Eq) (bCl X.K):=by
 intro g s σ H x y v u Q I j d h;obtain⟨a,b,z,w,rfl,rfl,i,f,q⟩:=h;cases j;cases d;obtain⟨n,m,k,o⟩:=I.list i;obtain⟨e,l,c,p⟩:=I.list f;cases l;cases m with
 |cons r t=>exact SeqAt.RcAt.lists_lengths k.isList c.isList (by simp) (by lia) _ _ _ _ ⟨.bl _,H,I,rfl,q⟩
end L2
namespace My
open PySem PySem.Spec PyProof.Rows L2
section
variable {P:Program}{w:World}{K:bFP}{mg:bFS}{base:Heap}
theorem aIv {R:En->Addr->Prop}{es:List En}{Ls:List Addr}(h:bY R es Ls):((es.zip Ls).map λe=>((Sum.inr e.1.n:Key),V.ref e.2)).map (·.1)=es.map λe=>Sum.inr e.n:=by
 induction h with
 |nil=>rfl
 |cons _ _ ih=>exact congrArg _ ih
theorem uX:∀{kvs:List (Key × V)} {k:Key} {v:V},(kvs.map (·.1)).Nodup->(k,v)∈kvs->eV kvs k=some v
 |[],k,v,nd,h=>by cases h
 |a::kvs,k,v,nd,h=>by
  rw[bAC,bDP] at nd;rcases List.mem_cons.mp h with h|h
  ·subst h;exact cU rfl
  ·rw[cR λz=>nd.1 (z ▸ bBX h)];exact uX nd.2 h
section
variable {S:Addr->Prop}{H H':Hp}
def RL (K:bFP)(S:Addr->Prop)(H:Hp)(L:Addr)(rs:List (List V)):Prop:=S L/\bU K H L rs
theorem RL.kp (k:KP K S H H')(h:RL K S H L rs):RL K S H' L rs:=⟨h.1,h.2.kp k h.1⟩
theorem fP.kp (k:KP K S H H')(q:S x)(s:S d)(r:∀e∈es,S e.L)(h:fP K H C x m d es):fP K H' C x m d es:=by obtain⟨⟨f,p⟩,b,o⟩:=h;refine⟨⟨f,k.st _ _ q p⟩,⟨k.st _ _ s b.at_,b.nd,b.few,b.nm,λe c=>?_⟩,o⟩;obtain⟨a,n,g,i,j,l⟩:=b.tb e c;exact⟨a,n,k.tk _ _ g,i.tk k.tk,j.tk k.tk,l.kp k (r e c)⟩
def aWd (K:bFP)(S:Addr->Prop)(H:Hp)(q:Addr)(m:Int)(e:En):Prop:=S q/\∃Ls:List Addr,H q=some (.lst (Ls.map V.ref))/\Ls.length=m.toNat/\∀(i:Nat) L,Ls[i]?=some L->RL K S H L (e.t.rows.filter λr=>jC e.t.hd m r (0+(i:Int)) e.t.pl)
end
def aLk (xs:List V)(s:Ps1 σ0 σ0)(hsz:xs.length<=1000)
  (W:∀H' i x,Same H H'->xs[i]?=some x->J.go i H'/\∀y H2,J.yld i H' y H2->H2=H'/\y=x) (t:∀H',Same H H'->J.stop xs.length H') (f:Nat->List (List V))
  (U:∀(i:Nat) x,xs[i]?=some x->∀σ2 H' R,At1 σ0 x σ2->Same H H'->(∀L H2,H' L=none->Same H' H2->bU K H2 L (f i)->R (.ref L) H2)->te σ2 H' R)
  (q:∀D H' (Ls:List Addr),Same H H'->H D=none->H' D=some (.lst (Ls.map V.ref))->Ls.length=xs.length->(∀(i:Nat) L,Ls[i]?=some L->H L=none/\bU K H' L (f i))->Q (.ref D) H'):pR J H σ0 (cM 0) mW te Q:=by
 intro D c;refine⟨λi m u H' h=>m=xs.length - i/\i<=xs.length/\Same H H'/\Ps1 σ0 u/\H' D=some (.lst h)/\∃Ls:List Addr,h=Ls.map V.ref/\Ls.length=i/\∀j L,Ls[j]?=some L->H L=none/\L≠D/\bU K H' L (f j),⟨xs.length,rfl,bAE _,bC c _,s,aK,[],rfl,rfl,λj L e=>by cases e⟩,?_⟩;rintro i m u H' h ⟨rfl,hi,sm,hps,gD,Ls,rfl,lL,hr⟩;refine⟨gD,?_⟩;by_cases g:i<xs.length
 ·right;have n:=b8 g;obtain⟨O,N⟩:=W H' i xs[i] sm n;refine⟨O,λx H2 E=>?_⟩;obtain⟨rfl,rfl⟩:=N x H2 E;refine hg1 (i:=i) hps fun σ2 a l=>?_;dsimp only[mW];rw[if_pos rfl];refine U i _ n σ2 _ _ l sm λL w k d S=>?_;have b:=d _ _ gD;have v:L≠D:=λz=>by rw[z,gD] at k;cases k
  have o:∀{M rs},M≠D->bU K w M rs->bU K (L2.upd w D (.lst (Ls.map V.ref++[.ref L]))) M rs:=λA ⟨B,I,s⟩=>⟨B,by rw[aR A];exact I,s.imp λ_ _ ⟨p,e,F⟩=>⟨p,e,SqT.lQ b F⟩⟩;refine⟨b,bCB (show (Ls.map V.ref).length<=1000 by rw[j4];lia) (by decide),xs.length - (i+1),by lia,rfl,by lia,dR c (sm.trans d),a,aK,Ls++[L],by rw[bAT];rfl,by rw[bAA,lL];rfl,λj M e=>?_⟩;by_cases C:j<Ls.length
  ·rw[bBF C] at e;obtain⟨P,r,G⟩:=hr j M e;exact⟨P,r,o r (G.same d)⟩
  ·rw[bBC (by lia)] at e;have T:j - Ls.length=0:=by have:=(List.getElem?_eq_some_iff.mp e).1;simpa using this
   rw[T] at e;cases e;have:j=i:=by lia
   rw[this];exact⟨none_of sm k,v,o v S⟩
 ·left;have e:i=xs.length:=by lia
  subst e;exact⟨t _ sm,q D H' Ls sm c gD lL λj L e=>⟨(hr j L e).1,(hr j L e).2.2⟩⟩
def bA8:∀H' i x,Same H H'->((List.range n).map λi:Nat=>V.int (0+(i:Int)))[i]?=some x->(Itr 0 n).go i H'/\∀y H2,(Itr 0 n).yld i H' y H2->H2=H'/\y=x:=λH' i x _ a=>by obtain⟨c,rfl⟩:=aGl a;exact⟨c,λy H2 b=>b⟩
def aUv:∀H',Same H H'->(Itr 0 n).stop ((List.range n).map λi:Nat=>V.int (0+(i:Int))).length H':=λH' _=>by rw[j4,bAJ];exact d8 _
def FlR (rs:List (List V)):Prop:=∀r∈rs,∀x∈r,(∃i,x=.int i)\/∃z,x=.str z
def mV.flat (h:mV m t):FlR t.rows:=λr b x a=>aYu (vW (h.rows r b)) x a
def aDm (K:bFP)(S:Addr->Prop)(H:Hp)(m:Int)(u:V)(e:En):Prop:=∃a Lw q,u=.ref a/\SqT K H a [.str e.n,e.vh,e.vp,.ref Lw,.ref q]/\RL K S H Lw e.t.rows/\aWd K S H q m e
theorem aDm.kp (k:KP K S H H')(h:aDm K S H m u e):aDm K S H' m u e:=by obtain⟨a,c,q,rfl,d,l,sq,b,j,g,f⟩:=h;exact⟨a,c,q,rfl,k.tk _ _ d,l.kp k,sq,b,k.st _ _ sq j,g,λi L e=>(f i L e).kp k⟩
def aDm.mono (k:∀b,S b->S' b)(h:aDm K S H m u e):aDm K S' H m u e:=by obtain⟨a,g,q,rfl,j,d,sq,f,n,l,c⟩:=h;exact⟨a,g,q,rfl,j,⟨k _ d.1,d.2⟩,k _ sq,f,n,l,λi L e=>⟨k _ (c i L e).1,(c i L e).2⟩⟩
abbrev Up (ss:List Str):Prop:=ss.Pairwise λa b=>a.cps.toList<b.cps.toList
def xM (K:bFP)(S:Addr->Prop)(H:Hp)(L:Addr)(m:Int)(es:List En):Prop:=∃ss us,S L/\H L=some (.lst us)/\ss.Perm (es.map (·.n))/\Up ss/\bY (λu n=>∃e∈es,e.n=n/\aDm K S H m u e) us ss
theorem xM.kp (k:KP K S H H')(h:xM K S H L m es):xM K S H' L m es:=by obtain⟨j,d,a,b,l,c,g⟩:=h;exact⟨j,d,a,k.st _ _ a b,l,c,g.imp λ_ _ ⟨e,i,f,z⟩=>⟨e,i,f,z.kp k⟩⟩
theorem xM.mono (k:∀b,S b->S' b)(h:xM K S H L m es):xM K S' H L m es:=by obtain⟨j,d,n,a,l,c,g⟩:=h;exact⟨j,d,k _ n,a,l,c,g.imp λ_ _ ⟨e,i,f,z⟩=>⟨e,i,f,z.mono k⟩⟩
def aVx (f:ss.Perm ns)(c:tt.Perm ns)(d:Up ss)(e:Up tt):ss=tt:=
 (f.trans c.symm).eq_of_pairwise (λa b _ _ x y=>absurd (List.lt_trans x y) (List.lt_irrefl _)) d e
inductive aJ6 (K:bFP)(C:Addr)(vs:List V)(H:Hp)(Q:VK)(E_:XK):Prop
 |mk (x d:Addr) (m:Int) (es:List En) (_:vs=[.ref x,.int m]) (_:fP K H C x m d es) (_:1<=m) (_:m<=6) (_:∀L H',Same H H'->xM K (λb=>H b=none) H' L m es->Q (.ref L) H')
def aD0 (T:Txt w K mg)(c:OkM P w K mg base C 2 "heads" ["self"] (aAz K C))(g:OkM P w K mg base C 4 "placing" ["self","name"] (uF K C))(B:OkM P w K mg base C 4 "whole" ["self","name"] (jF K C))(I:OkM P w K mg base C 5 "part" ["self","name","house"] (aFv K C)):Ok P w K mg base 6 "_law_about" ["_law_town_here","_law_houses"] (aJ6 K C):=by
 refine Ok.ofV T.aGa jY (by trivial) (λf ah A ac s H vs Q E hr h=>?_)
 obtain⟨x,d,m,W,rfl,hT,m1,m6,q⟩:=h;have hu:=lB hr;refine⟨_,(aC (bA (i:=2) jY.nd rfl (by trivial) (dX aA)) (aC (fQ PassesOwn.never rfl (jB (aP (qF rfl) (by rfl) T.kZ iJ (aB (dY (c.mono (by decide)) hr (vv 0)) aA))) (aX (i:=3) jY.nd rfl (by trivial)) (aC (aAl (i0:=4) jY.nd rfl (by trivial) (N:=["_law_house","_law_name","_law_town_here"]) (by trivial) (lJ (aJ pD) rfl (by decide +kernel)) rfl (gG (by rfl) T.kI (aB (vv 1) aA)) (λcl s' H' fp=>⟨(aX (i:=0) (show (["_law_house","_law_name","_law_town_here"]:List Str).Nodup from by decide +kernel) rfl (Or.inl rfl)),eX,(cG (I.mono (by decide)) hr (vv 2) (aB (vv 1) (aB (vv 0) aA)))⟩)) (aH (cI (rE PySem.F.plainAttrs_list PySem.F.slot_list_append PySem.F.type_list_append iG (vv 2) (aB (cN (aB (vv 3) (aB (iV hu (dY (c.mono (by decide)) hr (vv 0)) (vv 3) (λ_ _=>rfl)) (aB (cG (g.mono (by decide)) hr (vv 0) (aB (vv 3) aA)) (aB (cG (B.mono (by decide)) hr (vv 0) (aB (vv 3) aA)) (aB (vv 4) aA)))))) aA)))))) (aH (aO (vv 2))))),?_⟩;obtain⟨⟨dx,hx⟩,hE,ok⟩:=id hT;have ag:=hE.few;refine⟨by decide,λL H1 hL s1 gL=>?_⟩;refine⟨_,rfl,x,dx,_,rfl,s1 _ _ hx,rfl,x,d,m,W,rfl,hT.same s1,λdh H2 ai s2 ab=>?_⟩;refine⟨dh,_,W.map (·.n),rfl,ab,by rw[bBJ,bBJ];rfl,hE.nd,by rw[j4];lia,λN Y ss hN s3 hp up gN=>?_⟩;have Z:=s1.trans (s2.trans s3);have a1:=s3 _ _ (s2 _ _ gL);have a6:=hT.same Z;have ex:∀{b o},H b=some o->b≠L:=λh z=>by rw[z,hL] at h;cases h
 have nL:N≠L:=λz=>by rw[z,s2 _ _ gL] at hN;cases hN
 have nS:¬ (λb=>b≠L) L:=λz=>z rfl;have aa:¬ (λb=>Y b=none) L:=λz=>by have z:Y L=none:=z;rw[a1] at z;cases z
 have a8:=hp.length_eq;rw[j4] at a8;refine⟨N,rfl,⟨_,SqL.of gN⟩,rC (λi σ H'=>KP K (λb=>b≠L) Y H'/\(∃l1 l2,σ=[some (.ref x),some (.int m),some (.ref L),l1,l2])/\∃S,H' L=some (.lst S)/\bY (λu n=>∃e∈W,e.n=n/\aDm K (λb=>Y b=none) H' m u e) S (ss.take i)) ⟨.same (Same.refl _),⟨none,none,rfl⟩,[],a1,.nil⟩ (λi σ H' _ p=>SqL.of (p.1.st _ _ nL gN)) (λi y σ H4 ey p=>?_) fun σ H4 p=>?_⟩
 ·obtain⟨kp,⟨l1,l2,rfl⟩,S,X,v⟩:=p;rw[t7] at ey;obtain⟨n,hn,rfl⟩:=Option.map_eq_some_iff.mp ey;obtain⟨e,k,rfl⟩:=List.mem_map.mp (hp.mem_iff.mp (m8 hn));have j:=a6.kp kp (ex hx) (ex hE.at_) (λe k=>by obtain⟨_,_,_,_,_,⟨S,h3,_⟩⟩:=hT.2.1.tb e k;exact ex h3);obtain⟨⟨J,M⟩,_,_⟩:=id j;dsimp only[rY,cM,aHe,aBq,tO,List.set];refine aCb [none,some (.str e.n),some (.ref x)] (aG1 3 0 (by decide +kernel) (by decide +kernel) rfl rfl rfl rfl (by trivial) (by trivial)) ⟨_,rfl,m,rfl,by lia,by lia,?_⟩;refine aLk (K:=K) ((List.range m.toNat).map λi:Nat=>V.int (0+(i:Int))) ⟨none,rfl⟩ (by rw[j4,bAJ];lia) bA8 aUv (λi=>e.t.rows.filter λr=>jC e.t.hd m r (0+(i:Int)) e.t.pl) (λi z ez σ2 H' R af sm r=>?_) λD H5 Ps s5 hD gD lP hP=>?_
  ·obtain⟨hi,rfl⟩:=aGl ez;obtain⟨l,rfl⟩:=af;exact⟨_,rfl,x,J,_,rfl,sm _ _ M,rfl,_,rfl,_,rfl,x,d,m,0+(i:Int),W,e,rfl,j.same sm,k,by lia,by lia,λL' H2 a9 ad a4=>r L' H2 a9 ad a4⟩
  rw[j4,bAJ] at lP;refine⟨_,rfl,.inl ⟨rfl,_,SqL.of (s5 _ _ X)⟩,?_⟩;refine⟨_,rfl,?_⟩;refine⟨_,rfl,x,J,_,rfl,s5 _ _ M,rfl,x,d,m,W,rfl,j.same s5,λa5 H6 _ s6 g6=>?_⟩;refine⟨_,rfl,a5,e.vh,rfl,.inl ⟨_,Sum.inr e.n,.inl g6,rfl,(uX (by rw[bBJ];exact aCm hE.nd) (List.mem_map.mpr ⟨e,k,rfl⟩)).symm⟩,?_⟩;have a0:=s5.trans s6;refine⟨_,rfl,x,J,_,rfl,a0 _ _ M,rfl,_,rfl,x,d,m,W,e,rfl,j.same a0,k,λH7 s7=>?_⟩;have O:=a0.trans s7;refine⟨_,rfl,x,J,_,rfl,O _ _ M,rfl,_,rfl,x,d,m,W,e,rfl,j.same O,k,λLw H8 a2 s8 a3=>?_⟩;refine⟨_,rfl,by show 5<=sizeLine;decide,λa H9 _ s9 ga=>?_⟩;have U:=s6.trans (s7.trans (s8.trans s9));have G:=s5.trans U;have lu:=v.len;rw[bAH] at lu;refine⟨L,_,_,rfl,rfl,G _ _ X,iK (by lia),?_⟩;have kL:KP K (λb=>b≠L) H9 (_root_.L2.upd H9 L (.lst (S++[.ref a]))):=.lQ (G _ _ X) nS;have kS:KP K (λb=>Y b=none) H9 (_root_.L2.upd H9 L (.lst (S++[.ref a]))):=.lQ (G _ _ X) aa;have f4:∀{b},H4 b=none->Y b=none:=λ{b} h=>by
   cases e3:Y b with
   |none=>rfl
   |some o=>
    by_cases z:b=L
    ·rw[z,X] at h;cases h
    ·rw[kp.st _ _ z e3] at h;cases h
  have ae:ss.take (i+1)=ss.take i++[e.n]:=by rw[bBB,hn];rfl
  refine⟨kp.trans ((KP.same G).trans kL),⟨_,_,rfl⟩,S++[.ref a],aK,?_⟩;rw[ae];refine bY.app (v.imp λ_ _ ⟨e,k,en,z⟩=>⟨e,k,en,z.kp ((KP.same G).trans kS)⟩) (.cons ⟨e,k,rfl,a,Lw,D,rfl,kS.tk _ _ (SqT.of ga),⟨f4 (none_of O a2),(a3.same s9).kp kS (f4 (none_of O a2))⟩,f4 hD,Ps,kS.st _ _ (f4 hD) (U _ _ gD),lP,λi L' a7=>?_⟩ .nil);obtain⟨z1,z2⟩:=hP i L' a7;exact⟨f4 z1,(z2.same U).kp kS (f4 z1)⟩
 ·obtain⟨kp,⟨l1,l2,rfl⟩,S,X,v⟩:=p;rw[j4,bCN] at v;exact⟨_,rfl,q L H4 (λb o h=>kp.st _ _ (ex h) (Z _ _ h)) ⟨ss,S,hL,X,hp,up,v.imp λ_ _ ⟨e,k,en,z⟩=>⟨e,k,en,z.mono λb h=>none_of Z h⟩⟩⟩
def aM5 (e e':En):Prop:=e'.n=e.n/\e'.vh=e.vh/\e'.vp=e.vp/\e'.t=e.t
theorem aUt:∀{n:Nat} {x y:V},DEq K H 40 x y->DX K H n x y
 |0,_,_,h=>.inr h
 |_+1,_,_,h=>.inl (aUt h)
theorem aFz:∀{n:Nat} {a:Addr},DX K H n (.ref a) (.ref a)
 |0,a=>.inl ⟨a,rfl,rfl⟩
 |_+1,_=>.inl aFz
theorem aOs {α β:Type}{R S:α->β->Prop}(k:∀a b,R a b->S a b){as:List α}{bs:List β}(h:Al2 R as bs):Al2 S as bs:=by
 induction h with
 |nil=>exact .nil
 |cons r _ ih=>exact .cons (k _ _ r) ih
def aOj (k:bU K H a rs)(j:bU K H b rs)(i:FlR rs):DX K H (n+1) (.ref a) (.ref b):=by obtain⟨e,c,g⟩:=k;obtain⟨d,h,f⟩:=j;exact .inr ⟨a,b,e,d,rfl,rfl,.inl ⟨SqL.of c,SqL.of h⟩,aOs (λ_ _ z=>aUt z) (aI7 (fV g) (fV f) i)⟩
def bAk (X:aM5 e e')(V:mV m e.t)(W:∃a,e.vh=.ref a)(P:∃a,e.vp=.ref a)(h:aDm K S H m u e)(h':aDm K S' H m u' e'):DX K H 3 u u':=by obtain⟨v,o,x,s⟩:=X;obtain⟨a,U,q,rfl,j,A,sq,O,I,R,E⟩:=h;obtain⟨G,N,n,rfl,b,d,y,B,f,F,c⟩:=h';rw[v,o,x] at b;rw[s] at d c;obtain⟨T,J⟩:=W;obtain⟨Q,p⟩:=P;rw[J,p] at j b;have g:=V.flat;refine .inr ⟨a,G,_,_,rfl,rfl,.inr ⟨j,b⟩,.cons (aUt (.inl ⟨rfl,rfl⟩)) (.cons aFz (.cons aFz (.cons (aOj A.2 d.2 g) (.cons ?_ .nil))))⟩;refine .inr ⟨q,n,_,_,rfl,rfl,.inl ⟨SqL.of I,SqL.of f⟩,Al2.of (by rw[j4,j4];lia) λi u w k l=>?_⟩;rw[t7] at k l;obtain⟨L,D,rfl⟩:=Option.map_eq_some_iff.mp k;obtain⟨M,z,rfl⟩:=Option.map_eq_some_iff.mp l;exact aOj (E i L D).2 (c i M z).2 λr C=>g r (List.mem_filter.mp C).1
theorem aFi (i:fP K H C x m d es)(h:e∈es):(∃a,e.vh=.ref a)/\∃a,e.vp=.ref a:=by
 obtain⟨_,_,_,⟨b,_,g,_⟩,f,_⟩:=i.2.1.tb e h;refine⟨⟨b,g⟩,?_⟩;generalize e.t.pl=pl at f;cases pl with
 |copies=>obtain⟨a,c,_⟩:=f;exact⟨a,c⟩
 |keys n=>obtain⟨a,c,_⟩:=f;exact⟨a,c⟩
 |spans n h0 cs=>obtain⟨a,_,c,_⟩:=f;exact⟨a,c⟩
def aX0 (h:bY aM5 es es')(m:(es.map (·.n)).Nodup)(s:e∈es)(g:e'∈es')(r:e'.n=e.n):aM5 e e':=by
 obtain⟨i,c⟩:=List.mem_iff_getElem?.mp s;obtain⟨o,p,q⟩:=bM h c;obtain⟨k,l,a⟩:=gF h g;have:k=e:=by
  obtain⟨j,b⟩:=List.mem_iff_getElem?.mp l;have d:(es.map (·.n))[j]?=some e.n:=by rw[t7,b];exact congrArg some (a.1.symm.trans r)
  have f:(es.map (·.n))[i]?=some e.n:=by rw[t7,c];rfl
  have:=(List.getElem?_inj (List.getElem?_eq_some_iff.mp d).1 m).mp (d.trans f.symm);subst this;rw[c] at b;exact (bAM b).symm
 rw[this] at a;exact a
def aUp (c:fP K H C x m d es)(F:bY aM5 es es')(h:xM K S H L m es)(h':xM K S' H L' m es'):∃us ws,H L=some (.lst us)/\H L'=some (.lst ws)/\Al2 (DX K H 3) us ws:=by
 obtain⟨P,us,_,B,q,y,k⟩:=h;obtain⟨t,p,_,z,j,G,f⟩:=h';have D:es'.map (·.n)=es.map (·.n):=by
  clear q j c k f
  induction F with
  |nil=>rfl
  |cons r _ ih=>rw[bAC,bAC,ih,r.1]
 rw[D] at j;have:=aVx q j y G;subst this;have M:=k.len;have J:=f.len;refine⟨us,p,B,z,Al2.of (by lia) λi u w v E=>?_⟩;obtain⟨n,s,e,b,g,A⟩:=bM k v;obtain⟨O,a,N,l,o,I⟩:=bM f E;rw[s] at a;cases a;exact bAk (aX0 F c.2.1.nd b l (o.trans g.symm)) (c.2.2 e b) (aFi c b).1 (aFi c b).2 A I
inductive aKq (K:bFP)(C:Addr)(vs:List V)(H:Hp)(Q:VK)(E_:XK):Prop
 |mk (x d:Addr) (m:Int) (es:List En) (_:vs=[.ref x]) (_:fP K H C x m d es) (_:1<=m) (_:∀H',Same H H'->Q .non H')
def aDk (T:Txt w K mg)(b:OkM P w K mg base C 2 "heads" ["self"] (aAz K C))(c:OkM P w K mg base C 4 "whole" ["self","name"] (jF K C))(a:OkM P w K mg base C 2 "tables" ["self"] (xJ K C))(g:OkM P w K mg base C 5 "part" ["self","name","house"] (aFv K C)):Ok P w K mg base 6 "_law_spoil" ["_law_town_here"] (aKq K C):=by
 refine Ok.ofV T.aF0 tU (by trivial) (λf ae A a5 s H vs Q E v h=>?_)
 obtain⟨x,d,m,l,rfl,I,m1,q⟩:=h;have hu:=lB v;refine⟨_,(aC (fQ PassesOwn.never rfl (jB (aP (qF rfl) (by rfl) T.kZ iJ (aB (dY (b.mono (by decide)) v (vv 0)) aA))) (aX (i:=1) tU.nd rfl (by trivial)) (aC (cI (rE PySem.F.plainAttrs_list PySem.F.slot_list_append PySem.F.type_list_append iG (cG (c.mono (by decide)) v (vv 0) (aB (vv 1) aA)) (aB qO aA))) (aC (cI (rE PySem.F.plainAttrs_list PySem.F.slot_list_append PySem.F.type_list_append iG (iV hu (dY (a.mono (by decide)) v (vv 0)) (vv 1) (λ_ _=>rfl)) (aB qO aA))) (aH (cI (rE PySem.F.plainAttrs_list PySem.F.slot_list_append PySem.F.type_list_append iG (cG (g.mono (by decide)) v (vv 0) (aB (vv 1) (aB aF aA))) (aB qO aA))))))) (aC (cI (aL4 PySem.F.plainAttrs_dict PySem.F.slot_dict_clear PySem.F.type_dict_clear aEj (dY (b.mono (by decide)) v (vv 0)))) (aH (cI (aL4 PySem.F.plainAttrs_dict PySem.F.slot_dict_clear PySem.F.type_dict_clear aEj (dY (a.mono (by decide)) v (vv 0))))))),?_⟩;obtain⟨⟨dx,Y⟩,hE,ok⟩:=id I;have a0:=hE.few;refine⟨_,rfl,x,dx,_,rfl,Y,rfl,x,d,m,l,rfl,I,λdh H2 af s2 a4=>?_⟩;refine⟨dh,_,l.map (·.n),rfl,a4,by rw[bBJ,bBJ];rfl,hE.nd,by rw[j4];lia,λN H3 ss hN s3 hp up gN=>?_⟩;have M:=s2.trans s3;refine⟨N,rfl,⟨_,SqL.of gN⟩,rC (xs:=ss.map V.str) (λi σ H'=>Same H3 H'/\∃U,σ=[some (.ref x),U]) ⟨Same.refl _,none,rfl⟩ (λi σ H' _ p=>SqL.of (p.1 _ _ gN)) (λi y σ H4 ey p=>?_) fun σ H4 p=>?_⟩
 ·obtain⟨W,U,rfl⟩:=p;rw[t7] at ey;obtain⟨n,hn,rfl⟩:=Option.map_eq_some_iff.mp ey;obtain⟨e,S,rfl⟩:=List.mem_map.mp (hp.mem_iff.mp (m8 hn));have a0:=(ok e S).few;have j:=I.same (M.trans W);obtain⟨⟨u,B⟩,_,_⟩:=id j;refine⟨_,rfl,x,u,_,rfl,B,rfl,_,rfl,x,d,m,l,e,rfl,j,S,λL1 H5 h5 s5 a6=>?_⟩;obtain⟨O,g1,a1⟩:=a6;have U:=a1.len;refine⟨.inl ⟨rfl,_,SqL.of g1⟩,L1,_,_,rfl,rfl,g1,iK (by lia),?_⟩;have k:Same H4 (_root_.L2.upd H5 L1 (.lst (O++[.non]))):=dR h5 s5;generalize _root_.L2.upd H5 L1 (.lst (O++[.non]))=H6 at k ⊢;refine⟨_,rfl,x,u,_,rfl,k _ _ B,rfl,x,d,m,l,rfl,j.same k,λp Z Ls L s7 R aL ab=>?_⟩;obtain⟨i,ei⟩:=List.mem_iff_getElem?.mp S;obtain⟨D,eL,n7,⟨J,g7,a7⟩⟩:=bM aL ei;have l7:=a7.len;have nd:(((l.zip Ls).map λe=>((Sum.inr e.1.n:Key),V.ref e.2)).map (·.1)).Nodup:=by rw[aIv aL];exact aCm hE.nd
  have ac:((Sum.inr e.n:Key),V.ref D)∈(l.zip Ls).map λe=>((Sum.inr e.1.n:Key),V.ref e.2):=List.mem_map.mpr ⟨(e,D),m8 (List.getElem?_zip_eq_some.mpr ⟨ei,eL⟩),rfl⟩;refine⟨_,rfl,p,.ref D,rfl,.inl ⟨_,Sum.inr e.n,.inl R,rfl,(uX nd ac).symm⟩,.inl ⟨rfl,_,SqL.of g7⟩,D,_,_,rfl,rfl,g7,iK (by lia),?_⟩;have X:Same H4 (_root_.L2.upd Z D (.lst (J++[.non]))):=k.trans (dR n7 s7);generalize _root_.L2.upd Z D (.lst (J++[.non]))=H8 at X ⊢;refine⟨_,rfl,x,u,_,rfl,X _ _ B,rfl,_,rfl,x,d,m,0,l,e,rfl,j.same X,S,by lia,by lia,λL9 H9 h9 s9 a8=>?_⟩;obtain⟨ag,g9,a9⟩:=a8;have l9:=a9.len;have ad:=bDA (λr=>jC e.t.hd m r 0 e.t.pl) e.t.rows;refine⟨.inl ⟨rfl,_,SqL.of g9⟩,L9,_,_,rfl,rfl,g9,iK (by lia),?_⟩;exact⟨W.trans (X.trans (dR h9 s9)),_,rfl⟩
 ·obtain⟨W,U,rfl⟩:=p;have z:=M.trans W;refine⟨_,rfl,x,dx,_,rfl,z _ _ Y,rfl,x,d,m,l,rfl,I.same z,λp9 aa a2 a3 G=>?_⟩;refine⟨.inr (.inr (.inl ⟨rfl,.inl ⟨_,G⟩⟩)),p9,_,rfl,rfl,G,?_⟩;have k:=z.trans (dR (o:=.dK []) a2 a3);generalize _root_.L2.upd aa p9 (.dK [])=H11 at k ⊢;refine⟨_,rfl,x,dx,_,rfl,k _ _ Y,rfl,x,d,m,l,rfl,I.same k,λp Z Ls L s7 R aL ab=>?_⟩;refine⟨.inr (.inr (.inl ⟨rfl,.inl ⟨_,R⟩⟩)),p,_,rfl,rfl,R,?_⟩;exact q _ (k.trans (dR L s7))
def zK (h:bV kd v):jN v=true:=by cases h <;> rfl
def aH4 (J:L2.St->Hp->Prop)(b:∀N:L2.St->Hp->Prop,(∀σ' H',J σ' H'->N σ' H')->S { D with nx:=N } σ H)(a:∀σ' H',J σ' H'->R D σ' H'):aHe S R D σ H:=b _ a
def aYs (Y N:Hp->Prop)(b:∀R:Bool->Hp->Prop,(∀H8,Y H8->R true H8)->(∀H8,N H8->R false H8)->c σ H R)(a:∀H8,Y H8->t D σ H8)(d:∀H8,N H8->u D σ H8):aMv c t u D σ H:=
 b _ (λH8 y=>fG (a H8 y)) (λH8 y=>cC (d H8 y))
theorem aEn:∀{hd:Hdr},look hd n=some kd->eV (hd.map λc=>((Sum.inr c.1:Key),V.str c.2)) (Sum.inr n)=some (.str kd)
 |[],h=>by cases h
 |c::hd,h=>by
  unfold look at h;rw[bAC];rw[bBZ] at h;by_cases z:c.1=n
  ·rw[m9 z] at h;cases h;rw[z];exact cU rfl
  ·rw[v9 z] at h;rw[cR λq=>z (Sum.inr.inj q)];exact aEn h
theorem bAn {H:Hp}{us:List V}{hd:Hdr}(h:bY (IsC K H) us hd):oA K H us (hd.map λc=>((Sum.inr c.1:Key),V.str c.2)):=by
 induction h with
 |nil=>exact .nil
 |cons r _ ih=>obtain⟨p,e,a⟩:=r;exact .cons ⟨p,e,a⟩ ih
def bB2 {hd:Hdr}(h:Good hd):((hd.map λc=>((Sum.inr c.1:Key),V.str c.2)).map (·.1)).Nodup:=by rw[bBJ];have e:=h.1;exact List.pairwise_map.mpr ((List.pairwise_map.mp e).imp λ{a b} d z=>d (Sum.inr.inj z))
def bU.ne (h:gC H a)(f:bU K H L rs):L≠a:=λz=>by obtain⟨s,g,_⟩:=h;obtain⟨d,c,b⟩:=f;rw[z,g] at c;cases c;cases b with|cons r _=>obtain⟨p,e,_⟩:=r;cases e
def lU (h:gC H a)(g:H d=some o)(n:∀xs,o≠.lst xs):d≠a:=λz=>by obtain⟨s,b,_⟩:=h;rw[z,b] at g;cases g;exact n _ rfl
theorem bJ.fx (f:Fx a H H')(h:gC H a)(b:bJ K H C x m d dm es):bJ K H' C x m d dm es:=
 ⟨let ⟨dx,h1⟩:=b.at_;⟨dx,f.same _ _ (lU h h1 λ_ z=>by cases z) h1⟩,b.ens.fx f h (lU h b.ens.at_ λ_ z=>by cases z) (λe c=>by obtain⟨_,_,_,_,_,g⟩:=b.ens.tb e c;exact g.ne h),b.ok,b.ne⟩
def Mvs.fx (f:Fx a H H')(h:gC H a)(c:Mvs K H dm g j):Mvs K H' dm g j:=by obtain⟨b,d,e⟩:=id c;exact c.kp (λu=>f.same _ _ (lU h d λ_ z=>by cases z)) (f.tk h)
def aI9 {t:Tb}{n:Str}{cs:List (V × Int)}{num:Nat}{ks:List Bool}{l:List (List V)}(p:∀r∈t.rows,KdR ks r)(k:t.rows.length<=60)(a:Ded l (nA t n cs num none)):((srt l).take 60=[]->nA t n cs num none=[])/\∀r,((srt l).take 60).getLast?=some r->r∈t.rows/\nA t n cs num (some r)=[]:=by
 have i:∀r∈l,KdR ks r:=λr f=>p r (List.mem_filter.mp ((a.2.1 r).mp f)).1;obtain⟨c,g⟩:=tD i;have o:(srt l).length<=60:=by rw[nH];exact bAK a.2.2 (bAK (bDA _ _) k)
 rw[bAV o];refine⟨λz=>?_,λr f=>?_⟩
 ·refine List.eq_nil_iff_forall_not_mem.mpr λx e=>?_;have:=c.mem_iff.mpr ((a.2.1 x).mpr e);rw[z] at this;cases this
 ·obtain⟨q,j⟩:=List.getLast?_eq_some_iff.mp f;rw[j] at g c;have b:=c.mem_iff.mp (z9 _ j7);refine⟨(List.mem_filter.mp ((a.2.1 r).mp b)).1,List.filter_eq_nil_iff.mpr λx e z=>?_⟩;rw[bAQ] at z;have m:=(a.2.1 x).mpr (List.mem_filter.mpr ⟨e,by rw[bAQ];exact⟨rfl,z.2⟩⟩);have d:rlt r x=true:=z.1;rcases List.mem_append.mp (c.mem_iff.mpr m) with h|h
  ·have:=(List.pairwise_append.mp g).2.2 x h r j7;rw[this] at d;cases d
  ·cases List.mem_singleton.mp h;rw[aZ2 (i _ b)] at d;cases d
def aDj:Plc->Option Str
 |.spans n _ _=>some n
 |_=>none
def aY7 (m:Int)(o:Option Mv):Prop:=∀mq,o=some mq->mq.num=0/\(0<=mq.house/\mq.house<m)/\mq.mark=none
inductive aFq (K:bFP)(C Pt:Addr)(vs:List V)(H:Hp)(Q:VK)(E_:XK):Prop
 |mk (a x dt d dm:Addr) (m:Int) (es0 l1 l2:List En) (e0 e:En) (f:Str->Option Mv) (j:Nat) (_:vs=[.ref a,.ref x,.ref dt,.str e.n,.int m]) (_:gC H a) (_:bJ K H C x m d dm (l1++e::l2)) (_:gH K H dt es0) (_:e0∈es0) (_:e0.n=e.n) (_:e0.t.hd=e.t.hd) (_:aDj e0.t.pl=aDj e.t.pl) (_:Mvs K H dm f j) (_:aY7 m (f e.n)) (_:j+2<900) (_:e.t.rows.length<60) (_:(1<=m/\m<=6)) (_:H Pt=some (.tab qC)) (_:∀e' f' j' H',KP K (λb=>b≠a/\b≠d/\b≠dm) H H'->gC H' a->bJ K H' C x m d dm (l1++e'::l2)->Mvs K H' dm f' j'->j'<=j+2->(∀n,n≠e.n->f' n=f n)->aY7 m (f' e.n)->e'.n=e.n->e'.t.hd=e.t.hd->aDj e'.t.pl=aDj e.t.pl->e'.t.rows.length<=e.t.rows.length+1->Q .non H')
theorem aA3 (T:Txt w K mg){C Ct Pt:Addr}(aV:Ok P w K mg base 1 "_law_next" ["_law_state","_law_many"] lO)(uM:Ok P w K mg base 4 "_law_row" ["_law_state","_law_head_here"] (aG6 K))(jA:Ok P w K mg base 3 "_law_value" ["_law_state","_law_kind"] aAq)(M:OkM P w K mg base C 13 "town" ["self"] (aHo K C Ct Pt))(aw:OkM P w K mg base Ct 4 "whole" ["self","name"] (jF K Ct))(an:OkM P w K mg base Ct 4 "placing" ["self","name"] (uF K Ct))(bb:OkM P w K mg base C 5 "put" ["self","name","row"] (aTn K C))(b3:OkM P w K mg base C 5 "drop" ["self","name","row"] (aPj K C))(ak:OkM P w K mg base C 4 "moving" ["self","name"] (aEi K C))(aq:OkM P w K mg base C 5 "carry" ["self","name","many"] (aKl K C))(al:OkM P w K mg base C 6 "settle" ["self","name"] (aEr K C))(ap:OkM P w K mg base C 6 "split" ["self","name","low"] (aJd K C))(az:OkM P w K mg base C 5 "lend" ["self","name","number","house"] (aO1 K C)):Ok P w K mg base 14 "_law_change" ["_law_state","_law_store","_law_tables","_law_name","_law_houses"] (aFq K C Pt):=by
 refine Ok.ofV T.aDn eF (by trivial) (λf ec A cy s H vs Q E hr h=>?_)
 obtain⟨a,x,dt,d,X,m,cp,l1,l2,e0,e,fm,j,rfl,hs,hS,bm,c6,dc,cf,ai,ci,b4,hj,cv,⟨m1,m6⟩,hP,q⟩:=h;have hu:=lB hr;have hU:=hr.units;refine⟨_,(aC (aCy (eO vY (iV hu (vv 2) (vv 3) (λ_ _=>rfl)) gZ (fJ aF)) (xG rfl (cD (aX (i:=5) eF.nd rfl (by trivial)) (cD (aX (i:=6) eF.nd rfl (by trivial)) jK)))) (aC (bA (i:=7) eF.nd rfl (by trivial) (cG (aw.mono (by decide)) hr (dY (M.mono (by decide)) hr (vv 1)) (aB (vv 3) aA))) (aC (cA (VW.pt (aUg (bQ (aSj hU) (vv 7) (dX aA) (bL _)) (aOv (bQ gO (aN (aV.mono (by decide)) hr (by rfl) (aB (vv 0) (aB aF aA))) aF (bL _))))) (aH (cI (cG (b3.mono (by decide)) hr (vv 1) (aB (vv 3) (aB (aU fY (vv 7) (aN (aV.mono (by decide)) hr (by rfl) (aB (vv 0) (aB (aP bH (by rfl) T.fK dF (aB (vv 7) aA)) aA))) (λ_ _=>rfl)) aA))))) (aH (cI (cG (bb.mono (by decide)) hr (vv 1) (aB (vv 3) (aB (aN (uM.mono (by decide)) hr (by rfl) (aB (vv 0) (aB (vv 5) aA))) aA)))))) (aH (cA (bQ gO (aU aY (vv 6) aF (λ_ _=>rfl)) bN (bL _)) (aC (bA (i:=8) eF.nd rfl (by trivial) (aU aY (cG (an.mono (by decide)) hr (dY (M.mono (by decide)) hr (vv 1)) (aB (vv 3) aA)) aF (λ_ _=>rfl))) (aC (bA (i:=9) eF.nd rfl (by trivial) (aN (jA.mono (by decide)) hr (by rfl) (aB (vv 0) (aB (iV hu (cH (aMp rfl) (by rfl) T.aBu wQ (aB (vv 5) aA)) (aU aY (vv 6) aF (λ_ _=>rfl)) (λ_ _=>rfl)) aA)))) (aH (cA (bQ aN9 (cG (ak.mono (by decide)) hr (vv 1) (aB (vv 3) aA)) qO (bL _)) (aC (cI (cG (aq.mono (by decide)) hr (vv 1) (aB (vv 3) (aB aF aA)))) (aH (cI (cG (al.mono (by decide)) hr (vv 1) (aB (vv 3) aA))))) (aH (cA (VW.pt (aUg (bQ aUl (aP bH (by rfl) T.fK dF (aB (vv 8) aA)) aF (bL _)) (aOv (bQ pM (vv 9) (dJ (N:=["_law_cut"]) (by trivial) (gU (by decide +kernel)) rfl (qU (vv 8)) (λcl s' J fp=>⟨(aX (i:=0) (show (["_law_cut"]:List Str).Nodup from by decide +kernel) rfl (Or.inl rfl)),eX,(aU (cO (K:=K)) (vv 0) aF (λ_ _=>rfl))⟩)) (by with_unfolding_all rfl))))) (aH (cI (cG (ap.mono (by decide)) hr (vv 1) (aB (vv 3) (aB (vv 9) aA))))) (aH (cA (bQ aYj (vv 4) aF (bL _)) (aH (cI (cG (az.mono (by decide)) hr (vv 1) (aB (vv 3) (aB aF (aB (bO oO (bO eE (aU aY (aU aY (vv 8) aF (λ_ _=>rfl)) aF (λ_ _=>rfl)) aF) (vv 4)) aA)))))) bF)))))))) bF))))),?_⟩;obtain⟨dx,hx⟩:=hS.at_;have he:e∈l1++e::l2:=z9 _ j7;have ok:=hS.ok e he;obtain⟨a0,dq,de,c8,bx,ee⟩:=bm.tb e0 c6;have gv:eV (enK cp) (Sum.inr e.n)=some e0.v:=by rw[<-dc];exact vD bm.nd c6
 refine⟨_,rfl,_,rfl,dt,e0.v,rfl,.inl ⟨_,Sum.inr e.n,.inl bm.at_,rfl,gv.symm⟩,?_⟩;refine⟨_,rfl,a0,_,dq,de,by show ¬ (HT.sIx 3 0 none=0/\HT.sIx 3 3 (some 2)=3);decide,λp1 H1 s1 g1=>?_⟩;rw[show pH [e0.vh,e0.vp,.ref e0.L] none (some 2)=[e0.vh,e0.vp] from pF _ 2] at g1;refine⟨p1,_,rfl,SqT.of g1,rfl,_,_,rfl,_,_,rfl,rfl,?_⟩;refine⟨_,rfl,x,dx,_,rfl,s1 _ _ hx,rfl,x,d,X,m,_,rfl,hS.same s1,m1,m6,s1 _ _ hP,λy d' H2 dp hy ea s2 hT a2=>?_⟩;obtain⟨i,hi⟩:=List.mem_iff_getElem?.mp he;obtain⟨_,e4,v2,L2,rfl,_⟩:=bM a2 hi;obtain⟨⟨dy,dk⟩,_,_⟩:=id hT;refine⟨y,dy,_,rfl,dk,rfl,_,rfl,y,d',m,dp,aAx e v2 L2,rfl,hT,m8 e4,λL H3 hL s3 hR=>?_⟩;have bf:=s1.trans (s2.trans s3);obtain⟨us,gL,ch⟩:=id hR;have lu:us.length=e.t.rows.length:=ch.len.trans (nH _);have aj:=hS.same bf;have G:=hs.same bf;have cg:L≠a:=hR.ne G;dsimp only[cM,List.set];refine aH4 (S:=aMv _ _ _) (fun σ J=>∃F,KP K (λb=>b≠a/\b≠d) H3 J/\gC J a/\bJ K J C x m d X (l1++F::l2)/\(F.n=e.n/\F.t.hd=e.t.hd/\F.t.pl=e.t.pl/\F.vp=e.vp/\F.t.rows.length<=e.t.rows.length+1)/\σ=[some (.ref a),some (.ref x),some (.ref dt),some (.str e.n),some (.int m),some e0.vh,some e0.vp,some (.ref L),none,none]) (λNX hN=>?_) fun σ' H4 hJ=>?_
 ·refine aYs (λH8=>Fx a H3 H8/\us≠[]) (λH8=>Fx a H3 H8) (λR rT rF=>?_) (λH8 y=>?_) λH8 f8=>?_
  ·refine⟨_,rfl,by show 0<=sizeLine;decide,λL0 H4 _ s4 g4=>⟨L,L0,us,rfl,rfl,SqL.of (s4 _ _ gL),SqL.of g4,_,rfl,?_⟩⟩;cases us with
   |nil=>exact lN rfl (rF _ (.of G s4))
   |cons u ur=>
    refine zL rfl ⟨_,rfl,a,3,rfl,G.same s4,by decide,λz H5 f5 z0 z1=>?_⟩;have ce:=(Fx.of G s4).trans f5;refine⟨rfl,_,rfl,?_⟩;cases hz:decide (V.int z=V.int 0) with
    |true=>exact rT _ ⟨ce,λq=>by cases q⟩
    |false=>exact rF _ ce
  ·obtain⟨f8,bk⟩:=y;have ab:=aj.fx f8 G;obtain⟨b9,b5⟩:=ab.at_;have d6:=f8.same _ _ cg gL;have e7:0<us.length:=by cases us with|nil=>exact absurd rfl bk|cons _ _=>exact Nat.succ_pos _
   refine⟨_,rfl,x,b9,_,rfl,b5,rfl,_,rfl,_,rfl,_,rfl,_,rfl,L,_,rfl,.inl (SqL.of d6),a,_,rfl,f8.st,⟨by lia,by lia⟩,λz H9 f9 z0 z1=>?_⟩;have I:=f8.trans f9;obtain⟨zi,rfl⟩:∃zi:Nat,z=zi:=⟨z.toNat,by lia⟩;have bv:zi<us.length:=by lia
   obtain⟨ro,bn,d3⟩:=bM ch (b8 bv);have cb:ro∈e.t.rows:=oZ (m8 bn);obtain⟨pr,ds,d2⟩:=d3;refine⟨L,us,_,us[zi],rfl,rfl,SqL.of (I.same _ _ cg gL),dI (b8 bv),?_⟩;refine⟨x,d,X,m,l1,l2,e,us[zi],ro,rfl,aj.fx I G,⟨pr,ds,I.tk G _ _ d2⟩,ok.rows ro cb,cb,λv' L' bp a8 bl O _ c=>hN _ _ ⟨_,(KP.fx I G λz=>z.1 rfl).trans (O.mono λb z=>z.2),?_,c,⟨rfl,rfl,rfl,rfl,?_⟩,rfl⟩⟩
   ·obtain⟨st,g,h⟩:=I.st;exact⟨st,O.st _ _ (Ne.symm (lU I.st (aj.fx I G).ens.at_ λ_ z=>by cases z)) g,h⟩
   ·have:=bl.length_eq;show (srt bp).length<=_;rw[nH];rw[t8] at this;lia
  ·have ab:=aj.fx f8 G;obtain⟨b9,b5⟩:=ab.at_;have d0:lV K H8 e0.vh e.t.hd:=by rw[<-cf];exact (c8.same bf).tk (f8.tk G)
   refine⟨_,rfl,x,b9,_,rfl,b5,rfl,_,rfl,_,rfl,_,rfl,a,e0.vh,e.t.hd,rfl,f8.st,d0,ok.hd,λt H9 ro f9 gt dz=>?_⟩;have I:=f8.trans f9;refine⟨x,d,X,m,l1,l2,e,.ref t,ro,rfl,aj.fx I G,⟨t,rfl,SqT.of gt⟩,dz,cv,λv' L' a8 O _ c=>hN _ _ ⟨_,(KP.fx I G λz=>z.1 rfl).trans (O.mono λb z=>z.2),?_,c,⟨rfl,rfl,rfl,rfl,?_⟩,rfl⟩⟩
   ·obtain⟨st,g,h⟩:=I.st;exact⟨st,O.st _ _ (Ne.symm (lU I.st (aj.fx I G).ens.at_ λ_ z=>by cases z)) g,h⟩
   ·show (srt (e.t.rows++[ro])).length<=_;rw[nH,bAA];exact d8 _
 obtain⟨F,k4,bo,ad,⟨o,ac,bw,ed,b6⟩,rfl⟩:=hJ;have ah:F∈l1++F::l2:=z9 _ j7;have ag:KP K (λb=>b≠a/\b≠d) H H4:=(KP.same bf).trans k4;have av:KP K (λb=>b≠a/\b≠d/\b≠X) H H4:=ag.mono λb z=>⟨z.1,z.2.1⟩;have ar:X≠a/\X≠d:=by obtain⟨e8,h1,_⟩:=id ci;exact⟨lU hs h1 (λ_ z=>by cases z),Ne.symm hS.ne⟩
 have ay:Mvs K H4 X fm j:=ci.kp (λu=>ag.st _ _ ar) ag.tk;have cq:H4 Pt=some (.tab qC):=ag.st _ _ ⟨lU hs hP (λ_ z=>by cases z),λz=>by rw[z,hS.ens.at_] at hP;cases hP⟩ hP;have d4:lV K H4 e0.vh e.t.hd:=by rw[<-cf];exact c8.tk ag.tk
 have Y:=bx.tk ag.tk;have a7:aDj F.t.pl=aDj e.t.pl:=by rw[bw]
 have bu:=λJ (k':KP K (λb=>b≠a/\b≠d/\b≠X) H J) h2 h3 h4=>q F fm j J k' h2 h3 h4 (by lia) (λ_ _=>rfl) b4 o ac a7 b6;rw[<-bw] at ai;cases hq:e0.t.pl with
 |copies=>rw[hq] at Y;obtain⟨b,eb,hb⟩:=Y;refine⟨_,rfl,b,_,0,_,eb,rfl,hb,at0 _ _,rfl,_,rfl,lN (by decide) ?_⟩;exact bu H4 av bo ad ay
 |keys n=>rw[hq] at Y;obtain⟨b,eb,hb⟩:=Y;refine⟨_,rfl,b,_,0,_,eb,rfl,hb,at0 _ _,rfl,_,rfl,lN (by decide) ?_⟩;exact bu H4 av bo ad ay
 |spans n h0' cs'=>
  rw[hq] at Y ai;obtain⟨b,eh,eb,hb,_⟩:=Y;refine⟨_,rfl,b,_,0,_,eb,rfl,hb,at0 _ _,rfl,_,rfl,zL (by decide) ?_⟩;obtain⟨Z,cs,a9⟩:∃Z cs,F.t.pl=.spans n Z cs:=by
   generalize F.t.pl=pl at ai;cases pl with
   |copies=>cases ai
   |keys _=>cases ai
   |spans n' Z cs=>cases ai;exact⟨Z,cs,rfl⟩
  have be:=ad.ok F ah;have cj:=be.pl;rw[a9,ac] at cj;obtain⟨ei,kd,hk,dw,bs⟩:=cj;obtain⟨da,cr⟩:=ad.at_;refine⟨_,rfl,x,da,_,rfl,cr,rfl,x,d,X,m,_,rfl,ad,m1,m6,cq,λy5 d5 H5 df _ _ s5 cd a5=>?_⟩;obtain⟨i1,dn⟩:=List.mem_iff_getElem?.mp ah;obtain⟨_,cn,v5,L5,rfl,_⟩:=bM a5 dn;obtain⟨⟨e5,cw⟩,_,_⟩:=id cd;refine⟨y5,e5,_,rfl,cw,rfl,_,rfl,y5,d5,m,df,aAx F v5 L5,by rw[<-o];rfl,cd,m8 cn,λH6 s6=>?_⟩;have bq:=s5.trans s6;obtain⟨a1,ef,eg,h1,h2,h3⟩:=(ad.ens.tb F ah).same bq;rw[a9] at h2;obtain⟨b1,vo,dg,dh,⟨cc,bc,rfl,dr,bh⟩⟩:=h2;have cu:=bh.len;rw[t8] at cu;have e6:=bs.few;refine⟨b1,_,2,_,dg,rfl,dh,at2 _ _ _ _,?_⟩;obtain⟨hh,c9,du,co,ca⟩:=id (d4.same bq);have lh:=ca.len;have l8:=ok.hd.1.2.2;refine⟨_,rfl,_,rfl,hh,c9,_,by rw[du],co,bAn ca,by lia,λp H7 hp s7 g7=>?_⟩;rw[mU _ [] (by rw[bBU];exact bB2 ok.hd.1),bBU] at g7;have ax:=bq.trans s7;have ao:=bo.same ax;refine⟨_,rfl,b,_,1,_,eb,rfl,ax.bB hb,at1 _ _ _,p,.str kd,rfl,.inl ⟨_,Sum.inr n,.inl g7,rfl,(aEn hk).symm⟩,a,kd,rfl,ao,dw,λba H8 f8 bi=>?_⟩;have ab:=(ad.same ax).fx f8 ao;have bj:=(ay.same ax).fx f8 ao;have k8:KP K (λb=>b≠a/\b≠d/\b≠X) H H8:=av.trans ((KP.same ax).trans (.fx f8 ao λz=>z.1 rfl));have bt:=f8.tk ao _ _ (s7.bB dr);have c5:bY (jP K H8) bc ((.non,Z)::cs):=bh.imp λ_ _ z=>(z.same s7).tk (f8.tk ao);obtain⟨b9,b5⟩:=ab.at_;rw[<-o] at b4;dsimp only[cM,List.set];refine⟨_,rfl,x,b9,_,rfl,b5,rfl,_,rfl,x,d,X,m,_,F,fm F.n,by rw[<-o];rfl,ab,ah,bj.d F.n rfl,λvm H9 s9 bd=>?_⟩;have k9:=k8.trans (KP.same s9);have au:=f8.st.same s9;have as:=ab.same s9;have af:=bj.same s9;cases ho:fm F.n with
  |some mq=>
   rw[ho] at bd;obtain⟨am,_,rfl,_⟩:=bd;refine⟨rfl,_,rfl,zL (by rfl) ?_⟩;obtain⟨n0,⟨b0,b1⟩,mk⟩:=b4 mq ho;refine aH4 (S:=aR6 _) (fun σ J=>∃U f' j',KP K (λb=>b≠a/\b≠d/\b≠X) H J/\gC J a/\bJ K J C x m d X (l1++F::l2)/\Mvs K J X f' j'/\f' F.n=some U/\(∀n,n≠F.n->f' n=fm n)/\j'<=j+1/\(U.num=0/\0<=U.house/\U.house<m)/\(∀q,U.mark=some q->pX F.t.hd q)/\nA F.t n cs U.num U.mark=[]/\σ=[some (.ref a),some (.ref x),some (.ref dt),some (.str e.n),some (.int m),some e0.vh,some e0.vp,some (.ref L),some (.ref cc),some ba]) (λNX hN=>?_) fun σ' a8 hJ=>?_
   ·obtain⟨di,cz⟩:=as.at_;refine⟨_,rfl,x,di,_,rfl,cz,rfl,_,rfl,x,d,X,m,_,F,mq,n,Z,cs,60,fm,j,by rw[<-o];rfl,as,ah,af,ho,by lia,a9,(λq z=>by rw[mk] at z;cases z),λqs c0=>?_⟩;rw[mk] at c0;obtain⟨c1,c2⟩:=aI9 (λr hr=>vW (be.rows r hr)) be.few c0;refine⟨λz a8 k=>hN _ _ ⟨mq,fm,j,k9.trans (KP.same k),au.same k,as.same k,af.same k,ho,λ_ _=>rfl,by lia,⟨n0,b0,b1⟩,(λq z=>by rw[mk] at z;cases z),by rw[mk];exact c1 z,rfl⟩,λro bn a8 O c B=>?_⟩;obtain⟨cm,c3⟩:=c2 ro bn;refine hN _ _ ⟨{ mq with mark:=some ro },_,_,k9.trans (O.mono λb z=>z.2.2),?_,c,B,by unfold fset;rw[if_pos rfl],(λn hn=>by unfold fset;rw[if_neg hn]),d8 _,⟨n0,b0,b1⟩,(λq z=>by cases z;exact be.rows _ cm),c3,rfl⟩;obtain⟨st,g,h⟩:=au;exact⟨st,O.st _ _ (Ne.symm ar.1) g,h⟩
   ·obtain⟨U,f',j',O,c4,c,B,e2,db,e9,⟨cx,dd,e3⟩,dv,hw,rfl⟩:=hJ;obtain⟨a3,a4⟩:=c.at_;refine⟨_,rfl,x,a3,_,rfl,a4,rfl,_,rfl,x,d,X,m,l1,l2,F,U,n,Z,cs,f',j',by rw[<-o];rfl,c,a9,B,e2,dv,hw,cx,dd,e3,λv' ct b2 W a6 ae=>?_⟩;refine q _ _ _ b2 (O.trans (W.mono λb z=>z.2)) ?_ a6 ae (by lia) (λn hn=>?_) (λmq z=>?_) o ac ?_ b6
    ·obtain⟨st,g,h⟩:=c4;exact⟨st,W.st _ _ ⟨Ne.symm (lU hs hS.ens.at_ λ_ z=>by cases z),Ne.symm ar.1⟩ g,h⟩
    ·unfold fset;rw[if_neg (by rw[o];exact hn)];exact db n (by rw[o];exact hn)
    ·unfold fset at z;rw[o,if_pos rfl] at z;cases z
    ·show aDj (.spans n U.house cs)=_;rw[<-a7,a9];rfl
  |none=>
   rw[ho] at bd;cases bd;refine⟨rfl,_,rfl,lN (by rfl) ?_⟩;have aa:=s9.bB bt;have bg:bY (jP K H9) bc ((.non,Z)::cs):=c5.imp λ_ _ z=>z.same s9;have dl:(((V.non,Z)::cs).map (·.1)).all jN=true:=by rw[bAC,bFO,List.all_eq_true.mpr λy hy=>?_];rfl;obtain⟨c',br,rfl⟩:=List.mem_map.mp hy;exact zK (bs.each c' br).1
   refine aYs (λJ=>Same H9 J/\cs.length+1<8/\inV ba (.non::cs.map (·.1))=false) (λJ=>Same H9 J) (λR rT rF=>?_) (λa8 y=>?_) λa8 k=>?_
   ·refine⟨_,rfl,cc,_,rfl,.inr aa,_,_,rfl,rfl,_,rfl,?_⟩;by_cases h8:cs.length+1<8
    ·rw[show decide (((bc.length:Nat):Int)<8)=true from m9 (by lia)];refine fG ⟨_,rfl,?_⟩;refine vU [none] oE ⟨_,rfl,cc,rfl,⟨_,aa⟩,aBx (aHh λJ s'=>s'.bB aa) (wN λJ s'=>s'.bB aa) ⟨none,rfl⟩ (by lia) (((.non,Z)::cs).map (·.1)) (by rw[j4,t8];lia) (λi x z ex ez J R' l sm r=>?_) λD a8 k nL gL=>?_⟩
     ·obtain⟨c',br,p',rfl,bl⟩:=bM bg ex;rw[t7,br] at ez;cases ez;exact⟨_,rfl,p',_,0,_,rfl,rfl,sm.bB bl,at0 _ _,r J (Same.refl _)⟩
     refine⟨D,_,rfl,.inl (SqL.of gL),zK bi,dl,_,rfl,?_⟩;rw[if_pos rfl];cases hz:inV ba (((V.non,Z)::cs).map (·.1)) with
     |true=>exact rF _ k
     |false=>exact rT _ ⟨k,h8,hz⟩
    ·rw[show decide (((bc.length:Nat):Int)<8)=false from v9 (by lia)];exact cC (rF _ (Same.refl _))
   ·obtain⟨k,d1,dj⟩:=y;have c:=as.same k;have B:=af.same k;obtain⟨a3,a4⟩:=c.at_;refine⟨_,rfl,x,a3,_,rfl,a4,rfl,_,rfl,_,rfl,x,d,X,m,l1,l2,F,ba,n,kd,Z,cs,by rw[<-o];rfl,c,a9,by rw[ac];exact hk,bi,B.d F.n ho,d1,dj,λv' ct b2 W a6=>?_⟩;refine q _ fm j b2 (k9.trans ((KP.same k).trans (W.mono λb z=>z.2.1))) ?_ a6 (B.kp (λu=>W.st _ _ ar.2) W.tk) (by lia) (λ_ _=>rfl) (by rw[<-o];exact b4) o ac ?_ b6
    ·obtain⟨st,g,h⟩:=au.same k;exact⟨st,W.st _ _ (Ne.symm (lU hs hS.ens.at_ λ_ z=>by cases z)) g,h⟩
    ·show aDj (.spans n Z (aDh ba Z cs))=_;rw[<-a7,a9];rfl
   ·have c:=as.same k;have B:=af.same k;have ck:=λJ (k':KP K (λb=>b≠a/\b≠d/\b≠X) H J) h2 h3 h4=>q F fm j J k' h2 h3 h4 (by lia) (λ_ _=>rfl) (by rw[<-o];exact b4) o ac a7 b6;refine⟨_,rfl,_,_,rfl,rfl,_,rfl,?_⟩;by_cases hm:m > 1
    ·rw[m9 hm];refine fG ?_;obtain⟨a3,a4⟩:=c.at_;cases bg with|@cons u0 _ ur _ hu0 hur=>
     obtain⟨p0,rfl,bz⟩:=hu0;refine⟨_,rfl,x,a3,_,rfl,a4,rfl,_,rfl,_,rfl,cc,_,_,.ref p0,rfl,rfl,k.bB aa,dI (j:=0) rfl,p0,_,1,_,rfl,rfl,k.bB bz,at1 _ _ _,?_⟩;have hf:=bs.first;have bk:(Z+1) % m≠Z:=λz=>by
      by_cases hl:Z+1<m
      ·rw[Int.emod_eq_of_lt (by lia) hl] at z;lia
      ·have:Z+1=m:=by lia
       rw[this,Int.emod_self] at z;lia
     refine⟨_,_,rfl,rfl,_,rfl,_,_,rfl,rfl,by show 0<m;lia,?_⟩;refine⟨x,d,X,m,_,F,n,Z,cs,0,(Z+1) % m,fm,j,by rw[<-o];rfl,c,ah,a9,B,ho,by lia,bAE _,bEG _ (by lia),bDN _ (by lia),bk,λb2 W a6 ae=>?_⟩;refine q F _ (j+1) b2 (k9.trans ((KP.same k).trans (W.mono λb z=>z.2.2))) ?_ a6 ae (by lia) (λn hn=>by unfold fset;rw[o,if_neg hn]) (λmq z=>?_) o ac a7 b6
     ·obtain⟨st,g,h⟩:=au.same k;exact⟨st,W.st _ _ (Ne.symm ar.1) g,h⟩
     ·unfold fset at z;rw[o,if_pos rfl] at z;cases z;exact⟨rfl,⟨bEG _ (by lia),bDN _ (by lia)⟩,rfl⟩
    ·rw[v9 hm];exact cC (ck a8 (k9.trans (KP.same k)) (au.same k) c B)
inductive aOu (K:bFP)(Pt:Addr)(vs:List V)(H:Hp)(Q:VK)(E_:XK):Prop
 |mk (a:Addr) (ns:List Int) (_:vs=[.ref a]) (_:SqL K H a (ns.map V.int)) (_:ns.length<=63) (_:H Pt=some (.tab qC)) (_:∀H',H' Pt=some (.tab qC)->Q (.bl true) H')
def aQ2 (h:∀r∈rs,KdR ks r):srt (srt rs)=srt rs:=(aJz h (tD h).1.symm).symm
theorem aN8:∀es:List En,bY aM5 es es
 |[]=>.nil
 |e::es=>.cons ⟨rfl,rfl,rfl,rfl⟩ (aN8 es)
theorem aBi {α β:Type}{R:α->β->Prop}{o:α}{k2:List α}:∀{k1:List α} {es:List β},bY R (k1++o::k2) es->∃l1 e l2,es=l1++e::l2/\bY R k1 l1/\R o e/\bY R k2 l2
 |[],_,h=>by
  cases h with
  |cons r t=>exact⟨[],_,_,rfl,.nil,r,t⟩
 |k::k1,_,h=>by
  cases h with
  |cons r t=>obtain⟨l1,e,l2,rfl,c,a,b⟩:=aBi t;exact⟨_::l1,e,l2,rfl,.cons r c,a,b⟩
def bBz {H0 H H':Hp}{a st:Addr}{xs:List V}(b:H0 st=none)(s:Same H0 H)(f:Fx st H H')(h:SqL K H0 a xs):SqL K H' a xs:=by
 rcases h with (h|⟨o,h⟩)|h
 ·exact .inl (.inl (f.same _ _ (aQ h b) (s _ _ h)))
 ·exact .inl (.inr ⟨o,f.same _ _ (aQ h b) (s _ _ h)⟩)
 ·exact .inr h
def aRz {es:List En}(h:(es.map (·.n)).Nodup){a b:En}(k:a∈es)(l:b∈es)(e:a.n=b.n):a=b:=by
 obtain⟨i,f⟩:=List.mem_iff_getElem?.mp k;obtain⟨j,c⟩:=List.mem_iff_getElem?.mp l;have d:(es.map (·.n))[i]?=some a.n:=by rw[t7,f];rfl
 have g:(es.map (·.n))[j]?=some a.n:=by rw[t7,c,e];rfl
 have:=(List.getElem?_inj (List.getElem?_eq_some_iff.mp d).1 h).mp (d.trans g.symm);subst this;rw[f] at c;exact bAM c
theorem aJ8:∀{kvs:List (Key × V)},(k,v)∈kvs->∃u,eV kvs k=some u
 |[],h=>by cases h
 |p::r,h=>by
  by_cases e:p.1=k
  ·exact⟨_,cU e⟩
  ·rw[cR e];rcases List.mem_cons.mp h with h|h
   ·exact absurd (by rw[<-h]) e
   ·exact aJ8 h
def aVj {kvs:List (Key × V)}{k:Key}{v:V}{c:Key × V}(h:c∈putK kvs k v):c=(k,v)\/(c∈kvs/\c.1≠k):=by
 unfold putK at h
 split at h
 ·obtain⟨p,b,rfl⟩:=List.mem_map.mp h;by_cases e:p.1=k
  ·left;subst e;simp
  ·right;rw[if_neg (by simpa using e)];exact⟨b,e⟩
 ·rename_i a;rcases List.mem_append.mp h with h|h
  ·exact .inr ⟨h,λz=>a (List.any_eq_true.mpr ⟨c,h,m9 z⟩)⟩
  ·exact .inl (List.mem_singleton.mp h)
theorem aPw {kvs:List (Key × V)}{k:Key}{v:V}(h:eV kvs k=some v):(k,v)∈kvs:=by
 induction kvs with
 |nil=>cases h
 |cons p r ih=>
  by_cases e:p.1=k
  ·rw[cU e] at h;cases h;rw[<-e];exact j7
  ·rw[cR e] at h;exact j5 _ (ih h)
def xM.live (h:xM K S H L m es):xM K (λb=>S b/\∃o,H b=some o) H L m es:=by
 obtain⟨y,f,z,j,r,v,n⟩:=h;refine⟨y,f,⟨z,_,j⟩,j,r,v,n.imp λ_ _ ⟨e,x,w,a,s,q,p,t,c,sq,l,k,u,d⟩=>⟨e,x,w,a,s,q,p,t,⟨⟨c.1,?_⟩,c.2⟩,⟨sq,_,k⟩,l,k,u,λi L e=>⟨⟨(d i L e).1,?_⟩,(d i L e).2⟩⟩⟩
 ·obtain⟨f,g,_⟩:=c.2;exact⟨_,g⟩
 ·obtain⟨f,g,_⟩:=(d i L e).2;exact⟨_,g⟩
def bCs (e0 e:En):Prop:=e.n=e0.n/\e.t.hd=e0.t.hd/\aDj e.t.pl=aDj e0.t.pl
def aT3 (K:bFP)(H:Hp)(Dm:Addr)(es:List En)(i:Nat):Prop:=∃kvs,H Dm=some (.dK kvs)/\kvs.length<=i/\∀kv∈kvs,∃e∈es,∃L,kv=((Sum.inr e.n:Key),.ref L)/\bU K H L (srt e.t.rows)
def bBr {f:Addr}{fd:FuncData}(F:Fun K "law" "law" aU5 f fd)(T:Txt w K mg){C Ct Pt:Addr}(hk:Ok P w K mg base 1 "_law_seed" ["_law_script"] (aOr K))(h8:Ok P w K mg base 2 "_law_names" ["_law_state","_law_many"] aTu)(aV:Ok P w K mg base 1 "_law_next" ["_law_state","_law_many"] lO)(hb:Ok P w K mg base 5 "_law_town" ["_law_state","_law_names_here","_law_most"] (aKf K))(lX:Ok P w K mg base 6 "_law_about" ["_law_town_here","_law_houses"] (aJ6 K Ct))(gr:Ok P w K mg base 6 "_law_spoil" ["_law_town_here"] (aKq K Ct))(hc:Ok P w K mg base 14 "_law_change" ["_law_state","_law_store","_law_tables","_law_name","_law_houses"] (aFq K C Pt))(aj:OkC P w K mg base C 11 "Store" ["self","houses","tables"] (aLc K C Pt))(l:OkM P w K mg base C 13 "town" ["self"] (aHo K C Ct Pt))(ao:OkM P w K mg base Ct 4 "whole" ["self","name"] (jF K Ct))(ak:OkM P w K mg base Ct 2 "tables" ["self"] (xJ K Ct)):lY P w K mg base CX0 15 f fd ["_law_script"] (aOu K Pt):=by
 refine Fun.okV F iT (λvs H Q E h=>?_) (λgz A ei s H vs Q E M h=>?_)
 ·obtain⟨a,ns,rfl,_⟩:=h;rfl
 obtain⟨a,ns,rfl,ha,hn,ed,q⟩:=h;have hU:=M.units;have hu:=lB M;refine⟨_,(aC (bA (i:=1) iT.nd rfl (by trivial) (dX (aB (aN (hk.mono (by decide)) M (by rfl) (aB (vv 0) aA)) aA))) (aC (aCy (aN (hb.mono (by decide)) M (by rfl) (aB (vv 1) (aB (aN (h8.mono (by decide)) M (by rfl) (aB (vv 1) (aB aF aA))) (aB aF aA)))) (xG rfl (cD (aX (i:=2) iT.nd rfl (by trivial)) (cD (aX (i:=3) iT.nd rfl (by trivial)) jK)))) (aC (bA (i:=4) iT.nd rfl (by trivial) (aGc (aj.mono (by decide)) M (by rfl) (aB (vv 2) (aB (vv 3) aA)))) (aC (bA (i:=5) iT.nd rfl (by trivial) (dY (l.mono (by decide)) M (vv 4))) (aC (bA (i:=6) iT.nd rfl (by trivial) (aN (lX.mono (by decide)) M (by rfl) (aB (vv 5) (aB (vv 2) aA)))) (aC (cA (VW.pt (iR (bQ (aSn hU) (aN (lX.mono (by decide)) M (by rfl) (aB (vv 5) (aB (vv 2) aA))) (vv 6) (bL _)) (gK (bQ (aYf hU) (vv 6) (dX aA) (bL _))))) (aH (aO lK)) bF) (aC (fQ PassesOwn.never rfl (jB (vv 6)) (aX (i:=7) iT.nd rfl (by trivial)) (aH (cA (bQ (aEy hU) (aU aY (vv 7) aF (λ_ _=>rfl)) (aP uH (by rfl) T.kZ iJ (aB (aU aY (iV hu (vv 3) (aU aY (vv 7) aF (λ_ _=>rfl)) (λ_ _=>rfl)) aF (λ_ _=>rfl)) aA)) (bL _)) (aH (aO lK)) bF))) (aC (bA (i:=8) iT.nd rfl (by trivial) (aGc (aj.mono (by decide)) M (by rfl) (aB (vv 2) (aB (vv 3) aA)))) (aC (bA (i:=9) iT.nd rfl (by trivial) aCh) (aC (fQ PassesOwn.never rfl (jB (bO aC7 (dX (aB aF aA)) (eO aBm (vv 0) gZ (fJ aF)))) (aX (i:=10) iT.nd rfl (by trivial)) (aC (bA (i:=1) iT.nd rfl (by trivial) (dX (aB (bO eE (aU fY (vv 1) aF (λ_ _=>rfl)) (bO oO (vv 10) (bO aHy aF aF))) aA))) (aC (bA (i:=11) iT.nd rfl (by trivial) (aU fY (aP (qF rfl) (by rfl) T.kZ iJ (aB (vv 3) aA)) (aN (aV.mono (by decide)) M (by rfl) (aB (vv 1) (aB (aP aQ7 (by rfl) T.fK dF (aB (vv 3) aA)) aA))) (λ_ _=>rfl))) (aC (cI (aN (hc.mono (by decide)) M (by rfl) (aB (vv 1) (aB (vv 4) (aB (vv 3) (aB (vv 11) (aB (vv 2) aA))))))) (aC (nG hu (vv 9) (vv 11) (cG (ao.mono (by decide)) M (dY (l.mono (by decide)) M (vv 4)) (aB (vv 11) aA))) (aC (cI (aN (gr.mono (by decide)) M (by rfl) (aB (vv 5) aA))) (aH (cA (bQ (aSn hU) (aN (lX.mono (by decide)) M (by rfl) (aB (vv 5) (aB (vv 2) aA))) (vv 6) (bL _)) (aH (aO lK)) bF)))))))) (aC (aO7 (fQ PassesOwn.never rfl (bAl (vv 9)) (aX (i:=11) iT.nd rfl (by trivial)) (aH (cA (bQ (aEy hU) (iV hu (dY (ak.mono (by decide)) M (dY (l.mono (by decide)) M (vv 4))) (vv 11) (λ_ _=>rfl)) (iV hu (vv 9) (vv 11) (λ_ _=>rfl)) (bL _)) (aH (aO lK)) bF)))) (aH (aO (dB (bAd hU) (aN (lX.mono (by decide)) M (by rfl) (aB (dY (l.mono (by decide)) M (vv 8)) (aB (vv 2) aA))) (vv 6) (bL _))))))))))))))),?_⟩;refine⟨_,rfl,a,ns,rfl,ha,hn,λc0 H1 s1 _ _=>⟨by show 1<=sizeLine;decide,λst H2 eq s2 g2=>?_⟩⟩;have cr:gC H2 st:=⟨c0,g2,trivial⟩;have br:=s2 _ _ (s1 _ _ ed);have g1:Pt≠st:=λz=>by rw[z,g2] at br;cases br
 refine⟨_,rfl,_,rfl,st,rfl,cr,λN H3 f9 f3 fp gN ev=>⟨st,N,f9,rfl,f3.st,gN,cr.ne fp,ev,λt dt m D H4 f4 ht gp m1 m6 hE ay l2 l3=>?_⟩⟩;have bj:=f3.trans f4;have aa:=bj.same _ _ g1 br;refine⟨t,_,rfl,ht,rfl,_,_,rfl,_,_,rfl,rfl,?_⟩;refine⟨_,rfl,_,rfl,λx dx hx fv gq=>⟨H4,x,dx,dt,m,D,rfl,aK,hx,dR hx (bC fv _),m1,m6,hE,(λe R=>(ay e R).1),aa,λd dm H5 es hd fe s5 hS ab a5=>⟨rfl,?_⟩⟩⟩;obtain⟨ep,fs⟩:=hS.at_;have fw:=s5 _ _ aa;refine⟨_,rfl,x,ep,_,rfl,fs,rfl,x,d,dm,m,es,rfl,hS,m1,m6,fw,λy dy H6 et hy dg s6 hT a6=>?_⟩;refine⟨_,rfl,_,rfl,y,dy,m,et,rfl,hT,m1,m6,λLd H7 s7 hD=>?_⟩;have dl:bY aM5 et et:=aN8 et;have gg:et.length=D.length:=a6.len.symm.trans a5.len.symm;dsimp only[cM,List.set];refine aH4 (S:=aMv _ _ _) (fun σ H'=>Same H7 H'/\σ=[some (.ref a),some (.ref st),some (.int m),some (.ref dt),some (.ref x),some (.ref y),some (.ref Ld),none,none,none,none,none]) (λNX hN=>?_) fun σ' H8 hJ=>?_
 ·refine⟨_,rfl,_,rfl,y,dy,m,et,rfl,hT.same s7,m1,m6,λL8 H8 s8 hA=>?_⟩;obtain⟨us,ws,gu,gw,al⟩:=aUp (hT.same (s7.trans s8)) dl hA (hD.kp (KP.same s8));refine⟨_,rfl,L8,Ld,us,ws,rfl,rfl,SqL.of gu,SqL.of gw,al,_,rfl,cC ?_⟩;obtain⟨ss,ex,_,gd,pm,_,aD⟩:=id (hD.kp (KP.same s8));have ln:=pm.length_eq;rw[j4] at ln;have lD:=aD.len;cases ex with
  |nil=>exfalso;have:=lD.trans ln;rw[bCK] at this;lia
  |cons u ur=>refine⟨_,rfl,by show 0<=sizeLine;decide,λL9 H9 _ s9 g9=>⟨Ld,L9,u,ur,rfl,rfl,SqL.of (s9 _ _ gd),SqL.of g9,_,rfl,cC ?_⟩⟩;exact hN _ _ ⟨s8.trans s9,rfl⟩
 obtain⟨s8,rfl⟩:=hJ;have c1:=s5.trans (s6.trans (s7.trans s8));have ct:=hE.same c1;have c8:∀e∈et,∃X∈D,e.n=X.n/\e.t.rows=srt (srt X.t.rows):=λe R=>by obtain⟨Y,h1,v1,L1,rfl,_⟩:=gF a6 R;obtain⟨X,h0,v0,L0,rfl,_⟩:=gF a5 h1;exact⟨X,h0,rfl,rfl⟩
 obtain⟨ss,us,_,gd,pm,up,aD⟩:=id (hD.kp (KP.same s8));refine⟨_,rfl,Ld,rfl,⟨_,SqL.of gd⟩,rC (xs:=us) (λi σ H'=>Same H8 H'/\∃l7,σ=[some (.ref a),some (.ref st),some (.int m),some (.ref dt),some (.ref x),some (.ref y),some (.ref Ld),l7,none,none,none,none]) ⟨Same.refl _,none,rfl⟩ (λi σ H' _ p=>SqL.of (p.1 _ _ gd)) (λi u σ H9 eu p=>?_) fun σ H9 p=>?_⟩
 ·obtain⟨s9,l7,rfl⟩:=p;obtain⟨n,_,e,R,rfl,aT,Lw,qq,rfl,cn,⟨_,am⟩,_⟩:=bM aD eu;obtain⟨X,ac,en,er⟩:=c8 e R;have b5:=(ay X ac).1;have gl:=b5.few;obtain⟨a0,fr,fb,_,_,f0⟩:=(ct.same s9).tb X ac;obtain⟨u0,g0,d5⟩:=id f0;have hh:=d5.len;have gv:eV (enK D) (Sum.inr e.n)=some X.v:=by rw[en];exact vD hE.nd ac
  have c4:∀r∈X.t.rows,KdR (knds X.t.hd) r:=λr M=>vW (b5.rows r M);rw[er,aQ2 c4] at am;refine⟨_,rfl,aT,_,3,_,rfl,rfl,s9.bB cn,dI (j:=3) rfl,?_⟩;refine⟨_,rfl,_,rfl,aT,_,0,_,rfl,rfl,s9.bB cn,at0 _ _,dt,X.v,rfl,.inl ⟨_,Sum.inr e.n,.inl (ct.same s9).at_,rfl,gv.symm⟩,a0,_,2,_,fr,rfl,fb,at2 _ _ _ _,X.L,u0,X.t.rows,knds X.t.hd,rfl,SqL.of g0,fV d5,by lia,aAp b5.hd.1,c4,λLb co fq hf G ft fc=>?_⟩;obtain⟨uw,gw,g3⟩:=am.same (s9.trans G);refine⟨Lw,Lb,uw,fq,srt X.t.rows,rfl,rfl,SqL.of gw,SqL.of ft,fV g3,aOs (λ_ _ z=>z.same G) fc,λr M=>b5.flat r (oZ M),_,rfl,cC ?_⟩;exact⟨s9.trans G,_,rfl⟩
 obtain⟨s9,l7,rfl⟩:=p;have a8:=c1.trans s9;refine⟨_,rfl,_,rfl,λxo f7 az cv gi=>⟨H9,xo,f7,dt,m,D,rfl,aK,az,dR az (bC cv _),m1,m6,hE.same a8,(λe R=>(ay e R).1),a8 _ _ aa,λd2 eh co eo cj go G ba _ bx=>⟨rfl,λI h9 bs b6 df=>?_⟩⟩⟩;refine⟨by show 1<=sizeLine;decide,λdu ew gm ag g7=>?_⟩;have cc:=a8.trans (G.trans (b6.trans ag));have bf:SqL K ew a (ns.map V.int):=cc.seq (bBz eq s2 bj (s1.seq ha));refine⟨_,rfl,_,rfl,a,ns.map V.int,rfl,bf,λfa gt gh af ch=>?_⟩;rw[show pH (ns.map V.int) none (some 12)=(ns.map V.int).take 12 from pF _ 12] at ch;have gb:((ns.map V.int).take 12).length<=12:=by rw[bAH];lia
 refine⟨du,fa,_,_,rfl,rfl,af _ _ g7,ch,small (by show 1+_<=1000;lia),λW HF hW sF gW=>?_⟩;obtain⟨xs,bb⟩:∃xs,xs=(ns.map V.int).take 12:=⟨_,rfl⟩;rw[<-bb] at gb;have gW:HF W=some (.lst (.int 0::xs)):=by rw[bb];exact gW
 have ge:∀y∈V.int 0::xs,∃c,y=.int c:=λy hy=>by
  rw[bb] at hy;rcases List.mem_cons.mp hy with hy|hy
  ·exact⟨0,hy⟩
  ·obtain⟨c,_,rfl⟩:=List.mem_map.mp (bDW hy);exact⟨c,rfl⟩
 clear bb bf;have b9:=b6.trans (ag.trans (af.trans sF));have dc:=G.trans b9;have bi:=a8.trans dc;have g4:=s9.trans dc;have c9:=s7.trans (s8.trans g4);have c6:=s6.trans c9;obtain⟨O,ar⟩:∃O:Addr->Prop,O=λb=>(∃o,HF b=some o)/\b≠d/\b≠dm/\b≠I:=⟨_,rfl⟩;have Z:∀{b o},co b=some o->b≠d->b≠dm->O b:=λ{b o} h n1 n2=>by rw[ar];exact⟨⟨_,b9 _ _ h⟩,n1,n2,aQ h bs⟩
 have gn:∃o,H5 dm=some o:=⟨_,ab⟩;have aq:=hS.ens.at_;have n4:∀{b o},H4 b=some o->b≠d/\b≠dm:=λh=>⟨aQ h hd,aQ h fe⟩;have n5:∀{b},H5 b=none->b≠d/\b≠dm:=λh=>⟨(aQ aq h).symm,(aQ ab h).symm⟩;have c2:O dt:=Z (G _ _ (a8 _ _ hE.at_)) (n4 hE.at_).1 (n4 hE.at_).2;have dh:∀e∈D,O e.L:=λe R=>by obtain⟨_,_,_,_,_,us,h3,_⟩:=hE.tb e R;exact Z (G _ _ (a8 _ _ h3)) (n4 h3).1 (n4 h3).2
 have ef:=hT.same c9;have bk:=s7.trans (s8.trans (s9.trans G));have sy:O y:=by obtain⟨⟨_,g⟩,_,_⟩:=id (hT.same bk);exact Z g (n5 hy).1 (n5 hy).2
 have dw:O dy:=Z (hT.same bk).2.1.at_ (n5 dg).1 (n5 dg).2;have e3:∀e∈et,O e.L:=λe R=>by obtain⟨_,_,_,_,_,us,h3,_⟩:=(hT.same bk).2.1.tb e R;obtain⟨Y,_,v1,L1,rfl,an⟩:=gF a6 R;exact Z h3 (n5 an).1 (n5 an).2
 have n9:∀{b},H9 b=none->b≠d/\b≠dm:=λh=>⟨(aQ ((s6.trans (s7.trans (s8.trans s9))) _ _ aq) h).symm,(aQ ((s6.trans (s7.trans (s8.trans s9))) _ _ ab) h).symm⟩;have em:=ba.same b9;have ez:O xo:=by obtain⟨_,g⟩:=ba.at_;exact Z g (n9 az).1 (n9 az).2
 have e7:O d2:=Z ba.ens.at_ (n9 cj).1 (n9 cj).2;have g6:∀e∈eo,O e.L:=λe R=>by obtain⟨_,_,_,_,_,us,h3,_⟩:=ba.ens.tb e R;obtain⟨Y,_,v1,L1,rfl,an⟩:=gF bx R;exact Z h3 (n9 an).1 (n9 an).2
 have cl:xM K O HF Ld m et:=((hD.kp (KP.same (s8.trans (s9.trans G)))).live.mono λb z=>Z z.2.choose_spec (aQ (s6 _ _ aq) z.1).symm (aQ (s6 _ _ ab) z.1).symm).kp (KP.same b9);have sW:O W:=by rw[ar];exact⟨⟨_,gW⟩,(aQ ((G.trans (b6.trans (ag.trans af))) _ _ ((s6.trans (s7.trans (s8.trans s9))) _ _ aq)) hW).symm,(aQ ((G.trans (b6.trans (ag.trans af))) _ _ ((s6.trans (s7.trans (s8.trans s9))) _ _ ab)) hW).symm,(aQ ((ag.trans af) _ _ df) hW).symm⟩
 have sP:O Pt:=Z (G _ _ (a8 _ _ aa)) (n4 aa).1 (n4 aa).2;have bc:=bi _ _ aa;have cz:=hE.same bi;have fh:=hS.same c6;have fn:gC HF st:=bj.st.same bi;have fg:Mvs K HF dm (λ_=>none) 0:=⟨[],c6 _ _ ab,d8 _,λn=>⟨.non,rfl,rfl⟩⟩;have dv:aT3 K HF I es 0:=⟨[],(ag.trans (af.trans sF)) _ _ df,d8 _,λkv h=>by cases h⟩;have ca:bY bCs D es:=a5.imp λX e ⟨v,L,h,_⟩=>by rw[h];exact⟨rfl,rfl,rfl⟩
 have bd:I≠d/\I≠dm:=⟨(aQ ((G) _ _ ((s6.trans (s7.trans (s8.trans s9))) _ _ aq)) bs).symm,(aQ ((G) _ _ ((s6.trans (s7.trans (s8.trans s9))) _ _ ab)) bs).symm⟩;have el:∀e∈es,e.t.rows.length<=5+0:=λe R=>by obtain⟨X,h0,v,L,rfl,_⟩:=gF a5 R;show (srt X.t.rows).length<=5;rw[nH];exact (ay X h0).2.1
 refine⟨W,rfl,⟨_,SqL.of gW⟩,rC (xs:=V.int 0::xs) (λi σ H'=>∃st es f j ax ap,KP K O HF H'/\gC H' st/\bJ K H' C x m d dm es/\Mvs K H' dm f j/\j<=2 * i/\(∀e∈es,aY7 m (f e.n))/\bY bCs D es/\(∀e∈es,e.t.rows.length<=5+i)/\aT3 K H' I es i/\σ=[some (.ref a),some (.ref st),some (.int m),some (.ref dt),some (.ref x),some (.ref y),some (.ref Ld),l7,some (.ref xo),some (.ref I),ax,ap]) ⟨st,es,_,0,none,none,.same (Same.refl _),fn,fh,fg,d8 _,(λe _ mq z=>by cases z),ca,el,dv,rfl⟩ (λi σ H' _ p=>by obtain⟨_,_,_,_,_,_,k,_⟩:=p;exact SqL.of (k.st _ _ sW gW)) (λi y' σ HA ey p=>?_) fun σ HA p=>?_⟩
 ·obtain⟨bz,d1,fm,j,ax,ap,kp,hs,a7,d3,hj,bq,cs,lr,⟨J,gk,lk,aw⟩,rfl⟩:=p;obtain⟨c,rfl⟩:=ge y' (m8 ey);have hi:i<13:=by have:=(List.getElem?_eq_some_iff.mp ey).1;rw[t8] at this;lia
  obtain⟨sv,ea,_⟩:=hs;refine⟨_,rfl,bz,_,0,_,rfl,rfl,SqL.of ea,at0 _ _,_,rfl,_,_,rfl,rfl,⟨by decide,by decide,by decide⟩,_,_,rfl,rfl,(by show (0:Int)<10 ^ 18;decide),_,_,rfl,rfl,by show 1<=sizeLine;decide,λa3 HB bh sB gB=>?_⟩;have cg:gC HB a3:=⟨_,gB,trivial⟩;have cq:¬ O a3:=λz=>by have z':=z;rw[ar] at z';obtain⟨⟨o,ho⟩,_⟩:=z';have:=kp.st _ _ z ho;rw[bh] at this;cases this
  have U:∀b,O b->b≠a3/\b≠d/\b≠dm/\b≠I:=λb z=>⟨λe=>cq (e ▸ z),by rw[ar] at z;exact z.2⟩;dsimp only[cM,List.set];have cf:gH K HB dt D:=(cz.kp kp c2 dh).same sB;have gj:(enK D).length=D.length:=gA;refine⟨_,rfl,dt,enK D,D.map (·.n),rfl,cf.at_,(by unfold enK;rw[bBJ,bBJ];rfl),hE.nd,by rw[gA];lia,λS5 HC cb fi sC ce h6 g5=>?_⟩;have a9:=cg.same sC;have fo:=ce.length_eq;rw[j4] at fo;refine⟨_,rfl,_,rfl,dt,enK D,rfl,(cf.same sC).at_,a3,_,rfl,a9,⟨by lia,by lia⟩,λz HD fD z0 z1=>?_⟩;obtain⟨zi,rfl⟩:∃zi:Nat,z=zi:=⟨z.toNat,by lia⟩;have hz:zi<cb.length:=by lia
  refine⟨S5,_,_,.str cb[zi],rfl,rfl,SqL.of (fD.same _ _ (cg.ne fi) g5),dI (by rw[t7,b8 hz];rfl),?_⟩;obtain⟨X,ac,f6⟩:=List.mem_map.mp (ce.mem_iff.mp (bAP hz));rw[<-f6];obtain⟨k1,k2,ek⟩:=List.append_of_mem ac;have be:=cs;rw[ek] at be;obtain⟨l1,e,a4,rfl,a1,re,a2⟩:=aBi be;rw[<-re.1];have R:e∈l1++e::a4:=z9 _ j7;have au:=sB.trans sC;have kD:KP K O HF HD:=(kp.trans (KP.same au)).trans (.fx fD a9 cq);have cw:=(a7.same au).fx fD a9;have bg:=(d3.same au).fx fD a9;have gs:=lr e R;refine⟨_,rfl,_,rfl,_,rfl,_,rfl,_,rfl,a3,x,dt,d,dm,m,D,l1,a4,X,e,fm,j,rfl,fD.st,cw,cz.kp kD c2 dh,ac,re.1.symm,re.2.1.symm,re.2.2.symm,bg,bq e R,by lia,by lia,⟨m1,m6⟩,kD.st _ _ sP bc,λe' f' j' HE kE dz b3 dr h7 f2 dd as ds f1 hg=>?_⟩;have bt:e'∈l1++e'::a4:=z9 _ j7;have cm:KP K O HF HE:=kD.trans (kE.mono λb z=>⟨(U b z).1,(U b z).2.1,(U b z).2.2.1⟩);have bm:I≠a3:=(aQ gk bh);have gf:=fD.same _ _ bm (au _ _ gk);have ff:=kE.st _ _ ⟨bm,bd⟩ gf;have e5:∀kv∈J,∃Y∈l1++e::a4,∃L,kv=((Sum.inr Y.n:Key),.ref L)/\bU K HE L (srt Y.t.rows):=λkv hm=>by obtain⟨Y,h1,L,h2,h3⟩:=aw kv hm;have hC:=h3.same au;have c3:=hC.kp (.fx (S:=λb=>b≠a3) fD a9 λz=>z rfl) (hC.ne a9);obtain⟨b2,b0,_⟩:=id c3;exact⟨Y,h1,L,h2,c3.kp kE ⟨hC.ne a9,(λz=>by rw[z,cw.ens.at_] at b0;cases b0),λz=>by obtain⟨_,g,_⟩:=id bg;rw[z,g] at b0;cases b0⟩⟩
  obtain⟨e8,eb⟩:=b3.at_;refine⟨_,rfl,x,e8,_,rfl,eb,rfl,x,d,dm,m,_,rfl,b3,m1,m6,cm.st _ _ sP bc,λyG dG HG av _ _ sG ah aG=>?_⟩;obtain⟨i1,bu⟩:=List.mem_iff_getElem?.mp bt;obtain⟨_,b4,vG,LG,rfl,_⟩:=bM aG bu;obtain⟨⟨bl,bo⟩,_,_⟩:=id ah;refine⟨yG,bl,_,rfl,bo,rfl,_,rfl,yG,dG,m,av,aAx e' vG LG,by rw[<-as];rfl,ah,m8 b4,λLw HI gy sI am=>?_⟩;have ae:=sG.trans sI;have b1:=ae _ _ ff;refine⟨_,rfl,_,rfl,I,_,rfl,zU.k (k:=Sum.inr e.n) b1 (fW (by lia)),?_⟩;have kJ:KP K (λb=>b≠I) HI (_root_.L2.upd HI I (.dK (putK J (Sum.inr e.n) (.ref Lw)))):=.aT9 (cW.dK b1) λz=>z rfl;have gJ:_root_.L2.upd HI I (.dK (putK J (Sum.inr e.n) (.ref Lw))) I=some (.dK (putK J (Sum.inr e.n) (.ref Lw))):=aK;generalize _root_.L2.upd HI I (.dK (putK J (Sum.inr e.n) (.ref Lw)))=HJ at kJ gJ ⊢;have dq:KP K O HF HJ:=(cm.trans (KP.same ae)).trans (kJ.mono λb z=>(U b z).2.2.2);have da:=ef.kp dq sy dw e3;refine⟨_,rfl,y,dy,m,et,rfl,da,m1,λHK sK=>?_⟩;have e9:=dq.trans (KP.same (K:=K) (S:=O) sK);have dk:=da.same sK;refine⟨_,rfl,_,rfl,y,dy,m,et,rfl,dk,m1,m6,λLL HL sL hA=>?_⟩;have de:=e9.trans (KP.same (K:=K) (S:=O) sL);obtain⟨b2,bn,gu,gw,al⟩:=aUp (dk.same sL) dl hA (cl.kp de);refine⟨_,rfl,LL,Ld,b2,bn,rfl,rfl,SqL.of gu,SqL.of gw,al,_,rfl,cC ?_⟩;have ai:=sK.trans sL;have d4:∀y∈l1++e'::a4,y=e'\/(y∈l1++e::a4/\y.n≠e.n):=λy hy=>by
   by_cases z:y.n=e.n
   ·exact .inl (aRz b3.ens.nd hy bt (z.trans as.symm))
   ·rcases List.mem_append.mp hy with h|h
    ·exact .inr ⟨bBL _ h,z⟩
    ·rcases List.mem_cons.mp h with h|h
     ·exact .inl h
     ·exact .inr ⟨z9 _ (j5 _ h),z⟩
  have db:∀y∈l1++e::a4,y.n≠e.n->y∈l1++e'::a4:=λy hy z=>by
   rcases List.mem_append.mp hy with h|h
   ·exact bBL _ h
   ·rcases List.mem_cons.mp h with h|h
    ·exact absurd (by rw[h]) z
    ·exact z9 _ (j5 _ h)
  have bv:=b3.same ae;have cd:=dr.same ae;have ad:∀{L rs},bU K HI L rs->L≠I:=λ⟨_,g,_⟩ z=>by rw[z,b1] at g;cases g
  refine⟨a3,_,f',j',_,_,de,?_,(bv.kp kJ (λz=>?_) bd.1.symm λY h1=>?_).same ai,(cd.kp (λu=>kJ.st _ _ bd.2.symm) kJ.tk).same ai,by lia,λY h1=>?_,?_,λY h1=>?_,⟨_,ai _ _ gJ,bAK (aOl _ _ _) (by lia),λkv hm=>?_⟩,rfl⟩
  ·obtain⟨gc,g,h⟩:=dz;exact⟨gc,ai _ _ (kJ.st _ _ bm.symm (ae _ _ g)),h⟩
  ·obtain⟨_,g⟩:=bv.at_;rw[z,b1] at g;cases g
  ·obtain⟨_,_,_,_,_,h3⟩:=bv.ens.tb Y h1;exact ad h3
  ·rcases d4 Y h1 with rfl|⟨h2,h3⟩
   ·rw[as];exact dd
   ·rw[f2 _ h3];exact bq Y h2
  ·rw[ek];exact bY.app a1 (.cons ⟨as.trans re.1,ds.trans re.2.1,f1.trans re.2.2⟩ a2)
  ·rcases d4 Y h1 with rfl|⟨h2,h3⟩
   ·lia
   ·have:=lr Y h2;lia
  ·rcases aVj hm with rfl|⟨h1,h2⟩
   ·exact⟨e',bt,Lw,by rw[as],(am.kp kJ (ad am)).same ai⟩
   ·obtain⟨Y,h3,L,rfl,h4⟩:=e5 kv h1;have h5:=h4.same ae;exact⟨Y,db Y h3 λz=>h2 (by rw[z]),L,rfl,(h5.kp kJ (ad h5)).same ai⟩
 ·obtain⟨bz,d1,fm,j,ax,ap,kp,hs,a7,d3,hj,bq,cs,lr,⟨J,gk,lk,aw⟩,rfl⟩:=p;refine⟨I,J,gk,λnf=>⟨_,rfl,I,_,rfl,gk,(λkv h=>by obtain⟨e,_,L,rfl,_⟩:=aw kv h;exact⟨_,rfl⟩),nf,λo=>?_⟩⟩;have U:∀b,O b->b≠I:=λb z=>by rw[ar] at z;exact z.2.2.2
  have ad:∀{L rs},bU K HA L rs->L≠I:=λ⟨_,g,_⟩ z=>by rw[z,gk] at g;cases g
  have kB:KP K (λb=>b≠I) HA (_root_.L2.upd HA I (.frz o (.dK J))):=.aT9 (cW.dK gk) λz=>z rfl;have gB:_root_.L2.upd HA I (.frz o (.dK J)) I=some (.frz o (.dK J)):=aK;generalize _root_.L2.upd HA I (.frz o (.dK J))=B at kB gB ⊢;have ec:bJ K B C x m d dm d1:=a7.kp kB (λz=>by obtain⟨_,g⟩:=a7.at_;rw[z,gk] at g;cases g) bd.1.symm λY h1=>by obtain⟨_,_,_,_,_,h3⟩:=a7.ens.tb Y h1;exact ad h3
  have di:KP K O HF B:=kp.trans (kB.mono U);refine aV2 (λi σ H'=>Same B H'/\∃ap,σ=[some (.ref a),some (.ref bz),some (.int m),some (.ref dt),some (.ref x),some (.ref y),some (.ref Ld),l7,some (.ref xo),some (.ref I),ax,ap]) ⟨Same.refl _,_,rfl⟩ (λi σ H' _ p=>p.1 _ _ gB) (λi kv σ HC ek p=>?_) fun σ HC p=>?_
  ·obtain⟨sC,d6,rfl⟩:=p;have cy:=m8 ek;obtain⟨e,R,L,rfl,_⟩:=aw kv cy;have cp:=ec.same sC;obtain⟨ej,f8⟩:=cp.at_;refine⟨_,rfl,x,ej,_,rfl,f8,rfl,x,d,dm,m,_,rfl,cp,m1,m6,sC _ _ (di.st _ _ sP bc),λyG dG HG av _ _ sG ah aG=>?_⟩;obtain⟨⟨bl,bo⟩,_,_⟩:=id ah;refine⟨yG,bl,_,rfl,bo,rfl,yG,dG,m,av,rfl,ah,λpT HT Ls gx sT gT aT _=>?_⟩;obtain⟨i1,bu⟩:=List.mem_iff_getElem?.mp R;obtain⟨_,b4,vG,LG,rfl,_⟩:=bM aG bu;obtain⟨LT,e4,_,g8⟩:=bM aT b4;have nd:(((av.zip Ls).map λe=>((Sum.inr e.1.n:Key),V.ref e.2)).map (·.1)).Nodup:=by rw[aIv aT];exact aCm ah.2.1.nd
   have fj:((Sum.inr e.n:Key),V.ref LT)∈(av.zip Ls).map λe=>((Sum.inr e.1.n:Key),V.ref e.2):=List.mem_map.mpr ⟨(aAx e vG LG,LT),m8 (List.getElem?_zip_eq_some.mpr ⟨b4,e4⟩),rfl⟩;refine⟨_,rfl,pT,.ref LT,rfl,.inl ⟨_,Sum.inr e.n,.inl gT,rfl,(uX nd fj).symm⟩,?_⟩;obtain⟨v',c5⟩:=aJ8 cy;obtain⟨e2,dn,cx,dp,ci⟩:=aw _ (aPw c5);have fk:e2.n=e.n:=(Sum.inr.inj (congrArg Prod.fst dp)).symm;have eg:v'=.ref cx:=congrArg Prod.snd dp;have:=aRz a7.ens.nd dn R fk;subst this;have bp:=sC.trans (sG.trans sT);obtain⟨u2,f5,ee⟩:=(ci.kp kB (ad ci)).same bp;obtain⟨uT,fu,ga⟩:=id g8;refine⟨_,rfl,_,rfl,I,v',rfl,.inl ⟨_,Sum.inr e2.n,.inr ⟨o,bp _ _ gB⟩,rfl,c5.symm⟩,?_⟩;refine⟨LT,cx,uT,u2,srt e2.t.rows,rfl,eg,SqL.of fu,SqL.of f5,fV ga,fV ee,λr M=>(a7.ok e2 dn).flat r (oZ M),_,rfl,cC ?_⟩;exact⟨bp,_,rfl⟩
  ·obtain⟨sC,d6,rfl⟩:=p;refine⟨⟨o,sC _ _ gB⟩,?_⟩;have kD:KP K (λb=>b≠I) HC (_root_.L2.upd HC I (.dK J)):=.aT9 (cW.fz (sC _ _ gB)) λz=>z rfl;generalize _root_.L2.upd HC I (.dK J)=HD at kD ⊢;have bw:KP K O HF HD:=(di.trans (KP.same sC)).trans (kD.mono U);have hO:=em.kp bw ez e7 g6;obtain⟨cu,ck⟩:=hO.at_;have d0:=bw.st _ _ sP bc;refine⟨_,rfl,xo,cu,_,rfl,ck,rfl,xo,d2,eh,m,eo,rfl,hO,m1,m6,d0,λyZ dZ HZ eZ _ _ sZ dj aZ=>?_⟩;refine⟨_,rfl,yZ,dZ,m,eZ,rfl,dj,m1,m6,λLZ HY sY e6=>?_⟩;have fl:bY aM5 eZ et:=by
    refine uW (by have:=aZ.len;have:=bx.len;lia) λi Y e2 h1 h2=>?_;have li:i<D.length:=by have:=(List.getElem?_eq_some_iff.mp h2).1;lia
    have h0:=b8 li;obtain⟨_,x1,v1,L1,rfl,_⟩:=bM a5 h0;obtain⟨_,x2,v2,L2,rfl,_⟩:=bM a6 x1;obtain⟨_,x3,v3,L3,rfl,_⟩:=bM bx h0;obtain⟨_,x4,v4,L4,rfl,_⟩:=bM aZ x3;rw[x4] at h1;rw[x2] at h2;cases h1;cases h2;exact⟨rfl,rfl,rfl,rfl⟩
   have fy:=bw.trans (KP.same (K:=K) (S:=O) (sZ.trans sY));obtain⟨b2,bn,gu,gw,al⟩:=aUp (dj.same sY) fl e6 (cl.kp fy);refine⟨_,rfl,LZ,Ld,b2,bn,rfl,rfl,SqL.of gu,SqL.of gw,al,?_⟩;exact q _ ((sZ.trans sY) _ _ d0)
def bBa {fa Pt:Addr}(T:Txt w K mg)(CT:aTk K mg "are_cuts" Pt)(Q:mg "law"=some (.ref fa)) :
  ∃fd:FuncData,(∀(s:Shared) (u:Value),BindsTo s fd ⟨[u],[]⟩ [("_law_script",u)])/\∀base:Heap,K.In base->base.Ns mainGlobals mg->BM mg base->lY P w K mg base CX0 15 fa fd ["_law_script"] (aOu K Pt):=by
 obtain⟨f,fd,F,B,m⟩:=T.bDl;have e:fa=f:=by rw[m] at Q;injection Q with e;injection e with e;exact e.symm
 subst e;refine⟨fd,?_,λbase hK _ M=>?_⟩
 ·obtain⟨⟨oc,od,kV,a4,pm,an,a3,t,a0,rfl,lk,a5⟩,kp⟩:=F;exact λs u=>.of_eq rfl
 ·obtain⟨Tc,D,m0,m2,m3,m4,m5,m6,o,S⟩:=T.bA4;obtain⟨Sc,U,q0,q1,q2,q3,q4,q5,qs,q6,q7,q8,qt,q9,qb,j,N,k⟩:=T.aXb;have c:=D.cls;have b:=U.cls;have r:=aKh (P:=P) (base:=base) T;have Y:=aLu (P:=P) (base:=base) T;have H:=aMs T Y;have g4:=aJc T r Y;have g5:=aNf T r;have Z:=aGi (P:=P) (base:=base) T;have O:=uV T r;have i:=aH2 (P:=P) (base:=base) T;have R:=aBe T g4 g5;have x:=aMy (P:=P) (base:=base) T;have n:=aP6 (P:=P) (base:=base) T;have z:=aLe T CT hK M (zW T) (aPs T O) R;have pl:=aDx T Z (aAe T H i) x z;have d:=aNn T R;have tb:=aKj T (aJe T (aH7 T H Z) (aAv T) (aDl T) i) pl (aJj T d);have W:=yK T (aHx T r H tb);have a:=aJk T H;have ra:=aLz T O (aHz T (yU T i) (aX4 T r (aAy T)) n);have l:=aGd (P:=P) (base:=base) T;have I:=aDf T l (aD5 T l);have v:=aJf T I;have po:=yU T i;have L:=aNh T b q9 j k a;have t:=aUo T b q1 j a;have sr:=aHc T po n;have ab:=aJ9 (P:=P) (base:=base) T;have V:=aHa (P:=P) (base:=base) T;have X:=aG7 (P:=P) (base:=base) T;have g:=aPz (P:=P) (w:=w) (mg:=mg) (base:=base) T b q2 k;have G:=aNr (P:=P) (w:=w) (mg:=mg) (base:=base) T b q3 k;have A:=aV3 T b q7 j k sr ab;have q:=aRs (P:=P) (w:=w) (mg:=mg) (base:=base) T c m2 o;have C:=aNg (P:=P) (w:=w) (mg:=mg) (base:=base) T c m5 o;have p:=aI6 T c m3 o a;have h:=aRa T c m4 o a;have y:=aTm T c m6 o S a ra;have E:=aSe T b qb j N (OkM.make D (aT0 T c m0 o S W));have tn:=aHn T l (aG8 T l) (aAf T l I) v;have J:=aA3 T l v I E h p (aX7 T b q4 j a d V) (aT4 T b q5 j a d V) L (aRl T b q8 k t G A) (aNy T b qt j k t G A X) (aRp T b qs j t g (aDp T R x) n X) (aTd T b q6 N k O t g);exact bBr F T (aHp T) (aDa T l (aDo T)) l tn (aD0 T q p h y) (aDk T q h C y) J (OkM.make U (aQy T b q0 j N k W)) E h C
def aSh {Pt:Addr}{H:Hp}{a:Addr}{e:List Int}{E:XK}(d:e.length<=63)(f:tW [(Pt,qC)] H)(c:SqL K H a (e.map V.int)):aOu K Pt [.ref a] H (λv H'=>v=.bl true/\tW [(Pt,qC)] H') E:=
 ⟨a,e,rfl,c,d,f _ (List.mem_singleton.mpr rfl),λH' h=>⟨rfl,λp b=>by rcases List.mem_singleton.mp b with rfl;exact h⟩⟩
def bA0 {h:Heap}{Pt f c:Addr}{o:Obj}{g:FuncData}(X:K.In h)(G:h.Ns mainGlobals mg)(a:PySem.W.nsIn K mainGlobals "are_cuts"=some (some (.ref f)))(l:K.lookup f=some o)(d:o.data=.func g)(b:g.code=.ref c)(e:PySem.W.codeHdIn K c Pt=true):aTk K mg "are_cuts" Pt:=
 ⟨f,o,g,c,bE6 X G a,l,d,b,e⟩
def aX2 {Pt f c:Addr}{o:Obj}{fd:FuncData}(a:PySem.W.nsIn K mainGlobals "are_cuts"=some (some (.ref f)))(l:K.lookup f=some o)(e1:o.data=.func fd)(e2:fd.code=.ref c)(d:PySem.W.codeHdIn K c Pt=true)(n:K.lookup Pt=none) :
  ∀p∈[(Pt,qC)],(∃c,PySem.W.codeHdIn K c p.1=true)/\K.lookup p.1=none:=λp b=>by
 rcases List.mem_singleton.mp b with rfl;exact⟨⟨c,d⟩,n⟩
def aWu {Pt:Addr}{h:Heap}(x:∀P∈[Pt],h.get? P=some (PySem.W.tabObj #[])):∀p∈[(Pt,qC)],h.get? p.1=some { cls:=.none,data:=.fields #[] }:=λp a=>by rcases List.mem_singleton.mp a with rfl;exact x _ (List.mem_singleton.mpr rfl)
def aP5 {l:PySem.W.OpenLaw}{n k:Nat}{q:Program}{loose:List Str}{XP:(bFS)->Heap->Prop}{YP:World->Heap->Prop}{d:DefRec}{K:Params->bFP}{CX:CXT}{sp:bFP->Sp}{x:Str}
  (y:l.most=some n) (m:n<=sizeLine) (j:d.params.defaults=[]) (B:Room k callerA)
  (ts:List (Addr × Str)) (r:(ts.map (·.1)).Nodup)
  (A:∀(w:World) (h:Heap),YP w h->(K w.params).In h/\∀p∈ts,h.get? p.1=some { cls:=.none,data:=.fields #[] })
  (z:∀(w:World),∀p∈ts,(∃c,PySem.W.codeHdIn (K w.params) c p.1=true)/\(K w.params).lookup p.1=none)
  (F:∀(w:World) (mg:bFS) (fa:Addr) (h:Heap),(K w.params).In h->h.Ns mainGlobals mg->mg d.name=some (.ref fa) ->
   ∃fd:FuncData,(∀(s:Shared) (u:Value),BindsTo s fd ⟨[u],[]⟩ [(x,u)]) /\
    ∀base:Heap,(K w.params).In base->base.Ns mainGlobals mg->BM mg base->lY l.prog w (K w.params) mg base CX k fa fd [x] (sp (K w.params)))
  (b:∀(K:bFP) (H:Hp) (a:Addr) (ns:List Int),ns.length<=n->tW ts H->SqL K H a (ns.map V.int)->sp K [.ref a] H (λv H'=>v=.bl true/\tW ts H') λ_ _ _=>False)
  (i:∀(H:Hp) (s:Shared) (e:Value) (s':Shared),CX [] H s (λ_ _ _=>False) e s'->False) :
  PySem.W.WalkO q loose XP YP l.row.toRowW d [] (λf vs=>PySem.call f vs):=
 aS4 (K:=K) (CX:=λ_=>CX) (sp:=λw=>sp (K w.params)) y m j B ts r A z F (λw H a ns t g o=>b (K w.params) H a ns t g o) λ_ H s e s'=>i H s e s'
end
inductive FA (K:bFP)(n:Str)(s:Stmt)(f:Addr):Prop
 |mk {od an:Option Addr} {sl:Array (Option Value)} {kV dc pm cd ct:Value}:PySem.W.nsIn K mainGlobals n=some (some (.ref f))->K.lookup f=some ⟨.type "function",od,.func (PySem.W.fnOf n n (nC s) (fH s) (aJ s) .none kV dc pm an cd ct),sl⟩->PySem.W.codeIn K cd n=true->PySem.W.keepIn K (.ref f)=true->FA K n s f
section
variable {K:bFP}{h:Heap}{mg:bFS}{n:Str}{s:Stmt}{f:Addr}{ps:List Str}
def aYx (X:K.In h)(G:h.Ns mainGlobals mg)(a:FA K n s f):mg n=some (.ref f):=by obtain⟨a,_,_,_⟩:=a;exact bE6 X G a
def bCp (X:K.In h)(G:h.Ns mainGlobals mg)(a:FA K n s f)(b:∀(kV doc pm:Value) (an:Option Addr) (cdv ct:Value) (us:List Value),us.length=ps.length->bindArgs (PySem.W.fnOf n n (nC s) (fH s) (aJ s) .none kV doc pm an cdv ct) ⟨us,[]⟩=pure (ps.zip us)):Dn K mg n s ps:=by have m:=aYx X G a;obtain⟨_,l,c,k⟩:=a;exact⟨f,_,aFw l c k,(aFw l c k).binds b,m⟩
def bDk (X:K.In h)(G:h.Ns mainGlobals mg)(a:FA K n s f):∃f o,(∃u,mg n=some u/\RelV (.ref f) u)/\K.lookup f=some o/\o.cls=.type "function":=by have m:=aYx X G a;obtain⟨_,l,c,k⟩:=a;exact⟨f,_,⟨_,m,rfl⟩,l,rfl⟩
end
inductive CA (K:bFP)(x:Str)(C:Addr):Prop
 |mk:PySem.W.nsIn K mainGlobals x=some (some (.ref C))->PySem.W.plainGet K C Str.empty=true->PySem.W.hasDictIn K C=true->PySem.W.plainOver K C=true->PySem.W.findIn K (.ref C) "__setattr__"=some (some (.builtin "object.__setattr__"))->PySem.W.makesIn K C=true->PySem.W.keepIn K (.ref C)=true->CA K x C
def bCw {K:bFP}{h:Heap}{mg:bFS}{x:Str}{C:Addr}(X:K.In h)(G:h.Ns mainGlobals mg)(a:CA K x C):aSq K mg x C:=by obtain⟨a,b,g,c,e,d,f⟩:=a;exact⟨bE6 X G a,⟨b,g,c,e⟩,d,f⟩
inductive MA (K:bFP)(C:Addr)(m qual:Str)(s:Stmt)(f:Addr):Prop
 |mk {od an:Option Addr} {sl:Array (Option Value)} {kV dc pm cd ct:Value}:PySem.W.findIn K (.ref C) m=some (some (.ref f))->PySem.W.isFn K (.ref f)=true->K.lookup f=some ⟨.type "function",od,.func (PySem.W.fnOf m qual (nC s) (fH s) (aJ s) .none kV dc pm an cd ct),sl⟩->PySem.W.codeIn K cd qual=true->PySem.W.keepIn K (.ref f)=true->MA K C m qual s f
def bDg {K:bFP}{C:Addr}{m qual:Str}{s:Stmt}{f:Addr}{ps:List Str}(a:MA K C m qual s f)(b:∀(kV doc pm:Value) (an:Option Addr) (cdv ct:Value) (us:List Value),us.length=ps.length->bindArgs (PySem.W.fnOf m qual (nC s) (fH s) (aJ s) .none kV doc pm an cdv ct) ⟨us,[]⟩=pure (ps.zip us)):eQ K C m qual s ps:=by obtain⟨a,i,l,c,k⟩:=a;exact⟨f,_,⟨a,i,k⟩,aFw l c k,(aFw l c k).binds b⟩
theorem ln0 {P:List Value->Prop}(h:P []):∀us:List Value,us.length=0->P us
 |[],_=>h
theorem ln1 {P:List Value->Prop}(h:∀a0,P [a0]):∀us:List Value,us.length=1->P us
 |[a0],_=>h a0
theorem ln2 {P:List Value->Prop}(h:∀a0 a1,P [a0,a1]):∀us:List Value,us.length=2->P us
 |[a0,a1],_=>h a0 a1
theorem ln3 {P:List Value->Prop}(h:∀a0 a1 a2,P [a0,a1,a2]):∀us:List Value,us.length=3->P us
 |[a0,a1,a2],_=>h a0 a1 a2
theorem ln4 {P:List Value->Prop}(h:∀a0 a1 a2 a3,P [a0,a1,a2,a3]):∀us:List Value,us.length=4->P us
 |[a0,a1,a2,a3],_=>h a0 a1 a2 a3
theorem ln5 {P:List Value->Prop}(h:∀a0 a1 a2 a3 a4,P [a0,a1,a2,a3,a4]):∀us:List Value,us.length=5->P us
 |[a0,a1,a2,a3,a4],_=>h a0 a1 a2 a3 a4
theorem ln6 {P:List Value->Prop}(h:∀a0 a1 a2 a3 a4 a5,P [a0,a1,a2,a3,a4,a5]):∀us:List Value,us.length=6->P us
 |[a0,a1,a2,a3,a4,a5],_=>h a0 a1 a2 a3 a4 a5
def aYz {K:bFP}{h:Heap}{mg:bFS}{n:Str}{l:List V}{a:Addr}{o:Obj}{vs:Array Value}{m:Nat}(X:K.In h)(G:h.Ns mainGlobals mg)(q:PySem.W.nsIn K mainGlobals n=some (some (.ref a)))(r:K.lookup a=some o)(t:o.cls=.type "tuple")(y:o.dict=none)(u:o.data=.seq vs m)(v:Vals l vs.toList)(s:l.length<=1000):∃a,mg n=some (.ref a)/\∀H,SqT K H a l:=
 ⟨_,bE6 X G q,λH=>.inr ⟨_,_,_,r,t,y,u,by have e:=v.length;simp only[v7] at e;rw[<-e];exact small s,v⟩⟩
def aYy {K:bFP}{h:Heap}{mg:bFS}{n:Str}{v:V}{u:Value}(X:K.In h)(G:h.Ns mainGlobals mg)(q:PySem.W.nsIn K mainGlobals n=some (some u))(r:RelV v u):∃u,mg n=some u/\RelV v u:=⟨u,bE6 X G q,r⟩
def bDi {K:bFP}{h:Heap}{mg:bFS}{x:Str}{C:Addr}{R:Addr->Prop}(X:K.In h)(G:h.Ns mainGlobals mg)(a:CA K x C)(r:R C):∃C,aSq K mg x C/\R C:=⟨C,bCw X G a,r⟩
end My
open PySem PySem.W PyProof.Rows
namespace PySem.W.Fast
def tw13364898793770852572:=0
def tw7306358337546709446:=0
def tw14076391194743894107:=0
def tw8290267783020296249:=0
def tw18079955687244447840:=0
def tw11338115149423407716:=0
def tw8767634931508042507:=0
def tw6972988879455411254:=0
def tw2036316979388120167:=0
def tw3600039607063892623:=0
def tw2489574814139122194:=0
def tw4725559633760187635:=0
def tw10399029046611535314:=0
def tw10613242218727403630:=0
def tw10747857284701508255:=0
def tw4094068840912750902:=0
def tw6318442266385031247:=0
def tw4701434312711551726:=0
def tw1882829928184996310:=0
def tw14238470904577476082:=0
def tw6605637331225034075:=0
def tw15487715679337619602:=0
def tw9285055593029201713:=0
def tw5481779013597026360:=0
def tw15945983543120241748:=0
def tw8636567328733878053:=0
def tw2321603429857238532:=0
def tw9864230171974596082:=0
def tw13527359797446428307:=0
def tw16228585749214029478:=0
def tw6800869703951338566:=0
def tw17395191690750225855:=0
def tw15935490081307781620:=0
def tw10512860889819543360:=0
def tw15928256651438975007:=0
def tw4275211689533159427:=0
def tw9494815325493930808:=0
def tw2254164829912215763:=0
def tw13843982353046436132:=0
def tw12546701957259999301:=0
def tw6510772313927357745:=0
def tw11739474910386602386:=0
def tw8724000065229882125:=0
def tw12679903111270519833:=0
def tw16360517380072054682:=0
def tw5529088705046731397:=0
def tw3040252962331164089:=0
def tw5587963364807416809:=0
def tw13269674232665396249:=0
def tw11558790911697513910:=0
def tw13164870200184727042:=0
def tw15644418523189105605:=0
def tw15049558436724113841:=0
def tw18119980988725849381:=0
def tw3726708937250948276:=0
def tw17259802649688236251:=0
def tw4069646300193902853:=0
def tw4754228012970257858:=0
def tw3977111709551594930:=0
def tw16533317231846460305:=0
def tw7513983142680597926:=0
def tw849331114363109618:=0
def tw678587173551873861:=0
def tw6350909595641308158:=0
def tw10071599228488581753:=0
def tw8607384192249652125:=0
def tw5888688814120345647:=0
def tw5457859076812691710:=0
def tw2881876851373263249:=0
def tw223246379838310804:=0
def tw2257546659436239704:=0
def tw2773193555753107247:=0
def tw17675512218850783798:=0
def tw3978672545737747111:=0
def tw6457413325347334513:=0
def tw14483866050045938203:=0
def tw7762448278189282829:=0
def tw13348864353141998143:=0
def tw8241736416381989102:=0
def tw12499816181583967312:=0
def tw258528097054169270:=0
def tw286645622746997175:=0
def tw17984964691057029620:=0
def tw15287472062422570520:=0
def tw12670631801308046555:=0
def tw538199824045011098:=0
def tw3155702968049948774:=0
def tw18057580080779976576:=0
def tw9673197905670804630:=0
def tw12402733646888787014:=0
def tw5639728786764761188:=0
def tw16152398140668439983:=0
def tw337857712762945399:=0
def tw10584992400613166941:=0
def tw13272831402137569698:=0
def tw12016299064971555775:=0
def tw2146061669475213171:=0
def tw9348984998280917594:=0
def tw1984161916806762755:=0
def tw4428184103123208407:=0
def tw15683531646063152663:=0
def tw15498759217246410788:=0
def tw7389694081519929409:=0
def tw8179923403467660558:=0
def tw5722481190309833202:=0
def tw4336845974632710758:=0
def tw5791958648157080700:=0
def tw14954854313262088234:=0
def tw3040988226180618465:=0
def tw12660140690074068602:=0
def tw10360719950637233533:=0
def tw9385222902643648419:=0
def tw13081735906538808527:=0
def tw16869160561437774661:=0
def tw13370187251861067371:=0
def tw6998271311022976488:=0
def tw11819689334801201750:=0
def tw15009279266414091768:=0
def tw12583633517380096250:=0
def tw2140108205874656571:=0
def tw6267869258371239293:=0
def tw6327831615318553595:=0
def tw5222196500371064806:=0
def tw16558785509470403882:=0
def tw14242522028339231504:=0
def tw11517321742159558674:=0
def tw17613452297440776342:=0
def tw17281074116756757238:=0
def tw14528681525412308210:=0
def tw17879240959193317533:=0
def tw10441674255495114310:=0
def tw4011538165001913343:=0
def tw13557859516207842986:=0
def tw6366555958959873627:=0
def tw16947116740007371249:=0
def tw10311692198719768838:=0
def tw2671966953496766953:=0
def tw6631426835400401157:=0
def tw549309135286538518:=0
def tw9661580050277781925:=0
def tw8507361735336836057:=0
def tw8615147180646489048:=0
def tw913595144911196933:=0
def tw11907631626205098017:=0
def tw16333071139377761858:=0
def tw13681650361041789179:=0
def tw12822264743601693731:=0
def tw6193144054855093162:=0
def tw2447567817688938822:=0
def tw680392519022909952:=0
def tw8750412756306532476:=0
def tw5308032416757844987:=0
def tw11158508803550188611:=0
def tw6809670847512083807:=0
def tw6570267827165471992:=0
def tw3189626857874579066:=0
def tw15784808692739595271:=0
def tw1076518005404778001:=0
def tw1390422339012093889:=0
def tw14100250922047707430:=0
def tw14800280673342373538:=0
def tw7727632215896390738:=0
def tw16325928188492574206:=0
def tw12538762503889196300:=0
def tw3285209590049012513:=0
def tw18209381059420563134:=0
def tw16444209060257726644:=0
def tw9431098113172056688:=0
def tw7733702291852449028:=0
def tw17572786860379198047:=0
def tw1693560927587212307:=0
def tw18123600196013205405:=0
def tw13216407853765421491:=0
def tw8564678685636447200:=0
def tw4479488479708242951:=0
def tw1157230862765459660:=0
def tw4755301015313789484:=0
def tw12197209629289505684:=0
def tw10528682278403365224:=0
def tw1332644180288895129:=0
def tw16601671163251862107:=0
def tw1050300248050008744:=0
def tw2186775163422376565:=0
def tw10917082958482308166:=0
def tw15555932567805349869:=0
def tw12505801803245675177:=0
def tw3622609362637418830:=0
def tw17012670388230766008:=0
def tw10302063802890269340:=0
def tw13250871028436241940:=0
def tw15512118276150720793:=0
def tw16748715506454289743:=0
def tw12654156017311297444:=0
def tw18110670494582353316:=0
def tw326279162416143846:=0
def tw8021833179190468492:=0
def tw4172671555099951690:=0
def tw16567707769572875970:=0
def tw2561223880268940414:=0
def tw8240410523466705249:=0
def tw15089900760817439722:=0
def tw4325147282831133484:=0
def tw7975702083404275661:=0
def tw16131942927725460231:=0
def tw15168061148912858016:=0
def tw14812620706090365277:=0
def tw5822198772883417392:=0
def tw1991568696902075300:=0
def tw4568472716333214228:=0
def tw13340446228708474727:=0
def tw8389131838302084168:=0
def tw11506792177884206284:=0
def tw14350514707201888820:=0
def tw9126856107821537122:=0
def tw6185763874927083549:=0
def tw16275386809031396167:=0
def tw11800934830397983057:=0
def tw16442838322011733457:=0
def tw13412258020131678700:=0
def tw1245511199403590896:=0
def tw12497224335001425495:=0
def tw16826251765961562419:=0
def tw16762275754877761958:=0
def tw831542923350045042:=0
def tw17718918430504522282:=0
def tw12403090511899117330:=0
def tw12776860969996888344:=0
def tw4349920986876162964:=0
def tw14292157457047792568:=0
def tw7191484063635623585:=0
def tw18229374120937238993:=0
def tw11327283886643554949:=0
def tw13077157174326730269:=0
def tw7772286621499145455:=0
def tw12642322622970495339:=0
def tw7157633614499945767:=0
def tw8602256287259730707:=0
def tw6474883552733213092:=0
def tw5649281847142632499:=0
def tw3999601917369950530:=0
def tw3617030146748752934:=0
def tw17603351199797762407:=0
def tw16699161895968291245:=0
def tw2753918186123828767:=0
def tw10874723309851828526:=0
def tw12745311066322435962:=0
def tw13005669995579031204:=0
def tw12082480864864120264:=0
def tw3070379641997944388:=0
def tw8444608884571080147:=0
def tw6930704318799427918:=0
def tw10004751633452639834:=0
def tw15489905662021501741:=0
def tw1960991242803121094:=0
def tw2099216598284336010:=0
def tw17691165101746185901:=0
def tw4757454996850636618:=0
def tw16019176026265367178:=0
def tw9078279408830704502:=0
def tw8157148620990543267:=0
def tw6559625689384681261:=0
def tw13690850171734866764:=0
def tw9832867413718957153:=0
def tw2404457880228683091:=0
def tw5161189874699996155:=0
def tw11987449382301605476:=0
def tw3934567885951901067:=0
def tw12096289032725437657:=0
def tw6833201298447433660:=0
def tw16095339081224899017:=0
def tw9093248706735355843:=0
def tw3879936244541515162:=0
def tw5529808056028158256:=0
def tw3672047624415937588:=0
def tw6750488962193921394:=0
def tw12218816154006363986:=0
def tw11630303995317293558:=0
def tw10988826039228123801:=0
def tw9732751417680134832:=0
def tw3726173057559182728:=0
def tw4093257970368903960:=0
def tw10438604155638502262:=0
def tw10269798818931850110:=0
def tw560260519005308198:=0
def tw465153944338917723:=0
def tw17012008339646161757:=0
def tw12749426340736563198:=0
def tw12488616024619168612:=0
def tw12153507760056132402:=0
def tw7653138174143355548:=0
def tw733276070917582608:=0
def tw6691937375046476921:=0
def tw638147357894721104:=0
def tw5869409457885861780:=0
def tw2477337356507090247:=0
def tw4011385925567576889:=0
def tw8267383646047369929:=0
def tw15562533605252078073:=0
def tw131012779971112477:=0
def tw4468018157982697535:=0
def tw7777519882932138704:=0
def tw10822444217160303694:=0
def tw4891520266194287655:=0
def tw1565526007941986298:=0
def tw11032241862850791189:=0
def tw3214806043198826918:=0
def tw8341927708062188698:=0
def tw7874385686487766426:=0
def tw2011396950713995561:=0
def tw9919463247934268993:=0
def tw9033306988814828997:=0
def tw11272344735475323529:=0
def tw7675082312459280378:=0
def tw1632813103457346166:=0
def tw1355278601621585039:=0
def tw4110831962008898678:=0
def tw3858567656899756681:=0
def tw16558482119690410627:=0
def tw12687464380617836825:=0
def tw12595942351084480008:=0
def tw8684442187772211088:=0
def tw5584384594060363052:=0
def tw13764445350393822925:=0
def tw12505841295101405059:=0
def tw15328647355068478932:=0
def tw9292828980804102620:=0
def tw4706903303548894946:=0
def tw8991759301998442307:=0
def tw8426179910613550092:=0
def tw8228473958296524811:=0
def tw13721095943163680265:=0
def tw11767453824166211687:=0
def tw11323176898971665610:=0
def tw3093890357843896403:=0
def tw2554566686869056839:=0
def tw2174325017236893404:=0
def tw1333055200781272639:=0
def tw5852056425713782739:=0
def tw3175581009993061219:=0
def tw1754156683921306346:=0
def tw1176945722411705819:=0
def tw7370416411640038615:=0
def tw8507304901679498659:=0
def tw819561415315559771:=0
def tw6458506917470131677:=0
def tw4135866818275439682:=0
def tw7363547029809327925:=0
def tw333687709563509730:=0
def tw9251388936714979121:=0
def tw9040985675428125818:=0
def tw4907868956622825733:=0
def tw2067919250810780751:=0
def tw1764232671766602116:=0
def tw17214435939161809145:=0
def tw11491524551280213080:=0
def tw11485307245050194453:=0
def tw6637095158518463970:=0
def tw17987830877694640788:=0
def tw13770843419843617223:=0
def tw680972263593179940:=0
def tw14938368889951864236:=0
def tw14133456430374200505:=0
def tw7446188024428977401:=0
def tw5372967671051442057:=0
def tw7980007282324031600:=0
def tw15635628744536978911:=0
def tw4306167457966539513:=0
def tw10529485766288976057:=0
def tw13456432787978191657:=0
def tw6672623851265089842:=0
def tw6064614783962887304:=0
def tw10752946631497138912:=0
def tw6354806982304953440:=0
def tw1208283540554167690:=0
def tw16531078783798431358:=0
def tw15267106654606740500:=0
def tw10626802103229590877:=0
def tw3257419659602084355:=0
def tw14762482714589018263:=0
def tw10864679676811677460:=0
def tw18181248167807258729:=0
def tw15227930324991936211:=0
def tw6749046695175699958:=0
def tw12192838690616616286:=0
def tw5633437946366496469:=0
def tw17082580846578723131:=0
def tw16983921437800125531:=0
def tw6738707714891327175:=0
def tw5191965944690267507:=0
def tw13052680294643301392:=0
def tw11460880433853075729:=0
def tw7466487217003024744:=0
def tw5782817859666486281:=0
def tw17623938878168556238:=0
def tw15087971480444720815:=0
def tw9865013073658369444:=0
def tw8961662948266883025:=0
def tw15539293183367834817:=0
def tw10424158428642407225:=0
def tw12763907588059629998:=0
def tw8223061738224587059:=0
def tw8367123139306012454:=0
def tw6023674212213087226:=0
def tw7893104601051540645:=0
def tw8273117305900297081:=0
def tw14331793016380754070:=0
def tw7010898265955521372:=0
def tw15510741553626425143:=0
def tw11484209110408357934:=0
def tw9631290200934443621:=0
def tw9446427603336437830:=0
def tw5545265246579176061:=0
def tw16819952598206335615:=0
def tw7694704978977311176:=0
def tw15879965000375805971:=0
def tw12095999818120155611:=0
def tw9503784905577207207:=0
def tw853975398298452114:=0
def tw16244021171646372077:=0
def tw15632160518045199576:=0
def tw13529991431477875346:=0
def tw7676882280205042915:=0
def tw7544824954048473166:=0
def tw6187175754563188781:=0
def tw4437239750860174829:=0
def tw2749646000438977472:=0
def tw16766934964943101174:=0
def tw15350423950311830312:=0
def tw14192705117540597782:=0
def tw13486366263100034730:=0
def tw11363750227604921864:=0
def tw660521728752025476:=0
def tw3864574077270149134:=0
def tw11779807772393881453:=0
def tw8581105448960594435:=0
def tw6373645884960391229:=0
def tw5867947788320397728:=0
def tw4880472910251217796:=0
def tw4079205860650609335:=0
def tw2965324131319062456:=0
def tw15799938257938606173:=0
def tw13559812458740857427:=0
def tw2949433893746613138:=0
def tw14666227392281196169:=0
def tw13596201815760984696:=0
def tw10165699961103839771:=0
def tw11594994916845320134:=0
def tw17013035488062648252:=0
def tw9354298750546357584:=0
def tw6844952413168745769:=0
def tw6715066279251548304:=0
def tw2454683576547491637:=0
def tw14232923197510376056:=0
def tw10996036939647648356:=0
def tw10576549322153536218:=0
def tw2165158491357500980:=0
def tw12290606262759312573:=0
def tw13057659106961929897:=0
def tw5874045994413332210:=0
def tw7991754079593340739:=0
def tw7070830652071427911:=0
def tw4492849980777798414:=0
def tw3355245764875105119:=0
def tw2228753617246389309:=0
def tw18265961673019929248:=0
def tw15357916610504624883:=0
def tw15276671159594758686:=0
def tw14486166505689264167:=0
def tw14212790518764112373:=0
def tw13525878914771678310:=0
def tw12521802787970625395:=0
def tw12443135814810642479:=0
def tw10140805412494059008:=0
def tw7295433324326279590:=0
def tw7106519138771683375:=0
def tw6692689481631113832:=0
def tw5127269930385432196:=0
def tw4962042388007787502:=0
def tw4471698218183943982:=0
def tw17085030743757604725:=0
def tw16259083239220576440:=0
def tw14452909112421202979:=0
def tw13888426581538988538:=0
def tw11523898643595613818:=0
def tw10555689811102681480:=0
def tw2265242208283867974:=0
def tw9884460739157157219:=0
def tw9546056327492047196:=0
def tw9033592701414552559:=0
def tw7414728090312928365:=0
def tw5580124957823431683:=0
def tw14462195222568921181:=0
def tw14200292858919316097:=0
def tw13919704149129187039:=0
def tw1357826739921533480:=0
def tw8714572614754956070:=0
def tw8356951378696848534:=0
def tw546289765855493899:=0
def tw4981137688031750155:=0
def tw423606560078334651:=0
def tw4077005683738201452:=0
def tw326276981711805408:=0
def tw15967598103508002954:=0
def tw15703224437455697751:=0
def tw13759729310473602365:=0
def tw11746856934564950475:=0
def tw10027339125744583419:=0
def tw9999554967716845974:=0
def tw9977356129398952543:=0
def tw9803240592667467493:=0
def tw9780768830048147638:=0
def tw9733206648767890671:=0
def tw9568676801577651301:=0
def tw9456215598509430223:=0
def tw9278616804754995265:=0
def tw9197543922109485791:=0
def tw8778158268313013120:=0
def tw8748944387464763868:=0
def tw8616732210052840851:=0
def tw8563755639688738800:=0
def tw8518811886956329912:=0
def tw8162051607434781666:=0
def tw8002027455701837522:=0
def tw7967549869095627451:=0
def tw7943895898283326646:=0
def tw7859568407751142636:=0
def tw7813123268330855780:=0
def tw7564624303416728808:=0
def tw7546193788512422464:=0
def tw7468778599714775248:=0
def tw745789635363283978:=0
def tw7329854214086842906:=0
def tw7277010435240462062:=0
def tw7268705149246591713:=0
def tw6991094463774445113:=0
def tw6988216131789733202:=0
def tw6972864043623061857:=0
def tw6893443620180718338:=0
def tw6845461227941332377:=0
def tw6723153270295501011:=0
def tw6664377204615971955:=0
def tw6408010563874585635:=0
def tw6251644567758720507:=0
def tw6178357296119877736:=0
def tw6166675782534521876:=0
def tw6152124143137990232:=0
def tw6079544363623864138:=0
def tw6051950441290719061:=0
def tw5974096131464550764:=0
def tw5672695265732861817:=0
def tw5599546395787984651:=0
def tw5437998861454287532:=0
def tw5336667574415351941:=0
def tw530250626188350594:=0
def tw5128258298632804742:=0
def tw5120194207945582717:=0
def tw5009603101514934930:=0
def tw5004973130786430363:=0
def tw4999261438939015043:=0
def tw4896303006967551682:=0
def tw4871633778126290353:=0
def tw4865022687674131437:=0
def tw483749044398665136:=0
def tw4813744338144683134:=0
def tw4674166885377069620:=0
def tw4648239382414513809:=0
def tw460485466111887264:=0
def tw4511221069400571247:=0
def tw4275996929643468431:=0
def tw4031607194503663993:=0
def tw3861500074339119576:=0
def tw3690889224998107077:=0
def tw3479608058900640124:=0
def tw3436790754256748946:=0
def tw3343065914658806349:=0
def tw3277996204199912815:=0
def tw3126733012293097342:=0
def tw3010119193085950260:=0
def tw3004356758669487853:=0
def tw2965070189127271481:=0
def tw2947804899813052974:=0
def tw2832095966011066571:=0
def tw2675341754926607669:=0
def tw2590982108492329489:=0
def tw2453341802879140098:=0
def tw2402954251363429768:=0
def tw2255216465756506793:=0
def tw2118878359220039380:=0
def tw2111617043131298646:=0
def tw2110620275040547419:=0
def tw2022112480650328268:=0
def tw1833469588285449378:=0
def tw18233417751934838709:=0
def tw18166317671554709037:=0
def tw18145067564615196413:=0
def tw18087553665750315633:=0
def tw18082429371496573045:=0
def tw17973741137264906824:=0
def tw17785613176545198101:=0
def tw17225393111138446466:=0
def tw17026463904889476830:=0
def tw16963360375103163722:=0
def tw16916538446246803789:=0
def tw16909110089028811019:=0
def tw16620723081451848237:=0
def tw16582740896511534479:=0
def tw16448701560831992290:=0
def tw16448593244219497119:=0
def tw16417260125571964183:=0
def tw16400146780281011194:=0
def tw16397047941078264249:=0
def tw163413939580035419:=0
def tw16330783666601414268:=0
def tw16287262755698187320:=0
def tw15754425804745362104:=0
def tw15735159491298056698:=0
def tw15539943135426530464:=0
def tw15472909935115410971:=0
def tw15429615390745017328:=0
def tw15375999310804791262:=0
def tw15322539104705198614:=0
def tw15213351638787294188:=0
def tw1500752351244052586:=0
def tw14998107890655588504:=0
def tw14978920302619270124:=0
def tw14914703161815230498:=0
def tw14784942279174879339:=0
def tw14706616854076510065:=0
def tw14617646908608473328:=0
def tw14566463641981614807:=0
def tw14545614179831375853:=0
def tw14511056397542391666:=0
def tw14433412154795830581:=0
def tw14405590371738622032:=0
def tw14243427663169093778:=0
def tw14099998779169248730:=0
def tw14021596213419923916:=0
def tw13893508791938222088:=0
def tw13698484642977387587:=0
def tw1367660474163243609:=0
end PySem.W.Fast
set_option maxRecDepth 100000 in
set_option maxHeartbeats 0 in
theorem PySem.Challenge.cw_shardask_k66_town_told_stays_holds : PySem.Challenge.rw_shardask_k66_town_told_stays.Holds := by
 w_on;o_law;k_head;(case hw=>w_witness2)
 k_fill
 refine My.aP5 (l:=PySem.Challenge.rw_shardask_k66_town_told_stays) (n:=63) (k:=15) (x:="_law_script") (CX:=L2.CX0) (sp:=fun K=>My.aOu K 278) rfl (by decide) rfl ⟨rfl,by decide,by decide⟩ [(278,My.qC)] (by decide) (fun w h Y=>⟨PySem.W.km_in_of Y,My.aWu (PySem.W.km_tabs_of Y)⟩) ?C ?F (fun K H a ns hl hO hS=>My.aSh hl hO hS) (fun _ _ _ _ z=>z)
 case C=>
  intro w
  refine' My.aX2 ?a ?l ?e1 ?e2 ?h ?n
  (case a=>k_is)
  (case l=>k_is)
  (case e1=>rfl)
  (case e2=>rfl)
  (case h=>first|k_is|kernel_rfl|decide +kernel)
  (case n=>first|k_is|kernel_rfl|decide +kernel)
 case F=>
  intro w mg fa h KX G hmg
  have T:My.Txt w (L2.KOf KX) mg:=by
   dsimp only [L2.KOf]
   apply My.Txt.mk
   iterate 17 (refine' mg_none_of KX G ?_;k_is)
   (refine' My.aYz KX G ?gq ?gr ?gt ?gy ?gu ?gv ?gs;(case gq=>k_is);(case gr=>k_is);(case gt=>rfl);(case gy=>rfl);(case gu=>rfl);(case gv=>repeat (first|exact L2.aBf|refine L2.mX rfl ?_|refine L2.mX ⟨_,rfl⟩ ?_));(case gs=>decide))
   (refine' My.aYy KX G ?gq ?gr;(case gq=>k_is);(case gr=>exact ⟨_,rfl⟩))
   (refine' My.aYz KX G ?gq ?gr ?gt ?gy ?gu ?gv ?gs;(case gq=>k_is);(case gr=>k_is);(case gt=>rfl);(case gy=>rfl);(case gu=>rfl);(case gv=>repeat (first|exact L2.aBf|refine L2.mX rfl ?_|refine L2.mX ⟨_,rfl⟩ ?_));(case gs=>decide))
   iterate 5 (refine' My.aYy KX G ?gq ?gr;(case gq=>k_is);(case gr=>exact ⟨_,rfl⟩))
   (refine' My.bDk KX G (s:=My.qK) (My.FA.mk ?vj ?vl ?vc ?vk);(case vj=>k_is);(case vl=>k_is);(case vc=>k_is);(case vk=>k_is))
   iterate 49 (refine' My.bCp KX G (My.FA.mk ?fj ?fl ?fc ?fk) ?fb;(case fj=>k_is);(case fl=>k_is);(case fc=>k_is);(case fk=>k_is);(case fb=>first|exact fun _ _ _ _ _ _=>My.ln1 fun _=>rfl|exact fun _ _ _ _ _ _=>My.ln2 fun _ _=>rfl|exact fun _ _ _ _ _ _=>My.ln3 fun _ _ _=>rfl|exact fun _ _ _ _ _ _=>My.ln4 fun _ _ _ _=>rfl|exact fun _ _ _ _ _ _=>My.ln5 fun _ _ _ _ _=>rfl|exact fun _ _ _ _ _ _=>My.ln6 fun _ _ _ _ _ _=>rfl|exact fun _ _ _ _ _ _=>My.ln0 rfl))
   iterate 2 (refine' My.bDi KX G (My.CA.mk ?cj ?c1 ?c2 ?c3 ?c4 ?c5 ?c6) ?cr;(case cj=>k_is);(case c1=>first|k_is|kernel_rfl|decide +kernel);(case c2=>first|k_is|kernel_rfl|decide +kernel);(case c3=>first|k_is|kernel_rfl|decide +kernel);(case c4=>first|k_is|kernel_rfl|decide +kernel);(case c5=>first|k_is|kernel_rfl|decide +kernel);(case c6=>first|k_is|kernel_rfl|decide +kernel);(case cr=>(repeat (refine' ⟨My.bDg (My.MA.mk ?mj ?mi ?ml ?mc ?mk) ?mb,?_⟩;(case mj=>k_is);(case mi=>first|k_is|kernel_rfl|decide +kernel);(case ml=>k_is);(case mc=>k_is);(case mk=>k_is);(case mb=>first|exact fun _ _ _ _ _ _=>My.ln1 fun _=>rfl|exact fun _ _ _ _ _ _=>My.ln2 fun _ _=>rfl|exact fun _ _ _ _ _ _=>My.ln3 fun _ _ _=>rfl|exact fun _ _ _ _ _ _=>My.ln4 fun _ _ _ _=>rfl|exact fun _ _ _ _ _ _=>My.ln5 fun _ _ _ _ _=>rfl|exact fun _ _ _ _ _ _=>My.ln6 fun _ _ _ _ _ _=>rfl|exact fun _ _ _ _ _ _=>My.ln0 rfl)));unfold L2.bR;(repeat (refine' ⟨?ma,?_⟩;(case ma=>k_is)));k_is))
  have C:L2.aTk (L2.KOf KX) mg "are_cuts" 278:=by
   dsimp only [L2.KOf]
   refine' My.bA0 KX G ?a ?l ?e1 ?e2 ?h
   (case a=>k_is)
   (case l=>k_is)
   (case e1=>rfl)
   (case e2=>rfl)
   (case h=>first|k_is|kernel_rfl|decide +kernel)
  exact My.bBa (P:=PySem.Challenge.rw_shardask_k66_town_told_stays.prog) T C hmg
